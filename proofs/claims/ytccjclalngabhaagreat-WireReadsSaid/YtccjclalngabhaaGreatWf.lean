/-
 wire: messages of bytes.
-/
import Derived.Test.YtccjclalngabhaaGreatWe
namespace Go.Proofs.YtccjclalngabhaaGreat
set_option maxRecDepth 100000
open Go.RowKit
set_option linter.unusedVariables false
set_option linter.unusedSectionVars false
set_option linter.unusedSimpArgs false
def dD (g:Int):Nat→List aB→Nat→List UInt8→Int→(List aB) × (List UInt8) × Int
  | 0,c,e,d,a=>default
  | f+1,c,e,d,a=>if((e:Nat):Int) < g then if a=0 then bnd (jW (ReaderT.mk (Ll.mk d) a)) fun b=>dD g f (c++ [b.1]) (e+1) b.2.ag.ls b.2.az else(c,d,a) else(c,d,a)
def ji (a:ReaderT) (b:Int):(List aB) × ReaderT:=
 bnd (bnd (dD b ((Int.toNat b - 0)+1) ([]) 0 a.ag.ls a.az) fun sLrJjL=>(sLrJjL.1,sLrJjL.2.1,sLrJjL.2.2)) fun sJrJ=>(sJrJ.1,ReaderT.mk (Ll.mk sJrJ.2.1) sJrJ.2.2)
theorem nQ (w:World) (D:Nat→Prop) (u:Nat) (a:ReaderT) (b:Option Addr) (c:Nat) (d:Int) (V:List aB) (r1:ReaderT) (H:Own w D w [blk u [.slice b a.ag.ls.length c, .int .i64 a.az] 120]) (S:Ro w D fun w'=>bD w' 1 b a.ag.ls.length (List.flatMap eB a.ag.ls)) (aD:a.ag.ls.length≤c∧a.ag.ls.length≤9223372036854775807) (bu:d≤1000) (hr:ji a d=(V,r1)):
    Calls Tryz.prog 110 #[.pointer (some ⟨u,0,none⟩), .int .i64 d, .func (.func 83) #[] #[]] w (cO fun v w'=> ∃ (B0:Option Addr) (b0:Nat) (B1ox0:Option Addr) (b1ox0:Nat),v= .slice B0 V.length b0∧Own w D w' [row B0 V.length b0 (List.flatMap aB.cells V) 64 6,blk u [.slice B1ox0 r1.ag.ls.length b1ox0, .int .i64 r1.az] 120]∧(aj 1 b c a.ag.ls B1ox0 b1ox0 r1.ag.ls)∧(V.length≤1000)):=by
 refine yR (args:= [.pointer (some ⟨u,0,none⟩), .int .i64 d, .func (.func 83) #[] #[]]) Tryz.func110 rfl rfl rfl ?_
 show Wp _ _ _ [(0, .pointer (some ⟨u,0,none⟩)),(1, .int .i64 d),(2, .func (.func 83) #[] #[])] _ _
 refine sr (Ar rfl (An rfl (yJ (sr (An rfl ?_)))))
 obtain⟨W,X⟩:∃ q:((Option Addr) × Nat × (List aB) × (Option Addr) × Nat × (List UInt8) × Int)→World→Prop,q=fun(i:(Option Addr) × Nat × (List aB) × (Option Addr) × Nat × (List UInt8) × Int) w'=>Own w D w' [blk u [.slice i.2.2.2.1 i.2.2.2.2.2.1.length i.2.2.2.2.1, .int .i64 i.2.2.2.2.2.2] 120,row i.1 i.2.2.1.length i.2.1 (List.flatMap aB.cells i.2.2.1) 64 6]∧(aj 1 b c a.ag.ls i.2.2.2.1 i.2.2.2.2.1 i.2.2.2.2.2.1∧0≤i.2.2.1.length∧i.2.2.2.2.2.1.length≤a.ag.ls.length∧i.2.2.2.2.2.1.length≤a.ag.ls.length+1∧i.2.2.1.length≤1000∧(bnd (dD d ((Int.toNat d - 0)+1) ([]) 0 a.ag.ls a.az) fun sLrJjL=>(sLrJjL.1,sLrJjL.2.1,sLrJjL.2.2))=(i.2.2.1,i.2.2.2.2.2.1,i.2.2.2.2.2.2)):=⟨_,rfl⟩
 have E:∀ {F:Option Addr} {G:Nat} {n:List aB} {I:Option Addr} {J:Nat} {p:List UInt8} {K:Int} {w':World},W (F,G,n,I,J,p,K) w'↔Own w D w' [blk u [.slice I p.length J, .int .i64 K] 120,row F n.length G (List.flatMap aB.cells n) 64 6]∧aj 1 b c a.ag.ls I J p∧0≤n.length∧p.length≤a.ag.ls.length∧p.length≤a.ag.ls.length+1∧n.length≤1000∧(bnd (dD d ((Int.toNat d - 0)+1) ([]) 0 a.ag.ls a.az) fun sLrJjL=>(sLrJjL.1,sLrJjL.2.1,sLrJjL.2.2))=(n,p,K):=by intros; subst X; exact Iff.rfl
 refine zD (fun i:(Option Addr) × Nat × (List aB) × (Option Addr) × Nat × (List UInt8) × Int=> [(7, .slice i.1 i.2.2.1.length i.2.1),(6, .slice none 0 0)]) W ?_ ?_
 refine bo ?_
 have aF:Own w D w [row none 0 0 (List.flatMap aB.cells ([])) 64 6,blk u [.slice b a.ag.ls.length c, .int .i64 a.az] 120]:=H.free (bP 64 6)
 have aG:=aF.pk [1,0]
 obtain⟨Y,Z⟩:∃ q:((Option Addr) × Nat × (List aB) × Nat × (Option Addr) × Nat × (List UInt8) × Int × Nat)→World→Prop,q=fun(i:(Option Addr) × Nat × (List aB) × Nat × (Option Addr) × Nat × (List UInt8) × Int × Nat) w'=>Own w D w' [blk u [.slice i.2.2.2.2.1 i.2.2.2.2.2.2.1.length i.2.2.2.2.2.1, .int .i64 i.2.2.2.2.2.2.2.1] 120,row i.1 i.2.2.1.length i.2.1 (List.flatMap aB.cells i.2.2.1) 64 6]∧(aj 1 b c a.ag.ls i.2.2.2.2.1 i.2.2.2.2.2.1 i.2.2.2.2.2.2.1∧i.2.2.1.length≤i.2.2.2.1∧(i.2.2.2.1=0∨((i.2.2.2.1:Nat):Int)≤d)∧Int.toNat d - i.2.2.2.1 < i.2.2.2.2.2.2.2.2∧dD d ((Int.toNat d - 0)+1) ([]) 0 a.ag.ls a.az=dD d i.2.2.2.2.2.2.2.2 i.2.2.1 i.2.2.2.1 i.2.2.2.2.2.2.1 i.2.2.2.2.2.2.2.1):=⟨_,rfl⟩
 have L:∀ {A:Option Addr} {B:Nat} {g:List aB} {h:Nat} {r:Option Addr} {o:Nat} {j:List UInt8} {l:Int} {C:Nat} {w':World},Y (A,B,g,h,r,o,j,l,C) w'↔Own w D w' [blk u [.slice r j.length o, .int .i64 l] 120,row A g.length B (List.flatMap aB.cells g) 64 6]∧aj 1 b c a.ag.ls r o j∧g.length≤h∧(h=0∨((h:Nat):Int)≤d)∧Int.toNat d - h < C∧dD d ((Int.toNat d - 0)+1) ([]) 0 a.ag.ls a.az=dD d C g h j l:=by intros; subst Z; exact Iff.rfl
 refine Wp.loop (fun i:(Option Addr) × Nat × (List aB) × Nat × (Option Addr) × Nat × (List UInt8) × Int × Nat=> [(7, .slice i.1 i.2.2.1.length i.2.1),(8, .int .i64 ((i.2.2.2.1:Nat):Int)),(6, .slice none 0 0),(0, .pointer (some ⟨u,0,none⟩)),(1, .int .i64 d),(2, .func (.func 83) #[] #[])]) Y (fun i=>i.2.2.2.2.2.2.2.2) (none,0, [],0,b,c,a.ag.ls,a.az,(Int.toNat d - 0)+1) ⟨rfl,rfl,rfl,rfl,rfl,rfl,trivial⟩ (L.2 ⟨aG,(show aj 1 b c a.ag.ls b c a.ag.ls∧0≤0∧(0=0∨((0:Nat):Int)≤d)∧Int.toNat d - 0 < ((Int.toNat d - 0)+1)∧dD d ((Int.toNat d - 0)+1) ([]) 0 a.ag.ls a.az=dD d ((Int.toNat d - 0)+1) ([]) 0 a.ag.ls a.az from ⟨by exact(aj.refl (by omega)),by omega,by omega,by omega,rfl⟩)⟩) ?_
 rintro ⟨A,B,g,h,r,o,j,l,C⟩ bv ae
 show Wp _ _ _ [(7, .slice A g.length B),(8, .int .i64 ((h:Nat):Int)),(6, .slice none 0 0),(0, .pointer (some ⟨u,0,none⟩)),(1, .int .i64 d),(2, .func (.func 83) #[] #[])] _ _
 obtain⟨N,t,aT,aU,aV,M⟩:=L.1 ae
 have aW:=(t).le
 obtain⟨T,af⟩:∃ q,C=q+1:=⟨C - 1,by omega⟩
 subst af
 refine yJ (sr (Mz rfl (Mz rfl (Kz (.bool (decide (((h:Nat):Int) < d))) (Mz rfl ?_)))))
 by_cases f:((h:Nat):Int) < d
 refine gw (.pointer (some ⟨u,0,none⟩)) (dT f) (yO rfl) (Gz (.pointer (some ⟨u,0,none⟩)) (dT f) (Gz (.pointer (some ⟨u,1,none⟩)) (dT f) (Gl (.int .i64 l) (dT f) N 0 Tryz.isAgg32 (Gz (.bool (decide (l=0))) (dT f) (fw (.bool (decide (l=0))) (yN rfl (dT f) rfl) (nt ?_))))))
 by_cases O:l=0
 refine jT (dT O) (sk (yJ (bo (yK (Mz rfl (Mz rfl (Mz rfl ?_)))))))
 obtain⟨⟨x,P⟩,Q⟩:∃ q:aB × ReaderT,jW (ReaderT.mk (Ll.mk j) l)=q:=⟨_,rfl⟩
 obtain⟨bz,ag,ah,ai,aX⟩:=yT N
 refine WL.do rfl (zB Tryz.call83 rfl rfl (qV _ _ u (ReaderT.mk (Ll.mk j) l) r o x P ag (fun w9 h9=>aj.rds ay (by decide) t ((ah _ S) w9 h9)) (show j.length≤o∧j.length≤9223372036854775807 from by omega) Q) ?_)
 rintro _ bC ⟨ak,au,rfl,av,z⟩
 have aH:=ai _ _ av
 replace z:aj 1 r o j ak au P.ag.ls:=z
 have aY:=(z).le
 refine iX (aB.cells x) 64 6 1 aH ?_
 intro aI bE U
 replace U:=zi (y:=row aI 1 1 (List.flatMap aB.cells ([x])) 64 6) rfl U
 have ax:=U.pk [2,0,1]
 refine WL.do rfl (ze (k:=g.length) (m:=1) (l8) ax rfl rfl (cz Tryz.underlying25 (ax.rds (i:=1) rfl) (bK aB.one ([x]))) rfl (by omega) (s:=List.length (g++ [x])) (by first | omega | (simp only [List.length_append,List.length_cons,List.length_nil] <;> omega)) (List.flatMap_append).symm ?_)
 intro aJ aK bF aL
 have aZ:List.length (g++ [x])=g.length+1:=by simp only [List.length_append,List.length_cons,List.length_nil]
 refine Az rfl (WL.nil (bN (yL (yK (Mz rfl (fw (.int .i64 ((h+1:Nat):Int)) (yS (e:=IntKind.i64.wrap (((h:Nat):Int)+1)) yk (by rw [BI _ (by omega)]; omega)) (Az rfl (WL.nil ?_))))))))
 have aM:=aL.pk [2,0]
 exact yY (aJ,aK,(g++ [x]),h+1,ak,au,P.ag.ls,P.az,T) ⟨rfl,rfl,rfl,rfl,rfl,rfl,trivial⟩ (L.2 ⟨aM,by exact(aj.trans t z),by omega,by omega,by omega,et (M) (et (ip f) (et (ip O) (aa Q)))⟩) (by show T < T+1; omega)
 refine jF (dF O) (Wp.exit (yV (yV (y8 ?_))))
 have aN:=N.pk [0,1]
 exact zu (A,B,g,r,o,j,l) ⟨rfl,rfl,trivial⟩ (E.2 ⟨aN,by exact t,by omega,by omega,by omega,by omega,aa (et (M) (et (ip f) (iN O)))⟩)
 refine Sz (dF f) (Sz (dF f) (Sz (dF f) (Sz (dF f) (Sz (dF f) (fw (.bool false) (yM rfl (dF f) rfl) (nt (jf (Wp.exit (yV (yV (y8 ?_)))))))))))
 have aO:=N.pk [0,1]
 exact zu (A,B,g,r,o,j,l) ⟨rfl,rfl,trivial⟩ (E.2 ⟨aO,by exact t,by omega,by omega,by omega,by omega,aa (et (M) (iN f))⟩)
 rintro ⟨F,G,n,I,J,p,K⟩ bG az
 show Wp _ _ _ [(7, .slice F n.length G),(6, .slice none 0 0)] _ _
 obtain⟨aP,R,bf,bg,bi,bn,aA⟩:=E.1 az
 have bq:=(R).le
 refine sr (Mz rfl (An rfl (rt (rs ?_))))
 have aQ:=aP.pk [1,0]
 have e:ji a d=(n,ReaderT.mk (Ll.mk p) K):=aa aA
 obtain⟨rfl,rfl⟩:=dN (e.symm.trans hr)
 exact⟨F,G,I,J,rfl,aQ,R,(by omega)⟩
def fQ (c:ReaderT) (d:Nat):(List aB) × ReaderT:=
 bnd (aI c d) fun a=>bnd (ji a.2 ((a.1:Nat):Int)) fun b=>(b.1,b.2)
theorem og (w:World) (D:Nat→Prop) (r:Nat) (f:ReaderT) (b:Option Addr) (a:Nat) (k:Nat) (x:List aB) (L:ReaderT) (H:Own w D w [blk r [.slice b f.ag.ls.length a, .int .i64 f.az] 120]) (j:Ro w D fun w'=>bD w' 1 b f.ag.ls.length (List.flatMap eB f.ag.ls)) (M:f.ag.ls.length≤a∧f.ag.ls.length≤9223372036854775807) (Y:k≤1000) (hr:fQ f k=(x,L)):
    Calls Tryz.prog 82 #[.pointer (some ⟨r,0,none⟩), .int .u64 ((k:Nat):Int), .func (.func 83) #[] #[]] w (cO fun v w'=> ∃ (R:Option Addr) (S:Nat) (B1ox0:Option Addr) (b1ox0:Nat),v= .slice R x.length S∧Own w D w' [row R x.length S (List.flatMap aB.cells x) 64 6,blk r [.slice B1ox0 L.ag.ls.length b1ox0, .int .i64 L.az] 120]∧(aj 1 b a f.ag.ls B1ox0 b1ox0 L.ag.ls)∧(x.length≤1000)):=by
 refine yR (args:= [.pointer (some ⟨r,0,none⟩), .int .u64 ((k:Nat):Int), .func (.func 83) #[] #[]]) Tryz.func82 rfl rfl rfl ?_
 show Wp _ _ _ [(0, .pointer (some ⟨r,0,none⟩)),(1, .int .u64 ((k:Nat):Int)),(2, .func (.func 83) #[] #[])] _ _
 refine sr (Ar rfl (Mz rfl (Mz rfl (Mz rfl ?_))))
 obtain⟨⟨h,d⟩,m⟩:∃ q:Nat × ReaderT,aI f k=q:=⟨_,rfl⟩
 obtain⟨Z,y,z,A,T⟩:=yT H
 refine cl Tryz.call79 (dS _ _ r f b a k h d y (z _ j) (show f.ag.ls.length≤a∧f.ag.ls.length≤9223372036854775807 from by omega) m) ?_
 rintro _ ae ⟨s,l,rfl,B,c,n⟩
 have N:=A _ _ B
 replace c:aj 1 b a f.ag.ls s l d.ag.ls:=c
 have U:=(c).le
 replace n:h≤k:=n
 refine fw (.int .i64 ((h:Nat):Int)) (yS (e:=IntKind.i64.wrap ((h:Nat):Int)) yk (BI _ (by omega))) (Mz rfl ?_)
 obtain⟨⟨t,u⟩,o⟩:∃ q:(List aB) × ReaderT,ji d ((h:Nat):Int)=q:=⟨_,rfl⟩
 obtain⟨af,C,E,F,V⟩:=yT N
 refine cl Tryz.call110 (nQ _ _ r d s l ((h:Nat):Int) t u C (fun w9 h9=>aj.rds ay (by decide) c ((E _ j) w9 h9)) (show d.ag.ls.length≤l∧d.ag.ls.length≤9223372036854775807 from by omega) (by omega) o) ?_
 rintro _ ai ⟨O,P,G,I,rfl,J,g,p⟩
 have K:=F _ _ J
 replace g:aj 1 s l d.ag.ls G I u.ag.ls:=g
 have W:=(g).le
 have X:=K.rowC (i:=0) rfl
 replace p:t.length≤1000:=p
 refine An rfl (rt (rs ?_))
 have Q:=K.pk [0,1]
 have e:fQ f k=(t,u):=et (aa m) (aa o)
 obtain⟨rfl,rfl⟩:=dN (e.symm.trans hr)
 exact⟨O,P,G,I,rfl,Q,(aj.trans c g),(by omega)⟩
def bZ (g:Int):Nat→List aP→Nat→List UInt8→Int→(List aP) × (List UInt8) × Int
  | 0,c,e,d,a=>default
  | f+1,c,e,d,a=>if((e:Nat):Int) < g then if a=0 then bnd (ja (ReaderT.mk (Ll.mk d) a)) fun b=>bZ g f (c++ [b.1]) (e+1) b.2.ag.ls b.2.az else(c,d,a) else(c,d,a)
def iF (a:ReaderT) (b:Int):(List aP) × ReaderT:=
 bnd (bnd (bZ b ((Int.toNat b - 0)+1) ([]) 0 a.ag.ls a.az) fun sLrJjL=>(sLrJjL.1,sLrJjL.2.1,sLrJjL.2.2)) fun sJrJ=>(sJrJ.1,ReaderT.mk (Ll.mk sJrJ.2.1) sJrJ.2.2)
theorem mH (w:World) (D:Nat→Prop) (z:Nat) (d:ReaderT) (b:Option Addr) (c:Nat) (g:Int) (r0:List aP) (r1:ReaderT) (H:Own w D w [blk z [.slice b d.ag.ls.length c, .int .i64 d.az] 120]) (Z:Ro w D fun w'=>bD w' 1 b d.ag.ls.length (List.flatMap eB d.ag.ls)) (aS:d.ag.ls.length≤c∧d.ag.ls.length≤9223372036854775807) (bT:g≤1000) (hr:iF d g=(r0,r1)):
    Calls Tryz.prog 111 #[.pointer (some ⟨z,0,none⟩), .int .i64 g, .func (.func 85) #[] #[]] w (cO fun v w'=> ∃ (B0:Option Addr) (b0:Nat) (e0:List af) (B1ox0:Option Addr) (b1ox0:Nat),v= .slice B0 r0.length b0∧Own w D w' [row B0 r0.length b0 (List.flatMap af.cells e0) 84 3,sepL (List.flatMap yQ e0),blk z [.slice B1ox0 r1.ag.ls.length b1ox0, .int .i64 r1.az] 120]∧(List.map zh e0=r0)∧(aj 1 b c d.ag.ls B1ox0 b1ox0 r1.ag.ls)∧(r0.length≤1000)):=by
 refine yR (args:= [.pointer (some ⟨z,0,none⟩), .int .i64 g, .func (.func 85) #[] #[]]) Tryz.func111 rfl rfl rfl ?_
 show Wp _ _ _ [(0, .pointer (some ⟨z,0,none⟩)),(1, .int .i64 g),(2, .func (.func 85) #[] #[])] _ _
 refine sr (Ar rfl (An rfl (yJ (sr (An rfl ?_)))))
 obtain⟨av,ax⟩:∃ q:((Option Addr) × Nat × (List af) × (List aP) × (Option Addr) × Nat × (List UInt8) × Int)→World→Prop,q=fun(i:(Option Addr) × Nat × (List af) × (List aP) × (Option Addr) × Nat × (List UInt8) × Int) w'=>Own w D w' [blk z [.slice i.2.2.2.2.1 i.2.2.2.2.2.2.1.length i.2.2.2.2.2.1, .int .i64 i.2.2.2.2.2.2.2] 120,row i.1 i.2.2.2.1.length i.2.1 (List.flatMap af.cells i.2.2.1) 84 3,sepL (List.flatMap yQ i.2.2.1)]∧(List.map zh i.2.2.1=i.2.2.2.1∧aj 1 b c d.ag.ls i.2.2.2.2.1 i.2.2.2.2.2.1 i.2.2.2.2.2.2.1∧0≤i.2.2.2.1.length∧i.2.2.2.2.2.2.1.length≤d.ag.ls.length∧i.2.2.2.2.2.2.1.length≤d.ag.ls.length+1∧i.2.2.2.1.length≤1000∧(bnd (bZ g ((Int.toNat g - 0)+1) ([]) 0 d.ag.ls d.az) fun sLrJjL=>(sLrJjL.1,sLrJjL.2.1,sLrJjL.2.2))=(i.2.2.2.1,i.2.2.2.2.2.2.1,i.2.2.2.2.2.2.2)):=⟨_,rfl⟩
 have M:∀ {N:Option Addr} {O:Nat} {G:List af} {u:List aP} {P:Option Addr} {Q:Nat} {A:List UInt8} {R:Int} {w':World},av (N,O,G,u,P,Q,A,R) w'↔Own w D w' [blk z [.slice P A.length Q, .int .i64 R] 120,row N u.length O (List.flatMap af.cells G) 84 3,sepL (List.flatMap yQ G)]∧List.map zh G=u∧aj 1 b c d.ag.ls P Q A∧0≤u.length∧A.length≤d.ag.ls.length∧A.length≤d.ag.ls.length+1∧u.length≤1000∧(bnd (bZ g ((Int.toNat g - 0)+1) ([]) 0 d.ag.ls d.az) fun sLrJjL=>(sLrJjL.1,sLrJjL.2.1,sLrJjL.2.2))=(u,A,R):=by intros; subst ax; exact Iff.rfl
 refine zD (fun i:(Option Addr) × Nat × (List af) × (List aP) × (Option Addr) × Nat × (List UInt8) × Int=> [(7, .slice i.1 i.2.2.2.1.length i.2.1),(6, .slice none 0 0)]) av ?_ ?_
 refine bo ?_
 have aU:Own w D w [sepL (List.flatMap yQ ([])),blk z [.slice b d.ag.ls.length c, .int .i64 d.az] 120]:=H.sepNil
 have aV:Own w D w [row none 0 0 (List.flatMap af.cells ([])) 84 3,sepL (List.flatMap yQ ([])),blk z [.slice b d.ag.ls.length c, .int .i64 d.az] 120]:=aU.free (bP 84 3)
 have aW:=aV.pk [2,0,1]
 obtain⟨az,aA⟩:∃ q:((Option Addr) × Nat × (List af) × (List aP) × Nat × (Option Addr) × Nat × (List UInt8) × Int × Nat)→World→Prop,q=fun(i:(Option Addr) × Nat × (List af) × (List aP) × Nat × (Option Addr) × Nat × (List UInt8) × Int × Nat) w'=>Own w D w' [blk z [.slice i.2.2.2.2.2.1 i.2.2.2.2.2.2.2.1.length i.2.2.2.2.2.2.1, .int .i64 i.2.2.2.2.2.2.2.2.1] 120,row i.1 i.2.2.2.1.length i.2.1 (List.flatMap af.cells i.2.2.1) 84 3,sepL (List.flatMap yQ i.2.2.1)]∧(List.map zh i.2.2.1=i.2.2.2.1∧aj 1 b c d.ag.ls i.2.2.2.2.2.1 i.2.2.2.2.2.2.1 i.2.2.2.2.2.2.2.1∧i.2.2.2.1.length≤i.2.2.2.2.1∧(i.2.2.2.2.1=0∨((i.2.2.2.2.1:Nat):Int)≤g)∧Int.toNat g - i.2.2.2.2.1 < i.2.2.2.2.2.2.2.2.2∧bZ g ((Int.toNat g - 0)+1) ([]) 0 d.ag.ls d.az=bZ g i.2.2.2.2.2.2.2.2.2 i.2.2.2.1 i.2.2.2.2.1 i.2.2.2.2.2.2.2.1 i.2.2.2.2.2.2.2.2.1):=⟨_,rfl⟩
 have S:∀ {I:Option Addr} {J:Nat} {p:List af} {h:List aP} {l:Nat} {B:Option Addr} {x:Nat} {n:List UInt8} {o:Int} {K:Nat} {w':World},az (I,J,p,h,l,B,x,n,o,K) w'↔Own w D w' [blk z [.slice B n.length x, .int .i64 o] 120,row I h.length J (List.flatMap af.cells p) 84 3,sepL (List.flatMap yQ p)]∧List.map zh p=h∧aj 1 b c d.ag.ls B x n∧h.length≤l∧(l=0∨((l:Nat):Int)≤g)∧Int.toNat g - l < K∧bZ g ((Int.toNat g - 0)+1) ([]) 0 d.ag.ls d.az=bZ g K h l n o:=by intros; subst aA; exact Iff.rfl
 refine Wp.loop (fun i:(Option Addr) × Nat × (List af) × (List aP) × Nat × (Option Addr) × Nat × (List UInt8) × Int × Nat=> [(7, .slice i.1 i.2.2.2.1.length i.2.1),(8, .int .i64 ((i.2.2.2.2.1:Nat):Int)),(6, .slice none 0 0),(0, .pointer (some ⟨z,0,none⟩)),(1, .int .i64 g),(2, .func (.func 85) #[] #[])]) az (fun i=>i.2.2.2.2.2.2.2.2.2) (none,0, [], [],0,b,c,d.ag.ls,d.az,(Int.toNat g - 0)+1) ⟨rfl,rfl,rfl,rfl,rfl,rfl,trivial⟩ (S.2 ⟨aW,(show List.map zh ([])=([])∧aj 1 b c d.ag.ls b c d.ag.ls∧0≤0∧(0=0∨((0:Nat):Int)≤g)∧Int.toNat g - 0 < ((Int.toNat g - 0)+1)∧bZ g ((Int.toNat g - 0)+1) ([]) 0 d.ag.ls d.az=bZ g ((Int.toNat g - 0)+1) ([]) 0 d.ag.ls d.az from ⟨by exact rfl,by exact(aj.refl (by omega)),by omega,by omega,by omega,rfl⟩)⟩) ?_
 rintro ⟨I,J,p,h,l,B,x,n,o,K⟩ bU aB
 show Wp _ _ _ [(7, .slice I h.length J),(8, .int .i64 ((l:Nat):Int)),(6, .slice none 0 0),(0, .pointer (some ⟨z,0,none⟩)),(1, .int .i64 g),(2, .func (.func 85) #[] #[])] _ _
 obtain⟨W,C,E,bG,bH,bI,T⟩:=S.1 aB
 have bJ:=dG C
 have bL:=(E).le
 obtain⟨ae,aC⟩:∃ q,K=q+1:=⟨K - 1,by omega⟩
 subst aC
 refine yJ (sr (Mz rfl (Mz rfl (Kz (.bool (decide (((l:Nat):Int) < g))) (Mz rfl ?_)))))
 by_cases j:((l:Nat):Int) < g
 refine gw (.pointer (some ⟨z,0,none⟩)) (dT j) (yO rfl) (Gz (.pointer (some ⟨z,0,none⟩)) (dT j) (Gz (.pointer (some ⟨z,1,none⟩)) (dT j) (Gl (.int .i64 o) (dT j) W 0 Tryz.isAgg32 (Gz (.bool (decide (o=0))) (dT j) (fw (.bool (decide (o=0))) (yN rfl (dT j) rfl) (nt ?_))))))
 by_cases X:o=0
 refine jT (dT X) (sk (yJ (bo (yK (Mz rfl (Mz rfl (Mz rfl ?_)))))))
 obtain⟨⟨a,L⟩,Y⟩:∃ q:aP × ReaderT,ja (ReaderT.mk (Ll.mk n) o)=q:=⟨_,rfl⟩
 obtain⟨bV,aD,aF,aG,bM⟩:=yT W
 refine WL.do rfl (zB Tryz.call85 rfl rfl (pg _ _ z (ReaderT.mk (Ll.mk n) o) B x a L aD (fun w9 h9=>aj.rds ay (by decide) E ((aF _ Z) w9 h9)) (show n.length≤x∧n.length≤9223372036854775807 from by omega) Y) ?_)
 rintro _ bY ⟨r,t,ag,ah,rfl,aH,F⟩
 have aI:=aG _ _ aH
 replace F:aj 1 B x n ag ah L.ag.ls:=F
 have bO:=(F).le
 have bQ:=aI.rowC (i:=0) rfl
 refine iX [.bool a.cB, .string ⟨List.toArray a.au⟩, .slice r a.ak.ls.length t] 84 3 1 aI ?_
 intro aJ cu ai
 replace ai:=zi (y:=row aJ 1 1 (List.flatMap af.cells ([(af.mk a.cB a.au (Sv.mk r t a.ak.ls))])) 84 3) rfl ai
 have aK:=ai.pk [3,4,1,0,2]
 refine WL.do rfl (ze (k:=h.length) (m:=1) (lD) aK rfl rfl (cz Tryz.underlying26 (aK.rds (i:=3) rfl) (bK af.one ([(af.mk a.cB a.au (Sv.mk r t a.ak.ls))]))) rfl (by omega) (s:=List.length (h++ [a])) (by first | omega | (simp only [List.length_append,List.length_cons,List.length_nil] <;> omega)) (List.flatMap_append).symm ?_)
 intro aL aM aX aY
 have aZ:=aY.pk [1,2,0,3,4]
 have bf:Own w D aX [sepL (List.flatMap yQ (p++ [(af.mk a.cB a.au (Sv.mk r t a.ak.ls))])),row aL (List.length (h++ [a])) aM (List.flatMap af.cells (p++ [(af.mk a.cB a.au (Sv.mk r t a.ak.ls))])) 84 3,row aJ 1 1 (List.flatMap af.cells ([(af.mk a.cB a.au (Sv.mk r t a.ak.ls))])) 84 3,blk z [.slice ag L.ag.ls.length ah, .int .i64 L.az] 120]:=aZ.sepAdd (L2:= [row r a.ak.ls.length t (List.flatMap aR.cells a.ak.ls) 86 2]) (List.flatMap_append (f:=yQ) (xs:=p) (ys:= [(af.mk a.cB a.au (Sv.mk r t a.ak.ls))])).symm
 have bR:List.length (h++ [a])=h.length+1:=by simp only [List.length_append,List.length_cons,List.length_nil]
 have bS:=dG (pR (es:= [(af.mk a.cB a.au (Sv.mk r t a.ak.ls))]) (ms:= [a]) C rfl)
 refine Az rfl (WL.nil (bN (yL (yK (Mz rfl (fw (.int .i64 ((l+1:Nat):Int)) (yS (e:=IntKind.i64.wrap (((l:Nat):Int)+1)) yk (by rw [BI _ (by omega)]; omega)) (Az rfl (WL.nil ?_))))))))
 have bg:=bf.pk [3,1,0]
 exact yY (aL,aM,(p++ [(af.mk a.cB a.au (Sv.mk r t a.ak.ls))]),(h++ [a]),l+1,ag,ah,L.ag.ls,L.az,ae) ⟨rfl,rfl,rfl,rfl,rfl,rfl,trivial⟩ (S.2 ⟨bg,by exact(pR (es:= [(af.mk a.cB a.au (Sv.mk r t a.ak.ls))]) (ms:= [a]) C rfl),by exact(aj.trans E F),by omega,by omega,by omega,et (T) (et (ip j) (et (ip X) (aa Y)))⟩) (by show ae < ae+1; omega)
 refine jF (dF X) (Wp.exit (yV (yV (y8 ?_))))
 have bi:=W.pk [0,1,2]
 exact zu (I,J,p,h,B,x,n,o) ⟨rfl,rfl,trivial⟩ (M.2 ⟨bi,by exact C,by exact E,by omega,by omega,by omega,by omega,aa (et (T) (et (ip j) (iN X)))⟩)
 refine Sz (dF j) (Sz (dF j) (Sz (dF j) (Sz (dF j) (Sz (dF j) (fw (.bool false) (yM rfl (dF j) rfl) (nt (jf (Wp.exit (yV (yV (y8 ?_)))))))))))
 have bn:=W.pk [0,1,2]
 exact zu (I,J,p,h,B,x,n,o) ⟨rfl,rfl,trivial⟩ (M.2 ⟨bn,by exact C,by exact E,by omega,by omega,by omega,by omega,aa (et (T) (iN j))⟩)
 rintro ⟨N,O,G,u,P,Q,A,R⟩ cB aN
 show Wp _ _ _ [(7, .slice N u.length O),(6, .slice none 0 0)] _ _
 obtain⟨bq,U,V,bu,bv,bz,bA,ak⟩:=M.1 aN
 have bB:=dG U
 have bC:=(V).le
 refine sr (Mz rfl (An rfl (rt (rs ?_))))
 have aO:=bq.pk [1,2,0]
 have e:iF d g=(u,ReaderT.mk (Ll.mk A) R):=aa ak
 obtain⟨rfl,rfl⟩:=dN (e.symm.trans hr)
 exact⟨N,O,G,P,Q,rfl,aO,U,V,(by omega)⟩
def eG (c:ReaderT) (d:Nat):(List aP) × ReaderT:=
 bnd (aI c d) fun a=>bnd (iF a.2 ((a.1:Nat):Int)) fun b=>(b.1,b.2)
theorem mQ (w:World) (D:Nat→Prop) (s:Nat) (f:ReaderT) (b:Option Addr) (a:Nat) (k:Nat) (y:List aP) (M:ReaderT) (H:Own w D w [blk s [.slice b f.ag.ls.length a, .int .i64 f.az] 120]) (j:Ro w D fun w'=>bD w' 1 b f.ag.ls.length (List.flatMap eB f.ag.ls)) (N:f.ag.ls.length≤a∧f.ag.ls.length≤9223372036854775807) (ah:k≤1000) (hr:eG f k=(y,M)):
    Calls Tryz.prog 84 #[.pointer (some ⟨s,0,none⟩), .int .u64 ((k:Nat):Int), .func (.func 85) #[] #[]] w (cO fun v w'=> ∃ (U:Option Addr) (V:Nat) (O:List af) (B1ox0:Option Addr) (b1ox0:Nat),v= .slice U y.length V∧Own w D w' [row U y.length V (List.flatMap af.cells O) 84 3,sepL (List.flatMap yQ O),blk s [.slice B1ox0 M.ag.ls.length b1ox0, .int .i64 M.az] 120]∧(List.map zh O=y)∧(aj 1 b a f.ag.ls B1ox0 b1ox0 M.ag.ls)∧(y.length≤1000)):=by
 refine yR (args:= [.pointer (some ⟨s,0,none⟩), .int .u64 ((k:Nat):Int), .func (.func 85) #[] #[]]) Tryz.func84 rfl rfl rfl ?_
 show Wp _ _ _ [(0, .pointer (some ⟨s,0,none⟩)),(1, .int .u64 ((k:Nat):Int)),(2, .func (.func 85) #[] #[])] _ _
 refine sr (Ar rfl (Mz rfl (Mz rfl (Mz rfl ?_))))
 obtain⟨⟨h,d⟩,m⟩:∃ q:Nat × ReaderT,aI f k=q:=⟨_,rfl⟩
 obtain⟨ai,z,A,B,W⟩:=yT H
 refine cl Tryz.call79 (dS _ _ s f b a k h d z (A _ j) (show f.ag.ls.length≤a∧f.ag.ls.length≤9223372036854775807 from by omega) m) ?_
 rintro _ ak ⟨t,l,rfl,C,c,n⟩
 have P:=B _ _ C
 replace c:aj 1 b a f.ag.ls t l d.ag.ls:=c
 have X:=(c).le
 replace n:h≤k:=n
 refine fw (.int .i64 ((h:Nat):Int)) (yS (e:=IntKind.i64.wrap ((h:Nat):Int)) yk (BI _ (by omega))) (Mz rfl ?_)
 obtain⟨⟨u,x⟩,o⟩:∃ q:(List aP) × ReaderT,iF d ((h:Nat):Int)=q:=⟨_,rfl⟩
 obtain⟨au,E,F,G,Y⟩:=yT P
 refine cl Tryz.call111 (mH _ _ s d t l ((h:Nat):Int) u x E (fun w9 h9=>aj.rds ay (by decide) c ((F _ j) w9 h9)) (show d.ag.ls.length≤l∧d.ag.ls.length≤9223372036854775807 from by omega) (by omega) o) ?_
 rintro _ az ⟨Q,R,S,I,J,rfl,K,p,g,r⟩
 have L:=G _ _ K
 replace g:aj 1 t l d.ag.ls I J x.ag.ls:=g
 have Z:=(g).le
 have ae:=dG p
 have ag:=L.rowC (i:=0) rfl
 replace r:u.length≤1000:=r
 refine An rfl (rt (rs ?_))
 have T:=L.pk [0,1,2]
 have e:eG f k=(u,x):=et (aa m) (aa o)
 obtain⟨rfl,rfl⟩:=dN (e.symm.trans hr)
 exact⟨Q,R,S,I,J,rfl,T,p,(aj.trans c g),(by omega)⟩
def cK (g:Int):Nat→List aA→Nat→List UInt8→Int→(List aA) × (List UInt8) × Int
  | 0,c,e,d,a=>default
  | f+1,c,e,d,a=>if((e:Nat):Int) < g then if a=0 then bnd (jm (ReaderT.mk (Ll.mk d) a)) fun b=>cK g f (c++ [b.1]) (e+1) b.2.ag.ls b.2.az else(c,d,a) else(c,d,a)
def iL (a:ReaderT) (b:Int):(List aA) × ReaderT:=
 bnd (bnd (cK b ((Int.toNat b - 0)+1) ([]) 0 a.ag.ls a.az) fun sLrJjL=>(sLrJjL.1,sLrJjL.2.1,sLrJjL.2.2)) fun sJrJ=>(sJrJ.1,ReaderT.mk (Ll.mk sJrJ.2.1) sJrJ.2.2)
theorem mR (w:World) (D:Nat→Prop) (u:Nat) (a:ReaderT) (b:Option Addr) (c:Nat) (d:Int) (V:List aA) (r1:ReaderT) (H:Own w D w [blk u [.slice b a.ag.ls.length c, .int .i64 a.az] 120]) (S:Ro w D fun w'=>bD w' 1 b a.ag.ls.length (List.flatMap eB a.ag.ls)) (aD:a.ag.ls.length≤c∧a.ag.ls.length≤9223372036854775807) (bu:d≤1000) (hr:iL a d=(V,r1)):
    Calls Tryz.prog 114 #[.pointer (some ⟨u,0,none⟩), .int .i64 d, .func (.func 87) #[] #[]] w (cO fun v w'=> ∃ (B0:Option Addr) (b0:Nat) (B1ox0:Option Addr) (b1ox0:Nat),v= .slice B0 V.length b0∧Own w D w' [row B0 V.length b0 (List.flatMap aA.cells V) 88 2,blk u [.slice B1ox0 r1.ag.ls.length b1ox0, .int .i64 r1.az] 120]∧(aj 1 b c a.ag.ls B1ox0 b1ox0 r1.ag.ls)∧(V.length≤1000)):=by
 refine yR (args:= [.pointer (some ⟨u,0,none⟩), .int .i64 d, .func (.func 87) #[] #[]]) Tryz.func114 rfl rfl rfl ?_
 show Wp _ _ _ [(0, .pointer (some ⟨u,0,none⟩)),(1, .int .i64 d),(2, .func (.func 87) #[] #[])] _ _
 refine sr (Ar rfl (An rfl (yJ (sr (An rfl ?_)))))
 obtain⟨W,X⟩:∃ q:((Option Addr) × Nat × (List aA) × (Option Addr) × Nat × (List UInt8) × Int)→World→Prop,q=fun(i:(Option Addr) × Nat × (List aA) × (Option Addr) × Nat × (List UInt8) × Int) w'=>Own w D w' [blk u [.slice i.2.2.2.1 i.2.2.2.2.2.1.length i.2.2.2.2.1, .int .i64 i.2.2.2.2.2.2] 120,row i.1 i.2.2.1.length i.2.1 (List.flatMap aA.cells i.2.2.1) 88 2]∧(aj 1 b c a.ag.ls i.2.2.2.1 i.2.2.2.2.1 i.2.2.2.2.2.1∧0≤i.2.2.1.length∧i.2.2.2.2.2.1.length≤a.ag.ls.length∧i.2.2.2.2.2.1.length≤a.ag.ls.length+1∧i.2.2.1.length≤1000∧(bnd (cK d ((Int.toNat d - 0)+1) ([]) 0 a.ag.ls a.az) fun sLrJjL=>(sLrJjL.1,sLrJjL.2.1,sLrJjL.2.2))=(i.2.2.1,i.2.2.2.2.2.1,i.2.2.2.2.2.2)):=⟨_,rfl⟩
 have E:∀ {F:Option Addr} {G:Nat} {n:List aA} {I:Option Addr} {J:Nat} {p:List UInt8} {K:Int} {w':World},W (F,G,n,I,J,p,K) w'↔Own w D w' [blk u [.slice I p.length J, .int .i64 K] 120,row F n.length G (List.flatMap aA.cells n) 88 2]∧aj 1 b c a.ag.ls I J p∧0≤n.length∧p.length≤a.ag.ls.length∧p.length≤a.ag.ls.length+1∧n.length≤1000∧(bnd (cK d ((Int.toNat d - 0)+1) ([]) 0 a.ag.ls a.az) fun sLrJjL=>(sLrJjL.1,sLrJjL.2.1,sLrJjL.2.2))=(n,p,K):=by intros; subst X; exact Iff.rfl
 refine zD (fun i:(Option Addr) × Nat × (List aA) × (Option Addr) × Nat × (List UInt8) × Int=> [(7, .slice i.1 i.2.2.1.length i.2.1),(6, .slice none 0 0)]) W ?_ ?_
 refine bo ?_
 have aF:Own w D w [row none 0 0 (List.flatMap aA.cells ([])) 88 2,blk u [.slice b a.ag.ls.length c, .int .i64 a.az] 120]:=H.free (bP 88 2)
 have aG:=aF.pk [1,0]
 obtain⟨Y,Z⟩:∃ q:((Option Addr) × Nat × (List aA) × Nat × (Option Addr) × Nat × (List UInt8) × Int × Nat)→World→Prop,q=fun(i:(Option Addr) × Nat × (List aA) × Nat × (Option Addr) × Nat × (List UInt8) × Int × Nat) w'=>Own w D w' [blk u [.slice i.2.2.2.2.1 i.2.2.2.2.2.2.1.length i.2.2.2.2.2.1, .int .i64 i.2.2.2.2.2.2.2.1] 120,row i.1 i.2.2.1.length i.2.1 (List.flatMap aA.cells i.2.2.1) 88 2]∧(aj 1 b c a.ag.ls i.2.2.2.2.1 i.2.2.2.2.2.1 i.2.2.2.2.2.2.1∧i.2.2.1.length≤i.2.2.2.1∧(i.2.2.2.1=0∨((i.2.2.2.1:Nat):Int)≤d)∧Int.toNat d - i.2.2.2.1 < i.2.2.2.2.2.2.2.2∧cK d ((Int.toNat d - 0)+1) ([]) 0 a.ag.ls a.az=cK d i.2.2.2.2.2.2.2.2 i.2.2.1 i.2.2.2.1 i.2.2.2.2.2.2.1 i.2.2.2.2.2.2.2.1):=⟨_,rfl⟩
 have L:∀ {A:Option Addr} {B:Nat} {g:List aA} {h:Nat} {r:Option Addr} {o:Nat} {j:List UInt8} {l:Int} {C:Nat} {w':World},Y (A,B,g,h,r,o,j,l,C) w'↔Own w D w' [blk u [.slice r j.length o, .int .i64 l] 120,row A g.length B (List.flatMap aA.cells g) 88 2]∧aj 1 b c a.ag.ls r o j∧g.length≤h∧(h=0∨((h:Nat):Int)≤d)∧Int.toNat d - h < C∧cK d ((Int.toNat d - 0)+1) ([]) 0 a.ag.ls a.az=cK d C g h j l:=by intros; subst Z; exact Iff.rfl
 refine Wp.loop (fun i:(Option Addr) × Nat × (List aA) × Nat × (Option Addr) × Nat × (List UInt8) × Int × Nat=> [(7, .slice i.1 i.2.2.1.length i.2.1),(8, .int .i64 ((i.2.2.2.1:Nat):Int)),(6, .slice none 0 0),(0, .pointer (some ⟨u,0,none⟩)),(1, .int .i64 d),(2, .func (.func 87) #[] #[])]) Y (fun i=>i.2.2.2.2.2.2.2.2) (none,0, [],0,b,c,a.ag.ls,a.az,(Int.toNat d - 0)+1) ⟨rfl,rfl,rfl,rfl,rfl,rfl,trivial⟩ (L.2 ⟨aG,(show aj 1 b c a.ag.ls b c a.ag.ls∧0≤0∧(0=0∨((0:Nat):Int)≤d)∧Int.toNat d - 0 < ((Int.toNat d - 0)+1)∧cK d ((Int.toNat d - 0)+1) ([]) 0 a.ag.ls a.az=cK d ((Int.toNat d - 0)+1) ([]) 0 a.ag.ls a.az from ⟨by exact(aj.refl (by omega)),by omega,by omega,by omega,rfl⟩)⟩) ?_
 rintro ⟨A,B,g,h,r,o,j,l,C⟩ bv ae
 show Wp _ _ _ [(7, .slice A g.length B),(8, .int .i64 ((h:Nat):Int)),(6, .slice none 0 0),(0, .pointer (some ⟨u,0,none⟩)),(1, .int .i64 d),(2, .func (.func 87) #[] #[])] _ _
 obtain⟨N,t,aT,aU,aV,M⟩:=L.1 ae
 have aW:=(t).le
 obtain⟨T,af⟩:∃ q,C=q+1:=⟨C - 1,by omega⟩
 subst af
 refine yJ (sr (Mz rfl (Mz rfl (Kz (.bool (decide (((h:Nat):Int) < d))) (Mz rfl ?_)))))
 by_cases f:((h:Nat):Int) < d
 refine gw (.pointer (some ⟨u,0,none⟩)) (dT f) (yO rfl) (Gz (.pointer (some ⟨u,0,none⟩)) (dT f) (Gz (.pointer (some ⟨u,1,none⟩)) (dT f) (Gl (.int .i64 l) (dT f) N 0 Tryz.isAgg32 (Gz (.bool (decide (l=0))) (dT f) (fw (.bool (decide (l=0))) (yN rfl (dT f) rfl) (nt ?_))))))
 by_cases O:l=0
 refine jT (dT O) (sk (yJ (bo (yK (Mz rfl (Mz rfl (Mz rfl ?_)))))))
 obtain⟨⟨x,P⟩,Q⟩:∃ q:aA × ReaderT,jm (ReaderT.mk (Ll.mk j) l)=q:=⟨_,rfl⟩
 obtain⟨bz,ag,ah,ai,aX⟩:=yT N
 refine WL.do rfl (zB Tryz.call87 rfl rfl (p8 _ _ u (ReaderT.mk (Ll.mk j) l) r o x P ag (fun w9 h9=>aj.rds ay (by decide) t ((ah _ S) w9 h9)) (show j.length≤o∧j.length≤9223372036854775807 from by omega) Q) ?_)
 rintro _ bC ⟨ak,au,rfl,av,z⟩
 have aH:=ai _ _ av
 replace z:aj 1 r o j ak au P.ag.ls:=z
 have aY:=(z).le
 refine iX (aA.cells x) 88 2 1 aH ?_
 intro aI bE U
 replace U:=zi (y:=row aI 1 1 (List.flatMap aA.cells ([x])) 88 2) rfl U
 have ax:=U.pk [2,0,1]
 refine WL.do rfl (ze (k:=g.length) (m:=1) (lT) ax rfl rfl (cz Tryz.underlying27 (ax.rds (i:=1) rfl) (bK aA.one ([x]))) rfl (by omega) (s:=List.length (g++ [x])) (by first | omega | (simp only [List.length_append,List.length_cons,List.length_nil] <;> omega)) (List.flatMap_append).symm ?_)
 intro aJ aK bF aL
 have aZ:List.length (g++ [x])=g.length+1:=by simp only [List.length_append,List.length_cons,List.length_nil]
 refine Az rfl (WL.nil (bN (yL (yK (Mz rfl (fw (.int .i64 ((h+1:Nat):Int)) (yS (e:=IntKind.i64.wrap (((h:Nat):Int)+1)) yk (by rw [BI _ (by omega)]; omega)) (Az rfl (WL.nil ?_))))))))
 have aM:=aL.pk [2,0]
 exact yY (aJ,aK,(g++ [x]),h+1,ak,au,P.ag.ls,P.az,T) ⟨rfl,rfl,rfl,rfl,rfl,rfl,trivial⟩ (L.2 ⟨aM,by exact(aj.trans t z),by omega,by omega,by omega,et (M) (et (ip f) (et (ip O) (aa Q)))⟩) (by show T < T+1; omega)
 refine jF (dF O) (Wp.exit (yV (yV (y8 ?_))))
 have aN:=N.pk [0,1]
 exact zu (A,B,g,r,o,j,l) ⟨rfl,rfl,trivial⟩ (E.2 ⟨aN,by exact t,by omega,by omega,by omega,by omega,aa (et (M) (et (ip f) (iN O)))⟩)
 refine Sz (dF f) (Sz (dF f) (Sz (dF f) (Sz (dF f) (Sz (dF f) (fw (.bool false) (yM rfl (dF f) rfl) (nt (jf (Wp.exit (yV (yV (y8 ?_)))))))))))
 have aO:=N.pk [0,1]
 exact zu (A,B,g,r,o,j,l) ⟨rfl,rfl,trivial⟩ (E.2 ⟨aO,by exact t,by omega,by omega,by omega,by omega,aa (et (M) (iN f))⟩)
 rintro ⟨F,G,n,I,J,p,K⟩ bG az
 show Wp _ _ _ [(7, .slice F n.length G),(6, .slice none 0 0)] _ _
 obtain⟨aP,R,bf,bg,bi,bn,aB⟩:=E.1 az
 have bq:=(R).le
 refine sr (Mz rfl (An rfl (rt (rs ?_))))
 have aQ:=aP.pk [1,0]
 have e:iL a d=(n,ReaderT.mk (Ll.mk p) K):=aa aB
 obtain⟨rfl,rfl⟩:=dN (e.symm.trans hr)
 exact⟨F,G,I,J,rfl,aQ,R,(by omega)⟩
def eZ (c:ReaderT) (d:Nat):(List aA) × ReaderT:=
 bnd (aI c d) fun a=>bnd (iL a.2 ((a.1:Nat):Int)) fun b=>(b.1,b.2)
theorem ni (w:World) (D:Nat→Prop) (r:Nat) (f:ReaderT) (b:Option Addr) (a:Nat) (k:Nat) (x:List aA) (L:ReaderT) (H:Own w D w [blk r [.slice b f.ag.ls.length a, .int .i64 f.az] 120]) (j:Ro w D fun w'=>bD w' 1 b f.ag.ls.length (List.flatMap eB f.ag.ls)) (M:f.ag.ls.length≤a∧f.ag.ls.length≤9223372036854775807) (Y:k≤1000) (hr:eZ f k=(x,L)):
    Calls Tryz.prog 86 #[.pointer (some ⟨r,0,none⟩), .int .u64 ((k:Nat):Int), .func (.func 87) #[] #[]] w (cO fun v w'=> ∃ (R:Option Addr) (S:Nat) (B1ox0:Option Addr) (b1ox0:Nat),v= .slice R x.length S∧Own w D w' [row R x.length S (List.flatMap aA.cells x) 88 2,blk r [.slice B1ox0 L.ag.ls.length b1ox0, .int .i64 L.az] 120]∧(aj 1 b a f.ag.ls B1ox0 b1ox0 L.ag.ls)∧(x.length≤1000)):=by
 refine yR (args:= [.pointer (some ⟨r,0,none⟩), .int .u64 ((k:Nat):Int), .func (.func 87) #[] #[]]) Tryz.func86 rfl rfl rfl ?_
 show Wp _ _ _ [(0, .pointer (some ⟨r,0,none⟩)),(1, .int .u64 ((k:Nat):Int)),(2, .func (.func 87) #[] #[])] _ _
 refine sr (Ar rfl (Mz rfl (Mz rfl (Mz rfl ?_))))
 obtain⟨⟨h,d⟩,m⟩:∃ q:Nat × ReaderT,aI f k=q:=⟨_,rfl⟩
 obtain⟨Z,y,z,A,T⟩:=yT H
 refine cl Tryz.call79 (dS _ _ r f b a k h d y (z _ j) (show f.ag.ls.length≤a∧f.ag.ls.length≤9223372036854775807 from by omega) m) ?_
 rintro _ ae ⟨s,l,rfl,B,c,n⟩
 have N:=A _ _ B
 replace c:aj 1 b a f.ag.ls s l d.ag.ls:=c
 have U:=(c).le
 replace n:h≤k:=n
 refine fw (.int .i64 ((h:Nat):Int)) (yS (e:=IntKind.i64.wrap ((h:Nat):Int)) yk (BI _ (by omega))) (Mz rfl ?_)
 obtain⟨⟨t,u⟩,o⟩:∃ q:(List aA) × ReaderT,iL d ((h:Nat):Int)=q:=⟨_,rfl⟩
 obtain⟨af,C,E,F,V⟩:=yT N
 refine cl Tryz.call114 (mR _ _ r d s l ((h:Nat):Int) t u C (fun w9 h9=>aj.rds ay (by decide) c ((E _ j) w9 h9)) (show d.ag.ls.length≤l∧d.ag.ls.length≤9223372036854775807 from by omega) (by omega) o) ?_
 rintro _ ai ⟨O,P,G,I,rfl,J,g,p⟩
 have K:=F _ _ J
 replace g:aj 1 s l d.ag.ls G I u.ag.ls:=g
 have W:=(g).le
 have X:=K.rowC (i:=0) rfl
 replace p:t.length≤1000:=p
 refine An rfl (rt (rs ?_))
 have Q:=K.pk [0,1]
 have e:eZ f k=(t,u):=et (aa m) (aa o)
 obtain⟨rfl,rfl⟩:=dN (e.symm.trans hr)
 exact⟨O,P,G,I,rfl,Q,(aj.trans c g),(by omega)⟩
def aO (v:bE):List Int→List UInt8→Int→Int→Int→Nat→Nat→Nat→Nat→Nat→Nat→Nat→Nat→Nat→Bool→List UInt8→List UInt8→List aB→List aP→List aA→(List UInt8) × Int × Int × Int × Nat × Nat × Nat × Nat × Nat × Nat × Nat × Nat × Nat × Bool × (List UInt8) × (List UInt8) × (List aB) × (List aP) × (List aA)
  | [],a,b,c,d,e,f,g,h,i,j,k,l,m,n,o,p,q,r,s=>(a,b,c,d,e,f,g,h,i,j,k,l,m,n,o,p,q,r,s)
  | u::t,a,b,c,d,e,f,g,h,i,j,k,l,m,n,o,p,q,r,s=>if u=0 then bnd (aI (ReaderT.mk (Ll.mk a) b) 18446744073709551615) fun L=>aO v t L.2.ag.ls L.2.az c d L.1 f g h i j k l m n o p q r s else if u=1 then bnd (aI (ReaderT.mk (Ll.mk a) b) 18446744073709551615) fun w=>aO v t w.2.ag.ls w.2.az c d e w.1 g h i j k l m n o p q r s else if u=4 then bnd (aI (ReaderT.mk (Ll.mk a) b) 18446744073709551615) fun x=>aO v t x.2.ag.ls x.2.az c d e f x.1 h i j k l m n o p q r s else if u=5 then bnd (aI (ReaderT.mk (Ll.mk a) b) 18446744073709551615) fun y=>aO v t y.2.ag.ls y.2.az c d e f g y.1 i j k l m n o p q r s else if u=6 then bnd (aI (ReaderT.mk (Ll.mk a) b) 18446744073709551615) fun z=>aO v t z.2.ag.ls z.2.az c d e f g h i z.1 k l m n o p q r s else if u=9 then bnd (aI (ReaderT.mk (Ll.mk a) b) 18446744073709551615) fun A=>aO v t A.2.ag.ls A.2.az c d e f g h A.1 j k l m n o p q r s else if u=10 then bnd (aI (ReaderT.mk (Ll.mk a) b) 18446744073709551615) fun B=>aO v t B.2.ag.ls B.2.az c d e f g h i j B.1 l m n o p q r s else if u=14 then bnd (aI (ReaderT.mk (Ll.mk a) b) 18446744073709551615) fun C=>aO v t C.2.ag.ls C.2.az c d e f g h i j k C.1 m n o p q r s else if u=15 then bnd (aI (ReaderT.mk (Ll.mk a) b) 18446744073709551615) fun D=>aO v t D.2.ag.ls D.2.az c d e f g h i j k l D.1 n o p q r s else if u=2 then bnd (aW (ReaderT.mk (Ll.mk a) b)) fun E=>aO v t E.2.ag.ls E.2.az ((E.1.toNat:Nat):Int) d e f g h i j k l m n o p q r s else if u=12 then bnd (aW (ReaderT.mk (Ll.mk a) b)) fun F=>aO v t F.2.ag.ls F.2.az c ((F.1.toNat:Nat):Int) e f g h i j k l m n o p q r s else if u=8 then bnd (fU (ReaderT.mk (Ll.mk a) b)) fun G=>aO v t G.2.ag.ls G.2.az c d e f g h i j k l m G.1 o p q r s else if u=13 then bnd (bA (ReaderT.mk (Ll.mk a) b) 255) fun M=>bnd (bA M.2 255) fun H=>aO v t H.2.ag.ls H.2.az c d e f g h i j k l m n M.1 H.1 q r s else if u=7 then bnd (fQ (ReaderT.mk (Ll.mk a) b) 255) fun I=>aO v t I.2.ag.ls I.2.az c d e f g h i j k l m n o p I.1 r s else if u=3 then bnd (eG (ReaderT.mk (Ll.mk a) b) 255) fun J=>aO v t J.2.ag.ls J.2.az c d e f g h i j k l m n o p q J.1 s else if u=11 then bnd (eZ (ReaderT.mk (Ll.mk a) b) 255) fun K=>aO v t K.2.ag.ls K.2.az c d e f g h i j k l m n o p q r K.1 else aO v t a b c d e f g h i j k l m n o p q r s
def kQ (b:ReaderT) (a:bE) (c:List Int):ReaderT × bE:=
 bnd (aO a c b.ag.ls b.az a.bu a.bO a.bG a.aY a.bF a.bH a.bL a.aV a.bB a.aK a.xN a.bV a.aG.aD a.aG.aH a.ax.ls a.ah.ls a.ai.ls) fun sLrL=>(ReaderT.mk (Ll.mk sLrL.1) sLrL.2.1,bE.mk a.ae a.bq a.dw a.aQ sLrL.2.2.1 sLrL.2.2.2.1 sLrL.2.2.2.2.1 sLrL.2.2.2.2.2.1 sLrL.2.2.2.2.2.2.1 sLrL.2.2.2.2.2.2.2.1 sLrL.2.2.2.2.2.2.2.2.1 sLrL.2.2.2.2.2.2.2.2.2.1 sLrL.2.2.2.2.2.2.2.2.2.2.1 sLrL.2.2.2.2.2.2.2.2.2.2.2.1 sLrL.2.2.2.2.2.2.2.2.2.2.2.2.1 sLrL.2.2.2.2.2.2.2.2.2.2.2.2.2.1 (bC.mk sLrL.2.2.2.2.2.2.2.2.2.2.2.2.2.2.1 sLrL.2.2.2.2.2.2.2.2.2.2.2.2.2.2.2.1) (Ll.mk sLrL.2.2.2.2.2.2.2.2.2.2.2.2.2.2.2.2.1) (Ll.mk sLrL.2.2.2.2.2.2.2.2.2.2.2.2.2.2.2.2.2.1) (Ll.mk sLrL.2.2.2.2.2.2.2.2.2.2.2.2.2.2.2.2.2.2))
set_option maxHeartbeats 4000000 in
theorem pq (w:World) (D:Nat→Prop) (g0:Nat) (p0:ReaderT) (aL:Option Addr) (aN:Nat) (B:Nat) (c:bE) (bQ:Option Addr) (bS:Nat) (bT:Option Addr) (bU:Nat) (aU:List af) (bV:Option Addr) (bW:Nat) (A2:Option Addr) (n2 c2:Nat) (N:List Int) (r0:ReaderT) (r1:bE) (H:Own w D w [blk g0 [.slice aL p0.ag.ls.length aN, .int .i64 p0.az] 120,blk B (aM c bQ bS bT bU bV bW) 29,row bQ c.ax.ls.length bS (List.flatMap aB.cells c.ax.ls) 64 6,row bT c.ah.ls.length bU (List.flatMap af.cells aU) 84 3,sepL (List.flatMap yQ aU),row bV c.ai.ls.length bW (List.flatMap aA.cells c.ai.ls) 88 2]) (K:Ro w D fun w'=>bD w' 1 aL p0.ag.ls.length (List.flatMap eB p0.ag.ls)) (nz:p0.ag.ls.length≤aN∧p0.ag.ls.length≤9223372036854775807) (dW:List.map zh aU=c.ah.ls) (iM:Ro w D fun w'=>bD w' 1 A2 n2 (List.flatMap (eI .i64) N)) (nA:n2=N.length) (qY:N.length *8≤211106232532992) (qZ:c.ax.ls.length≤1000∧c.ah.ls.length≤1000∧c.ai.ls.length≤1000∧c.bG≤18446744073709551615∧c.aY≤18446744073709551615∧c.bF≤18446744073709551615∧c.bH≤18446744073709551615∧c.bL≤18446744073709551615∧c.aV≤18446744073709551615∧c.bB≤18446744073709551615∧c.aK≤18446744073709551615∧c.xN≤18446744073709551615) (hr:kQ p0 c N=(r0,r1)):
    Calls Tryz.prog 41 #[.pointer (some ⟨g0,0,none⟩), .pointer (some ⟨B,0,none⟩), .slice A2 n2 c2] w (cO fun v w'=> ∃ (B0ox0:Option Addr) (b0ox0:Nat) (B1ox0:Option Addr) (b1ox0:Nat) (B1ox1:Option Addr) (b1ox1:Nat) (e1ox1:List af) (B1ox2:Option Addr) (b1ox2:Nat),v= .tuple #[]∧Own w D w' [blk g0 [.slice B0ox0 r0.ag.ls.length b0ox0, .int .i64 r0.az] 120,blk B (aM r1 B1ox0 b1ox0 B1ox1 b1ox1 B1ox2 b1ox2) 29,row B1ox0 r1.ax.ls.length b1ox0 (List.flatMap aB.cells r1.ax.ls) 64 6,row B1ox1 r1.ah.ls.length b1ox1 (List.flatMap af.cells e1ox1) 84 3,sepL (List.flatMap yQ e1ox1),row B1ox2 r1.ai.ls.length b1ox2 (List.flatMap aA.cells r1.ai.ls) 88 2]∧(aj 1 aL aN p0.ag.ls B0ox0 b0ox0 r0.ag.ls)∧(List.map zh e1ox1=r1.ah.ls)∧(r1.ax.ls.length≤1000∧r1.ah.ls.length≤1000∧r1.ai.ls.length≤1000∧r1.bG≤18446744073709551615∧r1.aY≤18446744073709551615∧r1.bF≤18446744073709551615∧r1.bH≤18446744073709551615∧r1.bL≤18446744073709551615∧r1.aV≤18446744073709551615∧r1.bB≤18446744073709551615∧r1.aK≤18446744073709551615∧r1.xN≤18446744073709551615)):=by
 subst nA
 have hdl1x1:=dG dW
 have nC:=H.rowC (i:=2) rfl
 have nD:=H.rowC (i:=3) rfl
 have nE:=H.rowC (i:=5) rfl
 refine yR (args:= [.pointer (some ⟨g0,0,none⟩), .pointer (some ⟨B,0,none⟩), .slice A2 N.length c2]) Tryz.func41 rfl rfl rfl ?_
 show Wp _ _ _ [(0, .pointer (some ⟨g0,0,none⟩)),(1, .pointer (some ⟨B,0,none⟩)),(2, .slice A2 N.length c2)] _ _
 refine sr (Mz rfl (Kz (.int .i64 ((N.length:Nat):Int)) (Mn rfl (bo ?_))))
 have nG:Own w D w [blk g0 [.slice aL p0.ag.ls.length aN, .int .i64 p0.az] 120,blk B (aM c bQ bS bT bU bV bW) 29,row bQ c.ax.ls.length bS (List.flatMap aB.cells c.ax.ls) 64 6,row bT c.ah.ls.length bU (List.flatMap af.cells aU) 84 3,sepL (List.flatMap yQ aU),row bV c.ai.ls.length bW (List.flatMap aA.cells c.ai.ls) 88 2]:=H.pk [0,1,2,3,4,5]
 obtain⟨kG,kH⟩:∃ q:(Nat × (Option Addr) × Nat × (List UInt8) × Int × Int × Int × Nat × Nat × Nat × Nat × Nat × Nat × Nat × Nat × Nat × Bool × (List UInt8) × (List UInt8) × (Option Addr) × Nat × (List aB) × (Option Addr) × Nat × (List af) × (List aP) × (Option Addr) × Nat × (List aA))→World→Prop,q=fun(i:Nat × (Option Addr) × Nat × (List UInt8) × Int × Int × Int × Nat × Nat × Nat × Nat × Nat × Nat × Nat × Nat × Nat × Bool × (List UInt8) × (List UInt8) × (Option Addr) × Nat × (List aB) × (Option Addr) × Nat × (List af) × (List aP) × (Option Addr) × Nat × (List aA)) w'=>Own w D w' [blk g0 [.slice i.2.1 i.2.2.2.1.length i.2.2.1, .int .i64 i.2.2.2.2.1] 120,blk B (bf c.ae c.bq c.dw c.aQ i.2.2.2.2.2.1 i.2.2.2.2.2.2.1 i.2.2.2.2.2.2.2.1 i.2.2.2.2.2.2.2.2.1 i.2.2.2.2.2.2.2.2.2.1 i.2.2.2.2.2.2.2.2.2.2.1 i.2.2.2.2.2.2.2.2.2.2.2.1 i.2.2.2.2.2.2.2.2.2.2.2.2.1 i.2.2.2.2.2.2.2.2.2.2.2.2.2.1 i.2.2.2.2.2.2.2.2.2.2.2.2.2.2.1 i.2.2.2.2.2.2.2.2.2.2.2.2.2.2.2.1 i.2.2.2.2.2.2.2.2.2.2.2.2.2.2.2.2.1 i.2.2.2.2.2.2.2.2.2.2.2.2.2.2.2.2.2.1 i.2.2.2.2.2.2.2.2.2.2.2.2.2.2.2.2.2.2.1 i.2.2.2.2.2.2.2.2.2.2.2.2.2.2.2.2.2.2.2.1 i.2.2.2.2.2.2.2.2.2.2.2.2.2.2.2.2.2.2.2.2.2.1.length i.2.2.2.2.2.2.2.2.2.2.2.2.2.2.2.2.2.2.2.2.1 i.2.2.2.2.2.2.2.2.2.2.2.2.2.2.2.2.2.2.2.2.2.2.1 i.2.2.2.2.2.2.2.2.2.2.2.2.2.2.2.2.2.2.2.2.2.2.2.2.2.1.length i.2.2.2.2.2.2.2.2.2.2.2.2.2.2.2.2.2.2.2.2.2.2.2.1 i.2.2.2.2.2.2.2.2.2.2.2.2.2.2.2.2.2.2.2.2.2.2.2.2.2.2.1 i.2.2.2.2.2.2.2.2.2.2.2.2.2.2.2.2.2.2.2.2.2.2.2.2.2.2.2.2.length i.2.2.2.2.2.2.2.2.2.2.2.2.2.2.2.2.2.2.2.2.2.2.2.2.2.2.2.1) 29,row i.2.2.2.2.2.2.2.2.2.2.2.2.2.2.2.2.2.2.2.1 i.2.2.2.2.2.2.2.2.2.2.2.2.2.2.2.2.2.2.2.2.2.1.length i.2.2.2.2.2.2.2.2.2.2.2.2.2.2.2.2.2.2.2.2.1 (List.flatMap aB.cells i.2.2.2.2.2.2.2.2.2.2.2.2.2.2.2.2.2.2.2.2.2.1) 64 6,row i.2.2.2.2.2.2.2.2.2.2.2.2.2.2.2.2.2.2.2.2.2.2.1 i.2.2.2.2.2.2.2.2.2.2.2.2.2.2.2.2.2.2.2.2.2.2.2.2.2.1.length i.2.2.2.2.2.2.2.2.2.2.2.2.2.2.2.2.2.2.2.2.2.2.2.1 (List.flatMap af.cells i.2.2.2.2.2.2.2.2.2.2.2.2.2.2.2.2.2.2.2.2.2.2.2.2.1) 84 3,sepL (List.flatMap yQ i.2.2.2.2.2.2.2.2.2.2.2.2.2.2.2.2.2.2.2.2.2.2.2.2.1),row i.2.2.2.2.2.2.2.2.2.2.2.2.2.2.2.2.2.2.2.2.2.2.2.2.2.2.1 i.2.2.2.2.2.2.2.2.2.2.2.2.2.2.2.2.2.2.2.2.2.2.2.2.2.2.2.2.length i.2.2.2.2.2.2.2.2.2.2.2.2.2.2.2.2.2.2.2.2.2.2.2.2.2.2.2.1 (List.flatMap aA.cells i.2.2.2.2.2.2.2.2.2.2.2.2.2.2.2.2.2.2.2.2.2.2.2.2.2.2.2.2) 88 2]∧(List.map zh i.2.2.2.2.2.2.2.2.2.2.2.2.2.2.2.2.2.2.2.2.2.2.2.2.1=i.2.2.2.2.2.2.2.2.2.2.2.2.2.2.2.2.2.2.2.2.2.2.2.2.2.1∧aj 1 aL aN p0.ag.ls i.2.1 i.2.2.1 i.2.2.2.1∧i.1≤N.length∧i.2.2.2.2.2.2.2.2.2.2.2.2.2.2.2.2.2.2.2.2.2.1.length≤1000∧i.2.2.2.2.2.2.2.2.2.2.2.2.2.2.2.2.2.2.2.2.2.2.2.2.2.1.length≤1000∧i.2.2.2.2.2.2.2.2.2.2.2.2.2.2.2.2.2.2.2.2.2.2.2.2.2.2.2.2.length≤1000∧i.2.2.2.2.2.2.2.1≤18446744073709551615∧i.2.2.2.2.2.2.2.2.1≤18446744073709551615∧i.2.2.2.2.2.2.2.2.2.1≤18446744073709551615∧i.2.2.2.2.2.2.2.2.2.2.1≤18446744073709551615∧i.2.2.2.2.2.2.2.2.2.2.2.1≤18446744073709551615∧i.2.2.2.2.2.2.2.2.2.2.2.2.1≤18446744073709551615∧i.2.2.2.2.2.2.2.2.2.2.2.2.2.1≤18446744073709551615∧i.2.2.2.2.2.2.2.2.2.2.2.2.2.2.1≤18446744073709551615∧i.2.2.2.2.2.2.2.2.2.2.2.2.2.2.2.1≤18446744073709551615∧aO c N p0.ag.ls p0.az c.bu c.bO c.bG c.aY c.bF c.bH c.bL c.aV c.bB c.aK c.xN c.bV c.aG.aD c.aG.aH c.ax.ls c.ah.ls c.ai.ls=aO c (List.drop i.1 N) i.2.2.2.1 i.2.2.2.2.1 i.2.2.2.2.2.1 i.2.2.2.2.2.2.1 i.2.2.2.2.2.2.2.1 i.2.2.2.2.2.2.2.2.1 i.2.2.2.2.2.2.2.2.2.1 i.2.2.2.2.2.2.2.2.2.2.1 i.2.2.2.2.2.2.2.2.2.2.2.1 i.2.2.2.2.2.2.2.2.2.2.2.2.1 i.2.2.2.2.2.2.2.2.2.2.2.2.2.1 i.2.2.2.2.2.2.2.2.2.2.2.2.2.2.1 i.2.2.2.2.2.2.2.2.2.2.2.2.2.2.2.1 i.2.2.2.2.2.2.2.2.2.2.2.2.2.2.2.2.1 i.2.2.2.2.2.2.2.2.2.2.2.2.2.2.2.2.2.1 i.2.2.2.2.2.2.2.2.2.2.2.2.2.2.2.2.2.2.1 i.2.2.2.2.2.2.2.2.2.2.2.2.2.2.2.2.2.2.2.2.2.1 i.2.2.2.2.2.2.2.2.2.2.2.2.2.2.2.2.2.2.2.2.2.2.2.2.2.1 i.2.2.2.2.2.2.2.2.2.2.2.2.2.2.2.2.2.2.2.2.2.2.2.2.2.2.2.2):=⟨_,rfl⟩
 have M:∀ {b:Nat} {J:Option Addr} {g:Nat} {a:List UInt8} {d:Int} {C:Int} {E:Int} {n:Nat} {o:Nat} {p:Nat} {r:Nat} {s:Nat} {u:Nat} {x:Nat} {z:Nat} {A:Nat} {F:Bool} {G:List UInt8} {I:List UInt8} {X:Option Addr} {Y:Nat} {h:List aB} {Z:Option Addr} {ae:Nat} {U:List af} {l:List aP} {ag:Option Addr} {ah:Nat} {j:List aA} {w':World},kG (b,J,g,a,d,C,E,n,o,p,r,s,u,x,z,A,F,G,I,X,Y,h,Z,ae,U,l,ag,ah,j) w'↔Own w D w' [blk g0 [.slice J a.length g, .int .i64 d] 120,blk B (bf c.ae c.bq c.dw c.aQ C E n o p r s u x z A F G I X h.length Y Z l.length ae ag j.length ah) 29,row X h.length Y (List.flatMap aB.cells h) 64 6,row Z l.length ae (List.flatMap af.cells U) 84 3,sepL (List.flatMap yQ U),row ag j.length ah (List.flatMap aA.cells j) 88 2]∧List.map zh U=l∧aj 1 aL aN p0.ag.ls J g a∧b≤N.length∧h.length≤1000∧l.length≤1000∧j.length≤1000∧n≤18446744073709551615∧o≤18446744073709551615∧p≤18446744073709551615∧r≤18446744073709551615∧s≤18446744073709551615∧u≤18446744073709551615∧x≤18446744073709551615∧z≤18446744073709551615∧A≤18446744073709551615∧aO c N p0.ag.ls p0.az c.bu c.bO c.bG c.aY c.bF c.bH c.bL c.aV c.bB c.aK c.xN c.bV c.aG.aD c.aG.aH c.ax.ls c.ah.ls c.ai.ls=aO c (List.drop b N) a d C E n o p r s u x z A F G I h l j:=by intros; subst kH; exact Iff.rfl
 refine Wp.loop (fun i:Nat × (Option Addr) × Nat × (List UInt8) × Int × Int × Int × Nat × Nat × Nat × Nat × Nat × Nat × Nat × Nat × Nat × Bool × (List UInt8) × (List UInt8) × (Option Addr) × Nat × (List aB) × (Option Addr) × Nat × (List af) × (List aP) × (Option Addr) × Nat × (List aA)=> [(12, .int .i64 ((i.1:Nat):Int)),(11, .int .i64 ((N.length:Nat):Int)),(10, .slice A2 N.length c2),(0, .pointer (some ⟨g0,0,none⟩)),(1, .pointer (some ⟨B,0,none⟩))]) kG (fun i=>N.length - i.1) (0,aL,aN,p0.ag.ls,p0.az,c.bu,c.bO,c.bG,c.aY,c.bF,c.bH,c.bL,c.aV,c.bB,c.aK,c.xN,c.bV,c.aG.aD,c.aG.aH,bQ,bS,c.ax.ls,bT,bU,aU,c.ah.ls,bV,bW,c.ai.ls) ⟨rfl,rfl,rfl,rfl,rfl,trivial⟩ (M.2 ⟨nG,by exact dW,by exact(aj.refl (by omega)),by omega,by first | omega | exact BJ _,by first | omega | exact BJ _,by first | omega | exact BJ _,by omega,by omega,by omega,by omega,by omega,by omega,by omega,by omega,by omega,rfl⟩) ?_
 rintro ⟨b,J,g,a,d,C,E,n,o,p,r,s,u,x,z,A,F,G,I,X,Y,h,Z,ae,U,l,ag,ah,j⟩ nH kI
 show Wp _ _ _ [(12, .int .i64 ((b:Nat):Int)),(11, .int .i64 ((N.length:Nat):Int)),(10, .slice A2 N.length c2),(0, .pointer (some ⟨g0,0,none⟩)),(1, .pointer (some ⟨B,0,none⟩))] _ _
 obtain⟨ak,O,f,oV,oW,oZ,o5,o6,o7,o8,o9,pg,pu,pz,pE,pF,P⟩:=M.1 kI
 have pG:=dG O
 have pI:=(f).le
 refine sr (Kz (.bool (decide (((b:Nat):Int) < ((N.length:Nat):Int)))) (nt (yJ ?_)))
 by_cases kJ:((b:Nat):Int) < ((N.length:Nat):Int)
 obtain⟨L,gq⟩:=dV (ls:=N) (i:=b) mi (by decide) (ak.ro iM) (by first | omega | (simp; done) | (simp; omega))
 have R:=drop_at gq
 refine jT (dT kJ) (sk (yJ (bo (sr (fw (.pointer (some ⟨ab A2,ao A2+b *1,none⟩)) (yZ (uh) rfl rfl ((ak.ro iM).addr (i:=b) (by omega)) (by omega)) (fw (.int .i64 L) (y5 rfl (bn.one Tryz.isAgg93 (((ak.ro iM).elem mi gq (by decide)).at_ (k:=0) rfl))) (An rfl (yJ (sr (Mz rfl (Mz rfl ?_)))))))))))
 refine WL.do rfl (zf Tryz.call54 rfl ?_ (fun _ _ k=>k))
 refine yR (args:= [.pointer (some ⟨B,0,none⟩), .int .i64 L]) Tryz.func54 rfl rfl rfl ?_
 show Wp _ _ _ [(0, .pointer (some ⟨B,0,none⟩)),(1, .int .i64 L)] _ _
 refine sr (Az rfl (An rfl (yJ (sr (Mn rfl (bo (sr (Kz (.bool (decide (L=0))) (An rfl ?_)))))))))
 by_cases av:L=0
 refine jT (dT av) (sr (Mz rfl (Kz (.pointer (some ⟨B,0,none⟩)) (Kz (.pointer (some ⟨B,6,none⟩)) (Az rfl (An rfl (rt (bR (tR (y9 (gD rfl rfl rfl) (Mz rfl (Kz (.pointer (some ⟨B,6,none⟩)) (Kz (.bool true) (Az rfl (Ar rfl (Mn rfl (jt (sr (Mz rfl (Mz rfl ?_))))))))))))))))))))
 obtain⟨⟨fZ,gm⟩,gu⟩:∃ q:Nat × ReaderT,aI (ReaderT.mk (Ll.mk a) d) 18446744073709551615=q:=⟨_,rfl⟩
 obtain⟨q8,kK,kL,kM,pJ⟩:=yT ak
 refine cl Tryz.call79 (dS _ _ g0 (ReaderT.mk (Ll.mk a) d) J g 18446744073709551615 fZ gm kK (fun w9 h9=>aj.rds ay (by decide) f ((kL _ K) w9 h9)) (show a.length≤g∧a.length≤9223372036854775807 from by omega) gu) ?_
 rintro _ q9 ⟨kN,kP,rfl,kR,bY,gy⟩
 have nI:=kM _ _ kR
 replace bY:aj 1 J g a kN kP gm.ag.ls:=bY
 have pK:=(bY).le
 replace gy:fZ≤18446744073709551615:=gy
 refine Kz (.pointer (some ⟨B,6,none⟩)) ?_
 have nJ:=nI.pk [1,0,2,3,4,5]
 refine bz [.int .u64 ((fZ:Nat):Int)] 6 nJ Tryz.sizeOf22 ?_
 intro rf nK
 refine nt (Wp.exit (yV (y8 (yL (yK (fw (.int .i64 ((b+1:Nat):Int)) (yS (e:=IntKind.i64.wrap (((b:Nat):Int)+1)) yk (by rw [BI _ (by omega)]; omega)) (Mz rfl (WL.nil ?_))))))))
 have kS:=nK.pk [1,0,2,3,4,5]
 exact yY (b+1,kN,kP,gm.ag.ls,gm.az,C,E,fZ,o,p,r,s,u,x,z,A,F,G,I,X,Y,h,Z,ae,U,l,ag,ah,j) ⟨rfl,rfl,rfl,rfl,rfl,trivial⟩ (M.2 ⟨kS,by exact O,by exact(aj.trans f bY),by omega,by first | omega | exact BJ _,by first | omega | exact BJ _,by first | omega | exact BJ _,by omega,by omega,by omega,by omega,by omega,by omega,by omega,by omega,by omega,et (P) (et (congrArg (fun q=>aO c q a d C E n o p r s u x z A F G I h l j) R) (et (ip av) (aa gu)))⟩) (by show N.length - (b+1) < N.length - b; omega)
 refine jF (dF av) (sr (Kz (.bool (decide (L=1))) (An rfl ?_)))
 by_cases Q:L=1
 refine jT (dT Q) (sr (Mz rfl (Kz (.pointer (some ⟨B,0,none⟩)) (Kz (.pointer (some ⟨B,7,none⟩)) (Az rfl (An rfl (rt (bR (tR (y9 (gD rfl rfl rfl) (Mz rfl (Kz (.pointer (some ⟨B,7,none⟩)) (Kz (.bool true) (Az rfl (Ar rfl (Mn rfl (jt (sr (Mz rfl (Mz rfl ?_))))))))))))))))))))
 obtain⟨⟨bZ,cu⟩,dX⟩:∃ q:Nat × ReaderT,aI (ReaderT.mk (Ll.mk a) d) 18446744073709551615=q:=⟨_,rfl⟩
 obtain⟨pM,iO,iP,iQ,nL⟩:=yT ak
 refine cl Tryz.call79 (dS _ _ g0 (ReaderT.mk (Ll.mk a) d) J g 18446744073709551615 bZ cu iO (fun w9 h9=>aj.rds ay (by decide) f ((iP _ K) w9 h9)) (show a.length≤g∧a.length≤9223372036854775807 from by omega) dX) ?_
 rintro _ pO ⟨gz,gB,rfl,iR,bg,d9⟩
 have kT:=iQ _ _ iR
 replace bg:aj 1 J g a gz gB cu.ag.ls:=bg
 have nM:=(bg).le
 replace d9:bZ≤18446744073709551615:=d9
 refine Kz (.pointer (some ⟨B,7,none⟩)) ?_
 have kU:=kT.pk [1,0,2,3,4,5]
 refine bz [.int .u64 ((bZ:Nat):Int)] 7 kU Tryz.sizeOf22 ?_
 intro pQ kV
 refine nt (Wp.exit (yV (y8 (yL (yK (fw (.int .i64 ((b+1:Nat):Int)) (yS (e:=IntKind.i64.wrap (((b:Nat):Int)+1)) yk (by rw [BI _ (by omega)]; omega)) (Mz rfl (WL.nil ?_))))))))
 have kW:=kV.pk [1,0,2,3,4,5]
 exact yY (b+1,gz,gB,cu.ag.ls,cu.az,C,E,n,bZ,p,r,s,u,x,z,A,F,G,I,X,Y,h,Z,ae,U,l,ag,ah,j) ⟨rfl,rfl,rfl,rfl,rfl,trivial⟩ (M.2 ⟨kW,by exact O,by exact(aj.trans f bg),by omega,by first | omega | exact BJ _,by first | omega | exact BJ _,by first | omega | exact BJ _,by omega,by omega,by omega,by omega,by omega,by omega,by omega,by omega,by omega,et (P) (et (congrArg (fun q=>aO c q a d C E n o p r s u x z A F G I h l j) R) (et (iN av) (et (ip Q) (aa dX))))⟩) (by show N.length - (b+1) < N.length - b; omega)
 refine jF (dF Q) (sr (Kz (.bool (decide (L=4))) (An rfl ?_)))
 by_cases S:L=4
 refine jT (dT S) (sr (Mz rfl (Kz (.pointer (some ⟨B,0,none⟩)) (Kz (.pointer (some ⟨B,8,none⟩)) (Az rfl (An rfl (rt (bR (tR (y9 (gD rfl rfl rfl) (Mz rfl (Kz (.pointer (some ⟨B,8,none⟩)) (Kz (.bool true) (Az rfl (Ar rfl (Mn rfl (jt (sr (Mz rfl (Mz rfl ?_))))))))))))))))))))
 obtain⟨⟨cz,cB⟩,ed⟩:∃ q:Nat × ReaderT,aI (ReaderT.mk (Ll.mk a) d) 18446744073709551615=q:=⟨_,rfl⟩
 obtain⟨pR,iT,iU,iV,nN⟩:=yT ak
 refine cl Tryz.call79 (dS _ _ g0 (ReaderT.mk (Ll.mk a) d) J g 18446744073709551615 cz cB iT (fun w9 h9=>aj.rds ay (by decide) f ((iU _ K) w9 h9)) (show a.length≤g∧a.length≤9223372036854775807 from by omega) ed) ?_
 rintro _ pU ⟨gF,gG,rfl,iW,bi,ek⟩
 have kX:=iV _ _ iW
 replace bi:aj 1 J g a gF gG cB.ag.ls:=bi
 have nO:=(bi).le
 replace ek:cz≤18446744073709551615:=ek
 refine Kz (.pointer (some ⟨B,8,none⟩)) ?_
 have kY:=kX.pk [1,0,2,3,4,5]
 refine bz [.int .u64 ((cz:Nat):Int)] 8 kY Tryz.sizeOf22 ?_
 intro pV lc
 refine nt (Wp.exit (yV (y8 (yL (yK (fw (.int .i64 ((b+1:Nat):Int)) (yS (e:=IntKind.i64.wrap (((b:Nat):Int)+1)) yk (by rw [BI _ (by omega)]; omega)) (Mz rfl (WL.nil ?_))))))))
 have lg:=lc.pk [1,0,2,3,4,5]
 exact yY (b+1,gF,gG,cB.ag.ls,cB.az,C,E,n,o,cz,r,s,u,x,z,A,F,G,I,X,Y,h,Z,ae,U,l,ag,ah,j) ⟨rfl,rfl,rfl,rfl,rfl,trivial⟩ (M.2 ⟨lg,by exact O,by exact(aj.trans f bi),by omega,by first | omega | exact BJ _,by first | omega | exact BJ _,by first | omega | exact BJ _,by omega,by omega,by omega,by omega,by omega,by omega,by omega,by omega,by omega,et (P) (et (congrArg (fun q=>aO c q a d C E n o p r s u x z A F G I h l j) R) (et (iN av) (et (iN Q) (et (ip S) (aa ed)))))⟩) (by show N.length - (b+1) < N.length - b; omega)
 refine jF (dF S) (sr (Kz (.bool (decide (L=5))) (An rfl ?_)))
 by_cases T:L=5
 refine jT (dT T) (sr (Mz rfl (Kz (.pointer (some ⟨B,0,none⟩)) (Kz (.pointer (some ⟨B,9,none⟩)) (Az rfl (An rfl (rt (bR (tR (y9 (gD rfl rfl rfl) (Mz rfl (Kz (.pointer (some ⟨B,9,none⟩)) (Kz (.bool true) (Az rfl (Ar rfl (Mn rfl (jt (sr (Mz rfl (Mz rfl ?_))))))))))))))))))))
 obtain⟨⟨cK,cZ⟩,eu⟩:∃ q:Nat × ReaderT,aI (ReaderT.mk (Ll.mk a) d) 18446744073709551615=q:=⟨_,rfl⟩
 obtain⟨pW,iX,iY,iZ,nP⟩:=yT ak
 refine cl Tryz.call79 (dS _ _ g0 (ReaderT.mk (Ll.mk a) d) J g 18446744073709551615 cK cZ iX (fun w9 h9=>aj.rds ay (by decide) f ((iY _ K) w9 h9)) (show a.length≤g∧a.length≤9223372036854775807 from by omega) eu) ?_
 rintro _ pX ⟨gH,gI,rfl,ja,bq,eD⟩
 have lh:=iZ _ _ ja
 replace bq:aj 1 J g a gH gI cZ.ag.ls:=bq
 have nQ:=(bq).le
 replace eD:cK≤18446744073709551615:=eD
 refine Kz (.pointer (some ⟨B,9,none⟩)) ?_
 have ll:=lh.pk [1,0,2,3,4,5]
 refine bz [.int .u64 ((cK:Nat):Int)] 9 ll Tryz.sizeOf22 ?_
 intro pY lm
 refine nt (Wp.exit (yV (y8 (yL (yK (fw (.int .i64 ((b+1:Nat):Int)) (yS (e:=IntKind.i64.wrap (((b:Nat):Int)+1)) yk (by rw [BI _ (by omega)]; omega)) (Mz rfl (WL.nil ?_))))))))
 have lq:=lm.pk [1,0,2,3,4,5]
 exact yY (b+1,gH,gI,cZ.ag.ls,cZ.az,C,E,n,o,p,cK,s,u,x,z,A,F,G,I,X,Y,h,Z,ae,U,l,ag,ah,j) ⟨rfl,rfl,rfl,rfl,rfl,trivial⟩ (M.2 ⟨lq,by exact O,by exact(aj.trans f bq),by omega,by first | omega | exact BJ _,by first | omega | exact BJ _,by first | omega | exact BJ _,by omega,by omega,by omega,by omega,by omega,by omega,by omega,by omega,by omega,et (P) (et (congrArg (fun q=>aO c q a d C E n o p r s u x z A F G I h l j) R) (et (iN av) (et (iN Q) (et (iN S) (et (ip T) (aa eu))))))⟩) (by show N.length - (b+1) < N.length - b; omega)
 refine jF (dF T) (sr (Kz (.bool (decide (L=6))) (An rfl ?_)))
 by_cases V:L=6
 refine jT (dT V) (sr (Mz rfl (Kz (.pointer (some ⟨B,0,none⟩)) (Kz (.pointer (some ⟨B,11,none⟩)) (Az rfl (An rfl (rt (bR (tR (y9 (gD rfl rfl rfl) (Mz rfl (Kz (.pointer (some ⟨B,11,none⟩)) (Kz (.bool true) (Az rfl (Ar rfl (Mn rfl (jt (sr (Mz rfl (Mz rfl ?_))))))))))))))))))))
 obtain⟨⟨df,dh⟩,eF⟩:∃ q:Nat × ReaderT,aI (ReaderT.mk (Ll.mk a) d) 18446744073709551615=q:=⟨_,rfl⟩
 obtain⟨p8,jb,jc,jd,nR⟩:=yT ak
 refine cl Tryz.call79 (dS _ _ g0 (ReaderT.mk (Ll.mk a) d) J g 18446744073709551615 df dh jb (fun w9 h9=>aj.rds ay (by decide) f ((jc _ K) w9 h9)) (show a.length≤g∧a.length≤9223372036854775807 from by omega) eF) ?_
 rintro _ p9 ⟨gJ,gK,rfl,je,bu,eH⟩
 have lu:=jd _ _ je
 replace bu:aj 1 J g a gJ gK dh.ag.ls:=bu
 have nS:=(bu).le
 replace eH:df≤18446744073709551615:=eH
 refine Kz (.pointer (some ⟨B,11,none⟩)) ?_
 have lv:=lu.pk [1,0,2,3,4,5]
 refine bz [.int .u64 ((df:Nat):Int)] 11 lv Tryz.sizeOf22 ?_
 intro qa lw
 refine nt (Wp.exit (yV (y8 (yL (yK (fw (.int .i64 ((b+1:Nat):Int)) (yS (e:=IntKind.i64.wrap (((b:Nat):Int)+1)) yk (by rw [BI _ (by omega)]; omega)) (Mz rfl (WL.nil ?_))))))))
 have lC:=lw.pk [1,0,2,3,4,5]
 exact yY (b+1,gJ,gK,dh.ag.ls,dh.az,C,E,n,o,p,r,s,df,x,z,A,F,G,I,X,Y,h,Z,ae,U,l,ag,ah,j) ⟨rfl,rfl,rfl,rfl,rfl,trivial⟩ (M.2 ⟨lC,by exact O,by exact(aj.trans f bu),by omega,by first | omega | exact BJ _,by first | omega | exact BJ _,by first | omega | exact BJ _,by omega,by omega,by omega,by omega,by omega,by omega,by omega,by omega,by omega,et (P) (et (congrArg (fun q=>aO c q a d C E n o p r s u x z A F G I h l j) R) (et (iN av) (et (iN Q) (et (iN S) (et (iN T) (et (ip V) (aa eF)))))))⟩) (by show N.length - (b+1) < N.length - b; omega)
 refine jF (dF V) (sr (Kz (.bool (decide (L=9))) (An rfl ?_)))
 by_cases ai:L=9
 refine jT (dT ai) (sr (Mz rfl (Kz (.pointer (some ⟨B,0,none⟩)) (Kz (.pointer (some ⟨B,10,none⟩)) (Az rfl (An rfl (rt (bR (tR (y9 (gD rfl rfl rfl) (Mz rfl (Kz (.pointer (some ⟨B,10,none⟩)) (Kz (.bool true) (Az rfl (Ar rfl (Mn rfl (jt (sr (Mz rfl (Mz rfl ?_))))))))))))))))))))
 obtain⟨⟨di,dm⟩,eO⟩:∃ q:Nat × ReaderT,aI (ReaderT.mk (Ll.mk a) d) 18446744073709551615=q:=⟨_,rfl⟩
 obtain⟨qb,jg,jh,ji,nT⟩:=yT ak
 refine cl Tryz.call79 (dS _ _ g0 (ReaderT.mk (Ll.mk a) d) J g 18446744073709551615 di dm jg (fun w9 h9=>aj.rds ay (by decide) f ((jh _ K) w9 h9)) (show a.length≤g∧a.length≤9223372036854775807 from by omega) eO) ?_
 rintro _ qc ⟨gL,gM,rfl,jk,bv,eP⟩
 have lD:=ji _ _ jk
 replace bv:aj 1 J g a gL gM dm.ag.ls:=bv
 have nU:=(bv).le
 replace eP:di≤18446744073709551615:=eP
 refine Kz (.pointer (some ⟨B,10,none⟩)) ?_
 have lF:=lD.pk [1,0,2,3,4,5]
 refine bz [.int .u64 ((di:Nat):Int)] 10 lF Tryz.sizeOf22 ?_
 intro qd lG
 refine nt (Wp.exit (yV (y8 (yL (yK (fw (.int .i64 ((b+1:Nat):Int)) (yS (e:=IntKind.i64.wrap (((b:Nat):Int)+1)) yk (by rw [BI _ (by omega)]; omega)) (Mz rfl (WL.nil ?_))))))))
 have lH:=lG.pk [1,0,2,3,4,5]
 exact yY (b+1,gL,gM,dm.ag.ls,dm.az,C,E,n,o,p,r,di,u,x,z,A,F,G,I,X,Y,h,Z,ae,U,l,ag,ah,j) ⟨rfl,rfl,rfl,rfl,rfl,trivial⟩ (M.2 ⟨lH,by exact O,by exact(aj.trans f bv),by omega,by first | omega | exact BJ _,by first | omega | exact BJ _,by first | omega | exact BJ _,by omega,by omega,by omega,by omega,by omega,by omega,by omega,by omega,by omega,et (P) (et (congrArg (fun q=>aO c q a d C E n o p r s u x z A F G I h l j) R) (et (iN av) (et (iN Q) (et (iN S) (et (iN T) (et (iN V) (et (ip ai) (aa eO))))))))⟩) (by show N.length - (b+1) < N.length - b; omega)
 refine jF (dF ai) (sr (Kz (.bool (decide (L=10))) (An rfl ?_)))
 by_cases au:L=10
 refine jT (dT au) (sr (Mz rfl (Kz (.pointer (some ⟨B,0,none⟩)) (Kz (.pointer (some ⟨B,12,none⟩)) (Az rfl (An rfl (rt (bR (tR (y9 (gD rfl rfl rfl) (Mz rfl (Kz (.pointer (some ⟨B,12,none⟩)) (Kz (.bool true) (Az rfl (Ar rfl (Mn rfl (jt (sr (Mz rfl (Mz rfl ?_))))))))))))))))))))
 obtain⟨⟨dn,dw⟩,eQ⟩:∃ q:Nat × ReaderT,aI (ReaderT.mk (Ll.mk a) d) 18446744073709551615=q:=⟨_,rfl⟩
 obtain⟨qf,jl,jm,jo,nV⟩:=yT ak
 refine cl Tryz.call79 (dS _ _ g0 (ReaderT.mk (Ll.mk a) d) J g 18446744073709551615 dn dw jl (fun w9 h9=>aj.rds ay (by decide) f ((jm _ K) w9 h9)) (show a.length≤g∧a.length≤9223372036854775807 from by omega) eQ) ?_
 rintro _ qg ⟨gN,gP,rfl,jq,bB,eT⟩
 have lI:=jo _ _ jq
 replace bB:aj 1 J g a gN gP dw.ag.ls:=bB
 have nW:=(bB).le
 replace eT:dn≤18446744073709551615:=eT
 refine Kz (.pointer (some ⟨B,12,none⟩)) ?_
 have lJ:=lI.pk [1,0,2,3,4,5]
 refine bz [.int .u64 ((dn:Nat):Int)] 12 lJ Tryz.sizeOf22 ?_
 intro qh lK
 refine nt (Wp.exit (yV (y8 (yL (yK (fw (.int .i64 ((b+1:Nat):Int)) (yS (e:=IntKind.i64.wrap (((b:Nat):Int)+1)) yk (by rw [BI _ (by omega)]; omega)) (Mz rfl (WL.nil ?_))))))))
 have lL:=lK.pk [1,0,2,3,4,5]
 exact yY (b+1,gN,gP,dw.ag.ls,dw.az,C,E,n,o,p,r,s,u,dn,z,A,F,G,I,X,Y,h,Z,ae,U,l,ag,ah,j) ⟨rfl,rfl,rfl,rfl,rfl,trivial⟩ (M.2 ⟨lL,by exact O,by exact(aj.trans f bB),by omega,by first | omega | exact BJ _,by first | omega | exact BJ _,by first | omega | exact BJ _,by omega,by omega,by omega,by omega,by omega,by omega,by omega,by omega,by omega,et (P) (et (congrArg (fun q=>aO c q a d C E n o p r s u x z A F G I h l j) R) (et (iN av) (et (iN Q) (et (iN S) (et (iN T) (et (iN V) (et (iN ai) (et (ip au) (aa eQ)))))))))⟩) (by show N.length - (b+1) < N.length - b; omega)
 refine jF (dF au) (sr (Kz (.bool (decide (L=14))) (An rfl ?_)))
 by_cases ax:L=14
 refine jT (dT ax) (sr (Mz rfl (Kz (.pointer (some ⟨B,0,none⟩)) (Kz (.pointer (some ⟨B,13,none⟩)) (Az rfl (An rfl (rt (bR (tR (y9 (gD rfl rfl rfl) (Mz rfl (Kz (.pointer (some ⟨B,13,none⟩)) (Kz (.bool true) (Az rfl (Ar rfl (Mn rfl (jt (sr (Mz rfl (Mz rfl ?_))))))))))))))))))))
 obtain⟨⟨dx,dz⟩,eU⟩:∃ q:Nat × ReaderT,aI (ReaderT.mk (Ll.mk a) d) 18446744073709551615=q:=⟨_,rfl⟩
 obtain⟨qi,jr,jv,jw,nX⟩:=yT ak
 refine cl Tryz.call79 (dS _ _ g0 (ReaderT.mk (Ll.mk a) d) J g 18446744073709551615 dx dz jr (fun w9 h9=>aj.rds ay (by decide) f ((jv _ K) w9 h9)) (show a.length≤g∧a.length≤9223372036854775807 from by omega) eU) ?_
 rintro _ qj ⟨gQ,gT,rfl,jy,bF,eX⟩
 have lM:=jw _ _ jy
 replace bF:aj 1 J g a gQ gT dz.ag.ls:=bF
 have nY:=(bF).le
 replace eX:dx≤18446744073709551615:=eX
 refine Kz (.pointer (some ⟨B,13,none⟩)) ?_
 have lN:=lM.pk [1,0,2,3,4,5]
 refine bz [.int .u64 ((dx:Nat):Int)] 13 lN Tryz.sizeOf22 ?_
 intro ql lQ
 refine nt (Wp.exit (yV (y8 (yL (yK (fw (.int .i64 ((b+1:Nat):Int)) (yS (e:=IntKind.i64.wrap (((b:Nat):Int)+1)) yk (by rw [BI _ (by omega)]; omega)) (Mz rfl (WL.nil ?_))))))))
 have lS:=lQ.pk [1,0,2,3,4,5]
 exact yY (b+1,gQ,gT,dz.ag.ls,dz.az,C,E,n,o,p,r,s,u,x,dx,A,F,G,I,X,Y,h,Z,ae,U,l,ag,ah,j) ⟨rfl,rfl,rfl,rfl,rfl,trivial⟩ (M.2 ⟨lS,by exact O,by exact(aj.trans f bF),by omega,by first | omega | exact BJ _,by first | omega | exact BJ _,by first | omega | exact BJ _,by omega,by omega,by omega,by omega,by omega,by omega,by omega,by omega,by omega,et (P) (et (congrArg (fun q=>aO c q a d C E n o p r s u x z A F G I h l j) R) (et (iN av) (et (iN Q) (et (iN S) (et (iN T) (et (iN V) (et (iN ai) (et (iN au) (et (ip ax) (aa eU))))))))))⟩) (by show N.length - (b+1) < N.length - b; omega)
 refine jF (dF ax) (sr (Kz (.bool (decide (L=15))) (An rfl ?_)))
 by_cases aD:L=15
 refine jT (dT aD) (sr (Mz rfl (Kz (.pointer (some ⟨B,0,none⟩)) (Kz (.pointer (some ⟨B,14,none⟩)) (Az rfl (An rfl (rt (bR (tR (y9 (gD rfl rfl rfl) (Mz rfl (Kz (.pointer (some ⟨B,14,none⟩)) (Kz (.bool true) (Az rfl (Ar rfl (Mn rfl (jt (sr (Mz rfl (Mz rfl ?_))))))))))))))))))))
 obtain⟨⟨dA,dB⟩,fe⟩:∃ q:Nat × ReaderT,aI (ReaderT.mk (Ll.mk a) d) 18446744073709551615=q:=⟨_,rfl⟩
 obtain⟨qm,jA,jB,jC,nZ⟩:=yT ak
 refine cl Tryz.call79 (dS _ _ g0 (ReaderT.mk (Ll.mk a) d) J g 18446744073709551615 dA dB jA (fun w9 h9=>aj.rds ay (by decide) f ((jB _ K) w9 h9)) (show a.length≤g∧a.length≤9223372036854775807 from by omega) fe) ?_
 rintro _ qo ⟨gU,gV,rfl,jD,bG,fo⟩
 have lT:=jC _ _ jD
 replace bG:aj 1 J g a gU gV dB.ag.ls:=bG
 have oh:=(bG).le
 replace fo:dA≤18446744073709551615:=fo
 refine Kz (.pointer (some ⟨B,14,none⟩)) ?_
 have lU:=lT.pk [1,0,2,3,4,5]
 refine bz [.int .u64 ((dA:Nat):Int)] 14 lU Tryz.sizeOf22 ?_
 intro qp lV
 refine nt (Wp.exit (yV (y8 (yL (yK (fw (.int .i64 ((b+1:Nat):Int)) (yS (e:=IntKind.i64.wrap (((b:Nat):Int)+1)) yk (by rw [BI _ (by omega)]; omega)) (Mz rfl (WL.nil ?_))))))))
 have lW:=lV.pk [1,0,2,3,4,5]
 exact yY (b+1,gU,gV,dB.ag.ls,dB.az,C,E,n,o,p,r,s,u,x,z,dA,F,G,I,X,Y,h,Z,ae,U,l,ag,ah,j) ⟨rfl,rfl,rfl,rfl,rfl,trivial⟩ (M.2 ⟨lW,by exact O,by exact(aj.trans f bG),by omega,by first | omega | exact BJ _,by first | omega | exact BJ _,by first | omega | exact BJ _,by omega,by omega,by omega,by omega,by omega,by omega,by omega,by omega,by omega,et (P) (et (congrArg (fun q=>aO c q a d C E n o p r s u x z A F G I h l j) R) (et (iN av) (et (iN Q) (et (iN S) (et (iN T) (et (iN V) (et (iN ai) (et (iN au) (et (iN ax) (et (ip aD) (aa fe)))))))))))⟩) (by show N.length - (b+1) < N.length - b; omega)
 refine jF (dF aD) (zm (bN (yL (sr (Az rfl (An rfl (rt (y9 (gD rfl rfl rfl) (Mz rfl (Kz (.pointer none) (Kz (.bool false) (Az rfl (Ar rfl (Mn rfl (jf (sk (sr (Mn rfl (bo (sr (Kz (.bool (decide (L=2))) (An rfl ?_))))))))))))))))))))))
 by_cases aG:L=2
 refine jT (dT aG) (yK (Mz rfl (Mz rfl ?_)))
 obtain⟨⟨aX,dC⟩,fq⟩:∃ q:UInt8 × ReaderT,aW (ReaderT.mk (Ll.mk a) d)=q:=⟨_,rfl⟩
 obtain⟨qw,jE,jG,jH,ol⟩:=yT ak
 refine cl Tryz.call39 (dY _ _ g0 (ReaderT.mk (Ll.mk a) d) J g aX dC jE (fun w9 h9=>aj.rds ay (by decide) f ((jG _ K) w9 h9)) (show a.length≤g∧a.length≤9223372036854775807 from by omega) fq) ?_
 rintro _ qx ⟨gW,gX,rfl,jI,bH⟩
 have lX:=jH _ _ jI
 replace bH:aj 1 J g a gW gX dC.ag.ls:=bH
 have om:=(bH).le
 have oo:aX.toNat≤255:=Nat.le_of_lt_succ (UInt8.toNat_lt _)
 refine fw (.int .i64 ((aX.toNat:Nat):Int)) (yS (e:=IntKind.i64.wrap ((aX.toNat:Nat):Int)) yk (BI _ (by omega))) (Kz (.pointer (some ⟨B,0,none⟩)) (Kz (.pointer (some ⟨B,4,none⟩)) ?_))
 have lY:=lX.pk [1,0,2,3,4,5]
 refine bz [.int .i64 ((aX.toNat:Nat):Int)] 4 lY Tryz.sizeOf3 ?_
 intro qy lZ
 refine WL.nil (bN (bN (yL (yK (fw (.int .i64 ((b+1:Nat):Int)) (yS (e:=IntKind.i64.wrap (((b:Nat):Int)+1)) yk (by rw [BI _ (by omega)]; omega)) (Mz rfl (WL.nil ?_)))))))
 have l5:=lZ.pk [1,0,2,3,4,5]
 exact yY (b+1,gW,gX,dC.ag.ls,dC.az,((aX.toNat:Nat):Int),E,n,o,p,r,s,u,x,z,A,F,G,I,X,Y,h,Z,ae,U,l,ag,ah,j) ⟨rfl,rfl,rfl,rfl,rfl,trivial⟩ (M.2 ⟨l5,by exact O,by exact(aj.trans f bH),by omega,by first | omega | exact BJ _,by first | omega | exact BJ _,by first | omega | exact BJ _,by omega,by omega,by omega,by omega,by omega,by omega,by omega,by omega,by omega,et (P) (et (congrArg (fun q=>aO c q a d C E n o p r s u x z A F G I h l j) R) (et (iN av) (et (iN Q) (et (iN S) (et (iN T) (et (iN V) (et (iN ai) (et (iN au) (et (iN ax) (et (iN aD) (et (ip aG) (aa fq))))))))))))⟩) (by show N.length - (b+1) < N.length - b; omega)
 refine jF (dF aG) (sr (Kz (.bool (decide (L=12))) (An rfl ?_)))
 by_cases aH:L=12
 refine jT (dT aH) (yK (Mz rfl (Mz rfl ?_)))
 obtain⟨⟨aY,dD⟩,fu⟩:∃ q:UInt8 × ReaderT,aW (ReaderT.mk (Ll.mk a) d)=q:=⟨_,rfl⟩
 obtain⟨qz,jJ,jK,jL,oq⟩:=yT ak
 refine cl Tryz.call39 (dY _ _ g0 (ReaderT.mk (Ll.mk a) d) J g aY dD jJ (fun w9 h9=>aj.rds ay (by decide) f ((jK _ K) w9 h9)) (show a.length≤g∧a.length≤9223372036854775807 from by omega) fu) ?_
 rintro _ qA ⟨gY,gZ,rfl,jM,bI⟩
 have l6:=jL _ _ jM
 replace bI:aj 1 J g a gY gZ dD.ag.ls:=bI
 have ou:=(bI).le
 have ow:aY.toNat≤255:=Nat.le_of_lt_succ (UInt8.toNat_lt _)
 refine fw (.int .i64 ((aY.toNat:Nat):Int)) (yS (e:=IntKind.i64.wrap ((aY.toNat:Nat):Int)) yk (BI _ (by omega))) (Kz (.pointer (some ⟨B,0,none⟩)) (Kz (.pointer (some ⟨B,5,none⟩)) ?_))
 have l7:=l6.pk [1,0,2,3,4,5]
 refine bz [.int .i64 ((aY.toNat:Nat):Int)] 5 l7 Tryz.sizeOf3 ?_
 intro qB l8
 refine WL.nil (bN (bN (yL (yK (fw (.int .i64 ((b+1:Nat):Int)) (yS (e:=IntKind.i64.wrap (((b:Nat):Int)+1)) yk (by rw [BI _ (by omega)]; omega)) (Mz rfl (WL.nil ?_)))))))
 have l9:=l8.pk [1,0,2,3,4,5]
 exact yY (b+1,gY,gZ,dD.ag.ls,dD.az,C,((aY.toNat:Nat):Int),n,o,p,r,s,u,x,z,A,F,G,I,X,Y,h,Z,ae,U,l,ag,ah,j) ⟨rfl,rfl,rfl,rfl,rfl,trivial⟩ (M.2 ⟨l9,by exact O,by exact(aj.trans f bI),by omega,by first | omega | exact BJ _,by first | omega | exact BJ _,by first | omega | exact BJ _,by omega,by omega,by omega,by omega,by omega,by omega,by omega,by omega,by omega,et (P) (et (congrArg (fun q=>aO c q a d C E n o p r s u x z A F G I h l j) R) (et (iN av) (et (iN Q) (et (iN S) (et (iN T) (et (iN V) (et (iN ai) (et (iN au) (et (iN ax) (et (iN aD) (et (iN aG) (et (ip aH) (aa fu)))))))))))))⟩) (by show N.length - (b+1) < N.length - b; omega)
 refine jF (dF aH) (sr (Kz (.bool (decide (L=8))) (An rfl ?_)))
 by_cases aK:L=8
 refine jT (dT aK) (yK (Mz rfl (Mz rfl ?_)))
 obtain⟨⟨fA,dE⟩,fB⟩:∃ q:Bool × ReaderT,fU (ReaderT.mk (Ll.mk a) d)=q:=⟨_,rfl⟩
 obtain⟨qC,jN,jO,jP,oz⟩:=yT ak
 refine cl Tryz.call80 (mK _ _ g0 (ReaderT.mk (Ll.mk a) d) J g fA dE jN (fun w9 h9=>aj.rds ay (by decide) f ((jO _ K) w9 h9)) (show a.length≤g∧a.length≤9223372036854775807 from by omega) fB) ?_
 rintro _ qD ⟨ib,ic,rfl,jQ,bJ⟩
 have ma:=jP _ _ jQ
 replace bJ:aj 1 J g a ib ic dE.ag.ls:=bJ
 have oC:=(bJ).le
 refine Kz (.pointer (some ⟨B,0,none⟩)) (Kz (.pointer (some ⟨B,15,none⟩)) ?_)
 have mf:=ma.pk [1,0,2,3,4,5]
 refine bz [.bool fA] 15 mf Tryz.sizeOf4 ?_
 intro qE mg
 refine WL.nil (bN (bN (yL (yK (fw (.int .i64 ((b+1:Nat):Int)) (yS (e:=IntKind.i64.wrap (((b:Nat):Int)+1)) yk (by rw [BI _ (by omega)]; omega)) (Mz rfl (WL.nil ?_)))))))
 have mo:=mg.pk [1,0,2,3,4,5]
 exact yY (b+1,ib,ic,dE.ag.ls,dE.az,C,E,n,o,p,r,s,u,x,z,A,fA,G,I,X,Y,h,Z,ae,U,l,ag,ah,j) ⟨rfl,rfl,rfl,rfl,rfl,trivial⟩ (M.2 ⟨mo,by exact O,by exact(aj.trans f bJ),by omega,by first | omega | exact BJ _,by first | omega | exact BJ _,by first | omega | exact BJ _,by omega,by omega,by omega,by omega,by omega,by omega,by omega,by omega,by omega,et (P) (et (congrArg (fun q=>aO c q a d C E n o p r s u x z A F G I h l j) R) (et (iN av) (et (iN Q) (et (iN S) (et (iN T) (et (iN V) (et (iN ai) (et (iN au) (et (iN ax) (et (iN aD) (et (iN aG) (et (iN aH) (et (ip aK) (aa fB))))))))))))))⟩) (by show N.length - (b+1) < N.length - b; omega)
 refine jF (dF aK) (sr (Kz (.bool (decide (L=13))) (An rfl ?_)))
 by_cases aQ:L=13
 refine jT (dT aQ) ?_
 have mq:=ak.pk [2,3,4,5,0,1]
 have dH:=mq.drew
 refine zt [] (fun W=> ∃ L',Own w D W ([row X h.length Y (List.flatMap aB.cells h) 64 6,row Z l.length ae (List.flatMap af.cells U) 84 3,sepL (List.flatMap yQ U),row ag j.length ah (List.flatMap aA.cells j) 88 2]++L')) (by kernel_rfl) (by kernel_rfl) (bM.block (bM.block (zb (zb (bM.block zw))))) ⟨_,dH⟩ ?_
 revert dH
 generalize World.drew nH=qF
 intro dH
 refine GX.take (v:= .pointer (some ⟨g0,0,none⟩)) (rs:= []) 0 rfl (by kernel_rfl) (fun _ _=>yO rfl) (GX.take (v:= .pointer (some ⟨B,0,none⟩)) (rs:= []) 1 rfl (by kernel_rfl) (fun _ _=>yO rfl) (GX.take (v:= .pointer (some ⟨B,0,none⟩)) (rs:= []) 2 rfl (by kernel_rfl) (fun _ _=>yk) (GX.take (v:= .pointer (some ⟨B,16,none⟩)) (rs:= []) 3 rfl (by kernel_rfl) (fun _ _=>yk) (GX.take (v:= .pointer (some ⟨B,16,none⟩)) (rs:= []) 4 rfl (by kernel_rfl) (fun _ _=>yk) (GX.take (v:= .pointer (some ⟨B,0,none⟩)) (rs:= []) 5 rfl (by kernel_rfl) (fun _ _=>yO rfl) (GX.take (v:= .pointer (some ⟨B,0,none⟩)) (rs:= []) 6 rfl (by kernel_rfl) (fun _ _=>yk) (GX.take (v:= .pointer (some ⟨B,16,none⟩)) (rs:= []) 7 rfl (by kernel_rfl) (fun _ _=>yk) (GX.take (v:= .pointer (some ⟨B,17,none⟩)) (rs:= []) 8 rfl (by kernel_rfl) (fun _ _=>yk) ?_))))))))
 refine GX.do 9 rfl (by kernel_rfl) (zn (cs:= [.pointer (some ⟨B,16,none⟩), .pointer (some ⟨B,17,none⟩)]) (t:=124) (sz:=1) (m:=2) dH rfl rfl (fun _=>by kernel_rfl) rfl (by decide) ?_)
 intro aJ qG fC
 replace fC:=zi (y:=row aJ 2 2 (List.flatMap eV ([(Value.pointer (some ⟨B,16,none⟩)),(Value.pointer (some ⟨B,17,none⟩))])) 124 1) rfl fC
 have dI:=fC.pk [1,2,3,4,0,5,6]
 refine⟨.inr ⟨_,dI⟩, ?_⟩
 refine GX.do 10 rfl (by kernel_rfl) (zf Tryz.call81 rfl ?_ (fun _ _ k=>k))
 refine yR (args:= [.pointer (some ⟨g0,0,none⟩), .slice aJ 2 2]) Tryz.func81 rfl rfl rfl ?_
 show Wp _ _ _ [(0, .pointer (some ⟨g0,0,none⟩)),(1, .slice aJ 2 2)] _ _
 refine sr (Mz rfl (Kz (.int .i64 2) (Mn rfl (bo (zN 200 (sr (Kz (.bool true) (nt (yJ (jt (sk (yJ (bo (sr ?_))))))))))))))
 have jR:([(Value.pointer (some ⟨B,16,none⟩)),(Value.pointer (some ⟨B,17,none⟩))]:List Value)[0]? =some (Value.pointer (some ⟨B,16,none⟩)):=rfl
 refine fw (.pointer (some ⟨ab aJ,ao aJ+0 *1,none⟩)) (yZ (mh) rfl rfl ((dI.rds (i:=4) rfl).addr (i:=0) (by omega)) (by omega)) (fw (.pointer (some ⟨B,16,none⟩)) (y5 rfl (bn.one Tryz.isAgg124 (((dI.rds (i:=4) rfl).elem kZ jR (by decide)).at_ (k:=0) rfl))) (An rfl (yK (Mz rfl (Mz rfl ?_)))))
 have mr:=dI.pk [5,0,1,2,3,4,6]
 obtain⟨⟨fD,aR⟩,fE⟩:∃ q:(List UInt8) × ReaderT,bA (ReaderT.mk (Ll.mk a) d) 255=q:=⟨_,rfl⟩
 obtain⟨qH,jS,jU,jV,oD⟩:=yT mr
 refine cl Tryz.call109 (eY _ _ g0 (ReaderT.mk (Ll.mk a) d) J g 255 fD aR jS (fun w9 h9=>aj.rds ay (by decide) f ((jU _ K) w9 h9)) (show a.length≤g∧a.length≤9223372036854775807 from by omega) fE) ?_
 rintro _ qI ⟨fF,dJ,rfl,jW,aS⟩
 have mD:=jV _ _ jW
 replace aS:aj 1 J g a fF dJ aR.ag.ls:=aS
 have oF:=(aS).le
 refine Kz (.pointer (some ⟨B,16,none⟩)) ?_
 have mE:=mD.pk [6,0,1,2,3,4,5]
 refine bz [.string ⟨List.toArray fD⟩] 16 mE Tryz.sizeOf9 ?_
 intro qJ fG
 refine WL.nil (bN (yL (yK (Kz (.int .i64 1) (Mz rfl (WL.nil (zx [(8, .int .i64 1),(7, .int .i64 2),(6, .slice aJ 2 2),(0, .pointer (some ⟨g0,0,none⟩))] ⟨rfl,rfl,rfl,rfl,trivial⟩ (sr (Kz (.bool true) (nt (yJ (jt (sk (yJ (bo (sr ?_))))))))))))))))
 have jX:([(Value.pointer (some ⟨B,16,none⟩)),(Value.pointer (some ⟨B,17,none⟩))]:List Value)[1]? =some (Value.pointer (some ⟨B,17,none⟩)):=rfl
 refine fw (.pointer (some ⟨ab aJ,ao aJ+1 *1,none⟩)) (yZ (mh) rfl rfl ((fG.rds (i:=6) rfl).addr (i:=1) (by omega)) (by omega)) (fw (.pointer (some ⟨B,17,none⟩)) (y5 rfl (bn.one Tryz.isAgg124 (((fG.rds (i:=6) rfl).elem kZ jX (by decide)).at_ (k:=0) rfl))) (An rfl (yK (Mz rfl (Mz rfl ?_)))))
 have mF:=fG.pk [1,0,2,3,4,5,6]
 obtain⟨⟨fH,dK⟩,fI⟩:∃ q:(List UInt8) × ReaderT,bA aR 255=q:=⟨_,rfl⟩
 obtain⟨qK,jY,jZ,j3,oG⟩:=yT mF
 refine cl Tryz.call109 (eY _ _ g0 aR fF dJ 255 fH dK jY (fun w9 h9=>aj.rds ay (by decide) aS ((fun w9 h9=>aj.rds ay (by decide) f ((jZ _ K) w9 h9)) w9 h9)) (show aR.ag.ls.length≤dJ∧aR.ag.ls.length≤9223372036854775807 from by omega) fI) ?_
 rintro _ qL ⟨ig,ik,rfl,j4,bK⟩
 have mG:=j3 _ _ j4
 replace bK:aj 1 fF dJ aR.ag.ls ig ik dK.ag.ls:=bK
 have oH:=(bK).le
 refine Kz (.pointer (some ⟨B,17,none⟩)) ?_
 have mH:=mG.pk [1,0,2,3,4,5,6]
 refine bz [.string ⟨List.toArray fH⟩] 17 mH Tryz.sizeOf9 ?_
 intro qM mI
 refine WL.nil (bN (yL (yK (Kz (.int .i64 2) (Mz rfl (WL.nil (zx [(8, .int .i64 2),(7, .int .i64 2),(6, .slice aJ 2 2),(0, .pointer (some ⟨g0,0,none⟩))] ⟨rfl,rfl,rfl,rfl,trivial⟩ (sr (Kz (.bool false) (nt (yJ (jf (Wp.exit (yV (yV (y8 (zF (res0 rfl) ?_)))))))))))))))))
 have il:=mI.pk [2,3,4,5,0,1,6]
 refine⟨.inr ⟨_,il⟩, ?_⟩
 refine zk (by kernel_rfl) (bN (bN (yL (yK (fw (.int .i64 ((b+1:Nat):Int)) (yS (e:=IntKind.i64.wrap (((b:Nat):Int)+1)) yk (by rw [BI _ (by omega)]; omega)) (Mz rfl (WL.nil ?_)))))))
 have mJ:=il.pk [5,4,0,1,2,3]
 exact yY (b+1,ig,ik,dK.ag.ls,dK.az,C,E,n,o,p,r,s,u,x,z,A,F,fD,fH,X,Y,h,Z,ae,U,l,ag,ah,j) ⟨rfl,rfl,rfl,rfl,rfl,trivial⟩ (M.2 ⟨mJ,by exact O,by exact(aj.trans (aj.trans f aS) bK),by omega,by first | omega | exact BJ _,by first | omega | exact BJ _,by first | omega | exact BJ _,by omega,by omega,by omega,by omega,by omega,by omega,by omega,by omega,by omega,et (P) (et (congrArg (fun q=>aO c q a d C E n o p r s u x z A F G I h l j) R) (et (iN av) (et (iN Q) (et (iN S) (et (iN T) (et (iN V) (et (iN ai) (et (iN au) (et (iN ax) (et (iN aD) (et (iN aG) (et (iN aH) (et (iN aK) (et (ip aQ) (et (aa fE) (aa fI))))))))))))))))⟩) (by show N.length - (b+1) < N.length - b; omega)
 refine jF (dF aQ) (sr (Kz (.bool (decide (L=7))) (An rfl ?_)))
 by_cases aZ:L=7
 refine jT (dT aZ) (yK (Mz rfl (Mz rfl ?_)))
 obtain⟨⟨dL,dM⟩,fJ⟩:∃ q:(List aB) × ReaderT,fQ (ReaderT.mk (Ll.mk a) d) 255=q:=⟨_,rfl⟩
 obtain⟨qN,j5,j6,kg,oI⟩:=yT ak
 refine cl Tryz.call82 (og _ _ g0 (ReaderT.mk (Ll.mk a) d) J g 255 dL dM j5 (fun w9 h9=>aj.rds ay (by decide) f ((j6 _ K) w9 h9)) (show a.length≤g∧a.length≤9223372036854775807 from by omega) (by omega) fJ) ?_
 rintro _ qO ⟨iq,iw,iy,iA,rfl,ko,bL,fK⟩
 have iB:=kg _ _ ko
 replace bL:aj 1 J g a iy iA dM.ag.ls:=bL
 have oJ:=(bL).le
 have oK:=iB.rowC (i:=0) rfl
 replace fK:dL.length≤1000:=fK
 refine Kz (.pointer (some ⟨B,0,none⟩)) (Kz (.pointer (some ⟨B,18,none⟩)) ?_)
 have mM:=iB.pk [2,0,1,3,4,5,6]
 refine bz [.slice iq dL.length iw] 18 mM Tryz.sizeOf25 ?_
 intro qP mO
 refine WL.nil (bN (bN (yL (yK (fw (.int .i64 ((b+1:Nat):Int)) (yS (e:=IntKind.i64.wrap (((b:Nat):Int)+1)) yk (by rw [BI _ (by omega)]; omega)) (Mz rfl (WL.nil ?_)))))))
 have mP:=mO.pk [2,0,1,4,5,6]
 exact yY (b+1,iy,iA,dM.ag.ls,dM.az,C,E,n,o,p,r,s,u,x,z,A,F,G,I,iq,iw,dL,Z,ae,U,l,ag,ah,j) ⟨rfl,rfl,rfl,rfl,rfl,trivial⟩ (M.2 ⟨mP,by exact O,by exact(aj.trans f bL),by omega,by first | omega | exact BJ _,by first | omega | exact BJ _,by first | omega | exact BJ _,by omega,by omega,by omega,by omega,by omega,by omega,by omega,by omega,by omega,et (P) (et (congrArg (fun q=>aO c q a d C E n o p r s u x z A F G I h l j) R) (et (iN av) (et (iN Q) (et (iN S) (et (iN T) (et (iN V) (et (iN ai) (et (iN au) (et (iN ax) (et (iN aD) (et (iN aG) (et (iN aH) (et (iN aK) (et (iN aQ) (et (ip aZ) (aa fJ))))))))))))))))⟩) (by show N.length - (b+1) < N.length - b; omega)
 refine jF (dF aZ) (sr (Kz (.bool (decide (L=3))) (An rfl ?_)))
 by_cases bX:L=3
 refine jT (dT bX) (yK (Mz rfl (Mz rfl ?_)))
 obtain⟨⟨dO,dP⟩,fM⟩:∃ q:(List aP) × ReaderT,eG (ReaderT.mk (Ll.mk a) d) 255=q:=⟨_,rfl⟩
 obtain⟨qQ,kr,ku,kv,oL⟩:=yT ak
 refine cl Tryz.call84 (mQ _ _ g0 (ReaderT.mk (Ll.mk a) d) J g 255 dO dP kr (fun w9 h9=>aj.rds ay (by decide) f ((ku _ K) w9 h9)) (show a.length≤g∧a.length≤9223372036854775807 from by omega) (by omega) fM) ?_
 rintro _ qR ⟨iC,iD,mR,iE,iF,rfl,kw,fO,bO,fP⟩
 have iG:=kv _ _ kw
 replace bO:aj 1 J g a iE iF dP.ag.ls:=bO
 have oM:=(bO).le
 have oN:=dG fO
 have oO:=iG.rowC (i:=0) rfl
 replace fP:dO.length≤1000:=fP
 refine Kz (.pointer (some ⟨B,0,none⟩)) (Kz (.pointer (some ⟨B,19,none⟩)) ?_)
 have mU:=iG.pk [3,0,1,2,4,5,6,7]
 refine bz [.slice iC dO.length iD] 19 mU Tryz.sizeOf26 ?_
 intro qU mV
 refine WL.nil (bN (bN (yL (yK (fw (.int .i64 ((b+1:Nat):Int)) (yS (e:=IntKind.i64.wrap (((b:Nat):Int)+1)) yk (by rw [BI _ (by omega)]; omega)) (Mz rfl (WL.nil ?_)))))))
 have mW:=mV.pk [3,0,4,1,2,7]
 exact yY (b+1,iE,iF,dP.ag.ls,dP.az,C,E,n,o,p,r,s,u,x,z,A,F,G,I,X,Y,h,iC,iD,mR,dO,ag,ah,j) ⟨rfl,rfl,rfl,rfl,rfl,trivial⟩ (M.2 ⟨mW,by exact fO,by exact(aj.trans f bO),by omega,by first | omega | exact BJ _,by first | omega | exact BJ _,by first | omega | exact BJ _,by omega,by omega,by omega,by omega,by omega,by omega,by omega,by omega,by omega,et (P) (et (congrArg (fun q=>aO c q a d C E n o p r s u x z A F G I h l j) R) (et (iN av) (et (iN Q) (et (iN S) (et (iN T) (et (iN V) (et (iN ai) (et (iN au) (et (iN ax) (et (iN aD) (et (iN aG) (et (iN aH) (et (iN aK) (et (iN aQ) (et (iN aZ) (et (ip bX) (aa fM)))))))))))))))))⟩) (by show N.length - (b+1) < N.length - b; omega)
 refine jF (dF bX) (sr (Kz (.bool (decide (L=11))) (An rfl ?_)))
 by_cases dQ:L=11
 refine jT (dT dQ) (yK (Mz rfl (Mz rfl ?_)))
 obtain⟨⟨dR,dU⟩,fT⟩:∃ q:(List aA) × ReaderT,eZ (ReaderT.mk (Ll.mk a) d) 255=q:=⟨_,rfl⟩
 obtain⟨qV,ky,kz,kC,oP⟩:=yT ak
 refine cl Tryz.call86 (ni _ _ g0 (ReaderT.mk (Ll.mk a) d) J g 255 dR dU ky (fun w9 h9=>aj.rds ay (by decide) f ((kz _ K) w9 h9)) (show a.length≤g∧a.length≤9223372036854775807 from by omega) (by omega) fT) ?_
 rintro _ qW ⟨iH,iI,iJ,iK,rfl,kD,bP,fV⟩
 have iL:=kC _ _ kD
 replace bP:aj 1 J g a iJ iK dU.ag.ls:=bP
 have oQ:=(bP).le
 have oU:=iL.rowC (i:=0) rfl
 replace fV:dR.length≤1000:=fV
 refine Kz (.pointer (some ⟨B,0,none⟩)) (Kz (.pointer (some ⟨B,20,none⟩)) ?_)
 have mX:=iL.pk [2,0,1,3,4,5,6]
 refine bz [.slice iH dR.length iI] 20 mX Tryz.sizeOf27 ?_
 intro qX mY
 refine WL.nil (bN (bN (yL (yK (fw (.int .i64 ((b+1:Nat):Int)) (yS (e:=IntKind.i64.wrap (((b:Nat):Int)+1)) yk (by rw [BI _ (by omega)]; omega)) (Mz rfl (WL.nil ?_)))))))
 have mZ:=mY.pk [2,0,3,4,5,1]
 exact yY (b+1,iJ,iK,dU.ag.ls,dU.az,C,E,n,o,p,r,s,u,x,z,A,F,G,I,X,Y,h,Z,ae,U,l,iH,iI,dR) ⟨rfl,rfl,rfl,rfl,rfl,trivial⟩ (M.2 ⟨mZ,by exact O,by exact(aj.trans f bP),by omega,by first | omega | exact BJ _,by first | omega | exact BJ _,by first | omega | exact BJ _,by omega,by omega,by omega,by omega,by omega,by omega,by omega,by omega,by omega,et (P) (et (congrArg (fun q=>aO c q a d C E n o p r s u x z A F G I h l j) R) (et (iN av) (et (iN Q) (et (iN S) (et (iN T) (et (iN V) (et (iN ai) (et (iN au) (et (iN ax) (et (iN aD) (et (iN aG) (et (iN aH) (et (iN aK) (et (iN aQ) (et (iN aZ) (et (iN bX) (et (ip dQ) (aa fT))))))))))))))))))⟩) (by show N.length - (b+1) < N.length - b; omega)
 refine jF (dF dQ) (zm (bN (bN (yL (yK (fw (.int .i64 ((b+1:Nat):Int)) (yS (e:=IntKind.i64.wrap (((b:Nat):Int)+1)) yk (by rw [BI _ (by omega)]; omega)) (Mz rfl (WL.nil ?_))))))))
 have ng:=ak.pk [0,1,2,3,4,5]
 exact yY (b+1,J,g,a,d,C,E,n,o,p,r,s,u,x,z,A,F,G,I,X,Y,h,Z,ae,U,l,ag,ah,j) ⟨rfl,rfl,rfl,rfl,rfl,trivial⟩ (M.2 ⟨ng,by exact O,by exact f,by omega,by first | omega | exact BJ _,by first | omega | exact BJ _,by first | omega | exact BJ _,by omega,by omega,by omega,by omega,by omega,by omega,by omega,by omega,by omega,et (P) (et (congrArg (fun q=>aO c q a d C E n o p r s u x z A F G I h l j) R) (et (iN av) (et (iN Q) (et (iN S) (et (iN T) (et (iN V) (et (iN ai) (et (iN au) (et (iN ax) (et (iN aD) (et (iN aG) (et (iN aH) (et (iN aK) (et (iN aQ) (et (iN aZ) (et (iN bX) (iN dQ)))))))))))))))))⟩) (by show N.length - (b+1) < N.length - b; omega)
 refine jF (dF kJ) (Wp.exit (yV ?_))
 have kE:aO c N p0.ag.ls p0.az c.bu c.bO c.bG c.aY c.bF c.bH c.bL c.aV c.bB c.aK c.xN c.bV c.aG.aD c.aG.aH c.ax.ls c.ah.ls c.ai.ls=(a,d,C,E,n,o,p,r,s,u,x,z,A,F,G,I,h,l,j):=et (P) (et (congrArg (fun q=>aO c q a d C E n o p r s u x z A F G I h l j) (dZ (ls:=N) (i:=b) (by omega))) rfl)
 refine yV (y8 (zF (res0 rfl) ?_))
 have nk:=ak.pk [0,1,2,3,4,5]
 have e:kQ p0 c N=(ReaderT.mk (Ll.mk a) d,bE.mk c.ae c.bq c.dw c.aQ C E n o p r s u x z A F (bC.mk G I) (Ll.mk h) (Ll.mk l) (Ll.mk j)):=aa kE
 obtain⟨rfl,rfl⟩:=dN (e.symm.trans hr)
 exact⟨J,g,X,Y,Z,ae,U,ag,ah,rfl,nk,f,O,(by first | omega | (dsimp only; omega) | (simp only [List.length_nil]; omega) | (refine⟨?_, ?_⟩ <;> (dsimp only; omega)))⟩
def ek (r:List UInt8):bE × Int:=
 bnd (gU r) fun d=>if d.2=0 then bnd (mP d.1) fun q=>bnd (aW q) fun a=>bnd (bY ((a.1.toNat:Nat):Int)) fun e=>if e.2=true then bnd (aW a.2) fun f=>bnd (aW f.2) fun g=>bnd (kQ g.2 (bE.mk ((a.1.toNat:Nat):Int) ((f.1.toNat:Nat):Int) ((g.1.toNat:Nat):Int) 0 0 0 0 0 0 0 0 0 0 0 0 false (bC.mk ([]) ([])) (Ll.mk ([])) (Ll.mk ([])) (Ll.mk ([]))) e.1.aJ.ls) fun b=>bnd (fK b.1) fun n=>bnd (fM n) fun h=>if h=0 then bnd (dJ b.2) fun i=>if i=0 then(b.2,0) else(bE.mk 0 0 0 0 0 0 0 0 0 0 0 0 0 0 0 false (bC.mk ([]) ([])) (Ll.mk ([])) (Ll.mk ([])) (Ll.mk ([])),i) else(bE.mk 0 0 0 0 0 0 0 0 0 0 0 0 0 0 0 false (bC.mk ([]) ([])) (Ll.mk ([])) (Ll.mk ([])) (Ll.mk ([])),h) else bnd (bU a.2 11) fun o=>bnd (aW o) fun j=>bnd (aW j.2) fun k=>bnd (kQ k.2 (bE.mk ((a.1.toNat:Nat):Int) ((j.1.toNat:Nat):Int) ((k.1.toNat:Nat):Int) 0 0 0 0 0 0 0 0 0 0 0 0 false (bC.mk ([]) ([])) (Ll.mk ([])) (Ll.mk ([])) (Ll.mk ([]))) e.1.aJ.ls) fun c=>bnd (fK c.1) fun p=>bnd (fM p) fun l=>if l=0 then bnd (dJ c.2) fun m=>if m=0 then(c.2,0) else(bE.mk 0 0 0 0 0 0 0 0 0 0 0 0 0 0 0 false (bC.mk ([]) ([])) (Ll.mk ([])) (Ll.mk ([])) (Ll.mk ([])),m) else(bE.mk 0 0 0 0 0 0 0 0 0 0 0 0 0 0 0 false (bC.mk ([]) ([])) (Ll.mk ([])) (Ll.mk ([])) (Ll.mk ([])),l) else(bE.mk 0 0 0 0 0 0 0 0 0 0 0 0 0 0 0 false (bC.mk ([]) ([])) (Ll.mk ([])) (Ll.mk ([])) (Ll.mk ([])),d.2)
set_option maxHeartbeats 4000000 in
theorem kg (w:World) (D:Nat→Prop) (A0:Option Addr) (n0 c0:Nat) (l0:List UInt8) (r0:bE) (r1:Int) (H:Own w D w []) (kJ:Ro w D fun w'=>bD w' 1 A0 n0 (List.flatMap eB l0)) (kK:n0=l0.length) (nK:l0.length *1≤211106232532992) (nL:l0.length≤c0) (hr:ek l0=(r0,r1)):
    Calls Tryz.prog 13 #[.slice A0 n0 c0] w (cO fun v w'=> ∃ (ed:Option Addr) (eu:Nat) (eD:Option Addr) (eF:Nat) (eG:Option Addr) (eH:Nat) (dB:List af),v= .tuple #[.agg (aM r0 ed eu eD eF eG eH).toArray, .int .i64 r1]∧Own w D w' [row ed r0.ax.ls.length eu (List.flatMap aB.cells r0.ax.ls) 64 6,row eD r0.ah.ls.length eF (List.flatMap af.cells dB) 84 3,sepL (List.flatMap yQ dB),row eG r0.ai.ls.length eH (List.flatMap aA.cells r0.ai.ls) 88 2]∧(List.map zh dB=r0.ah.ls)∧(r0.ax.ls.length≤1000∧r0.ah.ls.length≤1000∧r0.ai.ls.length≤1000∧r0.bG≤18446744073709551615∧r0.aY≤18446744073709551615∧r0.bF≤18446744073709551615∧r0.bH≤18446744073709551615∧r0.bL≤18446744073709551615∧r0.aV≤18446744073709551615∧r0.bB≤18446744073709551615∧r0.aK≤18446744073709551615∧r0.xN≤18446744073709551615)):=by
 subst kK
 refine yR (args:= [.slice A0 l0.length c0]) Tryz.func13 rfl rfl rfl ?_
 show Wp _ _ _ [(0, .slice A0 l0.length c0)] _ _
 refine sr ?_
 refine dE (bf 0 0 0 0 0 0 0 0 0 0 0 0 0 0 0 false ([]) ([]) none 0 0 none 0 0 none 0 0) 29 H ?_
 intro A nM kL
 refine Ar rfl (Mz rfl ?_)
 obtain⟨⟨p,bK⟩,ae⟩:∃ q:(List UInt8) × Int,gU l0=q:=⟨_,rfl⟩
 obtain⟨nN,iE,iF,iG,l9⟩:=yP kL
 refine cl Tryz.call37 (ry _ _ A0 l0.length c0 l0 p bK iE (iF _ kJ) rfl (by omega) (by first | omega | (simp only [List.length_take,List.length_drop]; omega) | exact Nat.le_refl _) ae) ?_
 rintro _ nO ⟨R,S,rfl,iI,eO⟩
 have dX:=iG _ _ iI
 have ma:=dX.rowC (i:=0) rfl
 replace eO:p.length≤l0.length:=eO
 refine Mz rfl (Kz (.slice R p.length S) (Kz (.int .i64 bK) (Az rfl (An rfl (yJ (sr (Mz rfl (fw (.bool (decide (¬ (bK=0)))) (za (e:= !(decide (bK=0))) yk decide_not.symm) (nt ?_)))))))))
 by_cases aR:bK=0
 refine jF (dF (BK aR)) (sk (sr (Mz rfl ?_)))
 have mf:=dX.rowC (i:=0) rfl
 obtain⟨bL,au⟩:∃ q,mP p=q:=⟨_,rfl⟩
 obtain⟨nP,iJ,mg,iK,iL⟩:=yP dX
 refine cl Tryz.call38 (rF _ _ R p.length S p bL iJ (iL _ 0 _ rfl bI) rfl (by omega) (by first | omega | (simp only [List.length_take,List.length_drop]; omega) | exact Nat.le_refl _) au) ?_
 rintro _ nQ ⟨L,fB,dZ,rfl,iM,J⟩
 have kM:=iK _ _ iM
 replace J:aj 1 R S p fB dZ bL.ag.ls:=J
 have mh:=(J).le
 refine Ar rfl (Mz rfl ?_)
 obtain⟨⟨K,ai⟩,av⟩:∃ q:UInt8 × ReaderT,aW bL=q:=⟨_,rfl⟩
 obtain⟨nR,iO,mi,iP,iQ⟩:=yT kM
 refine cl Tryz.call39 (dY _ _ L bL fB dZ K ai iO (fun f d=>aj.rds ay (by decide) J ((iQ _ 0 _ rfl bI) f d)) (show bL.ag.ls.length≤dZ∧bL.ag.ls.length≤9223372036854775807 from by omega) av) ?_
 rintro _ nS ⟨dC,bM,rfl,iR,M⟩
 have kN:=iP _ _ iR
 replace M:aj 1 fB dZ bL.ag.ls dC bM ai.ag.ls:=M
 have mo:=(M).le
 have mq:K.toNat≤255:=Nat.le_of_lt_succ (UInt8.toNat_lt _)
 refine fw (.int .i64 ((K.toNat:Nat):Int)) (yS (e:=IntKind.i64.wrap ((K.toNat:Nat):Int)) yk (BI _ (by omega))) (Kz (.agg (bf ((K.toNat:Nat):Int) 0 0 0 0 0 0 0 0 0 0 0 0 0 0 false ([]) ([]) none 0 0 none 0 0 none 0 0).toArray) ?_)
 refine dE (bf 0 0 0 0 0 0 0 0 0 0 0 0 0 0 0 false ([]) ([]) none 0 0 none 0 0 none 0 0) 29 kN ?_
 intro z nT kP
 refine bz (bf ((K.toNat:Nat):Int) 0 0 0 0 0 0 0 0 0 0 0 0 0 0 false ([]) ([]) none 0 0 none 0 0 none 0 0) 0 kP Tryz.sizeOf29 ?_
 intro nU iT
 refine ns (Kz (.pointer (some ⟨z,0,none⟩)) (Lz (.int .i64 ((K.toNat:Nat):Int)) iT 0 Tryz.isAgg3 ?_))
 obtain⟨⟨c,d9⟩,ax⟩:∃ q:dM × Bool,bY ((K.toNat:Nat):Int)=q:=⟨_,rfl⟩
 obtain⟨nV,iU,mr,iV,mD⟩:=yP iT
 refine cl Tryz.call19 (lC _ _ ((K.toNat:Nat):Int) c d9 iU ax) ?_
 rintro _ nW ⟨E,F,rfl,iW,eP⟩
 have iX:=iV _ _ iW
 have mE:=iX.rowC (i:=0) rfl
 replace eP:c.aJ.ls.length≤5:=eP
 refine Mz rfl (Kz (.agg #[.int .i64 c.gN, .int .i64 c.jA, .slice E c.aJ.ls.length F]) (Kz (.bool d9) ?_))
 refine dE [.int .i64 0, .int .i64 0, .slice none 0 0] 50 iX ?_
 intro ak nX kR
 refine bz [.int .i64 c.gN, .int .i64 c.jA, .slice E c.aJ.ls.length F] 0 kR Tryz.sizeOf50 ?_
 intro nY iY
 refine An rfl (yJ (sr (Mz rfl (Kz (.bool (!d9)) (nt ?_)))))
 rcases BL (d9) with aS | aS
 refine jF (cn aS) (sk (sr (Mz rfl ?_)))
 have kS:=iY.pk [3,0,1,2,4,5]
 obtain⟨⟨N,az⟩,aT⟩:∃ q:UInt8 × ReaderT,aW ai=q:=⟨_,rfl⟩
 obtain⟨nZ,fC,kT,fD,fE⟩:=yT kS
 refine cl Tryz.call39 (dY _ _ L ai dC bM N az fC (fun f d=>aj.rds ay (by decide) M ((fun f d=>aj.rds ay (by decide) J ((fE _ 3 _ rfl bI) f d)) f d)) (show ai.ag.ls.length≤bM∧ai.ag.ls.length≤9223372036854775807 from by omega) aT) ?_
 rintro _ mG ⟨dD,bS,rfl,fF,U⟩
 have iZ:=fD _ _ fF
 replace U:aj 1 dC bM ai.ag.ls dD bS az.ag.ls:=U
 have kU:=(U).le
 have kV:N.toNat≤255:=Nat.le_of_lt_succ (UInt8.toNat_lt _)
 refine fw (.int .i64 ((N.toNat:Nat):Int)) (yS (e:=IntKind.i64.wrap ((N.toNat:Nat):Int)) yk (BI _ (by omega))) (Mz rfl ?_)
 obtain⟨⟨O,G⟩,aU⟩:∃ q:UInt8 × ReaderT,aW az=q:=⟨_,rfl⟩
 obtain⟨mH,fG,kW,fH,fI⟩:=yT iZ
 refine cl Tryz.call39 (dY _ _ L az dD bS O G fG (fun f d=>aj.rds ay (by decide) U ((fun f d=>aj.rds ay (by decide) M ((fun f d=>aj.rds ay (by decide) J ((fI _ 3 _ rfl bI) f d)) f d)) f d)) (show az.ag.ls.length≤bS∧az.ag.ls.length≤9223372036854775807 from by omega) aU) ?_
 rintro _ mI ⟨ag,W,rfl,fJ,Y⟩
 have ja:=fH _ _ fJ
 replace Y:aj 1 dD bS az.ag.ls ag W G.ag.ls:=Y
 have kX:=(Y).le
 have kZ:O.toNat≤255:=Nat.le_of_lt_succ (UInt8.toNat_lt _)
 refine fw (.int .i64 ((O.toNat:Nat):Int)) (yS (e:=IntKind.i64.wrap ((O.toNat:Nat):Int)) yk (BI _ (by omega))) (Kz (.pointer (some ⟨z,1,none⟩)) ?_)
 have jb:=ja.pk [3,0,1,2,4,5]
 refine bz [.int .i64 ((N.toNat:Nat):Int)] 1 jb Tryz.sizeOf3 ?_
 intro mJ jc
 refine Kz (.pointer (some ⟨z,2,none⟩)) ?_
 refine bz [.int .i64 ((O.toNat:Nat):Int)] 2 jc Tryz.sizeOf3 ?_
 intro bV eQ
 refine ns (Mz rfl (Kz (.pointer (some ⟨ak,2,none⟩)) (Lz (.slice E c.aJ.ls.length F) eQ 2 Tryz.isAgg48 ?_)))
 have jd:Own w D bV [row none 0 0 (List.flatMap aB.cells ([])) 64 6,blk z (bf ((K.toNat:Nat):Int) ((N.toNat:Nat):Int) ((O.toNat:Nat):Int) 0 0 0 0 0 0 0 0 0 0 0 0 false ([]) ([]) none 0 0 none 0 0 none 0 0) 29,blk L [.slice ag G.ag.ls.length W, .int .i64 G.az] 120,blk ak [.int .i64 c.gN, .int .i64 c.jA, .slice E c.aJ.ls.length F] 50,row E c.aJ.ls.length F (List.flatMap (eI .i64) c.aJ.ls) 93 1,row R p.length S (List.flatMap eB p) 5 1,blk A (bf 0 0 0 0 0 0 0 0 0 0 0 0 0 0 0 false ([]) ([]) none 0 0 none 0 0 none 0 0) 29]:=eQ.free (bP 64 6)
 have je:Own w D bV [sepL (List.flatMap yQ ([])),row none 0 0 (List.flatMap aB.cells ([])) 64 6,blk z (bf ((K.toNat:Nat):Int) ((N.toNat:Nat):Int) ((O.toNat:Nat):Int) 0 0 0 0 0 0 0 0 0 0 0 0 false ([]) ([]) none 0 0 none 0 0 none 0 0) 29,blk L [.slice ag G.ag.ls.length W, .int .i64 G.az] 120,blk ak [.int .i64 c.gN, .int .i64 c.jA, .slice E c.aJ.ls.length F] 50,row E c.aJ.ls.length F (List.flatMap (eI .i64) c.aJ.ls) 93 1,row R p.length S (List.flatMap eB p) 5 1,blk A (bf 0 0 0 0 0 0 0 0 0 0 0 0 0 0 0 false ([]) ([]) none 0 0 none 0 0 none 0 0) 29]:=jd.sepNil
 have jf:Own w D bV [row none 0 0 (List.flatMap af.cells ([])) 84 3,sepL (List.flatMap yQ ([])),row none 0 0 (List.flatMap aB.cells ([])) 64 6,blk z (bf ((K.toNat:Nat):Int) ((N.toNat:Nat):Int) ((O.toNat:Nat):Int) 0 0 0 0 0 0 0 0 0 0 0 0 false ([]) ([]) none 0 0 none 0 0 none 0 0) 29,blk L [.slice ag G.ag.ls.length W, .int .i64 G.az] 120,blk ak [.int .i64 c.gN, .int .i64 c.jA, .slice E c.aJ.ls.length F] 50,row E c.aJ.ls.length F (List.flatMap (eI .i64) c.aJ.ls) 93 1,row R p.length S (List.flatMap eB p) 5 1,blk A (bf 0 0 0 0 0 0 0 0 0 0 0 0 0 0 0 false ([]) ([]) none 0 0 none 0 0 none 0 0) 29]:=je.free (bP 84 3)
 have jg:Own w D bV [row none 0 0 (List.flatMap aA.cells ([])) 88 2,row none 0 0 (List.flatMap af.cells ([])) 84 3,sepL (List.flatMap yQ ([])),row none 0 0 (List.flatMap aB.cells ([])) 64 6,blk z (bf ((K.toNat:Nat):Int) ((N.toNat:Nat):Int) ((O.toNat:Nat):Int) 0 0 0 0 0 0 0 0 0 0 0 0 false ([]) ([]) none 0 0 none 0 0 none 0 0) 29,blk L [.slice ag G.ag.ls.length W, .int .i64 G.az] 120,blk ak [.int .i64 c.gN, .int .i64 c.jA, .slice E c.aJ.ls.length F] 50,row E c.aJ.ls.length F (List.flatMap (eI .i64) c.aJ.ls) 93 1,row R p.length S (List.flatMap eB p) 5 1,blk A (bf 0 0 0 0 0 0 0 0 0 0 0 0 0 0 0 false ([]) ([]) none 0 0 none 0 0 none 0 0) 29]:=jf.free (bP 88 2)
 have jh:=jg.pk [5,4,3,1,2,0,6,7,8,9]
 obtain⟨⟨aC,a⟩,aV⟩:∃ q:ReaderT × bE,kQ G (bE.mk ((K.toNat:Nat):Int) ((N.toNat:Nat):Int) ((O.toNat:Nat):Int) 0 0 0 0 0 0 0 0 0 0 0 0 false (bC.mk ([]) ([])) (Ll.mk ([])) (Ll.mk ([])) (Ll.mk ([]))) c.aJ.ls=q:=⟨_,rfl⟩
 obtain⟨mK,fO,lc,fP,dH⟩:=Own.enter (L1:= [blk L [.slice ag G.ag.ls.length W, .int .i64 G.az] 120,blk z (bf ((K.toNat:Nat):Int) ((N.toNat:Nat):Int) ((O.toNat:Nat):Int) 0 0 0 0 0 0 0 0 0 0 0 0 false ([]) ([]) none 0 0 none 0 0 none 0 0) 29,row none 0 0 (List.flatMap aB.cells ([])) 64 6,row none 0 0 (List.flatMap af.cells ([])) 84 3,sepL (List.flatMap yQ ([])),row none 0 0 (List.flatMap aA.cells ([])) 88 2]) (L2:= [blk ak [.int .i64 c.gN, .int .i64 c.jA, .slice E c.aJ.ls.length F] 50,row E c.aJ.ls.length F (List.flatMap (eI .i64) c.aJ.ls) 93 1,row R p.length S (List.flatMap eB p) 5 1,blk A (bf 0 0 0 0 0 0 0 0 0 0 0 0 0 0 0 false ([]) ([]) none 0 0 none 0 0 none 0 0) 29]) jh
 refine cl Tryz.call41 (pq _ _ L G ag W z (bE.mk ((K.toNat:Nat):Int) ((N.toNat:Nat):Int) ((O.toNat:Nat):Int) 0 0 0 0 0 0 0 0 0 0 0 0 false (bC.mk ([]) ([])) (Ll.mk ([])) (Ll.mk ([])) (Ll.mk ([]))) none 0 none 0 ([]) none 0 E c.aJ.ls.length F c.aJ.ls aC a fO (fun f d=>aj.rds ay (by decide) Y ((fun f d=>aj.rds ay (by decide) U ((fun f d=>aj.rds ay (by decide) M ((fun f d=>aj.rds ay (by decide) J ((dH _ 2 _ rfl bI) f d)) f d)) f d)) f d)) (show G.ag.ls.length≤W∧G.ag.ls.length≤9223372036854775807 from by omega) rfl (dH _ 1 _ rfl bI) rfl (by omega) (by first | omega | (dsimp only; omega) | (simp only [List.length_nil]; omega)) aV) ?_
 rintro _ mM ⟨dI,bW,r,g,s,h,B,t,j,rfl,fQ,aD,bN,dK⟩
 have bX:=fP _ _ fQ
 replace aD:aj 1 ag W G.ag.ls dI bW aC.ag.ls:=aD
 have lg:=(aD).le
 have lh:=dG bN
 have ll:=bX.rowC (i:=2) rfl
 have lm:=bX.rowC (i:=3) rfl
 have lq:=bX.rowC (i:=5) rfl
 replace dK:a.ax.ls.length≤1000∧a.ah.ls.length≤1000∧a.ai.ls.length≤1000∧a.bG≤18446744073709551615∧a.aY≤18446744073709551615∧a.bF≤18446744073709551615∧a.bH≤18446744073709551615∧a.bL≤18446744073709551615∧a.aV≤18446744073709551615∧a.bB≤18446744073709551615∧a.aK≤18446744073709551615∧a.xN≤18446744073709551615:=dK
 refine nt (yJ ?_)
 have ji:=bX.pk [0,1,2,3,4,5,8,9]
 refine yK (Mz rfl ?_)
 obtain⟨aK,aX⟩:∃ q,fK aC=q:=⟨_,rfl⟩
 obtain⟨mO,fT,lu,fU,fV⟩:=yT ji
 refine cl Tryz.call42 (lW _ _ L aC dI bW aK fT (fun f d=>aj.rds ay (by decide) aD ((fun f d=>aj.rds ay (by decide) Y ((fun f d=>aj.rds ay (by decide) U ((fun f d=>aj.rds ay (by decide) M ((fun f d=>aj.rds ay (by decide) J ((fV _ 5 _ rfl bI) f d)) f d)) f d)) f d)) f d)) (show aC.ag.ls.length≤bW∧aC.ag.ls.length≤9223372036854775807 from by omega) aX) ?_
 rintro _ mQ ⟨eT,dL,rfl,fZ,aY⟩
 have jk:=fU _ _ fZ
 replace aY:aj 1 dI bW aC.ag.ls eT dL aK.ag.ls:=aY
 have lv:=(aY).le
 refine nt (yJ (sr (Mz rfl ?_)))
 obtain⟨aL,aZ⟩:∃ q,fM aK=q:=⟨_,rfl⟩
 obtain⟨mR,gm,lw,gp,gq⟩:=yT jk
 refine cl Tryz.call43 (lX _ _ L aK eT dL aL gm (fun f d=>aj.rds ay (by decide) aY ((fun f d=>aj.rds ay (by decide) aD ((fun f d=>aj.rds ay (by decide) Y ((fun f d=>aj.rds ay (by decide) U ((fun f d=>aj.rds ay (by decide) M ((fun f d=>aj.rds ay (by decide) J ((gq _ 5 _ rfl bI) f d)) f d)) f d)) f d)) f d)) f d)) (show aK.ag.ls.length≤dL∧aK.ag.ls.length≤9223372036854775807 from by omega) aZ) ?_
 rintro _ mU ⟨rfl,gu⟩
 have jl:=gp _ _ gu
 refine An rfl (yJ ?_)
 have bZ:=jl.pk [1,2,3,4,5,7]
 refine yK (Mz rfl (fw (.bool (decide (¬ (aL=0)))) (za (e:= !(decide (aL=0))) yk decide_not.symm) (nt ?_)))
 by_cases bH:aL=0
 refine jF (dF (BK bH)) (sk (yJ (sr (La (aM a r g s h t j) bZ 0 Tryz.isAgg29 Tryz.sizeOf29 ?_))))
 obtain⟨aN,bO⟩:∃ q,dJ a=q:=⟨_,rfl⟩
 obtain⟨mV,gy,lD,gz,bg⟩:=yP bZ
 refine cl Tryz.call11 (mF _ _ a r a.ax.ls.length g s a.ah.ls.length h B t a.ai.ls.length j aN gy rfl (bg _ 1 _ rfl bI) (show a.ax.ls.length≤g∧a.ax.ls.length≤9223372036854775807 from by omega) bN rfl (bg _ 2 _ rfl bI) (show a.ah.ls.length≤h∧a.ah.ls.length≤9223372036854775807 from by omega) (fun x9 d=>⟨bg _ 3 _ rfl (iH (List.mem_flatMap.2 ⟨x9,d, .head _⟩) bI),kY (φ:=fun _=>_) bZ (i:=3) rfl (iH (List.mem_flatMap.2 ⟨x9,d, .head _⟩) lK)⟩) rfl (bg _ 4 _ rfl bI) (show a.ai.ls.length≤j∧a.ai.ls.length≤9223372036854775807 from by omega) (by first | omega | (dsimp only; omega) | (simp only [List.length_nil]; omega)) bO) ?_
 rintro _ mW ⟨rfl,gD⟩
 have dO:=gz _ _ gD
 refine Ar rfl (Mz rfl (fw (.bool (decide (¬ (aN=0)))) (za (e:= !(decide (aN=0))) yk decide_not.symm) (nt ?_)))
 by_cases cu:aN=0
 refine jF (dF (BK cu)) (sk (sr (La (aM a r g s h t j) dO 0 Tryz.isAgg29 Tryz.sizeOf29 ?_)))
 have jo:=dO.pk [5,0,1,2,3,4]
 refine bz (aM a r g s h t j) 0 jo Tryz.sizeOf29 ?_
 intro mX eU
 refine An rfl (rt (y9 (iq (vs:= [.agg (aM a r g s h t j).toArray, .int .i64 0]) rfl (bT.cell rfl (zg (cs:=(aM a r g s h t j)) Tryz.isAgg29 Tryz.sizeOf29 ((eU.cls (i:=0) rfl).lit (k:=0) (m:=21) rfl)) (bT.tmp rfl bT.nil)) (BH rfl)) ?_))
 have jq:=eU.pk [2,3,4,5]
 have e:ek l0=(a,0):=et (aa ae) (et (ip aR) (et (aa au) (et (aa av) (et (aa ax) (et (ip aS) (et (aa aT) (et (aa aU) (et (aa aV) (et (aa aX) (et (aa aZ) (et (ip bH) (et (aa bO) (ip cu)))))))))))))
 obtain⟨rfl,rfl⟩:=dN (e.symm.trans hr)
 exact⟨r,g,s,h,t,j,B,rfl,jq,bN,(by first | omega | (dsimp only; omega) | (simp only [List.length_nil]; omega) | (refine⟨?_, ?_⟩ <;> (dsimp only; omega)))⟩
 refine jT (dT cu) (sr (Kz (.agg (bf 0 0 0 0 0 0 0 0 0 0 0 0 0 0 0 false ([]) ([]) none 0 0 none 0 0 none 0 0).toArray) (Mz rfl ?_)))
 have jr:=dO.pk [5,0,1,2,3,4]
 refine bz (bf 0 0 0 0 0 0 0 0 0 0 0 0 0 0 0 false ([]) ([]) none 0 0 none 0 0 none 0 0) 0 jr Tryz.sizeOf29 ?_
 intro cz eX
 refine An rfl (rt (tR (y9 (iq (vs:= [.agg (bf 0 0 0 0 0 0 0 0 0 0 0 0 0 0 0 false ([]) ([]) none 0 0 none 0 0 none 0 0).toArray, .int .i64 aN]) rfl (bT.cell rfl (zg (cs:=(bf 0 0 0 0 0 0 0 0 0 0 0 0 0 0 0 false ([]) ([]) none 0 0 none 0 0 none 0 0)) Tryz.isAgg29 Tryz.sizeOf29 ((eX.cls (i:=0) rfl).lit (k:=0) (m:=21) rfl)) (bT.tmp rfl bT.nil)) (BH rfl)) ?_)))
 have jv:Own w D cz [row none 0 0 (List.flatMap aB.cells ([])) 64 6,blk A (bf 0 0 0 0 0 0 0 0 0 0 0 0 0 0 0 false ([]) ([]) none 0 0 none 0 0 none 0 0) 29,blk z (aM a r g s h t j) 29,row r a.ax.ls.length g (List.flatMap aB.cells a.ax.ls) 64 6,row s a.ah.ls.length h (List.flatMap af.cells B) 84 3,sepL (List.flatMap yQ B),row t a.ai.ls.length j (List.flatMap aA.cells a.ai.ls) 88 2]:=eX.free (bP 64 6)
 have jw:Own w D cz [sepL (List.flatMap yQ ([])),row none 0 0 (List.flatMap aB.cells ([])) 64 6,blk A (bf 0 0 0 0 0 0 0 0 0 0 0 0 0 0 0 false ([]) ([]) none 0 0 none 0 0 none 0 0) 29,blk z (aM a r g s h t j) 29,row r a.ax.ls.length g (List.flatMap aB.cells a.ax.ls) 64 6,row s a.ah.ls.length h (List.flatMap af.cells B) 84 3,sepL (List.flatMap yQ B),row t a.ai.ls.length j (List.flatMap aA.cells a.ai.ls) 88 2]:=jv.sepNil
 have jy:Own w D cz [row none 0 0 (List.flatMap af.cells ([])) 84 3,sepL (List.flatMap yQ ([])),row none 0 0 (List.flatMap aB.cells ([])) 64 6,blk A (bf 0 0 0 0 0 0 0 0 0 0 0 0 0 0 0 false ([]) ([]) none 0 0 none 0 0 none 0 0) 29,blk z (aM a r g s h t j) 29,row r a.ax.ls.length g (List.flatMap aB.cells a.ax.ls) 64 6,row s a.ah.ls.length h (List.flatMap af.cells B) 84 3,sepL (List.flatMap yQ B),row t a.ai.ls.length j (List.flatMap aA.cells a.ai.ls) 88 2]:=jw.free (bP 84 3)
 have jA:Own w D cz [row none 0 0 (List.flatMap aA.cells ([])) 88 2,row none 0 0 (List.flatMap af.cells ([])) 84 3,sepL (List.flatMap yQ ([])),row none 0 0 (List.flatMap aB.cells ([])) 64 6,blk A (bf 0 0 0 0 0 0 0 0 0 0 0 0 0 0 0 false ([]) ([]) none 0 0 none 0 0 none 0 0) 29,blk z (aM a r g s h t j) 29,row r a.ax.ls.length g (List.flatMap aB.cells a.ax.ls) 64 6,row s a.ah.ls.length h (List.flatMap af.cells B) 84 3,sepL (List.flatMap yQ B),row t a.ai.ls.length j (List.flatMap aA.cells a.ai.ls) 88 2]:=jy.free (bP 88 2)
 have jB:=jA.pk [3,1,2,0]
 have e:ek l0=(bE.mk 0 0 0 0 0 0 0 0 0 0 0 0 0 0 0 false (bC.mk ([]) ([])) (Ll.mk ([])) (Ll.mk ([])) (Ll.mk ([])),aN):=et (aa ae) (et (ip aR) (et (aa au) (et (aa av) (et (aa ax) (et (ip aS) (et (aa aT) (et (aa aU) (et (aa aV) (et (aa aX) (et (aa aZ) (et (ip bH) (et (aa bO) (iN cu)))))))))))))
 obtain⟨rfl,rfl⟩:=dN (e.symm.trans hr)
 exact⟨none,0,none,0,none,0, [],rfl,jB,rfl,(by first | omega | (dsimp only; omega) | (simp only [List.length_nil]; omega) | (refine⟨?_, ?_⟩ <;> (dsimp only; omega)))⟩
 refine jT (dT bH) (sr (Kz (.agg (bf 0 0 0 0 0 0 0 0 0 0 0 0 0 0 0 false ([]) ([]) none 0 0 none 0 0 none 0 0).toArray) (Mz rfl ?_)))
 have jC:=bZ.pk [5,0,1,2,3,4]
 refine bz (bf 0 0 0 0 0 0 0 0 0 0 0 0 0 0 0 false ([]) ([]) none 0 0 none 0 0 none 0 0) 0 jC Tryz.sizeOf29 ?_
 intro cB eY
 refine An rfl (rt (tR (y9 (iq (vs:= [.agg (bf 0 0 0 0 0 0 0 0 0 0 0 0 0 0 0 false ([]) ([]) none 0 0 none 0 0 none 0 0).toArray, .int .i64 aL]) rfl (bT.cell rfl (zg (cs:=(bf 0 0 0 0 0 0 0 0 0 0 0 0 0 0 0 false ([]) ([]) none 0 0 none 0 0 none 0 0)) Tryz.isAgg29 Tryz.sizeOf29 ((eY.cls (i:=0) rfl).lit (k:=0) (m:=21) rfl)) (bT.tmp rfl bT.nil)) (BH rfl)) ?_)))
 have jD:Own w D cB [row none 0 0 (List.flatMap aB.cells ([])) 64 6,blk A (bf 0 0 0 0 0 0 0 0 0 0 0 0 0 0 0 false ([]) ([]) none 0 0 none 0 0 none 0 0) 29,blk z (aM a r g s h t j) 29,row r a.ax.ls.length g (List.flatMap aB.cells a.ax.ls) 64 6,row s a.ah.ls.length h (List.flatMap af.cells B) 84 3,sepL (List.flatMap yQ B),row t a.ai.ls.length j (List.flatMap aA.cells a.ai.ls) 88 2]:=eY.free (bP 64 6)
 have jE:Own w D cB [sepL (List.flatMap yQ ([])),row none 0 0 (List.flatMap aB.cells ([])) 64 6,blk A (bf 0 0 0 0 0 0 0 0 0 0 0 0 0 0 0 false ([]) ([]) none 0 0 none 0 0 none 0 0) 29,blk z (aM a r g s h t j) 29,row r a.ax.ls.length g (List.flatMap aB.cells a.ax.ls) 64 6,row s a.ah.ls.length h (List.flatMap af.cells B) 84 3,sepL (List.flatMap yQ B),row t a.ai.ls.length j (List.flatMap aA.cells a.ai.ls) 88 2]:=jD.sepNil
 have jG:Own w D cB [row none 0 0 (List.flatMap af.cells ([])) 84 3,sepL (List.flatMap yQ ([])),row none 0 0 (List.flatMap aB.cells ([])) 64 6,blk A (bf 0 0 0 0 0 0 0 0 0 0 0 0 0 0 0 false ([]) ([]) none 0 0 none 0 0 none 0 0) 29,blk z (aM a r g s h t j) 29,row r a.ax.ls.length g (List.flatMap aB.cells a.ax.ls) 64 6,row s a.ah.ls.length h (List.flatMap af.cells B) 84 3,sepL (List.flatMap yQ B),row t a.ai.ls.length j (List.flatMap aA.cells a.ai.ls) 88 2]:=jE.free (bP 84 3)
 have jH:Own w D cB [row none 0 0 (List.flatMap aA.cells ([])) 88 2,row none 0 0 (List.flatMap af.cells ([])) 84 3,sepL (List.flatMap yQ ([])),row none 0 0 (List.flatMap aB.cells ([])) 64 6,blk A (bf 0 0 0 0 0 0 0 0 0 0 0 0 0 0 0 false ([]) ([]) none 0 0 none 0 0 none 0 0) 29,blk z (aM a r g s h t j) 29,row r a.ax.ls.length g (List.flatMap aB.cells a.ax.ls) 64 6,row s a.ah.ls.length h (List.flatMap af.cells B) 84 3,sepL (List.flatMap yQ B),row t a.ai.ls.length j (List.flatMap aA.cells a.ai.ls) 88 2]:=jG.free (bP 88 2)
 have jI:=jH.pk [3,1,2,0]
 have e:ek l0=(bE.mk 0 0 0 0 0 0 0 0 0 0 0 0 0 0 0 false (bC.mk ([]) ([])) (Ll.mk ([])) (Ll.mk ([])) (Ll.mk ([])),aL):=et (aa ae) (et (ip aR) (et (aa au) (et (aa av) (et (aa ax) (et (ip aS) (et (aa aT) (et (aa aU) (et (aa aV) (et (aa aX) (et (aa aZ) (iN bH)))))))))))
 obtain⟨rfl,rfl⟩:=dN (e.symm.trans hr)
 exact⟨none,0,none,0,none,0, [],rfl,jI,rfl,(by first | omega | (dsimp only; omega) | (simp only [List.length_nil]; omega) | (refine⟨?_, ?_⟩ <;> (dsimp only; omega)))⟩
 refine jT (cn aS) (yK (Mz rfl ?_))
 have jJ:=iY.pk [3,0,1,2,4,5]
 obtain⟨aF,bi⟩:∃ q,bU ai 11=q:=⟨_,rfl⟩
 obtain⟨mY,gF,lF,gG,gH⟩:=yT jJ
 refine cl Tryz.call40 (gB _ _ L ai dC bM 11 aF gF (fun f d=>aj.rds ay (by decide) M ((fun f d=>aj.rds ay (by decide) J ((gH _ 3 _ rfl bI) f d)) f d)) (show ai.ag.ls.length≤bM∧ai.ag.ls.length≤9223372036854775807 from by omega) bi) ?_
 rintro _ mZ ⟨dP,cK,rfl,gI,T⟩
 have jK:=gG _ _ gI
 replace T:aj 1 dC bM ai.ag.ls dP cK aF.ag.ls:=T
 have lG:=(T).le
 refine ns (Mz rfl ?_)
 obtain⟨⟨P,aG⟩,bn⟩:∃ q:UInt8 × ReaderT,aW aF=q:=⟨_,rfl⟩
 obtain⟨ng,gJ,lH,gK,gL⟩:=yT jK
 refine cl Tryz.call39 (dY _ _ L aF dP cK P aG gJ (fun f d=>aj.rds ay (by decide) T ((fun f d=>aj.rds ay (by decide) M ((fun f d=>aj.rds ay (by decide) J ((gL _ 3 _ rfl bI) f d)) f d)) f d)) (show aF.ag.ls.length≤cK∧aF.ag.ls.length≤9223372036854775807 from by omega) bn) ?_
 rintro _ ni ⟨dQ,cZ,rfl,gM,V⟩
 have jL:=gK _ _ gM
 replace V:aj 1 dP cK aF.ag.ls dQ cZ aG.ag.ls:=V
 have lI:=(V).le
 have lJ:P.toNat≤255:=Nat.le_of_lt_succ (UInt8.toNat_lt _)
 refine fw (.int .i64 ((P.toNat:Nat):Int)) (yS (e:=IntKind.i64.wrap ((P.toNat:Nat):Int)) yk (BI _ (by omega))) (Mz rfl ?_)
 obtain⟨⟨Q,I⟩,bq⟩:∃ q:UInt8 × ReaderT,aW aG=q:=⟨_,rfl⟩
 obtain⟨nk,gN,lL,gP,gQ⟩:=yT jL
 refine cl Tryz.call39 (dY _ _ L aG dQ cZ Q I gN (fun f d=>aj.rds ay (by decide) V ((fun f d=>aj.rds ay (by decide) T ((fun f d=>aj.rds ay (by decide) M ((fun f d=>aj.rds ay (by decide) J ((gQ _ 3 _ rfl bI) f d)) f d)) f d)) f d)) (show aG.ag.ls.length≤cZ∧aG.ag.ls.length≤9223372036854775807 from by omega) bq) ?_
 rintro _ nu ⟨ah,X,rfl,gT,Z⟩
 have jM:=gP _ _ gT
 replace Z:aj 1 dQ cZ aG.ag.ls ah X I.ag.ls:=Z
 have lM:=(Z).le
 have lN:Q.toNat≤255:=Nat.le_of_lt_succ (UInt8.toNat_lt _)
 refine fw (.int .i64 ((Q.toNat:Nat):Int)) (yS (e:=IntKind.i64.wrap ((Q.toNat:Nat):Int)) yk (BI _ (by omega))) (Kz (.pointer (some ⟨z,1,none⟩)) ?_)
 have jN:=jM.pk [3,0,1,2,4,5]
 refine bz [.int .i64 ((P.toNat:Nat):Int)] 1 jN Tryz.sizeOf3 ?_
 intro ny jO
 refine Kz (.pointer (some ⟨z,2,none⟩)) ?_
 refine bz [.int .i64 ((Q.toNat:Nat):Int)] 2 jO Tryz.sizeOf3 ?_
 intro df eZ
 refine ns (Mz rfl (Kz (.pointer (some ⟨ak,2,none⟩)) (Lz (.slice E c.aJ.ls.length F) eZ 2 Tryz.isAgg48 ?_)))
 have jP:Own w D df [row none 0 0 (List.flatMap aB.cells ([])) 64 6,blk z (bf ((K.toNat:Nat):Int) ((P.toNat:Nat):Int) ((Q.toNat:Nat):Int) 0 0 0 0 0 0 0 0 0 0 0 0 false ([]) ([]) none 0 0 none 0 0 none 0 0) 29,blk L [.slice ah I.ag.ls.length X, .int .i64 I.az] 120,blk ak [.int .i64 c.gN, .int .i64 c.jA, .slice E c.aJ.ls.length F] 50,row E c.aJ.ls.length F (List.flatMap (eI .i64) c.aJ.ls) 93 1,row R p.length S (List.flatMap eB p) 5 1,blk A (bf 0 0 0 0 0 0 0 0 0 0 0 0 0 0 0 false ([]) ([]) none 0 0 none 0 0 none 0 0) 29]:=eZ.free (bP 64 6)
 have jQ:Own w D df [sepL (List.flatMap yQ ([])),row none 0 0 (List.flatMap aB.cells ([])) 64 6,blk z (bf ((K.toNat:Nat):Int) ((P.toNat:Nat):Int) ((Q.toNat:Nat):Int) 0 0 0 0 0 0 0 0 0 0 0 0 false ([]) ([]) none 0 0 none 0 0 none 0 0) 29,blk L [.slice ah I.ag.ls.length X, .int .i64 I.az] 120,blk ak [.int .i64 c.gN, .int .i64 c.jA, .slice E c.aJ.ls.length F] 50,row E c.aJ.ls.length F (List.flatMap (eI .i64) c.aJ.ls) 93 1,row R p.length S (List.flatMap eB p) 5 1,blk A (bf 0 0 0 0 0 0 0 0 0 0 0 0 0 0 0 false ([]) ([]) none 0 0 none 0 0 none 0 0) 29]:=jP.sepNil
 have jR:Own w D df [row none 0 0 (List.flatMap af.cells ([])) 84 3,sepL (List.flatMap yQ ([])),row none 0 0 (List.flatMap aB.cells ([])) 64 6,blk z (bf ((K.toNat:Nat):Int) ((P.toNat:Nat):Int) ((Q.toNat:Nat):Int) 0 0 0 0 0 0 0 0 0 0 0 0 false ([]) ([]) none 0 0 none 0 0 none 0 0) 29,blk L [.slice ah I.ag.ls.length X, .int .i64 I.az] 120,blk ak [.int .i64 c.gN, .int .i64 c.jA, .slice E c.aJ.ls.length F] 50,row E c.aJ.ls.length F (List.flatMap (eI .i64) c.aJ.ls) 93 1,row R p.length S (List.flatMap eB p) 5 1,blk A (bf 0 0 0 0 0 0 0 0 0 0 0 0 0 0 0 false ([]) ([]) none 0 0 none 0 0 none 0 0) 29]:=jQ.free (bP 84 3)
 have jS:Own w D df [row none 0 0 (List.flatMap aA.cells ([])) 88 2,row none 0 0 (List.flatMap af.cells ([])) 84 3,sepL (List.flatMap yQ ([])),row none 0 0 (List.flatMap aB.cells ([])) 64 6,blk z (bf ((K.toNat:Nat):Int) ((P.toNat:Nat):Int) ((Q.toNat:Nat):Int) 0 0 0 0 0 0 0 0 0 0 0 0 false ([]) ([]) none 0 0 none 0 0 none 0 0) 29,blk L [.slice ah I.ag.ls.length X, .int .i64 I.az] 120,blk ak [.int .i64 c.gN, .int .i64 c.jA, .slice E c.aJ.ls.length F] 50,row E c.aJ.ls.length F (List.flatMap (eI .i64) c.aJ.ls) 93 1,row R p.length S (List.flatMap eB p) 5 1,blk A (bf 0 0 0 0 0 0 0 0 0 0 0 0 0 0 0 false ([]) ([]) none 0 0 none 0 0 none 0 0) 29]:=jR.free (bP 88 2)
 have jU:=jS.pk [5,4,3,1,2,0,6,7,8,9]
 obtain⟨⟨aH,b⟩,bu⟩:∃ q:ReaderT × bE,kQ I (bE.mk ((K.toNat:Nat):Int) ((P.toNat:Nat):Int) ((Q.toNat:Nat):Int) 0 0 0 0 0 0 0 0 0 0 0 0 false (bC.mk ([]) ([])) (Ll.mk ([])) (Ll.mk ([])) (Ll.mk ([]))) c.aJ.ls=q:=⟨_,rfl⟩
 obtain⟨nz,gV,lQ,gW,dR⟩:=Own.enter (L1:= [blk L [.slice ah I.ag.ls.length X, .int .i64 I.az] 120,blk z (bf ((K.toNat:Nat):Int) ((P.toNat:Nat):Int) ((Q.toNat:Nat):Int) 0 0 0 0 0 0 0 0 0 0 0 0 false ([]) ([]) none 0 0 none 0 0 none 0 0) 29,row none 0 0 (List.flatMap aB.cells ([])) 64 6,row none 0 0 (List.flatMap af.cells ([])) 84 3,sepL (List.flatMap yQ ([])),row none 0 0 (List.flatMap aA.cells ([])) 88 2]) (L2:= [blk ak [.int .i64 c.gN, .int .i64 c.jA, .slice E c.aJ.ls.length F] 50,row E c.aJ.ls.length F (List.flatMap (eI .i64) c.aJ.ls) 93 1,row R p.length S (List.flatMap eB p) 5 1,blk A (bf 0 0 0 0 0 0 0 0 0 0 0 0 0 0 0 false ([]) ([]) none 0 0 none 0 0 none 0 0) 29]) jU
 refine cl Tryz.call41 (pq _ _ L I ah X z (bE.mk ((K.toNat:Nat):Int) ((P.toNat:Nat):Int) ((Q.toNat:Nat):Int) 0 0 0 0 0 0 0 0 0 0 0 0 false (bC.mk ([]) ([])) (Ll.mk ([])) (Ll.mk ([])) (Ll.mk ([]))) none 0 none 0 ([]) none 0 E c.aJ.ls.length F c.aJ.ls aH b gV (fun f d=>aj.rds ay (by decide) Z ((fun f d=>aj.rds ay (by decide) V ((fun f d=>aj.rds ay (by decide) T ((fun f d=>aj.rds ay (by decide) M ((fun f d=>aj.rds ay (by decide) J ((dR _ 2 _ rfl bI) f d)) f d)) f d)) f d)) f d)) (show I.ag.ls.length≤X∧I.ag.ls.length≤9223372036854775807 from by omega) rfl (dR _ 1 _ rfl bI) rfl (by omega) (by first | omega | (dsimp only; omega) | (simp only [List.length_nil]; omega)) bu) ?_
 rintro _ nA ⟨dS,dh,u,l,x,n,C,y,o,rfl,gX,aI,bQ,dU⟩
 have di:=gW _ _ gX
 replace aI:aj 1 ah X I.ag.ls dS dh aH.ag.ls:=aI
 have lS:=(aI).le
 have lT:=dG bQ
 have lU:=di.rowC (i:=2) rfl
 have lV:=di.rowC (i:=3) rfl
 have lY:=di.rowC (i:=5) rfl
 replace dU:b.ax.ls.length≤1000∧b.ah.ls.length≤1000∧b.ai.ls.length≤1000∧b.bG≤18446744073709551615∧b.aY≤18446744073709551615∧b.bF≤18446744073709551615∧b.bH≤18446744073709551615∧b.bL≤18446744073709551615∧b.aV≤18446744073709551615∧b.bB≤18446744073709551615∧b.aK≤18446744073709551615∧b.xN≤18446744073709551615:=dU
 refine nt (yJ ?_)
 have jV:=di.pk [0,1,2,3,4,5,8,9]
 refine yK (Mz rfl ?_)
 obtain⟨aO,bv⟩:∃ q,fK aH=q:=⟨_,rfl⟩
 obtain⟨nC,gY,lZ,gZ,ib⟩:=yT jV
 refine cl Tryz.call42 (lW _ _ L aH dS dh aO gY (fun f d=>aj.rds ay (by decide) aI ((fun f d=>aj.rds ay (by decide) Z ((fun f d=>aj.rds ay (by decide) V ((fun f d=>aj.rds ay (by decide) T ((fun f d=>aj.rds ay (by decide) M ((fun f d=>aj.rds ay (by decide) J ((ib _ 5 _ rfl bI) f d)) f d)) f d)) f d)) f d)) f d)) (show aH.ag.ls.length≤dh∧aH.ag.ls.length≤9223372036854775807 from by omega) bv) ?_
 rintro _ nD ⟨fe,dV,rfl,ic,bA⟩
 have jW:=gZ _ _ ic
 replace bA:aj 1 dS dh aH.ag.ls fe dV aO.ag.ls:=bA
 have l5:=(bA).le
 refine nt (yJ (sr (Mz rfl ?_)))
 obtain⟨aP,bB⟩:∃ q,fM aO=q:=⟨_,rfl⟩
 obtain⟨nE,ig,l6,ik,il⟩:=yT jW
 refine cl Tryz.call43 (lX _ _ L aO fe dV aP ig (fun f d=>aj.rds ay (by decide) bA ((fun f d=>aj.rds ay (by decide) aI ((fun f d=>aj.rds ay (by decide) Z ((fun f d=>aj.rds ay (by decide) V ((fun f d=>aj.rds ay (by decide) T ((fun f d=>aj.rds ay (by decide) M ((fun f d=>aj.rds ay (by decide) J ((il _ 5 _ rfl bI) f d)) f d)) f d)) f d)) f d)) f d)) f d)) (show aO.ag.ls.length≤dV∧aO.ag.ls.length≤9223372036854775807 from by omega) bB) ?_
 rintro _ nG ⟨rfl,iw⟩
 have jX:=ik _ _ iw
 refine An rfl (yJ ?_)
 have dm:=jX.pk [1,2,3,4,5,7]
 refine yK (Mz rfl (fw (.bool (decide (¬ (aP=0)))) (za (e:= !(decide (aP=0))) yk decide_not.symm) (nt ?_)))
 by_cases bJ:aP=0
 refine jF (dF (BK bJ)) (sk (yJ (sr (La (aM b u l x n y o) dm 0 Tryz.isAgg29 Tryz.sizeOf29 ?_))))
 obtain⟨aQ,bR⟩:∃ q,dJ b=q:=⟨_,rfl⟩
 obtain⟨nH,iy,l7,iA,bF⟩:=yP dm
 refine cl Tryz.call11 (mF _ _ b u b.ax.ls.length l x b.ah.ls.length n C y b.ai.ls.length o aQ iy rfl (bF _ 1 _ rfl bI) (show b.ax.ls.length≤l∧b.ax.ls.length≤9223372036854775807 from by omega) bQ rfl (bF _ 2 _ rfl bI) (show b.ah.ls.length≤n∧b.ah.ls.length≤9223372036854775807 from by omega) (fun x9 d=>⟨bF _ 3 _ rfl (iH (List.mem_flatMap.2 ⟨x9,d, .head _⟩) bI),kY (φ:=fun _=>_) dm (i:=3) rfl (iH (List.mem_flatMap.2 ⟨x9,d, .head _⟩) lK)⟩) rfl (bF _ 4 _ rfl bI) (show b.ai.ls.length≤o∧b.ai.ls.length≤9223372036854775807 from by omega) (by first | omega | (dsimp only; omega) | (simp only [List.length_nil]; omega)) bR) ?_
 rintro _ nI ⟨rfl,iB⟩
 have dW:=iA _ _ iB
 refine Ar rfl (Mz rfl (fw (.bool (decide (¬ (aQ=0)))) (za (e:= !(decide (aQ=0))) yk decide_not.symm) (nt ?_)))
 by_cases dn:aQ=0
 refine jF (dF (BK dn)) (sk (sr (La (aM b u l x n y o) dW 0 Tryz.isAgg29 Tryz.sizeOf29 ?_)))
 have jY:=dW.pk [5,0,1,2,3,4]
 refine bz (aM b u l x n y o) 0 jY Tryz.sizeOf29 ?_
 intro nJ fo
 refine An rfl (rt (y9 (iq (vs:= [.agg (aM b u l x n y o).toArray, .int .i64 0]) rfl (bT.cell rfl (zg (cs:=(aM b u l x n y o)) Tryz.isAgg29 Tryz.sizeOf29 ((fo.cls (i:=0) rfl).lit (k:=0) (m:=21) rfl)) (bT.tmp rfl bT.nil)) (BH rfl)) ?_))
 have jZ:=fo.pk [2,3,4,5]
 have e:ek l0=(b,0):=et (aa ae) (et (ip aR) (et (aa au) (et (aa av) (et (aa ax) (et (dz aS) (et (aa bi) (et (aa bn) (et (aa bq) (et (aa bu) (et (aa bv) (et (aa bB) (et (ip bJ) (et (aa bR) (ip dn))))))))))))))
 obtain⟨rfl,rfl⟩:=dN (e.symm.trans hr)
 exact⟨u,l,x,n,y,o,C,rfl,jZ,bQ,(by first | omega | (dsimp only; omega) | (simp only [List.length_nil]; omega) | (refine⟨?_, ?_⟩ <;> (dsimp only; omega)))⟩
 refine jT (dT dn) (sr (Kz (.agg (bf 0 0 0 0 0 0 0 0 0 0 0 0 0 0 0 false ([]) ([]) none 0 0 none 0 0 none 0 0).toArray) (Mz rfl ?_)))
 have j3:=dW.pk [5,0,1,2,3,4]
 refine bz (bf 0 0 0 0 0 0 0 0 0 0 0 0 0 0 0 false ([]) ([]) none 0 0 none 0 0 none 0 0) 0 j3 Tryz.sizeOf29 ?_
 intro dw fq
 refine An rfl (rt (tR (y9 (iq (vs:= [.agg (bf 0 0 0 0 0 0 0 0 0 0 0 0 0 0 0 false ([]) ([]) none 0 0 none 0 0 none 0 0).toArray, .int .i64 aQ]) rfl (bT.cell rfl (zg (cs:=(bf 0 0 0 0 0 0 0 0 0 0 0 0 0 0 0 false ([]) ([]) none 0 0 none 0 0 none 0 0)) Tryz.isAgg29 Tryz.sizeOf29 ((fq.cls (i:=0) rfl).lit (k:=0) (m:=21) rfl)) (bT.tmp rfl bT.nil)) (BH rfl)) ?_)))
 have j4:Own w D dw [row none 0 0 (List.flatMap aB.cells ([])) 64 6,blk A (bf 0 0 0 0 0 0 0 0 0 0 0 0 0 0 0 false ([]) ([]) none 0 0 none 0 0 none 0 0) 29,blk z (aM b u l x n y o) 29,row u b.ax.ls.length l (List.flatMap aB.cells b.ax.ls) 64 6,row x b.ah.ls.length n (List.flatMap af.cells C) 84 3,sepL (List.flatMap yQ C),row y b.ai.ls.length o (List.flatMap aA.cells b.ai.ls) 88 2]:=fq.free (bP 64 6)
 have j5:Own w D dw [sepL (List.flatMap yQ ([])),row none 0 0 (List.flatMap aB.cells ([])) 64 6,blk A (bf 0 0 0 0 0 0 0 0 0 0 0 0 0 0 0 false ([]) ([]) none 0 0 none 0 0 none 0 0) 29,blk z (aM b u l x n y o) 29,row u b.ax.ls.length l (List.flatMap aB.cells b.ax.ls) 64 6,row x b.ah.ls.length n (List.flatMap af.cells C) 84 3,sepL (List.flatMap yQ C),row y b.ai.ls.length o (List.flatMap aA.cells b.ai.ls) 88 2]:=j4.sepNil
 have j6:Own w D dw [row none 0 0 (List.flatMap af.cells ([])) 84 3,sepL (List.flatMap yQ ([])),row none 0 0 (List.flatMap aB.cells ([])) 64 6,blk A (bf 0 0 0 0 0 0 0 0 0 0 0 0 0 0 0 false ([]) ([]) none 0 0 none 0 0 none 0 0) 29,blk z (aM b u l x n y o) 29,row u b.ax.ls.length l (List.flatMap aB.cells b.ax.ls) 64 6,row x b.ah.ls.length n (List.flatMap af.cells C) 84 3,sepL (List.flatMap yQ C),row y b.ai.ls.length o (List.flatMap aA.cells b.ai.ls) 88 2]:=j5.free (bP 84 3)
 have ko:Own w D dw [row none 0 0 (List.flatMap aA.cells ([])) 88 2,row none 0 0 (List.flatMap af.cells ([])) 84 3,sepL (List.flatMap yQ ([])),row none 0 0 (List.flatMap aB.cells ([])) 64 6,blk A (bf 0 0 0 0 0 0 0 0 0 0 0 0 0 0 0 false ([]) ([]) none 0 0 none 0 0 none 0 0) 29,blk z (aM b u l x n y o) 29,row u b.ax.ls.length l (List.flatMap aB.cells b.ax.ls) 64 6,row x b.ah.ls.length n (List.flatMap af.cells C) 84 3,sepL (List.flatMap yQ C),row y b.ai.ls.length o (List.flatMap aA.cells b.ai.ls) 88 2]:=j6.free (bP 88 2)
 have kr:=ko.pk [3,1,2,0]
 have e:ek l0=(bE.mk 0 0 0 0 0 0 0 0 0 0 0 0 0 0 0 false (bC.mk ([]) ([])) (Ll.mk ([])) (Ll.mk ([])) (Ll.mk ([])),aQ):=et (aa ae) (et (ip aR) (et (aa au) (et (aa av) (et (aa ax) (et (dz aS) (et (aa bi) (et (aa bn) (et (aa bq) (et (aa bu) (et (aa bv) (et (aa bB) (et (ip bJ) (et (aa bR) (iN dn))))))))))))))
 obtain⟨rfl,rfl⟩:=dN (e.symm.trans hr)
 exact⟨none,0,none,0,none,0, [],rfl,kr,rfl,(by first | omega | (dsimp only; omega) | (simp only [List.length_nil]; omega) | (refine⟨?_, ?_⟩ <;> (dsimp only; omega)))⟩
 refine jT (dT bJ) (sr (Kz (.agg (bf 0 0 0 0 0 0 0 0 0 0 0 0 0 0 0 false ([]) ([]) none 0 0 none 0 0 none 0 0).toArray) (Mz rfl ?_)))
 have ku:=dm.pk [5,0,1,2,3,4]
 refine bz (bf 0 0 0 0 0 0 0 0 0 0 0 0 0 0 0 false ([]) ([]) none 0 0 none 0 0 none 0 0) 0 ku Tryz.sizeOf29 ?_
 intro dx fu
 refine An rfl (rt (tR (y9 (iq (vs:= [.agg (bf 0 0 0 0 0 0 0 0 0 0 0 0 0 0 0 false ([]) ([]) none 0 0 none 0 0 none 0 0).toArray, .int .i64 aP]) rfl (bT.cell rfl (zg (cs:=(bf 0 0 0 0 0 0 0 0 0 0 0 0 0 0 0 false ([]) ([]) none 0 0 none 0 0 none 0 0)) Tryz.isAgg29 Tryz.sizeOf29 ((fu.cls (i:=0) rfl).lit (k:=0) (m:=21) rfl)) (bT.tmp rfl bT.nil)) (BH rfl)) ?_)))
 have kv:Own w D dx [row none 0 0 (List.flatMap aB.cells ([])) 64 6,blk A (bf 0 0 0 0 0 0 0 0 0 0 0 0 0 0 0 false ([]) ([]) none 0 0 none 0 0 none 0 0) 29,blk z (aM b u l x n y o) 29,row u b.ax.ls.length l (List.flatMap aB.cells b.ax.ls) 64 6,row x b.ah.ls.length n (List.flatMap af.cells C) 84 3,sepL (List.flatMap yQ C),row y b.ai.ls.length o (List.flatMap aA.cells b.ai.ls) 88 2]:=fu.free (bP 64 6)
 have kw:Own w D dx [sepL (List.flatMap yQ ([])),row none 0 0 (List.flatMap aB.cells ([])) 64 6,blk A (bf 0 0 0 0 0 0 0 0 0 0 0 0 0 0 0 false ([]) ([]) none 0 0 none 0 0 none 0 0) 29,blk z (aM b u l x n y o) 29,row u b.ax.ls.length l (List.flatMap aB.cells b.ax.ls) 64 6,row x b.ah.ls.length n (List.flatMap af.cells C) 84 3,sepL (List.flatMap yQ C),row y b.ai.ls.length o (List.flatMap aA.cells b.ai.ls) 88 2]:=kv.sepNil
 have ky:Own w D dx [row none 0 0 (List.flatMap af.cells ([])) 84 3,sepL (List.flatMap yQ ([])),row none 0 0 (List.flatMap aB.cells ([])) 64 6,blk A (bf 0 0 0 0 0 0 0 0 0 0 0 0 0 0 0 false ([]) ([]) none 0 0 none 0 0 none 0 0) 29,blk z (aM b u l x n y o) 29,row u b.ax.ls.length l (List.flatMap aB.cells b.ax.ls) 64 6,row x b.ah.ls.length n (List.flatMap af.cells C) 84 3,sepL (List.flatMap yQ C),row y b.ai.ls.length o (List.flatMap aA.cells b.ai.ls) 88 2]:=kw.free (bP 84 3)
 have kz:Own w D dx [row none 0 0 (List.flatMap aA.cells ([])) 88 2,row none 0 0 (List.flatMap af.cells ([])) 84 3,sepL (List.flatMap yQ ([])),row none 0 0 (List.flatMap aB.cells ([])) 64 6,blk A (bf 0 0 0 0 0 0 0 0 0 0 0 0 0 0 0 false ([]) ([]) none 0 0 none 0 0 none 0 0) 29,blk z (aM b u l x n y o) 29,row u b.ax.ls.length l (List.flatMap aB.cells b.ax.ls) 64 6,row x b.ah.ls.length n (List.flatMap af.cells C) 84 3,sepL (List.flatMap yQ C),row y b.ai.ls.length o (List.flatMap aA.cells b.ai.ls) 88 2]:=ky.free (bP 88 2)
 have kC:=kz.pk [3,1,2,0]
 have e:ek l0=(bE.mk 0 0 0 0 0 0 0 0 0 0 0 0 0 0 0 false (bC.mk ([]) ([])) (Ll.mk ([])) (Ll.mk ([])) (Ll.mk ([])),aP):=et (aa ae) (et (ip aR) (et (aa au) (et (aa av) (et (aa ax) (et (dz aS) (et (aa bi) (et (aa bn) (et (aa bq) (et (aa bu) (et (aa bv) (et (aa bB) (iN bJ))))))))))))
 obtain⟨rfl,rfl⟩:=dN (e.symm.trans hr)
 exact⟨none,0,none,0,none,0, [],rfl,kC,rfl,(by first | omega | (dsimp only; omega) | (simp only [List.length_nil]; omega) | (refine⟨?_, ?_⟩ <;> (dsimp only; omega)))⟩
 refine jT (dT aR) (sr (Kz (.agg (bf 0 0 0 0 0 0 0 0 0 0 0 0 0 0 0 false ([]) ([]) none 0 0 none 0 0 none 0 0).toArray) (Mz rfl ?_)))
 have kD:=dX.pk [1,0]
 refine bz (bf 0 0 0 0 0 0 0 0 0 0 0 0 0 0 0 false ([]) ([]) none 0 0 none 0 0 none 0 0) 0 kD Tryz.sizeOf29 ?_
 intro dA fA
 refine An rfl (rt (tR (y9 (iq (vs:= [.agg (bf 0 0 0 0 0 0 0 0 0 0 0 0 0 0 0 false ([]) ([]) none 0 0 none 0 0 none 0 0).toArray, .int .i64 bK]) rfl (bT.cell rfl (zg (cs:=(bf 0 0 0 0 0 0 0 0 0 0 0 0 0 0 0 false ([]) ([]) none 0 0 none 0 0 none 0 0)) Tryz.isAgg29 Tryz.sizeOf29 ((fA.cls (i:=0) rfl).lit (k:=0) (m:=21) rfl)) (bT.tmp rfl bT.nil)) (BH rfl)) ?_)))
 have kE:Own w D dA [row none 0 0 (List.flatMap aB.cells ([])) 64 6,blk A (bf 0 0 0 0 0 0 0 0 0 0 0 0 0 0 0 false ([]) ([]) none 0 0 none 0 0 none 0 0) 29,row R p.length S (List.flatMap eB p) 5 1]:=fA.free (bP 64 6)
 have kF:Own w D dA [sepL (List.flatMap yQ ([])),row none 0 0 (List.flatMap aB.cells ([])) 64 6,blk A (bf 0 0 0 0 0 0 0 0 0 0 0 0 0 0 0 false ([]) ([]) none 0 0 none 0 0 none 0 0) 29,row R p.length S (List.flatMap eB p) 5 1]:=kE.sepNil
 have kG:Own w D dA [row none 0 0 (List.flatMap af.cells ([])) 84 3,sepL (List.flatMap yQ ([])),row none 0 0 (List.flatMap aB.cells ([])) 64 6,blk A (bf 0 0 0 0 0 0 0 0 0 0 0 0 0 0 0 false ([]) ([]) none 0 0 none 0 0 none 0 0) 29,row R p.length S (List.flatMap eB p) 5 1]:=kF.free (bP 84 3)
 have kH:Own w D dA [row none 0 0 (List.flatMap aA.cells ([])) 88 2,row none 0 0 (List.flatMap af.cells ([])) 84 3,sepL (List.flatMap yQ ([])),row none 0 0 (List.flatMap aB.cells ([])) 64 6,blk A (bf 0 0 0 0 0 0 0 0 0 0 0 0 0 0 0 false ([]) ([]) none 0 0 none 0 0 none 0 0) 29,row R p.length S (List.flatMap eB p) 5 1]:=kG.free (bP 88 2)
 have kI:=kH.pk [3,1,2,0]
 have e:ek l0=(bE.mk 0 0 0 0 0 0 0 0 0 0 0 0 0 0 0 false (bC.mk ([]) ([])) (Ll.mk ([])) (Ll.mk ([])) (Ll.mk ([])),bK):=et (aa ae) (iN aR)
 obtain⟨rfl,rfl⟩:=dN (e.symm.trans hr)
 exact⟨none,0,none,0,none,0, [],rfl,kI,rfl,(by first | omega | (dsimp only; omega) | (simp only [List.length_nil]; omega) | (refine⟨?_, ?_⟩ <;> (dsimp only; omega)))⟩
end Go.Proofs.YtccjclalngabhaaGreat
