/-
 wire: messages of bytes.
-/
import Derived.Test.YtccjclalngabhaaGreatWe
namespace Go.Proofs.YtccjclalngabhaaGreat
set_option maxRecDepth 100000
open Go.RowKit
set_option linter.unusedVariables false
set_option linter.unusedSectionVars false
set_option linter.unusedSimpArgs false
def dC (g:Int):Nat→List aB→Nat→List UInt8→Int→(List aB) × (List UInt8) × Int
  | 0,c,e,d,a=>default
  | f+1,c,e,d,a=>if((e:Nat):Int) < g then if a=0 then bnd (jR (ReaderT.mk (Ll.mk d) a)) fun b=>dC g f (c++ [b.1]) (e+1) b.2.af.ls b.2.ax else(c,d,a) else(c,d,a)
def ja (a:ReaderT) (b:Int):(List aB) × ReaderT:=
 bnd (bnd (dC b ((Int.toNat b - 0)+1) ([]) 0 a.af.ls a.ax) fun sLrJjL=>(sLrJjL.1,sLrJjL.2.1,sLrJjL.2.2)) fun sJrJ=>(sJrJ.1,ReaderT.mk (Ll.mk sJrJ.2.1) sJrJ.2.2)
theorem nG (w:World) (D:Nat→Prop) (u:Nat) (a:ReaderT) (b:Option Addr) (c:Nat) (d:Int) (V:List aB) (r1:ReaderT) (H:Own w D w [blk u [.slice b a.af.ls.length c, .int .i64 a.ax] 120]) (S:Ro w D fun w'=>bD w' 1 b a.af.ls.length (List.flatMap eB a.af.ls)) (aD:a.af.ls.length≤c∧a.af.ls.length≤9223372036854775807) (bu:d≤1000) (hr:ja a d=(V,r1)):
    Calls Tryz.prog 110 #[.pointer (some ⟨u,0,none⟩), .int .i64 d, .func (.func 83) #[] #[]] w (cK fun v w'=> ∃ (B0:Option Addr) (b0:Nat) (B1ox0:Option Addr) (b1ox0:Nat),v= .slice B0 V.length b0∧Own w D w' [row B0 V.length b0 (List.flatMap aB.cells V) 64 6,blk u [.slice B1ox0 r1.af.ls.length b1ox0, .int .i64 r1.ax] 120]∧(ah 1 b c a.af.ls B1ox0 b1ox0 r1.af.ls)∧(V.length≤1000)):=by
 refine Calls.body (args:= [.pointer (some ⟨u,0,none⟩), .int .i64 d, .func (.func 83) #[] #[]]) Tryz.func110 rfl rfl rfl ?_
 show Wp _ _ _ [(0, .pointer (some ⟨u,0,none⟩)),(1, .int .i64 d),(2, .func (.func 83) #[] #[])] _ _
 refine sr (Ar rfl (An rfl (Wp.seq (sr (An rfl ?_)))))
 obtain⟨W,X⟩:∃ q:((Option Addr) × Nat × (List aB) × (Option Addr) × Nat × (List UInt8) × Int)→World→Prop,q=fun(i:(Option Addr) × Nat × (List aB) × (Option Addr) × Nat × (List UInt8) × Int) w'=>Own w D w' [blk u [.slice i.2.2.2.1 i.2.2.2.2.2.1.length i.2.2.2.2.1, .int .i64 i.2.2.2.2.2.2] 120,row i.1 i.2.2.1.length i.2.1 (List.flatMap aB.cells i.2.2.1) 64 6]∧(ah 1 b c a.af.ls i.2.2.2.1 i.2.2.2.2.1 i.2.2.2.2.2.1∧0≤i.2.2.1.length∧i.2.2.2.2.2.1.length≤a.af.ls.length∧i.2.2.2.2.2.1.length≤a.af.ls.length+1∧i.2.2.1.length≤1000∧(bnd (dC d ((Int.toNat d - 0)+1) ([]) 0 a.af.ls a.ax) fun sLrJjL=>(sLrJjL.1,sLrJjL.2.1,sLrJjL.2.2))=(i.2.2.1,i.2.2.2.2.2.1,i.2.2.2.2.2.2)):=⟨_,rfl⟩
 have E:∀ {F:Option Addr} {G:Nat} {n:List aB} {I:Option Addr} {J:Nat} {p:List UInt8} {K:Int} {w':World},W (F,G,n,I,J,p,K) w'↔Own w D w' [blk u [.slice I p.length J, .int .i64 K] 120,row F n.length G (List.flatMap aB.cells n) 64 6]∧ah 1 b c a.af.ls I J p∧0≤n.length∧p.length≤a.af.ls.length∧p.length≤a.af.ls.length+1∧n.length≤1000∧(bnd (dC d ((Int.toNat d - 0)+1) ([]) 0 a.af.ls a.ax) fun sLrJjL=>(sLrJjL.1,sLrJjL.2.1,sLrJjL.2.2))=(n,p,K):=by intros; subst X; exact Iff.rfl
 refine Wp.joinT (fun i:(Option Addr) × Nat × (List aB) × (Option Addr) × Nat × (List UInt8) × Int=> [(7, .slice i.1 i.2.2.1.length i.2.1),(6, .slice none 0 0)]) W ?_ ?_
 refine bo ?_
 have aF:Own w D w [row none 0 0 (List.flatMap aB.cells ([])) 64 6,blk u [.slice b a.af.ls.length c, .int .i64 a.ax] 120]:=H.free (bP 64 6)
 have aG:=aF.pk [1,0]
 obtain⟨Y,Z⟩:∃ q:((Option Addr) × Nat × (List aB) × Nat × (Option Addr) × Nat × (List UInt8) × Int × Nat)→World→Prop,q=fun(i:(Option Addr) × Nat × (List aB) × Nat × (Option Addr) × Nat × (List UInt8) × Int × Nat) w'=>Own w D w' [blk u [.slice i.2.2.2.2.1 i.2.2.2.2.2.2.1.length i.2.2.2.2.2.1, .int .i64 i.2.2.2.2.2.2.2.1] 120,row i.1 i.2.2.1.length i.2.1 (List.flatMap aB.cells i.2.2.1) 64 6]∧(ah 1 b c a.af.ls i.2.2.2.2.1 i.2.2.2.2.2.1 i.2.2.2.2.2.2.1∧i.2.2.1.length≤i.2.2.2.1∧(i.2.2.2.1=0∨((i.2.2.2.1:Nat):Int)≤d)∧Int.toNat d - i.2.2.2.1 < i.2.2.2.2.2.2.2.2∧dC d ((Int.toNat d - 0)+1) ([]) 0 a.af.ls a.ax=dC d i.2.2.2.2.2.2.2.2 i.2.2.1 i.2.2.2.1 i.2.2.2.2.2.2.1 i.2.2.2.2.2.2.2.1):=⟨_,rfl⟩
 have L:∀ {A:Option Addr} {B:Nat} {g:List aB} {h:Nat} {r:Option Addr} {o:Nat} {j:List UInt8} {l:Int} {C:Nat} {w':World},Y (A,B,g,h,r,o,j,l,C) w'↔Own w D w' [blk u [.slice r j.length o, .int .i64 l] 120,row A g.length B (List.flatMap aB.cells g) 64 6]∧ah 1 b c a.af.ls r o j∧g.length≤h∧(h=0∨((h:Nat):Int)≤d)∧Int.toNat d - h < C∧dC d ((Int.toNat d - 0)+1) ([]) 0 a.af.ls a.ax=dC d C g h j l:=by intros; subst Z; exact Iff.rfl
 refine Wp.loop (fun i:(Option Addr) × Nat × (List aB) × Nat × (Option Addr) × Nat × (List UInt8) × Int × Nat=> [(7, .slice i.1 i.2.2.1.length i.2.1),(8, .int .i64 ((i.2.2.2.1:Nat):Int)),(6, .slice none 0 0),(0, .pointer (some ⟨u,0,none⟩)),(1, .int .i64 d),(2, .func (.func 83) #[] #[])]) Y (fun i=>i.2.2.2.2.2.2.2.2) (none,0, [],0,b,c,a.af.ls,a.ax,(Int.toNat d - 0)+1) ⟨rfl,rfl,rfl,rfl,rfl,rfl,trivial⟩ (L.2 ⟨aG,(show ah 1 b c a.af.ls b c a.af.ls∧0≤0∧(0=0∨((0:Nat):Int)≤d)∧Int.toNat d - 0 < ((Int.toNat d - 0)+1)∧dC d ((Int.toNat d - 0)+1) ([]) 0 a.af.ls a.ax=dC d ((Int.toNat d - 0)+1) ([]) 0 a.af.ls a.ax from ⟨by exact(ah.refl (by omega)),by omega,by omega,by omega,rfl⟩)⟩) ?_
 rintro ⟨A,B,g,h,r,o,j,l,C⟩ bv ae
 show Wp _ _ _ [(7, .slice A g.length B),(8, .int .i64 ((h:Nat):Int)),(6, .slice none 0 0),(0, .pointer (some ⟨u,0,none⟩)),(1, .int .i64 d),(2, .func (.func 83) #[] #[])] _ _
 obtain⟨N,t,aT,aU,aV,M⟩:=L.1 ae
 have aW:=(t).le
 obtain⟨T,af⟩:∃ q,C=q+1:=⟨C - 1,by omega⟩
 subst af
 refine Wp.seq (sr (Mz rfl (Mz rfl (Kz (.bool (decide (((h:Nat):Int) < d))) (Mz rfl ?_)))))
 by_cases f:((h:Nat):Int) < d
 refine gw (.pointer (some ⟨u,0,none⟩)) (dT f) (Yl.move rfl) (Gz (.pointer (some ⟨u,0,none⟩)) (dT f) (Gz (.pointer (some ⟨u,1,none⟩)) (dT f) (Gl (.int .i64 l) (dT f) N 0 Tryz.isAgg32 (Gz (.bool (decide (l=0))) (dT f) (fw (.bool (decide (l=0))) (Yl.pickT rfl (dT f) rfl) (nt ?_))))))
 by_cases O:l=0
 refine jT (dT O) (sk (Wp.seq (bo (Wp.region (Mz rfl (Mz rfl (Mz rfl ?_)))))))
 obtain⟨⟨x,P⟩,Q⟩:∃ q:aB × ReaderT,jR (ReaderT.mk (Ll.mk j) l)=q:=⟨_,rfl⟩
 obtain⟨bz,ag,ai,aj,aX⟩:=Own.enter1 N
 refine WL.do rfl (Do.callV Tryz.call83 rfl rfl (qJ _ _ u (ReaderT.mk (Ll.mk j) l) r o x P ag (fun w9 h9=>ah.rds av (by decide) t ((ai _ S) w9 h9)) (show j.length≤o∧j.length≤9223372036854775807 from by omega) Q) ?_)
 rintro _ bC ⟨ak,au,rfl,ax,z⟩
 have aH:=aj _ _ ax
 replace z:ah 1 r o j ak au P.af.ls:=z
 have aY:=(z).le
 refine iP (aB.cells x) 64 6 1 aH ?_
 intro aI bE U
 replace U:=Own.reh (y:=row aI 1 1 (List.flatMap aB.cells ([x])) 64 6) rfl U
 have ay:=U.pk [2,0,1]
 refine WL.do rfl (Do.appendW (k:=g.length) (m:=1) (ma) ay rfl rfl (cz Tryz.underlying25 (ay.rds (i:=1) rfl) (bK aB.one ([x]))) rfl (by omega) (s:=List.length (g++ [x])) (by first | omega | (simp only [List.length_append,List.length_cons,List.length_nil] <;> omega)) (List.flatMap_append).symm ?_)
 intro aJ aK bF aL
 have aZ:List.length (g++ [x])=g.length+1:=by simp only [List.length_append,List.length_cons,List.length_nil]
 refine Az rfl (WL.nil (bN (Fin.then (Wp.region (Mz rfl (fw (.int .i64 ((h+1:Nat):Int)) (Yl.int (e:=IntKind.i64.wrap (((h:Nat):Int)+1)) yk (by rw [IntWalk.i64_in _ (by omega)]; omega)) (Az rfl (WL.nil ?_))))))))
 have aM:=aL.pk [2,0]
 exact Fin.round (aJ,aK,(g++ [x]),h+1,ak,au,P.af.ls,P.ax,T) ⟨rfl,rfl,rfl,rfl,rfl,rfl,trivial⟩ (L.2 ⟨aM,by exact(ah.trans t z),by omega,by omega,by omega,et (M) (et (ip f) (et (ip O) (aa Q)))⟩) (by show T < T+1; omega)
 refine jF (dF O) (Wp.exit (Fin.thenX (Fin.thenX (Fin.blockX ?_))))
 have aN:=N.pk [0,1]
 exact Fin.join (A,B,g,r,o,j,l) ⟨rfl,rfl,trivial⟩ (E.2 ⟨aN,by exact t,by omega,by omega,by omega,by omega,aa (et (M) (et (ip f) (iN O)))⟩)
 refine Sz (dF f) (Sz (dF f) (Sz (dF f) (Sz (dF f) (Sz (dF f) (fw (.bool false) (Yl.pickF rfl (dF f) rfl) (nt (jf (Wp.exit (Fin.thenX (Fin.thenX (Fin.blockX ?_)))))))))))
 have aO:=N.pk [0,1]
 exact Fin.join (A,B,g,r,o,j,l) ⟨rfl,rfl,trivial⟩ (E.2 ⟨aO,by exact t,by omega,by omega,by omega,by omega,aa (et (M) (iN f))⟩)
 rintro ⟨F,G,n,I,J,p,K⟩ bG az
 show Wp _ _ _ [(7, .slice F n.length G),(6, .slice none 0 0)] _ _
 obtain⟨aP,R,bf,bg,bi,bn,aA⟩:=E.1 az
 have bq:=(R).le
 refine sr (Mz rfl (An rfl (rt (rs ?_))))
 have aQ:=aP.pk [1,0]
 have e:ja a d=(n,ReaderT.mk (Ll.mk p) K):=aa aA
 obtain⟨rfl,rfl⟩:=dL (e.symm.trans hr)
 exact⟨F,G,I,J,rfl,aQ,R,(by omega)⟩
def fP (c:ReaderT) (d:Nat):(List aB) × ReaderT:=
 bnd (aH c d) fun a=>bnd (ja a.2 ((a.1:Nat):Int)) fun b=>(b.1,b.2)
theorem nR (w:World) (D:Nat→Prop) (r:Nat) (f:ReaderT) (b:Option Addr) (a:Nat) (k:Nat) (x:List aB) (L:ReaderT) (H:Own w D w [blk r [.slice b f.af.ls.length a, .int .i64 f.ax] 120]) (j:Ro w D fun w'=>bD w' 1 b f.af.ls.length (List.flatMap eB f.af.ls)) (M:f.af.ls.length≤a∧f.af.ls.length≤9223372036854775807) (Y:k≤1000) (hr:fP f k=(x,L)):
    Calls Tryz.prog 82 #[.pointer (some ⟨r,0,none⟩), .int .u64 ((k:Nat):Int), .func (.func 83) #[] #[]] w (cK fun v w'=> ∃ (R:Option Addr) (S:Nat) (B1ox0:Option Addr) (b1ox0:Nat),v= .slice R x.length S∧Own w D w' [row R x.length S (List.flatMap aB.cells x) 64 6,blk r [.slice B1ox0 L.af.ls.length b1ox0, .int .i64 L.ax] 120]∧(ah 1 b a f.af.ls B1ox0 b1ox0 L.af.ls)∧(x.length≤1000)):=by
 refine Calls.body (args:= [.pointer (some ⟨r,0,none⟩), .int .u64 ((k:Nat):Int), .func (.func 83) #[] #[]]) Tryz.func82 rfl rfl rfl ?_
 show Wp _ _ _ [(0, .pointer (some ⟨r,0,none⟩)),(1, .int .u64 ((k:Nat):Int)),(2, .func (.func 83) #[] #[])] _ _
 refine sr (Ar rfl (Mz rfl (Mz rfl (Mz rfl ?_))))
 obtain⟨⟨h,d⟩,m⟩:∃ q:Nat × ReaderT,aH f k=q:=⟨_,rfl⟩
 obtain⟨Z,y,z,A,T⟩:=Own.enter1 H
 refine cl Tryz.call79 (dR _ _ r f b a k h d y (z _ j) (show f.af.ls.length≤a∧f.af.ls.length≤9223372036854775807 from by omega) m) ?_
 rintro _ ae ⟨s,l,rfl,B,c,n⟩
 have N:=A _ _ B
 replace c:ah 1 b a f.af.ls s l d.af.ls:=c
 have U:=(c).le
 replace n:h≤k:=n
 refine fw (.int .i64 ((h:Nat):Int)) (Yl.int (e:=IntKind.i64.wrap ((h:Nat):Int)) yk (IntWalk.i64_in _ (by omega))) (Mz rfl ?_)
 obtain⟨⟨t,u⟩,o⟩:∃ q:(List aB) × ReaderT,ja d ((h:Nat):Int)=q:=⟨_,rfl⟩
 obtain⟨af,C,E,F,V⟩:=Own.enter1 N
 refine cl Tryz.call110 (nG _ _ r d s l ((h:Nat):Int) t u C (fun w9 h9=>ah.rds av (by decide) c ((E _ j) w9 h9)) (show d.af.ls.length≤l∧d.af.ls.length≤9223372036854775807 from by omega) (by omega) o) ?_
 rintro _ aj ⟨O,P,G,I,rfl,J,g,p⟩
 have K:=F _ _ J
 replace g:ah 1 s l d.af.ls G I u.af.ls:=g
 have W:=(g).le
 have X:=K.rowC (i:=0) rfl
 replace p:t.length≤1000:=p
 refine An rfl (rt (rs ?_))
 have Q:=K.pk [0,1]
 have e:fP f k=(t,u):=et (aa m) (aa o)
 obtain⟨rfl,rfl⟩:=dL (e.symm.trans hr)
 exact⟨O,P,G,I,rfl,Q,(ah.trans c g),(by omega)⟩
def bZ (g:Int):Nat→List aX→Nat→List UInt8→Int→(List aX) × (List UInt8) × Int
  | 0,c,e,d,a=>default
  | f+1,c,e,d,a=>if((e:Nat):Int) < g then if a=0 then bnd (iT (ReaderT.mk (Ll.mk d) a)) fun b=>bZ g f (c++ [b.1]) (e+1) b.2.af.ls b.2.ax else(c,d,a) else(c,d,a)
def iA (a:ReaderT) (b:Int):(List aX) × ReaderT:=
 bnd (bnd (bZ b ((Int.toNat b - 0)+1) ([]) 0 a.af.ls a.ax) fun sLrJjL=>(sLrJjL.1,sLrJjL.2.1,sLrJjL.2.2)) fun sJrJ=>(sJrJ.1,ReaderT.mk (Ll.mk sJrJ.2.1) sJrJ.2.2)
theorem mi (w:World) (D:Nat→Prop) (z:Nat) (d:ReaderT) (b:Option Addr) (c:Nat) (g:Int) (r0:List aX) (r1:ReaderT) (H:Own w D w [blk z [.slice b d.af.ls.length c, .int .i64 d.ax] 120]) (Z:Ro w D fun w'=>bD w' 1 b d.af.ls.length (List.flatMap eB d.af.ls)) (aQ:d.af.ls.length≤c∧d.af.ls.length≤9223372036854775807) (bT:g≤1000) (hr:iA d g=(r0,r1)):
    Calls Tryz.prog 111 #[.pointer (some ⟨z,0,none⟩), .int .i64 g, .func (.func 85) #[] #[]] w (cK fun v w'=> ∃ (B0:Option Addr) (b0:Nat) (e0:List ag) (B1ox0:Option Addr) (b1ox0:Nat),v= .slice B0 r0.length b0∧Own w D w' [row B0 r0.length b0 (List.flatMap ag.cells e0) 84 3,sepL (List.flatMap ag.own e0),blk z [.slice B1ox0 r1.af.ls.length b1ox0, .int .i64 r1.ax] 120]∧(List.map ag.abs e0=r0)∧(ah 1 b c d.af.ls B1ox0 b1ox0 r1.af.ls)∧(r0.length≤1000)):=by
 refine Calls.body (args:= [.pointer (some ⟨z,0,none⟩), .int .i64 g, .func (.func 85) #[] #[]]) Tryz.func111 rfl rfl rfl ?_
 show Wp _ _ _ [(0, .pointer (some ⟨z,0,none⟩)),(1, .int .i64 g),(2, .func (.func 85) #[] #[])] _ _
 refine sr (Ar rfl (An rfl (Wp.seq (sr (An rfl ?_)))))
 obtain⟨ax,ay⟩:∃ q:((Option Addr) × Nat × (List ag) × (List aX) × (Option Addr) × Nat × (List UInt8) × Int)→World→Prop,q=fun(i:(Option Addr) × Nat × (List ag) × (List aX) × (Option Addr) × Nat × (List UInt8) × Int) w'=>Own w D w' [blk z [.slice i.2.2.2.2.1 i.2.2.2.2.2.2.1.length i.2.2.2.2.2.1, .int .i64 i.2.2.2.2.2.2.2] 120,row i.1 i.2.2.2.1.length i.2.1 (List.flatMap ag.cells i.2.2.1) 84 3,sepL (List.flatMap ag.own i.2.2.1)]∧(List.map ag.abs i.2.2.1=i.2.2.2.1∧ah 1 b c d.af.ls i.2.2.2.2.1 i.2.2.2.2.2.1 i.2.2.2.2.2.2.1∧0≤i.2.2.2.1.length∧i.2.2.2.2.2.2.1.length≤d.af.ls.length∧i.2.2.2.2.2.2.1.length≤d.af.ls.length+1∧i.2.2.2.1.length≤1000∧(bnd (bZ g ((Int.toNat g - 0)+1) ([]) 0 d.af.ls d.ax) fun sLrJjL=>(sLrJjL.1,sLrJjL.2.1,sLrJjL.2.2))=(i.2.2.2.1,i.2.2.2.2.2.2.1,i.2.2.2.2.2.2.2)):=⟨_,rfl⟩
 have M:∀ {N:Option Addr} {O:Nat} {G:List ag} {u:List aX} {P:Option Addr} {Q:Nat} {A:List UInt8} {R:Int} {w':World},ax (N,O,G,u,P,Q,A,R) w'↔Own w D w' [blk z [.slice P A.length Q, .int .i64 R] 120,row N u.length O (List.flatMap ag.cells G) 84 3,sepL (List.flatMap ag.own G)]∧List.map ag.abs G=u∧ah 1 b c d.af.ls P Q A∧0≤u.length∧A.length≤d.af.ls.length∧A.length≤d.af.ls.length+1∧u.length≤1000∧(bnd (bZ g ((Int.toNat g - 0)+1) ([]) 0 d.af.ls d.ax) fun sLrJjL=>(sLrJjL.1,sLrJjL.2.1,sLrJjL.2.2))=(u,A,R):=by intros; subst ay; exact Iff.rfl
 refine Wp.joinT (fun i:(Option Addr) × Nat × (List ag) × (List aX) × (Option Addr) × Nat × (List UInt8) × Int=> [(7, .slice i.1 i.2.2.2.1.length i.2.1),(6, .slice none 0 0)]) ax ?_ ?_
 refine bo ?_
 have aS:Own w D w [sepL (List.flatMap ag.own ([])),blk z [.slice b d.af.ls.length c, .int .i64 d.ax] 120]:=H.sepNil
 have aT:Own w D w [row none 0 0 (List.flatMap ag.cells ([])) 84 3,sepL (List.flatMap ag.own ([])),blk z [.slice b d.af.ls.length c, .int .i64 d.ax] 120]:=aS.free (bP 84 3)
 have aU:=aT.pk [2,0,1]
 obtain⟨az,aA⟩:∃ q:((Option Addr) × Nat × (List ag) × (List aX) × Nat × (Option Addr) × Nat × (List UInt8) × Int × Nat)→World→Prop,q=fun(i:(Option Addr) × Nat × (List ag) × (List aX) × Nat × (Option Addr) × Nat × (List UInt8) × Int × Nat) w'=>Own w D w' [blk z [.slice i.2.2.2.2.2.1 i.2.2.2.2.2.2.2.1.length i.2.2.2.2.2.2.1, .int .i64 i.2.2.2.2.2.2.2.2.1] 120,row i.1 i.2.2.2.1.length i.2.1 (List.flatMap ag.cells i.2.2.1) 84 3,sepL (List.flatMap ag.own i.2.2.1)]∧(List.map ag.abs i.2.2.1=i.2.2.2.1∧ah 1 b c d.af.ls i.2.2.2.2.2.1 i.2.2.2.2.2.2.1 i.2.2.2.2.2.2.2.1∧i.2.2.2.1.length≤i.2.2.2.2.1∧(i.2.2.2.2.1=0∨((i.2.2.2.2.1:Nat):Int)≤g)∧Int.toNat g - i.2.2.2.2.1 < i.2.2.2.2.2.2.2.2.2∧bZ g ((Int.toNat g - 0)+1) ([]) 0 d.af.ls d.ax=bZ g i.2.2.2.2.2.2.2.2.2 i.2.2.2.1 i.2.2.2.2.1 i.2.2.2.2.2.2.2.1 i.2.2.2.2.2.2.2.2.1):=⟨_,rfl⟩
 have S:∀ {I:Option Addr} {J:Nat} {p:List ag} {h:List aX} {l:Nat} {B:Option Addr} {x:Nat} {n:List UInt8} {o:Int} {K:Nat} {w':World},az (I,J,p,h,l,B,x,n,o,K) w'↔Own w D w' [blk z [.slice B n.length x, .int .i64 o] 120,row I h.length J (List.flatMap ag.cells p) 84 3,sepL (List.flatMap ag.own p)]∧List.map ag.abs p=h∧ah 1 b c d.af.ls B x n∧h.length≤l∧(l=0∨((l:Nat):Int)≤g)∧Int.toNat g - l < K∧bZ g ((Int.toNat g - 0)+1) ([]) 0 d.af.ls d.ax=bZ g K h l n o:=by intros; subst aA; exact Iff.rfl
 refine Wp.loop (fun i:(Option Addr) × Nat × (List ag) × (List aX) × Nat × (Option Addr) × Nat × (List UInt8) × Int × Nat=> [(7, .slice i.1 i.2.2.2.1.length i.2.1),(8, .int .i64 ((i.2.2.2.2.1:Nat):Int)),(6, .slice none 0 0),(0, .pointer (some ⟨z,0,none⟩)),(1, .int .i64 g),(2, .func (.func 85) #[] #[])]) az (fun i=>i.2.2.2.2.2.2.2.2.2) (none,0, [], [],0,b,c,d.af.ls,d.ax,(Int.toNat g - 0)+1) ⟨rfl,rfl,rfl,rfl,rfl,rfl,trivial⟩ (S.2 ⟨aU,(show List.map ag.abs ([])=([])∧ah 1 b c d.af.ls b c d.af.ls∧0≤0∧(0=0∨((0:Nat):Int)≤g)∧Int.toNat g - 0 < ((Int.toNat g - 0)+1)∧bZ g ((Int.toNat g - 0)+1) ([]) 0 d.af.ls d.ax=bZ g ((Int.toNat g - 0)+1) ([]) 0 d.af.ls d.ax from ⟨by exact rfl,by exact(ah.refl (by omega)),by omega,by omega,by omega,rfl⟩)⟩) ?_
 rintro ⟨I,J,p,h,l,B,x,n,o,K⟩ bU aB
 show Wp _ _ _ [(7, .slice I h.length J),(8, .int .i64 ((l:Nat):Int)),(6, .slice none 0 0),(0, .pointer (some ⟨z,0,none⟩)),(1, .int .i64 g),(2, .func (.func 85) #[] #[])] _ _
 obtain⟨W,C,E,bG,bH,bI,T⟩:=S.1 aB
 have bJ:=dM C
 have bL:=(E).le
 obtain⟨ae,aC⟩:∃ q,K=q+1:=⟨K - 1,by omega⟩
 subst aC
 refine Wp.seq (sr (Mz rfl (Mz rfl (Kz (.bool (decide (((l:Nat):Int) < g))) (Mz rfl ?_)))))
 by_cases j:((l:Nat):Int) < g
 refine gw (.pointer (some ⟨z,0,none⟩)) (dT j) (Yl.move rfl) (Gz (.pointer (some ⟨z,0,none⟩)) (dT j) (Gz (.pointer (some ⟨z,1,none⟩)) (dT j) (Gl (.int .i64 o) (dT j) W 0 Tryz.isAgg32 (Gz (.bool (decide (o=0))) (dT j) (fw (.bool (decide (o=0))) (Yl.pickT rfl (dT j) rfl) (nt ?_))))))
 by_cases X:o=0
 refine jT (dT X) (sk (Wp.seq (bo (Wp.region (Mz rfl (Mz rfl (Mz rfl ?_)))))))
 obtain⟨⟨a,L⟩,Y⟩:∃ q:aX × ReaderT,iT (ReaderT.mk (Ll.mk n) o)=q:=⟨_,rfl⟩
 obtain⟨bV,aD,aF,aG,bM⟩:=Own.enter1 W
 refine WL.do rfl (Do.callV Tryz.call85 rfl rfl (oP _ _ z (ReaderT.mk (Ll.mk n) o) B x a L aD (fun w9 h9=>ah.rds av (by decide) E ((aF _ Z) w9 h9)) (show n.length≤x∧n.length≤9223372036854775807 from by omega) Y) ?_)
 rintro _ bY ⟨r,t,af,ai,rfl,aH,F⟩
 have aI:=aG _ _ aH
 replace F:ah 1 B x n af ai L.af.ls:=F
 have bO:=(F).le
 have bQ:=aI.rowC (i:=0) rfl
 refine iP [.bool a.dX, .string ⟨List.toArray a.au⟩, .slice r a.ay.ls.length t] 84 3 1 aI ?_
 intro aJ cu aj
 replace aj:=Own.reh (y:=row aJ 1 1 (List.flatMap ag.cells ([(ag.mk a.dX a.au (Sv.mk r t a.ay.ls))])) 84 3) rfl aj
 have aK:=aj.pk [3,4,1,0,2]
 refine WL.do rfl (Do.appendW (k:=h.length) (m:=1) (mJ) aK rfl rfl (cz Tryz.underlying26 (aK.rds (i:=3) rfl) (bK ag.one ([(ag.mk a.dX a.au (Sv.mk r t a.ay.ls))]))) rfl (by omega) (s:=List.length (h++ [a])) (by first | omega | (simp only [List.length_append,List.length_cons,List.length_nil] <;> omega)) (List.flatMap_append).symm ?_)
 intro aL aM aV aY
 have aZ:=aY.pk [1,2,0,3,4]
 have bf:Own w D aV [sepL (List.flatMap ag.own (p++ [(ag.mk a.dX a.au (Sv.mk r t a.ay.ls))])),row aL (List.length (h++ [a])) aM (List.flatMap ag.cells (p++ [(ag.mk a.dX a.au (Sv.mk r t a.ay.ls))])) 84 3,row aJ 1 1 (List.flatMap ag.cells ([(ag.mk a.dX a.au (Sv.mk r t a.ay.ls))])) 84 3,blk z [.slice af L.af.ls.length ai, .int .i64 L.ax] 120]:=aZ.sepAdd (L2:= [row r a.ay.ls.length t (List.flatMap aW.cells a.ay.ls) 86 2]) (List.flatMap_append (f:=ag.own) (xs:=p) (ys:= [(ag.mk a.dX a.au (Sv.mk r t a.ay.ls))])).symm
 have bR:List.length (h++ [a])=h.length+1:=by simp only [List.length_append,List.length_cons,List.length_nil]
 have bS:=dM (pu (es:= [(ag.mk a.dX a.au (Sv.mk r t a.ay.ls))]) (ms:= [a]) C rfl)
 refine Az rfl (WL.nil (bN (Fin.then (Wp.region (Mz rfl (fw (.int .i64 ((l+1:Nat):Int)) (Yl.int (e:=IntKind.i64.wrap (((l:Nat):Int)+1)) yk (by rw [IntWalk.i64_in _ (by omega)]; omega)) (Az rfl (WL.nil ?_))))))))
 have bg:=bf.pk [3,1,0]
 exact Fin.round (aL,aM,(p++ [(ag.mk a.dX a.au (Sv.mk r t a.ay.ls))]),(h++ [a]),l+1,af,ai,L.af.ls,L.ax,ae) ⟨rfl,rfl,rfl,rfl,rfl,rfl,trivial⟩ (S.2 ⟨bg,by exact(pu (es:= [(ag.mk a.dX a.au (Sv.mk r t a.ay.ls))]) (ms:= [a]) C rfl),by exact(ah.trans E F),by omega,by omega,by omega,et (T) (et (ip j) (et (ip X) (aa Y)))⟩) (by show ae < ae+1; omega)
 refine jF (dF X) (Wp.exit (Fin.thenX (Fin.thenX (Fin.blockX ?_))))
 have bi:=W.pk [0,1,2]
 exact Fin.join (I,J,p,h,B,x,n,o) ⟨rfl,rfl,trivial⟩ (M.2 ⟨bi,by exact C,by exact E,by omega,by omega,by omega,by omega,aa (et (T) (et (ip j) (iN X)))⟩)
 refine Sz (dF j) (Sz (dF j) (Sz (dF j) (Sz (dF j) (Sz (dF j) (fw (.bool false) (Yl.pickF rfl (dF j) rfl) (nt (jf (Wp.exit (Fin.thenX (Fin.thenX (Fin.blockX ?_)))))))))))
 have bn:=W.pk [0,1,2]
 exact Fin.join (I,J,p,h,B,x,n,o) ⟨rfl,rfl,trivial⟩ (M.2 ⟨bn,by exact C,by exact E,by omega,by omega,by omega,by omega,aa (et (T) (iN j))⟩)
 rintro ⟨N,O,G,u,P,Q,A,R⟩ cB aN
 show Wp _ _ _ [(7, .slice N u.length O),(6, .slice none 0 0)] _ _
 obtain⟨bq,U,V,bu,bv,bz,bA,ak⟩:=M.1 aN
 have bB:=dM U
 have bC:=(V).le
 refine sr (Mz rfl (An rfl (rt (rs ?_))))
 have aO:=bq.pk [1,2,0]
 have e:iA d g=(u,ReaderT.mk (Ll.mk A) R):=aa ak
 obtain⟨rfl,rfl⟩:=dL (e.symm.trans hr)
 exact⟨N,O,G,P,Q,rfl,aO,U,V,(by omega)⟩
def eF (c:ReaderT) (d:Nat):(List aX) × ReaderT:=
 bnd (aH c d) fun a=>bnd (iA a.2 ((a.1:Nat):Int)) fun b=>(b.1,b.2)
theorem mE (w:World) (D:Nat→Prop) (s:Nat) (f:ReaderT) (b:Option Addr) (a:Nat) (k:Nat) (y:List aX) (M:ReaderT) (H:Own w D w [blk s [.slice b f.af.ls.length a, .int .i64 f.ax] 120]) (j:Ro w D fun w'=>bD w' 1 b f.af.ls.length (List.flatMap eB f.af.ls)) (N:f.af.ls.length≤a∧f.af.ls.length≤9223372036854775807) (ai:k≤1000) (hr:eF f k=(y,M)):
    Calls Tryz.prog 84 #[.pointer (some ⟨s,0,none⟩), .int .u64 ((k:Nat):Int), .func (.func 85) #[] #[]] w (cK fun v w'=> ∃ (U:Option Addr) (V:Nat) (O:List ag) (B1ox0:Option Addr) (b1ox0:Nat),v= .slice U y.length V∧Own w D w' [row U y.length V (List.flatMap ag.cells O) 84 3,sepL (List.flatMap ag.own O),blk s [.slice B1ox0 M.af.ls.length b1ox0, .int .i64 M.ax] 120]∧(List.map ag.abs O=y)∧(ah 1 b a f.af.ls B1ox0 b1ox0 M.af.ls)∧(y.length≤1000)):=by
 refine Calls.body (args:= [.pointer (some ⟨s,0,none⟩), .int .u64 ((k:Nat):Int), .func (.func 85) #[] #[]]) Tryz.func84 rfl rfl rfl ?_
 show Wp _ _ _ [(0, .pointer (some ⟨s,0,none⟩)),(1, .int .u64 ((k:Nat):Int)),(2, .func (.func 85) #[] #[])] _ _
 refine sr (Ar rfl (Mz rfl (Mz rfl (Mz rfl ?_))))
 obtain⟨⟨h,d⟩,m⟩:∃ q:Nat × ReaderT,aH f k=q:=⟨_,rfl⟩
 obtain⟨aj,z,A,B,W⟩:=Own.enter1 H
 refine cl Tryz.call79 (dR _ _ s f b a k h d z (A _ j) (show f.af.ls.length≤a∧f.af.ls.length≤9223372036854775807 from by omega) m) ?_
 rintro _ ak ⟨t,l,rfl,C,c,n⟩
 have P:=B _ _ C
 replace c:ah 1 b a f.af.ls t l d.af.ls:=c
 have X:=(c).le
 replace n:h≤k:=n
 refine fw (.int .i64 ((h:Nat):Int)) (Yl.int (e:=IntKind.i64.wrap ((h:Nat):Int)) yk (IntWalk.i64_in _ (by omega))) (Mz rfl ?_)
 obtain⟨⟨u,x⟩,o⟩:∃ q:(List aX) × ReaderT,iA d ((h:Nat):Int)=q:=⟨_,rfl⟩
 obtain⟨au,E,F,G,Y⟩:=Own.enter1 P
 refine cl Tryz.call111 (mi _ _ s d t l ((h:Nat):Int) u x E (fun w9 h9=>ah.rds av (by decide) c ((F _ j) w9 h9)) (show d.af.ls.length≤l∧d.af.ls.length≤9223372036854775807 from by omega) (by omega) o) ?_
 rintro _ az ⟨Q,R,S,I,J,rfl,K,p,g,r⟩
 have L:=G _ _ K
 replace g:ah 1 t l d.af.ls I J x.af.ls:=g
 have Z:=(g).le
 have ae:=dM p
 have af:=L.rowC (i:=0) rfl
 replace r:u.length≤1000:=r
 refine An rfl (rt (rs ?_))
 have T:=L.pk [0,1,2]
 have e:eF f k=(u,x):=et (aa m) (aa o)
 obtain⟨rfl,rfl⟩:=dL (e.symm.trans hr)
 exact⟨Q,R,S,I,J,rfl,T,p,(ah.trans c g),(by omega)⟩
def cB (g:Int):Nat→List aA→Nat→List UInt8→Int→(List aA) × (List UInt8) × Int
  | 0,c,e,d,a=>default
  | f+1,c,e,d,a=>if((e:Nat):Int) < g then if a=0 then bnd (jd (ReaderT.mk (Ll.mk d) a)) fun b=>cB g f (c++ [b.1]) (e+1) b.2.af.ls b.2.ax else(c,d,a) else(c,d,a)
def iE (a:ReaderT) (b:Int):(List aA) × ReaderT:=
 bnd (bnd (cB b ((Int.toNat b - 0)+1) ([]) 0 a.af.ls a.ax) fun sLrJjL=>(sLrJjL.1,sLrJjL.2.1,sLrJjL.2.2)) fun sJrJ=>(sJrJ.1,ReaderT.mk (Ll.mk sJrJ.2.1) sJrJ.2.2)
theorem mF (w:World) (D:Nat→Prop) (u:Nat) (a:ReaderT) (b:Option Addr) (c:Nat) (d:Int) (V:List aA) (r1:ReaderT) (H:Own w D w [blk u [.slice b a.af.ls.length c, .int .i64 a.ax] 120]) (S:Ro w D fun w'=>bD w' 1 b a.af.ls.length (List.flatMap eB a.af.ls)) (aD:a.af.ls.length≤c∧a.af.ls.length≤9223372036854775807) (bu:d≤1000) (hr:iE a d=(V,r1)):
    Calls Tryz.prog 114 #[.pointer (some ⟨u,0,none⟩), .int .i64 d, .func (.func 87) #[] #[]] w (cK fun v w'=> ∃ (B0:Option Addr) (b0:Nat) (B1ox0:Option Addr) (b1ox0:Nat),v= .slice B0 V.length b0∧Own w D w' [row B0 V.length b0 (List.flatMap aA.cells V) 88 2,blk u [.slice B1ox0 r1.af.ls.length b1ox0, .int .i64 r1.ax] 120]∧(ah 1 b c a.af.ls B1ox0 b1ox0 r1.af.ls)∧(V.length≤1000)):=by
 refine Calls.body (args:= [.pointer (some ⟨u,0,none⟩), .int .i64 d, .func (.func 87) #[] #[]]) Tryz.func114 rfl rfl rfl ?_
 show Wp _ _ _ [(0, .pointer (some ⟨u,0,none⟩)),(1, .int .i64 d),(2, .func (.func 87) #[] #[])] _ _
 refine sr (Ar rfl (An rfl (Wp.seq (sr (An rfl ?_)))))
 obtain⟨W,X⟩:∃ q:((Option Addr) × Nat × (List aA) × (Option Addr) × Nat × (List UInt8) × Int)→World→Prop,q=fun(i:(Option Addr) × Nat × (List aA) × (Option Addr) × Nat × (List UInt8) × Int) w'=>Own w D w' [blk u [.slice i.2.2.2.1 i.2.2.2.2.2.1.length i.2.2.2.2.1, .int .i64 i.2.2.2.2.2.2] 120,row i.1 i.2.2.1.length i.2.1 (List.flatMap aA.cells i.2.2.1) 88 2]∧(ah 1 b c a.af.ls i.2.2.2.1 i.2.2.2.2.1 i.2.2.2.2.2.1∧0≤i.2.2.1.length∧i.2.2.2.2.2.1.length≤a.af.ls.length∧i.2.2.2.2.2.1.length≤a.af.ls.length+1∧i.2.2.1.length≤1000∧(bnd (cB d ((Int.toNat d - 0)+1) ([]) 0 a.af.ls a.ax) fun sLrJjL=>(sLrJjL.1,sLrJjL.2.1,sLrJjL.2.2))=(i.2.2.1,i.2.2.2.2.2.1,i.2.2.2.2.2.2)):=⟨_,rfl⟩
 have E:∀ {F:Option Addr} {G:Nat} {n:List aA} {I:Option Addr} {J:Nat} {p:List UInt8} {K:Int} {w':World},W (F,G,n,I,J,p,K) w'↔Own w D w' [blk u [.slice I p.length J, .int .i64 K] 120,row F n.length G (List.flatMap aA.cells n) 88 2]∧ah 1 b c a.af.ls I J p∧0≤n.length∧p.length≤a.af.ls.length∧p.length≤a.af.ls.length+1∧n.length≤1000∧(bnd (cB d ((Int.toNat d - 0)+1) ([]) 0 a.af.ls a.ax) fun sLrJjL=>(sLrJjL.1,sLrJjL.2.1,sLrJjL.2.2))=(n,p,K):=by intros; subst X; exact Iff.rfl
 refine Wp.joinT (fun i:(Option Addr) × Nat × (List aA) × (Option Addr) × Nat × (List UInt8) × Int=> [(7, .slice i.1 i.2.2.1.length i.2.1),(6, .slice none 0 0)]) W ?_ ?_
 refine bo ?_
 have aF:Own w D w [row none 0 0 (List.flatMap aA.cells ([])) 88 2,blk u [.slice b a.af.ls.length c, .int .i64 a.ax] 120]:=H.free (bP 88 2)
 have aG:=aF.pk [1,0]
 obtain⟨Y,Z⟩:∃ q:((Option Addr) × Nat × (List aA) × Nat × (Option Addr) × Nat × (List UInt8) × Int × Nat)→World→Prop,q=fun(i:(Option Addr) × Nat × (List aA) × Nat × (Option Addr) × Nat × (List UInt8) × Int × Nat) w'=>Own w D w' [blk u [.slice i.2.2.2.2.1 i.2.2.2.2.2.2.1.length i.2.2.2.2.2.1, .int .i64 i.2.2.2.2.2.2.2.1] 120,row i.1 i.2.2.1.length i.2.1 (List.flatMap aA.cells i.2.2.1) 88 2]∧(ah 1 b c a.af.ls i.2.2.2.2.1 i.2.2.2.2.2.1 i.2.2.2.2.2.2.1∧i.2.2.1.length≤i.2.2.2.1∧(i.2.2.2.1=0∨((i.2.2.2.1:Nat):Int)≤d)∧Int.toNat d - i.2.2.2.1 < i.2.2.2.2.2.2.2.2∧cB d ((Int.toNat d - 0)+1) ([]) 0 a.af.ls a.ax=cB d i.2.2.2.2.2.2.2.2 i.2.2.1 i.2.2.2.1 i.2.2.2.2.2.2.1 i.2.2.2.2.2.2.2.1):=⟨_,rfl⟩
 have L:∀ {A:Option Addr} {B:Nat} {g:List aA} {h:Nat} {r:Option Addr} {o:Nat} {j:List UInt8} {l:Int} {C:Nat} {w':World},Y (A,B,g,h,r,o,j,l,C) w'↔Own w D w' [blk u [.slice r j.length o, .int .i64 l] 120,row A g.length B (List.flatMap aA.cells g) 88 2]∧ah 1 b c a.af.ls r o j∧g.length≤h∧(h=0∨((h:Nat):Int)≤d)∧Int.toNat d - h < C∧cB d ((Int.toNat d - 0)+1) ([]) 0 a.af.ls a.ax=cB d C g h j l:=by intros; subst Z; exact Iff.rfl
 refine Wp.loop (fun i:(Option Addr) × Nat × (List aA) × Nat × (Option Addr) × Nat × (List UInt8) × Int × Nat=> [(7, .slice i.1 i.2.2.1.length i.2.1),(8, .int .i64 ((i.2.2.2.1:Nat):Int)),(6, .slice none 0 0),(0, .pointer (some ⟨u,0,none⟩)),(1, .int .i64 d),(2, .func (.func 87) #[] #[])]) Y (fun i=>i.2.2.2.2.2.2.2.2) (none,0, [],0,b,c,a.af.ls,a.ax,(Int.toNat d - 0)+1) ⟨rfl,rfl,rfl,rfl,rfl,rfl,trivial⟩ (L.2 ⟨aG,(show ah 1 b c a.af.ls b c a.af.ls∧0≤0∧(0=0∨((0:Nat):Int)≤d)∧Int.toNat d - 0 < ((Int.toNat d - 0)+1)∧cB d ((Int.toNat d - 0)+1) ([]) 0 a.af.ls a.ax=cB d ((Int.toNat d - 0)+1) ([]) 0 a.af.ls a.ax from ⟨by exact(ah.refl (by omega)),by omega,by omega,by omega,rfl⟩)⟩) ?_
 rintro ⟨A,B,g,h,r,o,j,l,C⟩ bv ae
 show Wp _ _ _ [(7, .slice A g.length B),(8, .int .i64 ((h:Nat):Int)),(6, .slice none 0 0),(0, .pointer (some ⟨u,0,none⟩)),(1, .int .i64 d),(2, .func (.func 87) #[] #[])] _ _
 obtain⟨N,t,aT,aU,aV,M⟩:=L.1 ae
 have aW:=(t).le
 obtain⟨T,af⟩:∃ q,C=q+1:=⟨C - 1,by omega⟩
 subst af
 refine Wp.seq (sr (Mz rfl (Mz rfl (Kz (.bool (decide (((h:Nat):Int) < d))) (Mz rfl ?_)))))
 by_cases f:((h:Nat):Int) < d
 refine gw (.pointer (some ⟨u,0,none⟩)) (dT f) (Yl.move rfl) (Gz (.pointer (some ⟨u,0,none⟩)) (dT f) (Gz (.pointer (some ⟨u,1,none⟩)) (dT f) (Gl (.int .i64 l) (dT f) N 0 Tryz.isAgg32 (Gz (.bool (decide (l=0))) (dT f) (fw (.bool (decide (l=0))) (Yl.pickT rfl (dT f) rfl) (nt ?_))))))
 by_cases O:l=0
 refine jT (dT O) (sk (Wp.seq (bo (Wp.region (Mz rfl (Mz rfl (Mz rfl ?_)))))))
 obtain⟨⟨x,P⟩,Q⟩:∃ q:aA × ReaderT,jd (ReaderT.mk (Ll.mk j) l)=q:=⟨_,rfl⟩
 obtain⟨bz,ag,ai,aj,aX⟩:=Own.enter1 N
 refine WL.do rfl (Do.callV Tryz.call87 rfl rfl (pJ _ _ u (ReaderT.mk (Ll.mk j) l) r o x P ag (fun w9 h9=>ah.rds av (by decide) t ((ai _ S) w9 h9)) (show j.length≤o∧j.length≤9223372036854775807 from by omega) Q) ?_)
 rintro _ bC ⟨ak,au,rfl,ax,z⟩
 have aH:=aj _ _ ax
 replace z:ah 1 r o j ak au P.af.ls:=z
 have aY:=(z).le
 refine iP (aA.cells x) 88 2 1 aH ?_
 intro aI bE U
 replace U:=Own.reh (y:=row aI 1 1 (List.flatMap aA.cells ([x])) 88 2) rfl U
 have ay:=U.pk [2,0,1]
 refine WL.do rfl (Do.appendW (k:=g.length) (m:=1) (lV) ay rfl rfl (cz Tryz.underlying27 (ay.rds (i:=1) rfl) (bK aA.one ([x]))) rfl (by omega) (s:=List.length (g++ [x])) (by first | omega | (simp only [List.length_append,List.length_cons,List.length_nil] <;> omega)) (List.flatMap_append).symm ?_)
 intro aJ aK bF aL
 have aZ:List.length (g++ [x])=g.length+1:=by simp only [List.length_append,List.length_cons,List.length_nil]
 refine Az rfl (WL.nil (bN (Fin.then (Wp.region (Mz rfl (fw (.int .i64 ((h+1:Nat):Int)) (Yl.int (e:=IntKind.i64.wrap (((h:Nat):Int)+1)) yk (by rw [IntWalk.i64_in _ (by omega)]; omega)) (Az rfl (WL.nil ?_))))))))
 have aM:=aL.pk [2,0]
 exact Fin.round (aJ,aK,(g++ [x]),h+1,ak,au,P.af.ls,P.ax,T) ⟨rfl,rfl,rfl,rfl,rfl,rfl,trivial⟩ (L.2 ⟨aM,by exact(ah.trans t z),by omega,by omega,by omega,et (M) (et (ip f) (et (ip O) (aa Q)))⟩) (by show T < T+1; omega)
 refine jF (dF O) (Wp.exit (Fin.thenX (Fin.thenX (Fin.blockX ?_))))
 have aN:=N.pk [0,1]
 exact Fin.join (A,B,g,r,o,j,l) ⟨rfl,rfl,trivial⟩ (E.2 ⟨aN,by exact t,by omega,by omega,by omega,by omega,aa (et (M) (et (ip f) (iN O)))⟩)
 refine Sz (dF f) (Sz (dF f) (Sz (dF f) (Sz (dF f) (Sz (dF f) (fw (.bool false) (Yl.pickF rfl (dF f) rfl) (nt (jf (Wp.exit (Fin.thenX (Fin.thenX (Fin.blockX ?_)))))))))))
 have aO:=N.pk [0,1]
 exact Fin.join (A,B,g,r,o,j,l) ⟨rfl,rfl,trivial⟩ (E.2 ⟨aO,by exact t,by omega,by omega,by omega,by omega,aa (et (M) (iN f))⟩)
 rintro ⟨F,G,n,I,J,p,K⟩ bG az
 show Wp _ _ _ [(7, .slice F n.length G),(6, .slice none 0 0)] _ _
 obtain⟨aP,R,bf,bg,bi,bn,aB⟩:=E.1 az
 have bq:=(R).le
 refine sr (Mz rfl (An rfl (rt (rs ?_))))
 have aQ:=aP.pk [1,0]
 have e:iE a d=(n,ReaderT.mk (Ll.mk p) K):=aa aB
 obtain⟨rfl,rfl⟩:=dL (e.symm.trans hr)
 exact⟨F,G,I,J,rfl,aQ,R,(by omega)⟩
def eZ (c:ReaderT) (d:Nat):(List aA) × ReaderT:=
 bnd (aH c d) fun a=>bnd (iE a.2 ((a.1:Nat):Int)) fun b=>(b.1,b.2)
theorem mP (w:World) (D:Nat→Prop) (r:Nat) (f:ReaderT) (b:Option Addr) (a:Nat) (k:Nat) (x:List aA) (L:ReaderT) (H:Own w D w [blk r [.slice b f.af.ls.length a, .int .i64 f.ax] 120]) (j:Ro w D fun w'=>bD w' 1 b f.af.ls.length (List.flatMap eB f.af.ls)) (M:f.af.ls.length≤a∧f.af.ls.length≤9223372036854775807) (Y:k≤1000) (hr:eZ f k=(x,L)):
    Calls Tryz.prog 86 #[.pointer (some ⟨r,0,none⟩), .int .u64 ((k:Nat):Int), .func (.func 87) #[] #[]] w (cK fun v w'=> ∃ (R:Option Addr) (S:Nat) (B1ox0:Option Addr) (b1ox0:Nat),v= .slice R x.length S∧Own w D w' [row R x.length S (List.flatMap aA.cells x) 88 2,blk r [.slice B1ox0 L.af.ls.length b1ox0, .int .i64 L.ax] 120]∧(ah 1 b a f.af.ls B1ox0 b1ox0 L.af.ls)∧(x.length≤1000)):=by
 refine Calls.body (args:= [.pointer (some ⟨r,0,none⟩), .int .u64 ((k:Nat):Int), .func (.func 87) #[] #[]]) Tryz.func86 rfl rfl rfl ?_
 show Wp _ _ _ [(0, .pointer (some ⟨r,0,none⟩)),(1, .int .u64 ((k:Nat):Int)),(2, .func (.func 87) #[] #[])] _ _
 refine sr (Ar rfl (Mz rfl (Mz rfl (Mz rfl ?_))))
 obtain⟨⟨h,d⟩,m⟩:∃ q:Nat × ReaderT,aH f k=q:=⟨_,rfl⟩
 obtain⟨Z,y,z,A,T⟩:=Own.enter1 H
 refine cl Tryz.call79 (dR _ _ r f b a k h d y (z _ j) (show f.af.ls.length≤a∧f.af.ls.length≤9223372036854775807 from by omega) m) ?_
 rintro _ ae ⟨s,l,rfl,B,c,n⟩
 have N:=A _ _ B
 replace c:ah 1 b a f.af.ls s l d.af.ls:=c
 have U:=(c).le
 replace n:h≤k:=n
 refine fw (.int .i64 ((h:Nat):Int)) (Yl.int (e:=IntKind.i64.wrap ((h:Nat):Int)) yk (IntWalk.i64_in _ (by omega))) (Mz rfl ?_)
 obtain⟨⟨t,u⟩,o⟩:∃ q:(List aA) × ReaderT,iE d ((h:Nat):Int)=q:=⟨_,rfl⟩
 obtain⟨af,C,E,F,V⟩:=Own.enter1 N
 refine cl Tryz.call114 (mF _ _ r d s l ((h:Nat):Int) t u C (fun w9 h9=>ah.rds av (by decide) c ((E _ j) w9 h9)) (show d.af.ls.length≤l∧d.af.ls.length≤9223372036854775807 from by omega) (by omega) o) ?_
 rintro _ aj ⟨O,P,G,I,rfl,J,g,p⟩
 have K:=F _ _ J
 replace g:ah 1 s l d.af.ls G I u.af.ls:=g
 have W:=(g).le
 have X:=K.rowC (i:=0) rfl
 replace p:t.length≤1000:=p
 refine An rfl (rt (rs ?_))
 have Q:=K.pk [0,1]
 have e:eZ f k=(t,u):=et (aa m) (aa o)
 obtain⟨rfl,rfl⟩:=dL (e.symm.trans hr)
 exact⟨O,P,G,I,rfl,Q,(ah.trans c g),(by omega)⟩
def aN (v:bG):List Int→List UInt8→Int→Int→Int→Nat→Nat→Nat→Nat→Nat→Nat→Nat→Nat→Nat→Bool→List UInt8→List UInt8→List aB→List aX→List aA→(List UInt8) × Int × Int × Int × Nat × Nat × Nat × Nat × Nat × Nat × Nat × Nat × Nat × Bool × (List UInt8) × (List UInt8) × (List aB) × (List aX) × (List aA)
  | [],a,b,c,d,e,f,g,h,i,j,k,l,m,n,o,p,q,r,s=>(a,b,c,d,e,f,g,h,i,j,k,l,m,n,o,p,q,r,s)
  | u::t,a,b,c,d,e,f,g,h,i,j,k,l,m,n,o,p,q,r,s=>if u=0 then bnd (aH (ReaderT.mk (Ll.mk a) b) 18446744073709551615) fun L=>aN v t L.2.af.ls L.2.ax c d L.1 f g h i j k l m n o p q r s else if u=1 then bnd (aH (ReaderT.mk (Ll.mk a) b) 18446744073709551615) fun w=>aN v t w.2.af.ls w.2.ax c d e w.1 g h i j k l m n o p q r s else if u=4 then bnd (aH (ReaderT.mk (Ll.mk a) b) 18446744073709551615) fun x=>aN v t x.2.af.ls x.2.ax c d e f x.1 h i j k l m n o p q r s else if u=5 then bnd (aH (ReaderT.mk (Ll.mk a) b) 18446744073709551615) fun y=>aN v t y.2.af.ls y.2.ax c d e f g y.1 i j k l m n o p q r s else if u=6 then bnd (aH (ReaderT.mk (Ll.mk a) b) 18446744073709551615) fun z=>aN v t z.2.af.ls z.2.ax c d e f g h i z.1 k l m n o p q r s else if u=9 then bnd (aH (ReaderT.mk (Ll.mk a) b) 18446744073709551615) fun A=>aN v t A.2.af.ls A.2.ax c d e f g h A.1 j k l m n o p q r s else if u=10 then bnd (aH (ReaderT.mk (Ll.mk a) b) 18446744073709551615) fun B=>aN v t B.2.af.ls B.2.ax c d e f g h i j B.1 l m n o p q r s else if u=14 then bnd (aH (ReaderT.mk (Ll.mk a) b) 18446744073709551615) fun C=>aN v t C.2.af.ls C.2.ax c d e f g h i j k C.1 m n o p q r s else if u=15 then bnd (aH (ReaderT.mk (Ll.mk a) b) 18446744073709551615) fun D=>aN v t D.2.af.ls D.2.ax c d e f g h i j k l D.1 n o p q r s else if u=2 then bnd (aT (ReaderT.mk (Ll.mk a) b)) fun E=>aN v t E.2.af.ls E.2.ax ((E.1.toNat:Nat):Int) d e f g h i j k l m n o p q r s else if u=12 then bnd (aT (ReaderT.mk (Ll.mk a) b)) fun F=>aN v t F.2.af.ls F.2.ax c ((F.1.toNat:Nat):Int) e f g h i j k l m n o p q r s else if u=8 then bnd (fT (ReaderT.mk (Ll.mk a) b)) fun G=>aN v t G.2.af.ls G.2.ax c d e f g h i j k l m G.1 o p q r s else if u=13 then bnd (bA (ReaderT.mk (Ll.mk a) b) 255) fun M=>bnd (bA M.2 255) fun H=>aN v t H.2.af.ls H.2.ax c d e f g h i j k l m n M.1 H.1 q r s else if u=7 then bnd (fP (ReaderT.mk (Ll.mk a) b) 255) fun I=>aN v t I.2.af.ls I.2.ax c d e f g h i j k l m n o p I.1 r s else if u=3 then bnd (eF (ReaderT.mk (Ll.mk a) b) 255) fun J=>aN v t J.2.af.ls J.2.ax c d e f g h i j k l m n o p q J.1 s else if u=11 then bnd (eZ (ReaderT.mk (Ll.mk a) b) 255) fun K=>aN v t K.2.af.ls K.2.ax c d e f g h i j k l m n o p q r K.1 else aN v t a b c d e f g h i j k l m n o p q r s
def kJ (b:ReaderT) (a:bG) (c:List Int):ReaderT × bG:=
 bnd (aN a c b.af.ls b.ax a.bq a.bM a.bF a.aY a.bE a.bH a.bL a.aS a.bB a.aK a.xN a.bV a.aG.aD a.aG.aI a.az.ls a.ai.ls a.aj.ls) fun sLrL=>(ReaderT.mk (Ll.mk sLrL.1) sLrL.2.1,bG.mk a.ae a.bn a.dm a.aO sLrL.2.2.1 sLrL.2.2.2.1 sLrL.2.2.2.2.1 sLrL.2.2.2.2.2.1 sLrL.2.2.2.2.2.2.1 sLrL.2.2.2.2.2.2.2.1 sLrL.2.2.2.2.2.2.2.2.1 sLrL.2.2.2.2.2.2.2.2.2.1 sLrL.2.2.2.2.2.2.2.2.2.2.1 sLrL.2.2.2.2.2.2.2.2.2.2.2.1 sLrL.2.2.2.2.2.2.2.2.2.2.2.2.1 sLrL.2.2.2.2.2.2.2.2.2.2.2.2.2.1 (bC.mk sLrL.2.2.2.2.2.2.2.2.2.2.2.2.2.2.1 sLrL.2.2.2.2.2.2.2.2.2.2.2.2.2.2.2.1) (Ll.mk sLrL.2.2.2.2.2.2.2.2.2.2.2.2.2.2.2.2.1) (Ll.mk sLrL.2.2.2.2.2.2.2.2.2.2.2.2.2.2.2.2.2.1) (Ll.mk sLrL.2.2.2.2.2.2.2.2.2.2.2.2.2.2.2.2.2.2))
set_option maxHeartbeats 4000000 in
theorem oQ (w:World) (D:Nat→Prop) (g0:Nat) (p0:ReaderT) (aL:Option Addr) (aM:Nat) (B:Nat) (c:bG) (bQ:Option Addr) (bS:Nat) (bT:Option Addr) (bU:Nat) (aS:List ag) (bV:Option Addr) (bW:Nat) (A2:Option Addr) (n2 c2:Nat) (N:List Int) (r0:ReaderT) (r1:bG) (H:Own w D w [blk g0 [.slice aL p0.af.ls.length aM, .int .i64 p0.ax] 120,blk B (aV c bQ bS bT bU bV bW) 29,row bQ c.az.ls.length bS (List.flatMap aB.cells c.az.ls) 64 6,row bT c.ai.ls.length bU (List.flatMap ag.cells aS) 84 3,sepL (List.flatMap ag.own aS),row bV c.aj.ls.length bW (List.flatMap aA.cells c.aj.ls) 88 2]) (K:Ro w D fun w'=>bD w' 1 aL p0.af.ls.length (List.flatMap eB p0.af.ls)) (nz:p0.af.ls.length≤aM∧p0.af.ls.length≤9223372036854775807) (dV:List.map ag.abs aS=c.ai.ls) (iM:Ro w D fun w'=>bD w' 1 A2 n2 (List.flatMap (eI .i64) N)) (nA:n2=N.length) (qY:N.length *8≤211106232532992) (qZ:c.az.ls.length≤1000∧c.ai.ls.length≤1000∧c.aj.ls.length≤1000∧c.bF≤18446744073709551615∧c.aY≤18446744073709551615∧c.bE≤18446744073709551615∧c.bH≤18446744073709551615∧c.bL≤18446744073709551615∧c.aS≤18446744073709551615∧c.bB≤18446744073709551615∧c.aK≤18446744073709551615∧c.xN≤18446744073709551615) (hr:kJ p0 c N=(r0,r1)):
    Calls Tryz.prog 41 #[.pointer (some ⟨g0,0,none⟩), .pointer (some ⟨B,0,none⟩), .slice A2 n2 c2] w (cK fun v w'=> ∃ (B0ox0:Option Addr) (b0ox0:Nat) (B1ox0:Option Addr) (b1ox0:Nat) (B1ox1:Option Addr) (b1ox1:Nat) (e1ox1:List ag) (B1ox2:Option Addr) (b1ox2:Nat),v= .tuple #[]∧Own w D w' [blk g0 [.slice B0ox0 r0.af.ls.length b0ox0, .int .i64 r0.ax] 120,blk B (aV r1 B1ox0 b1ox0 B1ox1 b1ox1 B1ox2 b1ox2) 29,row B1ox0 r1.az.ls.length b1ox0 (List.flatMap aB.cells r1.az.ls) 64 6,row B1ox1 r1.ai.ls.length b1ox1 (List.flatMap ag.cells e1ox1) 84 3,sepL (List.flatMap ag.own e1ox1),row B1ox2 r1.aj.ls.length b1ox2 (List.flatMap aA.cells r1.aj.ls) 88 2]∧(ah 1 aL aM p0.af.ls B0ox0 b0ox0 r0.af.ls)∧(List.map ag.abs e1ox1=r1.ai.ls)∧(r1.az.ls.length≤1000∧r1.ai.ls.length≤1000∧r1.aj.ls.length≤1000∧r1.bF≤18446744073709551615∧r1.aY≤18446744073709551615∧r1.bE≤18446744073709551615∧r1.bH≤18446744073709551615∧r1.bL≤18446744073709551615∧r1.aS≤18446744073709551615∧r1.bB≤18446744073709551615∧r1.aK≤18446744073709551615∧r1.xN≤18446744073709551615)):=by
 subst nA
 have hdl1x1:=dM dV
 have nC:=H.rowC (i:=2) rfl
 have nD:=H.rowC (i:=3) rfl
 have nE:=H.rowC (i:=5) rfl
 refine Calls.body (args:= [.pointer (some ⟨g0,0,none⟩), .pointer (some ⟨B,0,none⟩), .slice A2 N.length c2]) Tryz.func41 rfl rfl rfl ?_
 show Wp _ _ _ [(0, .pointer (some ⟨g0,0,none⟩)),(1, .pointer (some ⟨B,0,none⟩)),(2, .slice A2 N.length c2)] _ _
 refine sr (Mz rfl (Kz (.int .i64 ((N.length:Nat):Int)) (Mn rfl (bo ?_))))
 have nG:Own w D w [blk g0 [.slice aL p0.af.ls.length aM, .int .i64 p0.ax] 120,blk B (aV c bQ bS bT bU bV bW) 29,row bQ c.az.ls.length bS (List.flatMap aB.cells c.az.ls) 64 6,row bT c.ai.ls.length bU (List.flatMap ag.cells aS) 84 3,sepL (List.flatMap ag.own aS),row bV c.aj.ls.length bW (List.flatMap aA.cells c.aj.ls) 88 2]:=H.pk [0,1,2,3,4,5]
 obtain⟨kG,kH⟩:∃ q:(Nat × (Option Addr) × Nat × (List UInt8) × Int × Int × Int × Nat × Nat × Nat × Nat × Nat × Nat × Nat × Nat × Nat × Bool × (List UInt8) × (List UInt8) × (Option Addr) × Nat × (List aB) × (Option Addr) × Nat × (List ag) × (List aX) × (Option Addr) × Nat × (List aA))→World→Prop,q=fun(i:Nat × (Option Addr) × Nat × (List UInt8) × Int × Int × Int × Nat × Nat × Nat × Nat × Nat × Nat × Nat × Nat × Nat × Bool × (List UInt8) × (List UInt8) × (Option Addr) × Nat × (List aB) × (Option Addr) × Nat × (List ag) × (List aX) × (Option Addr) × Nat × (List aA)) w'=>Own w D w' [blk g0 [.slice i.2.1 i.2.2.2.1.length i.2.2.1, .int .i64 i.2.2.2.2.1] 120,blk B (bf c.ae c.bn c.dm c.aO i.2.2.2.2.2.1 i.2.2.2.2.2.2.1 i.2.2.2.2.2.2.2.1 i.2.2.2.2.2.2.2.2.1 i.2.2.2.2.2.2.2.2.2.1 i.2.2.2.2.2.2.2.2.2.2.1 i.2.2.2.2.2.2.2.2.2.2.2.1 i.2.2.2.2.2.2.2.2.2.2.2.2.1 i.2.2.2.2.2.2.2.2.2.2.2.2.2.1 i.2.2.2.2.2.2.2.2.2.2.2.2.2.2.1 i.2.2.2.2.2.2.2.2.2.2.2.2.2.2.2.1 i.2.2.2.2.2.2.2.2.2.2.2.2.2.2.2.2.1 i.2.2.2.2.2.2.2.2.2.2.2.2.2.2.2.2.2.1 i.2.2.2.2.2.2.2.2.2.2.2.2.2.2.2.2.2.2.1 i.2.2.2.2.2.2.2.2.2.2.2.2.2.2.2.2.2.2.2.1 i.2.2.2.2.2.2.2.2.2.2.2.2.2.2.2.2.2.2.2.2.2.1.length i.2.2.2.2.2.2.2.2.2.2.2.2.2.2.2.2.2.2.2.2.1 i.2.2.2.2.2.2.2.2.2.2.2.2.2.2.2.2.2.2.2.2.2.2.1 i.2.2.2.2.2.2.2.2.2.2.2.2.2.2.2.2.2.2.2.2.2.2.2.2.2.1.length i.2.2.2.2.2.2.2.2.2.2.2.2.2.2.2.2.2.2.2.2.2.2.2.1 i.2.2.2.2.2.2.2.2.2.2.2.2.2.2.2.2.2.2.2.2.2.2.2.2.2.2.1 i.2.2.2.2.2.2.2.2.2.2.2.2.2.2.2.2.2.2.2.2.2.2.2.2.2.2.2.2.length i.2.2.2.2.2.2.2.2.2.2.2.2.2.2.2.2.2.2.2.2.2.2.2.2.2.2.2.1) 29,row i.2.2.2.2.2.2.2.2.2.2.2.2.2.2.2.2.2.2.2.1 i.2.2.2.2.2.2.2.2.2.2.2.2.2.2.2.2.2.2.2.2.2.1.length i.2.2.2.2.2.2.2.2.2.2.2.2.2.2.2.2.2.2.2.2.1 (List.flatMap aB.cells i.2.2.2.2.2.2.2.2.2.2.2.2.2.2.2.2.2.2.2.2.2.1) 64 6,row i.2.2.2.2.2.2.2.2.2.2.2.2.2.2.2.2.2.2.2.2.2.2.1 i.2.2.2.2.2.2.2.2.2.2.2.2.2.2.2.2.2.2.2.2.2.2.2.2.2.1.length i.2.2.2.2.2.2.2.2.2.2.2.2.2.2.2.2.2.2.2.2.2.2.2.1 (List.flatMap ag.cells i.2.2.2.2.2.2.2.2.2.2.2.2.2.2.2.2.2.2.2.2.2.2.2.2.1) 84 3,sepL (List.flatMap ag.own i.2.2.2.2.2.2.2.2.2.2.2.2.2.2.2.2.2.2.2.2.2.2.2.2.1),row i.2.2.2.2.2.2.2.2.2.2.2.2.2.2.2.2.2.2.2.2.2.2.2.2.2.2.1 i.2.2.2.2.2.2.2.2.2.2.2.2.2.2.2.2.2.2.2.2.2.2.2.2.2.2.2.2.length i.2.2.2.2.2.2.2.2.2.2.2.2.2.2.2.2.2.2.2.2.2.2.2.2.2.2.2.1 (List.flatMap aA.cells i.2.2.2.2.2.2.2.2.2.2.2.2.2.2.2.2.2.2.2.2.2.2.2.2.2.2.2.2) 88 2]∧(List.map ag.abs i.2.2.2.2.2.2.2.2.2.2.2.2.2.2.2.2.2.2.2.2.2.2.2.2.1=i.2.2.2.2.2.2.2.2.2.2.2.2.2.2.2.2.2.2.2.2.2.2.2.2.2.1∧ah 1 aL aM p0.af.ls i.2.1 i.2.2.1 i.2.2.2.1∧i.1≤N.length∧i.2.2.2.2.2.2.2.2.2.2.2.2.2.2.2.2.2.2.2.2.2.1.length≤1000∧i.2.2.2.2.2.2.2.2.2.2.2.2.2.2.2.2.2.2.2.2.2.2.2.2.2.1.length≤1000∧i.2.2.2.2.2.2.2.2.2.2.2.2.2.2.2.2.2.2.2.2.2.2.2.2.2.2.2.2.length≤1000∧i.2.2.2.2.2.2.2.1≤18446744073709551615∧i.2.2.2.2.2.2.2.2.1≤18446744073709551615∧i.2.2.2.2.2.2.2.2.2.1≤18446744073709551615∧i.2.2.2.2.2.2.2.2.2.2.1≤18446744073709551615∧i.2.2.2.2.2.2.2.2.2.2.2.1≤18446744073709551615∧i.2.2.2.2.2.2.2.2.2.2.2.2.1≤18446744073709551615∧i.2.2.2.2.2.2.2.2.2.2.2.2.2.1≤18446744073709551615∧i.2.2.2.2.2.2.2.2.2.2.2.2.2.2.1≤18446744073709551615∧i.2.2.2.2.2.2.2.2.2.2.2.2.2.2.2.1≤18446744073709551615∧aN c N p0.af.ls p0.ax c.bq c.bM c.bF c.aY c.bE c.bH c.bL c.aS c.bB c.aK c.xN c.bV c.aG.aD c.aG.aI c.az.ls c.ai.ls c.aj.ls=aN c (List.drop i.1 N) i.2.2.2.1 i.2.2.2.2.1 i.2.2.2.2.2.1 i.2.2.2.2.2.2.1 i.2.2.2.2.2.2.2.1 i.2.2.2.2.2.2.2.2.1 i.2.2.2.2.2.2.2.2.2.1 i.2.2.2.2.2.2.2.2.2.2.1 i.2.2.2.2.2.2.2.2.2.2.2.1 i.2.2.2.2.2.2.2.2.2.2.2.2.1 i.2.2.2.2.2.2.2.2.2.2.2.2.2.1 i.2.2.2.2.2.2.2.2.2.2.2.2.2.2.1 i.2.2.2.2.2.2.2.2.2.2.2.2.2.2.2.1 i.2.2.2.2.2.2.2.2.2.2.2.2.2.2.2.2.1 i.2.2.2.2.2.2.2.2.2.2.2.2.2.2.2.2.2.1 i.2.2.2.2.2.2.2.2.2.2.2.2.2.2.2.2.2.2.1 i.2.2.2.2.2.2.2.2.2.2.2.2.2.2.2.2.2.2.2.2.2.1 i.2.2.2.2.2.2.2.2.2.2.2.2.2.2.2.2.2.2.2.2.2.2.2.2.2.1 i.2.2.2.2.2.2.2.2.2.2.2.2.2.2.2.2.2.2.2.2.2.2.2.2.2.2.2.2):=⟨_,rfl⟩
 have M:∀ {b:Nat} {J:Option Addr} {g:Nat} {a:List UInt8} {d:Int} {C:Int} {E:Int} {n:Nat} {o:Nat} {p:Nat} {r:Nat} {s:Nat} {u:Nat} {x:Nat} {z:Nat} {A:Nat} {F:Bool} {G:List UInt8} {I:List UInt8} {X:Option Addr} {Y:Nat} {h:List aB} {Z:Option Addr} {ae:Nat} {U:List ag} {l:List aX} {af:Option Addr} {ai:Nat} {j:List aA} {w':World},kG (b,J,g,a,d,C,E,n,o,p,r,s,u,x,z,A,F,G,I,X,Y,h,Z,ae,U,l,af,ai,j) w'↔Own w D w' [blk g0 [.slice J a.length g, .int .i64 d] 120,blk B (bf c.ae c.bn c.dm c.aO C E n o p r s u x z A F G I X h.length Y Z l.length ae af j.length ai) 29,row X h.length Y (List.flatMap aB.cells h) 64 6,row Z l.length ae (List.flatMap ag.cells U) 84 3,sepL (List.flatMap ag.own U),row af j.length ai (List.flatMap aA.cells j) 88 2]∧List.map ag.abs U=l∧ah 1 aL aM p0.af.ls J g a∧b≤N.length∧h.length≤1000∧l.length≤1000∧j.length≤1000∧n≤18446744073709551615∧o≤18446744073709551615∧p≤18446744073709551615∧r≤18446744073709551615∧s≤18446744073709551615∧u≤18446744073709551615∧x≤18446744073709551615∧z≤18446744073709551615∧A≤18446744073709551615∧aN c N p0.af.ls p0.ax c.bq c.bM c.bF c.aY c.bE c.bH c.bL c.aS c.bB c.aK c.xN c.bV c.aG.aD c.aG.aI c.az.ls c.ai.ls c.aj.ls=aN c (List.drop b N) a d C E n o p r s u x z A F G I h l j:=by intros; subst kH; exact Iff.rfl
 refine Wp.loop (fun i:Nat × (Option Addr) × Nat × (List UInt8) × Int × Int × Int × Nat × Nat × Nat × Nat × Nat × Nat × Nat × Nat × Nat × Bool × (List UInt8) × (List UInt8) × (Option Addr) × Nat × (List aB) × (Option Addr) × Nat × (List ag) × (List aX) × (Option Addr) × Nat × (List aA)=> [(12, .int .i64 ((i.1:Nat):Int)),(11, .int .i64 ((N.length:Nat):Int)),(10, .slice A2 N.length c2),(0, .pointer (some ⟨g0,0,none⟩)),(1, .pointer (some ⟨B,0,none⟩))]) kG (fun i=>N.length - i.1) (0,aL,aM,p0.af.ls,p0.ax,c.bq,c.bM,c.bF,c.aY,c.bE,c.bH,c.bL,c.aS,c.bB,c.aK,c.xN,c.bV,c.aG.aD,c.aG.aI,bQ,bS,c.az.ls,bT,bU,aS,c.ai.ls,bV,bW,c.aj.ls) ⟨rfl,rfl,rfl,rfl,rfl,trivial⟩ (M.2 ⟨nG,by exact dV,by exact(ah.refl (by omega)),by omega,by first | omega | exact Nat.zero_le _,by first | omega | exact Nat.zero_le _,by first | omega | exact Nat.zero_le _,by omega,by omega,by omega,by omega,by omega,by omega,by omega,by omega,by omega,rfl⟩) ?_
 rintro ⟨b,J,g,a,d,C,E,n,o,p,r,s,u,x,z,A,F,G,I,X,Y,h,Z,ae,U,l,af,ai,j⟩ nH kI
 show Wp _ _ _ [(12, .int .i64 ((b:Nat):Int)),(11, .int .i64 ((N.length:Nat):Int)),(10, .slice A2 N.length c2),(0, .pointer (some ⟨g0,0,none⟩)),(1, .pointer (some ⟨B,0,none⟩))] _ _
 obtain⟨ak,O,f,oW,oZ,o5,o6,o7,o8,o9,pg,pq,pu,pz,pE,pF,P⟩:=M.1 kI
 have pG:=dM O
 have pI:=(f).le
 refine sr (Kz (.bool (decide (((b:Nat):Int) < ((N.length:Nat):Int)))) (nt (Wp.seq ?_)))
 by_cases kK:((b:Nat):Int) < ((N.length:Nat):Int)
 obtain⟨L,gq⟩:=eG (ls:=N) (i:=b) l6 (by decide) (ak.ro iM) (by first | omega | (simp; done) | (simp; omega))
 have R:=drop_at gq
 refine jT (dT kK) (sk (Wp.seq (bo (sr (fw (.pointer (some ⟨ab A2,ao A2+b *1,none⟩)) (Yl.indexAddr (tF) rfl rfl ((ak.ro iM).addr (i:=b) (by omega)) (by omega)) (fw (.int .i64 L) (Yl.load rfl (bu.one Tryz.isAgg93 (((ak.ro iM).elem l6 gq (by decide)).at_ (k:=0) rfl))) (An rfl (Wp.seq (sr (Mz rfl (Mz rfl ?_)))))))))))
 refine WL.do rfl (Do.call Tryz.call54 rfl ?_ (fun _ _ k=>k))
 refine Calls.body (args:= [.pointer (some ⟨B,0,none⟩), .int .i64 L]) Tryz.func54 rfl rfl rfl ?_
 show Wp _ _ _ [(0, .pointer (some ⟨B,0,none⟩)),(1, .int .i64 L)] _ _
 refine sr (Az rfl (An rfl (Wp.seq (sr (Mn rfl (bo (sr (Kz (.bool (decide (L=0))) (An rfl ?_)))))))))
 by_cases ax:L=0
 refine jT (dT ax) (sr (Mz rfl (Kz (.pointer (some ⟨B,0,none⟩)) (Kz (.pointer (some ⟨B,6,none⟩)) (Az rfl (An rfl (rt (bR (tR (Fin.res (gB rfl rfl rfl) (Mz rfl (Kz (.pointer (some ⟨B,6,none⟩)) (Kz (.bool true) (Az rfl (Ar rfl (Mn rfl (jt (sr (Mz rfl (Mz rfl ?_))))))))))))))))))))
 obtain⟨⟨fZ,gm⟩,gu⟩:∃ q:Nat × ReaderT,aH (ReaderT.mk (Ll.mk a) d) 18446744073709551615=q:=⟨_,rfl⟩
 obtain⟨q8,kL,kM,kN,pJ⟩:=Own.enter1 ak
 refine cl Tryz.call79 (dR _ _ g0 (ReaderT.mk (Ll.mk a) d) J g 18446744073709551615 fZ gm kL (fun w9 h9=>ah.rds av (by decide) f ((kM _ K) w9 h9)) (show a.length≤g∧a.length≤9223372036854775807 from by omega) gu) ?_
 rintro _ q9 ⟨kP,kQ,rfl,kR,bY,gy⟩
 have nI:=kN _ _ kR
 replace bY:ah 1 J g a kP kQ gm.af.ls:=bY
 have pK:=(bY).le
 replace gy:fZ≤18446744073709551615:=gy
 refine Kz (.pointer (some ⟨B,6,none⟩)) ?_
 have nJ:=nI.pk [1,0,2,3,4,5]
 refine bz [.int .u64 ((fZ:Nat):Int)] 6 nJ Tryz.sizeOf22 ?_
 intro rf nK
 refine nt (Wp.exit (Fin.thenX (Fin.blockX (Fin.then (Wp.region (fw (.int .i64 ((b+1:Nat):Int)) (Yl.int (e:=IntKind.i64.wrap (((b:Nat):Int)+1)) yk (by rw [IntWalk.i64_in _ (by omega)]; omega)) (Mz rfl (WL.nil ?_))))))))
 have kS:=nK.pk [1,0,2,3,4,5]
 exact Fin.round (b+1,kP,kQ,gm.af.ls,gm.ax,C,E,fZ,o,p,r,s,u,x,z,A,F,G,I,X,Y,h,Z,ae,U,l,af,ai,j) ⟨rfl,rfl,rfl,rfl,rfl,trivial⟩ (M.2 ⟨kS,by exact O,by exact(ah.trans f bY),by omega,by first | omega | exact Nat.zero_le _,by first | omega | exact Nat.zero_le _,by first | omega | exact Nat.zero_le _,by omega,by omega,by omega,by omega,by omega,by omega,by omega,by omega,by omega,et (P) (et (congrArg (fun q=>aN c q a d C E n o p r s u x z A F G I h l j) R) (et (ip ax) (aa gu)))⟩) (by show N.length - (b+1) < N.length - b; omega)
 refine jF (dF ax) (sr (Kz (.bool (decide (L=1))) (An rfl ?_)))
 by_cases Q:L=1
 refine jT (dT Q) (sr (Mz rfl (Kz (.pointer (some ⟨B,0,none⟩)) (Kz (.pointer (some ⟨B,7,none⟩)) (Az rfl (An rfl (rt (bR (tR (Fin.res (gB rfl rfl rfl) (Mz rfl (Kz (.pointer (some ⟨B,7,none⟩)) (Kz (.bool true) (Az rfl (Ar rfl (Mn rfl (jt (sr (Mz rfl (Mz rfl ?_))))))))))))))))))))
 obtain⟨⟨bZ,cu⟩,dX⟩:∃ q:Nat × ReaderT,aH (ReaderT.mk (Ll.mk a) d) 18446744073709551615=q:=⟨_,rfl⟩
 obtain⟨pM,iO,iP,iQ,nL⟩:=Own.enter1 ak
 refine cl Tryz.call79 (dR _ _ g0 (ReaderT.mk (Ll.mk a) d) J g 18446744073709551615 bZ cu iO (fun w9 h9=>ah.rds av (by decide) f ((iP _ K) w9 h9)) (show a.length≤g∧a.length≤9223372036854775807 from by omega) dX) ?_
 rintro _ pO ⟨gz,gD,rfl,iR,bg,dZ⟩
 have kU:=iQ _ _ iR
 replace bg:ah 1 J g a gz gD cu.af.ls:=bg
 have nM:=(bg).le
 replace dZ:bZ≤18446744073709551615:=dZ
 refine Kz (.pointer (some ⟨B,7,none⟩)) ?_
 have kV:=kU.pk [1,0,2,3,4,5]
 refine bz [.int .u64 ((bZ:Nat):Int)] 7 kV Tryz.sizeOf22 ?_
 intro pQ kW
 refine nt (Wp.exit (Fin.thenX (Fin.blockX (Fin.then (Wp.region (fw (.int .i64 ((b+1:Nat):Int)) (Yl.int (e:=IntKind.i64.wrap (((b:Nat):Int)+1)) yk (by rw [IntWalk.i64_in _ (by omega)]; omega)) (Mz rfl (WL.nil ?_))))))))
 have kX:=kW.pk [1,0,2,3,4,5]
 exact Fin.round (b+1,gz,gD,cu.af.ls,cu.ax,C,E,n,bZ,p,r,s,u,x,z,A,F,G,I,X,Y,h,Z,ae,U,l,af,ai,j) ⟨rfl,rfl,rfl,rfl,rfl,trivial⟩ (M.2 ⟨kX,by exact O,by exact(ah.trans f bg),by omega,by first | omega | exact Nat.zero_le _,by first | omega | exact Nat.zero_le _,by first | omega | exact Nat.zero_le _,by omega,by omega,by omega,by omega,by omega,by omega,by omega,by omega,by omega,et (P) (et (congrArg (fun q=>aN c q a d C E n o p r s u x z A F G I h l j) R) (et (iN ax) (et (ip Q) (aa dX))))⟩) (by show N.length - (b+1) < N.length - b; omega)
 refine jF (dF Q) (sr (Kz (.bool (decide (L=4))) (An rfl ?_)))
 by_cases S:L=4
 refine jT (dT S) (sr (Mz rfl (Kz (.pointer (some ⟨B,0,none⟩)) (Kz (.pointer (some ⟨B,8,none⟩)) (Az rfl (An rfl (rt (bR (tR (Fin.res (gB rfl rfl rfl) (Mz rfl (Kz (.pointer (some ⟨B,8,none⟩)) (Kz (.bool true) (Az rfl (Ar rfl (Mn rfl (jt (sr (Mz rfl (Mz rfl ?_))))))))))))))))))))
 obtain⟨⟨cz,cB⟩,d9⟩:∃ q:Nat × ReaderT,aH (ReaderT.mk (Ll.mk a) d) 18446744073709551615=q:=⟨_,rfl⟩
 obtain⟨pR,iT,iU,iV,nN⟩:=Own.enter1 ak
 refine cl Tryz.call79 (dR _ _ g0 (ReaderT.mk (Ll.mk a) d) J g 18446744073709551615 cz cB iT (fun w9 h9=>ah.rds av (by decide) f ((iU _ K) w9 h9)) (show a.length≤g∧a.length≤9223372036854775807 from by omega) d9) ?_
 rintro _ pU ⟨gF,gG,rfl,iW,bi,ed⟩
 have kY:=iV _ _ iW
 replace bi:ah 1 J g a gF gG cB.af.ls:=bi
 have nO:=(bi).le
 replace ed:cz≤18446744073709551615:=ed
 refine Kz (.pointer (some ⟨B,8,none⟩)) ?_
 have kZ:=kY.pk [1,0,2,3,4,5]
 refine bz [.int .u64 ((cz:Nat):Int)] 8 kZ Tryz.sizeOf22 ?_
 intro pV lc
 refine nt (Wp.exit (Fin.thenX (Fin.blockX (Fin.then (Wp.region (fw (.int .i64 ((b+1:Nat):Int)) (Yl.int (e:=IntKind.i64.wrap (((b:Nat):Int)+1)) yk (by rw [IntWalk.i64_in _ (by omega)]; omega)) (Mz rfl (WL.nil ?_))))))))
 have lg:=lc.pk [1,0,2,3,4,5]
 exact Fin.round (b+1,gF,gG,cB.af.ls,cB.ax,C,E,n,o,cz,r,s,u,x,z,A,F,G,I,X,Y,h,Z,ae,U,l,af,ai,j) ⟨rfl,rfl,rfl,rfl,rfl,trivial⟩ (M.2 ⟨lg,by exact O,by exact(ah.trans f bi),by omega,by first | omega | exact Nat.zero_le _,by first | omega | exact Nat.zero_le _,by first | omega | exact Nat.zero_le _,by omega,by omega,by omega,by omega,by omega,by omega,by omega,by omega,by omega,et (P) (et (congrArg (fun q=>aN c q a d C E n o p r s u x z A F G I h l j) R) (et (iN ax) (et (iN Q) (et (ip S) (aa d9)))))⟩) (by show N.length - (b+1) < N.length - b; omega)
 refine jF (dF S) (sr (Kz (.bool (decide (L=5))) (An rfl ?_)))
 by_cases T:L=5
 refine jT (dT T) (sr (Mz rfl (Kz (.pointer (some ⟨B,0,none⟩)) (Kz (.pointer (some ⟨B,9,none⟩)) (Az rfl (An rfl (rt (bR (tR (Fin.res (gB rfl rfl rfl) (Mz rfl (Kz (.pointer (some ⟨B,9,none⟩)) (Kz (.bool true) (Az rfl (Ar rfl (Mn rfl (jt (sr (Mz rfl (Mz rfl ?_))))))))))))))))))))
 obtain⟨⟨cO,cZ⟩,ek⟩:∃ q:Nat × ReaderT,aH (ReaderT.mk (Ll.mk a) d) 18446744073709551615=q:=⟨_,rfl⟩
 obtain⟨pW,iX,iY,iZ,nP⟩:=Own.enter1 ak
 refine cl Tryz.call79 (dR _ _ g0 (ReaderT.mk (Ll.mk a) d) J g 18446744073709551615 cO cZ iX (fun w9 h9=>ah.rds av (by decide) f ((iY _ K) w9 h9)) (show a.length≤g∧a.length≤9223372036854775807 from by omega) ek) ?_
 rintro _ pX ⟨gH,gI,rfl,ja,bn,eu⟩
 have lh:=iZ _ _ ja
 replace bn:ah 1 J g a gH gI cZ.af.ls:=bn
 have nQ:=(bn).le
 replace eu:cO≤18446744073709551615:=eu
 refine Kz (.pointer (some ⟨B,9,none⟩)) ?_
 have ll:=lh.pk [1,0,2,3,4,5]
 refine bz [.int .u64 ((cO:Nat):Int)] 9 ll Tryz.sizeOf22 ?_
 intro pY lm
 refine nt (Wp.exit (Fin.thenX (Fin.blockX (Fin.then (Wp.region (fw (.int .i64 ((b+1:Nat):Int)) (Yl.int (e:=IntKind.i64.wrap (((b:Nat):Int)+1)) yk (by rw [IntWalk.i64_in _ (by omega)]; omega)) (Mz rfl (WL.nil ?_))))))))
 have lq:=lm.pk [1,0,2,3,4,5]
 exact Fin.round (b+1,gH,gI,cZ.af.ls,cZ.ax,C,E,n,o,p,cO,s,u,x,z,A,F,G,I,X,Y,h,Z,ae,U,l,af,ai,j) ⟨rfl,rfl,rfl,rfl,rfl,trivial⟩ (M.2 ⟨lq,by exact O,by exact(ah.trans f bn),by omega,by first | omega | exact Nat.zero_le _,by first | omega | exact Nat.zero_le _,by first | omega | exact Nat.zero_le _,by omega,by omega,by omega,by omega,by omega,by omega,by omega,by omega,by omega,et (P) (et (congrArg (fun q=>aN c q a d C E n o p r s u x z A F G I h l j) R) (et (iN ax) (et (iN Q) (et (iN S) (et (ip T) (aa ek))))))⟩) (by show N.length - (b+1) < N.length - b; omega)
 refine jF (dF T) (sr (Kz (.bool (decide (L=6))) (An rfl ?_)))
 by_cases V:L=6
 refine jT (dT V) (sr (Mz rfl (Kz (.pointer (some ⟨B,0,none⟩)) (Kz (.pointer (some ⟨B,11,none⟩)) (Az rfl (An rfl (rt (bR (tR (Fin.res (gB rfl rfl rfl) (Mz rfl (Kz (.pointer (some ⟨B,11,none⟩)) (Kz (.bool true) (Az rfl (Ar rfl (Mn rfl (jt (sr (Mz rfl (Mz rfl ?_))))))))))))))))))))
 obtain⟨⟨df,dh⟩,eD⟩:∃ q:Nat × ReaderT,aH (ReaderT.mk (Ll.mk a) d) 18446744073709551615=q:=⟨_,rfl⟩
 obtain⟨p8,jb,jc,jd,nS⟩:=Own.enter1 ak
 refine cl Tryz.call79 (dR _ _ g0 (ReaderT.mk (Ll.mk a) d) J g 18446744073709551615 df dh jb (fun w9 h9=>ah.rds av (by decide) f ((jc _ K) w9 h9)) (show a.length≤g∧a.length≤9223372036854775807 from by omega) eD) ?_
 rintro _ p9 ⟨gJ,gK,rfl,je,bq,eH⟩
 have lu:=jd _ _ je
 replace bq:ah 1 J g a gJ gK dh.af.ls:=bq
 have nT:=(bq).le
 replace eH:df≤18446744073709551615:=eH
 refine Kz (.pointer (some ⟨B,11,none⟩)) ?_
 have lv:=lu.pk [1,0,2,3,4,5]
 refine bz [.int .u64 ((df:Nat):Int)] 11 lv Tryz.sizeOf22 ?_
 intro qa lw
 refine nt (Wp.exit (Fin.thenX (Fin.blockX (Fin.then (Wp.region (fw (.int .i64 ((b+1:Nat):Int)) (Yl.int (e:=IntKind.i64.wrap (((b:Nat):Int)+1)) yk (by rw [IntWalk.i64_in _ (by omega)]; omega)) (Mz rfl (WL.nil ?_))))))))
 have lC:=lw.pk [1,0,2,3,4,5]
 exact Fin.round (b+1,gJ,gK,dh.af.ls,dh.ax,C,E,n,o,p,r,s,df,x,z,A,F,G,I,X,Y,h,Z,ae,U,l,af,ai,j) ⟨rfl,rfl,rfl,rfl,rfl,trivial⟩ (M.2 ⟨lC,by exact O,by exact(ah.trans f bq),by omega,by first | omega | exact Nat.zero_le _,by first | omega | exact Nat.zero_le _,by first | omega | exact Nat.zero_le _,by omega,by omega,by omega,by omega,by omega,by omega,by omega,by omega,by omega,et (P) (et (congrArg (fun q=>aN c q a d C E n o p r s u x z A F G I h l j) R) (et (iN ax) (et (iN Q) (et (iN S) (et (iN T) (et (ip V) (aa eD)))))))⟩) (by show N.length - (b+1) < N.length - b; omega)
 refine jF (dF V) (sr (Kz (.bool (decide (L=9))) (An rfl ?_)))
 by_cases aj:L=9
 refine jT (dT aj) (sr (Mz rfl (Kz (.pointer (some ⟨B,0,none⟩)) (Kz (.pointer (some ⟨B,10,none⟩)) (Az rfl (An rfl (rt (bR (tR (Fin.res (gB rfl rfl rfl) (Mz rfl (Kz (.pointer (some ⟨B,10,none⟩)) (Kz (.bool true) (Az rfl (Ar rfl (Mn rfl (jt (sr (Mz rfl (Mz rfl ?_))))))))))))))))))))
 obtain⟨⟨di,dm⟩,eO⟩:∃ q:Nat × ReaderT,aH (ReaderT.mk (Ll.mk a) d) 18446744073709551615=q:=⟨_,rfl⟩
 obtain⟨qb,jg,jh,ji,nU⟩:=Own.enter1 ak
 refine cl Tryz.call79 (dR _ _ g0 (ReaderT.mk (Ll.mk a) d) J g 18446744073709551615 di dm jg (fun w9 h9=>ah.rds av (by decide) f ((jh _ K) w9 h9)) (show a.length≤g∧a.length≤9223372036854775807 from by omega) eO) ?_
 rintro _ qc ⟨gL,gM,rfl,jk,bv,eP⟩
 have lD:=ji _ _ jk
 replace bv:ah 1 J g a gL gM dm.af.ls:=bv
 have nV:=(bv).le
 replace eP:di≤18446744073709551615:=eP
 refine Kz (.pointer (some ⟨B,10,none⟩)) ?_
 have lF:=lD.pk [1,0,2,3,4,5]
 refine bz [.int .u64 ((di:Nat):Int)] 10 lF Tryz.sizeOf22 ?_
 intro qd lG
 refine nt (Wp.exit (Fin.thenX (Fin.blockX (Fin.then (Wp.region (fw (.int .i64 ((b+1:Nat):Int)) (Yl.int (e:=IntKind.i64.wrap (((b:Nat):Int)+1)) yk (by rw [IntWalk.i64_in _ (by omega)]; omega)) (Mz rfl (WL.nil ?_))))))))
 have lH:=lG.pk [1,0,2,3,4,5]
 exact Fin.round (b+1,gL,gM,dm.af.ls,dm.ax,C,E,n,o,p,r,di,u,x,z,A,F,G,I,X,Y,h,Z,ae,U,l,af,ai,j) ⟨rfl,rfl,rfl,rfl,rfl,trivial⟩ (M.2 ⟨lH,by exact O,by exact(ah.trans f bv),by omega,by first | omega | exact Nat.zero_le _,by first | omega | exact Nat.zero_le _,by first | omega | exact Nat.zero_le _,by omega,by omega,by omega,by omega,by omega,by omega,by omega,by omega,by omega,et (P) (et (congrArg (fun q=>aN c q a d C E n o p r s u x z A F G I h l j) R) (et (iN ax) (et (iN Q) (et (iN S) (et (iN T) (et (iN V) (et (ip aj) (aa eO))))))))⟩) (by show N.length - (b+1) < N.length - b; omega)
 refine jF (dF aj) (sr (Kz (.bool (decide (L=10))) (An rfl ?_)))
 by_cases au:L=10
 refine jT (dT au) (sr (Mz rfl (Kz (.pointer (some ⟨B,0,none⟩)) (Kz (.pointer (some ⟨B,12,none⟩)) (Az rfl (An rfl (rt (bR (tR (Fin.res (gB rfl rfl rfl) (Mz rfl (Kz (.pointer (some ⟨B,12,none⟩)) (Kz (.bool true) (Az rfl (Ar rfl (Mn rfl (jt (sr (Mz rfl (Mz rfl ?_))))))))))))))))))))
 obtain⟨⟨dn,dw⟩,eQ⟩:∃ q:Nat × ReaderT,aH (ReaderT.mk (Ll.mk a) d) 18446744073709551615=q:=⟨_,rfl⟩
 obtain⟨qf,jl,jm,jo,nW⟩:=Own.enter1 ak
 refine cl Tryz.call79 (dR _ _ g0 (ReaderT.mk (Ll.mk a) d) J g 18446744073709551615 dn dw jl (fun w9 h9=>ah.rds av (by decide) f ((jm _ K) w9 h9)) (show a.length≤g∧a.length≤9223372036854775807 from by omega) eQ) ?_
 rintro _ qg ⟨gN,gP,rfl,jq,bB,eT⟩
 have lI:=jo _ _ jq
 replace bB:ah 1 J g a gN gP dw.af.ls:=bB
 have nX:=(bB).le
 replace eT:dn≤18446744073709551615:=eT
 refine Kz (.pointer (some ⟨B,12,none⟩)) ?_
 have lJ:=lI.pk [1,0,2,3,4,5]
 refine bz [.int .u64 ((dn:Nat):Int)] 12 lJ Tryz.sizeOf22 ?_
 intro qh lK
 refine nt (Wp.exit (Fin.thenX (Fin.blockX (Fin.then (Wp.region (fw (.int .i64 ((b+1:Nat):Int)) (Yl.int (e:=IntKind.i64.wrap (((b:Nat):Int)+1)) yk (by rw [IntWalk.i64_in _ (by omega)]; omega)) (Mz rfl (WL.nil ?_))))))))
 have lL:=lK.pk [1,0,2,3,4,5]
 exact Fin.round (b+1,gN,gP,dw.af.ls,dw.ax,C,E,n,o,p,r,s,u,dn,z,A,F,G,I,X,Y,h,Z,ae,U,l,af,ai,j) ⟨rfl,rfl,rfl,rfl,rfl,trivial⟩ (M.2 ⟨lL,by exact O,by exact(ah.trans f bB),by omega,by first | omega | exact Nat.zero_le _,by first | omega | exact Nat.zero_le _,by first | omega | exact Nat.zero_le _,by omega,by omega,by omega,by omega,by omega,by omega,by omega,by omega,by omega,et (P) (et (congrArg (fun q=>aN c q a d C E n o p r s u x z A F G I h l j) R) (et (iN ax) (et (iN Q) (et (iN S) (et (iN T) (et (iN V) (et (iN aj) (et (ip au) (aa eQ)))))))))⟩) (by show N.length - (b+1) < N.length - b; omega)
 refine jF (dF au) (sr (Kz (.bool (decide (L=14))) (An rfl ?_)))
 by_cases ay:L=14
 refine jT (dT ay) (sr (Mz rfl (Kz (.pointer (some ⟨B,0,none⟩)) (Kz (.pointer (some ⟨B,13,none⟩)) (Az rfl (An rfl (rt (bR (tR (Fin.res (gB rfl rfl rfl) (Mz rfl (Kz (.pointer (some ⟨B,13,none⟩)) (Kz (.bool true) (Az rfl (Ar rfl (Mn rfl (jt (sr (Mz rfl (Mz rfl ?_))))))))))))))))))))
 obtain⟨⟨dx,dz⟩,eU⟩:∃ q:Nat × ReaderT,aH (ReaderT.mk (Ll.mk a) d) 18446744073709551615=q:=⟨_,rfl⟩
 obtain⟨qi,jr,jv,jw,nY⟩:=Own.enter1 ak
 refine cl Tryz.call79 (dR _ _ g0 (ReaderT.mk (Ll.mk a) d) J g 18446744073709551615 dx dz jr (fun w9 h9=>ah.rds av (by decide) f ((jv _ K) w9 h9)) (show a.length≤g∧a.length≤9223372036854775807 from by omega) eU) ?_
 rintro _ qj ⟨gQ,gT,rfl,jy,bE,eX⟩
 have lM:=jw _ _ jy
 replace bE:ah 1 J g a gQ gT dz.af.ls:=bE
 have nZ:=(bE).le
 replace eX:dx≤18446744073709551615:=eX
 refine Kz (.pointer (some ⟨B,13,none⟩)) ?_
 have lN:=lM.pk [1,0,2,3,4,5]
 refine bz [.int .u64 ((dx:Nat):Int)] 13 lN Tryz.sizeOf22 ?_
 intro ql lQ
 refine nt (Wp.exit (Fin.thenX (Fin.blockX (Fin.then (Wp.region (fw (.int .i64 ((b+1:Nat):Int)) (Yl.int (e:=IntKind.i64.wrap (((b:Nat):Int)+1)) yk (by rw [IntWalk.i64_in _ (by omega)]; omega)) (Mz rfl (WL.nil ?_))))))))
 have lS:=lQ.pk [1,0,2,3,4,5]
 exact Fin.round (b+1,gQ,gT,dz.af.ls,dz.ax,C,E,n,o,p,r,s,u,x,dx,A,F,G,I,X,Y,h,Z,ae,U,l,af,ai,j) ⟨rfl,rfl,rfl,rfl,rfl,trivial⟩ (M.2 ⟨lS,by exact O,by exact(ah.trans f bE),by omega,by first | omega | exact Nat.zero_le _,by first | omega | exact Nat.zero_le _,by first | omega | exact Nat.zero_le _,by omega,by omega,by omega,by omega,by omega,by omega,by omega,by omega,by omega,et (P) (et (congrArg (fun q=>aN c q a d C E n o p r s u x z A F G I h l j) R) (et (iN ax) (et (iN Q) (et (iN S) (et (iN T) (et (iN V) (et (iN aj) (et (iN au) (et (ip ay) (aa eU))))))))))⟩) (by show N.length - (b+1) < N.length - b; omega)
 refine jF (dF ay) (sr (Kz (.bool (decide (L=15))) (An rfl ?_)))
 by_cases aD:L=15
 refine jT (dT aD) (sr (Mz rfl (Kz (.pointer (some ⟨B,0,none⟩)) (Kz (.pointer (some ⟨B,14,none⟩)) (Az rfl (An rfl (rt (bR (tR (Fin.res (gB rfl rfl rfl) (Mz rfl (Kz (.pointer (some ⟨B,14,none⟩)) (Kz (.bool true) (Az rfl (Ar rfl (Mn rfl (jt (sr (Mz rfl (Mz rfl ?_))))))))))))))))))))
 obtain⟨⟨dA,dB⟩,fe⟩:∃ q:Nat × ReaderT,aH (ReaderT.mk (Ll.mk a) d) 18446744073709551615=q:=⟨_,rfl⟩
 obtain⟨qm,jA,jB,jC,og⟩:=Own.enter1 ak
 refine cl Tryz.call79 (dR _ _ g0 (ReaderT.mk (Ll.mk a) d) J g 18446744073709551615 dA dB jA (fun w9 h9=>ah.rds av (by decide) f ((jB _ K) w9 h9)) (show a.length≤g∧a.length≤9223372036854775807 from by omega) fe) ?_
 rintro _ qo ⟨gU,gV,rfl,jD,bF,fo⟩
 have lT:=jC _ _ jD
 replace bF:ah 1 J g a gU gV dB.af.ls:=bF
 have oh:=(bF).le
 replace fo:dA≤18446744073709551615:=fo
 refine Kz (.pointer (some ⟨B,14,none⟩)) ?_
 have lU:=lT.pk [1,0,2,3,4,5]
 refine bz [.int .u64 ((dA:Nat):Int)] 14 lU Tryz.sizeOf22 ?_
 intro qp lV
 refine nt (Wp.exit (Fin.thenX (Fin.blockX (Fin.then (Wp.region (fw (.int .i64 ((b+1:Nat):Int)) (Yl.int (e:=IntKind.i64.wrap (((b:Nat):Int)+1)) yk (by rw [IntWalk.i64_in _ (by omega)]; omega)) (Mz rfl (WL.nil ?_))))))))
 have lW:=lV.pk [1,0,2,3,4,5]
 exact Fin.round (b+1,gU,gV,dB.af.ls,dB.ax,C,E,n,o,p,r,s,u,x,z,dA,F,G,I,X,Y,h,Z,ae,U,l,af,ai,j) ⟨rfl,rfl,rfl,rfl,rfl,trivial⟩ (M.2 ⟨lW,by exact O,by exact(ah.trans f bF),by omega,by first | omega | exact Nat.zero_le _,by first | omega | exact Nat.zero_le _,by first | omega | exact Nat.zero_le _,by omega,by omega,by omega,by omega,by omega,by omega,by omega,by omega,by omega,et (P) (et (congrArg (fun q=>aN c q a d C E n o p r s u x z A F G I h l j) R) (et (iN ax) (et (iN Q) (et (iN S) (et (iN T) (et (iN V) (et (iN aj) (et (iN au) (et (iN ay) (et (ip aD) (aa fe)))))))))))⟩) (by show N.length - (b+1) < N.length - b; omega)
 refine jF (dF aD) (Wp.skip (bN (Fin.then (sr (Az rfl (An rfl (rt (Fin.res (gB rfl rfl rfl) (Mz rfl (Kz (.pointer none) (Kz (.bool false) (Az rfl (Ar rfl (Mn rfl (jf (sk (sr (Mn rfl (bo (sr (Kz (.bool (decide (L=2))) (An rfl ?_))))))))))))))))))))))
 by_cases aG:L=2
 refine jT (dT aG) (Wp.region (Mz rfl (Mz rfl ?_)))
 obtain⟨⟨aW,dC⟩,fq⟩:∃ q:UInt8 × ReaderT,aT (ReaderT.mk (Ll.mk a) d)=q:=⟨_,rfl⟩
 obtain⟨qw,jE,jG,jH,ol⟩:=Own.enter1 ak
 refine cl Tryz.call39 (dW _ _ g0 (ReaderT.mk (Ll.mk a) d) J g aW dC jE (fun w9 h9=>ah.rds av (by decide) f ((jG _ K) w9 h9)) (show a.length≤g∧a.length≤9223372036854775807 from by omega) fq) ?_
 rintro _ qx ⟨gW,gX,rfl,jI,bH⟩
 have lX:=jH _ _ jI
 replace bH:ah 1 J g a gW gX dC.af.ls:=bH
 have om:=(bH).le
 have oo:aW.toNat≤255:=Nat.le_of_lt_succ (UInt8.toNat_lt _)
 refine fw (.int .i64 ((aW.toNat:Nat):Int)) (Yl.int (e:=IntKind.i64.wrap ((aW.toNat:Nat):Int)) yk (IntWalk.i64_in _ (by omega))) (Kz (.pointer (some ⟨B,0,none⟩)) (Kz (.pointer (some ⟨B,4,none⟩)) ?_))
 have lY:=lX.pk [1,0,2,3,4,5]
 refine bz [.int .i64 ((aW.toNat:Nat):Int)] 4 lY Tryz.sizeOf3 ?_
 intro qy lZ
 refine WL.nil (bN (bN (Fin.then (Wp.region (fw (.int .i64 ((b+1:Nat):Int)) (Yl.int (e:=IntKind.i64.wrap (((b:Nat):Int)+1)) yk (by rw [IntWalk.i64_in _ (by omega)]; omega)) (Mz rfl (WL.nil ?_)))))))
 have l7:=lZ.pk [1,0,2,3,4,5]
 exact Fin.round (b+1,gW,gX,dC.af.ls,dC.ax,((aW.toNat:Nat):Int),E,n,o,p,r,s,u,x,z,A,F,G,I,X,Y,h,Z,ae,U,l,af,ai,j) ⟨rfl,rfl,rfl,rfl,rfl,trivial⟩ (M.2 ⟨l7,by exact O,by exact(ah.trans f bH),by omega,by first | omega | exact Nat.zero_le _,by first | omega | exact Nat.zero_le _,by first | omega | exact Nat.zero_le _,by omega,by omega,by omega,by omega,by omega,by omega,by omega,by omega,by omega,et (P) (et (congrArg (fun q=>aN c q a d C E n o p r s u x z A F G I h l j) R) (et (iN ax) (et (iN Q) (et (iN S) (et (iN T) (et (iN V) (et (iN aj) (et (iN au) (et (iN ay) (et (iN aD) (et (ip aG) (aa fq))))))))))))⟩) (by show N.length - (b+1) < N.length - b; omega)
 refine jF (dF aG) (sr (Kz (.bool (decide (L=12))) (An rfl ?_)))
 by_cases aI:L=12
 refine jT (dT aI) (Wp.region (Mz rfl (Mz rfl ?_)))
 obtain⟨⟨aY,dD⟩,fu⟩:∃ q:UInt8 × ReaderT,aT (ReaderT.mk (Ll.mk a) d)=q:=⟨_,rfl⟩
 obtain⟨qz,jJ,jK,jL,oq⟩:=Own.enter1 ak
 refine cl Tryz.call39 (dW _ _ g0 (ReaderT.mk (Ll.mk a) d) J g aY dD jJ (fun w9 h9=>ah.rds av (by decide) f ((jK _ K) w9 h9)) (show a.length≤g∧a.length≤9223372036854775807 from by omega) fu) ?_
 rintro _ qA ⟨gY,gZ,rfl,jM,bI⟩
 have l8:=jL _ _ jM
 replace bI:ah 1 J g a gY gZ dD.af.ls:=bI
 have ou:=(bI).le
 have ow:aY.toNat≤255:=Nat.le_of_lt_succ (UInt8.toNat_lt _)
 refine fw (.int .i64 ((aY.toNat:Nat):Int)) (Yl.int (e:=IntKind.i64.wrap ((aY.toNat:Nat):Int)) yk (IntWalk.i64_in _ (by omega))) (Kz (.pointer (some ⟨B,0,none⟩)) (Kz (.pointer (some ⟨B,5,none⟩)) ?_))
 have l9:=l8.pk [1,0,2,3,4,5]
 refine bz [.int .i64 ((aY.toNat:Nat):Int)] 5 l9 Tryz.sizeOf3 ?_
 intro qB ma
 refine WL.nil (bN (bN (Fin.then (Wp.region (fw (.int .i64 ((b+1:Nat):Int)) (Yl.int (e:=IntKind.i64.wrap (((b:Nat):Int)+1)) yk (by rw [IntWalk.i64_in _ (by omega)]; omega)) (Mz rfl (WL.nil ?_)))))))
 have mf:=ma.pk [1,0,2,3,4,5]
 exact Fin.round (b+1,gY,gZ,dD.af.ls,dD.ax,C,((aY.toNat:Nat):Int),n,o,p,r,s,u,x,z,A,F,G,I,X,Y,h,Z,ae,U,l,af,ai,j) ⟨rfl,rfl,rfl,rfl,rfl,trivial⟩ (M.2 ⟨mf,by exact O,by exact(ah.trans f bI),by omega,by first | omega | exact Nat.zero_le _,by first | omega | exact Nat.zero_le _,by first | omega | exact Nat.zero_le _,by omega,by omega,by omega,by omega,by omega,by omega,by omega,by omega,by omega,et (P) (et (congrArg (fun q=>aN c q a d C E n o p r s u x z A F G I h l j) R) (et (iN ax) (et (iN Q) (et (iN S) (et (iN T) (et (iN V) (et (iN aj) (et (iN au) (et (iN ay) (et (iN aD) (et (iN aG) (et (ip aI) (aa fu)))))))))))))⟩) (by show N.length - (b+1) < N.length - b; omega)
 refine jF (dF aI) (sr (Kz (.bool (decide (L=8))) (An rfl ?_)))
 by_cases aK:L=8
 refine jT (dT aK) (Wp.region (Mz rfl (Mz rfl ?_)))
 obtain⟨⟨fA,dE⟩,fB⟩:∃ q:Bool × ReaderT,fT (ReaderT.mk (Ll.mk a) d)=q:=⟨_,rfl⟩
 obtain⟨qC,jN,jO,jP,oz⟩:=Own.enter1 ak
 refine cl Tryz.call80 (mq _ _ g0 (ReaderT.mk (Ll.mk a) d) J g fA dE jN (fun w9 h9=>ah.rds av (by decide) f ((jO _ K) w9 h9)) (show a.length≤g∧a.length≤9223372036854775807 from by omega) fB) ?_
 rintro _ qD ⟨ib,ic,rfl,jQ,bJ⟩
 have mg:=jP _ _ jQ
 replace bJ:ah 1 J g a ib ic dE.af.ls:=bJ
 have oC:=(bJ).le
 refine Kz (.pointer (some ⟨B,0,none⟩)) (Kz (.pointer (some ⟨B,15,none⟩)) ?_)
 have mh:=mg.pk [1,0,2,3,4,5]
 refine bz [.bool fA] 15 mh Tryz.sizeOf4 ?_
 intro qE mi
 refine WL.nil (bN (bN (Fin.then (Wp.region (fw (.int .i64 ((b+1:Nat):Int)) (Yl.int (e:=IntKind.i64.wrap (((b:Nat):Int)+1)) yk (by rw [IntWalk.i64_in _ (by omega)]; omega)) (Mz rfl (WL.nil ?_)))))))
 have mo:=mi.pk [1,0,2,3,4,5]
 exact Fin.round (b+1,ib,ic,dE.af.ls,dE.ax,C,E,n,o,p,r,s,u,x,z,A,fA,G,I,X,Y,h,Z,ae,U,l,af,ai,j) ⟨rfl,rfl,rfl,rfl,rfl,trivial⟩ (M.2 ⟨mo,by exact O,by exact(ah.trans f bJ),by omega,by first | omega | exact Nat.zero_le _,by first | omega | exact Nat.zero_le _,by first | omega | exact Nat.zero_le _,by omega,by omega,by omega,by omega,by omega,by omega,by omega,by omega,by omega,et (P) (et (congrArg (fun q=>aN c q a d C E n o p r s u x z A F G I h l j) R) (et (iN ax) (et (iN Q) (et (iN S) (et (iN T) (et (iN V) (et (iN aj) (et (iN au) (et (iN ay) (et (iN aD) (et (iN aG) (et (iN aI) (et (ip aK) (aa fB))))))))))))))⟩) (by show N.length - (b+1) < N.length - b; omega)
 refine jF (dF aK) (sr (Kz (.bool (decide (L=13))) (An rfl ?_)))
 by_cases aO:L=13
 refine jT (dT aO) ?_
 have mr:=ak.pk [2,3,4,5,0,1]
 have dG:=mr.drew
 refine Wp.drawnX [] (fun W=> ∃ L',Own w D W ([row X h.length Y (List.flatMap aB.cells h) 64 6,row Z l.length ae (List.flatMap ag.cells U) 84 3,sepL (List.flatMap ag.own U),row af j.length ai (List.flatMap aA.cells j) 88 2]++L')) (by kernel_rfl) (by kernel_rfl) (bO.block (bO.block (bO.then (bO.then (bO.block bO.base))))) ⟨_,dG⟩ ?_
 revert dG
 generalize World.drew nH=qF
 intro dG
 refine GX.take (v:= .pointer (some ⟨g0,0,none⟩)) (rs:= []) 0 rfl (by kernel_rfl) (fun _ _=>Yl.move rfl) (GX.take (v:= .pointer (some ⟨B,0,none⟩)) (rs:= []) 1 rfl (by kernel_rfl) (fun _ _=>Yl.move rfl) (GX.take (v:= .pointer (some ⟨B,0,none⟩)) (rs:= []) 2 rfl (by kernel_rfl) (fun _ _=>yk) (GX.take (v:= .pointer (some ⟨B,16,none⟩)) (rs:= []) 3 rfl (by kernel_rfl) (fun _ _=>yk) (GX.take (v:= .pointer (some ⟨B,16,none⟩)) (rs:= []) 4 rfl (by kernel_rfl) (fun _ _=>yk) (GX.take (v:= .pointer (some ⟨B,0,none⟩)) (rs:= []) 5 rfl (by kernel_rfl) (fun _ _=>Yl.move rfl) (GX.take (v:= .pointer (some ⟨B,0,none⟩)) (rs:= []) 6 rfl (by kernel_rfl) (fun _ _=>yk) (GX.take (v:= .pointer (some ⟨B,16,none⟩)) (rs:= []) 7 rfl (by kernel_rfl) (fun _ _=>yk) (GX.take (v:= .pointer (some ⟨B,17,none⟩)) (rs:= []) 8 rfl (by kernel_rfl) (fun _ _=>yk) ?_))))))))
 refine GX.do 9 rfl (by kernel_rfl) (Do.newRow (cs:= [.pointer (some ⟨B,16,none⟩), .pointer (some ⟨B,17,none⟩)]) (t:=124) (sz:=1) (m:=2) dG rfl rfl (fun _=>by kernel_rfl) rfl (by decide) ?_)
 intro aJ qG fC
 replace fC:=Own.reh (y:=row aJ 2 2 (List.flatMap eV ([(Value.pointer (some ⟨B,16,none⟩)),(Value.pointer (some ⟨B,17,none⟩))])) 124 1) rfl fC
 have dH:=fC.pk [1,2,3,4,0,5,6]
 refine⟨.inr ⟨_,dH⟩, ?_⟩
 refine GX.do 10 rfl (by kernel_rfl) (Do.call Tryz.call81 rfl ?_ (fun _ _ k=>k))
 refine Calls.body (args:= [.pointer (some ⟨g0,0,none⟩), .slice aJ 2 2]) Tryz.func81 rfl rfl rfl ?_
 show Wp _ _ _ [(0, .pointer (some ⟨g0,0,none⟩)),(1, .slice aJ 2 2)] _ _
 refine sr (Mz rfl (Kz (.int .i64 2) (Mn rfl (bo (Wp.unroll 200 (sr (Kz (.bool true) (nt (Wp.seq (jt (sk (Wp.seq (bo (sr ?_))))))))))))))
 have jR:([(Value.pointer (some ⟨B,16,none⟩)),(Value.pointer (some ⟨B,17,none⟩))]:List Value)[0]? =some (Value.pointer (some ⟨B,16,none⟩)):=rfl
 refine fw (.pointer (some ⟨ab aJ,ao aJ+0 *1,none⟩)) (Yl.indexAddr (l5) rfl rfl ((dH.rds (i:=4) rfl).addr (i:=0) (by omega)) (by omega)) (fw (.pointer (some ⟨B,16,none⟩)) (Yl.load rfl (bu.one Tryz.isAgg124 (((dH.rds (i:=4) rfl).elem kT jR (by decide)).at_ (k:=0) rfl))) (An rfl (Wp.region (Mz rfl (Mz rfl ?_)))))
 have mD:=dH.pk [5,0,1,2,3,4,6]
 obtain⟨⟨fD,aP⟩,fE⟩:∃ q:(List UInt8) × ReaderT,bA (ReaderT.mk (Ll.mk a) d) 255=q:=⟨_,rfl⟩
 obtain⟨qH,jS,jU,jV,oD⟩:=Own.enter1 mD
 refine cl Tryz.call109 (eY _ _ g0 (ReaderT.mk (Ll.mk a) d) J g 255 fD aP jS (fun w9 h9=>ah.rds av (by decide) f ((jU _ K) w9 h9)) (show a.length≤g∧a.length≤9223372036854775807 from by omega) fE) ?_
 rintro _ qI ⟨fF,dI,rfl,jW,aQ⟩
 have mF:=jV _ _ jW
 replace aQ:ah 1 J g a fF dI aP.af.ls:=aQ
 have oF:=(aQ).le
 refine Kz (.pointer (some ⟨B,16,none⟩)) ?_
 have mG:=mF.pk [6,0,1,2,3,4,5]
 refine bz [.string ⟨List.toArray fD⟩] 16 mG Tryz.sizeOf9 ?_
 intro qJ fG
 refine WL.nil (bN (Fin.then (Wp.region (Kz (.int .i64 1) (Mz rfl (WL.nil (Fin.again [(8, .int .i64 1),(7, .int .i64 2),(6, .slice aJ 2 2),(0, .pointer (some ⟨g0,0,none⟩))] ⟨rfl,rfl,rfl,rfl,trivial⟩ (sr (Kz (.bool true) (nt (Wp.seq (jt (sk (Wp.seq (bo (sr ?_))))))))))))))))
 have jX:([(Value.pointer (some ⟨B,16,none⟩)),(Value.pointer (some ⟨B,17,none⟩))]:List Value)[1]? =some (Value.pointer (some ⟨B,17,none⟩)):=rfl
 refine fw (.pointer (some ⟨ab aJ,ao aJ+1 *1,none⟩)) (Yl.indexAddr (l5) rfl rfl ((fG.rds (i:=6) rfl).addr (i:=1) (by omega)) (by omega)) (fw (.pointer (some ⟨B,17,none⟩)) (Yl.load rfl (bu.one Tryz.isAgg124 (((fG.rds (i:=6) rfl).elem kT jX (by decide)).at_ (k:=0) rfl))) (An rfl (Wp.region (Mz rfl (Mz rfl ?_)))))
 have mH:=fG.pk [1,0,2,3,4,5,6]
 obtain⟨⟨fH,dJ⟩,fI⟩:∃ q:(List UInt8) × ReaderT,bA aP 255=q:=⟨_,rfl⟩
 obtain⟨qK,jY,jZ,j3,oG⟩:=Own.enter1 mH
 refine cl Tryz.call109 (eY _ _ g0 aP fF dI 255 fH dJ jY (fun w9 h9=>ah.rds av (by decide) aQ ((fun w9 h9=>ah.rds av (by decide) f ((jZ _ K) w9 h9)) w9 h9)) (show aP.af.ls.length≤dI∧aP.af.ls.length≤9223372036854775807 from by omega) fI) ?_
 rintro _ qL ⟨ig,ik,rfl,j4,bK⟩
 have mI:=j3 _ _ j4
 replace bK:ah 1 fF dI aP.af.ls ig ik dJ.af.ls:=bK
 have oH:=(bK).le
 refine Kz (.pointer (some ⟨B,17,none⟩)) ?_
 have mJ:=mI.pk [1,0,2,3,4,5,6]
 refine bz [.string ⟨List.toArray fH⟩] 17 mJ Tryz.sizeOf9 ?_
 intro qM mK
 refine WL.nil (bN (Fin.then (Wp.region (Kz (.int .i64 2) (Mz rfl (WL.nil (Fin.again [(8, .int .i64 2),(7, .int .i64 2),(6, .slice aJ 2 2),(0, .pointer (some ⟨g0,0,none⟩))] ⟨rfl,rfl,rfl,rfl,trivial⟩ (sr (Kz (.bool false) (nt (Wp.seq (jf (Wp.exit (Fin.thenX (Fin.thenX (Fin.blockX (Fin.res0 (res0 rfl) ?_)))))))))))))))))
 have il:=mK.pk [2,3,4,5,0,1,6]
 refine⟨.inr ⟨_,il⟩, ?_⟩
 refine GX.done (by kernel_rfl) (bN (bN (Fin.then (Wp.region (fw (.int .i64 ((b+1:Nat):Int)) (Yl.int (e:=IntKind.i64.wrap (((b:Nat):Int)+1)) yk (by rw [IntWalk.i64_in _ (by omega)]; omega)) (Mz rfl (WL.nil ?_)))))))
 have mM:=il.pk [5,4,0,1,2,3]
 exact Fin.round (b+1,ig,ik,dJ.af.ls,dJ.ax,C,E,n,o,p,r,s,u,x,z,A,F,fD,fH,X,Y,h,Z,ae,U,l,af,ai,j) ⟨rfl,rfl,rfl,rfl,rfl,trivial⟩ (M.2 ⟨mM,by exact O,by exact(ah.trans (ah.trans f aQ) bK),by omega,by first | omega | exact Nat.zero_le _,by first | omega | exact Nat.zero_le _,by first | omega | exact Nat.zero_le _,by omega,by omega,by omega,by omega,by omega,by omega,by omega,by omega,by omega,et (P) (et (congrArg (fun q=>aN c q a d C E n o p r s u x z A F G I h l j) R) (et (iN ax) (et (iN Q) (et (iN S) (et (iN T) (et (iN V) (et (iN aj) (et (iN au) (et (iN ay) (et (iN aD) (et (iN aG) (et (iN aI) (et (iN aK) (et (ip aO) (et (aa fE) (aa fI))))))))))))))))⟩) (by show N.length - (b+1) < N.length - b; omega)
 refine jF (dF aO) (sr (Kz (.bool (decide (L=7))) (An rfl ?_)))
 by_cases aZ:L=7
 refine jT (dT aZ) (Wp.region (Mz rfl (Mz rfl ?_)))
 obtain⟨⟨dK,dN⟩,fJ⟩:∃ q:(List aB) × ReaderT,fP (ReaderT.mk (Ll.mk a) d) 255=q:=⟨_,rfl⟩
 obtain⟨qN,j5,j6,kg,oI⟩:=Own.enter1 ak
 refine cl Tryz.call82 (nR _ _ g0 (ReaderT.mk (Ll.mk a) d) J g 255 dK dN j5 (fun w9 h9=>ah.rds av (by decide) f ((j6 _ K) w9 h9)) (show a.length≤g∧a.length≤9223372036854775807 from by omega) (by omega) fJ) ?_
 rintro _ qO ⟨iq,iw,iy,iA,rfl,ko,bL,fK⟩
 have iB:=kg _ _ ko
 replace bL:ah 1 J g a iy iA dN.af.ls:=bL
 have oJ:=(bL).le
 have oK:=iB.rowC (i:=0) rfl
 replace fK:dK.length≤1000:=fK
 refine Kz (.pointer (some ⟨B,0,none⟩)) (Kz (.pointer (some ⟨B,18,none⟩)) ?_)
 have mO:=iB.pk [2,0,1,3,4,5,6]
 refine bz [.slice iq dK.length iw] 18 mO Tryz.sizeOf25 ?_
 intro qP mQ
 refine WL.nil (bN (bN (Fin.then (Wp.region (fw (.int .i64 ((b+1:Nat):Int)) (Yl.int (e:=IntKind.i64.wrap (((b:Nat):Int)+1)) yk (by rw [IntWalk.i64_in _ (by omega)]; omega)) (Mz rfl (WL.nil ?_)))))))
 have mR:=mQ.pk [2,0,1,4,5,6]
 exact Fin.round (b+1,iy,iA,dN.af.ls,dN.ax,C,E,n,o,p,r,s,u,x,z,A,F,G,I,iq,iw,dK,Z,ae,U,l,af,ai,j) ⟨rfl,rfl,rfl,rfl,rfl,trivial⟩ (M.2 ⟨mR,by exact O,by exact(ah.trans f bL),by omega,by first | omega | exact Nat.zero_le _,by first | omega | exact Nat.zero_le _,by first | omega | exact Nat.zero_le _,by omega,by omega,by omega,by omega,by omega,by omega,by omega,by omega,by omega,et (P) (et (congrArg (fun q=>aN c q a d C E n o p r s u x z A F G I h l j) R) (et (iN ax) (et (iN Q) (et (iN S) (et (iN T) (et (iN V) (et (iN aj) (et (iN au) (et (iN ay) (et (iN aD) (et (iN aG) (et (iN aI) (et (iN aK) (et (iN aO) (et (ip aZ) (aa fJ))))))))))))))))⟩) (by show N.length - (b+1) < N.length - b; omega)
 refine jF (dF aZ) (sr (Kz (.bool (decide (L=3))) (An rfl ?_)))
 by_cases bX:L=3
 refine jT (dT bX) (Wp.region (Mz rfl (Mz rfl ?_)))
 obtain⟨⟨dO,dP⟩,fM⟩:∃ q:(List aX) × ReaderT,eF (ReaderT.mk (Ll.mk a) d) 255=q:=⟨_,rfl⟩
 obtain⟨qQ,kr,ku,kv,oL⟩:=Own.enter1 ak
 refine cl Tryz.call84 (mE _ _ g0 (ReaderT.mk (Ll.mk a) d) J g 255 dO dP kr (fun w9 h9=>ah.rds av (by decide) f ((ku _ K) w9 h9)) (show a.length≤g∧a.length≤9223372036854775807 from by omega) (by omega) fM) ?_
 rintro _ qR ⟨iC,iD,mU,iE,iF,rfl,kw,fO,bM,fQ⟩
 have iG:=kv _ _ kw
 replace bM:ah 1 J g a iE iF dP.af.ls:=bM
 have oM:=(bM).le
 have oN:=dM fO
 have oO:=iG.rowC (i:=0) rfl
 replace fQ:dO.length≤1000:=fQ
 refine Kz (.pointer (some ⟨B,0,none⟩)) (Kz (.pointer (some ⟨B,19,none⟩)) ?_)
 have mV:=iG.pk [3,0,1,2,4,5,6,7]
 refine bz [.slice iC dO.length iD] 19 mV Tryz.sizeOf26 ?_
 intro qU mW
 refine WL.nil (bN (bN (Fin.then (Wp.region (fw (.int .i64 ((b+1:Nat):Int)) (Yl.int (e:=IntKind.i64.wrap (((b:Nat):Int)+1)) yk (by rw [IntWalk.i64_in _ (by omega)]; omega)) (Mz rfl (WL.nil ?_)))))))
 have mX:=mW.pk [3,0,4,1,2,7]
 exact Fin.round (b+1,iE,iF,dP.af.ls,dP.ax,C,E,n,o,p,r,s,u,x,z,A,F,G,I,X,Y,h,iC,iD,mU,dO,af,ai,j) ⟨rfl,rfl,rfl,rfl,rfl,trivial⟩ (M.2 ⟨mX,by exact fO,by exact(ah.trans f bM),by omega,by first | omega | exact Nat.zero_le _,by first | omega | exact Nat.zero_le _,by first | omega | exact Nat.zero_le _,by omega,by omega,by omega,by omega,by omega,by omega,by omega,by omega,by omega,et (P) (et (congrArg (fun q=>aN c q a d C E n o p r s u x z A F G I h l j) R) (et (iN ax) (et (iN Q) (et (iN S) (et (iN T) (et (iN V) (et (iN aj) (et (iN au) (et (iN ay) (et (iN aD) (et (iN aG) (et (iN aI) (et (iN aK) (et (iN aO) (et (iN aZ) (et (ip bX) (aa fM)))))))))))))))))⟩) (by show N.length - (b+1) < N.length - b; omega)
 refine jF (dF bX) (sr (Kz (.bool (decide (L=11))) (An rfl ?_)))
 by_cases dQ:L=11
 refine jT (dT dQ) (Wp.region (Mz rfl (Mz rfl ?_)))
 obtain⟨⟨dS,dU⟩,fU⟩:∃ q:(List aA) × ReaderT,eZ (ReaderT.mk (Ll.mk a) d) 255=q:=⟨_,rfl⟩
 obtain⟨qV,ky,kz,kC,oP⟩:=Own.enter1 ak
 refine cl Tryz.call86 (mP _ _ g0 (ReaderT.mk (Ll.mk a) d) J g 255 dS dU ky (fun w9 h9=>ah.rds av (by decide) f ((kz _ K) w9 h9)) (show a.length≤g∧a.length≤9223372036854775807 from by omega) (by omega) fU) ?_
 rintro _ qW ⟨iH,iI,iJ,iK,rfl,kD,bP,fV⟩
 have iL:=kC _ _ kD
 replace bP:ah 1 J g a iJ iK dU.af.ls:=bP
 have oU:=(bP).le
 have oV:=iL.rowC (i:=0) rfl
 replace fV:dS.length≤1000:=fV
 refine Kz (.pointer (some ⟨B,0,none⟩)) (Kz (.pointer (some ⟨B,20,none⟩)) ?_)
 have mY:=iL.pk [2,0,1,3,4,5,6]
 refine bz [.slice iH dS.length iI] 20 mY Tryz.sizeOf27 ?_
 intro qX mZ
 refine WL.nil (bN (bN (Fin.then (Wp.region (fw (.int .i64 ((b+1:Nat):Int)) (Yl.int (e:=IntKind.i64.wrap (((b:Nat):Int)+1)) yk (by rw [IntWalk.i64_in _ (by omega)]; omega)) (Mz rfl (WL.nil ?_)))))))
 have ng:=mZ.pk [2,0,3,4,5,1]
 exact Fin.round (b+1,iJ,iK,dU.af.ls,dU.ax,C,E,n,o,p,r,s,u,x,z,A,F,G,I,X,Y,h,Z,ae,U,l,iH,iI,dS) ⟨rfl,rfl,rfl,rfl,rfl,trivial⟩ (M.2 ⟨ng,by exact O,by exact(ah.trans f bP),by omega,by first | omega | exact Nat.zero_le _,by first | omega | exact Nat.zero_le _,by first | omega | exact Nat.zero_le _,by omega,by omega,by omega,by omega,by omega,by omega,by omega,by omega,by omega,et (P) (et (congrArg (fun q=>aN c q a d C E n o p r s u x z A F G I h l j) R) (et (iN ax) (et (iN Q) (et (iN S) (et (iN T) (et (iN V) (et (iN aj) (et (iN au) (et (iN ay) (et (iN aD) (et (iN aG) (et (iN aI) (et (iN aK) (et (iN aO) (et (iN aZ) (et (iN bX) (et (ip dQ) (aa fU))))))))))))))))))⟩) (by show N.length - (b+1) < N.length - b; omega)
 refine jF (dF dQ) (Wp.skip (bN (bN (Fin.then (Wp.region (fw (.int .i64 ((b+1:Nat):Int)) (Yl.int (e:=IntKind.i64.wrap (((b:Nat):Int)+1)) yk (by rw [IntWalk.i64_in _ (by omega)]; omega)) (Mz rfl (WL.nil ?_))))))))
 have ni:=ak.pk [0,1,2,3,4,5]
 exact Fin.round (b+1,J,g,a,d,C,E,n,o,p,r,s,u,x,z,A,F,G,I,X,Y,h,Z,ae,U,l,af,ai,j) ⟨rfl,rfl,rfl,rfl,rfl,trivial⟩ (M.2 ⟨ni,by exact O,by exact f,by omega,by first | omega | exact Nat.zero_le _,by first | omega | exact Nat.zero_le _,by first | omega | exact Nat.zero_le _,by omega,by omega,by omega,by omega,by omega,by omega,by omega,by omega,by omega,et (P) (et (congrArg (fun q=>aN c q a d C E n o p r s u x z A F G I h l j) R) (et (iN ax) (et (iN Q) (et (iN S) (et (iN T) (et (iN V) (et (iN aj) (et (iN au) (et (iN ay) (et (iN aD) (et (iN aG) (et (iN aI) (et (iN aK) (et (iN aO) (et (iN aZ) (et (iN bX) (iN dQ)))))))))))))))))⟩) (by show N.length - (b+1) < N.length - b; omega)
 refine jF (dF kK) (Wp.exit (Fin.thenX ?_))
 have kE:aN c N p0.af.ls p0.ax c.bq c.bM c.bF c.aY c.bE c.bH c.bL c.aS c.bB c.aK c.xN c.bV c.aG.aD c.aG.aI c.az.ls c.ai.ls c.aj.ls=(a,d,C,E,n,o,p,r,s,u,x,z,A,F,G,I,h,l,j):=et (P) (et (congrArg (fun q=>aN c q a d C E n o p r s u x z A F G I h l j) (dY (ls:=N) (i:=b) (by omega))) rfl)
 refine Fin.thenX (Fin.blockX (Fin.res0 (res0 rfl) ?_))
 have nk:=ak.pk [0,1,2,3,4,5]
 have e:kJ p0 c N=(ReaderT.mk (Ll.mk a) d,bG.mk c.ae c.bn c.dm c.aO C E n o p r s u x z A F (bC.mk G I) (Ll.mk h) (Ll.mk l) (Ll.mk j)):=aa kE
 obtain⟨rfl,rfl⟩:=dL (e.symm.trans hr)
 exact⟨J,g,X,Y,Z,ae,U,af,ai,rfl,nk,f,O,(by first | omega | (dsimp only; omega) | (simp only [List.length_nil]; omega) | (refine⟨?_, ?_⟩ <;> (dsimp only; omega)))⟩
def ed (r:List UInt8):bG × Int:=
 bnd (gT r) fun d=>if d.2=0 then bnd (mD d.1) fun q=>bnd (aT q) fun a=>bnd (bY ((a.1.toNat:Nat):Int)) fun e=>if e.2=true then bnd (aT a.2) fun f=>bnd (aT f.2) fun g=>bnd (kJ g.2 (bG.mk ((a.1.toNat:Nat):Int) ((f.1.toNat:Nat):Int) ((g.1.toNat:Nat):Int) 0 0 0 0 0 0 0 0 0 0 0 0 false (bC.mk ([]) ([])) (Ll.mk ([])) (Ll.mk ([])) (Ll.mk ([]))) e.1.aJ.ls) fun b=>bnd (fJ b.1) fun n=>bnd (fK n) fun h=>if h=0 then bnd (dH b.2) fun i=>if i=0 then(b.2,0) else(bG.mk 0 0 0 0 0 0 0 0 0 0 0 0 0 0 0 false (bC.mk ([]) ([])) (Ll.mk ([])) (Ll.mk ([])) (Ll.mk ([])),i) else(bG.mk 0 0 0 0 0 0 0 0 0 0 0 0 0 0 0 false (bC.mk ([]) ([])) (Ll.mk ([])) (Ll.mk ([])) (Ll.mk ([])),h) else bnd (bU a.2 11) fun o=>bnd (aT o) fun j=>bnd (aT j.2) fun k=>bnd (kJ k.2 (bG.mk ((a.1.toNat:Nat):Int) ((j.1.toNat:Nat):Int) ((k.1.toNat:Nat):Int) 0 0 0 0 0 0 0 0 0 0 0 0 false (bC.mk ([]) ([])) (Ll.mk ([])) (Ll.mk ([])) (Ll.mk ([]))) e.1.aJ.ls) fun c=>bnd (fJ c.1) fun p=>bnd (fK p) fun l=>if l=0 then bnd (dH c.2) fun m=>if m=0 then(c.2,0) else(bG.mk 0 0 0 0 0 0 0 0 0 0 0 0 0 0 0 false (bC.mk ([]) ([])) (Ll.mk ([])) (Ll.mk ([])) (Ll.mk ([])),m) else(bG.mk 0 0 0 0 0 0 0 0 0 0 0 0 0 0 0 false (bC.mk ([]) ([])) (Ll.mk ([])) (Ll.mk ([])) (Ll.mk ([])),l) else(bG.mk 0 0 0 0 0 0 0 0 0 0 0 0 0 0 0 false (bC.mk ([]) ([])) (Ll.mk ([])) (Ll.mk ([])) (Ll.mk ([])),d.2)
set_option maxHeartbeats 4000000 in
theorem jZ (w:World) (D:Nat→Prop) (A0:Option Addr) (n0 c0:Nat) (l0:List UInt8) (r0:bG) (r1:Int) (H:Own w D w []) (kL:Ro w D fun w'=>bD w' 1 A0 n0 (List.flatMap eB l0)) (kM:n0=l0.length) (nL:l0.length *1≤211106232532992) (nM:l0.length≤c0) (hr:ed l0=(r0,r1)):
    Calls Tryz.prog 13 #[.slice A0 n0 c0] w (cK fun v w'=> ∃ (eu:Option Addr) (eD:Nat) (eF:Option Addr) (eG:Nat) (eH:Option Addr) (eO:Nat) (dC:List ag),v= .tuple #[.agg (aV r0 eu eD eF eG eH eO).toArray, .int .i64 r1]∧Own w D w' [row eu r0.az.ls.length eD (List.flatMap aB.cells r0.az.ls) 64 6,row eF r0.ai.ls.length eG (List.flatMap ag.cells dC) 84 3,sepL (List.flatMap ag.own dC),row eH r0.aj.ls.length eO (List.flatMap aA.cells r0.aj.ls) 88 2]∧(List.map ag.abs dC=r0.ai.ls)∧(r0.az.ls.length≤1000∧r0.ai.ls.length≤1000∧r0.aj.ls.length≤1000∧r0.bF≤18446744073709551615∧r0.aY≤18446744073709551615∧r0.bE≤18446744073709551615∧r0.bH≤18446744073709551615∧r0.bL≤18446744073709551615∧r0.aS≤18446744073709551615∧r0.bB≤18446744073709551615∧r0.aK≤18446744073709551615∧r0.xN≤18446744073709551615)):=by
 subst kM
 refine Calls.body (args:= [.slice A0 l0.length c0]) Tryz.func13 rfl rfl rfl ?_
 show Wp _ _ _ [(0, .slice A0 l0.length c0)] _ _
 refine sr ?_
 refine dD (bf 0 0 0 0 0 0 0 0 0 0 0 0 0 0 0 false ([]) ([]) none 0 0 none 0 0 none 0 0) 29 H ?_
 intro A nN kN
 refine Ar rfl (Mz rfl ?_)
 obtain⟨⟨p,bL⟩,ae⟩:∃ q:(List UInt8) × Int,gT l0=q:=⟨_,rfl⟩
 obtain⟨nO,iF,iG,iH,l8⟩:=Own.enter0 kN
 refine cl Tryz.call37 (qU _ _ A0 l0.length c0 l0 p bL iF (iG _ kL) rfl (by omega) (by first | omega | (simp only [List.length_take,List.length_drop]; omega) | exact Nat.le_refl _) ae) ?_
 rintro _ nP ⟨R,S,rfl,iI,eP⟩
 have dZ:=iH _ _ iI
 have l9:=dZ.rowC (i:=0) rfl
 replace eP:p.length≤l0.length:=eP
 refine Mz rfl (Kz (.slice R p.length S) (Kz (.int .i64 bL) (Az rfl (An rfl (Wp.seq (sr (Mz rfl (fw (.bool (decide (¬ (bL=0)))) (Yl.bool (e:= !(decide (bL=0))) yk decide_not.symm) (nt ?_)))))))))
 by_cases aQ:bL=0
 refine jF (dF (not_not_intro aQ)) (sk (sr (Mz rfl ?_)))
 have ma:=dZ.rowC (i:=0) rfl
 obtain⟨bM,au⟩:∃ q,mD p=q:=⟨_,rfl⟩
 obtain⟨nQ,iJ,mf,iK,iL⟩:=Own.enter0 dZ
 refine cl Tryz.call38 (q8 _ _ R p.length S p bM iJ (iL _ 0 _ rfl bJ) rfl (by omega) (by first | omega | (simp only [List.length_take,List.length_drop]; omega) | exact Nat.le_refl _) au) ?_
 rintro _ nR ⟨L,fC,d9,rfl,iM,J⟩
 have kP:=iK _ _ iM
 replace J:ah 1 R S p fC d9 bM.af.ls:=J
 have mh:=(J).le
 refine Ar rfl (Mz rfl ?_)
 obtain⟨⟨K,aj⟩,ax⟩:∃ q:UInt8 × ReaderT,aT bM=q:=⟨_,rfl⟩
 obtain⟨nS,iO,mi,iP,iQ⟩:=Own.enter1 kP
 refine cl Tryz.call39 (dW _ _ L bM fC d9 K aj iO (fun f d=>ah.rds av (by decide) J ((iQ _ 0 _ rfl bJ) f d)) (show bM.af.ls.length≤d9∧bM.af.ls.length≤9223372036854775807 from by omega) ax) ?_
 rintro _ nT ⟨dE,bN,rfl,iR,M⟩
 have kQ:=iP _ _ iR
 replace M:ah 1 fC d9 bM.af.ls dE bN aj.af.ls:=M
 have mo:=(M).le
 have mq:K.toNat≤255:=Nat.le_of_lt_succ (UInt8.toNat_lt _)
 refine fw (.int .i64 ((K.toNat:Nat):Int)) (Yl.int (e:=IntKind.i64.wrap ((K.toNat:Nat):Int)) yk (IntWalk.i64_in _ (by omega))) (Kz (.agg (bf ((K.toNat:Nat):Int) 0 0 0 0 0 0 0 0 0 0 0 0 0 0 false ([]) ([]) none 0 0 none 0 0 none 0 0).toArray) ?_)
 refine dD (bf 0 0 0 0 0 0 0 0 0 0 0 0 0 0 0 false ([]) ([]) none 0 0 none 0 0 none 0 0) 29 kQ ?_
 intro z nU kR
 refine bz (bf ((K.toNat:Nat):Int) 0 0 0 0 0 0 0 0 0 0 0 0 0 0 false ([]) ([]) none 0 0 none 0 0 none 0 0) 0 kR Tryz.sizeOf29 ?_
 intro nV iT
 refine ns (Kz (.pointer (some ⟨z,0,none⟩)) (Lz (.int .i64 ((K.toNat:Nat):Int)) iT 0 Tryz.isAgg3 ?_))
 obtain⟨⟨c,ek⟩,ay⟩:∃ q:dK × Bool,bY ((K.toNat:Nat):Int)=q:=⟨_,rfl⟩
 obtain⟨nW,iU,mr,iV,mE⟩:=Own.enter0 iT
 refine cl Tryz.call19 (lh _ _ ((K.toNat:Nat):Int) c ek iU ay) ?_
 rintro _ nX ⟨E,F,rfl,iW,eQ⟩
 have iX:=iV _ _ iW
 have mF:=iX.rowC (i:=0) rfl
 replace eQ:c.aJ.ls.length≤5:=eQ
 refine Mz rfl (Kz (.agg #[.int .i64 c.gM, .int .i64 c.jo, .slice E c.aJ.ls.length F]) (Kz (.bool ek) ?_))
 refine dD [.int .i64 0, .int .i64 0, .slice none 0 0] 50 iX ?_
 intro ak nY kS
 refine bz [.int .i64 c.gM, .int .i64 c.jo, .slice E c.aJ.ls.length F] 0 kS Tryz.sizeOf50 ?_
 intro nZ iY
 refine An rfl (Wp.seq (sr (Mz rfl (Kz (.bool (!ek)) (nt ?_)))))
 rcases Bool.eq_false_or_eq_true (ek) with aR | aR
 refine jF (cn aR) (sk (sr (Mz rfl ?_)))
 have kT:=iY.pk [3,0,1,2,4,5]
 obtain⟨⟨N,az⟩,aS⟩:∃ q:UInt8 × ReaderT,aT aj=q:=⟨_,rfl⟩
 obtain⟨og,fD,kU,fE,fF⟩:=Own.enter1 kT
 refine cl Tryz.call39 (dW _ _ L aj dE bN N az fD (fun f d=>ah.rds av (by decide) M ((fun f d=>ah.rds av (by decide) J ((fF _ 3 _ rfl bJ) f d)) f d)) (show aj.af.ls.length≤bN∧aj.af.ls.length≤9223372036854775807 from by omega) aS) ?_
 rintro _ mH ⟨dG,bV,rfl,fG,U⟩
 have iZ:=fE _ _ fG
 replace U:ah 1 dE bN aj.af.ls dG bV az.af.ls:=U
 have kV:=(U).le
 have kW:N.toNat≤255:=Nat.le_of_lt_succ (UInt8.toNat_lt _)
 refine fw (.int .i64 ((N.toNat:Nat):Int)) (Yl.int (e:=IntKind.i64.wrap ((N.toNat:Nat):Int)) yk (IntWalk.i64_in _ (by omega))) (Mz rfl ?_)
 obtain⟨⟨O,G⟩,aU⟩:∃ q:UInt8 × ReaderT,aT az=q:=⟨_,rfl⟩
 obtain⟨mI,fH,kX,fI,fM⟩:=Own.enter1 iZ
 refine cl Tryz.call39 (dW _ _ L az dG bV O G fH (fun f d=>ah.rds av (by decide) U ((fun f d=>ah.rds av (by decide) M ((fun f d=>ah.rds av (by decide) J ((fM _ 3 _ rfl bJ) f d)) f d)) f d)) (show az.af.ls.length≤bV∧az.af.ls.length≤9223372036854775807 from by omega) aU) ?_
 rintro _ mJ ⟨af,W,rfl,fO,Y⟩
 have ja:=fI _ _ fO
 replace Y:ah 1 dG bV az.af.ls af W G.af.ls:=Y
 have kY:=(Y).le
 have kZ:O.toNat≤255:=Nat.le_of_lt_succ (UInt8.toNat_lt _)
 refine fw (.int .i64 ((O.toNat:Nat):Int)) (Yl.int (e:=IntKind.i64.wrap ((O.toNat:Nat):Int)) yk (IntWalk.i64_in _ (by omega))) (Kz (.pointer (some ⟨z,1,none⟩)) ?_)
 have jb:=ja.pk [3,0,1,2,4,5]
 refine bz [.int .i64 ((N.toNat:Nat):Int)] 1 jb Tryz.sizeOf3 ?_
 intro mK jc
 refine Kz (.pointer (some ⟨z,2,none⟩)) ?_
 refine bz [.int .i64 ((O.toNat:Nat):Int)] 2 jc Tryz.sizeOf3 ?_
 intro bW eT
 refine ns (Mz rfl (Kz (.pointer (some ⟨ak,2,none⟩)) (Lz (.slice E c.aJ.ls.length F) eT 2 Tryz.isAgg48 ?_)))
 have jd:Own w D bW [row none 0 0 (List.flatMap aB.cells ([])) 64 6,blk z (bf ((K.toNat:Nat):Int) ((N.toNat:Nat):Int) ((O.toNat:Nat):Int) 0 0 0 0 0 0 0 0 0 0 0 0 false ([]) ([]) none 0 0 none 0 0 none 0 0) 29,blk L [.slice af G.af.ls.length W, .int .i64 G.ax] 120,blk ak [.int .i64 c.gM, .int .i64 c.jo, .slice E c.aJ.ls.length F] 50,row E c.aJ.ls.length F (List.flatMap (eI .i64) c.aJ.ls) 93 1,row R p.length S (List.flatMap eB p) 5 1,blk A (bf 0 0 0 0 0 0 0 0 0 0 0 0 0 0 0 false ([]) ([]) none 0 0 none 0 0 none 0 0) 29]:=eT.free (bP 64 6)
 have je:Own w D bW [sepL (List.flatMap ag.own ([])),row none 0 0 (List.flatMap aB.cells ([])) 64 6,blk z (bf ((K.toNat:Nat):Int) ((N.toNat:Nat):Int) ((O.toNat:Nat):Int) 0 0 0 0 0 0 0 0 0 0 0 0 false ([]) ([]) none 0 0 none 0 0 none 0 0) 29,blk L [.slice af G.af.ls.length W, .int .i64 G.ax] 120,blk ak [.int .i64 c.gM, .int .i64 c.jo, .slice E c.aJ.ls.length F] 50,row E c.aJ.ls.length F (List.flatMap (eI .i64) c.aJ.ls) 93 1,row R p.length S (List.flatMap eB p) 5 1,blk A (bf 0 0 0 0 0 0 0 0 0 0 0 0 0 0 0 false ([]) ([]) none 0 0 none 0 0 none 0 0) 29]:=jd.sepNil
 have jf:Own w D bW [row none 0 0 (List.flatMap ag.cells ([])) 84 3,sepL (List.flatMap ag.own ([])),row none 0 0 (List.flatMap aB.cells ([])) 64 6,blk z (bf ((K.toNat:Nat):Int) ((N.toNat:Nat):Int) ((O.toNat:Nat):Int) 0 0 0 0 0 0 0 0 0 0 0 0 false ([]) ([]) none 0 0 none 0 0 none 0 0) 29,blk L [.slice af G.af.ls.length W, .int .i64 G.ax] 120,blk ak [.int .i64 c.gM, .int .i64 c.jo, .slice E c.aJ.ls.length F] 50,row E c.aJ.ls.length F (List.flatMap (eI .i64) c.aJ.ls) 93 1,row R p.length S (List.flatMap eB p) 5 1,blk A (bf 0 0 0 0 0 0 0 0 0 0 0 0 0 0 0 false ([]) ([]) none 0 0 none 0 0 none 0 0) 29]:=je.free (bP 84 3)
 have jg:Own w D bW [row none 0 0 (List.flatMap aA.cells ([])) 88 2,row none 0 0 (List.flatMap ag.cells ([])) 84 3,sepL (List.flatMap ag.own ([])),row none 0 0 (List.flatMap aB.cells ([])) 64 6,blk z (bf ((K.toNat:Nat):Int) ((N.toNat:Nat):Int) ((O.toNat:Nat):Int) 0 0 0 0 0 0 0 0 0 0 0 0 false ([]) ([]) none 0 0 none 0 0 none 0 0) 29,blk L [.slice af G.af.ls.length W, .int .i64 G.ax] 120,blk ak [.int .i64 c.gM, .int .i64 c.jo, .slice E c.aJ.ls.length F] 50,row E c.aJ.ls.length F (List.flatMap (eI .i64) c.aJ.ls) 93 1,row R p.length S (List.flatMap eB p) 5 1,blk A (bf 0 0 0 0 0 0 0 0 0 0 0 0 0 0 0 false ([]) ([]) none 0 0 none 0 0 none 0 0) 29]:=jf.free (bP 88 2)
 have jh:=jg.pk [5,4,3,1,2,0,6,7,8,9]
 obtain⟨⟨aC,a⟩,aW⟩:∃ q:ReaderT × bG,kJ G (bG.mk ((K.toNat:Nat):Int) ((N.toNat:Nat):Int) ((O.toNat:Nat):Int) 0 0 0 0 0 0 0 0 0 0 0 0 false (bC.mk ([]) ([])) (Ll.mk ([])) (Ll.mk ([])) (Ll.mk ([]))) c.aJ.ls=q:=⟨_,rfl⟩
 obtain⟨mM,fP,lc,fQ,dI⟩:=Own.enter (L1:= [blk L [.slice af G.af.ls.length W, .int .i64 G.ax] 120,blk z (bf ((K.toNat:Nat):Int) ((N.toNat:Nat):Int) ((O.toNat:Nat):Int) 0 0 0 0 0 0 0 0 0 0 0 0 false ([]) ([]) none 0 0 none 0 0 none 0 0) 29,row none 0 0 (List.flatMap aB.cells ([])) 64 6,row none 0 0 (List.flatMap ag.cells ([])) 84 3,sepL (List.flatMap ag.own ([])),row none 0 0 (List.flatMap aA.cells ([])) 88 2]) (L2:= [blk ak [.int .i64 c.gM, .int .i64 c.jo, .slice E c.aJ.ls.length F] 50,row E c.aJ.ls.length F (List.flatMap (eI .i64) c.aJ.ls) 93 1,row R p.length S (List.flatMap eB p) 5 1,blk A (bf 0 0 0 0 0 0 0 0 0 0 0 0 0 0 0 false ([]) ([]) none 0 0 none 0 0 none 0 0) 29]) jh
 refine cl Tryz.call41 (oQ _ _ L G af W z (bG.mk ((K.toNat:Nat):Int) ((N.toNat:Nat):Int) ((O.toNat:Nat):Int) 0 0 0 0 0 0 0 0 0 0 0 0 false (bC.mk ([]) ([])) (Ll.mk ([])) (Ll.mk ([])) (Ll.mk ([]))) none 0 none 0 ([]) none 0 E c.aJ.ls.length F c.aJ.ls aC a fP (fun f d=>ah.rds av (by decide) Y ((fun f d=>ah.rds av (by decide) U ((fun f d=>ah.rds av (by decide) M ((fun f d=>ah.rds av (by decide) J ((dI _ 2 _ rfl bJ) f d)) f d)) f d)) f d)) (show G.af.ls.length≤W∧G.af.ls.length≤9223372036854775807 from by omega) rfl (dI _ 1 _ rfl bJ) rfl (by omega) (by first | omega | (dsimp only; omega) | (simp only [List.length_nil]; omega)) aW) ?_
 rintro _ mO ⟨dJ,bX,r,g,s,h,B,t,j,rfl,fT,aD,bO,dN⟩
 have bZ:=fQ _ _ fT
 replace aD:ah 1 af W G.af.ls dJ bX aC.af.ls:=aD
 have lg:=(aD).le
 have ll:=dM bO
 have lm:=bZ.rowC (i:=2) rfl
 have lq:=bZ.rowC (i:=3) rfl
 have lu:=bZ.rowC (i:=5) rfl
 replace dN:a.az.ls.length≤1000∧a.ai.ls.length≤1000∧a.aj.ls.length≤1000∧a.bF≤18446744073709551615∧a.aY≤18446744073709551615∧a.bE≤18446744073709551615∧a.bH≤18446744073709551615∧a.bL≤18446744073709551615∧a.aS≤18446744073709551615∧a.bB≤18446744073709551615∧a.aK≤18446744073709551615∧a.xN≤18446744073709551615:=dN
 refine nt (Wp.seq ?_)
 have ji:=bZ.pk [0,1,2,3,4,5,8,9]
 refine Wp.region (Mz rfl ?_)
 obtain⟨aK,aX⟩:∃ q,fJ aC=q:=⟨_,rfl⟩
 obtain⟨mP,fU,lv,fV,fZ⟩:=Own.enter1 ji
 refine cl Tryz.call42 (lJ _ _ L aC dJ bX aK fU (fun f d=>ah.rds av (by decide) aD ((fun f d=>ah.rds av (by decide) Y ((fun f d=>ah.rds av (by decide) U ((fun f d=>ah.rds av (by decide) M ((fun f d=>ah.rds av (by decide) J ((fZ _ 5 _ rfl bJ) f d)) f d)) f d)) f d)) f d)) (show aC.af.ls.length≤bX∧aC.af.ls.length≤9223372036854775807 from by omega) aX) ?_
 rintro _ mQ ⟨eU,dO,rfl,gm,aY⟩
 have jk:=fV _ _ gm
 replace aY:ah 1 dJ bX aC.af.ls eU dO aK.af.ls:=aY
 have lw:=(aY).le
 refine nt (Wp.seq (sr (Mz rfl ?_)))
 obtain⟨aL,aZ⟩:∃ q,fK aK=q:=⟨_,rfl⟩
 obtain⟨mR,gp,lC,gq,gu⟩:=Own.enter1 jk
 refine cl Tryz.call43 (lK _ _ L aK eU dO aL gp (fun f d=>ah.rds av (by decide) aY ((fun f d=>ah.rds av (by decide) aD ((fun f d=>ah.rds av (by decide) Y ((fun f d=>ah.rds av (by decide) U ((fun f d=>ah.rds av (by decide) M ((fun f d=>ah.rds av (by decide) J ((gu _ 5 _ rfl bJ) f d)) f d)) f d)) f d)) f d)) f d)) (show aK.af.ls.length≤dO∧aK.af.ls.length≤9223372036854775807 from by omega) aZ) ?_
 rintro _ mU ⟨rfl,gy⟩
 have jl:=gq _ _ gy
 refine An rfl (Wp.seq ?_)
 have cu:=jl.pk [1,2,3,4,5,7]
 refine Wp.region (Mz rfl (fw (.bool (decide (¬ (aL=0)))) (Yl.bool (e:= !(decide (aL=0))) yk decide_not.symm) (nt ?_)))
 by_cases bI:aL=0
 refine jF (dF (not_not_intro bI)) (sk (Wp.seq (sr (La (aV a r g s h t j) cu 0 Tryz.isAgg29 Tryz.sizeOf29 ?_))))
 obtain⟨aM,bQ⟩:∃ q,dH a=q:=⟨_,rfl⟩
 obtain⟨mV,gB,lD,gD,bg⟩:=Own.enter0 cu
 refine cl Tryz.call11 (mg _ _ a r a.az.ls.length g s a.ai.ls.length h B t a.aj.ls.length j aM gB rfl (bg _ 1 _ rfl bJ) (show a.az.ls.length≤g∧a.az.ls.length≤9223372036854775807 from by omega) bO rfl (bg _ 2 _ rfl bJ) (show a.ai.ls.length≤h∧a.ai.ls.length≤9223372036854775807 from by omega) (fun x9 d=>⟨bg _ 3 _ rfl (jq (List.mem_flatMap.2 ⟨x9,d, .head _⟩) bJ),nH (φ:=fun _=>_) cu (i:=3) rfl (jq (List.mem_flatMap.2 ⟨x9,d, .head _⟩) mG)⟩) rfl (bg _ 4 _ rfl bJ) (show a.aj.ls.length≤j∧a.aj.ls.length≤9223372036854775807 from by omega) (by first | omega | (dsimp only; omega) | (simp only [List.length_nil]; omega)) bQ) ?_
 rintro _ mW ⟨rfl,gF⟩
 have dP:=gD _ _ gF
 refine Ar rfl (Mz rfl (fw (.bool (decide (¬ (aM=0)))) (Yl.bool (e:= !(decide (aM=0))) yk decide_not.symm) (nt ?_)))
 by_cases cz:aM=0
 refine jF (dF (not_not_intro cz)) (sk (sr (La (aV a r g s h t j) dP 0 Tryz.isAgg29 Tryz.sizeOf29 ?_)))
 have jo:=dP.pk [5,0,1,2,3,4]
 refine bz (aV a r g s h t j) 0 jo Tryz.sizeOf29 ?_
 intro mX eX
 refine An rfl (rt (Fin.res (ib (vs:= [.agg (aV a r g s h t j).toArray, .int .i64 0]) rfl (bT.cell rfl (bu.agg (cs:=(aV a r g s h t j)) Tryz.isAgg29 Tryz.sizeOf29 ((eX.cls (i:=0) rfl).lit (k:=0) (m:=21) rfl)) (bT.tmp rfl bT.nil)) (Nat.le_of_ble_eq_true rfl)) ?_))
 have jr:=eX.pk [2,3,4,5]
 have e:ed l0=(a,0):=et (aa ae) (et (ip aQ) (et (aa au) (et (aa ax) (et (aa ay) (et (ip aR) (et (aa aS) (et (aa aU) (et (aa aW) (et (aa aX) (et (aa aZ) (et (ip bI) (et (aa bQ) (ip cz)))))))))))))
 obtain⟨rfl,rfl⟩:=dL (e.symm.trans hr)
 exact⟨r,g,s,h,t,j,B,rfl,jr,bO,(by first | omega | (dsimp only; omega) | (simp only [List.length_nil]; omega) | (refine⟨?_, ?_⟩ <;> (dsimp only; omega)))⟩
 refine jT (dT cz) (sr (Kz (.agg (bf 0 0 0 0 0 0 0 0 0 0 0 0 0 0 0 false ([]) ([]) none 0 0 none 0 0 none 0 0).toArray) (Mz rfl ?_)))
 have jv:=dP.pk [5,0,1,2,3,4]
 refine bz (bf 0 0 0 0 0 0 0 0 0 0 0 0 0 0 0 false ([]) ([]) none 0 0 none 0 0 none 0 0) 0 jv Tryz.sizeOf29 ?_
 intro cB eY
 refine An rfl (rt (tR (Fin.res (ib (vs:= [.agg (bf 0 0 0 0 0 0 0 0 0 0 0 0 0 0 0 false ([]) ([]) none 0 0 none 0 0 none 0 0).toArray, .int .i64 aM]) rfl (bT.cell rfl (bu.agg (cs:=(bf 0 0 0 0 0 0 0 0 0 0 0 0 0 0 0 false ([]) ([]) none 0 0 none 0 0 none 0 0)) Tryz.isAgg29 Tryz.sizeOf29 ((eY.cls (i:=0) rfl).lit (k:=0) (m:=21) rfl)) (bT.tmp rfl bT.nil)) (Nat.le_of_ble_eq_true rfl)) ?_)))
 have jw:Own w D cB [row none 0 0 (List.flatMap aB.cells ([])) 64 6,blk A (bf 0 0 0 0 0 0 0 0 0 0 0 0 0 0 0 false ([]) ([]) none 0 0 none 0 0 none 0 0) 29,blk z (aV a r g s h t j) 29,row r a.az.ls.length g (List.flatMap aB.cells a.az.ls) 64 6,row s a.ai.ls.length h (List.flatMap ag.cells B) 84 3,sepL (List.flatMap ag.own B),row t a.aj.ls.length j (List.flatMap aA.cells a.aj.ls) 88 2]:=eY.free (bP 64 6)
 have jy:Own w D cB [sepL (List.flatMap ag.own ([])),row none 0 0 (List.flatMap aB.cells ([])) 64 6,blk A (bf 0 0 0 0 0 0 0 0 0 0 0 0 0 0 0 false ([]) ([]) none 0 0 none 0 0 none 0 0) 29,blk z (aV a r g s h t j) 29,row r a.az.ls.length g (List.flatMap aB.cells a.az.ls) 64 6,row s a.ai.ls.length h (List.flatMap ag.cells B) 84 3,sepL (List.flatMap ag.own B),row t a.aj.ls.length j (List.flatMap aA.cells a.aj.ls) 88 2]:=jw.sepNil
 have jA:Own w D cB [row none 0 0 (List.flatMap ag.cells ([])) 84 3,sepL (List.flatMap ag.own ([])),row none 0 0 (List.flatMap aB.cells ([])) 64 6,blk A (bf 0 0 0 0 0 0 0 0 0 0 0 0 0 0 0 false ([]) ([]) none 0 0 none 0 0 none 0 0) 29,blk z (aV a r g s h t j) 29,row r a.az.ls.length g (List.flatMap aB.cells a.az.ls) 64 6,row s a.ai.ls.length h (List.flatMap ag.cells B) 84 3,sepL (List.flatMap ag.own B),row t a.aj.ls.length j (List.flatMap aA.cells a.aj.ls) 88 2]:=jy.free (bP 84 3)
 have jB:Own w D cB [row none 0 0 (List.flatMap aA.cells ([])) 88 2,row none 0 0 (List.flatMap ag.cells ([])) 84 3,sepL (List.flatMap ag.own ([])),row none 0 0 (List.flatMap aB.cells ([])) 64 6,blk A (bf 0 0 0 0 0 0 0 0 0 0 0 0 0 0 0 false ([]) ([]) none 0 0 none 0 0 none 0 0) 29,blk z (aV a r g s h t j) 29,row r a.az.ls.length g (List.flatMap aB.cells a.az.ls) 64 6,row s a.ai.ls.length h (List.flatMap ag.cells B) 84 3,sepL (List.flatMap ag.own B),row t a.aj.ls.length j (List.flatMap aA.cells a.aj.ls) 88 2]:=jA.free (bP 88 2)
 have jC:=jB.pk [3,1,2,0]
 have e:ed l0=(bG.mk 0 0 0 0 0 0 0 0 0 0 0 0 0 0 0 false (bC.mk ([]) ([])) (Ll.mk ([])) (Ll.mk ([])) (Ll.mk ([])),aM):=et (aa ae) (et (ip aQ) (et (aa au) (et (aa ax) (et (aa ay) (et (ip aR) (et (aa aS) (et (aa aU) (et (aa aW) (et (aa aX) (et (aa aZ) (et (ip bI) (et (aa bQ) (iN cz)))))))))))))
 obtain⟨rfl,rfl⟩:=dL (e.symm.trans hr)
 exact⟨none,0,none,0,none,0, [],rfl,jC,rfl,(by first | omega | (dsimp only; omega) | (simp only [List.length_nil]; omega) | (refine⟨?_, ?_⟩ <;> (dsimp only; omega)))⟩
 refine jT (dT bI) (sr (Kz (.agg (bf 0 0 0 0 0 0 0 0 0 0 0 0 0 0 0 false ([]) ([]) none 0 0 none 0 0 none 0 0).toArray) (Mz rfl ?_)))
 have jD:=cu.pk [5,0,1,2,3,4]
 refine bz (bf 0 0 0 0 0 0 0 0 0 0 0 0 0 0 0 false ([]) ([]) none 0 0 none 0 0 none 0 0) 0 jD Tryz.sizeOf29 ?_
 intro cO eZ
 refine An rfl (rt (tR (Fin.res (ib (vs:= [.agg (bf 0 0 0 0 0 0 0 0 0 0 0 0 0 0 0 false ([]) ([]) none 0 0 none 0 0 none 0 0).toArray, .int .i64 aL]) rfl (bT.cell rfl (bu.agg (cs:=(bf 0 0 0 0 0 0 0 0 0 0 0 0 0 0 0 false ([]) ([]) none 0 0 none 0 0 none 0 0)) Tryz.isAgg29 Tryz.sizeOf29 ((eZ.cls (i:=0) rfl).lit (k:=0) (m:=21) rfl)) (bT.tmp rfl bT.nil)) (Nat.le_of_ble_eq_true rfl)) ?_)))
 have jE:Own w D cO [row none 0 0 (List.flatMap aB.cells ([])) 64 6,blk A (bf 0 0 0 0 0 0 0 0 0 0 0 0 0 0 0 false ([]) ([]) none 0 0 none 0 0 none 0 0) 29,blk z (aV a r g s h t j) 29,row r a.az.ls.length g (List.flatMap aB.cells a.az.ls) 64 6,row s a.ai.ls.length h (List.flatMap ag.cells B) 84 3,sepL (List.flatMap ag.own B),row t a.aj.ls.length j (List.flatMap aA.cells a.aj.ls) 88 2]:=eZ.free (bP 64 6)
 have jG:Own w D cO [sepL (List.flatMap ag.own ([])),row none 0 0 (List.flatMap aB.cells ([])) 64 6,blk A (bf 0 0 0 0 0 0 0 0 0 0 0 0 0 0 0 false ([]) ([]) none 0 0 none 0 0 none 0 0) 29,blk z (aV a r g s h t j) 29,row r a.az.ls.length g (List.flatMap aB.cells a.az.ls) 64 6,row s a.ai.ls.length h (List.flatMap ag.cells B) 84 3,sepL (List.flatMap ag.own B),row t a.aj.ls.length j (List.flatMap aA.cells a.aj.ls) 88 2]:=jE.sepNil
 have jH:Own w D cO [row none 0 0 (List.flatMap ag.cells ([])) 84 3,sepL (List.flatMap ag.own ([])),row none 0 0 (List.flatMap aB.cells ([])) 64 6,blk A (bf 0 0 0 0 0 0 0 0 0 0 0 0 0 0 0 false ([]) ([]) none 0 0 none 0 0 none 0 0) 29,blk z (aV a r g s h t j) 29,row r a.az.ls.length g (List.flatMap aB.cells a.az.ls) 64 6,row s a.ai.ls.length h (List.flatMap ag.cells B) 84 3,sepL (List.flatMap ag.own B),row t a.aj.ls.length j (List.flatMap aA.cells a.aj.ls) 88 2]:=jG.free (bP 84 3)
 have jI:Own w D cO [row none 0 0 (List.flatMap aA.cells ([])) 88 2,row none 0 0 (List.flatMap ag.cells ([])) 84 3,sepL (List.flatMap ag.own ([])),row none 0 0 (List.flatMap aB.cells ([])) 64 6,blk A (bf 0 0 0 0 0 0 0 0 0 0 0 0 0 0 0 false ([]) ([]) none 0 0 none 0 0 none 0 0) 29,blk z (aV a r g s h t j) 29,row r a.az.ls.length g (List.flatMap aB.cells a.az.ls) 64 6,row s a.ai.ls.length h (List.flatMap ag.cells B) 84 3,sepL (List.flatMap ag.own B),row t a.aj.ls.length j (List.flatMap aA.cells a.aj.ls) 88 2]:=jH.free (bP 88 2)
 have jJ:=jI.pk [3,1,2,0]
 have e:ed l0=(bG.mk 0 0 0 0 0 0 0 0 0 0 0 0 0 0 0 false (bC.mk ([]) ([])) (Ll.mk ([])) (Ll.mk ([])) (Ll.mk ([])),aL):=et (aa ae) (et (ip aQ) (et (aa au) (et (aa ax) (et (aa ay) (et (ip aR) (et (aa aS) (et (aa aU) (et (aa aW) (et (aa aX) (et (aa aZ) (iN bI)))))))))))
 obtain⟨rfl,rfl⟩:=dL (e.symm.trans hr)
 exact⟨none,0,none,0,none,0, [],rfl,jJ,rfl,(by first | omega | (dsimp only; omega) | (simp only [List.length_nil]; omega) | (refine⟨?_, ?_⟩ <;> (dsimp only; omega)))⟩
 refine jT (cn aR) (Wp.region (Mz rfl ?_))
 have jK:=iY.pk [3,0,1,2,4,5]
 obtain⟨aF,bi⟩:∃ q,bU aj 11=q:=⟨_,rfl⟩
 obtain⟨mY,gG,lF,gH,gI⟩:=Own.enter1 jK
 refine cl Tryz.call40 (gz _ _ L aj dE bN 11 aF gG (fun f d=>ah.rds av (by decide) M ((fun f d=>ah.rds av (by decide) J ((gI _ 3 _ rfl bJ) f d)) f d)) (show aj.af.ls.length≤bN∧aj.af.ls.length≤9223372036854775807 from by omega) bi) ?_
 rintro _ mZ ⟨dQ,cZ,rfl,gJ,T⟩
 have jL:=gH _ _ gJ
 replace T:ah 1 dE bN aj.af.ls dQ cZ aF.af.ls:=T
 have lG:=(T).le
 refine ns (Mz rfl ?_)
 obtain⟨⟨P,aG⟩,bn⟩:∃ q:UInt8 × ReaderT,aT aF=q:=⟨_,rfl⟩
 obtain⟨ng,gK,lH,gL,gM⟩:=Own.enter1 jL
 refine cl Tryz.call39 (dW _ _ L aF dQ cZ P aG gK (fun f d=>ah.rds av (by decide) T ((fun f d=>ah.rds av (by decide) M ((fun f d=>ah.rds av (by decide) J ((gM _ 3 _ rfl bJ) f d)) f d)) f d)) (show aF.af.ls.length≤cZ∧aF.af.ls.length≤9223372036854775807 from by omega) bn) ?_
 rintro _ ni ⟨dR,df,rfl,gN,V⟩
 have jM:=gL _ _ gN
 replace V:ah 1 dQ cZ aF.af.ls dR df aG.af.ls:=V
 have lI:=(V).le
 have lL:P.toNat≤255:=Nat.le_of_lt_succ (UInt8.toNat_lt _)
 refine fw (.int .i64 ((P.toNat:Nat):Int)) (Yl.int (e:=IntKind.i64.wrap ((P.toNat:Nat):Int)) yk (IntWalk.i64_in _ (by omega))) (Mz rfl ?_)
 obtain⟨⟨Q,I⟩,bq⟩:∃ q:UInt8 × ReaderT,aT aG=q:=⟨_,rfl⟩
 obtain⟨nk,gP,lM,gQ,gU⟩:=Own.enter1 jM
 refine cl Tryz.call39 (dW _ _ L aG dR df Q I gP (fun f d=>ah.rds av (by decide) V ((fun f d=>ah.rds av (by decide) T ((fun f d=>ah.rds av (by decide) M ((fun f d=>ah.rds av (by decide) J ((gU _ 3 _ rfl bJ) f d)) f d)) f d)) f d)) (show aG.af.ls.length≤df∧aG.af.ls.length≤9223372036854775807 from by omega) bq) ?_
 rintro _ nu ⟨ai,X,rfl,gV,Z⟩
 have jN:=gQ _ _ gV
 replace Z:ah 1 dR df aG.af.ls ai X I.af.ls:=Z
 have lN:=(Z).le
 have lQ:Q.toNat≤255:=Nat.le_of_lt_succ (UInt8.toNat_lt _)
 refine fw (.int .i64 ((Q.toNat:Nat):Int)) (Yl.int (e:=IntKind.i64.wrap ((Q.toNat:Nat):Int)) yk (IntWalk.i64_in _ (by omega))) (Kz (.pointer (some ⟨z,1,none⟩)) ?_)
 have jO:=jN.pk [3,0,1,2,4,5]
 refine bz [.int .i64 ((P.toNat:Nat):Int)] 1 jO Tryz.sizeOf3 ?_
 intro ny jP
 refine Kz (.pointer (some ⟨z,2,none⟩)) ?_
 refine bz [.int .i64 ((Q.toNat:Nat):Int)] 2 jP Tryz.sizeOf3 ?_
 intro dh fe
 refine ns (Mz rfl (Kz (.pointer (some ⟨ak,2,none⟩)) (Lz (.slice E c.aJ.ls.length F) fe 2 Tryz.isAgg48 ?_)))
 have jQ:Own w D dh [row none 0 0 (List.flatMap aB.cells ([])) 64 6,blk z (bf ((K.toNat:Nat):Int) ((P.toNat:Nat):Int) ((Q.toNat:Nat):Int) 0 0 0 0 0 0 0 0 0 0 0 0 false ([]) ([]) none 0 0 none 0 0 none 0 0) 29,blk L [.slice ai I.af.ls.length X, .int .i64 I.ax] 120,blk ak [.int .i64 c.gM, .int .i64 c.jo, .slice E c.aJ.ls.length F] 50,row E c.aJ.ls.length F (List.flatMap (eI .i64) c.aJ.ls) 93 1,row R p.length S (List.flatMap eB p) 5 1,blk A (bf 0 0 0 0 0 0 0 0 0 0 0 0 0 0 0 false ([]) ([]) none 0 0 none 0 0 none 0 0) 29]:=fe.free (bP 64 6)
 have jR:Own w D dh [sepL (List.flatMap ag.own ([])),row none 0 0 (List.flatMap aB.cells ([])) 64 6,blk z (bf ((K.toNat:Nat):Int) ((P.toNat:Nat):Int) ((Q.toNat:Nat):Int) 0 0 0 0 0 0 0 0 0 0 0 0 false ([]) ([]) none 0 0 none 0 0 none 0 0) 29,blk L [.slice ai I.af.ls.length X, .int .i64 I.ax] 120,blk ak [.int .i64 c.gM, .int .i64 c.jo, .slice E c.aJ.ls.length F] 50,row E c.aJ.ls.length F (List.flatMap (eI .i64) c.aJ.ls) 93 1,row R p.length S (List.flatMap eB p) 5 1,blk A (bf 0 0 0 0 0 0 0 0 0 0 0 0 0 0 0 false ([]) ([]) none 0 0 none 0 0 none 0 0) 29]:=jQ.sepNil
 have jS:Own w D dh [row none 0 0 (List.flatMap ag.cells ([])) 84 3,sepL (List.flatMap ag.own ([])),row none 0 0 (List.flatMap aB.cells ([])) 64 6,blk z (bf ((K.toNat:Nat):Int) ((P.toNat:Nat):Int) ((Q.toNat:Nat):Int) 0 0 0 0 0 0 0 0 0 0 0 0 false ([]) ([]) none 0 0 none 0 0 none 0 0) 29,blk L [.slice ai I.af.ls.length X, .int .i64 I.ax] 120,blk ak [.int .i64 c.gM, .int .i64 c.jo, .slice E c.aJ.ls.length F] 50,row E c.aJ.ls.length F (List.flatMap (eI .i64) c.aJ.ls) 93 1,row R p.length S (List.flatMap eB p) 5 1,blk A (bf 0 0 0 0 0 0 0 0 0 0 0 0 0 0 0 false ([]) ([]) none 0 0 none 0 0 none 0 0) 29]:=jR.free (bP 84 3)
 have jU:Own w D dh [row none 0 0 (List.flatMap aA.cells ([])) 88 2,row none 0 0 (List.flatMap ag.cells ([])) 84 3,sepL (List.flatMap ag.own ([])),row none 0 0 (List.flatMap aB.cells ([])) 64 6,blk z (bf ((K.toNat:Nat):Int) ((P.toNat:Nat):Int) ((Q.toNat:Nat):Int) 0 0 0 0 0 0 0 0 0 0 0 0 false ([]) ([]) none 0 0 none 0 0 none 0 0) 29,blk L [.slice ai I.af.ls.length X, .int .i64 I.ax] 120,blk ak [.int .i64 c.gM, .int .i64 c.jo, .slice E c.aJ.ls.length F] 50,row E c.aJ.ls.length F (List.flatMap (eI .i64) c.aJ.ls) 93 1,row R p.length S (List.flatMap eB p) 5 1,blk A (bf 0 0 0 0 0 0 0 0 0 0 0 0 0 0 0 false ([]) ([]) none 0 0 none 0 0 none 0 0) 29]:=jS.free (bP 88 2)
 have jV:=jU.pk [5,4,3,1,2,0,6,7,8,9]
 obtain⟨⟨aH,b⟩,bv⟩:∃ q:ReaderT × bG,kJ I (bG.mk ((K.toNat:Nat):Int) ((P.toNat:Nat):Int) ((Q.toNat:Nat):Int) 0 0 0 0 0 0 0 0 0 0 0 0 false (bC.mk ([]) ([])) (Ll.mk ([])) (Ll.mk ([])) (Ll.mk ([]))) c.aJ.ls=q:=⟨_,rfl⟩
 obtain⟨nz,gW,lS,gX,dS⟩:=Own.enter (L1:= [blk L [.slice ai I.af.ls.length X, .int .i64 I.ax] 120,blk z (bf ((K.toNat:Nat):Int) ((P.toNat:Nat):Int) ((Q.toNat:Nat):Int) 0 0 0 0 0 0 0 0 0 0 0 0 false ([]) ([]) none 0 0 none 0 0 none 0 0) 29,row none 0 0 (List.flatMap aB.cells ([])) 64 6,row none 0 0 (List.flatMap ag.cells ([])) 84 3,sepL (List.flatMap ag.own ([])),row none 0 0 (List.flatMap aA.cells ([])) 88 2]) (L2:= [blk ak [.int .i64 c.gM, .int .i64 c.jo, .slice E c.aJ.ls.length F] 50,row E c.aJ.ls.length F (List.flatMap (eI .i64) c.aJ.ls) 93 1,row R p.length S (List.flatMap eB p) 5 1,blk A (bf 0 0 0 0 0 0 0 0 0 0 0 0 0 0 0 false ([]) ([]) none 0 0 none 0 0 none 0 0) 29]) jV
 refine cl Tryz.call41 (oQ _ _ L I ai X z (bG.mk ((K.toNat:Nat):Int) ((P.toNat:Nat):Int) ((Q.toNat:Nat):Int) 0 0 0 0 0 0 0 0 0 0 0 0 false (bC.mk ([]) ([])) (Ll.mk ([])) (Ll.mk ([])) (Ll.mk ([]))) none 0 none 0 ([]) none 0 E c.aJ.ls.length F c.aJ.ls aH b gW (fun f d=>ah.rds av (by decide) Z ((fun f d=>ah.rds av (by decide) V ((fun f d=>ah.rds av (by decide) T ((fun f d=>ah.rds av (by decide) M ((fun f d=>ah.rds av (by decide) J ((dS _ 2 _ rfl bJ) f d)) f d)) f d)) f d)) f d)) (show I.af.ls.length≤X∧I.af.ls.length≤9223372036854775807 from by omega) rfl (dS _ 1 _ rfl bJ) rfl (by omega) (by first | omega | (dsimp only; omega) | (simp only [List.length_nil]; omega)) bv) ?_
 rintro _ nA ⟨dU,di,u,l,x,n,C,y,o,rfl,gY,aI,bR,dV⟩
 have dm:=gX _ _ gY
 replace aI:ah 1 ai X I.af.ls dU di aH.af.ls:=aI
 have lT:=(aI).le
 have lU:=dM bR
 have lV:=dm.rowC (i:=2) rfl
 have lW:=dm.rowC (i:=3) rfl
 have lX:=dm.rowC (i:=5) rfl
 replace dV:b.az.ls.length≤1000∧b.ai.ls.length≤1000∧b.aj.ls.length≤1000∧b.bF≤18446744073709551615∧b.aY≤18446744073709551615∧b.bE≤18446744073709551615∧b.bH≤18446744073709551615∧b.bL≤18446744073709551615∧b.aS≤18446744073709551615∧b.bB≤18446744073709551615∧b.aK≤18446744073709551615∧b.xN≤18446744073709551615:=dV
 refine nt (Wp.seq ?_)
 have jW:=dm.pk [0,1,2,3,4,5,8,9]
 refine Wp.region (Mz rfl ?_)
 obtain⟨aN,bA⟩:∃ q,fJ aH=q:=⟨_,rfl⟩
 obtain⟨nC,gZ,lY,ic,ig⟩:=Own.enter1 jW
 refine cl Tryz.call42 (lJ _ _ L aH dU di aN gZ (fun f d=>ah.rds av (by decide) aI ((fun f d=>ah.rds av (by decide) Z ((fun f d=>ah.rds av (by decide) V ((fun f d=>ah.rds av (by decide) T ((fun f d=>ah.rds av (by decide) M ((fun f d=>ah.rds av (by decide) J ((ig _ 5 _ rfl bJ) f d)) f d)) f d)) f d)) f d)) f d)) (show aH.af.ls.length≤di∧aH.af.ls.length≤9223372036854775807 from by omega) bA) ?_
 rintro _ nD ⟨fo,dX,rfl,ik,bB⟩
 have jX:=ic _ _ ik
 replace bB:ah 1 dU di aH.af.ls fo dX aN.af.ls:=bB
 have lZ:=(bB).le
 refine nt (Wp.seq (sr (Mz rfl ?_)))
 obtain⟨aO,bE⟩:∃ q,fK aN=q:=⟨_,rfl⟩
 obtain⟨nE,il,l5,iq,iw⟩:=Own.enter1 jX
 refine cl Tryz.call43 (lK _ _ L aN fo dX aO il (fun f d=>ah.rds av (by decide) bB ((fun f d=>ah.rds av (by decide) aI ((fun f d=>ah.rds av (by decide) Z ((fun f d=>ah.rds av (by decide) V ((fun f d=>ah.rds av (by decide) T ((fun f d=>ah.rds av (by decide) M ((fun f d=>ah.rds av (by decide) J ((iw _ 5 _ rfl bJ) f d)) f d)) f d)) f d)) f d)) f d)) f d)) (show aN.af.ls.length≤dX∧aN.af.ls.length≤9223372036854775807 from by omega) bE) ?_
 rintro _ nG ⟨rfl,iy⟩
 have jY:=iq _ _ iy
 refine An rfl (Wp.seq ?_)
 have dw:=jY.pk [1,2,3,4,5,7]
 refine Wp.region (Mz rfl (fw (.bool (decide (¬ (aO=0)))) (Yl.bool (e:= !(decide (aO=0))) yk decide_not.symm) (nt ?_)))
 by_cases bK:aO=0
 refine jF (dF (not_not_intro bK)) (sk (Wp.seq (sr (La (aV b u l x n y o) dw 0 Tryz.isAgg29 Tryz.sizeOf29 ?_))))
 obtain⟨aP,bS⟩:∃ q,dH b=q:=⟨_,rfl⟩
 obtain⟨nI,iA,l6,iB,bF⟩:=Own.enter0 dw
 refine cl Tryz.call11 (mg _ _ b u b.az.ls.length l x b.ai.ls.length n C y b.aj.ls.length o aP iA rfl (bF _ 1 _ rfl bJ) (show b.az.ls.length≤l∧b.az.ls.length≤9223372036854775807 from by omega) bR rfl (bF _ 2 _ rfl bJ) (show b.ai.ls.length≤n∧b.ai.ls.length≤9223372036854775807 from by omega) (fun x9 d=>⟨bF _ 3 _ rfl (jq (List.mem_flatMap.2 ⟨x9,d, .head _⟩) bJ),nH (φ:=fun _=>_) dw (i:=3) rfl (jq (List.mem_flatMap.2 ⟨x9,d, .head _⟩) mG)⟩) rfl (bF _ 4 _ rfl bJ) (show b.aj.ls.length≤o∧b.aj.ls.length≤9223372036854775807 from by omega) (by first | omega | (dsimp only; omega) | (simp only [List.length_nil]; omega)) bS) ?_
 rintro _ nJ ⟨rfl,iC⟩
 have dY:=iB _ _ iC
 refine Ar rfl (Mz rfl (fw (.bool (decide (¬ (aP=0)))) (Yl.bool (e:= !(decide (aP=0))) yk decide_not.symm) (nt ?_)))
 by_cases dx:aP=0
 refine jF (dF (not_not_intro dx)) (sk (sr (La (aV b u l x n y o) dY 0 Tryz.isAgg29 Tryz.sizeOf29 ?_)))
 have j3:=dY.pk [5,0,1,2,3,4]
 refine bz (aV b u l x n y o) 0 j3 Tryz.sizeOf29 ?_
 intro nK fq
 refine An rfl (rt (Fin.res (ib (vs:= [.agg (aV b u l x n y o).toArray, .int .i64 0]) rfl (bT.cell rfl (bu.agg (cs:=(aV b u l x n y o)) Tryz.isAgg29 Tryz.sizeOf29 ((fq.cls (i:=0) rfl).lit (k:=0) (m:=21) rfl)) (bT.tmp rfl bT.nil)) (Nat.le_of_ble_eq_true rfl)) ?_))
 have j4:=fq.pk [2,3,4,5]
 have e:ed l0=(b,0):=et (aa ae) (et (ip aQ) (et (aa au) (et (aa ax) (et (aa ay) (et (dn aR) (et (aa bi) (et (aa bn) (et (aa bq) (et (aa bv) (et (aa bA) (et (aa bE) (et (ip bK) (et (aa bS) (ip dx))))))))))))))
 obtain⟨rfl,rfl⟩:=dL (e.symm.trans hr)
 exact⟨u,l,x,n,y,o,C,rfl,j4,bR,(by first | omega | (dsimp only; omega) | (simp only [List.length_nil]; omega) | (refine⟨?_, ?_⟩ <;> (dsimp only; omega)))⟩
 refine jT (dT dx) (sr (Kz (.agg (bf 0 0 0 0 0 0 0 0 0 0 0 0 0 0 0 false ([]) ([]) none 0 0 none 0 0 none 0 0).toArray) (Mz rfl ?_)))
 have j5:=dY.pk [5,0,1,2,3,4]
 refine bz (bf 0 0 0 0 0 0 0 0 0 0 0 0 0 0 0 false ([]) ([]) none 0 0 none 0 0 none 0 0) 0 j5 Tryz.sizeOf29 ?_
 intro dz fu
 refine An rfl (rt (tR (Fin.res (ib (vs:= [.agg (bf 0 0 0 0 0 0 0 0 0 0 0 0 0 0 0 false ([]) ([]) none 0 0 none 0 0 none 0 0).toArray, .int .i64 aP]) rfl (bT.cell rfl (bu.agg (cs:=(bf 0 0 0 0 0 0 0 0 0 0 0 0 0 0 0 false ([]) ([]) none 0 0 none 0 0 none 0 0)) Tryz.isAgg29 Tryz.sizeOf29 ((fu.cls (i:=0) rfl).lit (k:=0) (m:=21) rfl)) (bT.tmp rfl bT.nil)) (Nat.le_of_ble_eq_true rfl)) ?_)))
 have j6:Own w D dz [row none 0 0 (List.flatMap aB.cells ([])) 64 6,blk A (bf 0 0 0 0 0 0 0 0 0 0 0 0 0 0 0 false ([]) ([]) none 0 0 none 0 0 none 0 0) 29,blk z (aV b u l x n y o) 29,row u b.az.ls.length l (List.flatMap aB.cells b.az.ls) 64 6,row x b.ai.ls.length n (List.flatMap ag.cells C) 84 3,sepL (List.flatMap ag.own C),row y b.aj.ls.length o (List.flatMap aA.cells b.aj.ls) 88 2]:=fu.free (bP 64 6)
 have kg:Own w D dz [sepL (List.flatMap ag.own ([])),row none 0 0 (List.flatMap aB.cells ([])) 64 6,blk A (bf 0 0 0 0 0 0 0 0 0 0 0 0 0 0 0 false ([]) ([]) none 0 0 none 0 0 none 0 0) 29,blk z (aV b u l x n y o) 29,row u b.az.ls.length l (List.flatMap aB.cells b.az.ls) 64 6,row x b.ai.ls.length n (List.flatMap ag.cells C) 84 3,sepL (List.flatMap ag.own C),row y b.aj.ls.length o (List.flatMap aA.cells b.aj.ls) 88 2]:=j6.sepNil
 have ko:Own w D dz [row none 0 0 (List.flatMap ag.cells ([])) 84 3,sepL (List.flatMap ag.own ([])),row none 0 0 (List.flatMap aB.cells ([])) 64 6,blk A (bf 0 0 0 0 0 0 0 0 0 0 0 0 0 0 0 false ([]) ([]) none 0 0 none 0 0 none 0 0) 29,blk z (aV b u l x n y o) 29,row u b.az.ls.length l (List.flatMap aB.cells b.az.ls) 64 6,row x b.ai.ls.length n (List.flatMap ag.cells C) 84 3,sepL (List.flatMap ag.own C),row y b.aj.ls.length o (List.flatMap aA.cells b.aj.ls) 88 2]:=kg.free (bP 84 3)
 have kr:Own w D dz [row none 0 0 (List.flatMap aA.cells ([])) 88 2,row none 0 0 (List.flatMap ag.cells ([])) 84 3,sepL (List.flatMap ag.own ([])),row none 0 0 (List.flatMap aB.cells ([])) 64 6,blk A (bf 0 0 0 0 0 0 0 0 0 0 0 0 0 0 0 false ([]) ([]) none 0 0 none 0 0 none 0 0) 29,blk z (aV b u l x n y o) 29,row u b.az.ls.length l (List.flatMap aB.cells b.az.ls) 64 6,row x b.ai.ls.length n (List.flatMap ag.cells C) 84 3,sepL (List.flatMap ag.own C),row y b.aj.ls.length o (List.flatMap aA.cells b.aj.ls) 88 2]:=ko.free (bP 88 2)
 have ku:=kr.pk [3,1,2,0]
 have e:ed l0=(bG.mk 0 0 0 0 0 0 0 0 0 0 0 0 0 0 0 false (bC.mk ([]) ([])) (Ll.mk ([])) (Ll.mk ([])) (Ll.mk ([])),aP):=et (aa ae) (et (ip aQ) (et (aa au) (et (aa ax) (et (aa ay) (et (dn aR) (et (aa bi) (et (aa bn) (et (aa bq) (et (aa bv) (et (aa bA) (et (aa bE) (et (ip bK) (et (aa bS) (iN dx))))))))))))))
 obtain⟨rfl,rfl⟩:=dL (e.symm.trans hr)
 exact⟨none,0,none,0,none,0, [],rfl,ku,rfl,(by first | omega | (dsimp only; omega) | (simp only [List.length_nil]; omega) | (refine⟨?_, ?_⟩ <;> (dsimp only; omega)))⟩
 refine jT (dT bK) (sr (Kz (.agg (bf 0 0 0 0 0 0 0 0 0 0 0 0 0 0 0 false ([]) ([]) none 0 0 none 0 0 none 0 0).toArray) (Mz rfl ?_)))
 have kv:=dw.pk [5,0,1,2,3,4]
 refine bz (bf 0 0 0 0 0 0 0 0 0 0 0 0 0 0 0 false ([]) ([]) none 0 0 none 0 0 none 0 0) 0 kv Tryz.sizeOf29 ?_
 intro dA fA
 refine An rfl (rt (tR (Fin.res (ib (vs:= [.agg (bf 0 0 0 0 0 0 0 0 0 0 0 0 0 0 0 false ([]) ([]) none 0 0 none 0 0 none 0 0).toArray, .int .i64 aO]) rfl (bT.cell rfl (bu.agg (cs:=(bf 0 0 0 0 0 0 0 0 0 0 0 0 0 0 0 false ([]) ([]) none 0 0 none 0 0 none 0 0)) Tryz.isAgg29 Tryz.sizeOf29 ((fA.cls (i:=0) rfl).lit (k:=0) (m:=21) rfl)) (bT.tmp rfl bT.nil)) (Nat.le_of_ble_eq_true rfl)) ?_)))
 have kw:Own w D dA [row none 0 0 (List.flatMap aB.cells ([])) 64 6,blk A (bf 0 0 0 0 0 0 0 0 0 0 0 0 0 0 0 false ([]) ([]) none 0 0 none 0 0 none 0 0) 29,blk z (aV b u l x n y o) 29,row u b.az.ls.length l (List.flatMap aB.cells b.az.ls) 64 6,row x b.ai.ls.length n (List.flatMap ag.cells C) 84 3,sepL (List.flatMap ag.own C),row y b.aj.ls.length o (List.flatMap aA.cells b.aj.ls) 88 2]:=fA.free (bP 64 6)
 have ky:Own w D dA [sepL (List.flatMap ag.own ([])),row none 0 0 (List.flatMap aB.cells ([])) 64 6,blk A (bf 0 0 0 0 0 0 0 0 0 0 0 0 0 0 0 false ([]) ([]) none 0 0 none 0 0 none 0 0) 29,blk z (aV b u l x n y o) 29,row u b.az.ls.length l (List.flatMap aB.cells b.az.ls) 64 6,row x b.ai.ls.length n (List.flatMap ag.cells C) 84 3,sepL (List.flatMap ag.own C),row y b.aj.ls.length o (List.flatMap aA.cells b.aj.ls) 88 2]:=kw.sepNil
 have kz:Own w D dA [row none 0 0 (List.flatMap ag.cells ([])) 84 3,sepL (List.flatMap ag.own ([])),row none 0 0 (List.flatMap aB.cells ([])) 64 6,blk A (bf 0 0 0 0 0 0 0 0 0 0 0 0 0 0 0 false ([]) ([]) none 0 0 none 0 0 none 0 0) 29,blk z (aV b u l x n y o) 29,row u b.az.ls.length l (List.flatMap aB.cells b.az.ls) 64 6,row x b.ai.ls.length n (List.flatMap ag.cells C) 84 3,sepL (List.flatMap ag.own C),row y b.aj.ls.length o (List.flatMap aA.cells b.aj.ls) 88 2]:=ky.free (bP 84 3)
 have kC:Own w D dA [row none 0 0 (List.flatMap aA.cells ([])) 88 2,row none 0 0 (List.flatMap ag.cells ([])) 84 3,sepL (List.flatMap ag.own ([])),row none 0 0 (List.flatMap aB.cells ([])) 64 6,blk A (bf 0 0 0 0 0 0 0 0 0 0 0 0 0 0 0 false ([]) ([]) none 0 0 none 0 0 none 0 0) 29,blk z (aV b u l x n y o) 29,row u b.az.ls.length l (List.flatMap aB.cells b.az.ls) 64 6,row x b.ai.ls.length n (List.flatMap ag.cells C) 84 3,sepL (List.flatMap ag.own C),row y b.aj.ls.length o (List.flatMap aA.cells b.aj.ls) 88 2]:=kz.free (bP 88 2)
 have kD:=kC.pk [3,1,2,0]
 have e:ed l0=(bG.mk 0 0 0 0 0 0 0 0 0 0 0 0 0 0 0 false (bC.mk ([]) ([])) (Ll.mk ([])) (Ll.mk ([])) (Ll.mk ([])),aO):=et (aa ae) (et (ip aQ) (et (aa au) (et (aa ax) (et (aa ay) (et (dn aR) (et (aa bi) (et (aa bn) (et (aa bq) (et (aa bv) (et (aa bA) (et (aa bE) (iN bK))))))))))))
 obtain⟨rfl,rfl⟩:=dL (e.symm.trans hr)
 exact⟨none,0,none,0,none,0, [],rfl,kD,rfl,(by first | omega | (dsimp only; omega) | (simp only [List.length_nil]; omega) | (refine⟨?_, ?_⟩ <;> (dsimp only; omega)))⟩
 refine jT (dT aQ) (sr (Kz (.agg (bf 0 0 0 0 0 0 0 0 0 0 0 0 0 0 0 false ([]) ([]) none 0 0 none 0 0 none 0 0).toArray) (Mz rfl ?_)))
 have kE:=dZ.pk [1,0]
 refine bz (bf 0 0 0 0 0 0 0 0 0 0 0 0 0 0 0 false ([]) ([]) none 0 0 none 0 0 none 0 0) 0 kE Tryz.sizeOf29 ?_
 intro dB fB
 refine An rfl (rt (tR (Fin.res (ib (vs:= [.agg (bf 0 0 0 0 0 0 0 0 0 0 0 0 0 0 0 false ([]) ([]) none 0 0 none 0 0 none 0 0).toArray, .int .i64 bL]) rfl (bT.cell rfl (bu.agg (cs:=(bf 0 0 0 0 0 0 0 0 0 0 0 0 0 0 0 false ([]) ([]) none 0 0 none 0 0 none 0 0)) Tryz.isAgg29 Tryz.sizeOf29 ((fB.cls (i:=0) rfl).lit (k:=0) (m:=21) rfl)) (bT.tmp rfl bT.nil)) (Nat.le_of_ble_eq_true rfl)) ?_)))
 have kF:Own w D dB [row none 0 0 (List.flatMap aB.cells ([])) 64 6,blk A (bf 0 0 0 0 0 0 0 0 0 0 0 0 0 0 0 false ([]) ([]) none 0 0 none 0 0 none 0 0) 29,row R p.length S (List.flatMap eB p) 5 1]:=fB.free (bP 64 6)
 have kG:Own w D dB [sepL (List.flatMap ag.own ([])),row none 0 0 (List.flatMap aB.cells ([])) 64 6,blk A (bf 0 0 0 0 0 0 0 0 0 0 0 0 0 0 0 false ([]) ([]) none 0 0 none 0 0 none 0 0) 29,row R p.length S (List.flatMap eB p) 5 1]:=kF.sepNil
 have kH:Own w D dB [row none 0 0 (List.flatMap ag.cells ([])) 84 3,sepL (List.flatMap ag.own ([])),row none 0 0 (List.flatMap aB.cells ([])) 64 6,blk A (bf 0 0 0 0 0 0 0 0 0 0 0 0 0 0 0 false ([]) ([]) none 0 0 none 0 0 none 0 0) 29,row R p.length S (List.flatMap eB p) 5 1]:=kG.free (bP 84 3)
 have kI:Own w D dB [row none 0 0 (List.flatMap aA.cells ([])) 88 2,row none 0 0 (List.flatMap ag.cells ([])) 84 3,sepL (List.flatMap ag.own ([])),row none 0 0 (List.flatMap aB.cells ([])) 64 6,blk A (bf 0 0 0 0 0 0 0 0 0 0 0 0 0 0 0 false ([]) ([]) none 0 0 none 0 0 none 0 0) 29,row R p.length S (List.flatMap eB p) 5 1]:=kH.free (bP 88 2)
 have kK:=kI.pk [3,1,2,0]
 have e:ed l0=(bG.mk 0 0 0 0 0 0 0 0 0 0 0 0 0 0 0 false (bC.mk ([]) ([])) (Ll.mk ([])) (Ll.mk ([])) (Ll.mk ([])),bL):=et (aa ae) (iN aQ)
 obtain⟨rfl,rfl⟩:=dL (e.symm.trans hr)
 exact⟨none,0,none,0,none,0, [],rfl,kK,rfl,(by first | omega | (dsimp only; omega) | (simp only [List.length_nil]; omega) | (refine⟨?_, ?_⟩ <;> (dsimp only; omega)))⟩
end Go.Proofs.YtccjclalngabhaaGreat
