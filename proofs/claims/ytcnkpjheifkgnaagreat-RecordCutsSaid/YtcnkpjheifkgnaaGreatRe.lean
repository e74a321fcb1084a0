/-
 record: a shard's state of bytes.
-/
import Derived.Test.YtcnkpjheifkgnaaGreatRd
namespace Go.Proofs.YtcnkpjheifkgnaaGreat
set_option maxRecDepth 100000
open Go.RowKit
set_option linter.unusedVariables false
set_option linter.unusedSectionVars false
set_option linter.unusedSimpArgs false
def dm (p1:Int):Nat→List aC→Nat→List UInt8→Int→(List aC) × (List UInt8) × Int
  | 0,c,e,d,a=>default
  | f+1,c,e,d,a=>if((e:Nat):Int) < p1 then if a=0 then bnd (iH (ReaderT.mk (Ll.mk d) a)) fun b=>dm p1 f (c++ [b.1]) (e+1) b.2.aa.ls b.2.ai else(c,d,a) else(c,d,a)
def iD (a:ReaderT) (p1:Int):(List aC) × ReaderT:=
 bnd (bnd (dm p1 ((Int.toNat p1 - 0)+1) ([]) 0 a.aa.ls a.ai) fun sLrJjL=>(sLrJjL.1,sLrJjL.2.1,sLrJjL.2.2)) fun sJrJ=>(sJrJ.1,ReaderT.mk (Ll.mk sJrJ.2.1) sJrJ.2.2)
theorem lK (w:World) (D:Nat→Prop) (t:Nat) (c:ReaderT) (a:Option Addr) (b:Nat) (p1:Int) (W:List aC) (r1:ReaderT) (H:Own w D w [blk t [.slice a c.aa.ls.length b, .int .i64 c.ai] 150]) (R:Ro w D fun w'=>bu w' 1 a c.aa.ls.length (List.flatMap eB c.aa.ls)) (aB:c.aa.ls.length≤b∧c.aa.ls.length≤9223372036854775807) (bv:p1≤1000) (hr:iD c p1=(W,r1)):
    Calls Tryz.prog 94 #[.pointer (some ⟨t,0,none⟩), .int .i64 p1, .func (.func 53) #[] #[]] w (dC fun v w'=> ∃ (B0:Option Addr) (b0:Nat) (B1ox0:Option Addr) (b1ox0:Nat),v= .slice B0 W.length b0∧Own w D w' [row B0 W.length b0 (List.flatMap aC.cells W) 54 2,blk t [.slice B1ox0 r1.aa.ls.length b1ox0, .int .i64 r1.ai] 150]∧(aj 1 a b c.aa.ls B1ox0 b1ox0 r1.aa.ls)∧(W.length≤1000)):=by
 refine xU (args:= [.pointer (some ⟨t,0,none⟩), .int .i64 p1, .func (.func 53) #[] #[]]) Tryz.func94 rfl rfl rfl ?_
 show Wp _ _ _ [(0, .pointer (some ⟨t,0,none⟩)),(1, .int .i64 p1),(2, .func (.func 53) #[] #[])] _ _
 refine sr (Ar rfl (An rfl (xV (sr (An rfl ?_)))))
 obtain⟨X,Y⟩:∃ q:((Option Addr) × Nat × (List aC) × (Option Addr) × Nat × (List UInt8) × Int)→World→Prop,q=fun(i:(Option Addr) × Nat × (List aC) × (Option Addr) × Nat × (List UInt8) × Int) w'=>Own w D w' [blk t [.slice i.2.2.2.1 i.2.2.2.2.2.1.length i.2.2.2.2.1, .int .i64 i.2.2.2.2.2.2] 150,row i.1 i.2.2.1.length i.2.1 (List.flatMap aC.cells i.2.2.1) 54 2]∧(aj 1 a b c.aa.ls i.2.2.2.1 i.2.2.2.2.1 i.2.2.2.2.2.1∧0≤i.2.2.1.length∧i.2.2.2.2.2.1.length≤c.aa.ls.length∧i.2.2.2.2.2.1.length≤c.aa.ls.length+1∧i.2.2.1.length≤1000∧(bnd (dm p1 ((Int.toNat p1 - 0)+1) ([]) 0 c.aa.ls c.ai) fun sLrJjL=>(sLrJjL.1,sLrJjL.2.1,sLrJjL.2.2))=(i.2.2.1,i.2.2.2.2.2.1,i.2.2.2.2.2.2)):=⟨_,rfl⟩
 have C:∀ {E:Option Addr} {F:Nat} {l:List aC} {G:Option Addr} {I:Nat} {o:List UInt8} {J:Int} {w':World},X (E,F,l,G,I,o,J) w'↔Own w D w' [blk t [.slice G o.length I, .int .i64 J] 150,row E l.length F (List.flatMap aC.cells l) 54 2]∧aj 1 a b c.aa.ls G I o∧0≤l.length∧o.length≤c.aa.ls.length∧o.length≤c.aa.ls.length+1∧l.length≤1000∧(bnd (dm p1 ((Int.toNat p1 - 0)+1) ([]) 0 c.aa.ls c.ai) fun sLrJjL=>(sLrJjL.1,sLrJjL.2.1,sLrJjL.2.2))=(l,o,J):=by intros; subst Y; exact Iff.rfl
 refine ze (fun i:(Option Addr) × Nat × (List aC) × (Option Addr) × Nat × (List UInt8) × Int=> [(7, .slice i.1 i.2.2.1.length i.2.1),(6, .slice none 0 0)]) X ?_ ?_
 refine bo ?_
 have aD:Own w D w [row none 0 0 (List.flatMap aC.cells ([])) 54 2,blk t [.slice a c.aa.ls.length b, .int .i64 c.ai] 150]:=H.free (fU 54 2)
 have aF:=aD.pk [1,0]
 obtain⟨Z,aa⟩:∃ q:((Option Addr) × Nat × (List aC) × Nat × (Option Addr) × Nat × (List UInt8) × Int × Nat)→World→Prop,q=fun(i:(Option Addr) × Nat × (List aC) × Nat × (Option Addr) × Nat × (List UInt8) × Int × Nat) w'=>Own w D w' [blk t [.slice i.2.2.2.2.1 i.2.2.2.2.2.2.1.length i.2.2.2.2.2.1, .int .i64 i.2.2.2.2.2.2.2.1] 150,row i.1 i.2.2.1.length i.2.1 (List.flatMap aC.cells i.2.2.1) 54 2]∧(aj 1 a b c.aa.ls i.2.2.2.2.1 i.2.2.2.2.2.1 i.2.2.2.2.2.2.1∧i.2.2.1.length≤i.2.2.2.1∧(i.2.2.2.1=0∨((i.2.2.2.1:Nat):Int)≤p1)∧Int.toNat p1 - i.2.2.2.1 < i.2.2.2.2.2.2.2.2∧dm p1 ((Int.toNat p1 - 0)+1) ([]) 0 c.aa.ls c.ai=dm p1 i.2.2.2.2.2.2.2.2 i.2.2.1 i.2.2.2.1 i.2.2.2.2.2.2.1 i.2.2.2.2.2.2.2.1):=⟨_,rfl⟩
 have K:∀ {z:Option Addr} {A:Nat} {f:List aC} {g:Nat} {p:Option Addr} {n:Nat} {h:List UInt8} {j:Int} {B:Nat} {w':World},Z (z,A,f,g,p,n,h,j,B) w'↔Own w D w' [blk t [.slice p h.length n, .int .i64 j] 150,row z f.length A (List.flatMap aC.cells f) 54 2]∧aj 1 a b c.aa.ls p n h∧f.length≤g∧(g=0∨((g:Nat):Int)≤p1)∧Int.toNat p1 - g < B∧dm p1 ((Int.toNat p1 - 0)+1) ([]) 0 c.aa.ls c.ai=dm p1 B f g h j:=by intros; subst aa; exact Iff.rfl
 refine Wp.loop (fun i:(Option Addr) × Nat × (List aC) × Nat × (Option Addr) × Nat × (List UInt8) × Int × Nat=> [(7, .slice i.1 i.2.2.1.length i.2.1),(8, .int .i64 ((i.2.2.2.1:Nat):Int)),(6, .slice none 0 0),(0, .pointer (some ⟨t,0,none⟩)),(1, .int .i64 p1),(2, .func (.func 53) #[] #[])]) Z (fun i=>i.2.2.2.2.2.2.2.2) (none,0, [],0,a,b,c.aa.ls,c.ai,(Int.toNat p1 - 0)+1) ⟨rfl,rfl,rfl,rfl,rfl,rfl,trivial⟩ (K.2 ⟨aF,(show aj 1 a b c.aa.ls a b c.aa.ls∧0≤0∧(0=0∨((0:Nat):Int)≤p1)∧Int.toNat p1 - 0 < ((Int.toNat p1 - 0)+1)∧dm p1 ((Int.toNat p1 - 0)+1) ([]) 0 c.aa.ls c.ai=dm p1 ((Int.toNat p1 - 0)+1) ([]) 0 c.aa.ls c.ai from ⟨by exact(aj.refl (by omega)),by omega,by omega,by omega,rfl⟩)⟩) ?_
 rintro ⟨z,A,f,g,p,n,h,j,B⟩ bz af
 show Wp _ _ _ [(7, .slice z f.length A),(8, .int .i64 ((g:Nat):Int)),(6, .slice none 0 0),(0, .pointer (some ⟨t,0,none⟩)),(1, .int .i64 p1),(2, .func (.func 53) #[] #[])] _ _
 obtain⟨N,r,aS,aT,aV,L⟩:=K.1 af
 have aW:=(r).le
 obtain⟨S,ag⟩:∃ q,B=q+1:=⟨B - 1,by omega⟩
 subst ag
 refine xV (sr (Mz rfl (Mz rfl (Kz (.bool (decide (((g:Nat):Int) < p1))) (Mz rfl ?_)))))
 by_cases d:((g:Nat):Int) < p1
 refine gw (.pointer (some ⟨t,0,none⟩)) (dT d) (yj rfl) (Gz (.pointer (some ⟨t,0,none⟩)) (dT d) (Gz (.pointer (some ⟨t,1,none⟩)) (dT d) (Gl (.int .i64 j) (dT d) N 0 Tryz.isAgg38 (Gz (.bool (decide (j=0))) (dT d) (fw (.bool (decide (j=0))) (yw rfl (dT d) rfl) (nt ?_))))))
 by_cases O:j=0
 refine jT (dT O) (sk (xV (bo (xS (Mz rfl (Mz rfl (Mz rfl ?_)))))))
 obtain⟨⟨u,M⟩,P⟩:∃ q:aC × ReaderT,iH (ReaderT.mk (Ll.mk h) j)=q:=⟨_,rfl⟩
 obtain⟨bA,ah,ai,ak,aX⟩:=x8 N
 refine WL.do rfl (yB Tryz.call53 rfl rfl (nC _ _ t (ReaderT.mk (Ll.mk h) j) p n u M ah (fun w9 h9=>aj.rds aU (by decide) r ((ai _ R) w9 h9)) (show h.length≤n∧h.length≤9223372036854775807 from by omega) P) ?_)
 rintro _ bD ⟨T,U,rfl,au,x⟩
 have aG:=ak _ _ au
 replace x:aj 1 p n h T U M.aa.ls:=x
 have aY:=(x).le
 have av:aj 1 a b c.aa.ls T U M.aa.ls:=aj.trans r x
 refine jR (aC.cells u) 54 2 1 aG ?_
 intro aH bE V
 replace V:=yR (y:=row aH 1 1 (List.flatMap aC.cells ([u])) 54 2) rfl V
 have ax:=V.pk [2,0,1]
 refine WL.do rfl (yQ (k:=f.length) (m:=1) (mX) ax rfl rfl (jg Tryz.underlying23 (ax.rds (i:=1) rfl) (gV aC.one ([u]))) rfl (by omega) (s:=List.length (f++ [u])) (by first | omega | (simp only [List.length_append,List.length_cons,List.length_nil] <;> omega)) (List.flatMap_append).symm ?_)
 intro aI aJ bF aK
 have aZ:List.length (f++ [u])=f.length+1:=by simp only [List.length_append,List.length_cons,List.length_nil]
 refine Az rfl (xY (bN (yg (xS (Mz rfl (fw (.int .i64 ((g+1:Nat):Int)) (ym (e:=IntKind.i64.wrap (((g:Nat):Int)+1)) yk (by rw [A8 _ (by omega)]; omega)) (Az rfl (xY ?_))))))))
 have aL:=aK.pk [2,0]
 exact yE (aI,aJ,(f++ [u]),g+1,T,U,M.aa.ls,M.ai,S) ⟨rfl,rfl,rfl,rfl,rfl,rfl,trivial⟩ (K.2 ⟨aL,by exact av,by omega,by omega,by omega,et (L) (et (ip d) (et (ip O) (ae P)))⟩) (by show S < S+1; omega)
 refine jF (dF O) (Wp.exit (xX (xX (yx ?_))))
 have aM:=N.pk [0,1]
 exact yO (z,A,f,p,n,h,j) ⟨rfl,rfl,trivial⟩ (C.2 ⟨aM,by exact r,by omega,by omega,by omega,by omega,ae (et (L) (et (ip d) (iN O)))⟩)
 refine Sz (dF d) (Sz (dF d) (Sz (dF d) (Sz (dF d) (Sz (dF d) (fw (.bool false) (xW rfl (dF d) rfl) (nt (jf (Wp.exit (xX (xX (yx ?_)))))))))))
 have aN:=N.pk [0,1]
 exact yO (z,A,f,p,n,h,j) ⟨rfl,rfl,trivial⟩ (C.2 ⟨aN,by exact r,by omega,by omega,by omega,by omega,ae (et (L) (iN d))⟩)
 rintro ⟨E,F,l,G,I,o,J⟩ bG ay
 show Wp _ _ _ [(7, .slice E l.length F),(6, .slice none 0 0)] _ _
 obtain⟨aO,Q,bf,bg,bi,bn,az⟩:=C.1 ay
 have bq:=(Q).le
 refine sr (Mz rfl (An rfl (rt (rs ?_))))
 have aP:=aO.pk [1,0]
 have e:iD c p1=(l,ReaderT.mk (Ll.mk o) J):=ae az
 obtain⟨rfl,rfl⟩:=gD (e.symm.trans hr)
 exact⟨E,F,G,I,rfl,aP,Q,(by omega)⟩
def eX (c:ReaderT) (p1:Nat):(List aC) × ReaderT:=
 bnd (aD c p1) fun a=>bnd (iD a.2 ((a.1:Nat):Int)) fun b=>(b.1,b.2)
theorem kr (w:World) (D:Nat→Prop) (r:Nat) (d:ReaderT) (b:Option Addr) (a:Nat) (p1:Nat) (y:List aC) (L:ReaderT) (H:Own w D w [blk r [.slice b d.aa.ls.length a, .int .i64 d.ai] 150]) (j:Ro w D fun w'=>bu w' 1 b d.aa.ls.length (List.flatMap eB d.aa.ls)) (M:d.aa.ls.length≤a∧d.aa.ls.length≤9223372036854775807) (Y:p1≤1000) (hr:eX d p1=(y,L)):
    Calls Tryz.prog 52 #[.pointer (some ⟨r,0,none⟩), .int .u64 ((p1:Nat):Int), .func (.func 53) #[] #[]] w (dC fun v w'=> ∃ (R:Option Addr) (S:Nat) (B1ox0:Option Addr) (b1ox0:Nat),v= .slice R y.length S∧Own w D w' [row R y.length S (List.flatMap aC.cells y) 54 2,blk r [.slice B1ox0 L.aa.ls.length b1ox0, .int .i64 L.ai] 150]∧(aj 1 b a d.aa.ls B1ox0 b1ox0 L.aa.ls)∧(y.length≤1000)):=by
 refine xU (args:= [.pointer (some ⟨r,0,none⟩), .int .u64 ((p1:Nat):Int), .func (.func 53) #[] #[]]) Tryz.func52 rfl rfl rfl ?_
 show Wp _ _ _ [(0, .pointer (some ⟨r,0,none⟩)),(1, .int .u64 ((p1:Nat):Int)),(2, .func (.func 53) #[] #[])] _ _
 refine sr (Ar rfl (Mz rfl (Mz rfl (Mz rfl ?_))))
 obtain⟨⟨h,f⟩,m⟩:∃ q:Nat × ReaderT,aD d p1=q:=⟨_,rfl⟩
 obtain⟨Z,z,A,B,T⟩:=x8 H
 refine cl Tryz.call93 (dY _ _ r d b a p1 h f z (A _ j) (show d.aa.ls.length≤a∧d.aa.ls.length≤9223372036854775807 from by omega) m) ?_
 rintro _ aa ⟨s,k,rfl,C,c,n⟩
 have N:=B _ _ C
 replace c:aj 1 b a d.aa.ls s k f.aa.ls:=c
 have U:=(c).le
 replace n:h≤p1:=n
 refine fw (.int .i64 ((h:Nat):Int)) (ym (e:=IntKind.i64.wrap ((h:Nat):Int)) yk (A8 _ (by omega))) (Mz rfl ?_)
 obtain⟨⟨t,l⟩,o⟩:∃ q:(List aC) × ReaderT,iD f ((h:Nat):Int)=q:=⟨_,rfl⟩
 obtain⟨af,E,F,G,V⟩:=x8 N
 refine cl Tryz.call94 (lK _ _ r f s k ((h:Nat):Int) t l E (fun w9 h9=>aj.rds aU (by decide) c ((F _ j) w9 h9)) (show f.aa.ls.length≤k∧f.aa.ls.length≤9223372036854775807 from by omega) (by omega) o) ?_
 rintro _ ai ⟨O,P,u,x,rfl,I,g,p⟩
 have J:=G _ _ I
 replace g:aj 1 s k f.aa.ls u x l.aa.ls:=g
 have W:=(g).le
 have K:aj 1 b a d.aa.ls u x l.aa.ls:=aj.trans c g
 have X:=J.rowC (i:=0) rfl
 replace p:t.length≤1000:=p
 refine An rfl (rt (rs ?_))
 have Q:=J.pk [0,1]
 have e:eX d p1=(t,l):=et (ae m) (ae o)
 obtain⟨rfl,rfl⟩:=gD (e.symm.trans hr)
 exact⟨O,P,u,x,rfl,Q,K,(by omega)⟩
def dA (p1:Int):Nat→List fo→Nat→List UInt8→Int→(List fo) × (List UInt8) × Int
  | 0,c,e,d,a=>default
  | f+1,c,e,d,a=>if((e:Nat):Int) < p1 then if a=0 then bnd (iX (ReaderT.mk (Ll.mk d) a)) fun b=>dA p1 f (c++ [b.1]) (e+1) b.2.aa.ls b.2.ai else(c,d,a) else(c,d,a)
def iL (a:ReaderT) (p1:Int):(List fo) × ReaderT:=
 bnd (bnd (dA p1 ((Int.toNat p1 - 0)+1) ([]) 0 a.aa.ls a.ai) fun sLrJjL=>(sLrJjL.1,sLrJjL.2.1,sLrJjL.2.2)) fun sJrJ=>(sJrJ.1,ReaderT.mk (Ll.mk sJrJ.2.1) sJrJ.2.2)
theorem lV (w:World) (D:Nat→Prop) (x:Nat) (d:ReaderT) (b:Option Addr) (c:Nat) (p1:Int) (r0:List fo) (r1:ReaderT) (H:Own w D w [blk x [.slice b d.aa.ls.length c, .int .i64 d.ai] 150]) (af:Ro w D fun w'=>bu w' 1 b d.aa.ls.length (List.flatMap eB d.aa.ls)) (aR:d.aa.ls.length≤c∧d.aa.ls.length≤9223372036854775807) (bR:p1≤1000) (hr:iL d p1=(r0,r1)):
    Calls Tryz.prog 96 #[.pointer (some ⟨x,0,none⟩), .int .i64 p1, .func (.func 55) #[] #[]] w (dC fun v w'=> ∃ (B0:Option Addr) (b0:Nat) (e0:List aL) (B1ox0:Option Addr) (b1ox0:Nat),v= .slice B0 r0.length b0∧Own w D w' [row B0 r0.length b0 (List.flatMap aL.cells e0) 66 2,sepL (List.flatMap yH e0),blk x [.slice B1ox0 r1.aa.ls.length b1ox0, .int .i64 r1.ai] 150]∧(List.map yS e0=r0)∧(aj 1 b c d.aa.ls B1ox0 b1ox0 r1.aa.ls)∧(r0.length≤1000)):=by
 refine xU (args:= [.pointer (some ⟨x,0,none⟩), .int .i64 p1, .func (.func 55) #[] #[]]) Tryz.func96 rfl rfl rfl ?_
 show Wp _ _ _ [(0, .pointer (some ⟨x,0,none⟩)),(1, .int .i64 p1),(2, .func (.func 55) #[] #[])] _ _
 refine sr (Ar rfl (An rfl (xV (sr (An rfl ?_)))))
 obtain⟨av,ax⟩:∃ q:((Option Addr) × Nat × (List aL) × (List fo) × (Option Addr) × Nat × (List UInt8) × Int)→World→Prop,q=fun(i:(Option Addr) × Nat × (List aL) × (List fo) × (Option Addr) × Nat × (List UInt8) × Int) w'=>Own w D w' [blk x [.slice i.2.2.2.2.1 i.2.2.2.2.2.2.1.length i.2.2.2.2.2.1, .int .i64 i.2.2.2.2.2.2.2] 150,row i.1 i.2.2.2.1.length i.2.1 (List.flatMap aL.cells i.2.2.1) 66 2,sepL (List.flatMap yH i.2.2.1)]∧(List.map yS i.2.2.1=i.2.2.2.1∧aj 1 b c d.aa.ls i.2.2.2.2.1 i.2.2.2.2.2.1 i.2.2.2.2.2.2.1∧0≤i.2.2.2.1.length∧i.2.2.2.2.2.2.1.length≤d.aa.ls.length∧i.2.2.2.2.2.2.1.length≤d.aa.ls.length+1∧i.2.2.2.1.length≤1000∧(bnd (dA p1 ((Int.toNat p1 - 0)+1) ([]) 0 d.aa.ls d.ai) fun sLrJjL=>(sLrJjL.1,sLrJjL.2.1,sLrJjL.2.2))=(i.2.2.2.1,i.2.2.2.2.2.2.1,i.2.2.2.2.2.2.2)):=⟨_,rfl⟩
 have L:∀ {M:Option Addr} {N:Nat} {G:List aL} {t:List fo} {O:Option Addr} {P:Nat} {z:List UInt8} {Q:Int} {w':World},av (M,N,G,t,O,P,z,Q) w'↔Own w D w' [blk x [.slice O z.length P, .int .i64 Q] 150,row M t.length N (List.flatMap aL.cells G) 66 2,sepL (List.flatMap yH G)]∧List.map yS G=t∧aj 1 b c d.aa.ls O P z∧0≤t.length∧z.length≤d.aa.ls.length∧z.length≤d.aa.ls.length+1∧t.length≤1000∧(bnd (dA p1 ((Int.toNat p1 - 0)+1) ([]) 0 d.aa.ls d.ai) fun sLrJjL=>(sLrJjL.1,sLrJjL.2.1,sLrJjL.2.2))=(t,z,Q):=by intros; subst ax; exact Iff.rfl
 refine ze (fun i:(Option Addr) × Nat × (List aL) × (List fo) × (Option Addr) × Nat × (List UInt8) × Int=> [(7, .slice i.1 i.2.2.2.1.length i.2.1),(6, .slice none 0 0)]) av ?_ ?_
 refine bo ?_
 have aT:Own w D w [sepL (List.flatMap yH ([])),blk x [.slice b d.aa.ls.length c, .int .i64 d.ai] 150]:=H.sepNil
 have aV:Own w D w [row none 0 0 (List.flatMap aL.cells ([])) 66 2,sepL (List.flatMap yH ([])),blk x [.slice b d.aa.ls.length c, .int .i64 d.ai] 150]:=aT.free (fU 66 2)
 have aX:=aV.pk [2,0,1]
 obtain⟨ay,az⟩:∃ q:((Option Addr) × Nat × (List aL) × (List fo) × Nat × (Option Addr) × Nat × (List UInt8) × Int × Nat)→World→Prop,q=fun(i:(Option Addr) × Nat × (List aL) × (List fo) × Nat × (Option Addr) × Nat × (List UInt8) × Int × Nat) w'=>Own w D w' [blk x [.slice i.2.2.2.2.2.1 i.2.2.2.2.2.2.2.1.length i.2.2.2.2.2.2.1, .int .i64 i.2.2.2.2.2.2.2.2.1] 150,row i.1 i.2.2.2.1.length i.2.1 (List.flatMap aL.cells i.2.2.1) 66 2,sepL (List.flatMap yH i.2.2.1)]∧(List.map yS i.2.2.1=i.2.2.2.1∧aj 1 b c d.aa.ls i.2.2.2.2.2.1 i.2.2.2.2.2.2.1 i.2.2.2.2.2.2.2.1∧i.2.2.2.1.length≤i.2.2.2.2.1∧(i.2.2.2.2.1=0∨((i.2.2.2.2.1:Nat):Int)≤p1)∧Int.toNat p1 - i.2.2.2.2.1 < i.2.2.2.2.2.2.2.2.2∧dA p1 ((Int.toNat p1 - 0)+1) ([]) 0 d.aa.ls d.ai=dA p1 i.2.2.2.2.2.2.2.2.2 i.2.2.2.1 i.2.2.2.2.1 i.2.2.2.2.2.2.2.1 i.2.2.2.2.2.2.2.2.1):=⟨_,rfl⟩
 have R:∀ {I:Option Addr} {J:Nat} {o:List aL} {g:List fo} {j:Nat} {A:Option Addr} {u:Nat} {l:List UInt8} {n:Int} {K:Nat} {w':World},ay (I,J,o,g,j,A,u,l,n,K) w'↔Own w D w' [blk x [.slice A l.length u, .int .i64 n] 150,row I g.length J (List.flatMap aL.cells o) 66 2,sepL (List.flatMap yH o)]∧List.map yS o=g∧aj 1 b c d.aa.ls A u l∧g.length≤j∧(j=0∨((j:Nat):Int)≤p1)∧Int.toNat p1 - j < K∧dA p1 ((Int.toNat p1 - 0)+1) ([]) 0 d.aa.ls d.ai=dA p1 K g j l n:=by intros; subst az; exact Iff.rfl
 refine Wp.loop (fun i:(Option Addr) × Nat × (List aL) × (List fo) × Nat × (Option Addr) × Nat × (List UInt8) × Int × Nat=> [(7, .slice i.1 i.2.2.2.1.length i.2.1),(8, .int .i64 ((i.2.2.2.2.1:Nat):Int)),(6, .slice none 0 0),(0, .pointer (some ⟨x,0,none⟩)),(1, .int .i64 p1),(2, .func (.func 55) #[] #[])]) ay (fun i=>i.2.2.2.2.2.2.2.2.2) (none,0, [], [],0,b,c,d.aa.ls,d.ai,(Int.toNat p1 - 0)+1) ⟨rfl,rfl,rfl,rfl,rfl,rfl,trivial⟩ (R.2 ⟨aX,(show List.map yS ([])=([])∧aj 1 b c d.aa.ls b c d.aa.ls∧0≤0∧(0=0∨((0:Nat):Int)≤p1)∧Int.toNat p1 - 0 < ((Int.toNat p1 - 0)+1)∧dA p1 ((Int.toNat p1 - 0)+1) ([]) 0 d.aa.ls d.ai=dA p1 ((Int.toNat p1 - 0)+1) ([]) 0 d.aa.ls d.ai from ⟨by exact rfl,by exact(aj.refl (by omega)),by omega,by omega,by omega,rfl⟩)⟩) ?_
 rintro ⟨I,J,o,g,j,A,u,l,n,K⟩ bS aA
 show Wp _ _ _ [(7, .slice I g.length J),(8, .int .i64 ((j:Nat):Int)),(6, .slice none 0 0),(0, .pointer (some ⟨x,0,none⟩)),(1, .int .i64 p1),(2, .func (.func 55) #[] #[])] _ _
 obtain⟨V,B,C,bG,bH,bI,S⟩:=R.1 aA
 have bJ:=bV B
 have bK:=(C).le
 obtain⟨ag,aB⟩:∃ q,K=q+1:=⟨K - 1,by omega⟩
 subst aB
 refine xV (sr (Mz rfl (Mz rfl (Kz (.bool (decide (((j:Nat):Int) < p1))) (Mz rfl ?_)))))
 by_cases h:((j:Nat):Int) < p1
 refine gw (.pointer (some ⟨x,0,none⟩)) (dT h) (yj rfl) (Gz (.pointer (some ⟨x,0,none⟩)) (dT h) (Gz (.pointer (some ⟨x,1,none⟩)) (dT h) (Gl (.int .i64 n) (dT h) V 0 Tryz.isAgg38 (Gz (.bool (decide (n=0))) (dT h) (fw (.bool (decide (n=0))) (yw rfl (dT h) rfl) (nt ?_))))))
 by_cases W:n=0
 refine jT (dT W) (sk (xV (bo (xS (Mz rfl (Mz rfl (Mz rfl ?_)))))))
 obtain⟨⟨a,E⟩,Z⟩:∃ q:fo × ReaderT,iX (ReaderT.mk (Ll.mk l) n)=q:=⟨_,rfl⟩
 obtain⟨bT,aC,aD,aF,bL⟩:=x8 V
 refine WL.do rfl (yB Tryz.call55 rfl rfl (nR _ _ x (ReaderT.mk (Ll.mk l) n) A u a E aC (fun w9 h9=>aj.rds aU (by decide) C ((aD _ af) w9 h9)) (show l.length≤u∧l.length≤9223372036854775807 from by omega) Z) ?_)
 rintro _ bX ⟨p,r,X,Y,rfl,aG,F,aa⟩
 have aH:=aF _ _ aG
 replace F:aj 1 A u l X Y E.aa.ls:=F
 have bM:=(F).le
 have aI:aj 1 b c d.aa.ls X Y E.aa.ls:=aj.trans C F
 have bO:=aH.rowC (i:=0) rfl
 replace aa:a.aI.ls.length≤1000:=aa
 refine jR [.int .u64 ((a.aV:Nat):Int), .slice p a.aI.ls.length r] 66 2 1 aH ?_
 intro aJ bY ah
 replace ah:=yR (y:=row aJ 1 1 (List.flatMap aL.cells ([(aL.mk a.aV (Sv.mk p r a.aI.ls))])) 66 2) rfl ah
 have aK:=ah.pk [3,4,1,0,2]
 refine WL.do rfl (yQ (k:=g.length) (m:=1) (qF) aK rfl rfl (jg Tryz.underlying24 (aK.rds (i:=3) rfl) (gV aL.one ([(aL.mk a.aV (Sv.mk p r a.aI.ls))]))) rfl (by omega) (s:=List.length (g++ [a])) (by first | omega | (simp only [List.length_append,List.length_cons,List.length_nil] <;> omega)) (List.flatMap_append).symm ?_)
 intro aM aN aY aZ
 have bf:=aZ.pk [1,2,0,3,4]
 have bg:Own w D aY [sepL (List.flatMap yH (o++ [(aL.mk a.aV (Sv.mk p r a.aI.ls))])),row aM (List.length (g++ [a])) aN (List.flatMap aL.cells (o++ [(aL.mk a.aV (Sv.mk p r a.aI.ls))])) 66 2,row aJ 1 1 (List.flatMap aL.cells ([(aL.mk a.aV (Sv.mk p r a.aI.ls))])) 66 2,blk x [.slice X E.aa.ls.length Y, .int .i64 E.ai] 150]:=bf.sepAdd (L2:= [row p a.aI.ls.length r (List.flatMap aW.cells a.aI.ls) 74 6]) (List.flatMap_append (f:=yH) (xs:=o) (ys:= [(aL.mk a.aV (Sv.mk p r a.aI.ls))])).symm
 have bP:List.length (g++ [a])=g.length+1:=by simp only [List.length_append,List.length_cons,List.length_nil]
 have bQ:=bV (kH (es:= [(aL.mk a.aV (Sv.mk p r a.aI.ls))]) (ms:= [a]) B rfl)
 refine Az rfl (xY (bN (yg (xS (Mz rfl (fw (.int .i64 ((j+1:Nat):Int)) (ym (e:=IntKind.i64.wrap (((j:Nat):Int)+1)) yk (by rw [A8 _ (by omega)]; omega)) (Az rfl (xY ?_))))))))
 have bi:=bg.pk [3,1,0]
 exact yE (aM,aN,(o++ [(aL.mk a.aV (Sv.mk p r a.aI.ls))]),(g++ [a]),j+1,X,Y,E.aa.ls,E.ai,ag) ⟨rfl,rfl,rfl,rfl,rfl,rfl,trivial⟩ (R.2 ⟨bi,by exact(kH (es:= [(aL.mk a.aV (Sv.mk p r a.aI.ls))]) (ms:= [a]) B rfl),by exact aI,by omega,by omega,by omega,et (S) (et (ip h) (et (ip W) (ae Z)))⟩) (by show ag < ag+1; omega)
 refine jF (dF W) (Wp.exit (xX (xX (yx ?_))))
 have bn:=V.pk [0,1,2]
 exact yO (I,J,o,g,A,u,l,n) ⟨rfl,rfl,trivial⟩ (L.2 ⟨bn,by exact B,by exact C,by omega,by omega,by omega,by omega,ae (et (S) (et (ip h) (iN W)))⟩)
 refine Sz (dF h) (Sz (dF h) (Sz (dF h) (Sz (dF h) (Sz (dF h) (fw (.bool false) (xW rfl (dF h) rfl) (nt (jf (Wp.exit (xX (xX (yx ?_)))))))))))
 have bq:=V.pk [0,1,2]
 exact yO (I,J,o,g,A,u,l,n) ⟨rfl,rfl,trivial⟩ (L.2 ⟨bq,by exact B,by exact C,by omega,by omega,by omega,by omega,ae (et (S) (iN h))⟩)
 rintro ⟨M,N,G,t,O,P,z,Q⟩ bZ ai
 show Wp _ _ _ [(7, .slice M t.length N),(6, .slice none 0 0)] _ _
 obtain⟨aO,T,U,bv,bz,bA,bB,ak⟩:=L.1 ai
 have bC:=bV T
 have bD:=(U).le
 refine sr (Mz rfl (An rfl (rt (rs ?_))))
 have aP:=aO.pk [1,2,0]
 have e:iL d p1=(t,ReaderT.mk (Ll.mk z) Q):=ae ak
 obtain⟨rfl,rfl⟩:=gD (e.symm.trans hr)
 exact⟨M,N,G,O,P,rfl,aP,T,U,(by omega)⟩
def gz (c:ReaderT) (p1:Nat):(List fo) × ReaderT:=
 bnd (aD c p1) fun a=>bnd (iL a.2 ((a.1:Nat):Int)) fun b=>(b.1,b.2)
theorem mf (w:World) (D:Nat→Prop) (s:Nat) (d:ReaderT) (b:Option Addr) (a:Nat) (p1:Nat) (z:List fo) (M:ReaderT) (H:Own w D w [blk s [.slice b d.aa.ls.length a, .int .i64 d.ai] 150]) (j:Ro w D fun w'=>bu w' 1 b d.aa.ls.length (List.flatMap eB d.aa.ls)) (N:d.aa.ls.length≤a∧d.aa.ls.length≤9223372036854775807) (ag:p1≤1000) (hr:gz d p1=(z,M)):
    Calls Tryz.prog 54 #[.pointer (some ⟨s,0,none⟩), .int .u64 ((p1:Nat):Int), .func (.func 55) #[] #[]] w (dC fun v w'=> ∃ (U:Option Addr) (V:Nat) (O:List aL) (B1ox0:Option Addr) (b1ox0:Nat),v= .slice U z.length V∧Own w D w' [row U z.length V (List.flatMap aL.cells O) 66 2,sepL (List.flatMap yH O),blk s [.slice B1ox0 M.aa.ls.length b1ox0, .int .i64 M.ai] 150]∧(List.map yS O=z)∧(aj 1 b a d.aa.ls B1ox0 b1ox0 M.aa.ls)∧(z.length≤1000)):=by
 refine xU (args:= [.pointer (some ⟨s,0,none⟩), .int .u64 ((p1:Nat):Int), .func (.func 55) #[] #[]]) Tryz.func54 rfl rfl rfl ?_
 show Wp _ _ _ [(0, .pointer (some ⟨s,0,none⟩)),(1, .int .u64 ((p1:Nat):Int)),(2, .func (.func 55) #[] #[])] _ _
 refine sr (Ar rfl (Mz rfl (Mz rfl (Mz rfl ?_))))
 obtain⟨⟨h,f⟩,m⟩:∃ q:Nat × ReaderT,aD d p1=q:=⟨_,rfl⟩
 obtain⟨ah,A,B,C,W⟩:=x8 H
 refine cl Tryz.call93 (dY _ _ s d b a p1 h f A (B _ j) (show d.aa.ls.length≤a∧d.aa.ls.length≤9223372036854775807 from by omega) m) ?_
 rintro _ ai ⟨t,k,rfl,E,c,n⟩
 have P:=C _ _ E
 replace c:aj 1 b a d.aa.ls t k f.aa.ls:=c
 have X:=(c).le
 replace n:h≤p1:=n
 refine fw (.int .i64 ((h:Nat):Int)) (ym (e:=IntKind.i64.wrap ((h:Nat):Int)) yk (A8 _ (by omega))) (Mz rfl ?_)
 obtain⟨⟨u,l⟩,o⟩:∃ q:(List fo) × ReaderT,iL f ((h:Nat):Int)=q:=⟨_,rfl⟩
 obtain⟨ak,F,G,I,Y⟩:=x8 P
 refine cl Tryz.call96 (lV _ _ s f t k ((h:Nat):Int) u l F (fun w9 h9=>aj.rds aU (by decide) c ((G _ j) w9 h9)) (show f.aa.ls.length≤k∧f.aa.ls.length≤9223372036854775807 from by omega) (by omega) o) ?_
 rintro _ ax ⟨Q,R,S,x,y,rfl,J,p,g,r⟩
 have K:=I _ _ J
 replace g:aj 1 t k f.aa.ls x y l.aa.ls:=g
 have Z:=(g).le
 have L:aj 1 b a d.aa.ls x y l.aa.ls:=aj.trans c g
 have aa:=bV p
 have af:=K.rowC (i:=0) rfl
 replace r:u.length≤1000:=r
 refine An rfl (rt (rs ?_))
 have T:=K.pk [0,1,2]
 have e:gz d p1=(u,l):=et (ae m) (ae o)
 obtain⟨rfl,rfl⟩:=gD (e.symm.trans hr)
 exact⟨Q,R,S,x,y,rfl,T,p,L,(by omega)⟩
def dP (p1:Int):Nat→List Nat→Nat→List UInt8→Int→(List Nat) × (List UInt8) × Int
  | 0,c,e,d,a=>default
  | f+1,c,e,d,a=>if((e:Nat):Int) < p1 then if a=0 then bnd (aQ (ReaderT.mk (Ll.mk d) a)) fun b=>dP p1 f (c++ [b.1]) (e+1) b.2.aa.ls b.2.ai else(c,d,a) else(c,d,a)
def jb (a:ReaderT) (p1:Int):(List Nat) × ReaderT:=
 bnd (bnd (dP p1 ((Int.toNat p1 - 0)+1) ([]) 0 a.aa.ls a.ai) fun sLrJjL=>(sLrJjL.1,sLrJjL.2.1,sLrJjL.2.2)) fun sJrJ=>(sJrJ.1,ReaderT.mk (Ll.mk sJrJ.2.1) sJrJ.2.2)
theorem mG (w:World) (D:Nat→Prop) (u:Nat) (c:ReaderT) (a:Option Addr) (b:Nat) (p1:Int) (X:List Nat) (r1:ReaderT) (H:Own w D w [blk u [.slice a c.aa.ls.length b, .int .i64 c.ai] 150]) (S:Ro w D fun w'=>bu w' 1 a c.aa.ls.length (List.flatMap eB c.aa.ls)) (aC:c.aa.ls.length≤b∧c.aa.ls.length≤9223372036854775807) (bz:p1≤1000) (hr:jb c p1=(X,r1)):
    Calls Tryz.prog 99 #[.pointer (some ⟨u,0,none⟩), .int .i64 p1, .func (.func 51) #[] #[]] w (dC fun v w'=> ∃ (B0:Option Addr) (b0:Nat) (B1ox0:Option Addr) (b1ox0:Nat),v= .slice B0 X.length b0∧Own w D w' [row B0 X.length b0 (List.flatMap (eN .u64) X) 22 1,blk u [.slice B1ox0 r1.aa.ls.length b1ox0, .int .i64 r1.ai] 150]∧(aj 1 a b c.aa.ls B1ox0 b1ox0 r1.aa.ls)∧(X.length≤1000)):=by
 refine xU (args:= [.pointer (some ⟨u,0,none⟩), .int .i64 p1, .func (.func 51) #[] #[]]) Tryz.func99 rfl rfl rfl ?_
 show Wp _ _ _ [(0, .pointer (some ⟨u,0,none⟩)),(1, .int .i64 p1),(2, .func (.func 51) #[] #[])] _ _
 refine sr (Ar rfl (An rfl (xV (sr (An rfl ?_)))))
 obtain⟨Y,Z⟩:∃ q:((Option Addr) × Nat × (List Nat) × (Option Addr) × Nat × (List UInt8) × Int)→World→Prop,q=fun(i:(Option Addr) × Nat × (List Nat) × (Option Addr) × Nat × (List UInt8) × Int) w'=>Own w D w' [blk u [.slice i.2.2.2.1 i.2.2.2.2.2.1.length i.2.2.2.2.1, .int .i64 i.2.2.2.2.2.2] 150,row i.1 i.2.2.1.length i.2.1 (List.flatMap (eN .u64) i.2.2.1) 22 1]∧(aj 1 a b c.aa.ls i.2.2.2.1 i.2.2.2.2.1 i.2.2.2.2.2.1∧0≤i.2.2.1.length∧i.2.2.2.2.2.1.length≤c.aa.ls.length∧i.2.2.2.2.2.1.length≤c.aa.ls.length+1∧i.2.2.1.length≤1000∧(bnd (dP p1 ((Int.toNat p1 - 0)+1) ([]) 0 c.aa.ls c.ai) fun sLrJjL=>(sLrJjL.1,sLrJjL.2.1,sLrJjL.2.2))=(i.2.2.1,i.2.2.2.2.2.1,i.2.2.2.2.2.2)):=⟨_,rfl⟩
 have C:∀ {E:Option Addr} {F:Nat} {l:List Nat} {G:Option Addr} {I:Nat} {o:List UInt8} {J:Int} {w':World},Y (E,F,l,G,I,o,J) w'↔Own w D w' [blk u [.slice G o.length I, .int .i64 J] 150,row E l.length F (List.flatMap (eN .u64) l) 22 1]∧aj 1 a b c.aa.ls G I o∧0≤l.length∧o.length≤c.aa.ls.length∧o.length≤c.aa.ls.length+1∧l.length≤1000∧(bnd (dP p1 ((Int.toNat p1 - 0)+1) ([]) 0 c.aa.ls c.ai) fun sLrJjL=>(sLrJjL.1,sLrJjL.2.1,sLrJjL.2.2))=(l,o,J):=by intros; subst Z; exact Iff.rfl
 refine ze (fun i:(Option Addr) × Nat × (List Nat) × (Option Addr) × Nat × (List UInt8) × Int=> [(7, .slice i.1 i.2.2.1.length i.2.1),(6, .slice none 0 0)]) Y ?_ ?_
 refine bo ?_
 have aD:Own w D w [row none 0 0 (List.flatMap (eN .u64) ([])) 22 1,blk u [.slice a c.aa.ls.length b, .int .i64 c.ai] 150]:=H.free (fU 22 1)
 have aF:=aD.pk [1,0]
 obtain⟨aa,af⟩:∃ q:((Option Addr) × Nat × (List Nat) × Nat × (Option Addr) × Nat × (List UInt8) × Int × Nat)→World→Prop,q=fun(i:(Option Addr) × Nat × (List Nat) × Nat × (Option Addr) × Nat × (List UInt8) × Int × Nat) w'=>Own w D w' [blk u [.slice i.2.2.2.2.1 i.2.2.2.2.2.2.1.length i.2.2.2.2.2.1, .int .i64 i.2.2.2.2.2.2.2.1] 150,row i.1 i.2.2.1.length i.2.1 (List.flatMap (eN .u64) i.2.2.1) 22 1]∧(aj 1 a b c.aa.ls i.2.2.2.2.1 i.2.2.2.2.2.1 i.2.2.2.2.2.2.1∧i.2.2.1.length≤i.2.2.2.1∧(i.2.2.2.1=0∨((i.2.2.2.1:Nat):Int)≤p1)∧Int.toNat p1 - i.2.2.2.1 < i.2.2.2.2.2.2.2.2∧dP p1 ((Int.toNat p1 - 0)+1) ([]) 0 c.aa.ls c.ai=dP p1 i.2.2.2.2.2.2.2.2 i.2.2.1 i.2.2.2.1 i.2.2.2.2.2.2.1 i.2.2.2.2.2.2.2.1):=⟨_,rfl⟩
 have K:∀ {z:Option Addr} {A:Nat} {f:List Nat} {g:Nat} {p:Option Addr} {n:Nat} {h:List UInt8} {j:Int} {B:Nat} {w':World},aa (z,A,f,g,p,n,h,j,B) w'↔Own w D w' [blk u [.slice p h.length n, .int .i64 j] 150,row z f.length A (List.flatMap (eN .u64) f) 22 1]∧aj 1 a b c.aa.ls p n h∧f.length≤g∧(g=0∨((g:Nat):Int)≤p1)∧Int.toNat p1 - g < B∧dP p1 ((Int.toNat p1 - 0)+1) ([]) 0 c.aa.ls c.ai=dP p1 B f g h j:=by intros; subst af; exact Iff.rfl
 refine Wp.loop (fun i:(Option Addr) × Nat × (List Nat) × Nat × (Option Addr) × Nat × (List UInt8) × Int × Nat=> [(7, .slice i.1 i.2.2.1.length i.2.1),(8, .int .i64 ((i.2.2.2.1:Nat):Int)),(6, .slice none 0 0),(0, .pointer (some ⟨u,0,none⟩)),(1, .int .i64 p1),(2, .func (.func 51) #[] #[])]) aa (fun i=>i.2.2.2.2.2.2.2.2) (none,0, [],0,a,b,c.aa.ls,c.ai,(Int.toNat p1 - 0)+1) ⟨rfl,rfl,rfl,rfl,rfl,rfl,trivial⟩ (K.2 ⟨aF,(show aj 1 a b c.aa.ls a b c.aa.ls∧0≤0∧(0=0∨((0:Nat):Int)≤p1)∧Int.toNat p1 - 0 < ((Int.toNat p1 - 0)+1)∧dP p1 ((Int.toNat p1 - 0)+1) ([]) 0 c.aa.ls c.ai=dP p1 ((Int.toNat p1 - 0)+1) ([]) 0 c.aa.ls c.ai from ⟨by exact(aj.refl (by omega)),by omega,by omega,by omega,rfl⟩)⟩) ?_
 rintro ⟨z,A,f,g,p,n,h,j,B⟩ bA ag
 show Wp _ _ _ [(7, .slice z f.length A),(8, .int .i64 ((g:Nat):Int)),(6, .slice none 0 0),(0, .pointer (some ⟨u,0,none⟩)),(1, .int .i64 p1),(2, .func (.func 51) #[] #[])] _ _
 obtain⟨N,r,aT,aV,aW,L⟩:=K.1 ag
 have aX:=(r).le
 obtain⟨T,ah⟩:∃ q,B=q+1:=⟨B - 1,by omega⟩
 subst ah
 refine xV (sr (Mz rfl (Mz rfl (Kz (.bool (decide (((g:Nat):Int) < p1))) (Mz rfl ?_)))))
 by_cases d:((g:Nat):Int) < p1
 refine gw (.pointer (some ⟨u,0,none⟩)) (dT d) (yj rfl) (Gz (.pointer (some ⟨u,0,none⟩)) (dT d) (Gz (.pointer (some ⟨u,1,none⟩)) (dT d) (Gl (.int .i64 j) (dT d) N 0 Tryz.isAgg38 (Gz (.bool (decide (j=0))) (dT d) (fw (.bool (decide (j=0))) (yw rfl (dT d) rfl) (nt ?_))))))
 by_cases O:j=0
 refine jT (dT O) (sk (xV (bo (xS (Mz rfl (Mz rfl (Mz rfl ?_)))))))
 obtain⟨⟨t,M⟩,P⟩:∃ q:Nat × ReaderT,aQ (ReaderT.mk (Ll.mk h) j)=q:=⟨_,rfl⟩
 obtain⟨bB,ai,ak,au,aY⟩:=x8 N
 refine WL.do rfl (yB Tryz.call51 rfl rfl (cK _ _ u (ReaderT.mk (Ll.mk h) j) p n t M ai (fun w9 h9=>aj.rds aU (by decide) r ((ak _ S) w9 h9)) (show h.length≤n∧h.length≤9223372036854775807 from by omega) P) ?_)
 rintro _ bE ⟨U,V,rfl,av,x,Q⟩
 have aG:=au _ _ av
 replace x:aj 1 p n h U V M.aa.ls:=x
 have aZ:=(x).le
 have ax:aj 1 a b c.aa.ls U V M.aa.ls:=aj.trans r x
 replace Q:t≤18446744073709551615:=Q
 refine jR [.int .u64 ((t:Nat):Int)] 22 1 1 aG ?_
 intro aH bF W
 replace W:=yR (y:=row aH 1 1 (List.flatMap (eN .u64) ([t])) 22 1) rfl W
 have ay:=W.pk [2,0,1]
 refine WL.do rfl (yQ (k:=f.length) (m:=1) (jL) ay rfl rfl (jg Tryz.underlying25 (ay.rds (i:=1) rfl) (gV uT ([t]))) rfl (by omega) (s:=List.length (f++ [t])) (by first | omega | (simp only [List.length_append,List.length_cons,List.length_nil] <;> omega)) (List.flatMap_append).symm ?_)
 intro aI aJ bG aK
 have bf:List.length (f++ [t])=f.length+1:=by simp only [List.length_append,List.length_cons,List.length_nil]
 refine Az rfl (xY (bN (yg (xS (Mz rfl (fw (.int .i64 ((g+1:Nat):Int)) (ym (e:=IntKind.i64.wrap (((g:Nat):Int)+1)) yk (by rw [A8 _ (by omega)]; omega)) (Az rfl (xY ?_))))))))
 have aL:=aK.pk [2,0]
 exact yE (aI,aJ,(f++ [t]),g+1,U,V,M.aa.ls,M.ai,T) ⟨rfl,rfl,rfl,rfl,rfl,rfl,trivial⟩ (K.2 ⟨aL,by exact ax,by omega,by omega,by omega,et (L) (et (ip d) (et (ip O) (ae P)))⟩) (by show T < T+1; omega)
 refine jF (dF O) (Wp.exit (xX (xX (yx ?_))))
 have aM:=N.pk [0,1]
 exact yO (z,A,f,p,n,h,j) ⟨rfl,rfl,trivial⟩ (C.2 ⟨aM,by exact r,by omega,by omega,by omega,by omega,ae (et (L) (et (ip d) (iN O)))⟩)
 refine Sz (dF d) (Sz (dF d) (Sz (dF d) (Sz (dF d) (Sz (dF d) (fw (.bool false) (xW rfl (dF d) rfl) (nt (jf (Wp.exit (xX (xX (yx ?_)))))))))))
 have aN:=N.pk [0,1]
 exact yO (z,A,f,p,n,h,j) ⟨rfl,rfl,trivial⟩ (C.2 ⟨aN,by exact r,by omega,by omega,by omega,by omega,ae (et (L) (iN d))⟩)
 rintro ⟨E,F,l,G,I,o,J⟩ bH az
 show Wp _ _ _ [(7, .slice E l.length F),(6, .slice none 0 0)] _ _
 obtain⟨aO,R,bg,bi,bn,bq,aA⟩:=C.1 az
 have bv:=(R).le
 refine sr (Mz rfl (An rfl (rt (rs ?_))))
 have aP:=aO.pk [1,0]
 have e:jb c p1=(l,ReaderT.mk (Ll.mk o) J):=ae aA
 obtain⟨rfl,rfl⟩:=gD (e.symm.trans hr)
 exact⟨E,F,G,I,rfl,aP,R,(by omega)⟩
def ib (c:ReaderT) (p1:Nat):(List Nat) × ReaderT:=
 bnd (aD c p1) fun a=>bnd (jb a.2 ((a.1:Nat):Int)) fun b=>(b.1,b.2)
theorem mR (w:World) (D:Nat→Prop) (r:Nat) (d:ReaderT) (b:Option Addr) (a:Nat) (p1:Nat) (y:List Nat) (L:ReaderT) (H:Own w D w [blk r [.slice b d.aa.ls.length a, .int .i64 d.ai] 150]) (j:Ro w D fun w'=>bu w' 1 b d.aa.ls.length (List.flatMap eB d.aa.ls)) (M:d.aa.ls.length≤a∧d.aa.ls.length≤9223372036854775807) (Y:p1≤1000) (hr:ib d p1=(y,L)):
    Calls Tryz.prog 56 #[.pointer (some ⟨r,0,none⟩), .int .u64 ((p1:Nat):Int), .func (.func 51) #[] #[]] w (dC fun v w'=> ∃ (R:Option Addr) (S:Nat) (B1ox0:Option Addr) (b1ox0:Nat),v= .slice R y.length S∧Own w D w' [row R y.length S (List.flatMap (eN .u64) y) 22 1,blk r [.slice B1ox0 L.aa.ls.length b1ox0, .int .i64 L.ai] 150]∧(aj 1 b a d.aa.ls B1ox0 b1ox0 L.aa.ls)∧(y.length≤1000)):=by
 refine xU (args:= [.pointer (some ⟨r,0,none⟩), .int .u64 ((p1:Nat):Int), .func (.func 51) #[] #[]]) Tryz.func56 rfl rfl rfl ?_
 show Wp _ _ _ [(0, .pointer (some ⟨r,0,none⟩)),(1, .int .u64 ((p1:Nat):Int)),(2, .func (.func 51) #[] #[])] _ _
 refine sr (Ar rfl (Mz rfl (Mz rfl (Mz rfl ?_))))
 obtain⟨⟨h,f⟩,m⟩:∃ q:Nat × ReaderT,aD d p1=q:=⟨_,rfl⟩
 obtain⟨Z,z,A,B,T⟩:=x8 H
 refine cl Tryz.call93 (dY _ _ r d b a p1 h f z (A _ j) (show d.aa.ls.length≤a∧d.aa.ls.length≤9223372036854775807 from by omega) m) ?_
 rintro _ aa ⟨s,k,rfl,C,c,n⟩
 have N:=B _ _ C
 replace c:aj 1 b a d.aa.ls s k f.aa.ls:=c
 have U:=(c).le
 replace n:h≤p1:=n
 refine fw (.int .i64 ((h:Nat):Int)) (ym (e:=IntKind.i64.wrap ((h:Nat):Int)) yk (A8 _ (by omega))) (Mz rfl ?_)
 obtain⟨⟨t,l⟩,o⟩:∃ q:(List Nat) × ReaderT,jb f ((h:Nat):Int)=q:=⟨_,rfl⟩
 obtain⟨af,E,F,G,V⟩:=x8 N
 refine cl Tryz.call99 (mG _ _ r f s k ((h:Nat):Int) t l E (fun w9 h9=>aj.rds aU (by decide) c ((F _ j) w9 h9)) (show f.aa.ls.length≤k∧f.aa.ls.length≤9223372036854775807 from by omega) (by omega) o) ?_
 rintro _ ai ⟨O,P,u,x,rfl,I,g,p⟩
 have J:=G _ _ I
 replace g:aj 1 s k f.aa.ls u x l.aa.ls:=g
 have W:=(g).le
 have K:aj 1 b a d.aa.ls u x l.aa.ls:=aj.trans c g
 have X:=J.rowC (i:=0) rfl
 replace p:t.length≤1000:=p
 refine An rfl (rt (rs ?_))
 have Q:=J.pk [0,1]
 have e:ib d p1=(t,l):=et (ae m) (ae o)
 obtain⟨rfl,rfl⟩:=gD (e.symm.trans hr)
 exact⟨O,P,u,x,rfl,Q,K,(by omega)⟩
def bQ (q:List UInt8):bP × Int:=
 bnd (fK q (83:UInt8)) fun p=>bnd (dh p) fun j=>bnd (aQ j.2) fun k=>bnd (aQ k.2) fun l=>bnd (aQ l.2) fun a=>bnd (aQ a.2) fun b=>bnd (eX b.2 255) fun c=>bnd (gz c.2 255) fun d=>bnd (ib d.2 255) fun e=>bnd (aQ e.2) fun f=>bnd (aQ f.2) fun g=>bnd (gy g.2) fun h=>bnd (iI h.2) fun i=>bnd (dD i.2) fun o=>bnd (iw o) fun m=>if m=0 then bnd (bi (bP.mk j.1 k.1 l.1 a.1 b.1 (Ll.mk c.1) (Ll.mk d.1) (Ll.mk e.1) f.1 g.1 h.1 i.1)) fun n=>if n=0 then(bP.mk j.1 k.1 l.1 a.1 b.1 (Ll.mk c.1) (Ll.mk d.1) (Ll.mk e.1) f.1 g.1 h.1 i.1,0) else(bP.mk 0 0 0 0 0 (Ll.mk ([])) (Ll.mk ([])) (Ll.mk ([])) 0 0 (bE.mk ([]) ([])) (eU.mk 0 0 0 (bE.mk ([]) ([]))),n) else(bP.mk 0 0 0 0 0 (Ll.mk ([])) (Ll.mk ([])) (Ll.mk ([])) 0 0 (bE.mk ([]) ([])) (eU.mk 0 0 0 (bE.mk ([]) ([]))),m)
set_option maxHeartbeats 4000000 in
theorem jQ (w:World) (D:Nat→Prop) (A0:Option Addr) (n0 c0:Nat) (T:List UInt8) (r0:bP) (r1:Int) (H:Own w D w []) (R:Ro w D fun w'=>bu w' 1 A0 n0 (List.flatMap eB T)) (kK:n0=T.length) (ny:T.length *1≤211106232532992) (nz:T.length≤c0) (hr:bQ T=(r0,r1)):
    Calls Tryz.prog 15 #[.slice A0 n0 c0] w (dC fun v w'=> ∃ (eH:Option Addr) (eO:Nat) (eP:Option Addr) (eQ:Nat) (eT:Option Addr) (eY:Nat) (dm:List aL),v= .tuple #[.agg (dL r0 eH eO eP eQ eT eY).toArray, .int .i64 r1]∧Own w D w' [row eH r0.ag.ls.length eO (List.flatMap aC.cells r0.ag.ls) 54 2,row eP r0.aH.ls.length eQ (List.flatMap aL.cells dm) 66 2,sepL (List.flatMap yH dm),row eT r0.ax.ls.length eY (List.flatMap (eN .u64) r0.ax.ls) 22 1]∧(List.map yS dm=r0.aH.ls)∧(r0.ag.ls.length≤1000∧r0.aH.ls.length≤1000∧r0.ax.ls.length≤1000)):=by
 subst kK
 refine xU (args:= [.slice A0 T.length c0]) Tryz.func15 rfl rfl rfl ?_
 show Wp _ _ _ [(0, .slice A0 T.length c0)] _ _
 refine sr ?_
 refine dG (bF 0 0 0 0 0 none 0 0 none 0 0 none 0 0 0 0 ([]) ([]) 0 0 0 ([]) ([])) 31 H ?_
 intro E nA kL
 refine Ar rfl (Mz rfl ?_)
 obtain⟨bK,bN⟩:∃ q,fK T (83:UInt8)=q:=⟨_,rfl⟩
 obtain⟨nC,iP,iQ,iR,l5⟩:=yc kL
 refine cl Tryz.call49 (mr _ _ A0 T.length c0 T (83:UInt8) bK iP (iQ _ R) rfl (by omega) (by first | omega | (simp only [List.length_take,List.length_drop]; omega) | exact Nat.le_refl _) bN) ?_
 rintro _ nE ⟨y,fG,eG,rfl,iT,bg⟩
 have kM:=iR _ _ iT
 replace bg:aj 1 A0 c0 T fG eG bK.aa.ls:=bg
 have l6:=(bg).le
 refine Ar rfl (Mz rfl ?_)
 obtain⟨⟨z,V⟩,bO⟩:∃ q:Int × ReaderT,dh bK=q:=⟨_,rfl⟩
 obtain⟨nG,iU,iV,iW,l7⟩:=x8 kM
 refine cl Tryz.call50 (gH _ _ y bK fG eG z V iU (fun U S=>aj.rds aU (by decide) bg ((iV _ R) U S)) (show bK.aa.ls.length≤eG∧bK.aa.ls.length≤9223372036854775807 from by omega) bO) ?_
 rintro _ nH ⟨dn,cB,rfl,iX,bR,eZ⟩
 have kN:=iW _ _ iX
 replace bR:aj 1 fG eG bK.aa.ls dn cB V.aa.ls:=bR
 have l8:=(bR).le
 have fe:aj 1 A0 c0 T dn cB V.aa.ls:=aj.trans bg bR
 replace eZ:0≤z∧z≤255:=eZ
 refine Kz (.agg (bF z 0 0 0 0 none 0 0 none 0 0 none 0 0 0 0 ([]) ([]) 0 0 0 ([]) ([])).toArray) ?_
 refine dG (bF 0 0 0 0 0 none 0 0 none 0 0 none 0 0 0 0 ([]) ([]) 0 0 0 ([]) ([])) 31 kN ?_
 intro A nI kP
 refine cZ (bF z 0 0 0 0 none 0 0 none 0 0 none 0 0 0 0 ([]) ([]) 0 0 0 ([]) ([])) 0 kP Tryz.sizeOf31 ?_
 intro kQ fH
 replace fH:Own w D kQ [blk A (bF z 0 0 0 0 none 0 0 none 0 0 none 0 0 0 0 ([]) ([]) 0 0 0 ([]) ([])) 31,blk y [.slice dn V.aa.ls.length cB, .int .i64 V.ai] 150,blk E (bF 0 0 0 0 0 none 0 0 none 0 0 none 0 0 0 0 ([]) ([]) 0 0 0 ([]) ([])) 31]:=(fH)
 refine ns (Mz rfl ?_)
 have kS:=fH.pk [1,0,2]
 obtain⟨⟨B,W⟩,bS⟩:∃ q:Nat × ReaderT,aQ V=q:=⟨_,rfl⟩
 obtain⟨nJ,iY,iZ,ja,l9⟩:=x8 kS
 refine cl Tryz.call51 (cK _ _ y V dn cB B W iY (fun U S=>aj.rds aU (by decide) fe ((iZ _ R) U S)) (show V.aa.ls.length≤cB∧V.aa.ls.length≤9223372036854775807 from by omega) bS) ?_
 rintro _ nK ⟨dw,cO,rfl,jb,bT,fq⟩
 have kV:=ja _ _ jb
 replace bT:aj 1 dn cB V.aa.ls dw cO W.aa.ls:=bT
 have ma:=(bT).le
 have fu:aj 1 A0 c0 T dw cO W.aa.ls:=aj.trans fe bT
 replace fq:B≤18446744073709551615:=fq
 refine Kz (.pointer (some ⟨A,1,none⟩)) ?_
 have kY:=kV.pk [1,0,2]
 refine cZ [.int .u64 ((B:Nat):Int)] 1 kY Tryz.sizeOf22 ?_
 intro kZ fI
 replace fI:Own w D kZ [blk A (bF z B 0 0 0 none 0 0 none 0 0 none 0 0 0 0 ([]) ([]) 0 0 0 ([]) ([])) 31,blk y [.slice dw W.aa.ls.length cO, .int .i64 W.ai] 150,blk E (bF 0 0 0 0 0 none 0 0 none 0 0 none 0 0 0 0 ([]) ([]) 0 0 0 ([]) ([])) 31]:=(fI)
 refine ns (Mz rfl ?_)
 have lc:=fI.pk [1,0,2]
 obtain⟨⟨C,X⟩,bU⟩:∃ q:Nat × ReaderT,aQ W=q:=⟨_,rfl⟩
 obtain⟨nL,jc,jd,je,mg⟩:=x8 lc
 refine cl Tryz.call51 (cK _ _ y W dw cO C X jc (fun U S=>aj.rds aU (by decide) fu ((jd _ R) U S)) (show W.aa.ls.length≤cO∧W.aa.ls.length≤9223372036854775807 from by omega) bU) ?_
 rintro _ nM ⟨dx,df,rfl,jf,bW,fA⟩
 have lg:=je _ _ jf
 replace bW:aj 1 dw cO W.aa.ls dx df X.aa.ls:=bW
 have mh:=(bW).le
 have fB:aj 1 A0 c0 T dx df X.aa.ls:=aj.trans fu bW
 replace fA:C≤18446744073709551615:=fA
 refine Kz (.pointer (some ⟨A,2,none⟩)) ?_
 have jg:=lg.pk [1,0,2]
 refine cZ [.int .u64 ((C:Nat):Int)] 2 jg Tryz.sizeOf22 ?_
 intro jh dz
 replace dz:Own w D jh [blk A (bF z B C 0 0 none 0 0 none 0 0 none 0 0 0 0 ([]) ([]) 0 0 0 ([]) ([])) 31,blk y [.slice dx X.aa.ls.length df, .int .i64 X.ai] 150,blk E (bF 0 0 0 0 0 none 0 0 none 0 0 none 0 0 0 0 ([]) ([]) 0 0 0 ([]) ([])) 31]:=(dz)
 refine ns (Mz rfl ?_)
 have ji:=dz.pk [1,0,2]
 obtain⟨⟨r,I⟩,aA⟩:∃ q:Nat × ReaderT,aQ X=q:=⟨_,rfl⟩
 obtain⟨mi,fJ,fM,fO,lh⟩:=x8 ji
 refine cl Tryz.call51 (cK _ _ y X dx df r I fJ (fun U S=>aj.rds aU (by decide) fB ((fM _ R) U S)) (show X.aa.ls.length≤df∧X.aa.ls.length≤9223372036854775807 from by omega) aA) ?_
 rintro _ mo ⟨bn,Y,rfl,fP,aB,dA⟩
 have jk:=fO _ _ fP
 replace aB:aj 1 dx df X.aa.ls bn Y I.aa.ls:=aB
 have ll:=(aB).le
 have dB:aj 1 A0 c0 T bn Y I.aa.ls:=aj.trans fB aB
 replace dA:r≤18446744073709551615:=dA
 refine Kz (.pointer (some ⟨A,3,none⟩)) ?_
 have jl:=jk.pk [1,0,2]
 refine cZ [.int .u64 ((r:Nat):Int)] 3 jl Tryz.sizeOf22 ?_
 intro jm dE
 replace dE:Own w D jm [blk A (bF z B C r 0 none 0 0 none 0 0 none 0 0 0 0 ([]) ([]) 0 0 0 ([]) ([])) 31,blk y [.slice bn I.aa.ls.length Y, .int .i64 I.ai] 150,blk E (bF 0 0 0 0 0 none 0 0 none 0 0 none 0 0 0 0 ([]) ([]) 0 0 0 ([]) ([])) 31]:=(dE)
 refine ns (Mz rfl ?_)
 have jo:=dE.pk [1,0,2]
 obtain⟨⟨s,J⟩,aD⟩:∃ q:Nat × ReaderT,aQ I=q:=⟨_,rfl⟩
 obtain⟨mq,fQ,fT,fV,lm⟩:=x8 jo
 refine cl Tryz.call51 (cK _ _ y I bn Y s J fQ (fun U S=>aj.rds aU (by decide) dB ((fT _ R) U S)) (show I.aa.ls.length≤Y∧I.aa.ls.length≤9223372036854775807 from by omega) aD) ?_
 rintro _ mD ⟨bq,Z,rfl,fZ,aF,dH⟩
 have jq:=fV _ _ fZ
 replace aF:aj 1 bn Y I.aa.ls bq Z J.aa.ls:=aF
 have lq:=(aF).le
 have dI:aj 1 A0 c0 T bq Z J.aa.ls:=aj.trans dB aF
 replace dH:s≤18446744073709551615:=dH
 refine Kz (.pointer (some ⟨A,4,none⟩)) ?_
 have jr:=jq.pk [1,0,2]
 refine cZ [.int .u64 ((s:Nat):Int)] 4 jr Tryz.sizeOf22 ?_
 intro jv dJ
 replace dJ:Own w D jv [blk A (bF z B C r s none 0 0 none 0 0 none 0 0 0 0 ([]) ([]) 0 0 0 ([]) ([])) 31,blk y [.slice bq J.aa.ls.length Z, .int .i64 J.ai] 150,blk E (bF 0 0 0 0 0 none 0 0 none 0 0 none 0 0 0 0 ([]) ([]) 0 0 0 ([]) ([])) 31]:=(dJ)
 refine ns (Mz rfl ?_)
 have jw:=dJ.pk [1,0,2]
 obtain⟨⟨b,K⟩,aG⟩:∃ q:(List aC) × ReaderT,eX J 255=q:=⟨_,rfl⟩
 obtain⟨mE,gm,gp,gq,lu⟩:=x8 jw
 refine cl Tryz.call52 (kr _ _ y J bq Z 255 b K gm (fun U S=>aj.rds aU (by decide) dI ((gp _ R) U S)) (show J.aa.ls.length≤Z∧J.aa.ls.length≤9223372036854775807 from by omega) (by omega) aG) ?_
 rintro _ mF ⟨g,f,bv,aa,rfl,gu,aH,dK⟩
 have fC:=gq _ _ gu
 replace aH:aj 1 bq Z J.aa.ls bv aa K.aa.ls:=aH
 have lv:=(aH).le
 have dM:aj 1 A0 c0 T bv aa K.aa.ls:=aj.trans dI aH
 have lw:=fC.rowC (i:=0) rfl
 replace dK:b.length≤1000:=dK
 refine Kz (.pointer (some ⟨A,5,none⟩)) ?_
 have jy:=fC.pk [2,0,1,3]
 refine cZ [.slice g b.length f] 5 jy Tryz.sizeOf23 ?_
 intro jA dN
 replace dN:Own w D jA [blk A (bF z B C r s g b.length f none 0 0 none 0 0 0 0 ([]) ([]) 0 0 0 ([]) ([])) 31,row g b.length f (List.flatMap aC.cells b) 54 2,blk y [.slice bv K.aa.ls.length aa, .int .i64 K.ai] 150,blk E (bF 0 0 0 0 0 none 0 0 none 0 0 none 0 0 0 0 ([]) ([]) 0 0 0 ([]) ([])) 31]:=(dN)
 refine ns (Mz rfl ?_)
 have jB:=dN.pk [2,0,1,3]
 obtain⟨⟨d,L⟩,aI⟩:∃ q:(List fo) × ReaderT,gz K 255=q:=⟨_,rfl⟩
 obtain⟨mG,gB,gF,gG,lC⟩:=x8 jB
 refine cl Tryz.call54 (mf _ _ y K bv aa 255 d L gB (fun U S=>aj.rds aU (by decide) dM ((gF _ R) U S)) (show K.aa.ls.length≤aa∧K.aa.ls.length≤9223372036854775807 from by omega) (by omega) aI) ?_
 rintro _ mH ⟨j,h,p,bz,af,rfl,gI,bL,aJ,dO⟩
 have fD:=gG _ _ gI
 replace aJ:aj 1 bv aa K.aa.ls bz af L.aa.ls:=aJ
 have lD:=(aJ).le
 have dP:aj 1 A0 c0 T bz af L.aa.ls:=aj.trans dM aJ
 have lF:=bV bL
 have lG:=fD.rowC (i:=0) rfl
 replace dO:d.length≤1000:=dO
 refine Kz (.pointer (some ⟨A,6,none⟩)) ?_
 have jC:=fD.pk [3,0,1,2,4,5]
 refine cZ [.slice j d.length h] 6 jC Tryz.sizeOf24 ?_
 intro jD dQ
 replace dQ:Own w D jD [blk A (bF z B C r s g b.length f j d.length h none 0 0 0 0 ([]) ([]) 0 0 0 ([]) ([])) 31,row j d.length h (List.flatMap aL.cells p) 66 2,sepL (List.flatMap yH p),blk y [.slice bz L.aa.ls.length af, .int .i64 L.ai] 150,row g b.length f (List.flatMap aC.cells b) 54 2,blk E (bF 0 0 0 0 0 none 0 0 none 0 0 none 0 0 0 0 ([]) ([]) 0 0 0 ([]) ([])) 31]:=(dQ)
 refine ns (Mz rfl ?_)
 have jE:=dQ.pk [3,0,1,2,4,5]
 obtain⟨⟨c,M⟩,aK⟩:∃ q:(List Nat) × ReaderT,ib L 255=q:=⟨_,rfl⟩
 obtain⟨mI,gJ,gK,gL,lH⟩:=x8 jE
 refine cl Tryz.call56 (mR _ _ y L bz af 255 c M gJ (fun U S=>aj.rds aU (by decide) dP ((gK _ R) U S)) (show L.aa.ls.length≤af∧L.aa.ls.length≤9223372036854775807 from by omega) (by omega) aK) ?_
 rintro _ mJ ⟨o,n,bA,ag,rfl,gM,aM,dR⟩
 have fE:=gL _ _ gM
 replace aM:aj 1 bz af L.aa.ls bA ag M.aa.ls:=aM
 have lI:=(aM).le
 have dS:aj 1 A0 c0 T bA ag M.aa.ls:=aj.trans dP aM
 have lJ:=fE.rowC (i:=0) rfl
 replace dR:c.length≤1000:=dR
 refine Kz (.pointer (some ⟨A,7,none⟩)) ?_
 have jG:=fE.pk [2,0,1,3,4,5,6]
 refine cZ [.slice o c.length n] 7 jG Tryz.sizeOf25 ?_
 intro jI dU
 replace dU:Own w D jI [blk A (bF z B C r s g b.length f j d.length h o c.length n 0 0 ([]) ([]) 0 0 0 ([]) ([])) 31,row o c.length n (List.flatMap (eN .u64) c) 22 1,blk y [.slice bA M.aa.ls.length ag, .int .i64 M.ai] 150,row j d.length h (List.flatMap aL.cells p) 66 2,sepL (List.flatMap yH p),row g b.length f (List.flatMap aC.cells b) 54 2,blk E (bF 0 0 0 0 0 none 0 0 none 0 0 none 0 0 0 0 ([]) ([]) 0 0 0 ([]) ([])) 31]:=(dU)
 refine ns (Mz rfl ?_)
 have jJ:=dU.pk [2,0,1,3,4,5,6]
 obtain⟨⟨u,N⟩,aN⟩:∃ q:Nat × ReaderT,aQ M=q:=⟨_,rfl⟩
 obtain⟨mK,gN,gP,gQ,lK⟩:=x8 jJ
 refine cl Tryz.call51 (cK _ _ y M bA ag u N gN (fun U S=>aj.rds aU (by decide) dS ((gP _ R) U S)) (show M.aa.ls.length≤ag∧M.aa.ls.length≤9223372036854775807 from by omega) aN) ?_
 rintro _ mM ⟨bB,ah,rfl,gT,aO,dV⟩
 have jK:=gQ _ _ gT
 replace aO:aj 1 bA ag M.aa.ls bB ah N.aa.ls:=aO
 have lL:=(aO).le
 have dW:aj 1 A0 c0 T bB ah N.aa.ls:=aj.trans dS aO
 replace dV:u≤18446744073709551615:=dV
 refine Kz (.pointer (some ⟨A,8,none⟩)) ?_
 have jL:=jK.pk [1,0,2,3,4,5,6]
 refine cZ [.int .u64 ((u:Nat):Int)] 8 jL Tryz.sizeOf22 ?_
 intro jM dX
 replace dX:Own w D jM [blk A (bF z B C r s g b.length f j d.length h o c.length n u 0 ([]) ([]) 0 0 0 ([]) ([])) 31,blk y [.slice bB N.aa.ls.length ah, .int .i64 N.ai] 150,row o c.length n (List.flatMap (eN .u64) c) 22 1,row j d.length h (List.flatMap aL.cells p) 66 2,sepL (List.flatMap yH p),row g b.length f (List.flatMap aC.cells b) 54 2,blk E (bF 0 0 0 0 0 none 0 0 none 0 0 none 0 0 0 0 ([]) ([]) 0 0 0 ([]) ([])) 31]:=(dX)
 refine ns (Mz rfl ?_)
 have jN:=dX.pk [1,0,2,3,4,5,6]
 obtain⟨⟨x,O⟩,aP⟩:∃ q:Nat × ReaderT,aQ N=q:=⟨_,rfl⟩
 obtain⟨mO,gU,gV,gW,lM⟩:=x8 jN
 refine cl Tryz.call51 (cK _ _ y N bB ah x O gU (fun U S=>aj.rds aU (by decide) dW ((gV _ R) U S)) (show N.aa.ls.length≤ah∧N.aa.ls.length≤9223372036854775807 from by omega) aP) ?_
 rintro _ mP ⟨bC,ai,rfl,gX,aR,dY⟩
 have jO:=gW _ _ gX
 replace aR:aj 1 bB ah N.aa.ls bC ai O.aa.ls:=aR
 have lN:=(aR).le
 have dZ:aj 1 A0 c0 T bC ai O.aa.ls:=aj.trans dW aR
 replace dY:x≤18446744073709551615:=dY
 refine Kz (.pointer (some ⟨A,9,none⟩)) ?_
 have jP:=jO.pk [1,0,2,3,4,5,6]
 refine cZ [.int .u64 ((x:Nat):Int)] 9 jP Tryz.sizeOf22 ?_
 intro jR d9
 replace d9:Own w D jR [blk A (bF z B C r s g b.length f j d.length h o c.length n u x ([]) ([]) 0 0 0 ([]) ([])) 31,blk y [.slice bC O.aa.ls.length ai, .int .i64 O.ai] 150,row o c.length n (List.flatMap (eN .u64) c) 22 1,row j d.length h (List.flatMap aL.cells p) 66 2,sepL (List.flatMap yH p),row g b.length f (List.flatMap aC.cells b) 54 2,blk E (bF 0 0 0 0 0 none 0 0 none 0 0 none 0 0 0 0 ([]) ([]) 0 0 0 ([]) ([])) 31]:=(d9)
 refine ns (Mz rfl ?_)
 have jS:=d9.pk [1,0,2,3,4,5,6]
 obtain⟨⟨l,P⟩,aS⟩:∃ q:bE × ReaderT,gy O=q:=⟨_,rfl⟩
 obtain⟨mQ,gY,gZ,ic,lQ⟩:=x8 jS
 refine cl Tryz.call57 (kW _ _ y O bC ai l P gY (fun U S=>aj.rds aU (by decide) dZ ((gZ _ R) U S)) (show O.aa.ls.length≤ai∧O.aa.ls.length≤9223372036854775807 from by omega) aS) ?_
 rintro _ mU ⟨bD,ak,rfl,ik,aT⟩
 have jU:=ic _ _ ik
 replace aT:aj 1 bC ai O.aa.ls bD ak P.aa.ls:=aT
 have lS:=(aT).le
 have ed:aj 1 A0 c0 T bD ak P.aa.ls:=aj.trans dZ aT
 refine Kz (.pointer (some ⟨A,10,none⟩)) ?_
 have jV:=jU.pk [1,0,2,3,4,5,6]
 refine cZ (bE.cells l) 10 jV Tryz.sizeOf27 ?_
 intro jW ek
 replace ek:Own w D jW [blk A (bF z B C r s g b.length f j d.length h o c.length n u x l.aJ l.aO 0 0 0 ([]) ([])) 31,blk y [.slice bD P.aa.ls.length ak, .int .i64 P.ai] 150,row o c.length n (List.flatMap (eN .u64) c) 22 1,row j d.length h (List.flatMap aL.cells p) 66 2,sepL (List.flatMap yH p),row g b.length f (List.flatMap aC.cells b) 54 2,blk E (bF 0 0 0 0 0 none 0 0 none 0 0 none 0 0 0 0 ([]) ([]) 0 0 0 ([]) ([])) 31]:=(ek)
 refine ns (Mz rfl ?_)
 have jX:=ek.pk [1,0,2,3,4,5,6]
 obtain⟨⟨a,Q⟩,aV⟩:∃ q:eU × ReaderT,iI P=q:=⟨_,rfl⟩
 obtain⟨mV,il,iq,iy,lT⟩:=x8 jX
 refine cl Tryz.call58 (nD _ _ y P bD ak a Q il (fun U S=>aj.rds aU (by decide) ed ((iq _ R) U S)) (show P.aa.ls.length≤ak∧P.aa.ls.length≤9223372036854775807 from by omega) aV) ?_
 rintro _ mW ⟨bG,au,rfl,iA,aW⟩
 have jY:=iy _ _ iA
 replace aW:aj 1 bD ak P.aa.ls bG au Q.aa.ls:=aW
 have lU:=(aW).le
 have eu:aj 1 A0 c0 T bG au Q.aa.ls:=aj.trans ed aW
 refine Kz (.pointer (some ⟨A,12,none⟩)) ?_
 have jZ:=jY.pk [1,0,2,3,4,5,6]
 refine cZ (eU.cells a) 12 jZ Tryz.sizeOf29 ?_
 intro j3 eD
 replace eD:Own w D j3 [blk A (bF z B C r s g b.length f j d.length h o c.length n u x l.aJ l.aO a.bA a.bG a.dR a.aR.aJ a.aR.aO) 31,blk y [.slice bG Q.aa.ls.length au, .int .i64 Q.ai] 150,row o c.length n (List.flatMap (eN .u64) c) 22 1,row j d.length h (List.flatMap aL.cells p) 66 2,sepL (List.flatMap yH p),row g b.length f (List.flatMap aC.cells b) 54 2,blk E (bF 0 0 0 0 0 none 0 0 none 0 0 none 0 0 0 0 ([]) ([]) 0 0 0 ([]) ([])) 31]:=(eD)
 refine ns (Mz rfl ?_)
 have j4:=eD.pk [1,0,2,3,4,5,6]
 obtain⟨t,aX⟩:∃ q,dD Q=q:=⟨_,rfl⟩
 obtain⟨mX,iB,iC,iD,lV⟩:=x8 j4
 refine cl Tryz.call59 (kT _ _ y Q bG au t iB (fun U S=>aj.rds aU (by decide) eu ((iC _ R) U S)) (show Q.aa.ls.length≤au∧Q.aa.ls.length≤9223372036854775807 from by omega) aX) ?_
 rintro _ mY ⟨G,F,rfl,iE,aY⟩
 have j5:=iD _ _ iE
 replace aY:aj 1 bG au Q.aa.ls G F t.aa.ls:=aY
 have lW:=(aY).le
 have iF:aj 1 A0 c0 T G F t.aa.ls:=aj.trans eu aY
 refine nt (xV (sr (Mz rfl ?_)))
 obtain⟨av,aZ⟩:∃ q,iw t=q:=⟨_,rfl⟩
 obtain⟨mZ,iG,iH,iJ,lX⟩:=x8 j5
 refine cl Tryz.call60 (kU _ _ y t G F av iG (fun U S=>aj.rds aU (by decide) iF ((iH _ R) U S)) (show t.aa.ls.length≤F∧t.aa.ls.length≤9223372036854775807 from by omega) aZ) ?_
 rintro _ ng ⟨rfl,iK⟩
 have bX:=iJ _ _ iK
 refine Ar rfl (Mz rfl (fw (.bool (decide (¬ (av=0)))) (yJ (e:= !(decide (av=0))) yk decide_not.symm) (nt ?_)))
 by_cases bH:av=0
 refine jF (dF (Ba bH)) (sk (xV (sr (La (bF z B C r s g b.length f j d.length h o c.length n u x l.aJ l.aO a.bA a.bG a.dR a.aR.aJ a.aR.aO) bX 1 Tryz.isAgg31 Tryz.sizeOf31 ?_))))
 obtain⟨ax,bM⟩:∃ q,bi (bP.mk z B C r s (Ll.mk b) (Ll.mk d) (Ll.mk c) u x l a)=q:=⟨_,rfl⟩
 obtain⟨ni,iL,lY,iM,bf⟩:=yc bX
 refine cl Tryz.call11 (kR _ _ (bP.mk z B C r s (Ll.mk b) (Ll.mk d) (Ll.mk c) u x l a) g b.length f j d.length h p o c.length n ax iL rfl (bf _ 5 _ rfl ig) (show b.length≤f∧b.length≤9223372036854775807 from by omega) bL rfl (bf _ 3 _ rfl ig) (show d.length≤h∧d.length≤9223372036854775807 from by omega) (fun x9 S=>⟨bf _ 4 _ rfl (jH (List.mem_flatMap.2 ⟨x9,S, .head _⟩) ig),oU (φ:=fun _=>_) bX (i:=4) rfl (jH (List.mem_flatMap.2 ⟨x9,S, .head _⟩) nZ)⟩) rfl (bf _ 2 _ rfl ig) (show c.length≤n∧c.length≤9223372036854775807 from by omega) (by first | omega | (dsimp only; omega) | (simp only [List.length_nil]; omega) | decide) bM) ?_
 rintro _ nu ⟨rfl,iO⟩
 have eF:=iM _ _ iO
 refine Ar rfl (Mz rfl (fw (.bool (decide (¬ (ax=0)))) (yJ (e:= !(decide (ax=0))) yk decide_not.symm) (nt ?_)))
 by_cases bY:ax=0
 refine jF (dF (Ba bY)) (sk (sr (La (bF z B C r s g b.length f j d.length h o c.length n u x l.aJ l.aO a.bA a.bG a.dR a.aR.aJ a.aR.aO) eF 1 Tryz.isAgg31 Tryz.sizeOf31 ?_)))
 have j6:=eF.pk [6,0,1,2,3,4,5]
 refine cZ (bF z B C r s g b.length f j d.length h o c.length n u x l.aJ l.aO a.bA a.bG a.dR a.aR.aJ a.aR.aO) 0 j6 Tryz.sizeOf31 ?_
 intro kg bZ
 replace bZ:Own w D kg [blk E (bF z B C r s g b.length f j d.length h o c.length n u x l.aJ l.aO a.bA a.bG a.dR a.aR.aJ a.aR.aO) 31,blk y [.slice G t.aa.ls.length F, .int .i64 t.ai] 150,blk A (bF z B C r s g b.length f j d.length h o c.length n u x l.aJ l.aO a.bA a.bG a.dR a.aR.aJ a.aR.aO) 31,row o c.length n (List.flatMap (eN .u64) c) 22 1,row j d.length h (List.flatMap aL.cells p) 66 2,sepL (List.flatMap yH p),row g b.length f (List.flatMap aC.cells b) 54 2]:=(bZ)
 refine An rfl (rt (yI (kX (vs:= [.agg (bF z B C r s g b.length f j d.length h o c.length n u x l.aJ l.aO a.bA a.bG a.dR a.aR.aJ a.aR.aO).toArray, .int .i64 0]) rfl (fF.cell rfl (yD (cs:=(bF z B C r s g b.length f j d.length h o c.length n u x l.aJ l.aO a.bA a.bG a.dR a.aR.aJ a.aR.aO)) Tryz.isAgg31 Tryz.sizeOf31 ((bZ.cls (i:=0) rfl).lit (k:=0) (m:=17) rfl)) (fF.tmp rfl fF.nil)) (A7 rfl)) ?_))
 have ko:=bZ.pk [6,4,5,3]
 have e:bQ T=(bP.mk z B C r s (Ll.mk b) (Ll.mk d) (Ll.mk c) u x l a,0):=et (ae bN) (et (ae bO) (et (ae bS) (et (ae bU) (et (ae aA) (et (ae aD) (et (ae aG) (et (ae aI) (et (ae aK) (et (ae aN) (et (ae aP) (et (ae aS) (et (ae aV) (et (ae aX) (et (ae aZ) (et (ip bH) (et (ae bM) (ip bY)))))))))))))))))
 obtain⟨rfl,rfl⟩:=gD (e.symm.trans hr)
 exact⟨g,f,j,h,o,n,p,rfl,ko,bL,(by first | omega | (dsimp only; omega) | (simp only [List.length_nil]; omega) | decide)⟩
 refine jT (dT bY) (sr (Kz (.agg (bF 0 0 0 0 0 none 0 0 none 0 0 none 0 0 0 0 ([]) ([]) 0 0 0 ([]) ([])).toArray) (Mz rfl ?_)))
 have ku:=eF.pk [6,0,1,2,3,4,5]
 refine cZ (bF 0 0 0 0 0 none 0 0 none 0 0 none 0 0 0 0 ([]) ([]) 0 0 0 ([]) ([])) 0 ku Tryz.sizeOf31 ?_
 intro bI cu
 replace cu:Own w D bI [blk E (bF 0 0 0 0 0 none 0 0 none 0 0 none 0 0 0 0 ([]) ([]) 0 0 0 ([]) ([])) 31,blk y [.slice G t.aa.ls.length F, .int .i64 t.ai] 150,blk A (bF z B C r s g b.length f j d.length h o c.length n u x l.aJ l.aO a.bA a.bG a.dR a.aR.aJ a.aR.aO) 31,row o c.length n (List.flatMap (eN .u64) c) 22 1,row j d.length h (List.flatMap aL.cells p) 66 2,sepL (List.flatMap yH p),row g b.length f (List.flatMap aC.cells b) 54 2]:=(cu)
 refine An rfl (rt (tR (yI (kX (vs:= [.agg (bF 0 0 0 0 0 none 0 0 none 0 0 none 0 0 0 0 ([]) ([]) 0 0 0 ([]) ([])).toArray, .int .i64 ax]) rfl (fF.cell rfl (yD (cs:=(bF 0 0 0 0 0 none 0 0 none 0 0 none 0 0 0 0 ([]) ([]) 0 0 0 ([]) ([]))) Tryz.isAgg31 Tryz.sizeOf31 ((cu.cls (i:=0) rfl).lit (k:=0) (m:=17) rfl)) (fF.tmp rfl fF.nil)) (A7 rfl)) ?_)))
 have kv:Own w D bI [row none 0 0 (List.flatMap aC.cells ([])) 54 2,blk E (bF 0 0 0 0 0 none 0 0 none 0 0 none 0 0 0 0 ([]) ([]) 0 0 0 ([]) ([])) 31,blk y [.slice G t.aa.ls.length F, .int .i64 t.ai] 150,blk A (bF z B C r s g b.length f j d.length h o c.length n u x l.aJ l.aO a.bA a.bG a.dR a.aR.aJ a.aR.aO) 31,row o c.length n (List.flatMap (eN .u64) c) 22 1,row j d.length h (List.flatMap aL.cells p) 66 2,sepL (List.flatMap yH p),row g b.length f (List.flatMap aC.cells b) 54 2]:=cu.free (fU 54 2)
 have kw:Own w D bI [sepL (List.flatMap yH ([])),row none 0 0 (List.flatMap aC.cells ([])) 54 2,blk E (bF 0 0 0 0 0 none 0 0 none 0 0 none 0 0 0 0 ([]) ([]) 0 0 0 ([]) ([])) 31,blk y [.slice G t.aa.ls.length F, .int .i64 t.ai] 150,blk A (bF z B C r s g b.length f j d.length h o c.length n u x l.aJ l.aO a.bA a.bG a.dR a.aR.aJ a.aR.aO) 31,row o c.length n (List.flatMap (eN .u64) c) 22 1,row j d.length h (List.flatMap aL.cells p) 66 2,sepL (List.flatMap yH p),row g b.length f (List.flatMap aC.cells b) 54 2]:=kv.sepNil
 have ky:Own w D bI [row none 0 0 (List.flatMap aL.cells ([])) 66 2,sepL (List.flatMap yH ([])),row none 0 0 (List.flatMap aC.cells ([])) 54 2,blk E (bF 0 0 0 0 0 none 0 0 none 0 0 none 0 0 0 0 ([]) ([]) 0 0 0 ([]) ([])) 31,blk y [.slice G t.aa.ls.length F, .int .i64 t.ai] 150,blk A (bF z B C r s g b.length f j d.length h o c.length n u x l.aJ l.aO a.bA a.bG a.dR a.aR.aJ a.aR.aO) 31,row o c.length n (List.flatMap (eN .u64) c) 22 1,row j d.length h (List.flatMap aL.cells p) 66 2,sepL (List.flatMap yH p),row g b.length f (List.flatMap aC.cells b) 54 2]:=kw.free (fU 66 2)
 have kz:Own w D bI [row none 0 0 (List.flatMap (eN .u64) ([])) 22 1,row none 0 0 (List.flatMap aL.cells ([])) 66 2,sepL (List.flatMap yH ([])),row none 0 0 (List.flatMap aC.cells ([])) 54 2,blk E (bF 0 0 0 0 0 none 0 0 none 0 0 none 0 0 0 0 ([]) ([]) 0 0 0 ([]) ([])) 31,blk y [.slice G t.aa.ls.length F, .int .i64 t.ai] 150,blk A (bF z B C r s g b.length f j d.length h o c.length n u x l.aJ l.aO a.bA a.bG a.dR a.aR.aJ a.aR.aO) 31,row o c.length n (List.flatMap (eN .u64) c) 22 1,row j d.length h (List.flatMap aL.cells p) 66 2,sepL (List.flatMap yH p),row g b.length f (List.flatMap aC.cells b) 54 2]:=ky.free (fU 22 1)
 have kC:=kz.pk [3,1,2,0]
 have e:bQ T=(bP.mk 0 0 0 0 0 (Ll.mk ([])) (Ll.mk ([])) (Ll.mk ([])) 0 0 (bE.mk ([]) ([])) (eU.mk 0 0 0 (bE.mk ([]) ([]))),ax):=et (ae bN) (et (ae bO) (et (ae bS) (et (ae bU) (et (ae aA) (et (ae aD) (et (ae aG) (et (ae aI) (et (ae aK) (et (ae aN) (et (ae aP) (et (ae aS) (et (ae aV) (et (ae aX) (et (ae aZ) (et (ip bH) (et (ae bM) (iN bY)))))))))))))))))
 obtain⟨rfl,rfl⟩:=gD (e.symm.trans hr)
 exact⟨none,0,none,0,none,0, [],rfl,kC,rfl,(by first | omega | (dsimp only; omega) | (simp only [List.length_nil]; omega) | decide)⟩
 refine jT (dT bH) (sr (Kz (.agg (bF 0 0 0 0 0 none 0 0 none 0 0 none 0 0 0 0 ([]) ([]) 0 0 0 ([]) ([])).toArray) (Mz rfl ?_)))
 have kD:=bX.pk [6,0,1,2,3,4,5]
 refine cZ (bF 0 0 0 0 0 none 0 0 none 0 0 none 0 0 0 0 ([]) ([]) 0 0 0 ([]) ([])) 0 kD Tryz.sizeOf31 ?_
 intro bJ cz
 replace cz:Own w D bJ [blk E (bF 0 0 0 0 0 none 0 0 none 0 0 none 0 0 0 0 ([]) ([]) 0 0 0 ([]) ([])) 31,blk y [.slice G t.aa.ls.length F, .int .i64 t.ai] 150,blk A (bF z B C r s g b.length f j d.length h o c.length n u x l.aJ l.aO a.bA a.bG a.dR a.aR.aJ a.aR.aO) 31,row o c.length n (List.flatMap (eN .u64) c) 22 1,row j d.length h (List.flatMap aL.cells p) 66 2,sepL (List.flatMap yH p),row g b.length f (List.flatMap aC.cells b) 54 2]:=(cz)
 refine An rfl (rt (tR (yI (kX (vs:= [.agg (bF 0 0 0 0 0 none 0 0 none 0 0 none 0 0 0 0 ([]) ([]) 0 0 0 ([]) ([])).toArray, .int .i64 av]) rfl (fF.cell rfl (yD (cs:=(bF 0 0 0 0 0 none 0 0 none 0 0 none 0 0 0 0 ([]) ([]) 0 0 0 ([]) ([]))) Tryz.isAgg31 Tryz.sizeOf31 ((cz.cls (i:=0) rfl).lit (k:=0) (m:=17) rfl)) (fF.tmp rfl fF.nil)) (A7 rfl)) ?_)))
 have kE:Own w D bJ [row none 0 0 (List.flatMap aC.cells ([])) 54 2,blk E (bF 0 0 0 0 0 none 0 0 none 0 0 none 0 0 0 0 ([]) ([]) 0 0 0 ([]) ([])) 31,blk y [.slice G t.aa.ls.length F, .int .i64 t.ai] 150,blk A (bF z B C r s g b.length f j d.length h o c.length n u x l.aJ l.aO a.bA a.bG a.dR a.aR.aJ a.aR.aO) 31,row o c.length n (List.flatMap (eN .u64) c) 22 1,row j d.length h (List.flatMap aL.cells p) 66 2,sepL (List.flatMap yH p),row g b.length f (List.flatMap aC.cells b) 54 2]:=cz.free (fU 54 2)
 have kF:Own w D bJ [sepL (List.flatMap yH ([])),row none 0 0 (List.flatMap aC.cells ([])) 54 2,blk E (bF 0 0 0 0 0 none 0 0 none 0 0 none 0 0 0 0 ([]) ([]) 0 0 0 ([]) ([])) 31,blk y [.slice G t.aa.ls.length F, .int .i64 t.ai] 150,blk A (bF z B C r s g b.length f j d.length h o c.length n u x l.aJ l.aO a.bA a.bG a.dR a.aR.aJ a.aR.aO) 31,row o c.length n (List.flatMap (eN .u64) c) 22 1,row j d.length h (List.flatMap aL.cells p) 66 2,sepL (List.flatMap yH p),row g b.length f (List.flatMap aC.cells b) 54 2]:=kE.sepNil
 have kG:Own w D bJ [row none 0 0 (List.flatMap aL.cells ([])) 66 2,sepL (List.flatMap yH ([])),row none 0 0 (List.flatMap aC.cells ([])) 54 2,blk E (bF 0 0 0 0 0 none 0 0 none 0 0 none 0 0 0 0 ([]) ([]) 0 0 0 ([]) ([])) 31,blk y [.slice G t.aa.ls.length F, .int .i64 t.ai] 150,blk A (bF z B C r s g b.length f j d.length h o c.length n u x l.aJ l.aO a.bA a.bG a.dR a.aR.aJ a.aR.aO) 31,row o c.length n (List.flatMap (eN .u64) c) 22 1,row j d.length h (List.flatMap aL.cells p) 66 2,sepL (List.flatMap yH p),row g b.length f (List.flatMap aC.cells b) 54 2]:=kF.free (fU 66 2)
 have kH:Own w D bJ [row none 0 0 (List.flatMap (eN .u64) ([])) 22 1,row none 0 0 (List.flatMap aL.cells ([])) 66 2,sepL (List.flatMap yH ([])),row none 0 0 (List.flatMap aC.cells ([])) 54 2,blk E (bF 0 0 0 0 0 none 0 0 none 0 0 none 0 0 0 0 ([]) ([]) 0 0 0 ([]) ([])) 31,blk y [.slice G t.aa.ls.length F, .int .i64 t.ai] 150,blk A (bF z B C r s g b.length f j d.length h o c.length n u x l.aJ l.aO a.bA a.bG a.dR a.aR.aJ a.aR.aO) 31,row o c.length n (List.flatMap (eN .u64) c) 22 1,row j d.length h (List.flatMap aL.cells p) 66 2,sepL (List.flatMap yH p),row g b.length f (List.flatMap aC.cells b) 54 2]:=kG.free (fU 22 1)
 have kI:=kH.pk [3,1,2,0]
 have e:bQ T=(bP.mk 0 0 0 0 0 (Ll.mk ([])) (Ll.mk ([])) (Ll.mk ([])) 0 0 (bE.mk ([]) ([])) (eU.mk 0 0 0 (bE.mk ([]) ([]))),av):=et (ae bN) (et (ae bO) (et (ae bS) (et (ae bU) (et (ae aA) (et (ae aD) (et (ae aG) (et (ae aI) (et (ae aK) (et (ae aN) (et (ae aP) (et (ae aS) (et (ae aV) (et (ae aX) (et (ae aZ) (iN bH)))))))))))))))
 obtain⟨rfl,rfl⟩:=gD (e.symm.trans hr)
 exact⟨none,0,none,0,none,0, [],rfl,kI,rfl,(by first | omega | (dsimp only; omega) | (simp only [List.length_nil]; omega) | decide)⟩
end Go.Proofs.YtcnkpjheifkgnaaGreat
