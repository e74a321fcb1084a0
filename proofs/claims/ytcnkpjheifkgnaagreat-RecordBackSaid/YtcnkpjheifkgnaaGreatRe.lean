/-
 record: a shard's state of bytes.
-/
import Derived.Test.YtcnkpjheifkgnaaGreatRd
namespace Go.Proofs.YtcnkpjheifkgnaaGreat
set_option maxRecDepth 100000
open Go.RowKit
set_option linter.unusedVariables false
set_option linter.unusedSectionVars false
set_option linter.unusedSimpArgs false
def dD (p1:Int):Nat→List aH→Nat→List UInt8→Int→(List aH) × (List UInt8) × Int
  | 0,c,e,d,a=>default
  | f+1,c,e,d,a=>if((e:Nat):Int) < p1 then if a=0 then bnd (ji (ReaderT.mk (Ll.mk d) a)) fun b=>dD p1 f (c++ [b.1]) (e+1) b.2.aa.ls b.2.av else(c,d,a) else(c,d,a)
def ja (a:ReaderT) (p1:Int):(List aH) × ReaderT:=
 bnd (bnd (dD p1 ((Int.toNat p1 - 0)+1) ([]) 0 a.aa.ls a.av) fun sLrJjL=>(sLrJjL.1,sLrJjL.2.1,sLrJjL.2.2)) fun sJrJ=>(sJrJ.1,ReaderT.mk (Ll.mk sJrJ.2.1) sJrJ.2.2)
theorem mD (w:World) (D:Nat→Prop) (t:Nat) (c:ReaderT) (a:Option Addr) (b:Nat) (p1:Int) (W:List aH) (r1:ReaderT) (H:Own w D w [blk t [.slice a c.aa.ls.length b, .int .i64 c.av] 150]) (R:Ro w D fun w'=>bn w' 1 a c.aa.ls.length (List.flatMap eB c.aa.ls)) (aB:c.aa.ls.length≤b∧c.aa.ls.length≤9223372036854775807) (bv:p1≤1000) (hr:ja c p1=(W,r1)):
    Calls Tryz.prog 94 #[.pointer (some ⟨t,0,none⟩), .int .i64 p1, .func (.func 53) #[] #[]] w (dE fun v w'=> ∃ (B0:Option Addr) (b0:Nat) (B1ox0:Option Addr) (b1ox0:Nat),v= .slice B0 W.length b0∧Own w D w' [row B0 W.length b0 (List.flatMap aH.cells W) 54 2,blk t [.slice B1ox0 r1.aa.ls.length b1ox0, .int .i64 r1.av] 150]∧(ay 1 a b c.aa.ls B1ox0 b1ox0 r1.aa.ls)∧(W.length≤1000)):=by
 refine zg (args:= [.pointer (some ⟨t,0,none⟩), .int .i64 p1, .func (.func 53) #[] #[]]) Tryz.func94 rfl rfl rfl ?_
 show Wp _ _ _ [(0, .pointer (some ⟨t,0,none⟩)),(1, .int .i64 p1),(2, .func (.func 53) #[] #[])] _ _
 refine sr (Ar rfl (An rfl (ze (sr (An rfl ?_)))))
 obtain⟨X,Y⟩:∃ q:((Option Addr) × Nat × (List aH) × (Option Addr) × Nat × (List UInt8) × Int)→World→Prop,q=fun(i:(Option Addr) × Nat × (List aH) × (Option Addr) × Nat × (List UInt8) × Int) w'=>Own w D w' [blk t [.slice i.2.2.2.1 i.2.2.2.2.2.1.length i.2.2.2.2.1, .int .i64 i.2.2.2.2.2.2] 150,row i.1 i.2.2.1.length i.2.1 (List.flatMap aH.cells i.2.2.1) 54 2]∧(ay 1 a b c.aa.ls i.2.2.2.1 i.2.2.2.2.1 i.2.2.2.2.2.1∧0≤i.2.2.1.length∧i.2.2.2.2.2.1.length≤c.aa.ls.length∧i.2.2.2.2.2.1.length≤c.aa.ls.length+1∧i.2.2.1.length≤1000∧(bnd (dD p1 ((Int.toNat p1 - 0)+1) ([]) 0 c.aa.ls c.av) fun sLrJjL=>(sLrJjL.1,sLrJjL.2.1,sLrJjL.2.2))=(i.2.2.1,i.2.2.2.2.2.1,i.2.2.2.2.2.2)):=⟨_,rfl⟩
 have C:∀ {E:Option Addr} {F:Nat} {l:List aH} {G:Option Addr} {I:Nat} {o:List UInt8} {J:Int} {w':World},X (E,F,l,G,I,o,J) w'↔Own w D w' [blk t [.slice G o.length I, .int .i64 J] 150,row E l.length F (List.flatMap aH.cells l) 54 2]∧ay 1 a b c.aa.ls G I o∧0≤l.length∧o.length≤c.aa.ls.length∧o.length≤c.aa.ls.length+1∧l.length≤1000∧(bnd (dD p1 ((Int.toNat p1 - 0)+1) ([]) 0 c.aa.ls c.av) fun sLrJjL=>(sLrJjL.1,sLrJjL.2.1,sLrJjL.2.2))=(l,o,J):=by intros; subst Y; exact Iff.rfl
 refine Ae (fun i:(Option Addr) × Nat × (List aH) × (Option Addr) × Nat × (List UInt8) × Int=> [(7, .slice i.1 i.2.2.1.length i.2.1),(6, .slice none 0 0)]) X ?_ ?_
 refine bo ?_
 have aC:Own w D w [row none 0 0 (List.flatMap aH.cells ([])) 54 2,blk t [.slice a c.aa.ls.length b, .int .i64 c.av] 150]:=H.free (gX 54 2)
 have aD:=aC.pk [1,0]
 obtain⟨Z,aa⟩:∃ q:((Option Addr) × Nat × (List aH) × Nat × (Option Addr) × Nat × (List UInt8) × Int × Nat)→World→Prop,q=fun(i:(Option Addr) × Nat × (List aH) × Nat × (Option Addr) × Nat × (List UInt8) × Int × Nat) w'=>Own w D w' [blk t [.slice i.2.2.2.2.1 i.2.2.2.2.2.2.1.length i.2.2.2.2.2.1, .int .i64 i.2.2.2.2.2.2.2.1] 150,row i.1 i.2.2.1.length i.2.1 (List.flatMap aH.cells i.2.2.1) 54 2]∧(ay 1 a b c.aa.ls i.2.2.2.2.1 i.2.2.2.2.2.1 i.2.2.2.2.2.2.1∧i.2.2.1.length≤i.2.2.2.1∧(i.2.2.2.1=0∨((i.2.2.2.1:Nat):Int)≤p1)∧Int.toNat p1 - i.2.2.2.1 < i.2.2.2.2.2.2.2.2∧dD p1 ((Int.toNat p1 - 0)+1) ([]) 0 c.aa.ls c.av=dD p1 i.2.2.2.2.2.2.2.2 i.2.2.1 i.2.2.2.1 i.2.2.2.2.2.2.1 i.2.2.2.2.2.2.2.1):=⟨_,rfl⟩
 have K:∀ {z:Option Addr} {A:Nat} {f:List aH} {g:Nat} {p:Option Addr} {n:Nat} {h:List UInt8} {j:Int} {B:Nat} {w':World},Z (z,A,f,g,p,n,h,j,B) w'↔Own w D w' [blk t [.slice p h.length n, .int .i64 j] 150,row z f.length A (List.flatMap aH.cells f) 54 2]∧ay 1 a b c.aa.ls p n h∧f.length≤g∧(g=0∨((g:Nat):Int)≤p1)∧Int.toNat p1 - g < B∧dD p1 ((Int.toNat p1 - 0)+1) ([]) 0 c.aa.ls c.av=dD p1 B f g h j:=by intros; subst aa; exact Iff.rfl
 refine Wp.loop (fun i:(Option Addr) × Nat × (List aH) × Nat × (Option Addr) × Nat × (List UInt8) × Int × Nat=> [(7, .slice i.1 i.2.2.1.length i.2.1),(8, .int .i64 ((i.2.2.2.1:Nat):Int)),(6, .slice none 0 0),(0, .pointer (some ⟨t,0,none⟩)),(1, .int .i64 p1),(2, .func (.func 53) #[] #[])]) Z (fun i=>i.2.2.2.2.2.2.2.2) (none,0, [],0,a,b,c.aa.ls,c.av,(Int.toNat p1 - 0)+1) ⟨rfl,rfl,rfl,rfl,rfl,rfl,trivial⟩ (K.2 ⟨aD,(show ay 1 a b c.aa.ls a b c.aa.ls∧0≤0∧(0=0∨((0:Nat):Int)≤p1)∧Int.toNat p1 - 0 < ((Int.toNat p1 - 0)+1)∧dD p1 ((Int.toNat p1 - 0)+1) ([]) 0 c.aa.ls c.av=dD p1 ((Int.toNat p1 - 0)+1) ([]) 0 c.aa.ls c.av from ⟨by exact(ay.refl (by omega)),by omega,by omega,by omega,rfl⟩)⟩) ?_
 rintro ⟨z,A,f,g,p,n,h,j,B⟩ bz af
 show Wp _ _ _ [(7, .slice z f.length A),(8, .int .i64 ((g:Nat):Int)),(6, .slice none 0 0),(0, .pointer (some ⟨t,0,none⟩)),(1, .int .i64 p1),(2, .func (.func 53) #[] #[])] _ _
 obtain⟨N,r,aS,aT,aU,L⟩:=K.1 af
 have aV:=(r).le
 obtain⟨S,ag⟩:∃ q,B=q+1:=⟨B - 1,by omega⟩
 subst ag
 refine ze (sr (Mz rfl (Mz rfl (Kz (.bool (decide (((g:Nat):Int) < p1))) (Mz rfl ?_)))))
 by_cases d:((g:Nat):Int) < p1
 refine gw (.pointer (some ⟨t,0,none⟩)) (dT d) (zo rfl) (Gz (.pointer (some ⟨t,0,none⟩)) (dT d) (Gz (.pointer (some ⟨t,1,none⟩)) (dT d) (Gl (.int .i64 j) (dT d) N 0 Tryz.isAgg38 (Gz (.bool (decide (j=0))) (dT d) (fw (.bool (decide (j=0))) (zf rfl (dT d) rfl) (nt ?_))))))
 by_cases O:j=0
 refine jT (dT O) (sk (ze (bo (zb (Mz rfl (Mz rfl (Mz rfl ?_)))))))
 obtain⟨⟨u,M⟩,P⟩:∃ q:aH × ReaderT,ji (ReaderT.mk (Ll.mk h) j)=q:=⟨_,rfl⟩
 obtain⟨bA,ah,ai,aj,aW⟩:=zx N
 refine WL.do rfl (zK Tryz.call53 rfl rfl (ol _ _ t (ReaderT.mk (Ll.mk h) j) p n u M ah (fun w9 h9=>ay.rds bi (by decide) r ((ai _ R) w9 h9)) (show h.length≤n∧h.length≤9223372036854775807 from by omega) P) ?_)
 rintro _ bD ⟨T,U,rfl,ak,x⟩
 have aF:=aj _ _ ak
 replace x:ay 1 p n h T U M.aa.ls:=x
 have aX:=(x).le
 have au:ay 1 a b c.aa.ls T U M.aa.ls:=ay.trans r x
 refine kF (aH.cells u) 54 2 1 aF ?_
 intro aG bE V
 replace V:=zY (y:=row aG 1 1 (List.flatMap aH.cells ([u])) 54 2) rfl V
 have av:=V.pk [2,0,1]
 refine WL.do rfl (Aa (k:=f.length) (m:=1) (mF) av rfl rfl (j3 Tryz.underlying23 (av.rds (i:=1) rfl) (jA aH.one ([u]))) rfl (by omega) (s:=List.length (f++ [u])) (by first | omega | (simp only [List.length_append,List.length_cons,List.length_nil] <;> omega)) (List.flatMap_append).symm ?_)
 intro aI aJ bF aK
 have aY:List.length (f++ [u])=f.length+1:=by simp only [List.length_append,List.length_cons,List.length_nil]
 refine Az rfl (zq (bN (zu (zb (Mz rfl (fw (.int .i64 ((g+1:Nat):Int)) (zy (e:=IntKind.i64.wrap (((g:Nat):Int)+1)) yk (by rw [Cb _ (by omega)]; omega)) (Az rfl (zq ?_))))))))
 have aL:=aK.pk [2,0]
 exact zH (aI,aJ,(f++ [u]),g+1,T,U,M.aa.ls,M.av,S) ⟨rfl,rfl,rfl,rfl,rfl,rfl,trivial⟩ (K.2 ⟨aL,by exact au,by omega,by omega,by omega,et (L) (et (ip d) (et (ip O) (ae P)))⟩) (by show S < S+1; omega)
 refine jF (dF O) (Wp.exit (zk (zk (zA ?_))))
 have aM:=N.pk [0,1]
 exact zU (z,A,f,p,n,h,j) ⟨rfl,rfl,trivial⟩ (C.2 ⟨aM,by exact r,by omega,by omega,by omega,by omega,ae (et (L) (et (ip d) (iN O)))⟩)
 refine Sz (dF d) (Sz (dF d) (Sz (dF d) (Sz (dF d) (Sz (dF d) (fw (.bool false) (zh rfl (dF d) rfl) (nt (jf (Wp.exit (zk (zk (zA ?_)))))))))))
 have aN:=N.pk [0,1]
 exact zU (z,A,f,p,n,h,j) ⟨rfl,rfl,trivial⟩ (C.2 ⟨aN,by exact r,by omega,by omega,by omega,by omega,ae (et (L) (iN d))⟩)
 rintro ⟨E,F,l,G,I,o,J⟩ bG ax
 show Wp _ _ _ [(7, .slice E l.length F),(6, .slice none 0 0)] _ _
 obtain⟨aO,Q,aZ,bf,bg,bq,az⟩:=C.1 ax
 have bu:=(Q).le
 refine sr (Mz rfl (An rfl (rt (rs ?_))))
 have aP:=aO.pk [1,0]
 have e:ja c p1=(l,ReaderT.mk (Ll.mk o) J):=ae az
 obtain⟨rfl,rfl⟩:=ig (e.symm.trans hr)
 exact⟨E,F,G,I,rfl,aP,Q,(by omega)⟩
def fJ (c:ReaderT) (p1:Nat):(List aH) × ReaderT:=
 bnd (aI c p1) fun a=>bnd (ja a.2 ((a.1:Nat):Int)) fun b=>(b.1,b.2)
theorem kM (w:World) (D:Nat→Prop) (r:Nat) (d:ReaderT) (b:Option Addr) (a:Nat) (p1:Nat) (y:List aH) (L:ReaderT) (H:Own w D w [blk r [.slice b d.aa.ls.length a, .int .i64 d.av] 150]) (j:Ro w D fun w'=>bn w' 1 b d.aa.ls.length (List.flatMap eB d.aa.ls)) (M:d.aa.ls.length≤a∧d.aa.ls.length≤9223372036854775807) (Y:p1≤1000) (hr:fJ d p1=(y,L)):
    Calls Tryz.prog 52 #[.pointer (some ⟨r,0,none⟩), .int .u64 ((p1:Nat):Int), .func (.func 53) #[] #[]] w (dE fun v w'=> ∃ (R:Option Addr) (S:Nat) (B1ox0:Option Addr) (b1ox0:Nat),v= .slice R y.length S∧Own w D w' [row R y.length S (List.flatMap aH.cells y) 54 2,blk r [.slice B1ox0 L.aa.ls.length b1ox0, .int .i64 L.av] 150]∧(ay 1 b a d.aa.ls B1ox0 b1ox0 L.aa.ls)∧(y.length≤1000)):=by
 refine zg (args:= [.pointer (some ⟨r,0,none⟩), .int .u64 ((p1:Nat):Int), .func (.func 53) #[] #[]]) Tryz.func52 rfl rfl rfl ?_
 show Wp _ _ _ [(0, .pointer (some ⟨r,0,none⟩)),(1, .int .u64 ((p1:Nat):Int)),(2, .func (.func 53) #[] #[])] _ _
 refine sr (Ar rfl (Mz rfl (Mz rfl (Mz rfl ?_))))
 obtain⟨⟨h,f⟩,m⟩:∃ q:Nat × ReaderT,aI d p1=q:=⟨_,rfl⟩
 obtain⟨Z,z,A,B,T⟩:=zx H
 refine cl Tryz.call93 (eT _ _ r d b a p1 h f z (A _ j) (show d.aa.ls.length≤a∧d.aa.ls.length≤9223372036854775807 from by omega) m) ?_
 rintro _ aa ⟨s,k,rfl,C,c,n⟩
 have N:=B _ _ C
 replace c:ay 1 b a d.aa.ls s k f.aa.ls:=c
 have U:=(c).le
 replace n:h≤p1:=n
 refine fw (.int .i64 ((h:Nat):Int)) (zy (e:=IntKind.i64.wrap ((h:Nat):Int)) yk (Cb _ (by omega))) (Mz rfl ?_)
 obtain⟨⟨t,l⟩,o⟩:∃ q:(List aH) × ReaderT,ja f ((h:Nat):Int)=q:=⟨_,rfl⟩
 obtain⟨af,E,F,G,V⟩:=zx N
 refine cl Tryz.call94 (mD _ _ r f s k ((h:Nat):Int) t l E (fun w9 h9=>ay.rds bi (by decide) c ((F _ j) w9 h9)) (show f.aa.ls.length≤k∧f.aa.ls.length≤9223372036854775807 from by omega) (by omega) o) ?_
 rintro _ ai ⟨O,P,u,x,rfl,I,g,p⟩
 have J:=G _ _ I
 replace g:ay 1 s k f.aa.ls u x l.aa.ls:=g
 have W:=(g).le
 have K:ay 1 b a d.aa.ls u x l.aa.ls:=ay.trans c g
 have X:=J.rowC (i:=0) rfl
 replace p:t.length≤1000:=p
 refine An rfl (rt (rs ?_))
 have Q:=J.pk [0,1]
 have e:fJ d p1=(t,l):=et (ae m) (ae o)
 obtain⟨rfl,rfl⟩:=ig (e.symm.trans hr)
 exact⟨O,P,u,x,rfl,Q,K,(by omega)⟩
def dK (p1:Int):Nat→List fK→Nat→List UInt8→Int→(List fK) × (List UInt8) × Int
  | 0,c,e,d,a=>default
  | f+1,c,e,d,a=>if((e:Nat):Int) < p1 then if a=0 then bnd (iU (ReaderT.mk (Ll.mk d) a)) fun b=>dK p1 f (c++ [b.1]) (e+1) b.2.aa.ls b.2.av else(c,d,a) else(c,d,a)
def iF (a:ReaderT) (p1:Int):(List fK) × ReaderT:=
 bnd (bnd (dK p1 ((Int.toNat p1 - 0)+1) ([]) 0 a.aa.ls a.av) fun sLrJjL=>(sLrJjL.1,sLrJjL.2.1,sLrJjL.2.2)) fun sJrJ=>(sJrJ.1,ReaderT.mk (Ll.mk sJrJ.2.1) sJrJ.2.2)
theorem mK (w:World) (D:Nat→Prop) (x:Nat) (d:ReaderT) (b:Option Addr) (c:Nat) (p1:Int) (r0:List fK) (r1:ReaderT) (H:Own w D w [blk x [.slice b d.aa.ls.length c, .int .i64 d.av] 150]) (af:Ro w D fun w'=>bn w' 1 b d.aa.ls.length (List.flatMap eB d.aa.ls)) (aR:d.aa.ls.length≤c∧d.aa.ls.length≤9223372036854775807) (bR:p1≤1000) (hr:iF d p1=(r0,r1)):
    Calls Tryz.prog 96 #[.pointer (some ⟨x,0,none⟩), .int .i64 p1, .func (.func 55) #[] #[]] w (dE fun v w'=> ∃ (B0:Option Addr) (b0:Nat) (e0:List aP) (B1ox0:Option Addr) (b1ox0:Nat),v= .slice B0 r0.length b0∧Own w D w' [row B0 r0.length b0 (List.flatMap aP.cells e0) 66 2,sepL (List.flatMap zN e0),blk x [.slice B1ox0 r1.aa.ls.length b1ox0, .int .i64 r1.av] 150]∧(List.map zV e0=r0)∧(ay 1 b c d.aa.ls B1ox0 b1ox0 r1.aa.ls)∧(r0.length≤1000)):=by
 refine zg (args:= [.pointer (some ⟨x,0,none⟩), .int .i64 p1, .func (.func 55) #[] #[]]) Tryz.func96 rfl rfl rfl ?_
 show Wp _ _ _ [(0, .pointer (some ⟨x,0,none⟩)),(1, .int .i64 p1),(2, .func (.func 55) #[] #[])] _ _
 refine sr (Ar rfl (An rfl (ze (sr (An rfl ?_)))))
 obtain⟨au,av⟩:∃ q:((Option Addr) × Nat × (List aP) × (List fK) × (Option Addr) × Nat × (List UInt8) × Int)→World→Prop,q=fun(i:(Option Addr) × Nat × (List aP) × (List fK) × (Option Addr) × Nat × (List UInt8) × Int) w'=>Own w D w' [blk x [.slice i.2.2.2.2.1 i.2.2.2.2.2.2.1.length i.2.2.2.2.2.1, .int .i64 i.2.2.2.2.2.2.2] 150,row i.1 i.2.2.2.1.length i.2.1 (List.flatMap aP.cells i.2.2.1) 66 2,sepL (List.flatMap zN i.2.2.1)]∧(List.map zV i.2.2.1=i.2.2.2.1∧ay 1 b c d.aa.ls i.2.2.2.2.1 i.2.2.2.2.2.1 i.2.2.2.2.2.2.1∧0≤i.2.2.2.1.length∧i.2.2.2.2.2.2.1.length≤d.aa.ls.length∧i.2.2.2.2.2.2.1.length≤d.aa.ls.length+1∧i.2.2.2.1.length≤1000∧(bnd (dK p1 ((Int.toNat p1 - 0)+1) ([]) 0 d.aa.ls d.av) fun sLrJjL=>(sLrJjL.1,sLrJjL.2.1,sLrJjL.2.2))=(i.2.2.2.1,i.2.2.2.2.2.2.1,i.2.2.2.2.2.2.2)):=⟨_,rfl⟩
 have L:∀ {M:Option Addr} {N:Nat} {G:List aP} {t:List fK} {O:Option Addr} {P:Nat} {z:List UInt8} {Q:Int} {w':World},au (M,N,G,t,O,P,z,Q) w'↔Own w D w' [blk x [.slice O z.length P, .int .i64 Q] 150,row M t.length N (List.flatMap aP.cells G) 66 2,sepL (List.flatMap zN G)]∧List.map zV G=t∧ay 1 b c d.aa.ls O P z∧0≤t.length∧z.length≤d.aa.ls.length∧z.length≤d.aa.ls.length+1∧t.length≤1000∧(bnd (dK p1 ((Int.toNat p1 - 0)+1) ([]) 0 d.aa.ls d.av) fun sLrJjL=>(sLrJjL.1,sLrJjL.2.1,sLrJjL.2.2))=(t,z,Q):=by intros; subst av; exact Iff.rfl
 refine Ae (fun i:(Option Addr) × Nat × (List aP) × (List fK) × (Option Addr) × Nat × (List UInt8) × Int=> [(7, .slice i.1 i.2.2.2.1.length i.2.1),(6, .slice none 0 0)]) au ?_ ?_
 refine bo ?_
 have aT:Own w D w [sepL (List.flatMap zN ([])),blk x [.slice b d.aa.ls.length c, .int .i64 d.av] 150]:=H.sepNil
 have aU:Own w D w [row none 0 0 (List.flatMap aP.cells ([])) 66 2,sepL (List.flatMap zN ([])),blk x [.slice b d.aa.ls.length c, .int .i64 d.av] 150]:=aT.free (gX 66 2)
 have aV:=aU.pk [2,0,1]
 obtain⟨ax,az⟩:∃ q:((Option Addr) × Nat × (List aP) × (List fK) × Nat × (Option Addr) × Nat × (List UInt8) × Int × Nat)→World→Prop,q=fun(i:(Option Addr) × Nat × (List aP) × (List fK) × Nat × (Option Addr) × Nat × (List UInt8) × Int × Nat) w'=>Own w D w' [blk x [.slice i.2.2.2.2.2.1 i.2.2.2.2.2.2.2.1.length i.2.2.2.2.2.2.1, .int .i64 i.2.2.2.2.2.2.2.2.1] 150,row i.1 i.2.2.2.1.length i.2.1 (List.flatMap aP.cells i.2.2.1) 66 2,sepL (List.flatMap zN i.2.2.1)]∧(List.map zV i.2.2.1=i.2.2.2.1∧ay 1 b c d.aa.ls i.2.2.2.2.2.1 i.2.2.2.2.2.2.1 i.2.2.2.2.2.2.2.1∧i.2.2.2.1.length≤i.2.2.2.2.1∧(i.2.2.2.2.1=0∨((i.2.2.2.2.1:Nat):Int)≤p1)∧Int.toNat p1 - i.2.2.2.2.1 < i.2.2.2.2.2.2.2.2.2∧dK p1 ((Int.toNat p1 - 0)+1) ([]) 0 d.aa.ls d.av=dK p1 i.2.2.2.2.2.2.2.2.2 i.2.2.2.1 i.2.2.2.2.1 i.2.2.2.2.2.2.2.1 i.2.2.2.2.2.2.2.2.1):=⟨_,rfl⟩
 have R:∀ {I:Option Addr} {J:Nat} {o:List aP} {g:List fK} {j:Nat} {A:Option Addr} {u:Nat} {l:List UInt8} {n:Int} {K:Nat} {w':World},ax (I,J,o,g,j,A,u,l,n,K) w'↔Own w D w' [blk x [.slice A l.length u, .int .i64 n] 150,row I g.length J (List.flatMap aP.cells o) 66 2,sepL (List.flatMap zN o)]∧List.map zV o=g∧ay 1 b c d.aa.ls A u l∧g.length≤j∧(j=0∨((j:Nat):Int)≤p1)∧Int.toNat p1 - j < K∧dK p1 ((Int.toNat p1 - 0)+1) ([]) 0 d.aa.ls d.av=dK p1 K g j l n:=by intros; subst az; exact Iff.rfl
 refine Wp.loop (fun i:(Option Addr) × Nat × (List aP) × (List fK) × Nat × (Option Addr) × Nat × (List UInt8) × Int × Nat=> [(7, .slice i.1 i.2.2.2.1.length i.2.1),(8, .int .i64 ((i.2.2.2.2.1:Nat):Int)),(6, .slice none 0 0),(0, .pointer (some ⟨x,0,none⟩)),(1, .int .i64 p1),(2, .func (.func 55) #[] #[])]) ax (fun i=>i.2.2.2.2.2.2.2.2.2) (none,0, [], [],0,b,c,d.aa.ls,d.av,(Int.toNat p1 - 0)+1) ⟨rfl,rfl,rfl,rfl,rfl,rfl,trivial⟩ (R.2 ⟨aV,(show List.map zV ([])=([])∧ay 1 b c d.aa.ls b c d.aa.ls∧0≤0∧(0=0∨((0:Nat):Int)≤p1)∧Int.toNat p1 - 0 < ((Int.toNat p1 - 0)+1)∧dK p1 ((Int.toNat p1 - 0)+1) ([]) 0 d.aa.ls d.av=dK p1 ((Int.toNat p1 - 0)+1) ([]) 0 d.aa.ls d.av from ⟨by exact rfl,by exact(ay.refl (by omega)),by omega,by omega,by omega,rfl⟩)⟩) ?_
 rintro ⟨I,J,o,g,j,A,u,l,n,K⟩ bT aA
 show Wp _ _ _ [(7, .slice I g.length J),(8, .int .i64 ((j:Nat):Int)),(6, .slice none 0 0),(0, .pointer (some ⟨x,0,none⟩)),(1, .int .i64 p1),(2, .func (.func 55) #[] #[])] _ _
 obtain⟨V,B,C,bG,bH,bI,S⟩:=R.1 aA
 have bJ:=bS B
 have bK:=(C).le
 obtain⟨ag,aB⟩:∃ q,K=q+1:=⟨K - 1,by omega⟩
 subst aB
 refine ze (sr (Mz rfl (Mz rfl (Kz (.bool (decide (((j:Nat):Int) < p1))) (Mz rfl ?_)))))
 by_cases h:((j:Nat):Int) < p1
 refine gw (.pointer (some ⟨x,0,none⟩)) (dT h) (zo rfl) (Gz (.pointer (some ⟨x,0,none⟩)) (dT h) (Gz (.pointer (some ⟨x,1,none⟩)) (dT h) (Gl (.int .i64 n) (dT h) V 0 Tryz.isAgg38 (Gz (.bool (decide (n=0))) (dT h) (fw (.bool (decide (n=0))) (zf rfl (dT h) rfl) (nt ?_))))))
 by_cases W:n=0
 refine jT (dT W) (sk (ze (bo (zb (Mz rfl (Mz rfl (Mz rfl ?_)))))))
 obtain⟨⟨a,E⟩,Z⟩:∃ q:fK × ReaderT,iU (ReaderT.mk (Ll.mk l) n)=q:=⟨_,rfl⟩
 obtain⟨bU,aC,aD,aF,bL⟩:=zx V
 refine WL.do rfl (zK Tryz.call55 rfl rfl (oJ _ _ x (ReaderT.mk (Ll.mk l) n) A u a E aC (fun w9 h9=>ay.rds bi (by decide) C ((aD _ af) w9 h9)) (show l.length≤u∧l.length≤9223372036854775807 from by omega) Z) ?_)
 rintro _ bX ⟨p,r,X,Y,rfl,aG,F,aa⟩
 have aH:=aF _ _ aG
 replace F:ay 1 A u l X Y E.aa.ls:=F
 have bM:=(F).le
 have aI:ay 1 b c d.aa.ls X Y E.aa.ls:=ay.trans C F
 have bO:=aH.rowC (i:=0) rfl
 replace aa:a.aL.ls.length≤1000:=aa
 refine kF [.int .u64 ((a.aS:Nat):Int), .slice p a.aL.ls.length r] 66 2 1 aH ?_
 intro aJ bY ah
 replace ah:=zY (y:=row aJ 1 1 (List.flatMap aP.cells ([(aP.mk a.aS (Sv.mk p r a.aL.ls))])) 66 2) rfl ah
 have aK:=ah.pk [3,4,1,0,2]
 refine WL.do rfl (Aa (k:=g.length) (m:=1) (nR) aK rfl rfl (j3 Tryz.underlying24 (aK.rds (i:=3) rfl) (jA aP.one ([(aP.mk a.aS (Sv.mk p r a.aL.ls))]))) rfl (by omega) (s:=List.length (g++ [a])) (by first | omega | (simp only [List.length_append,List.length_cons,List.length_nil] <;> omega)) (List.flatMap_append).symm ?_)
 intro aL aM aX aY
 have aZ:=aY.pk [1,2,0,3,4]
 have bf:Own w D aX [sepL (List.flatMap zN (o++ [(aP.mk a.aS (Sv.mk p r a.aL.ls))])),row aL (List.length (g++ [a])) aM (List.flatMap aP.cells (o++ [(aP.mk a.aS (Sv.mk p r a.aL.ls))])) 66 2,row aJ 1 1 (List.flatMap aP.cells ([(aP.mk a.aS (Sv.mk p r a.aL.ls))])) 66 2,blk x [.slice X E.aa.ls.length Y, .int .i64 E.av] 150]:=aZ.sepAdd (L2:= [row p a.aL.ls.length r (List.flatMap aW.cells a.aL.ls) 74 6]) (List.flatMap_append (f:=zN) (xs:=o) (ys:= [(aP.mk a.aS (Sv.mk p r a.aL.ls))])).symm
 have bP:List.length (g++ [a])=g.length+1:=by simp only [List.length_append,List.length_cons,List.length_nil]
 have bQ:=bS (lq (es:= [(aP.mk a.aS (Sv.mk p r a.aL.ls))]) (ms:= [a]) B rfl)
 refine Az rfl (zq (bN (zu (zb (Mz rfl (fw (.int .i64 ((j+1:Nat):Int)) (zy (e:=IntKind.i64.wrap (((j:Nat):Int)+1)) yk (by rw [Cb _ (by omega)]; omega)) (Az rfl (zq ?_))))))))
 have bg:=bf.pk [3,1,0]
 exact zH (aL,aM,(o++ [(aP.mk a.aS (Sv.mk p r a.aL.ls))]),(g++ [a]),j+1,X,Y,E.aa.ls,E.av,ag) ⟨rfl,rfl,rfl,rfl,rfl,rfl,trivial⟩ (R.2 ⟨bg,by exact(lq (es:= [(aP.mk a.aS (Sv.mk p r a.aL.ls))]) (ms:= [a]) B rfl),by exact aI,by omega,by omega,by omega,et (S) (et (ip h) (et (ip W) (ae Z)))⟩) (by show ag < ag+1; omega)
 refine jF (dF W) (Wp.exit (zk (zk (zA ?_))))
 have bq:=V.pk [0,1,2]
 exact zU (I,J,o,g,A,u,l,n) ⟨rfl,rfl,trivial⟩ (L.2 ⟨bq,by exact B,by exact C,by omega,by omega,by omega,by omega,ae (et (S) (et (ip h) (iN W)))⟩)
 refine Sz (dF h) (Sz (dF h) (Sz (dF h) (Sz (dF h) (Sz (dF h) (fw (.bool false) (zh rfl (dF h) rfl) (nt (jf (Wp.exit (zk (zk (zA ?_)))))))))))
 have bu:=V.pk [0,1,2]
 exact zU (I,J,o,g,A,u,l,n) ⟨rfl,rfl,trivial⟩ (L.2 ⟨bu,by exact B,by exact C,by omega,by omega,by omega,by omega,ae (et (S) (iN h))⟩)
 rintro ⟨M,N,G,t,O,P,z,Q⟩ bZ ai
 show Wp _ _ _ [(7, .slice M t.length N),(6, .slice none 0 0)] _ _
 obtain⟨aN,T,U,bv,bz,bA,bB,aj⟩:=L.1 ai
 have bC:=bS T
 have bD:=(U).le
 refine sr (Mz rfl (An rfl (rt (rs ?_))))
 have aO:=aN.pk [1,2,0]
 have e:iF d p1=(t,ReaderT.mk (Ll.mk z) Q):=ae aj
 obtain⟨rfl,rfl⟩:=ig (e.symm.trans hr)
 exact⟨M,N,G,O,P,rfl,aO,T,U,(by omega)⟩
def fU (c:ReaderT) (p1:Nat):(List fK) × ReaderT:=
 bnd (aI c p1) fun a=>bnd (iF a.2 ((a.1:Nat):Int)) fun b=>(b.1,b.2)
theorem mV (w:World) (D:Nat→Prop) (s:Nat) (d:ReaderT) (b:Option Addr) (a:Nat) (p1:Nat) (z:List fK) (M:ReaderT) (H:Own w D w [blk s [.slice b d.aa.ls.length a, .int .i64 d.av] 150]) (j:Ro w D fun w'=>bn w' 1 b d.aa.ls.length (List.flatMap eB d.aa.ls)) (N:d.aa.ls.length≤a∧d.aa.ls.length≤9223372036854775807) (ag:p1≤1000) (hr:fU d p1=(z,M)):
    Calls Tryz.prog 54 #[.pointer (some ⟨s,0,none⟩), .int .u64 ((p1:Nat):Int), .func (.func 55) #[] #[]] w (dE fun v w'=> ∃ (U:Option Addr) (V:Nat) (O:List aP) (B1ox0:Option Addr) (b1ox0:Nat),v= .slice U z.length V∧Own w D w' [row U z.length V (List.flatMap aP.cells O) 66 2,sepL (List.flatMap zN O),blk s [.slice B1ox0 M.aa.ls.length b1ox0, .int .i64 M.av] 150]∧(List.map zV O=z)∧(ay 1 b a d.aa.ls B1ox0 b1ox0 M.aa.ls)∧(z.length≤1000)):=by
 refine zg (args:= [.pointer (some ⟨s,0,none⟩), .int .u64 ((p1:Nat):Int), .func (.func 55) #[] #[]]) Tryz.func54 rfl rfl rfl ?_
 show Wp _ _ _ [(0, .pointer (some ⟨s,0,none⟩)),(1, .int .u64 ((p1:Nat):Int)),(2, .func (.func 55) #[] #[])] _ _
 refine sr (Ar rfl (Mz rfl (Mz rfl (Mz rfl ?_))))
 obtain⟨⟨h,f⟩,m⟩:∃ q:Nat × ReaderT,aI d p1=q:=⟨_,rfl⟩
 obtain⟨ah,A,B,C,W⟩:=zx H
 refine cl Tryz.call93 (eT _ _ s d b a p1 h f A (B _ j) (show d.aa.ls.length≤a∧d.aa.ls.length≤9223372036854775807 from by omega) m) ?_
 rintro _ ai ⟨t,k,rfl,E,c,n⟩
 have P:=C _ _ E
 replace c:ay 1 b a d.aa.ls t k f.aa.ls:=c
 have X:=(c).le
 replace n:h≤p1:=n
 refine fw (.int .i64 ((h:Nat):Int)) (zy (e:=IntKind.i64.wrap ((h:Nat):Int)) yk (Cb _ (by omega))) (Mz rfl ?_)
 obtain⟨⟨u,l⟩,o⟩:∃ q:(List fK) × ReaderT,iF f ((h:Nat):Int)=q:=⟨_,rfl⟩
 obtain⟨aj,F,G,I,Y⟩:=zx P
 refine cl Tryz.call96 (mK _ _ s f t k ((h:Nat):Int) u l F (fun w9 h9=>ay.rds bi (by decide) c ((G _ j) w9 h9)) (show f.aa.ls.length≤k∧f.aa.ls.length≤9223372036854775807 from by omega) (by omega) o) ?_
 rintro _ av ⟨Q,R,S,x,y,rfl,J,p,g,r⟩
 have K:=I _ _ J
 replace g:ay 1 t k f.aa.ls x y l.aa.ls:=g
 have Z:=(g).le
 have L:ay 1 b a d.aa.ls x y l.aa.ls:=ay.trans c g
 have aa:=bS p
 have af:=K.rowC (i:=0) rfl
 replace r:u.length≤1000:=r
 refine An rfl (rt (rs ?_))
 have T:=K.pk [0,1,2]
 have e:fU d p1=(u,l):=et (ae m) (ae o)
 obtain⟨rfl,rfl⟩:=ig (e.symm.trans hr)
 exact⟨Q,R,S,x,y,rfl,T,p,L,(by omega)⟩
def dY (p1:Int):Nat→List Nat→Nat→List UInt8→Int→(List Nat) × (List UInt8) × Int
  | 0,c,e,d,a=>default
  | f+1,c,e,d,a=>if((e:Nat):Int) < p1 then if a=0 then bnd (aU (ReaderT.mk (Ll.mk d) a)) fun b=>dY p1 f (c++ [b.1]) (e+1) b.2.aa.ls b.2.av else(c,d,a) else(c,d,a)
def iV (a:ReaderT) (p1:Int):(List Nat) × ReaderT:=
 bnd (bnd (dY p1 ((Int.toNat p1 - 0)+1) ([]) 0 a.aa.ls a.av) fun sLrJjL=>(sLrJjL.1,sLrJjL.2.1,sLrJjL.2.2)) fun sJrJ=>(sJrJ.1,ReaderT.mk (Ll.mk sJrJ.2.1) sJrJ.2.2)
theorem nz (w:World) (D:Nat→Prop) (u:Nat) (c:ReaderT) (a:Option Addr) (b:Nat) (p1:Int) (X:List Nat) (r1:ReaderT) (H:Own w D w [blk u [.slice a c.aa.ls.length b, .int .i64 c.av] 150]) (S:Ro w D fun w'=>bn w' 1 a c.aa.ls.length (List.flatMap eB c.aa.ls)) (aC:c.aa.ls.length≤b∧c.aa.ls.length≤9223372036854775807) (bz:p1≤1000) (hr:iV c p1=(X,r1)):
    Calls Tryz.prog 99 #[.pointer (some ⟨u,0,none⟩), .int .i64 p1, .func (.func 51) #[] #[]] w (dE fun v w'=> ∃ (B0:Option Addr) (b0:Nat) (B1ox0:Option Addr) (b1ox0:Nat),v= .slice B0 X.length b0∧Own w D w' [row B0 X.length b0 (List.flatMap (eN .u64) X) 22 1,blk u [.slice B1ox0 r1.aa.ls.length b1ox0, .int .i64 r1.av] 150]∧(ay 1 a b c.aa.ls B1ox0 b1ox0 r1.aa.ls)∧(X.length≤1000)):=by
 refine zg (args:= [.pointer (some ⟨u,0,none⟩), .int .i64 p1, .func (.func 51) #[] #[]]) Tryz.func99 rfl rfl rfl ?_
 show Wp _ _ _ [(0, .pointer (some ⟨u,0,none⟩)),(1, .int .i64 p1),(2, .func (.func 51) #[] #[])] _ _
 refine sr (Ar rfl (An rfl (ze (sr (An rfl ?_)))))
 obtain⟨Y,Z⟩:∃ q:((Option Addr) × Nat × (List Nat) × (Option Addr) × Nat × (List UInt8) × Int)→World→Prop,q=fun(i:(Option Addr) × Nat × (List Nat) × (Option Addr) × Nat × (List UInt8) × Int) w'=>Own w D w' [blk u [.slice i.2.2.2.1 i.2.2.2.2.2.1.length i.2.2.2.2.1, .int .i64 i.2.2.2.2.2.2] 150,row i.1 i.2.2.1.length i.2.1 (List.flatMap (eN .u64) i.2.2.1) 22 1]∧(ay 1 a b c.aa.ls i.2.2.2.1 i.2.2.2.2.1 i.2.2.2.2.2.1∧0≤i.2.2.1.length∧i.2.2.2.2.2.1.length≤c.aa.ls.length∧i.2.2.2.2.2.1.length≤c.aa.ls.length+1∧i.2.2.1.length≤1000∧(bnd (dY p1 ((Int.toNat p1 - 0)+1) ([]) 0 c.aa.ls c.av) fun sLrJjL=>(sLrJjL.1,sLrJjL.2.1,sLrJjL.2.2))=(i.2.2.1,i.2.2.2.2.2.1,i.2.2.2.2.2.2)):=⟨_,rfl⟩
 have C:∀ {E:Option Addr} {F:Nat} {l:List Nat} {G:Option Addr} {I:Nat} {o:List UInt8} {J:Int} {w':World},Y (E,F,l,G,I,o,J) w'↔Own w D w' [blk u [.slice G o.length I, .int .i64 J] 150,row E l.length F (List.flatMap (eN .u64) l) 22 1]∧ay 1 a b c.aa.ls G I o∧0≤l.length∧o.length≤c.aa.ls.length∧o.length≤c.aa.ls.length+1∧l.length≤1000∧(bnd (dY p1 ((Int.toNat p1 - 0)+1) ([]) 0 c.aa.ls c.av) fun sLrJjL=>(sLrJjL.1,sLrJjL.2.1,sLrJjL.2.2))=(l,o,J):=by intros; subst Z; exact Iff.rfl
 refine Ae (fun i:(Option Addr) × Nat × (List Nat) × (Option Addr) × Nat × (List UInt8) × Int=> [(7, .slice i.1 i.2.2.1.length i.2.1),(6, .slice none 0 0)]) Y ?_ ?_
 refine bo ?_
 have aD:Own w D w [row none 0 0 (List.flatMap (eN .u64) ([])) 22 1,blk u [.slice a c.aa.ls.length b, .int .i64 c.av] 150]:=H.free (gX 22 1)
 have aF:=aD.pk [1,0]
 obtain⟨aa,af⟩:∃ q:((Option Addr) × Nat × (List Nat) × Nat × (Option Addr) × Nat × (List UInt8) × Int × Nat)→World→Prop,q=fun(i:(Option Addr) × Nat × (List Nat) × Nat × (Option Addr) × Nat × (List UInt8) × Int × Nat) w'=>Own w D w' [blk u [.slice i.2.2.2.2.1 i.2.2.2.2.2.2.1.length i.2.2.2.2.2.1, .int .i64 i.2.2.2.2.2.2.2.1] 150,row i.1 i.2.2.1.length i.2.1 (List.flatMap (eN .u64) i.2.2.1) 22 1]∧(ay 1 a b c.aa.ls i.2.2.2.2.1 i.2.2.2.2.2.1 i.2.2.2.2.2.2.1∧i.2.2.1.length≤i.2.2.2.1∧(i.2.2.2.1=0∨((i.2.2.2.1:Nat):Int)≤p1)∧Int.toNat p1 - i.2.2.2.1 < i.2.2.2.2.2.2.2.2∧dY p1 ((Int.toNat p1 - 0)+1) ([]) 0 c.aa.ls c.av=dY p1 i.2.2.2.2.2.2.2.2 i.2.2.1 i.2.2.2.1 i.2.2.2.2.2.2.1 i.2.2.2.2.2.2.2.1):=⟨_,rfl⟩
 have K:∀ {z:Option Addr} {A:Nat} {f:List Nat} {g:Nat} {p:Option Addr} {n:Nat} {h:List UInt8} {j:Int} {B:Nat} {w':World},aa (z,A,f,g,p,n,h,j,B) w'↔Own w D w' [blk u [.slice p h.length n, .int .i64 j] 150,row z f.length A (List.flatMap (eN .u64) f) 22 1]∧ay 1 a b c.aa.ls p n h∧f.length≤g∧(g=0∨((g:Nat):Int)≤p1)∧Int.toNat p1 - g < B∧dY p1 ((Int.toNat p1 - 0)+1) ([]) 0 c.aa.ls c.av=dY p1 B f g h j:=by intros; subst af; exact Iff.rfl
 refine Wp.loop (fun i:(Option Addr) × Nat × (List Nat) × Nat × (Option Addr) × Nat × (List UInt8) × Int × Nat=> [(7, .slice i.1 i.2.2.1.length i.2.1),(8, .int .i64 ((i.2.2.2.1:Nat):Int)),(6, .slice none 0 0),(0, .pointer (some ⟨u,0,none⟩)),(1, .int .i64 p1),(2, .func (.func 51) #[] #[])]) aa (fun i=>i.2.2.2.2.2.2.2.2) (none,0, [],0,a,b,c.aa.ls,c.av,(Int.toNat p1 - 0)+1) ⟨rfl,rfl,rfl,rfl,rfl,rfl,trivial⟩ (K.2 ⟨aF,(show ay 1 a b c.aa.ls a b c.aa.ls∧0≤0∧(0=0∨((0:Nat):Int)≤p1)∧Int.toNat p1 - 0 < ((Int.toNat p1 - 0)+1)∧dY p1 ((Int.toNat p1 - 0)+1) ([]) 0 c.aa.ls c.av=dY p1 ((Int.toNat p1 - 0)+1) ([]) 0 c.aa.ls c.av from ⟨by exact(ay.refl (by omega)),by omega,by omega,by omega,rfl⟩)⟩) ?_
 rintro ⟨z,A,f,g,p,n,h,j,B⟩ bA ag
 show Wp _ _ _ [(7, .slice z f.length A),(8, .int .i64 ((g:Nat):Int)),(6, .slice none 0 0),(0, .pointer (some ⟨u,0,none⟩)),(1, .int .i64 p1),(2, .func (.func 51) #[] #[])] _ _
 obtain⟨N,r,aS,aT,aV,L⟩:=K.1 ag
 have aW:=(r).le
 obtain⟨T,ah⟩:∃ q,B=q+1:=⟨B - 1,by omega⟩
 subst ah
 refine ze (sr (Mz rfl (Mz rfl (Kz (.bool (decide (((g:Nat):Int) < p1))) (Mz rfl ?_)))))
 by_cases d:((g:Nat):Int) < p1
 refine gw (.pointer (some ⟨u,0,none⟩)) (dT d) (zo rfl) (Gz (.pointer (some ⟨u,0,none⟩)) (dT d) (Gz (.pointer (some ⟨u,1,none⟩)) (dT d) (Gl (.int .i64 j) (dT d) N 0 Tryz.isAgg38 (Gz (.bool (decide (j=0))) (dT d) (fw (.bool (decide (j=0))) (zf rfl (dT d) rfl) (nt ?_))))))
 by_cases O:j=0
 refine jT (dT O) (sk (ze (bo (zb (Mz rfl (Mz rfl (Mz rfl ?_)))))))
 obtain⟨⟨t,M⟩,P⟩:∃ q:Nat × ReaderT,aU (ReaderT.mk (Ll.mk h) j)=q:=⟨_,rfl⟩
 obtain⟨bB,ai,aj,ak,aX⟩:=zx N
 refine WL.do rfl (zK Tryz.call51 rfl rfl (dw _ _ u (ReaderT.mk (Ll.mk h) j) p n t M ai (fun w9 h9=>ay.rds bi (by decide) r ((aj _ S) w9 h9)) (show h.length≤n∧h.length≤9223372036854775807 from by omega) P) ?_)
 rintro _ bE ⟨U,V,rfl,au,x,Q⟩
 have aG:=ak _ _ au
 replace x:ay 1 p n h U V M.aa.ls:=x
 have aY:=(x).le
 have av:ay 1 a b c.aa.ls U V M.aa.ls:=ay.trans r x
 replace Q:t≤18446744073709551615:=Q
 refine kF [.int .u64 ((t:Nat):Int)] 22 1 1 aG ?_
 intro aH bF W
 replace W:=zY (y:=row aH 1 1 (List.flatMap (eN .u64) ([t])) 22 1) rfl W
 have ax:=W.pk [2,0,1]
 refine WL.do rfl (Aa (k:=f.length) (m:=1) (jR) ax rfl rfl (j3 Tryz.underlying25 (ax.rds (i:=1) rfl) (jA vR ([t]))) rfl (by omega) (s:=List.length (f++ [t])) (by first | omega | (simp only [List.length_append,List.length_cons,List.length_nil] <;> omega)) (List.flatMap_append).symm ?_)
 intro aI aJ bG aK
 have aZ:List.length (f++ [t])=f.length+1:=by simp only [List.length_append,List.length_cons,List.length_nil]
 refine Az rfl (zq (bN (zu (zb (Mz rfl (fw (.int .i64 ((g+1:Nat):Int)) (zy (e:=IntKind.i64.wrap (((g:Nat):Int)+1)) yk (by rw [Cb _ (by omega)]; omega)) (Az rfl (zq ?_))))))))
 have aL:=aK.pk [2,0]
 exact zH (aI,aJ,(f++ [t]),g+1,U,V,M.aa.ls,M.av,T) ⟨rfl,rfl,rfl,rfl,rfl,rfl,trivial⟩ (K.2 ⟨aL,by exact av,by omega,by omega,by omega,et (L) (et (ip d) (et (ip O) (ae P)))⟩) (by show T < T+1; omega)
 refine jF (dF O) (Wp.exit (zk (zk (zA ?_))))
 have aM:=N.pk [0,1]
 exact zU (z,A,f,p,n,h,j) ⟨rfl,rfl,trivial⟩ (C.2 ⟨aM,by exact r,by omega,by omega,by omega,by omega,ae (et (L) (et (ip d) (iN O)))⟩)
 refine Sz (dF d) (Sz (dF d) (Sz (dF d) (Sz (dF d) (Sz (dF d) (fw (.bool false) (zh rfl (dF d) rfl) (nt (jf (Wp.exit (zk (zk (zA ?_)))))))))))
 have aN:=N.pk [0,1]
 exact zU (z,A,f,p,n,h,j) ⟨rfl,rfl,trivial⟩ (C.2 ⟨aN,by exact r,by omega,by omega,by omega,by omega,ae (et (L) (iN d))⟩)
 rintro ⟨E,F,l,G,I,o,J⟩ bH az
 show Wp _ _ _ [(7, .slice E l.length F),(6, .slice none 0 0)] _ _
 obtain⟨aO,R,bf,bg,bq,bu,aA⟩:=C.1 az
 have bv:=(R).le
 refine sr (Mz rfl (An rfl (rt (rs ?_))))
 have aP:=aO.pk [1,0]
 have e:iV c p1=(l,ReaderT.mk (Ll.mk o) J):=ae aA
 obtain⟨rfl,rfl⟩:=ig (e.symm.trans hr)
 exact⟨E,F,G,I,rfl,aP,R,(by omega)⟩
def gG (c:ReaderT) (p1:Nat):(List Nat) × ReaderT:=
 bnd (aI c p1) fun a=>bnd (iV a.2 ((a.1:Nat):Int)) fun b=>(b.1,b.2)
theorem nM (w:World) (D:Nat→Prop) (r:Nat) (d:ReaderT) (b:Option Addr) (a:Nat) (p1:Nat) (y:List Nat) (L:ReaderT) (H:Own w D w [blk r [.slice b d.aa.ls.length a, .int .i64 d.av] 150]) (j:Ro w D fun w'=>bn w' 1 b d.aa.ls.length (List.flatMap eB d.aa.ls)) (M:d.aa.ls.length≤a∧d.aa.ls.length≤9223372036854775807) (Y:p1≤1000) (hr:gG d p1=(y,L)):
    Calls Tryz.prog 56 #[.pointer (some ⟨r,0,none⟩), .int .u64 ((p1:Nat):Int), .func (.func 51) #[] #[]] w (dE fun v w'=> ∃ (R:Option Addr) (S:Nat) (B1ox0:Option Addr) (b1ox0:Nat),v= .slice R y.length S∧Own w D w' [row R y.length S (List.flatMap (eN .u64) y) 22 1,blk r [.slice B1ox0 L.aa.ls.length b1ox0, .int .i64 L.av] 150]∧(ay 1 b a d.aa.ls B1ox0 b1ox0 L.aa.ls)∧(y.length≤1000)):=by
 refine zg (args:= [.pointer (some ⟨r,0,none⟩), .int .u64 ((p1:Nat):Int), .func (.func 51) #[] #[]]) Tryz.func56 rfl rfl rfl ?_
 show Wp _ _ _ [(0, .pointer (some ⟨r,0,none⟩)),(1, .int .u64 ((p1:Nat):Int)),(2, .func (.func 51) #[] #[])] _ _
 refine sr (Ar rfl (Mz rfl (Mz rfl (Mz rfl ?_))))
 obtain⟨⟨h,f⟩,m⟩:∃ q:Nat × ReaderT,aI d p1=q:=⟨_,rfl⟩
 obtain⟨Z,z,A,B,T⟩:=zx H
 refine cl Tryz.call93 (eT _ _ r d b a p1 h f z (A _ j) (show d.aa.ls.length≤a∧d.aa.ls.length≤9223372036854775807 from by omega) m) ?_
 rintro _ aa ⟨s,k,rfl,C,c,n⟩
 have N:=B _ _ C
 replace c:ay 1 b a d.aa.ls s k f.aa.ls:=c
 have U:=(c).le
 replace n:h≤p1:=n
 refine fw (.int .i64 ((h:Nat):Int)) (zy (e:=IntKind.i64.wrap ((h:Nat):Int)) yk (Cb _ (by omega))) (Mz rfl ?_)
 obtain⟨⟨t,l⟩,o⟩:∃ q:(List Nat) × ReaderT,iV f ((h:Nat):Int)=q:=⟨_,rfl⟩
 obtain⟨af,E,F,G,V⟩:=zx N
 refine cl Tryz.call99 (nz _ _ r f s k ((h:Nat):Int) t l E (fun w9 h9=>ay.rds bi (by decide) c ((F _ j) w9 h9)) (show f.aa.ls.length≤k∧f.aa.ls.length≤9223372036854775807 from by omega) (by omega) o) ?_
 rintro _ ai ⟨O,P,u,x,rfl,I,g,p⟩
 have J:=G _ _ I
 replace g:ay 1 s k f.aa.ls u x l.aa.ls:=g
 have W:=(g).le
 have K:ay 1 b a d.aa.ls u x l.aa.ls:=ay.trans c g
 have X:=J.rowC (i:=0) rfl
 replace p:t.length≤1000:=p
 refine An rfl (rt (rs ?_))
 have Q:=J.pk [0,1]
 have e:gG d p1=(t,l):=et (ae m) (ae o)
 obtain⟨rfl,rfl⟩:=ig (e.symm.trans hr)
 exact⟨O,P,u,x,rfl,Q,K,(by omega)⟩
def bL (q:List UInt8):bP × Int:=
 bnd (dG q (83:UInt8)) fun p=>bnd (dA p) fun j=>bnd (aU j.2) fun k=>bnd (aU k.2) fun l=>bnd (aU l.2) fun a=>bnd (aU a.2) fun b=>bnd (fJ b.2 255) fun c=>bnd (fU c.2 255) fun d=>bnd (gG d.2 255) fun e=>bnd (aU e.2) fun f=>bnd (aU f.2) fun g=>bnd (ic g.2) fun h=>bnd (gJ h.2) fun i=>bnd (eG i.2) fun o=>bnd (iR o) fun m=>if m=0 then bnd (bG (bP.mk j.1 k.1 l.1 a.1 b.1 (Ll.mk c.1) (Ll.mk d.1) (Ll.mk e.1) f.1 g.1 h.1 i.1)) fun n=>if n=0 then(bP.mk j.1 k.1 l.1 a.1 b.1 (Ll.mk c.1) (Ll.mk d.1) (Ll.mk e.1) f.1 g.1 h.1 i.1,0) else(bP.mk 0 0 0 0 0 (Ll.mk ([])) (Ll.mk ([])) (Ll.mk ([])) 0 0 (bI.mk ([]) ([])) (eU.mk 0 0 0 (bI.mk ([]) ([]))),n) else(bP.mk 0 0 0 0 0 (Ll.mk ([])) (Ll.mk ([])) (Ll.mk ([])) 0 0 (bI.mk ([]) ([])) (eU.mk 0 0 0 (bI.mk ([]) ([]))),m)
set_option maxHeartbeats 4000000 in
theorem kr (w:World) (D:Nat→Prop) (A0:Option Addr) (n0 c0:Nat) (T:List UInt8) (r0:bP) (r1:Int) (H:Own w D w []) (R:Ro w D fun w'=>bn w' 1 A0 n0 (List.flatMap eB T)) (kN:n0=T.length) (nz:T.length *1≤211106232532992) (nA:T.length≤c0) (hr:bL T=(r0,r1)):
    Calls Tryz.prog 15 #[.slice A0 n0 c0] w (dE fun v w'=> ∃ (eO:Option Addr) (eQ:Nat) (eT:Option Addr) (eX:Nat) (eY:Option Addr) (eZ:Nat) (di:List aP),v= .tuple #[.agg (bQ r0 eO eQ eT eX eY eZ).toArray, .int .i64 r1]∧Own w D w' [row eO r0.ag.ls.length eQ (List.flatMap aH.cells r0.ag.ls) 54 2,row eT r0.aD.ls.length eX (List.flatMap aP.cells di) 66 2,sepL (List.flatMap zN di),row eY r0.aj.ls.length eZ (List.flatMap (eN .u64) r0.aj.ls) 22 1]∧(List.map zV di=r0.aD.ls)∧(r0.ag.ls.length≤1000∧r0.aD.ls.length≤1000∧r0.aj.ls.length≤1000)):=by
 subst kN
 refine zg (args:= [.slice A0 T.length c0]) Tryz.func15 rfl rfl rfl ?_
 show Wp _ _ _ [(0, .slice A0 T.length c0)] _ _
 refine sr ?_
 refine dC (bM 0 0 0 0 0 none 0 0 none 0 0 none 0 0 0 0 ([]) ([]) 0 0 0 ([]) ([])) 31 H ?_
 intro E nC kP
 refine Ar rfl (Mz rfl ?_)
 obtain⟨bJ,bO⟩:∃ q,dG T (83:UInt8)=q:=⟨_,rfl⟩
 obtain⟨nD,iP,iQ,iT,l7⟩:=zt kP
 refine cl Tryz.call49 (ng _ _ A0 T.length c0 T (83:UInt8) bJ iP (iQ _ R) rfl (by omega) (by first | omega | (simp only [List.length_take,List.length_drop]; omega) | exact Nat.le_refl _) bO) ?_
 rintro _ nE ⟨y,fG,eH,rfl,iU,bf⟩
 have kQ:=iT _ _ iU
 replace bf:ay 1 A0 c0 T fG eH bJ.aa.ls:=bf
 have l8:=(bf).le
 refine Ar rfl (Mz rfl ?_)
 obtain⟨⟨z,V⟩,bR⟩:∃ q:Int × ReaderT,dA bJ=q:=⟨_,rfl⟩
 obtain⟨nG,iV,iW,iX,l9⟩:=zx kQ
 refine cl Tryz.call50 (iq _ _ y bJ fG eH z V iV (fun U S=>ay.rds bi (by decide) bf ((iW _ R) U S)) (show bJ.aa.ls.length≤eH∧bJ.aa.ls.length≤9223372036854775807 from by omega) bR) ?_
 rintro _ nH ⟨dm,cK,rfl,iY,bT,fe⟩
 have kR:=iX _ _ iY
 replace bT:ay 1 fG eH bJ.aa.ls dm cK V.aa.ls:=bT
 have ma:=(bT).le
 have fo:ay 1 A0 c0 T dm cK V.aa.ls:=ay.trans bf bT
 replace fe:0≤z∧z≤255:=fe
 refine Kz (.agg (bM z 0 0 0 0 none 0 0 none 0 0 none 0 0 0 0 ([]) ([]) 0 0 0 ([]) ([])).toArray) ?_
 refine dC (bM 0 0 0 0 0 none 0 0 none 0 0 none 0 0 0 0 ([]) ([]) 0 0 0 ([]) ([])) 31 kR ?_
 intro A nI kS
 refine df (bM z 0 0 0 0 none 0 0 none 0 0 none 0 0 0 0 ([]) ([]) 0 0 0 ([]) ([])) 0 kS Tryz.sizeOf31 ?_
 intro kT fH
 replace fH:Own w D kT [blk A (bM z 0 0 0 0 none 0 0 none 0 0 none 0 0 0 0 ([]) ([]) 0 0 0 ([]) ([])) 31,blk y [.slice dm V.aa.ls.length cK, .int .i64 V.av] 150,blk E (bM 0 0 0 0 0 none 0 0 none 0 0 none 0 0 0 0 ([]) ([]) 0 0 0 ([]) ([])) 31]:=(fH)
 refine ns (Mz rfl ?_)
 have kU:=fH.pk [1,0,2]
 obtain⟨⟨B,W⟩,bU⟩:∃ q:Nat × ReaderT,aU V=q:=⟨_,rfl⟩
 obtain⟨nJ,iZ,ja,jb,mf⟩:=zx kU
 refine cl Tryz.call51 (dw _ _ y V dm cK B W iZ (fun U S=>ay.rds bi (by decide) fo ((ja _ R) U S)) (show V.aa.ls.length≤cK∧V.aa.ls.length≤9223372036854775807 from by omega) bU) ?_
 rintro _ nK ⟨dn,cO,rfl,jc,bV,fq⟩
 have kV:=jb _ _ jc
 replace bV:ay 1 dm cK V.aa.ls dn cO W.aa.ls:=bV
 have mg:=(bV).le
 have fu:ay 1 A0 c0 T dn cO W.aa.ls:=ay.trans fo bV
 replace fq:B≤18446744073709551615:=fq
 refine Kz (.pointer (some ⟨A,1,none⟩)) ?_
 have kW:=kV.pk [1,0,2]
 refine df [.int .u64 ((B:Nat):Int)] 1 kW Tryz.sizeOf22 ?_
 intro kX fI
 replace fI:Own w D kX [blk A (bM z B 0 0 0 none 0 0 none 0 0 none 0 0 0 0 ([]) ([]) 0 0 0 ([]) ([])) 31,blk y [.slice dn W.aa.ls.length cO, .int .i64 W.av] 150,blk E (bM 0 0 0 0 0 none 0 0 none 0 0 none 0 0 0 0 ([]) ([]) 0 0 0 ([]) ([])) 31]:=(fI)
 refine ns (Mz rfl ?_)
 have kY:=fI.pk [1,0,2]
 obtain⟨⟨C,X⟩,bW⟩:∃ q:Nat × ReaderT,aU W=q:=⟨_,rfl⟩
 obtain⟨nL,jd,je,jf,mh⟩:=zx kY
 refine cl Tryz.call51 (dw _ _ y W dn cO C X jd (fun U S=>ay.rds bi (by decide) fu ((je _ R) U S)) (show W.aa.ls.length≤cO∧W.aa.ls.length≤9223372036854775807 from by omega) bW) ?_
 rintro _ nN ⟨dx,cZ,rfl,jg,bX,fA⟩
 have kZ:=jf _ _ jg
 replace bX:ay 1 dn cO W.aa.ls dx cZ X.aa.ls:=bX
 have mi:=(bX).le
 have fB:ay 1 A0 c0 T dx cZ X.aa.ls:=ay.trans fu bX
 replace fA:C≤18446744073709551615:=fA
 refine Kz (.pointer (some ⟨A,2,none⟩)) ?_
 have jh:=kZ.pk [1,0,2]
 refine df [.int .u64 ((C:Nat):Int)] 2 jh Tryz.sizeOf22 ?_
 intro ji dz
 replace dz:Own w D ji [blk A (bM z B C 0 0 none 0 0 none 0 0 none 0 0 0 0 ([]) ([]) 0 0 0 ([]) ([])) 31,blk y [.slice dx X.aa.ls.length cZ, .int .i64 X.av] 150,blk E (bM 0 0 0 0 0 none 0 0 none 0 0 none 0 0 0 0 ([]) ([]) 0 0 0 ([]) ([])) 31]:=(dz)
 refine ns (Mz rfl ?_)
 have jk:=dz.pk [1,0,2]
 obtain⟨⟨r,I⟩,aA⟩:∃ q:Nat × ReaderT,aU X=q:=⟨_,rfl⟩
 obtain⟨mo,fM,fO,fP,lc⟩:=zx jk
 refine cl Tryz.call51 (dw _ _ y X dx cZ r I fM (fun U S=>ay.rds bi (by decide) fB ((fO _ R) U S)) (show X.aa.ls.length≤cZ∧X.aa.ls.length≤9223372036854775807 from by omega) aA) ?_
 rintro _ mq ⟨bg,Y,rfl,fQ,aB,dB⟩
 have jl:=fP _ _ fQ
 replace aB:ay 1 dx cZ X.aa.ls bg Y I.aa.ls:=aB
 have lg:=(aB).le
 have dD:ay 1 A0 c0 T bg Y I.aa.ls:=ay.trans fB aB
 replace dB:r≤18446744073709551615:=dB
 refine Kz (.pointer (some ⟨A,3,none⟩)) ?_
 have jm:=jl.pk [1,0,2]
 refine df [.int .u64 ((r:Nat):Int)] 3 jm Tryz.sizeOf22 ?_
 intro jo dH
 replace dH:Own w D jo [blk A (bM z B C r 0 none 0 0 none 0 0 none 0 0 0 0 ([]) ([]) 0 0 0 ([]) ([])) 31,blk y [.slice bg I.aa.ls.length Y, .int .i64 I.av] 150,blk E (bM 0 0 0 0 0 none 0 0 none 0 0 none 0 0 0 0 ([]) ([]) 0 0 0 ([]) ([])) 31]:=(dH)
 refine ns (Mz rfl ?_)
 have jq:=dH.pk [1,0,2]
 obtain⟨⟨s,J⟩,aC⟩:∃ q:Nat × ReaderT,aU I=q:=⟨_,rfl⟩
 obtain⟨mr,fT,fV,fZ,lh⟩:=zx jq
 refine cl Tryz.call51 (dw _ _ y I bg Y s J fT (fun U S=>ay.rds bi (by decide) dD ((fV _ R) U S)) (show I.aa.ls.length≤Y∧I.aa.ls.length≤9223372036854775807 from by omega) aC) ?_
 rintro _ mD ⟨bq,Z,rfl,gm,aD,dI⟩
 have jr:=fZ _ _ gm
 replace aD:ay 1 bg Y I.aa.ls bq Z J.aa.ls:=aD
 have ll:=(aD).le
 have dJ:ay 1 A0 c0 T bq Z J.aa.ls:=ay.trans dD aD
 replace dI:s≤18446744073709551615:=dI
 refine Kz (.pointer (some ⟨A,4,none⟩)) ?_
 have jv:=jr.pk [1,0,2]
 refine df [.int .u64 ((s:Nat):Int)] 4 jv Tryz.sizeOf22 ?_
 intro jw dK
 replace dK:Own w D jw [blk A (bM z B C r s none 0 0 none 0 0 none 0 0 0 0 ([]) ([]) 0 0 0 ([]) ([])) 31,blk y [.slice bq J.aa.ls.length Z, .int .i64 J.av] 150,blk E (bM 0 0 0 0 0 none 0 0 none 0 0 none 0 0 0 0 ([]) ([]) 0 0 0 ([]) ([])) 31]:=(dK)
 refine ns (Mz rfl ?_)
 have jy:=dK.pk [1,0,2]
 obtain⟨⟨b,K⟩,aF⟩:∃ q:(List aH) × ReaderT,fJ J 255=q:=⟨_,rfl⟩
 obtain⟨mE,gp,gq,gu,lm⟩:=zx jy
 refine cl Tryz.call52 (kM _ _ y J bq Z 255 b K gp (fun U S=>ay.rds bi (by decide) dJ ((gq _ R) U S)) (show J.aa.ls.length≤Z∧J.aa.ls.length≤9223372036854775807 from by omega) (by omega) aF) ?_
 rintro _ mF ⟨g,f,bu,aa,rfl,gy,aG,dL⟩
 have fC:=gu _ _ gy
 replace aG:ay 1 bq Z J.aa.ls bu aa K.aa.ls:=aG
 have lq:=(aG).le
 have dM:ay 1 A0 c0 T bu aa K.aa.ls:=ay.trans dJ aG
 have lu:=fC.rowC (i:=0) rfl
 replace dL:b.length≤1000:=dL
 refine Kz (.pointer (some ⟨A,5,none⟩)) ?_
 have jA:=fC.pk [2,0,1,3]
 refine df [.slice g b.length f] 5 jA Tryz.sizeOf23 ?_
 intro jB dN
 replace dN:Own w D jB [blk A (bM z B C r s g b.length f none 0 0 none 0 0 0 0 ([]) ([]) 0 0 0 ([]) ([])) 31,row g b.length f (List.flatMap aH.cells b) 54 2,blk y [.slice bu K.aa.ls.length aa, .int .i64 K.av] 150,blk E (bM 0 0 0 0 0 none 0 0 none 0 0 none 0 0 0 0 ([]) ([]) 0 0 0 ([]) ([])) 31]:=(dN)
 refine ns (Mz rfl ?_)
 have jC:=dN.pk [2,0,1,3]
 obtain⟨⟨d,L⟩,aI⟩:∃ q:(List fK) × ReaderT,fU K 255=q:=⟨_,rfl⟩
 obtain⟨mG,gz,gB,gF,lv⟩:=zx jC
 refine cl Tryz.call54 (mV _ _ y K bu aa 255 d L gz (fun U S=>ay.rds bi (by decide) dM ((gB _ R) U S)) (show K.aa.ls.length≤aa∧K.aa.ls.length≤9223372036854775807 from by omega) (by omega) aI) ?_
 rintro _ mH ⟨j,h,p,bv,af,rfl,gH,bK,aJ,dO⟩
 have fD:=gF _ _ gH
 replace aJ:ay 1 bu aa K.aa.ls bv af L.aa.ls:=aJ
 have lw:=(aJ).le
 have dP:ay 1 A0 c0 T bv af L.aa.ls:=ay.trans dM aJ
 have lC:=bS bK
 have lD:=fD.rowC (i:=0) rfl
 replace dO:d.length≤1000:=dO
 refine Kz (.pointer (some ⟨A,6,none⟩)) ?_
 have jD:=fD.pk [3,0,1,2,4,5]
 refine df [.slice j d.length h] 6 jD Tryz.sizeOf24 ?_
 intro jE dQ
 replace dQ:Own w D jE [blk A (bM z B C r s g b.length f j d.length h none 0 0 0 0 ([]) ([]) 0 0 0 ([]) ([])) 31,row j d.length h (List.flatMap aP.cells p) 66 2,sepL (List.flatMap zN p),blk y [.slice bv L.aa.ls.length af, .int .i64 L.av] 150,row g b.length f (List.flatMap aH.cells b) 54 2,blk E (bM 0 0 0 0 0 none 0 0 none 0 0 none 0 0 0 0 ([]) ([]) 0 0 0 ([]) ([])) 31]:=(dQ)
 refine ns (Mz rfl ?_)
 have jG:=dQ.pk [3,0,1,2,4,5]
 obtain⟨⟨c,M⟩,aK⟩:∃ q:(List Nat) × ReaderT,gG L 255=q:=⟨_,rfl⟩
 obtain⟨mI,gI,gK,gL,lF⟩:=zx jG
 refine cl Tryz.call56 (nM _ _ y L bv af 255 c M gI (fun U S=>ay.rds bi (by decide) dP ((gK _ R) U S)) (show L.aa.ls.length≤af∧L.aa.ls.length≤9223372036854775807 from by omega) (by omega) aK) ?_
 rintro _ mJ ⟨o,n,bz,ag,rfl,gM,aL,dR⟩
 have fE:=gL _ _ gM
 replace aL:ay 1 bv af L.aa.ls bz ag M.aa.ls:=aL
 have lG:=(aL).le
 have dS:ay 1 A0 c0 T bz ag M.aa.ls:=ay.trans dP aL
 have lJ:=fE.rowC (i:=0) rfl
 replace dR:c.length≤1000:=dR
 refine Kz (.pointer (some ⟨A,7,none⟩)) ?_
 have jH:=fE.pk [2,0,1,3,4,5,6]
 refine df [.slice o c.length n] 7 jH Tryz.sizeOf25 ?_
 intro jI dU
 replace dU:Own w D jI [blk A (bM z B C r s g b.length f j d.length h o c.length n 0 0 ([]) ([]) 0 0 0 ([]) ([])) 31,row o c.length n (List.flatMap (eN .u64) c) 22 1,blk y [.slice bz M.aa.ls.length ag, .int .i64 M.av] 150,row j d.length h (List.flatMap aP.cells p) 66 2,sepL (List.flatMap zN p),row g b.length f (List.flatMap aH.cells b) 54 2,blk E (bM 0 0 0 0 0 none 0 0 none 0 0 none 0 0 0 0 ([]) ([]) 0 0 0 ([]) ([])) 31]:=(dU)
 refine ns (Mz rfl ?_)
 have jJ:=dU.pk [2,0,1,3,4,5,6]
 obtain⟨⟨u,N⟩,aM⟩:∃ q:Nat × ReaderT,aU M=q:=⟨_,rfl⟩
 obtain⟨mK,gN,gP,gQ,lK⟩:=zx jJ
 refine cl Tryz.call51 (dw _ _ y M bz ag u N gN (fun U S=>ay.rds bi (by decide) dS ((gP _ R) U S)) (show M.aa.ls.length≤ag∧M.aa.ls.length≤9223372036854775807 from by omega) aM) ?_
 rintro _ mM ⟨bA,ah,rfl,gT,aN,dV⟩
 have jK:=gQ _ _ gT
 replace aN:ay 1 bz ag M.aa.ls bA ah N.aa.ls:=aN
 have lN:=(aN).le
 have dW:ay 1 A0 c0 T bA ah N.aa.ls:=ay.trans dS aN
 replace dV:u≤18446744073709551615:=dV
 refine Kz (.pointer (some ⟨A,8,none⟩)) ?_
 have jL:=jK.pk [1,0,2,3,4,5,6]
 refine df [.int .u64 ((u:Nat):Int)] 8 jL Tryz.sizeOf22 ?_
 intro jM dX
 replace dX:Own w D jM [blk A (bM z B C r s g b.length f j d.length h o c.length n u 0 ([]) ([]) 0 0 0 ([]) ([])) 31,blk y [.slice bA N.aa.ls.length ah, .int .i64 N.av] 150,row o c.length n (List.flatMap (eN .u64) c) 22 1,row j d.length h (List.flatMap aP.cells p) 66 2,sepL (List.flatMap zN p),row g b.length f (List.flatMap aH.cells b) 54 2,blk E (bM 0 0 0 0 0 none 0 0 none 0 0 none 0 0 0 0 ([]) ([]) 0 0 0 ([]) ([])) 31]:=(dX)
 refine ns (Mz rfl ?_)
 have jN:=dX.pk [1,0,2,3,4,5,6]
 obtain⟨⟨x,O⟩,aO⟩:∃ q:Nat × ReaderT,aU N=q:=⟨_,rfl⟩
 obtain⟨mO,gU,gV,gW,lQ⟩:=zx jN
 refine cl Tryz.call51 (dw _ _ y N bA ah x O gU (fun U S=>ay.rds bi (by decide) dW ((gV _ R) U S)) (show N.aa.ls.length≤ah∧N.aa.ls.length≤9223372036854775807 from by omega) aO) ?_
 rintro _ mP ⟨bB,ai,rfl,gY,aQ,dY⟩
 have jO:=gW _ _ gY
 replace aQ:ay 1 bA ah N.aa.ls bB ai O.aa.ls:=aQ
 have lS:=(aQ).le
 have dZ:ay 1 A0 c0 T bB ai O.aa.ls:=ay.trans dW aQ
 replace dY:x≤18446744073709551615:=dY
 refine Kz (.pointer (some ⟨A,9,none⟩)) ?_
 have jP:=jO.pk [1,0,2,3,4,5,6]
 refine df [.int .u64 ((x:Nat):Int)] 9 jP Tryz.sizeOf22 ?_
 intro jQ d9
 replace d9:Own w D jQ [blk A (bM z B C r s g b.length f j d.length h o c.length n u x ([]) ([]) 0 0 0 ([]) ([])) 31,blk y [.slice bB O.aa.ls.length ai, .int .i64 O.av] 150,row o c.length n (List.flatMap (eN .u64) c) 22 1,row j d.length h (List.flatMap aP.cells p) 66 2,sepL (List.flatMap zN p),row g b.length f (List.flatMap aH.cells b) 54 2,blk E (bM 0 0 0 0 0 none 0 0 none 0 0 none 0 0 0 0 ([]) ([]) 0 0 0 ([]) ([])) 31]:=(d9)
 refine ns (Mz rfl ?_)
 have jR:=d9.pk [1,0,2,3,4,5,6]
 obtain⟨⟨l,P⟩,aR⟩:∃ q:bI × ReaderT,ic O=q:=⟨_,rfl⟩
 obtain⟨mQ,gZ,ib,ik,lT⟩:=zx jR
 refine cl Tryz.call57 (lL _ _ y O bB ai l P gZ (fun U S=>ay.rds bi (by decide) dZ ((ib _ R) U S)) (show O.aa.ls.length≤ai∧O.aa.ls.length≤9223372036854775807 from by omega) aR) ?_
 rintro _ mR ⟨bC,aj,rfl,il,aS⟩
 have jU:=ik _ _ il
 replace aS:ay 1 bB ai O.aa.ls bC aj P.aa.ls:=aS
 have lU:=(aS).le
 have ed:ay 1 A0 c0 T bC aj P.aa.ls:=ay.trans dZ aS
 refine Kz (.pointer (some ⟨A,10,none⟩)) ?_
 have jV:=jU.pk [1,0,2,3,4,5,6]
 refine df (bI.cells l) 10 jV Tryz.sizeOf27 ?_
 intro jW ek
 replace ek:Own w D jW [blk A (bM z B C r s g b.length f j d.length h o c.length n u x l.aJ l.aN 0 0 0 ([]) ([])) 31,blk y [.slice bC P.aa.ls.length aj, .int .i64 P.av] 150,row o c.length n (List.flatMap (eN .u64) c) 22 1,row j d.length h (List.flatMap aP.cells p) 66 2,sepL (List.flatMap zN p),row g b.length f (List.flatMap aH.cells b) 54 2,blk E (bM 0 0 0 0 0 none 0 0 none 0 0 none 0 0 0 0 ([]) ([]) 0 0 0 ([]) ([])) 31]:=(ek)
 refine ns (Mz rfl ?_)
 have jX:=ek.pk [1,0,2,3,4,5,6]
 obtain⟨⟨a,Q⟩,aT⟩:∃ q:eU × ReaderT,gJ P=q:=⟨_,rfl⟩
 obtain⟨mU,iw,iy,iA,lV⟩:=zx jX
 refine cl Tryz.call58 (om _ _ y P bC aj a Q iw (fun U S=>ay.rds bi (by decide) ed ((iy _ R) U S)) (show P.aa.ls.length≤aj∧P.aa.ls.length≤9223372036854775807 from by omega) aT) ?_
 rintro _ mW ⟨bD,ak,rfl,iB,aV⟩
 have jY:=iA _ _ iB
 replace aV:ay 1 bC aj P.aa.ls bD ak Q.aa.ls:=aV
 have lW:=(aV).le
 have eu:ay 1 A0 c0 T bD ak Q.aa.ls:=ay.trans ed aV
 refine Kz (.pointer (some ⟨A,12,none⟩)) ?_
 have jZ:=jY.pk [1,0,2,3,4,5,6]
 refine df (eU.cells a) 12 jZ Tryz.sizeOf29 ?_
 intro j3 eD
 replace eD:Own w D j3 [blk A (bM z B C r s g b.length f j d.length h o c.length n u x l.aJ l.aN a.bg a.bv a.cz a.aO.aJ a.aO.aN) 31,blk y [.slice bD Q.aa.ls.length ak, .int .i64 Q.av] 150,row o c.length n (List.flatMap (eN .u64) c) 22 1,row j d.length h (List.flatMap aP.cells p) 66 2,sepL (List.flatMap zN p),row g b.length f (List.flatMap aH.cells b) 54 2,blk E (bM 0 0 0 0 0 none 0 0 none 0 0 none 0 0 0 0 ([]) ([]) 0 0 0 ([]) ([])) 31]:=(eD)
 refine ns (Mz rfl ?_)
 have j4:=eD.pk [1,0,2,3,4,5,6]
 obtain⟨t,aW⟩:∃ q,eG Q=q:=⟨_,rfl⟩
 obtain⟨mX,iC,iD,iE,lX⟩:=zx j4
 refine cl Tryz.call59 (lH _ _ y Q bD ak t iC (fun U S=>ay.rds bi (by decide) eu ((iD _ R) U S)) (show Q.aa.ls.length≤ak∧Q.aa.ls.length≤9223372036854775807 from by omega) aW) ?_
 rintro _ mY ⟨G,F,rfl,iF,aX⟩
 have j5:=iE _ _ iF
 replace aX:ay 1 bD ak Q.aa.ls G F t.aa.ls:=aX
 have lY:=(aX).le
 have iG:ay 1 A0 c0 T G F t.aa.ls:=ay.trans eu aX
 refine nt (ze (sr (Mz rfl ?_)))
 obtain⟨au,aY⟩:∃ q,iR t=q:=⟨_,rfl⟩
 obtain⟨mZ,iH,iI,iJ,lZ⟩:=zx j5
 refine cl Tryz.call60 (lI _ _ y t G F au iH (fun U S=>ay.rds bi (by decide) iG ((iI _ R) U S)) (show t.aa.ls.length≤F∧t.aa.ls.length≤9223372036854775807 from by omega) aY) ?_
 rintro _ ni ⟨rfl,iK⟩
 have bY:=iJ _ _ iK
 refine Ar rfl (Mz rfl (fw (.bool (decide (¬ (au=0)))) (zF (e:= !(decide (au=0))) yk decide_not.symm) (nt ?_)))
 by_cases bE:au=0
 refine jF (dF (Ce bE)) (sk (ze (sr (La (bM z B C r s g b.length f j d.length h o c.length n u x l.aJ l.aN a.bg a.bv a.cz a.aO.aJ a.aO.aN) bY 1 Tryz.isAgg31 Tryz.sizeOf31 ?_))))
 obtain⟨av,bN⟩:∃ q,bG (bP.mk z B C r s (Ll.mk b) (Ll.mk d) (Ll.mk c) u x l a)=q:=⟨_,rfl⟩
 obtain⟨nk,iL,l5,iM,aZ⟩:=zt bY
 refine cl Tryz.call11 (kv _ _ (bP.mk z B C r s (Ll.mk b) (Ll.mk d) (Ll.mk c) u x l a) g b.length f j d.length h p o c.length n av iL rfl (aZ _ 5 _ rfl eP) (show b.length≤f∧b.length≤9223372036854775807 from by omega) bK rfl (aZ _ 3 _ rfl eP) (show d.length≤h∧d.length≤9223372036854775807 from by omega) (fun x9 S=>⟨aZ _ 4 _ rfl (fF (List.mem_flatMap.2 ⟨x9,S, .head _⟩) eP),kC (φ:=fun _=>_) bY (i:=4) rfl (fF (List.mem_flatMap.2 ⟨x9,S, .head _⟩) jS)⟩) rfl (aZ _ 2 _ rfl eP) (show c.length≤n∧c.length≤9223372036854775807 from by omega) (by first | omega | (dsimp only; omega) | (simp only [List.length_nil]; omega) | decide) bN) ?_
 rintro _ ny ⟨rfl,iO⟩
 have eF:=iM _ _ iO
 refine Ar rfl (Mz rfl (fw (.bool (decide (¬ (av=0)))) (zF (e:= !(decide (av=0))) yk decide_not.symm) (nt ?_)))
 by_cases bZ:av=0
 refine jF (dF (Ce bZ)) (sk (sr (La (bM z B C r s g b.length f j d.length h o c.length n u x l.aJ l.aN a.bg a.bv a.cz a.aO.aJ a.aO.aN) eF 1 Tryz.isAgg31 Tryz.sizeOf31 ?_)))
 have j6:=eF.pk [6,0,1,2,3,4,5]
 refine df (bM z B C r s g b.length f j d.length h o c.length n u x l.aJ l.aN a.bg a.bv a.cz a.aO.aJ a.aO.aN) 0 j6 Tryz.sizeOf31 ?_
 intro kg cu
 replace cu:Own w D kg [blk E (bM z B C r s g b.length f j d.length h o c.length n u x l.aJ l.aN a.bg a.bv a.cz a.aO.aJ a.aO.aN) 31,blk y [.slice G t.aa.ls.length F, .int .i64 t.av] 150,blk A (bM z B C r s g b.length f j d.length h o c.length n u x l.aJ l.aN a.bg a.bv a.cz a.aO.aJ a.aO.aN) 31,row o c.length n (List.flatMap (eN .u64) c) 22 1,row j d.length h (List.flatMap aP.cells p) 66 2,sepL (List.flatMap zN p),row g b.length f (List.flatMap aH.cells b) 54 2]:=(cu)
 refine An rfl (rt (zO (lM (vs:= [.agg (bM z B C r s g b.length f j d.length h o c.length n u x l.aJ l.aN a.bg a.bv a.cz a.aO.aJ a.aO.aN).toArray, .int .i64 0]) rfl (gD.cell rfl (zD (cs:=(bM z B C r s g b.length f j d.length h o c.length n u x l.aJ l.aN a.bg a.bv a.cz a.aO.aJ a.aO.aN)) Tryz.isAgg31 Tryz.sizeOf31 ((cu.cls (i:=0) rfl).lit (k:=0) (m:=17) rfl)) (gD.tmp rfl gD.nil)) (Ca rfl)) ?_))
 have ko:=cu.pk [6,4,5,3]
 have e:bL T=(bP.mk z B C r s (Ll.mk b) (Ll.mk d) (Ll.mk c) u x l a,0):=et (ae bO) (et (ae bR) (et (ae bU) (et (ae bW) (et (ae aA) (et (ae aC) (et (ae aF) (et (ae aI) (et (ae aK) (et (ae aM) (et (ae aO) (et (ae aR) (et (ae aT) (et (ae aW) (et (ae aY) (et (ip bE) (et (ae bN) (ip bZ)))))))))))))))))
 obtain⟨rfl,rfl⟩:=ig (e.symm.trans hr)
 exact⟨g,f,j,h,o,n,p,rfl,ko,bK,(by first | omega | (dsimp only; omega) | (simp only [List.length_nil]; omega) | decide)⟩
 refine jT (dT bZ) (sr (Kz (.agg (bM 0 0 0 0 0 none 0 0 none 0 0 none 0 0 0 0 ([]) ([]) 0 0 0 ([]) ([])).toArray) (Mz rfl ?_)))
 have ku:=eF.pk [6,0,1,2,3,4,5]
 refine df (bM 0 0 0 0 0 none 0 0 none 0 0 none 0 0 0 0 ([]) ([]) 0 0 0 ([]) ([])) 0 ku Tryz.sizeOf31 ?_
 intro bF cz
 replace cz:Own w D bF [blk E (bM 0 0 0 0 0 none 0 0 none 0 0 none 0 0 0 0 ([]) ([]) 0 0 0 ([]) ([])) 31,blk y [.slice G t.aa.ls.length F, .int .i64 t.av] 150,blk A (bM z B C r s g b.length f j d.length h o c.length n u x l.aJ l.aN a.bg a.bv a.cz a.aO.aJ a.aO.aN) 31,row o c.length n (List.flatMap (eN .u64) c) 22 1,row j d.length h (List.flatMap aP.cells p) 66 2,sepL (List.flatMap zN p),row g b.length f (List.flatMap aH.cells b) 54 2]:=(cz)
 refine An rfl (rt (tR (zO (lM (vs:= [.agg (bM 0 0 0 0 0 none 0 0 none 0 0 none 0 0 0 0 ([]) ([]) 0 0 0 ([]) ([])).toArray, .int .i64 av]) rfl (gD.cell rfl (zD (cs:=(bM 0 0 0 0 0 none 0 0 none 0 0 none 0 0 0 0 ([]) ([]) 0 0 0 ([]) ([]))) Tryz.isAgg31 Tryz.sizeOf31 ((cz.cls (i:=0) rfl).lit (k:=0) (m:=17) rfl)) (gD.tmp rfl gD.nil)) (Ca rfl)) ?_)))
 have kw:Own w D bF [row none 0 0 (List.flatMap aH.cells ([])) 54 2,blk E (bM 0 0 0 0 0 none 0 0 none 0 0 none 0 0 0 0 ([]) ([]) 0 0 0 ([]) ([])) 31,blk y [.slice G t.aa.ls.length F, .int .i64 t.av] 150,blk A (bM z B C r s g b.length f j d.length h o c.length n u x l.aJ l.aN a.bg a.bv a.cz a.aO.aJ a.aO.aN) 31,row o c.length n (List.flatMap (eN .u64) c) 22 1,row j d.length h (List.flatMap aP.cells p) 66 2,sepL (List.flatMap zN p),row g b.length f (List.flatMap aH.cells b) 54 2]:=cz.free (gX 54 2)
 have ky:Own w D bF [sepL (List.flatMap zN ([])),row none 0 0 (List.flatMap aH.cells ([])) 54 2,blk E (bM 0 0 0 0 0 none 0 0 none 0 0 none 0 0 0 0 ([]) ([]) 0 0 0 ([]) ([])) 31,blk y [.slice G t.aa.ls.length F, .int .i64 t.av] 150,blk A (bM z B C r s g b.length f j d.length h o c.length n u x l.aJ l.aN a.bg a.bv a.cz a.aO.aJ a.aO.aN) 31,row o c.length n (List.flatMap (eN .u64) c) 22 1,row j d.length h (List.flatMap aP.cells p) 66 2,sepL (List.flatMap zN p),row g b.length f (List.flatMap aH.cells b) 54 2]:=kw.sepNil
 have kz:Own w D bF [row none 0 0 (List.flatMap aP.cells ([])) 66 2,sepL (List.flatMap zN ([])),row none 0 0 (List.flatMap aH.cells ([])) 54 2,blk E (bM 0 0 0 0 0 none 0 0 none 0 0 none 0 0 0 0 ([]) ([]) 0 0 0 ([]) ([])) 31,blk y [.slice G t.aa.ls.length F, .int .i64 t.av] 150,blk A (bM z B C r s g b.length f j d.length h o c.length n u x l.aJ l.aN a.bg a.bv a.cz a.aO.aJ a.aO.aN) 31,row o c.length n (List.flatMap (eN .u64) c) 22 1,row j d.length h (List.flatMap aP.cells p) 66 2,sepL (List.flatMap zN p),row g b.length f (List.flatMap aH.cells b) 54 2]:=ky.free (gX 66 2)
 have kD:Own w D bF [row none 0 0 (List.flatMap (eN .u64) ([])) 22 1,row none 0 0 (List.flatMap aP.cells ([])) 66 2,sepL (List.flatMap zN ([])),row none 0 0 (List.flatMap aH.cells ([])) 54 2,blk E (bM 0 0 0 0 0 none 0 0 none 0 0 none 0 0 0 0 ([]) ([]) 0 0 0 ([]) ([])) 31,blk y [.slice G t.aa.ls.length F, .int .i64 t.av] 150,blk A (bM z B C r s g b.length f j d.length h o c.length n u x l.aJ l.aN a.bg a.bv a.cz a.aO.aJ a.aO.aN) 31,row o c.length n (List.flatMap (eN .u64) c) 22 1,row j d.length h (List.flatMap aP.cells p) 66 2,sepL (List.flatMap zN p),row g b.length f (List.flatMap aH.cells b) 54 2]:=kz.free (gX 22 1)
 have kE:=kD.pk [3,1,2,0]
 have e:bL T=(bP.mk 0 0 0 0 0 (Ll.mk ([])) (Ll.mk ([])) (Ll.mk ([])) 0 0 (bI.mk ([]) ([])) (eU.mk 0 0 0 (bI.mk ([]) ([]))),av):=et (ae bO) (et (ae bR) (et (ae bU) (et (ae bW) (et (ae aA) (et (ae aC) (et (ae aF) (et (ae aI) (et (ae aK) (et (ae aM) (et (ae aO) (et (ae aR) (et (ae aT) (et (ae aW) (et (ae aY) (et (ip bE) (et (ae bN) (iN bZ)))))))))))))))))
 obtain⟨rfl,rfl⟩:=ig (e.symm.trans hr)
 exact⟨none,0,none,0,none,0, [],rfl,kE,rfl,(by first | omega | (dsimp only; omega) | (simp only [List.length_nil]; omega) | decide)⟩
 refine jT (dT bE) (sr (Kz (.agg (bM 0 0 0 0 0 none 0 0 none 0 0 none 0 0 0 0 ([]) ([]) 0 0 0 ([]) ([])).toArray) (Mz rfl ?_)))
 have kF:=bY.pk [6,0,1,2,3,4,5]
 refine df (bM 0 0 0 0 0 none 0 0 none 0 0 none 0 0 0 0 ([]) ([]) 0 0 0 ([]) ([])) 0 kF Tryz.sizeOf31 ?_
 intro bH cB
 replace cB:Own w D bH [blk E (bM 0 0 0 0 0 none 0 0 none 0 0 none 0 0 0 0 ([]) ([]) 0 0 0 ([]) ([])) 31,blk y [.slice G t.aa.ls.length F, .int .i64 t.av] 150,blk A (bM z B C r s g b.length f j d.length h o c.length n u x l.aJ l.aN a.bg a.bv a.cz a.aO.aJ a.aO.aN) 31,row o c.length n (List.flatMap (eN .u64) c) 22 1,row j d.length h (List.flatMap aP.cells p) 66 2,sepL (List.flatMap zN p),row g b.length f (List.flatMap aH.cells b) 54 2]:=(cB)
 refine An rfl (rt (tR (zO (lM (vs:= [.agg (bM 0 0 0 0 0 none 0 0 none 0 0 none 0 0 0 0 ([]) ([]) 0 0 0 ([]) ([])).toArray, .int .i64 au]) rfl (gD.cell rfl (zD (cs:=(bM 0 0 0 0 0 none 0 0 none 0 0 none 0 0 0 0 ([]) ([]) 0 0 0 ([]) ([]))) Tryz.isAgg31 Tryz.sizeOf31 ((cB.cls (i:=0) rfl).lit (k:=0) (m:=17) rfl)) (gD.tmp rfl gD.nil)) (Ca rfl)) ?_)))
 have kG:Own w D bH [row none 0 0 (List.flatMap aH.cells ([])) 54 2,blk E (bM 0 0 0 0 0 none 0 0 none 0 0 none 0 0 0 0 ([]) ([]) 0 0 0 ([]) ([])) 31,blk y [.slice G t.aa.ls.length F, .int .i64 t.av] 150,blk A (bM z B C r s g b.length f j d.length h o c.length n u x l.aJ l.aN a.bg a.bv a.cz a.aO.aJ a.aO.aN) 31,row o c.length n (List.flatMap (eN .u64) c) 22 1,row j d.length h (List.flatMap aP.cells p) 66 2,sepL (List.flatMap zN p),row g b.length f (List.flatMap aH.cells b) 54 2]:=cB.free (gX 54 2)
 have kH:Own w D bH [sepL (List.flatMap zN ([])),row none 0 0 (List.flatMap aH.cells ([])) 54 2,blk E (bM 0 0 0 0 0 none 0 0 none 0 0 none 0 0 0 0 ([]) ([]) 0 0 0 ([]) ([])) 31,blk y [.slice G t.aa.ls.length F, .int .i64 t.av] 150,blk A (bM z B C r s g b.length f j d.length h o c.length n u x l.aJ l.aN a.bg a.bv a.cz a.aO.aJ a.aO.aN) 31,row o c.length n (List.flatMap (eN .u64) c) 22 1,row j d.length h (List.flatMap aP.cells p) 66 2,sepL (List.flatMap zN p),row g b.length f (List.flatMap aH.cells b) 54 2]:=kG.sepNil
 have kI:Own w D bH [row none 0 0 (List.flatMap aP.cells ([])) 66 2,sepL (List.flatMap zN ([])),row none 0 0 (List.flatMap aH.cells ([])) 54 2,blk E (bM 0 0 0 0 0 none 0 0 none 0 0 none 0 0 0 0 ([]) ([]) 0 0 0 ([]) ([])) 31,blk y [.slice G t.aa.ls.length F, .int .i64 t.av] 150,blk A (bM z B C r s g b.length f j d.length h o c.length n u x l.aJ l.aN a.bg a.bv a.cz a.aO.aJ a.aO.aN) 31,row o c.length n (List.flatMap (eN .u64) c) 22 1,row j d.length h (List.flatMap aP.cells p) 66 2,sepL (List.flatMap zN p),row g b.length f (List.flatMap aH.cells b) 54 2]:=kH.free (gX 66 2)
 have kJ:Own w D bH [row none 0 0 (List.flatMap (eN .u64) ([])) 22 1,row none 0 0 (List.flatMap aP.cells ([])) 66 2,sepL (List.flatMap zN ([])),row none 0 0 (List.flatMap aH.cells ([])) 54 2,blk E (bM 0 0 0 0 0 none 0 0 none 0 0 none 0 0 0 0 ([]) ([]) 0 0 0 ([]) ([])) 31,blk y [.slice G t.aa.ls.length F, .int .i64 t.av] 150,blk A (bM z B C r s g b.length f j d.length h o c.length n u x l.aJ l.aN a.bg a.bv a.cz a.aO.aJ a.aO.aN) 31,row o c.length n (List.flatMap (eN .u64) c) 22 1,row j d.length h (List.flatMap aP.cells p) 66 2,sepL (List.flatMap zN p),row g b.length f (List.flatMap aH.cells b) 54 2]:=kI.free (gX 22 1)
 have kK:=kJ.pk [3,1,2,0]
 have e:bL T=(bP.mk 0 0 0 0 0 (Ll.mk ([])) (Ll.mk ([])) (Ll.mk ([])) 0 0 (bI.mk ([]) ([])) (eU.mk 0 0 0 (bI.mk ([]) ([]))),au):=et (ae bO) (et (ae bR) (et (ae bU) (et (ae bW) (et (ae aA) (et (ae aC) (et (ae aF) (et (ae aI) (et (ae aK) (et (ae aM) (et (ae aO) (et (ae aR) (et (ae aT) (et (ae aW) (et (ae aY) (iN bE)))))))))))))))
 obtain⟨rfl,rfl⟩:=ig (e.symm.trans hr)
 exact⟨none,0,none,0,none,0, [],rfl,kK,rfl,(by first | omega | (dsimp only; omega) | (simp only [List.length_nil]; omega) | decide)⟩
end Go.Proofs.YtcnkpjheifkgnaaGreat
