/-
 record: a shard's state of bytes.
-/
import Derived.Test.YtcnkpjheifkgnaaGreatRd
namespace Go.Proofs.YtcnkpjheifkgnaaGreat
set_option maxRecDepth 100000
open Go.RowKit
set_option linter.unusedVariables false
set_option linter.unusedSectionVars false
set_option linter.unusedSimpArgs false
def d9 (p1:Int):Nat→List aL→Nat→List UInt8→Int→(List aL) × (List UInt8) × Int
  | 0,c,e,d,a=>default
  | f+1,c,e,d,a=>if((e:Nat):Int) < p1 then if a=0 then bnd (j3 (ReaderT.mk (Ll.mk d) a)) fun b=>d9 p1 f (c++ [b.1]) (e+1) b.2.ae.ls b.2.aG else(c,d,a) else(c,d,a)
def jV (a:ReaderT) (p1:Int):(List aL) × ReaderT:=
 bnd (bnd (d9 p1 ((Int.toNat p1 - 0)+1) ([]) 0 a.ae.ls a.aG) fun sLrJjL=>(sLrJjL.1,sLrJjL.2.1,sLrJjL.2.2)) fun sJrJ=>(sJrJ.1,ReaderT.mk (Ll.mk sJrJ.2.1) sJrJ.2.2)
theorem nZ (w:World) (D:Nat→Prop) (t:Nat) (c:ReaderT) (a:Option Addr) (b:Nat) (p1:Int) (W:List aL) (r1:ReaderT) (H:Own w D w [blk t [.slice a c.ae.ls.length b, .int .i64 c.aG] 150]) (R:Ro w D fun w'=>bG w' 1 a c.ae.ls.length (List.flatMap eB c.ae.ls)) (aA:c.ae.ls.length≤b∧c.ae.ls.length≤9223372036854775807) (bq:p1≤1000) (hr:jV c p1=(W,r1)):
    Calls Tryz.prog 94 #[.pointer (some ⟨t,0,none⟩), .int .i64 p1, .func (.func 53) #[] #[]] w (dE fun v w'=> ∃ (B0:Option Addr) (b0:Nat) (B1ox0:Option Addr) (b1ox0:Nat),v= .slice B0 W.length b0∧Own w D w' [row B0 W.length b0 (List.flatMap aL.cells W) 54 2,blk t [.slice B1ox0 r1.ae.ls.length b1ox0, .int .i64 r1.aG] 150]∧(aF 1 a b c.ae.ls B1ox0 b1ox0 r1.ae.ls)∧(W.length≤1000)):=by
 refine Ce (args:= [.pointer (some ⟨t,0,none⟩), .int .i64 p1, .func (.func 53) #[] #[]]) Tryz.func94 rfl rfl rfl ?_
 show Wp _ _ _ [(0, .pointer (some ⟨t,0,none⟩)),(1, .int .i64 p1),(2, .func (.func 53) #[] #[])] _ _
 refine sr (Ar rfl (An rfl (BS (sr (An rfl ?_)))))
 obtain⟨X,Y⟩:∃ q:((Option Addr) × Nat × (List aL) × (Option Addr) × Nat × (List UInt8) × Int)→World→Prop,q=fun(i:(Option Addr) × Nat × (List aL) × (Option Addr) × Nat × (List UInt8) × Int) w'=>Own w D w' [blk t [.slice i.2.2.2.1 i.2.2.2.2.2.1.length i.2.2.2.2.1, .int .i64 i.2.2.2.2.2.2] 150,row i.1 i.2.2.1.length i.2.1 (List.flatMap aL.cells i.2.2.1) 54 2]∧(aF 1 a b c.ae.ls i.2.2.2.1 i.2.2.2.2.1 i.2.2.2.2.2.1∧0≤i.2.2.1.length∧i.2.2.2.2.2.1.length≤c.ae.ls.length∧i.2.2.2.2.2.1.length≤c.ae.ls.length+1∧i.2.2.1.length≤1000∧(bnd (d9 p1 ((Int.toNat p1 - 0)+1) ([]) 0 c.ae.ls c.aG) fun sLrJjL=>(sLrJjL.1,sLrJjL.2.1,sLrJjL.2.2))=(i.2.2.1,i.2.2.2.2.2.1,i.2.2.2.2.2.2)):=⟨_,rfl⟩
 have C:∀ {E:Option Addr} {F:Nat} {l:List aL} {G:Option Addr} {I:Nat} {o:List UInt8} {J:Int} {w':World},X (E,F,l,G,I,o,J) w'↔Own w D w' [blk t [.slice G o.length I, .int .i64 J] 150,row E l.length F (List.flatMap aL.cells l) 54 2]∧aF 1 a b c.ae.ls G I o∧0≤l.length∧o.length≤c.ae.ls.length∧o.length≤c.ae.ls.length+1∧l.length≤1000∧(bnd (d9 p1 ((Int.toNat p1 - 0)+1) ([]) 0 c.ae.ls c.aG) fun sLrJjL=>(sLrJjL.1,sLrJjL.2.1,sLrJjL.2.2))=(l,o,J):=by intros; subst Y; exact Iff.rfl
 refine Df (fun i:(Option Addr) × Nat × (List aL) × (Option Addr) × Nat × (List UInt8) × Int=> [(7, .slice i.1 i.2.2.1.length i.2.1),(6, .slice none 0 0)]) X ?_ ?_
 refine bo ?_
 have aB:Own w D w [row none 0 0 (List.flatMap aL.cells ([])) 54 2,blk t [.slice a c.ae.ls.length b, .int .i64 c.aG] 150]:=H.free (iD 54 2)
 have aC:=aB.pk [1,0]
 obtain⟨Z,aa⟩:∃ q:((Option Addr) × Nat × (List aL) × Nat × (Option Addr) × Nat × (List UInt8) × Int × Nat)→World→Prop,q=fun(i:(Option Addr) × Nat × (List aL) × Nat × (Option Addr) × Nat × (List UInt8) × Int × Nat) w'=>Own w D w' [blk t [.slice i.2.2.2.2.1 i.2.2.2.2.2.2.1.length i.2.2.2.2.2.1, .int .i64 i.2.2.2.2.2.2.2.1] 150,row i.1 i.2.2.1.length i.2.1 (List.flatMap aL.cells i.2.2.1) 54 2]∧(aF 1 a b c.ae.ls i.2.2.2.2.1 i.2.2.2.2.2.1 i.2.2.2.2.2.2.1∧i.2.2.1.length≤i.2.2.2.1∧(i.2.2.2.1=0∨((i.2.2.2.1:Nat):Int)≤p1)∧Int.toNat p1 - i.2.2.2.1 < i.2.2.2.2.2.2.2.2∧d9 p1 ((Int.toNat p1 - 0)+1) ([]) 0 c.ae.ls c.aG=d9 p1 i.2.2.2.2.2.2.2.2 i.2.2.1 i.2.2.2.1 i.2.2.2.2.2.2.1 i.2.2.2.2.2.2.2.1):=⟨_,rfl⟩
 have K:∀ {z:Option Addr} {A:Nat} {f:List aL} {g:Nat} {p:Option Addr} {n:Nat} {h:List UInt8} {j:Int} {B:Nat} {w':World},Z (z,A,f,g,p,n,h,j,B) w'↔Own w D w' [blk t [.slice p h.length n, .int .i64 j] 150,row z f.length A (List.flatMap aL.cells f) 54 2]∧aF 1 a b c.ae.ls p n h∧f.length≤g∧(g=0∨((g:Nat):Int)≤p1)∧Int.toNat p1 - g < B∧d9 p1 ((Int.toNat p1 - 0)+1) ([]) 0 c.ae.ls c.aG=d9 p1 B f g h j:=by intros; subst aa; exact Iff.rfl
 refine Wp.loop (fun i:(Option Addr) × Nat × (List aL) × Nat × (Option Addr) × Nat × (List UInt8) × Int × Nat=> [(7, .slice i.1 i.2.2.1.length i.2.1),(8, .int .i64 ((i.2.2.2.1:Nat):Int)),(6, .slice none 0 0),(0, .pointer (some ⟨t,0,none⟩)),(1, .int .i64 p1),(2, .func (.func 53) #[] #[])]) Z (fun i=>i.2.2.2.2.2.2.2.2) (none,0, [],0,a,b,c.ae.ls,c.aG,(Int.toNat p1 - 0)+1) ⟨rfl,rfl,rfl,rfl,rfl,rfl,trivial⟩ (K.2 ⟨aC,(show aF 1 a b c.ae.ls a b c.ae.ls∧0≤0∧(0=0∨((0:Nat):Int)≤p1)∧Int.toNat p1 - 0 < ((Int.toNat p1 - 0)+1)∧d9 p1 ((Int.toNat p1 - 0)+1) ([]) 0 c.ae.ls c.aG=d9 p1 ((Int.toNat p1 - 0)+1) ([]) 0 c.ae.ls c.aG from ⟨by exact(aF.refl (by omega)),by omega,by omega,by omega,rfl⟩)⟩) ?_
 rintro ⟨z,A,f,g,p,n,h,j,B⟩ bu ae
 show Wp _ _ _ [(7, .slice z f.length A),(8, .int .i64 ((g:Nat):Int)),(6, .slice none 0 0),(0, .pointer (some ⟨t,0,none⟩)),(1, .int .i64 p1),(2, .func (.func 53) #[] #[])] _ _
 obtain⟨N,r,aS,aT,aU,L⟩:=K.1 ae
 have aV:=(r).le
 obtain⟨S,af⟩:∃ q,B=q+1:=⟨B - 1,by omega⟩
 subst af
 refine BS (sr (Mz rfl (Mz rfl (Kz (.bool (decide (((g:Nat):Int) < p1))) (Mz rfl ?_)))))
 by_cases d:((g:Nat):Int) < p1
 refine gw (.pointer (some ⟨t,0,none⟩)) (dT d) (BX rfl) (Gz (.pointer (some ⟨t,0,none⟩)) (dT d) (Gz (.pointer (some ⟨t,1,none⟩)) (dT d) (Gl (.int .i64 j) (dT d) N 0 Tryz.isAgg38 (Gz (.bool (decide (j=0))) (dT d) (fw (.bool (decide (j=0))) (BZ rfl (dT d) rfl) (nt ?_))))))
 by_cases O:j=0
 refine jT (dT O) (sk (BS (bo (BR (Mz rfl (Mz rfl (Mz rfl ?_)))))))
 obtain⟨⟨u,M⟩,P⟩:∃ q:aL × ReaderT,j3 (ReaderT.mk (Ll.mk h) j)=q:=⟨_,rfl⟩
 obtain⟨bv,ah,ai,aj,aW⟩:=Cg N
 refine WL.do rfl (CB Tryz.call53 rfl rfl (qf _ _ t (ReaderT.mk (Ll.mk h) j) p n u M ah (fun w9 h9=>aF.rds bA (by decide) r ((ai _ R) w9 h9)) (show h.length≤n∧h.length≤9223372036854775807 from by omega) P) ?_)
 rintro _ bC ⟨T,U,rfl,ak,x⟩
 have aD:=aj _ _ ak
 replace x:aF 1 p n h T U M.ae.ls:=x
 have aX:=(x).le
 have au:aF 1 a b c.ae.ls T U M.ae.ls:=aF.trans r x
 refine ji (aL.cells u) 54 2 1 aD ?_
 intro aG bD V
 replace V:=CG (y:=row aG 1 1 (List.flatMap aL.cells ([u])) 54 2) rfl V
 have av:=V.pk [2,0,1]
 refine WL.do rfl (CU (k:=f.length) (m:=1) (ng) av rfl rfl (j5 Tryz.underlying23 (av.rds (i:=1) rfl) (ja aL.one ([u]))) rfl (by omega) (s:=List.length (f++ [u])) (by first | omega | (simp only [List.length_append,List.length_cons,List.length_nil] <;> omega)) (List.flatMap_append).symm ?_)
 intro aH aI bE aJ
 have aY:List.length (f++ [u])=f.length+1:=by simp only [List.length_append,List.length_cons,List.length_nil]
 refine Az rfl (Cf (bN (Ca (BR (Mz rfl (fw (.int .i64 ((g+1:Nat):Int)) (Ci (e:=IntKind.i64.wrap (((g:Nat):Int)+1)) yk (by rw [EL _ (by omega)]; omega)) (Az rfl (Cf ?_))))))))
 have aK:=aJ.pk [2,0]
 exact Cm (aH,aI,(f++ [u]),g+1,T,U,M.ae.ls,M.aG,S) ⟨rfl,rfl,rfl,rfl,rfl,rfl,trivial⟩ (K.2 ⟨aK,by exact au,by omega,by omega,by omega,et (L) (et (ip d) (et (ip O) (ag P)))⟩) (by show S < S+1; omega)
 refine jF (dF O) (Wp.exit (Cb (Cb (Cn ?_))))
 have aM:=N.pk [0,1]
 exact CV (z,A,f,p,n,h,j) ⟨rfl,rfl,trivial⟩ (C.2 ⟨aM,by exact r,by omega,by omega,by omega,by omega,ag (et (L) (et (ip d) (iN O)))⟩)
 refine Sz (dF d) (Sz (dF d) (Sz (dF d) (Sz (dF d) (Sz (dF d) (fw (.bool false) (BQ rfl (dF d) rfl) (nt (jf (Wp.exit (Cb (Cb (Cn ?_)))))))))))
 have aN:=N.pk [0,1]
 exact CV (z,A,f,p,n,h,j) ⟨rfl,rfl,trivial⟩ (C.2 ⟨aN,by exact r,by omega,by omega,by omega,by omega,ag (et (L) (iN d))⟩)
 rintro ⟨E,F,l,G,I,o,J⟩ bF ax
 show Wp _ _ _ [(7, .slice E l.length F),(6, .slice none 0 0)] _ _
 obtain⟨aO,Q,aZ,bf,bg,bi,ay⟩:=C.1 ax
 have bn:=(Q).le
 refine sr (Mz rfl (An rfl (rt (rs ?_))))
 have aP:=aO.pk [1,0]
 have e:jV c p1=(l,ReaderT.mk (Ll.mk o) J):=ag ay
 obtain⟨rfl,rfl⟩:=iI (e.symm.trans hr)
 exact⟨E,F,G,I,rfl,aP,Q,(by omega)⟩
def gD (c:ReaderT) (p1:Nat):(List aL) × ReaderT:=
 bnd (aQ c p1) fun a=>bnd (jV a.2 ((a.1:Nat):Int)) fun b=>(b.1,b.2)
theorem mr (w:World) (D:Nat→Prop) (r:Nat) (d:ReaderT) (b:Option Addr) (a:Nat) (p1:Nat) (y:List aL) (L:ReaderT) (H:Own w D w [blk r [.slice b d.ae.ls.length a, .int .i64 d.aG] 150]) (j:Ro w D fun w'=>bG w' 1 b d.ae.ls.length (List.flatMap eB d.ae.ls)) (M:d.ae.ls.length≤a∧d.ae.ls.length≤9223372036854775807) (Y:p1≤1000) (hr:gD d p1=(y,L)):
    Calls Tryz.prog 52 #[.pointer (some ⟨r,0,none⟩), .int .u64 ((p1:Nat):Int), .func (.func 53) #[] #[]] w (dE fun v w'=> ∃ (R:Option Addr) (S:Nat) (B1ox0:Option Addr) (b1ox0:Nat),v= .slice R y.length S∧Own w D w' [row R y.length S (List.flatMap aL.cells y) 54 2,blk r [.slice B1ox0 L.ae.ls.length b1ox0, .int .i64 L.aG] 150]∧(aF 1 b a d.ae.ls B1ox0 b1ox0 L.ae.ls)∧(y.length≤1000)):=by
 refine Ce (args:= [.pointer (some ⟨r,0,none⟩), .int .u64 ((p1:Nat):Int), .func (.func 53) #[] #[]]) Tryz.func52 rfl rfl rfl ?_
 show Wp _ _ _ [(0, .pointer (some ⟨r,0,none⟩)),(1, .int .u64 ((p1:Nat):Int)),(2, .func (.func 53) #[] #[])] _ _
 refine sr (Ar rfl (Mz rfl (Mz rfl (Mz rfl ?_))))
 obtain⟨⟨h,f⟩,m⟩:∃ q:Nat × ReaderT,aQ d p1=q:=⟨_,rfl⟩
 obtain⟨Z,z,A,B,T⟩:=Cg H
 refine cl Tryz.call93 (fD _ _ r d b a p1 h f z (A _ j) (show d.ae.ls.length≤a∧d.ae.ls.length≤9223372036854775807 from by omega) m) ?_
 rintro _ aa ⟨s,k,rfl,C,c,n⟩
 have N:=B _ _ C
 replace c:aF 1 b a d.ae.ls s k f.ae.ls:=c
 have U:=(c).le
 replace n:h≤p1:=n
 refine fw (.int .i64 ((h:Nat):Int)) (Ci (e:=IntKind.i64.wrap ((h:Nat):Int)) yk (EL _ (by omega))) (Mz rfl ?_)
 obtain⟨⟨t,l⟩,o⟩:∃ q:(List aL) × ReaderT,jV f ((h:Nat):Int)=q:=⟨_,rfl⟩
 obtain⟨ae,E,F,G,V⟩:=Cg N
 refine cl Tryz.call94 (nZ _ _ r f s k ((h:Nat):Int) t l E (fun w9 h9=>aF.rds bA (by decide) c ((F _ j) w9 h9)) (show f.ae.ls.length≤k∧f.ae.ls.length≤9223372036854775807 from by omega) (by omega) o) ?_
 rintro _ ai ⟨O,P,u,x,rfl,I,g,p⟩
 have J:=G _ _ I
 replace g:aF 1 s k f.ae.ls u x l.ae.ls:=g
 have W:=(g).le
 have K:aF 1 b a d.ae.ls u x l.ae.ls:=aF.trans c g
 have X:=J.rowC (i:=0) rfl
 replace p:t.length≤1000:=p
 refine An rfl (rt (rs ?_))
 have Q:=J.pk [0,1]
 have e:gD d p1=(t,l):=et (ag m) (ag o)
 obtain⟨rfl,rfl⟩:=iI (e.symm.trans hr)
 exact⟨O,P,u,x,rfl,Q,K,(by omega)⟩
def eP (p1:Int):Nat→List eZ→Nat→List UInt8→Int→(List eZ) × (List UInt8) × Int
  | 0,c,e,d,a=>default
  | f+1,c,e,d,a=>if((e:Nat):Int) < p1 then if a=0 then bnd (kH (ReaderT.mk (Ll.mk d) a)) fun b=>eP p1 f (c++ [b.1]) (e+1) b.2.ae.ls b.2.aG else(c,d,a) else(c,d,a)
def ku (a:ReaderT) (p1:Int):(List eZ) × ReaderT:=
 bnd (bnd (eP p1 ((Int.toNat p1 - 0)+1) ([]) 0 a.ae.ls a.aG) fun sLrJjL=>(sLrJjL.1,sLrJjL.2.1,sLrJjL.2.2)) fun sJrJ=>(sJrJ.1,ReaderT.mk (Ll.mk sJrJ.2.1) sJrJ.2.2)
theorem oF (w:World) (D:Nat→Prop) (x:Nat) (d:ReaderT) (b:Option Addr) (c:Nat) (p1:Int) (r0:List eZ) (r1:ReaderT) (H:Own w D w [blk x [.slice b d.ae.ls.length c, .int .i64 d.aG] 150]) (ae:Ro w D fun w'=>bG w' 1 b d.ae.ls.length (List.flatMap eB d.ae.ls)) (aR:d.ae.ls.length≤c∧d.ae.ls.length≤9223372036854775807) (bR:p1≤1000) (hr:ku d p1=(r0,r1)):
    Calls Tryz.prog 96 #[.pointer (some ⟨x,0,none⟩), .int .i64 p1, .func (.func 55) #[] #[]] w (dE fun v w'=> ∃ (B0:Option Addr) (b0:Nat) (e0:List aM) (B1ox0:Option Addr) (b1ox0:Nat),v= .slice B0 r0.length b0∧Own w D w' [row B0 r0.length b0 (List.flatMap aM.cells e0) 66 2,sepL (List.flatMap CL e0),blk x [.slice B1ox0 r1.ae.ls.length b1ox0, .int .i64 r1.aG] 150]∧(List.map CE e0=r0)∧(aF 1 b c d.ae.ls B1ox0 b1ox0 r1.ae.ls)∧(r0.length≤1000)):=by
 refine Ce (args:= [.pointer (some ⟨x,0,none⟩), .int .i64 p1, .func (.func 55) #[] #[]]) Tryz.func96 rfl rfl rfl ?_
 show Wp _ _ _ [(0, .pointer (some ⟨x,0,none⟩)),(1, .int .i64 p1),(2, .func (.func 55) #[] #[])] _ _
 refine sr (Ar rfl (An rfl (BS (sr (An rfl ?_)))))
 obtain⟨au,av⟩:∃ q:((Option Addr) × Nat × (List aM) × (List eZ) × (Option Addr) × Nat × (List UInt8) × Int)→World→Prop,q=fun(i:(Option Addr) × Nat × (List aM) × (List eZ) × (Option Addr) × Nat × (List UInt8) × Int) w'=>Own w D w' [blk x [.slice i.2.2.2.2.1 i.2.2.2.2.2.2.1.length i.2.2.2.2.2.1, .int .i64 i.2.2.2.2.2.2.2] 150,row i.1 i.2.2.2.1.length i.2.1 (List.flatMap aM.cells i.2.2.1) 66 2,sepL (List.flatMap CL i.2.2.1)]∧(List.map CE i.2.2.1=i.2.2.2.1∧aF 1 b c d.ae.ls i.2.2.2.2.1 i.2.2.2.2.2.1 i.2.2.2.2.2.2.1∧0≤i.2.2.2.1.length∧i.2.2.2.2.2.2.1.length≤d.ae.ls.length∧i.2.2.2.2.2.2.1.length≤d.ae.ls.length+1∧i.2.2.2.1.length≤1000∧(bnd (eP p1 ((Int.toNat p1 - 0)+1) ([]) 0 d.ae.ls d.aG) fun sLrJjL=>(sLrJjL.1,sLrJjL.2.1,sLrJjL.2.2))=(i.2.2.2.1,i.2.2.2.2.2.2.1,i.2.2.2.2.2.2.2)):=⟨_,rfl⟩
 have L:∀ {M:Option Addr} {N:Nat} {G:List aM} {t:List eZ} {O:Option Addr} {P:Nat} {z:List UInt8} {Q:Int} {w':World},au (M,N,G,t,O,P,z,Q) w'↔Own w D w' [blk x [.slice O z.length P, .int .i64 Q] 150,row M t.length N (List.flatMap aM.cells G) 66 2,sepL (List.flatMap CL G)]∧List.map CE G=t∧aF 1 b c d.ae.ls O P z∧0≤t.length∧z.length≤d.ae.ls.length∧z.length≤d.ae.ls.length+1∧t.length≤1000∧(bnd (eP p1 ((Int.toNat p1 - 0)+1) ([]) 0 d.ae.ls d.aG) fun sLrJjL=>(sLrJjL.1,sLrJjL.2.1,sLrJjL.2.2))=(t,z,Q):=by intros; subst av; exact Iff.rfl
 refine Df (fun i:(Option Addr) × Nat × (List aM) × (List eZ) × (Option Addr) × Nat × (List UInt8) × Int=> [(7, .slice i.1 i.2.2.2.1.length i.2.1),(6, .slice none 0 0)]) au ?_ ?_
 refine bo ?_
 have aT:Own w D w [sepL (List.flatMap CL ([])),blk x [.slice b d.ae.ls.length c, .int .i64 d.aG] 150]:=H.sepNil
 have aU:Own w D w [row none 0 0 (List.flatMap aM.cells ([])) 66 2,sepL (List.flatMap CL ([])),blk x [.slice b d.ae.ls.length c, .int .i64 d.aG] 150]:=aT.free (iD 66 2)
 have aV:=aU.pk [2,0,1]
 obtain⟨ax,ay⟩:∃ q:((Option Addr) × Nat × (List aM) × (List eZ) × Nat × (Option Addr) × Nat × (List UInt8) × Int × Nat)→World→Prop,q=fun(i:(Option Addr) × Nat × (List aM) × (List eZ) × Nat × (Option Addr) × Nat × (List UInt8) × Int × Nat) w'=>Own w D w' [blk x [.slice i.2.2.2.2.2.1 i.2.2.2.2.2.2.2.1.length i.2.2.2.2.2.2.1, .int .i64 i.2.2.2.2.2.2.2.2.1] 150,row i.1 i.2.2.2.1.length i.2.1 (List.flatMap aM.cells i.2.2.1) 66 2,sepL (List.flatMap CL i.2.2.1)]∧(List.map CE i.2.2.1=i.2.2.2.1∧aF 1 b c d.ae.ls i.2.2.2.2.2.1 i.2.2.2.2.2.2.1 i.2.2.2.2.2.2.2.1∧i.2.2.2.1.length≤i.2.2.2.2.1∧(i.2.2.2.2.1=0∨((i.2.2.2.2.1:Nat):Int)≤p1)∧Int.toNat p1 - i.2.2.2.2.1 < i.2.2.2.2.2.2.2.2.2∧eP p1 ((Int.toNat p1 - 0)+1) ([]) 0 d.ae.ls d.aG=eP p1 i.2.2.2.2.2.2.2.2.2 i.2.2.2.1 i.2.2.2.2.1 i.2.2.2.2.2.2.2.1 i.2.2.2.2.2.2.2.2.1):=⟨_,rfl⟩
 have R:∀ {I:Option Addr} {J:Nat} {o:List aM} {g:List eZ} {j:Nat} {A:Option Addr} {u:Nat} {l:List UInt8} {n:Int} {K:Nat} {w':World},ax (I,J,o,g,j,A,u,l,n,K) w'↔Own w D w' [blk x [.slice A l.length u, .int .i64 n] 150,row I g.length J (List.flatMap aM.cells o) 66 2,sepL (List.flatMap CL o)]∧List.map CE o=g∧aF 1 b c d.ae.ls A u l∧g.length≤j∧(j=0∨((j:Nat):Int)≤p1)∧Int.toNat p1 - j < K∧eP p1 ((Int.toNat p1 - 0)+1) ([]) 0 d.ae.ls d.aG=eP p1 K g j l n:=by intros; subst ay; exact Iff.rfl
 refine Wp.loop (fun i:(Option Addr) × Nat × (List aM) × (List eZ) × Nat × (Option Addr) × Nat × (List UInt8) × Int × Nat=> [(7, .slice i.1 i.2.2.2.1.length i.2.1),(8, .int .i64 ((i.2.2.2.2.1:Nat):Int)),(6, .slice none 0 0),(0, .pointer (some ⟨x,0,none⟩)),(1, .int .i64 p1),(2, .func (.func 55) #[] #[])]) ax (fun i=>i.2.2.2.2.2.2.2.2.2) (none,0, [], [],0,b,c,d.ae.ls,d.aG,(Int.toNat p1 - 0)+1) ⟨rfl,rfl,rfl,rfl,rfl,rfl,trivial⟩ (R.2 ⟨aV,(show List.map CE ([])=([])∧aF 1 b c d.ae.ls b c d.ae.ls∧0≤0∧(0=0∨((0:Nat):Int)≤p1)∧Int.toNat p1 - 0 < ((Int.toNat p1 - 0)+1)∧eP p1 ((Int.toNat p1 - 0)+1) ([]) 0 d.ae.ls d.aG=eP p1 ((Int.toNat p1 - 0)+1) ([]) 0 d.ae.ls d.aG from ⟨by exact rfl,by exact(aF.refl (by omega)),by omega,by omega,by omega,rfl⟩)⟩) ?_
 rintro ⟨I,J,o,g,j,A,u,l,n,K⟩ bS az
 show Wp _ _ _ [(7, .slice I g.length J),(8, .int .i64 ((j:Nat):Int)),(6, .slice none 0 0),(0, .pointer (some ⟨x,0,none⟩)),(1, .int .i64 p1),(2, .func (.func 55) #[] #[])] _ _
 obtain⟨V,B,C,bF,bH,bI,S⟩:=R.1 az
 have bJ:=dm B
 have bK:=(C).le
 obtain⟨af,aA⟩:∃ q,K=q+1:=⟨K - 1,by omega⟩
 subst aA
 refine BS (sr (Mz rfl (Mz rfl (Kz (.bool (decide (((j:Nat):Int) < p1))) (Mz rfl ?_)))))
 by_cases h:((j:Nat):Int) < p1
 refine gw (.pointer (some ⟨x,0,none⟩)) (dT h) (BX rfl) (Gz (.pointer (some ⟨x,0,none⟩)) (dT h) (Gz (.pointer (some ⟨x,1,none⟩)) (dT h) (Gl (.int .i64 n) (dT h) V 0 Tryz.isAgg38 (Gz (.bool (decide (n=0))) (dT h) (fw (.bool (decide (n=0))) (BZ rfl (dT h) rfl) (nt ?_))))))
 by_cases W:n=0
 refine jT (dT W) (sk (BS (bo (BR (Mz rfl (Mz rfl (Mz rfl ?_)))))))
 obtain⟨⟨a,E⟩,Z⟩:∃ q:eZ × ReaderT,kH (ReaderT.mk (Ll.mk l) n)=q:=⟨_,rfl⟩
 obtain⟨bT,aB,aC,aD,bL⟩:=Cg V
 refine WL.do rfl (CB Tryz.call55 rfl rfl (qE _ _ x (ReaderT.mk (Ll.mk l) n) A u a E aB (fun w9 h9=>aF.rds bA (by decide) C ((aC _ ae) w9 h9)) (show l.length≤u∧l.length≤9223372036854775807 from by omega) Z) ?_)
 rintro _ bW ⟨p,r,X,Y,rfl,aG,F,aa⟩
 have aH:=aD _ _ aG
 replace F:aF 1 A u l X Y E.ae.ls:=F
 have bM:=(F).le
 have aI:aF 1 b c d.ae.ls X Y E.ae.ls:=aF.trans C F
 have bO:=aH.rowC (i:=0) rfl
 replace aa:a.ay.ls.length≤1000:=aa
 refine ji [.int .u64 ((a.av:Nat):Int), .slice p a.ay.ls.length r] 66 2 1 aH ?_
 intro aJ bX ah
 replace ah:=CG (y:=row aJ 1 1 (List.flatMap aM.cells ([(aM.mk a.av (Sv.mk p r a.ay.ls))])) 66 2) rfl ah
 have aK:=ah.pk [3,4,1,0,2]
 refine WL.do rfl (CU (k:=g.length) (m:=1) (pQ) aK rfl rfl (j5 Tryz.underlying24 (aK.rds (i:=3) rfl) (ja aM.one ([(aM.mk a.av (Sv.mk p r a.ay.ls))]))) rfl (by omega) (s:=List.length (g++ [a])) (by first | omega | (simp only [List.length_append,List.length_cons,List.length_nil] <;> omega)) (List.flatMap_append).symm ?_)
 intro aL aN aW aX
 have aY:=aX.pk [1,2,0,3,4]
 have aZ:Own w D aW [sepL (List.flatMap CL (o++ [(aM.mk a.av (Sv.mk p r a.ay.ls))])),row aL (List.length (g++ [a])) aN (List.flatMap aM.cells (o++ [(aM.mk a.av (Sv.mk p r a.ay.ls))])) 66 2,row aJ 1 1 (List.flatMap aM.cells ([(aM.mk a.av (Sv.mk p r a.ay.ls))])) 66 2,blk x [.slice X E.ae.ls.length Y, .int .i64 E.aG] 150]:=aY.sepAdd (L2:= [row p a.ay.ls.length r (List.flatMap bq.cells a.ay.ls) 74 6]) (List.flatMap_append (f:=CL) (xs:=o) (ys:= [(aM.mk a.av (Sv.mk p r a.ay.ls))])).symm
 have bP:List.length (g++ [a])=g.length+1:=by simp only [List.length_append,List.length_cons,List.length_nil]
 have bQ:=dm (mR (es:= [(aM.mk a.av (Sv.mk p r a.ay.ls))]) (ms:= [a]) B rfl)
 refine Az rfl (Cf (bN (Ca (BR (Mz rfl (fw (.int .i64 ((j+1:Nat):Int)) (Ci (e:=IntKind.i64.wrap (((j:Nat):Int)+1)) yk (by rw [EL _ (by omega)]; omega)) (Az rfl (Cf ?_))))))))
 have bf:=aZ.pk [3,1,0]
 exact Cm (aL,aN,(o++ [(aM.mk a.av (Sv.mk p r a.ay.ls))]),(g++ [a]),j+1,X,Y,E.ae.ls,E.aG,af) ⟨rfl,rfl,rfl,rfl,rfl,rfl,trivial⟩ (R.2 ⟨bf,by exact(mR (es:= [(aM.mk a.av (Sv.mk p r a.ay.ls))]) (ms:= [a]) B rfl),by exact aI,by omega,by omega,by omega,et (S) (et (ip h) (et (ip W) (ag Z)))⟩) (by show af < af+1; omega)
 refine jF (dF W) (Wp.exit (Cb (Cb (Cn ?_))))
 have bg:=V.pk [0,1,2]
 exact CV (I,J,o,g,A,u,l,n) ⟨rfl,rfl,trivial⟩ (L.2 ⟨bg,by exact B,by exact C,by omega,by omega,by omega,by omega,ag (et (S) (et (ip h) (iN W)))⟩)
 refine Sz (dF h) (Sz (dF h) (Sz (dF h) (Sz (dF h) (Sz (dF h) (fw (.bool false) (BQ rfl (dF h) rfl) (nt (jf (Wp.exit (Cb (Cb (Cn ?_)))))))))))
 have bi:=V.pk [0,1,2]
 exact CV (I,J,o,g,A,u,l,n) ⟨rfl,rfl,trivial⟩ (L.2 ⟨bi,by exact B,by exact C,by omega,by omega,by omega,by omega,ag (et (S) (iN h))⟩)
 rintro ⟨M,N,G,t,O,P,z,Q⟩ bY ai
 show Wp _ _ _ [(7, .slice M t.length N),(6, .slice none 0 0)] _ _
 obtain⟨aO,T,U,bn,bu,bv,bz,aj⟩:=L.1 ai
 have bB:=dm T
 have bC:=(U).le
 refine sr (Mz rfl (An rfl (rt (rs ?_))))
 have aP:=aO.pk [1,2,0]
 have e:ku d p1=(t,ReaderT.mk (Ll.mk z) Q):=ag aj
 obtain⟨rfl,rfl⟩:=iI (e.symm.trans hr)
 exact⟨M,N,G,O,P,rfl,aP,T,U,(by omega)⟩
def jg (c:ReaderT) (p1:Nat):(List eZ) × ReaderT:=
 bnd (aQ c p1) fun a=>bnd (ku a.2 ((a.1:Nat):Int)) fun b=>(b.1,b.2)
theorem oL (w:World) (D:Nat→Prop) (s:Nat) (d:ReaderT) (b:Option Addr) (a:Nat) (p1:Nat) (z:List eZ) (M:ReaderT) (H:Own w D w [blk s [.slice b d.ae.ls.length a, .int .i64 d.aG] 150]) (j:Ro w D fun w'=>bG w' 1 b d.ae.ls.length (List.flatMap eB d.ae.ls)) (N:d.ae.ls.length≤a∧d.ae.ls.length≤9223372036854775807) (af:p1≤1000) (hr:jg d p1=(z,M)):
    Calls Tryz.prog 54 #[.pointer (some ⟨s,0,none⟩), .int .u64 ((p1:Nat):Int), .func (.func 55) #[] #[]] w (dE fun v w'=> ∃ (U:Option Addr) (V:Nat) (O:List aM) (B1ox0:Option Addr) (b1ox0:Nat),v= .slice U z.length V∧Own w D w' [row U z.length V (List.flatMap aM.cells O) 66 2,sepL (List.flatMap CL O),blk s [.slice B1ox0 M.ae.ls.length b1ox0, .int .i64 M.aG] 150]∧(List.map CE O=z)∧(aF 1 b a d.ae.ls B1ox0 b1ox0 M.ae.ls)∧(z.length≤1000)):=by
 refine Ce (args:= [.pointer (some ⟨s,0,none⟩), .int .u64 ((p1:Nat):Int), .func (.func 55) #[] #[]]) Tryz.func54 rfl rfl rfl ?_
 show Wp _ _ _ [(0, .pointer (some ⟨s,0,none⟩)),(1, .int .u64 ((p1:Nat):Int)),(2, .func (.func 55) #[] #[])] _ _
 refine sr (Ar rfl (Mz rfl (Mz rfl (Mz rfl ?_))))
 obtain⟨⟨h,f⟩,m⟩:∃ q:Nat × ReaderT,aQ d p1=q:=⟨_,rfl⟩
 obtain⟨ah,A,B,C,W⟩:=Cg H
 refine cl Tryz.call93 (fD _ _ s d b a p1 h f A (B _ j) (show d.ae.ls.length≤a∧d.ae.ls.length≤9223372036854775807 from by omega) m) ?_
 rintro _ ai ⟨t,k,rfl,E,c,n⟩
 have P:=C _ _ E
 replace c:aF 1 b a d.ae.ls t k f.ae.ls:=c
 have X:=(c).le
 replace n:h≤p1:=n
 refine fw (.int .i64 ((h:Nat):Int)) (Ci (e:=IntKind.i64.wrap ((h:Nat):Int)) yk (EL _ (by omega))) (Mz rfl ?_)
 obtain⟨⟨u,l⟩,o⟩:∃ q:(List eZ) × ReaderT,ku f ((h:Nat):Int)=q:=⟨_,rfl⟩
 obtain⟨aj,F,G,I,Y⟩:=Cg P
 refine cl Tryz.call96 (oF _ _ s f t k ((h:Nat):Int) u l F (fun w9 h9=>aF.rds bA (by decide) c ((G _ j) w9 h9)) (show f.ae.ls.length≤k∧f.ae.ls.length≤9223372036854775807 from by omega) (by omega) o) ?_
 rintro _ av ⟨Q,R,S,x,y,rfl,J,p,g,r⟩
 have K:=I _ _ J
 replace g:aF 1 t k f.ae.ls x y l.ae.ls:=g
 have Z:=(g).le
 have L:aF 1 b a d.ae.ls x y l.ae.ls:=aF.trans c g
 have aa:=dm p
 have ae:=K.rowC (i:=0) rfl
 replace r:u.length≤1000:=r
 refine An rfl (rt (rs ?_))
 have T:=K.pk [0,1,2]
 have e:jg d p1=(u,l):=et (ag m) (ag o)
 obtain⟨rfl,rfl⟩:=iI (e.symm.trans hr)
 exact⟨Q,R,S,x,y,rfl,T,p,L,(by omega)⟩
def fq (p1:Int):Nat→List Nat→Nat→List UInt8→Int→(List Nat) × (List UInt8) × Int
  | 0,c,e,d,a=>default
  | f+1,c,e,d,a=>if((e:Nat):Int) < p1 then if a=0 then bnd (bv (ReaderT.mk (Ll.mk d) a)) fun b=>fq p1 f (c++ [b.1]) (e+1) b.2.ae.ls b.2.aG else(c,d,a) else(c,d,a)
def kM (a:ReaderT) (p1:Int):(List Nat) × ReaderT:=
 bnd (bnd (fq p1 ((Int.toNat p1 - 0)+1) ([]) 0 a.ae.ls a.aG) fun sLrJjL=>(sLrJjL.1,sLrJjL.2.1,sLrJjL.2.2)) fun sJrJ=>(sJrJ.1,ReaderT.mk (Ll.mk sJrJ.2.1) sJrJ.2.2)
theorem o5 (w:World) (D:Nat→Prop) (u:Nat) (c:ReaderT) (a:Option Addr) (b:Nat) (p1:Int) (X:List Nat) (r1:ReaderT) (H:Own w D w [blk u [.slice a c.ae.ls.length b, .int .i64 c.aG] 150]) (S:Ro w D fun w'=>bG w' 1 a c.ae.ls.length (List.flatMap eB c.ae.ls)) (aB:c.ae.ls.length≤b∧c.ae.ls.length≤9223372036854775807) (bq:p1≤1000) (hr:kM c p1=(X,r1)):
    Calls Tryz.prog 99 #[.pointer (some ⟨u,0,none⟩), .int .i64 p1, .func (.func 51) #[] #[]] w (dE fun v w'=> ∃ (B0:Option Addr) (b0:Nat) (B1ox0:Option Addr) (b1ox0:Nat),v= .slice B0 X.length b0∧Own w D w' [row B0 X.length b0 (List.flatMap (eN .u64) X) 22 1,blk u [.slice B1ox0 r1.ae.ls.length b1ox0, .int .i64 r1.aG] 150]∧(aF 1 a b c.ae.ls B1ox0 b1ox0 r1.ae.ls)∧(X.length≤1000)):=by
 refine Ce (args:= [.pointer (some ⟨u,0,none⟩), .int .i64 p1, .func (.func 51) #[] #[]]) Tryz.func99 rfl rfl rfl ?_
 show Wp _ _ _ [(0, .pointer (some ⟨u,0,none⟩)),(1, .int .i64 p1),(2, .func (.func 51) #[] #[])] _ _
 refine sr (Ar rfl (An rfl (BS (sr (An rfl ?_)))))
 obtain⟨Y,Z⟩:∃ q:((Option Addr) × Nat × (List Nat) × (Option Addr) × Nat × (List UInt8) × Int)→World→Prop,q=fun(i:(Option Addr) × Nat × (List Nat) × (Option Addr) × Nat × (List UInt8) × Int) w'=>Own w D w' [blk u [.slice i.2.2.2.1 i.2.2.2.2.2.1.length i.2.2.2.2.1, .int .i64 i.2.2.2.2.2.2] 150,row i.1 i.2.2.1.length i.2.1 (List.flatMap (eN .u64) i.2.2.1) 22 1]∧(aF 1 a b c.ae.ls i.2.2.2.1 i.2.2.2.2.1 i.2.2.2.2.2.1∧0≤i.2.2.1.length∧i.2.2.2.2.2.1.length≤c.ae.ls.length∧i.2.2.2.2.2.1.length≤c.ae.ls.length+1∧i.2.2.1.length≤1000∧(bnd (fq p1 ((Int.toNat p1 - 0)+1) ([]) 0 c.ae.ls c.aG) fun sLrJjL=>(sLrJjL.1,sLrJjL.2.1,sLrJjL.2.2))=(i.2.2.1,i.2.2.2.2.2.1,i.2.2.2.2.2.2)):=⟨_,rfl⟩
 have C:∀ {E:Option Addr} {F:Nat} {l:List Nat} {G:Option Addr} {I:Nat} {o:List UInt8} {J:Int} {w':World},Y (E,F,l,G,I,o,J) w'↔Own w D w' [blk u [.slice G o.length I, .int .i64 J] 150,row E l.length F (List.flatMap (eN .u64) l) 22 1]∧aF 1 a b c.ae.ls G I o∧0≤l.length∧o.length≤c.ae.ls.length∧o.length≤c.ae.ls.length+1∧l.length≤1000∧(bnd (fq p1 ((Int.toNat p1 - 0)+1) ([]) 0 c.ae.ls c.aG) fun sLrJjL=>(sLrJjL.1,sLrJjL.2.1,sLrJjL.2.2))=(l,o,J):=by intros; subst Z; exact Iff.rfl
 refine Df (fun i:(Option Addr) × Nat × (List Nat) × (Option Addr) × Nat × (List UInt8) × Int=> [(7, .slice i.1 i.2.2.1.length i.2.1),(6, .slice none 0 0)]) Y ?_ ?_
 refine bo ?_
 have aC:Own w D w [row none 0 0 (List.flatMap (eN .u64) ([])) 22 1,blk u [.slice a c.ae.ls.length b, .int .i64 c.aG] 150]:=H.free (iD 22 1)
 have aD:=aC.pk [1,0]
 obtain⟨aa,ae⟩:∃ q:((Option Addr) × Nat × (List Nat) × Nat × (Option Addr) × Nat × (List UInt8) × Int × Nat)→World→Prop,q=fun(i:(Option Addr) × Nat × (List Nat) × Nat × (Option Addr) × Nat × (List UInt8) × Int × Nat) w'=>Own w D w' [blk u [.slice i.2.2.2.2.1 i.2.2.2.2.2.2.1.length i.2.2.2.2.2.1, .int .i64 i.2.2.2.2.2.2.2.1] 150,row i.1 i.2.2.1.length i.2.1 (List.flatMap (eN .u64) i.2.2.1) 22 1]∧(aF 1 a b c.ae.ls i.2.2.2.2.1 i.2.2.2.2.2.1 i.2.2.2.2.2.2.1∧i.2.2.1.length≤i.2.2.2.1∧(i.2.2.2.1=0∨((i.2.2.2.1:Nat):Int)≤p1)∧Int.toNat p1 - i.2.2.2.1 < i.2.2.2.2.2.2.2.2∧fq p1 ((Int.toNat p1 - 0)+1) ([]) 0 c.ae.ls c.aG=fq p1 i.2.2.2.2.2.2.2.2 i.2.2.1 i.2.2.2.1 i.2.2.2.2.2.2.1 i.2.2.2.2.2.2.2.1):=⟨_,rfl⟩
 have K:∀ {z:Option Addr} {A:Nat} {f:List Nat} {g:Nat} {p:Option Addr} {n:Nat} {h:List UInt8} {j:Int} {B:Nat} {w':World},aa (z,A,f,g,p,n,h,j,B) w'↔Own w D w' [blk u [.slice p h.length n, .int .i64 j] 150,row z f.length A (List.flatMap (eN .u64) f) 22 1]∧aF 1 a b c.ae.ls p n h∧f.length≤g∧(g=0∨((g:Nat):Int)≤p1)∧Int.toNat p1 - g < B∧fq p1 ((Int.toNat p1 - 0)+1) ([]) 0 c.ae.ls c.aG=fq p1 B f g h j:=by intros; subst ae; exact Iff.rfl
 refine Wp.loop (fun i:(Option Addr) × Nat × (List Nat) × Nat × (Option Addr) × Nat × (List UInt8) × Int × Nat=> [(7, .slice i.1 i.2.2.1.length i.2.1),(8, .int .i64 ((i.2.2.2.1:Nat):Int)),(6, .slice none 0 0),(0, .pointer (some ⟨u,0,none⟩)),(1, .int .i64 p1),(2, .func (.func 51) #[] #[])]) aa (fun i=>i.2.2.2.2.2.2.2.2) (none,0, [],0,a,b,c.ae.ls,c.aG,(Int.toNat p1 - 0)+1) ⟨rfl,rfl,rfl,rfl,rfl,rfl,trivial⟩ (K.2 ⟨aD,(show aF 1 a b c.ae.ls a b c.ae.ls∧0≤0∧(0=0∨((0:Nat):Int)≤p1)∧Int.toNat p1 - 0 < ((Int.toNat p1 - 0)+1)∧fq p1 ((Int.toNat p1 - 0)+1) ([]) 0 c.ae.ls c.aG=fq p1 ((Int.toNat p1 - 0)+1) ([]) 0 c.ae.ls c.aG from ⟨by exact(aF.refl (by omega)),by omega,by omega,by omega,rfl⟩)⟩) ?_
 rintro ⟨z,A,f,g,p,n,h,j,B⟩ bu af
 show Wp _ _ _ [(7, .slice z f.length A),(8, .int .i64 ((g:Nat):Int)),(6, .slice none 0 0),(0, .pointer (some ⟨u,0,none⟩)),(1, .int .i64 p1),(2, .func (.func 51) #[] #[])] _ _
 obtain⟨N,r,aS,aT,aU,L⟩:=K.1 af
 have aV:=(r).le
 obtain⟨T,ah⟩:∃ q,B=q+1:=⟨B - 1,by omega⟩
 subst ah
 refine BS (sr (Mz rfl (Mz rfl (Kz (.bool (decide (((g:Nat):Int) < p1))) (Mz rfl ?_)))))
 by_cases d:((g:Nat):Int) < p1
 refine gw (.pointer (some ⟨u,0,none⟩)) (dT d) (BX rfl) (Gz (.pointer (some ⟨u,0,none⟩)) (dT d) (Gz (.pointer (some ⟨u,1,none⟩)) (dT d) (Gl (.int .i64 j) (dT d) N 0 Tryz.isAgg38 (Gz (.bool (decide (j=0))) (dT d) (fw (.bool (decide (j=0))) (BZ rfl (dT d) rfl) (nt ?_))))))
 by_cases O:j=0
 refine jT (dT O) (sk (BS (bo (BR (Mz rfl (Mz rfl (Mz rfl ?_)))))))
 obtain⟨⟨t,M⟩,P⟩:∃ q:Nat × ReaderT,bv (ReaderT.mk (Ll.mk h) j)=q:=⟨_,rfl⟩
 obtain⟨bz,ai,aj,ak,aW⟩:=Cg N
 refine WL.do rfl (CB Tryz.call51 rfl rfl (dW _ _ u (ReaderT.mk (Ll.mk h) j) p n t M ai (fun w9 h9=>aF.rds bA (by decide) r ((aj _ S) w9 h9)) (show h.length≤n∧h.length≤9223372036854775807 from by omega) P) ?_)
 rintro _ bD ⟨U,V,rfl,au,x,Q⟩
 have aG:=ak _ _ au
 replace x:aF 1 p n h U V M.ae.ls:=x
 have aX:=(x).le
 have av:aF 1 a b c.ae.ls U V M.ae.ls:=aF.trans r x
 replace Q:t≤18446744073709551615:=Q
 refine ji [.int .u64 ((t:Nat):Int)] 22 1 1 aG ?_
 intro aH bE W
 replace W:=CG (y:=row aH 1 1 (List.flatMap (eN .u64) ([t])) 22 1) rfl W
 have ax:=W.pk [2,0,1]
 refine WL.do rfl (CU (k:=f.length) (m:=1) (jY) ax rfl rfl (j5 Tryz.underlying25 (ax.rds (i:=1) rfl) (ja yC ([t]))) rfl (by omega) (s:=List.length (f++ [t])) (by first | omega | (simp only [List.length_append,List.length_cons,List.length_nil] <;> omega)) (List.flatMap_append).symm ?_)
 intro aI aJ bF aK
 have aY:List.length (f++ [t])=f.length+1:=by simp only [List.length_append,List.length_cons,List.length_nil]
 refine Az rfl (Cf (bN (Ca (BR (Mz rfl (fw (.int .i64 ((g+1:Nat):Int)) (Ci (e:=IntKind.i64.wrap (((g:Nat):Int)+1)) yk (by rw [EL _ (by omega)]; omega)) (Az rfl (Cf ?_))))))))
 have aL:=aK.pk [2,0]
 exact Cm (aI,aJ,(f++ [t]),g+1,U,V,M.ae.ls,M.aG,T) ⟨rfl,rfl,rfl,rfl,rfl,rfl,trivial⟩ (K.2 ⟨aL,by exact av,by omega,by omega,by omega,et (L) (et (ip d) (et (ip O) (ag P)))⟩) (by show T < T+1; omega)
 refine jF (dF O) (Wp.exit (Cb (Cb (Cn ?_))))
 have aM:=N.pk [0,1]
 exact CV (z,A,f,p,n,h,j) ⟨rfl,rfl,trivial⟩ (C.2 ⟨aM,by exact r,by omega,by omega,by omega,by omega,ag (et (L) (et (ip d) (iN O)))⟩)
 refine Sz (dF d) (Sz (dF d) (Sz (dF d) (Sz (dF d) (Sz (dF d) (fw (.bool false) (BQ rfl (dF d) rfl) (nt (jf (Wp.exit (Cb (Cb (Cn ?_)))))))))))
 have aN:=N.pk [0,1]
 exact CV (z,A,f,p,n,h,j) ⟨rfl,rfl,trivial⟩ (C.2 ⟨aN,by exact r,by omega,by omega,by omega,by omega,ag (et (L) (iN d))⟩)
 rintro ⟨E,F,l,G,I,o,J⟩ bH ay
 show Wp _ _ _ [(7, .slice E l.length F),(6, .slice none 0 0)] _ _
 obtain⟨aO,R,aZ,bf,bg,bi,az⟩:=C.1 ay
 have bn:=(R).le
 refine sr (Mz rfl (An rfl (rt (rs ?_))))
 have aP:=aO.pk [1,0]
 have e:kM c p1=(l,ReaderT.mk (Ll.mk o) J):=ag az
 obtain⟨rfl,rfl⟩:=iI (e.symm.trans hr)
 exact⟨E,F,G,I,rfl,aP,R,(by omega)⟩
def jI (c:ReaderT) (p1:Nat):(List Nat) × ReaderT:=
 bnd (aQ c p1) fun a=>bnd (kM a.2 ((a.1:Nat):Int)) fun b=>(b.1,b.2)
theorem pF (w:World) (D:Nat→Prop) (r:Nat) (d:ReaderT) (b:Option Addr) (a:Nat) (p1:Nat) (y:List Nat) (L:ReaderT) (H:Own w D w [blk r [.slice b d.ae.ls.length a, .int .i64 d.aG] 150]) (j:Ro w D fun w'=>bG w' 1 b d.ae.ls.length (List.flatMap eB d.ae.ls)) (M:d.ae.ls.length≤a∧d.ae.ls.length≤9223372036854775807) (Y:p1≤1000) (hr:jI d p1=(y,L)):
    Calls Tryz.prog 56 #[.pointer (some ⟨r,0,none⟩), .int .u64 ((p1:Nat):Int), .func (.func 51) #[] #[]] w (dE fun v w'=> ∃ (R:Option Addr) (S:Nat) (B1ox0:Option Addr) (b1ox0:Nat),v= .slice R y.length S∧Own w D w' [row R y.length S (List.flatMap (eN .u64) y) 22 1,blk r [.slice B1ox0 L.ae.ls.length b1ox0, .int .i64 L.aG] 150]∧(aF 1 b a d.ae.ls B1ox0 b1ox0 L.ae.ls)∧(y.length≤1000)):=by
 refine Ce (args:= [.pointer (some ⟨r,0,none⟩), .int .u64 ((p1:Nat):Int), .func (.func 51) #[] #[]]) Tryz.func56 rfl rfl rfl ?_
 show Wp _ _ _ [(0, .pointer (some ⟨r,0,none⟩)),(1, .int .u64 ((p1:Nat):Int)),(2, .func (.func 51) #[] #[])] _ _
 refine sr (Ar rfl (Mz rfl (Mz rfl (Mz rfl ?_))))
 obtain⟨⟨h,f⟩,m⟩:∃ q:Nat × ReaderT,aQ d p1=q:=⟨_,rfl⟩
 obtain⟨Z,z,A,B,T⟩:=Cg H
 refine cl Tryz.call93 (fD _ _ r d b a p1 h f z (A _ j) (show d.ae.ls.length≤a∧d.ae.ls.length≤9223372036854775807 from by omega) m) ?_
 rintro _ aa ⟨s,k,rfl,C,c,n⟩
 have N:=B _ _ C
 replace c:aF 1 b a d.ae.ls s k f.ae.ls:=c
 have U:=(c).le
 replace n:h≤p1:=n
 refine fw (.int .i64 ((h:Nat):Int)) (Ci (e:=IntKind.i64.wrap ((h:Nat):Int)) yk (EL _ (by omega))) (Mz rfl ?_)
 obtain⟨⟨t,l⟩,o⟩:∃ q:(List Nat) × ReaderT,kM f ((h:Nat):Int)=q:=⟨_,rfl⟩
 obtain⟨ae,E,F,G,V⟩:=Cg N
 refine cl Tryz.call99 (o5 _ _ r f s k ((h:Nat):Int) t l E (fun w9 h9=>aF.rds bA (by decide) c ((F _ j) w9 h9)) (show f.ae.ls.length≤k∧f.ae.ls.length≤9223372036854775807 from by omega) (by omega) o) ?_
 rintro _ ai ⟨O,P,u,x,rfl,I,g,p⟩
 have J:=G _ _ I
 replace g:aF 1 s k f.ae.ls u x l.ae.ls:=g
 have W:=(g).le
 have K:aF 1 b a d.ae.ls u x l.ae.ls:=aF.trans c g
 have X:=J.rowC (i:=0) rfl
 replace p:t.length≤1000:=p
 refine An rfl (rt (rs ?_))
 have Q:=J.pk [0,1]
 have e:jI d p1=(t,l):=et (ag m) (ag o)
 obtain⟨rfl,rfl⟩:=iI (e.symm.trans hr)
 exact⟨O,P,u,x,rfl,Q,K,(by omega)⟩
def iH (q:List UInt8):bQ × Int:=
 bnd (jc q (83:UInt8)) fun p=>bnd (dZ p) fun j=>bnd (bv j.2) fun k=>bnd (bv k.2) fun l=>bnd (bv l.2) fun a=>bnd (bv a.2) fun b=>bnd (gD b.2 255) fun c=>bnd (jg c.2 255) fun d=>bnd (jI d.2 255) fun e=>bnd (bv e.2) fun f=>bnd (bv f.2) fun g=>bnd (je g.2) fun h=>bnd (j4 h.2) fun i=>bnd (gZ i.2) fun o=>bnd (jN o) fun m=>if m=0 then bnd (dz (bQ.mk j.1 k.1 l.1 a.1 b.1 (Ll.mk c.1) (Ll.mk d.1) (Ll.mk e.1) f.1 g.1 h.1 i.1)) fun n=>if n=0 then(bQ.mk j.1 k.1 l.1 a.1 b.1 (Ll.mk c.1) (Ll.mk d.1) (Ll.mk e.1) f.1 g.1 h.1 i.1,0) else(bQ.mk 0 0 0 0 0 (Ll.mk ([])) (Ll.mk ([])) (Ll.mk ([])) 0 0 (bF.mk ([]) ([])) (gp.mk 0 0 0 (bF.mk ([]) ([]))),n) else(bQ.mk 0 0 0 0 0 (Ll.mk ([])) (Ll.mk ([])) (Ll.mk ([])) 0 0 (bF.mk ([]) ([])) (gp.mk 0 0 0 (bF.mk ([]) ([]))),m)
set_option maxHeartbeats 4000000 in
theorem pG (w:World) (D:Nat→Prop) (A0:Option Addr) (n0 c0:Nat) (T:List UInt8) (r0:bQ) (r1:Int) (H:Own w D w []) (R:Ro w D fun w'=>bG w' 1 A0 n0 (List.flatMap eB T)) (kH:n0=T.length) (mW:T.length *1≤211106232532992) (mX:T.length≤c0) (hr:iH T=(r0,r1)):
    Calls Tryz.prog 15 #[.slice A0 n0 c0] w (dE fun v w'=> ∃ (eF:Option Addr) (eG:Nat) (eO:Option Addr) (eP:Nat) (eQ:Option Addr) (eT:Nat) (cO:List aM),v= .tuple #[.agg (aX r0 eF eG eO eP eQ eT).toArray, .int .i64 r1]∧Own w D w' [row eF r0.ai.ls.length eG (List.flatMap aL.cells r0.ai.ls) 54 2,row eO r0.az.ls.length eP (List.flatMap aM.cells cO) 66 2,sepL (List.flatMap CL cO),row eQ r0.ah.ls.length eT (List.flatMap (eN .u64) r0.ah.ls) 22 1]∧(List.map CE cO=r0.az.ls)∧(r0.ai.ls.length≤1000∧r0.az.ls.length≤1000∧r0.ah.ls.length≤1000)):=by
 subst kH
 refine Ce (args:= [.slice A0 T.length c0]) Tryz.func15 rfl rfl rfl ?_
 show Wp _ _ _ [(0, .slice A0 T.length c0)] _ _
 refine sr ?_
 refine dB (bZ 0 0 0 0 0 none 0 0 none 0 0 none 0 0 0 0 ([]) ([]) 0 0 0 ([]) ([])) 31 H ?_
 intro E mY kI
 refine Ar rfl (Mz rfl ?_)
 obtain⟨bJ,bM⟩:∃ q,jc T (83:UInt8)=q:=⟨_,rfl⟩
 obtain⟨mZ,iF,iG,iJ,lT⟩:=Ck kI
 refine cl Tryz.call49 (oQ _ _ A0 T.length c0 T (83:UInt8) bJ iF (iG _ R) rfl (by omega) (by first | omega | (simp only [List.length_take,List.length_drop]; omega) | exact Nat.le_refl _) bM) ?_
 rintro _ ng ⟨y,fC,eD,rfl,iK,bf⟩
 have kJ:=iJ _ _ iK
 replace bf:aF 1 A0 c0 T fC eD bJ.ae.ls:=bf
 have lU:=(bf).le
 refine Ar rfl (Mz rfl ?_)
 obtain⟨⟨z,V⟩,bN⟩:∃ q:Int × ReaderT,dZ bJ=q:=⟨_,rfl⟩
 obtain⟨ni,iL,iM,iO,lV⟩:=Cg kJ
 refine cl Tryz.call50 (jr _ _ y bJ fC eD z V iL (fun U S=>aF.rds bA (by decide) bf ((iM _ R) U S)) (show bJ.ae.ls.length≤eD∧bJ.ae.ls.length≤9223372036854775807 from by omega) bN) ?_
 rintro _ nk ⟨cZ,cu,rfl,iP,bO,eU⟩
 have kK:=iO _ _ iP
 replace bO:aF 1 fC eD bJ.ae.ls cZ cu V.ae.ls:=bO
 have lW:=(bO).le
 have eX:aF 1 A0 c0 T cZ cu V.ae.ls:=aF.trans bf bO
 replace eU:0≤z∧z≤255:=eU
 refine Kz (.agg (bZ z 0 0 0 0 none 0 0 none 0 0 none 0 0 0 0 ([]) ([]) 0 0 0 ([]) ([])).toArray) ?_
 refine dB (bZ 0 0 0 0 0 none 0 0 none 0 0 none 0 0 0 0 ([]) ([]) 0 0 0 ([]) ([])) 31 kK ?_
 intro A nz kL
 refine dw (bZ z 0 0 0 0 none 0 0 none 0 0 none 0 0 0 0 ([]) ([]) 0 0 0 ([]) ([])) 0 kL Tryz.sizeOf31 ?_
 intro kM fD
 replace fD:Own w D kM [blk A (bZ z 0 0 0 0 none 0 0 none 0 0 none 0 0 0 0 ([]) ([]) 0 0 0 ([]) ([])) 31,blk y [.slice cZ V.ae.ls.length cu, .int .i64 V.aG] 150,blk E (bZ 0 0 0 0 0 none 0 0 none 0 0 none 0 0 0 0 ([]) ([]) 0 0 0 ([]) ([])) 31]:=(fD)
 refine ns (Mz rfl ?_)
 have kN:=fD.pk [1,0,2]
 obtain⟨⟨B,W⟩,bP⟩:∃ q:Nat × ReaderT,bv V=q:=⟨_,rfl⟩
 obtain⟨nA,iQ,iR,iT,lX⟩:=Cg kN
 refine cl Tryz.call51 (dW _ _ y V cZ cu B W iQ (fun U S=>aF.rds bA (by decide) eX ((iR _ R) U S)) (show V.ae.ls.length≤cu∧V.ae.ls.length≤9223372036854775807 from by omega) bP) ?_
 rintro _ nE ⟨df,cz,rfl,iU,bR,eY⟩
 have kP:=iT _ _ iU
 replace bR:aF 1 cZ cu V.ae.ls df cz W.ae.ls:=bR
 have lZ:=(bR).le
 have fe:aF 1 A0 c0 T df cz W.ae.ls:=aF.trans eX bR
 replace eY:B≤18446744073709551615:=eY
 refine Kz (.pointer (some ⟨A,1,none⟩)) ?_
 have kQ:=kP.pk [1,0,2]
 refine dw [.int .u64 ((B:Nat):Int)] 1 kQ Tryz.sizeOf22 ?_
 intro kR fE
 replace fE:Own w D kR [blk A (bZ z B 0 0 0 none 0 0 none 0 0 none 0 0 0 0 ([]) ([]) 0 0 0 ([]) ([])) 31,blk y [.slice df W.ae.ls.length cz, .int .i64 W.aG] 150,blk E (bZ 0 0 0 0 0 none 0 0 none 0 0 none 0 0 0 0 ([]) ([]) 0 0 0 ([]) ([])) 31]:=(fE)
 refine ns (Mz rfl ?_)
 have kS:=fE.pk [1,0,2]
 obtain⟨⟨C,X⟩,bS⟩:∃ q:Nat × ReaderT,bv W=q:=⟨_,rfl⟩
 obtain⟨nG,iV,iW,iX,l5⟩:=Cg kS
 refine cl Tryz.call51 (dW _ _ y W df cz C X iV (fun U S=>aF.rds bA (by decide) fe ((iW _ R) U S)) (show W.ae.ls.length≤cz∧W.ae.ls.length≤9223372036854775807 from by omega) bS) ?_
 rintro _ nH ⟨dh,cB,rfl,iY,bT,fo⟩
 have kT:=iX _ _ iY
 replace bT:aF 1 df cz W.ae.ls dh cB X.ae.ls:=bT
 have l6:=(bT).le
 have fq:aF 1 A0 c0 T dh cB X.ae.ls:=aF.trans fe bT
 replace fo:C≤18446744073709551615:=fo
 refine Kz (.pointer (some ⟨A,2,none⟩)) ?_
 have iZ:=kT.pk [1,0,2]
 refine dw [.int .u64 ((C:Nat):Int)] 2 iZ Tryz.sizeOf22 ?_
 intro ja di
 replace di:Own w D ja [blk A (bZ z B C 0 0 none 0 0 none 0 0 none 0 0 0 0 ([]) ([]) 0 0 0 ([]) ([])) 31,blk y [.slice dh X.ae.ls.length cB, .int .i64 X.aG] 150,blk E (bZ 0 0 0 0 0 none 0 0 none 0 0 none 0 0 0 0 ([]) ([]) 0 0 0 ([]) ([])) 31]:=(di)
 refine ns (Mz rfl ?_)
 have jb:=di.pk [1,0,2]
 obtain⟨⟨r,I⟩,az⟩:∃ q:Nat × ReaderT,bv X=q:=⟨_,rfl⟩
 obtain⟨l7,fF,fG,fH,kU⟩:=Cg jb
 refine cl Tryz.call51 (dW _ _ y X dh cB r I fF (fun U S=>aF.rds bA (by decide) fq ((fG _ R) U S)) (show X.ae.ls.length≤cB∧X.ae.ls.length≤9223372036854775807 from by omega) az) ?_
 rintro _ l8 ⟨bg,Y,rfl,fI,aA,dn⟩
 have jd:=fH _ _ fI
 replace aA:aF 1 dh cB X.ae.ls bg Y I.ae.ls:=aA
 have kV:=(aA).le
 have dx:aF 1 A0 c0 T bg Y I.ae.ls:=aF.trans fq aA
 replace dn:r≤18446744073709551615:=dn
 refine Kz (.pointer (some ⟨A,3,none⟩)) ?_
 have jf:=jd.pk [1,0,2]
 refine dw [.int .u64 ((r:Nat):Int)] 3 jf Tryz.sizeOf22 ?_
 intro jh dA
 replace dA:Own w D jh [blk A (bZ z B C r 0 none 0 0 none 0 0 none 0 0 0 0 ([]) ([]) 0 0 0 ([]) ([])) 31,blk y [.slice bg I.ae.ls.length Y, .int .i64 I.aG] 150,blk E (bZ 0 0 0 0 0 none 0 0 none 0 0 none 0 0 0 0 ([]) ([]) 0 0 0 ([]) ([])) 31]:=(dA)
 refine ns (Mz rfl ?_)
 have ji:=dA.pk [1,0,2]
 obtain⟨⟨s,J⟩,aB⟩:∃ q:Nat × ReaderT,bv I=q:=⟨_,rfl⟩
 obtain⟨l9,fJ,fK,fM,kW⟩:=Cg ji
 refine cl Tryz.call51 (dW _ _ y I bg Y s J fJ (fun U S=>aF.rds bA (by decide) dx ((fK _ R) U S)) (show I.ae.ls.length≤Y∧I.ae.ls.length≤9223372036854775807 from by omega) aB) ?_
 rintro _ ma ⟨bi,Z,rfl,fO,aC,dC⟩
 have jk:=fM _ _ fO
 replace aC:aF 1 bg Y I.ae.ls bi Z J.ae.ls:=aC
 have kX:=(aC).le
 have dD:aF 1 A0 c0 T bi Z J.ae.ls:=aF.trans dx aC
 replace dC:s≤18446744073709551615:=dC
 refine Kz (.pointer (some ⟨A,4,none⟩)) ?_
 have jl:=jk.pk [1,0,2]
 refine dw [.int .u64 ((s:Nat):Int)] 4 jl Tryz.sizeOf22 ?_
 intro jm dG
 replace dG:Own w D jm [blk A (bZ z B C r s none 0 0 none 0 0 none 0 0 0 0 ([]) ([]) 0 0 0 ([]) ([])) 31,blk y [.slice bi J.ae.ls.length Z, .int .i64 J.aG] 150,blk E (bZ 0 0 0 0 0 none 0 0 none 0 0 none 0 0 0 0 ([]) ([]) 0 0 0 ([]) ([])) 31]:=(dG)
 refine ns (Mz rfl ?_)
 have jo:=dG.pk [1,0,2]
 obtain⟨⟨b,K⟩,aD⟩:∃ q:(List aL) × ReaderT,gD J 255=q:=⟨_,rfl⟩
 obtain⟨mf,fP,fQ,fT,kY⟩:=Cg jo
 refine cl Tryz.call52 (mr _ _ y J bi Z 255 b K fP (fun U S=>aF.rds bA (by decide) dD ((fQ _ R) U S)) (show J.ae.ls.length≤Z∧J.ae.ls.length≤9223372036854775807 from by omega) (by omega) aD) ?_
 rintro _ mg ⟨g,f,bn,aa,rfl,fU,aG,dH⟩
 have fu:=fT _ _ fU
 replace aG:aF 1 bi Z J.ae.ls bn aa K.ae.ls:=aG
 have kZ:=(aG).le
 have dI:aF 1 A0 c0 T bn aa K.ae.ls:=aF.trans dD aG
 have lc:=fu.rowC (i:=0) rfl
 replace dH:b.length≤1000:=dH
 refine Kz (.pointer (some ⟨A,5,none⟩)) ?_
 have jq:=fu.pk [2,0,1,3]
 refine dw [.slice g b.length f] 5 jq Tryz.sizeOf23 ?_
 intro jv dJ
 replace dJ:Own w D jv [blk A (bZ z B C r s g b.length f none 0 0 none 0 0 0 0 ([]) ([]) 0 0 0 ([]) ([])) 31,row g b.length f (List.flatMap aL.cells b) 54 2,blk y [.slice bn K.ae.ls.length aa, .int .i64 K.aG] 150,blk E (bZ 0 0 0 0 0 none 0 0 none 0 0 none 0 0 0 0 ([]) ([]) 0 0 0 ([]) ([])) 31]:=(dJ)
 refine ns (Mz rfl ?_)
 have jw:=dJ.pk [2,0,1,3]
 obtain⟨⟨d,L⟩,aH⟩:∃ q:(List eZ) × ReaderT,jg K 255=q:=⟨_,rfl⟩
 obtain⟨mh,fV,fZ,gm,lg⟩:=Cg jw
 refine cl Tryz.call54 (oL _ _ y K bn aa 255 d L fV (fun U S=>aF.rds bA (by decide) dI ((fZ _ R) U S)) (show K.ae.ls.length≤aa∧K.ae.ls.length≤9223372036854775807 from by omega) (by omega) aH) ?_
 rintro _ mi ⟨j,h,p,bq,ae,rfl,gq,bK,aI,dK⟩
 have fA:=gm _ _ gq
 replace aI:aF 1 bn aa K.ae.ls bq ae L.ae.ls:=aI
 have lh:=(aI).le
 have dL:aF 1 A0 c0 T bq ae L.ae.ls:=aF.trans dI aI
 have ll:=dm bK
 have lm:=fA.rowC (i:=0) rfl
 replace dK:d.length≤1000:=dK
 refine Kz (.pointer (some ⟨A,6,none⟩)) ?_
 have jy:=fA.pk [3,0,1,2,4,5]
 refine dw [.slice j d.length h] 6 jy Tryz.sizeOf24 ?_
 intro jA dM
 replace dM:Own w D jA [blk A (bZ z B C r s g b.length f j d.length h none 0 0 0 0 ([]) ([]) 0 0 0 ([]) ([])) 31,row j d.length h (List.flatMap aM.cells p) 66 2,sepL (List.flatMap CL p),blk y [.slice bq L.ae.ls.length ae, .int .i64 L.aG] 150,row g b.length f (List.flatMap aL.cells b) 54 2,blk E (bZ 0 0 0 0 0 none 0 0 none 0 0 none 0 0 0 0 ([]) ([]) 0 0 0 ([]) ([])) 31]:=(dM)
 refine ns (Mz rfl ?_)
 have jB:=dM.pk [3,0,1,2,4,5]
 obtain⟨⟨c,M⟩,aJ⟩:∃ q:(List Nat) × ReaderT,jI L 255=q:=⟨_,rfl⟩
 obtain⟨mo,gu,gy,gz,lq⟩:=Cg jB
 refine cl Tryz.call56 (pF _ _ y L bq ae 255 c M gu (fun U S=>aF.rds bA (by decide) dL ((gy _ R) U S)) (show L.ae.ls.length≤ae∧L.ae.ls.length≤9223372036854775807 from by omega) (by omega) aJ) ?_
 rintro _ mq ⟨o,n,bu,af,rfl,gB,aK,dN⟩
 have fB:=gz _ _ gB
 replace aK:aF 1 bq ae L.ae.ls bu af M.ae.ls:=aK
 have lu:=(aK).le
 have dO:aF 1 A0 c0 T bu af M.ae.ls:=aF.trans dL aK
 have lv:=fB.rowC (i:=0) rfl
 replace dN:c.length≤1000:=dN
 refine Kz (.pointer (some ⟨A,7,none⟩)) ?_
 have jC:=fB.pk [2,0,1,3,4,5,6]
 refine dw [.slice o c.length n] 7 jC Tryz.sizeOf25 ?_
 intro jD dP
 replace dP:Own w D jD [blk A (bZ z B C r s g b.length f j d.length h o c.length n 0 0 ([]) ([]) 0 0 0 ([]) ([])) 31,row o c.length n (List.flatMap (eN .u64) c) 22 1,blk y [.slice bu M.ae.ls.length af, .int .i64 M.aG] 150,row j d.length h (List.flatMap aM.cells p) 66 2,sepL (List.flatMap CL p),row g b.length f (List.flatMap aL.cells b) 54 2,blk E (bZ 0 0 0 0 0 none 0 0 none 0 0 none 0 0 0 0 ([]) ([]) 0 0 0 ([]) ([])) 31]:=(dP)
 refine ns (Mz rfl ?_)
 have jE:=dP.pk [2,0,1,3,4,5,6]
 obtain⟨⟨u,N⟩,aN⟩:∃ q:Nat × ReaderT,bv M=q:=⟨_,rfl⟩
 obtain⟨mD,gF,gG,gH,lw⟩:=Cg jE
 refine cl Tryz.call51 (dW _ _ y M bu af u N gF (fun U S=>aF.rds bA (by decide) dO ((gG _ R) U S)) (show M.ae.ls.length≤af∧M.ae.ls.length≤9223372036854775807 from by omega) aN) ?_
 rintro _ mE ⟨bz,ah,rfl,gI,aO,dQ⟩
 have jG:=gH _ _ gI
 replace aO:aF 1 bu af M.ae.ls bz ah N.ae.ls:=aO
 have lC:=(aO).le
 have dR:aF 1 A0 c0 T bz ah N.ae.ls:=aF.trans dO aO
 replace dQ:u≤18446744073709551615:=dQ
 refine Kz (.pointer (some ⟨A,8,none⟩)) ?_
 have jH:=jG.pk [1,0,2,3,4,5,6]
 refine dw [.int .u64 ((u:Nat):Int)] 8 jH Tryz.sizeOf22 ?_
 intro jJ dS
 replace dS:Own w D jJ [blk A (bZ z B C r s g b.length f j d.length h o c.length n u 0 ([]) ([]) 0 0 0 ([]) ([])) 31,blk y [.slice bz N.ae.ls.length ah, .int .i64 N.aG] 150,row o c.length n (List.flatMap (eN .u64) c) 22 1,row j d.length h (List.flatMap aM.cells p) 66 2,sepL (List.flatMap CL p),row g b.length f (List.flatMap aL.cells b) 54 2,blk E (bZ 0 0 0 0 0 none 0 0 none 0 0 none 0 0 0 0 ([]) ([]) 0 0 0 ([]) ([])) 31]:=(dS)
 refine ns (Mz rfl ?_)
 have jK:=dS.pk [1,0,2,3,4,5,6]
 obtain⟨⟨x,O⟩,aP⟩:∃ q:Nat × ReaderT,bv N=q:=⟨_,rfl⟩
 obtain⟨mF,gJ,gK,gL,lD⟩:=Cg jK
 refine cl Tryz.call51 (dW _ _ y N bz ah x O gJ (fun U S=>aF.rds bA (by decide) dR ((gK _ R) U S)) (show N.ae.ls.length≤ah∧N.ae.ls.length≤9223372036854775807 from by omega) aP) ?_
 rintro _ mG ⟨bB,ai,rfl,gM,aQ,dU⟩
 have jL:=gL _ _ gM
 replace aQ:aF 1 bz ah N.ae.ls bB ai O.ae.ls:=aQ
 have lF:=(aQ).le
 have dV:aF 1 A0 c0 T bB ai O.ae.ls:=aF.trans dR aQ
 replace dU:x≤18446744073709551615:=dU
 refine Kz (.pointer (some ⟨A,9,none⟩)) ?_
 have jM:=jL.pk [1,0,2,3,4,5,6]
 refine dw [.int .u64 ((x:Nat):Int)] 9 jM Tryz.sizeOf22 ?_
 intro jO dX
 replace dX:Own w D jO [blk A (bZ z B C r s g b.length f j d.length h o c.length n u x ([]) ([]) 0 0 0 ([]) ([])) 31,blk y [.slice bB O.ae.ls.length ai, .int .i64 O.aG] 150,row o c.length n (List.flatMap (eN .u64) c) 22 1,row j d.length h (List.flatMap aM.cells p) 66 2,sepL (List.flatMap CL p),row g b.length f (List.flatMap aL.cells b) 54 2,blk E (bZ 0 0 0 0 0 none 0 0 none 0 0 none 0 0 0 0 ([]) ([]) 0 0 0 ([]) ([])) 31]:=(dX)
 refine ns (Mz rfl ?_)
 have jP:=dX.pk [1,0,2,3,4,5,6]
 obtain⟨⟨l,P⟩,aR⟩:∃ q:bF × ReaderT,je O=q:=⟨_,rfl⟩
 obtain⟨mH,gN,gP,gQ,lG⟩:=Cg jP
 refine cl Tryz.call57 (nC _ _ y O bB ai l P gN (fun U S=>aF.rds bA (by decide) dV ((gP _ R) U S)) (show O.ae.ls.length≤ai∧O.ae.ls.length≤9223372036854775807 from by omega) aR) ?_
 rintro _ mI ⟨bC,aj,rfl,gT,aS⟩
 have jQ:=gQ _ _ gT
 replace aS:aF 1 bB ai O.ae.ls bC aj P.ae.ls:=aS
 have lH:=(aS).le
 have dY:aF 1 A0 c0 T bC aj P.ae.ls:=aF.trans dV aS
 refine Kz (.pointer (some ⟨A,10,none⟩)) ?_
 have jR:=jQ.pk [1,0,2,3,4,5,6]
 refine dw (bF.cells l) 10 jR Tryz.sizeOf27 ?_
 intro jS d9
 replace d9:Own w D jS [blk A (bZ z B C r s g b.length f j d.length h o c.length n u x l.aK l.aO 0 0 0 ([]) ([])) 31,blk y [.slice bC P.ae.ls.length aj, .int .i64 P.aG] 150,row o c.length n (List.flatMap (eN .u64) c) 22 1,row j d.length h (List.flatMap aM.cells p) 66 2,sepL (List.flatMap CL p),row g b.length f (List.flatMap aL.cells b) 54 2,blk E (bZ 0 0 0 0 0 none 0 0 none 0 0 none 0 0 0 0 ([]) ([]) 0 0 0 ([]) ([])) 31]:=(d9)
 refine ns (Mz rfl ?_)
 have jU:=d9.pk [1,0,2,3,4,5,6]
 obtain⟨⟨a,Q⟩,aT⟩:∃ q:gp × ReaderT,j4 P=q:=⟨_,rfl⟩
 obtain⟨mJ,gU,gV,gW,lI⟩:=Cg jU
 refine cl Tryz.call58 (qg _ _ y P bC aj a Q gU (fun U S=>aF.rds bA (by decide) dY ((gV _ R) U S)) (show P.ae.ls.length≤aj∧P.ae.ls.length≤9223372036854775807 from by omega) aT) ?_
 rintro _ mK ⟨bD,ak,rfl,gX,aU⟩
 have jV:=gW _ _ gX
 replace aU:aF 1 bC aj P.ae.ls bD ak Q.ae.ls:=aU
 have lJ:=(aU).le
 have ed:aF 1 A0 c0 T bD ak Q.ae.ls:=aF.trans dY aU
 refine Kz (.pointer (some ⟨A,12,none⟩)) ?_
 have jW:=jV.pk [1,0,2,3,4,5,6]
 refine dw (gp.cells a) 12 jW Tryz.sizeOf29 ?_
 intro jX ek
 replace ek:Own w D jX [blk A (bZ z B C r s g b.length f j d.length h o c.length n u x l.aK l.aO a.aZ a.bB a.cz a.aP.aK a.aP.aO) 31,blk y [.slice bD Q.ae.ls.length ak, .int .i64 Q.aG] 150,row o c.length n (List.flatMap (eN .u64) c) 22 1,row j d.length h (List.flatMap aM.cells p) 66 2,sepL (List.flatMap CL p),row g b.length f (List.flatMap aL.cells b) 54 2,blk E (bZ 0 0 0 0 0 none 0 0 none 0 0 none 0 0 0 0 ([]) ([]) 0 0 0 ([]) ([])) 31]:=(ek)
 refine ns (Mz rfl ?_)
 have jY:=ek.pk [1,0,2,3,4,5,6]
 obtain⟨t,aV⟩:∃ q,gZ Q=q:=⟨_,rfl⟩
 obtain⟨mM,gY,ic,ig,lK⟩:=Cg jY
 refine cl Tryz.call59 (nu _ _ y Q bD ak t gY (fun U S=>aF.rds bA (by decide) ed ((ic _ R) U S)) (show Q.ae.ls.length≤ak∧Q.ae.ls.length≤9223372036854775807 from by omega) aV) ?_
 rintro _ mO ⟨G,F,rfl,ik,aW⟩
 have jZ:=ig _ _ ik
 replace aW:aF 1 bD ak Q.ae.ls G F t.ae.ls:=aW
 have lL:=(aW).le
 have il:aF 1 A0 c0 T G F t.ae.ls:=aF.trans ed aW
 refine nt (BS (sr (Mz rfl ?_)))
 obtain⟨au,aY⟩:∃ q,jN t=q:=⟨_,rfl⟩
 obtain⟨mP,iq,iw,iy,lN⟩:=Cg jZ
 refine cl Tryz.call60 (ny _ _ y t G F au iq (fun U S=>aF.rds bA (by decide) il ((iw _ R) U S)) (show t.ae.ls.length≤F∧t.ae.ls.length≤9223372036854775807 from by omega) aY) ?_
 rintro _ mQ ⟨rfl,iA⟩
 have bU:=iy _ _ iA
 refine Ar rfl (Mz rfl (fw (.bool (decide (¬ (au=0)))) (Cy (e:= !(decide (au=0))) yk decide_not.symm) (nt ?_)))
 by_cases bE:au=0
 refine jF (dF (EN bE)) (sk (BS (sr (La (bZ z B C r s g b.length f j d.length h o c.length n u x l.aK l.aO a.aZ a.bB a.cz a.aP.aK a.aP.aO) bU 1 Tryz.isAgg31 Tryz.sizeOf31 ?_))))
 obtain⟨av,bL⟩:∃ q,dz (bQ.mk z B C r s (Ll.mk b) (Ll.mk d) (Ll.mk c) u x l a)=q:=⟨_,rfl⟩
 obtain⟨mR,iB,lQ,iC,aZ⟩:=Ck bU
 refine cl Tryz.call11 (lY _ _ (bQ.mk z B C r s (Ll.mk b) (Ll.mk d) (Ll.mk c) u x l a) g b.length f j d.length h p o c.length n av iB rfl (aZ _ 5 _ rfl eH) (show b.length≤f∧b.length≤9223372036854775807 from by omega) bK rfl (aZ _ 3 _ rfl eH) (show d.length≤h∧d.length≤9223372036854775807 from by omega) (fun x9 S=>⟨aZ _ 4 _ rfl (lM (List.mem_flatMap.2 ⟨x9,S, .head _⟩) eH),rR (φ:=fun _=>_) bU (i:=4) rfl (lM (List.mem_flatMap.2 ⟨x9,S, .head _⟩) qQ)⟩) rfl (aZ _ 2 _ rfl eH) (show c.length≤n∧c.length≤9223372036854775807 from by omega) (by first | omega | (dsimp only; omega) | (simp only [List.length_nil]; omega) | decide) bL) ?_
 rintro _ mV ⟨rfl,iE⟩
 have eu:=iC _ _ iE
 refine Ar rfl (Mz rfl (fw (.bool (decide (¬ (av=0)))) (Cy (e:= !(decide (av=0))) yk decide_not.symm) (nt ?_)))
 by_cases bV:av=0
 refine jF (dF (EN bV)) (sk (sr (La (bZ z B C r s g b.length f j d.length h o c.length n u x l.aK l.aO a.aZ a.bB a.cz a.aP.aK a.aP.aO) eu 1 Tryz.isAgg31 Tryz.sizeOf31 ?_)))
 have j3:=eu.pk [6,0,1,2,3,4,5]
 refine dw (bZ z B C r s g b.length f j d.length h o c.length n u x l.aK l.aO a.aZ a.bB a.cz a.aP.aK a.aP.aO) 0 j3 Tryz.sizeOf31 ?_
 intro j5 bW
 replace bW:Own w D j5 [blk E (bZ z B C r s g b.length f j d.length h o c.length n u x l.aK l.aO a.aZ a.bB a.cz a.aP.aK a.aP.aO) 31,blk y [.slice G t.ae.ls.length F, .int .i64 t.aG] 150,blk A (bZ z B C r s g b.length f j d.length h o c.length n u x l.aK l.aO a.aZ a.bB a.cz a.aP.aK a.aP.aO) 31,row o c.length n (List.flatMap (eN .u64) c) 22 1,row j d.length h (List.flatMap aM.cells p) 66 2,sepL (List.flatMap CL p),row g b.length f (List.flatMap aL.cells b) 54 2]:=(bW)
 refine An rfl (rt (CK (nD (vs:= [.agg (bZ z B C r s g b.length f j d.length h o c.length n u x l.aK l.aO a.aZ a.bB a.cz a.aP.aK a.aP.aO).toArray, .int .i64 0]) rfl (ib.cell rfl (Cu (cs:=(bZ z B C r s g b.length f j d.length h o c.length n u x l.aK l.aO a.aZ a.bB a.cz a.aP.aK a.aP.aO)) Tryz.isAgg31 Tryz.sizeOf31 ((bW.cls (i:=0) rfl).lit (k:=0) (m:=17) rfl)) (ib.tmp rfl ib.nil)) (EK rfl)) ?_))
 have j6:=bW.pk [6,4,5,3]
 have e:iH T=(bQ.mk z B C r s (Ll.mk b) (Ll.mk d) (Ll.mk c) u x l a,0):=et (ag bM) (et (ag bN) (et (ag bP) (et (ag bS) (et (ag az) (et (ag aB) (et (ag aD) (et (ag aH) (et (ag aJ) (et (ag aN) (et (ag aP) (et (ag aR) (et (ag aT) (et (ag aV) (et (ag aY) (et (ip bE) (et (ag bL) (ip bV)))))))))))))))))
 obtain⟨rfl,rfl⟩:=iI (e.symm.trans hr)
 exact⟨g,f,j,h,o,n,p,rfl,j6,bK,(by first | omega | (dsimp only; omega) | (simp only [List.length_nil]; omega) | decide)⟩
 refine jT (dT bV) (sr (Kz (.agg (bZ 0 0 0 0 0 none 0 0 none 0 0 none 0 0 0 0 ([]) ([]) 0 0 0 ([]) ([])).toArray) (Mz rfl ?_)))
 have kg:=eu.pk [6,0,1,2,3,4,5]
 refine dw (bZ 0 0 0 0 0 none 0 0 none 0 0 none 0 0 0 0 ([]) ([]) 0 0 0 ([]) ([])) 0 kg Tryz.sizeOf31 ?_
 intro bH bX
 replace bX:Own w D bH [blk E (bZ 0 0 0 0 0 none 0 0 none 0 0 none 0 0 0 0 ([]) ([]) 0 0 0 ([]) ([])) 31,blk y [.slice G t.ae.ls.length F, .int .i64 t.aG] 150,blk A (bZ z B C r s g b.length f j d.length h o c.length n u x l.aK l.aO a.aZ a.bB a.cz a.aP.aK a.aP.aO) 31,row o c.length n (List.flatMap (eN .u64) c) 22 1,row j d.length h (List.flatMap aM.cells p) 66 2,sepL (List.flatMap CL p),row g b.length f (List.flatMap aL.cells b) 54 2]:=(bX)
 refine An rfl (rt (tR (CK (nD (vs:= [.agg (bZ 0 0 0 0 0 none 0 0 none 0 0 none 0 0 0 0 ([]) ([]) 0 0 0 ([]) ([])).toArray, .int .i64 av]) rfl (ib.cell rfl (Cu (cs:=(bZ 0 0 0 0 0 none 0 0 none 0 0 none 0 0 0 0 ([]) ([]) 0 0 0 ([]) ([]))) Tryz.isAgg31 Tryz.sizeOf31 ((bX.cls (i:=0) rfl).lit (k:=0) (m:=17) rfl)) (ib.tmp rfl ib.nil)) (EK rfl)) ?_)))
 have ko:Own w D bH [row none 0 0 (List.flatMap aL.cells ([])) 54 2,blk E (bZ 0 0 0 0 0 none 0 0 none 0 0 none 0 0 0 0 ([]) ([]) 0 0 0 ([]) ([])) 31,blk y [.slice G t.ae.ls.length F, .int .i64 t.aG] 150,blk A (bZ z B C r s g b.length f j d.length h o c.length n u x l.aK l.aO a.aZ a.bB a.cz a.aP.aK a.aP.aO) 31,row o c.length n (List.flatMap (eN .u64) c) 22 1,row j d.length h (List.flatMap aM.cells p) 66 2,sepL (List.flatMap CL p),row g b.length f (List.flatMap aL.cells b) 54 2]:=bX.free (iD 54 2)
 have kr:Own w D bH [sepL (List.flatMap CL ([])),row none 0 0 (List.flatMap aL.cells ([])) 54 2,blk E (bZ 0 0 0 0 0 none 0 0 none 0 0 none 0 0 0 0 ([]) ([]) 0 0 0 ([]) ([])) 31,blk y [.slice G t.ae.ls.length F, .int .i64 t.aG] 150,blk A (bZ z B C r s g b.length f j d.length h o c.length n u x l.aK l.aO a.aZ a.bB a.cz a.aP.aK a.aP.aO) 31,row o c.length n (List.flatMap (eN .u64) c) 22 1,row j d.length h (List.flatMap aM.cells p) 66 2,sepL (List.flatMap CL p),row g b.length f (List.flatMap aL.cells b) 54 2]:=ko.sepNil
 have ku:Own w D bH [row none 0 0 (List.flatMap aM.cells ([])) 66 2,sepL (List.flatMap CL ([])),row none 0 0 (List.flatMap aL.cells ([])) 54 2,blk E (bZ 0 0 0 0 0 none 0 0 none 0 0 none 0 0 0 0 ([]) ([]) 0 0 0 ([]) ([])) 31,blk y [.slice G t.ae.ls.length F, .int .i64 t.aG] 150,blk A (bZ z B C r s g b.length f j d.length h o c.length n u x l.aK l.aO a.aZ a.bB a.cz a.aP.aK a.aP.aO) 31,row o c.length n (List.flatMap (eN .u64) c) 22 1,row j d.length h (List.flatMap aM.cells p) 66 2,sepL (List.flatMap CL p),row g b.length f (List.flatMap aL.cells b) 54 2]:=kr.free (iD 66 2)
 have kv:Own w D bH [row none 0 0 (List.flatMap (eN .u64) ([])) 22 1,row none 0 0 (List.flatMap aM.cells ([])) 66 2,sepL (List.flatMap CL ([])),row none 0 0 (List.flatMap aL.cells ([])) 54 2,blk E (bZ 0 0 0 0 0 none 0 0 none 0 0 none 0 0 0 0 ([]) ([]) 0 0 0 ([]) ([])) 31,blk y [.slice G t.ae.ls.length F, .int .i64 t.aG] 150,blk A (bZ z B C r s g b.length f j d.length h o c.length n u x l.aK l.aO a.aZ a.bB a.cz a.aP.aK a.aP.aO) 31,row o c.length n (List.flatMap (eN .u64) c) 22 1,row j d.length h (List.flatMap aM.cells p) 66 2,sepL (List.flatMap CL p),row g b.length f (List.flatMap aL.cells b) 54 2]:=ku.free (iD 22 1)
 have kw:=kv.pk [3,1,2,0]
 have e:iH T=(bQ.mk 0 0 0 0 0 (Ll.mk ([])) (Ll.mk ([])) (Ll.mk ([])) 0 0 (bF.mk ([]) ([])) (gp.mk 0 0 0 (bF.mk ([]) ([]))),av):=et (ag bM) (et (ag bN) (et (ag bP) (et (ag bS) (et (ag az) (et (ag aB) (et (ag aD) (et (ag aH) (et (ag aJ) (et (ag aN) (et (ag aP) (et (ag aR) (et (ag aT) (et (ag aV) (et (ag aY) (et (ip bE) (et (ag bL) (iN bV)))))))))))))))))
 obtain⟨rfl,rfl⟩:=iI (e.symm.trans hr)
 exact⟨none,0,none,0,none,0, [],rfl,kw,rfl,(by first | omega | (dsimp only; omega) | (simp only [List.length_nil]; omega) | decide)⟩
 refine jT (dT bE) (sr (Kz (.agg (bZ 0 0 0 0 0 none 0 0 none 0 0 none 0 0 0 0 ([]) ([]) 0 0 0 ([]) ([])).toArray) (Mz rfl ?_)))
 have ky:=bU.pk [6,0,1,2,3,4,5]
 refine dw (bZ 0 0 0 0 0 none 0 0 none 0 0 none 0 0 0 0 ([]) ([]) 0 0 0 ([]) ([])) 0 ky Tryz.sizeOf31 ?_
 intro bI bY
 replace bY:Own w D bI [blk E (bZ 0 0 0 0 0 none 0 0 none 0 0 none 0 0 0 0 ([]) ([]) 0 0 0 ([]) ([])) 31,blk y [.slice G t.ae.ls.length F, .int .i64 t.aG] 150,blk A (bZ z B C r s g b.length f j d.length h o c.length n u x l.aK l.aO a.aZ a.bB a.cz a.aP.aK a.aP.aO) 31,row o c.length n (List.flatMap (eN .u64) c) 22 1,row j d.length h (List.flatMap aM.cells p) 66 2,sepL (List.flatMap CL p),row g b.length f (List.flatMap aL.cells b) 54 2]:=(bY)
 refine An rfl (rt (tR (CK (nD (vs:= [.agg (bZ 0 0 0 0 0 none 0 0 none 0 0 none 0 0 0 0 ([]) ([]) 0 0 0 ([]) ([])).toArray, .int .i64 au]) rfl (ib.cell rfl (Cu (cs:=(bZ 0 0 0 0 0 none 0 0 none 0 0 none 0 0 0 0 ([]) ([]) 0 0 0 ([]) ([]))) Tryz.isAgg31 Tryz.sizeOf31 ((bY.cls (i:=0) rfl).lit (k:=0) (m:=17) rfl)) (ib.tmp rfl ib.nil)) (EK rfl)) ?_)))
 have kz:Own w D bI [row none 0 0 (List.flatMap aL.cells ([])) 54 2,blk E (bZ 0 0 0 0 0 none 0 0 none 0 0 none 0 0 0 0 ([]) ([]) 0 0 0 ([]) ([])) 31,blk y [.slice G t.ae.ls.length F, .int .i64 t.aG] 150,blk A (bZ z B C r s g b.length f j d.length h o c.length n u x l.aK l.aO a.aZ a.bB a.cz a.aP.aK a.aP.aO) 31,row o c.length n (List.flatMap (eN .u64) c) 22 1,row j d.length h (List.flatMap aM.cells p) 66 2,sepL (List.flatMap CL p),row g b.length f (List.flatMap aL.cells b) 54 2]:=bY.free (iD 54 2)
 have kC:Own w D bI [sepL (List.flatMap CL ([])),row none 0 0 (List.flatMap aL.cells ([])) 54 2,blk E (bZ 0 0 0 0 0 none 0 0 none 0 0 none 0 0 0 0 ([]) ([]) 0 0 0 ([]) ([])) 31,blk y [.slice G t.ae.ls.length F, .int .i64 t.aG] 150,blk A (bZ z B C r s g b.length f j d.length h o c.length n u x l.aK l.aO a.aZ a.bB a.cz a.aP.aK a.aP.aO) 31,row o c.length n (List.flatMap (eN .u64) c) 22 1,row j d.length h (List.flatMap aM.cells p) 66 2,sepL (List.flatMap CL p),row g b.length f (List.flatMap aL.cells b) 54 2]:=kz.sepNil
 have kD:Own w D bI [row none 0 0 (List.flatMap aM.cells ([])) 66 2,sepL (List.flatMap CL ([])),row none 0 0 (List.flatMap aL.cells ([])) 54 2,blk E (bZ 0 0 0 0 0 none 0 0 none 0 0 none 0 0 0 0 ([]) ([]) 0 0 0 ([]) ([])) 31,blk y [.slice G t.ae.ls.length F, .int .i64 t.aG] 150,blk A (bZ z B C r s g b.length f j d.length h o c.length n u x l.aK l.aO a.aZ a.bB a.cz a.aP.aK a.aP.aO) 31,row o c.length n (List.flatMap (eN .u64) c) 22 1,row j d.length h (List.flatMap aM.cells p) 66 2,sepL (List.flatMap CL p),row g b.length f (List.flatMap aL.cells b) 54 2]:=kC.free (iD 66 2)
 have kE:Own w D bI [row none 0 0 (List.flatMap (eN .u64) ([])) 22 1,row none 0 0 (List.flatMap aM.cells ([])) 66 2,sepL (List.flatMap CL ([])),row none 0 0 (List.flatMap aL.cells ([])) 54 2,blk E (bZ 0 0 0 0 0 none 0 0 none 0 0 none 0 0 0 0 ([]) ([]) 0 0 0 ([]) ([])) 31,blk y [.slice G t.ae.ls.length F, .int .i64 t.aG] 150,blk A (bZ z B C r s g b.length f j d.length h o c.length n u x l.aK l.aO a.aZ a.bB a.cz a.aP.aK a.aP.aO) 31,row o c.length n (List.flatMap (eN .u64) c) 22 1,row j d.length h (List.flatMap aM.cells p) 66 2,sepL (List.flatMap CL p),row g b.length f (List.flatMap aL.cells b) 54 2]:=kD.free (iD 22 1)
 have kF:=kE.pk [3,1,2,0]
 have e:iH T=(bQ.mk 0 0 0 0 0 (Ll.mk ([])) (Ll.mk ([])) (Ll.mk ([])) 0 0 (bF.mk ([]) ([])) (gp.mk 0 0 0 (bF.mk ([]) ([]))),au):=et (ag bM) (et (ag bN) (et (ag bP) (et (ag bS) (et (ag az) (et (ag aB) (et (ag aD) (et (ag aH) (et (ag aJ) (et (ag aN) (et (ag aP) (et (ag aR) (et (ag aT) (et (ag aV) (et (ag aY) (iN bE)))))))))))))))
 obtain⟨rfl,rfl⟩:=iI (e.symm.trans hr)
 exact⟨none,0,none,0,none,0, [],rfl,kF,rfl,(by first | omega | (dsimp only; omega) | (simp only [List.length_nil]; omega) | decide)⟩
end Go.Proofs.YtcnkpjheifkgnaaGreat
