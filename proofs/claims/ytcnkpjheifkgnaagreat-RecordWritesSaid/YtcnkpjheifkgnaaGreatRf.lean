/-
 record: the coordinator's state of bytes.
-/
import Derived.Test.YtcnkpjheifkgnaaGreatRe
namespace Go.Proofs.YtcnkpjheifkgnaaGreat
set_option maxRecDepth 100000
open Go.RowKit
set_option linter.unusedVariables false
set_option linter.unusedSectionVars false
set_option linter.unusedSimpArgs false
def dD (p1:Int):Nat→List bK→Nat→List UInt8→Int→(List bK) × (List UInt8) × Int
  | 0,c,e,d,a=>default
  | f+1,c,e,d,a=>if((e:Nat):Int) < p1 then if a=0 then bnd (jw (ReaderT.mk (Ll.mk d) a)) fun b=>dD p1 f (c++ [b.1]) (e+1) b.2.ae.ls b.2.aG else(c,d,a) else(c,d,a)
def jC (a:ReaderT) (p1:Int):(List bK) × ReaderT:=
 bnd (bnd (dD p1 ((Int.toNat p1 - 0)+1) ([]) 0 a.ae.ls a.aG) fun sLrJjL=>(sLrJjL.1,sLrJjL.2.1,sLrJjL.2.2)) fun sJrJ=>(sJrJ.1,ReaderT.mk (Ll.mk sJrJ.2.1) sJrJ.2.2)
theorem nI (w:World) (D:Nat→Prop) (x:Nat) (d:ReaderT) (b:Option Addr) (c:Nat) (p1:Int) (r0:List bK) (r1:ReaderT) (H:Own w D w [blk x [.slice b d.ae.ls.length c, .int .i64 d.aG] 150]) (ae:Ro w D fun w'=>bG w' 1 b d.ae.ls.length (List.flatMap eB d.ae.ls)) (aR:d.ae.ls.length≤c∧d.ae.ls.length≤9223372036854775807) (bR:p1≤1000) (hr:jC d p1=(r0,r1)):
    Calls Tryz.prog 100 #[.pointer (some ⟨x,0,none⟩), .int .i64 p1, .func (.func 64) #[] #[]] w (dE fun v w'=> ∃ (B0:Option Addr) (b0:Nat) (e0:List ax) (B1ox0:Option Addr) (b1ox0:Nat),v= .slice B0 r0.length b0∧Own w D w' [row B0 r0.length b0 (List.flatMap ax.cells e0) 79 5,sepL (List.flatMap CJ e0),blk x [.slice B1ox0 r1.ae.ls.length b1ox0, .int .i64 r1.aG] 150]∧(List.map Co e0=r0)∧(aF 1 b c d.ae.ls B1ox0 b1ox0 r1.ae.ls)∧(r0.length≤1000)):=by
 refine Ce (args:= [.pointer (some ⟨x,0,none⟩), .int .i64 p1, .func (.func 64) #[] #[]]) Tryz.func100 rfl rfl rfl ?_
 show Wp _ _ _ [(0, .pointer (some ⟨x,0,none⟩)),(1, .int .i64 p1),(2, .func (.func 64) #[] #[])] _ _
 refine sr (Ar rfl (An rfl (BS (sr (An rfl ?_)))))
 obtain⟨au,av⟩:∃ q:((Option Addr) × Nat × (List ax) × (List bK) × (Option Addr) × Nat × (List UInt8) × Int)→World→Prop,q=fun(i:(Option Addr) × Nat × (List ax) × (List bK) × (Option Addr) × Nat × (List UInt8) × Int) w'=>Own w D w' [blk x [.slice i.2.2.2.2.1 i.2.2.2.2.2.2.1.length i.2.2.2.2.2.1, .int .i64 i.2.2.2.2.2.2.2] 150,row i.1 i.2.2.2.1.length i.2.1 (List.flatMap ax.cells i.2.2.1) 79 5,sepL (List.flatMap CJ i.2.2.1)]∧(List.map Co i.2.2.1=i.2.2.2.1∧aF 1 b c d.ae.ls i.2.2.2.2.1 i.2.2.2.2.2.1 i.2.2.2.2.2.2.1∧0≤i.2.2.2.1.length∧i.2.2.2.2.2.2.1.length≤d.ae.ls.length∧i.2.2.2.2.2.2.1.length≤d.ae.ls.length+1∧i.2.2.2.1.length≤1000∧(bnd (dD p1 ((Int.toNat p1 - 0)+1) ([]) 0 d.ae.ls d.aG) fun sLrJjL=>(sLrJjL.1,sLrJjL.2.1,sLrJjL.2.2))=(i.2.2.2.1,i.2.2.2.2.2.2.1,i.2.2.2.2.2.2.2)):=⟨_,rfl⟩
 have L:∀ {M:Option Addr} {N:Nat} {G:List ax} {t:List bK} {O:Option Addr} {P:Nat} {z:List UInt8} {Q:Int} {w':World},au (M,N,G,t,O,P,z,Q) w'↔Own w D w' [blk x [.slice O z.length P, .int .i64 Q] 150,row M t.length N (List.flatMap ax.cells G) 79 5,sepL (List.flatMap CJ G)]∧List.map Co G=t∧aF 1 b c d.ae.ls O P z∧0≤t.length∧z.length≤d.ae.ls.length∧z.length≤d.ae.ls.length+1∧t.length≤1000∧(bnd (dD p1 ((Int.toNat p1 - 0)+1) ([]) 0 d.ae.ls d.aG) fun sLrJjL=>(sLrJjL.1,sLrJjL.2.1,sLrJjL.2.2))=(t,z,Q):=by intros; subst av; exact Iff.rfl
 refine Df (fun i:(Option Addr) × Nat × (List ax) × (List bK) × (Option Addr) × Nat × (List UInt8) × Int=> [(7, .slice i.1 i.2.2.2.1.length i.2.1),(6, .slice none 0 0)]) au ?_ ?_
 refine bo ?_
 have aT:Own w D w [sepL (List.flatMap CJ ([])),blk x [.slice b d.ae.ls.length c, .int .i64 d.aG] 150]:=H.sepNil
 have aU:Own w D w [row none 0 0 (List.flatMap ax.cells ([])) 79 5,sepL (List.flatMap CJ ([])),blk x [.slice b d.ae.ls.length c, .int .i64 d.aG] 150]:=aT.free (iD 79 5)
 have aV:=aU.pk [2,0,1]
 obtain⟨ay,az⟩:∃ q:((Option Addr) × Nat × (List ax) × (List bK) × Nat × (Option Addr) × Nat × (List UInt8) × Int × Nat)→World→Prop,q=fun(i:(Option Addr) × Nat × (List ax) × (List bK) × Nat × (Option Addr) × Nat × (List UInt8) × Int × Nat) w'=>Own w D w' [blk x [.slice i.2.2.2.2.2.1 i.2.2.2.2.2.2.2.1.length i.2.2.2.2.2.2.1, .int .i64 i.2.2.2.2.2.2.2.2.1] 150,row i.1 i.2.2.2.1.length i.2.1 (List.flatMap ax.cells i.2.2.1) 79 5,sepL (List.flatMap CJ i.2.2.1)]∧(List.map Co i.2.2.1=i.2.2.2.1∧aF 1 b c d.ae.ls i.2.2.2.2.2.1 i.2.2.2.2.2.2.1 i.2.2.2.2.2.2.2.1∧i.2.2.2.1.length≤i.2.2.2.2.1∧(i.2.2.2.2.1=0∨((i.2.2.2.2.1:Nat):Int)≤p1)∧Int.toNat p1 - i.2.2.2.2.1 < i.2.2.2.2.2.2.2.2.2∧dD p1 ((Int.toNat p1 - 0)+1) ([]) 0 d.ae.ls d.aG=dD p1 i.2.2.2.2.2.2.2.2.2 i.2.2.2.1 i.2.2.2.2.1 i.2.2.2.2.2.2.2.1 i.2.2.2.2.2.2.2.2.1):=⟨_,rfl⟩
 have R:∀ {I:Option Addr} {J:Nat} {o:List ax} {g:List bK} {j:Nat} {A:Option Addr} {u:Nat} {l:List UInt8} {n:Int} {K:Nat} {w':World},ay (I,J,o,g,j,A,u,l,n,K) w'↔Own w D w' [blk x [.slice A l.length u, .int .i64 n] 150,row I g.length J (List.flatMap ax.cells o) 79 5,sepL (List.flatMap CJ o)]∧List.map Co o=g∧aF 1 b c d.ae.ls A u l∧g.length≤j∧(j=0∨((j:Nat):Int)≤p1)∧Int.toNat p1 - j < K∧dD p1 ((Int.toNat p1 - 0)+1) ([]) 0 d.ae.ls d.aG=dD p1 K g j l n:=by intros; subst az; exact Iff.rfl
 refine Wp.loop (fun i:(Option Addr) × Nat × (List ax) × (List bK) × Nat × (Option Addr) × Nat × (List UInt8) × Int × Nat=> [(7, .slice i.1 i.2.2.2.1.length i.2.1),(8, .int .i64 ((i.2.2.2.2.1:Nat):Int)),(6, .slice none 0 0),(0, .pointer (some ⟨x,0,none⟩)),(1, .int .i64 p1),(2, .func (.func 64) #[] #[])]) ay (fun i=>i.2.2.2.2.2.2.2.2.2) (none,0, [], [],0,b,c,d.ae.ls,d.aG,(Int.toNat p1 - 0)+1) ⟨rfl,rfl,rfl,rfl,rfl,rfl,trivial⟩ (R.2 ⟨aV,(show List.map Co ([])=([])∧aF 1 b c d.ae.ls b c d.ae.ls∧0≤0∧(0=0∨((0:Nat):Int)≤p1)∧Int.toNat p1 - 0 < ((Int.toNat p1 - 0)+1)∧dD p1 ((Int.toNat p1 - 0)+1) ([]) 0 d.ae.ls d.aG=dD p1 ((Int.toNat p1 - 0)+1) ([]) 0 d.ae.ls d.aG from ⟨by exact rfl,by exact(aF.refl (by omega)),by omega,by omega,by omega,rfl⟩)⟩) ?_
 rintro ⟨I,J,o,g,j,A,u,l,n,K⟩ bS aA
 show Wp _ _ _ [(7, .slice I g.length J),(8, .int .i64 ((j:Nat):Int)),(6, .slice none 0 0),(0, .pointer (some ⟨x,0,none⟩)),(1, .int .i64 p1),(2, .func (.func 64) #[] #[])] _ _
 obtain⟨V,B,C,bE,bF,bH,S⟩:=R.1 aA
 have bI:=dm B
 have bJ:=(C).le
 obtain⟨af,aB⟩:∃ q,K=q+1:=⟨K - 1,by omega⟩
 subst aB
 refine BS (sr (Mz rfl (Mz rfl (Kz (.bool (decide (((j:Nat):Int) < p1))) (Mz rfl ?_)))))
 by_cases h:((j:Nat):Int) < p1
 refine gw (.pointer (some ⟨x,0,none⟩)) (dT h) (BX rfl) (Gz (.pointer (some ⟨x,0,none⟩)) (dT h) (Gz (.pointer (some ⟨x,1,none⟩)) (dT h) (Gl (.int .i64 n) (dT h) V 0 Tryz.isAgg38 (Gz (.bool (decide (n=0))) (dT h) (fw (.bool (decide (n=0))) (BZ rfl (dT h) rfl) (nt ?_))))))
 by_cases W:n=0
 refine jT (dT W) (sk (BS (bo (BR (Mz rfl (Mz rfl (Mz rfl ?_)))))))
 obtain⟨⟨a,E⟩,Z⟩:∃ q:bK × ReaderT,jw (ReaderT.mk (Ll.mk l) n)=q:=⟨_,rfl⟩
 obtain⟨bT,aC,aD,aG,bL⟩:=Cg V
 refine WL.do rfl (CB Tryz.call64 rfl rfl (oZ _ _ x (ReaderT.mk (Ll.mk l) n) A u a E aC (fun w9 h9=>aF.rds bA (by decide) C ((aD _ ae) w9 h9)) (show l.length≤u∧l.length≤9223372036854775807 from by omega) Z) ?_)
 rintro _ bW ⟨p,r,X,Y,rfl,aH,F,aa⟩
 have aI:=aG _ _ aH
 replace F:aF 1 A u l X Y E.ae.ls:=F
 have bM:=(F).le
 have aJ:aF 1 b c d.ae.ls X Y E.ae.ls:=aF.trans C F
 have bO:=aI.rowC (i:=0) rfl
 replace aa:a.aa.ls.length≤1000:=aa
 refine ji [.int .u64 ((a.av:Nat):Int), .int .i64 a.ak, .int .u64 ((a.aj:Nat):Int), .int .u64 ((a.bJ:Nat):Int), .slice p a.aa.ls.length r] 79 5 1 aI ?_
 intro aK bX ah
 replace ah:=CG (y:=row aK 1 1 (List.flatMap ax.cells ([(ax.mk a.av a.ak a.aj a.bJ (Sv.mk p r a.aa.ls))])) 79 5) rfl ah
 have aL:=ah.pk [3,4,1,0,2]
 refine WL.do rfl (CU (k:=g.length) (m:=1) (qw) aL rfl rfl (j5 Tryz.underlying32 (aL.rds (i:=3) rfl) (ja ax.one ([(ax.mk a.av a.ak a.aj a.bJ (Sv.mk p r a.aa.ls))]))) rfl (by omega) (s:=List.length (g++ [a])) (by first | omega | (simp only [List.length_append,List.length_cons,List.length_nil] <;> omega)) (List.flatMap_append).symm ?_)
 intro aM aN aW aX
 have aY:=aX.pk [1,2,0,3,4]
 have aZ:Own w D aW [sepL (List.flatMap CJ (o++ [(ax.mk a.av a.ak a.aj a.bJ (Sv.mk p r a.aa.ls))])),row aM (List.length (g++ [a])) aN (List.flatMap ax.cells (o++ [(ax.mk a.av a.ak a.aj a.bJ (Sv.mk p r a.aa.ls))])) 79 5,row aK 1 1 (List.flatMap ax.cells ([(ax.mk a.av a.ak a.aj a.bJ (Sv.mk p r a.aa.ls))])) 79 5,blk x [.slice X E.ae.ls.length Y, .int .i64 E.aG] 150]:=aY.sepAdd (L2:= [row p a.aa.ls.length r (List.flatMap (eI .i64) a.aa.ls) 3 1]) (List.flatMap_append (f:=CJ) (xs:=o) (ys:= [(ax.mk a.av a.ak a.aj a.bJ (Sv.mk p r a.aa.ls))])).symm
 have bP:List.length (g++ [a])=g.length+1:=by simp only [List.length_append,List.length_cons,List.length_nil]
 have bQ:=dm (mR (es:= [(ax.mk a.av a.ak a.aj a.bJ (Sv.mk p r a.aa.ls))]) (ms:= [a]) B rfl)
 refine Az rfl (Cf (bN (Ca (BR (Mz rfl (fw (.int .i64 ((j+1:Nat):Int)) (Ci (e:=IntKind.i64.wrap (((j:Nat):Int)+1)) yk (by rw [EL _ (by omega)]; omega)) (Az rfl (Cf ?_))))))))
 have bf:=aZ.pk [3,1,0]
 exact Cm (aM,aN,(o++ [(ax.mk a.av a.ak a.aj a.bJ (Sv.mk p r a.aa.ls))]),(g++ [a]),j+1,X,Y,E.ae.ls,E.aG,af) ⟨rfl,rfl,rfl,rfl,rfl,rfl,trivial⟩ (R.2 ⟨bf,by exact(mR (es:= [(ax.mk a.av a.ak a.aj a.bJ (Sv.mk p r a.aa.ls))]) (ms:= [a]) B rfl),by exact aJ,by omega,by omega,by omega,et (S) (et (ip h) (et (ip W) (ag Z)))⟩) (by show af < af+1; omega)
 refine jF (dF W) (Wp.exit (Cb (Cb (Cn ?_))))
 have bg:=V.pk [0,1,2]
 exact CV (I,J,o,g,A,u,l,n) ⟨rfl,rfl,trivial⟩ (L.2 ⟨bg,by exact B,by exact C,by omega,by omega,by omega,by omega,ag (et (S) (et (ip h) (iN W)))⟩)
 refine Sz (dF h) (Sz (dF h) (Sz (dF h) (Sz (dF h) (Sz (dF h) (fw (.bool false) (BQ rfl (dF h) rfl) (nt (jf (Wp.exit (Cb (Cb (Cn ?_)))))))))))
 have bi:=V.pk [0,1,2]
 exact CV (I,J,o,g,A,u,l,n) ⟨rfl,rfl,trivial⟩ (L.2 ⟨bi,by exact B,by exact C,by omega,by omega,by omega,by omega,ag (et (S) (iN h))⟩)
 rintro ⟨M,N,G,t,O,P,z,Q⟩ bY ai
 show Wp _ _ _ [(7, .slice M t.length N),(6, .slice none 0 0)] _ _
 obtain⟨aO,T,U,bn,bq,bu,bv,aj⟩:=L.1 ai
 have bz:=dm T
 have bB:=(U).le
 refine sr (Mz rfl (An rfl (rt (rs ?_))))
 have aP:=aO.pk [1,2,0]
 have e:jC d p1=(t,ReaderT.mk (Ll.mk z) Q):=ag aj
 obtain⟨rfl,rfl⟩:=iI (e.symm.trans hr)
 exact⟨M,N,G,O,P,rfl,aP,T,U,(by omega)⟩
def iy (c:ReaderT) (p1:Nat):(List bK) × ReaderT:=
 bnd (aQ c p1) fun a=>bnd (jC a.2 ((a.1:Nat):Int)) fun b=>(b.1,b.2)
theorem nR (w:World) (D:Nat→Prop) (s:Nat) (d:ReaderT) (b:Option Addr) (a:Nat) (p1:Nat) (z:List bK) (M:ReaderT) (H:Own w D w [blk s [.slice b d.ae.ls.length a, .int .i64 d.aG] 150]) (j:Ro w D fun w'=>bG w' 1 b d.ae.ls.length (List.flatMap eB d.ae.ls)) (N:d.ae.ls.length≤a∧d.ae.ls.length≤9223372036854775807) (af:p1≤1000) (hr:iy d p1=(z,M)):
    Calls Tryz.prog 63 #[.pointer (some ⟨s,0,none⟩), .int .u64 ((p1:Nat):Int), .func (.func 64) #[] #[]] w (dE fun v w'=> ∃ (U:Option Addr) (V:Nat) (O:List ax) (B1ox0:Option Addr) (b1ox0:Nat),v= .slice U z.length V∧Own w D w' [row U z.length V (List.flatMap ax.cells O) 79 5,sepL (List.flatMap CJ O),blk s [.slice B1ox0 M.ae.ls.length b1ox0, .int .i64 M.aG] 150]∧(List.map Co O=z)∧(aF 1 b a d.ae.ls B1ox0 b1ox0 M.ae.ls)∧(z.length≤1000)):=by
 refine Ce (args:= [.pointer (some ⟨s,0,none⟩), .int .u64 ((p1:Nat):Int), .func (.func 64) #[] #[]]) Tryz.func63 rfl rfl rfl ?_
 show Wp _ _ _ [(0, .pointer (some ⟨s,0,none⟩)),(1, .int .u64 ((p1:Nat):Int)),(2, .func (.func 64) #[] #[])] _ _
 refine sr (Ar rfl (Mz rfl (Mz rfl (Mz rfl ?_))))
 obtain⟨⟨h,f⟩,m⟩:∃ q:Nat × ReaderT,aQ d p1=q:=⟨_,rfl⟩
 obtain⟨ah,A,B,C,W⟩:=Cg H
 refine cl Tryz.call93 (fD _ _ s d b a p1 h f A (B _ j) (show d.ae.ls.length≤a∧d.ae.ls.length≤9223372036854775807 from by omega) m) ?_
 rintro _ ai ⟨t,k,rfl,E,c,n⟩
 have P:=C _ _ E
 replace c:aF 1 b a d.ae.ls t k f.ae.ls:=c
 have X:=(c).le
 replace n:h≤p1:=n
 refine fw (.int .i64 ((h:Nat):Int)) (Ci (e:=IntKind.i64.wrap ((h:Nat):Int)) yk (EL _ (by omega))) (Mz rfl ?_)
 obtain⟨⟨u,l⟩,o⟩:∃ q:(List bK) × ReaderT,jC f ((h:Nat):Int)=q:=⟨_,rfl⟩
 obtain⟨aj,F,G,I,Y⟩:=Cg P
 refine cl Tryz.call100 (nI _ _ s f t k ((h:Nat):Int) u l F (fun w9 h9=>aF.rds bA (by decide) c ((G _ j) w9 h9)) (show f.ae.ls.length≤k∧f.ae.ls.length≤9223372036854775807 from by omega) (by omega) o) ?_
 rintro _ av ⟨Q,R,S,x,y,rfl,J,p,g,r⟩
 have K:=I _ _ J
 replace g:aF 1 t k f.ae.ls x y l.ae.ls:=g
 have Z:=(g).le
 have L:aF 1 b a d.ae.ls x y l.ae.ls:=aF.trans c g
 have aa:=dm p
 have ae:=K.rowC (i:=0) rfl
 replace r:u.length≤1000:=r
 refine An rfl (rt (rs ?_))
 have T:=K.pk [0,1,2]
 have e:iy d p1=(u,l):=et (ag m) (ag o)
 obtain⟨rfl,rfl⟩:=iI (e.symm.trans hr)
 exact⟨Q,R,S,x,y,rfl,T,p,L,(by omega)⟩
def eQ (p1:Int):Nat→List eD→Nat→List UInt8→Int→(List eD) × (List UInt8) × Int
  | 0,c,e,d,a=>default
  | f+1,c,e,d,a=>if((e:Nat):Int) < p1 then if a=0 then bnd (kI (ReaderT.mk (Ll.mk d) a)) fun b=>eQ p1 f (c++ [b.1]) (e+1) b.2.ae.ls b.2.aG else(c,d,a) else(c,d,a)
def kv (a:ReaderT) (p1:Int):(List eD) × ReaderT:=
 bnd (bnd (eQ p1 ((Int.toNat p1 - 0)+1) ([]) 0 a.ae.ls a.aG) fun sLrJjL=>(sLrJjL.1,sLrJjL.2.1,sLrJjL.2.2)) fun sJrJ=>(sJrJ.1,ReaderT.mk (Ll.mk sJrJ.2.1) sJrJ.2.2)
theorem oG (w:World) (D:Nat→Prop) (u:Nat) (g:ReaderT) (b:Option Addr) (c:Nat) (p1:Int) (r0:List eD) (r1:ReaderT) (H:Own w D w [blk u [.slice b g.ae.ls.length c, .int .i64 g.aG] 150]) (ai:Ro w D fun w'=>bG w' 1 b g.ae.ls.length (List.flatMap eB g.ae.ls)) (aZ:g.ae.ls.length≤c∧g.ae.ls.length≤9223372036854775807) (bY:p1≤1000) (hr:kv g p1=(r0,r1)):
    Calls Tryz.prog 102 #[.pointer (some ⟨u,0,none⟩), .int .i64 p1, .func (.func 66) #[] #[]] w (dE fun v w'=> ∃ (B0:Option Addr) (b0:Nat) (e0:List aT) (B1ox0:Option Addr) (b1ox0:Nat),v= .slice B0 r0.length b0∧Own w D w' [row B0 r0.length b0 (List.flatMap aT.cells e0) 84 4,sepL (List.flatMap CQ e0),blk u [.slice B1ox0 r1.ae.ls.length b1ox0, .int .i64 r1.aG] 150]∧(List.map Cz e0=r0)∧(aF 1 b c g.ae.ls B1ox0 b1ox0 r1.ae.ls)∧(r0.length≤1000)):=by
 refine Ce (args:= [.pointer (some ⟨u,0,none⟩), .int .i64 p1, .func (.func 66) #[] #[]]) Tryz.func102 rfl rfl rfl ?_
 show Wp _ _ _ [(0, .pointer (some ⟨u,0,none⟩)),(1, .int .i64 p1),(2, .func (.func 66) #[] #[])] _ _
 refine sr (Ar rfl (An rfl (BS (sr (An rfl ?_)))))
 obtain⟨aB,aC⟩:∃ q:((Option Addr) × Nat × (List aT) × (List eD) × (Option Addr) × Nat × (List UInt8) × Int)→World→Prop,q=fun(i:(Option Addr) × Nat × (List aT) × (List eD) × (Option Addr) × Nat × (List UInt8) × Int) w'=>Own w D w' [blk u [.slice i.2.2.2.2.1 i.2.2.2.2.2.2.1.length i.2.2.2.2.2.1, .int .i64 i.2.2.2.2.2.2.2] 150,row i.1 i.2.2.2.1.length i.2.1 (List.flatMap aT.cells i.2.2.1) 84 4,sepL (List.flatMap CQ i.2.2.1)]∧(List.map Cz i.2.2.1=i.2.2.2.1∧aF 1 b c g.ae.ls i.2.2.2.2.1 i.2.2.2.2.2.1 i.2.2.2.2.2.2.1∧0≤i.2.2.2.1.length∧i.2.2.2.2.2.2.1.length≤g.ae.ls.length∧i.2.2.2.2.2.2.1.length≤g.ae.ls.length+1∧i.2.2.2.1.length≤1000∧(bnd (eQ p1 ((Int.toNat p1 - 0)+1) ([]) 0 g.ae.ls g.aG) fun sLrJjL=>(sLrJjL.1,sLrJjL.2.1,sLrJjL.2.2))=(i.2.2.2.1,i.2.2.2.2.2.2.1,i.2.2.2.2.2.2.2)):=⟨_,rfl⟩
 have N:∀ {O:Option Addr} {P:Nat} {J:List aT} {x:List eD} {Q:Option Addr} {R:Nat} {B:List UInt8} {S:Int} {w':World},aB (O,P,J,x,Q,R,B,S) w'↔Own w D w' [blk u [.slice Q B.length R, .int .i64 S] 150,row O x.length P (List.flatMap aT.cells J) 84 4,sepL (List.flatMap CQ J)]∧List.map Cz J=x∧aF 1 b c g.ae.ls Q R B∧0≤x.length∧B.length≤g.ae.ls.length∧B.length≤g.ae.ls.length+1∧x.length≤1000∧(bnd (eQ p1 ((Int.toNat p1 - 0)+1) ([]) 0 g.ae.ls g.aG) fun sLrJjL=>(sLrJjL.1,sLrJjL.2.1,sLrJjL.2.2))=(x,B,S):=by intros; subst aC; exact Iff.rfl
 refine Df (fun i:(Option Addr) × Nat × (List aT) × (List eD) × (Option Addr) × Nat × (List UInt8) × Int=> [(7, .slice i.1 i.2.2.2.1.length i.2.1),(6, .slice none 0 0)]) aB ?_ ?_
 refine bo ?_
 have bg:Own w D w [sepL (List.flatMap CQ ([])),blk u [.slice b g.ae.ls.length c, .int .i64 g.aG] 150]:=H.sepNil
 have bi:Own w D w [row none 0 0 (List.flatMap aT.cells ([])) 84 4,sepL (List.flatMap CQ ([])),blk u [.slice b g.ae.ls.length c, .int .i64 g.aG] 150]:=bg.free (iD 84 4)
 have bn:=bi.pk [2,0,1]
 obtain⟨aG,aH⟩:∃ q:((Option Addr) × Nat × (List aT) × (List eD) × Nat × (Option Addr) × Nat × (List UInt8) × Int × Nat)→World→Prop,q=fun(i:(Option Addr) × Nat × (List aT) × (List eD) × Nat × (Option Addr) × Nat × (List UInt8) × Int × Nat) w'=>Own w D w' [blk u [.slice i.2.2.2.2.2.1 i.2.2.2.2.2.2.2.1.length i.2.2.2.2.2.2.1, .int .i64 i.2.2.2.2.2.2.2.2.1] 150,row i.1 i.2.2.2.1.length i.2.1 (List.flatMap aT.cells i.2.2.1) 84 4,sepL (List.flatMap CQ i.2.2.1)]∧(List.map Cz i.2.2.1=i.2.2.2.1∧aF 1 b c g.ae.ls i.2.2.2.2.2.1 i.2.2.2.2.2.2.1 i.2.2.2.2.2.2.2.1∧i.2.2.2.1.length≤i.2.2.2.2.1∧(i.2.2.2.2.1=0∨((i.2.2.2.2.1:Nat):Int)≤p1)∧Int.toNat p1 - i.2.2.2.2.1 < i.2.2.2.2.2.2.2.2.2∧eQ p1 ((Int.toNat p1 - 0)+1) ([]) 0 g.ae.ls g.aG=eQ p1 i.2.2.2.2.2.2.2.2.2 i.2.2.2.1 i.2.2.2.2.1 i.2.2.2.2.2.2.2.1 i.2.2.2.2.2.2.2.2.1):=⟨_,rfl⟩
 have T:∀ {K:Option Addr} {L:Nat} {o:List aT} {l:List eD} {p:Nat} {C:Option Addr} {z:Nat} {r:List UInt8} {t:Int} {M:Nat} {w':World},aG (K,L,o,l,p,C,z,r,t,M) w'↔Own w D w' [blk u [.slice C r.length z, .int .i64 t] 150,row K l.length L (List.flatMap aT.cells o) 84 4,sepL (List.flatMap CQ o)]∧List.map Cz o=l∧aF 1 b c g.ae.ls C z r∧l.length≤p∧(p=0∨((p:Nat):Int)≤p1)∧Int.toNat p1 - p < M∧eQ p1 ((Int.toNat p1 - 0)+1) ([]) 0 g.ae.ls g.aG=eQ p1 M l p r t:=by intros; subst aH; exact Iff.rfl
 refine Wp.loop (fun i:(Option Addr) × Nat × (List aT) × (List eD) × Nat × (Option Addr) × Nat × (List UInt8) × Int × Nat=> [(7, .slice i.1 i.2.2.2.1.length i.2.1),(8, .int .i64 ((i.2.2.2.2.1:Nat):Int)),(6, .slice none 0 0),(0, .pointer (some ⟨u,0,none⟩)),(1, .int .i64 p1),(2, .func (.func 66) #[] #[])]) aG (fun i=>i.2.2.2.2.2.2.2.2.2) (none,0, [], [],0,b,c,g.ae.ls,g.aG,(Int.toNat p1 - 0)+1) ⟨rfl,rfl,rfl,rfl,rfl,rfl,trivial⟩ (T.2 ⟨bn,(show List.map Cz ([])=([])∧aF 1 b c g.ae.ls b c g.ae.ls∧0≤0∧(0=0∨((0:Nat):Int)≤p1)∧Int.toNat p1 - 0 < ((Int.toNat p1 - 0)+1)∧eQ p1 ((Int.toNat p1 - 0)+1) ([]) 0 g.ae.ls g.aG=eQ p1 ((Int.toNat p1 - 0)+1) ([]) 0 g.ae.ls g.aG from ⟨by exact rfl,by exact(aF.refl (by omega)),by omega,by omega,by omega,rfl⟩)⟩) ?_
 rintro ⟨K,L,o,l,p,C,z,r,t,M⟩ bZ aI
 show Wp _ _ _ [(7, .slice K l.length L),(8, .int .i64 ((p:Nat):Int)),(6, .slice none 0 0),(0, .pointer (some ⟨u,0,none⟩)),(1, .int .i64 p1),(2, .func (.func 66) #[] #[])] _ _
 obtain⟨Z,E,F,bM,bO,bP,U⟩:=T.1 aI
 have bQ:=dm E
 have bR:=(F).le
 obtain⟨aj,aJ⟩:∃ q,M=q+1:=⟨M - 1,by omega⟩
 subst aJ
 refine BS (sr (Mz rfl (Mz rfl (Kz (.bool (decide (((p:Nat):Int) < p1))) (Mz rfl ?_)))))
 by_cases n:((p:Nat):Int) < p1
 refine gw (.pointer (some ⟨u,0,none⟩)) (dT n) (BX rfl) (Gz (.pointer (some ⟨u,0,none⟩)) (dT n) (Gz (.pointer (some ⟨u,1,none⟩)) (dT n) (Gl (.int .i64 t) (dT n) Z 0 Tryz.isAgg38 (Gz (.bool (decide (t=0))) (dT n) (fw (.bool (decide (t=0))) (BZ rfl (dT n) rfl) (nt ?_))))))
 by_cases aa:t=0
 refine jT (dT aa) (sk (BS (bo (BR (Mz rfl (Mz rfl (Mz rfl ?_)))))))
 obtain⟨⟨a,A⟩,af⟩:∃ q:eD × ReaderT,kI (ReaderT.mk (Ll.mk r) t)=q:=⟨_,rfl⟩
 obtain⟨cu,aK,aL,aM,bS⟩:=Cg Z
 refine WL.do rfl (CB Tryz.call66 rfl rfl (qG _ _ u (ReaderT.mk (Ll.mk r) t) C z a A aK (fun w9 h9=>aF.rds bA (by decide) F ((aL _ ai) w9 h9)) (show r.length≤z∧r.length≤9223372036854775807 from by omega) af) ?_)
 rintro _ cK ⟨h,j,d,V,W,rfl,aN,G,I,ah⟩
 have aO:=aM _ _ aN
 replace I:aF 1 C z r V W A.ae.ls:=I
 have bT:=(I).le
 have aP:aF 1 b c g.ae.ls V W A.ae.ls:=aF.trans F I
 have bU:=dm G
 have bV:=aO.rowC (i:=0) rfl
 replace ah:a.au.ls.length≤1000:=ah
 refine ji [.int .i64 a.ak, .int .u64 ((a.aj:Nat):Int), .int .u64 ((a.bJ:Nat):Int), .slice h a.au.ls.length j] 84 4 1 aO ?_
 intro ae cO ak
 replace ak:=CG (y:=row ae 1 1 (List.flatMap aT.cells ([(aT.mk a.ak a.aj a.bJ (Sv.mk h j d))])) 84 4) (congrArg (fun z9=>row ae 1 1 [.int .i64 a.ak, .int .u64 ((a.aj:Nat):Int), .int .u64 ((a.bJ:Nat):Int), .slice h z9 j] 84 4) (dm G).symm) ak
 have aQ:=ak.pk [4,5,1,2,0,3]
 refine WL.do rfl (CU (k:=l.length) (m:=1) (qx) aQ rfl rfl (j5 Tryz.underlying33 (aQ.rds (i:=4) rfl) (ja aT.one ([(aT.mk a.ak a.aj a.bJ (Sv.mk h j d))]))) rfl (by omega) (s:=List.length (l++ [a])) (by first | omega | (simp only [List.length_append,List.length_cons,List.length_nil] <;> omega)) (List.flatMap_append).symm ?_)
 intro av ax aR bq
 have bu:=bq.pk [2,0,1,3,4,5]
 have bv:Own w D aR [row h d.length j (List.flatMap aD.cells d) 129 3,row av (List.length (l++ [a])) ax (List.flatMap aT.cells (o++ [(aT.mk a.ak a.aj a.bJ (Sv.mk h j d))])) 84 4,sepL (List.flatMap CQ o),sepL (List.flatMap CZ d),row ae 1 1 (List.flatMap aT.cells ([(aT.mk a.ak a.aj a.bJ (Sv.mk h j d))])) 84 4,blk u [.slice V A.ae.ls.length W, .int .i64 A.aG] 150]:=CG (y:=row h d.length j (List.flatMap aD.cells d) 129 3) (congrArg (fun z9=>row h z9 j (List.flatMap aD.cells d) 129 3) (dm G).symm) bu
 have bz:=bv.pk [2,0,3,1,4,5]
 have bB:Own w D aR [sepL (List.flatMap CQ (o++ [(aT.mk a.ak a.aj a.bJ (Sv.mk h j d))])),row av (List.length (l++ [a])) ax (List.flatMap aT.cells (o++ [(aT.mk a.ak a.aj a.bJ (Sv.mk h j d))])) 84 4,row ae 1 1 (List.flatMap aT.cells ([(aT.mk a.ak a.aj a.bJ (Sv.mk h j d))])) 84 4,blk u [.slice V A.ae.ls.length W, .int .i64 A.aG] 150]:=bz.sepAdd (L2:= [row h d.length j (List.flatMap aD.cells d) 129 3,sepL (List.flatMap CZ d)]) (List.flatMap_append (f:=CQ) (xs:=o) (ys:= [(aT.mk a.ak a.aj a.bJ (Sv.mk h j d))])).symm
 have bW:List.length (l++ [a])=l.length+1:=by simp only [List.length_append,List.length_cons,List.length_nil]
 have bC:=dm (mR (es:= [(aT.mk a.ak a.aj a.bJ (Sv.mk h j d))]) (ms:= [a]) E (congrArg (fun z9=> [eD.mk a.ak a.aj a.bJ (Ll.mk z9)]) G))
 refine Az rfl (Cf (bN (Ca (BR (Mz rfl (fw (.int .i64 ((p+1:Nat):Int)) (Ci (e:=IntKind.i64.wrap (((p:Nat):Int)+1)) yk (by rw [EL _ (by omega)]; omega)) (Az rfl (Cf ?_))))))))
 have aS:=bB.pk [3,1,0]
 exact Cm (av,ax,(o++ [(aT.mk a.ak a.aj a.bJ (Sv.mk h j d))]),(l++ [a]),p+1,V,W,A.ae.ls,A.aG,aj) ⟨rfl,rfl,rfl,rfl,rfl,rfl,trivial⟩ (T.2 ⟨aS,by exact(mR (es:= [(aT.mk a.ak a.aj a.bJ (Sv.mk h j d))]) (ms:= [a]) E (congrArg (fun z9=> [eD.mk a.ak a.aj a.bJ (Ll.mk z9)]) G)),by exact aP,by omega,by omega,by omega,et (U) (et (ip n) (et (ip aa) (ag af)))⟩) (by show aj < aj+1; omega)
 refine jF (dF aa) (Wp.exit (Cb (Cb (Cn ?_))))
 have aU:=Z.pk [0,1,2]
 exact CV (K,L,o,l,C,z,r,t) ⟨rfl,rfl,trivial⟩ (N.2 ⟨aU,by exact E,by exact F,by omega,by omega,by omega,by omega,ag (et (U) (et (ip n) (iN aa)))⟩)
 refine Sz (dF n) (Sz (dF n) (Sz (dF n) (Sz (dF n) (Sz (dF n) (fw (.bool false) (BQ rfl (dF n) rfl) (nt (jf (Wp.exit (Cb (Cb (Cn ?_)))))))))))
 have aV:=Z.pk [0,1,2]
 exact CV (K,L,o,l,C,z,r,t) ⟨rfl,rfl,trivial⟩ (N.2 ⟨aV,by exact E,by exact F,by omega,by omega,by omega,by omega,ag (et (U) (iN n))⟩)
 rintro ⟨O,P,J,x,Q,R,B,S⟩ bX ay
 show Wp _ _ _ [(7, .slice O x.length P),(6, .slice none 0 0)] _ _
 obtain⟨aW,X,Y,bD,bE,bF,bH,az⟩:=N.1 ay
 have bI:=dm X
 have bJ:=(Y).le
 refine sr (Mz rfl (An rfl (rt (rs ?_))))
 have aX:=aW.pk [1,2,0]
 have e:kv g p1=(x,ReaderT.mk (Ll.mk B) S):=ag az
 obtain⟨rfl,rfl⟩:=iI (e.symm.trans hr)
 exact⟨O,P,J,Q,R,rfl,aX,X,Y,(by omega)⟩
def jh (c:ReaderT) (p1:Nat):(List eD) × ReaderT:=
 bnd (aQ c p1) fun a=>bnd (kv a.2 ((a.1:Nat):Int)) fun b=>(b.1,b.2)
theorem oM (w:World) (D:Nat→Prop) (s:Nat) (d:ReaderT) (b:Option Addr) (a:Nat) (p1:Nat) (z:List eD) (M:ReaderT) (H:Own w D w [blk s [.slice b d.ae.ls.length a, .int .i64 d.aG] 150]) (j:Ro w D fun w'=>bG w' 1 b d.ae.ls.length (List.flatMap eB d.ae.ls)) (N:d.ae.ls.length≤a∧d.ae.ls.length≤9223372036854775807) (af:p1≤1000) (hr:jh d p1=(z,M)):
    Calls Tryz.prog 65 #[.pointer (some ⟨s,0,none⟩), .int .u64 ((p1:Nat):Int), .func (.func 66) #[] #[]] w (dE fun v w'=> ∃ (U:Option Addr) (V:Nat) (O:List aT) (B1ox0:Option Addr) (b1ox0:Nat),v= .slice U z.length V∧Own w D w' [row U z.length V (List.flatMap aT.cells O) 84 4,sepL (List.flatMap CQ O),blk s [.slice B1ox0 M.ae.ls.length b1ox0, .int .i64 M.aG] 150]∧(List.map Cz O=z)∧(aF 1 b a d.ae.ls B1ox0 b1ox0 M.ae.ls)∧(z.length≤1000)):=by
 refine Ce (args:= [.pointer (some ⟨s,0,none⟩), .int .u64 ((p1:Nat):Int), .func (.func 66) #[] #[]]) Tryz.func65 rfl rfl rfl ?_
 show Wp _ _ _ [(0, .pointer (some ⟨s,0,none⟩)),(1, .int .u64 ((p1:Nat):Int)),(2, .func (.func 66) #[] #[])] _ _
 refine sr (Ar rfl (Mz rfl (Mz rfl (Mz rfl ?_))))
 obtain⟨⟨h,f⟩,m⟩:∃ q:Nat × ReaderT,aQ d p1=q:=⟨_,rfl⟩
 obtain⟨ah,A,B,C,W⟩:=Cg H
 refine cl Tryz.call93 (fD _ _ s d b a p1 h f A (B _ j) (show d.ae.ls.length≤a∧d.ae.ls.length≤9223372036854775807 from by omega) m) ?_
 rintro _ ai ⟨t,k,rfl,E,c,n⟩
 have P:=C _ _ E
 replace c:aF 1 b a d.ae.ls t k f.ae.ls:=c
 have X:=(c).le
 replace n:h≤p1:=n
 refine fw (.int .i64 ((h:Nat):Int)) (Ci (e:=IntKind.i64.wrap ((h:Nat):Int)) yk (EL _ (by omega))) (Mz rfl ?_)
 obtain⟨⟨u,l⟩,o⟩:∃ q:(List eD) × ReaderT,kv f ((h:Nat):Int)=q:=⟨_,rfl⟩
 obtain⟨aj,F,G,I,Y⟩:=Cg P
 refine cl Tryz.call102 (oG _ _ s f t k ((h:Nat):Int) u l F (fun w9 h9=>aF.rds bA (by decide) c ((G _ j) w9 h9)) (show f.ae.ls.length≤k∧f.ae.ls.length≤9223372036854775807 from by omega) (by omega) o) ?_
 rintro _ av ⟨Q,R,S,x,y,rfl,J,p,g,r⟩
 have K:=I _ _ J
 replace g:aF 1 t k f.ae.ls x y l.ae.ls:=g
 have Z:=(g).le
 have L:aF 1 b a d.ae.ls x y l.ae.ls:=aF.trans c g
 have aa:=dm p
 have ae:=K.rowC (i:=0) rfl
 replace r:u.length≤1000:=r
 refine An rfl (rt (rs ?_))
 have T:=K.pk [0,1,2]
 have e:jh d p1=(u,l):=et (ag m) (ag o)
 obtain⟨rfl,rfl⟩:=iI (e.symm.trans hr)
 exact⟨Q,R,S,x,y,rfl,T,p,L,(by omega)⟩
def gB (l:List UInt8):bI × Int:=
 bnd (jc l (67:UInt8)) fun k=>bnd (dZ k) fun e=>bnd (bv e.2) fun f=>bnd (bv f.2) fun g=>bnd (bv g.2) fun a=>bnd (gD a.2 255) fun b=>bnd (iy b.2 255) fun c=>bnd (jh c.2 255) fun d=>bnd (gZ d.2) fun j=>bnd (jN j) fun h=>if h=0 then bnd (dA (bI.mk e.1 f.1 g.1 a.1 (Ll.mk b.1) (Ll.mk c.1) (Ll.mk d.1))) fun i=>if i=0 then(bI.mk e.1 f.1 g.1 a.1 (Ll.mk b.1) (Ll.mk c.1) (Ll.mk d.1),0) else(bI.mk 0 0 0 0 (Ll.mk ([])) (Ll.mk ([])) (Ll.mk ([])),i) else(bI.mk 0 0 0 0 (Ll.mk ([])) (Ll.mk ([])) (Ll.mk ([])),h)
set_option maxHeartbeats 4000000 in
theorem mX (w:World) (D:Nat→Prop) (A0:Option Addr) (n0 c0:Nat) (J:List UInt8) (r0:bI) (r1:Int) (H:Own w D w []) (K:Ro w D fun w'=>bG w' 1 A0 n0 (List.flatMap eB J)) (gT:n0=J.length) (jM:J.length *1≤211106232532992) (jO:J.length≤c0) (hr:gB J=(r0,r1)):
    Calls Tryz.prog 17 #[.slice A0 n0 c0] w (dE fun v w'=> ∃ (bN:Option Addr) (bO:Nat) (bP:Option Addr) (bQ:Nat) (bR:Option Addr) (bS:Nat) (aY:List ax) (aZ:List aT),v= .tuple #[.agg #[.int .i64 r0.aa, .int .u64 ((r0.aj:Nat):Int), .int .u64 ((r0.aR:Nat):Int), .int .u64 ((r0.aH:Nat):Int), .slice bN r0.ai.ls.length bO, .slice bP r0.af.ls.length bQ, .slice bR r0.aB.ls.length bS], .int .i64 r1]∧Own w D w' [row bN r0.ai.ls.length bO (List.flatMap aL.cells r0.ai.ls) 54 2,row bP r0.af.ls.length bQ (List.flatMap ax.cells aY) 79 5,sepL (List.flatMap CJ aY),row bR r0.aB.ls.length bS (List.flatMap aT.cells aZ) 84 4,sepL (List.flatMap CQ aZ)]∧(List.map Co aY=r0.af.ls)∧(List.map Cz aZ=r0.aB.ls)∧(r0.ai.ls.length≤1000∧r0.af.ls.length≤1000∧r0.aB.ls.length≤1000)):=by
 subst gT
 refine Ce (args:= [.slice A0 J.length c0]) Tryz.func17 rfl rfl rfl ?_
 show Wp _ _ _ [(0, .slice A0 J.length c0)] _ _
 refine sr ?_
 refine dB [.int .i64 0, .int .u64 0, .int .u64 0, .int .u64 0, .slice none 0 0, .slice none 0 0, .slice none 0 0] 35 H ?_
 intro L jP gU
 refine Ar rfl (Mz rfl ?_)
 obtain⟨aC,aK⟩:∃ q,jc J (67:UInt8)=q:=⟨_,rfl⟩
 obtain⟨jQ,eF,eG,eO,iW⟩:=Ck gU
 refine cl Tryz.call49 (oQ _ _ A0 J.length c0 J (67:UInt8) aC eF (eG _ K) rfl (by omega) (by first | omega | (simp only [List.length_take,List.length_drop]; omega) | exact Nat.le_refl _) aK) ?_
 rintro _ jR ⟨z,cZ,bH,rfl,eP,ae⟩
 have gV:=eO _ _ eP
 replace ae:aF 1 A0 c0 J cZ bH aC.ae.ls:=ae
 have iX:=(ae).le
 refine Ar rfl (Mz rfl ?_)
 obtain⟨⟨s,af⟩,aM⟩:∃ q:Int × ReaderT,dZ aC=q:=⟨_,rfl⟩
 obtain⟨jS,eQ,eT,eU,iY⟩:=Cg gV
 refine cl Tryz.call50 (jr _ _ z aC cZ bH s af eQ (fun w9 I=>aF.rds bA (by decide) ae ((eT _ K) w9 I)) (show aC.ae.ls.length≤bH∧aC.ae.ls.length≤9223372036854775807 from by omega) aM) ?_
 rintro _ jU ⟨bJ,bf,rfl,eX,aN,bT⟩
 have gW:=eU _ _ eX
 replace aN:aF 1 cZ bH aC.ae.ls bJ bf af.ae.ls:=aN
 have iZ:=(aN).le
 have bU:aF 1 A0 c0 J bJ bf af.ae.ls:=aF.trans ae aN
 replace bT:0≤s∧s≤255:=bT
 refine Kz (.agg #[.int .i64 s, .int .u64 0, .int .u64 0, .int .u64 0, .slice none 0 0, .slice none 0 0, .slice none 0 0]) ?_
 refine dB [.int .i64 0, .int .u64 0, .int .u64 0, .int .u64 0, .slice none 0 0, .slice none 0 0, .slice none 0 0] 35 gW ?_
 intro A jV gX
 refine dw [.int .i64 s, .int .u64 0, .int .u64 0, .int .u64 0, .slice none 0 0, .slice none 0 0, .slice none 0 0] 0 gX Tryz.sizeOf35 ?_
 intro jW gY
 refine ns (Mz rfl ?_)
 have ic:=gY.pk [1,0,2]
 obtain⟨⟨u,ai⟩,aO⟩:∃ q:Nat × ReaderT,bv af=q:=⟨_,rfl⟩
 obtain⟨jX,eY,eZ,fe,ja⟩:=Cg ic
 refine cl Tryz.call51 (dW _ _ z af bJ bf u ai eY (fun w9 I=>aF.rds bA (by decide) bU ((eZ _ K) w9 I)) (show af.ae.ls.length≤bf∧af.ae.ls.length≤9223372036854775807 from by omega) aO) ?_
 rintro _ jY ⟨bL,bg,rfl,fo,aP,bV⟩
 have ig:=fe _ _ fo
 replace aP:aF 1 bJ bf af.ae.ls bL bg ai.ae.ls:=aP
 have jb:=(aP).le
 have bW:aF 1 A0 c0 J bL bg ai.ae.ls:=aF.trans bU aP
 replace bV:u≤18446744073709551615:=bV
 refine Kz (.pointer (some ⟨A,1,none⟩)) ?_
 have ik:=ig.pk [1,0,2]
 refine dw [.int .u64 ((u:Nat):Int)] 1 ik Tryz.sizeOf22 ?_
 intro jZ il
 refine ns (Mz rfl ?_)
 have iq:=il.pk [1,0,2]
 obtain⟨⟨x,aj⟩,aQ⟩:∃ q:Nat × ReaderT,bv ai=q:=⟨_,rfl⟩
 obtain⟨j3,fq,fu,fA,jd⟩:=Cg iq
 refine cl Tryz.call51 (dW _ _ z ai bL bg x aj fq (fun w9 I=>aF.rds bA (by decide) bW ((fu _ K) w9 I)) (show ai.ae.ls.length≤bg∧ai.ae.ls.length≤9223372036854775807 from by omega) aQ) ?_
 rintro _ j4 ⟨bM,bi,rfl,fB,aR,bX⟩
 have iw:=fA _ _ fB
 replace aR:aF 1 bL bg ai.ae.ls bM bi aj.ae.ls:=aR
 have je:=(aR).le
 have bY:aF 1 A0 c0 J bM bi aj.ae.ls:=aF.trans bW aR
 replace bX:x≤18446744073709551615:=bX
 refine Kz (.pointer (some ⟨A,2,none⟩)) ?_
 have fC:=iw.pk [1,0,2]
 refine dw [.int .u64 ((x:Nat):Int)] 2 fC Tryz.sizeOf22 ?_
 intro jf fD
 refine ns (Mz rfl ?_)
 have fE:=fD.pk [1,0,2]
 obtain⟨⟨r,C⟩,P⟩:∃ q:Nat × ReaderT,bv aj=q:=⟨_,rfl⟩
 obtain⟨jg,df,dh,di,iA⟩:=Cg fE
 refine cl Tryz.call51 (dW _ _ z aj bM bi r C df (fun w9 I=>aF.rds bA (by decide) bY ((dh _ K) w9 I)) (show aj.ae.ls.length≤bi∧aj.ae.ls.length≤9223372036854775807 from by omega) P) ?_
 rintro _ ji ⟨aS,ak,rfl,dn,Q,bn⟩
 have fF:=di _ _ dn
 replace Q:aF 1 bM bi aj.ae.ls aS ak C.ae.ls:=Q
 have iB:=(Q).le
 have bq:aF 1 A0 c0 J aS ak C.ae.ls:=aF.trans bY Q
 replace bn:r≤18446744073709551615:=bn
 refine Kz (.pointer (some ⟨A,3,none⟩)) ?_
 have fG:=fF.pk [1,0,2]
 refine dw [.int .u64 ((r:Nat):Int)] 3 fG Tryz.sizeOf22 ?_
 intro jk fH
 refine ns (Mz rfl ?_)
 have fI:=fH.pk [1,0,2]
 obtain⟨⟨a,E⟩,R⟩:∃ q:(List aL) × ReaderT,gD C 255=q:=⟨_,rfl⟩
 obtain⟨jl,dx,dz,dC,iC⟩:=Cg fI
 refine cl Tryz.call52 (mr _ _ z C aS ak 255 a E dx (fun w9 I=>aF.rds bA (by decide) bq ((dz _ K) w9 I)) (show C.ae.ls.length≤ak∧C.ae.ls.length≤9223372036854775807 from by omega) (by omega) R) ?_
 rintro _ jm ⟨h,d,aU,au,rfl,dD,S,bu⟩
 have bZ:=dC _ _ dD
 replace S:aF 1 aS ak C.ae.ls aU au E.ae.ls:=S
 have iE:=(S).le
 have bz:aF 1 A0 c0 J aU au E.ae.ls:=aF.trans bq S
 have iF:=bZ.rowC (i:=0) rfl
 replace bu:a.length≤1000:=bu
 refine Kz (.pointer (some ⟨A,4,none⟩)) ?_
 have fJ:=bZ.pk [2,0,1,3]
 refine dw [.slice h a.length d] 4 fJ Tryz.sizeOf23 ?_
 intro jo fK
 refine ns (Mz rfl ?_)
 have fM:=fK.pk [2,0,1,3]
 obtain⟨⟨b,F⟩,T⟩:∃ q:(List bK) × ReaderT,iy E 255=q:=⟨_,rfl⟩
 obtain⟨jq,dG,dH,dI,iG⟩:=Cg fM
 refine cl Tryz.call63 (nR _ _ z E aU au 255 b F dG (fun w9 I=>aF.rds bA (by decide) bz ((dH _ K) w9 I)) (show E.ae.ls.length≤au∧E.ae.ls.length≤9223372036854775807 from by omega) (by omega) T) ?_
 rintro _ jv ⟨j,f,o,aV,av,rfl,dJ,aD,U,bB⟩
 have cu:=dI _ _ dJ
 replace U:aF 1 aU au E.ae.ls aV av F.ae.ls:=U
 have iH:=(U).le
 have bC:aF 1 A0 c0 J aV av F.ae.ls:=aF.trans bz U
 have iJ:=dm aD
 have iK:=cu.rowC (i:=0) rfl
 replace bB:b.length≤1000:=bB
 refine Kz (.pointer (some ⟨A,5,none⟩)) ?_
 have fO:=cu.pk [3,0,1,2,4,5]
 refine dw [.slice j b.length f] 5 fO Tryz.sizeOf32 ?_
 intro jw fP
 refine ns (Mz rfl ?_)
 have fQ:=fP.pk [3,0,1,2,4,5]
 obtain⟨⟨c,G⟩,V⟩:∃ q:(List eD) × ReaderT,jh F 255=q:=⟨_,rfl⟩
 obtain⟨jy,dK,dL,dM,iL⟩:=Cg fQ
 refine cl Tryz.call65 (oM _ _ z F aV av 255 c G dK (fun w9 I=>aF.rds bA (by decide) bC ((dL _ K) w9 I)) (show F.ae.ls.length≤av∧F.ae.ls.length≤9223372036854775807 from by omega) (by omega) V) ?_
 rintro _ jA ⟨l,g,p,aW,ay,rfl,dN,aG,W,bD⟩
 have cz:=dM _ _ dN
 replace W:aF 1 aV av F.ae.ls aW ay G.ae.ls:=W
 have iM:=(W).le
 have bE:aF 1 A0 c0 J aW ay G.ae.ls:=aF.trans bC W
 have iO:=dm aG
 have iP:=cz.rowC (i:=0) rfl
 replace bD:c.length≤1000:=bD
 refine Kz (.pointer (some ⟨A,6,none⟩)) ?_
 have fT:=cz.pk [3,0,1,2,4,5,6,7]
 refine dw [.slice l c.length g] 6 fT Tryz.sizeOf33 ?_
 intro jB fU
 refine ns (Mz rfl ?_)
 have fV:=fU.pk [3,0,1,2,4,5,6,7]
 obtain⟨n,X⟩:∃ q,gZ G=q:=⟨_,rfl⟩
 obtain⟨jC,dO,dP,dQ,iQ⟩:=Cg fV
 refine cl Tryz.call59 (nu _ _ z G aW ay n dO (fun w9 I=>aF.rds bA (by decide) bE ((dP _ K) w9 I)) (show G.ae.ls.length≤ay∧G.ae.ls.length≤9223372036854775807 from by omega) X) ?_
 rintro _ jD ⟨y,t,rfl,dR,Y⟩
 have fZ:=dQ _ _ dR
 replace Y:aF 1 aW ay G.ae.ls y t n.ae.ls:=Y
 have iR:=(Y).le
 have dS:aF 1 A0 c0 J y t n.ae.ls:=aF.trans bE Y
 refine nt (BS (sr (Mz rfl ?_)))
 obtain⟨M,Z⟩:∃ q,jN n=q:=⟨_,rfl⟩
 obtain⟨jE,dU,dV,dX,iT⟩:=Cg fZ
 refine cl Tryz.call60 (ny _ _ z n y t M dU (fun w9 I=>aF.rds bA (by decide) dS ((dV _ K) w9 I)) (show n.ae.ls.length≤t∧n.ae.ls.length≤9223372036854775807 from by omega) Z) ?_
 rintro _ jG ⟨rfl,dY⟩
 have N:=dX _ _ dY
 refine Ar rfl (Mz rfl (fw (.bool (decide (¬ (M=0)))) (Cy (e:= !(decide (M=0))) yk decide_not.symm) (nt ?_)))
 by_cases az:M=0
 refine jF (dF (EN az)) (sk (BS (sr (La ([.int .i64 s, .int .u64 ((u:Nat):Int), .int .u64 ((x:Nat):Int), .int .u64 ((r:Nat):Int), .slice h a.length d, .slice j b.length f, .slice l c.length g]) N 1 Tryz.isAgg35 Tryz.sizeOf35 ?_))))
 obtain⟨O,aH⟩:∃ q,dA (bI.mk s u x r (Ll.mk a) (Ll.mk b) (Ll.mk c))=q:=⟨_,rfl⟩
 obtain⟨jH,d9,iU,ed,B⟩:=Ck N
 refine cl Tryz.call13 (lZ _ _ (bI.mk s u x r (Ll.mk a) (Ll.mk b) (Ll.mk c)) h a.length d j b.length f o l c.length g p O d9 rfl (B _ 6 _ rfl eH) (show a.length≤d∧a.length≤9223372036854775807 from by omega) aD rfl (B _ 4 _ rfl eH) (show b.length≤f∧b.length≤9223372036854775807 from by omega) (fun x9 I=>⟨B _ 5 _ rfl (lM (List.mem_flatMap.2 ⟨x9,I, .head _⟩) eH),rR (φ:=fun _=>_) N (i:=5) rfl (lM (List.mem_flatMap.2 ⟨x9,I, .head _⟩) qQ)⟩) aG rfl (B _ 2 _ rfl eH) (show c.length≤g∧c.length≤9223372036854775807 from by omega) (fun x9 I=>⟨B _ 3 _ rfl (lM (List.mem_flatMap.2 ⟨x9,I, .head _⟩) eH),rR (φ:=fun _=>_) N (i:=3) rfl (lM (List.mem_flatMap.2 ⟨x9,I, .head _⟩) qQ),(fun y1 k1=>⟨B _ 3 _ rfl (lM (List.mem_flatMap.2 ⟨x9,I, .tail _ (.head _)⟩) (lM (List.mem_flatMap.2 ⟨y1,k1, .head _⟩) eH)),rR (φ:=fun _=>_) N (i:=3) rfl (lM (List.mem_flatMap.2 ⟨x9,I, .tail _ (.head _)⟩) (lM (List.mem_flatMap.2 ⟨y1,k1, .head _⟩) qQ))⟩)⟩) (by first | omega | (dsimp only; omega) | (simp only [List.length_nil]; omega) | decide) aH) ?_
 rintro _ jK ⟨rfl,eu⟩
 have bF:=ed _ _ eu
 refine Ar rfl (Mz rfl (fw (.bool (decide (¬ (O=0)))) (Cy (e:= !(decide (O=0))) yk decide_not.symm) (nt ?_)))
 by_cases aX:O=0
 refine jF (dF (EN aX)) (sk (sr (La ([.int .i64 s, .int .u64 ((u:Nat):Int), .int .u64 ((x:Nat):Int), .int .u64 ((r:Nat):Int), .slice h a.length d, .slice j b.length f, .slice l c.length g]) bF 1 Tryz.isAgg35 Tryz.sizeOf35 ?_)))
 have gm:=bF.pk [7,0,1,2,3,4,5,6]
 refine dw [.int .i64 s, .int .u64 ((u:Nat):Int), .int .u64 ((x:Nat):Int), .int .u64 ((r:Nat):Int), .slice h a.length d, .slice j b.length f, .slice l c.length g] 0 gm Tryz.sizeOf35 ?_
 intro jL cB
 refine An rfl (rt (CK (nD (vs:= [.agg #[.int .i64 s, .int .u64 ((u:Nat):Int), .int .u64 ((x:Nat):Int), .int .u64 ((r:Nat):Int), .slice h a.length d, .slice j b.length f, .slice l c.length g], .int .i64 0]) rfl (ib.cell rfl (Cu (cs:= [.int .i64 s, .int .u64 ((u:Nat):Int), .int .u64 ((x:Nat):Int), .int .u64 ((r:Nat):Int), .slice h a.length d, .slice j b.length f, .slice l c.length g]) Tryz.isAgg35 Tryz.sizeOf35 ((cB.cls (i:=0) rfl).lit (k:=0) (m:=7) rfl)) (ib.tmp rfl ib.nil)) (EK rfl)) ?_))
 have gp:=cB.pk [7,5,6,3,4]
 have e:gB J=(bI.mk s u x r (Ll.mk a) (Ll.mk b) (Ll.mk c),0):=et (ag aK) (et (ag aM) (et (ag aO) (et (ag aQ) (et (ag P) (et (ag R) (et (ag T) (et (ag V) (et (ag X) (et (ag Z) (et (ip az) (et (ag aH) (ip aX))))))))))))
 obtain⟨rfl,rfl⟩:=iI (e.symm.trans hr)
 exact⟨h,d,j,f,l,g,o,p,rfl,gp,aD,aG,(by first | omega | (dsimp only; omega) | (simp only [List.length_nil]; omega) | decide)⟩
 refine jT (dT aX) (sr (Kz (.agg #[.int .i64 0, .int .u64 0, .int .u64 0, .int .u64 0, .slice none 0 0, .slice none 0 0, .slice none 0 0]) (Mz rfl ?_)))
 have gq:=bF.pk [7,0,1,2,3,4,5,6]
 refine dw [.int .i64 0, .int .u64 0, .int .u64 0, .int .u64 0, .slice none 0 0, .slice none 0 0, .slice none 0 0] 0 gq Tryz.sizeOf35 ?_
 intro aA cK
 refine An rfl (rt (tR (CK (nD (vs:= [.agg #[.int .i64 0, .int .u64 0, .int .u64 0, .int .u64 0, .slice none 0 0, .slice none 0 0, .slice none 0 0], .int .i64 O]) rfl (ib.cell rfl (Cu (cs:= [.int .i64 0, .int .u64 0, .int .u64 0, .int .u64 0, .slice none 0 0, .slice none 0 0, .slice none 0 0]) Tryz.isAgg35 Tryz.sizeOf35 ((cK.cls (i:=0) rfl).lit (k:=0) (m:=7) rfl)) (ib.tmp rfl ib.nil)) (EK rfl)) ?_)))
 have gu:Own w D aA [row none 0 0 (List.flatMap aL.cells ([])) 54 2,blk L [.int .i64 0, .int .u64 0, .int .u64 0, .int .u64 0, .slice none 0 0, .slice none 0 0, .slice none 0 0] 35,blk z [.slice y n.ae.ls.length t, .int .i64 n.aG] 150,blk A [.int .i64 s, .int .u64 ((u:Nat):Int), .int .u64 ((x:Nat):Int), .int .u64 ((r:Nat):Int), .slice h a.length d, .slice j b.length f, .slice l c.length g] 35,row l c.length g (List.flatMap aT.cells p) 84 4,sepL (List.flatMap CQ p),row j b.length f (List.flatMap ax.cells o) 79 5,sepL (List.flatMap CJ o),row h a.length d (List.flatMap aL.cells a) 54 2]:=cK.free (iD 54 2)
 have gy:Own w D aA [sepL (List.flatMap CJ ([])),row none 0 0 (List.flatMap aL.cells ([])) 54 2,blk L [.int .i64 0, .int .u64 0, .int .u64 0, .int .u64 0, .slice none 0 0, .slice none 0 0, .slice none 0 0] 35,blk z [.slice y n.ae.ls.length t, .int .i64 n.aG] 150,blk A [.int .i64 s, .int .u64 ((u:Nat):Int), .int .u64 ((x:Nat):Int), .int .u64 ((r:Nat):Int), .slice h a.length d, .slice j b.length f, .slice l c.length g] 35,row l c.length g (List.flatMap aT.cells p) 84 4,sepL (List.flatMap CQ p),row j b.length f (List.flatMap ax.cells o) 79 5,sepL (List.flatMap CJ o),row h a.length d (List.flatMap aL.cells a) 54 2]:=gu.sepNil
 have gz:Own w D aA [row none 0 0 (List.flatMap ax.cells ([])) 79 5,sepL (List.flatMap CJ ([])),row none 0 0 (List.flatMap aL.cells ([])) 54 2,blk L [.int .i64 0, .int .u64 0, .int .u64 0, .int .u64 0, .slice none 0 0, .slice none 0 0, .slice none 0 0] 35,blk z [.slice y n.ae.ls.length t, .int .i64 n.aG] 150,blk A [.int .i64 s, .int .u64 ((u:Nat):Int), .int .u64 ((x:Nat):Int), .int .u64 ((r:Nat):Int), .slice h a.length d, .slice j b.length f, .slice l c.length g] 35,row l c.length g (List.flatMap aT.cells p) 84 4,sepL (List.flatMap CQ p),row j b.length f (List.flatMap ax.cells o) 79 5,sepL (List.flatMap CJ o),row h a.length d (List.flatMap aL.cells a) 54 2]:=gy.free (iD 79 5)
 have gF:Own w D aA [sepL (List.flatMap CQ ([])),row none 0 0 (List.flatMap ax.cells ([])) 79 5,sepL (List.flatMap CJ ([])),row none 0 0 (List.flatMap aL.cells ([])) 54 2,blk L [.int .i64 0, .int .u64 0, .int .u64 0, .int .u64 0, .slice none 0 0, .slice none 0 0, .slice none 0 0] 35,blk z [.slice y n.ae.ls.length t, .int .i64 n.aG] 150,blk A [.int .i64 s, .int .u64 ((u:Nat):Int), .int .u64 ((x:Nat):Int), .int .u64 ((r:Nat):Int), .slice h a.length d, .slice j b.length f, .slice l c.length g] 35,row l c.length g (List.flatMap aT.cells p) 84 4,sepL (List.flatMap CQ p),row j b.length f (List.flatMap ax.cells o) 79 5,sepL (List.flatMap CJ o),row h a.length d (List.flatMap aL.cells a) 54 2]:=gz.sepNil
 have gG:Own w D aA [row none 0 0 (List.flatMap aT.cells ([])) 84 4,sepL (List.flatMap CQ ([])),row none 0 0 (List.flatMap ax.cells ([])) 79 5,sepL (List.flatMap CJ ([])),row none 0 0 (List.flatMap aL.cells ([])) 54 2,blk L [.int .i64 0, .int .u64 0, .int .u64 0, .int .u64 0, .slice none 0 0, .slice none 0 0, .slice none 0 0] 35,blk z [.slice y n.ae.ls.length t, .int .i64 n.aG] 150,blk A [.int .i64 s, .int .u64 ((u:Nat):Int), .int .u64 ((x:Nat):Int), .int .u64 ((r:Nat):Int), .slice h a.length d, .slice j b.length f, .slice l c.length g] 35,row l c.length g (List.flatMap aT.cells p) 84 4,sepL (List.flatMap CQ p),row j b.length f (List.flatMap ax.cells o) 79 5,sepL (List.flatMap CJ o),row h a.length d (List.flatMap aL.cells a) 54 2]:=gF.free (iD 84 4)
 have gH:=gG.pk [4,2,3,0,1]
 have e:gB J=(bI.mk 0 0 0 0 (Ll.mk ([])) (Ll.mk ([])) (Ll.mk ([])),O):=et (ag aK) (et (ag aM) (et (ag aO) (et (ag aQ) (et (ag P) (et (ag R) (et (ag T) (et (ag V) (et (ag X) (et (ag Z) (et (ip az) (et (ag aH) (iN aX))))))))))))
 obtain⟨rfl,rfl⟩:=iI (e.symm.trans hr)
 exact⟨none,0,none,0,none,0, [], [],rfl,gH,rfl,rfl,(by first | omega | (dsimp only; omega) | (simp only [List.length_nil]; omega) | decide)⟩
 refine jT (dT az) (sr (Kz (.agg #[.int .i64 0, .int .u64 0, .int .u64 0, .int .u64 0, .slice none 0 0, .slice none 0 0, .slice none 0 0]) (Mz rfl ?_)))
 have gI:=N.pk [7,0,1,2,3,4,5,6]
 refine dw [.int .i64 0, .int .u64 0, .int .u64 0, .int .u64 0, .slice none 0 0, .slice none 0 0, .slice none 0 0] 0 gI Tryz.sizeOf35 ?_
 intro aB cO
 refine An rfl (rt (tR (CK (nD (vs:= [.agg #[.int .i64 0, .int .u64 0, .int .u64 0, .int .u64 0, .slice none 0 0, .slice none 0 0, .slice none 0 0], .int .i64 M]) rfl (ib.cell rfl (Cu (cs:= [.int .i64 0, .int .u64 0, .int .u64 0, .int .u64 0, .slice none 0 0, .slice none 0 0, .slice none 0 0]) Tryz.isAgg35 Tryz.sizeOf35 ((cO.cls (i:=0) rfl).lit (k:=0) (m:=7) rfl)) (ib.tmp rfl ib.nil)) (EK rfl)) ?_)))
 have gJ:Own w D aB [row none 0 0 (List.flatMap aL.cells ([])) 54 2,blk L [.int .i64 0, .int .u64 0, .int .u64 0, .int .u64 0, .slice none 0 0, .slice none 0 0, .slice none 0 0] 35,blk z [.slice y n.ae.ls.length t, .int .i64 n.aG] 150,blk A [.int .i64 s, .int .u64 ((u:Nat):Int), .int .u64 ((x:Nat):Int), .int .u64 ((r:Nat):Int), .slice h a.length d, .slice j b.length f, .slice l c.length g] 35,row l c.length g (List.flatMap aT.cells p) 84 4,sepL (List.flatMap CQ p),row j b.length f (List.flatMap ax.cells o) 79 5,sepL (List.flatMap CJ o),row h a.length d (List.flatMap aL.cells a) 54 2]:=cO.free (iD 54 2)
 have gK:Own w D aB [sepL (List.flatMap CJ ([])),row none 0 0 (List.flatMap aL.cells ([])) 54 2,blk L [.int .i64 0, .int .u64 0, .int .u64 0, .int .u64 0, .slice none 0 0, .slice none 0 0, .slice none 0 0] 35,blk z [.slice y n.ae.ls.length t, .int .i64 n.aG] 150,blk A [.int .i64 s, .int .u64 ((u:Nat):Int), .int .u64 ((x:Nat):Int), .int .u64 ((r:Nat):Int), .slice h a.length d, .slice j b.length f, .slice l c.length g] 35,row l c.length g (List.flatMap aT.cells p) 84 4,sepL (List.flatMap CQ p),row j b.length f (List.flatMap ax.cells o) 79 5,sepL (List.flatMap CJ o),row h a.length d (List.flatMap aL.cells a) 54 2]:=gJ.sepNil
 have gL:Own w D aB [row none 0 0 (List.flatMap ax.cells ([])) 79 5,sepL (List.flatMap CJ ([])),row none 0 0 (List.flatMap aL.cells ([])) 54 2,blk L [.int .i64 0, .int .u64 0, .int .u64 0, .int .u64 0, .slice none 0 0, .slice none 0 0, .slice none 0 0] 35,blk z [.slice y n.ae.ls.length t, .int .i64 n.aG] 150,blk A [.int .i64 s, .int .u64 ((u:Nat):Int), .int .u64 ((x:Nat):Int), .int .u64 ((r:Nat):Int), .slice h a.length d, .slice j b.length f, .slice l c.length g] 35,row l c.length g (List.flatMap aT.cells p) 84 4,sepL (List.flatMap CQ p),row j b.length f (List.flatMap ax.cells o) 79 5,sepL (List.flatMap CJ o),row h a.length d (List.flatMap aL.cells a) 54 2]:=gK.free (iD 79 5)
 have gM:Own w D aB [sepL (List.flatMap CQ ([])),row none 0 0 (List.flatMap ax.cells ([])) 79 5,sepL (List.flatMap CJ ([])),row none 0 0 (List.flatMap aL.cells ([])) 54 2,blk L [.int .i64 0, .int .u64 0, .int .u64 0, .int .u64 0, .slice none 0 0, .slice none 0 0, .slice none 0 0] 35,blk z [.slice y n.ae.ls.length t, .int .i64 n.aG] 150,blk A [.int .i64 s, .int .u64 ((u:Nat):Int), .int .u64 ((x:Nat):Int), .int .u64 ((r:Nat):Int), .slice h a.length d, .slice j b.length f, .slice l c.length g] 35,row l c.length g (List.flatMap aT.cells p) 84 4,sepL (List.flatMap CQ p),row j b.length f (List.flatMap ax.cells o) 79 5,sepL (List.flatMap CJ o),row h a.length d (List.flatMap aL.cells a) 54 2]:=gL.sepNil
 have gN:Own w D aB [row none 0 0 (List.flatMap aT.cells ([])) 84 4,sepL (List.flatMap CQ ([])),row none 0 0 (List.flatMap ax.cells ([])) 79 5,sepL (List.flatMap CJ ([])),row none 0 0 (List.flatMap aL.cells ([])) 54 2,blk L [.int .i64 0, .int .u64 0, .int .u64 0, .int .u64 0, .slice none 0 0, .slice none 0 0, .slice none 0 0] 35,blk z [.slice y n.ae.ls.length t, .int .i64 n.aG] 150,blk A [.int .i64 s, .int .u64 ((u:Nat):Int), .int .u64 ((x:Nat):Int), .int .u64 ((r:Nat):Int), .slice h a.length d, .slice j b.length f, .slice l c.length g] 35,row l c.length g (List.flatMap aT.cells p) 84 4,sepL (List.flatMap CQ p),row j b.length f (List.flatMap ax.cells o) 79 5,sepL (List.flatMap CJ o),row h a.length d (List.flatMap aL.cells a) 54 2]:=gM.free (iD 84 4)
 have gP:=gN.pk [4,2,3,0,1]
 have e:gB J=(bI.mk 0 0 0 0 (Ll.mk ([])) (Ll.mk ([])) (Ll.mk ([])),M):=et (ag aK) (et (ag aM) (et (ag aO) (et (ag aQ) (et (ag P) (et (ag R) (et (ag T) (et (ag V) (et (ag X) (et (ag Z) (iN az))))))))))
 obtain⟨rfl,rfl⟩:=iI (e.symm.trans hr)
 exact⟨none,0,none,0,none,0, [], [],rfl,gP,rfl,rfl,(by first | omega | (dsimp only; omega) | (simp only [List.length_nil]; omega) | decide)⟩
end Go.Proofs.YtcnkpjheifkgnaaGreat
