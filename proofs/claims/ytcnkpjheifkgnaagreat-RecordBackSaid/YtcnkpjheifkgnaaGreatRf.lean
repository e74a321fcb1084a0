/-
 record: the coordinator's state of bytes.
-/
import Derived.Test.YtcnkpjheifkgnaaGreatRe
namespace Go.Proofs.YtcnkpjheifkgnaaGreat
set_option maxRecDepth 100000
open Go.RowKit
set_option linter.unusedVariables false
set_option linter.unusedSectionVars false
set_option linter.unusedSimpArgs false
def cB (p1:Int):Nat→List bO→Nat→List UInt8→Int→(List bO) × (List UInt8) × Int
  | 0,c,e,d,a=>default
  | f+1,c,e,d,a=>if((e:Nat):Int) < p1 then if a=0 then bnd (gK (ReaderT.mk (Ll.mk d) a)) fun b=>cB p1 f (c++ [b.1]) (e+1) b.2.aa.ls b.2.av else(c,d,a) else(c,d,a)
def gV (a:ReaderT) (p1:Int):(List bO) × ReaderT:=
 bnd (bnd (cB p1 ((Int.toNat p1 - 0)+1) ([]) 0 a.aa.ls a.av) fun sLrJjL=>(sLrJjL.1,sLrJjL.2.1,sLrJjL.2.2)) fun sJrJ=>(sJrJ.1,ReaderT.mk (Ll.mk sJrJ.2.1) sJrJ.2.2)
theorem lT (w:World) (D:Nat→Prop) (x:Nat) (d:ReaderT) (b:Option Addr) (c:Nat) (p1:Int) (r0:List bO) (r1:ReaderT) (H:Own w D w [blk x [.slice b d.aa.ls.length c, .int .i64 d.av] 150]) (af:Ro w D fun w'=>bn w' 1 b d.aa.ls.length (List.flatMap eB d.aa.ls)) (aR:d.aa.ls.length≤c∧d.aa.ls.length≤9223372036854775807) (bR:p1≤1000) (hr:gV d p1=(r0,r1)):
    Calls Tryz.prog 100 #[.pointer (some ⟨x,0,none⟩), .int .i64 p1, .func (.func 64) #[] #[]] w (dE fun v w'=> ∃ (B0:Option Addr) (b0:Nat) (e0:List ak) (B1ox0:Option Addr) (b1ox0:Nat),v= .slice B0 r0.length b0∧Own w D w' [row B0 r0.length b0 (List.flatMap ak.cells e0) 79 5,sepL (List.flatMap zL e0),blk x [.slice B1ox0 r1.aa.ls.length b1ox0, .int .i64 r1.av] 150]∧(List.map zz e0=r0)∧(ay 1 b c d.aa.ls B1ox0 b1ox0 r1.aa.ls)∧(r0.length≤1000)):=by
 refine zg (args:= [.pointer (some ⟨x,0,none⟩), .int .i64 p1, .func (.func 64) #[] #[]]) Tryz.func100 rfl rfl rfl ?_
 show Wp _ _ _ [(0, .pointer (some ⟨x,0,none⟩)),(1, .int .i64 p1),(2, .func (.func 64) #[] #[])] _ _
 refine sr (Ar rfl (An rfl (ze (sr (An rfl ?_)))))
 obtain⟨av,ax⟩:∃ q:((Option Addr) × Nat × (List ak) × (List bO) × (Option Addr) × Nat × (List UInt8) × Int)→World→Prop,q=fun(i:(Option Addr) × Nat × (List ak) × (List bO) × (Option Addr) × Nat × (List UInt8) × Int) w'=>Own w D w' [blk x [.slice i.2.2.2.2.1 i.2.2.2.2.2.2.1.length i.2.2.2.2.2.1, .int .i64 i.2.2.2.2.2.2.2] 150,row i.1 i.2.2.2.1.length i.2.1 (List.flatMap ak.cells i.2.2.1) 79 5,sepL (List.flatMap zL i.2.2.1)]∧(List.map zz i.2.2.1=i.2.2.2.1∧ay 1 b c d.aa.ls i.2.2.2.2.1 i.2.2.2.2.2.1 i.2.2.2.2.2.2.1∧0≤i.2.2.2.1.length∧i.2.2.2.2.2.2.1.length≤d.aa.ls.length∧i.2.2.2.2.2.2.1.length≤d.aa.ls.length+1∧i.2.2.2.1.length≤1000∧(bnd (cB p1 ((Int.toNat p1 - 0)+1) ([]) 0 d.aa.ls d.av) fun sLrJjL=>(sLrJjL.1,sLrJjL.2.1,sLrJjL.2.2))=(i.2.2.2.1,i.2.2.2.2.2.2.1,i.2.2.2.2.2.2.2)):=⟨_,rfl⟩
 have L:∀ {M:Option Addr} {N:Nat} {G:List ak} {t:List bO} {O:Option Addr} {P:Nat} {z:List UInt8} {Q:Int} {w':World},av (M,N,G,t,O,P,z,Q) w'↔Own w D w' [blk x [.slice O z.length P, .int .i64 Q] 150,row M t.length N (List.flatMap ak.cells G) 79 5,sepL (List.flatMap zL G)]∧List.map zz G=t∧ay 1 b c d.aa.ls O P z∧0≤t.length∧z.length≤d.aa.ls.length∧z.length≤d.aa.ls.length+1∧t.length≤1000∧(bnd (cB p1 ((Int.toNat p1 - 0)+1) ([]) 0 d.aa.ls d.av) fun sLrJjL=>(sLrJjL.1,sLrJjL.2.1,sLrJjL.2.2))=(t,z,Q):=by intros; subst ax; exact Iff.rfl
 refine Ae (fun i:(Option Addr) × Nat × (List ak) × (List bO) × (Option Addr) × Nat × (List UInt8) × Int=> [(7, .slice i.1 i.2.2.2.1.length i.2.1),(6, .slice none 0 0)]) av ?_ ?_
 refine bo ?_
 have aT:Own w D w [sepL (List.flatMap zL ([])),blk x [.slice b d.aa.ls.length c, .int .i64 d.av] 150]:=H.sepNil
 have aU:Own w D w [row none 0 0 (List.flatMap ak.cells ([])) 79 5,sepL (List.flatMap zL ([])),blk x [.slice b d.aa.ls.length c, .int .i64 d.av] 150]:=aT.free (gX 79 5)
 have aV:=aU.pk [2,0,1]
 obtain⟨az,aA⟩:∃ q:((Option Addr) × Nat × (List ak) × (List bO) × Nat × (Option Addr) × Nat × (List UInt8) × Int × Nat)→World→Prop,q=fun(i:(Option Addr) × Nat × (List ak) × (List bO) × Nat × (Option Addr) × Nat × (List UInt8) × Int × Nat) w'=>Own w D w' [blk x [.slice i.2.2.2.2.2.1 i.2.2.2.2.2.2.2.1.length i.2.2.2.2.2.2.1, .int .i64 i.2.2.2.2.2.2.2.2.1] 150,row i.1 i.2.2.2.1.length i.2.1 (List.flatMap ak.cells i.2.2.1) 79 5,sepL (List.flatMap zL i.2.2.1)]∧(List.map zz i.2.2.1=i.2.2.2.1∧ay 1 b c d.aa.ls i.2.2.2.2.2.1 i.2.2.2.2.2.2.1 i.2.2.2.2.2.2.2.1∧i.2.2.2.1.length≤i.2.2.2.2.1∧(i.2.2.2.2.1=0∨((i.2.2.2.2.1:Nat):Int)≤p1)∧Int.toNat p1 - i.2.2.2.2.1 < i.2.2.2.2.2.2.2.2.2∧cB p1 ((Int.toNat p1 - 0)+1) ([]) 0 d.aa.ls d.av=cB p1 i.2.2.2.2.2.2.2.2.2 i.2.2.2.1 i.2.2.2.2.1 i.2.2.2.2.2.2.2.1 i.2.2.2.2.2.2.2.2.1):=⟨_,rfl⟩
 have R:∀ {I:Option Addr} {J:Nat} {o:List ak} {g:List bO} {j:Nat} {A:Option Addr} {u:Nat} {l:List UInt8} {n:Int} {K:Nat} {w':World},az (I,J,o,g,j,A,u,l,n,K) w'↔Own w D w' [blk x [.slice A l.length u, .int .i64 n] 150,row I g.length J (List.flatMap ak.cells o) 79 5,sepL (List.flatMap zL o)]∧List.map zz o=g∧ay 1 b c d.aa.ls A u l∧g.length≤j∧(j=0∨((j:Nat):Int)≤p1)∧Int.toNat p1 - j < K∧cB p1 ((Int.toNat p1 - 0)+1) ([]) 0 d.aa.ls d.av=cB p1 K g j l n:=by intros; subst aA; exact Iff.rfl
 refine Wp.loop (fun i:(Option Addr) × Nat × (List ak) × (List bO) × Nat × (Option Addr) × Nat × (List UInt8) × Int × Nat=> [(7, .slice i.1 i.2.2.2.1.length i.2.1),(8, .int .i64 ((i.2.2.2.2.1:Nat):Int)),(6, .slice none 0 0),(0, .pointer (some ⟨x,0,none⟩)),(1, .int .i64 p1),(2, .func (.func 64) #[] #[])]) az (fun i=>i.2.2.2.2.2.2.2.2.2) (none,0, [], [],0,b,c,d.aa.ls,d.av,(Int.toNat p1 - 0)+1) ⟨rfl,rfl,rfl,rfl,rfl,rfl,trivial⟩ (R.2 ⟨aV,(show List.map zz ([])=([])∧ay 1 b c d.aa.ls b c d.aa.ls∧0≤0∧(0=0∨((0:Nat):Int)≤p1)∧Int.toNat p1 - 0 < ((Int.toNat p1 - 0)+1)∧cB p1 ((Int.toNat p1 - 0)+1) ([]) 0 d.aa.ls d.av=cB p1 ((Int.toNat p1 - 0)+1) ([]) 0 d.aa.ls d.av from ⟨by exact rfl,by exact(ay.refl (by omega)),by omega,by omega,by omega,rfl⟩)⟩) ?_
 rintro ⟨I,J,o,g,j,A,u,l,n,K⟩ bT aB
 show Wp _ _ _ [(7, .slice I g.length J),(8, .int .i64 ((j:Nat):Int)),(6, .slice none 0 0),(0, .pointer (some ⟨x,0,none⟩)),(1, .int .i64 p1),(2, .func (.func 64) #[] #[])] _ _
 obtain⟨V,B,C,bF,bG,bH,S⟩:=R.1 aB
 have bI:=bS B
 have bJ:=(C).le
 obtain⟨ag,aC⟩:∃ q,K=q+1:=⟨K - 1,by omega⟩
 subst aC
 refine ze (sr (Mz rfl (Mz rfl (Kz (.bool (decide (((j:Nat):Int) < p1))) (Mz rfl ?_)))))
 by_cases h:((j:Nat):Int) < p1
 refine gw (.pointer (some ⟨x,0,none⟩)) (dT h) (zo rfl) (Gz (.pointer (some ⟨x,0,none⟩)) (dT h) (Gz (.pointer (some ⟨x,1,none⟩)) (dT h) (Gl (.int .i64 n) (dT h) V 0 Tryz.isAgg38 (Gz (.bool (decide (n=0))) (dT h) (fw (.bool (decide (n=0))) (zf rfl (dT h) rfl) (nt ?_))))))
 by_cases W:n=0
 refine jT (dT W) (sk (ze (bo (zb (Mz rfl (Mz rfl (Mz rfl ?_)))))))
 obtain⟨⟨a,E⟩,Z⟩:∃ q:bO × ReaderT,gK (ReaderT.mk (Ll.mk l) n)=q:=⟨_,rfl⟩
 obtain⟨bU,aD,aF,aG,bK⟩:=zx V
 refine WL.do rfl (zK Tryz.call64 rfl rfl (ny _ _ x (ReaderT.mk (Ll.mk l) n) A u a E aD (fun w9 h9=>ay.rds bi (by decide) C ((aF _ af) w9 h9)) (show l.length≤u∧l.length≤9223372036854775807 from by omega) Z) ?_)
 rintro _ bX ⟨p,r,X,Y,rfl,aH,F,aa⟩
 have aI:=aG _ _ aH
 replace F:ay 1 A u l X Y E.aa.ls:=F
 have bL:=(F).le
 have aJ:ay 1 b c d.aa.ls X Y E.aa.ls:=ay.trans C F
 have bM:=aI.rowC (i:=0) rfl
 replace aa:a.af.ls.length≤1000:=aa
 refine kF [.int .u64 ((a.aS:Nat):Int), .int .i64 a.aC, .int .u64 ((a.au:Nat):Int), .int .u64 ((a.bB:Nat):Int), .slice p a.af.ls.length r] 79 5 1 aI ?_
 intro aK bY ah
 replace ah:=zY (y:=row aK 1 1 (List.flatMap ak.cells ([(ak.mk a.aS a.aC a.au a.bB (Sv.mk p r a.af.ls))])) 79 5) rfl ah
 have aL:=ah.pk [3,4,1,0,2]
 refine WL.do rfl (Aa (k:=g.length) (m:=1) (qE) aL rfl rfl (j3 Tryz.underlying32 (aL.rds (i:=3) rfl) (jA ak.one ([(ak.mk a.aS a.aC a.au a.bB (Sv.mk p r a.af.ls))]))) rfl (by omega) (s:=List.length (g++ [a])) (by first | omega | (simp only [List.length_append,List.length_cons,List.length_nil] <;> omega)) (List.flatMap_append).symm ?_)
 intro aM aN aW aX
 have aY:=aX.pk [1,2,0,3,4]
 have aZ:Own w D aW [sepL (List.flatMap zL (o++ [(ak.mk a.aS a.aC a.au a.bB (Sv.mk p r a.af.ls))])),row aM (List.length (g++ [a])) aN (List.flatMap ak.cells (o++ [(ak.mk a.aS a.aC a.au a.bB (Sv.mk p r a.af.ls))])) 79 5,row aK 1 1 (List.flatMap ak.cells ([(ak.mk a.aS a.aC a.au a.bB (Sv.mk p r a.af.ls))])) 79 5,blk x [.slice X E.aa.ls.length Y, .int .i64 E.av] 150]:=aY.sepAdd (L2:= [row p a.af.ls.length r (List.flatMap (eI .i64) a.af.ls) 3 1]) (List.flatMap_append (f:=zL) (xs:=o) (ys:= [(ak.mk a.aS a.aC a.au a.bB (Sv.mk p r a.af.ls))])).symm
 have bP:List.length (g++ [a])=g.length+1:=by simp only [List.length_append,List.length_cons,List.length_nil]
 have bQ:=bS (lq (es:= [(ak.mk a.aS a.aC a.au a.bB (Sv.mk p r a.af.ls))]) (ms:= [a]) B rfl)
 refine Az rfl (zq (bN (zu (zb (Mz rfl (fw (.int .i64 ((j+1:Nat):Int)) (zy (e:=IntKind.i64.wrap (((j:Nat):Int)+1)) yk (by rw [Cb _ (by omega)]; omega)) (Az rfl (zq ?_))))))))
 have bf:=aZ.pk [3,1,0]
 exact zH (aM,aN,(o++ [(ak.mk a.aS a.aC a.au a.bB (Sv.mk p r a.af.ls))]),(g++ [a]),j+1,X,Y,E.aa.ls,E.av,ag) ⟨rfl,rfl,rfl,rfl,rfl,rfl,trivial⟩ (R.2 ⟨bf,by exact(lq (es:= [(ak.mk a.aS a.aC a.au a.bB (Sv.mk p r a.af.ls))]) (ms:= [a]) B rfl),by exact aJ,by omega,by omega,by omega,et (S) (et (ip h) (et (ip W) (ae Z)))⟩) (by show ag < ag+1; omega)
 refine jF (dF W) (Wp.exit (zk (zk (zA ?_))))
 have bg:=V.pk [0,1,2]
 exact zU (I,J,o,g,A,u,l,n) ⟨rfl,rfl,trivial⟩ (L.2 ⟨bg,by exact B,by exact C,by omega,by omega,by omega,by omega,ae (et (S) (et (ip h) (iN W)))⟩)
 refine Sz (dF h) (Sz (dF h) (Sz (dF h) (Sz (dF h) (Sz (dF h) (fw (.bool false) (zh rfl (dF h) rfl) (nt (jf (Wp.exit (zk (zk (zA ?_)))))))))))
 have bq:=V.pk [0,1,2]
 exact zU (I,J,o,g,A,u,l,n) ⟨rfl,rfl,trivial⟩ (L.2 ⟨bq,by exact B,by exact C,by omega,by omega,by omega,by omega,ae (et (S) (iN h))⟩)
 rintro ⟨M,N,G,t,O,P,z,Q⟩ bZ ai
 show Wp _ _ _ [(7, .slice M t.length N),(6, .slice none 0 0)] _ _
 obtain⟨aO,T,U,bu,bv,bz,bA,aj⟩:=L.1 ai
 have bB:=bS T
 have bC:=(U).le
 refine sr (Mz rfl (An rfl (rt (rs ?_))))
 have aP:=aO.pk [1,2,0]
 have e:gV d p1=(t,ReaderT.mk (Ll.mk z) Q):=ae aj
 obtain⟨rfl,rfl⟩:=ig (e.symm.trans hr)
 exact⟨M,N,G,O,P,rfl,aP,T,U,(by omega)⟩
def eQ (c:ReaderT) (p1:Nat):(List bO) × ReaderT:=
 bnd (aI c p1) fun a=>bnd (gV a.2 ((a.1:Nat):Int)) fun b=>(b.1,b.2)
theorem lZ (w:World) (D:Nat→Prop) (s:Nat) (d:ReaderT) (b:Option Addr) (a:Nat) (p1:Nat) (z:List bO) (M:ReaderT) (H:Own w D w [blk s [.slice b d.aa.ls.length a, .int .i64 d.av] 150]) (j:Ro w D fun w'=>bn w' 1 b d.aa.ls.length (List.flatMap eB d.aa.ls)) (N:d.aa.ls.length≤a∧d.aa.ls.length≤9223372036854775807) (ag:p1≤1000) (hr:eQ d p1=(z,M)):
    Calls Tryz.prog 63 #[.pointer (some ⟨s,0,none⟩), .int .u64 ((p1:Nat):Int), .func (.func 64) #[] #[]] w (dE fun v w'=> ∃ (U:Option Addr) (V:Nat) (O:List ak) (B1ox0:Option Addr) (b1ox0:Nat),v= .slice U z.length V∧Own w D w' [row U z.length V (List.flatMap ak.cells O) 79 5,sepL (List.flatMap zL O),blk s [.slice B1ox0 M.aa.ls.length b1ox0, .int .i64 M.av] 150]∧(List.map zz O=z)∧(ay 1 b a d.aa.ls B1ox0 b1ox0 M.aa.ls)∧(z.length≤1000)):=by
 refine zg (args:= [.pointer (some ⟨s,0,none⟩), .int .u64 ((p1:Nat):Int), .func (.func 64) #[] #[]]) Tryz.func63 rfl rfl rfl ?_
 show Wp _ _ _ [(0, .pointer (some ⟨s,0,none⟩)),(1, .int .u64 ((p1:Nat):Int)),(2, .func (.func 64) #[] #[])] _ _
 refine sr (Ar rfl (Mz rfl (Mz rfl (Mz rfl ?_))))
 obtain⟨⟨h,f⟩,m⟩:∃ q:Nat × ReaderT,aI d p1=q:=⟨_,rfl⟩
 obtain⟨ah,A,B,C,W⟩:=zx H
 refine cl Tryz.call93 (eT _ _ s d b a p1 h f A (B _ j) (show d.aa.ls.length≤a∧d.aa.ls.length≤9223372036854775807 from by omega) m) ?_
 rintro _ ai ⟨t,k,rfl,E,c,n⟩
 have P:=C _ _ E
 replace c:ay 1 b a d.aa.ls t k f.aa.ls:=c
 have X:=(c).le
 replace n:h≤p1:=n
 refine fw (.int .i64 ((h:Nat):Int)) (zy (e:=IntKind.i64.wrap ((h:Nat):Int)) yk (Cb _ (by omega))) (Mz rfl ?_)
 obtain⟨⟨u,l⟩,o⟩:∃ q:(List bO) × ReaderT,gV f ((h:Nat):Int)=q:=⟨_,rfl⟩
 obtain⟨aj,F,G,I,Y⟩:=zx P
 refine cl Tryz.call100 (lT _ _ s f t k ((h:Nat):Int) u l F (fun w9 h9=>ay.rds bi (by decide) c ((G _ j) w9 h9)) (show f.aa.ls.length≤k∧f.aa.ls.length≤9223372036854775807 from by omega) (by omega) o) ?_
 rintro _ ax ⟨Q,R,S,x,y,rfl,J,p,g,r⟩
 have K:=I _ _ J
 replace g:ay 1 t k f.aa.ls x y l.aa.ls:=g
 have Z:=(g).le
 have L:ay 1 b a d.aa.ls x y l.aa.ls:=ay.trans c g
 have aa:=bS p
 have af:=K.rowC (i:=0) rfl
 replace r:u.length≤1000:=r
 refine An rfl (rt (rs ?_))
 have T:=K.pk [0,1,2]
 have e:eQ d p1=(u,l):=et (ae m) (ae o)
 obtain⟨rfl,rfl⟩:=ig (e.symm.trans hr)
 exact⟨Q,R,S,x,y,rfl,T,p,L,(by omega)⟩
def dL (p1:Int):Nat→List eD→Nat→List UInt8→Int→(List eD) × (List UInt8) × Int
  | 0,c,e,d,a=>default
  | f+1,c,e,d,a=>if((e:Nat):Int) < p1 then if a=0 then bnd (iE (ReaderT.mk (Ll.mk d) a)) fun b=>dL p1 f (c++ [b.1]) (e+1) b.2.aa.ls b.2.av else(c,d,a) else(c,d,a)
def iG (a:ReaderT) (p1:Int):(List eD) × ReaderT:=
 bnd (bnd (dL p1 ((Int.toNat p1 - 0)+1) ([]) 0 a.aa.ls a.av) fun sLrJjL=>(sLrJjL.1,sLrJjL.2.1,sLrJjL.2.2)) fun sJrJ=>(sJrJ.1,ReaderT.mk (Ll.mk sJrJ.2.1) sJrJ.2.2)
theorem mM (w:World) (D:Nat→Prop) (u:Nat) (g:ReaderT) (b:Option Addr) (c:Nat) (p1:Int) (r0:List eD) (r1:ReaderT) (H:Own w D w [blk u [.slice b g.aa.ls.length c, .int .i64 g.av] 150]) (ai:Ro w D fun w'=>bn w' 1 b g.aa.ls.length (List.flatMap eB g.aa.ls)) (aZ:g.aa.ls.length≤c∧g.aa.ls.length≤9223372036854775807) (bZ:p1≤1000) (hr:iG g p1=(r0,r1)):
    Calls Tryz.prog 102 #[.pointer (some ⟨u,0,none⟩), .int .i64 p1, .func (.func 66) #[] #[]] w (dE fun v w'=> ∃ (B0:Option Addr) (b0:Nat) (e0:List aM) (B1ox0:Option Addr) (b1ox0:Nat),v= .slice B0 r0.length b0∧Own w D w' [row B0 r0.length b0 (List.flatMap aM.cells e0) 84 4,sepL (List.flatMap zQ e0),blk u [.slice B1ox0 r1.aa.ls.length b1ox0, .int .i64 r1.av] 150]∧(List.map zM e0=r0)∧(ay 1 b c g.aa.ls B1ox0 b1ox0 r1.aa.ls)∧(r0.length≤1000)):=by
 refine zg (args:= [.pointer (some ⟨u,0,none⟩), .int .i64 p1, .func (.func 66) #[] #[]]) Tryz.func102 rfl rfl rfl ?_
 show Wp _ _ _ [(0, .pointer (some ⟨u,0,none⟩)),(1, .int .i64 p1),(2, .func (.func 66) #[] #[])] _ _
 refine sr (Ar rfl (An rfl (ze (sr (An rfl ?_)))))
 obtain⟨aD,aF⟩:∃ q:((Option Addr) × Nat × (List aM) × (List eD) × (Option Addr) × Nat × (List UInt8) × Int)→World→Prop,q=fun(i:(Option Addr) × Nat × (List aM) × (List eD) × (Option Addr) × Nat × (List UInt8) × Int) w'=>Own w D w' [blk u [.slice i.2.2.2.2.1 i.2.2.2.2.2.2.1.length i.2.2.2.2.2.1, .int .i64 i.2.2.2.2.2.2.2] 150,row i.1 i.2.2.2.1.length i.2.1 (List.flatMap aM.cells i.2.2.1) 84 4,sepL (List.flatMap zQ i.2.2.1)]∧(List.map zM i.2.2.1=i.2.2.2.1∧ay 1 b c g.aa.ls i.2.2.2.2.1 i.2.2.2.2.2.1 i.2.2.2.2.2.2.1∧0≤i.2.2.2.1.length∧i.2.2.2.2.2.2.1.length≤g.aa.ls.length∧i.2.2.2.2.2.2.1.length≤g.aa.ls.length+1∧i.2.2.2.1.length≤1000∧(bnd (dL p1 ((Int.toNat p1 - 0)+1) ([]) 0 g.aa.ls g.av) fun sLrJjL=>(sLrJjL.1,sLrJjL.2.1,sLrJjL.2.2))=(i.2.2.2.1,i.2.2.2.2.2.2.1,i.2.2.2.2.2.2.2)):=⟨_,rfl⟩
 have N:∀ {O:Option Addr} {P:Nat} {J:List aM} {x:List eD} {Q:Option Addr} {R:Nat} {B:List UInt8} {S:Int} {w':World},aD (O,P,J,x,Q,R,B,S) w'↔Own w D w' [blk u [.slice Q B.length R, .int .i64 S] 150,row O x.length P (List.flatMap aM.cells J) 84 4,sepL (List.flatMap zQ J)]∧List.map zM J=x∧ay 1 b c g.aa.ls Q R B∧0≤x.length∧B.length≤g.aa.ls.length∧B.length≤g.aa.ls.length+1∧x.length≤1000∧(bnd (dL p1 ((Int.toNat p1 - 0)+1) ([]) 0 g.aa.ls g.av) fun sLrJjL=>(sLrJjL.1,sLrJjL.2.1,sLrJjL.2.2))=(x,B,S):=by intros; subst aF; exact Iff.rfl
 refine Ae (fun i:(Option Addr) × Nat × (List aM) × (List eD) × (Option Addr) × Nat × (List UInt8) × Int=> [(7, .slice i.1 i.2.2.2.1.length i.2.1),(6, .slice none 0 0)]) aD ?_ ?_
 refine bo ?_
 have bg:Own w D w [sepL (List.flatMap zQ ([])),blk u [.slice b g.aa.ls.length c, .int .i64 g.av] 150]:=H.sepNil
 have bq:Own w D w [row none 0 0 (List.flatMap aM.cells ([])) 84 4,sepL (List.flatMap zQ ([])),blk u [.slice b g.aa.ls.length c, .int .i64 g.av] 150]:=bg.free (gX 84 4)
 have bu:=bq.pk [2,0,1]
 obtain⟨aG,aH⟩:∃ q:((Option Addr) × Nat × (List aM) × (List eD) × Nat × (Option Addr) × Nat × (List UInt8) × Int × Nat)→World→Prop,q=fun(i:(Option Addr) × Nat × (List aM) × (List eD) × Nat × (Option Addr) × Nat × (List UInt8) × Int × Nat) w'=>Own w D w' [blk u [.slice i.2.2.2.2.2.1 i.2.2.2.2.2.2.2.1.length i.2.2.2.2.2.2.1, .int .i64 i.2.2.2.2.2.2.2.2.1] 150,row i.1 i.2.2.2.1.length i.2.1 (List.flatMap aM.cells i.2.2.1) 84 4,sepL (List.flatMap zQ i.2.2.1)]∧(List.map zM i.2.2.1=i.2.2.2.1∧ay 1 b c g.aa.ls i.2.2.2.2.2.1 i.2.2.2.2.2.2.1 i.2.2.2.2.2.2.2.1∧i.2.2.2.1.length≤i.2.2.2.2.1∧(i.2.2.2.2.1=0∨((i.2.2.2.2.1:Nat):Int)≤p1)∧Int.toNat p1 - i.2.2.2.2.1 < i.2.2.2.2.2.2.2.2.2∧dL p1 ((Int.toNat p1 - 0)+1) ([]) 0 g.aa.ls g.av=dL p1 i.2.2.2.2.2.2.2.2.2 i.2.2.2.1 i.2.2.2.2.1 i.2.2.2.2.2.2.2.1 i.2.2.2.2.2.2.2.2.1):=⟨_,rfl⟩
 have T:∀ {K:Option Addr} {L:Nat} {o:List aM} {l:List eD} {p:Nat} {C:Option Addr} {z:Nat} {r:List UInt8} {t:Int} {M:Nat} {w':World},aG (K,L,o,l,p,C,z,r,t,M) w'↔Own w D w' [blk u [.slice C r.length z, .int .i64 t] 150,row K l.length L (List.flatMap aM.cells o) 84 4,sepL (List.flatMap zQ o)]∧List.map zM o=l∧ay 1 b c g.aa.ls C z r∧l.length≤p∧(p=0∨((p:Nat):Int)≤p1)∧Int.toNat p1 - p < M∧dL p1 ((Int.toNat p1 - 0)+1) ([]) 0 g.aa.ls g.av=dL p1 M l p r t:=by intros; subst aH; exact Iff.rfl
 refine Wp.loop (fun i:(Option Addr) × Nat × (List aM) × (List eD) × Nat × (Option Addr) × Nat × (List UInt8) × Int × Nat=> [(7, .slice i.1 i.2.2.2.1.length i.2.1),(8, .int .i64 ((i.2.2.2.2.1:Nat):Int)),(6, .slice none 0 0),(0, .pointer (some ⟨u,0,none⟩)),(1, .int .i64 p1),(2, .func (.func 66) #[] #[])]) aG (fun i=>i.2.2.2.2.2.2.2.2.2) (none,0, [], [],0,b,c,g.aa.ls,g.av,(Int.toNat p1 - 0)+1) ⟨rfl,rfl,rfl,rfl,rfl,rfl,trivial⟩ (T.2 ⟨bu,(show List.map zM ([])=([])∧ay 1 b c g.aa.ls b c g.aa.ls∧0≤0∧(0=0∨((0:Nat):Int)≤p1)∧Int.toNat p1 - 0 < ((Int.toNat p1 - 0)+1)∧dL p1 ((Int.toNat p1 - 0)+1) ([]) 0 g.aa.ls g.av=dL p1 ((Int.toNat p1 - 0)+1) ([]) 0 g.aa.ls g.av from ⟨by exact rfl,by exact(ay.refl (by omega)),by omega,by omega,by omega,rfl⟩)⟩) ?_
 rintro ⟨K,L,o,l,p,C,z,r,t,M⟩ cu aI
 show Wp _ _ _ [(7, .slice K l.length L),(8, .int .i64 ((p:Nat):Int)),(6, .slice none 0 0),(0, .pointer (some ⟨u,0,none⟩)),(1, .int .i64 p1),(2, .func (.func 66) #[] #[])] _ _
 obtain⟨Z,E,F,bM,bO,bP,U⟩:=T.1 aI
 have bQ:=bS E
 have bR:=(F).le
 obtain⟨aj,aJ⟩:∃ q,M=q+1:=⟨M - 1,by omega⟩
 subst aJ
 refine ze (sr (Mz rfl (Mz rfl (Kz (.bool (decide (((p:Nat):Int) < p1))) (Mz rfl ?_)))))
 by_cases n:((p:Nat):Int) < p1
 refine gw (.pointer (some ⟨u,0,none⟩)) (dT n) (zo rfl) (Gz (.pointer (some ⟨u,0,none⟩)) (dT n) (Gz (.pointer (some ⟨u,1,none⟩)) (dT n) (Gl (.int .i64 t) (dT n) Z 0 Tryz.isAgg38 (Gz (.bool (decide (t=0))) (dT n) (fw (.bool (decide (t=0))) (zf rfl (dT n) rfl) (nt ?_))))))
 by_cases aa:t=0
 refine jT (dT aa) (sk (ze (bo (zb (Mz rfl (Mz rfl (Mz rfl ?_)))))))
 obtain⟨⟨a,A⟩,ag⟩:∃ q:eD × ReaderT,iE (ReaderT.mk (Ll.mk r) t)=q:=⟨_,rfl⟩
 obtain⟨cz,aK,aL,aN,bT⟩:=zx Z
 refine WL.do rfl (zK Tryz.call66 rfl rfl (oL _ _ u (ReaderT.mk (Ll.mk r) t) C z a A aK (fun w9 h9=>ay.rds bi (by decide) F ((aL _ ai) w9 h9)) (show r.length≤z∧r.length≤9223372036854775807 from by omega) ag) ?_)
 rintro _ cO ⟨h,j,d,V,W,rfl,aO,G,I,ah⟩
 have aP:=aN _ _ aO
 replace I:ay 1 C z r V W A.aa.ls:=I
 have bU:=(I).le
 have aQ:ay 1 b c g.aa.ls V W A.aa.ls:=ay.trans F I
 have bV:=bS G
 have bW:=aP.rowC (i:=0) rfl
 replace ah:a.ah.ls.length≤1000:=ah
 refine kF [.int .i64 a.aC, .int .u64 ((a.au:Nat):Int), .int .u64 ((a.bB:Nat):Int), .slice h a.ah.ls.length j] 84 4 1 aP ?_
 intro af cZ ak
 replace ak:=zY (y:=row af 1 1 (List.flatMap aM.cells ([(aM.mk a.aC a.au a.bB (Sv.mk h j d))])) 84 4) (congrArg (fun z9=>row af 1 1 [.int .i64 a.aC, .int .u64 ((a.au:Nat):Int), .int .u64 ((a.bB:Nat):Int), .slice h z9 j] 84 4) (bS G).symm) ak
 have aR:=ak.pk [4,5,1,2,0,3]
 refine WL.do rfl (Aa (k:=l.length) (m:=1) (qF) aR rfl rfl (j3 Tryz.underlying33 (aR.rds (i:=4) rfl) (jA aM.one ([(aM.mk a.aC a.au a.bB (Sv.mk h j d))]))) rfl (by omega) (s:=List.length (l++ [a])) (by first | omega | (simp only [List.length_append,List.length_cons,List.length_nil] <;> omega)) (List.flatMap_append).symm ?_)
 intro av ax aS bv
 have bz:=bv.pk [2,0,1,3,4,5]
 have bA:Own w D aS [row h d.length j (List.flatMap az.cells d) 129 3,row av (List.length (l++ [a])) ax (List.flatMap aM.cells (o++ [(aM.mk a.aC a.au a.bB (Sv.mk h j d))])) 84 4,sepL (List.flatMap zQ o),sepL (List.flatMap zZ d),row af 1 1 (List.flatMap aM.cells ([(aM.mk a.aC a.au a.bB (Sv.mk h j d))])) 84 4,blk u [.slice V A.aa.ls.length W, .int .i64 A.av] 150]:=zY (y:=row h d.length j (List.flatMap az.cells d) 129 3) (congrArg (fun z9=>row h z9 j (List.flatMap az.cells d) 129 3) (bS G).symm) bz
 have bB:=bA.pk [2,0,3,1,4,5]
 have bC:Own w D aS [sepL (List.flatMap zQ (o++ [(aM.mk a.aC a.au a.bB (Sv.mk h j d))])),row av (List.length (l++ [a])) ax (List.flatMap aM.cells (o++ [(aM.mk a.aC a.au a.bB (Sv.mk h j d))])) 84 4,row af 1 1 (List.flatMap aM.cells ([(aM.mk a.aC a.au a.bB (Sv.mk h j d))])) 84 4,blk u [.slice V A.aa.ls.length W, .int .i64 A.av] 150]:=bB.sepAdd (L2:= [row h d.length j (List.flatMap az.cells d) 129 3,sepL (List.flatMap zZ d)]) (List.flatMap_append (f:=zQ) (xs:=o) (ys:= [(aM.mk a.aC a.au a.bB (Sv.mk h j d))])).symm
 have bX:List.length (l++ [a])=l.length+1:=by simp only [List.length_append,List.length_cons,List.length_nil]
 have bD:=bS (lq (es:= [(aM.mk a.aC a.au a.bB (Sv.mk h j d))]) (ms:= [a]) E (congrArg (fun z9=> [eD.mk a.aC a.au a.bB (Ll.mk z9)]) G))
 refine Az rfl (zq (bN (zu (zb (Mz rfl (fw (.int .i64 ((p+1:Nat):Int)) (zy (e:=IntKind.i64.wrap (((p:Nat):Int)+1)) yk (by rw [Cb _ (by omega)]; omega)) (Az rfl (zq ?_))))))))
 have aT:=bC.pk [3,1,0]
 exact zH (av,ax,(o++ [(aM.mk a.aC a.au a.bB (Sv.mk h j d))]),(l++ [a]),p+1,V,W,A.aa.ls,A.av,aj) ⟨rfl,rfl,rfl,rfl,rfl,rfl,trivial⟩ (T.2 ⟨aT,by exact(lq (es:= [(aM.mk a.aC a.au a.bB (Sv.mk h j d))]) (ms:= [a]) E (congrArg (fun z9=> [eD.mk a.aC a.au a.bB (Ll.mk z9)]) G)),by exact aQ,by omega,by omega,by omega,et (U) (et (ip n) (et (ip aa) (ae ag)))⟩) (by show aj < aj+1; omega)
 refine jF (dF aa) (Wp.exit (zk (zk (zA ?_))))
 have aU:=Z.pk [0,1,2]
 exact zU (K,L,o,l,C,z,r,t) ⟨rfl,rfl,trivial⟩ (N.2 ⟨aU,by exact E,by exact F,by omega,by omega,by omega,by omega,ae (et (U) (et (ip n) (iN aa)))⟩)
 refine Sz (dF n) (Sz (dF n) (Sz (dF n) (Sz (dF n) (Sz (dF n) (fw (.bool false) (zh rfl (dF n) rfl) (nt (jf (Wp.exit (zk (zk (zA ?_)))))))))))
 have aV:=Z.pk [0,1,2]
 exact zU (K,L,o,l,C,z,r,t) ⟨rfl,rfl,trivial⟩ (N.2 ⟨aV,by exact E,by exact F,by omega,by omega,by omega,by omega,ae (et (U) (iN n))⟩)
 rintro ⟨O,P,J,x,Q,R,B,S⟩ bY aA
 show Wp _ _ _ [(7, .slice O x.length P),(6, .slice none 0 0)] _ _
 obtain⟨aW,X,Y,bE,bF,bG,bH,aB⟩:=N.1 aA
 have bI:=bS X
 have bJ:=(Y).le
 refine sr (Mz rfl (An rfl (rt (rs ?_))))
 have aX:=aW.pk [1,2,0]
 have e:iG g p1=(x,ReaderT.mk (Ll.mk B) S):=ae aB
 obtain⟨rfl,rfl⟩:=ig (e.symm.trans hr)
 exact⟨O,P,J,Q,R,rfl,aX,X,Y,(by omega)⟩
def fV (c:ReaderT) (p1:Nat):(List eD) × ReaderT:=
 bnd (aI c p1) fun a=>bnd (iG a.2 ((a.1:Nat):Int)) fun b=>(b.1,b.2)
theorem mW (w:World) (D:Nat→Prop) (s:Nat) (d:ReaderT) (b:Option Addr) (a:Nat) (p1:Nat) (z:List eD) (M:ReaderT) (H:Own w D w [blk s [.slice b d.aa.ls.length a, .int .i64 d.av] 150]) (j:Ro w D fun w'=>bn w' 1 b d.aa.ls.length (List.flatMap eB d.aa.ls)) (N:d.aa.ls.length≤a∧d.aa.ls.length≤9223372036854775807) (ag:p1≤1000) (hr:fV d p1=(z,M)):
    Calls Tryz.prog 65 #[.pointer (some ⟨s,0,none⟩), .int .u64 ((p1:Nat):Int), .func (.func 66) #[] #[]] w (dE fun v w'=> ∃ (U:Option Addr) (V:Nat) (O:List aM) (B1ox0:Option Addr) (b1ox0:Nat),v= .slice U z.length V∧Own w D w' [row U z.length V (List.flatMap aM.cells O) 84 4,sepL (List.flatMap zQ O),blk s [.slice B1ox0 M.aa.ls.length b1ox0, .int .i64 M.av] 150]∧(List.map zM O=z)∧(ay 1 b a d.aa.ls B1ox0 b1ox0 M.aa.ls)∧(z.length≤1000)):=by
 refine zg (args:= [.pointer (some ⟨s,0,none⟩), .int .u64 ((p1:Nat):Int), .func (.func 66) #[] #[]]) Tryz.func65 rfl rfl rfl ?_
 show Wp _ _ _ [(0, .pointer (some ⟨s,0,none⟩)),(1, .int .u64 ((p1:Nat):Int)),(2, .func (.func 66) #[] #[])] _ _
 refine sr (Ar rfl (Mz rfl (Mz rfl (Mz rfl ?_))))
 obtain⟨⟨h,f⟩,m⟩:∃ q:Nat × ReaderT,aI d p1=q:=⟨_,rfl⟩
 obtain⟨ah,A,B,C,W⟩:=zx H
 refine cl Tryz.call93 (eT _ _ s d b a p1 h f A (B _ j) (show d.aa.ls.length≤a∧d.aa.ls.length≤9223372036854775807 from by omega) m) ?_
 rintro _ ai ⟨t,k,rfl,E,c,n⟩
 have P:=C _ _ E
 replace c:ay 1 b a d.aa.ls t k f.aa.ls:=c
 have X:=(c).le
 replace n:h≤p1:=n
 refine fw (.int .i64 ((h:Nat):Int)) (zy (e:=IntKind.i64.wrap ((h:Nat):Int)) yk (Cb _ (by omega))) (Mz rfl ?_)
 obtain⟨⟨u,l⟩,o⟩:∃ q:(List eD) × ReaderT,iG f ((h:Nat):Int)=q:=⟨_,rfl⟩
 obtain⟨aj,F,G,I,Y⟩:=zx P
 refine cl Tryz.call102 (mM _ _ s f t k ((h:Nat):Int) u l F (fun w9 h9=>ay.rds bi (by decide) c ((G _ j) w9 h9)) (show f.aa.ls.length≤k∧f.aa.ls.length≤9223372036854775807 from by omega) (by omega) o) ?_
 rintro _ av ⟨Q,R,S,x,y,rfl,J,p,g,r⟩
 have K:=I _ _ J
 replace g:ay 1 t k f.aa.ls x y l.aa.ls:=g
 have Z:=(g).le
 have L:ay 1 b a d.aa.ls x y l.aa.ls:=ay.trans c g
 have aa:=bS p
 have af:=K.rowC (i:=0) rfl
 replace r:u.length≤1000:=r
 refine An rfl (rt (rs ?_))
 have T:=K.pk [0,1,2]
 have e:fV d p1=(u,l):=et (ae m) (ae o)
 obtain⟨rfl,rfl⟩:=ig (e.symm.trans hr)
 exact⟨Q,R,S,x,y,rfl,T,p,L,(by omega)⟩
def bE (l:List UInt8):bK × Int:=
 bnd (dG l (67:UInt8)) fun k=>bnd (dA k) fun e=>bnd (aU e.2) fun f=>bnd (aU f.2) fun g=>bnd (aU g.2) fun a=>bnd (fJ a.2 255) fun b=>bnd (eQ b.2 255) fun c=>bnd (fV c.2 255) fun d=>bnd (eG d.2) fun j=>bnd (iR j) fun h=>if h=0 then bnd (bH (bK.mk e.1 f.1 g.1 a.1 (Ll.mk b.1) (Ll.mk c.1) (Ll.mk d.1))) fun i=>if i=0 then(bK.mk e.1 f.1 g.1 a.1 (Ll.mk b.1) (Ll.mk c.1) (Ll.mk d.1),0) else(bK.mk 0 0 0 0 (Ll.mk ([])) (Ll.mk ([])) (Ll.mk ([])),i) else(bK.mk 0 0 0 0 (Ll.mk ([])) (Ll.mk ([])) (Ll.mk ([])),h)
set_option maxHeartbeats 4000000 in
theorem jJ (w:World) (D:Nat→Prop) (A0:Option Addr) (n0 c0:Nat) (J:List UInt8) (r0:bK) (r1:Int) (H:Own w D w []) (K:Ro w D fun w'=>bn w' 1 A0 n0 (List.flatMap eB J)) (ib:n0=J.length) (jP:J.length *1≤211106232532992) (jQ:J.length≤c0) (hr:bE J=(r0,r1)):
    Calls Tryz.prog 17 #[.slice A0 n0 c0] w (dE fun v w'=> ∃ (bP:Option Addr) (bQ:Nat) (bR:Option Addr) (bT:Nat) (bU:Option Addr) (bV:Nat) (aZ:List ak) (bf:List aM),v= .tuple #[.agg #[.int .i64 r0.af, .int .u64 ((r0.au:Nat):Int), .int .u64 ((r0.aY:Nat):Int), .int .u64 ((r0.aK:Nat):Int), .slice bP r0.ag.ls.length bQ, .slice bR r0.ai.ls.length bT, .slice bU r0.aG.ls.length bV], .int .i64 r1]∧Own w D w' [row bP r0.ag.ls.length bQ (List.flatMap aH.cells r0.ag.ls) 54 2,row bR r0.ai.ls.length bT (List.flatMap ak.cells aZ) 79 5,sepL (List.flatMap zL aZ),row bU r0.aG.ls.length bV (List.flatMap aM.cells bf) 84 4,sepL (List.flatMap zQ bf)]∧(List.map zz aZ=r0.ai.ls)∧(List.map zM bf=r0.aG.ls)∧(r0.ag.ls.length≤1000∧r0.ai.ls.length≤1000∧r0.aG.ls.length≤1000)):=by
 subst ib
 refine zg (args:= [.slice A0 J.length c0]) Tryz.func17 rfl rfl rfl ?_
 show Wp _ _ _ [(0, .slice A0 J.length c0)] _ _
 refine sr ?_
 refine dC [.int .i64 0, .int .u64 0, .int .u64 0, .int .u64 0, .slice none 0 0, .slice none 0 0, .slice none 0 0] 35 H ?_
 intro L jR ic
 refine Ar rfl (Mz rfl ?_)
 obtain⟨aD,aL⟩:∃ q,dG J (67:UInt8)=q:=⟨_,rfl⟩
 obtain⟨jU,eO,eT,eU,jb⟩:=zt ic
 refine cl Tryz.call49 (ng _ _ A0 J.length c0 J (67:UInt8) aD eO (eT _ K) rfl (by omega) (by first | omega | (simp only [List.length_take,List.length_drop]; omega) | exact Nat.le_refl _) aL) ?_
 rintro _ jV ⟨z,dm,bJ,rfl,eX,af⟩
 have ik:=eU _ _ eX
 replace af:ay 1 A0 c0 J dm bJ aD.aa.ls:=af
 have jc:=(af).le
 refine Ar rfl (Mz rfl ?_)
 obtain⟨⟨s,ag⟩,aN⟩:∃ q:Int × ReaderT,dA aD=q:=⟨_,rfl⟩
 obtain⟨jW,eY,eZ,fe,jd⟩:=zx ik
 refine cl Tryz.call50 (iq _ _ z aD dm bJ s ag eY (fun w9 I=>ay.rds bi (by decide) af ((eZ _ K) w9 I)) (show aD.aa.ls.length≤bJ∧aD.aa.ls.length≤9223372036854775807 from by omega) aN) ?_
 rintro _ jX ⟨bL,bg,rfl,fo,aO,bW⟩
 have il:=fe _ _ fo
 replace aO:ay 1 dm bJ aD.aa.ls bL bg ag.aa.ls:=aO
 have je:=(aO).le
 have bX:ay 1 A0 c0 J bL bg ag.aa.ls:=ay.trans af aO
 replace bW:0≤s∧s≤255:=bW
 refine Kz (.agg #[.int .i64 s, .int .u64 0, .int .u64 0, .int .u64 0, .slice none 0 0, .slice none 0 0, .slice none 0 0]) ?_
 refine dC [.int .i64 0, .int .u64 0, .int .u64 0, .int .u64 0, .slice none 0 0, .slice none 0 0, .slice none 0 0] 35 il ?_
 intro A jY iw
 refine df [.int .i64 s, .int .u64 0, .int .u64 0, .int .u64 0, .slice none 0 0, .slice none 0 0, .slice none 0 0] 0 iw Tryz.sizeOf35 ?_
 intro jZ iy
 refine ns (Mz rfl ?_)
 have iA:=iy.pk [1,0,2]
 obtain⟨⟨u,ai⟩,aP⟩:∃ q:Nat × ReaderT,aU ag=q:=⟨_,rfl⟩
 obtain⟨j3,fq,fu,fA,jf⟩:=zx iA
 refine cl Tryz.call51 (dw _ _ z ag bL bg u ai fq (fun w9 I=>ay.rds bi (by decide) bX ((fu _ K) w9 I)) (show ag.aa.ls.length≤bg∧ag.aa.ls.length≤9223372036854775807 from by omega) aP) ?_
 rintro _ j4 ⟨bM,bq,rfl,fB,aQ,bY⟩
 have iB:=fA _ _ fB
 replace aQ:ay 1 bL bg ag.aa.ls bM bq ai.aa.ls:=aQ
 have jg:=(aQ).le
 have bZ:ay 1 A0 c0 J bM bq ai.aa.ls:=ay.trans bX aQ
 replace bY:u≤18446744073709551615:=bY
 refine Kz (.pointer (some ⟨A,1,none⟩)) ?_
 have iC:=iB.pk [1,0,2]
 refine df [.int .u64 ((u:Nat):Int)] 1 iC Tryz.sizeOf22 ?_
 intro j5 iD
 refine ns (Mz rfl ?_)
 have iE:=iD.pk [1,0,2]
 obtain⟨⟨x,aj⟩,aR⟩:∃ q:Nat × ReaderT,aU ai=q:=⟨_,rfl⟩
 obtain⟨j6,fC,fD,fE,jh⟩:=zx iE
 refine cl Tryz.call51 (dw _ _ z ai bM bq x aj fC (fun w9 I=>ay.rds bi (by decide) bZ ((fD _ K) w9 I)) (show ai.aa.ls.length≤bq∧ai.aa.ls.length≤9223372036854775807 from by omega) aR) ?_
 rintro _ kg ⟨bN,bu,rfl,fG,aS,cu⟩
 have iF:=fE _ _ fG
 replace aS:ay 1 bM bq ai.aa.ls bN bu aj.aa.ls:=aS
 have ji:=(aS).le
 have cz:ay 1 A0 c0 J bN bu aj.aa.ls:=ay.trans bZ aS
 replace cu:x≤18446744073709551615:=cu
 refine Kz (.pointer (some ⟨A,2,none⟩)) ?_
 have fH:=iF.pk [1,0,2]
 refine df [.int .u64 ((x:Nat):Int)] 2 fH Tryz.sizeOf22 ?_
 intro jk fI
 refine ns (Mz rfl ?_)
 have fK:=fI.pk [1,0,2]
 obtain⟨⟨r,C⟩,P⟩:∃ q:Nat × ReaderT,aU aj=q:=⟨_,rfl⟩
 obtain⟨jl,dn,dx,dz,iG⟩:=zx fK
 refine cl Tryz.call51 (dw _ _ z aj bN bu r C dn (fun w9 I=>ay.rds bi (by decide) cz ((dx _ K) w9 I)) (show aj.aa.ls.length≤bu∧aj.aa.ls.length≤9223372036854775807 from by omega) P) ?_
 rintro _ jm ⟨aT,au,rfl,dB,Q,bv⟩
 have fM:=dz _ _ dB
 replace Q:ay 1 bN bu aj.aa.ls aT au C.aa.ls:=Q
 have iH:=(Q).le
 have bz:ay 1 A0 c0 J aT au C.aa.ls:=ay.trans cz Q
 replace bv:r≤18446744073709551615:=bv
 refine Kz (.pointer (some ⟨A,3,none⟩)) ?_
 have fO:=fM.pk [1,0,2]
 refine df [.int .u64 ((r:Nat):Int)] 3 fO Tryz.sizeOf22 ?_
 intro jo fP
 refine ns (Mz rfl ?_)
 have fQ:=fP.pk [1,0,2]
 obtain⟨⟨a,E⟩,R⟩:∃ q:(List aH) × ReaderT,fJ C 255=q:=⟨_,rfl⟩
 obtain⟨jq,dD,dH,dI,iI⟩:=zx fQ
 refine cl Tryz.call52 (kM _ _ z C aT au 255 a E dD (fun w9 I=>ay.rds bi (by decide) bz ((dH _ K) w9 I)) (show C.aa.ls.length≤au∧C.aa.ls.length≤9223372036854775807 from by omega) (by omega) R) ?_
 rintro _ jr ⟨h,d,aV,av,rfl,dJ,S,bA⟩
 have cB:=dI _ _ dJ
 replace S:ay 1 aT au C.aa.ls aV av E.aa.ls:=S
 have iJ:=(S).le
 have bB:ay 1 A0 c0 J aV av E.aa.ls:=ay.trans bz S
 have iK:=cB.rowC (i:=0) rfl
 replace bA:a.length≤1000:=bA
 refine Kz (.pointer (some ⟨A,4,none⟩)) ?_
 have fT:=cB.pk [2,0,1,3]
 refine df [.slice h a.length d] 4 fT Tryz.sizeOf23 ?_
 intro jv fU
 refine ns (Mz rfl ?_)
 have fZ:=fU.pk [2,0,1,3]
 obtain⟨⟨b,F⟩,T⟩:∃ q:(List bO) × ReaderT,eQ E 255=q:=⟨_,rfl⟩
 obtain⟨jw,dK,dL,dM,iL⟩:=zx fZ
 refine cl Tryz.call63 (lZ _ _ z E aV av 255 b F dK (fun w9 I=>ay.rds bi (by decide) bB ((dL _ K) w9 I)) (show E.aa.ls.length≤av∧E.aa.ls.length≤9223372036854775807 from by omega) (by omega) T) ?_
 rintro _ jy ⟨j,f,o,aW,ax,rfl,dN,aF,U,bC⟩
 have cK:=dM _ _ dN
 replace U:ay 1 aV av E.aa.ls aW ax F.aa.ls:=U
 have iM:=(U).le
 have bD:ay 1 A0 c0 J aW ax F.aa.ls:=ay.trans bB U
 have iO:=bS aF
 have iP:=cK.rowC (i:=0) rfl
 replace bC:b.length≤1000:=bC
 refine Kz (.pointer (some ⟨A,5,none⟩)) ?_
 have gm:=cK.pk [3,0,1,2,4,5]
 refine df [.slice j b.length f] 5 gm Tryz.sizeOf32 ?_
 intro jA gp
 refine ns (Mz rfl ?_)
 have gq:=gp.pk [3,0,1,2,4,5]
 obtain⟨⟨c,G⟩,V⟩:∃ q:(List eD) × ReaderT,fV F 255=q:=⟨_,rfl⟩
 obtain⟨jB,dO,dP,dQ,iQ⟩:=zx gq
 refine cl Tryz.call65 (mW _ _ z F aW ax 255 c G dO (fun w9 I=>ay.rds bi (by decide) bD ((dP _ K) w9 I)) (show F.aa.ls.length≤ax∧F.aa.ls.length≤9223372036854775807 from by omega) (by omega) V) ?_
 rintro _ jC ⟨l,g,p,aX,az,rfl,dR,aG,W,bF⟩
 have cO:=dQ _ _ dR
 replace W:ay 1 aW ax F.aa.ls aX az G.aa.ls:=W
 have iT:=(W).le
 have bG:ay 1 A0 c0 J aX az G.aa.ls:=ay.trans bD W
 have iU:=bS aG
 have iV:=cO.rowC (i:=0) rfl
 replace bF:c.length≤1000:=bF
 refine Kz (.pointer (some ⟨A,6,none⟩)) ?_
 have gu:=cO.pk [3,0,1,2,4,5,6,7]
 refine df [.slice l c.length g] 6 gu Tryz.sizeOf33 ?_
 intro jD gy
 refine ns (Mz rfl ?_)
 have gz:=gy.pk [3,0,1,2,4,5,6,7]
 obtain⟨n,X⟩:∃ q,eG G=q:=⟨_,rfl⟩
 obtain⟨jE,dS,dU,dV,iW⟩:=zx gz
 refine cl Tryz.call59 (lH _ _ z G aX az n dS (fun w9 I=>ay.rds bi (by decide) bG ((dU _ K) w9 I)) (show G.aa.ls.length≤az∧G.aa.ls.length≤9223372036854775807 from by omega) X) ?_
 rintro _ jG ⟨y,t,rfl,dW,Y⟩
 have gB:=dV _ _ dW
 replace Y:ay 1 aX az G.aa.ls y t n.aa.ls:=Y
 have iX:=(Y).le
 have dX:ay 1 A0 c0 J y t n.aa.ls:=ay.trans bG Y
 refine nt (ze (sr (Mz rfl ?_)))
 obtain⟨M,Z⟩:∃ q,iR n=q:=⟨_,rfl⟩
 obtain⟨jH,dY,dZ,d9,iY⟩:=zx gB
 refine cl Tryz.call60 (lI _ _ z n y t M dY (fun w9 I=>ay.rds bi (by decide) dX ((dZ _ K) w9 I)) (show n.aa.ls.length≤t∧n.aa.ls.length≤9223372036854775807 from by omega) Z) ?_
 rintro _ jI ⟨rfl,ed⟩
 have N:=d9 _ _ ed
 refine Ar rfl (Mz rfl (fw (.bool (decide (¬ (M=0)))) (zF (e:= !(decide (M=0))) yk decide_not.symm) (nt ?_)))
 by_cases aA:M=0
 refine jF (dF (Ce aA)) (sk (ze (sr (La ([.int .i64 s, .int .u64 ((u:Nat):Int), .int .u64 ((x:Nat):Int), .int .u64 ((r:Nat):Int), .slice h a.length d, .slice j b.length f, .slice l c.length g]) N 1 Tryz.isAgg35 Tryz.sizeOf35 ?_))))
 obtain⟨O,aI⟩:∃ q,bH (bK.mk s u x r (Ll.mk a) (Ll.mk b) (Ll.mk c))=q:=⟨_,rfl⟩
 obtain⟨jK,ek,iZ,eu,B⟩:=zt N
 refine cl Tryz.call13 (kw _ _ (bK.mk s u x r (Ll.mk a) (Ll.mk b) (Ll.mk c)) h a.length d j b.length f o l c.length g p O ek rfl (B _ 6 _ rfl eP) (show a.length≤d∧a.length≤9223372036854775807 from by omega) aF rfl (B _ 4 _ rfl eP) (show b.length≤f∧b.length≤9223372036854775807 from by omega) (fun x9 I=>⟨B _ 5 _ rfl (fF (List.mem_flatMap.2 ⟨x9,I, .head _⟩) eP),kC (φ:=fun _=>_) N (i:=5) rfl (fF (List.mem_flatMap.2 ⟨x9,I, .head _⟩) jS)⟩) aG rfl (B _ 2 _ rfl eP) (show c.length≤g∧c.length≤9223372036854775807 from by omega) (fun x9 I=>⟨B _ 3 _ rfl (fF (List.mem_flatMap.2 ⟨x9,I, .head _⟩) eP),kC (φ:=fun _=>_) N (i:=3) rfl (fF (List.mem_flatMap.2 ⟨x9,I, .head _⟩) jS),(fun y1 k1=>⟨B _ 3 _ rfl (fF (List.mem_flatMap.2 ⟨x9,I, .tail _ (.head _)⟩) (fF (List.mem_flatMap.2 ⟨y1,k1, .head _⟩) eP)),kC (φ:=fun _=>_) N (i:=3) rfl (fF (List.mem_flatMap.2 ⟨x9,I, .tail _ (.head _)⟩) (fF (List.mem_flatMap.2 ⟨y1,k1, .head _⟩) jS))⟩)⟩) (by first | omega | (dsimp only; omega) | (simp only [List.length_nil]; omega) | decide) aI) ?_
 rintro _ jN ⟨rfl,eH⟩
 have bI:=eu _ _ eH
 refine Ar rfl (Mz rfl (fw (.bool (decide (¬ (O=0)))) (zF (e:= !(decide (O=0))) yk decide_not.symm) (nt ?_)))
 by_cases aY:O=0
 refine jF (dF (Ce aY)) (sk (sr (La ([.int .i64 s, .int .u64 ((u:Nat):Int), .int .u64 ((x:Nat):Int), .int .u64 ((r:Nat):Int), .slice h a.length d, .slice j b.length f, .slice l c.length g]) bI 1 Tryz.isAgg35 Tryz.sizeOf35 ?_)))
 have gF:=bI.pk [7,0,1,2,3,4,5,6]
 refine df [.int .i64 s, .int .u64 ((u:Nat):Int), .int .u64 ((x:Nat):Int), .int .u64 ((r:Nat):Int), .slice h a.length d, .slice j b.length f, .slice l c.length g] 0 gF Tryz.sizeOf35 ?_
 intro jO cZ
 refine An rfl (rt (zO (lM (vs:= [.agg #[.int .i64 s, .int .u64 ((u:Nat):Int), .int .u64 ((x:Nat):Int), .int .u64 ((r:Nat):Int), .slice h a.length d, .slice j b.length f, .slice l c.length g], .int .i64 0]) rfl (gD.cell rfl (zD (cs:= [.int .i64 s, .int .u64 ((u:Nat):Int), .int .u64 ((x:Nat):Int), .int .u64 ((r:Nat):Int), .slice h a.length d, .slice j b.length f, .slice l c.length g]) Tryz.isAgg35 Tryz.sizeOf35 ((cZ.cls (i:=0) rfl).lit (k:=0) (m:=7) rfl)) (gD.tmp rfl gD.nil)) (Ca rfl)) ?_))
 have gG:=cZ.pk [7,5,6,3,4]
 have e:bE J=(bK.mk s u x r (Ll.mk a) (Ll.mk b) (Ll.mk c),0):=et (ae aL) (et (ae aN) (et (ae aP) (et (ae aR) (et (ae P) (et (ae R) (et (ae T) (et (ae V) (et (ae X) (et (ae Z) (et (ip aA) (et (ae aI) (ip aY))))))))))))
 obtain⟨rfl,rfl⟩:=ig (e.symm.trans hr)
 exact⟨h,d,j,f,l,g,o,p,rfl,gG,aF,aG,(by first | omega | (dsimp only; omega) | (simp only [List.length_nil]; omega) | decide)⟩
 refine jT (dT aY) (sr (Kz (.agg #[.int .i64 0, .int .u64 0, .int .u64 0, .int .u64 0, .slice none 0 0, .slice none 0 0, .slice none 0 0]) (Mz rfl ?_)))
 have gH:=bI.pk [7,0,1,2,3,4,5,6]
 refine df [.int .i64 0, .int .u64 0, .int .u64 0, .int .u64 0, .slice none 0 0, .slice none 0 0, .slice none 0 0] 0 gH Tryz.sizeOf35 ?_
 intro aB dh
 refine An rfl (rt (tR (zO (lM (vs:= [.agg #[.int .i64 0, .int .u64 0, .int .u64 0, .int .u64 0, .slice none 0 0, .slice none 0 0, .slice none 0 0], .int .i64 O]) rfl (gD.cell rfl (zD (cs:= [.int .i64 0, .int .u64 0, .int .u64 0, .int .u64 0, .slice none 0 0, .slice none 0 0, .slice none 0 0]) Tryz.isAgg35 Tryz.sizeOf35 ((dh.cls (i:=0) rfl).lit (k:=0) (m:=7) rfl)) (gD.tmp rfl gD.nil)) (Ca rfl)) ?_)))
 have gI:Own w D aB [row none 0 0 (List.flatMap aH.cells ([])) 54 2,blk L [.int .i64 0, .int .u64 0, .int .u64 0, .int .u64 0, .slice none 0 0, .slice none 0 0, .slice none 0 0] 35,blk z [.slice y n.aa.ls.length t, .int .i64 n.av] 150,blk A [.int .i64 s, .int .u64 ((u:Nat):Int), .int .u64 ((x:Nat):Int), .int .u64 ((r:Nat):Int), .slice h a.length d, .slice j b.length f, .slice l c.length g] 35,row l c.length g (List.flatMap aM.cells p) 84 4,sepL (List.flatMap zQ p),row j b.length f (List.flatMap ak.cells o) 79 5,sepL (List.flatMap zL o),row h a.length d (List.flatMap aH.cells a) 54 2]:=dh.free (gX 54 2)
 have gJ:Own w D aB [sepL (List.flatMap zL ([])),row none 0 0 (List.flatMap aH.cells ([])) 54 2,blk L [.int .i64 0, .int .u64 0, .int .u64 0, .int .u64 0, .slice none 0 0, .slice none 0 0, .slice none 0 0] 35,blk z [.slice y n.aa.ls.length t, .int .i64 n.av] 150,blk A [.int .i64 s, .int .u64 ((u:Nat):Int), .int .u64 ((x:Nat):Int), .int .u64 ((r:Nat):Int), .slice h a.length d, .slice j b.length f, .slice l c.length g] 35,row l c.length g (List.flatMap aM.cells p) 84 4,sepL (List.flatMap zQ p),row j b.length f (List.flatMap ak.cells o) 79 5,sepL (List.flatMap zL o),row h a.length d (List.flatMap aH.cells a) 54 2]:=gI.sepNil
 have gK:Own w D aB [row none 0 0 (List.flatMap ak.cells ([])) 79 5,sepL (List.flatMap zL ([])),row none 0 0 (List.flatMap aH.cells ([])) 54 2,blk L [.int .i64 0, .int .u64 0, .int .u64 0, .int .u64 0, .slice none 0 0, .slice none 0 0, .slice none 0 0] 35,blk z [.slice y n.aa.ls.length t, .int .i64 n.av] 150,blk A [.int .i64 s, .int .u64 ((u:Nat):Int), .int .u64 ((x:Nat):Int), .int .u64 ((r:Nat):Int), .slice h a.length d, .slice j b.length f, .slice l c.length g] 35,row l c.length g (List.flatMap aM.cells p) 84 4,sepL (List.flatMap zQ p),row j b.length f (List.flatMap ak.cells o) 79 5,sepL (List.flatMap zL o),row h a.length d (List.flatMap aH.cells a) 54 2]:=gJ.free (gX 79 5)
 have gL:Own w D aB [sepL (List.flatMap zQ ([])),row none 0 0 (List.flatMap ak.cells ([])) 79 5,sepL (List.flatMap zL ([])),row none 0 0 (List.flatMap aH.cells ([])) 54 2,blk L [.int .i64 0, .int .u64 0, .int .u64 0, .int .u64 0, .slice none 0 0, .slice none 0 0, .slice none 0 0] 35,blk z [.slice y n.aa.ls.length t, .int .i64 n.av] 150,blk A [.int .i64 s, .int .u64 ((u:Nat):Int), .int .u64 ((x:Nat):Int), .int .u64 ((r:Nat):Int), .slice h a.length d, .slice j b.length f, .slice l c.length g] 35,row l c.length g (List.flatMap aM.cells p) 84 4,sepL (List.flatMap zQ p),row j b.length f (List.flatMap ak.cells o) 79 5,sepL (List.flatMap zL o),row h a.length d (List.flatMap aH.cells a) 54 2]:=gK.sepNil
 have gM:Own w D aB [row none 0 0 (List.flatMap aM.cells ([])) 84 4,sepL (List.flatMap zQ ([])),row none 0 0 (List.flatMap ak.cells ([])) 79 5,sepL (List.flatMap zL ([])),row none 0 0 (List.flatMap aH.cells ([])) 54 2,blk L [.int .i64 0, .int .u64 0, .int .u64 0, .int .u64 0, .slice none 0 0, .slice none 0 0, .slice none 0 0] 35,blk z [.slice y n.aa.ls.length t, .int .i64 n.av] 150,blk A [.int .i64 s, .int .u64 ((u:Nat):Int), .int .u64 ((x:Nat):Int), .int .u64 ((r:Nat):Int), .slice h a.length d, .slice j b.length f, .slice l c.length g] 35,row l c.length g (List.flatMap aM.cells p) 84 4,sepL (List.flatMap zQ p),row j b.length f (List.flatMap ak.cells o) 79 5,sepL (List.flatMap zL o),row h a.length d (List.flatMap aH.cells a) 54 2]:=gL.free (gX 84 4)
 have gN:=gM.pk [4,2,3,0,1]
 have e:bE J=(bK.mk 0 0 0 0 (Ll.mk ([])) (Ll.mk ([])) (Ll.mk ([])),O):=et (ae aL) (et (ae aN) (et (ae aP) (et (ae aR) (et (ae P) (et (ae R) (et (ae T) (et (ae V) (et (ae X) (et (ae Z) (et (ip aA) (et (ae aI) (iN aY))))))))))))
 obtain⟨rfl,rfl⟩:=ig (e.symm.trans hr)
 exact⟨none,0,none,0,none,0, [], [],rfl,gN,rfl,rfl,(by first | omega | (dsimp only; omega) | (simp only [List.length_nil]; omega) | decide)⟩
 refine jT (dT aA) (sr (Kz (.agg #[.int .i64 0, .int .u64 0, .int .u64 0, .int .u64 0, .slice none 0 0, .slice none 0 0, .slice none 0 0]) (Mz rfl ?_)))
 have gP:=N.pk [7,0,1,2,3,4,5,6]
 refine df [.int .i64 0, .int .u64 0, .int .u64 0, .int .u64 0, .slice none 0 0, .slice none 0 0, .slice none 0 0] 0 gP Tryz.sizeOf35 ?_
 intro aC di
 refine An rfl (rt (tR (zO (lM (vs:= [.agg #[.int .i64 0, .int .u64 0, .int .u64 0, .int .u64 0, .slice none 0 0, .slice none 0 0, .slice none 0 0], .int .i64 M]) rfl (gD.cell rfl (zD (cs:= [.int .i64 0, .int .u64 0, .int .u64 0, .int .u64 0, .slice none 0 0, .slice none 0 0, .slice none 0 0]) Tryz.isAgg35 Tryz.sizeOf35 ((di.cls (i:=0) rfl).lit (k:=0) (m:=7) rfl)) (gD.tmp rfl gD.nil)) (Ca rfl)) ?_)))
 have gQ:Own w D aC [row none 0 0 (List.flatMap aH.cells ([])) 54 2,blk L [.int .i64 0, .int .u64 0, .int .u64 0, .int .u64 0, .slice none 0 0, .slice none 0 0, .slice none 0 0] 35,blk z [.slice y n.aa.ls.length t, .int .i64 n.av] 150,blk A [.int .i64 s, .int .u64 ((u:Nat):Int), .int .u64 ((x:Nat):Int), .int .u64 ((r:Nat):Int), .slice h a.length d, .slice j b.length f, .slice l c.length g] 35,row l c.length g (List.flatMap aM.cells p) 84 4,sepL (List.flatMap zQ p),row j b.length f (List.flatMap ak.cells o) 79 5,sepL (List.flatMap zL o),row h a.length d (List.flatMap aH.cells a) 54 2]:=di.free (gX 54 2)
 have gT:Own w D aC [sepL (List.flatMap zL ([])),row none 0 0 (List.flatMap aH.cells ([])) 54 2,blk L [.int .i64 0, .int .u64 0, .int .u64 0, .int .u64 0, .slice none 0 0, .slice none 0 0, .slice none 0 0] 35,blk z [.slice y n.aa.ls.length t, .int .i64 n.av] 150,blk A [.int .i64 s, .int .u64 ((u:Nat):Int), .int .u64 ((x:Nat):Int), .int .u64 ((r:Nat):Int), .slice h a.length d, .slice j b.length f, .slice l c.length g] 35,row l c.length g (List.flatMap aM.cells p) 84 4,sepL (List.flatMap zQ p),row j b.length f (List.flatMap ak.cells o) 79 5,sepL (List.flatMap zL o),row h a.length d (List.flatMap aH.cells a) 54 2]:=gQ.sepNil
 have gU:Own w D aC [row none 0 0 (List.flatMap ak.cells ([])) 79 5,sepL (List.flatMap zL ([])),row none 0 0 (List.flatMap aH.cells ([])) 54 2,blk L [.int .i64 0, .int .u64 0, .int .u64 0, .int .u64 0, .slice none 0 0, .slice none 0 0, .slice none 0 0] 35,blk z [.slice y n.aa.ls.length t, .int .i64 n.av] 150,blk A [.int .i64 s, .int .u64 ((u:Nat):Int), .int .u64 ((x:Nat):Int), .int .u64 ((r:Nat):Int), .slice h a.length d, .slice j b.length f, .slice l c.length g] 35,row l c.length g (List.flatMap aM.cells p) 84 4,sepL (List.flatMap zQ p),row j b.length f (List.flatMap ak.cells o) 79 5,sepL (List.flatMap zL o),row h a.length d (List.flatMap aH.cells a) 54 2]:=gT.free (gX 79 5)
 have gV:Own w D aC [sepL (List.flatMap zQ ([])),row none 0 0 (List.flatMap ak.cells ([])) 79 5,sepL (List.flatMap zL ([])),row none 0 0 (List.flatMap aH.cells ([])) 54 2,blk L [.int .i64 0, .int .u64 0, .int .u64 0, .int .u64 0, .slice none 0 0, .slice none 0 0, .slice none 0 0] 35,blk z [.slice y n.aa.ls.length t, .int .i64 n.av] 150,blk A [.int .i64 s, .int .u64 ((u:Nat):Int), .int .u64 ((x:Nat):Int), .int .u64 ((r:Nat):Int), .slice h a.length d, .slice j b.length f, .slice l c.length g] 35,row l c.length g (List.flatMap aM.cells p) 84 4,sepL (List.flatMap zQ p),row j b.length f (List.flatMap ak.cells o) 79 5,sepL (List.flatMap zL o),row h a.length d (List.flatMap aH.cells a) 54 2]:=gU.sepNil
 have gW:Own w D aC [row none 0 0 (List.flatMap aM.cells ([])) 84 4,sepL (List.flatMap zQ ([])),row none 0 0 (List.flatMap ak.cells ([])) 79 5,sepL (List.flatMap zL ([])),row none 0 0 (List.flatMap aH.cells ([])) 54 2,blk L [.int .i64 0, .int .u64 0, .int .u64 0, .int .u64 0, .slice none 0 0, .slice none 0 0, .slice none 0 0] 35,blk z [.slice y n.aa.ls.length t, .int .i64 n.av] 150,blk A [.int .i64 s, .int .u64 ((u:Nat):Int), .int .u64 ((x:Nat):Int), .int .u64 ((r:Nat):Int), .slice h a.length d, .slice j b.length f, .slice l c.length g] 35,row l c.length g (List.flatMap aM.cells p) 84 4,sepL (List.flatMap zQ p),row j b.length f (List.flatMap ak.cells o) 79 5,sepL (List.flatMap zL o),row h a.length d (List.flatMap aH.cells a) 54 2]:=gV.free (gX 84 4)
 have gY:=gW.pk [4,2,3,0,1]
 have e:bE J=(bK.mk 0 0 0 0 (Ll.mk ([])) (Ll.mk ([])) (Ll.mk ([])),M):=et (ae aL) (et (ae aN) (et (ae aP) (et (ae aR) (et (ae P) (et (ae R) (et (ae T) (et (ae V) (et (ae X) (et (ae Z) (iN aA))))))))))
 obtain⟨rfl,rfl⟩:=ig (e.symm.trans hr)
 exact⟨none,0,none,0,none,0, [], [],rfl,gY,rfl,rfl,(by first | omega | (dsimp only; omega) | (simp only [List.length_nil]; omega) | decide)⟩
end Go.Proofs.YtcnkpjheifkgnaaGreat
