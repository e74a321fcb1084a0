/-
 record: the coordinator's state of bytes.
-/
import Derived.Test.YtcnkpjheifkgnaaGreatRe
namespace Go.Proofs.YtcnkpjheifkgnaaGreat
set_option maxRecDepth 100000
open Go.RowKit
set_option linter.unusedVariables false
set_option linter.unusedSectionVars false
set_option linter.unusedSimpArgs false
def bX (p1:Int):Nat→List bJ→Nat→List UInt8→Int→(List bJ) × (List UInt8) × Int
  | 0,c,e,d,a=>default
  | f+1,c,e,d,a=>if((e:Nat):Int) < p1 then if a=0 then bnd (gK (ReaderT.mk (Ll.mk d) a)) fun b=>bX p1 f (c++ [b.1]) (e+1) b.2.aa.ls b.2.ai else(c,d,a) else(c,d,a)
def gQ (a:ReaderT) (p1:Int):(List bJ) × ReaderT:=
 bnd (bnd (bX p1 ((Int.toNat p1 - 0)+1) ([]) 0 a.aa.ls a.ai) fun sLrJjL=>(sLrJjL.1,sLrJjL.2.1,sLrJjL.2.2)) fun sJrJ=>(sJrJ.1,ReaderT.mk (Ll.mk sJrJ.2.1) sJrJ.2.2)
theorem lm (w:World) (D:Nat→Prop) (x:Nat) (d:ReaderT) (b:Option Addr) (c:Nat) (p1:Int) (r0:List bJ) (r1:ReaderT) (H:Own w D w [blk x [.slice b d.aa.ls.length c, .int .i64 d.ai] 150]) (af:Ro w D fun w'=>bu w' 1 b d.aa.ls.length (List.flatMap eB d.aa.ls)) (aR:d.aa.ls.length≤c∧d.aa.ls.length≤9223372036854775807) (bR:p1≤1000) (hr:gQ d p1=(r0,r1)):
    Calls Tryz.prog 100 #[.pointer (some ⟨x,0,none⟩), .int .i64 p1, .func (.func 64) #[] #[]] w (dC fun v w'=> ∃ (B0:Option Addr) (b0:Nat) (e0:List au) (B1ox0:Option Addr) (b1ox0:Nat),v= .slice B0 r0.length b0∧Own w D w' [row B0 r0.length b0 (List.flatMap au.cells e0) 79 5,sepL (List.flatMap yF e0),blk x [.slice B1ox0 r1.aa.ls.length b1ox0, .int .i64 r1.ai] 150]∧(List.map yz e0=r0)∧(aj 1 b c d.aa.ls B1ox0 b1ox0 r1.aa.ls)∧(r0.length≤1000)):=by
 refine xU (args:= [.pointer (some ⟨x,0,none⟩), .int .i64 p1, .func (.func 64) #[] #[]]) Tryz.func100 rfl rfl rfl ?_
 show Wp _ _ _ [(0, .pointer (some ⟨x,0,none⟩)),(1, .int .i64 p1),(2, .func (.func 64) #[] #[])] _ _
 refine sr (Ar rfl (An rfl (xV (sr (An rfl ?_)))))
 obtain⟨ax,ay⟩:∃ q:((Option Addr) × Nat × (List au) × (List bJ) × (Option Addr) × Nat × (List UInt8) × Int)→World→Prop,q=fun(i:(Option Addr) × Nat × (List au) × (List bJ) × (Option Addr) × Nat × (List UInt8) × Int) w'=>Own w D w' [blk x [.slice i.2.2.2.2.1 i.2.2.2.2.2.2.1.length i.2.2.2.2.2.1, .int .i64 i.2.2.2.2.2.2.2] 150,row i.1 i.2.2.2.1.length i.2.1 (List.flatMap au.cells i.2.2.1) 79 5,sepL (List.flatMap yF i.2.2.1)]∧(List.map yz i.2.2.1=i.2.2.2.1∧aj 1 b c d.aa.ls i.2.2.2.2.1 i.2.2.2.2.2.1 i.2.2.2.2.2.2.1∧0≤i.2.2.2.1.length∧i.2.2.2.2.2.2.1.length≤d.aa.ls.length∧i.2.2.2.2.2.2.1.length≤d.aa.ls.length+1∧i.2.2.2.1.length≤1000∧(bnd (bX p1 ((Int.toNat p1 - 0)+1) ([]) 0 d.aa.ls d.ai) fun sLrJjL=>(sLrJjL.1,sLrJjL.2.1,sLrJjL.2.2))=(i.2.2.2.1,i.2.2.2.2.2.2.1,i.2.2.2.2.2.2.2)):=⟨_,rfl⟩
 have L:∀ {M:Option Addr} {N:Nat} {G:List au} {t:List bJ} {O:Option Addr} {P:Nat} {z:List UInt8} {Q:Int} {w':World},ax (M,N,G,t,O,P,z,Q) w'↔Own w D w' [blk x [.slice O z.length P, .int .i64 Q] 150,row M t.length N (List.flatMap au.cells G) 79 5,sepL (List.flatMap yF G)]∧List.map yz G=t∧aj 1 b c d.aa.ls O P z∧0≤t.length∧z.length≤d.aa.ls.length∧z.length≤d.aa.ls.length+1∧t.length≤1000∧(bnd (bX p1 ((Int.toNat p1 - 0)+1) ([]) 0 d.aa.ls d.ai) fun sLrJjL=>(sLrJjL.1,sLrJjL.2.1,sLrJjL.2.2))=(t,z,Q):=by intros; subst ay; exact Iff.rfl
 refine ze (fun i:(Option Addr) × Nat × (List au) × (List bJ) × (Option Addr) × Nat × (List UInt8) × Int=> [(7, .slice i.1 i.2.2.2.1.length i.2.1),(6, .slice none 0 0)]) ax ?_ ?_
 refine bo ?_
 have aT:Own w D w [sepL (List.flatMap yF ([])),blk x [.slice b d.aa.ls.length c, .int .i64 d.ai] 150]:=H.sepNil
 have aV:Own w D w [row none 0 0 (List.flatMap au.cells ([])) 79 5,sepL (List.flatMap yF ([])),blk x [.slice b d.aa.ls.length c, .int .i64 d.ai] 150]:=aT.free (fU 79 5)
 have aW:=aV.pk [2,0,1]
 obtain⟨az,aA⟩:∃ q:((Option Addr) × Nat × (List au) × (List bJ) × Nat × (Option Addr) × Nat × (List UInt8) × Int × Nat)→World→Prop,q=fun(i:(Option Addr) × Nat × (List au) × (List bJ) × Nat × (Option Addr) × Nat × (List UInt8) × Int × Nat) w'=>Own w D w' [blk x [.slice i.2.2.2.2.2.1 i.2.2.2.2.2.2.2.1.length i.2.2.2.2.2.2.1, .int .i64 i.2.2.2.2.2.2.2.2.1] 150,row i.1 i.2.2.2.1.length i.2.1 (List.flatMap au.cells i.2.2.1) 79 5,sepL (List.flatMap yF i.2.2.1)]∧(List.map yz i.2.2.1=i.2.2.2.1∧aj 1 b c d.aa.ls i.2.2.2.2.2.1 i.2.2.2.2.2.2.1 i.2.2.2.2.2.2.2.1∧i.2.2.2.1.length≤i.2.2.2.2.1∧(i.2.2.2.2.1=0∨((i.2.2.2.2.1:Nat):Int)≤p1)∧Int.toNat p1 - i.2.2.2.2.1 < i.2.2.2.2.2.2.2.2.2∧bX p1 ((Int.toNat p1 - 0)+1) ([]) 0 d.aa.ls d.ai=bX p1 i.2.2.2.2.2.2.2.2.2 i.2.2.2.1 i.2.2.2.2.1 i.2.2.2.2.2.2.2.1 i.2.2.2.2.2.2.2.2.1):=⟨_,rfl⟩
 have R:∀ {I:Option Addr} {J:Nat} {o:List au} {g:List bJ} {j:Nat} {A:Option Addr} {u:Nat} {l:List UInt8} {n:Int} {K:Nat} {w':World},az (I,J,o,g,j,A,u,l,n,K) w'↔Own w D w' [blk x [.slice A l.length u, .int .i64 n] 150,row I g.length J (List.flatMap au.cells o) 79 5,sepL (List.flatMap yF o)]∧List.map yz o=g∧aj 1 b c d.aa.ls A u l∧g.length≤j∧(j=0∨((j:Nat):Int)≤p1)∧Int.toNat p1 - j < K∧bX p1 ((Int.toNat p1 - 0)+1) ([]) 0 d.aa.ls d.ai=bX p1 K g j l n:=by intros; subst aA; exact Iff.rfl
 refine Wp.loop (fun i:(Option Addr) × Nat × (List au) × (List bJ) × Nat × (Option Addr) × Nat × (List UInt8) × Int × Nat=> [(7, .slice i.1 i.2.2.2.1.length i.2.1),(8, .int .i64 ((i.2.2.2.2.1:Nat):Int)),(6, .slice none 0 0),(0, .pointer (some ⟨x,0,none⟩)),(1, .int .i64 p1),(2, .func (.func 64) #[] #[])]) az (fun i=>i.2.2.2.2.2.2.2.2.2) (none,0, [], [],0,b,c,d.aa.ls,d.ai,(Int.toNat p1 - 0)+1) ⟨rfl,rfl,rfl,rfl,rfl,rfl,trivial⟩ (R.2 ⟨aW,(show List.map yz ([])=([])∧aj 1 b c d.aa.ls b c d.aa.ls∧0≤0∧(0=0∨((0:Nat):Int)≤p1)∧Int.toNat p1 - 0 < ((Int.toNat p1 - 0)+1)∧bX p1 ((Int.toNat p1 - 0)+1) ([]) 0 d.aa.ls d.ai=bX p1 ((Int.toNat p1 - 0)+1) ([]) 0 d.aa.ls d.ai from ⟨by exact rfl,by exact(aj.refl (by omega)),by omega,by omega,by omega,rfl⟩)⟩) ?_
 rintro ⟨I,J,o,g,j,A,u,l,n,K⟩ bS aB
 show Wp _ _ _ [(7, .slice I g.length J),(8, .int .i64 ((j:Nat):Int)),(6, .slice none 0 0),(0, .pointer (some ⟨x,0,none⟩)),(1, .int .i64 p1),(2, .func (.func 64) #[] #[])] _ _
 obtain⟨V,B,C,bF,bG,bH,S⟩:=R.1 aB
 have bI:=bV B
 have bK:=(C).le
 obtain⟨ag,aC⟩:∃ q,K=q+1:=⟨K - 1,by omega⟩
 subst aC
 refine xV (sr (Mz rfl (Mz rfl (Kz (.bool (decide (((j:Nat):Int) < p1))) (Mz rfl ?_)))))
 by_cases h:((j:Nat):Int) < p1
 refine gw (.pointer (some ⟨x,0,none⟩)) (dT h) (yj rfl) (Gz (.pointer (some ⟨x,0,none⟩)) (dT h) (Gz (.pointer (some ⟨x,1,none⟩)) (dT h) (Gl (.int .i64 n) (dT h) V 0 Tryz.isAgg38 (Gz (.bool (decide (n=0))) (dT h) (fw (.bool (decide (n=0))) (yw rfl (dT h) rfl) (nt ?_))))))
 by_cases W:n=0
 refine jT (dT W) (sk (xV (bo (xS (Mz rfl (Mz rfl (Mz rfl ?_)))))))
 obtain⟨⟨a,E⟩,Z⟩:∃ q:bJ × ReaderT,gK (ReaderT.mk (Ll.mk l) n)=q:=⟨_,rfl⟩
 obtain⟨bT,aD,aF,aG,bL⟩:=x8 V
 refine WL.do rfl (yB Tryz.call64 rfl rfl (mF _ _ x (ReaderT.mk (Ll.mk l) n) A u a E aD (fun w9 h9=>aj.rds aU (by decide) C ((aF _ af) w9 h9)) (show l.length≤u∧l.length≤9223372036854775807 from by omega) Z) ?_)
 rintro _ bY ⟨p,r,X,Y,rfl,aH,F,aa⟩
 have aI:=aG _ _ aH
 replace F:aj 1 A u l X Y E.aa.ls:=F
 have bM:=(F).le
 have aJ:aj 1 b c d.aa.ls X Y E.aa.ls:=aj.trans C F
 have bO:=aI.rowC (i:=0) rfl
 replace aa:a.af.ls.length≤1000:=aa
 refine jR [.int .u64 ((a.aV:Nat):Int), .int .i64 a.aG, .int .u64 ((a.az:Nat):Int), .int .u64 ((a.bU:Nat):Int), .slice p a.af.ls.length r] 79 5 1 aI ?_
 intro aK bZ ah
 replace ah:=yR (y:=row aK 1 1 (List.flatMap au.cells ([(au.mk a.aV a.aG a.az a.bU (Sv.mk p r a.af.ls))])) 79 5) rfl ah
 have aL:=ah.pk [3,4,1,0,2]
 refine WL.do rfl (yQ (k:=g.length) (m:=1) (rG) aL rfl rfl (jg Tryz.underlying32 (aL.rds (i:=3) rfl) (gV au.one ([(au.mk a.aV a.aG a.az a.bU (Sv.mk p r a.af.ls))]))) rfl (by omega) (s:=List.length (g++ [a])) (by first | omega | (simp only [List.length_append,List.length_cons,List.length_nil] <;> omega)) (List.flatMap_append).symm ?_)
 intro aM aN aX aY
 have aZ:=aY.pk [1,2,0,3,4]
 have bf:Own w D aX [sepL (List.flatMap yF (o++ [(au.mk a.aV a.aG a.az a.bU (Sv.mk p r a.af.ls))])),row aM (List.length (g++ [a])) aN (List.flatMap au.cells (o++ [(au.mk a.aV a.aG a.az a.bU (Sv.mk p r a.af.ls))])) 79 5,row aK 1 1 (List.flatMap au.cells ([(au.mk a.aV a.aG a.az a.bU (Sv.mk p r a.af.ls))])) 79 5,blk x [.slice X E.aa.ls.length Y, .int .i64 E.ai] 150]:=aZ.sepAdd (L2:= [row p a.af.ls.length r (List.flatMap (eI .i64) a.af.ls) 3 1]) (List.flatMap_append (f:=yF) (xs:=o) (ys:= [(au.mk a.aV a.aG a.az a.bU (Sv.mk p r a.af.ls))])).symm
 have bP:List.length (g++ [a])=g.length+1:=by simp only [List.length_append,List.length_cons,List.length_nil]
 have bQ:=bV (kH (es:= [(au.mk a.aV a.aG a.az a.bU (Sv.mk p r a.af.ls))]) (ms:= [a]) B rfl)
 refine Az rfl (xY (bN (yg (xS (Mz rfl (fw (.int .i64 ((j+1:Nat):Int)) (ym (e:=IntKind.i64.wrap (((j:Nat):Int)+1)) yk (by rw [A8 _ (by omega)]; omega)) (Az rfl (xY ?_))))))))
 have bg:=bf.pk [3,1,0]
 exact yE (aM,aN,(o++ [(au.mk a.aV a.aG a.az a.bU (Sv.mk p r a.af.ls))]),(g++ [a]),j+1,X,Y,E.aa.ls,E.ai,ag) ⟨rfl,rfl,rfl,rfl,rfl,rfl,trivial⟩ (R.2 ⟨bg,by exact(kH (es:= [(au.mk a.aV a.aG a.az a.bU (Sv.mk p r a.af.ls))]) (ms:= [a]) B rfl),by exact aJ,by omega,by omega,by omega,et (S) (et (ip h) (et (ip W) (ae Z)))⟩) (by show ag < ag+1; omega)
 refine jF (dF W) (Wp.exit (xX (xX (yx ?_))))
 have bi:=V.pk [0,1,2]
 exact yO (I,J,o,g,A,u,l,n) ⟨rfl,rfl,trivial⟩ (L.2 ⟨bi,by exact B,by exact C,by omega,by omega,by omega,by omega,ae (et (S) (et (ip h) (iN W)))⟩)
 refine Sz (dF h) (Sz (dF h) (Sz (dF h) (Sz (dF h) (Sz (dF h) (fw (.bool false) (xW rfl (dF h) rfl) (nt (jf (Wp.exit (xX (xX (yx ?_)))))))))))
 have bn:=V.pk [0,1,2]
 exact yO (I,J,o,g,A,u,l,n) ⟨rfl,rfl,trivial⟩ (L.2 ⟨bn,by exact B,by exact C,by omega,by omega,by omega,by omega,ae (et (S) (iN h))⟩)
 rintro ⟨M,N,G,t,O,P,z,Q⟩ cu ai
 show Wp _ _ _ [(7, .slice M t.length N),(6, .slice none 0 0)] _ _
 obtain⟨aO,T,U,bq,bv,bz,bA,ak⟩:=L.1 ai
 have bB:=bV T
 have bC:=(U).le
 refine sr (Mz rfl (An rfl (rt (rs ?_))))
 have aP:=aO.pk [1,2,0]
 have e:gQ d p1=(t,ReaderT.mk (Ll.mk z) Q):=ae ak
 obtain⟨rfl,rfl⟩:=gD (e.symm.trans hr)
 exact⟨M,N,G,O,P,rfl,aP,T,U,(by omega)⟩
def fM (c:ReaderT) (p1:Nat):(List bJ) × ReaderT:=
 bnd (aD c p1) fun a=>bnd (gQ a.2 ((a.1:Nat):Int)) fun b=>(b.1,b.2)
theorem lF (w:World) (D:Nat→Prop) (s:Nat) (d:ReaderT) (b:Option Addr) (a:Nat) (p1:Nat) (z:List bJ) (M:ReaderT) (H:Own w D w [blk s [.slice b d.aa.ls.length a, .int .i64 d.ai] 150]) (j:Ro w D fun w'=>bu w' 1 b d.aa.ls.length (List.flatMap eB d.aa.ls)) (N:d.aa.ls.length≤a∧d.aa.ls.length≤9223372036854775807) (ag:p1≤1000) (hr:fM d p1=(z,M)):
    Calls Tryz.prog 63 #[.pointer (some ⟨s,0,none⟩), .int .u64 ((p1:Nat):Int), .func (.func 64) #[] #[]] w (dC fun v w'=> ∃ (U:Option Addr) (V:Nat) (O:List au) (B1ox0:Option Addr) (b1ox0:Nat),v= .slice U z.length V∧Own w D w' [row U z.length V (List.flatMap au.cells O) 79 5,sepL (List.flatMap yF O),blk s [.slice B1ox0 M.aa.ls.length b1ox0, .int .i64 M.ai] 150]∧(List.map yz O=z)∧(aj 1 b a d.aa.ls B1ox0 b1ox0 M.aa.ls)∧(z.length≤1000)):=by
 refine xU (args:= [.pointer (some ⟨s,0,none⟩), .int .u64 ((p1:Nat):Int), .func (.func 64) #[] #[]]) Tryz.func63 rfl rfl rfl ?_
 show Wp _ _ _ [(0, .pointer (some ⟨s,0,none⟩)),(1, .int .u64 ((p1:Nat):Int)),(2, .func (.func 64) #[] #[])] _ _
 refine sr (Ar rfl (Mz rfl (Mz rfl (Mz rfl ?_))))
 obtain⟨⟨h,f⟩,m⟩:∃ q:Nat × ReaderT,aD d p1=q:=⟨_,rfl⟩
 obtain⟨ah,A,B,C,W⟩:=x8 H
 refine cl Tryz.call93 (dY _ _ s d b a p1 h f A (B _ j) (show d.aa.ls.length≤a∧d.aa.ls.length≤9223372036854775807 from by omega) m) ?_
 rintro _ ai ⟨t,k,rfl,E,c,n⟩
 have P:=C _ _ E
 replace c:aj 1 b a d.aa.ls t k f.aa.ls:=c
 have X:=(c).le
 replace n:h≤p1:=n
 refine fw (.int .i64 ((h:Nat):Int)) (ym (e:=IntKind.i64.wrap ((h:Nat):Int)) yk (A8 _ (by omega))) (Mz rfl ?_)
 obtain⟨⟨u,l⟩,o⟩:∃ q:(List bJ) × ReaderT,gQ f ((h:Nat):Int)=q:=⟨_,rfl⟩
 obtain⟨ak,F,G,I,Y⟩:=x8 P
 refine cl Tryz.call100 (lm _ _ s f t k ((h:Nat):Int) u l F (fun w9 h9=>aj.rds aU (by decide) c ((G _ j) w9 h9)) (show f.aa.ls.length≤k∧f.aa.ls.length≤9223372036854775807 from by omega) (by omega) o) ?_
 rintro _ ay ⟨Q,R,S,x,y,rfl,J,p,g,r⟩
 have K:=I _ _ J
 replace g:aj 1 t k f.aa.ls x y l.aa.ls:=g
 have Z:=(g).le
 have L:aj 1 b a d.aa.ls x y l.aa.ls:=aj.trans c g
 have aa:=bV p
 have af:=K.rowC (i:=0) rfl
 replace r:u.length≤1000:=r
 refine An rfl (rt (rs ?_))
 have T:=K.pk [0,1,2]
 have e:fM d p1=(u,l):=et (ae m) (ae o)
 obtain⟨rfl,rfl⟩:=gD (e.symm.trans hr)
 exact⟨Q,R,S,x,y,rfl,T,p,L,(by omega)⟩
def dB (p1:Int):Nat→List dX→Nat→List UInt8→Int→(List dX) × (List UInt8) × Int
  | 0,c,e,d,a=>default
  | f+1,c,e,d,a=>if((e:Nat):Int) < p1 then if a=0 then bnd (iY (ReaderT.mk (Ll.mk d) a)) fun b=>dB p1 f (c++ [b.1]) (e+1) b.2.aa.ls b.2.ai else(c,d,a) else(c,d,a)
def iM (a:ReaderT) (p1:Int):(List dX) × ReaderT:=
 bnd (bnd (dB p1 ((Int.toNat p1 - 0)+1) ([]) 0 a.aa.ls a.ai) fun sLrJjL=>(sLrJjL.1,sLrJjL.2.1,sLrJjL.2.2)) fun sJrJ=>(sJrJ.1,ReaderT.mk (Ll.mk sJrJ.2.1) sJrJ.2.2)
theorem lW (w:World) (D:Nat→Prop) (u:Nat) (g:ReaderT) (b:Option Addr) (c:Nat) (p1:Int) (r0:List dX) (r1:ReaderT) (H:Own w D w [blk u [.slice b g.aa.ls.length c, .int .i64 g.ai] 150]) (ai:Ro w D fun w'=>bu w' 1 b g.aa.ls.length (List.flatMap eB g.aa.ls)) (bf:g.aa.ls.length≤c∧g.aa.ls.length≤9223372036854775807) (bZ:p1≤1000) (hr:iM g p1=(r0,r1)):
    Calls Tryz.prog 102 #[.pointer (some ⟨u,0,none⟩), .int .i64 p1, .func (.func 66) #[] #[]] w (dC fun v w'=> ∃ (B0:Option Addr) (b0:Nat) (e0:List aM) (B1ox0:Option Addr) (b1ox0:Nat),v= .slice B0 r0.length b0∧Own w D w' [row B0 r0.length b0 (List.flatMap aM.cells e0) 84 4,sepL (List.flatMap yM e0),blk u [.slice B1ox0 r1.aa.ls.length b1ox0, .int .i64 r1.ai] 150]∧(List.map yG e0=r0)∧(aj 1 b c g.aa.ls B1ox0 b1ox0 r1.aa.ls)∧(r0.length≤1000)):=by
 refine xU (args:= [.pointer (some ⟨u,0,none⟩), .int .i64 p1, .func (.func 66) #[] #[]]) Tryz.func102 rfl rfl rfl ?_
 show Wp _ _ _ [(0, .pointer (some ⟨u,0,none⟩)),(1, .int .i64 p1),(2, .func (.func 66) #[] #[])] _ _
 refine sr (Ar rfl (An rfl (xV (sr (An rfl ?_)))))
 obtain⟨aD,aF⟩:∃ q:((Option Addr) × Nat × (List aM) × (List dX) × (Option Addr) × Nat × (List UInt8) × Int)→World→Prop,q=fun(i:(Option Addr) × Nat × (List aM) × (List dX) × (Option Addr) × Nat × (List UInt8) × Int) w'=>Own w D w' [blk u [.slice i.2.2.2.2.1 i.2.2.2.2.2.2.1.length i.2.2.2.2.2.1, .int .i64 i.2.2.2.2.2.2.2] 150,row i.1 i.2.2.2.1.length i.2.1 (List.flatMap aM.cells i.2.2.1) 84 4,sepL (List.flatMap yM i.2.2.1)]∧(List.map yG i.2.2.1=i.2.2.2.1∧aj 1 b c g.aa.ls i.2.2.2.2.1 i.2.2.2.2.2.1 i.2.2.2.2.2.2.1∧0≤i.2.2.2.1.length∧i.2.2.2.2.2.2.1.length≤g.aa.ls.length∧i.2.2.2.2.2.2.1.length≤g.aa.ls.length+1∧i.2.2.2.1.length≤1000∧(bnd (dB p1 ((Int.toNat p1 - 0)+1) ([]) 0 g.aa.ls g.ai) fun sLrJjL=>(sLrJjL.1,sLrJjL.2.1,sLrJjL.2.2))=(i.2.2.2.1,i.2.2.2.2.2.2.1,i.2.2.2.2.2.2.2)):=⟨_,rfl⟩
 have N:∀ {O:Option Addr} {P:Nat} {J:List aM} {x:List dX} {Q:Option Addr} {R:Nat} {B:List UInt8} {S:Int} {w':World},aD (O,P,J,x,Q,R,B,S) w'↔Own w D w' [blk u [.slice Q B.length R, .int .i64 S] 150,row O x.length P (List.flatMap aM.cells J) 84 4,sepL (List.flatMap yM J)]∧List.map yG J=x∧aj 1 b c g.aa.ls Q R B∧0≤x.length∧B.length≤g.aa.ls.length∧B.length≤g.aa.ls.length+1∧x.length≤1000∧(bnd (dB p1 ((Int.toNat p1 - 0)+1) ([]) 0 g.aa.ls g.ai) fun sLrJjL=>(sLrJjL.1,sLrJjL.2.1,sLrJjL.2.2))=(x,B,S):=by intros; subst aF; exact Iff.rfl
 refine ze (fun i:(Option Addr) × Nat × (List aM) × (List dX) × (Option Addr) × Nat × (List UInt8) × Int=> [(7, .slice i.1 i.2.2.2.1.length i.2.1),(6, .slice none 0 0)]) aD ?_ ?_
 refine bo ?_
 have bi:Own w D w [sepL (List.flatMap yM ([])),blk u [.slice b g.aa.ls.length c, .int .i64 g.ai] 150]:=H.sepNil
 have bn:Own w D w [row none 0 0 (List.flatMap aM.cells ([])) 84 4,sepL (List.flatMap yM ([])),blk u [.slice b g.aa.ls.length c, .int .i64 g.ai] 150]:=bi.free (fU 84 4)
 have bq:=bn.pk [2,0,1]
 obtain⟨aG,aH⟩:∃ q:((Option Addr) × Nat × (List aM) × (List dX) × Nat × (Option Addr) × Nat × (List UInt8) × Int × Nat)→World→Prop,q=fun(i:(Option Addr) × Nat × (List aM) × (List dX) × Nat × (Option Addr) × Nat × (List UInt8) × Int × Nat) w'=>Own w D w' [blk u [.slice i.2.2.2.2.2.1 i.2.2.2.2.2.2.2.1.length i.2.2.2.2.2.2.1, .int .i64 i.2.2.2.2.2.2.2.2.1] 150,row i.1 i.2.2.2.1.length i.2.1 (List.flatMap aM.cells i.2.2.1) 84 4,sepL (List.flatMap yM i.2.2.1)]∧(List.map yG i.2.2.1=i.2.2.2.1∧aj 1 b c g.aa.ls i.2.2.2.2.2.1 i.2.2.2.2.2.2.1 i.2.2.2.2.2.2.2.1∧i.2.2.2.1.length≤i.2.2.2.2.1∧(i.2.2.2.2.1=0∨((i.2.2.2.2.1:Nat):Int)≤p1)∧Int.toNat p1 - i.2.2.2.2.1 < i.2.2.2.2.2.2.2.2.2∧dB p1 ((Int.toNat p1 - 0)+1) ([]) 0 g.aa.ls g.ai=dB p1 i.2.2.2.2.2.2.2.2.2 i.2.2.2.1 i.2.2.2.2.1 i.2.2.2.2.2.2.2.1 i.2.2.2.2.2.2.2.2.1):=⟨_,rfl⟩
 have T:∀ {K:Option Addr} {L:Nat} {o:List aM} {l:List dX} {p:Nat} {C:Option Addr} {z:Nat} {r:List UInt8} {t:Int} {M:Nat} {w':World},aG (K,L,o,l,p,C,z,r,t,M) w'↔Own w D w' [blk u [.slice C r.length z, .int .i64 t] 150,row K l.length L (List.flatMap aM.cells o) 84 4,sepL (List.flatMap yM o)]∧List.map yG o=l∧aj 1 b c g.aa.ls C z r∧l.length≤p∧(p=0∨((p:Nat):Int)≤p1)∧Int.toNat p1 - p < M∧dB p1 ((Int.toNat p1 - 0)+1) ([]) 0 g.aa.ls g.ai=dB p1 M l p r t:=by intros; subst aH; exact Iff.rfl
 refine Wp.loop (fun i:(Option Addr) × Nat × (List aM) × (List dX) × Nat × (Option Addr) × Nat × (List UInt8) × Int × Nat=> [(7, .slice i.1 i.2.2.2.1.length i.2.1),(8, .int .i64 ((i.2.2.2.2.1:Nat):Int)),(6, .slice none 0 0),(0, .pointer (some ⟨u,0,none⟩)),(1, .int .i64 p1),(2, .func (.func 66) #[] #[])]) aG (fun i=>i.2.2.2.2.2.2.2.2.2) (none,0, [], [],0,b,c,g.aa.ls,g.ai,(Int.toNat p1 - 0)+1) ⟨rfl,rfl,rfl,rfl,rfl,rfl,trivial⟩ (T.2 ⟨bq,(show List.map yG ([])=([])∧aj 1 b c g.aa.ls b c g.aa.ls∧0≤0∧(0=0∨((0:Nat):Int)≤p1)∧Int.toNat p1 - 0 < ((Int.toNat p1 - 0)+1)∧dB p1 ((Int.toNat p1 - 0)+1) ([]) 0 g.aa.ls g.ai=dB p1 ((Int.toNat p1 - 0)+1) ([]) 0 g.aa.ls g.ai from ⟨by exact rfl,by exact(aj.refl (by omega)),by omega,by omega,by omega,rfl⟩)⟩) ?_
 rintro ⟨K,L,o,l,p,C,z,r,t,M⟩ cu aI
 show Wp _ _ _ [(7, .slice K l.length L),(8, .int .i64 ((p:Nat):Int)),(6, .slice none 0 0),(0, .pointer (some ⟨u,0,none⟩)),(1, .int .i64 p1),(2, .func (.func 66) #[] #[])] _ _
 obtain⟨Z,E,F,bM,bO,bP,U⟩:=T.1 aI
 have bQ:=bV E
 have bR:=(F).le
 obtain⟨ak,aJ⟩:∃ q,M=q+1:=⟨M - 1,by omega⟩
 subst aJ
 refine xV (sr (Mz rfl (Mz rfl (Kz (.bool (decide (((p:Nat):Int) < p1))) (Mz rfl ?_)))))
 by_cases n:((p:Nat):Int) < p1
 refine gw (.pointer (some ⟨u,0,none⟩)) (dT n) (yj rfl) (Gz (.pointer (some ⟨u,0,none⟩)) (dT n) (Gz (.pointer (some ⟨u,1,none⟩)) (dT n) (Gl (.int .i64 t) (dT n) Z 0 Tryz.isAgg38 (Gz (.bool (decide (t=0))) (dT n) (fw (.bool (decide (t=0))) (yw rfl (dT n) rfl) (nt ?_))))))
 by_cases aa:t=0
 refine jT (dT aa) (sk (xV (bo (xS (Mz rfl (Mz rfl (Mz rfl ?_)))))))
 obtain⟨⟨a,A⟩,ag⟩:∃ q:dX × ReaderT,iY (ReaderT.mk (Ll.mk r) t)=q:=⟨_,rfl⟩
 obtain⟨cz,aK,aL,aN,bS⟩:=x8 Z
 refine WL.do rfl (yB Tryz.call66 rfl rfl (nT _ _ u (ReaderT.mk (Ll.mk r) t) C z a A aK (fun w9 h9=>aj.rds aU (by decide) F ((aL _ ai) w9 h9)) (show r.length≤z∧r.length≤9223372036854775807 from by omega) ag) ?_)
 rintro _ cO ⟨h,j,d,V,W,rfl,aO,G,I,ah⟩
 have aP:=aN _ _ aO
 replace I:aj 1 C z r V W A.aa.ls:=I
 have bT:=(I).le
 have aQ:aj 1 b c g.aa.ls V W A.aa.ls:=aj.trans F I
 have bU:=bV G
 have bW:=aP.rowC (i:=0) rfl
 replace ah:a.ah.ls.length≤1000:=ah
 refine jR [.int .i64 a.aG, .int .u64 ((a.az:Nat):Int), .int .u64 ((a.bU:Nat):Int), .slice h a.ah.ls.length j] 84 4 1 aP ?_
 intro af cZ au
 replace au:=yR (y:=row af 1 1 (List.flatMap aM.cells ([(aM.mk a.aG a.az a.bU (Sv.mk h j d))])) 84 4) (congrArg (fun z9=>row af 1 1 [.int .i64 a.aG, .int .u64 ((a.az:Nat):Int), .int .u64 ((a.bU:Nat):Int), .slice h z9 j] 84 4) (bV G).symm) au
 have aR:=au.pk [4,5,1,2,0,3]
 refine WL.do rfl (yQ (k:=l.length) (m:=1) (rH) aR rfl rfl (jg Tryz.underlying33 (aR.rds (i:=4) rfl) (gV aM.one ([(aM.mk a.aG a.az a.bU (Sv.mk h j d))]))) rfl (by omega) (s:=List.length (l++ [a])) (by first | omega | (simp only [List.length_append,List.length_cons,List.length_nil] <;> omega)) (List.flatMap_append).symm ?_)
 intro ax ay aS bv
 have bz:=bv.pk [2,0,1,3,4,5]
 have bA:Own w D aS [row h d.length j (List.flatMap aA.cells d) 129 3,row ax (List.length (l++ [a])) ay (List.flatMap aM.cells (o++ [(aM.mk a.aG a.az a.bU (Sv.mk h j d))])) 84 4,sepL (List.flatMap yM o),sepL (List.flatMap yU d),row af 1 1 (List.flatMap aM.cells ([(aM.mk a.aG a.az a.bU (Sv.mk h j d))])) 84 4,blk u [.slice V A.aa.ls.length W, .int .i64 A.ai] 150]:=yR (y:=row h d.length j (List.flatMap aA.cells d) 129 3) (congrArg (fun z9=>row h z9 j (List.flatMap aA.cells d) 129 3) (bV G).symm) bz
 have bB:=bA.pk [2,0,3,1,4,5]
 have bC:Own w D aS [sepL (List.flatMap yM (o++ [(aM.mk a.aG a.az a.bU (Sv.mk h j d))])),row ax (List.length (l++ [a])) ay (List.flatMap aM.cells (o++ [(aM.mk a.aG a.az a.bU (Sv.mk h j d))])) 84 4,row af 1 1 (List.flatMap aM.cells ([(aM.mk a.aG a.az a.bU (Sv.mk h j d))])) 84 4,blk u [.slice V A.aa.ls.length W, .int .i64 A.ai] 150]:=bB.sepAdd (L2:= [row h d.length j (List.flatMap aA.cells d) 129 3,sepL (List.flatMap yU d)]) (List.flatMap_append (f:=yM) (xs:=o) (ys:= [(aM.mk a.aG a.az a.bU (Sv.mk h j d))])).symm
 have bX:List.length (l++ [a])=l.length+1:=by simp only [List.length_append,List.length_cons,List.length_nil]
 have bD:=bV (kH (es:= [(aM.mk a.aG a.az a.bU (Sv.mk h j d))]) (ms:= [a]) E (congrArg (fun z9=> [dX.mk a.aG a.az a.bU (Ll.mk z9)]) G))
 refine Az rfl (xY (bN (yg (xS (Mz rfl (fw (.int .i64 ((p+1:Nat):Int)) (ym (e:=IntKind.i64.wrap (((p:Nat):Int)+1)) yk (by rw [A8 _ (by omega)]; omega)) (Az rfl (xY ?_))))))))
 have aT:=bC.pk [3,1,0]
 exact yE (ax,ay,(o++ [(aM.mk a.aG a.az a.bU (Sv.mk h j d))]),(l++ [a]),p+1,V,W,A.aa.ls,A.ai,ak) ⟨rfl,rfl,rfl,rfl,rfl,rfl,trivial⟩ (T.2 ⟨aT,by exact(kH (es:= [(aM.mk a.aG a.az a.bU (Sv.mk h j d))]) (ms:= [a]) E (congrArg (fun z9=> [dX.mk a.aG a.az a.bU (Ll.mk z9)]) G)),by exact aQ,by omega,by omega,by omega,et (U) (et (ip n) (et (ip aa) (ae ag)))⟩) (by show ak < ak+1; omega)
 refine jF (dF aa) (Wp.exit (xX (xX (yx ?_))))
 have aV:=Z.pk [0,1,2]
 exact yO (K,L,o,l,C,z,r,t) ⟨rfl,rfl,trivial⟩ (N.2 ⟨aV,by exact E,by exact F,by omega,by omega,by omega,by omega,ae (et (U) (et (ip n) (iN aa)))⟩)
 refine Sz (dF n) (Sz (dF n) (Sz (dF n) (Sz (dF n) (Sz (dF n) (fw (.bool false) (xW rfl (dF n) rfl) (nt (jf (Wp.exit (xX (xX (yx ?_)))))))))))
 have aW:=Z.pk [0,1,2]
 exact yO (K,L,o,l,C,z,r,t) ⟨rfl,rfl,trivial⟩ (N.2 ⟨aW,by exact E,by exact F,by omega,by omega,by omega,by omega,ae (et (U) (iN n))⟩)
 rintro ⟨O,P,J,x,Q,R,B,S⟩ bY az
 show Wp _ _ _ [(7, .slice O x.length P),(6, .slice none 0 0)] _ _
 obtain⟨aX,X,Y,bE,bF,bG,bH,aB⟩:=N.1 az
 have bI:=bV X
 have bJ:=(Y).le
 refine sr (Mz rfl (An rfl (rt (rs ?_))))
 have aY:=aX.pk [1,2,0]
 have e:iM g p1=(x,ReaderT.mk (Ll.mk B) S):=ae aB
 obtain⟨rfl,rfl⟩:=gD (e.symm.trans hr)
 exact⟨O,P,J,Q,R,rfl,aY,X,Y,(by omega)⟩
def gB (c:ReaderT) (p1:Nat):(List dX) × ReaderT:=
 bnd (aD c p1) fun a=>bnd (iM a.2 ((a.1:Nat):Int)) fun b=>(b.1,b.2)
theorem mg (w:World) (D:Nat→Prop) (s:Nat) (d:ReaderT) (b:Option Addr) (a:Nat) (p1:Nat) (z:List dX) (M:ReaderT) (H:Own w D w [blk s [.slice b d.aa.ls.length a, .int .i64 d.ai] 150]) (j:Ro w D fun w'=>bu w' 1 b d.aa.ls.length (List.flatMap eB d.aa.ls)) (N:d.aa.ls.length≤a∧d.aa.ls.length≤9223372036854775807) (ag:p1≤1000) (hr:gB d p1=(z,M)):
    Calls Tryz.prog 65 #[.pointer (some ⟨s,0,none⟩), .int .u64 ((p1:Nat):Int), .func (.func 66) #[] #[]] w (dC fun v w'=> ∃ (U:Option Addr) (V:Nat) (O:List aM) (B1ox0:Option Addr) (b1ox0:Nat),v= .slice U z.length V∧Own w D w' [row U z.length V (List.flatMap aM.cells O) 84 4,sepL (List.flatMap yM O),blk s [.slice B1ox0 M.aa.ls.length b1ox0, .int .i64 M.ai] 150]∧(List.map yG O=z)∧(aj 1 b a d.aa.ls B1ox0 b1ox0 M.aa.ls)∧(z.length≤1000)):=by
 refine xU (args:= [.pointer (some ⟨s,0,none⟩), .int .u64 ((p1:Nat):Int), .func (.func 66) #[] #[]]) Tryz.func65 rfl rfl rfl ?_
 show Wp _ _ _ [(0, .pointer (some ⟨s,0,none⟩)),(1, .int .u64 ((p1:Nat):Int)),(2, .func (.func 66) #[] #[])] _ _
 refine sr (Ar rfl (Mz rfl (Mz rfl (Mz rfl ?_))))
 obtain⟨⟨h,f⟩,m⟩:∃ q:Nat × ReaderT,aD d p1=q:=⟨_,rfl⟩
 obtain⟨ah,A,B,C,W⟩:=x8 H
 refine cl Tryz.call93 (dY _ _ s d b a p1 h f A (B _ j) (show d.aa.ls.length≤a∧d.aa.ls.length≤9223372036854775807 from by omega) m) ?_
 rintro _ ai ⟨t,k,rfl,E,c,n⟩
 have P:=C _ _ E
 replace c:aj 1 b a d.aa.ls t k f.aa.ls:=c
 have X:=(c).le
 replace n:h≤p1:=n
 refine fw (.int .i64 ((h:Nat):Int)) (ym (e:=IntKind.i64.wrap ((h:Nat):Int)) yk (A8 _ (by omega))) (Mz rfl ?_)
 obtain⟨⟨u,l⟩,o⟩:∃ q:(List dX) × ReaderT,iM f ((h:Nat):Int)=q:=⟨_,rfl⟩
 obtain⟨ak,F,G,I,Y⟩:=x8 P
 refine cl Tryz.call102 (lW _ _ s f t k ((h:Nat):Int) u l F (fun w9 h9=>aj.rds aU (by decide) c ((G _ j) w9 h9)) (show f.aa.ls.length≤k∧f.aa.ls.length≤9223372036854775807 from by omega) (by omega) o) ?_
 rintro _ ax ⟨Q,R,S,x,y,rfl,J,p,g,r⟩
 have K:=I _ _ J
 replace g:aj 1 t k f.aa.ls x y l.aa.ls:=g
 have Z:=(g).le
 have L:aj 1 b a d.aa.ls x y l.aa.ls:=aj.trans c g
 have aa:=bV p
 have af:=K.rowC (i:=0) rfl
 replace r:u.length≤1000:=r
 refine An rfl (rt (rs ?_))
 have T:=K.pk [0,1,2]
 have e:gB d p1=(u,l):=et (ae m) (ae o)
 obtain⟨rfl,rfl⟩:=gD (e.symm.trans hr)
 exact⟨Q,R,S,x,y,rfl,T,p,L,(by omega)⟩
def bW (l:List UInt8):bL × Int:=
 bnd (fK l (67:UInt8)) fun k=>bnd (dh k) fun e=>bnd (aQ e.2) fun f=>bnd (aQ f.2) fun g=>bnd (aQ g.2) fun a=>bnd (eX a.2 255) fun b=>bnd (fM b.2 255) fun c=>bnd (gB c.2 255) fun d=>bnd (dD d.2) fun j=>bnd (iw j) fun h=>if h=0 then bnd (bn (bL.mk e.1 f.1 g.1 a.1 (Ll.mk b.1) (Ll.mk c.1) (Ll.mk d.1))) fun i=>if i=0 then(bL.mk e.1 f.1 g.1 a.1 (Ll.mk b.1) (Ll.mk c.1) (Ll.mk d.1),0) else(bL.mk 0 0 0 0 (Ll.mk ([])) (Ll.mk ([])) (Ll.mk ([])),i) else(bL.mk 0 0 0 0 (Ll.mk ([])) (Ll.mk ([])) (Ll.mk ([])),h)
set_option maxHeartbeats 4000000 in
theorem jm (w:World) (D:Nat→Prop) (A0:Option Addr) (n0 c0:Nat) (J:List UInt8) (r0:bL) (r1:Int) (H:Own w D w []) (K:Ro w D fun w'=>bu w' 1 A0 n0 (List.flatMap eB J)) (ib:n0=J.length) (jP:J.length *1≤211106232532992) (jQ:J.length≤c0) (hr:bW J=(r0,r1)):
    Calls Tryz.prog 17 #[.slice A0 n0 c0] w (dC fun v w'=> ∃ (bO:Option Addr) (bP:Nat) (bQ:Option Addr) (bR:Nat) (bS:Option Addr) (bT:Nat) (bf:List au) (bg:List aM),v= .tuple #[.agg #[.int .i64 r0.af, .int .u64 ((r0.az:Nat):Int), .int .u64 ((r0.bC:Nat):Int), .int .u64 ((r0.aS:Nat):Int), .slice bO r0.ag.ls.length bP, .slice bQ r0.ak.ls.length bR, .slice bS r0.aP.ls.length bT], .int .i64 r1]∧Own w D w' [row bO r0.ag.ls.length bP (List.flatMap aC.cells r0.ag.ls) 54 2,row bQ r0.ak.ls.length bR (List.flatMap au.cells bf) 79 5,sepL (List.flatMap yF bf),row bS r0.aP.ls.length bT (List.flatMap aM.cells bg) 84 4,sepL (List.flatMap yM bg)]∧(List.map yz bf=r0.ak.ls)∧(List.map yG bg=r0.aP.ls)∧(r0.ag.ls.length≤1000∧r0.ak.ls.length≤1000∧r0.aP.ls.length≤1000)):=by
 subst ib
 refine xU (args:= [.slice A0 J.length c0]) Tryz.func17 rfl rfl rfl ?_
 show Wp _ _ _ [(0, .slice A0 J.length c0)] _ _
 refine sr ?_
 refine dG [.int .i64 0, .int .u64 0, .int .u64 0, .int .u64 0, .slice none 0 0, .slice none 0 0, .slice none 0 0] 35 H ?_
 intro L jR ic
 refine Ar rfl (Mz rfl ?_)
 obtain⟨aF,aL⟩:∃ q,fK J (67:UInt8)=q:=⟨_,rfl⟩
 obtain⟨jS,eH,eO,eP,ja⟩:=yc ic
 refine cl Tryz.call49 (mr _ _ A0 J.length c0 J (67:UInt8) aF eH (eO _ K) rfl (by omega) (by first | omega | (simp only [List.length_take,List.length_drop]; omega) | exact Nat.le_refl _) aL) ?_
 rintro _ jU ⟨z,dw,bI,rfl,eQ,af⟩
 have ik:=eP _ _ eQ
 replace af:aj 1 A0 c0 J dw bI aF.aa.ls:=af
 have jb:=(af).le
 refine Ar rfl (Mz rfl ?_)
 obtain⟨⟨s,ag⟩,aN⟩:∃ q:Int × ReaderT,dh aF=q:=⟨_,rfl⟩
 obtain⟨jV,eT,eU,eY,jc⟩:=x8 ik
 refine cl Tryz.call50 (gH _ _ z aF dw bI s ag eT (fun w9 I=>aj.rds aU (by decide) af ((eU _ K) w9 I)) (show aF.aa.ls.length≤bI∧aF.aa.ls.length≤9223372036854775807 from by omega) aN) ?_
 rintro _ jW ⟨bK,bi,rfl,eZ,aO,bU⟩
 have il:=eY _ _ eZ
 replace aO:aj 1 dw bI aF.aa.ls bK bi ag.aa.ls:=aO
 have jd:=(aO).le
 have bX:aj 1 A0 c0 J bK bi ag.aa.ls:=aj.trans af aO
 replace bU:0≤s∧s≤255:=bU
 refine Kz (.agg #[.int .i64 s, .int .u64 0, .int .u64 0, .int .u64 0, .slice none 0 0, .slice none 0 0, .slice none 0 0]) ?_
 refine dG [.int .i64 0, .int .u64 0, .int .u64 0, .int .u64 0, .slice none 0 0, .slice none 0 0, .slice none 0 0] 35 il ?_
 intro A jX iq
 refine cZ [.int .i64 s, .int .u64 0, .int .u64 0, .int .u64 0, .slice none 0 0, .slice none 0 0, .slice none 0 0] 0 iq Tryz.sizeOf35 ?_
 intro jY iy
 refine ns (Mz rfl ?_)
 have iA:=iy.pk [1,0,2]
 obtain⟨⟨u,ai⟩,aP⟩:∃ q:Nat × ReaderT,aQ ag=q:=⟨_,rfl⟩
 obtain⟨jZ,fe,fo,fq,je⟩:=x8 iA
 refine cl Tryz.call51 (cK _ _ z ag bK bi u ai fe (fun w9 I=>aj.rds aU (by decide) bX ((fo _ K) w9 I)) (show ag.aa.ls.length≤bi∧ag.aa.ls.length≤9223372036854775807 from by omega) aP) ?_
 rintro _ j3 ⟨bM,bq,rfl,fu,aR,bY⟩
 have iB:=fq _ _ fu
 replace aR:aj 1 bK bi ag.aa.ls bM bq ai.aa.ls:=aR
 have jf:=(aR).le
 have bZ:aj 1 A0 c0 J bM bq ai.aa.ls:=aj.trans bX aR
 replace bY:u≤18446744073709551615:=bY
 refine Kz (.pointer (some ⟨A,1,none⟩)) ?_
 have iC:=iB.pk [1,0,2]
 refine cZ [.int .u64 ((u:Nat):Int)] 1 iC Tryz.sizeOf22 ?_
 intro j4 iD
 refine ns (Mz rfl ?_)
 have iE:=iD.pk [1,0,2]
 obtain⟨⟨x,ak⟩,aS⟩:∃ q:Nat × ReaderT,aQ ai=q:=⟨_,rfl⟩
 obtain⟨j5,fA,fB,fC,jg⟩:=x8 iE
 refine cl Tryz.call51 (cK _ _ z ai bM bq x ak fA (fun w9 I=>aj.rds aU (by decide) bZ ((fB _ K) w9 I)) (show ai.aa.ls.length≤bq∧ai.aa.ls.length≤9223372036854775807 from by omega) aS) ?_
 rintro _ j6 ⟨bN,bv,rfl,fD,aT,cu⟩
 have iF:=fC _ _ fD
 replace aT:aj 1 bM bq ai.aa.ls bN bv ak.aa.ls:=aT
 have jh:=(aT).le
 have cz:aj 1 A0 c0 J bN bv ak.aa.ls:=aj.trans bZ aT
 replace cu:x≤18446744073709551615:=cu
 refine Kz (.pointer (some ⟨A,2,none⟩)) ?_
 have fE:=iF.pk [1,0,2]
 refine cZ [.int .u64 ((x:Nat):Int)] 2 fE Tryz.sizeOf22 ?_
 intro ji fG
 refine ns (Mz rfl ?_)
 have fH:=fG.pk [1,0,2]
 obtain⟨⟨r,C⟩,P⟩:∃ q:Nat × ReaderT,aQ ak=q:=⟨_,rfl⟩
 obtain⟨jk,dx,dz,dA,iG⟩:=x8 fH
 refine cl Tryz.call51 (cK _ _ z ak bN bv r C dx (fun w9 I=>aj.rds aU (by decide) cz ((dz _ K) w9 I)) (show ak.aa.ls.length≤bv∧ak.aa.ls.length≤9223372036854775807 from by omega) P) ?_
 rintro _ jl ⟨aV,av,rfl,dB,Q,bz⟩
 have fI:=dA _ _ dB
 replace Q:aj 1 bN bv ak.aa.ls aV av C.aa.ls:=Q
 have iH:=(Q).le
 have bA:aj 1 A0 c0 J aV av C.aa.ls:=aj.trans cz Q
 replace bz:r≤18446744073709551615:=bz
 refine Kz (.pointer (some ⟨A,3,none⟩)) ?_
 have fJ:=fI.pk [1,0,2]
 refine cZ [.int .u64 ((r:Nat):Int)] 3 fJ Tryz.sizeOf22 ?_
 intro jo fO
 refine ns (Mz rfl ?_)
 have fP:=fO.pk [1,0,2]
 obtain⟨⟨a,E⟩,R⟩:∃ q:(List aC) × ReaderT,eX C 255=q:=⟨_,rfl⟩
 obtain⟨jq,dE,dH,dI,iI⟩:=x8 fP
 refine cl Tryz.call52 (kr _ _ z C aV av 255 a E dE (fun w9 I=>aj.rds aU (by decide) bA ((dH _ K) w9 I)) (show C.aa.ls.length≤av∧C.aa.ls.length≤9223372036854775807 from by omega) (by omega) R) ?_
 rintro _ jr ⟨h,d,aW,ax,rfl,dJ,S,bB⟩
 have cB:=dI _ _ dJ
 replace S:aj 1 aV av C.aa.ls aW ax E.aa.ls:=S
 have iJ:=(S).le
 have bC:aj 1 A0 c0 J aW ax E.aa.ls:=aj.trans bA S
 have iK:=cB.rowC (i:=0) rfl
 replace bB:a.length≤1000:=bB
 refine Kz (.pointer (some ⟨A,4,none⟩)) ?_
 have fQ:=cB.pk [2,0,1,3]
 refine cZ [.slice h a.length d] 4 fQ Tryz.sizeOf23 ?_
 intro jv fT
 refine ns (Mz rfl ?_)
 have fV:=fT.pk [2,0,1,3]
 obtain⟨⟨b,F⟩,T⟩:∃ q:(List bJ) × ReaderT,fM E 255=q:=⟨_,rfl⟩
 obtain⟨jw,dK,dL,dM,iL⟩:=x8 fV
 refine cl Tryz.call63 (lF _ _ z E aW ax 255 b F dK (fun w9 I=>aj.rds aU (by decide) bC ((dL _ K) w9 I)) (show E.aa.ls.length≤ax∧E.aa.ls.length≤9223372036854775807 from by omega) (by omega) T) ?_
 rintro _ jy ⟨j,f,o,aX,ay,rfl,dN,aG,U,bD⟩
 have cO:=dM _ _ dN
 replace U:aj 1 aW ax E.aa.ls aX ay F.aa.ls:=U
 have iM:=(U).le
 have bE:aj 1 A0 c0 J aX ay F.aa.ls:=aj.trans bC U
 have iO:=bV aG
 have iP:=cO.rowC (i:=0) rfl
 replace bD:b.length≤1000:=bD
 refine Kz (.pointer (some ⟨A,5,none⟩)) ?_
 have fZ:=cO.pk [3,0,1,2,4,5]
 refine cZ [.slice j b.length f] 5 fZ Tryz.sizeOf32 ?_
 intro jA gm
 refine ns (Mz rfl ?_)
 have gp:=gm.pk [3,0,1,2,4,5]
 obtain⟨⟨c,G⟩,V⟩:∃ q:(List dX) × ReaderT,gB F 255=q:=⟨_,rfl⟩
 obtain⟨jB,dO,dP,dQ,iQ⟩:=x8 gp
 refine cl Tryz.call65 (mg _ _ z F aX ay 255 c G dO (fun w9 I=>aj.rds aU (by decide) bE ((dP _ K) w9 I)) (show F.aa.ls.length≤ay∧F.aa.ls.length≤9223372036854775807 from by omega) (by omega) V) ?_
 rintro _ jC ⟨l,g,p,aY,az,rfl,dR,aH,W,bF⟩
 have df:=dQ _ _ dR
 replace W:aj 1 aX ay F.aa.ls aY az G.aa.ls:=W
 have iR:=(W).le
 have bG:aj 1 A0 c0 J aY az G.aa.ls:=aj.trans bE W
 have iT:=bV aH
 have iU:=df.rowC (i:=0) rfl
 replace bF:c.length≤1000:=bF
 refine Kz (.pointer (some ⟨A,6,none⟩)) ?_
 have gq:=df.pk [3,0,1,2,4,5,6,7]
 refine cZ [.slice l c.length g] 6 gq Tryz.sizeOf33 ?_
 intro jD gu
 refine ns (Mz rfl ?_)
 have gy:=gu.pk [3,0,1,2,4,5,6,7]
 obtain⟨n,X⟩:∃ q,dD G=q:=⟨_,rfl⟩
 obtain⟨jE,dS,dU,dV,iV⟩:=x8 gy
 refine cl Tryz.call59 (kT _ _ z G aY az n dS (fun w9 I=>aj.rds aU (by decide) bG ((dU _ K) w9 I)) (show G.aa.ls.length≤az∧G.aa.ls.length≤9223372036854775807 from by omega) X) ?_
 rintro _ jG ⟨y,t,rfl,dW,Y⟩
 have gz:=dV _ _ dW
 replace Y:aj 1 aY az G.aa.ls y t n.aa.ls:=Y
 have iW:=(Y).le
 have dY:aj 1 A0 c0 J y t n.aa.ls:=aj.trans bG Y
 refine nt (xV (sr (Mz rfl ?_)))
 obtain⟨M,Z⟩:∃ q,iw n=q:=⟨_,rfl⟩
 obtain⟨jI,dZ,d9,ed,iX⟩:=x8 gz
 refine cl Tryz.call60 (kU _ _ z n y t M dZ (fun w9 I=>aj.rds aU (by decide) dY ((d9 _ K) w9 I)) (show n.aa.ls.length≤t∧n.aa.ls.length≤9223372036854775807 from by omega) Z) ?_
 rintro _ jJ ⟨rfl,ek⟩
 have N:=ed _ _ ek
 refine Ar rfl (Mz rfl (fw (.bool (decide (¬ (M=0)))) (yJ (e:= !(decide (M=0))) yk decide_not.symm) (nt ?_)))
 by_cases aA:M=0
 refine jF (dF (Ba aA)) (sk (xV (sr (La ([.int .i64 s, .int .u64 ((u:Nat):Int), .int .u64 ((x:Nat):Int), .int .u64 ((r:Nat):Int), .slice h a.length d, .slice j b.length f, .slice l c.length g]) N 1 Tryz.isAgg35 Tryz.sizeOf35 ?_))))
 obtain⟨O,aI⟩:∃ q,bn (bL.mk s u x r (Ll.mk a) (Ll.mk b) (Ll.mk c))=q:=⟨_,rfl⟩
 obtain⟨jK,eu,iY,eD,B⟩:=yc N
 refine cl Tryz.call13 (kS _ _ (bL.mk s u x r (Ll.mk a) (Ll.mk b) (Ll.mk c)) h a.length d j b.length f o l c.length g p O eu rfl (B _ 6 _ rfl ig) (show a.length≤d∧a.length≤9223372036854775807 from by omega) aG rfl (B _ 4 _ rfl ig) (show b.length≤f∧b.length≤9223372036854775807 from by omega) (fun x9 I=>⟨B _ 5 _ rfl (jH (List.mem_flatMap.2 ⟨x9,I, .head _⟩) ig),oU (φ:=fun _=>_) N (i:=5) rfl (jH (List.mem_flatMap.2 ⟨x9,I, .head _⟩) nZ)⟩) aH rfl (B _ 2 _ rfl ig) (show c.length≤g∧c.length≤9223372036854775807 from by omega) (fun x9 I=>⟨B _ 3 _ rfl (jH (List.mem_flatMap.2 ⟨x9,I, .head _⟩) ig),oU (φ:=fun _=>_) N (i:=3) rfl (jH (List.mem_flatMap.2 ⟨x9,I, .head _⟩) nZ),(fun y1 k1=>⟨B _ 3 _ rfl (jH (List.mem_flatMap.2 ⟨x9,I, .tail _ (.head _)⟩) (jH (List.mem_flatMap.2 ⟨y1,k1, .head _⟩) ig)),oU (φ:=fun _=>_) N (i:=3) rfl (jH (List.mem_flatMap.2 ⟨x9,I, .tail _ (.head _)⟩) (jH (List.mem_flatMap.2 ⟨y1,k1, .head _⟩) nZ))⟩)⟩) (by first | omega | (dsimp only; omega) | (simp only [List.length_nil]; omega) | decide) aI) ?_
 rintro _ jN ⟨rfl,eG⟩
 have bH:=eD _ _ eG
 refine Ar rfl (Mz rfl (fw (.bool (decide (¬ (O=0)))) (yJ (e:= !(decide (O=0))) yk decide_not.symm) (nt ?_)))
 by_cases aZ:O=0
 refine jF (dF (Ba aZ)) (sk (sr (La ([.int .i64 s, .int .u64 ((u:Nat):Int), .int .u64 ((x:Nat):Int), .int .u64 ((r:Nat):Int), .slice h a.length d, .slice j b.length f, .slice l c.length g]) bH 1 Tryz.isAgg35 Tryz.sizeOf35 ?_)))
 have gF:=bH.pk [7,0,1,2,3,4,5,6]
 refine cZ [.int .i64 s, .int .u64 ((u:Nat):Int), .int .u64 ((x:Nat):Int), .int .u64 ((r:Nat):Int), .slice h a.length d, .slice j b.length f, .slice l c.length g] 0 gF Tryz.sizeOf35 ?_
 intro jO di
 refine An rfl (rt (yI (kX (vs:= [.agg #[.int .i64 s, .int .u64 ((u:Nat):Int), .int .u64 ((x:Nat):Int), .int .u64 ((r:Nat):Int), .slice h a.length d, .slice j b.length f, .slice l c.length g], .int .i64 0]) rfl (fF.cell rfl (yD (cs:= [.int .i64 s, .int .u64 ((u:Nat):Int), .int .u64 ((x:Nat):Int), .int .u64 ((r:Nat):Int), .slice h a.length d, .slice j b.length f, .slice l c.length g]) Tryz.isAgg35 Tryz.sizeOf35 ((di.cls (i:=0) rfl).lit (k:=0) (m:=7) rfl)) (fF.tmp rfl fF.nil)) (A7 rfl)) ?_))
 have gG:=di.pk [7,5,6,3,4]
 have e:bW J=(bL.mk s u x r (Ll.mk a) (Ll.mk b) (Ll.mk c),0):=et (ae aL) (et (ae aN) (et (ae aP) (et (ae aS) (et (ae P) (et (ae R) (et (ae T) (et (ae V) (et (ae X) (et (ae Z) (et (ip aA) (et (ae aI) (ip aZ))))))))))))
 obtain⟨rfl,rfl⟩:=gD (e.symm.trans hr)
 exact⟨h,d,j,f,l,g,o,p,rfl,gG,aG,aH,(by first | omega | (dsimp only; omega) | (simp only [List.length_nil]; omega) | decide)⟩
 refine jT (dT aZ) (sr (Kz (.agg #[.int .i64 0, .int .u64 0, .int .u64 0, .int .u64 0, .slice none 0 0, .slice none 0 0, .slice none 0 0]) (Mz rfl ?_)))
 have gI:=bH.pk [7,0,1,2,3,4,5,6]
 refine cZ [.int .i64 0, .int .u64 0, .int .u64 0, .int .u64 0, .slice none 0 0, .slice none 0 0, .slice none 0 0] 0 gI Tryz.sizeOf35 ?_
 intro aB dm
 refine An rfl (rt (tR (yI (kX (vs:= [.agg #[.int .i64 0, .int .u64 0, .int .u64 0, .int .u64 0, .slice none 0 0, .slice none 0 0, .slice none 0 0], .int .i64 O]) rfl (fF.cell rfl (yD (cs:= [.int .i64 0, .int .u64 0, .int .u64 0, .int .u64 0, .slice none 0 0, .slice none 0 0, .slice none 0 0]) Tryz.isAgg35 Tryz.sizeOf35 ((dm.cls (i:=0) rfl).lit (k:=0) (m:=7) rfl)) (fF.tmp rfl fF.nil)) (A7 rfl)) ?_)))
 have gJ:Own w D aB [row none 0 0 (List.flatMap aC.cells ([])) 54 2,blk L [.int .i64 0, .int .u64 0, .int .u64 0, .int .u64 0, .slice none 0 0, .slice none 0 0, .slice none 0 0] 35,blk z [.slice y n.aa.ls.length t, .int .i64 n.ai] 150,blk A [.int .i64 s, .int .u64 ((u:Nat):Int), .int .u64 ((x:Nat):Int), .int .u64 ((r:Nat):Int), .slice h a.length d, .slice j b.length f, .slice l c.length g] 35,row l c.length g (List.flatMap aM.cells p) 84 4,sepL (List.flatMap yM p),row j b.length f (List.flatMap au.cells o) 79 5,sepL (List.flatMap yF o),row h a.length d (List.flatMap aC.cells a) 54 2]:=dm.free (fU 54 2)
 have gK:Own w D aB [sepL (List.flatMap yF ([])),row none 0 0 (List.flatMap aC.cells ([])) 54 2,blk L [.int .i64 0, .int .u64 0, .int .u64 0, .int .u64 0, .slice none 0 0, .slice none 0 0, .slice none 0 0] 35,blk z [.slice y n.aa.ls.length t, .int .i64 n.ai] 150,blk A [.int .i64 s, .int .u64 ((u:Nat):Int), .int .u64 ((x:Nat):Int), .int .u64 ((r:Nat):Int), .slice h a.length d, .slice j b.length f, .slice l c.length g] 35,row l c.length g (List.flatMap aM.cells p) 84 4,sepL (List.flatMap yM p),row j b.length f (List.flatMap au.cells o) 79 5,sepL (List.flatMap yF o),row h a.length d (List.flatMap aC.cells a) 54 2]:=gJ.sepNil
 have gL:Own w D aB [row none 0 0 (List.flatMap au.cells ([])) 79 5,sepL (List.flatMap yF ([])),row none 0 0 (List.flatMap aC.cells ([])) 54 2,blk L [.int .i64 0, .int .u64 0, .int .u64 0, .int .u64 0, .slice none 0 0, .slice none 0 0, .slice none 0 0] 35,blk z [.slice y n.aa.ls.length t, .int .i64 n.ai] 150,blk A [.int .i64 s, .int .u64 ((u:Nat):Int), .int .u64 ((x:Nat):Int), .int .u64 ((r:Nat):Int), .slice h a.length d, .slice j b.length f, .slice l c.length g] 35,row l c.length g (List.flatMap aM.cells p) 84 4,sepL (List.flatMap yM p),row j b.length f (List.flatMap au.cells o) 79 5,sepL (List.flatMap yF o),row h a.length d (List.flatMap aC.cells a) 54 2]:=gK.free (fU 79 5)
 have gM:Own w D aB [sepL (List.flatMap yM ([])),row none 0 0 (List.flatMap au.cells ([])) 79 5,sepL (List.flatMap yF ([])),row none 0 0 (List.flatMap aC.cells ([])) 54 2,blk L [.int .i64 0, .int .u64 0, .int .u64 0, .int .u64 0, .slice none 0 0, .slice none 0 0, .slice none 0 0] 35,blk z [.slice y n.aa.ls.length t, .int .i64 n.ai] 150,blk A [.int .i64 s, .int .u64 ((u:Nat):Int), .int .u64 ((x:Nat):Int), .int .u64 ((r:Nat):Int), .slice h a.length d, .slice j b.length f, .slice l c.length g] 35,row l c.length g (List.flatMap aM.cells p) 84 4,sepL (List.flatMap yM p),row j b.length f (List.flatMap au.cells o) 79 5,sepL (List.flatMap yF o),row h a.length d (List.flatMap aC.cells a) 54 2]:=gL.sepNil
 have gN:Own w D aB [row none 0 0 (List.flatMap aM.cells ([])) 84 4,sepL (List.flatMap yM ([])),row none 0 0 (List.flatMap au.cells ([])) 79 5,sepL (List.flatMap yF ([])),row none 0 0 (List.flatMap aC.cells ([])) 54 2,blk L [.int .i64 0, .int .u64 0, .int .u64 0, .int .u64 0, .slice none 0 0, .slice none 0 0, .slice none 0 0] 35,blk z [.slice y n.aa.ls.length t, .int .i64 n.ai] 150,blk A [.int .i64 s, .int .u64 ((u:Nat):Int), .int .u64 ((x:Nat):Int), .int .u64 ((r:Nat):Int), .slice h a.length d, .slice j b.length f, .slice l c.length g] 35,row l c.length g (List.flatMap aM.cells p) 84 4,sepL (List.flatMap yM p),row j b.length f (List.flatMap au.cells o) 79 5,sepL (List.flatMap yF o),row h a.length d (List.flatMap aC.cells a) 54 2]:=gM.free (fU 84 4)
 have gP:=gN.pk [4,2,3,0,1]
 have e:bW J=(bL.mk 0 0 0 0 (Ll.mk ([])) (Ll.mk ([])) (Ll.mk ([])),O):=et (ae aL) (et (ae aN) (et (ae aP) (et (ae aS) (et (ae P) (et (ae R) (et (ae T) (et (ae V) (et (ae X) (et (ae Z) (et (ip aA) (et (ae aI) (iN aZ))))))))))))
 obtain⟨rfl,rfl⟩:=gD (e.symm.trans hr)
 exact⟨none,0,none,0,none,0, [], [],rfl,gP,rfl,rfl,(by first | omega | (dsimp only; omega) | (simp only [List.length_nil]; omega) | decide)⟩
 refine jT (dT aA) (sr (Kz (.agg #[.int .i64 0, .int .u64 0, .int .u64 0, .int .u64 0, .slice none 0 0, .slice none 0 0, .slice none 0 0]) (Mz rfl ?_)))
 have gQ:=N.pk [7,0,1,2,3,4,5,6]
 refine cZ [.int .i64 0, .int .u64 0, .int .u64 0, .int .u64 0, .slice none 0 0, .slice none 0 0, .slice none 0 0] 0 gQ Tryz.sizeOf35 ?_
 intro aD dn
 refine An rfl (rt (tR (yI (kX (vs:= [.agg #[.int .i64 0, .int .u64 0, .int .u64 0, .int .u64 0, .slice none 0 0, .slice none 0 0, .slice none 0 0], .int .i64 M]) rfl (fF.cell rfl (yD (cs:= [.int .i64 0, .int .u64 0, .int .u64 0, .int .u64 0, .slice none 0 0, .slice none 0 0, .slice none 0 0]) Tryz.isAgg35 Tryz.sizeOf35 ((dn.cls (i:=0) rfl).lit (k:=0) (m:=7) rfl)) (fF.tmp rfl fF.nil)) (A7 rfl)) ?_)))
 have gT:Own w D aD [row none 0 0 (List.flatMap aC.cells ([])) 54 2,blk L [.int .i64 0, .int .u64 0, .int .u64 0, .int .u64 0, .slice none 0 0, .slice none 0 0, .slice none 0 0] 35,blk z [.slice y n.aa.ls.length t, .int .i64 n.ai] 150,blk A [.int .i64 s, .int .u64 ((u:Nat):Int), .int .u64 ((x:Nat):Int), .int .u64 ((r:Nat):Int), .slice h a.length d, .slice j b.length f, .slice l c.length g] 35,row l c.length g (List.flatMap aM.cells p) 84 4,sepL (List.flatMap yM p),row j b.length f (List.flatMap au.cells o) 79 5,sepL (List.flatMap yF o),row h a.length d (List.flatMap aC.cells a) 54 2]:=dn.free (fU 54 2)
 have gU:Own w D aD [sepL (List.flatMap yF ([])),row none 0 0 (List.flatMap aC.cells ([])) 54 2,blk L [.int .i64 0, .int .u64 0, .int .u64 0, .int .u64 0, .slice none 0 0, .slice none 0 0, .slice none 0 0] 35,blk z [.slice y n.aa.ls.length t, .int .i64 n.ai] 150,blk A [.int .i64 s, .int .u64 ((u:Nat):Int), .int .u64 ((x:Nat):Int), .int .u64 ((r:Nat):Int), .slice h a.length d, .slice j b.length f, .slice l c.length g] 35,row l c.length g (List.flatMap aM.cells p) 84 4,sepL (List.flatMap yM p),row j b.length f (List.flatMap au.cells o) 79 5,sepL (List.flatMap yF o),row h a.length d (List.flatMap aC.cells a) 54 2]:=gT.sepNil
 have gV:Own w D aD [row none 0 0 (List.flatMap au.cells ([])) 79 5,sepL (List.flatMap yF ([])),row none 0 0 (List.flatMap aC.cells ([])) 54 2,blk L [.int .i64 0, .int .u64 0, .int .u64 0, .int .u64 0, .slice none 0 0, .slice none 0 0, .slice none 0 0] 35,blk z [.slice y n.aa.ls.length t, .int .i64 n.ai] 150,blk A [.int .i64 s, .int .u64 ((u:Nat):Int), .int .u64 ((x:Nat):Int), .int .u64 ((r:Nat):Int), .slice h a.length d, .slice j b.length f, .slice l c.length g] 35,row l c.length g (List.flatMap aM.cells p) 84 4,sepL (List.flatMap yM p),row j b.length f (List.flatMap au.cells o) 79 5,sepL (List.flatMap yF o),row h a.length d (List.flatMap aC.cells a) 54 2]:=gU.free (fU 79 5)
 have gW:Own w D aD [sepL (List.flatMap yM ([])),row none 0 0 (List.flatMap au.cells ([])) 79 5,sepL (List.flatMap yF ([])),row none 0 0 (List.flatMap aC.cells ([])) 54 2,blk L [.int .i64 0, .int .u64 0, .int .u64 0, .int .u64 0, .slice none 0 0, .slice none 0 0, .slice none 0 0] 35,blk z [.slice y n.aa.ls.length t, .int .i64 n.ai] 150,blk A [.int .i64 s, .int .u64 ((u:Nat):Int), .int .u64 ((x:Nat):Int), .int .u64 ((r:Nat):Int), .slice h a.length d, .slice j b.length f, .slice l c.length g] 35,row l c.length g (List.flatMap aM.cells p) 84 4,sepL (List.flatMap yM p),row j b.length f (List.flatMap au.cells o) 79 5,sepL (List.flatMap yF o),row h a.length d (List.flatMap aC.cells a) 54 2]:=gV.sepNil
 have gX:Own w D aD [row none 0 0 (List.flatMap aM.cells ([])) 84 4,sepL (List.flatMap yM ([])),row none 0 0 (List.flatMap au.cells ([])) 79 5,sepL (List.flatMap yF ([])),row none 0 0 (List.flatMap aC.cells ([])) 54 2,blk L [.int .i64 0, .int .u64 0, .int .u64 0, .int .u64 0, .slice none 0 0, .slice none 0 0, .slice none 0 0] 35,blk z [.slice y n.aa.ls.length t, .int .i64 n.ai] 150,blk A [.int .i64 s, .int .u64 ((u:Nat):Int), .int .u64 ((x:Nat):Int), .int .u64 ((r:Nat):Int), .slice h a.length d, .slice j b.length f, .slice l c.length g] 35,row l c.length g (List.flatMap aM.cells p) 84 4,sepL (List.flatMap yM p),row j b.length f (List.flatMap au.cells o) 79 5,sepL (List.flatMap yF o),row h a.length d (List.flatMap aC.cells a) 54 2]:=gW.free (fU 84 4)
 have gY:=gX.pk [4,2,3,0,1]
 have e:bW J=(bL.mk 0 0 0 0 (Ll.mk ([])) (Ll.mk ([])) (Ll.mk ([])),M):=et (ae aL) (et (ae aN) (et (ae aP) (et (ae aS) (et (ae P) (et (ae R) (et (ae T) (et (ae V) (et (ae X) (et (ae Z) (iN aA))))))))))
 obtain⟨rfl,rfl⟩:=gD (e.symm.trans hr)
 exact⟨none,0,none,0,none,0, [], [],rfl,gY,rfl,rfl,(by first | omega | (dsimp only; omega) | (simp only [List.length_nil]; omega) | decide)⟩
end Go.Proofs.YtcnkpjheifkgnaaGreat
