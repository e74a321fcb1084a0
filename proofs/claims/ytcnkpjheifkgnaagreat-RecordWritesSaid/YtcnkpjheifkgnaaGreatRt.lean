/-
 record: the document's bytes.
-/
import Derived.Test.YtcnkpjheifkgnaaGreatRcH
import Derived.Test.YtcnkpjheifkgnaaGreatRn
namespace Go.Proofs.YtcnkpjheifkgnaaGreat
set_option maxRecDepth 100000
open Go.RowKit
set_option linter.unusedVariables false
set_option linter.unusedSectionVars false
set_option linter.unusedSimpArgs false
def eX (b:List UInt8) (p1:List UInt8):(List UInt8):=
 bnd (ow p1) fun a=>(b++a)
theorem gq (w:World) (D:Nat→Prop) (n:Option Addr) (p o:Nat) (b:List UInt8) (p1:List UInt8) (e:List UInt8) (H:Own w D w [row n p o (List.flatMap eB b) 5 1]) (r:p=b.length) (G:b.length *1≤211106232532992) (I:b.length≤5000000000∧p1.length≤16) (hr:eX b p1=e):
    Calls Tryz.prog 31 #[.slice n p o, .string ⟨List.toArray p1⟩] w (dE fun v w'=> ∃ (z:Option Addr) (A:Nat),v= .slice z e.length A∧Own w D w' [row z e.length A (List.flatMap eB e) 5 1]∧(e.length≤b.length+p1.length+10)):=by
 subst r
 have J:=H.rowC (i:=0) rfl
 refine Ce (args:= [.slice n b.length o, .string ⟨List.toArray p1⟩]) Tryz.func31 rfl rfl rfl ?_
 show Wp _ _ _ [(0, .slice n b.length o),(1, .string ⟨List.toArray p1⟩)] _ _
 refine sr (Ar rfl (Mz rfl (Mz rfl ?_)))
 obtain⟨a,c⟩:∃ q,ow p1=q:=⟨_,rfl⟩
 obtain⟨K,f,B,g,C⟩:=Ck H
 refine cl Tryz.call75 (uI _ _ p1 a f (by omega) c) ?_
 rintro _ L ⟨M,N,rfl,h,d⟩
 have j:=g _ _ h
 have E:=j.rowC (i:=0) rfl
 replace d:a.length≤p1.length+10:=d
 have l:=j.pk [1,0]
 refine WL.do rfl (CU (k:=b.length) (m:=a.length) (kV) l rfl rfl (j5 Tryz.underlying37 (l.rds (i:=1) rfl) (ja mi a)) rfl (by omega) (s:=List.length (b++a)) (by first | omega | (simp only [List.length_append,List.length_cons,List.length_nil] <;> omega)) (List.flatMap_append).symm ?_)
 intro t u O x
 have F:List.length (b++a)=b.length+a.length:=by simp only [List.length_append,List.length_cons,List.length_nil]
 refine An rfl (rt (rs ?_))
 have y:=x.pk [0]
 obtain rfl:_=(b++a):=hr.symm.trans (ag c)
 exact⟨t,u,rfl,y,(by first | omega | (simp only [List.length_cons,List.length_nil,List.length_append]; omega))⟩
def pV (a:List UInt8) (p1:Bool):(List UInt8):=
 if p1=true then(a++ [1]) else(a++ [0])
theorem uJ (w:World) (D:Nat→Prop) (h:Option Addr) (l j:Nat) (a:List UInt8) (p1:Bool) (e:List UInt8) (H:Own w D w [row h l j (List.flatMap eB a) 5 1]) (n:l=a.length) (I:a.length *1≤211106232532992) (J:a.length≤4000000000) (hr:pV a p1=e):
    Calls Tryz.prog 81 #[.slice h l j, .bool p1] w (dE fun v w'=> ∃ (C:Option Addr) (E:Nat),v= .slice C e.length E∧Own w D w' [row C e.length E (List.flatMap eB e) 5 1]∧(e.length≤a.length+1)):=by
 subst n
 have K:=H.rowC (i:=0) rfl
 refine Ce (args:= [.slice h a.length j, .bool p1]) Tryz.func81 rfl rfl rfl ?_
 show Wp _ _ _ [(0, .slice h a.length j),(1, .bool p1)] _ _
 refine sr (An rfl (BS (sr (Mn rfl ?_))))
 rcases EO (p1) with b | b
 refine jT b (sr (Mz rfl ?_))
 refine ji [.int .u8 1] 5 1 1 H ?_
 intro o L c
 replace c:=CG (y:=row o 1 1 (List.flatMap eB ([1])) 5 1) rfl c
 have f:=c.pk [1,0]
 refine WL.do rfl (CU (k:=a.length) (m:=1) (kV) f rfl rfl (j5 Tryz.underlying37 (f.rds (i:=1) rfl) (ja mi ([1]))) rfl (by omega) (s:=List.length (a++ [1])) (by first | omega | (simp only [List.length_append,List.length_cons,List.length_nil] <;> omega)) (List.flatMap_append).symm ?_)
 intro p q M r
 have F:List.length (a++ [1])=a.length+1:=by simp only [List.length_append,List.length_cons,List.length_nil]
 refine An rfl (rt (tR (rs ?_)))
 have t:=r.pk [0]
 obtain rfl:_=(a++ [1]):=hr.symm.trans (ip b)
 exact⟨p,q,rfl,t,(by first | omega | (simp only [List.length_cons,List.length_nil,List.length_append]; omega))⟩
 refine jF b (sk (sr (Mz rfl ?_)))
 refine ji [.int .u8 0] 5 1 1 H ?_
 intro u N d
 replace d:=CG (y:=row u 1 1 (List.flatMap eB ([0])) 5 1) rfl d
 have g:=d.pk [1,0]
 refine WL.do rfl (CU (k:=a.length) (m:=1) (kV) g rfl rfl (j5 Tryz.underlying37 (g.rds (i:=1) rfl) (ja mi ([0]))) rfl (by omega) (s:=List.length (a++ [0])) (by first | omega | (simp only [List.length_append,List.length_cons,List.length_nil] <;> omega)) (List.flatMap_append).symm ?_)
 intro x z O A
 have G:List.length (a++ [0])=a.length+1:=by simp only [List.length_append,List.length_cons,List.length_nil]
 refine An rfl (rt (rs ?_))
 have B:=A.pk [0]
 obtain rfl:_=(a++ [0]):=hr.symm.trans (jE b)
 exact⟨x,z,rfl,B,(by first | omega | (simp only [List.length_cons,List.length_nil,List.length_append]; omega))⟩
def kC:List bH→List UInt8→(List UInt8)
  | [],a=>a
  | b::e,a=>bnd (eX a b.aV) fun c=>bnd (eX c b.aC) fun d=>kC e d
def kD:List cK→List UInt8→(List UInt8)
  | [],b=>b
  | a::f,b=>bnd (pV b a.eT) fun d=>bnd (eX d a.aC) fun e=>bnd (dJ a.aA.ls.length) fun c=>bnd (kC a.aA.ls (e++c)) fun sLrbLsbbbL=>kD f sLrbLsbbbL
def om (c:List UInt8) (b:List cK):(List UInt8):=
 bnd (dJ b.length) fun a=>bnd (kD b (c++a)) fun sLrbL=>sLrbL
set_option maxHeartbeats 1000000 in
theorem sw (w:World) (D:Nat→Prop) (A0:Option Addr) (n0 c0:Nat) (C:List UInt8) (M:Option Addr) (n1 c1:Nat) (d1:List aD) (j:List cK) (r0:List UInt8) (H:Own w D w [row A0 n0 c0 (List.flatMap eB C) 5 1]) (dO:n0=C.length) (gp:C.length *1≤211106232532992) (bF:List.map Cj d1=j) (aS:Ro w D fun w'=>bG w' 3 M n1 (List.flatMap aD.cells d1)) (au:∀ x ∈ d1,Ro w D (fun w'=>bG w' 2 x.aA.A x.aA.ls.length (List.flatMap bH.cells x.aA.ls))∧(x.aA.ls.length≤x.aA.c∧x.aA.ls.length≤9223372036854775807)) (dP:n1=j.length) (gu:j.length *48≤211106232532992) (gy:C.length≤1000000000) (aT:(j.length≤24∧∀ x ∈ j,x.aC.length≤16∧x.aA.ls.length≤4∧∀ q ∈ x.aA.ls,q.aV.length≤12∧q.aC.length≤16)) (hr:om C j=r0):
    Calls Tryz.prog 36 #[.slice A0 n0 c0, .slice M n1 c1] w (dE fun v w'=> ∃ (B0:Option Addr) (b0:Nat),v= .slice B0 r0.length b0∧Own w D w' [row B0 r0.length b0 (List.flatMap eB r0) 5 1]∧(r0.length≤C.length+10+239 *j.length)):=by
 subst dO dP
 have hdl1:=dm bF
 have gz:=H.rowC (i:=0) rfl
 have hh1a:=aT.1
 refine Ce (args:= [.slice A0 C.length c0, .slice M j.length c1]) Tryz.func36 rfl rfl rfl ?_
 show Wp _ _ _ [(0, .slice A0 C.length c0),(1, .slice M j.length c1)] _ _
 refine sr (Ar rfl (Mz rfl (Mz rfl (Kz (.int .i64 ((j.length:Nat):Int)) (fw (.int .u64 ((j.length:Nat):Int)) (Ci (e:=IntKind.u64.wrap ((j.length:Nat):Int)) yk (IntWalk.u64_in _ (by omega))) ?_)))))
 obtain⟨p,ax⟩:∃ q,dJ j.length=q:=⟨_,rfl⟩
 obtain⟨gB,bI,fq,bJ,fu⟩:=Ck H
 refine cl Tryz.call74 (nk _ _ j.length p bI (by omega) ax) ?_
 rintro _ gD ⟨gF,gG,rfl,bK,ay,az⟩
 have bL:=bJ _ _ bK
 have fA:=bL.rowC (i:=0) rfl
 replace ay:kU j.length p.length:=ay
 replace az:1≤p.length∧p.length≤10:=az
 have bO:=bL.pk [1,0]
 refine WL.do rfl (CU (k:=C.length) (m:=p.length) (kV) bO rfl rfl (j5 Tryz.underlying37 (bO.rds (i:=1) rfl) (ja mi p)) rfl (by omega) (s:=List.length (C++p)) (by first | omega | (simp only [List.length_append,List.length_cons,List.length_nil] <;> omega)) (List.flatMap_append).symm ?_)
 intro dQ dR gH dS
 have fB:List.length (C++p)=C.length+p.length:=by simp only [List.length_append,List.length_cons,List.length_nil]
 refine An rfl (BS (BS ?_))
 have dU:=dS.pk [0]
 refine BR (Mz rfl (Kz (.int .i64 ((j.length:Nat):Int)) (Mn rfl (bo ?_))))
 have dV:=dU.pk [0]
 obtain⟨bQ,bR⟩:∃ q:((Option Addr) × Nat × (List UInt8) × Nat)→World→Prop,q=fun(i:(Option Addr) × Nat × (List UInt8) × Nat) w'=>Own w D w' [row i.1 i.2.2.1.length i.2.1 (List.flatMap eB i.2.2.1) 5 1]∧(i.2.2.2≤j.length∧((i.2.2.1.length:Nat):Int)≤((C.length:Nat):Int)+10+239 *((i.2.2.2:Nat):Int)∧kD j (C++p)=kD (List.drop i.2.2.2 j) i.2.2.1):=⟨_,rfl⟩
 have P:∀ {z:Option Addr} {B:Nat} {n:List UInt8} {g:Nat} {w':World},bQ (z,B,n,g) w'↔Own w D w' [row z n.length B (List.flatMap eB n) 5 1]∧g≤j.length∧((n.length:Nat):Int)≤((C.length:Nat):Int)+10+239 *((g:Nat):Int)∧kD j (C++p)=kD (List.drop g j) n:=by intros; subst bR; exact Iff.rfl
 refine Wp.loop (fun i:(Option Addr) × Nat × (List UInt8) × Nat=> [(0, .slice i.1 i.2.2.1.length i.2.1),(17, .int .i64 ((i.2.2.2:Nat):Int)),(16, .int .i64 ((j.length:Nat):Int)),(15, .slice M j.length c1),(4, .slice none 0 0)]) bQ (fun i=>j.length - i.2.2.2) (dQ,dR,(C++p),0) ⟨rfl,rfl,rfl,rfl,rfl,trivial⟩ (P.2 ⟨dV,by omega,by omega,rfl⟩) ?_
 rintro ⟨z,B,n,g⟩ gI bS
 show Wp _ _ _ [(0, .slice z n.length B),(17, .int .i64 ((g:Nat):Int)),(16, .int .i64 ((j.length:Nat):Int)),(15, .slice M j.length c1),(4, .slice none 0 0)] _ _
 obtain⟨Q,fC,fD,aA⟩:=P.1 bS
 refine sr (Kz (.bool (decide (((g:Nat):Int) < ((j.length:Nat):Int)))) (nt (BS ?_)))
 by_cases bT:((g:Nat):Int) < ((j.length:Nat):Int)
 obtain⟨a,u⟩:=bU (ls:=d1) (i:=g) aD.len (by decide) (Q.ro aS) (by first | omega | (simp; done) | (simp; omega))
 have R:=jb bF u
 have fE:=(au _ (List.mem_of_getElem? u)).2
 have aB:a.aC.length≤16∧a.aA.ls.length≤4∧∀ q ∈ a.aA.ls,q.aV.length≤12∧q.aC.length≤16:=aT.2 _ (List.mem_of_getElem? R)
 have hz63a:=aB.1
 have hz63b:=aB.2.1
 have bV:=drop_at R
 refine jT (dT bT) (sk (BS (bo (sr (fw (.pointer (some ⟨ab M,ao M+g *3,none⟩)) (Ch (sI) rfl rfl ((Q.ro aS).addr (i:=g) (by omega)) (by omega)) (fw (.agg (aD.cells a).toArray) (Cc rfl (Cu (cs:=(aD.cells a)) Tryz.isAgg129 Tryz.sizeOf129 ((Q.ro aS).elem aD.len u (by decide)))) ?_))))))
 refine dB [.bool false, .string ⟨List.toArray ([])⟩, .slice none 0 0] 129 Q ?_
 intro o gJ dW
 refine dw (aD.cells a) 0 dW Tryz.sizeOf129 ?_
 intro dX dY
 refine nt (BS ?_)
 have av:=dY.drew
 refine CP [] (fun W=> ∃ L',Own w D W ([blk o (aD.cells a) 129]++L')) (by kernel_rfl) (by kernel_rfl) (Cs (bP.block (Cs (Cs (bP.block (Cs CR)))))) ⟨_,av⟩ ?_
 revert av
 generalize World.drew dX=gK
 intro av
 refine GX.take (v:= .slice z n.length B) (rs:= []) 0 rfl (by kernel_rfl) (fun _ _=>BX rfl) (GX.take (v:= .pointer (some ⟨o,0,none⟩)) (rs:= []) 1 rfl (by kernel_rfl) (fun _ _=>yk) (GX.take (v:= .bool a.eT) (rs:= []) 2 rfl (by kernel_rfl) (fun _ ⟨_,H9⟩=>Cc rfl (bi.one Tryz.isAgg4 (Cv (H9.cls (i:=0) rfl) rfl))) (GX.take (v:= .pointer (some ⟨o,1,none⟩)) (rs:= []) 4 rfl (by kernel_rfl) (fun _ _=>yk) (GX.take (v:= .string ⟨List.toArray a.aC⟩) (rs:= []) 5 rfl (by kernel_rfl) (fun _ ⟨_,H9⟩=>Cc rfl (bi.one Tryz.isAgg9 (Cv (H9.cls (i:=0) rfl) rfl))) ?_))))
 have dZ:=av.pk [1,0]
 obtain⟨E,aC⟩:∃ q,pV n a.eT=q:=⟨_,rfl⟩
 obtain⟨gL,bW,fF,bX,fG⟩:=Cg dZ
 refine GX.do 3 rfl (by kernel_rfl) (Cq Tryz.call81 rfl (uJ _ _ z n.length B n a.eT E bW rfl (by omega) (by first | omega | (simp only [List.length_cons,List.length_nil,List.length_append]; omega)) aC) ?_)
 rintro _ gM ⟨aV,aW,rfl,bY,aF⟩
 have bZ:=bX _ _ bY
 have fH:=bZ.rowC (i:=0) rfl
 replace aF:E.length≤n.length+1:=aF
 have cu:=bZ.pk [1,0]
 refine⟨.inr ⟨_,cu⟩, ?_⟩
 have d9:=cu.pk [1,0]
 obtain⟨l,aG⟩:∃ q,eX E a.aC=q:=⟨_,rfl⟩
 obtain⟨gN,cz,fI,cB,fJ⟩:=Cg d9
 refine GX.do 6 rfl (by kernel_rfl) (Cq Tryz.call31 rfl (gq _ _ aV E.length aW E a.aC l cz rfl (by omega) (by first | omega | (simp only [List.length_cons,List.length_nil,List.length_append]; omega)) aG) ?_)
 rintro _ gP ⟨S,F,rfl,cO,T⟩
 have cZ:=cB _ _ cO
 have ed:=cZ.rowC (i:=0) rfl
 replace T:l.length≤E.length+a.aC.length+10:=T
 have U:=cZ.pk [1,0]
 refine⟨.inr ⟨_,U⟩, ?_⟩
 refine GX.take (v:= .slice S l.length F) (rs:= []) 7 rfl (by kernel_rfl) (fun _ _=>CF rfl) (Cx (by kernel_rfl) (Ca (sr (Mz rfl (Kz (.pointer (some ⟨o,2,none⟩)) (Lz (.slice a.aA.A a.aA.ls.length a.aA.c) U 0 Tryz.isAgg127 (Kz (.int .i64 ((a.aA.ls.length:Nat):Int)) (fw (.int .u64 ((a.aA.ls.length:Nat):Int)) (Ci (e:=IntKind.u64.wrap ((a.aA.ls.length:Nat):Int)) yk (IntWalk.u64_in _ (by omega))) ?_))))))))
 obtain⟨b,V⟩:∃ q,dJ a.aA.ls.length=q:=⟨_,rfl⟩
 obtain⟨fK,aX,ek,aY,eu⟩:=Ck U
 refine cl Tryz.call74 (nk _ _ a.aA.ls.length b aX (by omega) V) ?_
 rintro _ fM ⟨G,I,rfl,aZ,X,Y⟩
 have aH:=aY _ _ aZ
 have eD:=aH.rowC (i:=0) rfl
 replace X:kU a.aA.ls.length b.length:=X
 replace Y:1≤b.length∧b.length≤10:=Y
 have aI:=aH.pk [2,0,1]
 refine WL.do rfl (CU (k:=l.length) (m:=b.length) (kV) aI rfl rfl (j5 Tryz.underlying37 (aI.rds (i:=1) rfl) (ja mi b)) rfl (by omega) (s:=List.length (l++b)) (by first | omega | (simp only [List.length_append,List.length_cons,List.length_nil] <;> omega)) (List.flatMap_append).symm ?_)
 intro Z aa fO aJ
 have eF:List.length (l++b)=l.length+b.length:=by simp only [List.length_append,List.length_cons,List.length_nil]
 refine Ar rfl (Kz (.pointer (some ⟨o,2,none⟩)) (Lz (.slice a.aA.A a.aA.ls.length a.aA.c) aJ 2 Tryz.isAgg127 (Kz (.int .i64 ((a.aA.ls.length:Nat):Int)) (Mn rfl (bo ?_)))))
 have df:=aJ.pk [1,2,0]
 obtain⟨aK,bf⟩:∃ q:((Option Addr) × Nat × (List UInt8) × Nat)→World→Prop,q=fun(i:(Option Addr) × Nat × (List UInt8) × Nat) w'=>Own w D w' [row G b.length I (List.flatMap eB b) 5 1,blk o (aD.cells a) 129,row i.1 i.2.2.1.length i.2.1 (List.flatMap eB i.2.2.1) 5 1]∧(i.2.2.2≤a.aA.ls.length∧((i.2.2.1.length:Nat):Int)≤((List.length (l++b):Nat):Int)+48 *((i.2.2.2:Nat):Int)∧kC a.aA.ls (l++b)=kC (List.drop i.2.2.2 a.aA.ls) i.2.2.1):=⟨_,rfl⟩
 have K:∀ {r:Option Addr} {t:Nat} {f:List UInt8} {d:Nat} {w':World},aK (r,t,f,d) w'↔Own w D w' [row G b.length I (List.flatMap eB b) 5 1,blk o (aD.cells a) 129,row r f.length t (List.flatMap eB f) 5 1]∧d≤a.aA.ls.length∧((f.length:Nat):Int)≤((List.length (l++b):Nat):Int)+48 *((d:Nat):Int)∧kC a.aA.ls (l++b)=kC (List.drop d a.aA.ls) f:=by intros; subst bf; exact Iff.rfl
 refine Wp.loop (fun i:(Option Addr) × Nat × (List UInt8) × Nat=> [(0, .slice i.1 i.2.2.1.length i.2.1),(38, .int .i64 ((i.2.2.2:Nat):Int)),(37, .int .i64 ((a.aA.ls.length:Nat):Int)),(36, .slice a.aA.A a.aA.ls.length a.aA.c),(35, .pointer (some ⟨o,2,none⟩)),(34, .slice Z (List.length (l++b)) aa),(33, .slice G b.length I),(32, .int .u64 ((a.aA.ls.length:Nat):Int)),(31, .int .i64 ((a.aA.ls.length:Nat):Int)),(30, .slice a.aA.A a.aA.ls.length a.aA.c),(29, .pointer (some ⟨o,2,none⟩)),(28, .slice S l.length F),(27, .slice S l.length F),(24, .slice aV E.length aW),(26, .string ⟨List.toArray a.aC⟩),(25, .pointer (some ⟨o,1,none⟩)),(23, .bool a.eT),(22, .pointer (some ⟨o,0,none⟩)),(21, .slice z n.length B),(6, .pointer (some ⟨o,0,none⟩)),(20, .agg (aD.cells a).toArray),(19, .pointer (some ⟨ab M,ao M+g *3,none⟩)),(18, .bool (decide (((g:Nat):Int) < ((j.length:Nat):Int)))),(17, .int .i64 ((g:Nat):Int)),(16, .int .i64 ((j.length:Nat):Int)),(15, .slice M j.length c1),(4, .slice none 0 0)]) aK (fun i=>a.aA.ls.length - i.2.2.2) (Z,aa,(l++b),0) ⟨rfl,rfl,rfl,rfl,rfl,rfl,rfl,rfl,rfl,rfl,rfl,rfl,rfl,rfl,rfl,rfl,rfl,rfl,rfl,rfl,rfl,rfl,rfl,rfl,rfl,rfl,rfl,trivial⟩ (K.2 ⟨df,by omega,by omega,rfl⟩) ?_
 rintro ⟨r,t,f,d⟩ fP bg
 show Wp _ _ _ [(0, .slice r f.length t),(38, .int .i64 ((d:Nat):Int)),(37, .int .i64 ((a.aA.ls.length:Nat):Int)),(36, .slice a.aA.A a.aA.ls.length a.aA.c),(35, .pointer (some ⟨o,2,none⟩)),(34, .slice Z (List.length (l++b)) aa),(33, .slice G b.length I),(32, .int .u64 ((a.aA.ls.length:Nat):Int)),(31, .int .i64 ((a.aA.ls.length:Nat):Int)),(30, .slice a.aA.A a.aA.ls.length a.aA.c),(29, .pointer (some ⟨o,2,none⟩)),(28, .slice S l.length F),(27, .slice S l.length F),(24, .slice aV E.length aW),(26, .string ⟨List.toArray a.aC⟩),(25, .pointer (some ⟨o,1,none⟩)),(23, .bool a.eT),(22, .pointer (some ⟨o,0,none⟩)),(21, .slice z n.length B),(6, .pointer (some ⟨o,0,none⟩)),(20, .agg (aD.cells a).toArray),(19, .pointer (some ⟨ab M,ao M+g *3,none⟩)),(18, .bool (decide (((g:Nat):Int) < ((j.length:Nat):Int)))),(17, .int .i64 ((g:Nat):Int)),(16, .int .i64 ((j.length:Nat):Int)),(15, .slice M j.length c1),(4, .slice none 0 0)] _ _
 obtain⟨J,eG,eH,ae⟩:=K.1 bg
 refine sr (Kz (.bool (decide (((d:Nat):Int) < ((a.aA.ls.length:Nat):Int)))) (nt (BS ?_)))
 by_cases aL:((d:Nat):Int) < ((a.aA.ls.length:Nat):Int)
 obtain⟨h,L⟩:=bU (ls:=a.aA.ls) (i:=d) bH.len (by decide) (J.ro (au _ (List.mem_of_getElem? u)).1) (by first | omega | (simp; done) | (simp; omega))
 have eO:h.aV.length≤12∧h.aC.length≤16:=(aT.2 _ (List.mem_of_getElem? R)).2.2 _ (List.mem_of_getElem? L)
 have bn:=drop_at L
 refine jT (dT aL) (sk (BS (bo (sr (fw (.pointer (some ⟨ab a.aA.A,ao a.aA.A+d *2,none⟩)) (Ch (qR) rfl rfl ((J.ro (au _ (List.mem_of_getElem? u)).1).addr (i:=d) (by omega)) (by omega)) (fw (.agg (bH.cells h).toArray) (Cc rfl (Cu (cs:=(bH.cells h)) Tryz.isAgg133 Tryz.sizeOf133 ((J.ro (au _ (List.mem_of_getElem? u)).1).elem bH.len L (by decide)))) ?_))))))
 refine dB [.string ⟨List.toArray ([])⟩, .string ⟨List.toArray ([])⟩] 133 J ?_
 intro af fQ dh
 refine dw (bH.cells h) 0 dh Tryz.sizeOf133 ?_
 intro di dn
 refine nt ?_
 have N:=dn.drew
 refine CP [] (fun W=> ∃ L',Own w D W ([blk af (bH.cells h) 133,row G b.length I (List.flatMap eB b) 5 1,blk o (aD.cells a) 129]++L')) (by kernel_rfl) (by kernel_rfl) (bP.block (Cs (Cs (bP.block (bP.block (Cs (Cs (bP.block (Cs CR))))))))) ⟨_,N⟩ ?_
 revert N
 generalize World.drew di=fT
 intro N
 refine GX.take (v:= .slice r f.length t) (rs:= []) 0 rfl (by kernel_rfl) (fun _ _=>BX rfl) (GX.take (v:= .pointer (some ⟨af,0,none⟩)) (rs:= []) 1 rfl (by kernel_rfl) (fun _ _=>yk) (GX.take (v:= .string ⟨List.toArray h.aV⟩) (rs:= []) 2 rfl (by kernel_rfl) (fun _ ⟨_,H9⟩=>Cc rfl (bi.one Tryz.isAgg9 (Cv (H9.cls (i:=0) rfl) rfl))) (GX.take (v:= .pointer (some ⟨af,1,none⟩)) (rs:= []) 4 rfl (by kernel_rfl) (fun _ _=>yk) (GX.take (v:= .string ⟨List.toArray h.aC⟩) (rs:= []) 5 rfl (by kernel_rfl) (fun _ ⟨_,H9⟩=>Cc rfl (bi.one Tryz.isAgg9 (Cv (H9.cls (i:=0) rfl) rfl))) ?_))))
 have dx:=N.pk [3,0,1,2]
 obtain⟨y,ah⟩:∃ q,eX f h.aV=q:=⟨_,rfl⟩
 obtain⟨fU,bq,eP,bu,eQ⟩:=Cg dx
 refine GX.do 3 rfl (by kernel_rfl) (Cq Tryz.call31 rfl (gq _ _ r f.length t f h.aV y bq rfl (by omega) (by first | omega | (simp only [List.length_cons,List.length_nil,List.length_append]; omega)) ah) ?_)
 rintro _ fV ⟨dz,dA,rfl,bv,ai⟩
 have aM:=bu _ _ bv
 have eT:=aM.rowC (i:=0) rfl
 replace ai:y.length≤f.length+h.aV.length+10:=ai
 have aN:=aM.pk [1,2,3,0]
 refine⟨.inr ⟨_,aN⟩, ?_⟩
 have dC:=aN.pk [3,0,1,2]
 obtain⟨O,aj⟩:∃ q,eX y h.aC=q:=⟨_,rfl⟩
 obtain⟨fZ,bz,eU,bA,eY⟩:=Cg dC
 refine GX.do 6 rfl (by kernel_rfl) (Cq Tryz.call31 rfl (gq _ _ dz y.length dA y h.aC O bz rfl (by omega) (by first | omega | (simp only [List.length_cons,List.length_nil,List.length_append]; omega)) aj) ?_)
 rintro _ gm ⟨aO,aP,rfl,bB,ak⟩
 have aQ:=bA _ _ bB
 have eZ:=aQ.rowC (i:=0) rfl
 replace ak:O.length≤y.length+h.aC.length+10:=ak
 have aR:=aQ.pk [1,2,3,0]
 refine⟨.inr ⟨_,aR⟩, ?_⟩
 refine GX.take (v:= .slice aO O.length aP) (rs:= []) 7 rfl (by kernel_rfl) (fun _ _=>CF rfl) (Cx (by kernel_rfl) (bN (Ca (BR (fw (.int .i64 ((d+1:Nat):Int)) (Ci (e:=IntKind.i64.wrap (((d:Nat):Int)+1)) yk (by rw [EL _ (by omega)]; omega)) (Mz rfl (Cf ?_)))))))
 have dD:=aR.pk [1,2,3]
 exact Cm (aO,aP,O,d+1) ⟨rfl,rfl,rfl,rfl,rfl,rfl,rfl,rfl,rfl,rfl,rfl,rfl,rfl,rfl,rfl,rfl,rfl,rfl,rfl,rfl,rfl,rfl,rfl,rfl,rfl,rfl,rfl,trivial⟩ (K.2 ⟨dD,by omega,by omega,et (ae) (et (congrArg (fun q=>kC q f) bn) (et (ag ah) (ag aj)))⟩) (by show a.aA.ls.length - (d+1) < a.aA.ls.length - d; omega)
 refine jF (dF aL) (Wp.exit (Cb ?_))
 have bC:kC a.aA.ls (l++b)=f:=et (ae) (et (congrArg (fun q=>kC q f) (bM (ls:=a.aA.ls) (i:=d) (by omega))) rfl)
 refine Cb (Cn (bN (Ca (BR (fw (.int .i64 ((g+1:Nat):Int)) (Ci (e:=IntKind.i64.wrap (((g:Nat):Int)+1)) yk (by rw [EL _ (by omega)]; omega)) (Mz rfl (Cf ?_)))))))
 have dG:=J.pk [2]
 exact Cm (r,t,f,g+1) ⟨rfl,rfl,rfl,rfl,rfl,trivial⟩ (P.2 ⟨dG,by omega,by omega,et (aA) (et (congrArg (fun q=>kD q n) bV) (et (ag aC) (et (ag aG) (et (ag V) (ag bC)))))⟩) (by show j.length - (g+1) < j.length - g; omega)
 refine jF (dF bT) (Wp.exit (Cb ?_))
 have bD:kD j (C++p)=n:=et (aA) (et (congrArg (fun q=>kD q n) (bM (ls:=j) (i:=g) (by omega))) rfl)
 refine Cb (Cn (Ca (sr (Mz rfl (An rfl (rt (rs ?_)))))))
 have dH:=Q.pk [0]
 obtain rfl:_=n:=hr.symm.trans (et (ag ax) (ag bD))
 exact⟨z,B,rfl,dH,(by first | omega | (simp only [List.length_cons,List.length_nil,List.length_append]; omega))⟩
def kE:List Nat→List UInt8→(List UInt8)
  | [],a=>a
  | c::d,a=>bnd (dJ c) fun b=>kE d (a++b)
def dC (a:List UInt8) (b:List Nat):(List UInt8):=
 bnd (kE b a) fun sLrL=>sLrL
theorem eG (w:World) (D:Nat→Prop) (A:Option Addr) (R B:Nat) (f:List UInt8) (p:Option Addr) (S c1:Nat) (c:List Nat) (C:List UInt8) (H:Own w D w [row A R B (List.flatMap eB f) 5 1]) (T:R=f.length) (ay:f.length *1≤211106232532992) (z:Ro w D fun w'=>bG w' 1 p S (List.flatMap (eN .u64) c)) (U:S=c.length) (az:c.length *8≤211106232532992) (aA:f.length≤5000000000) (E:(c.length≤100∧∀ x ∈ c,x≤18446744073709551615)) (hr:dC f c=C):
    Calls Tryz.prog 29 #[.slice A R B, .slice p S c1] w (dE fun v w'=> ∃ (B0:Option Addr) (b0:Nat),v= .slice B0 C.length b0∧Own w D w' [row B0 C.length b0 (List.flatMap eB C) 5 1]∧(C.length≤f.length+0+10 *c.length)):=by
 subst T U
 have aB:=H.rowC (i:=0) rfl
 have hh1a:=E.1
 refine Ce (args:= [.slice A f.length B, .slice p c.length c1]) Tryz.func29 rfl rfl rfl ?_
 show Wp _ _ _ [(0, .slice A f.length B),(1, .slice p c.length c1)] _ _
 refine sr (An rfl (BS (sr (Mz rfl (Kz (.int .i64 ((c.length:Nat):Int)) (Mn rfl (bo ?_)))))))
 have V:Own w D w [row A f.length B (List.flatMap eB f) 5 1]:=H.pk [0]
 obtain⟨F,G⟩:∃ q:((Option Addr) × Nat × (List UInt8) × Nat)→World→Prop,q=fun(i:(Option Addr) × Nat × (List UInt8) × Nat) w'=>Own w D w' [row i.1 i.2.2.1.length i.2.1 (List.flatMap eB i.2.2.1) 5 1]∧(i.2.2.2≤c.length∧((i.2.2.1.length:Nat):Int)≤((f.length:Nat):Int)+10 *((i.2.2.2:Nat):Int)∧kE c f=kE (List.drop i.2.2.2 c) i.2.2.1):=⟨_,rfl⟩
 have g:∀ {h:Option Addr} {j:Nat} {b:List UInt8} {a:Nat} {w':World},F (h,j,b,a) w'↔Own w D w' [row h b.length j (List.flatMap eB b) 5 1]∧a≤c.length∧((b.length:Nat):Int)≤((f.length:Nat):Int)+10 *((a:Nat):Int)∧kE c f=kE (List.drop a c) b:=by intros; subst G; exact Iff.rfl
 refine Wp.loop (fun i:(Option Addr) × Nat × (List UInt8) × Nat=> [(0, .slice i.1 i.2.2.1.length i.2.1),(9, .int .i64 ((i.2.2.2:Nat):Int)),(8, .int .i64 ((c.length:Nat):Int)),(7, .slice p c.length c1),(4, .slice none 0 0)]) F (fun i=>c.length - i.2.2.2) (A,B,f,0) ⟨rfl,rfl,rfl,rfl,rfl,trivial⟩ (g.2 ⟨V,by omega,by omega,rfl⟩) ?_
 rintro ⟨h,j,b,a⟩ aC I
 show Wp _ _ _ [(0, .slice h b.length j),(9, .int .i64 ((a:Nat):Int)),(8, .int .i64 ((c.length:Nat):Int)),(7, .slice p c.length c1),(4, .slice none 0 0)] _ _
 obtain⟨l,ah,ai,r⟩:=g.1 I
 refine sr (Kz (.bool (decide (((a:Nat):Int) < ((c.length:Nat):Int)))) (nt (BS ?_)))
 by_cases J:((a:Nat):Int) < ((c.length:Nat):Int)
 obtain⟨n,o⟩:=bU (ls:=c) (i:=a) fu (by decide) (l.ro z) (by first | omega | (simp; done) | (simp; omega))
 have aj:n≤18446744073709551615:=E.2 _ (List.mem_of_getElem? o)
 have K:=drop_at o
 refine jT (dT J) (sk (BS (bo (sr (fw (.pointer (some ⟨ab p,ao p+a *1,none⟩)) (Ch (jY) rfl rfl ((l.ro z).addr (i:=a) (by omega)) (by omega)) (fw (.int .u64 ((n:Nat):Int)) (Cc rfl (bi.one Tryz.isAgg22 (((l.ro z).elem fu o (by decide)).at_ (k:=0) rfl))) (An rfl (BR (Mz rfl (Mz rfl ?_))))))))))
 obtain⟨d,t⟩:∃ q,dJ n=q:=⟨_,rfl⟩
 obtain⟨aD,L,ak,M,au⟩:=Ck l
 refine cl Tryz.call74 (nk _ _ n d L (by omega) t) ?_
 rintro _ aF ⟨aG,aH,rfl,N,u,y⟩
 have O:=M _ _ N
 have av:=O.rowC (i:=0) rfl
 replace u:kU n d.length:=u
 replace y:1≤d.length∧d.length≤10:=y
 have P:=O.pk [1,0]
 refine WL.do rfl (CU (k:=b.length) (m:=d.length) (kV) P rfl rfl (j5 Tryz.underlying37 (P.rds (i:=1) rfl) (ja mi d)) rfl (by omega) (s:=List.length (b++d)) (by first | omega | (simp only [List.length_append,List.length_cons,List.length_nil] <;> omega)) (List.flatMap_append).symm ?_)
 intro W X aI Y
 have ax:List.length (b++d)=b.length+d.length:=by simp only [List.length_append,List.length_cons,List.length_nil]
 refine Az rfl (Cf (bN (Ca (BR (fw (.int .i64 ((a+1:Nat):Int)) (Ci (e:=IntKind.i64.wrap (((a:Nat):Int)+1)) yk (by rw [EL _ (by omega)]; omega)) (Mz rfl (Cf ?_)))))))
 have Z:=Y.pk [0]
 exact Cm (W,X,(b++d),a+1) ⟨rfl,rfl,rfl,rfl,rfl,trivial⟩ (g.2 ⟨Z,by omega,by omega,et (r) (et (congrArg (fun q=>kE q b) K) (ag t))⟩) (by show c.length - (a+1) < c.length - a; omega)
 refine jF (dF J) (Wp.exit (Cb ?_))
 have Q:kE c f=b:=et (r) (et (congrArg (fun q=>kE q b) (bM (ls:=c) (i:=a) (by omega))) rfl)
 refine Cb (Cn (Ca (sr (Mz rfl (An rfl (rt (rs ?_)))))))
 have aa:=l.pk [0]
 obtain rfl:_=b:=hr.symm.trans (ag Q)
 exact⟨h,j,rfl,aa,(by first | omega | (simp only [List.length_cons,List.length_nil,List.length_append]; omega))⟩
def iZ:List aL→List UInt8→(List UInt8)
  | [],a=>a
  | d::e,a=>bnd (eX a d.aK) fun b=>bnd (dC b ([(Int.toNat (IntKind.u64.wrap d.bV))])) fun c=>iZ e c
def lu (c:List UInt8) (b:List aL):(List UInt8):=
 bnd (dC c ([b.length])) fun a=>bnd (iZ b a) fun sLrbL=>sLrbL
theorem mJ (w:World) (D:Nat→Prop) (A0:Option Addr) (n0 c0:Nat) (j:List UInt8) (I:Option Addr) (n1 c1:Nat) (d:List aL) (r0:List UInt8) (H:Own w D w [row A0 n0 c0 (List.flatMap eB j) 5 1]) (bF:n0=j.length) (dO:j.length *1≤211106232532992) (aa:Ro w D fun w'=>bG w' 2 I n1 (List.flatMap aL.cells d)) (bH:n1=d.length) (dP:d.length *24≤211106232532992) (dQ:j.length≤4000000000) (aD:(d.length≤6∧∀ x ∈ d,x.aK.length≤12)) (hr:lu j d=r0):
    Calls Tryz.prog 30 #[.slice A0 n0 c0, .slice I n1 c1] w (dE fun v w'=> ∃ (B0:Option Addr) (b0:Nat),v= .slice B0 r0.length b0∧Own w D w' [row B0 r0.length b0 (List.flatMap eB r0) 5 1]∧(r0.length≤j.length+10+32 *d.length)):=by
 subst bF bH
 have dR:=H.rowC (i:=0) rfl
 have hh1a:=aD.1
 refine Ce (args:= [.slice A0 j.length c0, .slice I d.length c1]) Tryz.func30 rfl rfl rfl ?_
 show Wp _ _ _ [(0, .slice A0 j.length c0),(1, .slice I d.length c1)] _ _
 refine sr (Ar rfl (Mz rfl (Mz rfl (Kz (.int .i64 ((d.length:Nat):Int)) (fw (.int .u64 ((d.length:Nat):Int)) (Ci (e:=IntKind.u64.wrap ((d.length:Nat):Int)) yk (IntWalk.u64_in _ (by omega))) ?_)))))
 refine ji [.int .u64 ((d.length:Nat):Int)] 22 1 1 H ?_
 intro aF dS ae
 replace ae:=CG (y:=row aF 1 1 (List.flatMap (eN .u64) ([d.length])) 22 1) rfl ae
 have bI:=ae.pk [1,0]
 obtain⟨n,J⟩:∃ q,dC j ([d.length])=q:=⟨_,rfl⟩
 obtain⟨dU,aG,dh,aH,aI⟩:=Cg bI
 refine WL.do rfl (Cq Tryz.call29 rfl (eG _ _ A0 j.length c0 j aF 1 1 ([d.length]) n aG rfl (by omega) (aI _ 0 _ rfl eH) rfl (by simp) (by first | omega | (simp only [List.length_cons,List.length_nil,List.length_append]; omega)) (by refine⟨EK rfl, ?_⟩; simp only [List.mem_cons,List.not_mem_nil,or_false,forall_eq_or_imp,forall_eq]; omega) J) ?_)
 rintro _ dV ⟨bJ,bK,rfl,aJ,K⟩
 have aK:=aH _ _ aJ
 have dm:=aK.rowC (i:=0) rfl
 replace K:n.length≤j.length+0+10 *1:=K
 refine An rfl (BS (BS ?_))
 have bL:=aK.pk [0]
 refine BR (Mz rfl (Kz (.int .i64 ((d.length:Nat):Int)) (Mn rfl (bo ?_))))
 have bO:=bL.pk [0]
 obtain⟨aM,aN⟩:∃ q:((Option Addr) × Nat × (List UInt8) × Nat)→World→Prop,q=fun(i:(Option Addr) × Nat × (List UInt8) × Nat) w'=>Own w D w' [row i.1 i.2.2.1.length i.2.1 (List.flatMap eB i.2.2.1) 5 1]∧(i.2.2.2≤d.length∧((i.2.2.1.length:Nat):Int)≤((j.length:Nat):Int)+10+32 *((i.2.2.2:Nat):Int)∧iZ d n=iZ (List.drop i.2.2.2 d) i.2.2.1):=⟨_,rfl⟩
 have k:∀ {g:Option Addr} {h:Nat} {c:List UInt8} {b:Nat} {w':World},aM (g,h,c,b) w'↔Own w D w' [row g c.length h (List.flatMap eB c) 5 1]∧b≤d.length∧((c.length:Nat):Int)≤((j.length:Nat):Int)+10+32 *((b:Nat):Int)∧iZ d n=iZ (List.drop b d) c:=by intros; subst aN; exact Iff.rfl
 refine Wp.loop (fun i:(Option Addr) × Nat × (List UInt8) × Nat=> [(0, .slice i.1 i.2.2.1.length i.2.1),(15, .int .i64 ((i.2.2.2:Nat):Int)),(14, .int .i64 ((d.length:Nat):Int)),(13, .slice I d.length c1),(4, .slice none 0 0)]) aM (fun i=>d.length - i.2.2.2) (bJ,bK,n,0) ⟨rfl,rfl,rfl,rfl,rfl,trivial⟩ (k.2 ⟨bO,by omega,by omega,rfl⟩) ?_
 rintro ⟨g,h,c,b⟩ dW aO
 show Wp _ _ _ [(0, .slice g c.length h),(15, .int .i64 ((b:Nat):Int)),(14, .int .i64 ((d.length:Nat):Int)),(13, .slice I d.length c1),(4, .slice none 0 0)] _ _
 obtain⟨p,dn,dx,r⟩:=k.1 aO
 refine sr (Kz (.bool (decide (((b:Nat):Int) < ((d.length:Nat):Int)))) (nt (BS ?_)))
 by_cases aP:((b:Nat):Int) < ((d.length:Nat):Int)
 obtain⟨a,s⟩:=bU (ls:=d) (i:=b) aL.len (by decide) (p.ro aa) (by first | omega | (simp; done) | (simp; omega))
 have dz:a.aK.length≤12:=aD.2 _ (List.mem_of_getElem? s)
 have L:=drop_at s
 refine jT (dT aP) (sk (BS (bo (sr (fw (.pointer (some ⟨ab I,ao I+b *2,none⟩)) (Ch (ng) rfl rfl ((p.ro aa).addr (i:=b) (by omega)) (by omega)) (fw (.agg (aL.cells a).toArray) (Cc rfl (Cu (cs:=(aL.cells a)) Tryz.isAgg54 Tryz.sizeOf54 ((p.ro aa).elem aL.len s (by decide)))) ?_))))))
 refine dB [.string ⟨List.toArray ([])⟩, .int .i64 0] 54 p ?_
 intro af dX bQ
 refine dw (aL.cells a) 0 bQ Tryz.sizeOf54 ?_
 intro bR bS
 refine nt ?_
 have u:=bS.drew
 refine CP [] (fun W=> ∃ L',Own w D W ([blk af (aL.cells a) 54]++L')) (by kernel_rfl) (by kernel_rfl) (bP.block (Cs (Cs (bP.block (Cs CR))))) ⟨_,u⟩ ?_
 revert u
 generalize World.drew bR=dY
 intro u
 refine GX.take (v:= .slice g c.length h) (rs:= []) 0 rfl (by kernel_rfl) (fun _ _=>BX rfl) (GX.take (v:= .pointer (some ⟨af,0,none⟩)) (rs:= []) 1 rfl (by kernel_rfl) (fun _ _=>yk) (GX.take (v:= .string ⟨List.toArray a.aK⟩) (rs:= []) 2 rfl (by kernel_rfl) (fun _ ⟨_,H9⟩=>Cc rfl (bi.one Tryz.isAgg9 (Cv (H9.cls (i:=0) rfl) rfl))) (GX.take (v:= .pointer (some ⟨af,1,none⟩)) (rs:= []) 4 rfl (by kernel_rfl) (fun _ _=>yk) (GX.take (v:= .int .i64 a.bV) (rs:= []) 5 rfl (by kernel_rfl) (fun _ ⟨_,H9⟩=>Cc rfl (bi.one Tryz.isAgg3 (Cv (H9.cls (i:=0) rfl) rfl))) ?_))))
 have dA:Int.toNat (IntKind.u64.wrap a.bV)≤18446744073709551615:=gW _
 refine GX.take (v:= .int .u64 ((Int.toNat (IntKind.u64.wrap a.bV):Nat):Int)) (rs:= []) 6 rfl (by kernel_rfl) (fun _ _=>Ci (e:=IntKind.u64.wrap a.bV) yk (di _)) ?_
 refine DJ 3 7 (by kernel_rfl) ?_ ?_
 have bV:=u.pk [1,0]
 obtain⟨o,M⟩:∃ q,eX c a.aK=q:=⟨_,rfl⟩
 obtain⟨dZ,aQ,dD,aR,dG⟩:=Cg bV
 refine GY.do 3 rfl (by kernel_rfl) (Cq Tryz.call31 rfl (gq _ _ g c.length h c a.aK o aQ rfl (by omega) (by first | omega | (simp only [List.length_cons,List.length_nil,List.length_append]; omega)) M) ?_)
 rintro _ d9 ⟨bW,bX,rfl,aS,N⟩
 have aT:=aR _ _ aS
 have dH:=aT.rowC (i:=0) rfl
 replace N:o.length≤c.length+a.aK.length+10:=N
 have aU:=aT.pk [1,0]
 refine⟨.inr ⟨_,aU⟩, ?_⟩
 refine GX.do 7 rfl (by kernel_rfl) (De (cs:= [.int .u64 ((Int.toNat (IntKind.u64.wrap a.bV):Nat):Int)]) (t:=22) (sz:=1) (m:=1) aU rfl rfl (fun _=>by kernel_rfl) rfl (by decide) ?_)
 intro aV ed ah
 replace ah:=CG (y:=row aV 1 1 (List.flatMap (eN .u64) ([(Int.toNat (IntKind.u64.wrap a.bV))])) 22 1) rfl ah
 have aW:=ah.pk [1,0,2]
 refine⟨.inr ⟨_,aW⟩, ?_⟩
 have bY:=aW.pk [2,0,1]
 obtain⟨G,O⟩:∃ q,dC o ([(Int.toNat (IntKind.u64.wrap a.bV))])=q:=⟨_,rfl⟩
 obtain⟨ek,aX,dI,aY,aZ⟩:=Cg bY
 refine GX.do 8 rfl (by kernel_rfl) (Cq Tryz.call29 rfl (eG _ _ bW o.length bX o aV 1 1 ([(Int.toNat (IntKind.u64.wrap a.bV))]) G aX rfl (by omega) (aZ _ 1 _ rfl eH) rfl (by simp) (by first | omega | (simp only [List.length_cons,List.length_nil,List.length_append]; omega)) (by refine⟨EK rfl, ?_⟩; simp only [List.mem_cons,List.not_mem_nil,or_false,forall_eq_or_imp,forall_eq]; omega) O) ?_)
 rintro _ eu ⟨bf,P,rfl,bg,z⟩
 have bn:=aY _ _ bg
 have bZ:=bn.rowC (i:=0) rfl
 replace z:G.length≤o.length+0+10 *1:=z
 have Q:=bn.pk [1,0,2]
 refine⟨.inr ⟨_,Q⟩, ?_⟩
 refine GX.take (v:= .slice bf G.length P) (rs:= []) 9 rfl (by kernel_rfl) (fun _ _=>CF rfl) (Cx (by kernel_rfl) (bN (Ca (BR (fw (.int .i64 ((b+1:Nat):Int)) (Ci (e:=IntKind.i64.wrap (((b:Nat):Int)+1)) yk (by rw [EL _ (by omega)]; omega)) (Mz rfl (Cf ?_)))))))
 have bq:=Q.pk [1]
 exact Cm (bf,P,G,b+1) ⟨rfl,rfl,rfl,rfl,rfl,trivial⟩ (k.2 ⟨bq,by omega,by omega,et (r) (et (congrArg (fun q=>iZ q c) L) (et (ag M) (ag O)))⟩) (by show d.length - (b+1) < d.length - b; omega)
 refine GY.do 7 rfl (by kernel_rfl) (De (cs:= [.int .u64 ((Int.toNat (IntKind.u64.wrap a.bV):Nat):Int)]) (t:=22) (sz:=1) (m:=1) u rfl rfl (fun _=>by kernel_rfl) rfl (by decide) ?_)
 intro R dJ A
 replace A:=CG (y:=row R 1 1 (List.flatMap (eN .u64) ([(Int.toNat (IntKind.u64.wrap a.bV))])) 22 1) rfl A
 have S:=A.pk [1,0,2]
 refine⟨.inr ⟨_,S⟩, ?_⟩
 have bu:=S.pk [2,0,1]
 obtain⟨f,B⟩:∃ q,eX c a.aK=q:=⟨_,rfl⟩
 obtain⟨dK,ai,cu,aj,cz⟩:=Cg bu
 refine GX.do 3 rfl (by kernel_rfl) (Cq Tryz.call31 rfl (gq _ _ g c.length h c a.aK f ai rfl (by omega) (by first | omega | (simp only [List.length_cons,List.length_nil,List.length_append]; omega)) B) ?_)
 rintro _ dL ⟨bv,bz,rfl,ak,C⟩
 have T:=aj _ _ ak
 have cB:=T.rowC (i:=0) rfl
 replace C:f.length≤c.length+a.aK.length+10:=C
 have U:=T.pk [1,0,2]
 refine⟨.inr ⟨_,U⟩, ?_⟩
 have bA:=U.pk [1,0,2]
 obtain⟨l,E⟩:∃ q,dC f ([(Int.toNat (IntKind.u64.wrap a.bV))])=q:=⟨_,rfl⟩
 obtain⟨dM,au,cK,av,ax⟩:=Cg bA
 refine GX.do 8 rfl (by kernel_rfl) (Cq Tryz.call29 rfl (eG _ _ bv f.length bz f R 1 1 ([(Int.toNat (IntKind.u64.wrap a.bV))]) l au rfl (by omega) (ax _ 1 _ rfl eH) rfl (by simp) (by first | omega | (simp only [List.length_cons,List.length_nil,List.length_append]; omega)) (by refine⟨EK rfl, ?_⟩; simp only [List.mem_cons,List.not_mem_nil,or_false,forall_eq_or_imp,forall_eq]; omega) E) ?_)
 rintro _ dN ⟨V,X,rfl,ay,F⟩
 have Y:=av _ _ ay
 have cO:=Y.rowC (i:=0) rfl
 replace F:l.length≤f.length+0+10 *1:=F
 have Z:=Y.pk [1,0,2]
 refine⟨.inr ⟨_,Z⟩, ?_⟩
 refine GX.take (v:= .slice V l.length X) (rs:= []) 9 rfl (by kernel_rfl) (fun _ _=>CF rfl) (Cx (by kernel_rfl) (bN (Ca (BR (fw (.int .i64 ((b+1:Nat):Int)) (Ci (e:=IntKind.i64.wrap (((b:Nat):Int)+1)) yk (by rw [EL _ (by omega)]; omega)) (Mz rfl (Cf ?_)))))))
 have bB:=Z.pk [1]
 exact Cm (V,X,l,b+1) ⟨rfl,rfl,rfl,rfl,rfl,trivial⟩ (k.2 ⟨bB,by omega,by omega,et (r) (et (congrArg (fun q=>iZ q c) L) (et (ag B) (ag E)))⟩) (by show d.length - (b+1) < d.length - b; omega)
 refine jF (dF aP) (Wp.exit (Cb ?_))
 have az:iZ d n=c:=et (r) (et (congrArg (fun q=>iZ q c) (bM (ls:=d) (i:=b) (by omega))) rfl)
 refine Cb (Cn (Ca (sr (Mz rfl (An rfl (rt (rs ?_)))))))
 have bC:=p.pk [0]
 obtain rfl:_=c:=hr.symm.trans (et (ag J) (ag az))
 exact⟨g,h,rfl,bC,(by first | omega | (simp only [List.length_cons,List.length_nil,List.length_append]; omega))⟩
end Go.Proofs.YtcnkpjheifkgnaaGreat
