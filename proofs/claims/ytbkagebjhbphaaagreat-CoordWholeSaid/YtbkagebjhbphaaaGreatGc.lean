/-
 owner: what was told gathered.
-/
import Derived.Test.YtbkagebjhbphaaaGreatGaM
namespace Go.Proofs.YtbkagebjhbphaaaGreat
open Int renaming toNat→C6
open IntKind renaming i64→C3
open List renaming drop→r4,flatMap→q4,getD→B8,length→s0,length_append→o2,length_cons→s1,length_map→s3,length_nil→E7,length_replicate→H0,length_set→G4,map→s5,map_replicate→L9,mem_of_getElem?→D1,replicate→r7,set→I3
open Ll renaming mk→E0
open Sv renaming mk→G3
open _root_.Go.Proofs.Tryz renaming isAgg40→E1,underlying40→y6
set_option maxRecDepth 100000
open Go.RowKit
set_option linter.unusedVariables false
set_option linter.unusedSectionVars false
set_option linter.unusedSimpArgs false
def kH (i:List (Ll aQ)) (e:Nat):List Int→Nat→List (Ll aQ)→(List (Ll aQ))
  | [],c,b=>b
  | f::h,c,b=>bnd (B8 b (C6 f) default) fun g=>bnd (B8 i e default) fun d=>bnd (B8 d.ls c default) fun a=>kH i e h (c+1) (I3 b (C6 f) (E0 (g.ls++ [(aQ.mk a.dV a.aG (E0 a.aj.ls))])))
def jX (l0:List aN) (e:List (Ll aQ)):List fu→Nat→List (Ll aQ)→(List (Ll aQ))
  | [],a,b=>b
  | c::d,a,b=>bnd (kH e a c.aI.ls 0 b) fun sLrbtLsL=>jX l0 e d (a+1) sLrbtLsL
def jY (e:List (Ll aQ)):List aN→Nat→List aQ→(List aQ)
  | [],b,c=>c
  | f::g,b,c=>bnd (B8 e b default) fun d=>bnd (kU f d.ls) fun a=>jY e g (b+1) (I3 c b (aQ.mk a.dV a.aG (E0 a.aj.ls)))
def nQ (l0:List aN) (l1:List fu) (b:List (Ll aQ)):(List aQ) × Int:=
 bnd (j6 l0 l1 b) fun a=>if a=0 then bnd (jX l0 b l1 0 (r7 l0.length (E0 []:Ll aQ))) fun sLrbtL=>bnd (jY sLrbtL l0 0 (r7 l0.length (aQ.mk false ([]) (E0 ([]))))) fun sLrbtLaL=>(sLrbtLaL,0) else(([]:List aQ),a)
theorem xU (w D A0 n0 c0 l0 A1 n1 c1 d1 l1 A2 n2 c2 d2 I r0 r1) (H:Own w D w []) (bn:Ro w D fun w'=>aY w' 6 A0 n0 (q4 aN.cells l0)) (fB:n0=l0.length) (iV:l0.length *80≤211106232532992) (bI:s5 bO.abs d1=l1) (bq:Ro w D fun w'=>aY w' 3 A1 n1 (q4 bO.cells d1)) (X:∀ x ∈ d1,Ro w D (fun w'=>aY w' 6 x.aB.A x.aB.ls.length (q4 aN.cells x.aB.ls))∧(x.aB.ls.length≤x.aB.c∧x.aB.ls.length≤9223372036854775807)∧Ro w D (fun w'=>aY w' 1 x.aI.A x.aI.ls.length (q4 (eI .i64) x.aI.ls))∧(x.aI.ls.length≤x.aI.c∧x.aI.ls.length≤9223372036854775807)) (fC:n1=l1.length) (iW:l1.length *56≤211106232532992) (bK:s5 bP.abs d2=I) (bL:Ro w D fun w'=>aY w' 1 A2 n2 (q4 (I9 (β:=af)) d2)) (Y:∀ x ∈ d2,Ro w D (fun w'=>aY w' 3 x.A x.ls.length (q4 af.cells x.ls))∧(x.ls.length≤x.c∧x.ls.length≤9223372036854775807)∧(∀ y1 ∈ x.ls,Ro w D (fun w'=>aY w' 2 y1.aj.A y1.aj.ls.length (q4 aH.cells y1.aj.ls))∧(y1.aj.ls.length≤y1.aj.c∧y1.aj.ls.length≤9223372036854775807))) (fE:n2=I.length) (iX:I.length *24≤211106232532992) (aF:tt I≤100000000) (hr:nQ l0 l1 I=(r0,r1)):
    Calls Tryz.prog 129 #[.slice A0 n0 c0, .slice A1 n1 c1, .slice A2 n2 c2] w (dA fun v w'=> ∃ B0 b0 e0,v= .tuple #[.slice B0 r0.length b0,vI r1]∧Own w D w' [row B0 r0.length b0 (q4 af.cells e0) 149 3,sepL (q4 af.own e0)]∧(s5 af.abs e0=r0)):=by
 subst fB fC fE
 have gW:=aA bI
 have gX:=aA bK
 refine cb Tryz.func129 ?_
 refine sr (Az rfl (An rfl (Ik (sr (Mz rfl (Mz rfl (Mz rfl ?_)))))))
 obtain⟨aC,L⟩:∃ q,j6 l0 l1 I=q:=⟨_,rfl⟩
 obtain⟨iY,cZ,M,di,gY⟩:=Iu H
 refine cl Tryz.call148 (vD _ _ A0 l0.length c0 l0 A1 l1.length c1 d1 l1 A2 I.length c2 d2 I aC cZ (M _ bn) rfl e6 bI (M _ bq) (fun x9 W=>⟨M _ (X x9 W).1,(X x9 W).2.1,M _ (X x9 W).2.2.1,(X x9 W).2.2.2⟩) rfl e6 bK (M _ bL) (fun x9 W=>⟨M _ (Y x9 W).1,(Y x9 W).2.1,(fun y1 k1=>⟨M _ ((Y x9 W).2.2 y1 k1).1,((Y x9 W).2.2 y1 k1).2⟩)⟩) rfl e6 L) ?_
 rintro _ dm ⟨rfl,dw⟩
 have dx:=di _ _ dw
 have ib:I.length=l1.length∨¬ (aC=0):=Fg L
 refine Ar rfl (Mz rfl (fw (.bool (decide (¬ (aC=0)))) (IM (e:= !(decide (aC=0))) yk decide_not.symm) (nt ?_)))
 by_cases bz:aC=0
 refine jF (dF (Lr bz)) (sk (sr (Mz rfl (Kz (vJ l0.length) ?_))))
 refine WL.do rfl (Jt (x0:=(G3 none 0 []:bP)) (z:= .slice none 0 0) (k:=l0.length) (size:=1) (bytes:=24) rC f2 rfl Tryz.underlying105 e7 dx rfl rfl e6 (by unfold maxLen; omega) ?_)
 intro u iZ fG
 have fH:=fG.free (R:=sepL (q4 Row40H.own (r7 l0.length (G3 none 0 []:bP)))) (uQ (wX (eP 149 3)))
 have ic:s0 (r7 l0.length (G3 none 0 []:bP))=l0.length:=H0
 have ig:s0 (r7 l0.length (E0 []:Ll aQ))=l0.length:=H0
 have ik:yZ w D (r7 l0.length (G3 none 0 []:bP)):=uz _
 refine An rfl (Ik (sr (Mz rfl (Kz (vJ l1.length) (Mn rfl (bo ?_))))))
 have fI:=fH.pb [0]
 obtain⟨fJ,aG⟩:=rJ fun (g:Nat) Z C w'=>Own w D w' [row u l0.length l0.length (q4 (I9 (β:=af)) Z) 40 1,sepL (q4 Row40H.own Z)]∧s5 bP.abs Z=C∧C.length=l0.length∧g≤l1.length∧yZ w D Z∧tt C≤tt (List.take g I)∧jX l0 I l1 0 (r7 l0.length (E0 []:Ll aQ))=jX l0 I (r4 g l1) g C
 refine Wp.loop (fun i:Nat × (List bP) × (List (Ll aQ))=> [(28,vJ i.1),(27,vJ l1.length),(26, .slice A1 l1.length c1),(9, .slice u l0.length l0.length),(7,vI 0),(6, .slice none 0 0),(0, .slice A0 l0.length c0),(2, .slice A2 I.length c2)]) fJ (fun i=>l1.length - i.1) (0,(r7 l0.length (G3 none 0 []:bP)),(r7 l0.length (E0 []:Ll aQ))) ⟨rfl,rfl,rfl,rfl,rfl,rfl,rfl,rfl,trivial⟩ (aG.2 ⟨fI,by exact(L9 (f:=bP.abs)),by first | omega | (simp only [G4] <;> omega) | (simp only [H0]),e6,by first | assumption | exact uz _,by first | (rw [Aq]; exact Lp _) | exact Av f5 e6,rfl⟩) ?_
 rintro ⟨g,Z,C⟩ jb dz
 obtain⟨aI,aJ,il,iq,iw,iy,bB⟩:=aG.1 dz
 have iA:=aA aJ
 refine sr (Kz (.bool (decide (((g:Nat):Int) < ((l1.length:Nat):Int)))) (nt (Ik ?_)))
 by_cases dB:((g:Nat):Int) < ((l1.length:Nat):Int)
 obtain⟨j,N⟩:=dh (ls:=d1) (i:=g) bO.len f2 (aI.ro bq) e9
 have ax:=eY bI N
 have iB:=(X _ (D1 N)).2.1
 have iC:=(X _ (D1 N)).2.2.2
 have iD:j.aI.ls.length=s0 (B8 I g default).ls:=(Aw L e6 ax).1.symm.trans (Aw L e6 ax).2.1
 have dC:=drop_at ax
 refine jT (dT dB) (sk (Ik (bo (sr (Mz rfl (fw (.pointer (some ⟨ab A1,ao A1+g *3,none⟩)) (Iz (uR) rfl rfl ((aI.ro bq).addr (i:=g) e6) e6) (fw (.agg (bO.cells j).toArray) (IB rfl (IJ (cs:=(bO.cells j)) Tryz.isAgg172 Tryz.sizeOf172 ((aI.ro bq).elem bO.len N f2))) ?_)))))))
 refine dn [vI 0, .slice none 0 0, .slice none 0 0] 172 aI ?_
 intro fK jc fM
 refine Az rfl ?_
 refine df (bO.cells j) 0 fM Tryz.sizeOf172 ?_
 intro jd dD
 refine ns (Kz (vP fK 2) (Lz (.slice j.aI.A j.aI.ls.length j.aI.c) dD 0 Tryz.isAgg58 (Kz (vJ j.aI.ls.length) (Mn rfl (bo ?_)))))
 have fO:=dD.pk [1,2]
 obtain⟨fP,aK⟩:=rJ fun (p:Nat) F J w'=>Own w D w' [row u l0.length l0.length (q4 (I9 (β:=af)) F) 40 1,sepL (q4 Row40H.own F)]∧s5 bP.abs F=J∧J.length=l0.length∧p≤j.aI.ls.length∧yZ w D F∧tt J≤seen I g p∧kH I g j.aI.ls 0 C=kH I g (r4 p j.aI.ls) p J
 refine Wp.loop (fun i:Nat × (List bP) × (List (Ll aQ))=> [(36,vJ i.1),(35,vJ j.aI.ls.length),(34, .slice j.aI.A j.aI.ls.length j.aI.c),(10,vJ g),(28,vJ g),(27,vJ l1.length),(26, .slice A1 l1.length c1),(9, .slice u l0.length l0.length),(7,vI 0),(6, .slice none 0 0),(0, .slice A0 l0.length c0),(2, .slice A2 I.length c2)]) fP (fun i=>j.aI.ls.length - i.1) (0,Z,C) ⟨rfl,rfl,rfl,rfl,rfl,rfl,rfl,rfl,rfl,rfl,rfl,rfl,trivial⟩ (aK.2 ⟨fO,by exact aJ,by first | omega | (simp only [G4] <;> omega) | (simp only [H0]),e6,by first | assumption | exact uz _,by first | (rw [Dq]; assumption) | exact za f5 f5 f5 f5,rfl⟩) ?_
 rintro ⟨p,F,J⟩ je dE
 obtain⟨aL,ag,iE,iF,iH,iI,bC⟩:=aK.1 dE
 have iJ:=aA ag
 refine sr (Kz (.bool (decide (((p:Nat):Int) < ((j.aI.ls.length:Nat):Int)))) (nt (Ik ?_)))
 by_cases dG:((p:Nat):Int) < ((j.aI.ls.length:Nat):Int)
 obtain⟨n,aM⟩:=dh (ls:=j.aI.ls) (i:=p) iL f2 (aL.ro (X _ (D1 N)).2.2.1) e9
 have iK:0≤n∧n < ((l0.length:Nat):Int):=(Aw L e6 ax).2.2 _ (D1 aM)
 have dH:=drop_at aM
 refine jT (dT dG) (sk (Ik (bo (sr (Mz rfl (fw (.pointer (some ⟨ab j.aI.A,ao j.aI.A+p *1,none⟩)) (Iz (mq) rfl rfl ((aL.ro (X _ (D1 N)).2.2.1).addr (i:=p) e6) e6) (fw (vI n) (IB rfl (bJ.one Tryz.isAgg3 (((aL.ro (X _ (D1 N)).2.2.1).elem iL aM f2).at_ (k:=0) rfl))) (Az rfl (An rfl ?_)))))))))
 refine pM [14,16] (bv.block (IE (IE (bv.block (bv.block (IE (IE (bv.block (IE IQ))))))))) aL ?_
 intro jf fQ
 refine I4 (v:= .slice u l0.length l0.length) 0 rfl e7 (fun _=>IA rfl) (I4 (v:=vJ (C6 n)) 1 rfl e7 (fun _=>Ir (e:=n) (IA rfl) e6) (qv 2 rfl rfl (qt (v:=vJ (C6 n)) 3 rfl (fun _ _=>Ir (e:=n) (IA rfl) e6) ?_)))
 obtain⟨h,O⟩:=iG (ls:=F) (i:=C6 n) e9
 have aO:=eY ag O
 obtain⟨iM,iO⟩:h.ls.length≤100000000∧s0 (s5 af.abs h.ls)≤100000000:=by first | exact xS f5 (BJ _ _ _) aF aO | exact xS f5 (wI _ _) aF aO
 refine qt (v:= .pointer (some ⟨ab u,ao u+(C6 n) *1,none⟩)) 4 rfl (fun _ ⟨_,V⟩=>Iz (wE) rfl rfl ((V.rds (i:=0) rfl).addr (i:=C6 n) e6) e6) (qt (v:= .slice h.A h.ls.length h.c) 5 rfl (fun _ ⟨_,V⟩=>IB rfl (bJ.one E1 (((V.rds (i:=0) rfl).elem rC O f2).at_ (k:=0) rfl))) (qv 6 rfl rfl (qv 7 rfl rfl ?_)))
 obtain⟨B,G⟩:=iG (ls:=d2) (i:=g) e9
 have aP:=eY bK G
 have fT:=(Y _ (D1 G)).2.1
 have fU:s0 (s5 af.abs B.ls)=B.ls.length:=s3 ..
 have fV:B.ls.length=s0 (B8 I g default).ls:=by rw [zC aP]; exact(s3 ..).symm
 refine qt (v:= .pointer (some ⟨ab A2,ao A2+g *1,none⟩)) 8 rfl (fun _ ⟨_,V⟩=>Iz (wE) rfl rfl ((V.ro bL).addr (i:=g) e6) e6) (qt (v:= .slice B.A B.ls.length B.c) 9 rfl (fun _ ⟨_,V⟩=>IB rfl (bJ.one E1 (((V.ro bL).elem rC G f2).at_ (k:=0) rfl))) (qv 10 rfl rfl ?_))
 obtain⟨a,aa⟩:=iG (ls:=B.ls) (i:=p) e9
 have bM:=eY (rfl:s5 af.abs B.ls=s5 af.abs B.ls) aa
 have fZ:=((Y _ (D1 G)).2.2 _ (D1 aa)).2
 refine qt (v:= .pointer (some ⟨ab B.A,ao B.A+p *3,none⟩)) 11 rfl (fun _ ⟨_,V⟩=>Iz (rX) rfl rfl ((V.ro (Y _ (D1 G)).1).addr (i:=p) e6) e6) (qt (v:= .agg (af.cells a).toArray) 12 rfl (fun _ ⟨_,V⟩=>IB rfl (IJ (cs:=(af.cells a)) Tryz.isAgg149 Tryz.sizeOf149 ((V.ro (Y _ (D1 G)).1).elem af.len aa f2))) ?_)
 refine qd 13 rfl (Jq (cs:=(af.cells a)) (t:=149) (sz:=3) (m:=1) fQ rfl rfl (fun _=>by kernel_rfl) rfl f2 ?_)
 intro aR dI aS
 replace aS:=IX (y:=row aR 1 1 (q4 af.cells ([(af.mk a.dV a.aG (G3 a.aj.A a.aj.c a.aj.ls))])) 149 3) rfl aS
 have bD:=aS.pb [0]
 refine⟨.inr ⟨_,bD⟩, ?_⟩
 have dJ:=bD.pf [1]
 have aU:Own w D dI [row h.A h.ls.length h.c (q4 af.cells h.ls) 149 3,sepL (q4 Row40H.own (List.take (C6 n) F)++q4 Row40H.own (r4 (C6 n+1) F)),row u l0.length l0.length (q4 (I9 (β:=af)) F) 40 1,row aR 1 1 (q4 af.cells ([(af.mk a.dV a.aG (G3 a.aj.A a.aj.c a.aj.ls))])) 149 3]:=Jm (f:=Row40H.own) (i:=C6 n) O dJ
 have gm:=aU.rowC (i:=0) rfl
 refine qd 14 rfl (IW (k:=h.ls.length) (m:=1) (rX) aU rfl rfl (gN y6 (aU.rds (i:=3) rfl) (dX af.one ([(af.mk a.dV a.aG (G3 a.aj.A a.aj.c a.aj.ls))]))) rfl e6 (s:=s0 (h.ls++ [(af.mk a.dV a.aG (G3 a.aj.A a.aj.c a.aj.ls))])) f7 (List.flatMap_append).symm ?_)
 intro P Q dK bE
 have bQ:∀ x:af,x ∈ (h.ls++ [(af.mk a.dV a.aG (G3 a.aj.A a.aj.c a.aj.ls))])→Ro w D (fun w'=>aY w' 2 x.aj.A x.aj.ls.length (q4 aH.cells x.aj.ls))∧(x.aj.ls.length≤x.aj.c∧x.aj.ls.length≤9223372036854775807):=fun x9 W=>Or.elim (List.mem_append.1 W) (fun W=>(Ap f5 O) x9 W) (fun W=>(by rcases List.mem_cons.1 W with rfl | W; exact⟨((Y _ (D1 G)).2.2 _ (D1 aa)).1,(show a.aj.ls.length≤a.aj.c∧a.aj.ls.length≤9223372036854775807 from by omega)⟩; exact(absurd W List.not_mem_nil)))
 have gp:s0 (h.ls++ [(af.mk a.dV a.aG (G3 a.aj.A a.aj.c a.aj.ls))])=h.ls.length+1:=by simp only [o2,s1,E7]
 have gq:=aA (nu (es:= [(af.mk a.dV a.aG (G3 a.aj.A a.aj.c a.aj.ls))]) (ms:= [(aQ.mk a.dV a.aG (E0 a.aj.ls))]) (rfl:s5 af.abs h.ls=s5 af.abs h.ls) rfl)
 refine⟨.inl e7, ?_⟩
 refine I4 (v:= .pointer (some ⟨ab u,ao u+(C6 n) *1,none⟩)) 15 rfl e7 (fun _=>Iz (wE) rfl rfl ((bE.rds (i:=2) rfl).addr (i:=C6 n) e6) e6) ?_
 have dL:Own w D dK [sepL (q4 Row40H.own (I3 F (C6 n) (G3 P Q (h.ls++ [(af.mk a.dV a.aG (G3 a.aj.A a.aj.c a.aj.ls))]):bP))),row u l0.length l0.length (q4 (I9 (β:=af)) F) 40 1,row aR 1 1 (q4 af.cells ([(af.mk a.dV a.aG (G3 a.aj.A a.aj.c a.aj.ls))])) 149 3]:=Je (f:=Row40H.own) (y:=(G3 P Q (h.ls++ [(af.mk a.dV a.aG (G3 a.aj.A a.aj.c a.aj.ls))]):bP)) O bE
 have dM:=dL.pf [1]
 refine qe 16 rfl (Do.storeRow (vs:= [.slice P (s0 (h.ls++ [(af.mk a.dV a.aG (G3 a.aj.A a.aj.c a.aj.ls))])) Q]) (o:=(C6 n) *1+0) (q:=ao u+(C6 n) *1) dM rfl e6 rfl Tryz.sizeOf40 rfl rfl (Lj rfl) (ja rC O (Lj rfl)) (jJ (y:=(G3 P Q (h.ls++ [(af.mk a.dV a.aG (G3 a.aj.A a.aj.c a.aj.ls))]):bP)) rC rfl (Lj rfl) O) ?_)
 intro iP dN
 have gu:yZ w D (I3 F (C6 n) (G3 P Q (h.ls++ [(af.mk a.dV a.aG (G3 a.aj.A a.aj.c a.aj.ls))]):bP)):=Ff f5 bQ
 have gy:s0 (I3 F (C6 n) (G3 P Q (h.ls++ [(af.mk a.dV a.aG (G3 a.aj.A a.aj.c a.aj.ls))]):bP))=s0 (I3 J (C6 n) (E0 ((s5 af.abs h.ls)++ [(aQ.mk a.dV a.aG (E0 a.aj.ls))]))):=aA (jl ag (congrArg E0 (nu (es:= [(af.mk a.dV a.aG (G3 a.aj.A a.aj.c a.aj.ls))]) (ms:= [(aQ.mk a.dV a.aG (E0 a.aj.ls))]) (rfl:s5 af.abs h.ls=s5 af.abs h.ls) rfl)))
 have gz:s0 (I3 J (C6 n) (E0 ((s5 af.abs h.ls)++ [(aQ.mk a.dV a.aG (E0 a.aj.ls))])))=J.length:=G4
 refine⟨.inl e7, ?_⟩
 refine qn (bN (Iq ?_))
 have dO:=dN.pk [0,1]
 refine Il (fw (vJ (p+1)) (Ir (e:=C3.wrap (((p:Nat):Int)+1)) yk f0) (Mz rfl (WL.nil ?_)))
 have dP:=dO.pf []
 exact II (p+1,(I3 F (C6 n) (G3 P Q (h.ls++ [(af.mk a.dV a.aG (G3 a.aj.A a.aj.c a.aj.ls))]):bP)),(I3 J (C6 n) (E0 ((s5 af.abs h.ls)++ [(aQ.mk a.dV a.aG (E0 a.aj.ls))])))) ⟨rfl,rfl,rfl,rfl,rfl,rfl,rfl,rfl,rfl,rfl,rfl,rfl,trivial⟩ (aK.2 ⟨dP,by exact(jl ag (congrArg E0 (nu (es:= [(af.mk a.dV a.aG (G3 a.aj.A a.aj.c a.aj.ls))]) (ms:= [(aQ.mk a.dV a.aG (E0 a.aj.ls))]) (rfl:s5 af.abs h.ls=s5 af.abs h.ls) rfl))),by first | omega | (simp only [G4] <;> omega) | (simp only [H0]),e6,by first | assumption | exact uz _,by first | (rw [Dq]; assumption) | exact za f5 f5 f5 f5,Eq.trans (bC) (Eq.trans (congrArg (fun q=>kH I g q p J) dH) (Eq.trans (ae (aT aO)) (Eq.trans (ae (aT aP)) (ae (aT bM)))))⟩) (by show j.aI.ls.length - (p+1) < j.aI.ls.length - p; omega)
 refine jF (dF dG) (Wp.exit (IC ?_))
 have bR:kH I g j.aI.ls 0 C=J:=et (bC) (et (congrArg (fun q=>kH I g q p J) (dZ (ls:=j.aI.ls) (i:=p) e6)) rfl)
 refine IC (IK (bN (Iq (Il (fw (vJ (g+1)) (Ir (e:=C3.wrap (((g:Nat):Int)+1)) yk f0) (Mz rfl (WL.nil ?_)))))))
 have dQ:=aL.pf []
 exact II (g+1,F,J) ⟨rfl,rfl,rfl,rfl,rfl,rfl,rfl,rfl,trivial⟩ (aG.2 ⟨dQ,by exact ag,by first | omega | (simp only [G4] <;> omega) | (simp only [H0]),e6,by first | assumption | exact uz _,by first | (rw [Aq]; exact Lp _) | exact Av f5 e6,Eq.trans (bB) (Eq.trans (congrArg (fun q=>jX l0 I q g C) dC) (ae bR))⟩) (by show l1.length - (g+1) < l1.length - g; omega)
 refine jF (dF dB) (Wp.exit (IC ?_))
 have bS:jX l0 I l1 0 (r7 l0.length (E0 []:Ll aQ))=C:=et (bB) (et (congrArg (fun q=>jX l0 I q g C) (dZ (ls:=l1) (i:=g) e6)) rfl)
 refine IC (IK (Iq (sr (Mz rfl (Kz (vJ l0.length) ?_)))))
 refine WL.do rfl (Jt (x0:=(af.mk false ([]) (G3 none 0 ([])))) (z:= .agg #[.bool false, .string ⟨List.toArray ([])⟩, .slice none 0 0]) (k:=l0.length) (size:=3) (bytes:=48) af.len f2 rfl y6 e7 aI rfl rfl e6 (by unfold maxLen; omega) ?_)
 intro K dR dS
 have dU:Own w D dR (sepL (q4 af.own (r7 l0.length (af.mk false ([]) (G3 none 0 ([])))))::_):=dS.free (uQ (wX (eP 153 2)))
 have gB:s0 (r7 l0.length (af.mk false ([]) (G3 none 0 ([]))))=l0.length:=H0
 have gD:s0 (r7 l0.length (aQ.mk false ([]) (E0 ([]))))=l0.length:=H0
 refine An rfl (Ik (sr (Mz rfl (Kz (vJ l0.length) (Mn rfl (bo ?_))))))
 have dV:=dU.pb [0]
 obtain⟨dW,aj⟩:=rJ fun (b:Nat) E r w'=>Own w D w' [row K l0.length l0.length (q4 af.cells E) 149 3,row u l0.length l0.length (q4 (I9 (β:=af)) Z) 40 1,sepL (q4 Row40H.own Z),sepL (q4 af.own E)]∧s5 af.abs E=r∧r.length=l0.length∧b≤l0.length∧jY C l0 0 (r7 l0.length (aQ.mk false ([]) (E0 ([]))))=jY C (r4 b l0) b r
 refine Wp.loop (fun i:Nat × (List af) × (List aQ)=> [(64,vJ i.1),(63,vJ l0.length),(14, .slice K l0.length l0.length),(9, .slice u l0.length l0.length),(7,vI 0),(6, .slice none 0 0),(0, .slice A0 l0.length c0)]) dW (fun i=>l0.length - i.1) (0,(r7 l0.length (af.mk false ([]) (G3 none 0 ([])))),(r7 l0.length (aQ.mk false ([]) (E0 ([]))))) ⟨rfl,rfl,rfl,rfl,rfl,rfl,rfl,trivial⟩ (aj.2 ⟨dV,by exact(L9 (f:=af.abs)),by first | omega | (simp only [G4] <;> omega) | (simp only [H0]),e6,rfl⟩) ?_
 rintro ⟨b,E,r⟩ dY bT
 obtain⟨aV,S,gF,gG,aX⟩:=aj.1 bT
 have gH:=aA S
 refine sr (Kz (.bool (decide (((b:Nat):Int) < ((l0.length:Nat):Int)))) (nt (Ik ?_)))
 by_cases bF:((b:Nat):Int) < ((l0.length:Nat):Int)
 obtain⟨ay,aZ⟩:=dh (ls:=l0) (i:=b) aN.len f2 (aV.ro bn) e9
 have bU:=drop_at aZ
 refine jT (dT bF) (sk (Ik (bo (sr (Mz rfl (An rfl ?_))))))
 refine Db [12] (bv.block (IE (IE (bv.block (IE IQ))))) aV ?_
 intro iQ d9
 refine qv 0 rfl rfl (qv 1 rfl rfl (qv 2 rfl rfl (qv 3 rfl rfl (qt (v:= .pointer (some ⟨ab A0,ao A0+b *6,none⟩)) 4 rfl (fun _ ⟨_,V⟩=>Iz (mG) rfl rfl ((V.ro bn).addr (i:=b) e6) e6) (qt (v:= .agg (aN.cells ay).toArray) 5 rfl (fun _ ⟨_,V⟩=>IB rfl (IJ (cs:=(aN.cells ay)) Tryz.isAgg72 Tryz.sizeOf72 ((V.ro bn).elem aN.len aZ f2))) (qv 6 rfl rfl (qv 7 rfl rfl ?_)))))))
 obtain⟨l,T⟩:=iG (ls:=Z) (i:=b) e9
 have ak:=eY aJ T
 obtain⟨gI,gJ⟩:l.ls.length≤100000000∧s0 (s5 af.abs l.ls)≤100000000:=by first | exact xS f5 (BJ _ _ _) aF ak | exact xS f5 (wI _ _) aF ak
 refine qt (v:= .pointer (some ⟨ab u,ao u+b *1,none⟩)) 8 rfl (fun _ ⟨_,V⟩=>Iz (wE) rfl rfl ((V.rds (i:=1) rfl).addr (i:=b) e6) e6) (qt (v:= .slice l.A l.ls.length l.c) 9 rfl (fun _ ⟨_,V⟩=>IB rfl (bJ.one E1 (((V.rds (i:=1) rfl).elem rC T f2).at_ (k:=0) rfl))) ?_)
 have gK:l.ls.length=s0 (s5 af.abs l.ls):=f1
 obtain⟨d,bf⟩:∃ q,kU ay (s5 af.abs l.ls)=q:=⟨_,rfl⟩
 obtain⟨iR,bV,bW,bX,bY⟩:=Iu d9
 refine qd 10 rfl (IP Tryz.call149 rfl (wL _ _ ay l.A l.ls.length l.c l.ls (s5 af.abs l.ls) d bV (rfl:s5 af.abs l.ls=s5 af.abs l.ls) (bY _ 2 _ rfl (az (List.mem_flatMap.2 ⟨l,D1 T,b1⟩) aW)) (fun x9 W=>⟨bW _ ((Ap f5 T) x9 W).1,((Ap f5 T) x9 W).2⟩) f1 g3 (by first | assumption | omega | exact GH f5 aF f5) bf) ?_)
 rintro _ iT ⟨ah,ai,rfl,bZ⟩
 have bG:=bX _ _ bZ
 have gL:=bG.rowC (i:=0) rfl
 have bH:=bG.pb [0]
 refine⟨.inr ⟨_,bH⟩, ?_⟩
 obtain⟨aB,U⟩:=iG (ls:=E) (i:=b) e9
 have gM:=eY S U
 refine qt (v:= .pointer (some ⟨ab K,ao K+b *3,none⟩)) 11 rfl (fun _ ⟨_,V⟩=>Iz (rX) rfl rfl ((V.rds (i:=0) rfl).addr (i:=b) e6) e6) ?_
 have ed:=bH.pf [3]
 have ek:=KG (f:=af.own) (i:=b) (row aB.aj.A aB.aj.ls.length aB.aj.c (q4 aH.cells aB.aj.ls) 153 2) rfl U ed
 have eu:=ek.px [] [0] []
 have eB:=eu.pf [4]
 have eD:=Je (f:=af.own) (y:=(af.mk d.dV d.aG (G3 ah ai d.aj.ls))) U eB
 have eF:=eD.pf [1]
 refine qe 12 rfl (Do.storeRow (vs:= [.bool d.dV, .string ⟨List.toArray d.aG⟩, .slice ah d.aj.ls.length ai]) (o:=b *3+0) (q:=ao K+b *3) eF rfl e6 rfl Tryz.sizeOf149 rfl rfl (Lj rfl) (ja af.len U (Lj rfl)) (jJ (y:=(af.mk d.dV d.aG (G3 ah ai d.aj.ls))) af.len rfl (Lj rfl) U) ?_)
 intro iU eG
 have gP:s0 (I3 E b (af.mk d.dV d.aG (G3 ah ai d.aj.ls)))=s0 (I3 r b (aQ.mk d.dV d.aG (E0 d.aj.ls))):=aA (jl S rfl)
 have gQ:s0 (I3 r b (aQ.mk d.dV d.aG (E0 d.aj.ls)))=r.length:=G4
 refine⟨.inl e7, ?_⟩
 refine qn (bN (Iq (Il (fw (vJ (b+1)) (Ir (e:=C3.wrap (((b:Nat):Int)+1)) yk f0) (Mz rfl (WL.nil ?_))))))
 have eH:=eG.pb [1]
 exact II (b+1,(I3 E b (af.mk d.dV d.aG (G3 ah ai d.aj.ls))),(I3 r b (aQ.mk d.dV d.aG (E0 d.aj.ls)))) ⟨rfl,rfl,rfl,rfl,rfl,rfl,rfl,trivial⟩ (aj.2 ⟨eH,by exact(jl S rfl),by first | omega | (simp only [G4] <;> omega) | (simp only [H0]),e6,Eq.trans (aX) (Eq.trans (congrArg (fun q=>jY C q b r) bU) (Eq.trans (ae (aT ak)) (ae bf)))⟩) (by show l0.length - (b+1) < l0.length - b; omega)
 refine jF (dF bF) (Wp.exit (IC ?_))
 have cu:jY C l0 0 (r7 l0.length (aQ.mk false ([]) (E0 ([]))))=r:=et (aX) (et (congrArg (fun q=>jY C q b r) (dZ (ls:=l0) (i:=b) e6)) rfl)
 refine IC (IK (Iq (Ik ?_)))
 have eO:=aV.pk [0,3]
 refine Il (Mz rfl (Az rfl (An rfl (rt (Fin.res (lH rfl rfl rfl) ?_)))))
 have au:l0.length=r.length:=by first | omega | (simp only [G4]; done) | (simp only [G4,o2,s1,E7,List.length_take,List.length_drop,H0]; omega)
 have eQ:Own w D dY [row K r.length l0.length (q4 af.cells E) 149 3,sepL (q4 af.own E)]:=by rw [← au]; exact eO
 have eT:=eQ.pf []
 obtain⟨rfl,rfl⟩:=fD (hr.symm.trans (show _=(r,0) from et (ae L) (et (ip bz) (et (ae bS) (ae cu)))))
 exact⟨K,l0.length,E,(by first | rfl | (rw [← au]; done) | (rw [← au]; rfl)),eT,S⟩
 refine jT (dT bz) (sr (Mz rfl (Az rfl (An rfl (rt (tR (Fin.res (lH rfl rfl rfl) ?_)))))))
 have eU:Own w D dm [sepL (q4 af.own ([]))]:=dx.sepNil
 have eX:Own w D dm [row none 0 0 (q4 af.cells ([])) 149 3,sepL (q4 af.own ([]))]:=eU.free (eP 149 3)
 have eZ:=eX.pf []
 obtain⟨rfl,rfl⟩:=fD (hr.symm.trans (show _=(([]:List aQ),aC) from et (ae L) (iN bz)))
 exact⟨none,0, [],rfl,eZ,rfl⟩
end Go.Proofs.YtbkagebjhbphaaaGreat
