/-
 owner: what was told gathered.
-/
import Derived.Test.YtbkagebjhbphaaaGreatGaM
namespace Go.Proofs.YtbkagebjhbphaaaGreat
open Int renaming toNat→D2
open IntKind renaming i64→C7
open List renaming drop→r6,flatMap→q6,getD→C2,length→s2,length_append→p5,length_cons→s3,length_map→s6,length_nil→G0,length_replicate→H6,length_set→H5,map→s8,map_replicate→K3,mem_of_getElem?→E0,replicate→s0,set→u5
open Ll renaming mk→E4
open Sv renaming mk→H3
open _root_.Go.Proofs.Tryz renaming isAgg40→E6,underlying40→B6
set_option maxRecDepth 100000
open Go.RowKit
set_option linter.unusedVariables false
set_option linter.unusedSectionVars false
set_option linter.unusedSimpArgs false
def kJ (i:List (Ll aS)) (e:Nat):List Int→Nat→List (Ll aS)→(List (Ll aS))
  | [],c,b=>b
  | f::h,c,b=>bnd (C2 b (D2 f) default) fun g=>bnd (C2 i e default) fun d=>bnd (C2 d.ls c default) fun a=>kJ i e h (c+1) (u5 b (D2 f) (E4 (g.ls++ [(aS.mk a.dZ a.aQ (E4 a.aj.ls))])))
def j4 (l0:List bv) (e:List (Ll aS)):List gq→Nat→List (Ll aS)→(List (Ll aS))
  | [],a,b=>b
  | c::d,a,b=>bnd (kJ e a c.aH.ls 0 b) fun sLrbtLsL=>j4 l0 e d (a+1) sLrbtLsL
def j5 (e:List (Ll aS)):List bv→Nat→List aS→(List aS)
  | [],b,c=>c
  | f::g,b,c=>bnd (C2 e b default) fun d=>bnd (kT f d.ls) fun a=>j5 e g (b+1) (u5 c b (aS.mk a.dZ a.aQ (E4 a.aj.ls)))
def mH (l0:List bv) (l1:List gq) (b:List (Ll aS)):(List aS) × Int:=
 bnd (kw l0 l1 b) fun a=>if a=0 then bnd (j4 l0 b l1 0 (s0 l0.length (E4 []:Ll aS))) fun sLrbtL=>bnd (j5 sLrbtL l0 0 (s0 l0.length (aS.mk false ([]) (E4 ([]))))) fun sLrbtLaL=>(sLrbtLaL,0) else(([]:List aS),a)
theorem xH (w D A0 n0 c0 l0 A1 n1 c1 d1 l1 A2 n2 c2 d2 I r0 r1) (H:Own w D w []) (bf:Ro w D fun w'=>bA w' 6 A0 n0 (q6 bv.cells l0)) (fq:n0=l0.length) (iW:l0.length *80≤211106232532992) (bI:s8 bD.abs d1=l1) (bg:Ro w D fun w'=>bA w' 3 A1 n1 (q6 bD.cells d1)) (X:∀ x ∈ d1,Ro w D (fun w'=>bA w' 6 x.aF.A x.aF.ls.length (q6 bv.cells x.aF.ls))∧(x.aF.ls.length≤x.aF.c∧x.aF.ls.length≤9223372036854775807)∧Ro w D (fun w'=>bA w' 1 x.aH.A x.aH.ls.length (q6 (eI .i64) x.aH.ls))∧(x.aH.ls.length≤x.aH.c∧x.aH.ls.length≤9223372036854775807)) (fu:n1=l1.length) (iX:l1.length *56≤211106232532992) (bJ:s8 bK.abs d2=I) (bM:Ro w D fun w'=>bA w' 1 A2 n2 (q6 (GD (β:=ae)) d2)) (Y:∀ x ∈ d2,Ro w D (fun w'=>bA w' 3 x.A x.ls.length (q6 ae.cells x.ls))∧(x.ls.length≤x.c∧x.ls.length≤9223372036854775807)∧(∀ y1 ∈ x.ls,Ro w D (fun w'=>bA w' 2 y1.aj.A y1.aj.ls.length (q6 aI.cells y1.aj.ls))∧(y1.aj.ls.length≤y1.aj.c∧y1.aj.ls.length≤9223372036854775807))) (fA:n2=I.length) (iY:I.length *24≤211106232532992) (aF:tt I≤100000000) (hr:mH l0 l1 I=(r0,r1)):
    Calls Tryz.prog 129 #[.slice A0 n0 c0, .slice A1 n1 c1, .slice A2 n2 c2] w (dR fun v w'=> ∃ B0 b0 e0,v= .tuple #[.slice B0 r0.length b0,vI r1]∧Own w D w' [row B0 r0.length b0 (q6 ae.cells e0) 149 3,sepL (q6 ae.own e0)]∧(s8 ae.abs e0=r0)):=by
 subst fq fu fA
 have gV:=az bI
 have gW:=az bJ
 refine cb Tryz.func129 ?_
 refine sr (Az rfl (An rfl (FW (sr (Mz rfl (Mz rfl (Mz rfl ?_)))))))
 obtain⟨aC,L⟩:∃ q,kw l0 l1 I=q:=⟨_,rfl⟩
 obtain⟨iZ,cZ,M,df,gX⟩:=F3 H
 refine cl Tryz.call148 (uV _ _ A0 l0.length c0 l0 A1 l1.length c1 d1 l1 A2 I.length c2 d2 I aC cZ (M _ bf) rfl e6 bI (M _ bg) (fun x9 W=>⟨M _ (X x9 W).1,(X x9 W).2.1,M _ (X x9 W).2.2.1,(X x9 W).2.2.2⟩) rfl e6 bJ (M _ bM) (fun x9 W=>⟨M _ (Y x9 W).1,(Y x9 W).2.1,(fun y1 k1=>⟨M _ ((Y x9 W).2.2 y1 k1).1,((Y x9 W).2.2 y1 k1).2⟩)⟩) rfl e6 L) ?_
 rintro _ dh ⟨rfl,di⟩
 have dm:=df _ _ di
 have gZ:I.length=l1.length∨¬ (aC=0):=DZ L
 refine Ar rfl (Mz rfl (fw (.bool (decide (¬ (aC=0)))) (Gm (e:= !(decide (aC=0))) yk decide_not.symm) (nt ?_)))
 by_cases bn:aC=0
 refine jF (dF (JR bn)) (sk (sr (Mz rfl (Kz (vJ l0.length) ?_))))
 refine WL.do rfl (Ha (x0:=(H3 none 0 []:bK)) (z:= .slice none 0 0) (k:=l0.length) (size:=1) (bytes:=24) rf f3 rfl Tryz.underlying105 e7 dm rfl rfl e6 (by unfold maxLen; omega) ?_)
 intro u ja fD
 have fE:=fD.free (R:=sepL (q6 Row40H.own (s0 l0.length (H3 none 0 []:bK)))) (uC (wQ (fB 149 3)))
 have ib:s2 (s0 l0.length (H3 none 0 []:bK))=l0.length:=H6
 have ic:s2 (s0 l0.length (E4 []:Ll aS))=l0.length:=H6
 have ig:yP w D (s0 l0.length (H3 none 0 []:bK)):=ug _
 refine An rfl (FW (sr (Mz rfl (Kz (vJ l1.length) (Mn rfl (bo ?_))))))
 have fG:=fE.pb [0]
 obtain⟨fH,aG⟩:=qK fun (g:Nat) Z C w'=>Own w D w' [row u l0.length l0.length (q6 (GD (β:=ae)) Z) 40 1,sepL (q6 Row40H.own Z)]∧s8 bK.abs Z=C∧C.length=l0.length∧g≤l1.length∧yP w D Z∧tt C≤tt (List.take g I)∧j4 l0 I l1 0 (s0 l0.length (E4 []:Ll aS))=j4 l0 I (r6 g l1) g C
 refine Wp.loop (fun i:Nat × (List bK) × (List (Ll aS))=> [(28,vJ i.1),(27,vJ l1.length),(26, .slice A1 l1.length c1),(9, .slice u l0.length l0.length),(7,vI 0),(6, .slice none 0 0),(0, .slice A0 l0.length c0),(2, .slice A2 I.length c2)]) fH (fun i=>l1.length - i.1) (0,(s0 l0.length (H3 none 0 []:bK)),(s0 l0.length (E4 []:Ll aS))) ⟨rfl,rfl,rfl,rfl,rfl,rfl,rfl,rfl,trivial⟩ (aG.2 ⟨fG,by exact(K3 (f:=bK.abs)),by first | omega | (simp only [H5] <;> omega) | (simp only [H6]),e6,by first | assumption | exact ug _,by first | (rw [zU]; exact JQ _) | exact zW f4 e6,rfl⟩) ?_
 rintro ⟨g,Z,C⟩ jb dn
 obtain⟨aH,aJ,ik,il,iq,iw,bu⟩:=aG.1 dn
 have iy:=az aJ
 refine sr (Kz (.bool (decide (((g:Nat):Int) < ((l1.length:Nat):Int)))) (nt (FW ?_)))
 by_cases dw:((g:Nat):Int) < ((l1.length:Nat):Int)
 obtain⟨j,N⟩:=dK (ls:=d1) (i:=g) bD.len f3 (aH.ro bg) e9
 have ay:=fo bI N
 have iA:=(X _ (E0 N)).2.1
 have iC:=(X _ (E0 N)).2.2.2
 have iD:j.aH.ls.length=s2 (C2 I g default).ls:=(zX L e6 ay).1.symm.trans (zX L e6 ay).2.1
 have dx:=drop_at ay
 refine jT (dT dw) (sk (FW (bo (sr (Mz rfl (fw (.pointer (some ⟨ab A1,ao A1+g *3,none⟩)) (F4 (tK) rfl rfl ((aH.ro bg).addr (i:=g) e6) e6) (fw (.agg (bD.cells j).toArray) (F7 rfl (Gf (cs:=(bD.cells j)) Tryz.isAgg172 Tryz.sizeOf172 ((aH.ro bg).elem bD.len N f3))) ?_)))))))
 refine dM [vI 0, .slice none 0 0, .slice none 0 0] 172 aH ?_
 intro fI jc fJ
 refine Az rfl ?_
 refine dN (bD.cells j) 0 fJ Tryz.sizeOf172 ?_
 intro jd dz
 refine ns (Kz (vP fI 2) (Lz (.slice j.aH.A j.aH.ls.length j.aH.c) dz 0 Tryz.isAgg58 (Kz (vJ j.aH.ls.length) (Mn rfl (bo ?_)))))
 have fK:=dz.pk [1,2]
 obtain⟨fM,aK⟩:=qK fun (p:Nat) F J w'=>Own w D w' [row u l0.length l0.length (q6 (GD (β:=ae)) F) 40 1,sepL (q6 Row40H.own F)]∧s8 bK.abs F=J∧J.length=l0.length∧p≤j.aH.ls.length∧yP w D F∧tt J≤seen I g p∧kJ I g j.aH.ls 0 C=kJ I g (r6 p j.aH.ls) p J
 refine Wp.loop (fun i:Nat × (List bK) × (List (Ll aS))=> [(36,vJ i.1),(35,vJ j.aH.ls.length),(34, .slice j.aH.A j.aH.ls.length j.aH.c),(10,vJ g),(28,vJ g),(27,vJ l1.length),(26, .slice A1 l1.length c1),(9, .slice u l0.length l0.length),(7,vI 0),(6, .slice none 0 0),(0, .slice A0 l0.length c0),(2, .slice A2 I.length c2)]) fM (fun i=>j.aH.ls.length - i.1) (0,Z,C) ⟨rfl,rfl,rfl,rfl,rfl,rfl,rfl,rfl,rfl,rfl,rfl,rfl,trivial⟩ (aK.2 ⟨fK,by exact aJ,by first | omega | (simp only [H5] <;> omega) | (simp only [H6]),e6,by first | assumption | exact ug _,by first | (rw [Cs]; assumption) | exact yQ f4 f4 f4 f4,rfl⟩) ?_
 rintro ⟨p,F,J⟩ je dA
 obtain⟨aL,af,iE,iF,iG,iH,bz⟩:=aK.1 dA
 have iJ:=az af
 refine sr (Kz (.bool (decide (((p:Nat):Int) < ((j.aH.ls.length:Nat):Int)))) (nt (FW ?_)))
 by_cases dB:((p:Nat):Int) < ((j.aH.ls.length:Nat):Int)
 obtain⟨n,aM⟩:=dK (ls:=j.aH.ls) (i:=p) iI f3 (aL.ro (X _ (E0 N)).2.2.1) e9
 have iL:0≤n∧n < ((l0.length:Nat):Int):=(zX L e6 ay).2.2 _ (E0 aM)
 have dC:=drop_at aM
 refine jT (dT dB) (sk (FW (bo (sr (Mz rfl (fw (.pointer (some ⟨ab j.aH.A,ao j.aH.A+p *1,none⟩)) (F4 (nk) rfl rfl ((aL.ro (X _ (E0 N)).2.2.1).addr (i:=p) e6) e6) (fw (vI n) (F7 rfl (bX.one Tryz.isAgg3 (((aL.ro (X _ (E0 N)).2.2.1).elem iI aM f3).at_ (k:=0) rfl))) (Az rfl (An rfl ?_)))))))))
 refine pJ [14,16] (bL.block (Gb (Gb (bL.block (bL.block (Gb (Gb (bL.block (Gb Gj))))))))) aL ?_
 intro jf fO
 refine Gu (v:= .slice u l0.length l0.length) 0 rfl e7 (fun _=>F9 rfl) (Gu (v:=vJ (D2 n)) 1 rfl e7 (fun _=>FX (e:=n) (F9 rfl) e6) (qv 2 rfl rfl (qt (v:=vJ (D2 n)) 3 rfl (fun _ _=>FX (e:=n) (F9 rfl) e6) ?_)))
 obtain⟨h,O⟩:=jo (ls:=F) (i:=D2 n) e9
 have aN:=fo af O
 obtain⟨iM,iO⟩:h.ls.length≤100000000∧s2 (s8 ae.abs h.ls)≤100000000:=by first | exact xG f4 (Be _ _ _) aF aN | exact xG f4 (wB _ _) aF aN
 refine qt (v:= .pointer (some ⟨ab u,ao u+(D2 n) *1,none⟩)) 4 rfl (fun _ ⟨_,V⟩=>F4 (wu) rfl rfl ((V.rds (i:=0) rfl).addr (i:=D2 n) e6) e6) (qt (v:= .slice h.A h.ls.length h.c) 5 rfl (fun _ ⟨_,V⟩=>F7 rfl (bX.one E6 (((V.rds (i:=0) rfl).elem rf O f3).at_ (k:=0) rfl))) (qv 6 rfl rfl (qv 7 rfl rfl ?_)))
 obtain⟨B,G⟩:=jo (ls:=d2) (i:=g) e9
 have aO:=fo bJ G
 have fP:=(Y _ (E0 G)).2.1
 have fQ:s2 (s8 ae.abs B.ls)=B.ls.length:=s6 ..
 have fT:B.ls.length=s2 (C2 I g default).ls:=by rw [zh aO]; exact(s6 ..).symm
 refine qt (v:= .pointer (some ⟨ab A2,ao A2+g *1,none⟩)) 8 rfl (fun _ ⟨_,V⟩=>F4 (wu) rfl rfl ((V.ro bM).addr (i:=g) e6) e6) (qt (v:= .slice B.A B.ls.length B.c) 9 rfl (fun _ ⟨_,V⟩=>F7 rfl (bX.one E6 (((V.ro bM).elem rf G f3).at_ (k:=0) rfl))) (qv 10 rfl rfl ?_))
 obtain⟨a,aa⟩:=jo (ls:=B.ls) (i:=p) e9
 have bO:=fo (rfl:s8 ae.abs B.ls=s8 ae.abs B.ls) aa
 have fU:=((Y _ (E0 G)).2.2 _ (E0 aa)).2
 refine qt (v:= .pointer (some ⟨ab B.A,ao B.A+p *3,none⟩)) 11 rfl (fun _ ⟨_,V⟩=>F4 (rR) rfl rfl ((V.ro (Y _ (E0 G)).1).addr (i:=p) e6) e6) (qt (v:= .agg (ae.cells a).toArray) 12 rfl (fun _ ⟨_,V⟩=>F7 rfl (Gf (cs:=(ae.cells a)) Tryz.isAgg149 Tryz.sizeOf149 ((V.ro (Y _ (E0 G)).1).elem ae.len aa f3))) ?_)
 refine qd 13 rfl (Hg (cs:=(ae.cells a)) (t:=149) (sz:=3) (m:=1) fO rfl rfl (fun _=>by kernel_rfl) rfl f3 ?_)
 intro aQ dD aR
 replace aR:=Gs (y:=row aQ 1 1 (q6 ae.cells ([(ae.mk a.dZ a.aQ (H3 a.aj.A a.aj.c a.aj.ls))])) 149 3) rfl aR
 have bB:=aR.pb [0]
 refine⟨.inr ⟨_,bB⟩, ?_⟩
 have dE:=bB.pf [1]
 have aT:Own w D dD [row h.A h.ls.length h.c (q6 ae.cells h.ls) 149 3,sepL (q6 Row40H.own (List.take (D2 n) F)++q6 Row40H.own (r6 (D2 n+1) F)),row u l0.length l0.length (q6 (GD (β:=ae)) F) 40 1,row aQ 1 1 (q6 ae.cells ([(ae.mk a.dZ a.aQ (H3 a.aj.A a.aj.c a.aj.ls))])) 149 3]:=GV (f:=Row40H.own) (i:=D2 n) O dE
 have fV:=aT.rowC (i:=0) rfl
 refine qd 14 rfl (Gt (k:=h.ls.length) (m:=1) (rR) aT rfl rfl (iU B6 (aT.rds (i:=3) rfl) (fF ae.one ([(ae.mk a.dZ a.aQ (H3 a.aj.A a.aj.c a.aj.ls))]))) rfl e6 (s:=s2 (h.ls++ [(ae.mk a.dZ a.aQ (H3 a.aj.A a.aj.c a.aj.ls))])) f7 (List.flatMap_append).symm ?_)
 intro P Q dG bC
 have bP:∀ x:ae,x ∈ (h.ls++ [(ae.mk a.dZ a.aQ (H3 a.aj.A a.aj.c a.aj.ls))])→Ro w D (fun w'=>bA w' 2 x.aj.A x.aj.ls.length (q6 aI.cells x.aj.ls))∧(x.aj.ls.length≤x.aj.c∧x.aj.ls.length≤9223372036854775807):=fun x9 W=>Or.elim (List.mem_append.1 W) (fun W=>(zT f4 O) x9 W) (fun W=>(by rcases List.mem_cons.1 W with rfl | W; exact⟨((Y _ (E0 G)).2.2 _ (E0 aa)).1,(show a.aj.ls.length≤a.aj.c∧a.aj.ls.length≤9223372036854775807 from by omega)⟩; exact(absurd W List.not_mem_nil)))
 have fZ:s2 (h.ls++ [(ae.mk a.dZ a.aQ (H3 a.aj.A a.aj.c a.aj.ls))])=h.ls.length+1:=by simp only [p5,s3,G0]
 have gp:=az (oG (es:= [(ae.mk a.dZ a.aQ (H3 a.aj.A a.aj.c a.aj.ls))]) (ms:= [(aS.mk a.dZ a.aQ (E4 a.aj.ls))]) (rfl:s8 ae.abs h.ls=s8 ae.abs h.ls) rfl)
 refine⟨.inl e7, ?_⟩
 refine Gu (v:= .pointer (some ⟨ab u,ao u+(D2 n) *1,none⟩)) 15 rfl e7 (fun _=>F4 (wu) rfl rfl ((bC.rds (i:=2) rfl).addr (i:=D2 n) e6) e6) ?_
 have dH:Own w D dG [sepL (q6 Row40H.own (u5 F (D2 n) (H3 P Q (h.ls++ [(ae.mk a.dZ a.aQ (H3 a.aj.A a.aj.c a.aj.ls))]):bK))),row u l0.length l0.length (q6 (GD (β:=ae)) F) 40 1,row aQ 1 1 (q6 ae.cells ([(ae.mk a.dZ a.aQ (H3 a.aj.A a.aj.c a.aj.ls))])) 149 3]:=GL (f:=Row40H.own) (y:=(H3 P Q (h.ls++ [(ae.mk a.dZ a.aQ (H3 a.aj.A a.aj.c a.aj.ls))]):bK)) O bC
 have dI:=dH.pf [1]
 refine qe 16 rfl (Do.storeRow (vs:= [.slice P (s2 (h.ls++ [(ae.mk a.dZ a.aQ (H3 a.aj.A a.aj.c a.aj.ls))])) Q]) (o:=(D2 n) *1+0) (q:=ao u+(D2 n) *1) dI rfl e6 rfl Tryz.sizeOf40 rfl rfl (JO rfl) (iK rf O (JO rfl)) (jE (y:=(H3 P Q (h.ls++ [(ae.mk a.dZ a.aQ (H3 a.aj.A a.aj.c a.aj.ls))]):bK)) rf rfl (JO rfl) O) ?_)
 intro iP dJ
 have gu:yP w D (u5 F (D2 n) (H3 P Q (h.ls++ [(ae.mk a.dZ a.aQ (H3 a.aj.A a.aj.c a.aj.ls))]):bK)):=DY f4 bP
 have gy:s2 (u5 F (D2 n) (H3 P Q (h.ls++ [(ae.mk a.dZ a.aQ (H3 a.aj.A a.aj.c a.aj.ls))]):bK))=s2 (u5 J (D2 n) (E4 ((s8 ae.abs h.ls)++ [(aS.mk a.dZ a.aQ (E4 a.aj.ls))]))):=az (iB af (congrArg E4 (oG (es:= [(ae.mk a.dZ a.aQ (H3 a.aj.A a.aj.c a.aj.ls))]) (ms:= [(aS.mk a.dZ a.aQ (E4 a.aj.ls))]) (rfl:s8 ae.abs h.ls=s8 ae.abs h.ls) rfl)))
 have gz:s2 (u5 J (D2 n) (E4 ((s8 ae.abs h.ls)++ [(aS.mk a.dZ a.aQ (E4 a.aj.ls))])))=J.length:=H5
 refine⟨.inl e7, ?_⟩
 refine qn (bN (FY ?_))
 have dL:=dJ.pk [0,1]
 refine FV (fw (vJ (p+1)) (FX (e:=C7.wrap (((p:Nat):Int)+1)) yk f1) (Mz rfl (WL.nil ?_)))
 have dO:=dL.pf []
 exact Gc (p+1,(u5 F (D2 n) (H3 P Q (h.ls++ [(ae.mk a.dZ a.aQ (H3 a.aj.A a.aj.c a.aj.ls))]):bK)),(u5 J (D2 n) (E4 ((s8 ae.abs h.ls)++ [(aS.mk a.dZ a.aQ (E4 a.aj.ls))])))) ⟨rfl,rfl,rfl,rfl,rfl,rfl,rfl,rfl,rfl,rfl,rfl,rfl,trivial⟩ (aK.2 ⟨dO,by exact(iB af (congrArg E4 (oG (es:= [(ae.mk a.dZ a.aQ (H3 a.aj.A a.aj.c a.aj.ls))]) (ms:= [(aS.mk a.dZ a.aQ (E4 a.aj.ls))]) (rfl:s8 ae.abs h.ls=s8 ae.abs h.ls) rfl))),by first | omega | (simp only [H5] <;> omega) | (simp only [H6]),e6,by first | assumption | exact ug _,by first | (rw [Cs]; assumption) | exact yQ f4 f4 f4 f4,Eq.trans (bz) (Eq.trans (congrArg (fun q=>kJ I g q p J) dC) (Eq.trans (ai (bF aN)) (Eq.trans (ai (bF aO)) (ai (bF bO)))))⟩) (by show j.aH.ls.length - (p+1) < j.aH.ls.length - p; omega)
 refine jF (dF dB) (Wp.exit (F6 ?_))
 have bQ:kJ I g j.aH.ls 0 C=J:=et (bz) (et (congrArg (fun q=>kJ I g q p J) (eZ (ls:=j.aH.ls) (i:=p) e6)) rfl)
 refine F6 (Gi (bN (FY (FV (fw (vJ (g+1)) (FX (e:=C7.wrap (((g:Nat):Int)+1)) yk f1) (Mz rfl (WL.nil ?_)))))))
 have dP:=aL.pf []
 exact Gc (g+1,F,J) ⟨rfl,rfl,rfl,rfl,rfl,rfl,rfl,rfl,trivial⟩ (aG.2 ⟨dP,by exact af,by first | omega | (simp only [H5] <;> omega) | (simp only [H6]),e6,by first | assumption | exact ug _,by first | (rw [zU]; exact JQ _) | exact zW f4 e6,Eq.trans (bu) (Eq.trans (congrArg (fun q=>j4 l0 I q g C) dx) (ai bQ))⟩) (by show l1.length - (g+1) < l1.length - g; omega)
 refine jF (dF dw) (Wp.exit (F6 ?_))
 have bR:j4 l0 I l1 0 (s0 l0.length (E4 []:Ll aS))=C:=et (bu) (et (congrArg (fun q=>j4 l0 I q g C) (eZ (ls:=l1) (i:=g) e6)) rfl)
 refine F6 (Gi (FY (sr (Mz rfl (Kz (vJ l0.length) ?_)))))
 refine WL.do rfl (Ha (x0:=(ae.mk false ([]) (H3 none 0 ([])))) (z:= .agg #[.bool false, .string ⟨List.toArray ([])⟩, .slice none 0 0]) (k:=l0.length) (size:=3) (bytes:=48) ae.len f3 rfl B6 e7 aH rfl rfl e6 (by unfold maxLen; omega) ?_)
 intro K dQ dS
 have dU:Own w D dQ (sepL (q6 ae.own (s0 l0.length (ae.mk false ([]) (H3 none 0 ([])))))::_):=dS.free (uC (wQ (fB 153 2)))
 have gB:s2 (s0 l0.length (ae.mk false ([]) (H3 none 0 ([]))))=l0.length:=H6
 have gD:s2 (s0 l0.length (aS.mk false ([]) (E4 ([]))))=l0.length:=H6
 refine An rfl (FW (sr (Mz rfl (Kz (vJ l0.length) (Mn rfl (bo ?_))))))
 have dV:=dU.pb [0]
 obtain⟨dW,aj⟩:=qK fun (b:Nat) E r w'=>Own w D w' [row K l0.length l0.length (q6 ae.cells E) 149 3,row u l0.length l0.length (q6 (GD (β:=ae)) Z) 40 1,sepL (q6 Row40H.own Z),sepL (q6 ae.own E)]∧s8 ae.abs E=r∧r.length=l0.length∧b≤l0.length∧j5 C l0 0 (s0 l0.length (aS.mk false ([]) (E4 ([]))))=j5 C (r6 b l0) b r
 refine Wp.loop (fun i:Nat × (List ae) × (List aS)=> [(64,vJ i.1),(63,vJ l0.length),(14, .slice K l0.length l0.length),(9, .slice u l0.length l0.length),(7,vI 0),(6, .slice none 0 0),(0, .slice A0 l0.length c0)]) dW (fun i=>l0.length - i.1) (0,(s0 l0.length (ae.mk false ([]) (H3 none 0 ([])))),(s0 l0.length (aS.mk false ([]) (E4 ([]))))) ⟨rfl,rfl,rfl,rfl,rfl,rfl,rfl,trivial⟩ (aj.2 ⟨dV,by exact(K3 (f:=ae.abs)),by first | omega | (simp only [H5] <;> omega) | (simp only [H6]),e6,rfl⟩) ?_
 rintro ⟨b,E,r⟩ dX bS
 obtain⟨aU,S,gF,gG,aV⟩:=aj.1 bS
 have gH:=az S
 refine sr (Kz (.bool (decide (((b:Nat):Int) < ((l0.length:Nat):Int)))) (nt (FW ?_)))
 by_cases bE:((b:Nat):Int) < ((l0.length:Nat):Int)
 obtain⟨aA,aW⟩:=dK (ls:=l0) (i:=b) bv.len f3 (aU.ro bf) e9
 have bT:=drop_at aW
 refine jT (dT bE) (sk (FW (bo (sr (Mz rfl (An rfl ?_))))))
 refine xz [12] (bL.block (Gb (Gb (bL.block (Gb Gj))))) aU ?_
 intro iQ dY
 refine qv 0 rfl rfl (qv 1 rfl rfl (qv 2 rfl rfl (qv 3 rfl rfl (qt (v:= .pointer (some ⟨ab A0,ao A0+b *6,none⟩)) 4 rfl (fun _ ⟨_,V⟩=>F4 (qz) rfl rfl ((V.ro bf).addr (i:=b) e6) e6) (qt (v:= .agg (bv.cells aA).toArray) 5 rfl (fun _ ⟨_,V⟩=>F7 rfl (Gf (cs:=(bv.cells aA)) Tryz.isAgg72 Tryz.sizeOf72 ((V.ro bf).elem bv.len aW f3))) (qv 6 rfl rfl (qv 7 rfl rfl ?_)))))))
 obtain⟨l,T⟩:=jo (ls:=Z) (i:=b) e9
 have ak:=fo aJ T
 obtain⟨gI,gJ⟩:l.ls.length≤100000000∧s2 (s8 ae.abs l.ls)≤100000000:=by first | exact xG f4 (Be _ _ _) aF ak | exact xG f4 (wB _ _) aF ak
 refine qt (v:= .pointer (some ⟨ab u,ao u+b *1,none⟩)) 8 rfl (fun _ ⟨_,V⟩=>F4 (wu) rfl rfl ((V.rds (i:=1) rfl).addr (i:=b) e6) e6) (qt (v:= .slice l.A l.ls.length l.c) 9 rfl (fun _ ⟨_,V⟩=>F7 rfl (bX.one E6 (((V.rds (i:=1) rfl).elem rf T f3).at_ (k:=0) rfl))) ?_)
 have gK:l.ls.length=s2 (s8 ae.abs l.ls):=f0
 obtain⟨d,aX⟩:∃ q,kT aA (s8 ae.abs l.ls)=q:=⟨_,rfl⟩
 obtain⟨iR,bU,bV,bW,bY⟩:=F3 dY
 refine qd 10 rfl (Gg Tryz.call149 rfl (wE _ _ aA l.A l.ls.length l.c l.ls (s8 ae.abs l.ls) d bU (rfl:s8 ae.abs l.ls=s8 ae.abs l.ls) (bY _ 2 _ rfl (ax (List.mem_flatMap.2 ⟨l,E0 T,b1⟩) aP)) (fun x9 W=>⟨bV _ ((zT f4 T) x9 W).1,((zT f4 T) x9 W).2⟩) f0 g4 (by first | assumption | omega | exact Ff f4 aF f4) aX) ?_)
 rintro _ iT ⟨ag,ah,rfl,bZ⟩
 have bG:=bW _ _ bZ
 have gL:=bG.rowC (i:=0) rfl
 have bH:=bG.pb [0]
 refine⟨.inr ⟨_,bH⟩, ?_⟩
 obtain⟨aB,U⟩:=jo (ls:=E) (i:=b) e9
 have gM:=fo S U
 refine qt (v:= .pointer (some ⟨ab K,ao K+b *3,none⟩)) 11 rfl (fun _ ⟨_,V⟩=>F4 (rR) rfl rfl ((V.rds (i:=0) rfl).addr (i:=b) e6) e6) ?_
 have dZ:=bH.pf [3]
 have d9:=Jd (f:=ae.own) (i:=b) (row aB.aj.A aB.aj.ls.length aB.aj.c (q6 aI.cells aB.aj.ls) 153 2) rfl U dZ
 have ed:=d9.px [] [0] []
 have ek:=ed.pf [4]
 have eu:=GL (f:=ae.own) (y:=(ae.mk d.dZ d.aQ (H3 ag ah d.aj.ls))) U ek
 have eB:=eu.pf [1]
 refine qe 12 rfl (Do.storeRow (vs:= [.bool d.dZ, .string ⟨List.toArray d.aQ⟩, .slice ag d.aj.ls.length ah]) (o:=b *3+0) (q:=ao K+b *3) eB rfl e6 rfl Tryz.sizeOf149 rfl rfl (JO rfl) (iK ae.len U (JO rfl)) (jE (y:=(ae.mk d.dZ d.aQ (H3 ag ah d.aj.ls))) ae.len rfl (JO rfl) U) ?_)
 intro iV eD
 have gN:s2 (u5 E b (ae.mk d.dZ d.aQ (H3 ag ah d.aj.ls)))=s2 (u5 r b (aS.mk d.dZ d.aQ (E4 d.aj.ls))):=az (iB S rfl)
 have gP:s2 (u5 r b (aS.mk d.dZ d.aQ (E4 d.aj.ls)))=r.length:=H5
 refine⟨.inl e7, ?_⟩
 refine qn (bN (FY (FV (fw (vJ (b+1)) (FX (e:=C7.wrap (((b:Nat):Int)+1)) yk f1) (Mz rfl (WL.nil ?_))))))
 have eF:=eD.pb [1]
 exact Gc (b+1,(u5 E b (ae.mk d.dZ d.aQ (H3 ag ah d.aj.ls))),(u5 r b (aS.mk d.dZ d.aQ (E4 d.aj.ls)))) ⟨rfl,rfl,rfl,rfl,rfl,rfl,rfl,trivial⟩ (aj.2 ⟨eF,by exact(iB S rfl),by first | omega | (simp only [H5] <;> omega) | (simp only [H6]),e6,Eq.trans (aV) (Eq.trans (congrArg (fun q=>j5 C q b r) bT) (Eq.trans (ai (bF ak)) (ai aX)))⟩) (by show l0.length - (b+1) < l0.length - b; omega)
 refine jF (dF bE) (Wp.exit (F6 ?_))
 have cu:j5 C l0 0 (s0 l0.length (aS.mk false ([]) (E4 ([]))))=r:=et (aV) (et (congrArg (fun q=>j5 C q b r) (eZ (ls:=l0) (i:=b) e6)) rfl)
 refine F6 (Gi (FY (FW ?_)))
 have eG:=aU.pk [0,3]
 refine FV (Mz rfl (Az rfl (An rfl (rt (Fin.res (lY rfl rfl rfl) ?_)))))
 have au:l0.length=r.length:=by first | omega | (simp only [H5]; done) | (simp only [H5,p5,s3,G0,List.length_take,List.length_drop,H6]; omega)
 have eH:Own w D dX [row K r.length l0.length (q6 ae.cells E) 149 3,sepL (q6 ae.own E)]:=by rw [← au]; exact eG
 have eO:=eH.pf []
 obtain⟨rfl,rfl⟩:=gm (hr.symm.trans (show _=(r,0) from et (ai L) (et (ip bn) (et (ai bR) (ai cu)))))
 exact⟨K,l0.length,E,(by first | rfl | (rw [← au]; done) | (rw [← au]; rfl)),eO,S⟩
 refine jT (dT bn) (sr (Mz rfl (Az rfl (An rfl (rt (tR (Fin.res (lY rfl rfl rfl) ?_)))))))
 have eP:Own w D dh [sepL (q6 ae.own ([]))]:=dm.sepNil
 have eQ:Own w D dh [row none 0 0 (q6 ae.cells ([])) 149 3,sepL (q6 ae.own ([]))]:=eP.free (fB 149 3)
 have eT:=eQ.pf []
 obtain⟨rfl,rfl⟩:=gm (hr.symm.trans (show _=(([]:List aS),aC) from et (ai L) (iN bn)))
 exact⟨none,0, [],rfl,eT,rfl⟩
end Go.Proofs.YtbkagebjhbphaaaGreat
