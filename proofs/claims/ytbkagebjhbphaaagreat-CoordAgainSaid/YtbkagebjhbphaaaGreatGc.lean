/-
 owner: what was told gathered.
-/
import Derived.Test.YtbkagebjhbphaaaGreatGaM
namespace Go.Proofs.YtbkagebjhbphaaaGreat
open Int renaming toNat→D2
open IntKind renaming i64→C7
open List renaming drop→r6,flatMap→q6,getD→C2,length→s2,length_append→p5,length_cons→s3,length_map→s6,length_nil→G1,length_replicate→H7,length_set→H6,map→s8,map_replicate→K4,mem_of_getElem?→E0,replicate→s0,set→u5
open Ll renaming mk→E4
open Sv renaming mk→H5
open _root_.Go.Proofs.Tryz renaming isAgg40→E6,underlying40→B6
set_option maxRecDepth 100000
open Go.RowKit
set_option linter.unusedVariables false
set_option linter.unusedSectionVars false
set_option linter.unusedSimpArgs false
def kJ (i:List (Ll aY)) (e:Nat):List Int→Nat→List (Ll aY)→(List (Ll aY))
  | [],c,b=>b
  | f::h,c,b=>bnd (C2 b (D2 f) default) fun g=>bnd (C2 i e default) fun d=>bnd (C2 d.ls c default) fun a=>kJ i e h (c+1) (u5 b (D2 f) (E4 (g.ls++ [(aY.mk a.dZ a.aW (E4 a.au.ls))])))
def j4 (l0:List bC) (e:List (Ll aY)):List gq→Nat→List (Ll aY)→(List (Ll aY))
  | [],a,b=>b
  | c::d,a,b=>bnd (kJ e a c.aJ.ls 0 b) fun sLrbtLsL=>j4 l0 e d (a+1) sLrbtLsL
def j5 (e:List (Ll aY)):List bC→Nat→List aY→(List aY)
  | [],b,c=>c
  | f::g,b,c=>bnd (C2 e b default) fun d=>bnd (kT f d.ls) fun a=>j5 e g (b+1) (u5 c b (aY.mk a.dZ a.aW (E4 a.au.ls)))
def mH (l0:List bC) (l1:List gq) (b:List (Ll aY)):(List aY) × Int:=
 bnd (kw l0 l1 b) fun a=>if a=0 then bnd (j4 l0 b l1 0 (s0 l0.length (E4 []:Ll aY))) fun sLrbtL=>bnd (j5 sLrbtL l0 0 (s0 l0.length (aY.mk false ([]) (E4 ([]))))) fun sLrbtLaL=>(sLrbtLaL,0) else(([]:List aY),a)
theorem xE (w:World) (D:Nat→Prop) (A0:Option Addr) (n0 c0:Nat) (l0:List bC) (A1:Option Addr) (n1 c1:Nat) (d1:List bG) (l1:List gq) (A2:Option Addr) (n2 c2:Nat) (d2:List bO) (I:List (Ll aY)) (r0:List aY) (r1:Int) (H:Own w D w []) (bf:Ro w D fun w'=>bD w' 6 A0 n0 (q6 bC.cells l0)) (fq:n0=l0.length) (iW:l0.length *80≤211106232532992) (bH:s8 bG.abs d1=l1) (bg:Ro w D fun w'=>bD w' 3 A1 n1 (q6 bG.cells d1)) (X:∀ x ∈ d1,Ro w D (fun w'=>bD w' 6 x.aG.A x.aG.ls.length (q6 bC.cells x.aG.ls))∧(x.aG.ls.length≤x.aG.c∧x.aG.ls.length≤9223372036854775807)∧Ro w D (fun w'=>bD w' 1 x.aJ.A x.aJ.ls.length (q6 (eI .i64) x.aJ.ls))∧(x.aJ.ls.length≤x.aJ.c∧x.aJ.ls.length≤9223372036854775807)) (fu:n1=l1.length) (iX:l1.length *56≤211106232532992) (bI:s8 bO.abs d2=I) (bK:Ro w D fun w'=>bD w' 1 A2 n2 (q6 (Gy (β:=af)) d2)) (Y:∀ x ∈ d2,Ro w D (fun w'=>bD w' 3 x.A x.ls.length (q6 af.cells x.ls))∧(x.ls.length≤x.c∧x.ls.length≤9223372036854775807)∧(∀ y1 ∈ x.ls,Ro w D (fun w'=>bD w' 2 y1.au.A y1.au.ls.length (q6 aL.cells y1.au.ls))∧(y1.au.ls.length≤y1.au.c∧y1.au.ls.length≤9223372036854775807))) (fA:n2=I.length) (iY:I.length *24≤211106232532992) (aF:tt I≤100000000) (hr:mH l0 l1 I=(r0,r1)):
    Calls Tryz.prog 129 #[.slice A0 n0 c0, .slice A1 n1 c1, .slice A2 n2 c2] w (dR fun v w'=> ∃ (B0:Option Addr) (b0:Nat) (e0:List af),v= .tuple #[.slice B0 r0.length b0,vI r1]∧Own w D w' [row B0 r0.length b0 (q6 af.cells e0) 149 3,sepL (q6 af.own e0)]∧(s8 af.abs e0=r0)):=by
 subst fq fu fA
 have gV:=az bH
 have gW:=az bI
 refine cb Tryz.func129 ?_
 refine sr (Az rfl (An rfl (FU (sr (Mz rfl (Mz rfl (Mz rfl ?_)))))))
 obtain⟨aC,L⟩:∃ q,kw l0 l1 I=q:=⟨_,rfl⟩
 obtain⟨iZ,cZ,M,df,gX⟩:=FY H
 refine cl Tryz.call148 (uT _ _ A0 l0.length c0 l0 A1 l1.length c1 d1 l1 A2 I.length c2 d2 I aC cZ (M _ bf) rfl e6 bH (M _ bg) (fun x9 W=>⟨M _ (X x9 W).1,(X x9 W).2.1,M _ (X x9 W).2.2.1,(X x9 W).2.2.2⟩) rfl e6 bI (M _ bK) (fun x9 W=>⟨M _ (Y x9 W).1,(Y x9 W).2.1,(fun y1 k1=>⟨M _ ((Y x9 W).2.2 y1 k1).1,((Y x9 W).2.2 y1 k1).2⟩)⟩) rfl e6 L) ?_
 rintro _ dh ⟨rfl,di⟩
 have dm:=df _ _ di
 have gZ:I.length=l1.length∨¬ (aC=0):=DX L
 refine Ar rfl (Mz rfl (fw (.bool (decide (¬ (aC=0)))) (Gi (e:= !(decide (aC=0))) yk decide_not.symm) (nt ?_)))
 by_cases bn:aC=0
 refine jF (dF (JP bn)) (sk (sr (Mz rfl (Kz (vJ l0.length) ?_))))
 refine WL.do rfl (G8 (x0:=(H5 none 0 []:bO)) (z:= .slice none 0 0) (k:=l0.length) (size:=1) (bytes:=24) qZ f3 rfl Tryz.underlying105 e7 dm rfl rfl e6 (by unfold maxLen; omega) ?_)
 intro u ja fD
 have fE:=fD.free (R:=sepL (q6 Row40H.own (s0 l0.length (H5 none 0 []:bO)))) (uA (wO (fB 149 3)))
 have ib:s2 (s0 l0.length (H5 none 0 []:bO))=l0.length:=H7
 have ic:s2 (s0 l0.length (E4 []:Ll aY))=l0.length:=H7
 have ig:yN w D (s0 l0.length (H5 none 0 []:bO)):=tZ _
 refine An rfl (FU (sr (Mz rfl (Kz (vJ l1.length) (Mn rfl (bo ?_))))))
 have fG:=fE.pb [0]
 obtain⟨fH,aG⟩:=qI fun(g:Nat) (Z:List bO) (C:List (Ll aY)) (w':World)=>Own w D w' [row u l0.length l0.length (q6 (Gy (β:=af)) Z) 40 1,sepL (q6 Row40H.own Z)]∧s8 bO.abs Z=C∧C.length=l0.length∧g≤l1.length∧yN w D Z∧tt C≤tt (List.take g I)∧j4 l0 I l1 0 (s0 l0.length (E4 []:Ll aY))=j4 l0 I (r6 g l1) g C
 refine Wp.loop (fun i:Nat × (List bO) × (List (Ll aY))=> [(28,vJ i.1),(27,vJ l1.length),(26, .slice A1 l1.length c1),(9, .slice u l0.length l0.length),(7,vI 0),(6, .slice none 0 0),(0, .slice A0 l0.length c0),(2, .slice A2 I.length c2)]) fH (fun i=>l1.length - i.1) (0,(s0 l0.length (H5 none 0 []:bO)),(s0 l0.length (E4 []:Ll aY))) ⟨rfl,rfl,rfl,rfl,rfl,rfl,rfl,rfl,trivial⟩ (aG.2 ⟨fG,by exact(K4 (f:=bO.abs)),by first | omega | (simp only [H6] <;> omega) | (simp only [H7]),e6,by first | assumption | exact tZ _,by first | (rw [zS]; exact JO _) | exact zU f4 e6,rfl⟩) ?_
 rintro ⟨g,Z,C⟩ jb dn
 obtain⟨aH,aI,ik,il,iq,iw,bu⟩:=aG.1 dn
 have iy:=az aI
 refine sr (Kz (.bool (decide (((g:Nat):Int) < ((l1.length:Nat):Int)))) (nt (FU ?_)))
 by_cases dw:((g:Nat):Int) < ((l1.length:Nat):Int)
 obtain⟨j,N⟩:=dK (ls:=d1) (i:=g) bG.len f3 (aH.ro bg) e9
 have ax:=fo bH N
 have iA:=(X _ (E0 N)).2.1
 have iC:=(X _ (E0 N)).2.2.2
 have iD:j.aJ.ls.length=s2 (C2 I g default).ls:=(zV L e6 ax).1.symm.trans (zV L e6 ax).2.1
 have dx:=drop_at ax
 refine jT (dT dw) (sk (FU (bo (sr (Mz rfl (fw (.pointer (some ⟨ab A1,ao A1+g *3,none⟩)) (FZ (tH) rfl rfl ((aH.ro bg).addr (i:=g) e6) e6) (fw (.agg (bG.cells j).toArray) (F5 rfl (Gc (cs:=(bG.cells j)) Tryz.isAgg172 Tryz.sizeOf172 ((aH.ro bg).elem bG.len N f3))) ?_)))))))
 refine dM [vI 0, .slice none 0 0, .slice none 0 0] 172 aH ?_
 intro fI jc fJ
 refine Az rfl ?_
 refine dN (bG.cells j) 0 fJ Tryz.sizeOf172 ?_
 intro jd dz
 refine ns (Kz (vP fI 2) (Lz (.slice j.aJ.A j.aJ.ls.length j.aJ.c) dz 0 Tryz.isAgg58 (Kz (vJ j.aJ.ls.length) (Mn rfl (bo ?_)))))
 have fK:=dz.pk [1,2]
 obtain⟨fM,aJ⟩:=qI fun(p:Nat) (F:List bO) (J:List (Ll aY)) (w':World)=>Own w D w' [row u l0.length l0.length (q6 (Gy (β:=af)) F) 40 1,sepL (q6 Row40H.own F)]∧s8 bO.abs F=J∧J.length=l0.length∧p≤j.aJ.ls.length∧yN w D F∧tt J≤seen I g p∧kJ I g j.aJ.ls 0 C=kJ I g (r6 p j.aJ.ls) p J
 refine Wp.loop (fun i:Nat × (List bO) × (List (Ll aY))=> [(36,vJ i.1),(35,vJ j.aJ.ls.length),(34, .slice j.aJ.A j.aJ.ls.length j.aJ.c),(10,vJ g),(28,vJ g),(27,vJ l1.length),(26, .slice A1 l1.length c1),(9, .slice u l0.length l0.length),(7,vI 0),(6, .slice none 0 0),(0, .slice A0 l0.length c0),(2, .slice A2 I.length c2)]) fM (fun i=>j.aJ.ls.length - i.1) (0,Z,C) ⟨rfl,rfl,rfl,rfl,rfl,rfl,rfl,rfl,rfl,rfl,rfl,rfl,trivial⟩ (aJ.2 ⟨fK,by exact aI,by first | omega | (simp only [H6] <;> omega) | (simp only [H7]),e6,by first | assumption | exact tZ _,by first | (rw [Cq]; assumption) | exact yO f4 f4 f4 f4,rfl⟩) ?_
 rintro ⟨p,F,J⟩ je dA
 obtain⟨aK,ae,iE,iF,iG,iH,bv⟩:=aJ.1 dA
 have iJ:=az ae
 refine sr (Kz (.bool (decide (((p:Nat):Int) < ((j.aJ.ls.length:Nat):Int)))) (nt (FU ?_)))
 by_cases dB:((p:Nat):Int) < ((j.aJ.ls.length:Nat):Int)
 obtain⟨n,aM⟩:=dK (ls:=j.aJ.ls) (i:=p) iI f3 (aK.ro (X _ (E0 N)).2.2.1) e9
 have iL:0≤n∧n < ((l0.length:Nat):Int):=(zV L e6 ax).2.2 _ (E0 aM)
 have dC:=drop_at aM
 refine jT (dT dB) (sk (FU (bo (sr (Mz rfl (fw (.pointer (some ⟨ab j.aJ.A,ao j.aJ.A+p *1,none⟩)) (FZ (ng) rfl rfl ((aK.ro (X _ (E0 N)).2.2.1).addr (i:=p) e6) e6) (fw (vI n) (F5 rfl (bZ.one Tryz.isAgg3 (((aK.ro (X _ (E0 N)).2.2.1).elem iI aM f3).at_ (k:=0) rfl))) (Az rfl (An rfl ?_)))))))))
 refine pG [14,16] (bP.block (F8 (F8 (bP.block (bP.block (F8 (F8 (bP.block (F8 Gh))))))))) aK ?_
 intro jf fO
 refine Gs (v:= .slice u l0.length l0.length) 0 rfl e7 (fun _=>F7 rfl) (Gs (v:=vJ (D2 n)) 1 rfl e7 (fun _=>FV (e:=n) (F7 rfl) e6) (qv 2 rfl rfl (qt (v:=vJ (D2 n)) 3 rfl (fun _ _=>FV (e:=n) (F7 rfl) e6) ?_)))
 obtain⟨h,O⟩:=jo (ls:=F) (i:=D2 n) e9
 have aN:=fo ae O
 obtain⟨iM,iO⟩:h.ls.length≤100000000∧s2 (s8 af.abs h.ls)≤100000000:=by first | exact xD f4 (Bb _ _ _) aF aN | exact xD f4 (wy _ _) aF aN
 refine qt (v:= .pointer (some ⟨ab u,ao u+(D2 n) *1,none⟩)) 4 rfl (fun _ ⟨_,V⟩=>FZ (wm) rfl rfl ((V.rds (i:=0) rfl).addr (i:=D2 n) e6) e6) (qt (v:= .slice h.A h.ls.length h.c) 5 rfl (fun _ ⟨_,V⟩=>F5 rfl (bZ.one E6 (((V.rds (i:=0) rfl).elem qZ O f3).at_ (k:=0) rfl))) (qv 6 rfl rfl (qv 7 rfl rfl ?_)))
 obtain⟨B,G⟩:=jo (ls:=d2) (i:=g) e9
 have aO:=fo bI G
 have fP:=(Y _ (E0 G)).2.1
 have fQ:s2 (s8 af.abs B.ls)=B.ls.length:=s6 ..
 have fT:B.ls.length=s2 (C2 I g default).ls:=by rw [zf aO]; exact(s6 ..).symm
 refine qt (v:= .pointer (some ⟨ab A2,ao A2+g *1,none⟩)) 8 rfl (fun _ ⟨_,V⟩=>FZ (wm) rfl rfl ((V.ro bK).addr (i:=g) e6) e6) (qt (v:= .slice B.A B.ls.length B.c) 9 rfl (fun _ ⟨_,V⟩=>F5 rfl (bZ.one E6 (((V.ro bK).elem qZ G f3).at_ (k:=0) rfl))) (qv 10 rfl rfl ?_))
 obtain⟨a,aa⟩:=jo (ls:=B.ls) (i:=p) e9
 have bL:=fo (rfl:s8 af.abs B.ls=s8 af.abs B.ls) aa
 have fU:=((Y _ (E0 G)).2.2 _ (E0 aa)).2
 refine qt (v:= .pointer (some ⟨ab B.A,ao B.A+p *3,none⟩)) 11 rfl (fun _ ⟨_,V⟩=>FZ (rP) rfl rfl ((V.ro (Y _ (E0 G)).1).addr (i:=p) e6) e6) (qt (v:= .agg (af.cells a).toArray) 12 rfl (fun _ ⟨_,V⟩=>F5 rfl (Gc (cs:=(af.cells a)) Tryz.isAgg149 Tryz.sizeOf149 ((V.ro (Y _ (E0 G)).1).elem af.len aa f3))) ?_)
 refine qd 13 rfl (He (cs:=(af.cells a)) (t:=149) (sz:=3) (m:=1) fO rfl rfl (fun _=>by kernel_rfl) rfl f3 ?_)
 intro aP dD aQ
 replace aQ:=Gq (y:=row aP 1 1 (q6 af.cells ([(af.mk a.dZ a.aW (H5 a.au.A a.au.c a.au.ls))])) 149 3) rfl aQ
 have bz:=aQ.pb [0]
 refine⟨.inr ⟨_,bz⟩, ?_⟩
 have dE:=bz.pf [1]
 have aR:Own w D dD [row h.A h.ls.length h.c (q6 af.cells h.ls) 149 3,sepL (q6 Row40H.own (List.take (D2 n) F)++q6 Row40H.own (r6 (D2 n+1) F)),row u l0.length l0.length (q6 (Gy (β:=af)) F) 40 1,row aP 1 1 (q6 af.cells ([(af.mk a.dZ a.aW (H5 a.au.A a.au.c a.au.ls))])) 149 3]:=GR (f:=Row40H.own) (i:=D2 n) O dE
 have fV:=aR.rowC (i:=0) rfl
 refine qd 14 rfl (Gr (k:=h.ls.length) (m:=1) (rP) aR rfl rfl (iU B6 (aR.rds (i:=3) rfl) (fF af.one ([(af.mk a.dZ a.aW (H5 a.au.A a.au.c a.au.ls))]))) rfl e6 (s:=s2 (h.ls++ [(af.mk a.dZ a.aW (H5 a.au.A a.au.c a.au.ls))])) f7 (List.flatMap_append).symm ?_)
 intro P Q dG bA
 have bM:∀ x:af,x ∈ (h.ls++ [(af.mk a.dZ a.aW (H5 a.au.A a.au.c a.au.ls))])→Ro w D (fun w'=>bD w' 2 x.au.A x.au.ls.length (q6 aL.cells x.au.ls))∧(x.au.ls.length≤x.au.c∧x.au.ls.length≤9223372036854775807):=fun x9 W=>Or.elim (List.mem_append.1 W) (fun W=>(zR f4 O) x9 W) (fun W=>(by rcases List.mem_cons.1 W with rfl | W; exact⟨((Y _ (E0 G)).2.2 _ (E0 aa)).1,(show a.au.ls.length≤a.au.c∧a.au.ls.length≤9223372036854775807 from by omega)⟩; exact(absurd W List.not_mem_nil)))
 have fZ:s2 (h.ls++ [(af.mk a.dZ a.aW (H5 a.au.A a.au.c a.au.ls))])=h.ls.length+1:=by simp only [p5,s3,G1]
 have gp:=az (oD (es:= [(af.mk a.dZ a.aW (H5 a.au.A a.au.c a.au.ls))]) (ms:= [(aY.mk a.dZ a.aW (E4 a.au.ls))]) (rfl:s8 af.abs h.ls=s8 af.abs h.ls) rfl)
 refine⟨.inl e7, ?_⟩
 refine Gs (v:= .pointer (some ⟨ab u,ao u+(D2 n) *1,none⟩)) 15 rfl e7 (fun _=>FZ (wm) rfl rfl ((bA.rds (i:=2) rfl).addr (i:=D2 n) e6) e6) ?_
 have dH:Own w D dG [sepL (q6 Row40H.own (u5 F (D2 n) (H5 P Q (h.ls++ [(af.mk a.dZ a.aW (H5 a.au.A a.au.c a.au.ls))]):bO))),row u l0.length l0.length (q6 (Gy (β:=af)) F) 40 1,row aP 1 1 (q6 af.cells ([(af.mk a.dZ a.aW (H5 a.au.A a.au.c a.au.ls))])) 149 3]:=GJ (f:=Row40H.own) (y:=(H5 P Q (h.ls++ [(af.mk a.dZ a.aW (H5 a.au.A a.au.c a.au.ls))]):bO)) O bA
 have dI:=dH.pf [1]
 refine qe 16 rfl (Do.storeRow (vs:= [.slice P (s2 (h.ls++ [(af.mk a.dZ a.aW (H5 a.au.A a.au.c a.au.ls))])) Q]) (o:=(D2 n) *1+0) (q:=ao u+(D2 n) *1) dI rfl e6 rfl Tryz.sizeOf40 rfl rfl (JM rfl) (iK qZ O (JM rfl)) (jE (y:=(H5 P Q (h.ls++ [(af.mk a.dZ a.aW (H5 a.au.A a.au.c a.au.ls))]):bO)) qZ rfl (JM rfl) O) ?_)
 intro iP dJ
 have gu:yN w D (u5 F (D2 n) (H5 P Q (h.ls++ [(af.mk a.dZ a.aW (H5 a.au.A a.au.c a.au.ls))]):bO)):=DW f4 bM
 have gy:s2 (u5 F (D2 n) (H5 P Q (h.ls++ [(af.mk a.dZ a.aW (H5 a.au.A a.au.c a.au.ls))]):bO))=s2 (u5 J (D2 n) (E4 ((s8 af.abs h.ls)++ [(aY.mk a.dZ a.aW (E4 a.au.ls))]))):=az (iB ae (congrArg E4 (oD (es:= [(af.mk a.dZ a.aW (H5 a.au.A a.au.c a.au.ls))]) (ms:= [(aY.mk a.dZ a.aW (E4 a.au.ls))]) (rfl:s8 af.abs h.ls=s8 af.abs h.ls) rfl)))
 have gz:s2 (u5 J (D2 n) (E4 ((s8 af.abs h.ls)++ [(aY.mk a.dZ a.aW (E4 a.au.ls))])))=J.length:=H6
 refine⟨.inl e7, ?_⟩
 refine qn (bN (FW ?_))
 have dL:=dJ.pk [0,1]
 refine FT (fw (vJ (p+1)) (FV (e:=C7.wrap (((p:Nat):Int)+1)) yk f1) (Mz rfl (WL.nil ?_)))
 have dO:=dL.pf []
 exact F9 (p+1,(u5 F (D2 n) (H5 P Q (h.ls++ [(af.mk a.dZ a.aW (H5 a.au.A a.au.c a.au.ls))]):bO)),(u5 J (D2 n) (E4 ((s8 af.abs h.ls)++ [(aY.mk a.dZ a.aW (E4 a.au.ls))])))) ⟨rfl,rfl,rfl,rfl,rfl,rfl,rfl,rfl,rfl,rfl,rfl,rfl,trivial⟩ (aJ.2 ⟨dO,by exact(iB ae (congrArg E4 (oD (es:= [(af.mk a.dZ a.aW (H5 a.au.A a.au.c a.au.ls))]) (ms:= [(aY.mk a.dZ a.aW (E4 a.au.ls))]) (rfl:s8 af.abs h.ls=s8 af.abs h.ls) rfl))),by first | omega | (simp only [H6] <;> omega) | (simp only [H7]),e6,by first | assumption | exact tZ _,by first | (rw [Cq]; assumption) | exact yO f4 f4 f4 f4,Eq.trans (bv) (Eq.trans (congrArg (fun q=>kJ I g q p J) dC) (Eq.trans (ai (bJ aN)) (Eq.trans (ai (bJ aO)) (ai (bJ bL)))))⟩) (by show j.aJ.ls.length - (p+1) < j.aJ.ls.length - p; omega)
 refine jF (dF dB) (Wp.exit (F4 ?_))
 have bQ:kJ I g j.aJ.ls 0 C=J:=et (bv) (et (congrArg (fun q=>kJ I g q p J) (eZ (ls:=j.aJ.ls) (i:=p) e6)) rfl)
 refine F4 (Gg (bN (FW (FT (fw (vJ (g+1)) (FV (e:=C7.wrap (((g:Nat):Int)+1)) yk f1) (Mz rfl (WL.nil ?_)))))))
 have dP:=aK.pf []
 exact F9 (g+1,F,J) ⟨rfl,rfl,rfl,rfl,rfl,rfl,rfl,rfl,trivial⟩ (aG.2 ⟨dP,by exact ae,by first | omega | (simp only [H6] <;> omega) | (simp only [H7]),e6,by first | assumption | exact tZ _,by first | (rw [zS]; exact JO _) | exact zU f4 e6,Eq.trans (bu) (Eq.trans (congrArg (fun q=>j4 l0 I q g C) dx) (ai bQ))⟩) (by show l1.length - (g+1) < l1.length - g; omega)
 refine jF (dF dw) (Wp.exit (F4 ?_))
 have bR:j4 l0 I l1 0 (s0 l0.length (E4 []:Ll aY))=C:=et (bu) (et (congrArg (fun q=>j4 l0 I q g C) (eZ (ls:=l1) (i:=g) e6)) rfl)
 refine F4 (Gg (FW (sr (Mz rfl (Kz (vJ l0.length) ?_)))))
 refine WL.do rfl (G8 (x0:=(af.mk false ([]) (H5 none 0 ([])))) (z:= .agg #[.bool false, .string ⟨List.toArray ([])⟩, .slice none 0 0]) (k:=l0.length) (size:=3) (bytes:=48) af.len f3 rfl B6 e7 aH rfl rfl e6 (by unfold maxLen; omega) ?_)
 intro K dQ dS
 have dU:Own w D dQ (sepL (q6 af.own (s0 l0.length (af.mk false ([]) (H5 none 0 ([])))))::_):=dS.free (uA (wO (fB 153 2)))
 have gB:s2 (s0 l0.length (af.mk false ([]) (H5 none 0 ([]))))=l0.length:=H7
 have gD:s2 (s0 l0.length (aY.mk false ([]) (E4 ([]))))=l0.length:=H7
 refine An rfl (FU (sr (Mz rfl (Kz (vJ l0.length) (Mn rfl (bo ?_))))))
 have dV:=dU.pb [0]
 obtain⟨dW,aj⟩:=qI fun(b:Nat) (E:List af) (r:List aY) (w':World)=>Own w D w' [row K l0.length l0.length (q6 af.cells E) 149 3,row u l0.length l0.length (q6 (Gy (β:=af)) Z) 40 1,sepL (q6 Row40H.own Z),sepL (q6 af.own E)]∧s8 af.abs E=r∧r.length=l0.length∧b≤l0.length∧j5 C l0 0 (s0 l0.length (aY.mk false ([]) (E4 ([]))))=j5 C (r6 b l0) b r
 refine Wp.loop (fun i:Nat × (List af) × (List aY)=> [(64,vJ i.1),(63,vJ l0.length),(14, .slice K l0.length l0.length),(9, .slice u l0.length l0.length),(7,vI 0),(6, .slice none 0 0),(0, .slice A0 l0.length c0)]) dW (fun i=>l0.length - i.1) (0,(s0 l0.length (af.mk false ([]) (H5 none 0 ([])))),(s0 l0.length (aY.mk false ([]) (E4 ([]))))) ⟨rfl,rfl,rfl,rfl,rfl,rfl,rfl,trivial⟩ (aj.2 ⟨dV,by exact(K4 (f:=af.abs)),by first | omega | (simp only [H6] <;> omega) | (simp only [H7]),e6,rfl⟩) ?_
 rintro ⟨b,E,r⟩ dX bS
 obtain⟨aS,S,gF,gG,aT⟩:=aj.1 bS
 have gH:=az S
 refine sr (Kz (.bool (decide (((b:Nat):Int) < ((l0.length:Nat):Int)))) (nt (FU ?_)))
 by_cases bB:((b:Nat):Int) < ((l0.length:Nat):Int)
 obtain⟨aA,aU⟩:=dK (ls:=l0) (i:=b) bC.len f3 (aS.ro bf) e9
 have bT:=drop_at aU
 refine jT (dT bB) (sk (FU (bo (sr (Mz rfl (An rfl ?_))))))
 refine xx [12] (bP.block (F8 (F8 (bP.block (F8 Gh))))) aS ?_
 intro iQ dY
 refine qv 0 rfl rfl (qv 1 rfl rfl (qv 2 rfl rfl (qv 3 rfl rfl (qt (v:= .pointer (some ⟨ab A0,ao A0+b *6,none⟩)) 4 rfl (fun _ ⟨_,V⟩=>FZ (qx) rfl rfl ((V.ro bf).addr (i:=b) e6) e6) (qt (v:= .agg (bC.cells aA).toArray) 5 rfl (fun _ ⟨_,V⟩=>F5 rfl (Gc (cs:=(bC.cells aA)) Tryz.isAgg72 Tryz.sizeOf72 ((V.ro bf).elem bC.len aU f3))) (qv 6 rfl rfl (qv 7 rfl rfl ?_)))))))
 obtain⟨l,T⟩:=jo (ls:=Z) (i:=b) e9
 have ak:=fo aI T
 obtain⟨gI,gJ⟩:l.ls.length≤100000000∧s2 (s8 af.abs l.ls)≤100000000:=by first | exact xD f4 (Bb _ _ _) aF ak | exact xD f4 (wy _ _) aF ak
 refine qt (v:= .pointer (some ⟨ab u,ao u+b *1,none⟩)) 8 rfl (fun _ ⟨_,V⟩=>FZ (wm) rfl rfl ((V.rds (i:=1) rfl).addr (i:=b) e6) e6) (qt (v:= .slice l.A l.ls.length l.c) 9 rfl (fun _ ⟨_,V⟩=>F5 rfl (bZ.one E6 (((V.rds (i:=1) rfl).elem qZ T f3).at_ (k:=0) rfl))) ?_)
 have gK:l.ls.length=s2 (s8 af.abs l.ls):=f0
 obtain⟨d,aW⟩:∃ q,kT aA (s8 af.abs l.ls)=q:=⟨_,rfl⟩
 obtain⟨iR,bU,bV,bW,bX⟩:=FY dY
 refine qd 10 rfl (Gd Tryz.call149 rfl (wC _ _ aA l.A l.ls.length l.c l.ls (s8 af.abs l.ls) d bU (rfl:s8 af.abs l.ls=s8 af.abs l.ls) (bX _ 2 _ rfl (ay (List.mem_flatMap.2 ⟨l,E0 T,b1⟩) aV)) (fun x9 W=>⟨bV _ ((zR f4 T) x9 W).1,((zR f4 T) x9 W).2⟩) f0 g4 (by first | assumption | omega | exact Fb f4 aF f4) aW) ?_)
 rintro _ iT ⟨ag,ah,rfl,bY⟩
 have bE:=bW _ _ bY
 have gL:=bE.rowC (i:=0) rfl
 have bF:=bE.pb [0]
 refine⟨.inr ⟨_,bF⟩, ?_⟩
 obtain⟨aB,U⟩:=jo (ls:=E) (i:=b) e9
 have gM:=fo S U
 refine qt (v:= .pointer (some ⟨ab K,ao K+b *3,none⟩)) 11 rfl (fun _ ⟨_,V⟩=>FZ (rP) rfl rfl ((V.rds (i:=0) rfl).addr (i:=b) e6) e6) ?_
 have dZ:=bF.pf [3]
 have d9:=Jb (f:=af.own) (i:=b) (row aB.au.A aB.au.ls.length aB.au.c (q6 aL.cells aB.au.ls) 153 2) rfl U dZ
 have ed:=d9.px [] [0] []
 have ek:=ed.pf [4]
 have eu:=GJ (f:=af.own) (y:=(af.mk d.dZ d.aW (H5 ag ah d.au.ls))) U ek
 have eB:=eu.pf [1]
 refine qe 12 rfl (Do.storeRow (vs:= [.bool d.dZ, .string ⟨List.toArray d.aW⟩, .slice ag d.au.ls.length ah]) (o:=b *3+0) (q:=ao K+b *3) eB rfl e6 rfl Tryz.sizeOf149 rfl rfl (JM rfl) (iK af.len U (JM rfl)) (jE (y:=(af.mk d.dZ d.aW (H5 ag ah d.au.ls))) af.len rfl (JM rfl) U) ?_)
 intro iV eD
 have gN:s2 (u5 E b (af.mk d.dZ d.aW (H5 ag ah d.au.ls)))=s2 (u5 r b (aY.mk d.dZ d.aW (E4 d.au.ls))):=az (iB S rfl)
 have gP:s2 (u5 r b (aY.mk d.dZ d.aW (E4 d.au.ls)))=r.length:=H6
 refine⟨.inl e7, ?_⟩
 refine qn (bN (FW (FT (fw (vJ (b+1)) (FV (e:=C7.wrap (((b:Nat):Int)+1)) yk f1) (Mz rfl (WL.nil ?_))))))
 have eF:=eD.pb [1]
 exact F9 (b+1,(u5 E b (af.mk d.dZ d.aW (H5 ag ah d.au.ls))),(u5 r b (aY.mk d.dZ d.aW (E4 d.au.ls)))) ⟨rfl,rfl,rfl,rfl,rfl,rfl,rfl,trivial⟩ (aj.2 ⟨eF,by exact(iB S rfl),by first | omega | (simp only [H6] <;> omega) | (simp only [H7]),e6,Eq.trans (aT) (Eq.trans (congrArg (fun q=>j5 C q b r) bT) (Eq.trans (ai (bJ ak)) (ai aW)))⟩) (by show l0.length - (b+1) < l0.length - b; omega)
 refine jF (dF bB) (Wp.exit (F4 ?_))
 have cu:j5 C l0 0 (s0 l0.length (aY.mk false ([]) (E4 ([]))))=r:=et (aT) (et (congrArg (fun q=>j5 C q b r) (eZ (ls:=l0) (i:=b) e6)) rfl)
 refine F4 (Gg (FW (FU ?_)))
 have eG:=aS.pk [0,3]
 refine FT (Mz rfl (Az rfl (An rfl (rt (Fin.res (lY rfl rfl rfl) ?_)))))
 have au:l0.length=r.length:=by first | omega | (simp only [H6]; done) | (simp only [H6,p5,s3,G1,List.length_take,List.length_drop,H7]; omega)
 have eH:Own w D dX [row K r.length l0.length (q6 af.cells E) 149 3,sepL (q6 af.own E)]:=by rw [← au]; exact eG
 have eO:=eH.pf []
 obtain⟨rfl,rfl⟩:=gm (hr.symm.trans (show _=(r,0) from et (ai L) (et (ip bn) (et (ai bR) (ai cu)))))
 exact⟨K,l0.length,E,(by first | rfl | (rw [← au]; done) | (rw [← au]; rfl)),eO,S⟩
 refine jT (dT bn) (sr (Mz rfl (Az rfl (An rfl (rt (tR (Fin.res (lY rfl rfl rfl) ?_)))))))
 have eP:Own w D dh [sepL (q6 af.own ([]))]:=dm.sepNil
 have eQ:Own w D dh [row none 0 0 (q6 af.cells ([])) 149 3,sepL (q6 af.own ([]))]:=eP.free (fB 149 3)
 have eT:=eQ.pf []
 obtain⟨rfl,rfl⟩:=gm (hr.symm.trans (show _=(([]:List aY),aC) from et (ai L) (iN bn)))
 exact⟨none,0, [],rfl,eT,rfl⟩
end Go.Proofs.YtbkagebjhbphaaaGreat
