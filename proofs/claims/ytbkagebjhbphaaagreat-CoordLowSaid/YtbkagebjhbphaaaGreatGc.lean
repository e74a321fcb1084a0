/-
 owner: what was told gathered.
-/
import Derived.Test.YtbkagebjhbphaaaGreatGaM
namespace Go.Proofs.YtbkagebjhbphaaaGreat
open Int renaming toNat→D2
open IntKind renaming i64→C7
open List renaming drop→r6,flatMap→q6,getD→C2,length→s2,length_append→p5,length_cons→s3,length_map→s6,length_nil→G1,length_replicate→H4,length_set→H3,map→s8,map_replicate→J8,mem_of_getElem?→E0,replicate→s0,set→u5
open Ll renaming mk→E4
open Sv renaming mk→H2
open _root_.Go.Proofs.Tryz renaming isAgg40→E6,underlying40→B6
set_option maxRecDepth 100000
open Go.RowKit
set_option linter.unusedVariables false
set_option linter.unusedSectionVars false
set_option linter.unusedSimpArgs false
def kD (i:List (Ll aX)) (e:Nat):List Int→Nat→List (Ll aX)→(List (Ll aX))
  | [],c,b=>b
  | f::h,c,b=>bnd (C2 b (D2 f) default) fun g=>bnd (C2 i e default) fun d=>bnd (C2 d.ls c default) fun a=>kD i e h (c+1) (u5 b (D2 f) (E4 (g.ls++ [(aX.mk a.dW a.aU (E4 a.au.ls))])))
def jU (l0:List bC) (e:List (Ll aX)):List fV→Nat→List (Ll aX)→(List (Ll aX))
  | [],a,b=>b
  | c::d,a,b=>bnd (kD e a c.aP.ls 0 b) fun sLrbtLsL=>jU l0 e d (a+1) sLrbtLsL
def jV (e:List (Ll aX)):List bC→Nat→List aX→(List aX)
  | [],b,c=>c
  | f::g,b,c=>bnd (C2 e b default) fun d=>bnd (kN f d.ls) fun a=>jV e g (b+1) (u5 c b (aX.mk a.dW a.aU (E4 a.au.ls)))
def nk (l0:List bC) (l1:List fV) (b:List (Ll aX)):(List aX) × Int:=
 bnd (j4 l0 l1 b) fun a=>if a=0 then bnd (jU l0 b l1 0 (s0 l0.length (E4 []:Ll aX))) fun sLrbtL=>bnd (jV sLrbtL l0 0 (s0 l0.length (aX.mk false ([]) (E4 ([]))))) fun sLrbtLaL=>(sLrbtLaL,0) else(([]:List aX),a)
theorem wY (w:World) (D:Nat→Prop) (A0:Option Addr) (n0 c0:Nat) (l0:List bC) (A1:Option Addr) (n1 c1:Nat) (d1:List bG) (l1:List fV) (A2:Option Addr) (n2 c2:Nat) (d2:List bM) (I:List (Ll aX)) (r0:List aX) (r1:Int) (H:Own w D w []) (bf:Ro w D fun w'=>bD w' 6 A0 n0 (q6 bC.cells l0)) (fA:n0=l0.length) (iW:l0.length *80≤211106232532992) (bH:s8 bG.abs d1=l1) (bg:Ro w D fun w'=>bD w' 3 A1 n1 (q6 bG.cells d1)) (X:∀ x ∈ d1,Ro w D (fun w'=>bD w' 6 x.aD.A x.aD.ls.length (q6 bC.cells x.aD.ls))∧(x.aD.ls.length≤x.aD.c∧x.aD.ls.length≤9223372036854775807)∧Ro w D (fun w'=>bD w' 1 x.aP.A x.aP.ls.length (q6 (eI .i64) x.aP.ls))∧(x.aP.ls.length≤x.aP.c∧x.aP.ls.length≤9223372036854775807)) (fB:n1=l1.length) (iX:l1.length *56≤211106232532992) (bJ:s8 bM.abs d2=I) (bK:Ro w D fun w'=>bD w' 1 A2 n2 (q6 (FJ (β:=af)) d2)) (Y:∀ x ∈ d2,Ro w D (fun w'=>bD w' 3 x.A x.ls.length (q6 af.cells x.ls))∧(x.ls.length≤x.c∧x.ls.length≤9223372036854775807)∧(∀ y1 ∈ x.ls,Ro w D (fun w'=>bD w' 2 y1.au.A y1.au.ls.length (q6 aJ.cells y1.au.ls))∧(y1.au.ls.length≤y1.au.c∧y1.au.ls.length≤9223372036854775807))) (fC:n2=I.length) (iY:I.length *24≤211106232532992) (aF:tt I≤100000000) (hr:nk l0 l1 I=(r0,r1)):
    Calls Tryz.prog 129 #[.slice A0 n0 c0, .slice A1 n1 c1, .slice A2 n2 c2] w (dS fun v w'=> ∃ (B0:Option Addr) (b0:Nat) (e0:List af),v= .tuple #[.slice B0 r0.length b0,vI r1]∧Own w D w' [row B0 r0.length b0 (q6 af.cells e0) 149 3,sepL (q6 af.own e0)]∧(s8 af.abs e0=r0)):=by
 subst fA fB fC
 have gV:=az bH
 have gW:=az bJ
 refine cb Tryz.func129 ?_
 refine sr (Az rfl (An rfl (EP (sr (Mz rfl (Mz rfl (Mz rfl ?_)))))))
 obtain⟨aC,L⟩:∃ q,j4 l0 l1 I=q:=⟨_,rfl⟩
 obtain⟨iZ,cZ,M,df,gX⟩:=EU H
 refine cl Tryz.call148 (uH _ _ A0 l0.length c0 l0 A1 l1.length c1 d1 l1 A2 I.length c2 d2 I aC cZ (M _ bf) rfl e6 bH (M _ bg) (fun x9 W=>⟨M _ (X x9 W).1,(X x9 W).2.1,M _ (X x9 W).2.2.1,(X x9 W).2.2.2⟩) rfl e6 bJ (M _ bK) (fun x9 W=>⟨M _ (Y x9 W).1,(Y x9 W).2.1,(fun y1 k1=>⟨M _ ((Y x9 W).2.2 y1 k1).1,((Y x9 W).2.2 y1 k1).2⟩)⟩) rfl e6 L) ?_
 rintro _ dh ⟨rfl,di⟩
 have dm:=df _ _ di
 have gZ:I.length=l1.length∨¬ (aC=0):=Db L
 refine Ar rfl (Mz rfl (fw (.bool (decide (¬ (aC=0)))) (Fs (e:= !(decide (aC=0))) yk decide_not.symm) (nt ?_)))
 by_cases bn:aC=0
 refine jF (dF (IV bn)) (sk (sr (Mz rfl (Kz (vJ l0.length) ?_))))
 refine WL.do rfl (F5 (x0:=(H2 none 0 []:bM)) (z:= .slice none 0 0) (k:=l0.length) (size:=1) (bytes:=24) qL f3 rfl Tryz.underlying105 e7 dm rfl rfl e6 (by unfold maxLen; omega) ?_)
 intro u ja fE
 have fF:=fE.free (R:=sepL (q6 Row40H.own (s0 l0.length (H2 none 0 []:bM)))) (ug (wu (eZ 149 3)))
 have ib:s2 (s0 l0.length (H2 none 0 []:bM))=l0.length:=H4
 have ic:s2 (s0 l0.length (E4 []:Ll aX))=l0.length:=H4
 have ig:yf w D (s0 l0.length (H2 none 0 []:bM)):=tC _
 refine An rfl (EP (sr (Mz rfl (Kz (vJ l1.length) (Mn rfl (bo ?_))))))
 have fG:=fF.pb [0]
 obtain⟨fH,aG⟩:=qo fun(g:Nat) (Z:List bM) (C:List (Ll aX)) (w':World)=>Own w D w' [row u l0.length l0.length (q6 (FJ (β:=af)) Z) 40 1,sepL (q6 Row40H.own Z)]∧s8 bM.abs Z=C∧C.length=l0.length∧g≤l1.length∧yf w D Z∧tt C≤tt (List.take g I)∧jU l0 I l1 0 (s0 l0.length (E4 []:Ll aX))=jU l0 I (r6 g l1) g C
 refine Wp.loop (fun i:Nat × (List bM) × (List (Ll aX))=> [(28,vJ i.1),(27,vJ l1.length),(26, .slice A1 l1.length c1),(9, .slice u l0.length l0.length),(7,vI 0),(6, .slice none 0 0),(0, .slice A0 l0.length c0),(2, .slice A2 I.length c2)]) fH (fun i=>l1.length - i.1) (0,(s0 l0.length (H2 none 0 []:bM)),(s0 l0.length (E4 []:Ll aX))) ⟨rfl,rfl,rfl,rfl,rfl,rfl,rfl,rfl,trivial⟩ (aG.2 ⟨fG,by exact(J8 (f:=bM.abs)),by first | omega | (simp only [H3] <;> omega) | (simp only [H4]),e6,by first | assumption | exact tC _,by first | (rw [zm]; exact IU _) | exact zo f5 e6,rfl⟩) ?_
 rintro ⟨g,Z,C⟩ jb dn
 obtain⟨aH,aI,ik,il,iq,iw,bu⟩:=aG.1 dn
 have iy:=az aI
 refine sr (Kz (.bool (decide (((g:Nat):Int) < ((l1.length:Nat):Int)))) (nt (EP ?_)))
 by_cases dw:((g:Nat):Int) < ((l1.length:Nat):Int)
 obtain⟨j,N⟩:=dG (ls:=d1) (i:=g) bG.len f3 (aH.ro bg) e9
 have ay:=eP bH N
 have iB:=(X _ (E0 N)).2.1
 have iC:=(X _ (E0 N)).2.2.2
 have iD:j.aP.ls.length=s2 (C2 I g default).ls:=(zq L e6 ay).1.symm.trans (zq L e6 ay).2.1
 have dx:=drop_at ay
 refine jT (dT dw) (sk (EP (bo (sr (Mz rfl (fw (.pointer (some ⟨ab A1,ao A1+g *3,none⟩)) (ET (sI) rfl rfl ((aH.ro bg).addr (i:=g) e6) e6) (fw (.agg (bG.cells j).toArray) (EY rfl (Fb (cs:=(bG.cells j)) Tryz.isAgg172 Tryz.sizeOf172 ((aH.ro bg).elem bG.len N f3))) ?_)))))))
 refine dK [vI 0, .slice none 0 0, .slice none 0 0] 172 aH ?_
 intro fI jc fJ
 refine Az rfl ?_
 refine dN (bG.cells j) 0 fJ Tryz.sizeOf172 ?_
 intro jd dz
 refine ns (Kz (vP fI 2) (Lz (.slice j.aP.A j.aP.ls.length j.aP.c) dz 0 Tryz.isAgg58 (Kz (vJ j.aP.ls.length) (Mn rfl (bo ?_)))))
 have fK:=dz.pk [1,2]
 obtain⟨fM,aK⟩:=qo fun(p:Nat) (F:List bM) (J:List (Ll aX)) (w':World)=>Own w D w' [row u l0.length l0.length (q6 (FJ (β:=af)) F) 40 1,sepL (q6 Row40H.own F)]∧s8 bM.abs F=J∧J.length=l0.length∧p≤j.aP.ls.length∧yf w D F∧tt J≤seen I g p∧kD I g j.aP.ls 0 C=kD I g (r6 p j.aP.ls) p J
 refine Wp.loop (fun i:Nat × (List bM) × (List (Ll aX))=> [(36,vJ i.1),(35,vJ j.aP.ls.length),(34, .slice j.aP.A j.aP.ls.length j.aP.c),(10,vJ g),(28,vJ g),(27,vJ l1.length),(26, .slice A1 l1.length c1),(9, .slice u l0.length l0.length),(7,vI 0),(6, .slice none 0 0),(0, .slice A0 l0.length c0),(2, .slice A2 I.length c2)]) fM (fun i=>j.aP.ls.length - i.1) (0,Z,C) ⟨rfl,rfl,rfl,rfl,rfl,rfl,rfl,rfl,rfl,rfl,rfl,rfl,trivial⟩ (aK.2 ⟨fK,by exact aI,by first | omega | (simp only [H3] <;> omega) | (simp only [H4]),e6,by first | assumption | exact tC _,by first | (rw [BG]; assumption) | exact yg f5 f5 f5 f5,rfl⟩) ?_
 rintro ⟨p,F,J⟩ je dA
 obtain⟨aL,ae,iE,iF,iG,iI,bv⟩:=aK.1 dA
 have iK:=az ae
 refine sr (Kz (.bool (decide (((p:Nat):Int) < ((j.aP.ls.length:Nat):Int)))) (nt (EP ?_)))
 by_cases dB:((p:Nat):Int) < ((j.aP.ls.length:Nat):Int)
 obtain⟨n,aM⟩:=dG (ls:=j.aP.ls) (i:=p) iH f3 (aL.ro (X _ (E0 N)).2.2.1) e9
 have iL:0≤n∧n < ((l0.length:Nat):Int):=(zq L e6 ay).2.2 _ (E0 aM)
 have dC:=drop_at aM
 refine jT (dT dB) (sk (EP (bo (sr (Mz rfl (fw (.pointer (some ⟨ab j.aP.A,ao j.aP.A+p *1,none⟩)) (ET (mQ) rfl rfl ((aL.ro (X _ (E0 N)).2.2.1).addr (i:=p) e6) e6) (fw (vI n) (EY rfl (bZ.one Tryz.isAgg3 (((aL.ro (X _ (E0 N)).2.2.1).elem iH aM f3).at_ (k:=0) rfl))) (Az rfl (An rfl ?_)))))))))
 refine o5 [14,16] (bP.block (E9 (E9 (bP.block (bP.block (E9 (E9 (bP.block (E9 Fp))))))))) aL ?_
 intro jf fO
 refine Fz (v:= .slice u l0.length l0.length) 0 rfl e7 (fun _=>E5 rfl) (Fz (v:=vJ (D2 n)) 1 rfl e7 (fun _=>EQ (e:=n) (E5 rfl) e6) (qv 2 rfl rfl (qt (v:=vJ (D2 n)) 3 rfl (fun _ _=>EQ (e:=n) (E5 rfl) e6) ?_)))
 obtain⟨h,O⟩:=ji (ls:=F) (i:=D2 n) e9
 have aN:=eP ae O
 obtain⟨iO,iP⟩:h.ls.length≤100000000∧s2 (s8 af.abs h.ls)≤100000000:=by first | exact wX f5 (Aj _ _ _) aF aN | exact wX f5 (vR _ _) aF aN
 refine qt (v:= .pointer (some ⟨ab u,ao u+(D2 n) *1,none⟩)) 4 rfl (fun _ ⟨_,V⟩=>ET (vM) rfl rfl ((V.rds (i:=0) rfl).addr (i:=D2 n) e6) e6) (qt (v:= .slice h.A h.ls.length h.c) 5 rfl (fun _ ⟨_,V⟩=>EY rfl (bZ.one E6 (((V.rds (i:=0) rfl).elem qL O f3).at_ (k:=0) rfl))) (qv 6 rfl rfl (qv 7 rfl rfl ?_)))
 obtain⟨B,G⟩:=ji (ls:=d2) (i:=g) e9
 have aO:=eP bJ G
 have fP:=(Y _ (E0 G)).2.1
 have fQ:s2 (s8 af.abs B.ls)=B.ls.length:=s6 ..
 have fU:B.ls.length=s2 (C2 I g default).ls:=by rw [yD aO]; exact(s6 ..).symm
 refine qt (v:= .pointer (some ⟨ab A2,ao A2+g *1,none⟩)) 8 rfl (fun _ ⟨_,V⟩=>ET (vM) rfl rfl ((V.ro bK).addr (i:=g) e6) e6) (qt (v:= .slice B.A B.ls.length B.c) 9 rfl (fun _ ⟨_,V⟩=>EY rfl (bZ.one E6 (((V.ro bK).elem qL G f3).at_ (k:=0) rfl))) (qv 10 rfl rfl ?_))
 obtain⟨a,aa⟩:=ji (ls:=B.ls) (i:=p) e9
 have bL:=eP (rfl:s8 af.abs B.ls=s8 af.abs B.ls) aa
 have fZ:=((Y _ (E0 G)).2.2 _ (E0 aa)).2
 refine qt (v:= .pointer (some ⟨ab B.A,ao B.A+p *3,none⟩)) 11 rfl (fun _ ⟨_,V⟩=>ET (rf) rfl rfl ((V.ro (Y _ (E0 G)).1).addr (i:=p) e6) e6) (qt (v:= .agg (af.cells a).toArray) 12 rfl (fun _ ⟨_,V⟩=>EY rfl (Fb (cs:=(af.cells a)) Tryz.isAgg149 Tryz.sizeOf149 ((V.ro (Y _ (E0 G)).1).elem af.len aa f3))) ?_)
 refine qd 13 rfl (F9 (cs:=(af.cells a)) (t:=149) (sz:=3) (m:=1) fO rfl rfl (fun _=>by kernel_rfl) rfl f3 ?_)
 intro aP dD aQ
 replace aQ:=Fx (y:=row aP 1 1 (q6 af.cells ([(af.mk a.dW a.aU (H2 a.au.A a.au.c a.au.ls))])) 149 3) rfl aQ
 have bz:=aQ.pb [0]
 refine⟨.inr ⟨_,bz⟩, ?_⟩
 have dE:=bz.pf [1]
 have aR:Own w D dD [row h.A h.ls.length h.c (q6 af.cells h.ls) 149 3,sepL (q6 Row40H.own (List.take (D2 n) F)++q6 Row40H.own (r6 (D2 n+1) F)),row u l0.length l0.length (q6 (FJ (β:=af)) F) 40 1,row aP 1 1 (q6 af.cells ([(af.mk a.dW a.aU (H2 a.au.A a.au.c a.au.ls))])) 149 3]:=FW (f:=Row40H.own) (i:=D2 n) O dE
 have gm:=aR.rowC (i:=0) rfl
 refine qd 14 rfl (Fy (k:=h.ls.length) (m:=1) (rf) aR rfl rfl (iM B6 (aR.rds (i:=3) rfl) (fu af.one ([(af.mk a.dW a.aU (H2 a.au.A a.au.c a.au.ls))]))) rfl e6 (s:=s2 (h.ls++ [(af.mk a.dW a.aU (H2 a.au.A a.au.c a.au.ls))])) f7 (List.flatMap_append).symm ?_)
 intro P Q dH bA
 have bO:∀ x:af,x ∈ (h.ls++ [(af.mk a.dW a.aU (H2 a.au.A a.au.c a.au.ls))])→Ro w D (fun w'=>bD w' 2 x.au.A x.au.ls.length (q6 aJ.cells x.au.ls))∧(x.au.ls.length≤x.au.c∧x.au.ls.length≤9223372036854775807):=fun x9 W=>Or.elim (List.mem_append.1 W) (fun W=>(zl f5 O) x9 W) (fun W=>(by rcases List.mem_cons.1 W with rfl | W; exact⟨((Y _ (E0 G)).2.2 _ (E0 aa)).1,(show a.au.ls.length≤a.au.c∧a.au.ls.length≤9223372036854775807 from by omega)⟩; exact(absurd W List.not_mem_nil)))
 have gp:s2 (h.ls++ [(af.mk a.dW a.aU (H2 a.au.A a.au.c a.au.ls))])=h.ls.length+1:=by simp only [p5,s3,G1]
 have gq:=az (nZ (es:= [(af.mk a.dW a.aU (H2 a.au.A a.au.c a.au.ls))]) (ms:= [(aX.mk a.dW a.aU (E4 a.au.ls))]) (rfl:s8 af.abs h.ls=s8 af.abs h.ls) rfl)
 refine⟨.inl e7, ?_⟩
 refine Fz (v:= .pointer (some ⟨ab u,ao u+(D2 n) *1,none⟩)) 15 rfl e7 (fun _=>ET (vM) rfl rfl ((bA.rds (i:=2) rfl).addr (i:=D2 n) e6) e6) ?_
 have dI:Own w D dH [sepL (q6 Row40H.own (u5 F (D2 n) (H2 P Q (h.ls++ [(af.mk a.dW a.aU (H2 a.au.A a.au.c a.au.ls))]):bM))),row u l0.length l0.length (q6 (FJ (β:=af)) F) 40 1,row aP 1 1 (q6 af.cells ([(af.mk a.dW a.aU (H2 a.au.A a.au.c a.au.ls))])) 149 3]:=FO (f:=Row40H.own) (y:=(H2 P Q (h.ls++ [(af.mk a.dW a.aU (H2 a.au.A a.au.c a.au.ls))]):bM)) O bA
 have dJ:=dI.pf [1]
 refine qe 16 rfl (Do.storeRow (vs:= [.slice P (s2 (h.ls++ [(af.mk a.dW a.aU (H2 a.au.A a.au.c a.au.ls))])) Q]) (o:=(D2 n) *1+0) (q:=ao u+(D2 n) *1) dJ rfl e6 rfl Tryz.sizeOf40 rfl rfl (IQ rfl) (iJ qL O (IQ rfl)) (jw (y:=(H2 P Q (h.ls++ [(af.mk a.dW a.aU (H2 a.au.A a.au.c a.au.ls))]):bM)) qL rfl (IQ rfl) O) ?_)
 intro iQ dL
 have gu:yf w D (u5 F (D2 n) (H2 P Q (h.ls++ [(af.mk a.dW a.aU (H2 a.au.A a.au.c a.au.ls))]):bM)):=Da f5 bO
 have gy:s2 (u5 F (D2 n) (H2 P Q (h.ls++ [(af.mk a.dW a.aU (H2 a.au.A a.au.c a.au.ls))]):bM))=s2 (u5 J (D2 n) (E4 ((s8 af.abs h.ls)++ [(aX.mk a.dW a.aU (E4 a.au.ls))]))):=az (iA ae (congrArg E4 (nZ (es:= [(af.mk a.dW a.aU (H2 a.au.A a.au.c a.au.ls))]) (ms:= [(aX.mk a.dW a.aU (E4 a.au.ls))]) (rfl:s8 af.abs h.ls=s8 af.abs h.ls) rfl)))
 have gz:s2 (u5 J (D2 n) (E4 ((s8 af.abs h.ls)++ [(aX.mk a.dW a.aU (E4 a.au.ls))])))=J.length:=H3
 refine⟨.inl e7, ?_⟩
 refine qn (bN (ER ?_))
 have dM:=dL.pk [0,1]
 refine EO (fw (vJ (p+1)) (EQ (e:=C7.wrap (((p:Nat):Int)+1)) yk f1) (Mz rfl (WL.nil ?_)))
 have dO:=dM.pf []
 exact E8 (p+1,(u5 F (D2 n) (H2 P Q (h.ls++ [(af.mk a.dW a.aU (H2 a.au.A a.au.c a.au.ls))]):bM)),(u5 J (D2 n) (E4 ((s8 af.abs h.ls)++ [(aX.mk a.dW a.aU (E4 a.au.ls))])))) ⟨rfl,rfl,rfl,rfl,rfl,rfl,rfl,rfl,rfl,rfl,rfl,rfl,trivial⟩ (aK.2 ⟨dO,by exact(iA ae (congrArg E4 (nZ (es:= [(af.mk a.dW a.aU (H2 a.au.A a.au.c a.au.ls))]) (ms:= [(aX.mk a.dW a.aU (E4 a.au.ls))]) (rfl:s8 af.abs h.ls=s8 af.abs h.ls) rfl))),by first | omega | (simp only [H3] <;> omega) | (simp only [H4]),e6,by first | assumption | exact tC _,by first | (rw [BG]; assumption) | exact yg f5 f5 f5 f5,Eq.trans (bv) (Eq.trans (congrArg (fun q=>kD I g q p J) dC) (Eq.trans (ah (bI aN)) (Eq.trans (ah (bI aO)) (ah (bI bL)))))⟩) (by show j.aP.ls.length - (p+1) < j.aP.ls.length - p; omega)
 refine jF (dF dB) (Wp.exit (EX ?_))
 have bQ:kD I g j.aP.ls 0 C=J:=et (bv) (et (congrArg (fun q=>kD I g q p J) (eD (ls:=j.aP.ls) (i:=p) e6)) rfl)
 refine EX (Fg (bN (ER (EO (fw (vJ (g+1)) (EQ (e:=C7.wrap (((g:Nat):Int)+1)) yk f1) (Mz rfl (WL.nil ?_)))))))
 have dP:=aL.pf []
 exact E8 (g+1,F,J) ⟨rfl,rfl,rfl,rfl,rfl,rfl,rfl,rfl,trivial⟩ (aG.2 ⟨dP,by exact ae,by first | omega | (simp only [H3] <;> omega) | (simp only [H4]),e6,by first | assumption | exact tC _,by first | (rw [zm]; exact IU _) | exact zo f5 e6,Eq.trans (bu) (Eq.trans (congrArg (fun q=>jU l0 I q g C) dx) (ah bQ))⟩) (by show l1.length - (g+1) < l1.length - g; omega)
 refine jF (dF dw) (Wp.exit (EX ?_))
 have bR:jU l0 I l1 0 (s0 l0.length (E4 []:Ll aX))=C:=et (bu) (et (congrArg (fun q=>jU l0 I q g C) (eD (ls:=l1) (i:=g) e6)) rfl)
 refine EX (Fg (ER (sr (Mz rfl (Kz (vJ l0.length) ?_)))))
 refine WL.do rfl (F5 (x0:=(af.mk false ([]) (H2 none 0 ([])))) (z:= .agg #[.bool false, .string ⟨List.toArray ([])⟩, .slice none 0 0]) (k:=l0.length) (size:=3) (bytes:=48) af.len f3 rfl B6 e7 aH rfl rfl e6 (by unfold maxLen; omega) ?_)
 intro K dQ dR
 have dU:Own w D dQ (sepL (q6 af.own (s0 l0.length (af.mk false ([]) (H2 none 0 ([])))))::_):=dR.free (ug (wu (eZ 153 2)))
 have gB:s2 (s0 l0.length (af.mk false ([]) (H2 none 0 ([]))))=l0.length:=H4
 have gD:s2 (s0 l0.length (aX.mk false ([]) (E4 ([]))))=l0.length:=H4
 refine An rfl (EP (sr (Mz rfl (Kz (vJ l0.length) (Mn rfl (bo ?_))))))
 have dV:=dU.pb [0]
 obtain⟨dW,aj⟩:=qo fun(b:Nat) (E:List af) (r:List aX) (w':World)=>Own w D w' [row K l0.length l0.length (q6 af.cells E) 149 3,row u l0.length l0.length (q6 (FJ (β:=af)) Z) 40 1,sepL (q6 Row40H.own Z),sepL (q6 af.own E)]∧s8 af.abs E=r∧r.length=l0.length∧b≤l0.length∧jV C l0 0 (s0 l0.length (aX.mk false ([]) (E4 ([]))))=jV C (r6 b l0) b r
 refine Wp.loop (fun i:Nat × (List af) × (List aX)=> [(64,vJ i.1),(63,vJ l0.length),(14, .slice K l0.length l0.length),(9, .slice u l0.length l0.length),(7,vI 0),(6, .slice none 0 0),(0, .slice A0 l0.length c0)]) dW (fun i=>l0.length - i.1) (0,(s0 l0.length (af.mk false ([]) (H2 none 0 ([])))),(s0 l0.length (aX.mk false ([]) (E4 ([]))))) ⟨rfl,rfl,rfl,rfl,rfl,rfl,rfl,trivial⟩ (aj.2 ⟨dV,by exact(J8 (f:=af.abs)),by first | omega | (simp only [H3] <;> omega) | (simp only [H4]),e6,rfl⟩) ?_
 rintro ⟨b,E,r⟩ dX bS
 obtain⟨aS,S,gF,gG,aU⟩:=aj.1 bS
 have gH:=az S
 refine sr (Kz (.bool (decide (((b:Nat):Int) < ((l0.length:Nat):Int)))) (nt (EP ?_)))
 by_cases bB:((b:Nat):Int) < ((l0.length:Nat):Int)
 obtain⟨aA,aV⟩:=dG (ls:=l0) (i:=b) bC.len f3 (aS.ro bf) e9
 have bT:=drop_at aV
 refine jT (dT bB) (sk (EP (bo (sr (Mz rfl (An rfl ?_))))))
 refine wR [12] (bP.block (E9 (E9 (bP.block (E9 Fp))))) aS ?_
 intro iR dY
 refine qv 0 rfl rfl (qv 1 rfl rfl (qv 2 rfl rfl (qv 3 rfl rfl (qt (v:= .pointer (some ⟨ab A0,ao A0+b *6,none⟩)) 4 rfl (fun _ ⟨_,V⟩=>ET (pW) rfl rfl ((V.ro bf).addr (i:=b) e6) e6) (qt (v:= .agg (bC.cells aA).toArray) 5 rfl (fun _ ⟨_,V⟩=>EY rfl (Fb (cs:=(bC.cells aA)) Tryz.isAgg72 Tryz.sizeOf72 ((V.ro bf).elem bC.len aV f3))) (qv 6 rfl rfl (qv 7 rfl rfl ?_)))))))
 obtain⟨l,T⟩:=ji (ls:=Z) (i:=b) e9
 have ak:=eP aI T
 obtain⟨gI,gJ⟩:l.ls.length≤100000000∧s2 (s8 af.abs l.ls)≤100000000:=by first | exact wX f5 (Aj _ _ _) aF ak | exact wX f5 (vR _ _) aF ak
 refine qt (v:= .pointer (some ⟨ab u,ao u+b *1,none⟩)) 8 rfl (fun _ ⟨_,V⟩=>ET (vM) rfl rfl ((V.rds (i:=1) rfl).addr (i:=b) e6) e6) (qt (v:= .slice l.A l.ls.length l.c) 9 rfl (fun _ ⟨_,V⟩=>EY rfl (bZ.one E6 (((V.rds (i:=1) rfl).elem qL T f3).at_ (k:=0) rfl))) ?_)
 have gK:l.ls.length=s2 (s8 af.abs l.ls):=f0
 obtain⟨d,aW⟩:∃ q,kN aA (s8 af.abs l.ls)=q:=⟨_,rfl⟩
 obtain⟨iT,bU,bV,bW,bX⟩:=EU dY
 refine qd 10 rfl (Fe Tryz.call149 rfl (vT _ _ aA l.A l.ls.length l.c l.ls (s8 af.abs l.ls) d bU (rfl:s8 af.abs l.ls=s8 af.abs l.ls) (bX _ 2 _ rfl (av (List.mem_flatMap.2 ⟨l,E0 T,b1⟩) aT)) (fun x9 W=>⟨bV _ ((zl f5 T) x9 W).1,((zl f5 T) x9 W).2⟩) f0 g4 (by first | assumption | omega | exact Ej f5 aF f5) aW) ?_)
 rintro _ iU ⟨ag,ai,rfl,bY⟩
 have bE:=bW _ _ bY
 have gL:=bE.rowC (i:=0) rfl
 have bF:=bE.pb [0]
 refine⟨.inr ⟨_,bF⟩, ?_⟩
 obtain⟨aB,U⟩:=ji (ls:=E) (i:=b) e9
 have gM:=eP S U
 refine qt (v:= .pointer (some ⟨ab K,ao K+b *3,none⟩)) 11 rfl (fun _ ⟨_,V⟩=>ET (rf) rfl rfl ((V.rds (i:=0) rfl).addr (i:=b) e6) e6) ?_
 have dZ:=bF.pf [3]
 have d9:=H5 (f:=af.own) (i:=b) (row aB.au.A aB.au.ls.length aB.au.c (q6 aJ.cells aB.au.ls) 153 2) rfl U dZ
 have ed:=d9.px [] [0] []
 have ek:=ed.pf [4]
 have eu:=FO (f:=af.own) (y:=(af.mk d.dW d.aU (H2 ag ai d.au.ls))) U ek
 have eB:=eu.pf [1]
 refine qe 12 rfl (Do.storeRow (vs:= [.bool d.dW, .string ⟨List.toArray d.aU⟩, .slice ag d.au.ls.length ai]) (o:=b *3+0) (q:=ao K+b *3) eB rfl e6 rfl Tryz.sizeOf149 rfl rfl (IQ rfl) (iJ af.len U (IQ rfl)) (jw (y:=(af.mk d.dW d.aU (H2 ag ai d.au.ls))) af.len rfl (IQ rfl) U) ?_)
 intro iV eF
 have gN:s2 (u5 E b (af.mk d.dW d.aU (H2 ag ai d.au.ls)))=s2 (u5 r b (aX.mk d.dW d.aU (E4 d.au.ls))):=az (iA S rfl)
 have gP:s2 (u5 r b (aX.mk d.dW d.aU (E4 d.au.ls)))=r.length:=H3
 refine⟨.inl e7, ?_⟩
 refine qn (bN (ER (EO (fw (vJ (b+1)) (EQ (e:=C7.wrap (((b:Nat):Int)+1)) yk f1) (Mz rfl (WL.nil ?_))))))
 have eG:=eF.pb [1]
 exact E8 (b+1,(u5 E b (af.mk d.dW d.aU (H2 ag ai d.au.ls))),(u5 r b (aX.mk d.dW d.aU (E4 d.au.ls)))) ⟨rfl,rfl,rfl,rfl,rfl,rfl,rfl,trivial⟩ (aj.2 ⟨eG,by exact(iA S rfl),by first | omega | (simp only [H3] <;> omega) | (simp only [H4]),e6,Eq.trans (aU) (Eq.trans (congrArg (fun q=>jV C q b r) bT) (Eq.trans (ah (bI ak)) (ah aW)))⟩) (by show l0.length - (b+1) < l0.length - b; omega)
 refine jF (dF bB) (Wp.exit (EX ?_))
 have cu:jV C l0 0 (s0 l0.length (aX.mk false ([]) (E4 ([]))))=r:=et (aU) (et (congrArg (fun q=>jV C q b r) (eD (ls:=l0) (i:=b) e6)) rfl)
 refine EX (Fg (ER (EP ?_)))
 have eH:=aS.pk [0,3]
 refine EO (Mz rfl (Az rfl (An rfl (rt (Fin.res (lT rfl rfl rfl) ?_)))))
 have au:l0.length=r.length:=by first | omega | (simp only [H3]; done) | (simp only [H3,p5,s3,G1,List.length_take,List.length_drop,H4]; omega)
 have eO:Own w D dX [row K r.length l0.length (q6 af.cells E) 149 3,sepL (q6 af.own E)]:=by rw [← au]; exact eH
 have eQ:=eO.pf []
 obtain⟨rfl,rfl⟩:=fT (hr.symm.trans (show _=(r,0) from et (ah L) (et (ip bn) (et (ah bR) (ah cu)))))
 exact⟨K,l0.length,E,(by first | rfl | (rw [← au]; done) | (rw [← au]; rfl)),eQ,S⟩
 refine jT (dT bn) (sr (Mz rfl (Az rfl (An rfl (rt (tR (Fin.res (lT rfl rfl rfl) ?_)))))))
 have eT:Own w D dh [sepL (q6 af.own ([]))]:=dm.sepNil
 have eU:Own w D dh [row none 0 0 (q6 af.cells ([])) 149 3,sepL (q6 af.own ([]))]:=eT.free (eZ 149 3)
 have eX:=eU.pf []
 obtain⟨rfl,rfl⟩:=fT (hr.symm.trans (show _=(([]:List aX),aC) from et (ah L) (iN bn)))
 exact⟨none,0, [],rfl,eX,rfl⟩
end Go.Proofs.YtbkagebjhbphaaaGreat
