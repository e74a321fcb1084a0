/-
 owner: what was told gathered.
-/
import Derived.Test.YtbkagebjhbphaaaGreatGaM
namespace Go.Proofs.YtbkagebjhbphaaaGreat
open Int renaming toNat→D0
open IntKind renaming i64→C5
open List renaming drop→r3,flatMap→q3,getD→C0,length→r8,length_append→o1,length_cons→s0,length_map→s3,length_nil→F2,length_replicate→H2,length_set→H1,map→s5,map_replicate→L6,mem_of_getElem?→D3,replicate→r6,set→u2
open Ll renaming mk→E2
open Sv renaming mk→H0
open _root_.Go.Proofs.Tryz renaming isAgg40→E3,underlying40→B4
set_option maxRecDepth 100000
open Go.RowKit
set_option linter.unusedVariables false
set_option linter.unusedSectionVars false
set_option linter.unusedSimpArgs false
def kF (i:List (Ll aQ)) (e:Nat):List Int→Nat→List (Ll aQ)→(List (Ll aQ))
  | [],c,b=>b
  | f::h,c,b=>bnd (C0 b (D0 f) default) fun g=>bnd (C0 i e default) fun d=>bnd (C0 d.ls c default) fun a=>kF i e h (c+1) (u2 b (D0 f) (E2 (g.ls++ [(aQ.mk a.eF a.aT (E2 a.ak.ls))])))
def jH (l0:List bi) (e:List (Ll aQ)):List gF→Nat→List (Ll aQ)→(List (Ll aQ))
  | [],a,b=>b
  | c::d,a,b=>bnd (kF e a c.aJ.ls 0 b) fun sLrbtLsL=>jH l0 e d (a+1) sLrbtLsL
def jI (e:List (Ll aQ)):List bi→Nat→List aQ→(List aQ)
  | [],b,c=>c
  | f::g,b,c=>bnd (C0 e b default) fun d=>bnd (jq f d.ls) fun a=>jI e g (b+1) (u2 c b (aQ.mk a.eF a.aT (E2 a.ak.ls)))
def lM (l0:List bi) (l1:List gF) (b:List (Ll aQ)):(List aQ) × Int:=
 bnd (kN l0 l1 b) fun a=>if a=0 then bnd (jH l0 b l1 0 (r6 l0.length (E2 []:Ll aQ))) fun sLrbtL=>bnd (jI sLrbtL l0 0 (r6 l0.length (aQ.mk false ([]) (E2 ([]))))) fun sLrbtLaL=>(sLrbtLaL,0) else(([]:List aQ),a)
theorem yj (w D A0 n0 c0 l0 A1 n1 c1 d1 l1 A2 n2 c2 d2 I r0 r1) (H:Own w D w []) (bf:Ro w D fun w'=>bE w' 6 A0 n0 (q3 bi.cells l0)) (eY:n0=l0.length) (iP:l0.length *80≤211106232532992) (bH:s5 bG.abs d1=l1) (bg:Ro w D fun w'=>bE w' 3 A1 n1 (q3 bG.cells d1)) (X:∀ x ∈ d1,Ro w D (fun w'=>bE w' 6 x.aH.A x.aH.ls.length (q3 bi.cells x.aH.ls))∧(x.aH.ls.length≤x.aH.c∧x.aH.ls.length≤9223372036854775807)∧Ro w D (fun w'=>bE w' 1 x.aJ.A x.aJ.ls.length (q3 (eI .i64) x.aJ.ls))∧(x.aJ.ls.length≤x.aJ.c∧x.aJ.ls.length≤9223372036854775807)) (fe:n1=l1.length) (iQ:l1.length *56≤211106232532992) (bI:s5 bO.abs d2=I) (bK:Ro w D fun w'=>bE w' 1 A2 n2 (q3 (IX (β:=ae)) d2)) (Y:∀ x ∈ d2,Ro w D (fun w'=>bE w' 3 x.A x.ls.length (q3 ae.cells x.ls))∧(x.ls.length≤x.c∧x.ls.length≤9223372036854775807)∧(∀ y1 ∈ x.ls,Ro w D (fun w'=>bE w' 2 y1.ak.A y1.ak.ls.length (q3 aI.cells y1.ak.ls))∧(y1.ak.ls.length≤y1.ak.c∧y1.ak.ls.length≤9223372036854775807))) (fo:n2=I.length) (iR:I.length *24≤211106232532992) (aF:tt I≤100000000) (hr:lM l0 l1 I=(r0,r1)):
    Calls Tryz.prog 129 #[.slice A0 n0 c0, .slice A1 n1 c1, .slice A2 n2 c2] w (d9 fun v w'=> ∃ B0 b0 e0,v= .tuple #[.slice B0 r0.length b0,vI r1]∧Own w D w' [row B0 r0.length b0 (q3 ae.cells e0) 149 3,sepL (q3 ae.own e0)]∧(s5 ae.abs e0=r0)):=by
 subst eY fe fo
 have gQ:=aB bH
 have gT:=aB bI
 refine cb Tryz.func129 ?_
 refine sr (Az rfl (An rfl (Ic (sr (Mz rfl (Mz rfl (Mz rfl ?_)))))))
 obtain⟨aC,L⟩:∃ q,kN l0 l1 I=q:=⟨_,rfl⟩
 obtain⟨iT,cK,M,cO,gU⟩:=Ii H
 refine cl Tryz.call148 (vM _ _ A0 l0.length c0 l0 A1 l1.length c1 d1 l1 A2 I.length c2 d2 I aC cK (M _ bf) rfl e6 bH (M _ bg) (fun x9 W=>⟨M _ (X x9 W).1,(X x9 W).2.1,M _ (X x9 W).2.2.1,(X x9 W).2.2.2⟩) rfl e6 bI (M _ bK) (fun x9 W=>⟨M _ (Y x9 W).1,(Y x9 W).2.1,(fun y1 k1=>⟨M _ ((Y x9 W).2.2 y1 k1).1,((Y x9 W).2.2 y1 k1).2⟩)⟩) rfl e6 L) ?_
 rintro _ cZ ⟨rfl,df⟩
 have dh:=cO _ _ df
 have gW:I.length=l1.length∨¬ (aC=0):=EU L
 refine Ar rfl (Mz rfl (fw (.bool (decide (¬ (aC=0)))) (IG (e:= !(decide (aC=0))) yk decide_not.symm) (nt ?_)))
 by_cases bq:aC=0
 refine jF (dF (Lh bq)) (sk (sr (Mz rfl (Kz (vJ l0.length) ?_))))
 refine WL.do rfl (Jl (x0:=(H0 none 0 []:bO)) (z:= .slice none 0 0) (k:=l0.length) (size:=1) (bytes:=24) rU f4 rfl Tryz.underlying105 e7 dh rfl rfl e6 (by unfold maxLen; omega) ?_)
 intro u iU fu
 have fA:=fu.free (R:=sepL (q3 Row40H.own (r6 l0.length (H0 none 0 []:bO)))) (uX (xA (eZ 149 3)))
 have gX:r8 (r6 l0.length (H0 none 0 []:bO))=l0.length:=H2
 have gY:r8 (r6 l0.length (E2 []:Ll aQ))=l0.length:=H2
 have gZ:zz w D (r6 l0.length (H0 none 0 []:bO)):=uG _
 refine An rfl (Ic (sr (Mz rfl (Kz (vJ l1.length) (Mn rfl (bo ?_))))))
 have fC:=fA.pb [0]
 obtain⟨fD,aG⟩:=rz fun (g:Nat) Z C w'=>Own w D w' [row u l0.length l0.length (q3 (IX (β:=ae)) Z) 40 1,sepL (q3 Row40H.own Z)]∧s5 bO.abs Z=C∧C.length=l0.length∧g≤l1.length∧zz w D Z∧tt C≤tt (List.take g I)∧jH l0 I l1 0 (r6 l0.length (E2 []:Ll aQ))=jH l0 I (r3 g l1) g C
 refine Wp.loop (fun i:Nat × (List bO) × (List (Ll aQ))=> [(28,vJ i.1),(27,vJ l1.length),(26, .slice A1 l1.length c1),(9, .slice u l0.length l0.length),(7,vI 0),(6, .slice none 0 0),(0, .slice A0 l0.length c0),(2, .slice A2 I.length c2)]) fD (fun i=>l1.length - i.1) (0,(r6 l0.length (H0 none 0 []:bO)),(r6 l0.length (E2 []:Ll aQ))) ⟨rfl,rfl,rfl,rfl,rfl,rfl,rfl,rfl,trivial⟩ (aG.2 ⟨fC,by exact(L6 (f:=bO.abs)),by first | omega | (simp only [H1] <;> omega) | (simp only [H2]),e6,by first | assumption | exact uG _,by first | (rw [AU]; exact Lg _) | exact AX f5 e6,rfl⟩) ?_
 rintro ⟨g,Z,C⟩ iV di
 obtain⟨aH,aJ,ib,ig,ik,il,bv⟩:=aG.1 di
 have iq:=aB aJ
 refine sr (Kz (.bool (decide (((g:Nat):Int) < ((l1.length:Nat):Int)))) (nt (Ic ?_)))
 by_cases dm:((g:Nat):Int) < ((l1.length:Nat):Int)
 obtain⟨j,N⟩:=dN (ls:=d1) (i:=g) bG.len f4 (aH.ro bg) e9
 have ay:=fF bH N
 have iw:=(X _ (D3 N)).2.1
 have iy:=(X _ (D3 N)).2.2.2
 have iA:j.aJ.ls.length=r8 (C0 I g default).ls:=(AY L e6 ay).1.symm.trans (AY L e6 ay).2.1
 have dn:=drop_at ay
 refine jT (dT dm) (sk (Ic (bo (sr (Mz rfl (fw (.pointer (some ⟨ab A1,ao A1+g *3,none⟩)) (Ij (um) rfl rfl ((aH.ro bg).addr (i:=g) e6) e6) (fw (.agg (bG.cells j).toArray) (Io rfl (Iy (cs:=(bG.cells j)) Tryz.isAgg172 Tryz.sizeOf172 ((aH.ro bg).elem bG.len N f4))) ?_)))))))
 refine dV [vI 0, .slice none 0 0, .slice none 0 0] 172 aH ?_
 intro fE iX fG
 refine Az rfl ?_
 refine dS (bG.cells j) 0 fG Tryz.sizeOf172 ?_
 intro iY dw
 refine ns (Kz (vP fE 2) (Lz (.slice j.aJ.A j.aJ.ls.length j.aJ.c) dw 0 Tryz.isAgg58 (Kz (vJ j.aJ.ls.length) (Mn rfl (bo ?_)))))
 have fH:=dw.pk [1,2]
 obtain⟨fI,aK⟩:=rz fun (p:Nat) F J w'=>Own w D w' [row u l0.length l0.length (q3 (IX (β:=ae)) F) 40 1,sepL (q3 Row40H.own F)]∧s5 bO.abs F=J∧J.length=l0.length∧p≤j.aJ.ls.length∧zz w D F∧tt J≤seen I g p∧kF I g j.aJ.ls 0 C=kF I g (r3 p j.aJ.ls) p J
 refine Wp.loop (fun i:Nat × (List bO) × (List (Ll aQ))=> [(36,vJ i.1),(35,vJ j.aJ.ls.length),(34, .slice j.aJ.A j.aJ.ls.length j.aJ.c),(10,vJ g),(28,vJ g),(27,vJ l1.length),(26, .slice A1 l1.length c1),(9, .slice u l0.length l0.length),(7,vI 0),(6, .slice none 0 0),(0, .slice A0 l0.length c0),(2, .slice A2 I.length c2)]) fI (fun i=>j.aJ.ls.length - i.1) (0,Z,C) ⟨rfl,rfl,rfl,rfl,rfl,rfl,rfl,rfl,rfl,rfl,rfl,rfl,trivial⟩ (aK.2 ⟨fH,by exact aJ,by first | omega | (simp only [H1] <;> omega) | (simp only [H2]),e6,by first | assumption | exact uG _,by first | (rw [Dq]; assumption) | exact zA f5 f5 f5 f5,rfl⟩) ?_
 rintro ⟨p,F,J⟩ iZ dx
 obtain⟨aL,af,iB,iC,iD,iE,bz⟩:=aK.1 dx
 have iF:=aB af
 refine sr (Kz (.bool (decide (((p:Nat):Int) < ((j.aJ.ls.length:Nat):Int)))) (nt (Ic ?_)))
 by_cases dz:((p:Nat):Int) < ((j.aJ.ls.length:Nat):Int)
 obtain⟨n,aM⟩:=dN (ls:=j.aJ.ls) (i:=p) jd f4 (aL.ro (X _ (D3 N)).2.2.1) e9
 have iG:0≤n∧n < ((l0.length:Nat):Int):=(AY L e6 ay).2.2 _ (D3 aM)
 have dA:=drop_at aM
 refine jT (dT dz) (sk (Ic (bo (sr (Mz rfl (fw (.pointer (some ⟨ab j.aJ.A,ao j.aJ.A+p *1,none⟩)) (Ij (om) rfl rfl ((aL.ro (X _ (D3 N)).2.2.1).addr (i:=p) e6) e6) (fw (vI n) (Io rfl (bZ.one Tryz.isAgg3 (((aL.ro (X _ (D3 N)).2.2.1).elem jd aM f4).at_ (k:=0) rfl))) (Az rfl (An rfl ?_)))))))))
 refine qy [14,16] (bQ.block (Iu (Iu (bQ.block (bQ.block (Iu (Iu (bQ.block (Iu IC))))))))) aL ?_
 intro ja fJ
 refine IP (v:= .slice u l0.length l0.length) 0 rfl e7 (fun _=>Iq rfl) (IP (v:=vJ (D0 n)) 1 rfl e7 (fun _=>Ie (e:=n) (Iq rfl) e6) (qv 2 rfl rfl (qt (v:=vJ (D0 n)) 3 rfl (fun _ _=>Ie (e:=n) (Iq rfl) e6) ?_)))
 obtain⟨h,O⟩:=jN (ls:=F) (i:=D0 n) e9
 have aN:=fF af O
 obtain⟨iH,iI⟩:h.ls.length≤100000000∧r8 (s5 ae.abs h.ls)≤100000000:=by first | exact yh f5 (BX _ _ _) aF aN | exact yh f5 (wZ _ _) aF aN
 refine qt (v:= .pointer (some ⟨ab u,ao u+(D0 n) *1,none⟩)) 4 rfl (fun _ ⟨_,V⟩=>Ij (wV) rfl rfl ((V.rds (i:=0) rfl).addr (i:=D0 n) e6) e6) (qt (v:= .slice h.A h.ls.length h.c) 5 rfl (fun _ ⟨_,V⟩=>Io rfl (bZ.one E3 (((V.rds (i:=0) rfl).elem rU O f4).at_ (k:=0) rfl))) (qv 6 rfl rfl (qv 7 rfl rfl ?_)))
 obtain⟨B,G⟩:=jN (ls:=d2) (i:=g) e9
 have aP:=fF bI G
 have fK:=(Y _ (D3 G)).2.1
 have fM:r8 (s5 ae.abs B.ls)=B.ls.length:=s3 ..
 have fO:B.ls.length=r8 (C0 I g default).ls:=by rw [zQ aP]; exact(s3 ..).symm
 refine qt (v:= .pointer (some ⟨ab A2,ao A2+g *1,none⟩)) 8 rfl (fun _ ⟨_,V⟩=>Ij (wV) rfl rfl ((V.ro bK).addr (i:=g) e6) e6) (qt (v:= .slice B.A B.ls.length B.c) 9 rfl (fun _ ⟨_,V⟩=>Io rfl (bZ.one E3 (((V.ro bK).elem rU G f4).at_ (k:=0) rfl))) (qv 10 rfl rfl ?_))
 obtain⟨a,aa⟩:=jN (ls:=B.ls) (i:=p) e9
 have bL:=fF (rfl:s5 ae.abs B.ls=s5 ae.abs B.ls) aa
 have fP:=((Y _ (D3 G)).2.2 _ (D3 aa)).2
 refine qt (v:= .pointer (some ⟨ab B.A,ao B.A+p *3,none⟩)) 11 rfl (fun _ ⟨_,V⟩=>Ij (sI) rfl rfl ((V.ro (Y _ (D3 G)).1).addr (i:=p) e6) e6) (qt (v:= .agg (ae.cells a).toArray) 12 rfl (fun _ ⟨_,V⟩=>Io rfl (Iy (cs:=(ae.cells a)) Tryz.isAgg149 Tryz.sizeOf149 ((V.ro (Y _ (D3 G)).1).elem ae.len aa f4))) ?_)
 refine qd 13 rfl (Jp (cs:=(ae.cells a)) (t:=149) (sz:=3) (m:=1) fJ rfl rfl (fun _=>by kernel_rfl) rfl f4 ?_)
 intro aR dB aS
 replace aS:=IL (y:=row aR 1 1 (q3 ae.cells ([(ae.mk a.eF a.aT (H0 a.ak.A a.ak.c a.ak.ls))])) 149 3) rfl aS
 have bA:=aS.pb [0]
 refine⟨.inr ⟨_,bA⟩, ?_⟩
 have dC:=bA.pf [1]
 have aT:Own w D dB [row h.A h.ls.length h.c (q3 ae.cells h.ls) 149 3,sepL (q3 Row40H.own (List.take (D0 n) F)++q3 Row40H.own (r3 (D0 n+1) F)),row u l0.length l0.length (q3 (IX (β:=ae)) F) 40 1,row aR 1 1 (q3 ae.cells ([(ae.mk a.eF a.aT (H0 a.ak.A a.ak.c a.ak.ls))])) 149 3]:=Jd (f:=Row40H.own) (i:=D0 n) O dC
 have fQ:=aT.rowC (i:=0) rfl
 refine qd 14 rfl (IM (k:=h.ls.length) (m:=1) (sI) aT rfl rfl (jv B4 (aT.rds (i:=3) rfl) (fU ae.one ([(ae.mk a.eF a.aT (H0 a.ak.A a.ak.c a.ak.ls))]))) rfl e6 (s:=r8 (h.ls++ [(ae.mk a.eF a.aT (H0 a.ak.A a.ak.c a.ak.ls))])) f7 (List.flatMap_append).symm ?_)
 intro P Q dD bB
 have bM:∀ x:ae,x ∈ (h.ls++ [(ae.mk a.eF a.aT (H0 a.ak.A a.ak.c a.ak.ls))])→Ro w D (fun w'=>bE w' 2 x.ak.A x.ak.ls.length (q3 aI.cells x.ak.ls))∧(x.ak.ls.length≤x.ak.c∧x.ak.ls.length≤9223372036854775807):=fun x9 W=>Or.elim (List.mem_append.1 W) (fun W=>(AR f5 O) x9 W) (fun W=>(by rcases List.mem_cons.1 W with rfl | W; exact⟨((Y _ (D3 G)).2.2 _ (D3 aa)).1,(show a.ak.ls.length≤a.ak.c∧a.ak.ls.length≤9223372036854775807 from by omega)⟩; exact(absurd W List.not_mem_nil)))
 have fT:r8 (h.ls++ [(ae.mk a.eF a.aT (H0 a.ak.A a.ak.c a.ak.ls))])=h.ls.length+1:=by simp only [o1,s0,F2]
 have fV:=aB (pF (es:= [(ae.mk a.eF a.aT (H0 a.ak.A a.ak.c a.ak.ls))]) (ms:= [(aQ.mk a.eF a.aT (E2 a.ak.ls))]) (rfl:s5 ae.abs h.ls=s5 ae.abs h.ls) rfl)
 refine⟨.inl e7, ?_⟩
 refine IP (v:= .pointer (some ⟨ab u,ao u+(D0 n) *1,none⟩)) 15 rfl e7 (fun _=>Ij (wV) rfl rfl ((bB.rds (i:=2) rfl).addr (i:=D0 n) e6) e6) ?_
 have dE:Own w D dD [sepL (q3 Row40H.own (u2 F (D0 n) (H0 P Q (h.ls++ [(ae.mk a.eF a.aT (H0 a.ak.A a.ak.c a.ak.ls))]):bO))),row u l0.length l0.length (q3 (IX (β:=ae)) F) 40 1,row aR 1 1 (q3 ae.cells ([(ae.mk a.eF a.aT (H0 a.ak.A a.ak.c a.ak.ls))])) 149 3]:=I7 (f:=Row40H.own) (y:=(H0 P Q (h.ls++ [(ae.mk a.eF a.aT (H0 a.ak.A a.ak.c a.ak.ls))]):bO)) O bB
 have dG:=dE.pf [1]
 refine qe 16 rfl (Do.storeRow (vs:= [.slice P (r8 (h.ls++ [(ae.mk a.eF a.aT (H0 a.ak.A a.ak.c a.ak.ls))])) Q]) (o:=(D0 n) *1+0) (q:=ao u+(D0 n) *1) dG rfl e6 rfl Tryz.sizeOf40 rfl rfl (Le rfl) (je rU O (Le rfl)) (jV (y:=(H0 P Q (h.ls++ [(ae.mk a.eF a.aT (H0 a.ak.A a.ak.c a.ak.ls))]):bO)) rU rfl (Le rfl) O) ?_)
 intro iJ dH
 have fZ:zz w D (u2 F (D0 n) (H0 P Q (h.ls++ [(ae.mk a.eF a.aT (H0 a.ak.A a.ak.c a.ak.ls))]):bO)):=ET f5 bM
 have gm:r8 (u2 F (D0 n) (H0 P Q (h.ls++ [(ae.mk a.eF a.aT (H0 a.ak.A a.ak.c a.ak.ls))]):bO))=r8 (u2 J (D0 n) (E2 ((s5 ae.abs h.ls)++ [(aQ.mk a.eF a.aT (E2 a.ak.ls))]))):=aB (iW af (congrArg E2 (pF (es:= [(ae.mk a.eF a.aT (H0 a.ak.A a.ak.c a.ak.ls))]) (ms:= [(aQ.mk a.eF a.aT (E2 a.ak.ls))]) (rfl:s5 ae.abs h.ls=s5 ae.abs h.ls) rfl)))
 have gp:r8 (u2 J (D0 n) (E2 ((s5 ae.abs h.ls)++ [(aQ.mk a.eF a.aT (E2 a.ak.ls))])))=J.length:=H1
 refine⟨.inl e7, ?_⟩
 refine qn (bN (Ig ?_))
 have dI:=dH.pk [0,1]
 refine Ib (fw (vJ (p+1)) (Ie (e:=C5.wrap (((p:Nat):Int)+1)) yk f0) (Mz rfl (WL.nil ?_)))
 have dJ:=dI.pf []
 exact Ir (p+1,(u2 F (D0 n) (H0 P Q (h.ls++ [(ae.mk a.eF a.aT (H0 a.ak.A a.ak.c a.ak.ls))]):bO)),(u2 J (D0 n) (E2 ((s5 ae.abs h.ls)++ [(aQ.mk a.eF a.aT (E2 a.ak.ls))])))) ⟨rfl,rfl,rfl,rfl,rfl,rfl,rfl,rfl,rfl,rfl,rfl,rfl,trivial⟩ (aK.2 ⟨dJ,by exact(iW af (congrArg E2 (pF (es:= [(ae.mk a.eF a.aT (H0 a.ak.A a.ak.c a.ak.ls))]) (ms:= [(aQ.mk a.eF a.aT (E2 a.ak.ls))]) (rfl:s5 ae.abs h.ls=s5 ae.abs h.ls) rfl))),by first | omega | (simp only [H1] <;> omega) | (simp only [H2]),e6,by first | assumption | exact uG _,by first | (rw [Dq]; assumption) | exact zA f5 f5 f5 f5,Eq.trans (bz) (Eq.trans (congrArg (fun q=>kF I g q p J) dA) (Eq.trans (ah (bJ aN)) (Eq.trans (ah (bJ aP)) (ah (bJ bL)))))⟩) (by show j.aJ.ls.length - (p+1) < j.aJ.ls.length - p; omega)
 refine jF (dF dz) (Wp.exit (Il ?_))
 have bP:kF I g j.aJ.ls 0 C=J:=et (bz) (et (congrArg (fun q=>kF I g q p J) (fB (ls:=j.aJ.ls) (i:=p) e6)) rfl)
 refine Il (IB (bN (Ig (Ib (fw (vJ (g+1)) (Ie (e:=C5.wrap (((g:Nat):Int)+1)) yk f0) (Mz rfl (WL.nil ?_)))))))
 have dK:=aL.pf []
 exact Ir (g+1,F,J) ⟨rfl,rfl,rfl,rfl,rfl,rfl,rfl,rfl,trivial⟩ (aG.2 ⟨dK,by exact af,by first | omega | (simp only [H1] <;> omega) | (simp only [H2]),e6,by first | assumption | exact uG _,by first | (rw [AU]; exact Lg _) | exact AX f5 e6,Eq.trans (bv) (Eq.trans (congrArg (fun q=>jH l0 I q g C) dn) (ah bP))⟩) (by show l1.length - (g+1) < l1.length - g; omega)
 refine jF (dF dm) (Wp.exit (Il ?_))
 have bR:jH l0 I l1 0 (r6 l0.length (E2 []:Ll aQ))=C:=et (bv) (et (congrArg (fun q=>jH l0 I q g C) (fB (ls:=l1) (i:=g) e6)) rfl)
 refine Il (IB (Ig (sr (Mz rfl (Kz (vJ l0.length) ?_)))))
 refine WL.do rfl (Jl (x0:=(ae.mk false ([]) (H0 none 0 ([])))) (z:= .agg #[.bool false, .string ⟨List.toArray ([])⟩, .slice none 0 0]) (k:=l0.length) (size:=3) (bytes:=48) ae.len f4 rfl B4 e7 aH rfl rfl e6 (by unfold maxLen; omega) ?_)
 intro K dL dM
 have dO:Own w D dL (sepL (q3 ae.own (r6 l0.length (ae.mk false ([]) (H0 none 0 ([])))))::_):=dM.free (uX (xA (eZ 153 2)))
 have gq:r8 (r6 l0.length (ae.mk false ([]) (H0 none 0 ([]))))=l0.length:=H2
 have gu:r8 (r6 l0.length (aQ.mk false ([]) (E2 ([]))))=l0.length:=H2
 refine An rfl (Ic (sr (Mz rfl (Kz (vJ l0.length) (Mn rfl (bo ?_))))))
 have dP:=dO.pb [0]
 obtain⟨dQ,aj⟩:=rz fun (b:Nat) E r w'=>Own w D w' [row K l0.length l0.length (q3 ae.cells E) 149 3,row u l0.length l0.length (q3 (IX (β:=ae)) Z) 40 1,sepL (q3 Row40H.own Z),sepL (q3 ae.own E)]∧s5 ae.abs E=r∧r.length=l0.length∧b≤l0.length∧jI C l0 0 (r6 l0.length (aQ.mk false ([]) (E2 ([]))))=jI C (r3 b l0) b r
 refine Wp.loop (fun i:Nat × (List ae) × (List aQ)=> [(64,vJ i.1),(63,vJ l0.length),(14, .slice K l0.length l0.length),(9, .slice u l0.length l0.length),(7,vI 0),(6, .slice none 0 0),(0, .slice A0 l0.length c0)]) dQ (fun i=>l0.length - i.1) (0,(r6 l0.length (ae.mk false ([]) (H0 none 0 ([])))),(r6 l0.length (aQ.mk false ([]) (E2 ([]))))) ⟨rfl,rfl,rfl,rfl,rfl,rfl,rfl,trivial⟩ (aj.2 ⟨dP,by exact(L6 (f:=ae.abs)),by first | omega | (simp only [H1] <;> omega) | (simp only [H2]),e6,rfl⟩) ?_
 rintro ⟨b,E,r⟩ dR bS
 obtain⟨aU,S,gy,gz,aV⟩:=aj.1 bS
 have gB:=aB S
 refine sr (Kz (.bool (decide (((b:Nat):Int) < ((l0.length:Nat):Int)))) (nt (Ic ?_)))
 by_cases bC:((b:Nat):Int) < ((l0.length:Nat):Int)
 obtain⟨az,aW⟩:=dN (ls:=l0) (i:=b) bi.len f4 (aU.ro bf) e9
 have bT:=drop_at aW
 refine jT (dT bC) (sk (Ic (bo (sr (Mz rfl (An rfl ?_))))))
 refine vX [12] (bQ.block (Iu (Iu (bQ.block (Iu IC))))) aU ?_
 intro iK dU
 refine qv 0 rfl rfl (qv 1 rfl rfl (qv 2 rfl rfl (qv 3 rfl rfl (qt (v:= .pointer (some ⟨ab A0,ao A0+b *6,none⟩)) 4 rfl (fun _ ⟨_,V⟩=>Ij (qX) rfl rfl ((V.ro bf).addr (i:=b) e6) e6) (qt (v:= .agg (bi.cells az).toArray) 5 rfl (fun _ ⟨_,V⟩=>Io rfl (Iy (cs:=(bi.cells az)) Tryz.isAgg72 Tryz.sizeOf72 ((V.ro bf).elem bi.len aW f4))) (qv 6 rfl rfl (qv 7 rfl rfl ?_)))))))
 obtain⟨l,T⟩:=jN (ls:=Z) (i:=b) e9
 have ak:=fF aJ T
 obtain⟨gD,gG⟩:l.ls.length≤100000000∧r8 (s5 ae.abs l.ls)≤100000000:=by first | exact yh f5 (BX _ _ _) aF ak | exact yh f5 (wZ _ _) aF ak
 refine qt (v:= .pointer (some ⟨ab u,ao u+b *1,none⟩)) 8 rfl (fun _ ⟨_,V⟩=>Ij (wV) rfl rfl ((V.rds (i:=1) rfl).addr (i:=b) e6) e6) (qt (v:= .slice l.A l.ls.length l.c) 9 rfl (fun _ ⟨_,V⟩=>Io rfl (bZ.one E3 (((V.rds (i:=1) rfl).elem rU T f4).at_ (k:=0) rfl))) ?_)
 have gH:l.ls.length=r8 (s5 ae.abs l.ls):=f1
 obtain⟨d,aX⟩:∃ q,jq az (s5 ae.abs l.ls)=q:=⟨_,rfl⟩
 obtain⟨iL,bU,bV,bW,bX⟩:=Ii dU
 refine qd 10 rfl (Iz Tryz.call149 rfl (xe _ _ az l.A l.ls.length l.c l.ls (s5 ae.abs l.ls) d bU (rfl:s5 ae.abs l.ls=s5 ae.abs l.ls) (bX _ 2 _ rfl (ax (List.mem_flatMap.2 ⟨l,D3 T,b1⟩) aO)) (fun x9 W=>⟨bV _ ((AR f5 T) x9 W).1,((AR f5 T) x9 W).2⟩) f1 g4 (by first | assumption | omega | exact GA f5 aF f5) aX) ?_)
 rintro _ iM ⟨ag,ai,rfl,bY⟩
 have bD:=bW _ _ bY
 have gI:=bD.rowC (i:=0) rfl
 have bF:=bD.pb [0]
 refine⟨.inr ⟨_,bF⟩, ?_⟩
 obtain⟨aA,U⟩:=jN (ls:=E) (i:=b) e9
 have gJ:=fF S U
 refine qt (v:= .pointer (some ⟨ab K,ao K+b *3,none⟩)) 11 rfl (fun _ ⟨_,V⟩=>Ij (sI) rfl rfl ((V.rds (i:=0) rfl).addr (i:=b) e6) e6) ?_
 have dW:=bF.pf [3]
 have dX:=Ky (f:=ae.own) (i:=b) (row aA.ak.A aA.ak.ls.length aA.ak.c (q3 aI.cells aA.ak.ls) 153 2) rfl U dW
 have dY:=dX.px [] [0] []
 have dZ:=dY.pf [4]
 have ed:=I7 (f:=ae.own) (y:=(ae.mk d.eF d.aT (H0 ag ai d.ak.ls))) U dZ
 have ek:=ed.pf [1]
 refine qe 12 rfl (Do.storeRow (vs:= [.bool d.eF, .string ⟨List.toArray d.aT⟩, .slice ag d.ak.ls.length ai]) (o:=b *3+0) (q:=ao K+b *3) ek rfl e6 rfl Tryz.sizeOf149 rfl rfl (Le rfl) (je ae.len U (Le rfl)) (jV (y:=(ae.mk d.eF d.aT (H0 ag ai d.ak.ls))) ae.len rfl (Le rfl) U) ?_)
 intro iO eu
 have gK:r8 (u2 E b (ae.mk d.eF d.aT (H0 ag ai d.ak.ls)))=r8 (u2 r b (aQ.mk d.eF d.aT (E2 d.ak.ls))):=aB (iW S rfl)
 have gL:r8 (u2 r b (aQ.mk d.eF d.aT (E2 d.ak.ls)))=r.length:=H1
 refine⟨.inl e7, ?_⟩
 refine qn (bN (Ig (Ib (fw (vJ (b+1)) (Ie (e:=C5.wrap (((b:Nat):Int)+1)) yk f0) (Mz rfl (WL.nil ?_))))))
 have eB:=eu.pb [1]
 exact Ir (b+1,(u2 E b (ae.mk d.eF d.aT (H0 ag ai d.ak.ls))),(u2 r b (aQ.mk d.eF d.aT (E2 d.ak.ls)))) ⟨rfl,rfl,rfl,rfl,rfl,rfl,rfl,trivial⟩ (aj.2 ⟨eB,by exact(iW S rfl),by first | omega | (simp only [H1] <;> omega) | (simp only [H2]),e6,Eq.trans (aV) (Eq.trans (congrArg (fun q=>jI C q b r) bT) (Eq.trans (ah (bJ ak)) (ah aX)))⟩) (by show l0.length - (b+1) < l0.length - b; omega)
 refine jF (dF bC) (Wp.exit (Il ?_))
 have cu:jI C l0 0 (r6 l0.length (aQ.mk false ([]) (E2 ([]))))=r:=et (aV) (et (congrArg (fun q=>jI C q b r) (fB (ls:=l0) (i:=b) e6)) rfl)
 refine Il (IB (Ig (Ic ?_)))
 have eD:=aU.pk [0,3]
 refine Ib (Mz rfl (Az rfl (An rfl (rt (Fin.res (lW rfl rfl rfl) ?_)))))
 have au:l0.length=r.length:=by first | omega | (simp only [H1]; done) | (simp only [H1,o1,s0,F2,List.length_take,List.length_drop,H2]; omega)
 have eF:Own w D dR [row K r.length l0.length (q3 ae.cells E) 149 3,sepL (q3 ae.own E)]:=by rw [← au]; exact eD
 have eG:=eF.pf []
 obtain⟨rfl,rfl⟩:=ic (hr.symm.trans (show _=(r,0) from et (ah L) (et (ip bq) (et (ah bR) (ah cu)))))
 exact⟨K,l0.length,E,(by first | rfl | (rw [← au]; done) | (rw [← au]; rfl)),eG,S⟩
 refine jT (dT bq) (sr (Mz rfl (Az rfl (An rfl (rt (tR (Fin.res (lW rfl rfl rfl) ?_)))))))
 have eH:Own w D cZ [sepL (q3 ae.own ([]))]:=dh.sepNil
 have eO:Own w D cZ [row none 0 0 (q3 ae.cells ([])) 149 3,sepL (q3 ae.own ([]))]:=eH.free (eZ 149 3)
 have eP:=eO.pf []
 obtain⟨rfl,rfl⟩:=ic (hr.symm.trans (show _=(([]:List aQ),aC) from et (ah L) (iN bq)))
 exact⟨none,0, [],rfl,eP,rfl⟩
end Go.Proofs.YtbkagebjhbphaaaGreat
