/-
 coord: copies.
-/
import Derived.Test.YtbkagebjhbphaaaGreatCr
namespace Go.Proofs.YtbkagebjhbphaaaGreat
open IntKind renaming i64→C7
open List renaming append_nil→s9,drop→r6,drop_eq_nil_of_le→H0,flatMap→q6,getElem?_eq_getElem→s5,length→s2,length_append→p5,length_cons→s3,length_drop→p4,length_map→s6,length_nil→G0,length_replicate→H6,length_set→H5,length_take→p3,map→s8,mem_of_getElem?→E0,take→r5,take_of_length_le→G4
open Sv renaming mk→H3
open _root_.Go.Proofs.Tryz renaming isAgg30→D4,isAgg31→H7,prog→y4,sizeOf33→H8
set_option maxRecDepth 100000
open Go.RowKit
set_option linter.unusedVariables false
set_option linter.unusedSectionVars false
set_option linter.unusedSimpArgs false
def iO (l0:List aS):(List aS):=
 l0
theorem lV (w D C U S d0 l0 T) (H:Own w D w []) (z:s8 ae.abs d0=l0) (V:Ro w D fun w'=>bA w' 3 C U (q6 ae.cells d0)) (E:∀ x ∈ d0,Ro w D (fun w'=>bA w' 2 x.aj.A x.aj.ls.length (q6 aI.cells x.aj.ls))∧(x.aj.ls.length≤x.aj.c∧x.aj.ls.length≤9223372036854775807)) (W:U=l0.length) (aK:l0.length *48≤211106232532992) (X:(∀ x ∈ l0,x.aj.ls.length≤1000000)) (hr:iO l0=T):
    Calls y4 48 #[.slice C U S] w (dR fun v w'=> ∃ B0 b0 Y,v= .slice B0 T.length b0∧Own w D w' [row B0 T.length b0 (q6 ae.cells Y) 149 3,sepL (q6 ae.own Y)]∧(s8 ae.abs Y=T)):=by
 subst W
 have aB:=az z
 refine cb Tryz.func48 ?_
 refine sr (Ar rfl (Mz rfl ?_))
 obtain⟨aL,F,G,I,aC⟩:=F3 H
 refine cl Tryz.call74 (oN _ _ C _ S d0 d0 F (G _ V) e6 e6 rfl) ?_
 rintro _ aM ⟨g,h,rfl,J⟩
 have Z:=I _ _ J
 refine An rfl (FW (sr (Mz rfl (Kz (vJ d0.length) (Mn rfl (bo ?_))))))
 have aa:=Z.pf []
 have af:=(aa.sepNil).pick [1,0] f3 rfl
 refine Wp.loop (ι:=Nat × (List ae)) (fun i=> [(8,vJ i.1),(7,vJ d0.length),(6, .slice g d0.length h),(0, .slice g d0.length h),(5, .slice g d0.length h),(4, .slice C l0.length S),(2, .slice none 0 0)]) (fun(i:Nat × (List ae)) w'=>Own w D w' [row g d0.length h (q6 ae.cells (i.2++r6 i.1 d0)) 149 3,sepL (q6 ae.own i.2)]∧(i.1≤d0.length∧i.2.length=i.1∧s8 ae.abs i.2=s8 ae.abs (r5 i.1 d0))) (fun i=>d0.length - i.1) (0, []) ⟨rfl,rfl,rfl,rfl,rfl,rfl,rfl,trivial⟩ ⟨af,(show 0≤d0.length∧s2 ([])=0∧s8 ae.abs ([])=s8 ae.abs (r5 0 d0) from ⟨e6,rfl,rfl⟩)⟩ ?_
 rintro ⟨b,d⟩ ag ⟨t,n⟩
 replace n:b≤d0.length∧d.length=b∧s8 ae.abs d=s8 ae.abs (r5 b d0):=n
 obtain⟨aD,B,p⟩:=n
 refine sr (Kz (.bool (decide (((b:Nat):Int) < ((d0.length:Nat):Int)))) (nt (FW ?_)))
 by_cases K:((b:Nat):Int) < ((d0.length:Nat):Int)
 refine jT (dT K) (sk (FW (bo (sr (Mz rfl (An rfl (FV ?_)))))))
 obtain⟨a,j⟩:∃ q,d0[b]? =some q:=⟨_,s5 e6⟩
 have r:(d++r6 b d0)[b]? =some a:=yh e6 j
 have aF:=(E _ (E0 j)).2
 have aG:a.aj.ls.length≤1000000:=by have q9:=X _ (E0 (fo z j)); exact q9
 refine Mz rfl (Mz rfl (Mz rfl (Mz rfl (fw (.pointer (some ⟨ab g,ao g+b *3,none⟩)) (F4 (rR) rfl rfl ((t.rds (i:=0) rfl).addr (i:=b) e6) e6) (Kz (.pointer (some ⟨ab g,ao g+b *3+2,none⟩)) (fw (.slice a.aj.A a.aj.ls.length a.aj.c) (F7 rfl (bX.one Tryz.isAgg147 (((t.rds (i:=0) rfl).elem ae.len r f3).at_ (k:=2) rfl))) ?_))))))
 obtain⟨aO,L,M,N,aH⟩:=F3 t
 refine cl Tryz.call75 (kP _ _ a.aj.A a.aj.ls.length a.aj.c a.aj.ls a.aj.ls L (M _ (E _ (E0 j)).1) rfl e6 rfl) ?_
 rintro _ aP ⟨l,m,rfl,O⟩
 have P:=N _ _ O
 refine fw (.pointer (some ⟨ab g,ao g+b *3,none⟩)) (F4 (rR) rfl rfl ((P.rds (i:=1) rfl).addr (i:=b) e6) e6) (Kz (.pointer (some ⟨ab g,ao g+b *3+2,none⟩)) ?_)
 have ah:=P.pf [1]
 refine G5 (Do.storeRow (vs:= [.slice l a.aj.ls.length m]) (o:=b *3+2) (q:=ao g+b *3+2) ah rfl e6 rfl Tryz.sizeOf147 rfl rfl (JO rfl) (iK ae.len r (JO rfl)) (jE (y:=(ae.mk a.dZ a.aQ (H3 l m a.aj.ls))) ae.len rfl (JO rfl) r) ?_)
 intro ai aj
 refine WL.nil (bN (FY (FV (fw (vJ (b+1)) (FX (e:=C7.wrap (((b:Nat):Int)+1)) yk f1) (Mz rfl (WL.nil ?_))))))
 have ak:=aj.pb [0]
 have au:Own w D ai [sepL (q6 ae.own (d++ [(ae.mk a.dZ a.aQ (H3 l m a.aj.ls))])),row g d0.length h (q6 ae.cells (List.set (d++r6 b d0) b (ae.mk a.dZ a.aQ (H3 l m a.aj.ls)))) 149 3]:=wU (f:=ae.own) (es:=d) (y:=(ae.mk a.dZ a.aQ (H3 l m a.aj.ls))) ak
 have Q:=au.pk [1,0]
 rw [wV _ e6 e6] at Q
 exact Gc (b+1,d++ [(ae.mk a.dZ a.aQ (H3 l m a.aj.ls))]) ⟨rfl,rfl,rfl,rfl,rfl,rfl,rfl,trivial⟩ ⟨Q,(show (b+1)≤d0.length∧s2 (d++ [(ae.mk a.dZ a.aQ (H3 l m a.aj.ls))])=(b+1)∧s8 ae.abs (d++ [(ae.mk a.dZ a.aQ (H3 l m a.aj.ls))])=s8 ae.abs (r5 (b+1) d0) from ⟨e6,by simp [B],wW (f:=ae.abs) p j rfl⟩)⟩ (by show d0.length - (b+1) < d0.length - b; omega)
 refine jF (dF K) (Wp.exit (F6 (F6 (Gi (FY (sr ?_))))))
 have u:s8 ae.abs d=l0:=by rw [p,G4 e6]; exact z
 have R:=t
 rw [H0 e6,s9] at R
 have aJ:=az u
 refine Mz rfl (An rfl (rt (rs ?_)))
 have s:d0.length=l0.length:=by first | omega | (simp only [H5]; done) | (simp only [H5,p5,s3,G0,p3,p4,H6]; omega)
 have av:Own w D ag [row g l0.length h (q6 ae.cells d) 149 3,sepL (q6 ae.own d)]:=by rw [← s]; exact R
 have ax:=av.pf []
 obtain rfl:_=l0:=hr.symm.trans rfl
 exact⟨g,h,d,(by first | rfl | (rw [← s]; done) | (rw [← s]; rfl)),ax,u⟩
theorem BG (w D A n c d l) (H:Own w D w []) (hd:s8 ae.abs d=l) (hx:Ro w D fun w'=>bA w' 3 A n (q6 ae.cells d)) (hm:∀ x ∈ d,Ro w D (fun w'=>bA w' 2 x.aj.A x.aj.ls.length (q6 aI.cells x.aj.ls))∧(x.aj.ls.length≤x.aj.c∧x.aj.ls.length≤9223372036854775807)) (hn:n=l.length) (hl:l.length *48≤211106232532992) (hh:∀ x ∈ l,x.aj.ls.length≤1000000):
    Calls y4 48 #[.slice A n c] w (dR fun v w'=> ∃ B b e,v= .slice B e.length b∧Own w D w' [row B e.length b (q6 ae.cells e) 149 3,sepL (q6 ae.own e)]∧(s8 ae.abs e=l)):=by
 refine(lV w D A n c d l l H hd hx hm hn hl hh rfl).mono ?_
 rintro _ w' ⟨v,rfl,B,b,e,rfl,HQ,he⟩
 have hle:l.length=e.length:=by rw [← he,s6]
 rw [hle] at HQ ⊢
 exact⟨_,rfl,B,b,e,rfl,HQ,he⟩
def jm (a:di):di:=
 a
set_option maxHeartbeats 1000000 in
theorem oJ (w D) (a:di) (B aD C E aF F b J aG K d) (Y:di) (H:Own w D w []) (aY:aD=a.ag.ls.length) (aZ:Ro w D fun w'=>bA w' 2 B a.ag.ls.length (q6 aW.cells a.ag.ls)) (dO:a.ag.ls.length≤C∧a.ag.ls.length≤9223372036854775807) (T:s8 aA.abs b=a.ak.ls) (bf:aF=a.ak.ls.length) (bg:Ro w D fun w'=>bA w' 5 E a.ak.ls.length (q6 aA.cells b)) (dP:a.ak.ls.length≤F∧a.ak.ls.length≤9223372036854775807) (aa:∀ x ∈ b,Ro w D (fun w'=>bA w' 1 x.av.A x.av.ls.length (q6 (eI .i64) x.av.ls))∧(x.av.ls.length≤x.av.c∧x.av.ls.length≤9223372036854775807)) (P:s8 aT.abs d=a.aJ.ls) (bi:aG=a.aJ.ls.length) (bn:Ro w D fun w'=>bA w' 4 J a.aJ.ls.length (q6 aT.cells d)) (dQ:a.aJ.ls.length≤K∧a.aJ.ls.length≤9223372036854775807) (Q:∀ x ∈ d,Ro w D (fun w'=>bA w' 3 x.ah.A x.ah.ls.length (q6 ae.cells x.ah.ls))∧(x.ah.ls.length≤x.ah.c∧x.ah.ls.length≤9223372036854775807)∧(∀ y1 ∈ x.ah.ls,Ro w D (fun w'=>bA w' 2 y1.aj.A y1.aj.ls.length (q6 aI.cells y1.aj.ls))∧(y1.aj.ls.length≤y1.aj.c∧y1.aj.ls.length≤9223372036854775807))) (fI:a.ag.ls.length≤1000000∧a.ak.ls.length≤1000000∧a.aJ.ls.length≤1000000) (dS:(∀ x ∈ a.ak.ls,x.av.ls.length≤1000000)) (bF:(∀ x ∈ a.aJ.ls,x.ah.ls.length≤1000000∧∀ y ∈ x.ah.ls,y.aj.ls.length≤1000000)) (hr:jm a=Y):
    Calls y4 20 #[.agg #[vI a.av,vU a.ay,vU a.aX,vU a.aL, .slice B aD C, .slice E aF F, .slice J aG K]] w (dR fun v w'=> ∃ aH aJ aK aL aM aN af ag,v= .agg #[vI Y.av,vU Y.ay,vU Y.aX,vU Y.aL, .slice aH Y.ag.ls.length aJ, .slice aK Y.ak.ls.length aL, .slice aM Y.aJ.ls.length aN]∧Own w D w' [row aH Y.ag.ls.length aJ (q6 aW.cells Y.ag.ls) 89 2,row aK Y.ak.ls.length aL (q6 aA.cells af) 60 5,sepL (q6 aA.own af),row aM Y.aJ.ls.length aN (q6 aT.cells ag) 56 4,sepL (q6 aT.own ag)]∧(s8 aA.abs af=Y.ak.ls)∧(s8 aT.abs ag=Y.aJ.ls)):=by
 subst aY bf bi
 have dK:=az T
 have dL:=az P
 refine cb Tryz.func20 ?_
 refine sr ?_
 refine dM [vI a.av,vU a.ay,vU a.aX,vU a.aL, .slice B a.ag.ls.length C, .slice E a.ak.ls.length F, .slice J a.aJ.ls.length K] 33 H ?_
 intro g fJ dU
 refine dM [vI 0, .int .u64 0, .int .u64 0, .int .u64 0, .slice none 0 0, .slice none 0 0, .slice none 0 0] 33 dU ?_
 intro R fK bG
 refine ns (Kz (vP g 4) (Lz (.slice B a.ag.ls.length C) bG 1 Tryz.isAgg29 ?_))
 obtain⟨fM,bH,bI,bJ,eT⟩:=F3 bG
 refine cl Tryz.call44 (lU _ _ B a.ag.ls.length C a.ag.ls a.ag.ls bH (bI _ aZ) rfl e6 rfl) ?_
 rintro _ fO ⟨G,I,rfl,bK⟩
 have bM:=bJ _ _ bK
 have eU:=bM.rowC (i:=0) rfl
 refine Kz (vP g 4) ?_
 have dV:=bM.pf [2]
 refine dN [.slice G a.ag.ls.length I] 4 dV Tryz.sizeOf29 ?_
 intro fP bO
 refine ns (Kz (vP g 5) (Lz (.slice E a.ak.ls.length F) bO 0 D4 ?_))
 obtain⟨fQ,bP,bQ,bR,eX⟩:=F3 bO
 refine cl Tryz.call45 (nP _ _ E _ F b b bP (bQ _ bg) e6 e6 rfl) ?_
 rintro _ fT ⟨n,z,rfl,bS⟩
 have dW:=bR _ _ bS
 refine Kz (vP g 5) ?_
 have dX:=dW.pf [1]
 refine dN [.slice n b.length z] 5 dX Tryz.sizeOf30 ?_
 intro fU bT
 refine nt (FW (sr (Kz (vP g 5) (Lz (.slice n b.length z) bT 0 D4 (Kz (vJ b.length) (Mn rfl (bo ?_)))))))
 have dY:=bT.pb [1]
 have dZ:=(dY.sepNil).pick [1,2,3,4,0] f3 rfl
 refine Wp.loop (ι:=Nat × (List aA)) (fun i=> [(16,vJ i.1),(15,vJ b.length),(14, .slice n b.length z),(13,vP g 5),(12,vP g 5),(11, .slice n b.length z),(10, .slice E a.ak.ls.length F),(9,vP g 5),(8,vP g 4),(7, .slice G a.ag.ls.length I),(6, .slice B a.ag.ls.length C),(5,vP g 4),(2,vP R 0),(1,vP g 0),(0, .agg #[vI a.av,vU a.ay,vU a.aX,vU a.aL, .slice B a.ag.ls.length C, .slice E a.ak.ls.length F, .slice J a.aJ.ls.length K])]) (fun(i:Nat × (List aA)) w'=>Own w D w' [blk g [vI a.av,vU a.ay,vU a.aX,vU a.aL, .slice G a.ag.ls.length I, .slice n b.length z, .slice J a.aJ.ls.length K] 33,row G a.ag.ls.length I (q6 aW.cells a.ag.ls) 89 2,blk R [vI 0, .int .u64 0, .int .u64 0, .int .u64 0, .slice none 0 0, .slice none 0 0, .slice none 0 0] 33,row n b.length z (q6 aA.cells (i.2++r6 i.1 b)) 60 5,sepL (q6 aA.own i.2)]∧(i.1≤b.length∧i.2.length=i.1∧s8 aA.abs i.2=s8 aA.abs (r5 i.1 b))) (fun i=>b.length - i.1) (0, []) ⟨rfl,rfl,rfl,rfl,rfl,rfl,rfl,rfl,rfl,rfl,rfl,rfl,rfl,rfl,rfl,trivial⟩ ⟨dZ,(show 0≤b.length∧s2 ([])=0∧s8 aA.abs ([])=s8 aA.abs (r5 0 b) from ⟨e6,rfl,rfl⟩)⟩ ?_
 rintro ⟨p,u⟩ fV ⟨bU,ah⟩
 replace ah:p≤b.length∧u.length=p∧s8 aA.abs u=s8 aA.abs (r5 p b):=ah
 obtain⟨eY,bq,ai⟩:=ah
 refine sr (Kz (.bool (decide (((p:Nat):Int) < ((b.length:Nat):Int)))) (nt (FW ?_)))
 by_cases bV:((p:Nat):Int) < ((b.length:Nat):Int)
 refine jT (dT bV) (sk (FW (bo (sr (Mz rfl (An rfl ?_))))))
 obtain⟨j,S⟩:∃ q,b[p]? =some q:=⟨_,s5 e6⟩
 have aj:(u++r6 p b)[p]? =some j:=yh e6 S
 have eZ:=(aa _ (E0 S)).2
 have fe:j.av.ls.length≤1000000:=by have q9:=dS _ (E0 (fo T S)); exact q9
 refine FP [12] (bL.block (Gb (Gb (bL.block (Gb Gj))))) bU ?_
 intro fZ d9
 refine qp g 5 0 rfl (ql 1 rfl 0 D4 rfl rfl rfl (qv 2 rfl rfl (qp g 5 3 rfl (ql 4 rfl 0 D4 rfl rfl rfl (qv 5 rfl rfl (qt (v:= .pointer (some ⟨ab n,ao n+p *5,none⟩)) 6 rfl (fun _ ⟨_,H9⟩=>F4 (kG) rfl rfl ((H9.rds (i:=3) rfl).addr (i:=p) e6) e6) (qk (.pointer (some ⟨ab n,ao n+p *5+4,none⟩)) 7 rfl (qt (v:= .slice j.av.A j.av.ls.length j.av.c) 8 rfl (fun _ ⟨_,H9⟩=>F7 rfl (bX.one Tryz.isAgg58 (((H9.rds (i:=3) rfl).elem aA.len aj f3).at_ (k:=4) rfl))) ?_))))))))
 obtain⟨gm,bW,bY,bZ,fq⟩:=F3 d9
 refine qd 9 rfl (Gg Tryz.call46 rfl (tu _ _ j.av.A j.av.ls.length j.av.c j.av.ls j.av.ls bW (bY _ (aa _ (E0 S)).1) rfl e6 rfl) ?_)
 rintro _ gp ⟨U,V,rfl,cu⟩
 have ed:=bZ _ _ cu
 have cz:=ed.pb [0]
 refine⟨.inr ⟨_,cz⟩, ?_⟩
 refine qt (v:= .pointer (some ⟨ab n,ao n+p *5,none⟩)) 10 rfl (fun _ ⟨_,H9⟩=>F4 (kG) rfl rfl ((H9.rds (i:=3) rfl).addr (i:=p) e6) e6) (qk (.pointer (some ⟨ab n,ao n+p *5+4,none⟩)) 11 rfl ?_)
 have ek:=cz.pf [3]
 refine qe 12 rfl (Do.storeRow (vs:= [.slice U j.av.ls.length V]) (o:=p *5+4) (q:=ao n+p *5+4) ek rfl e6 rfl Tryz.sizeOf58 rfl rfl (JO rfl) (iK aA.len aj (JO rfl)) (jE (y:=(aA.mk j.aU j.aN j.ay j.aO (H3 U V j.av.ls))) aA.len rfl (JO rfl) aj) ?_)
 intro eu eB
 refine⟨.inl e7, ?_⟩
 refine qn (bN (FY (FV (fw (vJ (p+1)) (FX (e:=C7.wrap (((p:Nat):Int)+1)) yk f1) (Mz rfl (WL.nil ?_))))))
 have eD:=eB.px [5,4] [] [0]
 have eF:Own w D eu (sepL (q6 aA.own (u++ [(aA.mk j.aU j.aN j.ay j.aO (H3 U V j.av.ls))]))::_):=wU (f:=aA.own) (es:=u) (y:=(aA.mk j.aU j.aN j.ay j.aO (H3 U V j.av.ls))) eD
 have cB:=eF.pk [1,2,3,4,0]
 rw [wV _ e6 e6] at cB
 exact Gc (p+1,u++ [(aA.mk j.aU j.aN j.ay j.aO (H3 U V j.av.ls))]) ⟨rfl,rfl,rfl,rfl,rfl,rfl,rfl,rfl,rfl,rfl,rfl,rfl,rfl,rfl,rfl,trivial⟩ ⟨cB,(show (p+1)≤b.length∧s2 (u++ [(aA.mk j.aU j.aN j.ay j.aO (H3 U V j.av.ls))])=(p+1)∧s8 aA.abs (u++ [(aA.mk j.aU j.aN j.ay j.aO (H3 U V j.av.ls))])=s8 aA.abs (r5 (p+1) b) from ⟨e6,by simp [bq],wW (f:=aA.abs) ai S rfl⟩)⟩ (by show b.length - (p+1) < b.length - p; omega)
 refine jF (dF bV) (Wp.exit (F6 (F6 (Gi (FY (sr ?_))))))
 have aO:s8 aA.abs u=a.ak.ls:=by rw [ai,G4 e6]; exact T
 have bv:=bU
 rw [H0 e6,s9] at bv
 have fu:=az aO
 refine Kz (vP g 6) (Lz (.slice J a.aJ.ls.length K) bv 0 H7 ?_)
 obtain⟨gq,cK,cO,cZ,fA⟩:=F3 bv
 refine cl Tryz.call47 (pK _ _ J _ K d d cK (cO _ bn) e6 e6 rfl) ?_
 rintro _ gu ⟨t,s,rfl,df⟩
 have dh:=cZ _ _ df
 refine Kz (vP g 6) ?_
 have dm:=dh.pf [1]
 refine dN [.slice t d.length s] 6 dm Tryz.sizeOf31 ?_
 intro fB aP
 refine nt (FW (sr (Kz (vP g 6) (Lz (.slice t d.length s) aP 0 H7 (Kz (vJ d.length) (Mn rfl (bo ?_)))))))
 have dn:=aP.pb [1]
 have dw:=(dn.sepNil).pick [1,2,3,4,5,6,0] f3 rfl
 refine Wp.loop (ι:=Nat × (List aT)) (fun i=> [(39,vJ i.1),(38,vJ d.length),(37, .slice t d.length s),(36,vP g 6),(35,vP g 6),(34, .slice t d.length s),(33, .slice J a.aJ.ls.length K),(32,vP g 6),(17, .bool (decide (((p:Nat):Int) < ((b.length:Nat):Int)))),(16,vJ p),(15,vJ b.length),(14, .slice n b.length z),(13,vP g 5),(12,vP g 5),(11, .slice n b.length z),(10, .slice E a.ak.ls.length F),(9,vP g 5),(8,vP g 4),(7, .slice G a.ag.ls.length I),(6, .slice B a.ag.ls.length C),(5,vP g 4),(2,vP R 0),(1,vP g 0),(0, .agg #[vI a.av,vU a.ay,vU a.aX,vU a.aL, .slice B a.ag.ls.length C, .slice E a.ak.ls.length F, .slice J a.aJ.ls.length K])]) (fun(i:Nat × (List aT)) w'=>Own w D w' [blk g [vI a.av,vU a.ay,vU a.aX,vU a.aL, .slice G a.ag.ls.length I, .slice n b.length z, .slice t d.length s] 33,row G a.ag.ls.length I (q6 aW.cells a.ag.ls) 89 2,blk R [vI 0, .int .u64 0, .int .u64 0, .int .u64 0, .slice none 0 0, .slice none 0 0, .slice none 0 0] 33,row n b.length z (q6 aA.cells u) 60 5,sepL (q6 aA.own u),row t d.length s (q6 aT.cells (i.2++r6 i.1 d)) 56 4,sepL (q6 aT.own i.2)]∧(i.1≤d.length∧i.2.length=i.1∧s8 aT.abs i.2=s8 aT.abs (r5 i.1 d))) (fun i=>d.length - i.1) (0, []) ⟨rfl,rfl,rfl,rfl,rfl,rfl,rfl,rfl,rfl,rfl,rfl,rfl,rfl,rfl,rfl,rfl,rfl,rfl,rfl,rfl,rfl,rfl,rfl,rfl,trivial⟩ ⟨dw,(show 0≤d.length∧s2 ([])=0∧s8 aT.abs ([])=s8 aT.abs (r5 0 d) from ⟨e6,rfl,rfl⟩)⟩ ?_
 rintro ⟨l,r⟩ fC ⟨aQ,W⟩
 replace W:l≤d.length∧r.length=l∧s8 aT.abs r=s8 aT.abs (r5 l d):=W
 obtain⟨eG,aC,Z⟩:=W
 refine sr (Kz (.bool (decide (((l:Nat):Int) < ((d.length:Nat):Int)))) (nt (FW ?_)))
 by_cases aR:((l:Nat):Int) < ((d.length:Nat):Int)
 refine jT (dT aR) (sk (FW (bo (sr (Mz rfl (An rfl ?_))))))
 obtain⟨h,L⟩:∃ q,d[l]? =some q:=⟨_,s5 e6⟩
 have X:(r++r6 l d)[l]? =some h:=yh e6 L
 have eH:=(Q _ (E0 L)).2.1
 have eO:h.ah.ls.length≤1000000:=by have q9:=(bF _ (E0 (fo P L))).1; simp only [aT.abs,s6] at q9; exact q9
 refine oL 7 [12] (bL.block (Gb (Gb (bL.block (Gb Gj))))) aQ ?_
 intro fD dx
 refine qp g 6 0 rfl (ql 1 rfl 0 H7 rfl rfl rfl (qv 2 rfl rfl (qp g 6 3 rfl (ql 4 rfl 0 H7 rfl rfl rfl (qv 5 rfl rfl (qt (v:= .pointer (some ⟨ab t,ao t+l *4,none⟩)) 6 rfl (fun _ ⟨_,H9⟩=>F4 (lN) rfl rfl ((H9.rds (i:=5) rfl).addr (i:=l) e6) e6) (qk (.pointer (some ⟨ab t,ao t+l *4+3,none⟩)) 7 rfl (qt (v:= .slice h.ah.A h.ah.ls.length h.ah.c) 8 rfl (fun _ ⟨_,H9⟩=>F7 rfl (bX.one Tryz.isAgg40 (((H9.rds (i:=5) rfl).elem aT.len X f3).at_ (k:=3) rfl))) ?_))))))))
 obtain⟨fE,bz,au,bB,eP⟩:=F3 dx
 refine qd 9 rfl (Gg Tryz.call48 rfl (BG _ _ h.ah.A h.ah.ls.length h.ah.c h.ah.ls (s8 ae.abs h.ah.ls) bz rfl (au _ (Q _ (E0 L)).1) (fun x9 h9=>⟨au _ ((Q _ (E0 L)).2.2 x9 h9).1,((Q _ (E0 L)).2.2 x9 h9).2⟩) (by simp only [s6]) (by simp only [s6]; omega) (by have q9:=(bF _ (E0 (fo P L))).2; simp only [aT.abs] at q9; exact q9)) ?_)
 rintro _ fH ⟨M,N,O,rfl,bC,bD⟩
 have dz:=bB _ _ bC
 have aS:=dz.pb [0,1]
 refine⟨.inr ⟨_,aS⟩, ?_⟩
 refine qt (v:= .pointer (some ⟨ab t,ao t+l *4,none⟩)) 10 rfl (fun _ ⟨_,H9⟩=>F4 (lN) rfl rfl ((H9.rds (i:=5) rfl).addr (i:=l) e6) e6) (qk (.pointer (some ⟨ab t,ao t+l *4+3,none⟩)) 11 rfl ?_)
 have dA:=aS.pf [5]
 refine qe 12 rfl (Do.storeRow (vs:= [.slice M O.length N]) (o:=l *4+3) (q:=ao t+l *4+3) dA rfl e6 rfl Tryz.sizeOf40 rfl rfl (JO rfl) (iK aT.len X (JO rfl)) (jE (y:=(aT.mk h.aN h.ay h.aO (H3 M N O))) aT.len rfl (JO rfl) X) ?_)
 intro dB dC
 refine⟨.inl e7, ?_⟩
 refine qn (bN (FY (FV (fw (vJ (l+1)) (FX (e:=C7.wrap (((l:Nat):Int)+1)) yk f1) (Mz rfl (WL.nil ?_))))))
 have dD:=dC.px [7,8,6] [] [0]
 have dE:Own w D dB (sepL (q6 aT.own (r++ [(aT.mk h.aN h.ay h.aO (H3 M N O))]))::_):=wU (f:=aT.own) (es:=r) (y:=(aT.mk h.aN h.ay h.aO (H3 M N O))) dD
 have aU:=dE.pk [1,2,3,4,5,6,0]
 rw [wV _ e6 e6] at aU
 exact Gc (l+1,r++ [(aT.mk h.aN h.ay h.aO (H3 M N O))]) ⟨rfl,rfl,rfl,rfl,rfl,rfl,rfl,rfl,rfl,rfl,rfl,rfl,rfl,rfl,rfl,rfl,rfl,rfl,rfl,rfl,rfl,rfl,rfl,rfl,trivial⟩ ⟨aU,(show (l+1)≤d.length∧s2 (r++ [(aT.mk h.aN h.ay h.aO (H3 M N O))])=(l+1)∧s8 aT.abs (r++ [(aT.mk h.aN h.ay h.aO (H3 M N O))])=s8 aT.abs (r5 (l+1) d) from ⟨e6,by simp [aC],wW (f:=aT.abs) Z L (by simp only [aT.abs]; rw [bD])⟩)⟩ (by show d.length - (l+1) < d.length - l; omega)
 refine jF (dF aR) (Wp.exit (F6 (F6 (Gi (FY (sr ?_))))))
 have av:s8 aT.abs r=a.aJ.ls:=by rw [Z,G4 e6]; exact P
 have ax:=aQ
 rw [H0 e6,s9] at ax
 have eQ:=az av
 refine La ([vI a.av,vU a.ay,vU a.aX,vU a.aL, .slice G a.ag.ls.length I, .slice n b.length z, .slice t d.length s]) ax 0 Tryz.isAgg33 H8 ?_
 have dG:=ax.pf [2]
 refine dN [vI a.av,vU a.ay,vU a.aX,vU a.aL, .slice G a.ag.ls.length I, .slice n b.length z, .slice t d.length s] 0 dG H8 ?_
 intro aV aX
 refine nt (rt (Fin.res (ni rfl rfl (Gf (cs:= [vI a.av,vU a.ay,vU a.aX,vU a.aL, .slice G a.ag.ls.length I, .slice n b.length z, .slice t d.length s]) Tryz.isAgg33 H8 ((aX.cls (i:=0) rfl).lit (k:=0) (m:=7) rfl))) ?_))
 have ay:b.length=a.ak.ls.length:=by first | omega | (simp only [H5]; done) | (simp only [H5,p5,s3,G0,p3,p4,H6]; omega)
 have dH:Own w D aV [blk R [vI a.av,vU a.ay,vU a.aX,vU a.aL, .slice G a.ag.ls.length I, .slice n a.ak.ls.length z, .slice t d.length s] 33,blk g [vI a.av,vU a.ay,vU a.aX,vU a.aL, .slice G a.ag.ls.length I, .slice n a.ak.ls.length z, .slice t d.length s] 33,row G a.ag.ls.length I (q6 aW.cells a.ag.ls) 89 2,row n a.ak.ls.length z (q6 aA.cells u) 60 5,sepL (q6 aA.own u),row t d.length s (q6 aT.cells r) 56 4,sepL (q6 aT.own r)]:=by rw [← ay]; exact aX
 have aB:d.length=a.aJ.ls.length:=by first | omega | (simp only [H5]; done) | (simp only [H5,p5,s3,G0,p3,p4,H6]; omega)
 have dI:Own w D aV [blk R [vI a.av,vU a.ay,vU a.aX,vU a.aL, .slice G a.ag.ls.length I, .slice n a.ak.ls.length z, .slice t a.aJ.ls.length s] 33,blk g [vI a.av,vU a.ay,vU a.aX,vU a.aL, .slice G a.ag.ls.length I, .slice n a.ak.ls.length z, .slice t a.aJ.ls.length s] 33,row G a.ag.ls.length I (q6 aW.cells a.ag.ls) 89 2,row n a.ak.ls.length z (q6 aA.cells u) 60 5,sepL (q6 aA.own u),row t a.aJ.ls.length s (q6 aT.cells r) 56 4,sepL (q6 aT.own r)]:=by rw [← aB]; exact dH
 have dJ:=dI.px [] [0,1] []
 obtain rfl:_=a:=hr.symm.trans rfl
 exact⟨G,I,n,z,t,s,u,r,(by(first | rw [← ay] | skip); (first | rw [← aB] | skip); first | done | rfl),dJ,aO,av⟩
end Go.Proofs.YtbkagebjhbphaaaGreat
