/-
 coord: copies.
-/
import Derived.Test.YtbkagebjhbphaaaGreatCr
namespace Go.Proofs.YtbkagebjhbphaaaGreat
open IntKind renaming i64→C7
open List renaming append_nil→s9,drop→r6,drop_eq_nil_of_le→H3,flatMap→q6,getElem?_eq_getElem→s5,length→s2,length_append→p5,length_cons→s3,length_drop→p4,length_map→s6,length_nil→G1,length_replicate→H7,length_set→H6,length_take→p3,map→s8,mem_of_getElem?→E0,take→r5,take_of_length_le→H0
open Sv renaming mk→H5
open _root_.Go.Proofs.Tryz renaming isAgg30→D4,isAgg31→H8,prog→y4,sizeOf33→I0
set_option maxRecDepth 100000
open Go.RowKit
set_option linter.unusedVariables false
set_option linter.unusedSectionVars false
set_option linter.unusedSimpArgs false
def iO (l0:List aY):(List aY):=
 l0
theorem lV (w:World) (D:Nat→Prop) (C:Option Addr) (U S:Nat) (d0:List af) (l0:List aY) (T:List aY) (H:Own w D w []) (z:s8 af.abs d0=l0) (V:Ro w D fun w'=>bD w' 3 C U (q6 af.cells d0)) (E:∀ x ∈ d0,Ro w D (fun w'=>bD w' 2 x.au.A x.au.ls.length (q6 aL.cells x.au.ls))∧(x.au.ls.length≤x.au.c∧x.au.ls.length≤9223372036854775807)) (W:U=l0.length) (aJ:l0.length *48≤211106232532992) (X:(∀ x ∈ l0,x.au.ls.length≤1000000)) (hr:iO l0=T):
    Calls y4 48 #[.slice C U S] w (dR fun v w'=> ∃ (B0:Option Addr) (b0:Nat) (Y:List af),v= .slice B0 T.length b0∧Own w D w' [row B0 T.length b0 (q6 af.cells Y) 149 3,sepL (q6 af.own Y)]∧(s8 af.abs Y=T)):=by
 subst W
 have aB:=az z
 refine cb Tryz.func48 ?_
 refine sr (Ar rfl (Mz rfl ?_))
 obtain⟨aK,F,G,I,aC⟩:=FY H
 refine cl Tryz.call74 (oL _ _ C _ S d0 d0 F (G _ V) e6 e6 rfl) ?_
 rintro _ aM ⟨g,h,rfl,J⟩
 have Z:=I _ _ J
 refine An rfl (FU (sr (Mz rfl (Kz (vJ d0.length) (Mn rfl (bo ?_))))))
 have aa:=Z.pf []
 have ae:=(aa.sepNil).pick [1,0] f3 rfl
 refine Wp.loop (ι:=Nat × (List af)) (fun i=> [(8,vJ i.1),(7,vJ d0.length),(6, .slice g d0.length h),(0, .slice g d0.length h),(5, .slice g d0.length h),(4, .slice C l0.length S),(2, .slice none 0 0)]) (fun(i:Nat × (List af)) w'=>Own w D w' [row g d0.length h (q6 af.cells (i.2++r6 i.1 d0)) 149 3,sepL (q6 af.own i.2)]∧(i.1≤d0.length∧i.2.length=i.1∧s8 af.abs i.2=s8 af.abs (r5 i.1 d0))) (fun i=>d0.length - i.1) (0, []) ⟨rfl,rfl,rfl,rfl,rfl,rfl,rfl,trivial⟩ ⟨ae,(show 0≤d0.length∧s2 ([])=0∧s8 af.abs ([])=s8 af.abs (r5 0 d0) from ⟨e6,rfl,rfl⟩)⟩ ?_
 rintro ⟨b,d⟩ ag ⟨t,n⟩
 replace n:b≤d0.length∧d.length=b∧s8 af.abs d=s8 af.abs (r5 b d0):=n
 obtain⟨aD,B,p⟩:=n
 refine sr (Kz (.bool (decide (((b:Nat):Int) < ((d0.length:Nat):Int)))) (nt (FU ?_)))
 by_cases K:((b:Nat):Int) < ((d0.length:Nat):Int)
 refine jT (dT K) (sk (FU (bo (sr (Mz rfl (An rfl (FT ?_)))))))
 obtain⟨a,j⟩:∃ q,d0[b]? =some q:=⟨_,s5 e6⟩
 have r:(d++r6 b d0)[b]? =some a:=yf e6 j
 have aF:=(E _ (E0 j)).2
 have aG:a.au.ls.length≤1000000:=by have q9:=X _ (E0 (fo z j)); exact q9
 refine Mz rfl (Mz rfl (Mz rfl (Mz rfl (fw (.pointer (some ⟨ab g,ao g+b *3,none⟩)) (FZ (rP) rfl rfl ((t.rds (i:=0) rfl).addr (i:=b) e6) e6) (Kz (.pointer (some ⟨ab g,ao g+b *3+2,none⟩)) (fw (.slice a.au.A a.au.ls.length a.au.c) (F5 rfl (bZ.one Tryz.isAgg147 (((t.rds (i:=0) rfl).elem af.len r f3).at_ (k:=2) rfl))) ?_))))))
 obtain⟨aO,L,M,N,aH⟩:=FY t
 refine cl Tryz.call75 (kP _ _ a.au.A a.au.ls.length a.au.c a.au.ls a.au.ls L (M _ (E _ (E0 j)).1) rfl e6 rfl) ?_
 rintro _ aP ⟨l,m,rfl,O⟩
 have P:=N _ _ O
 refine fw (.pointer (some ⟨ab g,ao g+b *3,none⟩)) (FZ (rP) rfl rfl ((P.rds (i:=1) rfl).addr (i:=b) e6) e6) (Kz (.pointer (some ⟨ab g,ao g+b *3+2,none⟩)) ?_)
 have ah:=P.pf [1]
 refine GV (Do.storeRow (vs:= [.slice l a.au.ls.length m]) (o:=b *3+2) (q:=ao g+b *3+2) ah rfl e6 rfl Tryz.sizeOf147 rfl rfl (JM rfl) (iK af.len r (JM rfl)) (jE (y:=(af.mk a.dZ a.aW (H5 l m a.au.ls))) af.len rfl (JM rfl) r) ?_)
 intro ai aj
 refine WL.nil (bN (FW (FT (fw (vJ (b+1)) (FV (e:=C7.wrap (((b:Nat):Int)+1)) yk f1) (Mz rfl (WL.nil ?_))))))
 have ak:=aj.pb [0]
 have au:Own w D ai [sepL (q6 af.own (d++ [(af.mk a.dZ a.aW (H5 l m a.au.ls))])),row g d0.length h (q6 af.cells (List.set (d++r6 b d0) b (af.mk a.dZ a.aW (H5 l m a.au.ls)))) 149 3]:=wS (f:=af.own) (es:=d) (y:=(af.mk a.dZ a.aW (H5 l m a.au.ls))) ak
 have Q:=au.pk [1,0]
 rw [wT _ e6 e6] at Q
 exact F9 (b+1,d++ [(af.mk a.dZ a.aW (H5 l m a.au.ls))]) ⟨rfl,rfl,rfl,rfl,rfl,rfl,rfl,trivial⟩ ⟨Q,(show (b+1)≤d0.length∧s2 (d++ [(af.mk a.dZ a.aW (H5 l m a.au.ls))])=(b+1)∧s8 af.abs (d++ [(af.mk a.dZ a.aW (H5 l m a.au.ls))])=s8 af.abs (r5 (b+1) d0) from ⟨e6,by simp [B],wU (f:=af.abs) p j rfl⟩)⟩ (by show d0.length - (b+1) < d0.length - b; omega)
 refine jF (dF K) (Wp.exit (F4 (F4 (Gg (FW (sr ?_))))))
 have u:s8 af.abs d=l0:=by rw [p,H0 e6]; exact z
 have R:=t
 rw [H3 e6,s9] at R
 have aI:=az u
 refine Mz rfl (An rfl (rt (rs ?_)))
 have s:d0.length=l0.length:=by first | omega | (simp only [H6]; done) | (simp only [H6,p5,s3,G1,p3,p4,H7]; omega)
 have av:Own w D ag [row g l0.length h (q6 af.cells d) 149 3,sepL (q6 af.own d)]:=by rw [← s]; exact R
 have ax:=av.pf []
 obtain rfl:_=l0:=hr.symm.trans rfl
 exact⟨g,h,d,(by first | rfl | (rw [← s]; done) | (rw [← s]; rfl)),ax,u⟩
theorem BD (w:World) (D:Nat→Prop) (A:Option Addr) (n c:Nat) (d:List af) (l:List aY) (H:Own w D w []) (hd:s8 af.abs d=l) (hx:Ro w D fun w'=>bD w' 3 A n (q6 af.cells d)) (hm:∀ x ∈ d,Ro w D (fun w'=>bD w' 2 x.au.A x.au.ls.length (q6 aL.cells x.au.ls))∧(x.au.ls.length≤x.au.c∧x.au.ls.length≤9223372036854775807)) (hn:n=l.length) (hl:l.length *48≤211106232532992) (hh:∀ x ∈ l,x.au.ls.length≤1000000):
    Calls y4 48 #[.slice A n c] w (dR fun v w'=> ∃ (B:Option Addr) (b:Nat) (e:List af),v= .slice B e.length b∧Own w D w' [row B e.length b (q6 af.cells e) 149 3,sepL (q6 af.own e)]∧(s8 af.abs e=l)):=by
 refine(lV w D A n c d l l H hd hx hm hn hl hh rfl).mono ?_
 rintro _ w' ⟨v,rfl,B,b,e,rfl,HQ,he⟩
 have hle:l.length=e.length:=by rw [← he,s6]
 rw [hle] at HQ ⊢
 exact⟨_,rfl,B,b,e,rfl,HQ,he⟩
def jm (a:dC):dC:=
 a
set_option maxHeartbeats 1000000 in
theorem oH (w:World) (D:Nat→Prop) (a:dC) (B:Option Addr) (aD C:Nat) (E:Option Addr) (aF F:Nat) (b:List aA) (J:Option Addr) (aG K:Nat) (d:List aZ) (Y:dC) (H:Own w D w []) (aW:aD=a.ag.ls.length) (aX:Ro w D fun w'=>bD w' 2 B a.ag.ls.length (q6 bv.cells a.ag.ls)) (dO:a.ag.ls.length≤C∧a.ag.ls.length≤9223372036854775807) (T:s8 aA.abs b=a.aj.ls) (aY:aF=a.aj.ls.length) (bf:Ro w D fun w'=>bD w' 5 E a.aj.ls.length (q6 aA.cells b)) (dP:a.aj.ls.length≤F∧a.aj.ls.length≤9223372036854775807) (aa:∀ x ∈ b,Ro w D (fun w'=>bD w' 1 x.av.A x.av.ls.length (q6 (eI .i64) x.av.ls))∧(x.av.ls.length≤x.av.c∧x.av.ls.length≤9223372036854775807)) (P:s8 aZ.abs d=a.aI.ls) (bg:aG=a.aI.ls.length) (bi:Ro w D fun w'=>bD w' 4 J a.aI.ls.length (q6 aZ.cells d)) (dQ:a.aI.ls.length≤K∧a.aI.ls.length≤9223372036854775807) (Q:∀ x ∈ d,Ro w D (fun w'=>bD w' 3 x.ah.A x.ah.ls.length (q6 af.cells x.ah.ls))∧(x.ah.ls.length≤x.ah.c∧x.ah.ls.length≤9223372036854775807)∧(∀ y1 ∈ x.ah.ls,Ro w D (fun w'=>bD w' 2 y1.au.A y1.au.ls.length (q6 aL.cells y1.au.ls))∧(y1.au.ls.length≤y1.au.c∧y1.au.ls.length≤9223372036854775807))) (fI:a.ag.ls.length≤1000000∧a.aj.ls.length≤1000000∧a.aI.ls.length≤1000000) (dS:(∀ x ∈ a.aj.ls,x.av.ls.length≤1000000)) (bF:(∀ x ∈ a.aI.ls,x.ah.ls.length≤1000000∧∀ y ∈ x.ah.ls,y.au.ls.length≤1000000)) (hr:jm a=Y):
    Calls y4 20 #[.agg #[vI a.av,vU a.ax,vU a.bf,vU a.aK, .slice B aD C, .slice E aF F, .slice J aG K]] w (dR fun v w'=> ∃ (aH:Option Addr) (aI:Nat) (aJ:Option Addr) (aK:Nat) (aM:Option Addr) (aN:Nat) (ae:List aA) (ag:List aZ),v= .agg #[vI Y.av,vU Y.ax,vU Y.bf,vU Y.aK, .slice aH Y.ag.ls.length aI, .slice aJ Y.aj.ls.length aK, .slice aM Y.aI.ls.length aN]∧Own w D w' [row aH Y.ag.ls.length aI (q6 bv.cells Y.ag.ls) 89 2,row aJ Y.aj.ls.length aK (q6 aA.cells ae) 60 5,sepL (q6 aA.own ae),row aM Y.aI.ls.length aN (q6 aZ.cells ag) 56 4,sepL (q6 aZ.own ag)]∧(s8 aA.abs ae=Y.aj.ls)∧(s8 aZ.abs ag=Y.aI.ls)):=by
 subst aW aY bg
 have dK:=az T
 have dL:=az P
 refine cb Tryz.func20 ?_
 refine sr ?_
 refine dM [vI a.av,vU a.ax,vU a.bf,vU a.aK, .slice B a.ag.ls.length C, .slice E a.aj.ls.length F, .slice J a.aI.ls.length K] 33 H ?_
 intro g fJ dU
 refine dM [vI 0, .int .u64 0, .int .u64 0, .int .u64 0, .slice none 0 0, .slice none 0 0, .slice none 0 0] 33 dU ?_
 intro R fK bG
 refine ns (Kz (vP g 4) (Lz (.slice B a.ag.ls.length C) bG 1 Tryz.isAgg29 ?_))
 obtain⟨fM,bH,bI,bJ,eT⟩:=FY bG
 refine cl Tryz.call44 (lU _ _ B a.ag.ls.length C a.ag.ls a.ag.ls bH (bI _ aX) rfl e6 rfl) ?_
 rintro _ fO ⟨G,I,rfl,bK⟩
 have bL:=bJ _ _ bK
 have eU:=bL.rowC (i:=0) rfl
 refine Kz (vP g 4) ?_
 have dV:=bL.pf [2]
 refine dN [.slice G a.ag.ls.length I] 4 dV Tryz.sizeOf29 ?_
 intro fP bM
 refine ns (Kz (vP g 5) (Lz (.slice E a.aj.ls.length F) bM 0 D4 ?_))
 obtain⟨fQ,bO,bQ,bR,eX⟩:=FY bM
 refine cl Tryz.call45 (nN _ _ E _ F b b bO (bQ _ bf) e6 e6 rfl) ?_
 rintro _ fT ⟨n,z,rfl,bS⟩
 have dW:=bR _ _ bS
 refine Kz (vP g 5) ?_
 have dX:=dW.pf [1]
 refine dN [.slice n b.length z] 5 dX Tryz.sizeOf30 ?_
 intro fU bT
 refine nt (FU (sr (Kz (vP g 5) (Lz (.slice n b.length z) bT 0 D4 (Kz (vJ b.length) (Mn rfl (bo ?_)))))))
 have dY:=bT.pb [1]
 have dZ:=(dY.sepNil).pick [1,2,3,4,0] f3 rfl
 refine Wp.loop (ι:=Nat × (List aA)) (fun i=> [(16,vJ i.1),(15,vJ b.length),(14, .slice n b.length z),(13,vP g 5),(12,vP g 5),(11, .slice n b.length z),(10, .slice E a.aj.ls.length F),(9,vP g 5),(8,vP g 4),(7, .slice G a.ag.ls.length I),(6, .slice B a.ag.ls.length C),(5,vP g 4),(2,vP R 0),(1,vP g 0),(0, .agg #[vI a.av,vU a.ax,vU a.bf,vU a.aK, .slice B a.ag.ls.length C, .slice E a.aj.ls.length F, .slice J a.aI.ls.length K])]) (fun(i:Nat × (List aA)) w'=>Own w D w' [blk g [vI a.av,vU a.ax,vU a.bf,vU a.aK, .slice G a.ag.ls.length I, .slice n b.length z, .slice J a.aI.ls.length K] 33,row G a.ag.ls.length I (q6 bv.cells a.ag.ls) 89 2,blk R [vI 0, .int .u64 0, .int .u64 0, .int .u64 0, .slice none 0 0, .slice none 0 0, .slice none 0 0] 33,row n b.length z (q6 aA.cells (i.2++r6 i.1 b)) 60 5,sepL (q6 aA.own i.2)]∧(i.1≤b.length∧i.2.length=i.1∧s8 aA.abs i.2=s8 aA.abs (r5 i.1 b))) (fun i=>b.length - i.1) (0, []) ⟨rfl,rfl,rfl,rfl,rfl,rfl,rfl,rfl,rfl,rfl,rfl,rfl,rfl,rfl,rfl,trivial⟩ ⟨dZ,(show 0≤b.length∧s2 ([])=0∧s8 aA.abs ([])=s8 aA.abs (r5 0 b) from ⟨e6,rfl,rfl⟩)⟩ ?_
 rintro ⟨p,u⟩ fV ⟨bU,ah⟩
 replace ah:p≤b.length∧u.length=p∧s8 aA.abs u=s8 aA.abs (r5 p b):=ah
 obtain⟨eY,bn,ai⟩:=ah
 refine sr (Kz (.bool (decide (((p:Nat):Int) < ((b.length:Nat):Int)))) (nt (FU ?_)))
 by_cases bV:((p:Nat):Int) < ((b.length:Nat):Int)
 refine jT (dT bV) (sk (FU (bo (sr (Mz rfl (An rfl ?_))))))
 obtain⟨j,S⟩:∃ q,b[p]? =some q:=⟨_,s5 e6⟩
 have aj:(u++r6 p b)[p]? =some j:=yf e6 S
 have eZ:=(aa _ (E0 S)).2
 have fe:j.av.ls.length≤1000000:=by have q9:=dS _ (E0 (fo T S)); exact q9
 refine FN [12] (bP.block (F8 (F8 (bP.block (F8 Gh))))) bU ?_
 intro fZ d9
 refine qp g 5 0 rfl (ql 1 rfl 0 D4 rfl rfl rfl (qv 2 rfl rfl (qp g 5 3 rfl (ql 4 rfl 0 D4 rfl rfl rfl (qv 5 rfl rfl (qt (v:= .pointer (some ⟨ab n,ao n+p *5,none⟩)) 6 rfl (fun _ ⟨_,H9⟩=>FZ (kG) rfl rfl ((H9.rds (i:=3) rfl).addr (i:=p) e6) e6) (qk (.pointer (some ⟨ab n,ao n+p *5+4,none⟩)) 7 rfl (qt (v:= .slice j.av.A j.av.ls.length j.av.c) 8 rfl (fun _ ⟨_,H9⟩=>F5 rfl (bZ.one Tryz.isAgg58 (((H9.rds (i:=3) rfl).elem aA.len aj f3).at_ (k:=4) rfl))) ?_))))))))
 obtain⟨gm,bW,bX,bY,fq⟩:=FY d9
 refine qd 9 rfl (Gd Tryz.call46 rfl (sZ _ _ j.av.A j.av.ls.length j.av.c j.av.ls j.av.ls bW (bX _ (aa _ (E0 S)).1) rfl e6 rfl) ?_)
 rintro _ gp ⟨U,V,rfl,cu⟩
 have ed:=bY _ _ cu
 have cz:=ed.pb [0]
 refine⟨.inr ⟨_,cz⟩, ?_⟩
 refine qt (v:= .pointer (some ⟨ab n,ao n+p *5,none⟩)) 10 rfl (fun _ ⟨_,H9⟩=>FZ (kG) rfl rfl ((H9.rds (i:=3) rfl).addr (i:=p) e6) e6) (qk (.pointer (some ⟨ab n,ao n+p *5+4,none⟩)) 11 rfl ?_)
 have ek:=cz.pf [3]
 refine qe 12 rfl (Do.storeRow (vs:= [.slice U j.av.ls.length V]) (o:=p *5+4) (q:=ao n+p *5+4) ek rfl e6 rfl Tryz.sizeOf58 rfl rfl (JM rfl) (iK aA.len aj (JM rfl)) (jE (y:=(aA.mk j.bi j.aS j.ax j.aU (H5 U V j.av.ls))) aA.len rfl (JM rfl) aj) ?_)
 intro eu eB
 refine⟨.inl e7, ?_⟩
 refine qn (bN (FW (FT (fw (vJ (p+1)) (FV (e:=C7.wrap (((p:Nat):Int)+1)) yk f1) (Mz rfl (WL.nil ?_))))))
 have eD:=eB.px [5,4] [] [0]
 have eF:Own w D eu (sepL (q6 aA.own (u++ [(aA.mk j.bi j.aS j.ax j.aU (H5 U V j.av.ls))]))::_):=wS (f:=aA.own) (es:=u) (y:=(aA.mk j.bi j.aS j.ax j.aU (H5 U V j.av.ls))) eD
 have cB:=eF.pk [1,2,3,4,0]
 rw [wT _ e6 e6] at cB
 exact F9 (p+1,u++ [(aA.mk j.bi j.aS j.ax j.aU (H5 U V j.av.ls))]) ⟨rfl,rfl,rfl,rfl,rfl,rfl,rfl,rfl,rfl,rfl,rfl,rfl,rfl,rfl,rfl,trivial⟩ ⟨cB,(show (p+1)≤b.length∧s2 (u++ [(aA.mk j.bi j.aS j.ax j.aU (H5 U V j.av.ls))])=(p+1)∧s8 aA.abs (u++ [(aA.mk j.bi j.aS j.ax j.aU (H5 U V j.av.ls))])=s8 aA.abs (r5 (p+1) b) from ⟨e6,by simp [bn],wU (f:=aA.abs) ai S rfl⟩)⟩ (by show b.length - (p+1) < b.length - p; omega)
 refine jF (dF bV) (Wp.exit (F4 (F4 (Gg (FW (sr ?_))))))
 have aO:s8 aA.abs u=a.aj.ls:=by rw [ai,H0 e6]; exact T
 have bu:=bU
 rw [H3 e6,s9] at bu
 have fu:=az aO
 refine Kz (vP g 6) (Lz (.slice J a.aI.ls.length K) bu 0 H8 ?_)
 obtain⟨gq,cK,cO,cZ,fA⟩:=FY bu
 refine cl Tryz.call47 (pI _ _ J _ K d d cK (cO _ bi) e6 e6 rfl) ?_
 rintro _ gu ⟨t,s,rfl,df⟩
 have dh:=cZ _ _ df
 refine Kz (vP g 6) ?_
 have di:=dh.pf [1]
 refine dN [.slice t d.length s] 6 di Tryz.sizeOf31 ?_
 intro fB aP
 refine nt (FU (sr (Kz (vP g 6) (Lz (.slice t d.length s) aP 0 H8 (Kz (vJ d.length) (Mn rfl (bo ?_)))))))
 have dm:=aP.pb [1]
 have dn:=(dm.sepNil).pick [1,2,3,4,5,6,0] f3 rfl
 refine Wp.loop (ι:=Nat × (List aZ)) (fun i=> [(39,vJ i.1),(38,vJ d.length),(37, .slice t d.length s),(36,vP g 6),(35,vP g 6),(34, .slice t d.length s),(33, .slice J a.aI.ls.length K),(32,vP g 6),(17, .bool (decide (((p:Nat):Int) < ((b.length:Nat):Int)))),(16,vJ p),(15,vJ b.length),(14, .slice n b.length z),(13,vP g 5),(12,vP g 5),(11, .slice n b.length z),(10, .slice E a.aj.ls.length F),(9,vP g 5),(8,vP g 4),(7, .slice G a.ag.ls.length I),(6, .slice B a.ag.ls.length C),(5,vP g 4),(2,vP R 0),(1,vP g 0),(0, .agg #[vI a.av,vU a.ax,vU a.bf,vU a.aK, .slice B a.ag.ls.length C, .slice E a.aj.ls.length F, .slice J a.aI.ls.length K])]) (fun(i:Nat × (List aZ)) w'=>Own w D w' [blk g [vI a.av,vU a.ax,vU a.bf,vU a.aK, .slice G a.ag.ls.length I, .slice n b.length z, .slice t d.length s] 33,row G a.ag.ls.length I (q6 bv.cells a.ag.ls) 89 2,blk R [vI 0, .int .u64 0, .int .u64 0, .int .u64 0, .slice none 0 0, .slice none 0 0, .slice none 0 0] 33,row n b.length z (q6 aA.cells u) 60 5,sepL (q6 aA.own u),row t d.length s (q6 aZ.cells (i.2++r6 i.1 d)) 56 4,sepL (q6 aZ.own i.2)]∧(i.1≤d.length∧i.2.length=i.1∧s8 aZ.abs i.2=s8 aZ.abs (r5 i.1 d))) (fun i=>d.length - i.1) (0, []) ⟨rfl,rfl,rfl,rfl,rfl,rfl,rfl,rfl,rfl,rfl,rfl,rfl,rfl,rfl,rfl,rfl,rfl,rfl,rfl,rfl,rfl,rfl,rfl,rfl,trivial⟩ ⟨dn,(show 0≤d.length∧s2 ([])=0∧s8 aZ.abs ([])=s8 aZ.abs (r5 0 d) from ⟨e6,rfl,rfl⟩)⟩ ?_
 rintro ⟨l,r⟩ fC ⟨aQ,W⟩
 replace W:l≤d.length∧r.length=l∧s8 aZ.abs r=s8 aZ.abs (r5 l d):=W
 obtain⟨eG,aC,Z⟩:=W
 refine sr (Kz (.bool (decide (((l:Nat):Int) < ((d.length:Nat):Int)))) (nt (FU ?_)))
 by_cases aR:((l:Nat):Int) < ((d.length:Nat):Int)
 refine jT (dT aR) (sk (FU (bo (sr (Mz rfl (An rfl ?_))))))
 obtain⟨h,L⟩:∃ q,d[l]? =some q:=⟨_,s5 e6⟩
 have X:(r++r6 l d)[l]? =some h:=yf e6 L
 have eH:=(Q _ (E0 L)).2.1
 have eO:h.ah.ls.length≤1000000:=by have q9:=(bF _ (E0 (fo P L))).1; simp only [aZ.abs,s6] at q9; exact q9
 refine oJ 7 [12] (bP.block (F8 (F8 (bP.block (F8 Gh))))) aQ ?_
 intro fD dw
 refine qp g 6 0 rfl (ql 1 rfl 0 H8 rfl rfl rfl (qv 2 rfl rfl (qp g 6 3 rfl (ql 4 rfl 0 H8 rfl rfl rfl (qv 5 rfl rfl (qt (v:= .pointer (some ⟨ab t,ao t+l *4,none⟩)) 6 rfl (fun _ ⟨_,H9⟩=>FZ (lN) rfl rfl ((H9.rds (i:=5) rfl).addr (i:=l) e6) e6) (qk (.pointer (some ⟨ab t,ao t+l *4+3,none⟩)) 7 rfl (qt (v:= .slice h.ah.A h.ah.ls.length h.ah.c) 8 rfl (fun _ ⟨_,H9⟩=>F5 rfl (bZ.one Tryz.isAgg40 (((H9.rds (i:=5) rfl).elem aZ.len X f3).at_ (k:=3) rfl))) ?_))))))))
 obtain⟨fE,bz,au,bA,eP⟩:=FY dw
 refine qd 9 rfl (Gd Tryz.call48 rfl (BD _ _ h.ah.A h.ah.ls.length h.ah.c h.ah.ls (s8 af.abs h.ah.ls) bz rfl (au _ (Q _ (E0 L)).1) (fun x9 h9=>⟨au _ ((Q _ (E0 L)).2.2 x9 h9).1,((Q _ (E0 L)).2.2 x9 h9).2⟩) (by simp only [s6]) (by simp only [s6]; omega) (by have q9:=(bF _ (E0 (fo P L))).2; simp only [aZ.abs] at q9; exact q9)) ?_)
 rintro _ fH ⟨M,N,O,rfl,bB,bC⟩
 have dx:=bA _ _ bB
 have aS:=dx.pb [0,1]
 refine⟨.inr ⟨_,aS⟩, ?_⟩
 refine qt (v:= .pointer (some ⟨ab t,ao t+l *4,none⟩)) 10 rfl (fun _ ⟨_,H9⟩=>FZ (lN) rfl rfl ((H9.rds (i:=5) rfl).addr (i:=l) e6) e6) (qk (.pointer (some ⟨ab t,ao t+l *4+3,none⟩)) 11 rfl ?_)
 have dz:=aS.pf [5]
 refine qe 12 rfl (Do.storeRow (vs:= [.slice M O.length N]) (o:=l *4+3) (q:=ao t+l *4+3) dz rfl e6 rfl Tryz.sizeOf40 rfl rfl (JM rfl) (iK aZ.len X (JM rfl)) (jE (y:=(aZ.mk h.aS h.ax h.aU (H5 M N O))) aZ.len rfl (JM rfl) X) ?_)
 intro dA dB
 refine⟨.inl e7, ?_⟩
 refine qn (bN (FW (FT (fw (vJ (l+1)) (FV (e:=C7.wrap (((l:Nat):Int)+1)) yk f1) (Mz rfl (WL.nil ?_))))))
 have dD:=dB.px [7,8,6] [] [0]
 have dE:Own w D dA (sepL (q6 aZ.own (r++ [(aZ.mk h.aS h.ax h.aU (H5 M N O))]))::_):=wS (f:=aZ.own) (es:=r) (y:=(aZ.mk h.aS h.ax h.aU (H5 M N O))) dD
 have aT:=dE.pk [1,2,3,4,5,6,0]
 rw [wT _ e6 e6] at aT
 exact F9 (l+1,r++ [(aZ.mk h.aS h.ax h.aU (H5 M N O))]) ⟨rfl,rfl,rfl,rfl,rfl,rfl,rfl,rfl,rfl,rfl,rfl,rfl,rfl,rfl,rfl,rfl,rfl,rfl,rfl,rfl,rfl,rfl,rfl,rfl,trivial⟩ ⟨aT,(show (l+1)≤d.length∧s2 (r++ [(aZ.mk h.aS h.ax h.aU (H5 M N O))])=(l+1)∧s8 aZ.abs (r++ [(aZ.mk h.aS h.ax h.aU (H5 M N O))])=s8 aZ.abs (r5 (l+1) d) from ⟨e6,by simp [aC],wU (f:=aZ.abs) Z L (by simp only [aZ.abs]; rw [bC])⟩)⟩ (by show d.length - (l+1) < d.length - l; omega)
 refine jF (dF aR) (Wp.exit (F4 (F4 (Gg (FW (sr ?_))))))
 have av:s8 aZ.abs r=a.aI.ls:=by rw [Z,H0 e6]; exact P
 have ax:=aQ
 rw [H3 e6,s9] at ax
 have eQ:=az av
 refine La ([vI a.av,vU a.ax,vU a.bf,vU a.aK, .slice G a.ag.ls.length I, .slice n b.length z, .slice t d.length s]) ax 0 Tryz.isAgg33 I0 ?_
 have dG:=ax.pf [2]
 refine dN [vI a.av,vU a.ax,vU a.bf,vU a.aK, .slice G a.ag.ls.length I, .slice n b.length z, .slice t d.length s] 0 dG I0 ?_
 intro aU aV
 refine nt (rt (Fin.res (mZ rfl rfl (Gc (cs:= [vI a.av,vU a.ax,vU a.bf,vU a.aK, .slice G a.ag.ls.length I, .slice n b.length z, .slice t d.length s]) Tryz.isAgg33 I0 ((aV.cls (i:=0) rfl).lit (k:=0) (m:=7) rfl))) ?_))
 have ay:b.length=a.aj.ls.length:=by first | omega | (simp only [H6]; done) | (simp only [H6,p5,s3,G1,p3,p4,H7]; omega)
 have dH:Own w D aU [blk R [vI a.av,vU a.ax,vU a.bf,vU a.aK, .slice G a.ag.ls.length I, .slice n a.aj.ls.length z, .slice t d.length s] 33,blk g [vI a.av,vU a.ax,vU a.bf,vU a.aK, .slice G a.ag.ls.length I, .slice n a.aj.ls.length z, .slice t d.length s] 33,row G a.ag.ls.length I (q6 bv.cells a.ag.ls) 89 2,row n a.aj.ls.length z (q6 aA.cells u) 60 5,sepL (q6 aA.own u),row t d.length s (q6 aZ.cells r) 56 4,sepL (q6 aZ.own r)]:=by rw [← ay]; exact aV
 have aB:d.length=a.aI.ls.length:=by first | omega | (simp only [H6]; done) | (simp only [H6,p5,s3,G1,p3,p4,H7]; omega)
 have dI:Own w D aU [blk R [vI a.av,vU a.ax,vU a.bf,vU a.aK, .slice G a.ag.ls.length I, .slice n a.aj.ls.length z, .slice t a.aI.ls.length s] 33,blk g [vI a.av,vU a.ax,vU a.bf,vU a.aK, .slice G a.ag.ls.length I, .slice n a.aj.ls.length z, .slice t a.aI.ls.length s] 33,row G a.ag.ls.length I (q6 bv.cells a.ag.ls) 89 2,row n a.aj.ls.length z (q6 aA.cells u) 60 5,sepL (q6 aA.own u),row t a.aI.ls.length s (q6 aZ.cells r) 56 4,sepL (q6 aZ.own r)]:=by rw [← aB]; exact dH
 have dJ:=dI.px [] [0,1] []
 obtain rfl:_=a:=hr.symm.trans rfl
 exact⟨G,I,n,z,t,s,u,r,(by(first | rw [← ay] | skip); (first | rw [← aB] | skip); first | done | rfl),dJ,aO,av⟩
end Go.Proofs.YtbkagebjhbphaaaGreat
