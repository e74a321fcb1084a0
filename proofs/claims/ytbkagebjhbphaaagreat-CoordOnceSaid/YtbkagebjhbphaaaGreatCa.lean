/-
 coord: copies.
-/
import Derived.Test.YtbkagebjhbphaaaGreatCr
namespace Go.Proofs.YtbkagebjhbphaaaGreat
open IntKind renaming i64→C5
open List renaming append_nil→s6,drop→r3,drop_eq_nil_of_le→G4,flatMap→q3,getElem?_eq_getElem→s2,length→r8,length_append→o1,length_cons→s0,length_drop→o0,length_map→s3,length_nil→F2,length_replicate→H2,length_set→H1,length_take→m9,map→s5,mem_of_getElem?→D3,take→q7,take_of_length_le→G3
open Sv renaming mk→H0
open _root_.Go.Proofs.Tryz renaming isAgg30→D2,isAgg31→H3,prog→v8,sizeOf33→H4
set_option maxRecDepth 100000
open Go.RowKit
set_option linter.unusedVariables false
set_option linter.unusedSectionVars false
set_option linter.unusedSimpArgs false
def jh (l0:List aQ):(List aQ):=
 l0
theorem mD (w D C U S d0 l0 T) (H:Own w D w []) (z:s5 ae.abs d0=l0) (V:Ro w D fun w'=>bE w' 3 C U (q3 ae.cells d0)) (E:∀ x ∈ d0,Ro w D (fun w'=>bE w' 2 x.ak.A x.ak.ls.length (q3 aI.cells x.ak.ls))∧(x.ak.ls.length≤x.ak.c∧x.ak.ls.length≤9223372036854775807)) (W:U=l0.length) (aK:l0.length *48≤211106232532992) (X:(∀ x ∈ l0,x.ak.ls.length≤1000000)) (hr:jh l0=T):
    Calls v8 48 #[.slice C U S] w (d9 fun v w'=> ∃ B0 b0 Y,v= .slice B0 T.length b0∧Own w D w' [row B0 T.length b0 (q3 ae.cells Y) 149 3,sepL (q3 ae.own Y)]∧(s5 ae.abs Y=T)):=by
 subst W
 have aA:=aB z
 refine cb Tryz.func48 ?_
 refine sr (Ar rfl (Mz rfl ?_))
 obtain⟨aL,F,G,I,aC⟩:=Ii H
 refine cl Tryz.call74 (pO _ _ C _ S d0 d0 F (G _ V) e6 e6 rfl) ?_
 rintro _ aM ⟨g,h,rfl,J⟩
 have Z:=I _ _ J
 refine An rfl (Ic (sr (Mz rfl (Kz (vJ d0.length) (Mn rfl (bo ?_))))))
 have aa:=Z.pf []
 have af:=(aa.sepNil).pick [1,0] f4 rfl
 refine Wp.loop (ι:=Nat × (List ae)) (fun i=> [(8,vJ i.1),(7,vJ d0.length),(6, .slice g d0.length h),(0, .slice g d0.length h),(5, .slice g d0.length h),(4, .slice C l0.length S),(2, .slice none 0 0)]) (fun(i:Nat × (List ae)) w'=>Own w D w' [row g d0.length h (q3 ae.cells (i.2++r3 i.1 d0)) 149 3,sepL (q3 ae.own i.2)]∧(i.1≤d0.length∧i.2.length=i.1∧s5 ae.abs i.2=s5 ae.abs (q7 i.1 d0))) (fun i=>d0.length - i.1) (0, []) ⟨rfl,rfl,rfl,rfl,rfl,rfl,rfl,trivial⟩ ⟨af,(show 0≤d0.length∧r8 ([])=0∧s5 ae.abs ([])=s5 ae.abs (q7 0 d0) from ⟨e6,rfl,rfl⟩)⟩ ?_
 rintro ⟨b,d⟩ ag ⟨t,n⟩
 replace n:b≤d0.length∧d.length=b∧s5 ae.abs d=s5 ae.abs (q7 b d0):=n
 obtain⟨aD,B,p⟩:=n
 refine sr (Kz (.bool (decide (((b:Nat):Int) < ((d0.length:Nat):Int)))) (nt (Ic ?_)))
 by_cases K:((b:Nat):Int) < ((d0.length:Nat):Int)
 refine jT (dT K) (sk (Ic (bo (sr (Mz rfl (An rfl (Ib ?_)))))))
 obtain⟨a,j⟩:∃ q,d0[b]? =some q:=⟨_,s2 e6⟩
 have r:(d++r3 b d0)[b]? =some a:=yP e6 j
 have aF:=(E _ (D3 j)).2
 have aG:a.ak.ls.length≤1000000:=by have q9:=X _ (D3 (fF z j)); exact q9
 refine Mz rfl (Mz rfl (Mz rfl (Mz rfl (fw (.pointer (some ⟨ab g,ao g+b *3,none⟩)) (Ij (sI) rfl rfl ((t.rds (i:=0) rfl).addr (i:=b) e6) e6) (Kz (.pointer (some ⟨ab g,ao g+b *3+2,none⟩)) (fw (.slice a.ak.A a.ak.ls.length a.ak.c) (Io rfl (bZ.one Tryz.isAgg147 (((t.rds (i:=0) rfl).elem ae.len r f4).at_ (k:=2) rfl))) ?_))))))
 obtain⟨aO,L,M,N,aH⟩:=Ii t
 refine cl Tryz.call75 (ll _ _ a.ak.A a.ak.ls.length a.ak.c a.ak.ls a.ak.ls L (M _ (E _ (D3 j)).1) rfl e6 rfl) ?_
 rintro _ aP ⟨l,m,rfl,O⟩
 have P:=N _ _ O
 refine fw (.pointer (some ⟨ab g,ao g+b *3,none⟩)) (Ij (sI) rfl rfl ((P.rds (i:=1) rfl).addr (i:=b) e6) e6) (Kz (.pointer (some ⟨ab g,ao g+b *3+2,none⟩)) ?_)
 have ah:=P.pf [1]
 refine Jb (Do.storeRow (vs:= [.slice l a.ak.ls.length m]) (o:=b *3+2) (q:=ao g+b *3+2) ah rfl e6 rfl Tryz.sizeOf147 rfl rfl (Le rfl) (je ae.len r (Le rfl)) (jV (y:=(ae.mk a.eF a.aT (H0 l m a.ak.ls))) ae.len rfl (Le rfl) r) ?_)
 intro ai aj
 refine WL.nil (bN (Ig (Ib (fw (vJ (b+1)) (Ie (e:=C5.wrap (((b:Nat):Int)+1)) yk f0) (Mz rfl (WL.nil ?_))))))
 have ak:=aj.pb [0]
 have au:Own w D ai [sepL (q3 ae.own (d++ [(ae.mk a.eF a.aT (H0 l m a.ak.ls))])),row g d0.length h (q3 ae.cells (List.set (d++r3 b d0) b (ae.mk a.eF a.aT (H0 l m a.ak.ls)))) 149 3]:=xE (f:=ae.own) (es:=d) (y:=(ae.mk a.eF a.aT (H0 l m a.ak.ls))) ak
 have Q:=au.pk [1,0]
 rw [xG _ e6 e6] at Q
 exact Ir (b+1,d++ [(ae.mk a.eF a.aT (H0 l m a.ak.ls))]) ⟨rfl,rfl,rfl,rfl,rfl,rfl,rfl,trivial⟩ ⟨Q,(show (b+1)≤d0.length∧r8 (d++ [(ae.mk a.eF a.aT (H0 l m a.ak.ls))])=(b+1)∧s5 ae.abs (d++ [(ae.mk a.eF a.aT (H0 l m a.ak.ls))])=s5 ae.abs (q7 (b+1) d0) from ⟨e6,by simp [B],xH (f:=ae.abs) p j rfl⟩)⟩ (by show d0.length - (b+1) < d0.length - b; omega)
 refine jF (dF K) (Wp.exit (Il (Il (IB (Ig (sr ?_))))))
 have u:s5 ae.abs d=l0:=by rw [p,G3 e6]; exact z
 have R:=t
 rw [G4 e6,s6] at R
 have aJ:=aB u
 refine Mz rfl (An rfl (rt (rs ?_)))
 have s:d0.length=l0.length:=by first | omega | (simp only [H1]; done) | (simp only [H1,o1,s0,F2,m9,o0,H2]; omega)
 have av:Own w D ag [row g l0.length h (q3 ae.cells d) 149 3,sepL (q3 ae.own d)]:=by rw [← s]; exact R
 have ax:=av.pf []
 obtain rfl:_=l0:=hr.symm.trans rfl
 exact⟨g,h,d,(by first | rfl | (rw [← s]; done) | (rw [← s]; rfl)),ax,u⟩
theorem CB (w D A n c d l) (H:Own w D w []) (hd:s5 ae.abs d=l) (hx:Ro w D fun w'=>bE w' 3 A n (q3 ae.cells d)) (hm:∀ x ∈ d,Ro w D (fun w'=>bE w' 2 x.ak.A x.ak.ls.length (q3 aI.cells x.ak.ls))∧(x.ak.ls.length≤x.ak.c∧x.ak.ls.length≤9223372036854775807)) (hn:n=l.length) (hl:l.length *48≤211106232532992) (hh:∀ x ∈ l,x.ak.ls.length≤1000000):
    Calls v8 48 #[.slice A n c] w (d9 fun v w'=> ∃ B b e,v= .slice B e.length b∧Own w D w' [row B e.length b (q3 ae.cells e) 149 3,sepL (q3 ae.own e)]∧(s5 ae.abs e=l)):=by
 refine(mD w D A n c d l l H hd hx hm hn hl hh rfl).mono ?_
 rintro _ w' ⟨v,rfl,B,b,e,rfl,HQ,he⟩
 have hle:l.length=e.length:=by rw [← he,s3]
 rw [hle] at HQ ⊢
 exact⟨_,rfl,B,b,e,rfl,HQ,he⟩
def gW (a:cZ):cZ:=
 a
set_option maxHeartbeats 1000000 in
theorem nN (w D) (a:cZ) (B aD C E aF F b J aG K d) (Y:cZ) (H:Own w D w []) (aX:aD=a.ag.ls.length) (aZ:Ro w D fun w'=>bE w' 2 B a.ag.ls.length (q3 aY.cells a.ag.ls)) (dM:a.ag.ls.length≤C∧a.ag.ls.length≤9223372036854775807) (T:s5 aC.abs b=a.aj.ls) (bf:aF=a.aj.ls.length) (bg:Ro w D fun w'=>bE w' 5 E a.aj.ls.length (q3 aC.cells b)) (dN:a.aj.ls.length≤F∧a.aj.ls.length≤9223372036854775807) (aa:∀ x ∈ b,Ro w D (fun w'=>bE w' 1 x.au.A x.au.ls.length (q3 (eI .i64) x.au.ls))∧(x.au.ls.length≤x.au.c∧x.au.ls.length≤9223372036854775807)) (P:s5 aU.abs d=a.aF.ls) (bi:aG=a.aF.ls.length) (bn:Ro w D fun w'=>bE w' 4 J a.aF.ls.length (q3 aU.cells d)) (dO:a.aF.ls.length≤K∧a.aF.ls.length≤9223372036854775807) (Q:∀ x ∈ d,Ro w D (fun w'=>bE w' 3 x.ai.A x.ai.ls.length (q3 ae.cells x.ai.ls))∧(x.ai.ls.length≤x.ai.c∧x.ai.ls.length≤9223372036854775807)∧(∀ y1 ∈ x.ai.ls,Ro w D (fun w'=>bE w' 2 y1.ak.A y1.ak.ls.length (q3 aI.cells y1.ak.ls))∧(y1.ak.ls.length≤y1.ak.c∧y1.ak.ls.length≤9223372036854775807))) (fI:a.ag.ls.length≤1000000∧a.aj.ls.length≤1000000∧a.aF.ls.length≤1000000) (dP:(∀ x ∈ a.aj.ls,x.au.ls.length≤1000000)) (bF:(∀ x ∈ a.aF.ls,x.ai.ls.length≤1000000∧∀ y ∈ x.ai.ls,y.ak.ls.length≤1000000)) (hr:gW a=Y):
    Calls v8 20 #[.agg #[vI a.au,vU a.av,vU a.aV,vU a.aL, .slice B aD C, .slice E aF F, .slice J aG K]] w (d9 fun v w'=> ∃ aH aJ aK aL aM aN af ag,v= .agg #[vI Y.au,vU Y.av,vU Y.aV,vU Y.aL, .slice aH Y.ag.ls.length aJ, .slice aK Y.aj.ls.length aL, .slice aM Y.aF.ls.length aN]∧Own w D w' [row aH Y.ag.ls.length aJ (q3 aY.cells Y.ag.ls) 89 2,row aK Y.aj.ls.length aL (q3 aC.cells af) 60 5,sepL (q3 aC.own af),row aM Y.aF.ls.length aN (q3 aU.cells ag) 56 4,sepL (q3 aU.own ag)]∧(s5 aC.abs af=Y.aj.ls)∧(s5 aU.abs ag=Y.aF.ls)):=by
 subst aX bf bi
 have dK:=aB T
 have dL:=aB P
 refine cb Tryz.func20 ?_
 refine sr ?_
 refine dV [vI a.au,vU a.av,vU a.aV,vU a.aL, .slice B a.ag.ls.length C, .slice E a.aj.ls.length F, .slice J a.aF.ls.length K] 33 H ?_
 intro g fJ dQ
 refine dV [vI 0, .int .u64 0, .int .u64 0, .int .u64 0, .slice none 0 0, .slice none 0 0, .slice none 0 0] 33 dQ ?_
 intro R fK bG
 refine ns (Kz (vP g 4) (Lz (.slice B a.ag.ls.length C) bG 1 Tryz.isAgg29 ?_))
 obtain⟨fM,bH,bI,bJ,eT⟩:=Ii bG
 refine cl Tryz.call44 (mr _ _ B a.ag.ls.length C a.ag.ls a.ag.ls bH (bI _ aZ) rfl e6 rfl) ?_
 rintro _ fO ⟨G,I,rfl,bK⟩
 have bL:=bJ _ _ bK
 have eU:=bL.rowC (i:=0) rfl
 refine Kz (vP g 4) ?_
 have dR:=bL.pf [2]
 refine dS [.slice G a.ag.ls.length I] 4 dR Tryz.sizeOf29 ?_
 intro fP bM
 refine ns (Kz (vP g 5) (Lz (.slice E a.aj.ls.length F) bM 0 D2 ?_))
 obtain⟨fQ,bO,bP,bR,eX⟩:=Ii bM
 refine cl Tryz.call45 (oO _ _ E _ F b b bO (bP _ bg) e6 e6 rfl) ?_
 rintro _ fT ⟨n,z,rfl,bS⟩
 have dU:=bR _ _ bS
 refine Kz (vP g 5) ?_
 have dW:=dU.pf [1]
 refine dS [.slice n b.length z] 5 dW Tryz.sizeOf30 ?_
 intro fU bT
 refine nt (Ic (sr (Kz (vP g 5) (Lz (.slice n b.length z) bT 0 D2 (Kz (vJ b.length) (Mn rfl (bo ?_)))))))
 have dX:=bT.pb [1]
 have dY:=(dX.sepNil).pick [1,2,3,4,0] f4 rfl
 refine Wp.loop (ι:=Nat × (List aC)) (fun i=> [(16,vJ i.1),(15,vJ b.length),(14, .slice n b.length z),(13,vP g 5),(12,vP g 5),(11, .slice n b.length z),(10, .slice E a.aj.ls.length F),(9,vP g 5),(8,vP g 4),(7, .slice G a.ag.ls.length I),(6, .slice B a.ag.ls.length C),(5,vP g 4),(2,vP R 0),(1,vP g 0),(0, .agg #[vI a.au,vU a.av,vU a.aV,vU a.aL, .slice B a.ag.ls.length C, .slice E a.aj.ls.length F, .slice J a.aF.ls.length K])]) (fun(i:Nat × (List aC)) w'=>Own w D w' [blk g [vI a.au,vU a.av,vU a.aV,vU a.aL, .slice G a.ag.ls.length I, .slice n b.length z, .slice J a.aF.ls.length K] 33,row G a.ag.ls.length I (q3 aY.cells a.ag.ls) 89 2,blk R [vI 0, .int .u64 0, .int .u64 0, .int .u64 0, .slice none 0 0, .slice none 0 0, .slice none 0 0] 33,row n b.length z (q3 aC.cells (i.2++r3 i.1 b)) 60 5,sepL (q3 aC.own i.2)]∧(i.1≤b.length∧i.2.length=i.1∧s5 aC.abs i.2=s5 aC.abs (q7 i.1 b))) (fun i=>b.length - i.1) (0, []) ⟨rfl,rfl,rfl,rfl,rfl,rfl,rfl,rfl,rfl,rfl,rfl,rfl,rfl,rfl,rfl,trivial⟩ ⟨dY,(show 0≤b.length∧r8 ([])=0∧s5 aC.abs ([])=s5 aC.abs (q7 0 b) from ⟨e6,rfl,rfl⟩)⟩ ?_
 rintro ⟨p,u⟩ fV ⟨bU,ah⟩
 replace ah:p≤b.length∧u.length=p∧s5 aC.abs u=s5 aC.abs (q7 p b):=ah
 obtain⟨eY,bq,ai⟩:=ah
 refine sr (Kz (.bool (decide (((p:Nat):Int) < ((b.length:Nat):Int)))) (nt (Ic ?_)))
 by_cases bV:((p:Nat):Int) < ((b.length:Nat):Int)
 refine jT (dT bV) (sk (Ic (bo (sr (Mz rfl (An rfl ?_))))))
 obtain⟨j,S⟩:∃ q,b[p]? =some q:=⟨_,s2 e6⟩
 have aj:(u++r3 p b)[p]? =some j:=yP e6 S
 have eZ:=(aa _ (D3 S)).2
 have fe:j.au.ls.length≤1000000:=by have q9:=dP _ (D3 (fF T S)); exact q9
 refine Ho [12] (bQ.block (Iu (Iu (bQ.block (Iu IC))))) bU ?_
 intro fZ dZ
 refine qp g 5 0 rfl (ql 1 rfl 0 D2 rfl rfl rfl (qv 2 rfl rfl (qp g 5 3 rfl (ql 4 rfl 0 D2 rfl rfl rfl (qv 5 rfl rfl (qt (v:= .pointer (some ⟨ab n,ao n+p *5,none⟩)) 6 rfl (fun _ ⟨_,H9⟩=>Ij (kW) rfl rfl ((H9.rds (i:=3) rfl).addr (i:=p) e6) e6) (qk (.pointer (some ⟨ab n,ao n+p *5+4,none⟩)) 7 rfl (qt (v:= .slice j.au.A j.au.ls.length j.au.c) 8 rfl (fun _ ⟨_,H9⟩=>Io rfl (bZ.one Tryz.isAgg58 (((H9.rds (i:=3) rfl).elem aC.len aj f4).at_ (k:=4) rfl))) ?_))))))))
 obtain⟨gm,bW,bX,bY,fo⟩:=Ii dZ
 refine qd 9 rfl (Iz Tryz.call46 rfl (ui _ _ j.au.A j.au.ls.length j.au.c j.au.ls j.au.ls bW (bX _ (aa _ (D3 S)).1) rfl e6 rfl) ?_)
 rintro _ gp ⟨U,V,rfl,cu⟩
 have ed:=bY _ _ cu
 have cz:=ed.pb [0]
 refine⟨.inr ⟨_,cz⟩, ?_⟩
 refine qt (v:= .pointer (some ⟨ab n,ao n+p *5,none⟩)) 10 rfl (fun _ ⟨_,H9⟩=>Ij (kW) rfl rfl ((H9.rds (i:=3) rfl).addr (i:=p) e6) e6) (qk (.pointer (some ⟨ab n,ao n+p *5+4,none⟩)) 11 rfl ?_)
 have ek:=cz.pf [3]
 refine qe 12 rfl (Do.storeRow (vs:= [.slice U j.au.ls.length V]) (o:=p *5+4) (q:=ao n+p *5+4) ek rfl e6 rfl Tryz.sizeOf58 rfl rfl (Le rfl) (je aC.len aj (Le rfl)) (jV (y:=(aC.mk j.aN j.aK j.av j.aP (H0 U V j.au.ls))) aC.len rfl (Le rfl) aj) ?_)
 intro eu eB
 refine⟨.inl e7, ?_⟩
 refine qn (bN (Ig (Ib (fw (vJ (p+1)) (Ie (e:=C5.wrap (((p:Nat):Int)+1)) yk f0) (Mz rfl (WL.nil ?_))))))
 have eD:=eB.px [5,4] [] [0]
 have eF:Own w D eu (sepL (q3 aC.own (u++ [(aC.mk j.aN j.aK j.av j.aP (H0 U V j.au.ls))]))::_):=xE (f:=aC.own) (es:=u) (y:=(aC.mk j.aN j.aK j.av j.aP (H0 U V j.au.ls))) eD
 have cB:=eF.pk [1,2,3,4,0]
 rw [xG _ e6 e6] at cB
 exact Ir (p+1,u++ [(aC.mk j.aN j.aK j.av j.aP (H0 U V j.au.ls))]) ⟨rfl,rfl,rfl,rfl,rfl,rfl,rfl,rfl,rfl,rfl,rfl,rfl,rfl,rfl,rfl,trivial⟩ ⟨cB,(show (p+1)≤b.length∧r8 (u++ [(aC.mk j.aN j.aK j.av j.aP (H0 U V j.au.ls))])=(p+1)∧s5 aC.abs (u++ [(aC.mk j.aN j.aK j.av j.aP (H0 U V j.au.ls))])=s5 aC.abs (q7 (p+1) b) from ⟨e6,by simp [bq],xH (f:=aC.abs) ai S rfl⟩)⟩ (by show b.length - (p+1) < b.length - p; omega)
 refine jF (dF bV) (Wp.exit (Il (Il (IB (Ig (sr ?_))))))
 have aO:s5 aC.abs u=a.aj.ls:=by rw [ai,G3 e6]; exact T
 have bv:=bU
 rw [G4 e6,s6] at bv
 have fq:=aB aO
 refine Kz (vP g 6) (Lz (.slice J a.aF.ls.length K) bv 0 H3 ?_)
 obtain⟨gq,cK,cO,df,fu⟩:=Ii bv
 refine cl Tryz.call47 (qz _ _ J _ K d d cK (cO _ bn) e6 e6 rfl) ?_
 rintro _ gu ⟨t,s,rfl,dh⟩
 have di:=df _ _ dh
 refine Kz (vP g 6) ?_
 have dm:=di.pf [1]
 refine dS [.slice t d.length s] 6 dm Tryz.sizeOf31 ?_
 intro fA aP
 refine nt (Ic (sr (Kz (vP g 6) (Lz (.slice t d.length s) aP 0 H3 (Kz (vJ d.length) (Mn rfl (bo ?_)))))))
 have dn:=aP.pb [1]
 have dw:=(dn.sepNil).pick [1,2,3,4,5,6,0] f4 rfl
 refine Wp.loop (ι:=Nat × (List aU)) (fun i=> [(39,vJ i.1),(38,vJ d.length),(37, .slice t d.length s),(36,vP g 6),(35,vP g 6),(34, .slice t d.length s),(33, .slice J a.aF.ls.length K),(32,vP g 6),(17, .bool (decide (((p:Nat):Int) < ((b.length:Nat):Int)))),(16,vJ p),(15,vJ b.length),(14, .slice n b.length z),(13,vP g 5),(12,vP g 5),(11, .slice n b.length z),(10, .slice E a.aj.ls.length F),(9,vP g 5),(8,vP g 4),(7, .slice G a.ag.ls.length I),(6, .slice B a.ag.ls.length C),(5,vP g 4),(2,vP R 0),(1,vP g 0),(0, .agg #[vI a.au,vU a.av,vU a.aV,vU a.aL, .slice B a.ag.ls.length C, .slice E a.aj.ls.length F, .slice J a.aF.ls.length K])]) (fun(i:Nat × (List aU)) w'=>Own w D w' [blk g [vI a.au,vU a.av,vU a.aV,vU a.aL, .slice G a.ag.ls.length I, .slice n b.length z, .slice t d.length s] 33,row G a.ag.ls.length I (q3 aY.cells a.ag.ls) 89 2,blk R [vI 0, .int .u64 0, .int .u64 0, .int .u64 0, .slice none 0 0, .slice none 0 0, .slice none 0 0] 33,row n b.length z (q3 aC.cells u) 60 5,sepL (q3 aC.own u),row t d.length s (q3 aU.cells (i.2++r3 i.1 d)) 56 4,sepL (q3 aU.own i.2)]∧(i.1≤d.length∧i.2.length=i.1∧s5 aU.abs i.2=s5 aU.abs (q7 i.1 d))) (fun i=>d.length - i.1) (0, []) ⟨rfl,rfl,rfl,rfl,rfl,rfl,rfl,rfl,rfl,rfl,rfl,rfl,rfl,rfl,rfl,rfl,rfl,rfl,rfl,rfl,rfl,rfl,rfl,rfl,trivial⟩ ⟨dw,(show 0≤d.length∧r8 ([])=0∧s5 aU.abs ([])=s5 aU.abs (q7 0 d) from ⟨e6,rfl,rfl⟩)⟩ ?_
 rintro ⟨l,r⟩ fB ⟨aQ,W⟩
 replace W:l≤d.length∧r.length=l∧s5 aU.abs r=s5 aU.abs (q7 l d):=W
 obtain⟨eG,aA,Z⟩:=W
 refine sr (Kz (.bool (decide (((l:Nat):Int) < ((d.length:Nat):Int)))) (nt (Ic ?_)))
 by_cases aR:((l:Nat):Int) < ((d.length:Nat):Int)
 refine jT (dT aR) (sk (Ic (bo (sr (Mz rfl (An rfl ?_))))))
 obtain⟨h,L⟩:∃ q,d[l]? =some q:=⟨_,s2 e6⟩
 have X:(r++r3 l d)[l]? =some h:=yP e6 L
 have eH:=(Q _ (D3 L)).2.1
 have eO:h.ai.ls.length≤1000000:=by have q9:=(bF _ (D3 (fF P L))).1; simp only [aU.abs,s3] at q9; exact q9
 refine pU 7 [12] (bQ.block (Iu (Iu (bQ.block (Iu IC))))) aQ ?_
 intro fC dx
 refine qp g 6 0 rfl (ql 1 rfl 0 H3 rfl rfl rfl (qv 2 rfl rfl (qp g 6 3 rfl (ql 4 rfl 0 H3 rfl rfl rfl (qv 5 rfl rfl (qt (v:= .pointer (some ⟨ab t,ao t+l *4,none⟩)) 6 rfl (fun _ ⟨_,H9⟩=>Ij (l6) rfl rfl ((H9.rds (i:=5) rfl).addr (i:=l) e6) e6) (qk (.pointer (some ⟨ab t,ao t+l *4+3,none⟩)) 7 rfl (qt (v:= .slice h.ai.A h.ai.ls.length h.ai.c) 8 rfl (fun _ ⟨_,H9⟩=>Io rfl (bZ.one Tryz.isAgg40 (((H9.rds (i:=5) rfl).elem aU.len X f4).at_ (k:=3) rfl))) ?_))))))))
 obtain⟨fD,bz,au,bA,eP⟩:=Ii dx
 refine qd 9 rfl (Iz Tryz.call48 rfl (CB _ _ h.ai.A h.ai.ls.length h.ai.c h.ai.ls (s5 ae.abs h.ai.ls) bz rfl (au _ (Q _ (D3 L)).1) (fun x9 h9=>⟨au _ ((Q _ (D3 L)).2.2 x9 h9).1,((Q _ (D3 L)).2.2 x9 h9).2⟩) (by simp only [s3]) (by simp only [s3]; omega) (by have q9:=(bF _ (D3 (fF P L))).2; simp only [aU.abs] at q9; exact q9)) ?_)
 rintro _ fH ⟨M,N,O,rfl,bB,bC⟩
 have dz:=bA _ _ bB
 have aS:=dz.pb [0,1]
 refine⟨.inr ⟨_,aS⟩, ?_⟩
 refine qt (v:= .pointer (some ⟨ab t,ao t+l *4,none⟩)) 10 rfl (fun _ ⟨_,H9⟩=>Ij (l6) rfl rfl ((H9.rds (i:=5) rfl).addr (i:=l) e6) e6) (qk (.pointer (some ⟨ab t,ao t+l *4+3,none⟩)) 11 rfl ?_)
 have dA:=aS.pf [5]
 refine qe 12 rfl (Do.storeRow (vs:= [.slice M O.length N]) (o:=l *4+3) (q:=ao t+l *4+3) dA rfl e6 rfl Tryz.sizeOf40 rfl rfl (Le rfl) (je aU.len X (Le rfl)) (jV (y:=(aU.mk h.aK h.av h.aP (H0 M N O))) aU.len rfl (Le rfl) X) ?_)
 intro dB dC
 refine⟨.inl e7, ?_⟩
 refine qn (bN (Ig (Ib (fw (vJ (l+1)) (Ie (e:=C5.wrap (((l:Nat):Int)+1)) yk f0) (Mz rfl (WL.nil ?_))))))
 have dD:=dC.px [7,8,6] [] [0]
 have dE:Own w D dB (sepL (q3 aU.own (r++ [(aU.mk h.aK h.av h.aP (H0 M N O))]))::_):=xE (f:=aU.own) (es:=r) (y:=(aU.mk h.aK h.av h.aP (H0 M N O))) dD
 have aT:=dE.pk [1,2,3,4,5,6,0]
 rw [xG _ e6 e6] at aT
 exact Ir (l+1,r++ [(aU.mk h.aK h.av h.aP (H0 M N O))]) ⟨rfl,rfl,rfl,rfl,rfl,rfl,rfl,rfl,rfl,rfl,rfl,rfl,rfl,rfl,rfl,rfl,rfl,rfl,rfl,rfl,rfl,rfl,rfl,rfl,trivial⟩ ⟨aT,(show (l+1)≤d.length∧r8 (r++ [(aU.mk h.aK h.av h.aP (H0 M N O))])=(l+1)∧s5 aU.abs (r++ [(aU.mk h.aK h.av h.aP (H0 M N O))])=s5 aU.abs (q7 (l+1) d) from ⟨e6,by simp [aA],xH (f:=aU.abs) Z L (by simp only [aU.abs]; rw [bC])⟩)⟩ (by show d.length - (l+1) < d.length - l; omega)
 refine jF (dF aR) (Wp.exit (Il (Il (IB (Ig (sr ?_))))))
 have av:s5 aU.abs r=a.aF.ls:=by rw [Z,G3 e6]; exact P
 have ax:=aQ
 rw [G4 e6,s6] at ax
 have eQ:=aB av
 refine La ([vI a.au,vU a.av,vU a.aV,vU a.aL, .slice G a.ag.ls.length I, .slice n b.length z, .slice t d.length s]) ax 0 Tryz.isAgg33 H4 ?_
 have dG:=ax.pf [2]
 refine dS [vI a.au,vU a.av,vU a.aV,vU a.aL, .slice G a.ag.ls.length I, .slice n b.length z, .slice t d.length s] 0 dG H4 ?_
 intro aV aW
 refine nt (rt (Fin.res (ol rfl rfl (Iy (cs:= [vI a.au,vU a.av,vU a.aV,vU a.aL, .slice G a.ag.ls.length I, .slice n b.length z, .slice t d.length s]) Tryz.isAgg33 H4 ((aW.cls (i:=0) rfl).lit (k:=0) (m:=7) rfl))) ?_))
 have ay:b.length=a.aj.ls.length:=by first | omega | (simp only [H1]; done) | (simp only [H1,o1,s0,F2,m9,o0,H2]; omega)
 have dH:Own w D aV [blk R [vI a.au,vU a.av,vU a.aV,vU a.aL, .slice G a.ag.ls.length I, .slice n a.aj.ls.length z, .slice t d.length s] 33,blk g [vI a.au,vU a.av,vU a.aV,vU a.aL, .slice G a.ag.ls.length I, .slice n a.aj.ls.length z, .slice t d.length s] 33,row G a.ag.ls.length I (q3 aY.cells a.ag.ls) 89 2,row n a.aj.ls.length z (q3 aC.cells u) 60 5,sepL (q3 aC.own u),row t d.length s (q3 aU.cells r) 56 4,sepL (q3 aU.own r)]:=by rw [← ay]; exact aW
 have az:d.length=a.aF.ls.length:=by first | omega | (simp only [H1]; done) | (simp only [H1,o1,s0,F2,m9,o0,H2]; omega)
 have dI:Own w D aV [blk R [vI a.au,vU a.av,vU a.aV,vU a.aL, .slice G a.ag.ls.length I, .slice n a.aj.ls.length z, .slice t a.aF.ls.length s] 33,blk g [vI a.au,vU a.av,vU a.aV,vU a.aL, .slice G a.ag.ls.length I, .slice n a.aj.ls.length z, .slice t a.aF.ls.length s] 33,row G a.ag.ls.length I (q3 aY.cells a.ag.ls) 89 2,row n a.aj.ls.length z (q3 aC.cells u) 60 5,sepL (q3 aC.own u),row t a.aF.ls.length s (q3 aU.cells r) 56 4,sepL (q3 aU.own r)]:=by rw [← az]; exact dH
 have dJ:=dI.px [] [0,1] []
 obtain rfl:_=a:=hr.symm.trans rfl
 exact⟨G,I,n,z,t,s,u,r,(by(first | rw [← ay] | skip); (first | rw [← az] | skip); first | done | rfl),dJ,aO,av⟩
end Go.Proofs.YtbkagebjhbphaaaGreat
