/-
 coord: copies.
-/
import Derived.Test.YtbkagebjhbphaaaGreatCr
namespace Go.Proofs.YtbkagebjhbphaaaGreat
open IntKind renaming i64→C3
open List renaming append_nil→s6,drop→r4,drop_eq_nil_of_le→G2,flatMap→q4,getElem?_eq_getElem→p7,length→s0,length_append→o2,length_cons→s1,length_drop→o1,length_map→s3,length_nil→E7,length_replicate→H0,length_set→G4,length_take→o0,map→s5,mem_of_getElem?→D1,take→r3,take_of_length_le→G1
open Sv renaming mk→G3
open _root_.Go.Proofs.Tryz renaming isAgg30→D0,isAgg31→H1,prog→v5,sizeOf33→H2
set_option maxRecDepth 100000
open Go.RowKit
set_option linter.unusedVariables false
set_option linter.unusedSectionVars false
set_option linter.unusedSimpArgs false
def iT (l0:List aQ):(List aQ):=
 l0
theorem l8 (w D E V T h l0 U) (H:Own w D w []) (B:s5 af.abs h=l0) (W:Ro w D fun w'=>aY w' 3 E V (q4 af.cells h)) (F:∀ x ∈ h,Ro w D (fun w'=>aY w' 2 x.aj.A x.aj.ls.length (q4 aH.cells x.aj.ls))∧(x.aj.ls.length≤x.aj.c∧x.aj.ls.length≤9223372036854775807)) (X:V=l0.length) (aL:l0.length *48≤211106232532992) (Y:(∀ x ∈ l0,x.aj.ls.length≤1000000)) (hr:iT l0=U):
    Calls v5 48 #[.slice E V T] w (dA fun v w'=> ∃ B0 b0 Z,v= .slice B0 U.length b0∧Own w D w' [row B0 U.length b0 (q4 af.cells Z) 149 3,sepL (q4 af.own Z)]∧(s5 af.abs Z=U)):=by
 subst X
 have aC:=aA B
 refine cb Tryz.func48 ?_
 refine sr (Ar rfl (Mz rfl ?_))
 obtain⟨aM,G,I,J,aD⟩:=Iu H
 refine cl Tryz.call74 (o6 _ _ E _ T h h G (I _ W) e6 e6 rfl) ?_
 rintro _ aN ⟨g,j,rfl,K⟩
 have aa:=J _ _ K
 refine An rfl (Ik (sr (Mz rfl (Kz (vJ h.length) (Mn rfl (bo ?_))))))
 have ae:=aa.pf []
 have ag:=(ae.sepNil).pick [1,0] f2 rfl
 refine Wp.loop (ι:=Nat × (List af)) (fun i=> [(8,vJ i.1),(7,vJ h.length),(6, .slice g h.length j),(0, .slice g h.length j),(5, .slice g h.length j),(4, .slice E l0.length T),(2, .slice none 0 0)]) (fun(i:Nat × (List af)) w'=>Own w D w' [row g h.length j (q4 af.cells (i.2++r4 i.1 h)) 149 3,sepL (q4 af.own i.2)]∧(i.1≤h.length∧i.2.length=i.1∧s5 af.abs i.2=s5 af.abs (r3 i.1 h))) (fun i=>h.length - i.1) (0, []) ⟨rfl,rfl,rfl,rfl,rfl,rfl,rfl,trivial⟩ ⟨ag,(show 0≤h.length∧s0 ([])=0∧s5 af.abs ([])=s5 af.abs (r3 0 h) from ⟨e6,rfl,rfl⟩)⟩ ?_
 rintro ⟨b,d⟩ ah ⟨u,p⟩
 replace p:b≤h.length∧d.length=b∧s5 af.abs d=s5 af.abs (r3 b h):=p
 obtain⟨aF,C,r⟩:=p
 refine sr (Kz (.bool (decide (((b:Nat):Int) < ((h.length:Nat):Int)))) (nt (Ik ?_)))
 by_cases L:((b:Nat):Int) < ((h.length:Nat):Int)
 refine jT (dT L) (sk (Ik (bo (sr (Mz rfl (An rfl (Il ?_)))))))
 obtain⟨a,l⟩:∃ q,h[b]? =some q:=⟨_,p7 e6⟩
 have s:(d++r4 b h)[b]? =some a:=yB e6 l
 have aG:=(F _ (D1 l)).2
 have aI:a.aj.ls.length≤1000000:=by have q9:=Y _ (D1 (eY B l)); exact q9
 refine Mz rfl (Mz rfl (Mz rfl (Mz rfl (fw (.pointer (some ⟨ab g,ao g+b *3,none⟩)) (Iz (rX) rfl rfl ((u.rds (i:=0) rfl).addr (i:=b) e6) e6) (Kz (.pointer (some ⟨ab g,ao g+b *3+2,none⟩)) (fw (.slice a.aj.A a.aj.ls.length a.aj.c) (IB rfl (bJ.one Tryz.isAgg147 (((u.rds (i:=0) rfl).elem af.len s f2).at_ (k:=2) rfl))) ?_))))))
 obtain⟨aP,M,N,O,aJ⟩:=Iu u
 refine cl Tryz.call75 (kP _ _ a.aj.A a.aj.ls.length a.aj.c a.aj.ls a.aj.ls M (N _ (F _ (D1 l)).1) rfl e6 rfl) ?_
 rintro _ aR ⟨m,n,rfl,P⟩
 have Q:=O _ _ P
 refine fw (.pointer (some ⟨ab g,ao g+b *3,none⟩)) (Iz (rX) rfl rfl ((Q.rds (i:=1) rfl).addr (i:=b) e6) e6) (Kz (.pointer (some ⟨ab g,ao g+b *3+2,none⟩)) ?_)
 have ai:=Q.pf [1]
 refine Jz (Do.storeRow (vs:= [.slice m a.aj.ls.length n]) (o:=b *3+2) (q:=ao g+b *3+2) ai rfl e6 rfl Tryz.sizeOf147 rfl rfl (Lj rfl) (ja af.len s (Lj rfl)) (jJ (y:=(af.mk a.dV a.aG (G3 m n a.aj.ls))) af.len rfl (Lj rfl) s) ?_)
 intro aj ak
 refine WL.nil (bN (Iq (Il (fw (vJ (b+1)) (Ir (e:=C3.wrap (((b:Nat):Int)+1)) yk f0) (Mz rfl (WL.nil ?_))))))
 have au:=ak.pb [0]
 have av:Own w D aj [sepL (q4 af.own (d++ [(af.mk a.dV a.aG (G3 m n a.aj.ls))])),row g h.length j (q4 af.cells (List.set (d++r4 b h) b (af.mk a.dV a.aG (G3 m n a.aj.ls)))) 149 3]:=xh (f:=af.own) (es:=d) (y:=(af.mk a.dV a.aG (G3 m n a.aj.ls))) au
 have R:=av.pk [1,0]
 rw [xk _ e6 e6] at R
 exact II (b+1,d++ [(af.mk a.dV a.aG (G3 m n a.aj.ls))]) ⟨rfl,rfl,rfl,rfl,rfl,rfl,rfl,trivial⟩ ⟨R,(show (b+1)≤h.length∧s0 (d++ [(af.mk a.dV a.aG (G3 m n a.aj.ls))])=(b+1)∧s5 af.abs (d++ [(af.mk a.dV a.aG (G3 m n a.aj.ls))])=s5 af.abs (r3 (b+1) h) from ⟨e6,by simp [C],xm (f:=af.abs) r l rfl⟩)⟩ (by show h.length - (b+1) < h.length - b; omega)
 refine jF (dF L) (Wp.exit (IC (IC (IK (Iq (sr ?_))))))
 have z:s5 af.abs d=l0:=by rw [r,G1 e6]; exact B
 have S:=u
 rw [G2 e6,s6] at S
 have aK:=aA z
 refine Mz rfl (An rfl (rt (rs ?_)))
 have t:h.length=l0.length:=by first | omega | (simp only [G4]; done) | (simp only [G4,o2,s1,E7,o0,o1,H0]; omega)
 have ax:Own w D ah [row g l0.length j (q4 af.cells d) 149 3,sepL (q4 af.own d)]:=by rw [← t]; exact S
 have ay:=ax.pf []
 obtain rfl:_=l0:=hr.symm.trans rfl
 exact⟨g,j,d,(by first | rfl | (rw [← t]; done) | (rw [← t]; rfl)),ay,z⟩
theorem Ct (w D A n c d l) (H:Own w D w []) (hd:s5 af.abs d=l) (hx:Ro w D fun w'=>aY w' 3 A n (q4 af.cells d)) (hm:∀ x ∈ d,Ro w D (fun w'=>aY w' 2 x.aj.A x.aj.ls.length (q4 aH.cells x.aj.ls))∧(x.aj.ls.length≤x.aj.c∧x.aj.ls.length≤9223372036854775807)) (hn:n=l.length) (hl:l.length *48≤211106232532992) (hh:∀ x ∈ l,x.aj.ls.length≤1000000):
    Calls v5 48 #[.slice A n c] w (dA fun v w'=> ∃ B b e,v= .slice B e.length b∧Own w D w' [row B e.length b (q4 af.cells e) 149 3,sepL (q4 af.own e)]∧(s5 af.abs e=l)):=by
 refine(l8 w D A n c d l l H hd hx hm hn hl hh rfl).mono ?_
 rintro _ w' ⟨v,rfl,B,b,e,rfl,HQ,he⟩
 have hle:l.length=e.length:=by rw [← he,s3]
 rw [hle] at HQ ⊢
 exact⟨_,rfl,B,b,e,rfl,HQ,he⟩
def iq (a:bZ):bZ:=
 a
set_option maxHeartbeats 1000000 in
theorem oO (w D) (a:bZ) (B aD C E aF F b J aG K d) (Y:bZ) (H:Own w D w []) (aZ:aD=a.ag.ls.length) (bf:Ro w D fun w'=>aY w' 2 B a.ag.ls.length (q4 aM.cells a.ag.ls)) (dP:a.ag.ls.length≤C∧a.ag.ls.length≤9223372036854775807) (T:s5 ay.abs b=a.ak.ls) (bg:aF=a.ak.ls.length) (bi:Ro w D fun w'=>aY w' 5 E a.ak.ls.length (q4 ay.cells b)) (dQ:a.ak.ls.length≤F∧a.ak.ls.length≤9223372036854775807) (aa:∀ x ∈ b,Ro w D (fun w'=>aY w' 1 x.au.A x.au.ls.length (q4 (eI .i64) x.au.ls))∧(x.au.ls.length≤x.au.c∧x.au.ls.length≤9223372036854775807)) (P:s5 aS.abs d=a.aK.ls) (bn:aG=a.aK.ls.length) (bq:Ro w D fun w'=>aY w' 4 J a.aK.ls.length (q4 aS.cells d)) (dR:a.aK.ls.length≤K∧a.aK.ls.length≤9223372036854775807) (Q:∀ x ∈ d,Ro w D (fun w'=>aY w' 3 x.ah.A x.ah.ls.length (q4 af.cells x.ah.ls))∧(x.ah.ls.length≤x.ah.c∧x.ah.ls.length≤9223372036854775807)∧(∀ y1 ∈ x.ah.ls,Ro w D (fun w'=>aY w' 2 y1.aj.A y1.aj.ls.length (q4 aH.cells y1.aj.ls))∧(y1.aj.ls.length≤y1.aj.c∧y1.aj.ls.length≤9223372036854775807))) (fI:a.ag.ls.length≤1000000∧a.ak.ls.length≤1000000∧a.aK.ls.length≤1000000) (dS:(∀ x ∈ a.ak.ls,x.au.ls.length≤1000000)) (bG:(∀ x ∈ a.aK.ls,x.ah.ls.length≤1000000∧∀ y ∈ x.ah.ls,y.aj.ls.length≤1000000)) (hr:iq a=Y):
    Calls v5 20 #[.agg #[vI a.au,vU a.ax,vU a.bG,vU a.aF, .slice B aD C, .slice E aF F, .slice J aG K]] w (dA fun v w'=> ∃ aI aJ aK aL aN aO ae ag,v= .agg #[vI Y.au,vU Y.ax,vU Y.bG,vU Y.aF, .slice aI Y.ag.ls.length aJ, .slice aK Y.ak.ls.length aL, .slice aN Y.aK.ls.length aO]∧Own w D w' [row aI Y.ag.ls.length aJ (q4 aM.cells Y.ag.ls) 89 2,row aK Y.ak.ls.length aL (q4 ay.cells ae) 60 5,sepL (q4 ay.own ae),row aN Y.aK.ls.length aO (q4 aS.cells ag) 56 4,sepL (q4 aS.own ag)]∧(s5 ay.abs ae=Y.ak.ls)∧(s5 aS.abs ag=Y.aK.ls)):=by
 subst aZ bg bn
 have dN:=aA T
 have dO:=aA P
 refine cb Tryz.func20 ?_
 refine sr ?_
 refine dn [vI a.au,vU a.ax,vU a.bG,vU a.aF, .slice B a.ag.ls.length C, .slice E a.ak.ls.length F, .slice J a.aK.ls.length K] 33 H ?_
 intro g fJ dU
 refine dn [vI 0, .int .u64 0, .int .u64 0, .int .u64 0, .slice none 0 0, .slice none 0 0, .slice none 0 0] 33 dU ?_
 intro R fK bH
 refine ns (Kz (vP g 4) (Lz (.slice B a.ag.ls.length C) bH 1 Tryz.isAgg29 ?_))
 obtain⟨fM,bI,bK,bL,eT⟩:=Iu bH
 refine cl Tryz.call44 (l7 _ _ B a.ag.ls.length C a.ag.ls a.ag.ls bI (bK _ bf) rfl e6 rfl) ?_
 rintro _ fO ⟨G,I,rfl,bM⟩
 have bO:=bL _ _ bM
 have eU:=bO.rowC (i:=0) rfl
 refine Kz (vP g 4) ?_
 have dV:=bO.pf [2]
 refine df [.slice G a.ag.ls.length I] 4 dV Tryz.sizeOf29 ?_
 intro fP bP
 refine ns (Kz (vP g 5) (Lz (.slice E a.ak.ls.length F) bP 0 D0 ?_))
 obtain⟨fQ,bQ,bR,bS,eX⟩:=Iu bP
 refine cl Tryz.call45 (nY _ _ E _ F b b bQ (bR _ bi) e6 e6 rfl) ?_
 rintro _ fT ⟨n,z,rfl,bT⟩
 have dW:=bS _ _ bT
 refine Kz (vP g 5) ?_
 have dX:=dW.pf [1]
 refine df [.slice n b.length z] 5 dX Tryz.sizeOf30 ?_
 intro fU bU
 refine nt (Ik (sr (Kz (vP g 5) (Lz (.slice n b.length z) bU 0 D0 (Kz (vJ b.length) (Mn rfl (bo ?_)))))))
 have dY:=bU.pb [1]
 have dZ:=(dY.sepNil).pick [1,2,3,4,0] f2 rfl
 refine Wp.loop (ι:=Nat × (List ay)) (fun i=> [(16,vJ i.1),(15,vJ b.length),(14, .slice n b.length z),(13,vP g 5),(12,vP g 5),(11, .slice n b.length z),(10, .slice E a.ak.ls.length F),(9,vP g 5),(8,vP g 4),(7, .slice G a.ag.ls.length I),(6, .slice B a.ag.ls.length C),(5,vP g 4),(2,vP R 0),(1,vP g 0),(0, .agg #[vI a.au,vU a.ax,vU a.bG,vU a.aF, .slice B a.ag.ls.length C, .slice E a.ak.ls.length F, .slice J a.aK.ls.length K])]) (fun(i:Nat × (List ay)) w'=>Own w D w' [blk g [vI a.au,vU a.ax,vU a.bG,vU a.aF, .slice G a.ag.ls.length I, .slice n b.length z, .slice J a.aK.ls.length K] 33,row G a.ag.ls.length I (q4 aM.cells a.ag.ls) 89 2,blk R [vI 0, .int .u64 0, .int .u64 0, .int .u64 0, .slice none 0 0, .slice none 0 0, .slice none 0 0] 33,row n b.length z (q4 ay.cells (i.2++r4 i.1 b)) 60 5,sepL (q4 ay.own i.2)]∧(i.1≤b.length∧i.2.length=i.1∧s5 ay.abs i.2=s5 ay.abs (r3 i.1 b))) (fun i=>b.length - i.1) (0, []) ⟨rfl,rfl,rfl,rfl,rfl,rfl,rfl,rfl,rfl,rfl,rfl,rfl,rfl,rfl,rfl,trivial⟩ ⟨dZ,(show 0≤b.length∧s0 ([])=0∧s5 ay.abs ([])=s5 ay.abs (r3 0 b) from ⟨e6,rfl,rfl⟩)⟩ ?_
 rintro ⟨p,u⟩ fV ⟨bV,ah⟩
 replace ah:p≤b.length∧u.length=p∧s5 ay.abs u=s5 ay.abs (r3 p b):=ah
 obtain⟨eZ,bu,ai⟩:=ah
 refine sr (Kz (.bool (decide (((p:Nat):Int) < ((b.length:Nat):Int)))) (nt (Ik ?_)))
 by_cases bW:((p:Nat):Int) < ((b.length:Nat):Int)
 refine jT (dT bW) (sk (Ik (bo (sr (Mz rfl (An rfl ?_))))))
 obtain⟨j,S⟩:∃ q,b[p]? =some q:=⟨_,p7 e6⟩
 have aj:(u++r4 p b)[p]? =some j:=yB e6 S
 have fe:=(aa _ (D1 S)).2
 have fo:j.au.ls.length≤1000000:=by have q9:=dS _ (D1 (eY T S)); exact q9
 refine Ia [12] (bv.block (IE (IE (bv.block (IE IQ))))) bV ?_
 intro fZ d9
 refine qp g 5 0 rfl (ql 1 rfl 0 D0 rfl rfl rfl (qv 2 rfl rfl (qp g 5 3 rfl (ql 4 rfl 0 D0 rfl rfl rfl (qv 5 rfl rfl (qt (v:= .pointer (some ⟨ab n,ao n+p *5,none⟩)) 6 rfl (fun _ ⟨_,H9⟩=>Iz (kM) rfl rfl ((H9.rds (i:=3) rfl).addr (i:=p) e6) e6) (qk (.pointer (some ⟨ab n,ao n+p *5+4,none⟩)) 7 rfl (qt (v:= .slice j.au.A j.au.ls.length j.au.c) 8 rfl (fun _ ⟨_,H9⟩=>IB rfl (bJ.one Tryz.isAgg58 (((H9.rds (i:=3) rfl).elem ay.len aj f2).at_ (k:=4) rfl))) ?_))))))))
 obtain⟨gm,bX,bY,cu,fq⟩:=Iu d9
 refine qd 9 rfl (IP Tryz.call46 rfl (tZ _ _ j.au.A j.au.ls.length j.au.c j.au.ls j.au.ls bX (bY _ (aa _ (D1 S)).1) rfl e6 rfl) ?_)
 rintro _ gp ⟨U,V,rfl,cz⟩
 have ed:=cu _ _ cz
 have cB:=ed.pb [0]
 refine⟨.inr ⟨_,cB⟩, ?_⟩
 refine qt (v:= .pointer (some ⟨ab n,ao n+p *5,none⟩)) 10 rfl (fun _ ⟨_,H9⟩=>Iz (kM) rfl rfl ((H9.rds (i:=3) rfl).addr (i:=p) e6) e6) (qk (.pointer (some ⟨ab n,ao n+p *5+4,none⟩)) 11 rfl ?_)
 have ek:=cB.pf [3]
 refine qe 12 rfl (Do.storeRow (vs:= [.slice U j.au.ls.length V]) (o:=p *5+4) (q:=ao n+p *5+4) ek rfl e6 rfl Tryz.sizeOf58 rfl rfl (Lj rfl) (ja ay.len aj (Lj rfl)) (jJ (y:=(ay.mk j.aX j.aP j.ax j.aU (G3 U V j.au.ls))) ay.len rfl (Lj rfl) aj) ?_)
 intro eu eB
 refine⟨.inl e7, ?_⟩
 refine qn (bN (Iq (Il (fw (vJ (p+1)) (Ir (e:=C3.wrap (((p:Nat):Int)+1)) yk f0) (Mz rfl (WL.nil ?_))))))
 have eD:=eB.px [5,4] [] [0]
 have eF:Own w D eu (sepL (q4 ay.own (u++ [(ay.mk j.aX j.aP j.ax j.aU (G3 U V j.au.ls))]))::_):=xh (f:=ay.own) (es:=u) (y:=(ay.mk j.aX j.aP j.ax j.aU (G3 U V j.au.ls))) eD
 have cK:=eF.pk [1,2,3,4,0]
 rw [xk _ e6 e6] at cK
 exact II (p+1,u++ [(ay.mk j.aX j.aP j.ax j.aU (G3 U V j.au.ls))]) ⟨rfl,rfl,rfl,rfl,rfl,rfl,rfl,rfl,rfl,rfl,rfl,rfl,rfl,rfl,rfl,trivial⟩ ⟨cK,(show (p+1)≤b.length∧s0 (u++ [(ay.mk j.aX j.aP j.ax j.aU (G3 U V j.au.ls))])=(p+1)∧s5 ay.abs (u++ [(ay.mk j.aX j.aP j.ax j.aU (G3 U V j.au.ls))])=s5 ay.abs (r3 (p+1) b) from ⟨e6,by simp [bu],xm (f:=ay.abs) ai S rfl⟩)⟩ (by show b.length - (p+1) < b.length - p; omega)
 refine jF (dF bW) (Wp.exit (IC (IC (IK (Iq (sr ?_))))))
 have aP:s5 ay.abs u=a.ak.ls:=by rw [ai,G1 e6]; exact T
 have bA:=bV
 rw [G2 e6,s6] at bA
 have fu:=aA aP
 refine Kz (vP g 6) (Lz (.slice J a.aK.ls.length K) bA 0 H1 ?_)
 obtain⟨gq,cO,cZ,dh,fA⟩:=Iu bA
 refine cl Tryz.call47 (pX _ _ J _ K d d cO (cZ _ bq) e6 e6 rfl) ?_
 rintro _ gu ⟨t,s,rfl,di⟩
 have dm:=dh _ _ di
 refine Kz (vP g 6) ?_
 have dw:=dm.pf [1]
 refine df [.slice t d.length s] 6 dw Tryz.sizeOf31 ?_
 intro fB aQ
 refine nt (Ik (sr (Kz (vP g 6) (Lz (.slice t d.length s) aQ 0 H1 (Kz (vJ d.length) (Mn rfl (bo ?_)))))))
 have dx:=aQ.pb [1]
 have dz:=(dx.sepNil).pick [1,2,3,4,5,6,0] f2 rfl
 refine Wp.loop (ι:=Nat × (List aS)) (fun i=> [(39,vJ i.1),(38,vJ d.length),(37, .slice t d.length s),(36,vP g 6),(35,vP g 6),(34, .slice t d.length s),(33, .slice J a.aK.ls.length K),(32,vP g 6),(17, .bool (decide (((p:Nat):Int) < ((b.length:Nat):Int)))),(16,vJ p),(15,vJ b.length),(14, .slice n b.length z),(13,vP g 5),(12,vP g 5),(11, .slice n b.length z),(10, .slice E a.ak.ls.length F),(9,vP g 5),(8,vP g 4),(7, .slice G a.ag.ls.length I),(6, .slice B a.ag.ls.length C),(5,vP g 4),(2,vP R 0),(1,vP g 0),(0, .agg #[vI a.au,vU a.ax,vU a.bG,vU a.aF, .slice B a.ag.ls.length C, .slice E a.ak.ls.length F, .slice J a.aK.ls.length K])]) (fun(i:Nat × (List aS)) w'=>Own w D w' [blk g [vI a.au,vU a.ax,vU a.bG,vU a.aF, .slice G a.ag.ls.length I, .slice n b.length z, .slice t d.length s] 33,row G a.ag.ls.length I (q4 aM.cells a.ag.ls) 89 2,blk R [vI 0, .int .u64 0, .int .u64 0, .int .u64 0, .slice none 0 0, .slice none 0 0, .slice none 0 0] 33,row n b.length z (q4 ay.cells u) 60 5,sepL (q4 ay.own u),row t d.length s (q4 aS.cells (i.2++r4 i.1 d)) 56 4,sepL (q4 aS.own i.2)]∧(i.1≤d.length∧i.2.length=i.1∧s5 aS.abs i.2=s5 aS.abs (r3 i.1 d))) (fun i=>d.length - i.1) (0, []) ⟨rfl,rfl,rfl,rfl,rfl,rfl,rfl,rfl,rfl,rfl,rfl,rfl,rfl,rfl,rfl,rfl,rfl,rfl,rfl,rfl,rfl,rfl,rfl,rfl,trivial⟩ ⟨dz,(show 0≤d.length∧s0 ([])=0∧s5 aS.abs ([])=s5 aS.abs (r3 0 d) from ⟨e6,rfl,rfl⟩)⟩ ?_
 rintro ⟨l,r⟩ fC ⟨aR,W⟩
 replace W:l≤d.length∧r.length=l∧s5 aS.abs r=s5 aS.abs (r3 l d):=W
 obtain⟨eG,aC,Z⟩:=W
 refine sr (Kz (.bool (decide (((l:Nat):Int) < ((d.length:Nat):Int)))) (nt (Ik ?_)))
 by_cases aT:((l:Nat):Int) < ((d.length:Nat):Int)
 refine jT (dT aT) (sk (Ik (bo (sr (Mz rfl (An rfl ?_))))))
 obtain⟨h,L⟩:∃ q,d[l]? =some q:=⟨_,p7 e6⟩
 have X:(r++r4 l d)[l]? =some h:=yB e6 L
 have eH:=(Q _ (D1 L)).2.1
 have eO:h.ah.ls.length≤1000000:=by have q9:=(bG _ (D1 (eY P L))).1; simp only [aS.abs,s3] at q9; exact q9
 refine oV 7 [12] (bv.block (IE (IE (bv.block (IE IQ))))) aR ?_
 intro fD dB
 refine qp g 6 0 rfl (ql 1 rfl 0 H1 rfl rfl rfl (qv 2 rfl rfl (qp g 6 3 rfl (ql 4 rfl 0 H1 rfl rfl rfl (qv 5 rfl rfl (qt (v:= .pointer (some ⟨ab t,ao t+l *4,none⟩)) 6 rfl (fun _ ⟨_,H9⟩=>Iz (lW) rfl rfl ((H9.rds (i:=5) rfl).addr (i:=l) e6) e6) (qk (.pointer (some ⟨ab t,ao t+l *4+3,none⟩)) 7 rfl (qt (v:= .slice h.ah.A h.ah.ls.length h.ah.c) 8 rfl (fun _ ⟨_,H9⟩=>IB rfl (bJ.one Tryz.isAgg40 (((H9.rds (i:=5) rfl).elem aS.len X f2).at_ (k:=3) rfl))) ?_))))))))
 obtain⟨fE,bB,au,bC,eP⟩:=Iu dB
 refine qd 9 rfl (IP Tryz.call48 rfl (Ct _ _ h.ah.A h.ah.ls.length h.ah.c h.ah.ls (s5 af.abs h.ah.ls) bB rfl (au _ (Q _ (D1 L)).1) (fun x9 h9=>⟨au _ ((Q _ (D1 L)).2.2 x9 h9).1,((Q _ (D1 L)).2.2 x9 h9).2⟩) (by simp only [s3]) (by simp only [s3]; omega) (by have q9:=(bG _ (D1 (eY P L))).2; simp only [aS.abs] at q9; exact q9)) ?_)
 rintro _ fH ⟨M,N,O,rfl,bD,bE⟩
 have dC:=bC _ _ bD
 have aU:=dC.pb [0,1]
 refine⟨.inr ⟨_,aU⟩, ?_⟩
 refine qt (v:= .pointer (some ⟨ab t,ao t+l *4,none⟩)) 10 rfl (fun _ ⟨_,H9⟩=>Iz (lW) rfl rfl ((H9.rds (i:=5) rfl).addr (i:=l) e6) e6) (qk (.pointer (some ⟨ab t,ao t+l *4+3,none⟩)) 11 rfl ?_)
 have dD:=aU.pf [5]
 refine qe 12 rfl (Do.storeRow (vs:= [.slice M O.length N]) (o:=l *4+3) (q:=ao t+l *4+3) dD rfl e6 rfl Tryz.sizeOf40 rfl rfl (Lj rfl) (ja aS.len X (Lj rfl)) (jJ (y:=(aS.mk h.aP h.ax h.aU (G3 M N O))) aS.len rfl (Lj rfl) X) ?_)
 intro dE dG
 refine⟨.inl e7, ?_⟩
 refine qn (bN (Iq (Il (fw (vJ (l+1)) (Ir (e:=C3.wrap (((l:Nat):Int)+1)) yk f0) (Mz rfl (WL.nil ?_))))))
 have dH:=dG.px [7,8,6] [] [0]
 have dI:Own w D dE (sepL (q4 aS.own (r++ [(aS.mk h.aP h.ax h.aU (G3 M N O))]))::_):=xh (f:=aS.own) (es:=r) (y:=(aS.mk h.aP h.ax h.aU (G3 M N O))) dH
 have aV:=dI.pk [1,2,3,4,5,6,0]
 rw [xk _ e6 e6] at aV
 exact II (l+1,r++ [(aS.mk h.aP h.ax h.aU (G3 M N O))]) ⟨rfl,rfl,rfl,rfl,rfl,rfl,rfl,rfl,rfl,rfl,rfl,rfl,rfl,rfl,rfl,rfl,rfl,rfl,rfl,rfl,rfl,rfl,rfl,rfl,trivial⟩ ⟨aV,(show (l+1)≤d.length∧s0 (r++ [(aS.mk h.aP h.ax h.aU (G3 M N O))])=(l+1)∧s5 aS.abs (r++ [(aS.mk h.aP h.ax h.aU (G3 M N O))])=s5 aS.abs (r3 (l+1) d) from ⟨e6,by simp [aC],xm (f:=aS.abs) Z L (by simp only [aS.abs]; rw [bE])⟩)⟩ (by show d.length - (l+1) < d.length - l; omega)
 refine jF (dF aT) (Wp.exit (IC (IC (IK (Iq (sr ?_))))))
 have av:s5 aS.abs r=a.aK.ls:=by rw [Z,G1 e6]; exact P
 have ax:=aR
 rw [G2 e6,s6] at ax
 have eQ:=aA av
 refine La ([vI a.au,vU a.ax,vU a.bG,vU a.aF, .slice G a.ag.ls.length I, .slice n b.length z, .slice t d.length s]) ax 0 Tryz.isAgg33 H2 ?_
 have dJ:=ax.pf [2]
 refine df [vI a.au,vU a.ax,vU a.bG,vU a.aF, .slice G a.ag.ls.length I, .slice n b.length z, .slice t d.length s] 0 dJ H2 ?_
 intro aW aX
 refine nt (rt (Fin.res (oo rfl rfl (IJ (cs:= [vI a.au,vU a.ax,vU a.bG,vU a.aF, .slice G a.ag.ls.length I, .slice n b.length z, .slice t d.length s]) Tryz.isAgg33 H2 ((aX.cls (i:=0) rfl).lit (k:=0) (m:=7) rfl))) ?_))
 have az:b.length=a.ak.ls.length:=by first | omega | (simp only [G4]; done) | (simp only [G4,o2,s1,E7,o0,o1,H0]; omega)
 have dK:Own w D aW [blk R [vI a.au,vU a.ax,vU a.bG,vU a.aF, .slice G a.ag.ls.length I, .slice n a.ak.ls.length z, .slice t d.length s] 33,blk g [vI a.au,vU a.ax,vU a.bG,vU a.aF, .slice G a.ag.ls.length I, .slice n a.ak.ls.length z, .slice t d.length s] 33,row G a.ag.ls.length I (q4 aM.cells a.ag.ls) 89 2,row n a.ak.ls.length z (q4 ay.cells u) 60 5,sepL (q4 ay.own u),row t d.length s (q4 aS.cells r) 56 4,sepL (q4 aS.own r)]:=by rw [← az]; exact aX
 have aB:d.length=a.aK.ls.length:=by first | omega | (simp only [G4]; done) | (simp only [G4,o2,s1,E7,o0,o1,H0]; omega)
 have dL:Own w D aW [blk R [vI a.au,vU a.ax,vU a.bG,vU a.aF, .slice G a.ag.ls.length I, .slice n a.ak.ls.length z, .slice t a.aK.ls.length s] 33,blk g [vI a.au,vU a.ax,vU a.bG,vU a.aF, .slice G a.ag.ls.length I, .slice n a.ak.ls.length z, .slice t a.aK.ls.length s] 33,row G a.ag.ls.length I (q4 aM.cells a.ag.ls) 89 2,row n a.ak.ls.length z (q4 ay.cells u) 60 5,sepL (q4 ay.own u),row t a.aK.ls.length s (q4 aS.cells r) 56 4,sepL (q4 aS.own r)]:=by rw [← aB]; exact dK
 have dM:=dL.px [] [0,1] []
 obtain rfl:_=a:=hr.symm.trans rfl
 exact⟨G,I,n,z,t,s,u,r,(by(first | rw [← az] | skip); (first | rw [← aB] | skip); first | done | rfl),dM,aP,av⟩
end Go.Proofs.YtbkagebjhbphaaaGreat
