/-
 coord: copies.
-/
import Derived.Test.YtbkagebjhbphaaaGreatCr
namespace Go.Proofs.YtbkagebjhbphaaaGreat
open IntKind renaming i64→C7
open List renaming append_nil→s9,drop→r6,drop_eq_nil_of_le→H1,flatMap→q6,getElem?_eq_getElem→s5,length→s2,length_append→p5,length_cons→s3,length_drop→p4,length_map→s6,length_nil→G1,length_replicate→H4,length_set→H3,length_take→p3,map→s8,mem_of_getElem?→E0,take→r5,take_of_length_le→H0
open Sv renaming mk→H2
open _root_.Go.Proofs.Tryz renaming isAgg30→D4,isAgg31→I0,prog→y4,sizeOf33→I1
set_option maxRecDepth 100000
open Go.RowKit
set_option linter.unusedVariables false
set_option linter.unusedSectionVars false
set_option linter.unusedSimpArgs false
def jb (l0:List aX):(List aX):=
 l0
theorem lN (w:World) (D:Nat→Prop) (E:Option Addr) (V T:Nat) (h:List af) (l0:List aX) (U:List aX) (H:Own w D w []) (B:s8 af.abs h=l0) (W:Ro w D fun w'=>bD w' 3 E V (q6 af.cells h)) (F:∀ x ∈ h,Ro w D (fun w'=>bD w' 2 x.au.A x.au.ls.length (q6 aJ.cells x.au.ls))∧(x.au.ls.length≤x.au.c∧x.au.ls.length≤9223372036854775807)) (X:V=l0.length) (aL:l0.length *48≤211106232532992) (Y:(∀ x ∈ l0,x.au.ls.length≤1000000)) (hr:jb l0=U):
    Calls y4 48 #[.slice E V T] w (dS fun v w'=> ∃ (B0:Option Addr) (b0:Nat) (Z:List af),v= .slice B0 U.length b0∧Own w D w' [row B0 U.length b0 (q6 af.cells Z) 149 3,sepL (q6 af.own Z)]∧(s8 af.abs Z=U)):=by
 subst X
 have aC:=az B
 refine cb Tryz.func48 ?_
 refine sr (Ar rfl (Mz rfl ?_))
 obtain⟨aM,G,I,J,aD⟩:=Own.enter (L1:= []) (L2:= []) H
 refine cl Tryz.call74 (ou _ _ E _ T h h G (I _ W) e6 e6 rfl) ?_
 rintro _ aN ⟨g,j,rfl,K⟩
 have aa:=J _ _ K
 refine An rfl (EP (sr (Mz rfl (Kz (vJ h.length) (Mn rfl (bo ?_))))))
 have ae:=aa.pf []
 have ag:=(ae.sepNil).pick [1,0] f3 rfl
 refine Wp.loop (ι:=Nat × (List af)) (fun i=> [(8,vJ i.1),(7,vJ h.length),(6, .slice g h.length j),(0, .slice g h.length j),(5, .slice g h.length j),(4, .slice E l0.length T),(2, .slice none 0 0)]) (fun(i:Nat × (List af)) w'=>Own w D w' [row g h.length j (q6 af.cells (i.2++r6 i.1 h)) 149 3,sepL (q6 af.own i.2)]∧(i.1≤h.length∧i.2.length=i.1∧s8 af.abs i.2=s8 af.abs (r5 i.1 h))) (fun i=>h.length - i.1) (0, []) ⟨rfl,rfl,rfl,rfl,rfl,rfl,rfl,trivial⟩ ⟨ag,(show 0≤h.length∧s2 ([])=0∧s8 af.abs ([])=s8 af.abs (r5 0 h) from ⟨e6,rfl,rfl⟩)⟩ ?_
 rintro ⟨b,d⟩ ah ⟨u,p⟩
 replace p:b≤h.length∧d.length=b∧s8 af.abs d=s8 af.abs (r5 b h):=p
 obtain⟨aF,C,r⟩:=p
 refine sr (Kz (.bool (decide (((b:Nat):Int) < ((h.length:Nat):Int)))) (nt (EP ?_)))
 by_cases L:((b:Nat):Int) < ((h.length:Nat):Int)
 refine jT (dT L) (sk (EP (bo (sr (Mz rfl (An rfl (EO ?_)))))))
 obtain⟨a,l⟩:∃ q,h[b]? =some q:=⟨_,s5 e6⟩
 have s:(d++r6 b h)[b]? =some a:=xC e6 l
 have aG:=(F _ (E0 l)).2
 have aH:a.au.ls.length≤1000000:=by have q9:=Y _ (E0 (eP B l)); exact q9
 refine Mz rfl (Mz rfl (Mz rfl (Mz rfl (fw (.pointer (some ⟨ab g,ao g+b *3,none⟩)) (ET (rf) rfl rfl ((u.rds (i:=0) rfl).addr (i:=b) e6) e6) (Kz (.pointer (some ⟨ab g,ao g+b *3+2,none⟩)) (fw (.slice a.au.A a.au.ls.length a.au.c) (EY rfl (bZ.one Tryz.isAgg147 (((u.rds (i:=0) rfl).elem af.len s f3).at_ (k:=2) rfl))) ?_))))))
 obtain⟨aP,M,N,O,aI⟩:=Own.enter (L1:= []) (L2:= [row g h.length j (q6 af.cells (d++r6 b h)) 149 3,sepL (q6 af.own d)]) u
 refine cl Tryz.call75 (kJ _ _ a.au.A a.au.ls.length a.au.c a.au.ls a.au.ls M (N _ (F _ (E0 l)).1) rfl e6 rfl) ?_
 rintro _ aQ ⟨m,n,rfl,P⟩
 have Q:=O _ _ P
 refine fw (.pointer (some ⟨ab g,ao g+b *3,none⟩)) (ET (rf) rfl rfl ((Q.rds (i:=1) rfl).addr (i:=b) e6) e6) (Kz (.pointer (some ⟨ab g,ao g+b *3+2,none⟩)) ?_)
 have ai:=Q.pf [1]
 refine F6 (Do.storeRow (vs:= [.slice m a.au.ls.length n]) (o:=b *3+2) (q:=ao g+b *3+2) ai rfl e6 rfl Tryz.sizeOf147 rfl rfl (IQ rfl) (iJ af.len s (IQ rfl)) (jw (y:=(af.mk a.dW a.aU (H2 m n a.au.ls))) af.len rfl (IQ rfl) s) ?_)
 intro aj ak
 refine WL.nil (bN (ER (EO (fw (vJ (b+1)) (EQ (e:=C7.wrap (((b:Nat):Int)+1)) yk f1) (Mz rfl (WL.nil ?_))))))
 have au:=ak.pb [0]
 have av:Own w D aj [sepL (q6 af.own (d++ [(af.mk a.dW a.aU (H2 m n a.au.ls))])),row g h.length j (q6 af.cells (List.set (d++r6 b h) b (af.mk a.dW a.aU (H2 m n a.au.ls)))) 149 3]:=wB (f:=af.own) (es:=d) (y:=(af.mk a.dW a.aU (H2 m n a.au.ls))) au
 have R:=av.pk [1,0]
 rw [wC _ e6 e6] at R
 exact E8 (b+1,d++ [(af.mk a.dW a.aU (H2 m n a.au.ls))]) ⟨rfl,rfl,rfl,rfl,rfl,rfl,rfl,trivial⟩ ⟨R,(show (b+1)≤h.length∧s2 (d++ [(af.mk a.dW a.aU (H2 m n a.au.ls))])=(b+1)∧s8 af.abs (d++ [(af.mk a.dW a.aU (H2 m n a.au.ls))])=s8 af.abs (r5 (b+1) h) from ⟨e6,by simp [C],wD (f:=af.abs) r l rfl⟩)⟩ (by show h.length - (b+1) < h.length - b; omega)
 refine jF (dF L) (Wp.exit (EX (EX (Fg (ER (sr ?_))))))
 have z:s8 af.abs d=l0:=by rw [r,H0 e6]; exact B
 have S:=u
 rw [H1 e6,s9] at S
 have aK:=az z
 refine Mz rfl (An rfl (rt (rs ?_)))
 have t:h.length=l0.length:=by first | omega | (simp only [H3]; done) | (simp only [H3,p5,s3,G1,p3,p4,H4]; omega)
 have ax:Own w D ah [row g l0.length j (q6 af.cells d) 149 3,sepL (q6 af.own d)]:=by rw [← t]; exact S
 have ay:=ax.pf []
 obtain rfl:_=l0:=hr.symm.trans rfl
 exact⟨g,j,d,(by first | rfl | (rw [← t]; done) | (rw [← t]; rfl)),ay,z⟩
theorem A9 (w:World) (D:Nat→Prop) (A:Option Addr) (n c:Nat) (d:List af) (l:List aX) (H:Own w D w []) (hd:s8 af.abs d=l) (hx:Ro w D fun w'=>bD w' 3 A n (q6 af.cells d)) (hm:∀ x ∈ d,Ro w D (fun w'=>bD w' 2 x.au.A x.au.ls.length (q6 aJ.cells x.au.ls))∧(x.au.ls.length≤x.au.c∧x.au.ls.length≤9223372036854775807)) (hn:n=l.length) (hl:l.length *48≤211106232532992) (hh:∀ x ∈ l,x.au.ls.length≤1000000):
    Calls y4 48 #[.slice A n c] w (dS fun v w'=> ∃ (B:Option Addr) (b:Nat) (e:List af),v= .slice B e.length b∧Own w D w' [row B e.length b (q6 af.cells e) 149 3,sepL (q6 af.own e)]∧(s8 af.abs e=l)):=by
 refine(lN w D A n c d l l H hd hx hm hn hl hh rfl).mono ?_
 rintro _ w' ⟨v,rfl,B,b,e,rfl,HQ,he⟩
 have hle:l.length=e.length:=by rw [← he,s6]
 rw [hle] at HQ ⊢
 exact⟨_,rfl,B,b,e,rfl,HQ,he⟩
def jh (a:dA):dA:=
 a
set_option maxHeartbeats 1000000 in
theorem oh (w:World) (D:Nat→Prop) (a:dA) (J:Option Addr) (aD K:Nat) (G:Option Addr) (aF I:Nat) (b:List ay) (E:Option Addr) (aG F:Nat) (d:List aV) (Y:dA) (H:Own w D w []) (aX:aD=a.ag.ls.length) (aY:Ro w D fun w'=>bD w' 2 J a.ag.ls.length (q6 bv.cells a.ag.ls)) (dO:a.ag.ls.length≤K∧a.ag.ls.length≤9223372036854775807) (T:s8 ay.abs b=a.aj.ls) (aZ:aF=a.aj.ls.length) (bf:Ro w D fun w'=>bD w' 5 G a.aj.ls.length (q6 ay.cells b)) (dP:a.aj.ls.length≤I∧a.aj.ls.length≤9223372036854775807) (aa:∀ x ∈ b,Ro w D (fun w'=>bD w' 1 x.ak.A x.ak.ls.length (q6 (eI .i64) x.ak.ls))∧(x.ak.ls.length≤x.ak.c∧x.ak.ls.length≤9223372036854775807)) (Q:s8 aV.abs d=a.aF.ls) (bg:aG=a.aF.ls.length) (bi:Ro w D fun w'=>bD w' 4 E a.aF.ls.length (q6 aV.cells d)) (dQ:a.aF.ls.length≤F∧a.aF.ls.length≤9223372036854775807) (R:∀ x ∈ d,Ro w D (fun w'=>bD w' 3 x.ai.A x.ai.ls.length (q6 af.cells x.ai.ls))∧(x.ai.ls.length≤x.ai.c∧x.ai.ls.length≤9223372036854775807)∧(∀ y1 ∈ x.ai.ls,Ro w D (fun w'=>bD w' 2 y1.au.A y1.au.ls.length (q6 aJ.cells y1.au.ls))∧(y1.au.ls.length≤y1.au.c∧y1.au.ls.length≤9223372036854775807))) (fI:a.ag.ls.length≤1000000∧a.aj.ls.length≤1000000∧a.aF.ls.length≤1000000) (dR:(∀ x ∈ a.aj.ls,x.ak.ls.length≤1000000)) (bF:(∀ x ∈ a.aF.ls,x.ai.ls.length≤1000000∧∀ y ∈ x.ai.ls,y.au.ls.length≤1000000)) (hr:jh a=Y):
    Calls y4 20 #[.agg #[vI a.ak,vU a.ax,vU a.bi,vU a.aI, .slice J aD K, .slice G aF I, .slice E aG F]] w (dS fun v w'=> ∃ (aH:Option Addr) (aI:Nat) (aK:Option Addr) (aL:Nat) (aM:Option Addr) (aN:Nat) (ae:List ay) (ag:List aV),v= .agg #[vI Y.ak,vU Y.ax,vU Y.bi,vU Y.aI, .slice aH Y.ag.ls.length aI, .slice aK Y.aj.ls.length aL, .slice aM Y.aF.ls.length aN]∧Own w D w' [row aH Y.ag.ls.length aI (q6 bv.cells Y.ag.ls) 89 2,row aK Y.aj.ls.length aL (q6 ay.cells ae) 60 5,sepL (q6 ay.own ae),row aM Y.aF.ls.length aN (q6 aV.cells ag) 56 4,sepL (q6 aV.own ag)]∧(s8 ay.abs ae=Y.aj.ls)∧(s8 aV.abs ag=Y.aF.ls)):=by
 subst aX aZ bg
 have dL:=az T
 have dM:=az Q
 refine cb Tryz.func20 ?_
 refine sr ?_
 refine dK [vI a.ak,vU a.ax,vU a.bi,vU a.aI, .slice J a.ag.ls.length K, .slice G a.aj.ls.length I, .slice E a.aF.ls.length F] 33 H ?_
 intro g fJ dU
 refine dK [vI 0, .int .u64 0, .int .u64 0, .int .u64 0, .slice none 0 0, .slice none 0 0, .slice none 0 0] 33 dU ?_
 intro M fK bG
 refine ns (Kz (vP g 4) (Lz (.slice J a.ag.ls.length K) bG 1 Tryz.isAgg29 ?_))
 obtain⟨fM,bH,bI,bJ,eU⟩:=EU bG
 refine cl Tryz.call44 (lM _ _ J a.ag.ls.length K a.ag.ls a.ag.ls bH (bI _ aY) rfl e6 rfl) ?_
 rintro _ fO ⟨B,C,rfl,bK⟩
 have bL:=bJ _ _ bK
 have eX:=bL.rowC (i:=0) rfl
 refine Kz (vP g 4) ?_
 have dV:=bL.pf [2]
 refine dN [.slice B a.ag.ls.length C] 4 dV Tryz.sizeOf29 ?_
 intro fP bM
 refine ns (Kz (vP g 5) (Lz (.slice G a.aj.ls.length I) bM 0 D4 ?_))
 obtain⟨fQ,bO,bQ,bR,eY⟩:=Own.enter (L1:= []) (L2:= [blk g [vI a.ak,vU a.ax,vU a.bi,vU a.aI, .slice B a.ag.ls.length C, .slice G a.aj.ls.length I, .slice E a.aF.ls.length F] 33,row B a.ag.ls.length C (q6 bv.cells a.ag.ls) 89 2,blk M [vI 0, .int .u64 0, .int .u64 0, .int .u64 0, .slice none 0 0, .slice none 0 0, .slice none 0 0] 33]) bM
 refine cl Tryz.call45 (nC _ _ G _ I b b bO (bQ _ bf) e6 e6 rfl) ?_
 rintro _ fT ⟨n,t,rfl,bS⟩
 have dW:=bR _ _ bS
 refine Kz (vP g 5) ?_
 have dX:=dW.pf [1]
 refine dN [.slice n b.length t] 5 dX Tryz.sizeOf30 ?_
 intro fU bT
 refine nt (EP (sr (Kz (vP g 5) (Lz (.slice n b.length t) bT 0 D4 (Kz (vJ b.length) (Mn rfl (bo ?_)))))))
 have dY:=bT.pb [1]
 have dZ:=(dY.sepNil).pick [1,2,3,4,0] f3 rfl
 refine Wp.loop (ι:=Nat × (List ay)) (fun i=> [(16,vJ i.1),(15,vJ b.length),(14, .slice n b.length t),(13,vP g 5),(12,vP g 5),(11, .slice n b.length t),(10, .slice G a.aj.ls.length I),(9,vP g 5),(8,vP g 4),(7, .slice B a.ag.ls.length C),(6, .slice J a.ag.ls.length K),(5,vP g 4),(2,vP M 0),(1,vP g 0),(0, .agg #[vI a.ak,vU a.ax,vU a.bi,vU a.aI, .slice J a.ag.ls.length K, .slice G a.aj.ls.length I, .slice E a.aF.ls.length F])]) (fun(i:Nat × (List ay)) w'=>Own w D w' [blk g [vI a.ak,vU a.ax,vU a.bi,vU a.aI, .slice B a.ag.ls.length C, .slice n b.length t, .slice E a.aF.ls.length F] 33,row B a.ag.ls.length C (q6 bv.cells a.ag.ls) 89 2,blk M [vI 0, .int .u64 0, .int .u64 0, .int .u64 0, .slice none 0 0, .slice none 0 0, .slice none 0 0] 33,row n b.length t (q6 ay.cells (i.2++r6 i.1 b)) 60 5,sepL (q6 ay.own i.2)]∧(i.1≤b.length∧i.2.length=i.1∧s8 ay.abs i.2=s8 ay.abs (r5 i.1 b))) (fun i=>b.length - i.1) (0, []) ⟨rfl,rfl,rfl,rfl,rfl,rfl,rfl,rfl,rfl,rfl,rfl,rfl,rfl,rfl,rfl,trivial⟩ ⟨dZ,(show 0≤b.length∧s2 ([])=0∧s8 ay.abs ([])=s8 ay.abs (r5 0 b) from ⟨e6,rfl,rfl⟩)⟩ ?_
 rintro ⟨u,p⟩ fV ⟨bU,ah⟩
 replace ah:u≤b.length∧p.length=u∧s8 ay.abs p=s8 ay.abs (r5 u b):=ah
 obtain⟨eZ,bn,ai⟩:=ah
 refine sr (Kz (.bool (decide (((u:Nat):Int) < ((b.length:Nat):Int)))) (nt (EP ?_)))
 by_cases bV:((u:Nat):Int) < ((b.length:Nat):Int)
 refine jT (dT bV) (sk (EP (bo (sr (Mz rfl (An rfl ?_))))))
 obtain⟨j,S⟩:∃ q,b[u]? =some q:=⟨_,s5 e6⟩
 have aj:(p++r6 u b)[u]? =some j:=xC e6 S
 have fe:=(aa _ (E0 S)).2
 have fo:j.ak.ls.length≤1000000:=by have q9:=dR _ (E0 (eP T S)); exact q9
 refine EH [12] (bP.block (E9 (E9 (bP.block (E9 Fp))))) bU ?_
 intro fZ d9
 refine qp g 5 0 rfl (ql 1 rfl 0 D4 rfl rfl rfl (qv 2 rfl rfl (qp g 5 3 rfl (ql 4 rfl 0 D4 rfl rfl rfl (qv 5 rfl rfl (qt (v:= .pointer (some ⟨ab n,ao n+u *5,none⟩)) 6 rfl (fun _ ⟨_,H9⟩=>ET (kv) rfl rfl ((H9.rds (i:=3) rfl).addr (i:=u) e6) e6) (qk (.pointer (some ⟨ab n,ao n+u *5+4,none⟩)) 7 rfl (qt (v:= .slice j.ak.A j.ak.ls.length j.ak.c) 8 rfl (fun _ ⟨_,H9⟩=>EY rfl (bZ.one Tryz.isAgg58 (((H9.rds (i:=3) rfl).elem ay.len aj f3).at_ (k:=4) rfl))) ?_))))))))
 obtain⟨gm,bW,bX,bY,fq⟩:=Own.enter (L1:= []) (L2:= [blk g [vI a.ak,vU a.ax,vU a.bi,vU a.aI, .slice B a.ag.ls.length C, .slice n b.length t, .slice E a.aF.ls.length F] 33,row B a.ag.ls.length C (q6 bv.cells a.ag.ls) 89 2,blk M [vI 0, .int .u64 0, .int .u64 0, .int .u64 0, .slice none 0 0, .slice none 0 0, .slice none 0 0] 33,row n b.length t (q6 ay.cells (p++r6 u b)) 60 5,sepL (q6 ay.own p)]) d9
 refine qd 9 rfl (Fe Tryz.call46 rfl (sF _ _ j.ak.A j.ak.ls.length j.ak.c j.ak.ls j.ak.ls bW (bX _ (aa _ (E0 S)).1) rfl e6 rfl) ?_)
 rintro _ gp ⟨U,V,rfl,cu⟩
 have ed:=bY _ _ cu
 have cz:=ed.pb [0]
 refine⟨.inr ⟨_,cz⟩, ?_⟩
 refine qt (v:= .pointer (some ⟨ab n,ao n+u *5,none⟩)) 10 rfl (fun _ ⟨_,H9⟩=>ET (kv) rfl rfl ((H9.rds (i:=3) rfl).addr (i:=u) e6) e6) (qk (.pointer (some ⟨ab n,ao n+u *5+4,none⟩)) 11 rfl ?_)
 have ek:=cz.pf [3]
 refine qe 12 rfl (Do.storeRow (vs:= [.slice U j.ak.ls.length V]) (o:=u *5+4) (q:=ao n+u *5+4) ek rfl e6 rfl Tryz.sizeOf58 rfl rfl (IQ rfl) (iJ ay.len aj (IQ rfl)) (jw (y:=(ay.mk j.bf j.aS j.ax j.aY (H2 U V j.ak.ls))) ay.len rfl (IQ rfl) aj) ?_)
 intro eu eB
 refine⟨.inl e7, ?_⟩
 refine qn (bN (ER (EO (fw (vJ (u+1)) (EQ (e:=C7.wrap (((u:Nat):Int)+1)) yk f1) (Mz rfl (WL.nil ?_))))))
 have eD:=eB.px [5,4] [] [0]
 have eF:Own w D eu (sepL (q6 ay.own (p++ [(ay.mk j.bf j.aS j.ax j.aY (H2 U V j.ak.ls))]))::_):=wB (f:=ay.own) (es:=p) (y:=(ay.mk j.bf j.aS j.ax j.aY (H2 U V j.ak.ls))) eD
 have cB:=eF.pk [1,2,3,4,0]
 rw [wC _ e6 e6] at cB
 exact E8 (u+1,p++ [(ay.mk j.bf j.aS j.ax j.aY (H2 U V j.ak.ls))]) ⟨rfl,rfl,rfl,rfl,rfl,rfl,rfl,rfl,rfl,rfl,rfl,rfl,rfl,rfl,rfl,trivial⟩ ⟨cB,(show (u+1)≤b.length∧s2 (p++ [(ay.mk j.bf j.aS j.ax j.aY (H2 U V j.ak.ls))])=(u+1)∧s8 ay.abs (p++ [(ay.mk j.bf j.aS j.ax j.aY (H2 U V j.ak.ls))])=s8 ay.abs (r5 (u+1) b) from ⟨e6,by simp [bn],wD (f:=ay.abs) ai S rfl⟩)⟩ (by show b.length - (u+1) < b.length - u; omega)
 refine jF (dF bV) (Wp.exit (EX (EX (Fg (ER (sr ?_))))))
 have aO:s8 ay.abs p=a.aj.ls:=by rw [ai,H0 e6]; exact T
 have bu:=bU
 rw [H1 e6,s9] at bu
 have fu:=az aO
 refine Kz (vP g 6) (Lz (.slice E a.aF.ls.length F) bu 0 I0 ?_)
 obtain⟨gq,cK,cO,cZ,fA⟩:=Own.enter (L1:= []) (L2:= [blk g [vI a.ak,vU a.ax,vU a.bi,vU a.aI, .slice B a.ag.ls.length C, .slice n b.length t, .slice E a.aF.ls.length F] 33,row B a.ag.ls.length C (q6 bv.cells a.ag.ls) 89 2,blk M [vI 0, .int .u64 0, .int .u64 0, .int .u64 0, .slice none 0 0, .slice none 0 0, .slice none 0 0] 33,row n b.length t (q6 ay.cells p) 60 5,sepL (q6 ay.own p)]) bu
 refine cl Tryz.call47 (o6 _ _ E _ F d d cK (cO _ bi) e6 e6 rfl) ?_
 rintro _ gu ⟨z,s,rfl,df⟩
 have dh:=cZ _ _ df
 refine Kz (vP g 6) ?_
 have di:=dh.pf [1]
 refine dN [.slice z d.length s] 6 di Tryz.sizeOf31 ?_
 intro fB aP
 refine nt (EP (sr (Kz (vP g 6) (Lz (.slice z d.length s) aP 0 I0 (Kz (vJ d.length) (Mn rfl (bo ?_)))))))
 have dm:=aP.pb [1]
 have dn:=(dm.sepNil).pick [1,2,3,4,5,6,0] f3 rfl
 refine Wp.loop (ι:=Nat × (List aV)) (fun i=> [(39,vJ i.1),(38,vJ d.length),(37, .slice z d.length s),(36,vP g 6),(35,vP g 6),(34, .slice z d.length s),(33, .slice E a.aF.ls.length F),(32,vP g 6),(17, .bool (decide (((u:Nat):Int) < ((b.length:Nat):Int)))),(16,vJ u),(15,vJ b.length),(14, .slice n b.length t),(13,vP g 5),(12,vP g 5),(11, .slice n b.length t),(10, .slice G a.aj.ls.length I),(9,vP g 5),(8,vP g 4),(7, .slice B a.ag.ls.length C),(6, .slice J a.ag.ls.length K),(5,vP g 4),(2,vP M 0),(1,vP g 0),(0, .agg #[vI a.ak,vU a.ax,vU a.bi,vU a.aI, .slice J a.ag.ls.length K, .slice G a.aj.ls.length I, .slice E a.aF.ls.length F])]) (fun(i:Nat × (List aV)) w'=>Own w D w' [blk g [vI a.ak,vU a.ax,vU a.bi,vU a.aI, .slice B a.ag.ls.length C, .slice n b.length t, .slice z d.length s] 33,row B a.ag.ls.length C (q6 bv.cells a.ag.ls) 89 2,blk M [vI 0, .int .u64 0, .int .u64 0, .int .u64 0, .slice none 0 0, .slice none 0 0, .slice none 0 0] 33,row n b.length t (q6 ay.cells p) 60 5,sepL (q6 ay.own p),row z d.length s (q6 aV.cells (i.2++r6 i.1 d)) 56 4,sepL (q6 aV.own i.2)]∧(i.1≤d.length∧i.2.length=i.1∧s8 aV.abs i.2=s8 aV.abs (r5 i.1 d))) (fun i=>d.length - i.1) (0, []) ⟨rfl,rfl,rfl,rfl,rfl,rfl,rfl,rfl,rfl,rfl,rfl,rfl,rfl,rfl,rfl,rfl,rfl,rfl,rfl,rfl,rfl,rfl,rfl,rfl,trivial⟩ ⟨dn,(show 0≤d.length∧s2 ([])=0∧s8 aV.abs ([])=s8 aV.abs (r5 0 d) from ⟨e6,rfl,rfl⟩)⟩ ?_
 rintro ⟨l,r⟩ fC ⟨aQ,W⟩
 replace W:l≤d.length∧r.length=l∧s8 aV.abs r=s8 aV.abs (r5 l d):=W
 obtain⟨eG,aC,Z⟩:=W
 refine sr (Kz (.bool (decide (((l:Nat):Int) < ((d.length:Nat):Int)))) (nt (EP ?_)))
 by_cases aR:((l:Nat):Int) < ((d.length:Nat):Int)
 refine jT (dT aR) (sk (EP (bo (sr (Mz rfl (An rfl ?_))))))
 obtain⟨h,L⟩:∃ q,d[l]? =some q:=⟨_,s5 e6⟩
 have X:(r++r6 l d)[l]? =some h:=xC e6 L
 have eH:=(R _ (E0 L)).2.1
 have eO:h.ai.ls.length≤1000000:=by have q9:=(bF _ (E0 (eP Q L))).1; simp only [aV.abs,s6] at q9; exact q9
 refine oF 7 [12] (bP.block (E9 (E9 (bP.block (E9 Fp))))) aQ ?_
 intro fD dw
 refine qp g 6 0 rfl (ql 1 rfl 0 I0 rfl rfl rfl (qv 2 rfl rfl (qp g 6 3 rfl (ql 4 rfl 0 I0 rfl rfl rfl (qv 5 rfl rfl (qt (v:= .pointer (some ⟨ab z,ao z+l *4,none⟩)) 6 rfl (fun _ ⟨_,H9⟩=>ET (lI) rfl rfl ((H9.rds (i:=5) rfl).addr (i:=l) e6) e6) (qk (.pointer (some ⟨ab z,ao z+l *4+3,none⟩)) 7 rfl (qt (v:= .slice h.ai.A h.ai.ls.length h.ai.c) 8 rfl (fun _ ⟨_,H9⟩=>EY rfl (bZ.one Tryz.isAgg40 (((H9.rds (i:=5) rfl).elem aV.len X f3).at_ (k:=3) rfl))) ?_))))))))
 obtain⟨fE,bz,au,bA,eQ⟩:=Own.enter (L1:= []) (L2:= [blk g [vI a.ak,vU a.ax,vU a.bi,vU a.aI, .slice B a.ag.ls.length C, .slice n b.length t, .slice z d.length s] 33,row B a.ag.ls.length C (q6 bv.cells a.ag.ls) 89 2,blk M [vI 0, .int .u64 0, .int .u64 0, .int .u64 0, .slice none 0 0, .slice none 0 0, .slice none 0 0] 33,row n b.length t (q6 ay.cells p) 60 5,sepL (q6 ay.own p),row z d.length s (q6 aV.cells (r++r6 l d)) 56 4,sepL (q6 aV.own r)]) dw
 refine qd 9 rfl (Fe Tryz.call48 rfl (A9 _ _ h.ai.A h.ai.ls.length h.ai.c h.ai.ls (s8 af.abs h.ai.ls) bz rfl (au _ (R _ (E0 L)).1) (fun x9 h9=>⟨au _ ((R _ (E0 L)).2.2 x9 h9).1,((R _ (E0 L)).2.2 x9 h9).2⟩) (by simp only [s6]) (by simp only [s6]; omega) (by have q9:=(bF _ (E0 (eP Q L))).2; simp only [aV.abs] at q9; exact q9)) ?_)
 rintro _ fH ⟨N,O,P,rfl,bB,bC⟩
 have dx:=bA _ _ bB
 have aS:=dx.pb [0,1]
 refine⟨.inr ⟨_,aS⟩, ?_⟩
 refine qt (v:= .pointer (some ⟨ab z,ao z+l *4,none⟩)) 10 rfl (fun _ ⟨_,H9⟩=>ET (lI) rfl rfl ((H9.rds (i:=5) rfl).addr (i:=l) e6) e6) (qk (.pointer (some ⟨ab z,ao z+l *4+3,none⟩)) 11 rfl ?_)
 have dz:=aS.pf [5]
 refine qe 12 rfl (Do.storeRow (vs:= [.slice N P.length O]) (o:=l *4+3) (q:=ao z+l *4+3) dz rfl e6 rfl Tryz.sizeOf40 rfl rfl (IQ rfl) (iJ aV.len X (IQ rfl)) (jw (y:=(aV.mk h.aS h.ax h.aY (H2 N O P))) aV.len rfl (IQ rfl) X) ?_)
 intro dB dC
 refine⟨.inl e7, ?_⟩
 refine qn (bN (ER (EO (fw (vJ (l+1)) (EQ (e:=C7.wrap (((l:Nat):Int)+1)) yk f1) (Mz rfl (WL.nil ?_))))))
 have dD:=dC.px [7,8,6] [] [0]
 have dE:Own w D dB (sepL (q6 aV.own (r++ [(aV.mk h.aS h.ax h.aY (H2 N O P))]))::_):=wB (f:=aV.own) (es:=r) (y:=(aV.mk h.aS h.ax h.aY (H2 N O P))) dD
 have aT:=dE.pk [1,2,3,4,5,6,0]
 rw [wC _ e6 e6] at aT
 exact E8 (l+1,r++ [(aV.mk h.aS h.ax h.aY (H2 N O P))]) ⟨rfl,rfl,rfl,rfl,rfl,rfl,rfl,rfl,rfl,rfl,rfl,rfl,rfl,rfl,rfl,rfl,rfl,rfl,rfl,rfl,rfl,rfl,rfl,rfl,trivial⟩ ⟨aT,(show (l+1)≤d.length∧s2 (r++ [(aV.mk h.aS h.ax h.aY (H2 N O P))])=(l+1)∧s8 aV.abs (r++ [(aV.mk h.aS h.ax h.aY (H2 N O P))])=s8 aV.abs (r5 (l+1) d) from ⟨e6,by simp [aC],wD (f:=aV.abs) Z L (by simp only [aV.abs]; rw [bC])⟩)⟩ (by show d.length - (l+1) < d.length - l; omega)
 refine jF (dF aR) (Wp.exit (EX (EX (Fg (ER (sr ?_))))))
 have av:s8 aV.abs r=a.aF.ls:=by rw [Z,H0 e6]; exact Q
 have ax:=aQ
 rw [H1 e6,s9] at ax
 have eT:=az av
 refine La ([vI a.ak,vU a.ax,vU a.bi,vU a.aI, .slice B a.ag.ls.length C, .slice n b.length t, .slice z d.length s]) ax 0 Tryz.isAgg33 I1 ?_
 have dG:=ax.pf [2]
 refine dN [vI a.ak,vU a.ax,vU a.bi,vU a.aI, .slice B a.ag.ls.length C, .slice n b.length t, .slice z d.length s] 0 dG I1 ?_
 intro aU aW
 refine nt (rt (Fin.res (mP rfl rfl (Fb (cs:= [vI a.ak,vU a.ax,vU a.bi,vU a.aI, .slice B a.ag.ls.length C, .slice n b.length t, .slice z d.length s]) Tryz.isAgg33 I1 ((aW.cls (i:=0) rfl).lit (k:=0) (m:=7) rfl))) ?_))
 have aA:b.length=a.aj.ls.length:=by first | omega | (simp only [H3]; done) | (simp only [H3,p5,s3,G1,p3,p4,H4]; omega)
 have dH:Own w D aU [blk M [vI a.ak,vU a.ax,vU a.bi,vU a.aI, .slice B a.ag.ls.length C, .slice n a.aj.ls.length t, .slice z d.length s] 33,blk g [vI a.ak,vU a.ax,vU a.bi,vU a.aI, .slice B a.ag.ls.length C, .slice n a.aj.ls.length t, .slice z d.length s] 33,row B a.ag.ls.length C (q6 bv.cells a.ag.ls) 89 2,row n a.aj.ls.length t (q6 ay.cells p) 60 5,sepL (q6 ay.own p),row z d.length s (q6 aV.cells r) 56 4,sepL (q6 aV.own r)]:=by rw [← aA]; exact aW
 have aB:d.length=a.aF.ls.length:=by first | omega | (simp only [H3]; done) | (simp only [H3,p5,s3,G1,p3,p4,H4]; omega)
 have dI:Own w D aU [blk M [vI a.ak,vU a.ax,vU a.bi,vU a.aI, .slice B a.ag.ls.length C, .slice n a.aj.ls.length t, .slice z a.aF.ls.length s] 33,blk g [vI a.ak,vU a.ax,vU a.bi,vU a.aI, .slice B a.ag.ls.length C, .slice n a.aj.ls.length t, .slice z a.aF.ls.length s] 33,row B a.ag.ls.length C (q6 bv.cells a.ag.ls) 89 2,row n a.aj.ls.length t (q6 ay.cells p) 60 5,sepL (q6 ay.own p),row z a.aF.ls.length s (q6 aV.cells r) 56 4,sepL (q6 aV.own r)]:=by rw [← aB]; exact dH
 have dJ:=dI.px [] [0,1] []
 obtain rfl:_=a:=hr.symm.trans rfl
 exact⟨B,C,n,t,z,s,p,r,(by(first | rw [← aA] | skip); (first | rw [← aB] | skip); first | done | rfl),dJ,aO,av⟩
end Go.Proofs.YtbkagebjhbphaaaGreat
