/-
  What a stable sort is: sorted, and of each kind of elements the same ones in the same order; there is one only.
  Swapped ranges, a range turned round. Conditions: none beyond each law's own.
-/
import Derived.Test.YtbkagebjhbphaaaGreatCa
import Derived.Test.YtbkagebjhbphaaaGreatWiX
namespace Go.Proofs.YtbkagebjhbphaaaGreat
set_option maxRecDepth 100000
open Go.RowKit
set_option linter.unusedVariables false
set_option linter.unusedSectionVars false
set_option linter.unusedSimpArgs false
def df (c:bE) (a:bM):bE:=
 bnd (iO a.ah.ls) fun b=>bE.mk (Ll.mk (c.bq.ls++ [(bM.mk a.aG a.aH a.eP a.aN a.cZ a.eu a.aO a.ay a.aU a.dW a.aX a.aL a.dH a.bZ a.xN a.d9 a.bT (Ll.mk a.aF.ls) (Ll.mk b) (Ll.mk a.ag.ls))]))
set_option maxHeartbeats 4000000 in
theorem fI (w D Q) (L:bE) (R S p T) (a:bM) (r U u z V B J C W E) (r0:bE) (H:Own w D w [blk Q [.pointer (some ⟨T,0,none⟩), .slice R L.bq.ls.length S] 98,row R L.bq.ls.length S (List.flatMap bC.cells p) 42 21,sepL (List.flatMap bC.own p)]) (G:List.map bC.abs p=L.bq.ls) (Z:U=a.aF.ls.length) (aa:Ro w D fun w'=>bA w' 6 r a.aF.ls.length (List.flatMap bv.cells a.aF.ls)) (aZ:a.aF.ls.length≤u∧a.aF.ls.length≤9223372036854775807) (M:List.map ae.abs J=a.ah.ls) (af:V=a.ah.ls.length) (ag:Ro w D fun w'=>bA w' 3 z a.ah.ls.length (List.flatMap ae.cells J)) (bf:a.ah.ls.length≤B∧a.ah.ls.length≤9223372036854775807) (N:∀ x ∈ J,Ro w D (fun w'=>bA w' 2 x.aj.A x.aj.ls.length (List.flatMap aI.cells x.aj.ls))∧(x.aj.ls.length≤x.aj.c∧x.aj.ls.length≤9223372036854775807)) (ah:W=a.ag.ls.length) (aj:Ro w D fun w'=>bA w' 2 C a.ag.ls.length (List.flatMap aW.cells a.ag.ls)) (bg:a.ag.ls.length≤E∧a.ag.ls.length≤9223372036854775807) (bZ:L.bq.ls.length≤1000000∧a.aF.ls.length≤1000000∧a.ag.ls.length≤1000000∧a.ah.ls.length≤1000000) (cu:(∀ x ∈ a.ah.ls,x.aj.ls.length≤1000000)) (hr:df L a=r0):
    Calls Tryz.prog 65 #[vP Q 0, .agg (gD a.aG a.aH a.eP a.aN a.cZ a.eu a.aO a.ay a.aU a.dW a.aX a.aL a.dH a.bZ a.xN a.d9 a.bT.bG a.bT.bU r U u z V B C W E).toArray] w (dR fun v w'=> ∃ O P I,v= .tuple #[]∧Own w D w' [blk Q [vP T 0, .slice O r0.bq.ls.length P] 98,row O r0.bq.ls.length P (List.flatMap bC.cells I) 42 21,sepL (List.flatMap bC.own I)]∧(List.map bC.abs I=r0.bq.ls)∧(r0.bq.ls.length=L.bq.ls.length+1)):=by
 subst Z af ah
 have aX:=az G
 have aY:=az M
 have bi:=H.rowC (i:=1) rfl
 refine cb Tryz.func65 ?_
 refine sr ?_
 refine dM (gT a r u z B C E) 42 H ?_
 intro K cz av
 refine ns (Kz (vP K 18) (Lz (.slice r a.aF.ls.length u) av 0 Tryz.isAgg39 ?_))
 obtain⟨cB,ax,ay,aA,bO⟩:=F3 av
 refine cl Tryz.call109 (nz _ _ r a.aF.ls.length u a.aF.ls a.aF.ls ax (ay _ aa) rfl e6 rfl) ?_
 rintro _ cK ⟨b,d,rfl,aB⟩
 have aC:=aA _ _ aB
 have bP:=aC.rowC (i:=0) rfl
 refine Kz (vP K 18) ?_
 have bn:=aC.pf [1]
 refine dN [.slice b a.aF.ls.length d] 18 bn Tryz.sizeOf39 ?_
 intro cO aD
 refine ns (Kz (vP K 20) (Lz (.slice C a.ag.ls.length E) aD 0 Tryz.isAgg29 ?_))
 obtain⟨cZ,aF,aG,aH,bQ⟩:=F3 aD
 refine cl Tryz.call44 (lU _ _ C a.ag.ls.length E a.ag.ls a.ag.ls aF (aG _ aj) rfl e6 rfl) ?_
 rintro _ dh ⟨e,g,rfl,aJ⟩
 have aK:=aH _ _ aJ
 have bR:=aK.rowC (i:=0) rfl
 refine Kz (vP K 20) ?_
 have bq:=aK.pf [1]
 refine dN [.slice e a.ag.ls.length g] 20 bq Tryz.sizeOf29 ?_
 intro di aL
 refine ns (Kz (vP K 19) (Lz (.slice z a.ah.ls.length B) aL 0 Tryz.isAgg40 ?_))
 obtain⟨l,X⟩:∃ q,iO a.ah.ls=q:=⟨_,rfl⟩
 obtain⟨dm,aM,Y,aN,bS⟩:=F3 aL
 refine cl Tryz.call48 (lV _ _ z a.ah.ls.length B J a.ah.ls l aM M (Y _ ag) (fun x9 h9=>⟨Y _ (N x9 h9).1,(N x9 h9).2⟩) rfl e6 (by first | assumption | exact dE f4 | (intro x hx; exact absurd hx List.not_mem_nil)) X) ?_
 rintro _ dn ⟨h,j,n,rfl,aO,F⟩
 have aP:=aN _ _ aO
 have bV:=az F
 have bW:=aP.rowC (i:=0) rfl
 refine Kz (vP K 19) ?_
 have bu:=aP.pf [2]
 refine dN [.slice h l.length j] 19 bu Tryz.sizeOf40 ?_
 intro dw bz
 refine nt ?_
 refine oL 8 [7,10] Gj bz ?_
 intro dx bB
 refine Gu (v:=vP Q 0) 0 rfl e7 (fun _=>F9 rfl) (qv 1 rfl rfl (qp Q 0 2 rfl (qp Q 1 3 rfl (ql 4 rfl 5 Tryz.isAgg45 rfl rfl rfl (qt (v:= .agg (gD a.aG a.aH a.eP a.aN a.cZ a.eu a.aO a.ay a.aU a.dW a.aX a.aL a.dH a.bZ a.xN a.d9 a.bT.bG a.bT.bU b a.aF.ls.length d h l.length j e a.ag.ls.length g).toArray) 5 rfl (fun _ ⟨_,H9⟩=>F7 rfl (Gf (cs:=(gD a.aG a.aH a.eP a.aN a.cZ a.eu a.aO a.ay a.aU a.dW a.aX a.aL a.dH a.bZ a.xN a.d9 a.bT.bG a.bT.bU b a.aF.ls.length d h l.length j e a.ag.ls.length g)) Tryz.isAgg42 Tryz.sizeOf42 ((H9.cls (i:=0) rfl).lit (k:=0) (m:=21) rfl))) ?_)))))
 refine qd 6 rfl (Hg (cs:=(gD a.aG a.aH a.eP a.aN a.cZ a.eu a.aO a.ay a.aU a.dW a.aX a.aL a.dH a.bZ a.xN a.d9 a.bT.bG a.bT.bU b a.aF.ls.length d h l.length j e a.ag.ls.length g)) (t:=42) (sz:=21) (m:=1) bB rfl rfl (fun _=>by kernel_rfl) rfl f3 ?_)
 intro aQ dA ak
 replace ak:=Gs (y:=row aQ 1 1 (List.flatMap bC.cells ([(bC.mk a.aG a.aH a.eP a.aN a.cZ a.eu a.aO a.ay a.aU a.dW a.aX a.aL a.dH a.bZ a.xN a.d9 a.bT (Sv.mk b d a.aF.ls) (Sv.mk h j n) (Sv.mk e g a.ag.ls))])) 42 21) (congrArg (fun z9=>row aQ 1 1 [vI a.aG,vI a.aH,vI a.eP,vI a.aN,vI a.cZ,vI a.eu,vU a.aO,vU a.ay,vU a.aU,vU a.dW,vU a.aX,vU a.aL,vU a.dH,vU a.bZ,vU a.xN, .bool a.d9, .string ⟨List.toArray a.bT.bG⟩, .string ⟨List.toArray a.bT.bU⟩, .slice b a.aF.ls.length d, .slice h z9 j, .slice e a.ag.ls.length g] 42 21) (az F).symm) ak
 have aS:=ak.pb [0]
 refine⟨.inr ⟨_,aS⟩, ?_⟩
 have aT:=aS.pf [6,7,4,1,3,2]
 refine qd 7 rfl (Gt (k:=L.bq.ls.length) (m:=1) (uD) aT rfl rfl (iU Tryz.underlying45 (aT.rds (i:=8) rfl) (fF bC.one ([(bC.mk a.aG a.aH a.eP a.aN a.cZ a.eu a.aO a.ay a.aU a.dW a.aX a.aL a.dH a.bZ a.xN a.d9 a.bT (Sv.mk b d a.aF.ls) (Sv.mk h j n) (Sv.mk e g a.ag.ls))]))) rfl e6 (s:=List.length (L.bq.ls++ [(bM.mk a.aG a.aH a.eP a.aN a.cZ a.eu a.aO a.ay a.aU a.dW a.aX a.aL a.dH a.bZ a.xN a.d9 a.bT (Ll.mk a.aF.ls) (Ll.mk l) (Ll.mk a.ag.ls))])) f7 (List.flatMap_append).symm ?_)
 intro aU aV bD bF
 have bG:=bF.pf [3]
 have bH:=GI (az F).symm bG
 have bI:=bH.pf [2,3,0,4,5]
 have bJ:Own w D bD (sepL (List.flatMap bC.own (p++ [(bC.mk a.aG a.aH a.eP a.aN a.cZ a.eu a.aO a.ay a.aU a.dW a.aX a.aL a.dH a.bZ a.xN a.d9 a.bT (Sv.mk b d a.aF.ls) (Sv.mk h j n) (Sv.mk e g a.ag.ls))]))::_):=bI.sepAdd (L2:= [row b a.aF.ls.length d (List.flatMap bv.cells a.aF.ls) 72 6,row h n.length j (List.flatMap ae.cells n) 149 3,row e a.ag.ls.length g (List.flatMap aW.cells a.ag.ls) 89 2,sepL (List.flatMap ae.own n)]) (List.flatMap_append (f:=bC.own) (xs:=p) (ys:= [(bC.mk a.aG a.aH a.eP a.aN a.cZ a.eu a.aO a.ay a.aU a.dW a.aX a.aL a.dH a.bZ a.xN a.d9 a.bT (Sv.mk b d a.aF.ls) (Sv.mk h j n) (Sv.mk e g a.ag.ls))])).symm
 have bX:List.length (L.bq.ls++ [(bM.mk a.aG a.aH a.eP a.aN a.cZ a.eu a.aO a.ay a.aU a.dW a.aX a.aL a.dH a.bZ a.xN a.d9 a.bT (Ll.mk a.aF.ls) (Ll.mk l) (Ll.mk a.ag.ls))])=L.bq.ls.length+1:=by simp only [List.length_append,List.length_cons,List.length_nil]
 have bY:=az (oG (es:= [(bC.mk a.aG a.aH a.eP a.aN a.cZ a.eu a.aO a.ay a.aU a.dW a.aX a.aL a.dH a.bZ a.xN a.d9 a.bT (Sv.mk b d a.aF.ls) (Sv.mk h j n) (Sv.mk e g a.ag.ls))]) (ms:= [(bM.mk a.aG a.aH a.eP a.aN a.cZ a.eu a.aO a.ay a.aU a.dW a.aX a.aL a.dH a.bZ a.xN a.d9 a.bT (Ll.mk a.aF.ls) (Ll.mk l) (Ll.mk a.ag.ls))]) G (congrArg (fun z9=> [bM.mk a.aG a.aH a.eP a.aN a.cZ a.eu a.aO a.ay a.aU a.dW a.aX a.aL a.dH a.bZ a.xN a.d9 a.bT (Ll.mk a.aF.ls) (Ll.mk z9) (Ll.mk a.ag.ls)]) F))
 refine⟨.inl e7, ?_⟩
 refine Gu (v:=vP Q 0) 8 rfl e7 (fun _=>yk) (Gu (v:=vP Q 1) 9 rfl e7 (fun _=>yk) ?_)
 have bK:=bJ.pf [3]
 refine qe 10 rfl (Do.store (vs:= [.slice aU (List.length (L.bq.ls++ [(bM.mk a.aG a.aH a.eP a.aN a.cZ a.eu a.aO a.ay a.aU a.dW a.aX a.aL a.dH a.bZ a.xN a.d9 a.bT (Ll.mk a.aF.ls) (Ll.mk l) (Ll.mk a.ag.ls))])) aV]) (o:=1) bK rfl rfl Tryz.sizeOf45 rfl rfl rfl rfl ?_)
 intro dB bL
 refine⟨.inl e7, ?_⟩
 refine qn (Gh (res0 rfl) ?_)
 have bN:=bL.pk [0,2,1]
 obtain rfl:_=bE.mk (Ll.mk (L.bq.ls++ [(bM.mk a.aG a.aH a.eP a.aN a.cZ a.eu a.aO a.ay a.aU a.dW a.aX a.aL a.dH a.bZ a.xN a.d9 a.bT (Ll.mk a.aF.ls) (Ll.mk l) (Ll.mk a.ag.ls))])):=hr.symm.trans (ai X)
 exact⟨aU,aV,(p++ [(bC.mk a.aG a.aH a.eP a.aN a.cZ a.eu a.aO a.ay a.aU a.dW a.aX a.aL a.dH a.bZ a.xN a.d9 a.bT (Sv.mk b d a.aF.ls) (Sv.mk h j n) (Sv.mk e g a.ag.ls))]),rfl,bN,(oG (es:= [(bC.mk a.aG a.aH a.eP a.aN a.cZ a.eu a.aO a.ay a.aU a.dW a.aX a.aL a.dH a.bZ a.xN a.d9 a.bT (Sv.mk b d a.aF.ls) (Sv.mk h j n) (Sv.mk e g a.ag.ls))]) (ms:= [(bM.mk a.aG a.aH a.eP a.aN a.cZ a.eu a.aO a.ay a.aU a.dW a.aX a.aL a.dH a.bZ a.xN a.d9 a.bT (Ll.mk a.aF.ls) (Ll.mk l) (Ll.mk a.ag.ls))]) G (congrArg (fun z9=> [bM.mk a.aG a.aH a.eP a.aN a.cZ a.eu a.aO a.ay a.aU a.dW a.aX a.aL a.dH a.bZ a.xN a.d9 a.bT (Ll.mk a.aF.ls) (Ll.mk z9) (Ll.mk a.ag.ls)]) F)),(by first | omega | (simp only [List.length_append,List.length_cons,List.length_nil]))⟩
end Go.Proofs.YtbkagebjhbphaaaGreat
namespace Go.Proofs.YtbkagebjhbphaaaGreat
open List renaming append_nil→s9,exists_mem_of_ne_nil→J0,filter_append→I0,mem_filter→I2,nil_append→I3
set_option maxRecDepth 100000
set_option linter.unusedVariables false
set_option linter.unusedSimpArgs false
section
variable {α:Type} (lt:α→α→Bool)
structure xE:Prop where
  CR:∀ x,lt x x=false
  tr:∀ x y z,lt x y=true→lt y z=true→lt x z=true
  nt:∀ x y z,lt x y=false→lt y z=false→lt x z=false
def alike (x y:α):Bool:= !lt x y && !lt y x
def rE (l m:List α):Prop:=∀ x,l.filter (alike lt x)=m.filter (alike lt x)
def Fs (l:List α):Prop:=l.Pairwise (fun x y=>lt y x=false)
variable {lt}
theorem uf {x y:α}:alike lt x y=true↔lt x y=false∧lt y x=false:=by
  unfold alike
  cases lt x y <;> cases lt y x <;> simp
theorem xE.self (h:xE lt) (x:α):alike lt x x=true:=uf.2 ⟨h.CR x,h.CR x⟩
theorem xE.to (h:xE lt) {x y z:α} (a:alike lt x y=true) (b:alike lt x z=true):alike lt y z=true:=by
  obtain⟨c,d⟩:=uf.1 a
  obtain⟨e,f⟩:=uf.1 b
  exact uf.2 ⟨h.nt y x z d e,h.nt z x y f c⟩
theorem JM (h:xE lt) {x y:α} (a:lt x y=true):lt y x=false:=by
  cases b:lt y x with
  | false=>rfl
  | true=>have:=h.tr x y x a b; rw [h.CR x] at this; cases this
theorem rE.refl (l:List α):rE lt l l:=fun _=>rfl
theorem rE.symm {l m:List α} (h:rE lt l m):rE lt m l:=fun x=>(h x).symm
theorem rE.trans {l m n:List α} (h:rE lt l m) (a:rE lt m n):rE lt l n:=fun x=>(h x).trans (a x)
theorem rE.app {l m a b:List α} (h:rE lt l m) (c:rE lt a b):rE lt (l++a) (m++b):=fun x=>by
  rw [I0,I0,h x,c x]
theorem JJ (ho:xE lt) {l m:List α} (h:rE lt l m) {x:α} (hx:x ∈ m):x ∈ l:=by
  have:x ∈ m.filter (alike lt x):=I2.2 ⟨hx,ho.self x⟩
  rw [← h x] at this
  exact(I2.1 this).1
theorem rE.swap (ho:xE lt) {b c:List α} (h:∀ x ∈ b, ∀ y ∈ c,lt y x=true):rE lt (b++c) (c++b):=fun z=>by
  rw [I0,I0]
  by_cases hb:b.filter (alike lt z)= []
  · rw [hb,I3,s9]
  · have hc:c.filter (alike lt z)= []:=by
      apply Classical.byContradiction
      intro hc
      obtain⟨x,hx⟩:=J0 _ hb
      obtain⟨y,hy⟩:=J0 _ hc
      obtain⟨a,d⟩:=I2.1 hx
      obtain⟨e,f⟩:=I2.1 hy
      have:=(uf.1 (ho.to d f)).2
      rw [h x a y e] at this; cases this
    rw [hc,I3,s9]
end
end Go.Proofs.YtbkagebjhbphaaaGreat
