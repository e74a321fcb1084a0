/-
  What a stable sort is: sorted, and of each kind of elements the same ones in the same order; there is one only.
  Swapped ranges, a range turned round. Conditions: none beyond each law's own.
-/
import Derived.Test.YtbkagebjhbphaaaGreatCa
import Derived.Test.YtbkagebjhbphaaaGreatWiX
namespace Go.Proofs.YtbkagebjhbphaaaGreat
set_option maxRecDepth 100000
open Go.RowKit
set_option linter.unusedVariables false
set_option linter.unusedSectionVars false
set_option linter.unusedSimpArgs false
def dw (c:bI) (a:bL):bI:=
 bnd (jh a.ai.ls) fun b=>bI.mk (Ll.mk (c.aX.ls++ [(bL.mk a.aD a.aJ a.fI a.aK a.dz a.eH a.aP a.av a.aN a.dY a.aV a.aL a.dL a.cu a.xN a.cz a.bU (Ll.mk a.aH.ls) (Ll.mk b) (Ll.mk a.ag.ls))]))
set_option maxHeartbeats 4000000 in
theorem gp (w D Q) (L:bI) (R S p T) (a:bL) (r U u z V B J C W E) (r0:bI) (H:Own w D w [blk Q [.pointer (some ⟨T,0,none⟩), .slice R L.aX.ls.length S] 98,row R L.aX.ls.length S (List.flatMap bf.cells p) 42 21,sepL (List.flatMap bf.own p)]) (G:List.map bf.abs p=L.aX.ls) (Z:U=a.aH.ls.length) (aa:Ro w D fun w'=>bE w' 6 r a.aH.ls.length (List.flatMap bi.cells a.aH.ls)) (aZ:a.aH.ls.length≤u∧a.aH.ls.length≤9223372036854775807) (M:List.map ae.abs J=a.ai.ls) (af:V=a.ai.ls.length) (ag:Ro w D fun w'=>bE w' 3 z a.ai.ls.length (List.flatMap ae.cells J)) (bg:a.ai.ls.length≤B∧a.ai.ls.length≤9223372036854775807) (N:∀ x ∈ J,Ro w D (fun w'=>bE w' 2 x.ak.A x.ak.ls.length (List.flatMap aI.cells x.ak.ls))∧(x.ak.ls.length≤x.ak.c∧x.ak.ls.length≤9223372036854775807)) (ai:W=a.ag.ls.length) (aj:Ro w D fun w'=>bE w' 2 C a.ag.ls.length (List.flatMap aY.cells a.ag.ls)) (bn:a.ag.ls.length≤E∧a.ag.ls.length≤9223372036854775807) (bZ:L.aX.ls.length≤1000000∧a.aH.ls.length≤1000000∧a.ag.ls.length≤1000000∧a.ai.ls.length≤1000000) (cu:(∀ x ∈ a.ai.ls,x.ak.ls.length≤1000000)) (hr:dw L a=r0):
    Calls Tryz.prog 65 #[vP Q 0, .agg (gU a.aD a.aJ a.fI a.aK a.dz a.eH a.aP a.av a.aN a.dY a.aV a.aL a.dL a.cu a.xN a.cz a.bU.bF a.bU.bT r U u z V B C W E).toArray] w (d9 fun v w'=> ∃ O P I,v= .tuple #[]∧Own w D w' [blk Q [vP T 0, .slice O r0.aX.ls.length P] 98,row O r0.aX.ls.length P (List.flatMap bf.cells I) 42 21,sepL (List.flatMap bf.own I)]∧(List.map bf.abs I=r0.aX.ls)∧(r0.aX.ls.length=L.aX.ls.length+1)):=by
 subst Z af ai
 have aW:=aB G
 have aX:=aB M
 have bq:=H.rowC (i:=1) rfl
 refine cb Tryz.func65 ?_
 refine sr ?_
 refine dV (iH a r u z B C E) 42 H ?_
 intro K cz av
 refine ns (Kz (vP K 18) (Lz (.slice r a.aH.ls.length u) av 0 Tryz.isAgg39 ?_))
 obtain⟨cB,ax,ay,az,bO⟩:=Ii av
 refine cl Tryz.call109 (oC _ _ r a.aH.ls.length u a.aH.ls a.aH.ls ax (ay _ aa) rfl e6 rfl) ?_
 rintro _ cK ⟨b,d,rfl,aA⟩
 have aC:=az _ _ aA
 have bP:=aC.rowC (i:=0) rfl
 refine Kz (vP K 18) ?_
 have bu:=aC.pf [1]
 refine dS [.slice b a.aH.ls.length d] 18 bu Tryz.sizeOf39 ?_
 intro cO aD
 refine ns (Kz (vP K 20) (Lz (.slice C a.ag.ls.length E) aD 0 Tryz.isAgg29 ?_))
 obtain⟨cZ,aF,aG,aH,bQ⟩:=Ii aD
 refine cl Tryz.call44 (mr _ _ C a.ag.ls.length E a.ag.ls a.ag.ls aF (aG _ aj) rfl e6 rfl) ?_
 rintro _ df ⟨e,g,rfl,aJ⟩
 have aK:=aH _ _ aJ
 have bR:=aK.rowC (i:=0) rfl
 refine Kz (vP K 20) ?_
 have bv:=aK.pf [1]
 refine dS [.slice e a.ag.ls.length g] 20 bv Tryz.sizeOf29 ?_
 intro dh aL
 refine ns (Kz (vP K 19) (Lz (.slice z a.ai.ls.length B) aL 0 Tryz.isAgg40 ?_))
 obtain⟨l,X⟩:∃ q,jh a.ai.ls=q:=⟨_,rfl⟩
 obtain⟨di,aM,Y,aN,bS⟩:=Ii aL
 refine cl Tryz.call48 (mD _ _ z a.ai.ls.length B J a.ai.ls l aM M (Y _ ag) (fun x9 h9=>⟨Y _ (N x9 h9).1,(N x9 h9).2⟩) rfl e6 (by first | assumption | exact dM f5 | (intro x hx; exact absurd hx List.not_mem_nil)) X) ?_
 rintro _ dm ⟨h,j,n,rfl,aO,F⟩
 have aP:=aN _ _ aO
 have bV:=aB F
 have bW:=aP.rowC (i:=0) rfl
 refine Kz (vP K 19) ?_
 have bz:=aP.pf [2]
 refine dS [.slice h l.length j] 19 bz Tryz.sizeOf40 ?_
 intro dn bA
 refine nt ?_
 refine pU 8 [7,10] IC bA ?_
 intro dx bB
 refine IP (v:=vP Q 0) 0 rfl e7 (fun _=>Iq rfl) (qv 1 rfl rfl (qp Q 0 2 rfl (qp Q 1 3 rfl (ql 4 rfl 5 Tryz.isAgg45 rfl rfl rfl (qt (v:= .agg (gU a.aD a.aJ a.fI a.aK a.dz a.eH a.aP a.av a.aN a.dY a.aV a.aL a.dL a.cu a.xN a.cz a.bU.bF a.bU.bT b a.aH.ls.length d h l.length j e a.ag.ls.length g).toArray) 5 rfl (fun _ ⟨_,H9⟩=>Io rfl (Iy (cs:=(gU a.aD a.aJ a.fI a.aK a.dz a.eH a.aP a.av a.aN a.dY a.aV a.aL a.dL a.cu a.xN a.cz a.bU.bF a.bU.bT b a.aH.ls.length d h l.length j e a.ag.ls.length g)) Tryz.isAgg42 Tryz.sizeOf42 ((H9.cls (i:=0) rfl).lit (k:=0) (m:=21) rfl))) ?_)))))
 refine qd 6 rfl (Jp (cs:=(gU a.aD a.aJ a.fI a.aK a.dz a.eH a.aP a.av a.aN a.dY a.aV a.aL a.dL a.cu a.xN a.cz a.bU.bF a.bU.bT b a.aH.ls.length d h l.length j e a.ag.ls.length g)) (t:=42) (sz:=21) (m:=1) bB rfl rfl (fun _=>by kernel_rfl) rfl f4 ?_)
 intro aQ dA ak
 replace ak:=IL (y:=row aQ 1 1 (List.flatMap bf.cells ([(bf.mk a.aD a.aJ a.fI a.aK a.dz a.eH a.aP a.av a.aN a.dY a.aV a.aL a.dL a.cu a.xN a.cz a.bU (Sv.mk b d a.aH.ls) (Sv.mk h j n) (Sv.mk e g a.ag.ls))])) 42 21) (congrArg (fun z9=>row aQ 1 1 [vI a.aD,vI a.aJ,vI a.fI,vI a.aK,vI a.dz,vI a.eH,vU a.aP,vU a.av,vU a.aN,vU a.dY,vU a.aV,vU a.aL,vU a.dL,vU a.cu,vU a.xN, .bool a.cz, .string ⟨List.toArray a.bU.bF⟩, .string ⟨List.toArray a.bU.bT⟩, .slice b a.aH.ls.length d, .slice h z9 j, .slice e a.ag.ls.length g] 42 21) (aB F).symm) ak
 have aS:=ak.pb [0]
 refine⟨.inr ⟨_,aS⟩, ?_⟩
 have aT:=aS.pf [6,7,4,1,3,2]
 refine qd 7 rfl (IM (k:=L.aX.ls.length) (m:=1) (uu) aT rfl rfl (jv Tryz.underlying45 (aT.rds (i:=8) rfl) (fU bf.one ([(bf.mk a.aD a.aJ a.fI a.aK a.dz a.eH a.aP a.av a.aN a.dY a.aV a.aL a.dL a.cu a.xN a.cz a.bU (Sv.mk b d a.aH.ls) (Sv.mk h j n) (Sv.mk e g a.ag.ls))]))) rfl e6 (s:=List.length (L.aX.ls++ [(bL.mk a.aD a.aJ a.fI a.aK a.dz a.eH a.aP a.av a.aN a.dY a.aV a.aL a.dL a.cu a.xN a.cz a.bU (Ll.mk a.aH.ls) (Ll.mk l) (Ll.mk a.ag.ls))])) f7 (List.flatMap_append).symm ?_)
 intro aU aV bC bD
 have bF:=bD.pf [3]
 have bG:=I4 (aB F).symm bF
 have bH:=bG.pf [2,3,0,4,5]
 have bJ:Own w D bC (sepL (List.flatMap bf.own (p++ [(bf.mk a.aD a.aJ a.fI a.aK a.dz a.eH a.aP a.av a.aN a.dY a.aV a.aL a.dL a.cu a.xN a.cz a.bU (Sv.mk b d a.aH.ls) (Sv.mk h j n) (Sv.mk e g a.ag.ls))]))::_):=bH.sepAdd (L2:= [row b a.aH.ls.length d (List.flatMap bi.cells a.aH.ls) 72 6,row h n.length j (List.flatMap ae.cells n) 149 3,row e a.ag.ls.length g (List.flatMap aY.cells a.ag.ls) 89 2,sepL (List.flatMap ae.own n)]) (List.flatMap_append (f:=bf.own) (xs:=p) (ys:= [(bf.mk a.aD a.aJ a.fI a.aK a.dz a.eH a.aP a.av a.aN a.dY a.aV a.aL a.dL a.cu a.xN a.cz a.bU (Sv.mk b d a.aH.ls) (Sv.mk h j n) (Sv.mk e g a.ag.ls))])).symm
 have bX:List.length (L.aX.ls++ [(bL.mk a.aD a.aJ a.fI a.aK a.dz a.eH a.aP a.av a.aN a.dY a.aV a.aL a.dL a.cu a.xN a.cz a.bU (Ll.mk a.aH.ls) (Ll.mk l) (Ll.mk a.ag.ls))])=L.aX.ls.length+1:=by simp only [List.length_append,List.length_cons,List.length_nil]
 have bY:=aB (pF (es:= [(bf.mk a.aD a.aJ a.fI a.aK a.dz a.eH a.aP a.av a.aN a.dY a.aV a.aL a.dL a.cu a.xN a.cz a.bU (Sv.mk b d a.aH.ls) (Sv.mk h j n) (Sv.mk e g a.ag.ls))]) (ms:= [(bL.mk a.aD a.aJ a.fI a.aK a.dz a.eH a.aP a.av a.aN a.dY a.aV a.aL a.dL a.cu a.xN a.cz a.bU (Ll.mk a.aH.ls) (Ll.mk l) (Ll.mk a.ag.ls))]) G (congrArg (fun z9=> [bL.mk a.aD a.aJ a.fI a.aK a.dz a.eH a.aP a.av a.aN a.dY a.aV a.aL a.dL a.cu a.xN a.cz a.bU (Ll.mk a.aH.ls) (Ll.mk z9) (Ll.mk a.ag.ls)]) F))
 refine⟨.inl e7, ?_⟩
 refine IP (v:=vP Q 0) 8 rfl e7 (fun _=>yk) (IP (v:=vP Q 1) 9 rfl e7 (fun _=>yk) ?_)
 have bK:=bJ.pf [3]
 refine qe 10 rfl (Do.store (vs:= [.slice aU (List.length (L.aX.ls++ [(bL.mk a.aD a.aJ a.fI a.aK a.dz a.eH a.aP a.av a.aN a.dY a.aV a.aL a.dL a.cu a.xN a.cz a.bU (Ll.mk a.aH.ls) (Ll.mk l) (Ll.mk a.ag.ls))])) aV]) (o:=1) bK rfl rfl Tryz.sizeOf45 rfl rfl rfl rfl ?_)
 intro dB bM
 refine⟨.inl e7, ?_⟩
 refine qn (IA (res0 rfl) ?_)
 have bN:=bM.pk [0,2,1]
 obtain rfl:_=bI.mk (Ll.mk (L.aX.ls++ [(bL.mk a.aD a.aJ a.fI a.aK a.dz a.eH a.aP a.av a.aN a.dY a.aV a.aL a.dL a.cu a.xN a.cz a.bU (Ll.mk a.aH.ls) (Ll.mk l) (Ll.mk a.ag.ls))])):=hr.symm.trans (ah X)
 exact⟨aU,aV,(p++ [(bf.mk a.aD a.aJ a.fI a.aK a.dz a.eH a.aP a.av a.aN a.dY a.aV a.aL a.dL a.cu a.xN a.cz a.bU (Sv.mk b d a.aH.ls) (Sv.mk h j n) (Sv.mk e g a.ag.ls))]),rfl,bN,(pF (es:= [(bf.mk a.aD a.aJ a.fI a.aK a.dz a.eH a.aP a.av a.aN a.dY a.aV a.aL a.dL a.cu a.xN a.cz a.bU (Sv.mk b d a.aH.ls) (Sv.mk h j n) (Sv.mk e g a.ag.ls))]) (ms:= [(bL.mk a.aD a.aJ a.fI a.aK a.dz a.eH a.aP a.av a.aN a.dY a.aV a.aL a.dL a.cu a.xN a.cz a.bU (Ll.mk a.aH.ls) (Ll.mk l) (Ll.mk a.ag.ls))]) G (congrArg (fun z9=> [bL.mk a.aD a.aJ a.fI a.aK a.dz a.eH a.aP a.av a.aN a.dY a.aV a.aL a.dL a.cu a.xN a.cz a.bU (Ll.mk a.aH.ls) (Ll.mk z9) (Ll.mk a.ag.ls)]) F)),(by first | omega | (simp only [List.length_append,List.length_cons,List.length_nil]))⟩
end Go.Proofs.YtbkagebjhbphaaaGreat
namespace Go.Proofs.YtbkagebjhbphaaaGreat
open List renaming append_nil→s6,exists_mem_of_ne_nil→H8,filter_append→H5,mem_filter→H6,nil_append→H7
set_option maxRecDepth 100000
set_option linter.unusedVariables false
set_option linter.unusedSimpArgs false
section
variable {α:Type} (lt:α→α→Bool)
structure yg:Prop where
  DR:∀ x,lt x x=false
  tr:∀ x y z,lt x y=true→lt y z=true→lt x z=true
  nt:∀ x y z,lt x y=false→lt y z=false→lt x z=false
def alike (x y:α):Bool:= !lt x y && !lt y x
def r9 (l m:List α):Prop:=∀ x,l.filter (alike lt x)=m.filter (alike lt x)
def GN (l:List α):Prop:=l.Pairwise (fun x y=>lt y x=false)
variable {lt}
theorem uE {x y:α}:alike lt x y=true↔lt x y=false∧lt y x=false:=by
  unfold alike
  cases lt x y <;> cases lt y x <;> simp
theorem yg.self (h:yg lt) (x:α):alike lt x x=true:=uE.2 ⟨h.DR x,h.DR x⟩
theorem yg.to (h:yg lt) {x y z:α} (a:alike lt x y=true) (b:alike lt x z=true):alike lt y z=true:=by
  obtain⟨c,d⟩:=uE.1 a
  obtain⟨e,f⟩:=uE.1 b
  exact uE.2 ⟨h.nt y x z d e,h.nt z x y f c⟩
theorem Lc (h:yg lt) {x y:α} (a:lt x y=true):lt y x=false:=by
  cases b:lt y x with
  | false=>rfl
  | true=>have:=h.tr x y x a b; rw [h.DR x] at this; cases this
theorem r9.refl (l:List α):r9 lt l l:=fun _=>rfl
theorem r9.symm {l m:List α} (h:r9 lt l m):r9 lt m l:=fun x=>(h x).symm
theorem r9.trans {l m n:List α} (h:r9 lt l m) (a:r9 lt m n):r9 lt l n:=fun x=>(h x).trans (a x)
theorem r9.app {l m a b:List α} (h:r9 lt l m) (c:r9 lt a b):r9 lt (l++a) (m++b):=fun x=>by
  rw [H5,H5,h x,c x]
theorem K8 (ho:yg lt) {l m:List α} (h:r9 lt l m) {x:α} (hx:x ∈ m):x ∈ l:=by
  have:x ∈ m.filter (alike lt x):=H6.2 ⟨hx,ho.self x⟩
  rw [← h x] at this
  exact(H6.1 this).1
theorem r9.swap (ho:yg lt) {b c:List α} (h:∀ x ∈ b, ∀ y ∈ c,lt y x=true):r9 lt (b++c) (c++b):=fun z=>by
  rw [H5,H5]
  by_cases hb:b.filter (alike lt z)= []
  · rw [hb,H7,s6]
  · have hc:c.filter (alike lt z)= []:=by
      apply Classical.byContradiction
      intro hc
      obtain⟨x,hx⟩:=H8 _ hb
      obtain⟨y,hy⟩:=H8 _ hc
      obtain⟨a,d⟩:=H6.1 hx
      obtain⟨e,f⟩:=H6.1 hy
      have:=(uE.1 (ho.to d f)).2
      rw [h x a y e] at this; cases this
    rw [hc,H7,s6]
end
end Go.Proofs.YtbkagebjhbphaaaGreat
