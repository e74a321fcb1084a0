/-
  What a stable sort is: sorted, and of each kind of elements the same ones in the same order; there is one only.
  Swapped ranges, a range turned round. Conditions: none beyond each law's own.
-/
import Derived.Test.YtbkagebjhbphaaaGreatCa
import Derived.Test.YtbkagebjhbphaaaGreatWiX
namespace Go.Proofs.YtbkagebjhbphaaaGreat
set_option maxRecDepth 100000
open Go.RowKit
set_option linter.unusedVariables false
set_option linter.unusedSectionVars false
set_option linter.unusedSimpArgs false
def dM (c:bU) (a:bW):bU:=
 bnd (iT a.ah.ls) fun b=>bU.mk (Ll.mk (c.bF.ls++ [(bW.mk a.av a.aI a.eO a.aP a.dK a.fA a.aU a.ax a.aX a.eQ a.bG a.aF a.eG a.cZ a.xN a.fe a.cu (Ll.mk a.aB.ls) (Ll.mk b) (Ll.mk a.ag.ls))]))
set_option maxHeartbeats 4000000 in
theorem gV (w D Q) (L:bU) (R S p T) (a:bW) (r U u z V B J C W E) (r0:bU) (H:Own w D w [blk Q [.pointer (some ⟨T,0,none⟩), .slice R L.bF.ls.length S] 98,row R L.bF.ls.length S (List.flatMap bz.cells p) 42 21,sepL (List.flatMap bz.own p)]) (G:List.map bz.abs p=L.bF.ls) (Z:U=a.aB.ls.length) (aa:Ro w D fun w'=>aY w' 6 r a.aB.ls.length (List.flatMap aN.cells a.aB.ls)) (bg:a.aB.ls.length≤u∧a.aB.ls.length≤9223372036854775807) (M:List.map af.abs J=a.ah.ls) (ag:V=a.ah.ls.length) (ah:Ro w D fun w'=>aY w' 3 z a.ah.ls.length (List.flatMap af.cells J)) (bi:a.ah.ls.length≤B∧a.ah.ls.length≤9223372036854775807) (N:∀ x ∈ J,Ro w D (fun w'=>aY w' 2 x.aj.A x.aj.ls.length (List.flatMap aH.cells x.aj.ls))∧(x.aj.ls.length≤x.aj.c∧x.aj.ls.length≤9223372036854775807)) (ai:W=a.ag.ls.length) (aj:Ro w D fun w'=>aY w' 2 C a.ag.ls.length (List.flatMap aM.cells a.ag.ls)) (bn:a.ag.ls.length≤E∧a.ag.ls.length≤9223372036854775807) (bZ:L.bF.ls.length≤1000000∧a.aB.ls.length≤1000000∧a.ag.ls.length≤1000000∧a.ah.ls.length≤1000000) (cu:(∀ x ∈ a.ah.ls,x.aj.ls.length≤1000000)) (hr:dM L a=r0):
    Calls Tryz.prog 65 #[vP Q 0, .agg (iA a.av a.aI a.eO a.aP a.dK a.fA a.aU a.ax a.aX a.eQ a.bG a.aF a.eG a.cZ a.xN a.fe a.cu.aJ a.cu.aR r U u z V B C W E).toArray] w (dA fun v w'=> ∃ O P I,v= .tuple #[]∧Own w D w' [blk Q [vP T 0, .slice O r0.bF.ls.length P] 98,row O r0.bF.ls.length P (List.flatMap bz.cells I) 42 21,sepL (List.flatMap bz.own I)]∧(List.map bz.abs I=r0.bF.ls)∧(r0.bF.ls.length=L.bF.ls.length+1)):=by
 subst Z ag ai
 have aZ:=aA G
 have bf:=aA M
 have bq:=H.rowC (i:=1) rfl
 refine cb Tryz.func65 ?_
 refine sr ?_
 refine dn (gK a r u z B C E) 42 H ?_
 intro K cz av
 refine ns (Kz (vP K 18) (Lz (.slice r a.aB.ls.length u) av 0 Tryz.isAgg39 ?_))
 obtain⟨cB,ax,ay,az,bM⟩:=Iu av
 refine cl Tryz.call109 (nJ _ _ r a.aB.ls.length u a.aB.ls a.aB.ls ax (ay _ aa) rfl e6 rfl) ?_
 rintro _ cK ⟨b,d,rfl,aB⟩
 have aC:=az _ _ aB
 have bN:=aC.rowC (i:=0) rfl
 refine Kz (vP K 18) ?_
 have bu:=aC.pf [1]
 refine df [.slice b a.aB.ls.length d] 18 bu Tryz.sizeOf39 ?_
 intro cO aD
 refine ns (Kz (vP K 20) (Lz (.slice C a.ag.ls.length E) aD 0 Tryz.isAgg29 ?_))
 obtain⟨cZ,aF,aG,aI,bO⟩:=Iu aD
 refine cl Tryz.call44 (l7 _ _ C a.ag.ls.length E a.ag.ls a.ag.ls aF (aG _ aj) rfl e6 rfl) ?_
 rintro _ dh ⟨e,g,rfl,aJ⟩
 have aK:=aI _ _ aJ
 have bP:=aK.rowC (i:=0) rfl
 refine Kz (vP K 20) ?_
 have bv:=aK.pf [1]
 refine df [.slice e a.ag.ls.length g] 20 bv Tryz.sizeOf29 ?_
 intro di aL
 refine ns (Kz (vP K 19) (Lz (.slice z a.ah.ls.length B) aL 0 Tryz.isAgg40 ?_))
 obtain⟨l,X⟩:∃ q,iT a.ah.ls=q:=⟨_,rfl⟩
 obtain⟨dm,aO,Y,aP,bQ⟩:=Iu aL
 refine cl Tryz.call48 (l8 _ _ z a.ah.ls.length B J a.ah.ls l aO M (Y _ ah) (fun x9 h9=>⟨Y _ (N x9 h9).1,(N x9 h9).2⟩) rfl e6 (by first | assumption | exact d9 f5 | (intro x hx; exact absurd hx List.not_mem_nil)) X) ?_
 rintro _ dw ⟨h,j,n,rfl,aQ,F⟩
 have aR:=aP _ _ aQ
 have bT:=aA F
 have bV:=aR.rowC (i:=0) rfl
 refine Kz (vP K 19) ?_
 have bA:=aR.pf [2]
 refine df [.slice h l.length j] 19 bA Tryz.sizeOf40 ?_
 intro dx bB
 refine nt ?_
 refine oV 8 [7,10] IQ bB ?_
 intro dz bC
 refine I4 (v:=vP Q 0) 0 rfl e7 (fun _=>IA rfl) (qv 1 rfl rfl (qp Q 0 2 rfl (qp Q 1 3 rfl (ql 4 rfl 5 Tryz.isAgg45 rfl rfl rfl (qt (v:= .agg (iA a.av a.aI a.eO a.aP a.dK a.fA a.aU a.ax a.aX a.eQ a.bG a.aF a.eG a.cZ a.xN a.fe a.cu.aJ a.cu.aR b a.aB.ls.length d h l.length j e a.ag.ls.length g).toArray) 5 rfl (fun _ ⟨_,H9⟩=>IB rfl (IJ (cs:=(iA a.av a.aI a.eO a.aP a.dK a.fA a.aU a.ax a.aX a.eQ a.bG a.aF a.eG a.cZ a.xN a.fe a.cu.aJ a.cu.aR b a.aB.ls.length d h l.length j e a.ag.ls.length g)) Tryz.isAgg42 Tryz.sizeOf42 ((H9.cls (i:=0) rfl).lit (k:=0) (m:=21) rfl))) ?_)))))
 refine qd 6 rfl (Jq (cs:=(iA a.av a.aI a.eO a.aP a.dK a.fA a.aU a.ax a.aX a.eQ a.bG a.aF a.eG a.cZ a.xN a.fe a.cu.aJ a.cu.aR b a.aB.ls.length d h l.length j e a.ag.ls.length g)) (t:=42) (sz:=21) (m:=1) bC rfl rfl (fun _=>by kernel_rfl) rfl f2 ?_)
 intro aS dC ak
 replace ak:=IX (y:=row aS 1 1 (List.flatMap bz.cells ([(bz.mk a.av a.aI a.eO a.aP a.dK a.fA a.aU a.ax a.aX a.eQ a.bG a.aF a.eG a.cZ a.xN a.fe a.cu (Sv.mk b d a.aB.ls) (Sv.mk h j n) (Sv.mk e g a.ag.ls))])) 42 21) (congrArg (fun z9=>row aS 1 1 [vI a.av,vI a.aI,vI a.eO,vI a.aP,vI a.dK,vI a.fA,vU a.aU,vU a.ax,vU a.aX,vU a.eQ,vU a.bG,vU a.aF,vU a.eG,vU a.cZ,vU a.xN, .bool a.fe, .string ⟨List.toArray a.cu.aJ⟩, .string ⟨List.toArray a.cu.aR⟩, .slice b a.aB.ls.length d, .slice h z9 j, .slice e a.ag.ls.length g] 42 21) (aA F).symm) ak
 have aU:=ak.pb [0]
 refine⟨.inr ⟨_,aU⟩, ?_⟩
 have aV:=aU.pf [6,7,4,1,3,2]
 refine qd 7 rfl (IW (k:=L.bF.ls.length) (m:=1) (rY) aV rfl rfl (gN Tryz.underlying45 (aV.rds (i:=8) rfl) (dX bz.one ([(bz.mk a.av a.aI a.eO a.aP a.dK a.fA a.aU a.ax a.aX a.eQ a.bG a.aF a.eG a.cZ a.xN a.fe a.cu (Sv.mk b d a.aB.ls) (Sv.mk h j n) (Sv.mk e g a.ag.ls))]))) rfl e6 (s:=List.length (L.bF.ls++ [(bW.mk a.av a.aI a.eO a.aP a.dK a.fA a.aU a.ax a.aX a.eQ a.bG a.aF a.eG a.cZ a.xN a.fe a.cu (Ll.mk a.aB.ls) (Ll.mk l) (Ll.mk a.ag.ls))])) f7 (List.flatMap_append).symm ?_)
 intro aW aX bD bE
 have bF:=bE.pf [3]
 have bG:=Jc (aA F).symm bF
 have bH:=bG.pf [2,3,0,4,5]
 have bI:Own w D bD (sepL (List.flatMap bz.own (p++ [(bz.mk a.av a.aI a.eO a.aP a.dK a.fA a.aU a.ax a.aX a.eQ a.bG a.aF a.eG a.cZ a.xN a.fe a.cu (Sv.mk b d a.aB.ls) (Sv.mk h j n) (Sv.mk e g a.ag.ls))]))::_):=bH.sepAdd (L2:= [row b a.aB.ls.length d (List.flatMap aN.cells a.aB.ls) 72 6,row h n.length j (List.flatMap af.cells n) 149 3,row e a.ag.ls.length g (List.flatMap aM.cells a.ag.ls) 89 2,sepL (List.flatMap af.own n)]) (List.flatMap_append (f:=bz.own) (xs:=p) (ys:= [(bz.mk a.av a.aI a.eO a.aP a.dK a.fA a.aU a.ax a.aX a.eQ a.bG a.aF a.eG a.cZ a.xN a.fe a.cu (Sv.mk b d a.aB.ls) (Sv.mk h j n) (Sv.mk e g a.ag.ls))])).symm
 have bX:List.length (L.bF.ls++ [(bW.mk a.av a.aI a.eO a.aP a.dK a.fA a.aU a.ax a.aX a.eQ a.bG a.aF a.eG a.cZ a.xN a.fe a.cu (Ll.mk a.aB.ls) (Ll.mk l) (Ll.mk a.ag.ls))])=L.bF.ls.length+1:=by simp only [List.length_append,List.length_cons,List.length_nil]
 have bY:=aA (nu (es:= [(bz.mk a.av a.aI a.eO a.aP a.dK a.fA a.aU a.ax a.aX a.eQ a.bG a.aF a.eG a.cZ a.xN a.fe a.cu (Sv.mk b d a.aB.ls) (Sv.mk h j n) (Sv.mk e g a.ag.ls))]) (ms:= [(bW.mk a.av a.aI a.eO a.aP a.dK a.fA a.aU a.ax a.aX a.eQ a.bG a.aF a.eG a.cZ a.xN a.fe a.cu (Ll.mk a.aB.ls) (Ll.mk l) (Ll.mk a.ag.ls))]) G (congrArg (fun z9=> [bW.mk a.av a.aI a.eO a.aP a.dK a.fA a.aU a.ax a.aX a.eQ a.bG a.aF a.eG a.cZ a.xN a.fe a.cu (Ll.mk a.aB.ls) (Ll.mk z9) (Ll.mk a.ag.ls)]) F))
 refine⟨.inl e7, ?_⟩
 refine I4 (v:=vP Q 0) 8 rfl e7 (fun _=>yk) (I4 (v:=vP Q 1) 9 rfl e7 (fun _=>yk) ?_)
 have bJ:=bI.pf [3]
 refine qe 10 rfl (Do.store (vs:= [.slice aW (List.length (L.bF.ls++ [(bW.mk a.av a.aI a.eO a.aP a.dK a.fA a.aU a.ax a.aX a.eQ a.bG a.aF a.eG a.cZ a.xN a.fe a.cu (Ll.mk a.aB.ls) (Ll.mk l) (Ll.mk a.ag.ls))])) aX]) (o:=1) bJ rfl rfl Tryz.sizeOf45 rfl rfl rfl rfl ?_)
 intro dD bK
 refine⟨.inl e7, ?_⟩
 refine qn (IL (res0 rfl) ?_)
 have bL:=bK.pk [0,2,1]
 obtain rfl:_=bU.mk (Ll.mk (L.bF.ls++ [(bW.mk a.av a.aI a.eO a.aP a.dK a.fA a.aU a.ax a.aX a.eQ a.bG a.aF a.eG a.cZ a.xN a.fe a.cu (Ll.mk a.aB.ls) (Ll.mk l) (Ll.mk a.ag.ls))])):=hr.symm.trans (ae X)
 exact⟨aW,aX,(p++ [(bz.mk a.av a.aI a.eO a.aP a.dK a.fA a.aU a.ax a.aX a.eQ a.bG a.aF a.eG a.cZ a.xN a.fe a.cu (Sv.mk b d a.aB.ls) (Sv.mk h j n) (Sv.mk e g a.ag.ls))]),rfl,bL,(nu (es:= [(bz.mk a.av a.aI a.eO a.aP a.dK a.fA a.aU a.ax a.aX a.eQ a.bG a.aF a.eG a.cZ a.xN a.fe a.cu (Sv.mk b d a.aB.ls) (Sv.mk h j n) (Sv.mk e g a.ag.ls))]) (ms:= [(bW.mk a.av a.aI a.eO a.aP a.dK a.fA a.aU a.ax a.aX a.eQ a.bG a.aF a.eG a.cZ a.xN a.fe a.cu (Ll.mk a.aB.ls) (Ll.mk l) (Ll.mk a.ag.ls))]) G (congrArg (fun z9=> [bW.mk a.av a.aI a.eO a.aP a.dK a.fA a.aU a.ax a.aX a.eQ a.bG a.aF a.eG a.cZ a.xN a.fe a.cu (Ll.mk a.aB.ls) (Ll.mk z9) (Ll.mk a.ag.ls)]) F)),(by first | omega | (simp only [List.length_append,List.length_cons,List.length_nil]))⟩
end Go.Proofs.YtbkagebjhbphaaaGreat
namespace Go.Proofs.YtbkagebjhbphaaaGreat
open List renaming append_nil→s6,exists_mem_of_ne_nil→I2,filter_append→H3,mem_filter→H4,nil_append→I0
set_option maxRecDepth 100000
set_option linter.unusedVariables false
set_option linter.unusedSimpArgs false
section
variable {α:Type} (lt:α→α→Bool)
structure xR:Prop where
  D6:∀ x,lt x x=false
  tr:∀ x y z,lt x y=true→lt y z=true→lt x z=true
  nt:∀ x y z,lt x y=false→lt y z=false→lt x z=false
def alike (x y:α):Bool:= !lt x y && !lt y x
def rM (l m:List α):Prop:=∀ x,l.filter (alike lt x)=m.filter (alike lt x)
def Hd (l:List α):Prop:=l.Pairwise (fun x y=>lt y x=false)
variable {lt}
theorem uy {x y:α}:alike lt x y=true↔lt x y=false∧lt y x=false:=by
  unfold alike
  cases lt x y <;> cases lt y x <;> simp
theorem xR.self (h:xR lt) (x:α):alike lt x x=true:=uy.2 ⟨h.D6 x,h.D6 x⟩
theorem xR.to (h:xR lt) {x y z:α} (a:alike lt x y=true) (b:alike lt x z=true):alike lt y z=true:=by
  obtain⟨c,d⟩:=uy.1 a
  obtain⟨e,f⟩:=uy.1 b
  exact uy.2 ⟨h.nt y x z d e,h.nt z x y f c⟩
theorem Li (h:xR lt) {x y:α} (a:lt x y=true):lt y x=false:=by
  cases b:lt y x with
  | false=>rfl
  | true=>have:=h.tr x y x a b; rw [h.D6 x] at this; cases this
theorem rM.refl (l:List α):rM lt l l:=fun _=>rfl
theorem rM.symm {l m:List α} (h:rM lt l m):rM lt m l:=fun x=>(h x).symm
theorem rM.trans {l m n:List α} (h:rM lt l m) (a:rM lt m n):rM lt l n:=fun x=>(h x).trans (a x)
theorem rM.app {l m a b:List α} (h:rM lt l m) (c:rM lt a b):rM lt (l++a) (m++b):=fun x=>by
  rw [H3,H3,h x,c x]
theorem Lf (ho:xR lt) {l m:List α} (h:rM lt l m) {x:α} (hx:x ∈ m):x ∈ l:=by
  have:x ∈ m.filter (alike lt x):=H4.2 ⟨hx,ho.self x⟩
  rw [← h x] at this
  exact(H4.1 this).1
theorem rM.swap (ho:xR lt) {b c:List α} (h:∀ x ∈ b, ∀ y ∈ c,lt y x=true):rM lt (b++c) (c++b):=fun z=>by
  rw [H3,H3]
  by_cases hb:b.filter (alike lt z)= []
  · rw [hb,I0,s6]
  · have hc:c.filter (alike lt z)= []:=by
      apply Classical.byContradiction
      intro hc
      obtain⟨x,hx⟩:=I2 _ hb
      obtain⟨y,hy⟩:=I2 _ hc
      obtain⟨a,d⟩:=H4.1 hx
      obtain⟨e,f⟩:=H4.1 hy
      have:=(uy.1 (ho.to d f)).2
      rw [h x a y e] at this; cases this
    rw [hc,I0,s6]
end
end Go.Proofs.YtbkagebjhbphaaaGreat
