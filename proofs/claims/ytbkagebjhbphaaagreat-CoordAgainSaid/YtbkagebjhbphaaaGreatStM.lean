/-
  What a stable sort is: sorted, and of each kind of elements the same ones in the same order; there is one only.
  Swapped ranges, a range turned round. Conditions: none beyond each law's own.
-/
import Derived.Test.YtbkagebjhbphaaaGreatCa
import Derived.Test.YtbkagebjhbphaaaGreatWiX
namespace Go.Proofs.YtbkagebjhbphaaaGreat
set_option maxRecDepth 100000
open Go.RowKit
set_option linter.unusedVariables false
set_option linter.unusedSectionVars false
set_option linter.unusedSimpArgs false
def dA (c:bH) (a:bQ):bH:=
 bnd (iO a.ah.ls) fun b=>bH.mk (Ll.mk (c.bB.ls++ [(bQ.mk a.aH a.aJ a.eO a.aS a.dz a.eu a.aU a.ax a.bi a.dW a.bf a.aK a.dI a.cZ a.xN a.d9 a.bV (Ll.mk a.aG.ls) (Ll.mk b) (Ll.mk a.ag.ls))]))
set_option maxHeartbeats 4000000 in
theorem fI (w:World) (D:Nat→Prop) (N:Nat) (K:bH) (O:Option Addr) (P:Nat) (p:List bF) (Q:Nat) (a:bQ) (r:Option Addr) (R u:Nat) (z:Option Addr) (S B:Nat) (I:List af) (C:Option Addr) (T E:Nat) (r0:bH) (H:Own w D w [blk N [.pointer (some ⟨Q,0,none⟩), .slice O K.bB.ls.length P] 98,row O K.bB.ls.length P (List.flatMap bF.cells p) 42 21,sepL (List.flatMap bF.own p)]) (G:List.map bF.abs p=K.bB.ls) (W:R=a.aG.ls.length) (X:Ro w D fun w'=>bD w' 6 r a.aG.ls.length (List.flatMap bC.cells a.aG.ls)) (aV:a.aG.ls.length≤u∧a.aG.ls.length≤9223372036854775807) (L:List.map af.abs I=a.ah.ls) (Y:S=a.ah.ls.length) (Z:Ro w D fun w'=>bD w' 3 z a.ah.ls.length (List.flatMap af.cells I)) (aW:a.ah.ls.length≤B∧a.ah.ls.length≤9223372036854775807) (M:∀ x ∈ I,Ro w D (fun w'=>bD w' 2 x.au.A x.au.ls.length (List.flatMap aL.cells x.au.ls))∧(x.au.ls.length≤x.au.c∧x.au.ls.length≤9223372036854775807)) (aa:T=a.ag.ls.length) (ae:Ro w D fun w'=>bD w' 2 C a.ag.ls.length (List.flatMap bv.cells a.ag.ls)) (aX:a.ag.ls.length≤E∧a.ag.ls.length≤9223372036854775807) (bW:K.bB.ls.length≤1000000∧a.aG.ls.length≤1000000∧a.ag.ls.length≤1000000∧a.ah.ls.length≤1000000) (bX:(∀ x ∈ a.ah.ls,x.au.ls.length≤1000000)) (hr:dA K a=r0):
    Calls Tryz.prog 65 #[vP N 0, .agg (gD a.aH a.aJ a.eO a.aS a.dz a.eu a.aU a.ax a.bi a.dW a.bf a.aK a.dI a.cZ a.xN a.d9 a.bV.bK a.bV.bW r R u z S B C T E).toArray] w (dR fun v w'=> ∃ (B0ox0:Option Addr) (b0ox0:Nat) (e0ox0:List bF),v= .tuple #[]∧Own w D w' [blk N [vP Q 0, .slice B0ox0 r0.bB.ls.length b0ox0] 98,row B0ox0 r0.bB.ls.length b0ox0 (List.flatMap bF.cells e0ox0) 42 21,sepL (List.flatMap bF.own e0ox0)]∧(List.map bF.abs e0ox0=r0.bB.ls)∧(r0.bB.ls.length=K.bB.ls.length+1)):=by
 subst W Y aa
 have aT:=az G
 have aU:=az L
 have aY:=H.rowC (i:=1) rfl
 refine cb Tryz.func65 ?_
 refine sr ?_
 refine dM (gT a r u z B C E) 42 H ?_
 intro J bY aj
 refine ns (Kz (vP J 18) (Lz (.slice r a.aG.ls.length u) aj 0 Tryz.isAgg39 ?_))
 obtain⟨bZ,ak,au,av,bK⟩:=FY aj
 refine cl Tryz.call109 (nu _ _ r a.aG.ls.length u a.aG.ls a.aG.ls ak (au _ X) rfl e6 rfl) ?_
 rintro _ cu ⟨b,d,rfl,ax⟩
 have ay:=av _ _ ax
 have bL:=ay.rowC (i:=0) rfl
 refine Kz (vP J 18) ?_
 have aZ:=ay.pf [1]
 refine dN [.slice b a.aG.ls.length d] 18 aZ Tryz.sizeOf39 ?_
 intro cz aA
 refine ns (Kz (vP J 20) (Lz (.slice C a.ag.ls.length E) aA 0 Tryz.isAgg29 ?_))
 obtain⟨cB,aB,aC,aD,bM⟩:=FY aA
 refine cl Tryz.call44 (lU _ _ C a.ag.ls.length E a.ag.ls a.ag.ls aB (aC _ ae) rfl e6 rfl) ?_
 rintro _ cK ⟨e,g,rfl,aF⟩
 have aG:=aD _ _ aF
 have bN:=aG.rowC (i:=0) rfl
 refine Kz (vP J 20) ?_
 have bf:=aG.pf [1]
 refine dN [.slice e a.ag.ls.length g] 20 bf Tryz.sizeOf29 ?_
 intro cO aH
 refine ns (Kz (vP J 19) (Lz (.slice z a.ah.ls.length B) aH 0 Tryz.isAgg40 ?_))
 obtain⟨l,U⟩:∃ q,iO a.ah.ls=q:=⟨_,rfl⟩
 obtain⟨cZ,aI,V,aJ,bO⟩:=FY aH
 refine cl Tryz.call48 (lV _ _ z a.ah.ls.length B I a.ah.ls l aI L (V _ Z) (fun x9 h9=>⟨V _ (M x9 h9).1,(M x9 h9).2⟩) rfl e6 (by first | assumption | exact dG f4 | (intro x hx; exact absurd hx List.not_mem_nil)) U) ?_
 rintro _ df ⟨h,j,n,rfl,aK,F⟩
 have aM:=aJ _ _ aK
 have bS:=az F
 have bT:=aM.rowC (i:=0) rfl
 refine Kz (vP J 19) ?_
 have bg:=aM.pf [2]
 refine dN [.slice h l.length j] 19 bg Tryz.sizeOf40 ?_
 intro dh bi
 refine nt ?_
 refine oJ 8 [7,10] Gh bi ?_
 intro di bn
 refine Gs (v:=vP N 0) 0 rfl e7 (fun _=>F7 rfl) (qv 1 rfl rfl (qp N 0 2 rfl (qp N 1 3 rfl (ql 4 rfl 5 Tryz.isAgg45 rfl rfl rfl (qt (v:= .agg (gD a.aH a.aJ a.eO a.aS a.dz a.eu a.aU a.ax a.bi a.dW a.bf a.aK a.dI a.cZ a.xN a.d9 a.bV.bK a.bV.bW b a.aG.ls.length d h l.length j e a.ag.ls.length g).toArray) 5 rfl (fun _ ⟨_,H9⟩=>F5 rfl (Gc (cs:=(gD a.aH a.aJ a.eO a.aS a.dz a.eu a.aU a.ax a.bi a.dW a.bf a.aK a.dI a.cZ a.xN a.d9 a.bV.bK a.bV.bW b a.aG.ls.length d h l.length j e a.ag.ls.length g)) Tryz.isAgg42 Tryz.sizeOf42 ((H9.cls (i:=0) rfl).lit (k:=0) (m:=21) rfl))) ?_)))))
 refine qd 6 rfl (He (cs:=(gD a.aH a.aJ a.eO a.aS a.dz a.eu a.aU a.ax a.bi a.dW a.bf a.aK a.dI a.cZ a.xN a.d9 a.bV.bK a.bV.bW b a.aG.ls.length d h l.length j e a.ag.ls.length g)) (t:=42) (sz:=21) (m:=1) bn rfl rfl (fun _=>by kernel_rfl) rfl f3 ?_)
 intro aN dn ag
 replace ag:=Gq (y:=row aN 1 1 (List.flatMap bF.cells ([(bF.mk a.aH a.aJ a.eO a.aS a.dz a.eu a.aU a.ax a.bi a.dW a.bf a.aK a.dI a.cZ a.xN a.d9 a.bV (Sv.mk b d a.aG.ls) (Sv.mk h j n) (Sv.mk e g a.ag.ls))])) 42 21) (congrArg (fun z9=>row aN 1 1 [vI a.aH,vI a.aJ,vI a.eO,vI a.aS,vI a.dz,vI a.eu,vU a.aU,vU a.ax,vU a.bi,vU a.dW,vU a.bf,vU a.aK,vU a.dI,vU a.cZ,vU a.xN, .bool a.d9, .string ⟨List.toArray a.bV.bK⟩, .string ⟨List.toArray a.bV.bW⟩, .slice b a.aG.ls.length d, .slice h z9 j, .slice e a.ag.ls.length g] 42 21) (az F).symm) ag
 have aP:=ag.pb [0]
 refine⟨.inr ⟨_,aP⟩, ?_⟩
 have aQ:=aP.pf [6,7,4,1,3,2]
 refine qd 7 rfl (Gr (k:=K.bB.ls.length) (m:=1) (uB) aQ rfl rfl (iU Tryz.underlying45 (aQ.rds (i:=8) rfl) (fF bF.one ([(bF.mk a.aH a.aJ a.eO a.aS a.dz a.eu a.aU a.ax a.bi a.dW a.bf a.aK a.dI a.cZ a.xN a.d9 a.bV (Sv.mk b d a.aG.ls) (Sv.mk h j n) (Sv.mk e g a.ag.ls))]))) rfl e6 (s:=List.length (K.bB.ls++ [(bQ.mk a.aH a.aJ a.eO a.aS a.dz a.eu a.aU a.ax a.bi a.dW a.bf a.aK a.dI a.cZ a.xN a.d9 a.bV (Ll.mk a.aG.ls) (Ll.mk l) (Ll.mk a.ag.ls))])) f7 (List.flatMap_append).symm ?_)
 intro aR aS bq bu
 have bz:=bu.pf [3]
 have bA:=GG (az F).symm bz
 have bB:=bA.pf [2,3,0,4,5]
 have bE:Own w D bq (sepL (List.flatMap bF.own (p++ [(bF.mk a.aH a.aJ a.eO a.aS a.dz a.eu a.aU a.ax a.bi a.dW a.bf a.aK a.dI a.cZ a.xN a.d9 a.bV (Sv.mk b d a.aG.ls) (Sv.mk h j n) (Sv.mk e g a.ag.ls))]))::_):=bB.sepAdd (L2:= [row b a.aG.ls.length d (List.flatMap bC.cells a.aG.ls) 72 6,row h n.length j (List.flatMap af.cells n) 149 3,row e a.ag.ls.length g (List.flatMap bv.cells a.ag.ls) 89 2,sepL (List.flatMap af.own n)]) (List.flatMap_append (f:=bF.own) (xs:=p) (ys:= [(bF.mk a.aH a.aJ a.eO a.aS a.dz a.eu a.aU a.ax a.bi a.dW a.bf a.aK a.dI a.cZ a.xN a.d9 a.bV (Sv.mk b d a.aG.ls) (Sv.mk h j n) (Sv.mk e g a.ag.ls))])).symm
 have bU:List.length (K.bB.ls++ [(bQ.mk a.aH a.aJ a.eO a.aS a.dz a.eu a.aU a.ax a.bi a.dW a.bf a.aK a.dI a.cZ a.xN a.d9 a.bV (Ll.mk a.aG.ls) (Ll.mk l) (Ll.mk a.ag.ls))])=K.bB.ls.length+1:=by simp only [List.length_append,List.length_cons,List.length_nil]
 have bV:=az (oD (es:= [(bF.mk a.aH a.aJ a.eO a.aS a.dz a.eu a.aU a.ax a.bi a.dW a.bf a.aK a.dI a.cZ a.xN a.d9 a.bV (Sv.mk b d a.aG.ls) (Sv.mk h j n) (Sv.mk e g a.ag.ls))]) (ms:= [(bQ.mk a.aH a.aJ a.eO a.aS a.dz a.eu a.aU a.ax a.bi a.dW a.bf a.aK a.dI a.cZ a.xN a.d9 a.bV (Ll.mk a.aG.ls) (Ll.mk l) (Ll.mk a.ag.ls))]) G (congrArg (fun z9=> [bQ.mk a.aH a.aJ a.eO a.aS a.dz a.eu a.aU a.ax a.bi a.dW a.bf a.aK a.dI a.cZ a.xN a.d9 a.bV (Ll.mk a.aG.ls) (Ll.mk z9) (Ll.mk a.ag.ls)]) F))
 refine⟨.inl e7, ?_⟩
 refine Gs (v:=vP N 0) 8 rfl e7 (fun _=>yk) (Gs (v:=vP N 1) 9 rfl e7 (fun _=>yk) ?_)
 have bG:=bE.pf [3]
 refine qe 10 rfl (Do.store (vs:= [.slice aR (List.length (K.bB.ls++ [(bQ.mk a.aH a.aJ a.eO a.aS a.dz a.eu a.aU a.ax a.bi a.dW a.bf a.aK a.dI a.cZ a.xN a.d9 a.bV (Ll.mk a.aG.ls) (Ll.mk l) (Ll.mk a.ag.ls))])) aS]) (o:=1) bG rfl rfl Tryz.sizeOf45 rfl rfl rfl rfl ?_)
 intro dw bI
 refine⟨.inl e7, ?_⟩
 refine qn (Gf (res0 rfl) ?_)
 have bJ:=bI.pk [0,2,1]
 obtain rfl:_=bH.mk (Ll.mk (K.bB.ls++ [(bQ.mk a.aH a.aJ a.eO a.aS a.dz a.eu a.aU a.ax a.bi a.dW a.bf a.aK a.dI a.cZ a.xN a.d9 a.bV (Ll.mk a.aG.ls) (Ll.mk l) (Ll.mk a.ag.ls))])):=hr.symm.trans (ai U)
 exact⟨aR,aS,(p++ [(bF.mk a.aH a.aJ a.eO a.aS a.dz a.eu a.aU a.ax a.bi a.dW a.bf a.aK a.dI a.cZ a.xN a.d9 a.bV (Sv.mk b d a.aG.ls) (Sv.mk h j n) (Sv.mk e g a.ag.ls))]),rfl,bJ,(oD (es:= [(bF.mk a.aH a.aJ a.eO a.aS a.dz a.eu a.aU a.ax a.bi a.dW a.bf a.aK a.dI a.cZ a.xN a.d9 a.bV (Sv.mk b d a.aG.ls) (Sv.mk h j n) (Sv.mk e g a.ag.ls))]) (ms:= [(bQ.mk a.aH a.aJ a.eO a.aS a.dz a.eu a.aU a.ax a.bi a.dW a.bf a.aK a.dI a.cZ a.xN a.d9 a.bV (Ll.mk a.aG.ls) (Ll.mk l) (Ll.mk a.ag.ls))]) G (congrArg (fun z9=> [bQ.mk a.aH a.aJ a.eO a.aS a.dz a.eu a.aU a.ax a.bi a.dW a.bf a.aK a.dI a.cZ a.xN a.d9 a.bV (Ll.mk a.aG.ls) (Ll.mk z9) (Ll.mk a.ag.ls)]) F)),(by first | omega | (simp only [List.length_append,List.length_cons,List.length_nil]))⟩
end Go.Proofs.YtbkagebjhbphaaaGreat
namespace Go.Proofs.YtbkagebjhbphaaaGreat
open List renaming append_nil→s9,exists_mem_of_ne_nil→J1,filter_append→I2,mem_filter→I3,nil_append→J0
set_option linter.unusedVariables false
set_option linter.unusedSimpArgs false
section
variable {α:Type} (lt:α→α→Bool)
structure xC:Prop where
  CP:∀ x,lt x x=false
  tr:∀ x y z,lt x y=true→lt y z=true→lt x z=true
  nt:∀ x y z,lt x y=false→lt y z=false→lt x z=false
def alike (x y:α):Bool:= !lt x y && !lt y x
def rC (l m:List α):Prop:=∀ x,l.filter (alike lt x)=m.filter (alike lt x)
def Fp (l:List α):Prop:=l.Pairwise (fun x y=>lt y x=false)
variable {lt}
theorem tY {x y:α}:alike lt x y=true↔lt x y=false∧lt y x=false:=by
  unfold alike
  cases lt x y <;> cases lt y x <;> simp
theorem xC.self (h:xC lt) (x:α):alike lt x x=true:=tY.2 ⟨h.CP x,h.CP x⟩
theorem xC.to (h:xC lt) {x y z:α} (a:alike lt x y=true) (b:alike lt x z=true):alike lt y z=true:=by
  obtain⟨c,d⟩:=tY.1 a
  obtain⟨e,f⟩:=tY.1 b
  exact tY.2 ⟨h.nt y x z d e,h.nt z x y f c⟩
theorem JK (h:xC lt) {x y:α} (a:lt x y=true):lt y x=false:=by
  cases b:lt y x with
  | false=>rfl
  | true=>have:=h.tr x y x a b; rw [h.CP x] at this; cases this
theorem rC.refl (l:List α):rC lt l l:=fun _=>rfl
theorem rC.symm {l m:List α} (h:rC lt l m):rC lt m l:=fun x=>(h x).symm
theorem rC.trans {l m n:List α} (h:rC lt l m) (a:rC lt m n):rC lt l n:=fun x=>(h x).trans (a x)
theorem rC.app {l m a b:List α} (h:rC lt l m) (c:rC lt a b):rC lt (l++a) (m++b):=fun x=>by
  rw [I2,I2,h x,c x]
theorem JH (ho:xC lt) {l m:List α} (h:rC lt l m) {x:α} (hx:x ∈ m):x ∈ l:=by
  have:x ∈ m.filter (alike lt x):=I3.2 ⟨hx,ho.self x⟩
  rw [← h x] at this
  exact(I3.1 this).1
theorem rC.swap (ho:xC lt) {b c:List α} (h:∀ x ∈ b, ∀ y ∈ c,lt y x=true):rC lt (b++c) (c++b):=fun z=>by
  rw [I2,I2]
  by_cases hb:b.filter (alike lt z)= []
  · rw [hb,J0,s9]
  · have hc:c.filter (alike lt z)= []:=by
      apply Classical.byContradiction
      intro hc
      obtain⟨x,hx⟩:=J1 _ hb
      obtain⟨y,hy⟩:=J1 _ hc
      obtain⟨a,d⟩:=I3.1 hx
      obtain⟨e,f⟩:=I3.1 hy
      have:=(tY.1 (ho.to d f)).2
      rw [h x a y e] at this; cases this
    rw [hc,J0,s9]
end
end Go.Proofs.YtbkagebjhbphaaaGreat
