/-
  What a stable sort is: sorted, and of each kind of elements the same ones in the same order; there is one only.
  Swapped ranges, a range turned round. Conditions: none beyond each law's own.
-/
import Derived.Test.YtbkagebjhbphaaaGreatCa
import Derived.Test.YtbkagebjhbphaaaGreatWiX
namespace Go.Proofs.YtbkagebjhbphaaaGreat
set_option maxRecDepth 100000
open Go.RowKit
set_option linter.unusedVariables false
set_option linter.unusedSectionVars false
set_option linter.unusedSimpArgs false
def dB (c:bO) (a:bQ):bO:=
 bnd (jb a.ai.ls) fun b=>bO.mk (Ll.mk (c.bE.ls++ [(bQ.mk a.aM a.aP a.fO a.aS a.dJ a.d9 a.aY a.ax a.bf a.di a.bi a.aI a.dM a.cZ a.xN a.dY a.bW (Ll.mk a.aD.ls) (Ll.mk b) (Ll.mk a.ag.ls))]))
set_option maxHeartbeats 4000000 in
theorem fD (w:World) (D:Nat→Prop) (N:Nat) (K:bO) (O:Option Addr) (P:Nat) (p:List bA) (Q:Nat) (a:bQ) (r:Option Addr) (R u:Nat) (z:Option Addr) (S B:Nat) (I:List af) (C:Option Addr) (T E:Nat) (r0:bO) (H:Own w D w [blk N [.pointer (some ⟨Q,0,none⟩), .slice O K.bE.ls.length P] 98,row O K.bE.ls.length P (List.flatMap bA.cells p) 42 21,sepL (List.flatMap bA.own p)]) (G:List.map bA.abs p=K.bE.ls) (W:R=a.aD.ls.length) (X:Ro w D fun w'=>bD w' 6 r a.aD.ls.length (List.flatMap bC.cells a.aD.ls)) (aV:a.aD.ls.length≤u∧a.aD.ls.length≤9223372036854775807) (L:List.map af.abs I=a.ai.ls) (Y:S=a.ai.ls.length) (Z:Ro w D fun w'=>bD w' 3 z a.ai.ls.length (List.flatMap af.cells I)) (aW:a.ai.ls.length≤B∧a.ai.ls.length≤9223372036854775807) (M:∀ x ∈ I,Ro w D (fun w'=>bD w' 2 x.au.A x.au.ls.length (List.flatMap aJ.cells x.au.ls))∧(x.au.ls.length≤x.au.c∧x.au.ls.length≤9223372036854775807)) (aa:T=a.ag.ls.length) (ae:Ro w D fun w'=>bD w' 2 C a.ag.ls.length (List.flatMap bv.cells a.ag.ls)) (aX:a.ag.ls.length≤E∧a.ag.ls.length≤9223372036854775807) (bW:K.bE.ls.length≤1000000∧a.aD.ls.length≤1000000∧a.ag.ls.length≤1000000∧a.ai.ls.length≤1000000) (bX:(∀ x ∈ a.ai.ls,x.au.ls.length≤1000000)) (hr:dB K a=r0):
    Calls Tryz.prog 65 #[vP N 0, .agg (gH a.aM a.aP a.fO a.aS a.dJ a.d9 a.aY a.ax a.bf a.di a.bi a.aI a.dM a.cZ a.xN a.dY a.bW.bJ a.bW.bX r R u z S B C T E).toArray] w (dS fun v w'=> ∃ (B0ox0:Option Addr) (b0ox0:Nat) (e0ox0:List bA),v= .tuple #[]∧Own w D w' [blk N [vP Q 0, .slice B0ox0 r0.bE.ls.length b0ox0] 98,row B0ox0 r0.bE.ls.length b0ox0 (List.flatMap bA.cells e0ox0) 42 21,sepL (List.flatMap bA.own e0ox0)]∧(List.map bA.abs e0ox0=r0.bE.ls)∧(r0.bE.ls.length=K.bE.ls.length+1)):=by
 subst W Y aa
 have aT:=az G
 have aU:=az L
 have aY:=H.rowC (i:=1) rfl
 refine cb Tryz.func65 ?_
 refine sr ?_
 refine dK (gM a r u z B C E) 42 H ?_
 intro J bY aj
 refine ns (Kz (vP J 18) (Lz (.slice r a.aD.ls.length u) aj 0 Tryz.isAgg39 ?_))
 obtain⟨bZ,ak,au,av,bJ⟩:=EU aj
 refine cl Tryz.call109 (mV _ _ r a.aD.ls.length u a.aD.ls a.aD.ls ak (au _ X) rfl e6 rfl) ?_
 rintro _ cu ⟨b,d,rfl,ax⟩
 have ay:=av _ _ ax
 have bK:=ay.rowC (i:=0) rfl
 refine Kz (vP J 18) ?_
 have aZ:=ay.pf [1]
 refine dN [.slice b a.aD.ls.length d] 18 aZ Tryz.sizeOf39 ?_
 intro cz aA
 refine ns (Kz (vP J 20) (Lz (.slice C a.ag.ls.length E) aA 0 Tryz.isAgg29 ?_))
 obtain⟨cB,aB,aC,aD,bL⟩:=EU aA
 refine cl Tryz.call44 (lM _ _ C a.ag.ls.length E a.ag.ls a.ag.ls aB (aC _ ae) rfl e6 rfl) ?_
 rintro _ cK ⟨e,g,rfl,aF⟩
 have aG:=aD _ _ aF
 have bM:=aG.rowC (i:=0) rfl
 refine Kz (vP J 20) ?_
 have bf:=aG.pf [1]
 refine dN [.slice e a.ag.ls.length g] 20 bf Tryz.sizeOf29 ?_
 intro cO aH
 refine ns (Kz (vP J 19) (Lz (.slice z a.ai.ls.length B) aH 0 Tryz.isAgg40 ?_))
 obtain⟨l,U⟩:∃ q,jb a.ai.ls=q:=⟨_,rfl⟩
 obtain⟨cZ,aI,V,aK,bN⟩:=EU aH
 refine cl Tryz.call48 (lN _ _ z a.ai.ls.length B I a.ai.ls l aI L (V _ Z) (fun x9 h9=>⟨V _ (M x9 h9).1,(M x9 h9).2⟩) rfl e6 (by first | assumption | exact dD f5 | (intro x hx; exact absurd hx List.not_mem_nil)) U) ?_
 rintro _ df ⟨h,j,n,rfl,aL,F⟩
 have aM:=aK _ _ aL
 have bS:=az F
 have bT:=aM.rowC (i:=0) rfl
 refine Kz (vP J 19) ?_
 have bg:=aM.pf [2]
 refine dN [.slice h l.length j] 19 bg Tryz.sizeOf40 ?_
 intro dh bi
 refine nt ?_
 refine oF 8 [7,10] Fp bi ?_
 intro di bn
 refine Fz (v:=vP N 0) 0 rfl e7 (fun _=>E5 rfl) (qv 1 rfl rfl (qp N 0 2 rfl (qp N 1 3 rfl (ql 4 rfl 5 Tryz.isAgg45 rfl rfl rfl (qt (v:= .agg (gH a.aM a.aP a.fO a.aS a.dJ a.d9 a.aY a.ax a.bf a.di a.bi a.aI a.dM a.cZ a.xN a.dY a.bW.bJ a.bW.bX b a.aD.ls.length d h l.length j e a.ag.ls.length g).toArray) 5 rfl (fun _ ⟨_,H9⟩=>EY rfl (Fb (cs:=(gH a.aM a.aP a.fO a.aS a.dJ a.d9 a.aY a.ax a.bf a.di a.bi a.aI a.dM a.cZ a.xN a.dY a.bW.bJ a.bW.bX b a.aD.ls.length d h l.length j e a.ag.ls.length g)) Tryz.isAgg42 Tryz.sizeOf42 ((H9.cls (i:=0) rfl).lit (k:=0) (m:=21) rfl))) ?_)))))
 refine qd 6 rfl (F9 (cs:=(gH a.aM a.aP a.fO a.aS a.dJ a.d9 a.aY a.ax a.bf a.di a.bi a.aI a.dM a.cZ a.xN a.dY a.bW.bJ a.bW.bX b a.aD.ls.length d h l.length j e a.ag.ls.length g)) (t:=42) (sz:=21) (m:=1) bn rfl rfl (fun _=>by kernel_rfl) rfl f3 ?_)
 intro aN dn ag
 replace ag:=Fx (y:=row aN 1 1 (List.flatMap bA.cells ([(bA.mk a.aM a.aP a.fO a.aS a.dJ a.d9 a.aY a.ax a.bf a.di a.bi a.aI a.dM a.cZ a.xN a.dY a.bW (Sv.mk b d a.aD.ls) (Sv.mk h j n) (Sv.mk e g a.ag.ls))])) 42 21) (congrArg (fun z9=>row aN 1 1 [vI a.aM,vI a.aP,vI a.fO,vI a.aS,vI a.dJ,vI a.d9,vU a.aY,vU a.ax,vU a.bf,vU a.di,vU a.bi,vU a.aI,vU a.dM,vU a.cZ,vU a.xN, .bool a.dY, .string ⟨List.toArray a.bW.bJ⟩, .string ⟨List.toArray a.bW.bX⟩, .slice b a.aD.ls.length d, .slice h z9 j, .slice e a.ag.ls.length g] 42 21) (az F).symm) ag
 have aP:=ag.pb [0]
 refine⟨.inr ⟨_,aP⟩, ?_⟩
 have aQ:=aP.pf [6,7,4,1,3,2]
 refine qd 7 rfl (Fy (k:=K.bE.ls.length) (m:=1) (uh) aQ rfl rfl (iM Tryz.underlying45 (aQ.rds (i:=8) rfl) (fu bA.one ([(bA.mk a.aM a.aP a.fO a.aS a.dJ a.d9 a.aY a.ax a.bf a.di a.bi a.aI a.dM a.cZ a.xN a.dY a.bW (Sv.mk b d a.aD.ls) (Sv.mk h j n) (Sv.mk e g a.ag.ls))]))) rfl e6 (s:=List.length (K.bE.ls++ [(bQ.mk a.aM a.aP a.fO a.aS a.dJ a.d9 a.aY a.ax a.bf a.di a.bi a.aI a.dM a.cZ a.xN a.dY a.bW (Ll.mk a.aD.ls) (Ll.mk l) (Ll.mk a.ag.ls))])) f7 (List.flatMap_append).symm ?_)
 intro aR aS bq bu
 have bz:=bu.pf [3]
 have bB:=FL (az F).symm bz
 have bE:=bB.pf [2,3,0,4,5]
 have bF:Own w D bq (sepL (List.flatMap bA.own (p++ [(bA.mk a.aM a.aP a.fO a.aS a.dJ a.d9 a.aY a.ax a.bf a.di a.bi a.aI a.dM a.cZ a.xN a.dY a.bW (Sv.mk b d a.aD.ls) (Sv.mk h j n) (Sv.mk e g a.ag.ls))]))::_):=bE.sepAdd (L2:= [row b a.aD.ls.length d (List.flatMap bC.cells a.aD.ls) 72 6,row h n.length j (List.flatMap af.cells n) 149 3,row e a.ag.ls.length g (List.flatMap bv.cells a.ag.ls) 89 2,sepL (List.flatMap af.own n)]) (List.flatMap_append (f:=bA.own) (xs:=p) (ys:= [(bA.mk a.aM a.aP a.fO a.aS a.dJ a.d9 a.aY a.ax a.bf a.di a.bi a.aI a.dM a.cZ a.xN a.dY a.bW (Sv.mk b d a.aD.ls) (Sv.mk h j n) (Sv.mk e g a.ag.ls))])).symm
 have bU:List.length (K.bE.ls++ [(bQ.mk a.aM a.aP a.fO a.aS a.dJ a.d9 a.aY a.ax a.bf a.di a.bi a.aI a.dM a.cZ a.xN a.dY a.bW (Ll.mk a.aD.ls) (Ll.mk l) (Ll.mk a.ag.ls))])=K.bE.ls.length+1:=by simp only [List.length_append,List.length_cons,List.length_nil]
 have bV:=az (nZ (es:= [(bA.mk a.aM a.aP a.fO a.aS a.dJ a.d9 a.aY a.ax a.bf a.di a.bi a.aI a.dM a.cZ a.xN a.dY a.bW (Sv.mk b d a.aD.ls) (Sv.mk h j n) (Sv.mk e g a.ag.ls))]) (ms:= [(bQ.mk a.aM a.aP a.fO a.aS a.dJ a.d9 a.aY a.ax a.bf a.di a.bi a.aI a.dM a.cZ a.xN a.dY a.bW (Ll.mk a.aD.ls) (Ll.mk l) (Ll.mk a.ag.ls))]) G (congrArg (fun z9=> [bQ.mk a.aM a.aP a.fO a.aS a.dJ a.d9 a.aY a.ax a.bf a.di a.bi a.aI a.dM a.cZ a.xN a.dY a.bW (Ll.mk a.aD.ls) (Ll.mk z9) (Ll.mk a.ag.ls)]) F))
 refine⟨.inl e7, ?_⟩
 refine Fz (v:=vP N 0) 8 rfl e7 (fun _=>yk) (Fz (v:=vP N 1) 9 rfl e7 (fun _=>yk) ?_)
 have bG:=bF.pf [3]
 refine qe 10 rfl (Do.store (vs:= [.slice aR (List.length (K.bE.ls++ [(bQ.mk a.aM a.aP a.fO a.aS a.dJ a.d9 a.aY a.ax a.bf a.di a.bi a.aI a.dM a.cZ a.xN a.dY a.bW (Ll.mk a.aD.ls) (Ll.mk l) (Ll.mk a.ag.ls))])) aS]) (o:=1) bG rfl rfl Tryz.sizeOf45 rfl rfl rfl rfl ?_)
 intro dw bH
 refine⟨.inl e7, ?_⟩
 refine qn (Ff (res0 rfl) ?_)
 have bI:=bH.pk [0,2,1]
 obtain rfl:_=bO.mk (Ll.mk (K.bE.ls++ [(bQ.mk a.aM a.aP a.fO a.aS a.dJ a.d9 a.aY a.ax a.bf a.di a.bi a.aI a.dM a.cZ a.xN a.dY a.bW (Ll.mk a.aD.ls) (Ll.mk l) (Ll.mk a.ag.ls))])):=hr.symm.trans (ah U)
 exact⟨aR,aS,(p++ [(bA.mk a.aM a.aP a.fO a.aS a.dJ a.d9 a.aY a.ax a.bf a.di a.bi a.aI a.dM a.cZ a.xN a.dY a.bW (Sv.mk b d a.aD.ls) (Sv.mk h j n) (Sv.mk e g a.ag.ls))]),rfl,bI,(nZ (es:= [(bA.mk a.aM a.aP a.fO a.aS a.dJ a.d9 a.aY a.ax a.bf a.di a.bi a.aI a.dM a.cZ a.xN a.dY a.bW (Sv.mk b d a.aD.ls) (Sv.mk h j n) (Sv.mk e g a.ag.ls))]) (ms:= [(bQ.mk a.aM a.aP a.fO a.aS a.dJ a.d9 a.aY a.ax a.bf a.di a.bi a.aI a.dM a.cZ a.xN a.dY a.bW (Ll.mk a.aD.ls) (Ll.mk l) (Ll.mk a.ag.ls))]) G (congrArg (fun z9=> [bQ.mk a.aM a.aP a.fO a.aS a.dJ a.d9 a.aY a.ax a.bf a.di a.bi a.aI a.dM a.cZ a.xN a.dY a.bW (Ll.mk a.aD.ls) (Ll.mk z9) (Ll.mk a.ag.ls)]) F)),(by first | omega | (simp only [List.length_append,List.length_cons,List.length_nil]))⟩
end Go.Proofs.YtbkagebjhbphaaaGreat
namespace Go.Proofs.YtbkagebjhbphaaaGreat
open List renaming append_nil→s9,exists_mem_of_ne_nil→I5,filter_append→I2,mem_filter→I3,nil_append→I4
set_option linter.unusedVariables false
set_option linter.unusedSimpArgs false
section
variable {α:Type} (lt:α→α→Bool)
structure wW:Prop where
  Ca:∀ x,lt x x=false
  tr:∀ x y z,lt x y=true→lt y z=true→lt x z=true
  nt:∀ x y z,lt x y=false→lt y z=false→lt x z=false
def alike (x y:α):Bool:= !lt x y && !lt y x
def qU (l m:List α):Prop:=∀ x,l.filter (alike lt x)=m.filter (alike lt x)
def Eo (l:List α):Prop:=l.Pairwise (fun x y=>lt y x=false)
variable {lt}
theorem tu {x y:α}:alike lt x y=true↔lt x y=false∧lt y x=false:=by
  unfold alike
  cases lt x y <;> cases lt y x <;> simp
theorem wW.self (h:wW lt) (x:α):alike lt x x=true:=tu.2 ⟨h.Ca x,h.Ca x⟩
theorem wW.to (h:wW lt) {x y z:α} (a:alike lt x y=true) (b:alike lt x z=true):alike lt y z=true:=by
  obtain⟨c,d⟩:=tu.1 a
  obtain⟨e,f⟩:=tu.1 b
  exact tu.2 ⟨h.nt y x z d e,h.nt z x y f c⟩
theorem IP (h:wW lt) {x y:α} (a:lt x y=true):lt y x=false:=by
  cases b:lt y x with
  | false=>rfl
  | true=>have:=h.tr x y x a b; rw [h.Ca x] at this; cases this
theorem qU.refl (l:List α):qU lt l l:=fun _=>rfl
theorem qU.symm {l m:List α} (h:qU lt l m):qU lt m l:=fun x=>(h x).symm
theorem qU.trans {l m n:List α} (h:qU lt l m) (a:qU lt m n):qU lt l n:=fun x=>(h x).trans (a x)
theorem qU.app {l m a b:List α} (h:qU lt l m) (c:qU lt a b):qU lt (l++a) (m++b):=fun x=>by
  rw [I2,I2,h x,c x]
theorem IK (ho:wW lt) {l m:List α} (h:qU lt l m) {x:α} (hx:x ∈ m):x ∈ l:=by
  have:x ∈ m.filter (alike lt x):=I3.2 ⟨hx,ho.self x⟩
  rw [← h x] at this
  exact(I3.1 this).1
theorem qU.swap (ho:wW lt) {b c:List α} (h:∀ x ∈ b, ∀ y ∈ c,lt y x=true):qU lt (b++c) (c++b):=fun z=>by
  rw [I2,I2]
  by_cases hb:b.filter (alike lt z)= []
  · rw [hb,I4,s9]
  · have hc:c.filter (alike lt z)= []:=by
      apply Classical.byContradiction
      intro hc
      obtain⟨x,hx⟩:=I5 _ hb
      obtain⟨y,hy⟩:=I5 _ hc
      obtain⟨a,d⟩:=I3.1 hx
      obtain⟨e,f⟩:=I3.1 hy
      have:=(tu.1 (ho.to d f)).2
      rw [h x a y e] at this; cases this
    rw [hc,I4,s9]
end
end Go.Proofs.YtbkagebjhbphaaaGreat
