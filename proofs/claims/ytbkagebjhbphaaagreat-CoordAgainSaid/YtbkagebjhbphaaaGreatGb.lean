/-
 owner: what was told of an operation gathered.
-/
import Derived.Test.YtbkagebjhbphaaaGreatGa
namespace Go.Proofs.YtbkagebjhbphaaaGreat
set_option maxRecDepth 100000
set_option linter.unusedVariables false
set_option linter.unusedSimpArgs false
def tot:List aY→Nat
  | []=>0
  | x::l=>List.length x.au.ls+1+tot l
theorem ww:∀ a c:List aY,tot (a++c)=tot a+tot c
  | [],c=>(Nat.zero_add _).symm
  | x::a,c=>by rw [List.cons_append,tot,tot,ww a c]; omega
theorem wX {l:List aY} {k:Nat} {x:aY} (hx:l[k]? =some x):tot (List.take (k+1) l)=tot (List.take k l)+(List.length x.au.ls+1):=by
  obtain⟨h,rfl⟩:=List.getElem?_eq_some_iff.1 hx
  rw [List.take_succ_eq_append_getElem h,ww]; rfl
theorem zQ {l:List aY} {k n:Nat} {x:aY} (h:n≤tot (List.take k l)) (hx:l[k]? =some x):n+List.length x.au.ls≤tot (List.take (k+1) l):=by
  rw [wX hx]; omega
theorem vE (l:List aY) (k:Nat):tot (List.take k l)≤tot l:=by
  have:=ww (List.take k l) (List.drop k l)
  rw [List.take_append_drop] at this
  omega
theorem Cm {l:List aY} {k N:Nat} {x:aY} (h:tot l≤N) (hx:l[k]? =some x):tot (List.take k l)+List.length x.au.ls≤N:=by
  have:=vE l (k+1)
  rw [wX hx] at this
  omega
theorem Ba:∀ l:List aY,List.length l≤tot l
  | []=>Nat.le_refl _
  | x::l=>by have:=Ba l; rw [tot,List.length_cons]; omega
end Go.Proofs.YtbkagebjhbphaaaGreat
namespace Go.Proofs.YtbkagebjhbphaaaGreat
open Int renaming toNat→D2
open List renaming flatMap→q6,length→s2,length_append→p5,mem_of_getElem?→E0,take→r5,toArray→y6
open Ll renaming mk→E4
open Nat renaming le_trans→K2
open _root_.Go.Proofs.Tryz renaming isAgg149→E7,sizeOf149→F0
open Go.RowKit
set_option linter.unusedVariables false
set_option linter.unusedSectionVars false
set_option linter.unusedSimpArgs false
def jy (d:bC):List aY→List aL→(List aL)
  | [],a=>a
  | b::c,a=>jy d c (a++b.au.ls)
def kT (c:bC) (l1:List aY):aY:=
 if c.aH=4 then bnd (jy c l1 ([])) fun sLrtL=>bnd (jV sLrtL) fun b=>aY.mk false ([]) (E4 (r5 (D2 (min (max c.bU 0) ((sLrtL.length:Nat):Int))) b)) else if((l1.length:Nat):Int)=0 then aY.mk false ([]) (E4 ([])) else bnd (List.getD l1 0 default) fun a=>aY.mk a.dZ a.aW (E4 a.au.ls)
theorem wC (w:World) (D:Nat→Prop) (d:bC) (M:Option Addr) (n1 c1:Nat) (d1:List af) (l1:List aY) (r0:aY) (H:Own w D w []) (Y:List.map af.abs d1=l1) (t:Ro w D fun w'=>bD w' 3 M n1 (q6 af.cells d1)) (G:∀ x ∈ d1,Ro w D (fun w'=>bD w' 2 x.au.A x.au.ls.length (q6 aL.cells x.au.ls))∧(x.au.ls.length≤x.au.c∧x.au.ls.length≤9223372036854775807)) (aU:n1=l1.length) (dm:l1.length *48≤211106232532992) (I:tot l1≤100000000) (hr:kT d l1=r0):
    Calls Tryz.prog 149 #[.agg (bC.cells d).toArray, .slice M n1 c1] w (dR fun v w'=> ∃ (N:Option Addr) (O:Nat),v= .agg #[.bool r0.dZ, .string ⟨y6 r0.aW⟩, .slice N r0.au.ls.length O]∧Own w D w' [row N r0.au.ls.length O (q6 aL.cells r0.au.ls) 153 2]):=by
 subst aU
 have bQ:=az Y
 refine cb Tryz.func149 ?_
 refine sr ?_
 refine dM (bC.cells d) 72 H ?_
 intro o dn aW
 refine dM [.bool false, .string ⟨y6 ([])⟩, .slice none 0 0] 149 aW ?_
 intro z aX p
 refine nt (FU (sr (Kz (vP o 0) (Lz (vI d.aH) p 1 Tryz.isAgg3 (fw (.bool (decide (¬ (d.aH=4)))) (Gi (e:= !(decide (d.aH=4))) yk decide_not.symm) (nt ?_))))))
 by_cases B:d.aH=4
 refine jF (dF (JP B)) (sk (sr (An rfl (FU (sr (Mz rfl (Kz (vJ l1.length) (Mn rfl (bo ?_)))))))))
 have aZ:Own w D aX [row none 0 0 (q6 aL.cells ([])) 153 2,blk z [.bool false, .string ⟨y6 ([])⟩, .slice none 0 0] 149,blk o (bC.cells d) 72]:=p.free (fB 153 2)
 have bf:=aZ.pb [0]
 obtain⟨bg,C⟩:=rX fun(u:Option Addr) (y:Nat) (b:List aL) (f:Nat) (w':World)=>Own w D w' [blk z [.bool false, .string ⟨y6 ([])⟩, .slice none 0 0] 149,blk o (bC.cells d) 72,row u b.length y (q6 aL.cells b) 153 2]∧f≤l1.length∧b.length≤tot (r5 f l1)∧tot (r5 f l1)≤100000000∧jy d l1 ([])=jy d (List.drop f l1) b
 refine Wp.loop (fun i:(Option Addr) × Nat × (List aL) × Nat=> [(6, .slice i.1 i.2.2.1.length i.2.1),(27,vJ i.2.2.2),(26,vJ l1.length),(25, .slice M l1.length c1),(4,vP z 0),(2,vP o 0)]) bg (fun i=>l1.length - i.2.2.2) (none,0, [],0) ⟨rfl,rfl,rfl,rfl,rfl,rfl,trivial⟩ (C.2 ⟨bf,(show 0≤l1.length∧0≤tot (r5 0 l1)∧tot (r5 0 l1)≤100000000∧jy d l1 ([])=jy d (List.drop 0 l1) ([]) from ⟨e6,by first | exact JO _ | (rw [p5]; exact zQ f4 f4),by exact K2 (vE _ _) I,rfl⟩)⟩) ?_
 rintro ⟨u,y,b,f⟩ dw au
 obtain⟨E,bR,bS,bT,P⟩:=C.1 au
 refine sr (Kz (.bool (decide (((f:Nat):Int) < ((l1.length:Nat):Int)))) (nt (FU ?_)))
 by_cases av:((f:Nat):Int) < ((l1.length:Nat):Int)
 obtain⟨g,r⟩:=dK (ls:=d1) (i:=f) af.len f3 (E.ro t) e9
 have Q:=fo Y r
 have bU:=(G _ (E0 r)).2
 have bV:tot (r5 f l1)+g.au.ls.length≤100000000:=Cm I Q
 have ax:=drop_at Q
 refine jT (dT av) (sk (FU (bo (sr (fw (.pointer (some ⟨ab M,ao M+f *3,none⟩)) (FZ (rP) rfl rfl ((E.ro t).addr (i:=f) e6) e6) (fw (.agg (af.cells g).toArray) (F5 rfl (Gc (cs:=(af.cells g)) E7 F0 ((E.ro t).elem af.len r f3))) ?_))))))
 refine dM [.bool false, .string ⟨y6 ([])⟩, .slice none 0 0] 149 E ?_
 intro bi dx bn
 refine dN (af.cells g) 0 bn F0 ?_
 intro dz ay
 refine nt (FT (Mz rfl (Kz (vP bi 2) (Lz (.slice g.au.A g.au.ls.length g.au.c) ay 0 Tryz.isAgg147 ?_))))
 have aA:=ay.pf [3]
 refine WL.do rfl (Gr (k:=b.length) (m:=g.au.ls.length) (jO) aA rfl rfl (iU Tryz.underlying147 (aA.ro (G _ (E0 r)).1) (fF aL.one g.au.ls)) rfl e6 (s:=s2 (b++g.au.ls)) f7 (List.flatMap_append).symm ?_)
 intro bq bu dA bv
 have bW:s2 (b++g.au.ls)=b.length+g.au.ls.length:=by simp only [p5,List.length_cons,List.length_nil]
 refine Az rfl (WL.nil (bN (FW ?_)))
 have bz:=bv.pk [0,2,3]
 refine FT (fw (vJ (f+1)) (FV (e:=IntKind.i64.wrap (((f:Nat):Int)+1)) yk f1) (Mz rfl (WL.nil ?_)))
 have bA:=bz.pb [0]
 exact F9 (bq,bu,(b++g.au.ls),f+1) ⟨rfl,rfl,rfl,rfl,rfl,rfl,trivial⟩ (C.2 ⟨bA,e6,by first | exact JO _ | (rw [p5]; exact zQ f4 f4),by exact K2 (vE _ _) I,et (P) (et (congrArg (fun q=>jy d q b) ax) rfl)⟩) (by show l1.length - (f+1) < l1.length - f; omega)
 refine jF (dF av) (Wp.exit (F4 ?_))
 have aB:jy d l1 ([])=b:=et (P) (et (congrArg (fun q=>jy d q b) (eZ (ls:=l1) (i:=f) e6)) rfl)
 refine F4 (Gg (FW (sr (Mz rfl ?_))))
 have bB:=E.pf [2]
 obtain⟨h,R⟩:∃ q,jV b=q:=⟨_,rfl⟩
 obtain⟨dB,aC,bX,aD,bY⟩:=Gn bB
 refine cl Tryz.call165 (nI _ _ u b.length y b h aC rfl e6 R) ?_
 rintro _ dC ⟨rfl,aF,S⟩
 have Z:=aD _ _ aF
 have bZ:=Z.rowC (i:=0) rfl
 replace S:h.length=b.length:=S
 refine ns (Kz (vP o 5) (Lz (vI d.bU) Z 2 Tryz.isAgg3 (fw (vI (max d.bU 0)) (FV (e:=if 0 > d.bU then 0 else d.bU) yk e6) (Mz rfl (Kz (vJ b.length) (fw (vI (min (max d.bU 0) ((b.length:Nat):Int))) (FV (e:=if((b.length:Nat):Int) < max d.bU 0 then((b.length:Nat):Int) else max d.bU 0) yk e6) (An rfl (FU ?_))))))))
 have bE:=Z.pk [0,1]
 refine FT (Mz rfl (fw (vI ((D2 (min (max d.bU 0) ((b.length:Nat):Int)):Nat):Int)) (FV (e:=min (max d.bU 0) ((b.length:Nat):Int)) (F7 rfl) e6) (fw (.slice u (D2 (min (max d.bU 0) ((b.length:Nat):Int))) y) (GQ (jO) rfl rfl e6) ?_)))
 have cu:D2 (min (max d.bU 0) ((b.length:Nat):Int))=s2 (r5 (D2 (min (max d.bU 0) ((b.length:Nat):Int))) h):=f0
 obtain⟨dD,aG,cz,aH,aI⟩:=FY bE
 refine cl Tryz.call75 (kP _ _ u (D2 (min (max d.bU 0) ((b.length:Nat):Int))) y (r5 (D2 (min (max d.bU 0) ((b.length:Nat):Int))) h) (r5 (D2 (min (max d.bU 0) ((b.length:Nat):Int))) h) aG (fun w9 h9=>IR (hi:=D2 (min (max d.bU 0) ((b.length:Nat):Int))) aL.len ((aI _ 0 _ rfl aV) w9 h9) e6) f0 g4 rfl) ?_
 rintro _ dH ⟨J,K,rfl,aJ⟩
 have aK:=aH _ _ aJ
 have cB:=aK.rowC (i:=0) rfl
 refine Kz (.agg #[.bool false, .string ⟨y6 ([])⟩, .slice J (s2 (r5 (D2 (min (max d.bU 0) ((b.length:Nat):Int))) h)) K]) ?_
 have bF:=aK.pf [2]
 refine dN [.bool false, .string ⟨y6 ([])⟩, .slice J (s2 (r5 (D2 (min (max d.bU 0) ((b.length:Nat):Int))) h)) K] 0 bF F0 ?_
 intro dI aM
 refine nt (rt (Fin.res (mZ rfl rfl (Gc (cs:= [.bool false, .string ⟨y6 ([])⟩, .slice J (s2 (r5 (D2 (min (max d.bU 0) ((b.length:Nat):Int))) h)) K]) E7 F0 ((aM.cls (i:=0) rfl).lit (k:=0) (m:=3) rfl))) ?_))
 have bG:=aM.pk [1]
 obtain rfl:_=aY.mk false ([]) (E4 (r5 (D2 (min (max d.bU 0) ((b.length:Nat):Int))) h)):=hr.symm.trans (et (ip B) (et (ai aB) (ai R)))
 exact⟨J,K,rfl,bG⟩
 refine jT (dT B) (FU (sr (Mz rfl (Kz (vJ l1.length) (Kz (.bool (decide (((l1.length:Nat):Int)=0))) (nt ?_))))))
 by_cases L:((l1.length:Nat):Int)=0
 refine jT (dT L) (sr (Kz (.agg #[.bool false, .string ⟨y6 ([])⟩, .slice none 0 0]) ?_))
 refine dN [.bool false, .string ⟨y6 ([])⟩, .slice none 0 0] 0 p F0 ?_
 intro bH aN
 refine nt (rt (tR (tR (Fin.res (mZ rfl rfl (Gc (cs:= [.bool false, .string ⟨y6 ([])⟩, .slice none 0 0]) E7 F0 ((aN.cls (i:=0) rfl).lit (k:=0) (m:=3) rfl))) ?_))))
 have bI:Own w D bH [row none 0 0 (q6 aL.cells ([])) 153 2,blk z [.bool false, .string ⟨y6 ([])⟩, .slice none 0 0] 149,blk o (bC.cells d) 72]:=aN.free (fB 153 2)
 have bK:=bI.pk [0]
 obtain rfl:_=aY.mk false ([]) (E4 ([])):=hr.symm.trans (et (iN B) (ip L))
 exact⟨none,0,rfl,bK⟩
 refine jF (dF L) (sk (sr (Mz rfl ?_)))
 obtain⟨a,j⟩:=dK (ls:=d1) (i:=0) af.len f3 (p.ro t) e9
 have F:=fo Y j
 have bL:=(G _ (E0 j)).2
 have bM:a.au.ls.length≤100000000:=K2 (Nat.le_add_left _ _) (Cm I F)
 refine fw (.pointer (some ⟨ab M,ao M+0 *3,none⟩)) (FZ (rP) rfl rfl ((p.ro t).addr (i:=0) e6) e6) (fw (.agg (af.cells a).toArray) (F5 rfl (Gc (cs:=(af.cells a)) E7 F0 ((p.ro t).elem af.len j f3))) ?_)
 refine dM [.bool false, .string ⟨y6 ([])⟩, .slice none 0 0] 149 p ?_
 intro T cK aO
 refine dN (af.cells a) 0 aO F0 ?_
 intro cO U
 refine ns (Kz (vP T 2) (Lz (.slice a.au.A a.au.ls.length a.au.c) U 0 Tryz.isAgg147 ?_))
 obtain⟨cZ,aa,ae,ag,bO⟩:=FY U
 refine cl Tryz.call75 (kP _ _ a.au.A a.au.ls.length a.au.c a.au.ls a.au.ls aa (ae _ (G _ (E0 j)).1) rfl e6 rfl) ?_
 rintro _ df ⟨l,n,rfl,ah⟩
 have V:=ag _ _ ah
 have bP:=V.rowC (i:=0) rfl
 refine Kz (vP T 2) ?_
 have aP:=V.pf [1]
 refine dN [.slice l a.au.ls.length n] 2 aP Tryz.sizeOf147 ?_
 intro dh W
 refine ns (La ([.bool a.dZ, .string ⟨y6 a.aW⟩, .slice l a.au.ls.length n]) W 0 E7 F0 ?_)
 have aQ:=W.pf [2]
 refine dN [.bool a.dZ, .string ⟨y6 a.aW⟩, .slice l a.au.ls.length n] 0 aQ F0 ?_
 intro di X
 refine nt (rt (tR (Fin.res (mZ rfl rfl (Gc (cs:= [.bool a.dZ, .string ⟨y6 a.aW⟩, .slice l a.au.ls.length n]) E7 F0 ((X.cls (i:=0) rfl).lit (k:=0) (m:=3) rfl))) ?_)))
 have aR:=X.pk [2]
 obtain rfl:_=aY.mk a.dZ a.aW (E4 a.au.ls):=hr.symm.trans (et (iN B) (et (iN L) (ai (bJ F))))
 exact⟨l,n,rfl,aR⟩
end Go.Proofs.YtbkagebjhbphaaaGreat
