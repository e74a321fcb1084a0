/-
 owner: what was told of an operation gathered.
-/
import Derived.Test.YtbkagebjhbphaaaGreatGa
namespace Go.Proofs.YtbkagebjhbphaaaGreat
set_option maxRecDepth 100000
set_option linter.unusedVariables false
set_option linter.unusedSimpArgs false
def tot:List aX→Nat
  | []=>0
  | x::l=>List.length x.au.ls+1+tot l
theorem vQ:∀ a c:List aX,tot (a++c)=tot a+tot c
  | [],c=>(Nat.zero_add _).symm
  | x::a,c=>by rw [List.cons_append,tot,tot,vQ a c]; omega
theorem wG {l:List aX} {k:Nat} {x:aX} (hx:l[k]? =some x):tot (List.take (k+1) l)=tot (List.take k l)+(List.length x.au.ls+1):=by
  obtain⟨h,rfl⟩:=List.getElem?_eq_some_iff.1 hx
  rw [List.take_succ_eq_append_getElem h,vQ]; rfl
theorem zk {l:List aX} {k n:Nat} {x:aX} (h:n≤tot (List.take k l)) (hx:l[k]? =some x):n+List.length x.au.ls≤tot (List.take (k+1) l):=by
  rw [wG hx]; omega
theorem uV (l:List aX) (k:Nat):tot (List.take k l)≤tot l:=by
  have:=vQ (List.take k l) (List.drop k l)
  rw [List.take_append_drop] at this
  omega
theorem BD {l:List aX} {k N:Nat} {x:aX} (h:tot l≤N) (hx:l[k]? =some x):tot (List.take k l)+List.length x.au.ls≤N:=by
  have:=uV l (k+1)
  rw [wG hx] at this
  omega
theorem Ai:∀ l:List aX,List.length l≤tot l
  | []=>Nat.le_refl _
  | x::l=>by have:=Ai l; rw [tot,List.length_cons]; omega
end Go.Proofs.YtbkagebjhbphaaaGreat
namespace Go.Proofs.YtbkagebjhbphaaaGreat
open Int renaming toNat→D2
open List renaming flatMap→q6,length→s2,length_append→p5,mem_of_getElem?→E0,take→r5,toArray→y6
open Ll renaming mk→E4
open Nat renaming le_trans→J6
open _root_.Go.Proofs.Tryz renaming isAgg149→E7,sizeOf149→F0
open Go.RowKit
set_option linter.unusedVariables false
set_option linter.unusedSectionVars false
set_option linter.unusedSimpArgs false
def jo (d:bC):List aX→List aJ→(List aJ)
  | [],a=>a
  | b::c,a=>jo d c (a++b.au.ls)
def kN (c:bC) (l1:List aX):aX:=
 if c.aM=4 then bnd (jo c l1 ([])) fun sLrtL=>bnd (jQ sLrtL) fun b=>aX.mk false ([]) (E4 (r5 (D2 (min (max c.bT 0) ((sLrtL.length:Nat):Int))) b)) else if((l1.length:Nat):Int)=0 then aX.mk false ([]) (E4 ([])) else bnd (List.getD l1 0 default) fun a=>aX.mk a.dW a.aU (E4 a.au.ls)
theorem vT (w:World) (D:Nat→Prop) (d:bC) (M:Option Addr) (n1 c1:Nat) (d1:List af) (l1:List aX) (r0:aX) (H:Own w D w []) (Y:List.map af.abs d1=l1) (t:Ro w D fun w'=>bD w' 3 M n1 (q6 af.cells d1)) (G:∀ x ∈ d1,Ro w D (fun w'=>bD w' 2 x.au.A x.au.ls.length (q6 aJ.cells x.au.ls))∧(x.au.ls.length≤x.au.c∧x.au.ls.length≤9223372036854775807)) (aV:n1=l1.length) (dm:l1.length *48≤211106232532992) (I:tot l1≤100000000) (hr:kN d l1=r0):
    Calls Tryz.prog 149 #[.agg (bC.cells d).toArray, .slice M n1 c1] w (dS fun v w'=> ∃ (N:Option Addr) (O:Nat),v= .agg #[.bool r0.dW, .string ⟨y6 r0.aU⟩, .slice N r0.au.ls.length O]∧Own w D w' [row N r0.au.ls.length O (q6 aJ.cells r0.au.ls) 153 2]):=by
 subst aV
 have bQ:=az Y
 refine cb Tryz.func149 ?_
 refine sr ?_
 refine dK (bC.cells d) 72 H ?_
 intro o dn aW
 refine dK [.bool false, .string ⟨y6 ([])⟩, .slice none 0 0] 149 aW ?_
 intro z aY p
 refine nt (EP (sr (Kz (vP o 0) (Lz (vI d.aM) p 1 Tryz.isAgg3 (fw (.bool (decide (¬ (d.aM=4)))) (Fs (e:= !(decide (d.aM=4))) yk decide_not.symm) (nt ?_))))))
 by_cases B:d.aM=4
 refine jF (dF (IV B)) (sk (sr (An rfl (EP (sr (Mz rfl (Kz (vJ l1.length) (Mn rfl (bo ?_)))))))))
 have aZ:Own w D aY [row none 0 0 (q6 aJ.cells ([])) 153 2,blk z [.bool false, .string ⟨y6 ([])⟩, .slice none 0 0] 149,blk o (bC.cells d) 72]:=p.free (eZ 153 2)
 have bf:=aZ.pb [0]
 obtain⟨bg,C⟩:=rD fun(u:Option Addr) (y:Nat) (b:List aJ) (f:Nat) (w':World)=>Own w D w' [blk z [.bool false, .string ⟨y6 ([])⟩, .slice none 0 0] 149,blk o (bC.cells d) 72,row u b.length y (q6 aJ.cells b) 153 2]∧f≤l1.length∧b.length≤tot (r5 f l1)∧tot (r5 f l1)≤100000000∧jo d l1 ([])=jo d (List.drop f l1) b
 refine Wp.loop (fun i:(Option Addr) × Nat × (List aJ) × Nat=> [(6, .slice i.1 i.2.2.1.length i.2.1),(27,vJ i.2.2.2),(26,vJ l1.length),(25, .slice M l1.length c1),(4,vP z 0),(2,vP o 0)]) bg (fun i=>l1.length - i.2.2.2) (none,0, [],0) ⟨rfl,rfl,rfl,rfl,rfl,rfl,trivial⟩ (C.2 ⟨bf,(show 0≤l1.length∧0≤tot (r5 0 l1)∧tot (r5 0 l1)≤100000000∧jo d l1 ([])=jo d (List.drop 0 l1) ([]) from ⟨e6,by first | exact IU _ | (rw [p5]; exact zk f5 f5),by exact J6 (uV _ _) I,rfl⟩)⟩) ?_
 rintro ⟨u,y,b,f⟩ dw au
 obtain⟨E,bR,bS,bT,P⟩:=C.1 au
 refine sr (Kz (.bool (decide (((f:Nat):Int) < ((l1.length:Nat):Int)))) (nt (EP ?_)))
 by_cases av:((f:Nat):Int) < ((l1.length:Nat):Int)
 obtain⟨g,r⟩:=dG (ls:=d1) (i:=f) af.len f3 (E.ro t) e9
 have Q:=eP Y r
 have bU:=(G _ (E0 r)).2
 have bV:tot (r5 f l1)+g.au.ls.length≤100000000:=BD I Q
 have ax:=drop_at Q
 refine jT (dT av) (sk (EP (bo (sr (fw (.pointer (some ⟨ab M,ao M+f *3,none⟩)) (ET (rf) rfl rfl ((E.ro t).addr (i:=f) e6) e6) (fw (.agg (af.cells g).toArray) (EY rfl (Fb (cs:=(af.cells g)) E7 F0 ((E.ro t).elem af.len r f3))) ?_))))))
 refine dK [.bool false, .string ⟨y6 ([])⟩, .slice none 0 0] 149 E ?_
 intro bi dx bn
 refine dN (af.cells g) 0 bn F0 ?_
 intro dz ay
 refine nt (EO (Mz rfl (Kz (vP bi 2) (Lz (.slice g.au.A g.au.ls.length g.au.c) ay 0 Tryz.isAgg147 ?_))))
 have aA:=ay.pf [3]
 refine WL.do rfl (Fy (k:=b.length) (m:=g.au.ls.length) (jK) aA rfl rfl (iM Tryz.underlying147 (aA.ro (G _ (E0 r)).1) (fu aJ.one g.au.ls)) rfl e6 (s:=s2 (b++g.au.ls)) f7 (List.flatMap_append).symm ?_)
 intro bq bu dA bv
 have bW:s2 (b++g.au.ls)=b.length+g.au.ls.length:=by simp only [p5,List.length_cons,List.length_nil]
 refine Az rfl (WL.nil (bN (ER ?_)))
 have bz:=bv.pk [0,2,3]
 refine EO (fw (vJ (f+1)) (EQ (e:=IntKind.i64.wrap (((f:Nat):Int)+1)) yk f1) (Mz rfl (WL.nil ?_)))
 have bA:=bz.pb [0]
 exact E8 (bq,bu,(b++g.au.ls),f+1) ⟨rfl,rfl,rfl,rfl,rfl,rfl,trivial⟩ (C.2 ⟨bA,e6,by first | exact IU _ | (rw [p5]; exact zk f5 f5),by exact J6 (uV _ _) I,et (P) (et (congrArg (fun q=>jo d q b) ax) rfl)⟩) (by show l1.length - (f+1) < l1.length - f; omega)
 refine jF (dF av) (Wp.exit (EX ?_))
 have aB:jo d l1 ([])=b:=et (P) (et (congrArg (fun q=>jo d q b) (eD (ls:=l1) (i:=f) e6)) rfl)
 refine EX (Fg (ER (sr (Mz rfl ?_))))
 have bB:=E.pf [2]
 obtain⟨h,R⟩:∃ q,jQ b=q:=⟨_,rfl⟩
 obtain⟨dB,aC,bX,aD,bY⟩:=Fu bB
 refine cl Tryz.call165 (ni _ _ u b.length y b h aC rfl e6 R) ?_
 rintro _ dC ⟨rfl,aF,S⟩
 have Z:=aD _ _ aF
 have bZ:=Z.rowC (i:=0) rfl
 replace S:h.length=b.length:=S
 refine ns (Kz (vP o 5) (Lz (vI d.bT) Z 2 Tryz.isAgg3 (fw (vI (max d.bT 0)) (EQ (e:=if 0 > d.bT then 0 else d.bT) yk e6) (Mz rfl (Kz (vJ b.length) (fw (vI (min (max d.bT 0) ((b.length:Nat):Int))) (EQ (e:=if((b.length:Nat):Int) < max d.bT 0 then((b.length:Nat):Int) else max d.bT 0) yk e6) (An rfl (EP ?_))))))))
 have bE:=Z.pk [0,1]
 refine EO (Mz rfl (fw (vI ((D2 (min (max d.bT 0) ((b.length:Nat):Int)):Nat):Int)) (EQ (e:=min (max d.bT 0) ((b.length:Nat):Int)) (E5 rfl) e6) (fw (.slice u (D2 (min (max d.bT 0) ((b.length:Nat):Int))) y) (FV (jK) rfl rfl e6) ?_)))
 have cu:D2 (min (max d.bT 0) ((b.length:Nat):Int))=s2 (r5 (D2 (min (max d.bT 0) ((b.length:Nat):Int))) h):=f0
 obtain⟨dD,aG,cz,aH,aI⟩:=EU bE
 refine cl Tryz.call75 (kJ _ _ u (D2 (min (max d.bT 0) ((b.length:Nat):Int))) y (r5 (D2 (min (max d.bT 0) ((b.length:Nat):Int))) h) (r5 (D2 (min (max d.bT 0) ((b.length:Nat):Int))) h) aG (fun w9 h9=>Hg (hi:=D2 (min (max d.bT 0) ((b.length:Nat):Int))) aJ.len ((aI _ 0 _ rfl aT) w9 h9) e6) f0 g4 rfl) ?_
 rintro _ dI ⟨J,K,rfl,aK⟩
 have aL:=aH _ _ aK
 have cB:=aL.rowC (i:=0) rfl
 refine Kz (.agg #[.bool false, .string ⟨y6 ([])⟩, .slice J (s2 (r5 (D2 (min (max d.bT 0) ((b.length:Nat):Int))) h)) K]) ?_
 have bF:=aL.pf [2]
 refine dN [.bool false, .string ⟨y6 ([])⟩, .slice J (s2 (r5 (D2 (min (max d.bT 0) ((b.length:Nat):Int))) h)) K] 0 bF F0 ?_
 intro dJ aM
 refine nt (rt (Fin.res (mP rfl rfl (Fb (cs:= [.bool false, .string ⟨y6 ([])⟩, .slice J (s2 (r5 (D2 (min (max d.bT 0) ((b.length:Nat):Int))) h)) K]) E7 F0 ((aM.cls (i:=0) rfl).lit (k:=0) (m:=3) rfl))) ?_))
 have bG:=aM.pk [1]
 obtain rfl:_=aX.mk false ([]) (E4 (r5 (D2 (min (max d.bT 0) ((b.length:Nat):Int))) h)):=hr.symm.trans (et (ip B) (et (ah aB) (ah R)))
 exact⟨J,K,rfl,bG⟩
 refine jT (dT B) (EP (sr (Mz rfl (Kz (vJ l1.length) (Kz (.bool (decide (((l1.length:Nat):Int)=0))) (nt ?_))))))
 by_cases L:((l1.length:Nat):Int)=0
 refine jT (dT L) (sr (Kz (.agg #[.bool false, .string ⟨y6 ([])⟩, .slice none 0 0]) ?_))
 refine dN [.bool false, .string ⟨y6 ([])⟩, .slice none 0 0] 0 p F0 ?_
 intro bH aN
 refine nt (rt (tR (tR (Fin.res (mP rfl rfl (Fb (cs:= [.bool false, .string ⟨y6 ([])⟩, .slice none 0 0]) E7 F0 ((aN.cls (i:=0) rfl).lit (k:=0) (m:=3) rfl))) ?_))))
 have bJ:Own w D bH [row none 0 0 (q6 aJ.cells ([])) 153 2,blk z [.bool false, .string ⟨y6 ([])⟩, .slice none 0 0] 149,blk o (bC.cells d) 72]:=aN.free (eZ 153 2)
 have bK:=bJ.pk [0]
 obtain rfl:_=aX.mk false ([]) (E4 ([])):=hr.symm.trans (et (iN B) (ip L))
 exact⟨none,0,rfl,bK⟩
 refine jF (dF L) (sk (sr (Mz rfl ?_)))
 obtain⟨a,j⟩:=dG (ls:=d1) (i:=0) af.len f3 (p.ro t) e9
 have F:=eP Y j
 have bL:=(G _ (E0 j)).2
 have bM:a.au.ls.length≤100000000:=J6 (Nat.le_add_left _ _) (BD I F)
 refine fw (.pointer (some ⟨ab M,ao M+0 *3,none⟩)) (ET (rf) rfl rfl ((p.ro t).addr (i:=0) e6) e6) (fw (.agg (af.cells a).toArray) (EY rfl (Fb (cs:=(af.cells a)) E7 F0 ((p.ro t).elem af.len j f3))) ?_)
 refine dK [.bool false, .string ⟨y6 ([])⟩, .slice none 0 0] 149 p ?_
 intro T cK aO
 refine dN (af.cells a) 0 aO F0 ?_
 intro cO U
 refine ns (Kz (vP T 2) (Lz (.slice a.au.A a.au.ls.length a.au.c) U 0 Tryz.isAgg147 ?_))
 obtain⟨cZ,aa,ae,ag,bO⟩:=EU U
 refine cl Tryz.call75 (kJ _ _ a.au.A a.au.ls.length a.au.c a.au.ls a.au.ls aa (ae _ (G _ (E0 j)).1) rfl e6 rfl) ?_
 rintro _ df ⟨l,n,rfl,ai⟩
 have V:=ag _ _ ai
 have bP:=V.rowC (i:=0) rfl
 refine Kz (vP T 2) ?_
 have aP:=V.pf [1]
 refine dN [.slice l a.au.ls.length n] 2 aP Tryz.sizeOf147 ?_
 intro dh W
 refine ns (La ([.bool a.dW, .string ⟨y6 a.aU⟩, .slice l a.au.ls.length n]) W 0 E7 F0 ?_)
 have aQ:=W.pf [2]
 refine dN [.bool a.dW, .string ⟨y6 a.aU⟩, .slice l a.au.ls.length n] 0 aQ F0 ?_
 intro di X
 refine nt (rt (tR (Fin.res (mP rfl rfl (Fb (cs:= [.bool a.dW, .string ⟨y6 a.aU⟩, .slice l a.au.ls.length n]) E7 F0 ((X.cls (i:=0) rfl).lit (k:=0) (m:=3) rfl))) ?_)))
 have aR:=X.pk [2]
 obtain rfl:_=aX.mk a.dW a.aU (E4 a.au.ls):=hr.symm.trans (et (iN B) (et (iN L) (ah (bI F))))
 exact⟨l,n,rfl,aR⟩
end Go.Proofs.YtbkagebjhbphaaaGreat
