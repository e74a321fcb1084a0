/-
  Results dealt out to operations: what is owned of them, what they weigh, what a check of the parts tells. Conditions: none beyond each law's own.
-/
import Derived.Test.YtbkagebjhbphaaaGreatGa
namespace Go.Proofs.YtbkagebjhbphaaaGreat
set_option maxRecDepth 100000
set_option linter.unusedVariables false
set_option linter.unusedSimpArgs false
def tot:List aQ→Nat
  | []=>0
  | x::l=>List.length x.aj.ls+1+tot l
theorem wH:∀ a c:List aQ,tot (a++c)=tot a+tot c
  | [],c=>(Nat.zero_add _).symm
  | x::a,c=>by rw [List.cons_append,tot,tot,wH a c]; omega
theorem xu {l:List aQ} {k:Nat} {x:aQ} (hx:l[k]? =some x):tot (List.take (k+1) l)=tot (List.take k l)+(List.length x.aj.ls+1):=by
  obtain⟨h,rfl⟩:=List.getElem?_eq_some_iff.1 hx
  rw [List.take_succ_eq_append_getElem h,wH]; rfl
theorem Ao {l:List aQ} {k n:Nat} {x:aQ} (h:n≤tot (List.take k l)) (hx:l[k]? =some x):n+List.length x.aj.ls≤tot (List.take (k+1) l):=by
  rw [xu hx]; omega
theorem vR (l:List aQ) (k:Nat):tot (List.take k l)≤tot l:=by
  have:=wH (List.take k l) (List.drop k l)
  rw [List.take_append_drop] at this
  omega
theorem Dn {l:List aQ} {k N:Nat} {x:aQ} (h:tot l≤N) (hx:l[k]? =some x):tot (List.take k l)+List.length x.aj.ls≤N:=by
  have:=vR l (k+1)
  rw [xu hx] at this
  omega
theorem BI:∀ l:List aQ,List.length l≤tot l
  | []=>Nat.le_refl _
  | x::l=>by have:=BI l; rw [tot,List.length_cons]; omega
end Go.Proofs.YtbkagebjhbphaaaGreat
namespace Go.Proofs.YtbkagebjhbphaaaGreat
set_option maxRecDepth 100000
open Go.RowKit
set_option linter.unusedVariables false
set_option linter.unusedSectionVars false
set_option linter.unusedSimpArgs false
def jv (d:aN):List aQ→List aH→(List aH)
  | [],a=>a
  | b::c,a=>jv d c (a++b.aj.ls)
def kU (c:aN) (l1:List aQ):aQ:=
 if c.av=4 then bnd (jv c l1 ([])) fun sLrtL=>bnd (jQ sLrtL) fun b=>aQ.mk false ([]) (Ll.mk (List.take (Int.toNat (min (max c.aV 0) ((sLrtL.length:Nat):Int))) b)) else if((l1.length:Nat):Int)=0 then aQ.mk false ([]) (Ll.mk ([])) else bnd (List.getD l1 0 default) fun a=>aQ.mk a.dV a.aG (Ll.mk a.aj.ls)
theorem wL (w D) (d:aN) (M n1 c1 d1 l1) (r0:aQ) (H:Own w D w []) (Y:List.map af.abs d1=l1) (t:Ro w D fun w'=>aY w' 3 M n1 (List.flatMap af.cells d1)) (G:∀ x ∈ d1,Ro w D (fun w'=>aY w' 2 x.aj.A x.aj.ls.length (List.flatMap aH.cells x.aj.ls))∧(x.aj.ls.length≤x.aj.c∧x.aj.ls.length≤9223372036854775807)) (aZ:n1=l1.length) (dx:l1.length *48≤211106232532992) (I:tot l1≤100000000) (hr:kU d l1=r0):
    Calls Tryz.prog 149 #[.agg (aN.cells d).toArray, .slice M n1 c1] w (dA fun v w'=> ∃ N O,v= .agg #[.bool r0.dV, .string ⟨List.toArray r0.aG⟩, .slice N r0.aj.ls.length O]∧Own w D w' [row N r0.aj.ls.length O (List.flatMap aH.cells r0.aj.ls) 153 2]):=by
 subst aZ
 have bQ:=aA Y
 refine cb Tryz.func149 ?_
 refine sr ?_
 refine dn (aN.cells d) 72 H ?_
 intro o dz bf
 refine dn [.bool false, .string ⟨List.toArray ([])⟩, .slice none 0 0] 149 bf ?_
 intro z bg p
 refine nt (Ik (sr (Kz (vP o 0) (Lz (vI d.av) p 1 Tryz.isAgg3 (fw (.bool (decide (¬ (d.av=4)))) (IM (e:= !(decide (d.av=4))) yk decide_not.symm) (nt ?_))))))
 by_cases B:d.av=4
 refine jF (dF (Lr B)) (sk (sr (An rfl (Ik (sr (Mz rfl (Kz (vJ l1.length) (Mn rfl (bo ?_)))))))))
 have bi:Own w D bg [row none 0 0 (List.flatMap aH.cells ([])) 153 2,blk z [.bool false, .string ⟨List.toArray ([])⟩, .slice none 0 0] 149,blk o (aN.cells d) 72]:=p.free (eP 153 2)
 have bn:=bi.pb [0]
 obtain⟨bq,C⟩:=tq fun u (y:Nat) b (f:Nat) w'=>Own w D w' [blk z [.bool false, .string ⟨List.toArray ([])⟩, .slice none 0 0] 149,blk o (aN.cells d) 72,row u b.length y (List.flatMap aH.cells b) 153 2]∧f≤l1.length∧b.length≤tot (List.take f l1)∧tot (List.take f l1)≤100000000∧jv d l1 ([])=jv d (List.drop f l1) b
 refine Wp.loop (fun i:(Option Addr) × Nat × (List aH) × Nat=> [(6, .slice i.1 i.2.2.1.length i.2.1),(27,vJ i.2.2.2),(26,vJ l1.length),(25, .slice M l1.length c1),(4,vP z 0),(2,vP o 0)]) bq (fun i=>l1.length - i.2.2.2) (none,0, [],0) ⟨rfl,rfl,rfl,rfl,rfl,rfl,trivial⟩ (C.2 ⟨bn,(show 0≤l1.length∧0≤tot (List.take 0 l1)∧tot (List.take 0 l1)≤100000000∧jv d l1 ([])=jv d (List.drop 0 l1) ([]) from ⟨e6,by first | exact Lp _ | (rw [List.length_append]; exact Ao f5 f5),by exact Nat.le_trans (vR _ _) I,rfl⟩)⟩) ?_
 rintro ⟨u,y,b,f⟩ dB au
 obtain⟨E,bR,bS,bT,P⟩:=C.1 au
 refine sr (Kz (.bool (decide (((f:Nat):Int) < ((l1.length:Nat):Int)))) (nt (Ik ?_)))
 by_cases av:((f:Nat):Int) < ((l1.length:Nat):Int)
 obtain⟨g,r⟩:=dh (ls:=d1) (i:=f) af.len f2 (E.ro t) e9
 have Q:=eY Y r
 have bU:=(G _ (List.mem_of_getElem? r)).2
 have bV:tot (List.take f l1)+g.aj.ls.length≤100000000:=Dn I Q
 have ax:=drop_at Q
 refine jT (dT av) (sk (Ik (bo (sr (fw (.pointer (some ⟨ab M,ao M+f *3,none⟩)) (Iz (rX) rfl rfl ((E.ro t).addr (i:=f) e6) e6) (fw (.agg (af.cells g).toArray) (IB rfl (IJ (cs:=(af.cells g)) Tryz.isAgg149 Tryz.sizeOf149 ((E.ro t).elem af.len r f2))) ?_))))))
 refine dn [.bool false, .string ⟨List.toArray ([])⟩, .slice none 0 0] 149 E ?_
 intro bu dC bv
 refine df (af.cells g) 0 bv Tryz.sizeOf149 ?_
 intro dD ay
 refine nt (Il (Mz rfl (Kz (vP bu 2) (Lz (.slice g.aj.A g.aj.ls.length g.aj.c) ay 0 Tryz.isAgg147 ?_))))
 have az:=ay.pf [3]
 refine WL.do rfl (IW (k:=b.length) (m:=g.aj.ls.length) (jL) az rfl rfl (gN Tryz.underlying147 (az.ro (G _ (List.mem_of_getElem? r)).1) (dX aH.one g.aj.ls)) rfl e6 (s:=List.length (b++g.aj.ls)) f7 (List.flatMap_append).symm ?_)
 intro bz bA dE bB
 have bW:List.length (b++g.aj.ls)=b.length+g.aj.ls.length:=by simp only [List.length_append,List.length_cons,List.length_nil]
 refine Az rfl (WL.nil (bN (Iq ?_)))
 have bC:=bB.pk [0,2,3]
 refine Il (fw (vJ (f+1)) (Ir (e:=IntKind.i64.wrap (((f:Nat):Int)+1)) yk f0) (Mz rfl (WL.nil ?_)))
 have bD:=bC.pb [0]
 exact II (bz,bA,(b++g.aj.ls),f+1) ⟨rfl,rfl,rfl,rfl,rfl,rfl,trivial⟩ (C.2 ⟨bD,e6,by first | exact Lp _ | (rw [List.length_append]; exact Ao f5 f5),by exact Nat.le_trans (vR _ _) I,et (P) (et (congrArg (fun q=>jv d q b) ax) rfl)⟩) (by show l1.length - (f+1) < l1.length - f; omega)
 refine jF (dF av) (Wp.exit (IC ?_))
 have aB:jv d l1 ([])=b:=et (P) (et (congrArg (fun q=>jv d q b) (dZ (ls:=l1) (i:=f) e6)) rfl)
 refine IC (IK (Iq (sr (Mz rfl ?_))))
 have bE:=E.pf [2]
 obtain⟨h,R⟩:∃ q,jQ b=q:=⟨_,rfl⟩
 obtain⟨dG,aC,bX,aD,bY⟩:=IZ bE
 refine cl Tryz.call165 (nP _ _ u b.length y b h aC rfl e6 R) ?_
 rintro _ dH ⟨rfl,aF,S⟩
 have Z:=aD _ _ aF
 have bZ:=Z.rowC (i:=0) rfl
 replace S:h.length=b.length:=S
 refine ns (Kz (vP o 5) (Lz (vI d.aV) Z 2 Tryz.isAgg3 (fw (vI (max d.aV 0)) (Ir (e:=if 0 > d.aV then 0 else d.aV) yk e6) (Mz rfl (Kz (vJ b.length) (fw (vI (min (max d.aV 0) ((b.length:Nat):Int))) (Ir (e:=if((b.length:Nat):Int) < max d.aV 0 then((b.length:Nat):Int) else max d.aV 0) yk e6) (An rfl (Ik ?_))))))))
 have bF:=Z.pk [0,1]
 refine Il (Mz rfl (fw (vI ((Int.toNat (min (max d.aV 0) ((b.length:Nat):Int)):Nat):Int)) (Ir (e:=min (max d.aV 0) ((b.length:Nat):Int)) (IA rfl) e6) (fw (.slice u (Int.toNat (min (max d.aV 0) ((b.length:Nat):Int))) y) (Jk (jL) rfl rfl e6) ?_)))
 have cu:Int.toNat (min (max d.aV 0) ((b.length:Nat):Int))=List.length (List.take (Int.toNat (min (max d.aV 0) ((b.length:Nat):Int))) h):=f1
 obtain⟨dI,aG,cz,aI,aJ⟩:=Iu bF
 refine cl Tryz.call75 (kP _ _ u (Int.toNat (min (max d.aV 0) ((b.length:Nat):Int))) y (List.take (Int.toNat (min (max d.aV 0) ((b.length:Nat):Int))) h) (List.take (Int.toNat (min (max d.aV 0) ((b.length:Nat):Int))) h) aG (fun w9 h9=>Kl (hi:=Int.toNat (min (max d.aV 0) ((b.length:Nat):Int))) aH.len ((aJ _ 0 _ rfl aW) w9 h9) e6) f1 g3 rfl) ?_
 rintro _ dL ⟨J,K,rfl,aK⟩
 have aL:=aI _ _ aK
 have cB:=aL.rowC (i:=0) rfl
 refine Kz (.agg #[.bool false, .string ⟨List.toArray ([])⟩, .slice J (List.length (List.take (Int.toNat (min (max d.aV 0) ((b.length:Nat):Int))) h)) K]) ?_
 have bG:=aL.pf [2]
 refine df [.bool false, .string ⟨List.toArray ([])⟩, .slice J (List.length (List.take (Int.toNat (min (max d.aV 0) ((b.length:Nat):Int))) h)) K] 0 bG Tryz.sizeOf149 ?_
 intro dM aM
 refine nt (rt (Fin.res (oo rfl rfl (IJ (cs:= [.bool false, .string ⟨List.toArray ([])⟩, .slice J (List.length (List.take (Int.toNat (min (max d.aV 0) ((b.length:Nat):Int))) h)) K]) Tryz.isAgg149 Tryz.sizeOf149 ((aM.cls (i:=0) rfl).lit (k:=0) (m:=3) rfl))) ?_))
 have bH:=aM.pk [1]
 obtain rfl:_=aQ.mk false ([]) (Ll.mk (List.take (Int.toNat (min (max d.aV 0) ((b.length:Nat):Int))) h)):=hr.symm.trans (et (ip B) (et (ae aB) (ae R)))
 exact⟨J,K,rfl,bH⟩
 refine jT (dT B) (Ik (sr (Mz rfl (Kz (vJ l1.length) (Kz (.bool (decide (((l1.length:Nat):Int)=0))) (nt ?_))))))
 by_cases L:((l1.length:Nat):Int)=0
 refine jT (dT L) (sr (Kz (.agg #[.bool false, .string ⟨List.toArray ([])⟩, .slice none 0 0]) ?_))
 refine df [.bool false, .string ⟨List.toArray ([])⟩, .slice none 0 0] 0 p Tryz.sizeOf149 ?_
 intro bI aO
 refine nt (rt (tR (tR (Fin.res (oo rfl rfl (IJ (cs:= [.bool false, .string ⟨List.toArray ([])⟩, .slice none 0 0]) Tryz.isAgg149 Tryz.sizeOf149 ((aO.cls (i:=0) rfl).lit (k:=0) (m:=3) rfl))) ?_))))
 have bJ:Own w D bI [row none 0 0 (List.flatMap aH.cells ([])) 153 2,blk z [.bool false, .string ⟨List.toArray ([])⟩, .slice none 0 0] 149,blk o (aN.cells d) 72]:=aO.free (eP 153 2)
 have bK:=bJ.pk [0]
 obtain rfl:_=aQ.mk false ([]) (Ll.mk ([])):=hr.symm.trans (et (iN B) (ip L))
 exact⟨none,0,rfl,bK⟩
 refine jF (dF L) (sk (sr (Mz rfl ?_)))
 obtain⟨a,j⟩:=dh (ls:=d1) (i:=0) af.len f2 (p.ro t) e9
 have F:=eY Y j
 have bL:=(G _ (List.mem_of_getElem? j)).2
 have bM:a.aj.ls.length≤100000000:=Nat.le_trans (Nat.le_add_left _ _) (Dn I F)
 refine fw (.pointer (some ⟨ab M,ao M+0 *3,none⟩)) (Iz (rX) rfl rfl ((p.ro t).addr (i:=0) e6) e6) (fw (.agg (af.cells a).toArray) (IB rfl (IJ (cs:=(af.cells a)) Tryz.isAgg149 Tryz.sizeOf149 ((p.ro t).elem af.len j f2))) ?_)
 refine dn [.bool false, .string ⟨List.toArray ([])⟩, .slice none 0 0] 149 p ?_
 intro T cK aP
 refine df (af.cells a) 0 aP Tryz.sizeOf149 ?_
 intro cO U
 refine ns (Kz (vP T 2) (Lz (.slice a.aj.A a.aj.ls.length a.aj.c) U 0 Tryz.isAgg147 ?_))
 obtain⟨cZ,aa,ag,ah,bO⟩:=Iu U
 refine cl Tryz.call75 (kP _ _ a.aj.A a.aj.ls.length a.aj.c a.aj.ls a.aj.ls aa (ag _ (G _ (List.mem_of_getElem? j)).1) rfl e6 rfl) ?_
 rintro _ di ⟨l,n,rfl,ai⟩
 have V:=ah _ _ ai
 have bP:=V.rowC (i:=0) rfl
 refine Kz (vP T 2) ?_
 have aR:=V.pf [1]
 refine df [.slice l a.aj.ls.length n] 2 aR Tryz.sizeOf147 ?_
 intro dm W
 refine ns (La ([.bool a.dV, .string ⟨List.toArray a.aG⟩, .slice l a.aj.ls.length n]) W 0 Tryz.isAgg149 Tryz.sizeOf149 ?_)
 have aS:=W.pf [2]
 refine df [.bool a.dV, .string ⟨List.toArray a.aG⟩, .slice l a.aj.ls.length n] 0 aS Tryz.sizeOf149 ?_
 intro dw X
 refine nt (rt (tR (Fin.res (oo rfl rfl (IJ (cs:= [.bool a.dV, .string ⟨List.toArray a.aG⟩, .slice l a.aj.ls.length n]) Tryz.isAgg149 Tryz.sizeOf149 ((X.cls (i:=0) rfl).lit (k:=0) (m:=3) rfl))) ?_)))
 have aU:=X.pk [2]
 obtain rfl:_=aQ.mk a.dV a.aG (Ll.mk a.aj.ls):=hr.symm.trans (et (iN B) (et (iN L) (ae (aT F))))
 exact⟨l,n,rfl,aU⟩
end Go.Proofs.YtbkagebjhbphaaaGreat
namespace Go.Proofs.YtbkagebjhbphaaaGreat
open List renaming flatMap→q4,getD→B8,getD_eq_getElem?_getD→L7,getElem?_cons_succ→q3,getElem?_cons_zero→q0,getElem?_eq_getElem→p7,length→s0,take→r3
open Ll renaming mk→E0
open Nat renaming le_trans→L8,zero_add→m8
set_option maxRecDepth 100000
set_option linter.unusedVariables false
set_option linter.unusedSimpArgs false
def Row40H.own (x:bP):List HP:= [row x.A x.ls.length x.c (q4 af.cells x.ls) 149 3]
def yZ (w:World) (D:Nat→Prop) (ds:List bP):Prop:=∀ q ∈ ds, ∀ x ∈ q.ls,Ro w D (fun w'=>aY w' 2 x.aj.A (s0 x.aj.ls) (q4 aH.cells x.aj.ls))∧(s0 x.aj.ls≤x.aj.c∧s0 x.aj.ls≤9223372036854775807)
theorem uz {w:World} {D:Nat→Prop} (n:Nat):yZ w D (List.replicate n (Sv.mk none 0 []:bP)):=fun q hq x hx=>by
  rw [(List.mem_replicate.1 hq).2] at hx; cases hx
theorem Ap {w:World} {D:Nat→Prop} {ds:List bP} {i:Nat} {q:bP} (h:yZ w D ds) (hq:ds[i]? =some q):∀ x ∈ q.ls,Ro w D (fun w'=>aY w' 2 x.aj.A (s0 x.aj.ls) (q4 aH.cells x.aj.ls))∧(s0 x.aj.ls≤x.aj.c∧s0 x.aj.ls≤9223372036854775807):=h q (List.mem_of_getElem? hq)
theorem Ff {w:World} {D:Nat→Prop} {ds:List bP} {i:Nat} {y:bP} (h:yZ w D ds) (hy:∀ x ∈ y.ls,Ro w D (fun w'=>aY w' 2 x.aj.A (s0 x.aj.ls) (q4 aH.cells x.aj.ls))∧(s0 x.aj.ls≤x.aj.c∧s0 x.aj.ls≤9223372036854775807)):yZ w D (List.set ds i y):=fun q hq x hx=>by
  rcases List.mem_or_eq_of_mem_set hq with e | e
  · exact h q e x hx
  · rw [e] at hx; exact hy x hx
def tt:List (Ll aQ)→Nat
  | []=>0
  | x::l=>tot x.ls+tt l
theorem Aq:∀ n:Nat,tt (List.replicate n (E0 []:Ll aQ))=0
  | 0=>rfl
  | n+1=>by rw [List.replicate_succ,tt,Aq n]; rfl
theorem Au:∀ a c:List (Ll aQ),tt (a++c)=tt a+tt c
  | [],c=>(m8 _).symm
  | x::a,c=>by rw [List.cons_append,tt,tt,Au a c,Nat.add_assoc]
theorem yF {l:List (Ll aQ)} {k:Nat} {x:Ll aQ} (hx:l[k]? =some x):tt (r3 (k+1) l)=tt (r3 k l)+tot x.ls:=by
  obtain⟨h,rfl⟩:=List.getElem?_eq_some_iff.1 hx
  rw [List.take_succ_eq_append_getElem h,Au]; rfl
theorem wI (l:List (Ll aQ)) (k:Nat):tt (r3 k l)≤tt l:=by
  have:=Au (r3 k l) (List.drop k l)
  rw [List.take_append_drop] at this
  omega
theorem Dp:∀ {l:List (Ll aQ)} {i:Nat} {x y:Ll aQ},l[i]? =some x→tt (List.set l i y)+tot x.ls=tt l+tot y.ls
  | [],_,_,_,h=>by simp at h
  | z::l,0,x,y,h=>by
    simp only [q0,Option.some.injEq] at h
    subst h
    rw [List.set_cons_zero,tt,tt]; omega
  | z::l,i+1,x,y,h=>by
    simp only [q3] at h
    have:=Dp (y:=y) h
    rw [List.set_cons_succ,tt,tt]; omega
theorem EK {l:List (Ll aQ)} {i N:Nat} {x:Ll aQ} (h:tt l≤N) (hx:l[i]? =some x):tot x.ls≤N:=by
  have:=wI l (i+1)
  rw [yF hx] at this
  omega
theorem zC {l:List (Ll aQ)} {k:Nat} {x:Ll aQ} (h:l[k]? =some x):B8 l k default=x:=by
  rw [L7,h]; rfl
def seen (a:List (Ll aQ)) (k j:Nat):Nat:=tt (r3 k a)+tot (r3 j (B8 a k default).ls)
theorem Dq (a:List (Ll aQ)) (k:Nat):seen a k 0=tt (r3 k a):=rfl
theorem za {l a:List (Ll aQ)} {k j i:Nat} {y:Ll aQ} {qs:List aQ} {r:aQ} (h:tt l≤seen a k j) (hy:a[k]? =some y) (hr:y.ls[j]? =some r) (hq:l[i]? =some (E0 qs)):tt (List.set l i (E0 (qs++ [r])))≤seen a k (j+1):=by
  have b:=Dp (y:=E0 (qs++ [r])) hq
  have c:tot (E0 (qs++ [r])).ls=tot qs+tot [r]:=wH qs [r]
  have d:tot [r]=s0 r.aj.ls+1:=rfl
  unfold seen at h ⊢
  rw [zC hy] at h ⊢
  rw [xu hr]
  have e:tot (E0 qs:Ll aQ).ls=tot qs:=rfl
  omega
theorem Av {l a:List (Ll aQ)} {k j:Nat} (h:tt l≤seen a k j) (hk:k < s0 a):tt l≤tt (r3 (k+1) a):=by
  unfold seen at h
  have hy:a[k]? =some a[k]:=p7 hk
  rw [zC hy] at h
  rw [yF hy]
  have:=vR a[k].ls j
  omega
theorem GH {l a:List (Ll aQ)} {k i N:Nat} {qs:List aQ} (h:tt l≤tt (r3 k a)) (b:tt a≤N) (hq:l[i]? =some (E0 qs)):tot qs≤N:=EK (x:=E0 qs) (L8 h (L8 (wI _ _) b)) hq
theorem BJ (a:List (Ll aQ)) (k j:Nat):seen a k j≤tt a:=by
  unfold seen
  by_cases hk:k < s0 a
  · have hy:a[k]? =some a[k]:=p7 hk
    rw [zC hy]
    have d:=yF hy
    have b:=wI a (k+1)
    have c:=vR a[k].ls j
    omega
  · have e:B8 a k default=default:=by rw [L7,List.getElem?_eq_none e6]; rfl
    rw [e]
    have b:=wI a k
    have c:tot (r3 j (default:Ll aQ).ls)=0:=by
      have:(default:Ll aQ).ls= []:=rfl
      rw [this,List.take_nil]; rfl
    omega
theorem xS {l b:List (Ll aQ)} {i N m:Nat} {q:bP} (h:tt l≤m) (hm:m≤tt b) (c:tt b≤N) (hq:l[i]? =some (bP.abs q)):s0 q.ls≤N∧s0 (List.map af.abs q.ls)≤N:=by
  have d:=EK (L8 h (L8 hm c)) hq
  have a:s0 (List.map af.abs q.ls)≤N:=L8 (BI _) d
  exact⟨by rw [List.length_map] at a; exact a,a⟩
theorem Ef {α σ ρ:Type} (a:α) (f:α→σ ⊕ ρ):sW (Sum.inl a) f=f a:=rfl
theorem Eg {α σ ρ:Type} (a:ρ) (f:α→σ ⊕ ρ):sW (Sum.inr a) f=Sum.inr a:=rfl
theorem FW (l0:List aN) (k:Nat):∀ q:List Int,(gz l0 k q= .inl ()∧∀ f ∈ q,0≤f∧f < ((s0 l0:Nat):Int))∨(gz l0 k q= .inr 1∧∃ f ∈ q,f < 0∨f ≥ ((s0 l0:Nat):Int))
  | []=> .inl ⟨by rw [gz],fun f hf=>(by cases hf)⟩
  | x::q=>by
    rw [gz]
    by_cases a:x < 0
    · exact .inr ⟨by rw [if_pos a],x, .head _, .inl a⟩
    · by_cases b:x ≥ ((s0 l0:Nat):Int)
      · exact .inr ⟨by rw [if_neg a,if_pos b],x, .head _, .inr b⟩
      · rw [if_neg a,if_neg b]
        rcases FW l0 k q with ⟨c,d⟩ | ⟨c,f,d,g⟩
        · refine .inl ⟨c,fun f hf=> ?_⟩
          rcases List.mem_cons.1 hf with e | e
          · rw [e]; omega
          · exact d f e
        · exact .inr ⟨c,f, .tail _ d,g⟩
def vS (l0:List aN) (x:fu) (y:Ll aQ):Prop:=s0 x.aB.ls=s0 x.aI.ls∧s0 x.aB.ls=s0 y.ls∧∀ f ∈ x.aI.ls,0≤f∧f < ((s0 l0:Nat):Int)
theorem FX (l0:List aN) (a:List (Ll aQ)):∀ (q:List fu) (k:Nat),(fO l0 a q k= .inl ()∧∀ (i:Nat) (x:fu),q[i]? =some x→vS l0 x (B8 a (k+i) default))∨(fO l0 a q k= .inr 1∧∃ (i:Nat) (x:fu),q[i]? =some x∧¬ vS l0 x (B8 a (k+i) default))
  | [],k=> .inl ⟨by rw [fO],fun i x h=>by simp at h⟩
  | x::q,k=>by
    rw [fO]
    by_cases b:((x.aB.ls.length:Nat):Int)=((x.aI.ls.length:Nat):Int)
    · rw [if_pos b]
      simp only [bnd]
      by_cases c:((x.aB.ls.length:Nat):Int)=(((B8 a k default).ls.length:Nat):Int)
      · rw [if_pos c]
        rcases FW l0 k x.aI.ls with ⟨d,e⟩ | ⟨d,f,e,m⟩
        · rw [d,Ef]
          rcases FX l0 a q (k+1) with ⟨g,j⟩ | ⟨g,i,y,j,l⟩
          · refine .inl ⟨g,fun i y hy=> ?_⟩
            cases i with
            | zero=>
              simp only [q0,Option.some.injEq] at hy
              subst hy
              exact⟨e6,by rw [Nat.add_zero]; omega,e⟩
            | succ i=>
              simp only [q3] at hy
              have:=j i y hy
              rw [show k+1+i=k+(i+1) by omega] at this
              exact this
          · exact .inr ⟨g,i+1,y,by simpa using j,by rw [show k+(i+1)=k+1+i by omega]; exact l⟩
        · rw [d,Eg]
          exact .inr ⟨rfl,0,x,rfl,fun w=>by have:=w.2.2 f e; omega⟩
      · rw [if_neg c]
        exact .inr ⟨rfl,0,x,rfl,fun w=>c (by have:=w.2.1; rw [Nat.add_zero] at this; omega)⟩
    · rw [if_neg b]
      exact .inr ⟨rfl,0,x,rfl,fun w=>b (by have:=w.1; omega)⟩
theorem Hg (l0:List aN) (l1:List fu) (a:List (Ll aQ)):(j6 l0 l1 a=0∧s0 a=s0 l1∧∀ (i:Nat) (x:fu),l1[i]? =some x→vS l0 x (B8 a i default))∨(j6 l0 l1 a=1∧¬ (s0 a=s0 l1∧∀ (i:Nat) (x:fu),l1[i]? =some x→vS l0 x (B8 a i default))):=by
  unfold j6
  by_cases c:((a.length:Nat):Int)=((l1.length:Nat):Int)
  · rw [if_pos c]
    rcases FX l0 a l1 0 with ⟨b,d⟩ | ⟨b,i,x,d,e⟩
    · exact .inl ⟨by rw [b]; rfl,e6,fun i x hx=>by have:=d i x hx; rw [m8] at this; exact this⟩
    · exact .inr ⟨by rw [b]; rfl,fun w=>e (by rw [m8]; exact w.2 i x d)⟩
  · rw [if_neg c]
    exact .inr ⟨rfl,fun w=>c e6⟩
theorem Fg {l0:List aN} {l1:List fu} {a:List (Ll aQ)} {r:Int} (h:j6 l0 l1 a=r):s0 a=s0 l1∨¬ r=0:=by
  rcases Hg l0 l1 a with ⟨_,b,_⟩ | ⟨c,_⟩
  · exact .inl b
  · exact .inr (by rw [← h,c]; decide)
theorem Aw {l0:List aN} {l1:List fu} {a:List (Ll aQ)} {r:Int} (h:j6 l0 l1 a=r) (c:r=0) {i:Nat} {x:fu} (hx:l1[i]? =some x):vS l0 x (B8 a i default):=by
  rcases Hg l0 l1 a with ⟨_,_,d⟩ | ⟨b,_⟩
  · exact d i x hx
  · rw [h,c] at b; cases b
end Go.Proofs.YtbkagebjhbphaaaGreat
