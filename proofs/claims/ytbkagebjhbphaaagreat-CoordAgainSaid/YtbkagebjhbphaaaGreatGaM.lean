/-
  Results dealt out to operations: what is owned of them, what they weigh, what a check of the parts tells. Conditions: none beyond each law's own.
-/
import Derived.Test.YtbkagebjhbphaaaGreatGa
namespace Go.Proofs.YtbkagebjhbphaaaGreat
set_option maxRecDepth 100000
set_option linter.unusedVariables false
set_option linter.unusedSimpArgs false
def tot:List aS→Nat
  | []=>0
  | x::l=>List.length x.aj.ls+1+tot l
theorem wz:∀ a c:List aS,tot (a++c)=tot a+tot c
  | [],c=>(Nat.zero_add _).symm
  | x::a,c=>by rw [List.cons_append,tot,tot,wz a c]; omega
theorem wZ {l:List aS} {k:Nat} {x:aS} (hx:l[k]? =some x):tot (List.take (k+1) l)=tot (List.take k l)+(List.length x.aj.ls+1):=by
  obtain⟨h,rfl⟩:=List.getElem?_eq_some_iff.1 hx
  rw [List.take_succ_eq_append_getElem h,wz]; rfl
theorem zS {l:List aS} {k n:Nat} {x:aS} (h:n≤tot (List.take k l)) (hx:l[k]? =some x):n+List.length x.aj.ls≤tot (List.take (k+1) l):=by
  rw [wZ hx]; omega
theorem vG (l:List aS) (k:Nat):tot (List.take k l)≤tot l:=by
  have:=wz (List.take k l) (List.drop k l)
  rw [List.take_append_drop] at this
  omega
theorem Cq {l:List aS} {k N:Nat} {x:aS} (h:tot l≤N) (hx:l[k]? =some x):tot (List.take k l)+List.length x.aj.ls≤N:=by
  have:=vG l (k+1)
  rw [wZ hx] at this
  omega
theorem Bc:∀ l:List aS,List.length l≤tot l
  | []=>Nat.le_refl _
  | x::l=>by have:=Bc l; rw [tot,List.length_cons]; omega
end Go.Proofs.YtbkagebjhbphaaaGreat
namespace Go.Proofs.YtbkagebjhbphaaaGreat
set_option maxRecDepth 100000
open Go.RowKit
set_option linter.unusedVariables false
set_option linter.unusedSectionVars false
set_option linter.unusedSimpArgs false
def jy (d:bv):List aS→List aI→(List aI)
  | [],a=>a
  | b::c,a=>jy d c (a++b.aj.ls)
def kT (c:bv) (l1:List aS):aS:=
 if c.aG=4 then bnd (jy c l1 ([])) fun sLrtL=>bnd (jV sLrtL) fun b=>aS.mk false ([]) (Ll.mk (List.take (Int.toNat (min (max c.bS 0) ((sLrtL.length:Nat):Int))) b)) else if((l1.length:Nat):Int)=0 then aS.mk false ([]) (Ll.mk ([])) else bnd (List.getD l1 0 default) fun a=>aS.mk a.dZ a.aQ (Ll.mk a.aj.ls)
theorem wE (w D) (d:bv) (M n1 c1 d1 l1) (r0:aS) (H:Own w D w []) (Y:List.map ae.abs d1=l1) (t:Ro w D fun w'=>bA w' 3 M n1 (List.flatMap ae.cells d1)) (G:∀ x ∈ d1,Ro w D (fun w'=>bA w' 2 x.aj.A x.aj.ls.length (List.flatMap aI.cells x.aj.ls))∧(x.aj.ls.length≤x.aj.c∧x.aj.ls.length≤9223372036854775807)) (aW:n1=l1.length) (dm:l1.length *48≤211106232532992) (I:tot l1≤100000000) (hr:kT d l1=r0):
    Calls Tryz.prog 149 #[.agg (bv.cells d).toArray, .slice M n1 c1] w (dR fun v w'=> ∃ N O,v= .agg #[.bool r0.dZ, .string ⟨List.toArray r0.aQ⟩, .slice N r0.aj.ls.length O]∧Own w D w' [row N r0.aj.ls.length O (List.flatMap aI.cells r0.aj.ls) 153 2]):=by
 subst aW
 have bQ:=az Y
 refine cb Tryz.func149 ?_
 refine sr ?_
 refine dM (bv.cells d) 72 H ?_
 intro o dn aX
 refine dM [.bool false, .string ⟨List.toArray ([])⟩, .slice none 0 0] 149 aX ?_
 intro z aY p
 refine nt (FW (sr (Kz (vP o 0) (Lz (vI d.aG) p 1 Tryz.isAgg3 (fw (.bool (decide (¬ (d.aG=4)))) (Gm (e:= !(decide (d.aG=4))) yk decide_not.symm) (nt ?_))))))
 by_cases B:d.aG=4
 refine jF (dF (JR B)) (sk (sr (An rfl (FW (sr (Mz rfl (Kz (vJ l1.length) (Mn rfl (bo ?_)))))))))
 have aZ:Own w D aY [row none 0 0 (List.flatMap aI.cells ([])) 153 2,blk z [.bool false, .string ⟨List.toArray ([])⟩, .slice none 0 0] 149,blk o (bv.cells d) 72]:=p.free (fB 153 2)
 have bf:=aZ.pb [0]
 obtain⟨bg,C⟩:=rZ fun u (y:Nat) b (f:Nat) w'=>Own w D w' [blk z [.bool false, .string ⟨List.toArray ([])⟩, .slice none 0 0] 149,blk o (bv.cells d) 72,row u b.length y (List.flatMap aI.cells b) 153 2]∧f≤l1.length∧b.length≤tot (List.take f l1)∧tot (List.take f l1)≤100000000∧jy d l1 ([])=jy d (List.drop f l1) b
 refine Wp.loop (fun i:(Option Addr) × Nat × (List aI) × Nat=> [(6, .slice i.1 i.2.2.1.length i.2.1),(27,vJ i.2.2.2),(26,vJ l1.length),(25, .slice M l1.length c1),(4,vP z 0),(2,vP o 0)]) bg (fun i=>l1.length - i.2.2.2) (none,0, [],0) ⟨rfl,rfl,rfl,rfl,rfl,rfl,trivial⟩ (C.2 ⟨bf,(show 0≤l1.length∧0≤tot (List.take 0 l1)∧tot (List.take 0 l1)≤100000000∧jy d l1 ([])=jy d (List.drop 0 l1) ([]) from ⟨e6,by first | exact JQ _ | (rw [List.length_append]; exact zS f4 f4),by exact Nat.le_trans (vG _ _) I,rfl⟩)⟩) ?_
 rintro ⟨u,y,b,f⟩ dw au
 obtain⟨E,bR,bS,bT,P⟩:=C.1 au
 refine sr (Kz (.bool (decide (((f:Nat):Int) < ((l1.length:Nat):Int)))) (nt (FW ?_)))
 by_cases av:((f:Nat):Int) < ((l1.length:Nat):Int)
 obtain⟨g,r⟩:=dK (ls:=d1) (i:=f) ae.len f3 (E.ro t) e9
 have Q:=fo Y r
 have bU:=(G _ (List.mem_of_getElem? r)).2
 have bV:tot (List.take f l1)+g.aj.ls.length≤100000000:=Cq I Q
 have ax:=drop_at Q
 refine jT (dT av) (sk (FW (bo (sr (fw (.pointer (some ⟨ab M,ao M+f *3,none⟩)) (F4 (rR) rfl rfl ((E.ro t).addr (i:=f) e6) e6) (fw (.agg (ae.cells g).toArray) (F7 rfl (Gf (cs:=(ae.cells g)) Tryz.isAgg149 Tryz.sizeOf149 ((E.ro t).elem ae.len r f3))) ?_))))))
 refine dM [.bool false, .string ⟨List.toArray ([])⟩, .slice none 0 0] 149 E ?_
 intro bi dx bn
 refine dN (ae.cells g) 0 bn Tryz.sizeOf149 ?_
 intro dz ay
 refine nt (FV (Mz rfl (Kz (vP bi 2) (Lz (.slice g.aj.A g.aj.ls.length g.aj.c) ay 0 Tryz.isAgg147 ?_))))
 have aA:=ay.pf [3]
 refine WL.do rfl (Gt (k:=b.length) (m:=g.aj.ls.length) (jO) aA rfl rfl (iU Tryz.underlying147 (aA.ro (G _ (List.mem_of_getElem? r)).1) (fF aI.one g.aj.ls)) rfl e6 (s:=List.length (b++g.aj.ls)) f7 (List.flatMap_append).symm ?_)
 intro bq bu dA bz
 have bW:List.length (b++g.aj.ls)=b.length+g.aj.ls.length:=by simp only [List.length_append,List.length_cons,List.length_nil]
 refine Az rfl (WL.nil (bN (FY ?_)))
 have bB:=bz.pk [0,2,3]
 refine FV (fw (vJ (f+1)) (FX (e:=IntKind.i64.wrap (((f:Nat):Int)+1)) yk f1) (Mz rfl (WL.nil ?_)))
 have bC:=bB.pb [0]
 exact Gc (bq,bu,(b++g.aj.ls),f+1) ⟨rfl,rfl,rfl,rfl,rfl,rfl,trivial⟩ (C.2 ⟨bC,e6,by first | exact JQ _ | (rw [List.length_append]; exact zS f4 f4),by exact Nat.le_trans (vG _ _) I,et (P) (et (congrArg (fun q=>jy d q b) ax) rfl)⟩) (by show l1.length - (f+1) < l1.length - f; omega)
 refine jF (dF av) (Wp.exit (F6 ?_))
 have aB:jy d l1 ([])=b:=et (P) (et (congrArg (fun q=>jy d q b) (eZ (ls:=l1) (i:=f) e6)) rfl)
 refine F6 (Gi (FY (sr (Mz rfl ?_))))
 have bD:=E.pf [2]
 obtain⟨h,R⟩:∃ q,jV b=q:=⟨_,rfl⟩
 obtain⟨dB,aC,bX,aD,bY⟩:=Gq bD
 refine cl Tryz.call165 (nK _ _ u b.length y b h aC rfl e6 R) ?_
 rintro _ dC ⟨rfl,aF,S⟩
 have Z:=aD _ _ aF
 have bZ:=Z.rowC (i:=0) rfl
 replace S:h.length=b.length:=S
 refine ns (Kz (vP o 5) (Lz (vI d.bS) Z 2 Tryz.isAgg3 (fw (vI (max d.bS 0)) (FX (e:=if 0 > d.bS then 0 else d.bS) yk e6) (Mz rfl (Kz (vJ b.length) (fw (vI (min (max d.bS 0) ((b.length:Nat):Int))) (FX (e:=if((b.length:Nat):Int) < max d.bS 0 then((b.length:Nat):Int) else max d.bS 0) yk e6) (An rfl (FW ?_))))))))
 have bE:=Z.pk [0,1]
 refine FV (Mz rfl (fw (vI ((Int.toNat (min (max d.bS 0) ((b.length:Nat):Int)):Nat):Int)) (FX (e:=min (max d.bS 0) ((b.length:Nat):Int)) (F9 rfl) e6) (fw (.slice u (Int.toNat (min (max d.bS 0) ((b.length:Nat):Int))) y) (GU (jO) rfl rfl e6) ?_)))
 have cu:Int.toNat (min (max d.bS 0) ((b.length:Nat):Int))=List.length (List.take (Int.toNat (min (max d.bS 0) ((b.length:Nat):Int))) h):=f0
 obtain⟨dD,aG,cz,aH,aJ⟩:=F3 bE
 refine cl Tryz.call75 (kP _ _ u (Int.toNat (min (max d.bS 0) ((b.length:Nat):Int))) y (List.take (Int.toNat (min (max d.bS 0) ((b.length:Nat):Int))) h) (List.take (Int.toNat (min (max d.bS 0) ((b.length:Nat):Int))) h) aG (fun w9 h9=>IV (hi:=Int.toNat (min (max d.bS 0) ((b.length:Nat):Int))) aI.len ((aJ _ 0 _ rfl aP) w9 h9) e6) f0 g4 rfl) ?_
 rintro _ dH ⟨J,K,rfl,aK⟩
 have aL:=aH _ _ aK
 have cB:=aL.rowC (i:=0) rfl
 refine Kz (.agg #[.bool false, .string ⟨List.toArray ([])⟩, .slice J (List.length (List.take (Int.toNat (min (max d.bS 0) ((b.length:Nat):Int))) h)) K]) ?_
 have bG:=aL.pf [2]
 refine dN [.bool false, .string ⟨List.toArray ([])⟩, .slice J (List.length (List.take (Int.toNat (min (max d.bS 0) ((b.length:Nat):Int))) h)) K] 0 bG Tryz.sizeOf149 ?_
 intro dI aM
 refine nt (rt (Fin.res (ni rfl rfl (Gf (cs:= [.bool false, .string ⟨List.toArray ([])⟩, .slice J (List.length (List.take (Int.toNat (min (max d.bS 0) ((b.length:Nat):Int))) h)) K]) Tryz.isAgg149 Tryz.sizeOf149 ((aM.cls (i:=0) rfl).lit (k:=0) (m:=3) rfl))) ?_))
 have bH:=aM.pk [1]
 obtain rfl:_=aS.mk false ([]) (Ll.mk (List.take (Int.toNat (min (max d.bS 0) ((b.length:Nat):Int))) h)):=hr.symm.trans (et (ip B) (et (ai aB) (ai R)))
 exact⟨J,K,rfl,bH⟩
 refine jT (dT B) (FW (sr (Mz rfl (Kz (vJ l1.length) (Kz (.bool (decide (((l1.length:Nat):Int)=0))) (nt ?_))))))
 by_cases L:((l1.length:Nat):Int)=0
 refine jT (dT L) (sr (Kz (.agg #[.bool false, .string ⟨List.toArray ([])⟩, .slice none 0 0]) ?_))
 refine dN [.bool false, .string ⟨List.toArray ([])⟩, .slice none 0 0] 0 p Tryz.sizeOf149 ?_
 intro bI aN
 refine nt (rt (tR (tR (Fin.res (ni rfl rfl (Gf (cs:= [.bool false, .string ⟨List.toArray ([])⟩, .slice none 0 0]) Tryz.isAgg149 Tryz.sizeOf149 ((aN.cls (i:=0) rfl).lit (k:=0) (m:=3) rfl))) ?_))))
 have bJ:Own w D bI [row none 0 0 (List.flatMap aI.cells ([])) 153 2,blk z [.bool false, .string ⟨List.toArray ([])⟩, .slice none 0 0] 149,blk o (bv.cells d) 72]:=aN.free (fB 153 2)
 have bK:=bJ.pk [0]
 obtain rfl:_=aS.mk false ([]) (Ll.mk ([])):=hr.symm.trans (et (iN B) (ip L))
 exact⟨none,0,rfl,bK⟩
 refine jF (dF L) (sk (sr (Mz rfl ?_)))
 obtain⟨a,j⟩:=dK (ls:=d1) (i:=0) ae.len f3 (p.ro t) e9
 have F:=fo Y j
 have bL:=(G _ (List.mem_of_getElem? j)).2
 have bM:a.aj.ls.length≤100000000:=Nat.le_trans (Nat.le_add_left _ _) (Cq I F)
 refine fw (.pointer (some ⟨ab M,ao M+0 *3,none⟩)) (F4 (rR) rfl rfl ((p.ro t).addr (i:=0) e6) e6) (fw (.agg (ae.cells a).toArray) (F7 rfl (Gf (cs:=(ae.cells a)) Tryz.isAgg149 Tryz.sizeOf149 ((p.ro t).elem ae.len j f3))) ?_)
 refine dM [.bool false, .string ⟨List.toArray ([])⟩, .slice none 0 0] 149 p ?_
 intro T cK aO
 refine dN (ae.cells a) 0 aO Tryz.sizeOf149 ?_
 intro cO U
 refine ns (Kz (vP T 2) (Lz (.slice a.aj.A a.aj.ls.length a.aj.c) U 0 Tryz.isAgg147 ?_))
 obtain⟨cZ,aa,af,ag,bO⟩:=F3 U
 refine cl Tryz.call75 (kP _ _ a.aj.A a.aj.ls.length a.aj.c a.aj.ls a.aj.ls aa (af _ (G _ (List.mem_of_getElem? j)).1) rfl e6 rfl) ?_
 rintro _ df ⟨l,n,rfl,ah⟩
 have V:=ag _ _ ah
 have bP:=V.rowC (i:=0) rfl
 refine Kz (vP T 2) ?_
 have aQ:=V.pf [1]
 refine dN [.slice l a.aj.ls.length n] 2 aQ Tryz.sizeOf147 ?_
 intro dh W
 refine ns (La ([.bool a.dZ, .string ⟨List.toArray a.aQ⟩, .slice l a.aj.ls.length n]) W 0 Tryz.isAgg149 Tryz.sizeOf149 ?_)
 have aR:=W.pf [2]
 refine dN [.bool a.dZ, .string ⟨List.toArray a.aQ⟩, .slice l a.aj.ls.length n] 0 aR Tryz.sizeOf149 ?_
 intro di X
 refine nt (rt (tR (Fin.res (ni rfl rfl (Gf (cs:= [.bool a.dZ, .string ⟨List.toArray a.aQ⟩, .slice l a.aj.ls.length n]) Tryz.isAgg149 Tryz.sizeOf149 ((X.cls (i:=0) rfl).lit (k:=0) (m:=3) rfl))) ?_)))
 have aT:=X.pk [2]
 obtain rfl:_=aS.mk a.dZ a.aQ (Ll.mk a.aj.ls):=hr.symm.trans (et (iN B) (et (iN L) (ai (bF F))))
 exact⟨l,n,rfl,aT⟩
end Go.Proofs.YtbkagebjhbphaaaGreat
namespace Go.Proofs.YtbkagebjhbphaaaGreat
open List renaming flatMap→q6,getD→C2,getD_eq_getElem?_getD→K1,getElem?_cons_succ→q5,getElem?_cons_zero→m6,getElem?_eq_getElem→s5,length→s2,take→r5
open Ll renaming mk→E4
open Nat renaming le_trans→K2,zero_add→o4
set_option maxRecDepth 100000
set_option linter.unusedVariables false
set_option linter.unusedSimpArgs false
def Row40H.own (x:bK):List HP:= [row x.A x.ls.length x.c (q6 ae.cells x.ls) 149 3]
def yP (w:World) (D:Nat→Prop) (ds:List bK):Prop:=∀ q ∈ ds, ∀ x ∈ q.ls,Ro w D (fun w'=>bA w' 2 x.aj.A (s2 x.aj.ls) (q6 aI.cells x.aj.ls))∧(s2 x.aj.ls≤x.aj.c∧s2 x.aj.ls≤9223372036854775807)
theorem ug {w:World} {D:Nat→Prop} (n:Nat):yP w D (List.replicate n (Sv.mk none 0 []:bK)):=fun q hq x hx=>by
  rw [(List.mem_replicate.1 hq).2] at hx; cases hx
theorem zT {w:World} {D:Nat→Prop} {ds:List bK} {i:Nat} {q:bK} (h:yP w D ds) (hq:ds[i]? =some q):∀ x ∈ q.ls,Ro w D (fun w'=>bA w' 2 x.aj.A (s2 x.aj.ls) (q6 aI.cells x.aj.ls))∧(s2 x.aj.ls≤x.aj.c∧s2 x.aj.ls≤9223372036854775807):=h q (List.mem_of_getElem? hq)
theorem DY {w:World} {D:Nat→Prop} {ds:List bK} {i:Nat} {y:bK} (h:yP w D ds) (hy:∀ x ∈ y.ls,Ro w D (fun w'=>bA w' 2 x.aj.A (s2 x.aj.ls) (q6 aI.cells x.aj.ls))∧(s2 x.aj.ls≤x.aj.c∧s2 x.aj.ls≤9223372036854775807)):yP w D (List.set ds i y):=fun q hq x hx=>by
  rcases List.mem_or_eq_of_mem_set hq with e | e
  · exact h q e x hx
  · rw [e] at hx; exact hy x hx
def tt:List (Ll aS)→Nat
  | []=>0
  | x::l=>tot x.ls+tt l
theorem zU:∀ n:Nat,tt (List.replicate n (E4 []:Ll aS))=0
  | 0=>rfl
  | n+1=>by rw [List.replicate_succ,tt,zU n]; rfl
theorem zV:∀ a c:List (Ll aS),tt (a++c)=tt a+tt c
  | [],c=>(o4 _).symm
  | x::a,c=>by rw [List.cons_append,tt,tt,zV a c,Nat.add_assoc]
theorem yn {l:List (Ll aS)} {k:Nat} {x:Ll aS} (hx:l[k]? =some x):tt (r5 (k+1) l)=tt (r5 k l)+tot x.ls:=by
  obtain⟨h,rfl⟩:=List.getElem?_eq_some_iff.1 hx
  rw [List.take_succ_eq_append_getElem h,zV]; rfl
theorem wB (l:List (Ll aS)) (k:Nat):tt (r5 k l)≤tt l:=by
  have:=zV (r5 k l) (List.drop k l)
  rw [List.take_append_drop] at this
  omega
theorem Cr:∀ {l:List (Ll aS)} {i:Nat} {x y:Ll aS},l[i]? =some x→tt (List.set l i y)+tot x.ls=tt l+tot y.ls
  | [],_,_,_,h=>by simp at h
  | z::l,0,x,y,h=>by
    simp only [m6,Option.some.injEq] at h
    subst h
    rw [List.set_cons_zero,tt,tt]; omega
  | z::l,i+1,x,y,h=>by
    simp only [q5] at h
    have:=Cr (y:=y) h
    rw [List.set_cons_succ,tt,tt]; omega
theorem DD {l:List (Ll aS)} {i N:Nat} {x:Ll aS} (h:tt l≤N) (hx:l[i]? =some x):tot x.ls≤N:=by
  have:=wB l (i+1)
  rw [yn hx] at this
  omega
theorem zh {l:List (Ll aS)} {k:Nat} {x:Ll aS} (h:l[k]? =some x):C2 l k default=x:=by
  rw [K1,h]; rfl
def seen (a:List (Ll aS)) (k j:Nat):Nat:=tt (r5 k a)+tot (r5 j (C2 a k default).ls)
theorem Cs (a:List (Ll aS)) (k:Nat):seen a k 0=tt (r5 k a):=rfl
theorem yQ {l a:List (Ll aS)} {k j i:Nat} {y:Ll aS} {qs:List aS} {r:aS} (h:tt l≤seen a k j) (hy:a[k]? =some y) (hr:y.ls[j]? =some r) (hq:l[i]? =some (E4 qs)):tt (List.set l i (E4 (qs++ [r])))≤seen a k (j+1):=by
  have b:=Cr (y:=E4 (qs++ [r])) hq
  have c:tot (E4 (qs++ [r])).ls=tot qs+tot [r]:=wz qs [r]
  have d:tot [r]=s2 r.aj.ls+1:=rfl
  unfold seen at h ⊢
  rw [zh hy] at h ⊢
  rw [wZ hr]
  have e:tot (E4 qs:Ll aS).ls=tot qs:=rfl
  omega
theorem zW {l a:List (Ll aS)} {k j:Nat} (h:tt l≤seen a k j) (hk:k < s2 a):tt l≤tt (r5 (k+1) a):=by
  unfold seen at h
  have hy:a[k]? =some a[k]:=s5 hk
  rw [zh hy] at h
  rw [yn hy]
  have:=vG a[k].ls j
  omega
theorem Ff {l a:List (Ll aS)} {k i N:Nat} {qs:List aS} (h:tt l≤tt (r5 k a)) (b:tt a≤N) (hq:l[i]? =some (E4 qs)):tot qs≤N:=DD (x:=E4 qs) (K2 h (K2 (wB _ _) b)) hq
theorem Be (a:List (Ll aS)) (k j:Nat):seen a k j≤tt a:=by
  unfold seen
  by_cases hk:k < s2 a
  · have hy:a[k]? =some a[k]:=s5 hk
    rw [zh hy]
    have d:=yn hy
    have b:=wB a (k+1)
    have c:=vG a[k].ls j
    omega
  · have e:C2 a k default=default:=by rw [K1,List.getElem?_eq_none e6]; rfl
    rw [e]
    have b:=wB a k
    have c:tot (r5 j (default:Ll aS).ls)=0:=by
      have:(default:Ll aS).ls= []:=rfl
      rw [this,List.take_nil]; rfl
    omega
theorem xG {l b:List (Ll aS)} {i N m:Nat} {q:bK} (h:tt l≤m) (hm:m≤tt b) (c:tt b≤N) (hq:l[i]? =some (bK.abs q)):s2 q.ls≤N∧s2 (List.map ae.abs q.ls)≤N:=by
  have d:=DD (K2 h (K2 hm c)) hq
  have a:s2 (List.map ae.abs q.ls)≤N:=K2 (Bc _) d
  exact⟨by rw [List.length_map] at a; exact a,a⟩
theorem De {α σ ρ:Type} (a:α) (f:α→σ ⊕ ρ):sK (Sum.inl a) f=f a:=rfl
theorem Df {α σ ρ:Type} (a:ρ) (f:α→σ ⊕ ρ):sK (Sum.inr a) f=Sum.inr a:=rfl
theorem Ez (l0:List bv) (k:Nat):∀ q:List Int,(gL l0 k q= .inl ()∧∀ f ∈ q,0≤f∧f < ((s2 l0:Nat):Int))∨(gL l0 k q= .inr 1∧∃ f ∈ q,f < 0∨f ≥ ((s2 l0:Nat):Int))
  | []=> .inl ⟨by rw [gL],fun f hf=>(by cases hf)⟩
  | x::q=>by
    rw [gL]
    by_cases a:x < 0
    · exact .inr ⟨by rw [if_pos a],x, .head _, .inl a⟩
    · by_cases b:x ≥ ((s2 l0:Nat):Int)
      · exact .inr ⟨by rw [if_neg a,if_pos b],x, .head _, .inr b⟩
      · rw [if_neg a,if_neg b]
        rcases Ez l0 k q with ⟨c,d⟩ | ⟨c,f,d,g⟩
        · refine .inl ⟨c,fun f hf=> ?_⟩
          rcases List.mem_cons.1 hf with e | e
          · rw [e]; omega
          · exact d f e
        · exact .inr ⟨c,f, .tail _ d,g⟩
def vH (l0:List bv) (x:gq) (y:Ll aS):Prop:=s2 x.aF.ls=s2 x.aH.ls∧s2 x.aF.ls=s2 y.ls∧∀ f ∈ x.aH.ls,0≤f∧f < ((s2 l0:Nat):Int)
theorem EA (l0:List bv) (a:List (Ll aS)):∀ (q:List gq) (k:Nat),(fT l0 a q k= .inl ()∧∀ (i:Nat) (x:gq),q[i]? =some x→vH l0 x (C2 a (k+i) default))∨(fT l0 a q k= .inr 1∧∃ (i:Nat) (x:gq),q[i]? =some x∧¬ vH l0 x (C2 a (k+i) default))
  | [],k=> .inl ⟨by rw [fT],fun i x h=>by simp at h⟩
  | x::q,k=>by
    rw [fT]
    by_cases b:((x.aF.ls.length:Nat):Int)=((x.aH.ls.length:Nat):Int)
    · rw [if_pos b]
      simp only [bnd]
      by_cases c:((x.aF.ls.length:Nat):Int)=(((C2 a k default).ls.length:Nat):Int)
      · rw [if_pos c]
        rcases Ez l0 k x.aH.ls with ⟨d,e⟩ | ⟨d,f,e,m⟩
        · rw [d,De]
          rcases EA l0 a q (k+1) with ⟨g,j⟩ | ⟨g,i,y,j,l⟩
          · refine .inl ⟨g,fun i y hy=> ?_⟩
            cases i with
            | zero=>
              simp only [m6,Option.some.injEq] at hy
              subst hy
              exact⟨e6,by rw [Nat.add_zero]; omega,e⟩
            | succ i=>
              simp only [q5] at hy
              have:=j i y hy
              rw [show k+1+i=k+(i+1) by omega] at this
              exact this
          · exact .inr ⟨g,i+1,y,by simpa using j,by rw [show k+(i+1)=k+1+i by omega]; exact l⟩
        · rw [d,Df]
          exact .inr ⟨rfl,0,x,rfl,fun w=>by have:=w.2.2 f e; omega⟩
      · rw [if_neg c]
        exact .inr ⟨rfl,0,x,rfl,fun w=>c (by have:=w.2.1; rw [Nat.add_zero] at this; omega)⟩
    · rw [if_neg b]
      exact .inr ⟨rfl,0,x,rfl,fun w=>b (by have:=w.1; omega)⟩
theorem Fw (l0:List bv) (l1:List gq) (a:List (Ll aS)):(kw l0 l1 a=0∧s2 a=s2 l1∧∀ (i:Nat) (x:gq),l1[i]? =some x→vH l0 x (C2 a i default))∨(kw l0 l1 a=1∧¬ (s2 a=s2 l1∧∀ (i:Nat) (x:gq),l1[i]? =some x→vH l0 x (C2 a i default))):=by
  unfold kw
  by_cases c:((a.length:Nat):Int)=((l1.length:Nat):Int)
  · rw [if_pos c]
    rcases EA l0 a l1 0 with ⟨b,d⟩ | ⟨b,i,x,d,e⟩
    · exact .inl ⟨by rw [b]; rfl,e6,fun i x hx=>by have:=d i x hx; rw [o4] at this; exact this⟩
    · exact .inr ⟨by rw [b]; rfl,fun w=>e (by rw [o4]; exact w.2 i x d)⟩
  · rw [if_neg c]
    exact .inr ⟨rfl,fun w=>c e6⟩
theorem DZ {l0:List bv} {l1:List gq} {a:List (Ll aS)} {r:Int} (h:kw l0 l1 a=r):s2 a=s2 l1∨¬ r=0:=by
  rcases Fw l0 l1 a with ⟨_,b,_⟩ | ⟨c,_⟩
  · exact .inl b
  · exact .inr (by rw [← h,c]; decide)
theorem zX {l0:List bv} {l1:List gq} {a:List (Ll aS)} {r:Int} (h:kw l0 l1 a=r) (c:r=0) {i:Nat} {x:gq} (hx:l1[i]? =some x):vH l0 x (C2 a i default):=by
  rcases Fw l0 l1 a with ⟨_,_,d⟩ | ⟨b,_⟩
  · exact d i x hx
  · rw [h,c] at b; cases b
end Go.Proofs.YtbkagebjhbphaaaGreat
