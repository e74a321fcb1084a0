/-
  Results dealt out to operations: what is owned of them, what they weigh, what a check of the parts tells. Conditions: none beyond each law's own.
-/
import Derived.Test.YtbkagebjhbphaaaGreatGa
namespace Go.Proofs.YtbkagebjhbphaaaGreat
set_option maxRecDepth 100000
set_option linter.unusedVariables false
set_option linter.unusedSimpArgs false
def tot:List aQ→Nat
  | []=>0
  | x::l=>List.length x.ak.ls+1+tot l
theorem wY:∀ a c:List aQ,tot (a++c)=tot a+tot c
  | [],c=>(Nat.zero_add _).symm
  | x::a,c=>by rw [List.cons_append,tot,tot,wY a c]; omega
theorem xK {l:List aQ} {k:Nat} {x:aQ} (hx:l[k]? =some x):tot (List.take (k+1) l)=tot (List.take k l)+(List.length x.ak.ls+1):=by
  obtain⟨h,rfl⟩:=List.getElem?_eq_some_iff.1 hx
  rw [List.take_succ_eq_append_getElem h,wY]; rfl
theorem AQ {l:List aQ} {k n:Nat} {x:aQ} (h:n≤tot (List.take k l)) (hx:l[k]? =some x):n+List.length x.ak.ls≤tot (List.take (k+1) l):=by
  rw [xK hx]; omega
theorem wy (l:List aQ) (k:Nat):tot (List.take k l)≤tot l:=by
  have:=wY (List.take k l) (List.drop k l)
  rw [List.take_append_drop] at this
  omega
theorem Dn {l:List aQ} {k N:Nat} {x:aQ} (h:tot l≤N) (hx:l[k]? =some x):tot (List.take k l)+List.length x.ak.ls≤N:=by
  have:=wy l (k+1)
  rw [xK hx] at this
  omega
theorem BV:∀ l:List aQ,List.length l≤tot l
  | []=>Nat.le_refl _
  | x::l=>by have:=BV l; rw [tot,List.length_cons]; omega
end Go.Proofs.YtbkagebjhbphaaaGreat
namespace Go.Proofs.YtbkagebjhbphaaaGreat
set_option maxRecDepth 100000
open Go.RowKit
set_option linter.unusedVariables false
set_option linter.unusedSectionVars false
set_option linter.unusedSimpArgs false
def jC (d:bi):List aQ→List aI→(List aI)
  | [],a=>a
  | b::c,a=>jC d c (a++b.ak.ls)
def jq (c:bi) (l1:List aQ):aQ:=
 if c.aD=4 then bnd (jC c l1 ([])) fun sLrtL=>bnd (jr sLrtL) fun b=>aQ.mk false ([]) (Ll.mk (List.take (Int.toNat (min (max c.bS 0) ((sLrtL.length:Nat):Int))) b)) else if((l1.length:Nat):Int)=0 then aQ.mk false ([]) (Ll.mk ([])) else bnd (List.getD l1 0 default) fun a=>aQ.mk a.eF a.aT (Ll.mk a.ak.ls)
theorem xe (w D) (d:bi) (M n1 c1 d1 l1) (r0:aQ) (H:Own w D w []) (Y:List.map ae.abs d1=l1) (t:Ro w D fun w'=>bE w' 3 M n1 (List.flatMap ae.cells d1)) (G:∀ x ∈ d1,Ro w D (fun w'=>bE w' 2 x.ak.A x.ak.ls.length (List.flatMap aI.cells x.ak.ls))∧(x.ak.ls.length≤x.ak.c∧x.ak.ls.length≤9223372036854775807)) (aV:n1=l1.length) (di:l1.length *48≤211106232532992) (I:tot l1≤100000000) (hr:jq d l1=r0):
    Calls Tryz.prog 149 #[.agg (bi.cells d).toArray, .slice M n1 c1] w (d9 fun v w'=> ∃ N O,v= .agg #[.bool r0.eF, .string ⟨List.toArray r0.aT⟩, .slice N r0.ak.ls.length O]∧Own w D w' [row N r0.ak.ls.length O (List.flatMap aI.cells r0.ak.ls) 153 2]):=by
 subst aV
 have bP:=aB Y
 refine cb Tryz.func149 ?_
 refine sr ?_
 refine dV (bi.cells d) 72 H ?_
 intro o dm aW
 refine dV [.bool false, .string ⟨List.toArray ([])⟩, .slice none 0 0] 149 aW ?_
 intro z aX p
 refine nt (Ic (sr (Kz (vP o 0) (Lz (vI d.aD) p 1 Tryz.isAgg3 (fw (.bool (decide (¬ (d.aD=4)))) (IG (e:= !(decide (d.aD=4))) yk decide_not.symm) (nt ?_))))))
 by_cases B:d.aD=4
 refine jF (dF (Lh B)) (sk (sr (An rfl (Ic (sr (Mz rfl (Kz (vJ l1.length) (Mn rfl (bo ?_)))))))))
 have aY:Own w D aX [row none 0 0 (List.flatMap aI.cells ([])) 153 2,blk z [.bool false, .string ⟨List.toArray ([])⟩, .slice none 0 0] 149,blk o (bi.cells d) 72]:=p.free (eZ 153 2)
 have aZ:=aY.pb [0]
 obtain⟨bf,C⟩:=sQ fun u (y:Nat) b (f:Nat) w'=>Own w D w' [blk z [.bool false, .string ⟨List.toArray ([])⟩, .slice none 0 0] 149,blk o (bi.cells d) 72,row u b.length y (List.flatMap aI.cells b) 153 2]∧f≤l1.length∧b.length≤tot (List.take f l1)∧tot (List.take f l1)≤100000000∧jC d l1 ([])=jC d (List.drop f l1) b
 refine Wp.loop (fun i:(Option Addr) × Nat × (List aI) × Nat=> [(6, .slice i.1 i.2.2.1.length i.2.1),(27,vJ i.2.2.2),(26,vJ l1.length),(25, .slice M l1.length c1),(4,vP z 0),(2,vP o 0)]) bf (fun i=>l1.length - i.2.2.2) (none,0, [],0) ⟨rfl,rfl,rfl,rfl,rfl,rfl,trivial⟩ (C.2 ⟨aZ,(show 0≤l1.length∧0≤tot (List.take 0 l1)∧tot (List.take 0 l1)≤100000000∧jC d l1 ([])=jC d (List.drop 0 l1) ([]) from ⟨e6,by first | exact Lg _ | (rw [List.length_append]; exact AQ f5 f5),by exact Nat.le_trans (wy _ _) I,rfl⟩)⟩) ?_
 rintro ⟨u,y,b,f⟩ dn au
 obtain⟨E,bQ,bR,bS,P⟩:=C.1 au
 refine sr (Kz (.bool (decide (((f:Nat):Int) < ((l1.length:Nat):Int)))) (nt (Ic ?_)))
 by_cases av:((f:Nat):Int) < ((l1.length:Nat):Int)
 obtain⟨g,r⟩:=dN (ls:=d1) (i:=f) ae.len f4 (E.ro t) e9
 have Q:=fF Y r
 have bT:=(G _ (List.mem_of_getElem? r)).2
 have bU:tot (List.take f l1)+g.ak.ls.length≤100000000:=Dn I Q
 have ax:=drop_at Q
 refine jT (dT av) (sk (Ic (bo (sr (fw (.pointer (some ⟨ab M,ao M+f *3,none⟩)) (Ij (sI) rfl rfl ((E.ro t).addr (i:=f) e6) e6) (fw (.agg (ae.cells g).toArray) (Io rfl (Iy (cs:=(ae.cells g)) Tryz.isAgg149 Tryz.sizeOf149 ((E.ro t).elem ae.len r f4))) ?_))))))
 refine dV [.bool false, .string ⟨List.toArray ([])⟩, .slice none 0 0] 149 E ?_
 intro bg dw bn
 refine dS (ae.cells g) 0 bn Tryz.sizeOf149 ?_
 intro dx ay
 refine nt (Ib (Mz rfl (Kz (vP bg 2) (Lz (.slice g.ak.A g.ak.ls.length g.ak.c) ay 0 Tryz.isAgg147 ?_))))
 have az:=ay.pf [3]
 refine WL.do rfl (IM (k:=b.length) (m:=g.ak.ls.length) (ko) az rfl rfl (jv Tryz.underlying147 (az.ro (G _ (List.mem_of_getElem? r)).1) (fU aI.one g.ak.ls)) rfl e6 (s:=List.length (b++g.ak.ls)) f7 (List.flatMap_append).symm ?_)
 intro bq bu dz bv
 have bV:List.length (b++g.ak.ls)=b.length+g.ak.ls.length:=by simp only [List.length_append,List.length_cons,List.length_nil]
 refine Az rfl (WL.nil (bN (Ig ?_)))
 have bz:=bv.pk [0,2,3]
 refine Ib (fw (vJ (f+1)) (Ie (e:=IntKind.i64.wrap (((f:Nat):Int)+1)) yk f0) (Mz rfl (WL.nil ?_)))
 have bA:=bz.pb [0]
 exact Ir (bq,bu,(b++g.ak.ls),f+1) ⟨rfl,rfl,rfl,rfl,rfl,rfl,trivial⟩ (C.2 ⟨bA,e6,by first | exact Lg _ | (rw [List.length_append]; exact AQ f5 f5),by exact Nat.le_trans (wy _ _) I,et (P) (et (congrArg (fun q=>jC d q b) ax) rfl)⟩) (by show l1.length - (f+1) < l1.length - f; omega)
 refine jF (dF av) (Wp.exit (Il ?_))
 have aA:jC d l1 ([])=b:=et (P) (et (congrArg (fun q=>jC d q b) (fB (ls:=l1) (i:=f) e6)) rfl)
 refine Il (IB (Ig (sr (Mz rfl ?_))))
 have bB:=E.pf [2]
 obtain⟨h,R⟩:∃ q,jr b=q:=⟨_,rfl⟩
 obtain⟨dA,aC,bW,aD,bX⟩:=II bB
 refine cl Tryz.call165 (oJ _ _ u b.length y b h aC rfl e6 R) ?_
 rintro _ dB ⟨rfl,aF,S⟩
 have Z:=aD _ _ aF
 have bY:=Z.rowC (i:=0) rfl
 replace S:h.length=b.length:=S
 refine ns (Kz (vP o 5) (Lz (vI d.bS) Z 2 Tryz.isAgg3 (fw (vI (max d.bS 0)) (Ie (e:=if 0 > d.bS then 0 else d.bS) yk e6) (Mz rfl (Kz (vJ b.length) (fw (vI (min (max d.bS 0) ((b.length:Nat):Int))) (Ie (e:=if((b.length:Nat):Int) < max d.bS 0 then((b.length:Nat):Int) else max d.bS 0) yk e6) (An rfl (Ic ?_))))))))
 have bC:=Z.pk [0,1]
 refine Ib (Mz rfl (fw (vI ((Int.toNat (min (max d.bS 0) ((b.length:Nat):Int)):Nat):Int)) (Ie (e:=min (max d.bS 0) ((b.length:Nat):Int)) (Iq rfl) e6) (fw (.slice u (Int.toNat (min (max d.bS 0) ((b.length:Nat):Int))) y) (Jc (ko) rfl rfl e6) ?_)))
 have bZ:Int.toNat (min (max d.bS 0) ((b.length:Nat):Int))=List.length (List.take (Int.toNat (min (max d.bS 0) ((b.length:Nat):Int))) h):=f1
 obtain⟨dC,aG,cu,aH,aJ⟩:=Ii bC
 refine cl Tryz.call75 (ll _ _ u (Int.toNat (min (max d.bS 0) ((b.length:Nat):Int))) y (List.take (Int.toNat (min (max d.bS 0) ((b.length:Nat):Int))) h) (List.take (Int.toNat (min (max d.bS 0) ((b.length:Nat):Int))) h) aG (fun w9 h9=>Ke (hi:=Int.toNat (min (max d.bS 0) ((b.length:Nat):Int))) aI.len ((aJ _ 0 _ rfl aO) w9 h9) e6) f1 g4 rfl) ?_
 rintro _ dG ⟨J,K,rfl,aK⟩
 have aL:=aH _ _ aK
 have cz:=aL.rowC (i:=0) rfl
 refine Kz (.agg #[.bool false, .string ⟨List.toArray ([])⟩, .slice J (List.length (List.take (Int.toNat (min (max d.bS 0) ((b.length:Nat):Int))) h)) K]) ?_
 have bD:=aL.pf [2]
 refine dS [.bool false, .string ⟨List.toArray ([])⟩, .slice J (List.length (List.take (Int.toNat (min (max d.bS 0) ((b.length:Nat):Int))) h)) K] 0 bD Tryz.sizeOf149 ?_
 intro dH aM
 refine nt (rt (Fin.res (ol rfl rfl (Iy (cs:= [.bool false, .string ⟨List.toArray ([])⟩, .slice J (List.length (List.take (Int.toNat (min (max d.bS 0) ((b.length:Nat):Int))) h)) K]) Tryz.isAgg149 Tryz.sizeOf149 ((aM.cls (i:=0) rfl).lit (k:=0) (m:=3) rfl))) ?_))
 have bF:=aM.pk [1]
 obtain rfl:_=aQ.mk false ([]) (Ll.mk (List.take (Int.toNat (min (max d.bS 0) ((b.length:Nat):Int))) h)):=hr.symm.trans (et (ip B) (et (ah aA) (ah R)))
 exact⟨J,K,rfl,bF⟩
 refine jT (dT B) (Ic (sr (Mz rfl (Kz (vJ l1.length) (Kz (.bool (decide (((l1.length:Nat):Int)=0))) (nt ?_))))))
 by_cases L:((l1.length:Nat):Int)=0
 refine jT (dT L) (sr (Kz (.agg #[.bool false, .string ⟨List.toArray ([])⟩, .slice none 0 0]) ?_))
 refine dS [.bool false, .string ⟨List.toArray ([])⟩, .slice none 0 0] 0 p Tryz.sizeOf149 ?_
 intro bG aN
 refine nt (rt (tR (tR (Fin.res (ol rfl rfl (Iy (cs:= [.bool false, .string ⟨List.toArray ([])⟩, .slice none 0 0]) Tryz.isAgg149 Tryz.sizeOf149 ((aN.cls (i:=0) rfl).lit (k:=0) (m:=3) rfl))) ?_))))
 have bH:Own w D bG [row none 0 0 (List.flatMap aI.cells ([])) 153 2,blk z [.bool false, .string ⟨List.toArray ([])⟩, .slice none 0 0] 149,blk o (bi.cells d) 72]:=aN.free (eZ 153 2)
 have bI:=bH.pk [0]
 obtain rfl:_=aQ.mk false ([]) (Ll.mk ([])):=hr.symm.trans (et (iN B) (ip L))
 exact⟨none,0,rfl,bI⟩
 refine jF (dF L) (sk (sr (Mz rfl ?_)))
 obtain⟨a,j⟩:=dN (ls:=d1) (i:=0) ae.len f4 (p.ro t) e9
 have F:=fF Y j
 have bK:=(G _ (List.mem_of_getElem? j)).2
 have bL:a.ak.ls.length≤100000000:=Nat.le_trans (Nat.le_add_left _ _) (Dn I F)
 refine fw (.pointer (some ⟨ab M,ao M+0 *3,none⟩)) (Ij (sI) rfl rfl ((p.ro t).addr (i:=0) e6) e6) (fw (.agg (ae.cells a).toArray) (Io rfl (Iy (cs:=(ae.cells a)) Tryz.isAgg149 Tryz.sizeOf149 ((p.ro t).elem ae.len j f4))) ?_)
 refine dV [.bool false, .string ⟨List.toArray ([])⟩, .slice none 0 0] 149 p ?_
 intro T cB aP
 refine dS (ae.cells a) 0 aP Tryz.sizeOf149 ?_
 intro cK U
 refine ns (Kz (vP T 2) (Lz (.slice a.ak.A a.ak.ls.length a.ak.c) U 0 Tryz.isAgg147 ?_))
 obtain⟨cO,aa,af,ag,bM⟩:=Ii U
 refine cl Tryz.call75 (ll _ _ a.ak.A a.ak.ls.length a.ak.c a.ak.ls a.ak.ls aa (af _ (G _ (List.mem_of_getElem? j)).1) rfl e6 rfl) ?_
 rintro _ cZ ⟨l,n,rfl,ai⟩
 have V:=ag _ _ ai
 have bO:=V.rowC (i:=0) rfl
 refine Kz (vP T 2) ?_
 have aR:=V.pf [1]
 refine dS [.slice l a.ak.ls.length n] 2 aR Tryz.sizeOf147 ?_
 intro df W
 refine ns (La ([.bool a.eF, .string ⟨List.toArray a.aT⟩, .slice l a.ak.ls.length n]) W 0 Tryz.isAgg149 Tryz.sizeOf149 ?_)
 have aS:=W.pf [2]
 refine dS [.bool a.eF, .string ⟨List.toArray a.aT⟩, .slice l a.ak.ls.length n] 0 aS Tryz.sizeOf149 ?_
 intro dh X
 refine nt (rt (tR (Fin.res (ol rfl rfl (Iy (cs:= [.bool a.eF, .string ⟨List.toArray a.aT⟩, .slice l a.ak.ls.length n]) Tryz.isAgg149 Tryz.sizeOf149 ((X.cls (i:=0) rfl).lit (k:=0) (m:=3) rfl))) ?_)))
 have aT:=X.pk [2]
 obtain rfl:_=aQ.mk a.eF a.aT (Ll.mk a.ak.ls):=hr.symm.trans (et (iN B) (et (iN L) (ah (bJ F))))
 exact⟨l,n,rfl,aT⟩
end Go.Proofs.YtbkagebjhbphaaaGreat
namespace Go.Proofs.YtbkagebjhbphaaaGreat
open List renaming flatMap→q3,getD→C0,getD_eq_getElem?_getD→L4,getElem?_cons_succ→q2,getElem?_cons_zero→p6,getElem?_eq_getElem→s2,length→r8,take→q7
open Ll renaming mk→E2
open Nat renaming le_trans→L5,zero_add→m7
set_option maxRecDepth 100000
set_option linter.unusedVariables false
set_option linter.unusedSimpArgs false
def Row40H.own (x:bO):List HP:= [row x.A x.ls.length x.c (q3 ae.cells x.ls) 149 3]
def zz (w:World) (D:Nat→Prop) (ds:List bO):Prop:=∀ q ∈ ds, ∀ x ∈ q.ls,Ro w D (fun w'=>bE w' 2 x.ak.A (r8 x.ak.ls) (q3 aI.cells x.ak.ls))∧(r8 x.ak.ls≤x.ak.c∧r8 x.ak.ls≤9223372036854775807)
theorem uG {w:World} {D:Nat→Prop} (n:Nat):zz w D (List.replicate n (Sv.mk none 0 []:bO)):=fun q hq x hx=>by
  rw [(List.mem_replicate.1 hq).2] at hx; cases hx
theorem AR {w:World} {D:Nat→Prop} {ds:List bO} {i:Nat} {q:bO} (h:zz w D ds) (hq:ds[i]? =some q):∀ x ∈ q.ls,Ro w D (fun w'=>bE w' 2 x.ak.A (r8 x.ak.ls) (q3 aI.cells x.ak.ls))∧(r8 x.ak.ls≤x.ak.c∧r8 x.ak.ls≤9223372036854775807):=h q (List.mem_of_getElem? hq)
theorem ET {w:World} {D:Nat→Prop} {ds:List bO} {i:Nat} {y:bO} (h:zz w D ds) (hy:∀ x ∈ y.ls,Ro w D (fun w'=>bE w' 2 x.ak.A (r8 x.ak.ls) (q3 aI.cells x.ak.ls))∧(r8 x.ak.ls≤x.ak.c∧r8 x.ak.ls≤9223372036854775807)):zz w D (List.set ds i y):=fun q hq x hx=>by
  rcases List.mem_or_eq_of_mem_set hq with e | e
  · exact h q e x hx
  · rw [e] at hx; exact hy x hx
def tt:List (Ll aQ)→Nat
  | []=>0
  | x::l=>tot x.ls+tt l
theorem AU:∀ n:Nat,tt (List.replicate n (E2 []:Ll aQ))=0
  | 0=>rfl
  | n+1=>by rw [List.replicate_succ,tt,AU n]; rfl
theorem AV:∀ a c:List (Ll aQ),tt (a++c)=tt a+tt c
  | [],c=>(m7 _).symm
  | x::a,c=>by rw [List.cons_append,tt,tt,AV a c,Nat.add_assoc]
theorem yT {l:List (Ll aQ)} {k:Nat} {x:Ll aQ} (hx:l[k]? =some x):tt (q7 (k+1) l)=tt (q7 k l)+tot x.ls:=by
  obtain⟨h,rfl⟩:=List.getElem?_eq_some_iff.1 hx
  rw [List.take_succ_eq_append_getElem h,AV]; rfl
theorem wZ (l:List (Ll aQ)) (k:Nat):tt (q7 k l)≤tt l:=by
  have:=AV (q7 k l) (List.drop k l)
  rw [List.take_append_drop] at this
  omega
theorem Dp:∀ {l:List (Ll aQ)} {i:Nat} {x y:Ll aQ},l[i]? =some x→tt (List.set l i y)+tot x.ls=tt l+tot y.ls
  | [],_,_,_,h=>by simp at h
  | z::l,0,x,y,h=>by
    simp only [p6,Option.some.injEq] at h
    subst h
    rw [List.set_cons_zero,tt,tt]; omega
  | z::l,i+1,x,y,h=>by
    simp only [q2] at h
    have:=Dp (y:=y) h
    rw [List.set_cons_succ,tt,tt]; omega
theorem Ey {l:List (Ll aQ)} {i N:Nat} {x:Ll aQ} (h:tt l≤N) (hx:l[i]? =some x):tot x.ls≤N:=by
  have:=wZ l (i+1)
  rw [yT hx] at this
  omega
theorem zQ {l:List (Ll aQ)} {k:Nat} {x:Ll aQ} (h:l[k]? =some x):C0 l k default=x:=by
  rw [L4,h]; rfl
def seen (a:List (Ll aQ)) (k j:Nat):Nat:=tt (q7 k a)+tot (q7 j (C0 a k default).ls)
theorem Dq (a:List (Ll aQ)) (k:Nat):seen a k 0=tt (q7 k a):=rfl
theorem zA {l a:List (Ll aQ)} {k j i:Nat} {y:Ll aQ} {qs:List aQ} {r:aQ} (h:tt l≤seen a k j) (hy:a[k]? =some y) (hr:y.ls[j]? =some r) (hq:l[i]? =some (E2 qs)):tt (List.set l i (E2 (qs++ [r])))≤seen a k (j+1):=by
  have b:=Dp (y:=E2 (qs++ [r])) hq
  have c:tot (E2 (qs++ [r])).ls=tot qs+tot [r]:=wY qs [r]
  have d:tot [r]=r8 r.ak.ls+1:=rfl
  unfold seen at h ⊢
  rw [zQ hy] at h ⊢
  rw [xK hr]
  have e:tot (E2 qs:Ll aQ).ls=tot qs:=rfl
  omega
theorem AX {l a:List (Ll aQ)} {k j:Nat} (h:tt l≤seen a k j) (hk:k < r8 a):tt l≤tt (q7 (k+1) a):=by
  unfold seen at h
  have hy:a[k]? =some a[k]:=s2 hk
  rw [zQ hy] at h
  rw [yT hy]
  have:=wy a[k].ls j
  omega
theorem GA {l a:List (Ll aQ)} {k i N:Nat} {qs:List aQ} (h:tt l≤tt (q7 k a)) (b:tt a≤N) (hq:l[i]? =some (E2 qs)):tot qs≤N:=Ey (x:=E2 qs) (L5 h (L5 (wZ _ _) b)) hq
theorem BX (a:List (Ll aQ)) (k j:Nat):seen a k j≤tt a:=by
  unfold seen
  by_cases hk:k < r8 a
  · have hy:a[k]? =some a[k]:=s2 hk
    rw [zQ hy]
    have d:=yT hy
    have b:=wZ a (k+1)
    have c:=wy a[k].ls j
    omega
  · have e:C0 a k default=default:=by rw [L4,List.getElem?_eq_none e6]; rfl
    rw [e]
    have b:=wZ a k
    have c:tot (q7 j (default:Ll aQ).ls)=0:=by
      have:(default:Ll aQ).ls= []:=rfl
      rw [this,List.take_nil]; rfl
    omega
theorem yh {l b:List (Ll aQ)} {i N m:Nat} {q:bO} (h:tt l≤m) (hm:m≤tt b) (c:tt b≤N) (hq:l[i]? =some (bO.abs q)):r8 q.ls≤N∧r8 (List.map ae.abs q.ls)≤N:=by
  have d:=Ey (L5 h (L5 hm c)) hq
  have a:r8 (List.map ae.abs q.ls)≤N:=L5 (BV _) d
  exact⟨by rw [List.length_map] at a; exact a,a⟩
theorem D8 {α σ ρ:Type} (a:α) (f:α→σ ⊕ ρ):qU (Sum.inl a) f=f a:=rfl
theorem D9 {α σ ρ:Type} (a:ρ) (f:α→σ ⊕ ρ):qU (Sum.inr a) f=Sum.inr a:=rfl
theorem FO (l0:List bi) (k:Nat):∀ q:List Int,(iy l0 k q= .inl ()∧∀ f ∈ q,0≤f∧f < ((r8 l0:Nat):Int))∨(iy l0 k q= .inr 1∧∃ f ∈ q,f < 0∨f ≥ ((r8 l0:Nat):Int))
  | []=> .inl ⟨by rw [iy],fun f hf=>(by cases hf)⟩
  | x::q=>by
    rw [iy]
    by_cases c1:x < 0
    · exact .inr ⟨by rw [if_pos c1],x, .head _, .inl c1⟩
    · by_cases c2:x ≥ ((r8 l0:Nat):Int)
      · exact .inr ⟨by rw [if_neg c1,if_pos c2],x, .head _, .inr c2⟩
      · rw [if_neg c1,if_neg c2]
        rcases FO l0 k q with ⟨a,b⟩ | ⟨a,f,b,c⟩
        · refine .inl ⟨a,fun f hf=> ?_⟩
          rcases List.mem_cons.1 hf with e | e
          · rw [e]; omega
          · exact b f e
        · exact .inr ⟨a,f, .tail _ b,c⟩
def wz (l0:List bi) (x:gF) (y:Ll aQ):Prop:=r8 x.aH.ls=r8 x.aJ.ls∧r8 x.aH.ls=r8 y.ls∧∀ f ∈ x.aJ.ls,0≤f∧f < ((r8 l0:Nat):Int)
theorem FP (l0:List bi) (a:List (Ll aQ)):∀ (q:List gF) (k:Nat),(gQ l0 a q k= .inl ()∧∀ (i:Nat) (x:gF),q[i]? =some x→wz l0 x (C0 a (k+i) default))∨(gQ l0 a q k= .inr 1∧∃ (i:Nat) (x:gF),q[i]? =some x∧¬ wz l0 x (C0 a (k+i) default))
  | [],k=> .inl ⟨by rw [gQ],fun i x h=>by simp at h⟩
  | x::q,k=>by
    rw [gQ]
    by_cases c1:((x.aH.ls.length:Nat):Int)=((x.aJ.ls.length:Nat):Int)
    · rw [if_pos c1]
      simp only [bnd]
      by_cases c2:((x.aH.ls.length:Nat):Int)=(((C0 a k default).ls.length:Nat):Int)
      · rw [if_pos c2]
        rcases FO l0 k x.aJ.ls with ⟨b,c⟩ | ⟨b,f,c,j⟩
        · rw [b,D8]
          rcases FP l0 a q (k+1) with ⟨d,e⟩ | ⟨d,i,y,e,g⟩
          · refine .inl ⟨d,fun i y hy=> ?_⟩
            cases i with
            | zero=>
              simp only [p6,Option.some.injEq] at hy
              subst hy
              exact⟨e6,by rw [Nat.add_zero]; omega,c⟩
            | succ i=>
              simp only [q2] at hy
              have:=e i y hy
              rw [show k+1+i=k+(i+1) by omega] at this
              exact this
          · exact .inr ⟨d,i+1,y,by simpa using e,by rw [show k+(i+1)=k+1+i by omega]; exact g⟩
        · rw [b,D9]
          exact .inr ⟨rfl,0,x,rfl,fun w=>by have:=w.2.2 f c; omega⟩
      · rw [if_neg c2]
        exact .inr ⟨rfl,0,x,rfl,fun w=>c2 (by have:=w.2.1; rw [Nat.add_zero] at this; omega)⟩
    · rw [if_neg c1]
      exact .inr ⟨rfl,0,x,rfl,fun w=>c1 (by have:=w.1; omega)⟩
theorem GU (l0:List bi) (l1:List gF) (a:List (Ll aQ)):(kN l0 l1 a=0∧r8 a=r8 l1∧∀ (i:Nat) (x:gF),l1[i]? =some x→wz l0 x (C0 a i default))∨(kN l0 l1 a=1∧¬ (r8 a=r8 l1∧∀ (i:Nat) (x:gF),l1[i]? =some x→wz l0 x (C0 a i default))):=by
  unfold kN
  by_cases c:((a.length:Nat):Int)=((l1.length:Nat):Int)
  · rw [if_pos c]
    rcases FP l0 a l1 0 with ⟨b,d⟩ | ⟨b,i,x,d,e⟩
    · exact .inl ⟨by rw [b]; rfl,e6,fun i x hx=>by have:=d i x hx; rw [m7] at this; exact this⟩
    · exact .inr ⟨by rw [b]; rfl,fun w=>e (by rw [m7]; exact w.2 i x d)⟩
  · rw [if_neg c]
    exact .inr ⟨rfl,fun w=>c e6⟩
theorem EU {l0:List bi} {l1:List gF} {a:List (Ll aQ)} {r:Int} (h:kN l0 l1 a=r):r8 a=r8 l1∨¬ r=0:=by
  rcases GU l0 l1 a with ⟨_,b,_⟩ | ⟨c,_⟩
  · exact .inl b
  · exact .inr (by rw [← h,c]; decide)
theorem AY {l0:List bi} {l1:List gF} {a:List (Ll aQ)} {r:Int} (h:kN l0 l1 a=r) (c:r=0) {i:Nat} {x:gF} (hx:l1[i]? =some x):wz l0 x (C0 a i default):=by
  rcases GU l0 l1 a with ⟨_,_,d⟩ | ⟨b,_⟩
  · exact d i x hx
  · rw [h,c] at b; cases b
end Go.Proofs.YtbkagebjhbphaaaGreat
