/- The layers told, part 3. Conditions: none beyond each law's own. -/
import Derived.Test.YtbkagebjhbphaaaGreatJb
namespace Go.Proofs.YtbkagebjhbphaaaGreat
set_option maxRecDepth 100000
set_option linter.unusedVariables false
set_option linter.unusedSimpArgs false
set_option linter.unusedSectionVars false
def tot:List aQ->Nat
  | []=>0
  | x::l=>List.length x.ak.ls+1+tot l
theorem wY:∀ a c:List aQ,tot (a++c)=tot a+tot c
  | [],c=>(Nat.zero_add _).symm
  | x::a,c=>by rw [List.cons_append,tot,tot,wY a c]; omega
theorem xK {l:List aQ} {k:Nat} {x:aQ} (hx:l[k]? =some x):tot (List.take (k+1) l)=tot (List.take k l)+(List.length x.ak.ls+1):=by
  obtain⟨h,rfl⟩:=List.getElem?_eq_some_iff.1 hx
  rw [List.take_succ_eq_append_getElem h,wY]; rfl
theorem AQ {l:List aQ} {k n:Nat} {x:aQ} (h:n<=tot (List.take k l)) (hx:l[k]? =some x):n+List.length x.ak.ls<=tot (List.take (k+1) l):=by
  rw [xK hx]; omega
theorem wy (l:List aQ) (k:Nat):tot (List.take k l)<=tot l:=by
  have:=wY (List.take k l) (List.drop k l)
  rw [List.take_append_drop] at this
  omega
theorem Dn {l:List aQ} {k N:Nat} {x:aQ} (h:tot l<=N) (hx:l[k]? =some x):tot (List.take k l)+List.length x.ak.ls<=N:=by
  have:=wy l (k+1)
  rw [xK hx] at this
  omega
theorem BV:∀ l:List aQ,List.length l<=tot l
  | []=>Nat.le_refl _
  | x::l=>by have:=BV l; rw [tot,List.length_cons]; omega
section
open Go.RowKit
def jC (d:bi):List aQ->List aI->(List aI)
  | [],a=>a
  | b::c,a=>jC d c (a++b.ak.ls)
def jq (c:bi) (l1:List aQ):aQ:=
 if c.aD=4 then bnd (jC c l1 []) λ sLrtL=>bnd (jr sLrtL) λ b=>aQ.mk false [] (Ll.mk (List.take (Int.toNat (min (max c.bS 0) (sLrtL.length:Int))) b)) else if(l1.length:Int)=0 then aQ.mk false [] (Ll.mk []) else bnd (List.getD l1 0 default) λ a=>aQ.mk a.eF a.aT (Ll.mk a.ak.ls)
theorem xe (w D) (d:bi) (M n1 c1 d1 l1) (r0:aQ) (H:Own w D w []) (Y:List.map ae.abs d1=l1) (t:Ro w D λ w'=>bE w' 3 M n1 (List.flatMap ae.cells d1)) (G:∀ x ∈ d1,Ro w D (λ w'=>bE w' 2 x.ak.A x.ak.ls.length (List.flatMap aI.cells x.ak.ls))/\(x.ak.ls.length<=x.ak.c/\x.ak.ls.length<=9223372036854775807)) (aV:n1=l1.length) (di:l1.length *48<=211106232532992) (I:tot l1<=100000000) (hr:jq d l1=r0):
    Calls Tryz.prog 149 #[.agg (bi.cells d).toArray, .slice M n1 c1] w (d9 λ v w'=> ∃ N O,v= .agg #[.bool r0.eF, .string ⟨List.toArray r0.aT⟩, .slice N r0.ak.ls.length O]/\Own w D w' [row N r0.ak.ls.length O (List.flatMap aI.cells r0.ak.ls) 153 2]):=by
 unfold jq at hr
 subst aV
 have bP:=aB Y
 refine cb Tryz.func149 ?_
 refine sr ?_
 refine dV (bi.cells d) 72 H ?_
 intro o dm aW
 refine dV [.bool false, .string ⟨List.toArray []⟩, .slice none 0 0] 149 aW ?_
 intro z aX p
 refine nt (Ic (sr (Kz (vP o 0) (Lz (vI d.aD) p 1 Tryz.isAgg3 (fw (.bool (decide (¬ (d.aD=4)))) (IG (e:= !(decide (d.aD=4))) yk decide_not.symm) (nt ?_))))))
 by_cases B:d.aD=4
 refine jF (dF (Lh B)) (sk (sr (An rfl (Ic (sr (Mz rfl (Kz (vJ l1.length) (Mn rfl (bo ?_)))))))))
 have aY:Own w D aX [row none 0 0 (List.flatMap aI.cells []) 153 2,blk z [.bool false, .string ⟨List.toArray []⟩, .slice none 0 0] 149,blk o (bi.cells d) 72]:=p.free (eZ 153 2)
 have aZ:=aY.pb [0]
 obtain⟨bf,C⟩:=sQ λ u (y:Nat) b (f:Nat) w'=>Own w D w' [blk z [.bool false, .string ⟨List.toArray []⟩, .slice none 0 0] 149,blk o (bi.cells d) 72,row u b.length y (List.flatMap aI.cells b) 153 2]/\f<=l1.length/\b.length<=tot (List.take f l1)/\tot (List.take f l1)<=100000000/\jC d l1 []=jC d (List.drop f l1) b
 refine Wp.loop (λ i:(Option Addr) × Nat × (List aI) × Nat=> [(6, .slice i.1 i.2.2.1.length i.2.1),(27,vJ i.2.2.2),(26,vJ l1.length),(25, .slice M l1.length c1),(4,vP z 0),(2,vP o 0)]) bf (λ i=>l1.length - i.2.2.2) (none,0, [],0) ⟨rfl,rfl,rfl,rfl,rfl,rfl,trivial⟩ (C.2 ⟨aZ,(show 0<=l1.length/\0<=tot (List.take 0 l1)/\tot (List.take 0 l1)<=100000000/\jC d l1 []=jC d (List.drop 0 l1) [] from ⟨e6,by first | exact Lg _ | (rw [List.length_append]; exact AQ f5 f5),by exact Nat.le_trans (wy _ _) I,rfl⟩)⟩) ?_
 rintro ⟨u,y,b,f⟩ dn au
 obtain⟨E,bQ,bR,bS,P⟩:=C.1 au
 refine sr (Kz (.bool (decide ((f:Int) < (l1.length:Int)))) (nt (Ic ?_)))
 by_cases av:(f:Int) < (l1.length:Int)
 obtain⟨g,r⟩:=dN (ls:=d1) (i:=f) ae.len f4 (E.ro t) e9
 have Q:=fF Y r
 have bT:=(G _ (List.mem_of_getElem? r)).2
 have bU:tot (List.take f l1)+g.ak.ls.length<=100000000:=Dn I Q
 have ax:=drop_at Q
 refine jT (dT av) (sk (Ic (bo (sr (fw (.pointer (some ⟨ab M,ao M+f *3,none⟩)) (Ij (sI) rfl rfl ((E.ro t).addr (i:=f) e6) e6) (fw (.agg (ae.cells g).toArray) (Io rfl (Iy (cs:=(ae.cells g)) Tryz.isAgg149 Tryz.sizeOf149 ((E.ro t).elem ae.len r f4))) ?_))))))
 refine dV [.bool false, .string ⟨List.toArray []⟩, .slice none 0 0] 149 E ?_
 intro bg dw bn
 refine dS (ae.cells g) 0 bn Tryz.sizeOf149 ?_
 intro dx ay
 refine nt (Ib (Mz rfl (Kz (vP bg 2) (Lz (.slice g.ak.A g.ak.ls.length g.ak.c) ay 0 Tryz.isAgg147 ?_))))
 have az:=ay.pf [3]
 refine WL.do rfl (IM (k:=b.length) (m:=g.ak.ls.length) (ko) az rfl rfl (jv Tryz.underlying147 (az.ro (G _ (List.mem_of_getElem? r)).1) (fU aI.one g.ak.ls)) rfl e6 (s:=List.length (b++g.ak.ls)) f7 (List.flatMap_append).symm ?_)
 intro bq bu dz bv
 have bV:List.length (b++g.ak.ls)=b.length+g.ak.ls.length:=by simp only [List.length_append,List.length_cons,List.length_nil]
 refine Az rfl (WL.nil (bN (Ig ?_)))
 have bz:=bv.pk [0,2,3]
 refine Ib (fw (vJ (f+1)) (Ie (e:=IntKind.i64.wrap ((f:Int)+1)) yk f0) (Mz rfl (WL.nil ?_)))
 have bA:=bz.pb [0]
 exact Ir (bq,bu,(b++g.ak.ls),f+1) ⟨rfl,rfl,rfl,rfl,rfl,rfl,trivial⟩ (C.2 ⟨bA,e6,by first | exact Lg _ | (rw [List.length_append]; exact AQ f5 f5),by exact Nat.le_trans (wy _ _) I,et (P) (et (congrArg (λ q=>jC d q b) ax) rfl)⟩) (by show l1.length - (f+1) < l1.length - f; omega)
 refine jF (dF av) (Wp.exit (Il ?_))
 have aA:jC d l1 []=b:=et (P) (et (congrArg (λ q=>jC d q b) (fB (ls:=l1) (i:=f) e6)) rfl)
 refine Il (IB (Ig (sr (Mz rfl ?_))))
 have bB:=E.pf [2]
 obtain⟨h,R⟩:∃ q,jr b=q:=⟨_,rfl⟩
 obtain⟨dA,aC,bW,aD,bX⟩:=II bB
 refine cl Tryz.call165 (oJ _ _ u b.length y b h aC rfl e6 R) ?_
 rintro _ dB ⟨rfl,aF,S⟩
 have Z:=aD _ _ aF
 have bY:=zr 0 Z
 replace S:h.length=b.length:=S
 refine ns (Kz (vP o 5) (Lz (vI d.bS) Z 2 Tryz.isAgg3 (fw (vI (max d.bS 0)) (Ie (e:=if 0 > d.bS then 0 else d.bS) yk e6) (Mz rfl (Kz (vJ b.length) (fw (vI (min (max d.bS 0) (b.length:Int))) (Ie (e:=if(b.length:Int) < max d.bS 0 then(b.length:Int) else max d.bS 0) yk e6) (An rfl (Ic ?_))))))))
 have bC:=Z.pk [0,1]
 refine Ib (Mz rfl (fw (vI ((Int.toNat (min (max d.bS 0) (b.length:Int)):Nat):Int)) (Ie (e:=min (max d.bS 0) (b.length:Int)) (Iq rfl) e6) (fw (.slice u (Int.toNat (min (max d.bS 0) (b.length:Int))) y) (Jc (ko) rfl rfl e6) ?_)))
 have bZ:Int.toNat (min (max d.bS 0) (b.length:Int))=List.length (List.take (Int.toNat (min (max d.bS 0) (b.length:Int))) h):=f1
 obtain⟨dC,aG,cu,aH,aJ⟩:=Ii bC
 refine cl Tryz.call75 (ll _ _ u (Int.toNat (min (max d.bS 0) (b.length:Int))) y (List.take (Int.toNat (min (max d.bS 0) (b.length:Int))) h) (List.take (Int.toNat (min (max d.bS 0) (b.length:Int))) h) aG (λ w9 h9=>Ke (hi:=Int.toNat (min (max d.bS 0) (b.length:Int))) aI.len ((aJ _ 0 _ rfl aO) w9 h9) e6) f1 g4 rfl) ?_
 rintro _ dG ⟨J,K,rfl,aK⟩
 have aL:=aH _ _ aK
 have cz:=zr 0 aL
 refine Kz (.agg #[.bool false, .string ⟨List.toArray []⟩, .slice J (List.length (List.take (Int.toNat (min (max d.bS 0) (b.length:Int))) h)) K]) ?_
 have bD:=aL.pf [2]
 refine dS [.bool false, .string ⟨List.toArray []⟩, .slice J (List.length (List.take (Int.toNat (min (max d.bS 0) (b.length:Int))) h)) K] 0 bD Tryz.sizeOf149 ?_
 intro dH aM
 refine nt (rt (Fin.res (ol rfl rfl (Iy (cs:= [.bool false, .string ⟨List.toArray []⟩, .slice J (List.length (List.take (Int.toNat (min (max d.bS 0) (b.length:Int))) h)) K]) Tryz.isAgg149 Tryz.sizeOf149 ((aM.cls (i:=0) rfl).lit (k:=0) (m:=3) rfl))) ?_))
 have bF:=aM.pk [1]
 obtain rfl:=zj hr zq3
 exact⟨J,K,rfl,bF⟩
 refine jT (dT B) (Ic (sr (Mz rfl (Kz (vJ l1.length) (Kz (.bool (decide ((l1.length:Int)=0))) (nt ?_))))))
 by_cases L:(l1.length:Int)=0
 refine jT (dT L) (sr (Kz (.agg #[.bool false, .string ⟨List.toArray []⟩, .slice none 0 0]) ?_))
 refine dS [.bool false, .string ⟨List.toArray []⟩, .slice none 0 0] 0 p Tryz.sizeOf149 ?_
 intro bG aN
 refine nt (rt (tR (tR (Fin.res (ol rfl rfl (Iy (cs:= [.bool false, .string ⟨List.toArray []⟩, .slice none 0 0]) Tryz.isAgg149 Tryz.sizeOf149 ((aN.cls (i:=0) rfl).lit (k:=0) (m:=3) rfl))) ?_))))
 have bH:Own w D bG [row none 0 0 (List.flatMap aI.cells []) 153 2,blk z [.bool false, .string ⟨List.toArray []⟩, .slice none 0 0] 149,blk o (bi.cells d) 72]:=aN.free (eZ 153 2)
 have bI:=bH.pk [0]
 obtain rfl:=zj hr zq2
 exact⟨none,0,rfl,bI⟩
 refine jF (dF L) (sk (sr (Mz rfl ?_)))
 obtain⟨a,j⟩:=dN (ls:=d1) (i:=0) ae.len f4 (p.ro t) e9
 have F:=fF Y j
 have bK:=(G _ (List.mem_of_getElem? j)).2
 have bL:a.ak.ls.length<=100000000:=Nat.le_trans (Nat.le_add_left _ _) (Dn I F)
 refine fw (.pointer (some ⟨ab M,ao M+0 *3,none⟩)) (Ij (sI) rfl rfl ((p.ro t).addr (i:=0) e6) e6) (fw (.agg (ae.cells a).toArray) (Io rfl (Iy (cs:=(ae.cells a)) Tryz.isAgg149 Tryz.sizeOf149 ((p.ro t).elem ae.len j f4))) ?_)
 refine dV [.bool false, .string ⟨List.toArray []⟩, .slice none 0 0] 149 p ?_
 intro T cB aP
 refine dS (ae.cells a) 0 aP Tryz.sizeOf149 ?_
 intro cK U
 refine ns (Kz (vP T 2) (Lz (.slice a.ak.A a.ak.ls.length a.ak.c) U 0 Tryz.isAgg147 ?_))
 obtain⟨cO,aa,af,ag,bM⟩:=Ii U
 refine cl Tryz.call75 (ll _ _ a.ak.A a.ak.ls.length a.ak.c a.ak.ls a.ak.ls aa (af _ (G _ (List.mem_of_getElem? j)).1) rfl e6 rfl) ?_
 rintro _ cZ ⟨l,n,rfl,ai⟩
 have V:=ag _ _ ai
 have bO:=zr 0 V
 refine Kz (vP T 2) ?_
 have aR:=V.pf [1]
 refine dS [.slice l a.ak.ls.length n] 2 aR Tryz.sizeOf147 ?_
 intro df W
 refine ns (La ([.bool a.eF, .string ⟨List.toArray a.aT⟩, .slice l a.ak.ls.length n]) W 0 Tryz.isAgg149 Tryz.sizeOf149 ?_)
 have aS:=W.pf [2]
 refine dS [.bool a.eF, .string ⟨List.toArray a.aT⟩, .slice l a.ak.ls.length n] 0 aS Tryz.sizeOf149 ?_
 intro dh X
 refine nt (rt (tR (Fin.res (ol rfl rfl (Iy (cs:= [.bool a.eF, .string ⟨List.toArray a.aT⟩, .slice l a.ak.ls.length n]) Tryz.isAgg149 Tryz.sizeOf149 ((X.cls (i:=0) rfl).lit (k:=0) (m:=3) rfl))) ?_)))
 have aT:=X.pk [2]
 obtain rfl:=zj hr zq3
 exact⟨l,n,rfl,aT⟩
end
open List renaming flatMap->q3,getD->C0,getD_eq_getElem?_getD->L4,getElem?_cons_succ->q2,getElem?_cons_zero->p6,getElem?_eq_getElem->s2,length->r8,take->q7
open Ll renaming mk->E2
open Nat renaming le_trans->L5,zero_add->m7
def Row40H.own (x:bO):List HP:= [row x.A x.ls.length x.c (q3 ae.cells x.ls) 149 3]
def zz (w:World) (D:Nat->Prop) (ds:List bO):Prop:=∀ q ∈ ds, ∀ x ∈ q.ls,Ro w D (λ w'=>bE w' 2 x.ak.A (r8 x.ak.ls) (q3 aI.cells x.ak.ls))/\(r8 x.ak.ls<=x.ak.c/\r8 x.ak.ls<=9223372036854775807)
theorem uG {w:World} {D:Nat->Prop} (n:Nat):zz w D (List.replicate n (Sv.mk none 0 []:bO)):=λ q hq x hx=>by
  rw [(List.mem_replicate.1 hq).2] at hx; cases hx
theorem AR {w:World} {D:Nat->Prop} {ds:List bO} {i:Nat} {q:bO} (h:zz w D ds) (hq:ds[i]? =some q):∀ x ∈ q.ls,Ro w D (λ w'=>bE w' 2 x.ak.A (r8 x.ak.ls) (q3 aI.cells x.ak.ls))/\(r8 x.ak.ls<=x.ak.c/\r8 x.ak.ls<=9223372036854775807):=h q (List.mem_of_getElem? hq)
theorem ET {w:World} {D:Nat->Prop} {ds:List bO} {i:Nat} {y:bO} (h:zz w D ds) (hy:∀ x ∈ y.ls,Ro w D (λ w'=>bE w' 2 x.ak.A (r8 x.ak.ls) (q3 aI.cells x.ak.ls))/\(r8 x.ak.ls<=x.ak.c/\r8 x.ak.ls<=9223372036854775807)):zz w D (List.set ds i y):=λ q hq x hx=>by
  rcases List.mem_or_eq_of_mem_set hq with e | e
  . exact h q e x hx
  . rw [e] at hx; exact hy x hx
def tt:List (Ll aQ)->Nat
  | []=>0
  | x::l=>tot x.ls+tt l
theorem AU:∀ n:Nat,tt (List.replicate n (E2 []:Ll aQ))=0
  | 0=>rfl
  | n+1=>by rw [List.replicate_succ,tt,AU n]; rfl
theorem AV:∀ a c:List (Ll aQ),tt (a++c)=tt a+tt c
  | [],c=>(m7 _).symm
  | x::a,c=>by rw [List.cons_append,tt,tt,AV a c,Nat.add_assoc]
theorem yT {l:List (Ll aQ)} {k:Nat} {x:Ll aQ} (hx:l[k]? =some x):tt (q7 (k+1) l)=tt (q7 k l)+tot x.ls:=by
  obtain⟨h,rfl⟩:=List.getElem?_eq_some_iff.1 hx
  rw [List.take_succ_eq_append_getElem h,AV]; rfl
theorem wZ (l:List (Ll aQ)) (k:Nat):tt (q7 k l)<=tt l:=by
  have:=AV (q7 k l) (List.drop k l)
  rw [List.take_append_drop] at this
  omega
theorem Dp:∀ {l:List (Ll aQ)} {i:Nat} {x y:Ll aQ},l[i]? =some x->tt (List.set l i y)+tot x.ls=tt l+tot y.ls
  | [],_,_,_,h=>by simp at h
  | z::l,0,x,y,h=>by
    simp only [p6,Option.some.injEq] at h
    subst h
    rw [List.set_cons_zero,tt,tt]; omega
  | z::l,i+1,x,y,h=>by
    simp only [q2] at h
    have:=Dp (y:=y) h
    rw [List.set_cons_succ,tt,tt]; omega
theorem Ey {l:List (Ll aQ)} {i N:Nat} {x:Ll aQ} (h:tt l<=N) (hx:l[i]? =some x):tot x.ls<=N:=by
  have:=wZ l (i+1)
  rw [yT hx] at this
  omega
theorem zQ {l:List (Ll aQ)} {k:Nat} {x:Ll aQ} (h:l[k]? =some x):C0 l k default=x:=by
  rw [L4,h]; rfl
def seen (a:List (Ll aQ)) (k j:Nat):Nat:=tt (q7 k a)+tot (q7 j (C0 a k default).ls)
theorem Dq (a:List (Ll aQ)) (k:Nat):seen a k 0=tt (q7 k a):=rfl
theorem zA {l a:List (Ll aQ)} {k j i:Nat} {y:Ll aQ} {qs:List aQ} {r:aQ} (h:tt l<=seen a k j) (hy:a[k]? =some y) (hr:y.ls[j]? =some r) (hq:l[i]? =some (E2 qs)):tt (List.set l i (E2 (qs++ [r])))<=seen a k (j+1):=by
  have b:=Dp (y:=E2 (qs++ [r])) hq
  have c:tot (E2 (qs++ [r])).ls=tot qs+tot [r]:=wY qs [r]
  have d:tot [r]=r8 r.ak.ls+1:=rfl
  unfold seen at h ⊢
  rw [zQ hy] at h ⊢
  rw [xK hr]
  have e:tot (E2 qs:Ll aQ).ls=tot qs:=rfl
  omega
theorem AX {l a:List (Ll aQ)} {k j:Nat} (h:tt l<=seen a k j) (hk:k < r8 a):tt l<=tt (q7 (k+1) a):=by
  unfold seen at h
  have hy:a[k]? =some a[k]:=s2 hk
  rw [zQ hy] at h
  rw [yT hy]
  have:=wy a[k].ls j
  omega
theorem GA {l a:List (Ll aQ)} {k i N:Nat} {qs:List aQ} (h:tt l<=tt (q7 k a)) (b:tt a<=N) (hq:l[i]? =some (E2 qs)):tot qs<=N:=Ey (x:=E2 qs) (L5 h (L5 (wZ _ _) b)) hq
theorem BX (a:List (Ll aQ)) (k j:Nat):seen a k j<=tt a:=by
  unfold seen
  by_cases hk:k < r8 a
  . have hy:a[k]? =some a[k]:=s2 hk
    rw [zQ hy]
    have d:=yT hy
    have b:=wZ a (k+1)
    have c:=wy a[k].ls j
    omega
  . have e:C0 a k default=default:=by rw [L4,List.getElem?_eq_none e6]; rfl
    rw [e]
    have b:=wZ a k
    have c:tot (q7 j (default:Ll aQ).ls)=0:=by
      have:(default:Ll aQ).ls= []:=rfl
      rw [this,List.take_nil]; rfl
    omega
theorem yh {l b:List (Ll aQ)} {i N m:Nat} {q:bO} (h:tt l<=m) (hm:m<=tt b) (c:tt b<=N) (hq:l[i]? =some (bO.abs q)):r8 q.ls<=N/\r8 (List.map ae.abs q.ls)<=N:=by
  have d:=Ey (L5 h (L5 hm c)) hq
  have a:r8 (List.map ae.abs q.ls)<=N:=L5 (BV _) d
  exact⟨by rw [List.length_map] at a; exact a,a⟩
theorem D8 {α σ ρ:Type} (a:α) (f:α->σ ⊕ ρ):qU (Sum.inl a) f=f a:=rfl
theorem D9 {α σ ρ:Type} (a:ρ) (f:α->σ ⊕ ρ):qU (Sum.inr a) f=Sum.inr a:=rfl
theorem FO (l0:List bi) (k:Nat):∀ q:List Int,(iy l0 k q= .inl ()/\∀ f ∈ q,0<=f/\f < ((r8 l0:Nat):Int))\/(iy l0 k q= .inr 1/\∃ f ∈ q,f < 0\/f >= ((r8 l0:Nat):Int))
  | []=> .inl ⟨by rw [iy],λ f hf=>(by cases hf)⟩
  | x::q=>by
    rw [iy]
    by_cases c1:x < 0
    . exact .inr ⟨by rw [if_pos c1],x, .head _, .inl c1⟩
    . by_cases c2:x >= ((r8 l0:Nat):Int)
      . exact .inr ⟨by rw [if_neg c1,if_pos c2],x, .head _, .inr c2⟩
      . rw [if_neg c1,if_neg c2]
        rcases FO l0 k q with ⟨a,b⟩ | ⟨a,f,b,c⟩
        . refine .inl ⟨a,λ f hf=> ?_⟩
          rcases List.mem_cons.1 hf with e | e
          . rw [e]; omega
          . exact b f e
        . exact .inr ⟨a,f, .tail _ b,c⟩
def wz (l0:List bi) (x:gF) (y:Ll aQ):Prop:=r8 x.aH.ls=r8 x.aJ.ls/\r8 x.aH.ls=r8 y.ls/\∀ f ∈ x.aJ.ls,0<=f/\f < ((r8 l0:Nat):Int)
theorem FP (l0:List bi) (a:List (Ll aQ)):∀ (q:List gF) (k:Nat),(gQ l0 a q k= .inl ()/\∀ (i:Nat) (x:gF),q[i]? =some x->wz l0 x (C0 a (k+i) default))\/(gQ l0 a q k= .inr 1/\∃ (i:Nat) (x:gF),q[i]? =some x/\¬ wz l0 x (C0 a (k+i) default))
  | [],k=> .inl ⟨by rw [gQ],λ i x h=>by simp at h⟩
  | x::q,k=>by
    rw [gQ]
    by_cases c1:(x.aH.ls.length:Int)=(x.aJ.ls.length:Int)
    . rw [if_pos c1]
      simp only [bnd]
      by_cases c2:(x.aH.ls.length:Int)=(((C0 a k default).ls.length:Nat):Int)
      . rw [if_pos c2]
        rcases FO l0 k x.aJ.ls with ⟨b,c⟩ | ⟨b,f,c,j⟩
        . rw [b,D8]
          rcases FP l0 a q (k+1) with ⟨d,e⟩ | ⟨d,i,y,e,g⟩
          . refine .inl ⟨d,λ i y hy=> ?_⟩
            cases i with
            | zero=>
              simp only [p6,Option.some.injEq] at hy
              subst hy
              exact⟨e6,by rw [Nat.add_zero]; omega,c⟩
            | succ i=>
              simp only [q2] at hy
              have:=e i y hy
              rw [show k+1+i=k+(i+1) by omega] at this
              exact this
          . exact .inr ⟨d,i+1,y,by simpa using e,by rw [show k+(i+1)=k+1+i by omega]; exact g⟩
        . rw [b,D9]
          exact .inr ⟨rfl,0,x,rfl,λ w=>by have:=w.2.2 f c; omega⟩
      . rw [if_neg c2]
        exact .inr ⟨rfl,0,x,rfl,λ w=>c2 (by have:=w.2.1; rw [Nat.add_zero] at this; omega)⟩
    . rw [if_neg c1]
      exact .inr ⟨rfl,0,x,rfl,λ w=>c1 (by have:=w.1; omega)⟩
theorem GU (l0:List bi) (l1:List gF) (a:List (Ll aQ)):(kN l0 l1 a=0/\r8 a=r8 l1/\∀ (i:Nat) (x:gF),l1[i]? =some x->wz l0 x (C0 a i default))\/(kN l0 l1 a=1/\¬ (r8 a=r8 l1/\∀ (i:Nat) (x:gF),l1[i]? =some x->wz l0 x (C0 a i default))):=by
  unfold kN
  by_cases c:(a.length:Int)=(l1.length:Int)
  . rw [if_pos c]
    rcases FP l0 a l1 0 with ⟨b,d⟩ | ⟨b,i,x,d,e⟩
    . exact .inl ⟨by rw [b]; rfl,e6,λ i x hx=>by have:=d i x hx; rw [m7] at this; exact this⟩
    . exact .inr ⟨by rw [b]; rfl,λ w=>e (by rw [m7]; exact w.2 i x d)⟩
  . rw [if_neg c]
    exact .inr ⟨rfl,λ w=>c e6⟩
theorem EU {l0:List bi} {l1:List gF} {a:List (Ll aQ)} {r:Int} (h:kN l0 l1 a=r):r8 a=r8 l1\/¬ r=0:=by
  rcases GU l0 l1 a with ⟨_,b,_⟩ | ⟨c,_⟩
  . exact .inl b
  . exact .inr (by rw [<- h,c]; decide)
theorem AY {l0:List bi} {l1:List gF} {a:List (Ll aQ)} {r:Int} (h:kN l0 l1 a=r) (c:r=0) {i:Nat} {x:gF} (hx:l1[i]? =some x):wz l0 x (C0 a i default):=by
  rcases GU l0 l1 a with ⟨_,_,d⟩ | ⟨b,_⟩
  . exact d i x hx
  . rw [h,c] at b; cases b
open Int renaming toNat->D0
open IntKind renaming i64->C5
open List renaming drop->r3,length_append->o1,length_cons->s0,length_map->s3,length_nil->F2,length_replicate->H2,length_set->H1,map->s5,map_replicate->L6,mem_of_getElem?->D3,replicate->r6,set->u2
open Sv renaming mk->H0
open _root_.Go.Proofs.Tryz renaming isAgg40->E3,underlying40->B4
section
open Go.RowKit
def kF (i:List (Ll aQ)) (e:Nat):List Int->Nat->List (Ll aQ)->(List (Ll aQ))
  | [],c,b=>b
  | f::h,c,b=>bnd (C0 b (D0 f) default) λ g=>bnd (C0 i e default) λ d=>bnd (C0 d.ls c default) λ a=>kF i e h (c+1) (u2 b (D0 f) (E2 (g.ls++ [(aQ.mk a.eF a.aT (E2 a.ak.ls))])))
def jH (l0:List bi) (e:List (Ll aQ)):List gF->Nat->List (Ll aQ)->(List (Ll aQ))
  | [],a,b=>b
  | c::d,a,b=>bnd (kF e a c.aJ.ls 0 b) λ sLrbtLsL=>jH l0 e d (a+1) sLrbtLsL
def jI (e:List (Ll aQ)):List bi->Nat->List aQ->(List aQ)
  | [],b,c=>c
  | f::g,b,c=>bnd (C0 e b default) λ d=>bnd (jq f d.ls) λ a=>jI e g (b+1) (u2 c b (aQ.mk a.eF a.aT (E2 a.ak.ls)))
def lM (l0:List bi) (l1:List gF) (b:List (Ll aQ)):(List aQ) × Int:=
 bnd (kN l0 l1 b) λ a=>if a=0 then bnd (jH l0 b l1 0 (r6 l0.length (E2 []:Ll aQ))) λ sLrbtL=>bnd (jI sLrbtL l0 0 (r6 l0.length (aQ.mk false [] (E2 [])))) λ sLrbtLaL=>(sLrbtLaL,0) else(([]:List aQ),a)
theorem yj (w D A0 n0 c0 l0 A1 n1 c1 d1 l1 A2 n2 c2 d2 I r0 r1) (H:Own w D w []) (bf:Ro w D λ w'=>bE w' 6 A0 n0 (q3 bi.cells l0)) (eY:n0=l0.length) (iP:l0.length *80<=211106232532992) (bH:s5 bG.abs d1=l1) (bg:Ro w D λ w'=>bE w' 3 A1 n1 (q3 bG.cells d1)) (X:∀ x ∈ d1,Ro w D (λ w'=>bE w' 6 x.aH.A x.aH.ls.length (q3 bi.cells x.aH.ls))/\(x.aH.ls.length<=x.aH.c/\x.aH.ls.length<=9223372036854775807)/\Ro w D (λ w'=>bE w' 1 x.aJ.A x.aJ.ls.length (q3 (eI .i64) x.aJ.ls))/\(x.aJ.ls.length<=x.aJ.c/\x.aJ.ls.length<=9223372036854775807)) (fe:n1=l1.length) (iQ:l1.length *56<=211106232532992) (bI:s5 bO.abs d2=I) (bK:Ro w D λ w'=>bE w' 1 A2 n2 (q3 (IX (β:=ae)) d2)) (Y:∀ x ∈ d2,Ro w D (λ w'=>bE w' 3 x.A x.ls.length (q3 ae.cells x.ls))/\(x.ls.length<=x.c/\x.ls.length<=9223372036854775807)/\(∀ y1 ∈ x.ls,Ro w D (λ w'=>bE w' 2 y1.ak.A y1.ak.ls.length (q3 aI.cells y1.ak.ls))/\(y1.ak.ls.length<=y1.ak.c/\y1.ak.ls.length<=9223372036854775807))) (fo:n2=I.length) (iR:I.length *24<=211106232532992) (aF:tt I<=100000000) (hr:lM l0 l1 I=(r0,r1)):
    Calls Tryz.prog 129 #[.slice A0 n0 c0, .slice A1 n1 c1, .slice A2 n2 c2] w (d9 λ v w'=> ∃ B0 b0 e0,v= .tuple #[.slice B0 r0.length b0,vI r1]/\Own w D w' [row B0 r0.length b0 (q3 ae.cells e0) 149 3,sepL (q3 ae.own e0)]/\(s5 ae.abs e0=r0)):=by
 unfold lM at hr
 subst eY fe fo
 have gQ:=aB bH
 have gT:=aB bI
 refine cb Tryz.func129 ?_
 refine sr (Az rfl (An rfl (Ic (sr (Mz rfl (Mz rfl (Mz rfl ?_)))))))
 obtain⟨aC,L⟩:∃ q,kN l0 l1 I=q:=⟨_,rfl⟩
 obtain⟨iT,cK,M,cO,gU⟩:=Ii H
 refine cl Tryz.call148 (vM _ _ A0 l0.length c0 l0 A1 l1.length c1 d1 l1 A2 I.length c2 d2 I aC cK (M _ bf) rfl e6 bH (M _ bg) (λ x9 W=>⟨M _ (X x9 W).1,(X x9 W).2.1,M _ (X x9 W).2.2.1,(X x9 W).2.2.2⟩) rfl e6 bI (M _ bK) (λ x9 W=>⟨M _ (Y x9 W).1,(Y x9 W).2.1,(λ y1 k1=>⟨M _ ((Y x9 W).2.2 y1 k1).1,((Y x9 W).2.2 y1 k1).2⟩)⟩) rfl e6 L) ?_
 rintro _ cZ ⟨rfl,df⟩
 have dh:=cO _ _ df
 have gW:I.length=l1.length\/¬ (aC=0):=EU L
 refine Ar rfl (Mz rfl (fw (.bool (decide (¬ (aC=0)))) (IG (e:= !(decide (aC=0))) yk decide_not.symm) (nt ?_)))
 by_cases bq:aC=0
 refine jF (dF (Lh bq)) (sk (sr (Mz rfl (Kz (vJ l0.length) ?_))))
 refine WL.do rfl (Jl (x0:=(H0 none 0 []:bO)) (z:= .slice none 0 0) (k:=l0.length) (size:=1) (bytes:=24) rU f4 rfl Tryz.underlying105 e7 dh rfl rfl e6 (by unfold maxLen; omega) ?_)
 intro u iU fu
 have fA:=fu.free (R:=sepL (q3 Row40H.own (r6 l0.length (H0 none 0 []:bO)))) (uX (xA (eZ 149 3)))
 have gX:r8 (r6 l0.length (H0 none 0 []:bO))=l0.length:=H2
 have gY:r8 (r6 l0.length (E2 []:Ll aQ))=l0.length:=H2
 have gZ:zz w D (r6 l0.length (H0 none 0 []:bO)):=uG _
 refine An rfl (Ic (sr (Mz rfl (Kz (vJ l1.length) (Mn rfl (bo ?_))))))
 have fC:=fA.pb [0]
 obtain⟨fD,aG⟩:=rz λ (g:Nat) Z C w'=>Own w D w' [row u l0.length l0.length (q3 (IX (β:=ae)) Z) 40 1,sepL (q3 Row40H.own Z)]/\s5 bO.abs Z=C/\C.length=l0.length/\g<=l1.length/\zz w D Z/\tt C<=tt (List.take g I)/\jH l0 I l1 0 (r6 l0.length (E2 []:Ll aQ))=jH l0 I (r3 g l1) g C
 refine Wp.loop (λ i:Nat × (List bO) × (List (Ll aQ))=> [(28,vJ i.1),(27,vJ l1.length),(26, .slice A1 l1.length c1),(9, .slice u l0.length l0.length),(7,vI 0),(6, .slice none 0 0),(0, .slice A0 l0.length c0),(2, .slice A2 I.length c2)]) fD (λ i=>l1.length - i.1) (0,(r6 l0.length (H0 none 0 []:bO)),(r6 l0.length (E2 []:Ll aQ))) ⟨rfl,rfl,rfl,rfl,rfl,rfl,rfl,rfl,trivial⟩ (aG.2 ⟨fC,by exact(L6 (f:=bO.abs)),by first | omega | (simp only [H1] <;> omega) | (simp only [H2]),e6,by first | assumption | exact uG _,by first | (rw [AU]; exact Lg _) | exact AX f5 e6,rfl⟩) ?_
 rintro ⟨g,Z,C⟩ iV di
 obtain⟨aH,aJ,ib,ig,ik,il,bv⟩:=aG.1 di
 have iq:=aB aJ
 refine sr (Kz (.bool (decide ((g:Int) < (l1.length:Int)))) (nt (Ic ?_)))
 by_cases dm:(g:Int) < (l1.length:Int)
 obtain⟨j,N⟩:=dN (ls:=d1) (i:=g) bG.len f4 (aH.ro bg) e9
 have ay:=fF bH N
 have iw:=(X _ (D3 N)).2.1
 have iy:=(X _ (D3 N)).2.2.2
 have iA:j.aJ.ls.length=r8 (C0 I g default).ls:=(AY L e6 ay).1.symm.trans (AY L e6 ay).2.1
 have dn:=drop_at ay
 refine jT (dT dm) (sk (Ic (bo (sr (Mz rfl (fw (.pointer (some ⟨ab A1,ao A1+g *3,none⟩)) (Ij (um) rfl rfl ((aH.ro bg).addr (i:=g) e6) e6) (fw (.agg (bG.cells j).toArray) (Io rfl (Iy (cs:=(bG.cells j)) Tryz.isAgg172 Tryz.sizeOf172 ((aH.ro bg).elem bG.len N f4))) ?_)))))))
 refine dV [vI 0, .slice none 0 0, .slice none 0 0] 172 aH ?_
 intro fE iX fG
 refine Az rfl ?_
 refine dS (bG.cells j) 0 fG Tryz.sizeOf172 ?_
 intro iY dw
 refine ns (Kz (vP fE 2) (Lz (.slice j.aJ.A j.aJ.ls.length j.aJ.c) dw 0 Tryz.isAgg58 (Kz (vJ j.aJ.ls.length) (Mn rfl (bo ?_)))))
 have fH:=dw.pk [1,2]
 obtain⟨fI,aK⟩:=rz λ (p:Nat) F J w'=>Own w D w' [row u l0.length l0.length (q3 (IX (β:=ae)) F) 40 1,sepL (q3 Row40H.own F)]/\s5 bO.abs F=J/\J.length=l0.length/\p<=j.aJ.ls.length/\zz w D F/\tt J<=seen I g p/\kF I g j.aJ.ls 0 C=kF I g (r3 p j.aJ.ls) p J
 refine Wp.loop (λ i:Nat × (List bO) × (List (Ll aQ))=> [(36,vJ i.1),(35,vJ j.aJ.ls.length),(34, .slice j.aJ.A j.aJ.ls.length j.aJ.c),(10,vJ g),(28,vJ g),(27,vJ l1.length),(26, .slice A1 l1.length c1),(9, .slice u l0.length l0.length),(7,vI 0),(6, .slice none 0 0),(0, .slice A0 l0.length c0),(2, .slice A2 I.length c2)]) fI (λ i=>j.aJ.ls.length - i.1) (0,Z,C) ⟨rfl,rfl,rfl,rfl,rfl,rfl,rfl,rfl,rfl,rfl,rfl,rfl,trivial⟩ (aK.2 ⟨fH,by exact aJ,by first | omega | (simp only [H1] <;> omega) | (simp only [H2]),e6,by first | assumption | exact uG _,by first | (rw [Dq]; assumption) | exact zA f5 f5 f5 f5,rfl⟩) ?_
 rintro ⟨p,F,J⟩ iZ dx
 obtain⟨aL,af,iB,iC,iD,iE,bz⟩:=aK.1 dx
 have iF:=aB af
 refine sr (Kz (.bool (decide ((p:Int) < (j.aJ.ls.length:Int)))) (nt (Ic ?_)))
 by_cases dz:(p:Int) < (j.aJ.ls.length:Int)
 obtain⟨n,aM⟩:=dN (ls:=j.aJ.ls) (i:=p) jd f4 (aL.ro (X _ (D3 N)).2.2.1) e9
 have iG:0<=n/\n < (l0.length:Int):=(AY L e6 ay).2.2 _ (D3 aM)
 have dA:=drop_at aM
 refine jT (dT dz) (sk (Ic (bo (sr (Mz rfl (fw (.pointer (some ⟨ab j.aJ.A,ao j.aJ.A+p *1,none⟩)) (Ij (om) rfl rfl ((aL.ro (X _ (D3 N)).2.2.1).addr (i:=p) e6) e6) (fw (vI n) (Io rfl (bZ.one Tryz.isAgg3 (((aL.ro (X _ (D3 N)).2.2.1).elem jd aM f4).at_ (k:=0) rfl))) (Az rfl (An rfl ?_)))))))))
 refine qy [14,16] (bQ.block (Iu (Iu (bQ.block (bQ.block (Iu (Iu (bQ.block (Iu IC))))))))) aL ?_
 intro ja fJ
 refine IP (v:= .slice u l0.length l0.length) 0 rfl e7 (λ _=>Iq rfl) (IP (v:=vJ (D0 n)) 1 rfl e7 (λ _=>Ie (e:=n) (Iq rfl) e6) (qv 2 rfl rfl (qt (v:=vJ (D0 n)) 3 rfl (λ _ _=>Ie (e:=n) (Iq rfl) e6) ?_)))
 obtain⟨h,O⟩:=jN (ls:=F) (i:=D0 n) e9
 have aN:=fF af O
 obtain⟨iH,iI⟩:h.ls.length<=100000000/\r8 (s5 ae.abs h.ls)<=100000000:=by first | exact yh f5 (BX _ _ _) aF aN | exact yh f5 (wZ _ _) aF aN
 refine qt (v:= .pointer (some ⟨ab u,ao u+(D0 n) *1,none⟩)) 4 rfl (λ _ ⟨_,V⟩=>Ij (wV) rfl rfl ((V.rds (i:=0) rfl).addr (i:=D0 n) e6) e6) (qt (v:= .slice h.A h.ls.length h.c) 5 rfl (λ _ ⟨_,V⟩=>Io rfl (bZ.one E3 (((V.rds (i:=0) rfl).elem rU O f4).at_ (k:=0) rfl))) (qv 6 rfl rfl (qv 7 rfl rfl ?_)))
 obtain⟨B,G⟩:=jN (ls:=d2) (i:=g) e9
 have aP:=fF bI G
 have fK:=(Y _ (D3 G)).2.1
 have fM:r8 (s5 ae.abs B.ls)=B.ls.length:=s3 ..
 have fO:B.ls.length=r8 (C0 I g default).ls:=by rw [zQ aP]; exact(s3 ..).symm
 refine qt (v:= .pointer (some ⟨ab A2,ao A2+g *1,none⟩)) 8 rfl (λ _ ⟨_,V⟩=>Ij (wV) rfl rfl ((V.ro bK).addr (i:=g) e6) e6) (qt (v:= .slice B.A B.ls.length B.c) 9 rfl (λ _ ⟨_,V⟩=>Io rfl (bZ.one E3 (((V.ro bK).elem rU G f4).at_ (k:=0) rfl))) (qv 10 rfl rfl ?_))
 obtain⟨a,aa⟩:=jN (ls:=B.ls) (i:=p) e9
 have bL:=fF (rfl:s5 ae.abs B.ls=s5 ae.abs B.ls) aa
 have fP:=((Y _ (D3 G)).2.2 _ (D3 aa)).2
 refine qt (v:= .pointer (some ⟨ab B.A,ao B.A+p *3,none⟩)) 11 rfl (λ _ ⟨_,V⟩=>Ij (sI) rfl rfl ((V.ro (Y _ (D3 G)).1).addr (i:=p) e6) e6) (qt (v:= .agg (ae.cells a).toArray) 12 rfl (λ _ ⟨_,V⟩=>Io rfl (Iy (cs:=(ae.cells a)) Tryz.isAgg149 Tryz.sizeOf149 ((V.ro (Y _ (D3 G)).1).elem ae.len aa f4))) ?_)
 refine qd 13 rfl (Jp (cs:=(ae.cells a)) (t:=149) (sz:=3) (m:=1) fJ rfl rfl (λ _=>by kernel_rfl) rfl f4 ?_)
 intro aR dB aS
 replace aS:=IL (y:=row aR 1 1 (q3 ae.cells ([(ae.mk a.eF a.aT (H0 a.ak.A a.ak.c a.ak.ls))])) 149 3) rfl aS
 have bA:=aS.pb [0]
 refine⟨.inr ⟨_,bA⟩, ?_⟩
 have dC:=bA.pf [1]
 have aT:Own w D dB [row h.A h.ls.length h.c (q3 ae.cells h.ls) 149 3,sepL (q3 Row40H.own (List.take (D0 n) F)++q3 Row40H.own (r3 (D0 n+1) F)),row u l0.length l0.length (q3 (IX (β:=ae)) F) 40 1,row aR 1 1 (q3 ae.cells ([(ae.mk a.eF a.aT (H0 a.ak.A a.ak.c a.ak.ls))])) 149 3]:=Jd (f:=Row40H.own) (i:=D0 n) O dC
 have fQ:=zr 0 aT
 refine qd 14 rfl (IM (k:=h.ls.length) (m:=1) (sI) aT rfl rfl (jv B4 (aT.rds (i:=3) rfl) (fU ae.one ([(ae.mk a.eF a.aT (H0 a.ak.A a.ak.c a.ak.ls))]))) rfl e6 (s:=r8 (h.ls++ [(ae.mk a.eF a.aT (H0 a.ak.A a.ak.c a.ak.ls))])) f7 (List.flatMap_append).symm ?_)
 intro P Q dD bB
 have bM:∀ x:ae,x ∈ (h.ls++ [(ae.mk a.eF a.aT (H0 a.ak.A a.ak.c a.ak.ls))])->Ro w D (λ w'=>bE w' 2 x.ak.A x.ak.ls.length (q3 aI.cells x.ak.ls))/\(x.ak.ls.length<=x.ak.c/\x.ak.ls.length<=9223372036854775807):=λ x9 W=>Or.elim (List.mem_append.1 W) (λ W=>(AR f5 O) x9 W) (λ W=>(by rcases List.mem_cons.1 W with rfl | W; exact⟨((Y _ (D3 G)).2.2 _ (D3 aa)).1,e6⟩; exact(absurd W List.not_mem_nil)))
 have fT:r8 (h.ls++ [(ae.mk a.eF a.aT (H0 a.ak.A a.ak.c a.ak.ls))])=h.ls.length+1:=by simp only [o1,s0,F2]
 have fV:=aB (pF (es:= [(ae.mk a.eF a.aT (H0 a.ak.A a.ak.c a.ak.ls))]) (ms:= [(aQ.mk a.eF a.aT (E2 a.ak.ls))]) (rfl:s5 ae.abs h.ls=s5 ae.abs h.ls) rfl)
 refine⟨.inl e7, ?_⟩
 refine IP (v:= .pointer (some ⟨ab u,ao u+(D0 n) *1,none⟩)) 15 rfl e7 (λ _=>Ij (wV) rfl rfl ((bB.rds (i:=2) rfl).addr (i:=D0 n) e6) e6) ?_
 have dE:Own w D dD [sepL (q3 Row40H.own (u2 F (D0 n) (H0 P Q (h.ls++ [(ae.mk a.eF a.aT (H0 a.ak.A a.ak.c a.ak.ls))]):bO))),row u l0.length l0.length (q3 (IX (β:=ae)) F) 40 1,row aR 1 1 (q3 ae.cells ([(ae.mk a.eF a.aT (H0 a.ak.A a.ak.c a.ak.ls))])) 149 3]:=I7 (f:=Row40H.own) (y:=(H0 P Q (h.ls++ [(ae.mk a.eF a.aT (H0 a.ak.A a.ak.c a.ak.ls))]):bO)) O bB
 have dG:=dE.pf [1]
 refine qe 16 rfl (Do.storeRow (vs:= [.slice P (r8 (h.ls++ [(ae.mk a.eF a.aT (H0 a.ak.A a.ak.c a.ak.ls))])) Q]) (o:=(D0 n) *1+0) (q:=ao u+(D0 n) *1) dG rfl e6 rfl Tryz.sizeOf40 rfl rfl (Le rfl) (je rU O (Le rfl)) (jV (y:=(H0 P Q (h.ls++ [(ae.mk a.eF a.aT (H0 a.ak.A a.ak.c a.ak.ls))]):bO)) rU rfl (Le rfl) O) ?_)
 intro iJ dH
 have fZ:zz w D (u2 F (D0 n) (H0 P Q (h.ls++ [(ae.mk a.eF a.aT (H0 a.ak.A a.ak.c a.ak.ls))]):bO)):=ET f5 bM
 have gm:r8 (u2 F (D0 n) (H0 P Q (h.ls++ [(ae.mk a.eF a.aT (H0 a.ak.A a.ak.c a.ak.ls))]):bO))=r8 (u2 J (D0 n) (E2 ((s5 ae.abs h.ls)++ [(aQ.mk a.eF a.aT (E2 a.ak.ls))]))):=aB (iW af (congrArg E2 (pF (es:= [(ae.mk a.eF a.aT (H0 a.ak.A a.ak.c a.ak.ls))]) (ms:= [(aQ.mk a.eF a.aT (E2 a.ak.ls))]) (rfl:s5 ae.abs h.ls=s5 ae.abs h.ls) rfl)))
 have gp:r8 (u2 J (D0 n) (E2 ((s5 ae.abs h.ls)++ [(aQ.mk a.eF a.aT (E2 a.ak.ls))])))=J.length:=H1
 refine⟨.inl e7, ?_⟩
 refine qn (bN (Ig ?_))
 have dI:=dH.pk [0,1]
 refine Ib (fw (vJ (p+1)) (Ie (e:=C5.wrap ((p:Int)+1)) yk f0) (Mz rfl (WL.nil ?_)))
 have dJ:=dI.pf []
 exact Ir (p+1,(u2 F (D0 n) (H0 P Q (h.ls++ [(ae.mk a.eF a.aT (H0 a.ak.A a.ak.c a.ak.ls))]):bO)),(u2 J (D0 n) (E2 ((s5 ae.abs h.ls)++ [(aQ.mk a.eF a.aT (E2 a.ak.ls))])))) ⟨rfl,rfl,rfl,rfl,rfl,rfl,rfl,rfl,rfl,rfl,rfl,rfl,trivial⟩ (aK.2 ⟨dJ,by exact(iW af (congrArg E2 (pF (es:= [(ae.mk a.eF a.aT (H0 a.ak.A a.ak.c a.ak.ls))]) (ms:= [(aQ.mk a.eF a.aT (E2 a.ak.ls))]) (rfl:s5 ae.abs h.ls=s5 ae.abs h.ls) rfl))),by first | omega | (simp only [H1] <;> omega) | (simp only [H2]),e6,by first | assumption | exact uG _,by first | (rw [Dq]; assumption) | exact zA f5 f5 f5 f5,Eq.trans (bz) (Eq.trans (congrArg (λ q=>kF I g q p J) dA) (Eq.trans (ah (bJ aN)) (Eq.trans (ah (bJ aP)) (ah (bJ bL)))))⟩) (by show j.aJ.ls.length - (p+1) < j.aJ.ls.length - p; omega)
 refine jF (dF dz) (Wp.exit (Il ?_))
 have bP:kF I g j.aJ.ls 0 C=J:=et (bz) (et (congrArg (λ q=>kF I g q p J) (fB (ls:=j.aJ.ls) (i:=p) e6)) rfl)
 refine Il (IB (bN (Ig (Ib (fw (vJ (g+1)) (Ie (e:=C5.wrap ((g:Int)+1)) yk f0) (Mz rfl (WL.nil ?_)))))))
 have dK:=aL.pf []
 exact Ir (g+1,F,J) ⟨rfl,rfl,rfl,rfl,rfl,rfl,rfl,rfl,trivial⟩ (aG.2 ⟨dK,by exact af,by first | omega | (simp only [H1] <;> omega) | (simp only [H2]),e6,by first | assumption | exact uG _,by first | (rw [AU]; exact Lg _) | exact AX f5 e6,Eq.trans (bv) (Eq.trans (congrArg (λ q=>jH l0 I q g C) dn) (ah bP))⟩) (by show l1.length - (g+1) < l1.length - g; omega)
 refine jF (dF dm) (Wp.exit (Il ?_))
 have bR:jH l0 I l1 0 (r6 l0.length (E2 []:Ll aQ))=C:=et (bv) (et (congrArg (λ q=>jH l0 I q g C) (fB (ls:=l1) (i:=g) e6)) rfl)
 refine Il (IB (Ig (sr (Mz rfl (Kz (vJ l0.length) ?_)))))
 refine WL.do rfl (Jl (x0:=(ae.mk false [] (H0 none 0 []))) (z:= .agg #[.bool false, .string ⟨List.toArray []⟩, .slice none 0 0]) (k:=l0.length) (size:=3) (bytes:=48) ae.len f4 rfl B4 e7 aH rfl rfl e6 (by unfold maxLen; omega) ?_)
 intro K dL dM
 have dO:Own w D dL (sepL (q3 ae.own (r6 l0.length (ae.mk false [] (H0 none 0 []))))::_):=dM.free (uX (xA (eZ 153 2)))
 have gq:r8 (r6 l0.length (ae.mk false [] (H0 none 0 [])))=l0.length:=H2
 have gu:r8 (r6 l0.length (aQ.mk false [] (E2 [])))=l0.length:=H2
 refine An rfl (Ic (sr (Mz rfl (Kz (vJ l0.length) (Mn rfl (bo ?_))))))
 have dP:=dO.pb [0]
 obtain⟨dQ,aj⟩:=rz λ (b:Nat) E r w'=>Own w D w' [row K l0.length l0.length (q3 ae.cells E) 149 3,row u l0.length l0.length (q3 (IX (β:=ae)) Z) 40 1,sepL (q3 Row40H.own Z),sepL (q3 ae.own E)]/\s5 ae.abs E=r/\r.length=l0.length/\b<=l0.length/\jI C l0 0 (r6 l0.length (aQ.mk false [] (E2 [])))=jI C (r3 b l0) b r
 refine Wp.loop (λ i:Nat × (List ae) × (List aQ)=> [(64,vJ i.1),(63,vJ l0.length),(14, .slice K l0.length l0.length),(9, .slice u l0.length l0.length),(7,vI 0),(6, .slice none 0 0),(0, .slice A0 l0.length c0)]) dQ (λ i=>l0.length - i.1) (0,(r6 l0.length (ae.mk false [] (H0 none 0 []))),(r6 l0.length (aQ.mk false [] (E2 [])))) ⟨rfl,rfl,rfl,rfl,rfl,rfl,rfl,trivial⟩ (aj.2 ⟨dP,by exact(L6 (f:=ae.abs)),by first | omega | (simp only [H1] <;> omega) | (simp only [H2]),e6,rfl⟩) ?_
 rintro ⟨b,E,r⟩ dR bS
 obtain⟨aU,S,gy,gz,aV⟩:=aj.1 bS
 have gB:=aB S
 refine sr (Kz (.bool (decide ((b:Int) < (l0.length:Int)))) (nt (Ic ?_)))
 by_cases bC:(b:Int) < (l0.length:Int)
 obtain⟨az,aW⟩:=dN (ls:=l0) (i:=b) bi.len f4 (aU.ro bf) e9
 have bT:=drop_at aW
 refine jT (dT bC) (sk (Ic (bo (sr (Mz rfl (An rfl ?_))))))
 refine vX [12] (bQ.block (Iu (Iu (bQ.block (Iu IC))))) aU ?_
 intro iK dU
 refine qv 0 rfl rfl (qv 1 rfl rfl (qv 2 rfl rfl (qv 3 rfl rfl (qt (v:= .pointer (some ⟨ab A0,ao A0+b *6,none⟩)) 4 rfl (λ _ ⟨_,V⟩=>Ij (qX) rfl rfl ((V.ro bf).addr (i:=b) e6) e6) (qt (v:= .agg (bi.cells az).toArray) 5 rfl (λ _ ⟨_,V⟩=>Io rfl (Iy (cs:=(bi.cells az)) Tryz.isAgg72 Tryz.sizeOf72 ((V.ro bf).elem bi.len aW f4))) (qv 6 rfl rfl (qv 7 rfl rfl ?_)))))))
 obtain⟨l,T⟩:=jN (ls:=Z) (i:=b) e9
 have ak:=fF aJ T
 obtain⟨gD,gG⟩:l.ls.length<=100000000/\r8 (s5 ae.abs l.ls)<=100000000:=by first | exact yh f5 (BX _ _ _) aF ak | exact yh f5 (wZ _ _) aF ak
 refine qt (v:= .pointer (some ⟨ab u,ao u+b *1,none⟩)) 8 rfl (λ _ ⟨_,V⟩=>Ij (wV) rfl rfl ((V.rds (i:=1) rfl).addr (i:=b) e6) e6) (qt (v:= .slice l.A l.ls.length l.c) 9 rfl (λ _ ⟨_,V⟩=>Io rfl (bZ.one E3 (((V.rds (i:=1) rfl).elem rU T f4).at_ (k:=0) rfl))) ?_)
 have gH:l.ls.length=r8 (s5 ae.abs l.ls):=f1
 obtain⟨d,aX⟩:∃ q,jq az (s5 ae.abs l.ls)=q:=⟨_,rfl⟩
 obtain⟨iL,bU,bV,bW,bX⟩:=Ii dU
 refine qd 10 rfl (Iz Tryz.call149 rfl (xe _ _ az l.A l.ls.length l.c l.ls (s5 ae.abs l.ls) d bU (rfl:s5 ae.abs l.ls=s5 ae.abs l.ls) (bX _ 2 _ rfl (ax (List.mem_flatMap.2 ⟨l,D3 T,b1⟩) aO)) (λ x9 W=>⟨bV _ ((AR f5 T) x9 W).1,((AR f5 T) x9 W).2⟩) f1 g4 (by first | assumption | omega | exact GA f5 aF f5) aX) ?_)
 rintro _ iM ⟨ag,ai,rfl,bY⟩
 have bD:=bW _ _ bY
 have gI:=zr 0 bD
 have bF:=bD.pb [0]
 refine⟨.inr ⟨_,bF⟩, ?_⟩
 obtain⟨aA,U⟩:=jN (ls:=E) (i:=b) e9
 have gJ:=fF S U
 refine qt (v:= .pointer (some ⟨ab K,ao K+b *3,none⟩)) 11 rfl (λ _ ⟨_,V⟩=>Ij (sI) rfl rfl ((V.rds (i:=0) rfl).addr (i:=b) e6) e6) ?_
 have dW:=bF.pf [3]
 have dX:=Ky (f:=ae.own) (i:=b) (row aA.ak.A aA.ak.ls.length aA.ak.c (q3 aI.cells aA.ak.ls) 153 2) rfl U dW
 have dY:=dX.px [] [0] []
 have dZ:=dY.pf [4]
 have ed:=I7 (f:=ae.own) (y:=(ae.mk d.eF d.aT (H0 ag ai d.ak.ls))) U dZ
 have ek:=ed.pf [1]
 refine qe 12 rfl (Do.storeRow (vs:= [.bool d.eF, .string ⟨List.toArray d.aT⟩, .slice ag d.ak.ls.length ai]) (o:=b *3+0) (q:=ao K+b *3) ek rfl e6 rfl Tryz.sizeOf149 rfl rfl (Le rfl) (je ae.len U (Le rfl)) (jV (y:=(ae.mk d.eF d.aT (H0 ag ai d.ak.ls))) ae.len rfl (Le rfl) U) ?_)
 intro iO eu
 have gK:r8 (u2 E b (ae.mk d.eF d.aT (H0 ag ai d.ak.ls)))=r8 (u2 r b (aQ.mk d.eF d.aT (E2 d.ak.ls))):=aB (iW S rfl)
 have gL:r8 (u2 r b (aQ.mk d.eF d.aT (E2 d.ak.ls)))=r.length:=H1
 refine⟨.inl e7, ?_⟩
 refine qn (bN (Ig (Ib (fw (vJ (b+1)) (Ie (e:=C5.wrap ((b:Int)+1)) yk f0) (Mz rfl (WL.nil ?_))))))
 have eB:=eu.pb [1]
 exact Ir (b+1,(u2 E b (ae.mk d.eF d.aT (H0 ag ai d.ak.ls))),(u2 r b (aQ.mk d.eF d.aT (E2 d.ak.ls)))) ⟨rfl,rfl,rfl,rfl,rfl,rfl,rfl,trivial⟩ (aj.2 ⟨eB,by exact(iW S rfl),by first | omega | (simp only [H1] <;> omega) | (simp only [H2]),e6,Eq.trans (aV) (Eq.trans (congrArg (λ q=>jI C q b r) bT) (Eq.trans (ah (bJ ak)) (ah aX)))⟩) (by show l0.length - (b+1) < l0.length - b; omega)
 refine jF (dF bC) (Wp.exit (Il ?_))
 have cu:jI C l0 0 (r6 l0.length (aQ.mk false [] (E2 [])))=r:=et (aV) (et (congrArg (λ q=>jI C q b r) (fB (ls:=l0) (i:=b) e6)) rfl)
 refine Il (IB (Ig (Ic ?_)))
 have eD:=aU.pk [0,3]
 refine Ib (Mz rfl (Az rfl (An rfl (rt (Fin.res (lW rfl rfl rfl) ?_)))))
 have au:l0.length=r.length:=by first | omega | (simp only [H1]; done) | (simp only [H1,o1,s0,F2,List.length_take,List.length_drop,H2]; omega)
 have eF:Own w D dR [row K r.length l0.length (q3 ae.cells E) 149 3,sepL (q3 ae.own E)]:=by rw [<- au]; exact eD
 have eG:=eF.pf []
 obtain⟨rfl,rfl⟩:=ic (zj hr zq4)
 exact⟨K,l0.length,E,(by first | rfl | (rw [<- au]; done) | (rw [<- au]; rfl)),eG,S⟩
 refine jT (dT bq) (sr (Mz rfl (Az rfl (An rfl (rt (tR (Fin.res (lW rfl rfl rfl) ?_)))))))
 have eH:Own w D cZ [sepL (q3 ae.own [])]:=dh.sepNil
 have eO:Own w D cZ [row none 0 0 (q3 ae.cells []) 149 3,sepL (q3 ae.own [])]:=eH.free (eZ 149 3)
 have eP:=eO.pf []
 obtain⟨rfl,rfl⟩:=ic (zj hr zq2)
 exact⟨none,0, [],rfl,eP,rfl⟩
end
open IntKind renaming u64->D1
open List renaming toArray->v9
open Sum renaming inl->B9,inr->C1
open _root_.Go.Proofs.Tryz renaming call112->L9,call139->N2,call158->M8,func158->M0,isAgg111->N1,isAgg128->L8,isAgg227->M9,isAgg231->M2,isAgg28->D4,isAgg3->C4,isAgg38->M7,isAgg4->N3,isAgg72->M5,isAgg9->C2,prog->v8,sizeOf128->L7,sizeOf231->M3,sizeOf244->M1,sizeOf38->M6,sizeOf72->M4,underlying3->B1,underlying72->N0,underlying9->B3
open WL renaming nil->C6
open Wp renaming exit->C7,loop->C3
section
open Go.RowKit
def pu (a:Int):gZ × Bool:=
 if a<=0 then(gZ.mk 0 0 (E2 ([])),false) else if a >= 15 then(gZ.mk 0 0 (E2 ([])),false) else if((D0 a:Nat):Int)=1 then(gZ.mk 2 0 (E2 ([0,1,7])),true) else if((D0 a:Nat):Int)=2 then(gZ.mk 0 2 (E2 ([0,1,2,3])),true) else if((D0 a:Nat):Int)=3 then(gZ.mk 0 1 (E2 ([4,5,6,7])),true) else if((D0 a:Nat):Int)=4 then(gZ.mk 1 0 (E2 ([4,2,3])),true) else if((D0 a:Nat):Int)=5 then(gZ.mk 0 1 (E2 ([4,8])),true) else if((D0 a:Nat):Int)=6 then(gZ.mk 1 0 (E2 ([4])),true) else if((D0 a:Nat):Int)=7 then(gZ.mk 1 0 (E2 ([4])),true) else if((D0 a:Nat):Int)=8 then(gZ.mk 0 1 (E2 ([9,6,10,11])),true) else if((D0 a:Nat):Int)=9 then(gZ.mk 1 0 (E2 ([9])),true) else if((D0 a:Nat):Int)=10 then(gZ.mk 0 1 (E2 ([9,10,12,8,13])),true) else if((D0 a:Nat):Int)=11 then(gZ.mk 1 1 (E2 ([10,14,15,13,7])),true) else if((D0 a:Nat):Int)=12 then(gZ.mk 1 1 (E2 ([10,14,15])),true) else if((D0 a:Nat):Int)=13 then(gZ.mk 1 0 (E2 ([10])),true) else(gZ.mk 1 0 (E2 ([10])),true)
theorem xL (w D c) (r0:gZ) (r1) (H:Own w D w []) (hr:pu c=(r0,r1)):
    Calls v8 49 #[vI c] w (d9 λ v w'=> ∃ O P,v= .tuple #[.agg #[vI r0.mG,vI r0.pM, .slice O r0.cK.ls.length P], .bool r1]/\Own w D w' [row O r0.cK.ls.length P (q3 (eI .i64) r0.cK.ls) 154 1]/\(r0.cK.ls.length<=5)):=by
 refine cb Tryz.func49 ?_
 refine sr ?_
 refine dV [vI 0,vI 0, .slice none 0 0] 128 H ?_
 intro cu cz bu
 refine Ar rfl ?_
 refine lg [vI 0,vI 1,vI 7] 154 1 3 bu ?_
 intro s cB ag
 replace ag:=IL (y:=row s 3 3 (q3 (eI .i64) ([0,1,7])) 154 1) rfl ag
 refine Kz (.agg #[vI 2,vI 0, .slice s 3 3]) ?_
 refine lg [vI 0,vI 1,vI 2,vI 3] 154 1 4 ag ?_
 intro t cK ah
 replace ah:=IL (y:=row t 4 4 (q3 (eI .i64) ([0,1,2,3])) 154 1) rfl ah
 refine Kz (.agg #[vI 0,vI 2, .slice t 4 4]) ?_
 refine lg [vI 4,vI 5,vI 6,vI 7] 154 1 4 ah ?_
 intro u cO ai
 replace ai:=IL (y:=row u 4 4 (q3 (eI .i64) ([4,5,6,7])) 154 1) rfl ai
 refine Kz (.agg #[vI 0,vI 1, .slice u 4 4]) ?_
 refine lg [vI 4,vI 2,vI 3] 154 1 3 ai ?_
 intro x cZ aj
 replace aj:=IL (y:=row x 3 3 (q3 (eI .i64) ([4,2,3])) 154 1) rfl aj
 refine Kz (.agg #[vI 1,vI 0, .slice x 3 3]) ?_
 refine lg [vI 4,vI 8] 154 1 2 aj ?_
 intro z df ak
 replace ak:=IL (y:=row z 2 2 (q3 (eI .i64) ([4,8])) 154 1) rfl ak
 refine Kz (.agg #[vI 0,vI 1, .slice z 2 2]) ?_
 refine lg [vI 4] 154 1 1 ak ?_
 intro A dh au
 replace au:=IL (y:=row A 1 1 (q3 (eI .i64) ([4])) 154 1) rfl au
 refine Kz (.agg #[vI 1,vI 0, .slice A 1 1]) ?_
 refine lg [vI 4] 154 1 1 au ?_
 intro B di av
 replace av:=IL (y:=row B 1 1 (q3 (eI .i64) ([4])) 154 1) rfl av
 refine Kz (.agg #[vI 1,vI 0, .slice B 1 1]) ?_
 refine lg [vI 9,vI 6,vI 10,vI 11] 154 1 4 av ?_
 intro C dm ax
 replace ax:=IL (y:=row C 4 4 (q3 (eI .i64) ([9,6,10,11])) 154 1) rfl ax
 refine Kz (.agg #[vI 0,vI 1, .slice C 4 4]) ?_
 refine lg [vI 9] 154 1 1 ax ?_
 intro E dn ay
 replace ay:=IL (y:=row E 1 1 (q3 (eI .i64) ([9])) 154 1) rfl ay
 refine Kz (.agg #[vI 1,vI 0, .slice E 1 1]) ?_
 refine lg [vI 9,vI 10,vI 12,vI 8,vI 13] 154 1 5 ay ?_
 intro F dw az
 replace az:=IL (y:=row F 5 5 (q3 (eI .i64) ([9,10,12,8,13])) 154 1) rfl az
 refine Kz (.agg #[vI 0,vI 1, .slice F 5 5]) ?_
 refine lg [vI 10,vI 14,vI 15,vI 13,vI 7] 154 1 5 az ?_
 intro G dx aA
 replace aA:=IL (y:=row G 5 5 (q3 (eI .i64) ([10,14,15,13,7])) 154 1) rfl aA
 refine Kz (.agg #[vI 1,vI 1, .slice G 5 5]) ?_
 refine lg [vI 10,vI 14,vI 15] 154 1 3 aA ?_
 intro I dz aB
 replace aB:=IL (y:=row I 3 3 (q3 (eI .i64) ([10,14,15])) 154 1) rfl aB
 refine Kz (.agg #[vI 1,vI 1, .slice I 3 3]) ?_
 refine lg [vI 10] 154 1 1 aB ?_
 intro J dA aC
 replace aC:=IL (y:=row J 1 1 (q3 (eI .i64) ([10])) 154 1) rfl aC
 refine Kz (.agg #[vI 1,vI 0, .slice J 1 1]) ?_
 refine lg [vI 10] 154 1 1 aC ?_
 intro K dB aD
 replace aD:=IL (y:=row K 1 1 (q3 (eI .i64) ([10])) 154 1) rfl aD
 refine Kz (.agg #[vI 1,vI 0, .slice K 1 1]) (Kz (.agg #[vI 0,vI 0, .slice none 0 0,vI 2,vI 0, .slice s 3 3,vI 0,vI 2, .slice t 4 4,vI 0,vI 1, .slice u 4 4,vI 1,vI 0, .slice x 3 3,vI 0,vI 1, .slice z 2 2,vI 1,vI 0, .slice A 1 1,vI 1,vI 0, .slice B 1 1,vI 0,vI 1, .slice C 4 4,vI 1,vI 0, .slice E 1 1,vI 0,vI 1, .slice F 5 5,vI 1,vI 1, .slice G 5 5,vI 1,vI 1, .slice I 3 3,vI 1,vI 0, .slice J 1 1,vI 1,vI 0, .slice K 1 1]) ?_)
 refine dV [vI 0,vI 0, .slice none 0 0,vI 0,vI 0, .slice none 0 0,vI 0,vI 0, .slice none 0 0,vI 0,vI 0, .slice none 0 0,vI 0,vI 0, .slice none 0 0,vI 0,vI 0, .slice none 0 0,vI 0,vI 0, .slice none 0 0,vI 0,vI 0, .slice none 0 0,vI 0,vI 0, .slice none 0 0,vI 0,vI 0, .slice none 0 0,vI 0,vI 0, .slice none 0 0,vI 0,vI 0, .slice none 0 0,vI 0,vI 0, .slice none 0 0,vI 0,vI 0, .slice none 0 0,vI 0,vI 0, .slice none 0 0] 155 aD ?_
 intro g dC bv
 refine dS [vI 0,vI 0, .slice none 0 0,vI 2,vI 0, .slice s 3 3,vI 0,vI 2, .slice t 4 4,vI 0,vI 1, .slice u 4 4,vI 1,vI 0, .slice x 3 3,vI 0,vI 1, .slice z 2 2,vI 1,vI 0, .slice A 1 1,vI 1,vI 0, .slice B 1 1,vI 0,vI 1, .slice C 4 4,vI 1,vI 0, .slice E 1 1,vI 0,vI 1, .slice F 5 5,vI 1,vI 1, .slice G 5 5,vI 1,vI 1, .slice I 3 3,vI 1,vI 0, .slice J 1 1,vI 1,vI 0, .slice K 1 1] 0 bv Tryz.sizeOf155 ?_
 intro dD a
 refine nt (Ic (sr (Mz rfl (Kz (.bool (decide (c<=0))) (Mz rfl ?_)))))
 by_cases b:c<=0
 refine Sz (dT b) (Sz (dT b) (fw (.bool true) (Iw rfl (dT b) rfl) (nt (jt (sr (Kz (.agg #[vI 0,vI 0, .slice none 0 0]) ?_))))))
 have bz:=a.pf [15]
 refine dS [vI 0,vI 0, .slice none 0 0] 0 bz L7 ?_
 intro bA aF
 refine An rfl (rt (tR (Fin.res (kS (vs:= [.agg #[vI 0,vI 0, .slice none 0 0], .bool false]) rfl (eu.cell rfl (Iy (cs:= [vI 0,vI 0, .slice none 0 0]) L8 L7 ((aF.cls (i:=0) rfl).lit (k:=0) (m:=3) rfl)) (eu.tmp rfl eu.nil)) (Le rfl)) ?_)))
 have bB:Own w D bA (row none 0 0 (q3 (eI .i64) ([])) 154 1::_):=aF.free (eZ 154 1)
 have bC:=bB.pk [0]
 obtain⟨rfl,rfl⟩:=ic (zj hr (show _=(gZ.mk 0 0 (E2 ([])),false) from ip b))
 exact⟨none,0,rfl,bC,i0⟩
 refine gw (vI c) (dF b) (Iq rfl) (Gz (.bool (decide (c >= 15))) (dF b) (fw (.bool (decide (c >= 15))) (Ih rfl (dF b) rfl) (nt ?_)))
 by_cases d:c >= 15
 refine jT (dT d) (sr (Kz (.agg #[vI 0,vI 0, .slice none 0 0]) ?_))
 have bD:=a.pf [15]
 refine dS [vI 0,vI 0, .slice none 0 0] 0 bD L7 ?_
 intro bE aG
 refine An rfl (rt (tR (Fin.res (kS (vs:= [.agg #[vI 0,vI 0, .slice none 0 0], .bool false]) rfl (eu.cell rfl (Iy (cs:= [vI 0,vI 0, .slice none 0 0]) L8 L7 ((aG.cls (i:=0) rfl).lit (k:=0) (m:=3) rfl)) (eu.tmp rfl eu.nil)) (Le rfl)) ?_)))
 have bF:Own w D bE (row none 0 0 (q3 (eI .i64) ([])) 154 1::_):=aG.free (eZ 154 1)
 have bG:=bF.pk [0]
 obtain⟨rfl,rfl⟩:=ic (zj hr (show _=(gZ.mk 0 0 (E2 ([])),false) from et (iN b) (ip d)))
 exact⟨none,0,rfl,bG,i0⟩
 refine jF (dF d) (sk (sr (fw (vJ (D0 c)) (Ie (e:=c) (Iq rfl) e6) ?_)))
 by_cases h:((D0 c:Nat):Int)=1
 refine fw (vP g 3) (by(try unfold vJ); rw [show ((D0 c:Nat):Int)=1 from by omega]; exact yk) (La ([vI 2,vI 0, .slice s 3 3]) a 0 L8 L7 ?_)
 have bH:=a.pf [15]
 refine dS [vI 2,vI 0, .slice s 3 3] 0 bH L7 ?_
 intro dE aH
 refine An rfl (rt (Fin.res (kS (vs:= [.agg #[vI 2,vI 0, .slice s 3 3], .bool true]) rfl (eu.cell rfl (Iy (cs:= [vI 2,vI 0, .slice s 3 3]) L8 L7 ((aH.cls (i:=0) rfl).lit (k:=0) (m:=3) rfl)) (eu.tmp rfl eu.nil)) (Le rfl)) ?_))
 have bI:=aH.pk [15]
 obtain⟨rfl,rfl⟩:=ic (zj hr (show _=(gZ.mk 2 0 (E2 ([0,1,7])),true) from et (iN b) (et (iN d) (ip h))))
 exact⟨s,3,rfl,bI,i0⟩
 by_cases l:((D0 c:Nat):Int)=2
 refine fw (vP g 6) (by(try unfold vJ); rw [show ((D0 c:Nat):Int)=2 from by omega]; exact yk) (La ([vI 0,vI 2, .slice t 4 4]) a 0 L8 L7 ?_)
 have bJ:=a.pf [15]
 refine dS [vI 0,vI 2, .slice t 4 4] 0 bJ L7 ?_
 intro dG aI
 refine An rfl (rt (Fin.res (kS (vs:= [.agg #[vI 0,vI 2, .slice t 4 4], .bool true]) rfl (eu.cell rfl (Iy (cs:= [vI 0,vI 2, .slice t 4 4]) L8 L7 ((aI.cls (i:=0) rfl).lit (k:=0) (m:=3) rfl)) (eu.tmp rfl eu.nil)) (Le rfl)) ?_))
 have bK:=aI.pk [14]
 obtain⟨rfl,rfl⟩:=ic (zj hr (show _=(gZ.mk 0 2 (E2 ([0,1,2,3])),true) from et (iN b) (et (iN d) (et (iN h) (ip l)))))
 exact⟨t,4,rfl,bK,i0⟩
 by_cases o:((D0 c:Nat):Int)=3
 refine fw (vP g 9) (by(try unfold vJ); rw [show ((D0 c:Nat):Int)=3 from by omega]; exact yk) (La ([vI 0,vI 1, .slice u 4 4]) a 0 L8 L7 ?_)
 have bL:=a.pf [15]
 refine dS [vI 0,vI 1, .slice u 4 4] 0 bL L7 ?_
 intro dH aJ
 refine An rfl (rt (Fin.res (kS (vs:= [.agg #[vI 0,vI 1, .slice u 4 4], .bool true]) rfl (eu.cell rfl (Iy (cs:= [vI 0,vI 1, .slice u 4 4]) L8 L7 ((aJ.cls (i:=0) rfl).lit (k:=0) (m:=3) rfl)) (eu.tmp rfl eu.nil)) (Le rfl)) ?_))
 have bM:=aJ.pk [13]
 obtain⟨rfl,rfl⟩:=ic (zj hr (show _=(gZ.mk 0 1 (E2 ([4,5,6,7])),true) from et (iN b) (et (iN d) (et (iN h) (et (iN l) (ip o))))))
 exact⟨u,4,rfl,bM,i0⟩
 by_cases p:((D0 c:Nat):Int)=4
 refine fw (vP g 12) (by(try unfold vJ); rw [show ((D0 c:Nat):Int)=4 from by omega]; exact yk) (La ([vI 1,vI 0, .slice x 3 3]) a 0 L8 L7 ?_)
 have bN:=a.pf [15]
 refine dS [vI 1,vI 0, .slice x 3 3] 0 bN L7 ?_
 intro bP Q
 refine An rfl (rt (Fin.res (kS (vs:= [.agg #[vI 1,vI 0, .slice x 3 3], .bool true]) rfl (eu.cell rfl (Iy (cs:= [vI 1,vI 0, .slice x 3 3]) L8 L7 ((Q.cls (i:=0) rfl).lit (k:=0) (m:=3) rfl)) (eu.tmp rfl eu.nil)) (Le rfl)) ?_))
 have aK:=Q.pk [12]
 obtain⟨rfl,rfl⟩:=ic (zj hr (show _=(gZ.mk 1 0 (E2 ([4,2,3])),true) from et (iN b) (et (iN d) (et (iN h) (et (iN l) (et (iN o) (ip p)))))))
 exact⟨x,3,rfl,aK,i0⟩
 by_cases f:((D0 c:Nat):Int)=5
 refine fw (vP g 15) (by(try unfold vJ); rw [show ((D0 c:Nat):Int)=5 from by omega]; exact yk) (La ([vI 0,vI 1, .slice z 2 2]) a 0 L8 L7 ?_)
 have aL:=a.pf [15]
 refine dS [vI 0,vI 1, .slice z 2 2] 0 aL L7 ?_
 intro bQ R
 refine An rfl (rt (Fin.res (kS (vs:= [.agg #[vI 0,vI 1, .slice z 2 2], .bool true]) rfl (eu.cell rfl (Iy (cs:= [vI 0,vI 1, .slice z 2 2]) L8 L7 ((R.cls (i:=0) rfl).lit (k:=0) (m:=3) rfl)) (eu.tmp rfl eu.nil)) (Le rfl)) ?_))
 have aM:=R.pk [11]
 obtain⟨rfl,rfl⟩:=ic (zj hr (show _=(gZ.mk 0 1 (E2 ([4,8])),true) from et (iN b) (et (iN d) (et (iN h) (et (iN l) (et (iN o) (et (iN p) (ip f))))))))
 exact⟨z,2,rfl,aM,i0⟩
 by_cases j:((D0 c:Nat):Int)=6
 refine fw (vP g 18) (by(try unfold vJ); rw [show ((D0 c:Nat):Int)=6 from by omega]; exact yk) (La ([vI 1,vI 0, .slice A 1 1]) a 0 L8 L7 ?_)
 have aN:=a.pf [15]
 refine dS [vI 1,vI 0, .slice A 1 1] 0 aN L7 ?_
 intro bR S
 refine An rfl (rt (Fin.res (kS (vs:= [.agg #[vI 1,vI 0, .slice A 1 1], .bool true]) rfl (eu.cell rfl (Iy (cs:= [vI 1,vI 0, .slice A 1 1]) L8 L7 ((S.cls (i:=0) rfl).lit (k:=0) (m:=3) rfl)) (eu.tmp rfl eu.nil)) (Le rfl)) ?_))
 have aO:=S.pk [10]
 obtain⟨rfl,rfl⟩:=ic (zj hr (show _=(gZ.mk 1 0 (E2 ([4])),true) from et (iN b) (et (iN d) (et (iN h) (et (iN l) (et (iN o) (et (iN p) (et (iN f) (ip j)))))))))
 exact⟨A,1,rfl,aO,i0⟩
 by_cases n:((D0 c:Nat):Int)=7
 refine fw (vP g 21) (by(try unfold vJ); rw [show ((D0 c:Nat):Int)=7 from by omega]; exact yk) (La ([vI 1,vI 0, .slice B 1 1]) a 0 L8 L7 ?_)
 have aP:=a.pf [15]
 refine dS [vI 1,vI 0, .slice B 1 1] 0 aP L7 ?_
 intro bS T
 refine An rfl (rt (Fin.res (kS (vs:= [.agg #[vI 1,vI 0, .slice B 1 1], .bool true]) rfl (eu.cell rfl (Iy (cs:= [vI 1,vI 0, .slice B 1 1]) L8 L7 ((T.cls (i:=0) rfl).lit (k:=0) (m:=3) rfl)) (eu.tmp rfl eu.nil)) (Le rfl)) ?_))
 have aQ:=T.pk [9]
 obtain⟨rfl,rfl⟩:=ic (zj hr (show _=(gZ.mk 1 0 (E2 ([4])),true) from et (iN b) (et (iN d) (et (iN h) (et (iN l) (et (iN o) (et (iN p) (et (iN f) (et (iN j) (ip n))))))))))
 exact⟨B,1,rfl,aQ,i0⟩
 by_cases q:((D0 c:Nat):Int)=8
 refine fw (vP g 24) (by(try unfold vJ); rw [show ((D0 c:Nat):Int)=8 from by omega]; exact yk) (La ([vI 0,vI 1, .slice C 4 4]) a 0 L8 L7 ?_)
 have aR:=a.pf [15]
 refine dS [vI 0,vI 1, .slice C 4 4] 0 aR L7 ?_
 intro bT U
 refine An rfl (rt (Fin.res (kS (vs:= [.agg #[vI 0,vI 1, .slice C 4 4], .bool true]) rfl (eu.cell rfl (Iy (cs:= [vI 0,vI 1, .slice C 4 4]) L8 L7 ((U.cls (i:=0) rfl).lit (k:=0) (m:=3) rfl)) (eu.tmp rfl eu.nil)) (Le rfl)) ?_))
 have aS:=U.pk [8]
 obtain⟨rfl,rfl⟩:=ic (zj hr (show _=(gZ.mk 0 1 (E2 ([9,6,10,11])),true) from et (iN b) (et (iN d) (et (iN h) (et (iN l) (et (iN o) (et (iN p) (et (iN f) (et (iN j) (et (iN n) (ip q)))))))))))
 exact⟨C,4,rfl,aS,i0⟩
 by_cases r:((D0 c:Nat):Int)=9
 refine fw (vP g 27) (by(try unfold vJ); rw [show ((D0 c:Nat):Int)=9 from by omega]; exact yk) (La ([vI 1,vI 0, .slice E 1 1]) a 0 L8 L7 ?_)
 have aT:=a.pf [15]
 refine dS [vI 1,vI 0, .slice E 1 1] 0 aT L7 ?_
 intro bU V
 refine An rfl (rt (Fin.res (kS (vs:= [.agg #[vI 1,vI 0, .slice E 1 1], .bool true]) rfl (eu.cell rfl (Iy (cs:= [vI 1,vI 0, .slice E 1 1]) L8 L7 ((V.cls (i:=0) rfl).lit (k:=0) (m:=3) rfl)) (eu.tmp rfl eu.nil)) (Le rfl)) ?_))
 have aU:=V.pk [7]
 obtain⟨rfl,rfl⟩:=ic (zj hr (show _=(gZ.mk 1 0 (E2 ([9])),true) from et (iN b) (et (iN d) (et (iN h) (et (iN l) (et (iN o) (et (iN p) (et (iN f) (et (iN j) (et (iN n) (et (iN q) (ip r))))))))))))
 exact⟨E,1,rfl,aU,i0⟩
 by_cases L:((D0 c:Nat):Int)=10
 refine fw (vP g 30) (by(try unfold vJ); rw [show ((D0 c:Nat):Int)=10 from by omega]; exact yk) (La ([vI 0,vI 1, .slice F 5 5]) a 0 L8 L7 ?_)
 have aV:=a.pf [15]
 refine dS [vI 0,vI 1, .slice F 5 5] 0 aV L7 ?_
 intro bV W
 refine An rfl (rt (Fin.res (kS (vs:= [.agg #[vI 0,vI 1, .slice F 5 5], .bool true]) rfl (eu.cell rfl (Iy (cs:= [vI 0,vI 1, .slice F 5 5]) L8 L7 ((W.cls (i:=0) rfl).lit (k:=0) (m:=3) rfl)) (eu.tmp rfl eu.nil)) (Le rfl)) ?_))
 have aW:=W.pk [6]
 obtain⟨rfl,rfl⟩:=ic (zj hr (show _=(gZ.mk 0 1 (E2 ([9,10,12,8,13])),true) from et (iN b) (et (iN d) (et (iN h) (et (iN l) (et (iN o) (et (iN p) (et (iN f) (et (iN j) (et (iN n) (et (iN q) (et (iN r) (ip L)))))))))))))
 exact⟨F,5,rfl,aW,i0⟩
 by_cases M:((D0 c:Nat):Int)=11
 refine fw (vP g 33) (by(try unfold vJ); rw [show ((D0 c:Nat):Int)=11 from by omega]; exact yk) (La ([vI 1,vI 1, .slice G 5 5]) a 0 L8 L7 ?_)
 have aX:=a.pf [15]
 refine dS [vI 1,vI 1, .slice G 5 5] 0 aX L7 ?_
 intro bW X
 refine An rfl (rt (Fin.res (kS (vs:= [.agg #[vI 1,vI 1, .slice G 5 5], .bool true]) rfl (eu.cell rfl (Iy (cs:= [vI 1,vI 1, .slice G 5 5]) L8 L7 ((X.cls (i:=0) rfl).lit (k:=0) (m:=3) rfl)) (eu.tmp rfl eu.nil)) (Le rfl)) ?_))
 have aY:=X.pk [5]
 obtain⟨rfl,rfl⟩:=ic (zj hr (show _=(gZ.mk 1 1 (E2 ([10,14,15,13,7])),true) from et (iN b) (et (iN d) (et (iN h) (et (iN l) (et (iN o) (et (iN p) (et (iN f) (et (iN j) (et (iN n) (et (iN q) (et (iN r) (et (iN L) (ip M))))))))))))))
 exact⟨G,5,rfl,aY,i0⟩
 by_cases N:((D0 c:Nat):Int)=12
 refine fw (vP g 36) (by(try unfold vJ); rw [show ((D0 c:Nat):Int)=12 from by omega]; exact yk) (La ([vI 1,vI 1, .slice I 3 3]) a 0 L8 L7 ?_)
 have aZ:=a.pf [15]
 refine dS [vI 1,vI 1, .slice I 3 3] 0 aZ L7 ?_
 intro bX Y
 refine An rfl (rt (Fin.res (kS (vs:= [.agg #[vI 1,vI 1, .slice I 3 3], .bool true]) rfl (eu.cell rfl (Iy (cs:= [vI 1,vI 1, .slice I 3 3]) L8 L7 ((Y.cls (i:=0) rfl).lit (k:=0) (m:=3) rfl)) (eu.tmp rfl eu.nil)) (Le rfl)) ?_))
 have bf:=Y.pk [4]
 obtain⟨rfl,rfl⟩:=ic (zj hr (show _=(gZ.mk 1 1 (E2 ([10,14,15])),true) from et (iN b) (et (iN d) (et (iN h) (et (iN l) (et (iN o) (et (iN p) (et (iN f) (et (iN j) (et (iN n) (et (iN q) (et (iN r) (et (iN L) (et (iN M) (ip N)))))))))))))))
 exact⟨I,3,rfl,bf,i0⟩
 by_cases Z:((D0 c:Nat):Int)=13
 refine fw (vP g 39) (by(try unfold vJ); rw [show ((D0 c:Nat):Int)=13 from by omega]; exact yk) (La ([vI 1,vI 0, .slice J 1 1]) a 0 L8 L7 ?_)
 have bg:=a.pf [15]
 refine dS [vI 1,vI 0, .slice J 1 1] 0 bg L7 ?_
 intro bY aa
 refine An rfl (rt (Fin.res (kS (vs:= [.agg #[vI 1,vI 0, .slice J 1 1], .bool true]) rfl (eu.cell rfl (Iy (cs:= [vI 1,vI 0, .slice J 1 1]) L8 L7 ((aa.cls (i:=0) rfl).lit (k:=0) (m:=3) rfl)) (eu.tmp rfl eu.nil)) (Le rfl)) ?_))
 have bi:=aa.pk [3]
 obtain⟨rfl,rfl⟩:=ic (zj hr (show _=(gZ.mk 1 0 (E2 ([10])),true) from et (iN b) (et (iN d) (et (iN h) (et (iN l) (et (iN o) (et (iN p) (et (iN f) (et (iN j) (et (iN n) (et (iN q) (et (iN r) (et (iN L) (et (iN M) (et (iN N) (ip Z))))))))))))))))
 exact⟨J,1,rfl,bi,i0⟩
 refine fw (vP g 42) (by(try unfold vJ); rw [show ((D0 c:Nat):Int)=14 from by omega]; exact yk) (La ([vI 1,vI 0, .slice K 1 1]) a 0 L8 L7 ?_)
 have bn:=a.pf [15]
 refine dS [vI 1,vI 0, .slice K 1 1] 0 bn L7 ?_
 intro bZ ae
 refine An rfl (rt (Fin.res (kS (vs:= [.agg #[vI 1,vI 0, .slice K 1 1], .bool true]) rfl (eu.cell rfl (Iy (cs:= [vI 1,vI 0, .slice K 1 1]) L8 L7 ((ae.cls (i:=0) rfl).lit (k:=0) (m:=3) rfl)) (eu.tmp rfl eu.nil)) (Le rfl)) ?_))
 have bq:=ae.pk [2]
 obtain⟨rfl,rfl⟩:=ic (zj hr (show _=(gZ.mk 1 0 (E2 ([10])),true) from et (iN b) (et (iN d) (et (iN h) (et (iN l) (et (iN o) (et (iN p) (et (iN f) (et (iN j) (et (iN n) (et (iN q) (et (iN r) (et (iN L) (et (iN M) (et (iN N) (iN Z))))))))))))))))
 exact⟨K,1,rfl,bq,i0⟩
def tL (b:Int) (a:Int):Bool:=
 if b=2 then if a=1 then true else decide (a=2) else if a=3 then true else if a=4 then true else decide (a=5)
theorem yl (w D f b l) (H:Own w D w []) (hr:tL f b=l):
    Calls v8 113 #[vI f,vI b] w (d9 λ v w'=>v= .bool l/\Own w D w' []):=by
 refine cb Tryz.func113 ?_
 refine sr (An rfl (Ic (sr (Mz rfl (Kz (.bool (decide (f=2))) (nt ?_))))))
 by_cases e:f=2
 refine jT (dT e) (sr (Mz rfl (Kz (.bool (decide (b=1))) (Mz rfl ?_))))
 by_cases c:b=1
 refine Sz (dT c) (Sz (dT c) (fw (.bool true) (Iw rfl (dT c) rfl) (An rfl (rt (tR (rs ?_))))))
 have g:=H.pk []
 obtain rfl:_=true:=zj hr (et (ip e) (ip c))
 exact⟨rfl,g⟩
 refine gw (vI b) (dF c) (Iq rfl) (Gz (.bool (decide (b=2))) (dF c) (fw (.bool (decide (b=2))) (Ih rfl (dF c) rfl) (An rfl (rt (tR (rs ?_))))))
 have h:=H.pk []
 obtain rfl:_=decide (b=2):=zj hr (et (ip e) (iN c))
 exact⟨rfl,h⟩
 refine jF (dF e) (sk (sr (Mz rfl (Kz (.bool (decide (b=3))) (Mz rfl ?_)))))
 by_cases a:b=3
 refine Sz (dT a) (Sz (dT a) (fw (.bool true) (Iw rfl (dT a) rfl) (Mz rfl (Sz rfl (Sz rfl (fw (.bool true) (Iw rfl rfl rfl) (An rfl (rt (rs ?_)))))))))
 have i:=H.pk []
 obtain rfl:_=true:=zj hr (et (iN e) (ip a))
 exact⟨rfl,i⟩
 refine gw (vI b) (dF a) (Iq rfl) (Gz (.bool (decide (b=4))) (dF a) (fw (.bool (decide (b=4))) (Ih rfl (dF a) rfl) (Mz rfl ?_)))
 by_cases d:b=4
 refine Sz (dT d) (Sz (dT d) (fw (.bool true) (Iw rfl (dT d) rfl) (An rfl (rt (rs ?_)))))
 have j:=H.pk []
 obtain rfl:_=true:=zj hr (et (iN e) (et (iN a) (ip d)))
 exact⟨rfl,j⟩
 refine gw (vI b) (dF d) (Iq rfl) (Gz (.bool (decide (b=5))) (dF d) (fw (.bool (decide (b=5))) (Ih rfl (dF d) rfl) (An rfl (rt (rs ?_)))))
 have k:=H.pk []
 obtain rfl:_=decide (b=5):=zj hr (et (iN e) (et (iN a) (iN d)))
 exact⟨rfl,k⟩
def iq:List aI->Unit ⊕ Bool
  | []=>B9 ()
  | a::c=>bnd (ib a.bY) λ b=>if b=0 then if((a.aT.length:Nat):Int) > 16 then C1 (false) else iq c else C1 (false)
def gY:List aQ->Unit ⊕ Bool
  | []=>B9 ()
  | a::b=>if((a.aT.length:Nat):Int) > 16 then C1 (false) else if((a.ak.ls.length:Nat):Int) > 4 then C1 (false) else qU (iq a.ak.ls) λ _=>gY b
def og (a:Int) (l1:List aQ):Bool:=
 bnd (if a=2 then 4 else 24) λ sJrJ=>if((l1.length:Nat):Int) > ((sJrJ:Nat):Int) then false else lp (gY l1) λ _=>true
theorem wB (w D R r n1 c1 d1 l1 r0) (H:Own w D w []) (S:s5 ae.abs d1=l1) (Q:Ro w D λ w'=>bE w' 3 r n1 (q3 ae.cells d1)) (J:∀ x ∈ d1,Ro w D (λ w'=>bE w' 2 x.ak.A x.ak.ls.length (q3 aI.cells x.ak.ls))/\(x.ak.ls.length<=x.ak.c/\x.ak.ls.length<=9223372036854775807)) (az:n1=l1.length) (bq:l1.length<=9223372036854775807) (hr:og R l1=r0):
    Calls v8 114 #[vI R, .slice r n1 c1] w (d9 λ v w'=>v= .bool r0/\Own w D w' []):=by
 subst az
 have aV:=aB S
 refine cb Tryz.func114 ?_
 refine sr (Ar rfl (An rfl (Ic (sr (Mz rfl (Kz (.bool (decide (R=2))) (nt ?_)))))))
 obtain⟨aA,B⟩:=nQ λ (n:Nat) w'=>Own w D w' []/\n<=9223372036854775807/\n >= 4/\n<=24/\(if R=2 then 4 else 24)=n
 refine IZ (λ i:Nat=> [(5,vJ i),(4, .bool false),(1, .slice r l1.length c1)]) aA ?_ ?_
 by_cases K:R=2
 refine jT (dT K) (Ib (Az rfl (C6 ?_)))
 have aC:=H.pk []
 exact IQ 4 ⟨rfl,rfl,rfl,trivial⟩ (B.2 ⟨aC,e6,e6,e6,ip K⟩)
 refine jF (dF K) (IE ?_)
 have aD:=H.pk []
 exact IQ 24 ⟨rfl,rfl,rfl,trivial⟩ (B.2 ⟨aD,e6,e6,e6,iN K⟩)
 rintro n bu T
 obtain⟨U,aW,aX,aY,k⟩:=B.1 T
 refine Ic (sr (Mz rfl (Kz (vJ l1.length) (Mz rfl (Kz (.bool (decide (((l1.length:Nat):Int) > ((n:Nat):Int)))) (nt ?_))))))
 by_cases o:((l1.length:Nat):Int) > ((n:Nat):Int)
 refine jT (dT o) (sr (An rfl (rt (tR (rs ?_)))))
 have aF:=U.pk []
 obtain rfl:_=false:=zj hr (et (ah k) (ip o))
 exact⟨rfl,aF⟩
 refine jF (dF o) (sk (Ic (sr (Mz rfl (Kz (vJ l1.length) (Mn rfl (bo ?_)))))))
 have aG:=U.pk []
 obtain⟨aH,C⟩:=nQ λ (b:Nat) w'=>Own w D w' []/\b<=l1.length/\gY l1=gY (r3 b l1)
 refine C3 (λ i:Nat=> [(4, .bool false),(18,vJ i),(17,vJ l1.length),(16, .slice r l1.length c1)]) aH (λ i=>l1.length - i) 0 ⟨rfl,rfl,rfl,rfl,trivial⟩ (C.2 ⟨aG,e6,rfl⟩) ?_
 rintro b bv V
 obtain⟨E,aZ,l⟩:=C.1 V
 refine sr (Kz (.bool (decide (((b:Nat):Int) < ((l1.length:Nat):Int)))) (nt (Ic ?_)))
 by_cases W:((b:Nat):Int) < ((l1.length:Nat):Int)
 obtain⟨a,m⟩:=dN (ls:=d1) (i:=b) ae.len f4 (E.ro Q) e9
 have X:=fF S m
 have bf:=(J _ (D3 m)).2
 have p:=drop_at X
 refine jT (dT W) (sk (Ic (bo (sr (fw (.pointer (some ⟨ab r,ao r+b *3,none⟩)) (Ij (sI) rfl rfl ((E.ro Q).addr (i:=b) e6) e6) (fw (.agg (ae.cells a).toArray) (Io rfl (Iy (cs:=(ae.cells a)) Tryz.isAgg149 Tryz.sizeOf149 ((E.ro Q).elem ae.len m f4))) ?_))))))
 refine dV [.bool false, .string ⟨v9 ([])⟩, .slice none 0 0] 149 E ?_
 intro j bz aJ
 refine dS (ae.cells a) 0 aJ Tryz.sizeOf149 ?_
 intro bA u
 refine nt (Ic (sr (Kz (vP j 1) (Lz (.string ⟨v9 a.aT⟩) u 0 C2 (Kz (vJ a.aT.length) (Kz (.bool (decide (((a.aT.length:Nat):Int) > 16))) (Mz rfl ?_)))))))
 by_cases d:((a.aT.length:Nat):Int) > 16
 refine Sz (dT d) (Sz (dT d) (Sz (dT d) (Sz (dT d) (fw (.bool true) (Iw rfl (dT d) rfl) (nt (jt (sr (An rfl (rt (tR (bR (tR (tR (bR (tR (rs ?_))))))))))))))))
 have aK:=u.pk []
 obtain rfl:_=false:=zj hr (et (ah k) (et (iN o) (jm (et (l) (et (congrArg (λ q=>gY q) p) (ip d))))))
 exact⟨rfl,aK⟩
 refine Gz (vP j 2) (dF d) (Gl (.slice a.ak.A a.ak.ls.length a.ak.c) (dF d) u 0 Tryz.isAgg147 (Gz (vJ a.ak.ls.length) (dF d) (Gz (.bool (decide (((a.ak.ls.length:Nat):Int) > 4))) (dF d) (fw (.bool (decide (((a.ak.ls.length:Nat):Int) > 4))) (Ih rfl (dF d) rfl) (nt ?_)))))
 by_cases y:((a.ak.ls.length:Nat):Int) > 4
 refine jT (dT y) (sr (An rfl (rt (tR (bR (tR (tR (bR (tR (rs ?_))))))))))
 have aL:=u.pk []
 obtain rfl:_=false:=zj hr (et (ah k) (et (iN o) (jm (et (l) (et (congrArg (λ q=>gY q) p) (et (iN d) (ip y)))))))
 exact⟨rfl,aL⟩
 refine jF (dF y) (sk (sr (Kz (vP j 2) (Lz (.slice a.ak.A a.ak.ls.length a.ak.c) u 0 Tryz.isAgg147 (Kz (vJ a.ak.ls.length) (Mn rfl (bo ?_)))))))
 have aM:=u.pf []
 obtain⟨aN,F⟩:=nQ λ (f:Nat) w'=>Own w D w' [blk j (ae.cells a) 149]/\f<=a.ak.ls.length/\iq a.ak.ls=iq (r3 f a.ak.ls)
 refine C3 (λ i:Nat=> [(4, .bool false),(35,vJ i),(34,vJ a.ak.ls.length),(33, .slice a.ak.A a.ak.ls.length a.ak.c),(32,vP j 2),(31, .bool (decide (((a.ak.ls.length:Nat):Int) > 4))),(30, .bool (decide (((a.ak.ls.length:Nat):Int) > 4))),(29,vJ a.ak.ls.length),(28, .slice a.ak.A a.ak.ls.length a.ak.c),(27,vP j 2),(26, .bool (decide (((a.aT.length:Nat):Int) > 16))),(25, .bool (decide (((a.aT.length:Nat):Int) > 16))),(24,vJ a.aT.length),(23, .string ⟨v9 a.aT⟩),(22,vP j 1),(7,vP j 0),(21, .agg (ae.cells a).toArray),(20, .pointer (some ⟨ab r,ao r+b *3,none⟩)),(19, .bool (decide (((b:Nat):Int) < ((l1.length:Nat):Int)))),(18,vJ b),(17,vJ l1.length),(16, .slice r l1.length c1)]) aN (λ i=>a.ak.ls.length - i) 0 ⟨rfl,rfl,rfl,rfl,rfl,rfl,rfl,rfl,rfl,rfl,rfl,rfl,rfl,rfl,rfl,rfl,rfl,rfl,rfl,rfl,rfl,rfl,trivial⟩ (F.2 ⟨aM,e6,rfl⟩) ?_
 rintro f bB Y
 obtain⟨G,bg,s⟩:=F.1 Y
 refine sr (Kz (.bool (decide (((f:Nat):Int) < ((a.ak.ls.length:Nat):Int)))) (nt (Ic ?_)))
 by_cases Z:((f:Nat):Int) < ((a.ak.ls.length:Nat):Int)
 obtain⟨g,N⟩:=dN (ls:=a.ak.ls) (i:=f) aI.len f4 (G.ro (J _ (D3 m)).1) e9
 have I:=drop_at N
 refine jT (dT Z) (sk (Ic (bo (sr (fw (.pointer (some ⟨ab a.ak.A,ao a.ak.A+f *2,none⟩)) (Ij (ko) rfl rfl ((G.ro (J _ (D3 m)).1).addr (i:=f) e6) e6) (fw (.agg (aI.cells g).toArray) (Io rfl (Iy (cs:=(aI.cells g)) Tryz.isAgg153 Tryz.sizeOf153 ((G.ro (J _ (D3 m)).1).elem aI.len N f4))) ?_))))))
 refine dV [.string ⟨v9 ([])⟩, .string ⟨v9 ([])⟩] 153 G ?_
 intro aa bC aO
 refine dS (aI.cells g) 0 aO Tryz.sizeOf153 ?_
 intro bD af
 refine ns (Kz (vP aa 0) (Lz (.string ⟨v9 g.bY⟩) af 0 C2 ?_))
 obtain⟨z,t⟩:∃ q,ib g.bY=q:=⟨_,rfl⟩
 obtain⟨bF,ag,bi,ai,bn⟩:=Ii af
 refine cl L9 (kM _ _ g.bY z ag t) ?_
 rintro _ bG ⟨rfl,aj,O,P⟩
 have L:=ai _ _ aj
 replace O: ¬ (z=0)\/(1<=g.bY.length/\g.bY.length<=12):=O
 replace P:g.bY.length < 1\/g.bY.length > 12\/z=0:=P
 refine fw (.bool (decide (¬ (z=0)))) (IG (e:= !(decide (z=0))) yk decide_not.symm) (Mz rfl ?_)
 by_cases h:z=0
 refine gw (vP aa 1) (dF (Lh h)) yk (gw (.string ⟨v9 g.aT⟩) (dF (Lh h)) (Io rfl (bZ.one C2 (jR.of (L.cls (i:=0) rfl) rfl))) (gw (vJ g.aT.length) (dF (Lh h)) yk (gw (.bool (decide (((g.aT.length:Nat):Int) > 16))) (dF (Lh h)) yk (fw (.bool (decide (((g.aT.length:Nat):Int) > 16))) (Ih rfl (dF (Lh h)) rfl) (nt ?_)))))
 by_cases M:((g.aT.length:Nat):Int) > 16
 refine jT (dT M) (sr (An rfl (rt (bR (tR (tR (bR (bR (tR (tR (bR (tR (rs ?_)))))))))))))
 have aP:=L.pk []
 obtain rfl:_=false:=zj hr (et (ah k) (et (iN o) (jm (et (l) (et (congrArg (λ q=>gY q) p) (et (iN d) (et (iN y) (oF (et (s) (et (congrArg (λ q=>iq q) I) (et (ah t) (et (ip h) (ip M)))))))))))))
 exact⟨rfl,aP⟩
 refine jF (dF M) (IE (bN (Ig (Ib (fw (vJ (f+1)) (Ie (e:=C5.wrap (((f:Nat):Int)+1)) yk f0) (Mz rfl (C6 ?_)))))))
 have aR:=L.pk [1]
 exact Ir (f+1) ⟨rfl,rfl,rfl,rfl,rfl,rfl,rfl,rfl,rfl,rfl,rfl,rfl,rfl,rfl,rfl,rfl,rfl,rfl,rfl,rfl,rfl,rfl,trivial⟩ (F.2 ⟨aR,e6,et (s) (et (congrArg (λ q=>iq q) I) (et (ah t) (et (ip h) (iN M))))⟩) (by show a.ak.ls.length - (f+1) < a.ak.ls.length - f; omega)
 refine Sz (dT h) (Sz (dT h) (Sz (dT h) (Sz (dT h) (fw (.bool true) (Iw rfl (dT h) rfl) (nt (jt (sr (An rfl (rt (bR (tR (tR (bR (bR (tR (tR (bR (tR (rs ?_)))))))))))))))))))
 have aS:=L.pk []
 obtain rfl:_=false:=zj hr (et (ah k) (et (iN o) (jm (et (l) (et (congrArg (λ q=>gY q) p) (et (iN d) (et (iN y) (oF (et (s) (et (congrArg (λ q=>iq q) I) (et (ah t) (iN h))))))))))))
 exact⟨rfl,aS⟩
 refine jF (dF Z) (C7 (Il ?_))
 have ak:iq a.ak.ls=B9 ():=et (s) (et (congrArg (λ q=>iq q) (fB (ls:=a.ak.ls) (i:=f) e6)) rfl)
 refine Il (IB (bN (Ig (Ib (fw (vJ (b+1)) (Ie (e:=C5.wrap (((b:Nat):Int)+1)) yk f0) (Mz rfl (C6 ?_)))))))
 have aT:=G.pk []
 exact Ir (b+1) ⟨rfl,rfl,rfl,rfl,trivial⟩ (C.2 ⟨aT,e6,et (l) (et (congrArg (λ q=>gY q) p) (et (iN d) (et (iN y) (nY ak))))⟩) (by show l1.length - (b+1) < l1.length - b; omega)
 refine jF (dF W) (C7 (Il ?_))
 have au:gY l1=B9 ():=et (l) (et (congrArg (λ q=>gY q) (fB (ls:=l1) (i:=b) e6)) rfl)
 refine Il (IB (Ig (sr (An rfl (rt (rs ?_))))))
 have av:=E.pk []
 obtain rfl:_=true:=zj hr (et (ah k) (et (iN o) (nT au)))
 exact⟨rfl,av⟩
theorem uH (w D j) (H:Own w D w []) (c:j=1):
    Calls v8 158 #[vI j] w (d9 λ v w'=>v= .tuple #[.agg #[.bool false, .func (.func 172) #[] #[], .func (.func 173) #[] #[], .func (.func 174) #[] #[], .func (.func 175) #[] #[]], .bool true]/\Own w D w' []):=by
 subst c
 refine cb M0 ?_
 refine sr ?_
 refine dV [.bool false, .nilFunc, .nilFunc, .nilFunc, .nilFunc] 231 H ?_
 intro l n d
 refine Ar rfl (Kz (.agg #[.bool false, .func (.func 172) #[] #[], .func (.func 173) #[] #[], .func (.func 174) #[] #[], .func (.func 175) #[] #[]]) (Kz (.agg #[.bool true, .func (.func 176) #[] #[], .func (.func 177) #[] #[], .func (.func 174) #[] #[], .func (.func 178) #[] #[]]) (Kz (.agg #[.bool true, .func (.func 172) #[] #[], .func (.func 173) #[] #[], .func (.func 174) #[] #[], .func (.func 179) #[] #[]]) (Kz (.agg #[.bool false, .func (.func 180) #[] #[], .func (.func 181) #[] #[], .func (.func 182) #[] #[], .func (.func 183) #[] #[]]) (Kz (.agg #[.bool true, .func (.func 184) #[] #[], .func (.func 185) #[] #[], .func (.func 182) #[] #[], .func (.func 186) #[] #[]]) (Kz (.agg #[.bool false, .nilFunc, .nilFunc, .nilFunc, .nilFunc, .bool false, .func (.func 172) #[] #[], .func (.func 173) #[] #[], .func (.func 174) #[] #[], .func (.func 175) #[] #[], .bool true, .func (.func 176) #[] #[], .func (.func 177) #[] #[], .func (.func 174) #[] #[], .func (.func 178) #[] #[], .bool true, .func (.func 172) #[] #[], .func (.func 173) #[] #[], .func (.func 174) #[] #[], .func (.func 179) #[] #[], .bool false, .func (.func 180) #[] #[], .func (.func 181) #[] #[], .func (.func 182) #[] #[], .func (.func 183) #[] #[], .bool true, .func (.func 184) #[] #[], .func (.func 185) #[] #[], .func (.func 182) #[] #[], .func (.func 186) #[] #[]]) ?_))))))
 refine dV [.bool false, .nilFunc, .nilFunc, .nilFunc, .nilFunc, .bool false, .nilFunc, .nilFunc, .nilFunc, .nilFunc, .bool false, .nilFunc, .nilFunc, .nilFunc, .nilFunc, .bool false, .nilFunc, .nilFunc, .nilFunc, .nilFunc, .bool false, .nilFunc, .nilFunc, .nilFunc, .nilFunc, .bool false, .nilFunc, .nilFunc, .nilFunc, .nilFunc] 244 d ?_
 intro e o f
 refine dS [.bool false, .nilFunc, .nilFunc, .nilFunc, .nilFunc, .bool false, .func (.func 172) #[] #[], .func (.func 173) #[] #[], .func (.func 174) #[] #[], .func (.func 175) #[] #[], .bool true, .func (.func 176) #[] #[], .func (.func 177) #[] #[], .func (.func 174) #[] #[], .func (.func 178) #[] #[], .bool true, .func (.func 172) #[] #[], .func (.func 173) #[] #[], .func (.func 174) #[] #[], .func (.func 179) #[] #[], .bool false, .func (.func 180) #[] #[], .func (.func 181) #[] #[], .func (.func 182) #[] #[], .func (.func 183) #[] #[], .bool true, .func (.func 184) #[] #[], .func (.func 185) #[] #[], .func (.func 182) #[] #[], .func (.func 186) #[] #[]] 0 f M1 ?_
 intro p a
 refine nt (Ic (sr (Mz rfl (Kz (.bool false) (Mz rfl (gw (vI 1) rfl (Iq rfl) (Gz (.bool false) rfl (fw (.bool false) (Ih rfl rfl rfl) (nt (jf (sk (sr (Mz rfl (Kz (vP e 5) (La ([.bool false, .func (.func 172) #[] #[], .func (.func 173) #[] #[], .func (.func 174) #[] #[], .func (.func 175) #[] #[]]) a 0 M2 M3 ?_)))))))))))))))
 have g:=a.pb [0]
 refine dS [.bool false, .func (.func 172) #[] #[], .func (.func 173) #[] #[], .func (.func 174) #[] #[], .func (.func 175) #[] #[]] 0 g M3 ?_
 intro q b
 refine An rfl (rt (Fin.res (kS (vs:= [.agg #[.bool false, .func (.func 172) #[] #[], .func (.func 173) #[] #[], .func (.func 174) #[] #[], .func (.func 175) #[] #[]], .bool true]) rfl (eu.cell rfl (Iy (cs:= [.bool false, .func (.func 172) #[] #[], .func (.func 173) #[] #[], .func (.func 174) #[] #[], .func (.func 175) #[] #[]]) M2 M3 ((b.cls (i:=0) rfl).lit (k:=0) (m:=5) rfl)) (eu.tmp rfl eu.nil)) (Le rfl)) ?_))
 have h:=b.pk []
 exact⟨rfl,h⟩
def si (a:bi):bi:=
 bi.mk a.aD a.bY ([]) ([]) ([]) 0
theorem wC (w D) (a:bi) (g:bi) (H:Own w D w []) (hr:si a=g):
    Calls v8 172 #[.agg (bi.cells a).toArray] w (d9 λ v w'=>v= .agg (bi.cells g).toArray/\Own w D w' []):=by
 refine cb Tryz.func172 ?_
 refine sr ?_
 refine dV (bi.cells a) 72 H ?_
 intro c h e
 refine dV [vI 0, .string ⟨v9 ([])⟩, .string ⟨v9 ([])⟩, .string ⟨v9 ([])⟩, .string ⟨v9 ([])⟩,vI 0] 72 e ?_
 intro j l b
 refine ns (Kz (vP c 0) (Lz (vI a.aD) b 1 C4 (Kz (vP c 1) (Lz (.string ⟨v9 a.bY⟩) b 1 C2 (Kz (.agg #[vI a.aD, .string ⟨v9 a.bY⟩, .string ⟨v9 ([])⟩, .string ⟨v9 ([])⟩, .string ⟨v9 ([])⟩,vI 0]) ?_)))))
 refine dS [vI a.aD, .string ⟨v9 a.bY⟩, .string ⟨v9 ([])⟩, .string ⟨v9 ([])⟩, .string ⟨v9 ([])⟩,vI 0] 0 b M4 ?_
 intro n d
 refine nt (rt (Fin.res (ol rfl rfl (Iy (cs:= [vI a.aD, .string ⟨v9 a.bY⟩, .string ⟨v9 ([])⟩, .string ⟨v9 ([])⟩, .string ⟨v9 ([])⟩,vI 0]) M5 M4 ((d.cls (i:=0) rfl).lit (k:=0) (m:=6) rfl))) ?_))
 have f:=d.pk []
 obtain rfl:_=bi.mk a.aD a.bY ([]) ([]) ([]) 0:=zj hr rfl
 exact⟨rfl,f⟩
def qB (b:bi):Int:=
 bnd (ib b.bY) λ a=>a
theorem uI (w D) (a:bi) (m) (H:Own w D w []) (hr:qB a=m):
    Calls v8 173 #[.agg (bi.cells a).toArray] w (d9 λ v w'=>v=vI m/\Own w D w' []):=by
 refine cb Tryz.func173 ?_
 refine sr ?_
 refine dV (bi.cells a) 72 H ?_
 intro j p f
 refine Ar rfl (Kz (vP j 1) (Lz (.string ⟨v9 a.bY⟩) f 0 C2 ?_))
 obtain⟨b,c⟩:∃ q,ib a.bY=q:=⟨_,rfl⟩
 obtain⟨r,g,n,h,o⟩:=Ii f
 refine cl L9 (kM _ _ a.bY b g c) ?_
 rintro _ s ⟨rfl,i,d,e⟩
 have k:=h _ _ i
 replace d: ¬ (b=0)\/(1<=a.bY.length/\a.bY.length<=12):=d
 replace e:a.bY.length < 1\/a.bY.length > 12\/b=0:=e
 refine An rfl (rt (rs ?_))
 have l:=k.pk []
 obtain rfl:_=b:=zj hr (ah c)
 exact⟨rfl,l⟩
theorem uJ (w D j) (H:Own w D w []) (c:j=2):
    Calls v8 158 #[vI j] w (d9 λ v w'=>v= .tuple #[.agg #[.bool true, .func (.func 176) #[] #[], .func (.func 177) #[] #[], .func (.func 174) #[] #[], .func (.func 178) #[] #[]], .bool true]/\Own w D w' []):=by
 subst c
 refine cb M0 ?_
 refine sr ?_
 refine dV [.bool false, .nilFunc, .nilFunc, .nilFunc, .nilFunc] 231 H ?_
 intro l n d
 refine Ar rfl (Kz (.agg #[.bool false, .func (.func 172) #[] #[], .func (.func 173) #[] #[], .func (.func 174) #[] #[], .func (.func 175) #[] #[]]) (Kz (.agg #[.bool true, .func (.func 176) #[] #[], .func (.func 177) #[] #[], .func (.func 174) #[] #[], .func (.func 178) #[] #[]]) (Kz (.agg #[.bool true, .func (.func 172) #[] #[], .func (.func 173) #[] #[], .func (.func 174) #[] #[], .func (.func 179) #[] #[]]) (Kz (.agg #[.bool false, .func (.func 180) #[] #[], .func (.func 181) #[] #[], .func (.func 182) #[] #[], .func (.func 183) #[] #[]]) (Kz (.agg #[.bool true, .func (.func 184) #[] #[], .func (.func 185) #[] #[], .func (.func 182) #[] #[], .func (.func 186) #[] #[]]) (Kz (.agg #[.bool false, .nilFunc, .nilFunc, .nilFunc, .nilFunc, .bool false, .func (.func 172) #[] #[], .func (.func 173) #[] #[], .func (.func 174) #[] #[], .func (.func 175) #[] #[], .bool true, .func (.func 176) #[] #[], .func (.func 177) #[] #[], .func (.func 174) #[] #[], .func (.func 178) #[] #[], .bool true, .func (.func 172) #[] #[], .func (.func 173) #[] #[], .func (.func 174) #[] #[], .func (.func 179) #[] #[], .bool false, .func (.func 180) #[] #[], .func (.func 181) #[] #[], .func (.func 182) #[] #[], .func (.func 183) #[] #[], .bool true, .func (.func 184) #[] #[], .func (.func 185) #[] #[], .func (.func 182) #[] #[], .func (.func 186) #[] #[]]) ?_))))))
 refine dV [.bool false, .nilFunc, .nilFunc, .nilFunc, .nilFunc, .bool false, .nilFunc, .nilFunc, .nilFunc, .nilFunc, .bool false, .nilFunc, .nilFunc, .nilFunc, .nilFunc, .bool false, .nilFunc, .nilFunc, .nilFunc, .nilFunc, .bool false, .nilFunc, .nilFunc, .nilFunc, .nilFunc, .bool false, .nilFunc, .nilFunc, .nilFunc, .nilFunc] 244 d ?_
 intro e o f
 refine dS [.bool false, .nilFunc, .nilFunc, .nilFunc, .nilFunc, .bool false, .func (.func 172) #[] #[], .func (.func 173) #[] #[], .func (.func 174) #[] #[], .func (.func 175) #[] #[], .bool true, .func (.func 176) #[] #[], .func (.func 177) #[] #[], .func (.func 174) #[] #[], .func (.func 178) #[] #[], .bool true, .func (.func 172) #[] #[], .func (.func 173) #[] #[], .func (.func 174) #[] #[], .func (.func 179) #[] #[], .bool false, .func (.func 180) #[] #[], .func (.func 181) #[] #[], .func (.func 182) #[] #[], .func (.func 183) #[] #[], .bool true, .func (.func 184) #[] #[], .func (.func 185) #[] #[], .func (.func 182) #[] #[], .func (.func 186) #[] #[]] 0 f M1 ?_
 intro p a
 refine nt (Ic (sr (Mz rfl (Kz (.bool false) (Mz rfl (gw (vI 2) rfl (Iq rfl) (Gz (.bool false) rfl (fw (.bool false) (Ih rfl rfl rfl) (nt (jf (sk (sr (Mz rfl (Kz (vP e 10) (La ([.bool true, .func (.func 176) #[] #[], .func (.func 177) #[] #[], .func (.func 174) #[] #[], .func (.func 178) #[] #[]]) a 0 M2 M3 ?_)))))))))))))))
 have g:=a.pb [0]
 refine dS [.bool true, .func (.func 176) #[] #[], .func (.func 177) #[] #[], .func (.func 174) #[] #[], .func (.func 178) #[] #[]] 0 g M3 ?_
 intro q b
 refine An rfl (rt (Fin.res (kS (vs:= [.agg #[.bool true, .func (.func 176) #[] #[], .func (.func 177) #[] #[], .func (.func 174) #[] #[], .func (.func 178) #[] #[]], .bool true]) rfl (eu.cell rfl (Iy (cs:= [.bool true, .func (.func 176) #[] #[], .func (.func 177) #[] #[], .func (.func 174) #[] #[], .func (.func 178) #[] #[]]) M2 M3 ((b.cls (i:=0) rfl).lit (k:=0) (m:=5) rfl)) (eu.tmp rfl eu.nil)) (Le rfl)) ?_))
 have h:=b.pk []
 exact⟨rfl,h⟩
def vk (a:bi):bi:=
 bi.mk a.aD a.bY a.aT ([]) ([]) 0
theorem zI (w D) (a:bi) (g:bi) (H:Own w D w []) (hr:vk a=g):
    Calls v8 176 #[.agg (bi.cells a).toArray] w (d9 λ v w'=>v= .agg (bi.cells g).toArray/\Own w D w' []):=by
 refine cb Tryz.func176 ?_
 refine sr ?_
 refine dV (bi.cells a) 72 H ?_
 intro c h e
 refine dV [vI 0, .string ⟨v9 ([])⟩, .string ⟨v9 ([])⟩, .string ⟨v9 ([])⟩, .string ⟨v9 ([])⟩,vI 0] 72 e ?_
 intro j l b
 refine ns (Kz (vP c 0) (Lz (vI a.aD) b 1 C4 (Kz (vP c 1) (Lz (.string ⟨v9 a.bY⟩) b 1 C2 (Kz (vP c 2) (Lz (.string ⟨v9 a.aT⟩) b 1 C2 (Kz (.agg #[vI a.aD, .string ⟨v9 a.bY⟩, .string ⟨v9 a.aT⟩, .string ⟨v9 ([])⟩, .string ⟨v9 ([])⟩,vI 0]) ?_)))))))
 refine dS [vI a.aD, .string ⟨v9 a.bY⟩, .string ⟨v9 a.aT⟩, .string ⟨v9 ([])⟩, .string ⟨v9 ([])⟩,vI 0] 0 b M4 ?_
 intro n d
 refine nt (rt (Fin.res (ol rfl rfl (Iy (cs:= [vI a.aD, .string ⟨v9 a.bY⟩, .string ⟨v9 a.aT⟩, .string ⟨v9 ([])⟩, .string ⟨v9 ([])⟩,vI 0]) M5 M4 ((d.cls (i:=0) rfl).lit (k:=0) (m:=6) rfl))) ?_))
 have f:=d.pk []
 obtain rfl:_=bi.mk a.aD a.bY a.aT ([]) ([]) 0:=zj hr rfl
 exact⟨rfl,f⟩
def sM (a:List UInt8):Int:=
 if((a.length:Nat):Int) > 16 then 2 else 0
theorem xM (w D b e) (H:Own w D w []) (hr:sM b=e):
    Calls v8 197 #[.string ⟨v9 b⟩] w (d9 λ v w'=>v=vI e/\Own w D w' []):=by
 refine cb Tryz.func197 ?_
 refine sr (An rfl (Ic (sr (Mz rfl (Kz (vJ b.length) (Kz (.bool (decide (((b.length:Nat):Int) > 16))) (nt ?_)))))))
 by_cases a:((b.length:Nat):Int) > 16
 refine jT (dT a) (sr (An rfl (rt (tR (rs ?_)))))
 have c:=H.pk []
 obtain rfl:_=2:=zj hr (ip a)
 exact⟨rfl,c⟩
 refine jF (dF a) (sk (sr (An rfl (rt (rs ?_)))))
 have d:=H.pk []
 obtain rfl:_=0:=zj hr (iN a)
 exact⟨rfl,d⟩
def tN (c:bi):Int:=
 bnd (ib c.bY) λ a=>if a=0 then bnd (sM c.aT) λ b=>b else a
theorem ym (w D) (b:bi) (y) (H:Own w D w []) (hr:tN b=y):
    Calls v8 177 #[.agg (bi.cells b).toArray] w (d9 λ v w'=>v=vI y/\Own w D w' []):=by
 refine cb Tryz.func177 ?_
 refine sr ?_
 refine dV (bi.cells b) 72 H ?_
 intro j E k
 refine An rfl (Ic (sr (Kz (vP j 1) (Lz (.string ⟨v9 b.bY⟩) k 0 C2 ?_))))
 obtain⟨a,c⟩:∃ q,ib b.bY=q:=⟨_,rfl⟩
 obtain⟨F,l,z,m,A⟩:=Ii k
 refine cl L9 (kM _ _ b.bY a l c) ?_
 rintro _ G ⟨rfl,n,f,g⟩
 have i:=m _ _ n
 replace f: ¬ (a=0)\/(1<=b.bY.length/\b.bY.length<=12):=f
 replace g:b.bY.length < 1\/b.bY.length > 12\/a=0:=g
 refine Ar rfl (Mz rfl (fw (.bool (decide (¬ (a=0)))) (IG (e:= !(decide (a=0))) yk decide_not.symm) (nt ?_)))
 by_cases d:a=0
 refine jF (dF (Lh d)) (sk (sr (Kz (vP j 2) (Lz (.string ⟨v9 b.aT⟩) i 0 C2 ?_))))
 obtain⟨o,h⟩:∃ q,sM b.aT=q:=⟨_,rfl⟩
 obtain⟨I,p,B,r,C⟩:=Ii i
 refine cl Tryz.call197 (xM _ _ b.aT o p h) ?_
 rintro _ J ⟨rfl,s⟩
 have t:=r _ _ s
 refine An rfl (rt (rs ?_))
 have u:=t.pk []
 obtain rfl:_=o:=zj hr (et (ah c) (et (ip d) (ah h)))
 exact⟨rfl,u⟩
 refine jT (dT d) (sr (Mz rfl (An rfl (rt (tR (rs ?_))))))
 have x:=i.pk []
 obtain rfl:_=a:=zj hr (et (ah c) (iN d))
 exact⟨rfl,x⟩
theorem uK (w D j) (H:Own w D w []) (c:j=3):
    Calls v8 158 #[vI j] w (d9 λ v w'=>v= .tuple #[.agg #[.bool true, .func (.func 172) #[] #[], .func (.func 173) #[] #[], .func (.func 174) #[] #[], .func (.func 179) #[] #[]], .bool true]/\Own w D w' []):=by
 subst c
 refine cb M0 ?_
 refine sr ?_
 refine dV [.bool false, .nilFunc, .nilFunc, .nilFunc, .nilFunc] 231 H ?_
 intro l n d
 refine Ar rfl (Kz (.agg #[.bool false, .func (.func 172) #[] #[], .func (.func 173) #[] #[], .func (.func 174) #[] #[], .func (.func 175) #[] #[]]) (Kz (.agg #[.bool true, .func (.func 176) #[] #[], .func (.func 177) #[] #[], .func (.func 174) #[] #[], .func (.func 178) #[] #[]]) (Kz (.agg #[.bool true, .func (.func 172) #[] #[], .func (.func 173) #[] #[], .func (.func 174) #[] #[], .func (.func 179) #[] #[]]) (Kz (.agg #[.bool false, .func (.func 180) #[] #[], .func (.func 181) #[] #[], .func (.func 182) #[] #[], .func (.func 183) #[] #[]]) (Kz (.agg #[.bool true, .func (.func 184) #[] #[], .func (.func 185) #[] #[], .func (.func 182) #[] #[], .func (.func 186) #[] #[]]) (Kz (.agg #[.bool false, .nilFunc, .nilFunc, .nilFunc, .nilFunc, .bool false, .func (.func 172) #[] #[], .func (.func 173) #[] #[], .func (.func 174) #[] #[], .func (.func 175) #[] #[], .bool true, .func (.func 176) #[] #[], .func (.func 177) #[] #[], .func (.func 174) #[] #[], .func (.func 178) #[] #[], .bool true, .func (.func 172) #[] #[], .func (.func 173) #[] #[], .func (.func 174) #[] #[], .func (.func 179) #[] #[], .bool false, .func (.func 180) #[] #[], .func (.func 181) #[] #[], .func (.func 182) #[] #[], .func (.func 183) #[] #[], .bool true, .func (.func 184) #[] #[], .func (.func 185) #[] #[], .func (.func 182) #[] #[], .func (.func 186) #[] #[]]) ?_))))))
 refine dV [.bool false, .nilFunc, .nilFunc, .nilFunc, .nilFunc, .bool false, .nilFunc, .nilFunc, .nilFunc, .nilFunc, .bool false, .nilFunc, .nilFunc, .nilFunc, .nilFunc, .bool false, .nilFunc, .nilFunc, .nilFunc, .nilFunc, .bool false, .nilFunc, .nilFunc, .nilFunc, .nilFunc, .bool false, .nilFunc, .nilFunc, .nilFunc, .nilFunc] 244 d ?_
 intro e o f
 refine dS [.bool false, .nilFunc, .nilFunc, .nilFunc, .nilFunc, .bool false, .func (.func 172) #[] #[], .func (.func 173) #[] #[], .func (.func 174) #[] #[], .func (.func 175) #[] #[], .bool true, .func (.func 176) #[] #[], .func (.func 177) #[] #[], .func (.func 174) #[] #[], .func (.func 178) #[] #[], .bool true, .func (.func 172) #[] #[], .func (.func 173) #[] #[], .func (.func 174) #[] #[], .func (.func 179) #[] #[], .bool false, .func (.func 180) #[] #[], .func (.func 181) #[] #[], .func (.func 182) #[] #[], .func (.func 183) #[] #[], .bool true, .func (.func 184) #[] #[], .func (.func 185) #[] #[], .func (.func 182) #[] #[], .func (.func 186) #[] #[]] 0 f M1 ?_
 intro p a
 refine nt (Ic (sr (Mz rfl (Kz (.bool false) (Mz rfl (gw (vI 3) rfl (Iq rfl) (Gz (.bool false) rfl (fw (.bool false) (Ih rfl rfl rfl) (nt (jf (sk (sr (Mz rfl (Kz (vP e 15) (La ([.bool true, .func (.func 172) #[] #[], .func (.func 173) #[] #[], .func (.func 174) #[] #[], .func (.func 179) #[] #[]]) a 0 M2 M3 ?_)))))))))))))))
 have g:=a.pb [0]
 refine dS [.bool true, .func (.func 172) #[] #[], .func (.func 173) #[] #[], .func (.func 174) #[] #[], .func (.func 179) #[] #[]] 0 g M3 ?_
 intro q b
 refine An rfl (rt (Fin.res (kS (vs:= [.agg #[.bool true, .func (.func 172) #[] #[], .func (.func 173) #[] #[], .func (.func 174) #[] #[], .func (.func 179) #[] #[]], .bool true]) rfl (eu.cell rfl (Iy (cs:= [.bool true, .func (.func 172) #[] #[], .func (.func 173) #[] #[], .func (.func 174) #[] #[], .func (.func 179) #[] #[]]) M2 M3 ((b.cls (i:=0) rfl).lit (k:=0) (m:=5) rfl)) (eu.tmp rfl eu.nil)) (Le rfl)) ?_))
 have h:=b.pk []
 exact⟨rfl,h⟩
theorem uL (w D j) (H:Own w D w []) (c:j=4):
    Calls v8 158 #[vI j] w (d9 λ v w'=>v= .tuple #[.agg #[.bool false, .func (.func 180) #[] #[], .func (.func 181) #[] #[], .func (.func 182) #[] #[], .func (.func 183) #[] #[]], .bool true]/\Own w D w' []):=by
 subst c
 refine cb M0 ?_
 refine sr ?_
 refine dV [.bool false, .nilFunc, .nilFunc, .nilFunc, .nilFunc] 231 H ?_
 intro l n d
 refine Ar rfl (Kz (.agg #[.bool false, .func (.func 172) #[] #[], .func (.func 173) #[] #[], .func (.func 174) #[] #[], .func (.func 175) #[] #[]]) (Kz (.agg #[.bool true, .func (.func 176) #[] #[], .func (.func 177) #[] #[], .func (.func 174) #[] #[], .func (.func 178) #[] #[]]) (Kz (.agg #[.bool true, .func (.func 172) #[] #[], .func (.func 173) #[] #[], .func (.func 174) #[] #[], .func (.func 179) #[] #[]]) (Kz (.agg #[.bool false, .func (.func 180) #[] #[], .func (.func 181) #[] #[], .func (.func 182) #[] #[], .func (.func 183) #[] #[]]) (Kz (.agg #[.bool true, .func (.func 184) #[] #[], .func (.func 185) #[] #[], .func (.func 182) #[] #[], .func (.func 186) #[] #[]]) (Kz (.agg #[.bool false, .nilFunc, .nilFunc, .nilFunc, .nilFunc, .bool false, .func (.func 172) #[] #[], .func (.func 173) #[] #[], .func (.func 174) #[] #[], .func (.func 175) #[] #[], .bool true, .func (.func 176) #[] #[], .func (.func 177) #[] #[], .func (.func 174) #[] #[], .func (.func 178) #[] #[], .bool true, .func (.func 172) #[] #[], .func (.func 173) #[] #[], .func (.func 174) #[] #[], .func (.func 179) #[] #[], .bool false, .func (.func 180) #[] #[], .func (.func 181) #[] #[], .func (.func 182) #[] #[], .func (.func 183) #[] #[], .bool true, .func (.func 184) #[] #[], .func (.func 185) #[] #[], .func (.func 182) #[] #[], .func (.func 186) #[] #[]]) ?_))))))
 refine dV [.bool false, .nilFunc, .nilFunc, .nilFunc, .nilFunc, .bool false, .nilFunc, .nilFunc, .nilFunc, .nilFunc, .bool false, .nilFunc, .nilFunc, .nilFunc, .nilFunc, .bool false, .nilFunc, .nilFunc, .nilFunc, .nilFunc, .bool false, .nilFunc, .nilFunc, .nilFunc, .nilFunc, .bool false, .nilFunc, .nilFunc, .nilFunc, .nilFunc] 244 d ?_
 intro e o f
 refine dS [.bool false, .nilFunc, .nilFunc, .nilFunc, .nilFunc, .bool false, .func (.func 172) #[] #[], .func (.func 173) #[] #[], .func (.func 174) #[] #[], .func (.func 175) #[] #[], .bool true, .func (.func 176) #[] #[], .func (.func 177) #[] #[], .func (.func 174) #[] #[], .func (.func 178) #[] #[], .bool true, .func (.func 172) #[] #[], .func (.func 173) #[] #[], .func (.func 174) #[] #[], .func (.func 179) #[] #[], .bool false, .func (.func 180) #[] #[], .func (.func 181) #[] #[], .func (.func 182) #[] #[], .func (.func 183) #[] #[], .bool true, .func (.func 184) #[] #[], .func (.func 185) #[] #[], .func (.func 182) #[] #[], .func (.func 186) #[] #[]] 0 f M1 ?_
 intro p a
 refine nt (Ic (sr (Mz rfl (Kz (.bool false) (Mz rfl (gw (vI 4) rfl (Iq rfl) (Gz (.bool false) rfl (fw (.bool false) (Ih rfl rfl rfl) (nt (jf (sk (sr (Mz rfl (Kz (vP e 20) (La ([.bool false, .func (.func 180) #[] #[], .func (.func 181) #[] #[], .func (.func 182) #[] #[], .func (.func 183) #[] #[]]) a 0 M2 M3 ?_)))))))))))))))
 have g:=a.pb [0]
 refine dS [.bool false, .func (.func 180) #[] #[], .func (.func 181) #[] #[], .func (.func 182) #[] #[], .func (.func 183) #[] #[]] 0 g M3 ?_
 intro q b
 refine An rfl (rt (Fin.res (kS (vs:= [.agg #[.bool false, .func (.func 180) #[] #[], .func (.func 181) #[] #[], .func (.func 182) #[] #[], .func (.func 183) #[] #[]], .bool true]) rfl (eu.cell rfl (Iy (cs:= [.bool false, .func (.func 180) #[] #[], .func (.func 181) #[] #[], .func (.func 182) #[] #[], .func (.func 183) #[] #[]]) M2 M3 ((b.cls (i:=0) rfl).lit (k:=0) (m:=5) rfl)) (eu.tmp rfl eu.nil)) (Le rfl)) ?_))
 have h:=b.pk []
 exact⟨rfl,h⟩
def vo (a:bi):bi:=
 bi.mk a.aD ([]) ([]) a.bF a.bT a.bS
theorem zJ (w D) (a:bi) (g:bi) (H:Own w D w []) (hr:vo a=g):
    Calls v8 180 #[.agg (bi.cells a).toArray] w (d9 λ v w'=>v= .agg (bi.cells g).toArray/\Own w D w' []):=by
 refine cb Tryz.func180 ?_
 refine sr ?_
 refine dV (bi.cells a) 72 H ?_
 intro c h e
 refine dV [vI 0, .string ⟨v9 ([])⟩, .string ⟨v9 ([])⟩, .string ⟨v9 ([])⟩, .string ⟨v9 ([])⟩,vI 0] 72 e ?_
 intro j l b
 refine ns (Kz (vP c 0) (Lz (vI a.aD) b 1 C4 (Kz (vP c 3) (Lz (.string ⟨v9 a.bF⟩) b 1 C2 (Kz (vP c 4) (Lz (.string ⟨v9 a.bT⟩) b 1 C2 (Kz (vP c 5) (Lz (vI a.bS) b 1 C4 (Kz (.agg #[vI a.aD, .string ⟨v9 ([])⟩, .string ⟨v9 ([])⟩, .string ⟨v9 a.bF⟩, .string ⟨v9 a.bT⟩,vI a.bS]) ?_)))))))))
 refine dS [vI a.aD, .string ⟨v9 ([])⟩, .string ⟨v9 ([])⟩, .string ⟨v9 a.bF⟩, .string ⟨v9 a.bT⟩,vI a.bS] 0 b M4 ?_
 intro n d
 refine nt (rt (Fin.res (ol rfl rfl (Iy (cs:= [vI a.aD, .string ⟨v9 ([])⟩, .string ⟨v9 ([])⟩, .string ⟨v9 a.bF⟩, .string ⟨v9 a.bT⟩,vI a.bS]) M5 M4 ((d.cls (i:=0) rfl).lit (k:=0) (m:=6) rfl))) ?_))
 have f:=d.pk []
 obtain rfl:_=bi.mk a.aD ([]) ([]) a.bF a.bT a.bS:=zj hr rfl
 exact⟨rfl,f⟩
def tO (a:bi):bC:=
 bC.mk a.bF a.bT
theorem yn (w D) (a:bi) (g:bC) (H:Own w D w []) (hr:tO a=g):
    Calls v8 182 #[.agg (bi.cells a).toArray] w (d9 λ v w'=>v= .agg (bC.cells g).toArray/\Own w D w' []):=by
 refine cb Tryz.func182 ?_
 refine sr ?_
 refine dV (bi.cells a) 72 H ?_
 intro c h e
 refine dV [.string ⟨v9 ([])⟩, .string ⟨v9 ([])⟩] 38 e ?_
 intro j l b
 refine ns (Kz (vP c 3) (Lz (.string ⟨v9 a.bF⟩) b 1 C2 (Kz (vP c 4) (Lz (.string ⟨v9 a.bT⟩) b 1 C2 (Kz (.agg #[.string ⟨v9 a.bF⟩, .string ⟨v9 a.bT⟩]) ?_)))))
 refine dS [.string ⟨v9 a.bF⟩, .string ⟨v9 a.bT⟩] 0 b M6 ?_
 intro n d
 refine nt (rt (Fin.res (ol rfl rfl (Iy (cs:= [.string ⟨v9 a.bF⟩, .string ⟨v9 a.bT⟩]) M7 M6 ((d.cls (i:=0) rfl).lit (k:=0) (m:=2) rfl))) ?_))
 have f:=d.pk []
 obtain rfl:_=bC.mk a.bF a.bT:=zj hr rfl
 exact⟨rfl,f⟩
def kG (a:bC):Int:=
 if a.bF≠([]) then bnd (ib a.bF) λ b=>if b=0 then if a.bT≠([]) then bnd (ib a.bT) λ c=>if c=0 then if a.bT<=a.bF then 21 else 0 else 21 else 0 else 21 else if a.bT≠([]) then bnd (ib a.bT) λ d=>if d=0 then if a.bT<=a.bF then 21 else 0 else 21 else 0
theorem qG (w D) (a:bC) (Z) (H:Own w D w []) (hr:kG a=Z):
    Calls v8 116 #[.agg (bC.cells a).toArray] w (d9 λ v w'=>v=vI Z/\Own w D w' []):=by
 refine cb Tryz.func116 ?_
 refine sr ?_
 refine dV (bC.cells a) 38 H ?_
 intro h ak k
 refine An rfl (Ic (sr (Kz (vP h 0) (Lz (.string ⟨v9 a.bF⟩) k 0 C2 (fw (.bool (decide (a.bF≠([])))) (Js rfl rfl) (Mz rfl ?_))))))
 by_cases d:a.bF≠([])
 refine Gz (vP h 0) (dT d) (Gl (.string ⟨v9 a.bF⟩) (dT d) k 0 C2 ?_)
 obtain⟨l,j⟩:∃ q,ib a.bF=q:=⟨_,rfl⟩
 obtain⟨au,G,aa,I,ae⟩:=Ii k
 refine vR (dT d) L9 (kM _ _ a.bF l G j) ?_
 rintro _ av ⟨rfl,J,z,A⟩
 have s:=I _ _ J
 replace z: ¬ (l=0)\/(1<=a.bF.length/\a.bF.length<=12):=z
 replace A:a.bF.length < 1\/a.bF.length > 12\/l=0:=A
 refine gw (.bool (decide (¬ (l=0)))) (dT d) (IG (e:= !(decide (l=0))) yk decide_not.symm) (fw (.bool (decide (¬ (l=0)))) (Iw rfl (dT d) rfl) (nt ?_))
 by_cases m:l=0
 refine jF (dF (Lh m)) (sk (Ic (sr (Kz (vP h 1) (Lz (.string ⟨v9 a.bT⟩) s 0 C2 (fw (.bool (decide (a.bT≠([])))) (Js rfl rfl) (Mz rfl ?_)))))))
 by_cases b:a.bT≠([])
 refine Gz (vP h 1) (dT b) (Gl (.string ⟨v9 a.bT⟩) (dT b) s 0 C2 ?_)
 obtain⟨n,p⟩:∃ q,ib a.bT=q:=⟨_,rfl⟩
 obtain⟨ax,K,af,L,ag⟩:=Ii s
 refine vR (dT b) L9 (kM _ _ a.bT n K p) ?_
 rintro _ ay ⟨rfl,M,B,C⟩
 have t:=L _ _ M
 replace B: ¬ (n=0)\/(1<=a.bT.length/\a.bT.length<=12):=B
 replace C:a.bT.length < 1\/a.bT.length > 12\/n=0:=C
 refine gw (.bool (decide (¬ (n=0)))) (dT b) (IG (e:= !(decide (n=0))) yk decide_not.symm) (gw (.bool (decide (¬ (n=0)))) (dT b) (Iq rfl) ?_)
 by_cases f:n=0
 refine gw (vP h 1) (dF (Lh f)) yk (gw (.string ⟨v9 a.bT⟩) (dF (Lh f)) (Io rfl (bZ.one C2 (jR.of (t.cls (i:=0) rfl) rfl))) (gw (vP h 0) (dF (Lh f)) yk (gw (.string ⟨v9 a.bF⟩) (dF (Lh f)) (Io rfl (bZ.one C2 (jR.of (t.cls (i:=0) rfl) rfl))) (gw (.bool (decide (a.bT<=a.bF))) (dF (Lh f)) (IG (e:=Op.bytesLess a.bT a.bF || decide (a.bT=a.bF)) (JA rfl rfl) (zN _ _)) (gw (.bool (decide (a.bT<=a.bF))) (dT b) (Ih rfl (dF (Lh f)) rfl) (fw (.bool (decide (a.bT<=a.bF))) (Iw rfl (dT b) rfl) (nt ?_)))))))
 by_cases x:a.bT<=a.bF
 refine jT (dT x) (sr (An rfl (rt (tR (rs ?_)))))
 have Q:=t.pk []
 obtain rfl:_=21:=zj hr (et (ip d) (et (ah j) (et (ip m) (et (ip b) (et (ah p) (et (ip f) (ip x)))))))
 exact⟨rfl,Q⟩
 refine jF (dF x) (sk (sr (An rfl (rt (rs ?_)))))
 have R:=t.pk []
 obtain rfl:_=0:=zj hr (et (ip d) (et (ah j) (et (ip m) (et (ip b) (et (ah p) (et (ip f) (iN x)))))))
 exact⟨rfl,R⟩
 refine Sz (dT f) (Sz (dT f) (Sz (dT f) (Sz (dT f) (Sz (dT f) (gw (.bool true) (dT b) (Iw rfl (dT f) rfl) (fw (.bool true) (Iw rfl (dT b) rfl) (nt (jt (sr (An rfl (rt (tR (rs ?_)))))))))))))
 have S:=t.pk []
 obtain rfl:_=21:=zj hr (et (ip d) (et (ah j) (et (ip m) (et (ip b) (et (ah p) (iN f))))))
 exact⟨rfl,S⟩
 refine Sz (dF b) (Sz (dF b) (Sz (dF b) (Sz (dF b) (Sz (dF b) (IR rfl rfl rfl (IR rfl rfl rfl (IR rfl rfl rfl (IR rfl rfl rfl (IR rfl rfl rfl (Sz (dF b) (fw (.bool false) (Ih rfl (dF b) rfl) (nt (jf (sk (sr (An rfl (rt (rs ?_))))))))))))))))))
 have T:=s.pk []
 obtain rfl:_=0:=zj hr (et (ip d) (et (ah j) (et (ip m) (iN b))))
 exact⟨rfl,T⟩
 refine jT (dT m) (sr (An rfl (rt (tR (rs ?_)))))
 have U:=s.pk []
 obtain rfl:_=21:=zj hr (et (ip d) (et (ah j) (iN m)))
 exact⟨rfl,U⟩
 refine Sz (dF d) (Sz (dF d) (Sz (dF d) (Sz (dF d) (fw (.bool false) (Ih rfl (dF d) rfl) (nt (jf (sk (Ic (sr (Kz (vP h 1) (Lz (.string ⟨v9 a.bT⟩) k 0 C2 (fw (.bool (decide (a.bT≠([])))) (Js rfl rfl) (Mz rfl ?_)))))))))))))
 by_cases c:a.bT≠([])
 refine Gz (vP h 1) (dT c) (Gl (.string ⟨v9 a.bT⟩) (dT c) k 0 C2 ?_)
 obtain⟨o,r⟩:∃ q,ib a.bT=q:=⟨_,rfl⟩
 obtain⟨az,N,ai,O,aj⟩:=Ii k
 refine vR (dT c) L9 (kM _ _ a.bT o N r) ?_
 rintro _ aA ⟨rfl,P,E,F⟩
 have u:=O _ _ P
 replace E: ¬ (o=0)\/(1<=a.bT.length/\a.bT.length<=12):=E
 replace F:a.bT.length < 1\/a.bT.length > 12\/o=0:=F
 refine gw (.bool (decide (¬ (o=0)))) (dT c) (IG (e:= !(decide (o=0))) yk decide_not.symm) (gw (.bool (decide (¬ (o=0)))) (dT c) (Iq rfl) ?_)
 by_cases g:o=0
 refine gw (vP h 1) (dF (Lh g)) yk (gw (.string ⟨v9 a.bT⟩) (dF (Lh g)) (Io rfl (bZ.one C2 (jR.of (u.cls (i:=0) rfl) rfl))) (gw (vP h 0) (dF (Lh g)) yk (gw (.string ⟨v9 a.bF⟩) (dF (Lh g)) (Io rfl (bZ.one C2 (jR.of (u.cls (i:=0) rfl) rfl))) (gw (.bool (decide (a.bT<=a.bF))) (dF (Lh g)) (IG (e:=Op.bytesLess a.bT a.bF || decide (a.bT=a.bF)) (JA rfl rfl) (zN _ _)) (gw (.bool (decide (a.bT<=a.bF))) (dT c) (Ih rfl (dF (Lh g)) rfl) (fw (.bool (decide (a.bT<=a.bF))) (Iw rfl (dT c) rfl) (nt ?_)))))))
 by_cases y:a.bT<=a.bF
 refine jT (dT y) (sr (An rfl (rt (tR (rs ?_)))))
 have V:=u.pk []
 obtain rfl:_=21:=zj hr (et (iN d) (et (ip c) (et (ah r) (et (ip g) (ip y)))))
 exact⟨rfl,V⟩
 refine jF (dF y) (sk (sr (An rfl (rt (rs ?_)))))
 have W:=u.pk []
 obtain rfl:_=0:=zj hr (et (iN d) (et (ip c) (et (ah r) (et (ip g) (iN y)))))
 exact⟨rfl,W⟩
 refine Sz (dT g) (Sz (dT g) (Sz (dT g) (Sz (dT g) (Sz (dT g) (gw (.bool true) (dT c) (Iw rfl (dT g) rfl) (fw (.bool true) (Iw rfl (dT c) rfl) (nt (jt (sr (An rfl (rt (tR (rs ?_)))))))))))))
 have X:=u.pk []
 obtain rfl:_=21:=zj hr (et (iN d) (et (ip c) (et (ah r) (iN g))))
 exact⟨rfl,X⟩
 refine Sz (dF c) (Sz (dF c) (Sz (dF c) (Sz (dF c) (Sz (dF c) (IR rfl rfl rfl (IR rfl rfl rfl (IR rfl rfl rfl (IR rfl rfl rfl (IR rfl rfl rfl (Sz (dF c) (fw (.bool false) (Ih rfl (dF c) rfl) (nt (jf (sk (sr (An rfl (rt (rs ?_))))))))))))))))))
 have Y:=k.pk []
 obtain rfl:_=0:=zj hr (et (iN d) (iN c))
 exact⟨rfl,Y⟩
def mJ (c:bi):Int:=
 bnd (tO c) λ a=>bnd (kG a) λ b=>b
theorem tQ (w D) (d:bi) (p) (H:Own w D w []) (hr:mJ d=p):
    Calls v8 185 #[.agg (bi.cells d).toArray] w (d9 λ v w'=>v=vI p/\Own w D w' []):=by
 refine cb Tryz.func185 ?_
 refine sr ?_
 refine dV (bi.cells d) 72 H ?_
 intro x y e
 refine Ar rfl (La (bi.cells d) e 0 M5 M4 ?_)
 obtain⟨c,a⟩:∃ q,tO d=q:=⟨_,rfl⟩
 obtain⟨z,f,r,g,s⟩:=Ii e
 refine cl Tryz.call182 (yn _ _ d c f a) ?_
 rintro _ A ⟨rfl,h⟩
 have m:=g _ _ h
 obtain⟨i,b⟩:∃ q,kG c=q:=⟨_,rfl⟩
 obtain⟨B,j,t,k,u⟩:=Ii m
 refine cl Tryz.call116 (qG _ _ c i j b) ?_
 rintro _ C ⟨rfl,l⟩
 have n:=k _ _ l
 refine An rfl (rt (rs ?_))
 have o:=n.pk []
 obtain rfl:_=i:=zj hr (et (ah a) (ah b))
 exact⟨rfl,o⟩
def pW (b:bi):Int:=
 bnd (mJ b) λ a=>if a=0 then if b.bS < 1 then 1 else if b.bS > 4 then 1 else 0 else a
theorem yu (w D) (c:bi) (s) (H:Own w D w []) (hr:pW c=s):
    Calls v8 181 #[.agg (bi.cells c).toArray] w (d9 λ v w'=>v=vI s/\Own w D w' []):=by
 refine cb Tryz.func181 ?_
 refine sr ?_
 refine dV (bi.cells c) 72 H ?_
 intro i x j
 refine An rfl (Ic (sr (La (bi.cells c) j 0 M5 M4 ?_)))
 obtain⟨g,b⟩:∃ q,mJ c=q:=⟨_,rfl⟩
 obtain⟨y,k,t,l,u⟩:=Ii j
 refine cl Tryz.call185 (tQ _ _ c g k b) ?_
 rintro _ z ⟨rfl,m⟩
 have d:=l _ _ m
 refine Ar rfl (Mz rfl (fw (.bool (decide (¬ (g=0)))) (IG (e:= !(decide (g=0))) yk decide_not.symm) (nt ?_)))
 by_cases f:g=0
 refine jF (dF (Lh f)) (sk (Ic (sr (Kz (vP i 5) (Lz (vI c.bS) d 0 C4 (Kz (.bool (decide (c.bS < 1))) (Mz rfl ?_)))))))
 by_cases a:c.bS < 1
 refine Sz (dT a) (Sz (dT a) (Sz (dT a) (fw (.bool true) (Iw rfl (dT a) rfl) (nt (jt (sr (An rfl (rt (tR (rs ?_))))))))))
 have n:=d.pk []
 obtain rfl:_=1:=zj hr (et (ah b) (et (ip f) (ip a)))
 exact⟨rfl,n⟩
 refine Gz (vP i 5) (dF a) (Gl (vI c.bS) (dF a) d 0 C4 (Gz (.bool (decide (c.bS > 4))) (dF a) (fw (.bool (decide (c.bS > 4))) (Ih rfl (dF a) rfl) (nt ?_))))
 by_cases h:c.bS > 4
 refine jT (dT h) (sr (An rfl (rt (tR (rs ?_)))))
 have o:=d.pk []
 obtain rfl:_=1:=zj hr (et (ah b) (et (ip f) (et (iN a) (ip h))))
 exact⟨rfl,o⟩
 refine jF (dF h) (sk (sr (An rfl (rt (rs ?_)))))
 have p:=d.pk []
 obtain rfl:_=0:=zj hr (et (ah b) (et (ip f) (et (iN a) (iN h))))
 exact⟨rfl,p⟩
 refine jT (dT f) (sr (Mz rfl (An rfl (rt (tR (rs ?_))))))
 have r:=d.pk []
 obtain rfl:_=g:=zj hr (et (ah b) (iN f))
 exact⟨rfl,r⟩
theorem uM (w D j) (H:Own w D w []) (c:j=5):
    Calls v8 158 #[vI j] w (d9 λ v w'=>v= .tuple #[.agg #[.bool true, .func (.func 184) #[] #[], .func (.func 185) #[] #[], .func (.func 182) #[] #[], .func (.func 186) #[] #[]], .bool true]/\Own w D w' []):=by
 subst c
 refine cb M0 ?_
 refine sr ?_
 refine dV [.bool false, .nilFunc, .nilFunc, .nilFunc, .nilFunc] 231 H ?_
 intro l n d
 refine Ar rfl (Kz (.agg #[.bool false, .func (.func 172) #[] #[], .func (.func 173) #[] #[], .func (.func 174) #[] #[], .func (.func 175) #[] #[]]) (Kz (.agg #[.bool true, .func (.func 176) #[] #[], .func (.func 177) #[] #[], .func (.func 174) #[] #[], .func (.func 178) #[] #[]]) (Kz (.agg #[.bool true, .func (.func 172) #[] #[], .func (.func 173) #[] #[], .func (.func 174) #[] #[], .func (.func 179) #[] #[]]) (Kz (.agg #[.bool false, .func (.func 180) #[] #[], .func (.func 181) #[] #[], .func (.func 182) #[] #[], .func (.func 183) #[] #[]]) (Kz (.agg #[.bool true, .func (.func 184) #[] #[], .func (.func 185) #[] #[], .func (.func 182) #[] #[], .func (.func 186) #[] #[]]) (Kz (.agg #[.bool false, .nilFunc, .nilFunc, .nilFunc, .nilFunc, .bool false, .func (.func 172) #[] #[], .func (.func 173) #[] #[], .func (.func 174) #[] #[], .func (.func 175) #[] #[], .bool true, .func (.func 176) #[] #[], .func (.func 177) #[] #[], .func (.func 174) #[] #[], .func (.func 178) #[] #[], .bool true, .func (.func 172) #[] #[], .func (.func 173) #[] #[], .func (.func 174) #[] #[], .func (.func 179) #[] #[], .bool false, .func (.func 180) #[] #[], .func (.func 181) #[] #[], .func (.func 182) #[] #[], .func (.func 183) #[] #[], .bool true, .func (.func 184) #[] #[], .func (.func 185) #[] #[], .func (.func 182) #[] #[], .func (.func 186) #[] #[]]) ?_))))))
 refine dV [.bool false, .nilFunc, .nilFunc, .nilFunc, .nilFunc, .bool false, .nilFunc, .nilFunc, .nilFunc, .nilFunc, .bool false, .nilFunc, .nilFunc, .nilFunc, .nilFunc, .bool false, .nilFunc, .nilFunc, .nilFunc, .nilFunc, .bool false, .nilFunc, .nilFunc, .nilFunc, .nilFunc, .bool false, .nilFunc, .nilFunc, .nilFunc, .nilFunc] 244 d ?_
 intro e o f
 refine dS [.bool false, .nilFunc, .nilFunc, .nilFunc, .nilFunc, .bool false, .func (.func 172) #[] #[], .func (.func 173) #[] #[], .func (.func 174) #[] #[], .func (.func 175) #[] #[], .bool true, .func (.func 176) #[] #[], .func (.func 177) #[] #[], .func (.func 174) #[] #[], .func (.func 178) #[] #[], .bool true, .func (.func 172) #[] #[], .func (.func 173) #[] #[], .func (.func 174) #[] #[], .func (.func 179) #[] #[], .bool false, .func (.func 180) #[] #[], .func (.func 181) #[] #[], .func (.func 182) #[] #[], .func (.func 183) #[] #[], .bool true, .func (.func 184) #[] #[], .func (.func 185) #[] #[], .func (.func 182) #[] #[], .func (.func 186) #[] #[]] 0 f M1 ?_
 intro p a
 refine nt (Ic (sr (Mz rfl (Kz (.bool false) (Mz rfl (gw (vI 5) rfl (Iq rfl) (Gz (.bool false) rfl (fw (.bool false) (Ih rfl rfl rfl) (nt (jf (sk (sr (Mz rfl (Kz (vP e 25) (La ([.bool true, .func (.func 184) #[] #[], .func (.func 185) #[] #[], .func (.func 182) #[] #[], .func (.func 186) #[] #[]]) a 0 M2 M3 ?_)))))))))))))))
 have g:=a.pb [0]
 refine dS [.bool true, .func (.func 184) #[] #[], .func (.func 185) #[] #[], .func (.func 182) #[] #[], .func (.func 186) #[] #[]] 0 g M3 ?_
 intro q b
 refine An rfl (rt (Fin.res (kS (vs:= [.agg #[.bool true, .func (.func 184) #[] #[], .func (.func 185) #[] #[], .func (.func 182) #[] #[], .func (.func 186) #[] #[]], .bool true]) rfl (eu.cell rfl (Iy (cs:= [.bool true, .func (.func 184) #[] #[], .func (.func 185) #[] #[], .func (.func 182) #[] #[], .func (.func 186) #[] #[]]) M2 M3 ((b.cls (i:=0) rfl).lit (k:=0) (m:=5) rfl)) (eu.tmp rfl eu.nil)) (Le rfl)) ?_))
 have h:=b.pk []
 exact⟨rfl,h⟩
def uw (a:bi):bi:=
 bi.mk a.aD ([]) ([]) a.bF a.bT 0
theorem yU (w D) (a:bi) (g:bi) (H:Own w D w []) (hr:uw a=g):
    Calls v8 184 #[.agg (bi.cells a).toArray] w (d9 λ v w'=>v= .agg (bi.cells g).toArray/\Own w D w' []):=by
 refine cb Tryz.func184 ?_
 refine sr ?_
 refine dV (bi.cells a) 72 H ?_
 intro c h e
 refine dV [vI 0, .string ⟨v9 ([])⟩, .string ⟨v9 ([])⟩, .string ⟨v9 ([])⟩, .string ⟨v9 ([])⟩,vI 0] 72 e ?_
 intro j l b
 refine ns (Kz (vP c 0) (Lz (vI a.aD) b 1 C4 (Kz (vP c 3) (Lz (.string ⟨v9 a.bF⟩) b 1 C2 (Kz (vP c 4) (Lz (.string ⟨v9 a.bT⟩) b 1 C2 (Kz (.agg #[vI a.aD, .string ⟨v9 ([])⟩, .string ⟨v9 ([])⟩, .string ⟨v9 a.bF⟩, .string ⟨v9 a.bT⟩,vI 0]) ?_)))))))
 refine dS [vI a.aD, .string ⟨v9 ([])⟩, .string ⟨v9 ([])⟩, .string ⟨v9 a.bF⟩, .string ⟨v9 a.bT⟩,vI 0] 0 b M4 ?_
 intro n d
 refine nt (rt (Fin.res (ol rfl rfl (Iy (cs:= [vI a.aD, .string ⟨v9 ([])⟩, .string ⟨v9 ([])⟩, .string ⟨v9 a.bF⟩, .string ⟨v9 a.bT⟩,vI 0]) M5 M4 ((d.cls (i:=0) rfl).lit (k:=0) (m:=6) rfl))) ?_))
 have f:=d.pk []
 obtain rfl:_=bi.mk a.aD ([]) ([]) a.bF a.bT 0:=zj hr rfl
 exact⟨rfl,f⟩
theorem uo (w D b) (H:Own w D w []) (p: ¬ (b=1)) (q: ¬ (b=2)) (r: ¬ (b=3)) (s: ¬ (b=4)) (t: ¬ (b=5)):
    Calls v8 158 #[vI b] w (d9 λ v w'=>v= .tuple #[.agg #[.bool false, .nilFunc, .nilFunc, .nilFunc, .nilFunc], .bool false]/\Own w D w' []):=by
 refine cb M0 ?_
 refine sr ?_
 refine dV [.bool false, .nilFunc, .nilFunc, .nilFunc, .nilFunc] 231 H ?_
 intro u x g
 refine Ar rfl (Kz (.agg #[.bool false, .func (.func 172) #[] #[], .func (.func 173) #[] #[], .func (.func 174) #[] #[], .func (.func 175) #[] #[]]) (Kz (.agg #[.bool true, .func (.func 176) #[] #[], .func (.func 177) #[] #[], .func (.func 174) #[] #[], .func (.func 178) #[] #[]]) (Kz (.agg #[.bool true, .func (.func 172) #[] #[], .func (.func 173) #[] #[], .func (.func 174) #[] #[], .func (.func 179) #[] #[]]) (Kz (.agg #[.bool false, .func (.func 180) #[] #[], .func (.func 181) #[] #[], .func (.func 182) #[] #[], .func (.func 183) #[] #[]]) (Kz (.agg #[.bool true, .func (.func 184) #[] #[], .func (.func 185) #[] #[], .func (.func 182) #[] #[], .func (.func 186) #[] #[]]) (Kz (.agg #[.bool false, .nilFunc, .nilFunc, .nilFunc, .nilFunc, .bool false, .func (.func 172) #[] #[], .func (.func 173) #[] #[], .func (.func 174) #[] #[], .func (.func 175) #[] #[], .bool true, .func (.func 176) #[] #[], .func (.func 177) #[] #[], .func (.func 174) #[] #[], .func (.func 178) #[] #[], .bool true, .func (.func 172) #[] #[], .func (.func 173) #[] #[], .func (.func 174) #[] #[], .func (.func 179) #[] #[], .bool false, .func (.func 180) #[] #[], .func (.func 181) #[] #[], .func (.func 182) #[] #[], .func (.func 183) #[] #[], .bool true, .func (.func 184) #[] #[], .func (.func 185) #[] #[], .func (.func 182) #[] #[], .func (.func 186) #[] #[]]) ?_))))))
 refine dV [.bool false, .nilFunc, .nilFunc, .nilFunc, .nilFunc, .bool false, .nilFunc, .nilFunc, .nilFunc, .nilFunc, .bool false, .nilFunc, .nilFunc, .nilFunc, .nilFunc, .bool false, .nilFunc, .nilFunc, .nilFunc, .nilFunc, .bool false, .nilFunc, .nilFunc, .nilFunc, .nilFunc, .bool false, .nilFunc, .nilFunc, .nilFunc, .nilFunc] 244 g ?_
 intro y z h
 refine dS [.bool false, .nilFunc, .nilFunc, .nilFunc, .nilFunc, .bool false, .func (.func 172) #[] #[], .func (.func 173) #[] #[], .func (.func 174) #[] #[], .func (.func 175) #[] #[], .bool true, .func (.func 176) #[] #[], .func (.func 177) #[] #[], .func (.func 174) #[] #[], .func (.func 178) #[] #[], .bool true, .func (.func 172) #[] #[], .func (.func 173) #[] #[], .func (.func 174) #[] #[], .func (.func 179) #[] #[], .bool false, .func (.func 180) #[] #[], .func (.func 181) #[] #[], .func (.func 182) #[] #[], .func (.func 183) #[] #[], .bool true, .func (.func 184) #[] #[], .func (.func 185) #[] #[], .func (.func 182) #[] #[], .func (.func 186) #[] #[]] 0 h M1 ?_
 intro A c
 refine nt (Ic (sr (Mz rfl (Kz (.bool (decide (b<=0))) (Mz rfl ?_)))))
 by_cases a:b<=0
 refine Sz (dT a) (Sz (dT a) (fw (.bool true) (Iw rfl (dT a) rfl) (nt (jt (sr (Kz (.agg #[.bool false, .nilFunc, .nilFunc, .nilFunc, .nilFunc]) ?_))))))
 have j:=c.pb [0]
 refine dS [.bool false, .nilFunc, .nilFunc, .nilFunc, .nilFunc] 0 j M3 ?_
 intro B d
 refine An rfl (rt (tR (Fin.res (kS (vs:= [.agg #[.bool false, .nilFunc, .nilFunc, .nilFunc, .nilFunc], .bool false]) rfl (eu.cell rfl (Iy (cs:= [.bool false, .nilFunc, .nilFunc, .nilFunc, .nilFunc]) M2 M3 ((d.cls (i:=0) rfl).lit (k:=0) (m:=5) rfl)) (eu.tmp rfl eu.nil)) (Le rfl)) ?_)))
 have l:=d.pk []
 exact⟨rfl,l⟩
 refine gw (vI b) (dF a) (Iq rfl) (Gz (.bool (decide (b >= 6))) (dF a) (fw (.bool (decide (b >= 6))) (Ih rfl (dF a) rfl) (nt ?_)))
 have e:(decide (b >= 6))=true:=(dT e6)
 refine jT e (sr (Kz (.agg #[.bool false, .nilFunc, .nilFunc, .nilFunc, .nilFunc]) ?_))
 have n:=c.pb [0]
 refine dS [.bool false, .nilFunc, .nilFunc, .nilFunc, .nilFunc] 0 n M3 ?_
 intro C f
 refine An rfl (rt (tR (Fin.res (kS (vs:= [.agg #[.bool false, .nilFunc, .nilFunc, .nilFunc, .nilFunc], .bool false]) rfl (eu.cell rfl (Iy (cs:= [.bool false, .nilFunc, .nilFunc, .nilFunc, .nilFunc]) M2 M3 ((f.cls (i:=0) rfl).lit (k:=0) (m:=5) rfl)) (eu.tmp rfl eu.nil)) (Le rfl)) ?_)))
 have o:=f.pk []
 exact⟨rfl,o⟩
def kH (a:bi):Int:=
 if a.aD=1 then bnd (si a) λ e=>if(e.aD=a.aD)/\(e.bY=a.bY)/\(e.aT=a.aT)/\(e.bF=a.bF)/\(e.bT=a.bT)/\(e.bS=a.bS) then bnd (qB a) λ j=>j else 40 else if a.aD=2 then bnd (vk a) λ f=>if(f.aD=a.aD)/\(f.bY=a.bY)/\(f.aT=a.aT)/\(f.bF=a.bF)/\(f.bT=a.bT)/\(f.bS=a.bS) then bnd (tN a) λ k=>k else 40 else if a.aD=3 then bnd (si a) λ b=>if(b.aD=a.aD)/\(b.bY=a.bY)/\(b.aT=a.aT)/\(b.bF=a.bF)/\(b.bT=a.bT)/\(b.bS=a.bS) then bnd (qB a) λ g=>g else 40 else if a.aD=4 then bnd (vo a) λ c=>if(c.aD=a.aD)/\(c.bY=a.bY)/\(c.aT=a.aT)/\(c.bF=a.bF)/\(c.bT=a.bT)/\(c.bS=a.bS) then bnd (pW a) λ h=>h else 40 else if a.aD=5 then bnd (uw a) λ d=>if(d.aD=a.aD)/\(d.bY=a.bY)/\(d.aT=a.aT)/\(d.bF=a.bF)/\(d.bT=a.bT)/\(d.bS=a.bS) then bnd (mJ a) λ i=>i else 40 else 40
theorem sN (w D) (a:bi) (r0) (H:Own w D w []) (hr:kH a=r0):
    Calls v8 139 #[.agg (bi.cells a).toArray] w (d9 λ v w'=>v=vI r0/\Own w D w' []/\(¬ (r0=0)\/(1<=a.aD/\a.aD<=5))):=by
 refine cb Tryz.func139 ?_
 refine sr ?_
 refine dV (bi.cells a) 72 H ?_
 intro dn gI t
 refine Ar rfl (Kz (vP dn 0) (Lz (vI a.aD) t 0 C4 ?_))
 by_cases l:a.aD=1
 obtain⟨gJ,aR,eG,aS,eH⟩:=Ii t
 refine cl M8 (uH _ _ a.aD aR (of_decide_eq_true (dT l))) ?_
 rintro _ gK ⟨rfl,aT⟩
 have dw:=aS _ _ aT
 refine Mz rfl (Kz (.agg #[.bool false, .func (.func 172) #[] #[], .func (.func 173) #[] #[], .func (.func 174) #[] #[], .func (.func 175) #[] #[]]) (Kz (.bool true) ?_))
 refine dV [.bool false, .nilFunc, .nilFunc, .nilFunc, .nilFunc] 231 dw ?_
 intro aU gL dx
 refine dS [.bool false, .func (.func 172) #[] #[], .func (.func 173) #[] #[], .func (.func 174) #[] #[], .func (.func 175) #[] #[]] 0 dx M3 ?_
 intro gM dz
 refine An rfl (Ic (Ic ?_))
 refine qy [] (Iu (Iu IC)) dz ?_
 intro gN dA
 refine qv 0 rfl rfl (qk (.bool false) 1 rfl (qv 2 rfl rfl (Ip (v:=vP aU 1) (rs:= []) 3 rfl rfl rfl rfl e7 (λ _ _=>yk) (Ip (v:= .func (.func 172) #[] #[]) (rs:= []) 4 rfl rfl rfl rfl e7 (λ _ ⟨_,h⟩=>Io rfl (bZ.one M9 (jR.of (h.cls (i:=0) rfl) rfl))) (Ip (v:= .agg (bi.cells a).toArray) (rs:= []) 5 rfl rfl rfl rfl e7 (λ _ ⟨_,h⟩=>Io rfl (Iy (cs:=(bi.cells a)) M5 M4 ((h.cls (i:=1) rfl).lit (k:=0) (m:=6) rfl))) (Ip (v:= .agg (bi.cells a).toArray) (rs:= []) 7 rfl rfl rfl rfl e7 (λ _ ⟨_,h⟩=>Io rfl (Iy (cs:=(bi.cells a)) M5 M4 ((h.cls (i:=1) rfl).lit (k:=0) (m:=6) rfl))) ?_))))))
 obtain⟨f,F⟩:∃ q,si a=q:=⟨_,rfl⟩
 obtain⟨gP,aV,eO,aW,eP⟩:=Ii dA
 refine Ju 6 rfl rfl rfl rfl e7 (IK Tryz.call172 rfl rfl (wC _ _ a f aV F) ?_)
 rintro _ gQ ⟨rfl,aX⟩
 have G:=aW _ _ aX
 refine⟨.inr ⟨_,G⟩, ?_⟩
 refine Ip (v:= .bool (decide (¬ ((f.aD=a.aD)/\(f.bY=a.bY)/\(f.aT=a.aT)/\(f.bF=a.bF)/\(f.bT=a.bT)/\(f.bS=a.bS))))) (rs:= []) 8 rfl rfl rfl rfl e7 (λ _ _=>IG (e:= !(decide ((f.aD=a.aD)/\(f.bY=a.bY)/\(f.aT=a.aT)/\(f.bF=a.bF)/\(f.bT=a.bT)/\(f.bS=a.bS)))) (Jt rfl rfl e7 rfl (ku.struct N0 e7 (jO.dec (jO.cons (u:=vI f.aD) (v:=vI a.aD) f4 (λ _=>by kernel_rfl) (λ _=>by kernel_rfl) (ku.int B1) (jO.cons (u:= .string ⟨v9 f.bY⟩) (v:= .string ⟨v9 a.bY⟩) f4 (λ _=>by kernel_rfl) (λ _=>by kernel_rfl) (ku.string B3) (jO.cons (u:= .string ⟨v9 f.aT⟩) (v:= .string ⟨v9 a.aT⟩) f4 (λ _=>by kernel_rfl) (λ _=>by kernel_rfl) (ku.string B3) (jO.cons (u:= .string ⟨v9 f.bF⟩) (v:= .string ⟨v9 a.bF⟩) f4 (λ _=>by kernel_rfl) (λ _=>by kernel_rfl) (ku.string B3) (jO.cons (u:= .string ⟨v9 f.bT⟩) (v:= .string ⟨v9 a.bT⟩) f4 (λ _=>by kernel_rfl) (λ _=>by kernel_rfl) (ku.string B3) (jO.cons (u:=vI f.bS) (v:=vI a.bS) f4 (λ _=>by kernel_rfl) (λ _=>by kernel_rfl) (ku.int B1) (jO.nil.up (Lg _)))))))) ((congrArg (decide (f.aD=a.aD) && ·) ((congrArg (decide (f.bY=a.bY) && ·) ((congrArg (decide (f.aT=a.aT) && ·) ((congrArg (decide (f.bF=a.bF) && ·) ((congrArg (decide (f.bT=a.bT) && ·) rF).trans jA)).trans jA)).trans jA)).trans jA)).trans jA)))) decide_not.symm) (qt (v:= .bool (decide (¬ ((f.aD=a.aD)/\(f.bY=a.bY)/\(f.aT=a.aT)/\(f.bF=a.bF)/\(f.bT=a.bT)/\(f.bS=a.bS))))) 9 rfl (λ _ _=>Ih rfl rfl rfl) (qn (Ig ?_)))
 by_cases N:(f.aD=a.aD)/\(f.bY=a.bY)/\(f.aT=a.aT)/\(f.bF=a.bF)/\(f.bT=a.bT)/\(f.bS=a.bS)
 refine jF (dF (Lh N)) (sk (sr (Kz (vP aU 2) (Lz (.func (.func 173) #[] #[]) G 0 N1 (La (bi.cells a) G 1 M5 M4 ?_)))))
 obtain⟨aY,P⟩:∃ q,qB a=q:=⟨_,rfl⟩
 obtain⟨gT,aZ,eQ,bf,eT⟩:=Ii G
 refine WL.do rfl (IK Tryz.call173 rfl rfl (uI _ _ a aY aZ P) ?_)
 rintro _ gU ⟨rfl,bg⟩
 have dB:=bf _ _ bg
 refine An rfl (rt (rs ?_))
 have dC:=dB.pk []
 obtain rfl:_=aY:=zj hr (et (ip l) (et (ah F) (et (ip N) (ah P))))
 exact⟨rfl,dC,e6⟩
 refine jT (dT N) (sr (An rfl (rt (tR (rs ?_)))))
 have dD:=G.pk []
 obtain rfl:_=40:=zj hr (et (ip l) (et (ah F) (iN N)))
 exact⟨rfl,dD,e6⟩
 by_cases n:a.aD=2
 obtain⟨gV,bn,eU,bq,eX⟩:=Ii t
 refine cl M8 (uJ _ _ a.aD bn (of_decide_eq_true (dT n))) ?_
 rintro _ gW ⟨rfl,bu⟩
 have dE:=bq _ _ bu
 refine Mz rfl (Kz (.agg #[.bool true, .func (.func 176) #[] #[], .func (.func 177) #[] #[], .func (.func 174) #[] #[], .func (.func 178) #[] #[]]) (Kz (.bool true) ?_))
 refine dV [.bool false, .nilFunc, .nilFunc, .nilFunc, .nilFunc] 231 dE ?_
 intro bv gX dG
 refine dS [.bool true, .func (.func 176) #[] #[], .func (.func 177) #[] #[], .func (.func 174) #[] #[], .func (.func 178) #[] #[]] 0 dG M3 ?_
 intro gY dH
 refine An rfl (Ic (Ic ?_))
 refine qy [] (Iu (Iu IC)) dH ?_
 intro gZ dI
 refine qv 0 rfl rfl (qk (.bool false) 1 rfl (qv 2 rfl rfl (Ip (v:=vP bv 1) (rs:= []) 3 rfl rfl rfl rfl e7 (λ _ _=>yk) (Ip (v:= .func (.func 176) #[] #[]) (rs:= []) 4 rfl rfl rfl rfl e7 (λ _ ⟨_,h⟩=>Io rfl (bZ.one M9 (jR.of (h.cls (i:=0) rfl) rfl))) (Ip (v:= .agg (bi.cells a).toArray) (rs:= []) 5 rfl rfl rfl rfl e7 (λ _ ⟨_,h⟩=>Io rfl (Iy (cs:=(bi.cells a)) M5 M4 ((h.cls (i:=1) rfl).lit (k:=0) (m:=6) rfl))) (Ip (v:= .agg (bi.cells a).toArray) (rs:= []) 7 rfl rfl rfl rfl e7 (λ _ ⟨_,h⟩=>Io rfl (Iy (cs:=(bi.cells a)) M5 M4 ((h.cls (i:=1) rfl).lit (k:=0) (m:=6) rfl))) ?_))))))
 obtain⟨g,I⟩:∃ q,vk a=q:=⟨_,rfl⟩
 obtain⟨ib,bz,eY,bA,eZ⟩:=Ii dI
 refine Ju 6 rfl rfl rfl rfl e7 (IK Tryz.call176 rfl rfl (zI _ _ a g bz I) ?_)
 rintro _ ic ⟨rfl,bB⟩
 have J:=bA _ _ bB
 refine⟨.inr ⟨_,J⟩, ?_⟩
 refine Ip (v:= .bool (decide (¬ ((g.aD=a.aD)/\(g.bY=a.bY)/\(g.aT=a.aT)/\(g.bF=a.bF)/\(g.bT=a.bT)/\(g.bS=a.bS))))) (rs:= []) 8 rfl rfl rfl rfl e7 (λ _ _=>IG (e:= !(decide ((g.aD=a.aD)/\(g.bY=a.bY)/\(g.aT=a.aT)/\(g.bF=a.bF)/\(g.bT=a.bT)/\(g.bS=a.bS)))) (Jt rfl rfl e7 rfl (ku.struct N0 e7 (jO.dec (jO.cons (u:=vI g.aD) (v:=vI a.aD) f4 (λ _=>by kernel_rfl) (λ _=>by kernel_rfl) (ku.int B1) (jO.cons (u:= .string ⟨v9 g.bY⟩) (v:= .string ⟨v9 a.bY⟩) f4 (λ _=>by kernel_rfl) (λ _=>by kernel_rfl) (ku.string B3) (jO.cons (u:= .string ⟨v9 g.aT⟩) (v:= .string ⟨v9 a.aT⟩) f4 (λ _=>by kernel_rfl) (λ _=>by kernel_rfl) (ku.string B3) (jO.cons (u:= .string ⟨v9 g.bF⟩) (v:= .string ⟨v9 a.bF⟩) f4 (λ _=>by kernel_rfl) (λ _=>by kernel_rfl) (ku.string B3) (jO.cons (u:= .string ⟨v9 g.bT⟩) (v:= .string ⟨v9 a.bT⟩) f4 (λ _=>by kernel_rfl) (λ _=>by kernel_rfl) (ku.string B3) (jO.cons (u:=vI g.bS) (v:=vI a.bS) f4 (λ _=>by kernel_rfl) (λ _=>by kernel_rfl) (ku.int B1) (jO.nil.up (Lg _)))))))) ((congrArg (decide (g.aD=a.aD) && ·) ((congrArg (decide (g.bY=a.bY) && ·) ((congrArg (decide (g.aT=a.aT) && ·) ((congrArg (decide (g.bF=a.bF) && ·) ((congrArg (decide (g.bT=a.bT) && ·) rF).trans jA)).trans jA)).trans jA)).trans jA)).trans jA)))) decide_not.symm) (qt (v:= .bool (decide (¬ ((g.aD=a.aD)/\(g.bY=a.bY)/\(g.aT=a.aT)/\(g.bF=a.bF)/\(g.bT=a.bT)/\(g.bS=a.bS))))) 9 rfl (λ _ _=>Ih rfl rfl rfl) (qn (Ig ?_)))
 by_cases O:(g.aD=a.aD)/\(g.bY=a.bY)/\(g.aT=a.aT)/\(g.bF=a.bF)/\(g.bT=a.bT)/\(g.bS=a.bS)
 refine jF (dF (Lh O)) (sk (sr (Kz (vP bv 2) (Lz (.func (.func 177) #[] #[]) J 0 N1 (La (bi.cells a) J 1 M5 M4 ?_)))))
 obtain⟨bC,Q⟩:∃ q,tN a=q:=⟨_,rfl⟩
 obtain⟨ig,bD,fe,bE,fo⟩:=Ii J
 refine WL.do rfl (IK Tryz.call177 rfl rfl (ym _ _ a bC bD Q) ?_)
 rintro _ ik ⟨rfl,X⟩
 have bF:=bE _ _ X
 refine An rfl (rt (rs ?_))
 have bG:=bF.pk []
 obtain rfl:_=bC:=zj hr (et (iN l) (et (ip n) (et (ah I) (et (ip O) (ah Q)))))
 exact⟨rfl,bG,e6⟩
 refine jT (dT O) (sr (An rfl (rt (tR (rs ?_)))))
 have bH:=J.pk []
 obtain rfl:_=40:=zj hr (et (iN l) (et (ip n) (et (ah I) (iN O))))
 exact⟨rfl,bH,e6⟩
 by_cases j:a.aD=3
 obtain⟨fq,Y,dJ,Z,dK⟩:=Ii t
 refine cl M8 (uK _ _ a.aD Y (of_decide_eq_true (dT j))) ?_
 rintro _ fu ⟨rfl,aa⟩
 have bI:=Z _ _ aa
 refine Mz rfl (Kz (.agg #[.bool true, .func (.func 172) #[] #[], .func (.func 173) #[] #[], .func (.func 174) #[] #[], .func (.func 179) #[] #[]]) (Kz (.bool true) ?_))
 refine dV [.bool false, .nilFunc, .nilFunc, .nilFunc, .nilFunc] 231 bI ?_
 intro R fw bJ
 refine dS [.bool true, .func (.func 172) #[] #[], .func (.func 173) #[] #[], .func (.func 174) #[] #[], .func (.func 179) #[] #[]] 0 bJ M3 ?_
 intro fA bK
 refine An rfl (Ic (Ic ?_))
 refine qy [] (Iu (Iu IC)) bK ?_
 intro fB bL
 refine qv 0 rfl rfl (qk (.bool false) 1 rfl (qv 2 rfl rfl (Ip (v:=vP R 1) (rs:= []) 3 rfl rfl rfl rfl e7 (λ _ _=>yk) (Ip (v:= .func (.func 172) #[] #[]) (rs:= []) 4 rfl rfl rfl rfl e7 (λ _ ⟨_,h⟩=>Io rfl (bZ.one M9 (jR.of (h.cls (i:=0) rfl) rfl))) (Ip (v:= .agg (bi.cells a).toArray) (rs:= []) 5 rfl rfl rfl rfl e7 (λ _ ⟨_,h⟩=>Io rfl (Iy (cs:=(bi.cells a)) M5 M4 ((h.cls (i:=1) rfl).lit (k:=0) (m:=6) rfl))) (Ip (v:= .agg (bi.cells a).toArray) (rs:= []) 7 rfl rfl rfl rfl e7 (λ _ ⟨_,h⟩=>Io rfl (Iy (cs:=(bi.cells a)) M5 M4 ((h.cls (i:=1) rfl).lit (k:=0) (m:=6) rfl))) ?_))))))
 obtain⟨b,x⟩:∃ q,si a=q:=⟨_,rfl⟩
 obtain⟨fC,ae,dL,af,dM⟩:=Ii bL
 refine Ju 6 rfl rfl rfl rfl e7 (IK Tryz.call172 rfl rfl (wC _ _ a b ae x) ?_)
 rintro _ fD ⟨rfl,ag⟩
 have p:=af _ _ ag
 refine⟨.inr ⟨_,p⟩, ?_⟩
 refine Ip (v:= .bool (decide (¬ ((b.aD=a.aD)/\(b.bY=a.bY)/\(b.aT=a.aT)/\(b.bF=a.bF)/\(b.bT=a.bT)/\(b.bS=a.bS))))) (rs:= []) 8 rfl rfl rfl rfl e7 (λ _ _=>IG (e:= !(decide ((b.aD=a.aD)/\(b.bY=a.bY)/\(b.aT=a.aT)/\(b.bF=a.bF)/\(b.bT=a.bT)/\(b.bS=a.bS)))) (Jt rfl rfl e7 rfl (ku.struct N0 e7 (jO.dec (jO.cons (u:=vI b.aD) (v:=vI a.aD) f4 (λ _=>by kernel_rfl) (λ _=>by kernel_rfl) (ku.int B1) (jO.cons (u:= .string ⟨v9 b.bY⟩) (v:= .string ⟨v9 a.bY⟩) f4 (λ _=>by kernel_rfl) (λ _=>by kernel_rfl) (ku.string B3) (jO.cons (u:= .string ⟨v9 b.aT⟩) (v:= .string ⟨v9 a.aT⟩) f4 (λ _=>by kernel_rfl) (λ _=>by kernel_rfl) (ku.string B3) (jO.cons (u:= .string ⟨v9 b.bF⟩) (v:= .string ⟨v9 a.bF⟩) f4 (λ _=>by kernel_rfl) (λ _=>by kernel_rfl) (ku.string B3) (jO.cons (u:= .string ⟨v9 b.bT⟩) (v:= .string ⟨v9 a.bT⟩) f4 (λ _=>by kernel_rfl) (λ _=>by kernel_rfl) (ku.string B3) (jO.cons (u:=vI b.bS) (v:=vI a.bS) f4 (λ _=>by kernel_rfl) (λ _=>by kernel_rfl) (ku.int B1) (jO.nil.up (Lg _)))))))) ((congrArg (decide (b.aD=a.aD) && ·) ((congrArg (decide (b.bY=a.bY) && ·) ((congrArg (decide (b.aT=a.aT) && ·) ((congrArg (decide (b.bF=a.bF) && ·) ((congrArg (decide (b.bT=a.bT) && ·) rF).trans jA)).trans jA)).trans jA)).trans jA)).trans jA)))) decide_not.symm) (qt (v:= .bool (decide (¬ ((b.aD=a.aD)/\(b.bY=a.bY)/\(b.aT=a.aT)/\(b.bF=a.bF)/\(b.bT=a.bT)/\(b.bS=a.bS))))) 9 rfl (λ _ _=>Ih rfl rfl rfl) (qn (Ig ?_)))
 by_cases A:(b.aD=a.aD)/\(b.bY=a.bY)/\(b.aT=a.aT)/\(b.bF=a.bF)/\(b.bT=a.bT)/\(b.bS=a.bS)
 refine jF (dF (Lh A)) (sk (sr (Kz (vP R 2) (Lz (.func (.func 173) #[] #[]) p 0 N1 (La (bi.cells a) p 1 M5 M4 ?_)))))
 obtain⟨S,K⟩:∃ q,qB a=q:=⟨_,rfl⟩
 obtain⟨fE,ai,dN,aj,dO⟩:=Ii p
 refine WL.do rfl (IK Tryz.call173 rfl rfl (uI _ _ a S ai K) ?_)
 rintro _ fF ⟨rfl,ak⟩
 have bM:=aj _ _ ak
 refine An rfl (rt (rs ?_))
 have bN:=bM.pk []
 obtain rfl:_=S:=zj hr (et (iN l) (et (iN n) (et (ip j) (et (ah x) (et (ip A) (ah K))))))
 exact⟨rfl,bN,e6⟩
 refine jT (dT A) (sr (An rfl (rt (tR (rs ?_)))))
 have bO:=p.pk []
 obtain rfl:_=40:=zj hr (et (iN l) (et (iN n) (et (ip j) (et (ah x) (iN A)))))
 exact⟨rfl,bO,e6⟩
 by_cases o:a.aD=4
 obtain⟨fG,au,dP,av,dQ⟩:=Ii t
 refine cl M8 (uL _ _ a.aD au (of_decide_eq_true (dT o))) ?_
 rintro _ fH ⟨rfl,ax⟩
 have bP:=av _ _ ax
 refine Mz rfl (Kz (.agg #[.bool false, .func (.func 180) #[] #[], .func (.func 181) #[] #[], .func (.func 182) #[] #[], .func (.func 183) #[] #[]]) (Kz (.bool true) ?_))
 refine dV [.bool false, .nilFunc, .nilFunc, .nilFunc, .nilFunc] 231 bP ?_
 intro T fI bQ
 refine dS [.bool false, .func (.func 180) #[] #[], .func (.func 181) #[] #[], .func (.func 182) #[] #[], .func (.func 183) #[] #[]] 0 bQ M3 ?_
 intro fJ bR
 refine An rfl (Ic (Ic ?_))
 refine qy [] (Iu (Iu IC)) bR ?_
 intro fK bS
 refine qv 0 rfl rfl (qk (.bool false) 1 rfl (qv 2 rfl rfl (Ip (v:=vP T 1) (rs:= []) 3 rfl rfl rfl rfl e7 (λ _ _=>yk) (Ip (v:= .func (.func 180) #[] #[]) (rs:= []) 4 rfl rfl rfl rfl e7 (λ _ ⟨_,h⟩=>Io rfl (bZ.one M9 (jR.of (h.cls (i:=0) rfl) rfl))) (Ip (v:= .agg (bi.cells a).toArray) (rs:= []) 5 rfl rfl rfl rfl e7 (λ _ ⟨_,h⟩=>Io rfl (Iy (cs:=(bi.cells a)) M5 M4 ((h.cls (i:=1) rfl).lit (k:=0) (m:=6) rfl))) (Ip (v:= .agg (bi.cells a).toArray) (rs:= []) 7 rfl rfl rfl rfl e7 (λ _ ⟨_,h⟩=>Io rfl (Iy (cs:=(bi.cells a)) M5 M4 ((h.cls (i:=1) rfl).lit (k:=0) (m:=6) rfl))) ?_))))))
 obtain⟨c,y⟩:∃ q,vo a=q:=⟨_,rfl⟩
 obtain⟨fM,ay,dR,az,dU⟩:=Ii bS
 refine Ju 6 rfl rfl rfl rfl e7 (IK Tryz.call180 rfl rfl (zJ _ _ a c ay y) ?_)
 rintro _ fO ⟨rfl,aA⟩
 have r:=az _ _ aA
 refine⟨.inr ⟨_,r⟩, ?_⟩
 refine Ip (v:= .bool (decide (¬ ((c.aD=a.aD)/\(c.bY=a.bY)/\(c.aT=a.aT)/\(c.bF=a.bF)/\(c.bT=a.bT)/\(c.bS=a.bS))))) (rs:= []) 8 rfl rfl rfl rfl e7 (λ _ _=>IG (e:= !(decide ((c.aD=a.aD)/\(c.bY=a.bY)/\(c.aT=a.aT)/\(c.bF=a.bF)/\(c.bT=a.bT)/\(c.bS=a.bS)))) (Jt rfl rfl e7 rfl (ku.struct N0 e7 (jO.dec (jO.cons (u:=vI c.aD) (v:=vI a.aD) f4 (λ _=>by kernel_rfl) (λ _=>by kernel_rfl) (ku.int B1) (jO.cons (u:= .string ⟨v9 c.bY⟩) (v:= .string ⟨v9 a.bY⟩) f4 (λ _=>by kernel_rfl) (λ _=>by kernel_rfl) (ku.string B3) (jO.cons (u:= .string ⟨v9 c.aT⟩) (v:= .string ⟨v9 a.aT⟩) f4 (λ _=>by kernel_rfl) (λ _=>by kernel_rfl) (ku.string B3) (jO.cons (u:= .string ⟨v9 c.bF⟩) (v:= .string ⟨v9 a.bF⟩) f4 (λ _=>by kernel_rfl) (λ _=>by kernel_rfl) (ku.string B3) (jO.cons (u:= .string ⟨v9 c.bT⟩) (v:= .string ⟨v9 a.bT⟩) f4 (λ _=>by kernel_rfl) (λ _=>by kernel_rfl) (ku.string B3) (jO.cons (u:=vI c.bS) (v:=vI a.bS) f4 (λ _=>by kernel_rfl) (λ _=>by kernel_rfl) (ku.int B1) (jO.nil.up (Lg _)))))))) ((congrArg (decide (c.aD=a.aD) && ·) ((congrArg (decide (c.bY=a.bY) && ·) ((congrArg (decide (c.aT=a.aT) && ·) ((congrArg (decide (c.bF=a.bF) && ·) ((congrArg (decide (c.bT=a.bT) && ·) rF).trans jA)).trans jA)).trans jA)).trans jA)).trans jA)))) decide_not.symm) (qt (v:= .bool (decide (¬ ((c.aD=a.aD)/\(c.bY=a.bY)/\(c.aT=a.aT)/\(c.bF=a.bF)/\(c.bT=a.bT)/\(c.bS=a.bS))))) 9 rfl (λ _ _=>Ih rfl rfl rfl) (qn (Ig ?_)))
 by_cases B:(c.aD=a.aD)/\(c.bY=a.bY)/\(c.aT=a.aT)/\(c.bF=a.bF)/\(c.bT=a.bT)/\(c.bS=a.bS)
 refine jF (dF (Lh B)) (sk (sr (Kz (vP T 2) (Lz (.func (.func 181) #[] #[]) r 0 N1 (La (bi.cells a) r 1 M5 M4 ?_)))))
 obtain⟨U,L⟩:∃ q,pW a=q:=⟨_,rfl⟩
 obtain⟨fP,aB,dW,aC,dX⟩:=Ii r
 refine WL.do rfl (IK Tryz.call181 rfl rfl (yu _ _ a U aB L) ?_)
 rintro _ fQ ⟨rfl,aD⟩
 have bT:=aC _ _ aD
 refine An rfl (rt (rs ?_))
 have bU:=bT.pk []
 obtain rfl:_=U:=zj hr (et (iN l) (et (iN n) (et (iN j) (et (ip o) (et (ah y) (et (ip B) (ah L)))))))
 exact⟨rfl,bU,e6⟩
 refine jT (dT B) (sr (An rfl (rt (tR (rs ?_)))))
 have bV:=r.pk []
 obtain rfl:_=40:=zj hr (et (iN l) (et (iN n) (et (iN j) (et (ip o) (et (ah y) (iN B))))))
 exact⟨rfl,bV,e6⟩
 by_cases C:a.aD=5
 obtain⟨fT,aF,dY,aG,dZ⟩:=Ii t
 refine cl M8 (uM _ _ a.aD aF (of_decide_eq_true (dT C))) ?_
 rintro _ fU ⟨rfl,aH⟩
 have bW:=aG _ _ aH
 refine Mz rfl (Kz (.agg #[.bool true, .func (.func 184) #[] #[], .func (.func 185) #[] #[], .func (.func 182) #[] #[], .func (.func 186) #[] #[]]) (Kz (.bool true) ?_))
 refine dV [.bool false, .nilFunc, .nilFunc, .nilFunc, .nilFunc] 231 bW ?_
 intro V fV bX
 refine dS [.bool true, .func (.func 184) #[] #[], .func (.func 185) #[] #[], .func (.func 182) #[] #[], .func (.func 186) #[] #[]] 0 bX M3 ?_
 intro fZ bY
 refine An rfl (Ic (Ic ?_))
 refine qy [] (Iu (Iu IC)) bY ?_
 intro gm cu
 refine qv 0 rfl rfl (qk (.bool false) 1 rfl (qv 2 rfl rfl (Ip (v:=vP V 1) (rs:= []) 3 rfl rfl rfl rfl e7 (λ _ _=>yk) (Ip (v:= .func (.func 184) #[] #[]) (rs:= []) 4 rfl rfl rfl rfl e7 (λ _ ⟨_,h⟩=>Io rfl (bZ.one M9 (jR.of (h.cls (i:=0) rfl) rfl))) (Ip (v:= .agg (bi.cells a).toArray) (rs:= []) 5 rfl rfl rfl rfl e7 (λ _ ⟨_,h⟩=>Io rfl (Iy (cs:=(bi.cells a)) M5 M4 ((h.cls (i:=1) rfl).lit (k:=0) (m:=6) rfl))) (Ip (v:= .agg (bi.cells a).toArray) (rs:= []) 7 rfl rfl rfl rfl e7 (λ _ ⟨_,h⟩=>Io rfl (Iy (cs:=(bi.cells a)) M5 M4 ((h.cls (i:=1) rfl).lit (k:=0) (m:=6) rfl))) ?_))))))
 obtain⟨d,z⟩:∃ q,uw a=q:=⟨_,rfl⟩
 obtain⟨gp,aI,ed,aJ,ek⟩:=Ii cu
 refine Ju 6 rfl rfl rfl rfl e7 (IK Tryz.call184 rfl rfl (yU _ _ a d aI z) ?_)
 rintro _ gq ⟨rfl,aK⟩
 have s:=aJ _ _ aK
 refine⟨.inr ⟨_,s⟩, ?_⟩
 refine Ip (v:= .bool (decide (¬ ((d.aD=a.aD)/\(d.bY=a.bY)/\(d.aT=a.aT)/\(d.bF=a.bF)/\(d.bT=a.bT)/\(d.bS=a.bS))))) (rs:= []) 8 rfl rfl rfl rfl e7 (λ _ _=>IG (e:= !(decide ((d.aD=a.aD)/\(d.bY=a.bY)/\(d.aT=a.aT)/\(d.bF=a.bF)/\(d.bT=a.bT)/\(d.bS=a.bS)))) (Jt rfl rfl e7 rfl (ku.struct N0 e7 (jO.dec (jO.cons (u:=vI d.aD) (v:=vI a.aD) f4 (λ _=>by kernel_rfl) (λ _=>by kernel_rfl) (ku.int B1) (jO.cons (u:= .string ⟨v9 d.bY⟩) (v:= .string ⟨v9 a.bY⟩) f4 (λ _=>by kernel_rfl) (λ _=>by kernel_rfl) (ku.string B3) (jO.cons (u:= .string ⟨v9 d.aT⟩) (v:= .string ⟨v9 a.aT⟩) f4 (λ _=>by kernel_rfl) (λ _=>by kernel_rfl) (ku.string B3) (jO.cons (u:= .string ⟨v9 d.bF⟩) (v:= .string ⟨v9 a.bF⟩) f4 (λ _=>by kernel_rfl) (λ _=>by kernel_rfl) (ku.string B3) (jO.cons (u:= .string ⟨v9 d.bT⟩) (v:= .string ⟨v9 a.bT⟩) f4 (λ _=>by kernel_rfl) (λ _=>by kernel_rfl) (ku.string B3) (jO.cons (u:=vI d.bS) (v:=vI a.bS) f4 (λ _=>by kernel_rfl) (λ _=>by kernel_rfl) (ku.int B1) (jO.nil.up (Lg _)))))))) ((congrArg (decide (d.aD=a.aD) && ·) ((congrArg (decide (d.bY=a.bY) && ·) ((congrArg (decide (d.aT=a.aT) && ·) ((congrArg (decide (d.bF=a.bF) && ·) ((congrArg (decide (d.bT=a.bT) && ·) rF).trans jA)).trans jA)).trans jA)).trans jA)).trans jA)))) decide_not.symm) (qt (v:= .bool (decide (¬ ((d.aD=a.aD)/\(d.bY=a.bY)/\(d.aT=a.aT)/\(d.bF=a.bF)/\(d.bT=a.bT)/\(d.bS=a.bS))))) 9 rfl (λ _ _=>Ih rfl rfl rfl) (qn (Ig ?_)))
 by_cases E:(d.aD=a.aD)/\(d.bY=a.bY)/\(d.aT=a.aT)/\(d.bF=a.bF)/\(d.bT=a.bT)/\(d.bS=a.bS)
 refine jF (dF (Lh E)) (sk (sr (Kz (vP V 2) (Lz (.func (.func 185) #[] #[]) s 0 N1 (La (bi.cells a) s 1 M5 M4 ?_)))))
 obtain⟨W,M⟩:∃ q,mJ a=q:=⟨_,rfl⟩
 obtain⟨gu,aL,eu,aM,eB⟩:=Ii s
 refine WL.do rfl (IK Tryz.call185 rfl rfl (tQ _ _ a W aL M) ?_)
 rintro _ gy ⟨rfl,aN⟩
 have cz:=aM _ _ aN
 refine An rfl (rt (rs ?_))
 have cB:=cz.pk []
 obtain rfl:_=W:=zj hr (et (iN l) (et (iN n) (et (iN j) (et (iN o) (et (ip C) (et (ah z) (et (ip E) (ah M))))))))
 exact⟨rfl,cB,e6⟩
 refine jT (dT E) (sr (An rfl (rt (tR (rs ?_)))))
 have cK:=s.pk []
 obtain rfl:_=40:=zj hr (et (iN l) (et (iN n) (et (iN j) (et (iN o) (et (ip C) (et (ah z) (iN E)))))))
 exact⟨rfl,cK,e6⟩
 obtain⟨gz,aO,eD,aP,eF⟩:=Ii t
 refine cl M8 (uo _ _ a.aD aO e6 e6 e6 e6 e6) ?_
 rintro _ gB ⟨rfl,aQ⟩
 have cO:=aP _ _ aQ
 refine Mz rfl (Kz (.agg #[.bool false, .nilFunc, .nilFunc, .nilFunc, .nilFunc]) (Kz (.bool false) ?_))
 refine dV [.bool false, .nilFunc, .nilFunc, .nilFunc, .nilFunc] 231 cO ?_
 intro gD gF cZ
 refine dS [.bool false, .nilFunc, .nilFunc, .nilFunc, .nilFunc] 0 cZ M3 ?_
 intro gG df
 refine An rfl (Ic (Ic ?_))
 refine qy [] (Iu (Iu IC)) df ?_
 intro gH dh
 refine qv 0 rfl rfl (qk (.bool true) 1 rfl (qv 2 rfl rfl (Ik (rs:= []) 3 rfl rfl rfl rfl e7 (Ik (rs:= []) 4 rfl rfl rfl rfl e7 (Ik (rs:= []) 5 rfl rfl rfl rfl e7 (Ik (rs:= []) 6 rfl rfl rfl rfl e7 (Ik (rs:= []) 7 rfl rfl rfl rfl e7 (Ik (rs:= []) 8 rfl rfl rfl rfl e7 (qt (v:= .bool true) 9 rfl (λ _ _=>Iw rfl rfl rfl) (qn (Ig (jt (sr (An rfl (rt (tR (rs ?_)))))))))))))))))
 have di:=dh.pk []
 obtain rfl:_=40:=zj hr (et (iN l) (et (iN n) (et (iN j) (et (iN o) (iN C)))))
 exact⟨rfl,di,e6⟩
def j6:List bi->Unit ⊕ Int
  | []=>B9 ()
  | b::c=>bnd (kH b) λ a=>if a=0 then j6 c else C1 (a)
def pX (l0:List bi):Int:=
 lp (j6 l0) λ _=>0
theorem yw (w D o A B l0 L) (H:Own w D w []) (n:Ro w D λ w'=>bE w' 6 o A (q3 bi.cells l0)) (C:A=l0.length) (P:l0.length<=9223372036854775807) (hr:pX l0=L):
    Calls v8 157 #[.slice o A B] w (d9 λ v w'=>v=vI L/\Own w D w' []):=by
 subst C
 refine cb Tryz.func157 ?_
 refine sr (An rfl (Ic (sr (Mz rfl (Kz (vJ l0.length) (Mn rfl (bo ?_)))))))
 have E:=H.pk []
 obtain⟨F,d⟩:=nQ λ (a:Nat) w'=>Own w D w' []/\a<=l0.length/\j6 l0=j6 (r3 a l0)
 refine C3 (λ i:Nat=> [(2,vI 0),(8,vJ i),(7,vJ l0.length),(6, .slice o l0.length B)]) F (λ i=>l0.length - i) 0 ⟨rfl,rfl,rfl,rfl,trivial⟩ (d.2 ⟨E,e6,rfl⟩) ?_
 rintro a Q p
 obtain⟨f,M,g⟩:=d.1 p
 refine sr (Kz (.bool (decide (((a:Nat):Int) < ((l0.length:Nat):Int)))) (nt (Ic ?_)))
 by_cases r:((a:Nat):Int) < ((l0.length:Nat):Int)
 obtain⟨b,k⟩:=dN (ls:=l0) (i:=a) bi.len f4 (f.ro n) e9
 have l:=drop_at k
 refine jT (dT r) (sk (Ic (bo (sr (fw (.pointer (some ⟨ab o,ao o+a *6,none⟩)) (Ij (qX) rfl rfl ((f.ro n).addr (i:=a) e6) e6) (fw (.agg (bi.cells b).toArray) (Io rfl (Iy (cs:=(bi.cells b)) M5 M4 ((f.ro n).elem bi.len k f4))) ?_))))))
 refine dV [vI 0, .string ⟨v9 ([])⟩, .string ⟨v9 ([])⟩, .string ⟨v9 ([])⟩, .string ⟨v9 ([])⟩,vI 0] 72 f ?_
 intro R S G
 refine dS (bi.cells b) 0 G M4 ?_
 intro T s
 refine ns (La (bi.cells b) s 0 M5 M4 ?_)
 obtain⟨c,h⟩:∃ q,kH b=q:=⟨_,rfl⟩
 obtain⟨U,t,N,u,O⟩:=Ii s
 refine cl N2 (sN _ _ b c t h) ?_
 rintro _ V ⟨rfl,x,m⟩
 have y:=u _ _ x
 replace m: ¬ (c=0)\/(1<=b.aD/\b.aD<=5):=m
 refine Ar rfl (Mz rfl (fw (.bool (decide (¬ (c=0)))) (IG (e:= !(decide (c=0))) yk decide_not.symm) (nt ?_)))
 by_cases j:c=0
 refine jF (dF (Lh j)) (IE (bN (Ig (Ib (fw (vJ (a+1)) (Ie (e:=C5.wrap (((a:Nat):Int)+1)) yk f0) (Mz rfl (C6 ?_)))))))
 have I:=y.pk []
 exact Ir (a+1) ⟨rfl,rfl,rfl,rfl,trivial⟩ (d.2 ⟨I,e6,et (g) (et (congrArg (λ q=>j6 q) l) (et (ah h) (ip j)))⟩) (by show l0.length - (a+1) < l0.length - a; omega)
 refine jT (dT j) (sr (Mz rfl (An rfl (rt (bR (tR (tR (bR (tR (rs ?_))))))))))
 have J:=y.pk []
 obtain rfl:_=c:=zj hr (jm (et (g) (et (congrArg (λ q=>j6 q) l) (et (ah h) (iN j)))))
 exact⟨rfl,J⟩
 refine jF (dF r) (C7 (Il ?_))
 have z:j6 l0=B9 ():=et (g) (et (congrArg (λ q=>j6 q) (fB (ls:=l0) (i:=a) e6)) rfl)
 refine Il (IB (Ig (sr (An rfl (rt (rs ?_))))))
 have K:=f.pk []
 obtain rfl:_=0:=zj hr (nT z)
 exact⟨rfl,K⟩
def oo (l0:List bi):Int:=
 if((l0.length:Nat):Int) < 1 then 3 else if((l0.length:Nat):Int) > 4 then 3 else bnd (pX l0) λ a=>a
theorem xw (w D i j k l0 l) (H:Own w D w []) (m:Ro w D λ w'=>bE w' 6 i j (q3 bi.cells l0)) (n:j=l0.length) (u:l0.length<=9223372036854775807) (hr:oo l0=l):
    Calls v8 137 #[.slice i j k] w (d9 λ v w'=>v=vI l/\Own w D w' []/\(¬ (l=0)\/(1<=l0.length/\l0.length<=4))):=by
 subst n
 refine cb Tryz.func137 ?_
 refine sr (An rfl (Ic (sr (Mz rfl (Kz (vJ l0.length) (Kz (.bool (decide (((l0.length:Nat):Int) < 1))) (Mz rfl ?_)))))))
 by_cases a:((l0.length:Nat):Int) < 1
 refine Sz (dT a) (Sz (dT a) (Sz (dT a) (fw (.bool true) (Iw rfl (dT a) rfl) (nt (jt (sr (An rfl (rt (tR (rs ?_))))))))))
 have o:=H.pk []
 obtain rfl:_=3:=zj hr (ip a)
 exact⟨rfl,o,e6⟩
 refine gw (.slice i l0.length k) (dF a) (Iq rfl) (Gz (vJ l0.length) (dF a) (Gz (.bool (decide (((l0.length:Nat):Int) > 4))) (dF a) (fw (.bool (decide (((l0.length:Nat):Int) > 4))) (Ih rfl (dF a) rfl) (nt ?_))))
 by_cases b:((l0.length:Nat):Int) > 4
 refine jT (dT b) (sr (An rfl (rt (tR (rs ?_)))))
 have p:=H.pk []
 obtain rfl:_=3:=zj hr (et (iN a) (ip b))
 exact⟨rfl,p,e6⟩
 refine jF (dF b) (sk (sr (Mz rfl ?_)))
 obtain⟨d,c⟩:∃ q,pX l0=q:=⟨_,rfl⟩
 obtain⟨x,e,f,g,t⟩:=Ii H
 refine cl Tryz.call157 (yw _ _ i l0.length k l0 d e (f _ m) rfl e6 c) ?_
 rintro _ y ⟨rfl,h⟩
 have r:=g _ _ h
 refine An rfl (rt (rs ?_))
 have s:=r.pk []
 obtain rfl:_=d:=zj hr (et (iN a) (et (iN b) (ah c)))
 exact⟨rfl,s,e6⟩
def lC:List bi->Unit ⊕ Bool
  | []=>B9 ()
  | b::c=>bnd (kH b) λ a=>if a=0 then lC c else C1 (false)
def uy (l0:List bi):Bool:=
 lp (lC l0) λ _=>true
theorem yV (w D o A B l0 L) (H:Own w D w []) (n:Ro w D λ w'=>bE w' 6 o A (q3 bi.cells l0)) (C:A=l0.length) (P:l0.length<=9223372036854775807) (hr:uy l0=L):
    Calls v8 138 #[.slice o A B, .func (.func 139) #[] #[]] w (d9 λ v w'=>v= .bool L/\Own w D w' []):=by
 subst C
 refine cb Tryz.func138 ?_
 refine sr (An rfl (Ic (sr (Mz rfl (Kz (vJ l0.length) (Mn rfl (bo ?_)))))))
 have E:=H.pk []
 obtain⟨F,c⟩:=nQ λ (a:Nat) w'=>Own w D w' []/\a<=l0.length/\lC l0=lC (r3 a l0)
 refine C3 (λ i:Nat=> [(4, .bool false),(9,vJ i),(8,vJ l0.length),(7, .slice o l0.length B),(1, .func (.func 139) #[] #[])]) F (λ i=>l0.length - i) 0 ⟨rfl,rfl,rfl,rfl,rfl,trivial⟩ (c.2 ⟨E,e6,rfl⟩) ?_
 rintro a Q p
 obtain⟨d,M,f⟩:=c.1 p
 refine sr (Kz (.bool (decide (((a:Nat):Int) < ((l0.length:Nat):Int)))) (nt (Ic ?_)))
 by_cases r:((a:Nat):Int) < ((l0.length:Nat):Int)
 obtain⟨b,k⟩:=dN (ls:=l0) (i:=a) bi.len f4 (d.ro n) e9
 have l:=drop_at k
 refine jT (dT r) (sk (Ic (bo (sr (fw (.pointer (some ⟨ab o,ao o+a *6,none⟩)) (Ij (qX) rfl rfl ((d.ro n).addr (i:=a) e6) e6) (fw (.agg (bi.cells b).toArray) (Io rfl (Iy (cs:=(bi.cells b)) M5 M4 ((d.ro n).elem bi.len k f4))) ?_))))))
 refine dV [vI 0, .string ⟨v9 ([])⟩, .string ⟨v9 ([])⟩, .string ⟨v9 ([])⟩, .string ⟨v9 ([])⟩,vI 0] 72 d ?_
 intro R S G
 refine dS (bi.cells b) 0 G M4 ?_
 intro T s
 refine ns (Mz rfl (La (bi.cells b) s 0 M5 M4 ?_))
 obtain⟨g,h⟩:∃ q,kH b=q:=⟨_,rfl⟩
 obtain⟨U,t,N,u,O⟩:=Ii s
 refine WL.do rfl (IK N2 rfl rfl (sN _ _ b g t h) ?_)
 rintro _ V ⟨rfl,x,m⟩
 have y:=u _ _ x
 replace m: ¬ (g=0)\/(1<=b.aD/\b.aD<=5):=m
 refine fw (.bool (decide (¬ (g=0)))) (IG (e:= !(decide (g=0))) yk decide_not.symm) (nt ?_)
 by_cases j:g=0
 refine jF (dF (Lh j)) (IE (bN (Ig (Ib (fw (vJ (a+1)) (Ie (e:=C5.wrap (((a:Nat):Int)+1)) yk f0) (Mz rfl (C6 ?_)))))))
 have I:=y.pk []
 exact Ir (a+1) ⟨rfl,rfl,rfl,rfl,rfl,trivial⟩ (c.2 ⟨I,e6,et (f) (et (congrArg (λ q=>lC q) l) (et (ah h) (ip j)))⟩) (by show l0.length - (a+1) < l0.length - a; omega)
 refine jT (dT j) (sr (An rfl (rt (bR (tR (tR (bR (tR (rs ?_)))))))))
 have J:=y.pk []
 obtain rfl:_=false:=zj hr (jm (et (f) (et (congrArg (λ q=>lC q) l) (et (ah h) (iN j)))))
 exact⟨rfl,J⟩
 refine jF (dF r) (C7 (Il ?_))
 have z:lC l0=B9 ():=et (f) (et (congrArg (λ q=>lC q) (fB (ls:=l0) (i:=a) e6)) rfl)
 refine Il (IB (Ig (sr (An rfl (rt (rs ?_))))))
 have K:=d.pk []
 obtain rfl:_=true:=zj hr (nT z)
 exact⟨rfl,K⟩
def wD (a:bi):Bool:=
 if a.aD=1 then false else if a.aD=2 then true else if a.aD=3 then true else if a.aD=4 then false else if a.aD=5 then true else false
theorem AZ (w D) (a:bi) (r0) (H:Own w D w []) (hr:wD a=r0):
    Calls v8 159 #[.agg (bi.cells a).toArray] w (d9 λ v w'=>v= .bool r0/\Own w D w' []):=by
 refine cb Tryz.func159 ?_
 refine sr ?_
 refine dV (bi.cells a) 72 H ?_
 intro S aV b
 refine Ar rfl (Kz (vP S 0) (Lz (vI a.aD) b 0 C4 ?_))
 by_cases c:a.aD=1
 obtain⟨aW,m,aD,n,aF⟩:=Ii b
 refine cl M8 (uH _ _ a.aD m (of_decide_eq_true (dT c))) ?_
 rintro _ aX ⟨rfl,o⟩
 have T:=n _ _ o
 refine Mz rfl (Kz (.agg #[.bool false, .func (.func 172) #[] #[], .func (.func 173) #[] #[], .func (.func 174) #[] #[], .func (.func 175) #[] #[]]) (Kz (.bool true) ?_))
 refine dV [.bool false, .nilFunc, .nilFunc, .nilFunc, .nilFunc] 231 T ?_
 intro U aY V
 refine dS [.bool false, .func (.func 172) #[] #[], .func (.func 173) #[] #[], .func (.func 174) #[] #[], .func (.func 175) #[] #[]] 0 V M3 ?_
 intro aZ W
 refine An rfl (Ic ?_)
 have p:=W.pk [0]
 refine Ib (Mz rfl (Mz rfl (Gz (vP U 0) rfl (Gl (.bool false) rfl p 0 N3 (fw (.bool false) (Iw rfl rfl rfl) (An rfl (rt (rs ?_))))))))
 have X:=p.pk []
 obtain rfl:_=false:=zj hr (ip c)
 exact⟨rfl,X⟩
 by_cases d:a.aD=2
 obtain⟨bf,q,aG,r,aH⟩:=Ii b
 refine cl M8 (uJ _ _ a.aD q (of_decide_eq_true (dT d))) ?_
 rintro _ bg ⟨rfl,s⟩
 have Y:=r _ _ s
 refine Mz rfl (Kz (.agg #[.bool true, .func (.func 176) #[] #[], .func (.func 177) #[] #[], .func (.func 174) #[] #[], .func (.func 178) #[] #[]]) (Kz (.bool true) ?_))
 refine dV [.bool false, .nilFunc, .nilFunc, .nilFunc, .nilFunc] 231 Y ?_
 intro Z bn aa
 refine dS [.bool true, .func (.func 176) #[] #[], .func (.func 177) #[] #[], .func (.func 174) #[] #[], .func (.func 178) #[] #[]] 0 aa M3 ?_
 intro bq ae
 refine An rfl (Ic ?_)
 have t:=ae.pk [0]
 refine Ib (Mz rfl (Mz rfl (Gz (vP Z 0) rfl (Gl (.bool true) rfl t 0 N3 (fw (.bool true) (Iw rfl rfl rfl) (An rfl (rt (rs ?_))))))))
 have af:=t.pk []
 obtain rfl:_=true:=zj hr (et (iN c) (ip d))
 exact⟨rfl,af⟩
 by_cases e:a.aD=3
 obtain⟨bu,u,aI,x,aJ⟩:=Ii b
 refine cl M8 (uK _ _ a.aD u (of_decide_eq_true (dT e))) ?_
 rintro _ bv ⟨rfl,y⟩
 have ag:=x _ _ y
 refine Mz rfl (Kz (.agg #[.bool true, .func (.func 172) #[] #[], .func (.func 173) #[] #[], .func (.func 174) #[] #[], .func (.func 179) #[] #[]]) (Kz (.bool true) ?_))
 refine dV [.bool false, .nilFunc, .nilFunc, .nilFunc, .nilFunc] 231 ag ?_
 intro ah bz ai
 refine dS [.bool true, .func (.func 172) #[] #[], .func (.func 173) #[] #[], .func (.func 174) #[] #[], .func (.func 179) #[] #[]] 0 ai M3 ?_
 intro bA aj
 refine An rfl (Ic ?_)
 have z:=aj.pk [0]
 refine Ib (Mz rfl (Mz rfl (Gz (vP ah 0) rfl (Gl (.bool true) rfl z 0 N3 (fw (.bool true) (Iw rfl rfl rfl) (An rfl (rt (rs ?_))))))))
 have ak:=z.pk []
 obtain rfl:_=true:=zj hr (et (iN c) (et (iN d) (ip e)))
 exact⟨rfl,ak⟩
 by_cases f:a.aD=4
 obtain⟨bB,A,aK,B,aL⟩:=Ii b
 refine cl M8 (uL _ _ a.aD A (of_decide_eq_true (dT f))) ?_
 rintro _ bC ⟨rfl,C⟩
 have au:=B _ _ C
 refine Mz rfl (Kz (.agg #[.bool false, .func (.func 180) #[] #[], .func (.func 181) #[] #[], .func (.func 182) #[] #[], .func (.func 183) #[] #[]]) (Kz (.bool true) ?_))
 refine dV [.bool false, .nilFunc, .nilFunc, .nilFunc, .nilFunc] 231 au ?_
 intro av bD ax
 refine dS [.bool false, .func (.func 180) #[] #[], .func (.func 181) #[] #[], .func (.func 182) #[] #[], .func (.func 183) #[] #[]] 0 ax M3 ?_
 intro bE ay
 refine An rfl (Ic ?_)
 have E:=ay.pk [0]
 refine Ib (Mz rfl (Mz rfl (Gz (vP av 0) rfl (Gl (.bool false) rfl E 0 N3 (fw (.bool false) (Iw rfl rfl rfl) (An rfl (rt (rs ?_))))))))
 have az:=E.pk []
 obtain rfl:_=false:=zj hr (et (iN c) (et (iN d) (et (iN e) (ip f))))
 exact⟨rfl,az⟩
 by_cases h:a.aD=5
 obtain⟨bF,F,aM,G,aN⟩:=Ii b
 refine cl M8 (uM _ _ a.aD F (of_decide_eq_true (dT h))) ?_
 rintro _ bG ⟨rfl,i⟩
 have I:=G _ _ i
 refine Mz rfl (Kz (.agg #[.bool true, .func (.func 184) #[] #[], .func (.func 185) #[] #[], .func (.func 182) #[] #[], .func (.func 186) #[] #[]]) (Kz (.bool true) ?_))
 refine dV [.bool false, .nilFunc, .nilFunc, .nilFunc, .nilFunc] 231 I ?_
 intro J aO K
 refine dS [.bool true, .func (.func 184) #[] #[], .func (.func 185) #[] #[], .func (.func 182) #[] #[], .func (.func 186) #[] #[]] 0 K M3 ?_
 intro aP L
 refine An rfl (Ic ?_)
 have g:=L.pk [0]
 refine Ib (Mz rfl (Mz rfl (Gz (vP J 0) rfl (Gl (.bool true) rfl g 0 N3 (fw (.bool true) (Iw rfl rfl rfl) (An rfl (rt (rs ?_))))))))
 have M:=g.pk []
 obtain rfl:_=true:=zj hr (et (iN c) (et (iN d) (et (iN e) (et (iN f) (ip h)))))
 exact⟨rfl,M⟩
 obtain⟨aQ,j,aA,k,aB⟩:=Ii b
 refine cl M8 (uo _ _ a.aD j e6 e6 e6 e6 e6) ?_
 rintro _ aR ⟨rfl,l⟩
 have N:=k _ _ l
 refine Mz rfl (Kz (.agg #[.bool false, .nilFunc, .nilFunc, .nilFunc, .nilFunc]) (Kz (.bool false) ?_))
 refine dV [.bool false, .nilFunc, .nilFunc, .nilFunc, .nilFunc] 231 N ?_
 intro aS aT O
 refine dS [.bool false, .nilFunc, .nilFunc, .nilFunc, .nilFunc] 0 O M3 ?_
 intro aU P
 refine An rfl (Ic ?_)
 have Q:=P.pk [0]
 refine Ib (Mz rfl (Mz rfl (Sz rfl (Sz rfl (fw (.bool false) (Ih rfl rfl rfl) (An rfl (rt (rs ?_))))))))
 have R:=Q.pk []
 obtain rfl:_=false:=zj hr (et (iN c) (et (iN d) (et (iN e) (et (iN f) (iN h)))))
 exact⟨rfl,R⟩
def rf (c:bi):Int:=
 bnd (wD c) λ a=>if a=true then bnd (kH c) λ b=>b else 40
theorem wE (w D) (a:bi) (t) (H:Own w D w []) (hr:rf a=t):
    Calls v8 140 #[.agg (bi.cells a).toArray] w (d9 λ v w'=>v=vI t/\Own w D w' []):=by
 refine cb Tryz.func140 ?_
 refine sr ?_
 refine dV (bi.cells a) 72 H ?_
 intro A B i
 refine An rfl (Ic (sr (La (bi.cells a) i 0 M5 M4 ?_)))
 obtain⟨f,b⟩:∃ q,wD a=q:=⟨_,rfl⟩
 obtain⟨C,j,u,k,x⟩:=Ii i
 refine cl Tryz.call159 (AZ _ _ a f j b) ?_
 rintro _ E ⟨rfl,l⟩
 have g:=k _ _ l
 refine Kz (.bool (!f)) (nt ?_)
 rcases Li (f) with c | c
 refine jF (cn c) (sk (sr (La (bi.cells a) g 0 M5 M4 ?_)))
 obtain⟨h,d⟩:∃ q,kH a=q:=⟨_,rfl⟩
 obtain⟨F,m,y,n,z⟩:=Ii g
 refine cl N2 (sN _ _ a h m d) ?_
 rintro _ G ⟨rfl,o,e⟩
 have p:=n _ _ o
 replace e: ¬ (h=0)\/(1<=a.aD/\a.aD<=5):=e
 refine An rfl (rt (rs ?_))
 have r:=p.pk []
 obtain rfl:_=h:=zj hr (et (ah b) (et (ip c) (ah d)))
 exact⟨rfl,r⟩
 refine jT (cn c) (sr (An rfl (rt (tR (rs ?_)))))
 have s:=g.pk []
 obtain rfl:_=40:=zj hr (et (ah b) (gm c))
 exact⟨rfl,s⟩
def kY:List bi->Unit ⊕ Bool
  | []=>B9 ()
  | b::c=>bnd (rf b) λ a=>if a=0 then kY c else C1 (false)
def tT (l0:List bi):Bool:=
 lp (kY l0) λ _=>true
theorem yx (w D n z A l0 K) (H:Own w D w []) (m:Ro w D λ w'=>bE w' 6 n z (q3 bi.cells l0)) (B:z=l0.length) (O:l0.length<=9223372036854775807) (hr:tT l0=K):
    Calls v8 138 #[.slice n z A, .func (.func 140) #[] #[]] w (d9 λ v w'=>v= .bool K/\Own w D w' []):=by
 subst B
 refine cb Tryz.func138 ?_
 refine sr (An rfl (Ic (sr (Mz rfl (Kz (vJ l0.length) (Mn rfl (bo ?_)))))))
 have C:=H.pk []
 obtain⟨E,c⟩:=nQ λ (a:Nat) w'=>Own w D w' []/\a<=l0.length/\kY l0=kY (r3 a l0)
 refine C3 (λ i:Nat=> [(4, .bool false),(9,vJ i),(8,vJ l0.length),(7, .slice n l0.length A),(1, .func (.func 140) #[] #[])]) E (λ i=>l0.length - i) 0 ⟨rfl,rfl,rfl,rfl,rfl,trivial⟩ (c.2 ⟨C,e6,rfl⟩) ?_
 rintro a P o
 obtain⟨d,L,f⟩:=c.1 o
 refine sr (Kz (.bool (decide (((a:Nat):Int) < ((l0.length:Nat):Int)))) (nt (Ic ?_)))
 by_cases p:((a:Nat):Int) < ((l0.length:Nat):Int)
 obtain⟨b,k⟩:=dN (ls:=l0) (i:=a) bi.len f4 (d.ro m) e9
 have l:=drop_at k
 refine jT (dT p) (sk (Ic (bo (sr (fw (.pointer (some ⟨ab n,ao n+a *6,none⟩)) (Ij (qX) rfl rfl ((d.ro m).addr (i:=a) e6) e6) (fw (.agg (bi.cells b).toArray) (Io rfl (Iy (cs:=(bi.cells b)) M5 M4 ((d.ro m).elem bi.len k f4))) ?_))))))
 refine dV [vI 0, .string ⟨v9 ([])⟩, .string ⟨v9 ([])⟩, .string ⟨v9 ([])⟩, .string ⟨v9 ([])⟩,vI 0] 72 d ?_
 intro Q R F
 refine dS (bi.cells b) 0 F M4 ?_
 intro S r
 refine ns (Mz rfl (La (bi.cells b) r 0 M5 M4 ?_))
 obtain⟨h,g⟩:∃ q,rf b=q:=⟨_,rfl⟩
 obtain⟨T,s,M,t,N⟩:=Ii r
 refine WL.do rfl (IK Tryz.call140 rfl rfl (wE _ _ b h s g) ?_)
 rintro _ U ⟨rfl,u⟩
 have x:=t _ _ u
 refine fw (.bool (decide (¬ (h=0)))) (IG (e:= !(decide (h=0))) yk decide_not.symm) (nt ?_)
 by_cases j:h=0
 refine jF (dF (Lh j)) (IE (bN (Ig (Ib (fw (vJ (a+1)) (Ie (e:=C5.wrap (((a:Nat):Int)+1)) yk f0) (Mz rfl (C6 ?_)))))))
 have G:=x.pk []
 exact Ir (a+1) ⟨rfl,rfl,rfl,rfl,rfl,trivial⟩ (c.2 ⟨G,e6,et (f) (et (congrArg (λ q=>kY q) l) (et (ah g) (ip j)))⟩) (by show l0.length - (a+1) < l0.length - a; omega)
 refine jT (dT j) (sr (An rfl (rt (bR (tR (tR (bR (tR (rs ?_)))))))))
 have I:=x.pk []
 obtain rfl:_=false:=zj hr (jm (et (f) (et (congrArg (λ q=>kY q) l) (et (ah g) (iN j)))))
 exact⟨rfl,I⟩
 refine jF (dF p) (C7 (Il ?_))
 have y:kY l0=B9 ():=et (f) (et (congrArg (λ q=>kY q) (fB (ls:=l0) (i:=a) e6)) rfl)
 refine Il (IB (Ig (sr (An rfl (rt (rs ?_))))))
 have J:=d.pk []
 obtain rfl:_=true:=zj hr (nT y)
 exact⟨rfl,J⟩
def rV (d:Int) (l1:List bi):Bool:=
 if d=1 then bnd (oo l1) λ a=>decide (a=0) else if d=3 then if((l1.length:Nat):Int) >= 1 then if((l1.length:Nat):Int)<=24 then bnd (uy l1) λ b=>b else false else false else if((l1.length:Nat):Int)<=6 then bnd (tT l1) λ c=>c else false
theorem yX (w D o g F c1 l1 R) (H:Own w D w []) (l:Ro w D λ w'=>bE w' 6 g F (q3 bi.cells l1)) (G:F=l1.length) (V:l1.length<=9223372036854775807) (hr:rV o l1=R):
    Calls v8 115 #[vI o, .slice g F c1] w (d9 λ v w'=>v= .bool R/\Own w D w' []):=by
 subst G
 refine cb Tryz.func115 ?_
 refine sr (An rfl (Ic (sr (Mn rfl (bo (sr (Kz (.bool (decide (o=1))) (An rfl ?_))))))))
 by_cases b:o=1
 refine jT (dT b) (sr (Mz rfl ?_))
 obtain⟨f,h⟩:∃ q,oo l1=q:=⟨_,rfl⟩
 obtain⟨W,p,r,s,S⟩:=Ii H
 refine cl Tryz.call137 (xw _ _ g l1.length c1 l1 f p (r _ l) rfl e6 h) ?_
 rintro _ X ⟨rfl,t,i⟩
 have I:=s _ _ t
 replace i: ¬ (f=0)\/(1<=l1.length/\l1.length<=4):=i
 refine Kz (.bool (decide (f=0))) (An rfl (rt (bR (tR (rs ?_)))))
 have J:=I.pk []
 obtain rfl:_=decide (f=0):=zj hr (et (ip b) (ah h))
 exact⟨rfl,J⟩
 refine jF (dF b) (sr (Kz (.bool (decide (o=3))) (An rfl ?_)))
 by_cases e:o=3
 refine jT (dT e) (sr (Mz rfl (Kz (vJ l1.length) (Kz (.bool (decide (((l1.length:Nat):Int) >= 1))) (Mz rfl ?_)))))
 by_cases a:((l1.length:Nat):Int) >= 1
 refine gw (.slice g l1.length c1) (dT a) (Iq rfl) (Gz (vJ l1.length) (dT a) (Gz (.bool (decide (((l1.length:Nat):Int)<=24))) (dT a) (fw (.bool (decide (((l1.length:Nat):Int)<=24))) (Iw rfl (dT a) rfl) (Mz rfl ?_))))
 by_cases c:((l1.length:Nat):Int)<=24
 refine gw (.slice g l1.length c1) (dT c) (Iq rfl) ?_
 obtain⟨m,j⟩:∃ q,uy l1=q:=⟨_,rfl⟩
 obtain⟨Y,u,x,y,T⟩:=Ii H
 refine vR (dT c) Tryz.call138 (yV _ _ g l1.length c1 l1 m u (x _ l) rfl e6 j) ?_
 rintro _ Z ⟨rfl,z⟩
 have K:=y _ _ z
 refine fw (.bool m) (Iw rfl (dT c) rfl) (An rfl (rt (bR (tR (rs ?_)))))
 have L:=K.pk []
 obtain rfl:_=m:=zj hr (et (iN b) (et (ip e) (et (ip a) (et (ip c) (ah j)))))
 exact⟨rfl,L⟩
 refine Sz (dF c) (Sz (dF c) (fw (.bool false) (Ih rfl (dF c) rfl) (An rfl (rt (bR (tR (rs ?_)))))))
 have M:=H.pk []
 obtain rfl:_=false:=zj hr (et (iN b) (et (ip e) (et (ip a) (iN c))))
 exact⟨rfl,M⟩
 refine Sz (dF a) (Sz (dF a) (Sz (dF a) (fw (.bool false) (Ih rfl (dF a) rfl) (Mz rfl (Sz rfl (Sz rfl (fw (.bool false) (Ih rfl rfl rfl) (An rfl (rt (bR (tR (rs ?_))))))))))))
 have N:=H.pk []
 obtain rfl:_=false:=zj hr (et (iN b) (et (ip e) (iN a)))
 exact⟨rfl,N⟩
 refine jF (dF e) (IE (bN (Ig (sr (Mz rfl (Kz (vJ l1.length) (Kz (.bool (decide (((l1.length:Nat):Int)<=6))) (Mz rfl ?_))))))))
 by_cases d:((l1.length:Nat):Int)<=6
 refine gw (.slice g l1.length c1) (dT d) (Iq rfl) ?_
 obtain⟨n,k⟩:∃ q,tT l1=q:=⟨_,rfl⟩
 obtain⟨aa,A,B,C,U⟩:=Ii H
 refine vR (dT d) Tryz.call138 (yx _ _ g l1.length c1 l1 n A (B _ l) rfl e6 k) ?_
 rintro _ ae ⟨rfl,E⟩
 have O:=C _ _ E
 refine fw (.bool n) (Iw rfl (dT d) rfl) (An rfl (rt (rs ?_)))
 have P:=O.pk []
 obtain rfl:_=n:=zj hr (et (iN b) (et (iN e) (et (ip d) (ah k))))
 exact⟨rfl,P⟩
 refine Sz (dF d) (Sz (dF d) (fw (.bool false) (Ih rfl (dF d) rfl) (An rfl (rt (rs ?_)))))
 have Q:=H.pk []
 obtain rfl:_=false:=zj hr (et (iN b) (et (iN e) (iN d)))
 exact⟨rfl,Q⟩
def lN (b:Int) (a:Int):Bool:=
 if b=1 then if a >= 1 then decide (a<=4) else false else if b=2 then if a >= 11 then decide (a < 15) else false else decide (a=0)
theorem rq (w D f c l) (H:Own w D w []) (hr:lN f c=l):
    Calls v8 50 #[vI f,vI c] w (d9 λ v w'=>v= .bool l/\Own w D w' []):=by
 refine cb Tryz.func50 ?_
 refine sr (An rfl (Ic (sr (Mn rfl (bo (sr (Kz (.bool (decide (f=1))) (An rfl ?_))))))))
 by_cases d:f=1
 refine jT (dT d) (sr (Mz rfl (Kz (.bool (decide (c >= 1))) (Mz rfl ?_))))
 by_cases a:c >= 1
 refine gw (vI c) (dT a) (Iq rfl) (Gz (.bool (decide (c<=4))) (dT a) (fw (.bool (decide (c<=4))) (Iw rfl (dT a) rfl) (An rfl (rt (bR (tR (rs ?_)))))))
 have g:=H.pk []
 obtain rfl:_=decide (c<=4):=zj hr (et (ip d) (ip a))
 exact⟨rfl,g⟩
 refine Sz (dF a) (Sz (dF a) (fw (.bool false) (Ih rfl (dF a) rfl) (An rfl (rt (bR (tR (rs ?_)))))))
 have h:=H.pk []
 obtain rfl:_=false:=zj hr (et (ip d) (iN a))
 exact⟨rfl,h⟩
 refine jF (dF d) (sr (Kz (.bool (decide (f=2))) (An rfl ?_)))
 by_cases e:f=2
 refine jT (dT e) (sr (Mz rfl (Kz (.bool (decide (c >= 11))) (Mz rfl ?_))))
 by_cases b:c >= 11
 refine gw (vI c) (dT b) (Iq rfl) (Gz (.bool (decide (c < 15))) (dT b) (fw (.bool (decide (c < 15))) (Iw rfl (dT b) rfl) (An rfl (rt (bR (tR (rs ?_)))))))
 have i:=H.pk []
 obtain rfl:_=decide (c < 15):=zj hr (et (iN d) (et (ip e) (ip b)))
 exact⟨rfl,i⟩
 refine Sz (dF b) (Sz (dF b) (fw (.bool false) (Ih rfl (dF b) rfl) (An rfl (rt (bR (tR (rs ?_)))))))
 have j:=H.pk []
 obtain rfl:_=false:=zj hr (et (iN d) (et (ip e) (iN b)))
 exact⟨rfl,j⟩
 refine jF (dF e) (IE (bN (Ig (sr (Mz rfl (Kz (.bool (decide (c=0))) (An rfl (rt (rs ?_)))))))))
 have k:=H.pk []
 obtain rfl:_=decide (c=0):=zj hr (et (iN d) (iN e))
 exact⟨rfl,k⟩
def oZ (a:bL) (b:Int):Bool:=
 if b=2 then bnd (tL a.aD a.dz) λ c=>c else if b=3 then bnd (og a.aD a.ai.ls) λ d=>d else if b=7 then bnd (rV a.aD a.aH.ls) λ e=>e else if b=11 then bnd (kR a.ag.ls) λ f=>decide (f=0) else if b=12 then bnd (lN 1 a.eH) λ g=>g else if b=13 then bnd (kG a.bU) λ h=>decide (h=0) else true
theorem BA (w D) (a:bL) (f z g h B i n j C k o r0) (H:Own w D w []) (N:z=a.aH.ls.length) (O:Ro w D λ w'=>bE w' 6 f a.aH.ls.length (q3 bi.cells a.aH.ls)) (aL:a.aH.ls.length<=g/\a.aH.ls.length<=9223372036854775807) (r:s5 ae.abs n=a.ai.ls) (P:B=a.ai.ls.length) (Q:Ro w D λ w'=>bE w' 3 h a.ai.ls.length (q3 ae.cells n)) (aM:a.ai.ls.length<=i/\a.ai.ls.length<=9223372036854775807) (s:∀ x ∈ n,Ro w D (λ w'=>bE w' 2 x.ak.A x.ak.ls.length (q3 aI.cells x.ak.ls))/\(x.ak.ls.length<=x.ak.c/\x.ak.ls.length<=9223372036854775807)) (R:C=a.ag.ls.length) (S:Ro w D λ w'=>bE w' 2 j a.ag.ls.length (q3 aY.cells a.ag.ls)) (aN:a.ag.ls.length<=k/\a.ag.ls.length<=9223372036854775807) (bJ:a.aH.ls.length<=140737488355328/\a.ai.ls.length<=140737488355328/\a.ag.ls.length<=140737488355328) (hr:oZ a o=r0):
    Calls v8 76 #[.agg (gU a.aD a.aJ a.fI a.aK a.dz a.eH a.aP a.av a.aN a.dY a.aV a.aL a.dL a.cu a.xN a.cz a.bU.bF a.bU.bT f z g h B i j C k).toArray,vI o] w (d9 λ v w'=>v= .bool r0/\Own w D w' []):=by
 subst N P R
 have aK:=aB r
 refine cb Tryz.func76 ?_
 refine sr ?_
 refine dV (iH a f g h i j k) 42 H ?_
 intro d bK b
 refine An rfl (Ic (sr (Mn rfl (bo (sr (Kz (.bool (decide (o=2))) (An rfl ?_)))))))
 by_cases e:o=2
 refine jT (dT e) (sr (Kz (vP d 0) (Lz (vI a.aD) b 0 C4 (Kz (vP d 4) (Lz (vI a.dz) b 0 C4 ?_)))))
 obtain⟨U,E⟩:∃ q,tL a.aD a.dz=q:=⟨_,rfl⟩
 obtain⟨bM,V,bq,W,bu⟩:=Ii b
 refine cl Tryz.call113 (yl _ _ a.aD a.dz U V E) ?_
 rintro _ bO ⟨rfl,X⟩
 have aO:=W _ _ X
 refine An rfl (rt (bR (tR (rs ?_))))
 have aP:=aO.pk []
 obtain rfl:_=U:=zj hr (et (ip e) (ah E))
 exact⟨rfl,aP⟩
 refine jF (dF e) (sr (Kz (.bool (decide (o=3))) (An rfl ?_)))
 by_cases l:o=3
 refine jT (dT l) (sr (Kz (vP d 0) (Lz (vI a.aD) b 0 C4 (Kz (vP d 19) (Lz (.slice h a.ai.ls.length i) b 0 Tryz.isAgg40 ?_)))))
 obtain⟨Y,F⟩:∃ q,og a.aD a.ai.ls=q:=⟨_,rfl⟩
 obtain⟨bP,Z,G,aa,bv⟩:=Ii b
 refine cl Tryz.call114 (wB _ _ a.aD h a.ai.ls.length i n a.ai.ls Y Z r (G _ Q) (λ x9 h9=>⟨G _ (s x9 h9).1,(s x9 h9).2⟩) rfl e6 F) ?_
 rintro _ bQ ⟨rfl,af⟩
 have aQ:=aa _ _ af
 refine An rfl (rt (bR (tR (rs ?_))))
 have aR:=aQ.pk []
 obtain rfl:_=Y:=zj hr (et (iN e) (et (ip l) (ah F)))
 exact⟨rfl,aR⟩
 refine jF (dF l) (sr (Kz (.bool (decide (o=7))) (An rfl ?_)))
 by_cases m:o=7
 refine jT (dT m) (sr (Kz (vP d 0) (Lz (vI a.aD) b 0 C4 (Kz (vP d 18) (Lz (.slice f a.aH.ls.length g) b 0 Tryz.isAgg39 ?_)))))
 obtain⟨ag,I⟩:∃ q,rV a.aD a.aH.ls=q:=⟨_,rfl⟩
 obtain⟨bS,ai,aj,ak,bB⟩:=Ii b
 refine cl Tryz.call115 (yX _ _ a.aD f a.aH.ls.length g a.aH.ls ag ai (aj _ O) rfl e6 I) ?_
 rintro _ bT ⟨rfl,au⟩
 have aS:=ak _ _ au
 refine An rfl (rt (bR (tR (rs ?_))))
 have aT:=aS.pk []
 obtain rfl:_=ag:=zj hr (et (iN e) (et (iN l) (et (ip m) (ah I))))
 exact⟨rfl,aT⟩
 refine jF (dF m) (sr (Kz (.bool (decide (o=11))) (An rfl ?_)))
 by_cases p:o=11
 refine jT (dT p) (sr (Kz (vP d 20) (Lz (.slice j a.ag.ls.length k) b 0 Tryz.isAgg29 ?_)))
 obtain⟨u,J⟩:∃ q,kR a.ag.ls=q:=⟨_,rfl⟩
 obtain⟨bU,av,ax,ay,bD⟩:=Ii b
 refine cl Tryz.call72 (rM _ _ j a.ag.ls.length k a.ag.ls u av (ax _ S) rfl e6 J) ?_
 rintro _ bV ⟨rfl,az,K⟩
 have aU:=ay _ _ az
 replace K: ¬ (u=0)\/(1<=a.ag.ls.length/\a.ag.ls.length<=6):=K
 refine Kz (.bool (decide (u=0))) (An rfl (rt (bR (tR (rs ?_)))))
 have aV:=aU.pk []
 obtain rfl:_=decide (u=0):=zj hr (et (iN e) (et (iN l) (et (iN m) (et (ip p) (ah J)))))
 exact⟨rfl,aV⟩
 refine jF (dF p) (sr (Kz (.bool (decide (o=12))) (An rfl ?_)))
 by_cases t:o=12
 refine jT (dT t) (sr (Kz (vP d 5) (Lz (vI a.eH) b 0 C4 ?_)))
 obtain⟨aA,L⟩:∃ q,lN 1 a.eH=q:=⟨_,rfl⟩
 obtain⟨bW,aC,bF,aD,bG⟩:=Ii b
 refine cl Tryz.call50 (rq _ _ 1 a.eH aA aC L) ?_
 rintro _ bX ⟨rfl,aF⟩
 have aW:=aD _ _ aF
 refine An rfl (rt (bR (tR (rs ?_))))
 have aX:=aW.pk []
 obtain rfl:_=aA:=zj hr (et (iN e) (et (iN l) (et (iN m) (et (iN p) (et (ip t) (ah L))))))
 exact⟨rfl,aX⟩
 refine jF (dF t) (sr (Kz (.bool (decide (o=13))) (An rfl ?_)))
 by_cases y:o=13
 refine jT (dT y) (sr (Kz (vP d 16) (La (bC.cells a.bU) b 0 M7 M6 ?_)))
 obtain⟨T,M⟩:∃ q,kG a.bU=q:=⟨_,rfl⟩
 obtain⟨bY,aG,bH,aH,bI⟩:=Ii b
 refine cl Tryz.call116 (qG _ _ a.bU T aG M) ?_
 rintro _ bZ ⟨rfl,aJ⟩
 have aZ:=aH _ _ aJ
 refine Kz (.bool (decide (T=0))) (An rfl (rt (bR (tR (rs ?_)))))
 have bf:=aZ.pk []
 obtain rfl:_=decide (T=0):=zj hr (et (iN e) (et (iN l) (et (iN m) (et (iN p) (et (iN t) (et (ip y) (ah M)))))))
 exact⟨rfl,bf⟩
 refine jF (dF y) (IE (bN (Ig (sr (An rfl (rt (rs ?_)))))))
 have bg:=b.pk []
 obtain rfl:_=true:=zj hr (et (iN e) (et (iN l) (et (iN m) (et (iN p) (et (iN t) (iN y))))))
 exact⟨rfl,bg⟩
def kD (d:bL):List Int->Unit ⊕ Bool
  | []=>B9 ()
  | b::c=>bnd (oZ d b) λ a=>if a=true then kD d c else C1 (false)
def qC (a:bL) (l1:List Int):Bool:=
 lp (kD a l1) λ _=>true
theorem yY (w D) (a:bL) (h z d j B f m l C g R n1 c1 l1 r0) (H:Own w D w []) (G:z=a.aH.ls.length) (I:Ro w D λ w'=>bE w' 6 h a.aH.ls.length (q3 bi.cells a.aH.ls)) (af:a.aH.ls.length<=d/\a.aH.ls.length<=9223372036854775807) (p:s5 ae.abs m=a.ai.ls) (J:B=a.ai.ls.length) (K:Ro w D λ w'=>bE w' 3 j a.ai.ls.length (q3 ae.cells m)) (ag:a.ai.ls.length<=f/\a.ai.ls.length<=9223372036854775807) (r:∀ x ∈ m,Ro w D (λ w'=>bE w' 2 x.ak.A x.ak.ls.length (q3 aI.cells x.ak.ls))/\(x.ak.ls.length<=x.ak.c/\x.ak.ls.length<=9223372036854775807)) (L:C=a.ag.ls.length) (M:Ro w D λ w'=>bE w' 2 l a.ag.ls.length (q3 aY.cells a.ag.ls)) (ai:a.ag.ls.length<=g/\a.ag.ls.length<=9223372036854775807) (N:Ro w D λ w'=>bE w' 1 R n1 (q3 (eI .i64) l1)) (aj:n1=l1.length) (aH:l1.length *8<=211106232532992) (aJ:a.aH.ls.length<=140737488355328/\a.ai.ls.length<=140737488355328/\a.ag.ls.length<=140737488355328) (hr:qC a l1=r0):
    Calls v8 53 #[.agg (gU a.aD a.aJ a.fI a.aK a.dz a.eH a.aP a.av a.aN a.dY a.aV a.aL a.dL a.cu a.xN a.cz a.bU.bF a.bU.bT h z d j B f l C g).toArray, .slice R n1 c1] w (d9 λ v w'=>v= .bool r0/\Own w D w' []):=by
 subst aj G J L
 have Z:=aB p
 refine cb Tryz.func53 ?_
 refine sr ?_
 refine dV (iH a h d j f l g) 42 H ?_
 intro O aK ak
 refine An rfl (Ic (sr (Mz rfl (Kz (vJ l1.length) (Mn rfl (bo ?_))))))
 have au:=ak.pf []
 obtain⟨av,s⟩:=nQ λ (b:Nat) w'=>Own w D w' [blk O (iH a h d j f l g) 42]/\b<=l1.length/\kD a l1=kD a (r3 b l1)
 refine C3 (λ i:Nat=> [(4, .bool false),(9,vJ i),(8,vJ l1.length),(7, .slice R l1.length c1),(2,vP O 0)]) av (λ i=>l1.length - i) 0 ⟨rfl,rfl,rfl,rfl,rfl,trivial⟩ (s.2 ⟨au,e6,rfl⟩) ?_
 rintro b aL S
 obtain⟨o,aC,t⟩:=s.1 S
 refine sr (Kz (.bool (decide (((b:Nat):Int) < ((l1.length:Nat):Int)))) (nt (Ic ?_)))
 by_cases T:((b:Nat):Int) < ((l1.length:Nat):Int)
 obtain⟨P,E⟩:=dN (ls:=l1) (i:=b) jd f4 (o.ro N) e9
 have F:=drop_at E
 refine jT (dT T) (sk (Ic (bo (sr (fw (.pointer (some ⟨ab R,ao R+b *1,none⟩)) (Ij (Ev) rfl rfl ((o.ro N).addr (i:=b) e6) e6) (fw (vI P) (Io rfl (bZ.one Tryz.isAgg154 (((o.ro N).elem jd E f4).at_ (k:=0) rfl))) (Ar rfl (La (iH a h d j f l g) o 0 Tryz.isAgg42 Tryz.sizeOf42 (Mz rfl ?_)))))))))
 obtain⟨Q,u⟩:∃ q,oZ a P=q:=⟨_,rfl⟩
 obtain⟨aM,U,n,V,aD⟩:=Ii o
 refine cl Tryz.call76 (BA _ _ a h a.aH.ls.length d j a.ai.ls.length f m l a.ag.ls.length g P Q U rfl (n _ I) e6 p rfl (n _ K) e6 (λ x9 h9=>⟨n _ (r x9 h9).1,(r x9 h9).2⟩) rfl (n _ M) e6 i3 u) ?_
 rintro _ aN ⟨rfl,W⟩
 have X:=V _ _ W
 refine Kz (.bool (!Q)) (nt ?_)
 rcases Li (Q) with y | y
 refine jF (cn y) (IE (bN (Ig (Ib (fw (vJ (b+1)) (Ie (e:=C5.wrap (((b:Nat):Int)+1)) yk f0) (Mz rfl (C6 ?_)))))))
 have ax:=X.pf []
 exact Ir (b+1) ⟨rfl,rfl,rfl,rfl,rfl,trivial⟩ (s.2 ⟨ax,e6,et (t) (et (congrArg (λ q=>kD a q) F) (et (ah u) (ip y)))⟩) (by show l1.length - (b+1) < l1.length - b; omega)
 refine jT (cn y) (sr (An rfl (rt (bR (tR (tR (bR (tR (rs ?_)))))))))
 have ay:=X.pk []
 obtain rfl:_=false:=zj hr (jm (et (t) (et (congrArg (λ q=>kD a q) F) (et (ah u) (gm y)))))
 exact⟨rfl,ay⟩
 refine jF (dF T) (C7 (Il ?_))
 have Y:kD a l1=B9 ():=et (t) (et (congrArg (λ q=>kD a q) (fB (ls:=l1) (i:=b) e6)) rfl)
 refine Il (IB (Ig (sr (An rfl (rt (rs ?_))))))
 have az:=o.pk []
 obtain rfl:_=true:=zj hr (nT Y)
 exact⟨rfl,az⟩
def ru (a:bL):Bool:=
 if((di (di (di (di (di (di (di (di a.aP a.av) a.aN) a.dY) a.aV) a.aL) a.dL) a.cu) a.xN:Nat):Int)=0 then if(((a.aH.ls.length+a.ai.ls.length)+a.ag.ls.length:Nat):Int)=0 then if a.aK=0 then if a.dz=0 then if a.eH=0 then if a.cz=true then false else decide ((a.bU.bF=([]))/\(a.bU.bT=([]))) else false else false else false else false else false
theorem zK (w D) (a:bL) (l s m n t o r p y q V) (H:Own w D w []) (z:s=a.aH.ls.length) (G:Ro w D λ w'=>bE w' 6 l a.aH.ls.length (q3 bi.cells a.aH.ls)) (I:a.aH.ls.length<=m/\a.aH.ls.length<=9223372036854775807) (B:s5 ae.abs r=a.ai.ls) (C:t=a.ai.ls.length) (J:Ro w D λ w'=>bE w' 3 n a.ai.ls.length (q3 ae.cells r)) (K:a.ai.ls.length<=o/\a.ai.ls.length<=9223372036854775807) (L:∀ x ∈ r,Ro w D (λ w'=>bE w' 2 x.ak.A x.ak.ls.length (q3 aI.cells x.ak.ls))/\(x.ak.ls.length<=x.ak.c/\x.ak.ls.length<=9223372036854775807)) (E:y=a.ag.ls.length) (M:Ro w D λ w'=>bE w' 2 p a.ag.ls.length (q3 aY.cells a.ag.ls)) (N:a.ag.ls.length<=q/\a.ag.ls.length<=9223372036854775807) (ai:a.aH.ls.length<=140737488355328/\a.ai.ls.length<=140737488355328/\a.ag.ls.length<=140737488355328) (hr:ru a=V):
    Calls v8 51 #[.agg (gU a.aD a.aJ a.fI a.aK a.dz a.eH a.aP a.av a.aN a.dY a.aV a.aL a.dL a.cu a.xN a.cz a.bU.bF a.bU.bT l s m n t o p y q).toArray] w (d9 λ v w'=>v= .bool V/\Own w D w' []):=by
 subst z C E
 have F:=aB B
 refine cb Tryz.func51 ?_
 refine sr ?_
 refine dV (iH a l m n o p q) 42 H ?_
 intro d aj b
 refine Ar rfl (Kz (vP d 6) (Lz (vU a.aP) b 0 D4 (Kz (vP d 7) (Lz (vU a.av) b 0 D4 ?_))))
 have W:di a.aP a.av<=18446744073709551615:=pR _ _
 refine fw (vU (di a.aP a.av)) (Ie (e:=D1.wrap (((BitVec.ofInt 64 ((a.aP:Nat):Int) ||| BitVec.ofInt 64 ((a.av:Nat):Int)).toNat:Nat):Int)) yk (fD _)) (Kz (vP d 8) (Lz (vU a.aN) b 0 D4 ?_))
 have X:di (di a.aP a.av) a.aN<=18446744073709551615:=pR _ _
 refine fw (vU (di (di a.aP a.av) a.aN)) (Ie (e:=D1.wrap (((BitVec.ofInt 64 ((di a.aP a.av:Nat):Int) ||| BitVec.ofInt 64 ((a.aN:Nat):Int)).toNat:Nat):Int)) yk (fD _)) (Kz (vP d 9) (Lz (vU a.dY) b 0 D4 ?_))
 have Y:di (di (di a.aP a.av) a.aN) a.dY<=18446744073709551615:=pR _ _
 refine fw (.int .u64 ((di (di (di a.aP a.av) a.aN) a.dY:Nat):Int)) (Ie (e:=D1.wrap (((BitVec.ofInt 64 ((di (di a.aP a.av) a.aN:Nat):Int) ||| BitVec.ofInt 64 ((a.dY:Nat):Int)).toNat:Nat):Int)) yk (fD _)) (Kz (vP d 10) (Lz (vU a.aV) b 0 D4 ?_))
 have Z:di (di (di (di a.aP a.av) a.aN) a.dY) a.aV<=18446744073709551615:=pR _ _
 refine fw (.int .u64 ((di (di (di (di a.aP a.av) a.aN) a.dY) a.aV:Nat):Int)) (Ie (e:=D1.wrap (((BitVec.ofInt 64 ((di (di (di a.aP a.av) a.aN) a.dY:Nat):Int) ||| BitVec.ofInt 64 ((a.aV:Nat):Int)).toNat:Nat):Int)) yk (fD _)) (Kz (vP d 11) (Lz (vU a.aL) b 0 D4 ?_))
 have aa:di (di (di (di (di a.aP a.av) a.aN) a.dY) a.aV) a.aL<=18446744073709551615:=pR _ _
 refine fw (.int .u64 ((di (di (di (di (di a.aP a.av) a.aN) a.dY) a.aV) a.aL:Nat):Int)) (Ie (e:=D1.wrap (((BitVec.ofInt 64 ((di (di (di (di a.aP a.av) a.aN) a.dY) a.aV:Nat):Int) ||| BitVec.ofInt 64 ((a.aL:Nat):Int)).toNat:Nat):Int)) yk (fD _)) (Kz (vP d 12) (Lz (vU a.dL) b 0 D4 ?_))
 have af:di (di (di (di (di (di a.aP a.av) a.aN) a.dY) a.aV) a.aL) a.dL<=18446744073709551615:=pR _ _
 refine fw (.int .u64 ((di (di (di (di (di (di a.aP a.av) a.aN) a.dY) a.aV) a.aL) a.dL:Nat):Int)) (Ie (e:=D1.wrap (((BitVec.ofInt 64 ((di (di (di (di (di a.aP a.av) a.aN) a.dY) a.aV) a.aL:Nat):Int) ||| BitVec.ofInt 64 ((a.dL:Nat):Int)).toNat:Nat):Int)) yk (fD _)) (Kz (vP d 13) (Lz (vU a.cu) b 0 D4 ?_))
 have ag:di (di (di (di (di (di (di a.aP a.av) a.aN) a.dY) a.aV) a.aL) a.dL) a.cu<=18446744073709551615:=pR _ _
 refine fw (.int .u64 ((di (di (di (di (di (di (di a.aP a.av) a.aN) a.dY) a.aV) a.aL) a.dL) a.cu:Nat):Int)) (Ie (e:=D1.wrap (((BitVec.ofInt 64 ((di (di (di (di (di (di a.aP a.av) a.aN) a.dY) a.aV) a.aL) a.dL:Nat):Int) ||| BitVec.ofInt 64 ((a.cu:Nat):Int)).toNat:Nat):Int)) yk (fD _)) (Kz (vP d 14) (Lz (vU a.xN) b 0 D4 ?_))
 have ah:di (di (di (di (di (di (di (di a.aP a.av) a.aN) a.dY) a.aV) a.aL) a.dL) a.cu) a.xN<=18446744073709551615:=pR _ _
 refine fw (.int .u64 ((di (di (di (di (di (di (di (di a.aP a.av) a.aN) a.dY) a.aV) a.aL) a.dL) a.cu) a.xN:Nat):Int)) (Ie (e:=D1.wrap (((BitVec.ofInt 64 ((di (di (di (di (di (di (di a.aP a.av) a.aN) a.dY) a.aV) a.aL) a.dL) a.cu:Nat):Int) ||| BitVec.ofInt 64 ((a.xN:Nat):Int)).toNat:Nat):Int)) yk (fD _)) (Ar rfl (Kz (vP d 18) (Lz (.slice l a.aH.ls.length m) b 0 Tryz.isAgg39 (Kz (vJ a.aH.ls.length) (Kz (vP d 19) (Lz (.slice n a.ai.ls.length o) b 0 Tryz.isAgg40 (Kz (vJ a.ai.ls.length) (fw (vJ (a.aH.ls.length+a.ai.ls.length)) (Ie (e:=C5.wrap (((a.aH.ls.length:Nat):Int)+((a.ai.ls.length:Nat):Int))) yk f0) (Kz (vP d 20) (Lz (.slice p a.ag.ls.length q) b 0 Tryz.isAgg29 (Kz (vJ a.ag.ls.length) (fw (vJ ((a.aH.ls.length+a.ai.ls.length)+a.ag.ls.length)) (Ie (e:=C5.wrap (((a.aH.ls.length+a.ai.ls.length:Nat):Int)+((a.ag.ls.length:Nat):Int))) yk f0) (Ar rfl (Mz rfl (Kz (.bool (decide (((di (di (di (di (di (di (di (di a.aP a.av) a.aN) a.dY) a.aV) a.aL) a.dL) a.cu) a.xN:Nat):Int)=0))) (Mz rfl ?_))))))))))))))))
 by_cases g:((di (di (di (di (di (di (di (di a.aP a.av) a.aN) a.dY) a.aV) a.aL) a.dL) a.cu) a.xN:Nat):Int)=0
 refine gw (vJ ((a.aH.ls.length+a.ai.ls.length)+a.ag.ls.length)) (dT g) (Iq rfl) (Gz (.bool (decide ((((a.aH.ls.length+a.ai.ls.length)+a.ag.ls.length:Nat):Int)=0))) (dT g) (fw (.bool (decide ((((a.aH.ls.length+a.ai.ls.length)+a.ag.ls.length:Nat):Int)=0))) (Iw rfl (dT g) rfl) (Mz rfl ?_)))
 by_cases f:(((a.aH.ls.length+a.ai.ls.length)+a.ag.ls.length:Nat):Int)=0
 refine Gz (vP d 3) (dT f) (Gl (vI a.aK) (dT f) b 0 C4 (Gz (.bool (decide (a.aK=0))) (dT f) (fw (.bool (decide (a.aK=0))) (Iw rfl (dT f) rfl) (Mz rfl ?_))))
 by_cases h:a.aK=0
 refine Gz (vP d 4) (dT h) (Gl (vI a.dz) (dT h) b 0 C4 (Gz (.bool (decide (a.dz=0))) (dT h) (fw (.bool (decide (a.dz=0))) (Iw rfl (dT h) rfl) (Mz rfl ?_))))
 by_cases j:a.dz=0
 refine Gz (vP d 5) (dT j) (Gl (vI a.eH) (dT j) b 0 C4 (Gz (.bool (decide (a.eH=0))) (dT j) (fw (.bool (decide (a.eH=0))) (Iw rfl (dT j) rfl) (Mz rfl ?_))))
 by_cases k:a.eH=0
 refine Gz (vP d 15) (dT k) (Gl (.bool a.cz) (dT k) b 0 N3 (Gz (.bool (!a.cz)) (dT k) (fw (.bool (!a.cz)) (Iw rfl (dT k) rfl) (Mz rfl ?_))))
 rcases Li (a.cz) with i | i
 refine Sz (cn i) (Sz (cn i) (Sz (cn i) (Sz (cn i) (fw (.bool false) (Ih rfl (cn i) rfl) (An rfl (rt (rs ?_)))))))
 have O:=b.pk []
 obtain rfl:_=false:=zj hr (et (ip g) (et (ip f) (et (ip h) (et (ip j) (et (ip k) (ip i))))))
 exact⟨rfl,O⟩
 refine Gz (vP d 16) (cn i) (Ga (bC.cells a.bU) (cn i) b 0 M7 M6 (Gz (.agg #[.string ⟨v9 ([])⟩, .string ⟨v9 ([])⟩]) (cn i) (gw (.bool (decide ((a.bU.bF=([]))/\(a.bU.bT=([]))))) (cn i) (KH rfl rfl e7 rfl (ku.struct Tryz.underlying38 e7 (jO.dec (jO.cons (u:= .string ⟨v9 a.bU.bF⟩) (v:= .string ⟨v9 ([])⟩) f4 (λ _=>by kernel_rfl) (λ _=>by kernel_rfl) (ku.string B3) (jO.cons (u:= .string ⟨v9 a.bU.bT⟩) (v:= .string ⟨v9 ([])⟩) f4 (λ _=>by kernel_rfl) (λ _=>by kernel_rfl) (ku.string B3) (jO.nil.up (Lg _)))) ((congrArg (decide (a.bU.bF=([])) && ·) rF).trans jA)))) (fw (.bool (decide ((a.bU.bF=([]))/\(a.bU.bT=([]))))) (Iw rfl (cn i) rfl) (An rfl (rt (rs ?_)))))))
 have P:=b.pk []
 obtain rfl:_=decide ((a.bU.bF=([]))/\(a.bU.bT=([]))):=zj hr (et (ip g) (et (ip f) (et (ip h) (et (ip j) (et (ip k) (gm i))))))
 exact⟨rfl,P⟩
 refine Sz (dF k) (Sz (dF k) (Sz (dF k) (fw (.bool false) (Ih rfl (dF k) rfl) (Mz rfl (Sz rfl (Sz rfl (Sz rfl (Sz rfl (fw (.bool false) (Ih rfl rfl rfl) (An rfl (rt (rs ?_))))))))))))
 have Q:=b.pk []
 obtain rfl:_=false:=zj hr (et (ip g) (et (ip f) (et (ip h) (et (ip j) (iN k)))))
 exact⟨rfl,Q⟩
 refine Sz (dF j) (Sz (dF j) (Sz (dF j) (fw (.bool false) (Ih rfl (dF j) rfl) (Mz rfl (Sz rfl (Sz rfl (Sz rfl (fw (.bool false) (Ih rfl rfl rfl) (Mz rfl (Sz rfl (Sz rfl (Sz rfl (Sz rfl (fw (.bool false) (Ih rfl rfl rfl) (An rfl (rt (rs ?_)))))))))))))))))
 have R:=b.pk []
 obtain rfl:_=false:=zj hr (et (ip g) (et (ip f) (et (ip h) (iN j))))
 exact⟨rfl,R⟩
 refine Sz (dF h) (Sz (dF h) (Sz (dF h) (fw (.bool false) (Ih rfl (dF h) rfl) (Mz rfl (Sz rfl (Sz rfl (Sz rfl (fw (.bool false) (Ih rfl rfl rfl) (Mz rfl (Sz rfl (Sz rfl (Sz rfl (fw (.bool false) (Ih rfl rfl rfl) (Mz rfl (Sz rfl (Sz rfl (Sz rfl (Sz rfl (fw (.bool false) (Ih rfl rfl rfl) (An rfl (rt (rs ?_))))))))))))))))))))))
 have S:=b.pk []
 obtain rfl:_=false:=zj hr (et (ip g) (et (ip f) (iN h)))
 exact⟨rfl,S⟩
 refine Sz (dF f) (Sz (dF f) (Sz (dF f) (fw (.bool false) (Ih rfl (dF f) rfl) (Mz rfl (Sz rfl (Sz rfl (Sz rfl (fw (.bool false) (Ih rfl rfl rfl) (Mz rfl (Sz rfl (Sz rfl (Sz rfl (fw (.bool false) (Ih rfl rfl rfl) (Mz rfl (Sz rfl (Sz rfl (Sz rfl (fw (.bool false) (Ih rfl rfl rfl) (Mz rfl (Sz rfl (Sz rfl (Sz rfl (Sz rfl (fw (.bool false) (Ih rfl rfl rfl) (An rfl (rt (rs ?_)))))))))))))))))))))))))))
 have T:=b.pk []
 obtain rfl:_=false:=zj hr (et (ip g) (iN f))
 exact⟨rfl,T⟩
 refine Sz (dF g) (Sz (dF g) (fw (.bool false) (Ih rfl (dF g) rfl) (Mz rfl (Sz rfl (Sz rfl (Sz rfl (fw (.bool false) (Ih rfl rfl rfl) (Mz rfl (Sz rfl (Sz rfl (Sz rfl (fw (.bool false) (Ih rfl rfl rfl) (Mz rfl (Sz rfl (Sz rfl (Sz rfl (fw (.bool false) (Ih rfl rfl rfl) (Mz rfl (Sz rfl (Sz rfl (Sz rfl (fw (.bool false) (Ih rfl rfl rfl) (Mz rfl (Sz rfl (Sz rfl (Sz rfl (Sz rfl (fw (.bool false) (Ih rfl rfl rfl) (An rfl (rt (rs ?_)))))))))))))))))))))))))))))))
 have U:=b.pk []
 obtain rfl:_=false:=zj hr (iN g)
 exact⟨rfl,U⟩
end
open _root_.Go.Proofs.Tryz renaming isAgg125->N4,isAgg42->N5,sizeOf28->N7,sizeOf42->N6
section
open Go.RowKit
def cB (u:bL) (s:gZ):List Int->Int->Int->Nat->Nat->Nat->Nat->Nat->Nat->Nat->Nat->Nat->Bool->List UInt8->List UInt8->List bi->List aQ->List aY->Int × Int × Nat × Nat × Nat × Nat × Nat × Nat × Nat × Nat × Nat × Bool × (List UInt8) × (List UInt8) × (List bi) × (List aQ) × (List aY)
  | [],b,c,d,e,f,g,h,i,j,k,l,m,n,o,p,q,r=>(b,c,d,e,f,g,h,i,j,k,l,m,n,o,p,q,r)
  | a::t,b,c,d,e,f,g,h,i,j,k,l,m,n,o,p,q,r=>if a=0 then cB u s t b c 0 e f g h i j k l m n o p q r else if a=1 then cB u s t b c d 0 f g h i j k l m n o p q r else if a=2 then cB u s t 0 c d e f g h i j k l m n o p q r else if a=3 then cB u s t b c d e f g h i j k l m n o p [] r else if a=4 then cB u s t b c d e 0 g h i j k l m n o p q r else if a=5 then cB u s t b c d e f 0 h i j k l m n o p q r else if a=6 then cB u s t b c d e f g h 0 j k l m n o p q r else if a=7 then cB u s t b c d e f g h i j k l m n o [] q r else if a=8 then cB u s t b c d e f g h i j k l false n o p q r else if a=9 then cB u s t b c d e f g 0 i j k l m n o p q r else if a=10 then cB u s t b c d e f g h i 0 k l m n o p q r else if a=11 then cB u s t b c d e f g h i j k l m n o p q [] else if a=12 then cB u s t b 0 d e f g h i j k l m n o p q r else if a=13 then cB u s t b c d e f g h i j k l m [] [] p q r else if a=14 then cB u s t b c d e f g h i j 0 l m n o p q r else if a=15 then cB u s t b c d e f g h i j k 0 m n o p q r else cB u s t b c d e f g h i j k l m n o p q r
def lQ (a:bL):Int:=
 bnd (pu a.aD) λ b=>if b.2=true then bnd (lN b.1.mG a.aJ) λ e=>if e=true then bnd (lN b.1.pM a.fI) λ f=>if f=true then bnd (cB a b.1 b.1.cK.ls a.dz a.eH a.aP a.av a.aN a.dY a.aV a.aL a.dL a.cu a.xN a.cz a.bU.bF a.bU.bT a.aH.ls a.ai.ls a.ag.ls) λ sLrbtbtbtL=>bnd (ru (bL.mk a.aD a.aJ a.fI a.aK sLrbtbtbtL.1 sLrbtbtbtL.2.1 sLrbtbtbtL.2.2.1 sLrbtbtbtL.2.2.2.1 sLrbtbtbtL.2.2.2.2.1 sLrbtbtbtL.2.2.2.2.2.1 sLrbtbtbtL.2.2.2.2.2.2.1 sLrbtbtbtL.2.2.2.2.2.2.2.1 sLrbtbtbtL.2.2.2.2.2.2.2.2.1 sLrbtbtbtL.2.2.2.2.2.2.2.2.2.1 sLrbtbtbtL.2.2.2.2.2.2.2.2.2.2.1 sLrbtbtbtL.2.2.2.2.2.2.2.2.2.2.2.1 (bC.mk sLrbtbtbtL.2.2.2.2.2.2.2.2.2.2.2.2.1 sLrbtbtbtL.2.2.2.2.2.2.2.2.2.2.2.2.2.1) (E2 sLrbtbtbtL.2.2.2.2.2.2.2.2.2.2.2.2.2.2.1) (E2 sLrbtbtbtL.2.2.2.2.2.2.2.2.2.2.2.2.2.2.2.1) (E2 sLrbtbtbtL.2.2.2.2.2.2.2.2.2.2.2.2.2.2.2.2))) λ c=>if c=true then bnd (qC a b.1.cK.ls) λ d=>if d=true then if b.1.mG=1 then if b.1.pM=1 then if a.aJ=a.fI then 180 else 0 else 0 else 0 else 180 else 180 else 180 else 180 else 180
set_option maxHeartbeats 8000000 in
theorem vK (w D) (a:bL) (ak bY aa au cu af aJ av cz ag r0) (H:Own w D w []) (dh:bY=a.aH.ls.length) (bM:Ro w D λ w'=>bE w' 6 ak a.aH.ls.length (q3 bi.cells a.aH.ls)) (ic:a.aH.ls.length<=aa/\a.aH.ls.length<=9223372036854775807) (bn:s5 ae.abs aJ=a.ai.ls) (di:cu=a.ai.ls.length) (bO:Ro w D λ w'=>bE w' 3 au a.ai.ls.length (q3 ae.cells aJ)) (ig:a.ai.ls.length<=af/\a.ai.ls.length<=9223372036854775807) (bq:∀ x ∈ aJ,Ro w D (λ w'=>bE w' 2 x.ak.A x.ak.ls.length (q3 aI.cells x.ak.ls))/\(x.ak.ls.length<=x.ak.c/\x.ak.ls.length<=9223372036854775807)) (dm:cz=a.ag.ls.length) (bP:Ro w D λ w'=>bE w' 2 av a.ag.ls.length (q3 aY.cells a.ag.ls)) (ik:a.ag.ls.length<=ag/\a.ag.ls.length<=9223372036854775807) (jH:a.aH.ls.length<=140737488355328/\a.ai.ls.length<=140737488355328/\a.ag.ls.length<=140737488355328) (hr:lQ a=r0):
    Calls Tryz.prog 21 #[.agg (gU a.aD a.aJ a.fI a.aK a.dz a.eH a.aP a.av a.aN a.dY a.aV a.aL a.dL a.cu a.xN a.cz a.bU.bF a.bU.bT ak bY aa au cu af av cz ag).toArray] w (d9 λ v w'=>v=vI r0/\Own w D w' []):=by
 unfold lQ at hr
 subst dh di dm
 have ib:=aB bn
 refine cb Tryz.func21 ?_
 refine sr ?_
 refine dV (iH a ak aa au af av ag) 42 H ?_
 intro bK jI dG
 refine Ar rfl (Kz (vP bK 0) (Lz (vI a.aD) dG 0 C4 ?_))
 obtain⟨⟨d,bR⟩,aL⟩:∃ q:gZ × Bool,pu a.aD=q:=⟨_,rfl⟩
 obtain⟨jJ,dH,iT,dI,iU⟩:=Ii dG
 refine cl Tryz.call49 (xL _ _ a.aD d bR dH aL) ?_
 rintro _ jK ⟨aZ,bu,rfl,dJ,cK⟩
 have dK:=dI _ _ dJ
 have iV:=zr 0 dK
 replace cK:d.cK.ls.length<=5:=cK
 refine Mz rfl (Kz (.agg #[vI d.mG,vI d.pM, .slice aZ d.cK.ls.length bu]) (Kz (.bool bR) ?_))
 refine dV [vI 0,vI 0, .slice none 0 0] 128 dK ?_
 intro bB jM il
 refine dS [vI d.mG,vI d.pM, .slice aZ d.cK.ls.length bu] 0 il Tryz.sizeOf128 ?_
 intro jN bS
 refine An rfl (Ic (sr (Mz rfl (Kz (.bool (!bR)) (Mz rfl ?_)))))
 rcases Li (bR) with aj | aj
 refine Gz (vP bB 0) (cn aj) (Gl (vI d.mG) (cn aj) bS 0 N4 (Gz (vP bK 1) (cn aj) (Gl (vI a.aJ) (cn aj) bS 2 C4 ?_)))
 obtain⟨bT,aP⟩:∃ q,lN d.mG a.aJ=q:=⟨_,rfl⟩
 obtain⟨jO,dL,iW,dM,iX⟩:=Ii bS
 refine vR (cn aj) Tryz.call50 (rq _ _ d.mG a.aJ bT dL aP) ?_
 rintro _ jP ⟨rfl,dO⟩
 have bU:=dM _ _ dO
 refine Gz (.bool (!bT)) (cn aj) (fw (.bool (!bT)) (Ih rfl (cn aj) rfl) (Mz rfl ?_))
 rcases Li (bT) with ax | ax
 refine Gz (vP bB 1) (cn ax) (Gl (vI d.pM) (cn ax) bU 0 N4 (Gz (vP bK 2) (cn ax) (Gl (vI a.fI) (cn ax) bU 2 C4 ?_)))
 obtain⟨bV,aU⟩:∃ q,lN d.pM a.fI=q:=⟨_,rfl⟩
 obtain⟨jQ,dP,iY,dQ,iZ⟩:=Ii bU
 refine vR (cn ax) Tryz.call50 (rq _ _ d.pM a.fI bV dP aU) ?_
 rintro _ jR ⟨rfl,dR⟩
 have bW:=dQ _ _ dR
 refine Gz (.bool (!bV)) (cn ax) (fw (.bool (!bV)) (Ih rfl (cn ax) rfl) (Mz rfl ?_))
 rcases Li (bV) with aA | aA
 refine Ga (iH a ak aa au af av ag) (cn aA) bW 2 N5 N6 (Gz (vP bB 2) (cn aA) (Gl (.slice aZ d.cK.ls.length bu) (cn aA) bW 0 Tryz.isAgg126 ?_))
 refine Jm rfl rfl (cn aA) rfl (Iz Tryz.call52 rfl ?_ (λ _ _ k=>k))
 refine cb Tryz.func52 ?_
 refine sr ?_
 refine dV (iH a ak aa au af av ag) 42 bW ?_
 intro aF jS iq
 refine dV (gU 0 0 0 0 0 0 0 0 0 0 0 0 0 0 0 false [] [] none 0 0 none 0 0 none 0 0) 42 iq ?_
 intro dn jU iw
 refine nt (Ic (sr (Mz rfl (Kz (vJ d.cK.ls.length) (Mn rfl (bo ?_))))))
 have iy:=iw.pf []
 obtain⟨dU,I⟩:=G6 λ (b:Nat) (z:Int) (B:Int) (j:Nat) (l:Nat) (n:Nat) (o:Nat) (p:Nat) (r:Nat) (s:Nat) (t:Nat) (u:Nat) C E F W (R:Nat) f X (S:Nat) T g Y (U:Nat) h w'=>Own w D w' [blk dn (gU 0 0 0 0 0 0 0 0 0 0 0 0 0 0 0 false [] [] none 0 0 none 0 0 none 0 0) 42,blk aF (gU a.aD a.aJ a.fI a.aK z B j l n o p r s t u C E F W f.length R X g.length S Y h.length U) 42,blk bB [vI d.mG,vI d.pM, .slice aZ d.cK.ls.length bu] 128,row aZ d.cK.ls.length bu (q3 (eI .i64) d.cK.ls) 154 1,blk bK (iH a ak aa au af av ag) 42]/\jL 6 ak aa a.aH.ls W R f/\jL 3 au af aJ X S T/\s5 ae.abs T=g/\jL 2 av ag a.ag.ls Y U h/\b<=d.cK.ls.length/\j<=a.aP+b/\l<=a.av+b/\n<=a.aN+b/\o<=a.dY+b/\p<=a.aV+b/\r<=a.aL+b/\s<=a.dL+b/\t<=a.cu+b/\u<=a.xN+b/\cB a d d.cK.ls a.dz a.eH a.aP a.av a.aN a.dY a.aV a.aL a.dL a.cu a.xN a.cz a.bU.bF a.bU.bT a.aH.ls a.ai.ls a.ag.ls=cB a d (r3 b d.cK.ls) z B j l n o p r s t u C E F f g h
 refine Wp.loop (λ i:Nat × Int × Int × Nat × Nat × Nat × Nat × Nat × Nat × Nat × Nat × Nat × Bool × (List UInt8) × (List UInt8) × (Option Addr) × Nat × (List bi) × (Option Addr) × Nat × (List ae) × (List aQ) × (Option Addr) × Nat × (List aY)=> [(9,vJ i.1),(8,vJ d.cK.ls.length),(7, .slice aZ d.cK.ls.length bu),(4,vP dn 0),(2,vP aF 0)]) dU (λ i=>d.cK.ls.length - i.1) (0,a.dz,a.eH,a.aP,a.av,a.aN,a.dY,a.aV,a.aL,a.dL,a.cu,a.xN,a.cz,a.bU.bF,a.bU.bT,ak,aa,a.aH.ls,au,af,aJ,a.ai.ls,av,ag,a.ag.ls) ⟨rfl,rfl,rfl,rfl,rfl,trivial⟩ (I.2 ⟨iy,by exact(jL.refl e6),by exact(jL.refl e6),by exact bn,by exact(jL.refl e6),e6,e6,e6,e6,e6,e6,e6,e6,e6,e6,rfl⟩) ?_
 rintro ⟨b,z,B,j,l,n,o,p,r,s,t,u,C,E,F,W,R,f,X,S,T,g,Y,U,h⟩ ja dw
 obtain⟨O,K,G,J,L,iA,iB,iC,iD,iE,iF,iG,iI,iJ,iK,M⟩:=I.1 dw
 have iL:=(K).le
 have iM:=(G).le
 have iO:=aB J
 have iP:=(L).le
 refine sr (Kz (.bool (decide ((b:Int) < (d.cK.ls.length:Int)))) (nt (Ic ?_)))
 by_cases cO:(b:Int) < (d.cK.ls.length:Int)
 obtain⟨y,bQ⟩:=dN (ls:=d.cK.ls) (i:=b) jd f4 (O.rds (i:=3) rfl) e9
 have N:=drop_at bQ
 refine jT (dT cO) (sk (Ic (bo (sr (fw (.pointer (some ⟨ab aZ,ao aZ+b *1,none⟩)) (Ij (Ev) rfl rfl ((O.rds (i:=3) rfl).addr (i:=b) e6) e6) (fw (vI y) (Io rfl (bZ.one Tryz.isAgg154 (((O.rds (i:=3) rfl).elem jd bQ f4).at_ (k:=0) rfl))) (Ar rfl (Mn rfl (bo (sr (Kz (.bool (decide (y=0))) (An rfl ?_))))))))))))
 by_cases P:y=0
 refine jT (dT P) (Ib (Kz (vP aF 6) ?_))
 have dW:=O.pf [1]
 refine dS [.int .u64 0] 6 dW N7 ?_
 intro jb dX
 refine C6 (bN (bN (Ig (Ib (fw (vJ (b+1)) (Ie (e:=C5.wrap ((b:Int)+1)) yk f0) (Mz rfl (C6 ?_)))))))
 have dY:=dX.pf [1]
 exact Ir (b+1,z,B,0,l,n,o,p,r,s,t,u,C,E,F,W,R,f,X,S,T,g,Y,U,h) ⟨rfl,rfl,rfl,rfl,rfl,trivial⟩ (I.2 ⟨dY,by exact K,by exact G,by exact J,by exact L,e6,e6,e6,e6,e6,e6,e6,e6,e6,e6,et (M) (et (congrArg (λ q=>cB a d q z B j l n o p r s t u C E F f g h) N) (ip P))⟩) (by show d.cK.ls.length - (b+1) < d.cK.ls.length - b; omega)
 refine jF (dF P) (sr (Kz (.bool (decide (y=1))) (An rfl ?_)))
 by_cases V:y=1
 refine jT (dT V) (Ib (Kz (vP aF 7) ?_))
 have dZ:=O.pf [1]
 refine dS [.int .u64 0] 7 dZ N7 ?_
 intro jc ed
 refine C6 (bN (bN (Ig (Ib (fw (vJ (b+1)) (Ie (e:=C5.wrap ((b:Int)+1)) yk f0) (Mz rfl (C6 ?_)))))))
 have ek:=ed.pf [1]
 exact Ir (b+1,z,B,j,0,n,o,p,r,s,t,u,C,E,F,W,R,f,X,S,T,g,Y,U,h) ⟨rfl,rfl,rfl,rfl,rfl,trivial⟩ (I.2 ⟨ek,by exact K,by exact G,by exact J,by exact L,e6,e6,e6,e6,e6,e6,e6,e6,e6,e6,et (M) (et (congrArg (λ q=>cB a d q z B j l n o p r s t u C E F f g h) N) (et (iN P) (ip V)))⟩) (by show d.cK.ls.length - (b+1) < d.cK.ls.length - b; omega)
 refine jF (dF V) (sr (Kz (.bool (decide (y=2))) (An rfl ?_)))
 by_cases Z:y=2
 refine jT (dT Z) (Ib (Kz (vP aF 4) ?_))
 have eu:=O.pf [1]
 refine dS [vI 0] 4 eu Tryz.sizeOf3 ?_
 intro je eB
 refine C6 (bN (bN (Ig (Ib (fw (vJ (b+1)) (Ie (e:=C5.wrap ((b:Int)+1)) yk f0) (Mz rfl (C6 ?_)))))))
 have eD:=eB.pf [1]
 exact Ir (b+1,0,B,j,l,n,o,p,r,s,t,u,C,E,F,W,R,f,X,S,T,g,Y,U,h) ⟨rfl,rfl,rfl,rfl,rfl,trivial⟩ (I.2 ⟨eD,by exact K,by exact G,by exact J,by exact L,e6,e6,e6,e6,e6,e6,e6,e6,e6,e6,et (M) (et (congrArg (λ q=>cB a d q z B j l n o p r s t u C E F f g h) N) (et (iN P) (et (iN V) (ip Z))))⟩) (by show d.cK.ls.length - (b+1) < d.cK.ls.length - b; omega)
 refine jF (dF Z) (sr (Kz (.bool (decide (y=3))) (An rfl ?_)))
 by_cases ai:y=3
 refine jT (dT ai) (Ib (Kz (vP aF 19) ?_))
 have eF:=O.pf [1]
 refine dS [.slice none 0 0] 19 eF Tryz.sizeOf40 ?_
 intro jg eG
 refine C6 (bN (bN (Ig (Ib (fw (vJ (b+1)) (Ie (e:=C5.wrap ((b:Int)+1)) yk f0) (Mz rfl (C6 ?_)))))))
 have eH:=eG.pf [1]
 exact Ir (b+1,z,B,j,l,n,o,p,r,s,t,u,C,E,F,W,R,f,none,0, [], [],Y,U,h) ⟨rfl,rfl,rfl,rfl,rfl,trivial⟩ (I.2 ⟨eH,(show jL 6 ak aa a.aH.ls W R f/\jL 3 au af aJ none 0 []/\s5 ae.abs []=[]/\jL 2 av ag a.ag.ls Y U h/\(b+1)<=d.cK.ls.length/\j<=a.aP+(b+1)/\l<=a.av+(b+1)/\n<=a.aN+(b+1)/\o<=a.dY+(b+1)/\p<=a.aV+(b+1)/\r<=a.aL+(b+1)/\s<=a.dL+(b+1)/\t<=a.cu+(b+1)/\u<=a.xN+(b+1)/\cB a d d.cK.ls a.dz a.eH a.aP a.av a.aN a.dY a.aV a.aL a.dL a.cu a.xN a.cz a.bU.bF a.bU.bT a.aH.ls a.ai.ls a.ag.ls=cB a d (r3 (b+1) d.cK.ls) z B j l n o p r s t u C E F f [] h from ⟨by exact K,by exact jL.nil,by exact rfl,by exact L,e6,e6,e6,e6,e6,e6,e6,e6,e6,e6,et (M) (et (congrArg (λ q=>cB a d q z B j l n o p r s t u C E F f g h) N) (et (iN P) (et (iN V) (et (iN Z) (ip ai)))))⟩)⟩) (by show d.cK.ls.length - (b+1) < d.cK.ls.length - b; omega)
 refine jF (dF ai) (sr (Kz (.bool (decide (y=4))) (An rfl ?_)))
 by_cases ay:y=4
 refine jT (dT ay) (Ib (Kz (vP aF 8) ?_))
 have eO:=O.pf [1]
 refine dS [.int .u64 0] 8 eO N7 ?_
 intro jh eP
 refine C6 (bN (bN (Ig (Ib (fw (vJ (b+1)) (Ie (e:=C5.wrap ((b:Int)+1)) yk f0) (Mz rfl (C6 ?_)))))))
 have eQ:=eP.pf [1]
 exact Ir (b+1,z,B,j,l,0,o,p,r,s,t,u,C,E,F,W,R,f,X,S,T,g,Y,U,h) ⟨rfl,rfl,rfl,rfl,rfl,trivial⟩ (I.2 ⟨eQ,by exact K,by exact G,by exact J,by exact L,e6,e6,e6,e6,e6,e6,e6,e6,e6,e6,et (M) (et (congrArg (λ q=>cB a d q z B j l n o p r s t u C E F f g h) N) (et (iN P) (et (iN V) (et (iN Z) (et (iN ai) (ip ay))))))⟩) (by show d.cK.ls.length - (b+1) < d.cK.ls.length - b; omega)
 refine jF (dF ay) (sr (Kz (.bool (decide (y=5))) (An rfl ?_)))
 by_cases aC:y=5
 refine jT (dT aC) (Ib (Kz (vP aF 9) ?_))
 have eT:=O.pf [1]
 refine dS [.int .u64 0] 9 eT N7 ?_
 intro ji eU
 refine C6 (bN (bN (Ig (Ib (fw (vJ (b+1)) (Ie (e:=C5.wrap ((b:Int)+1)) yk f0) (Mz rfl (C6 ?_)))))))
 have eX:=eU.pf [1]
 exact Ir (b+1,z,B,j,l,n,0,p,r,s,t,u,C,E,F,W,R,f,X,S,T,g,Y,U,h) ⟨rfl,rfl,rfl,rfl,rfl,trivial⟩ (I.2 ⟨eX,by exact K,by exact G,by exact J,by exact L,e6,e6,e6,e6,e6,e6,e6,e6,e6,e6,et (M) (et (congrArg (λ q=>cB a d q z B j l n o p r s t u C E F f g h) N) (et (iN P) (et (iN V) (et (iN Z) (et (iN ai) (et (iN ay) (ip aC)))))))⟩) (by show d.cK.ls.length - (b+1) < d.cK.ls.length - b; omega)
 refine jF (dF aC) (sr (Kz (.bool (decide (y=6))) (An rfl ?_)))
 by_cases aD:y=6
 refine jT (dT aD) (Ib (Kz (vP aF 11) ?_))
 have eY:=O.pf [1]
 refine dS [.int .u64 0] 11 eY N7 ?_
 intro jk eZ
 refine C6 (bN (bN (Ig (Ib (fw (vJ (b+1)) (Ie (e:=C5.wrap ((b:Int)+1)) yk f0) (Mz rfl (C6 ?_)))))))
 have fe:=eZ.pf [1]
 exact Ir (b+1,z,B,j,l,n,o,p,0,s,t,u,C,E,F,W,R,f,X,S,T,g,Y,U,h) ⟨rfl,rfl,rfl,rfl,rfl,trivial⟩ (I.2 ⟨fe,by exact K,by exact G,by exact J,by exact L,e6,e6,e6,e6,e6,e6,e6,e6,e6,e6,et (M) (et (congrArg (λ q=>cB a d q z B j l n o p r s t u C E F f g h) N) (et (iN P) (et (iN V) (et (iN Z) (et (iN ai) (et (iN ay) (et (iN aC) (ip aD))))))))⟩) (by show d.cK.ls.length - (b+1) < d.cK.ls.length - b; omega)
 refine jF (dF aD) (sr (Kz (.bool (decide (y=7))) (An rfl ?_)))
 by_cases aG:y=7
 refine jT (dT aG) (Ib (Kz (vP aF 18) ?_))
 have fo:=O.pf [1]
 refine dS [.slice none 0 0] 18 fo Tryz.sizeOf39 ?_
 intro jl fq
 refine C6 (bN (bN (Ig (Ib (fw (vJ (b+1)) (Ie (e:=C5.wrap ((b:Int)+1)) yk f0) (Mz rfl (C6 ?_)))))))
 have fu:=fq.pf [1]
 exact Ir (b+1,z,B,j,l,n,o,p,r,s,t,u,C,E,F,none,0, [],X,S,T,g,Y,U,h) ⟨rfl,rfl,rfl,rfl,rfl,trivial⟩ (I.2 ⟨fu,(show jL 6 ak aa a.aH.ls none 0 []/\jL 3 au af aJ X S T/\s5 ae.abs T=g/\jL 2 av ag a.ag.ls Y U h/\(b+1)<=d.cK.ls.length/\j<=a.aP+(b+1)/\l<=a.av+(b+1)/\n<=a.aN+(b+1)/\o<=a.dY+(b+1)/\p<=a.aV+(b+1)/\r<=a.aL+(b+1)/\s<=a.dL+(b+1)/\t<=a.cu+(b+1)/\u<=a.xN+(b+1)/\cB a d d.cK.ls a.dz a.eH a.aP a.av a.aN a.dY a.aV a.aL a.dL a.cu a.xN a.cz a.bU.bF a.bU.bT a.aH.ls a.ai.ls a.ag.ls=cB a d (r3 (b+1) d.cK.ls) z B j l n o p r s t u C E F [] g h from ⟨by exact jL.nil,by exact G,by exact J,by exact L,e6,e6,e6,e6,e6,e6,e6,e6,e6,e6,et (M) (et (congrArg (λ q=>cB a d q z B j l n o p r s t u C E F f g h) N) (et (iN P) (et (iN V) (et (iN Z) (et (iN ai) (et (iN ay) (et (iN aC) (et (iN aD) (ip aG)))))))))⟩)⟩) (by show d.cK.ls.length - (b+1) < d.cK.ls.length - b; omega)
 refine jF (dF aG) (sr (Kz (.bool (decide (y=8))) (An rfl ?_)))
 by_cases aK:y=8
 refine jT (dT aK) (Ib (Kz (vP aF 15) ?_))
 have fA:=O.pf [1]
 refine dS [.bool false] 15 fA Tryz.sizeOf4 ?_
 intro jm fC
 refine C6 (bN (bN (Ig (Ib (fw (vJ (b+1)) (Ie (e:=C5.wrap ((b:Int)+1)) yk f0) (Mz rfl (C6 ?_)))))))
 have fD:=fC.pf [1]
 exact Ir (b+1,z,B,j,l,n,o,p,r,s,t,u,false,E,F,W,R,f,X,S,T,g,Y,U,h) ⟨rfl,rfl,rfl,rfl,rfl,trivial⟩ (I.2 ⟨fD,(show jL 6 ak aa a.aH.ls W R f/\jL 3 au af aJ X S T/\s5 ae.abs T=g/\jL 2 av ag a.ag.ls Y U h/\(b+1)<=d.cK.ls.length/\j<=a.aP+(b+1)/\l<=a.av+(b+1)/\n<=a.aN+(b+1)/\o<=a.dY+(b+1)/\p<=a.aV+(b+1)/\r<=a.aL+(b+1)/\s<=a.dL+(b+1)/\t<=a.cu+(b+1)/\u<=a.xN+(b+1)/\cB a d d.cK.ls a.dz a.eH a.aP a.av a.aN a.dY a.aV a.aL a.dL a.cu a.xN a.cz a.bU.bF a.bU.bT a.aH.ls a.ai.ls a.ag.ls=cB a d (r3 (b+1) d.cK.ls) z B j l n o p r s t u false E F f g h from ⟨by exact K,by exact G,by exact J,by exact L,e6,e6,e6,e6,e6,e6,e6,e6,e6,e6,et (M) (et (congrArg (λ q=>cB a d q z B j l n o p r s t u C E F f g h) N) (et (iN P) (et (iN V) (et (iN Z) (et (iN ai) (et (iN ay) (et (iN aC) (et (iN aD) (et (iN aG) (ip aK))))))))))⟩)⟩) (by show d.cK.ls.length - (b+1) < d.cK.ls.length - b; omega)
 refine jF (dF aK) (sr (Kz (.bool (decide (y=9))) (An rfl ?_)))
 by_cases aM:y=9
 refine jT (dT aM) (Ib (Kz (vP aF 10) ?_))
 have fE:=O.pf [1]
 refine dS [.int .u64 0] 10 fE N7 ?_
 intro jo fF
 refine C6 (bN (bN (Ig (Ib (fw (vJ (b+1)) (Ie (e:=C5.wrap ((b:Int)+1)) yk f0) (Mz rfl (C6 ?_)))))))
 have fG:=fF.pf [1]
 exact Ir (b+1,z,B,j,l,n,o,0,r,s,t,u,C,E,F,W,R,f,X,S,T,g,Y,U,h) ⟨rfl,rfl,rfl,rfl,rfl,trivial⟩ (I.2 ⟨fG,by exact K,by exact G,by exact J,by exact L,e6,e6,e6,e6,e6,e6,e6,e6,e6,e6,et (M) (et (congrArg (λ q=>cB a d q z B j l n o p r s t u C E F f g h) N) (et (iN P) (et (iN V) (et (iN Z) (et (iN ai) (et (iN ay) (et (iN aC) (et (iN aD) (et (iN aG) (et (iN aK) (ip aM)))))))))))⟩) (by show d.cK.ls.length - (b+1) < d.cK.ls.length - b; omega)
 refine jF (dF aM) (sr (Kz (.bool (decide (y=10))) (An rfl ?_)))
 by_cases aR:y=10
 refine jT (dT aR) (Ib (Kz (vP aF 12) ?_))
 have fH:=O.pf [1]
 refine dS [.int .u64 0] 12 fH N7 ?_
 intro jq fI
 refine C6 (bN (bN (Ig (Ib (fw (vJ (b+1)) (Ie (e:=C5.wrap ((b:Int)+1)) yk f0) (Mz rfl (C6 ?_)))))))
 have fJ:=fI.pf [1]
 exact Ir (b+1,z,B,j,l,n,o,p,r,0,t,u,C,E,F,W,R,f,X,S,T,g,Y,U,h) ⟨rfl,rfl,rfl,rfl,rfl,trivial⟩ (I.2 ⟨fJ,by exact K,by exact G,by exact J,by exact L,e6,e6,e6,e6,e6,e6,e6,e6,e6,e6,et (M) (et (congrArg (λ q=>cB a d q z B j l n o p r s t u C E F f g h) N) (et (iN P) (et (iN V) (et (iN Z) (et (iN ai) (et (iN ay) (et (iN aC) (et (iN aD) (et (iN aG) (et (iN aK) (et (iN aM) (ip aR))))))))))))⟩) (by show d.cK.ls.length - (b+1) < d.cK.ls.length - b; omega)
 refine jF (dF aR) (sr (Kz (.bool (decide (y=11))) (An rfl ?_)))
 by_cases aV:y=11
 refine jT (dT aV) (Ib (Kz (vP aF 20) ?_))
 have fK:=O.pf [1]
 refine dS [.slice none 0 0] 20 fK Tryz.sizeOf29 ?_
 intro jr fM
 refine C6 (bN (bN (Ig (Ib (fw (vJ (b+1)) (Ie (e:=C5.wrap ((b:Int)+1)) yk f0) (Mz rfl (C6 ?_)))))))
 have fO:=fM.pf [1]
 exact Ir (b+1,z,B,j,l,n,o,p,r,s,t,u,C,E,F,W,R,f,X,S,T,g,none,0, []) ⟨rfl,rfl,rfl,rfl,rfl,trivial⟩ (I.2 ⟨fO,(show jL 6 ak aa a.aH.ls W R f/\jL 3 au af aJ X S T/\s5 ae.abs T=g/\jL 2 av ag a.ag.ls none 0 []/\(b+1)<=d.cK.ls.length/\j<=a.aP+(b+1)/\l<=a.av+(b+1)/\n<=a.aN+(b+1)/\o<=a.dY+(b+1)/\p<=a.aV+(b+1)/\r<=a.aL+(b+1)/\s<=a.dL+(b+1)/\t<=a.cu+(b+1)/\u<=a.xN+(b+1)/\cB a d d.cK.ls a.dz a.eH a.aP a.av a.aN a.dY a.aV a.aL a.dL a.cu a.xN a.cz a.bU.bF a.bU.bT a.aH.ls a.ai.ls a.ag.ls=cB a d (r3 (b+1) d.cK.ls) z B j l n o p r s t u C E F f g [] from ⟨by exact K,by exact G,by exact J,by exact jL.nil,e6,e6,e6,e6,e6,e6,e6,e6,e6,e6,et (M) (et (congrArg (λ q=>cB a d q z B j l n o p r s t u C E F f g h) N) (et (iN P) (et (iN V) (et (iN Z) (et (iN ai) (et (iN ay) (et (iN aC) (et (iN aD) (et (iN aG) (et (iN aK) (et (iN aM) (et (iN aR) (ip aV)))))))))))))⟩)⟩) (by show d.cK.ls.length - (b+1) < d.cK.ls.length - b; omega)
 refine jF (dF aV) (sr (Kz (.bool (decide (y=12))) (An rfl ?_)))
 by_cases bf:y=12
 refine jT (dT bf) (Ib (Kz (vP aF 5) ?_))
 have fP:=O.pf [1]
 refine dS [vI 0] 5 fP Tryz.sizeOf3 ?_
 intro jv fQ
 refine C6 (bN (bN (Ig (Ib (fw (vJ (b+1)) (Ie (e:=C5.wrap ((b:Int)+1)) yk f0) (Mz rfl (C6 ?_)))))))
 have fT:=fQ.pf [1]
 exact Ir (b+1,z,0,j,l,n,o,p,r,s,t,u,C,E,F,W,R,f,X,S,T,g,Y,U,h) ⟨rfl,rfl,rfl,rfl,rfl,trivial⟩ (I.2 ⟨fT,by exact K,by exact G,by exact J,by exact L,e6,e6,e6,e6,e6,e6,e6,e6,e6,e6,et (M) (et (congrArg (λ q=>cB a d q z B j l n o p r s t u C E F f g h) N) (et (iN P) (et (iN V) (et (iN Z) (et (iN ai) (et (iN ay) (et (iN aC) (et (iN aD) (et (iN aG) (et (iN aK) (et (iN aM) (et (iN aR) (et (iN aV) (ip bf))))))))))))))⟩) (by show d.cK.ls.length - (b+1) < d.cK.ls.length - b; omega)
 refine jF (dF bf) (sr (Kz (.bool (decide (y=13))) (An rfl ?_)))
 by_cases bg:y=13
 refine jT (dT bg) (Ib (Kz (.agg #[.string ⟨v9 []⟩, .string ⟨v9 []⟩]) (Kz (vP aF 16) ?_)))
 have fU:=O.pf [1]
 refine dS [.string ⟨v9 []⟩, .string ⟨v9 []⟩] 16 fU Tryz.sizeOf38 ?_
 intro jw fV
 refine C6 (bN (bN (Ig (Ib (fw (vJ (b+1)) (Ie (e:=C5.wrap ((b:Int)+1)) yk f0) (Mz rfl (C6 ?_)))))))
 have fZ:=fV.pf [1]
 exact Ir (b+1,z,B,j,l,n,o,p,r,s,t,u,C, [], [],W,R,f,X,S,T,g,Y,U,h) ⟨rfl,rfl,rfl,rfl,rfl,trivial⟩ (I.2 ⟨fZ,(show jL 6 ak aa a.aH.ls W R f/\jL 3 au af aJ X S T/\s5 ae.abs T=g/\jL 2 av ag a.ag.ls Y U h/\(b+1)<=d.cK.ls.length/\j<=a.aP+(b+1)/\l<=a.av+(b+1)/\n<=a.aN+(b+1)/\o<=a.dY+(b+1)/\p<=a.aV+(b+1)/\r<=a.aL+(b+1)/\s<=a.dL+(b+1)/\t<=a.cu+(b+1)/\u<=a.xN+(b+1)/\cB a d d.cK.ls a.dz a.eH a.aP a.av a.aN a.dY a.aV a.aL a.dL a.cu a.xN a.cz a.bU.bF a.bU.bT a.aH.ls a.ai.ls a.ag.ls=cB a d (r3 (b+1) d.cK.ls) z B j l n o p r s t u C [] [] f g h from ⟨by exact K,by exact G,by exact J,by exact L,e6,e6,e6,e6,e6,e6,e6,e6,e6,e6,et (M) (et (congrArg (λ q=>cB a d q z B j l n o p r s t u C E F f g h) N) (et (iN P) (et (iN V) (et (iN Z) (et (iN ai) (et (iN ay) (et (iN aC) (et (iN aD) (et (iN aG) (et (iN aK) (et (iN aM) (et (iN aR) (et (iN aV) (et (iN bf) (ip bg)))))))))))))))⟩)⟩) (by show d.cK.ls.length - (b+1) < d.cK.ls.length - b; omega)
 refine jF (dF bg) (sr (Kz (.bool (decide (y=14))) (An rfl ?_)))
 by_cases bA:y=14
 refine jT (dT bA) (Ib (Kz (vP aF 13) ?_))
 have gp:=O.pf [1]
 refine dS [.int .u64 0] 13 gp N7 ?_
 intro jy gq
 refine C6 (bN (bN (Ig (Ib (fw (vJ (b+1)) (Ie (e:=C5.wrap ((b:Int)+1)) yk f0) (Mz rfl (C6 ?_)))))))
 have gu:=gq.pf [1]
 exact Ir (b+1,z,B,j,l,n,o,p,r,s,0,u,C,E,F,W,R,f,X,S,T,g,Y,U,h) ⟨rfl,rfl,rfl,rfl,rfl,trivial⟩ (I.2 ⟨gu,by exact K,by exact G,by exact J,by exact L,e6,e6,e6,e6,e6,e6,e6,e6,e6,e6,et (M) (et (congrArg (λ q=>cB a d q z B j l n o p r s t u C E F f g h) N) (et (iN P) (et (iN V) (et (iN Z) (et (iN ai) (et (iN ay) (et (iN aC) (et (iN aD) (et (iN aG) (et (iN aK) (et (iN aM) (et (iN aR) (et (iN aV) (et (iN bf) (et (iN bg) (ip bA))))))))))))))))⟩) (by show d.cK.ls.length - (b+1) < d.cK.ls.length - b; omega)
 refine jF (dF bA) (sr (Kz (.bool (decide (y=15))) (An rfl ?_)))
 by_cases bF:y=15
 refine jT (dT bF) (Ib (Kz (vP aF 14) ?_))
 have gy:=O.pf [1]
 refine dS [.int .u64 0] 14 gy N7 ?_
 intro jA gz
 refine C6 (bN (bN (Ig (Ib (fw (vJ (b+1)) (Ie (e:=C5.wrap ((b:Int)+1)) yk f0) (Mz rfl (C6 ?_)))))))
 have gB:=gz.pf [1]
 exact Ir (b+1,z,B,j,l,n,o,p,r,s,t,0,C,E,F,W,R,f,X,S,T,g,Y,U,h) ⟨rfl,rfl,rfl,rfl,rfl,trivial⟩ (I.2 ⟨gB,by exact K,by exact G,by exact J,by exact L,e6,e6,e6,e6,e6,e6,e6,e6,e6,e6,et (M) (et (congrArg (λ q=>cB a d q z B j l n o p r s t u C E F f g h) N) (et (iN P) (et (iN V) (et (iN Z) (et (iN ai) (et (iN ay) (et (iN aC) (et (iN aD) (et (iN aG) (et (iN aK) (et (iN aM) (et (iN aR) (et (iN aV) (et (iN bf) (et (iN bg) (et (iN bA) (ip bF)))))))))))))))))⟩) (by show d.cK.ls.length - (b+1) < d.cK.ls.length - b; omega)
 refine jF (dF bF) (IE (bN (bN (Ig (Ib (fw (vJ (b+1)) (Ie (e:=C5.wrap ((b:Int)+1)) yk f0) (Mz rfl (C6 ?_))))))))
 have gD:=O.pf []
 exact Ir (b+1,z,B,j,l,n,o,p,r,s,t,u,C,E,F,W,R,f,X,S,T,g,Y,U,h) ⟨rfl,rfl,rfl,rfl,rfl,trivial⟩ (I.2 ⟨gD,by exact K,by exact G,by exact J,by exact L,e6,e6,e6,e6,e6,e6,e6,e6,e6,e6,et (M) (et (congrArg (λ q=>cB a d q z B j l n o p r s t u C E F f g h) N) (et (iN P) (et (iN V) (et (iN Z) (et (iN ai) (et (iN ay) (et (iN aC) (et (iN aD) (et (iN aG) (et (iN aK) (et (iN aM) (et (iN aR) (et (iN aV) (et (iN bf) (et (iN bg) (et (iN bA) (iN bF)))))))))))))))))⟩) (by show d.cK.ls.length - (b+1) < d.cK.ls.length - b; omega)
 refine jF (dF cO) (Wp.exit (Il ?_))
 have aS:cB a d d.cK.ls a.dz a.eH a.aP a.av a.aN a.dY a.aV a.aL a.dL a.cu a.xN a.cz a.bU.bF a.bU.bT a.aH.ls a.ai.ls a.ag.ls=(z,B,j,l,n,o,p,r,s,t,u,C,E,F,f,g,h):=et (M) (et (congrArg (λ q=>cB a d q z B j l n o p r s t u C E F f g h) (fB (ls:=d.cK.ls) (i:=b) e6)) rfl)
 refine Il (IB (Ig (sr (La (gU a.aD a.aJ a.fI a.aK z B j l n o p r s t u C E F W f.length R X g.length S Y h.length U) O 1 N5 N6 ?_))))
 refine dS (gU a.aD a.aJ a.fI a.aK z B j l n o p r s t u C E F W f.length R X g.length S Y h.length U) 0 O N6 ?_
 intro jB cZ
 refine nt (rt (Fin.res (ol rfl rfl (Iy (cs:=(gU a.aD a.aJ a.fI a.aK z B j l n o p r s t u C E F W f.length R X g.length S Y h.length U)) N5 N6 ((cZ.cls (i:=0) rfl).lit (k:=0) (m:=21) rfl))) ?_))
 obtain⟨bG,aN⟩:∃ q,ru (bL.mk a.aD a.aJ a.fI a.aK z B j l n o p r s t u C (bC.mk E F) (E2 f) (E2 g) (E2 h))=q:=⟨_,rfl⟩
 obtain⟨jC,dx,bv,dz,iQ⟩:=Ii cZ
 refine vR (cn aA) Tryz.call51 (zK _ _ (bL.mk a.aD a.aJ a.fI a.aK z B j l n o p r s t u C (bC.mk E F) (E2 f) (E2 g) (E2 h)) W f.length R X g.length S T Y h.length U bG dx rfl (λ w9 h9=>jL.rds bi.len f4 K ((bv _ bM) w9 h9)) e6 J rfl (λ w9 h9=>qg (aB J) (jL.rds ae.len f4 G (qg (aB bn).symm ((bv _ bO) w9 h9)))) e6 (λ x9 h9=>⟨bv _ ((λ x9 h9=>bq x9 (J4 G h9)) x9 h9).1,((λ x9 h9=>bq x9 (J4 G h9)) x9 h9).2⟩) rfl (λ w9 h9=>jL.rds aY.len f4 L ((bv _ bP) w9 h9)) e6 i3 aN) ?_
 rintro _ jD ⟨rfl,dA⟩
 have bH:=dz _ _ dA
 refine Gz (.bool (!bG)) (cn aA) (fw (.bool (!bG)) (Ih rfl (cn aA) rfl) (Mz rfl ?_))
 rcases Li (bG) with Q | Q
 refine Ga (iH a ak aa au af av ag) (cn Q) bH 4 N5 N6 (Gz (vP bB 2) (cn Q) (Gl (.slice aZ d.cK.ls.length bu) (cn Q) bH 2 Tryz.isAgg126 ?_))
 obtain⟨bI,aT⟩:∃ q,qC a d.cK.ls=q:=⟨_,rfl⟩
 obtain⟨jE,dB,bz,dC,dD⟩:=Ii bH
 refine vR (cn Q) Tryz.call53 (yY _ _ a ak a.aH.ls.length aa au a.ai.ls.length af aJ av a.ag.ls.length ag aZ d.cK.ls.length bu d.cK.ls bI dB rfl (bz _ bM) e6 bn rfl (bz _ bO) e6 (λ x9 h9=>⟨bz _ (bq x9 h9).1,(bq x9 h9).2⟩) rfl (bz _ bP) e6 (dD _ 3 _ rfl aO) rfl e6 i3 aT) ?_
 rintro _ jG ⟨rfl,dE⟩
 have df:=dC _ _ dE
 refine Gz (.bool (!bI)) (cn Q) (fw (.bool (!bI)) (Ih rfl (cn Q) rfl) (nt ?_))
 rcases Li (bI) with aW | aW
 refine jF (cn aW) (sk (Ic (Ic ?_)))
 have aX:=df.pk [2,3,4]
 refine Ib (Kz (vP bB 0) (Lz (vI d.mG) aX 0 N4 (Kz (.bool (decide (d.mG=1))) (Mz rfl ?_))))
 by_cases aH:d.mG=1
 refine Gz (vP bB 1) (dT aH) (Gl (vI d.pM) (dT aH) aX 0 N4 (Gz (.bool (decide (d.pM=1))) (dT aH) (fw (.bool (decide (d.pM=1))) (Iw rfl (dT aH) rfl) (Mz rfl ?_))))
 by_cases az:d.pM=1
 refine Gz (vP bK 1) (dT az) (Gl (vI a.aJ) (dT az) aX 2 C4 (Gz (vP bK 2) (dT az) (Gl (vI a.fI) (dT az) aX 2 C4 (Gz (.bool (decide (a.aJ=a.fI))) (dT az) (fw (.bool (decide (a.aJ=a.fI))) (Iw rfl (dT az) rfl) (nt ?_))))))
 by_cases bJ:a.aJ=a.fI
 refine jT (dT bJ) (Ic ?_)
 have gG:=aX.pk []
 refine Ib (An rfl (rt (tR (rs ?_))))
 have gH:=gG.pk []
 obtain rfl:=zj hr zq14
 exact⟨rfl,gH⟩
 refine jF (dF bJ) (sk (Ic ?_))
 have gI:=aX.pk []
 refine Ib (An rfl (rt (rs ?_)))
 have gJ:=gI.pk []
 obtain rfl:=zj hr zq14
 exact⟨rfl,gJ⟩
 refine Sz (dF az) (Sz (dF az) (Sz (dF az) (Sz (dF az) (Sz (dF az) (fw (.bool false) (Ih rfl (dF az) rfl) (nt (jf (sk (Ic ?_)))))))))
 have gK:=aX.pk []
 refine Ib (An rfl (rt (rs ?_)))
 have gL:=gK.pk []
 obtain rfl:=zj hr zq13
 exact⟨rfl,gL⟩
 refine Sz (dF aH) (Sz (dF aH) (Sz (dF aH) (fw (.bool false) (Ih rfl (dF aH) rfl) (Mz rfl (Sz rfl (Sz rfl (Sz rfl (Sz rfl (Sz rfl (fw (.bool false) (Ih rfl rfl rfl) (nt (jf (sk (Ic ?_))))))))))))))
 have gM:=aX.pk []
 refine Ib (An rfl (rt (rs ?_)))
 have gN:=gM.pk []
 obtain rfl:=zj hr zq12
 exact⟨rfl,gN⟩
 refine jT (cn aW) (Ic ?_)
 have gP:=df.pk [2,3,4]
 refine Ib (An rfl (rt (tR (rs ?_))))
 have gQ:=gP.pk []
 obtain rfl:=zj hr zq11
 exact⟨rfl,gQ⟩
 refine Sz (cn Q) (Sz (cn Q) (Sz (cn Q) (Sz (cn Q) (Sz (cn Q) (fw (.bool true) (Iw rfl (cn Q) rfl) (nt (jt (Ic ?_))))))))
 have gT:=bH.pk [2,3,4]
 refine Ib (An rfl (rt (tR (rs ?_))))
 have gV:=gT.pk []
 obtain rfl:=zj hr zq9
 exact⟨rfl,gV⟩
 refine Sz (cn aA) (Sz (cn aA) (Sz (cn aA) (Sz (cn aA) (Sz (cn aA) (Sz (cn aA) (fw (.bool true) (Iw rfl (cn aA) rfl) (Mz rfl (Sz rfl (Sz rfl (Sz rfl (Sz rfl (Sz rfl (fw (.bool true) (Iw rfl rfl rfl) (nt (jt (sr (An rfl (rt (tR (rs ?_))))))))))))))))))))
 have gW:=bW.pk []
 obtain rfl:=zj hr zq6
 exact⟨rfl,gW⟩
 refine Sz (cn ax) (Sz (cn ax) (Sz (cn ax) (Sz (cn ax) (Sz (cn ax) (Sz (cn ax) (fw (.bool true) (Iw rfl (cn ax) rfl) (Mz rfl (Sz rfl (Sz rfl (Sz rfl (Sz rfl (Sz rfl (Sz rfl (fw (.bool true) (Iw rfl rfl rfl) (Mz rfl (Sz rfl (Sz rfl (Sz rfl (Sz rfl (Sz rfl (fw (.bool true) (Iw rfl rfl rfl) (nt (jt (sr (An rfl (rt (tR (rs ?_))))))))))))))))))))))))))))
 have gX:=bU.pk []
 obtain rfl:=zj hr zq4
 exact⟨rfl,gX⟩
 refine Sz (cn aj) (Sz (cn aj) (Sz (cn aj) (Sz (cn aj) (Sz (cn aj) (Sz (cn aj) (fw (.bool true) (Iw rfl (cn aj) rfl) (Mz rfl (Sz rfl (Sz rfl (Sz rfl (Sz rfl (Sz rfl (Sz rfl (fw (.bool true) (Iw rfl rfl rfl) (Mz rfl (Sz rfl (Sz rfl (Sz rfl (Sz rfl (Sz rfl (Sz rfl (fw (.bool true) (Iw rfl rfl rfl) (Mz rfl (Sz rfl (Sz rfl (Sz rfl (Sz rfl (Sz rfl (fw (.bool true) (Iw rfl rfl rfl) (nt (jt (sr (An rfl (rt (tR ?_)))))))))))))))))))))))))))))))))))
 refine rs ?_
 have gY:=bS.pk []
 obtain rfl:=zj hr zq2
 exact⟨rfl,gY⟩
end
open Int renaming fdiv->J0
open List renaming flatMap_append->r4,length_drop->o0,length_take->m9
open _root_.Go.Proofs.Tryz renaming call156->N8,call163->N9,underlying39->y4,underlying58->G2
section
open Go.RowKit
def jW (d:List UInt8):List aY->Nat->Nat->Nat
  | [],b,a=>b
  | e::c,b,a=>if e.bF<=d then jW d c a (a+1) else jW d c b (a+1)
def qD (l0:List aY) (a:List UInt8):Int:=
 bnd (jW a l0 0 0) λ sLrL=>(sLrL:Int)
theorem yZ (w D l u x l0 c t) (H:Own w D w []) (o:Ro w D λ w'=>bE w' 2 l u (q3 aY.cells l0)) (y:u=l0.length) (M:l0.length *24<=211106232532992) (N:1<=l0.length) (hr:qD l0 c=t):
    Calls v8 162 #[.slice l u x, .string ⟨v9 c⟩] w (d9 λ v w'=>v=vI t/\Own w D w' []/\(0<=t/\t < ((l0.length:Nat):Int))):=by
 unfold qD at hr
 subst y
 refine cb Tryz.func162 ?_
 refine sr (Ar rfl (An rfl (Ic (sr (Mz rfl (Kz (vJ l0.length) (Mn rfl (bo ?_))))))))
 have z:=H.pk []
 obtain⟨A,d⟩:=Fz λ (b:Nat) (a:Nat) w'=>Own w D w' []/\a<=l0.length/\b<=a/\b<=a/\b<=l0.length/\0<=b/\b < l0.length/\jW c l0 0 0=jW c (r3 a l0) b a
 refine C3 (λ i:Nat × Nat=> [(5,vJ i.1),(9,vJ i.2),(8,vJ l0.length),(4,vI 0),(0, .slice l l0.length x),(1, .string ⟨v9 c⟩)]) A (λ i=>l0.length - i.2) (0,0) ⟨rfl,rfl,rfl,rfl,rfl,rfl,trivial⟩ (d.2 ⟨z,e6,e6,e6,e6,e6,e6,rfl⟩) ?_
 rintro ⟨b,a⟩ O p
 obtain⟨f,F,G,I,J,K,L,g⟩:=d.1 p
 refine sr (Kz (.bool (decide ((a:Int) < (l0.length:Int)))) (nt (Ic ?_)))
 by_cases r:(a:Int) < (l0.length:Int)
 obtain⟨h,m⟩:=dN (ls:=l0) (i:=a) aY.len f4 (f.ro o) e9
 have n:=drop_at m
 refine jT (dT r) (sk (Ic (bo (sr (Mz rfl (Ar rfl (Mz rfl (Mz rfl (fw (.pointer (some ⟨ab l,ao l+a *2,none⟩)) (Ij (qY) rfl rfl ((f.ro o).addr (i:=a) e6) e6) (Kz (.pointer (some ⟨ab l,ao l+a *2,none⟩)) (fw (.string ⟨v9 h.bF⟩) (Io rfl (bZ.one C2 (((f.ro o).elem aY.len m f4).at_ (k:=0) rfl))) (Mz rfl (fw (.bool (decide (h.bF<=c))) (IG (e:=Op.bytesLess h.bF c || decide (h.bF=c)) (JA rfl rfl) (zN _ _)) (nt ?_))))))))))))))
 by_cases j:h.bF<=c
 refine jT (dT j) (Ib (Mz rfl (Az rfl (C6 (bN (Ig (Ib (fw (vJ (a+1)) (Ie (e:=C5.wrap ((a:Int)+1)) yk f0) (Mz rfl (C6 ?_))))))))))
 have B:=f.pk []
 exact Ir (a,a+1) ⟨rfl,rfl,rfl,rfl,rfl,rfl,trivial⟩ (d.2 ⟨B,e6,e6,e6,e6,e6,e6,et (g) (et (congrArg (λ q=>jW c q b a) n) (ip j))⟩) (by show l0.length - (a+1) < l0.length - a; omega)
 refine jF (dF j) (IE (bN (Ig (Ib (fw (vJ (a+1)) (Ie (e:=C5.wrap ((a:Int)+1)) yk f0) (Mz rfl (C6 ?_)))))))
 have C:=f.pk []
 exact Ir (b,a+1) ⟨rfl,rfl,rfl,rfl,rfl,rfl,trivial⟩ (d.2 ⟨C,e6,e6,e6,e6,e6,e6,et (g) (et (congrArg (λ q=>jW c q b a) n) (iN j))⟩) (by show l0.length - (a+1) < l0.length - a; omega)
 refine jF (dF r) (C7 (Il ?_))
 have s:jW c l0 0 0=b:=et (g) (et (congrArg (λ q=>jW c q b a) (fB (ls:=l0) (i:=a) e6)) rfl)
 refine Il (IB (Ig (sr (Mz rfl (An rfl (rt (rs ?_)))))))
 have E:=f.pk []
 obtain rfl:=zj hr zq1
 exact⟨rfl,E,e6⟩
def mM (l0:List aY) (c:Int):bC:=
 bnd (C0 l0 (D0 c) default) λ a=>if c+1 < (l0.length:Int) then bnd (C0 l0 (D0 (c+1)) default) λ b=>bC.mk a.bF b.bF else bC.mk a.bF []
theorem o5 (w D h r C l0 b) (B:bC) (H:Own w D w []) (c:Ro w D λ w'=>bE w' 2 h r (q3 aY.cells l0)) (s:r=l0.length) (E:l0.length *24<=211106232532992) (F:0<=b/\b < ((l0.length:Nat):Int)) (hr:mM l0 b=B):
    Calls v8 156 #[.slice h r C,vI b] w (d9 λ v w'=>v= .agg (bC.cells B).toArray/\Own w D w' []):=by
 unfold mM at hr
 subst s
 refine cb Tryz.func156 ?_
 refine sr ?_
 refine dV [.string ⟨v9 []⟩, .string ⟨v9 []⟩] 38 H ?_
 intro G I j
 refine ns (Mz rfl (fw (vJ (D0 b)) (Ie (e:=b) (Iq rfl) e6) ?_))
 obtain⟨a,g⟩:=dN (ls:=l0) (i:=D0 b) aY.len f4 (j.ro c) e9
 refine fw (.pointer (some ⟨ab h,ao h+(D0 b) *2,none⟩)) (Ij (qY) rfl rfl ((j.ro c).addr (i:=D0 b) e6) e6) (Kz (.pointer (some ⟨ab h,ao h+(D0 b) *2,none⟩)) (fw (.string ⟨v9 a.bF⟩) (Io rfl (bZ.one C2 (((j.ro c).elem aY.len g f4).at_ (k:=0) rfl))) (Kz (.agg #[.string ⟨v9 a.bF⟩, .string ⟨v9 []⟩]) ?_)))
 refine dV [.string ⟨v9 []⟩, .string ⟨v9 []⟩] 38 j ?_
 intro t J u
 refine dS [.string ⟨v9 a.bF⟩, .string ⟨v9 []⟩] 0 u M6 ?_
 intro K d
 refine nt (Ic (sr (Mz rfl (fw (vI (b+1)) (Ie (e:=C5.wrap (b+1)) yk g2) (Mz rfl (Kz (vJ l0.length) (Kz (.bool (decide (b+1 < (l0.length:Int)))) (nt ?_))))))))
 by_cases l:b+1 < (l0.length:Int)
 refine jT (dT l) (Ib (Mz rfl (Mz rfl (fw (vJ (D0 (b+1))) (Ie (e:=C5.wrap (b+1)) yk f0) ?_))))
 obtain⟨f,n⟩:=dN (ls:=l0) (i:=D0 (b+1)) aY.len f4 (d.ro c) e9
 refine fw (.pointer (some ⟨ab h,ao h+(D0 (b+1)) *2,none⟩)) (Ij (qY) rfl rfl ((d.ro c).addr (i:=D0 (b+1)) e6) e6) (Kz (.pointer (some ⟨ab h,ao h+(D0 (b+1)) *2,none⟩)) (fw (.string ⟨v9 f.bF⟩) (Io rfl (bZ.one C2 (((d.ro c).elem aY.len n f4).at_ (k:=0) rfl))) (Kz (vP t 1) ?_)))
 refine dS [.string ⟨v9 f.bF⟩] 1 d Tryz.sizeOf9 ?_
 intro L o
 refine ns (La ([.string ⟨v9 a.bF⟩, .string ⟨v9 f.bF⟩]) o 0 M7 M6 ?_)
 have x:=o.pb [0]
 refine dS [.string ⟨v9 a.bF⟩, .string ⟨v9 f.bF⟩] 0 x M6 ?_
 intro M p
 refine nt (rt (Fin.res (ol rfl rfl (Iy (cs:= [.string ⟨v9 a.bF⟩, .string ⟨v9 f.bF⟩]) M7 M6 ((p.cls (i:=0) rfl).lit (k:=0) (m:=2) rfl))) ?_))
 have y:=p.pk []
 obtain rfl:=zj hr zq3
 exact⟨rfl,y⟩
 refine jF (dF l) (sk (sr (La ([.string ⟨v9 a.bF⟩, .string ⟨v9 []⟩]) d 0 M7 M6 ?_)))
 have z:=d.pb [0]
 refine dS [.string ⟨v9 a.bF⟩, .string ⟨v9 []⟩] 0 z M6 ?_
 intro N q
 refine nt (rt (Fin.res (ol rfl rfl (Iy (cs:= [.string ⟨v9 a.bF⟩, .string ⟨v9 []⟩]) M7 M6 ((q.cls (i:=0) rfl).lit (k:=0) (m:=2) rfl))) ?_))
 have A:=q.pk []
 obtain rfl:=zj hr zq2
 exact⟨rfl,A⟩
def mO (a:List UInt8) (b:List UInt8):(List UInt8):=
 if a=[] then b else if b≠[] then if b < a then b else a else a
theorem xO (w D d c k) (H:Own w D w []) (hr:mO d c=k):
    Calls v8 187 #[.string ⟨v9 d⟩, .string ⟨v9 c⟩] w (d9 λ v w'=>v= .string ⟨v9 k⟩/\Own w D w' []):=by
 unfold mO at hr
 refine cb Tryz.func187 ?_
 refine sr (An rfl (Ic (sr (Mz rfl (fw (.bool (decide (d=[]))) (JJ rfl rfl) (Mz rfl ?_))))))
 by_cases a:d=[]
 refine Sz (dT a) (Sz (dT a) (Sz (dT a) (IR rfl rfl rfl (IR rfl rfl rfl (IR rfl rfl rfl (Sz (dT a) (fw (.bool true) (Iw rfl (dT a) rfl) (nt (jt (sr (Mz rfl (An rfl (rt (tR (rs ?_)))))))))))))))
 have g:=H.pk []
 obtain rfl:=zj hr zq1
 exact⟨rfl,g⟩
 refine gw (.string ⟨v9 c⟩) (dF a) (Iq rfl) (gw (.bool (decide (c≠[]))) (dF a) (Js rfl rfl) (gw (.bool (decide (c≠[]))) (dF a) (Iq rfl) ?_))
 by_cases b:c≠[]
 refine gw (.string ⟨v9 c⟩) (dT b) (Iq rfl) (gw (.string ⟨v9 d⟩) (dT b) (Iq rfl) (gw (.bool (decide (c < d))) (dT b) (IG (e:=Op.bytesLess c d) (J3 rfl rfl) (Cu _ _)) (gw (.bool (decide (c < d))) (dF a) (Iw rfl (dT b) rfl) (fw (.bool (decide (c < d))) (Ih rfl (dF a) rfl) (nt ?_)))))
 by_cases f:c < d
 refine jT (dT f) (sr (Mz rfl (An rfl (rt (tR (rs ?_))))))
 have h:=H.pk []
 obtain rfl:=zj hr zq3
 exact⟨rfl,h⟩
 refine jF (dF f) (sk (sr (Mz rfl (An rfl (rt (rs ?_))))))
 have i:=H.pk []
 obtain rfl:=zj hr zq3
 exact⟨rfl,i⟩
 refine Sz (dF b) (Sz (dF b) (Sz (dF b) (gw (.bool false) (dF a) (Ih rfl (dF b) rfl) (fw (.bool false) (Ih rfl (dF a) rfl) (nt (jf (sk (sr (Mz rfl (An rfl (rt (rs ?_))))))))))))
 have j:=H.pk []
 obtain rfl:=zj hr zq2
 exact⟨rfl,j⟩
def o6 (b:List UInt8) (a:List UInt8):Bool:=
 if a=[] then true else decide (b < a)
theorem zL (w D c b g) (H:Own w D w []) (hr:o6 c b=g):
    Calls v8 188 #[.string ⟨v9 c⟩, .string ⟨v9 b⟩] w (d9 λ v w'=>v= .bool g/\Own w D w' []):=by
 unfold o6 at hr
 refine cb Tryz.func188 ?_
 refine sr (Ar rfl (Mz rfl (fw (.bool (decide (b=[]))) (JJ rfl rfl) (Mz rfl ?_))))
 by_cases a:b=[]
 refine Sz (dT a) (Sz (dT a) (Sz (dT a) (fw (.bool true) (Iw rfl (dT a) rfl) (An rfl (rt (rs ?_))))))
 have d:=H.pk []
 obtain rfl:=zj hr zq1
 exact⟨rfl,d⟩
 refine gw (.string ⟨v9 c⟩) (dF a) (Iq rfl) (gw (.string ⟨v9 b⟩) (dF a) (Iq rfl) (gw (.bool (decide (c < b))) (dF a) (IG (e:=Op.bytesLess c b) (J3 rfl rfl) (Cu _ _)) (fw (.bool (decide (c < b))) (Ih rfl (dF a) rfl) (An rfl (rt (rs ?_))))))
 have f:=H.pk []
 obtain rfl:=zj hr zq1
 exact⟨rfl,f⟩
def iK (e:bC) (f:bC):bC × Bool:=
 bnd (kG e) λ b=>if b=0 then bnd (kG f) λ c=>if c=0 then bnd (mO e.bT f.bT) λ a=>bnd (o6 (pG e.bF f.bF) a) λ d=>if d=true then(bC.mk (pG e.bF f.bF) a,true) else(bC.mk [] [],false) else(bC.mk [] [],false) else(bC.mk [] [],false)
theorem oK (w D) (d:bC) (c:bC) (r0:bC) (r1) (H:Own w D w []) (hr:iK d c=(r0,r1)):
    Calls v8 163 #[.agg (bC.cells d).toArray, .agg (bC.cells c).toArray] w (d9 λ v w'=>v= .tuple #[.agg (bC.cells r0).toArray, .bool r1]/\Own w D w' []):=by
 unfold iK at hr
 refine cb Tryz.func163 ?_
 refine sr ?_
 refine dV (bC.cells d) 38 H ?_
 intro B aP Z
 refine dV (bC.cells c) 38 Z ?_
 intro C aQ aa
 refine dV [.string ⟨v9 []⟩, .string ⟨v9 []⟩] 38 aa ?_
 intro aR aS E
 refine An rfl (Ic (sr (La (bC.cells d) E 2 M7 M6 ?_)))
 obtain⟨s,f⟩:∃ q,kG d=q:=⟨_,rfl⟩
 obtain⟨aT,F,aG,G,aH⟩:=Ii E
 refine cl Tryz.call116 (qG _ _ d s F f) ?_
 rintro _ aU ⟨rfl,I⟩
 have x:=G _ _ I
 refine fw (.bool (decide (¬ (s=0)))) (IG (e:= !(decide (s=0))) yk decide_not.symm) (Mz rfl ?_)
 by_cases a:s=0
 refine gw (.agg (bC.cells c).toArray) (dF (Lh a)) (Io rfl (Iy (cs:=(bC.cells c)) M7 M6 ((x.cls (i:=1) rfl).lit (k:=0) (m:=2) rfl))) ?_
 obtain⟨h,g⟩:∃ q,kG c=q:=⟨_,rfl⟩
 obtain⟨aV,J,aI,K,aJ⟩:=Ii x
 refine vR (dF (Lh a)) Tryz.call116 (qG _ _ c h J g) ?_
 rintro _ aW ⟨rfl,L⟩
 have M:=K _ _ L
 refine gw (.bool (decide (¬ (h=0)))) (dF (Lh a)) (IG (e:= !(decide (h=0))) yk decide_not.symm) (fw (.bool (decide (¬ (h=0)))) (Ih rfl (dF (Lh a)) rfl) (nt ?_))
 by_cases j:h=0
 refine jF (dF (Lh j)) (sk (Ic ?_))
 refine Es [] (Iu IC) M ?_
 intro aX ae
 refine qp B 0 0 rfl (ql 1 rfl 2 C2 rfl rfl rfl (qp C 0 2 rfl (ql 3 rfl 1 C2 rfl rfl rfl (qt (v:= .string ⟨v9 (pG d.bF c.bF)⟩) 4 rfl (λ _ _=>Kw rfl) (qp B 1 5 rfl (ql 6 rfl 2 C2 rfl rfl rfl (qp C 1 7 rfl (ql 8 rfl 1 C2 rfl rfl rfl ?_))))))))
 obtain⟨b,l⟩:∃ q,mO d.bT c.bT=q:=⟨_,rfl⟩
 refine Eu ⟨9,_,_,_,_,_,Unit,λ N=> .string ⟨v9 b⟩,λ _=>True,λ N=> []⟩ ⟨11,_,_,_,_,_,Nat,λ N=>vP N 0,λ _=>True,λ N=> [blk N [.string ⟨v9 []⟩, .string ⟨v9 []⟩] 38]⟩ 10 3 ae ⟨⟨rfl,rfl,rfl, ?_⟩,⟨rfl,rfl,rfl, ?_⟩,trivial⟩ rfl ?_
 intro aY L' af
 refine(IY (cs:= [.string ⟨v9 []⟩, .string ⟨v9 []⟩]) (t:=38) af rfl rfl (λ _=>by kernel_rfl) ?_)
 intro n aZ ag
 exact⟨n,rfl,trivial,ag⟩
 intro bf L' ai
 obtain⟨bg,O,aK,P,aL⟩:=Ii ai
 refine(Iz Tryz.call187 rfl (xO _ _ d.bT c.bT b O l) ?_)
 rintro _ bi ⟨rfl,Q⟩
 have aj:=P _ _ Q
 exact⟨(),rfl,trivial,aj⟩
 rintro ⟨⟩ _
 refine⟨.agg #[.string ⟨v9 (pG d.bF c.bF)⟩, .string ⟨v9 b⟩],λ _=>yk, ?_⟩
 rintro n _
 intro ak au
 have av:Own w D ak (blk n [.string ⟨v9 []⟩, .string ⟨v9 []⟩] 38::_):=au.flat.pf []
 have ax:=av.pb [0]
 have ay:=ax.pf [3]
 refine qe 12 rfl (Do.store (vs:= [.string ⟨v9 (pG d.bF c.bF)⟩, .string ⟨v9 b⟩]) (o:=0) ay rfl rfl M6 rfl rfl rfl rfl ?_)
 intro bn az
 have R:=az.pb [0]
 refine⟨.inr ⟨_,R⟩, ?_⟩
 refine qn (Ig (Ic (Ic ?_)))
 have y:=R.pk [0,3]
 refine Ib (Kz (vP n 0) (Lz (.string ⟨v9 (pG d.bF c.bF)⟩) y 1 C2 (Kz (vP n 1) (Lz (.string ⟨v9 b⟩) y 1 C2 ?_))))
 obtain⟨z,p⟩:∃ q,o6 (pG d.bF c.bF) b=q:=⟨_,rfl⟩
 obtain⟨bq,S,aM,T,aN⟩:=Ii y
 refine cl Tryz.call188 (zL _ _ (pG d.bF c.bF) b z S p) ?_
 rintro _ bu ⟨rfl,U⟩
 have A:=T _ _ U
 refine Kz (.bool (!z)) (nt ?_)
 rcases Li (z) with r | r
 refine jF (cn r) (sk (sr (La ([.string ⟨v9 (pG d.bF c.bF)⟩, .string ⟨v9 b⟩]) A 1 M7 M6 ?_)))
 refine dS [.string ⟨v9 (pG d.bF c.bF)⟩, .string ⟨v9 b⟩] 0 A M6 ?_
 intro bv V
 refine An rfl (rt (Fin.res (kS (vs:= [.agg #[.string ⟨v9 (pG d.bF c.bF)⟩, .string ⟨v9 b⟩], .bool true]) rfl (eu.cell rfl (Iy (cs:= [.string ⟨v9 (pG d.bF c.bF)⟩, .string ⟨v9 b⟩]) M7 M6 ((V.cls (i:=0) rfl).lit (k:=0) (m:=2) rfl)) (eu.tmp rfl eu.nil)) (Le rfl)) ?_))
 have aA:=V.pk []
 obtain⟨rfl,rfl⟩:=ic (zj hr zq7)
 exact⟨rfl,aA⟩
 refine jT (cn r) (sr (Kz (.agg #[.string ⟨v9 []⟩, .string ⟨v9 []⟩]) ?_))
 refine dS [.string ⟨v9 []⟩, .string ⟨v9 []⟩] 0 A M6 ?_
 intro bz W
 refine An rfl (rt (tR (Fin.res (kS (vs:= [.agg #[.string ⟨v9 []⟩, .string ⟨v9 []⟩], .bool false]) rfl (eu.cell rfl (Iy (cs:= [.string ⟨v9 []⟩, .string ⟨v9 []⟩]) M7 M6 ((W.cls (i:=0) rfl).lit (k:=0) (m:=2) rfl)) (eu.tmp rfl eu.nil)) (Le rfl)) ?_)))
 have aB:=W.pk []
 obtain⟨rfl,rfl⟩:=ic (zj hr zq7)
 exact⟨rfl,aB⟩
 refine jT (dT j) (sr (Kz (.agg #[.string ⟨v9 []⟩, .string ⟨v9 []⟩]) ?_))
 refine dS [.string ⟨v9 []⟩, .string ⟨v9 []⟩] 0 M M6 ?_
 intro bA X
 refine An rfl (rt (tR (Fin.res (kS (vs:= [.agg #[.string ⟨v9 []⟩, .string ⟨v9 []⟩], .bool false]) rfl (eu.cell rfl (Iy (cs:= [.string ⟨v9 []⟩, .string ⟨v9 []⟩]) M7 M6 ((X.cls (i:=0) rfl).lit (k:=0) (m:=2) rfl)) (eu.tmp rfl eu.nil)) (Le rfl)) ?_)))
 have aC:=X.pk []
 obtain⟨rfl,rfl⟩:=ic (zj hr zq4)
 exact⟨rfl,aC⟩
 refine Sz (dT a) (Sz (dT a) (Sz (dT a) (fw (.bool true) (Iw rfl (dT a) rfl) (nt (jt (sr (Kz (.agg #[.string ⟨v9 []⟩, .string ⟨v9 []⟩]) ?_)))))))
 refine dS [.string ⟨v9 []⟩, .string ⟨v9 []⟩] 0 x M6 ?_
 intro aO u
 refine An rfl (rt (tR (Fin.res (kS (vs:= [.agg #[.string ⟨v9 []⟩, .string ⟨v9 []⟩], .bool false]) rfl (eu.cell rfl (Iy (cs:= [.string ⟨v9 []⟩, .string ⟨v9 []⟩]) M7 M6 ((u.cls (i:=0) rfl).lit (k:=0) (m:=2) rfl)) (eu.tmp rfl eu.nil)) (Le rfl)) ?_)))
 have Y:=u.pk []
 obtain⟨rfl,rfl⟩:=ic (zj hr zq2)
 exact⟨rfl,Y⟩
def gy (l0:List aY) (f:Int) (p2:bi):List aY->List bi->Nat->(List bi)
  | [],b,c=>b
  | g::d,b,c=>if g.eG=f then bnd (mM l0 (c:Int)) λ e=>bnd (iK (bC.mk p2.bF p2.bT) e) λ a=>if a.2=true then gy l0 f p2 d (b++ [(bi.mk p2.aD [] [] a.1.bF a.1.bT p2.bS)]) (c+1) else gy l0 f p2 d b (c+1) else gy l0 f p2 d b (c+1)
def gz (l0:List aY) (g:Int) (p2:bi):List aY->List bi->Nat->(List bi)
  | [],a,b=>a
  | f::d,a,b=>if f.eG=g then bnd (mM l0 (b:Int)) λ e=>bnd (iK (bC.mk p2.bF p2.bT) e) λ c=>if c.2=true then gz l0 g p2 d (a++ [(bi.mk p2.aD [] [] c.1.bF c.1.bT p2.bS)]) (b+1) else gz l0 g p2 d a (b+1) else gz l0 g p2 d a (b+1)
def jc (l0:List aY) (c:Int) (p2:bi):(List bi):=
 if p2.aD=4 then bnd (gy l0 c p2 l0 [] 0) λ sLrtL=>sLrtL else if p2.aD=5 then bnd (gz l0 c p2 l0 [] 0) λ sLrftL=>sLrftL else bnd (qD l0 p2.bY) λ a=>bnd (C0 l0 (D0 a) default) λ b=>bnd (if b.eG=c then [p2] else []) λ sJrffbbJ=>sJrffbbJ
theorem za (w D L n0 c0 l0 n) (p2:bi) (r0) (H:Own w D w []) (B:Ro w D λ w'=>bE w' 2 L n0 (q3 aY.cells l0)) (jg:n0=l0.length) (lJ:l0.length *24<=211106232532992) (lK:1<=l0.length/\l0.length<=6) (hr:jc l0 n p2=r0):
    Calls v8 146 #[.slice L n0 c0,vI n, .agg (bi.cells p2).toArray] w (d9 λ v w'=> ∃ B0 b0,v= .slice B0 r0.length b0/\Own w D w' [row B0 r0.length b0 (q3 bi.cells r0) 72 6]/\(r0.length<=6)):=by
 unfold jc at hr
 subst jg
 refine cb Tryz.func146 ?_
 refine sr ?_
 refine dV (bi.cells p2) 72 H ?_
 intro f eQ aJ
 refine Ar rfl (An rfl (Ic (sr (Kz (vP f 0) (Lz (vI p2.aD) aJ 0 C4 (fw (.bool (decide (¬ (p2.aD=4)))) (IG (e:= !(decide (p2.aD=4))) yk decide_not.symm) (Mz rfl ?_)))))))
 by_cases M:p2.aD=4
 refine Sk rfl rfl (dF (Lh M)) rfl (Sk rfl rfl (dF (Lh M)) rfl (Sk rfl rfl (dF (Lh M)) rfl (fw (.bool false) (Ih rfl (dF (Lh M)) rfl) (nt (jf (sk (Ic (sr (Mz rfl (Kz (vJ l0.length) (Mn rfl (bo ?_))))))))))))
 have jh:Own w D eQ [row none 0 0 (q3 bi.cells []) 72 6,blk f (bi.cells p2) 72]:=aJ.free (eZ 72 6)
 have ji:=jh.pb [0]
 obtain⟨jk,C⟩:=sQ λ Y (Z:Nat) d (b:Nat) w'=>Own w D w' [blk f (bi.cells p2) 72,row Y d.length Z (q3 bi.cells d) 72 6]/\b<=l0.length/\d.length<=b/\gy l0 n p2 l0 [] 0=gy l0 n p2 (r3 b l0) d b
 refine C3 (λ i:(Option Addr) × Nat × (List bi) × Nat=> [(7, .slice i.1 i.2.2.1.length i.2.1),(36,vJ i.2.2.2),(35,vJ l0.length),(6, .slice none 0 0),(5,vP f 0),(0, .slice L l0.length c0),(1,vI n)]) jk (λ i=>l0.length - i.2.2.2) (none,0, [],0) ⟨rfl,rfl,rfl,rfl,rfl,rfl,rfl,trivial⟩ (C.2 ⟨ji,(show 0<=l0.length/\0<=0/\gy l0 n p2 l0 [] 0=gy l0 n p2 (r3 0 l0) [] 0 from ⟨e6,e6,rfl⟩)⟩) ?_
 rintro ⟨Y,Z,d,b⟩ lL eT
 obtain⟨aK,j5,j6,F⟩:=C.1 eT
 refine sr (Kz (.bool (decide ((b:Int) < (l0.length:Int)))) (nt (Ic ?_)))
 by_cases eU:(b:Int) < (l0.length:Int)
 obtain⟨bB,bD⟩:=dN (ls:=l0) (i:=b) aY.len f4 (aK.ro B) e9
 have N:=drop_at bD
 refine jT (dT eU) (sk (Ic (bo (sr (Mz rfl (An rfl (Ic (sr (Mz rfl (Mz rfl (fw (.pointer (some ⟨ab L,ao L+b *2,none⟩)) (Ij (qY) rfl rfl ((aK.ro B).addr (i:=b) e6) e6) (Kz (.pointer (some ⟨ab L,ao L+b *2+1,none⟩)) (fw (vI bB.eG) (Io rfl (bZ.one C4 (((aK.ro B).elem aY.len bD f4).at_ (k:=1) rfl))) (Mz rfl (fw (.bool (decide (¬ (bB.eG=n)))) (IG (e:= !(decide (bB.eG=n))) yk decide_not.symm) (nt ?_))))))))))))))))
 by_cases X:bB.eG=n
 refine jF (dF (Lh X)) (sk (Ic ?_))
 refine qy [] (Iu (bQ.block (Iu (Iu (bQ.block (Iu IC)))))) aK ?_
 intro lM eX
 refine qp f 3 0 rfl (ql 1 rfl 0 C2 rfl rfl rfl (qp f 4 2 rfl (ql 3 rfl 0 C2 rfl rfl rfl (qk (.agg #[.string ⟨v9 p2.bF⟩, .string ⟨v9 p2.bT⟩]) 4 rfl (qv 5 rfl rfl (qv 6 rfl rfl ?_))))))
 refine Jj 7 12 e7 ?_ ?_
 obtain⟨aM,aa⟩:∃ q,mM l0 (b:Int)=q:=⟨_,rfl⟩
 obtain⟨lN,eY,fe,fo,kg⟩:=Ii eX
 refine GY.do 7 rfl e7 (Iz N8 rfl (o5 _ _ L l0.length c0 l0 (b:Int) aM eY (fe _ B) rfl e6 e6 aa) ?_)
 rintro _ lQ ⟨rfl,fq⟩
 have dh:=fo _ _ fq
 refine⟨.inr ⟨_,dh⟩, ?_⟩
 refine Jj 8 12 e7 ?_ ?_
 obtain⟨⟨p,di⟩,aN⟩:∃ q:bC × Bool,iK (bC.mk p2.bF p2.bT) aM=q:=⟨_,rfl⟩
 obtain⟨lS,fu,ko,fA,kr⟩:=Ii dh
 refine GY.do 8 rfl e7 (Iz N9 rfl (oK _ _ (bC.mk p2.bF p2.bT) aM p di fu aN) ?_)
 rintro _ lT ⟨rfl,fC⟩
 have fD:=fA _ _ fC
 refine⟨.inr ⟨_,fD⟩, ?_⟩
 refine qv 9 rfl rfl (qk (.agg (bC.cells p).toArray) 10 rfl (qk (.bool di) 11 rfl ?_))
 refine qd 12 rfl (IY (cs:= [.string ⟨v9 []⟩, .string ⟨v9 []⟩]) (t:=38) fD rfl rfl (λ _=>by kernel_rfl) ?_)
 intro fE lU jl
 have fF:=jl.pb [0]
 refine⟨.inr ⟨_,fF⟩, ?_⟩
 have jm:=fF.pf [2]
 refine qe 13 rfl (Do.store (vs:=(bC.cells p)) (o:=0) jm rfl rfl M6 rfl rfl rfl rfl ?_)
 intro lV jo
 have au:=jo.pb [0]
 refine⟨.inr ⟨_,au⟩, ?_⟩
 refine qa 14 rfl rfl (qn (Ig (sr (Mn rfl ?_))))
 rcases Li (di) with aO | aO
 refine jT aO (Ib (Mz rfl (Kz (vP f 0) (Lz (vI p2.aD) au 0 C4 (Kz (vP fE 0) (Lz (.string ⟨v9 p.bF⟩) au 2 C2 (Kz (vP fE 1) (Lz (.string ⟨v9 p.bT⟩) au 2 C2 (Kz (vP f 5) (Lz (vI p2.bS) au 0 C4 (Kz (.agg #[vI p2.aD, .string ⟨v9 []⟩, .string ⟨v9 []⟩, .string ⟨v9 p.bF⟩, .string ⟨v9 p.bT⟩,vI p2.bS]) ?_)))))))))))
 refine lg [vI p2.aD, .string ⟨v9 []⟩, .string ⟨v9 []⟩, .string ⟨v9 p.bF⟩, .string ⟨v9 p.bT⟩,vI p2.bS] 72 6 1 au ?_
 intro jq lW dm
 replace dm:=IL (y:=row jq 1 1 (q3 bi.cells ([(bi.mk p2.aD [] [] p.bF p.bT p2.bS)])) 72 6) rfl dm
 have fG:=dm.pf [2]
 refine WL.do rfl (IM (k:=d.length) (m:=1) (qX) fG rfl rfl (jv y4 (fG.rds (i:=1) rfl) (fU bi.one ([(bi.mk p2.aD [] [] p.bF p.bT p2.bS)]))) rfl e6 (s:=r8 (d++ [(bi.mk p2.aD [] [] p.bF p.bT p2.bS)])) f7 (r4).symm ?_)
 intro jr jw lX jy
 have ku:r8 (d++ [(bi.mk p2.aD [] [] p.bF p.bT p2.bS)])=d.length+1:=by simp only [o1,s0,F2]
 refine Az rfl (C6 (bN (Ig (Ib (fw (vJ (b+1)) (Ie (e:=C5.wrap ((b:Int)+1)) yk f0) (Mz rfl (C6 ?_)))))))
 have jA:=jy.pk [2,0]
 exact Ir (jr,jw,(d++ [(bi.mk p2.aD [] [] p.bF p.bT p2.bS)]),b+1) ⟨rfl,rfl,rfl,rfl,rfl,rfl,rfl,trivial⟩ (C.2 ⟨jA,e6,e6,et (F) (et (congrArg (λ q=>gy l0 n p2 q d b) N) (et (ip X) (et (ah aa) (et (ah aN) (ip aO)))))⟩) (by show l0.length - (b+1) < l0.length - b; omega)
 refine jF aO (IE (bN (Ig (Ib (fw (vJ (b+1)) (Ie (e:=C5.wrap ((b:Int)+1)) yk f0) (Mz rfl (C6 ?_)))))))
 have jB:=au.pk [0,1]
 exact Ir (Y,Z,d,b+1) ⟨rfl,rfl,rfl,rfl,rfl,rfl,rfl,trivial⟩ (C.2 ⟨jB,e6,e6,et (F) (et (congrArg (λ q=>gy l0 n p2 q d b) N) (et (ip X) (et (ah aa) (et (ah aN) (gm aO)))))⟩) (by show l0.length - (b+1) < l0.length - b; omega)
 refine GY.do 12 rfl e7 (IY (cs:= [.string ⟨v9 []⟩, .string ⟨v9 []⟩]) (t:=38) dh rfl rfl (λ _=>by kernel_rfl) ?_)
 intro fH lY jC
 have fI:=jC.pb [0]
 refine⟨.inr ⟨_,fI⟩, ?_⟩
 obtain⟨⟨u,dn⟩,aP⟩:∃ q:bC × Bool,iK (bC.mk p2.bF p2.bT) aM=q:=⟨_,rfl⟩
 obtain⟨lZ,fJ,kv,fK,kw⟩:=Ii fI
 refine qd 8 rfl (Iz N9 rfl (oK _ _ (bC.mk p2.bF p2.bT) aM u dn fJ aP) ?_)
 rintro _ ky ⟨rfl,dw⟩
 have bF:=fK _ _ dw
 refine⟨.inr ⟨_,bF⟩, ?_⟩
 refine qv 9 rfl rfl (qk (.agg (bC.cells u).toArray) 10 rfl (qk (.bool dn) 11 rfl ?_))
 have fM:=bF.pf [2]
 refine qe 13 rfl (Do.store (vs:=(bC.cells u)) (o:=0) fM rfl rfl M6 rfl rfl rfl rfl ?_)
 intro kz fO
 have O:=fO.pb [0]
 refine⟨.inr ⟨_,O⟩, ?_⟩
 refine qa 14 rfl rfl (qn (Ig (sr (Mn rfl ?_))))
 rcases Li (dn) with ae | ae
 refine jT ae (Ib (Mz rfl (Kz (vP f 0) (Lz (vI p2.aD) O 0 C4 (Kz (vP fH 0) (Lz (.string ⟨v9 u.bF⟩) O 2 C2 (Kz (vP fH 1) (Lz (.string ⟨v9 u.bT⟩) O 2 C2 (Kz (vP f 5) (Lz (vI p2.bS) O 0 C4 (Kz (.agg #[vI p2.aD, .string ⟨v9 []⟩, .string ⟨v9 []⟩, .string ⟨v9 u.bF⟩, .string ⟨v9 u.bT⟩,vI p2.bS]) ?_)))))))))))
 refine lg [vI p2.aD, .string ⟨v9 []⟩, .string ⟨v9 []⟩, .string ⟨v9 u.bF⟩, .string ⟨v9 u.bT⟩,vI p2.bS] 72 6 1 O ?_
 intro fP kC aQ
 replace aQ:=IL (y:=row fP 1 1 (q3 bi.cells ([(bi.mk p2.aD [] [] u.bF u.bT p2.bS)])) 72 6) rfl aQ
 have bG:=aQ.pf [2]
 refine WL.do rfl (IM (k:=d.length) (m:=1) (qX) bG rfl rfl (jv y4 (bG.rds (i:=1) rfl) (fU bi.one ([(bi.mk p2.aD [] [] u.bF u.bT p2.bS)]))) rfl e6 (s:=r8 (d++ [(bi.mk p2.aD [] [] u.bF u.bT p2.bS)])) f7 (r4).symm ?_)
 intro fQ fT kD fV
 have jD:r8 (d++ [(bi.mk p2.aD [] [] u.bF u.bT p2.bS)])=d.length+1:=by simp only [o1,s0,F2]
 refine Az rfl (C6 (bN (Ig (Ib (fw (vJ (b+1)) (Ie (e:=C5.wrap ((b:Int)+1)) yk f0) (Mz rfl (C6 ?_)))))))
 have fZ:=fV.pk [2,0]
 exact Ir (fQ,fT,(d++ [(bi.mk p2.aD [] [] u.bF u.bT p2.bS)]),b+1) ⟨rfl,rfl,rfl,rfl,rfl,rfl,rfl,trivial⟩ (C.2 ⟨fZ,e6,e6,et (F) (et (congrArg (λ q=>gy l0 n p2 q d b) N) (et (ip X) (et (ah aa) (et (ah aP) (ip ae)))))⟩) (by show l0.length - (b+1) < l0.length - b; omega)
 refine jF ae (IE (bN (Ig (Ib (fw (vJ (b+1)) (Ie (e:=C5.wrap ((b:Int)+1)) yk f0) (Mz rfl (C6 ?_)))))))
 have gp:=O.pk [0,1]
 exact Ir (Y,Z,d,b+1) ⟨rfl,rfl,rfl,rfl,rfl,rfl,rfl,trivial⟩ (C.2 ⟨gp,e6,e6,et (F) (et (congrArg (λ q=>gy l0 n p2 q d b) N) (et (ip X) (et (ah aa) (et (ah aP) (gm ae)))))⟩) (by show l0.length - (b+1) < l0.length - b; omega)
 refine GY.do 12 rfl e7 (IY (cs:= [.string ⟨v9 []⟩, .string ⟨v9 []⟩]) (t:=38) eX rfl rfl (λ _=>by kernel_rfl) ?_)
 intro bH kE gq
 have bI:=gq.pb [0]
 refine⟨.inr ⟨_,bI⟩, ?_⟩
 obtain⟨aR,av⟩:∃ q,mM l0 (b:Int)=q:=⟨_,rfl⟩
 obtain⟨kF,dx,dz,dA,jE⟩:=Ii bI
 refine qd 7 rfl (Iz N8 rfl (o5 _ _ L l0.length c0 l0 (b:Int) aR dx (dz _ B) rfl e6 e6 av) ?_)
 rintro _ kG ⟨rfl,dB⟩
 have bK:=dA _ _ dB
 refine⟨.inr ⟨_,bK⟩, ?_⟩
 obtain⟨⟨g,aS⟩,ax⟩:∃ q:bC × Bool,iK (bC.mk p2.bF p2.bT) aR=q:=⟨_,rfl⟩
 obtain⟨kH,dC,jG,dD,jH⟩:=Ii bK
 refine qd 8 rfl (Iz N9 rfl (oK _ _ (bC.mk p2.bF p2.bT) aR g aS dC ax) ?_)
 rintro _ kI ⟨rfl,dE⟩
 have bL:=dD _ _ dE
 refine⟨.inr ⟨_,bL⟩, ?_⟩
 refine qv 9 rfl rfl (qk (.agg (bC.cells g).toArray) 10 rfl (qk (.bool aS) 11 rfl ?_))
 have gu:=bL.pf [2]
 refine qe 13 rfl (Do.store (vs:=(bC.cells g)) (o:=0) gu rfl rfl M6 rfl rfl rfl rfl ?_)
 intro kJ gB
 have P:=gB.pb [0]
 refine⟨.inr ⟨_,P⟩, ?_⟩
 refine qa 14 rfl rfl (qn (Ig (sr (Mn rfl ?_))))
 rcases Li (aS) with af | af
 refine jT af (Ib (Mz rfl (Kz (vP f 0) (Lz (vI p2.aD) P 0 C4 (Kz (vP bH 0) (Lz (.string ⟨v9 g.bF⟩) P 2 C2 (Kz (vP bH 1) (Lz (.string ⟨v9 g.bT⟩) P 2 C2 (Kz (vP f 5) (Lz (vI p2.bS) P 0 C4 (Kz (.agg #[vI p2.aD, .string ⟨v9 []⟩, .string ⟨v9 []⟩, .string ⟨v9 g.bF⟩, .string ⟨v9 g.bT⟩,vI p2.bS]) ?_)))))))))))
 refine lg [vI p2.aD, .string ⟨v9 []⟩, .string ⟨v9 []⟩, .string ⟨v9 g.bF⟩, .string ⟨v9 g.bT⟩,vI p2.bS] 72 6 1 P ?_
 intro gD kK aT
 replace aT:=IL (y:=row gD 1 1 (q3 bi.cells ([(bi.mk p2.aD [] [] g.bF g.bT p2.bS)])) 72 6) rfl aT
 have bM:=aT.pf [2]
 refine WL.do rfl (IM (k:=d.length) (m:=1) (qX) bM rfl rfl (jv y4 (bM.rds (i:=1) rfl) (fU bi.one ([(bi.mk p2.aD [] [] g.bF g.bT p2.bS)]))) rfl e6 (s:=r8 (d++ [(bi.mk p2.aD [] [] g.bF g.bT p2.bS)])) f7 (r4).symm ?_)
 intro gF gG kL gH
 have jI:r8 (d++ [(bi.mk p2.aD [] [] g.bF g.bT p2.bS)])=d.length+1:=by simp only [o1,s0,F2]
 refine Az rfl (C6 (bN (Ig (Ib (fw (vJ (b+1)) (Ie (e:=C5.wrap ((b:Int)+1)) yk f0) (Mz rfl (C6 ?_)))))))
 have gI:=gH.pk [2,0]
 exact Ir (gF,gG,(d++ [(bi.mk p2.aD [] [] g.bF g.bT p2.bS)]),b+1) ⟨rfl,rfl,rfl,rfl,rfl,rfl,rfl,trivial⟩ (C.2 ⟨gI,e6,e6,et (F) (et (congrArg (λ q=>gy l0 n p2 q d b) N) (et (ip X) (et (ah av) (et (ah ax) (ip af)))))⟩) (by show l0.length - (b+1) < l0.length - b; omega)
 refine jF af (IE (bN (Ig (Ib (fw (vJ (b+1)) (Ie (e:=C5.wrap ((b:Int)+1)) yk f0) (Mz rfl (C6 ?_)))))))
 have gJ:=P.pk [0,1]
 exact Ir (Y,Z,d,b+1) ⟨rfl,rfl,rfl,rfl,rfl,rfl,rfl,trivial⟩ (C.2 ⟨gJ,e6,e6,et (F) (et (congrArg (λ q=>gy l0 n p2 q d b) N) (et (ip X) (et (ah av) (et (ah ax) (gm af)))))⟩) (by show l0.length - (b+1) < l0.length - b; omega)
 refine jT (dT X) (C7 (Il (IB (Ig (Ib (fw (vJ (b+1)) (Ie (e:=C5.wrap ((b:Int)+1)) yk f0) (Mz rfl (C6 ?_))))))))
 have gK:=aK.pf []
 exact Ir (Y,Z,d,b+1) ⟨rfl,rfl,rfl,rfl,rfl,rfl,rfl,trivial⟩ (C.2 ⟨gK,e6,e6,et (F) (et (congrArg (λ q=>gy l0 n p2 q d b) N) (iN X))⟩) (by show l0.length - (b+1) < l0.length - b; omega)
 refine jF (dF eU) (C7 (Il ?_))
 have dG:gy l0 n p2 l0 [] 0=d:=et (F) (et (congrArg (λ q=>gy l0 n p2 q d b) (fB (ls:=l0) (i:=b) e6)) rfl)
 refine Il (IB (Ig (Ic ?_)))
 have gL:=aK.pk [1]
 refine Ib (Mz rfl (An rfl (rt (rs ?_))))
 have gM:=gL.pf []
 obtain rfl:=zj hr zq2
 exact⟨Y,Z,rfl,gM,i5⟩
 refine Gz (vP f 0) (dT M) (Gl (vI p2.aD) (dT M) aJ 0 C4 (gw (.bool (decide (¬ (p2.aD=5)))) (dT M) (IG (e:= !(decide (p2.aD=5))) yk decide_not.symm) (fw (.bool (decide (¬ (p2.aD=5)))) (Iw rfl (dT M) rfl) (nt ?_))))
 by_cases aD:p2.aD=5
 refine jF (dF (Lh aD)) (sk (Ic (sr (Mz rfl (Kz (vJ l0.length) (Mn rfl (bo ?_)))))))
 have gN:Own w D eQ [row none 0 0 (q3 bi.cells []) 72 6,blk f (bi.cells p2) 72]:=aJ.free (eZ 72 6)
 have gP:=gN.pb [0]
 obtain⟨gQ,x⟩:=sQ λ G (I:Nat) c (a:Nat) w'=>Own w D w' [blk f (bi.cells p2) 72,row G c.length I (q3 bi.cells c) 72 6]/\a<=l0.length/\c.length<=a/\gz l0 n p2 l0 [] 0=gz l0 n p2 (r3 a l0) c a
 refine C3 (λ i:(Option Addr) × Nat × (List bi) × Nat=> [(7, .slice i.1 i.2.2.1.length i.2.1),(36,vJ i.2.2.2),(35,vJ l0.length),(6, .slice none 0 0),(5,vP f 0),(0, .slice L l0.length c0),(1,vI n)]) gQ (λ i=>l0.length - i.2.2.2) (none,0, [],0) ⟨rfl,rfl,rfl,rfl,rfl,rfl,rfl,trivial⟩ (x.2 ⟨gP,(show 0<=l0.length/\0<=0/\gz l0 n p2 l0 [] 0=gz l0 n p2 (r3 0 l0) [] 0 from ⟨e6,e6,rfl⟩)⟩) ?_
 rintro ⟨G,I,c,a⟩ kM dH
 obtain⟨U,jJ,jK,z⟩:=x.1 dH
 refine sr (Kz (.bool (decide ((a:Int) < (l0.length:Int)))) (nt (Ic ?_)))
 by_cases bO:(a:Int) < (l0.length:Int)
 obtain⟨aF,aU⟩:=dN (ls:=l0) (i:=a) aY.len f4 (U.ro B) e9
 have A:=drop_at aU
 refine jT (dT bO) (sk (Ic (bo (sr (Mz rfl (An rfl (Ic (sr (Mz rfl (Mz rfl (fw (.pointer (some ⟨ab L,ao L+a *2,none⟩)) (Ij (qY) rfl rfl ((U.ro B).addr (i:=a) e6) e6) (Kz (.pointer (some ⟨ab L,ao L+a *2+1,none⟩)) (fw (vI aF.eG) (Io rfl (bZ.one C4 (((U.ro B).elem aY.len aU f4).at_ (k:=1) rfl))) (Mz rfl (fw (.bool (decide (¬ (aF.eG=n)))) (IG (e:= !(decide (aF.eG=n))) yk decide_not.symm) (nt ?_))))))))))))))))
 by_cases E:aF.eG=n
 refine jF (dF (Lh E)) (sk (Ic ?_))
 refine qy [] (Iu (bQ.block (Iu (Iu (bQ.block (Iu IC)))))) U ?_
 intro kN bP
 refine qp f 3 0 rfl (ql 1 rfl 0 C2 rfl rfl rfl (qp f 4 2 rfl (ql 3 rfl 0 C2 rfl rfl rfl (qk (.agg #[.string ⟨v9 p2.bF⟩, .string ⟨v9 p2.bT⟩]) 4 rfl (qv 5 rfl rfl (qv 6 rfl rfl ?_))))))
 refine Jj 7 12 e7 ?_ ?_
 obtain⟨ag,Q⟩:∃ q,mM l0 (a:Int)=q:=⟨_,rfl⟩
 obtain⟨kP,dI,dJ,dK,jL⟩:=Ii bP
 refine GY.do 7 rfl e7 (Iz N8 rfl (o5 _ _ L l0.length c0 l0 (a:Int) ag dI (dJ _ B) rfl e6 e6 Q) ?_)
 rintro _ kQ ⟨rfl,dL⟩
 have aV:=dK _ _ dL
 refine⟨.inr ⟨_,aV⟩, ?_⟩
 refine Jj 8 12 e7 ?_ ?_
 obtain⟨⟨h,aW⟩,ay⟩:∃ q:bC × Bool,iK (bC.mk p2.bF p2.bT) ag=q:=⟨_,rfl⟩
 obtain⟨kR,dM,jM,dO,jN⟩:=Ii aV
 refine GY.do 8 rfl e7 (Iz N9 rfl (oK _ _ (bC.mk p2.bF p2.bT) ag h aW dM ay) ?_)
 rintro _ kS ⟨rfl,dP⟩
 have bR:=dO _ _ dP
 refine⟨.inr ⟨_,bR⟩, ?_⟩
 refine qv 9 rfl rfl (qk (.agg (bC.cells h).toArray) 10 rfl (qk (.bool aW) 11 rfl ?_))
 refine qd 12 rfl (IY (cs:= [.string ⟨v9 []⟩, .string ⟨v9 []⟩]) (t:=38) bR rfl rfl (λ _=>by kernel_rfl) ?_)
 intro bS kT gT
 have bT:=gT.pb [0]
 refine⟨.inr ⟨_,bT⟩, ?_⟩
 have gU:=bT.pf [2]
 refine qe 13 rfl (Do.store (vs:=(bC.cells h)) (o:=0) gU rfl rfl M6 rfl rfl rfl rfl ?_)
 intro kU gV
 have R:=gV.pb [0]
 refine⟨.inr ⟨_,R⟩, ?_⟩
 refine qa 14 rfl rfl (qn (Ig (sr (Mn rfl ?_))))
 rcases Li (aW) with ai | ai
 refine jT ai (Ib (Mz rfl (Kz (vP f 0) (Lz (vI p2.aD) R 0 C4 (Kz (vP bS 0) (Lz (.string ⟨v9 h.bF⟩) R 2 C2 (Kz (vP bS 1) (Lz (.string ⟨v9 h.bT⟩) R 2 C2 (Kz (vP f 5) (Lz (vI p2.bS) R 0 C4 (Kz (.agg #[vI p2.aD, .string ⟨v9 []⟩, .string ⟨v9 []⟩, .string ⟨v9 h.bF⟩, .string ⟨v9 h.bT⟩,vI p2.bS]) ?_)))))))))))
 refine lg [vI p2.aD, .string ⟨v9 []⟩, .string ⟨v9 []⟩, .string ⟨v9 h.bF⟩, .string ⟨v9 h.bT⟩,vI p2.bS] 72 6 1 R ?_
 intro gW kV aX
 replace aX:=IL (y:=row gW 1 1 (q3 bi.cells ([(bi.mk p2.aD [] [] h.bF h.bT p2.bS)])) 72 6) rfl aX
 have bU:=aX.pf [2]
 refine WL.do rfl (IM (k:=c.length) (m:=1) (qX) bU rfl rfl (jv y4 (bU.rds (i:=1) rfl) (fU bi.one ([(bi.mk p2.aD [] [] h.bF h.bT p2.bS)]))) rfl e6 (s:=r8 (c++ [(bi.mk p2.aD [] [] h.bF h.bT p2.bS)])) f7 (r4).symm ?_)
 intro gX gY kW gZ
 have jO:r8 (c++ [(bi.mk p2.aD [] [] h.bF h.bT p2.bS)])=c.length+1:=by simp only [o1,s0,F2]
 refine Az rfl (C6 (bN (Ig (Ib (fw (vJ (a+1)) (Ie (e:=C5.wrap ((a:Int)+1)) yk f0) (Mz rfl (C6 ?_)))))))
 have ib:=gZ.pk [2,0]
 exact Ir (gX,gY,(c++ [(bi.mk p2.aD [] [] h.bF h.bT p2.bS)]),a+1) ⟨rfl,rfl,rfl,rfl,rfl,rfl,rfl,trivial⟩ (x.2 ⟨ib,e6,e6,et (z) (et (congrArg (λ q=>gz l0 n p2 q c a) A) (et (ip E) (et (ah Q) (et (ah ay) (ip ai)))))⟩) (by show l0.length - (a+1) < l0.length - a; omega)
 refine jF ai (IE (bN (Ig (Ib (fw (vJ (a+1)) (Ie (e:=C5.wrap ((a:Int)+1)) yk f0) (Mz rfl (C6 ?_)))))))
 have ic:=R.pk [0,1]
 exact Ir (G,I,c,a+1) ⟨rfl,rfl,rfl,rfl,rfl,rfl,rfl,trivial⟩ (x.2 ⟨ic,e6,e6,et (z) (et (congrArg (λ q=>gz l0 n p2 q c a) A) (et (ip E) (et (ah Q) (et (ah ay) (gm ai)))))⟩) (by show l0.length - (a+1) < l0.length - a; omega)
 refine GY.do 12 rfl e7 (IY (cs:= [.string ⟨v9 []⟩, .string ⟨v9 []⟩]) (t:=38) aV rfl rfl (λ _=>by kernel_rfl) ?_)
 intro bV kX ig
 have bW:=ig.pb [0]
 refine⟨.inr ⟨_,bW⟩, ?_⟩
 obtain⟨⟨j,aZ⟩,az⟩:∃ q:bC × Bool,iK (bC.mk p2.bF p2.bT) ag=q:=⟨_,rfl⟩
 obtain⟨kY,dQ,jP,dR,jQ⟩:=Ii bW
 refine qd 8 rfl (Iz N9 rfl (oK _ _ (bC.mk p2.bF p2.bT) ag j aZ dQ az) ?_)
 rintro _ kZ ⟨rfl,dS⟩
 have bX:=dR _ _ dS
 refine⟨.inr ⟨_,bX⟩, ?_⟩
 refine qv 9 rfl rfl (qk (.agg (bC.cells j).toArray) 10 rfl (qk (.bool aZ) 11 rfl ?_))
 have ik:=bX.pf [2]
 refine qe 13 rfl (Do.store (vs:=(bC.cells j)) (o:=0) ik rfl rfl M6 rfl rfl rfl rfl ?_)
 intro lc il
 have S:=il.pb [0]
 refine⟨.inr ⟨_,S⟩, ?_⟩
 refine qa 14 rfl rfl (qn (Ig (sr (Mn rfl ?_))))
 rcases Li (aZ) with aj | aj
 refine jT aj (Ib (Mz rfl (Kz (vP f 0) (Lz (vI p2.aD) S 0 C4 (Kz (vP bV 0) (Lz (.string ⟨v9 j.bF⟩) S 2 C2 (Kz (vP bV 1) (Lz (.string ⟨v9 j.bT⟩) S 2 C2 (Kz (vP f 5) (Lz (vI p2.bS) S 0 C4 (Kz (.agg #[vI p2.aD, .string ⟨v9 []⟩, .string ⟨v9 []⟩, .string ⟨v9 j.bF⟩, .string ⟨v9 j.bT⟩,vI p2.bS]) ?_)))))))))))
 refine lg [vI p2.aD, .string ⟨v9 []⟩, .string ⟨v9 []⟩, .string ⟨v9 j.bF⟩, .string ⟨v9 j.bT⟩,vI p2.bS] 72 6 1 S ?_
 intro iq lh bf
 replace bf:=IL (y:=row iq 1 1 (q3 bi.cells ([(bi.mk p2.aD [] [] j.bF j.bT p2.bS)])) 72 6) rfl bf
 have bY:=bf.pf [2]
 refine WL.do rfl (IM (k:=c.length) (m:=1) (qX) bY rfl rfl (jv y4 (bY.rds (i:=1) rfl) (fU bi.one ([(bi.mk p2.aD [] [] j.bF j.bT p2.bS)]))) rfl e6 (s:=r8 (c++ [(bi.mk p2.aD [] [] j.bF j.bT p2.bS)])) f7 (r4).symm ?_)
 intro iw iy ll iA
 have jR:r8 (c++ [(bi.mk p2.aD [] [] j.bF j.bT p2.bS)])=c.length+1:=by simp only [o1,s0,F2]
 refine Az rfl (C6 (bN (Ig (Ib (fw (vJ (a+1)) (Ie (e:=C5.wrap ((a:Int)+1)) yk f0) (Mz rfl (C6 ?_)))))))
 have iB:=iA.pk [2,0]
 exact Ir (iw,iy,(c++ [(bi.mk p2.aD [] [] j.bF j.bT p2.bS)]),a+1) ⟨rfl,rfl,rfl,rfl,rfl,rfl,rfl,trivial⟩ (x.2 ⟨iB,e6,e6,et (z) (et (congrArg (λ q=>gz l0 n p2 q c a) A) (et (ip E) (et (ah Q) (et (ah az) (ip aj)))))⟩) (by show l0.length - (a+1) < l0.length - a; omega)
 refine jF aj (IE (bN (Ig (Ib (fw (vJ (a+1)) (Ie (e:=C5.wrap ((a:Int)+1)) yk f0) (Mz rfl (C6 ?_)))))))
 have iC:=S.pk [0,1]
 exact Ir (G,I,c,a+1) ⟨rfl,rfl,rfl,rfl,rfl,rfl,rfl,trivial⟩ (x.2 ⟨iC,e6,e6,et (z) (et (congrArg (λ q=>gz l0 n p2 q c a) A) (et (ip E) (et (ah Q) (et (ah az) (gm aj)))))⟩) (by show l0.length - (a+1) < l0.length - a; omega)
 refine GY.do 12 rfl e7 (IY (cs:= [.string ⟨v9 []⟩, .string ⟨v9 []⟩]) (t:=38) bP rfl rfl (λ _=>by kernel_rfl) ?_)
 intro cu lm iD
 have cz:=iD.pb [0]
 refine⟨.inr ⟨_,cz⟩, ?_⟩
 obtain⟨bg,aA⟩:∃ q,mM l0 (a:Int)=q:=⟨_,rfl⟩
 obtain⟨lq,dU,dW,dX,jS⟩:=Ii cz
 refine qd 7 rfl (Iz N8 rfl (o5 _ _ L l0.length c0 l0 (a:Int) bg dU (dW _ B) rfl e6 e6 aA) ?_)
 rintro _ lu ⟨rfl,dY⟩
 have cB:=dX _ _ dY
 refine⟨.inr ⟨_,cB⟩, ?_⟩
 obtain⟨⟨l,bn⟩,aB⟩:∃ q:bC × Bool,iK (bC.mk p2.bF p2.bT) bg=q:=⟨_,rfl⟩
 obtain⟨lv,dZ,jU,ed,jV⟩:=Ii cB
 refine qd 8 rfl (Iz N9 rfl (oK _ _ (bC.mk p2.bF p2.bT) bg l bn dZ aB) ?_)
 rintro _ lw ⟨rfl,ek⟩
 have cK:=ed _ _ ek
 refine⟨.inr ⟨_,cK⟩, ?_⟩
 refine qv 9 rfl rfl (qk (.agg (bC.cells l).toArray) 10 rfl (qk (.bool bn) 11 rfl ?_))
 have iE:=cK.pf [2]
 refine qe 13 rfl (Do.store (vs:=(bC.cells l)) (o:=0) iE rfl rfl M6 rfl rfl rfl rfl ?_)
 intro lC iF
 have T:=iF.pb [0]
 refine⟨.inr ⟨_,T⟩, ?_⟩
 refine qa 14 rfl rfl (qn (Ig (sr (Mn rfl ?_))))
 rcases Li (bn) with ak | ak
 refine jT ak (Ib (Mz rfl (Kz (vP f 0) (Lz (vI p2.aD) T 0 C4 (Kz (vP cu 0) (Lz (.string ⟨v9 l.bF⟩) T 2 C2 (Kz (vP cu 1) (Lz (.string ⟨v9 l.bT⟩) T 2 C2 (Kz (vP f 5) (Lz (vI p2.bS) T 0 C4 (Kz (.agg #[vI p2.aD, .string ⟨v9 []⟩, .string ⟨v9 []⟩, .string ⟨v9 l.bF⟩, .string ⟨v9 l.bT⟩,vI p2.bS]) ?_)))))))))))
 refine lg [vI p2.aD, .string ⟨v9 []⟩, .string ⟨v9 []⟩, .string ⟨v9 l.bF⟩, .string ⟨v9 l.bT⟩,vI p2.bS] 72 6 1 T ?_
 intro iG lD bq
 replace bq:=IL (y:=row iG 1 1 (q3 bi.cells ([(bi.mk p2.aD [] [] l.bF l.bT p2.bS)])) 72 6) rfl bq
 have cO:=bq.pf [2]
 refine WL.do rfl (IM (k:=c.length) (m:=1) (qX) cO rfl rfl (jv y4 (cO.rds (i:=1) rfl) (fU bi.one ([(bi.mk p2.aD [] [] l.bF l.bT p2.bS)]))) rfl e6 (s:=r8 (c++ [(bi.mk p2.aD [] [] l.bF l.bT p2.bS)])) f7 (r4).symm ?_)
 intro iH iI lF iJ
 have jW:r8 (c++ [(bi.mk p2.aD [] [] l.bF l.bT p2.bS)])=c.length+1:=by simp only [o1,s0,F2]
 refine Az rfl (C6 (bN (Ig (Ib (fw (vJ (a+1)) (Ie (e:=C5.wrap ((a:Int)+1)) yk f0) (Mz rfl (C6 ?_)))))))
 have iL:=iJ.pk [2,0]
 exact Ir (iH,iI,(c++ [(bi.mk p2.aD [] [] l.bF l.bT p2.bS)]),a+1) ⟨rfl,rfl,rfl,rfl,rfl,rfl,rfl,trivial⟩ (x.2 ⟨iL,e6,e6,et (z) (et (congrArg (λ q=>gz l0 n p2 q c a) A) (et (ip E) (et (ah aA) (et (ah aB) (ip ak)))))⟩) (by show l0.length - (a+1) < l0.length - a; omega)
 refine jF ak (IE (bN (Ig (Ib (fw (vJ (a+1)) (Ie (e:=C5.wrap ((a:Int)+1)) yk f0) (Mz rfl (C6 ?_)))))))
 have iM:=T.pk [0,1]
 exact Ir (G,I,c,a+1) ⟨rfl,rfl,rfl,rfl,rfl,rfl,rfl,trivial⟩ (x.2 ⟨iM,e6,e6,et (z) (et (congrArg (λ q=>gz l0 n p2 q c a) A) (et (ip E) (et (ah aA) (et (ah aB) (gm ak)))))⟩) (by show l0.length - (a+1) < l0.length - a; omega)
 refine jT (dT E) (C7 (Il (IB (Ig (Ib (fw (vJ (a+1)) (Ie (e:=C5.wrap ((a:Int)+1)) yk f0) (Mz rfl (C6 ?_))))))))
 have iO:=U.pf []
 exact Ir (G,I,c,a+1) ⟨rfl,rfl,rfl,rfl,rfl,rfl,rfl,trivial⟩ (x.2 ⟨iO,e6,e6,et (z) (et (congrArg (λ q=>gz l0 n p2 q c a) A) (iN E))⟩) (by show l0.length - (a+1) < l0.length - a; omega)
 refine jF (dF bO) (C7 (Il ?_))
 have eu:gz l0 n p2 l0 [] 0=c:=et (z) (et (congrArg (λ q=>gz l0 n p2 q c a) (fB (ls:=l0) (i:=a) e6)) rfl)
 refine Il (IB (Ig (Ic ?_)))
 have iP:=U.pk [1]
 refine Ib (Mz rfl (An rfl (rt (rs ?_))))
 have iQ:=iP.pf []
 obtain rfl:=zj hr zq3
 exact⟨G,I,rfl,iQ,i5⟩
 refine jT (dT aD) (Ic (sr (Mz rfl (Mz rfl (Kz (vP f 1) (Lz (.string ⟨v9 p2.bY⟩) aJ 0 C2 ?_))))))
 obtain⟨J,bu⟩:∃ q,qD l0 p2.bY=q:=⟨_,rfl⟩
 obtain⟨lG,eB,eD,eF,jX⟩:=Ii aJ
 refine cl Tryz.call162 (yZ _ _ L l0.length c0 l0 p2.bY J eB (eD _ B) rfl e6 i5 bu) ?_
 rintro _ iR ⟨rfl,eG,bv⟩
 have V:=eF _ _ eG
 replace bv:0<=J/\J < (l0.length:Int):=bv
 obtain⟨W,bz⟩:=dN (ls:=l0) (i:=D0 J) aY.len f4 (V.ro B) e9
 refine fw (.pointer (some ⟨ab L,ao L+(D0 J) *2,none⟩)) (Ij (qY) rfl (Fy (r:=J) rfl e6) ((V.ro B).addr (i:=D0 J) e6) e6) (Kz (.pointer (some ⟨ab L,ao L+(D0 J) *2+1,none⟩)) (fw (vI W.eG) (Io rfl (bZ.one C4 (((V.ro B).elem aY.len bz f4).at_ (k:=1) rfl))) (Mz rfl (Kz (.bool (decide (W.eG=n))) (nt ?_)))))
 obtain⟨iT,aC⟩:=rz λ aG (aH:Nat) K w'=>Own w D w' [blk f (bi.cells p2) 72,row aG K.length aH (q3 bi.cells K) 72 6]/\0<=K.length/\K.length<=1/\(if W.eG=n then [p2] else [])=K
 refine IZ (λ i:(Option Addr) × Nat × (List bi)=> [(7, .slice i.1 i.2.2.length i.2.1),(6, .slice none 0 0),(5,vP f 0),(0, .slice L l0.length c0),(1,vI n)]) iT ?_ ?_
 by_cases aI:W.eG=n
 refine jT (dT aI) (Ib (Mz rfl (La (bi.cells p2) V 0 Tryz.isAgg72 Tryz.sizeOf72 ?_)))
 refine lg (bi.cells p2) 72 6 1 V ?_
 intro cZ iU bA
 replace bA:=IL (y:=row cZ 1 1 (q3 bi.cells ([p2])) 72 6) rfl bA
 have df:Own w D iU [row none 0 0 (q3 bi.cells []) 72 6,row cZ 1 1 (q3 bi.cells ([p2])) 72 6,blk f (bi.cells p2) 72]:=bA.free (eZ 72 6)
 refine WL.do rfl (IM (k:=0) (m:=1) (qX) df rfl rfl (jv y4 (df.rds (i:=1) rfl) (fU bi.one ([p2]))) rfl e6 (s:=1) e6 rfl ?_)
 intro iV iW lH iX
 refine Az rfl (C6 ?_)
 have iY:=iX.pk [2,0]
 exact IQ (iV,iW, [p2]) ⟨rfl,rfl,rfl,rfl,rfl,trivial⟩ (aC.2 ⟨iY,(show 0<=r8 ([p2])/\r8 ([p2])<=1/\(if W.eG=n then [p2] else [])=([p2]) from ⟨e6,by first | omega | exact Nat.le_refl _ | exact Lg _,ip aI⟩)⟩)
 refine jF (dF aI) (IE ?_)
 have iZ:Own w D iR [row none 0 0 (q3 bi.cells []) 72 6,blk f (bi.cells p2) 72]:=V.free (eZ 72 6)
 have ja:=iZ.pb [0]
 exact IQ (none,0, []) ⟨rfl,rfl,rfl,rfl,rfl,trivial⟩ (aC.2 ⟨ja,(show 0<=r8 []/\0<=1/\(if W.eG=n then [p2] else [])=[] from ⟨e6,by first | omega | exact Nat.le_refl _ | exact Lg _,iN aI⟩)⟩)
 rintro ⟨aG,aH,K⟩ lI eH
 obtain⟨jb,jY,jZ,eO⟩:=aC.1 eH
 refine sr (Mz rfl (An rfl (rt (tR (rs ?_)))))
 have jd:=jb.pk [1]
 obtain rfl:=zj hr zq5
 exact⟨aG,aH,rfl,jd,i5⟩
def ry (a:Nat):Nat × Nat:=
 (((0 *(a / 4294967296))+(((0 *(a % 4294967296))+((1 *(a % 4294967296)) / 4294967296)) / 4294967296))+(((((0 *(a % 4294967296))+((1 *(a % 4294967296)) / 4294967296)) % 4294967296)+(1 *(a / 4294967296))) / 4294967296),1 *a)
theorem wF (w D g a b c) (H:Own w D w []) (d:g=1) (h:a<=9223372036854775807) (hr:ry a=(b,c)):
    Calls v8 190 #[.int .u64 g,vU a] w (d9 λ v w'=>v= .tuple #[vU b,vU c]/\Own w D w' []/\(b=0/\c=a)):=by
 subst d
 refine cb Tryz.func190 ?_
 refine sr (Az rfl (Ar rfl (Mz rfl (Kz (.int .u64 1) (Ar rfl (Mz rfl (Kz (.int .u64 0) (Ar rfl (Mz rfl (fw (vU (a % 4294967296)) (Ie (e:=D1.wrap (((BitVec.ofInt 64 (a:Int) &&& BitVec.ofInt 64 4294967295).toNat:Nat):Int)) yk (Aj _ 32 f4 _ f4)) (Ar rfl (Mz rfl (fw (vU (a / 4294967296)) (Ie (e:=J0 (a:Int) 4294967296) yk (nV _ 32 _ f4)) (Ar rfl (Mz rfl (Mz rfl (fw (vU (1 *(a % 4294967296))) (Ie (e:=D1.wrap (1 *((a % 4294967296:Nat):Int))) yk g8) (Az rfl ?_))))))))))))))))))
 refine ns (Mz rfl (Mz rfl (fw (vU (0 *(a % 4294967296))) (Ie (e:=D1.wrap (0 *((a % 4294967296:Nat):Int))) yk g8) (Mz rfl (fw (.int .u64 (((1 *(a % 4294967296)) / 4294967296:Nat):Int)) (Ie (e:=J0 ((1 *(a % 4294967296):Nat):Int) 4294967296) yk (nV _ 32 _ f4)) (fw (.int .u64 (((0 *(a % 4294967296))+((1 *(a % 4294967296)) / 4294967296):Nat):Int)) (Ie (e:=D1.wrap (((0 *(a % 4294967296):Nat):Int)+(((1 *(a % 4294967296)) / 4294967296:Nat):Int))) yk g8) (Ar rfl (Mz rfl (fw (.int .u64 ((((0 *(a % 4294967296))+((1 *(a % 4294967296)) / 4294967296)) % 4294967296:Nat):Int)) (Ie (e:=D1.wrap (((BitVec.ofInt 64 (((0 *(a % 4294967296))+((1 *(a % 4294967296)) / 4294967296):Nat):Int) &&& BitVec.ofInt 64 4294967295).toNat:Nat):Int)) yk (Aj _ 32 f4 _ f4)) (Ar rfl (Mz rfl (fw (.int .u64 ((((0 *(a % 4294967296))+((1 *(a % 4294967296)) / 4294967296)) / 4294967296:Nat):Int)) (Ie (e:=J0 (((0 *(a % 4294967296))+((1 *(a % 4294967296)) / 4294967296):Nat):Int) 4294967296) yk (nV _ 32 _ f4)) (Ar rfl (Mz rfl (Mz rfl (Mz rfl (fw (vU (1 *(a / 4294967296))) (Ie (e:=D1.wrap (1 *((a / 4294967296:Nat):Int))) yk g8) (fw (.int .u64 (((((0 *(a % 4294967296))+((1 *(a % 4294967296)) / 4294967296)) % 4294967296)+(1 *(a / 4294967296)):Nat):Int)) (Ie (e:=D1.wrap (((((0 *(a % 4294967296))+((1 *(a % 4294967296)) / 4294967296)) % 4294967296:Nat):Int)+((1 *(a / 4294967296):Nat):Int))) yk g8) (Ar rfl (Mz rfl ?_))))))))))))))))))))
 refine Mz rfl (fw (vU (0 *(a / 4294967296))) (Ie (e:=D1.wrap (0 *((a / 4294967296:Nat):Int))) yk g8) (Mz rfl (fw (.int .u64 (((0 *(a / 4294967296))+(((0 *(a % 4294967296))+((1 *(a % 4294967296)) / 4294967296)) / 4294967296):Nat):Int)) (Ie (e:=D1.wrap (((0 *(a / 4294967296):Nat):Int)+((((0 *(a % 4294967296))+((1 *(a % 4294967296)) / 4294967296)) / 4294967296:Nat):Int))) yk g8) (Mz rfl (fw (.int .u64 ((((((0 *(a % 4294967296))+((1 *(a % 4294967296)) / 4294967296)) % 4294967296)+(1 *(a / 4294967296))) / 4294967296:Nat):Int)) (Ie (e:=J0 (((((0 *(a % 4294967296))+((1 *(a % 4294967296)) / 4294967296)) % 4294967296)+(1 *(a / 4294967296)):Nat):Int) 4294967296) yk (nV _ 32 _ f4)) (fw (.int .u64 ((((0 *(a / 4294967296))+(((0 *(a % 4294967296))+((1 *(a % 4294967296)) / 4294967296)) / 4294967296))+(((((0 *(a % 4294967296))+((1 *(a % 4294967296)) / 4294967296)) % 4294967296)+(1 *(a / 4294967296))) / 4294967296):Nat):Int)) (Ie (e:=D1.wrap ((((0 *(a / 4294967296))+(((0 *(a % 4294967296))+((1 *(a % 4294967296)) / 4294967296)) / 4294967296):Nat):Int)+((((((0 *(a % 4294967296))+((1 *(a % 4294967296)) / 4294967296)) % 4294967296)+(1 *(a / 4294967296))) / 4294967296:Nat):Int))) yk g8) (Ar rfl (Mz rfl (Mz rfl (fw (vU (1 *a)) (Ie (e:=D1.wrap (1 *(a:Int))) yk g8) (An rfl (rt (Fin.res (lW rfl rfl rfl) ?_)))))))))))))
 have f:=H.pk []
 obtain⟨rfl,rfl⟩:=ic (zj hr (show _=(((0 *(a / 4294967296))+(((0 *(a % 4294967296))+((1 *(a % 4294967296)) / 4294967296)) / 4294967296))+(((((0 *(a % 4294967296))+((1 *(a % 4294967296)) / 4294967296)) % 4294967296)+(1 *(a / 4294967296))) / 4294967296),1 *a) from rfl))
 exact⟨rfl,f,e6⟩
def sO (b:Nat):Nat × Nat:=
 bnd (ry b) λ a=>(a.1,a.2)
theorem xP (w D n e i j) (H:Own w D w []) (k:n=1) (r:e<=9223372036854775807) (hr:sO e=(i,j)):
    Calls v8 164 #[.int .u64 n,vU e] w (d9 λ v w'=>v= .tuple #[vU i,vU j]/\Own w D w' []/\(i=0/\j=e)):=by
 unfold sO at hr
 subst k
 refine cb Tryz.func164 ?_
 refine sr (Az rfl (An rfl (Ic (jf (sk (sr (Mz rfl (Mz rfl ?_))))))))
 obtain⟨⟨a,b⟩,c⟩:∃ q:Nat × Nat,ry e=q:=⟨_,rfl⟩
 obtain⟨s,f,o,g,p⟩:=Ii H
 refine cl Tryz.call190 (wF _ _ 1 e a b f rfl e6 c) ?_
 rintro _ t ⟨rfl,h,d⟩
 have l:=g _ _ h
 replace d:a=0/\b=e:=d
 refine Mz rfl (Kz (vU a) (Kz (vU b) (Az rfl (Ar rfl (Mz rfl (Mz rfl (Az rfl (An rfl (rt (Fin.res (lW rfl rfl rfl) ?_))))))))))
 have m:=l.pk []
 obtain⟨rfl,rfl⟩:=ic (zj hr zq1)
 exact⟨rfl,m,e6⟩
def kP (b:Nat):Nat->Nat->List Int->(List Int)
  | 0,a,c=>default
  | d+1,a,c=>if(a:Int) < (b:Int) then kP b d (a+(min a (b - a))) (q7 a c++(q7 (min a (b - a)) (q7 a c)++r3 (a+(min a (b - a))) c)) else c
def oL (l0:List Int) (b:Int):(List Int):=
 bnd (sO (D0 b)) λ a=>bnd (kP a.2 ((D0 b - (min l0.length a.2))+1) (min l0.length a.2) (q7 0 (r6 a.2 (0:Int))++(q7 (min l0.length a.2) l0++r3 (0+(min l0.length a.2)) (r6 a.2 (0:Int))))) λ sLrbL=>sLrbL
theorem tV (w D W K c0 l0 d x) (H:Own w D w []) (L:Ro w D λ w'=>bE w' 1 W K (q3 (eI .i64) l0)) (M:K=l0.length) (ax:l0.length *8<=211106232532992) (ay:l0.length=1/\0<=d/\d *8<=140737488351232) (hr:oL l0 d=x):
    Calls v8 147 #[.slice W K c0,vI d] w (d9 λ v w'=> ∃ X Y,v= .slice X x.length Y/\Own w D w' [row X x.length Y (q3 (eI .i64) x) 3 1]/\(((x.length:Nat):Int)=d)):=by
 unfold oL at hr
 subst M
 refine cb Tryz.func147 ?_
 refine sr (An rfl (Ic (sr (Mz rfl (Kz (.bool (decide (d < 0))) (nt ?_))))))
 have y:(decide (d < 0))=false:=(dF e6)
 refine jF y (sk (sr (Mz rfl (Kz (vJ l0.length) (fw (vU l0.length) (Ie (e:=D1.wrap (l0.length:Int)) yk (IntWalk.u64_in _ e6)) (fw (vJ (D0 d)) (Ie (e:=d) (Iq rfl) e6) (fw (vU (D0 d)) (Ie (e:=D1.wrap ((D0 d:Nat):Int)) yk (IntWalk.u64_in _ e6)) ?_)))))))
 obtain⟨⟨g,a⟩,o⟩:∃ q:Nat × Nat,sO (D0 d)=q:=⟨_,rfl⟩
 obtain⟨az,A,Z,B,aa⟩:=Ii H
 refine cl Tryz.call164 (xP _ _ (l0.length:Int) (D0 d) g a A e6 e6 o) ?_
 rintro _ aA ⟨rfl,C,p⟩
 have N:=B _ _ C
 replace p:g=0/\a=(D0 d):=p
 refine Mz rfl (Kz (vU g) (Kz (vU a) (Az rfl (An rfl (Ic (sr (Mz rfl (Kz (.bool (decide ((g:Int) > 0))) (Mz rfl ?_)))))))))
 have h:(decide ((g:Int) > 0))=false:=(dF e6)
 refine I1 (v:=vU a) rfl rfl h rfl (Iq rfl) (Gz (.bool (decide ((a:Int) > 9223372036854775807))) h (fw (.bool (decide ((a:Int) > 9223372036854775807))) (Ih rfl h rfl) (nt ?_)))
 have E:(decide ((a:Int) > 9223372036854775807))=false:=(dF e6)
 refine jF E (sk (sr (Mz rfl (fw (vJ a) (Ie (e:=C5.wrap (a:Int)) yk (Lf _ e6)) ?_))))
 refine WL.do rfl (Jl (x0:=(0:Int)) (z:=vI 0) (k:=a) (size:=1) (bytes:=8) jd f4 rfl G2 e7 N rfl rfl e6 (by unfold maxLen; omega) ?_)
 intro f aB s
 have ae:r8 (r6 a (0:Int))=a:=H2
 refine Ar rfl (Mz rfl (Mz rfl ?_))
 refine WL.do rfl (Kg (lo:=0) (k:=min l0.length a) (om) s rfl (λ hp=>by rw [Nat.zero_mul,Nat.add_zero]; exact(s.rds (i:=0) rfl).isSome e6) e6 rfl (s.ro L) (fU vO l0) e6 (zZ jd _ _ _ _ e9) ?_)
 intro aC O
 have af:r8 (q7 0 (r6 a (0:Int))++(q7 (min l0.length a) l0++r3 (0+(min l0.length a)) (r6 a (0:Int))))=a:=by simp only [o1,m9,o0,H2]; omega
 refine An rfl (Ic (bo ?_))
 have P:=O.pf []
 obtain⟨Q,j⟩:=rz λ (b:Nat) c (l:Nat) w'=>Own w D w' [row f a a (q3 (eI .i64) c) 3 1]/\c.length=a/\(b:Int)<=d/\(1<=b\/d=0)/\D0 d - b < l/\kP a ((D0 d - (min l0.length a))+1) (min l0.length a) (q7 0 (r6 a (0:Int))++(q7 (min l0.length a) l0++r3 (0+(min l0.length a)) (r6 a (0:Int))))=kP a l b c
 refine C3 (λ i:Nat × (List Int) × Nat=> [(8,vJ i.1),(7, .slice f a a),(4, .slice none 0 0)]) Q (λ i=>i.2.2) (min l0.length a,(q7 0 (r6 a (0:Int))++(q7 (min l0.length a) l0++r3 (0+(min l0.length a)) (r6 a (0:Int)))),(D0 d - (min l0.length a))+1) ⟨rfl,rfl,rfl,trivial⟩ (j.2 ⟨P,by first | omega | (simp only [H1] <;> omega) | (simp only [H2]),e6,e6,e6,rfl⟩) ?_
 rintro ⟨b,c,l⟩ R F
 obtain⟨G,ag,ai,aj,ak,r⟩:=j.1 F
 obtain⟨t,I⟩:∃ q,l=q+1:=⟨l - 1,e6⟩
 subst I
 refine Ic (sr (Mz rfl (Mz rfl (Kz (vJ a) (Kz (.bool (decide ((b:Int) < (a:Int)))) (nt ?_))))))
 by_cases n:(b:Int) < (a:Int)
 refine jT (dT n) (sk (bo ?_))
 refine vW [7] (bQ.block (Iu (bQ.block (Iu IC)))) G ?_
 intro aD u
 refine IP (v:=vJ b) 0 rfl e7 (λ _=>Iq rfl) (qv 1 rfl rfl (qv 2 rfl rfl (qt (v:= .slice (jS f b 1 a) (a - b) (a - b)) 3 rfl (λ _ _=>IV (om) rfl rfl e6) (qv 4 rfl rfl (qv 5 rfl rfl (qt (v:= .slice f b a) 6 rfl (λ _ _=>Jc (om) rfl rfl e6) ?_))))))
 refine qd 7 rfl (Kg (lo:=b) (k:=min b (a - b)) (om) u rfl (λ _=>lq ((u.rds (i:=0) rfl).addr (i:=b) e6) e6) e6 rfl (Ke (hi:=b) jd (u.rds (i:=0) rfl) e6) (fU vO (q7 b c)) e6 (zZ jd _ _ _ _ e9) ?_)
 intro aF S
 have au:r8 (q7 b c++(q7 (min b (a - b)) (q7 b c)++r3 (b+(min b (a - b))) c))=a:=by simp only [o1,m9,o0,H2]; omega
 refine⟨.inl e7, ?_⟩
 refine IP (v:=vI ((b+(min b (a - b)):Nat):Int)) 8 rfl e7 (λ _=>Ie (e:=C5.wrap ((b:Int)+((min b (a - b):Nat):Int))) yk f0) (IP (v:=vI ((b+(min b (a - b)):Nat):Int)) 9 rfl e7 (λ _=>Jo rfl) (qn (bN ?_)))
 have T:=S.pf []
 exact Ir (b+(min b (a - b)),(q7 b c++(q7 (min b (a - b)) (q7 b c)++r3 (b+(min b (a - b))) c)),t) ⟨rfl,rfl,rfl,trivial⟩ (j.2 ⟨T,by first | omega | (simp only [H1] <;> omega) | (simp only [H2]),e6,e6,e6,Eq.trans (r) (if_pos n)⟩) (by show t < t+1; omega)
 refine jF (dF n) (C7 (Il ?_))
 have J:kP a ((D0 d - (min l0.length a))+1) (min l0.length a) (q7 0 (r6 a (0:Int))++(q7 (min l0.length a) l0++r3 (0+(min l0.length a)) (r6 a (0:Int))))=c:=et (r) (iN n)
 refine Il (IB (Ig (sr (Mz rfl (An rfl (rt (rs ?_)))))))
 have m:a=c.length:=by first | omega | (simp only [H1]; done) | (simp only [H1,o1,s0,F2,m9,o0,H2]; omega)
 have U:Own w D R [row f c.length a (q3 (eI .i64) c) 3 1]:=by rw [<- m]; exact G
 have V:=U.pf []
 obtain rfl:=zj hr zq2
 exact⟨f,a,(by first | rfl | (rw [<- m]; done) | (rw [<- m]; rfl)),V,e6⟩
def jX (l0:List aY) (g:List gF) (f:Nat):List bi->Nat->List bi->List Int->(List bi) × (List Int)
  | [],b,c,d=>(c,d)
  | h::i,b,c,d=>bnd (jc l0 (f:Int) h) λ a=>bnd (oL ([(b:Int)]) (a.length:Int)) λ e=>jX l0 g f i (b+1) (c++a) (d++e)
def iE (l0:List aY) (l1:List bi):Nat->List gF->Nat->(List gF)
  | 0,a,b=>a
  | c+1,a,b=>bnd (jX l0 a b l1 0 [] []) λ sLrbtbtLsL=>if(sLrbtbtLsL.1.length:Int) > 0 then iE l0 l1 c (a++ [(gF.mk (b:Int) (E2 sLrbtbtLsL.1) (E2 sLrbtbtLsL.2))]) (b+1) else iE l0 l1 c a (b+1)
def lF (l0:List aY) (l1:List bi):(List gF) × Int:=
 bnd (kR l0) λ a=>if a=0 then bnd (oo l1) λ b=>if b=0 then bnd (iE l0 l1 5 [] 0) λ sLrbtbtL=>(sLrbtbtL,0) else(([]:List gF),b) else(([]:List gF),a)
theorem A9 (w D A0 n0 c0 l0 L n1 c1 l1 r0 r1) (H:Own w D w []) (aQ:Ro w D λ w'=>bE w' 2 A0 n0 (q3 aY.cells l0)) (dw:n0=l0.length) (fE:l0.length *24<=211106232532992) (Y:Ro w D λ w'=>bE w' 6 L n1 (q3 bi.cells l1)) (dx:n1=l1.length) (fF:l1.length *80<=211106232532992) (hr:lF l0 l1=(r0,r1)):
    Calls v8 127 #[.slice A0 n0 c0, .slice L n1 c1] w (d9 λ v w'=> ∃ B0 b0 e0,v= .tuple #[.slice B0 r0.length b0,vI r1]/\Own w D w' [row B0 r0.length b0 (q3 bG.cells e0) 172 3,sepL (q3 bG.own e0)]/\(List.map bG.abs e0=r0)):=by
 unfold lF at hr
 subst dw dx
 refine cb Tryz.func127 ?_
 refine sr (Az rfl (An rfl (Ic (sr (Mz rfl ?_)))))
 obtain⟨J,F⟩:∃ q,kR l0=q:=⟨_,rfl⟩
 obtain⟨fG,aR,aS,aT,dZ⟩:=Ii H
 refine cl Tryz.call72 (rM _ _ A0 l0.length c0 l0 J aR (aS _ aQ) rfl e6 F) ?_
 rintro _ aU ⟨rfl,aV,ag⟩
 have aW:=aT _ _ aV
 replace ag: ¬ (J=0)\/(1<=l0.length/\l0.length<=6):=ag
 refine Ar rfl (Mz rfl (fw (.bool (decide (¬ (J=0)))) (IG (e:= !(decide (J=0))) yk decide_not.symm) (nt ?_)))
 by_cases M:J=0
 refine jF (dF (Lh M)) (sk (Ic (sr (Mz rfl ?_))))
 obtain⟨K,N⟩:∃ q,oo l1=q:=⟨_,rfl⟩
 obtain⟨fH,aX,aZ,bf,ed⟩:=Ii aW
 refine cl Tryz.call137 (xw _ _ L l1.length c1 l1 K aX (aZ _ Y) rfl e6 N) ?_
 rintro _ Z ⟨rfl,bg,ai⟩
 have bn:=bf _ _ bg
 replace ai: ¬ (K=0)\/(1<=l1.length/\l1.length<=4):=ai
 refine Ar rfl (Mz rfl (fw (.bool (decide (¬ (K=0)))) (IG (e:= !(decide (K=0))) yk decide_not.symm) (nt ?_)))
 by_cases aa:K=0
 refine jF (dF (Lh aa)) (sk (sr (An rfl (Ic (sr (Mn rfl (bo ?_)))))))
 have dA:Own w D Z [sepL (q3 bG.own [])]:=bn.sepNil
 have dB:Own w D Z [row none 0 0 (q3 bG.cells []) 172 3,sepL (q3 bG.own [])]:=dA.free (eZ 172 3)
 have dC:=dB.pf []
 obtain⟨dD,G⟩:=Au λ z (A:Nat) x d (a:Nat) w'=>Own w D w' [row z d.length A (q3 bG.cells x) 172 3,sepL (q3 bG.own x)]/\List.map bG.abs x=d/\a<=5/\d.length<=a/\iE l0 l1 5 [] 0=iE l0 l1 (5 - a) d a
 refine C3 (λ i:(Option Addr) × Nat × (List bG) × (List gF) × Nat=> [(8, .slice i.1 i.2.2.2.1.length i.2.1),(23,vJ i.2.2.2.2),(5,vI 0),(4, .slice none 0 0),(0, .slice A0 l0.length c0),(1, .slice L l1.length c1)]) dD (λ i=>5 - i.2.2.2.2) (none,0, [], [],0) ⟨rfl,rfl,rfl,rfl,rfl,rfl,trivial⟩ (G.2 ⟨dC,(show List.map bG.abs []=[]/\0<=5/\0<=0/\iE l0 l1 5 [] 0=iE l0 l1 (5 - 0) [] 0 from ⟨by exact rfl,e6,e6,rfl⟩)⟩) ?_
 rintro ⟨z,A,x,d,a⟩ fI bq
 obtain⟨bu,B,ek,eu,O⟩:=G.1 bq
 have eB:=aB B
 refine sr (Kz (.bool (decide ((a:Int) < 5))) (nt (Ic ?_)))
 by_cases bv:(a:Int) < 5
 refine jT (dT bv) (sk (Ic (bo (sr (Mz rfl (Ar rfl (Mz rfl (Kz (.agg #[vJ a, .slice none 0 0, .slice none 0 0]) ?_))))))))
 refine dV [vI 0, .slice none 0 0, .slice none 0 0] 172 bu ?_
 intro C fJ dE
 refine dS [vJ a, .slice none 0 0, .slice none 0 0] 0 dE Tryz.sizeOf172 ?_
 intro bz dG
 refine nt (Ic (sr (Mz rfl (Kz (vJ l1.length) (Mn rfl (bo ?_))))))
 have dH:Own w D bz (row none 0 0 (q3 bi.cells []) 72 6::_):=dG.free (eZ 72 6)
 have dI:Own w D bz (row none 0 0 (q3 (eI .i64) []) 3 1::_):=dH.free (eZ 3 1)
 have dJ:=dI.pb [1,0]
 obtain⟨dK,P⟩:=GM λ (g:Nat) h (j:Nat) b p (r:Nat) c w'=>Own w D w' [blk C [vJ a, .slice h b.length j, .slice p c.length r] 172,row z d.length A (q3 bG.cells x) 172 3,sepL (q3 bG.own x),row h b.length j (q3 bi.cells b) 72 6,row p c.length r (q3 (eI .i64) c) 3 1]/\g<=l1.length/\b.length<=6 *g/\c.length<=6 *g/\jX l0 d a l1 0 [] []=jX l0 d a (r3 g l1) g b c
 refine C3 (λ i:Nat × (Option Addr) × Nat × (List bi) × (Option Addr) × Nat × (List Int)=> [(30,vJ i.1),(29,vJ l1.length),(28, .slice L l1.length c1),(10,vP C 0),(27, .agg #[vJ a, .slice none 0 0, .slice none 0 0]),(26,vJ a),(9,vJ a),(25,vJ a),(24, .bool (decide ((a:Int) < 5))),(8, .slice z d.length A),(23,vJ a),(5,vI 0),(4, .slice none 0 0),(0, .slice A0 l0.length c0),(1, .slice L l1.length c1)]) dK (λ i=>l1.length - i.1) (0,none,0, [],none,0, []) ⟨rfl,rfl,rfl,rfl,rfl,rfl,rfl,rfl,rfl,rfl,rfl,rfl,rfl,rfl,rfl,trivial⟩ (P.2 ⟨dJ,(show 0<=l1.length/\0<=6 *0/\0<=6 *0/\jX l0 d a l1 0 [] []=jX l0 d a (r3 0 l1) 0 [] [] from ⟨e6,e6,e6,rfl⟩)⟩) ?_
 rintro ⟨g,h,j,b,p,r,c⟩ fK bA
 obtain⟨E,eD,eF,eG,aj⟩:=P.1 bA
 refine sr (Kz (.bool (decide ((g:Int) < (l1.length:Int)))) (nt (Ic ?_)))
 by_cases bB:(g:Int) < (l1.length:Int)
 obtain⟨ae,ak⟩:=dN (ls:=l1) (i:=g) bi.len f4 (E.ro Y) e9
 have bC:=drop_at ak
 refine jT (dT bB) (sk (Ic (bo (sr (Mz rfl (Ar rfl (Mz rfl (Mz rfl (Mz rfl (Mz rfl (fw (.pointer (some ⟨ab L,ao L+g *6,none⟩)) (Ij (qX) rfl rfl ((E.ro Y).addr (i:=g) e6) e6) (fw (.agg (bi.cells ae).toArray) (Io rfl (Iy (cs:=(bi.cells ae)) Tryz.isAgg72 Tryz.sizeOf72 ((E.ro Y).elem bi.len ak f4))) ?_))))))))))))
 obtain⟨u,Q⟩:∃ q,jc l0 (a:Int) ae=q:=⟨_,rfl⟩
 obtain⟨fM,bD,bF,bH,eH⟩:=Ii E
 refine cl Tryz.call146 (za _ _ A0 l0.length c0 l0 (a:Int) ae u bD (bF _ aQ) rfl e6 e6 Q) ?_
 rintro _ eO ⟨eP,eQ,rfl,aJ,R⟩
 have S:=bH _ _ aJ
 have dL:=zr 0 S
 replace R:u.length<=6:=R
 refine Ar rfl (Kz (vP C 1) (Lz (.slice h b.length j) S 1 Tryz.isAgg39 (Mz rfl ?_)))
 have au:=S.pf [4]
 refine WL.do rfl (IM (k:=b.length) (m:=u.length) (qX) au rfl rfl (jv y4 (au.rds (i:=1) rfl) (fU bi.one u)) rfl e6 (s:=r8 (b++u)) f7 (r4).symm ?_)
 intro av ax eT bI
 have dM:r8 (b++u)=b.length+u.length:=by simp only [o1,s0,F2]
 refine Kz (vP C 1) ?_
 have bJ:=bI.pf [2]
 refine dS [.slice av (r8 (b++u)) ax] 1 bJ Tryz.sizeOf39 ?_
 intro eU bK
 refine nt ?_
 refine Hq [7,9] (bQ.block (Iu (Iu (bQ.block (Iu (bQ.block (Iu (Iu (bQ.block (Iu IC)))))))))) bK ?_
 intro eX bL
 refine qp C 2 0 rfl (ql 1 rfl 0 Tryz.isAgg58 rfl rfl rfl (qv 2 rfl rfl (qv 4 rfl rfl (qk (vJ u.length) 5 rfl ?_))))
 refine qd 3 rfl (Jp (cs:= [vJ g]) (t:=3) (sz:=1) (m:=1) bL rfl rfl (λ _=>by kernel_rfl) rfl f4 ?_)
 intro ay eY T
 replace T:=IL (y:=row ay 1 1 (q3 (eI .i64) ([(g:Int)])) 3 1) rfl T
 have az:=T.pb [0]
 refine⟨.inr ⟨_,az⟩, ?_⟩
 obtain⟨l,U⟩:∃ q,oL ([(g:Int)]) (u.length:Int)=q:=⟨_,rfl⟩
 obtain⟨fe,aK,dO,aL,aM⟩:=Ii az
 refine qd 6 rfl (Iz Tryz.call147 rfl (tV _ _ ay 1 1 ([(g:Int)]) (u.length:Int) l aK (aM _ 6 _ rfl aO) rfl i8 (by first | omega | exact⟨rfl,e6,e6⟩) U) ?_)
 rintro _ fo ⟨fq,fu,rfl,aN,V⟩
 have aA:=aL _ _ aN
 have dP:=zr 0 aA
 replace V:(l.length:Int)=(u.length:Int):=V
 have aC:=aA.pb [0,7]
 refine⟨.inr ⟨_,aC⟩, ?_⟩
 have aD:=aC.pf [5]
 refine qd 7 rfl (IM (k:=c.length) (m:=l.length) (om) aD rfl rfl (jv G2 (aD.rds (i:=6) rfl) (fU vO l)) rfl e6 (s:=r8 (c++l)) f7 (r4).symm ?_)
 intro aF aG fA bM
 have dQ:r8 (c++l)=c.length+l.length:=by simp only [o1,s0,F2]
 refine⟨.inl e7, ?_⟩
 refine IP (v:=vP C 2) 8 rfl e7 (λ _=>yk) ?_
 have bO:=bM.pf [1]
 refine qe 9 rfl (Do.store (vs:= [.slice aF (r8 (c++l)) aG]) (o:=2) bO rfl rfl Tryz.sizeOf58 rfl rfl rfl rfl ?_)
 intro fC bP
 refine⟨.inl e7, ?_⟩
 refine qn (bN (Ig (Ib (fw (vJ (g+1)) (Ie (e:=C5.wrap ((g:Int)+1)) yk f0) (Mz rfl (C6 ?_))))))
 have bR:=bP.pk [0,4,5,2,1]
 exact Ir (g+1,av,ax,(b++u),aF,aG,(c++l)) ⟨rfl,rfl,rfl,rfl,rfl,rfl,rfl,rfl,rfl,rfl,rfl,rfl,rfl,rfl,rfl,trivial⟩ (P.2 ⟨bR,e6,e6,e6,et (aj) (et (congrArg (λ q=>jX l0 d a q g b c) bC) (et (ah Q) (ah U)))⟩) (by show l1.length - (g+1) < l1.length - g; omega)
 refine jF (dF bB) (C7 (Il ?_))
 have W:jX l0 d a l1 0 [] []=(b,c):=et (aj) (et (congrArg (λ q=>jX l0 d a q g b c) (fB (ls:=l1) (i:=g) e6)) rfl)
 refine Il (IB (Ig (sr (Kz (vP C 1) (Lz (.slice h b.length j) E 0 Tryz.isAgg39 (Kz (vJ b.length) (Kz (.bool (decide ((b.length:Int) > 0))) (nt ?_))))))))
 by_cases I:(b.length:Int) > 0
 refine jT (dT I) (Ib (Mz rfl (La ([vJ a, .slice h b.length j, .slice p c.length r]) E 0 Tryz.isAgg172 Tryz.sizeOf172 ?_)))
 refine lg [vJ a, .slice h b.length j, .slice p c.length r] 172 3 1 E ?_
 intro bS fD X
 replace X:=IL (y:=row bS 1 1 (q3 bG.cells ([(bG.mk (a:Int) (H0 h j b) (H0 p r c))])) 172 3) rfl X
 have aH:=X.pb [0,1]
 refine WL.do rfl (IM (k:=d.length) (m:=1) (um) aH rfl rfl (jv Tryz.underlying103 (aH.rds (i:=4) rfl) (fU bG.one ([(bG.mk (a:Int) (H0 h j b) (H0 p r c))]))) rfl e6 (s:=r8 (d++ [(gF.mk (a:Int) (E2 b) (E2 c))])) f7 (r4).symm ?_)
 intro bT bU bV bW
 have bX:=bW.pb [0,4,5]
 have bY:Own w D bV (sepL (q3 bG.own (x++ [(bG.mk (a:Int) (H0 h j b) (H0 p r c))]))::_):=bX.sepAdd (L2:= [row h b.length j (q3 bi.cells b) 72 6,row p c.length r (q3 (eI .i64) c) 3 1]) (r4 (f:=bG.own) (xs:=x) (ys:= [(bG.mk (a:Int) (H0 h j b) (H0 p r c))])).symm
 have dR:r8 (d++ [(gF.mk (a:Int) (E2 b) (E2 c))])=d.length+1:=by simp only [o1,s0,F2]
 have dU:=aB (pF (es:= [(bG.mk (a:Int) (H0 h j b) (H0 p r c))]) (ms:= [(gF.mk (a:Int) (E2 b) (E2 c))]) B rfl)
 refine Az rfl (C6 (bN (Ig (Ib (fw (vJ (a+1)) (Ie (e:=C5.wrap ((a:Int)+1)) yk f0) (Mz rfl (C6 ?_)))))))
 have bZ:=bY.pk [1,0]
 exact Ir (bT,bU,(x++ [(bG.mk (a:Int) (H0 h j b) (H0 p r c))]),(d++ [(gF.mk (a:Int) (E2 b) (E2 c))]),a+1) ⟨rfl,rfl,rfl,rfl,rfl,rfl,trivial⟩ (G.2 ⟨bZ,by exact(pF (es:= [(bG.mk (a:Int) (H0 h j b) (H0 p r c))]) (ms:= [(gF.mk (a:Int) (E2 b) (E2 c))]) B rfl),e6,e6,et (O) (et (congrArg (λ q=>iE l0 l1 q d a) (rY (n:=5) (i:=a) e6)) (et (ah W) (ip I)))⟩) (by show 5 - (a+1) < 5 - a; omega)
 refine jF (dF I) (IE (bN (Ig (Ib (fw (vJ (a+1)) (Ie (e:=C5.wrap ((a:Int)+1)) yk f0) (Mz rfl (C6 ?_)))))))
 have cu:=E.pk [1,2]
 exact Ir (z,A,x,d,a+1) ⟨rfl,rfl,rfl,rfl,rfl,rfl,trivial⟩ (G.2 ⟨cu,by exact B,e6,e6,et (O) (et (congrArg (λ q=>iE l0 l1 q d a) (rY (n:=5) (i:=a) e6)) (et (ah W) (iN I)))⟩) (by show 5 - (a+1) < 5 - a; omega)
 refine jF (dF bv) (C7 (Il ?_))
 have aP:iE l0 l1 5 [] 0=d:=et (O) (et (congrArg (λ q=>iE l0 l1 q d a) (wT (n:=5) (i:=a) e6)) rfl)
 refine Il (IB (Ig (sr (Mz rfl (Az rfl (An rfl (rt (Fin.res (lW rfl rfl rfl) ?_))))))))
 have cz:=bu.pf []
 obtain⟨rfl,rfl⟩:=ic (zj hr zq5)
 exact⟨z,A,x,rfl,cz,B⟩
 refine jT (dT aa) (sr (Mz rfl (Az rfl (An rfl (rt (tR (Fin.res (lW rfl rfl rfl) ?_)))))))
 have cB:Own w D Z [sepL (q3 bG.own [])]:=bn.sepNil
 have cK:Own w D Z [row none 0 0 (q3 bG.cells []) 172 3,sepL (q3 bG.own [])]:=cB.free (eZ 172 3)
 have cO:=cK.pf []
 obtain⟨rfl,rfl⟩:=ic (zj hr zq4)
 exact⟨none,0, [],rfl,cO,rfl⟩
 refine jT (dT M) (sr (Mz rfl (Az rfl (An rfl (rt (tR (Fin.res (lW rfl rfl rfl) ?_)))))))
 have cZ:Own w D aU [sepL (q3 bG.own [])]:=aW.sepNil
 have df:Own w D aU [row none 0 0 (q3 bG.cells []) 172 3,sepL (q3 bG.own [])]:=cZ.free (eZ 172 3)
 have dh:=df.pf []
 obtain⟨rfl,rfl⟩:=ic (zj hr zq2)
 exact⟨none,0, [],rfl,dh,rfl⟩
end
theorem ig {α β:Type} (x:α) (f:α->β):bnd x f=f x:=rfl
theorem Ez {k:List UInt8} (h:ib k=0):List.length k<=12:=by
  unfold ib at h
  repeat' split at h
  all_goals omega
abbrev GV (q:aI):Prop:=List.length q.bY<=12/\List.length q.aT<=16
abbrev EA (x:aQ):Prop:=List.length x.aT<=16/\List.length x.ak.ls<=4/\∀ q ∈ x.ak.ls,GV q
abbrev Ht (x:bH):Prop:=x.aN<=18446744073709551615/\x.av<=18446744073709551615/\x.aP<=18446744073709551615/\List.length x.au.ls<=4
abbrev Hu (x:eD):Prop:=x.av<=18446744073709551615/\x.aP<=18446744073709551615/\List.length x.ai.ls<=24/\∀ q ∈ x.ai.ls,EA q
theorem FQ (l:List aY):∀ (q:List aY) (k:Nat),(lp (iT l q k) λ _=>0)=0->0 < k->∀ x ∈ q,List.length x.bF<=12
  | [],_,_,_,x,hx=>by cases hx
  | y::q,k,h,hk,x,hx=>by
    simp only [iT,ig] at h
    split at h
    . split at h
      . split at h
        . split at h
          . simp only [lp] at h; omega
          . rcases List.mem_cons.1 hx with rfl | hx
            . exact Ez f5
            . exact FQ l q _ h e6 x hx
        . simp only [lp] at h; omega
      . omega
    . simp only [lp] at h; omega
theorem Ha {l:List aY} (h:kR l=0):List.length l<=6/\∀ x ∈ l,List.length x.bF<=12:=by
  unfold kR at h
  split at h
  . omega
  . split at h
    . omega
    . rw [ig] at h
      split at h
      . omega
      . rename_i a b c
        refine⟨e6, ?_⟩
        match l,h,c with
        | [],_,_=>intro x hx; cases hx
        | y::q,h,c=>
          intro x hx
          simp only [iT,ig] at h
          split at h
          . rw [if_neg e6] at h
            rcases List.mem_cons.1 hx with rfl | hx
            . have c':x.bF= []:=Classical.not_not.1 c
              rw [c']; exact Lg _
            . exact FQ _ q _ h e6 x hx
          . simp only [lp] at h; omega
def FR (p:cZ):Prop:=p.av<=18446744073709551615/\p.aV<=18446744073709551615/\p.aL<=18446744073709551615/\(∀ x ∈ p.aj.ls,x.aN<=18446744073709551615/\x.av<=18446744073709551615/\x.aP<=18446744073709551615)/\∀ x ∈ p.aF.ls,x.av<=18446744073709551615/\x.aP<=18446744073709551615
theorem EB {n m:Int} (h:gV n m=true):1<=n/\n<=m:=by
  unfold gV at h
  split at h
  . exact⟨e6,of_decide_eq_true h⟩
  . cases h
theorem FT (p:cZ) (k:Nat) (d:bH):∀ (q:List Int) (j:Nat) (pre:List Int) (v:Int),d.au.ls=pre++q->List.length pre=j->(0 < j->List.getD d.au.ls (j - 1) default=v)->(j=0->v=0)->v<=p.au->
    (dU p k d q j= .inl ()/\v+(List.length q:Nat)<=p.au)\/dU p k d q j= .inr false
  | [],j,pre,v,_,_,_,_,hv=> .inl ⟨rfl,by simpa using hv⟩
  | y::q,j,pre,v,hp,hj,hg,hz,hv=>by
    by_cases e:gV y p.au=true
    . have a:=EB e
      have ih:=FT p k d q (j+1) (pre++ [y]) y (by rw [hp]; simp) (by simp [hj]) (λ _=>by
        rw [hp, <- hj]
        simp [List.getD,List.getElem?_append]) (λ h=>e6) a.2
      by_cases z:(j:Int) > 0
      . by_cases u:y<=List.getD d.au.ls (j - 1) default
        . exact .inr (by simp only [dU,ig,if_pos e,if_pos z,if_pos u])
        . have hu:v < y:=by rw [hg e6] at u; omega
          rcases ih with g | g
          . refine .inl ⟨by simp only [dU,ig,if_pos e,if_pos z,if_neg u]; exact g.1, ?_⟩
            have:=g.2
            simp only [List.length_cons]
            omega
          . exact .inr (by simp only [dU,ig,if_pos e,if_pos z,if_neg u]; exact g)
      . have hu:v=0:=hz e6
        rcases ih with g | g
        . refine .inl ⟨by simp only [dU,ig,if_pos e,if_neg z]; exact g.1, ?_⟩
          have:=g.2
          simp only [List.length_cons]
          omega
        . exact .inr (by simp only [dU,ig,if_pos e,if_neg z]; exact g)
    . exact .inr (by simp only [dU,ig]; rw [if_neg e])
theorem FU (p:cZ) (k:Nat) (d:bH):∀ (q:List Int) (j:Nat),gB p k d q j=dU p k d q j
  | [],_=>rfl
  | y::q,j=>by simp only [gB,dU,ig,FU p k d q]
theorem FV (p:cZ) (hp:0<=p.au/\p.au<=4) (f:Unit->Bool):∀ (q:List bH) (k:Nat),lp (dO p q k) f=true->∀ x ∈ q,List.length x.au.ls<=4
  | [],_,_,x,hx=>by cases hx
  | y::q,k,h,x,hx=>by
    have key:lp (qU (dU p k y y.au.ls 0) λ _=>dO p q (k+1)) f=true:=by
      simp only [dO,ig,FU] at h
      repeat' split at h
      all_goals first | cases h; done | exact h
    rcases FT p k y y.au.ls 0 [] 0 rfl rfl (λ h=>absurd h e6) (λ _=>rfl) hp.1 with g | g
    . rw [g.1] at key
      rcases List.mem_cons.1 hx with rfl | hx
      . have:=g.2
        omega
      . exact FV p hp f q _ key x hx
    . rw [g] at key
      cases key
theorem FW:∀ l:List aI,(lp (fG l) λ _=>true)=true->∀ x ∈ l,GV x
  | [],_,x,hx=>by cases hx
  | y::q,h,x,hx=>by
    by_cases e:ib y.bY=0
    . by_cases v:((List.length y.aT:Nat):Int) > 16
      . simp only [fG,ig,if_pos e,if_pos v] at h
        cases h
      . simp only [fG,ig,if_pos e,if_neg v] at h
        rcases List.mem_cons.1 hx with rfl | hx
        . exact⟨Ez e,e6⟩
        . exact FW q h x hx
    . simp only [fG,ig,if_neg e] at h
      cases h
theorem Hd {r:aQ} (h:iA r=true):EA r:=by
  unfold iA at h
  split at h
  . cases h
  . split at h
    . cases h
    . exact⟨e6,e6,FW _ h⟩
theorem FX (k:Nat) (x:eD):∀ (n j:Nat),(gq k x n j= .inl ()/\∀ i,j<=i->i < j+n->EA (List.getD x.ai.ls i default))\/gq k x n j= .inr false
  | 0,j=> .inl ⟨rfl,λ i a b=>e6⟩
  | n+1,j=>by
    by_cases e:iA (List.getD x.ai.ls j default)=true
    . rcases FX k x n (j+1) with g | g
      . refine .inl ⟨?_,λ i a b=> ?_⟩
        . simp only [gq,ig]
          refine(if_pos ?_).trans g.1
          exact e
        . by_cases z:i=j
          . subst z; exact Hd e
          . exact g.2 i e6 e6
      . refine .inr ?_
        simp only [gq,ig]
        refine(if_pos ?_).trans g
        exact e
    . refine .inr ?_
      simp only [gq,ig]
      exact if_neg e
theorem FY (k:Nat) (x:eD):∀ (n j:Nat),iV k x n j=gq k x n j
  | 0,_=>rfl
  | n+1,j=>by simp only [iV,gq,ig,FY k x n]
theorem FZ (l:List eD):∀ (q:List eD) (k:Nat),(lp (fJ l q k) λ _=>true)=true->∀ x ∈ q,List.length x.ai.ls<=24/\∀ r ∈ x.ai.ls,EA r
  | [],_,_,x,hx=>by cases hx
  | y::q,k,h,x,hx=>by
    have key:List.length y.ai.ls<=4/\(lp (qU (gq k y (List.length y.ai.ls) 0) λ _=>fJ l q (k+1)) λ _=>true)=true:=by
      simp only [fJ,ig,FY] at h
      repeat' split at h
      all_goals first | cases h; done | exact⟨e6,h⟩
    rcases FX k y (List.length y.ai.ls) 0 with g | g
    . have h':=key.2
      rw [g.1] at h'
      rcases List.mem_cons.1 hx with rfl | hx
      . refine⟨e6,λ r hr=> ?_⟩
        obtain⟨i,hi,he⟩:=List.getElem_of_mem hr
        have:=g.2 i e6 e6
        rw [List.getD,List.getElem?_eq_getElem hi] at this
        simp only [Option.getD_some,he] at this
        exact this
      . exact FZ l q _ h' x hx
    . have h':=key.2
      rw [g] at h'
      cases h'
theorem F3 {p:cZ} (h:gJ p=0) (n:FR p):List.length p.ag.ls<=6/\(∀ x ∈ p.ag.ls,List.length x.bF<=12)/\List.length p.aj.ls<=8/\(∀ x ∈ p.aj.ls,Ht x)/\List.length p.aF.ls<=4/\(∀ x ∈ p.aF.ls,Hu x)/\p.av<=18446744073709551615/\p.aV<=18446744073709551615/\p.aL<=18446744073709551615:=by
  unfold gJ at h
  rw [ig] at h
  have v:∀ b:Bool,jo b=0->b=true:=by intro b; cases b <;> simp [jo]
  split at h
  . split at h
    . rw [ig] at h
      split at h
      . rw [ig] at h
        split at h
        . rename_i g o c d
          rw [ig,ig] at h
          have m:=v _ h
          have a:=EB g
          have ho:kR p.ag.ls=0:=by
            unfold ma at c
            rw [ig] at c
            split at c
            . assumption
            . cases c
          have ho:=Ha ho
          unfold lU at d
          split at d
          . cases d
          . unfold nC at m
            split at m
            . cases m
            . have hd:=FV p ⟨e6,a.2⟩ _ _ _ d
              have hl:=FZ _ _ _ m
              obtain⟨i,j,k,e,f⟩:=n
              exact⟨ho.1,ho.2,e6,λ x hx=>⟨(e x hx).1,(e x hx).2.1,(e x hx).2.2,hd x hx⟩,e6,λ x hx=>⟨(f x hx).1,(f x hx).2,hl x hx⟩,i,j,k⟩
        . rw [ig] at h; have:=v _ h; cases this
      . rw [ig] at h; have:=v _ h; cases this
    . rw [ig] at h; have:=v _ h; cases this
  . rw [ig] at h; have:=v _ h; cases this
open List renaming mem_append->v6,mem_cons_of_mem->O1,mem_cons_self->O2,mem_or_eq_of_mem_set->O0,mem_replicate->O3,mem_singleton->m4
open Nat renaming le_refl->o3
abbrev mK (g:Nat) (m:aA) (a:Option Addr) (b c:Nat) (d:Option Addr) (c1:Nat) (e:Option Addr) (c2:Nat) (f:Option Addr) (c3:Nat) (h:Option Addr) (c4:Nat) (i:Option Addr) (j:Nat) (k:Option Addr) (o:Nat) (p:Option Addr) (q:Nat) (r:Option Addr) (s:Nat):HP:=blk g [vI m.aa.au,vU m.aa.av,vU m.aa.aV,vU m.aa.aL, .slice a b c, .slice d m.aa.aj.ls.length c1, .slice e m.aa.aF.ls.length c2,vU m.bP, .slice f m.ay.ls.length c3, .bool m.bK.cO,vU m.bK.aS,vI m.bK.dA, .slice h m.bK.af.ls.length c4, .bool m.bA.cO,vU m.bA.aS,vI m.bA.dA, .slice i m.bA.af.ls.length j, .bool m.bz.cO,vU m.bz.aS,vI m.bz.dA, .slice k m.bz.af.ls.length o, .bool m.bv.cO,vU m.bv.aS,vI m.bv.dA, .slice p m.bv.af.ls.length q, .bool m.bq.cO,vU m.bq.aS,vI m.bq.dA, .slice r m.bq.af.ls.length s,vU m.dP,vU m.dH,vU m.dI,vU m.dG,vU m.dJ, .pointer none] 86
abbrev mX (g:Nat) (m:aA) (z:Option Addr) (A B:Nat) (a:Option Addr) (c1:Nat) (b:List aC) (c:Option Addr) (c2:Nat) (d:List aU) (e:Option Addr) (c3:Nat) (f:List bB) (h:Option Addr) (c4:Nat) (i:List ae) (j:Option Addr) (k:Nat) (o:List ae) (p:Option Addr) (q:Nat) (r:List ae) (s:Option Addr) (t:Nat) (u:List ae) (v:Option Addr) (x:Nat) (y:List ae) (l:List HP):List HP:=mK g m z A B a c1 c c2 e c3 h c4 j k p q s t v x::row a m.aa.aj.ls.length c1 (q3 aC.cells b) 60 5::sepL (q3 aC.own b)::row c m.aa.aF.ls.length c2 (q3 aU.cells d) 56 4::sepL (q3 aU.own d)::row e m.ay.ls.length c3 (q3 bB.cells f) 107 9::sepL (q3 bB.own f)::row h m.bK.af.ls.length c4 (q3 ae.cells i) 149 3::sepL (q3 ae.own i)::row j m.bA.af.ls.length k (q3 ae.cells o) 149 3::sepL (q3 ae.own o)::row p m.bz.af.ls.length q (q3 ae.cells r) 149 3::sepL (q3 ae.own r)::row s m.bv.af.ls.length t (q3 ae.cells u) 149 3::sepL (q3 ae.own u)::row v m.bq.af.ls.length x (q3 ae.cells y) 149 3::sepL (q3 ae.own y)::l
abbrev ky (n:Nat):Prop:=n<=18446744073709551615
theorem EC {α β γ:Type} (f:α->β->γ) {a a':α} {b b':β} (h:a=a') (k:b=b'):f a b=f a' b':=by subst h; subst k; rfl
def nI (l:List aQ):Prop:=r8 l<=1000/\∀ x ∈ l,r8 x.ak.ls<=1000
structure Tok (x:dK):Prop where
  num:ky x.aR
  sU:ky x.aS
  qF:ky x.dh
  yes:r8 x.bD.ls=r8 x.aG.ls
  res:r8 x.af.ls=r8 x.aG.ls
  len:r8 x.aG.ls<=5
  uh:1<=x.aM/\x.aM<=4
  ops:r8 x.bV.ls<=24/\∀ o ∈ x.bV.ls,o.bS<=1000
  prt:∀ p ∈ x.aG.ls,r8 p.aH.ls<=24024
  Cs:∀ r ∈ x.af.ls,nI r.ls
def Ak (l:List dK):Prop:=∀ x ∈ l,Tok x
def Dk (l:List bH):Prop:=∀ x ∈ l,ky x.aN/\ky x.av/\ky x.aP/\r8 x.au.ls<=1000
theorem ED {l:List bH} (h:Dk l) {i:Nat} {x:bH} (hx:l[i]? =some x):r8 x.au.ls<=1000:=(h x (D3 hx)).2.2.2
structure Mk (p:aA):Prop where
  oz:ky p.aa.av
  sV:ky p.aa.aV
  qF:ky p.aa.aL
  ug:ky p.bP
  dec:Dk p.aa.aj.ls
  mH:∀ x ∈ p.aa.aF.ls,ky x.av/\ky x.aP/\nI x.ai.ls
  act:Ak p.ay.ls
  mU:nI p.bK.af.ls/\ky p.bK.aS
  lT:nI p.bA.af.ls/\ky p.bA.aS
  nu:nI p.bz.af.ls/\ky p.bz.aS
  ny:nI p.bv.af.ls/\ky p.bv.aS
  nz:nI p.bq.af.ls/\ky p.bq.aS
theorem BZ {p:aA} (h:Mk p):r8 p.bK.af.ls<=1000/\r8 p.bA.af.ls<=1000/\r8 p.bz.af.ls<=1000/\r8 p.bv.af.ls<=1000/\r8 p.bq.af.ls<=1000:=⟨h.mU.1.1,h.lT.1.1,h.nu.1.1,h.ny.1.1,h.nz.1.1⟩
theorem mE:nI []:=⟨Lg _,λ x h=>by cases h⟩
theorem dM {l:List aQ} (h:nI l):∀ x ∈ l,r8 x.ak.ls<=1000000:=λ x hx=>L5 (h.2 x hx) f4
theorem EW {p:aA} (h:Mk p) {i:Nat} {x:eD} (hx:p.aa.aF.ls[i]? =some x):nI x.ai.ls:=(h.mH x (D3 hx)).2.2
theorem yz {l:List dK} (h:Ak l) {i:Nat} {x:dK} (hx:l[i]? =some x):Tok x:=h x (D3 hx)
theorem nJ {l:List dK} (h:Ak l) {i:Nat} {y:dK} (hy:Tok y):Ak (u2 l i y):=λ x hx=>by
  rcases O0 hx with a | rfl
  . exact h x a
  . exact hy
theorem o7 {x:dK} (h:Tok x) {i j:Nat} {r:List aQ} (hr:nI r):Tok (dK.mk x.aR x.aM x.aS x.dh x.bV x.aG (E2 (u2 x.bD.ls i true)) (E2 (u2 x.af.ls j (E2 r))) x.eO):=
  ⟨h.num,h.sU,h.qF,H1.trans h.yes,H1.trans h.res,h.len,h.uh,h.ops,h.prt,λ q hq=>by
    rcases O0 hq with a | rfl
    . exact h.Cs q a
    . exact hr⟩
theorem qN {x:dK} (h:Tok x) (a:Int):Tok (dK.mk x.aR x.aM x.aS x.dh x.bV x.aG x.bD x.af a):=⟨h.num,h.sU,h.qF,h.yes,h.res,h.len,h.uh,h.ops,h.prt,h.Cs⟩
theorem uN {p:aA} (h:Mk p):FR p.aa:=⟨h.oz,h.sV,h.qF,λ x hx=>⟨(h.dec x hx).1,(h.dec x hx).2.1,(h.dec x hx).2.2.1⟩,λ x hx=>⟨(h.mH x hx).1,(h.mH x hx).2.1⟩⟩
theorem GD {l:List aQ} (h:∀ x ∈ l,r8 x.ak.ls<=1000):tot l<=r8 l *1001:=by
  induction l with
  | nil=>exact Lg _
  | cons x l ih=>have a:=ih λ y hy=>h y (O1 _ hy); have b:=h x O2; simp only [tot,s0]; omega
theorem He {l:List (Ll aQ)} (h:∀ r ∈ l,nI r.ls):tt l<=r8 l *1001000:=by
  induction l with
  | nil=>exact Lg _
  | cons x l ih=>
    have b:=ih λ y hy=>h y (O1 _ hy)
    have a:=h x O2
    have c:=GD a.2
    have d:=a.1
    simp only [tt,s0]; omega
theorem F4 {x:dK} (h:Tok x):tt x.af.ls<=100000000:=by
  have a:=He h.Cs
  have b:=h.res
  have c:=h.len
  omega
theorem zb {l0:List aY} {l1:List bi}:∀ (q:Nat) (l:List gF) (k:Nat),r8 (iE l0 l1 q l k)<=r8 l+q
  | 0,l,k=>o3 _
  | q+1,l,k=>by
    simp only [iE,bnd]
    split
    . refine L5 (zb q _ _) ?_
      rw [o1,List.length_singleton]; omega
    . exact L5 (zb q _ _) e6
theorem Ca {l0:List aY} {l1:List bi} {r:List gF} {e:Int} (h:lF l0 l1=(r,e)):r8 r<=5:=by
  unfold lF at h
  simp only [bnd] at h
  split at h
  . split at h
    . obtain⟨rfl,_⟩:=Prod.mk.inj h
      have:=zb (l0:=l0) (l1:=l1) 5 [] 0
      simpa using this
    . obtain⟨rfl,_⟩:=Prod.mk.inj h
      exact Lg _
  . obtain⟨rfl,_⟩:=Prod.mk.inj h
    exact Lg _
theorem zR (l0:List aY) (a:Int) (p2:bi):∀ (q:List aY) (l:List bi) (k:Nat),r8 (gy l0 a p2 q l k)<=r8 l+r8 q
  | [],l,k=>o3 _
  | x::q,l,k=>by
    simp only [gy,bnd]
    split
    . split
      . refine L5 (zR l0 a p2 q _ _) ?_
        simp only [o1,s0,F2]; omega
      . refine L5 (zR l0 a p2 q _ _) ?_
        simp only [s0]; omega
    . refine L5 (zR l0 a p2 q _ _) ?_
      simp only [s0]; omega
theorem zS (l0:List aY) (a:Int) (p2:bi):∀ (q:List aY) (l:List bi) (k:Nat),r8 (gz l0 a p2 q l k)<=r8 l+r8 q
  | [],l,k=>o3 _
  | x::q,l,k=>by
    simp only [gz,bnd]
    split
    . split
      . refine L5 (zS l0 a p2 q _ _) ?_
        simp only [o1,s0,F2]; omega
      . refine L5 (zS l0 a p2 q _ _) ?_
        simp only [s0]; omega
    . refine L5 (zS l0 a p2 q _ _) ?_
      simp only [s0]; omega
theorem F5 (l0:List aY) (a:Int) (p2:bi):r8 (jc l0 a p2)<=r8 l0+1:=by
  unfold jc
  simp only [bnd]
  split
  . have:=zR l0 a p2 l0 [] 0; simp only [F2] at this; omega
  . split
    . have:=zS l0 a p2 l0 [] 0; simp only [F2] at this; omega
    . split
      . simp only [s0,F2]; omega
      . exact Lg _
theorem Cb (l0:List aY) (b:List gF) (a:Nat):∀ (q:List bi) (k:Nat) (l:List bi) (m:List Int),r8 (jX l0 b a q k l m).1<=r8 l+r8 q *(r8 l0+1)
  | [],k,l,m=>Nat.le_add_right _ _
  | x::q,k,l,m=>by
    simp only [jX,bnd]
    refine L5 (Cb l0 b a q _ _ _) ?_
    have c:=F5 l0 (a:Int) x
    rw [o1,s0,Nat.succ_mul]; omega
theorem ze {l0:List aY} {l1:List bi}:∀ (q:Nat) (l:List gF) (k:Nat),(∀ x ∈ l,r8 x.aH.ls<=r8 l1 *(r8 l0+1))->∀ x ∈ iE l0 l1 q l k,r8 x.aH.ls<=r8 l1 *(r8 l0+1)
  | 0,l,k,h=>h
  | q+1,l,k,h=>by
    simp only [iE,bnd]
    split
    . refine ze q _ _ λ x hx=> ?_
      rcases v6.1 hx with a | a
      . exact h x a
      . rw [m4.1 a]
        have:=Cb l0 l k l1 0 [] []
        simpa using this
    . exact ze q _ _ h
theorem Cc {l0:List aY} {l1:List bi} {r:List gF} {e:Int} (h:lF l0 l1=(r,e)) (a:r8 l0<=1000) (b:r8 l1<=24):∀ x ∈ r,r8 x.aH.ls<=24024:=by
  have hb:r8 l1 *(r8 l0+1)<=24024:=L5 (Nat.mul_le_mul b (Nat.succ_le_succ a)) f4
  unfold lF at h
  simp only [bnd] at h
  split at h
  . split at h
    . obtain⟨rfl,_⟩:=Prod.mk.inj h
      exact λ x hx=>L5 (ze (l0:=l0) (l1:=l1) 5 [] 0 (λ y hy=>by cases hy) x hx) hb
    . obtain⟨rfl,_⟩:=Prod.mk.inj h
      intro x hx; cases hx
  . obtain⟨rfl,_⟩:=Prod.mk.inj h
    intro x hx; cases hx
def Pk (l:List aQ):Prop:=∀ x ∈ l,r8 x.ak.ls<=1000
theorem Ba {l:List (Ll aQ)} (h:∀ r ∈ l,Pk r.ls) (i:Nat):Pk (C0 l i default).ls:=by
  rw [L4]
  cases e:l[i]? with
  | none=>intro x hx; cases hx
  | some r=>exact h r (D3 e)
theorem Ce {l:List aQ} (h:Pk l) (i:Nat):r8 (C0 l i default).ak.ls<=1000:=by
  rw [L4]
  cases e:l[i]? with
  | none=>exact Lg _
  | some r=>exact h r (D3 e)
theorem F6 {c:List (Ll aQ)} (d:∀ r ∈ c,Pk r.ls) (k:Nat):∀ (q:List Int) (j:Nat) (l:List (Ll aQ)),(∀ r ∈ l,Pk r.ls)->∀ r ∈ kF c k q j l,Pk r.ls
  | [],_,l,h=>h
  | a::q,j,l,h=>F6 d k q (j+1) _ λ r hr=>by
    rcases O0 hr with b | rfl
    . exact h r b
    . intro x hx
      rcases v6.1 hx with b | b
      . exact Ba h _ x b
      . rw [m4.1 b]; exact Ce (Ba d _) _
theorem F7 {l0:List bi} {b:List (Ll aQ)} (c:∀ r ∈ b,Pk r.ls):∀ (q:List gF) (k:Nat) (l:List (Ll aQ)),(∀ r ∈ l,Pk r.ls)->∀ r ∈ jH l0 b q k l,Pk r.ls
  | [],_,l,h=>h
  | a::q,k,l,h=>F7 c q (k+1) _ (F6 c k _ 0 l h)
theorem Hf {p:bi} (hp:p.bS<=1000) {l:List aQ} (h:Pk l):r8 (jq p l).ak.ls<=1000:=by
  unfold jq
  simp only [bnd]
  split
  . simp only [List.length_take]; omega
  . split
    . exact Lg _
    . exact Ce h 0
theorem F8 {l:List (Ll aQ)} (h:∀ r ∈ l,Pk r.ls):∀ (q:List bi) (k:Nat) (r:List aQ),(∀ o ∈ q,o.bS<=1000)->Pk r->Pk (jI l q k r)/\r8 (jI l q k r)=r8 r
  | [],_,r,_,hr=>⟨hr,rfl⟩
  | a::q,k,r,ho,hr=>by
    have b:=F8 h q (k+1) (u2 r k (aQ.mk (jq a (C0 l k default).ls).eF (jq a (C0 l k default).ls).aT (E2 (jq a (C0 l k default).ls).ak.ls))) (λ o h=>ho o (O1 _ h)) (λ x hx=>by
      rcases O0 hx with b | rfl
      . exact hr x b
      . exact Hf (ho a O2) (Ba h _))
    exact⟨b.1,b.2.trans H1⟩
theorem yA {l0:List bi} {l1:List gF} {a:List (Ll aQ)} {r:List aQ} {e:Int} (h:lM l0 l1 a=(r,e)) (hl:r8 l0<=24) (ho:∀ o ∈ l0,o.bS<=1000) (c:∀ q ∈ a,nI q.ls):nI r:=by
  unfold lM at h
  simp only [bnd] at h
  split at h
  . obtain⟨rfl,_⟩:=Prod.mk.inj h
    have b:=F8 (l:=jH l0 a l1 0 (List.replicate (r8 l0) (E2 []:Ll aQ))) (F7 (l0:=l0) (λ q hq=>(c q hq).2) l1 0 _ λ q hq=>by rw [(O3.1 hq).2]; intro x hx; cases hx) l0 0 (List.replicate (r8 l0) (aQ.mk false [] (E2 []))) ho (λ x hx=>by rw [(O3.1 hx).2]; exact Lg _)
    refine⟨?_,b.1⟩
    rw [b.2,List.length_replicate]; omega
  . obtain⟨rfl,_⟩:=Prod.mk.inj h
    exact mE
theorem Ea {α:Type} {enc:α->List Value} {sz:Nat} (hz:∀ x,(enc x).length=sz) {l:List α} {sp zs:List Value} {k:Nat} (hk:k<=l.length):(put (q3 enc l++sp) (k *sz) zs).take (k *sz)=q3 enc (List.take k l):=by
  have hl:(q3 enc l).length=l.length *sz:=jU hz l
  have hm:k *sz<=l.length *sz:=Nat.mul_le_mul_right sz hk
  rw [xy (o3 _) (by rw [o1,hl]; omega),List.take_append_of_le_length e6]
  exact oU hz _ _
section
open Go.RowKit
variable {P:Program} {ops:Array Oper} {Q:Exit->Act->World->Prop} {ks:List Nat} {Good:World->Prop} {n:Nat} {F:List (Nat × Value)} {w:World} {fuel:Nat} {l:List Nat}
end
theorem f9 {p:Prop}(h:p:=by first | omega | (dsimp only; omega) | (simp only [List.length_nil]; omega) | decide | (simp only [ky,List.length_cons,List.length_nil,List.length_replicate]; omega)):p:=h
theorem i2 {p:Prop}(h:p:=by first | assumption | exact mE | exact Mk.lT (by assumption) |>.1):p:=h
theorem i4 {p:Prop}(h:p:=by first | assumption | exact uN (by assumption)):p:=h
theorem j9 {p:Prop}(h:p:=by first | assumption | exact BZ (by assumption)):p:=h
end Go.Proofs.YtbkagebjhbphaaaGreat
