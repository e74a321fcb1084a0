/- The layers told, part 3. Conditions: none beyond each law's own. -/
import Derived.Test.YtbkagebjhbphaaaGreatJb
namespace Go.Proofs.YtbkagebjhbphaaaGreat
set_option maxRecDepth 100000
set_option linter.unusedVariables false
set_option linter.unusedSimpArgs false
set_option linter.unusedSectionVars false
def tot:List aQ->Nat
  | []=>0
  | x::l=>List.length x.aj.ls+1+tot l
theorem wH:∀ a c:List aQ,tot (a++c)=tot a+tot c
  | [],c=>(Nat.zero_add _).symm
  | x::a,c=>by rw [List.cons_append,tot,tot,wH a c]; omega
theorem xu {l:List aQ} {k:Nat} {x:aQ} (hx:l[k]? =some x):tot (List.take (k+1) l)=tot (List.take k l)+(List.length x.aj.ls+1):=by
  obtain⟨h,rfl⟩:=List.getElem?_eq_some_iff.1 hx
  rw [List.take_succ_eq_append_getElem h,wH]; rfl
theorem Ao {l:List aQ} {k n:Nat} {x:aQ} (h:n<=tot (List.take k l)) (hx:l[k]? =some x):n+List.length x.aj.ls<=tot (List.take (k+1) l):=by
  rw [xu hx]; omega
theorem vR (l:List aQ) (k:Nat):tot (List.take k l)<=tot l:=by
  have:=wH (List.take k l) (List.drop k l)
  rw [List.take_append_drop] at this
  omega
theorem Dn {l:List aQ} {k N:Nat} {x:aQ} (h:tot l<=N) (hx:l[k]? =some x):tot (List.take k l)+List.length x.aj.ls<=N:=by
  have:=vR l (k+1)
  rw [xu hx] at this
  omega
theorem BI:∀ l:List aQ,List.length l<=tot l
  | []=>Nat.le_refl _
  | x::l=>by have:=BI l; rw [tot,List.length_cons]; omega
section
open Go.RowKit
def jv (d:aN):List aQ->List aH->(List aH)
  | [],a=>a
  | b::c,a=>jv d c (a++b.aj.ls)
def kU (c:aN) (l1:List aQ):aQ:=
 if c.av=4 then bnd (jv c l1 []) λ sLrtL=>bnd (jQ sLrtL) λ b=>aQ.mk false [] (Ll.mk (List.take (Int.toNat (min (max c.aV 0) (sLrtL.length:Int))) b)) else if(l1.length:Int)=0 then aQ.mk false [] (Ll.mk []) else bnd (List.getD l1 0 default) λ a=>aQ.mk a.dV a.aG (Ll.mk a.aj.ls)
theorem wL (w D) (d:aN) (M n1 c1 d1 l1) (r0:aQ) (H:Own w D w []) (Y:List.map af.abs d1=l1) (t:Ro w D λ w'=>aY w' 3 M n1 (List.flatMap af.cells d1)) (G:∀ x ∈ d1,Ro w D (λ w'=>aY w' 2 x.aj.A x.aj.ls.length (List.flatMap aH.cells x.aj.ls))/\(x.aj.ls.length<=x.aj.c/\x.aj.ls.length<=9223372036854775807)) (aZ:n1=l1.length) (dx:l1.length *48<=211106232532992) (I:tot l1<=100000000) (hr:kU d l1=r0):
    Calls Tryz.prog 149 #[.agg (aN.cells d).toArray, .slice M n1 c1] w (dA λ v w'=> ∃ N O,v= .agg #[.bool r0.dV, .string ⟨List.toArray r0.aG⟩, .slice N r0.aj.ls.length O]/\Own w D w' [row N r0.aj.ls.length O (List.flatMap aH.cells r0.aj.ls) 153 2]):=by
 unfold kU at hr
 subst aZ
 have bQ:=aA Y
 refine cb Tryz.func149 ?_
 refine sr ?_
 refine dn (aN.cells d) 72 H ?_
 intro o dz bf
 refine dn [.bool false, .string ⟨List.toArray []⟩, .slice none 0 0] 149 bf ?_
 intro z bg p
 refine nt (Ik (sr (Kz (vP o 0) (Lz (vI d.av) p 1 Tryz.isAgg3 (fw (.bool (decide (¬ (d.av=4)))) (IM (e:= !(decide (d.av=4))) yk decide_not.symm) (nt ?_))))))
 by_cases B:d.av=4
 refine jF (dF (Lr B)) (sk (sr (An rfl (Ik (sr (Mz rfl (Kz (vJ l1.length) (Mn rfl (bo ?_)))))))))
 have bi:Own w D bg [row none 0 0 (List.flatMap aH.cells []) 153 2,blk z [.bool false, .string ⟨List.toArray []⟩, .slice none 0 0] 149,blk o (aN.cells d) 72]:=p.free (eP 153 2)
 have bn:=bi.pb [0]
 obtain⟨bq,C⟩:=tq λ u (y:Nat) b (f:Nat) w'=>Own w D w' [blk z [.bool false, .string ⟨List.toArray []⟩, .slice none 0 0] 149,blk o (aN.cells d) 72,row u b.length y (List.flatMap aH.cells b) 153 2]/\f<=l1.length/\b.length<=tot (List.take f l1)/\tot (List.take f l1)<=100000000/\jv d l1 []=jv d (List.drop f l1) b
 refine Wp.loop (λ i:(Option Addr) × Nat × (List aH) × Nat=> [(6, .slice i.1 i.2.2.1.length i.2.1),(27,vJ i.2.2.2),(26,vJ l1.length),(25, .slice M l1.length c1),(4,vP z 0),(2,vP o 0)]) bq (λ i=>l1.length - i.2.2.2) (none,0, [],0) ⟨rfl,rfl,rfl,rfl,rfl,rfl,trivial⟩ (C.2 ⟨bn,(show 0<=l1.length/\0<=tot (List.take 0 l1)/\tot (List.take 0 l1)<=100000000/\jv d l1 []=jv d (List.drop 0 l1) [] from ⟨e6,by first | exact Lp _ | (rw [List.length_append]; exact Ao f5 f5),by exact Nat.le_trans (vR _ _) I,rfl⟩)⟩) ?_
 rintro ⟨u,y,b,f⟩ dB au
 obtain⟨E,bR,bS,bT,P⟩:=C.1 au
 refine sr (Kz (.bool (decide ((f:Int) < (l1.length:Int)))) (nt (Ik ?_)))
 by_cases av:(f:Int) < (l1.length:Int)
 obtain⟨g,r⟩:=dh (ls:=d1) (i:=f) af.len f2 (E.ro t) e9
 have Q:=eY Y r
 have bU:=(G _ (List.mem_of_getElem? r)).2
 have bV:tot (List.take f l1)+g.aj.ls.length<=100000000:=Dn I Q
 have ax:=drop_at Q
 refine jT (dT av) (sk (Ik (bo (sr (fw (.pointer (some ⟨ab M,ao M+f *3,none⟩)) (Iz (rX) rfl rfl ((E.ro t).addr (i:=f) e6) e6) (fw (.agg (af.cells g).toArray) (IB rfl (IJ (cs:=(af.cells g)) Tryz.isAgg149 Tryz.sizeOf149 ((E.ro t).elem af.len r f2))) ?_))))))
 refine dn [.bool false, .string ⟨List.toArray []⟩, .slice none 0 0] 149 E ?_
 intro bu dC bv
 refine df (af.cells g) 0 bv Tryz.sizeOf149 ?_
 intro dD ay
 refine nt (Il (Mz rfl (Kz (vP bu 2) (Lz (.slice g.aj.A g.aj.ls.length g.aj.c) ay 0 Tryz.isAgg147 ?_))))
 have az:=ay.pf [3]
 refine WL.do rfl (IW (k:=b.length) (m:=g.aj.ls.length) (jL) az rfl rfl (gN Tryz.underlying147 (az.ro (G _ (List.mem_of_getElem? r)).1) (dX aH.one g.aj.ls)) rfl e6 (s:=List.length (b++g.aj.ls)) f7 (List.flatMap_append).symm ?_)
 intro bz bA dE bB
 have bW:List.length (b++g.aj.ls)=b.length+g.aj.ls.length:=by simp only [List.length_append,List.length_cons,List.length_nil]
 refine Az rfl (WL.nil (bN (Iq ?_)))
 have bC:=bB.pk [0,2,3]
 refine Il (fw (vJ (f+1)) (Ir (e:=IntKind.i64.wrap ((f:Int)+1)) yk f0) (Mz rfl (WL.nil ?_)))
 have bD:=bC.pb [0]
 exact II (bz,bA,(b++g.aj.ls),f+1) ⟨rfl,rfl,rfl,rfl,rfl,rfl,trivial⟩ (C.2 ⟨bD,e6,by first | exact Lp _ | (rw [List.length_append]; exact Ao f5 f5),by exact Nat.le_trans (vR _ _) I,et (P) (et (congrArg (λ q=>jv d q b) ax) rfl)⟩) (by show l1.length - (f+1) < l1.length - f; omega)
 refine jF (dF av) (Wp.exit (IC ?_))
 have aB:jv d l1 []=b:=et (P) (et (congrArg (λ q=>jv d q b) (dZ (ls:=l1) (i:=f) e6)) rfl)
 refine IC (IK (Iq (sr (Mz rfl ?_))))
 have bE:=E.pf [2]
 obtain⟨h,R⟩:∃ q,jQ b=q:=⟨_,rfl⟩
 obtain⟨dG,aC,bX,aD,bY⟩:=IZ bE
 refine cl Tryz.call165 (nP _ _ u b.length y b h aC rfl e6 R) ?_
 rintro _ dH ⟨rfl,aF,S⟩
 have Z:=aD _ _ aF
 have bZ:=zr 0 Z
 replace S:h.length=b.length:=S
 refine ns (Kz (vP o 5) (Lz (vI d.aV) Z 2 Tryz.isAgg3 (fw (vI (max d.aV 0)) (Ir (e:=if 0 > d.aV then 0 else d.aV) yk e6) (Mz rfl (Kz (vJ b.length) (fw (vI (min (max d.aV 0) (b.length:Int))) (Ir (e:=if(b.length:Int) < max d.aV 0 then(b.length:Int) else max d.aV 0) yk e6) (An rfl (Ik ?_))))))))
 have bF:=Z.pk [0,1]
 refine Il (Mz rfl (fw (vI ((Int.toNat (min (max d.aV 0) (b.length:Int)):Nat):Int)) (Ir (e:=min (max d.aV 0) (b.length:Int)) (IA rfl) e6) (fw (.slice u (Int.toNat (min (max d.aV 0) (b.length:Int))) y) (Jk (jL) rfl rfl e6) ?_)))
 have cu:Int.toNat (min (max d.aV 0) (b.length:Int))=List.length (List.take (Int.toNat (min (max d.aV 0) (b.length:Int))) h):=f1
 obtain⟨dI,aG,cz,aI,aJ⟩:=Iu bF
 refine cl Tryz.call75 (kP _ _ u (Int.toNat (min (max d.aV 0) (b.length:Int))) y (List.take (Int.toNat (min (max d.aV 0) (b.length:Int))) h) (List.take (Int.toNat (min (max d.aV 0) (b.length:Int))) h) aG (λ w9 h9=>Kl (hi:=Int.toNat (min (max d.aV 0) (b.length:Int))) aH.len ((aJ _ 0 _ rfl aW) w9 h9) e6) f1 g3 rfl) ?_
 rintro _ dL ⟨J,K,rfl,aK⟩
 have aL:=aI _ _ aK
 have cB:=zr 0 aL
 refine Kz (.agg #[.bool false, .string ⟨List.toArray []⟩, .slice J (List.length (List.take (Int.toNat (min (max d.aV 0) (b.length:Int))) h)) K]) ?_
 have bG:=aL.pf [2]
 refine df [.bool false, .string ⟨List.toArray []⟩, .slice J (List.length (List.take (Int.toNat (min (max d.aV 0) (b.length:Int))) h)) K] 0 bG Tryz.sizeOf149 ?_
 intro dM aM
 refine nt (rt (Fin.res (oo rfl rfl (IJ (cs:= [.bool false, .string ⟨List.toArray []⟩, .slice J (List.length (List.take (Int.toNat (min (max d.aV 0) (b.length:Int))) h)) K]) Tryz.isAgg149 Tryz.sizeOf149 ((aM.cls (i:=0) rfl).lit (k:=0) (m:=3) rfl))) ?_))
 have bH:=aM.pk [1]
 obtain rfl:=zj hr zq3
 exact⟨J,K,rfl,bH⟩
 refine jT (dT B) (Ik (sr (Mz rfl (Kz (vJ l1.length) (Kz (.bool (decide ((l1.length:Int)=0))) (nt ?_))))))
 by_cases L:(l1.length:Int)=0
 refine jT (dT L) (sr (Kz (.agg #[.bool false, .string ⟨List.toArray []⟩, .slice none 0 0]) ?_))
 refine df [.bool false, .string ⟨List.toArray []⟩, .slice none 0 0] 0 p Tryz.sizeOf149 ?_
 intro bI aO
 refine nt (rt (tR (tR (Fin.res (oo rfl rfl (IJ (cs:= [.bool false, .string ⟨List.toArray []⟩, .slice none 0 0]) Tryz.isAgg149 Tryz.sizeOf149 ((aO.cls (i:=0) rfl).lit (k:=0) (m:=3) rfl))) ?_))))
 have bJ:Own w D bI [row none 0 0 (List.flatMap aH.cells []) 153 2,blk z [.bool false, .string ⟨List.toArray []⟩, .slice none 0 0] 149,blk o (aN.cells d) 72]:=aO.free (eP 153 2)
 have bK:=bJ.pk [0]
 obtain rfl:=zj hr zq2
 exact⟨none,0,rfl,bK⟩
 refine jF (dF L) (sk (sr (Mz rfl ?_)))
 obtain⟨a,j⟩:=dh (ls:=d1) (i:=0) af.len f2 (p.ro t) e9
 have F:=eY Y j
 have bL:=(G _ (List.mem_of_getElem? j)).2
 have bM:a.aj.ls.length<=100000000:=Nat.le_trans (Nat.le_add_left _ _) (Dn I F)
 refine fw (.pointer (some ⟨ab M,ao M+0 *3,none⟩)) (Iz (rX) rfl rfl ((p.ro t).addr (i:=0) e6) e6) (fw (.agg (af.cells a).toArray) (IB rfl (IJ (cs:=(af.cells a)) Tryz.isAgg149 Tryz.sizeOf149 ((p.ro t).elem af.len j f2))) ?_)
 refine dn [.bool false, .string ⟨List.toArray []⟩, .slice none 0 0] 149 p ?_
 intro T cK aP
 refine df (af.cells a) 0 aP Tryz.sizeOf149 ?_
 intro cO U
 refine ns (Kz (vP T 2) (Lz (.slice a.aj.A a.aj.ls.length a.aj.c) U 0 Tryz.isAgg147 ?_))
 obtain⟨cZ,aa,ag,ah,bO⟩:=Iu U
 refine cl Tryz.call75 (kP _ _ a.aj.A a.aj.ls.length a.aj.c a.aj.ls a.aj.ls aa (ag _ (G _ (List.mem_of_getElem? j)).1) rfl e6 rfl) ?_
 rintro _ di ⟨l,n,rfl,ai⟩
 have V:=ah _ _ ai
 have bP:=zr 0 V
 refine Kz (vP T 2) ?_
 have aR:=V.pf [1]
 refine df [.slice l a.aj.ls.length n] 2 aR Tryz.sizeOf147 ?_
 intro dm W
 refine ns (La ([.bool a.dV, .string ⟨List.toArray a.aG⟩, .slice l a.aj.ls.length n]) W 0 Tryz.isAgg149 Tryz.sizeOf149 ?_)
 have aS:=W.pf [2]
 refine df [.bool a.dV, .string ⟨List.toArray a.aG⟩, .slice l a.aj.ls.length n] 0 aS Tryz.sizeOf149 ?_
 intro dw X
 refine nt (rt (tR (Fin.res (oo rfl rfl (IJ (cs:= [.bool a.dV, .string ⟨List.toArray a.aG⟩, .slice l a.aj.ls.length n]) Tryz.isAgg149 Tryz.sizeOf149 ((X.cls (i:=0) rfl).lit (k:=0) (m:=3) rfl))) ?_)))
 have aU:=X.pk [2]
 obtain rfl:=zj hr zq3
 exact⟨l,n,rfl,aU⟩
end
open List renaming flatMap->q4,getD->B8,getD_eq_getElem?_getD->L7,getElem?_cons_succ->q3,getElem?_cons_zero->q0,getElem?_eq_getElem->p7,length->s0,take->r3
open Ll renaming mk->E0
open Nat renaming le_trans->L8,zero_add->m8
def Row40H.own (x:bP):List HP:= [row x.A x.ls.length x.c (q4 af.cells x.ls) 149 3]
def yZ (w:World) (D:Nat->Prop) (ds:List bP):Prop:=∀ q ∈ ds, ∀ x ∈ q.ls,Ro w D (λ w'=>aY w' 2 x.aj.A (s0 x.aj.ls) (q4 aH.cells x.aj.ls))/\(s0 x.aj.ls<=x.aj.c/\s0 x.aj.ls<=9223372036854775807)
theorem uz {w:World} {D:Nat->Prop} (n:Nat):yZ w D (List.replicate n (Sv.mk none 0 []:bP)):=λ q hq x hx=>by
  rw [(List.mem_replicate.1 hq).2] at hx; cases hx
theorem Ap {w:World} {D:Nat->Prop} {ds:List bP} {i:Nat} {q:bP} (h:yZ w D ds) (hq:ds[i]? =some q):∀ x ∈ q.ls,Ro w D (λ w'=>aY w' 2 x.aj.A (s0 x.aj.ls) (q4 aH.cells x.aj.ls))/\(s0 x.aj.ls<=x.aj.c/\s0 x.aj.ls<=9223372036854775807):=h q (List.mem_of_getElem? hq)
theorem Ff {w:World} {D:Nat->Prop} {ds:List bP} {i:Nat} {y:bP} (h:yZ w D ds) (hy:∀ x ∈ y.ls,Ro w D (λ w'=>aY w' 2 x.aj.A (s0 x.aj.ls) (q4 aH.cells x.aj.ls))/\(s0 x.aj.ls<=x.aj.c/\s0 x.aj.ls<=9223372036854775807)):yZ w D (List.set ds i y):=λ q hq x hx=>by
  rcases List.mem_or_eq_of_mem_set hq with e | e
  . exact h q e x hx
  . rw [e] at hx; exact hy x hx
def tt:List (Ll aQ)->Nat
  | []=>0
  | x::l=>tot x.ls+tt l
theorem Aq:∀ n:Nat,tt (List.replicate n (E0 []:Ll aQ))=0
  | 0=>rfl
  | n+1=>by rw [List.replicate_succ,tt,Aq n]; rfl
theorem Au:∀ a c:List (Ll aQ),tt (a++c)=tt a+tt c
  | [],c=>(m8 _).symm
  | x::a,c=>by rw [List.cons_append,tt,tt,Au a c,Nat.add_assoc]
theorem yF {l:List (Ll aQ)} {k:Nat} {x:Ll aQ} (hx:l[k]? =some x):tt (r3 (k+1) l)=tt (r3 k l)+tot x.ls:=by
  obtain⟨h,rfl⟩:=List.getElem?_eq_some_iff.1 hx
  rw [List.take_succ_eq_append_getElem h,Au]; rfl
theorem wI (l:List (Ll aQ)) (k:Nat):tt (r3 k l)<=tt l:=by
  have:=Au (r3 k l) (List.drop k l)
  rw [List.take_append_drop] at this
  omega
theorem Dp:∀ {l:List (Ll aQ)} {i:Nat} {x y:Ll aQ},l[i]? =some x->tt (List.set l i y)+tot x.ls=tt l+tot y.ls
  | [],_,_,_,h=>by simp at h
  | z::l,0,x,y,h=>by
    simp only [q0,Option.some.injEq] at h
    subst h
    rw [List.set_cons_zero,tt,tt]; omega
  | z::l,i+1,x,y,h=>by
    simp only [q3] at h
    have:=Dp (y:=y) h
    rw [List.set_cons_succ,tt,tt]; omega
theorem EK {l:List (Ll aQ)} {i N:Nat} {x:Ll aQ} (h:tt l<=N) (hx:l[i]? =some x):tot x.ls<=N:=by
  have:=wI l (i+1)
  rw [yF hx] at this
  omega
theorem zC {l:List (Ll aQ)} {k:Nat} {x:Ll aQ} (h:l[k]? =some x):B8 l k default=x:=by
  rw [L7,h]; rfl
def seen (a:List (Ll aQ)) (k j:Nat):Nat:=tt (r3 k a)+tot (r3 j (B8 a k default).ls)
theorem Dq (a:List (Ll aQ)) (k:Nat):seen a k 0=tt (r3 k a):=rfl
theorem za {l a:List (Ll aQ)} {k j i:Nat} {y:Ll aQ} {qs:List aQ} {r:aQ} (h:tt l<=seen a k j) (hy:a[k]? =some y) (hr:y.ls[j]? =some r) (hq:l[i]? =some (E0 qs)):tt (List.set l i (E0 (qs++ [r])))<=seen a k (j+1):=by
  have b:=Dp (y:=E0 (qs++ [r])) hq
  have c:tot (E0 (qs++ [r])).ls=tot qs+tot [r]:=wH qs [r]
  have d:tot [r]=s0 r.aj.ls+1:=rfl
  unfold seen at h ⊢
  rw [zC hy] at h ⊢
  rw [xu hr]
  have e:tot (E0 qs:Ll aQ).ls=tot qs:=rfl
  omega
theorem Av {l a:List (Ll aQ)} {k j:Nat} (h:tt l<=seen a k j) (hk:k < s0 a):tt l<=tt (r3 (k+1) a):=by
  unfold seen at h
  have hy:a[k]? =some a[k]:=p7 hk
  rw [zC hy] at h
  rw [yF hy]
  have:=vR a[k].ls j
  omega
theorem GH {l a:List (Ll aQ)} {k i N:Nat} {qs:List aQ} (h:tt l<=tt (r3 k a)) (b:tt a<=N) (hq:l[i]? =some (E0 qs)):tot qs<=N:=EK (x:=E0 qs) (L8 h (L8 (wI _ _) b)) hq
theorem BJ (a:List (Ll aQ)) (k j:Nat):seen a k j<=tt a:=by
  unfold seen
  by_cases hk:k < s0 a
  . have hy:a[k]? =some a[k]:=p7 hk
    rw [zC hy]
    have d:=yF hy
    have b:=wI a (k+1)
    have c:=vR a[k].ls j
    omega
  . have e:B8 a k default=default:=by rw [L7,List.getElem?_eq_none e6]; rfl
    rw [e]
    have b:=wI a k
    have c:tot (r3 j (default:Ll aQ).ls)=0:=by
      have:(default:Ll aQ).ls= []:=rfl
      rw [this,List.take_nil]; rfl
    omega
theorem xS {l b:List (Ll aQ)} {i N m:Nat} {q:bP} (h:tt l<=m) (hm:m<=tt b) (c:tt b<=N) (hq:l[i]? =some (bP.abs q)):s0 q.ls<=N/\s0 (List.map af.abs q.ls)<=N:=by
  have d:=EK (L8 h (L8 hm c)) hq
  have a:s0 (List.map af.abs q.ls)<=N:=L8 (BI _) d
  exact⟨by rw [List.length_map] at a; exact a,a⟩
theorem Ef {α σ ρ:Type} (a:α) (f:α->σ ⊕ ρ):sW (Sum.inl a) f=f a:=rfl
theorem Eg {α σ ρ:Type} (a:ρ) (f:α->σ ⊕ ρ):sW (Sum.inr a) f=Sum.inr a:=rfl
theorem FW (l0:List aN) (k:Nat):∀ q:List Int,(gz l0 k q= .inl ()/\∀ f ∈ q,0<=f/\f < ((s0 l0:Nat):Int))\/(gz l0 k q= .inr 1/\∃ f ∈ q,f < 0\/f >= ((s0 l0:Nat):Int))
  | []=> .inl ⟨by rw [gz],λ f hf=>(by cases hf)⟩
  | x::q=>by
    rw [gz]
    by_cases a:x < 0
    . exact .inr ⟨by rw [if_pos a],x, .head _, .inl a⟩
    . by_cases b:x >= ((s0 l0:Nat):Int)
      . exact .inr ⟨by rw [if_neg a,if_pos b],x, .head _, .inr b⟩
      . rw [if_neg a,if_neg b]
        rcases FW l0 k q with ⟨c,d⟩ | ⟨c,f,d,g⟩
        . refine .inl ⟨c,λ f hf=> ?_⟩
          rcases List.mem_cons.1 hf with e | e
          . rw [e]; omega
          . exact d f e
        . exact .inr ⟨c,f, .tail _ d,g⟩
def vS (l0:List aN) (x:fu) (y:Ll aQ):Prop:=s0 x.aB.ls=s0 x.aI.ls/\s0 x.aB.ls=s0 y.ls/\∀ f ∈ x.aI.ls,0<=f/\f < ((s0 l0:Nat):Int)
theorem FX (l0:List aN) (a:List (Ll aQ)):∀ (q:List fu) (k:Nat),(fO l0 a q k= .inl ()/\∀ (i:Nat) (x:fu),q[i]? =some x->vS l0 x (B8 a (k+i) default))\/(fO l0 a q k= .inr 1/\∃ (i:Nat) (x:fu),q[i]? =some x/\¬ vS l0 x (B8 a (k+i) default))
  | [],k=> .inl ⟨by rw [fO],λ i x h=>by simp at h⟩
  | x::q,k=>by
    rw [fO]
    by_cases b:(x.aB.ls.length:Int)=(x.aI.ls.length:Int)
    . rw [if_pos b]
      simp only [bnd]
      by_cases c:(x.aB.ls.length:Int)=(((B8 a k default).ls.length:Nat):Int)
      . rw [if_pos c]
        rcases FW l0 k x.aI.ls with ⟨d,e⟩ | ⟨d,f,e,m⟩
        . rw [d,Ef]
          rcases FX l0 a q (k+1) with ⟨g,j⟩ | ⟨g,i,y,j,l⟩
          . refine .inl ⟨g,λ i y hy=> ?_⟩
            cases i with
            | zero=>
              simp only [q0,Option.some.injEq] at hy
              subst hy
              exact⟨e6,by rw [Nat.add_zero]; omega,e⟩
            | succ i=>
              simp only [q3] at hy
              have:=j i y hy
              rw [show k+1+i=k+(i+1) by omega] at this
              exact this
          . exact .inr ⟨g,i+1,y,by simpa using j,by rw [show k+(i+1)=k+1+i by omega]; exact l⟩
        . rw [d,Eg]
          exact .inr ⟨rfl,0,x,rfl,λ w=>by have:=w.2.2 f e; omega⟩
      . rw [if_neg c]
        exact .inr ⟨rfl,0,x,rfl,λ w=>c (by have:=w.2.1; rw [Nat.add_zero] at this; omega)⟩
    . rw [if_neg b]
      exact .inr ⟨rfl,0,x,rfl,λ w=>b (by have:=w.1; omega)⟩
theorem Hg (l0:List aN) (l1:List fu) (a:List (Ll aQ)):(j6 l0 l1 a=0/\s0 a=s0 l1/\∀ (i:Nat) (x:fu),l1[i]? =some x->vS l0 x (B8 a i default))\/(j6 l0 l1 a=1/\¬ (s0 a=s0 l1/\∀ (i:Nat) (x:fu),l1[i]? =some x->vS l0 x (B8 a i default))):=by
  unfold j6
  by_cases c:(a.length:Int)=(l1.length:Int)
  . rw [if_pos c]
    rcases FX l0 a l1 0 with ⟨b,d⟩ | ⟨b,i,x,d,e⟩
    . exact .inl ⟨by rw [b]; rfl,e6,λ i x hx=>by have:=d i x hx; rw [m8] at this; exact this⟩
    . exact .inr ⟨by rw [b]; rfl,λ w=>e (by rw [m8]; exact w.2 i x d)⟩
  . rw [if_neg c]
    exact .inr ⟨rfl,λ w=>c e6⟩
theorem Fg {l0:List aN} {l1:List fu} {a:List (Ll aQ)} {r:Int} (h:j6 l0 l1 a=r):s0 a=s0 l1\/¬ r=0:=by
  rcases Hg l0 l1 a with ⟨_,b,_⟩ | ⟨c,_⟩
  . exact .inl b
  . exact .inr (by rw [<- h,c]; decide)
theorem Aw {l0:List aN} {l1:List fu} {a:List (Ll aQ)} {r:Int} (h:j6 l0 l1 a=r) (c:r=0) {i:Nat} {x:fu} (hx:l1[i]? =some x):vS l0 x (B8 a i default):=by
  rcases Hg l0 l1 a with ⟨_,_,d⟩ | ⟨b,_⟩
  . exact d i x hx
  . rw [h,c] at b; cases b
open Int renaming toNat->C6
open IntKind renaming i64->C3
open List renaming drop->r4,length_append->o2,length_cons->s1,length_map->s3,length_nil->E7,length_replicate->H0,length_set->G4,map->s5,map_replicate->L9,mem_of_getElem?->D1,replicate->r7,set->I3
open Sv renaming mk->G3
open _root_.Go.Proofs.Tryz renaming isAgg40->E1,underlying40->y6
section
open Go.RowKit
def kH (i:List (Ll aQ)) (e:Nat):List Int->Nat->List (Ll aQ)->(List (Ll aQ))
  | [],c,b=>b
  | f::h,c,b=>bnd (B8 b (C6 f) default) λ g=>bnd (B8 i e default) λ d=>bnd (B8 d.ls c default) λ a=>kH i e h (c+1) (I3 b (C6 f) (E0 (g.ls++ [(aQ.mk a.dV a.aG (E0 a.aj.ls))])))
def jX (l0:List aN) (e:List (Ll aQ)):List fu->Nat->List (Ll aQ)->(List (Ll aQ))
  | [],a,b=>b
  | c::d,a,b=>bnd (kH e a c.aI.ls 0 b) λ sLrbtLsL=>jX l0 e d (a+1) sLrbtLsL
def jY (e:List (Ll aQ)):List aN->Nat->List aQ->(List aQ)
  | [],b,c=>c
  | f::g,b,c=>bnd (B8 e b default) λ d=>bnd (kU f d.ls) λ a=>jY e g (b+1) (I3 c b (aQ.mk a.dV a.aG (E0 a.aj.ls)))
def nQ (l0:List aN) (l1:List fu) (b:List (Ll aQ)):(List aQ) × Int:=
 bnd (j6 l0 l1 b) λ a=>if a=0 then bnd (jX l0 b l1 0 (r7 l0.length (E0 []:Ll aQ))) λ sLrbtL=>bnd (jY sLrbtL l0 0 (r7 l0.length (aQ.mk false [] (E0 [])))) λ sLrbtLaL=>(sLrbtLaL,0) else(([]:List aQ),a)
theorem xU (w D A0 n0 c0 l0 A1 n1 c1 d1 l1 A2 n2 c2 d2 I r0 r1) (H:Own w D w []) (bn:Ro w D λ w'=>aY w' 6 A0 n0 (q4 aN.cells l0)) (fB:n0=l0.length) (iV:l0.length *80<=211106232532992) (bI:s5 bO.abs d1=l1) (bq:Ro w D λ w'=>aY w' 3 A1 n1 (q4 bO.cells d1)) (X:∀ x ∈ d1,Ro w D (λ w'=>aY w' 6 x.aB.A x.aB.ls.length (q4 aN.cells x.aB.ls))/\(x.aB.ls.length<=x.aB.c/\x.aB.ls.length<=9223372036854775807)/\Ro w D (λ w'=>aY w' 1 x.aI.A x.aI.ls.length (q4 (eI .i64) x.aI.ls))/\(x.aI.ls.length<=x.aI.c/\x.aI.ls.length<=9223372036854775807)) (fC:n1=l1.length) (iW:l1.length *56<=211106232532992) (bK:s5 bP.abs d2=I) (bL:Ro w D λ w'=>aY w' 1 A2 n2 (q4 (I9 (β:=af)) d2)) (Y:∀ x ∈ d2,Ro w D (λ w'=>aY w' 3 x.A x.ls.length (q4 af.cells x.ls))/\(x.ls.length<=x.c/\x.ls.length<=9223372036854775807)/\(∀ y1 ∈ x.ls,Ro w D (λ w'=>aY w' 2 y1.aj.A y1.aj.ls.length (q4 aH.cells y1.aj.ls))/\(y1.aj.ls.length<=y1.aj.c/\y1.aj.ls.length<=9223372036854775807))) (fE:n2=I.length) (iX:I.length *24<=211106232532992) (aF:tt I<=100000000) (hr:nQ l0 l1 I=(r0,r1)):
    Calls Tryz.prog 129 #[.slice A0 n0 c0, .slice A1 n1 c1, .slice A2 n2 c2] w (dA λ v w'=> ∃ B0 b0 e0,v= .tuple #[.slice B0 r0.length b0,vI r1]/\Own w D w' [row B0 r0.length b0 (q4 af.cells e0) 149 3,sepL (q4 af.own e0)]/\(s5 af.abs e0=r0)):=by
 unfold nQ at hr
 subst fB fC fE
 have gW:=aA bI
 have gX:=aA bK
 refine cb Tryz.func129 ?_
 refine sr (Az rfl (An rfl (Ik (sr (Mz rfl (Mz rfl (Mz rfl ?_)))))))
 obtain⟨aC,L⟩:∃ q,j6 l0 l1 I=q:=⟨_,rfl⟩
 obtain⟨iY,cZ,M,di,gY⟩:=Iu H
 refine cl Tryz.call148 (vD _ _ A0 l0.length c0 l0 A1 l1.length c1 d1 l1 A2 I.length c2 d2 I aC cZ (M _ bn) rfl e6 bI (M _ bq) (λ x9 W=>⟨M _ (X x9 W).1,(X x9 W).2.1,M _ (X x9 W).2.2.1,(X x9 W).2.2.2⟩) rfl e6 bK (M _ bL) (λ x9 W=>⟨M _ (Y x9 W).1,(Y x9 W).2.1,(λ y1 k1=>⟨M _ ((Y x9 W).2.2 y1 k1).1,((Y x9 W).2.2 y1 k1).2⟩)⟩) rfl e6 L) ?_
 rintro _ dm ⟨rfl,dw⟩
 have dx:=di _ _ dw
 have ib:I.length=l1.length\/¬ (aC=0):=Fg L
 refine Ar rfl (Mz rfl (fw (.bool (decide (¬ (aC=0)))) (IM (e:= !(decide (aC=0))) yk decide_not.symm) (nt ?_)))
 by_cases bz:aC=0
 refine jF (dF (Lr bz)) (sk (sr (Mz rfl (Kz (vJ l0.length) ?_))))
 refine WL.do rfl (Jt (x0:=(G3 none 0 []:bP)) (z:= .slice none 0 0) (k:=l0.length) (size:=1) (bytes:=24) rC f2 rfl Tryz.underlying105 e7 dx rfl rfl e6 (by unfold maxLen; omega) ?_)
 intro u iZ fG
 have fH:=fG.free (R:=sepL (q4 Row40H.own (r7 l0.length (G3 none 0 []:bP)))) (uQ (wX (eP 149 3)))
 have ic:s0 (r7 l0.length (G3 none 0 []:bP))=l0.length:=H0
 have ig:s0 (r7 l0.length (E0 []:Ll aQ))=l0.length:=H0
 have ik:yZ w D (r7 l0.length (G3 none 0 []:bP)):=uz _
 refine An rfl (Ik (sr (Mz rfl (Kz (vJ l1.length) (Mn rfl (bo ?_))))))
 have fI:=fH.pb [0]
 obtain⟨fJ,aG⟩:=rJ λ (g:Nat) Z C w'=>Own w D w' [row u l0.length l0.length (q4 (I9 (β:=af)) Z) 40 1,sepL (q4 Row40H.own Z)]/\s5 bP.abs Z=C/\C.length=l0.length/\g<=l1.length/\yZ w D Z/\tt C<=tt (List.take g I)/\jX l0 I l1 0 (r7 l0.length (E0 []:Ll aQ))=jX l0 I (r4 g l1) g C
 refine Wp.loop (λ i:Nat × (List bP) × (List (Ll aQ))=> [(28,vJ i.1),(27,vJ l1.length),(26, .slice A1 l1.length c1),(9, .slice u l0.length l0.length),(7,vI 0),(6, .slice none 0 0),(0, .slice A0 l0.length c0),(2, .slice A2 I.length c2)]) fJ (λ i=>l1.length - i.1) (0,(r7 l0.length (G3 none 0 []:bP)),(r7 l0.length (E0 []:Ll aQ))) ⟨rfl,rfl,rfl,rfl,rfl,rfl,rfl,rfl,trivial⟩ (aG.2 ⟨fI,by exact(L9 (f:=bP.abs)),by first | omega | (simp only [G4] <;> omega) | (simp only [H0]),e6,by first | assumption | exact uz _,by first | (rw [Aq]; exact Lp _) | exact Av f5 e6,rfl⟩) ?_
 rintro ⟨g,Z,C⟩ jb dz
 obtain⟨aI,aJ,il,iq,iw,iy,bB⟩:=aG.1 dz
 have iA:=aA aJ
 refine sr (Kz (.bool (decide ((g:Int) < (l1.length:Int)))) (nt (Ik ?_)))
 by_cases dB:(g:Int) < (l1.length:Int)
 obtain⟨j,N⟩:=dh (ls:=d1) (i:=g) bO.len f2 (aI.ro bq) e9
 have ax:=eY bI N
 have iB:=(X _ (D1 N)).2.1
 have iC:=(X _ (D1 N)).2.2.2
 have iD:j.aI.ls.length=s0 (B8 I g default).ls:=(Aw L e6 ax).1.symm.trans (Aw L e6 ax).2.1
 have dC:=drop_at ax
 refine jT (dT dB) (sk (Ik (bo (sr (Mz rfl (fw (.pointer (some ⟨ab A1,ao A1+g *3,none⟩)) (Iz (uR) rfl rfl ((aI.ro bq).addr (i:=g) e6) e6) (fw (.agg (bO.cells j).toArray) (IB rfl (IJ (cs:=(bO.cells j)) Tryz.isAgg172 Tryz.sizeOf172 ((aI.ro bq).elem bO.len N f2))) ?_)))))))
 refine dn [vI 0, .slice none 0 0, .slice none 0 0] 172 aI ?_
 intro fK jc fM
 refine Az rfl ?_
 refine df (bO.cells j) 0 fM Tryz.sizeOf172 ?_
 intro jd dD
 refine ns (Kz (vP fK 2) (Lz (.slice j.aI.A j.aI.ls.length j.aI.c) dD 0 Tryz.isAgg58 (Kz (vJ j.aI.ls.length) (Mn rfl (bo ?_)))))
 have fO:=dD.pk [1,2]
 obtain⟨fP,aK⟩:=rJ λ (p:Nat) F J w'=>Own w D w' [row u l0.length l0.length (q4 (I9 (β:=af)) F) 40 1,sepL (q4 Row40H.own F)]/\s5 bP.abs F=J/\J.length=l0.length/\p<=j.aI.ls.length/\yZ w D F/\tt J<=seen I g p/\kH I g j.aI.ls 0 C=kH I g (r4 p j.aI.ls) p J
 refine Wp.loop (λ i:Nat × (List bP) × (List (Ll aQ))=> [(36,vJ i.1),(35,vJ j.aI.ls.length),(34, .slice j.aI.A j.aI.ls.length j.aI.c),(10,vJ g),(28,vJ g),(27,vJ l1.length),(26, .slice A1 l1.length c1),(9, .slice u l0.length l0.length),(7,vI 0),(6, .slice none 0 0),(0, .slice A0 l0.length c0),(2, .slice A2 I.length c2)]) fP (λ i=>j.aI.ls.length - i.1) (0,Z,C) ⟨rfl,rfl,rfl,rfl,rfl,rfl,rfl,rfl,rfl,rfl,rfl,rfl,trivial⟩ (aK.2 ⟨fO,by exact aJ,by first | omega | (simp only [G4] <;> omega) | (simp only [H0]),e6,by first | assumption | exact uz _,by first | (rw [Dq]; assumption) | exact za f5 f5 f5 f5,rfl⟩) ?_
 rintro ⟨p,F,J⟩ je dE
 obtain⟨aL,ag,iE,iF,iH,iI,bC⟩:=aK.1 dE
 have iJ:=aA ag
 refine sr (Kz (.bool (decide ((p:Int) < (j.aI.ls.length:Int)))) (nt (Ik ?_)))
 by_cases dG:(p:Int) < (j.aI.ls.length:Int)
 obtain⟨n,aM⟩:=dh (ls:=j.aI.ls) (i:=p) iL f2 (aL.ro (X _ (D1 N)).2.2.1) e9
 have iK:0<=n/\n < (l0.length:Int):=(Aw L e6 ax).2.2 _ (D1 aM)
 have dH:=drop_at aM
 refine jT (dT dG) (sk (Ik (bo (sr (Mz rfl (fw (.pointer (some ⟨ab j.aI.A,ao j.aI.A+p *1,none⟩)) (Iz (mq) rfl rfl ((aL.ro (X _ (D1 N)).2.2.1).addr (i:=p) e6) e6) (fw (vI n) (IB rfl (bJ.one Tryz.isAgg3 (((aL.ro (X _ (D1 N)).2.2.1).elem iL aM f2).at_ (k:=0) rfl))) (Az rfl (An rfl ?_)))))))))
 refine pM [14,16] (bv.block (IE (IE (bv.block (bv.block (IE (IE (bv.block (IE IQ))))))))) aL ?_
 intro jf fQ
 refine I4 (v:= .slice u l0.length l0.length) 0 rfl e7 (λ _=>IA rfl) (I4 (v:=vJ (C6 n)) 1 rfl e7 (λ _=>Ir (e:=n) (IA rfl) e6) (qv 2 rfl rfl (qt (v:=vJ (C6 n)) 3 rfl (λ _ _=>Ir (e:=n) (IA rfl) e6) ?_)))
 obtain⟨h,O⟩:=iG (ls:=F) (i:=C6 n) e9
 have aO:=eY ag O
 obtain⟨iM,iO⟩:h.ls.length<=100000000/\s0 (s5 af.abs h.ls)<=100000000:=by first | exact xS f5 (BJ _ _ _) aF aO | exact xS f5 (wI _ _) aF aO
 refine qt (v:= .pointer (some ⟨ab u,ao u+(C6 n) *1,none⟩)) 4 rfl (λ _ ⟨_,V⟩=>Iz (wE) rfl rfl ((V.rds (i:=0) rfl).addr (i:=C6 n) e6) e6) (qt (v:= .slice h.A h.ls.length h.c) 5 rfl (λ _ ⟨_,V⟩=>IB rfl (bJ.one E1 (((V.rds (i:=0) rfl).elem rC O f2).at_ (k:=0) rfl))) (qv 6 rfl rfl (qv 7 rfl rfl ?_)))
 obtain⟨B,G⟩:=iG (ls:=d2) (i:=g) e9
 have aP:=eY bK G
 have fT:=(Y _ (D1 G)).2.1
 have fU:s0 (s5 af.abs B.ls)=B.ls.length:=s3 ..
 have fV:B.ls.length=s0 (B8 I g default).ls:=by rw [zC aP]; exact(s3 ..).symm
 refine qt (v:= .pointer (some ⟨ab A2,ao A2+g *1,none⟩)) 8 rfl (λ _ ⟨_,V⟩=>Iz (wE) rfl rfl ((V.ro bL).addr (i:=g) e6) e6) (qt (v:= .slice B.A B.ls.length B.c) 9 rfl (λ _ ⟨_,V⟩=>IB rfl (bJ.one E1 (((V.ro bL).elem rC G f2).at_ (k:=0) rfl))) (qv 10 rfl rfl ?_))
 obtain⟨a,aa⟩:=iG (ls:=B.ls) (i:=p) e9
 have bM:=eY (rfl:s5 af.abs B.ls=s5 af.abs B.ls) aa
 have fZ:=((Y _ (D1 G)).2.2 _ (D1 aa)).2
 refine qt (v:= .pointer (some ⟨ab B.A,ao B.A+p *3,none⟩)) 11 rfl (λ _ ⟨_,V⟩=>Iz (rX) rfl rfl ((V.ro (Y _ (D1 G)).1).addr (i:=p) e6) e6) (qt (v:= .agg (af.cells a).toArray) 12 rfl (λ _ ⟨_,V⟩=>IB rfl (IJ (cs:=(af.cells a)) Tryz.isAgg149 Tryz.sizeOf149 ((V.ro (Y _ (D1 G)).1).elem af.len aa f2))) ?_)
 refine qd 13 rfl (Jq (cs:=(af.cells a)) (t:=149) (sz:=3) (m:=1) fQ rfl rfl (λ _=>by kernel_rfl) rfl f2 ?_)
 intro aR dI aS
 replace aS:=IX (y:=row aR 1 1 (q4 af.cells ([(af.mk a.dV a.aG (G3 a.aj.A a.aj.c a.aj.ls))])) 149 3) rfl aS
 have bD:=aS.pb [0]
 refine⟨.inr ⟨_,bD⟩, ?_⟩
 have dJ:=bD.pf [1]
 have aU:Own w D dI [row h.A h.ls.length h.c (q4 af.cells h.ls) 149 3,sepL (q4 Row40H.own (List.take (C6 n) F)++q4 Row40H.own (r4 (C6 n+1) F)),row u l0.length l0.length (q4 (I9 (β:=af)) F) 40 1,row aR 1 1 (q4 af.cells ([(af.mk a.dV a.aG (G3 a.aj.A a.aj.c a.aj.ls))])) 149 3]:=Jm (f:=Row40H.own) (i:=C6 n) O dJ
 have gm:=zr 0 aU
 refine qd 14 rfl (IW (k:=h.ls.length) (m:=1) (rX) aU rfl rfl (gN y6 (aU.rds (i:=3) rfl) (dX af.one ([(af.mk a.dV a.aG (G3 a.aj.A a.aj.c a.aj.ls))]))) rfl e6 (s:=s0 (h.ls++ [(af.mk a.dV a.aG (G3 a.aj.A a.aj.c a.aj.ls))])) f7 (List.flatMap_append).symm ?_)
 intro P Q dK bE
 have bQ:∀ x:af,x ∈ (h.ls++ [(af.mk a.dV a.aG (G3 a.aj.A a.aj.c a.aj.ls))])->Ro w D (λ w'=>aY w' 2 x.aj.A x.aj.ls.length (q4 aH.cells x.aj.ls))/\(x.aj.ls.length<=x.aj.c/\x.aj.ls.length<=9223372036854775807):=λ x9 W=>Or.elim (List.mem_append.1 W) (λ W=>(Ap f5 O) x9 W) (λ W=>(by rcases List.mem_cons.1 W with rfl | W; exact⟨((Y _ (D1 G)).2.2 _ (D1 aa)).1,e6⟩; exact(absurd W List.not_mem_nil)))
 have gp:s0 (h.ls++ [(af.mk a.dV a.aG (G3 a.aj.A a.aj.c a.aj.ls))])=h.ls.length+1:=by simp only [o2,s1,E7]
 have gq:=aA (nu (es:= [(af.mk a.dV a.aG (G3 a.aj.A a.aj.c a.aj.ls))]) (ms:= [(aQ.mk a.dV a.aG (E0 a.aj.ls))]) (rfl:s5 af.abs h.ls=s5 af.abs h.ls) rfl)
 refine⟨.inl e7, ?_⟩
 refine I4 (v:= .pointer (some ⟨ab u,ao u+(C6 n) *1,none⟩)) 15 rfl e7 (λ _=>Iz (wE) rfl rfl ((bE.rds (i:=2) rfl).addr (i:=C6 n) e6) e6) ?_
 have dL:Own w D dK [sepL (q4 Row40H.own (I3 F (C6 n) (G3 P Q (h.ls++ [(af.mk a.dV a.aG (G3 a.aj.A a.aj.c a.aj.ls))]):bP))),row u l0.length l0.length (q4 (I9 (β:=af)) F) 40 1,row aR 1 1 (q4 af.cells ([(af.mk a.dV a.aG (G3 a.aj.A a.aj.c a.aj.ls))])) 149 3]:=Je (f:=Row40H.own) (y:=(G3 P Q (h.ls++ [(af.mk a.dV a.aG (G3 a.aj.A a.aj.c a.aj.ls))]):bP)) O bE
 have dM:=dL.pf [1]
 refine qe 16 rfl (Do.storeRow (vs:= [.slice P (s0 (h.ls++ [(af.mk a.dV a.aG (G3 a.aj.A a.aj.c a.aj.ls))])) Q]) (o:=(C6 n) *1+0) (q:=ao u+(C6 n) *1) dM rfl e6 rfl Tryz.sizeOf40 rfl rfl (Lj rfl) (ja rC O (Lj rfl)) (jJ (y:=(G3 P Q (h.ls++ [(af.mk a.dV a.aG (G3 a.aj.A a.aj.c a.aj.ls))]):bP)) rC rfl (Lj rfl) O) ?_)
 intro iP dN
 have gu:yZ w D (I3 F (C6 n) (G3 P Q (h.ls++ [(af.mk a.dV a.aG (G3 a.aj.A a.aj.c a.aj.ls))]):bP)):=Ff f5 bQ
 have gy:s0 (I3 F (C6 n) (G3 P Q (h.ls++ [(af.mk a.dV a.aG (G3 a.aj.A a.aj.c a.aj.ls))]):bP))=s0 (I3 J (C6 n) (E0 ((s5 af.abs h.ls)++ [(aQ.mk a.dV a.aG (E0 a.aj.ls))]))):=aA (jl ag (congrArg E0 (nu (es:= [(af.mk a.dV a.aG (G3 a.aj.A a.aj.c a.aj.ls))]) (ms:= [(aQ.mk a.dV a.aG (E0 a.aj.ls))]) (rfl:s5 af.abs h.ls=s5 af.abs h.ls) rfl)))
 have gz:s0 (I3 J (C6 n) (E0 ((s5 af.abs h.ls)++ [(aQ.mk a.dV a.aG (E0 a.aj.ls))])))=J.length:=G4
 refine⟨.inl e7, ?_⟩
 refine qn (bN (Iq ?_))
 have dO:=dN.pk [0,1]
 refine Il (fw (vJ (p+1)) (Ir (e:=C3.wrap ((p:Int)+1)) yk f0) (Mz rfl (WL.nil ?_)))
 have dP:=dO.pf []
 exact II (p+1,(I3 F (C6 n) (G3 P Q (h.ls++ [(af.mk a.dV a.aG (G3 a.aj.A a.aj.c a.aj.ls))]):bP)),(I3 J (C6 n) (E0 ((s5 af.abs h.ls)++ [(aQ.mk a.dV a.aG (E0 a.aj.ls))])))) ⟨rfl,rfl,rfl,rfl,rfl,rfl,rfl,rfl,rfl,rfl,rfl,rfl,trivial⟩ (aK.2 ⟨dP,by exact(jl ag (congrArg E0 (nu (es:= [(af.mk a.dV a.aG (G3 a.aj.A a.aj.c a.aj.ls))]) (ms:= [(aQ.mk a.dV a.aG (E0 a.aj.ls))]) (rfl:s5 af.abs h.ls=s5 af.abs h.ls) rfl))),by first | omega | (simp only [G4] <;> omega) | (simp only [H0]),e6,by first | assumption | exact uz _,by first | (rw [Dq]; assumption) | exact za f5 f5 f5 f5,Eq.trans (bC) (Eq.trans (congrArg (λ q=>kH I g q p J) dH) (Eq.trans (ae (aT aO)) (Eq.trans (ae (aT aP)) (ae (aT bM)))))⟩) (by show j.aI.ls.length - (p+1) < j.aI.ls.length - p; omega)
 refine jF (dF dG) (Wp.exit (IC ?_))
 have bR:kH I g j.aI.ls 0 C=J:=et (bC) (et (congrArg (λ q=>kH I g q p J) (dZ (ls:=j.aI.ls) (i:=p) e6)) rfl)
 refine IC (IK (bN (Iq (Il (fw (vJ (g+1)) (Ir (e:=C3.wrap ((g:Int)+1)) yk f0) (Mz rfl (WL.nil ?_)))))))
 have dQ:=aL.pf []
 exact II (g+1,F,J) ⟨rfl,rfl,rfl,rfl,rfl,rfl,rfl,rfl,trivial⟩ (aG.2 ⟨dQ,by exact ag,by first | omega | (simp only [G4] <;> omega) | (simp only [H0]),e6,by first | assumption | exact uz _,by first | (rw [Aq]; exact Lp _) | exact Av f5 e6,Eq.trans (bB) (Eq.trans (congrArg (λ q=>jX l0 I q g C) dC) (ae bR))⟩) (by show l1.length - (g+1) < l1.length - g; omega)
 refine jF (dF dB) (Wp.exit (IC ?_))
 have bS:jX l0 I l1 0 (r7 l0.length (E0 []:Ll aQ))=C:=et (bB) (et (congrArg (λ q=>jX l0 I q g C) (dZ (ls:=l1) (i:=g) e6)) rfl)
 refine IC (IK (Iq (sr (Mz rfl (Kz (vJ l0.length) ?_)))))
 refine WL.do rfl (Jt (x0:=(af.mk false [] (G3 none 0 []))) (z:= .agg #[.bool false, .string ⟨List.toArray []⟩, .slice none 0 0]) (k:=l0.length) (size:=3) (bytes:=48) af.len f2 rfl y6 e7 aI rfl rfl e6 (by unfold maxLen; omega) ?_)
 intro K dR dS
 have dU:Own w D dR (sepL (q4 af.own (r7 l0.length (af.mk false [] (G3 none 0 []))))::_):=dS.free (uQ (wX (eP 153 2)))
 have gB:s0 (r7 l0.length (af.mk false [] (G3 none 0 [])))=l0.length:=H0
 have gD:s0 (r7 l0.length (aQ.mk false [] (E0 [])))=l0.length:=H0
 refine An rfl (Ik (sr (Mz rfl (Kz (vJ l0.length) (Mn rfl (bo ?_))))))
 have dV:=dU.pb [0]
 obtain⟨dW,aj⟩:=rJ λ (b:Nat) E r w'=>Own w D w' [row K l0.length l0.length (q4 af.cells E) 149 3,row u l0.length l0.length (q4 (I9 (β:=af)) Z) 40 1,sepL (q4 Row40H.own Z),sepL (q4 af.own E)]/\s5 af.abs E=r/\r.length=l0.length/\b<=l0.length/\jY C l0 0 (r7 l0.length (aQ.mk false [] (E0 [])))=jY C (r4 b l0) b r
 refine Wp.loop (λ i:Nat × (List af) × (List aQ)=> [(64,vJ i.1),(63,vJ l0.length),(14, .slice K l0.length l0.length),(9, .slice u l0.length l0.length),(7,vI 0),(6, .slice none 0 0),(0, .slice A0 l0.length c0)]) dW (λ i=>l0.length - i.1) (0,(r7 l0.length (af.mk false [] (G3 none 0 []))),(r7 l0.length (aQ.mk false [] (E0 [])))) ⟨rfl,rfl,rfl,rfl,rfl,rfl,rfl,trivial⟩ (aj.2 ⟨dV,by exact(L9 (f:=af.abs)),by first | omega | (simp only [G4] <;> omega) | (simp only [H0]),e6,rfl⟩) ?_
 rintro ⟨b,E,r⟩ dY bT
 obtain⟨aV,S,gF,gG,aX⟩:=aj.1 bT
 have gH:=aA S
 refine sr (Kz (.bool (decide ((b:Int) < (l0.length:Int)))) (nt (Ik ?_)))
 by_cases bF:(b:Int) < (l0.length:Int)
 obtain⟨ay,aZ⟩:=dh (ls:=l0) (i:=b) aN.len f2 (aV.ro bn) e9
 have bU:=drop_at aZ
 refine jT (dT bF) (sk (Ik (bo (sr (Mz rfl (An rfl ?_))))))
 refine Db [12] (bv.block (IE (IE (bv.block (IE IQ))))) aV ?_
 intro iQ d9
 refine qv 0 rfl rfl (qv 1 rfl rfl (qv 2 rfl rfl (qv 3 rfl rfl (qt (v:= .pointer (some ⟨ab A0,ao A0+b *6,none⟩)) 4 rfl (λ _ ⟨_,V⟩=>Iz (mG) rfl rfl ((V.ro bn).addr (i:=b) e6) e6) (qt (v:= .agg (aN.cells ay).toArray) 5 rfl (λ _ ⟨_,V⟩=>IB rfl (IJ (cs:=(aN.cells ay)) Tryz.isAgg72 Tryz.sizeOf72 ((V.ro bn).elem aN.len aZ f2))) (qv 6 rfl rfl (qv 7 rfl rfl ?_)))))))
 obtain⟨l,T⟩:=iG (ls:=Z) (i:=b) e9
 have ak:=eY aJ T
 obtain⟨gI,gJ⟩:l.ls.length<=100000000/\s0 (s5 af.abs l.ls)<=100000000:=by first | exact xS f5 (BJ _ _ _) aF ak | exact xS f5 (wI _ _) aF ak
 refine qt (v:= .pointer (some ⟨ab u,ao u+b *1,none⟩)) 8 rfl (λ _ ⟨_,V⟩=>Iz (wE) rfl rfl ((V.rds (i:=1) rfl).addr (i:=b) e6) e6) (qt (v:= .slice l.A l.ls.length l.c) 9 rfl (λ _ ⟨_,V⟩=>IB rfl (bJ.one E1 (((V.rds (i:=1) rfl).elem rC T f2).at_ (k:=0) rfl))) ?_)
 have gK:l.ls.length=s0 (s5 af.abs l.ls):=f1
 obtain⟨d,bf⟩:∃ q,kU ay (s5 af.abs l.ls)=q:=⟨_,rfl⟩
 obtain⟨iR,bV,bW,bX,bY⟩:=Iu d9
 refine qd 10 rfl (IP Tryz.call149 rfl (wL _ _ ay l.A l.ls.length l.c l.ls (s5 af.abs l.ls) d bV (rfl:s5 af.abs l.ls=s5 af.abs l.ls) (bY _ 2 _ rfl (az (List.mem_flatMap.2 ⟨l,D1 T,b1⟩) aW)) (λ x9 W=>⟨bW _ ((Ap f5 T) x9 W).1,((Ap f5 T) x9 W).2⟩) f1 g3 (by first | assumption | omega | exact GH f5 aF f5) bf) ?_)
 rintro _ iT ⟨ah,ai,rfl,bZ⟩
 have bG:=bX _ _ bZ
 have gL:=zr 0 bG
 have bH:=bG.pb [0]
 refine⟨.inr ⟨_,bH⟩, ?_⟩
 obtain⟨aB,U⟩:=iG (ls:=E) (i:=b) e9
 have gM:=eY S U
 refine qt (v:= .pointer (some ⟨ab K,ao K+b *3,none⟩)) 11 rfl (λ _ ⟨_,V⟩=>Iz (rX) rfl rfl ((V.rds (i:=0) rfl).addr (i:=b) e6) e6) ?_
 have ed:=bH.pf [3]
 have ek:=KG (f:=af.own) (i:=b) (row aB.aj.A aB.aj.ls.length aB.aj.c (q4 aH.cells aB.aj.ls) 153 2) rfl U ed
 have eu:=ek.px [] [0] []
 have eB:=eu.pf [4]
 have eD:=Je (f:=af.own) (y:=(af.mk d.dV d.aG (G3 ah ai d.aj.ls))) U eB
 have eF:=eD.pf [1]
 refine qe 12 rfl (Do.storeRow (vs:= [.bool d.dV, .string ⟨List.toArray d.aG⟩, .slice ah d.aj.ls.length ai]) (o:=b *3+0) (q:=ao K+b *3) eF rfl e6 rfl Tryz.sizeOf149 rfl rfl (Lj rfl) (ja af.len U (Lj rfl)) (jJ (y:=(af.mk d.dV d.aG (G3 ah ai d.aj.ls))) af.len rfl (Lj rfl) U) ?_)
 intro iU eG
 have gP:s0 (I3 E b (af.mk d.dV d.aG (G3 ah ai d.aj.ls)))=s0 (I3 r b (aQ.mk d.dV d.aG (E0 d.aj.ls))):=aA (jl S rfl)
 have gQ:s0 (I3 r b (aQ.mk d.dV d.aG (E0 d.aj.ls)))=r.length:=G4
 refine⟨.inl e7, ?_⟩
 refine qn (bN (Iq (Il (fw (vJ (b+1)) (Ir (e:=C3.wrap ((b:Int)+1)) yk f0) (Mz rfl (WL.nil ?_))))))
 have eH:=eG.pb [1]
 exact II (b+1,(I3 E b (af.mk d.dV d.aG (G3 ah ai d.aj.ls))),(I3 r b (aQ.mk d.dV d.aG (E0 d.aj.ls)))) ⟨rfl,rfl,rfl,rfl,rfl,rfl,rfl,trivial⟩ (aj.2 ⟨eH,by exact(jl S rfl),by first | omega | (simp only [G4] <;> omega) | (simp only [H0]),e6,Eq.trans (aX) (Eq.trans (congrArg (λ q=>jY C q b r) bU) (Eq.trans (ae (aT ak)) (ae bf)))⟩) (by show l0.length - (b+1) < l0.length - b; omega)
 refine jF (dF bF) (Wp.exit (IC ?_))
 have cu:jY C l0 0 (r7 l0.length (aQ.mk false [] (E0 [])))=r:=et (aX) (et (congrArg (λ q=>jY C q b r) (dZ (ls:=l0) (i:=b) e6)) rfl)
 refine IC (IK (Iq (Ik ?_)))
 have eO:=aV.pk [0,3]
 refine Il (Mz rfl (Az rfl (An rfl (rt (Fin.res (lH rfl rfl rfl) ?_)))))
 have au:l0.length=r.length:=by first | omega | (simp only [G4]; done) | (simp only [G4,o2,s1,E7,List.length_take,List.length_drop,H0]; omega)
 have eQ:Own w D dY [row K r.length l0.length (q4 af.cells E) 149 3,sepL (q4 af.own E)]:=by rw [<- au]; exact eO
 have eT:=eQ.pf []
 obtain⟨rfl,rfl⟩:=fD (zj hr zq4)
 exact⟨K,l0.length,E,(by first | rfl | (rw [<- au]; done) | (rw [<- au]; rfl)),eT,S⟩
 refine jT (dT bz) (sr (Mz rfl (Az rfl (An rfl (rt (tR (Fin.res (lH rfl rfl rfl) ?_)))))))
 have eU:Own w D dm [sepL (q4 af.own [])]:=dx.sepNil
 have eX:Own w D dm [row none 0 0 (q4 af.cells []) 149 3,sepL (q4 af.own [])]:=eU.free (eP 149 3)
 have eZ:=eX.pf []
 obtain⟨rfl,rfl⟩:=fD (zj hr zq2)
 exact⟨none,0, [],rfl,eZ,rfl⟩
end
open IntKind renaming u64->C7
open List renaming toArray->v6
open Sum renaming inl->B7,inr->B9
open _root_.Go.Proofs.Tryz renaming call112->M2,call139->N5,call158->N1,func158->M3,isAgg111->N4,isAgg128->M1,isAgg227->N2,isAgg231->M5,isAgg28->D2,isAgg3->C2,isAgg38->N0,isAgg4->N6,isAgg72->M8,isAgg9->C0,prog->v5,sizeOf128->M0,sizeOf231->M6,sizeOf244->M4,sizeOf38->M9,sizeOf72->M7,underlying3->v8,underlying72->N3,underlying9->v9
open WL renaming nil->C4
open Wp renaming exit->C5,loop->C1
section
open Go.RowKit
def oJ (a:Int):fT × Bool:=
 if a<=0 then(fT.mk 0 0 (E0 ([])),false) else if a >= 15 then(fT.mk 0 0 (E0 ([])),false) else if((C6 a:Nat):Int)=1 then(fT.mk 2 0 (E0 ([0,1,7])),true) else if((C6 a:Nat):Int)=2 then(fT.mk 0 2 (E0 ([0,1,2,3])),true) else if((C6 a:Nat):Int)=3 then(fT.mk 0 1 (E0 ([4,5,6,7])),true) else if((C6 a:Nat):Int)=4 then(fT.mk 1 0 (E0 ([4,2,3])),true) else if((C6 a:Nat):Int)=5 then(fT.mk 0 1 (E0 ([4,8])),true) else if((C6 a:Nat):Int)=6 then(fT.mk 1 0 (E0 ([4])),true) else if((C6 a:Nat):Int)=7 then(fT.mk 1 0 (E0 ([4])),true) else if((C6 a:Nat):Int)=8 then(fT.mk 0 1 (E0 ([9,6,10,11])),true) else if((C6 a:Nat):Int)=9 then(fT.mk 1 0 (E0 ([9])),true) else if((C6 a:Nat):Int)=10 then(fT.mk 0 1 (E0 ([9,10,12,8,13])),true) else if((C6 a:Nat):Int)=11 then(fT.mk 1 1 (E0 ([10,14,15,13,7])),true) else if((C6 a:Nat):Int)=12 then(fT.mk 1 1 (E0 ([10,14,15])),true) else if((C6 a:Nat):Int)=13 then(fT.mk 1 0 (E0 ([10])),true) else(fT.mk 1 0 (E0 ([10])),true)
theorem xw (w D c) (r0:fT) (r1) (H:Own w D w []) (hr:oJ c=(r0,r1)):
    Calls v5 49 #[vI c] w (dA λ v w'=> ∃ O P,v= .tuple #[.agg #[vI r0.mi,vI r0.o5, .slice O r0.bX.ls.length P], .bool r1]/\Own w D w' [row O r0.bX.ls.length P (q4 (eI .i64) r0.bX.ls) 154 1]/\(r0.bX.ls.length<=5)):=by
 refine cb Tryz.func49 ?_
 refine sr ?_
 refine dn [vI 0,vI 0, .slice none 0 0] 128 H ?_
 intro cu cz bu
 refine Ar rfl ?_
 refine jV [vI 0,vI 1,vI 7] 154 1 3 bu ?_
 intro s cB ag
 replace ag:=IX (y:=row s 3 3 (q4 (eI .i64) ([0,1,7])) 154 1) rfl ag
 refine Kz (.agg #[vI 2,vI 0, .slice s 3 3]) ?_
 refine jV [vI 0,vI 1,vI 2,vI 3] 154 1 4 ag ?_
 intro t cO ah
 replace ah:=IX (y:=row t 4 4 (q4 (eI .i64) ([0,1,2,3])) 154 1) rfl ah
 refine Kz (.agg #[vI 0,vI 2, .slice t 4 4]) ?_
 refine jV [vI 4,vI 5,vI 6,vI 7] 154 1 4 ah ?_
 intro u cZ ai
 replace ai:=IX (y:=row u 4 4 (q4 (eI .i64) ([4,5,6,7])) 154 1) rfl ai
 refine Kz (.agg #[vI 0,vI 1, .slice u 4 4]) ?_
 refine jV [vI 4,vI 2,vI 3] 154 1 3 ai ?_
 intro x dh aj
 replace aj:=IX (y:=row x 3 3 (q4 (eI .i64) ([4,2,3])) 154 1) rfl aj
 refine Kz (.agg #[vI 1,vI 0, .slice x 3 3]) ?_
 refine jV [vI 4,vI 8] 154 1 2 aj ?_
 intro z di ak
 replace ak:=IX (y:=row z 2 2 (q4 (eI .i64) ([4,8])) 154 1) rfl ak
 refine Kz (.agg #[vI 0,vI 1, .slice z 2 2]) ?_
 refine jV [vI 4] 154 1 1 ak ?_
 intro A dm au
 replace au:=IX (y:=row A 1 1 (q4 (eI .i64) ([4])) 154 1) rfl au
 refine Kz (.agg #[vI 1,vI 0, .slice A 1 1]) ?_
 refine jV [vI 4] 154 1 1 au ?_
 intro B dw av
 replace av:=IX (y:=row B 1 1 (q4 (eI .i64) ([4])) 154 1) rfl av
 refine Kz (.agg #[vI 1,vI 0, .slice B 1 1]) ?_
 refine jV [vI 9,vI 6,vI 10,vI 11] 154 1 4 av ?_
 intro C dx ax
 replace ax:=IX (y:=row C 4 4 (q4 (eI .i64) ([9,6,10,11])) 154 1) rfl ax
 refine Kz (.agg #[vI 0,vI 1, .slice C 4 4]) ?_
 refine jV [vI 9] 154 1 1 ax ?_
 intro E dz ay
 replace ay:=IX (y:=row E 1 1 (q4 (eI .i64) ([9])) 154 1) rfl ay
 refine Kz (.agg #[vI 1,vI 0, .slice E 1 1]) ?_
 refine jV [vI 9,vI 10,vI 12,vI 8,vI 13] 154 1 5 ay ?_
 intro F dB az
 replace az:=IX (y:=row F 5 5 (q4 (eI .i64) ([9,10,12,8,13])) 154 1) rfl az
 refine Kz (.agg #[vI 0,vI 1, .slice F 5 5]) ?_
 refine jV [vI 10,vI 14,vI 15,vI 13,vI 7] 154 1 5 az ?_
 intro G dC aA
 replace aA:=IX (y:=row G 5 5 (q4 (eI .i64) ([10,14,15,13,7])) 154 1) rfl aA
 refine Kz (.agg #[vI 1,vI 1, .slice G 5 5]) ?_
 refine jV [vI 10,vI 14,vI 15] 154 1 3 aA ?_
 intro I dD aB
 replace aB:=IX (y:=row I 3 3 (q4 (eI .i64) ([10,14,15])) 154 1) rfl aB
 refine Kz (.agg #[vI 1,vI 1, .slice I 3 3]) ?_
 refine jV [vI 10] 154 1 1 aB ?_
 intro J dE aC
 replace aC:=IX (y:=row J 1 1 (q4 (eI .i64) ([10])) 154 1) rfl aC
 refine Kz (.agg #[vI 1,vI 0, .slice J 1 1]) ?_
 refine jV [vI 10] 154 1 1 aC ?_
 intro K dG aD
 replace aD:=IX (y:=row K 1 1 (q4 (eI .i64) ([10])) 154 1) rfl aD
 refine Kz (.agg #[vI 1,vI 0, .slice K 1 1]) (Kz (.agg #[vI 0,vI 0, .slice none 0 0,vI 2,vI 0, .slice s 3 3,vI 0,vI 2, .slice t 4 4,vI 0,vI 1, .slice u 4 4,vI 1,vI 0, .slice x 3 3,vI 0,vI 1, .slice z 2 2,vI 1,vI 0, .slice A 1 1,vI 1,vI 0, .slice B 1 1,vI 0,vI 1, .slice C 4 4,vI 1,vI 0, .slice E 1 1,vI 0,vI 1, .slice F 5 5,vI 1,vI 1, .slice G 5 5,vI 1,vI 1, .slice I 3 3,vI 1,vI 0, .slice J 1 1,vI 1,vI 0, .slice K 1 1]) ?_)
 refine dn [vI 0,vI 0, .slice none 0 0,vI 0,vI 0, .slice none 0 0,vI 0,vI 0, .slice none 0 0,vI 0,vI 0, .slice none 0 0,vI 0,vI 0, .slice none 0 0,vI 0,vI 0, .slice none 0 0,vI 0,vI 0, .slice none 0 0,vI 0,vI 0, .slice none 0 0,vI 0,vI 0, .slice none 0 0,vI 0,vI 0, .slice none 0 0,vI 0,vI 0, .slice none 0 0,vI 0,vI 0, .slice none 0 0,vI 0,vI 0, .slice none 0 0,vI 0,vI 0, .slice none 0 0,vI 0,vI 0, .slice none 0 0] 155 aD ?_
 intro g dH bv
 refine df [vI 0,vI 0, .slice none 0 0,vI 2,vI 0, .slice s 3 3,vI 0,vI 2, .slice t 4 4,vI 0,vI 1, .slice u 4 4,vI 1,vI 0, .slice x 3 3,vI 0,vI 1, .slice z 2 2,vI 1,vI 0, .slice A 1 1,vI 1,vI 0, .slice B 1 1,vI 0,vI 1, .slice C 4 4,vI 1,vI 0, .slice E 1 1,vI 0,vI 1, .slice F 5 5,vI 1,vI 1, .slice G 5 5,vI 1,vI 1, .slice I 3 3,vI 1,vI 0, .slice J 1 1,vI 1,vI 0, .slice K 1 1] 0 bv Tryz.sizeOf155 ?_
 intro dI a
 refine nt (Ik (sr (Mz rfl (Kz (.bool (decide (c<=0))) (Mz rfl ?_)))))
 by_cases b:c<=0
 refine Sz (dT b) (Sz (dT b) (fw (.bool true) (Iw rfl (dT b) rfl) (nt (jt (sr (Kz (.agg #[vI 0,vI 0, .slice none 0 0]) ?_))))))
 have bz:=a.pf [15]
 refine df [vI 0,vI 0, .slice none 0 0] 0 bz M0 ?_
 intro bA aF
 refine An rfl (rt (tR (Fin.res (jb (vs:= [.agg #[vI 0,vI 0, .slice none 0 0], .bool false]) rfl (cK.cell rfl (IJ (cs:= [vI 0,vI 0, .slice none 0 0]) M1 M0 ((aF.cls (i:=0) rfl).lit (k:=0) (m:=3) rfl)) (cK.tmp rfl cK.nil)) (Lj rfl)) ?_)))
 have bB:Own w D bA (row none 0 0 (q4 (eI .i64) ([])) 154 1::_):=aF.free (eP 154 1)
 have bC:=bB.pk [0]
 obtain⟨rfl,rfl⟩:=fD (zj hr (show _=(fT.mk 0 0 (E0 ([])),false) from ip b))
 exact⟨none,0,rfl,bC,g8⟩
 refine gw (vI c) (dF b) (IA rfl) (Gz (.bool (decide (c >= 15))) (dF b) (fw (.bool (decide (c >= 15))) (Io rfl (dF b) rfl) (nt ?_)))
 by_cases d:c >= 15
 refine jT (dT d) (sr (Kz (.agg #[vI 0,vI 0, .slice none 0 0]) ?_))
 have bD:=a.pf [15]
 refine df [vI 0,vI 0, .slice none 0 0] 0 bD M0 ?_
 intro bE aG
 refine An rfl (rt (tR (Fin.res (jb (vs:= [.agg #[vI 0,vI 0, .slice none 0 0], .bool false]) rfl (cK.cell rfl (IJ (cs:= [vI 0,vI 0, .slice none 0 0]) M1 M0 ((aG.cls (i:=0) rfl).lit (k:=0) (m:=3) rfl)) (cK.tmp rfl cK.nil)) (Lj rfl)) ?_)))
 have bF:Own w D bE (row none 0 0 (q4 (eI .i64) ([])) 154 1::_):=aG.free (eP 154 1)
 have bG:=bF.pk [0]
 obtain⟨rfl,rfl⟩:=fD (zj hr (show _=(fT.mk 0 0 (E0 ([])),false) from et (iN b) (ip d)))
 exact⟨none,0,rfl,bG,g8⟩
 refine jF (dF d) (sk (sr (fw (vJ (C6 c)) (Ir (e:=c) (IA rfl) e6) ?_)))
 by_cases h:((C6 c:Nat):Int)=1
 refine fw (vP g 3) (by(try unfold vJ); rw [show ((C6 c:Nat):Int)=1 from by omega]; exact yk) (La ([vI 2,vI 0, .slice s 3 3]) a 0 M1 M0 ?_)
 have bH:=a.pf [15]
 refine df [vI 2,vI 0, .slice s 3 3] 0 bH M0 ?_
 intro dJ aH
 refine An rfl (rt (Fin.res (jb (vs:= [.agg #[vI 2,vI 0, .slice s 3 3], .bool true]) rfl (cK.cell rfl (IJ (cs:= [vI 2,vI 0, .slice s 3 3]) M1 M0 ((aH.cls (i:=0) rfl).lit (k:=0) (m:=3) rfl)) (cK.tmp rfl cK.nil)) (Lj rfl)) ?_))
 have bI:=aH.pk [15]
 obtain⟨rfl,rfl⟩:=fD (zj hr (show _=(fT.mk 2 0 (E0 ([0,1,7])),true) from et (iN b) (et (iN d) (ip h))))
 exact⟨s,3,rfl,bI,g8⟩
 by_cases l:((C6 c:Nat):Int)=2
 refine fw (vP g 6) (by(try unfold vJ); rw [show ((C6 c:Nat):Int)=2 from by omega]; exact yk) (La ([vI 0,vI 2, .slice t 4 4]) a 0 M1 M0 ?_)
 have bJ:=a.pf [15]
 refine df [vI 0,vI 2, .slice t 4 4] 0 bJ M0 ?_
 intro dK aI
 refine An rfl (rt (Fin.res (jb (vs:= [.agg #[vI 0,vI 2, .slice t 4 4], .bool true]) rfl (cK.cell rfl (IJ (cs:= [vI 0,vI 2, .slice t 4 4]) M1 M0 ((aI.cls (i:=0) rfl).lit (k:=0) (m:=3) rfl)) (cK.tmp rfl cK.nil)) (Lj rfl)) ?_))
 have bK:=aI.pk [14]
 obtain⟨rfl,rfl⟩:=fD (zj hr (show _=(fT.mk 0 2 (E0 ([0,1,2,3])),true) from et (iN b) (et (iN d) (et (iN h) (ip l)))))
 exact⟨t,4,rfl,bK,g8⟩
 by_cases o:((C6 c:Nat):Int)=3
 refine fw (vP g 9) (by(try unfold vJ); rw [show ((C6 c:Nat):Int)=3 from by omega]; exact yk) (La ([vI 0,vI 1, .slice u 4 4]) a 0 M1 M0 ?_)
 have bL:=a.pf [15]
 refine df [vI 0,vI 1, .slice u 4 4] 0 bL M0 ?_
 intro dL aJ
 refine An rfl (rt (Fin.res (jb (vs:= [.agg #[vI 0,vI 1, .slice u 4 4], .bool true]) rfl (cK.cell rfl (IJ (cs:= [vI 0,vI 1, .slice u 4 4]) M1 M0 ((aJ.cls (i:=0) rfl).lit (k:=0) (m:=3) rfl)) (cK.tmp rfl cK.nil)) (Lj rfl)) ?_))
 have bM:=aJ.pk [13]
 obtain⟨rfl,rfl⟩:=fD (zj hr (show _=(fT.mk 0 1 (E0 ([4,5,6,7])),true) from et (iN b) (et (iN d) (et (iN h) (et (iN l) (ip o))))))
 exact⟨u,4,rfl,bM,g8⟩
 by_cases p:((C6 c:Nat):Int)=4
 refine fw (vP g 12) (by(try unfold vJ); rw [show ((C6 c:Nat):Int)=4 from by omega]; exact yk) (La ([vI 1,vI 0, .slice x 3 3]) a 0 M1 M0 ?_)
 have bN:=a.pf [15]
 refine df [vI 1,vI 0, .slice x 3 3] 0 bN M0 ?_
 intro bP Q
 refine An rfl (rt (Fin.res (jb (vs:= [.agg #[vI 1,vI 0, .slice x 3 3], .bool true]) rfl (cK.cell rfl (IJ (cs:= [vI 1,vI 0, .slice x 3 3]) M1 M0 ((Q.cls (i:=0) rfl).lit (k:=0) (m:=3) rfl)) (cK.tmp rfl cK.nil)) (Lj rfl)) ?_))
 have aK:=Q.pk [12]
 obtain⟨rfl,rfl⟩:=fD (zj hr (show _=(fT.mk 1 0 (E0 ([4,2,3])),true) from et (iN b) (et (iN d) (et (iN h) (et (iN l) (et (iN o) (ip p)))))))
 exact⟨x,3,rfl,aK,g8⟩
 by_cases f:((C6 c:Nat):Int)=5
 refine fw (vP g 15) (by(try unfold vJ); rw [show ((C6 c:Nat):Int)=5 from by omega]; exact yk) (La ([vI 0,vI 1, .slice z 2 2]) a 0 M1 M0 ?_)
 have aL:=a.pf [15]
 refine df [vI 0,vI 1, .slice z 2 2] 0 aL M0 ?_
 intro bQ R
 refine An rfl (rt (Fin.res (jb (vs:= [.agg #[vI 0,vI 1, .slice z 2 2], .bool true]) rfl (cK.cell rfl (IJ (cs:= [vI 0,vI 1, .slice z 2 2]) M1 M0 ((R.cls (i:=0) rfl).lit (k:=0) (m:=3) rfl)) (cK.tmp rfl cK.nil)) (Lj rfl)) ?_))
 have aM:=R.pk [11]
 obtain⟨rfl,rfl⟩:=fD (zj hr (show _=(fT.mk 0 1 (E0 ([4,8])),true) from et (iN b) (et (iN d) (et (iN h) (et (iN l) (et (iN o) (et (iN p) (ip f))))))))
 exact⟨z,2,rfl,aM,g8⟩
 by_cases j:((C6 c:Nat):Int)=6
 refine fw (vP g 18) (by(try unfold vJ); rw [show ((C6 c:Nat):Int)=6 from by omega]; exact yk) (La ([vI 1,vI 0, .slice A 1 1]) a 0 M1 M0 ?_)
 have aN:=a.pf [15]
 refine df [vI 1,vI 0, .slice A 1 1] 0 aN M0 ?_
 intro bR S
 refine An rfl (rt (Fin.res (jb (vs:= [.agg #[vI 1,vI 0, .slice A 1 1], .bool true]) rfl (cK.cell rfl (IJ (cs:= [vI 1,vI 0, .slice A 1 1]) M1 M0 ((S.cls (i:=0) rfl).lit (k:=0) (m:=3) rfl)) (cK.tmp rfl cK.nil)) (Lj rfl)) ?_))
 have aO:=S.pk [10]
 obtain⟨rfl,rfl⟩:=fD (zj hr (show _=(fT.mk 1 0 (E0 ([4])),true) from et (iN b) (et (iN d) (et (iN h) (et (iN l) (et (iN o) (et (iN p) (et (iN f) (ip j)))))))))
 exact⟨A,1,rfl,aO,g8⟩
 by_cases n:((C6 c:Nat):Int)=7
 refine fw (vP g 21) (by(try unfold vJ); rw [show ((C6 c:Nat):Int)=7 from by omega]; exact yk) (La ([vI 1,vI 0, .slice B 1 1]) a 0 M1 M0 ?_)
 have aP:=a.pf [15]
 refine df [vI 1,vI 0, .slice B 1 1] 0 aP M0 ?_
 intro bS T
 refine An rfl (rt (Fin.res (jb (vs:= [.agg #[vI 1,vI 0, .slice B 1 1], .bool true]) rfl (cK.cell rfl (IJ (cs:= [vI 1,vI 0, .slice B 1 1]) M1 M0 ((T.cls (i:=0) rfl).lit (k:=0) (m:=3) rfl)) (cK.tmp rfl cK.nil)) (Lj rfl)) ?_))
 have aQ:=T.pk [9]
 obtain⟨rfl,rfl⟩:=fD (zj hr (show _=(fT.mk 1 0 (E0 ([4])),true) from et (iN b) (et (iN d) (et (iN h) (et (iN l) (et (iN o) (et (iN p) (et (iN f) (et (iN j) (ip n))))))))))
 exact⟨B,1,rfl,aQ,g8⟩
 by_cases q:((C6 c:Nat):Int)=8
 refine fw (vP g 24) (by(try unfold vJ); rw [show ((C6 c:Nat):Int)=8 from by omega]; exact yk) (La ([vI 0,vI 1, .slice C 4 4]) a 0 M1 M0 ?_)
 have aR:=a.pf [15]
 refine df [vI 0,vI 1, .slice C 4 4] 0 aR M0 ?_
 intro bT U
 refine An rfl (rt (Fin.res (jb (vs:= [.agg #[vI 0,vI 1, .slice C 4 4], .bool true]) rfl (cK.cell rfl (IJ (cs:= [vI 0,vI 1, .slice C 4 4]) M1 M0 ((U.cls (i:=0) rfl).lit (k:=0) (m:=3) rfl)) (cK.tmp rfl cK.nil)) (Lj rfl)) ?_))
 have aS:=U.pk [8]
 obtain⟨rfl,rfl⟩:=fD (zj hr (show _=(fT.mk 0 1 (E0 ([9,6,10,11])),true) from et (iN b) (et (iN d) (et (iN h) (et (iN l) (et (iN o) (et (iN p) (et (iN f) (et (iN j) (et (iN n) (ip q)))))))))))
 exact⟨C,4,rfl,aS,g8⟩
 by_cases r:((C6 c:Nat):Int)=9
 refine fw (vP g 27) (by(try unfold vJ); rw [show ((C6 c:Nat):Int)=9 from by omega]; exact yk) (La ([vI 1,vI 0, .slice E 1 1]) a 0 M1 M0 ?_)
 have aT:=a.pf [15]
 refine df [vI 1,vI 0, .slice E 1 1] 0 aT M0 ?_
 intro bU V
 refine An rfl (rt (Fin.res (jb (vs:= [.agg #[vI 1,vI 0, .slice E 1 1], .bool true]) rfl (cK.cell rfl (IJ (cs:= [vI 1,vI 0, .slice E 1 1]) M1 M0 ((V.cls (i:=0) rfl).lit (k:=0) (m:=3) rfl)) (cK.tmp rfl cK.nil)) (Lj rfl)) ?_))
 have aU:=V.pk [7]
 obtain⟨rfl,rfl⟩:=fD (zj hr (show _=(fT.mk 1 0 (E0 ([9])),true) from et (iN b) (et (iN d) (et (iN h) (et (iN l) (et (iN o) (et (iN p) (et (iN f) (et (iN j) (et (iN n) (et (iN q) (ip r))))))))))))
 exact⟨E,1,rfl,aU,g8⟩
 by_cases L:((C6 c:Nat):Int)=10
 refine fw (vP g 30) (by(try unfold vJ); rw [show ((C6 c:Nat):Int)=10 from by omega]; exact yk) (La ([vI 0,vI 1, .slice F 5 5]) a 0 M1 M0 ?_)
 have aV:=a.pf [15]
 refine df [vI 0,vI 1, .slice F 5 5] 0 aV M0 ?_
 intro bV W
 refine An rfl (rt (Fin.res (jb (vs:= [.agg #[vI 0,vI 1, .slice F 5 5], .bool true]) rfl (cK.cell rfl (IJ (cs:= [vI 0,vI 1, .slice F 5 5]) M1 M0 ((W.cls (i:=0) rfl).lit (k:=0) (m:=3) rfl)) (cK.tmp rfl cK.nil)) (Lj rfl)) ?_))
 have aW:=W.pk [6]
 obtain⟨rfl,rfl⟩:=fD (zj hr (show _=(fT.mk 0 1 (E0 ([9,10,12,8,13])),true) from et (iN b) (et (iN d) (et (iN h) (et (iN l) (et (iN o) (et (iN p) (et (iN f) (et (iN j) (et (iN n) (et (iN q) (et (iN r) (ip L)))))))))))))
 exact⟨F,5,rfl,aW,g8⟩
 by_cases M:((C6 c:Nat):Int)=11
 refine fw (vP g 33) (by(try unfold vJ); rw [show ((C6 c:Nat):Int)=11 from by omega]; exact yk) (La ([vI 1,vI 1, .slice G 5 5]) a 0 M1 M0 ?_)
 have aX:=a.pf [15]
 refine df [vI 1,vI 1, .slice G 5 5] 0 aX M0 ?_
 intro bW X
 refine An rfl (rt (Fin.res (jb (vs:= [.agg #[vI 1,vI 1, .slice G 5 5], .bool true]) rfl (cK.cell rfl (IJ (cs:= [vI 1,vI 1, .slice G 5 5]) M1 M0 ((X.cls (i:=0) rfl).lit (k:=0) (m:=3) rfl)) (cK.tmp rfl cK.nil)) (Lj rfl)) ?_))
 have aY:=X.pk [5]
 obtain⟨rfl,rfl⟩:=fD (zj hr (show _=(fT.mk 1 1 (E0 ([10,14,15,13,7])),true) from et (iN b) (et (iN d) (et (iN h) (et (iN l) (et (iN o) (et (iN p) (et (iN f) (et (iN j) (et (iN n) (et (iN q) (et (iN r) (et (iN L) (ip M))))))))))))))
 exact⟨G,5,rfl,aY,g8⟩
 by_cases N:((C6 c:Nat):Int)=12
 refine fw (vP g 36) (by(try unfold vJ); rw [show ((C6 c:Nat):Int)=12 from by omega]; exact yk) (La ([vI 1,vI 1, .slice I 3 3]) a 0 M1 M0 ?_)
 have aZ:=a.pf [15]
 refine df [vI 1,vI 1, .slice I 3 3] 0 aZ M0 ?_
 intro bX Y
 refine An rfl (rt (Fin.res (jb (vs:= [.agg #[vI 1,vI 1, .slice I 3 3], .bool true]) rfl (cK.cell rfl (IJ (cs:= [vI 1,vI 1, .slice I 3 3]) M1 M0 ((Y.cls (i:=0) rfl).lit (k:=0) (m:=3) rfl)) (cK.tmp rfl cK.nil)) (Lj rfl)) ?_))
 have bf:=Y.pk [4]
 obtain⟨rfl,rfl⟩:=fD (zj hr (show _=(fT.mk 1 1 (E0 ([10,14,15])),true) from et (iN b) (et (iN d) (et (iN h) (et (iN l) (et (iN o) (et (iN p) (et (iN f) (et (iN j) (et (iN n) (et (iN q) (et (iN r) (et (iN L) (et (iN M) (ip N)))))))))))))))
 exact⟨I,3,rfl,bf,g8⟩
 by_cases Z:((C6 c:Nat):Int)=13
 refine fw (vP g 39) (by(try unfold vJ); rw [show ((C6 c:Nat):Int)=13 from by omega]; exact yk) (La ([vI 1,vI 0, .slice J 1 1]) a 0 M1 M0 ?_)
 have bg:=a.pf [15]
 refine df [vI 1,vI 0, .slice J 1 1] 0 bg M0 ?_
 intro bY aa
 refine An rfl (rt (Fin.res (jb (vs:= [.agg #[vI 1,vI 0, .slice J 1 1], .bool true]) rfl (cK.cell rfl (IJ (cs:= [vI 1,vI 0, .slice J 1 1]) M1 M0 ((aa.cls (i:=0) rfl).lit (k:=0) (m:=3) rfl)) (cK.tmp rfl cK.nil)) (Lj rfl)) ?_))
 have bi:=aa.pk [3]
 obtain⟨rfl,rfl⟩:=fD (zj hr (show _=(fT.mk 1 0 (E0 ([10])),true) from et (iN b) (et (iN d) (et (iN h) (et (iN l) (et (iN o) (et (iN p) (et (iN f) (et (iN j) (et (iN n) (et (iN q) (et (iN r) (et (iN L) (et (iN M) (et (iN N) (ip Z))))))))))))))))
 exact⟨J,1,rfl,bi,g8⟩
 refine fw (vP g 42) (by(try unfold vJ); rw [show ((C6 c:Nat):Int)=14 from by omega]; exact yk) (La ([vI 1,vI 0, .slice K 1 1]) a 0 M1 M0 ?_)
 have bn:=a.pf [15]
 refine df [vI 1,vI 0, .slice K 1 1] 0 bn M0 ?_
 intro bZ ae
 refine An rfl (rt (Fin.res (jb (vs:= [.agg #[vI 1,vI 0, .slice K 1 1], .bool true]) rfl (cK.cell rfl (IJ (cs:= [vI 1,vI 0, .slice K 1 1]) M1 M0 ((ae.cls (i:=0) rfl).lit (k:=0) (m:=3) rfl)) (cK.tmp rfl cK.nil)) (Lj rfl)) ?_))
 have bq:=ae.pk [2]
 obtain⟨rfl,rfl⟩:=fD (zj hr (show _=(fT.mk 1 0 (E0 ([10])),true) from et (iN b) (et (iN d) (et (iN h) (et (iN l) (et (iN o) (et (iN p) (et (iN f) (et (iN j) (et (iN n) (et (iN q) (et (iN r) (et (iN L) (et (iN M) (et (iN N) (iN Z))))))))))))))))
 exact⟨K,1,rfl,bq,g8⟩
def tJ (b:Int) (a:Int):Bool:=
 if b=2 then if a=1 then true else decide (a=2) else if a=3 then true else if a=4 then true else decide (a=5)
theorem xV (w D f b l) (H:Own w D w []) (hr:tJ f b=l):
    Calls v5 113 #[vI f,vI b] w (dA λ v w'=>v= .bool l/\Own w D w' []):=by
 refine cb Tryz.func113 ?_
 refine sr (An rfl (Ik (sr (Mz rfl (Kz (.bool (decide (f=2))) (nt ?_))))))
 by_cases e:f=2
 refine jT (dT e) (sr (Mz rfl (Kz (.bool (decide (b=1))) (Mz rfl ?_))))
 by_cases c:b=1
 refine Sz (dT c) (Sz (dT c) (fw (.bool true) (Iw rfl (dT c) rfl) (An rfl (rt (tR (rs ?_))))))
 have g:=H.pk []
 obtain rfl:_=true:=zj hr (et (ip e) (ip c))
 exact⟨rfl,g⟩
 refine gw (vI b) (dF c) (IA rfl) (Gz (.bool (decide (b=2))) (dF c) (fw (.bool (decide (b=2))) (Io rfl (dF c) rfl) (An rfl (rt (tR (rs ?_))))))
 have h:=H.pk []
 obtain rfl:_=decide (b=2):=zj hr (et (ip e) (iN c))
 exact⟨rfl,h⟩
 refine jF (dF e) (sk (sr (Mz rfl (Kz (.bool (decide (b=3))) (Mz rfl ?_)))))
 by_cases a:b=3
 refine Sz (dT a) (Sz (dT a) (fw (.bool true) (Iw rfl (dT a) rfl) (Mz rfl (Sz rfl (Sz rfl (fw (.bool true) (Iw rfl rfl rfl) (An rfl (rt (rs ?_)))))))))
 have i:=H.pk []
 obtain rfl:_=true:=zj hr (et (iN e) (ip a))
 exact⟨rfl,i⟩
 refine gw (vI b) (dF a) (IA rfl) (Gz (.bool (decide (b=4))) (dF a) (fw (.bool (decide (b=4))) (Io rfl (dF a) rfl) (Mz rfl ?_)))
 by_cases d:b=4
 refine Sz (dT d) (Sz (dT d) (fw (.bool true) (Iw rfl (dT d) rfl) (An rfl (rt (rs ?_)))))
 have j:=H.pk []
 obtain rfl:_=true:=zj hr (et (iN e) (et (iN a) (ip d)))
 exact⟨rfl,j⟩
 refine gw (vI b) (dF d) (IA rfl) (Gz (.bool (decide (b=5))) (dF d) (fw (.bool (decide (b=5))) (Io rfl (dF d) rfl) (An rfl (rt (rs ?_)))))
 have k:=H.pk []
 obtain rfl:_=decide (b=5):=zj hr (et (iN e) (et (iN a) (iN d)))
 exact⟨rfl,k⟩
def gY:List aH->Unit ⊕ Bool
  | []=>B7 ()
  | a::c=>bnd (dR a.aZ) λ b=>if b=0 then if((a.aG.length:Nat):Int) > 16 then B9 (false) else gY c else B9 (false)
def gI:List aQ->Unit ⊕ Bool
  | []=>B7 ()
  | a::b=>if((a.aG.length:Nat):Int) > 16 then B9 (false) else if((a.aj.ls.length:Nat):Int) > 4 then B9 (false) else sW (gY a.aj.ls) λ _=>gI b
def oW (a:Int) (l1:List aQ):Bool:=
 bnd (if a=2 then 4 else 24) λ sJrJ=>if((l1.length:Nat):Int) > ((sJrJ:Nat):Int) then false else lp (gI l1) λ _=>true
theorem vT (w D S r n1 Q d1 l1 r0) (H:Own w D w []) (T:s5 af.abs d1=l1) (R:Ro w D λ w'=>aY w' 3 r n1 (q4 af.cells d1)) (J:∀ x ∈ d1,Ro w D (λ w'=>aY w' 2 x.aj.A x.aj.ls.length (q4 aH.cells x.aj.ls))/\(x.aj.ls.length<=x.aj.c/\x.aj.ls.length<=9223372036854775807)) (aB:n1=l1.length) (bv:l1.length<=9223372036854775807) (hr:oW S l1=r0):
    Calls v5 114 #[vI S, .slice r n1 Q] w (dA λ v w'=>v= .bool r0/\Own w D w' []):=by
 subst aB
 have aW:=aA T
 refine cb Tryz.func114 ?_
 refine sr (Ar rfl (An rfl (Ik (sr (Mz rfl (Kz (.bool (decide (S=2))) (nt ?_)))))))
 obtain⟨aC,B⟩:=lF λ (n:Nat) w'=>Own w D w' []/\n<=9223372036854775807/\n >= 4/\n<=24/\(if S=2 then 4 else 24)=n
 refine Jg (λ i:Nat=> [(5,vJ i),(4, .bool false),(1, .slice r l1.length Q)]) aC ?_ ?_
 by_cases K:S=2
 refine jT (dT K) (Il (Az rfl (C4 ?_)))
 have aD:=H.pk []
 exact I8 4 ⟨rfl,rfl,rfl,trivial⟩ (B.2 ⟨aD,e6,e6,e6,ip K⟩)
 refine jF (dF K) (IU ?_)
 have aF:=H.pk []
 exact I8 24 ⟨rfl,rfl,rfl,trivial⟩ (B.2 ⟨aF,e6,e6,e6,iN K⟩)
 rintro n bz U
 obtain⟨V,aX,aZ,bf,k⟩:=B.1 U
 refine Ik (sr (Mz rfl (Kz (vJ l1.length) (Mz rfl (Kz (.bool (decide (((l1.length:Nat):Int) > ((n:Nat):Int)))) (nt ?_))))))
 by_cases o:((l1.length:Nat):Int) > ((n:Nat):Int)
 refine jT (dT o) (sr (An rfl (rt (tR (rs ?_)))))
 have aG:=V.pk []
 obtain rfl:_=false:=zj hr (et (ae k) (ip o))
 exact⟨rfl,aG⟩
 refine jF (dF o) (sk (Ik (sr (Mz rfl (Kz (vJ l1.length) (Mn rfl (bo ?_)))))))
 have aI:=V.pk []
 obtain⟨aJ,C⟩:=lF λ (b:Nat) w'=>Own w D w' []/\b<=l1.length/\gI l1=gI (r4 b l1)
 refine C1 (λ i:Nat=> [(4, .bool false),(18,vJ i),(17,vJ l1.length),(16, .slice r l1.length Q)]) aJ (λ i=>l1.length - i) 0 ⟨rfl,rfl,rfl,rfl,trivial⟩ (C.2 ⟨aI,e6,rfl⟩) ?_
 rintro b bA W
 obtain⟨E,bg,l⟩:=C.1 W
 refine sr (Kz (.bool (decide (((b:Nat):Int) < ((l1.length:Nat):Int)))) (nt (Ik ?_)))
 by_cases X:((b:Nat):Int) < ((l1.length:Nat):Int)
 obtain⟨a,m⟩:=dh (ls:=d1) (i:=b) af.len f2 (E.ro R) e9
 have Y:=eY T m
 have bi:=(J _ (D1 m)).2
 have p:=drop_at Y
 refine jT (dT X) (sk (Ik (bo (sr (fw (.pointer (some ⟨ab r,ao r+b *3,none⟩)) (Iz (rX) rfl rfl ((E.ro R).addr (i:=b) e6) e6) (fw (.agg (af.cells a).toArray) (IB rfl (IJ (cs:=(af.cells a)) Tryz.isAgg149 Tryz.sizeOf149 ((E.ro R).elem af.len m f2))) ?_))))))
 refine dn [.bool false, .string ⟨v6 ([])⟩, .slice none 0 0] 149 E ?_
 intro j bB aK
 refine df (af.cells a) 0 aK Tryz.sizeOf149 ?_
 intro bC u
 refine nt (Ik (sr (Kz (vP j 1) (Lz (.string ⟨v6 a.aG⟩) u 0 C0 (Kz (vJ a.aG.length) (Kz (.bool (decide (((a.aG.length:Nat):Int) > 16))) (Mz rfl ?_)))))))
 by_cases d:((a.aG.length:Nat):Int) > 16
 refine Sz (dT d) (Sz (dT d) (Sz (dT d) (Sz (dT d) (fw (.bool true) (Iw rfl (dT d) rfl) (nt (jt (sr (An rfl (rt (tR (bR (tR (tR (bR (tR (rs ?_))))))))))))))))
 have aL:=u.pk []
 obtain rfl:_=false:=zj hr (et (ae k) (et (iN o) (gL (et (l) (et (congrArg (λ q=>gI q) p) (ip d))))))
 exact⟨rfl,aL⟩
 refine Gz (vP j 2) (dF d) (Gl (.slice a.aj.A a.aj.ls.length a.aj.c) (dF d) u 0 Tryz.isAgg147 (Gz (vJ a.aj.ls.length) (dF d) (Gz (.bool (decide (((a.aj.ls.length:Nat):Int) > 4))) (dF d) (fw (.bool (decide (((a.aj.ls.length:Nat):Int) > 4))) (Io rfl (dF d) rfl) (nt ?_)))))
 by_cases y:((a.aj.ls.length:Nat):Int) > 4
 refine jT (dT y) (sr (An rfl (rt (tR (bR (tR (tR (bR (tR (rs ?_))))))))))
 have aM:=u.pk []
 obtain rfl:_=false:=zj hr (et (ae k) (et (iN o) (gL (et (l) (et (congrArg (λ q=>gI q) p) (et (iN d) (ip y)))))))
 exact⟨rfl,aM⟩
 refine jF (dF y) (sk (sr (Kz (vP j 2) (Lz (.slice a.aj.A a.aj.ls.length a.aj.c) u 0 Tryz.isAgg147 (Kz (vJ a.aj.ls.length) (Mn rfl (bo ?_)))))))
 have aN:=u.pf []
 obtain⟨aO,F⟩:=lF λ (f:Nat) w'=>Own w D w' [blk j (af.cells a) 149]/\f<=a.aj.ls.length/\gY a.aj.ls=gY (r4 f a.aj.ls)
 refine C1 (λ i:Nat=> [(4, .bool false),(35,vJ i),(34,vJ a.aj.ls.length),(33, .slice a.aj.A a.aj.ls.length a.aj.c),(32,vP j 2),(31, .bool (decide (((a.aj.ls.length:Nat):Int) > 4))),(30, .bool (decide (((a.aj.ls.length:Nat):Int) > 4))),(29,vJ a.aj.ls.length),(28, .slice a.aj.A a.aj.ls.length a.aj.c),(27,vP j 2),(26, .bool (decide (((a.aG.length:Nat):Int) > 16))),(25, .bool (decide (((a.aG.length:Nat):Int) > 16))),(24,vJ a.aG.length),(23, .string ⟨v6 a.aG⟩),(22,vP j 1),(7,vP j 0),(21, .agg (af.cells a).toArray),(20, .pointer (some ⟨ab r,ao r+b *3,none⟩)),(19, .bool (decide (((b:Nat):Int) < ((l1.length:Nat):Int)))),(18,vJ b),(17,vJ l1.length),(16, .slice r l1.length Q)]) aO (λ i=>a.aj.ls.length - i) 0 ⟨rfl,rfl,rfl,rfl,rfl,rfl,rfl,rfl,rfl,rfl,rfl,rfl,rfl,rfl,rfl,rfl,rfl,rfl,rfl,rfl,rfl,rfl,trivial⟩ (F.2 ⟨aN,e6,rfl⟩) ?_
 rintro f bD Z
 obtain⟨G,bn,s⟩:=F.1 Z
 refine sr (Kz (.bool (decide (((f:Nat):Int) < ((a.aj.ls.length:Nat):Int)))) (nt (Ik ?_)))
 by_cases aa:((f:Nat):Int) < ((a.aj.ls.length:Nat):Int)
 obtain⟨g,N⟩:=dh (ls:=a.aj.ls) (i:=f) aH.len f2 (G.ro (J _ (D1 m)).1) e9
 have I:=drop_at N
 refine jT (dT aa) (sk (Ik (bo (sr (fw (.pointer (some ⟨ab a.aj.A,ao a.aj.A+f *2,none⟩)) (Iz (jL) rfl rfl ((G.ro (J _ (D1 m)).1).addr (i:=f) e6) e6) (fw (.agg (aH.cells g).toArray) (IB rfl (IJ (cs:=(aH.cells g)) Tryz.isAgg153 Tryz.sizeOf153 ((G.ro (J _ (D1 m)).1).elem aH.len N f2))) ?_))))))
 refine dn [.string ⟨v6 ([])⟩, .string ⟨v6 ([])⟩] 153 G ?_
 intro ag bE aP
 refine df (aH.cells g) 0 aP Tryz.sizeOf153 ?_
 intro bF ah
 refine ns (Kz (vP ag 0) (Lz (.string ⟨v6 g.aZ⟩) ah 0 C0 ?_))
 obtain⟨z,t⟩:∃ q,dR g.aZ=q:=⟨_,rfl⟩
 obtain⟨bG,ai,bq,aj,bu⟩:=Iu ah
 refine cl M2 (j4 _ _ g.aZ z ai t) ?_
 rintro _ bH ⟨rfl,ak,O,P⟩
 have L:=aj _ _ ak
 replace O: ¬ (z=0)\/(1<=g.aZ.length/\g.aZ.length<=12):=O
 replace P:g.aZ.length < 1\/g.aZ.length > 12\/z=0:=P
 refine fw (.bool (decide (¬ (z=0)))) (IM (e:= !(decide (z=0))) yk decide_not.symm) (Mz rfl ?_)
 by_cases h:z=0
 refine gw (vP ag 1) (dF (Lr h)) yk (gw (.string ⟨v6 g.aG⟩) (dF (Lr h)) (IB rfl (bJ.one C0 (I1 (L.cls (i:=0) rfl) rfl))) (gw (vJ g.aG.length) (dF (Lr h)) yk (gw (.bool (decide (((g.aG.length:Nat):Int) > 16))) (dF (Lr h)) yk (fw (.bool (decide (((g.aG.length:Nat):Int) > 16))) (Io rfl (dF (Lr h)) rfl) (nt ?_)))))
 by_cases M:((g.aG.length:Nat):Int) > 16
 refine jT (dT M) (sr (An rfl (rt (bR (tR (tR (bR (bR (tR (tR (bR (tR (rs ?_)))))))))))))
 have aR:=L.pk []
 obtain rfl:_=false:=zj hr (et (ae k) (et (iN o) (gL (et (l) (et (congrArg (λ q=>gI q) p) (et (iN d) (et (iN y) (oU (et (s) (et (congrArg (λ q=>gY q) I) (et (ae t) (et (ip h) (ip M)))))))))))))
 exact⟨rfl,aR⟩
 refine jF (dF M) (IU (bN (Iq (Il (fw (vJ (f+1)) (Ir (e:=C3.wrap (((f:Nat):Int)+1)) yk f0) (Mz rfl (C4 ?_)))))))
 have aS:=L.pk [1]
 exact II (f+1) ⟨rfl,rfl,rfl,rfl,rfl,rfl,rfl,rfl,rfl,rfl,rfl,rfl,rfl,rfl,rfl,rfl,rfl,rfl,rfl,rfl,rfl,rfl,trivial⟩ (F.2 ⟨aS,e6,et (s) (et (congrArg (λ q=>gY q) I) (et (ae t) (et (ip h) (iN M))))⟩) (by show a.aj.ls.length - (f+1) < a.aj.ls.length - f; omega)
 refine Sz (dT h) (Sz (dT h) (Sz (dT h) (Sz (dT h) (fw (.bool true) (Iw rfl (dT h) rfl) (nt (jt (sr (An rfl (rt (bR (tR (tR (bR (bR (tR (tR (bR (tR (rs ?_)))))))))))))))))))
 have aT:=L.pk []
 obtain rfl:_=false:=zj hr (et (ae k) (et (iN o) (gL (et (l) (et (congrArg (λ q=>gI q) p) (et (iN d) (et (iN y) (oU (et (s) (et (congrArg (λ q=>gY q) I) (et (ae t) (iN h))))))))))))
 exact⟨rfl,aT⟩
 refine jF (dF aa) (C5 (IC ?_))
 have au:gY a.aj.ls=B7 ():=et (s) (et (congrArg (λ q=>gY q) (dZ (ls:=a.aj.ls) (i:=f) e6)) rfl)
 refine IC (IK (bN (Iq (Il (fw (vJ (b+1)) (Ir (e:=C3.wrap (((b:Nat):Int)+1)) yk f0) (Mz rfl (C4 ?_)))))))
 have aU:=G.pk []
 exact II (b+1) ⟨rfl,rfl,rfl,rfl,trivial⟩ (C.2 ⟨aU,e6,et (l) (et (congrArg (λ q=>gI q) p) (et (iN d) (et (iN y) (sH au))))⟩) (by show l1.length - (b+1) < l1.length - b; omega)
 refine jF (dF X) (C5 (IC ?_))
 have av:gI l1=B7 ():=et (l) (et (congrArg (λ q=>gI q) (dZ (ls:=l1) (i:=b) e6)) rfl)
 refine IC (IK (Iq (sr (An rfl (rt (rs ?_))))))
 have ax:=E.pk []
 obtain rfl:_=true:=zj hr (et (ae k) (et (iN o) (mF av)))
 exact⟨rfl,ax⟩
theorem uA (w D j) (H:Own w D w []) (c:j=1):
    Calls v5 158 #[vI j] w (dA λ v w'=>v= .tuple #[.agg #[.bool false, .func (.func 172) #[] #[], .func (.func 173) #[] #[], .func (.func 174) #[] #[], .func (.func 175) #[] #[]], .bool true]/\Own w D w' []):=by
 subst c
 refine cb M3 ?_
 refine sr ?_
 refine dn [.bool false, .nilFunc, .nilFunc, .nilFunc, .nilFunc] 231 H ?_
 intro l n d
 refine Ar rfl (Kz (.agg #[.bool false, .func (.func 172) #[] #[], .func (.func 173) #[] #[], .func (.func 174) #[] #[], .func (.func 175) #[] #[]]) (Kz (.agg #[.bool true, .func (.func 176) #[] #[], .func (.func 177) #[] #[], .func (.func 174) #[] #[], .func (.func 178) #[] #[]]) (Kz (.agg #[.bool true, .func (.func 172) #[] #[], .func (.func 173) #[] #[], .func (.func 174) #[] #[], .func (.func 179) #[] #[]]) (Kz (.agg #[.bool false, .func (.func 180) #[] #[], .func (.func 181) #[] #[], .func (.func 182) #[] #[], .func (.func 183) #[] #[]]) (Kz (.agg #[.bool true, .func (.func 184) #[] #[], .func (.func 185) #[] #[], .func (.func 182) #[] #[], .func (.func 186) #[] #[]]) (Kz (.agg #[.bool false, .nilFunc, .nilFunc, .nilFunc, .nilFunc, .bool false, .func (.func 172) #[] #[], .func (.func 173) #[] #[], .func (.func 174) #[] #[], .func (.func 175) #[] #[], .bool true, .func (.func 176) #[] #[], .func (.func 177) #[] #[], .func (.func 174) #[] #[], .func (.func 178) #[] #[], .bool true, .func (.func 172) #[] #[], .func (.func 173) #[] #[], .func (.func 174) #[] #[], .func (.func 179) #[] #[], .bool false, .func (.func 180) #[] #[], .func (.func 181) #[] #[], .func (.func 182) #[] #[], .func (.func 183) #[] #[], .bool true, .func (.func 184) #[] #[], .func (.func 185) #[] #[], .func (.func 182) #[] #[], .func (.func 186) #[] #[]]) ?_))))))
 refine dn [.bool false, .nilFunc, .nilFunc, .nilFunc, .nilFunc, .bool false, .nilFunc, .nilFunc, .nilFunc, .nilFunc, .bool false, .nilFunc, .nilFunc, .nilFunc, .nilFunc, .bool false, .nilFunc, .nilFunc, .nilFunc, .nilFunc, .bool false, .nilFunc, .nilFunc, .nilFunc, .nilFunc, .bool false, .nilFunc, .nilFunc, .nilFunc, .nilFunc] 244 d ?_
 intro e o f
 refine df [.bool false, .nilFunc, .nilFunc, .nilFunc, .nilFunc, .bool false, .func (.func 172) #[] #[], .func (.func 173) #[] #[], .func (.func 174) #[] #[], .func (.func 175) #[] #[], .bool true, .func (.func 176) #[] #[], .func (.func 177) #[] #[], .func (.func 174) #[] #[], .func (.func 178) #[] #[], .bool true, .func (.func 172) #[] #[], .func (.func 173) #[] #[], .func (.func 174) #[] #[], .func (.func 179) #[] #[], .bool false, .func (.func 180) #[] #[], .func (.func 181) #[] #[], .func (.func 182) #[] #[], .func (.func 183) #[] #[], .bool true, .func (.func 184) #[] #[], .func (.func 185) #[] #[], .func (.func 182) #[] #[], .func (.func 186) #[] #[]] 0 f M4 ?_
 intro p a
 refine nt (Ik (sr (Mz rfl (Kz (.bool false) (Mz rfl (gw (vI 1) rfl (IA rfl) (Gz (.bool false) rfl (fw (.bool false) (Io rfl rfl rfl) (nt (jf (sk (sr (Mz rfl (Kz (vP e 5) (La ([.bool false, .func (.func 172) #[] #[], .func (.func 173) #[] #[], .func (.func 174) #[] #[], .func (.func 175) #[] #[]]) a 0 M5 M6 ?_)))))))))))))))
 have g:=a.pb [0]
 refine df [.bool false, .func (.func 172) #[] #[], .func (.func 173) #[] #[], .func (.func 174) #[] #[], .func (.func 175) #[] #[]] 0 g M6 ?_
 intro q b
 refine An rfl (rt (Fin.res (jb (vs:= [.agg #[.bool false, .func (.func 172) #[] #[], .func (.func 173) #[] #[], .func (.func 174) #[] #[], .func (.func 175) #[] #[]], .bool true]) rfl (cK.cell rfl (IJ (cs:= [.bool false, .func (.func 172) #[] #[], .func (.func 173) #[] #[], .func (.func 174) #[] #[], .func (.func 175) #[] #[]]) M5 M6 ((b.cls (i:=0) rfl).lit (k:=0) (m:=5) rfl)) (cK.tmp rfl cK.nil)) (Lj rfl)) ?_))
 have h:=b.pk []
 exact⟨rfl,h⟩
def pz (a:aN):aN:=
 aN.mk a.av a.aZ ([]) ([]) ([]) 0
theorem vV (w D) (a:aN) (g:aN) (H:Own w D w []) (hr:pz a=g):
    Calls v5 172 #[.agg (aN.cells a).toArray] w (dA λ v w'=>v= .agg (aN.cells g).toArray/\Own w D w' []):=by
 refine cb Tryz.func172 ?_
 refine sr ?_
 refine dn (aN.cells a) 72 H ?_
 intro c h e
 refine dn [vI 0, .string ⟨v6 ([])⟩, .string ⟨v6 ([])⟩, .string ⟨v6 ([])⟩, .string ⟨v6 ([])⟩,vI 0] 72 e ?_
 intro j l b
 refine ns (Kz (vP c 0) (Lz (vI a.av) b 1 C2 (Kz (vP c 1) (Lz (.string ⟨v6 a.aZ⟩) b 1 C0 (Kz (.agg #[vI a.av, .string ⟨v6 a.aZ⟩, .string ⟨v6 ([])⟩, .string ⟨v6 ([])⟩, .string ⟨v6 ([])⟩,vI 0]) ?_)))))
 refine df [vI a.av, .string ⟨v6 a.aZ⟩, .string ⟨v6 ([])⟩, .string ⟨v6 ([])⟩, .string ⟨v6 ([])⟩,vI 0] 0 b M7 ?_
 intro n d
 refine nt (rt (Fin.res (oo rfl rfl (IJ (cs:= [vI a.av, .string ⟨v6 a.aZ⟩, .string ⟨v6 ([])⟩, .string ⟨v6 ([])⟩, .string ⟨v6 ([])⟩,vI 0]) M8 M7 ((d.cls (i:=0) rfl).lit (k:=0) (m:=6) rfl))) ?_))
 have f:=d.pk []
 obtain rfl:_=aN.mk a.av a.aZ ([]) ([]) ([]) 0:=zj hr rfl
 exact⟨rfl,f⟩
def nG (b:aN):Int:=
 bnd (dR b.aZ) λ a=>a
theorem uB (w D) (a:aN) (m) (H:Own w D w []) (hr:nG a=m):
    Calls v5 173 #[.agg (aN.cells a).toArray] w (dA λ v w'=>v=vI m/\Own w D w' []):=by
 refine cb Tryz.func173 ?_
 refine sr ?_
 refine dn (aN.cells a) 72 H ?_
 intro j p f
 refine Ar rfl (Kz (vP j 1) (Lz (.string ⟨v6 a.aZ⟩) f 0 C0 ?_))
 obtain⟨b,c⟩:∃ q,dR a.aZ=q:=⟨_,rfl⟩
 obtain⟨r,g,n,h,o⟩:=Iu f
 refine cl M2 (j4 _ _ a.aZ b g c) ?_
 rintro _ s ⟨rfl,i,d,e⟩
 have k:=h _ _ i
 replace d: ¬ (b=0)\/(1<=a.aZ.length/\a.aZ.length<=12):=d
 replace e:a.aZ.length < 1\/a.aZ.length > 12\/b=0:=e
 refine An rfl (rt (rs ?_))
 have l:=k.pk []
 obtain rfl:_=b:=zj hr (ae c)
 exact⟨rfl,l⟩
theorem uC (w D j) (H:Own w D w []) (c:j=2):
    Calls v5 158 #[vI j] w (dA λ v w'=>v= .tuple #[.agg #[.bool true, .func (.func 176) #[] #[], .func (.func 177) #[] #[], .func (.func 174) #[] #[], .func (.func 178) #[] #[]], .bool true]/\Own w D w' []):=by
 subst c
 refine cb M3 ?_
 refine sr ?_
 refine dn [.bool false, .nilFunc, .nilFunc, .nilFunc, .nilFunc] 231 H ?_
 intro l n d
 refine Ar rfl (Kz (.agg #[.bool false, .func (.func 172) #[] #[], .func (.func 173) #[] #[], .func (.func 174) #[] #[], .func (.func 175) #[] #[]]) (Kz (.agg #[.bool true, .func (.func 176) #[] #[], .func (.func 177) #[] #[], .func (.func 174) #[] #[], .func (.func 178) #[] #[]]) (Kz (.agg #[.bool true, .func (.func 172) #[] #[], .func (.func 173) #[] #[], .func (.func 174) #[] #[], .func (.func 179) #[] #[]]) (Kz (.agg #[.bool false, .func (.func 180) #[] #[], .func (.func 181) #[] #[], .func (.func 182) #[] #[], .func (.func 183) #[] #[]]) (Kz (.agg #[.bool true, .func (.func 184) #[] #[], .func (.func 185) #[] #[], .func (.func 182) #[] #[], .func (.func 186) #[] #[]]) (Kz (.agg #[.bool false, .nilFunc, .nilFunc, .nilFunc, .nilFunc, .bool false, .func (.func 172) #[] #[], .func (.func 173) #[] #[], .func (.func 174) #[] #[], .func (.func 175) #[] #[], .bool true, .func (.func 176) #[] #[], .func (.func 177) #[] #[], .func (.func 174) #[] #[], .func (.func 178) #[] #[], .bool true, .func (.func 172) #[] #[], .func (.func 173) #[] #[], .func (.func 174) #[] #[], .func (.func 179) #[] #[], .bool false, .func (.func 180) #[] #[], .func (.func 181) #[] #[], .func (.func 182) #[] #[], .func (.func 183) #[] #[], .bool true, .func (.func 184) #[] #[], .func (.func 185) #[] #[], .func (.func 182) #[] #[], .func (.func 186) #[] #[]]) ?_))))))
 refine dn [.bool false, .nilFunc, .nilFunc, .nilFunc, .nilFunc, .bool false, .nilFunc, .nilFunc, .nilFunc, .nilFunc, .bool false, .nilFunc, .nilFunc, .nilFunc, .nilFunc, .bool false, .nilFunc, .nilFunc, .nilFunc, .nilFunc, .bool false, .nilFunc, .nilFunc, .nilFunc, .nilFunc, .bool false, .nilFunc, .nilFunc, .nilFunc, .nilFunc] 244 d ?_
 intro e o f
 refine df [.bool false, .nilFunc, .nilFunc, .nilFunc, .nilFunc, .bool false, .func (.func 172) #[] #[], .func (.func 173) #[] #[], .func (.func 174) #[] #[], .func (.func 175) #[] #[], .bool true, .func (.func 176) #[] #[], .func (.func 177) #[] #[], .func (.func 174) #[] #[], .func (.func 178) #[] #[], .bool true, .func (.func 172) #[] #[], .func (.func 173) #[] #[], .func (.func 174) #[] #[], .func (.func 179) #[] #[], .bool false, .func (.func 180) #[] #[], .func (.func 181) #[] #[], .func (.func 182) #[] #[], .func (.func 183) #[] #[], .bool true, .func (.func 184) #[] #[], .func (.func 185) #[] #[], .func (.func 182) #[] #[], .func (.func 186) #[] #[]] 0 f M4 ?_
 intro p a
 refine nt (Ik (sr (Mz rfl (Kz (.bool false) (Mz rfl (gw (vI 2) rfl (IA rfl) (Gz (.bool false) rfl (fw (.bool false) (Io rfl rfl rfl) (nt (jf (sk (sr (Mz rfl (Kz (vP e 10) (La ([.bool true, .func (.func 176) #[] #[], .func (.func 177) #[] #[], .func (.func 174) #[] #[], .func (.func 178) #[] #[]]) a 0 M5 M6 ?_)))))))))))))))
 have g:=a.pb [0]
 refine df [.bool true, .func (.func 176) #[] #[], .func (.func 177) #[] #[], .func (.func 174) #[] #[], .func (.func 178) #[] #[]] 0 g M6 ?_
 intro q b
 refine An rfl (rt (Fin.res (jb (vs:= [.agg #[.bool true, .func (.func 176) #[] #[], .func (.func 177) #[] #[], .func (.func 174) #[] #[], .func (.func 178) #[] #[]], .bool true]) rfl (cK.cell rfl (IJ (cs:= [.bool true, .func (.func 176) #[] #[], .func (.func 177) #[] #[], .func (.func 174) #[] #[], .func (.func 178) #[] #[]]) M5 M6 ((b.cls (i:=0) rfl).lit (k:=0) (m:=5) rfl)) (cK.tmp rfl cK.nil)) (Lj rfl)) ?_))
 have h:=b.pk []
 exact⟨rfl,h⟩
def sI (a:aN):aN:=
 aN.mk a.av a.aZ a.aG ([]) ([]) 0
theorem zq (w D) (a:aN) (g:aN) (H:Own w D w []) (hr:sI a=g):
    Calls v5 176 #[.agg (aN.cells a).toArray] w (dA λ v w'=>v= .agg (aN.cells g).toArray/\Own w D w' []):=by
 refine cb Tryz.func176 ?_
 refine sr ?_
 refine dn (aN.cells a) 72 H ?_
 intro c h e
 refine dn [vI 0, .string ⟨v6 ([])⟩, .string ⟨v6 ([])⟩, .string ⟨v6 ([])⟩, .string ⟨v6 ([])⟩,vI 0] 72 e ?_
 intro j l b
 refine ns (Kz (vP c 0) (Lz (vI a.av) b 1 C2 (Kz (vP c 1) (Lz (.string ⟨v6 a.aZ⟩) b 1 C0 (Kz (vP c 2) (Lz (.string ⟨v6 a.aG⟩) b 1 C0 (Kz (.agg #[vI a.av, .string ⟨v6 a.aZ⟩, .string ⟨v6 a.aG⟩, .string ⟨v6 ([])⟩, .string ⟨v6 ([])⟩,vI 0]) ?_)))))))
 refine df [vI a.av, .string ⟨v6 a.aZ⟩, .string ⟨v6 a.aG⟩, .string ⟨v6 ([])⟩, .string ⟨v6 ([])⟩,vI 0] 0 b M7 ?_
 intro n d
 refine nt (rt (Fin.res (oo rfl rfl (IJ (cs:= [vI a.av, .string ⟨v6 a.aZ⟩, .string ⟨v6 a.aG⟩, .string ⟨v6 ([])⟩, .string ⟨v6 ([])⟩,vI 0]) M8 M7 ((d.cls (i:=0) rfl).lit (k:=0) (m:=6) rfl))) ?_))
 have f:=d.pk []
 obtain rfl:_=aN.mk a.av a.aZ a.aG ([]) ([]) 0:=zj hr rfl
 exact⟨rfl,f⟩
def si (a:List UInt8):Int:=
 if((a.length:Nat):Int) > 16 then 2 else 0
theorem xx (w D b e) (H:Own w D w []) (hr:si b=e):
    Calls v5 197 #[.string ⟨v6 b⟩] w (dA λ v w'=>v=vI e/\Own w D w' []):=by
 refine cb Tryz.func197 ?_
 refine sr (An rfl (Ik (sr (Mz rfl (Kz (vJ b.length) (Kz (.bool (decide (((b.length:Nat):Int) > 16))) (nt ?_)))))))
 by_cases a:((b.length:Nat):Int) > 16
 refine jT (dT a) (sr (An rfl (rt (tR (rs ?_)))))
 have c:=H.pk []
 obtain rfl:_=2:=zj hr (ip a)
 exact⟨rfl,c⟩
 refine jF (dF a) (sk (sr (An rfl (rt (rs ?_)))))
 have d:=H.pk []
 obtain rfl:_=0:=zj hr (iN a)
 exact⟨rfl,d⟩
def pE (c:aN):Int:=
 bnd (dR c.aZ) λ a=>if a=0 then bnd (si c.aG) λ b=>b else a
theorem xW (w D) (b:aN) (y) (H:Own w D w []) (hr:pE b=y):
    Calls v5 177 #[.agg (aN.cells b).toArray] w (dA λ v w'=>v=vI y/\Own w D w' []):=by
 refine cb Tryz.func177 ?_
 refine sr ?_
 refine dn (aN.cells b) 72 H ?_
 intro j E k
 refine An rfl (Ik (sr (Kz (vP j 1) (Lz (.string ⟨v6 b.aZ⟩) k 0 C0 ?_))))
 obtain⟨a,c⟩:∃ q,dR b.aZ=q:=⟨_,rfl⟩
 obtain⟨F,l,z,m,A⟩:=Iu k
 refine cl M2 (j4 _ _ b.aZ a l c) ?_
 rintro _ G ⟨rfl,n,f,g⟩
 have i:=m _ _ n
 replace f: ¬ (a=0)\/(1<=b.aZ.length/\b.aZ.length<=12):=f
 replace g:b.aZ.length < 1\/b.aZ.length > 12\/a=0:=g
 refine Ar rfl (Mz rfl (fw (.bool (decide (¬ (a=0)))) (IM (e:= !(decide (a=0))) yk decide_not.symm) (nt ?_)))
 by_cases d:a=0
 refine jF (dF (Lr d)) (sk (sr (Kz (vP j 2) (Lz (.string ⟨v6 b.aG⟩) i 0 C0 ?_))))
 obtain⟨o,h⟩:∃ q,si b.aG=q:=⟨_,rfl⟩
 obtain⟨I,p,B,r,C⟩:=Iu i
 refine cl Tryz.call197 (xx _ _ b.aG o p h) ?_
 rintro _ J ⟨rfl,s⟩
 have t:=r _ _ s
 refine An rfl (rt (rs ?_))
 have u:=t.pk []
 obtain rfl:_=o:=zj hr (et (ae c) (et (ip d) (ae h)))
 exact⟨rfl,u⟩
 refine jT (dT d) (sr (Mz rfl (An rfl (rt (tR (rs ?_))))))
 have x:=i.pk []
 obtain rfl:_=a:=zj hr (et (ae c) (iN d))
 exact⟨rfl,x⟩
theorem uD (w D j) (H:Own w D w []) (c:j=3):
    Calls v5 158 #[vI j] w (dA λ v w'=>v= .tuple #[.agg #[.bool true, .func (.func 172) #[] #[], .func (.func 173) #[] #[], .func (.func 174) #[] #[], .func (.func 179) #[] #[]], .bool true]/\Own w D w' []):=by
 subst c
 refine cb M3 ?_
 refine sr ?_
 refine dn [.bool false, .nilFunc, .nilFunc, .nilFunc, .nilFunc] 231 H ?_
 intro l n d
 refine Ar rfl (Kz (.agg #[.bool false, .func (.func 172) #[] #[], .func (.func 173) #[] #[], .func (.func 174) #[] #[], .func (.func 175) #[] #[]]) (Kz (.agg #[.bool true, .func (.func 176) #[] #[], .func (.func 177) #[] #[], .func (.func 174) #[] #[], .func (.func 178) #[] #[]]) (Kz (.agg #[.bool true, .func (.func 172) #[] #[], .func (.func 173) #[] #[], .func (.func 174) #[] #[], .func (.func 179) #[] #[]]) (Kz (.agg #[.bool false, .func (.func 180) #[] #[], .func (.func 181) #[] #[], .func (.func 182) #[] #[], .func (.func 183) #[] #[]]) (Kz (.agg #[.bool true, .func (.func 184) #[] #[], .func (.func 185) #[] #[], .func (.func 182) #[] #[], .func (.func 186) #[] #[]]) (Kz (.agg #[.bool false, .nilFunc, .nilFunc, .nilFunc, .nilFunc, .bool false, .func (.func 172) #[] #[], .func (.func 173) #[] #[], .func (.func 174) #[] #[], .func (.func 175) #[] #[], .bool true, .func (.func 176) #[] #[], .func (.func 177) #[] #[], .func (.func 174) #[] #[], .func (.func 178) #[] #[], .bool true, .func (.func 172) #[] #[], .func (.func 173) #[] #[], .func (.func 174) #[] #[], .func (.func 179) #[] #[], .bool false, .func (.func 180) #[] #[], .func (.func 181) #[] #[], .func (.func 182) #[] #[], .func (.func 183) #[] #[], .bool true, .func (.func 184) #[] #[], .func (.func 185) #[] #[], .func (.func 182) #[] #[], .func (.func 186) #[] #[]]) ?_))))))
 refine dn [.bool false, .nilFunc, .nilFunc, .nilFunc, .nilFunc, .bool false, .nilFunc, .nilFunc, .nilFunc, .nilFunc, .bool false, .nilFunc, .nilFunc, .nilFunc, .nilFunc, .bool false, .nilFunc, .nilFunc, .nilFunc, .nilFunc, .bool false, .nilFunc, .nilFunc, .nilFunc, .nilFunc, .bool false, .nilFunc, .nilFunc, .nilFunc, .nilFunc] 244 d ?_
 intro e o f
 refine df [.bool false, .nilFunc, .nilFunc, .nilFunc, .nilFunc, .bool false, .func (.func 172) #[] #[], .func (.func 173) #[] #[], .func (.func 174) #[] #[], .func (.func 175) #[] #[], .bool true, .func (.func 176) #[] #[], .func (.func 177) #[] #[], .func (.func 174) #[] #[], .func (.func 178) #[] #[], .bool true, .func (.func 172) #[] #[], .func (.func 173) #[] #[], .func (.func 174) #[] #[], .func (.func 179) #[] #[], .bool false, .func (.func 180) #[] #[], .func (.func 181) #[] #[], .func (.func 182) #[] #[], .func (.func 183) #[] #[], .bool true, .func (.func 184) #[] #[], .func (.func 185) #[] #[], .func (.func 182) #[] #[], .func (.func 186) #[] #[]] 0 f M4 ?_
 intro p a
 refine nt (Ik (sr (Mz rfl (Kz (.bool false) (Mz rfl (gw (vI 3) rfl (IA rfl) (Gz (.bool false) rfl (fw (.bool false) (Io rfl rfl rfl) (nt (jf (sk (sr (Mz rfl (Kz (vP e 15) (La ([.bool true, .func (.func 172) #[] #[], .func (.func 173) #[] #[], .func (.func 174) #[] #[], .func (.func 179) #[] #[]]) a 0 M5 M6 ?_)))))))))))))))
 have g:=a.pb [0]
 refine df [.bool true, .func (.func 172) #[] #[], .func (.func 173) #[] #[], .func (.func 174) #[] #[], .func (.func 179) #[] #[]] 0 g M6 ?_
 intro q b
 refine An rfl (rt (Fin.res (jb (vs:= [.agg #[.bool true, .func (.func 172) #[] #[], .func (.func 173) #[] #[], .func (.func 174) #[] #[], .func (.func 179) #[] #[]], .bool true]) rfl (cK.cell rfl (IJ (cs:= [.bool true, .func (.func 172) #[] #[], .func (.func 173) #[] #[], .func (.func 174) #[] #[], .func (.func 179) #[] #[]]) M5 M6 ((b.cls (i:=0) rfl).lit (k:=0) (m:=5) rfl)) (cK.tmp rfl cK.nil)) (Lj rfl)) ?_))
 have h:=b.pk []
 exact⟨rfl,h⟩
theorem uE (w D j) (H:Own w D w []) (c:j=4):
    Calls v5 158 #[vI j] w (dA λ v w'=>v= .tuple #[.agg #[.bool false, .func (.func 180) #[] #[], .func (.func 181) #[] #[], .func (.func 182) #[] #[], .func (.func 183) #[] #[]], .bool true]/\Own w D w' []):=by
 subst c
 refine cb M3 ?_
 refine sr ?_
 refine dn [.bool false, .nilFunc, .nilFunc, .nilFunc, .nilFunc] 231 H ?_
 intro l n d
 refine Ar rfl (Kz (.agg #[.bool false, .func (.func 172) #[] #[], .func (.func 173) #[] #[], .func (.func 174) #[] #[], .func (.func 175) #[] #[]]) (Kz (.agg #[.bool true, .func (.func 176) #[] #[], .func (.func 177) #[] #[], .func (.func 174) #[] #[], .func (.func 178) #[] #[]]) (Kz (.agg #[.bool true, .func (.func 172) #[] #[], .func (.func 173) #[] #[], .func (.func 174) #[] #[], .func (.func 179) #[] #[]]) (Kz (.agg #[.bool false, .func (.func 180) #[] #[], .func (.func 181) #[] #[], .func (.func 182) #[] #[], .func (.func 183) #[] #[]]) (Kz (.agg #[.bool true, .func (.func 184) #[] #[], .func (.func 185) #[] #[], .func (.func 182) #[] #[], .func (.func 186) #[] #[]]) (Kz (.agg #[.bool false, .nilFunc, .nilFunc, .nilFunc, .nilFunc, .bool false, .func (.func 172) #[] #[], .func (.func 173) #[] #[], .func (.func 174) #[] #[], .func (.func 175) #[] #[], .bool true, .func (.func 176) #[] #[], .func (.func 177) #[] #[], .func (.func 174) #[] #[], .func (.func 178) #[] #[], .bool true, .func (.func 172) #[] #[], .func (.func 173) #[] #[], .func (.func 174) #[] #[], .func (.func 179) #[] #[], .bool false, .func (.func 180) #[] #[], .func (.func 181) #[] #[], .func (.func 182) #[] #[], .func (.func 183) #[] #[], .bool true, .func (.func 184) #[] #[], .func (.func 185) #[] #[], .func (.func 182) #[] #[], .func (.func 186) #[] #[]]) ?_))))))
 refine dn [.bool false, .nilFunc, .nilFunc, .nilFunc, .nilFunc, .bool false, .nilFunc, .nilFunc, .nilFunc, .nilFunc, .bool false, .nilFunc, .nilFunc, .nilFunc, .nilFunc, .bool false, .nilFunc, .nilFunc, .nilFunc, .nilFunc, .bool false, .nilFunc, .nilFunc, .nilFunc, .nilFunc, .bool false, .nilFunc, .nilFunc, .nilFunc, .nilFunc] 244 d ?_
 intro e o f
 refine df [.bool false, .nilFunc, .nilFunc, .nilFunc, .nilFunc, .bool false, .func (.func 172) #[] #[], .func (.func 173) #[] #[], .func (.func 174) #[] #[], .func (.func 175) #[] #[], .bool true, .func (.func 176) #[] #[], .func (.func 177) #[] #[], .func (.func 174) #[] #[], .func (.func 178) #[] #[], .bool true, .func (.func 172) #[] #[], .func (.func 173) #[] #[], .func (.func 174) #[] #[], .func (.func 179) #[] #[], .bool false, .func (.func 180) #[] #[], .func (.func 181) #[] #[], .func (.func 182) #[] #[], .func (.func 183) #[] #[], .bool true, .func (.func 184) #[] #[], .func (.func 185) #[] #[], .func (.func 182) #[] #[], .func (.func 186) #[] #[]] 0 f M4 ?_
 intro p a
 refine nt (Ik (sr (Mz rfl (Kz (.bool false) (Mz rfl (gw (vI 4) rfl (IA rfl) (Gz (.bool false) rfl (fw (.bool false) (Io rfl rfl rfl) (nt (jf (sk (sr (Mz rfl (Kz (vP e 20) (La ([.bool false, .func (.func 180) #[] #[], .func (.func 181) #[] #[], .func (.func 182) #[] #[], .func (.func 183) #[] #[]]) a 0 M5 M6 ?_)))))))))))))))
 have g:=a.pb [0]
 refine df [.bool false, .func (.func 180) #[] #[], .func (.func 181) #[] #[], .func (.func 182) #[] #[], .func (.func 183) #[] #[]] 0 g M6 ?_
 intro q b
 refine An rfl (rt (Fin.res (jb (vs:= [.agg #[.bool false, .func (.func 180) #[] #[], .func (.func 181) #[] #[], .func (.func 182) #[] #[], .func (.func 183) #[] #[]], .bool true]) rfl (cK.cell rfl (IJ (cs:= [.bool false, .func (.func 180) #[] #[], .func (.func 181) #[] #[], .func (.func 182) #[] #[], .func (.func 183) #[] #[]]) M5 M6 ((b.cls (i:=0) rfl).lit (k:=0) (m:=5) rfl)) (cK.tmp rfl cK.nil)) (Lj rfl)) ?_))
 have h:=b.pk []
 exact⟨rfl,h⟩
def sJ (a:aN):aN:=
 aN.mk a.av ([]) ([]) a.aJ a.aR a.aV
theorem zt (w D) (a:aN) (g:aN) (H:Own w D w []) (hr:sJ a=g):
    Calls v5 180 #[.agg (aN.cells a).toArray] w (dA λ v w'=>v= .agg (aN.cells g).toArray/\Own w D w' []):=by
 refine cb Tryz.func180 ?_
 refine sr ?_
 refine dn (aN.cells a) 72 H ?_
 intro c h e
 refine dn [vI 0, .string ⟨v6 ([])⟩, .string ⟨v6 ([])⟩, .string ⟨v6 ([])⟩, .string ⟨v6 ([])⟩,vI 0] 72 e ?_
 intro j l b
 refine ns (Kz (vP c 0) (Lz (vI a.av) b 1 C2 (Kz (vP c 3) (Lz (.string ⟨v6 a.aJ⟩) b 1 C0 (Kz (vP c 4) (Lz (.string ⟨v6 a.aR⟩) b 1 C0 (Kz (vP c 5) (Lz (vI a.aV) b 1 C2 (Kz (.agg #[vI a.av, .string ⟨v6 ([])⟩, .string ⟨v6 ([])⟩, .string ⟨v6 a.aJ⟩, .string ⟨v6 a.aR⟩,vI a.aV]) ?_)))))))))
 refine df [vI a.av, .string ⟨v6 ([])⟩, .string ⟨v6 ([])⟩, .string ⟨v6 a.aJ⟩, .string ⟨v6 a.aR⟩,vI a.aV] 0 b M7 ?_
 intro n d
 refine nt (rt (Fin.res (oo rfl rfl (IJ (cs:= [vI a.av, .string ⟨v6 ([])⟩, .string ⟨v6 ([])⟩, .string ⟨v6 a.aJ⟩, .string ⟨v6 a.aR⟩,vI a.aV]) M8 M7 ((d.cls (i:=0) rfl).lit (k:=0) (m:=6) rfl))) ?_))
 have f:=d.pk []
 obtain rfl:_=aN.mk a.av ([]) ([]) a.aJ a.aR a.aV:=zj hr rfl
 exact⟨rfl,f⟩
def tK (a:aN):aL:=
 aL.mk a.aJ a.aR
theorem xX (w D) (a:aN) (g:aL) (H:Own w D w []) (hr:tK a=g):
    Calls v5 182 #[.agg (aN.cells a).toArray] w (dA λ v w'=>v= .agg (aL.cells g).toArray/\Own w D w' []):=by
 refine cb Tryz.func182 ?_
 refine sr ?_
 refine dn (aN.cells a) 72 H ?_
 intro c h e
 refine dn [.string ⟨v6 ([])⟩, .string ⟨v6 ([])⟩] 38 e ?_
 intro j l b
 refine ns (Kz (vP c 3) (Lz (.string ⟨v6 a.aJ⟩) b 1 C0 (Kz (vP c 4) (Lz (.string ⟨v6 a.aR⟩) b 1 C0 (Kz (.agg #[.string ⟨v6 a.aJ⟩, .string ⟨v6 a.aR⟩]) ?_)))))
 refine df [.string ⟨v6 a.aJ⟩, .string ⟨v6 a.aR⟩] 0 b M9 ?_
 intro n d
 refine nt (rt (Fin.res (oo rfl rfl (IJ (cs:= [.string ⟨v6 a.aJ⟩, .string ⟨v6 a.aR⟩]) N0 M9 ((d.cls (i:=0) rfl).lit (k:=0) (m:=2) rfl))) ?_))
 have f:=d.pk []
 obtain rfl:_=aL.mk a.aJ a.aR:=zj hr rfl
 exact⟨rfl,f⟩
def iB (a:aL):Int:=
 if a.aJ≠([]) then bnd (dR a.aJ) λ b=>if b=0 then if a.aR≠([]) then bnd (dR a.aR) λ c=>if c=0 then if a.aR<=a.aJ then 21 else 0 else 21 else 0 else 21 else if a.aR≠([]) then bnd (dR a.aR) λ d=>if d=0 then if a.aR<=a.aJ then 21 else 0 else 21 else 0
theorem qf (w D) (a:aL) (Z) (H:Own w D w []) (hr:iB a=Z):
    Calls v5 116 #[.agg (aL.cells a).toArray] w (dA λ v w'=>v=vI Z/\Own w D w' []):=by
 refine cb Tryz.func116 ?_
 refine sr ?_
 refine dn (aL.cells a) 38 H ?_
 intro h ak k
 refine An rfl (Ik (sr (Kz (vP h 0) (Lz (.string ⟨v6 a.aJ⟩) k 0 C0 (fw (.bool (decide (a.aJ≠([])))) (I6 rfl rfl) (Mz rfl ?_))))))
 by_cases d:a.aJ≠([])
 refine Gz (vP h 0) (dT d) (Gl (.string ⟨v6 a.aJ⟩) (dT d) k 0 C0 ?_)
 obtain⟨l,j⟩:∃ q,dR a.aJ=q:=⟨_,rfl⟩
 obtain⟨au,G,aa,I,af⟩:=Iu k
 refine pW (dT d) M2 (j4 _ _ a.aJ l G j) ?_
 rintro _ av ⟨rfl,J,z,A⟩
 have s:=I _ _ J
 replace z: ¬ (l=0)\/(1<=a.aJ.length/\a.aJ.length<=12):=z
 replace A:a.aJ.length < 1\/a.aJ.length > 12\/l=0:=A
 refine gw (.bool (decide (¬ (l=0)))) (dT d) (IM (e:= !(decide (l=0))) yk decide_not.symm) (fw (.bool (decide (¬ (l=0)))) (Iw rfl (dT d) rfl) (nt ?_))
 by_cases m:l=0
 refine jF (dF (Lr m)) (sk (Ik (sr (Kz (vP h 1) (Lz (.string ⟨v6 a.aR⟩) s 0 C0 (fw (.bool (decide (a.aR≠([])))) (I6 rfl rfl) (Mz rfl ?_)))))))
 by_cases b:a.aR≠([])
 refine Gz (vP h 1) (dT b) (Gl (.string ⟨v6 a.aR⟩) (dT b) s 0 C0 ?_)
 obtain⟨n,p⟩:∃ q,dR a.aR=q:=⟨_,rfl⟩
 obtain⟨ax,K,ag,L,ah⟩:=Iu s
 refine pW (dT b) M2 (j4 _ _ a.aR n K p) ?_
 rintro _ ay ⟨rfl,M,B,C⟩
 have t:=L _ _ M
 replace B: ¬ (n=0)\/(1<=a.aR.length/\a.aR.length<=12):=B
 replace C:a.aR.length < 1\/a.aR.length > 12\/n=0:=C
 refine gw (.bool (decide (¬ (n=0)))) (dT b) (IM (e:= !(decide (n=0))) yk decide_not.symm) (gw (.bool (decide (¬ (n=0)))) (dT b) (IA rfl) ?_)
 by_cases f:n=0
 refine gw (vP h 1) (dF (Lr f)) yk (gw (.string ⟨v6 a.aR⟩) (dF (Lr f)) (IB rfl (bJ.one C0 (I1 (t.cls (i:=0) rfl) rfl))) (gw (vP h 0) (dF (Lr f)) yk (gw (.string ⟨v6 a.aJ⟩) (dF (Lr f)) (IB rfl (bJ.one C0 (I1 (t.cls (i:=0) rfl) rfl))) (gw (.bool (decide (a.aR<=a.aJ))) (dF (Lr f)) (IM (e:=Op.bytesLess a.aR a.aJ || decide (a.aR=a.aJ)) (JD rfl rfl) (xI _ _)) (gw (.bool (decide (a.aR<=a.aJ))) (dT b) (Io rfl (dF (Lr f)) rfl) (fw (.bool (decide (a.aR<=a.aJ))) (Iw rfl (dT b) rfl) (nt ?_)))))))
 by_cases x:a.aR<=a.aJ
 refine jT (dT x) (sr (An rfl (rt (tR (rs ?_)))))
 have Q:=t.pk []
 obtain rfl:_=21:=zj hr (et (ip d) (et (ae j) (et (ip m) (et (ip b) (et (ae p) (et (ip f) (ip x)))))))
 exact⟨rfl,Q⟩
 refine jF (dF x) (sk (sr (An rfl (rt (rs ?_)))))
 have R:=t.pk []
 obtain rfl:_=0:=zj hr (et (ip d) (et (ae j) (et (ip m) (et (ip b) (et (ae p) (et (ip f) (iN x)))))))
 exact⟨rfl,R⟩
 refine Sz (dT f) (Sz (dT f) (Sz (dT f) (Sz (dT f) (Sz (dT f) (gw (.bool true) (dT b) (Iw rfl (dT f) rfl) (fw (.bool true) (Iw rfl (dT b) rfl) (nt (jt (sr (An rfl (rt (tR (rs ?_)))))))))))))
 have S:=t.pk []
 obtain rfl:_=21:=zj hr (et (ip d) (et (ae j) (et (ip m) (et (ip b) (et (ae p) (iN f))))))
 exact⟨rfl,S⟩
 refine Sz (dF b) (Sz (dF b) (Sz (dF b) (Sz (dF b) (Sz (dF b) (IG rfl rfl rfl (IG rfl rfl rfl (IG rfl rfl rfl (IG rfl rfl rfl (IG rfl rfl rfl (Sz (dF b) (fw (.bool false) (Io rfl (dF b) rfl) (nt (jf (sk (sr (An rfl (rt (rs ?_))))))))))))))))))
 have T:=s.pk []
 obtain rfl:_=0:=zj hr (et (ip d) (et (ae j) (et (ip m) (iN b))))
 exact⟨rfl,T⟩
 refine jT (dT m) (sr (An rfl (rt (tR (rs ?_)))))
 have U:=s.pk []
 obtain rfl:_=21:=zj hr (et (ip d) (et (ae j) (iN m)))
 exact⟨rfl,U⟩
 refine Sz (dF d) (Sz (dF d) (Sz (dF d) (Sz (dF d) (fw (.bool false) (Io rfl (dF d) rfl) (nt (jf (sk (Ik (sr (Kz (vP h 1) (Lz (.string ⟨v6 a.aR⟩) k 0 C0 (fw (.bool (decide (a.aR≠([])))) (I6 rfl rfl) (Mz rfl ?_)))))))))))))
 by_cases c:a.aR≠([])
 refine Gz (vP h 1) (dT c) (Gl (.string ⟨v6 a.aR⟩) (dT c) k 0 C0 ?_)
 obtain⟨o,r⟩:∃ q,dR a.aR=q:=⟨_,rfl⟩
 obtain⟨az,N,ai,O,aj⟩:=Iu k
 refine pW (dT c) M2 (j4 _ _ a.aR o N r) ?_
 rintro _ aA ⟨rfl,P,E,F⟩
 have u:=O _ _ P
 replace E: ¬ (o=0)\/(1<=a.aR.length/\a.aR.length<=12):=E
 replace F:a.aR.length < 1\/a.aR.length > 12\/o=0:=F
 refine gw (.bool (decide (¬ (o=0)))) (dT c) (IM (e:= !(decide (o=0))) yk decide_not.symm) (gw (.bool (decide (¬ (o=0)))) (dT c) (IA rfl) ?_)
 by_cases g:o=0
 refine gw (vP h 1) (dF (Lr g)) yk (gw (.string ⟨v6 a.aR⟩) (dF (Lr g)) (IB rfl (bJ.one C0 (I1 (u.cls (i:=0) rfl) rfl))) (gw (vP h 0) (dF (Lr g)) yk (gw (.string ⟨v6 a.aJ⟩) (dF (Lr g)) (IB rfl (bJ.one C0 (I1 (u.cls (i:=0) rfl) rfl))) (gw (.bool (decide (a.aR<=a.aJ))) (dF (Lr g)) (IM (e:=Op.bytesLess a.aR a.aJ || decide (a.aR=a.aJ)) (JD rfl rfl) (xI _ _)) (gw (.bool (decide (a.aR<=a.aJ))) (dT c) (Io rfl (dF (Lr g)) rfl) (fw (.bool (decide (a.aR<=a.aJ))) (Iw rfl (dT c) rfl) (nt ?_)))))))
 by_cases y:a.aR<=a.aJ
 refine jT (dT y) (sr (An rfl (rt (tR (rs ?_)))))
 have V:=u.pk []
 obtain rfl:_=21:=zj hr (et (iN d) (et (ip c) (et (ae r) (et (ip g) (ip y)))))
 exact⟨rfl,V⟩
 refine jF (dF y) (sk (sr (An rfl (rt (rs ?_)))))
 have W:=u.pk []
 obtain rfl:_=0:=zj hr (et (iN d) (et (ip c) (et (ae r) (et (ip g) (iN y)))))
 exact⟨rfl,W⟩
 refine Sz (dT g) (Sz (dT g) (Sz (dT g) (Sz (dT g) (Sz (dT g) (gw (.bool true) (dT c) (Iw rfl (dT g) rfl) (fw (.bool true) (Iw rfl (dT c) rfl) (nt (jt (sr (An rfl (rt (tR (rs ?_)))))))))))))
 have X:=u.pk []
 obtain rfl:_=21:=zj hr (et (iN d) (et (ip c) (et (ae r) (iN g))))
 exact⟨rfl,X⟩
 refine Sz (dF c) (Sz (dF c) (Sz (dF c) (Sz (dF c) (Sz (dF c) (IG rfl rfl rfl (IG rfl rfl rfl (IG rfl rfl rfl (IG rfl rfl rfl (IG rfl rfl rfl (Sz (dF c) (fw (.bool false) (Io rfl (dF c) rfl) (nt (jf (sk (sr (An rfl (rt (rs ?_))))))))))))))))))
 have Y:=k.pk []
 obtain rfl:_=0:=zj hr (et (iN d) (iN c))
 exact⟨rfl,Y⟩
def mD (c:aN):Int:=
 bnd (tK c) λ a=>bnd (iB a) λ b=>b
theorem tL (w D) (d:aN) (p) (H:Own w D w []) (hr:mD d=p):
    Calls v5 185 #[.agg (aN.cells d).toArray] w (dA λ v w'=>v=vI p/\Own w D w' []):=by
 refine cb Tryz.func185 ?_
 refine sr ?_
 refine dn (aN.cells d) 72 H ?_
 intro x y e
 refine Ar rfl (La (aN.cells d) e 0 M8 M7 ?_)
 obtain⟨c,a⟩:∃ q,tK d=q:=⟨_,rfl⟩
 obtain⟨z,f,r,g,s⟩:=Iu e
 refine cl Tryz.call182 (xX _ _ d c f a) ?_
 rintro _ A ⟨rfl,h⟩
 have m:=g _ _ h
 obtain⟨i,b⟩:∃ q,iB c=q:=⟨_,rfl⟩
 obtain⟨B,j,t,k,u⟩:=Iu m
 refine cl Tryz.call116 (qf _ _ c i j b) ?_
 rintro _ C ⟨rfl,l⟩
 have n:=k _ _ l
 refine An rfl (rt (rs ?_))
 have o:=n.pk []
 obtain rfl:_=i:=zj hr (et (ae a) (ae b))
 exact⟨rfl,o⟩
def nR (b:aN):Int:=
 bnd (mD b) λ a=>if a=0 then if b.aV < 1 then 1 else if b.aV > 4 then 1 else 0 else a
theorem xY (w D) (c:aN) (s) (H:Own w D w []) (hr:nR c=s):
    Calls v5 181 #[.agg (aN.cells c).toArray] w (dA λ v w'=>v=vI s/\Own w D w' []):=by
 refine cb Tryz.func181 ?_
 refine sr ?_
 refine dn (aN.cells c) 72 H ?_
 intro i x j
 refine An rfl (Ik (sr (La (aN.cells c) j 0 M8 M7 ?_)))
 obtain⟨g,b⟩:∃ q,mD c=q:=⟨_,rfl⟩
 obtain⟨y,k,t,l,u⟩:=Iu j
 refine cl Tryz.call185 (tL _ _ c g k b) ?_
 rintro _ z ⟨rfl,m⟩
 have d:=l _ _ m
 refine Ar rfl (Mz rfl (fw (.bool (decide (¬ (g=0)))) (IM (e:= !(decide (g=0))) yk decide_not.symm) (nt ?_)))
 by_cases f:g=0
 refine jF (dF (Lr f)) (sk (Ik (sr (Kz (vP i 5) (Lz (vI c.aV) d 0 C2 (Kz (.bool (decide (c.aV < 1))) (Mz rfl ?_)))))))
 by_cases a:c.aV < 1
 refine Sz (dT a) (Sz (dT a) (Sz (dT a) (fw (.bool true) (Iw rfl (dT a) rfl) (nt (jt (sr (An rfl (rt (tR (rs ?_))))))))))
 have n:=d.pk []
 obtain rfl:_=1:=zj hr (et (ae b) (et (ip f) (ip a)))
 exact⟨rfl,n⟩
 refine Gz (vP i 5) (dF a) (Gl (vI c.aV) (dF a) d 0 C2 (Gz (.bool (decide (c.aV > 4))) (dF a) (fw (.bool (decide (c.aV > 4))) (Io rfl (dF a) rfl) (nt ?_))))
 by_cases h:c.aV > 4
 refine jT (dT h) (sr (An rfl (rt (tR (rs ?_)))))
 have o:=d.pk []
 obtain rfl:_=1:=zj hr (et (ae b) (et (ip f) (et (iN a) (ip h))))
 exact⟨rfl,o⟩
 refine jF (dF h) (sk (sr (An rfl (rt (rs ?_)))))
 have p:=d.pk []
 obtain rfl:_=0:=zj hr (et (ae b) (et (ip f) (et (iN a) (iN h))))
 exact⟨rfl,p⟩
 refine jT (dT f) (sr (Mz rfl (An rfl (rt (tR (rs ?_))))))
 have r:=d.pk []
 obtain rfl:_=g:=zj hr (et (ae b) (iN f))
 exact⟨rfl,r⟩
theorem uF (w D j) (H:Own w D w []) (c:j=5):
    Calls v5 158 #[vI j] w (dA λ v w'=>v= .tuple #[.agg #[.bool true, .func (.func 184) #[] #[], .func (.func 185) #[] #[], .func (.func 182) #[] #[], .func (.func 186) #[] #[]], .bool true]/\Own w D w' []):=by
 subst c
 refine cb M3 ?_
 refine sr ?_
 refine dn [.bool false, .nilFunc, .nilFunc, .nilFunc, .nilFunc] 231 H ?_
 intro l n d
 refine Ar rfl (Kz (.agg #[.bool false, .func (.func 172) #[] #[], .func (.func 173) #[] #[], .func (.func 174) #[] #[], .func (.func 175) #[] #[]]) (Kz (.agg #[.bool true, .func (.func 176) #[] #[], .func (.func 177) #[] #[], .func (.func 174) #[] #[], .func (.func 178) #[] #[]]) (Kz (.agg #[.bool true, .func (.func 172) #[] #[], .func (.func 173) #[] #[], .func (.func 174) #[] #[], .func (.func 179) #[] #[]]) (Kz (.agg #[.bool false, .func (.func 180) #[] #[], .func (.func 181) #[] #[], .func (.func 182) #[] #[], .func (.func 183) #[] #[]]) (Kz (.agg #[.bool true, .func (.func 184) #[] #[], .func (.func 185) #[] #[], .func (.func 182) #[] #[], .func (.func 186) #[] #[]]) (Kz (.agg #[.bool false, .nilFunc, .nilFunc, .nilFunc, .nilFunc, .bool false, .func (.func 172) #[] #[], .func (.func 173) #[] #[], .func (.func 174) #[] #[], .func (.func 175) #[] #[], .bool true, .func (.func 176) #[] #[], .func (.func 177) #[] #[], .func (.func 174) #[] #[], .func (.func 178) #[] #[], .bool true, .func (.func 172) #[] #[], .func (.func 173) #[] #[], .func (.func 174) #[] #[], .func (.func 179) #[] #[], .bool false, .func (.func 180) #[] #[], .func (.func 181) #[] #[], .func (.func 182) #[] #[], .func (.func 183) #[] #[], .bool true, .func (.func 184) #[] #[], .func (.func 185) #[] #[], .func (.func 182) #[] #[], .func (.func 186) #[] #[]]) ?_))))))
 refine dn [.bool false, .nilFunc, .nilFunc, .nilFunc, .nilFunc, .bool false, .nilFunc, .nilFunc, .nilFunc, .nilFunc, .bool false, .nilFunc, .nilFunc, .nilFunc, .nilFunc, .bool false, .nilFunc, .nilFunc, .nilFunc, .nilFunc, .bool false, .nilFunc, .nilFunc, .nilFunc, .nilFunc, .bool false, .nilFunc, .nilFunc, .nilFunc, .nilFunc] 244 d ?_
 intro e o f
 refine df [.bool false, .nilFunc, .nilFunc, .nilFunc, .nilFunc, .bool false, .func (.func 172) #[] #[], .func (.func 173) #[] #[], .func (.func 174) #[] #[], .func (.func 175) #[] #[], .bool true, .func (.func 176) #[] #[], .func (.func 177) #[] #[], .func (.func 174) #[] #[], .func (.func 178) #[] #[], .bool true, .func (.func 172) #[] #[], .func (.func 173) #[] #[], .func (.func 174) #[] #[], .func (.func 179) #[] #[], .bool false, .func (.func 180) #[] #[], .func (.func 181) #[] #[], .func (.func 182) #[] #[], .func (.func 183) #[] #[], .bool true, .func (.func 184) #[] #[], .func (.func 185) #[] #[], .func (.func 182) #[] #[], .func (.func 186) #[] #[]] 0 f M4 ?_
 intro p a
 refine nt (Ik (sr (Mz rfl (Kz (.bool false) (Mz rfl (gw (vI 5) rfl (IA rfl) (Gz (.bool false) rfl (fw (.bool false) (Io rfl rfl rfl) (nt (jf (sk (sr (Mz rfl (Kz (vP e 25) (La ([.bool true, .func (.func 184) #[] #[], .func (.func 185) #[] #[], .func (.func 182) #[] #[], .func (.func 186) #[] #[]]) a 0 M5 M6 ?_)))))))))))))))
 have g:=a.pb [0]
 refine df [.bool true, .func (.func 184) #[] #[], .func (.func 185) #[] #[], .func (.func 182) #[] #[], .func (.func 186) #[] #[]] 0 g M6 ?_
 intro q b
 refine An rfl (rt (Fin.res (jb (vs:= [.agg #[.bool true, .func (.func 184) #[] #[], .func (.func 185) #[] #[], .func (.func 182) #[] #[], .func (.func 186) #[] #[]], .bool true]) rfl (cK.cell rfl (IJ (cs:= [.bool true, .func (.func 184) #[] #[], .func (.func 185) #[] #[], .func (.func 182) #[] #[], .func (.func 186) #[] #[]]) M5 M6 ((b.cls (i:=0) rfl).lit (k:=0) (m:=5) rfl)) (cK.tmp rfl cK.nil)) (Lj rfl)) ?_))
 have h:=b.pk []
 exact⟨rfl,h⟩
def rD (a:aN):aN:=
 aN.mk a.av ([]) ([]) a.aJ a.aR 0
theorem yG (w D) (a:aN) (g:aN) (H:Own w D w []) (hr:rD a=g):
    Calls v5 184 #[.agg (aN.cells a).toArray] w (dA λ v w'=>v= .agg (aN.cells g).toArray/\Own w D w' []):=by
 refine cb Tryz.func184 ?_
 refine sr ?_
 refine dn (aN.cells a) 72 H ?_
 intro c h e
 refine dn [vI 0, .string ⟨v6 ([])⟩, .string ⟨v6 ([])⟩, .string ⟨v6 ([])⟩, .string ⟨v6 ([])⟩,vI 0] 72 e ?_
 intro j l b
 refine ns (Kz (vP c 0) (Lz (vI a.av) b 1 C2 (Kz (vP c 3) (Lz (.string ⟨v6 a.aJ⟩) b 1 C0 (Kz (vP c 4) (Lz (.string ⟨v6 a.aR⟩) b 1 C0 (Kz (.agg #[vI a.av, .string ⟨v6 ([])⟩, .string ⟨v6 ([])⟩, .string ⟨v6 a.aJ⟩, .string ⟨v6 a.aR⟩,vI 0]) ?_)))))))
 refine df [vI a.av, .string ⟨v6 ([])⟩, .string ⟨v6 ([])⟩, .string ⟨v6 a.aJ⟩, .string ⟨v6 a.aR⟩,vI 0] 0 b M7 ?_
 intro n d
 refine nt (rt (Fin.res (oo rfl rfl (IJ (cs:= [vI a.av, .string ⟨v6 ([])⟩, .string ⟨v6 ([])⟩, .string ⟨v6 a.aJ⟩, .string ⟨v6 a.aR⟩,vI 0]) M8 M7 ((d.cls (i:=0) rfl).lit (k:=0) (m:=6) rfl))) ?_))
 have f:=d.pk []
 obtain rfl:_=aN.mk a.av ([]) ([]) a.aJ a.aR 0:=zj hr rfl
 exact⟨rfl,f⟩
theorem uh (w D b) (H:Own w D w []) (p: ¬ (b=1)) (q: ¬ (b=2)) (r: ¬ (b=3)) (s: ¬ (b=4)) (t: ¬ (b=5)):
    Calls v5 158 #[vI b] w (dA λ v w'=>v= .tuple #[.agg #[.bool false, .nilFunc, .nilFunc, .nilFunc, .nilFunc], .bool false]/\Own w D w' []):=by
 refine cb M3 ?_
 refine sr ?_
 refine dn [.bool false, .nilFunc, .nilFunc, .nilFunc, .nilFunc] 231 H ?_
 intro u x g
 refine Ar rfl (Kz (.agg #[.bool false, .func (.func 172) #[] #[], .func (.func 173) #[] #[], .func (.func 174) #[] #[], .func (.func 175) #[] #[]]) (Kz (.agg #[.bool true, .func (.func 176) #[] #[], .func (.func 177) #[] #[], .func (.func 174) #[] #[], .func (.func 178) #[] #[]]) (Kz (.agg #[.bool true, .func (.func 172) #[] #[], .func (.func 173) #[] #[], .func (.func 174) #[] #[], .func (.func 179) #[] #[]]) (Kz (.agg #[.bool false, .func (.func 180) #[] #[], .func (.func 181) #[] #[], .func (.func 182) #[] #[], .func (.func 183) #[] #[]]) (Kz (.agg #[.bool true, .func (.func 184) #[] #[], .func (.func 185) #[] #[], .func (.func 182) #[] #[], .func (.func 186) #[] #[]]) (Kz (.agg #[.bool false, .nilFunc, .nilFunc, .nilFunc, .nilFunc, .bool false, .func (.func 172) #[] #[], .func (.func 173) #[] #[], .func (.func 174) #[] #[], .func (.func 175) #[] #[], .bool true, .func (.func 176) #[] #[], .func (.func 177) #[] #[], .func (.func 174) #[] #[], .func (.func 178) #[] #[], .bool true, .func (.func 172) #[] #[], .func (.func 173) #[] #[], .func (.func 174) #[] #[], .func (.func 179) #[] #[], .bool false, .func (.func 180) #[] #[], .func (.func 181) #[] #[], .func (.func 182) #[] #[], .func (.func 183) #[] #[], .bool true, .func (.func 184) #[] #[], .func (.func 185) #[] #[], .func (.func 182) #[] #[], .func (.func 186) #[] #[]]) ?_))))))
 refine dn [.bool false, .nilFunc, .nilFunc, .nilFunc, .nilFunc, .bool false, .nilFunc, .nilFunc, .nilFunc, .nilFunc, .bool false, .nilFunc, .nilFunc, .nilFunc, .nilFunc, .bool false, .nilFunc, .nilFunc, .nilFunc, .nilFunc, .bool false, .nilFunc, .nilFunc, .nilFunc, .nilFunc, .bool false, .nilFunc, .nilFunc, .nilFunc, .nilFunc] 244 g ?_
 intro y z h
 refine df [.bool false, .nilFunc, .nilFunc, .nilFunc, .nilFunc, .bool false, .func (.func 172) #[] #[], .func (.func 173) #[] #[], .func (.func 174) #[] #[], .func (.func 175) #[] #[], .bool true, .func (.func 176) #[] #[], .func (.func 177) #[] #[], .func (.func 174) #[] #[], .func (.func 178) #[] #[], .bool true, .func (.func 172) #[] #[], .func (.func 173) #[] #[], .func (.func 174) #[] #[], .func (.func 179) #[] #[], .bool false, .func (.func 180) #[] #[], .func (.func 181) #[] #[], .func (.func 182) #[] #[], .func (.func 183) #[] #[], .bool true, .func (.func 184) #[] #[], .func (.func 185) #[] #[], .func (.func 182) #[] #[], .func (.func 186) #[] #[]] 0 h M4 ?_
 intro A c
 refine nt (Ik (sr (Mz rfl (Kz (.bool (decide (b<=0))) (Mz rfl ?_)))))
 by_cases a:b<=0
 refine Sz (dT a) (Sz (dT a) (fw (.bool true) (Iw rfl (dT a) rfl) (nt (jt (sr (Kz (.agg #[.bool false, .nilFunc, .nilFunc, .nilFunc, .nilFunc]) ?_))))))
 have j:=c.pb [0]
 refine df [.bool false, .nilFunc, .nilFunc, .nilFunc, .nilFunc] 0 j M6 ?_
 intro B d
 refine An rfl (rt (tR (Fin.res (jb (vs:= [.agg #[.bool false, .nilFunc, .nilFunc, .nilFunc, .nilFunc], .bool false]) rfl (cK.cell rfl (IJ (cs:= [.bool false, .nilFunc, .nilFunc, .nilFunc, .nilFunc]) M5 M6 ((d.cls (i:=0) rfl).lit (k:=0) (m:=5) rfl)) (cK.tmp rfl cK.nil)) (Lj rfl)) ?_)))
 have l:=d.pk []
 exact⟨rfl,l⟩
 refine gw (vI b) (dF a) (IA rfl) (Gz (.bool (decide (b >= 6))) (dF a) (fw (.bool (decide (b >= 6))) (Io rfl (dF a) rfl) (nt ?_)))
 have e:(decide (b >= 6))=true:=(dT e6)
 refine jT e (sr (Kz (.agg #[.bool false, .nilFunc, .nilFunc, .nilFunc, .nilFunc]) ?_))
 have n:=c.pb [0]
 refine df [.bool false, .nilFunc, .nilFunc, .nilFunc, .nilFunc] 0 n M6 ?_
 intro C f
 refine An rfl (rt (tR (Fin.res (jb (vs:= [.agg #[.bool false, .nilFunc, .nilFunc, .nilFunc, .nilFunc], .bool false]) rfl (cK.cell rfl (IJ (cs:= [.bool false, .nilFunc, .nilFunc, .nilFunc, .nilFunc]) M5 M6 ((f.cls (i:=0) rfl).lit (k:=0) (m:=5) rfl)) (cK.tmp rfl cK.nil)) (Lj rfl)) ?_)))
 have o:=f.pk []
 exact⟨rfl,o⟩
def eu (a:aN):Int:=
 if a.av=1 then bnd (pz a) λ e=>if(e.av=a.av)/\(e.aZ=a.aZ)/\(e.aG=a.aG)/\(e.aJ=a.aJ)/\(e.aR=a.aR)/\(e.aV=a.aV) then bnd (nG a) λ j=>j else 40 else if a.av=2 then bnd (sI a) λ f=>if(f.av=a.av)/\(f.aZ=a.aZ)/\(f.aG=a.aG)/\(f.aJ=a.aJ)/\(f.aR=a.aR)/\(f.aV=a.aV) then bnd (pE a) λ k=>k else 40 else if a.av=3 then bnd (pz a) λ b=>if(b.av=a.av)/\(b.aZ=a.aZ)/\(b.aG=a.aG)/\(b.aJ=a.aJ)/\(b.aR=a.aR)/\(b.aV=a.aV) then bnd (nG a) λ g=>g else 40 else if a.av=4 then bnd (sJ a) λ c=>if(c.av=a.av)/\(c.aZ=a.aZ)/\(c.aG=a.aG)/\(c.aJ=a.aJ)/\(c.aR=a.aR)/\(c.aV=a.aV) then bnd (nR a) λ h=>h else 40 else if a.av=5 then bnd (rD a) λ d=>if(d.av=a.av)/\(d.aZ=a.aZ)/\(d.aG=a.aG)/\(d.aJ=a.aJ)/\(d.aR=a.aR)/\(d.aV=a.aV) then bnd (mD a) λ i=>i else 40 else 40
theorem sj (w D) (a:aN) (r0) (H:Own w D w []) (hr:eu a=r0):
    Calls v5 139 #[.agg (aN.cells a).toArray] w (dA λ v w'=>v=vI r0/\Own w D w' []/\(¬ (r0=0)\/(1<=a.av/\a.av<=5))):=by
 refine cb Tryz.func139 ?_
 refine sr ?_
 refine dn (aN.cells a) 72 H ?_
 intro dx gK t
 refine Ar rfl (Kz (vP dx 0) (Lz (vI a.av) t 0 C2 ?_))
 by_cases l:a.av=1
 obtain⟨gL,aS,eH,aT,eO⟩:=Iu t
 refine cl N1 (uA _ _ a.av aS (of_decide_eq_true (dT l))) ?_
 rintro _ gM ⟨rfl,aU⟩
 have dz:=aT _ _ aU
 refine Mz rfl (Kz (.agg #[.bool false, .func (.func 172) #[] #[], .func (.func 173) #[] #[], .func (.func 174) #[] #[], .func (.func 175) #[] #[]]) (Kz (.bool true) ?_))
 refine dn [.bool false, .nilFunc, .nilFunc, .nilFunc, .nilFunc] 231 dz ?_
 intro aV gN dB
 refine df [.bool false, .func (.func 172) #[] #[], .func (.func 173) #[] #[], .func (.func 174) #[] #[], .func (.func 175) #[] #[]] 0 dB M6 ?_
 intro gP dC
 refine An rfl (Ik (Ik ?_))
 refine pM [] (IE (IE IQ)) dC ?_
 intro gQ dD
 refine qv 0 rfl rfl (qk (.bool false) 1 rfl (qv 2 rfl rfl (Iy (v:=vP aV 1) (rs:= []) 3 rfl rfl rfl rfl e7 (λ _ _=>yk) (Iy (v:= .func (.func 172) #[] #[]) (rs:= []) 4 rfl rfl rfl rfl e7 (λ _ ⟨_,h⟩=>IB rfl (bJ.one N2 (I1 (h.cls (i:=0) rfl) rfl))) (Iy (v:= .agg (aN.cells a).toArray) (rs:= []) 5 rfl rfl rfl rfl e7 (λ _ ⟨_,h⟩=>IB rfl (IJ (cs:=(aN.cells a)) M8 M7 ((h.cls (i:=1) rfl).lit (k:=0) (m:=6) rfl))) (Iy (v:= .agg (aN.cells a).toArray) (rs:= []) 7 rfl rfl rfl rfl e7 (λ _ ⟨_,h⟩=>IB rfl (IJ (cs:=(aN.cells a)) M8 M7 ((h.cls (i:=1) rfl).lit (k:=0) (m:=6) rfl))) ?_))))))
 obtain⟨f,F⟩:∃ q,pz a=q:=⟨_,rfl⟩
 obtain⟨gT,aW,eP,aX,eQ⟩:=Iu dD
 refine Jl 6 rfl rfl rfl rfl e7 (IY Tryz.call172 rfl rfl (vV _ _ a f aW F) ?_)
 rintro _ gU ⟨rfl,aY⟩
 have G:=aX _ _ aY
 refine⟨.inr ⟨_,G⟩, ?_⟩
 refine Iy (v:= .bool (decide (¬ ((f.av=a.av)/\(f.aZ=a.aZ)/\(f.aG=a.aG)/\(f.aJ=a.aJ)/\(f.aR=a.aR)/\(f.aV=a.aV))))) (rs:= []) 8 rfl rfl rfl rfl e7 (λ _ _=>IM (e:= !(decide ((f.av=a.av)/\(f.aZ=a.aZ)/\(f.aG=a.aG)/\(f.aJ=a.aJ)/\(f.aR=a.aR)/\(f.aV=a.aV)))) (Jo rfl rfl e7 rfl (iQ.struct N3 e7 (iC.dec (iC.cons (u:=vI f.av) (v:=vI a.av) f2 (λ _=>by kernel_rfl) (λ _=>by kernel_rfl) (iQ.int v8) (iC.cons (u:= .string ⟨v6 f.aZ⟩) (v:= .string ⟨v6 a.aZ⟩) f2 (λ _=>by kernel_rfl) (λ _=>by kernel_rfl) (iQ.string v9) (iC.cons (u:= .string ⟨v6 f.aG⟩) (v:= .string ⟨v6 a.aG⟩) f2 (λ _=>by kernel_rfl) (λ _=>by kernel_rfl) (iQ.string v9) (iC.cons (u:= .string ⟨v6 f.aJ⟩) (v:= .string ⟨v6 a.aJ⟩) f2 (λ _=>by kernel_rfl) (λ _=>by kernel_rfl) (iQ.string v9) (iC.cons (u:= .string ⟨v6 f.aR⟩) (v:= .string ⟨v6 a.aR⟩) f2 (λ _=>by kernel_rfl) (λ _=>by kernel_rfl) (iQ.string v9) (iC.cons (u:=vI f.aV) (v:=vI a.aV) f2 (λ _=>by kernel_rfl) (λ _=>by kernel_rfl) (iQ.int v8) (iC.nil.up (Lp _)))))))) ((congrArg (decide (f.av=a.av) && ·) ((congrArg (decide (f.aZ=a.aZ) && ·) ((congrArg (decide (f.aG=a.aG) && ·) ((congrArg (decide (f.aJ=a.aJ) && ·) ((congrArg (decide (f.aR=a.aR) && ·) o9).trans gG)).trans gG)).trans gG)).trans gG)).trans gG)))) decide_not.symm) (qt (v:= .bool (decide (¬ ((f.av=a.av)/\(f.aZ=a.aZ)/\(f.aG=a.aG)/\(f.aJ=a.aJ)/\(f.aR=a.aR)/\(f.aV=a.aV))))) 9 rfl (λ _ _=>Io rfl rfl rfl) (qn (Iq ?_)))
 by_cases N:(f.av=a.av)/\(f.aZ=a.aZ)/\(f.aG=a.aG)/\(f.aJ=a.aJ)/\(f.aR=a.aR)/\(f.aV=a.aV)
 refine jF (dF (Lr N)) (sk (sr (Kz (vP aV 2) (Lz (.func (.func 173) #[] #[]) G 0 N4 (La (aN.cells a) G 1 M8 M7 ?_)))))
 obtain⟨aZ,P⟩:∃ q,nG a=q:=⟨_,rfl⟩
 obtain⟨gV,bf,eT,bg,eU⟩:=Iu G
 refine WL.do rfl (IY Tryz.call173 rfl rfl (uB _ _ a aZ bf P) ?_)
 rintro _ gW ⟨rfl,bi⟩
 have dE:=bg _ _ bi
 refine An rfl (rt (rs ?_))
 have dG:=dE.pk []
 obtain rfl:_=aZ:=zj hr (et (ip l) (et (ae F) (et (ip N) (ae P))))
 exact⟨rfl,dG,e6⟩
 refine jT (dT N) (sr (An rfl (rt (tR (rs ?_)))))
 have dH:=G.pk []
 obtain rfl:_=40:=zj hr (et (ip l) (et (ae F) (iN N)))
 exact⟨rfl,dH,e6⟩
 by_cases n:a.av=2
 obtain⟨gX,bn,eX,bq,eY⟩:=Iu t
 refine cl N1 (uC _ _ a.av bn (of_decide_eq_true (dT n))) ?_
 rintro _ gY ⟨rfl,bu⟩
 have dI:=bq _ _ bu
 refine Mz rfl (Kz (.agg #[.bool true, .func (.func 176) #[] #[], .func (.func 177) #[] #[], .func (.func 174) #[] #[], .func (.func 178) #[] #[]]) (Kz (.bool true) ?_))
 refine dn [.bool false, .nilFunc, .nilFunc, .nilFunc, .nilFunc] 231 dI ?_
 intro bv gZ dJ
 refine df [.bool true, .func (.func 176) #[] #[], .func (.func 177) #[] #[], .func (.func 174) #[] #[], .func (.func 178) #[] #[]] 0 dJ M6 ?_
 intro ib dK
 refine An rfl (Ik (Ik ?_))
 refine pM [] (IE (IE IQ)) dK ?_
 intro ic dL
 refine qv 0 rfl rfl (qk (.bool false) 1 rfl (qv 2 rfl rfl (Iy (v:=vP bv 1) (rs:= []) 3 rfl rfl rfl rfl e7 (λ _ _=>yk) (Iy (v:= .func (.func 176) #[] #[]) (rs:= []) 4 rfl rfl rfl rfl e7 (λ _ ⟨_,h⟩=>IB rfl (bJ.one N2 (I1 (h.cls (i:=0) rfl) rfl))) (Iy (v:= .agg (aN.cells a).toArray) (rs:= []) 5 rfl rfl rfl rfl e7 (λ _ ⟨_,h⟩=>IB rfl (IJ (cs:=(aN.cells a)) M8 M7 ((h.cls (i:=1) rfl).lit (k:=0) (m:=6) rfl))) (Iy (v:= .agg (aN.cells a).toArray) (rs:= []) 7 rfl rfl rfl rfl e7 (λ _ ⟨_,h⟩=>IB rfl (IJ (cs:=(aN.cells a)) M8 M7 ((h.cls (i:=1) rfl).lit (k:=0) (m:=6) rfl))) ?_))))))
 obtain⟨g,I⟩:∃ q,sI a=q:=⟨_,rfl⟩
 obtain⟨ig,bz,eZ,bA,fe⟩:=Iu dL
 refine Jl 6 rfl rfl rfl rfl e7 (IY Tryz.call176 rfl rfl (zq _ _ a g bz I) ?_)
 rintro _ ik ⟨rfl,bB⟩
 have J:=bA _ _ bB
 refine⟨.inr ⟨_,J⟩, ?_⟩
 refine Iy (v:= .bool (decide (¬ ((g.av=a.av)/\(g.aZ=a.aZ)/\(g.aG=a.aG)/\(g.aJ=a.aJ)/\(g.aR=a.aR)/\(g.aV=a.aV))))) (rs:= []) 8 rfl rfl rfl rfl e7 (λ _ _=>IM (e:= !(decide ((g.av=a.av)/\(g.aZ=a.aZ)/\(g.aG=a.aG)/\(g.aJ=a.aJ)/\(g.aR=a.aR)/\(g.aV=a.aV)))) (Jo rfl rfl e7 rfl (iQ.struct N3 e7 (iC.dec (iC.cons (u:=vI g.av) (v:=vI a.av) f2 (λ _=>by kernel_rfl) (λ _=>by kernel_rfl) (iQ.int v8) (iC.cons (u:= .string ⟨v6 g.aZ⟩) (v:= .string ⟨v6 a.aZ⟩) f2 (λ _=>by kernel_rfl) (λ _=>by kernel_rfl) (iQ.string v9) (iC.cons (u:= .string ⟨v6 g.aG⟩) (v:= .string ⟨v6 a.aG⟩) f2 (λ _=>by kernel_rfl) (λ _=>by kernel_rfl) (iQ.string v9) (iC.cons (u:= .string ⟨v6 g.aJ⟩) (v:= .string ⟨v6 a.aJ⟩) f2 (λ _=>by kernel_rfl) (λ _=>by kernel_rfl) (iQ.string v9) (iC.cons (u:= .string ⟨v6 g.aR⟩) (v:= .string ⟨v6 a.aR⟩) f2 (λ _=>by kernel_rfl) (λ _=>by kernel_rfl) (iQ.string v9) (iC.cons (u:=vI g.aV) (v:=vI a.aV) f2 (λ _=>by kernel_rfl) (λ _=>by kernel_rfl) (iQ.int v8) (iC.nil.up (Lp _)))))))) ((congrArg (decide (g.av=a.av) && ·) ((congrArg (decide (g.aZ=a.aZ) && ·) ((congrArg (decide (g.aG=a.aG) && ·) ((congrArg (decide (g.aJ=a.aJ) && ·) ((congrArg (decide (g.aR=a.aR) && ·) o9).trans gG)).trans gG)).trans gG)).trans gG)).trans gG)))) decide_not.symm) (qt (v:= .bool (decide (¬ ((g.av=a.av)/\(g.aZ=a.aZ)/\(g.aG=a.aG)/\(g.aJ=a.aJ)/\(g.aR=a.aR)/\(g.aV=a.aV))))) 9 rfl (λ _ _=>Io rfl rfl rfl) (qn (Iq ?_)))
 by_cases O:(g.av=a.av)/\(g.aZ=a.aZ)/\(g.aG=a.aG)/\(g.aJ=a.aJ)/\(g.aR=a.aR)/\(g.aV=a.aV)
 refine jF (dF (Lr O)) (sk (sr (Kz (vP bv 2) (Lz (.func (.func 177) #[] #[]) J 0 N4 (La (aN.cells a) J 1 M8 M7 ?_)))))
 obtain⟨bC,Q⟩:∃ q,pE a=q:=⟨_,rfl⟩
 obtain⟨il,bD,fo,bE,fq⟩:=Iu J
 refine WL.do rfl (IY Tryz.call177 rfl rfl (xW _ _ a bC bD Q) ?_)
 rintro _ iq ⟨rfl,X⟩
 have bF:=bE _ _ X
 refine An rfl (rt (rs ?_))
 have bG:=bF.pk []
 obtain rfl:_=bC:=zj hr (et (iN l) (et (ip n) (et (ae I) (et (ip O) (ae Q)))))
 exact⟨rfl,bG,e6⟩
 refine jT (dT O) (sr (An rfl (rt (tR (rs ?_)))))
 have bH:=J.pk []
 obtain rfl:_=40:=zj hr (et (iN l) (et (ip n) (et (ae I) (iN O))))
 exact⟨rfl,bH,e6⟩
 by_cases j:a.av=3
 obtain⟨fu,Y,dM,Z,dN⟩:=Iu t
 refine cl N1 (uD _ _ a.av Y (of_decide_eq_true (dT j))) ?_
 rintro _ fw ⟨rfl,aa⟩
 have bI:=Z _ _ aa
 refine Mz rfl (Kz (.agg #[.bool true, .func (.func 172) #[] #[], .func (.func 173) #[] #[], .func (.func 174) #[] #[], .func (.func 179) #[] #[]]) (Kz (.bool true) ?_))
 refine dn [.bool false, .nilFunc, .nilFunc, .nilFunc, .nilFunc] 231 bI ?_
 intro R fA bK
 refine df [.bool true, .func (.func 172) #[] #[], .func (.func 173) #[] #[], .func (.func 174) #[] #[], .func (.func 179) #[] #[]] 0 bK M6 ?_
 intro fB bL
 refine An rfl (Ik (Ik ?_))
 refine pM [] (IE (IE IQ)) bL ?_
 intro fC bM
 refine qv 0 rfl rfl (qk (.bool false) 1 rfl (qv 2 rfl rfl (Iy (v:=vP R 1) (rs:= []) 3 rfl rfl rfl rfl e7 (λ _ _=>yk) (Iy (v:= .func (.func 172) #[] #[]) (rs:= []) 4 rfl rfl rfl rfl e7 (λ _ ⟨_,h⟩=>IB rfl (bJ.one N2 (I1 (h.cls (i:=0) rfl) rfl))) (Iy (v:= .agg (aN.cells a).toArray) (rs:= []) 5 rfl rfl rfl rfl e7 (λ _ ⟨_,h⟩=>IB rfl (IJ (cs:=(aN.cells a)) M8 M7 ((h.cls (i:=1) rfl).lit (k:=0) (m:=6) rfl))) (Iy (v:= .agg (aN.cells a).toArray) (rs:= []) 7 rfl rfl rfl rfl e7 (λ _ ⟨_,h⟩=>IB rfl (IJ (cs:=(aN.cells a)) M8 M7 ((h.cls (i:=1) rfl).lit (k:=0) (m:=6) rfl))) ?_))))))
 obtain⟨b,x⟩:∃ q,pz a=q:=⟨_,rfl⟩
 obtain⟨fD,af,dO,ag,dP⟩:=Iu bM
 refine Jl 6 rfl rfl rfl rfl e7 (IY Tryz.call172 rfl rfl (vV _ _ a b af x) ?_)
 rintro _ fE ⟨rfl,ah⟩
 have p:=ag _ _ ah
 refine⟨.inr ⟨_,p⟩, ?_⟩
 refine Iy (v:= .bool (decide (¬ ((b.av=a.av)/\(b.aZ=a.aZ)/\(b.aG=a.aG)/\(b.aJ=a.aJ)/\(b.aR=a.aR)/\(b.aV=a.aV))))) (rs:= []) 8 rfl rfl rfl rfl e7 (λ _ _=>IM (e:= !(decide ((b.av=a.av)/\(b.aZ=a.aZ)/\(b.aG=a.aG)/\(b.aJ=a.aJ)/\(b.aR=a.aR)/\(b.aV=a.aV)))) (Jo rfl rfl e7 rfl (iQ.struct N3 e7 (iC.dec (iC.cons (u:=vI b.av) (v:=vI a.av) f2 (λ _=>by kernel_rfl) (λ _=>by kernel_rfl) (iQ.int v8) (iC.cons (u:= .string ⟨v6 b.aZ⟩) (v:= .string ⟨v6 a.aZ⟩) f2 (λ _=>by kernel_rfl) (λ _=>by kernel_rfl) (iQ.string v9) (iC.cons (u:= .string ⟨v6 b.aG⟩) (v:= .string ⟨v6 a.aG⟩) f2 (λ _=>by kernel_rfl) (λ _=>by kernel_rfl) (iQ.string v9) (iC.cons (u:= .string ⟨v6 b.aJ⟩) (v:= .string ⟨v6 a.aJ⟩) f2 (λ _=>by kernel_rfl) (λ _=>by kernel_rfl) (iQ.string v9) (iC.cons (u:= .string ⟨v6 b.aR⟩) (v:= .string ⟨v6 a.aR⟩) f2 (λ _=>by kernel_rfl) (λ _=>by kernel_rfl) (iQ.string v9) (iC.cons (u:=vI b.aV) (v:=vI a.aV) f2 (λ _=>by kernel_rfl) (λ _=>by kernel_rfl) (iQ.int v8) (iC.nil.up (Lp _)))))))) ((congrArg (decide (b.av=a.av) && ·) ((congrArg (decide (b.aZ=a.aZ) && ·) ((congrArg (decide (b.aG=a.aG) && ·) ((congrArg (decide (b.aJ=a.aJ) && ·) ((congrArg (decide (b.aR=a.aR) && ·) o9).trans gG)).trans gG)).trans gG)).trans gG)).trans gG)))) decide_not.symm) (qt (v:= .bool (decide (¬ ((b.av=a.av)/\(b.aZ=a.aZ)/\(b.aG=a.aG)/\(b.aJ=a.aJ)/\(b.aR=a.aR)/\(b.aV=a.aV))))) 9 rfl (λ _ _=>Io rfl rfl rfl) (qn (Iq ?_)))
 by_cases A:(b.av=a.av)/\(b.aZ=a.aZ)/\(b.aG=a.aG)/\(b.aJ=a.aJ)/\(b.aR=a.aR)/\(b.aV=a.aV)
 refine jF (dF (Lr A)) (sk (sr (Kz (vP R 2) (Lz (.func (.func 173) #[] #[]) p 0 N4 (La (aN.cells a) p 1 M8 M7 ?_)))))
 obtain⟨S,K⟩:∃ q,nG a=q:=⟨_,rfl⟩
 obtain⟨fF,ai,dQ,aj,dR⟩:=Iu p
 refine WL.do rfl (IY Tryz.call173 rfl rfl (uB _ _ a S ai K) ?_)
 rintro _ fG ⟨rfl,ak⟩
 have bN:=aj _ _ ak
 refine An rfl (rt (rs ?_))
 have bO:=bN.pk []
 obtain rfl:_=S:=zj hr (et (iN l) (et (iN n) (et (ip j) (et (ae x) (et (ip A) (ae K))))))
 exact⟨rfl,bO,e6⟩
 refine jT (dT A) (sr (An rfl (rt (tR (rs ?_)))))
 have bP:=p.pk []
 obtain rfl:_=40:=zj hr (et (iN l) (et (iN n) (et (ip j) (et (ae x) (iN A)))))
 exact⟨rfl,bP,e6⟩
 by_cases o:a.av=4
 obtain⟨fH,au,dS,av,dU⟩:=Iu t
 refine cl N1 (uE _ _ a.av au (of_decide_eq_true (dT o))) ?_
 rintro _ fI ⟨rfl,ax⟩
 have bQ:=av _ _ ax
 refine Mz rfl (Kz (.agg #[.bool false, .func (.func 180) #[] #[], .func (.func 181) #[] #[], .func (.func 182) #[] #[], .func (.func 183) #[] #[]]) (Kz (.bool true) ?_))
 refine dn [.bool false, .nilFunc, .nilFunc, .nilFunc, .nilFunc] 231 bQ ?_
 intro T fJ bR
 refine df [.bool false, .func (.func 180) #[] #[], .func (.func 181) #[] #[], .func (.func 182) #[] #[], .func (.func 183) #[] #[]] 0 bR M6 ?_
 intro fK bS
 refine An rfl (Ik (Ik ?_))
 refine pM [] (IE (IE IQ)) bS ?_
 intro fM bT
 refine qv 0 rfl rfl (qk (.bool false) 1 rfl (qv 2 rfl rfl (Iy (v:=vP T 1) (rs:= []) 3 rfl rfl rfl rfl e7 (λ _ _=>yk) (Iy (v:= .func (.func 180) #[] #[]) (rs:= []) 4 rfl rfl rfl rfl e7 (λ _ ⟨_,h⟩=>IB rfl (bJ.one N2 (I1 (h.cls (i:=0) rfl) rfl))) (Iy (v:= .agg (aN.cells a).toArray) (rs:= []) 5 rfl rfl rfl rfl e7 (λ _ ⟨_,h⟩=>IB rfl (IJ (cs:=(aN.cells a)) M8 M7 ((h.cls (i:=1) rfl).lit (k:=0) (m:=6) rfl))) (Iy (v:= .agg (aN.cells a).toArray) (rs:= []) 7 rfl rfl rfl rfl e7 (λ _ ⟨_,h⟩=>IB rfl (IJ (cs:=(aN.cells a)) M8 M7 ((h.cls (i:=1) rfl).lit (k:=0) (m:=6) rfl))) ?_))))))
 obtain⟨c,y⟩:∃ q,sJ a=q:=⟨_,rfl⟩
 obtain⟨fO,ay,dV,az,dW⟩:=Iu bT
 refine Jl 6 rfl rfl rfl rfl e7 (IY Tryz.call180 rfl rfl (zt _ _ a c ay y) ?_)
 rintro _ fP ⟨rfl,aA⟩
 have r:=az _ _ aA
 refine⟨.inr ⟨_,r⟩, ?_⟩
 refine Iy (v:= .bool (decide (¬ ((c.av=a.av)/\(c.aZ=a.aZ)/\(c.aG=a.aG)/\(c.aJ=a.aJ)/\(c.aR=a.aR)/\(c.aV=a.aV))))) (rs:= []) 8 rfl rfl rfl rfl e7 (λ _ _=>IM (e:= !(decide ((c.av=a.av)/\(c.aZ=a.aZ)/\(c.aG=a.aG)/\(c.aJ=a.aJ)/\(c.aR=a.aR)/\(c.aV=a.aV)))) (Jo rfl rfl e7 rfl (iQ.struct N3 e7 (iC.dec (iC.cons (u:=vI c.av) (v:=vI a.av) f2 (λ _=>by kernel_rfl) (λ _=>by kernel_rfl) (iQ.int v8) (iC.cons (u:= .string ⟨v6 c.aZ⟩) (v:= .string ⟨v6 a.aZ⟩) f2 (λ _=>by kernel_rfl) (λ _=>by kernel_rfl) (iQ.string v9) (iC.cons (u:= .string ⟨v6 c.aG⟩) (v:= .string ⟨v6 a.aG⟩) f2 (λ _=>by kernel_rfl) (λ _=>by kernel_rfl) (iQ.string v9) (iC.cons (u:= .string ⟨v6 c.aJ⟩) (v:= .string ⟨v6 a.aJ⟩) f2 (λ _=>by kernel_rfl) (λ _=>by kernel_rfl) (iQ.string v9) (iC.cons (u:= .string ⟨v6 c.aR⟩) (v:= .string ⟨v6 a.aR⟩) f2 (λ _=>by kernel_rfl) (λ _=>by kernel_rfl) (iQ.string v9) (iC.cons (u:=vI c.aV) (v:=vI a.aV) f2 (λ _=>by kernel_rfl) (λ _=>by kernel_rfl) (iQ.int v8) (iC.nil.up (Lp _)))))))) ((congrArg (decide (c.av=a.av) && ·) ((congrArg (decide (c.aZ=a.aZ) && ·) ((congrArg (decide (c.aG=a.aG) && ·) ((congrArg (decide (c.aJ=a.aJ) && ·) ((congrArg (decide (c.aR=a.aR) && ·) o9).trans gG)).trans gG)).trans gG)).trans gG)).trans gG)))) decide_not.symm) (qt (v:= .bool (decide (¬ ((c.av=a.av)/\(c.aZ=a.aZ)/\(c.aG=a.aG)/\(c.aJ=a.aJ)/\(c.aR=a.aR)/\(c.aV=a.aV))))) 9 rfl (λ _ _=>Io rfl rfl rfl) (qn (Iq ?_)))
 by_cases B:(c.av=a.av)/\(c.aZ=a.aZ)/\(c.aG=a.aG)/\(c.aJ=a.aJ)/\(c.aR=a.aR)/\(c.aV=a.aV)
 refine jF (dF (Lr B)) (sk (sr (Kz (vP T 2) (Lz (.func (.func 181) #[] #[]) r 0 N4 (La (aN.cells a) r 1 M8 M7 ?_)))))
 obtain⟨U,L⟩:∃ q,nR a=q:=⟨_,rfl⟩
 obtain⟨fQ,aB,dX,aC,dY⟩:=Iu r
 refine WL.do rfl (IY Tryz.call181 rfl rfl (xY _ _ a U aB L) ?_)
 rintro _ fT ⟨rfl,aD⟩
 have bU:=aC _ _ aD
 refine An rfl (rt (rs ?_))
 have bV:=bU.pk []
 obtain rfl:_=U:=zj hr (et (iN l) (et (iN n) (et (iN j) (et (ip o) (et (ae y) (et (ip B) (ae L)))))))
 exact⟨rfl,bV,e6⟩
 refine jT (dT B) (sr (An rfl (rt (tR (rs ?_)))))
 have bW:=r.pk []
 obtain rfl:_=40:=zj hr (et (iN l) (et (iN n) (et (iN j) (et (ip o) (et (ae y) (iN B))))))
 exact⟨rfl,bW,e6⟩
 by_cases C:a.av=5
 obtain⟨fU,aF,dZ,aG,d9⟩:=Iu t
 refine cl N1 (uF _ _ a.av aF (of_decide_eq_true (dT C))) ?_
 rintro _ fV ⟨rfl,aH⟩
 have bX:=aG _ _ aH
 refine Mz rfl (Kz (.agg #[.bool true, .func (.func 184) #[] #[], .func (.func 185) #[] #[], .func (.func 182) #[] #[], .func (.func 186) #[] #[]]) (Kz (.bool true) ?_))
 refine dn [.bool false, .nilFunc, .nilFunc, .nilFunc, .nilFunc] 231 bX ?_
 intro V fZ bY
 refine df [.bool true, .func (.func 184) #[] #[], .func (.func 185) #[] #[], .func (.func 182) #[] #[], .func (.func 186) #[] #[]] 0 bY M6 ?_
 intro gm bZ
 refine An rfl (Ik (Ik ?_))
 refine pM [] (IE (IE IQ)) bZ ?_
 intro gp cu
 refine qv 0 rfl rfl (qk (.bool false) 1 rfl (qv 2 rfl rfl (Iy (v:=vP V 1) (rs:= []) 3 rfl rfl rfl rfl e7 (λ _ _=>yk) (Iy (v:= .func (.func 184) #[] #[]) (rs:= []) 4 rfl rfl rfl rfl e7 (λ _ ⟨_,h⟩=>IB rfl (bJ.one N2 (I1 (h.cls (i:=0) rfl) rfl))) (Iy (v:= .agg (aN.cells a).toArray) (rs:= []) 5 rfl rfl rfl rfl e7 (λ _ ⟨_,h⟩=>IB rfl (IJ (cs:=(aN.cells a)) M8 M7 ((h.cls (i:=1) rfl).lit (k:=0) (m:=6) rfl))) (Iy (v:= .agg (aN.cells a).toArray) (rs:= []) 7 rfl rfl rfl rfl e7 (λ _ ⟨_,h⟩=>IB rfl (IJ (cs:=(aN.cells a)) M8 M7 ((h.cls (i:=1) rfl).lit (k:=0) (m:=6) rfl))) ?_))))))
 obtain⟨d,z⟩:∃ q,rD a=q:=⟨_,rfl⟩
 obtain⟨gq,aI,ed,aJ,ek⟩:=Iu cu
 refine Jl 6 rfl rfl rfl rfl e7 (IY Tryz.call184 rfl rfl (yG _ _ a d aI z) ?_)
 rintro _ gu ⟨rfl,aK⟩
 have s:=aJ _ _ aK
 refine⟨.inr ⟨_,s⟩, ?_⟩
 refine Iy (v:= .bool (decide (¬ ((d.av=a.av)/\(d.aZ=a.aZ)/\(d.aG=a.aG)/\(d.aJ=a.aJ)/\(d.aR=a.aR)/\(d.aV=a.aV))))) (rs:= []) 8 rfl rfl rfl rfl e7 (λ _ _=>IM (e:= !(decide ((d.av=a.av)/\(d.aZ=a.aZ)/\(d.aG=a.aG)/\(d.aJ=a.aJ)/\(d.aR=a.aR)/\(d.aV=a.aV)))) (Jo rfl rfl e7 rfl (iQ.struct N3 e7 (iC.dec (iC.cons (u:=vI d.av) (v:=vI a.av) f2 (λ _=>by kernel_rfl) (λ _=>by kernel_rfl) (iQ.int v8) (iC.cons (u:= .string ⟨v6 d.aZ⟩) (v:= .string ⟨v6 a.aZ⟩) f2 (λ _=>by kernel_rfl) (λ _=>by kernel_rfl) (iQ.string v9) (iC.cons (u:= .string ⟨v6 d.aG⟩) (v:= .string ⟨v6 a.aG⟩) f2 (λ _=>by kernel_rfl) (λ _=>by kernel_rfl) (iQ.string v9) (iC.cons (u:= .string ⟨v6 d.aJ⟩) (v:= .string ⟨v6 a.aJ⟩) f2 (λ _=>by kernel_rfl) (λ _=>by kernel_rfl) (iQ.string v9) (iC.cons (u:= .string ⟨v6 d.aR⟩) (v:= .string ⟨v6 a.aR⟩) f2 (λ _=>by kernel_rfl) (λ _=>by kernel_rfl) (iQ.string v9) (iC.cons (u:=vI d.aV) (v:=vI a.aV) f2 (λ _=>by kernel_rfl) (λ _=>by kernel_rfl) (iQ.int v8) (iC.nil.up (Lp _)))))))) ((congrArg (decide (d.av=a.av) && ·) ((congrArg (decide (d.aZ=a.aZ) && ·) ((congrArg (decide (d.aG=a.aG) && ·) ((congrArg (decide (d.aJ=a.aJ) && ·) ((congrArg (decide (d.aR=a.aR) && ·) o9).trans gG)).trans gG)).trans gG)).trans gG)).trans gG)))) decide_not.symm) (qt (v:= .bool (decide (¬ ((d.av=a.av)/\(d.aZ=a.aZ)/\(d.aG=a.aG)/\(d.aJ=a.aJ)/\(d.aR=a.aR)/\(d.aV=a.aV))))) 9 rfl (λ _ _=>Io rfl rfl rfl) (qn (Iq ?_)))
 by_cases E:(d.av=a.av)/\(d.aZ=a.aZ)/\(d.aG=a.aG)/\(d.aJ=a.aJ)/\(d.aR=a.aR)/\(d.aV=a.aV)
 refine jF (dF (Lr E)) (sk (sr (Kz (vP V 2) (Lz (.func (.func 185) #[] #[]) s 0 N4 (La (aN.cells a) s 1 M8 M7 ?_)))))
 obtain⟨W,M⟩:∃ q,mD a=q:=⟨_,rfl⟩
 obtain⟨gy,aL,eB,aM,eD⟩:=Iu s
 refine WL.do rfl (IY Tryz.call185 rfl rfl (tL _ _ a W aL M) ?_)
 rintro _ gz ⟨rfl,aO⟩
 have cz:=aM _ _ aO
 refine An rfl (rt (rs ?_))
 have cB:=cz.pk []
 obtain rfl:_=W:=zj hr (et (iN l) (et (iN n) (et (iN j) (et (iN o) (et (ip C) (et (ae z) (et (ip E) (ae M))))))))
 exact⟨rfl,cB,e6⟩
 refine jT (dT E) (sr (An rfl (rt (tR (rs ?_)))))
 have cK:=s.pk []
 obtain rfl:_=40:=zj hr (et (iN l) (et (iN n) (et (iN j) (et (iN o) (et (ip C) (et (ae z) (iN E)))))))
 exact⟨rfl,cK,e6⟩
 obtain⟨gB,aP,eF,aQ,eG⟩:=Iu t
 refine cl N1 (uh _ _ a.av aP e6 e6 e6 e6 e6) ?_
 rintro _ gD ⟨rfl,aR⟩
 have cO:=aQ _ _ aR
 refine Mz rfl (Kz (.agg #[.bool false, .nilFunc, .nilFunc, .nilFunc, .nilFunc]) (Kz (.bool false) ?_))
 refine dn [.bool false, .nilFunc, .nilFunc, .nilFunc, .nilFunc] 231 cO ?_
 intro gF gH cZ
 refine df [.bool false, .nilFunc, .nilFunc, .nilFunc, .nilFunc] 0 cZ M6 ?_
 intro gI dh
 refine An rfl (Ik (Ik ?_))
 refine pM [] (IE (IE IQ)) dh ?_
 intro gJ di
 refine qv 0 rfl rfl (qk (.bool true) 1 rfl (qv 2 rfl rfl (Ip (rs:= []) 3 rfl rfl rfl rfl e7 (Ip (rs:= []) 4 rfl rfl rfl rfl e7 (Ip (rs:= []) 5 rfl rfl rfl rfl e7 (Ip (rs:= []) 6 rfl rfl rfl rfl e7 (Ip (rs:= []) 7 rfl rfl rfl rfl e7 (Ip (rs:= []) 8 rfl rfl rfl rfl e7 (qt (v:= .bool true) 9 rfl (λ _ _=>Iw rfl rfl rfl) (qn (Iq (jt (sr (An rfl (rt (tR (rs ?_)))))))))))))))))
 have dm:=di.pk []
 obtain rfl:_=40:=zj hr (et (iN l) (et (iN n) (et (iN j) (et (iN o) (iN C)))))
 exact⟨rfl,dm,e6⟩
def iH:List aN->Unit ⊕ Int
  | []=>B7 ()
  | b::c=>bnd (eu b) λ a=>if a=0 then iH c else B9 (a)
def mU (l0:List aN):Int:=
 lp (iH l0) λ _=>0
theorem xZ (w D o A B l0 L) (H:Own w D w []) (n:Ro w D λ w'=>aY w' 6 o A (q4 aN.cells l0)) (C:A=l0.length) (P:l0.length<=9223372036854775807) (hr:mU l0=L):
    Calls v5 157 #[.slice o A B] w (dA λ v w'=>v=vI L/\Own w D w' []):=by
 subst C
 refine cb Tryz.func157 ?_
 refine sr (An rfl (Ik (sr (Mz rfl (Kz (vJ l0.length) (Mn rfl (bo ?_)))))))
 have E:=H.pk []
 obtain⟨F,d⟩:=lF λ (a:Nat) w'=>Own w D w' []/\a<=l0.length/\iH l0=iH (r4 a l0)
 refine C1 (λ i:Nat=> [(2,vI 0),(8,vJ i),(7,vJ l0.length),(6, .slice o l0.length B)]) F (λ i=>l0.length - i) 0 ⟨rfl,rfl,rfl,rfl,trivial⟩ (d.2 ⟨E,e6,rfl⟩) ?_
 rintro a Q p
 obtain⟨f,M,g⟩:=d.1 p
 refine sr (Kz (.bool (decide (((a:Nat):Int) < ((l0.length:Nat):Int)))) (nt (Ik ?_)))
 by_cases r:((a:Nat):Int) < ((l0.length:Nat):Int)
 obtain⟨b,k⟩:=dh (ls:=l0) (i:=a) aN.len f2 (f.ro n) e9
 have l:=drop_at k
 refine jT (dT r) (sk (Ik (bo (sr (fw (.pointer (some ⟨ab o,ao o+a *6,none⟩)) (Iz (mG) rfl rfl ((f.ro n).addr (i:=a) e6) e6) (fw (.agg (aN.cells b).toArray) (IB rfl (IJ (cs:=(aN.cells b)) M8 M7 ((f.ro n).elem aN.len k f2))) ?_))))))
 refine dn [vI 0, .string ⟨v6 ([])⟩, .string ⟨v6 ([])⟩, .string ⟨v6 ([])⟩, .string ⟨v6 ([])⟩,vI 0] 72 f ?_
 intro R S G
 refine df (aN.cells b) 0 G M7 ?_
 intro T s
 refine ns (La (aN.cells b) s 0 M8 M7 ?_)
 obtain⟨c,h⟩:∃ q,eu b=q:=⟨_,rfl⟩
 obtain⟨U,t,N,u,O⟩:=Iu s
 refine cl N5 (sj _ _ b c t h) ?_
 rintro _ V ⟨rfl,x,m⟩
 have y:=u _ _ x
 replace m: ¬ (c=0)\/(1<=b.av/\b.av<=5):=m
 refine Ar rfl (Mz rfl (fw (.bool (decide (¬ (c=0)))) (IM (e:= !(decide (c=0))) yk decide_not.symm) (nt ?_)))
 by_cases j:c=0
 refine jF (dF (Lr j)) (IU (bN (Iq (Il (fw (vJ (a+1)) (Ir (e:=C3.wrap (((a:Nat):Int)+1)) yk f0) (Mz rfl (C4 ?_)))))))
 have I:=y.pk []
 exact II (a+1) ⟨rfl,rfl,rfl,rfl,trivial⟩ (d.2 ⟨I,e6,et (g) (et (congrArg (λ q=>iH q) l) (et (ae h) (ip j)))⟩) (by show l0.length - (a+1) < l0.length - a; omega)
 refine jT (dT j) (sr (Mz rfl (An rfl (rt (bR (tR (tR (bR (tR (rs ?_))))))))))
 have J:=y.pk []
 obtain rfl:_=c:=zj hr (gL (et (g) (et (congrArg (λ q=>iH q) l) (et (ae h) (iN j)))))
 exact⟨rfl,J⟩
 refine jF (dF r) (C5 (IC ?_))
 have z:iH l0=B7 ():=et (g) (et (congrArg (λ q=>iH q) (dZ (ls:=l0) (i:=a) e6)) rfl)
 refine IC (IK (Iq (sr (An rfl (rt (rs ?_))))))
 have K:=f.pk []
 obtain rfl:_=0:=zj hr (mF z)
 exact⟨rfl,K⟩
def kC (l0:List aN):Int:=
 if((l0.length:Nat):Int) < 1 then 3 else if((l0.length:Nat):Int) > 4 then 3 else bnd (mU l0) λ a=>a
theorem wT (w D i j k l0 l) (H:Own w D w []) (m:Ro w D λ w'=>aY w' 6 i j (q4 aN.cells l0)) (n:j=l0.length) (u:l0.length<=9223372036854775807) (hr:kC l0=l):
    Calls v5 137 #[.slice i j k] w (dA λ v w'=>v=vI l/\Own w D w' []/\(¬ (l=0)\/(1<=l0.length/\l0.length<=4))):=by
 subst n
 refine cb Tryz.func137 ?_
 refine sr (An rfl (Ik (sr (Mz rfl (Kz (vJ l0.length) (Kz (.bool (decide (((l0.length:Nat):Int) < 1))) (Mz rfl ?_)))))))
 by_cases a:((l0.length:Nat):Int) < 1
 refine Sz (dT a) (Sz (dT a) (Sz (dT a) (fw (.bool true) (Iw rfl (dT a) rfl) (nt (jt (sr (An rfl (rt (tR (rs ?_))))))))))
 have o:=H.pk []
 obtain rfl:_=3:=zj hr (ip a)
 exact⟨rfl,o,e6⟩
 refine gw (.slice i l0.length k) (dF a) (IA rfl) (Gz (vJ l0.length) (dF a) (Gz (.bool (decide (((l0.length:Nat):Int) > 4))) (dF a) (fw (.bool (decide (((l0.length:Nat):Int) > 4))) (Io rfl (dF a) rfl) (nt ?_))))
 by_cases b:((l0.length:Nat):Int) > 4
 refine jT (dT b) (sr (An rfl (rt (tR (rs ?_)))))
 have p:=H.pk []
 obtain rfl:_=3:=zj hr (et (iN a) (ip b))
 exact⟨rfl,p,e6⟩
 refine jF (dF b) (sk (sr (Mz rfl ?_)))
 obtain⟨d,c⟩:∃ q,mU l0=q:=⟨_,rfl⟩
 obtain⟨x,e,f,g,t⟩:=Iu H
 refine cl Tryz.call157 (xZ _ _ i l0.length k l0 d e (f _ m) rfl e6 c) ?_
 rintro _ y ⟨rfl,h⟩
 have r:=g _ _ h
 refine An rfl (rt (rs ?_))
 have s:=r.pk []
 obtain rfl:_=d:=zj hr (et (iN a) (et (iN b) (ae c)))
 exact⟨rfl,s,e6⟩
def kV:List aN->Unit ⊕ Bool
  | []=>B7 ()
  | b::c=>bnd (eu b) λ a=>if a=0 then kV c else B9 (false)
def ul (l0:List aN):Bool:=
 lp (kV l0) λ _=>true
theorem yH (w D o A B l0 L) (H:Own w D w []) (n:Ro w D λ w'=>aY w' 6 o A (q4 aN.cells l0)) (C:A=l0.length) (P:l0.length<=9223372036854775807) (hr:ul l0=L):
    Calls v5 138 #[.slice o A B, .func (.func 139) #[] #[]] w (dA λ v w'=>v= .bool L/\Own w D w' []):=by
 subst C
 refine cb Tryz.func138 ?_
 refine sr (An rfl (Ik (sr (Mz rfl (Kz (vJ l0.length) (Mn rfl (bo ?_)))))))
 have E:=H.pk []
 obtain⟨F,c⟩:=lF λ (a:Nat) w'=>Own w D w' []/\a<=l0.length/\kV l0=kV (r4 a l0)
 refine C1 (λ i:Nat=> [(4, .bool false),(9,vJ i),(8,vJ l0.length),(7, .slice o l0.length B),(1, .func (.func 139) #[] #[])]) F (λ i=>l0.length - i) 0 ⟨rfl,rfl,rfl,rfl,rfl,trivial⟩ (c.2 ⟨E,e6,rfl⟩) ?_
 rintro a Q p
 obtain⟨d,M,f⟩:=c.1 p
 refine sr (Kz (.bool (decide (((a:Nat):Int) < ((l0.length:Nat):Int)))) (nt (Ik ?_)))
 by_cases r:((a:Nat):Int) < ((l0.length:Nat):Int)
 obtain⟨b,k⟩:=dh (ls:=l0) (i:=a) aN.len f2 (d.ro n) e9
 have l:=drop_at k
 refine jT (dT r) (sk (Ik (bo (sr (fw (.pointer (some ⟨ab o,ao o+a *6,none⟩)) (Iz (mG) rfl rfl ((d.ro n).addr (i:=a) e6) e6) (fw (.agg (aN.cells b).toArray) (IB rfl (IJ (cs:=(aN.cells b)) M8 M7 ((d.ro n).elem aN.len k f2))) ?_))))))
 refine dn [vI 0, .string ⟨v6 ([])⟩, .string ⟨v6 ([])⟩, .string ⟨v6 ([])⟩, .string ⟨v6 ([])⟩,vI 0] 72 d ?_
 intro R S G
 refine df (aN.cells b) 0 G M7 ?_
 intro T s
 refine ns (Mz rfl (La (aN.cells b) s 0 M8 M7 ?_))
 obtain⟨g,h⟩:∃ q,eu b=q:=⟨_,rfl⟩
 obtain⟨U,t,N,u,O⟩:=Iu s
 refine WL.do rfl (IY N5 rfl rfl (sj _ _ b g t h) ?_)
 rintro _ V ⟨rfl,x,m⟩
 have y:=u _ _ x
 replace m: ¬ (g=0)\/(1<=b.av/\b.av<=5):=m
 refine fw (.bool (decide (¬ (g=0)))) (IM (e:= !(decide (g=0))) yk decide_not.symm) (nt ?_)
 by_cases j:g=0
 refine jF (dF (Lr j)) (IU (bN (Iq (Il (fw (vJ (a+1)) (Ir (e:=C3.wrap (((a:Nat):Int)+1)) yk f0) (Mz rfl (C4 ?_)))))))
 have I:=y.pk []
 exact II (a+1) ⟨rfl,rfl,rfl,rfl,rfl,trivial⟩ (c.2 ⟨I,e6,et (f) (et (congrArg (λ q=>kV q) l) (et (ae h) (ip j)))⟩) (by show l0.length - (a+1) < l0.length - a; omega)
 refine jT (dT j) (sr (An rfl (rt (bR (tR (tR (bR (tR (rs ?_)))))))))
 have J:=y.pk []
 obtain rfl:_=false:=zj hr (gL (et (f) (et (congrArg (λ q=>kV q) l) (et (ae h) (iN j)))))
 exact⟨rfl,J⟩
 refine jF (dF r) (C5 (IC ?_))
 have z:kV l0=B7 ():=et (f) (et (congrArg (λ q=>kV q) (dZ (ls:=l0) (i:=a) e6)) rfl)
 refine IC (IK (Iq (sr (An rfl (rt (rs ?_))))))
 have K:=d.pk []
 obtain rfl:_=true:=zj hr (mF z)
 exact⟨rfl,K⟩
def vW (a:aN):Bool:=
 if a.av=1 then false else if a.av=2 then true else if a.av=3 then true else if a.av=4 then false else if a.av=5 then true else false
theorem Ay (w D) (a:aN) (r0) (H:Own w D w []) (hr:vW a=r0):
    Calls v5 159 #[.agg (aN.cells a).toArray] w (dA λ v w'=>v= .bool r0/\Own w D w' []):=by
 refine cb Tryz.func159 ?_
 refine sr ?_
 refine dn (aN.cells a) 72 H ?_
 intro S aW b
 refine Ar rfl (Kz (vP S 0) (Lz (vI a.av) b 0 C2 ?_))
 by_cases c:a.av=1
 obtain⟨aX,m,aD,n,aF⟩:=Iu b
 refine cl N1 (uA _ _ a.av m (of_decide_eq_true (dT c))) ?_
 rintro _ aY ⟨rfl,o⟩
 have T:=n _ _ o
 refine Mz rfl (Kz (.agg #[.bool false, .func (.func 172) #[] #[], .func (.func 173) #[] #[], .func (.func 174) #[] #[], .func (.func 175) #[] #[]]) (Kz (.bool true) ?_))
 refine dn [.bool false, .nilFunc, .nilFunc, .nilFunc, .nilFunc] 231 T ?_
 intro U aZ V
 refine df [.bool false, .func (.func 172) #[] #[], .func (.func 173) #[] #[], .func (.func 174) #[] #[], .func (.func 175) #[] #[]] 0 V M6 ?_
 intro bf W
 refine An rfl (Ik ?_)
 have p:=W.pk [0]
 refine Il (Mz rfl (Mz rfl (Gz (vP U 0) rfl (Gl (.bool false) rfl p 0 N6 (fw (.bool false) (Iw rfl rfl rfl) (An rfl (rt (rs ?_))))))))
 have X:=p.pk []
 obtain rfl:_=false:=zj hr (ip c)
 exact⟨rfl,X⟩
 by_cases d:a.av=2
 obtain⟨bg,q,aG,r,aH⟩:=Iu b
 refine cl N1 (uC _ _ a.av q (of_decide_eq_true (dT d))) ?_
 rintro _ bi ⟨rfl,s⟩
 have Y:=r _ _ s
 refine Mz rfl (Kz (.agg #[.bool true, .func (.func 176) #[] #[], .func (.func 177) #[] #[], .func (.func 174) #[] #[], .func (.func 178) #[] #[]]) (Kz (.bool true) ?_))
 refine dn [.bool false, .nilFunc, .nilFunc, .nilFunc, .nilFunc] 231 Y ?_
 intro Z bn aa
 refine df [.bool true, .func (.func 176) #[] #[], .func (.func 177) #[] #[], .func (.func 174) #[] #[], .func (.func 178) #[] #[]] 0 aa M6 ?_
 intro bq ae
 refine An rfl (Ik ?_)
 have t:=ae.pk [0]
 refine Il (Mz rfl (Mz rfl (Gz (vP Z 0) rfl (Gl (.bool true) rfl t 0 N6 (fw (.bool true) (Iw rfl rfl rfl) (An rfl (rt (rs ?_))))))))
 have af:=t.pk []
 obtain rfl:_=true:=zj hr (et (iN c) (ip d))
 exact⟨rfl,af⟩
 by_cases e:a.av=3
 obtain⟨bu,u,aI,x,aJ⟩:=Iu b
 refine cl N1 (uD _ _ a.av u (of_decide_eq_true (dT e))) ?_
 rintro _ bv ⟨rfl,y⟩
 have ag:=x _ _ y
 refine Mz rfl (Kz (.agg #[.bool true, .func (.func 172) #[] #[], .func (.func 173) #[] #[], .func (.func 174) #[] #[], .func (.func 179) #[] #[]]) (Kz (.bool true) ?_))
 refine dn [.bool false, .nilFunc, .nilFunc, .nilFunc, .nilFunc] 231 ag ?_
 intro ah bz ai
 refine df [.bool true, .func (.func 172) #[] #[], .func (.func 173) #[] #[], .func (.func 174) #[] #[], .func (.func 179) #[] #[]] 0 ai M6 ?_
 intro bA aj
 refine An rfl (Ik ?_)
 have z:=aj.pk [0]
 refine Il (Mz rfl (Mz rfl (Gz (vP ah 0) rfl (Gl (.bool true) rfl z 0 N6 (fw (.bool true) (Iw rfl rfl rfl) (An rfl (rt (rs ?_))))))))
 have ak:=z.pk []
 obtain rfl:_=true:=zj hr (et (iN c) (et (iN d) (ip e)))
 exact⟨rfl,ak⟩
 by_cases f:a.av=4
 obtain⟨bB,A,aK,B,aL⟩:=Iu b
 refine cl N1 (uE _ _ a.av A (of_decide_eq_true (dT f))) ?_
 rintro _ bC ⟨rfl,C⟩
 have au:=B _ _ C
 refine Mz rfl (Kz (.agg #[.bool false, .func (.func 180) #[] #[], .func (.func 181) #[] #[], .func (.func 182) #[] #[], .func (.func 183) #[] #[]]) (Kz (.bool true) ?_))
 refine dn [.bool false, .nilFunc, .nilFunc, .nilFunc, .nilFunc] 231 au ?_
 intro av bD ax
 refine df [.bool false, .func (.func 180) #[] #[], .func (.func 181) #[] #[], .func (.func 182) #[] #[], .func (.func 183) #[] #[]] 0 ax M6 ?_
 intro bE ay
 refine An rfl (Ik ?_)
 have E:=ay.pk [0]
 refine Il (Mz rfl (Mz rfl (Gz (vP av 0) rfl (Gl (.bool false) rfl E 0 N6 (fw (.bool false) (Iw rfl rfl rfl) (An rfl (rt (rs ?_))))))))
 have az:=E.pk []
 obtain rfl:_=false:=zj hr (et (iN c) (et (iN d) (et (iN e) (ip f))))
 exact⟨rfl,az⟩
 by_cases h:a.av=5
 obtain⟨bF,F,aM,G,aO⟩:=Iu b
 refine cl N1 (uF _ _ a.av F (of_decide_eq_true (dT h))) ?_
 rintro _ bG ⟨rfl,i⟩
 have I:=G _ _ i
 refine Mz rfl (Kz (.agg #[.bool true, .func (.func 184) #[] #[], .func (.func 185) #[] #[], .func (.func 182) #[] #[], .func (.func 186) #[] #[]]) (Kz (.bool true) ?_))
 refine dn [.bool false, .nilFunc, .nilFunc, .nilFunc, .nilFunc] 231 I ?_
 intro J aP K
 refine df [.bool true, .func (.func 184) #[] #[], .func (.func 185) #[] #[], .func (.func 182) #[] #[], .func (.func 186) #[] #[]] 0 K M6 ?_
 intro aQ L
 refine An rfl (Ik ?_)
 have g:=L.pk [0]
 refine Il (Mz rfl (Mz rfl (Gz (vP J 0) rfl (Gl (.bool true) rfl g 0 N6 (fw (.bool true) (Iw rfl rfl rfl) (An rfl (rt (rs ?_))))))))
 have M:=g.pk []
 obtain rfl:_=true:=zj hr (et (iN c) (et (iN d) (et (iN e) (et (iN f) (ip h)))))
 exact⟨rfl,M⟩
 obtain⟨aR,j,aA,k,aB⟩:=Iu b
 refine cl N1 (uh _ _ a.av j e6 e6 e6 e6 e6) ?_
 rintro _ aS ⟨rfl,l⟩
 have N:=k _ _ l
 refine Mz rfl (Kz (.agg #[.bool false, .nilFunc, .nilFunc, .nilFunc, .nilFunc]) (Kz (.bool false) ?_))
 refine dn [.bool false, .nilFunc, .nilFunc, .nilFunc, .nilFunc] 231 N ?_
 intro aT aU O
 refine df [.bool false, .nilFunc, .nilFunc, .nilFunc, .nilFunc] 0 O M6 ?_
 intro aV P
 refine An rfl (Ik ?_)
 have Q:=P.pk [0]
 refine Il (Mz rfl (Mz rfl (Sz rfl (Sz rfl (fw (.bool false) (Io rfl rfl rfl) (An rfl (rt (rs ?_))))))))
 have R:=Q.pk []
 obtain rfl:_=false:=zj hr (et (iN c) (et (iN d) (et (iN e) (et (iN f) (iN h)))))
 exact⟨rfl,R⟩
def qI (c:aN):Int:=
 bnd (vW c) λ a=>if a=true then bnd (eu c) λ b=>b else 40
theorem vX (w D) (a:aN) (t) (H:Own w D w []) (hr:qI a=t):
    Calls v5 140 #[.agg (aN.cells a).toArray] w (dA λ v w'=>v=vI t/\Own w D w' []):=by
 refine cb Tryz.func140 ?_
 refine sr ?_
 refine dn (aN.cells a) 72 H ?_
 intro A B i
 refine An rfl (Ik (sr (La (aN.cells a) i 0 M8 M7 ?_)))
 obtain⟨f,b⟩:∃ q,vW a=q:=⟨_,rfl⟩
 obtain⟨C,j,u,k,x⟩:=Iu i
 refine cl Tryz.call159 (Ay _ _ a f j b) ?_
 rintro _ E ⟨rfl,l⟩
 have g:=k _ _ l
 refine Kz (.bool (!f)) (nt ?_)
 rcases Ls (f) with c | c
 refine jF (cn c) (sk (sr (La (aN.cells a) g 0 M8 M7 ?_)))
 obtain⟨h,d⟩:∃ q,eu a=q:=⟨_,rfl⟩
 obtain⟨F,m,y,n,z⟩:=Iu g
 refine cl N5 (sj _ _ a h m d) ?_
 rintro _ G ⟨rfl,o,e⟩
 have p:=n _ _ o
 replace e: ¬ (h=0)\/(1<=a.av/\a.av<=5):=e
 refine An rfl (rt (rs ?_))
 have r:=p.pk []
 obtain rfl:_=h:=zj hr (et (ae b) (et (ip c) (ae d)))
 exact⟨rfl,r⟩
 refine jT (cn c) (sr (An rfl (rt (tR (rs ?_)))))
 have s:=g.pk []
 obtain rfl:_=40:=zj hr (et (ae b) (fP c))
 exact⟨rfl,s⟩
def kI:List aN->Unit ⊕ Bool
  | []=>B7 ()
  | b::c=>bnd (qI b) λ a=>if a=0 then kI c else B9 (false)
def tN (l0:List aN):Bool:=
 lp (kI l0) λ _=>true
theorem x8 (w D n z A l0 K) (H:Own w D w []) (m:Ro w D λ w'=>aY w' 6 n z (q4 aN.cells l0)) (B:z=l0.length) (O:l0.length<=9223372036854775807) (hr:tN l0=K):
    Calls v5 138 #[.slice n z A, .func (.func 140) #[] #[]] w (dA λ v w'=>v= .bool K/\Own w D w' []):=by
 subst B
 refine cb Tryz.func138 ?_
 refine sr (An rfl (Ik (sr (Mz rfl (Kz (vJ l0.length) (Mn rfl (bo ?_)))))))
 have C:=H.pk []
 obtain⟨E,c⟩:=lF λ (a:Nat) w'=>Own w D w' []/\a<=l0.length/\kI l0=kI (r4 a l0)
 refine C1 (λ i:Nat=> [(4, .bool false),(9,vJ i),(8,vJ l0.length),(7, .slice n l0.length A),(1, .func (.func 140) #[] #[])]) E (λ i=>l0.length - i) 0 ⟨rfl,rfl,rfl,rfl,rfl,trivial⟩ (c.2 ⟨C,e6,rfl⟩) ?_
 rintro a P o
 obtain⟨d,L,f⟩:=c.1 o
 refine sr (Kz (.bool (decide (((a:Nat):Int) < ((l0.length:Nat):Int)))) (nt (Ik ?_)))
 by_cases p:((a:Nat):Int) < ((l0.length:Nat):Int)
 obtain⟨b,k⟩:=dh (ls:=l0) (i:=a) aN.len f2 (d.ro m) e9
 have l:=drop_at k
 refine jT (dT p) (sk (Ik (bo (sr (fw (.pointer (some ⟨ab n,ao n+a *6,none⟩)) (Iz (mG) rfl rfl ((d.ro m).addr (i:=a) e6) e6) (fw (.agg (aN.cells b).toArray) (IB rfl (IJ (cs:=(aN.cells b)) M8 M7 ((d.ro m).elem aN.len k f2))) ?_))))))
 refine dn [vI 0, .string ⟨v6 ([])⟩, .string ⟨v6 ([])⟩, .string ⟨v6 ([])⟩, .string ⟨v6 ([])⟩,vI 0] 72 d ?_
 intro Q R F
 refine df (aN.cells b) 0 F M7 ?_
 intro S r
 refine ns (Mz rfl (La (aN.cells b) r 0 M8 M7 ?_))
 obtain⟨h,g⟩:∃ q,qI b=q:=⟨_,rfl⟩
 obtain⟨T,s,M,t,N⟩:=Iu r
 refine WL.do rfl (IY Tryz.call140 rfl rfl (vX _ _ b h s g) ?_)
 rintro _ U ⟨rfl,u⟩
 have x:=t _ _ u
 refine fw (.bool (decide (¬ (h=0)))) (IM (e:= !(decide (h=0))) yk decide_not.symm) (nt ?_)
 by_cases j:h=0
 refine jF (dF (Lr j)) (IU (bN (Iq (Il (fw (vJ (a+1)) (Ir (e:=C3.wrap (((a:Nat):Int)+1)) yk f0) (Mz rfl (C4 ?_)))))))
 have G:=x.pk []
 exact II (a+1) ⟨rfl,rfl,rfl,rfl,rfl,trivial⟩ (c.2 ⟨G,e6,et (f) (et (congrArg (λ q=>kI q) l) (et (ae g) (ip j)))⟩) (by show l0.length - (a+1) < l0.length - a; omega)
 refine jT (dT j) (sr (An rfl (rt (bR (tR (tR (bR (tR (rs ?_)))))))))
 have I:=x.pk []
 obtain rfl:_=false:=zj hr (gL (et (f) (et (congrArg (λ q=>kI q) l) (et (ae g) (iN j)))))
 exact⟨rfl,I⟩
 refine jF (dF p) (C5 (IC ?_))
 have y:kI l0=B7 ():=et (f) (et (congrArg (λ q=>kI q) (dZ (ls:=l0) (i:=a) e6)) rfl)
 refine IC (IK (Iq (sr (An rfl (rt (rs ?_))))))
 have J:=d.pk []
 obtain rfl:_=true:=zj hr (mF y)
 exact⟨rfl,J⟩
def p8 (d:Int) (l1:List aN):Bool:=
 if d=1 then bnd (kC l1) λ a=>decide (a=0) else if d=3 then if((l1.length:Nat):Int) >= 1 then if((l1.length:Nat):Int)<=24 then bnd (ul l1) λ b=>b else false else false else if((l1.length:Nat):Int)<=6 then bnd (tN l1) λ c=>c else false
theorem yI (w D p g G l l1 S) (H:Own w D w []) (m:Ro w D λ w'=>aY w' 6 g G (q4 aN.cells l1)) (I:G=l1.length) (W:l1.length<=9223372036854775807) (hr:p8 p l1=S):
    Calls v5 115 #[vI p, .slice g G l] w (dA λ v w'=>v= .bool S/\Own w D w' []):=by
 subst I
 refine cb Tryz.func115 ?_
 refine sr (An rfl (Ik (sr (Mn rfl (bo (sr (Kz (.bool (decide (p=1))) (An rfl ?_))))))))
 by_cases b:p=1
 refine jT (dT b) (sr (Mz rfl ?_))
 obtain⟨f,h⟩:∃ q,kC l1=q:=⟨_,rfl⟩
 obtain⟨X,r,s,t,T⟩:=Iu H
 refine cl Tryz.call137 (wT _ _ g l1.length l l1 f r (s _ m) rfl e6 h) ?_
 rintro _ Y ⟨rfl,u,i⟩
 have J:=t _ _ u
 replace i: ¬ (f=0)\/(1<=l1.length/\l1.length<=4):=i
 refine Kz (.bool (decide (f=0))) (An rfl (rt (bR (tR (rs ?_)))))
 have K:=J.pk []
 obtain rfl:_=decide (f=0):=zj hr (et (ip b) (ae h))
 exact⟨rfl,K⟩
 refine jF (dF b) (sr (Kz (.bool (decide (p=3))) (An rfl ?_)))
 by_cases e:p=3
 refine jT (dT e) (sr (Mz rfl (Kz (vJ l1.length) (Kz (.bool (decide (((l1.length:Nat):Int) >= 1))) (Mz rfl ?_)))))
 by_cases a:((l1.length:Nat):Int) >= 1
 refine gw (.slice g l1.length l) (dT a) (IA rfl) (Gz (vJ l1.length) (dT a) (Gz (.bool (decide (((l1.length:Nat):Int)<=24))) (dT a) (fw (.bool (decide (((l1.length:Nat):Int)<=24))) (Iw rfl (dT a) rfl) (Mz rfl ?_))))
 by_cases c:((l1.length:Nat):Int)<=24
 refine gw (.slice g l1.length l) (dT c) (IA rfl) ?_
 obtain⟨n,j⟩:∃ q,ul l1=q:=⟨_,rfl⟩
 obtain⟨Z,x,y,z,U⟩:=Iu H
 refine pW (dT c) Tryz.call138 (yH _ _ g l1.length l l1 n x (y _ m) rfl e6 j) ?_
 rintro _ aa ⟨rfl,A⟩
 have L:=z _ _ A
 refine fw (.bool n) (Iw rfl (dT c) rfl) (An rfl (rt (bR (tR (rs ?_)))))
 have M:=L.pk []
 obtain rfl:_=n:=zj hr (et (iN b) (et (ip e) (et (ip a) (et (ip c) (ae j)))))
 exact⟨rfl,M⟩
 refine Sz (dF c) (Sz (dF c) (fw (.bool false) (Io rfl (dF c) rfl) (An rfl (rt (bR (tR (rs ?_)))))))
 have N:=H.pk []
 obtain rfl:_=false:=zj hr (et (iN b) (et (ip e) (et (ip a) (iN c))))
 exact⟨rfl,N⟩
 refine Sz (dF a) (Sz (dF a) (Sz (dF a) (fw (.bool false) (Io rfl (dF a) rfl) (Mz rfl (Sz rfl (Sz rfl (fw (.bool false) (Io rfl rfl rfl) (An rfl (rt (bR (tR (rs ?_))))))))))))
 have O:=H.pk []
 obtain rfl:_=false:=zj hr (et (iN b) (et (ip e) (iN a)))
 exact⟨rfl,O⟩
 refine jF (dF e) (IU (bN (Iq (sr (Mz rfl (Kz (vJ l1.length) (Kz (.bool (decide (((l1.length:Nat):Int)<=6))) (Mz rfl ?_))))))))
 by_cases d:((l1.length:Nat):Int)<=6
 refine gw (.slice g l1.length l) (dT d) (IA rfl) ?_
 obtain⟨o,k⟩:∃ q,tN l1=q:=⟨_,rfl⟩
 obtain⟨af,B,C,E,V⟩:=Iu H
 refine pW (dT d) Tryz.call138 (x8 _ _ g l1.length l l1 o B (C _ m) rfl e6 k) ?_
 rintro _ ag ⟨rfl,F⟩
 have P:=E _ _ F
 refine fw (.bool o) (Iw rfl (dT d) rfl) (An rfl (rt (rs ?_)))
 have Q:=P.pk []
 obtain rfl:_=o:=zj hr (et (iN b) (et (iN e) (et (ip d) (ae k))))
 exact⟨rfl,Q⟩
 refine Sz (dF d) (Sz (dF d) (fw (.bool false) (Io rfl (dF d) rfl) (An rfl (rt (rs ?_)))))
 have R:=H.pk []
 obtain rfl:_=false:=zj hr (et (iN b) (et (iN e) (iN d)))
 exact⟨rfl,R⟩
def ll (b:Int) (a:Int):Bool:=
 if b=1 then if a >= 1 then decide (a<=4) else false else if b=2 then if a >= 11 then decide (a < 15) else false else decide (a=0)
theorem qJ (w D f c l) (H:Own w D w []) (hr:ll f c=l):
    Calls v5 50 #[vI f,vI c] w (dA λ v w'=>v= .bool l/\Own w D w' []):=by
 refine cb Tryz.func50 ?_
 refine sr (An rfl (Ik (sr (Mn rfl (bo (sr (Kz (.bool (decide (f=1))) (An rfl ?_))))))))
 by_cases d:f=1
 refine jT (dT d) (sr (Mz rfl (Kz (.bool (decide (c >= 1))) (Mz rfl ?_))))
 by_cases a:c >= 1
 refine gw (vI c) (dT a) (IA rfl) (Gz (.bool (decide (c<=4))) (dT a) (fw (.bool (decide (c<=4))) (Iw rfl (dT a) rfl) (An rfl (rt (bR (tR (rs ?_)))))))
 have g:=H.pk []
 obtain rfl:_=decide (c<=4):=zj hr (et (ip d) (ip a))
 exact⟨rfl,g⟩
 refine Sz (dF a) (Sz (dF a) (fw (.bool false) (Io rfl (dF a) rfl) (An rfl (rt (bR (tR (rs ?_)))))))
 have h:=H.pk []
 obtain rfl:_=false:=zj hr (et (ip d) (iN a))
 exact⟨rfl,h⟩
 refine jF (dF d) (sr (Kz (.bool (decide (f=2))) (An rfl ?_)))
 by_cases e:f=2
 refine jT (dT e) (sr (Mz rfl (Kz (.bool (decide (c >= 11))) (Mz rfl ?_))))
 by_cases b:c >= 11
 refine gw (vI c) (dT b) (IA rfl) (Gz (.bool (decide (c < 15))) (dT b) (fw (.bool (decide (c < 15))) (Iw rfl (dT b) rfl) (An rfl (rt (bR (tR (rs ?_)))))))
 have i:=H.pk []
 obtain rfl:_=decide (c < 15):=zj hr (et (iN d) (et (ip e) (ip b)))
 exact⟨rfl,i⟩
 refine Sz (dF b) (Sz (dF b) (fw (.bool false) (Io rfl (dF b) rfl) (An rfl (rt (bR (tR (rs ?_)))))))
 have j:=H.pk []
 obtain rfl:_=false:=zj hr (et (iN d) (et (ip e) (iN b)))
 exact⟨rfl,j⟩
 refine jF (dF e) (IU (bN (Iq (sr (Mz rfl (Kz (.bool (decide (c=0))) (An rfl (rt (rs ?_)))))))))
 have k:=H.pk []
 obtain rfl:_=decide (c=0):=zj hr (et (iN d) (iN e))
 exact⟨rfl,k⟩
def oD (a:bW) (b:Int):Bool:=
 if b=2 then bnd (tJ a.av a.dK) λ c=>c else if b=3 then bnd (oW a.av a.ah.ls) λ d=>d else if b=7 then bnd (p8 a.av a.aB.ls) λ e=>e else if b=11 then bnd (jc a.ag.ls) λ f=>decide (f=0) else if b=12 then bnd (ll 1 a.fA) λ g=>g else if b=13 then bnd (iB a.cu) λ h=>decide (h=0) else true
theorem Bn (w D) (a:bW) (f z g h B i n j C k o r0) (H:Own w D w []) (N:z=a.aB.ls.length) (O:Ro w D λ w'=>aY w' 6 f a.aB.ls.length (q4 aN.cells a.aB.ls)) (aO:a.aB.ls.length<=g/\a.aB.ls.length<=9223372036854775807) (r:s5 af.abs n=a.ah.ls) (P:B=a.ah.ls.length) (Q:Ro w D λ w'=>aY w' 3 h a.ah.ls.length (q4 af.cells n)) (aP:a.ah.ls.length<=i/\a.ah.ls.length<=9223372036854775807) (s:∀ x ∈ n,Ro w D (λ w'=>aY w' 2 x.aj.A x.aj.ls.length (q4 aH.cells x.aj.ls))/\(x.aj.ls.length<=x.aj.c/\x.aj.ls.length<=9223372036854775807)) (R:C=a.ag.ls.length) (S:Ro w D λ w'=>aY w' 2 j a.ag.ls.length (q4 aM.cells a.ag.ls)) (aQ:a.ag.ls.length<=k/\a.ag.ls.length<=9223372036854775807) (bJ:a.aB.ls.length<=140737488355328/\a.ah.ls.length<=140737488355328/\a.ag.ls.length<=140737488355328) (hr:oD a o=r0):
    Calls v5 76 #[.agg (iA a.av a.aI a.eO a.aP a.dK a.fA a.aU a.ax a.aX a.eQ a.bG a.aF a.eG a.cZ a.xN a.fe a.cu.aJ a.cu.aR f z g h B i j C k).toArray,vI o] w (dA λ v w'=>v= .bool r0/\Own w D w' []):=by
 subst N P R
 have aK:=aA r
 refine cb Tryz.func76 ?_
 refine sr ?_
 refine dn (gK a f g h i j k) 42 H ?_
 intro d bK b
 refine An rfl (Ik (sr (Mn rfl (bo (sr (Kz (.bool (decide (o=2))) (An rfl ?_)))))))
 by_cases e:o=2
 refine jT (dT e) (sr (Kz (vP d 0) (Lz (vI a.av) b 0 C2 (Kz (vP d 4) (Lz (vI a.dK) b 0 C2 ?_)))))
 obtain⟨U,E⟩:∃ q,tJ a.av a.dK=q:=⟨_,rfl⟩
 obtain⟨bL,V,bv,W,bz⟩:=Iu b
 refine cl Tryz.call113 (xV _ _ a.av a.dK U V E) ?_
 rintro _ bM ⟨rfl,X⟩
 have aR:=W _ _ X
 refine An rfl (rt (bR (tR (rs ?_))))
 have aS:=aR.pk []
 obtain rfl:_=U:=zj hr (et (ip e) (ae E))
 exact⟨rfl,aS⟩
 refine jF (dF e) (sr (Kz (.bool (decide (o=3))) (An rfl ?_)))
 by_cases l:o=3
 refine jT (dT l) (sr (Kz (vP d 0) (Lz (vI a.av) b 0 C2 (Kz (vP d 19) (Lz (.slice h a.ah.ls.length i) b 0 Tryz.isAgg40 ?_)))))
 obtain⟨Y,F⟩:∃ q,oW a.av a.ah.ls=q:=⟨_,rfl⟩
 obtain⟨bO,Z,G,aa,bA⟩:=Iu b
 refine cl Tryz.call114 (vT _ _ a.av h a.ah.ls.length i n a.ah.ls Y Z r (G _ Q) (λ x9 h9=>⟨G _ (s x9 h9).1,(s x9 h9).2⟩) rfl e6 F) ?_
 rintro _ bP ⟨rfl,ag⟩
 have aT:=aa _ _ ag
 refine An rfl (rt (bR (tR (rs ?_))))
 have aU:=aT.pk []
 obtain rfl:_=Y:=zj hr (et (iN e) (et (ip l) (ae F)))
 exact⟨rfl,aU⟩
 refine jF (dF l) (sr (Kz (.bool (decide (o=7))) (An rfl ?_)))
 by_cases m:o=7
 refine jT (dT m) (sr (Kz (vP d 0) (Lz (vI a.av) b 0 C2 (Kz (vP d 18) (Lz (.slice f a.aB.ls.length g) b 0 Tryz.isAgg39 ?_)))))
 obtain⟨ah,I⟩:∃ q,p8 a.av a.aB.ls=q:=⟨_,rfl⟩
 obtain⟨bQ,ai,aj,ak,bD⟩:=Iu b
 refine cl Tryz.call115 (yI _ _ a.av f a.aB.ls.length g a.aB.ls ah ai (aj _ O) rfl e6 I) ?_
 rintro _ bS ⟨rfl,au⟩
 have aV:=ak _ _ au
 refine An rfl (rt (bR (tR (rs ?_))))
 have aW:=aV.pk []
 obtain rfl:_=ah:=zj hr (et (iN e) (et (iN l) (et (ip m) (ae I))))
 exact⟨rfl,aW⟩
 refine jF (dF m) (sr (Kz (.bool (decide (o=11))) (An rfl ?_)))
 by_cases p:o=11
 refine jT (dT p) (sr (Kz (vP d 20) (Lz (.slice j a.ag.ls.length k) b 0 Tryz.isAgg29 ?_)))
 obtain⟨u,J⟩:∃ q,jc a.ag.ls=q:=⟨_,rfl⟩
 obtain⟨bT,av,ax,ay,bE⟩:=Iu b
 refine cl Tryz.call72 (qY _ _ j a.ag.ls.length k a.ag.ls u av (ax _ S) rfl e6 J) ?_
 rintro _ bU ⟨rfl,az,K⟩
 have aX:=ay _ _ az
 replace K: ¬ (u=0)\/(1<=a.ag.ls.length/\a.ag.ls.length<=6):=K
 refine Kz (.bool (decide (u=0))) (An rfl (rt (bR (tR (rs ?_)))))
 have aZ:=aX.pk []
 obtain rfl:_=decide (u=0):=zj hr (et (iN e) (et (iN l) (et (iN m) (et (ip p) (ae J)))))
 exact⟨rfl,aZ⟩
 refine jF (dF p) (sr (Kz (.bool (decide (o=12))) (An rfl ?_)))
 by_cases t:o=12
 refine jT (dT t) (sr (Kz (vP d 5) (Lz (vI a.fA) b 0 C2 ?_)))
 obtain⟨aB,L⟩:∃ q,ll 1 a.fA=q:=⟨_,rfl⟩
 obtain⟨bV,aC,bF,aD,bG⟩:=Iu b
 refine cl Tryz.call50 (qJ _ _ 1 a.fA aB aC L) ?_
 rintro _ bX ⟨rfl,aF⟩
 have bf:=aD _ _ aF
 refine An rfl (rt (bR (tR (rs ?_))))
 have bg:=bf.pk []
 obtain rfl:_=aB:=zj hr (et (iN e) (et (iN l) (et (iN m) (et (iN p) (et (ip t) (ae L))))))
 exact⟨rfl,bg⟩
 refine jF (dF t) (sr (Kz (.bool (decide (o=13))) (An rfl ?_)))
 by_cases y:o=13
 refine jT (dT y) (sr (Kz (vP d 16) (La (aL.cells a.cu) b 0 N0 M9 ?_)))
 obtain⟨T,M⟩:∃ q,iB a.cu=q:=⟨_,rfl⟩
 obtain⟨bY,aG,bH,aI,bI⟩:=Iu b
 refine cl Tryz.call116 (qf _ _ a.cu T aG M) ?_
 rintro _ bZ ⟨rfl,aJ⟩
 have bi:=aI _ _ aJ
 refine Kz (.bool (decide (T=0))) (An rfl (rt (bR (tR (rs ?_)))))
 have bn:=bi.pk []
 obtain rfl:_=decide (T=0):=zj hr (et (iN e) (et (iN l) (et (iN m) (et (iN p) (et (iN t) (et (ip y) (ae M)))))))
 exact⟨rfl,bn⟩
 refine jF (dF y) (IU (bN (Iq (sr (An rfl (rt (rs ?_)))))))
 have bq:=b.pk []
 obtain rfl:_=true:=zj hr (et (iN e) (et (iN l) (et (iN m) (et (iN p) (et (iN t) (iN y))))))
 exact⟨rfl,bq⟩
def jU (d:bW):List Int->Unit ⊕ Bool
  | []=>B7 ()
  | b::c=>bnd (oD d b) λ a=>if a=true then jU d c else B9 (false)
def p9 (a:bW) (l1:List Int):Bool:=
 lp (jU a l1) λ _=>true
theorem yJ (w D) (a:bW) (h z d j B f m l C g R n1 c1 l1 r0) (H:Own w D w []) (G:z=a.aB.ls.length) (I:Ro w D λ w'=>aY w' 6 h a.aB.ls.length (q4 aN.cells a.aB.ls)) (ah:a.aB.ls.length<=d/\a.aB.ls.length<=9223372036854775807) (p:s5 af.abs m=a.ah.ls) (J:B=a.ah.ls.length) (K:Ro w D λ w'=>aY w' 3 j a.ah.ls.length (q4 af.cells m)) (ai:a.ah.ls.length<=f/\a.ah.ls.length<=9223372036854775807) (r:∀ x ∈ m,Ro w D (λ w'=>aY w' 2 x.aj.A x.aj.ls.length (q4 aH.cells x.aj.ls))/\(x.aj.ls.length<=x.aj.c/\x.aj.ls.length<=9223372036854775807)) (L:C=a.ag.ls.length) (M:Ro w D λ w'=>aY w' 2 l a.ag.ls.length (q4 aM.cells a.ag.ls)) (aj:a.ag.ls.length<=g/\a.ag.ls.length<=9223372036854775807) (N:Ro w D λ w'=>aY w' 1 R n1 (q4 (eI .i64) l1)) (ak:n1=l1.length) (aJ:l1.length *8<=211106232532992) (aK:a.aB.ls.length<=140737488355328/\a.ah.ls.length<=140737488355328/\a.ag.ls.length<=140737488355328) (hr:p9 a l1=r0):
    Calls v5 53 #[.agg (iA a.av a.aI a.eO a.aP a.dK a.fA a.aU a.ax a.aX a.eQ a.bG a.aF a.eG a.cZ a.xN a.fe a.cu.aJ a.cu.aR h z d j B f l C g).toArray, .slice R n1 c1] w (dA λ v w'=>v= .bool r0/\Own w D w' []):=by
 subst ak G J L
 have Z:=aA p
 refine cb Tryz.func53 ?_
 refine sr ?_
 refine dn (gK a h d j f l g) 42 H ?_
 intro O aL au
 refine An rfl (Ik (sr (Mz rfl (Kz (vJ l1.length) (Mn rfl (bo ?_))))))
 have av:=au.pf []
 obtain⟨ax,s⟩:=lF λ (b:Nat) w'=>Own w D w' [blk O (gK a h d j f l g) 42]/\b<=l1.length/\jU a l1=jU a (r4 b l1)
 refine C1 (λ i:Nat=> [(4, .bool false),(9,vJ i),(8,vJ l1.length),(7, .slice R l1.length c1),(2,vP O 0)]) ax (λ i=>l1.length - i) 0 ⟨rfl,rfl,rfl,rfl,rfl,trivial⟩ (s.2 ⟨av,e6,rfl⟩) ?_
 rintro b aO S
 obtain⟨o,aD,t⟩:=s.1 S
 refine sr (Kz (.bool (decide (((b:Nat):Int) < ((l1.length:Nat):Int)))) (nt (Ik ?_)))
 by_cases T:((b:Nat):Int) < ((l1.length:Nat):Int)
 obtain⟨P,E⟩:=dh (ls:=l1) (i:=b) iL f2 (o.ro N) e9
 have F:=drop_at E
 refine jT (dT T) (sk (Ik (bo (sr (fw (.pointer (some ⟨ab R,ao R+b *1,none⟩)) (Iz (EH) rfl rfl ((o.ro N).addr (i:=b) e6) e6) (fw (vI P) (IB rfl (bJ.one Tryz.isAgg154 (((o.ro N).elem iL E f2).at_ (k:=0) rfl))) (Ar rfl (La (gK a h d j f l g) o 0 Tryz.isAgg42 Tryz.sizeOf42 (Mz rfl ?_)))))))))
 obtain⟨Q,u⟩:∃ q,oD a P=q:=⟨_,rfl⟩
 obtain⟨aP,U,n,V,aF⟩:=Iu o
 refine cl Tryz.call76 (Bn _ _ a h a.aB.ls.length d j a.ah.ls.length f m l a.ag.ls.length g P Q U rfl (n _ I) e6 p rfl (n _ K) e6 (λ x9 h9=>⟨n _ (r x9 h9).1,(r x9 h9).2⟩) rfl (n _ M) e6 i3 u) ?_
 rintro _ aQ ⟨rfl,W⟩
 have X:=V _ _ W
 refine Kz (.bool (!Q)) (nt ?_)
 rcases Ls (Q) with y | y
 refine jF (cn y) (IU (bN (Iq (Il (fw (vJ (b+1)) (Ir (e:=C3.wrap (((b:Nat):Int)+1)) yk f0) (Mz rfl (C4 ?_)))))))
 have ay:=X.pf []
 exact II (b+1) ⟨rfl,rfl,rfl,rfl,rfl,trivial⟩ (s.2 ⟨ay,e6,et (t) (et (congrArg (λ q=>jU a q) F) (et (ae u) (ip y)))⟩) (by show l1.length - (b+1) < l1.length - b; omega)
 refine jT (cn y) (sr (An rfl (rt (bR (tR (tR (bR (tR (rs ?_)))))))))
 have az:=X.pk []
 obtain rfl:_=false:=zj hr (gL (et (t) (et (congrArg (λ q=>jU a q) F) (et (ae u) (fP y)))))
 exact⟨rfl,az⟩
 refine jF (dF T) (C5 (IC ?_))
 have Y:jU a l1=B7 ():=et (t) (et (congrArg (λ q=>jU a q) (dZ (ls:=l1) (i:=b) e6)) rfl)
 refine IC (IK (Iq (sr (An rfl (rt (rs ?_))))))
 have aB:=o.pk []
 obtain rfl:_=true:=zj hr (mF Y)
 exact⟨rfl,aB⟩
def qK (a:bW):Bool:=
 if((bY (bY (bY (bY (bY (bY (bY (bY a.aU a.ax) a.aX) a.eQ) a.bG) a.aF) a.eG) a.cZ) a.xN:Nat):Int)=0 then if(((a.aB.ls.length+a.ah.ls.length)+a.ag.ls.length:Nat):Int)=0 then if a.aP=0 then if a.dK=0 then if a.fA=0 then if a.fe=true then false else decide ((a.cu.aJ=([]))/\(a.cu.aR=([]))) else false else false else false else false else false
theorem zu (w D) (a:bW) (l s m n t o r p y q V) (H:Own w D w []) (z:s=a.aB.ls.length) (G:Ro w D λ w'=>aY w' 6 l a.aB.ls.length (q4 aN.cells a.aB.ls)) (I:a.aB.ls.length<=m/\a.aB.ls.length<=9223372036854775807) (B:s5 af.abs r=a.ah.ls) (C:t=a.ah.ls.length) (J:Ro w D λ w'=>aY w' 3 n a.ah.ls.length (q4 af.cells r)) (K:a.ah.ls.length<=o/\a.ah.ls.length<=9223372036854775807) (L:∀ x ∈ r,Ro w D (λ w'=>aY w' 2 x.aj.A x.aj.ls.length (q4 aH.cells x.aj.ls))/\(x.aj.ls.length<=x.aj.c/\x.aj.ls.length<=9223372036854775807)) (E:y=a.ag.ls.length) (M:Ro w D λ w'=>aY w' 2 p a.ag.ls.length (q4 aM.cells a.ag.ls)) (N:a.ag.ls.length<=q/\a.ag.ls.length<=9223372036854775807) (ai:a.aB.ls.length<=140737488355328/\a.ah.ls.length<=140737488355328/\a.ag.ls.length<=140737488355328) (hr:qK a=V):
    Calls v5 51 #[.agg (iA a.av a.aI a.eO a.aP a.dK a.fA a.aU a.ax a.aX a.eQ a.bG a.aF a.eG a.cZ a.xN a.fe a.cu.aJ a.cu.aR l s m n t o p y q).toArray] w (dA λ v w'=>v= .bool V/\Own w D w' []):=by
 subst z C E
 have F:=aA B
 refine cb Tryz.func51 ?_
 refine sr ?_
 refine dn (gK a l m n o p q) 42 H ?_
 intro d aj b
 refine Ar rfl (Kz (vP d 6) (Lz (vU a.aU) b 0 D2 (Kz (vP d 7) (Lz (vU a.ax) b 0 D2 ?_))))
 have W:bY a.aU a.ax<=18446744073709551615:=pg _ _
 refine fw (vU (bY a.aU a.ax)) (Ir (e:=C7.wrap (((BitVec.ofInt 64 ((a.aU:Nat):Int) ||| BitVec.ofInt 64 ((a.ax:Nat):Int)).toNat:Nat):Int)) yk (fB _)) (Kz (vP d 8) (Lz (vU a.aX) b 0 D2 ?_))
 have X:bY (bY a.aU a.ax) a.aX<=18446744073709551615:=pg _ _
 refine fw (vU (bY (bY a.aU a.ax) a.aX)) (Ir (e:=C7.wrap (((BitVec.ofInt 64 ((bY a.aU a.ax:Nat):Int) ||| BitVec.ofInt 64 ((a.aX:Nat):Int)).toNat:Nat):Int)) yk (fB _)) (Kz (vP d 9) (Lz (vU a.eQ) b 0 D2 ?_))
 have Y:bY (bY (bY a.aU a.ax) a.aX) a.eQ<=18446744073709551615:=pg _ _
 refine fw (.int .u64 ((bY (bY (bY a.aU a.ax) a.aX) a.eQ:Nat):Int)) (Ir (e:=C7.wrap (((BitVec.ofInt 64 ((bY (bY a.aU a.ax) a.aX:Nat):Int) ||| BitVec.ofInt 64 ((a.eQ:Nat):Int)).toNat:Nat):Int)) yk (fB _)) (Kz (vP d 10) (Lz (vU a.bG) b 0 D2 ?_))
 have Z:bY (bY (bY (bY a.aU a.ax) a.aX) a.eQ) a.bG<=18446744073709551615:=pg _ _
 refine fw (.int .u64 ((bY (bY (bY (bY a.aU a.ax) a.aX) a.eQ) a.bG:Nat):Int)) (Ir (e:=C7.wrap (((BitVec.ofInt 64 ((bY (bY (bY a.aU a.ax) a.aX) a.eQ:Nat):Int) ||| BitVec.ofInt 64 ((a.bG:Nat):Int)).toNat:Nat):Int)) yk (fB _)) (Kz (vP d 11) (Lz (vU a.aF) b 0 D2 ?_))
 have aa:bY (bY (bY (bY (bY a.aU a.ax) a.aX) a.eQ) a.bG) a.aF<=18446744073709551615:=pg _ _
 refine fw (.int .u64 ((bY (bY (bY (bY (bY a.aU a.ax) a.aX) a.eQ) a.bG) a.aF:Nat):Int)) (Ir (e:=C7.wrap (((BitVec.ofInt 64 ((bY (bY (bY (bY a.aU a.ax) a.aX) a.eQ) a.bG:Nat):Int) ||| BitVec.ofInt 64 ((a.aF:Nat):Int)).toNat:Nat):Int)) yk (fB _)) (Kz (vP d 12) (Lz (vU a.eG) b 0 D2 ?_))
 have ae:bY (bY (bY (bY (bY (bY a.aU a.ax) a.aX) a.eQ) a.bG) a.aF) a.eG<=18446744073709551615:=pg _ _
 refine fw (.int .u64 ((bY (bY (bY (bY (bY (bY a.aU a.ax) a.aX) a.eQ) a.bG) a.aF) a.eG:Nat):Int)) (Ir (e:=C7.wrap (((BitVec.ofInt 64 ((bY (bY (bY (bY (bY a.aU a.ax) a.aX) a.eQ) a.bG) a.aF:Nat):Int) ||| BitVec.ofInt 64 ((a.eG:Nat):Int)).toNat:Nat):Int)) yk (fB _)) (Kz (vP d 13) (Lz (vU a.cZ) b 0 D2 ?_))
 have ag:bY (bY (bY (bY (bY (bY (bY a.aU a.ax) a.aX) a.eQ) a.bG) a.aF) a.eG) a.cZ<=18446744073709551615:=pg _ _
 refine fw (.int .u64 ((bY (bY (bY (bY (bY (bY (bY a.aU a.ax) a.aX) a.eQ) a.bG) a.aF) a.eG) a.cZ:Nat):Int)) (Ir (e:=C7.wrap (((BitVec.ofInt 64 ((bY (bY (bY (bY (bY (bY a.aU a.ax) a.aX) a.eQ) a.bG) a.aF) a.eG:Nat):Int) ||| BitVec.ofInt 64 ((a.cZ:Nat):Int)).toNat:Nat):Int)) yk (fB _)) (Kz (vP d 14) (Lz (vU a.xN) b 0 D2 ?_))
 have ah:bY (bY (bY (bY (bY (bY (bY (bY a.aU a.ax) a.aX) a.eQ) a.bG) a.aF) a.eG) a.cZ) a.xN<=18446744073709551615:=pg _ _
 refine fw (.int .u64 ((bY (bY (bY (bY (bY (bY (bY (bY a.aU a.ax) a.aX) a.eQ) a.bG) a.aF) a.eG) a.cZ) a.xN:Nat):Int)) (Ir (e:=C7.wrap (((BitVec.ofInt 64 ((bY (bY (bY (bY (bY (bY (bY a.aU a.ax) a.aX) a.eQ) a.bG) a.aF) a.eG) a.cZ:Nat):Int) ||| BitVec.ofInt 64 ((a.xN:Nat):Int)).toNat:Nat):Int)) yk (fB _)) (Ar rfl (Kz (vP d 18) (Lz (.slice l a.aB.ls.length m) b 0 Tryz.isAgg39 (Kz (vJ a.aB.ls.length) (Kz (vP d 19) (Lz (.slice n a.ah.ls.length o) b 0 Tryz.isAgg40 (Kz (vJ a.ah.ls.length) (fw (vJ (a.aB.ls.length+a.ah.ls.length)) (Ir (e:=C3.wrap (((a.aB.ls.length:Nat):Int)+((a.ah.ls.length:Nat):Int))) yk f0) (Kz (vP d 20) (Lz (.slice p a.ag.ls.length q) b 0 Tryz.isAgg29 (Kz (vJ a.ag.ls.length) (fw (vJ ((a.aB.ls.length+a.ah.ls.length)+a.ag.ls.length)) (Ir (e:=C3.wrap (((a.aB.ls.length+a.ah.ls.length:Nat):Int)+((a.ag.ls.length:Nat):Int))) yk f0) (Ar rfl (Mz rfl (Kz (.bool (decide (((bY (bY (bY (bY (bY (bY (bY (bY a.aU a.ax) a.aX) a.eQ) a.bG) a.aF) a.eG) a.cZ) a.xN:Nat):Int)=0))) (Mz rfl ?_))))))))))))))))
 by_cases g:((bY (bY (bY (bY (bY (bY (bY (bY a.aU a.ax) a.aX) a.eQ) a.bG) a.aF) a.eG) a.cZ) a.xN:Nat):Int)=0
 refine gw (vJ ((a.aB.ls.length+a.ah.ls.length)+a.ag.ls.length)) (dT g) (IA rfl) (Gz (.bool (decide ((((a.aB.ls.length+a.ah.ls.length)+a.ag.ls.length:Nat):Int)=0))) (dT g) (fw (.bool (decide ((((a.aB.ls.length+a.ah.ls.length)+a.ag.ls.length:Nat):Int)=0))) (Iw rfl (dT g) rfl) (Mz rfl ?_)))
 by_cases f:(((a.aB.ls.length+a.ah.ls.length)+a.ag.ls.length:Nat):Int)=0
 refine Gz (vP d 3) (dT f) (Gl (vI a.aP) (dT f) b 0 C2 (Gz (.bool (decide (a.aP=0))) (dT f) (fw (.bool (decide (a.aP=0))) (Iw rfl (dT f) rfl) (Mz rfl ?_))))
 by_cases h:a.aP=0
 refine Gz (vP d 4) (dT h) (Gl (vI a.dK) (dT h) b 0 C2 (Gz (.bool (decide (a.dK=0))) (dT h) (fw (.bool (decide (a.dK=0))) (Iw rfl (dT h) rfl) (Mz rfl ?_))))
 by_cases j:a.dK=0
 refine Gz (vP d 5) (dT j) (Gl (vI a.fA) (dT j) b 0 C2 (Gz (.bool (decide (a.fA=0))) (dT j) (fw (.bool (decide (a.fA=0))) (Iw rfl (dT j) rfl) (Mz rfl ?_))))
 by_cases k:a.fA=0
 refine Gz (vP d 15) (dT k) (Gl (.bool a.fe) (dT k) b 0 N6 (Gz (.bool (!a.fe)) (dT k) (fw (.bool (!a.fe)) (Iw rfl (dT k) rfl) (Mz rfl ?_))))
 rcases Ls (a.fe) with i | i
 refine Sz (cn i) (Sz (cn i) (Sz (cn i) (Sz (cn i) (fw (.bool false) (Io rfl (cn i) rfl) (An rfl (rt (rs ?_)))))))
 have O:=b.pk []
 obtain rfl:_=false:=zj hr (et (ip g) (et (ip f) (et (ip h) (et (ip j) (et (ip k) (ip i))))))
 exact⟨rfl,O⟩
 refine Gz (vP d 16) (cn i) (Ga (aL.cells a.cu) (cn i) b 0 N0 M9 (Gz (.agg #[.string ⟨v6 ([])⟩, .string ⟨v6 ([])⟩]) (cn i) (gw (.bool (decide ((a.cu.aJ=([]))/\(a.cu.aR=([]))))) (cn i) (KQ rfl rfl e7 rfl (iQ.struct Tryz.underlying38 e7 (iC.dec (iC.cons (u:= .string ⟨v6 a.cu.aJ⟩) (v:= .string ⟨v6 ([])⟩) f2 (λ _=>by kernel_rfl) (λ _=>by kernel_rfl) (iQ.string v9) (iC.cons (u:= .string ⟨v6 a.cu.aR⟩) (v:= .string ⟨v6 ([])⟩) f2 (λ _=>by kernel_rfl) (λ _=>by kernel_rfl) (iQ.string v9) (iC.nil.up (Lp _)))) ((congrArg (decide (a.cu.aJ=([])) && ·) o9).trans gG)))) (fw (.bool (decide ((a.cu.aJ=([]))/\(a.cu.aR=([]))))) (Iw rfl (cn i) rfl) (An rfl (rt (rs ?_)))))))
 have P:=b.pk []
 obtain rfl:_=decide ((a.cu.aJ=([]))/\(a.cu.aR=([]))):=zj hr (et (ip g) (et (ip f) (et (ip h) (et (ip j) (et (ip k) (fP i))))))
 exact⟨rfl,P⟩
 refine Sz (dF k) (Sz (dF k) (Sz (dF k) (fw (.bool false) (Io rfl (dF k) rfl) (Mz rfl (Sz rfl (Sz rfl (Sz rfl (Sz rfl (fw (.bool false) (Io rfl rfl rfl) (An rfl (rt (rs ?_))))))))))))
 have Q:=b.pk []
 obtain rfl:_=false:=zj hr (et (ip g) (et (ip f) (et (ip h) (et (ip j) (iN k)))))
 exact⟨rfl,Q⟩
 refine Sz (dF j) (Sz (dF j) (Sz (dF j) (fw (.bool false) (Io rfl (dF j) rfl) (Mz rfl (Sz rfl (Sz rfl (Sz rfl (fw (.bool false) (Io rfl rfl rfl) (Mz rfl (Sz rfl (Sz rfl (Sz rfl (Sz rfl (fw (.bool false) (Io rfl rfl rfl) (An rfl (rt (rs ?_)))))))))))))))))
 have R:=b.pk []
 obtain rfl:_=false:=zj hr (et (ip g) (et (ip f) (et (ip h) (iN j))))
 exact⟨rfl,R⟩
 refine Sz (dF h) (Sz (dF h) (Sz (dF h) (fw (.bool false) (Io rfl (dF h) rfl) (Mz rfl (Sz rfl (Sz rfl (Sz rfl (fw (.bool false) (Io rfl rfl rfl) (Mz rfl (Sz rfl (Sz rfl (Sz rfl (fw (.bool false) (Io rfl rfl rfl) (Mz rfl (Sz rfl (Sz rfl (Sz rfl (Sz rfl (fw (.bool false) (Io rfl rfl rfl) (An rfl (rt (rs ?_))))))))))))))))))))))
 have S:=b.pk []
 obtain rfl:_=false:=zj hr (et (ip g) (et (ip f) (iN h)))
 exact⟨rfl,S⟩
 refine Sz (dF f) (Sz (dF f) (Sz (dF f) (fw (.bool false) (Io rfl (dF f) rfl) (Mz rfl (Sz rfl (Sz rfl (Sz rfl (fw (.bool false) (Io rfl rfl rfl) (Mz rfl (Sz rfl (Sz rfl (Sz rfl (fw (.bool false) (Io rfl rfl rfl) (Mz rfl (Sz rfl (Sz rfl (Sz rfl (fw (.bool false) (Io rfl rfl rfl) (Mz rfl (Sz rfl (Sz rfl (Sz rfl (Sz rfl (fw (.bool false) (Io rfl rfl rfl) (An rfl (rt (rs ?_)))))))))))))))))))))))))))
 have T:=b.pk []
 obtain rfl:_=false:=zj hr (et (ip g) (iN f))
 exact⟨rfl,T⟩
 refine Sz (dF g) (Sz (dF g) (fw (.bool false) (Io rfl (dF g) rfl) (Mz rfl (Sz rfl (Sz rfl (Sz rfl (fw (.bool false) (Io rfl rfl rfl) (Mz rfl (Sz rfl (Sz rfl (Sz rfl (fw (.bool false) (Io rfl rfl rfl) (Mz rfl (Sz rfl (Sz rfl (Sz rfl (fw (.bool false) (Io rfl rfl rfl) (Mz rfl (Sz rfl (Sz rfl (Sz rfl (fw (.bool false) (Io rfl rfl rfl) (Mz rfl (Sz rfl (Sz rfl (Sz rfl (Sz rfl (fw (.bool false) (Io rfl rfl rfl) (An rfl (rt (rs ?_)))))))))))))))))))))))))))))))
 have U:=b.pk []
 obtain rfl:_=false:=zj hr (iN g)
 exact⟨rfl,U⟩
end
open _root_.Go.Proofs.Tryz renaming isAgg125->N7,isAgg42->N8,sizeOf28->O0,sizeOf42->N9
section
open Go.RowKit
def bV (u:bW) (s:fT):List Int->Int->Int->Nat->Nat->Nat->Nat->Nat->Nat->Nat->Nat->Nat->Bool->List UInt8->List UInt8->List aN->List aQ->List aM->Int × Int × Nat × Nat × Nat × Nat × Nat × Nat × Nat × Nat × Nat × Bool × (List UInt8) × (List UInt8) × (List aN) × (List aQ) × (List aM)
  | [],b,c,d,e,f,g,h,i,j,k,l,m,n,o,p,q,r=>(b,c,d,e,f,g,h,i,j,k,l,m,n,o,p,q,r)
  | a::t,b,c,d,e,f,g,h,i,j,k,l,m,n,o,p,q,r=>if a=0 then bV u s t b c 0 e f g h i j k l m n o p q r else if a=1 then bV u s t b c d 0 f g h i j k l m n o p q r else if a=2 then bV u s t 0 c d e f g h i j k l m n o p q r else if a=3 then bV u s t b c d e f g h i j k l m n o p [] r else if a=4 then bV u s t b c d e 0 g h i j k l m n o p q r else if a=5 then bV u s t b c d e f 0 h i j k l m n o p q r else if a=6 then bV u s t b c d e f g h 0 j k l m n o p q r else if a=7 then bV u s t b c d e f g h i j k l m n o [] q r else if a=8 then bV u s t b c d e f g h i j k l false n o p q r else if a=9 then bV u s t b c d e f g 0 i j k l m n o p q r else if a=10 then bV u s t b c d e f g h i 0 k l m n o p q r else if a=11 then bV u s t b c d e f g h i j k l m n o p q [] else if a=12 then bV u s t b 0 d e f g h i j k l m n o p q r else if a=13 then bV u s t b c d e f g h i j k l m [] [] p q r else if a=14 then bV u s t b c d e f g h i j 0 l m n o p q r else if a=15 then bV u s t b c d e f g h i j k 0 m n o p q r else bV u s t b c d e f g h i j k l m n o p q r
def kR (a:bW):Int:=
 bnd (oJ a.av) λ b=>if b.2=true then bnd (ll b.1.mi a.aI) λ e=>if e=true then bnd (ll b.1.o5 a.eO) λ f=>if f=true then bnd (bV a b.1 b.1.bX.ls a.dK a.fA a.aU a.ax a.aX a.eQ a.bG a.aF a.eG a.cZ a.xN a.fe a.cu.aJ a.cu.aR a.aB.ls a.ah.ls a.ag.ls) λ sLrbtbtbtL=>bnd (qK (bW.mk a.av a.aI a.eO a.aP sLrbtbtbtL.1 sLrbtbtbtL.2.1 sLrbtbtbtL.2.2.1 sLrbtbtbtL.2.2.2.1 sLrbtbtbtL.2.2.2.2.1 sLrbtbtbtL.2.2.2.2.2.1 sLrbtbtbtL.2.2.2.2.2.2.1 sLrbtbtbtL.2.2.2.2.2.2.2.1 sLrbtbtbtL.2.2.2.2.2.2.2.2.1 sLrbtbtbtL.2.2.2.2.2.2.2.2.2.1 sLrbtbtbtL.2.2.2.2.2.2.2.2.2.2.1 sLrbtbtbtL.2.2.2.2.2.2.2.2.2.2.2.1 (aL.mk sLrbtbtbtL.2.2.2.2.2.2.2.2.2.2.2.2.1 sLrbtbtbtL.2.2.2.2.2.2.2.2.2.2.2.2.2.1) (E0 sLrbtbtbtL.2.2.2.2.2.2.2.2.2.2.2.2.2.2.1) (E0 sLrbtbtbtL.2.2.2.2.2.2.2.2.2.2.2.2.2.2.2.1) (E0 sLrbtbtbtL.2.2.2.2.2.2.2.2.2.2.2.2.2.2.2.2))) λ c=>if c=true then bnd (p9 a b.1.bX.ls) λ d=>if d=true then if b.1.mi=1 then if b.1.o5=1 then if a.aI=a.eO then 180 else 0 else 0 else 0 else 180 else 180 else 180 else 180 else 180
set_option maxHeartbeats 8000000 in
theorem vz (w D) (a:bW) (ak cu aa au cz ag aJ av cB ah r0) (H:Own w D w []) (dm:cu=a.aB.ls.length) (bM:Ro w D λ w'=>aY w' 6 ak a.aB.ls.length (q4 aN.cells a.aB.ls)) (ic:a.aB.ls.length<=aa/\a.aB.ls.length<=9223372036854775807) (bu:s5 af.abs aJ=a.ah.ls) (dw:cz=a.ah.ls.length) (bO:Ro w D λ w'=>aY w' 3 au a.ah.ls.length (q4 af.cells aJ)) (ig:a.ah.ls.length<=ag/\a.ah.ls.length<=9223372036854775807) (bv:∀ x ∈ aJ,Ro w D (λ w'=>aY w' 2 x.aj.A x.aj.ls.length (q4 aH.cells x.aj.ls))/\(x.aj.ls.length<=x.aj.c/\x.aj.ls.length<=9223372036854775807)) (dx:cB=a.ag.ls.length) (bP:Ro w D λ w'=>aY w' 2 av a.ag.ls.length (q4 aM.cells a.ag.ls)) (ik:a.ag.ls.length<=ah/\a.ag.ls.length<=9223372036854775807) (jI:a.aB.ls.length<=140737488355328/\a.ah.ls.length<=140737488355328/\a.ag.ls.length<=140737488355328) (hr:kR a=r0):
    Calls Tryz.prog 21 #[.agg (iA a.av a.aI a.eO a.aP a.dK a.fA a.aU a.ax a.aX a.eQ a.bG a.aF a.eG a.cZ a.xN a.fe a.cu.aJ a.cu.aR ak cu aa au cz ag av cB ah).toArray] w (dA λ v w'=>v=vI r0/\Own w D w' []):=by
 unfold kR at hr
 subst dm dw dx
 have ib:=aA bu
 refine cb Tryz.func21 ?_
 refine sr ?_
 refine dn (gK a ak aa au ag av ah) 42 H ?_
 intro bL jJ dK
 refine Ar rfl (Kz (vP bL 0) (Lz (vI a.av) dK 0 C2 ?_))
 obtain⟨⟨d,bR⟩,aO⟩:∃ q:fT × Bool,oJ a.av=q:=⟨_,rfl⟩
 obtain⟨jK,dL,iU,dM,iV⟩:=Iu dK
 refine cl Tryz.call49 (xw _ _ a.av d bR dL aO) ?_
 rintro _ jL ⟨bi,bz,rfl,dN,cK⟩
 have dO:=dM _ _ dN
 have iW:=zr 0 dO
 replace cK:d.bX.ls.length<=5:=cK
 refine Mz rfl (Kz (.agg #[vI d.mi,vI d.o5, .slice bi d.bX.ls.length bz]) (Kz (.bool bR) ?_))
 refine dn [vI 0,vI 0, .slice none 0 0] 128 dO ?_
 intro bD jM il
 refine df [vI d.mi,vI d.o5, .slice bi d.bX.ls.length bz] 0 il Tryz.sizeOf128 ?_
 intro jN bS
 refine An rfl (Ik (sr (Mz rfl (Kz (.bool (!bR)) (Mz rfl ?_)))))
 rcases Ls (bR) with aj | aj
 refine Gz (vP bD 0) (cn aj) (Gl (vI d.mi) (cn aj) bS 0 N7 (Gz (vP bL 1) (cn aj) (Gl (vI a.aI) (cn aj) bS 2 C2 ?_)))
 obtain⟨bT,aS⟩:∃ q,ll d.mi a.aI=q:=⟨_,rfl⟩
 obtain⟨jO,dP,iX,dQ,iY⟩:=Iu bS
 refine pW (cn aj) Tryz.call50 (qJ _ _ d.mi a.aI bT dP aS) ?_
 rintro _ jP ⟨rfl,dR⟩
 have bU:=dQ _ _ dR
 refine Gz (.bool (!bT)) (cn aj) (fw (.bool (!bT)) (Io rfl (cn aj) rfl) (Mz rfl ?_))
 rcases Ls (bT) with ax | ax
 refine Gz (vP bD 1) (cn ax) (Gl (vI d.o5) (cn ax) bU 0 N7 (Gz (vP bL 2) (cn ax) (Gl (vI a.eO) (cn ax) bU 2 C2 ?_)))
 obtain⟨bX,aX⟩:∃ q,ll d.o5 a.eO=q:=⟨_,rfl⟩
 obtain⟨jQ,dS,iZ,dU,ja⟩:=Iu bU
 refine pW (cn ax) Tryz.call50 (qJ _ _ d.o5 a.eO bX dS aX) ?_
 rintro _ jR ⟨rfl,dV⟩
 have bY:=dU _ _ dV
 refine Gz (.bool (!bX)) (cn ax) (fw (.bool (!bX)) (Io rfl (cn ax) rfl) (Mz rfl ?_))
 rcases Ls (bX) with aB | aB
 refine Ga (gK a ak aa au ag av ah) (cn aB) bY 2 N8 N9 (Gz (vP bD 2) (cn aB) (Gl (.slice bi d.bX.ls.length bz) (cn aB) bY 0 Tryz.isAgg126 ?_))
 refine Ju rfl rfl (cn aB) rfl (IP Tryz.call52 rfl ?_ (λ _ _ k=>k))
 refine cb Tryz.func52 ?_
 refine sr ?_
 refine dn (gK a ak aa au ag av ah) 42 bY ?_
 intro aF jS iq
 refine dn (iA 0 0 0 0 0 0 0 0 0 0 0 0 0 0 0 false [] [] none 0 0 none 0 0 none 0 0) 42 iq ?_
 intro dz jU iw
 refine nt (Ik (sr (Mz rfl (Kz (vJ d.bX.ls.length) (Mn rfl (bo ?_))))))
 have iy:=iw.pf []
 obtain⟨dW,I⟩:=Hu λ (b:Nat) (z:Int) (B:Int) (j:Nat) (l:Nat) (n:Nat) (o:Nat) (p:Nat) (r:Nat) (s:Nat) (t:Nat) (u:Nat) C E F W (R:Nat) f X (S:Nat) T g Y (U:Nat) h w'=>Own w D w' [blk dz (iA 0 0 0 0 0 0 0 0 0 0 0 0 0 0 0 false [] [] none 0 0 none 0 0 none 0 0) 42,blk aF (iA a.av a.aI a.eO a.aP z B j l n o p r s t u C E F W f.length R X g.length S Y h.length U) 42,blk bD [vI d.mi,vI d.o5, .slice bi d.bX.ls.length bz] 128,row bi d.bX.ls.length bz (q4 (eI .i64) d.bX.ls) 154 1,blk bL (gK a ak aa au ag av ah) 42]/\jm 6 ak aa a.aB.ls W R f/\jm 3 au ag aJ X S T/\s5 af.abs T=g/\jm 2 av ah a.ag.ls Y U h/\b<=d.bX.ls.length/\j<=a.aU+b/\l<=a.ax+b/\n<=a.aX+b/\o<=a.eQ+b/\p<=a.bG+b/\r<=a.aF+b/\s<=a.eG+b/\t<=a.cZ+b/\u<=a.xN+b/\bV a d d.bX.ls a.dK a.fA a.aU a.ax a.aX a.eQ a.bG a.aF a.eG a.cZ a.xN a.fe a.cu.aJ a.cu.aR a.aB.ls a.ah.ls a.ag.ls=bV a d (r4 b d.bX.ls) z B j l n o p r s t u C E F f g h
 refine Wp.loop (λ i:Nat × Int × Int × Nat × Nat × Nat × Nat × Nat × Nat × Nat × Nat × Nat × Bool × (List UInt8) × (List UInt8) × (Option Addr) × Nat × (List aN) × (Option Addr) × Nat × (List af) × (List aQ) × (Option Addr) × Nat × (List aM)=> [(9,vJ i.1),(8,vJ d.bX.ls.length),(7, .slice bi d.bX.ls.length bz),(4,vP dz 0),(2,vP aF 0)]) dW (λ i=>d.bX.ls.length - i.1) (0,a.dK,a.fA,a.aU,a.ax,a.aX,a.eQ,a.bG,a.aF,a.eG,a.cZ,a.xN,a.fe,a.cu.aJ,a.cu.aR,ak,aa,a.aB.ls,au,ag,aJ,a.ah.ls,av,ah,a.ag.ls) ⟨rfl,rfl,rfl,rfl,rfl,trivial⟩ (I.2 ⟨iy,by exact(jm.refl e6),by exact(jm.refl e6),by exact bu,by exact(jm.refl e6),e6,e6,e6,e6,e6,e6,e6,e6,e6,e6,rfl⟩) ?_
 rintro ⟨b,z,B,j,l,n,o,p,r,s,t,u,C,E,F,W,R,f,X,S,T,g,Y,U,h⟩ jb dB
 obtain⟨O,K,G,J,L,iB,iC,iD,iE,iF,iG,iH,iI,iJ,iK,M⟩:=I.1 dB
 have iM:=(K).le
 have iO:=(G).le
 have iP:=aA J
 have iQ:=(L).le
 refine sr (Kz (.bool (decide ((b:Int) < (d.bX.ls.length:Int)))) (nt (Ik ?_)))
 by_cases cO:(b:Int) < (d.bX.ls.length:Int)
 obtain⟨y,bQ⟩:=dh (ls:=d.bX.ls) (i:=b) iL f2 (O.rds (i:=3) rfl) e9
 have N:=drop_at bQ
 refine jT (dT cO) (sk (Ik (bo (sr (fw (.pointer (some ⟨ab bi,ao bi+b *1,none⟩)) (Iz (EH) rfl rfl ((O.rds (i:=3) rfl).addr (i:=b) e6) e6) (fw (vI y) (IB rfl (bJ.one Tryz.isAgg154 (((O.rds (i:=3) rfl).elem iL bQ f2).at_ (k:=0) rfl))) (Ar rfl (Mn rfl (bo (sr (Kz (.bool (decide (y=0))) (An rfl ?_))))))))))))
 by_cases P:y=0
 refine jT (dT P) (Il (Kz (vP aF 6) ?_))
 have dX:=O.pf [1]
 refine df [.int .u64 0] 6 dX O0 ?_
 intro jc dY
 refine C4 (bN (bN (Iq (Il (fw (vJ (b+1)) (Ir (e:=C3.wrap ((b:Int)+1)) yk f0) (Mz rfl (C4 ?_)))))))
 have d9:=dY.pf [1]
 exact II (b+1,z,B,0,l,n,o,p,r,s,t,u,C,E,F,W,R,f,X,S,T,g,Y,U,h) ⟨rfl,rfl,rfl,rfl,rfl,trivial⟩ (I.2 ⟨d9,by exact K,by exact G,by exact J,by exact L,e6,e6,e6,e6,e6,e6,e6,e6,e6,e6,et (M) (et (congrArg (λ q=>bV a d q z B j l n o p r s t u C E F f g h) N) (ip P))⟩) (by show d.bX.ls.length - (b+1) < d.bX.ls.length - b; omega)
 refine jF (dF P) (sr (Kz (.bool (decide (y=1))) (An rfl ?_)))
 by_cases V:y=1
 refine jT (dT V) (Il (Kz (vP aF 7) ?_))
 have ed:=O.pf [1]
 refine df [.int .u64 0] 7 ed O0 ?_
 intro jd ek
 refine C4 (bN (bN (Iq (Il (fw (vJ (b+1)) (Ir (e:=C3.wrap ((b:Int)+1)) yk f0) (Mz rfl (C4 ?_)))))))
 have eu:=ek.pf [1]
 exact II (b+1,z,B,j,0,n,o,p,r,s,t,u,C,E,F,W,R,f,X,S,T,g,Y,U,h) ⟨rfl,rfl,rfl,rfl,rfl,trivial⟩ (I.2 ⟨eu,by exact K,by exact G,by exact J,by exact L,e6,e6,e6,e6,e6,e6,e6,e6,e6,e6,et (M) (et (congrArg (λ q=>bV a d q z B j l n o p r s t u C E F f g h) N) (et (iN P) (ip V)))⟩) (by show d.bX.ls.length - (b+1) < d.bX.ls.length - b; omega)
 refine jF (dF V) (sr (Kz (.bool (decide (y=2))) (An rfl ?_)))
 by_cases Z:y=2
 refine jT (dT Z) (Il (Kz (vP aF 4) ?_))
 have eB:=O.pf [1]
 refine df [vI 0] 4 eB Tryz.sizeOf3 ?_
 intro je eD
 refine C4 (bN (bN (Iq (Il (fw (vJ (b+1)) (Ir (e:=C3.wrap ((b:Int)+1)) yk f0) (Mz rfl (C4 ?_)))))))
 have eF:=eD.pf [1]
 exact II (b+1,0,B,j,l,n,o,p,r,s,t,u,C,E,F,W,R,f,X,S,T,g,Y,U,h) ⟨rfl,rfl,rfl,rfl,rfl,trivial⟩ (I.2 ⟨eF,by exact K,by exact G,by exact J,by exact L,e6,e6,e6,e6,e6,e6,e6,e6,e6,e6,et (M) (et (congrArg (λ q=>bV a d q z B j l n o p r s t u C E F f g h) N) (et (iN P) (et (iN V) (ip Z))))⟩) (by show d.bX.ls.length - (b+1) < d.bX.ls.length - b; omega)
 refine jF (dF Z) (sr (Kz (.bool (decide (y=3))) (An rfl ?_)))
 by_cases ai:y=3
 refine jT (dT ai) (Il (Kz (vP aF 19) ?_))
 have eG:=O.pf [1]
 refine df [.slice none 0 0] 19 eG Tryz.sizeOf40 ?_
 intro jg eH
 refine C4 (bN (bN (Iq (Il (fw (vJ (b+1)) (Ir (e:=C3.wrap ((b:Int)+1)) yk f0) (Mz rfl (C4 ?_)))))))
 have eO:=eH.pf [1]
 exact II (b+1,z,B,j,l,n,o,p,r,s,t,u,C,E,F,W,R,f,none,0, [], [],Y,U,h) ⟨rfl,rfl,rfl,rfl,rfl,trivial⟩ (I.2 ⟨eO,(show jm 6 ak aa a.aB.ls W R f/\jm 3 au ag aJ none 0 []/\s5 af.abs []=[]/\jm 2 av ah a.ag.ls Y U h/\(b+1)<=d.bX.ls.length/\j<=a.aU+(b+1)/\l<=a.ax+(b+1)/\n<=a.aX+(b+1)/\o<=a.eQ+(b+1)/\p<=a.bG+(b+1)/\r<=a.aF+(b+1)/\s<=a.eG+(b+1)/\t<=a.cZ+(b+1)/\u<=a.xN+(b+1)/\bV a d d.bX.ls a.dK a.fA a.aU a.ax a.aX a.eQ a.bG a.aF a.eG a.cZ a.xN a.fe a.cu.aJ a.cu.aR a.aB.ls a.ah.ls a.ag.ls=bV a d (r4 (b+1) d.bX.ls) z B j l n o p r s t u C E F f [] h from ⟨by exact K,by exact jm.nil,by exact rfl,by exact L,e6,e6,e6,e6,e6,e6,e6,e6,e6,e6,et (M) (et (congrArg (λ q=>bV a d q z B j l n o p r s t u C E F f g h) N) (et (iN P) (et (iN V) (et (iN Z) (ip ai)))))⟩)⟩) (by show d.bX.ls.length - (b+1) < d.bX.ls.length - b; omega)
 refine jF (dF ai) (sr (Kz (.bool (decide (y=4))) (An rfl ?_)))
 by_cases ay:y=4
 refine jT (dT ay) (Il (Kz (vP aF 8) ?_))
 have eP:=O.pf [1]
 refine df [.int .u64 0] 8 eP O0 ?_
 intro jh eQ
 refine C4 (bN (bN (Iq (Il (fw (vJ (b+1)) (Ir (e:=C3.wrap ((b:Int)+1)) yk f0) (Mz rfl (C4 ?_)))))))
 have eT:=eQ.pf [1]
 exact II (b+1,z,B,j,l,0,o,p,r,s,t,u,C,E,F,W,R,f,X,S,T,g,Y,U,h) ⟨rfl,rfl,rfl,rfl,rfl,trivial⟩ (I.2 ⟨eT,by exact K,by exact G,by exact J,by exact L,e6,e6,e6,e6,e6,e6,e6,e6,e6,e6,et (M) (et (congrArg (λ q=>bV a d q z B j l n o p r s t u C E F f g h) N) (et (iN P) (et (iN V) (et (iN Z) (et (iN ai) (ip ay))))))⟩) (by show d.bX.ls.length - (b+1) < d.bX.ls.length - b; omega)
 refine jF (dF ay) (sr (Kz (.bool (decide (y=5))) (An rfl ?_)))
 by_cases aC:y=5
 refine jT (dT aC) (Il (Kz (vP aF 9) ?_))
 have eU:=O.pf [1]
 refine df [.int .u64 0] 9 eU O0 ?_
 intro ji eX
 refine C4 (bN (bN (Iq (Il (fw (vJ (b+1)) (Ir (e:=C3.wrap ((b:Int)+1)) yk f0) (Mz rfl (C4 ?_)))))))
 have eY:=eX.pf [1]
 exact II (b+1,z,B,j,l,n,0,p,r,s,t,u,C,E,F,W,R,f,X,S,T,g,Y,U,h) ⟨rfl,rfl,rfl,rfl,rfl,trivial⟩ (I.2 ⟨eY,by exact K,by exact G,by exact J,by exact L,e6,e6,e6,e6,e6,e6,e6,e6,e6,e6,et (M) (et (congrArg (λ q=>bV a d q z B j l n o p r s t u C E F f g h) N) (et (iN P) (et (iN V) (et (iN Z) (et (iN ai) (et (iN ay) (ip aC)))))))⟩) (by show d.bX.ls.length - (b+1) < d.bX.ls.length - b; omega)
 refine jF (dF aC) (sr (Kz (.bool (decide (y=6))) (An rfl ?_)))
 by_cases aD:y=6
 refine jT (dT aD) (Il (Kz (vP aF 11) ?_))
 have eZ:=O.pf [1]
 refine df [.int .u64 0] 11 eZ O0 ?_
 intro jk fe
 refine C4 (bN (bN (Iq (Il (fw (vJ (b+1)) (Ir (e:=C3.wrap ((b:Int)+1)) yk f0) (Mz rfl (C4 ?_)))))))
 have fo:=fe.pf [1]
 exact II (b+1,z,B,j,l,n,o,p,0,s,t,u,C,E,F,W,R,f,X,S,T,g,Y,U,h) ⟨rfl,rfl,rfl,rfl,rfl,trivial⟩ (I.2 ⟨fo,by exact K,by exact G,by exact J,by exact L,e6,e6,e6,e6,e6,e6,e6,e6,e6,e6,et (M) (et (congrArg (λ q=>bV a d q z B j l n o p r s t u C E F f g h) N) (et (iN P) (et (iN V) (et (iN Z) (et (iN ai) (et (iN ay) (et (iN aC) (ip aD))))))))⟩) (by show d.bX.ls.length - (b+1) < d.bX.ls.length - b; omega)
 refine jF (dF aD) (sr (Kz (.bool (decide (y=7))) (An rfl ?_)))
 by_cases aG:y=7
 refine jT (dT aG) (Il (Kz (vP aF 18) ?_))
 have fq:=O.pf [1]
 refine df [.slice none 0 0] 18 fq Tryz.sizeOf39 ?_
 intro jl fu
 refine C4 (bN (bN (Iq (Il (fw (vJ (b+1)) (Ir (e:=C3.wrap ((b:Int)+1)) yk f0) (Mz rfl (C4 ?_)))))))
 have fA:=fu.pf [1]
 exact II (b+1,z,B,j,l,n,o,p,r,s,t,u,C,E,F,none,0, [],X,S,T,g,Y,U,h) ⟨rfl,rfl,rfl,rfl,rfl,trivial⟩ (I.2 ⟨fA,(show jm 6 ak aa a.aB.ls none 0 []/\jm 3 au ag aJ X S T/\s5 af.abs T=g/\jm 2 av ah a.ag.ls Y U h/\(b+1)<=d.bX.ls.length/\j<=a.aU+(b+1)/\l<=a.ax+(b+1)/\n<=a.aX+(b+1)/\o<=a.eQ+(b+1)/\p<=a.bG+(b+1)/\r<=a.aF+(b+1)/\s<=a.eG+(b+1)/\t<=a.cZ+(b+1)/\u<=a.xN+(b+1)/\bV a d d.bX.ls a.dK a.fA a.aU a.ax a.aX a.eQ a.bG a.aF a.eG a.cZ a.xN a.fe a.cu.aJ a.cu.aR a.aB.ls a.ah.ls a.ag.ls=bV a d (r4 (b+1) d.bX.ls) z B j l n o p r s t u C E F [] g h from ⟨by exact jm.nil,by exact G,by exact J,by exact L,e6,e6,e6,e6,e6,e6,e6,e6,e6,e6,et (M) (et (congrArg (λ q=>bV a d q z B j l n o p r s t u C E F f g h) N) (et (iN P) (et (iN V) (et (iN Z) (et (iN ai) (et (iN ay) (et (iN aC) (et (iN aD) (ip aG)))))))))⟩)⟩) (by show d.bX.ls.length - (b+1) < d.bX.ls.length - b; omega)
 refine jF (dF aG) (sr (Kz (.bool (decide (y=8))) (An rfl ?_)))
 by_cases aK:y=8
 refine jT (dT aK) (Il (Kz (vP aF 15) ?_))
 have fB:=O.pf [1]
 refine df [.bool false] 15 fB Tryz.sizeOf4 ?_
 intro jo fC
 refine C4 (bN (bN (Iq (Il (fw (vJ (b+1)) (Ir (e:=C3.wrap ((b:Int)+1)) yk f0) (Mz rfl (C4 ?_)))))))
 have fD:=fC.pf [1]
 exact II (b+1,z,B,j,l,n,o,p,r,s,t,u,false,E,F,W,R,f,X,S,T,g,Y,U,h) ⟨rfl,rfl,rfl,rfl,rfl,trivial⟩ (I.2 ⟨fD,(show jm 6 ak aa a.aB.ls W R f/\jm 3 au ag aJ X S T/\s5 af.abs T=g/\jm 2 av ah a.ag.ls Y U h/\(b+1)<=d.bX.ls.length/\j<=a.aU+(b+1)/\l<=a.ax+(b+1)/\n<=a.aX+(b+1)/\o<=a.eQ+(b+1)/\p<=a.bG+(b+1)/\r<=a.aF+(b+1)/\s<=a.eG+(b+1)/\t<=a.cZ+(b+1)/\u<=a.xN+(b+1)/\bV a d d.bX.ls a.dK a.fA a.aU a.ax a.aX a.eQ a.bG a.aF a.eG a.cZ a.xN a.fe a.cu.aJ a.cu.aR a.aB.ls a.ah.ls a.ag.ls=bV a d (r4 (b+1) d.bX.ls) z B j l n o p r s t u false E F f g h from ⟨by exact K,by exact G,by exact J,by exact L,e6,e6,e6,e6,e6,e6,e6,e6,e6,e6,et (M) (et (congrArg (λ q=>bV a d q z B j l n o p r s t u C E F f g h) N) (et (iN P) (et (iN V) (et (iN Z) (et (iN ai) (et (iN ay) (et (iN aC) (et (iN aD) (et (iN aG) (ip aK))))))))))⟩)⟩) (by show d.bX.ls.length - (b+1) < d.bX.ls.length - b; omega)
 refine jF (dF aK) (sr (Kz (.bool (decide (y=9))) (An rfl ?_)))
 by_cases aP:y=9
 refine jT (dT aP) (Il (Kz (vP aF 10) ?_))
 have fE:=O.pf [1]
 refine df [.int .u64 0] 10 fE O0 ?_
 intro jq fF
 refine C4 (bN (bN (Iq (Il (fw (vJ (b+1)) (Ir (e:=C3.wrap ((b:Int)+1)) yk f0) (Mz rfl (C4 ?_)))))))
 have fG:=fF.pf [1]
 exact II (b+1,z,B,j,l,n,o,0,r,s,t,u,C,E,F,W,R,f,X,S,T,g,Y,U,h) ⟨rfl,rfl,rfl,rfl,rfl,trivial⟩ (I.2 ⟨fG,by exact K,by exact G,by exact J,by exact L,e6,e6,e6,e6,e6,e6,e6,e6,e6,e6,et (M) (et (congrArg (λ q=>bV a d q z B j l n o p r s t u C E F f g h) N) (et (iN P) (et (iN V) (et (iN Z) (et (iN ai) (et (iN ay) (et (iN aC) (et (iN aD) (et (iN aG) (et (iN aK) (ip aP)))))))))))⟩) (by show d.bX.ls.length - (b+1) < d.bX.ls.length - b; omega)
 refine jF (dF aP) (sr (Kz (.bool (decide (y=10))) (An rfl ?_)))
 by_cases aT:y=10
 refine jT (dT aT) (Il (Kz (vP aF 12) ?_))
 have fH:=O.pf [1]
 refine df [.int .u64 0] 12 fH O0 ?_
 intro jr fI
 refine C4 (bN (bN (Iq (Il (fw (vJ (b+1)) (Ir (e:=C3.wrap ((b:Int)+1)) yk f0) (Mz rfl (C4 ?_)))))))
 have fJ:=fI.pf [1]
 exact II (b+1,z,B,j,l,n,o,p,r,0,t,u,C,E,F,W,R,f,X,S,T,g,Y,U,h) ⟨rfl,rfl,rfl,rfl,rfl,trivial⟩ (I.2 ⟨fJ,by exact K,by exact G,by exact J,by exact L,e6,e6,e6,e6,e6,e6,e6,e6,e6,e6,et (M) (et (congrArg (λ q=>bV a d q z B j l n o p r s t u C E F f g h) N) (et (iN P) (et (iN V) (et (iN Z) (et (iN ai) (et (iN ay) (et (iN aC) (et (iN aD) (et (iN aG) (et (iN aK) (et (iN aP) (ip aT))))))))))))⟩) (by show d.bX.ls.length - (b+1) < d.bX.ls.length - b; omega)
 refine jF (dF aT) (sr (Kz (.bool (decide (y=11))) (An rfl ?_)))
 by_cases aZ:y=11
 refine jT (dT aZ) (Il (Kz (vP aF 20) ?_))
 have fK:=O.pf [1]
 refine df [.slice none 0 0] 20 fK Tryz.sizeOf29 ?_
 intro jv fM
 refine C4 (bN (bN (Iq (Il (fw (vJ (b+1)) (Ir (e:=C3.wrap ((b:Int)+1)) yk f0) (Mz rfl (C4 ?_)))))))
 have fO:=fM.pf [1]
 exact II (b+1,z,B,j,l,n,o,p,r,s,t,u,C,E,F,W,R,f,X,S,T,g,none,0, []) ⟨rfl,rfl,rfl,rfl,rfl,trivial⟩ (I.2 ⟨fO,(show jm 6 ak aa a.aB.ls W R f/\jm 3 au ag aJ X S T/\s5 af.abs T=g/\jm 2 av ah a.ag.ls none 0 []/\(b+1)<=d.bX.ls.length/\j<=a.aU+(b+1)/\l<=a.ax+(b+1)/\n<=a.aX+(b+1)/\o<=a.eQ+(b+1)/\p<=a.bG+(b+1)/\r<=a.aF+(b+1)/\s<=a.eG+(b+1)/\t<=a.cZ+(b+1)/\u<=a.xN+(b+1)/\bV a d d.bX.ls a.dK a.fA a.aU a.ax a.aX a.eQ a.bG a.aF a.eG a.cZ a.xN a.fe a.cu.aJ a.cu.aR a.aB.ls a.ah.ls a.ag.ls=bV a d (r4 (b+1) d.bX.ls) z B j l n o p r s t u C E F f g [] from ⟨by exact K,by exact G,by exact J,by exact jm.nil,e6,e6,e6,e6,e6,e6,e6,e6,e6,e6,et (M) (et (congrArg (λ q=>bV a d q z B j l n o p r s t u C E F f g h) N) (et (iN P) (et (iN V) (et (iN Z) (et (iN ai) (et (iN ay) (et (iN aC) (et (iN aD) (et (iN aG) (et (iN aK) (et (iN aP) (et (iN aT) (ip aZ)))))))))))))⟩)⟩) (by show d.bX.ls.length - (b+1) < d.bX.ls.length - b; omega)
 refine jF (dF aZ) (sr (Kz (.bool (decide (y=12))) (An rfl ?_)))
 by_cases bn:y=12
 refine jT (dT bn) (Il (Kz (vP aF 5) ?_))
 have fQ:=O.pf [1]
 refine df [vI 0] 5 fQ Tryz.sizeOf3 ?_
 intro jw fU
 refine C4 (bN (bN (Iq (Il (fw (vJ (b+1)) (Ir (e:=C3.wrap ((b:Int)+1)) yk f0) (Mz rfl (C4 ?_)))))))
 have fV:=fU.pf [1]
 exact II (b+1,z,0,j,l,n,o,p,r,s,t,u,C,E,F,W,R,f,X,S,T,g,Y,U,h) ⟨rfl,rfl,rfl,rfl,rfl,trivial⟩ (I.2 ⟨fV,by exact K,by exact G,by exact J,by exact L,e6,e6,e6,e6,e6,e6,e6,e6,e6,e6,et (M) (et (congrArg (λ q=>bV a d q z B j l n o p r s t u C E F f g h) N) (et (iN P) (et (iN V) (et (iN Z) (et (iN ai) (et (iN ay) (et (iN aC) (et (iN aD) (et (iN aG) (et (iN aK) (et (iN aP) (et (iN aT) (et (iN aZ) (ip bn))))))))))))))⟩) (by show d.bX.ls.length - (b+1) < d.bX.ls.length - b; omega)
 refine jF (dF bn) (sr (Kz (.bool (decide (y=13))) (An rfl ?_)))
 by_cases bq:y=13
 refine jT (dT bq) (Il (Kz (.agg #[.string ⟨v6 []⟩, .string ⟨v6 []⟩]) (Kz (vP aF 16) ?_)))
 have fZ:=O.pf [1]
 refine df [.string ⟨v6 []⟩, .string ⟨v6 []⟩] 16 fZ Tryz.sizeOf38 ?_
 intro jy gm
 refine C4 (bN (bN (Iq (Il (fw (vJ (b+1)) (Ir (e:=C3.wrap ((b:Int)+1)) yk f0) (Mz rfl (C4 ?_)))))))
 have gp:=gm.pf [1]
 exact II (b+1,z,B,j,l,n,o,p,r,s,t,u,C, [], [],W,R,f,X,S,T,g,Y,U,h) ⟨rfl,rfl,rfl,rfl,rfl,trivial⟩ (I.2 ⟨gp,(show jm 6 ak aa a.aB.ls W R f/\jm 3 au ag aJ X S T/\s5 af.abs T=g/\jm 2 av ah a.ag.ls Y U h/\(b+1)<=d.bX.ls.length/\j<=a.aU+(b+1)/\l<=a.ax+(b+1)/\n<=a.aX+(b+1)/\o<=a.eQ+(b+1)/\p<=a.bG+(b+1)/\r<=a.aF+(b+1)/\s<=a.eG+(b+1)/\t<=a.cZ+(b+1)/\u<=a.xN+(b+1)/\bV a d d.bX.ls a.dK a.fA a.aU a.ax a.aX a.eQ a.bG a.aF a.eG a.cZ a.xN a.fe a.cu.aJ a.cu.aR a.aB.ls a.ah.ls a.ag.ls=bV a d (r4 (b+1) d.bX.ls) z B j l n o p r s t u C [] [] f g h from ⟨by exact K,by exact G,by exact J,by exact L,e6,e6,e6,e6,e6,e6,e6,e6,e6,e6,et (M) (et (congrArg (λ q=>bV a d q z B j l n o p r s t u C E F f g h) N) (et (iN P) (et (iN V) (et (iN Z) (et (iN ai) (et (iN ay) (et (iN aC) (et (iN aD) (et (iN aG) (et (iN aK) (et (iN aP) (et (iN aT) (et (iN aZ) (et (iN bn) (ip bq)))))))))))))))⟩)⟩) (by show d.bX.ls.length - (b+1) < d.bX.ls.length - b; omega)
 refine jF (dF bq) (sr (Kz (.bool (decide (y=14))) (An rfl ?_)))
 by_cases bC:y=14
 refine jT (dT bC) (Il (Kz (vP aF 13) ?_))
 have gq:=O.pf [1]
 refine df [.int .u64 0] 13 gq O0 ?_
 intro jA gu
 refine C4 (bN (bN (Iq (Il (fw (vJ (b+1)) (Ir (e:=C3.wrap ((b:Int)+1)) yk f0) (Mz rfl (C4 ?_)))))))
 have gy:=gu.pf [1]
 exact II (b+1,z,B,j,l,n,o,p,r,s,0,u,C,E,F,W,R,f,X,S,T,g,Y,U,h) ⟨rfl,rfl,rfl,rfl,rfl,trivial⟩ (I.2 ⟨gy,by exact K,by exact G,by exact J,by exact L,e6,e6,e6,e6,e6,e6,e6,e6,e6,e6,et (M) (et (congrArg (λ q=>bV a d q z B j l n o p r s t u C E F f g h) N) (et (iN P) (et (iN V) (et (iN Z) (et (iN ai) (et (iN ay) (et (iN aC) (et (iN aD) (et (iN aG) (et (iN aK) (et (iN aP) (et (iN aT) (et (iN aZ) (et (iN bn) (et (iN bq) (ip bC))))))))))))))))⟩) (by show d.bX.ls.length - (b+1) < d.bX.ls.length - b; omega)
 refine jF (dF bC) (sr (Kz (.bool (decide (y=15))) (An rfl ?_)))
 by_cases bF:y=15
 refine jT (dT bF) (Il (Kz (vP aF 14) ?_))
 have gz:=O.pf [1]
 refine df [.int .u64 0] 14 gz O0 ?_
 intro jB gB
 refine C4 (bN (bN (Iq (Il (fw (vJ (b+1)) (Ir (e:=C3.wrap ((b:Int)+1)) yk f0) (Mz rfl (C4 ?_)))))))
 have gD:=gB.pf [1]
 exact II (b+1,z,B,j,l,n,o,p,r,s,t,0,C,E,F,W,R,f,X,S,T,g,Y,U,h) ⟨rfl,rfl,rfl,rfl,rfl,trivial⟩ (I.2 ⟨gD,by exact K,by exact G,by exact J,by exact L,e6,e6,e6,e6,e6,e6,e6,e6,e6,e6,et (M) (et (congrArg (λ q=>bV a d q z B j l n o p r s t u C E F f g h) N) (et (iN P) (et (iN V) (et (iN Z) (et (iN ai) (et (iN ay) (et (iN aC) (et (iN aD) (et (iN aG) (et (iN aK) (et (iN aP) (et (iN aT) (et (iN aZ) (et (iN bn) (et (iN bq) (et (iN bC) (ip bF)))))))))))))))))⟩) (by show d.bX.ls.length - (b+1) < d.bX.ls.length - b; omega)
 refine jF (dF bF) (IU (bN (bN (Iq (Il (fw (vJ (b+1)) (Ir (e:=C3.wrap ((b:Int)+1)) yk f0) (Mz rfl (C4 ?_))))))))
 have gF:=O.pf []
 exact II (b+1,z,B,j,l,n,o,p,r,s,t,u,C,E,F,W,R,f,X,S,T,g,Y,U,h) ⟨rfl,rfl,rfl,rfl,rfl,trivial⟩ (I.2 ⟨gF,by exact K,by exact G,by exact J,by exact L,e6,e6,e6,e6,e6,e6,e6,e6,e6,e6,et (M) (et (congrArg (λ q=>bV a d q z B j l n o p r s t u C E F f g h) N) (et (iN P) (et (iN V) (et (iN Z) (et (iN ai) (et (iN ay) (et (iN aC) (et (iN aD) (et (iN aG) (et (iN aK) (et (iN aP) (et (iN aT) (et (iN aZ) (et (iN bn) (et (iN bq) (et (iN bC) (iN bF)))))))))))))))))⟩) (by show d.bX.ls.length - (b+1) < d.bX.ls.length - b; omega)
 refine jF (dF cO) (Wp.exit (IC ?_))
 have aU:bV a d d.bX.ls a.dK a.fA a.aU a.ax a.aX a.eQ a.bG a.aF a.eG a.cZ a.xN a.fe a.cu.aJ a.cu.aR a.aB.ls a.ah.ls a.ag.ls=(z,B,j,l,n,o,p,r,s,t,u,C,E,F,f,g,h):=et (M) (et (congrArg (λ q=>bV a d q z B j l n o p r s t u C E F f g h) (dZ (ls:=d.bX.ls) (i:=b) e6)) rfl)
 refine IC (IK (Iq (sr (La (iA a.av a.aI a.eO a.aP z B j l n o p r s t u C E F W f.length R X g.length S Y h.length U) O 1 N8 N9 ?_))))
 refine df (iA a.av a.aI a.eO a.aP z B j l n o p r s t u C E F W f.length R X g.length S Y h.length U) 0 O N9 ?_
 intro jC cZ
 refine nt (rt (Fin.res (oo rfl rfl (IJ (cs:=(iA a.av a.aI a.eO a.aP z B j l n o p r s t u C E F W f.length R X g.length S Y h.length U)) N8 N9 ((cZ.cls (i:=0) rfl).lit (k:=0) (m:=21) rfl))) ?_))
 obtain⟨bG,aR⟩:∃ q,qK (bW.mk a.av a.aI a.eO a.aP z B j l n o p r s t u C (aL.mk E F) (E0 f) (E0 g) (E0 h))=q:=⟨_,rfl⟩
 obtain⟨jD,dC,bA,dD,iR⟩:=Iu cZ
 refine pW (cn aB) Tryz.call51 (zu _ _ (bW.mk a.av a.aI a.eO a.aP z B j l n o p r s t u C (aL.mk E F) (E0 f) (E0 g) (E0 h)) W f.length R X g.length S T Y h.length U bG dC rfl (λ w9 h9=>jm.rds aN.len f2 K ((bA _ bM) w9 h9)) e6 J rfl (λ w9 h9=>sZ (aA J) (jm.rds af.len f2 G (sZ (aA bu).symm ((bA _ bO) w9 h9)))) e6 (λ x9 h9=>⟨bA _ ((λ x9 h9=>bv x9 (Kb G h9)) x9 h9).1,((λ x9 h9=>bv x9 (Kb G h9)) x9 h9).2⟩) rfl (λ w9 h9=>jm.rds aM.len f2 L ((bA _ bP) w9 h9)) e6 i3 aR) ?_
 rintro _ jE ⟨rfl,dE⟩
 have bH:=dD _ _ dE
 refine Gz (.bool (!bG)) (cn aB) (fw (.bool (!bG)) (Io rfl (cn aB) rfl) (Mz rfl ?_))
 rcases Ls (bG) with Q | Q
 refine Ga (gK a ak aa au ag av ah) (cn Q) bH 4 N8 N9 (Gz (vP bD 2) (cn Q) (Gl (.slice bi d.bX.ls.length bz) (cn Q) bH 2 Tryz.isAgg126 ?_))
 obtain⟨bI,aV⟩:∃ q,p9 a d.bX.ls=q:=⟨_,rfl⟩
 obtain⟨jG,dG,bB,dH,dI⟩:=Iu bH
 refine pW (cn Q) Tryz.call53 (yJ _ _ a ak a.aB.ls.length aa au a.ah.ls.length ag aJ av a.ag.ls.length ah bi d.bX.ls.length bz d.bX.ls bI dG rfl (bB _ bM) e6 bu rfl (bB _ bO) e6 (λ x9 h9=>⟨bB _ (bv x9 h9).1,(bv x9 h9).2⟩) rfl (bB _ bP) e6 (dI _ 3 _ rfl aW) rfl e6 i3 aV) ?_
 rintro _ jH ⟨rfl,dJ⟩
 have di:=dH _ _ dJ
 refine Gz (.bool (!bI)) (cn Q) (fw (.bool (!bI)) (Io rfl (cn Q) rfl) (nt ?_))
 rcases Ls (bI) with bf | bf
 refine jF (cn bf) (sk (Ik (Ik ?_)))
 have bg:=di.pk [2,3,4]
 refine Il (Kz (vP bD 0) (Lz (vI d.mi) bg 0 N7 (Kz (.bool (decide (d.mi=1))) (Mz rfl ?_))))
 by_cases aI:d.mi=1
 refine Gz (vP bD 1) (dT aI) (Gl (vI d.o5) (dT aI) bg 0 N7 (Gz (.bool (decide (d.o5=1))) (dT aI) (fw (.bool (decide (d.o5=1))) (Iw rfl (dT aI) rfl) (Mz rfl ?_))))
 by_cases az:d.o5=1
 refine Gz (vP bL 1) (dT az) (Gl (vI a.aI) (dT az) bg 2 C2 (Gz (vP bL 2) (dT az) (Gl (vI a.eO) (dT az) bg 2 C2 (Gz (.bool (decide (a.aI=a.eO))) (dT az) (fw (.bool (decide (a.aI=a.eO))) (Iw rfl (dT az) rfl) (nt ?_))))))
 by_cases bK:a.aI=a.eO
 refine jT (dT bK) (Ik ?_)
 have gH:=bg.pk []
 refine Il (An rfl (rt (tR (rs ?_))))
 have gI:=gH.pk []
 obtain rfl:=zj hr zq14
 exact⟨rfl,gI⟩
 refine jF (dF bK) (sk (Ik ?_))
 have gJ:=bg.pk []
 refine Il (An rfl (rt (rs ?_)))
 have gL:=gJ.pk []
 obtain rfl:=zj hr zq14
 exact⟨rfl,gL⟩
 refine Sz (dF az) (Sz (dF az) (Sz (dF az) (Sz (dF az) (Sz (dF az) (fw (.bool false) (Io rfl (dF az) rfl) (nt (jf (sk (Ik ?_)))))))))
 have gM:=bg.pk []
 refine Il (An rfl (rt (rs ?_)))
 have gN:=gM.pk []
 obtain rfl:=zj hr zq13
 exact⟨rfl,gN⟩
 refine Sz (dF aI) (Sz (dF aI) (Sz (dF aI) (fw (.bool false) (Io rfl (dF aI) rfl) (Mz rfl (Sz rfl (Sz rfl (Sz rfl (Sz rfl (Sz rfl (fw (.bool false) (Io rfl rfl rfl) (nt (jf (sk (Ik ?_))))))))))))))
 have gP:=bg.pk []
 refine Il (An rfl (rt (rs ?_)))
 have gQ:=gP.pk []
 obtain rfl:=zj hr zq12
 exact⟨rfl,gQ⟩
 refine jT (cn bf) (Ik ?_)
 have gT:=di.pk [2,3,4]
 refine Il (An rfl (rt (tR (rs ?_))))
 have gU:=gT.pk []
 obtain rfl:=zj hr zq11
 exact⟨rfl,gU⟩
 refine Sz (cn Q) (Sz (cn Q) (Sz (cn Q) (Sz (cn Q) (Sz (cn Q) (fw (.bool true) (Iw rfl (cn Q) rfl) (nt (jt (Ik ?_))))))))
 have gV:=bH.pk [2,3,4]
 refine Il (An rfl (rt (tR (rs ?_))))
 have gW:=gV.pk []
 obtain rfl:=zj hr zq9
 exact⟨rfl,gW⟩
 refine Sz (cn aB) (Sz (cn aB) (Sz (cn aB) (Sz (cn aB) (Sz (cn aB) (Sz (cn aB) (fw (.bool true) (Iw rfl (cn aB) rfl) (Mz rfl (Sz rfl (Sz rfl (Sz rfl (Sz rfl (Sz rfl (fw (.bool true) (Iw rfl rfl rfl) (nt (jt (sr (An rfl (rt (tR (rs ?_))))))))))))))))))))
 have gX:=bY.pk []
 obtain rfl:=zj hr zq6
 exact⟨rfl,gX⟩
 refine Sz (cn ax) (Sz (cn ax) (Sz (cn ax) (Sz (cn ax) (Sz (cn ax) (Sz (cn ax) (fw (.bool true) (Iw rfl (cn ax) rfl) (Mz rfl (Sz rfl (Sz rfl (Sz rfl (Sz rfl (Sz rfl (Sz rfl (fw (.bool true) (Iw rfl rfl rfl) (Mz rfl (Sz rfl (Sz rfl (Sz rfl (Sz rfl (Sz rfl (fw (.bool true) (Iw rfl rfl rfl) (nt (jt (sr (An rfl (rt (tR (rs ?_))))))))))))))))))))))))))))
 have gY:=bU.pk []
 obtain rfl:=zj hr zq4
 exact⟨rfl,gY⟩
 refine Sz (cn aj) (Sz (cn aj) (Sz (cn aj) (Sz (cn aj) (Sz (cn aj) (Sz (cn aj) (fw (.bool true) (Iw rfl (cn aj) rfl) (Mz rfl (Sz rfl (Sz rfl (Sz rfl (Sz rfl (Sz rfl (Sz rfl (fw (.bool true) (Iw rfl rfl rfl) (Mz rfl (Sz rfl (Sz rfl (Sz rfl (Sz rfl (Sz rfl (Sz rfl (fw (.bool true) (Iw rfl rfl rfl) (Mz rfl (Sz rfl (Sz rfl (Sz rfl (Sz rfl (Sz rfl (fw (.bool true) (Iw rfl rfl rfl) (nt (jt (sr (An rfl (rt (tR ?_)))))))))))))))))))))))))))))))))))
 refine rs ?_
 have gZ:=bS.pk []
 obtain rfl:=zj hr zq2
 exact⟨rfl,gZ⟩
end
open Int renaming fdiv->K1
open List renaming flatMap_append->r5,length_drop->o1,length_take->o0
open _root_.Go.Proofs.Tryz renaming call156->O1,call163->O2,underlying39->F2,underlying58->y4
section
open Go.RowKit
def jB (d:List UInt8):List aM->Nat->Nat->Nat
  | [],b,a=>b
  | e::c,b,a=>if e.aJ<=d then jB d c a (a+1) else jB d c b (a+1)
def qc (l0:List aM) (a:List UInt8):Int:=
 bnd (jB a l0 0 0) λ sLrL=>(sLrL:Int)
theorem yK (w D l u x l0 c t) (H:Own w D w []) (o:Ro w D λ w'=>aY w' 2 l u (q4 aM.cells l0)) (y:u=l0.length) (M:l0.length *24<=211106232532992) (N:1<=l0.length) (hr:qc l0 c=t):
    Calls v5 162 #[.slice l u x, .string ⟨v6 c⟩] w (dA λ v w'=>v=vI t/\Own w D w' []/\(0<=t/\t < ((l0.length:Nat):Int))):=by
 unfold qc at hr
 subst y
 refine cb Tryz.func162 ?_
 refine sr (Ar rfl (An rfl (Ik (sr (Mz rfl (Kz (vJ l0.length) (Mn rfl (bo ?_))))))))
 have z:=H.pk []
 obtain⟨A,d⟩:=FI λ (b:Nat) (a:Nat) w'=>Own w D w' []/\a<=l0.length/\b<=a/\b<=a/\b<=l0.length/\0<=b/\b < l0.length/\jB c l0 0 0=jB c (r4 a l0) b a
 refine C1 (λ i:Nat × Nat=> [(5,vJ i.1),(9,vJ i.2),(8,vJ l0.length),(4,vI 0),(0, .slice l l0.length x),(1, .string ⟨v6 c⟩)]) A (λ i=>l0.length - i.2) (0,0) ⟨rfl,rfl,rfl,rfl,rfl,rfl,trivial⟩ (d.2 ⟨z,e6,e6,e6,e6,e6,e6,rfl⟩) ?_
 rintro ⟨b,a⟩ O p
 obtain⟨f,F,G,I,J,K,L,g⟩:=d.1 p
 refine sr (Kz (.bool (decide ((a:Int) < (l0.length:Int)))) (nt (Ik ?_)))
 by_cases r:(a:Int) < (l0.length:Int)
 obtain⟨h,m⟩:=dh (ls:=l0) (i:=a) aM.len f2 (f.ro o) e9
 have n:=drop_at m
 refine jT (dT r) (sk (Ik (bo (sr (Mz rfl (Ar rfl (Mz rfl (Mz rfl (fw (.pointer (some ⟨ab l,ao l+a *2,none⟩)) (Iz (nE) rfl rfl ((f.ro o).addr (i:=a) e6) e6) (Kz (.pointer (some ⟨ab l,ao l+a *2,none⟩)) (fw (.string ⟨v6 h.aJ⟩) (IB rfl (bJ.one C0 (((f.ro o).elem aM.len m f2).at_ (k:=0) rfl))) (Mz rfl (fw (.bool (decide (h.aJ<=c))) (IM (e:=Op.bytesLess h.aJ c || decide (h.aJ=c)) (JD rfl rfl) (xI _ _)) (nt ?_))))))))))))))
 by_cases j:h.aJ<=c
 refine jT (dT j) (Il (Mz rfl (Az rfl (C4 (bN (Iq (Il (fw (vJ (a+1)) (Ir (e:=C3.wrap ((a:Int)+1)) yk f0) (Mz rfl (C4 ?_))))))))))
 have B:=f.pk []
 exact II (a,a+1) ⟨rfl,rfl,rfl,rfl,rfl,rfl,trivial⟩ (d.2 ⟨B,e6,e6,e6,e6,e6,e6,et (g) (et (congrArg (λ q=>jB c q b a) n) (ip j))⟩) (by show l0.length - (a+1) < l0.length - a; omega)
 refine jF (dF j) (IU (bN (Iq (Il (fw (vJ (a+1)) (Ir (e:=C3.wrap ((a:Int)+1)) yk f0) (Mz rfl (C4 ?_)))))))
 have C:=f.pk []
 exact II (b,a+1) ⟨rfl,rfl,rfl,rfl,rfl,rfl,trivial⟩ (d.2 ⟨C,e6,e6,e6,e6,e6,e6,et (g) (et (congrArg (λ q=>jB c q b a) n) (iN j))⟩) (by show l0.length - (a+1) < l0.length - a; omega)
 refine jF (dF r) (C5 (IC ?_))
 have s:jB c l0 0 0=b:=et (g) (et (congrArg (λ q=>jB c q b a) (dZ (ls:=l0) (i:=a) e6)) rfl)
 refine IC (IK (Iq (sr (Mz rfl (An rfl (rt (rs ?_)))))))
 have E:=f.pk []
 obtain rfl:=zj hr zq1
 exact⟨rfl,E,e6⟩
def kv (l0:List aM) (c:Int):aL:=
 bnd (B8 l0 (C6 c) default) λ a=>if c+1 < (l0.length:Int) then bnd (B8 l0 (C6 (c+1)) default) λ b=>aL.mk a.aJ b.aJ else aL.mk a.aJ []
theorem oF (w D h r C l0 b) (B:aL) (H:Own w D w []) (c:Ro w D λ w'=>aY w' 2 h r (q4 aM.cells l0)) (s:r=l0.length) (E:l0.length *24<=211106232532992) (F:0<=b/\b < ((l0.length:Nat):Int)) (hr:kv l0 b=B):
    Calls v5 156 #[.slice h r C,vI b] w (dA λ v w'=>v= .agg (aL.cells B).toArray/\Own w D w' []):=by
 unfold kv at hr
 subst s
 refine cb Tryz.func156 ?_
 refine sr ?_
 refine dn [.string ⟨v6 []⟩, .string ⟨v6 []⟩] 38 H ?_
 intro G I j
 refine ns (Mz rfl (fw (vJ (C6 b)) (Ir (e:=b) (IA rfl) e6) ?_))
 obtain⟨a,g⟩:=dh (ls:=l0) (i:=C6 b) aM.len f2 (j.ro c) e9
 refine fw (.pointer (some ⟨ab h,ao h+(C6 b) *2,none⟩)) (Iz (nE) rfl rfl ((j.ro c).addr (i:=C6 b) e6) e6) (Kz (.pointer (some ⟨ab h,ao h+(C6 b) *2,none⟩)) (fw (.string ⟨v6 a.aJ⟩) (IB rfl (bJ.one C0 (((j.ro c).elem aM.len g f2).at_ (k:=0) rfl))) (Kz (.agg #[.string ⟨v6 a.aJ⟩, .string ⟨v6 []⟩]) ?_)))
 refine dn [.string ⟨v6 []⟩, .string ⟨v6 []⟩] 38 j ?_
 intro t J u
 refine df [.string ⟨v6 a.aJ⟩, .string ⟨v6 []⟩] 0 u M9 ?_
 intro K d
 refine nt (Ik (sr (Mz rfl (fw (vI (b+1)) (Ir (e:=C3.wrap (b+1)) yk g1) (Mz rfl (Kz (vJ l0.length) (Kz (.bool (decide (b+1 < (l0.length:Int)))) (nt ?_))))))))
 by_cases l:b+1 < (l0.length:Int)
 refine jT (dT l) (Il (Mz rfl (Mz rfl (fw (vJ (C6 (b+1))) (Ir (e:=C3.wrap (b+1)) yk f0) ?_))))
 obtain⟨f,n⟩:=dh (ls:=l0) (i:=C6 (b+1)) aM.len f2 (d.ro c) e9
 refine fw (.pointer (some ⟨ab h,ao h+(C6 (b+1)) *2,none⟩)) (Iz (nE) rfl rfl ((d.ro c).addr (i:=C6 (b+1)) e6) e6) (Kz (.pointer (some ⟨ab h,ao h+(C6 (b+1)) *2,none⟩)) (fw (.string ⟨v6 f.aJ⟩) (IB rfl (bJ.one C0 (((d.ro c).elem aM.len n f2).at_ (k:=0) rfl))) (Kz (vP t 1) ?_)))
 refine df [.string ⟨v6 f.aJ⟩] 1 d Tryz.sizeOf9 ?_
 intro L o
 refine ns (La ([.string ⟨v6 a.aJ⟩, .string ⟨v6 f.aJ⟩]) o 0 N0 M9 ?_)
 have x:=o.pb [0]
 refine df [.string ⟨v6 a.aJ⟩, .string ⟨v6 f.aJ⟩] 0 x M9 ?_
 intro M p
 refine nt (rt (Fin.res (oo rfl rfl (IJ (cs:= [.string ⟨v6 a.aJ⟩, .string ⟨v6 f.aJ⟩]) N0 M9 ((p.cls (i:=0) rfl).lit (k:=0) (m:=2) rfl))) ?_))
 have y:=p.pk []
 obtain rfl:=zj hr zq3
 exact⟨rfl,y⟩
 refine jF (dF l) (sk (sr (La ([.string ⟨v6 a.aJ⟩, .string ⟨v6 []⟩]) d 0 N0 M9 ?_)))
 have z:=d.pb [0]
 refine df [.string ⟨v6 a.aJ⟩, .string ⟨v6 []⟩] 0 z M9 ?_
 intro N q
 refine nt (rt (Fin.res (oo rfl rfl (IJ (cs:= [.string ⟨v6 a.aJ⟩, .string ⟨v6 []⟩]) N0 M9 ((q.cls (i:=0) rfl).lit (k:=0) (m:=2) rfl))) ?_))
 have A:=q.pk []
 obtain rfl:=zj hr zq2
 exact⟨rfl,A⟩
def oK (a:List UInt8) (b:List UInt8):(List UInt8):=
 if a=[] then b else if b≠[] then if b < a then b else a else a
theorem xy (w D d c k) (H:Own w D w []) (hr:oK d c=k):
    Calls v5 187 #[.string ⟨v6 d⟩, .string ⟨v6 c⟩] w (dA λ v w'=>v= .string ⟨v6 k⟩/\Own w D w' []):=by
 unfold oK at hr
 refine cb Tryz.func187 ?_
 refine sr (An rfl (Ik (sr (Mz rfl (fw (.bool (decide (d=[]))) (JC rfl rfl) (Mz rfl ?_))))))
 by_cases a:d=[]
 refine Sz (dT a) (Sz (dT a) (Sz (dT a) (IG rfl rfl rfl (IG rfl rfl rfl (IG rfl rfl rfl (Sz (dT a) (fw (.bool true) (Iw rfl (dT a) rfl) (nt (jt (sr (Mz rfl (An rfl (rt (tR (rs ?_)))))))))))))))
 have g:=H.pk []
 obtain rfl:=zj hr zq1
 exact⟨rfl,g⟩
 refine gw (.string ⟨v6 c⟩) (dF a) (IA rfl) (gw (.bool (decide (c≠[]))) (dF a) (I6 rfl rfl) (gw (.bool (decide (c≠[]))) (dF a) (IA rfl) ?_))
 by_cases b:c≠[]
 refine gw (.string ⟨v6 c⟩) (dT b) (IA rfl) (gw (.string ⟨v6 d⟩) (dT b) (IA rfl) (gw (.bool (decide (c < d))) (dT b) (IM (e:=Op.bytesLess c d) (JK rfl rfl) (wz _ _)) (gw (.bool (decide (c < d))) (dF a) (Iw rfl (dT b) rfl) (fw (.bool (decide (c < d))) (Io rfl (dF a) rfl) (nt ?_)))))
 by_cases f:c < d
 refine jT (dT f) (sr (Mz rfl (An rfl (rt (tR (rs ?_))))))
 have h:=H.pk []
 obtain rfl:=zj hr zq3
 exact⟨rfl,h⟩
 refine jF (dF f) (sk (sr (Mz rfl (An rfl (rt (rs ?_))))))
 have i:=H.pk []
 obtain rfl:=zj hr zq3
 exact⟨rfl,i⟩
 refine Sz (dF b) (Sz (dF b) (Sz (dF b) (gw (.bool false) (dF a) (Io rfl (dF b) rfl) (fw (.bool false) (Io rfl (dF a) rfl) (nt (jf (sk (sr (Mz rfl (An rfl (rt (rs ?_))))))))))))
 have j:=H.pk []
 obtain rfl:=zj hr zq2
 exact⟨rfl,j⟩
def qL (b:List UInt8) (a:List UInt8):Bool:=
 if a=[] then true else decide (b < a)
theorem zw (w D c b g) (H:Own w D w []) (hr:qL c b=g):
    Calls v5 188 #[.string ⟨v6 c⟩, .string ⟨v6 b⟩] w (dA λ v w'=>v= .bool g/\Own w D w' []):=by
 unfold qL at hr
 refine cb Tryz.func188 ?_
 refine sr (Ar rfl (Mz rfl (fw (.bool (decide (b=[]))) (JC rfl rfl) (Mz rfl ?_))))
 by_cases a:b=[]
 refine Sz (dT a) (Sz (dT a) (Sz (dT a) (fw (.bool true) (Iw rfl (dT a) rfl) (An rfl (rt (rs ?_))))))
 have d:=H.pk []
 obtain rfl:=zj hr zq1
 exact⟨rfl,d⟩
 refine gw (.string ⟨v6 c⟩) (dF a) (IA rfl) (gw (.string ⟨v6 b⟩) (dF a) (IA rfl) (gw (.bool (decide (c < b))) (dF a) (IM (e:=Op.bytesLess c b) (JK rfl rfl) (wz _ _)) (fw (.bool (decide (c < b))) (Io rfl (dF a) rfl) (An rfl (rt (rs ?_))))))
 have f:=H.pk []
 obtain rfl:=zj hr zq1
 exact⟨rfl,f⟩
def kJ (e:aL) (f:aL):aL × Bool:=
 bnd (iB e) λ b=>if b=0 then bnd (iB f) λ c=>if c=0 then bnd (oK e.aR f.aR) λ a=>bnd (qL (jK e.aJ f.aJ) a) λ d=>if d=true then(aL.mk (jK e.aJ f.aJ) a,true) else(aL.mk [] [],false) else(aL.mk [] [],false) else(aL.mk [] [],false)
theorem nS (w D) (d:aL) (c:aL) (r0:aL) (r1) (H:Own w D w []) (hr:kJ d c=(r0,r1)):
    Calls v5 163 #[.agg (aL.cells d).toArray, .agg (aL.cells c).toArray] w (dA λ v w'=>v= .tuple #[.agg (aL.cells r0).toArray, .bool r1]/\Own w D w' []):=by
 unfold kJ at hr
 refine cb Tryz.func163 ?_
 refine sr ?_
 refine dn (aL.cells d) 38 H ?_
 intro B aQ Z
 refine dn (aL.cells c) 38 Z ?_
 intro C aR aa
 refine dn [.string ⟨v6 []⟩, .string ⟨v6 []⟩] 38 aa ?_
 intro aS aT E
 refine An rfl (Ik (sr (La (aL.cells d) E 2 N0 M9 ?_)))
 obtain⟨s,f⟩:∃ q,iB d=q:=⟨_,rfl⟩
 obtain⟨aU,F,aG,G,aH⟩:=Iu E
 refine cl Tryz.call116 (qf _ _ d s F f) ?_
 rintro _ aV ⟨rfl,I⟩
 have x:=G _ _ I
 refine fw (.bool (decide (¬ (s=0)))) (IM (e:= !(decide (s=0))) yk decide_not.symm) (Mz rfl ?_)
 by_cases a:s=0
 refine gw (.agg (aL.cells c).toArray) (dF (Lr a)) (IB rfl (IJ (cs:=(aL.cells c)) N0 M9 ((x.cls (i:=1) rfl).lit (k:=0) (m:=2) rfl))) ?_
 obtain⟨h,g⟩:∃ q,iB c=q:=⟨_,rfl⟩
 obtain⟨aW,J,aI,K,aJ⟩:=Iu x
 refine pW (dF (Lr a)) Tryz.call116 (qf _ _ c h J g) ?_
 rintro _ aX ⟨rfl,L⟩
 have M:=K _ _ L
 refine gw (.bool (decide (¬ (h=0)))) (dF (Lr a)) (IM (e:= !(decide (h=0))) yk decide_not.symm) (fw (.bool (decide (¬ (h=0)))) (Io rfl (dF (Lr a)) rfl) (nt ?_))
 by_cases j:h=0
 refine jF (dF (Lr j)) (sk (Ik ?_))
 refine EF [] (IE IQ) M ?_
 intro aY af
 refine qp B 0 0 rfl (ql 1 rfl 2 C0 rfl rfl rfl (qp C 0 2 rfl (ql 3 rfl 1 C0 rfl rfl rfl (qt (v:= .string ⟨v6 (jK d.aJ c.aJ)⟩) 4 rfl (λ _ _=>J4 rfl) (qp B 1 5 rfl (ql 6 rfl 2 C0 rfl rfl rfl (qp C 1 7 rfl (ql 8 rfl 1 C0 rfl rfl rfl ?_))))))))
 obtain⟨b,l⟩:∃ q,oK d.aR c.aR=q:=⟨_,rfl⟩
 refine EG ⟨9,_,_,_,_,_,Unit,λ N=> .string ⟨v6 b⟩,λ _=>True,λ N=> []⟩ ⟨11,_,_,_,_,_,Nat,λ N=>vP N 0,λ _=>True,λ N=> [blk N [.string ⟨v6 []⟩, .string ⟨v6 []⟩] 38]⟩ 10 3 af ⟨⟨rfl,rfl,rfl, ?_⟩,⟨rfl,rfl,rfl, ?_⟩,trivial⟩ rfl ?_
 intro aZ L' ag
 refine(Jb (cs:= [.string ⟨v6 []⟩, .string ⟨v6 []⟩]) (t:=38) ag rfl rfl (λ _=>by kernel_rfl) ?_)
 intro n bf ah
 exact⟨n,rfl,trivial,ah⟩
 intro bg L' ai
 obtain⟨bi,O,aK,P,aM⟩:=Iu ai
 refine(IP Tryz.call187 rfl (xy _ _ d.aR c.aR b O l) ?_)
 rintro _ bn ⟨rfl,Q⟩
 have aj:=P _ _ Q
 exact⟨(),rfl,trivial,aj⟩
 rintro ⟨⟩ _
 refine⟨.agg #[.string ⟨v6 (jK d.aJ c.aJ)⟩, .string ⟨v6 b⟩],λ _=>yk, ?_⟩
 rintro n _
 intro ak au
 have av:Own w D ak (blk n [.string ⟨v6 []⟩, .string ⟨v6 []⟩] 38::_):=au.flat.pf []
 have ax:=av.pb [0]
 have ay:=ax.pf [3]
 refine qe 12 rfl (Do.store (vs:= [.string ⟨v6 (jK d.aJ c.aJ)⟩, .string ⟨v6 b⟩]) (o:=0) ay rfl rfl M9 rfl rfl rfl rfl ?_)
 intro bq az
 have R:=az.pb [0]
 refine⟨.inr ⟨_,R⟩, ?_⟩
 refine qn (Iq (Ik (Ik ?_)))
 have y:=R.pk [0,3]
 refine Il (Kz (vP n 0) (Lz (.string ⟨v6 (jK d.aJ c.aJ)⟩) y 1 C0 (Kz (vP n 1) (Lz (.string ⟨v6 b⟩) y 1 C0 ?_))))
 obtain⟨z,p⟩:∃ q,qL (jK d.aJ c.aJ) b=q:=⟨_,rfl⟩
 obtain⟨bu,S,aN,T,aO⟩:=Iu y
 refine cl Tryz.call188 (zw _ _ (jK d.aJ c.aJ) b z S p) ?_
 rintro _ bv ⟨rfl,U⟩
 have A:=T _ _ U
 refine Kz (.bool (!z)) (nt ?_)
 rcases Ls (z) with r | r
 refine jF (cn r) (sk (sr (La ([.string ⟨v6 (jK d.aJ c.aJ)⟩, .string ⟨v6 b⟩]) A 1 N0 M9 ?_)))
 refine df [.string ⟨v6 (jK d.aJ c.aJ)⟩, .string ⟨v6 b⟩] 0 A M9 ?_
 intro bz V
 refine An rfl (rt (Fin.res (jb (vs:= [.agg #[.string ⟨v6 (jK d.aJ c.aJ)⟩, .string ⟨v6 b⟩], .bool true]) rfl (cK.cell rfl (IJ (cs:= [.string ⟨v6 (jK d.aJ c.aJ)⟩, .string ⟨v6 b⟩]) N0 M9 ((V.cls (i:=0) rfl).lit (k:=0) (m:=2) rfl)) (cK.tmp rfl cK.nil)) (Lj rfl)) ?_))
 have aA:=V.pk []
 obtain⟨rfl,rfl⟩:=fD (zj hr zq7)
 exact⟨rfl,aA⟩
 refine jT (cn r) (sr (Kz (.agg #[.string ⟨v6 []⟩, .string ⟨v6 []⟩]) ?_))
 refine df [.string ⟨v6 []⟩, .string ⟨v6 []⟩] 0 A M9 ?_
 intro bA W
 refine An rfl (rt (tR (Fin.res (jb (vs:= [.agg #[.string ⟨v6 []⟩, .string ⟨v6 []⟩], .bool false]) rfl (cK.cell rfl (IJ (cs:= [.string ⟨v6 []⟩, .string ⟨v6 []⟩]) N0 M9 ((W.cls (i:=0) rfl).lit (k:=0) (m:=2) rfl)) (cK.tmp rfl cK.nil)) (Lj rfl)) ?_)))
 have aB:=W.pk []
 obtain⟨rfl,rfl⟩:=fD (zj hr zq7)
 exact⟨rfl,aB⟩
 refine jT (dT j) (sr (Kz (.agg #[.string ⟨v6 []⟩, .string ⟨v6 []⟩]) ?_))
 refine df [.string ⟨v6 []⟩, .string ⟨v6 []⟩] 0 M M9 ?_
 intro bB X
 refine An rfl (rt (tR (Fin.res (jb (vs:= [.agg #[.string ⟨v6 []⟩, .string ⟨v6 []⟩], .bool false]) rfl (cK.cell rfl (IJ (cs:= [.string ⟨v6 []⟩, .string ⟨v6 []⟩]) N0 M9 ((X.cls (i:=0) rfl).lit (k:=0) (m:=2) rfl)) (cK.tmp rfl cK.nil)) (Lj rfl)) ?_)))
 have aC:=X.pk []
 obtain⟨rfl,rfl⟩:=fD (zj hr zq4)
 exact⟨rfl,aC⟩
 refine Sz (dT a) (Sz (dT a) (Sz (dT a) (fw (.bool true) (Iw rfl (dT a) rfl) (nt (jt (sr (Kz (.agg #[.string ⟨v6 []⟩, .string ⟨v6 []⟩]) ?_)))))))
 refine df [.string ⟨v6 []⟩, .string ⟨v6 []⟩] 0 x M9 ?_
 intro aP u
 refine An rfl (rt (tR (Fin.res (jb (vs:= [.agg #[.string ⟨v6 []⟩, .string ⟨v6 []⟩], .bool false]) rfl (cK.cell rfl (IJ (cs:= [.string ⟨v6 []⟩, .string ⟨v6 []⟩]) N0 M9 ((u.cls (i:=0) rfl).lit (k:=0) (m:=2) rfl)) (cK.tmp rfl cK.nil)) (Lj rfl)) ?_)))
 have Y:=u.pk []
 obtain⟨rfl,rfl⟩:=fD (zj hr zq2)
 exact⟨rfl,Y⟩
def dW (l0:List aM) (g:Int) (d:aN):List aM->List aN->Nat->(List aN)
  | [],b,c=>b
  | h::e,b,c=>if h.bE=g then bnd (kv l0 (c:Int)) λ f=>bnd (kJ (aL.mk d.aJ d.aR) f) λ a=>if a.2=true then dW l0 g d e (b++ [(aN.mk d.av [] [] a.1.aJ a.1.aR d.aV)]) (c+1) else dW l0 g d e b (c+1) else dW l0 g d e b (c+1)
def fH (l0:List aM) (h:Int) (e:aN):List aM->List aN->Nat->(List aN)
  | [],a,b=>a
  | g::d,a,b=>if g.bE=h then bnd (kv l0 (b:Int)) λ f=>bnd (kJ (aL.mk e.aJ e.aR) f) λ c=>if c.2=true then fH l0 h e d (a++ [(aN.mk e.av [] [] c.1.aJ c.1.aR e.aV)]) (b+1) else fH l0 h e d a (b+1) else fH l0 h e d a (b+1)
def je (l0:List aM) (d:Int) (c:aN):(List aN):=
 if c.av=4 then bnd (dW l0 d c l0 [] 0) λ sLrtL=>sLrtL else if c.av=5 then bnd (fH l0 d c l0 [] 0) λ sLrftL=>sLrftL else bnd (qc l0 c.aZ) λ a=>bnd (B8 l0 (C6 a) default) λ b=>bnd (if b.bE=d then [c] else []) λ sJrffbbJ=>sJrffbbJ
theorem yL (w D M n0 c0 l0 p) (a:aN) (r0) (H:Own w D w []) (C:Ro w D λ w'=>aY w' 2 M n0 (q4 aM.cells l0)) (jh:n0=l0.length) (lL:l0.length *24<=211106232532992) (lM:1<=l0.length/\l0.length<=6) (hr:je l0 p a=r0):
    Calls v5 146 #[.slice M n0 c0,vI p, .agg (aN.cells a).toArray] w (dA λ v w'=> ∃ B0 b0,v= .slice B0 r0.length b0/\Own w D w' [row B0 r0.length b0 (q4 aN.cells r0) 72 6]/\(r0.length<=6)):=by
 unfold je at hr
 subst jh
 refine cb Tryz.func146 ?_
 refine sr ?_
 refine dn (aN.cells a) 72 H ?_
 intro g eZ aK
 refine Ar rfl (An rfl (Ik (sr (Kz (vP g 0) (Lz (vI a.av) aK 0 C2 (fw (.bool (decide (¬ (a.av=4)))) (IM (e:= !(decide (a.av=4))) yk decide_not.symm) (Mz rfl ?_)))))))
 by_cases N:a.av=4
 refine Sk rfl rfl (dF (Lr N)) rfl (Sk rfl rfl (dF (Lr N)) rfl (Sk rfl rfl (dF (Lr N)) rfl (fw (.bool false) (Io rfl (dF (Lr N)) rfl) (nt (jf (sk (Ik (sr (Mz rfl (Kz (vJ l0.length) (Mn rfl (bo ?_))))))))))))
 have ji:Own w D eZ [row none 0 0 (q4 aN.cells []) 72 6,blk g (aN.cells a) 72]:=aK.free (eP 72 6)
 have jk:=ji.pb [0]
 obtain⟨jl,E⟩:=tq λ Z (aa:Nat) f (c:Nat) w'=>Own w D w' [blk g (aN.cells a) 72,row Z f.length aa (q4 aN.cells f) 72 6]/\c<=l0.length/\f.length<=c/\dW l0 p a l0 [] 0=dW l0 p a (r4 c l0) f c
 refine C1 (λ i:(Option Addr) × Nat × (List aN) × Nat=> [(7, .slice i.1 i.2.2.1.length i.2.1),(36,vJ i.2.2.2),(35,vJ l0.length),(6, .slice none 0 0),(5,vP g 0),(0, .slice M l0.length c0),(1,vI p)]) jl (λ i=>l0.length - i.2.2.2) (none,0, [],0) ⟨rfl,rfl,rfl,rfl,rfl,rfl,rfl,trivial⟩ (E.2 ⟨jk,(show 0<=l0.length/\0<=0/\dW l0 p a l0 [] 0=dW l0 p a (r4 0 l0) [] 0 from ⟨e6,e6,rfl⟩)⟩) ?_
 rintro ⟨Z,aa,f,c⟩ lN fe
 obtain⟨aO,j6,kg,G⟩:=E.1 fe
 refine sr (Kz (.bool (decide ((c:Int) < (l0.length:Int)))) (nt (Ik ?_)))
 by_cases fo:(c:Int) < (l0.length:Int)
 obtain⟨bG,bH⟩:=dh (ls:=l0) (i:=c) aM.len f2 (aO.ro C) e9
 have O:=drop_at bH
 refine jT (dT fo) (sk (Ik (bo (sr (Mz rfl (An rfl (Ik (sr (Mz rfl (Mz rfl (fw (.pointer (some ⟨ab M,ao M+c *2,none⟩)) (Iz (nE) rfl rfl ((aO.ro C).addr (i:=c) e6) e6) (Kz (.pointer (some ⟨ab M,ao M+c *2+1,none⟩)) (fw (vI bG.bE) (IB rfl (bJ.one C2 (((aO.ro C).elem aM.len bH f2).at_ (k:=1) rfl))) (Mz rfl (fw (.bool (decide (¬ (bG.bE=p)))) (IM (e:= !(decide (bG.bE=p))) yk decide_not.symm) (nt ?_))))))))))))))))
 by_cases Y:bG.bE=p
 refine jF (dF (Lr Y)) (sk (Ik ?_))
 refine pM [] (IE (bv.block (IE (IE (bv.block (IE IQ)))))) aO ?_
 intro lQ fq
 refine qp g 3 0 rfl (ql 1 rfl 0 C0 rfl rfl rfl (qp g 4 2 rfl (ql 3 rfl 0 C0 rfl rfl rfl (qk (.agg #[.string ⟨v6 a.aJ⟩, .string ⟨v6 a.aR⟩]) 4 rfl (qv 5 rfl rfl (qv 6 rfl rfl ?_))))))
 refine Jy 7 12 e7 ?_ ?_
 obtain⟨aQ,af⟩:∃ q,kv l0 (c:Int)=q:=⟨_,rfl⟩
 obtain⟨lS,fu,fA,fB,ko⟩:=Iu fq
 refine GY.do 7 rfl e7 (IP O1 rfl (oF _ _ M l0.length c0 l0 (c:Int) aQ fu (fA _ C) rfl e6 e6 af) ?_)
 rintro _ lT ⟨rfl,fC⟩
 have dm:=fB _ _ fC
 refine⟨.inr ⟨_,dm⟩, ?_⟩
 refine Jy 8 12 e7 ?_ ?_
 obtain⟨⟨u,dw⟩,aR⟩:∃ q:aL × Bool,kJ (aL.mk a.aJ a.aR) aQ=q:=⟨_,rfl⟩
 obtain⟨lU,fD,kr,fE,ku⟩:=Iu dm
 refine GY.do 8 rfl e7 (IP O2 rfl (nS _ _ (aL.mk a.aJ a.aR) aQ u dw fD aR) ?_)
 rintro _ lV ⟨rfl,fF⟩
 have fG:=fE _ _ fF
 refine⟨.inr ⟨_,fG⟩, ?_⟩
 refine qv 9 rfl rfl (qk (.agg (aL.cells u).toArray) 10 rfl (qk (.bool dw) 11 rfl ?_))
 refine qd 12 rfl (Jb (cs:= [.string ⟨v6 []⟩, .string ⟨v6 []⟩]) (t:=38) fG rfl rfl (λ _=>by kernel_rfl) ?_)
 intro fI lW jm
 have fJ:=jm.pb [0]
 refine⟨.inr ⟨_,fJ⟩, ?_⟩
 have jo:=fJ.pf [2]
 refine qe 13 rfl (Do.store (vs:=(aL.cells u)) (o:=0) jo rfl rfl M9 rfl rfl rfl rfl ?_)
 intro lX jq
 have av:=jq.pb [0]
 refine⟨.inr ⟨_,av⟩, ?_⟩
 refine qa 14 rfl rfl (qn (Iq (sr (Mn rfl ?_))))
 rcases Ls (dw) with aS | aS
 refine jT aS (Il (Mz rfl (Kz (vP g 0) (Lz (vI a.av) av 0 C2 (Kz (vP fI 0) (Lz (.string ⟨v6 u.aJ⟩) av 2 C0 (Kz (vP fI 1) (Lz (.string ⟨v6 u.aR⟩) av 2 C0 (Kz (vP g 5) (Lz (vI a.aV) av 0 C2 (Kz (.agg #[vI a.av, .string ⟨v6 []⟩, .string ⟨v6 []⟩, .string ⟨v6 u.aJ⟩, .string ⟨v6 u.aR⟩,vI a.aV]) ?_)))))))))))
 refine jV [vI a.av, .string ⟨v6 []⟩, .string ⟨v6 []⟩, .string ⟨v6 u.aJ⟩, .string ⟨v6 u.aR⟩,vI a.aV] 72 6 1 av ?_
 intro jr lY dx
 replace dx:=IX (y:=row jr 1 1 (q4 aN.cells ([(aN.mk a.av [] [] u.aJ u.aR a.aV)])) 72 6) rfl dx
 have fK:=dx.pf [2]
 refine WL.do rfl (IW (k:=f.length) (m:=1) (mG) fK rfl rfl (gN F2 (fK.rds (i:=1) rfl) (dX aN.one ([(aN.mk a.av [] [] u.aJ u.aR a.aV)]))) rfl e6 (s:=s0 (f++ [(aN.mk a.av [] [] u.aJ u.aR a.aV)])) f7 (r5).symm ?_)
 intro jv jw lZ jy
 have kw:s0 (f++ [(aN.mk a.av [] [] u.aJ u.aR a.aV)])=f.length+1:=by simp only [o2,s1,E7]
 refine Az rfl (C4 (bN (Iq (Il (fw (vJ (c+1)) (Ir (e:=C3.wrap ((c:Int)+1)) yk f0) (Mz rfl (C4 ?_)))))))
 have jA:=jy.pk [2,0]
 exact II (jv,jw,(f++ [(aN.mk a.av [] [] u.aJ u.aR a.aV)]),c+1) ⟨rfl,rfl,rfl,rfl,rfl,rfl,rfl,trivial⟩ (E.2 ⟨jA,e6,e6,et (G) (et (congrArg (λ q=>dW l0 p a q f c) O) (et (ip Y) (et (ae af) (et (ae aR) (ip aS)))))⟩) (by show l0.length - (c+1) < l0.length - c; omega)
 refine jF aS (IU (bN (Iq (Il (fw (vJ (c+1)) (Ir (e:=C3.wrap ((c:Int)+1)) yk f0) (Mz rfl (C4 ?_)))))))
 have jB:=av.pk [0,1]
 exact II (Z,aa,f,c+1) ⟨rfl,rfl,rfl,rfl,rfl,rfl,rfl,trivial⟩ (E.2 ⟨jB,e6,e6,et (G) (et (congrArg (λ q=>dW l0 p a q f c) O) (et (ip Y) (et (ae af) (et (ae aR) (fP aS)))))⟩) (by show l0.length - (c+1) < l0.length - c; omega)
 refine GY.do 12 rfl e7 (Jb (cs:= [.string ⟨v6 []⟩, .string ⟨v6 []⟩]) (t:=38) dm rfl rfl (λ _=>by kernel_rfl) ?_)
 intro fM l5 jC
 have fO:=jC.pb [0]
 refine⟨.inr ⟨_,fO⟩, ?_⟩
 obtain⟨⟨x,dz⟩,aU⟩:∃ q:aL × Bool,kJ (aL.mk a.aJ a.aR) aQ=q:=⟨_,rfl⟩
 obtain⟨l6,fQ,ky,fT,kz⟩:=Iu fO
 refine qd 8 rfl (IP O2 rfl (nS _ _ (aL.mk a.aJ a.aR) aQ x dz fQ aU) ?_)
 rintro _ kC ⟨rfl,dB⟩
 have bI:=fT _ _ dB
 refine⟨.inr ⟨_,bI⟩, ?_⟩
 refine qv 9 rfl rfl (qk (.agg (aL.cells x).toArray) 10 rfl (qk (.bool dz) 11 rfl ?_))
 have fU:=bI.pf [2]
 refine qe 13 rfl (Do.store (vs:=(aL.cells x)) (o:=0) fU rfl rfl M9 rfl rfl rfl rfl ?_)
 intro kD fV
 have P:=fV.pb [0]
 refine⟨.inr ⟨_,P⟩, ?_⟩
 refine qa 14 rfl rfl (qn (Iq (sr (Mn rfl ?_))))
 rcases Ls (dz) with ag | ag
 refine jT ag (Il (Mz rfl (Kz (vP g 0) (Lz (vI a.av) P 0 C2 (Kz (vP fM 0) (Lz (.string ⟨v6 x.aJ⟩) P 2 C0 (Kz (vP fM 1) (Lz (.string ⟨v6 x.aR⟩) P 2 C0 (Kz (vP g 5) (Lz (vI a.aV) P 0 C2 (Kz (.agg #[vI a.av, .string ⟨v6 []⟩, .string ⟨v6 []⟩, .string ⟨v6 x.aJ⟩, .string ⟨v6 x.aR⟩,vI a.aV]) ?_)))))))))))
 refine jV [vI a.av, .string ⟨v6 []⟩, .string ⟨v6 []⟩, .string ⟨v6 x.aJ⟩, .string ⟨v6 x.aR⟩,vI a.aV] 72 6 1 P ?_
 intro fZ kE aV
 replace aV:=IX (y:=row fZ 1 1 (q4 aN.cells ([(aN.mk a.av [] [] x.aJ x.aR a.aV)])) 72 6) rfl aV
 have bK:=aV.pf [2]
 refine WL.do rfl (IW (k:=f.length) (m:=1) (mG) bK rfl rfl (gN F2 (bK.rds (i:=1) rfl) (dX aN.one ([(aN.mk a.av [] [] x.aJ x.aR a.aV)]))) rfl e6 (s:=s0 (f++ [(aN.mk a.av [] [] x.aJ x.aR a.aV)])) f7 (r5).symm ?_)
 intro gm gp kF gq
 have jD:s0 (f++ [(aN.mk a.av [] [] x.aJ x.aR a.aV)])=f.length+1:=by simp only [o2,s1,E7]
 refine Az rfl (C4 (bN (Iq (Il (fw (vJ (c+1)) (Ir (e:=C3.wrap ((c:Int)+1)) yk f0) (Mz rfl (C4 ?_)))))))
 have gu:=gq.pk [2,0]
 exact II (gm,gp,(f++ [(aN.mk a.av [] [] x.aJ x.aR a.aV)]),c+1) ⟨rfl,rfl,rfl,rfl,rfl,rfl,rfl,trivial⟩ (E.2 ⟨gu,e6,e6,et (G) (et (congrArg (λ q=>dW l0 p a q f c) O) (et (ip Y) (et (ae af) (et (ae aU) (ip ag)))))⟩) (by show l0.length - (c+1) < l0.length - c; omega)
 refine jF ag (IU (bN (Iq (Il (fw (vJ (c+1)) (Ir (e:=C3.wrap ((c:Int)+1)) yk f0) (Mz rfl (C4 ?_)))))))
 have gy:=P.pk [0,1]
 exact II (Z,aa,f,c+1) ⟨rfl,rfl,rfl,rfl,rfl,rfl,rfl,trivial⟩ (E.2 ⟨gy,e6,e6,et (G) (et (congrArg (λ q=>dW l0 p a q f c) O) (et (ip Y) (et (ae af) (et (ae aU) (fP ag)))))⟩) (by show l0.length - (c+1) < l0.length - c; omega)
 refine GY.do 12 rfl e7 (Jb (cs:= [.string ⟨v6 []⟩, .string ⟨v6 []⟩]) (t:=38) fq rfl rfl (λ _=>by kernel_rfl) ?_)
 intro bL kG gz
 have bM:=gz.pb [0]
 refine⟨.inr ⟨_,bM⟩, ?_⟩
 obtain⟨aW,ax⟩:∃ q,kv l0 (c:Int)=q:=⟨_,rfl⟩
 obtain⟨kH,dC,dD,dE,jE⟩:=Iu bM
 refine qd 7 rfl (IP O1 rfl (oF _ _ M l0.length c0 l0 (c:Int) aW dC (dD _ C) rfl e6 e6 ax) ?_)
 rintro _ kI ⟨rfl,dG⟩
 have bO:=dE _ _ dG
 refine⟨.inr ⟨_,bO⟩, ?_⟩
 obtain⟨⟨h,aX⟩,ay⟩:∃ q:aL × Bool,kJ (aL.mk a.aJ a.aR) aW=q:=⟨_,rfl⟩
 obtain⟨kK,dH,jG,dI,jH⟩:=Iu bO
 refine qd 8 rfl (IP O2 rfl (nS _ _ (aL.mk a.aJ a.aR) aW h aX dH ay) ?_)
 rintro _ kL ⟨rfl,dJ⟩
 have bP:=dI _ _ dJ
 refine⟨.inr ⟨_,bP⟩, ?_⟩
 refine qv 9 rfl rfl (qk (.agg (aL.cells h).toArray) 10 rfl (qk (.bool aX) 11 rfl ?_))
 have gB:=bP.pf [2]
 refine qe 13 rfl (Do.store (vs:=(aL.cells h)) (o:=0) gB rfl rfl M9 rfl rfl rfl rfl ?_)
 intro kM gD
 have Q:=gD.pb [0]
 refine⟨.inr ⟨_,Q⟩, ?_⟩
 refine qa 14 rfl rfl (qn (Iq (sr (Mn rfl ?_))))
 rcases Ls (aX) with ah | ah
 refine jT ah (Il (Mz rfl (Kz (vP g 0) (Lz (vI a.av) Q 0 C2 (Kz (vP bL 0) (Lz (.string ⟨v6 h.aJ⟩) Q 2 C0 (Kz (vP bL 1) (Lz (.string ⟨v6 h.aR⟩) Q 2 C0 (Kz (vP g 5) (Lz (vI a.aV) Q 0 C2 (Kz (.agg #[vI a.av, .string ⟨v6 []⟩, .string ⟨v6 []⟩, .string ⟨v6 h.aJ⟩, .string ⟨v6 h.aR⟩,vI a.aV]) ?_)))))))))))
 refine jV [vI a.av, .string ⟨v6 []⟩, .string ⟨v6 []⟩, .string ⟨v6 h.aJ⟩, .string ⟨v6 h.aR⟩,vI a.aV] 72 6 1 Q ?_
 intro gF kN aZ
 replace aZ:=IX (y:=row gF 1 1 (q4 aN.cells ([(aN.mk a.av [] [] h.aJ h.aR a.aV)])) 72 6) rfl aZ
 have bQ:=aZ.pf [2]
 refine WL.do rfl (IW (k:=f.length) (m:=1) (mG) bQ rfl rfl (gN F2 (bQ.rds (i:=1) rfl) (dX aN.one ([(aN.mk a.av [] [] h.aJ h.aR a.aV)]))) rfl e6 (s:=s0 (f++ [(aN.mk a.av [] [] h.aJ h.aR a.aV)])) f7 (r5).symm ?_)
 intro gG gH kP gI
 have jI:s0 (f++ [(aN.mk a.av [] [] h.aJ h.aR a.aV)])=f.length+1:=by simp only [o2,s1,E7]
 refine Az rfl (C4 (bN (Iq (Il (fw (vJ (c+1)) (Ir (e:=C3.wrap ((c:Int)+1)) yk f0) (Mz rfl (C4 ?_)))))))
 have gJ:=gI.pk [2,0]
 exact II (gG,gH,(f++ [(aN.mk a.av [] [] h.aJ h.aR a.aV)]),c+1) ⟨rfl,rfl,rfl,rfl,rfl,rfl,rfl,trivial⟩ (E.2 ⟨gJ,e6,e6,et (G) (et (congrArg (λ q=>dW l0 p a q f c) O) (et (ip Y) (et (ae ax) (et (ae ay) (ip ah)))))⟩) (by show l0.length - (c+1) < l0.length - c; omega)
 refine jF ah (IU (bN (Iq (Il (fw (vJ (c+1)) (Ir (e:=C3.wrap ((c:Int)+1)) yk f0) (Mz rfl (C4 ?_)))))))
 have gK:=Q.pk [0,1]
 exact II (Z,aa,f,c+1) ⟨rfl,rfl,rfl,rfl,rfl,rfl,rfl,trivial⟩ (E.2 ⟨gK,e6,e6,et (G) (et (congrArg (λ q=>dW l0 p a q f c) O) (et (ip Y) (et (ae ax) (et (ae ay) (fP ah)))))⟩) (by show l0.length - (c+1) < l0.length - c; omega)
 refine jT (dT Y) (C5 (IC (IK (Iq (Il (fw (vJ (c+1)) (Ir (e:=C3.wrap ((c:Int)+1)) yk f0) (Mz rfl (C4 ?_))))))))
 have gL:=aO.pf []
 exact II (Z,aa,f,c+1) ⟨rfl,rfl,rfl,rfl,rfl,rfl,rfl,trivial⟩ (E.2 ⟨gL,e6,e6,et (G) (et (congrArg (λ q=>dW l0 p a q f c) O) (iN Y))⟩) (by show l0.length - (c+1) < l0.length - c; omega)
 refine jF (dF fo) (C5 (IC ?_))
 have dK:dW l0 p a l0 [] 0=f:=et (G) (et (congrArg (λ q=>dW l0 p a q f c) (dZ (ls:=l0) (i:=c) e6)) rfl)
 refine IC (IK (Iq (Ik ?_)))
 have gM:=aO.pk [1]
 refine Il (Mz rfl (An rfl (rt (rs ?_))))
 have gP:=gM.pf []
 obtain rfl:=zj hr zq2
 exact⟨Z,aa,rfl,gP,i5⟩
 refine Gz (vP g 0) (dT N) (Gl (vI a.av) (dT N) aK 0 C2 (gw (.bool (decide (¬ (a.av=5)))) (dT N) (IM (e:= !(decide (a.av=5))) yk decide_not.symm) (fw (.bool (decide (¬ (a.av=5)))) (Iw rfl (dT N) rfl) (nt ?_))))
 by_cases aF:a.av=5
 refine jF (dF (Lr aF)) (sk (Ik (sr (Mz rfl (Kz (vJ l0.length) (Mn rfl (bo ?_)))))))
 have gQ:Own w D eZ [row none 0 0 (q4 aN.cells []) 72 6,blk g (aN.cells a) 72]:=aK.free (eP 72 6)
 have gT:=gQ.pb [0]
 obtain⟨gU,z⟩:=tq λ I (J:Nat) d (b:Nat) w'=>Own w D w' [blk g (aN.cells a) 72,row I d.length J (q4 aN.cells d) 72 6]/\b<=l0.length/\d.length<=b/\fH l0 p a l0 [] 0=fH l0 p a (r4 b l0) d b
 refine C1 (λ i:(Option Addr) × Nat × (List aN) × Nat=> [(7, .slice i.1 i.2.2.1.length i.2.1),(36,vJ i.2.2.2),(35,vJ l0.length),(6, .slice none 0 0),(5,vP g 0),(0, .slice M l0.length c0),(1,vI p)]) gU (λ i=>l0.length - i.2.2.2) (none,0, [],0) ⟨rfl,rfl,rfl,rfl,rfl,rfl,rfl,trivial⟩ (z.2 ⟨gT,(show 0<=l0.length/\0<=0/\fH l0 p a l0 [] 0=fH l0 p a (r4 0 l0) [] 0 from ⟨e6,e6,rfl⟩)⟩) ?_
 rintro ⟨I,J,d,b⟩ kQ dL
 obtain⟨V,jJ,jK,A⟩:=z.1 dL
 refine sr (Kz (.bool (decide ((b:Int) < (l0.length:Int)))) (nt (Ik ?_)))
 by_cases bR:(b:Int) < (l0.length:Int)
 obtain⟨aG,bf⟩:=dh (ls:=l0) (i:=b) aM.len f2 (V.ro C) e9
 have B:=drop_at bf
 refine jT (dT bR) (sk (Ik (bo (sr (Mz rfl (An rfl (Ik (sr (Mz rfl (Mz rfl (fw (.pointer (some ⟨ab M,ao M+b *2,none⟩)) (Iz (nE) rfl rfl ((V.ro C).addr (i:=b) e6) e6) (Kz (.pointer (some ⟨ab M,ao M+b *2+1,none⟩)) (fw (vI aG.bE) (IB rfl (bJ.one C2 (((V.ro C).elem aM.len bf f2).at_ (k:=1) rfl))) (Mz rfl (fw (.bool (decide (¬ (aG.bE=p)))) (IM (e:= !(decide (aG.bE=p))) yk decide_not.symm) (nt ?_))))))))))))))))
 by_cases F:aG.bE=p
 refine jF (dF (Lr F)) (sk (Ik ?_))
 refine pM [] (IE (bv.block (IE (IE (bv.block (IE IQ)))))) V ?_
 intro kR bS
 refine qp g 3 0 rfl (ql 1 rfl 0 C0 rfl rfl rfl (qp g 4 2 rfl (ql 3 rfl 0 C0 rfl rfl rfl (qk (.agg #[.string ⟨v6 a.aJ⟩, .string ⟨v6 a.aR⟩]) 4 rfl (qv 5 rfl rfl (qv 6 rfl rfl ?_))))))
 refine Jy 7 12 e7 ?_ ?_
 obtain⟨ai,R⟩:∃ q,kv l0 (b:Int)=q:=⟨_,rfl⟩
 obtain⟨kS,dM,dN,dO,jL⟩:=Iu bS
 refine GY.do 7 rfl e7 (IP O1 rfl (oF _ _ M l0.length c0 l0 (b:Int) ai dM (dN _ C) rfl e6 e6 R) ?_)
 rintro _ kT ⟨rfl,dP⟩
 have bg:=dO _ _ dP
 refine⟨.inr ⟨_,bg⟩, ?_⟩
 refine Jy 8 12 e7 ?_ ?_
 obtain⟨⟨j,bi⟩,az⟩:∃ q:aL × Bool,kJ (aL.mk a.aJ a.aR) ai=q:=⟨_,rfl⟩
 obtain⟨kU,dQ,jM,dR,jN⟩:=Iu bg
 refine GY.do 8 rfl e7 (IP O2 rfl (nS _ _ (aL.mk a.aJ a.aR) ai j bi dQ az) ?_)
 rintro _ kV ⟨rfl,dS⟩
 have bT:=dR _ _ dS
 refine⟨.inr ⟨_,bT⟩, ?_⟩
 refine qv 9 rfl rfl (qk (.agg (aL.cells j).toArray) 10 rfl (qk (.bool bi) 11 rfl ?_))
 refine qd 12 rfl (Jb (cs:= [.string ⟨v6 []⟩, .string ⟨v6 []⟩]) (t:=38) bT rfl rfl (λ _=>by kernel_rfl) ?_)
 intro bU kW gV
 have bV:=gV.pb [0]
 refine⟨.inr ⟨_,bV⟩, ?_⟩
 have gW:=bV.pf [2]
 refine qe 13 rfl (Do.store (vs:=(aL.cells j)) (o:=0) gW rfl rfl M9 rfl rfl rfl rfl ?_)
 intro kX gX
 have S:=gX.pb [0]
 refine⟨.inr ⟨_,S⟩, ?_⟩
 refine qa 14 rfl rfl (qn (Iq (sr (Mn rfl ?_))))
 rcases Ls (bi) with aj | aj
 refine jT aj (Il (Mz rfl (Kz (vP g 0) (Lz (vI a.av) S 0 C2 (Kz (vP bU 0) (Lz (.string ⟨v6 j.aJ⟩) S 2 C0 (Kz (vP bU 1) (Lz (.string ⟨v6 j.aR⟩) S 2 C0 (Kz (vP g 5) (Lz (vI a.aV) S 0 C2 (Kz (.agg #[vI a.av, .string ⟨v6 []⟩, .string ⟨v6 []⟩, .string ⟨v6 j.aJ⟩, .string ⟨v6 j.aR⟩,vI a.aV]) ?_)))))))))))
 refine jV [vI a.av, .string ⟨v6 []⟩, .string ⟨v6 []⟩, .string ⟨v6 j.aJ⟩, .string ⟨v6 j.aR⟩,vI a.aV] 72 6 1 S ?_
 intro gY kY bn
 replace bn:=IX (y:=row gY 1 1 (q4 aN.cells ([(aN.mk a.av [] [] j.aJ j.aR a.aV)])) 72 6) rfl bn
 have bW:=bn.pf [2]
 refine WL.do rfl (IW (k:=d.length) (m:=1) (mG) bW rfl rfl (gN F2 (bW.rds (i:=1) rfl) (dX aN.one ([(aN.mk a.av [] [] j.aJ j.aR a.aV)]))) rfl e6 (s:=s0 (d++ [(aN.mk a.av [] [] j.aJ j.aR a.aV)])) f7 (r5).symm ?_)
 intro gZ ib kZ ic
 have jO:s0 (d++ [(aN.mk a.av [] [] j.aJ j.aR a.aV)])=d.length+1:=by simp only [o2,s1,E7]
 refine Az rfl (C4 (bN (Iq (Il (fw (vJ (b+1)) (Ir (e:=C3.wrap ((b:Int)+1)) yk f0) (Mz rfl (C4 ?_)))))))
 have ig:=ic.pk [2,0]
 exact II (gZ,ib,(d++ [(aN.mk a.av [] [] j.aJ j.aR a.aV)]),b+1) ⟨rfl,rfl,rfl,rfl,rfl,rfl,rfl,trivial⟩ (z.2 ⟨ig,e6,e6,et (A) (et (congrArg (λ q=>fH l0 p a q d b) B) (et (ip F) (et (ae R) (et (ae az) (ip aj)))))⟩) (by show l0.length - (b+1) < l0.length - b; omega)
 refine jF aj (IU (bN (Iq (Il (fw (vJ (b+1)) (Ir (e:=C3.wrap ((b:Int)+1)) yk f0) (Mz rfl (C4 ?_)))))))
 have ik:=S.pk [0,1]
 exact II (I,J,d,b+1) ⟨rfl,rfl,rfl,rfl,rfl,rfl,rfl,trivial⟩ (z.2 ⟨ik,e6,e6,et (A) (et (congrArg (λ q=>fH l0 p a q d b) B) (et (ip F) (et (ae R) (et (ae az) (fP aj)))))⟩) (by show l0.length - (b+1) < l0.length - b; omega)
 refine GY.do 12 rfl e7 (Jb (cs:= [.string ⟨v6 []⟩, .string ⟨v6 []⟩]) (t:=38) bg rfl rfl (λ _=>by kernel_rfl) ?_)
 intro bX lc il
 have bY:=il.pb [0]
 refine⟨.inr ⟨_,bY⟩, ?_⟩
 obtain⟨⟨l,bq⟩,aA⟩:∃ q:aL × Bool,kJ (aL.mk a.aJ a.aR) ai=q:=⟨_,rfl⟩
 obtain⟨lg,dU,jP,dV,jQ⟩:=Iu bY
 refine qd 8 rfl (IP O2 rfl (nS _ _ (aL.mk a.aJ a.aR) ai l bq dU aA) ?_)
 rintro _ lh ⟨rfl,dY⟩
 have bZ:=dV _ _ dY
 refine⟨.inr ⟨_,bZ⟩, ?_⟩
 refine qv 9 rfl rfl (qk (.agg (aL.cells l).toArray) 10 rfl (qk (.bool bq) 11 rfl ?_))
 have iq:=bZ.pf [2]
 refine qe 13 rfl (Do.store (vs:=(aL.cells l)) (o:=0) iq rfl rfl M9 rfl rfl rfl rfl ?_)
 intro ll iw
 have T:=iw.pb [0]
 refine⟨.inr ⟨_,T⟩, ?_⟩
 refine qa 14 rfl rfl (qn (Iq (sr (Mn rfl ?_))))
 rcases Ls (bq) with ak | ak
 refine jT ak (Il (Mz rfl (Kz (vP g 0) (Lz (vI a.av) T 0 C2 (Kz (vP bX 0) (Lz (.string ⟨v6 l.aJ⟩) T 2 C0 (Kz (vP bX 1) (Lz (.string ⟨v6 l.aR⟩) T 2 C0 (Kz (vP g 5) (Lz (vI a.aV) T 0 C2 (Kz (.agg #[vI a.av, .string ⟨v6 []⟩, .string ⟨v6 []⟩, .string ⟨v6 l.aJ⟩, .string ⟨v6 l.aR⟩,vI a.aV]) ?_)))))))))))
 refine jV [vI a.av, .string ⟨v6 []⟩, .string ⟨v6 []⟩, .string ⟨v6 l.aJ⟩, .string ⟨v6 l.aR⟩,vI a.aV] 72 6 1 T ?_
 intro iy lm bu
 replace bu:=IX (y:=row iy 1 1 (q4 aN.cells ([(aN.mk a.av [] [] l.aJ l.aR a.aV)])) 72 6) rfl bu
 have cu:=bu.pf [2]
 refine WL.do rfl (IW (k:=d.length) (m:=1) (mG) cu rfl rfl (gN F2 (cu.rds (i:=1) rfl) (dX aN.one ([(aN.mk a.av [] [] l.aJ l.aR a.aV)]))) rfl e6 (s:=s0 (d++ [(aN.mk a.av [] [] l.aJ l.aR a.aV)])) f7 (r5).symm ?_)
 intro iA iB lq iC
 have jR:s0 (d++ [(aN.mk a.av [] [] l.aJ l.aR a.aV)])=d.length+1:=by simp only [o2,s1,E7]
 refine Az rfl (C4 (bN (Iq (Il (fw (vJ (b+1)) (Ir (e:=C3.wrap ((b:Int)+1)) yk f0) (Mz rfl (C4 ?_)))))))
 have iD:=iC.pk [2,0]
 exact II (iA,iB,(d++ [(aN.mk a.av [] [] l.aJ l.aR a.aV)]),b+1) ⟨rfl,rfl,rfl,rfl,rfl,rfl,rfl,trivial⟩ (z.2 ⟨iD,e6,e6,et (A) (et (congrArg (λ q=>fH l0 p a q d b) B) (et (ip F) (et (ae R) (et (ae aA) (ip ak)))))⟩) (by show l0.length - (b+1) < l0.length - b; omega)
 refine jF ak (IU (bN (Iq (Il (fw (vJ (b+1)) (Ir (e:=C3.wrap ((b:Int)+1)) yk f0) (Mz rfl (C4 ?_)))))))
 have iE:=T.pk [0,1]
 exact II (I,J,d,b+1) ⟨rfl,rfl,rfl,rfl,rfl,rfl,rfl,trivial⟩ (z.2 ⟨iE,e6,e6,et (A) (et (congrArg (λ q=>fH l0 p a q d b) B) (et (ip F) (et (ae R) (et (ae aA) (fP ak)))))⟩) (by show l0.length - (b+1) < l0.length - b; omega)
 refine GY.do 12 rfl e7 (Jb (cs:= [.string ⟨v6 []⟩, .string ⟨v6 []⟩]) (t:=38) bS rfl rfl (λ _=>by kernel_rfl) ?_)
 intro cz lu iF
 have cB:=iF.pb [0]
 refine⟨.inr ⟨_,cB⟩, ?_⟩
 obtain⟨bz,aB⟩:∃ q,kv l0 (b:Int)=q:=⟨_,rfl⟩
 obtain⟨lv,d9,ed,ek,jS⟩:=Iu cB
 refine qd 7 rfl (IP O1 rfl (oF _ _ M l0.length c0 l0 (b:Int) bz d9 (ed _ C) rfl e6 e6 aB) ?_)
 rintro _ lw ⟨rfl,eu⟩
 have cK:=ek _ _ eu
 refine⟨.inr ⟨_,cK⟩, ?_⟩
 obtain⟨⟨n,bA⟩,aC⟩:∃ q:aL × Bool,kJ (aL.mk a.aJ a.aR) bz=q:=⟨_,rfl⟩
 obtain⟨lC,eB,jU,eD,jW⟩:=Iu cK
 refine qd 8 rfl (IP O2 rfl (nS _ _ (aL.mk a.aJ a.aR) bz n bA eB aC) ?_)
 rintro _ lD ⟨rfl,eF⟩
 have cO:=eD _ _ eF
 refine⟨.inr ⟨_,cO⟩, ?_⟩
 refine qv 9 rfl rfl (qk (.agg (aL.cells n).toArray) 10 rfl (qk (.bool bA) 11 rfl ?_))
 have iG:=cO.pf [2]
 refine qe 13 rfl (Do.store (vs:=(aL.cells n)) (o:=0) iG rfl rfl M9 rfl rfl rfl rfl ?_)
 intro lF iH
 have U:=iH.pb [0]
 refine⟨.inr ⟨_,U⟩, ?_⟩
 refine qa 14 rfl rfl (qn (Iq (sr (Mn rfl ?_))))
 rcases Ls (bA) with au | au
 refine jT au (Il (Mz rfl (Kz (vP g 0) (Lz (vI a.av) U 0 C2 (Kz (vP cz 0) (Lz (.string ⟨v6 n.aJ⟩) U 2 C0 (Kz (vP cz 1) (Lz (.string ⟨v6 n.aR⟩) U 2 C0 (Kz (vP g 5) (Lz (vI a.aV) U 0 C2 (Kz (.agg #[vI a.av, .string ⟨v6 []⟩, .string ⟨v6 []⟩, .string ⟨v6 n.aJ⟩, .string ⟨v6 n.aR⟩,vI a.aV]) ?_)))))))))))
 refine jV [vI a.av, .string ⟨v6 []⟩, .string ⟨v6 []⟩, .string ⟨v6 n.aJ⟩, .string ⟨v6 n.aR⟩,vI a.aV] 72 6 1 U ?_
 intro iI lG bB
 replace bB:=IX (y:=row iI 1 1 (q4 aN.cells ([(aN.mk a.av [] [] n.aJ n.aR a.aV)])) 72 6) rfl bB
 have cZ:=bB.pf [2]
 refine WL.do rfl (IW (k:=d.length) (m:=1) (mG) cZ rfl rfl (gN F2 (cZ.rds (i:=1) rfl) (dX aN.one ([(aN.mk a.av [] [] n.aJ n.aR a.aV)]))) rfl e6 (s:=s0 (d++ [(aN.mk a.av [] [] n.aJ n.aR a.aV)])) f7 (r5).symm ?_)
 intro iJ iK lH iL
 have jX:s0 (d++ [(aN.mk a.av [] [] n.aJ n.aR a.aV)])=d.length+1:=by simp only [o2,s1,E7]
 refine Az rfl (C4 (bN (Iq (Il (fw (vJ (b+1)) (Ir (e:=C3.wrap ((b:Int)+1)) yk f0) (Mz rfl (C4 ?_)))))))
 have iM:=iL.pk [2,0]
 exact II (iJ,iK,(d++ [(aN.mk a.av [] [] n.aJ n.aR a.aV)]),b+1) ⟨rfl,rfl,rfl,rfl,rfl,rfl,rfl,trivial⟩ (z.2 ⟨iM,e6,e6,et (A) (et (congrArg (λ q=>fH l0 p a q d b) B) (et (ip F) (et (ae aB) (et (ae aC) (ip au)))))⟩) (by show l0.length - (b+1) < l0.length - b; omega)
 refine jF au (IU (bN (Iq (Il (fw (vJ (b+1)) (Ir (e:=C3.wrap ((b:Int)+1)) yk f0) (Mz rfl (C4 ?_)))))))
 have iO:=U.pk [0,1]
 exact II (I,J,d,b+1) ⟨rfl,rfl,rfl,rfl,rfl,rfl,rfl,trivial⟩ (z.2 ⟨iO,e6,e6,et (A) (et (congrArg (λ q=>fH l0 p a q d b) B) (et (ip F) (et (ae aB) (et (ae aC) (fP au)))))⟩) (by show l0.length - (b+1) < l0.length - b; omega)
 refine jT (dT F) (C5 (IC (IK (Iq (Il (fw (vJ (b+1)) (Ir (e:=C3.wrap ((b:Int)+1)) yk f0) (Mz rfl (C4 ?_))))))))
 have iP:=V.pf []
 exact II (I,J,d,b+1) ⟨rfl,rfl,rfl,rfl,rfl,rfl,rfl,trivial⟩ (z.2 ⟨iP,e6,e6,et (A) (et (congrArg (λ q=>fH l0 p a q d b) B) (iN F))⟩) (by show l0.length - (b+1) < l0.length - b; omega)
 refine jF (dF bR) (C5 (IC ?_))
 have eG:fH l0 p a l0 [] 0=d:=et (A) (et (congrArg (λ q=>fH l0 p a q d b) (dZ (ls:=l0) (i:=b) e6)) rfl)
 refine IC (IK (Iq (Ik ?_)))
 have iQ:=V.pk [1]
 refine Il (Mz rfl (An rfl (rt (rs ?_))))
 have iR:=iQ.pf []
 obtain rfl:=zj hr zq3
 exact⟨I,J,rfl,iR,i5⟩
 refine jT (dT aF) (Ik (sr (Mz rfl (Mz rfl (Kz (vP g 1) (Lz (.string ⟨v6 a.aZ⟩) aK 0 C0 ?_))))))
 obtain⟨K,bC⟩:∃ q,qc l0 a.aZ=q:=⟨_,rfl⟩
 obtain⟨lI,eH,eO,eQ,jY⟩:=Iu aK
 refine cl Tryz.call162 (yK _ _ M l0.length c0 l0 a.aZ K eH (eO _ C) rfl e6 i5 bC) ?_
 rintro _ iT ⟨rfl,eT,bD⟩
 have W:=eQ _ _ eT
 replace bD:0<=K/\K < (l0.length:Int):=bD
 obtain⟨X,bE⟩:=dh (ls:=l0) (i:=C6 K) aM.len f2 (W.ro C) e9
 refine fw (.pointer (some ⟨ab M,ao M+(C6 K) *2,none⟩)) (Iz (nE) rfl (FH (r:=K) rfl e6) ((W.ro C).addr (i:=C6 K) e6) e6) (Kz (.pointer (some ⟨ab M,ao M+(C6 K) *2+1,none⟩)) (fw (vI X.bE) (IB rfl (bJ.one C2 (((W.ro C).elem aM.len bE f2).at_ (k:=1) rfl))) (Mz rfl (Kz (.bool (decide (X.bE=p))) (nt ?_)))))
 obtain⟨iU,aD⟩:=rJ λ aH (aI:Nat) L w'=>Own w D w' [blk g (aN.cells a) 72,row aH L.length aI (q4 aN.cells L) 72 6]/\0<=L.length/\L.length<=1/\(if X.bE=p then [a] else [])=L
 refine Jg (λ i:(Option Addr) × Nat × (List aN)=> [(7, .slice i.1 i.2.2.length i.2.1),(6, .slice none 0 0),(5,vP g 0),(0, .slice M l0.length c0),(1,vI p)]) iU ?_ ?_
 by_cases aJ:X.bE=p
 refine jT (dT aJ) (Il (Mz rfl (La (aN.cells a) W 0 Tryz.isAgg72 Tryz.sizeOf72 ?_)))
 refine jV (aN.cells a) 72 6 1 W ?_
 intro df iV bF
 replace bF:=IX (y:=row df 1 1 (q4 aN.cells ([a])) 72 6) rfl bF
 have di:Own w D iV [row none 0 0 (q4 aN.cells []) 72 6,row df 1 1 (q4 aN.cells ([a])) 72 6,blk g (aN.cells a) 72]:=bF.free (eP 72 6)
 refine WL.do rfl (IW (k:=0) (m:=1) (mG) di rfl rfl (gN F2 (di.rds (i:=1) rfl) (dX aN.one ([a]))) rfl e6 (s:=1) e6 rfl ?_)
 intro iW iX lJ iY
 refine Az rfl (C4 ?_)
 have iZ:=iY.pk [2,0]
 exact I8 (iW,iX, [a]) ⟨rfl,rfl,rfl,rfl,rfl,trivial⟩ (aD.2 ⟨iZ,(show 0<=s0 ([a])/\s0 ([a])<=1/\(if X.bE=p then [a] else [])=([a]) from ⟨e6,by first | omega | exact Nat.le_refl _ | exact Lp _,ip aJ⟩)⟩)
 refine jF (dF aJ) (IU ?_)
 have ja:Own w D iT [row none 0 0 (q4 aN.cells []) 72 6,blk g (aN.cells a) 72]:=W.free (eP 72 6)
 have jb:=ja.pb [0]
 exact I8 (none,0, []) ⟨rfl,rfl,rfl,rfl,rfl,trivial⟩ (aD.2 ⟨jb,(show 0<=s0 []/\0<=1/\(if X.bE=p then [a] else [])=[] from ⟨e6,by first | omega | exact Nat.le_refl _ | exact Lp _,iN aJ⟩)⟩)
 rintro ⟨aH,aI,L⟩ lK eU
 obtain⟨jc,jZ,j3,eX⟩:=aD.1 eU
 refine sr (Mz rfl (An rfl (rt (tR (rs ?_)))))
 have jd:=jc.pk [1]
 obtain rfl:=zj hr zq5
 exact⟨aH,aI,rfl,jd,i5⟩
def qM (a:Nat):Nat × Nat:=
 (((0 *(a / 4294967296))+(((0 *(a % 4294967296))+((1 *(a % 4294967296)) / 4294967296)) / 4294967296))+(((((0 *(a % 4294967296))+((1 *(a % 4294967296)) / 4294967296)) % 4294967296)+(1 *(a / 4294967296))) / 4294967296),1 *a)
theorem vY (w D g a b c) (H:Own w D w []) (d:g=1) (h:a<=9223372036854775807) (hr:qM a=(b,c)):
    Calls v5 190 #[.int .u64 g,vU a] w (dA λ v w'=>v= .tuple #[vU b,vU c]/\Own w D w' []/\(b=0/\c=a)):=by
 subst d
 refine cb Tryz.func190 ?_
 refine sr (Az rfl (Ar rfl (Mz rfl (Kz (.int .u64 1) (Ar rfl (Mz rfl (Kz (.int .u64 0) (Ar rfl (Mz rfl (fw (vU (a % 4294967296)) (Ir (e:=C7.wrap (((BitVec.ofInt 64 (a:Int) &&& BitVec.ofInt 64 4294967295).toNat:Nat):Int)) yk (zV _ 32 f2 _ f2)) (Ar rfl (Mz rfl (fw (vU (a / 4294967296)) (Ir (e:=K1 (a:Int) 4294967296) yk (ny _ 32 _ f2)) (Ar rfl (Mz rfl (Mz rfl (fw (vU (1 *(a % 4294967296))) (Ir (e:=C7.wrap (1 *((a % 4294967296:Nat):Int))) yk g7) (Az rfl ?_))))))))))))))))))
 refine ns (Mz rfl (Mz rfl (fw (vU (0 *(a % 4294967296))) (Ir (e:=C7.wrap (0 *((a % 4294967296:Nat):Int))) yk g7) (Mz rfl (fw (.int .u64 (((1 *(a % 4294967296)) / 4294967296:Nat):Int)) (Ir (e:=K1 ((1 *(a % 4294967296):Nat):Int) 4294967296) yk (ny _ 32 _ f2)) (fw (.int .u64 (((0 *(a % 4294967296))+((1 *(a % 4294967296)) / 4294967296):Nat):Int)) (Ir (e:=C7.wrap (((0 *(a % 4294967296):Nat):Int)+(((1 *(a % 4294967296)) / 4294967296:Nat):Int))) yk g7) (Ar rfl (Mz rfl (fw (.int .u64 ((((0 *(a % 4294967296))+((1 *(a % 4294967296)) / 4294967296)) % 4294967296:Nat):Int)) (Ir (e:=C7.wrap (((BitVec.ofInt 64 (((0 *(a % 4294967296))+((1 *(a % 4294967296)) / 4294967296):Nat):Int) &&& BitVec.ofInt 64 4294967295).toNat:Nat):Int)) yk (zV _ 32 f2 _ f2)) (Ar rfl (Mz rfl (fw (.int .u64 ((((0 *(a % 4294967296))+((1 *(a % 4294967296)) / 4294967296)) / 4294967296:Nat):Int)) (Ir (e:=K1 (((0 *(a % 4294967296))+((1 *(a % 4294967296)) / 4294967296):Nat):Int) 4294967296) yk (ny _ 32 _ f2)) (Ar rfl (Mz rfl (Mz rfl (Mz rfl (fw (vU (1 *(a / 4294967296))) (Ir (e:=C7.wrap (1 *((a / 4294967296:Nat):Int))) yk g7) (fw (.int .u64 (((((0 *(a % 4294967296))+((1 *(a % 4294967296)) / 4294967296)) % 4294967296)+(1 *(a / 4294967296)):Nat):Int)) (Ir (e:=C7.wrap (((((0 *(a % 4294967296))+((1 *(a % 4294967296)) / 4294967296)) % 4294967296:Nat):Int)+((1 *(a / 4294967296):Nat):Int))) yk g7) (Ar rfl (Mz rfl ?_))))))))))))))))))))
 refine Mz rfl (fw (vU (0 *(a / 4294967296))) (Ir (e:=C7.wrap (0 *((a / 4294967296:Nat):Int))) yk g7) (Mz rfl (fw (.int .u64 (((0 *(a / 4294967296))+(((0 *(a % 4294967296))+((1 *(a % 4294967296)) / 4294967296)) / 4294967296):Nat):Int)) (Ir (e:=C7.wrap (((0 *(a / 4294967296):Nat):Int)+((((0 *(a % 4294967296))+((1 *(a % 4294967296)) / 4294967296)) / 4294967296:Nat):Int))) yk g7) (Mz rfl (fw (.int .u64 ((((((0 *(a % 4294967296))+((1 *(a % 4294967296)) / 4294967296)) % 4294967296)+(1 *(a / 4294967296))) / 4294967296:Nat):Int)) (Ir (e:=K1 (((((0 *(a % 4294967296))+((1 *(a % 4294967296)) / 4294967296)) % 4294967296)+(1 *(a / 4294967296)):Nat):Int) 4294967296) yk (ny _ 32 _ f2)) (fw (.int .u64 ((((0 *(a / 4294967296))+(((0 *(a % 4294967296))+((1 *(a % 4294967296)) / 4294967296)) / 4294967296))+(((((0 *(a % 4294967296))+((1 *(a % 4294967296)) / 4294967296)) % 4294967296)+(1 *(a / 4294967296))) / 4294967296):Nat):Int)) (Ir (e:=C7.wrap ((((0 *(a / 4294967296))+(((0 *(a % 4294967296))+((1 *(a % 4294967296)) / 4294967296)) / 4294967296):Nat):Int)+((((((0 *(a % 4294967296))+((1 *(a % 4294967296)) / 4294967296)) % 4294967296)+(1 *(a / 4294967296))) / 4294967296:Nat):Int))) yk g7) (Ar rfl (Mz rfl (Mz rfl (fw (vU (1 *a)) (Ir (e:=C7.wrap (1 *(a:Int))) yk g7) (An rfl (rt (Fin.res (lH rfl rfl rfl) ?_)))))))))))))
 have f:=H.pk []
 obtain⟨rfl,rfl⟩:=fD (zj hr (show _=(((0 *(a / 4294967296))+(((0 *(a % 4294967296))+((1 *(a % 4294967296)) / 4294967296)) / 4294967296))+(((((0 *(a % 4294967296))+((1 *(a % 4294967296)) / 4294967296)) % 4294967296)+(1 *(a / 4294967296))) / 4294967296),1 *a) from rfl))
 exact⟨rfl,f,e6⟩
def su (b:Nat):Nat × Nat:=
 bnd (qM b) λ a=>(a.1,a.2)
theorem xz (w D n e i j) (H:Own w D w []) (k:n=1) (r:e<=9223372036854775807) (hr:su e=(i,j)):
    Calls v5 164 #[.int .u64 n,vU e] w (dA λ v w'=>v= .tuple #[vU i,vU j]/\Own w D w' []/\(i=0/\j=e)):=by
 unfold su at hr
 subst k
 refine cb Tryz.func164 ?_
 refine sr (Az rfl (An rfl (Ik (jf (sk (sr (Mz rfl (Mz rfl ?_))))))))
 obtain⟨⟨a,b⟩,c⟩:∃ q:Nat × Nat,qM e=q:=⟨_,rfl⟩
 obtain⟨s,f,o,g,p⟩:=Iu H
 refine cl Tryz.call190 (vY _ _ 1 e a b f rfl e6 c) ?_
 rintro _ t ⟨rfl,h,d⟩
 have l:=g _ _ h
 replace d:a=0/\b=e:=d
 refine Mz rfl (Kz (vU a) (Kz (vU b) (Az rfl (Ar rfl (Mz rfl (Mz rfl (Az rfl (An rfl (rt (Fin.res (lH rfl rfl rfl) ?_))))))))))
 have m:=l.pk []
 obtain⟨rfl,rfl⟩:=fD (zj hr zq1)
 exact⟨rfl,m,e6⟩
def kg (b:Nat):Nat->Nat->List Int->(List Int)
  | 0,a,c=>default
  | d+1,a,c=>if(a:Int) < (b:Int) then kg b d (a+(min a (b - a))) (r3 a c++(r3 (min a (b - a)) (r3 a c)++r4 (a+(min a (b - a))) c)) else c
def nT (l0:List Int) (b:Int):(List Int):=
 bnd (su (C6 b)) λ a=>bnd (kg a.2 ((C6 b - (min l0.length a.2))+1) (min l0.length a.2) (r3 0 (r7 a.2 (0:Int))++(r3 (min l0.length a.2) l0++r4 (0+(min l0.length a.2)) (r7 a.2 (0:Int))))) λ sLrbL=>sLrbL
theorem tO (w D W K c0 l0 d x) (H:Own w D w []) (L:Ro w D λ w'=>aY w' 1 W K (q4 (eI .i64) l0)) (M:K=l0.length) (ax:l0.length *8<=211106232532992) (ay:l0.length=1/\0<=d/\d *8<=140737488351232) (hr:nT l0 d=x):
    Calls v5 147 #[.slice W K c0,vI d] w (dA λ v w'=> ∃ X Y,v= .slice X x.length Y/\Own w D w' [row X x.length Y (q4 (eI .i64) x) 3 1]/\(((x.length:Nat):Int)=d)):=by
 unfold nT at hr
 subst M
 refine cb Tryz.func147 ?_
 refine sr (An rfl (Ik (sr (Mz rfl (Kz (.bool (decide (d < 0))) (nt ?_))))))
 have y:(decide (d < 0))=false:=(dF e6)
 refine jF y (sk (sr (Mz rfl (Kz (vJ l0.length) (fw (vU l0.length) (Ir (e:=C7.wrap (l0.length:Int)) yk (IntWalk.u64_in _ e6)) (fw (vJ (C6 d)) (Ir (e:=d) (IA rfl) e6) (fw (vU (C6 d)) (Ir (e:=C7.wrap ((C6 d:Nat):Int)) yk (IntWalk.u64_in _ e6)) ?_)))))))
 obtain⟨⟨g,a⟩,o⟩:∃ q:Nat × Nat,su (C6 d)=q:=⟨_,rfl⟩
 obtain⟨az,A,Z,B,aa⟩:=Iu H
 refine cl Tryz.call164 (xz _ _ (l0.length:Int) (C6 d) g a A e6 e6 o) ?_
 rintro _ aA ⟨rfl,C,p⟩
 have N:=B _ _ C
 replace p:g=0/\a=(C6 d):=p
 refine Mz rfl (Kz (vU g) (Kz (vU a) (Az rfl (An rfl (Ik (sr (Mz rfl (Kz (.bool (decide ((g:Int) > 0))) (Mz rfl ?_)))))))))
 have h:(decide ((g:Int) > 0))=false:=(dF e6)
 refine I7 (v:=vU a) rfl rfl h rfl (IA rfl) (Gz (.bool (decide ((a:Int) > 9223372036854775807))) h (fw (.bool (decide ((a:Int) > 9223372036854775807))) (Io rfl h rfl) (nt ?_)))
 have E:(decide ((a:Int) > 9223372036854775807))=false:=(dF e6)
 refine jF E (sk (sr (Mz rfl (fw (vJ a) (Ir (e:=C3.wrap (a:Int)) yk (Lm _ e6)) ?_))))
 refine WL.do rfl (Jt (x0:=(0:Int)) (z:=vI 0) (k:=a) (size:=1) (bytes:=8) iL f2 rfl y4 e7 N rfl rfl e6 (by unfold maxLen; omega) ?_)
 intro f aB s
 have af:s0 (r7 a (0:Int))=a:=H0
 refine Ar rfl (Mz rfl (Mz rfl ?_))
 refine WL.do rfl (Km (lo:=0) (k:=min l0.length a) (mq) s rfl (λ hp=>by rw [Nat.zero_mul,Nat.add_zero]; exact(s.rds (i:=0) rfl).isSome e6) e6 rfl (s.ro L) (dX qB l0) e6 (zM iL _ _ _ _ e9) ?_)
 intro aC O
 have ag:s0 (r3 0 (r7 a (0:Int))++(r3 (min l0.length a) l0++r4 (0+(min l0.length a)) (r7 a (0:Int))))=a:=by simp only [o2,o0,o1,H0]; omega
 refine An rfl (Ik (bo ?_))
 have P:=O.pf []
 obtain⟨Q,j⟩:=rJ λ (b:Nat) c (l:Nat) w'=>Own w D w' [row f a a (q4 (eI .i64) c) 3 1]/\c.length=a/\(b:Int)<=d/\(1<=b\/d=0)/\C6 d - b < l/\kg a ((C6 d - (min l0.length a))+1) (min l0.length a) (r3 0 (r7 a (0:Int))++(r3 (min l0.length a) l0++r4 (0+(min l0.length a)) (r7 a (0:Int))))=kg a l b c
 refine C1 (λ i:Nat × (List Int) × Nat=> [(8,vJ i.1),(7, .slice f a a),(4, .slice none 0 0)]) Q (λ i=>i.2.2) (min l0.length a,(r3 0 (r7 a (0:Int))++(r3 (min l0.length a) l0++r4 (0+(min l0.length a)) (r7 a (0:Int)))),(C6 d - (min l0.length a))+1) ⟨rfl,rfl,rfl,trivial⟩ (j.2 ⟨P,by first | omega | (simp only [G4] <;> omega) | (simp only [H0]),e6,e6,e6,rfl⟩) ?_
 rintro ⟨b,c,l⟩ R F
 obtain⟨G,ah,ai,aj,ak,r⟩:=j.1 F
 obtain⟨t,I⟩:∃ q,l=q+1:=⟨l - 1,e6⟩
 subst I
 refine Ik (sr (Mz rfl (Mz rfl (Kz (vJ a) (Kz (.bool (decide ((b:Int) < (a:Int)))) (nt ?_))))))
 by_cases n:(b:Int) < (a:Int)
 refine jT (dT n) (sk (bo ?_))
 refine vo [7] (bv.block (IE (bv.block (IE IQ)))) G ?_
 intro aD u
 refine I4 (v:=vJ b) 0 rfl e7 (λ _=>IA rfl) (qv 1 rfl rfl (qv 2 rfl rfl (qt (v:= .slice (jw f b 1 a) (a - b) (a - b)) 3 rfl (λ _ _=>I5 (mq) rfl rfl e6) (qv 4 rfl rfl (qv 5 rfl rfl (qt (v:= .slice f b a) 6 rfl (λ _ _=>Jk (mq) rfl rfl e6) ?_))))))
 refine qd 7 rfl (Km (lo:=b) (k:=min b (a - b)) (mq) u rfl (λ _=>kS ((u.rds (i:=0) rfl).addr (i:=b) e6) e6) e6 rfl (Kl (hi:=b) iL (u.rds (i:=0) rfl) e6) (dX qB (r3 b c)) e6 (zM iL _ _ _ _ e9) ?_)
 intro aF S
 have au:s0 (r3 b c++(r3 (min b (a - b)) (r3 b c)++r4 (b+(min b (a - b))) c))=a:=by simp only [o2,o0,o1,H0]; omega
 refine⟨.inl e7, ?_⟩
 refine I4 (v:=vI ((b+(min b (a - b)):Nat):Int)) 8 rfl e7 (λ _=>Ir (e:=C3.wrap ((b:Int)+((min b (a - b):Nat):Int))) yk f0) (I4 (v:=vI ((b+(min b (a - b)):Nat):Int)) 9 rfl e7 (λ _=>Jv rfl) (qn (bN ?_)))
 have T:=S.pf []
 exact II (b+(min b (a - b)),(r3 b c++(r3 (min b (a - b)) (r3 b c)++r4 (b+(min b (a - b))) c)),t) ⟨rfl,rfl,rfl,trivial⟩ (j.2 ⟨T,by first | omega | (simp only [G4] <;> omega) | (simp only [H0]),e6,e6,e6,Eq.trans (r) (if_pos n)⟩) (by show t < t+1; omega)
 refine jF (dF n) (C5 (IC ?_))
 have J:kg a ((C6 d - (min l0.length a))+1) (min l0.length a) (r3 0 (r7 a (0:Int))++(r3 (min l0.length a) l0++r4 (0+(min l0.length a)) (r7 a (0:Int))))=c:=et (r) (iN n)
 refine IC (IK (Iq (sr (Mz rfl (An rfl (rt (rs ?_)))))))
 have m:a=c.length:=by first | omega | (simp only [G4]; done) | (simp only [G4,o2,s1,E7,o0,o1,H0]; omega)
 have U:Own w D R [row f c.length a (q4 (eI .i64) c) 3 1]:=by rw [<- m]; exact G
 have V:=U.pf []
 obtain rfl:=zj hr zq2
 exact⟨f,a,(by first | rfl | (rw [<- m]; done) | (rw [<- m]; rfl)),V,e6⟩
def jC (l0:List aM) (g:List fu) (f:Nat):List aN->Nat->List aN->List Int->(List aN) × (List Int)
  | [],b,c,d=>(c,d)
  | h::i,b,c,d=>bnd (je l0 (f:Int) h) λ a=>bnd (nT ([(b:Int)]) (a.length:Int)) λ e=>jC l0 g f i (b+1) (c++a) (d++e)
def gp (l0:List aM) (l1:List aN):Nat->List fu->Nat->(List fu)
  | 0,a,b=>a
  | c+1,a,b=>bnd (jC l0 a b l1 0 [] []) λ sLrbtbtLsL=>if(sLrbtbtLsL.1.length:Int) > 0 then gp l0 l1 c (a++ [(fu.mk (b:Int) (E0 sLrbtbtLsL.1) (E0 sLrbtbtLsL.2))]) (b+1) else gp l0 l1 c a (b+1)
def ko (l0:List aM) (l1:List aN):(List fu) × Int:=
 bnd (jc l0) λ a=>if a=0 then bnd (kC l1) λ b=>if b=0 then bnd (gp l0 l1 5 [] 0) λ sLrbtbtL=>(sLrbtbtL,0) else(([]:List fu),b) else(([]:List fu),a)
theorem AA (w D A0 n0 c0 l0 L n1 c1 l1 r0 r1) (H:Own w D w []) (aS:Ro w D λ w'=>aY w' 2 A0 n0 (q4 aM.cells l0)) (dC:n0=l0.length) (fI:l0.length *24<=211106232532992) (Y:Ro w D λ w'=>aY w' 6 L n1 (q4 aN.cells l1)) (dD:n1=l1.length) (fJ:l1.length *80<=211106232532992) (hr:ko l0 l1=(r0,r1)):
    Calls v5 127 #[.slice A0 n0 c0, .slice L n1 c1] w (dA λ v w'=> ∃ B0 b0 e0,v= .tuple #[.slice B0 r0.length b0,vI r1]/\Own w D w' [row B0 r0.length b0 (q4 bO.cells e0) 172 3,sepL (q4 bO.own e0)]/\(List.map bO.abs e0=r0)):=by
 unfold ko at hr
 subst dC dD
 refine cb Tryz.func127 ?_
 refine sr (Az rfl (An rfl (Ik (sr (Mz rfl ?_)))))
 obtain⟨J,F⟩:∃ q,jc l0=q:=⟨_,rfl⟩
 obtain⟨fK,aT,aU,aV,eu⟩:=Iu H
 refine cl Tryz.call72 (qY _ _ A0 l0.length c0 l0 J aT (aU _ aS) rfl e6 F) ?_
 rintro _ aX ⟨rfl,aZ,ai⟩
 have bf:=aV _ _ aZ
 replace ai: ¬ (J=0)\/(1<=l0.length/\l0.length<=6):=ai
 refine Ar rfl (Mz rfl (fw (.bool (decide (¬ (J=0)))) (IM (e:= !(decide (J=0))) yk decide_not.symm) (nt ?_)))
 by_cases M:J=0
 refine jF (dF (Lr M)) (sk (Ik (sr (Mz rfl ?_))))
 obtain⟨K,N⟩:∃ q,kC l1=q:=⟨_,rfl⟩
 obtain⟨fM,bg,bi,bn,eB⟩:=Iu bf
 refine cl Tryz.call137 (wT _ _ L l1.length c1 l1 K bg (bi _ Y) rfl e6 N) ?_
 rintro _ Z ⟨rfl,bq,aj⟩
 have bu:=bn _ _ bq
 replace aj: ¬ (K=0)\/(1<=l1.length/\l1.length<=4):=aj
 refine Ar rfl (Mz rfl (fw (.bool (decide (¬ (K=0)))) (IM (e:= !(decide (K=0))) yk decide_not.symm) (nt ?_)))
 by_cases aa:K=0
 refine jF (dF (Lr aa)) (sk (sr (An rfl (Ik (sr (Mn rfl (bo ?_)))))))
 have dG:Own w D Z [sepL (q4 bO.own [])]:=bu.sepNil
 have dH:Own w D Z [row none 0 0 (q4 bO.cells []) 172 3,sepL (q4 bO.own [])]:=dG.free (eP 172 3)
 have dI:=dH.pf []
 obtain⟨dJ,G⟩:=ED λ z (A:Nat) x d (a:Nat) w'=>Own w D w' [row z d.length A (q4 bO.cells x) 172 3,sepL (q4 bO.own x)]/\List.map bO.abs x=d/\a<=5/\d.length<=a/\gp l0 l1 5 [] 0=gp l0 l1 (5 - a) d a
 refine C1 (λ i:(Option Addr) × Nat × (List bO) × (List fu) × Nat=> [(8, .slice i.1 i.2.2.2.1.length i.2.1),(23,vJ i.2.2.2.2),(5,vI 0),(4, .slice none 0 0),(0, .slice A0 l0.length c0),(1, .slice L l1.length c1)]) dJ (λ i=>5 - i.2.2.2.2) (none,0, [], [],0) ⟨rfl,rfl,rfl,rfl,rfl,rfl,trivial⟩ (G.2 ⟨dI,(show List.map bO.abs []=[]/\0<=5/\0<=0/\gp l0 l1 5 [] 0=gp l0 l1 (5 - 0) [] 0 from ⟨by exact rfl,e6,e6,rfl⟩)⟩) ?_
 rintro ⟨z,A,x,d,a⟩ fO bz
 obtain⟨bA,B,eD,eF,O⟩:=G.1 bz
 have eG:=aA B
 refine sr (Kz (.bool (decide ((a:Int) < 5))) (nt (Ik ?_)))
 by_cases bB:(a:Int) < 5
 refine jT (dT bB) (sk (Ik (bo (sr (Mz rfl (Ar rfl (Mz rfl (Kz (.agg #[vJ a, .slice none 0 0, .slice none 0 0]) ?_))))))))
 refine dn [vI 0, .slice none 0 0, .slice none 0 0] 172 bA ?_
 intro C fP dK
 refine df [vJ a, .slice none 0 0, .slice none 0 0] 0 dK Tryz.sizeOf172 ?_
 intro bC dL
 refine nt (Ik (sr (Mz rfl (Kz (vJ l1.length) (Mn rfl (bo ?_))))))
 have dM:Own w D bC (row none 0 0 (q4 aN.cells []) 72 6::_):=dL.free (eP 72 6)
 have dN:Own w D bC (row none 0 0 (q4 (eI .i64) []) 3 1::_):=dM.free (eP 3 1)
 have dO:=dN.pb [1,0]
 obtain⟨dP,P⟩:=FJ λ (g:Nat) h (j:Nat) b p (r:Nat) c w'=>Own w D w' [blk C [vJ a, .slice h b.length j, .slice p c.length r] 172,row z d.length A (q4 bO.cells x) 172 3,sepL (q4 bO.own x),row h b.length j (q4 aN.cells b) 72 6,row p c.length r (q4 (eI .i64) c) 3 1]/\g<=l1.length/\b.length<=6 *g/\c.length<=6 *g/\jC l0 d a l1 0 [] []=jC l0 d a (r4 g l1) g b c
 refine C1 (λ i:Nat × (Option Addr) × Nat × (List aN) × (Option Addr) × Nat × (List Int)=> [(30,vJ i.1),(29,vJ l1.length),(28, .slice L l1.length c1),(10,vP C 0),(27, .agg #[vJ a, .slice none 0 0, .slice none 0 0]),(26,vJ a),(9,vJ a),(25,vJ a),(24, .bool (decide ((a:Int) < 5))),(8, .slice z d.length A),(23,vJ a),(5,vI 0),(4, .slice none 0 0),(0, .slice A0 l0.length c0),(1, .slice L l1.length c1)]) dP (λ i=>l1.length - i.1) (0,none,0, [],none,0, []) ⟨rfl,rfl,rfl,rfl,rfl,rfl,rfl,rfl,rfl,rfl,rfl,rfl,rfl,rfl,rfl,trivial⟩ (P.2 ⟨dO,(show 0<=l1.length/\0<=6 *0/\0<=6 *0/\jC l0 d a l1 0 [] []=jC l0 d a (r4 0 l1) 0 [] [] from ⟨e6,e6,e6,rfl⟩)⟩) ?_
 rintro ⟨g,h,j,b,p,r,c⟩ fQ bD
 obtain⟨E,eH,eO,eQ,ak⟩:=P.1 bD
 refine sr (Kz (.bool (decide ((g:Int) < (l1.length:Int)))) (nt (Ik ?_)))
 by_cases bE:(g:Int) < (l1.length:Int)
 obtain⟨af,au⟩:=dh (ls:=l1) (i:=g) aN.len f2 (E.ro Y) e9
 have bF:=drop_at au
 refine jT (dT bE) (sk (Ik (bo (sr (Mz rfl (Ar rfl (Mz rfl (Mz rfl (Mz rfl (Mz rfl (fw (.pointer (some ⟨ab L,ao L+g *6,none⟩)) (Iz (mG) rfl rfl ((E.ro Y).addr (i:=g) e6) e6) (fw (.agg (aN.cells af).toArray) (IB rfl (IJ (cs:=(aN.cells af)) Tryz.isAgg72 Tryz.sizeOf72 ((E.ro Y).elem aN.len au f2))) ?_))))))))))))
 obtain⟨u,Q⟩:∃ q,je l0 (a:Int) af=q:=⟨_,rfl⟩
 obtain⟨fT,bG,bH,bI,eT⟩:=Iu E
 refine cl Tryz.call146 (yL _ _ A0 l0.length c0 l0 (a:Int) af u bG (bH _ aS) rfl e6 e6 Q) ?_
 rintro _ eU ⟨eX,eY,rfl,aK,R⟩
 have S:=bI _ _ aK
 have dQ:=zr 0 S
 replace R:u.length<=6:=R
 refine Ar rfl (Kz (vP C 1) (Lz (.slice h b.length j) S 1 Tryz.isAgg39 (Mz rfl ?_)))
 have av:=S.pf [4]
 refine WL.do rfl (IW (k:=b.length) (m:=u.length) (mG) av rfl rfl (gN F2 (av.rds (i:=1) rfl) (dX aN.one u)) rfl e6 (s:=s0 (b++u)) f7 (r5).symm ?_)
 intro ax ay eZ bJ
 have dR:s0 (b++u)=b.length+u.length:=by simp only [o2,s1,E7]
 refine Kz (vP C 1) ?_
 have bK:=bJ.pf [2]
 refine df [.slice ax (s0 (b++u)) ay] 1 bK Tryz.sizeOf39 ?_
 intro fe bL
 refine nt ?_
 refine Ha [7,9] (bv.block (IE (IE (bv.block (IE (bv.block (IE (IE (bv.block (IE IQ)))))))))) bL ?_
 intro fo bM
 refine qp C 2 0 rfl (ql 1 rfl 0 Tryz.isAgg58 rfl rfl rfl (qv 2 rfl rfl (qv 4 rfl rfl (qk (vJ u.length) 5 rfl ?_))))
 refine qd 3 rfl (Jq (cs:= [vJ g]) (t:=3) (sz:=1) (m:=1) bM rfl rfl (λ _=>by kernel_rfl) rfl f2 ?_)
 intro az fq T
 replace T:=IX (y:=row az 1 1 (q4 (eI .i64) ([(g:Int)])) 3 1) rfl T
 have aB:=T.pb [0]
 refine⟨.inr ⟨_,aB⟩, ?_⟩
 obtain⟨l,U⟩:∃ q,nT ([(g:Int)]) (u.length:Int)=q:=⟨_,rfl⟩
 obtain⟨fA,aL,dS,aO,aP⟩:=Iu aB
 refine qd 6 rfl (IP Tryz.call147 rfl (tO _ _ az 1 1 ([(g:Int)]) (u.length:Int) l aL (aP _ 6 _ rfl aW) rfl i7 (by first | omega | exact⟨rfl,e6,e6⟩) U) ?_)
 rintro _ fB ⟨fC,fE,rfl,aQ,V⟩
 have aC:=aO _ _ aQ
 have dU:=zr 0 aC
 replace V:(l.length:Int)=(u.length:Int):=V
 have aD:=aC.pb [0,7]
 refine⟨.inr ⟨_,aD⟩, ?_⟩
 have aF:=aD.pf [5]
 refine qd 7 rfl (IW (k:=c.length) (m:=l.length) (mq) aF rfl rfl (gN y4 (aF.rds (i:=6) rfl) (dX qB l)) rfl e6 (s:=s0 (c++l)) f7 (r5).symm ?_)
 intro aG aH fF bP
 have dV:s0 (c++l)=c.length+l.length:=by simp only [o2,s1,E7]
 refine⟨.inl e7, ?_⟩
 refine I4 (v:=vP C 2) 8 rfl e7 (λ _=>yk) ?_
 have bQ:=bP.pf [1]
 refine qe 9 rfl (Do.store (vs:= [.slice aG (s0 (c++l)) aH]) (o:=2) bQ rfl rfl Tryz.sizeOf58 rfl rfl rfl rfl ?_)
 intro fG bR
 refine⟨.inl e7, ?_⟩
 refine qn (bN (Iq (Il (fw (vJ (g+1)) (Ir (e:=C3.wrap ((g:Int)+1)) yk f0) (Mz rfl (C4 ?_))))))
 have bS:=bR.pk [0,4,5,2,1]
 exact II (g+1,ax,ay,(b++u),aG,aH,(c++l)) ⟨rfl,rfl,rfl,rfl,rfl,rfl,rfl,rfl,rfl,rfl,rfl,rfl,rfl,rfl,rfl,trivial⟩ (P.2 ⟨bS,e6,e6,e6,et (ak) (et (congrArg (λ q=>jC l0 d a q g b c) bF) (et (ae Q) (ae U)))⟩) (by show l1.length - (g+1) < l1.length - g; omega)
 refine jF (dF bE) (C5 (IC ?_))
 have W:jC l0 d a l1 0 [] []=(b,c):=et (ak) (et (congrArg (λ q=>jC l0 d a q g b c) (dZ (ls:=l1) (i:=g) e6)) rfl)
 refine IC (IK (Iq (sr (Kz (vP C 1) (Lz (.slice h b.length j) E 0 Tryz.isAgg39 (Kz (vJ b.length) (Kz (.bool (decide ((b.length:Int) > 0))) (nt ?_))))))))
 by_cases I:(b.length:Int) > 0
 refine jT (dT I) (Il (Mz rfl (La ([vJ a, .slice h b.length j, .slice p c.length r]) E 0 Tryz.isAgg172 Tryz.sizeOf172 ?_)))
 refine jV [vJ a, .slice h b.length j, .slice p c.length r] 172 3 1 E ?_
 intro bT fH X
 replace X:=IX (y:=row bT 1 1 (q4 bO.cells ([(bO.mk (a:Int) (G3 h j b) (G3 p r c))])) 172 3) rfl X
 have aI:=X.pb [0,1]
 refine WL.do rfl (IW (k:=d.length) (m:=1) (uR) aI rfl rfl (gN Tryz.underlying103 (aI.rds (i:=4) rfl) (dX bO.one ([(bO.mk (a:Int) (G3 h j b) (G3 p r c))]))) rfl e6 (s:=s0 (d++ [(fu.mk (a:Int) (E0 b) (E0 c))])) f7 (r5).symm ?_)
 intro bU bV bW bX
 have bY:=bX.pb [0,4,5]
 have bZ:Own w D bW (sepL (q4 bO.own (x++ [(bO.mk (a:Int) (G3 h j b) (G3 p r c))]))::_):=bY.sepAdd (L2:= [row h b.length j (q4 aN.cells b) 72 6,row p c.length r (q4 (eI .i64) c) 3 1]) (r5 (f:=bO.own) (xs:=x) (ys:= [(bO.mk (a:Int) (G3 h j b) (G3 p r c))])).symm
 have dW:s0 (d++ [(fu.mk (a:Int) (E0 b) (E0 c))])=d.length+1:=by simp only [o2,s1,E7]
 have dY:=aA (nu (es:= [(bO.mk (a:Int) (G3 h j b) (G3 p r c))]) (ms:= [(fu.mk (a:Int) (E0 b) (E0 c))]) B rfl)
 refine Az rfl (C4 (bN (Iq (Il (fw (vJ (a+1)) (Ir (e:=C3.wrap ((a:Int)+1)) yk f0) (Mz rfl (C4 ?_)))))))
 have cu:=bZ.pk [1,0]
 exact II (bU,bV,(x++ [(bO.mk (a:Int) (G3 h j b) (G3 p r c))]),(d++ [(fu.mk (a:Int) (E0 b) (E0 c))]),a+1) ⟨rfl,rfl,rfl,rfl,rfl,rfl,trivial⟩ (G.2 ⟨cu,by exact(nu (es:= [(bO.mk (a:Int) (G3 h j b) (G3 p r c))]) (ms:= [(fu.mk (a:Int) (E0 b) (E0 c))]) B rfl),e6,e6,et (O) (et (congrArg (λ q=>gp l0 l1 q d a) (rH (n:=5) (i:=a) e6)) (et (ae W) (ip I)))⟩) (by show 5 - (a+1) < 5 - a; omega)
 refine jF (dF I) (IU (bN (Iq (Il (fw (vJ (a+1)) (Ir (e:=C3.wrap ((a:Int)+1)) yk f0) (Mz rfl (C4 ?_)))))))
 have cz:=E.pk [1,2]
 exact II (z,A,x,d,a+1) ⟨rfl,rfl,rfl,rfl,rfl,rfl,trivial⟩ (G.2 ⟨cz,by exact B,e6,e6,et (O) (et (congrArg (λ q=>gp l0 l1 q d a) (rH (n:=5) (i:=a) e6)) (et (ae W) (iN I)))⟩) (by show 5 - (a+1) < 5 - a; omega)
 refine jF (dF bB) (C5 (IC ?_))
 have aR:gp l0 l1 5 [] 0=d:=et (O) (et (congrArg (λ q=>gp l0 l1 q d a) (wC (n:=5) (i:=a) e6)) rfl)
 refine IC (IK (Iq (sr (Mz rfl (Az rfl (An rfl (rt (Fin.res (lH rfl rfl rfl) ?_))))))))
 have cB:=bA.pf []
 obtain⟨rfl,rfl⟩:=fD (zj hr zq5)
 exact⟨z,A,x,rfl,cB,B⟩
 refine jT (dT aa) (sr (Mz rfl (Az rfl (An rfl (rt (tR (Fin.res (lH rfl rfl rfl) ?_)))))))
 have cK:Own w D Z [sepL (q4 bO.own [])]:=bu.sepNil
 have cO:Own w D Z [row none 0 0 (q4 bO.cells []) 172 3,sepL (q4 bO.own [])]:=cK.free (eP 172 3)
 have cZ:=cO.pf []
 obtain⟨rfl,rfl⟩:=fD (zj hr zq4)
 exact⟨none,0, [],rfl,cZ,rfl⟩
 refine jT (dT M) (sr (Mz rfl (Az rfl (An rfl (rt (tR (Fin.res (lH rfl rfl rfl) ?_)))))))
 have di:Own w D aX [sepL (q4 bO.own [])]:=bf.sepNil
 have dm:Own w D aX [row none 0 0 (q4 bO.cells []) 172 3,sepL (q4 bO.own [])]:=di.free (eP 172 3)
 have dw:=dm.pf []
 obtain⟨rfl,rfl⟩:=fD (zj hr zq2)
 exact⟨none,0, [],rfl,dw,rfl⟩
end
open List renaming mem_cons->u2
theorem dw {α β:Type} (x:α) (f:α->β):bnd x f=f x:=rfl
theorem EL {k:List UInt8} (h:dR k=0):s0 k<=12:=by
  unfold dR at h
  repeat' split at h
  all_goals omega
abbrev Hl (q:aH):Prop:=s0 q.aZ<=12/\s0 q.aG<=16
abbrev EM (x:aQ):Prop:=s0 x.aG<=16/\s0 x.aj.ls<=4/\∀ q ∈ x.aj.ls,Hl q
abbrev Ie (x:bH):Prop:=x.aX<=18446744073709551615/\x.ax<=18446744073709551615/\x.aU<=18446744073709551615/\s0 x.au.ls<=4
abbrev Ig (x:fF):Prop:=x.ax<=18446744073709551615/\x.aU<=18446744073709551615/\s0 x.ah.ls<=24/\∀ q ∈ x.ah.ls,EM q
theorem FY (l:List aM):∀ (q:List aM) (k:Nat),(lp (fo l q k) λ _=>0)=0->0 < k->∀ x ∈ q,s0 x.aJ<=12
  | [],_,_,_,x,hx=>by cases hx
  | y::q,k,h,hk,x,hx=>by
    simp only [fo,dw] at h
    split at h
    . split at h
      . split at h
        . split at h
          . simp only [lp] at h; omega
          . rcases u2.1 hx with rfl | hx
            . exact EL f5
            . exact FY l q _ h e6 x hx
        . simp only [lp] at h; omega
      . omega
    . simp only [lp] at h; omega
theorem Hz {l:List aM} (h:jc l=0):s0 l<=6/\∀ x ∈ l,s0 x.aJ<=12:=by
  unfold jc at h
  split at h
  . omega
  . split at h
    . omega
    . rw [dw] at h
      split at h
      . omega
      . rename_i a b c
        refine⟨e6, ?_⟩
        match l,h,c with
        | [],_,_=>intro x hx; cases hx
        | y::q,h,c=>
          intro x hx
          simp only [fo,dw] at h
          split at h
          . rw [if_neg e6] at h
            rcases u2.1 hx with rfl | hx
            . have c':x.aJ= []:=Classical.not_not.1 c
              rw [c']; exact Lp _
            . exact FY _ q _ h e6 x hx
          . simp only [lp] at h; omega
def zb (p:bZ):Prop:=p.ax<=18446744073709551615/\p.bG<=18446744073709551615/\p.aF<=18446744073709551615/\(∀ x ∈ p.ak.ls,x.aX<=18446744073709551615/\x.ax<=18446744073709551615/\x.aU<=18446744073709551615)/\∀ x ∈ p.aK.ls,x.ax<=18446744073709551615/\x.aU<=18446744073709551615
theorem Cu {n m:Int} (h:iM n m=true):1<=n/\n<=m:=by
  unfold iM at h
  split at h
  . exact⟨e6,of_decide_eq_true h⟩
  . cases h
theorem FZ (p:bZ) (k:Nat) (d:bH):∀ (q:List Int) (j:Nat) (pre:List Int) (v:Int),d.au.ls=pre++q->s0 pre=j->(0 < j->B8 d.au.ls (j - 1) default=v)->(j=0->v=0)->v<=p.au->
    (dI p k d q j= .inl ()/\v+(s0 q:Nat)<=p.au)\/dI p k d q j= .inr false
  | [],j,pre,v,_,_,_,_,hv=> .inl ⟨rfl,by simpa using hv⟩
  | y::q,j,pre,v,hp,hj,hg,hz,hv=>by
    by_cases e:iM y p.au=true
    . have a:=Cu e
      have ih:=FZ p k d q (j+1) (pre++ [y]) y (by rw [hp]; simp) (by simp [hj]) (λ _=>by
        rw [hp, <- hj]
        simp [B8,List.getElem?_append]) (λ h=>e6) a.2
      by_cases z:(j:Int) > 0
      . by_cases u:y<=B8 d.au.ls (j - 1) default
        . exact .inr (by simp only [dI,dw,if_pos e,if_pos z,if_pos u])
        . have hu:v < y:=by rw [hg e6] at u; omega
          rcases ih with g | g
          . refine .inl ⟨by simp only [dI,dw,if_pos e,if_pos z,if_neg u]; exact g.1, ?_⟩
            have:=g.2
            simp only [s1]
            omega
          . exact .inr (by simp only [dI,dw,if_pos e,if_pos z,if_neg u]; exact g)
      . have hu:v=0:=hz e6
        rcases ih with g | g
        . refine .inl ⟨by simp only [dI,dw,if_pos e,if_neg z]; exact g.1, ?_⟩
          have:=g.2
          simp only [s1]
          omega
        . exact .inr (by simp only [dI,dw,if_pos e,if_neg z]; exact g)
    . exact .inr (by simp only [dI,dw]; rw [if_neg e])
theorem F3 (p:bZ) (k:Nat) (d:bH):∀ (q:List Int) (j:Nat),gm p k d q j=dI p k d q j
  | [],_=>rfl
  | y::q,j=>by simp only [gm,dI,dw,F3 p k d q]
theorem F4 (p:bZ) (hp:0<=p.au/\p.au<=4) (f:Unit->Bool):∀ (q:List bH) (k:Nat),lp (dC p q k) f=true->∀ x ∈ q,s0 x.au.ls<=4
  | [],_,_,x,hx=>by cases hx
  | y::q,k,h,x,hx=>by
    have key:lp (sW (dI p k y y.au.ls 0) λ _=>dC p q (k+1)) f=true:=by
      simp only [dC,dw,F3] at h
      repeat' split at h
      all_goals first | cases h; done | exact h
    rcases FZ p k y y.au.ls 0 [] 0 rfl rfl (λ h=>absurd h e6) (λ _=>rfl) hp.1 with g | g
    . rw [g.1] at key
      rcases u2.1 hx with rfl | hx
      . have:=g.2
        omega
      . exact F4 p hp f q _ key x hx
    . rw [g] at key
      cases key
theorem F5:∀ l:List aH,(lp (gy l) λ _=>true)=true->∀ x ∈ l,Hl x
  | [],_,x,hx=>by cases hx
  | y::q,h,x,hx=>by
    by_cases e:dR y.aZ=0
    . by_cases v:((s0 y.aG:Nat):Int) > 16
      . simp only [gy,dw,if_pos e,if_pos v] at h
        cases h
      . simp only [gy,dw,if_pos e,if_neg v] at h
        rcases u2.1 hx with rfl | hx
        . exact⟨EL e,e6⟩
        . exact F5 q h x hx
    . simp only [gy,dw,if_neg e] at h
      cases h
theorem HV {r:aQ} (h:j5 r=true):EM r:=by
  unfold j5 at h
  split at h
  . cases h
  . split at h
    . cases h
    . exact⟨e6,e6,F5 _ h⟩
theorem F6 (k:Nat) (x:fF):∀ (n j:Nat),(fU k x n j= .inl ()/\∀ i,j<=i->i < j+n->EM (B8 x.ah.ls i default))\/fU k x n j= .inr false
  | 0,j=> .inl ⟨rfl,λ i a b=>e6⟩
  | n+1,j=>by
    by_cases e:j5 (B8 x.ah.ls j default)=true
    . rcases F6 k x n (j+1) with g | g
      . refine .inl ⟨?_,λ i a b=> ?_⟩
        . simp only [fU,dw]
          refine(if_pos ?_).trans g.1
          exact e
        . by_cases z:i=j
          . subst z; exact HV e
          . exact g.2 i e6 e6
      . refine .inr ?_
        simp only [fU,dw]
        refine(if_pos ?_).trans g
        exact e
    . refine .inr ?_
      simp only [fU,dw]
      exact if_neg e
theorem F7 (k:Nat) (x:fF):∀ (n j:Nat),jd k x n j=fU k x n j
  | 0,_=>rfl
  | n+1,j=>by simp only [jd,fU,dw,F7 k x n]
theorem F8 (l:List fF):∀ (q:List fF) (k:Nat),(lp (fC l q k) λ _=>true)=true->∀ x ∈ q,s0 x.ah.ls<=24/\∀ r ∈ x.ah.ls,EM r
  | [],_,_,x,hx=>by cases hx
  | y::q,k,h,x,hx=>by
    have key:s0 y.ah.ls<=4/\(lp (sW (fU k y (s0 y.ah.ls) 0) λ _=>fC l q (k+1)) λ _=>true)=true:=by
      simp only [fC,dw,F7] at h
      repeat' split at h
      all_goals first | cases h; done | exact⟨e6,h⟩
    rcases F6 k y (s0 y.ah.ls) 0 with g | g
    . have h':=key.2
      rw [g.1] at h'
      rcases u2.1 hx with rfl | hx
      . refine⟨e6,λ r hr=> ?_⟩
        obtain⟨i,hi,he⟩:=List.getElem_of_mem hr
        have:=g.2 i e6 e6
        rw [B8,List.getElem?_eq_getElem hi] at this
        simp only [Option.getD_some,he] at this
        exact this
      . exact F8 l q _ h' x hx
    . have h':=key.2
      rw [g] at h'
      cases h'
theorem AB {p:bZ} (h:gq p=0) (n:zb p):s0 p.ag.ls<=6/\(∀ x ∈ p.ag.ls,s0 x.aJ<=12)/\s0 p.ak.ls<=8/\(∀ x ∈ p.ak.ls,Ie x)/\s0 p.aK.ls<=4/\(∀ x ∈ p.aK.ls,Ig x)/\p.ax<=18446744073709551615/\p.bG<=18446744073709551615/\p.aF<=18446744073709551615:=by
  unfold gq at h
  rw [dw] at h
  have v:∀ b:Bool,iV b=0->b=true:=by intro b; cases b <;> simp [iV]
  split at h
  . split at h
    . rw [dw] at h
      split at h
      . rw [dw] at h
        split at h
        . rename_i g l c d
          rw [dw,dw] at h
          have m:=v _ h
          have a:=Cu g
          have ho:jc p.ag.ls=0:=by
            unfold mR at c
            rw [dw] at c
            split at c
            . assumption
            . cases c
          have ho:=Hz ho
          unfold nM at d
          split at d
          . cases d
          . unfold pJ at m
            split at m
            . cases m
            . have hd:=F4 p ⟨e6,a.2⟩ _ _ _ d
              have hl:=F8 _ _ _ m
              obtain⟨i,j,k,e,f⟩:=n
              exact⟨ho.1,ho.2,e6,λ x hx=>⟨(e x hx).1,(e x hx).2.1,(e x hx).2.2,hd x hx⟩,e6,λ x hx=>⟨(f x hx).1,(f x hx).2,hl x hx⟩,i,j,k⟩
        . rw [dw] at h; have:=v _ h; cases this
      . rw [dw] at h; have:=v _ h; cases this
    . rw [dw] at h; have:=v _ h; cases this
  . rw [dw] at h; have:=v _ h; cases this
open List renaming mem_append->v3,mem_cons_of_mem->O4,mem_cons_self->O5,mem_or_eq_of_mem_set->O3,mem_replicate->O6,mem_singleton->m5
open Nat renaming le_refl->o4
abbrev mK (g:Nat) (m:aD) (a:Option Addr) (b c:Nat) (d:Option Addr) (e:Nat) (f:Option Addr) (h:Nat) (i:Option Addr) (j:Nat) (k:Option Addr) (o:Nat) (p:Option Addr) (q:Nat) (r:Option Addr) (s:Nat) (t:Option Addr) (u:Nat) (v:Option Addr) (x:Nat):HP:=blk g [vI m.aa.au,vU m.aa.ax,vU m.aa.bG,vU m.aa.aF, .slice a b c, .slice d m.aa.ak.ls.length e, .slice f m.aa.aK.ls.length h,vU m.bT, .slice i m.aC.ls.length j, .bool m.bM.dB,vU m.bM.bi,vI m.bM.dP, .slice k m.bM.ai.ls.length o, .bool m.bD.dB,vU m.bD.bi,vI m.bD.dP, .slice p m.bD.ai.ls.length q, .bool m.bA.dB,vU m.bA.bi,vI m.bA.dP, .slice r m.bA.ai.ls.length s, .bool m.bC.dB,vU m.bC.bi,vI m.bC.dP, .slice t m.bC.ai.ls.length u, .bool m.bB.dB,vU m.bB.bi,vI m.bB.dP, .slice v m.bB.ai.ls.length x,vU m.dO,vU m.dG,vU m.dH,vU m.dD,vU m.dE, .pointer none] 86
abbrev mX (g:Nat) (m:aD) (D:Option Addr) (E G:Nat) (a:Option Addr) (b:Nat) (c:List ay) (d:Option Addr) (e:Nat) (f:List aS) (h:Option Addr) (i:Nat) (j:List bK) (k:Option Addr) (o:Nat) (p:List af) (q:Option Addr) (r:Nat) (s:List af) (t:Option Addr) (u:Nat) (v:List af) (x:Option Addr) (y:Nat) (z:List af) (A:Option Addr) (B:Nat) (C:List af) (l:List HP):List HP:=mK g m D E G a b d e h i k o q r t u x y A B::row a m.aa.ak.ls.length b (q4 ay.cells c) 60 5::sepL (q4 ay.own c)::row d m.aa.aK.ls.length e (q4 aS.cells f) 56 4::sepL (q4 aS.own f)::row h m.aC.ls.length i (q4 bK.cells j) 107 9::sepL (q4 bK.own j)::row k m.bM.ai.ls.length o (q4 af.cells p) 149 3::sepL (q4 af.own p)::row q m.bD.ai.ls.length r (q4 af.cells s) 149 3::sepL (q4 af.own s)::row t m.bA.ai.ls.length u (q4 af.cells v) 149 3::sepL (q4 af.own v)::row x m.bC.ai.ls.length y (q4 af.cells z) 149 3::sepL (q4 af.own z)::row A m.bB.ai.ls.length B (q4 af.cells C) 149 3::sepL (q4 af.own C)::l
abbrev jR (n:Nat):Prop:=n<=18446744073709551615
theorem EN {α β γ:Type} (f:α->β->γ) {a a':α} {b b':β} (h:a=a') (k:b=b'):f a b=f a' b':=by subst h; subst k; rfl
def mV (l:List aQ):Prop:=s0 l<=1000/\∀ x ∈ l,s0 x.aj.ls<=1000
structure Tok (x:ed):Prop where
  num:jR x.bI
  tY:jR x.bi
  qz:jR x.fE
  yes:s0 x.bL.ls=s0 x.aO.ls
  res:s0 x.ai.ls=s0 x.aO.ls
  len:s0 x.aO.ls<=5
  D7:1<=x.bf/\x.bf<=4
  ops:s0 x.cB.ls<=24/\∀ o ∈ x.cB.ls,o.aV<=1000
  prt:∀ p ∈ x.aO.ls,s0 p.aB.ls<=24024
  Ci:∀ r ∈ x.ai.ls,mV r.ls
def Ak (l:List ed):Prop:=∀ x ∈ l,Tok x
def Dk (l:List bH):Prop:=∀ x ∈ l,jR x.aX/\jR x.ax/\jR x.aU/\s0 x.au.ls<=1000
theorem GI {l:List bH} (h:Dk l) {i:Nat} {x:bH} (hx:l[i]? =some x):s0 x.au.ls<=1000:=(h x (D1 hx)).2.2.2
structure Mk (p:aD):Prop where
  oI:jR p.aa.ax
  sF:jR p.aa.bG
  qz:jR p.aa.aF
  uO:jR p.bT
  dec:Dk p.aa.ak.ls
  pO:∀ x ∈ p.aa.aK.ls,jR x.ax/\jR x.aU/\mV x.ah.ls
  act:Ak p.aC.ls
  nK:mV p.bM.ai.ls/\jR p.bM.bi
  mh:mV p.bD.ai.ls/\jR p.bD.bi
  nV:mV p.bA.ai.ls/\jR p.bA.bi
  nW:mV p.bC.ai.ls/\jR p.bC.bi
  nX:mV p.bB.ai.ls/\jR p.bB.bi
theorem BK {p:aD} (h:Mk p):s0 p.bM.ai.ls<=1000/\s0 p.bD.ai.ls<=1000/\s0 p.bA.ai.ls<=1000/\s0 p.bC.ai.ls<=1000/\s0 p.bB.ai.ls<=1000:=⟨h.nK.1.1,h.mh.1.1,h.nV.1.1,h.nW.1.1,h.nX.1.1⟩
theorem l9:mV []:=⟨Lp _,λ x h=>by cases h⟩
theorem d9 {l:List aQ} (h:mV l):∀ x ∈ l,s0 x.aj.ls<=1000000:=λ x hx=>L8 (h.2 x hx) f2
theorem Fp {p:aD} (h:Mk p) {i:Nat} {x:fF} (hx:p.aa.aK.ls[i]? =some x):mV x.ah.ls:=(h.pO x (D1 hx)).2.2
theorem Cv {l:List ed} (h:Ak l) {i:Nat} {x:ed} (hx:l[i]? =some x):Tok x:=h x (D1 hx)
theorem qN {l:List ed} (h:Ak l) {i:Nat} {y:ed} (hy:Tok y):Ak (I3 l i y):=λ x hx=>by
  rcases O3 hx with a | rfl
  . exact h x a
  . exact hy
theorem q8 {x:ed} (h:Tok x) {i j:Nat} {r:List aQ} (hr:mV r):Tok (ed.mk x.bI x.bf x.bi x.fE x.cB x.aO (E0 (I3 x.bL.ls i true)) (E0 (I3 x.ai.ls j (E0 r))) x.iI):=
  ⟨h.num,h.tY,h.qz,G4.trans h.yes,G4.trans h.res,h.len,h.D7,h.ops,h.prt,λ q hq=>by
    rcases O3 hq with a | rfl
    . exact h.Ci q a
    . exact hr⟩
theorem wJ {x:ed} (h:Tok x) (a:Int):Tok (ed.mk x.bI x.bf x.bi x.fE x.cB x.aO x.bL x.ai a):=⟨h.num,h.tY,h.qz,h.yes,h.res,h.len,h.D7,h.ops,h.prt,h.Ci⟩
theorem yc {p:aD} (h:Mk p):zb p.aa:=⟨h.oI,h.sF,h.qz,λ x hx=>⟨(h.dec x hx).1,(h.dec x hx).2.1,(h.dec x hx).2.2.1⟩,λ x hx=>⟨(h.pO x hx).1,(h.pO x hx).2.1⟩⟩
theorem GJ {l:List aQ} (h:∀ x ∈ l,s0 x.aj.ls<=1000):tot l<=s0 l *1001:=by
  induction l with
  | nil=>exact Lp _
  | cons x l ih=>have a:=ih λ y hy=>h y (O4 _ hy); have b:=h x O5; simp only [tot,s1]; omega
theorem HY {l:List (Ll aQ)} (h:∀ r ∈ l,mV r.ls):tt l<=s0 l *1001000:=by
  induction l with
  | nil=>exact Lp _
  | cons x l ih=>
    have b:=ih λ y hy=>h y (O4 _ hy)
    have a:=h x O5
    have c:=GJ a.2
    have d:=a.1
    simp only [tt,s1]; omega
theorem F9 {x:ed} (h:Tok x):tt x.ai.ls<=100000000:=by
  have a:=HY h.Ci
  have b:=h.res
  have c:=h.len
  omega
theorem yM {l0:List aM} {l1:List aN}:∀ (q:Nat) (l:List fu) (k:Nat),s0 (gp l0 l1 q l k)<=s0 l+q
  | 0,l,k=>o4 _
  | q+1,l,k=>by
    simp only [gp,bnd]
    split
    . refine L8 (yM q _ _) ?_
      rw [o2,List.length_singleton]; omega
    . exact L8 (yM q _ _) e6
theorem BL {l0:List aM} {l1:List aN} {r:List fu} {e:Int} (h:ko l0 l1=(r,e)):s0 r<=5:=by
  unfold ko at h
  simp only [bnd] at h
  split at h
  . split at h
    . obtain⟨rfl,_⟩:=Prod.mk.inj h
      have:=yM (l0:=l0) (l1:=l1) 5 [] 0
      simpa using this
    . obtain⟨rfl,_⟩:=Prod.mk.inj h
      exact Lp _
  . obtain⟨rfl,_⟩:=Prod.mk.inj h
    exact Lp _
theorem zD (l0:List aM) (a:Int) (b:aN):∀ (q:List aM) (l:List aN) (k:Nat),s0 (dW l0 a b q l k)<=s0 l+s0 q
  | [],l,k=>o4 _
  | x::q,l,k=>by
    simp only [dW,bnd]
    split
    . split
      . refine L8 (zD l0 a b q _ _) ?_
        simp only [o2,s1,E7]; omega
      . refine L8 (zD l0 a b q _ _) ?_
        simp only [s1]; omega
    . refine L8 (zD l0 a b q _ _) ?_
      simp only [s1]; omega
theorem zF (l0:List aM) (a:Int) (b:aN):∀ (q:List aM) (l:List aN) (k:Nat),s0 (fH l0 a b q l k)<=s0 l+s0 q
  | [],l,k=>o4 _
  | x::q,l,k=>by
    simp only [fH,bnd]
    split
    . split
      . refine L8 (zF l0 a b q _ _) ?_
        simp only [o2,s1,E7]; omega
      . refine L8 (zF l0 a b q _ _) ?_
        simp only [s1]; omega
    . refine L8 (zF l0 a b q _ _) ?_
      simp only [s1]; omega
theorem Gb (l0:List aM) (a:Int) (b:aN):s0 (je l0 a b)<=s0 l0+1:=by
  unfold je
  simp only [bnd]
  split
  . have:=zD l0 a b l0 [] 0; simp only [E7] at this; omega
  . split
    . have:=zF l0 a b l0 [] 0; simp only [E7] at this; omega
    . split
      . simp only [s1,E7]; omega
      . exact Lp _
theorem BN (l0:List aM) (b:List fu) (a:Nat):∀ (q:List aN) (k:Nat) (l:List aN) (m:List Int),s0 (jC l0 b a q k l m).1<=s0 l+s0 q *(s0 l0+1)
  | [],k,l,m=>Nat.le_add_right _ _
  | x::q,k,l,m=>by
    simp only [jC,bnd]
    refine L8 (BN l0 b a q _ _ _) ?_
    have c:=Gb l0 (a:Int) x
    rw [o2,s1,Nat.succ_mul]; omega
theorem yN {l0:List aM} {l1:List aN}:∀ (q:Nat) (l:List fu) (k:Nat),(∀ x ∈ l,s0 x.aB.ls<=s0 l1 *(s0 l0+1))->∀ x ∈ gp l0 l1 q l k,s0 x.aB.ls<=s0 l1 *(s0 l0+1)
  | 0,l,k,h=>h
  | q+1,l,k,h=>by
    simp only [gp,bnd]
    split
    . refine yN q _ _ λ x hx=> ?_
      rcases v3.1 hx with a | a
      . exact h x a
      . rw [m5.1 a]
        have:=BN l0 l k l1 0 [] []
        simpa using this
    . exact yN q _ _ h
theorem BO {l0:List aM} {l1:List aN} {r:List fu} {e:Int} (h:ko l0 l1=(r,e)) (a:s0 l0<=1000) (b:s0 l1<=24):∀ x ∈ r,s0 x.aB.ls<=24024:=by
  have hb:s0 l1 *(s0 l0+1)<=24024:=L8 (Nat.mul_le_mul b (Nat.succ_le_succ a)) f2
  unfold ko at h
  simp only [bnd] at h
  split at h
  . split at h
    . obtain⟨rfl,_⟩:=Prod.mk.inj h
      exact λ x hx=>L8 (yN (l0:=l0) (l1:=l1) 5 [] 0 (λ y hy=>by cases hy) x hx) hb
    . obtain⟨rfl,_⟩:=Prod.mk.inj h
      intro x hx; cases hx
  . obtain⟨rfl,_⟩:=Prod.mk.inj h
    intro x hx; cases hx
def Pk (l:List aQ):Prop:=∀ x ∈ l,s0 x.aj.ls<=1000
theorem AC {l:List (Ll aQ)} (h:∀ r ∈ l,Pk r.ls) (i:Nat):Pk (B8 l i default).ls:=by
  rw [L7]
  cases e:l[i]? with
  | none=>intro x hx; cases hx
  | some r=>exact h r (D1 e)
theorem BP {l:List aQ} (h:Pk l) (i:Nat):s0 (B8 l i default).aj.ls<=1000:=by
  rw [L7]
  cases e:l[i]? with
  | none=>exact Lp _
  | some r=>exact h r (D1 e)
theorem Gc {c:List (Ll aQ)} (d:∀ r ∈ c,Pk r.ls) (k:Nat):∀ (q:List Int) (j:Nat) (l:List (Ll aQ)),(∀ r ∈ l,Pk r.ls)->∀ r ∈ kH c k q j l,Pk r.ls
  | [],_,l,h=>h
  | a::q,j,l,h=>Gc d k q (j+1) _ λ r hr=>by
    rcases O3 hr with b | rfl
    . exact h r b
    . intro x hx
      rcases v3.1 hx with b | b
      . exact AC h _ x b
      . rw [m5.1 b]; exact BP (AC d _) _
theorem Gd {l0:List aN} {b:List (Ll aQ)} (c:∀ r ∈ b,Pk r.ls):∀ (q:List fu) (k:Nat) (l:List (Ll aQ)),(∀ r ∈ l,Pk r.ls)->∀ r ∈ jX l0 b q k l,Pk r.ls
  | [],_,l,h=>h
  | a::q,k,l,h=>Gd c q (k+1) _ (Gc c k _ 0 l h)
theorem HZ {p:aN} (hp:p.aV<=1000) {l:List aQ} (h:Pk l):s0 (kU p l).aj.ls<=1000:=by
  unfold kU
  simp only [bnd]
  split
  . simp only [List.length_take]; omega
  . split
    . exact Lp _
    . exact BP h 0
theorem Gf {l:List (Ll aQ)} (h:∀ r ∈ l,Pk r.ls):∀ (q:List aN) (k:Nat) (r:List aQ),(∀ o ∈ q,o.aV<=1000)->Pk r->Pk (jY l q k r)/\s0 (jY l q k r)=s0 r
  | [],_,r,_,hr=>⟨hr,rfl⟩
  | a::q,k,r,ho,hr=>by
    have b:=Gf h q (k+1) (I3 r k (aQ.mk (kU a (B8 l k default).ls).dV (kU a (B8 l k default).ls).aG (E0 (kU a (B8 l k default).ls).aj.ls))) (λ o h=>ho o (O4 _ h)) (λ x hx=>by
      rcases O3 hx with b | rfl
      . exact hr x b
      . exact HZ (ho a O5) (AC h _))
    exact⟨b.1,b.2.trans G4⟩
theorem yf {l0:List aN} {l1:List fu} {a:List (Ll aQ)} {r:List aQ} {e:Int} (h:nQ l0 l1 a=(r,e)) (hl:s0 l0<=24) (ho:∀ o ∈ l0,o.aV<=1000) (c:∀ q ∈ a,mV q.ls):mV r:=by
  unfold nQ at h
  simp only [bnd] at h
  split at h
  . obtain⟨rfl,_⟩:=Prod.mk.inj h
    have b:=Gf (l:=jX l0 a l1 0 (List.replicate (s0 l0) (E0 []:Ll aQ))) (Gd (l0:=l0) (λ q hq=>(c q hq).2) l1 0 _ λ q hq=>by rw [(O6.1 hq).2]; intro x hx; cases hx) l0 0 (List.replicate (s0 l0) (aQ.mk false [] (E0 []))) ho (λ x hx=>by rw [(O6.1 hx).2]; exact Lp _)
    refine⟨?_,b.1⟩
    rw [b.2,List.length_replicate]; omega
  . obtain⟨rfl,_⟩:=Prod.mk.inj h
    exact l9
theorem Eh {α:Type} {enc:α->List Value} {sz:Nat} (hz:∀ x,(enc x).length=sz) {l:List α} {sp zs:List Value} {k:Nat} (hk:k<=l.length):(put (q4 enc l++sp) (k *sz) zs).take (k *sz)=q4 enc (List.take k l):=by
  have hl:(q4 enc l).length=l.length *sz:=jy hz l
  have hm:k *sz<=l.length *sz:=Nat.mul_le_mul_right sz hk
  rw [wW (o4 _) (by rw [o2,hl]; omega),List.take_append_of_le_length e6]
  exact oh hz _ _
section
open Go.RowKit
variable {P:Program} {ops:Array Oper} {Q:Exit->Act->World->Prop} {ks:List Nat} {Good:World->Prop} {n:Nat} {F:List (Nat × Value)} {w:World} {fuel:Nat} {l:List Nat}
end
theorem f8 {p:Prop}(h:p:=by first | omega | (dsimp only; omega) | (simp only [List.length_nil]; omega) | decide | (simp only [jR,List.length_cons,List.length_nil,List.length_replicate]; omega)):p:=h
theorem i1 {p:Prop}(h:p:=by first | assumption | exact l9 | exact Mk.mh (by assumption) |>.1):p:=h
theorem i9 {p:Prop}(h:p:=by first | assumption | exact yc (by assumption)):p:=h
theorem l2 {p:Prop}(h:p:=by first | assumption | exact BK (by assumption)):p:=h
end Go.Proofs.YtbkagebjhbphaaaGreat
