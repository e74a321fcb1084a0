/-
  What is known of the coordinator: sizes, numbers. Conditions: none beyond each law's own.
-/
import Derived.Test.YtbkagebjhbphaaaGreatStM
import Derived.Test.YtbkagebjhbphaaaGreatGc
import Derived.Test.YtbkagebjhbphaaaGreatOc
import Derived.Test.YtbkagebjhbphaaaGreatCoA
import Derived.Test.YtbkagebjhbphaaaGreatKp
namespace Go.Proofs.YtbkagebjhbphaaaGreat
set_option linter.unusedVariables false
set_option linter.unusedSimpArgs false
abbrev jy (n:Nat):Prop:=n≤18446744073709551615
theorem CU {α β γ:Type} (f:α→β→γ) {a a':α} {b b':β} (h:a=a') (k:b=b'):f a b=f a' b':=by subst h; subst k; rfl
def mJ (l:List aX):Prop:=List.length l≤1000∧∀ x ∈ l,List.length x.au.ls≤1000
structure Tok (x:dH):Prop where
  num:jy x.bq
  sw:jy x.aH
  pQ:jy x.dw
  yes:List.length x.bF.ls=List.length x.aC.ls
  res:List.length x.ae.ls=List.length x.aC.ls
  len:List.length x.aC.ls≤5
  zL:1≤x.aW∧x.aW≤4
  ops:List.length x.bS.ls≤24∧∀ o ∈ x.bS.ls,o.bT≤1000
  prt:∀ p ∈ x.aC.ls,List.length p.aD.ls≤24024
  AO:∀ r ∈ x.ae.ls,mJ r.ls
def Ak (l:List dH):Prop:=∀ x ∈ l,Tok x
def Dk (l:List bL):Prop:=∀ x ∈ l,jy x.bf∧jy x.ax∧jy x.aY∧List.length x.ak.ls≤1000
theorem CV {l:List bL} (h:Dk l) {i:Nat} {x:bL} (hx:l[i]? =some x):List.length x.ak.ls≤1000:=(h x (List.mem_of_getElem? hx)).2.2.2
structure Mk (p:aB):Prop where
  nT:jy p.aa.ax
  rF:jy p.aa.bi
  pQ:jy p.aa.aI
  tY:jy p.bH
  dec:Dk p.aa.aj.ls
  oO:∀ x ∈ p.aa.aF.ls,jy x.ax∧jy x.aY∧mJ x.ai.ls
  act:Ak p.aA.ls
  lX:mJ p.aQ.ae.ls∧jy p.aQ.aH
  kZ:mJ p.aO.ae.ls∧jy p.aO.aH
  ma:mJ p.aL.ae.ls∧jy p.aL.aH
  mg:mJ p.aN.ae.ls∧jy p.aN.aH
  mf:mJ p.aK.ae.ls∧jy p.aK.aH
theorem Al {p:aB} (h:Mk p):List.length p.aQ.ae.ls≤1000∧List.length p.aO.ae.ls≤1000∧List.length p.aL.ae.ls≤1000∧List.length p.aN.ae.ls≤1000∧List.length p.aK.ae.ls≤1000:=⟨h.lX.1.1,h.kZ.1.1,h.ma.1.1,h.mg.1.1,h.mf.1.1⟩
theorem mh:mJ []:=⟨IU _,fun x h=>by cases h⟩
theorem dD {l:List aX} (h:mJ l):∀ x ∈ l,List.length x.au.ls≤1000000:=fun x hx=>Nat.le_trans (h.2 x hx) (by decide)
theorem Dc {p:aB} (h:Mk p) {i:Nat} {x:fF} (hx:p.aa.aF.ls[i]? =some x):mJ x.ai.ls:=(h.oO x (List.mem_of_getElem? hx)).2.2
theorem xm {l:List dH} (h:Ak l) {i:Nat} {x:dH} (hx:l[i]? =some x):Tok x:=h x (List.mem_of_getElem? hx)
theorem mD {l:List dH} (h:Ak l) {i:Nat} {y:dH} (hy:Tok y):Ak (List.set l i y):=fun x hx=>by
  rcases List.mem_or_eq_of_mem_set hx with a | rfl
  · exact h x a
  · exact hy
theorem nP {x:dH} (h:Tok x) {i j:Nat} {r:List aX} (hr:mJ r):Tok (dH.mk x.bq x.aW x.aH x.dw x.bS x.aC (Ll.mk (List.set x.bF.ls i true)) (Ll.mk (List.set x.ae.ls j (Ll.mk r))) x.dZ):=
  ⟨h.num,h.sw,h.pQ,List.length_set.trans h.yes,List.length_set.trans h.res,h.len,h.zL,h.ops,h.prt,fun q hq=>by
    rcases List.mem_or_eq_of_mem_set hq with a | rfl
    · exact h.AO q a
    · exact hr⟩
theorem pK {x:dH} (h:Tok x) (a:Int):Tok (dH.mk x.bq x.aW x.aH x.dw x.bS x.aC x.bF x.ae a):=⟨h.num,h.sw,h.pQ,h.yes,h.res,h.len,h.zL,h.ops,h.prt,h.AO⟩
theorem tO {p:aB} (h:Mk p):DT p.aa:=⟨h.nT,h.rF,h.pQ,fun x hx=>⟨(h.dec x hx).1,(h.dec x hx).2.1,(h.dec x hx).2.2.1⟩,fun x hx=>⟨(h.oO x hx).1,(h.oO x hx).2.1⟩⟩
theorem El {l:List aX} (h:∀ x ∈ l,List.length x.au.ls≤1000):tot l≤List.length l *1001:=by
  induction l with
  | nil=>exact IU _
  | cons x l ih=>have a:=ih fun y hy=>h y (List.mem_cons_of_mem _ hy); have b:=h x List.mem_cons_self; simp only [tot,List.length_cons]; omega
theorem EC {l:List (Ll aX)} (h:∀ r ∈ l,mJ r.ls):tt l≤List.length l *1001000:=by
  induction l with
  | nil=>exact IU _
  | cons x l ih=>
    have b:=ih fun y hy=>h y (List.mem_cons_of_mem _ hy)
    have a:=h x List.mem_cons_self
    have c:=El a.2
    have d:=a.1
    simp only [tt,List.length_cons]; omega
theorem D7 {x:dH} (h:Tok x):tt x.ae.ls≤100000000:=by
  have a:=EC h.AO
  have b:=h.res
  have c:=h.len
  omega
theorem xP {l0:List bv} {l1:List bC}:∀ (q:Nat) (l:List fV) (k:Nat),List.length (iR l0 l1 q l k)≤List.length l+q
  | 0,l,k=>Nat.le_refl _
  | q+1,l,k=>by
    simp only [iR,bnd]
    split
    · refine Nat.le_trans (xP q _ _) ?_
      rw [List.length_append,List.length_singleton]; omega
    · exact Nat.le_trans (xP q _ _) (by omega)
theorem Am {l0:List bv} {l1:List bC} {r:List fV} {e:Int} (h:l9 l0 l1=(r,e)):List.length r≤5:=by
  unfold l9 at h
  simp only [bnd] at h
  split at h
  · split at h
    · obtain⟨rfl,_⟩:=Prod.mk.inj h
      have:=xP (l0:=l0) (l1:=l1) 5 [] 0
      simpa using this
    · obtain⟨rfl,_⟩:=Prod.mk.inj h
      exact IU _
  · obtain⟨rfl,_⟩:=Prod.mk.inj h
    exact IU _
theorem yE (l0:List bv) (a:Int) (b:bC):∀ (q:List bv) (l:List bC) (k:Nat),List.length (gp l0 a b q l k)≤List.length l+List.length q
  | [],l,k=>Nat.le_refl _
  | x::q,l,k=>by
    simp only [gp,bnd]
    split
    · split
      · refine Nat.le_trans (yE l0 a b q _ _) ?_
        simp only [List.length_append,List.length_cons,List.length_nil]; omega
      · refine Nat.le_trans (yE l0 a b q _ _) ?_
        simp only [List.length_cons]; omega
    · refine Nat.le_trans (yE l0 a b q _ _) ?_
      simp only [List.length_cons]; omega
theorem yF (l0:List bv) (a:Int) (b:bC):∀ (q:List bv) (l:List bC) (k:Nat),List.length (gq l0 a b q l k)≤List.length l+List.length q
  | [],l,k=>Nat.le_refl _
  | x::q,l,k=>by
    simp only [gq,bnd]
    split
    · split
      · refine Nat.le_trans (yF l0 a b q _ _) ?_
        simp only [List.length_append,List.length_cons,List.length_nil]; omega
      · refine Nat.le_trans (yF l0 a b q _ _) ?_
        simp only [List.length_cons]; omega
    · refine Nat.le_trans (yF l0 a b q _ _) ?_
      simp only [List.length_cons]; omega
theorem D8 (l0:List bv) (a:Int) (b:bC):List.length (o9 l0 a b)≤List.length l0+1:=by
  unfold o9
  simp only [bnd]
  split
  · have:=yE l0 a b l0 [] 0; simp only [List.length_nil] at this; omega
  · split
    · have:=yF l0 a b l0 [] 0; simp only [List.length_nil] at this; omega
    · split
      · simp only [List.length_cons,List.length_nil]; omega
      · exact IU _
theorem Ao (l0:List bv) (b:List fV) (a:Nat):∀ (q:List bC) (k:Nat) (l:List bC) (m:List Int),List.length (j6 l0 b a q k l m).1≤List.length l+List.length q *(List.length l0+1)
  | [],k,l,m=>Nat.le_add_right _ _
  | x::q,k,l,m=>by
    simp only [j6,bnd]
    refine Nat.le_trans (Ao l0 b a q _ _ _) ?_
    have c:=D8 l0 ((a:Nat):Int) x
    rw [List.length_append,List.length_cons,Nat.succ_mul]; omega
theorem xQ {l0:List bv} {l1:List bC}:∀ (q:Nat) (l:List fV) (k:Nat),(∀ x ∈ l,List.length x.aD.ls≤List.length l1 *(List.length l0+1))→∀ x ∈ iR l0 l1 q l k,List.length x.aD.ls≤List.length l1 *(List.length l0+1)
  | 0,l,k,h=>h
  | q+1,l,k,h=>by
    simp only [iR,bnd]
    split
    · refine xQ q _ _ fun x hx=> ?_
      rcases List.mem_append.1 hx with a | a
      · exact h x a
      · rw [List.mem_singleton.1 a]
        have:=Ao l0 l k l1 0 [] []
        simpa using this
    · exact xQ q _ _ h
theorem Ap {l0:List bv} {l1:List bC} {r:List fV} {e:Int} (h:l9 l0 l1=(r,e)) (a:List.length l0≤1000) (b:List.length l1≤24):∀ x ∈ r,List.length x.aD.ls≤24024:=by
  have hb:List.length l1 *(List.length l0+1)≤24024:=Nat.le_trans (Nat.mul_le_mul b (Nat.succ_le_succ a)) (by decide)
  unfold l9 at h
  simp only [bnd] at h
  split at h
  · split at h
    · obtain⟨rfl,_⟩:=Prod.mk.inj h
      exact fun x hx=>Nat.le_trans (xQ (l0:=l0) (l1:=l1) 5 [] 0 (fun y hy=>by cases hy) x hx) hb
    · obtain⟨rfl,_⟩:=Prod.mk.inj h
      intro x hx; cases hx
  · obtain⟨rfl,_⟩:=Prod.mk.inj h
    intro x hx; cases hx
def Pk (l:List aX):Prop:=∀ x ∈ l,List.length x.au.ls≤1000
theorem zw {l:List (Ll aX)} (h:∀ r ∈ l,Pk r.ls) (i:Nat):Pk (List.getD l i default).ls:=by
  rw [List.getD_eq_getElem?_getD]
  cases e:l[i]? with
  | none=>intro x hx; cases hx
  | some r=>exact h r (List.mem_of_getElem? e)
theorem Aq {l:List aX} (h:Pk l) (i:Nat):List.length (List.getD l i default).au.ls≤1000:=by
  rw [List.getD_eq_getElem?_getD]
  cases e:l[i]? with
  | none=>exact IU _
  | some r=>exact h r (List.mem_of_getElem? e)
theorem D9 {c:List (Ll aX)} (d:∀ r ∈ c,Pk r.ls) (k:Nat):∀ (q:List Int) (j:Nat) (l:List (Ll aX)),(∀ r ∈ l,Pk r.ls)→∀ r ∈ kD c k q j l,Pk r.ls
  | [],_,l,h=>h
  | a::q,j,l,h=>D9 d k q (j+1) _ fun r hr=>by
    rcases List.mem_or_eq_of_mem_set hr with b | rfl
    · exact h r b
    · intro x hx
      rcases List.mem_append.1 hx with b | b
      · exact zw h _ x b
      · rw [List.mem_singleton.1 b]; exact Aq (zw d _) _
theorem Ea {l0:List bC} {b:List (Ll aX)} (c:∀ r ∈ b,Pk r.ls):∀ (q:List fV) (k:Nat) (l:List (Ll aX)),(∀ r ∈ l,Pk r.ls)→∀ r ∈ jU l0 b q k l,Pk r.ls
  | [],_,l,h=>h
  | a::q,k,l,h=>Ea c q (k+1) _ (D9 c k _ 0 l h)
theorem ED {p:bC} (hp:p.bT≤1000) {l:List aX} (h:Pk l):List.length (kN p l).au.ls≤1000:=by
  unfold kN
  simp only [bnd]
  split
  · simp only [List.length_take]; omega
  · split
    · exact IU _
    · exact Aq h 0
theorem Eb {l:List (Ll aX)} (h:∀ r ∈ l,Pk r.ls):∀ (q:List bC) (k:Nat) (r:List aX),(∀ o ∈ q,o.bT≤1000)→Pk r→Pk (jV l q k r)∧List.length (jV l q k r)=List.length r
  | [],_,r,_,hr=>⟨hr,rfl⟩
  | a::q,k,r,ho,hr=>by
    have b:=Eb h q (k+1) (List.set r k (aX.mk (kN a (List.getD l k default).ls).dW (kN a (List.getD l k default).ls).aU (Ll.mk (kN a (List.getD l k default).ls).au.ls))) (fun o h=>ho o (List.mem_cons_of_mem _ h)) (fun x hx=>by
      rcases List.mem_or_eq_of_mem_set hx with b | rfl
      · exact hr x b
      · exact ED (ho a List.mem_cons_self) (zw h _))
    exact⟨b.1,b.2.trans List.length_set⟩
theorem xn {l0:List bC} {l1:List fV} {a:List (Ll aX)} {r:List aX} {e:Int} (h:nk l0 l1 a=(r,e)) (hl:List.length l0≤24) (ho:∀ o ∈ l0,o.bT≤1000) (c:∀ q ∈ a,mJ q.ls):mJ r:=by
  unfold nk at h
  simp only [bnd] at h
  split at h
  · obtain⟨rfl,_⟩:=Prod.mk.inj h
    have b:=Eb (l:=jU l0 a l1 0 (List.replicate (List.length l0) (Ll.mk []:Ll aX))) (Ea (l0:=l0) (fun q hq=>(c q hq).2) l1 0 _ fun q hq=>by rw [(List.mem_replicate.1 hq).2]; intro x hx; cases hx) l0 0 (List.replicate (List.length l0) (aX.mk false ([]) (Ll.mk ([])))) ho (fun x hx=>by rw [(List.mem_replicate.1 hx).2]; exact IU _)
    refine⟨?_,b.1⟩
    rw [b.2,List.length_replicate]; omega
  · obtain⟨rfl,_⟩:=Prod.mk.inj h
    exact mh
theorem Co {α:Type} {enc:α→List Value} {sz:Nat} (hz:∀ x,(enc x).length=sz) {l:List α} {sp zs:List Value} {k:Nat} (hk:k≤l.length):(put (List.flatMap enc l++sp) (k *sz) zs).take (k *sz)=List.flatMap enc (List.take k l):=by
  have hl:(List.flatMap enc l).length=l.length *sz:=jv hz l
  have hm:k *sz≤l.length *sz:=Nat.mul_le_mul_right sz hk
  rw [wo (Nat.le_refl _) (by rw [List.length_append,hl]; omega),List.take_append_of_le_length (by omega)]
  exact nH hz _ _
section
open Go.RowKit
variable {P:Program} {ops:Array Oper} {Q:Exit→Act→World→Prop} {ks:List Nat} {Good:World→Prop} {n:Nat} {F:List (Nat × Value)} {w:World} {fuel:Nat} {l:List Nat}
end
end Go.Proofs.YtbkagebjhbphaaaGreat
