/-
  What is known of the coordinator: sizes, numbers. Conditions: none beyond each law's own.
-/
import Derived.Test.YtbkagebjhbphaaaGreatStM
import Derived.Test.YtbkagebjhbphaaaGreatGc
import Derived.Test.YtbkagebjhbphaaaGreatOc
import Derived.Test.YtbkagebjhbphaaaGreatCoA
import Derived.Test.YtbkagebjhbphaaaGreatKp
namespace Go.Proofs.YtbkagebjhbphaaaGreat
open List renaming flatMap→q6,getD→C2,getD_eq_getElem?_getD→J7,length→s2,length_append→p5,length_cons→s3,length_nil→G1,length_set→H3,mem_append→v8,mem_cons_of_mem→M5,mem_cons_self→M6,mem_of_getElem?→E0,mem_or_eq_of_mem_set→M4,mem_replicate→M7,mem_singleton→m4,set→u5
open Ll renaming mk→E4
open Nat renaming le_refl→m5,le_trans→J6
set_option linter.unusedVariables false
set_option linter.unusedSimpArgs false
abbrev jy (n:Nat):Prop:=n≤18446744073709551615
theorem CU {α β γ:Type} (f:α→β→γ) {a a':α} {b b':β} (h:a=a') (k:b=b'):f a b=f a' b':=by subst h; subst k; rfl
def mJ (l:List aX):Prop:=s2 l≤1000∧∀ x ∈ l,s2 x.au.ls≤1000
structure Tok (x:dH):Prop where
  num:jy x.bq
  sw:jy x.aH
  pQ:jy x.dw
  yes:s2 x.bF.ls=s2 x.aC.ls
  res:s2 x.ae.ls=s2 x.aC.ls
  len:s2 x.aC.ls≤5
  zL:1≤x.aW∧x.aW≤4
  ops:s2 x.bS.ls≤24∧∀ o ∈ x.bS.ls,o.bT≤1000
  prt:∀ p ∈ x.aC.ls,s2 p.aD.ls≤24024
  AO:∀ r ∈ x.ae.ls,mJ r.ls
def Ak (l:List dH):Prop:=∀ x ∈ l,Tok x
def Dk (l:List bL):Prop:=∀ x ∈ l,jy x.bf∧jy x.ax∧jy x.aY∧s2 x.ak.ls≤1000
theorem CV {l:List bL} (h:Dk l) {i:Nat} {x:bL} (hx:l[i]? =some x):s2 x.ak.ls≤1000:=(h x (E0 hx)).2.2.2
structure Mk (p:aB):Prop where
  nT:jy p.aa.ax
  rF:jy p.aa.bi
  pQ:jy p.aa.aI
  tY:jy p.bH
  dec:Dk p.aa.aj.ls
  oO:∀ x ∈ p.aa.aF.ls,jy x.ax∧jy x.aY∧mJ x.ai.ls
  act:Ak p.aA.ls
  lX:mJ p.aQ.ae.ls∧jy p.aQ.aH
  kZ:mJ p.aO.ae.ls∧jy p.aO.aH
  ma:mJ p.aL.ae.ls∧jy p.aL.aH
  mg:mJ p.aN.ae.ls∧jy p.aN.aH
  mf:mJ p.aK.ae.ls∧jy p.aK.aH
theorem Al {p:aB} (h:Mk p):s2 p.aQ.ae.ls≤1000∧s2 p.aO.ae.ls≤1000∧s2 p.aL.ae.ls≤1000∧s2 p.aN.ae.ls≤1000∧s2 p.aK.ae.ls≤1000:=⟨h.lX.1.1,h.kZ.1.1,h.ma.1.1,h.mg.1.1,h.mf.1.1⟩
theorem mh:mJ []:=⟨IU _,fun x h=>by cases h⟩
theorem dD {l:List aX} (h:mJ l):∀ x ∈ l,s2 x.au.ls≤1000000:=fun x hx=>J6 (h.2 x hx) f3
theorem Dc {p:aB} (h:Mk p) {i:Nat} {x:fF} (hx:p.aa.aF.ls[i]? =some x):mJ x.ai.ls:=(h.oO x (E0 hx)).2.2
theorem xm {l:List dH} (h:Ak l) {i:Nat} {x:dH} (hx:l[i]? =some x):Tok x:=h x (E0 hx)
theorem mD {l:List dH} (h:Ak l) {i:Nat} {y:dH} (hy:Tok y):Ak (u5 l i y):=fun x hx=>by
  rcases M4 hx with a | rfl
  · exact h x a
  · exact hy
theorem nP {x:dH} (h:Tok x) {i j:Nat} {r:List aX} (hr:mJ r):Tok (dH.mk x.bq x.aW x.aH x.dw x.bS x.aC (E4 (u5 x.bF.ls i true)) (E4 (u5 x.ae.ls j (E4 r))) x.dZ):=
  ⟨h.num,h.sw,h.pQ,H3.trans h.yes,H3.trans h.res,h.len,h.zL,h.ops,h.prt,fun q hq=>by
    rcases M4 hq with a | rfl
    · exact h.AO q a
    · exact hr⟩
theorem pK {x:dH} (h:Tok x) (a:Int):Tok (dH.mk x.bq x.aW x.aH x.dw x.bS x.aC x.bF x.ae a):=⟨h.num,h.sw,h.pQ,h.yes,h.res,h.len,h.zL,h.ops,h.prt,h.AO⟩
theorem tO {p:aB} (h:Mk p):DT p.aa:=⟨h.nT,h.rF,h.pQ,fun x hx=>⟨(h.dec x hx).1,(h.dec x hx).2.1,(h.dec x hx).2.2.1⟩,fun x hx=>⟨(h.oO x hx).1,(h.oO x hx).2.1⟩⟩
theorem El {l:List aX} (h:∀ x ∈ l,s2 x.au.ls≤1000):tot l≤s2 l *1001:=by
  induction l with
  | nil=>exact IU _
  | cons x l ih=>have a:=ih fun y hy=>h y (M5 _ hy); have b:=h x M6; simp only [tot,s3]; omega
theorem EC {l:List (Ll aX)} (h:∀ r ∈ l,mJ r.ls):tt l≤s2 l *1001000:=by
  induction l with
  | nil=>exact IU _
  | cons x l ih=>
    have b:=ih fun y hy=>h y (M5 _ hy)
    have a:=h x M6
    have c:=El a.2
    have d:=a.1
    simp only [tt,s3]; omega
theorem D7 {x:dH} (h:Tok x):tt x.ae.ls≤100000000:=by
  have a:=EC h.AO
  have b:=h.res
  have c:=h.len
  omega
theorem xP {l0:List bv} {l1:List bC}:∀ (q:Nat) (l:List fV) (k:Nat),s2 (iR l0 l1 q l k)≤s2 l+q
  | 0,l,k=>m5 _
  | q+1,l,k=>by
    simp only [iR,bnd]
    split
    · refine J6 (xP q _ _) ?_
      rw [p5,List.length_singleton]; omega
    · exact J6 (xP q _ _) e6
theorem Am {l0:List bv} {l1:List bC} {r:List fV} {e:Int} (h:l9 l0 l1=(r,e)):s2 r≤5:=by
  unfold l9 at h
  simp only [bnd] at h
  split at h
  · split at h
    · obtain⟨rfl,_⟩:=Prod.mk.inj h
      have:=xP (l0:=l0) (l1:=l1) 5 [] 0
      simpa using this
    · obtain⟨rfl,_⟩:=Prod.mk.inj h
      exact IU _
  · obtain⟨rfl,_⟩:=Prod.mk.inj h
    exact IU _
theorem yE (l0:List bv) (a:Int) (b:bC):∀ (q:List bv) (l:List bC) (k:Nat),s2 (gp l0 a b q l k)≤s2 l+s2 q
  | [],l,k=>m5 _
  | x::q,l,k=>by
    simp only [gp,bnd]
    split
    · split
      · refine J6 (yE l0 a b q _ _) ?_
        simp only [p5,s3,G1]; omega
      · refine J6 (yE l0 a b q _ _) ?_
        simp only [s3]; omega
    · refine J6 (yE l0 a b q _ _) ?_
      simp only [s3]; omega
theorem yF (l0:List bv) (a:Int) (b:bC):∀ (q:List bv) (l:List bC) (k:Nat),s2 (gq l0 a b q l k)≤s2 l+s2 q
  | [],l,k=>m5 _
  | x::q,l,k=>by
    simp only [gq,bnd]
    split
    · split
      · refine J6 (yF l0 a b q _ _) ?_
        simp only [p5,s3,G1]; omega
      · refine J6 (yF l0 a b q _ _) ?_
        simp only [s3]; omega
    · refine J6 (yF l0 a b q _ _) ?_
      simp only [s3]; omega
theorem D8 (l0:List bv) (a:Int) (b:bC):s2 (o9 l0 a b)≤s2 l0+1:=by
  unfold o9
  simp only [bnd]
  split
  · have:=yE l0 a b l0 [] 0; simp only [G1] at this; omega
  · split
    · have:=yF l0 a b l0 [] 0; simp only [G1] at this; omega
    · split
      · simp only [s3,G1]; omega
      · exact IU _
theorem Ao (l0:List bv) (b:List fV) (a:Nat):∀ (q:List bC) (k:Nat) (l:List bC) (m:List Int),s2 (j6 l0 b a q k l m).1≤s2 l+s2 q *(s2 l0+1)
  | [],k,l,m=>Nat.le_add_right _ _
  | x::q,k,l,m=>by
    simp only [j6,bnd]
    refine J6 (Ao l0 b a q _ _ _) ?_
    have c:=D8 l0 ((a:Nat):Int) x
    rw [p5,s3,Nat.succ_mul]; omega
theorem xQ {l0:List bv} {l1:List bC}:∀ (q:Nat) (l:List fV) (k:Nat),(∀ x ∈ l,s2 x.aD.ls≤s2 l1 *(s2 l0+1))→∀ x ∈ iR l0 l1 q l k,s2 x.aD.ls≤s2 l1 *(s2 l0+1)
  | 0,l,k,h=>h
  | q+1,l,k,h=>by
    simp only [iR,bnd]
    split
    · refine xQ q _ _ fun x hx=> ?_
      rcases v8.1 hx with a | a
      · exact h x a
      · rw [m4.1 a]
        have:=Ao l0 l k l1 0 [] []
        simpa using this
    · exact xQ q _ _ h
theorem Ap {l0:List bv} {l1:List bC} {r:List fV} {e:Int} (h:l9 l0 l1=(r,e)) (a:s2 l0≤1000) (b:s2 l1≤24):∀ x ∈ r,s2 x.aD.ls≤24024:=by
  have hb:s2 l1 *(s2 l0+1)≤24024:=J6 (Nat.mul_le_mul b (Nat.succ_le_succ a)) f3
  unfold l9 at h
  simp only [bnd] at h
  split at h
  · split at h
    · obtain⟨rfl,_⟩:=Prod.mk.inj h
      exact fun x hx=>J6 (xQ (l0:=l0) (l1:=l1) 5 [] 0 (fun y hy=>by cases hy) x hx) hb
    · obtain⟨rfl,_⟩:=Prod.mk.inj h
      intro x hx; cases hx
  · obtain⟨rfl,_⟩:=Prod.mk.inj h
    intro x hx; cases hx
def Pk (l:List aX):Prop:=∀ x ∈ l,s2 x.au.ls≤1000
theorem zw {l:List (Ll aX)} (h:∀ r ∈ l,Pk r.ls) (i:Nat):Pk (C2 l i default).ls:=by
  rw [J7]
  cases e:l[i]? with
  | none=>intro x hx; cases hx
  | some r=>exact h r (E0 e)
theorem Aq {l:List aX} (h:Pk l) (i:Nat):s2 (C2 l i default).au.ls≤1000:=by
  rw [J7]
  cases e:l[i]? with
  | none=>exact IU _
  | some r=>exact h r (E0 e)
theorem D9 {c:List (Ll aX)} (d:∀ r ∈ c,Pk r.ls) (k:Nat):∀ (q:List Int) (j:Nat) (l:List (Ll aX)),(∀ r ∈ l,Pk r.ls)→∀ r ∈ kD c k q j l,Pk r.ls
  | [],_,l,h=>h
  | a::q,j,l,h=>D9 d k q (j+1) _ fun r hr=>by
    rcases M4 hr with b | rfl
    · exact h r b
    · intro x hx
      rcases v8.1 hx with b | b
      · exact zw h _ x b
      · rw [m4.1 b]; exact Aq (zw d _) _
theorem Ea {l0:List bC} {b:List (Ll aX)} (c:∀ r ∈ b,Pk r.ls):∀ (q:List fV) (k:Nat) (l:List (Ll aX)),(∀ r ∈ l,Pk r.ls)→∀ r ∈ jU l0 b q k l,Pk r.ls
  | [],_,l,h=>h
  | a::q,k,l,h=>Ea c q (k+1) _ (D9 c k _ 0 l h)
theorem ED {p:bC} (hp:p.bT≤1000) {l:List aX} (h:Pk l):s2 (kN p l).au.ls≤1000:=by
  unfold kN
  simp only [bnd]
  split
  · simp only [List.length_take]; omega
  · split
    · exact IU _
    · exact Aq h 0
theorem Eb {l:List (Ll aX)} (h:∀ r ∈ l,Pk r.ls):∀ (q:List bC) (k:Nat) (r:List aX),(∀ o ∈ q,o.bT≤1000)→Pk r→Pk (jV l q k r)∧s2 (jV l q k r)=s2 r
  | [],_,r,_,hr=>⟨hr,rfl⟩
  | a::q,k,r,ho,hr=>by
    have b:=Eb h q (k+1) (u5 r k (aX.mk (kN a (C2 l k default).ls).dW (kN a (C2 l k default).ls).aU (E4 (kN a (C2 l k default).ls).au.ls))) (fun o h=>ho o (M5 _ h)) (fun x hx=>by
      rcases M4 hx with b | rfl
      · exact hr x b
      · exact ED (ho a M6) (zw h _))
    exact⟨b.1,b.2.trans H3⟩
theorem xn {l0:List bC} {l1:List fV} {a:List (Ll aX)} {r:List aX} {e:Int} (h:nk l0 l1 a=(r,e)) (hl:s2 l0≤24) (ho:∀ o ∈ l0,o.bT≤1000) (c:∀ q ∈ a,mJ q.ls):mJ r:=by
  unfold nk at h
  simp only [bnd] at h
  split at h
  · obtain⟨rfl,_⟩:=Prod.mk.inj h
    have b:=Eb (l:=jU l0 a l1 0 (List.replicate (s2 l0) (E4 []:Ll aX))) (Ea (l0:=l0) (fun q hq=>(c q hq).2) l1 0 _ fun q hq=>by rw [(M7.1 hq).2]; intro x hx; cases hx) l0 0 (List.replicate (s2 l0) (aX.mk false ([]) (E4 ([])))) ho (fun x hx=>by rw [(M7.1 hx).2]; exact IU _)
    refine⟨?_,b.1⟩
    rw [b.2,List.length_replicate]; omega
  · obtain⟨rfl,_⟩:=Prod.mk.inj h
    exact mh
theorem Co {α:Type} {enc:α→List Value} {sz:Nat} (hz:∀ x,(enc x).length=sz) {l:List α} {sp zs:List Value} {k:Nat} (hk:k≤l.length):(put (q6 enc l++sp) (k *sz) zs).take (k *sz)=q6 enc (List.take k l):=by
  have hl:(q6 enc l).length=l.length *sz:=jv hz l
  have hm:k *sz≤l.length *sz:=Nat.mul_le_mul_right sz hk
  rw [wo (m5 _) (by rw [p5,hl]; omega),List.take_append_of_le_length e6]
  exact nH hz _ _
section
open Go.RowKit
variable {P:Program} {ops:Array Oper} {Q:Exit→Act→World→Prop} {ks:List Nat} {Good:World→Prop} {n:Nat} {F:List (Nat × Value)} {w:World} {fuel:Nat} {l:List Nat}
end
theorem f8 {p:Prop}(h:p:=by first | omega | (dsimp only; omega) | (simp only [List.length_nil]; omega) | decide | (simp only [jy,List.length_cons,List.length_nil,List.length_replicate]; omega)):p:=h
theorem i2 {p:Prop}(h:p:=by first | assumption | exact mh | exact Mk.kZ (by assumption) |>.1):p:=h
theorem i4 {p:Prop}(h:p:=by first | assumption | exact tO (by assumption)):p:=h
theorem j9 {p:Prop}(h:p:=by first | assumption | exact Al (by assumption)):p:=h
end Go.Proofs.YtbkagebjhbphaaaGreat
