/-
  What is known of the coordinator: sizes, numbers. Conditions: none beyond each law's own.
-/
import Derived.Test.YtbkagebjhbphaaaGreatStM
import Derived.Test.YtbkagebjhbphaaaGreatGc
import Derived.Test.YtbkagebjhbphaaaGreatOc
import Derived.Test.YtbkagebjhbphaaaGreatCoA
import Derived.Test.YtbkagebjhbphaaaGreatKx
namespace Go.Proofs.YtbkagebjhbphaaaGreat
open List renaming flatMap→q4,getD→B8,getD_eq_getElem?_getD→L7,length→s0,length_append→o2,length_cons→s1,length_nil→E7,length_set→G4,mem_append→v3,mem_cons_of_mem→O4,mem_cons_self→O5,mem_of_getElem?→D1,mem_or_eq_of_mem_set→O3,mem_replicate→O6,mem_singleton→m5,set→I3
open Ll renaming mk→E0
open Nat renaming le_refl→o4,le_trans→L8
set_option linter.unusedVariables false
set_option linter.unusedSimpArgs false
abbrev mK (g:Nat) (m:aD) (a:Option Addr) (b c:Nat) (d:Option Addr) (e:Nat) (f:Option Addr) (h:Nat) (i:Option Addr) (j:Nat) (k:Option Addr) (o:Nat) (p:Option Addr) (q:Nat) (r:Option Addr) (s:Nat) (t:Option Addr) (u:Nat) (v:Option Addr) (x:Nat):HP:=blk g [vI m.aa.au,vU m.aa.ax,vU m.aa.bG,vU m.aa.aF, .slice a b c, .slice d m.aa.ak.ls.length e, .slice f m.aa.aK.ls.length h,vU m.bT, .slice i m.aC.ls.length j, .bool m.bM.dB,vU m.bM.bi,vI m.bM.dP, .slice k m.bM.ai.ls.length o, .bool m.bD.dB,vU m.bD.bi,vI m.bD.dP, .slice p m.bD.ai.ls.length q, .bool m.bA.dB,vU m.bA.bi,vI m.bA.dP, .slice r m.bA.ai.ls.length s, .bool m.bC.dB,vU m.bC.bi,vI m.bC.dP, .slice t m.bC.ai.ls.length u, .bool m.bB.dB,vU m.bB.bi,vI m.bB.dP, .slice v m.bB.ai.ls.length x,vU m.dO,vU m.dG,vU m.dH,vU m.dD,vU m.dE, .pointer none] 86
abbrev mX (g:Nat) (m:aD) (D:Option Addr) (E G:Nat) (a:Option Addr) (b:Nat) (c:List ay) (d:Option Addr) (e:Nat) (f:List aS) (h:Option Addr) (i:Nat) (j:List bK) (k:Option Addr) (o:Nat) (p:List af) (q:Option Addr) (r:Nat) (s:List af) (t:Option Addr) (u:Nat) (v:List af) (x:Option Addr) (y:Nat) (z:List af) (A:Option Addr) (B:Nat) (C:List af) (l:List HP):List HP:=mK g m D E G a b d e h i k o q r t u x y A B::row a m.aa.ak.ls.length b (q4 ay.cells c) 60 5::sepL (q4 ay.own c)::row d m.aa.aK.ls.length e (q4 aS.cells f) 56 4::sepL (q4 aS.own f)::row h m.aC.ls.length i (q4 bK.cells j) 107 9::sepL (q4 bK.own j)::row k m.bM.ai.ls.length o (q4 af.cells p) 149 3::sepL (q4 af.own p)::row q m.bD.ai.ls.length r (q4 af.cells s) 149 3::sepL (q4 af.own s)::row t m.bA.ai.ls.length u (q4 af.cells v) 149 3::sepL (q4 af.own v)::row x m.bC.ai.ls.length y (q4 af.cells z) 149 3::sepL (q4 af.own z)::row A m.bB.ai.ls.length B (q4 af.cells C) 149 3::sepL (q4 af.own C)::l
abbrev jR (n:Nat):Prop:=n≤18446744073709551615
theorem EN {α β γ:Type} (f:α→β→γ) {a a':α} {b b':β} (h:a=a') (k:b=b'):f a b=f a' b':=by subst h; subst k; rfl
def mV (l:List aQ):Prop:=s0 l≤1000∧∀ x ∈ l,s0 x.aj.ls≤1000
structure Tok (x:ed):Prop where
  num:jR x.bI
  tY:jR x.bi
  qz:jR x.fE
  yes:s0 x.bL.ls=s0 x.aO.ls
  res:s0 x.ai.ls=s0 x.aO.ls
  len:s0 x.aO.ls≤5
  D7:1≤x.bf∧x.bf≤4
  ops:s0 x.cB.ls≤24∧∀ o ∈ x.cB.ls,o.aV≤1000
  prt:∀ p ∈ x.aO.ls,s0 p.aB.ls≤24024
  Ci:∀ r ∈ x.ai.ls,mV r.ls
def Ak (l:List ed):Prop:=∀ x ∈ l,Tok x
def Dk (l:List bH):Prop:=∀ x ∈ l,jR x.aX∧jR x.ax∧jR x.aU∧s0 x.au.ls≤1000
theorem GI {l:List bH} (h:Dk l) {i:Nat} {x:bH} (hx:l[i]? =some x):s0 x.au.ls≤1000:=(h x (D1 hx)).2.2.2
structure Mk (p:aD):Prop where
  oI:jR p.aa.ax
  sF:jR p.aa.bG
  qz:jR p.aa.aF
  uO:jR p.bT
  dec:Dk p.aa.ak.ls
  pO:∀ x ∈ p.aa.aK.ls,jR x.ax∧jR x.aU∧mV x.ah.ls
  act:Ak p.aC.ls
  nK:mV p.bM.ai.ls∧jR p.bM.bi
  mh:mV p.bD.ai.ls∧jR p.bD.bi
  nV:mV p.bA.ai.ls∧jR p.bA.bi
  nW:mV p.bC.ai.ls∧jR p.bC.bi
  nX:mV p.bB.ai.ls∧jR p.bB.bi
theorem BK {p:aD} (h:Mk p):s0 p.bM.ai.ls≤1000∧s0 p.bD.ai.ls≤1000∧s0 p.bA.ai.ls≤1000∧s0 p.bC.ai.ls≤1000∧s0 p.bB.ai.ls≤1000:=⟨h.nK.1.1,h.mh.1.1,h.nV.1.1,h.nW.1.1,h.nX.1.1⟩
theorem l9:mV []:=⟨Lp _,fun x h=>by cases h⟩
theorem d9 {l:List aQ} (h:mV l):∀ x ∈ l,s0 x.aj.ls≤1000000:=fun x hx=>L8 (h.2 x hx) f2
theorem Fp {p:aD} (h:Mk p) {i:Nat} {x:fF} (hx:p.aa.aK.ls[i]? =some x):mV x.ah.ls:=(h.pO x (D1 hx)).2.2
theorem Cv {l:List ed} (h:Ak l) {i:Nat} {x:ed} (hx:l[i]? =some x):Tok x:=h x (D1 hx)
theorem qN {l:List ed} (h:Ak l) {i:Nat} {y:ed} (hy:Tok y):Ak (I3 l i y):=fun x hx=>by
  rcases O3 hx with a | rfl
  · exact h x a
  · exact hy
theorem q8 {x:ed} (h:Tok x) {i j:Nat} {r:List aQ} (hr:mV r):Tok (ed.mk x.bI x.bf x.bi x.fE x.cB x.aO (E0 (I3 x.bL.ls i true)) (E0 (I3 x.ai.ls j (E0 r))) x.iI):=
  ⟨h.num,h.tY,h.qz,G4.trans h.yes,G4.trans h.res,h.len,h.D7,h.ops,h.prt,fun q hq=>by
    rcases O3 hq with a | rfl
    · exact h.Ci q a
    · exact hr⟩
theorem wJ {x:ed} (h:Tok x) (a:Int):Tok (ed.mk x.bI x.bf x.bi x.fE x.cB x.aO x.bL x.ai a):=⟨h.num,h.tY,h.qz,h.yes,h.res,h.len,h.D7,h.ops,h.prt,h.Ci⟩
theorem yc {p:aD} (h:Mk p):zb p.aa:=⟨h.oI,h.sF,h.qz,fun x hx=>⟨(h.dec x hx).1,(h.dec x hx).2.1,(h.dec x hx).2.2.1⟩,fun x hx=>⟨(h.pO x hx).1,(h.pO x hx).2.1⟩⟩
theorem GJ {l:List aQ} (h:∀ x ∈ l,s0 x.aj.ls≤1000):tot l≤s0 l *1001:=by
  induction l with
  | nil=>exact Lp _
  | cons x l ih=>have a:=ih fun y hy=>h y (O4 _ hy); have b:=h x O5; simp only [tot,s1]; omega
theorem HY {l:List (Ll aQ)} (h:∀ r ∈ l,mV r.ls):tt l≤s0 l *1001000:=by
  induction l with
  | nil=>exact Lp _
  | cons x l ih=>
    have b:=ih fun y hy=>h y (O4 _ hy)
    have a:=h x O5
    have c:=GJ a.2
    have d:=a.1
    simp only [tt,s1]; omega
theorem F9 {x:ed} (h:Tok x):tt x.ai.ls≤100000000:=by
  have a:=HY h.Ci
  have b:=h.res
  have c:=h.len
  omega
theorem yM {l0:List aM} {l1:List aN}:∀ (q:Nat) (l:List fu) (k:Nat),s0 (gp l0 l1 q l k)≤s0 l+q
  | 0,l,k=>o4 _
  | q+1,l,k=>by
    simp only [gp,bnd]
    split
    · refine L8 (yM q _ _) ?_
      rw [o2,List.length_singleton]; omega
    · exact L8 (yM q _ _) e6
theorem BL {l0:List aM} {l1:List aN} {r:List fu} {e:Int} (h:ko l0 l1=(r,e)):s0 r≤5:=by
  unfold ko at h
  simp only [bnd] at h
  split at h
  · split at h
    · obtain⟨rfl,_⟩:=Prod.mk.inj h
      have:=yM (l0:=l0) (l1:=l1) 5 [] 0
      simpa using this
    · obtain⟨rfl,_⟩:=Prod.mk.inj h
      exact Lp _
  · obtain⟨rfl,_⟩:=Prod.mk.inj h
    exact Lp _
theorem zD (l0:List aM) (a:Int) (b:aN):∀ (q:List aM) (l:List aN) (k:Nat),s0 (dW l0 a b q l k)≤s0 l+s0 q
  | [],l,k=>o4 _
  | x::q,l,k=>by
    simp only [dW,bnd]
    split
    · split
      · refine L8 (zD l0 a b q _ _) ?_
        simp only [o2,s1,E7]; omega
      · refine L8 (zD l0 a b q _ _) ?_
        simp only [s1]; omega
    · refine L8 (zD l0 a b q _ _) ?_
      simp only [s1]; omega
theorem zF (l0:List aM) (a:Int) (b:aN):∀ (q:List aM) (l:List aN) (k:Nat),s0 (fH l0 a b q l k)≤s0 l+s0 q
  | [],l,k=>o4 _
  | x::q,l,k=>by
    simp only [fH,bnd]
    split
    · split
      · refine L8 (zF l0 a b q _ _) ?_
        simp only [o2,s1,E7]; omega
      · refine L8 (zF l0 a b q _ _) ?_
        simp only [s1]; omega
    · refine L8 (zF l0 a b q _ _) ?_
      simp only [s1]; omega
theorem Gb (l0:List aM) (a:Int) (b:aN):s0 (je l0 a b)≤s0 l0+1:=by
  unfold je
  simp only [bnd]
  split
  · have:=zD l0 a b l0 [] 0; simp only [E7] at this; omega
  · split
    · have:=zF l0 a b l0 [] 0; simp only [E7] at this; omega
    · split
      · simp only [s1,E7]; omega
      · exact Lp _
theorem BN (l0:List aM) (b:List fu) (a:Nat):∀ (q:List aN) (k:Nat) (l:List aN) (m:List Int),s0 (jC l0 b a q k l m).1≤s0 l+s0 q *(s0 l0+1)
  | [],k,l,m=>Nat.le_add_right _ _
  | x::q,k,l,m=>by
    simp only [jC,bnd]
    refine L8 (BN l0 b a q _ _ _) ?_
    have c:=Gb l0 ((a:Nat):Int) x
    rw [o2,s1,Nat.succ_mul]; omega
theorem yN {l0:List aM} {l1:List aN}:∀ (q:Nat) (l:List fu) (k:Nat),(∀ x ∈ l,s0 x.aB.ls≤s0 l1 *(s0 l0+1))→∀ x ∈ gp l0 l1 q l k,s0 x.aB.ls≤s0 l1 *(s0 l0+1)
  | 0,l,k,h=>h
  | q+1,l,k,h=>by
    simp only [gp,bnd]
    split
    · refine yN q _ _ fun x hx=> ?_
      rcases v3.1 hx with a | a
      · exact h x a
      · rw [m5.1 a]
        have:=BN l0 l k l1 0 [] []
        simpa using this
    · exact yN q _ _ h
theorem BO {l0:List aM} {l1:List aN} {r:List fu} {e:Int} (h:ko l0 l1=(r,e)) (a:s0 l0≤1000) (b:s0 l1≤24):∀ x ∈ r,s0 x.aB.ls≤24024:=by
  have hb:s0 l1 *(s0 l0+1)≤24024:=L8 (Nat.mul_le_mul b (Nat.succ_le_succ a)) f2
  unfold ko at h
  simp only [bnd] at h
  split at h
  · split at h
    · obtain⟨rfl,_⟩:=Prod.mk.inj h
      exact fun x hx=>L8 (yN (l0:=l0) (l1:=l1) 5 [] 0 (fun y hy=>by cases hy) x hx) hb
    · obtain⟨rfl,_⟩:=Prod.mk.inj h
      intro x hx; cases hx
  · obtain⟨rfl,_⟩:=Prod.mk.inj h
    intro x hx; cases hx
def Pk (l:List aQ):Prop:=∀ x ∈ l,s0 x.aj.ls≤1000
theorem AC {l:List (Ll aQ)} (h:∀ r ∈ l,Pk r.ls) (i:Nat):Pk (B8 l i default).ls:=by
  rw [L7]
  cases e:l[i]? with
  | none=>intro x hx; cases hx
  | some r=>exact h r (D1 e)
theorem BP {l:List aQ} (h:Pk l) (i:Nat):s0 (B8 l i default).aj.ls≤1000:=by
  rw [L7]
  cases e:l[i]? with
  | none=>exact Lp _
  | some r=>exact h r (D1 e)
theorem Gc {c:List (Ll aQ)} (d:∀ r ∈ c,Pk r.ls) (k:Nat):∀ (q:List Int) (j:Nat) (l:List (Ll aQ)),(∀ r ∈ l,Pk r.ls)→∀ r ∈ kH c k q j l,Pk r.ls
  | [],_,l,h=>h
  | a::q,j,l,h=>Gc d k q (j+1) _ fun r hr=>by
    rcases O3 hr with b | rfl
    · exact h r b
    · intro x hx
      rcases v3.1 hx with b | b
      · exact AC h _ x b
      · rw [m5.1 b]; exact BP (AC d _) _
theorem Gd {l0:List aN} {b:List (Ll aQ)} (c:∀ r ∈ b,Pk r.ls):∀ (q:List fu) (k:Nat) (l:List (Ll aQ)),(∀ r ∈ l,Pk r.ls)→∀ r ∈ jX l0 b q k l,Pk r.ls
  | [],_,l,h=>h
  | a::q,k,l,h=>Gd c q (k+1) _ (Gc c k _ 0 l h)
theorem HZ {p:aN} (hp:p.aV≤1000) {l:List aQ} (h:Pk l):s0 (kU p l).aj.ls≤1000:=by
  unfold kU
  simp only [bnd]
  split
  · simp only [List.length_take]; omega
  · split
    · exact Lp _
    · exact BP h 0
theorem Gf {l:List (Ll aQ)} (h:∀ r ∈ l,Pk r.ls):∀ (q:List aN) (k:Nat) (r:List aQ),(∀ o ∈ q,o.aV≤1000)→Pk r→Pk (jY l q k r)∧s0 (jY l q k r)=s0 r
  | [],_,r,_,hr=>⟨hr,rfl⟩
  | a::q,k,r,ho,hr=>by
    have b:=Gf h q (k+1) (I3 r k (aQ.mk (kU a (B8 l k default).ls).dV (kU a (B8 l k default).ls).aG (E0 (kU a (B8 l k default).ls).aj.ls))) (fun o h=>ho o (O4 _ h)) (fun x hx=>by
      rcases O3 hx with b | rfl
      · exact hr x b
      · exact HZ (ho a O5) (AC h _))
    exact⟨b.1,b.2.trans G4⟩
theorem yf {l0:List aN} {l1:List fu} {a:List (Ll aQ)} {r:List aQ} {e:Int} (h:nQ l0 l1 a=(r,e)) (hl:s0 l0≤24) (ho:∀ o ∈ l0,o.aV≤1000) (c:∀ q ∈ a,mV q.ls):mV r:=by
  unfold nQ at h
  simp only [bnd] at h
  split at h
  · obtain⟨rfl,_⟩:=Prod.mk.inj h
    have b:=Gf (l:=jX l0 a l1 0 (List.replicate (s0 l0) (E0 []:Ll aQ))) (Gd (l0:=l0) (fun q hq=>(c q hq).2) l1 0 _ fun q hq=>by rw [(O6.1 hq).2]; intro x hx; cases hx) l0 0 (List.replicate (s0 l0) (aQ.mk false ([]) (E0 ([])))) ho (fun x hx=>by rw [(O6.1 hx).2]; exact Lp _)
    refine⟨?_,b.1⟩
    rw [b.2,List.length_replicate]; omega
  · obtain⟨rfl,_⟩:=Prod.mk.inj h
    exact l9
theorem Eh {α:Type} {enc:α→List Value} {sz:Nat} (hz:∀ x,(enc x).length=sz) {l:List α} {sp zs:List Value} {k:Nat} (hk:k≤l.length):(put (q4 enc l++sp) (k *sz) zs).take (k *sz)=q4 enc (List.take k l):=by
  have hl:(q4 enc l).length=l.length *sz:=jy hz l
  have hm:k *sz≤l.length *sz:=Nat.mul_le_mul_right sz hk
  rw [wW (o4 _) (by rw [o2,hl]; omega),List.take_append_of_le_length e6]
  exact oh hz _ _
section
open Go.RowKit
variable {P:Program} {ops:Array Oper} {Q:Exit→Act→World→Prop} {ks:List Nat} {Good:World→Prop} {n:Nat} {F:List (Nat × Value)} {w:World} {fuel:Nat} {l:List Nat}
end
theorem f8 {p:Prop}(h:p:=by first | omega | (dsimp only; omega) | (simp only [List.length_nil]; omega) | decide | (simp only [jR,List.length_cons,List.length_nil,List.length_replicate]; omega)):p:=h
theorem i1 {p:Prop}(h:p:=by first | assumption | exact l9 | exact Mk.mh (by assumption) |>.1):p:=h
theorem i9 {p:Prop}(h:p:=by first | assumption | exact yc (by assumption)):p:=h
theorem l2 {p:Prop}(h:p:=by first | assumption | exact BK (by assumption)):p:=h
end Go.Proofs.YtbkagebjhbphaaaGreat
