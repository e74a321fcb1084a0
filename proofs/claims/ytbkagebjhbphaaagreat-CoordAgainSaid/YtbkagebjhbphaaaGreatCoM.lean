/-
  What is known of the coordinator: sizes, numbers. Conditions: none beyond each law's own.
-/
import Derived.Test.YtbkagebjhbphaaaGreatStM
import Derived.Test.YtbkagebjhbphaaaGreatGc
import Derived.Test.YtbkagebjhbphaaaGreatOc
import Derived.Test.YtbkagebjhbphaaaGreatCoA
import Derived.Test.YtbkagebjhbphaaaGreatKp
namespace Go.Proofs.YtbkagebjhbphaaaGreat
open List renaming flatMap→q6,getD→C2,getD_eq_getElem?_getD→K1,length→s2,length_append→p5,length_cons→s3,length_nil→G0,length_set→H5,mem_append→v8,mem_cons_of_mem→N0,mem_cons_self→N1,mem_of_getElem?→E0,mem_or_eq_of_mem_set→M9,mem_replicate→N2,mem_singleton→m4,set→u5
open Ll renaming mk→E4
open Nat renaming le_refl→m5,le_trans→K2
set_option linter.unusedVariables false
set_option linter.unusedSimpArgs false
abbrev mK (g:Nat) (m:aB) (a:Option Addr) (b c:Nat) (d:Option Addr) (e:Nat) (f:Option Addr) (h:Nat) (i:Option Addr) (j:Nat) (k:Option Addr) (o:Nat) (p:Option Addr) (q:Nat) (r:Option Addr) (s:Nat) (t:Option Addr) (u:Nat) (v:Option Addr) (x:Nat):HP:=blk g [vI m.aa.av,vU m.aa.ay,vU m.aa.aX,vU m.aa.aL, .slice a b c, .slice d m.aa.ak.ls.length e, .slice f m.aa.aJ.ls.length h,vU m.bP, .slice i m.au.ls.length j, .bool m.bH.cB,vU m.bH.aM,vI m.bH.dw, .slice k m.bH.af.ls.length o, .bool m.bf.cB,vU m.bf.aM,vI m.bf.dw, .slice p m.bf.af.ls.length q, .bool m.bi.cB,vU m.bi.aM,vI m.bi.dw, .slice r m.bi.af.ls.length s, .bool m.bn.cB,vU m.bn.aM,vI m.bn.dw, .slice t m.bn.af.ls.length u, .bool m.aZ.cB,vU m.aZ.aM,vI m.aZ.dw, .slice v m.aZ.af.ls.length x,vU m.dI,vU m.dz,vU m.dB,vU m.dA,vU m.dC, .pointer none] 86
abbrev mX (g:Nat) (m:aB) (D:Option Addr) (E G:Nat) (a:Option Addr) (b:Nat) (c:List aA) (d:Option Addr) (e:Nat) (f:List aT) (h:Option Addr) (i:Nat) (j:List bz) (k:Option Addr) (o:Nat) (p:List ae) (q:Option Addr) (r:Nat) (s:List ae) (t:Option Addr) (u:Nat) (v:List ae) (x:Option Addr) (y:Nat) (z:List ae) (A:Option Addr) (B:Nat) (C:List ae) (l:List HP):List HP:=mK g m D E G a b d e h i k o q r t u x y A B::row a m.aa.ak.ls.length b (q6 aA.cells c) 60 5::sepL (q6 aA.own c)::row d m.aa.aJ.ls.length e (q6 aT.cells f) 56 4::sepL (q6 aT.own f)::row h m.au.ls.length i (q6 bz.cells j) 107 9::sepL (q6 bz.own j)::row k m.bH.af.ls.length o (q6 ae.cells p) 149 3::sepL (q6 ae.own p)::row q m.bf.af.ls.length r (q6 ae.cells s) 149 3::sepL (q6 ae.own s)::row t m.bi.af.ls.length u (q6 ae.cells v) 149 3::sepL (q6 ae.own v)::row x m.bn.af.ls.length y (q6 ae.cells z) 149 3::sepL (q6 ae.own z)::row A m.aZ.af.ls.length B (q6 ae.cells C) 149 3::sepL (q6 ae.own C)::l
abbrev jZ (n:Nat):Prop:=n≤18446744073709551615
theorem DK {α β γ:Type} (f:α→β→γ) {a a':α} {b b':β} (h:a=a') (k:b=b'):f a b=f a' b':=by subst h; subst k; rfl
def mU (l:List aS):Prop:=s2 l≤1000∧∀ x ∈ l,s2 x.aj.ls≤1000
structure Tok (x:dD):Prop where
  num:jZ x.aR
  si:jZ x.aM
  qm:jZ x.cz
  yes:s2 x.bB.ls=s2 x.aD.ls
  res:s2 x.af.ls=s2 x.aD.ls
  len:s2 x.aD.ls≤5
  Av:1≤x.aK∧x.aK≤4
  ops:s2 x.bO.ls≤24∧∀ o ∈ x.bO.ls,o.bS≤1000
  prt:∀ p ∈ x.aD.ls,s2 p.aF.ls≤24024
  Bv:∀ r ∈ x.af.ls,mU r.ls
def Ak (l:List dD):Prop:=∀ x ∈ l,Tok x
def Dk (l:List bJ):Prop:=∀ x ∈ l,jZ x.aU∧jZ x.ay∧jZ x.aO∧s2 x.av.ls≤1000
theorem DL {l:List bJ} (h:Dk l) {i:Nat} {x:bJ} (hx:l[i]? =some x):s2 x.av.ls≤1000:=(h x (E0 hx)).2.2.2
structure Mk (p:aB):Prop where
  mP:jZ p.aa.ay
  sj:jZ p.aa.aX
  qm:jZ p.aa.aL
  uz:jZ p.bP
  dec:Dk p.aa.ak.ls
  o8:∀ x ∈ p.aa.aJ.ls,jZ x.ay∧jZ x.aO∧mU x.ah.ls
  act:Ak p.au.ls
  l8:mU p.bH.af.ls∧jZ p.bH.aM
  lq:mU p.bf.af.ls∧jZ p.bf.aM
  mo:mU p.bi.af.ls∧jZ p.bi.aM
  mr:mU p.bn.af.ls∧jZ p.bn.aM
  mq:mU p.aZ.af.ls∧jZ p.aZ.aM
theorem Bf {p:aB} (h:Mk p):s2 p.bH.af.ls≤1000∧s2 p.bf.af.ls≤1000∧s2 p.bi.af.ls≤1000∧s2 p.bn.af.ls≤1000∧s2 p.aZ.af.ls≤1000:=⟨h.l8.1.1,h.lq.1.1,h.mo.1.1,h.mr.1.1,h.mq.1.1⟩
theorem mD:mU []:=⟨JQ _,fun x h=>by cases h⟩
theorem dE {l:List aS} (h:mU l):∀ x ∈ l,s2 x.aj.ls≤1000000:=fun x hx=>K2 (h.2 x hx) f3
theorem D5 {p:aB} (h:Mk p) {i:Nat} {x:fE} (hx:p.aa.aJ.ls[i]? =some x):mU x.ah.ls:=(h.o8 x (E0 hx)).2.2
theorem xP {l:List dD} (h:Ak l) {i:Nat} {x:dD} (hx:l[i]? =some x):Tok x:=h x (E0 hx)
theorem mI {l:List dD} (h:Ak l) {i:Nat} {y:dD} (hy:Tok y):Ak (u5 l i y):=fun x hx=>by
  rcases M9 hx with a | rfl
  · exact h x a
  · exact hy
theorem oh {x:dD} (h:Tok x) {i j:Nat} {r:List aS} (hr:mU r):Tok (dD.mk x.aR x.aK x.aM x.cz x.bO x.aD (E4 (u5 x.bB.ls i true)) (E4 (u5 x.af.ls j (E4 r))) x.dO):=
  ⟨h.num,h.si,h.qm,H5.trans h.yes,H5.trans h.res,h.len,h.Av,h.ops,h.prt,fun q hq=>by
    rcases M9 hq with a | rfl
    · exact h.Bv q a
    · exact hr⟩
theorem qf {x:dD} (h:Tok x) (a:Int):Tok (dD.mk x.aR x.aK x.aM x.cz x.bO x.aD x.bB x.af a):=⟨h.num,h.si,h.qm,h.yes,h.res,h.len,h.Av,h.ops,h.prt,h.Bv⟩
theorem uo {p:aB} (h:Mk p):EC p.aa:=⟨h.mP,h.sj,h.qm,fun x hx=>⟨(h.dec x hx).1,(h.dec x hx).2.1,(h.dec x hx).2.2.1⟩,fun x hx=>⟨(h.o8 x hx).1,(h.o8 x hx).2.1⟩⟩
theorem Fg {l:List aS} (h:∀ x ∈ l,s2 x.aj.ls≤1000):tot l≤s2 l *1001:=by
  induction l with
  | nil=>exact JQ _
  | cons x l ih=>have a:=ih fun y hy=>h y (N0 _ hy); have b:=h x N1; simp only [tot,s3]; omega
theorem FK {l:List (Ll aS)} (h:∀ r ∈ l,mU r.ls):tt l≤s2 l *1001000:=by
  induction l with
  | nil=>exact JQ _
  | cons x l ih=>
    have b:=ih fun y hy=>h y (N0 _ hy)
    have a:=h x N1
    have c:=Fg a.2
    have d:=a.1
    simp only [tt,s3]; omega
theorem EL {x:dD} (h:Tok x):tt x.af.ls≤100000000:=by
  have a:=FK h.Bv
  have b:=h.res
  have c:=h.len
  omega
theorem yC {l0:List aW} {l1:List bv}:∀ (q:Nat) (l:List gq) (k:Nat),s2 (iY l0 l1 q l k)≤s2 l+q
  | 0,l,k=>m5 _
  | q+1,l,k=>by
    simp only [iY,bnd]
    split
    · refine K2 (yC q _ _) ?_
      rw [p5,List.length_singleton]; omega
    · exact K2 (yC q _ _) e6
theorem Bg {l0:List aW} {l1:List bv} {r:List gq} {e:Int} (h:lQ l0 l1=(r,e)):s2 r≤5:=by
  unfold lQ at h
  simp only [bnd] at h
  split at h
  · split at h
    · obtain⟨rfl,_⟩:=Prod.mk.inj h
      have:=yC (l0:=l0) (l1:=l1) 5 [] 0
      simpa using this
    · obtain⟨rfl,_⟩:=Prod.mk.inj h
      exact JQ _
  · obtain⟨rfl,_⟩:=Prod.mk.inj h
    exact JQ _
theorem zi (l0:List aW) (a:Int) (b:bv):∀ (q:List aW) (l:List bv) (k:Nat),s2 (gy l0 a b q l k)≤s2 l+s2 q
  | [],l,k=>m5 _
  | x::q,l,k=>by
    simp only [gy,bnd]
    split
    · split
      · refine K2 (zi l0 a b q _ _) ?_
        simp only [p5,s3,G0]; omega
      · refine K2 (zi l0 a b q _ _) ?_
        simp only [s3]; omega
    · refine K2 (zi l0 a b q _ _) ?_
      simp only [s3]; omega
theorem zk (l0:List aW) (a:Int) (b:bv):∀ (q:List aW) (l:List bv) (k:Nat),s2 (gz l0 a b q l k)≤s2 l+s2 q
  | [],l,k=>m5 _
  | x::q,l,k=>by
    simp only [gz,bnd]
    split
    · split
      · refine K2 (zk l0 a b q _ _) ?_
        simp only [p5,s3,G0]; omega
      · refine K2 (zk l0 a b q _ _) ?_
        simp only [s3]; omega
    · refine K2 (zk l0 a b q _ _) ?_
      simp only [s3]; omega
theorem EM (l0:List aW) (a:Int) (b:bv):s2 (pQ l0 a b)≤s2 l0+1:=by
  unfold pQ
  simp only [bnd]
  split
  · have:=zi l0 a b l0 [] 0; simp only [G0] at this; omega
  · split
    · have:=zk l0 a b l0 [] 0; simp only [G0] at this; omega
    · split
      · simp only [s3,G0]; omega
      · exact JQ _
theorem Bh (l0:List aW) (b:List gq) (a:Nat):∀ (q:List bv) (k:Nat) (l:List bv) (m:List Int),s2 (kz l0 b a q k l m).1≤s2 l+s2 q *(s2 l0+1)
  | [],k,l,m=>Nat.le_add_right _ _
  | x::q,k,l,m=>by
    simp only [kz,bnd]
    refine K2 (Bh l0 b a q _ _ _) ?_
    have c:=EM l0 ((a:Nat):Int) x
    rw [p5,s3,Nat.succ_mul]; omega
theorem yD {l0:List aW} {l1:List bv}:∀ (q:Nat) (l:List gq) (k:Nat),(∀ x ∈ l,s2 x.aF.ls≤s2 l1 *(s2 l0+1))→∀ x ∈ iY l0 l1 q l k,s2 x.aF.ls≤s2 l1 *(s2 l0+1)
  | 0,l,k,h=>h
  | q+1,l,k,h=>by
    simp only [iY,bnd]
    split
    · refine yD q _ _ fun x hx=> ?_
      rcases v8.1 hx with a | a
      · exact h x a
      · rw [m4.1 a]
        have:=Bh l0 l k l1 0 [] []
        simpa using this
    · exact yD q _ _ h
theorem Bi {l0:List aW} {l1:List bv} {r:List gq} {e:Int} (h:lQ l0 l1=(r,e)) (a:s2 l0≤1000) (b:s2 l1≤24):∀ x ∈ r,s2 x.aF.ls≤24024:=by
  have hb:s2 l1 *(s2 l0+1)≤24024:=K2 (Nat.mul_le_mul b (Nat.succ_le_succ a)) f3
  unfold lQ at h
  simp only [bnd] at h
  split at h
  · split at h
    · obtain⟨rfl,_⟩:=Prod.mk.inj h
      exact fun x hx=>K2 (yD (l0:=l0) (l1:=l1) 5 [] 0 (fun y hy=>by cases hy) x hx) hb
    · obtain⟨rfl,_⟩:=Prod.mk.inj h
      intro x hx; cases hx
  · obtain⟨rfl,_⟩:=Prod.mk.inj h
    intro x hx; cases hx
def Pk (l:List aS):Prop:=∀ x ∈ l,s2 x.aj.ls≤1000
theorem Aa {l:List (Ll aS)} (h:∀ r ∈ l,Pk r.ls) (i:Nat):Pk (C2 l i default).ls:=by
  rw [K1]
  cases e:l[i]? with
  | none=>intro x hx; cases hx
  | some r=>exact h r (E0 e)
theorem Bj {l:List aS} (h:Pk l) (i:Nat):s2 (C2 l i default).aj.ls≤1000:=by
  rw [K1]
  cases e:l[i]? with
  | none=>exact JQ _
  | some r=>exact h r (E0 e)
theorem EN {c:List (Ll aS)} (d:∀ r ∈ c,Pk r.ls) (k:Nat):∀ (q:List Int) (j:Nat) (l:List (Ll aS)),(∀ r ∈ l,Pk r.ls)→∀ r ∈ kJ c k q j l,Pk r.ls
  | [],_,l,h=>h
  | a::q,j,l,h=>EN d k q (j+1) _ fun r hr=>by
    rcases M9 hr with b | rfl
    · exact h r b
    · intro x hx
      rcases v8.1 hx with b | b
      · exact Aa h _ x b
      · rw [m4.1 b]; exact Bj (Aa d _) _
theorem EO {l0:List bv} {b:List (Ll aS)} (c:∀ r ∈ b,Pk r.ls):∀ (q:List gq) (k:Nat) (l:List (Ll aS)),(∀ r ∈ l,Pk r.ls)→∀ r ∈ j4 l0 b q k l,Pk r.ls
  | [],_,l,h=>h
  | a::q,k,l,h=>EO c q (k+1) _ (EN c k _ 0 l h)
theorem FL {p:bv} (hp:p.bS≤1000) {l:List aS} (h:Pk l):s2 (kT p l).aj.ls≤1000:=by
  unfold kT
  simp only [bnd]
  split
  · simp only [List.length_take]; omega
  · split
    · exact JQ _
    · exact Bj h 0
theorem EP {l:List (Ll aS)} (h:∀ r ∈ l,Pk r.ls):∀ (q:List bv) (k:Nat) (r:List aS),(∀ o ∈ q,o.bS≤1000)→Pk r→Pk (j5 l q k r)∧s2 (j5 l q k r)=s2 r
  | [],_,r,_,hr=>⟨hr,rfl⟩
  | a::q,k,r,ho,hr=>by
    have b:=EP h q (k+1) (u5 r k (aS.mk (kT a (C2 l k default).ls).dZ (kT a (C2 l k default).ls).aQ (E4 (kT a (C2 l k default).ls).aj.ls))) (fun o h=>ho o (N0 _ h)) (fun x hx=>by
      rcases M9 hx with b | rfl
      · exact hr x b
      · exact FL (ho a N1) (Aa h _))
    exact⟨b.1,b.2.trans H5⟩
theorem xQ {l0:List bv} {l1:List gq} {a:List (Ll aS)} {r:List aS} {e:Int} (h:mH l0 l1 a=(r,e)) (hl:s2 l0≤24) (ho:∀ o ∈ l0,o.bS≤1000) (c:∀ q ∈ a,mU q.ls):mU r:=by
  unfold mH at h
  simp only [bnd] at h
  split at h
  · obtain⟨rfl,_⟩:=Prod.mk.inj h
    have b:=EP (l:=j4 l0 a l1 0 (List.replicate (s2 l0) (E4 []:Ll aS))) (EO (l0:=l0) (fun q hq=>(c q hq).2) l1 0 _ fun q hq=>by rw [(N2.1 hq).2]; intro x hx; cases hx) l0 0 (List.replicate (s2 l0) (aS.mk false ([]) (E4 ([])))) ho (fun x hx=>by rw [(N2.1 hx).2]; exact JQ _)
    refine⟨?_,b.1⟩
    rw [b.2,List.length_replicate]; omega
  · obtain⟨rfl,_⟩:=Prod.mk.inj h
    exact mD
theorem Dh {α:Type} {enc:α→List Value} {sz:Nat} (hz:∀ x,(enc x).length=sz) {l:List α} {sp zs:List Value} {k:Nat} (hk:k≤l.length):(put (q6 enc l++sp) (k *sz) zs).take (k *sz)=q6 enc (List.take k l):=by
  have hl:(q6 enc l).length=l.length *sz:=jD hz l
  have hm:k *sz≤l.length *sz:=Nat.mul_le_mul_right sz hk
  rw [wO (m5 _) (by rw [p5,hl]; omega),List.take_append_of_le_length e6]
  exact nS hz _ _
section
open Go.RowKit
variable {P:Program} {ops:Array Oper} {Q:Exit→Act→World→Prop} {ks:List Nat} {Good:World→Prop} {n:Nat} {F:List (Nat × Value)} {w:World} {fuel:Nat} {l:List Nat}
end
theorem f9 {p:Prop}(h:p:=by first | omega | (dsimp only; omega) | (simp only [List.length_nil]; omega) | decide | (simp only [jZ,List.length_cons,List.length_nil,List.length_replicate]; omega)):p:=h
theorem i2 {p:Prop}(h:p:=by first | assumption | exact mD | exact Mk.lq (by assumption) |>.1):p:=h
theorem i4 {p:Prop}(h:p:=by first | assumption | exact uo (by assumption)):p:=h
theorem j9 {p:Prop}(h:p:=by first | assumption | exact Bf (by assumption)):p:=h
end Go.Proofs.YtbkagebjhbphaaaGreat
