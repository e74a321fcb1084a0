/-
  What is known of the coordinator: sizes, numbers. Conditions: none beyond each law's own.
-/
import Derived.Test.YtbkagebjhbphaaaGreatRa
import Derived.Test.YtbkagebjhbphaaaGreatStM
import Derived.Test.YtbkagebjhbphaaaGreatGc
import Derived.Test.YtbkagebjhbphaaaGreatOc
import Derived.Test.YtbkagebjhbphaaaGreatKp
namespace Go.Proofs.YtbkagebjhbphaaaGreat
set_option linter.unusedVariables false
set_option linter.unusedSimpArgs false
theorem jg {α β:Type} (x:α) (f:α→β):bnd x f=f x:=rfl
theorem DC {k:List UInt8} (h:gF k=0):List.length k≤12:=by
  unfold gF at h
  repeat' split at h
  all_goals omega
abbrev Fv (q:aL):Prop:=List.length q.bY≤12∧List.length q.aW≤16
abbrev DD (x:aY):Prop:=List.length x.aW≤16∧List.length x.au.ls≤4∧∀ q ∈ x.au.ls,Fv q
abbrev FQ (x:bM):Prop:=x.bi≤18446744073709551615∧x.ax≤18446744073709551615∧x.aU≤18446744073709551615∧List.length x.av.ls≤4
abbrev FR (x:fE):Prop:=x.ax≤18446744073709551615∧x.aU≤18446744073709551615∧List.length x.ah.ls≤24∧∀ q ∈ x.ah.ls,DD q
theorem Ez (l:List bv):∀ (q:List bv) (k:Nat),(lp (iy l q k) fun _=>0)=0→0 < k→∀ x ∈ q,List.length x.bK≤12
  | [],_,_,_,x,hx=>by cases hx
  | y::q,k,h,hk,x,hx=>by
    simp only [iy,jg] at h
    split at h
    · split at h
      · split at h
        · split at h
          · simp only [lp] at h; omega
          · rcases List.mem_cons.1 hx with rfl | hx
            · exact DC f4
            · exact Ez l q _ h e6 x hx
        · simp only [lp] at h; omega
      · omega
    · simp only [lp] at h; omega
theorem FE {l:List bv} (h:kM l=0):List.length l≤6∧∀ x ∈ l,List.length x.bK≤12:=by
  unfold kM at h
  split at h
  · omega
  · split at h
    · omega
    · rw [jg] at h
      split at h
      · omega
      · rename_i a b c
        refine⟨e6, ?_⟩
        match l,h,c with
        | [],_,_=>intro x hx; cases hx
        | y::q,h,c=>
          intro x hx
          simp only [iy,jg] at h
          split at h
          · rw [if_neg e6] at h
            rcases List.mem_cons.1 hx with rfl | hx
            · have c':x.bK= []:=Classical.not_not.1 c
              rw [c']; exact JO _
            · exact Ez _ q _ h e6 x hx
          · simp only [lp] at h; omega
def EA (p:dC):Prop:=p.ax≤18446744073709551615∧p.bf≤18446744073709551615∧p.aK≤18446744073709551615∧(∀ x ∈ p.aj.ls,x.bi≤18446744073709551615∧x.ax≤18446744073709551615∧x.aU≤18446744073709551615)∧∀ x ∈ p.aI.ls,x.ax≤18446744073709551615∧x.aU≤18446744073709551615
theorem DF {n m:Int} (h:iJ n m=true):1≤n∧n≤m:=by
  unfold iJ at h
  split at h
  · exact⟨e6,of_decide_eq_true h⟩
  · cases h
theorem EB (p:dC) (k:Nat) (d:bM):∀ (q:List Int) (j:Nat) (pre:List Int) (v:Int),d.av.ls=pre++q→List.length pre=j→(0 < j→List.getD d.av.ls (j - 1) default=v)→(j=0→v=0)→v≤p.av→
    (dP p k d q j= .inl ()∧v+(List.length q:Nat)≤p.av)∨dP p k d q j= .inr false
  | [],j,pre,v,_,_,_,_,hv=> .inl ⟨rfl,by simpa using hv⟩
  | y::q,j,pre,v,hp,hj,hg,hz,hv=>by
    by_cases e:iJ y p.av=true
    · have a:=DF e
      have ih:=EB p k d q (j+1) (pre++ [y]) y (by rw [hp]; simp) (by simp [hj]) (fun _=>by
        rw [hp, ← hj]
        simp [List.getD,List.getElem?_append]) (fun h=>by omega) a.2
      by_cases z:((j:Nat):Int) > 0
      · by_cases u:y≤List.getD d.av.ls (j - 1) default
        · exact .inr (by simp only [dP,jg,if_pos e,if_pos z,if_pos u])
        · have hu:v < y:=by rw [hg e6] at u; omega
          rcases ih with g | g
          · refine .inl ⟨by simp only [dP,jg,if_pos e,if_pos z,if_neg u]; exact g.1, ?_⟩
            have:=g.2
            simp only [List.length_cons]
            omega
          · exact .inr (by simp only [dP,jg,if_pos e,if_pos z,if_neg u]; exact g)
      · have hu:v=0:=hz e6
        rcases ih with g | g
        · refine .inl ⟨by simp only [dP,jg,if_pos e,if_neg z]; exact g.1, ?_⟩
          have:=g.2
          simp only [List.length_cons]
          omega
        · exact .inr (by simp only [dP,jg,if_pos e,if_neg z]; exact g)
    · exact .inr (by simp only [dP,jg]; rw [if_neg e])
theorem EC (p:dC) (k:Nat) (d:bM):∀ (q:List Int) (j:Nat),gu p k d q j=dP p k d q j
  | [],_=>rfl
  | y::q,j=>by simp only [gu,dP,jg,EC p k d q]
theorem ED (p:dC) (hp:0≤p.av∧p.av≤4) (f:Unit→Bool):∀ (q:List bM) (k:Nat),lp (dL p q k) f=true→∀ x ∈ q,List.length x.av.ls≤4
  | [],_,_,x,hx=>by cases hx
  | y::q,k,h,x,hx=>by
    have key:lp (sI (dP p k y y.av.ls 0) fun _=>dL p q (k+1)) f=true:=by
      simp only [dL,jg,EC] at h
      repeat' split at h
      all_goals first | cases h; done | exact h
    rcases EB p k y y.av.ls 0 [] 0 rfl rfl (fun h=>absurd h e6) (fun _=>rfl) hp.1 with g | g
    · rw [g.1] at key
      rcases List.mem_cons.1 hx with rfl | hx
      · have:=g.2
        omega
      · exact ED p hp f q _ key x hx
    · rw [g] at key
      cases key
theorem EE:∀ l:List aL,(lp (gK l) fun _=>true)=true→∀ x ∈ l,Fv x
  | [],_,x,hx=>by cases hx
  | y::q,h,x,hx=>by
    by_cases e:gF y.bY=0
    · by_cases v:((List.length y.aW:Nat):Int) > 16
      · simp only [gK,jg,if_pos e,if_pos v] at h
        cases h
      · simp only [gK,jg,if_pos e,if_neg v] at h
        rcases List.mem_cons.1 hx with rfl | hx
        · exact⟨DC e,e6⟩
        · exact EE q h x hx
    · simp only [gK,jg,if_neg e] at h
      cases h
theorem FH {r:aY} (h:kv r=true):DD r:=by
  unfold kv at h
  split at h
  · cases h
  · split at h
    · cases h
    · exact⟨e6,e6,EE _ h⟩
theorem EF (k:Nat) (x:fE):∀ (n j:Nat),(fV k x n j= .inl ()∧∀ i,j≤i→i < j+n→DD (List.getD x.ah.ls i default))∨fV k x n j= .inr false
  | 0,j=> .inl ⟨rfl,fun i a b=>by omega⟩
  | n+1,j=>by
    by_cases e:kv (List.getD x.ah.ls j default)=true
    · rcases EF k x n (j+1) with g | g
      · refine .inl ⟨?_,fun i a b=> ?_⟩
        · simp only [fV,jg]
          refine(if_pos ?_).trans g.1
          exact e
        · by_cases z:i=j
          · subst z; exact FH e
          · exact g.2 i e6 e6
      · refine .inr ?_
        simp only [fV,jg]
        refine(if_pos ?_).trans g
        exact e
    · refine .inr ?_
      simp only [fV,jg]
      exact if_neg e
theorem EG (k:Nat) (x:fE):∀ (n j:Nat),jb k x n j=fV k x n j
  | 0,_=>rfl
  | n+1,j=>by simp only [jb,fV,jg,EG k x n]
theorem EH (l:List fE):∀ (q:List fE) (k:Nat),(lp (fJ l q k) fun _=>true)=true→∀ x ∈ q,List.length x.ah.ls≤24∧∀ r ∈ x.ah.ls,DD r
  | [],_,_,x,hx=>by cases hx
  | y::q,k,h,x,hx=>by
    have key:List.length y.ah.ls≤4∧(lp (sI (fV k y (List.length y.ah.ls) 0) fun _=>fJ l q (k+1)) fun _=>true)=true:=by
      simp only [fJ,jg,EG] at h
      repeat' split at h
      all_goals first | cases h; done | exact⟨e6,h⟩
    rcases EF k y (List.length y.ah.ls) 0 with g | g
    · have h':=key.2
      rw [g.1] at h'
      rcases List.mem_cons.1 hx with rfl | hx
      · refine⟨e6,fun r hr=> ?_⟩
        obtain⟨i,hi,he⟩:=List.getElem_of_mem hr
        have:=g.2 i e6 e6
        rw [List.getD,List.getElem?_eq_getElem hi] at this
        simp only [Option.getD_some,he] at this
        exact this
      · exact EH l q _ h' x hx
    · have h':=key.2
      rw [g] at h'
      cases h'
theorem EI {p:dC} (h:jc p=0) (n:EA p):List.length p.ag.ls≤6∧(∀ x ∈ p.ag.ls,List.length x.bK≤12)∧List.length p.aj.ls≤8∧(∀ x ∈ p.aj.ls,FQ x)∧List.length p.aI.ls≤4∧(∀ x ∈ p.aI.ls,FR x)∧p.ax≤18446744073709551615∧p.bf≤18446744073709551615∧p.aK≤18446744073709551615:=by
  unfold jc at h
  rw [jg] at h
  have v:∀ b:Bool,iR b=0→b=true:=by intro b; cases b <;> simp [iR]
  split at h
  · split at h
    · rw [jg] at h
      split at h
      · rw [jg] at h
        split at h
        · rename_i g o c d
          rw [jg,jg] at h
          have m:=v _ h
          have a:=DF g
          have ho:kM p.ag.ls=0:=by
            unfold nV at c
            rw [jg] at c
            split at c
            · assumption
            · cases c
          have ho:=FE ho
          unfold nC at d
          split at d
          · cases d
          · unfold oW at m
            split at m
            · cases m
            · have hd:=ED p ⟨e6,a.2⟩ _ _ _ d
              have hl:=EH _ _ _ m
              obtain⟨i,j,k,e,f⟩:=n
              exact⟨ho.1,ho.2,e6,fun x hx=>⟨(e x hx).1,(e x hx).2.1,(e x hx).2.2,hd x hx⟩,e6,fun x hx=>⟨(f x hx).1,(f x hx).2,hl x hx⟩,i,j,k⟩
        · rw [jg] at h; have:=v _ h; cases this
      · rw [jg] at h; have:=v _ h; cases this
    · rw [jg] at h; have:=v _ h; cases this
  · rw [jg] at h; have:=v _ h; cases this
end Go.Proofs.YtbkagebjhbphaaaGreat
namespace Go.Proofs.YtbkagebjhbphaaaGreat
open List renaming flatMap→q6,getD→C2,getD_eq_getElem?_getD→K3,length→s2,length_append→p5,length_cons→s3,length_nil→G1,length_set→H6,mem_append→v8,mem_cons_of_mem→N1,mem_cons_self→N2,mem_of_getElem?→E0,mem_or_eq_of_mem_set→N0,mem_replicate→N3,mem_singleton→m4,set→u5
open Ll renaming mk→E4
open Nat renaming le_refl→m5,le_trans→K2
set_option linter.unusedVariables false
set_option linter.unusedSimpArgs false
abbrev jZ (n:Nat):Prop:=n≤18446744073709551615
theorem DI {α β γ:Type} (f:α→β→γ) {a a':α} {b b':β} (h:a=a') (k:b=b'):f a b=f a' b':=by subst h; subst k; rfl
def mR (l:List aY):Prop:=s2 l≤1000∧∀ x ∈ l,s2 x.au.ls≤1000
structure Tok (x:dE):Prop where
  num:jZ x.aX
  rZ:jZ x.aF
  qi:jZ x.dh
  yes:s2 x.bE.ls=s2 x.aD.ls
  res:s2 x.ae.ls=s2 x.aD.ls
  len:s2 x.aD.ls≤5
  Aq:1≤x.aQ∧x.aQ≤4
  ops:s2 x.bS.ls≤24∧∀ o ∈ x.bS.ls,o.bU≤1000
  prt:∀ p ∈ x.aD.ls,s2 p.aG.ls≤24024
  Bt:∀ r ∈ x.ae.ls,mR r.ls
def Ak (l:List dE):Prop:=∀ x ∈ l,Tok x
def Dk (l:List bM):Prop:=∀ x ∈ l,jZ x.bi∧jZ x.ax∧jZ x.aU∧s2 x.av.ls≤1000
theorem DJ {l:List bM} (h:Dk l) {i:Nat} {x:bM} (hx:l[i]? =some x):s2 x.av.ls≤1000:=(h x (E0 hx)).2.2.2
structure Mk (p:aB):Prop where
  mO:jZ p.aa.ax
  r9:jZ p.aa.bf
  qi:jZ p.aa.aK
  uw:jZ p.bI
  dec:Dk p.aa.aj.ls
  o6:∀ x ∈ p.aa.aI.ls,jZ x.ax∧jZ x.aU∧mR x.ah.ls
  act:Ak p.ak.ls
  l8:mR p.aR.ae.ls∧jZ p.aR.aF
  lq:mR p.aN.ae.ls∧jZ p.aN.aF
  mq:mR p.aO.ae.ls∧jZ p.aO.aF
  mo:mR p.aP.ae.ls∧jZ p.aP.aF
  mr:mR p.aM.ae.ls∧jZ p.aM.aF
theorem Bc {p:aB} (h:Mk p):s2 p.aR.ae.ls≤1000∧s2 p.aN.ae.ls≤1000∧s2 p.aO.ae.ls≤1000∧s2 p.aP.ae.ls≤1000∧s2 p.aM.ae.ls≤1000:=⟨h.l8.1.1,h.lq.1.1,h.mq.1.1,h.mo.1.1,h.mr.1.1⟩
theorem mD:mR []:=⟨JO _,fun x h=>by cases h⟩
theorem dG {l:List aY} (h:mR l):∀ x ∈ l,s2 x.au.ls≤1000000:=fun x hx=>K2 (h.2 x hx) f3
theorem DY {p:aB} (h:Mk p) {i:Nat} {x:fE} (hx:p.aa.aI.ls[i]? =some x):mR x.ah.ls:=(h.o6 x (E0 hx)).2.2
theorem xM {l:List dE} (h:Ak l) {i:Nat} {x:dE} (hx:l[i]? =some x):Tok x:=h x (E0 hx)
theorem mI {l:List dE} (h:Ak l) {i:Nat} {y:dE} (hy:Tok y):Ak (u5 l i y):=fun x hx=>by
  rcases N0 hx with a | rfl
  · exact h x a
  · exact hy
theorem nZ {x:dE} (h:Tok x) {i j:Nat} {r:List aY} (hr:mR r):Tok (dE.mk x.aX x.aQ x.aF x.dh x.bS x.aD (E4 (u5 x.bE.ls i true)) (E4 (u5 x.ae.ls j (E4 r))) x.dO):=
  ⟨h.num,h.rZ,h.qi,H6.trans h.yes,H6.trans h.res,h.len,h.Aq,h.ops,h.prt,fun q hq=>by
    rcases N0 hq with a | rfl
    · exact h.Bt q a
    · exact hr⟩
theorem p9 {x:dE} (h:Tok x) (a:Int):Tok (dE.mk x.aX x.aQ x.aF x.dh x.bS x.aD x.bE x.ae a):=⟨h.num,h.rZ,h.qi,h.yes,h.res,h.len,h.Aq,h.ops,h.prt,h.Bt⟩
theorem ul {p:aB} (h:Mk p):EA p.aa:=⟨h.mO,h.r9,h.qi,fun x hx=>⟨(h.dec x hx).1,(h.dec x hx).2.1,(h.dec x hx).2.2.1⟩,fun x hx=>⟨(h.o6 x hx).1,(h.o6 x hx).2.1⟩⟩
theorem Fe {l:List aY} (h:∀ x ∈ l,s2 x.au.ls≤1000):tot l≤s2 l *1001:=by
  induction l with
  | nil=>exact JO _
  | cons x l ih=>have a:=ih fun y hy=>h y (N1 _ hy); have b:=h x N2; simp only [tot,s3]; omega
theorem FI {l:List (Ll aY)} (h:∀ r ∈ l,mR r.ls):tt l≤s2 l *1001000:=by
  induction l with
  | nil=>exact JO _
  | cons x l ih=>
    have b:=ih fun y hy=>h y (N1 _ hy)
    have a:=h x N2
    have c:=Fe a.2
    have d:=a.1
    simp only [tt,s3]; omega
theorem EJ {x:dE} (h:Tok x):tt x.ae.ls≤100000000:=by
  have a:=FI h.Bt
  have b:=h.res
  have c:=h.len
  omega
theorem yA {l0:List bv} {l1:List bC}:∀ (q:Nat) (l:List gq) (k:Nat),s2 (iY l0 l1 q l k)≤s2 l+q
  | 0,l,k=>m5 _
  | q+1,l,k=>by
    simp only [iY,bnd]
    split
    · refine K2 (yA q _ _) ?_
      rw [p5,List.length_singleton]; omega
    · exact K2 (yA q _ _) e6
theorem Be {l0:List bv} {l1:List bC} {r:List gq} {e:Int} (h:lQ l0 l1=(r,e)):s2 r≤5:=by
  unfold lQ at h
  simp only [bnd] at h
  split at h
  · split at h
    · obtain⟨rfl,_⟩:=Prod.mk.inj h
      have:=yA (l0:=l0) (l1:=l1) 5 [] 0
      simpa using this
    · obtain⟨rfl,_⟩:=Prod.mk.inj h
      exact JO _
  · obtain⟨rfl,_⟩:=Prod.mk.inj h
    exact JO _
theorem zg (l0:List bv) (a:Int) (b:bC):∀ (q:List bv) (l:List bC) (k:Nat),s2 (gy l0 a b q l k)≤s2 l+s2 q
  | [],l,k=>m5 _
  | x::q,l,k=>by
    simp only [gy,bnd]
    split
    · split
      · refine K2 (zg l0 a b q _ _) ?_
        simp only [p5,s3,G1]; omega
      · refine K2 (zg l0 a b q _ _) ?_
        simp only [s3]; omega
    · refine K2 (zg l0 a b q _ _) ?_
      simp only [s3]; omega
theorem zh (l0:List bv) (a:Int) (b:bC):∀ (q:List bv) (l:List bC) (k:Nat),s2 (gz l0 a b q l k)≤s2 l+s2 q
  | [],l,k=>m5 _
  | x::q,l,k=>by
    simp only [gz,bnd]
    split
    · split
      · refine K2 (zh l0 a b q _ _) ?_
        simp only [p5,s3,G1]; omega
      · refine K2 (zh l0 a b q _ _) ?_
        simp only [s3]; omega
    · refine K2 (zh l0 a b q _ _) ?_
      simp only [s3]; omega
theorem EK (l0:List bv) (a:Int) (b:bC):s2 (pM l0 a b)≤s2 l0+1:=by
  unfold pM
  simp only [bnd]
  split
  · have:=zg l0 a b l0 [] 0; simp only [G1] at this; omega
  · split
    · have:=zh l0 a b l0 [] 0; simp only [G1] at this; omega
    · split
      · simp only [s3,G1]; omega
      · exact JO _
theorem Bf (l0:List bv) (b:List gq) (a:Nat):∀ (q:List bC) (k:Nat) (l:List bC) (m:List Int),s2 (kz l0 b a q k l m).1≤s2 l+s2 q *(s2 l0+1)
  | [],k,l,m=>Nat.le_add_right _ _
  | x::q,k,l,m=>by
    simp only [kz,bnd]
    refine K2 (Bf l0 b a q _ _ _) ?_
    have c:=EK l0 ((a:Nat):Int) x
    rw [p5,s3,Nat.succ_mul]; omega
theorem yB {l0:List bv} {l1:List bC}:∀ (q:Nat) (l:List gq) (k:Nat),(∀ x ∈ l,s2 x.aG.ls≤s2 l1 *(s2 l0+1))→∀ x ∈ iY l0 l1 q l k,s2 x.aG.ls≤s2 l1 *(s2 l0+1)
  | 0,l,k,h=>h
  | q+1,l,k,h=>by
    simp only [iY,bnd]
    split
    · refine yB q _ _ fun x hx=> ?_
      rcases v8.1 hx with a | a
      · exact h x a
      · rw [m4.1 a]
        have:=Bf l0 l k l1 0 [] []
        simpa using this
    · exact yB q _ _ h
theorem Bg {l0:List bv} {l1:List bC} {r:List gq} {e:Int} (h:lQ l0 l1=(r,e)) (a:s2 l0≤1000) (b:s2 l1≤24):∀ x ∈ r,s2 x.aG.ls≤24024:=by
  have hb:s2 l1 *(s2 l0+1)≤24024:=K2 (Nat.mul_le_mul b (Nat.succ_le_succ a)) f3
  unfold lQ at h
  simp only [bnd] at h
  split at h
  · split at h
    · obtain⟨rfl,_⟩:=Prod.mk.inj h
      exact fun x hx=>K2 (yB (l0:=l0) (l1:=l1) 5 [] 0 (fun y hy=>by cases hy) x hx) hb
    · obtain⟨rfl,_⟩:=Prod.mk.inj h
      intro x hx; cases hx
  · obtain⟨rfl,_⟩:=Prod.mk.inj h
    intro x hx; cases hx
def Pk (l:List aY):Prop:=∀ x ∈ l,s2 x.au.ls≤1000
theorem zY {l:List (Ll aY)} (h:∀ r ∈ l,Pk r.ls) (i:Nat):Pk (C2 l i default).ls:=by
  rw [K3]
  cases e:l[i]? with
  | none=>intro x hx; cases hx
  | some r=>exact h r (E0 e)
theorem Bh {l:List aY} (h:Pk l) (i:Nat):s2 (C2 l i default).au.ls≤1000:=by
  rw [K3]
  cases e:l[i]? with
  | none=>exact JO _
  | some r=>exact h r (E0 e)
theorem EL {c:List (Ll aY)} (d:∀ r ∈ c,Pk r.ls) (k:Nat):∀ (q:List Int) (j:Nat) (l:List (Ll aY)),(∀ r ∈ l,Pk r.ls)→∀ r ∈ kJ c k q j l,Pk r.ls
  | [],_,l,h=>h
  | a::q,j,l,h=>EL d k q (j+1) _ fun r hr=>by
    rcases N0 hr with b | rfl
    · exact h r b
    · intro x hx
      rcases v8.1 hx with b | b
      · exact zY h _ x b
      · rw [m4.1 b]; exact Bh (zY d _) _
theorem EM {l0:List bC} {b:List (Ll aY)} (c:∀ r ∈ b,Pk r.ls):∀ (q:List gq) (k:Nat) (l:List (Ll aY)),(∀ r ∈ l,Pk r.ls)→∀ r ∈ j4 l0 b q k l,Pk r.ls
  | [],_,l,h=>h
  | a::q,k,l,h=>EM c q (k+1) _ (EL c k _ 0 l h)
theorem FJ {p:bC} (hp:p.bU≤1000) {l:List aY} (h:Pk l):s2 (kT p l).au.ls≤1000:=by
  unfold kT
  simp only [bnd]
  split
  · simp only [List.length_take]; omega
  · split
    · exact JO _
    · exact Bh h 0
theorem EN {l:List (Ll aY)} (h:∀ r ∈ l,Pk r.ls):∀ (q:List bC) (k:Nat) (r:List aY),(∀ o ∈ q,o.bU≤1000)→Pk r→Pk (j5 l q k r)∧s2 (j5 l q k r)=s2 r
  | [],_,r,_,hr=>⟨hr,rfl⟩
  | a::q,k,r,ho,hr=>by
    have b:=EN h q (k+1) (u5 r k (aY.mk (kT a (C2 l k default).ls).dZ (kT a (C2 l k default).ls).aW (E4 (kT a (C2 l k default).ls).au.ls))) (fun o h=>ho o (N1 _ h)) (fun x hx=>by
      rcases N0 hx with b | rfl
      · exact hr x b
      · exact FJ (ho a N2) (zY h _))
    exact⟨b.1,b.2.trans H6⟩
theorem xO {l0:List bC} {l1:List gq} {a:List (Ll aY)} {r:List aY} {e:Int} (h:mH l0 l1 a=(r,e)) (hl:s2 l0≤24) (ho:∀ o ∈ l0,o.bU≤1000) (c:∀ q ∈ a,mR q.ls):mR r:=by
  unfold mH at h
  simp only [bnd] at h
  split at h
  · obtain⟨rfl,_⟩:=Prod.mk.inj h
    have b:=EN (l:=j4 l0 a l1 0 (List.replicate (s2 l0) (E4 []:Ll aY))) (EM (l0:=l0) (fun q hq=>(c q hq).2) l1 0 _ fun q hq=>by rw [(N3.1 hq).2]; intro x hx; cases hx) l0 0 (List.replicate (s2 l0) (aY.mk false ([]) (E4 ([])))) ho (fun x hx=>by rw [(N3.1 hx).2]; exact JO _)
    refine⟨?_,b.1⟩
    rw [b.2,List.length_replicate]; omega
  · obtain⟨rfl,_⟩:=Prod.mk.inj h
    exact mD
theorem De {α:Type} {enc:α→List Value} {sz:Nat} (hz:∀ x,(enc x).length=sz) {l:List α} {sp zs:List Value} {k:Nat} (hk:k≤l.length):(put (q6 enc l++sp) (k *sz) zs).take (k *sz)=q6 enc (List.take k l):=by
  have hl:(q6 enc l).length=l.length *sz:=jD hz l
  have hm:k *sz≤l.length *sz:=Nat.mul_le_mul_right sz hk
  rw [wM (m5 _) (by rw [p5,hl]; omega),List.take_append_of_le_length e6]
  exact nQ hz _ _
section
open Go.RowKit
variable {P:Program} {ops:Array Oper} {Q:Exit→Act→World→Prop} {ks:List Nat} {Good:World→Prop} {n:Nat} {F:List (Nat × Value)} {w:World} {fuel:Nat} {l:List Nat}
end
theorem f9 {p:Prop}(h:p:=by first | omega | (dsimp only; omega) | (simp only [List.length_nil]; omega) | decide | (simp only [jZ,List.length_cons,List.length_nil,List.length_replicate]; omega)):p:=h
theorem i2 {p:Prop}(h:p:=by first | assumption | exact mD | exact Mk.lq (by assumption) |>.1):p:=h
theorem i4 {p:Prop}(h:p:=by first | assumption | exact ul (by assumption)):p:=h
theorem j9 {p:Prop}(h:p:=by first | assumption | exact Bc (by assumption)):p:=h
end Go.Proofs.YtbkagebjhbphaaaGreat
