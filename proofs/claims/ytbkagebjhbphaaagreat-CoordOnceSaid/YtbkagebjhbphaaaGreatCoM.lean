/-
  What is known of the coordinator: sizes, numbers. Conditions: none beyond each law's own.
-/
import Derived.Test.YtbkagebjhbphaaaGreatRa
import Derived.Test.YtbkagebjhbphaaaGreatStM
import Derived.Test.YtbkagebjhbphaaaGreatGc
import Derived.Test.YtbkagebjhbphaaaGreatOc
import Derived.Test.YtbkagebjhbphaaaGreatKp
namespace Go.Proofs.YtbkagebjhbphaaaGreat
set_option linter.unusedVariables false
set_option linter.unusedSimpArgs false
theorem ig {α β:Type} (x:α) (f:α→β):bnd x f=f x:=rfl
theorem Ez {k:List UInt8} (h:ib k=0):List.length k≤12:=by
  unfold ib at h
  repeat' split at h
  all_goals omega
abbrev GV (q:aI):Prop:=List.length q.bY≤12∧List.length q.aT≤16
abbrev EA (x:aQ):Prop:=List.length x.aT≤16∧List.length x.ak.ls≤4∧∀ q ∈ x.ak.ls,GV q
abbrev Ht (x:bH):Prop:=x.aN≤18446744073709551615∧x.av≤18446744073709551615∧x.aP≤18446744073709551615∧List.length x.au.ls≤4
abbrev Hu (x:eD):Prop:=x.av≤18446744073709551615∧x.aP≤18446744073709551615∧List.length x.ai.ls≤24∧∀ q ∈ x.ai.ls,EA q
theorem FQ (l:List aY):∀ (q:List aY) (k:Nat),(lp (iT l q k) fun _=>0)=0→0 < k→∀ x ∈ q,List.length x.bF≤12
  | [],_,_,_,x,hx=>by cases hx
  | y::q,k,h,hk,x,hx=>by
    simp only [iT,ig] at h
    split at h
    · split at h
      · split at h
        · split at h
          · simp only [lp] at h; omega
          · rcases List.mem_cons.1 hx with rfl | hx
            · exact Ez f5
            · exact FQ l q _ h e6 x hx
        · simp only [lp] at h; omega
      · omega
    · simp only [lp] at h; omega
theorem Ha {l:List aY} (h:kR l=0):List.length l≤6∧∀ x ∈ l,List.length x.bF≤12:=by
  unfold kR at h
  split at h
  · omega
  · split at h
    · omega
    · rw [ig] at h
      split at h
      · omega
      · rename_i a b c
        refine⟨e6, ?_⟩
        match l,h,c with
        | [],_,_=>intro x hx; cases hx
        | y::q,h,c=>
          intro x hx
          simp only [iT,ig] at h
          split at h
          · rw [if_neg e6] at h
            rcases List.mem_cons.1 hx with rfl | hx
            · have c':x.bF= []:=Classical.not_not.1 c
              rw [c']; exact Lg _
            · exact FQ _ q _ h e6 x hx
          · simp only [lp] at h; omega
def FR (p:cZ):Prop:=p.av≤18446744073709551615∧p.aV≤18446744073709551615∧p.aL≤18446744073709551615∧(∀ x ∈ p.aj.ls,x.aN≤18446744073709551615∧x.av≤18446744073709551615∧x.aP≤18446744073709551615)∧∀ x ∈ p.aF.ls,x.av≤18446744073709551615∧x.aP≤18446744073709551615
theorem EB {n m:Int} (h:gV n m=true):1≤n∧n≤m:=by
  unfold gV at h
  split at h
  · exact⟨e6,of_decide_eq_true h⟩
  · cases h
theorem FT (p:cZ) (k:Nat) (d:bH):∀ (q:List Int) (j:Nat) (pre:List Int) (v:Int),d.au.ls=pre++q→List.length pre=j→(0 < j→List.getD d.au.ls (j - 1) default=v)→(j=0→v=0)→v≤p.au→
    (dU p k d q j= .inl ()∧v+(List.length q:Nat)≤p.au)∨dU p k d q j= .inr false
  | [],j,pre,v,_,_,_,_,hv=> .inl ⟨rfl,by simpa using hv⟩
  | y::q,j,pre,v,hp,hj,hg,hz,hv=>by
    by_cases e:gV y p.au=true
    · have a:=EB e
      have ih:=FT p k d q (j+1) (pre++ [y]) y (by rw [hp]; simp) (by simp [hj]) (fun _=>by
        rw [hp, ← hj]
        simp [List.getD,List.getElem?_append]) (fun h=>by omega) a.2
      by_cases z:((j:Nat):Int) > 0
      · by_cases u:y≤List.getD d.au.ls (j - 1) default
        · exact .inr (by simp only [dU,ig,if_pos e,if_pos z,if_pos u])
        · have hu:v < y:=by rw [hg e6] at u; omega
          rcases ih with g | g
          · refine .inl ⟨by simp only [dU,ig,if_pos e,if_pos z,if_neg u]; exact g.1, ?_⟩
            have:=g.2
            simp only [List.length_cons]
            omega
          · exact .inr (by simp only [dU,ig,if_pos e,if_pos z,if_neg u]; exact g)
      · have hu:v=0:=hz e6
        rcases ih with g | g
        · refine .inl ⟨by simp only [dU,ig,if_pos e,if_neg z]; exact g.1, ?_⟩
          have:=g.2
          simp only [List.length_cons]
          omega
        · exact .inr (by simp only [dU,ig,if_pos e,if_neg z]; exact g)
    · exact .inr (by simp only [dU,ig]; rw [if_neg e])
theorem FU (p:cZ) (k:Nat) (d:bH):∀ (q:List Int) (j:Nat),gB p k d q j=dU p k d q j
  | [],_=>rfl
  | y::q,j=>by simp only [gB,dU,ig,FU p k d q]
theorem FV (p:cZ) (hp:0≤p.au∧p.au≤4) (f:Unit→Bool):∀ (q:List bH) (k:Nat),lp (dO p q k) f=true→∀ x ∈ q,List.length x.au.ls≤4
  | [],_,_,x,hx=>by cases hx
  | y::q,k,h,x,hx=>by
    have key:lp (qU (dU p k y y.au.ls 0) fun _=>dO p q (k+1)) f=true:=by
      simp only [dO,ig,FU] at h
      repeat' split at h
      all_goals first | cases h; done | exact h
    rcases FT p k y y.au.ls 0 [] 0 rfl rfl (fun h=>absurd h e6) (fun _=>rfl) hp.1 with g | g
    · rw [g.1] at key
      rcases List.mem_cons.1 hx with rfl | hx
      · have:=g.2
        omega
      · exact FV p hp f q _ key x hx
    · rw [g] at key
      cases key
theorem FW:∀ l:List aI,(lp (fG l) fun _=>true)=true→∀ x ∈ l,GV x
  | [],_,x,hx=>by cases hx
  | y::q,h,x,hx=>by
    by_cases e:ib y.bY=0
    · by_cases v:((List.length y.aT:Nat):Int) > 16
      · simp only [fG,ig,if_pos e,if_pos v] at h
        cases h
      · simp only [fG,ig,if_pos e,if_neg v] at h
        rcases List.mem_cons.1 hx with rfl | hx
        · exact⟨Ez e,e6⟩
        · exact FW q h x hx
    · simp only [fG,ig,if_neg e] at h
      cases h
theorem Hd {r:aQ} (h:iA r=true):EA r:=by
  unfold iA at h
  split at h
  · cases h
  · split at h
    · cases h
    · exact⟨e6,e6,FW _ h⟩
theorem FX (k:Nat) (x:eD):∀ (n j:Nat),(gq k x n j= .inl ()∧∀ i,j≤i→i < j+n→EA (List.getD x.ai.ls i default))∨gq k x n j= .inr false
  | 0,j=> .inl ⟨rfl,fun i a b=>by omega⟩
  | n+1,j=>by
    by_cases e:iA (List.getD x.ai.ls j default)=true
    · rcases FX k x n (j+1) with g | g
      · refine .inl ⟨?_,fun i a b=> ?_⟩
        · simp only [gq,ig]
          refine(if_pos ?_).trans g.1
          exact e
        · by_cases z:i=j
          · subst z; exact Hd e
          · exact g.2 i e6 e6
      · refine .inr ?_
        simp only [gq,ig]
        refine(if_pos ?_).trans g
        exact e
    · refine .inr ?_
      simp only [gq,ig]
      exact if_neg e
theorem FY (k:Nat) (x:eD):∀ (n j:Nat),iV k x n j=gq k x n j
  | 0,_=>rfl
  | n+1,j=>by simp only [iV,gq,ig,FY k x n]
theorem FZ (l:List eD):∀ (q:List eD) (k:Nat),(lp (fJ l q k) fun _=>true)=true→∀ x ∈ q,List.length x.ai.ls≤24∧∀ r ∈ x.ai.ls,EA r
  | [],_,_,x,hx=>by cases hx
  | y::q,k,h,x,hx=>by
    have key:List.length y.ai.ls≤4∧(lp (qU (gq k y (List.length y.ai.ls) 0) fun _=>fJ l q (k+1)) fun _=>true)=true:=by
      simp only [fJ,ig,FY] at h
      repeat' split at h
      all_goals first | cases h; done | exact⟨e6,h⟩
    rcases FX k y (List.length y.ai.ls) 0 with g | g
    · have h':=key.2
      rw [g.1] at h'
      rcases List.mem_cons.1 hx with rfl | hx
      · refine⟨e6,fun r hr=> ?_⟩
        obtain⟨i,hi,he⟩:=List.getElem_of_mem hr
        have:=g.2 i e6 e6
        rw [List.getD,List.getElem?_eq_getElem hi] at this
        simp only [Option.getD_some,he] at this
        exact this
      · exact FZ l q _ h' x hx
    · have h':=key.2
      rw [g] at h'
      cases h'
theorem F3 {p:cZ} (h:gJ p=0) (n:FR p):List.length p.ag.ls≤6∧(∀ x ∈ p.ag.ls,List.length x.bF≤12)∧List.length p.aj.ls≤8∧(∀ x ∈ p.aj.ls,Ht x)∧List.length p.aF.ls≤4∧(∀ x ∈ p.aF.ls,Hu x)∧p.av≤18446744073709551615∧p.aV≤18446744073709551615∧p.aL≤18446744073709551615:=by
  unfold gJ at h
  rw [ig] at h
  have v:∀ b:Bool,jo b=0→b=true:=by intro b; cases b <;> simp [jo]
  split at h
  · split at h
    · rw [ig] at h
      split at h
      · rw [ig] at h
        split at h
        · rename_i g o c d
          rw [ig,ig] at h
          have m:=v _ h
          have a:=EB g
          have ho:kR p.ag.ls=0:=by
            unfold ma at c
            rw [ig] at c
            split at c
            · assumption
            · cases c
          have ho:=Ha ho
          unfold lU at d
          split at d
          · cases d
          · unfold nC at m
            split at m
            · cases m
            · have hd:=FV p ⟨e6,a.2⟩ _ _ _ d
              have hl:=FZ _ _ _ m
              obtain⟨i,j,k,e,f⟩:=n
              exact⟨ho.1,ho.2,e6,fun x hx=>⟨(e x hx).1,(e x hx).2.1,(e x hx).2.2,hd x hx⟩,e6,fun x hx=>⟨(f x hx).1,(f x hx).2,hl x hx⟩,i,j,k⟩
        · rw [ig] at h; have:=v _ h; cases this
      · rw [ig] at h; have:=v _ h; cases this
    · rw [ig] at h; have:=v _ h; cases this
  · rw [ig] at h; have:=v _ h; cases this
end Go.Proofs.YtbkagebjhbphaaaGreat
namespace Go.Proofs.YtbkagebjhbphaaaGreat
open List renaming flatMap→q3,getD→C0,getD_eq_getElem?_getD→L4,length→r8,length_append→o1,length_cons→s0,length_nil→F2,length_set→H1,mem_append→v6,mem_cons_of_mem→O1,mem_cons_self→O2,mem_of_getElem?→D3,mem_or_eq_of_mem_set→O0,mem_replicate→O3,mem_singleton→m4,set→u2
open Ll renaming mk→E2
open Nat renaming le_refl→o3,le_trans→L5
set_option linter.unusedVariables false
set_option linter.unusedSimpArgs false
abbrev mK (g:Nat) (m:aA) (a:Option Addr) (b c:Nat) (d:Option Addr) (c1:Nat) (e:Option Addr) (c2:Nat) (f:Option Addr) (c3:Nat) (h:Option Addr) (c4:Nat) (i:Option Addr) (j:Nat) (k:Option Addr) (o:Nat) (p:Option Addr) (q:Nat) (r:Option Addr) (s:Nat):HP:=blk g [vI m.aa.au,vU m.aa.av,vU m.aa.aV,vU m.aa.aL, .slice a b c, .slice d m.aa.aj.ls.length c1, .slice e m.aa.aF.ls.length c2,vU m.bP, .slice f m.ay.ls.length c3, .bool m.bK.cO,vU m.bK.aS,vI m.bK.dA, .slice h m.bK.af.ls.length c4, .bool m.bA.cO,vU m.bA.aS,vI m.bA.dA, .slice i m.bA.af.ls.length j, .bool m.bz.cO,vU m.bz.aS,vI m.bz.dA, .slice k m.bz.af.ls.length o, .bool m.bv.cO,vU m.bv.aS,vI m.bv.dA, .slice p m.bv.af.ls.length q, .bool m.bq.cO,vU m.bq.aS,vI m.bq.dA, .slice r m.bq.af.ls.length s,vU m.dP,vU m.dH,vU m.dI,vU m.dG,vU m.dJ, .pointer none] 86
abbrev mX (g:Nat) (m:aA) (z:Option Addr) (A B:Nat) (a:Option Addr) (c1:Nat) (b:List aC) (c:Option Addr) (c2:Nat) (d:List aU) (e:Option Addr) (c3:Nat) (f:List bB) (h:Option Addr) (c4:Nat) (i:List ae) (j:Option Addr) (k:Nat) (o:List ae) (p:Option Addr) (q:Nat) (r:List ae) (s:Option Addr) (t:Nat) (u:List ae) (v:Option Addr) (x:Nat) (y:List ae) (l:List HP):List HP:=mK g m z A B a c1 c c2 e c3 h c4 j k p q s t v x::row a m.aa.aj.ls.length c1 (q3 aC.cells b) 60 5::sepL (q3 aC.own b)::row c m.aa.aF.ls.length c2 (q3 aU.cells d) 56 4::sepL (q3 aU.own d)::row e m.ay.ls.length c3 (q3 bB.cells f) 107 9::sepL (q3 bB.own f)::row h m.bK.af.ls.length c4 (q3 ae.cells i) 149 3::sepL (q3 ae.own i)::row j m.bA.af.ls.length k (q3 ae.cells o) 149 3::sepL (q3 ae.own o)::row p m.bz.af.ls.length q (q3 ae.cells r) 149 3::sepL (q3 ae.own r)::row s m.bv.af.ls.length t (q3 ae.cells u) 149 3::sepL (q3 ae.own u)::row v m.bq.af.ls.length x (q3 ae.cells y) 149 3::sepL (q3 ae.own y)::l
abbrev ky (n:Nat):Prop:=n≤18446744073709551615
theorem EC {α β γ:Type} (f:α→β→γ) {a a':α} {b b':β} (h:a=a') (k:b=b'):f a b=f a' b':=by subst h; subst k; rfl
def nI (l:List aQ):Prop:=r8 l≤1000∧∀ x ∈ l,r8 x.ak.ls≤1000
structure Tok (x:dK):Prop where
  num:ky x.aR
  sU:ky x.aS
  qF:ky x.dh
  yes:r8 x.bD.ls=r8 x.aG.ls
  res:r8 x.af.ls=r8 x.aG.ls
  len:r8 x.aG.ls≤5
  uh:1≤x.aM∧x.aM≤4
  ops:r8 x.bV.ls≤24∧∀ o ∈ x.bV.ls,o.bS≤1000
  prt:∀ p ∈ x.aG.ls,r8 p.aH.ls≤24024
  Cs:∀ r ∈ x.af.ls,nI r.ls
def Ak (l:List dK):Prop:=∀ x ∈ l,Tok x
def Dk (l:List bH):Prop:=∀ x ∈ l,ky x.aN∧ky x.av∧ky x.aP∧r8 x.au.ls≤1000
theorem ED {l:List bH} (h:Dk l) {i:Nat} {x:bH} (hx:l[i]? =some x):r8 x.au.ls≤1000:=(h x (D3 hx)).2.2.2
structure Mk (p:aA):Prop where
  oz:ky p.aa.av
  sV:ky p.aa.aV
  qF:ky p.aa.aL
  ug:ky p.bP
  dec:Dk p.aa.aj.ls
  mH:∀ x ∈ p.aa.aF.ls,ky x.av∧ky x.aP∧nI x.ai.ls
  act:Ak p.ay.ls
  mU:nI p.bK.af.ls∧ky p.bK.aS
  lT:nI p.bA.af.ls∧ky p.bA.aS
  nu:nI p.bz.af.ls∧ky p.bz.aS
  ny:nI p.bv.af.ls∧ky p.bv.aS
  nz:nI p.bq.af.ls∧ky p.bq.aS
theorem BZ {p:aA} (h:Mk p):r8 p.bK.af.ls≤1000∧r8 p.bA.af.ls≤1000∧r8 p.bz.af.ls≤1000∧r8 p.bv.af.ls≤1000∧r8 p.bq.af.ls≤1000:=⟨h.mU.1.1,h.lT.1.1,h.nu.1.1,h.ny.1.1,h.nz.1.1⟩
theorem mE:nI []:=⟨Lg _,fun x h=>by cases h⟩
theorem dM {l:List aQ} (h:nI l):∀ x ∈ l,r8 x.ak.ls≤1000000:=fun x hx=>L5 (h.2 x hx) f4
theorem EW {p:aA} (h:Mk p) {i:Nat} {x:eD} (hx:p.aa.aF.ls[i]? =some x):nI x.ai.ls:=(h.mH x (D3 hx)).2.2
theorem yz {l:List dK} (h:Ak l) {i:Nat} {x:dK} (hx:l[i]? =some x):Tok x:=h x (D3 hx)
theorem nJ {l:List dK} (h:Ak l) {i:Nat} {y:dK} (hy:Tok y):Ak (u2 l i y):=fun x hx=>by
  rcases O0 hx with a | rfl
  · exact h x a
  · exact hy
theorem o7 {x:dK} (h:Tok x) {i j:Nat} {r:List aQ} (hr:nI r):Tok (dK.mk x.aR x.aM x.aS x.dh x.bV x.aG (E2 (u2 x.bD.ls i true)) (E2 (u2 x.af.ls j (E2 r))) x.eO):=
  ⟨h.num,h.sU,h.qF,H1.trans h.yes,H1.trans h.res,h.len,h.uh,h.ops,h.prt,fun q hq=>by
    rcases O0 hq with a | rfl
    · exact h.Cs q a
    · exact hr⟩
theorem qN {x:dK} (h:Tok x) (a:Int):Tok (dK.mk x.aR x.aM x.aS x.dh x.bV x.aG x.bD x.af a):=⟨h.num,h.sU,h.qF,h.yes,h.res,h.len,h.uh,h.ops,h.prt,h.Cs⟩
theorem uN {p:aA} (h:Mk p):FR p.aa:=⟨h.oz,h.sV,h.qF,fun x hx=>⟨(h.dec x hx).1,(h.dec x hx).2.1,(h.dec x hx).2.2.1⟩,fun x hx=>⟨(h.mH x hx).1,(h.mH x hx).2.1⟩⟩
theorem GD {l:List aQ} (h:∀ x ∈ l,r8 x.ak.ls≤1000):tot l≤r8 l *1001:=by
  induction l with
  | nil=>exact Lg _
  | cons x l ih=>have a:=ih fun y hy=>h y (O1 _ hy); have b:=h x O2; simp only [tot,s0]; omega
theorem He {l:List (Ll aQ)} (h:∀ r ∈ l,nI r.ls):tt l≤r8 l *1001000:=by
  induction l with
  | nil=>exact Lg _
  | cons x l ih=>
    have b:=ih fun y hy=>h y (O1 _ hy)
    have a:=h x O2
    have c:=GD a.2
    have d:=a.1
    simp only [tt,s0]; omega
theorem F4 {x:dK} (h:Tok x):tt x.af.ls≤100000000:=by
  have a:=He h.Cs
  have b:=h.res
  have c:=h.len
  omega
theorem zb {l0:List aY} {l1:List bi}:∀ (q:Nat) (l:List gF) (k:Nat),r8 (iE l0 l1 q l k)≤r8 l+q
  | 0,l,k=>o3 _
  | q+1,l,k=>by
    simp only [iE,bnd]
    split
    · refine L5 (zb q _ _) ?_
      rw [o1,List.length_singleton]; omega
    · exact L5 (zb q _ _) e6
theorem Ca {l0:List aY} {l1:List bi} {r:List gF} {e:Int} (h:lF l0 l1=(r,e)):r8 r≤5:=by
  unfold lF at h
  simp only [bnd] at h
  split at h
  · split at h
    · obtain⟨rfl,_⟩:=Prod.mk.inj h
      have:=zb (l0:=l0) (l1:=l1) 5 [] 0
      simpa using this
    · obtain⟨rfl,_⟩:=Prod.mk.inj h
      exact Lg _
  · obtain⟨rfl,_⟩:=Prod.mk.inj h
    exact Lg _
theorem zR (l0:List aY) (a:Int) (p2:bi):∀ (q:List aY) (l:List bi) (k:Nat),r8 (gy l0 a p2 q l k)≤r8 l+r8 q
  | [],l,k=>o3 _
  | x::q,l,k=>by
    simp only [gy,bnd]
    split
    · split
      · refine L5 (zR l0 a p2 q _ _) ?_
        simp only [o1,s0,F2]; omega
      · refine L5 (zR l0 a p2 q _ _) ?_
        simp only [s0]; omega
    · refine L5 (zR l0 a p2 q _ _) ?_
      simp only [s0]; omega
theorem zS (l0:List aY) (a:Int) (p2:bi):∀ (q:List aY) (l:List bi) (k:Nat),r8 (gz l0 a p2 q l k)≤r8 l+r8 q
  | [],l,k=>o3 _
  | x::q,l,k=>by
    simp only [gz,bnd]
    split
    · split
      · refine L5 (zS l0 a p2 q _ _) ?_
        simp only [o1,s0,F2]; omega
      · refine L5 (zS l0 a p2 q _ _) ?_
        simp only [s0]; omega
    · refine L5 (zS l0 a p2 q _ _) ?_
      simp only [s0]; omega
theorem F5 (l0:List aY) (a:Int) (p2:bi):r8 (jc l0 a p2)≤r8 l0+1:=by
  unfold jc
  simp only [bnd]
  split
  · have:=zR l0 a p2 l0 [] 0; simp only [F2] at this; omega
  · split
    · have:=zS l0 a p2 l0 [] 0; simp only [F2] at this; omega
    · split
      · simp only [s0,F2]; omega
      · exact Lg _
theorem Cb (l0:List aY) (b:List gF) (a:Nat):∀ (q:List bi) (k:Nat) (l:List bi) (m:List Int),r8 (jX l0 b a q k l m).1≤r8 l+r8 q *(r8 l0+1)
  | [],k,l,m=>Nat.le_add_right _ _
  | x::q,k,l,m=>by
    simp only [jX,bnd]
    refine L5 (Cb l0 b a q _ _ _) ?_
    have c:=F5 l0 ((a:Nat):Int) x
    rw [o1,s0,Nat.succ_mul]; omega
theorem ze {l0:List aY} {l1:List bi}:∀ (q:Nat) (l:List gF) (k:Nat),(∀ x ∈ l,r8 x.aH.ls≤r8 l1 *(r8 l0+1))→∀ x ∈ iE l0 l1 q l k,r8 x.aH.ls≤r8 l1 *(r8 l0+1)
  | 0,l,k,h=>h
  | q+1,l,k,h=>by
    simp only [iE,bnd]
    split
    · refine ze q _ _ fun x hx=> ?_
      rcases v6.1 hx with a | a
      · exact h x a
      · rw [m4.1 a]
        have:=Cb l0 l k l1 0 [] []
        simpa using this
    · exact ze q _ _ h
theorem Cc {l0:List aY} {l1:List bi} {r:List gF} {e:Int} (h:lF l0 l1=(r,e)) (a:r8 l0≤1000) (b:r8 l1≤24):∀ x ∈ r,r8 x.aH.ls≤24024:=by
  have hb:r8 l1 *(r8 l0+1)≤24024:=L5 (Nat.mul_le_mul b (Nat.succ_le_succ a)) f4
  unfold lF at h
  simp only [bnd] at h
  split at h
  · split at h
    · obtain⟨rfl,_⟩:=Prod.mk.inj h
      exact fun x hx=>L5 (ze (l0:=l0) (l1:=l1) 5 [] 0 (fun y hy=>by cases hy) x hx) hb
    · obtain⟨rfl,_⟩:=Prod.mk.inj h
      intro x hx; cases hx
  · obtain⟨rfl,_⟩:=Prod.mk.inj h
    intro x hx; cases hx
def Pk (l:List aQ):Prop:=∀ x ∈ l,r8 x.ak.ls≤1000
theorem Ba {l:List (Ll aQ)} (h:∀ r ∈ l,Pk r.ls) (i:Nat):Pk (C0 l i default).ls:=by
  rw [L4]
  cases e:l[i]? with
  | none=>intro x hx; cases hx
  | some r=>exact h r (D3 e)
theorem Ce {l:List aQ} (h:Pk l) (i:Nat):r8 (C0 l i default).ak.ls≤1000:=by
  rw [L4]
  cases e:l[i]? with
  | none=>exact Lg _
  | some r=>exact h r (D3 e)
theorem F6 {c:List (Ll aQ)} (d:∀ r ∈ c,Pk r.ls) (k:Nat):∀ (q:List Int) (j:Nat) (l:List (Ll aQ)),(∀ r ∈ l,Pk r.ls)→∀ r ∈ kF c k q j l,Pk r.ls
  | [],_,l,h=>h
  | a::q,j,l,h=>F6 d k q (j+1) _ fun r hr=>by
    rcases O0 hr with b | rfl
    · exact h r b
    · intro x hx
      rcases v6.1 hx with b | b
      · exact Ba h _ x b
      · rw [m4.1 b]; exact Ce (Ba d _) _
theorem F7 {l0:List bi} {b:List (Ll aQ)} (c:∀ r ∈ b,Pk r.ls):∀ (q:List gF) (k:Nat) (l:List (Ll aQ)),(∀ r ∈ l,Pk r.ls)→∀ r ∈ jH l0 b q k l,Pk r.ls
  | [],_,l,h=>h
  | a::q,k,l,h=>F7 c q (k+1) _ (F6 c k _ 0 l h)
theorem Hf {p:bi} (hp:p.bS≤1000) {l:List aQ} (h:Pk l):r8 (jq p l).ak.ls≤1000:=by
  unfold jq
  simp only [bnd]
  split
  · simp only [List.length_take]; omega
  · split
    · exact Lg _
    · exact Ce h 0
theorem F8 {l:List (Ll aQ)} (h:∀ r ∈ l,Pk r.ls):∀ (q:List bi) (k:Nat) (r:List aQ),(∀ o ∈ q,o.bS≤1000)→Pk r→Pk (jI l q k r)∧r8 (jI l q k r)=r8 r
  | [],_,r,_,hr=>⟨hr,rfl⟩
  | a::q,k,r,ho,hr=>by
    have b:=F8 h q (k+1) (u2 r k (aQ.mk (jq a (C0 l k default).ls).eF (jq a (C0 l k default).ls).aT (E2 (jq a (C0 l k default).ls).ak.ls))) (fun o h=>ho o (O1 _ h)) (fun x hx=>by
      rcases O0 hx with b | rfl
      · exact hr x b
      · exact Hf (ho a O2) (Ba h _))
    exact⟨b.1,b.2.trans H1⟩
theorem yA {l0:List bi} {l1:List gF} {a:List (Ll aQ)} {r:List aQ} {e:Int} (h:lM l0 l1 a=(r,e)) (hl:r8 l0≤24) (ho:∀ o ∈ l0,o.bS≤1000) (c:∀ q ∈ a,nI q.ls):nI r:=by
  unfold lM at h
  simp only [bnd] at h
  split at h
  · obtain⟨rfl,_⟩:=Prod.mk.inj h
    have b:=F8 (l:=jH l0 a l1 0 (List.replicate (r8 l0) (E2 []:Ll aQ))) (F7 (l0:=l0) (fun q hq=>(c q hq).2) l1 0 _ fun q hq=>by rw [(O3.1 hq).2]; intro x hx; cases hx) l0 0 (List.replicate (r8 l0) (aQ.mk false ([]) (E2 ([])))) ho (fun x hx=>by rw [(O3.1 hx).2]; exact Lg _)
    refine⟨?_,b.1⟩
    rw [b.2,List.length_replicate]; omega
  · obtain⟨rfl,_⟩:=Prod.mk.inj h
    exact mE
theorem Ea {α:Type} {enc:α→List Value} {sz:Nat} (hz:∀ x,(enc x).length=sz) {l:List α} {sp zs:List Value} {k:Nat} (hk:k≤l.length):(put (q3 enc l++sp) (k *sz) zs).take (k *sz)=q3 enc (List.take k l):=by
  have hl:(q3 enc l).length=l.length *sz:=jU hz l
  have hm:k *sz≤l.length *sz:=Nat.mul_le_mul_right sz hk
  rw [xy (o3 _) (by rw [o1,hl]; omega),List.take_append_of_le_length e6]
  exact oU hz _ _
section
open Go.RowKit
variable {P:Program} {ops:Array Oper} {Q:Exit→Act→World→Prop} {ks:List Nat} {Good:World→Prop} {n:Nat} {F:List (Nat × Value)} {w:World} {fuel:Nat} {l:List Nat}
end
theorem f9 {p:Prop}(h:p:=by first | omega | (dsimp only; omega) | (simp only [List.length_nil]; omega) | decide | (simp only [ky,List.length_cons,List.length_nil,List.length_replicate]; omega)):p:=h
theorem i2 {p:Prop}(h:p:=by first | assumption | exact mE | exact Mk.lT (by assumption) |>.1):p:=h
theorem i4 {p:Prop}(h:p:=by first | assumption | exact uN (by assumption)):p:=h
theorem j9 {p:Prop}(h:p:=by first | assumption | exact BZ (by assumption)):p:=h
end Go.Proofs.YtbkagebjhbphaaaGreat
