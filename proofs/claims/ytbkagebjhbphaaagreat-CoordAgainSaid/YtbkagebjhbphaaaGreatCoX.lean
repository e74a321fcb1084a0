/-
  A step of the coordinator, Take or Tick: what is told, which Low. Conditions: none beyond each law's own.
-/
import Derived.Test.YtbkagebjhbphaaaGreatCd
namespace Go.Proofs.YtbkagebjhbphaaaGreat
set_option linter.unusedVariables false
set_option linter.unusedSimpArgs false
def Dt:di:=di.mk 2 0 0 1 (Ll.mk [aW.mk [] 1,aW.mk [109] 2]) (Ll.mk []) (Ll.mk [])
theorem Bq {r:di} (h:jm Dt=r):List.length r.ag.ls=2∧r.av=2∧List.length r.ak.ls=0∧List.length r.aJ.ls=0:=by subst h; exact⟨rfl,rfl,rfl,rfl⟩
def BI (r:di):aB:=aB.mk (di.mk r.av (Int.toNat (IntKind.u64.wrap (((r.ay:Nat):Int)+1))) (fD (Int.toNat (IntKind.u64.wrap (((r.ay:Nat):Int)+1))) 32) r.aL (Ll.mk r.ag.ls) (Ll.mk r.ak.ls) (Ll.mk r.aJ.ls)) 0 (Ll.mk []) (dX.mk false 0 0 (Ll.mk [])) (dX.mk false 0 0 (Ll.mk [])) (dX.mk false 0 0 (Ll.mk [])) (dX.mk false 0 0 (Ll.mk [])) (dX.mk false 0 0 (Ll.mk [])) 0 0 0 0 0
theorem xX {r:di} {m:aB} (h:jm Dt=r) (e:BI r=m):Mk m:=by
  subst h; subst e
  have z:mU []∧jZ 0:=⟨mD,JQ _⟩
  exact⟨(by dsimp only [BI]; exact mh _),(by dsimp only [BI]; exact oQ _ _),(by decide:(1:Nat)≤18446744073709551615),JQ _,fun x hx=>(by cases hx),fun x hx=>(by cases hx),fun x hx=>(by cases hx),z,z,z,z,z⟩
theorem uN {r:di} {m:aB} (h:jm Dt=r) (e:BI r=m):List.length m.aa.ag.ls≤1000∧m.aa.av≤4∧List.length m.au.ls+List.length m.aa.ak.ls≤8∧List.length m.aa.aJ.ls≤0:=by
  subst h; subst e
  exact⟨(by decide:2≤1000),(by decide:(2:Int)≤4),(by decide:0+0≤8),(by decide:0≤0)⟩
end Go.Proofs.YtbkagebjhbphaaaGreat
namespace Go.Proofs.YtbkagebjhbphaaaGreat
open List renaming append_assoc→q7,append_nil→s9,length→s2
open Ll renaming mk→E4
set_option linter.unusedVariables false
set_option linter.unusedSimpArgs false
structure TS (m:aB) (E:List bM × aB):Prop where
  own:E.2.aa.ag.ls=m.aa.ag.ls
  sh:E.2.aa.av=m.aa.av
  lw:∀ k,Im k m→k+1≤1000000→Im (k+1) E.2∧Lw (lo m) (lo E.2) E.1
theorem Lw.le:∀ {l:List bM} {a b:Nat},Lw a b l→a≤b
  | [],_,_,h=>h
  | x::l,a,b,h=>by
    unfold Lw at h
    by_cases e:x.aG=3
    · rw [if_pos e] at h; exact Nat.le_trans h.1 (Lw.le h.2.2)
    · rw [if_neg e] at h; exact Lw.le h
theorem TS.same (m:aB):TS m ([],m):=⟨rfl,rfl,fun k h hl=>⟨h.mono (Nat.le_succ k) hl,Nat.le_refl _⟩⟩
theorem JN {j:Nat} {t:bE} {m m':aB} (h:Tr j (bE.mk (E4 [])) m t m') (hj:j≤1) {o:List bM} (ho:∃ q,o=t.bq.ls++q∧∀ x ∈ q,x.aG≠3):TS m (o,m'):=⟨h.own,h.sh,fun k hk hl=>by
  obtain⟨q,rfl,hq⟩:=ho
  obtain⟨a,o,e,w⟩:=h.lw k (hk.mono (Nat.le_add_right k j) e6) e6 hk
  have e':t.bq.ls=o:=e
  exact⟨a.mono e6 hl,by dsimp only; rw [e']; exact Lw.app (Ir (Nat.le_refl _) hq) w⟩⟩
theorem Br (a:aB) (r:List UInt8):∀ (q:List Nat) (l:List bM) (m:aB),Tr 0 (bE.mk (E4 l)) m (bE.mk (E4 (eT a r q l m).1)) (eT a r q l m).2
  | [],l,m=>Tr.same _ m
  | x::q,l,m=>(rM (t:=(iT (bE.mk (E4 l)) x m).1) (m':=(iT (bE.mk (E4 l)) x m).2) rfl).2.1.trans (Br a r q _ _)
theorem Bt (a:aB) (r:List UInt8) (m:aB):∀ (d:List bJ) (l:List bM), ∃ q,ja a r m d l=l++q∧∀ x ∈ q,x.aG=5
  | [],l=>⟨[],(s9 l).symm,fun x hx=>by cases hx⟩
  | x::d,l=>by
    obtain⟨b,e,f⟩:=sG (bE.mk (E4 l)) x.aU x.av.ls true
    obtain⟨c,g,i⟩:=Bt a r m d (eG (bE.mk (E4 l)) x.aU x.av.ls true).bq.ls
    refine⟨b++c,g.trans (by rw [e]; exact q7 l b c),fun y hy=> ?_⟩
    rcases List.mem_append.1 hy with h | h
    · exact f y h
    · exact i y h
theorem yG (r:List UInt8) (m:aB):∀ (f k:Nat) (l:List bM),Int.toNat (m.aa.av+1 - ((k:Nat):Int)) < f→∃ q,fe r m f k l=l++q∧∀ x ∈ q,x.aG=8
  | 0,k,l,h=>absurd h (Nat.not_lt_zero _)
  | f+1,k,l,h=>by
    by_cases hk:((k:Nat):Int)≤m.aa.av
    · have hn:Int.toNat (m.aa.av+1 - (((k+1:Nat)):Int)) < f:=by omega
      have a:=yG r m f (k+1) l hn
      have b:∀ y:bM,y.aG=8→∃ q,fe r m f (k+1) (l++ [y])=l++q∧∀ x ∈ q,x.aG=8:=fun y hy=>by
        obtain⟨q,e,hq⟩:=yG r m f (k+1) (l++ [y]) hn
        refine⟨y::q,e.trans (q7 l [y] q),fun x hx=> ?_⟩
        rcases List.mem_cons.1 hx with rfl | hx
        · exact hy
        · exact hq x hx
      unfold fe
      rw [if_pos hk]
      split
      · split
        · exact a
        · exact b _ rfl
      split
      · split
        · exact a
        · exact b _ rfl
      split
      · split
        · exact a
        · exact b _ rfl
      split
      · exact a
      · exact b _ rfl
    · unfold fe
      rw [if_neg hk]
      exact⟨[],(s9 l).symm,fun x hx=>by cases hx⟩
theorem Ea {w:World} {l:List fU} (h:∀ x ∈ l,HY w x):∀ x ∈ List.map fU.abs l,x.aC.aO≤18446744073709551615∧s2 x.aC.aF.ls≤140737488351232∧s2 x.aC.ah.ls≤140737488351232∧s2 x.aC.ag.ls≤140737488351232:=fun x hx=>by
  obtain⟨y,hy,rfl⟩:=List.mem_map.1 hx
  have k:=(h y hy).2.2.1
  have o:=k.2.2.2.2.2.2.2.2.2.2.2.2.2.2.2.2.2.1
  have r:=k.2.2.2.2.2.2.2.2.2.2.2.2.2.2.2.2.2.2.1
  have v:=k.2.2.2.2.2.2.2.2.2.2.2.2.2.2.2.2.2.2.2
  refine⟨k.2.2.2.2.2.2.1, ?_, ?_, ?_⟩
  · show s2 y.aC.aF.ls≤_
    have a:=o.1; have b:=o.2.1; omega
  · show s2 (List.map ae.abs y.aC.ah.ls)≤_
    rw [List.length_map]; have a:=r.1; have b:=r.2.1; omega
  · show s2 y.aC.ag.ls≤_
    have a:=v.1; have b:=v.2.1; omega
end Go.Proofs.YtbkagebjhbphaaaGreat
