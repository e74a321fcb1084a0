/-
  A step of the coordinator, Take or Tick: what is told, which Low. Conditions: none beyond each law's own.
-/
import Derived.Test.YtbkagebjhbphaaaGreatCd
namespace Go.Proofs.YtbkagebjhbphaaaGreat
set_option linter.unusedVariables false
set_option linter.unusedSimpArgs false
def Dq:dC:=dC.mk 2 0 0 1 (Ll.mk [bv.mk [] 1,bv.mk [109] 2]) (Ll.mk []) (Ll.mk [])
theorem Bo {r:dC} (h:jm Dq=r):List.length r.ag.ls=2∧r.av=2∧List.length r.aj.ls=0∧List.length r.aI.ls=0:=by subst h; exact⟨rfl,rfl,rfl,rfl⟩
def BG (r:dC):aB:=aB.mk (dC.mk r.av (Int.toNat (IntKind.u64.wrap (((r.ax:Nat):Int)+1))) (fD (Int.toNat (IntKind.u64.wrap (((r.ax:Nat):Int)+1))) 32) r.aK (Ll.mk r.ag.ls) (Ll.mk r.aj.ls) (Ll.mk r.aI.ls)) 0 (Ll.mk []) (dX.mk false 0 0 (Ll.mk [])) (dX.mk false 0 0 (Ll.mk [])) (dX.mk false 0 0 (Ll.mk [])) (dX.mk false 0 0 (Ll.mk [])) (dX.mk false 0 0 (Ll.mk [])) 0 0 0 0 0
theorem xV {r:dC} {m:aB} (h:jm Dq=r) (e:BG r=m):Mk m:=by
  subst h; subst e
  have z:mR []∧jZ 0:=⟨mD,JO _⟩
  exact⟨(by dsimp only [BG]; exact mh _),(by dsimp only [BG]; exact oO _ _),(by decide:(1:Nat)≤18446744073709551615),JO _,fun x hx=>(by cases hx),fun x hx=>(by cases hx),fun x hx=>(by cases hx),z,z,z,z,z⟩
theorem uL {r:dC} {m:aB} (h:jm Dq=r) (e:BG r=m):List.length m.aa.ag.ls≤1000∧m.aa.av≤4∧List.length m.ak.ls+List.length m.aa.aj.ls≤8∧List.length m.aa.aI.ls≤0:=by
  subst h; subst e
  exact⟨(by decide:2≤1000),(by decide:(2:Int)≤4),(by decide:0+0≤8),(by decide:0≤0)⟩
end Go.Proofs.YtbkagebjhbphaaaGreat
namespace Go.Proofs.YtbkagebjhbphaaaGreat
open List renaming append_assoc→q7,append_nil→s9,length→s2
open Ll renaming mk→E4
set_option linter.unusedVariables false
set_option linter.unusedSimpArgs false
structure TS (m:aB) (E:List bQ × aB):Prop where
  own:E.2.aa.ag.ls=m.aa.ag.ls
  sh:E.2.aa.av=m.aa.av
  lw:∀ k,Im k m→k+1≤1000000→Im (k+1) E.2∧Lw (lo m) (lo E.2) E.1
theorem Lw.le:∀ {l:List bQ} {a b:Nat},Lw a b l→a≤b
  | [],_,_,h=>h
  | x::l,a,b,h=>by
    unfold Lw at h
    by_cases e:x.aH=3
    · rw [if_pos e] at h; exact Nat.le_trans h.1 (Lw.le h.2.2)
    · rw [if_neg e] at h; exact Lw.le h
theorem TS.same (m:aB):TS m ([],m):=⟨rfl,rfl,fun k h hl=>⟨h.mono (Nat.le_succ k) hl,Nat.le_refl _⟩⟩
theorem JL {j:Nat} {t:bH} {m m':aB} (h:Tr j (bH.mk (E4 [])) m t m') (hj:j≤1) {o:List bQ} (ho:∃ q,o=t.bB.ls++q∧∀ x ∈ q,x.aH≠3):TS m (o,m'):=⟨h.own,h.sh,fun k hk hl=>by
  obtain⟨q,rfl,hq⟩:=ho
  obtain⟨a,o,e,w⟩:=h.lw k (hk.mono (Nat.le_add_right k j) e6) e6 hk
  have e':t.bB.ls=o:=e
  exact⟨a.mono e6 hl,by dsimp only; rw [e']; exact Lw.app (Ip (Nat.le_refl _) hq) w⟩⟩
theorem Bp (a:aB) (r:List UInt8):∀ (q:List Nat) (l:List bQ) (m:aB),Tr 0 (bH.mk (E4 l)) m (bH.mk (E4 (eT a r q l m).1)) (eT a r q l m).2
  | [],l,m=>Tr.same _ m
  | x::q,l,m=>(rH (t:=(iT (bH.mk (E4 l)) x m).1) (m':=(iT (bH.mk (E4 l)) x m).2) rfl).2.1.trans (Bp a r q _ _)
theorem Bq (a:aB) (r:List UInt8) (m:aB):∀ (d:List bM) (l:List bQ), ∃ q,ja a r m d l=l++q∧∀ x ∈ q,x.aH=5
  | [],l=>⟨[],(s9 l).symm,fun x hx=>by cases hx⟩
  | x::d,l=>by
    obtain⟨b,e,f⟩:=sw (bH.mk (E4 l)) x.bi x.av.ls true
    obtain⟨c,g,i⟩:=Bq a r m d (eG (bH.mk (E4 l)) x.bi x.av.ls true).bB.ls
    refine⟨b++c,g.trans (by rw [e]; exact q7 l b c),fun y hy=> ?_⟩
    rcases List.mem_append.1 hy with h | h
    · exact f y h
    · exact i y h
theorem yE (r:List UInt8) (m:aB):∀ (f k:Nat) (l:List bQ),Int.toNat (m.aa.av+1 - ((k:Nat):Int)) < f→∃ q,fe r m f k l=l++q∧∀ x ∈ q,x.aH=8
  | 0,k,l,h=>absurd h (Nat.not_lt_zero _)
  | f+1,k,l,h=>by
    by_cases hk:((k:Nat):Int)≤m.aa.av
    · have hn:Int.toNat (m.aa.av+1 - (((k+1:Nat)):Int)) < f:=by omega
      have a:=yE r m f (k+1) l hn
      have b:∀ y:bQ,y.aH=8→∃ q,fe r m f (k+1) (l++ [y])=l++q∧∀ x ∈ q,x.aH=8:=fun y hy=>by
        obtain⟨q,e,hq⟩:=yE r m f (k+1) (l++ [y]) hn
        refine⟨y::q,e.trans (q7 l [y] q),fun x hx=> ?_⟩
        rcases List.mem_cons.1 hx with rfl | hx
        · exact hy
        · exact hq x hx
      unfold fe
      rw [if_pos hk]
      split
      · split
        · exact a
        · exact b _ rfl
      split
      · split
        · exact a
        · exact b _ rfl
      split
      · split
        · exact a
        · exact b _ rfl
      split
      · exact a
      · exact b _ rfl
    · unfold fe
      rw [if_neg hk]
      exact⟨[],(s9 l).symm,fun x hx=>by cases hx⟩
theorem D8 {w:World} {l:List fU} (h:∀ x ∈ l,Hz w x):∀ x ∈ List.map fU.abs l,x.aC.aU≤18446744073709551615∧s2 x.aC.aG.ls≤140737488351232∧s2 x.aC.ah.ls≤140737488351232∧s2 x.aC.ag.ls≤140737488351232:=fun x hx=>by
  obtain⟨y,hy,rfl⟩:=List.mem_map.1 hx
  have k:=(h y hy).2.2.1
  have o:=k.2.2.2.2.2.2.2.2.2.2.2.2.2.2.2.2.2.1
  have r:=k.2.2.2.2.2.2.2.2.2.2.2.2.2.2.2.2.2.2.1
  have v:=k.2.2.2.2.2.2.2.2.2.2.2.2.2.2.2.2.2.2.2
  refine⟨k.2.2.2.2.2.2.1, ?_, ?_, ?_⟩
  · show s2 y.aC.aG.ls≤_
    have a:=o.1; have b:=o.2.1; omega
  · show s2 (List.map af.abs y.aC.ah.ls)≤_
    rw [List.length_map]; have a:=r.1; have b:=r.2.1; omega
  · show s2 y.aC.ag.ls≤_
    have a:=v.1; have b:=v.2.1; omega
end Go.Proofs.YtbkagebjhbphaaaGreat
