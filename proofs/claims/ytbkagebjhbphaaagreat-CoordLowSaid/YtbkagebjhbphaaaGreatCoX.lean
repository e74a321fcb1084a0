/-
  A step of the coordinator, Take or Tick: what is told, which Low. Conditions: none beyond each law's own.
-/
import Derived.Test.YtbkagebjhbphaaaGreatCd
namespace Go.Proofs.YtbkagebjhbphaaaGreat
set_option linter.unusedVariables false
set_option linter.unusedSimpArgs false
def Cx:dA:=dA.mk 2 0 0 1 (Ll.mk [bv.mk [] 1,bv.mk [109] 2]) (Ll.mk []) (Ll.mk [])
theorem AA {r:dA} (h:jh Cx=r):List.length r.ag.ls=2∧r.ak=2∧List.length r.aj.ls=0∧List.length r.aF.ls=0:=by subst h; exact⟨rfl,rfl,rfl,rfl⟩
def Bb (r:dA):aB:=aB.mk (dA.mk r.ak (Int.toNat (IntKind.u64.wrap (((r.ax:Nat):Int)+1))) (eQ (Int.toNat (IntKind.u64.wrap (((r.ax:Nat):Int)+1))) 32) r.aI (Ll.mk r.ag.ls) (Ll.mk r.aj.ls) (Ll.mk r.aF.ls)) 0 (Ll.mk []) (dV.mk false 0 0 (Ll.mk [])) (dV.mk false 0 0 (Ll.mk [])) (dV.mk false 0 0 (Ll.mk [])) (dV.mk false 0 0 (Ll.mk [])) (dV.mk false 0 0 (Ll.mk [])) 0 0 0 0 0
theorem xy {r:dA} {m:aB} (h:jh Cx=r) (e:Bb r=m):Mk m:=by
  subst h; subst e
  have z:mJ []∧jy 0:=⟨mh,IU _⟩
  exact⟨(by dsimp only [Bb]; exact l7 _),(by dsimp only [Bb]; exact oC _ _),(by decide:(1:Nat)≤18446744073709551615),IU _,fun x hx=>(by cases hx),fun x hx=>(by cases hx),fun x hx=>(by cases hx),z,z,z,z,z⟩
theorem uw {r:dA} {m:aB} (h:jh Cx=r) (e:Bb r=m):List.length m.aa.ag.ls≤1000∧m.aa.ak≤4∧List.length m.aA.ls+List.length m.aa.aj.ls≤8∧List.length m.aa.aF.ls≤0:=by
  subst h; subst e
  exact⟨(by decide:2≤1000),(by decide:(2:Int)≤4),(by decide:0+0≤8),(by decide:0≤0)⟩
end Go.Proofs.YtbkagebjhbphaaaGreat
namespace Go.Proofs.YtbkagebjhbphaaaGreat
open Int renaming toNat→D2
open List renaming append_assoc→q7,append_nil→s9,length→s2,mem_append→v8
open Ll renaming mk→E4
open Nat renaming le_refl→m5
set_option linter.unusedVariables false
set_option linter.unusedSimpArgs false
structure TS (m:aB) (E:List bQ × aB):Prop where
  own:E.2.aa.ag.ls=m.aa.ag.ls
  sh:E.2.aa.ak=m.aa.ak
  lw:∀ k,Im k m→k+1≤1000000→Im (k+1) E.2∧Lw (lo m) (lo E.2) E.1
theorem Lw.le:∀ {l:List bQ} {a b:Nat},Lw a b l→a≤b
  | [],_,_,h=>h
  | x::l,a,b,h=>by
    unfold Lw at h
    by_cases e:x.aM=3
    · rw [if_pos e] at h; exact Nat.le_trans h.1 (Lw.le h.2.2)
    · rw [if_neg e] at h; exact Lw.le h
theorem TS.same (m:aB):TS m ([],m):=⟨rfl,rfl,fun k h hl=>⟨h.mono (Nat.le_succ k) hl,m5 _⟩⟩
theorem Tr.ts {j:Nat} {t:bO} {m m':aB} (h:Tr j (bO.mk (E4 [])) m t m') (hj:j≤1) {o:List bQ} (ho:∃ q,o=t.bE.ls++q∧∀ x ∈ q,x.aM≠3):TS m (o,m'):=⟨h.own,h.sh,fun k hk hl=>by
  obtain⟨q,rfl,hq⟩:=ho
  obtain⟨a,o,e,w⟩:=h.lw k (hk.mono (Nat.le_add_right k j) e6) e6 hk
  have e':t.bE.ls=o:=e
  exact⟨a.mono e6 hl,by dsimp only; rw [e']; exact Lw.app (GJ (m5 _) hq) w⟩⟩
theorem Dj {m:aB} {x:bQ} (hq:jy x.aY) (ho:s2 m.aa.ag.ls≤1000):TS m ((dO m x).1.ed.ls,(dO m x).2.2):=by
  have s:=TS.same m
  have g:∀ r,l5 x=r→r=0→TS m ((jd (bO.mk (E4 [])) x m).1.bE.ls,(jd (bO.mk (E4 [])) x m).2):=fun r e a=>
    (vD (t:=(jd (bO.mk (E4 [])) x m).1) (m':=(jd (bO.mk (E4 [])) x m).2) rfl (qJ e a) hq ho).1.ts (m5 1) ⟨[],(s9 _).symm,fun x hx=>by cases hx⟩
  unfold dO bnd
  split
  · dsimp only
    split
    · rename_i a
      split
      · split
        · exact s
        · exact g _ rfl a
      · exact s
    · exact s
  · dsimp only
    split
    · rename_i a
      split
      · exact g _ rfl a
      · exact s
    · exact s
theorem BS:∀ (q:List dH) (l:List Nat),gJ q l=l++List.map dH.bq q
  | [],l=>(s9 l).symm
  | x::q,l=>(BS q (l++ [x.bq])).trans (q7 l [x.bq] _)
theorem Cy (m:aB):gG m=nA m:=BS _ _
theorem AB (a:aB) (r:List UInt8):∀ (q:List Nat) (l:List bQ) (m:aB),Tr 0 (bO.mk (E4 l)) m (bO.mk (E4 (fB a r q l m).1)) (fB a r q l m).2
  | [],l,m=>Tr.same _ m
  | x::q,l,m=>(qZ (t:=(kF (bO.mk (E4 l)) x m).1) (m':=(kF (bO.mk (E4 l)) x m).2) rfl).2.1.trans (AB a r q _ _)
theorem AC (a:aB) (r:List UInt8) (m:aB):∀ (d:List bL) (l:List bQ), ∃ q,iV a r m d l=l++q∧∀ x ∈ q,x.aM≠3
  | [],l=>⟨[],(s9 l).symm,fun x hx=>by cases hx⟩
  | x::d,l=>by
    obtain⟨b,e,f⟩:=xw (bO.mk (E4 l)) x.bf x.ak.ls true
    obtain⟨c,g,i⟩:=AC a r m d (fq (bO.mk (E4 l)) x.bf x.ak.ls true).bE.ls
    refine⟨b++c,g.trans (by rw [e]; exact q7 l b c),fun y hy=> ?_⟩
    rcases v8.1 hy with h | h
    · rw [f y h]; decide
    · exact i y h
theorem xU (r:List UInt8) (m:aB):∀ (f k:Nat) (l:List bQ),D2 (m.aa.ak+1 - ((k:Nat):Int)) < f→∃ q,eT r m f k l=l++q∧∀ x ∈ q,x.aM≠3
  | 0,k,l,h=>absurd h (Nat.not_lt_zero _)
  | f+1,k,l,h=>by
    by_cases hk:((k:Nat):Int)≤m.aa.ak
    · have hn:D2 (m.aa.ak+1 - (((k+1:Nat)):Int)) < f:=by omega
      have a:=xU r m f (k+1) l hn
      have b:∀ y:bQ,y.aM=8→∃ q,eT r m f (k+1) (l++ [y])=l++q∧∀ x ∈ q,x.aM≠3:=fun y hy=>by
        obtain⟨q,e,hq⟩:=xU r m f (k+1) (l++ [y]) hn
        refine⟨y::q,e.trans (q7 l [y] q),fun x hx=> ?_⟩
        rcases List.mem_cons.1 hx with rfl | hx
        · rw [hy]; decide
        · exact hq x hx
      unfold eT
      rw [if_pos hk]
      split
      · split
        · exact a
        · exact b _ rfl
      split
      · split
        · exact a
        · exact b _ rfl
      split
      · split
        · exact a
        · exact b _ rfl
      split
      · exact a
      · exact b _ rfl
    · unfold eT
      rw [if_neg hk]
      exact⟨[],(s9 l).symm,fun x hx=>by cases hx⟩
theorem Dl (m:aB):TS m ((je m).1.ed.ls,(je m).2):=by
  unfold je bnd
  dsimp only
  have h:=AB m (eu m.aa).1 (gG m) [] m
  obtain⟨b,c,d⟩:=AC m (eu m.aa).1 (fB m (eu m.aa).1 (gG m) [] m).2 (fB m (eu m.aa).1 (gG m) [] m).2.aa.aj.ls (fB m (eu m.aa).1 (gG m) [] m).1
  obtain⟨a,e,f⟩:=xU (eu m.aa).1 (fB m (eu m.aa).1 (gG m) [] m).2 (D2 (m.aa.ak+1 - 1)+1) 1 _ (by rw [h.sh]; exact Nat.lt_succ_self _)
  refine h.ts (IU 1) ⟨b++a,(e.trans (congrArg (· ++a) c)).trans (q7 _ b a),fun y hy=> ?_⟩
  rcases v8.1 hy with h | h
  · exact d y h
  · exact f y h
theorem AJ {w:World} {l:List fZ} (h:∀ x ∈ l,Gp w x):∀ x ∈ List.map fZ.abs l,x.aG.aY≤18446744073709551615∧s2 x.aG.aD.ls≤140737488351232∧s2 x.aG.ai.ls≤140737488351232∧s2 x.aG.ag.ls≤140737488351232:=fun x hx=>by
  obtain⟨y,hy,rfl⟩:=List.mem_map.1 hx
  have k:=(h y hy).2.2.1
  have o:=k.2.2.2.2.2.2.2.2.2.2.2.2.2.2.2.2.2.1
  have r:=k.2.2.2.2.2.2.2.2.2.2.2.2.2.2.2.2.2.2.1
  have v:=k.2.2.2.2.2.2.2.2.2.2.2.2.2.2.2.2.2.2.2
  refine⟨k.2.2.2.2.2.2.1, ?_, ?_, ?_⟩
  · show s2 y.aG.aD.ls≤_
    have a:=o.1; have b:=o.2.1; omega
  · show s2 (List.map af.abs y.aG.ai.ls)≤_
    rw [List.length_map]; have a:=r.1; have b:=r.2.1; omega
  · show s2 y.aG.ag.ls≤_
    have a:=v.1; have b:=v.2.1; omega
end Go.Proofs.YtbkagebjhbphaaaGreat
