/-
  A step of the coordinator, Take or Tick: what is told, which Low. Conditions: none beyond each law's own.
-/
import Derived.Test.YtbkagebjhbphaaaGreatCd
namespace Go.Proofs.YtbkagebjhbphaaaGreat
set_option linter.unusedVariables false
set_option linter.unusedSimpArgs false
def Cx:dC:=dC.mk 2 0 0 1 (Ll.mk [bv.mk [] 1,bv.mk [109] 2]) (Ll.mk []) (Ll.mk [])
theorem AB {r:dC} (h:jk Cx=r):List.length r.ag.ls=2∧r.au=2∧List.length r.aj.ls=0∧List.length r.aG.ls=0:=by subst h; exact⟨rfl,rfl,rfl,rfl⟩
def Bb (r:dC):aC:=aC.mk (dC.mk r.au (Int.toNat (IntKind.u64.wrap (((r.ay:Nat):Int)+1))) (eT (Int.toNat (IntKind.u64.wrap (((r.ay:Nat):Int)+1))) 32) r.aH (Ll.mk r.ag.ls) (Ll.mk r.aj.ls) (Ll.mk r.aG.ls)) 0 (Ll.mk []) (dY.mk false 0 0 (Ll.mk [])) (dY.mk false 0 0 (Ll.mk [])) (dY.mk false 0 0 (Ll.mk [])) (dY.mk false 0 0 (Ll.mk [])) (dY.mk false 0 0 (Ll.mk [])) 0 0 0 0 0
theorem xz {r:dC} {m:aC} (h:jk Cx=r) (e:Bb r=m):Mk m:=by
  subst h; subst e
  have z:mK []∧jh 0:=⟨mi,IU _⟩
  exact⟨(by dsimp only [Bb]; exact l7 _),(by dsimp only [Bb]; exact oD _ _),(by decide:(1:Nat)≤18446744073709551615),IU _,fun x hx=>(by cases hx),fun x hx=>(by cases hx),fun x hx=>(by cases hx),z,z,z,z,z⟩
theorem uz {r:dC} {m:aC} (h:jk Cx=r) (e:Bb r=m):List.length m.aa.ag.ls≤1000∧m.aa.au≤4∧List.length m.aB.ls+List.length m.aa.aj.ls≤8∧List.length m.aa.aG.ls≤0:=by
  subst h; subst e
  exact⟨(by decide:2≤1000),(by decide:(2:Int)≤4),(by decide:0+0≤8),(by decide:0≤0)⟩
end Go.Proofs.YtbkagebjhbphaaaGreat
namespace Go.Proofs.YtbkagebjhbphaaaGreat
set_option linter.unusedVariables false
set_option linter.unusedSimpArgs false
structure TS (m:aC) (E:List bP × aC):Prop where
  own:E.2.aa.ag.ls=m.aa.ag.ls
  sh:E.2.aa.au=m.aa.au
  lw:∀ k,Im k m→k+1≤1000000→Im (k+1) E.2∧Lw (lo m) (lo E.2) E.1
theorem Lw.le:∀ {l:List bP} {a b:Nat},Lw a b l→a≤b
  | [],_,_,h=>h
  | x::l,a,b,h=>by
    unfold Lw at h
    by_cases e:x.aI=3
    · rw [if_pos e] at h; exact Nat.le_trans h.1 (Lw.le h.2.2)
    · rw [if_neg e] at h; exact Lw.le h
theorem TS.same (m:aC):TS m ([],m):=⟨rfl,rfl,fun k h hl=>⟨h.mono (Nat.le_succ k) hl,Nat.le_refl _⟩⟩
theorem Tr.ts {j:Nat} {t:bQ} {m m':aC} (h:Tr j (bQ.mk (Ll.mk [])) m t m') (hj:j≤1) {o:List bP} (ho:∃ q,o=t.bE.ls++q∧∀ x ∈ q,x.aI≠3):TS m (o,m'):=⟨h.own,h.sh,fun k hk hl=>by
  obtain⟨q,rfl,hq⟩:=ho
  obtain⟨a,o,e,w⟩:=h.lw k (hk.mono (Nat.le_add_right k j) (by omega)) (by omega) hk
  have e':t.bE.ls=o:=e
  exact⟨a.mono (by omega) hl,by dsimp only; rw [e']; exact Lw.app (GJ (Nat.le_refl _) hq) w⟩⟩
theorem Dj {m:aC} {x:bP} (hq:jh x.aU) (ho:List.length m.aa.ag.ls≤1000):TS m ((dh m x).1.dR.ls,(dh m x).2.2):=by
  have s:=TS.same m
  have g:∀ r,l5 x=r→r=0→TS m ((je (bQ.mk (Ll.mk [])) x m).1.bE.ls,(je (bQ.mk (Ll.mk [])) x m).2):=fun r e a=>
    (vF (t:=(je (bQ.mk (Ll.mk [])) x m).1) (m':=(je (bQ.mk (Ll.mk [])) x m).2) rfl (qJ e a) hq ho).1.ts (Nat.le_refl 1) ⟨[],(List.append_nil _).symm,fun x hx=>by cases hx⟩
  unfold dh bnd
  split
  · dsimp only
    split
    · rename_i a
      split
      · split
        · exact s
        · exact g _ rfl a
      · exact s
    · exact s
  · dsimp only
    split
    · rename_i a
      split
      · exact g _ rfl a
      · exact s
    · exact s
theorem BS:∀ (q:List dM) (l:List Nat),gJ q l=l++List.map dM.bq q
  | [],l=>(List.append_nil l).symm
  | x::q,l=>(BS q (l++ [x.bq])).trans (List.append_assoc l [x.bq] _)
theorem Cy (m:aC):gH m=nA m:=BS _ _
theorem AC (a:aC) (r:List UInt8):∀ (q:List Nat) (l:List bP) (m:aC),Tr 0 (bQ.mk (Ll.mk l)) m (bQ.mk (Ll.mk (fC a r q l m).1)) (fC a r q l m).2
  | [],l,m=>Tr.same _ m
  | x::q,l,m=>(qZ (t:=(kF (bQ.mk (Ll.mk l)) x m).1) (m':=(kF (bQ.mk (Ll.mk l)) x m).2) rfl).2.1.trans (AC a r q _ _)
theorem AJ (a:aC) (r:List UInt8) (m:aC):∀ (d:List bL) (l:List bP), ∃ q,iW a r m d l=l++q∧∀ x ∈ q,x.aI≠3
  | [],l=>⟨[],(List.append_nil l).symm,fun x hx=>by cases hx⟩
  | x::d,l=>by
    obtain⟨b,e,f⟩:=xx (bQ.mk (Ll.mk l)) x.bf x.au.ls true
    obtain⟨c,g,i⟩:=AJ a r m d (fu (bQ.mk (Ll.mk l)) x.bf x.au.ls true).bE.ls
    refine⟨b++c,g.trans (by rw [e]; exact List.append_assoc l b c),fun y hy=> ?_⟩
    rcases List.mem_append.1 hy with h | h
    · rw [f y h]; decide
    · exact i y h
theorem xV (r:List UInt8) (m:aC):∀ (f k:Nat) (l:List bP),Int.toNat (m.aa.au+1 - ((k:Nat):Int)) < f→∃ q,eX r m f k l=l++q∧∀ x ∈ q,x.aI≠3
  | 0,k,l,h=>absurd h (Nat.not_lt_zero _)
  | f+1,k,l,h=>by
    by_cases hk:((k:Nat):Int)≤m.aa.au
    · have hn:Int.toNat (m.aa.au+1 - (((k+1:Nat)):Int)) < f:=by omega
      have a:=xV r m f (k+1) l hn
      have b:∀ y:bP,y.aI=8→∃ q,eX r m f (k+1) (l++ [y])=l++q∧∀ x ∈ q,x.aI≠3:=fun y hy=>by
        obtain⟨q,e,hq⟩:=xV r m f (k+1) (l++ [y]) hn
        refine⟨y::q,e.trans (List.append_assoc l [y] q),fun x hx=> ?_⟩
        rcases List.mem_cons.1 hx with rfl | hx
        · rw [hy]; decide
        · exact hq x hx
      unfold eX
      rw [if_pos hk]
      split
      · split
        · exact a
        · exact b _ rfl
      split
      · split
        · exact a
        · exact b _ rfl
      split
      · split
        · exact a
        · exact b _ rfl
      split
      · exact a
      · exact b _ rfl
    · unfold eX
      rw [if_neg hk]
      exact⟨[],(List.append_nil l).symm,fun x hx=>by cases hx⟩
theorem Dl (m:aC):TS m ((jg m).1.dR.ls,(jg m).2):=by
  unfold jg bnd
  dsimp only
  have h:=AC m (eu m.aa).1 (gH m) [] m
  obtain⟨b,c,d⟩:=AJ m (eu m.aa).1 (fC m (eu m.aa).1 (gH m) [] m).2 (fC m (eu m.aa).1 (gH m) [] m).2.aa.aj.ls (fC m (eu m.aa).1 (gH m) [] m).1
  obtain⟨a,e,f⟩:=xV (eu m.aa).1 (fC m (eu m.aa).1 (gH m) [] m).2 (Int.toNat (m.aa.au+1 - 1)+1) 1 _ (by rw [h.sh]; exact Nat.lt_succ_self _)
  refine h.ts (IU 1) ⟨b++a,(e.trans (congrArg (· ++a) c)).trans (List.append_assoc _ b a),fun y hy=> ?_⟩
  rcases List.mem_append.1 hy with h | h
  · exact d y h
  · exact f y h
theorem AL {w:World} {l:List gz} (h:∀ x ∈ l,Gp w x):∀ x ∈ List.map gz.abs l,x.ak.aU≤18446744073709551615∧List.length x.ak.aD.ls≤140737488351232∧List.length x.ak.ah.ls≤140737488351232∧List.length x.ak.ag.ls≤140737488351232:=fun x hx=>by
  obtain⟨y,hy,rfl⟩:=List.mem_map.1 hx
  have k:=(h y hy).2.2.1
  have o:=k.2.2.2.2.2.2.2.2.2.2.2.2.2.2.2.2.2.1
  have r:=k.2.2.2.2.2.2.2.2.2.2.2.2.2.2.2.2.2.2.1
  have v:=k.2.2.2.2.2.2.2.2.2.2.2.2.2.2.2.2.2.2.2
  refine⟨k.2.2.2.2.2.2.1, ?_, ?_, ?_⟩
  · show List.length y.ak.aD.ls≤_
    have a:=o.1; have b:=o.2.1; omega
  · show List.length (List.map af.abs y.ak.ah.ls)≤_
    rw [List.length_map]; have a:=r.1; have b:=r.2.1; omega
  · show List.length y.ak.ag.ls≤_
    have a:=v.1; have b:=v.2.1; omega
end Go.Proofs.YtbkagebjhbphaaaGreat
