/-
  What is answered to a request stays what it was. Conditions: none beyond each law's own.
-/
import Derived.Test.YtbkagebjhbphaaaGreatCd
namespace Go.Proofs.YtbkagebjhbphaaaGreat
set_option linter.unusedVariables false
set_option linter.unusedSimpArgs false
def Ei:cZ:=cZ.mk 2 0 0 1 (Ll.mk [aY.mk [] 1,aY.mk [109] 2]) (Ll.mk []) (Ll.mk [])
theorem Ch {r:cZ} (h:gW Ei=r):List.length r.ag.ls=2∧r.au=2∧List.length r.aj.ls=0∧List.length r.aF.ls=0:=by subst h; exact⟨rfl,rfl,rfl,rfl⟩
def qo (r:cZ):aA:=aA.mk (cZ.mk r.au (Int.toNat (IntKind.u64.wrap (((r.av:Nat):Int)+1))) (eU (Int.toNat (IntKind.u64.wrap (((r.av:Nat):Int)+1))) 32) r.aL (Ll.mk r.ag.ls) (Ll.mk r.aj.ls) (Ll.mk r.aF.ls)) 0 (Ll.mk []) (df.mk false 0 0 (Ll.mk [])) (df.mk false 0 0 (Ll.mk [])) (df.mk false 0 0 (Ll.mk [])) (df.mk false 0 0 (Ll.mk [])) (df.mk false 0 0 (Ll.mk [])) 0 0 0 0 0
theorem wO {r:cZ} {m:aA} (h:gW Ei=r) (e:qo r=m):Mk m:=by
  subst h; subst e
  have z:nI []∧ky 0:=⟨mE,Lg _⟩
  exact⟨(by dsimp only [qo]; exact mh _),(by dsimp only [qo]; exact nZ _ _),(by decide:(1:Nat)≤18446744073709551615),Lg _,fun x hx=>(by cases hx),fun x hx=>(by cases hx),fun x hx=>(by cases hx),z,z,z,z,z⟩
theorem tZ {r:cZ} {m:aA} (h:gW Ei=r) (e:qo r=m):List.length m.aa.ag.ls≤1000∧m.aa.au≤4∧List.length m.ay.ls+List.length m.aa.aj.ls≤8∧List.length m.aa.aF.ls≤0:=by
  subst h; subst e
  exact⟨(by decide:2≤1000),(by decide:(2:Int)≤4),(by decide:0+0≤8),(by decide:0≤0)⟩
end Go.Proofs.YtbkagebjhbphaaaGreat
namespace Go.Proofs.YtbkagebjhbphaaaGreat
set_option linter.unusedVariables false
set_option linter.unusedSimpArgs false
structure TS (m:aA) (E:List bL × aA):Prop where
  own:E.2.aa.ag.ls=m.aa.ag.ls
  sh:E.2.aa.au=m.aa.au
  lw:∀ k,Im k m→k+1≤1000000→Im (k+1) E.2∧Lw (lo m) (lo E.2) E.1
theorem Lw.le:∀ {l:List bL} {a b:Nat},Lw a b l→a≤b
  | [],_,_,h=>h
  | x::l,a,b,h=>by
    unfold Lw at h
    by_cases e:x.aD=3
    · rw [if_pos e] at h; exact Nat.le_trans h.1 (Lw.le h.2.2)
    · rw [if_neg e] at h; exact Lw.le h
theorem TS.same (m:aA):TS m ([],m):=⟨rfl,rfl,fun k h hl=>⟨h.mono (Nat.le_succ k) hl,Nat.le_refl _⟩⟩
theorem Ld {j:Nat} {t:bI} {m m':aA} (h:Tr j (bI.mk (Ll.mk [])) m t m') (hj:j≤1) {o:List bL} (ho:∃ q,o=t.aX.ls++q∧∀ x ∈ q,x.aD≠3):TS m (o,m'):=⟨h.own,h.sh,fun k hk hl=>by
  obtain⟨q,rfl,hq⟩:=ho
  obtain⟨a,o,e,w⟩:=h.lw k (hk.mono (Nat.le_add_right k j) e6) e6 hk
  have e':t.aX.ls=o:=e
  exact⟨a.mono e6 hl,by dsimp only; rw [e']; exact Lw.app (JP (Nat.le_refl _) hq) w⟩⟩
theorem zi (r:List UInt8) (m:aA):∀ (f k:Nat) (l:List bL),Int.toNat (m.aa.au+1 - ((k:Nat):Int)) < f→∃ q,fK r m f k l=l++q∧∀ x ∈ q,x.aD=8
  | 0,k,l,h=>absurd h (Nat.not_lt_zero _)
  | f+1,k,l,h=>by
    by_cases hk:((k:Nat):Int)≤m.aa.au
    · have hn:Int.toNat (m.aa.au+1 - (((k+1:Nat)):Int)) < f:=by omega
      have a:=zi r m f (k+1) l hn
      have b:∀ y:bL,y.aD=8→∃ q,fK r m f (k+1) (l++ [y])=l++q∧∀ x ∈ q,x.aD=8:=fun y hy=>by
        obtain⟨q,e,hq⟩:=zi r m f (k+1) (l++ [y]) hn
        refine⟨y::q,e.trans (List.append_assoc l [y] q),fun x hx=> ?_⟩
        rcases List.mem_cons.1 hx with rfl | hx
        · exact hy
        · exact hq x hx
      unfold fK
      rw [if_pos hk]
      split
      · split
        · exact a
        · exact b _ rfl
      split
      · split
        · exact a
        · exact b _ rfl
      split
      · split
        · exact a
        · exact b _ rfl
      split
      · exact a
      · exact b _ rfl
    · unfold fK
      rw [if_neg hk]
      exact⟨[],(List.append_nil l).symm,fun x hx=>by cases hx⟩
theorem E8 {w:World} {l:List fM} (h:∀ x ∈ l,JB w x):∀ x ∈ List.map fM.abs l,x.az.aP≤18446744073709551615∧List.length x.az.aH.ls≤140737488351232∧List.length x.az.ai.ls≤140737488351232∧List.length x.az.ag.ls≤140737488351232:=fun x hx=>by
  obtain⟨y,hy,rfl⟩:=List.mem_map.1 hx
  have k:=(h y hy).2.2.1
  have o:=k.2.2.2.2.2.2.2.2.2.2.2.2.2.2.2.2.2.1
  have r:=k.2.2.2.2.2.2.2.2.2.2.2.2.2.2.2.2.2.2.1
  have v:=k.2.2.2.2.2.2.2.2.2.2.2.2.2.2.2.2.2.2.2
  refine⟨k.2.2.2.2.2.2.1, ?_, ?_, ?_⟩
  · show List.length y.az.aH.ls≤_
    have a:=o.1; have b:=o.2.1; omega
  · show List.length (List.map ae.abs y.az.ai.ls)≤_
    rw [List.length_map]; have a:=r.1; have b:=r.2.1; omega
  · show List.length y.az.ag.ls≤_
    have a:=v.1; have b:=v.2.1; omega
end Go.Proofs.YtbkagebjhbphaaaGreat
namespace Go.Proofs.YtbkagebjhbphaaaGreat
open List renaming Sublist→S4,append_assoc→q4,append_nil→s6,getD→C0
set_option linter.unusedVariables false
set_option linter.unusedSimpArgs false
def ni (m:aA) (c:Int):df:=if c=1 then m.bA else if c=2 then m.bz else if c=3 then m.bv else m.bq
def yI (m:aA):List (Int × Nat):=List.map (fun y=>(y.aM,y.aS)) m.ay.ls
def Hw (s:Int→Nat→Int) (c:Int) (q:Nat) (k:Int):Int→Nat→Int:=fun c' q'=>if c'=c∧q'=q then k else s c' q'
def sG:List bL→(Int→Nat→Int)→(Int→Nat→Int)→Prop
  | [],s,s'=>s'=s
  | x::o,s,s'=>if x.aD=2 then(s x.fI x.aP=0∨s x.fI x.aP=x.dz)∧sG o (Hw s x.fI x.aP x.dz) s' else sG o s s'
theorem J9:∀ {o:List bL} {s:Int→Nat→Int},(∀ x ∈ o,x.aD≠2)→sG o s s
  | [],_,_=>rfl
  | x::o,s,h=>by unfold sG; rw [if_neg (h x b1)]; exact J9 fun y hy=>h y (.tail _ hy)
theorem sG.app {r:List bL} {a c:Int→Nat→Int} (b:sG r a c):∀ {o:List bL} {s:Int→Nat→Int},sG o s a→sG (o++r) s c
  | [],s,h=>by cases (show a=s from h); exact b
  | x::o,s,h=>by
    simp only [List.cons_append,sG] at h ⊢
    by_cases e:x.aD=2
    · rw [if_pos e] at h ⊢; exact⟨h.1,sG.app b h.2⟩
    · rw [if_neg e] at h ⊢; exact sG.app b h
structure Bn (s:Int→Nat→Int) (m:aA):Prop where
  old:∀ c q,s c q≠0→(11≤c∧c≤14)∧(ni m (c - 10)).cO=true∧(q < (ni m (c - 10)).aS∨q=(ni m (c - 10)).aS∧s c q=(ni m (c - 10)).dA)
  act:∀ y ∈ yI m,(1≤y.1∧y.1≤4)∧((ni m y.1).cO=true→(ni m y.1).aS < y.2)
  one:List.Pairwise (fun a b=>a.1≠b.1) (yI m)
theorem Bn.of {s:Int→Nat→Int} {m m':aA} (h:Bn s m) (ha:∀ c,ni m' c=ni m c) (hc:(yI m').Sublist (yI m)):Bn s m':=
  ⟨fun c q e=>by rw [ha]; exact h.old c q e,fun y hy=>by rw [ha]; exact h.act y (hc.subset hy),h.one.sublist hc⟩
structure TA (p:bI) (m:aA) (t:bI) (m':aA):Prop where
  oz:m'.aa.av=m.aa.av
  say:∃ o,t.aX.ls=p.aX.ls++o∧∀ s,Bn s m→∃ s',sG o s s'∧Bn s' m'
theorem TA.of {p t:bI} {m m':aA} {o:List bL} (hb:m'.aa.av=m.aa.av) (ha:∀ c,ni m' c=ni m c) (hc:(yI m').Sublist (yI m)) (ho:t.aX.ls=p.aX.ls++o) (hk:∀ x ∈ o,x.aD≠2):TA p m t m':=
  ⟨hb,o,ho,fun s A=>⟨s,J9 hk,A.of ha hc⟩⟩
theorem TA.same (p:bI) (m:aA):TA p m p m:=TA.of rfl (fun _=>rfl) (S4.refl _) (s6 _).symm fun x hx=>by cases hx
theorem TA.trans {p t u:bI} {m a b:aA} (c:TA p m t a) (d:TA t a u b):TA p m u b:=by
  obtain⟨e,f,g,h⟩:=c
  obtain⟨i,j,k,k2⟩:=d
  refine⟨i.trans e,f++j,by rw [k,g,q4],fun s A=> ?_⟩
  obtain⟨l,n,o⟩:=h s A
  obtain⟨q,r,v⟩:=k2 l o
  exact⟨q,sG.app r n,v⟩
theorem Gb {p t:bI} {c:Int} {q:Nat} {k:Int} {l:List aQ} {m m':aA} (h:dC p c q k l m=(t,m')) (hc:1≤c∧c≤4):
    ∃ x,t.aX.ls=p.aX.ls++ [x]∧x.aD=2∧x.fI=10+c∧x.aP=q∧x.dz=k∧((ni m' c).cO=true∧(ni m' c).aS=q∧(ni m' c).dA=k)∧∀ d,1≤d∧d≤4→d≠c→ni m' d=ni m d:=by
  unfold dC at h
  simp only [bnd] at h
  obtain rfl | rfl | rfl | rfl:c=1∨c=2∨c=3∨c=4:=by omega
  · rw [if_pos f4] at h
    obtain⟨rfl,rfl⟩:=Prod.mk.inj h
    exact⟨_,rfl,rfl,rfl,rfl,rfl,⟨rfl,rfl,rfl⟩,fun d _ hd=>by unfold ni; rw [if_neg hd,if_neg hd]⟩
  · rw [if_neg f4,if_pos f4] at h
    obtain⟨rfl,rfl⟩:=Prod.mk.inj h
    exact⟨_,rfl,rfl,rfl,rfl,rfl,⟨rfl,rfl,rfl⟩,fun d _ hd=>by unfold ni; rw [if_neg hd,if_neg hd]⟩
  · rw [if_neg f4,if_neg f4,if_pos f4] at h
    obtain⟨rfl,rfl⟩:=Prod.mk.inj h
    exact⟨_,rfl,rfl,rfl,rfl,rfl,⟨rfl,rfl,rfl⟩,fun d _ hd=>by unfold ni; rw [if_neg hd,if_neg hd]⟩
  · rw [if_neg f4,if_neg f4,if_neg f4] at h
    obtain⟨rfl,rfl⟩:=Prod.mk.inj h
    refine⟨_,rfl,rfl,rfl,rfl,rfl,⟨rfl,rfl,rfl⟩,fun d a hd=> ?_⟩
    obtain rfl | rfl | rfl:d=1∨d=2∨d=3:=by omega
    · rfl
    · rfl
    · rfl
theorem Gc {m:aA} {i:Nat} {y:dK} (hc:y.aM=(C0 m.ay.ls i default).aM) (hr:y.aS=(C0 m.ay.ls i default).aS):yI (oh m i y)=yI m:=by
  unfold yI oh
  dsimp only
  rw [List.map_set]
  by_cases h:i < m.ay.ls.length
  · have:(List.map (fun y:dK=>(y.aM,y.aS)) m.ay.ls)[i]'(by rw [List.length_map]; exact h)=(y.aM,y.aS):=by rw [List.getElem_map,hc,hr,List.getD_eq_getElem?_getD,List.getElem?_eq_getElem h]; rfl
    rw [← this]; exact List.set_getElem_self _
  · exact List.set_eq_of_length_le i9
theorem TA.set (p:bI) (m:aA) {i:Nat} {y:dK} (hc:y.aM=(C0 m.ay.ls i default).aM) (hr:y.aS=(C0 m.ay.ls i default).aS):TA p m p (oh m i y):=TA.of rfl (fun _=>rfl) (by rw [Gc hc hr]; exact S4.refl _) (s6 _).symm fun x hx=>by cases hx
theorem TA.decide (p:bI) (n:Nat) (l:List Int) (f:Bool) (m:aA):TA p m (dZ p n l f) m:=by
  obtain⟨q,e,h⟩:=yD p n l f
  exact TA.of rfl (fun _=>rfl) (S4.refl _) e fun x hx=>by rw [h x hx]; decide
structure TB (m:aA) (E:List bL × aA):Prop where
  oz:E.2.aa.av=m.aa.av
  say:∀ s,Bn s m→∃ s',sG E.1 s s'∧Bn s' E.2
theorem TB.same (m:aA):TB m ([],m):=⟨rfl,fun s A=>⟨s,rfl,A⟩⟩
theorem xR (m:aA) (r:Int) (x y:dK):∀ (f k:Nat) (l:List bL), ∃ q,iw m r x y f k l=l++q∧∀ z ∈ q,z.aD=3∧z.aN=y.aR
  | 0,k,l=>⟨[],(s6 _).symm,fun z hz=>by cases hz⟩
  | f+1,k,l=>by
    simp only [iw,bnd]
    split
    · exact xR m r x y f (k+1) l
    · obtain⟨q,e,hq⟩:=xR m r x y f (k+1) _
      refine⟨_::q,e.trans (q4 l [_] q),fun z hz=> ?_⟩
      rcases List.mem_cons.1 hz with rfl | hz
      · exact⟨rfl,rfl⟩
      · exact hq z hz
end Go.Proofs.YtbkagebjhbphaaaGreat
