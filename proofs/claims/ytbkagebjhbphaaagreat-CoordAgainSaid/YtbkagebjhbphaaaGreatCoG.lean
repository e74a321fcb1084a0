/-
  What is answered to a request stays what it was. Conditions: none beyond each law's own.
-/
import Derived.Test.YtbkagebjhbphaaaGreatCoX
namespace Go.Proofs.YtbkagebjhbphaaaGreat
open Int renaming toNat→D2
open IntKind renaming i64→C7
open List renaming Sublist→Q8,append_assoc→q7,append_nil→s9,drop→r6,getD→C2,getD_eq_getElem?_getD→K3,getElem?_eq_getElem→s5,getElem_map→R7,length_map→s6,length_set→H6,map_append→v7,mem_append→v8,mem_singleton→m4,pairwise_append→Q5,set→u5,take→r5
open Ll renaming mk→E4
set_option linter.unusedVariables false
set_option linter.unusedSimpArgs false
def lG (m:aB) (c:Int):dX:=if c=1 then m.aN else if c=2 then m.aO else if c=3 then m.aP else m.aM
def nM (m:aB):List (Int × Nat):=List.map (fun y=>(y.aQ,y.aF)) m.ak.ls
def Am (s:Int→Nat→Int) (c:Int) (q:Nat) (k:Int):Int→Nat→Int:=fun c' q'=>if c'=c∧q'=q then k else s c' q'
def mU:List bQ→(Int→Nat→Int)→(Int→Nat→Int)→Prop
  | [],s,s'=>s'=s
  | x::o,s,s'=>if x.aH=2 then(s x.eO x.aU=0∨s x.eO x.aU=x.dz)∧mU o (Am s x.eO x.aU x.dz) s' else mU o s s'
theorem G9:∀ {o:List bQ} {s:Int→Nat→Int},(∀ x ∈ o,x.aH≠2)→mU o s s
  | [],_,_=>rfl
  | x::o,s,h=>by unfold mU; rw [if_neg (h x b1)]; exact G9 fun y hy=>h y (.tail _ hy)
theorem mU.app {r:List bQ} {a c:Int→Nat→Int} (b:mU r a c):∀ {o:List bQ} {s:Int→Nat→Int},mU o s a→mU (o++r) s c
  | [],s,h=>by cases (show a=s from h); exact b
  | x::o,s,h=>by
    simp only [List.cons_append,mU] at h ⊢
    by_cases e:x.aH=2
    · rw [if_pos e] at h ⊢; exact⟨h.1,mU.app b h.2⟩
    · rw [if_neg e] at h ⊢; exact mU.app b h
structure rM (s:Int→Nat→Int) (m:aB):Prop where
  old:∀ c q,s c q≠0→(11≤c∧c≤14)∧(lG m (c - 10)).aT=true∧(q < (lG m (c - 10)).aF∨q=(lG m (c - 10)).aF∧s c q=(lG m (c - 10)).bn)
  act:∀ y ∈ nM m,(1≤y.1∧y.1≤4)∧((lG m y.1).aT=true→(lG m y.1).aF < y.2)
  one:List.Pairwise (fun a b=>a.1≠b.1) (nM m)
theorem rM.of {s:Int→Nat→Int} {m m':aB} (h:rM s m) (ha:∀ c,lG m' c=lG m c) (hc:(nM m').Sublist (nM m)):rM s m':=
  ⟨fun c q e=>by rw [ha]; exact h.old c q e,fun y hy=>by rw [ha]; exact h.act y (hc.subset hy),h.one.sublist hc⟩
structure TA (p:bH) (m:aB) (t:bH) (m':aB):Prop where
  mO:m'.aa.ax=m.aa.ax
  say:∃ o,t.bB.ls=p.bB.ls++o∧∀ s,rM s m→∃ s',mU o s s'∧rM s' m'
theorem TA.of {p t:bH} {m m':aB} {o:List bQ} (hb:m'.aa.ax=m.aa.ax) (ha:∀ c,lG m' c=lG m c) (hc:(nM m').Sublist (nM m)) (ho:t.bB.ls=p.bB.ls++o) (hk:∀ x ∈ o,x.aH≠2):TA p m t m':=
  ⟨hb,o,ho,fun s A=>⟨s,G9 hk,A.of ha hc⟩⟩
theorem TA.same (p:bH) (m:aB):TA p m p m:=TA.of rfl (fun _=>rfl) (Q8.refl _) (s9 _).symm fun x hx=>by cases hx
theorem TA.trans {p t u:bH} {m a b:aB} (c:TA p m t a) (d:TA t a u b):TA p m u b:=by
  obtain⟨e,f,g,h⟩:=c
  obtain⟨i,j,k,k2⟩:=d
  refine⟨i.trans e,f++j,by rw [k,g,q7],fun s A=> ?_⟩
  obtain⟨l,n,o⟩:=h s A
  obtain⟨q,r,v⟩:=k2 l o
  exact⟨q,mU.app r n,v⟩
theorem EQ {p t:bH} {c:Int} {q:Nat} {k:Int} {l:List aY} {m m':aB} (h:dB p c q k l m=(t,m')) (hc:1≤c∧c≤4):
    ∃ x,t.bB.ls=p.bB.ls++ [x]∧x.aH=2∧x.eO=10+c∧x.aU=q∧x.dz=k∧((lG m' c).aT=true∧(lG m' c).aF=q∧(lG m' c).bn=k)∧∀ d,1≤d∧d≤4→d≠c→lG m' d=lG m d:=by
  unfold dB at h
  simp only [bnd] at h
  obtain rfl | rfl | rfl | rfl:c=1∨c=2∨c=3∨c=4:=by omega
  · rw [if_pos f3] at h
    obtain⟨rfl,rfl⟩:=Prod.mk.inj h
    exact⟨_,rfl,rfl,rfl,rfl,rfl,⟨rfl,rfl,rfl⟩,fun d _ hd=>by unfold lG; rw [if_neg hd,if_neg hd]⟩
  · rw [if_neg f3,if_pos f3] at h
    obtain⟨rfl,rfl⟩:=Prod.mk.inj h
    exact⟨_,rfl,rfl,rfl,rfl,rfl,⟨rfl,rfl,rfl⟩,fun d _ hd=>by unfold lG; rw [if_neg hd,if_neg hd]⟩
  · rw [if_neg f3,if_neg f3,if_pos f3] at h
    obtain⟨rfl,rfl⟩:=Prod.mk.inj h
    exact⟨_,rfl,rfl,rfl,rfl,rfl,⟨rfl,rfl,rfl⟩,fun d _ hd=>by unfold lG; rw [if_neg hd,if_neg hd]⟩
  · rw [if_neg f3,if_neg f3,if_neg f3] at h
    obtain⟨rfl,rfl⟩:=Prod.mk.inj h
    refine⟨_,rfl,rfl,rfl,rfl,rfl,⟨rfl,rfl,rfl⟩,fun d a hd=> ?_⟩
    obtain rfl | rfl | rfl:d=1∨d=2∨d=3:=by omega
    · rfl
    · rfl
    · rfl
theorem CB {p t:bH} {c:Int} {q:Nat} {k:Int} {l:List aY} {m m':aB} (h:dB p c q k l m=(t,m')):
    ∃ x,t.bB.ls=p.bB.ls++ [x]∧∀ s,rM s m→(1≤c∧c≤4)→((lG m c).aT=true→(lG m c).aF < q)→(∀ y ∈ nM m,y.1≠c)→∃ s',mU [x] s s'∧rM s' m':=by
  have ht:=l6 h
  by_cases hc:1≤c∧c≤4
  · obtain⟨x,e,hk,hto,hr,hcd,hg,ho⟩:=EQ h hc
    have hcq:nM m'=nM m:=by unfold nM; rw [ht.2.1]
    refine⟨x,e,fun s A _ hq hn=>⟨Am s (10+c) q k, ?_, ?_⟩⟩
    · unfold mU
      rw [if_pos hk,hto,hr,hcd]
      refine⟨.inl ?_,rfl⟩
      refine Classical.byContradiction fun b=> ?_
      have a:=A.old _ _ b
      rw [show (10+c - 10:Int)=c by omega] at a
      have:=hq a.2.1
      omega
    · refine⟨fun c' q' b=> ?_,fun y hy=> ?_,hcq ▸ A.one⟩
      · unfold Am at b ⊢
        by_cases hh:c'=10+c∧q'=q
        · rw [if_pos hh]
          obtain⟨rfl,rfl⟩:=hh
          rw [show (10+c - 10:Int)=c by omega]
          exact⟨e6,hg.1, .inr ⟨hg.2.1.symm,hg.2.2.symm⟩⟩
        · rw [if_neg hh] at b ⊢
          have a:=A.old _ _ b
          by_cases hc':c' - 10=c
          · rw [hc'] at a ⊢
            have:=hq a.2.1
            exact⟨a.1,hg.1, .inl (by rw [hg.2.1]; omega)⟩
          · rw [ho (c' - 10) e6 hc']
            exact a
      · rw [hcq] at hy
        have a:=A.act y hy
        rw [ho y.1 a.1 (hn y hy)]
        exact a
  · obtain⟨x,e,_⟩:=ht.2.2.2.1
    exact⟨x,e,fun s _ hc'=>absurd hc' hc⟩
theorem ER {L:List (Int × Nat)} {i:Nat} (hi:i < L.length) (h:List.Pairwise (fun a b=>a.1≠b.1) L):∀ z ∈ r5 i L++r6 (i+1) L,z.1≠(L[i]).1:=by
  have e:L=r5 i L++L[i]::r6 (i+1) L:=by rw [← List.drop_eq_getElem_cons hi,List.take_append_drop]
  have h':=h
  rw [e] at h'
  obtain⟨_,d,f⟩:=Q5.1 h'
  intro z hz
  rcases v8.1 hz with c | c
  · exact f z c _ b1
  · exact fun e=>(List.pairwise_cons.1 d).1 z c e.symm
theorem CE {p t b:bH} {i:Nat} {k:Int} {l:List aY} {m a m':aB} (hi:i < m.ak.ls.length)
    (e:dB p (C2 m.ak.ls i default).aQ (C2 m.ak.ls i default).aF k l a=(b,m')) (ha:∀ c,lG a c=lG m c) (hc:nM a=nM (uq m i)) (hb:a.aa.ax=m.aa.ax) {n:Nat} {sh:List Int} {f:Bool} (ht:t=eG b n sh f):TA p m t m':=by
  obtain⟨x,ex,hx⟩:=CB e
  obtain⟨q,eq,hq⟩:=sw b n sh f
  have hs:nM (uq m i)=r5 i (nM m)++r6 (i+1) (nM m):=by simp only [nM,uq,v7,List.map_take,List.map_drop]
  have hl:i < (nM m).length:=by unfold nM; rw [s6]; exact hi
  have hg:(nM m)[i]=((C2 m.ak.ls i default).aQ,(C2 m.ak.ls i default).aF):=by
    simp only [nM,R7]
    rw [K3,s5 hi]; rfl
  refine⟨by rw [(l6 e).1]; exact hb, [x]++q,by rw [ht,eq,ex,q7],fun s A=> ?_⟩
  have h:rM s a:=A.of ha (by rw [hc,hs]; exact qg _ _)
  have d:=A.act _ (List.getElem_mem hl)
  have g:=ER hl A.one
  rw [hg] at d g
  obtain⟨s',j,k2⟩:=hx s h d.1 (by rw [ha]; exact d.2) (fun y hy=>g y (by rw [hc,hs] at hy; exact hy))
  exact⟨s',mU.app (G9 fun y hy=>by rw [hq y hy]; decide) j,k2⟩
theorem xh {p t:bH} {i:Int} {m m':aB} (hi:D2 i < m.ak.ls.length) (h:eH p i m=(t,m')):TA p m t m':=by
  unfold eH at h
  simp only [bnd] at h
  rcases e:dB p (C2 m.ak.ls (D2 i) default).aQ (C2 m.ak.ls (D2 i) default).aF 2 [] (uq m (D2 i)) with ⟨b,c⟩
  have e':=e
  unfold uq at e'
  rw [e'] at h
  have ha:=l6 e
  obtain⟨ht,a⟩:=Prod.mk.inj h
  obtain rfl:=nE a (by rw [ha.1]; rfl) (by rw [ha.1]; rfl) (by rw [ha.1]; rfl) (by rw [ha.2.1]; rfl)
  exact CE hi e (fun _=>rfl) rfl rfl ht.symm
theorem CF {p t:bH} {i:Int} {m m':aB} (hi:D2 i < m.ak.ls.length) (h:jA p i m=(t,m')):TA p m t m':=by
  unfold jA at h
  simp only [bnd,jQ] at h
  rcases eg:mH (C2 m.ak.ls (D2 i) default).bS.ls (C2 m.ak.ls (D2 i) default).aD.ls (C2 m.ak.ls (D2 i) default).ae.ls with ⟨rs,ge⟩
  rcases es:bT m.aa.aj.ls (C2 m.ak.ls (D2 i) default).aX with ⟨j,oj⟩
  rcases el:gI m.aa.aI.ls (C2 m.ak.ls (D2 i) default).aQ with ⟨q,oq⟩
  rw [eg,es,el] at h
  obtain⟨sl,hsl⟩:∃ sl,gp (C2 m.ak.ls (D2 i) default).aD.ls []=sl:=⟨_,rfl⟩
  rw [hsl] at h
  have go:∀ {L:List fE} {b:bH} {c:aB},dB p (C2 m.ak.ls (D2 i) default).aQ (C2 m.ak.ls (D2 i) default).aF 1 rs (ol m (D2 i) (D2 j) (bM.mk (C2 m.ak.ls (D2 i) default).aX (C2 m.ak.ls (D2 i) default).aQ m.aa.ax (C2 m.ak.ls (D2 i) default).aF (E4 sl)) L)=(b,c)→TA p m (eG b (C2 m.ak.ls (D2 i) default).aX sl true) c:=fun e=>CE hi e (fun _=>rfl) rfl rfl rfl
  split at h
  · split at h
    · rcases e:dB p (C2 m.ak.ls (D2 i) default).aQ (C2 m.ak.ls (D2 i) default).aF 1 rs (ol m (D2 i) (D2 j) (bM.mk (C2 m.ak.ls (D2 i) default).aX (C2 m.ak.ls (D2 i) default).aQ m.aa.ax (C2 m.ak.ls (D2 i) default).aF (E4 sl)) (u5 m.aa.aI.ls (D2 q) (fE.mk (C2 m.ak.ls (D2 i) default).aQ m.aa.ax (C2 m.ak.ls (D2 i) default).aF (E4 rs)))) with ⟨b,c⟩
      have ha:=l6 e
      have e':=e
      unfold ol at e'
      rw [e'] at h
      obtain⟨rfl,a⟩:=Prod.mk.inj h
      obtain rfl:=nE a (by rw [ha.1]; rfl) (by rw [ha.1]; rfl) (by rw [ha.1]; rfl) (by rw [ha.2.1]; rfl)
      exact go e
    · rcases e:dB p (C2 m.ak.ls (D2 i) default).aQ (C2 m.ak.ls (D2 i) default).aF 1 rs (ol m (D2 i) (D2 j) (bM.mk (C2 m.ak.ls (D2 i) default).aX (C2 m.ak.ls (D2 i) default).aQ m.aa.ax (C2 m.ak.ls (D2 i) default).aF (E4 sl)) (r5 (D2 q) m.aa.aI.ls++((fE.mk (C2 m.ak.ls (D2 i) default).aQ m.aa.ax (C2 m.ak.ls (D2 i) default).aF (E4 rs))::r6 (D2 q) m.aa.aI.ls))) with ⟨b,c⟩
      have ha:=l6 e
      have e':=e
      unfold ol at e'
      rw [e'] at h
      obtain⟨rfl,a⟩:=Prod.mk.inj h
      obtain rfl:=nE a (by rw [ha.1]; rfl) (by rw [ha.1]; rfl) (by rw [ha.1]; rfl) (by rw [ha.2.1]; rfl)
      exact go e
  · rcases e:eH p i m with ⟨b,c⟩
    rw [e] at h
    have ha:=o5 hi e
    obtain⟨rfl,a⟩:=Prod.mk.inj h
    obtain rfl:=nE a (by rw [ha.1]) (by rw [ha.1]) (by rw [ha.1]) rfl
    exact xh hi e
theorem CG {m:aB} {i:Nat} {y:dE} (hc:y.aQ=(C2 m.ak.ls i default).aQ) (hr:y.aF=(C2 m.ak.ls i default).aF):nM (qh m i y)=nM m:=by
  unfold nM qh
  dsimp only
  rw [List.map_set]
  by_cases h:i < m.ak.ls.length
  · have:(List.map (fun y:dE=>(y.aQ,y.aF)) m.ak.ls)[i]'(by rw [s6]; exact h)=(y.aQ,y.aF):=by rw [R7,hc,hr,K3,s5 h]; rfl
    rw [← this]; exact List.set_getElem_self _
  · exact List.set_eq_of_length_le i9
theorem TA.set (p:bH) (m:aB) {i:Nat} {y:dE} (hc:y.aQ=(C2 m.ak.ls i default).aQ) (hr:y.aF=(C2 m.ak.ls i default).aF):TA p m p (qh m i y):=TA.of rfl (fun _=>rfl) (by rw [CG hc hr]; exact Q8.refl _) (s9 _).symm fun x hx=>by cases hx
theorem D9 {p t:bH} {x:bQ} {m m':aB} (h:jN p x m=(t,m')):TA p m t m':=by
  have same:(p,m)=(t,m')→TA p m t m':=fun h=>by
    obtain⟨rfl,rfl⟩:=Prod.mk.inj h
    exact TA.same p m
  unfold jN iO at h
  simp only [bnd] at h
  rcases ef:df m.ak.ls x.bi with ⟨i,ok⟩
  rw [ef] at h
  split at h
  case isFalse=>exact same h
  rename_i hok
  have hi:=xS ef hok
  split at h
  · exact same h
  split at h
  · exact same h
  have ab:∀ {c:bH} {a:aB},eH p i m=(c,a)→(c,aB.mk (dC.mk a.aa.av a.aa.ax a.aa.bf a.aa.aK (E4 m.aa.ag.ls) (E4 m.aa.aj.ls) (E4 m.aa.aI.ls)) a.bI (E4 a.ak.ls) a.aR a.aN a.aO a.aP a.aM a.di a.cz a.cK a.cB a.cu)=(t,m')→TA p m t m':=fun e h=>by
    have ha:=o5 hi e
    obtain⟨rfl,b⟩:=Prod.mk.inj h
    obtain rfl:=nE b (by rw [ha.1]) (by rw [ha.1]) (by rw [ha.1]) rfl
    exact xh hi e
  split at h
  · split at h
    · split at h
      · obtain⟨rfl,rfl⟩:=Prod.mk.inj h
        refine TA.set p m (i:=D2 i) ?_ ?_
        · rfl
        · rfl
      · rcases e:jA p i (qh m (D2 i) (dE.mk (C2 m.ak.ls (D2 i) default).aX (C2 m.ak.ls (D2 i) default).aQ (C2 m.ak.ls (D2 i) default).aF (C2 m.ak.ls (D2 i) default).dh (E4 (C2 m.ak.ls (D2 i) default).bS.ls) (E4 (C2 m.ak.ls (D2 i) default).aD.ls) (E4 (u5 (C2 m.ak.ls (D2 i) default).bE.ls (D2 (eQ (C2 m.ak.ls (D2 i) default).aD.ls x)) true)) (E4 (u5 (C2 m.ak.ls (D2 i) default).ae.ls (D2 (eQ (C2 m.ak.ls (D2 i) default).aD.ls x)) (E4 x.ah.ls))) (C2 m.ak.ls (D2 i) default).dO)) with ⟨c,a⟩
        have e':=e
        unfold qh at e'
        rw [e'] at h
        have hl:=(show D2 i < (u5 m.ak.ls (D2 i) (dE.mk (C2 m.ak.ls (D2 i) default).aX (C2 m.ak.ls (D2 i) default).aQ (C2 m.ak.ls (D2 i) default).aF (C2 m.ak.ls (D2 i) default).dh (E4 (C2 m.ak.ls (D2 i) default).bS.ls) (E4 (C2 m.ak.ls (D2 i) default).aD.ls) (E4 (u5 (C2 m.ak.ls (D2 i) default).bE.ls (D2 (eQ (C2 m.ak.ls (D2 i) default).aD.ls x)) true)) (E4 (u5 (C2 m.ak.ls (D2 i) default).ae.ls (D2 (eQ (C2 m.ak.ls (D2 i) default).aD.ls x)) (E4 x.ah.ls))) (C2 m.ak.ls (D2 i) default).dO)).length from by rw [H6]; exact hi)
        have hc:=wL hl e
        obtain⟨rfl,b⟩:=Prod.mk.inj h
        obtain rfl:=nE b (by rw [hc.1.own]; rfl) rfl rfl rfl
        refine TA.trans ?_ (CF hl e)
        refine TA.set p m (i:=D2 i) ?_ ?_
        · rfl
        · rfl
    · rcases e:eH p i m with ⟨c,a⟩
      rw [e] at h; exact ab e h
  · rcases e:eH p i m with ⟨c,a⟩
    rw [e] at h; exact ab e h
theorem ES {p t:bH} {x:bQ} {m m':aB} (h:jY p x m=(t,m')):TA p m t m':=by
  unfold jY at h
  simp only [bnd] at h
  split at h
  · split at h
    · obtain⟨rfl,rfl⟩:=Prod.mk.inj h
      exact TA.of rfl (fun _=>rfl) (Q8.refl _) (s9 _).symm fun x hx=>by cases hx
    · obtain⟨rfl,rfl⟩:=Prod.mk.inj h
      exact TA.of rfl (fun _=>rfl) (Q8.refl _) (s9 _).symm fun x hx=>by cases hx
  · obtain⟨rfl,rfl⟩:=Prod.mk.inj h
    exact TA.same p m
theorem TA.decide (p:bH) (n:Nat) (l:List Int) (f:Bool) (m:aB):TA p m (eG p n l f) m:=by
  obtain⟨q,e,h⟩:=sw p n l f
  exact TA.of rfl (fun _=>rfl) (Q8.refl _) e fun x hx=>by rw [h x hx]; decide
theorem ET (p:bH) (x:bQ) (m:aB):TA p m (kW p x m) m:=by
  unfold kW
  simp only [bnd]
  split
  · exact TA.decide _ _ _ _ _
  · split
    · exact TA.same _ _
    · exact TA.decide _ _ _ _ _
theorem CJ {c:Int}:∀ {l:List dE} {k:Nat},lp (dY c l k) (fun _=>(-1:Int)) < 0→∀ y ∈ l,y.aQ≠c
  | [],_,_,y,hy=>by cases hy
  | x::l,k,h,y,hy=>by
    simp only [dY] at h
    by_cases e:x.aQ=c
    · rw [if_pos e] at h
      simp only [lp] at h
      omega
    · rw [if_neg e] at h
      rcases List.mem_cons.1 hy with rfl | hy
      · exact e
      · exact CJ h y hy
theorem EU {c:Int} {l:List dE} (h: ¬ ic l c=true):∀ y ∈ l,y.aQ≠c:=by
  unfold ic jh at h
  simp only [bnd,decide_eq_true_eq] at h
  exact CJ (Int.lt_of_not_ge h)
theorem EW {p t:bH} {c:Int} {x:bQ} {m m':aB} (h:dU p c x m=(t,m')):m'.aa.ax=m.aa.ax∧∃ o,t.bB.ls=p.bB.ls++o∧∀ s,rM s m→(1≤c∧c≤4)→((lG m c).aT=true→(lG m c).aF < x.aU)→(∀ y ∈ m.ak.ls,y.aQ≠c)→∃ s',mU o s s'∧rM s' m':=by
  unfold dU at h
  simp only [bnd] at h
  rcases ec:lQ m.aa.ag.ls x.aG.ls with ⟨ps,e⟩
  rw [ec] at h
  have hn:(∀ y ∈ m.ak.ls,y.aQ≠c)→∀ y ∈ nM m,y.1≠c:=fun hn y hy=>by
    obtain⟨z,hz,rfl⟩:=List.mem_map.1 hy
    exact hn z hz
  have no:∀ {d:bH} {a:aB},dB p c x.aU 2 [] (sW m)=(d,a)→(d,aB.mk (dC.mk a.aa.av a.aa.ax a.aa.bf a.aa.aK (E4 m.aa.ag.ls) (E4 m.aa.aj.ls) (E4 m.aa.aI.ls)) a.bI (E4 m.ak.ls) a.aR a.aN a.aO a.aP a.aM a.di a.cz a.cK a.cB a.cu)=(t,m')→m'.aa.ax=m.aa.ax∧∃ o,t.bB.ls=p.bB.ls++o∧∀ s,rM s m→(1≤c∧c≤4)→((lG m c).aT=true→(lG m c).aF < x.aU)→(∀ y ∈ m.ak.ls,y.aQ≠c)→∃ s',mU o s s'∧rM s' m':=fun {d a} e h=>by
    have ha:=l6 e
    obtain⟨z,ez,hz⟩:=CB e
    obtain⟨rfl,f⟩:=Prod.mk.inj h
    obtain rfl:=nE f (by rw [ha.1]; rfl) (by rw [ha.1]; rfl) (by rw [ha.1]; rfl) (by rw [ha.2.1]; rfl)
    exact⟨by rw [ha.1]; rfl, [z],ez,fun s A g i j=>hz s (A.of (fun _=>rfl) (Q8.refl _)) g i (hn j)⟩
  rcases b:dB p c x.aU 2 [] (sW m) with ⟨d,a⟩
  have e':=b
  unfold sW at e'
  rw [e'] at h
  split at h
  · exact no b h
  split at h
  · exact no b h
  split at h
  · exact no b h
  split at h
  · obtain⟨q,eq,hq⟩:=xU c x m (gP m) ps ps 0 p.bB.ls
    obtain⟨rfl,rfl⟩:=Prod.mk.inj h
    refine⟨rfl,q,eq,fun s A g i j=>⟨s,G9 fun y hy=>by rw [(hq y hy).1]; decide,A.old,fun y hy=> ?_, ?_⟩⟩
    · have hy':=hy
      simp only [nM,v7,List.map_cons,List.map_nil] at hy'
      rcases v8.1 hy' with k | k
      · exact A.act y k
      · rw [m4.1 k]; exact⟨g,i⟩
    · simp only [nM,v7,List.map_cons,List.map_nil]
      refine Q5.2 ⟨A.one,List.pairwise_singleton _ _,fun y hy z hz=> ?_⟩
      rw [m4.1 hz]
      exact hn j y hy
  · exact no b h
theorem BH {p t:bH} {x:bQ} {m m':aB} (h:iP p x m=(t,m')) (hf:11≤x.aJ∧x.aJ≤14) (hb:x.ax=m.aa.ax):TA p m t m':=by
  unfold iP at h
  rw [if_pos (by rw [hb])] at h
  simp only [bnd] at h
  have sa:(p,m)=(t,m')→TA p m t m':=fun h=>by
    obtain⟨rfl,rfl⟩:=Prod.mk.inj h
    exact TA.same p m
  split at h
  · exact sa h
  rename_i hno
  have hn:=EU hno
  have sn:∀ y,(dA p y,m)=(t,m')→y.aH=2→y.eO=10+(x.aJ - 10)→y.aU=(lG m (x.aJ - 10)).aF→y.dz=(lG m (x.aJ - 10)).bn→(lG m (x.aJ - 10)).aT=true→TA p m t m':=fun y h hy g n l r=>by
    obtain⟨rfl,rfl⟩:=Prod.mk.inj h
    refine⟨rfl, [_],rfl,fun s A=>⟨Am s y.eO y.aU y.dz, ?_, ?_⟩⟩
    · unfold mU
      rw [if_pos hy]
      refine⟨?_,rfl⟩
      by_cases f:s y.eO y.aU=0
      · exact .inl f
      · have i:=(A.old _ _ f).2.2
        rw [g,show (10+(x.aJ - 10) - 10:Int)=x.aJ - 10 by omega] at i
        rcases i with i | i
        · omega
        · refine .inr ?_
          rw [g,l]; exact i.2
    · refine⟨fun c q f=> ?_,A.act,A.one⟩
      unfold Am at f ⊢
      by_cases hh:c=y.eO∧q=y.aU
      · rw [if_pos hh]
        obtain⟨rfl,rfl⟩:=hh
        rw [g,show (10+(x.aJ - 10) - 10:Int)=x.aJ - 10 by omega]
        exact⟨e6,r, .inr ⟨n,l⟩⟩
      · rw [if_neg hh] at f ⊢
        exact A.old _ _ f
  have be:((lG m (x.aJ - 10)).aT=true→(lG m (x.aJ - 10)).aF < x.aU)→((dU p (x.aJ - 10) x m).1,(dU p (x.aJ - 10) x m).2)=(t,m')→TA p m t m':=fun g h=>by
    obtain⟨b,o,e,k⟩:=EW (show dU p (x.aJ - 10) x m=(t,m') from h)
    exact⟨b,o,e,fun s A=>k s A e6 g hn⟩
  split at h
  · rename_i hc
    have ea:lG m (x.aJ - 10)=m.aN:=if_pos hc
    split at h
    · rename_i hg
      split at h
      · split at h
        · exact sn _ h rfl rfl (by rw [ea]) (by rw [ea]) (by rw [ea]; exact hg)
        · exact sa h
      · exact be (fun _=>by rw [ea]; omega) h
    · rename_i hg
      exact be (fun a=>absurd (ea ▸ a) hg) h
  rename_i d
  split at h
  · rename_i hc
    have ea:lG m (x.aJ - 10)=m.aO:=(if_neg d).trans (if_pos hc)
    split at h
    · rename_i hg
      split at h
      · split at h
        · exact sn _ h rfl rfl (by rw [ea]) (by rw [ea]) (by rw [ea]; exact hg)
        · exact sa h
      · exact be (fun _=>by rw [ea]; omega) h
    · rename_i hg
      exact be (fun a=>absurd (ea ▸ a) hg) h
  rename_i j
  split at h
  · rename_i hc
    have ea:lG m (x.aJ - 10)=m.aP:=(if_neg d).trans ((if_neg j).trans (if_pos hc))
    split at h
    · rename_i hg
      split at h
      · split at h
        · exact sn _ h rfl rfl (by rw [ea]) (by rw [ea]) (by rw [ea]; exact hg)
        · exact sa h
      · exact be (fun _=>by rw [ea]; omega) h
    · rename_i hg
      exact be (fun a=>absurd (ea ▸ a) hg) h
  · rename_i hc
    have ea:lG m (x.aJ - 10)=m.aM:=(if_neg d).trans ((if_neg j).trans (if_neg hc))
    split at h
    · rename_i hg
      split at h
      · split at h
        · exact sn _ h rfl rfl (by rw [ea]) (by rw [ea]) (by rw [ea]; exact hg)
        · exact sa h
      · exact be (fun _=>by rw [ea]; omega) h
    · rename_i hg
      exact be (fun a=>absurd (ea ▸ a) hg) h
theorem Ea {p t:bH} {x:bQ} {m m':aB} (h:iG p x m=(t,m')) (hx:Dp x) (hb:x.aH=1→x.ax=m.aa.ax):TA p m t m':=by
  unfold iG at h
  simp only [bnd] at h
  split at h
  · rename_i hk
    exact BH (show iP p x m=(t,m') from h) (hx.rZ hk) (hb hk)
  split at h
  · exact D9 (show jN p x m=(t,m') from h)
  split at h
  · exact ES (show jY p x m=(t,m') from h)
  split at h
  · obtain⟨rfl,rfl⟩:=Prod.mk.inj h
    exact ET p x m
  have mp:∀ {a:aB},(p,a)=(t,m')→a.aa=m.aa→a.ak.ls=m.ak.ls→(∀ c,lG a c=lG m c)→TA p m t m':=fun h b d e=>by
    obtain⟨rfl,rfl⟩:=Prod.mk.inj h
    exact TA.of (by rw [b]) e (by unfold nM; rw [d]; exact Q8.refl _) (s9 _).symm fun x hx=>by cases hx
  split at h
  · split at h
    · exact mp h rfl rfl fun _=>rfl
    split at h
    · exact mp h rfl rfl fun _=>rfl
    split at h
    · exact mp h rfl rfl fun _=>rfl
    · exact mp h rfl rfl fun _=>rfl
  split at h
  · exact mp h rfl rfl fun _=>rfl
  split at h
  · exact mp h rfl rfl fun _=>rfl
  · exact mp h rfl rfl fun _=>rfl
structure TB (m:aB) (E:List bQ × aB):Prop where
  mO:E.2.aa.ax=m.aa.ax
  say:∀ s,rM s m→∃ s',mU E.1 s s'∧rM s' E.2
theorem TB.same (m:aB):TB m ([],m):=⟨rfl,fun s A=>⟨s,rfl,A⟩⟩
theorem TA.tb {t:bH} {m m':aB} (h:TA (bH.mk (E4 [])) m t m') {o:List bQ} (ho:∃ q,o=t.bB.ls++q∧∀ x ∈ q,x.aH≠2):TB m (o,m'):=⟨h.mO,fun s A=>by
  obtain⟨q,rfl,hq⟩:=ho
  obtain⟨o,e,k⟩:=h.say
  have e':t.bB.ls=o:=e
  obtain⟨s',y,A'⟩:=k s A
  exact⟨s',by dsimp only; rw [e']; exact mU.app (G9 hq) y,A'⟩⟩
theorem Eb {m:aB} {x:bQ} (hb:x.aH=1→x.ax=m.aa.ax):TB m ((eF m x).1.eP.ls,(eF m x).2.2):=by
  have s:=TB.same m
  have g:∀ r,mf x=r→r=0→TB m ((iG (bH.mk (E4 [])) x m).1.bB.ls,(iG (bH.mk (E4 [])) x m).2):=fun r e a=>
    (Ea (t:=(iG (bH.mk (E4 [])) x m).1) (m':=(iG (bH.mk (E4 [])) x m).2) rfl (qW e a) hb).tb ⟨[],(s9 _).symm,fun x hx=>by cases hx⟩
  unfold eF bnd
  split
  · dsimp only
    split
    · rename_i a
      split
      · split
        · exact s
        · exact g _ rfl a
      · exact s
    · exact s
  · dsimp only
    split
    · rename_i a
      split
      · exact g _ rfl a
      · exact s
    · exact s
theorem xk (m:aB) (r:Int) (x y:dE):∀ (f k:Nat) (l:List bQ), ∃ q,gJ m r x y f k l=l++q∧∀ z ∈ q,z.aH=3
  | 0,k,l=>⟨[],(s9 _).symm,fun z hz=>by cases hz⟩
  | f+1,k,l=>by
    simp only [gJ,bnd]
    split
    · exact xk m r x y f (k+1) l
    · obtain⟨q,e,hq⟩:=xk m r x y f (k+1) _
      refine⟨_::q,e.trans (q7 l [_] q),fun z hz=> ?_⟩
      rcases List.mem_cons.1 hz with rfl | hz
      · rfl
      · exact hq z hz
theorem Ec {p t:bH} {n:Nat} {m m':aB} (h:iT p n m=(t,m')):TA p m t m':=by
  unfold iT at h
  simp only [bnd] at h
  rcases ef:df m.ak.ls n with ⟨i,ok⟩
  rw [ef] at h
  split at h
  case isFalse=>
    obtain⟨rfl,rfl⟩:=Prod.mk.inj h
    exact TA.same p m
  rename_i hok
  have hi:=xS ef hok
  have hs:=TA.set p m (i:=D2 i) (y:=dE.mk (C2 m.ak.ls (D2 i) default).aX (C2 m.ak.ls (D2 i) default).aQ (C2 m.ak.ls (D2 i) default).aF (C2 m.ak.ls (D2 i) default).dh (E4 (C2 m.ak.ls (D2 i) default).bS.ls) (E4 (C2 m.ak.ls (D2 i) default).aD.ls) (E4 (C2 m.ak.ls (D2 i) default).bE.ls) (E4 (C2 m.ak.ls (D2 i) default).ae.ls) (C7.wrap ((C2 m.ak.ls (D2 i) default).dO+1))) rfl rfl
  split at h
  · rcases e:eH p i (qh m (D2 i) (dE.mk (C2 m.ak.ls (D2 i) default).aX (C2 m.ak.ls (D2 i) default).aQ (C2 m.ak.ls (D2 i) default).aF (C2 m.ak.ls (D2 i) default).dh (E4 (C2 m.ak.ls (D2 i) default).bS.ls) (E4 (C2 m.ak.ls (D2 i) default).aD.ls) (E4 (C2 m.ak.ls (D2 i) default).bE.ls) (E4 (C2 m.ak.ls (D2 i) default).ae.ls) (C7.wrap ((C2 m.ak.ls (D2 i) default).dO+1)))) with ⟨b,c⟩
    have e':=e
    unfold qh at e'
    rw [e'] at h
    have hl:D2 i < (qh m (D2 i) (dE.mk (C2 m.ak.ls (D2 i) default).aX (C2 m.ak.ls (D2 i) default).aQ (C2 m.ak.ls (D2 i) default).aF (C2 m.ak.ls (D2 i) default).dh (E4 (C2 m.ak.ls (D2 i) default).bS.ls) (E4 (C2 m.ak.ls (D2 i) default).aD.ls) (E4 (C2 m.ak.ls (D2 i) default).bE.ls) (E4 (C2 m.ak.ls (D2 i) default).ae.ls) (C7.wrap ((C2 m.ak.ls (D2 i) default).dO+1)))).ak.ls.length:=by unfold qh; simp only [H6]; exact hi
    have ha:=o5 hl e
    obtain⟨rfl,a⟩:=Prod.mk.inj h
    obtain rfl:=nE a (by rw [ha.1]; rfl) (by rw [ha.1]; rfl) (by rw [ha.1]; rfl) rfl
    exact hs.trans (xh hl e)
  · obtain⟨q,eq,hq⟩:=xk m i (C2 m.ak.ls (D2 i) default) (C2 (u5 m.ak.ls (D2 i) (dE.mk (C2 m.ak.ls (D2 i) default).aX (C2 m.ak.ls (D2 i) default).aQ (C2 m.ak.ls (D2 i) default).aF (C2 m.ak.ls (D2 i) default).dh (E4 (C2 m.ak.ls (D2 i) default).bS.ls) (E4 (C2 m.ak.ls (D2 i) default).aD.ls) (E4 (C2 m.ak.ls (D2 i) default).bE.ls) (E4 (C2 m.ak.ls (D2 i) default).ae.ls) (C7.wrap ((C2 m.ak.ls (D2 i) default).dO+1)))) (D2 i) default) _ 0 p.bB.ls
    obtain⟨rfl,rfl⟩:=Prod.mk.inj h
    obtain⟨hb,o,ho,hk⟩:=hs
    refine⟨rfl,q,eq,fun s A=>⟨s,G9 fun y hy=>by rw [hq y hy]; decide, ?_⟩⟩
    exact A.of (fun _=>rfl) (by
      have:=CG (m:=m) (i:=D2 i) (y:=dE.mk (C2 m.ak.ls (D2 i) default).aX (C2 m.ak.ls (D2 i) default).aQ (C2 m.ak.ls (D2 i) default).aF (C2 m.ak.ls (D2 i) default).dh (E4 (C2 m.ak.ls (D2 i) default).bS.ls) (E4 (C2 m.ak.ls (D2 i) default).aD.ls) (E4 (C2 m.ak.ls (D2 i) default).bE.ls) (E4 (C2 m.ak.ls (D2 i) default).ae.ls) (C7.wrap ((C2 m.ak.ls (D2 i) default).dO+1))) rfl rfl
      exact this ▸ Q8.refl _)
theorem Br (a:aB) (r:List UInt8):∀ (q:List Nat) (l:List bQ) (m:aB),TA (bH.mk (E4 l)) m (bH.mk (E4 (eT a r q l m).1)) (eT a r q l m).2
  | [],l,m=>TA.same _ m
  | x::q,l,m=>(Ec (t:=(iT (bH.mk (E4 l)) x m).1) (m':=(iT (bH.mk (E4 l)) x m).2) rfl).trans (Br a r q _ _)
theorem Ed (m:aB):TB m ((jk m).1.eP.ls,(jk m).2):=by
  unfold jk bnd
  dsimp only
  have h:=Br m (eD m.aa).1 (iM m) [] m
  have hs:=Bp m (eD m.aa).1 (iM m) [] m
  obtain⟨b,c,d⟩:=Bq m (eD m.aa).1 (eT m (eD m.aa).1 (iM m) [] m).2 (eT m (eD m.aa).1 (iM m) [] m).2.aa.aj.ls (eT m (eD m.aa).1 (iM m) [] m).1
  obtain⟨a,e,f⟩:=yE (eD m.aa).1 (eT m (eD m.aa).1 (iM m) [] m).2 (D2 (m.aa.av+1 - 1)+1) 1 _ (by rw [hs.sh]; exact Nat.lt_succ_self _)
  refine h.tb ⟨b++a,(e.trans (congrArg (· ++a) c)).trans (q7 _ b a),fun y hy=> ?_⟩
  rcases v8.1 hy with h | h
  · rw [d y h]; decide
  · rw [f y h]; decide
end Go.Proofs.YtbkagebjhbphaaaGreat
