/-
  What is answered to a request stays what it was. Conditions: none beyond each law's own.
-/
import Derived.Test.YtbkagebjhbphaaaGreatCoX
namespace Go.Proofs.YtbkagebjhbphaaaGreat
open Int renaming toNat→D2
open IntKind renaming i64→C7
open List renaming Sublist→Q7,append_assoc→q7,append_nil→s9,drop→r6,getD→C2,getD_eq_getElem?_getD→K1,getElem?_eq_getElem→s5,getElem_map→R6,length_map→s6,length_set→H5,map_append→v7,mem_append→v8,mem_singleton→m4,pairwise_append→Q4,set→u5,take→r5
open Ll renaming mk→E4
set_option linter.unusedVariables false
set_option linter.unusedSimpArgs false
def lG (m:aB) (c:Int):dX:=if c=1 then m.bf else if c=2 then m.bi else if c=3 then m.bn else m.aZ
def nO (m:aB):List (Int × Nat):=List.map (fun y=>(y.aK,y.aM)) m.au.ls
def Ap (s:Int→Nat→Int) (c:Int) (q:Nat) (k:Int):Int→Nat→Int:=fun c' q'=>if c'=c∧q'=q then k else s c' q'
def mV:List bM→(Int→Nat→Int)→(Int→Nat→Int)→Prop
  | [],s,s'=>s'=s
  | x::o,s,s'=>if x.aG=2 then(s x.eP x.aO=0∨s x.eP x.aO=x.cZ)∧mV o (Ap s x.eP x.aO x.cZ) s' else mV o s s'
theorem Hd:∀ {o:List bM} {s:Int→Nat→Int},(∀ x ∈ o,x.aG≠2)→mV o s s
  | [],_,_=>rfl
  | x::o,s,h=>by unfold mV; rw [if_neg (h x b1)]; exact Hd fun y hy=>h y (.tail _ hy)
theorem mV.app {r:List bM} {a c:Int→Nat→Int} (b:mV r a c):∀ {o:List bM} {s:Int→Nat→Int},mV o s a→mV (o++r) s c
  | [],s,h=>by cases (show a=s from h); exact b
  | x::o,s,h=>by
    simp only [List.cons_append,mV] at h ⊢
    by_cases e:x.aG=2
    · rw [if_pos e] at h ⊢; exact⟨h.1,mV.app b h.2⟩
    · rw [if_neg e] at h ⊢; exact mV.app b h
structure rP (s:Int→Nat→Int) (m:aB):Prop where
  old:∀ c q,s c q≠0→(11≤c∧c≤14)∧(lG m (c - 10)).cB=true∧(q < (lG m (c - 10)).aM∨q=(lG m (c - 10)).aM∧s c q=(lG m (c - 10)).dw)
  act:∀ y ∈ nO m,(1≤y.1∧y.1≤4)∧((lG m y.1).cB=true→(lG m y.1).aM < y.2)
  one:List.Pairwise (fun a b=>a.1≠b.1) (nO m)
theorem rP.of {s:Int→Nat→Int} {m m':aB} (h:rP s m) (ha:∀ c,lG m' c=lG m c) (hc:(nO m').Sublist (nO m)):rP s m':=
  ⟨fun c q e=>by rw [ha]; exact h.old c q e,fun y hy=>by rw [ha]; exact h.act y (hc.subset hy),h.one.sublist hc⟩
structure TA (p:bE) (m:aB) (t:bE) (m':aB):Prop where
  mP:m'.aa.ay=m.aa.ay
  say:∃ o,t.bq.ls=p.bq.ls++o∧∀ s,rP s m→∃ s',mV o s s'∧rP s' m'
theorem TA.of {p t:bE} {m m':aB} {o:List bM} (hb:m'.aa.ay=m.aa.ay) (ha:∀ c,lG m' c=lG m c) (hc:(nO m').Sublist (nO m)) (ho:t.bq.ls=p.bq.ls++o) (hk:∀ x ∈ o,x.aG≠2):TA p m t m':=
  ⟨hb,o,ho,fun s A=>⟨s,Hd hk,A.of ha hc⟩⟩
theorem TA.same (p:bE) (m:aB):TA p m p m:=TA.of rfl (fun _=>rfl) (Q7.refl _) (s9 _).symm fun x hx=>by cases hx
theorem TA.trans {p t u:bE} {m a b:aB} (c:TA p m t a) (d:TA t a u b):TA p m u b:=by
  obtain⟨e,f,g,h⟩:=c
  obtain⟨i,j,k,k2⟩:=d
  refine⟨i.trans e,f++j,by rw [k,g,q7],fun s A=> ?_⟩
  obtain⟨l,n,o⟩:=h s A
  obtain⟨q,r,v⟩:=k2 l o
  exact⟨q,mV.app r n,v⟩
theorem ES {p t:bE} {c:Int} {q:Nat} {k:Int} {l:List aS} {m m':aB} (h:dh p c q k l m=(t,m')) (hc:1≤c∧c≤4):
    ∃ x,t.bq.ls=p.bq.ls++ [x]∧x.aG=2∧x.eP=10+c∧x.aO=q∧x.cZ=k∧((lG m' c).cB=true∧(lG m' c).aM=q∧(lG m' c).dw=k)∧∀ d,1≤d∧d≤4→d≠c→lG m' d=lG m d:=by
  unfold dh at h
  simp only [bnd] at h
  obtain rfl | rfl | rfl | rfl:c=1∨c=2∨c=3∨c=4:=by omega
  · rw [if_pos f3] at h
    obtain⟨rfl,rfl⟩:=Prod.mk.inj h
    exact⟨_,rfl,rfl,rfl,rfl,rfl,⟨rfl,rfl,rfl⟩,fun d _ hd=>by unfold lG; rw [if_neg hd,if_neg hd]⟩
  · rw [if_neg f3,if_pos f3] at h
    obtain⟨rfl,rfl⟩:=Prod.mk.inj h
    exact⟨_,rfl,rfl,rfl,rfl,rfl,⟨rfl,rfl,rfl⟩,fun d _ hd=>by unfold lG; rw [if_neg hd,if_neg hd]⟩
  · rw [if_neg f3,if_neg f3,if_pos f3] at h
    obtain⟨rfl,rfl⟩:=Prod.mk.inj h
    exact⟨_,rfl,rfl,rfl,rfl,rfl,⟨rfl,rfl,rfl⟩,fun d _ hd=>by unfold lG; rw [if_neg hd,if_neg hd]⟩
  · rw [if_neg f3,if_neg f3,if_neg f3] at h
    obtain⟨rfl,rfl⟩:=Prod.mk.inj h
    refine⟨_,rfl,rfl,rfl,rfl,rfl,⟨rfl,rfl,rfl⟩,fun d a hd=> ?_⟩
    obtain rfl | rfl | rfl:d=1∨d=2∨d=3:=by omega
    · rfl
    · rfl
    · rfl
theorem CF {p t:bE} {c:Int} {q:Nat} {k:Int} {l:List aS} {m m':aB} (h:dh p c q k l m=(t,m')):
    ∃ x,t.bq.ls=p.bq.ls++ [x]∧∀ s,rP s m→(1≤c∧c≤4)→((lG m c).cB=true→(lG m c).aM < q)→(∀ y ∈ nO m,y.1≠c)→∃ s',mV [x] s s'∧rP s' m':=by
  have ht:=l6 h
  by_cases hc:1≤c∧c≤4
  · obtain⟨x,e,hk,hto,hr,hcd,hg,ho⟩:=ES h hc
    have hcq:nO m'=nO m:=by unfold nO; rw [ht.2.1]
    refine⟨x,e,fun s A _ hq hn=>⟨Ap s (10+c) q k, ?_, ?_⟩⟩
    · unfold mV
      rw [if_pos hk,hto,hr,hcd]
      refine⟨.inl ?_,rfl⟩
      refine Classical.byContradiction fun b=> ?_
      have a:=A.old _ _ b
      rw [show (10+c - 10:Int)=c by omega] at a
      have:=hq a.2.1
      omega
    · refine⟨fun c' q' b=> ?_,fun y hy=> ?_,hcq ▸ A.one⟩
      · unfold Ap at b ⊢
        by_cases hh:c'=10+c∧q'=q
        · rw [if_pos hh]
          obtain⟨rfl,rfl⟩:=hh
          rw [show (10+c - 10:Int)=c by omega]
          exact⟨e6,hg.1, .inr ⟨hg.2.1.symm,hg.2.2.symm⟩⟩
        · rw [if_neg hh] at b ⊢
          have a:=A.old _ _ b
          by_cases hc':c' - 10=c
          · rw [hc'] at a ⊢
            have:=hq a.2.1
            exact⟨a.1,hg.1, .inl (by rw [hg.2.1]; omega)⟩
          · rw [ho (c' - 10) e6 hc']
            exact a
      · rw [hcq] at hy
        have a:=A.act y hy
        rw [ho y.1 a.1 (hn y hy)]
        exact a
  · obtain⟨x,e,_⟩:=ht.2.2.2.1
    exact⟨x,e,fun s _ hc'=>absurd hc' hc⟩
theorem ET {L:List (Int × Nat)} {i:Nat} (hi:i < L.length) (h:List.Pairwise (fun a b=>a.1≠b.1) L):∀ z ∈ r5 i L++r6 (i+1) L,z.1≠(L[i]).1:=by
  have e:L=r5 i L++L[i]::r6 (i+1) L:=by rw [← List.drop_eq_getElem_cons hi,List.take_append_drop]
  have h':=h
  rw [e] at h'
  obtain⟨_,d,f⟩:=Q4.1 h'
  intro z hz
  rcases v8.1 hz with c | c
  · exact f z c _ b1
  · exact fun e=>(List.pairwise_cons.1 d).1 z c e.symm
theorem CG {p t b:bE} {i:Nat} {k:Int} {l:List aS} {m a m':aB} (hi:i < m.au.ls.length)
    (e:dh p (C2 m.au.ls i default).aK (C2 m.au.ls i default).aM k l a=(b,m')) (ha:∀ c,lG a c=lG m c) (hc:nO a=nO (uu m i)) (hb:a.aa.ay=m.aa.ay) {n:Nat} {sh:List Int} {f:Bool} (ht:t=eG b n sh f):TA p m t m':=by
  obtain⟨x,ex,hx⟩:=CF e
  obtain⟨q,eq,hq⟩:=sG b n sh f
  have hs:nO (uu m i)=r5 i (nO m)++r6 (i+1) (nO m):=by simp only [nO,uu,v7,List.map_take,List.map_drop]
  have hl:i < (nO m).length:=by unfold nO; rw [s6]; exact hi
  have hg:(nO m)[i]=((C2 m.au.ls i default).aK,(C2 m.au.ls i default).aM):=by
    simp only [nO,R6]
    rw [K1,s5 hi]; rfl
  refine⟨by rw [(l6 e).1]; exact hb, [x]++q,by rw [ht,eq,ex,q7],fun s A=> ?_⟩
  have h:rP s a:=A.of ha (by rw [hc,hs]; exact qi _ _)
  have d:=A.act _ (List.getElem_mem hl)
  have g:=ET hl A.one
  rw [hg] at d g
  obtain⟨s',j,k2⟩:=hx s h d.1 (by rw [ha]; exact d.2) (fun y hy=>g y (by rw [hc,hs] at hy; exact hy))
  exact⟨s',mV.app (Hd fun y hy=>by rw [hq y hy]; decide) j,k2⟩
theorem xm {p t:bE} {i:Int} {m m':aB} (hi:D2 i < m.au.ls.length) (h:eH p i m=(t,m')):TA p m t m':=by
  unfold eH at h
  simp only [bnd] at h
  rcases e:dh p (C2 m.au.ls (D2 i) default).aK (C2 m.au.ls (D2 i) default).aM 2 [] (uu m (D2 i)) with ⟨b,c⟩
  have e':=e
  unfold uu at e'
  rw [e'] at h
  have ha:=l6 e
  obtain⟨ht,a⟩:=Prod.mk.inj h
  obtain rfl:=nH a (by rw [ha.1]; rfl) (by rw [ha.1]; rfl) (by rw [ha.1]; rfl) (by rw [ha.2.1]; rfl)
  exact CG hi e (fun _=>rfl) rfl rfl ht.symm
theorem CJ {p t:bE} {i:Int} {m m':aB} (hi:D2 i < m.au.ls.length) (h:jA p i m=(t,m')):TA p m t m':=by
  unfold jA at h
  simp only [bnd,jQ] at h
  rcases eg:mH (C2 m.au.ls (D2 i) default).bO.ls (C2 m.au.ls (D2 i) default).aD.ls (C2 m.au.ls (D2 i) default).af.ls with ⟨rs,ge⟩
  rcases es:bQ m.aa.ak.ls (C2 m.au.ls (D2 i) default).aR with ⟨j,oj⟩
  rcases el:gI m.aa.aJ.ls (C2 m.au.ls (D2 i) default).aK with ⟨q,oq⟩
  rw [eg,es,el] at h
  obtain⟨sl,hsl⟩:∃ sl,gp (C2 m.au.ls (D2 i) default).aD.ls []=sl:=⟨_,rfl⟩
  rw [hsl] at h
  have go:∀ {L:List fE} {b:bE} {c:aB},dh p (C2 m.au.ls (D2 i) default).aK (C2 m.au.ls (D2 i) default).aM 1 rs (oo m (D2 i) (D2 j) (bJ.mk (C2 m.au.ls (D2 i) default).aR (C2 m.au.ls (D2 i) default).aK m.aa.ay (C2 m.au.ls (D2 i) default).aM (E4 sl)) L)=(b,c)→TA p m (eG b (C2 m.au.ls (D2 i) default).aR sl true) c:=fun e=>CG hi e (fun _=>rfl) rfl rfl rfl
  split at h
  · split at h
    · rcases e:dh p (C2 m.au.ls (D2 i) default).aK (C2 m.au.ls (D2 i) default).aM 1 rs (oo m (D2 i) (D2 j) (bJ.mk (C2 m.au.ls (D2 i) default).aR (C2 m.au.ls (D2 i) default).aK m.aa.ay (C2 m.au.ls (D2 i) default).aM (E4 sl)) (u5 m.aa.aJ.ls (D2 q) (fE.mk (C2 m.au.ls (D2 i) default).aK m.aa.ay (C2 m.au.ls (D2 i) default).aM (E4 rs)))) with ⟨b,c⟩
      have ha:=l6 e
      have e':=e
      unfold oo at e'
      rw [e'] at h
      obtain⟨rfl,a⟩:=Prod.mk.inj h
      obtain rfl:=nH a (by rw [ha.1]; rfl) (by rw [ha.1]; rfl) (by rw [ha.1]; rfl) (by rw [ha.2.1]; rfl)
      exact go e
    · rcases e:dh p (C2 m.au.ls (D2 i) default).aK (C2 m.au.ls (D2 i) default).aM 1 rs (oo m (D2 i) (D2 j) (bJ.mk (C2 m.au.ls (D2 i) default).aR (C2 m.au.ls (D2 i) default).aK m.aa.ay (C2 m.au.ls (D2 i) default).aM (E4 sl)) (r5 (D2 q) m.aa.aJ.ls++((fE.mk (C2 m.au.ls (D2 i) default).aK m.aa.ay (C2 m.au.ls (D2 i) default).aM (E4 rs))::r6 (D2 q) m.aa.aJ.ls))) with ⟨b,c⟩
      have ha:=l6 e
      have e':=e
      unfold oo at e'
      rw [e'] at h
      obtain⟨rfl,a⟩:=Prod.mk.inj h
      obtain rfl:=nH a (by rw [ha.1]; rfl) (by rw [ha.1]; rfl) (by rw [ha.1]; rfl) (by rw [ha.2.1]; rfl)
      exact go e
  · rcases e:eH p i m with ⟨b,c⟩
    rw [e] at h
    have ha:=o7 hi e
    obtain⟨rfl,a⟩:=Prod.mk.inj h
    obtain rfl:=nH a (by rw [ha.1]) (by rw [ha.1]) (by rw [ha.1]) rfl
    exact xm hi e
theorem CK {m:aB} {i:Nat} {y:dD} (hc:y.aK=(C2 m.au.ls i default).aK) (hr:y.aM=(C2 m.au.ls i default).aM):nO (qj m i y)=nO m:=by
  unfold nO qj
  dsimp only
  rw [List.map_set]
  by_cases h:i < m.au.ls.length
  · have:(List.map (fun y:dD=>(y.aK,y.aM)) m.au.ls)[i]'(by rw [s6]; exact h)=(y.aK,y.aM):=by rw [R6,hc,hr,K1,s5 h]; rfl
    rw [← this]; exact List.set_getElem_self _
  · exact List.set_eq_of_length_le i9
theorem TA.set (p:bE) (m:aB) {i:Nat} {y:dD} (hc:y.aK=(C2 m.au.ls i default).aK) (hr:y.aM=(C2 m.au.ls i default).aM):TA p m p (qj m i y):=TA.of rfl (fun _=>rfl) (by rw [CK hc hr]; exact Q7.refl _) (s9 _).symm fun x hx=>by cases hx
theorem Eb {p t:bE} {x:bM} {m m':aB} (h:jN p x m=(t,m')):TA p m t m':=by
  have same:(p,m)=(t,m')→TA p m t m':=fun h=>by
    obtain⟨rfl,rfl⟩:=Prod.mk.inj h
    exact TA.same p m
  unfold jN iO at h
  simp only [bnd] at h
  rcases ef:cu m.au.ls x.aU with ⟨i,ok⟩
  rw [ef] at h
  split at h
  case isFalse=>exact same h
  rename_i hok
  have hi:=xV ef hok
  split at h
  · exact same h
  split at h
  · exact same h
  have ab:∀ {c:bE} {a:aB},eH p i m=(c,a)→(c,aB.mk (di.mk a.aa.av a.aa.ay a.aa.aX a.aa.aL (E4 m.aa.ag.ls) (E4 m.aa.ak.ls) (E4 m.aa.aJ.ls)) a.bP (E4 a.au.ls) a.bH a.bf a.bi a.bn a.aZ a.dI a.dz a.dB a.dA a.dC)=(t,m')→TA p m t m':=fun e h=>by
    have ha:=o7 hi e
    obtain⟨rfl,b⟩:=Prod.mk.inj h
    obtain rfl:=nH b (by rw [ha.1]) (by rw [ha.1]) (by rw [ha.1]) rfl
    exact xm hi e
  split at h
  · split at h
    · split at h
      · obtain⟨rfl,rfl⟩:=Prod.mk.inj h
        refine TA.set p m (i:=D2 i) ?_ ?_
        · rfl
        · rfl
      · rcases e:jA p i (qj m (D2 i) (dD.mk (C2 m.au.ls (D2 i) default).aR (C2 m.au.ls (D2 i) default).aK (C2 m.au.ls (D2 i) default).aM (C2 m.au.ls (D2 i) default).cz (E4 (C2 m.au.ls (D2 i) default).bO.ls) (E4 (C2 m.au.ls (D2 i) default).aD.ls) (E4 (u5 (C2 m.au.ls (D2 i) default).bB.ls (D2 (eQ (C2 m.au.ls (D2 i) default).aD.ls x)) true)) (E4 (u5 (C2 m.au.ls (D2 i) default).af.ls (D2 (eQ (C2 m.au.ls (D2 i) default).aD.ls x)) (E4 x.ah.ls))) (C2 m.au.ls (D2 i) default).dO)) with ⟨c,a⟩
        have e':=e
        unfold qj at e'
        rw [e'] at h
        have hl:=(show D2 i < (u5 m.au.ls (D2 i) (dD.mk (C2 m.au.ls (D2 i) default).aR (C2 m.au.ls (D2 i) default).aK (C2 m.au.ls (D2 i) default).aM (C2 m.au.ls (D2 i) default).cz (E4 (C2 m.au.ls (D2 i) default).bO.ls) (E4 (C2 m.au.ls (D2 i) default).aD.ls) (E4 (u5 (C2 m.au.ls (D2 i) default).bB.ls (D2 (eQ (C2 m.au.ls (D2 i) default).aD.ls x)) true)) (E4 (u5 (C2 m.au.ls (D2 i) default).af.ls (D2 (eQ (C2 m.au.ls (D2 i) default).aD.ls x)) (E4 x.ah.ls))) (C2 m.au.ls (D2 i) default).dO)).length from by rw [H5]; exact hi)
        have hc:=wN hl e
        obtain⟨rfl,b⟩:=Prod.mk.inj h
        obtain rfl:=nH b (by rw [hc.1.own]; rfl) rfl rfl rfl
        refine TA.trans ?_ (CJ hl e)
        refine TA.set p m (i:=D2 i) ?_ ?_
        · rfl
        · rfl
    · rcases e:eH p i m with ⟨c,a⟩
      rw [e] at h; exact ab e h
  · rcases e:eH p i m with ⟨c,a⟩
    rw [e] at h; exact ab e h
theorem EU {p t:bE} {x:bM} {m m':aB} (h:jY p x m=(t,m')):TA p m t m':=by
  unfold jY at h
  simp only [bnd] at h
  split at h
  · split at h
    · obtain⟨rfl,rfl⟩:=Prod.mk.inj h
      exact TA.of rfl (fun _=>rfl) (Q7.refl _) (s9 _).symm fun x hx=>by cases hx
    · obtain⟨rfl,rfl⟩:=Prod.mk.inj h
      exact TA.of rfl (fun _=>rfl) (Q7.refl _) (s9 _).symm fun x hx=>by cases hx
  · obtain⟨rfl,rfl⟩:=Prod.mk.inj h
    exact TA.same p m
theorem TA.decide (p:bE) (n:Nat) (l:List Int) (f:Bool) (m:aB):TA p m (eG p n l f) m:=by
  obtain⟨q,e,h⟩:=sG p n l f
  exact TA.of rfl (fun _=>rfl) (Q7.refl _) e fun x hx=>by rw [h x hx]; decide
theorem EW (p:bE) (x:bM) (m:aB):TA p m (kW p x m) m:=by
  unfold kW
  simp only [bnd]
  split
  · exact TA.decide _ _ _ _ _
  · split
    · exact TA.same _ _
    · exact TA.decide _ _ _ _ _
theorem CL {c:Int}:∀ {l:List dD} {k:Nat},lp (dY c l k) (fun _=>(-1:Int)) < 0→∀ y ∈ l,y.aK≠c
  | [],_,_,y,hy=>by cases hy
  | x::l,k,h,y,hy=>by
    simp only [dY] at h
    by_cases e:x.aK=c
    · rw [if_pos e] at h
      simp only [lp] at h
      omega
    · rw [if_neg e] at h
      rcases List.mem_cons.1 hy with rfl | hy
      · exact e
      · exact CL h y hy
theorem EX {c:Int} {l:List dD} (h: ¬ ic l c=true):∀ y ∈ l,y.aK≠c:=by
  unfold ic jh at h
  simp only [bnd,decide_eq_true_eq] at h
  exact CL (Int.lt_of_not_ge h)
theorem EY {p t:bE} {c:Int} {x:bM} {m m':aB} (h:dU p c x m=(t,m')):m'.aa.ay=m.aa.ay∧∃ o,t.bq.ls=p.bq.ls++o∧∀ s,rP s m→(1≤c∧c≤4)→((lG m c).cB=true→(lG m c).aM < x.aO)→(∀ y ∈ m.au.ls,y.aK≠c)→∃ s',mV o s s'∧rP s' m':=by
  unfold dU at h
  simp only [bnd] at h
  rcases ec:lQ m.aa.ag.ls x.aF.ls with ⟨ps,e⟩
  rw [ec] at h
  have hn:(∀ y ∈ m.au.ls,y.aK≠c)→∀ y ∈ nO m,y.1≠c:=fun hn y hy=>by
    obtain⟨z,hz,rfl⟩:=List.mem_map.1 hy
    exact hn z hz
  have no:∀ {d:bE} {a:aB},dh p c x.aO 2 [] (tq m)=(d,a)→(d,aB.mk (di.mk a.aa.av a.aa.ay a.aa.aX a.aa.aL (E4 m.aa.ag.ls) (E4 m.aa.ak.ls) (E4 m.aa.aJ.ls)) a.bP (E4 m.au.ls) a.bH a.bf a.bi a.bn a.aZ a.dI a.dz a.dB a.dA a.dC)=(t,m')→m'.aa.ay=m.aa.ay∧∃ o,t.bq.ls=p.bq.ls++o∧∀ s,rP s m→(1≤c∧c≤4)→((lG m c).cB=true→(lG m c).aM < x.aO)→(∀ y ∈ m.au.ls,y.aK≠c)→∃ s',mV o s s'∧rP s' m':=fun {d a} e h=>by
    have ha:=l6 e
    obtain⟨z,ez,hz⟩:=CF e
    obtain⟨rfl,f⟩:=Prod.mk.inj h
    obtain rfl:=nH f (by rw [ha.1]; rfl) (by rw [ha.1]; rfl) (by rw [ha.1]; rfl) (by rw [ha.2.1]; rfl)
    exact⟨by rw [ha.1]; rfl, [z],ez,fun s A g i j=>hz s (A.of (fun _=>rfl) (Q7.refl _)) g i (hn j)⟩
  rcases b:dh p c x.aO 2 [] (tq m) with ⟨d,a⟩
  have e':=b
  unfold tq at e'
  rw [e'] at h
  split at h
  · exact no b h
  split at h
  · exact no b h
  split at h
  · exact no b h
  split at h
  · obtain⟨q,eq,hq⟩:=xW c x m (gP m) ps ps 0 p.bq.ls
    obtain⟨rfl,rfl⟩:=Prod.mk.inj h
    refine⟨rfl,q,eq,fun s A g i j=>⟨s,Hd fun y hy=>by rw [(hq y hy).1]; decide,A.old,fun y hy=> ?_, ?_⟩⟩
    · have hy':=hy
      simp only [nO,v7,List.map_cons,List.map_nil] at hy'
      rcases v8.1 hy' with k | k
      · exact A.act y k
      · rw [m4.1 k]; exact⟨g,i⟩
    · simp only [nO,v7,List.map_cons,List.map_nil]
      refine Q4.2 ⟨A.one,List.pairwise_singleton _ _,fun y hy z hz=> ?_⟩
      rw [m4.1 hz]
      exact hn j y hy
  · exact no b h
theorem BJ {p t:bE} {x:bM} {m m':aB} (h:iP p x m=(t,m')) (hf:11≤x.aH∧x.aH≤14) (hb:x.ay=m.aa.ay):TA p m t m':=by
  unfold iP at h
  rw [if_pos (by rw [hb])] at h
  simp only [bnd] at h
  have sa:(p,m)=(t,m')→TA p m t m':=fun h=>by
    obtain⟨rfl,rfl⟩:=Prod.mk.inj h
    exact TA.same p m
  split at h
  · exact sa h
  rename_i hno
  have hn:=EX hno
  have sn:∀ y,(df p y,m)=(t,m')→y.aG=2→y.eP=10+(x.aH - 10)→y.aO=(lG m (x.aH - 10)).aM→y.cZ=(lG m (x.aH - 10)).dw→(lG m (x.aH - 10)).cB=true→TA p m t m':=fun y h hy g n l r=>by
    obtain⟨rfl,rfl⟩:=Prod.mk.inj h
    refine⟨rfl, [_],rfl,fun s A=>⟨Ap s y.eP y.aO y.cZ, ?_, ?_⟩⟩
    · unfold mV
      rw [if_pos hy]
      refine⟨?_,rfl⟩
      by_cases f:s y.eP y.aO=0
      · exact .inl f
      · have i:=(A.old _ _ f).2.2
        rw [g,show (10+(x.aH - 10) - 10:Int)=x.aH - 10 by omega] at i
        rcases i with i | i
        · omega
        · refine .inr ?_
          rw [g,l]; exact i.2
    · refine⟨fun c q f=> ?_,A.act,A.one⟩
      unfold Ap at f ⊢
      by_cases hh:c=y.eP∧q=y.aO
      · rw [if_pos hh]
        obtain⟨rfl,rfl⟩:=hh
        rw [g,show (10+(x.aH - 10) - 10:Int)=x.aH - 10 by omega]
        exact⟨e6,r, .inr ⟨n,l⟩⟩
      · rw [if_neg hh] at f ⊢
        exact A.old _ _ f
  have be:((lG m (x.aH - 10)).cB=true→(lG m (x.aH - 10)).aM < x.aO)→((dU p (x.aH - 10) x m).1,(dU p (x.aH - 10) x m).2)=(t,m')→TA p m t m':=fun g h=>by
    obtain⟨b,o,e,k⟩:=EY (show dU p (x.aH - 10) x m=(t,m') from h)
    exact⟨b,o,e,fun s A=>k s A e6 g hn⟩
  split at h
  · rename_i hc
    have ea:lG m (x.aH - 10)=m.bf:=if_pos hc
    split at h
    · rename_i hg
      split at h
      · split at h
        · exact sn _ h rfl rfl (by rw [ea]) (by rw [ea]) (by rw [ea]; exact hg)
        · exact sa h
      · exact be (fun _=>by rw [ea]; omega) h
    · rename_i hg
      exact be (fun a=>absurd (ea ▸ a) hg) h
  rename_i d
  split at h
  · rename_i hc
    have ea:lG m (x.aH - 10)=m.bi:=(if_neg d).trans (if_pos hc)
    split at h
    · rename_i hg
      split at h
      · split at h
        · exact sn _ h rfl rfl (by rw [ea]) (by rw [ea]) (by rw [ea]; exact hg)
        · exact sa h
      · exact be (fun _=>by rw [ea]; omega) h
    · rename_i hg
      exact be (fun a=>absurd (ea ▸ a) hg) h
  rename_i j
  split at h
  · rename_i hc
    have ea:lG m (x.aH - 10)=m.bn:=(if_neg d).trans ((if_neg j).trans (if_pos hc))
    split at h
    · rename_i hg
      split at h
      · split at h
        · exact sn _ h rfl rfl (by rw [ea]) (by rw [ea]) (by rw [ea]; exact hg)
        · exact sa h
      · exact be (fun _=>by rw [ea]; omega) h
    · rename_i hg
      exact be (fun a=>absurd (ea ▸ a) hg) h
  · rename_i hc
    have ea:lG m (x.aH - 10)=m.aZ:=(if_neg d).trans ((if_neg j).trans (if_neg hc))
    split at h
    · rename_i hg
      split at h
      · split at h
        · exact sn _ h rfl rfl (by rw [ea]) (by rw [ea]) (by rw [ea]; exact hg)
        · exact sa h
      · exact be (fun _=>by rw [ea]; omega) h
    · rename_i hg
      exact be (fun a=>absurd (ea ▸ a) hg) h
theorem Ec {p t:bE} {x:bM} {m m':aB} (h:iG p x m=(t,m')) (hx:Dr x) (hb:x.aG=1→x.ay=m.aa.ay):TA p m t m':=by
  unfold iG at h
  simp only [bnd] at h
  split at h
  · rename_i hk
    exact BJ (show iP p x m=(t,m') from h) (hx.si hk) (hb hk)
  split at h
  · exact Eb (show jN p x m=(t,m') from h)
  split at h
  · exact EU (show jY p x m=(t,m') from h)
  split at h
  · obtain⟨rfl,rfl⟩:=Prod.mk.inj h
    exact EW p x m
  have mp:∀ {a:aB},(p,a)=(t,m')→a.aa=m.aa→a.au.ls=m.au.ls→(∀ c,lG a c=lG m c)→TA p m t m':=fun h b d e=>by
    obtain⟨rfl,rfl⟩:=Prod.mk.inj h
    exact TA.of (by rw [b]) e (by unfold nO; rw [d]; exact Q7.refl _) (s9 _).symm fun x hx=>by cases hx
  split at h
  · split at h
    · exact mp h rfl rfl fun _=>rfl
    split at h
    · exact mp h rfl rfl fun _=>rfl
    split at h
    · exact mp h rfl rfl fun _=>rfl
    · exact mp h rfl rfl fun _=>rfl
  split at h
  · exact mp h rfl rfl fun _=>rfl
  split at h
  · exact mp h rfl rfl fun _=>rfl
  · exact mp h rfl rfl fun _=>rfl
structure TB (m:aB) (E:List bM × aB):Prop where
  mP:E.2.aa.ay=m.aa.ay
  say:∀ s,rP s m→∃ s',mV E.1 s s'∧rP s' E.2
theorem TB.same (m:aB):TB m ([],m):=⟨rfl,fun s A=>⟨s,rfl,A⟩⟩
theorem TA.tb {t:bE} {m m':aB} (h:TA (bE.mk (E4 [])) m t m') {o:List bM} (ho:∃ q,o=t.bq.ls++q∧∀ x ∈ q,x.aG≠2):TB m (o,m'):=⟨h.mP,fun s A=>by
  obtain⟨q,rfl,hq⟩:=ho
  obtain⟨o,e,k⟩:=h.say
  have e':t.bq.ls=o:=e
  obtain⟨s',y,A'⟩:=k s A
  exact⟨s',by dsimp only; rw [e']; exact mV.app (Hd hq) y,A'⟩⟩
theorem Ed {m:aB} {x:bM} (hb:x.aG=1→x.ay=m.aa.ay):TB m ((eF m x).1.eO.ls,(eF m x).2.2):=by
  have s:=TB.same m
  have g:∀ r,mf x=r→r=0→TB m ((iG (bE.mk (E4 [])) x m).1.bq.ls,(iG (bE.mk (E4 [])) x m).2):=fun r e a=>
    (Ec (t:=(iG (bE.mk (E4 [])) x m).1) (m':=(iG (bE.mk (E4 [])) x m).2) rfl (qY e a) hb).tb ⟨[],(s9 _).symm,fun x hx=>by cases hx⟩
  unfold eF bnd
  split
  · dsimp only
    split
    · rename_i a
      split
      · split
        · exact s
        · exact g _ rfl a
      · exact s
    · exact s
  · dsimp only
    split
    · rename_i a
      split
      · exact g _ rfl a
      · exact s
    · exact s
theorem xn (m:aB) (r:Int) (x y:dD):∀ (f k:Nat) (l:List bM), ∃ q,gJ m r x y f k l=l++q∧∀ z ∈ q,z.aG=3
  | 0,k,l=>⟨[],(s9 _).symm,fun z hz=>by cases hz⟩
  | f+1,k,l=>by
    simp only [gJ,bnd]
    split
    · exact xn m r x y f (k+1) l
    · obtain⟨q,e,hq⟩:=xn m r x y f (k+1) _
      refine⟨_::q,e.trans (q7 l [_] q),fun z hz=> ?_⟩
      rcases List.mem_cons.1 hz with rfl | hz
      · rfl
      · exact hq z hz
theorem Ee {p t:bE} {n:Nat} {m m':aB} (h:iT p n m=(t,m')):TA p m t m':=by
  unfold iT at h
  simp only [bnd] at h
  rcases ef:cu m.au.ls n with ⟨i,ok⟩
  rw [ef] at h
  split at h
  case isFalse=>
    obtain⟨rfl,rfl⟩:=Prod.mk.inj h
    exact TA.same p m
  rename_i hok
  have hi:=xV ef hok
  have hs:=TA.set p m (i:=D2 i) (y:=dD.mk (C2 m.au.ls (D2 i) default).aR (C2 m.au.ls (D2 i) default).aK (C2 m.au.ls (D2 i) default).aM (C2 m.au.ls (D2 i) default).cz (E4 (C2 m.au.ls (D2 i) default).bO.ls) (E4 (C2 m.au.ls (D2 i) default).aD.ls) (E4 (C2 m.au.ls (D2 i) default).bB.ls) (E4 (C2 m.au.ls (D2 i) default).af.ls) (C7.wrap ((C2 m.au.ls (D2 i) default).dO+1))) rfl rfl
  split at h
  · rcases e:eH p i (qj m (D2 i) (dD.mk (C2 m.au.ls (D2 i) default).aR (C2 m.au.ls (D2 i) default).aK (C2 m.au.ls (D2 i) default).aM (C2 m.au.ls (D2 i) default).cz (E4 (C2 m.au.ls (D2 i) default).bO.ls) (E4 (C2 m.au.ls (D2 i) default).aD.ls) (E4 (C2 m.au.ls (D2 i) default).bB.ls) (E4 (C2 m.au.ls (D2 i) default).af.ls) (C7.wrap ((C2 m.au.ls (D2 i) default).dO+1)))) with ⟨b,c⟩
    have e':=e
    unfold qj at e'
    rw [e'] at h
    have hl:D2 i < (qj m (D2 i) (dD.mk (C2 m.au.ls (D2 i) default).aR (C2 m.au.ls (D2 i) default).aK (C2 m.au.ls (D2 i) default).aM (C2 m.au.ls (D2 i) default).cz (E4 (C2 m.au.ls (D2 i) default).bO.ls) (E4 (C2 m.au.ls (D2 i) default).aD.ls) (E4 (C2 m.au.ls (D2 i) default).bB.ls) (E4 (C2 m.au.ls (D2 i) default).af.ls) (C7.wrap ((C2 m.au.ls (D2 i) default).dO+1)))).au.ls.length:=by unfold qj; simp only [H5]; exact hi
    have ha:=o7 hl e
    obtain⟨rfl,a⟩:=Prod.mk.inj h
    obtain rfl:=nH a (by rw [ha.1]; rfl) (by rw [ha.1]; rfl) (by rw [ha.1]; rfl) rfl
    exact hs.trans (xm hl e)
  · obtain⟨q,eq,hq⟩:=xn m i (C2 m.au.ls (D2 i) default) (C2 (u5 m.au.ls (D2 i) (dD.mk (C2 m.au.ls (D2 i) default).aR (C2 m.au.ls (D2 i) default).aK (C2 m.au.ls (D2 i) default).aM (C2 m.au.ls (D2 i) default).cz (E4 (C2 m.au.ls (D2 i) default).bO.ls) (E4 (C2 m.au.ls (D2 i) default).aD.ls) (E4 (C2 m.au.ls (D2 i) default).bB.ls) (E4 (C2 m.au.ls (D2 i) default).af.ls) (C7.wrap ((C2 m.au.ls (D2 i) default).dO+1)))) (D2 i) default) _ 0 p.bq.ls
    obtain⟨rfl,rfl⟩:=Prod.mk.inj h
    obtain⟨hb,o,ho,hk⟩:=hs
    refine⟨rfl,q,eq,fun s A=>⟨s,Hd fun y hy=>by rw [hq y hy]; decide, ?_⟩⟩
    exact A.of (fun _=>rfl) (by
      have:=CK (m:=m) (i:=D2 i) (y:=dD.mk (C2 m.au.ls (D2 i) default).aR (C2 m.au.ls (D2 i) default).aK (C2 m.au.ls (D2 i) default).aM (C2 m.au.ls (D2 i) default).cz (E4 (C2 m.au.ls (D2 i) default).bO.ls) (E4 (C2 m.au.ls (D2 i) default).aD.ls) (E4 (C2 m.au.ls (D2 i) default).bB.ls) (E4 (C2 m.au.ls (D2 i) default).af.ls) (C7.wrap ((C2 m.au.ls (D2 i) default).dO+1))) rfl rfl
      exact this ▸ Q7.refl _)
theorem Bu (a:aB) (r:List UInt8):∀ (q:List Nat) (l:List bM) (m:aB),TA (bE.mk (E4 l)) m (bE.mk (E4 (eT a r q l m).1)) (eT a r q l m).2
  | [],l,m=>TA.same _ m
  | x::q,l,m=>(Ee (t:=(iT (bE.mk (E4 l)) x m).1) (m':=(iT (bE.mk (E4 l)) x m).2) rfl).trans (Bu a r q _ _)
theorem Ef (m:aB):TB m ((jk m).1.eO.ls,(jk m).2):=by
  unfold jk bnd
  dsimp only
  have h:=Bu m (eD m.aa).1 (iM m) [] m
  have hs:=Br m (eD m.aa).1 (iM m) [] m
  obtain⟨b,c,d⟩:=Bt m (eD m.aa).1 (eT m (eD m.aa).1 (iM m) [] m).2 (eT m (eD m.aa).1 (iM m) [] m).2.aa.ak.ls (eT m (eD m.aa).1 (iM m) [] m).1
  obtain⟨a,e,f⟩:=yG (eD m.aa).1 (eT m (eD m.aa).1 (iM m) [] m).2 (D2 (m.aa.av+1 - 1)+1) 1 _ (by rw [hs.sh]; exact Nat.lt_succ_self _)
  refine h.tb ⟨b++a,(e.trans (congrArg (· ++a) c)).trans (q7 _ b a),fun y hy=> ?_⟩
  rcases v8.1 hy with h | h
  · rw [d y h]; decide
  · rw [f y h]; decide
end Go.Proofs.YtbkagebjhbphaaaGreat
