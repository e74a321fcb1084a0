/-
  States that may be: how great their parts are, and how long their bytes.
  Conditions: numbers are 64-bit numbers.
-/
import Derived.Test.YtcnkpjheifkgnaaGreatRcW
namespace Go.Proofs.YtcnkpjheifkgnaaGreat
set_option linter.unusedVariables false
set_option linter.unusedSimpArgs false
theorem mf (n:Nat) (h:n≤18446744073709551615):List.length (bE n)≤10:=by rw [mI]; exact(qV n h).2
theorem vE (n:Nat) (h:n < 128):List.length (bE n)=1:=by rw [mI,lL n,if_pos (by omega)]; rfl
theorem tF {i:Int} (h:0≤i∧i < 128):List.length (iB i)=1:=by
  unfold iB
  have:=(wI (i:=i) (by omega)).1
  exact vE _ (by omega)
theorem tL (s:List UInt8) (h:List.length s < 128):List.length (dG s)=1+List.length s:=by rw [uB,vE _ h]
theorem Bb (b:Bool):List.length (pI b)=1:=by unfold pI; exact vE _ (by split <;> omega)
theorem xZ {α:Type} {wr:α→List UInt8} {n:Nat}:∀ (l:List α),(∀ x ∈ l,List.length (wr x)≤n)→List.length (List.flatMap wr l)≤n *List.length l
  | [],_=>EM _
  | x::q,h=>by
    have a:=h x (.head _)
    have b:=xZ q (fun y hy=>h y (.tail _ hy))
    rw [List.flatMap_cons,List.length_append,List.length_cons,Nat.mul_add]
    omega
theorem og {α:Type} {wr:α→List UInt8} {n m:Nat} (l:List α) (hm:List.length l≤m) (a:m < 128) (h:∀ x ∈ l,List.length (wr x)≤n):List.length (lB wr l)≤1+n *m:=by
  unfold lB
  rw [List.length_append,vE _ (by omega)]
  have:=xZ l h
  have:=Nat.mul_le_mul_left n hm
  omega
theorem uD {n m:Int} (h:cZ n m=true) (hm:m≤4):iP n∧1≤n∧n≤4:=by
  have:=si h
  exact⟨⟨by omega,by omega⟩,by omega,by omega⟩
def opC (x:bq):Prop:=(1≤x.aI∧x.aI≤5)∧(0≤x.bn∧x.bn≤4)∧List.length x.aV+List.length x.aC+List.length x.aK+List.length x.aO≤28
theorem qb {l:List UInt8} (h: []=l):List.length l=0:=by rw [← h]; rfl
theorem Bc {x:bq} (h:fC x=0):opC x:=by
  unfold fC at h
  simp only [aN,lJ,mD,mE,mh] at h
  split at h
  · split at h
    · rename_i k e
      obtain⟨_,_,a,b,c,d⟩:=e
      have:=nM h
      exact⟨by omega,by omega,by rw [qb a,qb b,qb c]; omega⟩
    · omega
  split at h
  · split at h
    · rename_i e
      obtain⟨_,_,_,b,c,d⟩:=e
      unfold lw mg at h
      simp only [aN] at h
      split at h
      · split at h
        · omega
        · have:=nM (by assumption)
          exact⟨by omega,by omega,by rw [qb b,qb c]; omega⟩
      · omega
    · omega
  split at h
  · split at h
    · rename_i e
      obtain⟨_,_,a,b,c,d⟩:=e
      have:=nM h
      exact⟨by omega,by omega,by rw [qb a,qb b,qb c]; omega⟩
    · omega
  split at h
  · split at h
    · rename_i e
      obtain⟨_,f,a,_,_,_⟩:=e
      unfold lD jk lC at h
      simp only [aN] at h
      split at h
      · have:=qU (by assumption)
        split at h
        · omega
        · split at h
          · omega
          · exact⟨by omega,by omega,by rw [qb f,qb a]; dsimp only at this; omega⟩
      · omega
    · omega
  split at h
  · split at h
    · rename_i e
      obtain⟨_,f,a,_,_,d⟩:=e
      unfold jk lC at h
      simp only [aN] at h
      have:=qU h
      exact⟨by omega,by omega,by rw [qb f,qb a]; dsimp only at this; omega⟩
    · omega
  · omega
theorem x8 {x:bq} (h:opC x):xG x∧List.length (rA x)≤34:=by
  obtain⟨a,b,c⟩:=h
  refine⟨⟨⟨by omega,by omega⟩,by unfold tP; omega,by unfold tP; omega,by unfold tP; omega,by unfold tP; omega,by omega,by omega⟩, ?_⟩
  unfold rA
  simp only [List.length_append]
  rw [tF (by omega),tF (by omega),tL _ (by omega),tL _ (by omega),tL _ (by omega),tL _ (by omega)]
  omega
theorem h1c (k:Nat):∀ l:List bq,(bT k l= .inl ()∧∀ x ∈ l,opC x)∨bT k l= .inr false
  | []=> .inl ⟨rfl,fun x hx=>by cases hx⟩
  | y::q=>by
    by_cases e:fC y=0
    · rcases h1c k q with h | h
      · refine .inl ⟨by simp only [bT,aN,if_pos e]; exact h.1,fun x hx=> ?_⟩
        rcases List.mem_cons.1 hx with rfl | hx
        · exact Bc e
        · exact h.2 x hx
      · refine .inr (by simp only [bT,aN,if_pos e]; exact h)
    · exact .inr (by simp only [bT,aN,if_neg e])
theorem Al (p:bQ) (f:Unit→Bool):∀ (q:List eZ) (k:Nat),lp (bW p q k) f=true→∀ x ∈ q,List.length x.ay.ls≤24∧∀ o ∈ x.ay.ls,opC o
  | [],_,_,x,hx=>by cases hx
  | y::q,k,h,x,hx=>by
    have key:cZ ((List.length y.ay.ls:Nat):Int) 24=true∧lp (lv (bT k y.ay.ls) fun _=>bW p q (k+1)) f=true:=by
      simp only [bW,aN,uY] at h
      split at h
      · split at h
        · cases h
        · split at h
          · exact⟨by assumption,h⟩
          · cases h
      · split at h
        · exact⟨by assumption,h⟩
        · cases h
    have a:=si key.1
    rcases h1c k y.ay.ls with g | g
    · have h':=key.2
      rw [g.1] at h'
      rcases List.mem_cons.1 hx with rfl | hx
      · exact⟨by omega,g.2⟩
      · exact Al p f q _ h' x hx
    · have h':=key.2
      rw [g] at h'
      cases h'
theorem Bd {n:Int} (h:kJ n=true):1≤n∧n≤4:=by
  unfold kJ at h
  split at h
  · exact⟨by omega,of_decide_eq_true h⟩
  · cases h
theorem yc (l:List aL):∀ (q:List aL) (k:Nat),(lp (ek l q k) fun _=>0)=0→∀ x ∈ q,1≤x.bV∧x.bV≤4
  | [],_,_,x,hx=>by cases hx
  | y::q,k,h,x,hx=>by
    simp only [ek,aN] at h
    split at h
    · have a:=Bd (by assumption)
      have rest:(lp (ek l q (k+1)) fun _=>0)=0:=by
        repeat' split at h
        all_goals first | exact h | (simp only [lp] at h; omega)
      rcases List.mem_cons.1 hx with rfl | hx
      · exact a
      · exact yc l q _ rest x hx
    · simp only [lp] at h; omega
theorem BM {l:List aL} (h:gU l=0):∀ x ∈ l,1≤x.bV∧x.bV≤4:=by
  unfold gU at h
  rw [aN] at h
  repeat' split at h
  all_goals first | exact yc l l 0 h | omega
theorem ze {l:List aL} (h:gU l=0):lP vU l∧List.length (lB pJ l)≤85:=by
  have a:=wu h
  have b:=BM h
  refine⟨⟨by omega,fun x hx=>⟨by have:=a.2 x hx; unfold tP; omega,by have:=b x hx; exact⟨by omega,by omega⟩⟩⟩, ?_⟩
  refine og (n:=14) (m:=6) l a.1 (by decide) fun x hx=> ?_
  have c:=a.2 x hx
  have d:=b x hx
  unfold pJ
  rw [List.length_append,tF (by omega),tL _ (by omega)]
  omega
theorem zQ {l:List Nat} (hl:List.length l≤64) (h:∀ x ∈ l,x≤18446744073709551615):lP nP l∧List.length (lB bE l)≤641:=
  ⟨⟨by omega,h⟩,og (n:=10) (m:=64) l hl (by decide) fun x hx=>mf x (h x hx)⟩
theorem zf {x:eZ} (hn:x.av≤18446744073709551615) (h:List.length x.ay.ls≤24∧∀ o ∈ x.ay.ls,opC o):vV x∧List.length (qJ x)≤827:=by
  refine⟨⟨hn,by have:=h.1; omega,fun o ho=>(x8 (h.2 o ho)).1⟩, ?_⟩
  unfold qJ
  have:=og (n:=34) (m:=24) x.ay.ls h.1 (by decide) fun o ho=>(x8 (h.2 o ho)).2
  have:=mf _ hn
  rw [List.length_append]
  omega
theorem zR {l:List eZ} (hl:List.length l≤6) (h:∀ x ∈ l,x.av≤18446744073709551615∧List.length x.ay.ls≤24∧∀ o ∈ x.ay.ls,opC o):lP vV l∧List.length (lB qJ l)≤4963:=
  ⟨⟨by omega,fun x hx=>(zf (h x hx).1 (h x hx).2).1⟩,og (n:=827) (m:=6) l hl (by decide) fun x hx=>(zf (h x hx).1 (h x hx).2).2⟩
theorem zg {x:bF} (h:List.length x.aK≤12∧List.length x.aO≤12):xE x∧List.length (uC x)≤26:=by
  refine⟨⟨by unfold tP; omega,by unfold tP; omega⟩, ?_⟩
  unfold uC
  rw [List.length_append,tL _ (by omega),tL _ (by omega)]
  omega
theorem Be {p:bQ} (h:dz p=0) (n:rZ p):yU p∧List.length (rC p) < 8191:=by
  have s:=uo h n
  obtain⟨_,_,z,_,A,B,e,k,l,m,q,r,t,u,w,y⟩:=s
  obtain⟨_,_,_,_,_,_,_,_,_,j,_⟩:=n
  unfold dz at h
  simp only [aN] at h
  have v:∀ b:Bool,df b=0→b=true:=by intro b; cases b <;> simp [df]
  split at h
  · split at h
    · split at h
      · rename_i C D d
        have a:=uD C (by omega)
        have o:=ze D
        unfold jJ at d
        split at d
        · cases d
        · split at d
          · cases d
          · have hh:=Al p _ _ _ d
            have g:=zR z fun x hx=>⟨j x hx,hh x hx⟩
            have f:=zQ A B
            have c:=zg (x:=p.bf) ⟨e.1,e.2.1⟩
            have i:=zg (x:=p.aS.aP) e.2.2
            refine⟨⟨a.1,k,l,m,q,o.1,g.1,f.1,r,t,c.1,u,w,y,i.1⟩, ?_⟩
            unfold rC vW
            simp only [List.length_append]
            have E:=tF (i:=p.cO) (by omega)
            have F:=mf _ k
            have G:=mf _ l
            have H:=mf _ m
            have I:=mf _ q
            have J:=mf _ r
            have K:=mf _ t
            have L:=mf _ u
            have M:=mf _ w
            have N:=mf _ y
            have lo:=o.2
            have lg:=g.2
            have lf:=f.2
            have lc:=c.2
            have li:=i.2
            omega
      · have:=v _ h; cases this
    · have:=v _ h; cases this
  · have:=v _ h; cases this
theorem Am (p:bI) (k:Nat) (d:bK):∀ (q:List Int) (j:Nat),bC p k d q j= .inl ()→∀ x ∈ q,cZ x p.aa=true
  | [],_,_,x,hx=>by cases hx
  | y::q,j,h,x,hx=>by
    simp only [bC,aN] at h
    split at h
    · have rest:bC p k d q (j+1)= .inl ():=by
        repeat' split at h
        all_goals first | exact h | cases h
      rcases List.mem_cons.1 hx with rfl | hx
      · assumption
      · exact Am p k d q _ rest x hx
    · cases h
theorem Ao (p:bI) (hp:0≤p.aa∧p.aa≤4) (f:Unit→Bool):∀ (q:List bK) (k:Nat),lp (bD p q k) f=true→∀ x ∈ q,(1≤x.ak∧x.ak≤4)∧List.length x.aa.ls≤4∧∀ i ∈ x.aa.ls,1≤i∧i≤4
  | [],_,_,x,hx=>by cases hx
  | y::q,k,h,x,hx=>by
    have key:cZ y.ak 4=true∧lp (lv (bC p k y y.aa.ls 0) fun _=>bD p q (k+1)) f=true:=by
      simp only [bD,aN,uZ] at h
      repeat' split at h
      all_goals first | cases h; done | exact⟨by assumption,h⟩
    obtain⟨kc,key⟩:=key
    rcases ww p k y y.aa.ls 0 [] 0 rfl rfl (fun h=>absurd h (by omega)) (fun _=>rfl) hp.1 with g | g
    · rw [g.1] at key
      rcases List.mem_cons.1 hx with rfl | hx
      · have:=g.2
        refine⟨(uD kc (by omega)).2,by omega,fun i hi=> ?_⟩
        exact(uD (Am p k _ _ _ g.1 i hi) hp.2).2
      · exact Ao p hp f q _ key x hx
    · rw [g] at key
      cases key
theorem Ap (l:List eD):∀ (q:List eD) (k:Nat),(lp (bX l q k) fun _=>true)=true→∀ x ∈ q,(1≤x.ak∧x.ak≤4)∧List.length x.au.ls≤4∧∀ r ∈ x.au.ls,um r
  | [],_,_,x,hx=>by cases hx
  | y::q,k,h,x,hx=>by
    have key:cZ y.ak 4=true∧List.length y.au.ls≤4∧(lp (lv (dn k y (List.length y.au.ls) 0) fun _=>bX l q (k+1)) fun _=>true)=true:=by
      simp only [bX,aN,ve] at h
      repeat' split at h
      all_goals first | cases h; done | exact⟨by assumption,by omega,h⟩
    obtain⟨kc,key⟩:=key
    rcases wy k y (List.length y.au.ls) 0 with g | g
    · have h':=key.2
      rw [g.1] at h'
      rcases List.mem_cons.1 hx with rfl | hx
      · refine⟨(uD kc (by omega)).2,by omega,fun r hr=> ?_⟩
        obtain⟨i,hi,he⟩:=List.getElem_of_mem hr
        have:=g.2 i (by omega) (by omega)
        rw [List.getD,List.getElem?_eq_getElem hi] at this
        simp only [Option.getD_some,he] at this
        exact this
      · exact Ap l q _ h' x hx
    · have h':=key.2
      rw [g] at h'
      cases h'
theorem zh {x:bK} (hn:x.av≤18446744073709551615∧x.aj≤18446744073709551615∧x.bJ≤18446744073709551615) (h:(1≤x.ak∧x.ak≤4)∧List.length x.aa.ls≤4∧∀ i ∈ x.aa.ls,1≤i∧i≤4):xH x∧List.length (qK x)≤36:=by
  obtain⟨c,b,a⟩:=h
  refine⟨⟨hn.1,⟨by omega,by omega⟩,hn.2.1,hn.2.2,by omega,fun i hi=>by have:=a i hi; exact⟨by omega,by omega⟩⟩, ?_⟩
  unfold qK
  have:=og (wr:=iB) (n:=1) (m:=4) x.aa.ls b (by decide) fun i hi=>by have:=a i hi; rw [tF (by omega)]; omega
  have:=mf _ hn.1
  have:=mf _ hn.2.1
  have:=mf _ hn.2.2
  simp only [List.length_append]
  rw [tF (by omega)]
  omega
theorem zi {x:cK} (h:um x):xI x∧List.length (qa x)≤139:=by
  obtain⟨c,b,a⟩:=h
  refine⟨⟨trivial,by unfold tP; omega,by omega,fun q hq=>by have:=a q hq; exact⟨by unfold tP; omega,by unfold tP; omega⟩⟩, ?_⟩
  unfold qa
  have:=og (wr:=qI) (n:=30) (m:=4) x.aA.ls b (by decide) fun q hq=>by have:=a q hq; unfold qI; rw [List.length_append,tL _ (by omega),tL _ (by omega)]; omega
  simp only [List.length_append]
  rw [Bb,tL _ (by omega)]
  omega
theorem zk {x:eD} (hn:x.aj≤18446744073709551615∧x.bJ≤18446744073709551615) (h:(1≤x.ak∧x.ak≤4)∧List.length x.au.ls≤4∧∀ r ∈ x.au.ls,um r):xJ x∧List.length (qL x)≤578:=by
  obtain⟨c,b,a⟩:=h
  refine⟨⟨⟨by omega,by omega⟩,hn.1,hn.2,by omega,fun r hr=>(zi (a r hr)).1⟩, ?_⟩
  unfold qL
  have:=og (wr:=qa) (n:=139) (m:=4) x.au.ls b (by decide) fun r hr=>(zi (a r hr)).2
  have:=mf _ hn.1
  have:=mf _ hn.2
  simp only [List.length_append]
  rw [tF (by omega)]
  omega
theorem Bf {p:bI} (h:dA p=0) (n:r9 p):yV p∧List.length (sF p) < 8191:=by
  have s:=uq h n
  obtain⟨_,_,l,_,q,_,e,f,g⟩:=s
  obtain⟨_,_,_,j,k⟩:=n
  unfold dA at h
  rw [aN] at h
  have v:∀ b:Bool,df b=0→b=true:=by intro b; cases b <;> simp [df]
  split at h
  · split at h
    · rw [aN] at h
      split at h
      · rw [aN] at h
        split at h
        · rename_i r t c d
          rw [aN,aN] at h
          have m:=v _ h
          have a:=uD r (by omega)
          have ho:gU p.ai.ls=0:=by
            unfold jG at c
            rw [aN] at c
            split at c
            · assumption
            · cases c
          have o:=ze ho
          unfold jq at d
          split at d
          · cases d
          · unfold kg at m
            split at m
            · cases m
            · have hd:=Ao p ⟨by omega,a.2.2⟩ _ _ _ d
              have hl:=Ap _ _ _ m
              have ld:=og (wr:=qK) (n:=36) (m:=8) p.af.ls l (by decide) fun x hx=>(zh (j x hx) (hd x hx)).2
              have ll:=og (wr:=qL) (n:=578) (m:=4) p.aB.ls q (by decide) fun x hx=>(zk (k x hx) (hl x hx)).2
              refine⟨⟨a.1,e,f,g,o.1,⟨by omega,fun x hx=>(zh (j x hx) (hd x hx)).1⟩,⟨by omega,fun x hx=>(zk (k x hx) (hl x hx)).1⟩⟩, ?_⟩
              unfold sF
              simp only [List.length_append]
              have u:=tF (i:=p.aa) (by omega)
              have w:=mf _ e
              have y:=mf _ f
              have z:=mf _ g
              have lo:=o.2
              omega
        · rw [aN] at h; have:=v _ h; cases this
      · rw [aN] at h; have:=v _ h; cases this
    · rw [aN] at h; have:=v _ h; cases this
  · rw [aN] at h; have:=v _ h; cases this
end Go.Proofs.YtcnkpjheifkgnaaGreat
