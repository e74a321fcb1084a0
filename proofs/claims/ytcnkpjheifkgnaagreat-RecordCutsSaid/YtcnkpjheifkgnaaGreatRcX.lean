/-
  States that may be: how great their parts are, and how long their bytes.
  Conditions: numbers are 64-bit numbers.
-/
import Derived.Test.YtcnkpjheifkgnaaGreatRcW
namespace Go.Proofs.YtcnkpjheifkgnaaGreat
set_option linter.unusedVariables false
set_option linter.unusedSimpArgs false
theorem jV (n:Nat) (h:n≤18446744073709551615):List.length (aX n)≤10:=by rw [mQ]; exact(oh n h).2
theorem rW (n:Nat) (h:n < 128):List.length (aX n)=1:=by rw [mQ,kv n,if_pos (by omega)]; rfl
theorem qi {i:Int} (h:0≤i∧i < 128):List.length (iB i)=1:=by
  unfold iB
  have:=(wI (i:=i) (by omega)).1
  exact rW _ (by omega)
theorem tL (s:List UInt8) (h:List.length s < 128):List.length (di s)=1+List.length s:=by rw [qN,rW _ h]
theorem xw (b:Bool):List.length (oH b)=1:=by unfold oH; exact rW _ (by split <;> omega)
theorem uH {α:Type} {wr:α→List UInt8} {n:Nat}:∀ (l:List α),(∀ x ∈ l,List.length (wr x)≤n)→List.length (List.flatMap wr l)≤n *List.length l
  | [],_=>A9 _
  | x::q,h=>by
    have a:=h x (.head _)
    have b:=uH q (fun y hy=>h y (.tail _ hy))
    rw [List.flatMap_cons,List.length_append,List.length_cons,Nat.mul_add]
    omega
theorem lL {α:Type} {wr:α→List UInt8} {n m:Nat} (l:List α) (hm:List.length l≤m) (a:m < 128) (h:∀ x ∈ l,List.length (wr x)≤n):List.length (lB wr l)≤1+n *m:=by
  unfold lB
  rw [List.length_append,rW _ (by omega)]
  have:=uH l h
  have:=Nat.mul_le_mul_left n hm
  omega
theorem qO {n m:Int} (h:cu n m=true) (hm:m≤4):iP n∧1≤n∧n≤4:=by
  have:=pg h
  exact⟨⟨by omega,by omega⟩,by omega,by omega⟩
def opC (x:aW):Prop:=(1≤x.aT∧x.aT≤5)∧(0≤x.bD∧x.bD≤4)∧List.length x.aY+List.length x.aB+List.length x.aJ+List.length x.aO≤28
theorem ny {l:List UInt8} (h: []=l):List.length l=0:=by rw [← h]; rfl
theorem xx {x:aW} (h:iU x=0):opC x:=by
  unfold iU at h
  simp only [aF,j4,kP,kQ,ky] at h
  split at h
  · split at h
    · rename_i k e
      obtain⟨_,_,a,b,c,d⟩:=e
      have:=lw h
      exact⟨by omega,by omega,by rw [ny a,ny b,ny c]; omega⟩
    · omega
  split at h
  · split at h
    · rename_i e
      obtain⟨_,_,_,b,c,d⟩:=e
      unfold j5 jX at h
      simp only [aF] at h
      split at h
      · split at h
        · omega
        · have:=lw (by assumption)
          exact⟨by omega,by omega,by rw [ny b,ny c]; omega⟩
      · omega
    · omega
  split at h
  · split at h
    · rename_i e
      obtain⟨_,_,a,b,c,d⟩:=e
      have:=lw h
      exact⟨by omega,by omega,by rw [ny a,ny b,ny c]; omega⟩
    · omega
  split at h
  · split at h
    · rename_i e
      obtain⟨_,f,a,_,_,_⟩:=e
      unfold j6 iF jw at h
      simp only [aF] at h
      split at h
      · have:=og (by assumption)
        split at h
        · omega
        · split at h
          · omega
          · exact⟨by omega,by omega,by rw [ny f,ny a]; dsimp only at this; omega⟩
      · omega
    · omega
  split at h
  · split at h
    · rename_i e
      obtain⟨_,f,a,_,_,d⟩:=e
      unfold iF jw at h
      simp only [aF] at h
      have:=og h
      exact⟨by omega,by omega,by rw [ny f,ny a]; dsimp only at this; omega⟩
    · omega
  · omega
theorem uI {x:aW} (h:opC x):uh x∧List.length (qh x)≤34:=by
  obtain⟨a,b,c⟩:=h
  refine⟨⟨⟨by omega,by omega⟩,by unfold tP; omega,by unfold tP; omega,by unfold tP; omega,by unfold tP; omega,by omega,by omega⟩, ?_⟩
  unfold qh
  simp only [List.length_append]
  rw [qi (by omega),qi (by omega),tL _ (by omega),tL _ (by omega),tL _ (by omega),tL _ (by omega)]
  omega
theorem h1c (k:Nat):∀ l:List aW,(bI k l= .inl ()∧∀ x ∈ l,opC x)∨bI k l= .inr false
  | []=> .inl ⟨rfl,fun x hx=>by cases hx⟩
  | y::q=>by
    by_cases e:iU y=0
    · rcases h1c k q with h | h
      · refine .inl ⟨by simp only [bI,aF,if_pos e]; exact h.1,fun x hx=> ?_⟩
        rcases List.mem_cons.1 hx with rfl | hx
        · exact xx e
        · exact h.2 x hx
      · refine .inr (by simp only [bI,aF,if_pos e]; exact h)
    · exact .inr (by simp only [bI,aF,if_neg e])
theorem wG (p:bP) (f:Unit→Bool):∀ (q:List fo) (k:Nat),lp (bT p q k) f=true→∀ x ∈ q,List.length x.aI.ls≤24∧∀ o ∈ x.aI.ls,opC o
  | [],_,_,x,hx=>by cases hx
  | y::q,k,h,x,hx=>by
    have key:cu ((List.length y.aI.ls:Nat):Int) 24=true∧lp (kN (bI k y.aI.ls) fun _=>bT p q (k+1)) f=true:=by
      simp only [bT,aF,sZ] at h
      split at h
      · split at h
        · cases h
        · split at h
          · exact⟨by assumption,h⟩
          · cases h
      · split at h
        · exact⟨by assumption,h⟩
        · cases h
    have a:=pg key.1
    rcases h1c k y.aI.ls with g | g
    · have h':=key.2
      rw [g.1] at h'
      rcases List.mem_cons.1 hx with rfl | hx
      · exact⟨by omega,g.2⟩
      · exact wG p f q _ h' x hx
    · have h':=key.2
      rw [g] at h'
      cases h'
theorem xy {n:Int} (h:jW n=true):1≤n∧n≤4:=by
  unfold jW at h
  split at h
  · exact⟨by omega,of_decide_eq_true h⟩
  · cases h
theorem uJ (l:List aC):∀ (q:List aC) (k:Nat),(lp (dJ l q k) fun _=>0)=0→∀ x ∈ q,1≤x.gm∧x.gm≤4
  | [],_,_,x,hx=>by cases hx
  | y::q,k,h,x,hx=>by
    simp only [dJ,aF] at h
    split at h
    · have a:=xy (by assumption)
      have rest:(lp (dJ l q (k+1)) fun _=>0)=0:=by
        repeat' split at h
        all_goals first | exact h | (simp only [lp] at h; omega)
      rcases List.mem_cons.1 hx with rfl | hx
      · exact a
      · exact uJ l q _ rest x hx
    · simp only [lp] at h; omega
theorem xR {l:List aC} (h:ic l=0):∀ x ∈ l,1≤x.gm∧x.gm≤4:=by
  unfold ic at h
  rw [aF] at h
  repeat' split at h
  all_goals first | exact uJ l l 0 h | omega
theorem vJ {l:List aC} (h:ic l=0):lP sH l∧List.length (lB oI l)≤85:=by
  have a:=sW h
  have b:=xR h
  refine⟨⟨by omega,fun x hx=>⟨by have:=a.2 x hx; unfold tP; omega,by have:=b x hx; exact⟨by omega,by omega⟩⟩⟩, ?_⟩
  refine lL (n:=14) (m:=6) l a.1 (by decide) fun x hx=> ?_
  have c:=a.2 x hx
  have d:=b x hx
  unfold oI
  rw [List.length_append,qi (by omega),tL _ (by omega)]
  omega
theorem vV {l:List Nat} (hl:List.length l≤64) (h:∀ x ∈ l,x≤18446744073709551615):lP nP l∧List.length (lB aX l)≤641:=
  ⟨⟨by omega,h⟩,lL (n:=10) (m:=64) l hl (by decide) fun x hx=>jV x (h x hx)⟩
theorem vK {x:fo} (hn:x.aV≤18446744073709551615) (h:List.length x.aI.ls≤24∧∀ o ∈ x.aI.ls,opC o):sI x∧List.length (pz x)≤827:=by
  refine⟨⟨hn,by have:=h.1; omega,fun o ho=>(uI (h.2 o ho)).1⟩, ?_⟩
  unfold pz
  have:=lL (n:=34) (m:=24) x.aI.ls h.1 (by decide) fun o ho=>(uI (h.2 o ho)).2
  have:=jV _ hn
  rw [List.length_append]
  omega
theorem vW {l:List fo} (hl:List.length l≤6) (h:∀ x ∈ l,x.aV≤18446744073709551615∧List.length x.aI.ls≤24∧∀ o ∈ x.aI.ls,opC o):lP sI l∧List.length (lB pz l)≤4963:=
  ⟨⟨by omega,fun x hx=>(vK (h x hx).1 (h x hx).2).1⟩,lL (n:=827) (m:=6) l hl (by decide) fun x hx=>(vK (h x hx).1 (h x hx).2).2⟩
theorem vL {x:bE} (h:List.length x.aJ≤12∧List.length x.aO≤12):ug x∧List.length (ru x)≤26:=by
  refine⟨⟨by unfold tP; omega,by unfold tP; omega⟩, ?_⟩
  unfold ru
  rw [List.length_append,tL _ (by omega),tL _ (by omega)]
  omega
theorem vM {p:bP} (h:bi p=0) (n:o8 p):sJ p∧List.length (jv p) < 8191:=by
  have s:=sj h n
  obtain⟨_,_,z,_,A,B,e,k,l,m,q,r,t,u,w,y⟩:=s
  obtain⟨_,_,_,_,_,_,_,_,_,j,_⟩:=n
  unfold bi at h
  simp only [aF] at h
  have v:∀ b:Bool,bS b=0→b=true:=by intro b; cases b <;> simp [bS]
  split at h
  · split at h
    · split at h
      · rename_i C D d
        have a:=qO C (by omega)
        have o:=vJ D
        unfold jN at d
        split at d
        · cases d
        · split at d
          · cases d
          · have hh:=wG p _ _ _ d
            have g:=vW z fun x hx=>⟨j x hx,hh x hx⟩
            have f:=vV A B
            have c:=vL (x:=p.bz) ⟨e.1,e.2.1⟩
            have i:=vL (x:=p.bg.aR) e.2.2
            refine⟨⟨a.1,k,l,m,q,o.1,g.1,f.1,r,t,c.1,u,w,y,i.1⟩, ?_⟩
            unfold jv ul
            simp only [List.length_append]
            have E:=qi (i:=p.iZ) (by omega)
            have F:=jV _ k
            have G:=jV _ l
            have H:=jV _ m
            have I:=jV _ q
            have J:=jV _ r
            have K:=jV _ t
            have L:=jV _ u
            have M:=jV _ w
            have N:=jV _ y
            have lo:=o.2
            have lg:=g.2
            have lf:=f.2
            have lc:=c.2
            have li:=i.2
            omega
      · have:=v _ h; cases this
    · have:=v _ h; cases this
  · have:=v _ h; cases this
theorem wH (p:bL) (k:Nat) (d:bJ):∀ (q:List Int) (j:Nat),aZ p k d q j= .inl ()→∀ x ∈ q,cu x p.af=true
  | [],_,_,x,hx=>by cases hx
  | y::q,j,h,x,hx=>by
    simp only [aZ,aF] at h
    split at h
    · have rest:aZ p k d q (j+1)= .inl ():=by
        repeat' split at h
        all_goals first | exact h | cases h
      rcases List.mem_cons.1 hx with rfl | hx
      · assumption
      · exact wH p k d q _ rest x hx
    · cases h
theorem wJ (p:bL) (hp:0≤p.af∧p.af≤4) (f:Unit→Bool):∀ (q:List bJ) (k:Nat),lp (bf p q k) f=true→∀ x ∈ q,(1≤x.aG∧x.aG≤4)∧List.length x.af.ls≤4∧∀ i ∈ x.af.ls,1≤i∧i≤4
  | [],_,_,x,hx=>by cases hx
  | y::q,k,h,x,hx=>by
    have key:cu y.aG 4=true∧lp (kN (aZ p k y y.af.ls 0) fun _=>bf p q (k+1)) f=true:=by
      simp only [bf,aF,tu] at h
      repeat' split at h
      all_goals first | cases h; done | exact⟨by assumption,h⟩
    obtain⟨kc,key⟩:=key
    rcases tq p k y y.af.ls 0 [] 0 rfl rfl (fun h=>absurd h (by omega)) (fun _=>rfl) hp.1 with g | g
    · rw [g.1] at key
      rcases List.mem_cons.1 hx with rfl | hx
      · have:=g.2
        refine⟨(qO kc (by omega)).2,by omega,fun i hi=> ?_⟩
        exact(qO (wH p k _ _ _ g.1 i hi) hp.2).2
      · exact wJ p hp f q _ key x hx
    · rw [g] at key
      cases key
theorem wK (l:List dX):∀ (q:List dX) (k:Nat),(lp (bM l q k) fun _=>true)=true→∀ x ∈ q,(1≤x.aG∧x.aG≤4)∧List.length x.ah.ls≤4∧∀ r ∈ x.ah.ls,qJ r
  | [],_,_,x,hx=>by cases hx
  | y::q,k,h,x,hx=>by
    have key:cu y.aG 4=true∧List.length y.ah.ls≤4∧(lp (kN (cB k y (List.length y.ah.ls) 0) fun _=>bM l q (k+1)) fun _=>true)=true:=by
      simp only [bM,aF,tF] at h
      repeat' split at h
      all_goals first | cases h; done | exact⟨by assumption,by omega,h⟩
    obtain⟨kc,key⟩:=key
    rcases tC k y (List.length y.ah.ls) 0 with g | g
    · have h':=key.2
      rw [g.1] at h'
      rcases List.mem_cons.1 hx with rfl | hx
      · refine⟨(qO kc (by omega)).2,by omega,fun r hr=> ?_⟩
        obtain⟨i,hi,he⟩:=List.getElem_of_mem hr
        have:=g.2 i (by omega) (by omega)
        rw [List.getD,List.getElem?_eq_getElem hi] at this
        simp only [Option.getD_some,he] at this
        exact this
      · exact wK l q _ h' x hx
    · have h':=key.2
      rw [g] at h'
      cases h'
theorem vN {x:bJ} (hn:x.aV≤18446744073709551615∧x.az≤18446744073709551615∧x.bU≤18446744073709551615) (h:(1≤x.aG∧x.aG≤4)∧List.length x.af.ls≤4∧∀ i ∈ x.af.ls,1≤i∧i≤4):ui x∧List.length (pE x)≤36:=by
  obtain⟨c,b,a⟩:=h
  refine⟨⟨hn.1,⟨by omega,by omega⟩,hn.2.1,hn.2.2,by omega,fun i hi=>by have:=a i hi; exact⟨by omega,by omega⟩⟩, ?_⟩
  unfold pE
  have:=lL (wr:=iB) (n:=1) (m:=4) x.af.ls b (by decide) fun i hi=>by have:=a i hi; rw [qi (by omega)]; omega
  have:=jV _ hn.1
  have:=jV _ hn.2.1
  have:=jV _ hn.2.2
  simp only [List.length_append]
  rw [qi (by omega)]
  omega
theorem vO {x:df} (h:qJ x):uj x∧List.length (pF x)≤139:=by
  obtain⟨c,b,a⟩:=h
  refine⟨⟨trivial,by unfold tP; omega,by omega,fun q hq=>by have:=a q hq; exact⟨by unfold tP; omega,by unfold tP; omega⟩⟩, ?_⟩
  unfold pF
  have:=lL (wr:=pu) (n:=30) (m:=4) x.ay.ls b (by decide) fun q hq=>by have:=a q hq; unfold pu; rw [List.length_append,tL _ (by omega),tL _ (by omega)]; omega
  simp only [List.length_append]
  rw [xw,tL _ (by omega)]
  omega
theorem vP {x:dX} (hn:x.az≤18446744073709551615∧x.bU≤18446744073709551615) (h:(1≤x.aG∧x.aG≤4)∧List.length x.ah.ls≤4∧∀ r ∈ x.ah.ls,qJ r):uk x∧List.length (pG x)≤578:=by
  obtain⟨c,b,a⟩:=h
  refine⟨⟨⟨by omega,by omega⟩,hn.1,hn.2,by omega,fun r hr=>(vO (a r hr)).1⟩, ?_⟩
  unfold pG
  have:=lL (wr:=pF) (n:=139) (m:=4) x.ah.ls b (by decide) fun r hr=>(vO (a r hr)).2
  have:=jV _ hn.1
  have:=jV _ hn.2
  simp only [List.length_append]
  rw [qi (by omega)]
  omega
theorem vQ {p:bL} (h:bn p=0) (n:o9 p):sK p∧List.length (jD p) < 8191:=by
  have s:=su h n
  obtain⟨_,_,l,_,q,_,e,f,g⟩:=s
  obtain⟨_,_,_,j,k⟩:=n
  unfold bn at h
  rw [aF] at h
  have v:∀ b:Bool,bS b=0→b=true:=by intro b; cases b <;> simp [bS]
  split at h
  · split at h
    · rw [aF] at h
      split at h
      · rw [aF] at h
        split at h
        · rename_i r t c d
          rw [aF,aF] at h
          have m:=v _ h
          have a:=qO r (by omega)
          have ho:ic p.ag.ls=0:=by
            unfold jy at c
            rw [aF] at c
            split at c
            · assumption
            · cases c
          have o:=vJ ho
          unfold jr at d
          split at d
          · cases d
          · unfold jO at m
            split at m
            · cases m
            · have hd:=wJ p ⟨by omega,a.2.2⟩ _ _ _ d
              have hl:=wK _ _ _ m
              have ld:=lL (wr:=pE) (n:=36) (m:=8) p.ak.ls l (by decide) fun x hx=>(vN (j x hx) (hd x hx)).2
              have ll:=lL (wr:=pG) (n:=578) (m:=4) p.aP.ls q (by decide) fun x hx=>(vP (k x hx) (hl x hx)).2
              refine⟨⟨a.1,e,f,g,o.1,⟨by omega,fun x hx=>(vN (j x hx) (hd x hx)).1⟩,⟨by omega,fun x hx=>(vP (k x hx) (hl x hx)).1⟩⟩, ?_⟩
              unfold jD
              simp only [List.length_append]
              have u:=qi (i:=p.af) (by omega)
              have w:=jV _ e
              have y:=jV _ f
              have z:=jV _ g
              have lo:=o.2
              omega
        · rw [aF] at h; have:=v _ h; cases this
      · rw [aF] at h; have:=v _ h; cases this
    · rw [aF] at h; have:=v _ h; cases this
  · rw [aF] at h; have:=v _ h; cases this
end Go.Proofs.YtcnkpjheifkgnaaGreat
