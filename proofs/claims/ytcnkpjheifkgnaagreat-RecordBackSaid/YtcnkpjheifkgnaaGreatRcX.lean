/-
  States that may be: how great their parts are, and how long their bytes.
  Conditions: numbers are 64-bit numbers.
-/
import Derived.Test.YtcnkpjheifkgnaaGreatRcB
namespace Go.Proofs.YtcnkpjheifkgnaaGreat
set_option linter.unusedVariables false
set_option linter.unusedSimpArgs false
theorem kz (n:Nat) (h:n≤18446744073709551615):List.length (bq n)≤10:=by rw [nL]; exact(oW n h).2
theorem sW (n:Nat) (h:n < 128):List.length (bq n)=1:=by rw [nL,kP n,if_pos (by omega)]; rfl
theorem qW {i:Int} (h:0≤i∧i < 128):List.length (iB i)=1:=by
  unfold iB
  have:=(wI (i:=i) (by omega)).1
  exact sW _ (by omega)
theorem tL (s:List UInt8) (h:List.length s < 128):List.length (dB s)=1+List.length s:=by rw [rM,sW _ h]
theorem yF (b:Bool):List.length (pG b)=1:=by unfold pG; exact sW _ (by split <;> omega)
theorem uZ {α:Type} {wr:α→List UInt8} {n:Nat}:∀ (l:List α),(∀ x ∈ l,List.length (wr x)≤n)→List.length (List.flatMap wr l)≤n *List.length l
  | [],_=>Cc _
  | x::q,h=>by
    have a:=h x (.head _)
    have b:=uZ q (fun y hy=>h y (.tail _ hy))
    rw [List.flatMap_cons,List.length_append,List.length_cons,Nat.mul_add]
    omega
theorem mE {α:Type} {wr:α→List UInt8} {n m:Nat} (l:List α) (hm:List.length l≤m) (a:m < 128) (h:∀ x ∈ l,List.length (wr x)≤n):List.length (lB wr l)≤1+n *m:=by
  unfold lB
  rw [List.length_append,sW _ (by omega)]
  have:=uZ l h
  have:=Nat.mul_le_mul_left n hm
  omega
theorem rP {n m:Int} (h:dh n m=true) (hm:m≤4):iP n∧1≤n∧n≤4:=by
  have:=qh h
  exact⟨⟨by omega,by omega⟩,by omega,by omega⟩
def opC (x:aW):Prop:=(1≤x.aV∧x.aV≤5)∧(0≤x.bF∧x.bF≤4)∧List.length x.aX+List.length x.aB+List.length x.aJ+List.length x.aN≤28
theorem nZ {l:List UInt8} (h: []=l):List.length l=0:=by rw [← h]; rfl
theorem yG {x:aW} (h:jq x=0):opC x:=by
  unfold jq at h
  simp only [aF,kH,lF,lG,kS] at h
  split at h
  · split at h
    · rename_i k e
      obtain⟨_,_,a,b,c,d⟩:=e
      have:=lX h
      exact⟨by omega,by omega,by rw [nZ a,nZ b,nZ c]; omega⟩
    · omega
  split at h
  · split at h
    · rename_i e
      obtain⟨_,_,_,b,c,d⟩:=e
      unfold kI kE at h
      simp only [aF] at h
      split at h
      · split at h
        · omega
        · have:=lX (by assumption)
          exact⟨by omega,by omega,by rw [nZ b,nZ c]; omega⟩
      · omega
    · omega
  split at h
  · split at h
    · rename_i e
      obtain⟨_,_,a,b,c,d⟩:=e
      have:=lX h
      exact⟨by omega,by omega,by rw [nZ a,nZ b,nZ c]; omega⟩
    · omega
  split at h
  · split at h
    · rename_i e
      obtain⟨_,f,a,_,_,_⟩:=e
      unfold kJ jc jN at h
      simp only [aF] at h
      split at h
      · have:=oV (by assumption)
        split at h
        · omega
        · split at h
          · omega
          · exact⟨by omega,by omega,by rw [nZ f,nZ a]; dsimp only at this; omega⟩
      · omega
    · omega
  split at h
  · split at h
    · rename_i e
      obtain⟨_,f,a,_,_,d⟩:=e
      unfold jc jN at h
      simp only [aF] at h
      have:=oV h
      exact⟨by omega,by omega,by rw [nZ f,nZ a]; dsimp only at this; omega⟩
    · omega
  · omega
theorem ve {x:aW} (h:opC x):uJ x∧List.length (qV x)≤34:=by
  obtain⟨a,b,c⟩:=h
  refine⟨⟨⟨by omega,by omega⟩,by unfold tP; omega,by unfold tP; omega,by unfold tP; omega,by unfold tP; omega,by omega,by omega⟩, ?_⟩
  unfold qV
  simp only [List.length_append]
  rw [qW (by omega),qW (by omega),tL _ (by omega),tL _ (by omega),tL _ (by omega),tL _ (by omega)]
  omega
theorem h1c (k:Nat):∀ l:List aW,(bT k l= .inl ()∧∀ x ∈ l,opC x)∨bT k l= .inr false
  | []=> .inl ⟨rfl,fun x hx=>by cases hx⟩
  | y::q=>by
    by_cases e:jq y=0
    · rcases h1c k q with h | h
      · refine .inl ⟨by simp only [bT,aF,if_pos e]; exact h.1,fun x hx=> ?_⟩
        rcases List.mem_cons.1 hx with rfl | hx
        · exact yG e
        · exact h.2 x hx
      · refine .inr (by simp only [bT,aF,if_pos e]; exact h)
    · exact .inr (by simp only [bT,aF,if_neg e])
theorem xV (p:bP) (f:Unit→Bool):∀ (q:List fK) (k:Nat),lp (bZ p q k) f=true→∀ x ∈ q,List.length x.aL.ls≤24∧∀ o ∈ x.aL.ls,opC o
  | [],_,_,x,hx=>by cases hx
  | y::q,k,h,x,hx=>by
    have key:dh ((List.length y.aL.ls:Nat):Int) 24=true∧lp (kQ (bT k y.aL.ls) fun _=>bZ p q (k+1)) f=true:=by
      simp only [bZ,aF,ul] at h
      split at h
      · split at h
        · cases h
        · split at h
          · exact⟨by assumption,h⟩
          · cases h
      · split at h
        · exact⟨by assumption,h⟩
        · cases h
    have a:=qh key.1
    rcases h1c k y.aL.ls with g | g
    · have h':=key.2
      rw [g.1] at h'
      rcases List.mem_cons.1 hx with rfl | hx
      · exact⟨by omega,g.2⟩
      · exact xV p f q _ h' x hx
    · have h':=key.2
      rw [g] at h'
      cases h'
theorem yH {n:Int} (h:kD n=true):1≤n∧n≤4:=by
  unfold kD at h
  split at h
  · exact⟨by omega,of_decide_eq_true h⟩
  · cases h
theorem vg (l:List aH):∀ (q:List aH) (k:Nat),(lp (dS l q k) fun _=>0)=0→∀ x ∈ q,1≤x.fI∧x.fI≤4
  | [],_,_,x,hx=>by cases hx
  | y::q,k,h,x,hx=>by
    simp only [dS,aF] at h
    split at h
    · have a:=yH (by assumption)
      have rest:(lp (dS l q (k+1)) fun _=>0)=0:=by
        repeat' split at h
        all_goals first | exact h | (simp only [lp] at h; omega)
      rcases List.mem_cons.1 hx with rfl | hx
      · exact a
      · exact vg l q _ rest x hx
    · simp only [lp] at h; omega
theorem za {l:List aH} (h:iK l=0):∀ x ∈ l,1≤x.fI∧x.fI≤4:=by
  unfold iK at h
  rw [aF] at h
  repeat' split at h
  all_goals first | exact vg l l 0 h | omega
theorem wZ {l:List aH} (h:iK l=0):lP tT l∧List.length (lB pI l)≤85:=by
  have a:=uk h
  have b:=za h
  refine⟨⟨by omega,fun x hx=>⟨by have:=a.2 x hx; unfold tP; omega,by have:=b x hx; exact⟨by omega,by omega⟩⟩⟩, ?_⟩
  refine mE (n:=14) (m:=6) l a.1 (by decide) fun x hx=> ?_
  have c:=a.2 x hx
  have d:=b x hx
  unfold pI
  rw [List.length_append,qW (by omega),tL _ (by omega)]
  omega
theorem xI {l:List Nat} (hl:List.length l≤64) (h:∀ x ∈ l,x≤18446744073709551615):lP nP l∧List.length (lB bq l)≤641:=
  ⟨⟨by omega,h⟩,mE (n:=10) (m:=64) l hl (by decide) fun x hx=>kz x (h x hx)⟩
theorem xc {x:fK} (hn:x.aS≤18446744073709551615) (h:List.length x.aL.ls≤24∧∀ o ∈ x.aL.ls,opC o):tV x∧List.length (ql x)≤827:=by
  refine⟨⟨hn,by have:=h.1; omega,fun o ho=>(ve (h.2 o ho)).1⟩, ?_⟩
  unfold ql
  have:=mE (n:=34) (m:=24) x.aL.ls h.1 (by decide) fun o ho=>(ve (h.2 o ho)).2
  have:=kz _ hn
  rw [List.length_append]
  omega
theorem xJ {l:List fK} (hl:List.length l≤6) (h:∀ x ∈ l,x.aS≤18446744073709551615∧List.length x.aL.ls≤24∧∀ o ∈ x.aL.ls,opC o):lP tV l∧List.length (lB ql l)≤4963:=
  ⟨⟨by omega,fun x hx=>(xc (h x hx).1 (h x hx).2).1⟩,mE (n:=827) (m:=6) l hl (by decide) fun x hx=>(xc (h x hx).1 (h x hx).2).2⟩
theorem xe {x:bI} (h:List.length x.aJ≤12∧List.length x.aN≤12):uI x∧List.length (sj x)≤26:=by
  refine⟨⟨by unfold tP; omega,by unfold tP; omega⟩, ?_⟩
  unfold sj
  rw [List.length_append,tL _ (by omega),tL _ (by omega)]
  omega
theorem xg {p:bP} (h:bG p=0) (n:nE p):wF p∧List.length (ma p) < 8191:=by
  have s:=tH h n
  obtain⟨_,_,z,_,A,B,e,k,l,m,q,r,t,u,w,y⟩:=s
  obtain⟨_,_,_,_,_,_,_,_,_,j,_⟩:=n
  unfold bG at h
  simp only [aF] at h
  have v:∀ b:Bool,bY b=0→b=true:=by intro b; cases b <;> simp [bY]
  split at h
  · split at h
    · split at h
      · rename_i C D d
        have a:=rP C (by omega)
        have o:=wZ D
        unfold j4 at d
        split at d
        · cases d
        · split at d
          · cases d
          · have hh:=xV p _ _ _ d
            have g:=xJ z fun x hx=>⟨j x hx,hh x hx⟩
            have f:=xI A B
            have c:=xe (x:=p.aZ) ⟨e.1,e.2.1⟩
            have i:=xe (x:=p.aT.aO) e.2.2
            refine⟨⟨a.1,k,l,m,q,o.1,g.1,f.1,r,t,c.1,u,w,y,i.1⟩, ?_⟩
            unfold ma uN
            simp only [List.length_append]
            have E:=qW (i:=p.iw) (by omega)
            have F:=kz _ k
            have G:=kz _ l
            have H:=kz _ m
            have I:=kz _ q
            have J:=kz _ r
            have K:=kz _ t
            have L:=kz _ u
            have M:=kz _ w
            have N:=kz _ y
            have lo:=o.2
            have lg:=g.2
            have lf:=f.2
            have lc:=c.2
            have li:=i.2
            omega
      · have:=v _ h; cases this
    · have:=v _ h; cases this
  · have:=v _ h; cases this
theorem xW (p:bK) (k:Nat) (d:bO):∀ (q:List Int) (j:Nat),bz p k d q j= .inl ()→∀ x ∈ q,dh x p.af=true
  | [],_,_,x,hx=>by cases hx
  | y::q,j,h,x,hx=>by
    simp only [bz,aF] at h
    split at h
    · have rest:bz p k d q (j+1)= .inl ():=by
        repeat' split at h
        all_goals first | exact h | cases h
      rcases List.mem_cons.1 hx with rfl | hx
      · assumption
      · exact xW p k d q _ rest x hx
    · cases h
theorem xX (p:bK) (hp:0≤p.af∧p.af≤4) (f:Unit→Bool):∀ (q:List bO) (k:Nat),lp (bA p q k) f=true→∀ x ∈ q,(1≤x.aC∧x.aC≤4)∧List.length x.af.ls≤4∧∀ i ∈ x.af.ls,1≤i∧i≤4
  | [],_,_,x,hx=>by cases hx
  | y::q,k,h,x,hx=>by
    have key:dh y.aC 4=true∧lp (kQ (bz p k y y.af.ls 0) fun _=>bA p q (k+1)) f=true:=by
      simp only [bA,aF,uo] at h
      repeat' split at h
      all_goals first | cases h; done | exact⟨by assumption,h⟩
    obtain⟨kc,key⟩:=key
    rcases um p k y y.af.ls 0 [] 0 rfl rfl (fun h=>absurd h (by omega)) (fun _=>rfl) hp.1 with g | g
    · rw [g.1] at key
      rcases List.mem_cons.1 hx with rfl | hx
      · have:=g.2
        refine⟨(rP kc (by omega)).2,by omega,fun i hi=> ?_⟩
        exact(rP (xW p k _ _ _ g.1 i hi) hp.2).2
      · exact xX p hp f q _ key x hx
    · rw [g] at key
      cases key
theorem xY (l:List eD):∀ (q:List eD) (k:Nat),(lp (bV l q k) fun _=>true)=true→∀ x ∈ q,(1≤x.aC∧x.aC≤4)∧List.length x.ah.ls≤4∧∀ r ∈ x.ah.ls,rF r
  | [],_,_,x,hx=>by cases hx
  | y::q,k,h,x,hx=>by
    have key:dh y.aC 4=true∧List.length y.ah.ls≤4∧(lp (kQ (dn k y (List.length y.ah.ls) 0) fun _=>bV l q (k+1)) fun _=>true)=true:=by
      simp only [bV,aF,ut] at h
      repeat' split at h
      all_goals first | cases h; done | exact⟨by assumption,by omega,h⟩
    obtain⟨kc,key⟩:=key
    rcases uq k y (List.length y.ah.ls) 0 with g | g
    · have h':=key.2
      rw [g.1] at h'
      rcases List.mem_cons.1 hx with rfl | hx
      · refine⟨(rP kc (by omega)).2,by omega,fun r hr=> ?_⟩
        obtain⟨i,hi,he⟩:=List.getElem_of_mem hr
        have:=g.2 i (by omega) (by omega)
        rw [List.getD,List.getElem?_eq_getElem hi] at this
        simp only [Option.getD_some,he] at this
        exact this
      · exact xY l q _ h' x hx
    · have h':=key.2
      rw [g] at h'
      cases h'
theorem xh {x:bO} (hn:x.aS≤18446744073709551615∧x.au≤18446744073709551615∧x.bB≤18446744073709551615) (h:(1≤x.aC∧x.aC≤4)∧List.length x.af.ls≤4∧∀ i ∈ x.af.ls,1≤i∧i≤4):uK x∧List.length (qm x)≤36:=by
  obtain⟨c,b,a⟩:=h
  refine⟨⟨hn.1,⟨by omega,by omega⟩,hn.2.1,hn.2.2,by omega,fun i hi=>by have:=a i hi; exact⟨by omega,by omega⟩⟩, ?_⟩
  unfold qm
  have:=mE (wr:=iB) (n:=1) (m:=4) x.af.ls b (by decide) fun i hi=>by have:=a i hi; rw [qW (by omega)]; omega
  have:=kz _ hn.1
  have:=kz _ hn.2.1
  have:=kz _ hn.2.2
  simp only [List.length_append]
  rw [qW (by omega)]
  omega
theorem xk {x:bX} (h:rF x):uL x∧List.length (qo x)≤139:=by
  obtain⟨c,b,a⟩:=h
  refine⟨⟨trivial,by unfold tP; omega,by omega,fun q hq=>by have:=a q hq; exact⟨by unfold tP; omega,by unfold tP; omega⟩⟩, ?_⟩
  unfold qo
  have:=mE (wr:=qj) (n:=30) (m:=4) x.ax.ls b (by decide) fun q hq=>by have:=a q hq; unfold qj; rw [List.length_append,tL _ (by omega),tL _ (by omega)]; omega
  simp only [List.length_append]
  rw [yF,tL _ (by omega)]
  omega
theorem xm {x:eD} (hn:x.au≤18446744073709551615∧x.bB≤18446744073709551615) (h:(1≤x.aC∧x.aC≤4)∧List.length x.ah.ls≤4∧∀ r ∈ x.ah.ls,rF r):uM x∧List.length (qp x)≤578:=by
  obtain⟨c,b,a⟩:=h
  refine⟨⟨⟨by omega,by omega⟩,hn.1,hn.2,by omega,fun r hr=>(xk (a r hr)).1⟩, ?_⟩
  unfold qp
  have:=mE (wr:=qo) (n:=139) (m:=4) x.ah.ls b (by decide) fun r hr=>(xk (a r hr)).2
  have:=kz _ hn.1
  have:=kz _ hn.2
  simp only [List.length_append]
  rw [qW (by omega)]
  omega
theorem xn {p:bK} (h:bH p=0) (n:nG p):wG p∧List.length (mO p) < 8191:=by
  have s:=tJ h n
  obtain⟨_,_,l,_,q,_,e,f,g⟩:=s
  obtain⟨_,_,_,j,k⟩:=n
  unfold bH at h
  rw [aF] at h
  have v:∀ b:Bool,bY b=0→b=true:=by intro b; cases b <;> simp [bY]
  split at h
  · split at h
    · rw [aF] at h
      split at h
      · rw [aF] at h
        split at h
        · rename_i r t c d
          rw [aF,aF] at h
          have m:=v _ h
          have a:=rP r (by omega)
          have ho:iK p.ag.ls=0:=by
            unfold jO at c
            rw [aF] at c
            split at c
            · assumption
            · cases c
          have o:=wZ ho
          unfold jM at d
          split at d
          · cases d
          · unfold j5 at m
            split at m
            · cases m
            · have hd:=xX p ⟨by omega,a.2.2⟩ _ _ _ d
              have hl:=xY _ _ _ m
              have ld:=mE (wr:=qm) (n:=36) (m:=8) p.ai.ls l (by decide) fun x hx=>(xh (j x hx) (hd x hx)).2
              have ll:=mE (wr:=qp) (n:=578) (m:=4) p.aG.ls q (by decide) fun x hx=>(xm (k x hx) (hl x hx)).2
              refine⟨⟨a.1,e,f,g,o.1,⟨by omega,fun x hx=>(xh (j x hx) (hd x hx)).1⟩,⟨by omega,fun x hx=>(xm (k x hx) (hl x hx)).1⟩⟩, ?_⟩
              unfold mO
              simp only [List.length_append]
              have u:=qW (i:=p.af) (by omega)
              have w:=kz _ e
              have y:=kz _ f
              have z:=kz _ g
              have lo:=o.2
              omega
        · rw [aF] at h; have:=v _ h; cases this
      · rw [aF] at h; have:=v _ h; cases this
    · rw [aF] at h; have:=v _ h; cases this
  · rw [aF] at h; have:=v _ h; cases this
end Go.Proofs.YtcnkpjheifkgnaaGreat
