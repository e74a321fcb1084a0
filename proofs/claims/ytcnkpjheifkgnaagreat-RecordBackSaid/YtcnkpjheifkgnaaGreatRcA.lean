/-
  States that may be are small.
  Conditions: numbers are 64-bit numbers (SNm, CNm).
-/
import Derived.Test.YtcnkpjheifkgnaaGreatRa
namespace Go.Proofs.YtcnkpjheifkgnaaGreat
set_option linter.unusedVariables false
set_option linter.unusedSimpArgs false
theorem aF {α β:Type} (x:α) (f:α→β):bnd x f=f x:=rfl
theorem lX {k:List UInt8} (h:dR k=0):List.length k≤12:=by
  unfold dR at h
  repeat' split at h
  all_goals omega
theorem oV {r:bI} (h:fH r=0):List.length r.aJ≤12∧List.length r.aN≤12:=by
  have e:(r.aJ= []∨dR r.aJ=0)∧(r.aN= []∨dR r.aN=0):=by
    by_cases a:r.aJ= [] <;> by_cases b:r.aN= [] <;> by_cases c:dR r.aJ=0 <;> by_cases d:dR r.aN=0 <;> simp [fH,aF,a,b,c,d] at h ⊢ <;> simp_all
  refine⟨?_, ?_⟩
  · rcases e.1 with a | a
    · rw [a]; exact Cc _
    · exact lX a
  · rcases e.2 with a | a
    · rw [a]; exact Cc _
    · exact lX a
abbrev uF (x:aW):Prop:=List.length x.aX≤12∧List.length x.aB≤16∧List.length x.aJ≤12∧List.length x.aN≤12
abbrev xL (q:bu):Prop:=List.length q.aX≤12∧List.length q.aB≤16
abbrev rF (x:bX):Prop:=List.length x.aB≤16∧List.length x.ax.ls≤4∧∀ q ∈ x.ax.ls,xL q
abbrev yM (x:fK):Prop:=x.aS≤18446744073709551615∧List.length x.aL.ls≤24∧∀ q ∈ x.aL.ls,uF q
abbrev yN (x:bO):Prop:=x.aS≤18446744073709551615∧x.au≤18446744073709551615∧x.bB≤18446744073709551615∧List.length x.af.ls≤4
abbrev yO (x:eD):Prop:=x.au≤18446744073709551615∧x.bB≤18446744073709551615∧List.length x.ah.ls≤24∧∀ q ∈ x.ah.ls,rF q
theorem nl {l:List UInt8} {n:Nat} (h: []=l):List.length l≤n:=by rw [← h]; exact Cc _
theorem yc {x:aW} (h:jq x=0):uF x:=by
  unfold jq at h
  simp only [aF,kH,lF,lG,kS] at h
  split at h
  · split at h
    · rename_i e
      obtain⟨_,_,a,b,c,_⟩:=e
      exact⟨lX h,nl a,nl b,nl c⟩
    · omega
  split at h
  · split at h
    · rename_i e
      obtain⟨_,_,_,b,c,_⟩:=e
      unfold kI kE at h
      simp only [aF] at h
      split at h
      · split at h
        · omega
        · exact⟨lX (by assumption),by omega,nl b,nl c⟩
      · omega
    · omega
  split at h
  · split at h
    · rename_i e
      obtain⟨_,_,a,b,c,_⟩:=e
      exact⟨lX h,nl a,nl b,nl c⟩
    · omega
  split at h
  · split at h
    · rename_i e
      obtain⟨_,d,a,_,_,_⟩:=e
      unfold kJ jc jN at h
      simp only [aF] at h
      split at h
      · have:=oV (by assumption)
        exact⟨nl d,nl a,this.1,this.2⟩
      · omega
    · omega
  split at h
  · split at h
    · rename_i e
      obtain⟨_,d,a,_,_,_⟩:=e
      unfold jc jN at h
      simp only [aF] at h
      have:=oV h
      exact⟨nl d,nl a,this.1,this.2⟩
    · omega
  · omega
theorem vS (l:List aH):∀ (q:List aH) (k:Nat),(lp (dS l q k) fun _=>0)=0→0 < k→∀ x ∈ q,List.length x.aJ≤12
  | [],_,_,_,x,hx=>by cases hx
  | y::q,k,h,hk,x,hx=>by
    simp only [dS,aF] at h
    split at h
    · split at h
      · split at h
        · split at h
          · simp only [lp] at h; omega
          · rcases List.mem_cons.1 hx with rfl | hx
            · exact lX (by assumption)
            · exact vS l q _ h (by omega) x hx
        · simp only [lp] at h; omega
      · omega
    · simp only [lp] at h; omega
theorem uk {l:List aH} (h:iK l=0):List.length l≤6∧∀ x ∈ l,List.length x.aJ≤12:=by
  unfold iK at h
  split at h
  · omega
  · split at h
    · omega
    · rw [aF] at h
      split at h
      · omega
      · rename_i a b c
        refine⟨by omega, ?_⟩
        match l,h,c with
        | [],_,_=>intro x hx; cases hx
        | y::q,h,c=>
          intro x hx
          simp only [dS,aF] at h
          split at h
          · rw [if_neg (by omega)] at h
            rcases List.mem_cons.1 hx with rfl | hx
            · have c':x.aJ= []:=Classical.not_not.1 c
              rw [c']; exact Cc _
            · exact vS _ q _ h (by omega) x hx
          · simp only [lp] at h; omega
def nE (p:bP):Prop:=p.au≤18446744073709551615∧p.aY≤18446744073709551615∧p.aK≤18446744073709551615∧p.bg≤18446744073709551615∧p.gU≤18446744073709551615∧p.cu≤18446744073709551615∧p.aT.bg≤18446744073709551615∧p.aT.bv≤18446744073709551615∧p.aT.cz≤18446744073709551615∧(∀ x ∈ p.aD.ls,x.aS≤18446744073709551615)∧∀ x ∈ p.aj.ls,x≤18446744073709551615
def nG (p:bK):Prop:=p.au≤18446744073709551615∧p.aY≤18446744073709551615∧p.aK≤18446744073709551615∧(∀ x ∈ p.ai.ls,x.aS≤18446744073709551615∧x.au≤18446744073709551615∧x.bB≤18446744073709551615)∧∀ x ∈ p.aG.ls,x.au≤18446744073709551615∧x.bB≤18446744073709551615
theorem vT (k:Nat):∀ l:List aW,(bT k l= .inl ()∧∀ x ∈ l,uF x)∨bT k l= .inr false
  | []=> .inl ⟨rfl,fun x hx=>by cases hx⟩
  | y::q=>by
    by_cases e:jq y=0
    · rcases vT k q with h | h
      · refine .inl ⟨by simp only [bT,aF,if_pos e]; exact h.1,fun x hx=> ?_⟩
        rcases List.mem_cons.1 hx with rfl | hx
        · exact yc e
        · exact h.2 x hx
      · refine .inr (by simp only [bT,aF,if_pos e]; exact h)
    · exact .inr (by simp only [bT,aF,if_neg e])
theorem ul (k:Nat):∀ l:List aW,fP k l=bT k l
  | []=>rfl
  | y::q=>by simp only [fP,bT,aF,ul k q]
theorem qh {n m:Int} (h:dh n m=true):1≤n∧n≤m:=by
  unfold dh at h
  split at h
  · exact⟨by omega,of_decide_eq_true h⟩
  · cases h
theorem vU (p:bP) (f:Unit→Bool):∀ (q:List fK) (k:Nat),lp (bZ p q k) f=true→∀ x ∈ q,List.length x.aL.ls≤24∧∀ o ∈ x.aL.ls,uF o
  | [],_,_,x,hx=>by cases hx
  | y::q,k,h,x,hx=>by
    have key:dh ((List.length y.aL.ls:Nat):Int) 24=true∧lp (kQ (bT k y.aL.ls) fun _=>bZ p q (k+1)) f=true:=by
      simp only [bZ,aF,ul] at h
      split at h
      · split at h
        · cases h
        · split at h
          · exact⟨by assumption,h⟩
          · cases h
      · split at h
        · exact⟨by assumption,h⟩
        · cases h
    have a:=qh key.1
    rcases vT k y.aL.ls with g | g
    · have h':=key.2
      rw [g.1] at h'
      rcases List.mem_cons.1 hx with rfl | hx
      · exact⟨by omega,g.2⟩
      · exact vU p f q _ h' x hx
    · have h':=key.2
      rw [g] at h'
      cases h'
theorem tH {p:bP} (h:bG p=0) (n:nE p):List.length p.ag.ls≤6∧(∀ x ∈ p.ag.ls,List.length x.aJ≤12)∧List.length p.aD.ls≤6∧(∀ x ∈ p.aD.ls,yM x)∧List.length p.aj.ls≤64∧(∀ x ∈ p.aj.ls,x≤18446744073709551615)∧(List.length p.aZ.aJ≤12∧List.length p.aZ.aN≤12∧List.length p.aT.aO.aJ≤12∧List.length p.aT.aO.aN≤12)∧p.au≤18446744073709551615∧p.aY≤18446744073709551615∧p.aK≤18446744073709551615∧p.bg≤18446744073709551615∧p.gU≤18446744073709551615∧p.cu≤18446744073709551615∧p.aT.bg≤18446744073709551615∧p.aT.bv≤18446744073709551615∧p.aT.cz≤18446744073709551615:=by
  unfold bG at h
  simp only [aF] at h
  have v:∀ b:Bool,bY b=0→b=true:=by intro b; cases b <;> simp [bY]
  split at h
  · split at h
    · split at h
      · rename_i t f a
        have m:=v _ h
        have ho:=uk f
        have hm:fH p.aT.aO=0∧fH p.aZ=0:=by
          unfold kN at m
          simp only [aF] at m
          repeat' split at m
          all_goals first | cases m; done | exact⟨by assumption,of_decide_eq_true m⟩
        have c1:=oV hm.1
        have e:=oV hm.2
        unfold j4 at a
        split at a
        · cases a
        · split at a
          · cases a
          · have hh:=vU p _ _ _ a
            obtain⟨g,i,j,k,l,o,q,r,s,c,d⟩:=n
            exact⟨ho.1,ho.2,by omega,fun x hx=>⟨c x hx,hh x hx⟩,by omega,d,⟨e.1,e.2,c1.1,c1.2⟩,g,i,j,k,l,o,q,r,s⟩
      · have:=v _ h; cases this
    · have:=v _ h; cases this
  · have:=v _ h; cases this
theorem um (p:bK) (k:Nat) (d:bO):∀ (q:List Int) (j:Nat) (pre:List Int) (v:Int),d.af.ls=pre++q→List.length pre=j→(0 < j→List.getD d.af.ls (j - 1) default=v)→(j=0→v=0)→v≤p.af→
    (bz p k d q j= .inl ()∧v+(List.length q:Nat)≤p.af)∨bz p k d q j= .inr false
  | [],j,pre,v,_,_,_,_,hv=> .inl ⟨rfl,by simpa using hv⟩
  | y::q,j,pre,v,hp,hj,hg,hz,hv=>by
    by_cases e:dh y p.af=true
    · have a:=qh e
      have ih:=um p k d q (j+1) (pre++ [y]) y (by rw [hp]; simp) (by simp [hj]) (fun _=>by
        rw [hp, ← hj]
        simp [List.getD,List.getElem?_append]) (fun h=>by omega) a.2
      by_cases z:((j:Nat):Int) > 0
      · by_cases u:y≤List.getD d.af.ls (j - 1) default
        · exact .inr (by simp only [bz,aF,if_pos e,if_pos z,if_pos u])
        · have hu:v < y:=by rw [hg (by omega)] at u; omega
          rcases ih with g | g
          · refine .inl ⟨by simp only [bz,aF,if_pos e,if_pos z,if_neg u]; exact g.1, ?_⟩
            have:=g.2
            simp only [List.length_cons]
            omega
          · exact .inr (by simp only [bz,aF,if_pos e,if_pos z,if_neg u]; exact g)
      · have hu:v=0:=hz (by omega)
        rcases ih with g | g
        · refine .inl ⟨by simp only [bz,aF,if_pos e,if_neg z]; exact g.1, ?_⟩
          have:=g.2
          simp only [List.length_cons]
          omega
        · exact .inr (by simp only [bz,aF,if_pos e,if_neg z]; exact g)
    · exact .inr (by simp only [bz,aF]; rw [if_neg e])
theorem uo (p:bK) (k:Nat) (d:bO):∀ (q:List Int) (j:Nat),dI p k d q j=bz p k d q j
  | [],_=>rfl
  | y::q,j=>by simp only [dI,bz,aF,uo p k d q]
theorem vV (p:bK) (hp:0≤p.af∧p.af≤4) (f:Unit→Bool):∀ (q:List bO) (k:Nat),lp (bA p q k) f=true→∀ x ∈ q,List.length x.af.ls≤4
  | [],_,_,x,hx=>by cases hx
  | y::q,k,h,x,hx=>by
    have key:lp (kQ (bz p k y y.af.ls 0) fun _=>bA p q (k+1)) f=true:=by
      simp only [bA,aF,uo] at h
      repeat' split at h
      all_goals first | cases h; done | exact h
    rcases um p k y y.af.ls 0 [] 0 rfl rfl (fun h=>absurd h (by omega)) (fun _=>rfl) hp.1 with g | g
    · rw [g.1] at key
      rcases List.mem_cons.1 hx with rfl | hx
      · have:=g.2
        omega
      · exact vV p hp f q _ key x hx
    · rw [g] at key
      cases key
theorem vW:∀ l:List bu,(lp (dO l) fun _=>true)=true→∀ x ∈ l,xL x
  | [],_,x,hx=>by cases hx
  | y::q,h,x,hx=>by
    by_cases e:dR y.aX=0
    · by_cases v:((List.length y.aB:Nat):Int) > 16
      · simp only [dO,aF,if_pos e,if_pos v] at h
        cases h
      · simp only [dO,aF,if_pos e,if_neg v] at h
        rcases List.mem_cons.1 hx with rfl | hx
        · exact⟨lX e,by omega⟩
        · exact vW q h x hx
    · simp only [dO,aF,if_neg e] at h
      cases h
theorem yf {r:bX} (h:iI r=true):rF r:=by
  unfold iI at h
  split at h
  · cases h
  · split at h
    · cases h
    · exact⟨by omega,by omega,vW _ h⟩
theorem uq (k:Nat) (x:eD):∀ (n j:Nat),(dn k x n j= .inl ()∧∀ i,j≤i→i < j+n→rF (List.getD x.ah.ls i default))∨dn k x n j= .inr false
  | 0,j=> .inl ⟨rfl,fun i a b=>by omega⟩
  | n+1,j=>by
    by_cases e:iI (List.getD x.ah.ls j default)=true
    · rcases uq k x n (j+1) with g | g
      · refine .inl ⟨?_,fun i a b=> ?_⟩
        · simp only [dn,aF]
          refine(if_pos ?_).trans g.1
          exact e
        · by_cases z:i=j
          · subst z; exact yf e
          · exact g.2 i (by omega) (by omega)
      · refine .inr ?_
        simp only [dn,aF]
        refine(if_pos ?_).trans g
        exact e
    · refine .inr ?_
      simp only [dn,aF]
      exact if_neg e
theorem ut (k:Nat) (x:eD):∀ (n j:Nat),fQ k x n j=dn k x n j
  | 0,_=>rfl
  | n+1,j=>by simp only [fQ,dn,aF,ut k x n]
theorem vX (l:List eD):∀ (q:List eD) (k:Nat),(lp (bV l q k) fun _=>true)=true→∀ x ∈ q,List.length x.ah.ls≤24∧∀ r ∈ x.ah.ls,rF r
  | [],_,_,x,hx=>by cases hx
  | y::q,k,h,x,hx=>by
    have key:List.length y.ah.ls≤4∧(lp (kQ (dn k y (List.length y.ah.ls) 0) fun _=>bV l q (k+1)) fun _=>true)=true:=by
      simp only [bV,aF,ut] at h
      repeat' split at h
      all_goals first | cases h; done | exact⟨by omega,h⟩
    rcases uq k y (List.length y.ah.ls) 0 with g | g
    · have h':=key.2
      rw [g.1] at h'
      rcases List.mem_cons.1 hx with rfl | hx
      · refine⟨by omega,fun r hr=> ?_⟩
        obtain⟨i,hi,he⟩:=List.getElem_of_mem hr
        have:=g.2 i (by omega) (by omega)
        rw [List.getD,List.getElem?_eq_getElem hi] at this
        simp only [Option.getD_some,he] at this
        exact this
      · exact vX l q _ h' x hx
    · have h':=key.2
      rw [g] at h'
      cases h'
theorem tJ {p:bK} (h:bH p=0) (n:nG p):List.length p.ag.ls≤6∧(∀ x ∈ p.ag.ls,List.length x.aJ≤12)∧List.length p.ai.ls≤8∧(∀ x ∈ p.ai.ls,yN x)∧List.length p.aG.ls≤4∧(∀ x ∈ p.aG.ls,yO x)∧p.au≤18446744073709551615∧p.aY≤18446744073709551615∧p.aK≤18446744073709551615:=by
  unfold bH at h
  rw [aF] at h
  have v:∀ b:Bool,bY b=0→b=true:=by intro b; cases b <;> simp [bY]
  split at h
  · split at h
    · rw [aF] at h
      split at h
      · rw [aF] at h
        split at h
        · rename_i g l c d
          rw [aF,aF] at h
          have m:=v _ h
          have a:=qh g
          have ho:iK p.ag.ls=0:=by
            unfold jO at c
            rw [aF] at c
            split at c
            · assumption
            · cases c
          have ho:=uk ho
          unfold jM at d
          split at d
          · cases d
          · unfold j5 at m
            split at m
            · cases m
            · have hd:=vV p ⟨by omega,a.2⟩ _ _ _ d
              have hl:=vX _ _ _ m
              obtain⟨i,j,k,e,f⟩:=n
              exact⟨ho.1,ho.2,by omega,fun x hx=>⟨(e x hx).1,(e x hx).2.1,(e x hx).2.2,hd x hx⟩,by omega,fun x hx=>⟨(f x hx).1,(f x hx).2,hl x hx⟩,i,j,k⟩
        · rw [aF] at h; have:=v _ h; cases this
      · rw [aF] at h; have:=v _ h; cases this
    · rw [aF] at h; have:=v _ h; cases this
  · rw [aF] at h; have:=v _ h; cases this
end Go.Proofs.YtcnkpjheifkgnaaGreat
