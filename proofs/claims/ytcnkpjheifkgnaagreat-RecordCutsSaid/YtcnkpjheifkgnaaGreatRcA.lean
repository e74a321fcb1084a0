/-
  States that may be are small.
  Conditions: numbers are 64-bit numbers (SNm, CNm).
-/
import Derived.Test.YtcnkpjheifkgnaaGreatRa
namespace Go.Proofs.YtcnkpjheifkgnaaGreat
set_option linter.unusedVariables false
set_option linter.unusedSimpArgs false
theorem aF {α β:Type} (x:α) (f:α→β):bnd x f=f x:=rfl
theorem lw {k:List UInt8} (h:dI k=0):List.length k≤12:=by
  unfold dI at h
  repeat' split at h
  all_goals omega
theorem og {r:bE} (h:eT r=0):List.length r.aJ≤12∧List.length r.aO≤12:=by
  have e:(r.aJ= []∨dI r.aJ=0)∧(r.aO= []∨dI r.aO=0):=by
    by_cases a:r.aJ= [] <;> by_cases b:r.aO= [] <;> by_cases c:dI r.aJ=0 <;> by_cases d:dI r.aO=0 <;> simp [eT,aF,a,b,c,d] at h ⊢ <;> simp_all
  refine⟨?_, ?_⟩
  · rcases e.1 with a | a
    · rw [a]; exact A9 _
    · exact lw a
  · rcases e.2 with a | a
    · rw [a]; exact A9 _
    · exact lw a
abbrev tY (x:aW):Prop:=List.length x.aY≤12∧List.length x.aB≤16∧List.length x.aJ≤12∧List.length x.aO≤12
abbrev wh (q:bB):Prop:=List.length q.aY≤12∧List.length q.aB≤16
abbrev qJ (x:df):Prop:=List.length x.aB≤16∧List.length x.ay.ls≤4∧∀ q ∈ x.ay.ls,wh q
abbrev xD (x:fo):Prop:=x.aV≤18446744073709551615∧List.length x.aI.ls≤24∧∀ q ∈ x.aI.ls,tY q
abbrev xE (x:bJ):Prop:=x.aV≤18446744073709551615∧x.az≤18446744073709551615∧x.bU≤18446744073709551615∧List.length x.af.ls≤4
abbrev xG (x:dX):Prop:=x.az≤18446744073709551615∧x.bU≤18446744073709551615∧List.length x.ah.ls≤24∧∀ q ∈ x.ah.ls,qJ q
theorem nl {l:List UInt8} {n:Nat} (h: []=l):List.length l≤n:=by rw [← h]; exact A9 _
theorem wN {x:aW} (h:iU x=0):tY x:=by
  unfold iU at h
  simp only [aF,j4,kP,kQ,ky] at h
  split at h
  · split at h
    · rename_i e
      obtain⟨_,_,a,b,c,_⟩:=e
      exact⟨lw h,nl a,nl b,nl c⟩
    · omega
  split at h
  · split at h
    · rename_i e
      obtain⟨_,_,_,b,c,_⟩:=e
      unfold j5 jX at h
      simp only [aF] at h
      split at h
      · split at h
        · omega
        · exact⟨lw (by assumption),by omega,nl b,nl c⟩
      · omega
    · omega
  split at h
  · split at h
    · rename_i e
      obtain⟨_,_,a,b,c,_⟩:=e
      exact⟨lw h,nl a,nl b,nl c⟩
    · omega
  split at h
  · split at h
    · rename_i e
      obtain⟨_,d,a,_,_,_⟩:=e
      unfold j6 iF jw at h
      simp only [aF] at h
      split at h
      · have:=og (by assumption)
        exact⟨nl d,nl a,this.1,this.2⟩
      · omega
    · omega
  split at h
  · split at h
    · rename_i e
      obtain⟨_,d,a,_,_,_⟩:=e
      unfold iF jw at h
      simp only [aF] at h
      have:=og h
      exact⟨nl d,nl a,this.1,this.2⟩
    · omega
  · omega
theorem uU (l:List aC):∀ (q:List aC) (k:Nat),(lp (dJ l q k) fun _=>0)=0→0 < k→∀ x ∈ q,List.length x.aJ≤12
  | [],_,_,_,x,hx=>by cases hx
  | y::q,k,h,hk,x,hx=>by
    simp only [dJ,aF] at h
    split at h
    · split at h
      · split at h
        · split at h
          · simp only [lp] at h; omega
          · rcases List.mem_cons.1 hx with rfl | hx
            · exact lw (by assumption)
            · exact uU l q _ h (by omega) x hx
        · simp only [lp] at h; omega
      · omega
    · simp only [lp] at h; omega
theorem sW {l:List aC} (h:ic l=0):List.length l≤6∧∀ x ∈ l,List.length x.aJ≤12:=by
  unfold ic at h
  split at h
  · omega
  · split at h
    · omega
    · rw [aF] at h
      split at h
      · omega
      · rename_i a b c
        refine⟨by omega, ?_⟩
        match l,h,c with
        | [],_,_=>intro x hx; cases hx
        | y::q,h,c=>
          intro x hx
          simp only [dJ,aF] at h
          split at h
          · rw [if_neg (by omega)] at h
            rcases List.mem_cons.1 hx with rfl | hx
            · have c':x.aJ= []:=Classical.not_not.1 c
              rw [c']; exact A9 _
            · exact uU _ q _ h (by omega) x hx
          · simp only [lp] at h; omega
def o8 (p:bP):Prop:=p.az≤18446744073709551615∧p.bC≤18446744073709551615∧p.aS≤18446744073709551615∧p.bA≤18446744073709551615∧p.iQ≤18446744073709551615∧p.dM≤18446744073709551615∧p.bg.bA≤18446744073709551615∧p.bg.bG≤18446744073709551615∧p.bg.dR≤18446744073709551615∧(∀ x ∈ p.aH.ls,x.aV≤18446744073709551615)∧∀ x ∈ p.ax.ls,x≤18446744073709551615
def o9 (p:bL):Prop:=p.az≤18446744073709551615∧p.bC≤18446744073709551615∧p.aS≤18446744073709551615∧(∀ x ∈ p.ak.ls,x.aV≤18446744073709551615∧x.az≤18446744073709551615∧x.bU≤18446744073709551615)∧∀ x ∈ p.aP.ls,x.az≤18446744073709551615∧x.bU≤18446744073709551615
theorem uV (k:Nat):∀ l:List aW,(bI k l= .inl ()∧∀ x ∈ l,tY x)∨bI k l= .inr false
  | []=> .inl ⟨rfl,fun x hx=>by cases hx⟩
  | y::q=>by
    by_cases e:iU y=0
    · rcases uV k q with h | h
      · refine .inl ⟨by simp only [bI,aF,if_pos e]; exact h.1,fun x hx=> ?_⟩
        rcases List.mem_cons.1 hx with rfl | hx
        · exact wN e
        · exact h.2 x hx
      · refine .inr (by simp only [bI,aF,if_pos e]; exact h)
    · exact .inr (by simp only [bI,aF,if_neg e])
theorem sZ (k:Nat):∀ l:List aW,eZ k l=bI k l
  | []=>rfl
  | y::q=>by simp only [eZ,bI,aF,sZ k q]
theorem pg {n m:Int} (h:cu n m=true):1≤n∧n≤m:=by
  unfold cu at h
  split at h
  · exact⟨by omega,of_decide_eq_true h⟩
  · cases h
theorem uW (p:bP) (f:Unit→Bool):∀ (q:List fo) (k:Nat),lp (bT p q k) f=true→∀ x ∈ q,List.length x.aI.ls≤24∧∀ o ∈ x.aI.ls,tY o
  | [],_,_,x,hx=>by cases hx
  | y::q,k,h,x,hx=>by
    have key:cu ((List.length y.aI.ls:Nat):Int) 24=true∧lp (kN (bI k y.aI.ls) fun _=>bT p q (k+1)) f=true:=by
      simp only [bT,aF,sZ] at h
      split at h
      · split at h
        · cases h
        · split at h
          · exact⟨by assumption,h⟩
          · cases h
      · split at h
        · exact⟨by assumption,h⟩
        · cases h
    have a:=pg key.1
    rcases uV k y.aI.ls with g | g
    · have h':=key.2
      rw [g.1] at h'
      rcases List.mem_cons.1 hx with rfl | hx
      · exact⟨by omega,g.2⟩
      · exact uW p f q _ h' x hx
    · have h':=key.2
      rw [g] at h'
      cases h'
theorem sj {p:bP} (h:bi p=0) (n:o8 p):List.length p.ag.ls≤6∧(∀ x ∈ p.ag.ls,List.length x.aJ≤12)∧List.length p.aH.ls≤6∧(∀ x ∈ p.aH.ls,xD x)∧List.length p.ax.ls≤64∧(∀ x ∈ p.ax.ls,x≤18446744073709551615)∧(List.length p.bz.aJ≤12∧List.length p.bz.aO≤12∧List.length p.bg.aR.aJ≤12∧List.length p.bg.aR.aO≤12)∧p.az≤18446744073709551615∧p.bC≤18446744073709551615∧p.aS≤18446744073709551615∧p.bA≤18446744073709551615∧p.iQ≤18446744073709551615∧p.dM≤18446744073709551615∧p.bg.bA≤18446744073709551615∧p.bg.bG≤18446744073709551615∧p.bg.dR≤18446744073709551615:=by
  unfold bi at h
  simp only [aF] at h
  have v:∀ b:Bool,bS b=0→b=true:=by intro b; cases b <;> simp [bS]
  split at h
  · split at h
    · split at h
      · rename_i t f a
        have m:=v _ h
        have ho:=sW f
        have hm:eT p.bg.aR=0∧eT p.bz=0:=by
          unfold ku at m
          simp only [aF] at m
          repeat' split at m
          all_goals first | cases m; done | exact⟨by assumption,of_decide_eq_true m⟩
        have c1:=og hm.1
        have e:=og hm.2
        unfold jN at a
        split at a
        · cases a
        · split at a
          · cases a
          · have hh:=uW p _ _ _ a
            obtain⟨g,i,j,k,l,o,q,r,s,c,d⟩:=n
            exact⟨ho.1,ho.2,by omega,fun x hx=>⟨c x hx,hh x hx⟩,by omega,d,⟨e.1,e.2,c1.1,c1.2⟩,g,i,j,k,l,o,q,r,s⟩
      · have:=v _ h; cases this
    · have:=v _ h; cases this
  · have:=v _ h; cases this
theorem tq (p:bL) (k:Nat) (d:bJ):∀ (q:List Int) (j:Nat) (pre:List Int) (v:Int),d.af.ls=pre++q→List.length pre=j→(0 < j→List.getD d.af.ls (j - 1) default=v)→(j=0→v=0)→v≤p.af→
    (aZ p k d q j= .inl ()∧v+(List.length q:Nat)≤p.af)∨aZ p k d q j= .inr false
  | [],j,pre,v,_,_,_,_,hv=> .inl ⟨rfl,by simpa using hv⟩
  | y::q,j,pre,v,hp,hj,hg,hz,hv=>by
    by_cases e:cu y p.af=true
    · have a:=pg e
      have ih:=tq p k d q (j+1) (pre++ [y]) y (by rw [hp]; simp) (by simp [hj]) (fun _=>by
        rw [hp, ← hj]
        simp [List.getD,List.getElem?_append]) (fun h=>by omega) a.2
      by_cases z:((j:Nat):Int) > 0
      · by_cases u:y≤List.getD d.af.ls (j - 1) default
        · exact .inr (by simp only [aZ,aF,if_pos e,if_pos z,if_pos u])
        · have hu:v < y:=by rw [hg (by omega)] at u; omega
          rcases ih with g | g
          · refine .inl ⟨by simp only [aZ,aF,if_pos e,if_pos z,if_neg u]; exact g.1, ?_⟩
            have:=g.2
            simp only [List.length_cons]
            omega
          · exact .inr (by simp only [aZ,aF,if_pos e,if_pos z,if_neg u]; exact g)
      · have hu:v=0:=hz (by omega)
        rcases ih with g | g
        · refine .inl ⟨by simp only [aZ,aF,if_pos e,if_neg z]; exact g.1, ?_⟩
          have:=g.2
          simp only [List.length_cons]
          omega
        · exact .inr (by simp only [aZ,aF,if_pos e,if_neg z]; exact g)
    · exact .inr (by simp only [aZ,aF]; rw [if_neg e])
theorem tu (p:bL) (k:Nat) (d:bJ):∀ (q:List Int) (j:Nat),dw p k d q j=aZ p k d q j
  | [],_=>rfl
  | y::q,j=>by simp only [dw,aZ,aF,tu p k d q]
theorem uX (p:bL) (hp:0≤p.af∧p.af≤4) (f:Unit→Bool):∀ (q:List bJ) (k:Nat),lp (bf p q k) f=true→∀ x ∈ q,List.length x.af.ls≤4
  | [],_,_,x,hx=>by cases hx
  | y::q,k,h,x,hx=>by
    have key:lp (kN (aZ p k y y.af.ls 0) fun _=>bf p q (k+1)) f=true:=by
      simp only [bf,aF,tu] at h
      repeat' split at h
      all_goals first | cases h; done | exact h
    rcases tq p k y y.af.ls 0 [] 0 rfl rfl (fun h=>absurd h (by omega)) (fun _=>rfl) hp.1 with g | g
    · rw [g.1] at key
      rcases List.mem_cons.1 hx with rfl | hx
      · have:=g.2
        omega
      · exact uX p hp f q _ key x hx
    · rw [g] at key
      cases key
theorem uY:∀ l:List bB,(lp (dE l) fun _=>true)=true→∀ x ∈ l,wh x
  | [],_,x,hx=>by cases hx
  | y::q,h,x,hx=>by
    by_cases e:dI y.aY=0
    · by_cases v:((List.length y.aB:Nat):Int) > 16
      · simp only [dE,aF,if_pos e,if_pos v] at h
        cases h
      · simp only [dE,aF,if_pos e,if_neg v] at h
        rcases List.mem_cons.1 hx with rfl | hx
        · exact⟨lw e,by omega⟩
        · exact uY q h x hx
    · simp only [dE,aF,if_neg e] at h
      cases h
theorem wO {r:df} (h:gY r=true):qJ r:=by
  unfold gY at h
  split at h
  · cases h
  · split at h
    · cases h
    · exact⟨by omega,by omega,uY _ h⟩
theorem tC (k:Nat) (x:dX):∀ (n j:Nat),(cB k x n j= .inl ()∧∀ i,j≤i→i < j+n→qJ (List.getD x.ah.ls i default))∨cB k x n j= .inr false
  | 0,j=> .inl ⟨rfl,fun i a b=>by omega⟩
  | n+1,j=>by
    by_cases e:gY (List.getD x.ah.ls j default)=true
    · rcases tC k x n (j+1) with g | g
      · refine .inl ⟨?_,fun i a b=> ?_⟩
        · simp only [cB,aF]
          refine(if_pos ?_).trans g.1
          exact e
        · by_cases z:i=j
          · subst z; exact wO e
          · exact g.2 i (by omega) (by omega)
      · refine .inr ?_
        simp only [cB,aF]
        refine(if_pos ?_).trans g
        exact e
    · refine .inr ?_
      simp only [cB,aF]
      exact if_neg e
theorem tF (k:Nat) (x:dX):∀ (n j:Nat),fe k x n j=cB k x n j
  | 0,_=>rfl
  | n+1,j=>by simp only [fe,cB,aF,tF k x n]
theorem uZ (l:List dX):∀ (q:List dX) (k:Nat),(lp (bM l q k) fun _=>true)=true→∀ x ∈ q,List.length x.ah.ls≤24∧∀ r ∈ x.ah.ls,qJ r
  | [],_,_,x,hx=>by cases hx
  | y::q,k,h,x,hx=>by
    have key:List.length y.ah.ls≤4∧(lp (kN (cB k y (List.length y.ah.ls) 0) fun _=>bM l q (k+1)) fun _=>true)=true:=by
      simp only [bM,aF,tF] at h
      repeat' split at h
      all_goals first | cases h; done | exact⟨by omega,h⟩
    rcases tC k y (List.length y.ah.ls) 0 with g | g
    · have h':=key.2
      rw [g.1] at h'
      rcases List.mem_cons.1 hx with rfl | hx
      · refine⟨by omega,fun r hr=> ?_⟩
        obtain⟨i,hi,he⟩:=List.getElem_of_mem hr
        have:=g.2 i (by omega) (by omega)
        rw [List.getD,List.getElem?_eq_getElem hi] at this
        simp only [Option.getD_some,he] at this
        exact this
      · exact uZ l q _ h' x hx
    · have h':=key.2
      rw [g] at h'
      cases h'
theorem su {p:bL} (h:bn p=0) (n:o9 p):List.length p.ag.ls≤6∧(∀ x ∈ p.ag.ls,List.length x.aJ≤12)∧List.length p.ak.ls≤8∧(∀ x ∈ p.ak.ls,xE x)∧List.length p.aP.ls≤4∧(∀ x ∈ p.aP.ls,xG x)∧p.az≤18446744073709551615∧p.bC≤18446744073709551615∧p.aS≤18446744073709551615:=by
  unfold bn at h
  rw [aF] at h
  have v:∀ b:Bool,bS b=0→b=true:=by intro b; cases b <;> simp [bS]
  split at h
  · split at h
    · rw [aF] at h
      split at h
      · rw [aF] at h
        split at h
        · rename_i g l c d
          rw [aF,aF] at h
          have m:=v _ h
          have a:=pg g
          have ho:ic p.ag.ls=0:=by
            unfold jy at c
            rw [aF] at c
            split at c
            · assumption
            · cases c
          have ho:=sW ho
          unfold jr at d
          split at d
          · cases d
          · unfold jO at m
            split at m
            · cases m
            · have hd:=uX p ⟨by omega,a.2⟩ _ _ _ d
              have hl:=uZ _ _ _ m
              obtain⟨i,j,k,e,f⟩:=n
              exact⟨ho.1,ho.2,by omega,fun x hx=>⟨(e x hx).1,(e x hx).2.1,(e x hx).2.2,hd x hx⟩,by omega,fun x hx=>⟨(f x hx).1,(f x hx).2,hl x hx⟩,i,j,k⟩
        · rw [aF] at h; have:=v _ h; cases this
      · rw [aF] at h; have:=v _ h; cases this
    · rw [aF] at h; have:=v _ h; cases this
  · rw [aF] at h; have:=v _ h; cases this
end Go.Proofs.YtcnkpjheifkgnaaGreat
