/-
  States that may be are small.
  Conditions: numbers are 64-bit numbers (SNm, CNm).
-/
import Derived.Test.YtcnkpjheifkgnaaGreatRa
namespace Go.Proofs.YtcnkpjheifkgnaaGreat
set_option linter.unusedVariables false
set_option linter.unusedSimpArgs false
theorem aN {α β:Type} (x:α) (f:α→β):bnd x f=f x:=rfl
theorem nM {k:List UInt8} (h:bY k=0):List.length k≤12:=by
  unfold bY at h
  repeat' split at h
  all_goals omega
theorem qU {r:bF} (h:dK r=0):List.length r.aK≤12∧List.length r.aO≤12:=by
  have e:(r.aK= []∨bY r.aK=0)∧(r.aO= []∨bY r.aO=0):=by
    by_cases a:r.aK= [] <;> by_cases b:r.aO= [] <;> by_cases c:bY r.aK=0 <;> by_cases d:bY r.aO=0 <;> simp [dK,aN,a,b,c,d] at h ⊢ <;> simp_all
  refine⟨?_, ?_⟩
  · rcases e.1 with a | a
    · rw [a]; exact EM _
    · exact nM a
  · rcases e.2 with a | a
    · rw [a]; exact EM _
    · exact nM a
abbrev wQ (x:bq):Prop:=List.length x.aV≤12∧List.length x.aC≤16∧List.length x.aK≤12∧List.length x.aO≤12
abbrev zW (q:bH):Prop:=List.length q.aV≤12∧List.length q.aC≤16
abbrev um (x:cK):Prop:=List.length x.aC≤16∧List.length x.aA.ls≤4∧∀ q ∈ x.aA.ls,zW q
abbrev Bn (x:eZ):Prop:=x.av≤18446744073709551615∧List.length x.ay.ls≤24∧∀ q ∈ x.ay.ls,wQ q
abbrev Bo (x:bK):Prop:=x.av≤18446744073709551615∧x.aj≤18446744073709551615∧x.bJ≤18446744073709551615∧List.length x.aa.ls≤4
abbrev Bp (x:eD):Prop:=x.aj≤18446744073709551615∧x.bJ≤18446744073709551615∧List.length x.au.ls≤24∧∀ q ∈ x.au.ls,um q
theorem nl {l:List UInt8} {n:Nat} (h: []=l):List.length l≤n:=by rw [← h]; exact EM _
theorem Av {x:bq} (h:fC x=0):wQ x:=by
  unfold fC at h
  simp only [aN,lJ,mD,mE,mh] at h
  split at h
  · split at h
    · rename_i e
      obtain⟨_,_,a,b,c,_⟩:=e
      exact⟨nM h,nl a,nl b,nl c⟩
    · omega
  split at h
  · split at h
    · rename_i e
      obtain⟨_,_,_,b,c,_⟩:=e
      unfold lw mg at h
      simp only [aN] at h
      split at h
      · split at h
        · omega
        · exact⟨nM (by assumption),by omega,nl b,nl c⟩
      · omega
    · omega
  split at h
  · split at h
    · rename_i e
      obtain⟨_,_,a,b,c,_⟩:=e
      exact⟨nM h,nl a,nl b,nl c⟩
    · omega
  split at h
  · split at h
    · rename_i e
      obtain⟨_,d,a,_,_,_⟩:=e
      unfold lD jk lC at h
      simp only [aN] at h
      split at h
      · have:=qU (by assumption)
        exact⟨nl d,nl a,this.1,this.2⟩
      · omega
    · omega
  split at h
  · split at h
    · rename_i e
      obtain⟨_,d,a,_,_,_⟩:=e
      unfold jk lC at h
      simp only [aN] at h
      have:=qU h
      exact⟨nl d,nl a,this.1,this.2⟩
    · omega
  · omega
theorem yD (l:List aL):∀ (q:List aL) (k:Nat),(lp (ek l q k) fun _=>0)=0→0 < k→∀ x ∈ q,List.length x.aK≤12
  | [],_,_,_,x,hx=>by cases hx
  | y::q,k,h,hk,x,hx=>by
    simp only [ek,aN] at h
    split at h
    · split at h
      · split at h
        · split at h
          · simp only [lp] at h; omega
          · rcases List.mem_cons.1 hx with rfl | hx
            · exact nM (by assumption)
            · exact yD l q _ h (by omega) x hx
        · simp only [lp] at h; omega
      · omega
    · simp only [lp] at h; omega
theorem wu {l:List aL} (h:gU l=0):List.length l≤6∧∀ x ∈ l,List.length x.aK≤12:=by
  unfold gU at h
  split at h
  · omega
  · split at h
    · omega
    · rw [aN] at h
      split at h
      · omega
      · rename_i a b c
        refine⟨by omega, ?_⟩
        match l,h,c with
        | [],_,_=>intro x hx; cases hx
        | y::q,h,c=>
          intro x hx
          simp only [ek,aN] at h
          split at h
          · rw [if_neg (by omega)] at h
            rcases List.mem_cons.1 hx with rfl | hx
            · have c':x.aK= []:=Classical.not_not.1 c
              rw [c']; exact EM _
            · exact yD _ q _ h (by omega) x hx
          · simp only [lp] at h; omega
def rZ (p:bQ):Prop:=p.aj≤18446744073709551615∧p.aR≤18446744073709551615∧p.aH≤18446744073709551615∧p.aZ≤18446744073709551615∧p.iq≤18446744073709551615∧p.bS≤18446744073709551615∧p.aS.aZ≤18446744073709551615∧p.aS.bB≤18446744073709551615∧p.aS.cz≤18446744073709551615∧(∀ x ∈ p.az.ls,x.av≤18446744073709551615)∧∀ x ∈ p.ah.ls,x≤18446744073709551615
def r9 (p:bI):Prop:=p.aj≤18446744073709551615∧p.aR≤18446744073709551615∧p.aH≤18446744073709551615∧(∀ x ∈ p.af.ls,x.av≤18446744073709551615∧x.aj≤18446744073709551615∧x.bJ≤18446744073709551615)∧∀ x ∈ p.aB.ls,x.aj≤18446744073709551615∧x.bJ≤18446744073709551615
theorem yE (k:Nat):∀ l:List bq,(bT k l= .inl ()∧∀ x ∈ l,wQ x)∨bT k l= .inr false
  | []=> .inl ⟨rfl,fun x hx=>by cases hx⟩
  | y::q=>by
    by_cases e:fC y=0
    · rcases yE k q with h | h
      · refine .inl ⟨by simp only [bT,aN,if_pos e]; exact h.1,fun x hx=> ?_⟩
        rcases List.mem_cons.1 hx with rfl | hx
        · exact Av e
        · exact h.2 x hx
      · refine .inr (by simp only [bT,aN,if_pos e]; exact h)
    · exact .inr (by simp only [bT,aN,if_neg e])
theorem uY (k:Nat):∀ l:List bq,gH k l=bT k l
  | []=>rfl
  | y::q=>by simp only [gH,bT,aN,uY k q]
theorem si {n m:Int} (h:cZ n m=true):1≤n∧n≤m:=by
  unfold cZ at h
  split at h
  · exact⟨by omega,of_decide_eq_true h⟩
  · cases h
theorem yF (p:bQ) (f:Unit→Bool):∀ (q:List eZ) (k:Nat),lp (bW p q k) f=true→∀ x ∈ q,List.length x.ay.ls≤24∧∀ o ∈ x.ay.ls,wQ o
  | [],_,_,x,hx=>by cases hx
  | y::q,k,h,x,hx=>by
    have key:cZ ((List.length y.ay.ls:Nat):Int) 24=true∧lp (lv (bT k y.ay.ls) fun _=>bW p q (k+1)) f=true:=by
      simp only [bW,aN,uY] at h
      split at h
      · split at h
        · cases h
        · split at h
          · exact⟨by assumption,h⟩
          · cases h
      · split at h
        · exact⟨by assumption,h⟩
        · cases h
    have a:=si key.1
    rcases yE k y.ay.ls with g | g
    · have h':=key.2
      rw [g.1] at h'
      rcases List.mem_cons.1 hx with rfl | hx
      · exact⟨by omega,g.2⟩
      · exact yF p f q _ h' x hx
    · have h':=key.2
      rw [g] at h'
      cases h'
theorem uo {p:bQ} (h:dz p=0) (n:rZ p):List.length p.ai.ls≤6∧(∀ x ∈ p.ai.ls,List.length x.aK≤12)∧List.length p.az.ls≤6∧(∀ x ∈ p.az.ls,Bn x)∧List.length p.ah.ls≤64∧(∀ x ∈ p.ah.ls,x≤18446744073709551615)∧(List.length p.bf.aK≤12∧List.length p.bf.aO≤12∧List.length p.aS.aP.aK≤12∧List.length p.aS.aP.aO≤12)∧p.aj≤18446744073709551615∧p.aR≤18446744073709551615∧p.aH≤18446744073709551615∧p.aZ≤18446744073709551615∧p.iq≤18446744073709551615∧p.bS≤18446744073709551615∧p.aS.aZ≤18446744073709551615∧p.aS.bB≤18446744073709551615∧p.aS.cz≤18446744073709551615:=by
  unfold dz at h
  simp only [aN] at h
  have v:∀ b:Bool,df b=0→b=true:=by intro b; cases b <;> simp [df]
  split at h
  · split at h
    · split at h
      · rename_i t f a
        have m:=v _ h
        have ho:=wu f
        have hm:dK p.aS.aP=0∧dK p.bf=0:=by
          unfold j6 at m
          simp only [aN] at m
          repeat' split at m
          all_goals first | cases m; done | exact⟨by assumption,of_decide_eq_true m⟩
        have c1:=qU hm.1
        have e:=qU hm.2
        unfold jJ at a
        split at a
        · cases a
        · split at a
          · cases a
          · have hh:=yF p _ _ _ a
            obtain⟨g,i,j,k,l,o,q,r,s,c,d⟩:=n
            exact⟨ho.1,ho.2,by omega,fun x hx=>⟨c x hx,hh x hx⟩,by omega,d,⟨e.1,e.2,c1.1,c1.2⟩,g,i,j,k,l,o,q,r,s⟩
      · have:=v _ h; cases this
    · have:=v _ h; cases this
  · have:=v _ h; cases this
theorem ww (p:bI) (k:Nat) (d:bK):∀ (q:List Int) (j:Nat) (pre:List Int) (v:Int),d.aa.ls=pre++q→List.length pre=j→(0 < j→List.getD d.aa.ls (j - 1) default=v)→(j=0→v=0)→v≤p.aa→
    (bC p k d q j= .inl ()∧v+(List.length q:Nat)≤p.aa)∨bC p k d q j= .inr false
  | [],j,pre,v,_,_,_,_,hv=> .inl ⟨rfl,by simpa using hv⟩
  | y::q,j,pre,v,hp,hj,hg,hz,hv=>by
    by_cases e:cZ y p.aa=true
    · have a:=si e
      have ih:=ww p k d q (j+1) (pre++ [y]) y (by rw [hp]; simp) (by simp [hj]) (fun _=>by
        rw [hp, ← hj]
        simp [List.getD,List.getElem?_append]) (fun h=>by omega) a.2
      by_cases z:((j:Nat):Int) > 0
      · by_cases u:y≤List.getD d.aa.ls (j - 1) default
        · exact .inr (by simp only [bC,aN,if_pos e,if_pos z,if_pos u])
        · have hu:v < y:=by rw [hg (by omega)] at u; omega
          rcases ih with g | g
          · refine .inl ⟨by simp only [bC,aN,if_pos e,if_pos z,if_neg u]; exact g.1, ?_⟩
            have:=g.2
            simp only [List.length_cons]
            omega
          · exact .inr (by simp only [bC,aN,if_pos e,if_pos z,if_neg u]; exact g)
      · have hu:v=0:=hz (by omega)
        rcases ih with g | g
        · refine .inl ⟨by simp only [bC,aN,if_pos e,if_neg z]; exact g.1, ?_⟩
          have:=g.2
          simp only [List.length_cons]
          omega
        · exact .inr (by simp only [bC,aN,if_pos e,if_neg z]; exact g)
    · exact .inr (by simp only [bC,aN]; rw [if_neg e])
theorem uZ (p:bI) (k:Nat) (d:bK):∀ (q:List Int) (j:Nat),eF p k d q j=bC p k d q j
  | [],_=>rfl
  | y::q,j=>by simp only [eF,bC,aN,uZ p k d q]
theorem yG (p:bI) (hp:0≤p.aa∧p.aa≤4) (f:Unit→Bool):∀ (q:List bK) (k:Nat),lp (bD p q k) f=true→∀ x ∈ q,List.length x.aa.ls≤4
  | [],_,_,x,hx=>by cases hx
  | y::q,k,h,x,hx=>by
    have key:lp (lv (bC p k y y.aa.ls 0) fun _=>bD p q (k+1)) f=true:=by
      simp only [bD,aN,uZ] at h
      repeat' split at h
      all_goals first | cases h; done | exact h
    rcases ww p k y y.aa.ls 0 [] 0 rfl rfl (fun h=>absurd h (by omega)) (fun _=>rfl) hp.1 with g | g
    · rw [g.1] at key
      rcases List.mem_cons.1 hx with rfl | hx
      · have:=g.2
        omega
      · exact yG p hp f q _ key x hx
    · rw [g] at key
      cases key
theorem yH:∀ l:List bH,(lp (dO l) fun _=>true)=true→∀ x ∈ l,zW x
  | [],_,x,hx=>by cases hx
  | y::q,h,x,hx=>by
    by_cases e:bY y.aV=0
    · by_cases v:((List.length y.aC:Nat):Int) > 16
      · simp only [dO,aN,if_pos e,if_pos v] at h
        cases h
      · simp only [dO,aN,if_pos e,if_neg v] at h
        rcases List.mem_cons.1 hx with rfl | hx
        · exact⟨nM e,by omega⟩
        · exact yH q h x hx
    · simp only [dO,aN,if_neg e] at h
      cases h
theorem Aw {r:cK} (h:dY r=true):um r:=by
  unfold dY at h
  split at h
  · cases h
  · split at h
    · cases h
    · exact⟨by omega,by omega,yH _ h⟩
theorem wy (k:Nat) (x:eD):∀ (n j:Nat),(dn k x n j= .inl ()∧∀ i,j≤i→i < j+n→um (List.getD x.au.ls i default))∨dn k x n j= .inr false
  | 0,j=> .inl ⟨rfl,fun i a b=>by omega⟩
  | n+1,j=>by
    by_cases e:dY (List.getD x.au.ls j default)=true
    · rcases wy k x n (j+1) with g | g
      · refine .inl ⟨?_,fun i a b=> ?_⟩
        · simp only [dn,aN]
          refine(if_pos ?_).trans g.1
          exact e
        · by_cases z:i=j
          · subst z; exact Aw e
          · exact g.2 i (by omega) (by omega)
      · refine .inr ?_
        simp only [dn,aN]
        refine(if_pos ?_).trans g
        exact e
    · refine .inr ?_
      simp only [dn,aN]
      exact if_neg e
theorem ve (k:Nat) (x:eD):∀ (n j:Nat),gI k x n j=dn k x n j
  | 0,_=>rfl
  | n+1,j=>by simp only [gI,dn,aN,ve k x n]
theorem yI (l:List eD):∀ (q:List eD) (k:Nat),(lp (bX l q k) fun _=>true)=true→∀ x ∈ q,List.length x.au.ls≤24∧∀ r ∈ x.au.ls,um r
  | [],_,_,x,hx=>by cases hx
  | y::q,k,h,x,hx=>by
    have key:List.length y.au.ls≤4∧(lp (lv (dn k y (List.length y.au.ls) 0) fun _=>bX l q (k+1)) fun _=>true)=true:=by
      simp only [bX,aN,ve] at h
      repeat' split at h
      all_goals first | cases h; done | exact⟨by omega,h⟩
    rcases wy k y (List.length y.au.ls) 0 with g | g
    · have h':=key.2
      rw [g.1] at h'
      rcases List.mem_cons.1 hx with rfl | hx
      · refine⟨by omega,fun r hr=> ?_⟩
        obtain⟨i,hi,he⟩:=List.getElem_of_mem hr
        have:=g.2 i (by omega) (by omega)
        rw [List.getD,List.getElem?_eq_getElem hi] at this
        simp only [Option.getD_some,he] at this
        exact this
      · exact yI l q _ h' x hx
    · have h':=key.2
      rw [g] at h'
      cases h'
theorem uq {p:bI} (h:dA p=0) (n:r9 p):List.length p.ai.ls≤6∧(∀ x ∈ p.ai.ls,List.length x.aK≤12)∧List.length p.af.ls≤8∧(∀ x ∈ p.af.ls,Bo x)∧List.length p.aB.ls≤4∧(∀ x ∈ p.aB.ls,Bp x)∧p.aj≤18446744073709551615∧p.aR≤18446744073709551615∧p.aH≤18446744073709551615:=by
  unfold dA at h
  rw [aN] at h
  have v:∀ b:Bool,df b=0→b=true:=by intro b; cases b <;> simp [df]
  split at h
  · split at h
    · rw [aN] at h
      split at h
      · rw [aN] at h
        split at h
        · rename_i g l c d
          rw [aN,aN] at h
          have m:=v _ h
          have a:=si g
          have ho:gU p.ai.ls=0:=by
            unfold jG at c
            rw [aN] at c
            split at c
            · assumption
            · cases c
          have ho:=wu ho
          unfold jq at d
          split at d
          · cases d
          · unfold kg at m
            split at m
            · cases m
            · have hd:=yG p ⟨by omega,a.2⟩ _ _ _ d
              have hl:=yI _ _ _ m
              obtain⟨i,j,k,e,f⟩:=n
              exact⟨ho.1,ho.2,by omega,fun x hx=>⟨(e x hx).1,(e x hx).2.1,(e x hx).2.2,hd x hx⟩,by omega,fun x hx=>⟨(f x hx).1,(f x hx).2,hl x hx⟩,i,j,k⟩
        · rw [aN] at h; have:=v _ h; cases this
      · rw [aN] at h; have:=v _ h; cases this
    · rw [aN] at h; have:=v _ h; cases this
  · rw [aN] at h; have:=v _ h; cases this
end Go.Proofs.YtcnkpjheifkgnaaGreat
