/-
  States that may be are small.
  Conditions: numbers are 64-bit numbers (SNm, CNm).
-/
import Derived.Test.YtbkagebjhbphaaaGreatRa
namespace Go.Proofs.YtbkagebjhbphaaaGreat
open List renaming getD→C2,length→s2,length_cons→s3,mem_cons→v2
set_option linter.unusedVariables false
set_option linter.unusedSimpArgs false
theorem jc {α β:Type} (x:α) (f:α→β):bnd x f=f x:=rfl
theorem CQ {k:List UInt8} (h:gu k=0):s2 k≤12:=by
  unfold gu at h
  repeat' split at h
  all_goals omega
abbrev Et (q:aJ):Prop:=s2 q.bY≤12∧s2 q.aU≤16
abbrev CR (x:aX):Prop:=s2 x.aU≤16∧s2 x.au.ls≤4∧∀ q ∈ x.au.ls,Et q
abbrev EK (x:bL):Prop:=x.bf≤18446744073709551615∧x.ax≤18446744073709551615∧x.aY≤18446744073709551615∧s2 x.ak.ls≤4
abbrev EL (x:fF):Prop:=x.ax≤18446744073709551615∧x.aY≤18446744073709551615∧s2 x.ai.ls≤24∧∀ q ∈ x.ai.ls,CR q
theorem DR (l:List bv):∀ (q:List bv) (k:Nat),(lp (iw l q k) fun _=>0)=0→0 < k→∀ x ∈ q,s2 x.bJ≤12
  | [],_,_,_,x,hx=>by cases hx
  | y::q,k,h,hk,x,hx=>by
    simp only [iw,jc] at h
    split at h
    · split at h
      · split at h
        · split at h
          · simp only [lp] at h; omega
          · rcases v2.1 hx with rfl | hx
            · exact CQ f5
            · exact DR l q _ h e6 x hx
        · simp only [lp] at h; omega
      · omega
    · simp only [lp] at h; omega
theorem EA {l:List bv} (h:kH l=0):s2 l≤6∧∀ x ∈ l,s2 x.bJ≤12:=by
  unfold kH at h
  split at h
  · omega
  · split at h
    · omega
    · rw [jc] at h
      split at h
      · omega
      · rename_i a b c
        refine⟨e6, ?_⟩
        match l,h,c with
        | [],_,_=>intro x hx; cases hx
        | y::q,h,c=>
          intro x hx
          simp only [iw,jc] at h
          split at h
          · rw [if_neg e6] at h
            rcases v2.1 hx with rfl | hx
            · have c':x.bJ= []:=Classical.not_not.1 c
              rw [c']; exact IU _
            · exact DR _ q _ h e6 x hx
          · simp only [lp] at h; omega
def DT (p:dA):Prop:=p.ax≤18446744073709551615∧p.bi≤18446744073709551615∧p.aI≤18446744073709551615∧(∀ x ∈ p.aj.ls,x.bf≤18446744073709551615∧x.ax≤18446744073709551615∧x.aY≤18446744073709551615)∧∀ x ∈ p.aF.ls,x.ax≤18446744073709551615∧x.aY≤18446744073709551615
theorem CS {n m:Int} (h:iI n m=true):1≤n∧n≤m:=by
  unfold iI at h
  split at h
  · exact⟨e6,of_decide_eq_true h⟩
  · cases h
theorem DU (p:dA) (k:Nat) (d:bL):∀ (q:List Int) (j:Nat) (pre:List Int) (v:Int),d.ak.ls=pre++q→s2 pre=j→(0 < j→C2 d.ak.ls (j - 1) default=v)→(j=0→v=0)→v≤p.ak→
    (dP p k d q j= .inl ()∧v+(s2 q:Nat)≤p.ak)∨dP p k d q j= .inr false
  | [],j,pre,v,_,_,_,_,hv=> .inl ⟨rfl,by simpa using hv⟩
  | y::q,j,pre,v,hp,hj,hg,hz,hv=>by
    by_cases e:iI y p.ak=true
    · have a:=CS e
      have ih:=DU p k d q (j+1) (pre++ [y]) y (by rw [hp]; simp) (by simp [hj]) (fun _=>by
        rw [hp, ← hj]
        simp [C2,List.getElem?_append]) (fun h=>by omega) a.2
      by_cases z:((j:Nat):Int) > 0
      · by_cases u:y≤C2 d.ak.ls (j - 1) default
        · exact .inr (by simp only [dP,jc,if_pos e,if_pos z,if_pos u])
        · have hu:v < y:=by rw [hg e6] at u; omega
          rcases ih with g | g
          · refine .inl ⟨by simp only [dP,jc,if_pos e,if_pos z,if_neg u]; exact g.1, ?_⟩
            have:=g.2
            simp only [s3]
            omega
          · exact .inr (by simp only [dP,jc,if_pos e,if_pos z,if_neg u]; exact g)
      · have hu:v=0:=hz e6
        rcases ih with g | g
        · refine .inl ⟨by simp only [dP,jc,if_pos e,if_neg z]; exact g.1, ?_⟩
          have:=g.2
          simp only [s3]
          omega
        · exact .inr (by simp only [dP,jc,if_pos e,if_neg z]; exact g)
    · exact .inr (by simp only [dP,jc]; rw [if_neg e])
theorem DV (p:dA) (k:Nat) (d:bL):∀ (q:List Int) (j:Nat),gm p k d q j=dP p k d q j
  | [],_=>rfl
  | y::q,j=>by simp only [gm,dP,jc,DV p k d q]
theorem DW (p:dA) (hp:0≤p.ak∧p.ak≤4) (f:Unit→Bool):∀ (q:List bL) (k:Nat),lp (dL p q k) f=true→∀ x ∈ q,s2 x.ak.ls≤4
  | [],_,_,x,hx=>by cases hx
  | y::q,k,h,x,hx=>by
    have key:lp (qQ (dP p k y y.ak.ls 0) fun _=>dL p q (k+1)) f=true:=by
      simp only [dL,jc,DV] at h
      repeat' split at h
      all_goals first | cases h; done | exact h
    rcases DU p k y y.ak.ls 0 [] 0 rfl rfl (fun h=>absurd h e6) (fun _=>rfl) hp.1 with g | g
    · rw [g.1] at key
      rcases v2.1 hx with rfl | hx
      · have:=g.2
        omega
      · exact DW p hp f q _ key x hx
    · rw [g] at key
      cases key
theorem DX:∀ l:List aJ,(lp (gB l) fun _=>true)=true→∀ x ∈ l,Et x
  | [],_,x,hx=>by cases hx
  | y::q,h,x,hx=>by
    by_cases e:gu y.bY=0
    · by_cases v:((s2 y.aU:Nat):Int) > 16
      · simp only [gB,jc,if_pos e,if_pos v] at h
        cases h
      · simp only [gB,jc,if_pos e,if_neg v] at h
        rcases v2.1 hx with rfl | hx
        · exact⟨CQ e,e6⟩
        · exact DX q h x hx
    · simp only [gB,jc,if_neg e] at h
      cases h
theorem EB {r:aX} (h:j3 r=true):CR r:=by
  unfold j3 at h
  split at h
  · cases h
  · split at h
    · cases h
    · exact⟨e6,e6,DX _ h⟩
theorem DY (k:Nat) (x:fF):∀ (n j:Nat),(fP k x n j= .inl ()∧∀ i,j≤i→i < j+n→CR (C2 x.ai.ls i default))∨fP k x n j= .inr false
  | 0,j=> .inl ⟨rfl,fun i a b=>by omega⟩
  | n+1,j=>by
    by_cases e:j3 (C2 x.ai.ls j default)=true
    · rcases DY k x n (j+1) with g | g
      · refine .inl ⟨?_,fun i a b=> ?_⟩
        · simp only [fP,jc]
          refine(if_pos ?_).trans g.1
          exact e
        · by_cases z:i=j
          · subst z; exact EB e
          · exact g.2 i e6 e6
      · refine .inr ?_
        simp only [fP,jc]
        refine(if_pos ?_).trans g
        exact e
    · refine .inr ?_
      simp only [fP,jc]
      exact if_neg e
theorem DZ (k:Nat) (x:fF):∀ (n j:Nat),iW k x n j=fP k x n j
  | 0,_=>rfl
  | n+1,j=>by simp only [iW,fP,jc,DZ k x n]
theorem D5 (l:List fF):∀ (q:List fF) (k:Nat),(lp (fE l q k) fun _=>true)=true→∀ x ∈ q,s2 x.ai.ls≤24∧∀ r ∈ x.ai.ls,CR r
  | [],_,_,x,hx=>by cases hx
  | y::q,k,h,x,hx=>by
    have key:s2 y.ai.ls≤4∧(lp (qQ (fP k y (s2 y.ai.ls) 0) fun _=>fE l q (k+1)) fun _=>true)=true:=by
      simp only [fE,jc,DZ] at h
      repeat' split at h
      all_goals first | cases h; done | exact⟨e6,h⟩
    rcases DY k y (s2 y.ai.ls) 0 with g | g
    · have h':=key.2
      rw [g.1] at h'
      rcases v2.1 hx with rfl | hx
      · refine⟨e6,fun r hr=> ?_⟩
        obtain⟨i,hi,he⟩:=List.getElem_of_mem hr
        have:=g.2 i e6 e6
        rw [C2,List.getElem?_eq_getElem hi] at this
        simp only [Option.getD_some,he] at this
        exact this
      · exact D5 l q _ h' x hx
    · have h':=key.2
      rw [g] at h'
      cases h'
theorem D6 {p:dA} (h:iX p=0) (n:DT p):s2 p.ag.ls≤6∧(∀ x ∈ p.ag.ls,s2 x.bJ≤12)∧s2 p.aj.ls≤8∧(∀ x ∈ p.aj.ls,EK x)∧s2 p.aF.ls≤4∧(∀ x ∈ p.aF.ls,EL x)∧p.ax≤18446744073709551615∧p.bi≤18446744073709551615∧p.aI≤18446744073709551615:=by
  unfold iX at h
  rw [jc] at h
  have v:∀ b:Bool,iL b=0→b=true:=by intro b; cases b <;> simp [iL]
  split at h
  · split at h
    · rw [jc] at h
      split at h
      · rw [jc] at h
        split at h
        · rename_i g l c d
          rw [jc,jc] at h
          have m:=v _ h
          have a:=CS g
          have ho:kH p.ag.ls=0:=by
            unfold nL at c
            rw [jc] at c
            split at c
            · assumption
            · cases c
          have ho:=EA ho
          unfold mY at d
          split at d
          · cases d
          · unfold oL at m
            split at m
            · cases m
            · have hd:=DW p ⟨e6,a.2⟩ _ _ _ d
              have hl:=D5 _ _ _ m
              obtain⟨i,j,k,e,f⟩:=n
              exact⟨ho.1,ho.2,e6,fun x hx=>⟨(e x hx).1,(e x hx).2.1,(e x hx).2.2,hd x hx⟩,e6,fun x hx=>⟨(f x hx).1,(f x hx).2,hl x hx⟩,i,j,k⟩
        · rw [jc] at h; have:=v _ h; cases this
      · rw [jc] at h; have:=v _ h; cases this
    · rw [jc] at h; have:=v _ h; cases this
  · rw [jc] at h; have:=v _ h; cases this
end Go.Proofs.YtbkagebjhbphaaaGreat
