/-
  States that may be are small.
  Conditions: numbers are 64-bit numbers (SNm, CNm).
-/
import Derived.Test.YtbkagebjhbphaaaGreatRa
namespace Go.Proofs.YtbkagebjhbphaaaGreat
open List renaming getD→B8,length→s0,length_cons→s1,mem_cons→u2
set_option linter.unusedVariables false
set_option linter.unusedSimpArgs false
theorem dw {α β:Type} (x:α) (f:α→β):bnd x f=f x:=rfl
theorem EL {k:List UInt8} (h:dR k=0):s0 k≤12:=by
  unfold dR at h
  repeat' split at h
  all_goals omega
abbrev Hl (q:aH):Prop:=s0 q.aZ≤12∧s0 q.aG≤16
abbrev EM (x:aQ):Prop:=s0 x.aG≤16∧s0 x.aj.ls≤4∧∀ q ∈ x.aj.ls,Hl q
abbrev Ie (x:bH):Prop:=x.aX≤18446744073709551615∧x.ax≤18446744073709551615∧x.aU≤18446744073709551615∧s0 x.au.ls≤4
abbrev Ig (x:fF):Prop:=x.ax≤18446744073709551615∧x.aU≤18446744073709551615∧s0 x.ah.ls≤24∧∀ q ∈ x.ah.ls,EM q
theorem FY (l:List aM):∀ (q:List aM) (k:Nat),(lp (fo l q k) fun _=>0)=0→0 < k→∀ x ∈ q,s0 x.aJ≤12
  | [],_,_,_,x,hx=>by cases hx
  | y::q,k,h,hk,x,hx=>by
    simp only [fo,dw] at h
    split at h
    · split at h
      · split at h
        · split at h
          · simp only [lp] at h; omega
          · rcases u2.1 hx with rfl | hx
            · exact EL f5
            · exact FY l q _ h e6 x hx
        · simp only [lp] at h; omega
      · omega
    · simp only [lp] at h; omega
theorem Hz {l:List aM} (h:jc l=0):s0 l≤6∧∀ x ∈ l,s0 x.aJ≤12:=by
  unfold jc at h
  split at h
  · omega
  · split at h
    · omega
    · rw [dw] at h
      split at h
      · omega
      · rename_i a b c
        refine⟨e6, ?_⟩
        match l,h,c with
        | [],_,_=>intro x hx; cases hx
        | y::q,h,c=>
          intro x hx
          simp only [fo,dw] at h
          split at h
          · rw [if_neg e6] at h
            rcases u2.1 hx with rfl | hx
            · have c':x.aJ= []:=Classical.not_not.1 c
              rw [c']; exact Lp _
            · exact FY _ q _ h e6 x hx
          · simp only [lp] at h; omega
def zb (p:bZ):Prop:=p.ax≤18446744073709551615∧p.bG≤18446744073709551615∧p.aF≤18446744073709551615∧(∀ x ∈ p.ak.ls,x.aX≤18446744073709551615∧x.ax≤18446744073709551615∧x.aU≤18446744073709551615)∧∀ x ∈ p.aK.ls,x.ax≤18446744073709551615∧x.aU≤18446744073709551615
theorem Cu {n m:Int} (h:iM n m=true):1≤n∧n≤m:=by
  unfold iM at h
  split at h
  · exact⟨e6,of_decide_eq_true h⟩
  · cases h
theorem FZ (p:bZ) (k:Nat) (d:bH):∀ (q:List Int) (j:Nat) (pre:List Int) (v:Int),d.au.ls=pre++q→s0 pre=j→(0 < j→B8 d.au.ls (j - 1) default=v)→(j=0→v=0)→v≤p.au→
    (dI p k d q j= .inl ()∧v+(s0 q:Nat)≤p.au)∨dI p k d q j= .inr false
  | [],j,pre,v,_,_,_,_,hv=> .inl ⟨rfl,by simpa using hv⟩
  | y::q,j,pre,v,hp,hj,hg,hz,hv=>by
    by_cases e:iM y p.au=true
    · have a:=Cu e
      have ih:=FZ p k d q (j+1) (pre++ [y]) y (by rw [hp]; simp) (by simp [hj]) (fun _=>by
        rw [hp, ← hj]
        simp [B8,List.getElem?_append]) (fun h=>by omega) a.2
      by_cases z:((j:Nat):Int) > 0
      · by_cases u:y≤B8 d.au.ls (j - 1) default
        · exact .inr (by simp only [dI,dw,if_pos e,if_pos z,if_pos u])
        · have hu:v < y:=by rw [hg e6] at u; omega
          rcases ih with g | g
          · refine .inl ⟨by simp only [dI,dw,if_pos e,if_pos z,if_neg u]; exact g.1, ?_⟩
            have:=g.2
            simp only [s1]
            omega
          · exact .inr (by simp only [dI,dw,if_pos e,if_pos z,if_neg u]; exact g)
      · have hu:v=0:=hz e6
        rcases ih with g | g
        · refine .inl ⟨by simp only [dI,dw,if_pos e,if_neg z]; exact g.1, ?_⟩
          have:=g.2
          simp only [s1]
          omega
        · exact .inr (by simp only [dI,dw,if_pos e,if_neg z]; exact g)
    · exact .inr (by simp only [dI,dw]; rw [if_neg e])
theorem F3 (p:bZ) (k:Nat) (d:bH):∀ (q:List Int) (j:Nat),gm p k d q j=dI p k d q j
  | [],_=>rfl
  | y::q,j=>by simp only [gm,dI,dw,F3 p k d q]
theorem F4 (p:bZ) (hp:0≤p.au∧p.au≤4) (f:Unit→Bool):∀ (q:List bH) (k:Nat),lp (dC p q k) f=true→∀ x ∈ q,s0 x.au.ls≤4
  | [],_,_,x,hx=>by cases hx
  | y::q,k,h,x,hx=>by
    have key:lp (sW (dI p k y y.au.ls 0) fun _=>dC p q (k+1)) f=true:=by
      simp only [dC,dw,F3] at h
      repeat' split at h
      all_goals first | cases h; done | exact h
    rcases FZ p k y y.au.ls 0 [] 0 rfl rfl (fun h=>absurd h e6) (fun _=>rfl) hp.1 with g | g
    · rw [g.1] at key
      rcases u2.1 hx with rfl | hx
      · have:=g.2
        omega
      · exact F4 p hp f q _ key x hx
    · rw [g] at key
      cases key
theorem F5:∀ l:List aH,(lp (gy l) fun _=>true)=true→∀ x ∈ l,Hl x
  | [],_,x,hx=>by cases hx
  | y::q,h,x,hx=>by
    by_cases e:dR y.aZ=0
    · by_cases v:((s0 y.aG:Nat):Int) > 16
      · simp only [gy,dw,if_pos e,if_pos v] at h
        cases h
      · simp only [gy,dw,if_pos e,if_neg v] at h
        rcases u2.1 hx with rfl | hx
        · exact⟨EL e,e6⟩
        · exact F5 q h x hx
    · simp only [gy,dw,if_neg e] at h
      cases h
theorem HV {r:aQ} (h:j5 r=true):EM r:=by
  unfold j5 at h
  split at h
  · cases h
  · split at h
    · cases h
    · exact⟨e6,e6,F5 _ h⟩
theorem F6 (k:Nat) (x:fF):∀ (n j:Nat),(fU k x n j= .inl ()∧∀ i,j≤i→i < j+n→EM (B8 x.ah.ls i default))∨fU k x n j= .inr false
  | 0,j=> .inl ⟨rfl,fun i a b=>by omega⟩
  | n+1,j=>by
    by_cases e:j5 (B8 x.ah.ls j default)=true
    · rcases F6 k x n (j+1) with g | g
      · refine .inl ⟨?_,fun i a b=> ?_⟩
        · simp only [fU,dw]
          refine(if_pos ?_).trans g.1
          exact e
        · by_cases z:i=j
          · subst z; exact HV e
          · exact g.2 i e6 e6
      · refine .inr ?_
        simp only [fU,dw]
        refine(if_pos ?_).trans g
        exact e
    · refine .inr ?_
      simp only [fU,dw]
      exact if_neg e
theorem F7 (k:Nat) (x:fF):∀ (n j:Nat),jd k x n j=fU k x n j
  | 0,_=>rfl
  | n+1,j=>by simp only [jd,fU,dw,F7 k x n]
theorem F8 (l:List fF):∀ (q:List fF) (k:Nat),(lp (fC l q k) fun _=>true)=true→∀ x ∈ q,s0 x.ah.ls≤24∧∀ r ∈ x.ah.ls,EM r
  | [],_,_,x,hx=>by cases hx
  | y::q,k,h,x,hx=>by
    have key:s0 y.ah.ls≤4∧(lp (sW (fU k y (s0 y.ah.ls) 0) fun _=>fC l q (k+1)) fun _=>true)=true:=by
      simp only [fC,dw,F7] at h
      repeat' split at h
      all_goals first | cases h; done | exact⟨e6,h⟩
    rcases F6 k y (s0 y.ah.ls) 0 with g | g
    · have h':=key.2
      rw [g.1] at h'
      rcases u2.1 hx with rfl | hx
      · refine⟨e6,fun r hr=> ?_⟩
        obtain⟨i,hi,he⟩:=List.getElem_of_mem hr
        have:=g.2 i e6 e6
        rw [B8,List.getElem?_eq_getElem hi] at this
        simp only [Option.getD_some,he] at this
        exact this
      · exact F8 l q _ h' x hx
    · have h':=key.2
      rw [g] at h'
      cases h'
theorem AB {p:bZ} (h:gq p=0) (n:zb p):s0 p.ag.ls≤6∧(∀ x ∈ p.ag.ls,s0 x.aJ≤12)∧s0 p.ak.ls≤8∧(∀ x ∈ p.ak.ls,Ie x)∧s0 p.aK.ls≤4∧(∀ x ∈ p.aK.ls,Ig x)∧p.ax≤18446744073709551615∧p.bG≤18446744073709551615∧p.aF≤18446744073709551615:=by
  unfold gq at h
  rw [dw] at h
  have v:∀ b:Bool,iV b=0→b=true:=by intro b; cases b <;> simp [iV]
  split at h
  · split at h
    · rw [dw] at h
      split at h
      · rw [dw] at h
        split at h
        · rename_i g l c d
          rw [dw,dw] at h
          have m:=v _ h
          have a:=Cu g
          have ho:jc p.ag.ls=0:=by
            unfold mR at c
            rw [dw] at c
            split at c
            · assumption
            · cases c
          have ho:=Hz ho
          unfold nM at d
          split at d
          · cases d
          · unfold pJ at m
            split at m
            · cases m
            · have hd:=F4 p ⟨e6,a.2⟩ _ _ _ d
              have hl:=F8 _ _ _ m
              obtain⟨i,j,k,e,f⟩:=n
              exact⟨ho.1,ho.2,e6,fun x hx=>⟨(e x hx).1,(e x hx).2.1,(e x hx).2.2,hd x hx⟩,e6,fun x hx=>⟨(f x hx).1,(f x hx).2,hl x hx⟩,i,j,k⟩
        · rw [dw] at h; have:=v _ h; cases this
      · rw [dw] at h; have:=v _ h; cases this
    · rw [dw] at h; have:=v _ h; cases this
  · rw [dw] at h; have:=v _ h; cases this
end Go.Proofs.YtbkagebjhbphaaaGreat
