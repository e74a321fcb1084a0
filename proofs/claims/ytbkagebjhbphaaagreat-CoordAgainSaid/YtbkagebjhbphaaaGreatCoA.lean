/-
  States that may be are small.
  Conditions: numbers are 64-bit numbers (SNm, CNm).
-/
import Derived.Test.YtbkagebjhbphaaaGreatRa
namespace Go.Proofs.YtbkagebjhbphaaaGreat
open List renaming getD→C2,length→s2,length_cons→s3,mem_cons→v2
set_option linter.unusedVariables false
set_option linter.unusedSimpArgs false
theorem jg {α β:Type} (x:α) (f:α→β):bnd x f=f x:=rfl
theorem DF {k:List UInt8} (h:gF k=0):s2 k≤12:=by
  unfold gF at h
  repeat' split at h
  all_goals omega
abbrev Fx (q:aI):Prop:=s2 q.bW≤12∧s2 q.aQ≤16
abbrev DI (x:aS):Prop:=s2 x.aQ≤16∧s2 x.aj.ls≤4∧∀ q ∈ x.aj.ls,Fx q
abbrev FT (x:bJ):Prop:=x.aU≤18446744073709551615∧x.ay≤18446744073709551615∧x.aO≤18446744073709551615∧s2 x.av.ls≤4
abbrev FU (x:fE):Prop:=x.ay≤18446744073709551615∧x.aO≤18446744073709551615∧s2 x.ah.ls≤24∧∀ q ∈ x.ah.ls,DI q
theorem EB (l:List aW):∀ (q:List aW) (k:Nat),(lp (iy l q k) fun _=>0)=0→0 < k→∀ x ∈ q,s2 x.bG≤12
  | [],_,_,_,x,hx=>by cases hx
  | y::q,k,h,hk,x,hx=>by
    simp only [iy,jg] at h
    split at h
    · split at h
      · split at h
        · split at h
          · simp only [lp] at h; omega
          · rcases v2.1 hx with rfl | hx
            · exact DF f4
            · exact EB l q _ h e6 x hx
        · simp only [lp] at h; omega
      · omega
    · simp only [lp] at h; omega
theorem FI {l:List aW} (h:kM l=0):s2 l≤6∧∀ x ∈ l,s2 x.bG≤12:=by
  unfold kM at h
  split at h
  · omega
  · split at h
    · omega
    · rw [jg] at h
      split at h
      · omega
      · rename_i a b c
        refine⟨e6, ?_⟩
        match l,h,c with
        | [],_,_=>intro x hx; cases hx
        | y::q,h,c=>
          intro x hx
          simp only [iy,jg] at h
          split at h
          · rw [if_neg e6] at h
            rcases v2.1 hx with rfl | hx
            · have c':x.bG= []:=Classical.not_not.1 c
              rw [c']; exact JQ _
            · exact EB _ q _ h e6 x hx
          · simp only [lp] at h; omega
def EC (p:di):Prop:=p.ay≤18446744073709551615∧p.aX≤18446744073709551615∧p.aL≤18446744073709551615∧(∀ x ∈ p.ak.ls,x.aU≤18446744073709551615∧x.ay≤18446744073709551615∧x.aO≤18446744073709551615)∧∀ x ∈ p.aJ.ls,x.ay≤18446744073709551615∧x.aO≤18446744073709551615
theorem DJ {n m:Int} (h:iJ n m=true):1≤n∧n≤m:=by
  unfold iJ at h
  split at h
  · exact⟨e6,of_decide_eq_true h⟩
  · cases h
theorem ED (p:di) (k:Nat) (d:bJ):∀ (q:List Int) (j:Nat) (pre:List Int) (v:Int),d.av.ls=pre++q→s2 pre=j→(0 < j→C2 d.av.ls (j - 1) default=v)→(j=0→v=0)→v≤p.av→
    (dP p k d q j= .inl ()∧v+(s2 q:Nat)≤p.av)∨dP p k d q j= .inr false
  | [],j,pre,v,_,_,_,_,hv=> .inl ⟨rfl,by simpa using hv⟩
  | y::q,j,pre,v,hp,hj,hg,hz,hv=>by
    by_cases e:iJ y p.av=true
    · have a:=DJ e
      have ih:=ED p k d q (j+1) (pre++ [y]) y (by rw [hp]; simp) (by simp [hj]) (fun _=>by
        rw [hp, ← hj]
        simp [C2,List.getElem?_append]) (fun h=>by omega) a.2
      by_cases z:((j:Nat):Int) > 0
      · by_cases u:y≤C2 d.av.ls (j - 1) default
        · exact .inr (by simp only [dP,jg,if_pos e,if_pos z,if_pos u])
        · have hu:v < y:=by rw [hg e6] at u; omega
          rcases ih with g | g
          · refine .inl ⟨by simp only [dP,jg,if_pos e,if_pos z,if_neg u]; exact g.1, ?_⟩
            have:=g.2
            simp only [s3]
            omega
          · exact .inr (by simp only [dP,jg,if_pos e,if_pos z,if_neg u]; exact g)
      · have hu:v=0:=hz e6
        rcases ih with g | g
        · refine .inl ⟨by simp only [dP,jg,if_pos e,if_neg z]; exact g.1, ?_⟩
          have:=g.2
          simp only [s3]
          omega
        · exact .inr (by simp only [dP,jg,if_pos e,if_neg z]; exact g)
    · exact .inr (by simp only [dP,jg]; rw [if_neg e])
theorem EE (p:di) (k:Nat) (d:bJ):∀ (q:List Int) (j:Nat),gu p k d q j=dP p k d q j
  | [],_=>rfl
  | y::q,j=>by simp only [gu,dP,jg,EE p k d q]
theorem EF (p:di) (hp:0≤p.av∧p.av≤4) (f:Unit→Bool):∀ (q:List bJ) (k:Nat),lp (dL p q k) f=true→∀ x ∈ q,s2 x.av.ls≤4
  | [],_,_,x,hx=>by cases hx
  | y::q,k,h,x,hx=>by
    have key:lp (sK (dP p k y y.av.ls 0) fun _=>dL p q (k+1)) f=true:=by
      simp only [dL,jg,EE] at h
      repeat' split at h
      all_goals first | cases h; done | exact h
    rcases ED p k y y.av.ls 0 [] 0 rfl rfl (fun h=>absurd h e6) (fun _=>rfl) hp.1 with g | g
    · rw [g.1] at key
      rcases v2.1 hx with rfl | hx
      · have:=g.2
        omega
      · exact EF p hp f q _ key x hx
    · rw [g] at key
      cases key
theorem EG:∀ l:List aI,(lp (gK l) fun _=>true)=true→∀ x ∈ l,Fx x
  | [],_,x,hx=>by cases hx
  | y::q,h,x,hx=>by
    by_cases e:gF y.bW=0
    · by_cases v:((s2 y.aQ:Nat):Int) > 16
      · simp only [gK,jg,if_pos e,if_pos v] at h
        cases h
      · simp only [gK,jg,if_pos e,if_neg v] at h
        rcases v2.1 hx with rfl | hx
        · exact⟨DF e,e6⟩
        · exact EG q h x hx
    · simp only [gK,jg,if_neg e] at h
      cases h
theorem FJ {r:aS} (h:kv r=true):DI r:=by
  unfold kv at h
  split at h
  · cases h
  · split at h
    · cases h
    · exact⟨e6,e6,EG _ h⟩
theorem EH (k:Nat) (x:fE):∀ (n j:Nat),(fV k x n j= .inl ()∧∀ i,j≤i→i < j+n→DI (C2 x.ah.ls i default))∨fV k x n j= .inr false
  | 0,j=> .inl ⟨rfl,fun i a b=>by omega⟩
  | n+1,j=>by
    by_cases e:kv (C2 x.ah.ls j default)=true
    · rcases EH k x n (j+1) with g | g
      · refine .inl ⟨?_,fun i a b=> ?_⟩
        · simp only [fV,jg]
          refine(if_pos ?_).trans g.1
          exact e
        · by_cases z:i=j
          · subst z; exact FJ e
          · exact g.2 i e6 e6
      · refine .inr ?_
        simp only [fV,jg]
        refine(if_pos ?_).trans g
        exact e
    · refine .inr ?_
      simp only [fV,jg]
      exact if_neg e
theorem EI (k:Nat) (x:fE):∀ (n j:Nat),jb k x n j=fV k x n j
  | 0,_=>rfl
  | n+1,j=>by simp only [jb,fV,jg,EI k x n]
theorem EJ (l:List fE):∀ (q:List fE) (k:Nat),(lp (fJ l q k) fun _=>true)=true→∀ x ∈ q,s2 x.ah.ls≤24∧∀ r ∈ x.ah.ls,DI r
  | [],_,_,x,hx=>by cases hx
  | y::q,k,h,x,hx=>by
    have key:s2 y.ah.ls≤4∧(lp (sK (fV k y (s2 y.ah.ls) 0) fun _=>fJ l q (k+1)) fun _=>true)=true:=by
      simp only [fJ,jg,EI] at h
      repeat' split at h
      all_goals first | cases h; done | exact⟨e6,h⟩
    rcases EH k y (s2 y.ah.ls) 0 with g | g
    · have h':=key.2
      rw [g.1] at h'
      rcases v2.1 hx with rfl | hx
      · refine⟨e6,fun r hr=> ?_⟩
        obtain⟨i,hi,he⟩:=List.getElem_of_mem hr
        have:=g.2 i e6 e6
        rw [C2,List.getElem?_eq_getElem hi] at this
        simp only [Option.getD_some,he] at this
        exact this
      · exact EJ l q _ h' x hx
    · have h':=key.2
      rw [g] at h'
      cases h'
theorem EK {p:di} (h:jc p=0) (n:EC p):s2 p.ag.ls≤6∧(∀ x ∈ p.ag.ls,s2 x.bG≤12)∧s2 p.ak.ls≤8∧(∀ x ∈ p.ak.ls,FT x)∧s2 p.aJ.ls≤4∧(∀ x ∈ p.aJ.ls,FU x)∧p.ay≤18446744073709551615∧p.aX≤18446744073709551615∧p.aL≤18446744073709551615:=by
  unfold jc at h
  rw [jg] at h
  have v:∀ b:Bool,iR b=0→b=true:=by intro b; cases b <;> simp [iR]
  split at h
  · split at h
    · rw [jg] at h
      split at h
      · rw [jg] at h
        split at h
        · rename_i g l c d
          rw [jg,jg] at h
          have m:=v _ h
          have a:=DJ g
          have ho:kM p.ag.ls=0:=by
            unfold nX at c
            rw [jg] at c
            split at c
            · assumption
            · cases c
          have ho:=FI ho
          unfold nG at d
          split at d
          · cases d
          · unfold o5 at m
            split at m
            · cases m
            · have hd:=EF p ⟨e6,a.2⟩ _ _ _ d
              have hl:=EJ _ _ _ m
              obtain⟨i,j,k,e,f⟩:=n
              exact⟨ho.1,ho.2,e6,fun x hx=>⟨(e x hx).1,(e x hx).2.1,(e x hx).2.2,hd x hx⟩,e6,fun x hx=>⟨(f x hx).1,(f x hx).2,hl x hx⟩,i,j,k⟩
        · rw [jg] at h; have:=v _ h; cases this
      · rw [jg] at h; have:=v _ h; cases this
    · rw [jg] at h; have:=v _ h; cases this
  · rw [jg] at h; have:=v _ h; cases this
end Go.Proofs.YtbkagebjhbphaaaGreat
