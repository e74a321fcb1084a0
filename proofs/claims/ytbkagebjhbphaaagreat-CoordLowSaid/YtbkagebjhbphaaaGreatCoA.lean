/-
  States that may be are small.
  Conditions: numbers are 64-bit numbers (SNm, CNm).
-/
import Derived.Test.YtbkagebjhbphaaaGreatRa
namespace Go.Proofs.YtbkagebjhbphaaaGreat
set_option linter.unusedVariables false
set_option linter.unusedSimpArgs false
theorem jd {α β:Type} (x:α) (f:α→β):bnd x f=f x:=rfl
theorem CQ {k:List UInt8} (h:gq k=0):List.length k≤12:=by
  unfold gq at h
  repeat' split at h
  all_goals omega
abbrev Et (q:aL):Prop:=List.length q.cu≤12∧List.length q.aV≤16
abbrev CR (x:aZ):Prop:=List.length x.aV≤16∧List.length x.av.ls≤4∧∀ q ∈ x.av.ls,Et q
abbrev EK (x:bL):Prop:=x.bf≤18446744073709551615∧x.ay≤18446744073709551615∧x.aU≤18446744073709551615∧List.length x.au.ls≤4
abbrev EL (x:fG):Prop:=x.ay≤18446744073709551615∧x.aU≤18446744073709551615∧List.length x.ah.ls≤24∧∀ q ∈ x.ah.ls,CR q
theorem DR (l:List bv):∀ (q:List bv) (k:Nat),(lp (iA l q k) fun _=>0)=0→0 < k→∀ x ∈ q,List.length x.bJ≤12
  | [],_,_,_,x,hx=>by cases hx
  | y::q,k,h,hk,x,hx=>by
    simp only [iA,jd] at h
    split at h
    · split at h
      · split at h
        · split at h
          · simp only [lp] at h; omega
          · rcases List.mem_cons.1 hx with rfl | hx
            · exact CQ (by assumption)
            · exact DR l q _ h (by omega) x hx
        · simp only [lp] at h; omega
      · omega
    · simp only [lp] at h; omega
theorem EA {l:List bv} (h:kH l=0):List.length l≤6∧∀ x ∈ l,List.length x.bJ≤12:=by
  unfold kH at h
  split at h
  · omega
  · split at h
    · omega
    · rw [jd] at h
      split at h
      · omega
      · rename_i a b c
        refine⟨by omega, ?_⟩
        match l,h,c with
        | [],_,_=>intro x hx; cases hx
        | y::q,h,c=>
          intro x hx
          simp only [iA,jd] at h
          split at h
          · rw [if_neg (by omega)] at h
            rcases List.mem_cons.1 hx with rfl | hx
            · have c':x.bJ= []:=Classical.not_not.1 c
              rw [c']; exact IU _
            · exact DR _ q _ h (by omega) x hx
          · simp only [lp] at h; omega
def DT (p:dC):Prop:=p.ay≤18446744073709551615∧p.aY≤18446744073709551615∧p.aH≤18446744073709551615∧(∀ x ∈ p.aj.ls,x.bf≤18446744073709551615∧x.ay≤18446744073709551615∧x.aU≤18446744073709551615)∧∀ x ∈ p.aG.ls,x.ay≤18446744073709551615∧x.aU≤18446744073709551615
theorem CS {n m:Int} (h:iK n m=true):1≤n∧n≤m:=by
  unfold iK at h
  split at h
  · exact⟨by omega,of_decide_eq_true h⟩
  · cases h
theorem DU (p:dC) (k:Nat) (d:bL):∀ (q:List Int) (j:Nat) (pre:List Int) (v:Int),d.au.ls=pre++q→List.length pre=j→(0 < j→List.getD d.au.ls (j - 1) default=v)→(j=0→v=0)→v≤p.au→
    (dS p k d q j= .inl ()∧v+(List.length q:Nat)≤p.au)∨dS p k d q j= .inr false
  | [],j,pre,v,_,_,_,_,hv=> .inl ⟨rfl,by simpa using hv⟩
  | y::q,j,pre,v,hp,hj,hg,hz,hv=>by
    by_cases e:iK y p.au=true
    · have a:=CS e
      have ih:=DU p k d q (j+1) (pre++ [y]) y (by rw [hp]; simp) (by simp [hj]) (fun _=>by
        rw [hp, ← hj]
        simp [List.getD,List.getElem?_append]) (fun h=>by omega) a.2
      by_cases z:((j:Nat):Int) > 0
      · by_cases u:y≤List.getD d.au.ls (j - 1) default
        · exact .inr (by simp only [dS,jd,if_pos e,if_pos z,if_pos u])
        · have hu:v < y:=by rw [hg (by omega)] at u; omega
          rcases ih with g | g
          · refine .inl ⟨by simp only [dS,jd,if_pos e,if_pos z,if_neg u]; exact g.1, ?_⟩
            have:=g.2
            simp only [List.length_cons]
            omega
          · exact .inr (by simp only [dS,jd,if_pos e,if_pos z,if_neg u]; exact g)
      · have hu:v=0:=hz (by omega)
        rcases ih with g | g
        · refine .inl ⟨by simp only [dS,jd,if_pos e,if_neg z]; exact g.1, ?_⟩
          have:=g.2
          simp only [List.length_cons]
          omega
        · exact .inr (by simp only [dS,jd,if_pos e,if_neg z]; exact g)
    · exact .inr (by simp only [dS,jd]; rw [if_neg e])
theorem DV (p:dC) (k:Nat) (d:bL):∀ (q:List Int) (j:Nat),fZ p k d q j=dS p k d q j
  | [],_=>rfl
  | y::q,j=>by simp only [fZ,dS,jd,DV p k d q]
theorem DW (p:dC) (hp:0≤p.au∧p.au≤4) (f:Unit→Bool):∀ (q:List bL) (k:Nat),lp (dQ p q k) f=true→∀ x ∈ q,List.length x.au.ls≤4
  | [],_,_,x,hx=>by cases hx
  | y::q,k,h,x,hx=>by
    have key:lp (qQ (dS p k y y.au.ls 0) fun _=>dQ p q (k+1)) f=true:=by
      simp only [dQ,jd,DV] at h
      repeat' split at h
      all_goals first | cases h; done | exact h
    rcases DU p k y y.au.ls 0 [] 0 rfl rfl (fun h=>absurd h (by omega)) (fun _=>rfl) hp.1 with g | g
    · rw [g.1] at key
      rcases List.mem_cons.1 hx with rfl | hx
      · have:=g.2
        omega
      · exact DW p hp f q _ key x hx
    · rw [g] at key
      cases key
theorem DX:∀ l:List aL,(lp (gD l) fun _=>true)=true→∀ x ∈ l,Et x
  | [],_,x,hx=>by cases hx
  | y::q,h,x,hx=>by
    by_cases e:gq y.cu=0
    · by_cases v:((List.length y.aV:Nat):Int) > 16
      · simp only [gD,jd,if_pos e,if_pos v] at h
        cases h
      · simp only [gD,jd,if_pos e,if_neg v] at h
        rcases List.mem_cons.1 hx with rfl | hx
        · exact⟨CQ e,by omega⟩
        · exact DX q h x hx
    · simp only [gD,jd,if_neg e] at h
      cases h
theorem EB {r:aZ} (h:j3 r=true):CR r:=by
  unfold j3 at h
  split at h
  · cases h
  · split at h
    · cases h
    · exact⟨by omega,by omega,DX _ h⟩
theorem DY (k:Nat) (x:fG):∀ (n j:Nat),(fP k x n j= .inl ()∧∀ i,j≤i→i < j+n→CR (List.getD x.ah.ls i default))∨fP k x n j= .inr false
  | 0,j=> .inl ⟨rfl,fun i a b=>by omega⟩
  | n+1,j=>by
    by_cases e:j3 (List.getD x.ah.ls j default)=true
    · rcases DY k x n (j+1) with g | g
      · refine .inl ⟨?_,fun i a b=> ?_⟩
        · simp only [fP,jd]
          refine(if_pos ?_).trans g.1
          exact e
        · by_cases z:i=j
          · subst z; exact EB e
          · exact g.2 i (by omega) (by omega)
      · refine .inr ?_
        simp only [fP,jd]
        refine(if_pos ?_).trans g
        exact e
    · refine .inr ?_
      simp only [fP,jd]
      exact if_neg e
theorem DZ (k:Nat) (x:fG):∀ (n j:Nat),iX k x n j=fP k x n j
  | 0,_=>rfl
  | n+1,j=>by simp only [iX,fP,jd,DZ k x n]
theorem D5 (l:List fG):∀ (q:List fG) (k:Nat),(lp (fF l q k) fun _=>true)=true→∀ x ∈ q,List.length x.ah.ls≤24∧∀ r ∈ x.ah.ls,CR r
  | [],_,_,x,hx=>by cases hx
  | y::q,k,h,x,hx=>by
    have key:List.length y.ah.ls≤4∧(lp (qQ (fP k y (List.length y.ah.ls) 0) fun _=>fF l q (k+1)) fun _=>true)=true:=by
      simp only [fF,jd,DZ] at h
      repeat' split at h
      all_goals first | cases h; done | exact⟨by omega,h⟩
    rcases DY k y (List.length y.ah.ls) 0 with g | g
    · have h':=key.2
      rw [g.1] at h'
      rcases List.mem_cons.1 hx with rfl | hx
      · refine⟨by omega,fun r hr=> ?_⟩
        obtain⟨i,hi,he⟩:=List.getElem_of_mem hr
        have:=g.2 i (by omega) (by omega)
        rw [List.getD,List.getElem?_eq_getElem hi] at this
        simp only [Option.getD_some,he] at this
        exact this
      · exact D5 l q _ h' x hx
    · have h':=key.2
      rw [g] at h'
      cases h'
theorem D6 {p:dC} (h:iY p=0) (n:DT p):List.length p.ag.ls≤6∧(∀ x ∈ p.ag.ls,List.length x.bJ≤12)∧List.length p.aj.ls≤8∧(∀ x ∈ p.aj.ls,EK x)∧List.length p.aG.ls≤4∧(∀ x ∈ p.aG.ls,EL x)∧p.ay≤18446744073709551615∧p.aY≤18446744073709551615∧p.aH≤18446744073709551615:=by
  unfold iY at h
  rw [jd] at h
  have v:∀ b:Bool,iO b=0→b=true:=by intro b; cases b <;> simp [iO]
  split at h
  · split at h
    · rw [jd] at h
      split at h
      · rw [jd] at h
        split at h
        · rename_i g l c d
          rw [jd,jd] at h
          have m:=v _ h
          have a:=CS g
          have ho:kH p.ag.ls=0:=by
            unfold nM at c
            rw [jd] at c
            split at c
            · assumption
            · cases c
          have ho:=EA ho
          unfold mY at d
          split at d
          · cases d
          · unfold oL at m
            split at m
            · cases m
            · have hd:=DW p ⟨by omega,a.2⟩ _ _ _ d
              have hl:=D5 _ _ _ m
              obtain⟨i,j,k,e,f⟩:=n
              exact⟨ho.1,ho.2,by omega,fun x hx=>⟨(e x hx).1,(e x hx).2.1,(e x hx).2.2,hd x hx⟩,by omega,fun x hx=>⟨(f x hx).1,(f x hx).2,hl x hx⟩,i,j,k⟩
        · rw [jd] at h; have:=v _ h; cases this
      · rw [jd] at h; have:=v _ h; cases this
    · rw [jd] at h; have:=v _ h; cases this
  · rw [jd] at h; have:=v _ h; cases this
end Go.Proofs.YtbkagebjhbphaaaGreat
