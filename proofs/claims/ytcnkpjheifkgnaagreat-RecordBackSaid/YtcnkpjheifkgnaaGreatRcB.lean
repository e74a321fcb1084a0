/-
  The numbers of what was read have 64 bits.
  Conditions: none.
-/
import Derived.Test.YtcnkpjheifkgnaaGreatRcW
namespace Go.Proofs.YtcnkpjheifkgnaaGreat
set_option linter.unusedVariables false
set_option linter.unusedSimpArgs false
theorem jw (r:ReaderT):(aU r).1≤18446744073709551615:=by
  show (aI r 18446744073709551615).1≤18446744073709551615
  unfold aI
  simp only [aF]
  split
  · split
    · exact Cc _
    · rename_i h; dsimp only; omega
  · exact Cc _
theorem tY {α:Type} {rd:ReaderT→α × ReaderT} {Q:α→Prop} (hq:∀ r,Q (rd r).1) {p1:Int}:∀ (n:Nat) (acc:List α) (k:Nat) (b:List UInt8) (e:Int),(∀ x ∈ acc,Q x)→∀ x ∈ (tG rd p1 n acc k b e).1,Q x
  | 0,acc,k,b,e,h,x,hx=>by
    have:x ∈ ([]:List α):=hx
    cases this
  | n+1,acc,k,b,e,h,x,hx=>by
    unfold tG at hx
    by_cases c:((k:Nat):Int) < p1
    · rw [if_pos c] at hx
      by_cases he:e=0
      · rw [if_pos he,aF] at hx
        refine tY hq n _ _ _ _ (fun y hy=> ?_) x hx
        rcases List.mem_append.1 hy with hy | hy
        · exact h y hy
        · rw [List.mem_singleton.1 hy]; exact hq _
      · rw [if_neg he] at hx; exact h x hx
    · rw [if_neg c] at hx; exact h x hx
theorem qx {α:Type} {rd:ReaderT→α × ReaderT} {lst:ReaderT→List α × ReaderT}
    (hl:∀ r,lst r=bnd (aI r 255) fun y=>bnd (tG rd ((y.1:Nat):Int) ((Int.toNat ((y.1:Nat):Int) - 0)+1) [] 0 y.2.aa.ls y.2.av) fun s=>(s.1,ReaderT.mk (Ll.mk s.2.1) s.2.2))
    {Q:α→Prop} (hq:∀ r,Q (rd r).1) (r:ReaderT):∀ x ∈ (lst r).1,Q x:=by
  intro x hx
  rw [hl] at hx
  simp only [aF] at hx
  exact tY hq _ [] 0 _ _ (fun y hy=>by cases hy) x hx
theorem wT (r:ReaderT):∀ x ∈ (fU r 255).1,x.aS≤18446744073709551615:=
  qx (lst:=fun r=>fU r 255) (rd:=iU) (fun r=>by unfold fU iF; simp only [wz]; rfl) (Q:=fun x=>x.aS≤18446744073709551615) (fun r=>by show (aU r).1≤_; exact jw r) r
theorem wU (r:ReaderT):∀ x ∈ (gG r 255).1,x≤18446744073709551615:=
  qx (lst:=fun r=>gG r 255) (rd:=aU) (fun r=>by unfold gG iV; simp only [wB]; rfl) (Q:=fun x=>x≤18446744073709551615) jw r
theorem wV (r:ReaderT):∀ x ∈ (eQ r 255).1,x.aS≤18446744073709551615∧x.au≤18446744073709551615∧x.bB≤18446744073709551615:=
  qx (lst:=fun r=>eQ r 255) (rd:=gK) (fun r=>by unfold eQ gV; simp only [wC]; rfl) (Q:=fun x=>x.aS≤18446744073709551615∧x.au≤18446744073709551615∧x.bB≤18446744073709551615) (fun r=>by
    simp only [gK,aF]
    exact⟨jw _,jw _,jw _⟩) r
theorem wW (r:ReaderT):∀ x ∈ (fV r 255).1,x.au≤18446744073709551615∧x.bB≤18446744073709551615:=
  qx (lst:=fun r=>fV r 255) (rd:=iE) (fun r=>by unfold fV iG; simp only [wD]; rfl) (Q:=fun x=>x.au≤18446744073709551615∧x.bB≤18446744073709551615) (fun r=>by
    simp only [iE,aF]
    exact⟨jw _,jw _⟩) r
theorem xD:nE ZS:=⟨Cc _,Cc _,Cc _,Cc _,Cc _,Cc _,Cc _,Cc _,Cc _,fun x hx=>absurd hx List.not_mem_nil,fun x hx=>absurd hx List.not_mem_nil⟩
theorem xE:nG ZC:=⟨Cc _,Cc _,Cc _,fun x hx=>absurd hx List.not_mem_nil,fun x hx=>absurd hx List.not_mem_nil⟩
theorem xG (x:bP × ReaderT):(qw x).1=x.1∨(qw x).1=ZS:=by
  unfold qw
  split
  · split
    · exact .inl rfl
    · exact .inr rfl
  · exact .inr rfl
theorem xH (x:bK × ReaderT):(nY x).1=x.1∨(nY x).1=ZC:=by
  unfold nY
  split
  · split
    · exact .inl rfl
    · exact .inr rfl
  · exact .inr rfl
theorem rO (r:ReaderT):(gJ r).1.bg≤18446744073709551615∧(gJ r).1.bv≤18446744073709551615∧(gJ r).1.cz≤18446744073709551615:=by
  simp only [gJ,aF]
  exact⟨jw _,jw _,jw _⟩
theorem wX (r:ReaderT):nE (rdSh r).1:=by
  unfold nE
  simp only [rdSh,aF]
  exact⟨jw _,jw _,jw _,jw _,jw _,jw _,(rO _).1,(rO _).2.1,(rO _).2.2,wT _,wU _⟩
theorem wY (r:ReaderT):nG (nU r).1:=by
  unfold nG
  simp only [nU,aF]
  exact⟨jw _,jw _,jw _,wV _,wW _⟩
theorem vI {l:List UInt8} {t:bP} {e:Int} (h:bL l=(t,e)):nE t:=by
  have:t=(bL l).1:=by rw [h]
  rw [this,sV]
  rcases xG (rdSh (dG l 83)) with c | c <;> rw [c]
  · exact wX _
  · exact xD
theorem vJ {l:List UInt8} {t:bK} {e:Int} (h:bE l=(t,e)):nG t:=by
  have:t=(bE l).1:=by rw [h]
  rw [this,rq]
  rcases xH (nU (dG l 67)) with c | c <;> rw [c]
  · exact wY _
  · exact xE
end Go.Proofs.YtcnkpjheifkgnaaGreat
