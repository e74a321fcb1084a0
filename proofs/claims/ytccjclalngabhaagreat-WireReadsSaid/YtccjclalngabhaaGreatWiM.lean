/-
  Checks of the layers below: the program's and the document's are the same.
  Conditions: none.
-/
import Derived.Test.YtccjclalngabhaaGreatWr
import Derived.Test.YtccjclalngabhaaGreatSpanM
namespace Go.Proofs.YtccjclalngabhaaGreat
set_option linter.unusedVariables false
set_option linter.unusedSimpArgs false
open Go.ChangeShapes
@[reducible] def Key:Type:=List UInt8
theorem rO {a b:Key}: ¬ a < b↔b≤a:=List.not_lt
def tJ (k:Key):Prop:=1≤List.length k∧List.length k≤12
theorem rP (k:Key):bX k=ic k:=rfl
theorem vN {k:Key}:bX k=0↔tJ k:=by
  unfold bX tJ
  split
  · constructor
    · intro h; cases h
    · intro h; omega
  · split
    · constructor
      · intro h; cases h
      · intro h; omega
    · exact⟨fun _=>by omega,fun _=>rfl⟩
theorem vO {k:Key}:bX k=0∨bX k=20:=by
  unfold bX
  split
  · exact .inr rfl
  · split
    · exact .inr rfl
    · exact .inl rfl
theorem qF {k:Key}:k≠ []↔1≤k.length:=by cases k <;> simp
theorem uB {n:Int}:jO n=true↔1≤n∧n≤4:=by
  unfold jO
  by_cases h:n ≥ 1
  · rw [if_pos h,decide_eq_true_eq]; omega
  · rw [if_neg h]; constructor
    · intro q; cases q
    · intro q; omega
theorem tK (l:List aA):∀ (q:List aA) (k:Nat),dR l q k=fF l q k
  | [],k=>rfl
  | x::q,k=>by
    rw [dR,fF]
    simp only [aT, ← rP,tK l q]
    by_cases h:jO x.dn=true
    · have a:=uB.1 h
      rw [if_pos h,if_neg (show ¬ x.dn < 1 by omega),if_neg (show ¬ x.dn > 4 by omega)]
    · have a:x.dn < 1∨x.dn > 4:=by
        have: ¬ (1≤x.dn∧x.dn≤4):=fun q=>h (uB.2 q)
        omega
      rw [if_neg h]
      rcases a with a | a
      · rw [if_pos a]
      · by_cases b:x.dn < 1
        · rw [if_pos b]
        · rw [if_neg b,if_pos a]
theorem gL (l:List aA):jE l=mD l:=by
  unfold jE mD
  simp only [aT,tK]
theorem kK {k:Key}:tJ k↔M.K k:=Iff.rfl
theorem xZ {r:bC}:gK r=0↔M.R r.aD r.aH:=by
  have a:=vN (k:=r.aD); have b:=vN (k:=r.aH)
  have la:=qF (k:=r.aD); have lb:=qF (k:=r.aH)
  have nn:= @rO r.aD r.aH
  unfold gK M.R
  rw [← kK, ← kK]
  simp only [bnd]
  by_cases f:r.aD= []
  · by_cases d:r.aH= []
    · simp [f,d]
    · by_cases c:bX r.aH=0
      · have g:=M.nil_lt d
        have i: ¬ r.aH≤ []:=fun q=>rO.2 q g
        simp [f,d,c,b.1 c,g,i]
      · have h3': ¬ tJ r.aH:=fun q=>c (b.2 q)
        simp [f,d,c,h3']
  · by_cases e:bX r.aD=0
    · by_cases d:r.aH= []
      · simp [f,d,e,a.1 e]
      · by_cases c:bX r.aH=0
        · by_cases h:r.aH≤r.aD
          · simp [f,d,c,e,h,a.1 e,b.1 c]
          · simp [f,d,c,e,h,a.1 e,b.1 c]; grind
        · have h3': ¬ tJ r.aH:=fun q=>c (b.2 q)
          simp [f,d,c,e,h3']
    · have h0': ¬ tJ r.aD:=fun q=>e (a.2 q)
      simp [f,e,h0']
theorem uk {r:bC}:gK r=0∨gK r=21:=by
  unfold gK; simp only [bnd]
  repeat' split
  all_goals first | exact .inl rfl | exact .inr rfl
theorem x8 {r:bC}:iD r=0↔M.R r.aD r.aH:=by
  have la:=qF (k:=r.aD); have lb:=qF (k:=r.aH)
  have nn:= @rO r.aD r.aH
  have a:r.aH≠ []→ [] < r.aH:=M.nil_lt
  have b:r.aH≠ []→¬ r.aH≤ []:=fun h q=>rO.2 q (a h)
  unfold iD M.R M.K
  by_cases c:r.aD= [] <;> by_cases d:r.aH= [] <;> by_cases e:((List.length r.aD:Nat):Int) > 12 <;> by_cases f:((List.length r.aH:Nat):Int) > 12 <;> by_cases g:r.aH≤r.aD <;> simp_all <;> grind
theorem xq {r:bC}:iD r=0∨iD r=21:=by
  unfold iD
  repeat' split
  all_goals first | exact .inl rfl | exact .inr rfl
theorem j3 (r:bC):gK r=iD r:=by
  have h:=(xZ (r:=r)).trans x8.symm
  rcases uk (r:=r) with a | a <;> rcases xq (r:=r) with b | b <;> simp_all
theorem xu (o:aB):iM o=gK (bC.mk o.aD o.aH):=rfl
theorem xw (o:aB):j5 o=if gK (bC.mk o.aD o.aH)=0 then(if o.aF < 1 then 1 else if o.aF > 4 then 1 else 0) else gK (bC.mk o.aD o.aH):=rfl
theorem xx (o:aB):j4 o=if bX o.aL=0 then(if((List.length o.au:Nat):Int) > 16 then 2 else 0) else bX o.aL:=rfl
theorem yE {o:aB} (h:o.ae=1∨o.ae=3):dO o=if o.au= []∧o.aD= []∧o.aH= []∧o.aF=0 then bX o.aL else 40:=by
  unfold dO
  rcases h with h | h
  · rw [if_pos h]
    show (if _ then _ else _)=_
    simp only [ku,jU,bnd]
    congr 1
    simp [eq_comm]
  · rw [if_neg (by omega),if_neg (by omega),if_pos h]
    show (if _ then _ else _)=_
    simp only [ku,jU,bnd]
    congr 1
    simp [eq_comm]
theorem yF {o:aB} (h:o.ae=2):dO o=if o.aD= []∧o.aH= []∧o.aF=0 then j4 o else 40:=by
  unfold dO
  rw [if_neg (by omega),if_pos h]
  show (if _ then _ else _)=_
  simp only [lQ,bnd]
  congr 1
  simp [eq_comm]
theorem yG {o:aB} (h:o.ae=4):dO o=if o.aL= []∧o.au= [] then j5 o else 40:=by
  unfold dO
  rw [if_neg (by omega),if_neg (by omega),if_neg (by omega),if_pos h]
  show (if _ then _ else _)=_
  simp only [lS,bnd]
  congr 1
  simp [eq_comm]
theorem yH {o:aB} (h:o.ae=5):dO o=if o.aL= []∧o.au= []∧o.aF=0 then iM o else 40:=by
  unfold dO
  rw [if_neg (by omega),if_neg (by omega),if_neg (by omega),if_neg (by omega),if_pos h]
  show (if _ then _ else _)=_
  simp only [lc,bnd]
  congr 1
  simp [eq_comm]
theorem yI {o:aB} (h: ¬ (1≤o.ae∧o.ae≤5)):dO o=40:=by
  unfold dO
  rw [if_neg (by omega),if_neg (by omega),if_neg (by omega),if_neg (by omega),if_neg (by omega)]
theorem pV (o:aB):dO o=jq o:=by
  by_cases f:o.ae=1∨o.ae=3
  · rw [yE f]
    unfold jq
    simp only [aT]
    by_cases a:o.aD= [] <;> by_cases b:o.aH= [] <;> by_cases c:o.au= [] <;> by_cases d:o.aF=0 <;>
      rcases f with f | f <;> rcases vO (k:=o.aL) with e | e <;> simp [a,b,c,d,f,e, ← rP]
  by_cases g:o.ae=2
  · rw [yF g,xx]
    unfold jq
    simp only [aT]
    by_cases a:o.aD= [] <;> by_cases b:o.aH= [] <;> by_cases d:o.aF=0 <;>
      rcases vO (k:=o.aL) with e | e <;> simp [a,b,d,g,e, ← rP]
  by_cases h:o.ae=4
  · rw [yG h,xw]
    unfold jq
    simp only [aT]
    by_cases a:o.aL= [] <;> by_cases b:o.au= [] <;>
      rcases uk (r:=bC.mk o.aD o.aH) with e | e <;> simp [a,b,h,e, ← j3]
  by_cases i:o.ae=5
  · rw [yH i,xu]
    unfold jq
    simp only [aT]
    by_cases a:o.aL= [] <;> by_cases b:o.au= [] <;> by_cases d:o.aF=0 <;>
      rcases uk (r:=bC.mk o.aD o.aH) with e | e <;> simp [a,b,d,i,e, ← j3]
  · rw [yI (by omega)]
    unfold jq
    rw [if_neg (by omega),if_neg (by omega),if_neg (by omega),if_neg (by omega),if_neg (by omega)]
theorem wN (o:aB):lM o=jQ o:=by
  unfold lM jQ
  by_cases a:o.ae=1
  · simp [a]
  · by_cases b:o.ae=2
    · simp [b]
    · by_cases c:o.ae=3
      · simp [c]
      · by_cases d:o.ae=4
        · simp [d]
        · by_cases e:o.ae=5
          · simp [e]
          · simp [a,b,c,d,e]
theorem uC:∀ l:List aB,j6 l=jo l
  | []=>rfl
  | x::q=>by
    have ih:=uC q
    unfold j6 jo at ih ⊢
    by_cases e:dO x=0
    · simp only [eO,gz,aT,if_pos e, ← pV]
      exact ih
    · simp only [eO,gz,aT,if_neg e, ← pV]
theorem iA (l:List aB):l9 l=mr l:=by
  unfold l9 mr
  simp only [aT,uC]
theorem jK:∀ l:List aB,jV l=true↔jo l=0
  | []=>by simp [jV,eT,jo,gz,lp]
  | x::q=>by
    have ih:=jK q
    unfold jV jo at ih ⊢
    by_cases e:dO x=0
    · simp only [eT,gz,aT,if_pos e, ← pV]
      exact ih
    · simp only [eT,gz,aT,if_neg e, ← pV,lp]
      simp [e]
theorem uD:∀ l:List aR,cZ l=fV l
  | []=>rfl
  | x::q=>by
    simp only [cZ,fV,rP,uD q]
theorem uE:∀ l:List aP,dm l=fq l
  | []=>rfl
  | x::q=>by
    simp only [dm,fq,uD,uE q]
theorem kJ (k:Int) (l:List aP):iJ k l=il l (if k=2 then 4 else 24):=by
  unfold iJ il
  rw [aT,uE]
  by_cases h:k=2
  · rw [if_pos h,if_pos h]; rfl
  · rw [if_neg h,if_neg h]; rfl
end Go.Proofs.YtccjclalngabhaaGreat
