/-
  Checks of the layers below: the program's and the document's are the same.
  Conditions: none.
-/
import Derived.Test.YtccjclalngabhaaGreatWr
import Derived.Test.YtccjclalngabhaaGreatSpanM
namespace Go.Proofs.YtccjclalngabhaaGreat
set_option linter.unusedVariables false
set_option linter.unusedSimpArgs false
open Go.ChangeShapes
@[reducible] def Key:Type:=List UInt8
theorem rz {a b:Key}: ¬ a < b↔b≤a:=List.not_lt
def sO (k:Key):Prop:=1≤List.length k∧List.length k≤12
theorem rA (k:Key):bX k=gW k:=rfl
theorem vg {k:Key}:bX k=0↔sO k:=by
  unfold bX sO
  split
  · constructor
    · intro h; cases h
    · intro h; omega
  · split
    · constructor
      · intro h; cases h
      · intro h; omega
    · exact⟨fun _=>by omega,fun _=>rfl⟩
theorem vk {k:Key}:bX k=0∨bX k=20:=by
  unfold bX
  split
  · exact .inr rfl
  · split
    · exact .inr rfl
    · exact .inl rfl
theorem qp {k:Key}:k≠ []↔1≤k.length:=by cases k <;> simp
theorem uf {n:Int}:jK n=true↔1≤n∧n≤4:=by
  unfold jK
  by_cases h:n ≥ 1
  · rw [if_pos h,decide_eq_true_eq]; omega
  · rw [if_neg h]; constructor
    · intro q; cases q
    · intro q; omega
theorem sP (l:List aA):∀ (q:List aA) (k:Nat),dQ l q k=fD l q k
  | [],k=>rfl
  | x::q,k=>by
    rw [dQ,fD]
    simp only [aQ, ← rA,sP l q]
    by_cases h:jK x.di=true
    · have a:=uf.1 h
      rw [if_pos h,if_neg (show ¬ x.di < 1 by omega),if_neg (show ¬ x.di > 4 by omega)]
    · have a:x.di < 1∨x.di > 4:=by
        have: ¬ (1≤x.di∧x.di≤4):=fun q=>h (uf.2 q)
        omega
      rw [if_neg h]
      rcases a with a | a
      · rw [if_pos a]
      · by_cases b:x.di < 1
        · rw [if_pos b]
        · rw [if_neg b,if_pos a]
theorem gK (l:List aA):jA l=l8 l:=by
  unfold jA l8
  simp only [aQ,sP]
theorem kK {k:Key}:sO k↔M.K k:=Iff.rfl
theorem xH {r:bC}:gJ r=0↔M.R r.aD r.aI:=by
  have a:=vg (k:=r.aD); have b:=vg (k:=r.aI)
  have la:=qp (k:=r.aD); have lb:=qp (k:=r.aI)
  have nn:= @rz r.aD r.aI
  unfold gJ M.R
  rw [← kK, ← kK]
  simp only [bnd]
  by_cases f:r.aD= []
  · by_cases d:r.aI= []
    · simp [f,d]
    · by_cases c:bX r.aI=0
      · have g:=M.nil_lt d
        have i: ¬ r.aI≤ []:=fun q=>rz.2 q g
        simp [f,d,c,b.1 c,g,i]
      · have h3': ¬ sO r.aI:=fun q=>c (b.2 q)
        simp [f,d,c,h3']
  · by_cases e:bX r.aD=0
    · by_cases d:r.aI= []
      · simp [f,d,e,a.1 e]
      · by_cases c:bX r.aI=0
        · by_cases h:r.aI≤r.aD
          · simp [f,d,c,e,h,a.1 e,b.1 c]
          · simp [f,d,c,e,h,a.1 e,b.1 c]; grind
        · have h3': ¬ sO r.aI:=fun q=>c (b.2 q)
          simp [f,d,c,e,h3']
    · have h0': ¬ sO r.aD:=fun q=>e (a.2 q)
      simp [f,e,h0']
theorem tK {r:bC}:gJ r=0∨gJ r=21:=by
  unfold gJ; simp only [bnd]
  repeat' split
  all_goals first | exact .inl rfl | exact .inr rfl
theorem xI {r:bC}:iw r=0↔M.R r.aD r.aI:=by
  have la:=qp (k:=r.aD); have lb:=qp (k:=r.aI)
  have nn:= @rz r.aD r.aI
  have a:r.aI≠ []→ [] < r.aI:=M.nil_lt
  have b:r.aI≠ []→¬ r.aI≤ []:=fun h q=>rz.2 q (a h)
  unfold iw M.R M.K
  by_cases c:r.aD= [] <;> by_cases d:r.aI= [] <;> by_cases e:((List.length r.aD:Nat):Int) > 12 <;> by_cases f:((List.length r.aI:Nat):Int) > 12 <;> by_cases g:r.aI≤r.aD <;> simp_all <;> grind
theorem wR {r:bC}:iw r=0∨iw r=21:=by
  unfold iw
  repeat' split
  all_goals first | exact .inl rfl | exact .inr rfl
theorem jV (r:bC):gJ r=iw r:=by
  have h:=(xH (r:=r)).trans xI.symm
  rcases tK (r:=r) with a | a <;> rcases wR (r:=r) with b | b <;> simp_all
theorem wS (o:aB):iF o=gJ (bC.mk o.aD o.aI):=rfl
theorem wT (o:aB):jX o=if gJ (bC.mk o.aD o.aI)=0 then(if o.aF < 1 then 1 else if o.aF > 4 then 1 else 0) else gJ (bC.mk o.aD o.aI):=rfl
theorem wU (o:aB):jW o=if bX o.aL=0 then(if((List.length o.au:Nat):Int) > 16 then 2 else 0) else bX o.aL:=rfl
theorem yc {o:aB} (h:o.ae=1∨o.ae=3):dN o=if o.au= []∧o.aD= []∧o.aI= []∧o.aF=0 then bX o.aL else 40:=by
  unfold dN
  rcases h with h | h
  · rw [if_pos h]
    show (if _ then _ else _)=_
    simp only [j5,jP,bnd]
    congr 1
    simp [eq_comm]
  · rw [if_neg (by omega),if_neg (by omega),if_pos h]
    show (if _ then _ else _)=_
    simp only [j5,jP,bnd]
    congr 1
    simp [eq_comm]
theorem yf {o:aB} (h:o.ae=2):dN o=if o.aD= []∧o.aI= []∧o.aF=0 then jW o else 40:=by
  unfold dN
  rw [if_neg (by omega),if_pos h]
  show (if _ then _ else _)=_
  simp only [lF,bnd]
  congr 1
  simp [eq_comm]
theorem yg {o:aB} (h:o.ae=4):dN o=if o.aL= []∧o.au= [] then jX o else 40:=by
  unfold dN
  rw [if_neg (by omega),if_neg (by omega),if_neg (by omega),if_pos h]
  show (if _ then _ else _)=_
  simp only [lG,bnd]
  congr 1
  simp [eq_comm]
theorem yh {o:aB} (h:o.ae=5):dN o=if o.aL= []∧o.au= []∧o.aF=0 then iF o else 40:=by
  unfold dN
  rw [if_neg (by omega),if_neg (by omega),if_neg (by omega),if_neg (by omega),if_pos h]
  show (if _ then _ else _)=_
  simp only [kU,bnd]
  congr 1
  simp [eq_comm]
theorem yj {o:aB} (h: ¬ (1≤o.ae∧o.ae≤5)):dN o=40:=by
  unfold dN
  rw [if_neg (by omega),if_neg (by omega),if_neg (by omega),if_neg (by omega),if_neg (by omega)]
theorem pE (o:aB):dN o=jg o:=by
  by_cases f:o.ae=1∨o.ae=3
  · rw [yc f]
    unfold jg
    simp only [aQ]
    by_cases a:o.aD= [] <;> by_cases b:o.aI= [] <;> by_cases c:o.au= [] <;> by_cases d:o.aF=0 <;>
      rcases f with f | f <;> rcases vk (k:=o.aL) with e | e <;> simp [a,b,c,d,f,e, ← rA]
  by_cases g:o.ae=2
  · rw [yf g,wU]
    unfold jg
    simp only [aQ]
    by_cases a:o.aD= [] <;> by_cases b:o.aI= [] <;> by_cases d:o.aF=0 <;>
      rcases vk (k:=o.aL) with e | e <;> simp [a,b,d,g,e, ← rA]
  by_cases h:o.ae=4
  · rw [yg h,wT]
    unfold jg
    simp only [aQ]
    by_cases a:o.aL= [] <;> by_cases b:o.au= [] <;>
      rcases tK (r:=bC.mk o.aD o.aI) with e | e <;> simp [a,b,h,e, ← jV]
  by_cases i:o.ae=5
  · rw [yh i,wS]
    unfold jg
    simp only [aQ]
    by_cases a:o.aL= [] <;> by_cases b:o.au= [] <;> by_cases d:o.aF=0 <;>
      rcases tK (r:=bC.mk o.aD o.aI) with e | e <;> simp [a,b,d,i,e, ← jV]
  · rw [yj (by omega)]
    unfold jg
    rw [if_neg (by omega),if_neg (by omega),if_neg (by omega),if_neg (by omega),if_neg (by omega)]
theorem wu (o:aB):lC o=jM o:=by
  unfold lC jM
  by_cases a:o.ae=1
  · simp [a]
  · by_cases b:o.ae=2
    · simp [b]
    · by_cases c:o.ae=3
      · simp [c]
      · by_cases d:o.ae=4
        · simp [d]
        · by_cases e:o.ae=5
          · simp [e]
          · simp [a,b,c,d,e]
theorem ug:∀ l:List aB,jY l=je l
  | []=>rfl
  | x::q=>by
    have ih:=ug q
    unfold jY je at ih ⊢
    by_cases e:dN x=0
    · simp only [eO,gy,aQ,if_pos e, ← pE]
      exact ih
    · simp only [eO,gy,aQ,if_neg e, ← pE]
theorem ik (l:List aB):lU l=l7 l:=by
  unfold lU l7
  simp only [aQ,ug]
theorem jG:∀ l:List aB,jQ l=true↔je l=0
  | []=>by simp [jQ,eT,je,gy,lp]
  | x::q=>by
    have ih:=jG q
    unfold jQ je at ih ⊢
    by_cases e:dN x=0
    · simp only [eT,gy,aQ,if_pos e, ← pE]
      exact ih
    · simp only [eT,gy,aQ,if_neg e, ← pE,lp]
      simp [e]
theorem uh:∀ l:List aW,cO l=fU l
  | []=>rfl
  | x::q=>by
    simp only [cO,fU,rA,uh q]
theorem ui:∀ l:List aX,dh l=fq l
  | []=>rfl
  | x::q=>by
    simp only [dh,fq,uh,ui q]
theorem kD (k:Int) (l:List aX):iC k l=gZ l (if k=2 then 4 else 24):=by
  unfold iC gZ
  rw [aQ,ui]
  by_cases h:k=2
  · rw [if_pos h,if_pos h]; rfl
  · rw [if_neg h,if_neg h]; rfl
end Go.Proofs.YtccjclalngabhaaGreat
