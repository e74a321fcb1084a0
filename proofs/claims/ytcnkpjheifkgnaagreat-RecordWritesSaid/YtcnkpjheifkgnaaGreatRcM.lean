/-
  Checks of the layers below: the program's and the document's are the same.
  Conditions: none.
-/
import Derived.Test.YtcnkpjheifkgnaaGreatRq
import Derived.Test.YtcnkpjheifkgnaaGreatSpanM
namespace Go.Proofs.YtcnkpjheifkgnaaGreat
set_option linter.unusedVariables false
set_option linter.unusedSimpArgs false
open Go.ChangeShapes
@[reducible] def Key:Type:=List UInt8
theorem tQ {a b:Key}: ¬ a < b↔b≤a:=List.not_lt
def uO (k:Key):Prop:=1≤List.length k∧List.length k≤12
theorem tT (k:Key):bY k=jl k:=rfl
theorem wR {k:Key}:bY k=0↔uO k:=by
  unfold bY uO
  split
  · constructor
    · intro h; cases h
    · intro h; omega
  · split
    · constructor
      · intro h; cases h
      · intro h; omega
    · exact⟨fun _=>by omega,fun _=>rfl⟩
theorem wS {k:Key}:bY k=0∨bY k=20:=by
  unfold bY
  split
  · exact .inr rfl
  · split
    · exact .inr rfl
    · exact .inl rfl
theorem su {k:Key}:k≠ []↔1≤k.length:=by cases k <;> simp
theorem vL {n:Int}:kJ n=true↔1≤n∧n≤4:=by
  unfold kJ
  by_cases h:n ≥ 1
  · rw [if_pos h,decide_eq_true_eq]; omega
  · rw [if_neg h]; constructor
    · intro q; cases q
    · intro q; omega
theorem uP (l:List aL):∀ (q:List aL) (k:Nat),ek l q k=gM l q k
  | [],k=>rfl
  | x::q,k=>by
    rw [ek,gM]
    simp only [aN, ← tT,uP l q]
    by_cases h:kJ x.bV=true
    · have a:=vL.1 h
      rw [if_pos h,if_neg (show ¬ x.bV < 1 by omega),if_neg (show ¬ x.bV > 4 by omega)]
    · have a:x.bV < 1∨x.bV > 4:=by
        have: ¬ (1≤x.bV∧x.bV≤4):=fun q=>h (vL.2 q)
        omega
      rw [if_neg h]
      rcases a with a | a
      · rw [if_pos a]
      · by_cases b:x.bV < 1
        · rw [if_pos b]
        · rw [if_neg b,if_pos a]
theorem vM (l:List aL):gU l=jd l:=by
  unfold gU jd
  simp only [aN,uP]
theorem kK {k:Key}:uO k↔M.K k:=Iff.rfl
theorem AA {r:bF}:dK r=0↔M.R r.aK r.aO:=by
  have a:=wR (k:=r.aK); have b:=wR (k:=r.aO)
  have la:=su (k:=r.aK); have lb:=su (k:=r.aO)
  have nn:= @tQ r.aK r.aO
  unfold dK M.R
  rw [← kK, ← kK]
  simp only [bnd]
  by_cases f:r.aK= []
  · by_cases d:r.aO= []
    · simp [f,d]
    · by_cases c:bY r.aO=0
      · have g:=M.nil_lt d
        have i: ¬ r.aO≤ []:=fun q=>tQ.2 q g
        simp [f,d,c,b.1 c,g,i]
      · have h3': ¬ uO r.aO:=fun q=>c (b.2 q)
        simp [f,d,c,h3']
  · by_cases e:bY r.aK=0
    · by_cases d:r.aO= []
      · simp [f,d,e,a.1 e]
      · by_cases c:bY r.aO=0
        · by_cases h:r.aO≤r.aK
          · simp [f,d,c,e,h,a.1 e,b.1 c]
          · simp [f,d,c,e,h,a.1 e,b.1 c]; grind
        · have h3': ¬ uO r.aO:=fun q=>c (b.2 q)
          simp [f,d,c,e,h3']
    · have h0': ¬ uO r.aK:=fun q=>e (a.2 q)
      simp [f,e,h0']
theorem vg {r:bF}:dK r=0∨dK r=21:=by
  unfold dK; simp only [bnd]
  repeat' split
  all_goals first | exact .inl rfl | exact .inr rfl
theorem AB {r:bF}:gz r=0↔M.R r.aK r.aO:=by
  have la:=su (k:=r.aK); have lb:=su (k:=r.aO)
  have nn:= @tQ r.aK r.aO
  have a:r.aO≠ []→ [] < r.aO:=M.nil_lt
  have b:r.aO≠ []→¬ r.aO≤ []:=fun h q=>tQ.2 q (a h)
  unfold gz M.R M.K
  by_cases c:r.aK= [] <;> by_cases d:r.aO= [] <;> by_cases e:((List.length r.aK:Nat):Int) > 12 <;> by_cases f:((List.length r.aO:Nat):Int) > 12 <;> by_cases g:r.aO≤r.aK <;> simp_all <;> grind
theorem zA {r:bF}:gz r=0∨gz r=21:=by
  unfold gz
  repeat' split
  all_goals first | exact .inl rfl | exact .inr rfl
theorem tV (r:bF):dK r=gz r:=by
  have h:=(AA (r:=r)).trans AB.symm
  rcases vg (r:=r) with a | a <;> rcases zA (r:=r) with b | b <;> simp_all
theorem zB (o:bq):jk o=dK (bF.mk o.aK o.aO):=rfl
theorem zC (o:bq):lD o=if dK (bF.mk o.aK o.aO)=0 then(if o.bn < 1 then 1 else if o.bn > 4 then 1 else 0) else dK (bF.mk o.aK o.aO):=rfl
theorem zD (o:bq):lw o=if bY o.aV=0 then(if((List.length o.aC:Nat):Int) > 16 then 2 else 0) else bY o.aV:=rfl
theorem Bq {o:bq} (h:o.aI=1∨o.aI=3):fC o=if o.aC= []∧o.aK= []∧o.aO= []∧o.bn=0 then bY o.aV else 40:=by
  unfold fC
  rcases h with h | h
  · rw [if_pos h]
    show (if _ then _ else _)=_
    simp only [lJ,lN,bnd]
    congr 1
    simp [eq_comm]
  · rw [if_neg (by omega),if_neg (by omega),if_pos h]
    show (if _ then _ else _)=_
    simp only [lJ,lN,bnd]
    congr 1
    simp [eq_comm]
theorem Br {o:bq} (h:o.aI=2):fC o=if o.aK= []∧o.aO= []∧o.bn=0 then lw o else 40:=by
  unfold fC
  rw [if_neg (by omega),if_pos h]
  show (if _ then _ else _)=_
  simp only [mD,bnd]
  congr 1
  simp [eq_comm]
theorem Bt {o:bq} (h:o.aI=4):fC o=if o.aV= []∧o.aC= [] then lD o else 40:=by
  unfold fC
  rw [if_neg (by omega),if_neg (by omega),if_neg (by omega),if_pos h]
  show (if _ then _ else _)=_
  simp only [mE,bnd]
  congr 1
  simp [eq_comm]
theorem Bu {o:bq} (h:o.aI=5):fC o=if o.aV= []∧o.aC= []∧o.bn=0 then jk o else 40:=by
  unfold fC
  rw [if_neg (by omega),if_neg (by omega),if_neg (by omega),if_neg (by omega),if_pos h]
  show (if _ then _ else _)=_
  simp only [mh,bnd]
  congr 1
  simp [eq_comm]
theorem Bv {o:bq} (h: ¬ (1≤o.aI∧o.aI≤5)):fC o=40:=by
  unfold fC
  rw [if_neg (by omega),if_neg (by omega),if_neg (by omega),if_neg (by omega),if_neg (by omega)]
theorem wT (o:bq):fC o=kT o:=by
  by_cases f:o.aI=1∨o.aI=3
  · rw [Bq f]
    unfold kT
    simp only [aN]
    by_cases a:o.aK= [] <;> by_cases b:o.aO= [] <;> by_cases c:o.aC= [] <;> by_cases d:o.bn=0 <;>
      rcases f with f | f <;> rcases wS (k:=o.aV) with e | e <;> simp [a,b,c,d,f,e, ← tT]
  by_cases g:o.aI=2
  · rw [Br g,zD]
    unfold kT
    simp only [aN]
    by_cases a:o.aK= [] <;> by_cases b:o.aO= [] <;> by_cases d:o.bn=0 <;>
      rcases wS (k:=o.aV) with e | e <;> simp [a,b,d,g,e, ← tT]
  by_cases h:o.aI=4
  · rw [Bt h,zC]
    unfold kT
    simp only [aN]
    by_cases a:o.aV= [] <;> by_cases b:o.aC= [] <;>
      rcases vg (r:=bF.mk o.aK o.aO) with e | e <;> simp [a,b,h,e, ← tV]
  by_cases i:o.aI=5
  · rw [Bu i,zB]
    unfold kT
    simp only [aN]
    by_cases a:o.aV= [] <;> by_cases b:o.aC= [] <;> by_cases d:o.bn=0 <;>
      rcases vg (r:=bF.mk o.aK o.aO) with e | e <;> simp [a,b,d,i,e, ← tV]
  · rw [Bv (by omega)]
    unfold kT
    rw [if_neg (by omega),if_neg (by omega),if_neg (by omega),if_neg (by omega),if_neg (by omega)]
end Go.Proofs.YtcnkpjheifkgnaaGreat
