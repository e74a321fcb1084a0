/-
  A message is the same as itself; the chapter's examples.
  Conditions: none.
-/
import Derived.Test.YtccjclalngabhaaGreatWl
import Derived.Test.YtccjclalngabhaaGreatWiO
import Derived.Test.YtccjclalngabhaaGreatWiK
import Derived.Test.YtccjclalngabhaaGreatWiD
import Derived.Test.YtccjclalngabhaaGreatWs
namespace Go.Proofs.YtccjclalngabhaaGreat
set_option maxRecDepth 100000
set_option linter.unusedVariables false
set_option linter.unusedSimpArgs false
theorem uS:oF=true:=by decide+kernel
theorem nN {α:Type} [Inhabited α] {l q:List α} {x:α} {k:Nat} (h:List.drop k l=x::q):List.getD l k default=x∧List.drop (k+1) l=q:=by
  have e:l[k]? =some x:=by
    have e:(List.drop k l)[0]? =some x:=by rw [h]; rfl
    rwa [List.getElem?_drop,Nat.add_zero] at e
  refine⟨dh e, ?_⟩
  rw [← List.drop_drop,h]
  rfl
theorem wY (l:List aB):∀ (q:List aB) (k:Nat),List.drop k l=q→gH l q k= .inl ()
  | [],k,_=>rfl
  | x::q,k,h=>by
    obtain⟨a,b⟩:=nN h
    rw [gH,aT,a]
    rw [if_pos ⟨rfl,rfl,rfl,rfl,rfl,rfl⟩]
    exact wY l q (k+1) b
theorem yz (l:List aB):jv l l=true:=by
  unfold jv
  rw [if_pos rfl,wY l l 0 rfl]
  rfl
theorem wZ (l:List aR):∀ (q:List aR) (k:Nat),List.drop k l=q→gI l q k= .inl ()
  | [],k,_=>rfl
  | x::q,k,h=>by
    obtain⟨a,b⟩:=nN h
    rw [gI,aT,a]
    rw [if_pos ⟨rfl,rfl⟩]
    exact wZ l q (k+1) b
theorem yA (l:List aR):lh l l=true:=by
  unfold lh
  rw [if_pos rfl,wZ l l 0 rfl]
  rfl
theorem xc (l:List aP):∀ (q:List aP) (k:Nat),List.drop k l=q→dX l q k= .inl ()
  | [],k,_=>rfl
  | x::q,k,h=>by
    obtain⟨a,b⟩:=nN h
    rw [dX,aT,a]
    rw [if_pos rfl,if_neg (by simp),aT,yA,if_pos rfl]
    exact xc l q (k+1) b
theorem yB (l:List aP):iy l l=true:=by
  unfold iy
  rw [if_pos rfl,xc l l 0 rfl]
  rfl
theorem xe (l:List aA):∀ (q:List aA) (k:Nat),List.drop k l=q→iE l q k= .inl ()
  | [],k,_=>rfl
  | x::q,k,h=>by
    obtain⟨a,b⟩:=nN h
    rw [iE,aT,a]
    rw [if_pos ⟨rfl,rfl⟩]
    exact xe l q (k+1) b
theorem yC (l:List aA):kC l l=true:=by
  unfold kC
  rw [if_pos rfl,xe l l 0 rfl]
  rfl
theorem xg (m:bE):ny m m=true:=by
  unfold ny
  simp only [aT,yz,yB,yC,if_true,decide_true,and_self]
end Go.Proofs.YtccjclalngabhaaGreat
