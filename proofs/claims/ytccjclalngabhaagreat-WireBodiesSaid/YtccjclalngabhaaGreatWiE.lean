/-
  A message is the same as itself; the chapter's examples.
  Conditions: none.
-/
import Derived.Test.YtccjclalngabhaaGreatWl
import Derived.Test.YtccjclalngabhaaGreatWiO
import Derived.Test.YtccjclalngabhaaGreatWiK
import Derived.Test.YtccjclalngabhaaGreatWiD
import Derived.Test.YtccjclalngabhaaGreatWs
namespace Go.Proofs.YtccjclalngabhaaGreat
set_option maxRecDepth 100000
set_option linter.unusedVariables false
set_option linter.unusedSimpArgs false
theorem uC:oh=true:=by decide+kernel
theorem nC {α:Type} [Inhabited α] {l q:List α} {x:α} {k:Nat} (h:List.drop k l=x::q):List.getD l k default=x∧List.drop (k+1) l=q:=by
  have e:l[k]? =some x:=by
    have e:(List.drop k l)[0]? =some x:=by rw [h]; rfl
    rwa [List.getElem?_drop,Nat.add_zero] at e
  refine⟨dA e, ?_⟩
  rw [← List.drop_drop,h]
  rfl
theorem wI (l:List aB):∀ (q:List aB) (k:Nat),List.drop k l=q→gG l q k= .inl ()
  | [],k,_=>rfl
  | x::q,k,h=>by
    obtain⟨a,b⟩:=nC h
    rw [gG,aQ,a]
    rw [if_pos ⟨rfl,rfl,rfl,rfl,rfl,rfl⟩]
    exact wI l q (k+1) b
theorem xW (l:List aB):ji l l=true:=by
  unfold ji
  rw [if_pos rfl,wI l l 0 rfl]
  rfl
theorem wJ (l:List aW):∀ (q:List aW) (k:Nat),List.drop k l=q→gH l q k= .inl ()
  | [],k,_=>rfl
  | x::q,k,h=>by
    obtain⟨a,b⟩:=nC h
    rw [gH,aQ,a]
    rw [if_pos ⟨rfl,rfl⟩]
    exact wJ l q (k+1) b
theorem xX (l:List aW):kW l l=true:=by
  unfold kW
  rw [if_pos rfl,wJ l l 0 rfl]
  rfl
theorem wK (l:List aX):∀ (q:List aX) (k:Nat),List.drop k l=q→dV l q k= .inl ()
  | [],k,_=>rfl
  | x::q,k,h=>by
    obtain⟨a,b⟩:=nC h
    rw [dV,aQ,a]
    rw [if_pos rfl,if_neg (by simp),aQ,xX,if_pos rfl]
    exact wK l q (k+1) b
theorem xY (l:List aX):ig l l=true:=by
  unfold ig
  rw [if_pos rfl,wK l l 0 rfl]
  rfl
theorem wL (l:List aA):∀ (q:List aA) (k:Nat),List.drop k l=q→iy l q k= .inl ()
  | [],k,_=>rfl
  | x::q,k,h=>by
    obtain⟨a,b⟩:=nC h
    rw [iy,aQ,a]
    rw [if_pos ⟨rfl,rfl⟩]
    exact wL l q (k+1) b
theorem xZ (l:List aA):ku l l=true:=by
  unfold ku
  rw [if_pos rfl,wL l l 0 rfl]
  rfl
theorem wM (m:bG):mU m m=true:=by
  unfold mU
  simp only [aQ,xW,xY,xZ,if_true,decide_true,and_self]
end Go.Proofs.YtccjclalngabhaaGreat
