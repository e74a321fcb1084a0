/-
  Two sorted ranges made one, as a function. Conditions: none beyond each law's own.
-/
import Derived.Test.YtbkagebjhbphaaaGreatSa
namespace Go.Proofs.YtbkagebjhbphaaaGreat
open Int renaming toNat→D2
open List renaming drop→r6,take→r5
set_option linter.unusedVariables false
set_option linter.unusedSimpArgs false
def mi (x y:aI):Bool:=decide (iV x y < 0)
def bs (P:Nat→Bool):Nat→Nat→Nat→Nat
  | 0,i,_=>i
  | f+1,i,j=>if i < j then(if P ((i+j) / 2)=true then bs P f ((i+j) / 2+1) j else bs P f i ((i+j) / 2)) else i
def yO (l:List aI) (a m b:Nat):List aI:=r5 a l++(r6 m (r5 b l)++(r6 a (r5 m l)++r6 b l))
def at_ (l:List aI) (i:Nat):aI:=List.getD l i default
def p9:Nat→List aI→Nat→Nat→Nat→List aI
  | 0,l,_,_,_=>l
  | f+1,l,a,m,b=>
    if m - a=1 then yO l a m (bs (fun h=>mi (at_ l h) (at_ l a)) (b - m+1) m b)
    else if b - m=1 then yO l (bs (fun h=> !mi (at_ l m) (at_ l h)) (m - a+1) a m) m b
    else
      let mid:=(a+b) / 2
      let n:=mid+m
      let s:=if m > mid then bs (fun c=> !mi (at_ l (n - 1 - c)) (at_ l c)) (mid - (n - b)+1) (n - b) mid else bs (fun c=> !mi (at_ l (n - 1 - c)) (at_ l c)) (m - a+1) a m
      let l1:=if s < m∧m < n - s then yO l s m (n - s) else l
      let d:=if a < s∧s < mid then p9 f l1 a s mid else l1
      if mid < n - s∧n - s < b then p9 f d mid (n - s) b else d
def l9 (l:List aI) (a m b:Int):List aI:=p9 (D2 (b - a)) l (D2 a) (D2 m) (D2 b)
end Go.Proofs.YtbkagebjhbphaaaGreat
