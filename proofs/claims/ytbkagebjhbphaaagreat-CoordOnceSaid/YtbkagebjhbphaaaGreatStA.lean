/-
  Two sorted ranges made one, as a function. Conditions: none beyond each law's own.
-/
import Derived.Test.YtbkagebjhbphaaaGreatSa
namespace Go.Proofs.YtbkagebjhbphaaaGreat
open Int renaming toNat→D0
open List renaming drop→r3,take→q7
set_option linter.unusedVariables false
set_option linter.unusedSimpArgs false
def ng (x y:aI):Bool:=decide (jw x y < 0)
def bs (P:Nat→Bool):Nat→Nat→Nat→Nat
  | 0,i,_=>i
  | f+1,i,j=>if i < j then(if P ((i+j) / 2)=true then bs P f ((i+j) / 2+1) j else bs P f i ((i+j) / 2)) else i
def uF (l:List aI) (a m b:Nat):List aI:=q7 a l++(r3 m (q7 b l)++(r3 a (q7 m l)++r3 b l))
def at_ (l:List aI) (i:Nat):aI:=List.getD l i default
def pJ:Nat→List aI→Nat→Nat→Nat→List aI
  | 0,l,_,_,_=>l
  | f+1,l,a,m,b=>
    if m - a=1 then uF l a m (bs (fun h=>ng (at_ l h) (at_ l a)) (b - m+1) m b)
    else if b - m=1 then uF l (bs (fun h=> !ng (at_ l m) (at_ l h)) (m - a+1) a m) m b
    else
      let mid:=(a+b) / 2
      let n:=mid+m
      let s:=if m > mid then bs (fun c=> !ng (at_ l (n - 1 - c)) (at_ l c)) (mid - (n - b)+1) (n - b) mid else bs (fun c=> !ng (at_ l (n - 1 - c)) (at_ l c)) (m - a+1) a m
      let l1:=if s < m∧m < n - s then uF l s m (n - s) else l
      let d:=if a < s∧s < mid then pJ f l1 a s mid else l1
      if mid < n - s∧n - s < b then pJ f d mid (n - s) b else d
def mW (l:List aI) (a m b:Int):List aI:=pJ (D0 (b - a)) l (D0 a) (D0 m) (D0 b)
end Go.Proofs.YtbkagebjhbphaaaGreat
