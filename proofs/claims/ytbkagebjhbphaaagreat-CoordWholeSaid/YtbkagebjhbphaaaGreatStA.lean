/-
  Two sorted ranges made one, as a function. Conditions: none beyond each law's own.
-/
import Derived.Test.YtbkagebjhbphaaaGreatSa
namespace Go.Proofs.YtbkagebjhbphaaaGreat
open Int renaming toNat→C6
open List renaming drop→r4,take→r3
set_option linter.unusedVariables false
set_option linter.unusedSimpArgs false
def mM (x y:aH):Bool:=decide (iW x y < 0)
def bs (P:Nat→Bool):Nat→Nat→Nat→Nat
  | 0,i,_=>i
  | f+1,i,j=>if i < j then(if P ((i+j) / 2)=true then bs P f ((i+j) / 2+1) j else bs P f i ((i+j) / 2)) else i
def yY (l:List aH) (a m b:Nat):List aH:=r3 a l++(r4 m (r3 b l)++(r4 a (r3 m l)++r4 b l))
def at_ (l:List aH) (i:Nat):aH:=List.getD l i default
def qo:Nat→List aH→Nat→Nat→Nat→List aH
  | 0,l,_,_,_=>l
  | f+1,l,a,m,b=>
    if m - a=1 then yY l a m (bs (fun h=>mM (at_ l h) (at_ l a)) (b - m+1) m b)
    else if b - m=1 then yY l (bs (fun h=> !mM (at_ l m) (at_ l h)) (m - a+1) a m) m b
    else
      let mid:=(a+b) / 2
      let n:=mid+m
      let s:=if m > mid then bs (fun c=> !mM (at_ l (n - 1 - c)) (at_ l c)) (mid - (n - b)+1) (n - b) mid else bs (fun c=> !mM (at_ l (n - 1 - c)) (at_ l c)) (m - a+1) a m
      let l1:=if s < m∧m < n - s then yY l s m (n - s) else l
      let d:=if a < s∧s < mid then qo f l1 a s mid else l1
      if mid < n - s∧n - s < b then qo f d mid (n - s) b else d
def mH (l:List aH) (a m b:Int):List aH:=qo (C6 (b - a)) l (C6 a) (C6 m) (C6 b)
end Go.Proofs.YtbkagebjhbphaaaGreat
