/-
 coord: rows that hold slices.
-/
import Derived.Test.YtbkagebjhbphaaaGreatCs
namespace Go.Proofs.YtbkagebjhbphaaaGreat
open Go.RowKit
set_option linter.unusedVariables false
set_option linter.unusedSectionVars false
set_option linter.unusedSimpArgs false
theorem uP (d:List ay) (i j:Int) (h:0≤i∧i≤j):jO d i j=List.take (Int.toNat i) d++List.drop (Int.toNat j) d:=by
 unfold jO
 by_cases c:i=j
 · rw [ip c,c,List.take_append_drop]
 · rw [iN c]
theorem uQ (w:World) (D:Nat→Prop) (A:Option Addr) (n c:Nat) (d:List ay) (l:List bL) (i j:Int) (k:Nat) (x:ay) (H:Own w D w [row A n c (List.flatMap ay.cells d) 60 5,sepL (List.flatMap ay.own d)]) (hn:n=l.length) (hd:List.map ay.abs d=l) (hl:l.length≤1000000) (hk:i=((k:Nat):Int)) (hj:j=i+1) (hx:d[k]? =some x):
    Calls Tryz.prog 98 #[.slice A n c,vI i,vI j] w (dS fun v w'=> ∃ B b,v= .slice B (List.length (List.take k l++List.drop (k+1) l)) b∧
      Own w D w' (row B (List.length (List.take k l++List.drop (k+1) l)) b (List.flatMap ay.cells (List.take k d++List.drop (k+1) d)) 60 5::sepL (List.flatMap ay.own (List.take k d++List.drop (k+1) d))::ay.own x)):=by
 obtain⟨a,e,ro,bk,rr⟩:=Fu H
 have hdl:d.length=l.length:=by rw [← hd,List.length_map]
 have hkl:=(List.getElem?_eq_some_iff.1 hx).1
 have f:Int.toNat i=k:=by omega
 have g:Int.toNat j=k+1:=by omega
 refine(mZ w a A n c d i j _ e (by omega) (by omega) (by omega) (uP d i j (by omega))).mono ?_
 rintro _ w' ⟨v,rfl,B,b,rfl,HQ,_⟩
 rw [f,g,az (oM (i:=k) (j:=k+1) hd)] at HQ ⊢
 have h:=(bk _ _ HQ).perm (List.Perm.swap _ _ _)
 have m:=zf hx h
 exact⟨_,rfl,B,b,rfl,m.perm (List.perm_append_comm (l₁:=sepL (List.flatMap ay.own (List.take k d++List.drop (k+1) d))::ay.own x) (l₂:= [_]))⟩
theorem uR (d:List ay) (i:Int) (x:ay) (h:0≤i∧i≤(d.length:Int)):jP d i x=List.take (Int.toNat i) d++(x::List.drop (Int.toNat i) d):=by
 unfold jP
 by_cases c:((Int.toNat i:Nat):Int)=((d.length:Nat):Int)
 · rw [ip c,List.take_of_length_le (by omega),List.drop_eq_nil_of_le (by omega)]
 · rw [iN c]
theorem uS (w:World) (D:Nat→Prop) (A:Option Addr) (n c:Nat) (d:List ay) (l:List bL) (i:Int) (k:Nat) (a:Option Addr) (y:ay) (z:bL) (H:Own w D w (row A n c (List.flatMap ay.cells d) 60 5::pU a 1 (List.flatMap ay.cells [y]) 60 5::sepL (List.flatMap ay.own d)::ay.own y)) (hn:n=l.length) (hd:List.map ay.abs d=l) (hz:ay.abs y=z) (hl:l.length≤1000000) (hk:i=((k:Nat):Int)) (hi:k≤l.length):
    Calls Tryz.prog 130 #[.slice A n c,vI i, .slice a 1 1] w (dS fun v w'=> ∃ B b,v= .slice B (List.length (List.take k l++(z::List.drop k l))) b∧
      Own w D w' [row B (List.length (List.take k l++(z::List.drop k l))) b (List.flatMap ay.cells (List.take k d++(y::List.drop k d))) 60 5,sepL (List.flatMap ay.own (List.take k d++(y::List.drop k d)))]):=by
 obtain⟨e,f,ro,bk,rr⟩:=Fv H
 have hdl:d.length=l.length:=by rw [← hd,List.length_map]
 have g:Int.toNat i=k:=by omega
 refine(ng w e A n c d i a y _ f (by omega) (by omega) (by omega) (uR d i y (by omega))).mono ?_
 rintro _ w' ⟨v,rfl,B,b,rfl,HQ,_⟩
 rw [g,az (qE (i:=k) hd hz)] at HQ ⊢
 have h:=bk _ _ HQ
 have j:Own w D w' (sepL (List.flatMap ay.own d)::(ay.own y++ [row B (List.length (List.take k l++(z::List.drop k l))) b (List.flatMap ay.cells (List.take k d++(y::List.drop k d))) 60 5])):=h.perm (List.perm_append_comm (l₁:= [_]) (l₂:=sepL (List.flatMap ay.own d)::ay.own y))
 exact⟨_,rfl,B,b,rfl,(zg j).perm (List.Perm.swap _ _ _)⟩
theorem yn (d:List bB) (i j:Int) (h:0≤i∧i≤j):kI d i j=List.take (Int.toNat i) d++List.drop (Int.toNat j) d:=by
 unfold kI
 by_cases c:i=j
 · rw [ip c,c,List.take_append_drop]
 · rw [iN c]
theorem uD (w:World) (D:Nat→Prop) (A:Option Addr) (n c:Nat) (d:List bB) (l:List dH) (i j:Int) (k:Nat) (x:bB) (H:Own w D w [row A n c (List.flatMap bB.cells d) 107 9,sepL (List.flatMap bB.own d)]) (hn:n=l.length) (hd:List.map bB.abs d=l) (hl:l.length≤1000000) (hk:i=((k:Nat):Int)) (hj:j=i+1) (hx:d[k]? =some x):
    Calls Tryz.prog 105 #[.slice A n c,vI i,vI j] w (dS fun v w'=> ∃ B b,v= .slice B (List.length (List.take k l++List.drop (k+1) l)) b∧
      Own w D w' (row B (List.length (List.take k l++List.drop (k+1) l)) b (List.flatMap bB.cells (List.take k d++List.drop (k+1) d)) 107 9::sepL (List.flatMap bB.own (List.take k d++List.drop (k+1) d))::bB.own x)):=by
 obtain⟨a,e,ro,bk,rr⟩:=Fu H
 have hdl:d.length=l.length:=by rw [← hd,List.length_map]
 have hkl:=(List.getElem?_eq_some_iff.1 hx).1
 have f:Int.toNat i=k:=by omega
 have g:Int.toNat j=k+1:=by omega
 refine(oG w a A n c d i j _ e (by omega) (by omega) (by omega) (yn d i j (by omega))).mono ?_
 rintro _ w' ⟨v,rfl,B,b,rfl,HQ,_⟩
 rw [f,g,az (oM (i:=k) (j:=k+1) hd)] at HQ ⊢
 have h:=(bk _ _ HQ).perm (List.Perm.swap _ _ _)
 have m:=zf hx h
 exact⟨_,rfl,B,b,rfl,m.perm (List.perm_append_comm (l₁:=sepL (List.flatMap bB.own (List.take k d++List.drop (k+1) d))::bB.own x) (l₂:= [_]))⟩
theorem xD (d:List aV) (i:Int) (x:aV) (h:0≤i∧i≤(d.length:Int)):kT d i x=List.take (Int.toNat i) d++(x::List.drop (Int.toNat i) d):=by
 unfold kT
 by_cases c:((Int.toNat i:Nat):Int)=((d.length:Nat):Int)
 · rw [ip c,List.take_of_length_le (by omega),List.drop_eq_nil_of_le (by omega)]
 · rw [iN c]
theorem xE (w:World) (D:Nat→Prop) (A:Option Addr) (n c:Nat) (d:List aV) (l:List fF) (i:Int) (k:Nat) (a:Option Addr) (y:aV) (z:fF) (H:Own w D w (row A n c (List.flatMap aV.cells d) 56 4::pU a 1 (List.flatMap aV.cells [y]) 56 4::sepL (List.flatMap aV.own d)::aV.own y)) (hn:n=l.length) (hd:List.map aV.abs d=l) (hz:aV.abs y=z) (hl:l.length≤1000000) (hk:i=((k:Nat):Int)) (hi:k≤l.length):
    Calls Tryz.prog 155 #[.slice A n c,vI i, .slice a 1 1] w (dS fun v w'=> ∃ B b,v= .slice B (List.length (List.take k l++(z::List.drop k l))) b∧
      Own w D w' [row B (List.length (List.take k l++(z::List.drop k l))) b (List.flatMap aV.cells (List.take k d++(y::List.drop k d))) 56 4,sepL (List.flatMap aV.own (List.take k d++(y::List.drop k d)))]):=by
 obtain⟨e,f,ro,bk,rr⟩:=Fv H
 have hdl:d.length=l.length:=by rw [← hd,List.length_map]
 have g:Int.toNat i=k:=by omega
 refine(oV w e A n c d i a y _ f (by omega) (by omega) (by omega) (xD d i y (by omega))).mono ?_
 rintro _ w' ⟨v,rfl,B,b,rfl,HQ,_⟩
 rw [g,az (qE (i:=k) hd hz)] at HQ ⊢
 have h:=bk _ _ HQ
 have j:Own w D w' (sepL (List.flatMap aV.own d)::(aV.own y++ [row B (List.length (List.take k l++(z::List.drop k l))) b (List.flatMap aV.cells (List.take k d++(y::List.drop k d))) 56 4])):=h.perm (List.perm_append_comm (l₁:= [_]) (l₂:=sepL (List.flatMap aV.own d)::aV.own y))
 exact⟨_,rfl,B,b,rfl,(zg j).perm (List.Perm.swap _ _ _)⟩
end Go.Proofs.YtbkagebjhbphaaaGreat
