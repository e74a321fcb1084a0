/-
 coord: rows that hold slices.
-/
import Derived.Test.YtbkagebjhbphaaaGreatCs
namespace Go.Proofs.YtbkagebjhbphaaaGreat
open Go.RowKit
set_option linter.unusedVariables false
set_option linter.unusedSectionVars false
set_option linter.unusedSimpArgs false
theorem uR (d:List az) (i j:Int) (h:0≤i∧i≤j):jO d i j=List.take (Int.toNat i) d++List.drop (Int.toNat j) d:=by
 unfold jO
 by_cases c:i=j
 · rw [ip c,c,List.take_append_drop]
 · rw [iN c]
theorem uS (w:World) (D:Nat→Prop) (A:Option Addr) (n c:Nat) (d:List az) (l:List bL) (i j:Int) (k:Nat) (x:az) (H:Own w D w [row A n c (List.flatMap az.cells d) 60 5,sepL (List.flatMap az.own d)]) (hn:n=l.length) (hd:List.map az.abs d=l) (hl:l.length≤1000000) (hk:i=((k:Nat):Int)) (hj:j=i+1) (hx:d[k]? =some x):
    Calls Tryz.prog 98 #[.slice A n c,vI i,vI j] w (dW fun v w'=> ∃ B b,v= .slice B (List.length (List.take k l++List.drop (k+1) l)) b∧
      Own w D w' (row B (List.length (List.take k l++List.drop (k+1) l)) b (List.flatMap az.cells (List.take k d++List.drop (k+1) d)) 60 5::sepL (List.flatMap az.own (List.take k d++List.drop (k+1) d))::az.own x)):=by
 obtain⟨a,e,ro,bk,rr⟩:=Fu H
 have hdl:d.length=l.length:=by rw [← hd,List.length_map]
 have hkl:=(List.getElem?_eq_some_iff.1 hx).1
 have f:Int.toNat i=k:=by omega
 have g:Int.toNat j=k+1:=by omega
 refine(ng w a A n c d i j _ e (by omega) (by omega) (by omega) (uR d i j (by omega))).mono ?_
 rintro _ w' ⟨v,rfl,B,b,rfl,HQ,_⟩
 rw [f,g,aA (oM (i:=k) (j:=k+1) hd)] at HQ ⊢
 have h:=(bk _ _ HQ).perm (List.Perm.swap _ _ _)
 have m:=zg hx h
 exact⟨_,rfl,B,b,rfl,m.perm (List.perm_append_comm (l₁:=sepL (List.flatMap az.own (List.take k d++List.drop (k+1) d))::az.own x) (l₂:= [_]))⟩
theorem uT (d:List az) (i:Int) (x:az) (h:0≤i∧i≤(d.length:Int)):jP d i x=List.take (Int.toNat i) d++(x::List.drop (Int.toNat i) d):=by
 unfold jP
 by_cases c:((Int.toNat i:Nat):Int)=((d.length:Nat):Int)
 · rw [ip c,List.take_of_length_le (by omega),List.drop_eq_nil_of_le (by omega)]
 · rw [iN c]
theorem uU (w:World) (D:Nat→Prop) (A:Option Addr) (n c:Nat) (d:List az) (l:List bL) (i:Int) (k:Nat) (a:Option Addr) (y:az) (z:bL) (H:Own w D w (row A n c (List.flatMap az.cells d) 60 5::pU a 1 (List.flatMap az.cells [y]) 60 5::sepL (List.flatMap az.own d)::az.own y)) (hn:n=l.length) (hd:List.map az.abs d=l) (hz:az.abs y=z) (hl:l.length≤1000000) (hk:i=((k:Nat):Int)) (hi:k≤l.length):
    Calls Tryz.prog 130 #[.slice A n c,vI i, .slice a 1 1] w (dW fun v w'=> ∃ B b,v= .slice B (List.length (List.take k l++(z::List.drop k l))) b∧
      Own w D w' [row B (List.length (List.take k l++(z::List.drop k l))) b (List.flatMap az.cells (List.take k d++(y::List.drop k d))) 60 5,sepL (List.flatMap az.own (List.take k d++(y::List.drop k d)))]):=by
 obtain⟨e,f,ro,bk,rr⟩:=Fv H
 have hdl:d.length=l.length:=by rw [← hd,List.length_map]
 have g:Int.toNat i=k:=by omega
 refine(ni w e A n c d i a y _ f (by omega) (by omega) (by omega) (uT d i y (by omega))).mono ?_
 rintro _ w' ⟨v,rfl,B,b,rfl,HQ,_⟩
 rw [g,aA (qE (i:=k) hd hz)] at HQ ⊢
 have h:=bk _ _ HQ
 have j:Own w D w' (sepL (List.flatMap az.own d)::(az.own y++ [row B (List.length (List.take k l++(z::List.drop k l))) b (List.flatMap az.cells (List.take k d++(y::List.drop k d))) 60 5])):=h.perm (List.perm_append_comm (l₁:= [_]) (l₂:=sepL (List.flatMap az.own d)::az.own y))
 exact⟨_,rfl,B,b,rfl,(zh j).perm (List.Perm.swap _ _ _)⟩
theorem yu (d:List bB) (i j:Int) (h:0≤i∧i≤j):kI d i j=List.take (Int.toNat i) d++List.drop (Int.toNat j) d:=by
 unfold kI
 by_cases c:i=j
 · rw [ip c,c,List.take_append_drop]
 · rw [iN c]
theorem uF (w:World) (D:Nat→Prop) (A:Option Addr) (n c:Nat) (d:List bB) (l:List dM) (i j:Int) (k:Nat) (x:bB) (H:Own w D w [row A n c (List.flatMap bB.cells d) 107 9,sepL (List.flatMap bB.own d)]) (hn:n=l.length) (hd:List.map bB.abs d=l) (hl:l.length≤1000000) (hk:i=((k:Nat):Int)) (hj:j=i+1) (hx:d[k]? =some x):
    Calls Tryz.prog 105 #[.slice A n c,vI i,vI j] w (dW fun v w'=> ∃ B b,v= .slice B (List.length (List.take k l++List.drop (k+1) l)) b∧
      Own w D w' (row B (List.length (List.take k l++List.drop (k+1) l)) b (List.flatMap bB.cells (List.take k d++List.drop (k+1) d)) 107 9::sepL (List.flatMap bB.own (List.take k d++List.drop (k+1) d))::bB.own x)):=by
 obtain⟨a,e,ro,bk,rr⟩:=Fu H
 have hdl:d.length=l.length:=by rw [← hd,List.length_map]
 have hkl:=(List.getElem?_eq_some_iff.1 hx).1
 have f:Int.toNat i=k:=by omega
 have g:Int.toNat j=k+1:=by omega
 refine(oG w a A n c d i j _ e (by omega) (by omega) (by omega) (yu d i j (by omega))).mono ?_
 rintro _ w' ⟨v,rfl,B,b,rfl,HQ,_⟩
 rw [f,g,aA (oM (i:=k) (j:=k+1) hd)] at HQ ⊢
 have h:=(bk _ _ HQ).perm (List.Perm.swap _ _ _)
 have m:=zg hx h
 exact⟨_,rfl,B,b,rfl,m.perm (List.perm_append_comm (l₁:=sepL (List.flatMap bB.own (List.take k d++List.drop (k+1) d))::bB.own x) (l₂:= [_]))⟩
theorem xE (d:List aX) (i:Int) (x:aX) (h:0≤i∧i≤(d.length:Int)):kT d i x=List.take (Int.toNat i) d++(x::List.drop (Int.toNat i) d):=by
 unfold kT
 by_cases c:((Int.toNat i:Nat):Int)=((d.length:Nat):Int)
 · rw [ip c,List.take_of_length_le (by omega),List.drop_eq_nil_of_le (by omega)]
 · rw [iN c]
theorem xG (w:World) (D:Nat→Prop) (A:Option Addr) (n c:Nat) (d:List aX) (l:List fG) (i:Int) (k:Nat) (a:Option Addr) (y:aX) (z:fG) (H:Own w D w (row A n c (List.flatMap aX.cells d) 56 4::pU a 1 (List.flatMap aX.cells [y]) 56 4::sepL (List.flatMap aX.own d)::aX.own y)) (hn:n=l.length) (hd:List.map aX.abs d=l) (hz:aX.abs y=z) (hl:l.length≤1000000) (hk:i=((k:Nat):Int)) (hi:k≤l.length):
    Calls Tryz.prog 155 #[.slice A n c,vI i, .slice a 1 1] w (dW fun v w'=> ∃ B b,v= .slice B (List.length (List.take k l++(z::List.drop k l))) b∧
      Own w D w' [row B (List.length (List.take k l++(z::List.drop k l))) b (List.flatMap aX.cells (List.take k d++(y::List.drop k d))) 56 4,sepL (List.flatMap aX.own (List.take k d++(y::List.drop k d)))]):=by
 obtain⟨e,f,ro,bk,rr⟩:=Fv H
 have hdl:d.length=l.length:=by rw [← hd,List.length_map]
 have g:Int.toNat i=k:=by omega
 refine(oV w e A n c d i a y _ f (by omega) (by omega) (by omega) (xE d i y (by omega))).mono ?_
 rintro _ w' ⟨v,rfl,B,b,rfl,HQ,_⟩
 rw [g,aA (qE (i:=k) hd hz)] at HQ ⊢
 have h:=bk _ _ HQ
 have j:Own w D w' (sepL (List.flatMap aX.own d)::(aX.own y++ [row B (List.length (List.take k l++(z::List.drop k l))) b (List.flatMap aX.cells (List.take k d++(y::List.drop k d))) 56 4])):=h.perm (List.perm_append_comm (l₁:= [_]) (l₂:=sepL (List.flatMap aX.own d)::aX.own y))
 exact⟨_,rfl,B,b,rfl,(zh j).perm (List.Perm.swap _ _ _)⟩
end Go.Proofs.YtbkagebjhbphaaaGreat
