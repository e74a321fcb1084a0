/-
 coord: rows that hold slices.
-/
import Derived.Test.YtbkagebjhbphaaaGreatCs
namespace Go.Proofs.YtbkagebjhbphaaaGreat
open Int renaming toNat→C6
open List renaming Perm→G0,drop→r4,drop_eq_nil_of_le→G2,flatMap→q4,getElem?_eq_some_iff→p6,length→s0,length_map→s3,map→s5,perm_append_comm→v0,take→r3,take_append_drop→s7,take_of_length_le→G1
open _root_.Go.Proofs.Tryz renaming prog→v5
open Go.RowKit
set_option linter.unusedVariables false
set_option linter.unusedSectionVars false
set_option linter.unusedSimpArgs false
theorem vK (d:List ay) (i j:Int) (h:0≤i∧i≤j):jO d i j=r3 (C6 i) d++r4 (C6 j) d:=by
 unfold jO
 by_cases c:i=j
 · rw [ip c,c,s7]
 · rw [iN c]
theorem vL (w D A n c d l i j k) (x:ay) (H:Own w D w [row A n c (q4 ay.cells d) 60 5,sepL (q4 ay.own d)]) (hn:n=l.length) (hd:s5 ay.abs d=l) (hl:l.length≤1000000) (hk:i=((k:Nat):Int)) (hj:j=i+1) (hx:d[k]? =some x):
    Calls v5 98 #[.slice A n c,vI i,vI j] w (dA fun v w'=> ∃ B b,v= .slice B (s0 (r3 k l++r4 (k+1) l)) b∧
      Own w D w' (row B (s0 (r3 k l++r4 (k+1) l)) b (q4 ay.cells (r3 k d++r4 (k+1) d)) 60 5::sepL (q4 ay.own (r3 k d++r4 (k+1) d))::ay.own x)):=by
 obtain⟨a,e,ro,bk,rr⟩:=IZ H
 have hdl:d.length=l.length:=by rw [← hd,s3]
 have hkl:=(p6.1 hx).1
 have f:C6 i=k:=by omega
 have g:C6 j=k+1:=by omega
 refine(nN w a A n c d i j _ e e6 e6 e6 (vK d i j e6)).mono ?_
 rintro _ w' ⟨v,rfl,B,b,rfl,HQ,_⟩
 rw [f,g,aA (pK (i:=k) (j:=k+1) hd)] at HQ ⊢
 have h:=(bk _ _ HQ).perm (G0.swap _ _ _)
 have m:=Ai hx h
 exact⟨_,rfl,B,b,rfl,m.perm (v0 (l₁:=sepL (q4 ay.own (r3 k d++r4 (k+1) d))::ay.own x) (l₂:= [_]))⟩
theorem vM (d:List ay) (i:Int) (x:ay) (h:0≤i∧i≤(d.length:Int)):jP d i x=r3 (C6 i) d++(x::r4 (C6 i) d):=by
 unfold jP
 by_cases c:((C6 i:Nat):Int)=((d.length:Nat):Int)
 · rw [ip c,G1 e6,G2 e6]
 · rw [iN c]
theorem vN (w D A n c d l i k a) (y:ay) (z:bH) (H:Own w D w (row A n c (q4 ay.cells d) 60 5::qC a 1 (q4 ay.cells [y]) 60 5::sepL (q4 ay.own d)::ay.own y)) (hn:n=l.length) (hd:s5 ay.abs d=l) (hz:ay.abs y=z) (hl:l.length≤1000000) (hk:i=((k:Nat):Int)) (hi:k≤l.length):
    Calls v5 130 #[.slice A n c,vI i, .slice a 1 1] w (dA fun v w'=> ∃ B b,v= .slice B (s0 (r3 k l++(z::r4 k l))) b∧
      Own w D w' [row B (s0 (r3 k l++(z::r4 k l))) b (q4 ay.cells (r3 k d++(y::r4 k d))) 60 5,sepL (q4 ay.own (r3 k d++(y::r4 k d)))]):=by
 obtain⟨e,f,ro,bk,rr⟩:=IV H
 have hdl:d.length=l.length:=by rw [← hd,s3]
 have g:C6 i=k:=by omega
 refine(nO w e A n c d i a y _ f e6 e6 e6 (vM d i y e6)).mono ?_
 rintro _ w' ⟨v,rfl,B,b,rfl,HQ,_⟩
 rw [g,aA (qZ (i:=k) hd hz)] at HQ ⊢
 have h:=bk _ _ HQ
 have j:Own w D w' (sepL (q4 ay.own d)::(ay.own y++ [row B (s0 (r3 k l++(z::r4 k l))) b (q4 ay.cells (r3 k d++(y::r4 k d))) 60 5])):=h.perm (v0 (l₁:= [_]) (l₂:=sepL (q4 ay.own d)::ay.own y))
 exact⟨_,rfl,B,b,rfl,(Aj j).perm (G0.swap _ _ _)⟩
theorem zo (d:List bK) (i j:Int) (h:0≤i∧i≤j):kN d i j=r3 (C6 i) d++r4 (C6 j) d:=by
 unfold kN
 by_cases c:i=j
 · rw [ip c,c,s7]
 · rw [iN c]
theorem vw (w D A n c d l i j k) (x:bK) (H:Own w D w [row A n c (q4 bK.cells d) 107 9,sepL (q4 bK.own d)]) (hn:n=l.length) (hd:s5 bK.abs d=l) (hl:l.length≤1000000) (hk:i=((k:Nat):Int)) (hj:j=i+1) (hx:d[k]? =some x):
    Calls v5 105 #[.slice A n c,vI i,vI j] w (dA fun v w'=> ∃ B b,v= .slice B (s0 (r3 k l++r4 (k+1) l)) b∧
      Own w D w' (row B (s0 (r3 k l++r4 (k+1) l)) b (q4 bK.cells (r3 k d++r4 (k+1) d)) 107 9::sepL (q4 bK.own (r3 k d++r4 (k+1) d))::bK.own x)):=by
 obtain⟨a,e,ro,bk,rr⟩:=IZ H
 have hdl:d.length=l.length:=by rw [← hd,s3]
 have hkl:=(p6.1 hx).1
 have f:C6 i=k:=by omega
 have g:C6 j=k+1:=by omega
 refine(pu w a A n c d i j _ e e6 e6 e6 (zo d i j e6)).mono ?_
 rintro _ w' ⟨v,rfl,B,b,rfl,HQ,_⟩
 rw [f,g,aA (pK (i:=k) (j:=k+1) hd)] at HQ ⊢
 have h:=(bk _ _ HQ).perm (G0.swap _ _ _)
 have m:=Ai hx h
 exact⟨_,rfl,B,b,rfl,m.perm (v0 (l₁:=sepL (q4 bK.own (r3 k d++r4 (k+1) d))::bK.own x) (l₂:= [_]))⟩
theorem yC (d:List aS) (i:Int) (x:aS) (h:0≤i∧i≤(d.length:Int)):kZ d i x=r3 (C6 i) d++(x::r4 (C6 i) d):=by
 unfold kZ
 by_cases c:((C6 i:Nat):Int)=((d.length:Nat):Int)
 · rw [ip c,G1 e6,G2 e6]
 · rw [iN c]
theorem yD (w D A n c d l i k a) (y:aS) (z:fF) (H:Own w D w (row A n c (q4 aS.cells d) 56 4::qC a 1 (q4 aS.cells [y]) 56 4::sepL (q4 aS.own d)::aS.own y)) (hn:n=l.length) (hd:s5 aS.abs d=l) (hz:aS.abs y=z) (hl:l.length≤1000000) (hk:i=((k:Nat):Int)) (hi:k≤l.length):
    Calls v5 155 #[.slice A n c,vI i, .slice a 1 1] w (dA fun v w'=> ∃ B b,v= .slice B (s0 (r3 k l++(z::r4 k l))) b∧
      Own w D w' [row B (s0 (r3 k l++(z::r4 k l))) b (q4 aS.cells (r3 k d++(y::r4 k d))) 56 4,sepL (q4 aS.own (r3 k d++(y::r4 k d)))]):=by
 obtain⟨e,f,ro,bk,rr⟩:=IV H
 have hdl:d.length=l.length:=by rw [← hd,s3]
 have g:C6 i=k:=by omega
 refine(pR w e A n c d i a y _ f e6 e6 e6 (yC d i y e6)).mono ?_
 rintro _ w' ⟨v,rfl,B,b,rfl,HQ,_⟩
 rw [g,aA (qZ (i:=k) hd hz)] at HQ ⊢
 have h:=bk _ _ HQ
 have j:Own w D w' (sepL (q4 aS.own d)::(aS.own y++ [row B (s0 (r3 k l++(z::r4 k l))) b (q4 aS.cells (r3 k d++(y::r4 k d))) 56 4])):=h.perm (v0 (l₁:= [_]) (l₂:=sepL (q4 aS.own d)::aS.own y))
 exact⟨_,rfl,B,b,rfl,(Aj j).perm (G0.swap _ _ _)⟩
end Go.Proofs.YtbkagebjhbphaaaGreat
