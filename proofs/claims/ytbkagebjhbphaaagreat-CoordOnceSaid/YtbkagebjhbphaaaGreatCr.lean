/-
 coord: rows that hold slices.
-/
import Derived.Test.YtbkagebjhbphaaaGreatCs
namespace Go.Proofs.YtbkagebjhbphaaaGreat
open Int renaming toNat→D0
open List renaming Perm→u3,drop→r3,drop_eq_nil_of_le→G4,flatMap→q3,getElem?_eq_some_iff→p7,length→r8,length_map→s3,map→s5,perm_append_comm→u4,take→q7,take_append_drop→s7,take_of_length_le→G3
open _root_.Go.Proofs.Tryz renaming prog→v8
open Go.RowKit
set_option linter.unusedVariables false
set_option linter.unusedSectionVars false
set_option linter.unusedSimpArgs false
theorem vZ (d:List aC) (i j:Int) (h:0≤i∧i≤j):kv d i j=q7 (D0 i) d++r3 (D0 j) d:=by
 unfold kv
 by_cases c:i=j
 · rw [ip c,c,s7]
 · rw [iN c]
theorem wh (w D A n c d l i j k) (x:aC) (H:Own w D w [row A n c (q3 aC.cells d) 60 5,sepL (q3 aC.own d)]) (hn:n=l.length) (hd:s5 aC.abs d=l) (hl:l.length≤1000000) (hk:i=((k:Nat):Int)) (hj:j=i+1) (hx:d[k]? =some x):
    Calls v8 98 #[.slice A n c,vI i,vI j] w (d9 fun v w'=> ∃ B b,v= .slice B (r8 (q7 k l++r3 (k+1) l)) b∧
      Own w D w' (row B (r8 (q7 k l++r3 (k+1) l)) b (q3 aC.cells (q7 k d++r3 (k+1) d)) 60 5::sepL (q3 aC.own (q7 k d++r3 (k+1) d))::aC.own x)):=by
 obtain⟨a,e,ro,bk,rr⟩:=II H
 have hdl:d.length=l.length:=by rw [← hd,s3]
 have hkl:=(p7.1 hx).1
 have f:D0 i=k:=by omega
 have g:D0 j=k+1:=by omega
 refine(oH w a A n c d i j _ e e6 e6 e6 (vZ d i j e6)).mono ?_
 rintro _ w' ⟨v,rfl,B,b,rfl,HQ,_⟩
 rw [f,g,aB (qc (i:=k) (j:=k+1) hd)] at HQ ⊢
 have h:=(bk _ _ HQ).perm (u3.swap _ _ _)
 have m:=AJ hx h
 exact⟨_,rfl,B,b,rfl,m.perm (u4 (l₁:=sepL (q3 aC.own (q7 k d++r3 (k+1) d))::aC.own x) (l₂:= [_]))⟩
theorem wm (d:List aC) (i:Int) (x:aC) (h:0≤i∧i≤(d.length:Int)):kw d i x=q7 (D0 i) d++(x::r3 (D0 i) d):=by
 unfold kw
 by_cases c:((D0 i:Nat):Int)=((d.length:Nat):Int)
 · rw [ip c,G3 e6,G4 e6]
 · rw [iN c]
theorem wo (w D A n c d l i k a) (y:aC) (z:bH) (H:Own w D w (row A n c (q3 aC.cells d) 60 5::qV a 1 (q3 aC.cells [y]) 60 5::sepL (q3 aC.own d)::aC.own y)) (hn:n=l.length) (hd:s5 aC.abs d=l) (hz:aC.abs y=z) (hl:l.length≤1000000) (hk:i=((k:Nat):Int)) (hi:k≤l.length):
    Calls v8 130 #[.slice A n c,vI i, .slice a 1 1] w (d9 fun v w'=> ∃ B b,v= .slice B (r8 (q7 k l++(z::r3 k l))) b∧
      Own w D w' [row B (r8 (q7 k l++(z::r3 k l))) b (q3 aC.cells (q7 k d++(y::r3 k d))) 60 5,sepL (q3 aC.own (q7 k d++(y::r3 k d)))]):=by
 obtain⟨e,f,ro,bk,rr⟩:=IJ H
 have hdl:d.length=l.length:=by rw [← hd,s3]
 have g:D0 i=k:=by omega
 refine(oI w e A n c d i a y _ f e6 e6 e6 (wm d i y e6)).mono ?_
 rintro _ w' ⟨v,rfl,B,b,rfl,HQ,_⟩
 rw [g,aB (rO (i:=k) hd hz)] at HQ ⊢
 have h:=bk _ _ HQ
 have j:Own w D w' (sepL (q3 aC.own d)::(aC.own y++ [row B (r8 (q7 k l++(z::r3 k l))) b (q3 aC.cells (q7 k d++(y::r3 k d))) 60 5])):=h.perm (u4 (l₁:= [_]) (l₂:=sepL (q3 aC.own d)::aC.own y))
 exact⟨_,rfl,B,b,rfl,(AL j).perm (u3.swap _ _ _)⟩
theorem zH (d:List bB) (i j:Int) (h:0≤i∧i≤j):lh d i j=q7 (D0 i) d++r3 (D0 j) d:=by
 unfold lh
 by_cases c:i=j
 · rw [ip c,c,s7]
 · rw [iN c]
theorem vH (w D A n c d l i j k) (x:bB) (H:Own w D w [row A n c (q3 bB.cells d) 107 9,sepL (q3 bB.own d)]) (hn:n=l.length) (hd:s5 bB.abs d=l) (hl:l.length≤1000000) (hk:i=((k:Nat):Int)) (hj:j=i+1) (hx:d[k]? =some x):
    Calls v8 105 #[.slice A n c,vI i,vI j] w (d9 fun v w'=> ∃ B b,v= .slice B (r8 (q7 k l++r3 (k+1) l)) b∧
      Own w D w' (row B (r8 (q7 k l++r3 (k+1) l)) b (q3 bB.cells (q7 k d++r3 (k+1) d)) 107 9::sepL (q3 bB.own (q7 k d++r3 (k+1) d))::bB.own x)):=by
 obtain⟨a,e,ro,bk,rr⟩:=II H
 have hdl:d.length=l.length:=by rw [← hd,s3]
 have hkl:=(p7.1 hx).1
 have f:D0 i=k:=by omega
 have g:D0 j=k+1:=by omega
 refine(pV w a A n c d i j _ e e6 e6 e6 (zH d i j e6)).mono ?_
 rintro _ w' ⟨v,rfl,B,b,rfl,HQ,_⟩
 rw [f,g,aB (qc (i:=k) (j:=k+1) hd)] at HQ ⊢
 have h:=(bk _ _ HQ).perm (u3.swap _ _ _)
 have m:=AJ hx h
 exact⟨_,rfl,B,b,rfl,m.perm (u4 (l₁:=sepL (q3 bB.own (q7 k d++r3 (k+1) d))::bB.own x) (l₂:= [_]))⟩
theorem yQ (d:List aU) (i:Int) (x:aU) (h:0≤i∧i≤(d.length:Int)):lJ d i x=q7 (D0 i) d++(x::r3 (D0 i) d):=by
 unfold lJ
 by_cases c:((D0 i:Nat):Int)=((d.length:Nat):Int)
 · rw [ip c,G3 e6,G4 e6]
 · rw [iN c]
theorem yR (w D A n c d l i k a) (y:aU) (z:eD) (H:Own w D w (row A n c (q3 aU.cells d) 56 4::qV a 1 (q3 aU.cells [y]) 56 4::sepL (q3 aU.own d)::aU.own y)) (hn:n=l.length) (hd:s5 aU.abs d=l) (hz:aU.abs y=z) (hl:l.length≤1000000) (hk:i=((k:Nat):Int)) (hi:k≤l.length):
    Calls v8 155 #[.slice A n c,vI i, .slice a 1 1] w (d9 fun v w'=> ∃ B b,v= .slice B (r8 (q7 k l++(z::r3 k l))) b∧
      Own w D w' [row B (r8 (q7 k l++(z::r3 k l))) b (q3 aU.cells (q7 k d++(y::r3 k d))) 56 4,sepL (q3 aU.own (q7 k d++(y::r3 k d)))]):=by
 obtain⟨e,f,ro,bk,rr⟩:=IJ H
 have hdl:d.length=l.length:=by rw [← hd,s3]
 have g:D0 i=k:=by omega
 refine(qj w e A n c d i a y _ f e6 e6 e6 (yQ d i y e6)).mono ?_
 rintro _ w' ⟨v,rfl,B,b,rfl,HQ,_⟩
 rw [g,aB (rO (i:=k) hd hz)] at HQ ⊢
 have h:=bk _ _ HQ
 have j:Own w D w' (sepL (q3 aU.own d)::(aU.own y++ [row B (r8 (q7 k l++(z::r3 k l))) b (q3 aU.cells (q7 k d++(y::r3 k d))) 56 4])):=h.perm (u4 (l₁:= [_]) (l₂:=sepL (q3 aU.own d)::aU.own y))
 exact⟨_,rfl,B,b,rfl,(AL j).perm (u3.swap _ _ _)⟩
end Go.Proofs.YtbkagebjhbphaaaGreat
