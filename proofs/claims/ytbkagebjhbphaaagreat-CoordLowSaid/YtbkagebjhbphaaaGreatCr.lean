/-
 coord: rows that hold slices.
-/
import Derived.Test.YtbkagebjhbphaaaGreatCs
namespace Go.Proofs.YtbkagebjhbphaaaGreat
open Int renaming toNat→D2
open List renaming Perm→u9,drop→r6,drop_eq_nil_of_le→H1,flatMap→q6,getElem?_eq_some_iff→m7,length→s2,length_map→s6,map→s8,perm_append_comm→v0,take→r5,take_append_drop→t0,take_of_length_le→H0
open _root_.Go.Proofs.Tryz renaming prog→y4
open Go.RowKit
set_option linter.unusedVariables false
set_option linter.unusedSectionVars false
set_option linter.unusedSimpArgs false
theorem uP (d:List ay) (i j:Int) (h:0≤i∧i≤j):jO d i j=r5 (D2 i) d++r6 (D2 j) d:=by
 unfold jO
 by_cases c:i=j
 · rw [ip c,c,t0]
 · rw [iN c]
theorem uQ (w:World) (D:Nat→Prop) (A:Option Addr) (n c:Nat) (d:List ay) (l:List bL) (i j:Int) (k:Nat) (x:ay) (H:Own w D w [row A n c (q6 ay.cells d) 60 5,sepL (q6 ay.own d)]) (hn:n=l.length) (hd:s8 ay.abs d=l) (hl:l.length≤1000000) (hk:i=((k:Nat):Int)) (hj:j=i+1) (hx:d[k]? =some x):
    Calls y4 98 #[.slice A n c,vI i,vI j] w (dS fun v w'=> ∃ B b,v= .slice B (s2 (r5 k l++r6 (k+1) l)) b∧
      Own w D w' (row B (s2 (r5 k l++r6 (k+1) l)) b (q6 ay.cells (r5 k d++r6 (k+1) d)) 60 5::sepL (q6 ay.own (r5 k d++r6 (k+1) d))::ay.own x)):=by
 obtain⟨a,e,ro,bk,rr⟩:=Fu H
 have hdl:d.length=l.length:=by rw [← hd,s6]
 have hkl:=(m7.1 hx).1
 have f:D2 i=k:=by omega
 have g:D2 j=k+1:=by omega
 refine(mZ w a A n c d i j _ e e6 e6 e6 (uP d i j e6)).mono ?_
 rintro _ w' ⟨v,rfl,B,b,rfl,HQ,_⟩
 rw [f,g,az (oM (i:=k) (j:=k+1) hd)] at HQ ⊢
 have h:=(bk _ _ HQ).perm (u9.swap _ _ _)
 have m:=zf hx h
 exact⟨_,rfl,B,b,rfl,m.perm (v0 (l₁:=sepL (q6 ay.own (r5 k d++r6 (k+1) d))::ay.own x) (l₂:= [_]))⟩
theorem uR (d:List ay) (i:Int) (x:ay) (h:0≤i∧i≤(d.length:Int)):jP d i x=r5 (D2 i) d++(x::r6 (D2 i) d):=by
 unfold jP
 by_cases c:((D2 i:Nat):Int)=((d.length:Nat):Int)
 · rw [ip c,H0 e6,H1 e6]
 · rw [iN c]
theorem uS (w:World) (D:Nat→Prop) (A:Option Addr) (n c:Nat) (d:List ay) (l:List bL) (i:Int) (k:Nat) (a:Option Addr) (y:ay) (z:bL) (H:Own w D w (row A n c (q6 ay.cells d) 60 5::pU a 1 (q6 ay.cells [y]) 60 5::sepL (q6 ay.own d)::ay.own y)) (hn:n=l.length) (hd:s8 ay.abs d=l) (hz:ay.abs y=z) (hl:l.length≤1000000) (hk:i=((k:Nat):Int)) (hi:k≤l.length):
    Calls y4 130 #[.slice A n c,vI i, .slice a 1 1] w (dS fun v w'=> ∃ B b,v= .slice B (s2 (r5 k l++(z::r6 k l))) b∧
      Own w D w' [row B (s2 (r5 k l++(z::r6 k l))) b (q6 ay.cells (r5 k d++(y::r6 k d))) 60 5,sepL (q6 ay.own (r5 k d++(y::r6 k d)))]):=by
 obtain⟨e,f,ro,bk,rr⟩:=Fv H
 have hdl:d.length=l.length:=by rw [← hd,s6]
 have g:D2 i=k:=by omega
 refine(ng w e A n c d i a y _ f e6 e6 e6 (uR d i y e6)).mono ?_
 rintro _ w' ⟨v,rfl,B,b,rfl,HQ,_⟩
 rw [g,az (qE (i:=k) hd hz)] at HQ ⊢
 have h:=bk _ _ HQ
 have j:Own w D w' (sepL (q6 ay.own d)::(ay.own y++ [row B (s2 (r5 k l++(z::r6 k l))) b (q6 ay.cells (r5 k d++(y::r6 k d))) 60 5])):=h.perm (v0 (l₁:= [_]) (l₂:=sepL (q6 ay.own d)::ay.own y))
 exact⟨_,rfl,B,b,rfl,(zg j).perm (u9.swap _ _ _)⟩
theorem yn (d:List bB) (i j:Int) (h:0≤i∧i≤j):kI d i j=r5 (D2 i) d++r6 (D2 j) d:=by
 unfold kI
 by_cases c:i=j
 · rw [ip c,c,t0]
 · rw [iN c]
theorem uD (w:World) (D:Nat→Prop) (A:Option Addr) (n c:Nat) (d:List bB) (l:List dH) (i j:Int) (k:Nat) (x:bB) (H:Own w D w [row A n c (q6 bB.cells d) 107 9,sepL (q6 bB.own d)]) (hn:n=l.length) (hd:s8 bB.abs d=l) (hl:l.length≤1000000) (hk:i=((k:Nat):Int)) (hj:j=i+1) (hx:d[k]? =some x):
    Calls y4 105 #[.slice A n c,vI i,vI j] w (dS fun v w'=> ∃ B b,v= .slice B (s2 (r5 k l++r6 (k+1) l)) b∧
      Own w D w' (row B (s2 (r5 k l++r6 (k+1) l)) b (q6 bB.cells (r5 k d++r6 (k+1) d)) 107 9::sepL (q6 bB.own (r5 k d++r6 (k+1) d))::bB.own x)):=by
 obtain⟨a,e,ro,bk,rr⟩:=Fu H
 have hdl:d.length=l.length:=by rw [← hd,s6]
 have hkl:=(m7.1 hx).1
 have f:D2 i=k:=by omega
 have g:D2 j=k+1:=by omega
 refine(oG w a A n c d i j _ e e6 e6 e6 (yn d i j e6)).mono ?_
 rintro _ w' ⟨v,rfl,B,b,rfl,HQ,_⟩
 rw [f,g,az (oM (i:=k) (j:=k+1) hd)] at HQ ⊢
 have h:=(bk _ _ HQ).perm (u9.swap _ _ _)
 have m:=zf hx h
 exact⟨_,rfl,B,b,rfl,m.perm (v0 (l₁:=sepL (q6 bB.own (r5 k d++r6 (k+1) d))::bB.own x) (l₂:= [_]))⟩
theorem xD (d:List aV) (i:Int) (x:aV) (h:0≤i∧i≤(d.length:Int)):kT d i x=r5 (D2 i) d++(x::r6 (D2 i) d):=by
 unfold kT
 by_cases c:((D2 i:Nat):Int)=((d.length:Nat):Int)
 · rw [ip c,H0 e6,H1 e6]
 · rw [iN c]
theorem xE (w:World) (D:Nat→Prop) (A:Option Addr) (n c:Nat) (d:List aV) (l:List fF) (i:Int) (k:Nat) (a:Option Addr) (y:aV) (z:fF) (H:Own w D w (row A n c (q6 aV.cells d) 56 4::pU a 1 (q6 aV.cells [y]) 56 4::sepL (q6 aV.own d)::aV.own y)) (hn:n=l.length) (hd:s8 aV.abs d=l) (hz:aV.abs y=z) (hl:l.length≤1000000) (hk:i=((k:Nat):Int)) (hi:k≤l.length):
    Calls y4 155 #[.slice A n c,vI i, .slice a 1 1] w (dS fun v w'=> ∃ B b,v= .slice B (s2 (r5 k l++(z::r6 k l))) b∧
      Own w D w' [row B (s2 (r5 k l++(z::r6 k l))) b (q6 aV.cells (r5 k d++(y::r6 k d))) 56 4,sepL (q6 aV.own (r5 k d++(y::r6 k d)))]):=by
 obtain⟨e,f,ro,bk,rr⟩:=Fv H
 have hdl:d.length=l.length:=by rw [← hd,s6]
 have g:D2 i=k:=by omega
 refine(oV w e A n c d i a y _ f e6 e6 e6 (xD d i y e6)).mono ?_
 rintro _ w' ⟨v,rfl,B,b,rfl,HQ,_⟩
 rw [g,az (qE (i:=k) hd hz)] at HQ ⊢
 have h:=bk _ _ HQ
 have j:Own w D w' (sepL (q6 aV.own d)::(aV.own y++ [row B (s2 (r5 k l++(z::r6 k l))) b (q6 aV.cells (r5 k d++(y::r6 k d))) 56 4])):=h.perm (v0 (l₁:= [_]) (l₂:=sepL (q6 aV.own d)::aV.own y))
 exact⟨_,rfl,B,b,rfl,(zg j).perm (u9.swap _ _ _)⟩
end Go.Proofs.YtbkagebjhbphaaaGreat
