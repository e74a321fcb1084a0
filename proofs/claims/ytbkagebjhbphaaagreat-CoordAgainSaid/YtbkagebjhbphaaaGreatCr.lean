/-
 coord: rows that hold slices.
-/
import Derived.Test.YtbkagebjhbphaaaGreatCs
namespace Go.Proofs.YtbkagebjhbphaaaGreat
open Int renaming toNat→D2
open List renaming Perm→u9,drop→r6,drop_eq_nil_of_le→H0,flatMap→q6,getElem?_eq_some_iff→m7,length→s2,length_map→s6,map→s8,perm_append_comm→v0,take→r5,take_append_drop→t0,take_of_length_le→G4
open _root_.Go.Proofs.Tryz renaming prog→y4
open Go.RowKit
set_option linter.unusedVariables false
set_option linter.unusedSectionVars false
set_option linter.unusedSimpArgs false
theorem vz (d:List aA) (i j:Int) (h:0≤i∧i≤j):jS d i j=r5 (D2 i) d++r6 (D2 j) d:=by
 unfold jS
 by_cases c:i=j
 · rw [ip c,c,t0]
 · rw [iN c]
theorem vB (w D A n c d l i j k) (x:aA) (H:Own w D w [row A n c (q6 aA.cells d) 60 5,sepL (q6 aA.own d)]) (hn:n=l.length) (hd:s8 aA.abs d=l) (hl:l.length≤1000000) (hk:i=((k:Nat):Int)) (hj:j=i+1) (hx:d[k]? =some x):
    Calls y4 98 #[.slice A n c,vI i,vI j] w (dR fun v w'=> ∃ B b,v= .slice B (s2 (r5 k l++r6 (k+1) l)) b∧
      Own w D w' (row B (s2 (r5 k l++r6 (k+1) l)) b (q6 aA.cells (r5 k d++r6 (k+1) d)) 60 5::sepL (q6 aA.own (r5 k d++r6 (k+1) d))::aA.own x)):=by
 obtain⟨a,e,ro,bk,rr⟩:=Gq H
 have hdl:d.length=l.length:=by rw [← hd,s6]
 have hkl:=(m7.1 hx).1
 have f:D2 i=k:=by omega
 have g:D2 j=k+1:=by omega
 refine(nI w a A n c d i j _ e e6 e6 e6 (vz d i j e6)).mono ?_
 rintro _ w' ⟨v,rfl,B,b,rfl,HQ,_⟩
 rw [f,g,az (o6 (i:=k) (j:=k+1) hd)] at HQ ⊢
 have h:=(bk _ _ HQ).perm (u9.swap _ _ _)
 have m:=zO hx h
 exact⟨_,rfl,B,b,rfl,m.perm (v0 (l₁:=sepL (q6 aA.own (r5 k d++r6 (k+1) d))::aA.own x) (l₂:= [_]))⟩
theorem vC (d:List aA) (i:Int) (x:aA) (h:0≤i∧i≤(d.length:Int)):jU d i x=r5 (D2 i) d++(x::r6 (D2 i) d):=by
 unfold jU
 by_cases c:((D2 i:Nat):Int)=((d.length:Nat):Int)
 · rw [ip c,G4 e6,H0 e6]
 · rw [iN c]
theorem vD (w D A n c d l i k a) (y:aA) (z:bJ) (H:Own w D w (row A n c (q6 aA.cells d) 60 5::qx a 1 (q6 aA.cells [y]) 60 5::sepL (q6 aA.own d)::aA.own y)) (hn:n=l.length) (hd:s8 aA.abs d=l) (hz:aA.abs y=z) (hl:l.length≤1000000) (hk:i=((k:Nat):Int)) (hi:k≤l.length):
    Calls y4 130 #[.slice A n c,vI i, .slice a 1 1] w (dR fun v w'=> ∃ B b,v= .slice B (s2 (r5 k l++(z::r6 k l))) b∧
      Own w D w' [row B (s2 (r5 k l++(z::r6 k l))) b (q6 aA.cells (r5 k d++(y::r6 k d))) 60 5,sepL (q6 aA.own (r5 k d++(y::r6 k d)))]):=by
 obtain⟨e,f,ro,bk,rr⟩:=Gp H
 have hdl:d.length=l.length:=by rw [← hd,s6]
 have g:D2 i=k:=by omega
 refine(nJ w e A n c d i a y _ f e6 e6 e6 (vC d i y e6)).mono ?_
 rintro _ w' ⟨v,rfl,B,b,rfl,HQ,_⟩
 rw [g,az (qV (i:=k) hd hz)] at HQ ⊢
 have h:=bk _ _ HQ
 have j:Own w D w' (sepL (q6 aA.own d)::(aA.own y++ [row B (s2 (r5 k l++(z::r6 k l))) b (q6 aA.cells (r5 k d++(y::r6 k d))) 60 5])):=h.perm (v0 (l₁:= [_]) (l₂:=sepL (q6 aA.own d)::aA.own y))
 exact⟨_,rfl,B,b,rfl,(zP j).perm (u9.swap _ _ _)⟩
theorem yV (d:List bz) (i j:Int) (h:0≤i∧i≤j):kN d i j=r5 (D2 i) d++r6 (D2 j) d:=by
 unfold kN
 by_cases c:i=j
 · rw [ip c,c,t0]
 · rw [iN c]
theorem uS (w D A n c d l i j k) (x:bz) (H:Own w D w [row A n c (q6 bz.cells d) 107 9,sepL (q6 bz.own d)]) (hn:n=l.length) (hd:s8 bz.abs d=l) (hl:l.length≤1000000) (hk:i=((k:Nat):Int)) (hj:j=i+1) (hx:d[k]? =some x):
    Calls y4 105 #[.slice A n c,vI i,vI j] w (dR fun v w'=> ∃ B b,v= .slice B (s2 (r5 k l++r6 (k+1) l)) b∧
      Own w D w' (row B (s2 (r5 k l++r6 (k+1) l)) b (q6 bz.cells (r5 k d++r6 (k+1) d)) 107 9::sepL (q6 bz.own (r5 k d++r6 (k+1) d))::bz.own x)):=by
 obtain⟨a,e,ro,bk,rr⟩:=Gq H
 have hdl:d.length=l.length:=by rw [← hd,s6]
 have hkl:=(m7.1 hx).1
 have f:D2 i=k:=by omega
 have g:D2 j=k+1:=by omega
 refine(oU w a A n c d i j _ e e6 e6 e6 (yV d i j e6)).mono ?_
 rintro _ w' ⟨v,rfl,B,b,rfl,HQ,_⟩
 rw [f,g,az (o6 (i:=k) (j:=k+1) hd)] at HQ ⊢
 have h:=(bk _ _ HQ).perm (u9.swap _ _ _)
 have m:=zO hx h
 exact⟨_,rfl,B,b,rfl,m.perm (v0 (l₁:=sepL (q6 bz.own (r5 k d++r6 (k+1) d))::bz.own x) (l₂:= [_]))⟩
theorem yj (d:List aT) (i:Int) (x:aT) (h:0≤i∧i≤(d.length:Int)):kZ d i x=r5 (D2 i) d++(x::r6 (D2 i) d):=by
 unfold kZ
 by_cases c:((D2 i:Nat):Int)=((d.length:Nat):Int)
 · rw [ip c,G4 e6,H0 e6]
 · rw [iN c]
theorem yl (w D A n c d l i k a) (y:aT) (z:fE) (H:Own w D w (row A n c (q6 aT.cells d) 56 4::qx a 1 (q6 aT.cells [y]) 56 4::sepL (q6 aT.own d)::aT.own y)) (hn:n=l.length) (hd:s8 aT.abs d=l) (hz:aT.abs y=z) (hl:l.length≤1000000) (hk:i=((k:Nat):Int)) (hi:k≤l.length):
    Calls y4 155 #[.slice A n c,vI i, .slice a 1 1] w (dR fun v w'=> ∃ B b,v= .slice B (s2 (r5 k l++(z::r6 k l))) b∧
      Own w D w' [row B (s2 (r5 k l++(z::r6 k l))) b (q6 aT.cells (r5 k d++(y::r6 k d))) 56 4,sepL (q6 aT.own (r5 k d++(y::r6 k d)))]):=by
 obtain⟨e,f,ro,bk,rr⟩:=Gp H
 have hdl:d.length=l.length:=by rw [← hd,s6]
 have g:D2 i=k:=by omega
 refine(pE w e A n c d i a y _ f e6 e6 e6 (yj d i y e6)).mono ?_
 rintro _ w' ⟨v,rfl,B,b,rfl,HQ,_⟩
 rw [g,az (qV (i:=k) hd hz)] at HQ ⊢
 have h:=bk _ _ HQ
 have j:Own w D w' (sepL (q6 aT.own d)::(aT.own y++ [row B (s2 (r5 k l++(z::r6 k l))) b (q6 aT.cells (r5 k d++(y::r6 k d))) 56 4])):=h.perm (v0 (l₁:= [_]) (l₂:=sepL (q6 aT.own d)::aT.own y))
 exact⟨_,rfl,B,b,rfl,(zP j).perm (u9.swap _ _ _)⟩
end Go.Proofs.YtbkagebjhbphaaaGreat
