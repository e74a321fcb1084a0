/-
 owner: what was told of an operation gathered.
-/
import Derived.Test.YtbkagebjhbphaaaGreatSc
namespace Go.Proofs.YtbkagebjhbphaaaGreat
set_option maxRecDepth 100000
set_option linter.unusedVariables false
set_option linter.unusedSimpArgs false
theorem Ah:∀ (a b:List UInt8),Lib.compareBytes a b < 0↔a < b
  | [], []=>by simp [Lib.compareBytes]
  | [],_::_=>by simp [Lib.compareBytes]
  | _::_, []=>by simp [Lib.compareBytes]
  | x::a,y::b=>by
    unfold Lib.compareBytes
    rw [List.cons_lt_cons_iff]
    by_cases d:x < y
    · simp [d]
    · by_cases c:y < x
      · have:x≠y:=by intro e; rw [e] at c; exact absurd c i8
        simp [d,c,this]
      · have e:x=y:=by
          apply UInt8.le_antisymm
          · exact UInt8.not_lt.1 c
          · exact UInt8.not_lt.1 d
        subst e
        simp [Ah a b]
theorem vO {x y:aJ}:l8 x y=true↔x.bY < y.bY:=by
  rw [← uk, ← Ah]; exact Iff.rfl
theorem yC {x y:aJ}:l8 x y=false↔y.bY≤x.bY:=by
  rw [← Bool.not_eq_true,vO]; exact List.not_lt
theorem Ey:wW l8 where
  Ca x:=yC.2 (List.le_refl _)
  tr x y z a b:=vO.2 (List.lt_trans (vO.1 a) (vO.1 b))
  nt x y z a b:=yC.2 (List.le_trans (yC.1 b) (yC.1 a))
theorem zi {P R:List aJ} {i:Nat} (h:i < P.length):at_ (P++R) i=at_ P i:=by
  unfold at_; rw [List.getD_eq_getElem?_getD,List.getD_eq_getElem?_getD,List.getElem?_append_left h]
theorem Ez {P R:List aJ} {i:Nat} (h:P.length≤i):at_ (P++R) i=at_ R (i - P.length):=by
  unfold at_; rw [List.getD_eq_getElem?_getD,List.getD_eq_getElem?_getD,List.getElem?_append_right h]
theorem DK {Z:List aJ} (h:Eo l8 Z) {i j:Nat} (b:i≤j) (a:j < Z.length):l8 (at_ Z j) (at_ Z i)=false:=by
  unfold at_
  rw [List.getD_eq_getElem?_getD,List.getD_eq_getElem?_getD,List.getElem?_eq_getElem a,List.getElem?_eq_getElem e6]
  by_cases e:i=j
  · subst e; exact Ey.Ca _
  · exact List.pairwise_iff_getElem.1 h i j e6 a e6
theorem BA {P Z Q:List aJ} {i:Nat} (a:P.length≤i) (b:i < P.length+Z.length):at_ (P++(Z++Q)) i=at_ Z (i - P.length):=by
  rw [Ez a,zi e6]
end Go.Proofs.YtbkagebjhbphaaaGreat
namespace Go.Proofs.YtbkagebjhbphaaaGreat
set_option linter.unusedVariables false
set_option linter.unusedSimpArgs false
def Bs (B k:Nat) (l:List aJ):Prop:=∀ i j,i≤j→j < k→i / B=j / B→l8 (at_ l j) (at_ l i)=false
theorem BB {i a B:Nat} (hB:1≤B) (h:i < a *B):i / B < a:=Nat.div_lt_of_lt_mul (by rw [Nat.mul_comm]; exact h)
theorem BC {i a B:Nat} (hB:1≤B) (h:a *B≤i):a≤i / B:=(Nat.le_div_iff_mul_le e6).2 h
theorem Bs.step {B a k:Nat} {P Z Q:List aJ} (hB:1≤B) (hP:P.length=a *B) (hZ:Z.length≤B) (hk:k≤P.length+Z.length) (h:Bs B P.length P) (hs:Eo l8 Z):Bs B k (P++(Z++Q)):=fun i j b e d=>by
  by_cases c:j < P.length
  · rw [zi c,zi e6]; exact h i j b c d
  · have hj:=BC (i:=j) (a:=a) hB e6
    have hi:P.length≤i:=by
      apply Classical.byContradiction
      intro q
      have:=BB (i:=i) (a:=a) hB e6
      omega
    rw [BA hi e6,BA e6 e6]
    exact DK hs e6 e6
theorem IL {B k:Nat} {P R:List aJ} (h:Bs B k (P++R)) (hk:P.length≤k):Bs B P.length P:=fun i j a b c=>by
  have:=h i j a e6 c
  rw [zi b,zi e6] at this
  exact this
end Go.Proofs.YtbkagebjhbphaaaGreat
namespace Go.Proofs.YtbkagebjhbphaaaGreat
open List renaming flatMap→q6,length→s2,map→s8,mem_of_getElem?→E0
open Sum renaming inl→C1,inr→C3
open Go.RowKit
set_option linter.unusedVariables false
set_option linter.unusedSectionVars false
set_option linter.unusedSimpArgs false
def gD (l0:List bC) (b:Nat):List Int→Unit ⊕ Int
  | []=>C1 ()
  | a::c=>if a < 0 then C3 (1) else if a ≥ ((l0.length:Nat):Int) then C3 (1) else gD l0 b c
def fM (l0:List bC) (e:List (Ll aX)):List fV→Nat→Unit ⊕ Int
  | [],a=>C1 ()
  | b::d,a=>if((b.aD.ls.length:Nat):Int)=((b.aP.ls.length:Nat):Int) then bnd (List.getD e a default) fun c=>if((b.aD.ls.length:Nat):Int)=((c.ls.length:Nat):Int) then qQ (gD l0 a b.aP.ls) fun _=>fM l0 e d (a+1) else C3 (1) else C3 (1)
def j4 (l0:List bC) (l1:List fV) (a:List (Ll aX)):Int:=
 if((a.length:Nat):Int)=((l1.length:Nat):Int) then lp (fM l0 a l1 0) fun _=>0 else 1
theorem uH (w:World) (D:Nat→Prop) (N:Option Addr) (n0 P:Nat) (l0:List bC) (L:Option Addr) (n1 S:Nat) (d1:List bG) (l1:List fV) (I:Option Addr) (n2 Q:Nat) (d2:List bM) (l:List (Ll aX)) (r0:Int) (H:Own w D w []) (bn:Ro w D fun w'=>bD w' 6 N n0 (q6 bC.cells l0)) (ay:n0=l0.length) (bq:l0.length *80≤211106232532992) (T:s8 bG.abs d1=l1) (O:Ro w D fun w'=>bD w' 3 L n1 (q6 bG.cells d1)) (y:∀ x ∈ d1,Ro w D (fun w'=>bD w' 6 x.aD.A x.aD.ls.length (q6 bC.cells x.aD.ls))∧(x.aD.ls.length≤x.aD.c∧x.aD.ls.length≤9223372036854775807)∧Ro w D (fun w'=>bD w' 1 x.aP.A x.aP.ls.length (q6 (eI .i64) x.aP.ls))∧(x.aP.ls.length≤x.aP.c∧x.aP.ls.length≤9223372036854775807)) (aA:n1=l1.length) (bu:l1.length *56≤211106232532992) (U:s8 bM.abs d2=l) (V:Ro w D fun w'=>bD w' 1 I n2 (q6 (FJ (β:=af)) d2)) (aB:∀ x ∈ d2,Ro w D (fun w'=>bD w' 3 x.A x.ls.length (q6 af.cells x.ls))∧(x.ls.length≤x.c∧x.ls.length≤9223372036854775807)∧(∀ R ∈ x.ls,Ro w D (fun w'=>bD w' 2 R.au.A R.au.ls.length (q6 aJ.cells R.au.ls))∧(R.au.ls.length≤R.au.c∧R.au.ls.length≤9223372036854775807))) (aC:n2=l.length) (bv:l.length *24≤211106232532992) (hr:j4 l0 l1 l=r0):
    Calls Tryz.prog 148 #[.slice N n0 P, .slice L n1 S, .slice I n2 Q] w (dS fun v w'=>v=vI r0∧Own w D w' []):=by
 subst ay aA aC
 have aU:=az T
 have aV:=az U
 refine cb Tryz.func148 ?_
 refine sr (An rfl (EP (sr (Mz rfl (Kz (vJ l.length) (Mz rfl (Kz (vJ l1.length) (fw (.bool (decide (¬ (((l.length:Nat):Int)=((l1.length:Nat):Int))))) (Fs (e:= !(decide (((l.length:Nat):Int)=((l1.length:Nat):Int)))) yk decide_not.symm) (nt ?_)))))))))
 by_cases n:((l.length:Nat):Int)=((l1.length:Nat):Int)
 refine jF (dF (IV n)) (sk (EP (sr (Mz rfl (Kz (vJ l1.length) (Mn rfl (bo ?_)))))))
 have aD:=H.pk []
 obtain⟨aF,z⟩:=lK fun(b:Nat) (w':World)=>Own w D w' []∧b≤l1.length∧fM l0 l l1 0=fM l0 l (List.drop b l1) b
 refine Wp.loop (fun i:Nat=> [(6,vI 0),(18,vJ i),(17,vJ l1.length),(16, .slice L l1.length S),(0, .slice N l0.length P),(2, .slice I l.length Q)]) aF (fun i=>l1.length - i) 0 ⟨rfl,rfl,rfl,rfl,rfl,rfl,trivial⟩ (z.2 ⟨aD,e6,rfl⟩) ?_
 rintro b bz W
 obtain⟨B,aW,m⟩:=z.1 W
 refine sr (Kz (.bool (decide (((b:Nat):Int) < ((l1.length:Nat):Int)))) (nt (EP ?_)))
 by_cases X:((b:Nat):Int) < ((l1.length:Nat):Int)
 obtain⟨a,h⟩:=dG (ls:=d1) (i:=b) bG.len f3 (B.ro O) e9
 have Y:=eP T h
 have aY:=(y _ (E0 h)).2.1
 have aZ:=(y _ (E0 h)).2.2.2
 have o:=drop_at Y
 refine jT (dT X) (sk (EP (bo (sr (Mz rfl (fw (.pointer (some ⟨ab L,ao L+b *3,none⟩)) (ET (sI) rfl rfl ((B.ro O).addr (i:=b) e6) e6) (fw (.agg (bG.cells a).toArray) (EY rfl (Fb (cs:=(bG.cells a)) Tryz.isAgg172 Tryz.sizeOf172 ((B.ro O).elem bG.len h f3))) ?_)))))))
 refine dK [vI 0, .slice none 0 0, .slice none 0 0] 172 B ?_
 intro C bA aG
 refine Az rfl ?_
 refine dN (bG.cells a) 0 aG Tryz.sizeOf172 ?_
 intro bB aH
 refine nt (EP (EP ?_))
 refine uC [] (E9 (E9 (bP.block (E9 (E9 (bP.block (E9 Fp))))))) aH ?_
 intro bE J
 refine qp C 1 0 rfl (ql 1 rfl 0 Tryz.isAgg39 rfl rfl rfl (qk (vJ a.aD.ls.length) 2 rfl (qp C 2 3 rfl (ql 4 rfl 0 Tryz.isAgg58 rfl rfl rfl (qk (vJ a.aP.ls.length) 5 rfl (qt (v:= .bool (decide (¬ (((a.aD.ls.length:Nat):Int)=((a.aP.ls.length:Nat):Int))))) 6 rfl (fun _ _=>Fs (e:= !(decide (((a.aD.ls.length:Nat):Int)=((a.aP.ls.length:Nat):Int)))) yk decide_not.symm) (qv 7 rfl rfl ?_)))))))
 by_cases d:((a.aD.ls.length:Nat):Int)=((a.aP.ls.length:Nat):Int)
 refine EZ (v:=vP C 1) (rs:= []) 8 rfl rfl rfl (dF (IV d)) e7 (fun _ _=>yk) (EZ (v:= .slice a.aD.A a.aD.ls.length a.aD.c) (rs:= []) 9 rfl rfl rfl (dF (IV d)) e7 (fun _ ⟨_,Z⟩=>EY rfl (bZ.one Tryz.isAgg39 (FE (Z.cls (i:=0) rfl) rfl))) (EZ (v:=vJ a.aD.ls.length) (rs:= []) 10 rfl rfl rfl (dF (IV d)) e7 (fun _ _=>yk) (EZ (v:= .slice I l.length Q) (rs:= []) 11 rfl rfl rfl (dF (IV d)) e7 (fun _ _=>E5 rfl) (EZ (v:=vJ b) (rs:= []) 12 rfl rfl rfl (dF (IV d)) e7 (fun _ _=>E5 rfl) ?_))))
 obtain⟨j,E⟩:=ji (ls:=d2) (i:=b) e9
 have s:=eP U E
 have bf:=(aB _ (E0 E)).2.1
 have bg:s2 (s8 af.abs j.ls)=j.ls.length:=List.length_map ..
 refine EZ (v:= .pointer (some ⟨ab I,ao I+b *1,none⟩)) (rs:= []) 13 rfl rfl rfl (dF (IV d)) e7 (fun _ ⟨_,Z⟩=>ET (vM) rfl rfl ((Z.ro V).addr (i:=b) e6) e6) (EZ (v:= .slice j.A j.ls.length j.c) (rs:= []) 14 rfl rfl rfl (dF (IV d)) e7 (fun _ ⟨_,Z⟩=>EY rfl (bZ.one Tryz.isAgg40 (((Z.ro V).elem qL E f3).at_ (k:=0) rfl))) (EZ (v:=vJ (s2 (s8 af.abs j.ls))) (rs:= []) 15 rfl rfl rfl (dF (IV d)) e7 (fun _ _=>EQ (e:=((j.ls.length:Nat):Int)) yk i9) (EZ (v:= .bool (decide (¬ (((a.aD.ls.length:Nat):Int)=((s2 (s8 af.abs j.ls):Nat):Int))))) (rs:= []) 16 rfl rfl rfl (dF (IV d)) e7 (fun _ _=>Fs (e:= !(decide (((a.aD.ls.length:Nat):Int)=((s2 (s8 af.abs j.ls):Nat):Int)))) yk decide_not.symm) (qt (v:= .bool (decide (¬ (((a.aD.ls.length:Nat):Int)=((s2 (s8 af.abs j.ls):Nat):Int))))) 17 rfl (fun _ _=>ES rfl (dF (IV d)) rfl) (qn (ER ?_))))))
 by_cases u:((a.aD.ls.length:Nat):Int)=((s2 (s8 af.abs j.ls):Nat):Int)
 refine jF (dF (IV u)) (sk (sr (Kz (vP C 2) (Lz (.slice a.aP.A a.aP.ls.length a.aP.c) J 0 Tryz.isAgg58 (Kz (vJ a.aP.ls.length) (Mn rfl (bo ?_)))))))
 have aI:=J.pf []
 obtain⟨aK,F⟩:=lK fun(f:Nat) (w':World)=>Own w D w' [blk C (bG.cells a) 172]∧f≤a.aP.ls.length∧gD l0 b a.aP.ls=gD l0 b (List.drop f a.aP.ls)
 refine Wp.loop (fun i:Nat=> [(6,vI 0),(44,vJ i),(43,vJ a.aP.ls.length),(42, .slice a.aP.A a.aP.ls.length a.aP.c),(18,vJ b),(17,vJ l1.length),(16, .slice L l1.length S),(0, .slice N l0.length P),(2, .slice I l.length Q)]) aK (fun i=>a.aP.ls.length - i) 0 ⟨rfl,rfl,rfl,rfl,rfl,rfl,rfl,rfl,rfl,trivial⟩ (F.2 ⟨aI,e6,rfl⟩) ?_
 rintro f bF aa
 obtain⟨p,bi,t⟩:=F.1 aa
 refine sr (Kz (.bool (decide (((f:Nat):Int) < ((a.aP.ls.length:Nat):Int)))) (nt (EP ?_)))
 by_cases ae:((f:Nat):Int) < ((a.aP.ls.length:Nat):Int)
 obtain⟨r,M⟩:=dG (ls:=a.aP.ls) (i:=f) iH f3 (p.ro (y _ (E0 h)).2.2.1) e9
 have G:=drop_at M
 refine jT (dT ae) (sk (EP (bo (sr (fw (.pointer (some ⟨ab a.aP.A,ao a.aP.A+f *1,none⟩)) (ET (mQ) rfl rfl ((p.ro (y _ (E0 h)).2.2.1).addr (i:=f) e6) e6) (fw (vI r) (EY rfl (bZ.one Tryz.isAgg3 (((p.ro (y _ (E0 h)).2.2.1).elem iH M f3).at_ (k:=0) rfl))) (Ar rfl (Mz rfl (Kz (.bool (decide (r < 0))) (Mz rfl ?_))))))))))
 by_cases g:r < 0
 refine Sz (dT g) (Sz (dT g) (Sz (dT g) (Sz (dT g) (fw (.bool true) (Fa rfl (dT g) rfl) (nt (jt (sr (An rfl (rt (bR (tR (tR (bR (bR (tR (tR (bR (tR (rs ?_)))))))))))))))))))
 have aL:=p.pk []
 obtain rfl:_=1:=hr.symm.trans (et (ip n) (iY (et (m) (et (congrArg (fun q=>fM l0 l q b) o) (et (ip d) (et (ah (bI s)) (et (ip u) (mX (et (t) (et (congrArg (fun q=>gD l0 b q) G) (ip g)))))))))))
 exact⟨rfl,aL⟩
 refine gw (vI r) (dF g) (E5 rfl) (gw (.slice N l0.length P) (dF g) (E5 rfl) (Gz (vJ l0.length) (dF g) (Gz (.bool (decide (r ≥ ((l0.length:Nat):Int)))) (dF g) (fw (.bool (decide (r ≥ ((l0.length:Nat):Int)))) (ES rfl (dF g) rfl) (nt ?_)))))
 by_cases K:r ≥ ((l0.length:Nat):Int)
 refine jT (dT K) (sr (An rfl (rt (bR (tR (tR (bR (bR (tR (tR (bR (tR (rs ?_)))))))))))))
 have aM:=p.pk []
 obtain rfl:_=1:=hr.symm.trans (et (ip n) (iY (et (m) (et (congrArg (fun q=>fM l0 l q b) o) (et (ip d) (et (ah (bI s)) (et (ip u) (mX (et (t) (et (congrArg (fun q=>gD l0 b q) G) (et (iN g) (ip K))))))))))))
 exact⟨rfl,aM⟩
 refine jF (dF K) (Fq (bN (ER (EO (fw (vJ (f+1)) (EQ (e:=IntKind.i64.wrap (((f:Nat):Int)+1)) yk f1) (Mz rfl (WL.nil ?_)))))))
 have aN:=p.pf []
 exact E8 (f+1) ⟨rfl,rfl,rfl,rfl,rfl,rfl,rfl,rfl,rfl,trivial⟩ (F.2 ⟨aN,e6,et (t) (et (congrArg (fun q=>gD l0 b q) G) (et (iN g) (iN K)))⟩) (by show a.aP.ls.length - (f+1) < a.aP.ls.length - f; omega)
 refine jF (dF ae) (Wp.exit (EX ?_))
 have ag:gD l0 b a.aP.ls=C1 ():=et (t) (et (congrArg (fun q=>gD l0 b q) (eD (ls:=a.aP.ls) (i:=f) e6)) rfl)
 refine EX (Fg (bN (ER (EO (fw (vJ (b+1)) (EQ (e:=IntKind.i64.wrap (((b:Nat):Int)+1)) yk f1) (Mz rfl (WL.nil ?_)))))))
 have aO:=p.pk []
 exact E8 (b+1) ⟨rfl,rfl,rfl,rfl,rfl,rfl,trivial⟩ (z.2 ⟨aO,e6,et (m) (et (congrArg (fun q=>fM l0 l q b) o) (et (ip d) (et (ah (bI s)) (et (ip u) (oK ag)))))⟩) (by show l1.length - (b+1) < l1.length - b; omega)
 refine jT (dT u) (sr (An rfl (rt (tR (bR (tR (tR (bR (tR (rs ?_))))))))))
 have aP:=J.pk []
 obtain rfl:_=1:=hr.symm.trans (et (ip n) (iY (et (m) (et (congrArg (fun q=>fM l0 l q b) o) (et (ip d) (et (ah (bI s)) (iN u)))))))
 exact⟨rfl,aP⟩
 refine EW (rs:= []) 8 rfl rfl rfl (dT d) e7 (EW (rs:= []) 9 rfl rfl rfl (dT d) e7 (EW (rs:= []) 10 rfl rfl rfl (dT d) e7 (EW (rs:= []) 11 rfl rfl rfl (dT d) e7 (EW (rs:= []) 12 rfl rfl rfl (dT d) e7 (EW (rs:= []) 13 rfl rfl rfl (dT d) e7 (EW (rs:= []) 14 rfl rfl rfl (dT d) e7 (EW (rs:= []) 15 rfl rfl rfl (dT d) e7 (EW (rs:= []) 16 rfl rfl rfl (dT d) e7 (qt (v:= .bool true) 17 rfl (fun _ _=>Fa rfl (dT d) rfl) (qn (ER (jt (sr (An rfl (rt (tR (bR (tR (tR (bR (tR (rs ?_))))))))))))))))))))))
 have aQ:=J.pk []
 obtain rfl:_=1:=hr.symm.trans (et (ip n) (iY (et (m) (et (congrArg (fun q=>fM l0 l q b) o) (iN d)))))
 exact⟨rfl,aQ⟩
 refine jF (dF X) (Wp.exit (EX ?_))
 have ai:fM l0 l l1 0=C1 ():=et (m) (et (congrArg (fun q=>fM l0 l q b) (eD (ls:=l1) (i:=b) e6)) rfl)
 refine EX (Fg (ER (sr (An rfl (rt (rs ?_))))))
 have aR:=B.pk []
 obtain rfl:_=0:=hr.symm.trans (et (ip n) (nI ai))
 exact⟨rfl,aR⟩
 refine jT (dT n) (sr (An rfl (rt (tR (rs ?_)))))
 have aS:=H.pk []
 obtain rfl:_=1:=hr.symm.trans (iN n)
 exact⟨rfl,aS⟩
end Go.Proofs.YtbkagebjhbphaaaGreat
