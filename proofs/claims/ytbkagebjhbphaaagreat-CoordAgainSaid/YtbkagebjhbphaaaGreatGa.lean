/-
 owner: what was told of an operation gathered.
-/
import Derived.Test.YtbkagebjhbphaaaGreatSc
namespace Go.Proofs.YtbkagebjhbphaaaGreat
set_option maxRecDepth 100000
set_option linter.unusedVariables false
set_option linter.unusedSimpArgs false
theorem A9:∀ (a b:List UInt8),Lib.compareBytes a b < 0↔a < b
  | [], []=>by simp [Lib.compareBytes]
  | [],_::_=>by simp [Lib.compareBytes]
  | _::_, []=>by simp [Lib.compareBytes]
  | x::a,y::b=>by
    unfold Lib.compareBytes
    rw [List.cons_lt_cons_iff]
    by_cases d:x < y
    · simp [d]
    · by_cases c:y < x
      · have:x≠y:=by intro e; rw [e] at c; exact absurd c i8
        simp [d,c,this]
      · have e:x=y:=by
          apply UInt8.le_antisymm
          · exact UInt8.not_lt.1 c
          · exact UInt8.not_lt.1 d
        subst e
        simp [A9 a b]
theorem wu {x y:aL}:mi x y=true↔x.bY < y.bY:=by
  rw [← uF, ← A9]; exact Iff.rfl
theorem ze {x y:aL}:mi x y=false↔y.bY≤x.bY:=by
  rw [← Bool.not_eq_true,wu]; exact List.not_lt
theorem FC:xC mi where
  CP x:=ze.2 (List.le_refl _)
  tr x y z a b:=wu.2 (List.lt_trans (wu.1 a) (wu.1 b))
  nt x y z a b:=ze.2 (List.le_trans (ze.1 b) (ze.1 a))
theorem zP {P R:List aL} {i:Nat} (h:i < P.length):at_ (P++R) i=at_ P i:=by
  unfold at_; rw [List.getD_eq_getElem?_getD,List.getD_eq_getElem?_getD,List.getElem?_append_left h]
theorem FD {P R:List aL} {i:Nat} (h:P.length≤i):at_ (P++R) i=at_ R (i - P.length):=by
  unfold at_; rw [List.getD_eq_getElem?_getD,List.getD_eq_getElem?_getD,List.getElem?_append_right h]
theorem Ew {Z:List aL} (h:Fp mi Z) {i j:Nat} (b:i≤j) (a:j < Z.length):mi (at_ Z j) (at_ Z i)=false:=by
  unfold at_
  rw [List.getD_eq_getElem?_getD,List.getD_eq_getElem?_getD,List.getElem?_eq_getElem a,List.getElem?_eq_getElem e6]
  by_cases e:i=j
  · subst e; exact FC.CP _
  · exact List.pairwise_iff_getElem.1 h i j e6 a e6
theorem Ci {P Z Q:List aL} {i:Nat} (a:P.length≤i) (b:i < P.length+Z.length):at_ (P++(Z++Q)) i=at_ Z (i - P.length):=by
  rw [FD a,zP e6]
end Go.Proofs.YtbkagebjhbphaaaGreat
namespace Go.Proofs.YtbkagebjhbphaaaGreat
set_option linter.unusedVariables false
set_option linter.unusedSimpArgs false
def Bs (B k:Nat) (l:List aL):Prop:=∀ i j,i≤j→j < k→i / B=j / B→mi (at_ l j) (at_ l i)=false
theorem Cj {i a B:Nat} (hB:1≤B) (h:i < a *B):i / B < a:=Nat.div_lt_of_lt_mul (by rw [Nat.mul_comm]; exact h)
theorem Ck {i a B:Nat} (hB:1≤B) (h:a *B≤i):a≤i / B:=(Nat.le_div_iff_mul_le e6).2 h
theorem Bs.step {B a k:Nat} {P Z Q:List aL} (hB:1≤B) (hP:P.length=a *B) (hZ:Z.length≤B) (hk:k≤P.length+Z.length) (h:Bs B P.length P) (hs:Fp mi Z):Bs B k (P++(Z++Q)):=fun i j b e d=>by
  by_cases c:j < P.length
  · rw [zP c,zP e6]; exact h i j b c d
  · have hj:=Ck (i:=j) (a:=a) hB e6
    have hi:P.length≤i:=by
      apply Classical.byContradiction
      intro q
      have:=Cj (i:=i) (a:=a) hB e6
      omega
    rw [Ci hi e6,Ci e6 e6]
    exact Ew hs e6 e6
theorem JI {B k:Nat} {P R:List aL} (h:Bs B k (P++R)) (hk:P.length≤k):Bs B P.length P:=fun i j a b c=>by
  have:=h i j a e6 c
  rw [zP b,zP e6] at this
  exact this
end Go.Proofs.YtbkagebjhbphaaaGreat
namespace Go.Proofs.YtbkagebjhbphaaaGreat
open List renaming flatMap→q6,length→s2,map→s8,mem_of_getElem?→E0
open Sum renaming inl→C1,inr→C3
open Go.RowKit
set_option linter.unusedVariables false
set_option linter.unusedSectionVars false
set_option linter.unusedSimpArgs false
def gL (l0:List bC) (b:Nat):List Int→Unit ⊕ Int
  | []=>C1 ()
  | a::c=>if a < 0 then C3 (1) else if a ≥ ((l0.length:Nat):Int) then C3 (1) else gL l0 b c
def fT (l0:List bC) (e:List (Ll aY)):List gq→Nat→Unit ⊕ Int
  | [],a=>C1 ()
  | b::d,a=>if((b.aG.ls.length:Nat):Int)=((b.aJ.ls.length:Nat):Int) then bnd (List.getD e a default) fun c=>if((b.aG.ls.length:Nat):Int)=((c.ls.length:Nat):Int) then sI (gL l0 a b.aJ.ls) fun _=>fT l0 e d (a+1) else C3 (1) else C3 (1)
def kw (l0:List bC) (l1:List gq) (a:List (Ll aY)):Int:=
 if((a.length:Nat):Int)=((l1.length:Nat):Int) then lp (fT l0 a l1 0) fun _=>0 else 1
theorem uT (w:World) (D:Nat→Prop) (N:Option Addr) (n0 P:Nat) (l0:List bC) (L:Option Addr) (n1 S:Nat) (d1:List bG) (l1:List gq) (I:Option Addr) (n2 Q:Nat) (d2:List bO) (l:List (Ll aY)) (r0:Int) (H:Own w D w []) (bn:Ro w D fun w'=>bD w' 6 N n0 (q6 bC.cells l0)) (ay:n0=l0.length) (bq:l0.length *80≤211106232532992) (T:s8 bG.abs d1=l1) (O:Ro w D fun w'=>bD w' 3 L n1 (q6 bG.cells d1)) (y:∀ x ∈ d1,Ro w D (fun w'=>bD w' 6 x.aG.A x.aG.ls.length (q6 bC.cells x.aG.ls))∧(x.aG.ls.length≤x.aG.c∧x.aG.ls.length≤9223372036854775807)∧Ro w D (fun w'=>bD w' 1 x.aJ.A x.aJ.ls.length (q6 (eI .i64) x.aJ.ls))∧(x.aJ.ls.length≤x.aJ.c∧x.aJ.ls.length≤9223372036854775807)) (aA:n1=l1.length) (bu:l1.length *56≤211106232532992) (U:s8 bO.abs d2=l) (V:Ro w D fun w'=>bD w' 1 I n2 (q6 (Gy (β:=af)) d2)) (aB:∀ x ∈ d2,Ro w D (fun w'=>bD w' 3 x.A x.ls.length (q6 af.cells x.ls))∧(x.ls.length≤x.c∧x.ls.length≤9223372036854775807)∧(∀ R ∈ x.ls,Ro w D (fun w'=>bD w' 2 R.au.A R.au.ls.length (q6 aL.cells R.au.ls))∧(R.au.ls.length≤R.au.c∧R.au.ls.length≤9223372036854775807))) (aC:n2=l.length) (bv:l.length *24≤211106232532992) (hr:kw l0 l1 l=r0):
    Calls Tryz.prog 148 #[.slice N n0 P, .slice L n1 S, .slice I n2 Q] w (dR fun v w'=>v=vI r0∧Own w D w' []):=by
 subst ay aA aC
 have aU:=az T
 have aV:=az U
 refine cb Tryz.func148 ?_
 refine sr (An rfl (FU (sr (Mz rfl (Kz (vJ l.length) (Mz rfl (Kz (vJ l1.length) (fw (.bool (decide (¬ (((l.length:Nat):Int)=((l1.length:Nat):Int))))) (Gi (e:= !(decide (((l.length:Nat):Int)=((l1.length:Nat):Int)))) yk decide_not.symm) (nt ?_)))))))))
 by_cases n:((l.length:Nat):Int)=((l1.length:Nat):Int)
 refine jF (dF (JP n)) (sk (FU (sr (Mz rfl (Kz (vJ l1.length) (Mn rfl (bo ?_)))))))
 have aD:=H.pk []
 obtain⟨aF,z⟩:=mX fun(b:Nat) (w':World)=>Own w D w' []∧b≤l1.length∧fT l0 l l1 0=fT l0 l (List.drop b l1) b
 refine Wp.loop (fun i:Nat=> [(6,vI 0),(18,vJ i),(17,vJ l1.length),(16, .slice L l1.length S),(0, .slice N l0.length P),(2, .slice I l.length Q)]) aF (fun i=>l1.length - i) 0 ⟨rfl,rfl,rfl,rfl,rfl,rfl,trivial⟩ (z.2 ⟨aD,e6,rfl⟩) ?_
 rintro b bz W
 obtain⟨B,aW,m⟩:=z.1 W
 refine sr (Kz (.bool (decide (((b:Nat):Int) < ((l1.length:Nat):Int)))) (nt (FU ?_)))
 by_cases X:((b:Nat):Int) < ((l1.length:Nat):Int)
 obtain⟨a,h⟩:=dK (ls:=d1) (i:=b) bG.len f3 (B.ro O) e9
 have Y:=fo T h
 have aX:=(y _ (E0 h)).2.1
 have aZ:=(y _ (E0 h)).2.2.2
 have o:=drop_at Y
 refine jT (dT X) (sk (FU (bo (sr (Mz rfl (fw (.pointer (some ⟨ab L,ao L+b *3,none⟩)) (FZ (tH) rfl rfl ((B.ro O).addr (i:=b) e6) e6) (fw (.agg (bG.cells a).toArray) (F5 rfl (Gc (cs:=(bG.cells a)) Tryz.isAgg172 Tryz.sizeOf172 ((B.ro O).elem bG.len h f3))) ?_)))))))
 refine dM [vI 0, .slice none 0 0, .slice none 0 0] 172 B ?_
 intro C bA aG
 refine Az rfl ?_
 refine dN (bG.cells a) 0 aG Tryz.sizeOf172 ?_
 intro bB aH
 refine nt (FU (FU ?_))
 refine vg [] (F8 (F8 (bP.block (F8 (F8 (bP.block (F8 Gh))))))) aH ?_
 intro bE J
 refine qp C 1 0 rfl (ql 1 rfl 0 Tryz.isAgg39 rfl rfl rfl (qk (vJ a.aG.ls.length) 2 rfl (qp C 2 3 rfl (ql 4 rfl 0 Tryz.isAgg58 rfl rfl rfl (qk (vJ a.aJ.ls.length) 5 rfl (qt (v:= .bool (decide (¬ (((a.aG.ls.length:Nat):Int)=((a.aJ.ls.length:Nat):Int))))) 6 rfl (fun _ _=>Gi (e:= !(decide (((a.aG.ls.length:Nat):Int)=((a.aJ.ls.length:Nat):Int)))) yk decide_not.symm) (qv 7 rfl rfl ?_)))))))
 by_cases d:((a.aG.ls.length:Nat):Int)=((a.aJ.ls.length:Nat):Int)
 refine F6 (v:=vP C 1) (rs:= []) 8 rfl rfl rfl (dF (JP d)) e7 (fun _ _=>yk) (F6 (v:= .slice a.aG.A a.aG.ls.length a.aG.c) (rs:= []) 9 rfl rfl rfl (dF (JP d)) e7 (fun _ ⟨_,Z⟩=>F5 rfl (bZ.one Tryz.isAgg39 (jL.of (Z.cls (i:=0) rfl) rfl))) (F6 (v:=vJ a.aG.ls.length) (rs:= []) 10 rfl rfl rfl (dF (JP d)) e7 (fun _ _=>yk) (F6 (v:= .slice I l.length Q) (rs:= []) 11 rfl rfl rfl (dF (JP d)) e7 (fun _ _=>F7 rfl) (F6 (v:=vJ b) (rs:= []) 12 rfl rfl rfl (dF (JP d)) e7 (fun _ _=>F7 rfl) ?_))))
 obtain⟨j,E⟩:=jo (ls:=d2) (i:=b) e9
 have s:=fo U E
 have bf:=(aB _ (E0 E)).2.1
 have bg:s2 (s8 af.abs j.ls)=j.ls.length:=List.length_map ..
 refine F6 (v:= .pointer (some ⟨ab I,ao I+b *1,none⟩)) (rs:= []) 13 rfl rfl rfl (dF (JP d)) e7 (fun _ ⟨_,Z⟩=>FZ (wm) rfl rfl ((Z.ro V).addr (i:=b) e6) e6) (F6 (v:= .slice j.A j.ls.length j.c) (rs:= []) 14 rfl rfl rfl (dF (JP d)) e7 (fun _ ⟨_,Z⟩=>F5 rfl (bZ.one Tryz.isAgg40 (((Z.ro V).elem qZ E f3).at_ (k:=0) rfl))) (F6 (v:=vJ (s2 (s8 af.abs j.ls))) (rs:= []) 15 rfl rfl rfl (dF (JP d)) e7 (fun _ _=>FV (e:=((j.ls.length:Nat):Int)) yk j0) (F6 (v:= .bool (decide (¬ (((a.aG.ls.length:Nat):Int)=((s2 (s8 af.abs j.ls):Nat):Int))))) (rs:= []) 16 rfl rfl rfl (dF (JP d)) e7 (fun _ _=>Gi (e:= !(decide (((a.aG.ls.length:Nat):Int)=((s2 (s8 af.abs j.ls):Nat):Int)))) yk decide_not.symm) (qt (v:= .bool (decide (¬ (((a.aG.ls.length:Nat):Int)=((s2 (s8 af.abs j.ls):Nat):Int))))) 17 rfl (fun _ _=>FX rfl (dF (JP d)) rfl) (qn (FW ?_))))))
 by_cases u:((a.aG.ls.length:Nat):Int)=((s2 (s8 af.abs j.ls):Nat):Int)
 refine jF (dF (JP u)) (sk (sr (Kz (vP C 2) (Lz (.slice a.aJ.A a.aJ.ls.length a.aJ.c) J 0 Tryz.isAgg58 (Kz (vJ a.aJ.ls.length) (Mn rfl (bo ?_)))))))
 have aI:=J.pf []
 obtain⟨aJ,F⟩:=mX fun(f:Nat) (w':World)=>Own w D w' [blk C (bG.cells a) 172]∧f≤a.aJ.ls.length∧gL l0 b a.aJ.ls=gL l0 b (List.drop f a.aJ.ls)
 refine Wp.loop (fun i:Nat=> [(6,vI 0),(44,vJ i),(43,vJ a.aJ.ls.length),(42, .slice a.aJ.A a.aJ.ls.length a.aJ.c),(18,vJ b),(17,vJ l1.length),(16, .slice L l1.length S),(0, .slice N l0.length P),(2, .slice I l.length Q)]) aJ (fun i=>a.aJ.ls.length - i) 0 ⟨rfl,rfl,rfl,rfl,rfl,rfl,rfl,rfl,rfl,trivial⟩ (F.2 ⟨aI,e6,rfl⟩) ?_
 rintro f bF aa
 obtain⟨p,bi,t⟩:=F.1 aa
 refine sr (Kz (.bool (decide (((f:Nat):Int) < ((a.aJ.ls.length:Nat):Int)))) (nt (FU ?_)))
 by_cases ae:((f:Nat):Int) < ((a.aJ.ls.length:Nat):Int)
 obtain⟨r,M⟩:=dK (ls:=a.aJ.ls) (i:=f) iI f3 (p.ro (y _ (E0 h)).2.2.1) e9
 have G:=drop_at M
 refine jT (dT ae) (sk (FU (bo (sr (fw (.pointer (some ⟨ab a.aJ.A,ao a.aJ.A+f *1,none⟩)) (FZ (ng) rfl rfl ((p.ro (y _ (E0 h)).2.2.1).addr (i:=f) e6) e6) (fw (vI r) (F5 rfl (bZ.one Tryz.isAgg3 (((p.ro (y _ (E0 h)).2.2.1).elem iI M f3).at_ (k:=0) rfl))) (Ar rfl (Mz rfl (Kz (.bool (decide (r < 0))) (Mz rfl ?_))))))))))
 by_cases g:r < 0
 refine Sz (dT g) (Sz (dT g) (Sz (dT g) (Sz (dT g) (fw (.bool true) (Gb rfl (dT g) rfl) (nt (jt (sr (An rfl (rt (bR (tR (tR (bR (bR (tR (tR (bR (tR (rs ?_)))))))))))))))))))
 have aK:=p.pk []
 obtain rfl:_=1:=hr.symm.trans (et (ip n) (jq (et (m) (et (congrArg (fun q=>fT l0 l q b) o) (et (ip d) (et (ai (bJ s)) (et (ip u) (qm (et (t) (et (congrArg (fun q=>gL l0 b q) G) (ip g)))))))))))
 exact⟨rfl,aK⟩
 refine gw (vI r) (dF g) (F7 rfl) (gw (.slice N l0.length P) (dF g) (F7 rfl) (Gz (vJ l0.length) (dF g) (Gz (.bool (decide (r ≥ ((l0.length:Nat):Int)))) (dF g) (fw (.bool (decide (r ≥ ((l0.length:Nat):Int)))) (FX rfl (dF g) rfl) (nt ?_)))))
 by_cases K:r ≥ ((l0.length:Nat):Int)
 refine jT (dT K) (sr (An rfl (rt (bR (tR (tR (bR (bR (tR (tR (bR (tR (rs ?_)))))))))))))
 have aM:=p.pk []
 obtain rfl:_=1:=hr.symm.trans (et (ip n) (jq (et (m) (et (congrArg (fun q=>fT l0 l q b) o) (et (ip d) (et (ai (bJ s)) (et (ip u) (qm (et (t) (et (congrArg (fun q=>gL l0 b q) G) (et (iN g) (ip K))))))))))))
 exact⟨rfl,aM⟩
 refine jF (dF K) (Gj (bN (FW (FT (fw (vJ (f+1)) (FV (e:=IntKind.i64.wrap (((f:Nat):Int)+1)) yk f1) (Mz rfl (WL.nil ?_)))))))
 have aN:=p.pf []
 exact F9 (f+1) ⟨rfl,rfl,rfl,rfl,rfl,rfl,rfl,rfl,rfl,trivial⟩ (F.2 ⟨aN,e6,et (t) (et (congrArg (fun q=>gL l0 b q) G) (et (iN g) (iN K)))⟩) (by show a.aJ.ls.length - (f+1) < a.aJ.ls.length - f; omega)
 refine jF (dF ae) (Wp.exit (F4 ?_))
 have ag:gL l0 b a.aJ.ls=C1 ():=et (t) (et (congrArg (fun q=>gL l0 b q) (eZ (ls:=a.aJ.ls) (i:=f) e6)) rfl)
 refine F4 (Gg (bN (FW (FT (fw (vJ (b+1)) (FV (e:=IntKind.i64.wrap (((b:Nat):Int)+1)) yk f1) (Mz rfl (WL.nil ?_)))))))
 have aO:=p.pk []
 exact F9 (b+1) ⟨rfl,rfl,rfl,rfl,rfl,rfl,trivial⟩ (z.2 ⟨aO,e6,et (m) (et (congrArg (fun q=>fT l0 l q b) o) (et (ip d) (et (ai (bJ s)) (et (ip u) (tC ag)))))⟩) (by show l1.length - (b+1) < l1.length - b; omega)
 refine jT (dT u) (sr (An rfl (rt (tR (bR (tR (tR (bR (tR (rs ?_))))))))))
 have aP:=J.pk []
 obtain rfl:_=1:=hr.symm.trans (et (ip n) (jq (et (m) (et (congrArg (fun q=>fT l0 l q b) o) (et (ip d) (et (ai (bJ s)) (iN u)))))))
 exact⟨rfl,aP⟩
 refine F3 (rs:= []) 8 rfl rfl rfl (dT d) e7 (F3 (rs:= []) 9 rfl rfl rfl (dT d) e7 (F3 (rs:= []) 10 rfl rfl rfl (dT d) e7 (F3 (rs:= []) 11 rfl rfl rfl (dT d) e7 (F3 (rs:= []) 12 rfl rfl rfl (dT d) e7 (F3 (rs:= []) 13 rfl rfl rfl (dT d) e7 (F3 (rs:= []) 14 rfl rfl rfl (dT d) e7 (F3 (rs:= []) 15 rfl rfl rfl (dT d) e7 (F3 (rs:= []) 16 rfl rfl rfl (dT d) e7 (qt (v:= .bool true) 17 rfl (fun _ _=>Gb rfl (dT d) rfl) (qn (FW (jt (sr (An rfl (rt (tR (bR (tR (tR (bR (tR (rs ?_))))))))))))))))))))))
 have aQ:=J.pk []
 obtain rfl:_=1:=hr.symm.trans (et (ip n) (jq (et (m) (et (congrArg (fun q=>fT l0 l q b) o) (iN d)))))
 exact⟨rfl,aQ⟩
 refine jF (dF X) (Wp.exit (F4 ?_))
 have ah:fT l0 l l1 0=C1 ():=et (m) (et (congrArg (fun q=>fT l0 l q b) (eZ (ls:=l1) (i:=b) e6)) rfl)
 refine F4 (Gg (FW (sr (An rfl (rt (rs ?_))))))
 have aR:=B.pk []
 obtain rfl:_=0:=hr.symm.trans (et (ip n) (nS ah))
 exact⟨rfl,aR⟩
 refine jT (dT n) (sr (An rfl (rt (tR (rs ?_)))))
 have aS:=H.pk []
 obtain rfl:_=1:=hr.symm.trans (iN n)
 exact⟨rfl,aS⟩
end Go.Proofs.YtbkagebjhbphaaaGreat
