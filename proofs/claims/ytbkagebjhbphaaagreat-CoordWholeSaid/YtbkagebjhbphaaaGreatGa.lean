/-
 owner: what was told of an operation gathered.
-/
import Derived.Test.YtbkagebjhbphaaaGreatSc
namespace Go.Proofs.YtbkagebjhbphaaaGreat
set_option maxRecDepth 100000
set_option linter.unusedVariables false
set_option linter.unusedSimpArgs false
theorem BH:∀ (a b:List UInt8),Lib.compareBytes a b < 0↔a < b
  | [], []=>by simp [Lib.compareBytes]
  | [],_::_=>by simp [Lib.compareBytes]
  | _::_, []=>by simp [Lib.compareBytes]
  | x::a,y::b=>by
    unfold Lib.compareBytes
    rw [List.cons_lt_cons_iff]
    by_cases d:x < y
    · simp [d]
    · by_cases c:y < x
      · have:x≠y:=by intro e; rw [e] at c; exact absurd c i7
        simp [d,c,this]
      · have e:x=y:=by
          apply UInt8.le_antisymm
          · exact UInt8.not_lt.1 c
          · exact UInt8.not_lt.1 d
        subst e
        simp [BH a b]
theorem wG {x y:aH}:mM x y=true↔x.aZ < y.aZ:=by
  rw [← uU, ← BH]; exact Iff.rfl
theorem zB {x y:aH}:mM x y=false↔y.aZ≤x.aZ:=by
  rw [← Bool.not_eq_true,wG]; exact List.not_lt
theorem Hw:xR mM where
  D6 x:=zB.2 (List.le_refl _)
  tr x y z a b:=wG.2 (List.lt_trans (wG.1 a) (wG.1 b))
  nt x y z a b:=zB.2 (List.le_trans (zB.1 b) (zB.1 a))
theorem Am {P R:List aH} {i:Nat} (h:i < P.length):at_ (P++R) i=at_ P i:=by
  unfold at_; rw [List.getD_eq_getElem?_getD,List.getD_eq_getElem?_getD,List.getElem?_append_left h]
theorem Hy {P R:List aH} {i:Nat} (h:P.length≤i):at_ (P++R) i=at_ R (i - P.length):=by
  unfold at_; rw [List.getD_eq_getElem?_getD,List.getD_eq_getElem?_getD,List.getElem?_append_right h]
theorem FV {Z:List aH} (h:Hd mM Z) {i j:Nat} (b:i≤j) (a:j < Z.length):mM (at_ Z j) (at_ Z i)=false:=by
  unfold at_
  rw [List.getD_eq_getElem?_getD,List.getD_eq_getElem?_getD,List.getElem?_eq_getElem a,List.getElem?_eq_getElem e6]
  by_cases e:i=j
  · subst e; exact Hw.D6 _
  · exact List.pairwise_iff_getElem.1 h i j e6 a e6
theorem Dj {P Z Q:List aH} {i:Nat} (a:P.length≤i) (b:i < P.length+Z.length):at_ (P++(Z++Q)) i=at_ Z (i - P.length):=by
  rw [Hy a,Am e6]
end Go.Proofs.YtbkagebjhbphaaaGreat
namespace Go.Proofs.YtbkagebjhbphaaaGreat
set_option maxRecDepth 100000
set_option linter.unusedVariables false
set_option linter.unusedSimpArgs false
def Bs (B k:Nat) (l:List aH):Prop:=∀ i j,i≤j→j < k→i / B=j / B→mM (at_ l j) (at_ l i)=false
theorem Dl {i a B:Nat} (hB:1≤B) (h:i < a *B):i / B < a:=Nat.div_lt_of_lt_mul (by rw [Nat.mul_comm]; exact h)
theorem Dm {i a B:Nat} (hB:1≤B) (h:a *B≤i):a≤i / B:=(Nat.le_div_iff_mul_le e6).2 h
theorem Bs.step {B a k:Nat} {P Z Q:List aH} (hB:1≤B) (hP:P.length=a *B) (hZ:Z.length≤B) (hk:k≤P.length+Z.length) (h:Bs B P.length P) (hs:Hd mM Z):Bs B k (P++(Z++Q)):=fun i j b e d=>by
  by_cases c:j < P.length
  · rw [Am c,Am e6]; exact h i j b c d
  · have hj:=Dm (i:=j) (a:=a) hB e6
    have hi:P.length≤i:=by
      apply Classical.byContradiction
      intro q
      have:=Dl (i:=i) (a:=a) hB e6
      omega
    rw [Dj hi e6,Dj e6 e6]
    exact FV hs e6 e6
theorem Lg {B k:Nat} {P R:List aH} (h:Bs B k (P++R)) (hk:P.length≤k):Bs B P.length P:=fun i j a b c=>by
  have:=h i j a e6 c
  rw [Am b,Am e6] at this
  exact this
end Go.Proofs.YtbkagebjhbphaaaGreat
namespace Go.Proofs.YtbkagebjhbphaaaGreat
open List renaming flatMap→q4,length→s0,map→s5,mem_of_getElem?→D1
open Sum renaming inl→B7,inr→B9
set_option maxRecDepth 100000
open Go.RowKit
set_option linter.unusedVariables false
set_option linter.unusedSectionVars false
set_option linter.unusedSimpArgs false
def gz (l0:List aN) (b:Nat):List Int→Unit ⊕ Int
  | []=>B7 ()
  | a::c=>if a < 0 then B9 (1) else if a ≥ ((l0.length:Nat):Int) then B9 (1) else gz l0 b c
def fO (l0:List aN) (e:List (Ll aQ)):List fu→Nat→Unit ⊕ Int
  | [],a=>B7 ()
  | b::d,a=>if((b.aB.ls.length:Nat):Int)=((b.aI.ls.length:Nat):Int) then bnd (List.getD e a default) fun c=>if((b.aB.ls.length:Nat):Int)=((c.ls.length:Nat):Int) then sW (gz l0 a b.aI.ls) fun _=>fO l0 e d (a+1) else B9 (1) else B9 (1)
def j6 (l0:List aN) (l1:List fu) (a:List (Ll aQ)):Int:=
 if((a.length:Nat):Int)=((l1.length:Nat):Int) then lp (fO l0 a l1 0) fun _=>0 else 1
theorem vD (w D N n0 P l0 L n1 S d1 l1 I n2 Q d2 l r0) (H:Own w D w []) (bz:Ro w D fun w'=>aY w' 6 N n0 (q4 aN.cells l0)) (ay:n0=l0.length) (bA:l0.length *80≤211106232532992) (T:s5 bO.abs d1=l1) (O:Ro w D fun w'=>aY w' 3 L n1 (q4 bO.cells d1)) (y:∀ x ∈ d1,Ro w D (fun w'=>aY w' 6 x.aB.A x.aB.ls.length (q4 aN.cells x.aB.ls))∧(x.aB.ls.length≤x.aB.c∧x.aB.ls.length≤9223372036854775807)∧Ro w D (fun w'=>aY w' 1 x.aI.A x.aI.ls.length (q4 (eI .i64) x.aI.ls))∧(x.aI.ls.length≤x.aI.c∧x.aI.ls.length≤9223372036854775807)) (az:n1=l1.length) (bB:l1.length *56≤211106232532992) (U:s5 bP.abs d2=l) (V:Ro w D fun w'=>aY w' 1 I n2 (q4 (I9 (β:=af)) d2)) (aB:∀ x ∈ d2,Ro w D (fun w'=>aY w' 3 x.A x.ls.length (q4 af.cells x.ls))∧(x.ls.length≤x.c∧x.ls.length≤9223372036854775807)∧(∀ R ∈ x.ls,Ro w D (fun w'=>aY w' 2 R.aj.A R.aj.ls.length (q4 aH.cells R.aj.ls))∧(R.aj.ls.length≤R.aj.c∧R.aj.ls.length≤9223372036854775807))) (aC:n2=l.length) (bC:l.length *24≤211106232532992) (hr:j6 l0 l1 l=r0):
    Calls Tryz.prog 148 #[.slice N n0 P, .slice L n1 S, .slice I n2 Q] w (dA fun v w'=>v=vI r0∧Own w D w' []):=by
 subst ay az aC
 have aX:=aA T
 have aZ:=aA U
 refine cb Tryz.func148 ?_
 refine sr (An rfl (Ik (sr (Mz rfl (Kz (vJ l.length) (Mz rfl (Kz (vJ l1.length) (fw (.bool (decide (¬ (((l.length:Nat):Int)=((l1.length:Nat):Int))))) (IM (e:= !(decide (((l.length:Nat):Int)=((l1.length:Nat):Int)))) yk decide_not.symm) (nt ?_)))))))))
 by_cases n:((l.length:Nat):Int)=((l1.length:Nat):Int)
 refine jF (dF (Lr n)) (sk (Ik (sr (Mz rfl (Kz (vJ l1.length) (Mn rfl (bo ?_)))))))
 have aD:=H.pk []
 obtain⟨aF,z⟩:=lF fun (b:Nat) w'=>Own w D w' []∧b≤l1.length∧fO l0 l l1 0=fO l0 l (List.drop b l1) b
 refine Wp.loop (fun i:Nat=> [(6,vI 0),(18,vJ i),(17,vJ l1.length),(16, .slice L l1.length S),(0, .slice N l0.length P),(2, .slice I l.length Q)]) aF (fun i=>l1.length - i) 0 ⟨rfl,rfl,rfl,rfl,rfl,rfl,trivial⟩ (z.2 ⟨aD,e6,rfl⟩) ?_
 rintro b bD W
 obtain⟨B,bf,m⟩:=z.1 W
 refine sr (Kz (.bool (decide (((b:Nat):Int) < ((l1.length:Nat):Int)))) (nt (Ik ?_)))
 by_cases X:((b:Nat):Int) < ((l1.length:Nat):Int)
 obtain⟨a,h⟩:=dh (ls:=d1) (i:=b) bO.len f2 (B.ro O) e9
 have Y:=eY T h
 have bg:=(y _ (D1 h)).2.1
 have bi:=(y _ (D1 h)).2.2.2
 have o:=drop_at Y
 refine jT (dT X) (sk (Ik (bo (sr (Mz rfl (fw (.pointer (some ⟨ab L,ao L+b *3,none⟩)) (Iz (uR) rfl rfl ((B.ro O).addr (i:=b) e6) e6) (fw (.agg (bO.cells a).toArray) (IB rfl (IJ (cs:=(bO.cells a)) Tryz.isAgg172 Tryz.sizeOf172 ((B.ro O).elem bO.len h f2))) ?_)))))))
 refine dn [vI 0, .slice none 0 0, .slice none 0 0] 172 B ?_
 intro C bE aG
 refine Az rfl ?_
 refine df (bO.cells a) 0 aG Tryz.sizeOf172 ?_
 intro bF aI
 refine nt (Ik (Ik ?_))
 refine vo [] (IE (IE (bv.block (IE (IE (bv.block (IE IQ))))))) aI ?_
 intro bG J
 refine qp C 1 0 rfl (ql 1 rfl 0 Tryz.isAgg39 rfl rfl rfl (qk (vJ a.aB.ls.length) 2 rfl (qp C 2 3 rfl (ql 4 rfl 0 Tryz.isAgg58 rfl rfl rfl (qk (vJ a.aI.ls.length) 5 rfl (qt (v:= .bool (decide (¬ (((a.aB.ls.length:Nat):Int)=((a.aI.ls.length:Nat):Int))))) 6 rfl (fun _ _=>IM (e:= !(decide (((a.aB.ls.length:Nat):Int)=((a.aI.ls.length:Nat):Int)))) yk decide_not.symm) (qv 7 rfl rfl ?_)))))))
 by_cases d:((a.aB.ls.length:Nat):Int)=((a.aI.ls.length:Nat):Int)
 refine Iy (v:=vP C 1) (rs:= []) 8 rfl rfl rfl (dF (Lr d)) e7 (fun _ _=>yk) (Iy (v:= .slice a.aB.A a.aB.ls.length a.aB.c) (rs:= []) 9 rfl rfl rfl (dF (Lr d)) e7 (fun _ ⟨_,Z⟩=>IB rfl (bJ.one Tryz.isAgg39 (I1 (Z.cls (i:=0) rfl) rfl))) (Iy (v:=vJ a.aB.ls.length) (rs:= []) 10 rfl rfl rfl (dF (Lr d)) e7 (fun _ _=>yk) (Iy (v:= .slice I l.length Q) (rs:= []) 11 rfl rfl rfl (dF (Lr d)) e7 (fun _ _=>IA rfl) (Iy (v:=vJ b) (rs:= []) 12 rfl rfl rfl (dF (Lr d)) e7 (fun _ _=>IA rfl) ?_))))
 obtain⟨j,E⟩:=iG (ls:=d2) (i:=b) e9
 have s:=eY U E
 have bn:=(aB _ (D1 E)).2.1
 have bq:s0 (s5 af.abs j.ls)=j.ls.length:=List.length_map ..
 refine Iy (v:= .pointer (some ⟨ab I,ao I+b *1,none⟩)) (rs:= []) 13 rfl rfl rfl (dF (Lr d)) e7 (fun _ ⟨_,Z⟩=>Iz (wE) rfl rfl ((Z.ro V).addr (i:=b) e6) e6) (Iy (v:= .slice j.A j.ls.length j.c) (rs:= []) 14 rfl rfl rfl (dF (Lr d)) e7 (fun _ ⟨_,Z⟩=>IB rfl (bJ.one Tryz.isAgg40 (((Z.ro V).elem rC E f2).at_ (k:=0) rfl))) (Iy (v:=vJ (s0 (s5 af.abs j.ls))) (rs:= []) 15 rfl rfl rfl (dF (Lr d)) e7 (fun _ _=>Ir (e:=((j.ls.length:Nat):Int)) yk j7) (Iy (v:= .bool (decide (¬ (((a.aB.ls.length:Nat):Int)=((s0 (s5 af.abs j.ls):Nat):Int))))) (rs:= []) 16 rfl rfl rfl (dF (Lr d)) e7 (fun _ _=>IM (e:= !(decide (((a.aB.ls.length:Nat):Int)=((s0 (s5 af.abs j.ls):Nat):Int)))) yk decide_not.symm) (qt (v:= .bool (decide (¬ (((a.aB.ls.length:Nat):Int)=((s0 (s5 af.abs j.ls):Nat):Int))))) 17 rfl (fun _ _=>Io rfl (dF (Lr d)) rfl) (qn (Iq ?_))))))
 by_cases u:((a.aB.ls.length:Nat):Int)=((s0 (s5 af.abs j.ls):Nat):Int)
 refine jF (dF (Lr u)) (sk (sr (Kz (vP C 2) (Lz (.slice a.aI.A a.aI.ls.length a.aI.c) J 0 Tryz.isAgg58 (Kz (vJ a.aI.ls.length) (Mn rfl (bo ?_)))))))
 have aJ:=J.pf []
 obtain⟨aK,F⟩:=lF fun (f:Nat) w'=>Own w D w' [blk C (bO.cells a) 172]∧f≤a.aI.ls.length∧gz l0 b a.aI.ls=gz l0 b (List.drop f a.aI.ls)
 refine Wp.loop (fun i:Nat=> [(6,vI 0),(44,vJ i),(43,vJ a.aI.ls.length),(42, .slice a.aI.A a.aI.ls.length a.aI.c),(18,vJ b),(17,vJ l1.length),(16, .slice L l1.length S),(0, .slice N l0.length P),(2, .slice I l.length Q)]) aK (fun i=>a.aI.ls.length - i) 0 ⟨rfl,rfl,rfl,rfl,rfl,rfl,rfl,rfl,rfl,trivial⟩ (F.2 ⟨aJ,e6,rfl⟩) ?_
 rintro f bH aa
 obtain⟨p,bu,t⟩:=F.1 aa
 refine sr (Kz (.bool (decide (((f:Nat):Int) < ((a.aI.ls.length:Nat):Int)))) (nt (Ik ?_)))
 by_cases ag:((f:Nat):Int) < ((a.aI.ls.length:Nat):Int)
 obtain⟨r,M⟩:=dh (ls:=a.aI.ls) (i:=f) iL f2 (p.ro (y _ (D1 h)).2.2.1) e9
 have G:=drop_at M
 refine jT (dT ag) (sk (Ik (bo (sr (fw (.pointer (some ⟨ab a.aI.A,ao a.aI.A+f *1,none⟩)) (Iz (mq) rfl rfl ((p.ro (y _ (D1 h)).2.2.1).addr (i:=f) e6) e6) (fw (vI r) (IB rfl (bJ.one Tryz.isAgg3 (((p.ro (y _ (D1 h)).2.2.1).elem iL M f2).at_ (k:=0) rfl))) (Ar rfl (Mz rfl (Kz (.bool (decide (r < 0))) (Mz rfl ?_))))))))))
 by_cases g:r < 0
 refine Sz (dT g) (Sz (dT g) (Sz (dT g) (Sz (dT g) (fw (.bool true) (Iw rfl (dT g) rfl) (nt (jt (sr (An rfl (rt (bR (tR (tR (bR (bR (tR (tR (bR (tR (rs ?_)))))))))))))))))))
 have aL:=p.pk []
 obtain rfl:_=1:=hr.symm.trans (et (ip n) (gL (et (m) (et (congrArg (fun q=>fO l0 l q b) o) (et (ip d) (et (ae (aT s)) (et (ip u) (oU (et (t) (et (congrArg (fun q=>gz l0 b q) G) (ip g)))))))))))
 exact⟨rfl,aL⟩
 refine gw (vI r) (dF g) (IA rfl) (gw (.slice N l0.length P) (dF g) (IA rfl) (Gz (vJ l0.length) (dF g) (Gz (.bool (decide (r ≥ ((l0.length:Nat):Int)))) (dF g) (fw (.bool (decide (r ≥ ((l0.length:Nat):Int)))) (Io rfl (dF g) rfl) (nt ?_)))))
 by_cases K:r ≥ ((l0.length:Nat):Int)
 refine jT (dT K) (sr (An rfl (rt (bR (tR (tR (bR (bR (tR (tR (bR (tR (rs ?_)))))))))))))
 have aM:=p.pk []
 obtain rfl:_=1:=hr.symm.trans (et (ip n) (gL (et (m) (et (congrArg (fun q=>fO l0 l q b) o) (et (ip d) (et (ae (aT s)) (et (ip u) (oU (et (t) (et (congrArg (fun q=>gz l0 b q) G) (et (iN g) (ip K))))))))))))
 exact⟨rfl,aM⟩
 refine jF (dF K) (IU (bN (Iq (Il (fw (vJ (f+1)) (Ir (e:=IntKind.i64.wrap (((f:Nat):Int)+1)) yk f0) (Mz rfl (WL.nil ?_)))))))
 have aO:=p.pf []
 exact II (f+1) ⟨rfl,rfl,rfl,rfl,rfl,rfl,rfl,rfl,rfl,trivial⟩ (F.2 ⟨aO,e6,et (t) (et (congrArg (fun q=>gz l0 b q) G) (et (iN g) (iN K)))⟩) (by show a.aI.ls.length - (f+1) < a.aI.ls.length - f; omega)
 refine jF (dF ag) (Wp.exit (IC ?_))
 have ah:gz l0 b a.aI.ls=B7 ():=et (t) (et (congrArg (fun q=>gz l0 b q) (dZ (ls:=a.aI.ls) (i:=f) e6)) rfl)
 refine IC (IK (bN (Iq (Il (fw (vJ (b+1)) (Ir (e:=IntKind.i64.wrap (((b:Nat):Int)+1)) yk f0) (Mz rfl (WL.nil ?_)))))))
 have aP:=p.pk []
 exact II (b+1) ⟨rfl,rfl,rfl,rfl,rfl,rfl,trivial⟩ (z.2 ⟨aP,e6,et (m) (et (congrArg (fun q=>fO l0 l q b) o) (et (ip d) (et (ae (aT s)) (et (ip u) (sH ah)))))⟩) (by show l1.length - (b+1) < l1.length - b; omega)
 refine jT (dT u) (sr (An rfl (rt (tR (bR (tR (tR (bR (tR (rs ?_))))))))))
 have aR:=J.pk []
 obtain rfl:_=1:=hr.symm.trans (et (ip n) (gL (et (m) (et (congrArg (fun q=>fO l0 l q b) o) (et (ip d) (et (ae (aT s)) (iN u)))))))
 exact⟨rfl,aR⟩
 refine Ip (rs:= []) 8 rfl rfl rfl (dT d) e7 (Ip (rs:= []) 9 rfl rfl rfl (dT d) e7 (Ip (rs:= []) 10 rfl rfl rfl (dT d) e7 (Ip (rs:= []) 11 rfl rfl rfl (dT d) e7 (Ip (rs:= []) 12 rfl rfl rfl (dT d) e7 (Ip (rs:= []) 13 rfl rfl rfl (dT d) e7 (Ip (rs:= []) 14 rfl rfl rfl (dT d) e7 (Ip (rs:= []) 15 rfl rfl rfl (dT d) e7 (Ip (rs:= []) 16 rfl rfl rfl (dT d) e7 (qt (v:= .bool true) 17 rfl (fun _ _=>Iw rfl (dT d) rfl) (qn (Iq (jt (sr (An rfl (rt (tR (bR (tR (tR (bR (tR (rs ?_))))))))))))))))))))))
 have aS:=J.pk []
 obtain rfl:_=1:=hr.symm.trans (et (ip n) (gL (et (m) (et (congrArg (fun q=>fO l0 l q b) o) (iN d)))))
 exact⟨rfl,aS⟩
 refine jF (dF X) (Wp.exit (IC ?_))
 have ai:fO l0 l l1 0=B7 ():=et (m) (et (congrArg (fun q=>fO l0 l q b) (dZ (ls:=l1) (i:=b) e6)) rfl)
 refine IC (IK (Iq (sr (An rfl (rt (rs ?_))))))
 have aU:=B.pk []
 obtain rfl:_=0:=hr.symm.trans (et (ip n) (mF ai))
 exact⟨rfl,aU⟩
 refine jT (dT n) (sr (An rfl (rt (tR (rs ?_)))))
 have aV:=H.pk []
 obtain rfl:_=1:=hr.symm.trans (iN n)
 exact⟨rfl,aV⟩
end Go.Proofs.YtbkagebjhbphaaaGreat
