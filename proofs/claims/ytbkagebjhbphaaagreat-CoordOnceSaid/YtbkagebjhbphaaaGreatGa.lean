/-
 owner: what was told of an operation gathered.
-/
import Derived.Test.YtbkagebjhbphaaaGreatSc
namespace Go.Proofs.YtbkagebjhbphaaaGreat
set_option maxRecDepth 100000
set_option linter.unusedVariables false
set_option linter.unusedSimpArgs false
theorem BU:∀ (a b:List UInt8),Lib.compareBytes a b < 0↔a < b
  | [], []=>by simp [Lib.compareBytes]
  | [],_::_=>by simp [Lib.compareBytes]
  | _::_, []=>by simp [Lib.compareBytes]
  | x::a,y::b=>by
    unfold Lib.compareBytes
    rw [List.cons_lt_cons_iff]
    by_cases d:x < y
    · simp [d]
    · by_cases c:y < x
      · have:x≠y:=by intro e; rw [e] at c; exact absurd c i8
        simp [d,c,this]
      · have e:x=y:=by
          apply UInt8.le_antisymm
          · exact UInt8.not_lt.1 c
          · exact UInt8.not_lt.1 d
        subst e
        simp [BU a b]
theorem wX {x y:aI}:ng x y=true↔x.bY < y.bY:=by
  rw [← vg, ← BU]; exact Iff.rfl
theorem zP {x y:aI}:ng x y=false↔y.bY≤x.bY:=by
  rw [← Bool.not_eq_true,wX]; exact List.not_lt
theorem G8:yg ng where
  DR x:=zP.2 (List.le_refl _)
  tr x y z a b:=wX.2 (List.lt_trans (wX.1 a) (wX.1 b))
  nt x y z a b:=zP.2 (List.le_trans (zP.1 b) (zP.1 a))
theorem AP {P R:List aI} {i:Nat} (h:i < P.length):at_ (P++R) i=at_ P i:=by
  unfold at_; rw [List.getD_eq_getElem?_getD,List.getD_eq_getElem?_getD,List.getElem?_append_left h]
theorem G9 {P R:List aI} {i:Nat} (h:P.length≤i):at_ (P++R) i=at_ R (i - P.length):=by
  unfold at_; rw [List.getD_eq_getElem?_getD,List.getD_eq_getElem?_getD,List.getElem?_append_right h]
theorem FN {Z:List aI} (h:GN ng Z) {i j:Nat} (b:i≤j) (a:j < Z.length):ng (at_ Z j) (at_ Z i)=false:=by
  unfold at_
  rw [List.getD_eq_getElem?_getD,List.getD_eq_getElem?_getD,List.getElem?_eq_getElem a,List.getElem?_eq_getElem e6]
  by_cases e:i=j
  · subst e; exact G8.DR _
  · exact List.pairwise_iff_getElem.1 h i j e6 a e6
theorem Dj {P Z Q:List aI} {i:Nat} (a:P.length≤i) (b:i < P.length+Z.length):at_ (P++(Z++Q)) i=at_ Z (i - P.length):=by
  rw [G9 a,AP e6]
end Go.Proofs.YtbkagebjhbphaaaGreat
namespace Go.Proofs.YtbkagebjhbphaaaGreat
set_option maxRecDepth 100000
set_option linter.unusedVariables false
set_option linter.unusedSimpArgs false
def Bs (B k:Nat) (l:List aI):Prop:=∀ i j,i≤j→j < k→i / B=j / B→ng (at_ l j) (at_ l i)=false
theorem Dl {i a B:Nat} (hB:1≤B) (h:i < a *B):i / B < a:=Nat.div_lt_of_lt_mul (by rw [Nat.mul_comm]; exact h)
theorem Dm {i a B:Nat} (hB:1≤B) (h:a *B≤i):a≤i / B:=(Nat.le_div_iff_mul_le e6).2 h
theorem Bs.step {B a k:Nat} {P Z Q:List aI} (hB:1≤B) (hP:P.length=a *B) (hZ:Z.length≤B) (hk:k≤P.length+Z.length) (h:Bs B P.length P) (hs:GN ng Z):Bs B k (P++(Z++Q)):=fun i j b e d=>by
  by_cases c:j < P.length
  · rw [AP c,AP e6]; exact h i j b c d
  · have hj:=Dm (i:=j) (a:=a) hB e6
    have hi:P.length≤i:=by
      apply Classical.byContradiction
      intro q
      have:=Dl (i:=i) (a:=a) hB e6
      omega
    rw [Dj hi e6,Dj e6 e6]
    exact FN hs e6 e6
theorem K9 {B k:Nat} {P R:List aI} (h:Bs B k (P++R)) (hk:P.length≤k):Bs B P.length P:=fun i j a b c=>by
  have:=h i j a e6 c
  rw [AP b,AP e6] at this
  exact this
end Go.Proofs.YtbkagebjhbphaaaGreat
namespace Go.Proofs.YtbkagebjhbphaaaGreat
open List renaming flatMap→q3,length→r8,map→s5,mem_of_getElem?→D3
open Sum renaming inl→B9,inr→C1
set_option maxRecDepth 100000
open Go.RowKit
set_option linter.unusedVariables false
set_option linter.unusedSectionVars false
set_option linter.unusedSimpArgs false
def iy (l0:List bi) (b:Nat):List Int→Unit ⊕ Int
  | []=>B9 ()
  | a::c=>if a < 0 then C1 (1) else if a ≥ ((l0.length:Nat):Int) then C1 (1) else iy l0 b c
def gQ (l0:List bi) (e:List (Ll aQ)):List gF→Nat→Unit ⊕ Int
  | [],a=>B9 ()
  | b::d,a=>if((b.aH.ls.length:Nat):Int)=((b.aJ.ls.length:Nat):Int) then bnd (List.getD e a default) fun c=>if((b.aH.ls.length:Nat):Int)=((c.ls.length:Nat):Int) then qU (iy l0 a b.aJ.ls) fun _=>gQ l0 e d (a+1) else C1 (1) else C1 (1)
def kN (l0:List bi) (l1:List gF) (a:List (Ll aQ)):Int:=
 if((a.length:Nat):Int)=((l1.length:Nat):Int) then lp (gQ l0 a l1 0) fun _=>0 else 1
theorem vM (w D N n0 P l0 L n1 c1 d1 l1 I n2 c2 d2 l r0) (H:Own w D w []) (bg:Ro w D fun w'=>bE w' 6 N n0 (q3 bi.cells l0)) (av:n0=l0.length) (bn:l0.length *80≤211106232532992) (R:s5 bG.abs d1=l1) (O:Ro w D fun w'=>bE w' 3 L n1 (q3 bG.cells d1)) (y:∀ x ∈ d1,Ro w D (fun w'=>bE w' 6 x.aH.A x.aH.ls.length (q3 bi.cells x.aH.ls))∧(x.aH.ls.length≤x.aH.c∧x.aH.ls.length≤9223372036854775807)∧Ro w D (fun w'=>bE w' 1 x.aJ.A x.aJ.ls.length (q3 (eI .i64) x.aJ.ls))∧(x.aJ.ls.length≤x.aJ.c∧x.aJ.ls.length≤9223372036854775807)) (ax:n1=l1.length) (bq:l1.length *56≤211106232532992) (S:s5 bO.abs d2=l) (T:Ro w D fun w'=>bE w' 1 I n2 (q3 (IX (β:=ae)) d2)) (ay:∀ x ∈ d2,Ro w D (fun w'=>bE w' 3 x.A x.ls.length (q3 ae.cells x.ls))∧(x.ls.length≤x.c∧x.ls.length≤9223372036854775807)∧(∀ Q ∈ x.ls,Ro w D (fun w'=>bE w' 2 Q.ak.A Q.ak.ls.length (q3 aI.cells Q.ak.ls))∧(Q.ak.ls.length≤Q.ak.c∧Q.ak.ls.length≤9223372036854775807))) (az:n2=l.length) (bu:l.length *24≤211106232532992) (hr:kN l0 l1 l=r0):
    Calls Tryz.prog 148 #[.slice N n0 P, .slice L n1 c1, .slice I n2 c2] w (d9 fun v w'=>v=vI r0∧Own w D w' []):=by
 subst av ax az
 have aT:=aB R
 have aU:=aB S
 refine cb Tryz.func148 ?_
 refine sr (An rfl (Ic (sr (Mz rfl (Kz (vJ l.length) (Mz rfl (Kz (vJ l1.length) (fw (.bool (decide (¬ (((l.length:Nat):Int)=((l1.length:Nat):Int))))) (IG (e:= !(decide (((l.length:Nat):Int)=((l1.length:Nat):Int)))) yk decide_not.symm) (nt ?_)))))))))
 by_cases n:((l.length:Nat):Int)=((l1.length:Nat):Int)
 refine jF (dF (Lh n)) (sk (Ic (sr (Mz rfl (Kz (vJ l1.length) (Mn rfl (bo ?_)))))))
 have aA:=H.pk []
 obtain⟨aC,z⟩:=nQ fun (b:Nat) w'=>Own w D w' []∧b≤l1.length∧gQ l0 l l1 0=gQ l0 l (List.drop b l1) b
 refine Wp.loop (fun i:Nat=> [(6,vI 0),(18,vJ i),(17,vJ l1.length),(16, .slice L l1.length c1),(0, .slice N l0.length P),(2, .slice I l.length c2)]) aC (fun i=>l1.length - i) 0 ⟨rfl,rfl,rfl,rfl,rfl,rfl,trivial⟩ (z.2 ⟨aA,e6,rfl⟩) ?_
 rintro b bv U
 obtain⟨B,aV,m⟩:=z.1 U
 refine sr (Kz (.bool (decide (((b:Nat):Int) < ((l1.length:Nat):Int)))) (nt (Ic ?_)))
 by_cases V:((b:Nat):Int) < ((l1.length:Nat):Int)
 obtain⟨a,h⟩:=dN (ls:=d1) (i:=b) bG.len f4 (B.ro O) e9
 have W:=fF R h
 have aW:=(y _ (D3 h)).2.1
 have aX:=(y _ (D3 h)).2.2.2
 have o:=drop_at W
 refine jT (dT V) (sk (Ic (bo (sr (Mz rfl (fw (.pointer (some ⟨ab L,ao L+b *3,none⟩)) (Ij (um) rfl rfl ((B.ro O).addr (i:=b) e6) e6) (fw (.agg (bG.cells a).toArray) (Io rfl (Iy (cs:=(bG.cells a)) Tryz.isAgg172 Tryz.sizeOf172 ((B.ro O).elem bG.len h f4))) ?_)))))))
 refine dV [vI 0, .slice none 0 0, .slice none 0 0] 172 B ?_
 intro C bz aD
 refine Az rfl ?_
 refine dS (bG.cells a) 0 aD Tryz.sizeOf172 ?_
 intro bA aF
 refine nt (Ic (Ic ?_))
 refine vW [] (Iu (Iu (bQ.block (Iu (Iu (bQ.block (Iu IC))))))) aF ?_
 intro bB J
 refine qp C 1 0 rfl (ql 1 rfl 0 Tryz.isAgg39 rfl rfl rfl (qk (vJ a.aH.ls.length) 2 rfl (qp C 2 3 rfl (ql 4 rfl 0 Tryz.isAgg58 rfl rfl rfl (qk (vJ a.aJ.ls.length) 5 rfl (qt (v:= .bool (decide (¬ (((a.aH.ls.length:Nat):Int)=((a.aJ.ls.length:Nat):Int))))) 6 rfl (fun _ _=>IG (e:= !(decide (((a.aH.ls.length:Nat):Int)=((a.aJ.ls.length:Nat):Int)))) yk decide_not.symm) (qv 7 rfl rfl ?_)))))))
 by_cases d:((a.aH.ls.length:Nat):Int)=((a.aJ.ls.length:Nat):Int)
 refine Ip (v:=vP C 1) (rs:= []) 8 rfl rfl rfl (dF (Lh d)) e7 (fun _ _=>yk) (Ip (v:= .slice a.aH.A a.aH.ls.length a.aH.c) (rs:= []) 9 rfl rfl rfl (dF (Lh d)) e7 (fun _ ⟨_,X⟩=>Io rfl (bZ.one Tryz.isAgg39 (jR.of (X.cls (i:=0) rfl) rfl))) (Ip (v:=vJ a.aH.ls.length) (rs:= []) 10 rfl rfl rfl (dF (Lh d)) e7 (fun _ _=>yk) (Ip (v:= .slice I l.length c2) (rs:= []) 11 rfl rfl rfl (dF (Lh d)) e7 (fun _ _=>Iq rfl) (Ip (v:=vJ b) (rs:= []) 12 rfl rfl rfl (dF (Lh d)) e7 (fun _ _=>Iq rfl) ?_))))
 obtain⟨j,E⟩:=jN (ls:=d2) (i:=b) e9
 have s:=fF S E
 have aY:=(ay _ (D3 E)).2.1
 have aZ:r8 (s5 ae.abs j.ls)=j.ls.length:=List.length_map ..
 refine Ip (v:= .pointer (some ⟨ab I,ao I+b *1,none⟩)) (rs:= []) 13 rfl rfl rfl (dF (Lh d)) e7 (fun _ ⟨_,X⟩=>Ij (wV) rfl rfl ((X.ro T).addr (i:=b) e6) e6) (Ip (v:= .slice j.A j.ls.length j.c) (rs:= []) 14 rfl rfl rfl (dF (Lh d)) e7 (fun _ ⟨_,X⟩=>Io rfl (bZ.one Tryz.isAgg40 (((X.ro T).elem rU E f4).at_ (k:=0) rfl))) (Ip (v:=vJ (r8 (s5 ae.abs j.ls))) (rs:= []) 15 rfl rfl rfl (dF (Lh d)) e7 (fun _ _=>Ie (e:=((j.ls.length:Nat):Int)) yk j0) (Ip (v:= .bool (decide (¬ (((a.aH.ls.length:Nat):Int)=((r8 (s5 ae.abs j.ls):Nat):Int))))) (rs:= []) 16 rfl rfl rfl (dF (Lh d)) e7 (fun _ _=>IG (e:= !(decide (((a.aH.ls.length:Nat):Int)=((r8 (s5 ae.abs j.ls):Nat):Int)))) yk decide_not.symm) (qt (v:= .bool (decide (¬ (((a.aH.ls.length:Nat):Int)=((r8 (s5 ae.abs j.ls):Nat):Int))))) 17 rfl (fun _ _=>Ih rfl (dF (Lh d)) rfl) (qn (Ig ?_))))))
 by_cases u:((a.aH.ls.length:Nat):Int)=((r8 (s5 ae.abs j.ls):Nat):Int)
 refine jF (dF (Lh u)) (sk (sr (Kz (vP C 2) (Lz (.slice a.aJ.A a.aJ.ls.length a.aJ.c) J 0 Tryz.isAgg58 (Kz (vJ a.aJ.ls.length) (Mn rfl (bo ?_)))))))
 have aG:=J.pf []
 obtain⟨aH,F⟩:=nQ fun (f:Nat) w'=>Own w D w' [blk C (bG.cells a) 172]∧f≤a.aJ.ls.length∧iy l0 b a.aJ.ls=iy l0 b (List.drop f a.aJ.ls)
 refine Wp.loop (fun i:Nat=> [(6,vI 0),(44,vJ i),(43,vJ a.aJ.ls.length),(42, .slice a.aJ.A a.aJ.ls.length a.aJ.c),(18,vJ b),(17,vJ l1.length),(16, .slice L l1.length c1),(0, .slice N l0.length P),(2, .slice I l.length c2)]) aH (fun i=>a.aJ.ls.length - i) 0 ⟨rfl,rfl,rfl,rfl,rfl,rfl,rfl,rfl,rfl,trivial⟩ (F.2 ⟨aG,e6,rfl⟩) ?_
 rintro f bC Y
 obtain⟨p,bf,t⟩:=F.1 Y
 refine sr (Kz (.bool (decide (((f:Nat):Int) < ((a.aJ.ls.length:Nat):Int)))) (nt (Ic ?_)))
 by_cases Z:((f:Nat):Int) < ((a.aJ.ls.length:Nat):Int)
 obtain⟨r,M⟩:=dN (ls:=a.aJ.ls) (i:=f) jd f4 (p.ro (y _ (D3 h)).2.2.1) e9
 have G:=drop_at M
 refine jT (dT Z) (sk (Ic (bo (sr (fw (.pointer (some ⟨ab a.aJ.A,ao a.aJ.A+f *1,none⟩)) (Ij (om) rfl rfl ((p.ro (y _ (D3 h)).2.2.1).addr (i:=f) e6) e6) (fw (vI r) (Io rfl (bZ.one Tryz.isAgg3 (((p.ro (y _ (D3 h)).2.2.1).elem jd M f4).at_ (k:=0) rfl))) (Ar rfl (Mz rfl (Kz (.bool (decide (r < 0))) (Mz rfl ?_))))))))))
 by_cases g:r < 0
 refine Sz (dT g) (Sz (dT g) (Sz (dT g) (Sz (dT g) (fw (.bool true) (Iw rfl (dT g) rfl) (nt (jt (sr (An rfl (rt (bR (tR (tR (bR (bR (tR (tR (bR (tR (rs ?_)))))))))))))))))))
 have aJ:=p.pk []
 obtain rfl:_=1:=hr.symm.trans (et (ip n) (jm (et (m) (et (congrArg (fun q=>gQ l0 l q b) o) (et (ip d) (et (ah (bJ s)) (et (ip u) (oF (et (t) (et (congrArg (fun q=>iy l0 b q) G) (ip g)))))))))))
 exact⟨rfl,aJ⟩
 refine gw (vI r) (dF g) (Iq rfl) (gw (.slice N l0.length P) (dF g) (Iq rfl) (Gz (vJ l0.length) (dF g) (Gz (.bool (decide (r ≥ ((l0.length:Nat):Int)))) (dF g) (fw (.bool (decide (r ≥ ((l0.length:Nat):Int)))) (Ih rfl (dF g) rfl) (nt ?_)))))
 by_cases K:r ≥ ((l0.length:Nat):Int)
 refine jT (dT K) (sr (An rfl (rt (bR (tR (tR (bR (bR (tR (tR (bR (tR (rs ?_)))))))))))))
 have aK:=p.pk []
 obtain rfl:_=1:=hr.symm.trans (et (ip n) (jm (et (m) (et (congrArg (fun q=>gQ l0 l q b) o) (et (ip d) (et (ah (bJ s)) (et (ip u) (oF (et (t) (et (congrArg (fun q=>iy l0 b q) G) (et (iN g) (ip K))))))))))))
 exact⟨rfl,aK⟩
 refine jF (dF K) (IE (bN (Ig (Ib (fw (vJ (f+1)) (Ie (e:=IntKind.i64.wrap (((f:Nat):Int)+1)) yk f0) (Mz rfl (WL.nil ?_)))))))
 have aL:=p.pf []
 exact Ir (f+1) ⟨rfl,rfl,rfl,rfl,rfl,rfl,rfl,rfl,rfl,trivial⟩ (F.2 ⟨aL,e6,et (t) (et (congrArg (fun q=>iy l0 b q) G) (et (iN g) (iN K)))⟩) (by show a.aJ.ls.length - (f+1) < a.aJ.ls.length - f; omega)
 refine jF (dF Z) (Wp.exit (Il ?_))
 have aa:iy l0 b a.aJ.ls=B9 ():=et (t) (et (congrArg (fun q=>iy l0 b q) (fB (ls:=a.aJ.ls) (i:=f) e6)) rfl)
 refine Il (IB (bN (Ig (Ib (fw (vJ (b+1)) (Ie (e:=IntKind.i64.wrap (((b:Nat):Int)+1)) yk f0) (Mz rfl (WL.nil ?_)))))))
 have aM:=p.pk []
 exact Ir (b+1) ⟨rfl,rfl,rfl,rfl,rfl,rfl,trivial⟩ (z.2 ⟨aM,e6,et (m) (et (congrArg (fun q=>gQ l0 l q b) o) (et (ip d) (et (ah (bJ s)) (et (ip u) (nY aa)))))⟩) (by show l1.length - (b+1) < l1.length - b; omega)
 refine jT (dT u) (sr (An rfl (rt (tR (bR (tR (tR (bR (tR (rs ?_))))))))))
 have aN:=J.pk []
 obtain rfl:_=1:=hr.symm.trans (et (ip n) (jm (et (m) (et (congrArg (fun q=>gQ l0 l q b) o) (et (ip d) (et (ah (bJ s)) (iN u)))))))
 exact⟨rfl,aN⟩
 refine Ik (rs:= []) 8 rfl rfl rfl (dT d) e7 (Ik (rs:= []) 9 rfl rfl rfl (dT d) e7 (Ik (rs:= []) 10 rfl rfl rfl (dT d) e7 (Ik (rs:= []) 11 rfl rfl rfl (dT d) e7 (Ik (rs:= []) 12 rfl rfl rfl (dT d) e7 (Ik (rs:= []) 13 rfl rfl rfl (dT d) e7 (Ik (rs:= []) 14 rfl rfl rfl (dT d) e7 (Ik (rs:= []) 15 rfl rfl rfl (dT d) e7 (Ik (rs:= []) 16 rfl rfl rfl (dT d) e7 (qt (v:= .bool true) 17 rfl (fun _ _=>Iw rfl (dT d) rfl) (qn (Ig (jt (sr (An rfl (rt (tR (bR (tR (tR (bR (tR (rs ?_))))))))))))))))))))))
 have aO:=J.pk []
 obtain rfl:_=1:=hr.symm.trans (et (ip n) (jm (et (m) (et (congrArg (fun q=>gQ l0 l q b) o) (iN d)))))
 exact⟨rfl,aO⟩
 refine jF (dF V) (Wp.exit (Il ?_))
 have af:gQ l0 l l1 0=B9 ():=et (m) (et (congrArg (fun q=>gQ l0 l q b) (fB (ls:=l1) (i:=b) e6)) rfl)
 refine Il (IB (Ig (sr (An rfl (rt (rs ?_))))))
 have aP:=B.pk []
 obtain rfl:_=0:=hr.symm.trans (et (ip n) (nT af))
 exact⟨rfl,aP⟩
 refine jT (dT n) (sr (An rfl (rt (tR (rs ?_)))))
 have aR:=H.pk []
 obtain rfl:_=1:=hr.symm.trans (iN n)
 exact⟨rfl,aR⟩
end Go.Proofs.YtbkagebjhbphaaaGreat
