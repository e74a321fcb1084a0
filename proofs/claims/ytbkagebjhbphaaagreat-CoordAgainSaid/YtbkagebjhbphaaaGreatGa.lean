/-
 owner: what was told of an operation gathered.
-/
import Derived.Test.YtbkagebjhbphaaaGreatSc
namespace Go.Proofs.YtbkagebjhbphaaaGreat
set_option maxRecDepth 100000
set_option linter.unusedVariables false
set_option linter.unusedSimpArgs false
theorem Bb:∀ (a b:List UInt8),Lib.compareBytes a b < 0↔a < b
  | [], []=>by simp [Lib.compareBytes]
  | [],_::_=>by simp [Lib.compareBytes]
  | _::_, []=>by simp [Lib.compareBytes]
  | x::a,y::b=>by
    unfold Lib.compareBytes
    rw [List.cons_lt_cons_iff]
    by_cases d:x < y
    · simp [d]
    · by_cases c:y < x
      · have:x≠y:=by intro e; rw [e] at c; exact absurd c i8
        simp [d,c,this]
      · have e:x=y:=by
          apply UInt8.le_antisymm
          · exact UInt8.not_lt.1 c
          · exact UInt8.not_lt.1 d
        subst e
        simp [Bb a b]
theorem wy {x y:aI}:mi x y=true↔x.bW < y.bW:=by
  rw [← uH, ← Bb]; exact Iff.rfl
theorem zg {x y:aI}:mi x y=false↔y.bW≤x.bW:=by
  rw [← Bool.not_eq_true,wy]; exact List.not_lt
theorem FE:xE mi where
  CR x:=zg.2 (List.le_refl _)
  tr x y z a b:=wy.2 (List.lt_trans (wy.1 a) (wy.1 b))
  nt x y z a b:=zg.2 (List.le_trans (zg.1 b) (zg.1 a))
theorem zR {P R:List aI} {i:Nat} (h:i < P.length):at_ (P++R) i=at_ P i:=by
  unfold at_; rw [List.getD_eq_getElem?_getD,List.getD_eq_getElem?_getD,List.getElem?_append_left h]
theorem FH {P R:List aI} {i:Nat} (h:P.length≤i):at_ (P++R) i=at_ R (i - P.length):=by
  unfold at_; rw [List.getD_eq_getElem?_getD,List.getD_eq_getElem?_getD,List.getElem?_append_right h]
theorem Ey {Z:List aI} (h:Fs mi Z) {i j:Nat} (b:i≤j) (a:j < Z.length):mi (at_ Z j) (at_ Z i)=false:=by
  unfold at_
  rw [List.getD_eq_getElem?_getD,List.getD_eq_getElem?_getD,List.getElem?_eq_getElem a,List.getElem?_eq_getElem e6]
  by_cases e:i=j
  · subst e; exact FE.CR _
  · exact List.pairwise_iff_getElem.1 h i j e6 a e6
theorem Ck {P Z Q:List aI} {i:Nat} (a:P.length≤i) (b:i < P.length+Z.length):at_ (P++(Z++Q)) i=at_ Z (i - P.length):=by
  rw [FH a,zR e6]
end Go.Proofs.YtbkagebjhbphaaaGreat
namespace Go.Proofs.YtbkagebjhbphaaaGreat
set_option maxRecDepth 100000
set_option linter.unusedVariables false
set_option linter.unusedSimpArgs false
def Bs (B k:Nat) (l:List aI):Prop:=∀ i j,i≤j→j < k→i / B=j / B→mi (at_ l j) (at_ l i)=false
theorem Cm {i a B:Nat} (hB:1≤B) (h:i < a *B):i / B < a:=Nat.div_lt_of_lt_mul (by rw [Nat.mul_comm]; exact h)
theorem Co {i a B:Nat} (hB:1≤B) (h:a *B≤i):a≤i / B:=(Nat.le_div_iff_mul_le e6).2 h
theorem Bs.step {B a k:Nat} {P Z Q:List aI} (hB:1≤B) (hP:P.length=a *B) (hZ:Z.length≤B) (hk:k≤P.length+Z.length) (h:Bs B P.length P) (hs:Fs mi Z):Bs B k (P++(Z++Q)):=fun i j b e d=>by
  by_cases c:j < P.length
  · rw [zR c,zR e6]; exact h i j b c d
  · have hj:=Co (i:=j) (a:=a) hB e6
    have hi:P.length≤i:=by
      apply Classical.byContradiction
      intro q
      have:=Cm (i:=i) (a:=a) hB e6
      omega
    rw [Ck hi e6,Ck e6 e6]
    exact Ey hs e6 e6
theorem JK {B k:Nat} {P R:List aI} (h:Bs B k (P++R)) (hk:P.length≤k):Bs B P.length P:=fun i j a b c=>by
  have:=h i j a e6 c
  rw [zR b,zR e6] at this
  exact this
end Go.Proofs.YtbkagebjhbphaaaGreat
namespace Go.Proofs.YtbkagebjhbphaaaGreat
open List renaming flatMap→q6,length→s2,map→s8,mem_of_getElem?→E0
open Sum renaming inl→C1,inr→C3
set_option maxRecDepth 100000
open Go.RowKit
set_option linter.unusedVariables false
set_option linter.unusedSectionVars false
set_option linter.unusedSimpArgs false
def gL (l0:List bv) (b:Nat):List Int→Unit ⊕ Int
  | []=>C1 ()
  | a::c=>if a < 0 then C3 (1) else if a ≥ ((l0.length:Nat):Int) then C3 (1) else gL l0 b c
def fT (l0:List bv) (e:List (Ll aS)):List gq→Nat→Unit ⊕ Int
  | [],a=>C1 ()
  | b::d,a=>if((b.aF.ls.length:Nat):Int)=((b.aH.ls.length:Nat):Int) then bnd (List.getD e a default) fun c=>if((b.aF.ls.length:Nat):Int)=((c.ls.length:Nat):Int) then sK (gL l0 a b.aH.ls) fun _=>fT l0 e d (a+1) else C3 (1) else C3 (1)
def kw (l0:List bv) (l1:List gq) (a:List (Ll aS)):Int:=
 if((a.length:Nat):Int)=((l1.length:Nat):Int) then lp (fT l0 a l1 0) fun _=>0 else 1
theorem uV (w D N n0 P l0 L n1 S d1 l1 I n2 Q d2 l r0) (H:Own w D w []) (bn:Ro w D fun w'=>bA w' 6 N n0 (q6 bv.cells l0)) (ay:n0=l0.length) (bq:l0.length *80≤211106232532992) (T:s8 bD.abs d1=l1) (O:Ro w D fun w'=>bA w' 3 L n1 (q6 bD.cells d1)) (y:∀ x ∈ d1,Ro w D (fun w'=>bA w' 6 x.aF.A x.aF.ls.length (q6 bv.cells x.aF.ls))∧(x.aF.ls.length≤x.aF.c∧x.aF.ls.length≤9223372036854775807)∧Ro w D (fun w'=>bA w' 1 x.aH.A x.aH.ls.length (q6 (eI .i64) x.aH.ls))∧(x.aH.ls.length≤x.aH.c∧x.aH.ls.length≤9223372036854775807)) (aA:n1=l1.length) (bu:l1.length *56≤211106232532992) (U:s8 bK.abs d2=l) (V:Ro w D fun w'=>bA w' 1 I n2 (q6 (GD (β:=ae)) d2)) (aB:∀ x ∈ d2,Ro w D (fun w'=>bA w' 3 x.A x.ls.length (q6 ae.cells x.ls))∧(x.ls.length≤x.c∧x.ls.length≤9223372036854775807)∧(∀ R ∈ x.ls,Ro w D (fun w'=>bA w' 2 R.aj.A R.aj.ls.length (q6 aI.cells R.aj.ls))∧(R.aj.ls.length≤R.aj.c∧R.aj.ls.length≤9223372036854775807))) (aC:n2=l.length) (bz:l.length *24≤211106232532992) (hr:kw l0 l1 l=r0):
    Calls Tryz.prog 148 #[.slice N n0 P, .slice L n1 S, .slice I n2 Q] w (dR fun v w'=>v=vI r0∧Own w D w' []):=by
 subst ay aA aC
 have aV:=az T
 have aW:=az U
 refine cb Tryz.func148 ?_
 refine sr (An rfl (FW (sr (Mz rfl (Kz (vJ l.length) (Mz rfl (Kz (vJ l1.length) (fw (.bool (decide (¬ (((l.length:Nat):Int)=((l1.length:Nat):Int))))) (Gm (e:= !(decide (((l.length:Nat):Int)=((l1.length:Nat):Int)))) yk decide_not.symm) (nt ?_)))))))))
 by_cases n:((l.length:Nat):Int)=((l1.length:Nat):Int)
 refine jF (dF (JR n)) (sk (FW (sr (Mz rfl (Kz (vJ l1.length) (Mn rfl (bo ?_)))))))
 have aD:=H.pk []
 obtain⟨aF,z⟩:=mZ fun (b:Nat) w'=>Own w D w' []∧b≤l1.length∧fT l0 l l1 0=fT l0 l (List.drop b l1) b
 refine Wp.loop (fun i:Nat=> [(6,vI 0),(18,vJ i),(17,vJ l1.length),(16, .slice L l1.length S),(0, .slice N l0.length P),(2, .slice I l.length Q)]) aF (fun i=>l1.length - i) 0 ⟨rfl,rfl,rfl,rfl,rfl,rfl,trivial⟩ (z.2 ⟨aD,e6,rfl⟩) ?_
 rintro b bB W
 obtain⟨B,aX,m⟩:=z.1 W
 refine sr (Kz (.bool (decide (((b:Nat):Int) < ((l1.length:Nat):Int)))) (nt (FW ?_)))
 by_cases X:((b:Nat):Int) < ((l1.length:Nat):Int)
 obtain⟨a,h⟩:=dK (ls:=d1) (i:=b) bD.len f3 (B.ro O) e9
 have Y:=fo T h
 have aY:=(y _ (E0 h)).2.1
 have aZ:=(y _ (E0 h)).2.2.2
 have o:=drop_at Y
 refine jT (dT X) (sk (FW (bo (sr (Mz rfl (fw (.pointer (some ⟨ab L,ao L+b *3,none⟩)) (F4 (tK) rfl rfl ((B.ro O).addr (i:=b) e6) e6) (fw (.agg (bD.cells a).toArray) (F7 rfl (Gf (cs:=(bD.cells a)) Tryz.isAgg172 Tryz.sizeOf172 ((B.ro O).elem bD.len h f3))) ?_)))))))
 refine dM [vI 0, .slice none 0 0, .slice none 0 0] 172 B ?_
 intro C bC aG
 refine Az rfl ?_
 refine dN (bD.cells a) 0 aG Tryz.sizeOf172 ?_
 intro bE aH
 refine nt (FW (FW ?_))
 refine vo [] (Gb (Gb (bL.block (Gb (Gb (bL.block (Gb Gj))))))) aH ?_
 intro bG J
 refine qp C 1 0 rfl (ql 1 rfl 0 Tryz.isAgg39 rfl rfl rfl (qk (vJ a.aF.ls.length) 2 rfl (qp C 2 3 rfl (ql 4 rfl 0 Tryz.isAgg58 rfl rfl rfl (qk (vJ a.aH.ls.length) 5 rfl (qt (v:= .bool (decide (¬ (((a.aF.ls.length:Nat):Int)=((a.aH.ls.length:Nat):Int))))) 6 rfl (fun _ _=>Gm (e:= !(decide (((a.aF.ls.length:Nat):Int)=((a.aH.ls.length:Nat):Int)))) yk decide_not.symm) (qv 7 rfl rfl ?_)))))))
 by_cases d:((a.aF.ls.length:Nat):Int)=((a.aH.ls.length:Nat):Int)
 refine F8 (v:=vP C 1) (rs:= []) 8 rfl rfl rfl (dF (JR d)) e7 (fun _ _=>yk) (F8 (v:= .slice a.aF.A a.aF.ls.length a.aF.c) (rs:= []) 9 rfl rfl rfl (dF (JR d)) e7 (fun _ ⟨_,Z⟩=>F7 rfl (bX.one Tryz.isAgg39 (jL.of (Z.cls (i:=0) rfl) rfl))) (F8 (v:=vJ a.aF.ls.length) (rs:= []) 10 rfl rfl rfl (dF (JR d)) e7 (fun _ _=>yk) (F8 (v:= .slice I l.length Q) (rs:= []) 11 rfl rfl rfl (dF (JR d)) e7 (fun _ _=>F9 rfl) (F8 (v:=vJ b) (rs:= []) 12 rfl rfl rfl (dF (JR d)) e7 (fun _ _=>F9 rfl) ?_))))
 obtain⟨j,E⟩:=jo (ls:=d2) (i:=b) e9
 have s:=fo U E
 have bf:=(aB _ (E0 E)).2.1
 have bg:s2 (s8 ae.abs j.ls)=j.ls.length:=List.length_map ..
 refine F8 (v:= .pointer (some ⟨ab I,ao I+b *1,none⟩)) (rs:= []) 13 rfl rfl rfl (dF (JR d)) e7 (fun _ ⟨_,Z⟩=>F4 (wu) rfl rfl ((Z.ro V).addr (i:=b) e6) e6) (F8 (v:= .slice j.A j.ls.length j.c) (rs:= []) 14 rfl rfl rfl (dF (JR d)) e7 (fun _ ⟨_,Z⟩=>F7 rfl (bX.one Tryz.isAgg40 (((Z.ro V).elem rf E f3).at_ (k:=0) rfl))) (F8 (v:=vJ (s2 (s8 ae.abs j.ls))) (rs:= []) 15 rfl rfl rfl (dF (JR d)) e7 (fun _ _=>FX (e:=((j.ls.length:Nat):Int)) yk j0) (F8 (v:= .bool (decide (¬ (((a.aF.ls.length:Nat):Int)=((s2 (s8 ae.abs j.ls):Nat):Int))))) (rs:= []) 16 rfl rfl rfl (dF (JR d)) e7 (fun _ _=>Gm (e:= !(decide (((a.aF.ls.length:Nat):Int)=((s2 (s8 ae.abs j.ls):Nat):Int)))) yk decide_not.symm) (qt (v:= .bool (decide (¬ (((a.aF.ls.length:Nat):Int)=((s2 (s8 ae.abs j.ls):Nat):Int))))) 17 rfl (fun _ _=>FZ rfl (dF (JR d)) rfl) (qn (FY ?_))))))
 by_cases u:((a.aF.ls.length:Nat):Int)=((s2 (s8 ae.abs j.ls):Nat):Int)
 refine jF (dF (JR u)) (sk (sr (Kz (vP C 2) (Lz (.slice a.aH.A a.aH.ls.length a.aH.c) J 0 Tryz.isAgg58 (Kz (vJ a.aH.ls.length) (Mn rfl (bo ?_)))))))
 have aJ:=J.pf []
 obtain⟨aK,F⟩:=mZ fun (f:Nat) w'=>Own w D w' [blk C (bD.cells a) 172]∧f≤a.aH.ls.length∧gL l0 b a.aH.ls=gL l0 b (List.drop f a.aH.ls)
 refine Wp.loop (fun i:Nat=> [(6,vI 0),(44,vJ i),(43,vJ a.aH.ls.length),(42, .slice a.aH.A a.aH.ls.length a.aH.c),(18,vJ b),(17,vJ l1.length),(16, .slice L l1.length S),(0, .slice N l0.length P),(2, .slice I l.length Q)]) aK (fun i=>a.aH.ls.length - i) 0 ⟨rfl,rfl,rfl,rfl,rfl,rfl,rfl,rfl,rfl,trivial⟩ (F.2 ⟨aJ,e6,rfl⟩) ?_
 rintro f bH aa
 obtain⟨p,bi,t⟩:=F.1 aa
 refine sr (Kz (.bool (decide (((f:Nat):Int) < ((a.aH.ls.length:Nat):Int)))) (nt (FW ?_)))
 by_cases af:((f:Nat):Int) < ((a.aH.ls.length:Nat):Int)
 obtain⟨r,M⟩:=dK (ls:=a.aH.ls) (i:=f) iI f3 (p.ro (y _ (E0 h)).2.2.1) e9
 have G:=drop_at M
 refine jT (dT af) (sk (FW (bo (sr (fw (.pointer (some ⟨ab a.aH.A,ao a.aH.A+f *1,none⟩)) (F4 (nk) rfl rfl ((p.ro (y _ (E0 h)).2.2.1).addr (i:=f) e6) e6) (fw (vI r) (F7 rfl (bX.one Tryz.isAgg3 (((p.ro (y _ (E0 h)).2.2.1).elem iI M f3).at_ (k:=0) rfl))) (Ar rfl (Mz rfl (Kz (.bool (decide (r < 0))) (Mz rfl ?_))))))))))
 by_cases g:r < 0
 refine Sz (dT g) (Sz (dT g) (Sz (dT g) (Sz (dT g) (fw (.bool true) (Gd rfl (dT g) rfl) (nt (jt (sr (An rfl (rt (bR (tR (tR (bR (bR (tR (tR (bR (tR (rs ?_)))))))))))))))))))
 have aL:=p.pk []
 obtain rfl:_=1:=hr.symm.trans (et (ip n) (jq (et (m) (et (congrArg (fun q=>fT l0 l q b) o) (et (ip d) (et (ai (bF s)) (et (ip u) (qw (et (t) (et (congrArg (fun q=>gL l0 b q) G) (ip g)))))))))))
 exact⟨rfl,aL⟩
 refine gw (vI r) (dF g) (F9 rfl) (gw (.slice N l0.length P) (dF g) (F9 rfl) (Gz (vJ l0.length) (dF g) (Gz (.bool (decide (r ≥ ((l0.length:Nat):Int)))) (dF g) (fw (.bool (decide (r ≥ ((l0.length:Nat):Int)))) (FZ rfl (dF g) rfl) (nt ?_)))))
 by_cases K:r ≥ ((l0.length:Nat):Int)
 refine jT (dT K) (sr (An rfl (rt (bR (tR (tR (bR (bR (tR (tR (bR (tR (rs ?_)))))))))))))
 have aM:=p.pk []
 obtain rfl:_=1:=hr.symm.trans (et (ip n) (jq (et (m) (et (congrArg (fun q=>fT l0 l q b) o) (et (ip d) (et (ai (bF s)) (et (ip u) (qw (et (t) (et (congrArg (fun q=>gL l0 b q) G) (et (iN g) (ip K))))))))))))
 exact⟨rfl,aM⟩
 refine jF (dF K) (Gn (bN (FY (FV (fw (vJ (f+1)) (FX (e:=IntKind.i64.wrap (((f:Nat):Int)+1)) yk f1) (Mz rfl (WL.nil ?_)))))))
 have aN:=p.pf []
 exact Gc (f+1) ⟨rfl,rfl,rfl,rfl,rfl,rfl,rfl,rfl,rfl,trivial⟩ (F.2 ⟨aN,e6,et (t) (et (congrArg (fun q=>gL l0 b q) G) (et (iN g) (iN K)))⟩) (by show a.aH.ls.length - (f+1) < a.aH.ls.length - f; omega)
 refine jF (dF af) (Wp.exit (F6 ?_))
 have ag:gL l0 b a.aH.ls=C1 ():=et (t) (et (congrArg (fun q=>gL l0 b q) (eZ (ls:=a.aH.ls) (i:=f) e6)) rfl)
 refine F6 (Gi (bN (FY (FV (fw (vJ (b+1)) (FX (e:=IntKind.i64.wrap (((b:Nat):Int)+1)) yk f1) (Mz rfl (WL.nil ?_)))))))
 have aO:=p.pk []
 exact Gc (b+1) ⟨rfl,rfl,rfl,rfl,rfl,rfl,trivial⟩ (z.2 ⟨aO,e6,et (m) (et (congrArg (fun q=>fT l0 l q b) o) (et (ip d) (et (ai (bF s)) (et (ip u) (tH ag)))))⟩) (by show l1.length - (b+1) < l1.length - b; omega)
 refine jT (dT u) (sr (An rfl (rt (tR (bR (tR (tR (bR (tR (rs ?_))))))))))
 have aP:=J.pk []
 obtain rfl:_=1:=hr.symm.trans (et (ip n) (jq (et (m) (et (congrArg (fun q=>fT l0 l q b) o) (et (ip d) (et (ai (bF s)) (iN u)))))))
 exact⟨rfl,aP⟩
 refine F5 (rs:= []) 8 rfl rfl rfl (dT d) e7 (F5 (rs:= []) 9 rfl rfl rfl (dT d) e7 (F5 (rs:= []) 10 rfl rfl rfl (dT d) e7 (F5 (rs:= []) 11 rfl rfl rfl (dT d) e7 (F5 (rs:= []) 12 rfl rfl rfl (dT d) e7 (F5 (rs:= []) 13 rfl rfl rfl (dT d) e7 (F5 (rs:= []) 14 rfl rfl rfl (dT d) e7 (F5 (rs:= []) 15 rfl rfl rfl (dT d) e7 (F5 (rs:= []) 16 rfl rfl rfl (dT d) e7 (qt (v:= .bool true) 17 rfl (fun _ _=>Gd rfl (dT d) rfl) (qn (FY (jt (sr (An rfl (rt (tR (bR (tR (tR (bR (tR (rs ?_))))))))))))))))))))))
 have aQ:=J.pk []
 obtain rfl:_=1:=hr.symm.trans (et (ip n) (jq (et (m) (et (congrArg (fun q=>fT l0 l q b) o) (iN d)))))
 exact⟨rfl,aQ⟩
 refine jF (dF X) (Wp.exit (F6 ?_))
 have ah:fT l0 l l1 0=C1 ():=et (m) (et (congrArg (fun q=>fT l0 l q b) (eZ (ls:=l1) (i:=b) e6)) rfl)
 refine F6 (Gi (FY (sr (An rfl (rt (rs ?_))))))
 have aR:=B.pk []
 obtain rfl:_=0:=hr.symm.trans (et (ip n) (nU ah))
 exact⟨rfl,aR⟩
 refine jT (dT n) (sr (An rfl (rt (tR (rs ?_)))))
 have aT:=H.pk []
 obtain rfl:_=1:=hr.symm.trans (iN n)
 exact⟨rfl,aT⟩
end Go.Proofs.YtbkagebjhbphaaaGreat
