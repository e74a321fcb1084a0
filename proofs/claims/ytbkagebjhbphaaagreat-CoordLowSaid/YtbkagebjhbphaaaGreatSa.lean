/-
 a stable sort of pairs: the library's text told.
-/
import Derived.Test.YtbkagebjhbphaaaGreatKx
import Derived.Test.YtbkagebjhbphaaaGreatWiX
import Derived.Test.YtbkagebjhbphaaaGreatStM
import Derived.Test.YtbkagebjhbphaaaGreatCs
namespace Go.Proofs.YtbkagebjhbphaaaGreat
set_option maxRecDepth 100000
open Go.RowKit
set_option linter.unusedVariables false
set_option linter.unusedSectionVars false
set_option linter.unusedSimpArgs false
def kV (a:List UInt8) (b:List UInt8):Int:=
 Lib.compareBytes a b
theorem o7 (w:World) (D:Nat→Prop) (a:List UInt8) (b:List UInt8) (d:Int) (H:Own w D w []) (hr:kV a b=d):
    Calls Tryz.prog 192 #[.string ⟨List.toArray a⟩, .string ⟨List.toArray b⟩] w (dW fun v w'=>v=vI d∧Own w D w' []):=by
 refine cb Tryz.func192 ?_
 refine sr (Ar rfl (Mz rfl (Mz rfl (fw (vI (Lib.compareBytes a b)) (HY (run_callFunc_extern Tryz.func203 (by kernel_rfl) (by kernel_rfl) (by kernel_rfl) (e:=Extern.BytealgCompare.compare) (by kernel_rfl)) rfl) (An rfl (rt (rs ?_)))))))
 have c:=H.pk []
 obtain rfl:_=Lib.compareBytes a b:=hr.symm.trans rfl
 exact⟨rfl,c⟩
def strings_Compare (b:List UInt8) (c:List UInt8):Int:=
 bnd (kV b c) fun a=>a
theorem uV (w:World) (D:Nat→Prop) (f:List UInt8) (g:List UInt8) (j:Int) (H:Own w D w []) (hr:strings_Compare f g=j):
    Calls Tryz.prog 167 #[.string ⟨List.toArray f⟩, .string ⟨List.toArray g⟩] w (dW fun v w'=>v=vI j∧Own w D w' []):=by
 refine cb Tryz.func167 ?_
 refine sr (Ar rfl (Mz rfl (Mz rfl ?_)))
 obtain⟨b,a⟩:∃ q,kV f g=q:=⟨_,rfl⟩
 obtain⟨m,c,k,d,l⟩:=EU H
 refine cl Tryz.call192 (o7 _ _ f g b c a) ?_
 rintro _ n ⟨rfl,e⟩
 have h:=d _ _ e
 refine An rfl (rt (rs ?_))
 have i:=h.pk []
 obtain rfl:_=b:=hr.symm.trans (ai a)
 exact⟨rfl,i⟩
def iQ (b:aL) (c:aL):Int:=
 bnd (strings_Compare b.cu c.cu) fun a=>a
theorem mI (w:World) (D:Nat→Prop) (c:aL) (d:aL) (n:Int) (H:Own w D w []) (hr:iQ c d=n):
    Calls Tryz.prog 166 #[.agg (aL.cells c).toArray, .agg (aL.cells d).toArray] w (dW fun v w'=>v=vI n∧Own w D w' []):=by
 refine cb Tryz.func166 ?_
 refine sr ?_
 refine dP (aL.cells c) 153 H ?_
 intro i r j
 refine dP (aL.cells d) 153 j ?_
 intro k s b
 refine Ar rfl (Kz (vP i 0) (Lz (.string ⟨List.toArray c.cu⟩) b 1 Tryz.isAgg9 (Kz (vP k 0) (Lz (.string ⟨List.toArray d.cu⟩) b 0 Tryz.isAgg9 ?_))))
 obtain⟨e,a⟩:∃ q,strings_Compare c.cu d.cu=q:=⟨_,rfl⟩
 obtain⟨t,f,o,g,p⟩:=EU b
 refine cl Tryz.call167 (uV _ _ c.cu d.cu e f a) ?_
 rintro _ u ⟨rfl,h⟩
 have l:=g _ _ h
 refine An rfl (rt (rs ?_))
 have m:=l.pk []
 obtain rfl:_=e:=hr.symm.trans (ai a)
 exact⟨rfl,m⟩
def gW (g:Int):Nat→Int→List aL→(List aL)
  | 0,a,b=>default
  | f+1,a,b=>if a > g then bnd (List.getD b (Int.toNat a) default) fun c=>bnd (List.getD b (Int.toNat (a - 1)) default) fun d=>bnd (iQ c d) fun e=>if e < 0 then gW g f (a - 1) (List.set (List.set b (Int.toNat a) (aL.mk d.cu d.aV)) (Int.toNat (a - 1)) (aL.mk c.cu c.aV)) else b else b
def gX (c:Int) (e:Int):Nat→Int→List aL→(List aL)
  | 0,a,b=>default
  | d+1,a,b=>if a < e then bnd (bnd (gW c ((Int.toNat (a - c))+1) a b) fun sLrLstJjL=>sLrLstJjL) fun sJrLstJ=>gX c e d (a+1) sJrLstJ else b
def iD (l0:List aL) (a:Int) (b:Int):(List aL):=
 bnd (gX a b ((Int.toNat (b - (a+1)))+1) (a+1) l0) fun sLrL=>sLrL
theorem lh (w:World) (D:Nat→Prop) (g:Option Addr) (n0 p:Nat) (l0:List aL) (d:Int) (k:Int) (r0:List aL) (H:Own w D w [row g n0 p (List.flatMap aL.cells l0) 153 2]) (af:n0=l0.length) (aS:l0.length *32≤211106232532992) (aT:0≤d∧d≤k∧k≤((l0.length:Nat):Int)) (hr:iD l0 d k=r0):
    Calls Tryz.prog 201 #[.slice g n0 p,vI d,vI k, .func (.func 166) #[] #[]] w (dW fun v w'=>v= .tuple #[]∧Own w D w' [row g n0 p (List.flatMap aL.cells r0) 153 2]∧(r0.length=l0.length)):=by
 subst af
 have aU:=H.rowC (i:=0) rfl
 refine cb Tryz.func201 ?_
 refine sr (Mz rfl (fw (vI (d+1)) (EQ (e:=IntKind.i64.wrap (d+1)) yk (by rw [IR _ (by omega)])) (An rfl (bo ?_))))
 have ag:=H.pf []
 obtain⟨ah,s⟩:=qo fun(c:Int) (m:List aL) (t:Nat) (w':World)=>Own w D w' [row g l0.length p (List.flatMap aL.cells m) 153 2]∧m.length=l0.length∧d+1≤c∧Int.toNat (k - c) < t∧gX d k ((Int.toNat (k - (d+1)))+1) (d+1) l0=gX d k t c m
 refine Wp.loop (fun i:Int × (List aL) × Nat=> [(8,vI i.1),(0, .slice g l0.length p),(1,vI d),(2,vI k),(3, .func (.func 166) #[] #[])]) ah (fun i=>i.2.2) (d+1,l0,(Int.toNat (k - (d+1)))+1) ⟨rfl,rfl,rfl,rfl,rfl,trivial⟩ (s.2 ⟨ag,by first | omega | (simp only [List.length_set] <;> omega) | (simp only [List.length_replicate]),by omega,by omega,rfl⟩) ?_
 rintro ⟨c,m,t⟩ aV O
 show Wp _ _ _ [(8,vI c),(0, .slice g l0.length p),(1,vI d),(2,vI k),(3, .func (.func 166) #[] #[])] _ _
 obtain⟨P,aG,aH,aI,I⟩:=s.1 O
 obtain⟨K,Q⟩:∃ q,t=q+1:=⟨t - 1,by omega⟩
 subst Q
 refine EP (sr (Mz rfl (Mz rfl (Kz (.bool (decide (c < k))) (nt ?_)))))
 by_cases E:c < k
 refine jT (dT E) (sk (EP ?_))
 obtain⟨aj,u⟩:=l8 fun(x:List aL) (w':World)=>Own w D w' [row g l0.length p (List.flatMap aL.cells x) 153 2]∧x.length=l0.length∧(bnd (gW d ((Int.toNat (c - d))+1) c m) fun sLrLstJjL=>sLrLstJjL)=x
 refine FQ (fun i:(List aL)=> [(8,vI c),(0, .slice g l0.length p),(1,vI d),(2,vI k),(3, .func (.func 166) #[] #[])]) aj ?_ ?_
 refine bo (sr (Mz rfl (An rfl (bo ?_))))
 have ak:=P.pf []
 obtain⟨au,z⟩:=qo fun(a:Int) (h:List aL) (A:Nat) (w':World)=>Own w D w' [row g l0.length p (List.flatMap aL.cells h) 153 2]∧h.length=l0.length∧(d≤a∧a < k)∧Int.toNat (a - d) < A∧gW d ((Int.toNat (c - d))+1) c m=gW d A a h
 refine Wp.loop (fun i:Int × (List aL) × Nat=> [(9,vI i.1),(8,vI c),(0, .slice g l0.length p),(1,vI d),(2,vI k),(3, .func (.func 166) #[] #[])]) au (fun i=>i.2.2) (c,m,(Int.toNat (c - d))+1) ⟨rfl,rfl,rfl,rfl,rfl,rfl,trivial⟩ (z.2 ⟨ak,by first | omega | (simp only [List.length_set] <;> omega) | (simp only [List.length_replicate]),by omega,by omega,rfl⟩) ?_
 rintro ⟨a,h,A⟩ aW R
 show Wp _ _ _ [(9,vI a),(8,vI c),(0, .slice g l0.length p),(1,vI d),(2,vI k),(3, .func (.func 166) #[] #[])] _ _
 obtain⟨av,aJ,aK,aM,B⟩:=z.1 R
 obtain⟨L,S⟩:∃ q,A=q+1:=⟨A - 1,by omega⟩
 subst S
 refine EP (EP ?_)
 refine uE [] (E9 (E9 (E9 (bS.block (bS.block (E9 (E9 (bS.block Fp)))))))) av ?_
 intro aX T
 refine qv 0 rfl rfl (qv 1 rfl rfl (qk (.bool (decide (a > d))) 2 rfl (qv 3 rfl rfl ?_)))
 by_cases b:a > d
 refine EZ (v:= .func (.func 166) #[] #[]) (rs:= []) 4 rfl rfl rfl (dT b) (by kernel_rfl) (fun _ _=>E5 rfl) (EZ (v:= .slice g l0.length p) (rs:= []) 5 rfl rfl rfl (dT b) (by kernel_rfl) (fun _ _=>E5 rfl) (EZ (v:=vJ (Int.toNat a)) (rs:= []) 6 rfl rfl rfl (dT b) (by kernel_rfl) (fun _ _=>EQ (e:=a) (E5 rfl) (by omega)) ?_))
 obtain⟨j,l⟩:=jl (ls:=h) (i:=Int.toNat a) (by first | omega | (simp; done) | (simp; omega))
 refine EZ (v:= .pointer (some ⟨ab g,ao g+(Int.toNat a) *2,none⟩)) (rs:= []) 7 rfl rfl rfl (dT b) (by kernel_rfl) (fun _ ⟨_,n⟩=>ET (jL) rfl rfl ((n.rds (i:=0) rfl).addr (i:=Int.toNat a) (by omega)) (by omega)) (EZ (v:= .agg (aL.cells j).toArray) (rs:= []) 8 rfl rfl rfl (dT b) (by kernel_rfl) (fun _ ⟨_,n⟩=>EY rfl (Fb (cs:=(aL.cells j)) Tryz.isAgg153 Tryz.sizeOf153 ((n.rds (i:=0) rfl).elem aL.len l (by decide)))) (EZ (v:= .slice g l0.length p) (rs:= []) 9 rfl rfl rfl (dT b) (by kernel_rfl) (fun _ _=>E5 rfl) (EZ (v:=vI a) (rs:= []) 10 rfl rfl rfl (dT b) (by kernel_rfl) (fun _ _=>E5 rfl) (EZ (v:=vJ (Int.toNat (a - 1))) (rs:= []) 11 rfl rfl rfl (dT b) (by kernel_rfl) (fun _ _=>EQ (e:=IntKind.i64.wrap (a - 1)) yk (by rw [IR _ (by omega)]; omega)) ?_))))
 obtain⟨f,r⟩:=jl (ls:=h) (i:=Int.toNat (a - 1)) (by first | omega | (simp; done) | (simp; omega))
 refine EZ (v:= .pointer (some ⟨ab g,ao g+(Int.toNat (a - 1)) *2,none⟩)) (rs:= []) 12 rfl rfl rfl (dT b) (by kernel_rfl) (fun _ ⟨_,n⟩=>ET (jL) rfl rfl ((n.rds (i:=0) rfl).addr (i:=Int.toNat (a - 1)) (by omega)) (by omega)) (EZ (v:= .agg (aL.cells f).toArray) (rs:= []) 13 rfl rfl rfl (dT b) (by kernel_rfl) (fun _ ⟨_,n⟩=>EY rfl (Fb (cs:=(aL.cells f)) Tryz.isAgg153 Tryz.sizeOf153 ((n.rds (i:=0) rfl).elem aL.len r (by decide)))) ?_)
 obtain⟨F,C⟩:∃ q,iQ j f=q:=⟨_,rfl⟩
 obtain⟨aY,U,aN,V,aO⟩:=EU T
 refine Gg 14 rfl rfl rfl (dT b) (by kernel_rfl) (Fw Tryz.call166 rfl rfl (mI _ _ j f F U C) ?_)
 rintro _ aZ ⟨rfl,W⟩
 have M:=V _ _ W
 refine⟨.inr ⟨_,M⟩, ?_⟩
 refine EZ (v:= .bool (decide (F < 0))) (rs:= []) 15 rfl rfl rfl (dT b) (by kernel_rfl) (fun _ _=>yk) (qt (v:= .bool (decide (F < 0))) 16 rfl (fun _ _=>Fa rfl (dT b) rfl) (qn (ER ?_)))
 by_cases G:F < 0
 refine jT (dT G) (sk (EP (bo ?_)))
 refine uE [15,17] (bS.block (E9 (E9 (bS.block (bS.block (E9 (E9 (bS.block Fp)))))))) M ?_
 intro bf ax
 refine qv 0 rfl rfl (qt (v:=vJ (Int.toNat a)) 1 rfl (fun _ _=>EQ (e:=a) (E5 rfl) (by omega)) (Fz (v:= .slice g l0.length p) 2 rfl (by kernel_rfl) (fun _=>E5 rfl) (Fz (v:=vI a) 3 rfl (by kernel_rfl) (fun _=>E5 rfl) (Fz (v:=vJ (Int.toNat (a - 1))) 4 rfl (by kernel_rfl) (fun _=>EQ (e:=IntKind.i64.wrap (a - 1)) yk (by rw [IR _ (by omega)]; omega)) (qv 5 rfl rfl (qv 6 rfl rfl (qt (v:=vJ (Int.toNat (a - 1))) 7 rfl (fun _ _=>EQ (e:=IntKind.i64.wrap (a - 1)) yk (by rw [IR _ (by omega)]; omega)) (qt (v:= .pointer (some ⟨ab g,ao g+(Int.toNat (a - 1)) *2,none⟩)) 8 rfl (fun _ ⟨_,n⟩=>ET (jL) rfl rfl ((n.rds (i:=0) rfl).addr (i:=Int.toNat (a - 1)) (by omega)) (by omega)) (qt (v:= .agg (aL.cells f).toArray) 9 rfl (fun _ ⟨_,n⟩=>EY rfl (Fb (cs:=(aL.cells f)) Tryz.isAgg153 Tryz.sizeOf153 ((n.rds (i:=0) rfl).elem aL.len r (by decide)))) (qv 10 rfl rfl (qt (v:=vJ (Int.toNat a)) 11 rfl (fun _ _=>EQ (e:=a) (E5 rfl) (by omega)) (qt (v:= .pointer (some ⟨ab g,ao g+(Int.toNat a) *2,none⟩)) 12 rfl (fun _ ⟨_,n⟩=>ET (jL) rfl rfl ((n.rds (i:=0) rfl).addr (i:=Int.toNat a) (by omega)) (by omega)) (qt (v:= .agg (aL.cells j).toArray) 13 rfl (fun _ ⟨_,n⟩=>EY rfl (Fb (cs:=(aL.cells j)) Tryz.isAgg153 Tryz.sizeOf153 ((n.rds (i:=0) rfl).elem aL.len l (by decide)))) (qt (v:= .pointer (some ⟨ab g,ao g+(Int.toNat a) *2,none⟩)) 14 rfl (fun _ ⟨_,n⟩=>ET (jL) rfl rfl ((n.rds (i:=0) rfl).addr (i:=Int.toNat a) (by omega)) (by omega)) ?_))))))))))))))
 refine qe 15 rfl (Do.storeRow (vs:=(aL.cells f)) (o:=(Int.toNat a) *2+0) (q:=ao g+(Int.toNat a) *2) ax rfl (by omega) rfl Tryz.sizeOf153 rfl rfl (IQ rfl) (iL aL.len l (IQ rfl)) (jA (y:=(aL.mk f.cu f.aV)) aL.len rfl (IQ rfl) l) ?_)
 intro bg N
 refine⟨.inl (by kernel_rfl), ?_⟩
 obtain⟨bi,aP⟩:=jl (ls:=h) (i:=Int.toNat (a - 1)) (by first | omega | (simp; done) | (simp; omega))
 obtain⟨bn,aQ⟩:=dK (ls:=(List.set h (Int.toNat a) (aL.mk f.cu f.aV))) (i:=Int.toNat (a - 1)) aL.len (by decide) (N.rds (i:=0) rfl) (by first | omega | (simp; done) | (simp; omega))
 refine Fz (v:= .pointer (some ⟨ab g,ao g+(Int.toNat (a - 1)) *2,none⟩)) 16 rfl (by kernel_rfl) (fun _=>ET (jL) rfl rfl ((N.rds (i:=0) rfl).addr (i:=Int.toNat (a - 1)) (by omega)) (by omega)) ?_
 obtain⟨bq,J⟩:=jl (ls:=(List.set h (Int.toNat a) (aL.mk f.cu f.aV))) (i:=Int.toNat (a - 1)) (by first | omega | (simp; done) | (simp; omega))
 refine qe 17 rfl (Do.storeRow (vs:=(aL.cells j)) (o:=(Int.toNat (a - 1)) *2+0) (q:=ao g+(Int.toNat (a - 1)) *2) N rfl (by omega) rfl Tryz.sizeOf153 rfl rfl (IQ rfl) (iL aL.len J (IQ rfl)) (jA (y:=(aL.mk j.cu j.aV)) aL.len rfl (IQ rfl) J) ?_)
 intro bu ay
 refine⟨.inl (by kernel_rfl), ?_⟩
 refine qn (bN (ER (EO (Mz rfl (fw (vI (a - 1)) (EQ (e:=IntKind.i64.wrap (a - 1)) yk (by rw [IR _ (by omega)])) (Az rfl (WL.nil ?_)))))))
 have az:=ay.pf []
 exact E8 (a - 1,(List.set (List.set h (Int.toNat a) (aL.mk f.cu f.aV)) (Int.toNat (a - 1)) (aL.mk j.cu j.aV)),L) ⟨rfl,rfl,rfl,rfl,rfl,rfl,trivial⟩ (z.2 ⟨az,by first | omega | (simp only [List.length_set] <;> omega) | (simp only [List.length_replicate]),by omega,by omega,Eq.trans (B) (Eq.trans (if_pos b) (Eq.trans (ai (bI l)) (Eq.trans (ai (bI r)) (Eq.trans (ai C) (if_pos G)))))⟩) (by show L < L+1; omega)
 refine jF (dF G) (Wp.exit (EX (EX (Fg (bN ?_)))))
 have aA:=M.pf []
 exact FD h ⟨rfl,rfl,rfl,rfl,rfl,trivial⟩ (u.2 ⟨aA,by first | omega | (simp only [List.length_set] <;> omega) | (simp only [List.length_replicate]),ai (Eq.trans (B) (Eq.trans (if_pos b) (Eq.trans (ai (bI l)) (Eq.trans (ai (bI r)) (Eq.trans (ai C) (if_neg G))))))⟩)
 refine EW (rs:= []) 4 rfl rfl rfl (dF b) (by kernel_rfl) (EW (rs:= []) 5 rfl rfl rfl (dF b) (by kernel_rfl) (EW (rs:= []) 6 rfl rfl rfl (dF b) (by kernel_rfl) (EW (rs:= []) 7 rfl rfl rfl (dF b) (by kernel_rfl) (EW (rs:= []) 8 rfl rfl rfl (dF b) (by kernel_rfl) (EW (rs:= []) 9 rfl rfl rfl (dF b) (by kernel_rfl) (EW (rs:= []) 10 rfl rfl rfl (dF b) (by kernel_rfl) (EW (rs:= []) 11 rfl rfl rfl (dF b) (by kernel_rfl) (EW (rs:= []) 12 rfl rfl rfl (dF b) (by kernel_rfl) (EW (rs:= []) 13 rfl rfl rfl (dF b) (by kernel_rfl) (EW (rs:= []) 14 rfl rfl rfl (dF b) (by kernel_rfl) (EW (rs:= []) 15 rfl rfl rfl (dF b) (by kernel_rfl) (qt (v:= .bool false) 16 rfl (fun _ _=>ES rfl (dF b) rfl) (qn (ER (jf (Wp.exit (EX (EX (Fg (bN ?_))))))))))))))))))))
 have aB:=T.pf []
 exact FD h ⟨rfl,rfl,rfl,rfl,rfl,trivial⟩ (u.2 ⟨aB,by first | omega | (simp only [List.length_set] <;> omega) | (simp only [List.length_replicate]),ai (Eq.trans (B) (if_neg b))⟩)
 rintro x bv X
 show Wp _ _ _ [(8,vI c),(0, .slice g l0.length p),(1,vI d),(2,vI k),(3, .func (.func 166) #[] #[])] _ _
 obtain⟨aC,aR,Y⟩:=u.1 X
 refine EO (Mz rfl (fw (vI (c+1)) (EQ (e:=IntKind.i64.wrap (c+1)) yk (by rw [IR _ (by omega)])) (Az rfl (WL.nil ?_))))
 have aD:=aC.pf []
 exact E8 (c+1,x,K) ⟨rfl,rfl,rfl,rfl,rfl,trivial⟩ (s.2 ⟨aD,by first | omega | (simp only [List.length_set] <;> omega) | (simp only [List.length_replicate]),by omega,by omega,Eq.trans (I) (Eq.trans (if_pos E) (ai Y))⟩) (by show K < K+1; omega)
 refine jF (dF E) (Wp.exit (EX ?_))
 have Z:gX d k ((Int.toNat (k - (d+1)))+1) (d+1) l0=m:=et (I) (iN E)
 refine EX (Fg (Ff (res0 rfl) ?_))
 have aF:=P.pf []
 obtain rfl:_=m:=hr.symm.trans (ai Z)
 exact⟨rfl,aF,(by first | rfl | omega | (simp only [List.length_set] <;> omega))⟩
def fH (e:Int) (f:Int) (h:Int):Nat→Nat→List aL→(List aL)
  | 0,a,b=>default
  | g+1,a,b=>if((a:Nat):Int) < h then bnd (List.getD b (Int.toNat (f+((a:Nat):Int))) default) fun c=>bnd (List.getD b (Int.toNat (e+((a:Nat):Int))) default) fun d=>fH e f h g (a+1) (List.set (List.set b (Int.toNat (e+((a:Nat):Int))) (aL.mk c.cu c.aV)) (Int.toNat (f+((a:Nat):Int))) (aL.mk d.cu d.aV)) else b
def eY (l0:List aL) (b:Int) (c:Int) (a:Int):(List aL):=
 bnd (fH b c a ((Int.toNat (a - 0))+1) 0 l0) fun sLrL=>sLrL
theorem kw (w:World) (D:Nat→Prop) (g:Option Addr) (F u:Nat) (l0:List aL) (d:Int) (b:Int) (h:Int) (G:List aL) (H:Own w D w [row g F u (List.flatMap aL.cells l0) 153 2]) (I:F=l0.length) (U:l0.length *32≤211106232532992) (V:0≤d∧0≤b∧0≤h∧d+h≤((l0.length:Nat):Int)∧b+h≤((l0.length:Nat):Int)) (hr:eY l0 d b h=G):
    Calls Tryz.prog 211 #[.slice g F u,vI d,vI b,vI h, .func (.func 166) #[] #[]] w (dW fun v w'=>v= .tuple #[]∧Own w D w' [row g F u (List.flatMap aL.cells G) 153 2]∧(G.length=l0.length)):=by
 subst I
 have W:=H.rowC (i:=0) rfl
 refine cb Tryz.func211 ?_
 refine sr (An rfl (bo ?_))
 have J:=H.pf []
 obtain⟨K,l⟩:=qo fun(a:Nat) (c:List aL) (m:Nat) (w':World)=>Own w D w' [row g l0.length u (List.flatMap aL.cells c) 153 2]∧c.length=l0.length∧0≤a∧Int.toNat (h - a) < m∧fH d b h ((Int.toNat (h - 0))+1) 0 l0=fH d b h m a c
 refine Wp.loop (fun i:Nat × (List aL) × Nat=> [(10,vJ i.1),(0, .slice g l0.length u),(1,vI d),(2,vI b),(3,vI h)]) K (fun i=>i.2.2) (0,l0,(Int.toNat (h - 0))+1) ⟨rfl,rfl,rfl,rfl,rfl,trivial⟩ (l.2 ⟨J,by first | omega | (simp only [List.length_set] <;> omega) | (simp only [List.length_replicate]),by omega,by omega,rfl⟩) ?_
 rintro ⟨a,c,m⟩ X A
 show Wp _ _ _ [(10,vJ a),(0, .slice g l0.length u),(1,vI d),(2,vI b),(3,vI h)] _ _
 obtain⟨B,P,Q,R,r⟩:=l.1 A
 obtain⟨x,C⟩:∃ q,m=q+1:=⟨m - 1,by omega⟩
 subst C
 refine EP (sr (Mz rfl (Mz rfl (Kz (.bool (decide (((a:Nat):Int) < h))) (nt ?_)))))
 by_cases n:((a:Nat):Int) < h
 refine jT (dT n) (sk (EP (bo ?_)))
 refine uE [21,23] (bS.block (E9 (E9 (bS.block Fp)))) B ?_
 intro Y L
 refine qv 0 rfl rfl (qv 1 rfl rfl (qv 2 rfl rfl (qt (v:=vI ((Int.toNat (d+((a:Nat):Int)):Nat):Int)) 3 rfl (fun _ _=>EQ (e:=IntKind.i64.wrap (d+((a:Nat):Int))) yk (by rw [IR _ (by omega)]; omega)) (Fz (v:= .slice g l0.length u) 4 rfl (by kernel_rfl) (fun _=>E5 rfl) (Fz (v:=vI b) 5 rfl (by kernel_rfl) (fun _=>E5 rfl) (Fz (v:=vJ a) 6 rfl (by kernel_rfl) (fun _=>E5 rfl) (Fz (v:=vI ((Int.toNat (b+((a:Nat):Int)):Nat):Int)) 7 rfl (by kernel_rfl) (fun _=>EQ (e:=IntKind.i64.wrap (b+((a:Nat):Int))) yk (by rw [IR _ (by omega)]; omega)) (qv 8 rfl rfl (qv 9 rfl rfl (qv 10 rfl rfl (qt (v:=vI ((Int.toNat (b+((a:Nat):Int)):Nat):Int)) 11 rfl (fun _ _=>EQ (e:=IntKind.i64.wrap (b+((a:Nat):Int))) yk (by rw [IR _ (by omega)]; omega)) ?_)))))))))))
 obtain⟨f,s⟩:=jl (ls:=c) (i:=Int.toNat (b+((a:Nat):Int))) (by first | omega | (simp; done) | (simp; omega))
 refine qt (v:= .pointer (some ⟨ab g,ao g+(Int.toNat (b+((a:Nat):Int))) *2,none⟩)) 12 rfl (fun _ ⟨_,p⟩=>ET (jL) rfl rfl ((p.rds (i:=0) rfl).addr (i:=Int.toNat (b+((a:Nat):Int))) (by omega)) (by omega)) (qt (v:= .agg (aL.cells f).toArray) 13 rfl (fun _ ⟨_,p⟩=>EY rfl (Fb (cs:=(aL.cells f)) Tryz.isAgg153 Tryz.sizeOf153 ((p.rds (i:=0) rfl).elem aL.len s (by decide)))) (qv 14 rfl rfl (qv 15 rfl rfl (qv 16 rfl rfl (qt (v:=vI ((Int.toNat (d+((a:Nat):Int)):Nat):Int)) 17 rfl (fun _ _=>EQ (e:=IntKind.i64.wrap (d+((a:Nat):Int))) yk (by rw [IR _ (by omega)]; omega)) ?_)))))
 obtain⟨j,k⟩:=jl (ls:=c) (i:=Int.toNat (d+((a:Nat):Int))) (by first | omega | (simp; done) | (simp; omega))
 refine qt (v:= .pointer (some ⟨ab g,ao g+(Int.toNat (d+((a:Nat):Int))) *2,none⟩)) 18 rfl (fun _ ⟨_,p⟩=>ET (jL) rfl rfl ((p.rds (i:=0) rfl).addr (i:=Int.toNat (d+((a:Nat):Int))) (by omega)) (by omega)) (qt (v:= .agg (aL.cells j).toArray) 19 rfl (fun _ ⟨_,p⟩=>EY rfl (Fb (cs:=(aL.cells j)) Tryz.isAgg153 Tryz.sizeOf153 ((p.rds (i:=0) rfl).elem aL.len k (by decide)))) (qt (v:= .pointer (some ⟨ab g,ao g+(Int.toNat (d+((a:Nat):Int))) *2,none⟩)) 20 rfl (fun _ ⟨_,p⟩=>ET (jL) rfl rfl ((p.rds (i:=0) rfl).addr (i:=Int.toNat (d+((a:Nat):Int))) (by omega)) (by omega)) ?_))
 refine qe 21 rfl (Do.storeRow (vs:=(aL.cells f)) (o:=(Int.toNat (d+((a:Nat):Int))) *2+0) (q:=ao g+(Int.toNat (d+((a:Nat):Int))) *2) L rfl (by omega) rfl Tryz.sizeOf153 rfl rfl (IQ rfl) (iL aL.len k (IQ rfl)) (jA (y:=(aL.mk f.cu f.aV)) aL.len rfl (IQ rfl) k) ?_)
 intro Z z
 refine⟨.inl (by kernel_rfl), ?_⟩
 obtain⟨aa,S⟩:=jl (ls:=c) (i:=Int.toNat (b+((a:Nat):Int))) (by first | omega | (simp; done) | (simp; omega))
 obtain⟨ae,T⟩:=dK (ls:=(List.set c (Int.toNat (d+((a:Nat):Int))) (aL.mk f.cu f.aV))) (i:=Int.toNat (b+((a:Nat):Int))) aL.len (by decide) (z.rds (i:=0) rfl) (by first | omega | (simp; done) | (simp; omega))
 refine Fz (v:= .pointer (some ⟨ab g,ao g+(Int.toNat (b+((a:Nat):Int))) *2,none⟩)) 22 rfl (by kernel_rfl) (fun _=>ET (jL) rfl rfl ((z.rds (i:=0) rfl).addr (i:=Int.toNat (b+((a:Nat):Int))) (by omega)) (by omega)) ?_
 obtain⟨af,t⟩:=jl (ls:=(List.set c (Int.toNat (d+((a:Nat):Int))) (aL.mk f.cu f.aV))) (i:=Int.toNat (b+((a:Nat):Int))) (by first | omega | (simp; done) | (simp; omega))
 refine qe 23 rfl (Do.storeRow (vs:=(aL.cells j)) (o:=(Int.toNat (b+((a:Nat):Int))) *2+0) (q:=ao g+(Int.toNat (b+((a:Nat):Int))) *2) z rfl (by omega) rfl Tryz.sizeOf153 rfl rfl (IQ rfl) (iL aL.len t (IQ rfl)) (jA (y:=(aL.mk j.cu j.aV)) aL.len rfl (IQ rfl) t) ?_)
 intro ag M
 refine⟨.inl (by kernel_rfl), ?_⟩
 refine qn (bN (ER (EO (Mz rfl (fw (vJ (a+1)) (EQ (e:=IntKind.i64.wrap (((a:Nat):Int)+1)) yk (by rw [IR _ (by omega)]; omega)) (Az rfl (WL.nil ?_)))))))
 have N:=M.pf []
 exact E8 (a+1,(List.set (List.set c (Int.toNat (d+((a:Nat):Int))) (aL.mk f.cu f.aV)) (Int.toNat (b+((a:Nat):Int))) (aL.mk j.cu j.aV)),x) ⟨rfl,rfl,rfl,rfl,rfl,trivial⟩ (l.2 ⟨N,by first | omega | (simp only [List.length_set] <;> omega) | (simp only [List.length_replicate]),by omega,by omega,Eq.trans (r) (Eq.trans (if_pos n) (Eq.trans (ai (bI s)) (ai (bI k))))⟩) (by show x < x+1; omega)
 refine jF (dF n) (Wp.exit (EX ?_))
 have E:fH d b h ((Int.toNat (h - 0))+1) 0 l0=c:=et (r) (iN n)
 refine EX (Fg (Ff (res0 rfl) ?_))
 have O:=B.pf []
 obtain rfl:_=c:=hr.symm.trans (ai E)
 exact⟨rfl,O,(by first | rfl | omega | (simp only [List.length_set] <;> omega))⟩
def dE (d:Int):Nat→Int→Int→List aL→Int × (List aL)
  | 0,a,b,c=>default
  | e+1,a,b,c=>if a=b then(a,c) else if a > b then bnd (eY c (d - a) d b) fun f=>dE d e (a - b) b f else bnd (eY c (d - a) ((d+b) - a) a) fun g=>dE d e a (b - a) g
def ig (l0:List aL) (c:Int) (a:Int) (d:Int):(List aL):=
 bnd (dE a ((Int.toNat ((a - c)+(d - a)))+1) (a - c) (d - a) l0) fun sLrL=>bnd (eY sLrL.2 (a - sLrL.1) a sLrL.1) fun b=>b
theorem pG (w:World) (D:Nat→Prop) (n:Option Addr) (U o:Nat) (l0:List aL) (g:Int) (c:Int) (h:Int) (V:List aL) (H:Own w D w [row n U o (List.flatMap aL.cells l0) 153 2]) (W:U=l0.length) (aC:l0.length *32≤211106232532992) (aD:0≤g∧g < c∧c < h∧h≤((l0.length:Nat):Int)) (hr:ig l0 g c h=V):
    Calls Tryz.prog 209 #[.slice n U o,vI g,vI c,vI h, .func (.func 166) #[] #[]] w (dW fun v w'=>v= .tuple #[]∧Own w D w' [row n U o (List.flatMap aL.cells V) 153 2]∧(V.length=l0.length)):=by
 subst W
 have aF:=H.rowC (i:=0) rfl
 refine cb Tryz.func209 ?_
 refine sr (Mz rfl (Mz rfl (fw (vI (c - g)) (EQ (e:=IntKind.i64.wrap (c - g)) yk (by rw [IR _ (by omega)])) (Ar rfl (Mz rfl (Mz rfl (fw (vI (h - c)) (EQ (e:=IntKind.i64.wrap (h - c)) yk (by rw [IR _ (by omega)])) (An rfl (EP (bo ?_))))))))))
 have X:=H.pf []
 obtain⟨Y,f⟩:=rD fun(a:Int) (b:Int) (d:List aL) (k:Nat) (w':World)=>Own w D w' [row n l0.length o (List.flatMap aL.cells d) 153 2]∧d.length=l0.length∧(1≤a∧1≤b∧a≤c - g∧b≤h - c)∧Int.toNat (a+b) < k∧dE c ((Int.toNat ((c - g)+(h - c)))+1) (c - g) (h - c) l0=dE c k a b d
 refine Wp.loop (fun i:Int × Int × (List aL) × Nat=> [(10,vI i.1),(11,vI i.2.1),(0, .slice n l0.length o),(2,vI c),(4, .func (.func 166) #[] #[])]) Y (fun i=>i.2.2.2) (c - g,h - c,l0,(Int.toNat ((c - g)+(h - c)))+1) ⟨rfl,rfl,rfl,rfl,rfl,trivial⟩ (f.2 ⟨X,by first | omega | (simp only [List.length_set] <;> omega) | (simp only [List.length_replicate]),by omega,by omega,rfl⟩) ?_
 rintro ⟨a,b,d,k⟩ aG E
 show Wp _ _ _ [(10,vI a),(11,vI b),(0, .slice n l0.length o),(2,vI c),(4, .func (.func 166) #[] #[])] _ _
 obtain⟨z,af,ag,ah,l⟩:=f.1 E
 obtain⟨j,F⟩:∃ q,k=q+1:=⟨k - 1,by omega⟩
 subst F
 refine EP (sr (Mz rfl (Mz rfl (fw (.bool (decide (¬ (a=b)))) (Fq (e:= !(decide (a=b))) yk decide_not.symm) (nt ?_)))))
 by_cases m:a=b
 refine jF (dF (IV m)) (Wp.exit (EX ?_))
 have G:dE c ((Int.toNat ((c - g)+(h - c)))+1) (c - g) (h - c) l0=(a,d):=et (l) (ip m)
 refine EX (Fg (ER (EO (Mz rfl (Mz rfl (Mz rfl (fw (vI (c - a)) (EQ (e:=IntKind.i64.wrap (c - a)) yk (by rw [IR _ (by omega)])) (Mz rfl (Mz rfl (Mz rfl ?_))))))))))
 obtain⟨A,r⟩:∃ q,eY d (c - a) c a=q:=⟨_,rfl⟩
 obtain⟨aH,I,aj,J,ak⟩:=Fu z
 refine cl Tryz.call211 (kw _ _ n l0.length o d (c - a) c a A I (by first | rfl | omega | (simp only [List.length_append,List.length_cons,List.length_nil,List.length_take,List.length_drop,List.length_set,List.length_replicate,List.length_map] <;> omega)) (by omega) (by omega) r) ?_
 rintro _ aI ⟨rfl,K,s⟩
 have L:=J _ _ K
 have au:=L.rowC (i:=0) rfl
 replace s:A.length=d.length:=s
 refine WL.nil (Ff (res0 rfl) ?_)
 have Z:=L.pf []
 obtain rfl:_=A:=hr.symm.trans (et (ai G) (ai r))
 exact⟨rfl,Z,(by first | rfl | omega | (simp only [List.length_set] <;> omega))⟩
 refine jT (dT m) (sk (bo (sr (Mz rfl (Mz rfl (Kz (.bool (decide (a > b))) (nt ?_)))))))
 by_cases p:a > b
 refine jT (dT p) (sr (Mz rfl (Mz rfl (Mz rfl (fw (vI (c - a)) (EQ (e:=IntKind.i64.wrap (c - a)) yk (by rw [IR _ (by omega)])) (Mz rfl (Mz rfl (Mz rfl ?_))))))))
 obtain⟨B,t⟩:∃ q,eY d (c - a) c b=q:=⟨_,rfl⟩
 obtain⟨aJ,M,av,N,ax⟩:=Fu z
 refine cl Tryz.call211 (kw _ _ n l0.length o d (c - a) c b B M (by first | rfl | omega | (simp only [List.length_append,List.length_cons,List.length_nil,List.length_take,List.length_drop,List.length_set,List.length_replicate,List.length_map] <;> omega)) (by omega) (by omega) t) ?_
 rintro _ aK ⟨rfl,O,u⟩
 have P:=N _ _ O
 have ay:=P.rowC (i:=0) rfl
 replace u:B.length=d.length:=u
 refine nt (EO (Mz rfl (Mz rfl (fw (vI (a - b)) (EQ (e:=IntKind.i64.wrap (a - b)) yk (by rw [IR _ (by omega)])) (Az rfl (WL.nil (bN ?_)))))))
 have aa:=P.pf []
 exact E8 (a - b,b,B,j) ⟨rfl,rfl,rfl,rfl,rfl,trivial⟩ (f.2 ⟨aa,by first | omega | (simp only [List.length_set] <;> omega) | (simp only [List.length_replicate]),by omega,by omega,Eq.trans (l) (Eq.trans (if_neg m) (Eq.trans (if_pos p) (ai t)))⟩) (by show j < j+1; omega)
 refine jF (dF p) (sr (Mz rfl (Mz rfl (Mz rfl (fw (vI (c - a)) (EQ (e:=IntKind.i64.wrap (c - a)) yk (by rw [IR _ (by omega)])) (Mz rfl (Mz rfl (fw (vI (c+b)) (EQ (e:=IntKind.i64.wrap (c+b)) yk (by rw [IR _ (by omega)])) (Mz rfl (fw (vI ((c+b) - a)) (EQ (e:=IntKind.i64.wrap ((c+b) - a)) yk (by rw [IR _ (by omega)])) (Mz rfl (Mz rfl ?_))))))))))))
 obtain⟨C,x⟩:∃ q,eY d (c - a) ((c+b) - a) a=q:=⟨_,rfl⟩
 obtain⟨aM,Q,az,R,aA⟩:=Fu z
 refine cl Tryz.call211 (kw _ _ n l0.length o d (c - a) ((c+b) - a) a C Q (by first | rfl | omega | (simp only [List.length_append,List.length_cons,List.length_nil,List.length_take,List.length_drop,List.length_set,List.length_replicate,List.length_map] <;> omega)) (by omega) (by omega) x) ?_
 rintro _ aN ⟨rfl,S,y⟩
 have T:=R _ _ S
 have aB:=T.rowC (i:=0) rfl
 replace y:C.length=d.length:=y
 refine nt (EO (Mz rfl (Mz rfl (fw (vI (b - a)) (EQ (e:=IntKind.i64.wrap (b - a)) yk (by rw [IR _ (by omega)])) (Az rfl (WL.nil (bN ?_)))))))
 have ae:=T.pf []
 exact E8 (a,b - a,C,j) ⟨rfl,rfl,rfl,rfl,rfl,trivial⟩ (f.2 ⟨ae,by first | omega | (simp only [List.length_set] <;> omega) | (simp only [List.length_replicate]),by omega,by omega,Eq.trans (l) (Eq.trans (if_neg m) (Eq.trans (if_neg p) (ai x)))⟩) (by show j < j+1; omega)
end Go.Proofs.YtbkagebjhbphaaaGreat
