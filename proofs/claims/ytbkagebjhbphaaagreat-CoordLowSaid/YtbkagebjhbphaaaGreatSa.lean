/-
 a stable sort of pairs: the library's text told.
-/
import Derived.Test.YtbkagebjhbphaaaGreatKx
import Derived.Test.YtbkagebjhbphaaaGreatWiX
import Derived.Test.YtbkagebjhbphaaaGreatStM
import Derived.Test.YtbkagebjhbphaaaGreatCs
namespace Go.Proofs.YtbkagebjhbphaaaGreat
open Int renaming toNat→D2
open IntKind renaming i64→C7
open List renaming flatMap→q6,getD→C2,length_replicate→H4,length_set→H3,set→u5,toArray→y6
open _root_.Go.Proofs.Tryz renaming call211→I8,isAgg153→I6,prog→y4,sizeOf153→I7
open WL renaming nil→D0
open Wp renaming exit→D1,loop→C5
set_option maxRecDepth 100000
open Go.RowKit
set_option linter.unusedVariables false
set_option linter.unusedSectionVars false
set_option linter.unusedSimpArgs false
def kV (a:List UInt8) (b:List UInt8):Int:=
 Lib.compareBytes a b
theorem o7 (w:World) (D:Nat→Prop) (a:List UInt8) (b:List UInt8) (d:Int) (H:Own w D w []) (hr:kV a b=d):
    Calls y4 192 #[.string ⟨y6 a⟩, .string ⟨y6 b⟩] w (dS fun v w'=>v=vI d∧Own w D w' []):=by
 refine cb Tryz.func192 ?_
 refine sr (Ar rfl (Mz rfl (Mz rfl (fw (vI (Lib.compareBytes a b)) (HY (run_callFunc_extern Tryz.func203 e7 e7 e7 (e:=Extern.BytealgCompare.compare) e7) rfl) (An rfl (rt (rs ?_)))))))
 have c:=H.pk []
 obtain rfl:_=Lib.compareBytes a b:=hr.symm.trans rfl
 exact⟨rfl,c⟩
def strings_Compare (b:List UInt8) (c:List UInt8):Int:=
 bnd (kV b c) fun a=>a
theorem uT (w:World) (D:Nat→Prop) (f:List UInt8) (g:List UInt8) (j:Int) (H:Own w D w []) (hr:strings_Compare f g=j):
    Calls y4 167 #[.string ⟨y6 f⟩, .string ⟨y6 g⟩] w (dS fun v w'=>v=vI j∧Own w D w' []):=by
 refine cb Tryz.func167 ?_
 refine sr (Ar rfl (Mz rfl (Mz rfl ?_)))
 obtain⟨b,a⟩:∃ q,kV f g=q:=⟨_,rfl⟩
 obtain⟨m,c,k,d,l⟩:=EU H
 refine cl Tryz.call192 (o7 _ _ f g b c a) ?_
 rintro _ n ⟨rfl,e⟩
 have h:=d _ _ e
 refine An rfl (rt (rs ?_))
 have i:=h.pk []
 obtain rfl:_=b:=hr.symm.trans (ah a)
 exact⟨rfl,i⟩
def iO (b:aJ) (c:aJ):Int:=
 bnd (strings_Compare b.bY c.bY) fun a=>a
theorem mH (w:World) (D:Nat→Prop) (c:aJ) (d:aJ) (n:Int) (H:Own w D w []) (hr:iO c d=n):
    Calls y4 166 #[.agg (aJ.cells c).toArray, .agg (aJ.cells d).toArray] w (dS fun v w'=>v=vI n∧Own w D w' []):=by
 refine cb Tryz.func166 ?_
 refine sr ?_
 refine dK (aJ.cells c) 153 H ?_
 intro i r j
 refine dK (aJ.cells d) 153 j ?_
 intro k s b
 refine Ar rfl (Kz (vP i 0) (Lz (.string ⟨y6 c.bY⟩) b 1 Tryz.isAgg9 (Kz (vP k 0) (Lz (.string ⟨y6 d.bY⟩) b 0 Tryz.isAgg9 ?_))))
 obtain⟨e,a⟩:∃ q,strings_Compare c.bY d.bY=q:=⟨_,rfl⟩
 obtain⟨t,f,o,g,p⟩:=EU b
 refine cl Tryz.call167 (uT _ _ c.bY d.bY e f a) ?_
 rintro _ u ⟨rfl,h⟩
 have l:=g _ _ h
 refine An rfl (rt (rs ?_))
 have m:=l.pk []
 obtain rfl:_=e:=hr.symm.trans (ah a)
 exact⟨rfl,m⟩
def gU (g:Int):Nat→Int→List aJ→(List aJ)
  | 0,a,b=>default
  | f+1,a,b=>if a > g then bnd (C2 b (D2 a) default) fun c=>bnd (C2 b (D2 (a - 1)) default) fun d=>bnd (iO c d) fun e=>if e < 0 then gU g f (a - 1) (u5 (u5 b (D2 a) (aJ.mk d.bY d.aU)) (D2 (a - 1)) (aJ.mk c.bY c.aU)) else b else b
def gV (c:Int) (e:Int):Nat→Int→List aJ→(List aJ)
  | 0,a,b=>default
  | d+1,a,b=>if a < e then bnd (bnd (gU c ((D2 (a - c))+1) a b) fun sLrLstJjL=>sLrLstJjL) fun sJrLstJ=>gV c e d (a+1) sJrLstJ else b
def iB (l0:List aJ) (a:Int) (b:Int):(List aJ):=
 bnd (gV a b ((D2 (b - (a+1)))+1) (a+1) l0) fun sLrL=>sLrL
theorem lh (w:World) (D:Nat→Prop) (g:Option Addr) (n0 p:Nat) (l0:List aJ) (d:Int) (k:Int) (r0:List aJ) (H:Own w D w [row g n0 p (q6 aJ.cells l0) 153 2]) (af:n0=l0.length) (aS:l0.length *32≤211106232532992) (aT:0≤d∧d≤k∧k≤((l0.length:Nat):Int)) (hr:iB l0 d k=r0):
    Calls y4 201 #[.slice g n0 p,vI d,vI k, .func (.func 166) #[] #[]] w (dS fun v w'=>v= .tuple #[]∧Own w D w' [row g n0 p (q6 aJ.cells r0) 153 2]∧(r0.length=l0.length)):=by
 subst af
 have aU:=H.rowC (i:=0) rfl
 refine cb Tryz.func201 ?_
 refine sr (Mz rfl (fw (vI (d+1)) (EQ (e:=C7.wrap (d+1)) yk g2) (An rfl (bo ?_))))
 have ag:=H.pf []
 obtain⟨ai,s⟩:=qo fun(c:Int) (m:List aJ) (t:Nat) (w':World)=>Own w D w' [row g l0.length p (q6 aJ.cells m) 153 2]∧m.length=l0.length∧d+1≤c∧D2 (k - c) < t∧gV d k ((D2 (k - (d+1)))+1) (d+1) l0=gV d k t c m
 refine C5 (fun i:Int × (List aJ) × Nat=> [(8,vI i.1),(0, .slice g l0.length p),(1,vI d),(2,vI k),(3, .func (.func 166) #[] #[])]) ai (fun i=>i.2.2) (d+1,l0,(D2 (k - (d+1)))+1) ⟨rfl,rfl,rfl,rfl,rfl,trivial⟩ (s.2 ⟨ag,by first | omega | (simp only [H3] <;> omega) | (simp only [H4]),e6,e6,rfl⟩) ?_
 rintro ⟨c,m,t⟩ aV O
 obtain⟨P,aG,aH,aI,I⟩:=s.1 O
 obtain⟨K,Q⟩:∃ q,t=q+1:=⟨t - 1,e6⟩
 subst Q
 refine EP (sr (Mz rfl (Mz rfl (Kz (.bool (decide (c < k))) (nt ?_)))))
 by_cases E:c < k
 refine jT (dT E) (sk (EP ?_))
 obtain⟨aj,u⟩:=lK fun(x:List aJ) (w':World)=>Own w D w' [row g l0.length p (q6 aJ.cells x) 153 2]∧x.length=l0.length∧(bnd (gU d ((D2 (c - d))+1) c m) fun sLrLstJjL=>sLrLstJjL)=x
 refine FK (fun i:(List aJ)=> [(8,vI c),(0, .slice g l0.length p),(1,vI d),(2,vI k),(3, .func (.func 166) #[] #[])]) aj ?_ ?_
 refine bo (sr (Mz rfl (An rfl (bo ?_))))
 have ak:=P.pf []
 obtain⟨au,z⟩:=qo fun(a:Int) (h:List aJ) (A:Nat) (w':World)=>Own w D w' [row g l0.length p (q6 aJ.cells h) 153 2]∧h.length=l0.length∧(d≤a∧a < k)∧D2 (a - d) < A∧gU d ((D2 (c - d))+1) c m=gU d A a h
 refine C5 (fun i:Int × (List aJ) × Nat=> [(9,vI i.1),(8,vI c),(0, .slice g l0.length p),(1,vI d),(2,vI k),(3, .func (.func 166) #[] #[])]) au (fun i=>i.2.2) (c,m,(D2 (c - d))+1) ⟨rfl,rfl,rfl,rfl,rfl,rfl,trivial⟩ (z.2 ⟨ak,by first | omega | (simp only [H3] <;> omega) | (simp only [H4]),e6,e6,rfl⟩) ?_
 rintro ⟨a,h,A⟩ aW R
 obtain⟨av,aK,aL,aM,B⟩:=z.1 R
 obtain⟨L,S⟩:∃ q,A=q+1:=⟨A - 1,e6⟩
 subst S
 refine EP (EP ?_)
 refine uC [] (E9 (E9 (E9 (bP.block (bP.block (E9 (E9 (bP.block Fp)))))))) av ?_
 intro aX T
 refine qv 0 rfl rfl (qv 1 rfl rfl (qk (.bool (decide (a > d))) 2 rfl (qv 3 rfl rfl ?_)))
 by_cases b:a > d
 refine EZ (v:= .func (.func 166) #[] #[]) (rs:= []) 4 rfl rfl rfl (dT b) e7 (fun _ _=>E5 rfl) (EZ (v:= .slice g l0.length p) (rs:= []) 5 rfl rfl rfl (dT b) e7 (fun _ _=>E5 rfl) (EZ (v:=vJ (D2 a)) (rs:= []) 6 rfl rfl rfl (dT b) e7 (fun _ _=>EQ (e:=a) (E5 rfl) e6) ?_))
 obtain⟨j,l⟩:=ji (ls:=h) (i:=D2 a) e9
 refine EZ (v:= .pointer (some ⟨ab g,ao g+(D2 a) *2,none⟩)) (rs:= []) 7 rfl rfl rfl (dT b) e7 (fun _ ⟨_,n⟩=>ET (jK) rfl rfl ((n.rds (i:=0) rfl).addr (i:=D2 a) e6) e6) (EZ (v:= .agg (aJ.cells j).toArray) (rs:= []) 8 rfl rfl rfl (dT b) e7 (fun _ ⟨_,n⟩=>EY rfl (Fb (cs:=(aJ.cells j)) I6 I7 ((n.rds (i:=0) rfl).elem aJ.len l f3))) (EZ (v:= .slice g l0.length p) (rs:= []) 9 rfl rfl rfl (dT b) e7 (fun _ _=>E5 rfl) (EZ (v:=vI a) (rs:= []) 10 rfl rfl rfl (dT b) e7 (fun _ _=>E5 rfl) (EZ (v:=vJ (D2 (a - 1))) (rs:= []) 11 rfl rfl rfl (dT b) e7 (fun _ _=>EQ (e:=C7.wrap (a - 1)) yk f1) ?_))))
 obtain⟨f,r⟩:=ji (ls:=h) (i:=D2 (a - 1)) e9
 refine EZ (v:= .pointer (some ⟨ab g,ao g+(D2 (a - 1)) *2,none⟩)) (rs:= []) 12 rfl rfl rfl (dT b) e7 (fun _ ⟨_,n⟩=>ET (jK) rfl rfl ((n.rds (i:=0) rfl).addr (i:=D2 (a - 1)) e6) e6) (EZ (v:= .agg (aJ.cells f).toArray) (rs:= []) 13 rfl rfl rfl (dT b) e7 (fun _ ⟨_,n⟩=>EY rfl (Fb (cs:=(aJ.cells f)) I6 I7 ((n.rds (i:=0) rfl).elem aJ.len r f3))) ?_)
 obtain⟨F,C⟩:∃ q,iO j f=q:=⟨_,rfl⟩
 obtain⟨aY,U,aN,V,aO⟩:=EU T
 refine Gg 14 rfl rfl rfl (dT b) e7 (Fw Tryz.call166 rfl rfl (mH _ _ j f F U C) ?_)
 rintro _ aZ ⟨rfl,W⟩
 have M:=V _ _ W
 refine⟨.inr ⟨_,M⟩, ?_⟩
 refine EZ (v:= .bool (decide (F < 0))) (rs:= []) 15 rfl rfl rfl (dT b) e7 (fun _ _=>yk) (qt (v:= .bool (decide (F < 0))) 16 rfl (fun _ _=>Fa rfl (dT b) rfl) (qn (ER ?_)))
 by_cases G:F < 0
 refine jT (dT G) (sk (EP (bo ?_)))
 refine uC [15,17] (bP.block (E9 (E9 (bP.block (bP.block (E9 (E9 (bP.block Fp)))))))) M ?_
 intro bf ax
 refine qv 0 rfl rfl (qt (v:=vJ (D2 a)) 1 rfl (fun _ _=>EQ (e:=a) (E5 rfl) e6) (Fz (v:= .slice g l0.length p) 2 rfl e7 (fun _=>E5 rfl) (Fz (v:=vI a) 3 rfl e7 (fun _=>E5 rfl) (Fz (v:=vJ (D2 (a - 1))) 4 rfl e7 (fun _=>EQ (e:=C7.wrap (a - 1)) yk f1) (qv 5 rfl rfl (qv 6 rfl rfl (qt (v:=vJ (D2 (a - 1))) 7 rfl (fun _ _=>EQ (e:=C7.wrap (a - 1)) yk f1) (qt (v:= .pointer (some ⟨ab g,ao g+(D2 (a - 1)) *2,none⟩)) 8 rfl (fun _ ⟨_,n⟩=>ET (jK) rfl rfl ((n.rds (i:=0) rfl).addr (i:=D2 (a - 1)) e6) e6) (qt (v:= .agg (aJ.cells f).toArray) 9 rfl (fun _ ⟨_,n⟩=>EY rfl (Fb (cs:=(aJ.cells f)) I6 I7 ((n.rds (i:=0) rfl).elem aJ.len r f3))) (qv 10 rfl rfl (qt (v:=vJ (D2 a)) 11 rfl (fun _ _=>EQ (e:=a) (E5 rfl) e6) (qt (v:= .pointer (some ⟨ab g,ao g+(D2 a) *2,none⟩)) 12 rfl (fun _ ⟨_,n⟩=>ET (jK) rfl rfl ((n.rds (i:=0) rfl).addr (i:=D2 a) e6) e6) (qt (v:= .agg (aJ.cells j).toArray) 13 rfl (fun _ ⟨_,n⟩=>EY rfl (Fb (cs:=(aJ.cells j)) I6 I7 ((n.rds (i:=0) rfl).elem aJ.len l f3))) (qt (v:= .pointer (some ⟨ab g,ao g+(D2 a) *2,none⟩)) 14 rfl (fun _ ⟨_,n⟩=>ET (jK) rfl rfl ((n.rds (i:=0) rfl).addr (i:=D2 a) e6) e6) ?_))))))))))))))
 refine qe 15 rfl (Do.storeRow (vs:=(aJ.cells f)) (o:=(D2 a) *2+0) (q:=ao g+(D2 a) *2) ax rfl e6 rfl I7 rfl rfl (IQ rfl) (iJ aJ.len l (IQ rfl)) (jw (y:=(aJ.mk f.bY f.aU)) aJ.len rfl (IQ rfl) l) ?_)
 intro bg N
 refine⟨.inl e7, ?_⟩
 obtain⟨bi,aP⟩:=ji (ls:=h) (i:=D2 (a - 1)) e9
 obtain⟨bn,aQ⟩:=dG (ls:=(u5 h (D2 a) (aJ.mk f.bY f.aU))) (i:=D2 (a - 1)) aJ.len f3 (N.rds (i:=0) rfl) e9
 refine Fz (v:= .pointer (some ⟨ab g,ao g+(D2 (a - 1)) *2,none⟩)) 16 rfl e7 (fun _=>ET (jK) rfl rfl ((N.rds (i:=0) rfl).addr (i:=D2 (a - 1)) e6) e6) ?_
 obtain⟨bq,J⟩:=ji (ls:=(u5 h (D2 a) (aJ.mk f.bY f.aU))) (i:=D2 (a - 1)) e9
 refine qe 17 rfl (Do.storeRow (vs:=(aJ.cells j)) (o:=(D2 (a - 1)) *2+0) (q:=ao g+(D2 (a - 1)) *2) N rfl e6 rfl I7 rfl rfl (IQ rfl) (iJ aJ.len J (IQ rfl)) (jw (y:=(aJ.mk j.bY j.aU)) aJ.len rfl (IQ rfl) J) ?_)
 intro bu ay
 refine⟨.inl e7, ?_⟩
 refine qn (bN (ER (EO (Mz rfl (fw (vI (a - 1)) (EQ (e:=C7.wrap (a - 1)) yk g2) (Az rfl (D0 ?_)))))))
 have az:=ay.pf []
 exact E8 (a - 1,(u5 (u5 h (D2 a) (aJ.mk f.bY f.aU)) (D2 (a - 1)) (aJ.mk j.bY j.aU)),L) ⟨rfl,rfl,rfl,rfl,rfl,rfl,trivial⟩ (z.2 ⟨az,by first | omega | (simp only [H3] <;> omega) | (simp only [H4]),e6,e6,Eq.trans (B) (Eq.trans (if_pos b) (Eq.trans (ah (bI l)) (Eq.trans (ah (bI r)) (Eq.trans (ah C) (if_pos G)))))⟩) (by show L < L+1; omega)
 refine jF (dF G) (D1 (EX (EX (Fg (bN ?_)))))
 have aA:=M.pf []
 exact FD h ⟨rfl,rfl,rfl,rfl,rfl,trivial⟩ (u.2 ⟨aA,by first | omega | (simp only [H3] <;> omega) | (simp only [H4]),ah (Eq.trans (B) (Eq.trans (if_pos b) (Eq.trans (ah (bI l)) (Eq.trans (ah (bI r)) (Eq.trans (ah C) (if_neg G))))))⟩)
 refine EW (rs:= []) 4 rfl rfl rfl (dF b) e7 (EW (rs:= []) 5 rfl rfl rfl (dF b) e7 (EW (rs:= []) 6 rfl rfl rfl (dF b) e7 (EW (rs:= []) 7 rfl rfl rfl (dF b) e7 (EW (rs:= []) 8 rfl rfl rfl (dF b) e7 (EW (rs:= []) 9 rfl rfl rfl (dF b) e7 (EW (rs:= []) 10 rfl rfl rfl (dF b) e7 (EW (rs:= []) 11 rfl rfl rfl (dF b) e7 (EW (rs:= []) 12 rfl rfl rfl (dF b) e7 (EW (rs:= []) 13 rfl rfl rfl (dF b) e7 (EW (rs:= []) 14 rfl rfl rfl (dF b) e7 (EW (rs:= []) 15 rfl rfl rfl (dF b) e7 (qt (v:= .bool false) 16 rfl (fun _ _=>ES rfl (dF b) rfl) (qn (ER (jf (D1 (EX (EX (Fg (bN ?_))))))))))))))))))))
 have aB:=T.pf []
 exact FD h ⟨rfl,rfl,rfl,rfl,rfl,trivial⟩ (u.2 ⟨aB,by first | omega | (simp only [H3] <;> omega) | (simp only [H4]),ah (Eq.trans (B) (if_neg b))⟩)
 rintro x bv X
 obtain⟨aC,aR,Y⟩:=u.1 X
 refine EO (Mz rfl (fw (vI (c+1)) (EQ (e:=C7.wrap (c+1)) yk g2) (Az rfl (D0 ?_))))
 have aD:=aC.pf []
 exact E8 (c+1,x,K) ⟨rfl,rfl,rfl,rfl,rfl,trivial⟩ (s.2 ⟨aD,by first | omega | (simp only [H3] <;> omega) | (simp only [H4]),e6,e6,Eq.trans (I) (Eq.trans (if_pos E) (ah Y))⟩) (by show K < K+1; omega)
 refine jF (dF E) (D1 (EX ?_))
 have Z:gV d k ((D2 (k - (d+1)))+1) (d+1) l0=m:=et (I) (iN E)
 refine EX (Fg (Ff (res0 rfl) ?_))
 have aF:=P.pf []
 obtain rfl:_=m:=hr.symm.trans (ah Z)
 exact⟨rfl,aF,g5⟩
def fG (e:Int) (f:Int) (h:Int):Nat→Nat→List aJ→(List aJ)
  | 0,a,b=>default
  | g+1,a,b=>if((a:Nat):Int) < h then bnd (C2 b (D2 (f+((a:Nat):Int))) default) fun c=>bnd (C2 b (D2 (e+((a:Nat):Int))) default) fun d=>fG e f h g (a+1) (u5 (u5 b (D2 (e+((a:Nat):Int))) (aJ.mk c.bY c.aU)) (D2 (f+((a:Nat):Int))) (aJ.mk d.bY d.aU)) else b
def eU (l0:List aJ) (b:Int) (c:Int) (a:Int):(List aJ):=
 bnd (fG b c a ((D2 (a - 0))+1) 0 l0) fun sLrL=>sLrL
theorem kw (w:World) (D:Nat→Prop) (g:Option Addr) (F u:Nat) (l0:List aJ) (d:Int) (b:Int) (h:Int) (G:List aJ) (H:Own w D w [row g F u (q6 aJ.cells l0) 153 2]) (I:F=l0.length) (U:l0.length *32≤211106232532992) (V:0≤d∧0≤b∧0≤h∧d+h≤((l0.length:Nat):Int)∧b+h≤((l0.length:Nat):Int)) (hr:eU l0 d b h=G):
    Calls y4 211 #[.slice g F u,vI d,vI b,vI h, .func (.func 166) #[] #[]] w (dS fun v w'=>v= .tuple #[]∧Own w D w' [row g F u (q6 aJ.cells G) 153 2]∧(G.length=l0.length)):=by
 subst I
 have W:=H.rowC (i:=0) rfl
 refine cb Tryz.func211 ?_
 refine sr (An rfl (bo ?_))
 have J:=H.pf []
 obtain⟨K,l⟩:=qo fun(a:Nat) (c:List aJ) (m:Nat) (w':World)=>Own w D w' [row g l0.length u (q6 aJ.cells c) 153 2]∧c.length=l0.length∧0≤a∧D2 (h - a) < m∧fG d b h ((D2 (h - 0))+1) 0 l0=fG d b h m a c
 refine C5 (fun i:Nat × (List aJ) × Nat=> [(10,vJ i.1),(0, .slice g l0.length u),(1,vI d),(2,vI b),(3,vI h)]) K (fun i=>i.2.2) (0,l0,(D2 (h - 0))+1) ⟨rfl,rfl,rfl,rfl,rfl,trivial⟩ (l.2 ⟨J,by first | omega | (simp only [H3] <;> omega) | (simp only [H4]),e6,e6,rfl⟩) ?_
 rintro ⟨a,c,m⟩ X A
 obtain⟨B,P,Q,R,r⟩:=l.1 A
 obtain⟨x,C⟩:∃ q,m=q+1:=⟨m - 1,e6⟩
 subst C
 refine EP (sr (Mz rfl (Mz rfl (Kz (.bool (decide (((a:Nat):Int) < h))) (nt ?_)))))
 by_cases n:((a:Nat):Int) < h
 refine jT (dT n) (sk (EP (bo ?_)))
 refine uC [21,23] (bP.block (E9 (E9 (bP.block Fp)))) B ?_
 intro Y L
 refine qv 0 rfl rfl (qv 1 rfl rfl (qv 2 rfl rfl (qt (v:=vI ((D2 (d+((a:Nat):Int)):Nat):Int)) 3 rfl (fun _ _=>EQ (e:=C7.wrap (d+((a:Nat):Int))) yk f1) (Fz (v:= .slice g l0.length u) 4 rfl e7 (fun _=>E5 rfl) (Fz (v:=vI b) 5 rfl e7 (fun _=>E5 rfl) (Fz (v:=vJ a) 6 rfl e7 (fun _=>E5 rfl) (Fz (v:=vI ((D2 (b+((a:Nat):Int)):Nat):Int)) 7 rfl e7 (fun _=>EQ (e:=C7.wrap (b+((a:Nat):Int))) yk f1) (qv 8 rfl rfl (qv 9 rfl rfl (qv 10 rfl rfl (qt (v:=vI ((D2 (b+((a:Nat):Int)):Nat):Int)) 11 rfl (fun _ _=>EQ (e:=C7.wrap (b+((a:Nat):Int))) yk f1) ?_)))))))))))
 obtain⟨f,s⟩:=ji (ls:=c) (i:=D2 (b+((a:Nat):Int))) e9
 refine qt (v:= .pointer (some ⟨ab g,ao g+(D2 (b+((a:Nat):Int))) *2,none⟩)) 12 rfl (fun _ ⟨_,p⟩=>ET (jK) rfl rfl ((p.rds (i:=0) rfl).addr (i:=D2 (b+((a:Nat):Int))) e6) e6) (qt (v:= .agg (aJ.cells f).toArray) 13 rfl (fun _ ⟨_,p⟩=>EY rfl (Fb (cs:=(aJ.cells f)) I6 I7 ((p.rds (i:=0) rfl).elem aJ.len s f3))) (qv 14 rfl rfl (qv 15 rfl rfl (qv 16 rfl rfl (qt (v:=vI ((D2 (d+((a:Nat):Int)):Nat):Int)) 17 rfl (fun _ _=>EQ (e:=C7.wrap (d+((a:Nat):Int))) yk f1) ?_)))))
 obtain⟨j,k⟩:=ji (ls:=c) (i:=D2 (d+((a:Nat):Int))) e9
 refine qt (v:= .pointer (some ⟨ab g,ao g+(D2 (d+((a:Nat):Int))) *2,none⟩)) 18 rfl (fun _ ⟨_,p⟩=>ET (jK) rfl rfl ((p.rds (i:=0) rfl).addr (i:=D2 (d+((a:Nat):Int))) e6) e6) (qt (v:= .agg (aJ.cells j).toArray) 19 rfl (fun _ ⟨_,p⟩=>EY rfl (Fb (cs:=(aJ.cells j)) I6 I7 ((p.rds (i:=0) rfl).elem aJ.len k f3))) (qt (v:= .pointer (some ⟨ab g,ao g+(D2 (d+((a:Nat):Int))) *2,none⟩)) 20 rfl (fun _ ⟨_,p⟩=>ET (jK) rfl rfl ((p.rds (i:=0) rfl).addr (i:=D2 (d+((a:Nat):Int))) e6) e6) ?_))
 refine qe 21 rfl (Do.storeRow (vs:=(aJ.cells f)) (o:=(D2 (d+((a:Nat):Int))) *2+0) (q:=ao g+(D2 (d+((a:Nat):Int))) *2) L rfl e6 rfl I7 rfl rfl (IQ rfl) (iJ aJ.len k (IQ rfl)) (jw (y:=(aJ.mk f.bY f.aU)) aJ.len rfl (IQ rfl) k) ?_)
 intro Z z
 refine⟨.inl e7, ?_⟩
 obtain⟨aa,S⟩:=ji (ls:=c) (i:=D2 (b+((a:Nat):Int))) e9
 obtain⟨ae,T⟩:=dG (ls:=(u5 c (D2 (d+((a:Nat):Int))) (aJ.mk f.bY f.aU))) (i:=D2 (b+((a:Nat):Int))) aJ.len f3 (z.rds (i:=0) rfl) e9
 refine Fz (v:= .pointer (some ⟨ab g,ao g+(D2 (b+((a:Nat):Int))) *2,none⟩)) 22 rfl e7 (fun _=>ET (jK) rfl rfl ((z.rds (i:=0) rfl).addr (i:=D2 (b+((a:Nat):Int))) e6) e6) ?_
 obtain⟨af,t⟩:=ji (ls:=(u5 c (D2 (d+((a:Nat):Int))) (aJ.mk f.bY f.aU))) (i:=D2 (b+((a:Nat):Int))) e9
 refine qe 23 rfl (Do.storeRow (vs:=(aJ.cells j)) (o:=(D2 (b+((a:Nat):Int))) *2+0) (q:=ao g+(D2 (b+((a:Nat):Int))) *2) z rfl e6 rfl I7 rfl rfl (IQ rfl) (iJ aJ.len t (IQ rfl)) (jw (y:=(aJ.mk j.bY j.aU)) aJ.len rfl (IQ rfl) t) ?_)
 intro ag M
 refine⟨.inl e7, ?_⟩
 refine qn (bN (ER (EO (Mz rfl (fw (vJ (a+1)) (EQ (e:=C7.wrap (((a:Nat):Int)+1)) yk f1) (Az rfl (D0 ?_)))))))
 have N:=M.pf []
 exact E8 (a+1,(u5 (u5 c (D2 (d+((a:Nat):Int))) (aJ.mk f.bY f.aU)) (D2 (b+((a:Nat):Int))) (aJ.mk j.bY j.aU)),x) ⟨rfl,rfl,rfl,rfl,rfl,trivial⟩ (l.2 ⟨N,by first | omega | (simp only [H3] <;> omega) | (simp only [H4]),e6,e6,Eq.trans (r) (Eq.trans (if_pos n) (Eq.trans (ah (bI s)) (ah (bI k))))⟩) (by show x < x+1; omega)
 refine jF (dF n) (D1 (EX ?_))
 have E:fG d b h ((D2 (h - 0))+1) 0 l0=c:=et (r) (iN n)
 refine EX (Fg (Ff (res0 rfl) ?_))
 have O:=B.pf []
 obtain rfl:_=c:=hr.symm.trans (ah E)
 exact⟨rfl,O,g5⟩
def dC (d:Int):Nat→Int→Int→List aJ→Int × (List aJ)
  | 0,a,b,c=>default
  | e+1,a,b,c=>if a=b then(a,c) else if a > b then bnd (eU c (d - a) d b) fun f=>dC d e (a - b) b f else bnd (eU c (d - a) ((d+b) - a) a) fun g=>dC d e a (b - a) g
def ib (l0:List aJ) (c:Int) (a:Int) (d:Int):(List aJ):=
 bnd (dC a ((D2 ((a - c)+(d - a)))+1) (a - c) (d - a) l0) fun sLrL=>bnd (eU sLrL.2 (a - sLrL.1) a sLrL.1) fun b=>b
theorem pG (w:World) (D:Nat→Prop) (n:Option Addr) (U o:Nat) (l0:List aJ) (g:Int) (c:Int) (h:Int) (V:List aJ) (H:Own w D w [row n U o (q6 aJ.cells l0) 153 2]) (W:U=l0.length) (aC:l0.length *32≤211106232532992) (aD:0≤g∧g < c∧c < h∧h≤((l0.length:Nat):Int)) (hr:ib l0 g c h=V):
    Calls y4 209 #[.slice n U o,vI g,vI c,vI h, .func (.func 166) #[] #[]] w (dS fun v w'=>v= .tuple #[]∧Own w D w' [row n U o (q6 aJ.cells V) 153 2]∧(V.length=l0.length)):=by
 subst W
 have aF:=H.rowC (i:=0) rfl
 refine cb Tryz.func209 ?_
 refine sr (Mz rfl (Mz rfl (fw (vI (c - g)) (EQ (e:=C7.wrap (c - g)) yk g2) (Ar rfl (Mz rfl (Mz rfl (fw (vI (h - c)) (EQ (e:=C7.wrap (h - c)) yk g2) (An rfl (EP (bo ?_))))))))))
 have X:=H.pf []
 obtain⟨Y,f⟩:=rD fun(a:Int) (b:Int) (d:List aJ) (k:Nat) (w':World)=>Own w D w' [row n l0.length o (q6 aJ.cells d) 153 2]∧d.length=l0.length∧(1≤a∧1≤b∧a≤c - g∧b≤h - c)∧D2 (a+b) < k∧dC c ((D2 ((c - g)+(h - c)))+1) (c - g) (h - c) l0=dC c k a b d
 refine C5 (fun i:Int × Int × (List aJ) × Nat=> [(10,vI i.1),(11,vI i.2.1),(0, .slice n l0.length o),(2,vI c),(4, .func (.func 166) #[] #[])]) Y (fun i=>i.2.2.2) (c - g,h - c,l0,(D2 ((c - g)+(h - c)))+1) ⟨rfl,rfl,rfl,rfl,rfl,trivial⟩ (f.2 ⟨X,by first | omega | (simp only [H3] <;> omega) | (simp only [H4]),e6,e6,rfl⟩) ?_
 rintro ⟨a,b,d,k⟩ aG E
 obtain⟨z,af,ag,ai,l⟩:=f.1 E
 obtain⟨j,F⟩:∃ q,k=q+1:=⟨k - 1,e6⟩
 subst F
 refine EP (sr (Mz rfl (Mz rfl (fw (.bool (decide (¬ (a=b)))) (Fs (e:= !(decide (a=b))) yk decide_not.symm) (nt ?_)))))
 by_cases m:a=b
 refine jF (dF (IV m)) (D1 (EX ?_))
 have G:dC c ((D2 ((c - g)+(h - c)))+1) (c - g) (h - c) l0=(a,d):=et (l) (ip m)
 refine EX (Fg (ER (EO (Mz rfl (Mz rfl (Mz rfl (fw (vI (c - a)) (EQ (e:=C7.wrap (c - a)) yk g2) (Mz rfl (Mz rfl (Mz rfl ?_))))))))))
 obtain⟨A,r⟩:∃ q,eU d (c - a) c a=q:=⟨_,rfl⟩
 obtain⟨aH,I,aj,J,ak⟩:=Fu z
 refine cl I8 (kw _ _ n l0.length o d (c - a) c a A I f0 e6 e6 r) ?_
 rintro _ aI ⟨rfl,K,s⟩
 have L:=J _ _ K
 have au:=L.rowC (i:=0) rfl
 replace s:A.length=d.length:=s
 refine D0 (Ff (res0 rfl) ?_)
 have Z:=L.pf []
 obtain rfl:_=A:=hr.symm.trans (et (ah G) (ah r))
 exact⟨rfl,Z,g5⟩
 refine jT (dT m) (sk (bo (sr (Mz rfl (Mz rfl (Kz (.bool (decide (a > b))) (nt ?_)))))))
 by_cases p:a > b
 refine jT (dT p) (sr (Mz rfl (Mz rfl (Mz rfl (fw (vI (c - a)) (EQ (e:=C7.wrap (c - a)) yk g2) (Mz rfl (Mz rfl (Mz rfl ?_))))))))
 obtain⟨B,t⟩:∃ q,eU d (c - a) c b=q:=⟨_,rfl⟩
 obtain⟨aK,M,av,N,ax⟩:=Fu z
 refine cl I8 (kw _ _ n l0.length o d (c - a) c b B M f0 e6 e6 t) ?_
 rintro _ aL ⟨rfl,O,u⟩
 have P:=N _ _ O
 have ay:=P.rowC (i:=0) rfl
 replace u:B.length=d.length:=u
 refine nt (EO (Mz rfl (Mz rfl (fw (vI (a - b)) (EQ (e:=C7.wrap (a - b)) yk g2) (Az rfl (D0 (bN ?_)))))))
 have aa:=P.pf []
 exact E8 (a - b,b,B,j) ⟨rfl,rfl,rfl,rfl,rfl,trivial⟩ (f.2 ⟨aa,by first | omega | (simp only [H3] <;> omega) | (simp only [H4]),e6,e6,Eq.trans (l) (Eq.trans (if_neg m) (Eq.trans (if_pos p) (ah t)))⟩) (by show j < j+1; omega)
 refine jF (dF p) (sr (Mz rfl (Mz rfl (Mz rfl (fw (vI (c - a)) (EQ (e:=C7.wrap (c - a)) yk g2) (Mz rfl (Mz rfl (fw (vI (c+b)) (EQ (e:=C7.wrap (c+b)) yk g2) (Mz rfl (fw (vI ((c+b) - a)) (EQ (e:=C7.wrap ((c+b) - a)) yk g2) (Mz rfl (Mz rfl ?_))))))))))))
 obtain⟨C,x⟩:∃ q,eU d (c - a) ((c+b) - a) a=q:=⟨_,rfl⟩
 obtain⟨aM,Q,az,R,aA⟩:=Fu z
 refine cl I8 (kw _ _ n l0.length o d (c - a) ((c+b) - a) a C Q f0 e6 e6 x) ?_
 rintro _ aN ⟨rfl,S,y⟩
 have T:=R _ _ S
 have aB:=T.rowC (i:=0) rfl
 replace y:C.length=d.length:=y
 refine nt (EO (Mz rfl (Mz rfl (fw (vI (b - a)) (EQ (e:=C7.wrap (b - a)) yk g2) (Az rfl (D0 (bN ?_)))))))
 have ae:=T.pf []
 exact E8 (a,b - a,C,j) ⟨rfl,rfl,rfl,rfl,rfl,trivial⟩ (f.2 ⟨ae,by first | omega | (simp only [H3] <;> omega) | (simp only [H4]),e6,e6,Eq.trans (l) (Eq.trans (if_neg m) (Eq.trans (if_neg p) (ah x)))⟩) (by show j < j+1; omega)
end Go.Proofs.YtbkagebjhbphaaaGreat
