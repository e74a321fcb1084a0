/-
 a stable sort of pairs: the library's text told.
-/
import Derived.Test.YtbkagebjhbphaaaGreatKy
import Derived.Test.YtbkagebjhbphaaaGreatWiX
import Derived.Test.YtbkagebjhbphaaaGreatStM
import Derived.Test.YtbkagebjhbphaaaGreatCs
namespace Go.Proofs.YtbkagebjhbphaaaGreat
open Int renaming toNat→D0
open IntKind renaming i64→C5
open List renaming flatMap→q3,getD→C0,length_replicate→H2,length_set→H1,set→u2,toArray→v9
open _root_.Go.Proofs.Tryz renaming call211→I3,isAgg153→I0,prog→v8,sizeOf153→I2
open WL renaming nil→C6
open Wp renaming exit→C7,loop→C3
set_option maxRecDepth 100000
open Go.RowKit
set_option linter.unusedVariables false
set_option linter.unusedSectionVars false
set_option linter.unusedSimpArgs false
def lL (a:List UInt8) (b:List UInt8):Int:=
 Lib.compareBytes a b
theorem qA (w D a b d) (H:Own w D w []) (hr:lL a b=d):
    Calls v8 192 #[.string ⟨v9 a⟩, .string ⟨v9 b⟩] w (d9 fun v w'=>v=vI d∧Own w D w' []):=by
 refine cb Tryz.func192 ?_
 refine sr (Ar rfl (Mz rfl (Mz rfl (fw (vI (Lib.compareBytes a b)) (Kv (run_callFunc_extern Tryz.func203 e7 e7 e7 (e:=Extern.BytealgCompare.compare) e7) rfl) (An rfl (rt (rs ?_)))))))
 have c:=H.pk []
 obtain rfl:_=Lib.compareBytes a b:=hr.symm.trans rfl
 exact⟨rfl,c⟩
def strings_Compare (b:List UInt8) (c:List UInt8):Int:=
 bnd (lL b c) fun a=>a
theorem wu (w D f g j) (H:Own w D w []) (hr:strings_Compare f g=j):
    Calls v8 167 #[.string ⟨v9 f⟩, .string ⟨v9 g⟩] w (d9 fun v w'=>v=vI j∧Own w D w' []):=by
 refine cb Tryz.func167 ?_
 refine sr (Ar rfl (Mz rfl (Mz rfl ?_)))
 obtain⟨b,a⟩:∃ q,lL f g=q:=⟨_,rfl⟩
 obtain⟨m,c,k,d,l⟩:=Ii H
 refine cl Tryz.call192 (qA _ _ f g b c a) ?_
 rintro _ n ⟨rfl,e⟩
 have h:=d _ _ e
 refine An rfl (rt (rs ?_))
 have i:=h.pk []
 obtain rfl:_=b:=hr.symm.trans (ah a)
 exact⟨rfl,i⟩
def jw (b:aI) (c:aI):Int:=
 bnd (strings_Compare b.bY c.bY) fun a=>a
theorem nO (w D) (c:aI) (d:aI) (n) (H:Own w D w []) (hr:jw c d=n):
    Calls v8 166 #[.agg (aI.cells c).toArray, .agg (aI.cells d).toArray] w (d9 fun v w'=>v=vI n∧Own w D w' []):=by
 refine cb Tryz.func166 ?_
 refine sr ?_
 refine dV (aI.cells c) 153 H ?_
 intro i r j
 refine dV (aI.cells d) 153 j ?_
 intro k s b
 refine Ar rfl (Kz (vP i 0) (Lz (.string ⟨v9 c.bY⟩) b 1 Tryz.isAgg9 (Kz (vP k 0) (Lz (.string ⟨v9 d.bY⟩) b 0 Tryz.isAgg9 ?_))))
 obtain⟨e,a⟩:∃ q,strings_Compare c.bY d.bY=q:=⟨_,rfl⟩
 obtain⟨t,f,o,g,p⟩:=Ii b
 refine cl Tryz.call167 (wu _ _ c.bY d.bY e f a) ?_
 rintro _ u ⟨rfl,h⟩
 have l:=g _ _ h
 refine An rfl (rt (rs ?_))
 have m:=l.pk []
 obtain rfl:_=e:=hr.symm.trans (ah a)
 exact⟨rfl,m⟩
def gH (g:Int):Nat→Int→List aI→(List aI)
  | 0,a,b=>default
  | f+1,a,b=>if a > g then bnd (C0 b (D0 a) default) fun c=>bnd (C0 b (D0 (a - 1)) default) fun d=>bnd (jw c d) fun e=>if e < 0 then gH g f (a - 1) (u2 (u2 b (D0 a) (aI.mk d.bY d.aT)) (D0 (a - 1)) (aI.mk c.bY c.aT)) else b else b
def gI (c:Int) (p2:Int):Nat→Int→List aI→(List aI)
  | 0,a,b=>default
  | d+1,a,b=>if a < p2 then bnd (bnd (gH c ((D0 (a - c))+1) a b) fun sLrLstJjL=>sLrLstJjL) fun sJrLstJ=>gI c p2 d (a+1) sJrLstJ else b
def iX (l0:List aI) (a:Int) (p2:Int):(List aI):=
 bnd (gI a p2 ((D0 (p2 - (a+1)))+1) (a+1) l0) fun sLrL=>sLrL
theorem lV (w D g Z n l0 d p2 r0) (H:Own w D w [row g Z n (q3 aI.cells l0) 153 2]) (ae:Z=l0.length) (aR:l0.length *32≤211106232532992) (aS:0≤d∧d≤p2∧p2≤((l0.length:Nat):Int)) (hr:iX l0 d p2=r0):
    Calls v8 201 #[.slice g Z n,vI d,vI p2, .func (.func 166) #[] #[]] w (d9 fun v w'=>v= .tuple #[]∧Own w D w' [row g Z n (q3 aI.cells r0) 153 2]∧(r0.length=l0.length)):=by
 subst ae
 have aT:=H.rowC (i:=0) rfl
 refine cb Tryz.func201 ?_
 refine sr (Mz rfl (fw (vI (d+1)) (Ie (e:=C5.wrap (d+1)) yk g2) (An rfl (bo ?_))))
 have af:=H.pf []
 obtain⟨ag,r⟩:=rz fun (c:Int) l (s:Nat) w'=>Own w D w' [row g l0.length n (q3 aI.cells l) 153 2]∧l.length=l0.length∧d+1≤c∧D0 (p2 - c) < s∧gI d p2 ((D0 (p2 - (d+1)))+1) (d+1) l0=gI d p2 s c l
 refine C3 (fun i:Int × (List aI) × Nat=> [(8,vI i.1),(0, .slice g l0.length n),(1,vI d),(2,vI p2),(3, .func (.func 166) #[] #[])]) ag (fun i=>i.2.2) (d+1,l0,(D0 (p2 - (d+1)))+1) ⟨rfl,rfl,rfl,rfl,rfl,trivial⟩ (r.2 ⟨af,by first | omega | (simp only [H1] <;> omega) | (simp only [H2]),e6,e6,rfl⟩) ?_
 rintro ⟨c,l,s⟩ aU N
 obtain⟨O,aF,aG,aH,G⟩:=r.1 N
 obtain⟨J,P⟩:∃ q,s=q+1:=⟨s - 1,e6⟩
 subst P
 refine Ic (sr (Mz rfl (Mz rfl (Kz (.bool (decide (c < p2))) (nt ?_)))))
 by_cases C:c < p2
 refine jT (dT C) (sk (Ic ?_))
 obtain⟨ai,t⟩:=nQ fun u w'=>Own w D w' [row g l0.length n (q3 aI.cells u) 153 2]∧u.length=l0.length∧(bnd (gH d ((D0 (c - d))+1) c l) fun sLrLstJjL=>sLrLstJjL)=u
 refine IZ (fun i:(List aI)=> [(8,vI c),(0, .slice g l0.length n),(1,vI d),(2,vI p2),(3, .func (.func 166) #[] #[])]) ai ?_ ?_
 refine bo (sr (Mz rfl (An rfl (bo ?_))))
 have aj:=O.pf []
 obtain⟨ak,x⟩:=rz fun (a:Int) h (z:Nat) w'=>Own w D w' [row g l0.length n (q3 aI.cells h) 153 2]∧h.length=l0.length∧(d≤a∧a < p2)∧D0 (a - d) < z∧gH d ((D0 (c - d))+1) c l=gH d z a h
 refine C3 (fun i:Int × (List aI) × Nat=> [(9,vI i.1),(8,vI c),(0, .slice g l0.length n),(1,vI d),(2,vI p2),(3, .func (.func 166) #[] #[])]) ak (fun i=>i.2.2) (c,l,(D0 (c - d))+1) ⟨rfl,rfl,rfl,rfl,rfl,rfl,trivial⟩ (x.2 ⟨aj,by first | omega | (simp only [H1] <;> omega) | (simp only [H2]),e6,e6,rfl⟩) ?_
 rintro ⟨a,h,z⟩ aV Q
 obtain⟨au,aJ,aK,aL,A⟩:=x.1 Q
 obtain⟨K,R⟩:∃ q,z=q+1:=⟨z - 1,e6⟩
 subst R
 refine Ic (Ic ?_)
 refine vW [] (Iu (Iu (Iu (bQ.block (bQ.block (Iu (Iu (bQ.block IC)))))))) au ?_
 intro aW S
 refine qv 0 rfl rfl (qv 1 rfl rfl (qk (.bool (decide (a > d))) 2 rfl (qv 3 rfl rfl ?_)))
 by_cases b:a > d
 refine Ip (v:= .func (.func 166) #[] #[]) (rs:= []) 4 rfl rfl rfl (dT b) e7 (fun _ _=>Iq rfl) (Ip (v:= .slice g l0.length n) (rs:= []) 5 rfl rfl rfl (dT b) e7 (fun _ _=>Iq rfl) (Ip (v:=vJ (D0 a)) (rs:= []) 6 rfl rfl rfl (dT b) e7 (fun _ _=>Ie (e:=a) (Iq rfl) e6) ?_))
 obtain⟨j,k⟩:=jN (ls:=h) (i:=D0 a) e9
 refine Ip (v:= .pointer (some ⟨ab g,ao g+(D0 a) *2,none⟩)) (rs:= []) 7 rfl rfl rfl (dT b) e7 (fun _ ⟨_,m⟩=>Ij (ko) rfl rfl ((m.rds (i:=0) rfl).addr (i:=D0 a) e6) e6) (Ip (v:= .agg (aI.cells j).toArray) (rs:= []) 8 rfl rfl rfl (dT b) e7 (fun _ ⟨_,m⟩=>Io rfl (Iy (cs:=(aI.cells j)) I0 I2 ((m.rds (i:=0) rfl).elem aI.len k f4))) (Ip (v:= .slice g l0.length n) (rs:= []) 9 rfl rfl rfl (dT b) e7 (fun _ _=>Iq rfl) (Ip (v:=vI a) (rs:= []) 10 rfl rfl rfl (dT b) e7 (fun _ _=>Iq rfl) (Ip (v:=vJ (D0 (a - 1))) (rs:= []) 11 rfl rfl rfl (dT b) e7 (fun _ _=>Ie (e:=C5.wrap (a - 1)) yk f0) ?_))))
 obtain⟨f,p⟩:=jN (ls:=h) (i:=D0 (a - 1)) e9
 refine Ip (v:= .pointer (some ⟨ab g,ao g+(D0 (a - 1)) *2,none⟩)) (rs:= []) 12 rfl rfl rfl (dT b) e7 (fun _ ⟨_,m⟩=>Ij (ko) rfl rfl ((m.rds (i:=0) rfl).addr (i:=D0 (a - 1)) e6) e6) (Ip (v:= .agg (aI.cells f).toArray) (rs:= []) 13 rfl rfl rfl (dT b) e7 (fun _ ⟨_,m⟩=>Io rfl (Iy (cs:=(aI.cells f)) I0 I2 ((m.rds (i:=0) rfl).elem aI.len p f4))) ?_)
 obtain⟨E,B⟩:∃ q,jw j f=q:=⟨_,rfl⟩
 obtain⟨aX,T,aM,U,aN⟩:=Ii S
 refine Ju 14 rfl rfl rfl (dT b) e7 (IK Tryz.call166 rfl rfl (nO _ _ j f E T B) ?_)
 rintro _ aY ⟨rfl,V⟩
 have L:=U _ _ V
 refine⟨.inr ⟨_,L⟩, ?_⟩
 refine Ip (v:= .bool (decide (E < 0))) (rs:= []) 15 rfl rfl rfl (dT b) e7 (fun _ _=>yk) (qt (v:= .bool (decide (E < 0))) 16 rfl (fun _ _=>Iw rfl (dT b) rfl) (qn (Ig ?_)))
 by_cases F:E < 0
 refine jT (dT F) (sk (Ic (bo ?_)))
 refine vW [15,17] (bQ.block (Iu (Iu (bQ.block (bQ.block (Iu (Iu (bQ.block IC)))))))) L ?_
 intro aZ av
 refine qv 0 rfl rfl (qt (v:=vJ (D0 a)) 1 rfl (fun _ _=>Ie (e:=a) (Iq rfl) e6) (IP (v:= .slice g l0.length n) 2 rfl e7 (fun _=>Iq rfl) (IP (v:=vI a) 3 rfl e7 (fun _=>Iq rfl) (IP (v:=vJ (D0 (a - 1))) 4 rfl e7 (fun _=>Ie (e:=C5.wrap (a - 1)) yk f0) (qv 5 rfl rfl (qv 6 rfl rfl (qt (v:=vJ (D0 (a - 1))) 7 rfl (fun _ _=>Ie (e:=C5.wrap (a - 1)) yk f0) (qt (v:= .pointer (some ⟨ab g,ao g+(D0 (a - 1)) *2,none⟩)) 8 rfl (fun _ ⟨_,m⟩=>Ij (ko) rfl rfl ((m.rds (i:=0) rfl).addr (i:=D0 (a - 1)) e6) e6) (qt (v:= .agg (aI.cells f).toArray) 9 rfl (fun _ ⟨_,m⟩=>Io rfl (Iy (cs:=(aI.cells f)) I0 I2 ((m.rds (i:=0) rfl).elem aI.len p f4))) (qv 10 rfl rfl (qt (v:=vJ (D0 a)) 11 rfl (fun _ _=>Ie (e:=a) (Iq rfl) e6) (qt (v:= .pointer (some ⟨ab g,ao g+(D0 a) *2,none⟩)) 12 rfl (fun _ ⟨_,m⟩=>Ij (ko) rfl rfl ((m.rds (i:=0) rfl).addr (i:=D0 a) e6) e6) (qt (v:= .agg (aI.cells j).toArray) 13 rfl (fun _ ⟨_,m⟩=>Io rfl (Iy (cs:=(aI.cells j)) I0 I2 ((m.rds (i:=0) rfl).elem aI.len k f4))) (qt (v:= .pointer (some ⟨ab g,ao g+(D0 a) *2,none⟩)) 14 rfl (fun _ ⟨_,m⟩=>Ij (ko) rfl rfl ((m.rds (i:=0) rfl).addr (i:=D0 a) e6) e6) ?_))))))))))))))
 refine qe 15 rfl (Do.storeRow (vs:=(aI.cells f)) (o:=(D0 a) *2+0) (q:=ao g+(D0 a) *2) av rfl e6 rfl I2 rfl rfl (Le rfl) (je aI.len k (Le rfl)) (jV (y:=(aI.mk f.bY f.aT)) aI.len rfl (Le rfl) k) ?_)
 intro bf M
 refine⟨.inl e7, ?_⟩
 obtain⟨bg,aO⟩:=jN (ls:=h) (i:=D0 (a - 1)) e9
 obtain⟨bi,aP⟩:=dN (ls:=(u2 h (D0 a) (aI.mk f.bY f.aT))) (i:=D0 (a - 1)) aI.len f4 (M.rds (i:=0) rfl) e9
 refine IP (v:= .pointer (some ⟨ab g,ao g+(D0 (a - 1)) *2,none⟩)) 16 rfl e7 (fun _=>Ij (ko) rfl rfl ((M.rds (i:=0) rfl).addr (i:=D0 (a - 1)) e6) e6) ?_
 obtain⟨bn,I⟩:=jN (ls:=(u2 h (D0 a) (aI.mk f.bY f.aT))) (i:=D0 (a - 1)) e9
 refine qe 17 rfl (Do.storeRow (vs:=(aI.cells j)) (o:=(D0 (a - 1)) *2+0) (q:=ao g+(D0 (a - 1)) *2) M rfl e6 rfl I2 rfl rfl (Le rfl) (je aI.len I (Le rfl)) (jV (y:=(aI.mk j.bY j.aT)) aI.len rfl (Le rfl) I) ?_)
 intro bq ax
 refine⟨.inl e7, ?_⟩
 refine qn (bN (Ig (Ib (Mz rfl (fw (vI (a - 1)) (Ie (e:=C5.wrap (a - 1)) yk g2) (Az rfl (C6 ?_)))))))
 have ay:=ax.pf []
 exact Ir (a - 1,(u2 (u2 h (D0 a) (aI.mk f.bY f.aT)) (D0 (a - 1)) (aI.mk j.bY j.aT)),K) ⟨rfl,rfl,rfl,rfl,rfl,rfl,trivial⟩ (x.2 ⟨ay,by first | omega | (simp only [H1] <;> omega) | (simp only [H2]),e6,e6,Eq.trans (A) (Eq.trans (if_pos b) (Eq.trans (ah (bJ k)) (Eq.trans (ah (bJ p)) (Eq.trans (ah B) (if_pos F)))))⟩) (by show K < K+1; omega)
 refine jF (dF F) (C7 (Il (Il (IB (bN ?_)))))
 have az:=L.pf []
 exact IQ h ⟨rfl,rfl,rfl,rfl,rfl,trivial⟩ (t.2 ⟨az,by first | omega | (simp only [H1] <;> omega) | (simp only [H2]),ah (Eq.trans (A) (Eq.trans (if_pos b) (Eq.trans (ah (bJ k)) (Eq.trans (ah (bJ p)) (Eq.trans (ah B) (if_neg F))))))⟩)
 refine Ik (rs:= []) 4 rfl rfl rfl (dF b) e7 (Ik (rs:= []) 5 rfl rfl rfl (dF b) e7 (Ik (rs:= []) 6 rfl rfl rfl (dF b) e7 (Ik (rs:= []) 7 rfl rfl rfl (dF b) e7 (Ik (rs:= []) 8 rfl rfl rfl (dF b) e7 (Ik (rs:= []) 9 rfl rfl rfl (dF b) e7 (Ik (rs:= []) 10 rfl rfl rfl (dF b) e7 (Ik (rs:= []) 11 rfl rfl rfl (dF b) e7 (Ik (rs:= []) 12 rfl rfl rfl (dF b) e7 (Ik (rs:= []) 13 rfl rfl rfl (dF b) e7 (Ik (rs:= []) 14 rfl rfl rfl (dF b) e7 (Ik (rs:= []) 15 rfl rfl rfl (dF b) e7 (qt (v:= .bool false) 16 rfl (fun _ _=>Ih rfl (dF b) rfl) (qn (Ig (jf (C7 (Il (Il (IB (bN ?_))))))))))))))))))))
 have aA:=S.pf []
 exact IQ h ⟨rfl,rfl,rfl,rfl,rfl,trivial⟩ (t.2 ⟨aA,by first | omega | (simp only [H1] <;> omega) | (simp only [H2]),ah (Eq.trans (A) (if_neg b))⟩)
 rintro u bu W
 obtain⟨aB,aQ,X⟩:=t.1 W
 refine Ib (Mz rfl (fw (vI (c+1)) (Ie (e:=C5.wrap (c+1)) yk g2) (Az rfl (C6 ?_))))
 have aC:=aB.pf []
 exact Ir (c+1,u,J) ⟨rfl,rfl,rfl,rfl,rfl,trivial⟩ (r.2 ⟨aC,by first | omega | (simp only [H1] <;> omega) | (simp only [H2]),e6,e6,Eq.trans (G) (Eq.trans (if_pos C) (ah X))⟩) (by show J < J+1; omega)
 refine jF (dF C) (C7 (Il ?_))
 have Y:gI d p2 ((D0 (p2 - (d+1)))+1) (d+1) l0=l:=et (G) (iN C)
 refine Il (IB (IA (res0 rfl) ?_))
 have aD:=O.pf []
 obtain rfl:_=l:=hr.symm.trans (ah Y)
 exact⟨rfl,aD,g5⟩
def gG (e:Int) (p2:Int) (g:Int):Nat→Nat→List aI→(List aI)
  | 0,a,b=>default
  | f+1,a,b=>if((a:Nat):Int) < g then bnd (C0 b (D0 (p2+((a:Nat):Int))) default) fun c=>bnd (C0 b (D0 (e+((a:Nat):Int))) default) fun d=>gG e p2 g f (a+1) (u2 (u2 b (D0 (e+((a:Nat):Int))) (aI.mk c.bY c.aT)) (D0 (p2+((a:Nat):Int))) (aI.mk d.bY d.aT)) else b
def fO (l0:List aI) (b:Int) (p2:Int) (a:Int):(List aI):=
 bnd (gG b p2 a ((D0 (a - 0))+1) 0 l0) fun sLrL=>sLrL
theorem kT (w D f E t l0 c p2 g F) (H:Own w D w [row f E t (q3 aI.cells l0) 153 2]) (G:E=l0.length) (T:l0.length *32≤211106232532992) (U:0≤c∧0≤p2∧0≤g∧c+g≤((l0.length:Nat):Int)∧p2+g≤((l0.length:Nat):Int)) (hr:fO l0 c p2 g=F):
    Calls v8 211 #[.slice f E t,vI c,vI p2,vI g, .func (.func 166) #[] #[]] w (d9 fun v w'=>v= .tuple #[]∧Own w D w' [row f E t (q3 aI.cells F) 153 2]∧(F.length=l0.length)):=by
 subst G
 have V:=H.rowC (i:=0) rfl
 refine cb Tryz.func211 ?_
 refine sr (An rfl (bo ?_))
 have I:=H.pf []
 obtain⟨J,k⟩:=rz fun (a:Nat) b (l:Nat) w'=>Own w D w' [row f l0.length t (q3 aI.cells b) 153 2]∧b.length=l0.length∧0≤a∧D0 (g - a) < l∧gG c p2 g ((D0 (g - 0))+1) 0 l0=gG c p2 g l a b
 refine C3 (fun i:Nat × (List aI) × Nat=> [(10,vJ i.1),(0, .slice f l0.length t),(1,vI c),(2,vI p2),(3,vI g)]) J (fun i=>i.2.2) (0,l0,(D0 (g - 0))+1) ⟨rfl,rfl,rfl,rfl,rfl,trivial⟩ (k.2 ⟨I,by first | omega | (simp only [H1] <;> omega) | (simp only [H2]),e6,e6,rfl⟩) ?_
 rintro ⟨a,b,l⟩ W z
 obtain⟨A,O,P,Q,p⟩:=k.1 z
 obtain⟨u,B⟩:∃ q,l=q+1:=⟨l - 1,e6⟩
 subst B
 refine Ic (sr (Mz rfl (Mz rfl (Kz (.bool (decide (((a:Nat):Int) < g))) (nt ?_)))))
 by_cases m:((a:Nat):Int) < g
 refine jT (dT m) (sk (Ic (bo ?_)))
 refine vW [21,23] (bQ.block (Iu (Iu (bQ.block IC)))) A ?_
 intro X K
 refine qv 0 rfl rfl (qv 1 rfl rfl (qv 2 rfl rfl (qt (v:=vI ((D0 (c+((a:Nat):Int)):Nat):Int)) 3 rfl (fun _ _=>Ie (e:=C5.wrap (c+((a:Nat):Int))) yk f0) (IP (v:= .slice f l0.length t) 4 rfl e7 (fun _=>Iq rfl) (IP (v:=vI p2) 5 rfl e7 (fun _=>Iq rfl) (IP (v:=vJ a) 6 rfl e7 (fun _=>Iq rfl) (IP (v:=vI ((D0 (p2+((a:Nat):Int)):Nat):Int)) 7 rfl e7 (fun _=>Ie (e:=C5.wrap (p2+((a:Nat):Int))) yk f0) (qv 8 rfl rfl (qv 9 rfl rfl (qv 10 rfl rfl (qt (v:=vI ((D0 (p2+((a:Nat):Int)):Nat):Int)) 11 rfl (fun _ _=>Ie (e:=C5.wrap (p2+((a:Nat):Int))) yk f0) ?_)))))))))))
 obtain⟨d,r⟩:=jN (ls:=b) (i:=D0 (p2+((a:Nat):Int))) e9
 refine qt (v:= .pointer (some ⟨ab f,ao f+(D0 (p2+((a:Nat):Int))) *2,none⟩)) 12 rfl (fun _ ⟨_,n⟩=>Ij (ko) rfl rfl ((n.rds (i:=0) rfl).addr (i:=D0 (p2+((a:Nat):Int))) e6) e6) (qt (v:= .agg (aI.cells d).toArray) 13 rfl (fun _ ⟨_,n⟩=>Io rfl (Iy (cs:=(aI.cells d)) I0 I2 ((n.rds (i:=0) rfl).elem aI.len r f4))) (qv 14 rfl rfl (qv 15 rfl rfl (qv 16 rfl rfl (qt (v:=vI ((D0 (c+((a:Nat):Int)):Nat):Int)) 17 rfl (fun _ _=>Ie (e:=C5.wrap (c+((a:Nat):Int))) yk f0) ?_)))))
 obtain⟨h,j⟩:=jN (ls:=b) (i:=D0 (c+((a:Nat):Int))) e9
 refine qt (v:= .pointer (some ⟨ab f,ao f+(D0 (c+((a:Nat):Int))) *2,none⟩)) 18 rfl (fun _ ⟨_,n⟩=>Ij (ko) rfl rfl ((n.rds (i:=0) rfl).addr (i:=D0 (c+((a:Nat):Int))) e6) e6) (qt (v:= .agg (aI.cells h).toArray) 19 rfl (fun _ ⟨_,n⟩=>Io rfl (Iy (cs:=(aI.cells h)) I0 I2 ((n.rds (i:=0) rfl).elem aI.len j f4))) (qt (v:= .pointer (some ⟨ab f,ao f+(D0 (c+((a:Nat):Int))) *2,none⟩)) 20 rfl (fun _ ⟨_,n⟩=>Ij (ko) rfl rfl ((n.rds (i:=0) rfl).addr (i:=D0 (c+((a:Nat):Int))) e6) e6) ?_))
 refine qe 21 rfl (Do.storeRow (vs:=(aI.cells d)) (o:=(D0 (c+((a:Nat):Int))) *2+0) (q:=ao f+(D0 (c+((a:Nat):Int))) *2) K rfl e6 rfl I2 rfl rfl (Le rfl) (je aI.len j (Le rfl)) (jV (y:=(aI.mk d.bY d.aT)) aI.len rfl (Le rfl) j) ?_)
 intro Y x
 refine⟨.inl e7, ?_⟩
 obtain⟨Z,R⟩:=jN (ls:=b) (i:=D0 (p2+((a:Nat):Int))) e9
 obtain⟨aa,S⟩:=dN (ls:=(u2 b (D0 (c+((a:Nat):Int))) (aI.mk d.bY d.aT))) (i:=D0 (p2+((a:Nat):Int))) aI.len f4 (x.rds (i:=0) rfl) e9
 refine IP (v:= .pointer (some ⟨ab f,ao f+(D0 (p2+((a:Nat):Int))) *2,none⟩)) 22 rfl e7 (fun _=>Ij (ko) rfl rfl ((x.rds (i:=0) rfl).addr (i:=D0 (p2+((a:Nat):Int))) e6) e6) ?_
 obtain⟨ae,s⟩:=jN (ls:=(u2 b (D0 (c+((a:Nat):Int))) (aI.mk d.bY d.aT))) (i:=D0 (p2+((a:Nat):Int))) e9
 refine qe 23 rfl (Do.storeRow (vs:=(aI.cells h)) (o:=(D0 (p2+((a:Nat):Int))) *2+0) (q:=ao f+(D0 (p2+((a:Nat):Int))) *2) x rfl e6 rfl I2 rfl rfl (Le rfl) (je aI.len s (Le rfl)) (jV (y:=(aI.mk h.bY h.aT)) aI.len rfl (Le rfl) s) ?_)
 intro af L
 refine⟨.inl e7, ?_⟩
 refine qn (bN (Ig (Ib (Mz rfl (fw (vJ (a+1)) (Ie (e:=C5.wrap (((a:Nat):Int)+1)) yk f0) (Az rfl (C6 ?_)))))))
 have M:=L.pf []
 exact Ir (a+1,(u2 (u2 b (D0 (c+((a:Nat):Int))) (aI.mk d.bY d.aT)) (D0 (p2+((a:Nat):Int))) (aI.mk h.bY h.aT)),u) ⟨rfl,rfl,rfl,rfl,rfl,trivial⟩ (k.2 ⟨M,by first | omega | (simp only [H1] <;> omega) | (simp only [H2]),e6,e6,Eq.trans (p) (Eq.trans (if_pos m) (Eq.trans (ah (bJ r)) (ah (bJ j))))⟩) (by show u < u+1; omega)
 refine jF (dF m) (C7 (Il ?_))
 have C:gG c p2 g ((D0 (g - 0))+1) 0 l0=b:=et (p) (iN m)
 refine Il (IB (IA (res0 rfl) ?_))
 have N:=A.pf []
 obtain rfl:_=b:=hr.symm.trans (ah C)
 exact⟨rfl,N,g5⟩
def dD (p2:Int):Nat→Int→Int→List aI→Int × (List aI)
  | 0,a,b,c=>default
  | d+1,a,b,c=>if a=b then(a,c) else if a > b then bnd (fO c (p2 - a) p2 b) fun e=>dD p2 d (a - b) b e else bnd (fO c (p2 - a) ((p2+b) - a) a) fun f=>dD p2 d a (b - a) f
def iL (l0:List aI) (b:Int) (p2:Int) (c:Int):(List aI):=
 bnd (dD p2 ((D0 ((p2 - b)+(c - p2)))+1) (p2 - b) (c - p2) l0) fun sLrL=>bnd (fO sLrL.2 (p2 - sLrL.1) p2 sLrL.1) fun a=>a
theorem qL (w D m T n l0 f p2 g U) (H:Own w D w [row m T n (q3 aI.cells l0) 153 2]) (V:T=l0.length) (aB:l0.length *32≤211106232532992) (aC:0≤f∧f < p2∧p2 < g∧g≤((l0.length:Nat):Int)) (hr:iL l0 f p2 g=U):
    Calls v8 209 #[.slice m T n,vI f,vI p2,vI g, .func (.func 166) #[] #[]] w (d9 fun v w'=>v= .tuple #[]∧Own w D w' [row m T n (q3 aI.cells U) 153 2]∧(U.length=l0.length)):=by
 subst V
 have aD:=H.rowC (i:=0) rfl
 refine cb Tryz.func209 ?_
 refine sr (Mz rfl (Mz rfl (fw (vI (p2 - f)) (Ie (e:=C5.wrap (p2 - f)) yk g2) (Ar rfl (Mz rfl (Mz rfl (fw (vI (g - p2)) (Ie (e:=C5.wrap (g - p2)) yk g2) (An rfl (Ic (bo ?_))))))))))
 have W:=H.pf []
 obtain⟨X,d⟩:=sQ fun (a:Int) (b:Int) c (j:Nat) w'=>Own w D w' [row m l0.length n (q3 aI.cells c) 153 2]∧c.length=l0.length∧(1≤a∧1≤b∧a≤p2 - f∧b≤g - p2)∧D0 (a+b) < j∧dD p2 ((D0 ((p2 - f)+(g - p2)))+1) (p2 - f) (g - p2) l0=dD p2 j a b c
 refine C3 (fun i:Int × Int × (List aI) × Nat=> [(10,vI i.1),(11,vI i.2.1),(0, .slice m l0.length n),(2,vI p2),(4, .func (.func 166) #[] #[])]) X (fun i=>i.2.2.2) (p2 - f,g - p2,l0,(D0 ((p2 - f)+(g - p2)))+1) ⟨rfl,rfl,rfl,rfl,rfl,trivial⟩ (d.2 ⟨W,by first | omega | (simp only [H1] <;> omega) | (simp only [H2]),e6,e6,rfl⟩) ?_
 rintro ⟨a,b,c,j⟩ aF C
 obtain⟨y,ae,af,ag,k⟩:=d.1 C
 obtain⟨h,E⟩:∃ q,j=q+1:=⟨j - 1,e6⟩
 subst E
 refine Ic (sr (Mz rfl (Mz rfl (fw (.bool (decide (¬ (a=b)))) (IG (e:= !(decide (a=b))) yk decide_not.symm) (nt ?_)))))
 by_cases l:a=b
 refine jF (dF (Lh l)) (C7 (Il ?_))
 have F:dD p2 ((D0 ((p2 - f)+(g - p2)))+1) (p2 - f) (g - p2) l0=(a,c):=et (k) (ip l)
 refine Il (IB (Ig (Ib (Mz rfl (Mz rfl (Mz rfl (fw (vI (p2 - a)) (Ie (e:=C5.wrap (p2 - a)) yk g2) (Mz rfl (Mz rfl (Mz rfl ?_))))))))))
 obtain⟨z,p⟩:∃ q,fO c (p2 - a) p2 a=q:=⟨_,rfl⟩
 obtain⟨aG,G,ai,I,aj⟩:=II y
 refine cl I3 (kT _ _ m l0.length n c (p2 - a) p2 a z G f1 e6 e6 p) ?_
 rintro _ aH ⟨rfl,J,r⟩
 have K:=I _ _ J
 have ak:=K.rowC (i:=0) rfl
 replace r:z.length=c.length:=r
 refine C6 (IA (res0 rfl) ?_)
 have Y:=K.pf []
 obtain rfl:_=z:=hr.symm.trans (et (ah F) (ah p))
 exact⟨rfl,Y,g5⟩
 refine jT (dT l) (sk (bo (sr (Mz rfl (Mz rfl (Kz (.bool (decide (a > b))) (nt ?_)))))))
 by_cases o:a > b
 refine jT (dT o) (sr (Mz rfl (Mz rfl (Mz rfl (fw (vI (p2 - a)) (Ie (e:=C5.wrap (p2 - a)) yk g2) (Mz rfl (Mz rfl (Mz rfl ?_))))))))
 obtain⟨A,s⟩:∃ q,fO c (p2 - a) p2 b=q:=⟨_,rfl⟩
 obtain⟨aJ,L,au,M,av⟩:=II y
 refine cl I3 (kT _ _ m l0.length n c (p2 - a) p2 b A L f1 e6 e6 s) ?_
 rintro _ aK ⟨rfl,N,t⟩
 have O:=M _ _ N
 have ax:=O.rowC (i:=0) rfl
 replace t:A.length=c.length:=t
 refine nt (Ib (Mz rfl (Mz rfl (fw (vI (a - b)) (Ie (e:=C5.wrap (a - b)) yk g2) (Az rfl (C6 (bN ?_)))))))
 have Z:=O.pf []
 exact Ir (a - b,b,A,h) ⟨rfl,rfl,rfl,rfl,rfl,trivial⟩ (d.2 ⟨Z,by first | omega | (simp only [H1] <;> omega) | (simp only [H2]),e6,e6,Eq.trans (k) (Eq.trans (if_neg l) (Eq.trans (if_pos o) (ah s)))⟩) (by show h < h+1; omega)
 refine jF (dF o) (sr (Mz rfl (Mz rfl (Mz rfl (fw (vI (p2 - a)) (Ie (e:=C5.wrap (p2 - a)) yk g2) (Mz rfl (Mz rfl (fw (vI (p2+b)) (Ie (e:=C5.wrap (p2+b)) yk g2) (Mz rfl (fw (vI ((p2+b) - a)) (Ie (e:=C5.wrap ((p2+b) - a)) yk g2) (Mz rfl (Mz rfl ?_))))))))))))
 obtain⟨B,u⟩:∃ q,fO c (p2 - a) ((p2+b) - a) a=q:=⟨_,rfl⟩
 obtain⟨aL,P,ay,Q,az⟩:=II y
 refine cl I3 (kT _ _ m l0.length n c (p2 - a) ((p2+b) - a) a B P f1 e6 e6 u) ?_
 rintro _ aM ⟨rfl,R,x⟩
 have S:=Q _ _ R
 have aA:=S.rowC (i:=0) rfl
 replace x:B.length=c.length:=x
 refine nt (Ib (Mz rfl (Mz rfl (fw (vI (b - a)) (Ie (e:=C5.wrap (b - a)) yk g2) (Az rfl (C6 (bN ?_)))))))
 have aa:=S.pf []
 exact Ir (a,b - a,B,h) ⟨rfl,rfl,rfl,rfl,rfl,trivial⟩ (d.2 ⟨aa,by first | omega | (simp only [H1] <;> omega) | (simp only [H2]),e6,e6,Eq.trans (k) (Eq.trans (if_neg l) (Eq.trans (if_neg o) (ah u)))⟩) (by show h < h+1; omega)
end Go.Proofs.YtbkagebjhbphaaaGreat
