/-
 a stable sort of pairs: two sorted ranges made one.
-/
import Derived.Test.YtbkagebjhbphaaaGreatStA
namespace Go.Proofs.YtbkagebjhbphaaaGreat
open Int renaming fdiv→K1,toNat→C6
open IntKind renaming i64→C3,u64→C7
open List renaming flatMap→q4,getD→B8,length_replicate→H0,length_set→G4,set→I3
open _root_.Go.Proofs.Tryz renaming call166→K2,call202→L0,isAgg153→J0,sizeOf153→J1
open WL renaming nil→C4
open Wp renaming exit→C5,loop→C1
set_option maxRecDepth 100000
open Go.RowKit
set_option linter.unusedVariables false
set_option linter.unusedSectionVars false
set_option linter.unusedSimpArgs false
def fI (l0:List aH) (g:Int) (h:Int):Nat→Int→Int→Int
  | 0,a,b=>default
  | c+1,a,b=>if a < b then bnd (B8 l0 ((C6 (a+b)) / 2) default) fun d=>bnd (B8 l0 (C6 g) default) fun e=>bnd (iW d e) fun f=>if f < 0 then fI l0 g h c ((((C6 (a+b)) / 2)+1:Nat):Int) b else fI l0 g h c a (((C6 (a+b)) / 2:Nat):Int) else a
def fJ (e:Int):Nat→Int→List aH→(List aH)
  | 0,a,b=>default
  | f+1,a,b=>if a < e - 1 then bnd (B8 b (C6 (a+1)) default) fun c=>bnd (B8 b (C6 a) default) fun d=>fJ e f (a+1) (I3 (I3 b (C6 a) (aH.mk c.aZ c.aG)) (C6 (a+1)) (aH.mk d.aZ d.aG)) else b
def fK (l0:List aH) (h:Int) (g:Int):Nat→Int→Int→Int
  | 0,a,b=>default
  | f+1,a,b=>if a < b then bnd (B8 l0 (C6 g) default) fun c=>bnd (B8 l0 ((C6 (a+b)) / 2) default) fun d=>bnd (iW c d) fun e=>if e < 0 then fK l0 h g f a (((C6 (a+b)) / 2:Nat):Int) else fK l0 h g f ((((C6 (a+b)) / 2)+1:Nat):Int) b else a
def fM (e:Int):Nat→Int→List aH→(List aH)
  | 0,a,b=>default
  | f+1,a,b=>if a > e then bnd (B8 b (C6 (a - 1)) default) fun c=>bnd (B8 b (C6 a) default) fun d=>fM e f (a - 1) (I3 (I3 b (C6 a) (aH.mk c.aZ c.aG)) (C6 (a - 1)) (aH.mk d.aZ d.aG)) else b
def eD (l0:List aH) (g:Int) (h:Int) (i:Int):Nat→Int→Int→Int
  | 0,a,b=>default
  | c+1,a,b=>if a < b then bnd (B8 l0 (C6 ((((((C6 (g+i)) / 2:Nat):Int)+h) - 1) - (((C6 (a+b)) / 2:Nat):Int))) default) fun d=>bnd (B8 l0 ((C6 (a+b)) / 2) default) fun e=>bnd (iW d e) fun f=>if f < 0 then eD l0 g h i c a (((C6 (a+b)) / 2:Nat):Int) else eD l0 g h i c ((((C6 (a+b)) / 2)+1:Nat):Int) b else a
def lg (l0:List aH) (a:Int) (c:Int) (b:Int):(List aH):=
 if c - a=1 then bnd (fI l0 a b ((C6 (b - c))+1) c b) fun sLrtL=>bnd (fJ sLrtL ((C6 (b - a))+1) a l0) fun sLrtLaL=>sLrtLaL else if b - c=1 then bnd (fK l0 a c ((C6 (c - a))+1) a c) fun sLrftL=>bnd (fM sLrftL ((C6 (c - a))+1) c l0) fun sLrftLaL=>sLrftLaL else bnd (if c > (((C6 (a+b)) / 2:Nat):Int) then(((((C6 (a+b)) / 2:Nat):Int)+c) - b,(((C6 (a+b)) / 2:Nat):Int)) else(a,c)) fun sJrffJ=>bnd (eD l0 a c b ((C6 (sJrffJ.2 - sJrffJ.1))+1) sJrffJ.1 sJrffJ.2) fun sLrffJaL=>if sLrffJaL < c then bnd (if c < ((((C6 (a+b)) / 2:Nat):Int)+c) - sLrffJaL then bnd (ib l0 sLrffJaL c (((((C6 (a+b)) / 2:Nat):Int)+c) - sLrffJaL)) fun d=>d else l0) fun sJrffJaLatJ=>if a < sLrffJaL then bnd (if sLrffJaL < (((C6 (a+b)) / 2:Nat):Int) then bnd (mH sJrffJaLatJ a sLrffJaL (((C6 (a+b)) / 2:Nat):Int)) fun e=>e else sJrffJaLatJ) fun sJrffJaLatJatJ=>if((((C6 (a+b)) / 2:Nat):Int)+c) - sLrffJaL < b then bnd (mH sJrffJaLatJatJ (((C6 (a+b)) / 2:Nat):Int) (((((C6 (a+b)) / 2:Nat):Int)+c) - sLrffJaL) b) fun f=>f else sJrffJaLatJatJ else if((((C6 (a+b)) / 2:Nat):Int)+c) - sLrffJaL < b then bnd (mH sJrffJaLatJ (((C6 (a+b)) / 2:Nat):Int) (((((C6 (a+b)) / 2:Nat):Int)+c) - sLrffJaL) b) fun g=>g else sJrffJaLatJ else bnd (if sLrffJaL < (((C6 (a+b)) / 2:Nat):Int) then bnd (mH l0 a sLrffJaL (((C6 (a+b)) / 2:Nat):Int)) fun h=>h else l0) fun sJrffJaLafJ=>sJrffJaLafJ
theorem pU (w:World) (D:Nat→Prop) (j:Option Addr) (n0 u:Nat) (l0:List aH) (b:Int) (d:Int) (c:Int) (r0:List aH) (H:Own w D w [row j n0 u (q4 aH.cells l0) 153 2]) (fC:n0=l0.length) (iA:l0.length *32≤211106232532992) (iB:0≤b∧b < d∧d < c∧c≤((l0.length:Nat):Int)) (hr:lg l0 b d c=r0) (pm:Nat) (hpm:pm=C6 (c - b))
    (self_:∀ (w:World) (D:Nat→Prop) (j:Option Addr) (n0 u:Nat) (l0:List aH) (b:Int) (d:Int) (c:Int) (r0:List aH) (H:Own w D w [row j n0 u (q4 aH.cells l0) 153 2]) (fC:n0=l0.length) (iA:l0.length *32≤211106232532992) (iB:0≤b∧b < d∧d < c∧c≤((l0.length:Nat):Int)) (hh_:C6 (c - b) < pm) (hr:mH l0 b d c=r0),Calls Tryz.prog 202 #[.slice j n0 u,vI b,vI d,vI c, .func (.func 166) #[] #[]] w (dA fun v w'=>v= .tuple #[]∧Own w D w' [row j n0 u (q4 aH.cells r0) 153 2]∧(r0.length=l0.length))):
    Calls Tryz.prog 202 #[.slice j n0 u,vI b,vI d,vI c, .func (.func 166) #[] #[]] w (dA fun v w'=>v= .tuple #[]∧Own w D w' [row j n0 u (q4 aH.cells r0) 153 2]∧(r0.length=l0.length)):=by
 subst fC
 have kR:=H.rowC (i:=0) rfl
 refine cb Tryz.func202 ?_
 refine Ik (sr (Mz rfl (Mz rfl (fw (vI (d - b)) (Ir (e:=C3.wrap (d - b)) yk g1) (Kz (.bool (decide (d - b=1))) (nt ?_))))))
 by_cases K:d - b=1
 refine jT (dT K) (sr (Mz rfl (Ar rfl (Mz rfl (An rfl (Ik (bo ?_)))))))
 have iC:=H.pf []
 obtain⟨iD,aG⟩:=rJ fun (k:Int) (m:Int) (aZ:Nat) w'=>Own w D w' [row j l0.length u (q4 aH.cells l0) 153 2]∧(d≤k∧k≤m∧m≤c)∧C6 (m - k) < aZ∧fI l0 b c ((C6 (c - d))+1) d c=fI l0 b c aZ k m
 refine C1 (fun i:Int × Int × Nat=> [(10,vI i.1),(11,vI i.2.1),(0, .slice j l0.length u),(1,vI b),(2,vI d),(3,vI c),(4, .func (.func 166) #[] #[])]) iD (fun i=>i.2.2) (d,c,(C6 (c - d))+1) ⟨rfl,rfl,rfl,rfl,rfl,rfl,rfl,trivial⟩ (aG.2 ⟨iC,e6,e6,rfl⟩) ?_
 rintro ⟨k,m,aZ⟩ kS fD
 obtain⟨fE,jN,jO,bf⟩:=aG.1 fD
 obtain⟨aY,fF⟩:∃ q,aZ=q+1:=⟨aZ - 1,e6⟩
 subst fF
 refine Ik (sr (Mz rfl (Mz rfl (Kz (.bool (decide (k < m))) (nt ?_)))))
 by_cases bg:k < m
 refine jT (dT bg) (sk (bo (sr (Mz rfl (Mz rfl (fw (vI (k+m)) (Ir (e:=C3.wrap (k+m)) yk g1) (fw (vU (C6 (k+m))) (Ir (e:=C7.wrap (k+m)) yk g7) (fw (.int .u64 (((C6 (k+m)) / 2:Nat):Int)) (Ir (e:=K1 ((C6 (k+m):Nat):Int) 2) yk (ny _ 1 _ f2)) (fw (vI (((C6 (k+m)) / 2:Nat):Int)) (Ir (e:=C3.wrap (((C6 (k+m)) / 2:Nat):Int)) yk (Lm _ e6)) (An rfl (Ik ?_)))))))))))
 refine vo [] (IE (bv.block (IE (bv.block (IE (IE IQ)))))) fE ?_
 intro kT iE
 refine qv 0 rfl rfl (qv 1 rfl rfl (qv 2 rfl rfl ?_))
 obtain⟨cz,bi⟩:=iG (ls:=l0) (i:=(C6 (k+m)) / 2) e9
 refine qt (v:= .pointer (some ⟨ab j,ao j+((C6 (k+m)) / 2) *2,none⟩)) 3 rfl (fun _ ⟨_,t⟩=>Iz (jL) rfl rfl ((t.rds (i:=0) rfl).addr (i:=(C6 (k+m)) / 2) e6) e6) (qt (v:= .agg (aH.cells cz).toArray) 4 rfl (fun _ ⟨_,t⟩=>IB rfl (IJ (cs:=(aH.cells cz)) J0 J1 ((t.rds (i:=0) rfl).elem aH.len bi f2))) (qv 5 rfl rfl (qt (v:=vJ (C6 b)) 6 rfl (fun _ _=>Ir (e:=b) (IA rfl) e6) ?_)))
 obtain⟨cB,bn⟩:=iG (ls:=l0) (i:=C6 b) e9
 refine qt (v:= .pointer (some ⟨ab j,ao j+(C6 b) *2,none⟩)) 7 rfl (fun _ ⟨_,t⟩=>Iz (jL) rfl rfl ((t.rds (i:=0) rfl).addr (i:=C6 b) e6) e6) (qt (v:= .agg (aH.cells cB).toArray) 8 rfl (fun _ ⟨_,t⟩=>IB rfl (IJ (cs:=(aH.cells cB)) J0 J1 ((t.rds (i:=0) rfl).elem aH.len bn f2))) ?_)
 obtain⟨dG,bq⟩:∃ q,iW cz cB=q:=⟨_,rfl⟩
 obtain⟨kU,fG,jP,fH,jQ⟩:=Iu iE
 refine qd 9 rfl (IY K2 rfl rfl (nk _ _ cz cB dG fG bq) ?_)
 rintro _ kV ⟨rfl,fO⟩
 have dH:=fH _ _ fO
 refine⟨.inr ⟨_,dH⟩, ?_⟩
 refine qk (.bool (decide (dG < 0))) 10 rfl (qn (Iq ?_))
 by_cases cK:dG < 0
 refine jT (dT cK) (Il (Mz rfl (fw (vI ((((C6 (k+m)) / 2)+1:Nat):Int)) (Ir (e:=C3.wrap ((((C6 (k+m)) / 2:Nat):Int)+1)) yk f0) (Az rfl (C4 (bN ?_))))))
 have iF:=dH.pf []
 exact II (((((C6 (k+m)) / 2)+1:Nat):Int),m,aY) ⟨rfl,rfl,rfl,rfl,rfl,rfl,rfl,trivial⟩ (aG.2 ⟨iF,e6,e6,et (bf) (et (ip bg) (et (ae (aT bi)) (et (ae (aT bn)) (et (ae bq) (ip cK)))))⟩) (by show aY < aY+1; omega)
 refine jF (dF cK) (Il (Mz rfl (Az rfl (C4 (bN ?_)))))
 have iH:=dH.pf []
 exact II (k,(((C6 (k+m)) / 2:Nat):Int),aY) ⟨rfl,rfl,rfl,rfl,rfl,rfl,rfl,trivial⟩ (aG.2 ⟨iH,e6,e6,et (bf) (et (ip bg) (et (ae (aT bi)) (et (ae (aT bn)) (et (ae bq) (iN cK)))))⟩) (by show aY < aY+1; omega)
 refine jF (dF bg) (C5 (IC ?_))
 have fP:fI l0 b c ((C6 (c - d))+1) d c=k:=et (bf) (iN bg)
 refine IC (IK (Iq (Ik (sr (Mz rfl (An rfl (bo ?_)))))))
 have iI:=fE.pf []
 obtain⟨iJ,bu⟩:=rJ fun (h:Int) C (bz:Nat) w'=>Own w D w' [row j l0.length u (q4 aH.cells C) 153 2]∧C.length=l0.length∧b≤h∧C6 (c - h) < bz∧fJ k ((C6 (c - b))+1) b l0=fJ k bz h C
 refine C1 (fun i:Int × (List aH) × Nat=> [(13,vI i.1),(10,vI k),(0, .slice j l0.length u),(1,vI b),(2,vI d),(3,vI c),(4, .func (.func 166) #[] #[])]) iJ (fun i=>i.2.2) (b,l0,(C6 (c - b))+1) ⟨rfl,rfl,rfl,rfl,rfl,rfl,rfl,trivial⟩ (bu.2 ⟨iI,by first | omega | (simp only [G4] <;> omega) | (simp only [H0]),e6,e6,rfl⟩) ?_
 rintro ⟨h,C,bz⟩ kW fQ
 obtain⟨fT,jR,jS,jU,cZ⟩:=bu.1 fQ
 obtain⟨dI,fU⟩:∃ q,bz=q+1:=⟨bz - 1,e6⟩
 subst fU
 refine Ik (sr (Mz rfl (Mz rfl (fw (vI (k - 1)) (Ir (e:=C3.wrap (k - 1)) yk g1) (Kz (.bool (decide (h < k - 1))) (nt ?_))))))
 by_cases cO:h < k - 1
 refine jT (dT cO) (sk (Ik (bo ?_)))
 refine vo [15,17] (bv.block (IE (IE (bv.block (IE (IE IQ)))))) fT ?_
 intro kX iK
 refine qv 0 rfl rfl (qt (v:=vJ (C6 h)) 1 rfl (fun _ _=>Ir (e:=h) (IA rfl) e6) (I4 (v:= .slice j l0.length u) 2 rfl e7 (fun _=>IA rfl) (I4 (v:=vI h) 3 rfl e7 (fun _=>IA rfl) (I4 (v:=vJ (C6 (h+1))) 4 rfl e7 (fun _=>Ir (e:=C3.wrap (h+1)) yk f0) (qv 5 rfl rfl (qv 6 rfl rfl (qt (v:=vJ (C6 (h+1))) 7 rfl (fun _ _=>Ir (e:=C3.wrap (h+1)) yk f0) ?_)))))))
 obtain⟨ah,df⟩:=iG (ls:=C) (i:=C6 (h+1)) e9
 refine qt (v:= .pointer (some ⟨ab j,ao j+(C6 (h+1)) *2,none⟩)) 8 rfl (fun _ ⟨_,t⟩=>Iz (jL) rfl rfl ((t.rds (i:=0) rfl).addr (i:=C6 (h+1)) e6) e6) (qt (v:= .agg (aH.cells ah).toArray) 9 rfl (fun _ ⟨_,t⟩=>IB rfl (IJ (cs:=(aH.cells ah)) J0 J1 ((t.rds (i:=0) rfl).elem aH.len df f2))) (qv 10 rfl rfl (qt (v:=vJ (C6 h)) 11 rfl (fun _ _=>Ir (e:=h) (IA rfl) e6) ?_)))
 obtain⟨bA,aI⟩:=iG (ls:=C) (i:=C6 h) e9
 refine qt (v:= .pointer (some ⟨ab j,ao j+(C6 h) *2,none⟩)) 12 rfl (fun _ ⟨_,t⟩=>Iz (jL) rfl rfl ((t.rds (i:=0) rfl).addr (i:=C6 h) e6) e6) (qt (v:= .agg (aH.cells bA).toArray) 13 rfl (fun _ ⟨_,t⟩=>IB rfl (IJ (cs:=(aH.cells bA)) J0 J1 ((t.rds (i:=0) rfl).elem aH.len aI f2))) (qt (v:= .pointer (some ⟨ab j,ao j+(C6 h) *2,none⟩)) 14 rfl (fun _ ⟨_,t⟩=>Iz (jL) rfl rfl ((t.rds (i:=0) rfl).addr (i:=C6 h) e6) e6) ?_))
 refine qe 15 rfl (Do.storeRow (vs:=(aH.cells ah)) (o:=(C6 h) *2+0) (q:=ao j+(C6 h) *2) iK rfl e6 rfl J1 rfl rfl (Lj rfl) (ja aH.len aI (Lj rfl)) (jJ (y:=ah) aH.len rfl (Lj rfl) aI) ?_)
 intro kY dJ
 refine⟨.inl e7, ?_⟩
 obtain⟨kZ,jV⟩:=iG (ls:=C) (i:=C6 (h+1)) e9
 obtain⟨lc,jW⟩:=dh (ls:=(I3 C (C6 h) ah)) (i:=C6 (h+1)) aH.len f2 (dJ.rds (i:=0) rfl) e9
 refine I4 (v:= .pointer (some ⟨ab j,ao j+(C6 (h+1)) *2,none⟩)) 16 rfl e7 (fun _=>Iz (jL) rfl rfl ((dJ.rds (i:=0) rfl).addr (i:=C6 (h+1)) e6) e6) ?_
 obtain⟨lh,di⟩:=iG (ls:=(I3 C (C6 h) ah)) (i:=C6 (h+1)) e9
 refine qe 17 rfl (Do.storeRow (vs:=(aH.cells bA)) (o:=(C6 (h+1)) *2+0) (q:=ao j+(C6 (h+1)) *2) dJ rfl e6 rfl J1 rfl rfl (Lj rfl) (ja aH.len di (Lj rfl)) (jJ (y:=bA) aH.len rfl (Lj rfl) di) ?_)
 intro ll iL
 refine⟨.inl e7, ?_⟩
 refine qn (bN (Iq (Il (Mz rfl (fw (vI (h+1)) (Ir (e:=C3.wrap (h+1)) yk g1) (Az rfl (C4 ?_)))))))
 have iM:=iL.pf []
 exact II (h+1,(I3 (I3 C (C6 h) ah) (C6 (h+1)) bA),dI) ⟨rfl,rfl,rfl,rfl,rfl,rfl,rfl,trivial⟩ (bu.2 ⟨iM,by first | omega | (simp only [G4] <;> omega) | (simp only [H0]),e6,e6,Eq.trans (cZ) (Eq.trans (if_pos cO) (Eq.trans (ae (aT df)) (ae (aT aI))))⟩) (by show dI < dI+1; omega)
 refine jF (dF cO) (C5 (IC ?_))
 have fV:fJ k ((C6 (c - b))+1) b l0=C:=et (cZ) (iN cO)
 refine IC (IK (Iq (rt (tR (Fin.res (res0 rfl) ?_)))))
 have iO:=fT.pf []
 obtain rfl:_=C:=hr.symm.trans (et (ip K) (et (ae fP) (ae fV)))
 exact⟨rfl,iO,g4⟩
 refine jF (dF K) (sk (Ik (sr (Mz rfl (Mz rfl (fw (vI (c - d)) (Ir (e:=C3.wrap (c - d)) yk g1) (Kz (.bool (decide (c - d=1))) (nt ?_))))))))
 by_cases T:c - d=1
 refine jT (dT T) (sr (Mz rfl (Ar rfl (Mz rfl (An rfl (Ik (bo ?_)))))))
 have iP:=H.pf []
 obtain⟨fZ,L⟩:=rJ fun (l:Int) (n:Int) (bB:Nat) w'=>Own w D w' [row j l0.length u (q4 aH.cells l0) 153 2]∧(b≤l∧l≤n∧n≤d)∧C6 (n - l) < bB∧fK l0 b d ((C6 (d - b))+1) b d=fK l0 b d bB l n
 refine C1 (fun i:Int × Int × Nat=> [(14,vI i.1),(15,vI i.2.1),(0, .slice j l0.length u),(1,vI b),(2,vI d),(3,vI c),(4, .func (.func 166) #[] #[])]) fZ (fun i=>i.2.2) (b,d,(C6 (d - b))+1) ⟨rfl,rfl,rfl,rfl,rfl,rfl,rfl,trivial⟩ (L.2 ⟨iP,e6,e6,rfl⟩) ?_
 rintro ⟨l,n,bB⟩ jX dK
 obtain⟨dm,iQ,iR,ai⟩:=L.1 dK
 obtain⟨I,dL⟩:∃ q,bB=q+1:=⟨bB - 1,e6⟩
 subst dL
 refine Ik (sr (Mz rfl (Mz rfl (Kz (.bool (decide (l < n))) (nt ?_)))))
 by_cases U:l < n
 refine jT (dT U) (sk (bo (sr (Mz rfl (Mz rfl (fw (vI (l+n)) (Ir (e:=C3.wrap (l+n)) yk g1) (fw (vU (C6 (l+n))) (Ir (e:=C7.wrap (l+n)) yk g7) (fw (.int .u64 (((C6 (l+n)) / 2:Nat):Int)) (Ir (e:=K1 ((C6 (l+n):Nat):Int) 2) yk (ny _ 1 _ f2)) (fw (vI (((C6 (l+n)) / 2:Nat):Int)) (Ir (e:=C3.wrap (((C6 (l+n)) / 2:Nat):Int)) yk (Lm _ e6)) (An rfl (Ik ?_)))))))))))
 refine vo [] (IE (bv.block (IE (bv.block (IE (IE IQ)))))) dm ?_
 intro jY gm
 refine qv 0 rfl rfl (qv 1 rfl rfl (qt (v:=vJ (C6 d)) 2 rfl (fun _ _=>Ir (e:=d) (IA rfl) e6) ?_))
 obtain⟨aJ,aj⟩:=iG (ls:=l0) (i:=C6 d) e9
 refine qt (v:= .pointer (some ⟨ab j,ao j+(C6 d) *2,none⟩)) 3 rfl (fun _ ⟨_,t⟩=>Iz (jL) rfl rfl ((t.rds (i:=0) rfl).addr (i:=C6 d) e6) e6) (qt (v:= .agg (aH.cells aJ).toArray) 4 rfl (fun _ ⟨_,t⟩=>IB rfl (IJ (cs:=(aH.cells aJ)) J0 J1 ((t.rds (i:=0) rfl).elem aH.len aj f2))) (qv 5 rfl rfl (qv 6 rfl rfl ?_)))
 obtain⟨aK,ak⟩:=iG (ls:=l0) (i:=(C6 (l+n)) / 2) e9
 refine qt (v:= .pointer (some ⟨ab j,ao j+((C6 (l+n)) / 2) *2,none⟩)) 7 rfl (fun _ ⟨_,t⟩=>Iz (jL) rfl rfl ((t.rds (i:=0) rfl).addr (i:=(C6 (l+n)) / 2) e6) e6) (qt (v:= .agg (aH.cells aK).toArray) 8 rfl (fun _ ⟨_,t⟩=>IB rfl (IJ (cs:=(aH.cells aK)) J0 J1 ((t.rds (i:=0) rfl).elem aH.len ak f2))) ?_)
 obtain⟨V,au⟩:∃ q,iW aJ aK=q:=⟨_,rfl⟩
 obtain⟨jZ,dM,iT,dN,iU⟩:=Iu gm
 refine qd 9 rfl (IY K2 rfl rfl (nk _ _ aJ aK V dM au) ?_)
 rintro _ j3 ⟨rfl,dO⟩
 have bC:=dN _ _ dO
 refine⟨.inr ⟨_,bC⟩, ?_⟩
 refine qk (.bool (decide (V < 0))) 10 rfl (qt (v:= .bool (decide (¬ (V < 0)))) 11 rfl (fun _ _=>IM (e:= !(decide (V < 0))) yk decide_not.symm) (qn (Iq ?_)))
 by_cases aL:V < 0
 refine jF (dF (Lr aL)) (Il (Mz rfl (Az rfl (C4 (bN ?_)))))
 have gp:=bC.pf []
 exact II (l,(((C6 (l+n)) / 2:Nat):Int),I) ⟨rfl,rfl,rfl,rfl,rfl,rfl,rfl,trivial⟩ (L.2 ⟨gp,e6,e6,et (ai) (et (ip U) (et (ae (aT aj)) (et (ae (aT ak)) (et (ae au) (ip aL)))))⟩) (by show I < I+1; omega)
 refine jT (dT aL) (Il (Mz rfl (fw (vI ((((C6 (l+n)) / 2)+1:Nat):Int)) (Ir (e:=C3.wrap ((((C6 (l+n)) / 2:Nat):Int)+1)) yk f0) (Az rfl (C4 (bN ?_))))))
 have gq:=bC.pf []
 exact II (((((C6 (l+n)) / 2)+1:Nat):Int),n,I) ⟨rfl,rfl,rfl,rfl,rfl,rfl,rfl,trivial⟩ (L.2 ⟨gq,e6,e6,et (ai) (et (ip U) (et (ae (aT aj)) (et (ae (aT ak)) (et (ae au) (iN aL)))))⟩) (by show I < I+1; omega)
 refine jF (dF U) (C5 (IC ?_))
 have dP:fK l0 b d ((C6 (d - b))+1) b d=l:=et (ai) (iN U)
 refine IC (IK (Iq (Ik (sr (Mz rfl (An rfl (bo ?_)))))))
 have gu:=dm.pf []
 obtain⟨gy,av⟩:=rJ fun (f:Int) z (W:Nat) w'=>Own w D w' [row j l0.length u (q4 aH.cells z) 153 2]∧z.length=l0.length∧f≤d∧C6 (f - b) < W∧fM l ((C6 (d - b))+1) d l0=fM l W f z
 refine C1 (fun i:Int × (List aH) × Nat=> [(17,vI i.1),(14,vI l),(0, .slice j l0.length u),(1,vI b),(2,vI d),(3,vI c),(4, .func (.func 166) #[] #[])]) gy (fun i=>i.2.2) (d,l0,(C6 (d - b))+1) ⟨rfl,rfl,rfl,rfl,rfl,rfl,rfl,trivial⟩ (av.2 ⟨gu,by first | omega | (simp only [G4] <;> omega) | (simp only [H0]),e6,e6,rfl⟩) ?_
 rintro ⟨f,z,W⟩ j4 dQ
 obtain⟨dn,iV,iX,iY,bD⟩:=av.1 dQ
 obtain⟨bE,dR⟩:∃ q,W=q+1:=⟨W - 1,e6⟩
 subst dR
 refine Ik (sr (Mz rfl (Mz rfl (Kz (.bool (decide (f > l))) (nt ?_)))))
 by_cases aM:f > l
 refine jT (dT aM) (sk (Ik (bo ?_)))
 refine vo [15,17] (bv.block (IE (IE (bv.block (IE (IE IQ)))))) dn ?_
 intro j5 gz
 refine qv 0 rfl rfl (qt (v:=vJ (C6 f)) 1 rfl (fun _ _=>Ir (e:=f) (IA rfl) e6) (I4 (v:= .slice j l0.length u) 2 rfl e7 (fun _=>IA rfl) (I4 (v:=vI f) 3 rfl e7 (fun _=>IA rfl) (I4 (v:=vJ (C6 (f - 1))) 4 rfl e7 (fun _=>Ir (e:=C3.wrap (f - 1)) yk f0) (qv 5 rfl rfl (qv 6 rfl rfl (qt (v:=vJ (C6 (f - 1))) 7 rfl (fun _ _=>Ir (e:=C3.wrap (f - 1)) yk f0) ?_)))))))
 obtain⟨E,bF⟩:=iG (ls:=z) (i:=C6 (f - 1)) e9
 refine qt (v:= .pointer (some ⟨ab j,ao j+(C6 (f - 1)) *2,none⟩)) 8 rfl (fun _ ⟨_,t⟩=>Iz (jL) rfl rfl ((t.rds (i:=0) rfl).addr (i:=C6 (f - 1)) e6) e6) (qt (v:= .agg (aH.cells E).toArray) 9 rfl (fun _ ⟨_,t⟩=>IB rfl (IJ (cs:=(aH.cells E)) J0 J1 ((t.rds (i:=0) rfl).elem aH.len bF f2))) (qv 10 rfl rfl (qt (v:=vJ (C6 f)) 11 rfl (fun _ _=>Ir (e:=f) (IA rfl) e6) ?_)))
 obtain⟨X,M⟩:=iG (ls:=z) (i:=C6 f) e9
 refine qt (v:= .pointer (some ⟨ab j,ao j+(C6 f) *2,none⟩)) 12 rfl (fun _ ⟨_,t⟩=>Iz (jL) rfl rfl ((t.rds (i:=0) rfl).addr (i:=C6 f) e6) e6) (qt (v:= .agg (aH.cells X).toArray) 13 rfl (fun _ ⟨_,t⟩=>IB rfl (IJ (cs:=(aH.cells X)) J0 J1 ((t.rds (i:=0) rfl).elem aH.len M f2))) (qt (v:= .pointer (some ⟨ab j,ao j+(C6 f) *2,none⟩)) 14 rfl (fun _ ⟨_,t⟩=>Iz (jL) rfl rfl ((t.rds (i:=0) rfl).addr (i:=C6 f) e6) e6) ?_))
 refine qe 15 rfl (Do.storeRow (vs:=(aH.cells E)) (o:=(C6 f) *2+0) (q:=ao j+(C6 f) *2) gz rfl e6 rfl J1 rfl rfl (Lj rfl) (ja aH.len M (Lj rfl)) (jJ (y:=E) aH.len rfl (Lj rfl) M) ?_)
 intro j6 bG
 refine⟨.inl e7, ?_⟩
 obtain⟨kg,iZ⟩:=iG (ls:=z) (i:=C6 (f - 1)) e9
 obtain⟨ko,jb⟩:=dh (ls:=(I3 z (C6 f) E)) (i:=C6 (f - 1)) aH.len f2 (bG.rds (i:=0) rfl) e9
 refine I4 (v:= .pointer (some ⟨ab j,ao j+(C6 (f - 1)) *2,none⟩)) 16 rfl e7 (fun _=>Iz (jL) rfl rfl ((bG.rds (i:=0) rfl).addr (i:=C6 (f - 1)) e6) e6) ?_
 obtain⟨kr,bH⟩:=iG (ls:=(I3 z (C6 f) E)) (i:=C6 (f - 1)) e9
 refine qe 17 rfl (Do.storeRow (vs:=(aH.cells X)) (o:=(C6 (f - 1)) *2+0) (q:=ao j+(C6 (f - 1)) *2) bG rfl e6 rfl J1 rfl rfl (Lj rfl) (ja aH.len bH (Lj rfl)) (jJ (y:=X) aH.len rfl (Lj rfl) bH) ?_)
 intro ku gB
 refine⟨.inl e7, ?_⟩
 refine qn (bN (Iq (Il (Mz rfl (fw (vI (f - 1)) (Ir (e:=C3.wrap (f - 1)) yk g1) (Az rfl (C4 ?_)))))))
 have gD:=gB.pf []
 exact II (f - 1,(I3 (I3 z (C6 f) E) (C6 (f - 1)) X),bE) ⟨rfl,rfl,rfl,rfl,rfl,rfl,rfl,trivial⟩ (av.2 ⟨gD,by first | omega | (simp only [G4] <;> omega) | (simp only [H0]),e6,e6,Eq.trans (bD) (Eq.trans (if_pos aM) (Eq.trans (ae (aT bF)) (ae (aT M))))⟩) (by show bE < bE+1; omega)
 refine jF (dF aM) (C5 (IC ?_))
 have dS:fM l ((C6 (d - b))+1) d l0=z:=et (bD) (iN aM)
 refine IC (IK (Iq (rt (tR (Fin.res (res0 rfl) ?_)))))
 have gF:=dn.pf []
 obtain rfl:_=z:=hr.symm.trans (et (iN K) (et (ip T) (et (ae dP) (ae dS))))
 exact⟨rfl,gF,g4⟩
 refine jF (dF T) (sk (sr (Mz rfl (Mz rfl (fw (vI (b+c)) (Ir (e:=C3.wrap (b+c)) yk g1) (fw (vU (C6 (b+c))) (Ir (e:=C7.wrap (b+c)) yk g7) (fw (.int .u64 (((C6 (b+c)) / 2:Nat):Int)) (Ir (e:=K1 ((C6 (b+c):Nat):Int) 2) yk (ny _ 1 _ f2)) (fw (vI (((C6 (b+c)) / 2:Nat):Int)) (Ir (e:=C3.wrap (((C6 (b+c)) / 2:Nat):Int)) yk (Lm _ e6)) (Ar rfl (Mz rfl (Mz rfl (fw (vI ((((C6 (b+c)) / 2:Nat):Int)+d)) (Ir (e:=C3.wrap ((((C6 (b+c)) / 2:Nat):Int)+d)) yk g1) (Ar rfl (Az rfl (An rfl (Ik (sr (Mz rfl (Mz rfl (Kz (.bool (decide (d > (((C6 (b+c)) / 2:Nat):Int)))) (nt ?_)))))))))))))))))))))
 obtain⟨gG,ax⟩:=FI fun (p:Int) (r:Int) w'=>Own w D w' [row j l0.length u (q4 aH.cells l0) 153 2]∧(-9223372036854775808≤p∧p≤9223372036854775807)∧(-9223372036854775808≤r∧r≤9223372036854775807)∧(b≤p∧(((C6 (b+c)) / 2:Nat):Int)+d - c≤p∧p≤r∧r≤(((C6 (b+c)) / 2:Nat):Int)∧r≤d)∧(if d > (((C6 (b+c)) / 2:Nat):Int) then(((((C6 (b+c)) / 2:Nat):Int)+d) - c,(((C6 (b+c)) / 2:Nat):Int)) else(b,d))=(p,r)
 refine Jg (fun i:Int × Int=> [(20,vI i.1),(21,vI i.2),(19,vI ((((C6 (b+c)) / 2:Nat):Int)+d)),(18,vI (((C6 (b+c)) / 2:Nat):Int)),(0, .slice j l0.length u),(1,vI b),(2,vI d),(3,vI c),(4, .func (.func 166) #[] #[])]) gG ?_ ?_
 by_cases aN:d > (((C6 (b+c)) / 2:Nat):Int)
 refine jT (dT aN) (sr (Mz rfl (Mz rfl (fw (vI (((((C6 (b+c)) / 2:Nat):Int)+d) - c)) (Ir (e:=C3.wrap (((((C6 (b+c)) / 2:Nat):Int)+d) - c)) yk g1) (An rfl (Il (Mz rfl (Az rfl (C4 ?_)))))))))
 have gH:=H.pf []
 exact I8 (((((C6 (b+c)) / 2:Nat):Int)+d) - c,(((C6 (b+c)) / 2:Nat):Int)) ⟨rfl,rfl,rfl,rfl,rfl,rfl,rfl,rfl,rfl,trivial⟩ (ax.2 ⟨gH,e6,e6,e6,ip aN⟩)
 refine jF (dF aN) (sr (Mz rfl (An rfl (Il (Mz rfl (Az rfl (C4 ?_)))))))
 have gI:=H.pf []
 exact I8 (b,d) ⟨rfl,rfl,rfl,rfl,rfl,rfl,rfl,rfl,rfl,trivial⟩ (ax.2 ⟨gI,e6,e6,e6,iN aN⟩)
 rintro ⟨p,r⟩ kv dU
 obtain⟨gJ,jc,jd,je,F⟩:=ax.1 dU
 refine sr (Mz rfl (fw (vI (((((C6 (b+c)) / 2:Nat):Int)+d) - 1)) (Ir (e:=C3.wrap (((((C6 (b+c)) / 2:Nat):Int)+d) - 1)) yk g1) (An rfl (Ik (bo ?_)))))
 have gK:=gJ.pf []
 obtain⟨gL,N⟩:=rJ fun (a:Int) (g:Int) (Y:Nat) w'=>Own w D w' [row j l0.length u (q4 aH.cells l0) 153 2]∧(b≤a∧(((C6 (b+c)) / 2:Nat):Int)+d - c≤a∧a≤g∧g≤(((C6 (b+c)) / 2:Nat):Int)∧g≤d)∧C6 (g - a) < Y∧eD l0 b d c ((C6 (r - p))+1) p r=eD l0 b d c Y a g
 refine C1 (fun i:Int × Int × Nat=> [(20,vI i.1),(21,vI i.2.1),(22,vI (((((C6 (b+c)) / 2:Nat):Int)+d) - 1)),(19,vI ((((C6 (b+c)) / 2:Nat):Int)+d)),(18,vI (((C6 (b+c)) / 2:Nat):Int)),(0, .slice j l0.length u),(1,vI b),(2,vI d),(3,vI c),(4, .func (.func 166) #[] #[])]) gL (fun i=>i.2.2) (p,r,(C6 (r - p))+1) ⟨rfl,rfl,rfl,rfl,rfl,rfl,rfl,rfl,rfl,rfl,trivial⟩ (N.2 ⟨gK,e6,e6,rfl⟩) ?_
 rintro ⟨a,g,Y⟩ kw dV
 obtain⟨Z,jg,jh,ay⟩:=N.1 dV
 obtain⟨J,dW⟩:∃ q,Y=q+1:=⟨Y - 1,e6⟩
 subst dW
 refine Ik (sr (Mz rfl (Mz rfl (Kz (.bool (decide (a < g))) (nt ?_)))))
 by_cases aa:a < g
 refine jT (dT aa) (sk (bo (sr (Mz rfl (Mz rfl (fw (vI (a+g)) (Ir (e:=C3.wrap (a+g)) yk g1) (fw (vU (C6 (a+g))) (Ir (e:=C7.wrap (a+g)) yk g7) (fw (.int .u64 (((C6 (a+g)) / 2:Nat):Int)) (Ir (e:=K1 ((C6 (a+g):Nat):Int) 2) yk (ny _ 1 _ f2)) (fw (vI (((C6 (a+g)) / 2:Nat):Int)) (Ir (e:=C3.wrap (((C6 (a+g)) / 2:Nat):Int)) yk (Lm _ e6)) (An rfl (Ik ?_)))))))))))
 refine vo [] (IE (bv.block (IE (bv.block (IE IQ))))) Z ?_
 intro ky gM
 refine qv 0 rfl rfl (qv 1 rfl rfl (qv 2 rfl rfl (qv 3 rfl rfl (qt (v:=vI ((C6 ((((((C6 (b+c)) / 2:Nat):Int)+d) - 1) - (((C6 (a+g)) / 2:Nat):Int)):Nat):Int)) 4 rfl (fun _ _=>Ir (e:=C3.wrap ((((((C6 (b+c)) / 2:Nat):Int)+d) - 1) - (((C6 (a+g)) / 2:Nat):Int))) yk f0) ?_))))
 obtain⟨aO,az⟩:=iG (ls:=l0) (i:=C6 ((((((C6 (b+c)) / 2:Nat):Int)+d) - 1) - (((C6 (a+g)) / 2:Nat):Int))) e9
 refine qt (v:= .pointer (some ⟨ab j,ao j+(C6 ((((((C6 (b+c)) / 2:Nat):Int)+d) - 1) - (((C6 (a+g)) / 2:Nat):Int))) *2,none⟩)) 5 rfl (fun _ ⟨_,t⟩=>Iz (jL) rfl rfl ((t.rds (i:=0) rfl).addr (i:=C6 ((((((C6 (b+c)) / 2:Nat):Int)+d) - 1) - (((C6 (a+g)) / 2:Nat):Int))) e6) e6) (qt (v:= .agg (aH.cells aO).toArray) 6 rfl (fun _ ⟨_,t⟩=>IB rfl (IJ (cs:=(aH.cells aO)) J0 J1 ((t.rds (i:=0) rfl).elem aH.len az f2))) (qv 7 rfl rfl (qv 8 rfl rfl ?_)))
 obtain⟨aP,aA⟩:=iG (ls:=l0) (i:=(C6 (a+g)) / 2) e9
 refine qt (v:= .pointer (some ⟨ab j,ao j+((C6 (a+g)) / 2) *2,none⟩)) 9 rfl (fun _ ⟨_,t⟩=>Iz (jL) rfl rfl ((t.rds (i:=0) rfl).addr (i:=(C6 (a+g)) / 2) e6) e6) (qt (v:= .agg (aH.cells aP).toArray) 10 rfl (fun _ ⟨_,t⟩=>IB rfl (IJ (cs:=(aH.cells aP)) J0 J1 ((t.rds (i:=0) rfl).elem aH.len aA f2))) ?_)
 obtain⟨af,aB⟩:∃ q,iW aO aP=q:=⟨_,rfl⟩
 obtain⟨kz,dX,ji,dY,jk⟩:=Iu gM
 refine qd 11 rfl (IY K2 rfl rfl (nk _ _ aO aP af dX aB) ?_)
 rintro _ kC ⟨rfl,dZ⟩
 have bI:=dY _ _ dZ
 refine⟨.inr ⟨_,bI⟩, ?_⟩
 refine qk (.bool (decide (af < 0))) 12 rfl (qt (v:= .bool (decide (¬ (af < 0)))) 13 rfl (fun _ _=>IM (e:= !(decide (af < 0))) yk decide_not.symm) (qn (Iq ?_)))
 by_cases aQ:af < 0
 refine jF (dF (Lr aQ)) (Il (Mz rfl (Az rfl (C4 (bN ?_)))))
 have gN:=bI.pf []
 exact II (a,(((C6 (a+g)) / 2:Nat):Int),J) ⟨rfl,rfl,rfl,rfl,rfl,rfl,rfl,rfl,rfl,rfl,trivial⟩ (N.2 ⟨gN,e6,e6,et (ay) (et (ip aa) (et (ae (aT az)) (et (ae (aT aA)) (et (ae aB) (ip aQ)))))⟩) (by show J < J+1; omega)
 refine jT (dT aQ) (Il (Mz rfl (fw (vI ((((C6 (a+g)) / 2)+1:Nat):Int)) (Ir (e:=C3.wrap ((((C6 (a+g)) / 2:Nat):Int)+1)) yk f0) (Az rfl (C4 (bN ?_))))))
 have gP:=bI.pf []
 exact II (((((C6 (a+g)) / 2)+1:Nat):Int),g,J) ⟨rfl,rfl,rfl,rfl,rfl,rfl,rfl,rfl,rfl,rfl,trivial⟩ (N.2 ⟨gP,e6,e6,et (ay) (et (ip aa) (et (ae (aT az)) (et (ae (aT aA)) (et (ae aB) (iN aQ)))))⟩) (by show J < J+1; omega)
 refine jF (dF aa) (C5 (IC ?_))
 have G:eD l0 b d c ((C6 (r - p))+1) p r=a:=et (ay) (iN aa)
 refine IC (IK (Iq (sr (Mz rfl (Mz rfl (fw (vI (((((C6 (b+c)) / 2:Nat):Int)+d) - a)) (Ir (e:=C3.wrap (((((C6 (b+c)) / 2:Nat):Int)+d) - a)) yk g1) (An rfl (Ik (sr (Mz rfl (Mz rfl (Kz (.bool (decide (a < d))) (Mz rfl ?_)))))))))))))
 by_cases x:a < d
 refine gw (vI d) (dT x) (IA rfl) (gw (vI (((((C6 (b+c)) / 2:Nat):Int)+d) - a)) (dT x) (IA rfl) (Gz (.bool (decide (d < ((((C6 (b+c)) / 2:Nat):Int)+d) - a))) (dT x) (fw (.bool (decide (d < ((((C6 (b+c)) / 2:Nat):Int)+d) - a))) (Iw rfl (dT x) rfl) (nt ?_))))
 obtain⟨gQ,aC⟩:=lF fun s w'=>Own w D w' [row j l0.length u (q4 aH.cells s) 153 2]∧s.length=l0.length∧(if d < ((((C6 (b+c)) / 2:Nat):Int)+d) - a then bnd (ib l0 a d (((((C6 (b+c)) / 2:Nat):Int)+d) - a)) fun d9=>d9 else l0)=s
 refine Jg (fun i:(List aH)=> [(24,vI (((((C6 (b+c)) / 2:Nat):Int)+d) - a)),(20,vI a),(18,vI (((C6 (b+c)) / 2:Nat):Int)),(0, .slice j l0.length u),(1,vI b),(3,vI c),(4, .func (.func 166) #[] #[])]) gQ ?_ ?_
 by_cases aR:d < ((((C6 (b+c)) / 2:Nat):Int)+d) - a
 refine jT (dT aR) (Il (Mz rfl (Mz rfl (Mz rfl (Mz rfl (Mz rfl ?_))))))
 obtain⟨bJ,bK⟩:∃ q,ib l0 a d (((((C6 (b+c)) / 2:Nat):Int)+d) - a)=q:=⟨_,rfl⟩
 obtain⟨kD,ed,jl,ek,jm⟩:=IZ Z
 refine cl Tryz.call209 (qm _ _ j l0.length u l0 a d (((((C6 (b+c)) / 2:Nat):Int)+d) - a) bJ ed rfl e6 e6 bK) ?_
 rintro _ kE ⟨rfl,eu,bL⟩
 have dw:=ek _ _ eu
 have jo:=dw.rowC (i:=0) rfl
 replace bL:bJ.length=l0.length:=bL
 refine C4 ?_
 have gT:=dw.pf []
 exact I8 bJ ⟨rfl,rfl,rfl,rfl,rfl,rfl,rfl,trivial⟩ (aC.2 ⟨gT,by first | omega | (simp only [G4] <;> omega) | (simp only [H0]),Eq.trans (if_pos aR) (ae bK)⟩)
 refine jF (dF aR) (IU ?_)
 have gU:=Z.pf []
 exact I8 l0 ⟨rfl,rfl,rfl,rfl,rfl,rfl,rfl,trivial⟩ (aC.2 ⟨gU,by first | omega | (simp only [G4] <;> omega) | (simp only [H0]),if_neg aR⟩)
 rintro s kF eB
 obtain⟨aS,jq,O⟩:=aC.1 eB
 refine Ik (sr (Mz rfl (Mz rfl (Kz (.bool (decide (b < a))) (Mz rfl ?_)))))
 by_cases A:b < a
 refine gw (vI a) (dT A) (IA rfl) (gw (vI (((C6 (b+c)) / 2:Nat):Int)) (dT A) (IA rfl) (Gz (.bool (decide (a < (((C6 (b+c)) / 2:Nat):Int)))) (dT A) (fw (.bool (decide (a < (((C6 (b+c)) / 2:Nat):Int)))) (Iw rfl (dT A) rfl) (nt ?_))))
 obtain⟨gV,aD⟩:=lF fun B w'=>Own w D w' [row j l0.length u (q4 aH.cells B) 153 2]∧B.length=l0.length∧(if a < (((C6 (b+c)) / 2:Nat):Int) then bnd (mH s b a (((C6 (b+c)) / 2:Nat):Int)) fun eF=>eF else s)=B
 refine Jg (fun i:(List aH)=> [(24,vI (((((C6 (b+c)) / 2:Nat):Int)+d) - a)),(18,vI (((C6 (b+c)) / 2:Nat):Int)),(0, .slice j l0.length u),(3,vI c),(4, .func (.func 166) #[] #[])]) gV ?_ ?_
 by_cases aU:a < (((C6 (b+c)) / 2:Nat):Int)
 refine jT (dT aU) (Il (Mz rfl (Mz rfl (Mz rfl (Mz rfl (Mz rfl ?_))))))
 obtain⟨bM,bO⟩:∃ q,mH s b a (((C6 (b+c)) / 2:Nat):Int)=q:=⟨_,rfl⟩
 obtain⟨kG,eG,jr,eH,jv⟩:=IZ aS
 refine cl L0 (self_ _ _ j l0.length u s b a (((C6 (b+c)) / 2:Nat):Int) bM eG f1 e6 e6 e6 bO) ?_
 rintro _ kH ⟨rfl,eO,bP⟩
 have dx:=eH _ _ eO
 have jw:=dx.rowC (i:=0) rfl
 replace bP:bM.length=s.length:=bP
 refine C4 ?_
 have gW:=dx.pf []
 exact I8 bM ⟨rfl,rfl,rfl,rfl,rfl,trivial⟩ (aD.2 ⟨gW,by first | omega | (simp only [G4] <;> omega) | (simp only [H0]),Eq.trans (if_pos aU) (ae bO)⟩)
 refine jF (dF aU) (IU ?_)
 have gX:=aS.pf []
 exact I8 s ⟨rfl,rfl,rfl,rfl,rfl,trivial⟩ (aD.2 ⟨gX,by first | omega | (simp only [G4] <;> omega) | (simp only [H0]),if_neg aU⟩)
 rintro B kI eP
 obtain⟨dz,jy,bQ⟩:=aD.1 eP
 refine sr (Mz rfl (Mz rfl (Kz (.bool (decide ((((C6 (b+c)) / 2:Nat):Int) < ((((C6 (b+c)) / 2:Nat):Int)+d) - a))) (Mz rfl ?_))))
 have P:(decide ((((C6 (b+c)) / 2:Nat):Int) < ((((C6 (b+c)) / 2:Nat):Int)+d) - a))=true:=(dT e6)
 refine I7 (v:=vI (((((C6 (b+c)) / 2:Nat):Int)+d) - a)) rfl rfl P rfl (IA rfl) (I7 (v:=vI c) rfl rfl P rfl (IA rfl) (Gz (.bool (decide (((((C6 (b+c)) / 2:Nat):Int)+d) - a < c))) P (fw (.bool (decide (((((C6 (b+c)) / 2:Nat):Int)+d) - a < c))) (Iw rfl P rfl) (nt ?_))))
 by_cases aV:((((C6 (b+c)) / 2:Nat):Int)+d) - a < c
 refine jT (dT aV) (Il (Mz rfl (Mz rfl (Mz rfl (Mz rfl (Mz rfl ?_))))))
 obtain⟨bR,bS⟩:∃ q,mH B (((C6 (b+c)) / 2:Nat):Int) (((((C6 (b+c)) / 2:Nat):Int)+d) - a) c=q:=⟨_,rfl⟩
 obtain⟨kJ,eQ,jA,eT,jB⟩:=IZ dz
 refine cl L0 (self_ _ _ j l0.length u B (((C6 (b+c)) / 2:Nat):Int) (((((C6 (b+c)) / 2:Nat):Int)+d) - a) c bR eQ f1 e6 e6 e6 bS) ?_
 rintro _ kK ⟨rfl,eU,bT⟩
 have dB:=eT _ _ eU
 have jC:=dB.rowC (i:=0) rfl
 replace bT:bR.length=B.length:=bT
 refine C4 (IL (res0 rfl) ?_)
 have gY:=dB.pf []
 obtain rfl:_=bR:=hr.symm.trans (et (iN K) (et (iN T) (et (ae F) (et (ae G) (et (ip x) (et (ae O) (et (ip A) (et (ae bQ) (et (ip aV) (ae bS))))))))))
 exact⟨rfl,gY,g4⟩
 refine jF (dF aV) (IU (IL (res0 rfl) ?_))
 have gZ:=dz.pf []
 obtain rfl:_=B:=hr.symm.trans (et (iN K) (et (iN T) (et (ae F) (et (ae G) (et (ip x) (et (ae O) (et (ip A) (et (ae bQ) (iN aV)))))))))
 exact⟨rfl,gZ,g4⟩
 refine Sz (dF A) (Sz (dF A) (Sz (dF A) (fw (.bool false) (Io rfl (dF A) rfl) (nt (jf (sk (sr (Mz rfl (Mz rfl (Kz (.bool (decide ((((C6 (b+c)) / 2:Nat):Int) < ((((C6 (b+c)) / 2:Nat):Int)+d) - a))) (Mz rfl ?_)))))))))))
 have Q:(decide ((((C6 (b+c)) / 2:Nat):Int) < ((((C6 (b+c)) / 2:Nat):Int)+d) - a))=true:=(dT e6)
 refine I7 (v:=vI (((((C6 (b+c)) / 2:Nat):Int)+d) - a)) rfl rfl Q rfl (IA rfl) (I7 (v:=vI c) rfl rfl Q rfl (IA rfl) (Gz (.bool (decide (((((C6 (b+c)) / 2:Nat):Int)+d) - a < c))) Q (fw (.bool (decide (((((C6 (b+c)) / 2:Nat):Int)+d) - a < c))) (Iw rfl Q rfl) (nt ?_))))
 by_cases aW:((((C6 (b+c)) / 2:Nat):Int)+d) - a < c
 refine jT (dT aW) (Il (Mz rfl (Mz rfl (Mz rfl (Mz rfl (Mz rfl ?_))))))
 obtain⟨bU,bV⟩:∃ q,mH s (((C6 (b+c)) / 2:Nat):Int) (((((C6 (b+c)) / 2:Nat):Int)+d) - a) c=q:=⟨_,rfl⟩
 obtain⟨kL,eX,jD,eY,jE⟩:=IZ aS
 refine cl L0 (self_ _ _ j l0.length u s (((C6 (b+c)) / 2:Nat):Int) (((((C6 (b+c)) / 2:Nat):Int)+d) - a) c bU eX f1 e6 e6 e6 bV) ?_
 rintro _ kM ⟨rfl,eZ,bW⟩
 have dC:=eY _ _ eZ
 have jG:=dC.rowC (i:=0) rfl
 replace bW:bU.length=s.length:=bW
 refine C4 (IL (res0 rfl) ?_)
 have ic:=dC.pf []
 obtain rfl:_=bU:=hr.symm.trans (et (iN K) (et (iN T) (et (ae F) (et (ae G) (et (ip x) (et (ae O) (et (iN A) (et (ip aW) (ae bV)))))))))
 exact⟨rfl,ic,g4⟩
 refine jF (dF aW) (IU (IL (res0 rfl) ?_))
 have ig:=aS.pf []
 obtain rfl:_=s:=hr.symm.trans (et (iN K) (et (iN T) (et (ae F) (et (ae G) (et (ip x) (et (ae O) (et (iN A) (iN aW))))))))
 exact⟨rfl,ig,g4⟩
 refine Sz (dF x) (Sz (dF x) (Sz (dF x) (fw (.bool false) (Io rfl (dF x) rfl) (nt (jf (sk (Ik (sr (Mz rfl (Mz rfl (Kz (.bool (decide (b < a))) (Mz rfl ?_))))))))))))
 have R:(decide (b < a))=true:=(dT e6)
 refine I7 (v:=vI a) rfl rfl R rfl (IA rfl) (I7 (v:=vI (((C6 (b+c)) / 2:Nat):Int)) rfl rfl R rfl (IA rfl) (Gz (.bool (decide (a < (((C6 (b+c)) / 2:Nat):Int)))) R (fw (.bool (decide (a < (((C6 (b+c)) / 2:Nat):Int)))) (Iw rfl R rfl) (nt ?_))))
 obtain⟨ik,aF⟩:=lF fun ag w'=>Own w D w' [row j l0.length u (q4 aH.cells ag) 153 2]∧ag.length=l0.length∧(if a < (((C6 (b+c)) / 2:Nat):Int) then bnd (mH l0 b a (((C6 (b+c)) / 2:Nat):Int)) fun fe=>fe else l0)=ag
 refine Jg (fun i:(List aH)=> [(24,vI (((((C6 (b+c)) / 2:Nat):Int)+d) - a)),(18,vI (((C6 (b+c)) / 2:Nat):Int)),(0, .slice j l0.length u),(3,vI c),(4, .func (.func 166) #[] #[])]) ik ?_ ?_
 by_cases aX:a < (((C6 (b+c)) / 2:Nat):Int)
 refine jT (dT aX) (Il (Mz rfl (Mz rfl (Mz rfl (Mz rfl (Mz rfl ?_))))))
 obtain⟨bX,bY⟩:∃ q,mH l0 b a (((C6 (b+c)) / 2:Nat):Int)=q:=⟨_,rfl⟩
 obtain⟨kN,fo,jH,fq,jI⟩:=IZ Z
 refine cl L0 (self_ _ _ j l0.length u l0 b a (((C6 (b+c)) / 2:Nat):Int) bX fo rfl e6 e6 e6 bY) ?_
 rintro _ kP ⟨rfl,fu,bZ⟩
 have dD:=fq _ _ fu
 have jK:=dD.rowC (i:=0) rfl
 replace bZ:bX.length=l0.length:=bZ
 refine C4 ?_
 have il:=dD.pf []
 exact I8 bX ⟨rfl,rfl,rfl,rfl,rfl,trivial⟩ (aF.2 ⟨il,by first | omega | (simp only [G4] <;> omega) | (simp only [H0]),Eq.trans (if_pos aX) (ae bY)⟩)
 refine jF (dF aX) (IU ?_)
 have iq:=Z.pf []
 exact I8 l0 ⟨rfl,rfl,rfl,rfl,rfl,trivial⟩ (aF.2 ⟨iq,by first | omega | (simp only [G4] <;> omega) | (simp only [H0]),if_neg aX⟩)
 rintro ag kQ fA
 obtain⟨iw,jM,fB⟩:=aF.1 fA
 refine sr (Mz rfl (Mz rfl (Kz (.bool (decide ((((C6 (b+c)) / 2:Nat):Int) < ((((C6 (b+c)) / 2:Nat):Int)+d) - a))) (Mz rfl ?_))))
 have S:(decide ((((C6 (b+c)) / 2:Nat):Int) < ((((C6 (b+c)) / 2:Nat):Int)+d) - a))=false:=(dF e6)
 refine Sz S (Sz S (Sz S (fw (.bool false) (Io rfl S rfl) (nt (jf (IU (IL (res0 rfl) ?_)))))))
 have iy:=iw.pf []
 obtain rfl:_=ag:=hr.symm.trans (et (iN K) (et (iN T) (et (ae F) (et (ae G) (et (iN x) (ae fB))))))
 exact⟨rfl,iy,g4⟩
end Go.Proofs.YtbkagebjhbphaaaGreat
