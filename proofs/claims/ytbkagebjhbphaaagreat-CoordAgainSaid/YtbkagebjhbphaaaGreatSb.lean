/-
 a stable sort of pairs: two sorted ranges made one.
-/
import Derived.Test.YtbkagebjhbphaaaGreatStA
namespace Go.Proofs.YtbkagebjhbphaaaGreat
open Int renaming fdiv→J4,toNat→D2
open IntKind renaming i64→C7,u64→D3
open List renaming flatMap→q6,getD→C2,length_replicate→H6,length_set→H5,set→u5
open _root_.Go.Proofs.Tryz renaming call166→J5,call202→J6,isAgg153→J1,sizeOf153→J2
open WL renaming nil→D0
open Wp renaming exit→D1,loop→C5
set_option maxRecDepth 100000
open Go.RowKit
set_option linter.unusedVariables false
set_option linter.unusedSectionVars false
set_option linter.unusedSimpArgs false
def fM (l0:List aI) (g:Int) (h:Int):Nat→Int→Int→Int
  | 0,a,b=>default
  | c+1,a,b=>if a < b then bnd (C2 l0 ((D2 (a+b)) / 2) default) fun d=>bnd (C2 l0 (D2 g) default) fun e=>bnd (iV d e) fun f=>if f < 0 then fM l0 g h c ((((D2 (a+b)) / 2)+1:Nat):Int) b else fM l0 g h c a (((D2 (a+b)) / 2:Nat):Int) else a
def fO (e:Int):Nat→Int→List aI→(List aI)
  | 0,a,b=>default
  | f+1,a,b=>if a < e - 1 then bnd (C2 b (D2 (a+1)) default) fun c=>bnd (C2 b (D2 a) default) fun d=>fO e f (a+1) (u5 (u5 b (D2 a) (aI.mk c.bW c.aQ)) (D2 (a+1)) (aI.mk d.bW d.aQ)) else b
def fP (l0:List aI) (h:Int) (g:Int):Nat→Int→Int→Int
  | 0,a,b=>default
  | f+1,a,b=>if a < b then bnd (C2 l0 (D2 g) default) fun c=>bnd (C2 l0 ((D2 (a+b)) / 2) default) fun d=>bnd (iV c d) fun e=>if e < 0 then fP l0 h g f a (((D2 (a+b)) / 2:Nat):Int) else fP l0 h g f ((((D2 (a+b)) / 2)+1:Nat):Int) b else a
def fQ (e:Int):Nat→Int→List aI→(List aI)
  | 0,a,b=>default
  | f+1,a,b=>if a > e then bnd (C2 b (D2 (a - 1)) default) fun c=>bnd (C2 b (D2 a) default) fun d=>fQ e f (a - 1) (u5 (u5 b (D2 a) (aI.mk c.bW c.aQ)) (D2 (a - 1)) (aI.mk d.bW d.aQ)) else b
def eU (l0:List aI) (g:Int) (h:Int) (i:Int):Nat→Int→Int→Int
  | 0,a,b=>default
  | c+1,a,b=>if a < b then bnd (C2 l0 (D2 ((((((D2 (g+i)) / 2:Nat):Int)+h) - 1) - (((D2 (a+b)) / 2:Nat):Int))) default) fun d=>bnd (C2 l0 ((D2 (a+b)) / 2) default) fun e=>bnd (iV d e) fun f=>if f < 0 then eU l0 g h i c a (((D2 (a+b)) / 2:Nat):Int) else eU l0 g h i c ((((D2 (a+b)) / 2)+1:Nat):Int) b else a
def lg (l0:List aI) (a:Int) (c:Int) (b:Int):(List aI):=
 if c - a=1 then bnd (fM l0 a b ((D2 (b - c))+1) c b) fun sLrtL=>bnd (fO sLrtL ((D2 (b - a))+1) a l0) fun sLrtLaL=>sLrtLaL else if b - c=1 then bnd (fP l0 a c ((D2 (c - a))+1) a c) fun sLrftL=>bnd (fQ sLrftL ((D2 (c - a))+1) c l0) fun sLrftLaL=>sLrftLaL else bnd (if c > (((D2 (a+b)) / 2:Nat):Int) then(((((D2 (a+b)) / 2:Nat):Int)+c) - b,(((D2 (a+b)) / 2:Nat):Int)) else(a,c)) fun sJrffJ=>bnd (eU l0 a c b ((D2 (sJrffJ.2 - sJrffJ.1))+1) sJrffJ.1 sJrffJ.2) fun sLrffJaL=>if sLrffJaL < c then bnd (if c < ((((D2 (a+b)) / 2:Nat):Int)+c) - sLrffJaL then bnd (ig l0 sLrffJaL c (((((D2 (a+b)) / 2:Nat):Int)+c) - sLrffJaL)) fun d=>d else l0) fun sJrffJaLatJ=>if a < sLrffJaL then bnd (if sLrffJaL < (((D2 (a+b)) / 2:Nat):Int) then bnd (l9 sJrffJaLatJ a sLrffJaL (((D2 (a+b)) / 2:Nat):Int)) fun e=>e else sJrffJaLatJ) fun sJrffJaLatJatJ=>if((((D2 (a+b)) / 2:Nat):Int)+c) - sLrffJaL < b then bnd (l9 sJrffJaLatJatJ (((D2 (a+b)) / 2:Nat):Int) (((((D2 (a+b)) / 2:Nat):Int)+c) - sLrffJaL) b) fun f=>f else sJrffJaLatJatJ else if((((D2 (a+b)) / 2:Nat):Int)+c) - sLrffJaL < b then bnd (l9 sJrffJaLatJ (((D2 (a+b)) / 2:Nat):Int) (((((D2 (a+b)) / 2:Nat):Int)+c) - sLrffJaL) b) fun g=>g else sJrffJaLatJ else bnd (if sLrffJaL < (((D2 (a+b)) / 2:Nat):Int) then bnd (l9 l0 a sLrffJaL (((D2 (a+b)) / 2:Nat):Int)) fun h=>h else l0) fun sJrffJaLafJ=>sJrffJaLafJ
theorem pF (w:World) (D:Nat→Prop) (j:Option Addr) (n0 u:Nat) (l0:List aI) (b:Int) (d:Int) (c:Int) (r0:List aI) (H:Own w D w [row j n0 u (q6 aI.cells l0) 153 2]) (fC:n0=l0.length) (iA:l0.length *32≤211106232532992) (iB:0≤b∧b < d∧d < c∧c≤((l0.length:Nat):Int)) (hr:lg l0 b d c=r0) (pm:Nat) (hpm:pm=D2 (c - b))
    (self_:∀ (w:World) (D:Nat→Prop) (j:Option Addr) (n0 u:Nat) (l0:List aI) (b:Int) (d:Int) (c:Int) (r0:List aI) (H:Own w D w [row j n0 u (q6 aI.cells l0) 153 2]) (fC:n0=l0.length) (iA:l0.length *32≤211106232532992) (iB:0≤b∧b < d∧d < c∧c≤((l0.length:Nat):Int)) (hh_:D2 (c - b) < pm) (hr:l9 l0 b d c=r0),Calls Tryz.prog 202 #[.slice j n0 u,vI b,vI d,vI c, .func (.func 166) #[] #[]] w (dR fun v w'=>v= .tuple #[]∧Own w D w' [row j n0 u (q6 aI.cells r0) 153 2]∧(r0.length=l0.length))):
    Calls Tryz.prog 202 #[.slice j n0 u,vI b,vI d,vI c, .func (.func 166) #[] #[]] w (dR fun v w'=>v= .tuple #[]∧Own w D w' [row j n0 u (q6 aI.cells r0) 153 2]∧(r0.length=l0.length)):=by
 subst fC
 have kR:=H.rowC (i:=0) rfl
 refine cb Tryz.func202 ?_
 refine FW (sr (Mz rfl (Mz rfl (fw (vI (d - b)) (FX (e:=C7.wrap (d - b)) yk g2) (Kz (.bool (decide (d - b=1))) (nt ?_))))))
 by_cases K:d - b=1
 refine jT (dT K) (sr (Mz rfl (Ar rfl (Mz rfl (An rfl (FW (bo ?_)))))))
 have iC:=H.pf []
 obtain⟨iD,aG⟩:=qK fun (k:Int) (m:Int) (aY:Nat) w'=>Own w D w' [row j l0.length u (q6 aI.cells l0) 153 2]∧(d≤k∧k≤m∧m≤c)∧D2 (m - k) < aY∧fM l0 b c ((D2 (c - d))+1) d c=fM l0 b c aY k m
 refine C5 (fun i:Int × Int × Nat=> [(10,vI i.1),(11,vI i.2.1),(0, .slice j l0.length u),(1,vI b),(2,vI d),(3,vI c),(4, .func (.func 166) #[] #[])]) iD (fun i=>i.2.2) (d,c,(D2 (c - d))+1) ⟨rfl,rfl,rfl,rfl,rfl,rfl,rfl,trivial⟩ (aG.2 ⟨iC,e6,e6,rfl⟩) ?_
 rintro ⟨k,m,aY⟩ kS fD
 obtain⟨fE,jM,jN,aZ⟩:=aG.1 fD
 obtain⟨aX,fF⟩:∃ q,aY=q+1:=⟨aY - 1,e6⟩
 subst fF
 refine FW (sr (Mz rfl (Mz rfl (Kz (.bool (decide (k < m))) (nt ?_)))))
 by_cases bf:k < m
 refine jT (dT bf) (sk (bo (sr (Mz rfl (Mz rfl (fw (vI (k+m)) (FX (e:=C7.wrap (k+m)) yk g2) (fw (vU (D2 (k+m))) (FX (e:=D3.wrap (k+m)) yk g8) (fw (.int .u64 (((D2 (k+m)) / 2:Nat):Int)) (FX (e:=J4 ((D2 (k+m):Nat):Int) 2) yk (mW _ 1 _ f3)) (fw (vI (((D2 (k+m)) / 2:Nat):Int)) (FX (e:=C7.wrap (((D2 (k+m)) / 2:Nat):Int)) yk (JP _ e6)) (An rfl (FW ?_)))))))))))
 refine vo [] (Gb (bL.block (Gb (bL.block (Gb (Gb Gj)))))) fE ?_
 intro kT iE
 refine qv 0 rfl rfl (qv 1 rfl rfl (qv 2 rfl rfl ?_))
 obtain⟨cz,bg⟩:=jo (ls:=l0) (i:=(D2 (k+m)) / 2) e9
 refine qt (v:= .pointer (some ⟨ab j,ao j+((D2 (k+m)) / 2) *2,none⟩)) 3 rfl (fun _ ⟨_,t⟩=>F4 (jO) rfl rfl ((t.rds (i:=0) rfl).addr (i:=(D2 (k+m)) / 2) e6) e6) (qt (v:= .agg (aI.cells cz).toArray) 4 rfl (fun _ ⟨_,t⟩=>F7 rfl (Gf (cs:=(aI.cells cz)) J1 J2 ((t.rds (i:=0) rfl).elem aI.len bg f3))) (qv 5 rfl rfl (qt (v:=vJ (D2 b)) 6 rfl (fun _ _=>FX (e:=b) (F9 rfl) e6) ?_)))
 obtain⟨cB,bi⟩:=jo (ls:=l0) (i:=D2 b) e9
 refine qt (v:= .pointer (some ⟨ab j,ao j+(D2 b) *2,none⟩)) 7 rfl (fun _ ⟨_,t⟩=>F4 (jO) rfl rfl ((t.rds (i:=0) rfl).addr (i:=D2 b) e6) e6) (qt (v:= .agg (aI.cells cB).toArray) 8 rfl (fun _ ⟨_,t⟩=>F7 rfl (Gf (cs:=(aI.cells cB)) J1 J2 ((t.rds (i:=0) rfl).elem aI.len bi f3))) ?_)
 obtain⟨dD,bn⟩:∃ q,iV cz cB=q:=⟨_,rfl⟩
 obtain⟨kU,fG,jP,fH,jQ⟩:=F3 iE
 refine qd 9 rfl (Gr J5 rfl rfl (mQ _ _ cz cB dD fG bn) ?_)
 rintro _ kV ⟨rfl,fI⟩
 have dE:=fH _ _ fI
 refine⟨.inr ⟨_,dE⟩, ?_⟩
 refine qk (.bool (decide (dD < 0))) 10 rfl (qn (FY ?_))
 by_cases cK:dD < 0
 refine jT (dT cK) (FV (Mz rfl (fw (vI ((((D2 (k+m)) / 2)+1:Nat):Int)) (FX (e:=C7.wrap ((((D2 (k+m)) / 2:Nat):Int)+1)) yk f1) (Az rfl (D0 (bN ?_))))))
 have iF:=dE.pf []
 exact Gc (((((D2 (k+m)) / 2)+1:Nat):Int),m,aX) ⟨rfl,rfl,rfl,rfl,rfl,rfl,rfl,trivial⟩ (aG.2 ⟨iF,e6,e6,et (aZ) (et (ip bf) (et (ai (bF bg)) (et (ai (bF bi)) (et (ai bn) (ip cK)))))⟩) (by show aX < aX+1; omega)
 refine jF (dF cK) (FV (Mz rfl (Az rfl (D0 (bN ?_)))))
 have iG:=dE.pf []
 exact Gc (k,(((D2 (k+m)) / 2:Nat):Int),aX) ⟨rfl,rfl,rfl,rfl,rfl,rfl,rfl,trivial⟩ (aG.2 ⟨iG,e6,e6,et (aZ) (et (ip bf) (et (ai (bF bg)) (et (ai (bF bi)) (et (ai bn) (iN cK)))))⟩) (by show aX < aX+1; omega)
 refine jF (dF bf) (D1 (F6 ?_))
 have fJ:fM l0 b c ((D2 (c - d))+1) d c=k:=et (aZ) (iN bf)
 refine F6 (Gi (FY (FW (sr (Mz rfl (An rfl (bo ?_)))))))
 have iH:=fE.pf []
 obtain⟨iI,bq⟩:=qK fun (h:Int) C (bu:Nat) w'=>Own w D w' [row j l0.length u (q6 aI.cells C) 153 2]∧C.length=l0.length∧b≤h∧D2 (c - h) < bu∧fO k ((D2 (c - b))+1) b l0=fO k bu h C
 refine C5 (fun i:Int × (List aI) × Nat=> [(13,vI i.1),(10,vI k),(0, .slice j l0.length u),(1,vI b),(2,vI d),(3,vI c),(4, .func (.func 166) #[] #[])]) iI (fun i=>i.2.2) (b,l0,(D2 (c - b))+1) ⟨rfl,rfl,rfl,rfl,rfl,rfl,rfl,trivial⟩ (bq.2 ⟨iH,by first | omega | (simp only [H5] <;> omega) | (simp only [H6]),e6,e6,rfl⟩) ?_
 rintro ⟨h,C,bu⟩ kW fK
 obtain⟨fT,jR,jS,jU,cZ⟩:=bq.1 fK
 obtain⟨dG,fU⟩:∃ q,bu=q+1:=⟨bu - 1,e6⟩
 subst fU
 refine FW (sr (Mz rfl (Mz rfl (fw (vI (k - 1)) (FX (e:=C7.wrap (k - 1)) yk g2) (Kz (.bool (decide (h < k - 1))) (nt ?_))))))
 by_cases cO:h < k - 1
 refine jT (dT cO) (sk (FW (bo ?_)))
 refine vo [15,17] (bL.block (Gb (Gb (bL.block (Gb (Gb Gj)))))) fT ?_
 intro kX iJ
 refine qv 0 rfl rfl (qt (v:=vJ (D2 h)) 1 rfl (fun _ _=>FX (e:=h) (F9 rfl) e6) (Gu (v:= .slice j l0.length u) 2 rfl e7 (fun _=>F9 rfl) (Gu (v:=vI h) 3 rfl e7 (fun _=>F9 rfl) (Gu (v:=vJ (D2 (h+1))) 4 rfl e7 (fun _=>FX (e:=C7.wrap (h+1)) yk f1) (qv 5 rfl rfl (qv 6 rfl rfl (qt (v:=vJ (D2 (h+1))) 7 rfl (fun _ _=>FX (e:=C7.wrap (h+1)) yk f1) ?_)))))))
 obtain⟨ag,df⟩:=jo (ls:=C) (i:=D2 (h+1)) e9
 refine qt (v:= .pointer (some ⟨ab j,ao j+(D2 (h+1)) *2,none⟩)) 8 rfl (fun _ ⟨_,t⟩=>F4 (jO) rfl rfl ((t.rds (i:=0) rfl).addr (i:=D2 (h+1)) e6) e6) (qt (v:= .agg (aI.cells ag).toArray) 9 rfl (fun _ ⟨_,t⟩=>F7 rfl (Gf (cs:=(aI.cells ag)) J1 J2 ((t.rds (i:=0) rfl).elem aI.len df f3))) (qv 10 rfl rfl (qt (v:=vJ (D2 h)) 11 rfl (fun _ _=>FX (e:=h) (F9 rfl) e6) ?_)))
 obtain⟨bv,aH⟩:=jo (ls:=C) (i:=D2 h) e9
 refine qt (v:= .pointer (some ⟨ab j,ao j+(D2 h) *2,none⟩)) 12 rfl (fun _ ⟨_,t⟩=>F4 (jO) rfl rfl ((t.rds (i:=0) rfl).addr (i:=D2 h) e6) e6) (qt (v:= .agg (aI.cells bv).toArray) 13 rfl (fun _ ⟨_,t⟩=>F7 rfl (Gf (cs:=(aI.cells bv)) J1 J2 ((t.rds (i:=0) rfl).elem aI.len aH f3))) (qt (v:= .pointer (some ⟨ab j,ao j+(D2 h) *2,none⟩)) 14 rfl (fun _ ⟨_,t⟩=>F4 (jO) rfl rfl ((t.rds (i:=0) rfl).addr (i:=D2 h) e6) e6) ?_))
 refine qe 15 rfl (Do.storeRow (vs:=(aI.cells ag)) (o:=(D2 h) *2+0) (q:=ao j+(D2 h) *2) iJ rfl e6 rfl J2 rfl rfl (JO rfl) (iK aI.len aH (JO rfl)) (jE (y:=ag) aI.len rfl (JO rfl) aH) ?_)
 intro kY dH
 refine⟨.inl e7, ?_⟩
 obtain⟨kZ,jV⟩:=jo (ls:=C) (i:=D2 (h+1)) e9
 obtain⟨lc,jW⟩:=dK (ls:=(u5 C (D2 h) ag)) (i:=D2 (h+1)) aI.len f3 (dH.rds (i:=0) rfl) e9
 refine Gu (v:= .pointer (some ⟨ab j,ao j+(D2 (h+1)) *2,none⟩)) 16 rfl e7 (fun _=>F4 (jO) rfl rfl ((dH.rds (i:=0) rfl).addr (i:=D2 (h+1)) e6) e6) ?_
 obtain⟨lh,dh⟩:=jo (ls:=(u5 C (D2 h) ag)) (i:=D2 (h+1)) e9
 refine qe 17 rfl (Do.storeRow (vs:=(aI.cells bv)) (o:=(D2 (h+1)) *2+0) (q:=ao j+(D2 (h+1)) *2) dH rfl e6 rfl J2 rfl rfl (JO rfl) (iK aI.len dh (JO rfl)) (jE (y:=bv) aI.len rfl (JO rfl) dh) ?_)
 intro ll iL
 refine⟨.inl e7, ?_⟩
 refine qn (bN (FY (FV (Mz rfl (fw (vI (h+1)) (FX (e:=C7.wrap (h+1)) yk g2) (Az rfl (D0 ?_)))))))
 have iM:=iL.pf []
 exact Gc (h+1,(u5 (u5 C (D2 h) ag) (D2 (h+1)) bv),dG) ⟨rfl,rfl,rfl,rfl,rfl,rfl,rfl,trivial⟩ (bq.2 ⟨iM,by first | omega | (simp only [H5] <;> omega) | (simp only [H6]),e6,e6,Eq.trans (cZ) (Eq.trans (if_pos cO) (Eq.trans (ai (bF df)) (ai (bF aH))))⟩) (by show dG < dG+1; omega)
 refine jF (dF cO) (D1 (F6 ?_))
 have fV:fO k ((D2 (c - b))+1) b l0=C:=et (cZ) (iN cO)
 refine F6 (Gi (FY (rt (tR (Fin.res (res0 rfl) ?_)))))
 have iO:=fT.pf []
 obtain rfl:_=C:=hr.symm.trans (et (ip K) (et (ai fJ) (ai fV)))
 exact⟨rfl,iO,g5⟩
 refine jF (dF K) (sk (FW (sr (Mz rfl (Mz rfl (fw (vI (c - d)) (FX (e:=C7.wrap (c - d)) yk g2) (Kz (.bool (decide (c - d=1))) (nt ?_))))))))
 by_cases T:c - d=1
 refine jT (dT T) (sr (Mz rfl (Ar rfl (Mz rfl (An rfl (FW (bo ?_)))))))
 have iP:=H.pf []
 obtain⟨fZ,L⟩:=qK fun (l:Int) (n:Int) (bz:Nat) w'=>Own w D w' [row j l0.length u (q6 aI.cells l0) 153 2]∧(b≤l∧l≤n∧n≤d)∧D2 (n - l) < bz∧fP l0 b d ((D2 (d - b))+1) b d=fP l0 b d bz l n
 refine C5 (fun i:Int × Int × Nat=> [(14,vI i.1),(15,vI i.2.1),(0, .slice j l0.length u),(1,vI b),(2,vI d),(3,vI c),(4, .func (.func 166) #[] #[])]) fZ (fun i=>i.2.2) (b,d,(D2 (d - b))+1) ⟨rfl,rfl,rfl,rfl,rfl,rfl,rfl,trivial⟩ (L.2 ⟨iP,e6,e6,rfl⟩) ?_
 rintro ⟨l,n,bz⟩ jX dI
 obtain⟨di,iQ,iR,ah⟩:=L.1 dI
 obtain⟨I,dJ⟩:∃ q,bz=q+1:=⟨bz - 1,e6⟩
 subst dJ
 refine FW (sr (Mz rfl (Mz rfl (Kz (.bool (decide (l < n))) (nt ?_)))))
 by_cases U:l < n
 refine jT (dT U) (sk (bo (sr (Mz rfl (Mz rfl (fw (vI (l+n)) (FX (e:=C7.wrap (l+n)) yk g2) (fw (vU (D2 (l+n))) (FX (e:=D3.wrap (l+n)) yk g8) (fw (.int .u64 (((D2 (l+n)) / 2:Nat):Int)) (FX (e:=J4 ((D2 (l+n):Nat):Int) 2) yk (mW _ 1 _ f3)) (fw (vI (((D2 (l+n)) / 2:Nat):Int)) (FX (e:=C7.wrap (((D2 (l+n)) / 2:Nat):Int)) yk (JP _ e6)) (An rfl (FW ?_)))))))))))
 refine vo [] (Gb (bL.block (Gb (bL.block (Gb (Gb Gj)))))) di ?_
 intro jY gm
 refine qv 0 rfl rfl (qv 1 rfl rfl (qt (v:=vJ (D2 d)) 2 rfl (fun _ _=>FX (e:=d) (F9 rfl) e6) ?_))
 obtain⟨aJ,aj⟩:=jo (ls:=l0) (i:=D2 d) e9
 refine qt (v:= .pointer (some ⟨ab j,ao j+(D2 d) *2,none⟩)) 3 rfl (fun _ ⟨_,t⟩=>F4 (jO) rfl rfl ((t.rds (i:=0) rfl).addr (i:=D2 d) e6) e6) (qt (v:= .agg (aI.cells aJ).toArray) 4 rfl (fun _ ⟨_,t⟩=>F7 rfl (Gf (cs:=(aI.cells aJ)) J1 J2 ((t.rds (i:=0) rfl).elem aI.len aj f3))) (qv 5 rfl rfl (qv 6 rfl rfl ?_)))
 obtain⟨aK,ak⟩:=jo (ls:=l0) (i:=(D2 (l+n)) / 2) e9
 refine qt (v:= .pointer (some ⟨ab j,ao j+((D2 (l+n)) / 2) *2,none⟩)) 7 rfl (fun _ ⟨_,t⟩=>F4 (jO) rfl rfl ((t.rds (i:=0) rfl).addr (i:=(D2 (l+n)) / 2) e6) e6) (qt (v:= .agg (aI.cells aK).toArray) 8 rfl (fun _ ⟨_,t⟩=>F7 rfl (Gf (cs:=(aI.cells aK)) J1 J2 ((t.rds (i:=0) rfl).elem aI.len ak f3))) ?_)
 obtain⟨V,au⟩:∃ q,iV aJ aK=q:=⟨_,rfl⟩
 obtain⟨jZ,dL,iT,dM,iU⟩:=F3 gm
 refine qd 9 rfl (Gr J5 rfl rfl (mQ _ _ aJ aK V dL au) ?_)
 rintro _ j3 ⟨rfl,dN⟩
 have bA:=dM _ _ dN
 refine⟨.inr ⟨_,bA⟩, ?_⟩
 refine qk (.bool (decide (V < 0))) 10 rfl (qt (v:= .bool (decide (¬ (V < 0)))) 11 rfl (fun _ _=>Gm (e:= !(decide (V < 0))) yk decide_not.symm) (qn (FY ?_)))
 by_cases aL:V < 0
 refine jF (dF (JR aL)) (FV (Mz rfl (Az rfl (D0 (bN ?_)))))
 have gp:=bA.pf []
 exact Gc (l,(((D2 (l+n)) / 2:Nat):Int),I) ⟨rfl,rfl,rfl,rfl,rfl,rfl,rfl,trivial⟩ (L.2 ⟨gp,e6,e6,et (ah) (et (ip U) (et (ai (bF aj)) (et (ai (bF ak)) (et (ai au) (ip aL)))))⟩) (by show I < I+1; omega)
 refine jT (dT aL) (FV (Mz rfl (fw (vI ((((D2 (l+n)) / 2)+1:Nat):Int)) (FX (e:=C7.wrap ((((D2 (l+n)) / 2:Nat):Int)+1)) yk f1) (Az rfl (D0 (bN ?_))))))
 have gq:=bA.pf []
 exact Gc (((((D2 (l+n)) / 2)+1:Nat):Int),n,I) ⟨rfl,rfl,rfl,rfl,rfl,rfl,rfl,trivial⟩ (L.2 ⟨gq,e6,e6,et (ah) (et (ip U) (et (ai (bF aj)) (et (ai (bF ak)) (et (ai au) (iN aL)))))⟩) (by show I < I+1; omega)
 refine jF (dF U) (D1 (F6 ?_))
 have dO:fP l0 b d ((D2 (d - b))+1) b d=l:=et (ah) (iN U)
 refine F6 (Gi (FY (FW (sr (Mz rfl (An rfl (bo ?_)))))))
 have gu:=di.pf []
 obtain⟨gy,av⟩:=qK fun (f:Int) z (W:Nat) w'=>Own w D w' [row j l0.length u (q6 aI.cells z) 153 2]∧z.length=l0.length∧f≤d∧D2 (f - b) < W∧fQ l ((D2 (d - b))+1) d l0=fQ l W f z
 refine C5 (fun i:Int × (List aI) × Nat=> [(17,vI i.1),(14,vI l),(0, .slice j l0.length u),(1,vI b),(2,vI d),(3,vI c),(4, .func (.func 166) #[] #[])]) gy (fun i=>i.2.2) (d,l0,(D2 (d - b))+1) ⟨rfl,rfl,rfl,rfl,rfl,rfl,rfl,trivial⟩ (av.2 ⟨gu,by first | omega | (simp only [H5] <;> omega) | (simp only [H6]),e6,e6,rfl⟩) ?_
 rintro ⟨f,z,W⟩ j4 dP
 obtain⟨dm,iW,iX,iY,bB⟩:=av.1 dP
 obtain⟨bC,dQ⟩:∃ q,W=q+1:=⟨W - 1,e6⟩
 subst dQ
 refine FW (sr (Mz rfl (Mz rfl (Kz (.bool (decide (f > l))) (nt ?_)))))
 by_cases aM:f > l
 refine jT (dT aM) (sk (FW (bo ?_)))
 refine vo [15,17] (bL.block (Gb (Gb (bL.block (Gb (Gb Gj)))))) dm ?_
 intro j5 gz
 refine qv 0 rfl rfl (qt (v:=vJ (D2 f)) 1 rfl (fun _ _=>FX (e:=f) (F9 rfl) e6) (Gu (v:= .slice j l0.length u) 2 rfl e7 (fun _=>F9 rfl) (Gu (v:=vI f) 3 rfl e7 (fun _=>F9 rfl) (Gu (v:=vJ (D2 (f - 1))) 4 rfl e7 (fun _=>FX (e:=C7.wrap (f - 1)) yk f1) (qv 5 rfl rfl (qv 6 rfl rfl (qt (v:=vJ (D2 (f - 1))) 7 rfl (fun _ _=>FX (e:=C7.wrap (f - 1)) yk f1) ?_)))))))
 obtain⟨E,bD⟩:=jo (ls:=z) (i:=D2 (f - 1)) e9
 refine qt (v:= .pointer (some ⟨ab j,ao j+(D2 (f - 1)) *2,none⟩)) 8 rfl (fun _ ⟨_,t⟩=>F4 (jO) rfl rfl ((t.rds (i:=0) rfl).addr (i:=D2 (f - 1)) e6) e6) (qt (v:= .agg (aI.cells E).toArray) 9 rfl (fun _ ⟨_,t⟩=>F7 rfl (Gf (cs:=(aI.cells E)) J1 J2 ((t.rds (i:=0) rfl).elem aI.len bD f3))) (qv 10 rfl rfl (qt (v:=vJ (D2 f)) 11 rfl (fun _ _=>FX (e:=f) (F9 rfl) e6) ?_)))
 obtain⟨X,M⟩:=jo (ls:=z) (i:=D2 f) e9
 refine qt (v:= .pointer (some ⟨ab j,ao j+(D2 f) *2,none⟩)) 12 rfl (fun _ ⟨_,t⟩=>F4 (jO) rfl rfl ((t.rds (i:=0) rfl).addr (i:=D2 f) e6) e6) (qt (v:= .agg (aI.cells X).toArray) 13 rfl (fun _ ⟨_,t⟩=>F7 rfl (Gf (cs:=(aI.cells X)) J1 J2 ((t.rds (i:=0) rfl).elem aI.len M f3))) (qt (v:= .pointer (some ⟨ab j,ao j+(D2 f) *2,none⟩)) 14 rfl (fun _ ⟨_,t⟩=>F4 (jO) rfl rfl ((t.rds (i:=0) rfl).addr (i:=D2 f) e6) e6) ?_))
 refine qe 15 rfl (Do.storeRow (vs:=(aI.cells E)) (o:=(D2 f) *2+0) (q:=ao j+(D2 f) *2) gz rfl e6 rfl J2 rfl rfl (JO rfl) (iK aI.len M (JO rfl)) (jE (y:=E) aI.len rfl (JO rfl) M) ?_)
 intro j6 bE
 refine⟨.inl e7, ?_⟩
 obtain⟨kg,iZ⟩:=jo (ls:=z) (i:=D2 (f - 1)) e9
 obtain⟨ko,ja⟩:=dK (ls:=(u5 z (D2 f) E)) (i:=D2 (f - 1)) aI.len f3 (bE.rds (i:=0) rfl) e9
 refine Gu (v:= .pointer (some ⟨ab j,ao j+(D2 (f - 1)) *2,none⟩)) 16 rfl e7 (fun _=>F4 (jO) rfl rfl ((bE.rds (i:=0) rfl).addr (i:=D2 (f - 1)) e6) e6) ?_
 obtain⟨kr,bG⟩:=jo (ls:=(u5 z (D2 f) E)) (i:=D2 (f - 1)) e9
 refine qe 17 rfl (Do.storeRow (vs:=(aI.cells X)) (o:=(D2 (f - 1)) *2+0) (q:=ao j+(D2 (f - 1)) *2) bE rfl e6 rfl J2 rfl rfl (JO rfl) (iK aI.len bG (JO rfl)) (jE (y:=X) aI.len rfl (JO rfl) bG) ?_)
 intro ku gB
 refine⟨.inl e7, ?_⟩
 refine qn (bN (FY (FV (Mz rfl (fw (vI (f - 1)) (FX (e:=C7.wrap (f - 1)) yk g2) (Az rfl (D0 ?_)))))))
 have gD:=gB.pf []
 exact Gc (f - 1,(u5 (u5 z (D2 f) E) (D2 (f - 1)) X),bC) ⟨rfl,rfl,rfl,rfl,rfl,rfl,rfl,trivial⟩ (av.2 ⟨gD,by first | omega | (simp only [H5] <;> omega) | (simp only [H6]),e6,e6,Eq.trans (bB) (Eq.trans (if_pos aM) (Eq.trans (ai (bF bD)) (ai (bF M))))⟩) (by show bC < bC+1; omega)
 refine jF (dF aM) (D1 (F6 ?_))
 have dS:fQ l ((D2 (d - b))+1) d l0=z:=et (bB) (iN aM)
 refine F6 (Gi (FY (rt (tR (Fin.res (res0 rfl) ?_)))))
 have gF:=dm.pf []
 obtain rfl:_=z:=hr.symm.trans (et (iN K) (et (ip T) (et (ai dO) (ai dS))))
 exact⟨rfl,gF,g5⟩
 refine jF (dF T) (sk (sr (Mz rfl (Mz rfl (fw (vI (b+c)) (FX (e:=C7.wrap (b+c)) yk g2) (fw (vU (D2 (b+c))) (FX (e:=D3.wrap (b+c)) yk g8) (fw (.int .u64 (((D2 (b+c)) / 2:Nat):Int)) (FX (e:=J4 ((D2 (b+c):Nat):Int) 2) yk (mW _ 1 _ f3)) (fw (vI (((D2 (b+c)) / 2:Nat):Int)) (FX (e:=C7.wrap (((D2 (b+c)) / 2:Nat):Int)) yk (JP _ e6)) (Ar rfl (Mz rfl (Mz rfl (fw (vI ((((D2 (b+c)) / 2:Nat):Int)+d)) (FX (e:=C7.wrap ((((D2 (b+c)) / 2:Nat):Int)+d)) yk g2) (Ar rfl (Az rfl (An rfl (FW (sr (Mz rfl (Mz rfl (Kz (.bool (decide (d > (((D2 (b+c)) / 2:Nat):Int)))) (nt ?_)))))))))))))))))))))
 obtain⟨gG,ax⟩:=Em fun (p:Int) (r:Int) w'=>Own w D w' [row j l0.length u (q6 aI.cells l0) 153 2]∧(-9223372036854775808≤p∧p≤9223372036854775807)∧(-9223372036854775808≤r∧r≤9223372036854775807)∧(b≤p∧(((D2 (b+c)) / 2:Nat):Int)+d - c≤p∧p≤r∧r≤(((D2 (b+c)) / 2:Nat):Int)∧r≤d)∧(if d > (((D2 (b+c)) / 2:Nat):Int) then(((((D2 (b+c)) / 2:Nat):Int)+d) - c,(((D2 (b+c)) / 2:Nat):Int)) else(b,d))=(p,r)
 refine GG (fun i:Int × Int=> [(20,vI i.1),(21,vI i.2),(19,vI ((((D2 (b+c)) / 2:Nat):Int)+d)),(18,vI (((D2 (b+c)) / 2:Nat):Int)),(0, .slice j l0.length u),(1,vI b),(2,vI d),(3,vI c),(4, .func (.func 166) #[] #[])]) gG ?_ ?_
 by_cases aN:d > (((D2 (b+c)) / 2:Nat):Int)
 refine jT (dT aN) (sr (Mz rfl (Mz rfl (fw (vI (((((D2 (b+c)) / 2:Nat):Int)+d) - c)) (FX (e:=C7.wrap (((((D2 (b+c)) / 2:Nat):Int)+d) - c)) yk g2) (An rfl (FV (Mz rfl (Az rfl (D0 ?_)))))))))
 have gH:=H.pf []
 exact Gv (((((D2 (b+c)) / 2:Nat):Int)+d) - c,(((D2 (b+c)) / 2:Nat):Int)) ⟨rfl,rfl,rfl,rfl,rfl,rfl,rfl,rfl,rfl,trivial⟩ (ax.2 ⟨gH,e6,e6,e6,ip aN⟩)
 refine jF (dF aN) (sr (Mz rfl (An rfl (FV (Mz rfl (Az rfl (D0 ?_)))))))
 have gI:=H.pf []
 exact Gv (b,d) ⟨rfl,rfl,rfl,rfl,rfl,rfl,rfl,rfl,rfl,trivial⟩ (ax.2 ⟨gI,e6,e6,e6,iN aN⟩)
 rintro ⟨p,r⟩ kv dU
 obtain⟨gJ,jb,jc,jd,F⟩:=ax.1 dU
 refine sr (Mz rfl (fw (vI (((((D2 (b+c)) / 2:Nat):Int)+d) - 1)) (FX (e:=C7.wrap (((((D2 (b+c)) / 2:Nat):Int)+d) - 1)) yk g2) (An rfl (FW (bo ?_)))))
 have gK:=gJ.pf []
 obtain⟨gL,N⟩:=qK fun (a:Int) (g:Int) (Y:Nat) w'=>Own w D w' [row j l0.length u (q6 aI.cells l0) 153 2]∧(b≤a∧(((D2 (b+c)) / 2:Nat):Int)+d - c≤a∧a≤g∧g≤(((D2 (b+c)) / 2:Nat):Int)∧g≤d)∧D2 (g - a) < Y∧eU l0 b d c ((D2 (r - p))+1) p r=eU l0 b d c Y a g
 refine C5 (fun i:Int × Int × Nat=> [(20,vI i.1),(21,vI i.2.1),(22,vI (((((D2 (b+c)) / 2:Nat):Int)+d) - 1)),(19,vI ((((D2 (b+c)) / 2:Nat):Int)+d)),(18,vI (((D2 (b+c)) / 2:Nat):Int)),(0, .slice j l0.length u),(1,vI b),(2,vI d),(3,vI c),(4, .func (.func 166) #[] #[])]) gL (fun i=>i.2.2) (p,r,(D2 (r - p))+1) ⟨rfl,rfl,rfl,rfl,rfl,rfl,rfl,rfl,rfl,rfl,trivial⟩ (N.2 ⟨gK,e6,e6,rfl⟩) ?_
 rintro ⟨a,g,Y⟩ kw dV
 obtain⟨Z,je,jg,ay⟩:=N.1 dV
 obtain⟨J,dW⟩:∃ q,Y=q+1:=⟨Y - 1,e6⟩
 subst dW
 refine FW (sr (Mz rfl (Mz rfl (Kz (.bool (decide (a < g))) (nt ?_)))))
 by_cases aa:a < g
 refine jT (dT aa) (sk (bo (sr (Mz rfl (Mz rfl (fw (vI (a+g)) (FX (e:=C7.wrap (a+g)) yk g2) (fw (vU (D2 (a+g))) (FX (e:=D3.wrap (a+g)) yk g8) (fw (.int .u64 (((D2 (a+g)) / 2:Nat):Int)) (FX (e:=J4 ((D2 (a+g):Nat):Int) 2) yk (mW _ 1 _ f3)) (fw (vI (((D2 (a+g)) / 2:Nat):Int)) (FX (e:=C7.wrap (((D2 (a+g)) / 2:Nat):Int)) yk (JP _ e6)) (An rfl (FW ?_)))))))))))
 refine vo [] (Gb (bL.block (Gb (bL.block (Gb Gj))))) Z ?_
 intro ky gM
 refine qv 0 rfl rfl (qv 1 rfl rfl (qv 2 rfl rfl (qv 3 rfl rfl (qt (v:=vI ((D2 ((((((D2 (b+c)) / 2:Nat):Int)+d) - 1) - (((D2 (a+g)) / 2:Nat):Int)):Nat):Int)) 4 rfl (fun _ _=>FX (e:=C7.wrap ((((((D2 (b+c)) / 2:Nat):Int)+d) - 1) - (((D2 (a+g)) / 2:Nat):Int))) yk f1) ?_))))
 obtain⟨aO,az⟩:=jo (ls:=l0) (i:=D2 ((((((D2 (b+c)) / 2:Nat):Int)+d) - 1) - (((D2 (a+g)) / 2:Nat):Int))) e9
 refine qt (v:= .pointer (some ⟨ab j,ao j+(D2 ((((((D2 (b+c)) / 2:Nat):Int)+d) - 1) - (((D2 (a+g)) / 2:Nat):Int))) *2,none⟩)) 5 rfl (fun _ ⟨_,t⟩=>F4 (jO) rfl rfl ((t.rds (i:=0) rfl).addr (i:=D2 ((((((D2 (b+c)) / 2:Nat):Int)+d) - 1) - (((D2 (a+g)) / 2:Nat):Int))) e6) e6) (qt (v:= .agg (aI.cells aO).toArray) 6 rfl (fun _ ⟨_,t⟩=>F7 rfl (Gf (cs:=(aI.cells aO)) J1 J2 ((t.rds (i:=0) rfl).elem aI.len az f3))) (qv 7 rfl rfl (qv 8 rfl rfl ?_)))
 obtain⟨aP,aA⟩:=jo (ls:=l0) (i:=(D2 (a+g)) / 2) e9
 refine qt (v:= .pointer (some ⟨ab j,ao j+((D2 (a+g)) / 2) *2,none⟩)) 9 rfl (fun _ ⟨_,t⟩=>F4 (jO) rfl rfl ((t.rds (i:=0) rfl).addr (i:=(D2 (a+g)) / 2) e6) e6) (qt (v:= .agg (aI.cells aP).toArray) 10 rfl (fun _ ⟨_,t⟩=>F7 rfl (Gf (cs:=(aI.cells aP)) J1 J2 ((t.rds (i:=0) rfl).elem aI.len aA f3))) ?_)
 obtain⟨ae,aB⟩:∃ q,iV aO aP=q:=⟨_,rfl⟩
 obtain⟨kz,dX,jh,dY,ji⟩:=F3 gM
 refine qd 11 rfl (Gr J5 rfl rfl (mQ _ _ aO aP ae dX aB) ?_)
 rintro _ kC ⟨rfl,dZ⟩
 have bH:=dY _ _ dZ
 refine⟨.inr ⟨_,bH⟩, ?_⟩
 refine qk (.bool (decide (ae < 0))) 12 rfl (qt (v:= .bool (decide (¬ (ae < 0)))) 13 rfl (fun _ _=>Gm (e:= !(decide (ae < 0))) yk decide_not.symm) (qn (FY ?_)))
 by_cases aQ:ae < 0
 refine jF (dF (JR aQ)) (FV (Mz rfl (Az rfl (D0 (bN ?_)))))
 have gN:=bH.pf []
 exact Gc (a,(((D2 (a+g)) / 2:Nat):Int),J) ⟨rfl,rfl,rfl,rfl,rfl,rfl,rfl,rfl,rfl,rfl,trivial⟩ (N.2 ⟨gN,e6,e6,et (ay) (et (ip aa) (et (ai (bF az)) (et (ai (bF aA)) (et (ai aB) (ip aQ)))))⟩) (by show J < J+1; omega)
 refine jT (dT aQ) (FV (Mz rfl (fw (vI ((((D2 (a+g)) / 2)+1:Nat):Int)) (FX (e:=C7.wrap ((((D2 (a+g)) / 2:Nat):Int)+1)) yk f1) (Az rfl (D0 (bN ?_))))))
 have gP:=bH.pf []
 exact Gc (((((D2 (a+g)) / 2)+1:Nat):Int),g,J) ⟨rfl,rfl,rfl,rfl,rfl,rfl,rfl,rfl,rfl,rfl,trivial⟩ (N.2 ⟨gP,e6,e6,et (ay) (et (ip aa) (et (ai (bF az)) (et (ai (bF aA)) (et (ai aB) (iN aQ)))))⟩) (by show J < J+1; omega)
 refine jF (dF aa) (D1 (F6 ?_))
 have G:eU l0 b d c ((D2 (r - p))+1) p r=a:=et (ay) (iN aa)
 refine F6 (Gi (FY (sr (Mz rfl (Mz rfl (fw (vI (((((D2 (b+c)) / 2:Nat):Int)+d) - a)) (FX (e:=C7.wrap (((((D2 (b+c)) / 2:Nat):Int)+d) - a)) yk g2) (An rfl (FW (sr (Mz rfl (Mz rfl (Kz (.bool (decide (a < d))) (Mz rfl ?_)))))))))))))
 by_cases x:a < d
 refine gw (vI d) (dT x) (F9 rfl) (gw (vI (((((D2 (b+c)) / 2:Nat):Int)+d) - a)) (dT x) (F9 rfl) (Gz (.bool (decide (d < ((((D2 (b+c)) / 2:Nat):Int)+d) - a))) (dT x) (fw (.bool (decide (d < ((((D2 (b+c)) / 2:Nat):Int)+d) - a))) (Gd rfl (dT x) rfl) (nt ?_))))
 obtain⟨gQ,aC⟩:=mZ fun s w'=>Own w D w' [row j l0.length u (q6 aI.cells s) 153 2]∧s.length=l0.length∧(if d < ((((D2 (b+c)) / 2:Nat):Int)+d) - a then bnd (ig l0 a d (((((D2 (b+c)) / 2:Nat):Int)+d) - a)) fun d9=>d9 else l0)=s
 refine GG (fun i:(List aI)=> [(24,vI (((((D2 (b+c)) / 2:Nat):Int)+d) - a)),(20,vI a),(18,vI (((D2 (b+c)) / 2:Nat):Int)),(0, .slice j l0.length u),(1,vI b),(3,vI c),(4, .func (.func 166) #[] #[])]) gQ ?_ ?_
 by_cases aR:d < ((((D2 (b+c)) / 2:Nat):Int)+d) - a
 refine jT (dT aR) (FV (Mz rfl (Mz rfl (Mz rfl (Mz rfl (Mz rfl ?_))))))
 obtain⟨bI,bJ⟩:∃ q,ig l0 a d (((((D2 (b+c)) / 2:Nat):Int)+d) - a)=q:=⟨_,rfl⟩
 obtain⟨kD,ed,jk,ek,jl⟩:=Gq Z
 refine cl Tryz.call209 (p8 _ _ j l0.length u l0 a d (((((D2 (b+c)) / 2:Nat):Int)+d) - a) bI ed rfl e6 e6 bJ) ?_
 rintro _ kE ⟨rfl,eu,bK⟩
 have dn:=ek _ _ eu
 have jm:=dn.rowC (i:=0) rfl
 replace bK:bI.length=l0.length:=bK
 refine D0 ?_
 have gT:=dn.pf []
 exact Gv bI ⟨rfl,rfl,rfl,rfl,rfl,rfl,rfl,trivial⟩ (aC.2 ⟨gT,by first | omega | (simp only [H5] <;> omega) | (simp only [H6]),Eq.trans (if_pos aR) (ai bJ)⟩)
 refine jF (dF aR) (Gn ?_)
 have gU:=Z.pf []
 exact Gv l0 ⟨rfl,rfl,rfl,rfl,rfl,rfl,rfl,trivial⟩ (aC.2 ⟨gU,by first | omega | (simp only [H5] <;> omega) | (simp only [H6]),if_neg aR⟩)
 rintro s kF eB
 obtain⟨aS,jq,O⟩:=aC.1 eB
 refine FW (sr (Mz rfl (Mz rfl (Kz (.bool (decide (b < a))) (Mz rfl ?_)))))
 by_cases A:b < a
 refine gw (vI a) (dT A) (F9 rfl) (gw (vI (((D2 (b+c)) / 2:Nat):Int)) (dT A) (F9 rfl) (Gz (.bool (decide (a < (((D2 (b+c)) / 2:Nat):Int)))) (dT A) (fw (.bool (decide (a < (((D2 (b+c)) / 2:Nat):Int)))) (Gd rfl (dT A) rfl) (nt ?_))))
 obtain⟨gV,aD⟩:=mZ fun B w'=>Own w D w' [row j l0.length u (q6 aI.cells B) 153 2]∧B.length=l0.length∧(if a < (((D2 (b+c)) / 2:Nat):Int) then bnd (l9 s b a (((D2 (b+c)) / 2:Nat):Int)) fun eD=>eD else s)=B
 refine GG (fun i:(List aI)=> [(24,vI (((((D2 (b+c)) / 2:Nat):Int)+d) - a)),(18,vI (((D2 (b+c)) / 2:Nat):Int)),(0, .slice j l0.length u),(3,vI c),(4, .func (.func 166) #[] #[])]) gV ?_ ?_
 by_cases aT:a < (((D2 (b+c)) / 2:Nat):Int)
 refine jT (dT aT) (FV (Mz rfl (Mz rfl (Mz rfl (Mz rfl (Mz rfl ?_))))))
 obtain⟨bM,bO⟩:∃ q,l9 s b a (((D2 (b+c)) / 2:Nat):Int)=q:=⟨_,rfl⟩
 obtain⟨kG,eF,jr,eG,jv⟩:=Gq aS
 refine cl J6 (self_ _ _ j l0.length u s b a (((D2 (b+c)) / 2:Nat):Int) bM eF f0 e6 e6 e6 bO) ?_
 rintro _ kH ⟨rfl,eH,bP⟩
 have dw:=eG _ _ eH
 have jw:=dw.rowC (i:=0) rfl
 replace bP:bM.length=s.length:=bP
 refine D0 ?_
 have gW:=dw.pf []
 exact Gv bM ⟨rfl,rfl,rfl,rfl,rfl,trivial⟩ (aD.2 ⟨gW,by first | omega | (simp only [H5] <;> omega) | (simp only [H6]),Eq.trans (if_pos aT) (ai bO)⟩)
 refine jF (dF aT) (Gn ?_)
 have gX:=aS.pf []
 exact Gv s ⟨rfl,rfl,rfl,rfl,rfl,trivial⟩ (aD.2 ⟨gX,by first | omega | (simp only [H5] <;> omega) | (simp only [H6]),if_neg aT⟩)
 rintro B kI eO
 obtain⟨dx,jy,bQ⟩:=aD.1 eO
 refine sr (Mz rfl (Mz rfl (Kz (.bool (decide ((((D2 (b+c)) / 2:Nat):Int) < ((((D2 (b+c)) / 2:Nat):Int)+d) - a))) (Mz rfl ?_))))
 have P:(decide ((((D2 (b+c)) / 2:Nat):Int) < ((((D2 (b+c)) / 2:Nat):Int)+d) - a))=true:=(dT e6)
 refine GM (v:=vI (((((D2 (b+c)) / 2:Nat):Int)+d) - a)) rfl rfl P rfl (F9 rfl) (GM (v:=vI c) rfl rfl P rfl (F9 rfl) (Gz (.bool (decide (((((D2 (b+c)) / 2:Nat):Int)+d) - a < c))) P (fw (.bool (decide (((((D2 (b+c)) / 2:Nat):Int)+d) - a < c))) (Gd rfl P rfl) (nt ?_))))
 by_cases aU:((((D2 (b+c)) / 2:Nat):Int)+d) - a < c
 refine jT (dT aU) (FV (Mz rfl (Mz rfl (Mz rfl (Mz rfl (Mz rfl ?_))))))
 obtain⟨bR,bS⟩:∃ q,l9 B (((D2 (b+c)) / 2:Nat):Int) (((((D2 (b+c)) / 2:Nat):Int)+d) - a) c=q:=⟨_,rfl⟩
 obtain⟨kJ,eP,jA,eQ,jB⟩:=Gq dx
 refine cl J6 (self_ _ _ j l0.length u B (((D2 (b+c)) / 2:Nat):Int) (((((D2 (b+c)) / 2:Nat):Int)+d) - a) c bR eP f0 e6 e6 e6 bS) ?_
 rintro _ kK ⟨rfl,eT,bT⟩
 have dz:=eQ _ _ eT
 have jC:=dz.rowC (i:=0) rfl
 replace bT:bR.length=B.length:=bT
 refine D0 (Gh (res0 rfl) ?_)
 have gY:=dz.pf []
 obtain rfl:_=bR:=hr.symm.trans (et (iN K) (et (iN T) (et (ai F) (et (ai G) (et (ip x) (et (ai O) (et (ip A) (et (ai bQ) (et (ip aU) (ai bS))))))))))
 exact⟨rfl,gY,g5⟩
 refine jF (dF aU) (Gn (Gh (res0 rfl) ?_))
 have gZ:=dx.pf []
 obtain rfl:_=B:=hr.symm.trans (et (iN K) (et (iN T) (et (ai F) (et (ai G) (et (ip x) (et (ai O) (et (ip A) (et (ai bQ) (iN aU)))))))))
 exact⟨rfl,gZ,g5⟩
 refine Sz (dF A) (Sz (dF A) (Sz (dF A) (fw (.bool false) (FZ rfl (dF A) rfl) (nt (jf (sk (sr (Mz rfl (Mz rfl (Kz (.bool (decide ((((D2 (b+c)) / 2:Nat):Int) < ((((D2 (b+c)) / 2:Nat):Int)+d) - a))) (Mz rfl ?_)))))))))))
 have Q:(decide ((((D2 (b+c)) / 2:Nat):Int) < ((((D2 (b+c)) / 2:Nat):Int)+d) - a))=true:=(dT e6)
 refine GM (v:=vI (((((D2 (b+c)) / 2:Nat):Int)+d) - a)) rfl rfl Q rfl (F9 rfl) (GM (v:=vI c) rfl rfl Q rfl (F9 rfl) (Gz (.bool (decide (((((D2 (b+c)) / 2:Nat):Int)+d) - a < c))) Q (fw (.bool (decide (((((D2 (b+c)) / 2:Nat):Int)+d) - a < c))) (Gd rfl Q rfl) (nt ?_))))
 by_cases aV:((((D2 (b+c)) / 2:Nat):Int)+d) - a < c
 refine jT (dT aV) (FV (Mz rfl (Mz rfl (Mz rfl (Mz rfl (Mz rfl ?_))))))
 obtain⟨bU,bV⟩:∃ q,l9 s (((D2 (b+c)) / 2:Nat):Int) (((((D2 (b+c)) / 2:Nat):Int)+d) - a) c=q:=⟨_,rfl⟩
 obtain⟨kL,eX,jD,eY,jG⟩:=Gq aS
 refine cl J6 (self_ _ _ j l0.length u s (((D2 (b+c)) / 2:Nat):Int) (((((D2 (b+c)) / 2:Nat):Int)+d) - a) c bU eX f0 e6 e6 e6 bV) ?_
 rintro _ kM ⟨rfl,eZ,bW⟩
 have dA:=eY _ _ eZ
 have jH:=dA.rowC (i:=0) rfl
 replace bW:bU.length=s.length:=bW
 refine D0 (Gh (res0 rfl) ?_)
 have ib:=dA.pf []
 obtain rfl:_=bU:=hr.symm.trans (et (iN K) (et (iN T) (et (ai F) (et (ai G) (et (ip x) (et (ai O) (et (iN A) (et (ip aV) (ai bV)))))))))
 exact⟨rfl,ib,g5⟩
 refine jF (dF aV) (Gn (Gh (res0 rfl) ?_))
 have ic:=aS.pf []
 obtain rfl:_=s:=hr.symm.trans (et (iN K) (et (iN T) (et (ai F) (et (ai G) (et (ip x) (et (ai O) (et (iN A) (iN aV))))))))
 exact⟨rfl,ic,g5⟩
 refine Sz (dF x) (Sz (dF x) (Sz (dF x) (fw (.bool false) (FZ rfl (dF x) rfl) (nt (jf (sk (FW (sr (Mz rfl (Mz rfl (Kz (.bool (decide (b < a))) (Mz rfl ?_))))))))))))
 have R:(decide (b < a))=true:=(dT e6)
 refine GM (v:=vI a) rfl rfl R rfl (F9 rfl) (GM (v:=vI (((D2 (b+c)) / 2:Nat):Int)) rfl rfl R rfl (F9 rfl) (Gz (.bool (decide (a < (((D2 (b+c)) / 2:Nat):Int)))) R (fw (.bool (decide (a < (((D2 (b+c)) / 2:Nat):Int)))) (Gd rfl R rfl) (nt ?_))))
 obtain⟨ik,aF⟩:=mZ fun af w'=>Own w D w' [row j l0.length u (q6 aI.cells af) 153 2]∧af.length=l0.length∧(if a < (((D2 (b+c)) / 2:Nat):Int) then bnd (l9 l0 b a (((D2 (b+c)) / 2:Nat):Int)) fun fe=>fe else l0)=af
 refine GG (fun i:(List aI)=> [(24,vI (((((D2 (b+c)) / 2:Nat):Int)+d) - a)),(18,vI (((D2 (b+c)) / 2:Nat):Int)),(0, .slice j l0.length u),(3,vI c),(4, .func (.func 166) #[] #[])]) ik ?_ ?_
 by_cases aW:a < (((D2 (b+c)) / 2:Nat):Int)
 refine jT (dT aW) (FV (Mz rfl (Mz rfl (Mz rfl (Mz rfl (Mz rfl ?_))))))
 obtain⟨bX,bY⟩:∃ q,l9 l0 b a (((D2 (b+c)) / 2:Nat):Int)=q:=⟨_,rfl⟩
 obtain⟨kN,fo,jI,fq,jJ⟩:=Gq Z
 refine cl J6 (self_ _ _ j l0.length u l0 b a (((D2 (b+c)) / 2:Nat):Int) bX fo rfl e6 e6 e6 bY) ?_
 rintro _ kP ⟨rfl,fu,bZ⟩
 have dB:=fq _ _ fu
 have jK:=dB.rowC (i:=0) rfl
 replace bZ:bX.length=l0.length:=bZ
 refine D0 ?_
 have il:=dB.pf []
 exact Gv bX ⟨rfl,rfl,rfl,rfl,rfl,trivial⟩ (aF.2 ⟨il,by first | omega | (simp only [H5] <;> omega) | (simp only [H6]),Eq.trans (if_pos aW) (ai bY)⟩)
 refine jF (dF aW) (Gn ?_)
 have iq:=Z.pf []
 exact Gv l0 ⟨rfl,rfl,rfl,rfl,rfl,trivial⟩ (aF.2 ⟨iq,by first | omega | (simp only [H5] <;> omega) | (simp only [H6]),if_neg aW⟩)
 rintro af kQ fA
 obtain⟨iw,jL,fB⟩:=aF.1 fA
 refine sr (Mz rfl (Mz rfl (Kz (.bool (decide ((((D2 (b+c)) / 2:Nat):Int) < ((((D2 (b+c)) / 2:Nat):Int)+d) - a))) (Mz rfl ?_))))
 have S:(decide ((((D2 (b+c)) / 2:Nat):Int) < ((((D2 (b+c)) / 2:Nat):Int)+d) - a))=false:=(dF e6)
 refine Sz S (Sz S (Sz S (fw (.bool false) (FZ rfl S rfl) (nt (jf (Gn (Gh (res0 rfl) ?_)))))))
 have iy:=iw.pf []
 obtain rfl:_=af:=hr.symm.trans (et (iN K) (et (iN T) (et (ai F) (et (ai G) (et (iN x) (ai fB))))))
 exact⟨rfl,iy,g5⟩
end Go.Proofs.YtbkagebjhbphaaaGreat
