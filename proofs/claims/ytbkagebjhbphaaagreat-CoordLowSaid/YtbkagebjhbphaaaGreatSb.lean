/-
 a stable sort of pairs: two sorted ranges made one.
-/
import Derived.Test.YtbkagebjhbphaaaGreatStA
namespace Go.Proofs.YtbkagebjhbphaaaGreat
open Int renaming fdiv→I9,toNat→D2
open IntKind renaming i64→C7,u64→D3
open List renaming flatMap→q6,getD→C2,length_replicate→H4,length_set→H3,set→u5
open _root_.Go.Proofs.Tryz renaming call166→J0,call202→J1,isAgg153→I6,sizeOf153→I7
open WL renaming nil→D0
open Wp renaming exit→D1,loop→C5
set_option maxRecDepth 100000
open Go.RowKit
set_option linter.unusedVariables false
set_option linter.unusedSectionVars false
set_option linter.unusedSimpArgs false
def fH (l0:List aJ) (g:Int) (h:Int):Nat→Int→Int→Int
  | 0,a,b=>default
  | c+1,a,b=>if a < b then bnd (C2 l0 ((D2 (a+b)) / 2) default) fun d=>bnd (C2 l0 (D2 g) default) fun e=>bnd (iO d e) fun f=>if f < 0 then fH l0 g h c ((((D2 (a+b)) / 2)+1:Nat):Int) b else fH l0 g h c a (((D2 (a+b)) / 2:Nat):Int) else a
def fI (e:Int):Nat→Int→List aJ→(List aJ)
  | 0,a,b=>default
  | f+1,a,b=>if a < e - 1 then bnd (C2 b (D2 (a+1)) default) fun c=>bnd (C2 b (D2 a) default) fun d=>fI e f (a+1) (u5 (u5 b (D2 a) (aJ.mk c.bY c.aU)) (D2 (a+1)) (aJ.mk d.bY d.aU)) else b
def fJ (l0:List aJ) (h:Int) (g:Int):Nat→Int→Int→Int
  | 0,a,b=>default
  | f+1,a,b=>if a < b then bnd (C2 l0 (D2 g) default) fun c=>bnd (C2 l0 ((D2 (a+b)) / 2) default) fun d=>bnd (iO c d) fun e=>if e < 0 then fJ l0 h g f a (((D2 (a+b)) / 2:Nat):Int) else fJ l0 h g f ((((D2 (a+b)) / 2)+1:Nat):Int) b else a
def fK (e:Int):Nat→Int→List aJ→(List aJ)
  | 0,a,b=>default
  | f+1,a,b=>if a > e then bnd (C2 b (D2 (a - 1)) default) fun c=>bnd (C2 b (D2 a) default) fun d=>fK e f (a - 1) (u5 (u5 b (D2 a) (aJ.mk c.bY c.aU)) (D2 (a - 1)) (aJ.mk d.bY d.aU)) else b
def eF (l0:List aJ) (g:Int) (h:Int) (i:Int):Nat→Int→Int→Int
  | 0,a,b=>default
  | c+1,a,b=>if a < b then bnd (C2 l0 (D2 ((((((D2 (g+i)) / 2:Nat):Int)+h) - 1) - (((D2 (a+b)) / 2:Nat):Int))) default) fun d=>bnd (C2 l0 ((D2 (a+b)) / 2) default) fun e=>bnd (iO d e) fun f=>if f < 0 then eF l0 g h i c a (((D2 (a+b)) / 2:Nat):Int) else eF l0 g h i c ((((D2 (a+b)) / 2)+1:Nat):Int) b else a
def kU (l0:List aJ) (a:Int) (c:Int) (b:Int):(List aJ):=
 if c - a=1 then bnd (fH l0 a b ((D2 (b - c))+1) c b) fun sLrtL=>bnd (fI sLrtL ((D2 (b - a))+1) a l0) fun sLrtLaL=>sLrtLaL else if b - c=1 then bnd (fJ l0 a c ((D2 (c - a))+1) a c) fun sLrftL=>bnd (fK sLrftL ((D2 (c - a))+1) c l0) fun sLrftLaL=>sLrftLaL else bnd (if c > (((D2 (a+b)) / 2:Nat):Int) then(((((D2 (a+b)) / 2:Nat):Int)+c) - b,(((D2 (a+b)) / 2:Nat):Int)) else(a,c)) fun sJrffJ=>bnd (eF l0 a c b ((D2 (sJrffJ.2 - sJrffJ.1))+1) sJrffJ.1 sJrffJ.2) fun sLrffJaL=>if sLrffJaL < c then bnd (if c < ((((D2 (a+b)) / 2:Nat):Int)+c) - sLrffJaL then bnd (ib l0 sLrffJaL c (((((D2 (a+b)) / 2:Nat):Int)+c) - sLrffJaL)) fun d=>d else l0) fun sJrffJaLatJ=>if a < sLrffJaL then bnd (if sLrffJaL < (((D2 (a+b)) / 2:Nat):Int) then bnd (lY sJrffJaLatJ a sLrffJaL (((D2 (a+b)) / 2:Nat):Int)) fun e=>e else sJrffJaLatJ) fun sJrffJaLatJatJ=>if((((D2 (a+b)) / 2:Nat):Int)+c) - sLrffJaL < b then bnd (lY sJrffJaLatJatJ (((D2 (a+b)) / 2:Nat):Int) (((((D2 (a+b)) / 2:Nat):Int)+c) - sLrffJaL) b) fun f=>f else sJrffJaLatJatJ else if((((D2 (a+b)) / 2:Nat):Int)+c) - sLrffJaL < b then bnd (lY sJrffJaLatJ (((D2 (a+b)) / 2:Nat):Int) (((((D2 (a+b)) / 2:Nat):Int)+c) - sLrffJaL) b) fun g=>g else sJrffJaLatJ else bnd (if sLrffJaL < (((D2 (a+b)) / 2:Nat):Int) then bnd (lY l0 a sLrffJaL (((D2 (a+b)) / 2:Nat):Int)) fun h=>h else l0) fun sJrffJaLafJ=>sJrffJaLafJ
theorem oW (w:World) (D:Nat→Prop) (j:Option Addr) (n0 u:Nat) (l0:List aJ) (b:Int) (d:Int) (c:Int) (r0:List aJ) (H:Own w D w [row j n0 u (q6 aJ.cells l0) 153 2]) (fC:n0=l0.length) (iA:l0.length *32≤211106232532992) (iB:0≤b∧b < d∧d < c∧c≤((l0.length:Nat):Int)) (hr:kU l0 b d c=r0) (pm:Nat) (hpm:pm=D2 (c - b))
    (self_:∀ (w:World) (D:Nat→Prop) (j:Option Addr) (n0 u:Nat) (l0:List aJ) (b:Int) (d:Int) (c:Int) (r0:List aJ) (H:Own w D w [row j n0 u (q6 aJ.cells l0) 153 2]) (fC:n0=l0.length) (iA:l0.length *32≤211106232532992) (iB:0≤b∧b < d∧d < c∧c≤((l0.length:Nat):Int)) (hh_:D2 (c - b) < pm) (hr:lY l0 b d c=r0),Calls Tryz.prog 202 #[.slice j n0 u,vI b,vI d,vI c, .func (.func 166) #[] #[]] w (dS fun v w'=>v= .tuple #[]∧Own w D w' [row j n0 u (q6 aJ.cells r0) 153 2]∧(r0.length=l0.length))):
    Calls Tryz.prog 202 #[.slice j n0 u,vI b,vI d,vI c, .func (.func 166) #[] #[]] w (dS fun v w'=>v= .tuple #[]∧Own w D w' [row j n0 u (q6 aJ.cells r0) 153 2]∧(r0.length=l0.length)):=by
 subst fC
 have kR:=H.rowC (i:=0) rfl
 refine cb Tryz.func202 ?_
 refine EP (sr (Mz rfl (Mz rfl (fw (vI (d - b)) (EQ (e:=C7.wrap (d - b)) yk g2) (Kz (.bool (decide (d - b=1))) (nt ?_))))))
 by_cases K:d - b=1
 refine jT (dT K) (sr (Mz rfl (Ar rfl (Mz rfl (An rfl (EP (bo ?_)))))))
 have iC:=H.pf []
 obtain⟨iD,aG⟩:=qo fun(k:Int) (m:Int) (aY:Nat) (w':World)=>Own w D w' [row j l0.length u (q6 aJ.cells l0) 153 2]∧(d≤k∧k≤m∧m≤c)∧D2 (m - k) < aY∧fH l0 b c ((D2 (c - d))+1) d c=fH l0 b c aY k m
 refine C5 (fun i:Int × Int × Nat=> [(10,vI i.1),(11,vI i.2.1),(0, .slice j l0.length u),(1,vI b),(2,vI d),(3,vI c),(4, .func (.func 166) #[] #[])]) iD (fun i=>i.2.2) (d,c,(D2 (c - d))+1) ⟨rfl,rfl,rfl,rfl,rfl,rfl,rfl,trivial⟩ (aG.2 ⟨iC,e6,e6,rfl⟩) ?_
 rintro ⟨k,m,aY⟩ kS fD
 obtain⟨fE,jN,jO,aZ⟩:=aG.1 fD
 obtain⟨aX,fF⟩:∃ q,aY=q+1:=⟨aY - 1,e6⟩
 subst fF
 refine EP (sr (Mz rfl (Mz rfl (Kz (.bool (decide (k < m))) (nt ?_)))))
 by_cases bf:k < m
 refine jT (dT bf) (sk (bo (sr (Mz rfl (Mz rfl (fw (vI (k+m)) (EQ (e:=C7.wrap (k+m)) yk g2) (fw (vU (D2 (k+m))) (EQ (e:=D3.wrap (k+m)) yk g8) (fw (.int .u64 (((D2 (k+m)) / 2:Nat):Int)) (EQ (e:=I9 ((D2 (k+m):Nat):Int) 2) yk (mK _ 1 _ f3)) (fw (vI (((D2 (k+m)) / 2:Nat):Int)) (EQ (e:=C7.wrap (((D2 (k+m)) / 2:Nat):Int)) yk (IR _ e6)) (An rfl (EP ?_)))))))))))
 refine uC [] (E9 (bP.block (E9 (bP.block (E9 (E9 Fp)))))) fE ?_
 intro kT iE
 refine qv 0 rfl rfl (qv 1 rfl rfl (qv 2 rfl rfl ?_))
 obtain⟨cz,bg⟩:=ji (ls:=l0) (i:=(D2 (k+m)) / 2) e9
 refine qt (v:= .pointer (some ⟨ab j,ao j+((D2 (k+m)) / 2) *2,none⟩)) 3 rfl (fun _ ⟨_,t⟩=>ET (jK) rfl rfl ((t.rds (i:=0) rfl).addr (i:=(D2 (k+m)) / 2) e6) e6) (qt (v:= .agg (aJ.cells cz).toArray) 4 rfl (fun _ ⟨_,t⟩=>EY rfl (Fb (cs:=(aJ.cells cz)) I6 I7 ((t.rds (i:=0) rfl).elem aJ.len bg f3))) (qv 5 rfl rfl (qt (v:=vJ (D2 b)) 6 rfl (fun _ _=>EQ (e:=b) (E5 rfl) e6) ?_)))
 obtain⟨cB,bi⟩:=ji (ls:=l0) (i:=D2 b) e9
 refine qt (v:= .pointer (some ⟨ab j,ao j+(D2 b) *2,none⟩)) 7 rfl (fun _ ⟨_,t⟩=>ET (jK) rfl rfl ((t.rds (i:=0) rfl).addr (i:=D2 b) e6) e6) (qt (v:= .agg (aJ.cells cB).toArray) 8 rfl (fun _ ⟨_,t⟩=>EY rfl (Fb (cs:=(aJ.cells cB)) I6 I7 ((t.rds (i:=0) rfl).elem aJ.len bi f3))) ?_)
 obtain⟨dD,bn⟩:∃ q,iO cz cB=q:=⟨_,rfl⟩
 obtain⟨kV,fG,jP,fM,jQ⟩:=EU iE
 refine qd 9 rfl (Fw J0 rfl rfl (mH _ _ cz cB dD fG bn) ?_)
 rintro _ kW ⟨rfl,fO⟩
 have dE:=fM _ _ fO
 refine⟨.inr ⟨_,dE⟩, ?_⟩
 refine qk (.bool (decide (dD < 0))) 10 rfl (qn (ER ?_))
 by_cases cK:dD < 0
 refine jT (dT cK) (EO (Mz rfl (fw (vI ((((D2 (k+m)) / 2)+1:Nat):Int)) (EQ (e:=C7.wrap ((((D2 (k+m)) / 2:Nat):Int)+1)) yk f1) (Az rfl (D0 (bN ?_))))))
 have iF:=dE.pf []
 exact E8 (((((D2 (k+m)) / 2)+1:Nat):Int),m,aX) ⟨rfl,rfl,rfl,rfl,rfl,rfl,rfl,trivial⟩ (aG.2 ⟨iF,e6,e6,et (aZ) (et (ip bf) (et (ah (bI bg)) (et (ah (bI bi)) (et (ah bn) (ip cK)))))⟩) (by show aX < aX+1; omega)
 refine jF (dF cK) (EO (Mz rfl (Az rfl (D0 (bN ?_)))))
 have iG:=dE.pf []
 exact E8 (k,(((D2 (k+m)) / 2:Nat):Int),aX) ⟨rfl,rfl,rfl,rfl,rfl,rfl,rfl,trivial⟩ (aG.2 ⟨iG,e6,e6,et (aZ) (et (ip bf) (et (ah (bI bg)) (et (ah (bI bi)) (et (ah bn) (iN cK)))))⟩) (by show aX < aX+1; omega)
 refine jF (dF bf) (D1 (EX ?_))
 have fP:fH l0 b c ((D2 (c - d))+1) d c=k:=et (aZ) (iN bf)
 refine EX (Fg (ER (EP (sr (Mz rfl (An rfl (bo ?_)))))))
 have iH:=fE.pf []
 obtain⟨iI,bq⟩:=qo fun(h:Int) (C:List aJ) (bu:Nat) (w':World)=>Own w D w' [row j l0.length u (q6 aJ.cells C) 153 2]∧C.length=l0.length∧b≤h∧D2 (c - h) < bu∧fI k ((D2 (c - b))+1) b l0=fI k bu h C
 refine C5 (fun i:Int × (List aJ) × Nat=> [(13,vI i.1),(10,vI k),(0, .slice j l0.length u),(1,vI b),(2,vI d),(3,vI c),(4, .func (.func 166) #[] #[])]) iI (fun i=>i.2.2) (b,l0,(D2 (c - b))+1) ⟨rfl,rfl,rfl,rfl,rfl,rfl,rfl,trivial⟩ (bq.2 ⟨iH,by first | omega | (simp only [H3] <;> omega) | (simp only [H4]),e6,e6,rfl⟩) ?_
 rintro ⟨h,C,bu⟩ kX fQ
 obtain⟨fT,jR,jS,jU,cZ⟩:=bq.1 fQ
 obtain⟨dH,fU⟩:∃ q,bu=q+1:=⟨bu - 1,e6⟩
 subst fU
 refine EP (sr (Mz rfl (Mz rfl (fw (vI (k - 1)) (EQ (e:=C7.wrap (k - 1)) yk g2) (Kz (.bool (decide (h < k - 1))) (nt ?_))))))
 by_cases cO:h < k - 1
 refine jT (dT cO) (sk (EP (bo ?_)))
 refine uC [15,17] (bP.block (E9 (E9 (bP.block (E9 (E9 Fp)))))) fT ?_
 intro kY iK
 refine qv 0 rfl rfl (qt (v:=vJ (D2 h)) 1 rfl (fun _ _=>EQ (e:=h) (E5 rfl) e6) (Fz (v:= .slice j l0.length u) 2 rfl e7 (fun _=>E5 rfl) (Fz (v:=vI h) 3 rfl e7 (fun _=>E5 rfl) (Fz (v:=vJ (D2 (h+1))) 4 rfl e7 (fun _=>EQ (e:=C7.wrap (h+1)) yk f1) (qv 5 rfl rfl (qv 6 rfl rfl (qt (v:=vJ (D2 (h+1))) 7 rfl (fun _ _=>EQ (e:=C7.wrap (h+1)) yk f1) ?_)))))))
 obtain⟨ag,df⟩:=ji (ls:=C) (i:=D2 (h+1)) e9
 refine qt (v:= .pointer (some ⟨ab j,ao j+(D2 (h+1)) *2,none⟩)) 8 rfl (fun _ ⟨_,t⟩=>ET (jK) rfl rfl ((t.rds (i:=0) rfl).addr (i:=D2 (h+1)) e6) e6) (qt (v:= .agg (aJ.cells ag).toArray) 9 rfl (fun _ ⟨_,t⟩=>EY rfl (Fb (cs:=(aJ.cells ag)) I6 I7 ((t.rds (i:=0) rfl).elem aJ.len df f3))) (qv 10 rfl rfl (qt (v:=vJ (D2 h)) 11 rfl (fun _ _=>EQ (e:=h) (E5 rfl) e6) ?_)))
 obtain⟨bv,aH⟩:=ji (ls:=C) (i:=D2 h) e9
 refine qt (v:= .pointer (some ⟨ab j,ao j+(D2 h) *2,none⟩)) 12 rfl (fun _ ⟨_,t⟩=>ET (jK) rfl rfl ((t.rds (i:=0) rfl).addr (i:=D2 h) e6) e6) (qt (v:= .agg (aJ.cells bv).toArray) 13 rfl (fun _ ⟨_,t⟩=>EY rfl (Fb (cs:=(aJ.cells bv)) I6 I7 ((t.rds (i:=0) rfl).elem aJ.len aH f3))) (qt (v:= .pointer (some ⟨ab j,ao j+(D2 h) *2,none⟩)) 14 rfl (fun _ ⟨_,t⟩=>ET (jK) rfl rfl ((t.rds (i:=0) rfl).addr (i:=D2 h) e6) e6) ?_))
 refine qe 15 rfl (Do.storeRow (vs:=(aJ.cells ag)) (o:=(D2 h) *2+0) (q:=ao j+(D2 h) *2) iK rfl e6 rfl I7 rfl rfl (IQ rfl) (iJ aJ.len aH (IQ rfl)) (jw (y:=ag) aJ.len rfl (IQ rfl) aH) ?_)
 intro kZ dI
 refine⟨.inl e7, ?_⟩
 obtain⟨lc,jV⟩:=ji (ls:=C) (i:=D2 (h+1)) e9
 obtain⟨lg,jW⟩:=dG (ls:=(u5 C (D2 h) ag)) (i:=D2 (h+1)) aJ.len f3 (dI.rds (i:=0) rfl) e9
 refine Fz (v:= .pointer (some ⟨ab j,ao j+(D2 (h+1)) *2,none⟩)) 16 rfl e7 (fun _=>ET (jK) rfl rfl ((dI.rds (i:=0) rfl).addr (i:=D2 (h+1)) e6) e6) ?_
 obtain⟨lh,dh⟩:=ji (ls:=(u5 C (D2 h) ag)) (i:=D2 (h+1)) e9
 refine qe 17 rfl (Do.storeRow (vs:=(aJ.cells bv)) (o:=(D2 (h+1)) *2+0) (q:=ao j+(D2 (h+1)) *2) dI rfl e6 rfl I7 rfl rfl (IQ rfl) (iJ aJ.len dh (IQ rfl)) (jw (y:=bv) aJ.len rfl (IQ rfl) dh) ?_)
 intro ll iL
 refine⟨.inl e7, ?_⟩
 refine qn (bN (ER (EO (Mz rfl (fw (vI (h+1)) (EQ (e:=C7.wrap (h+1)) yk g2) (Az rfl (D0 ?_)))))))
 have iM:=iL.pf []
 exact E8 (h+1,(u5 (u5 C (D2 h) ag) (D2 (h+1)) bv),dH) ⟨rfl,rfl,rfl,rfl,rfl,rfl,rfl,trivial⟩ (bq.2 ⟨iM,by first | omega | (simp only [H3] <;> omega) | (simp only [H4]),e6,e6,Eq.trans (cZ) (Eq.trans (if_pos cO) (Eq.trans (ah (bI df)) (ah (bI aH))))⟩) (by show dH < dH+1; omega)
 refine jF (dF cO) (D1 (EX ?_))
 have fV:fI k ((D2 (c - b))+1) b l0=C:=et (cZ) (iN cO)
 refine EX (Fg (ER (rt (tR (Fin.res (res0 rfl) ?_)))))
 have iP:=fT.pf []
 obtain rfl:_=C:=hr.symm.trans (et (ip K) (et (ah fP) (ah fV)))
 exact⟨rfl,iP,g5⟩
 refine jF (dF K) (sk (EP (sr (Mz rfl (Mz rfl (fw (vI (c - d)) (EQ (e:=C7.wrap (c - d)) yk g2) (Kz (.bool (decide (c - d=1))) (nt ?_))))))))
 by_cases T:c - d=1
 refine jT (dT T) (sr (Mz rfl (Ar rfl (Mz rfl (An rfl (EP (bo ?_)))))))
 have iQ:=H.pf []
 obtain⟨fZ,L⟩:=qo fun(l:Int) (n:Int) (bz:Nat) (w':World)=>Own w D w' [row j l0.length u (q6 aJ.cells l0) 153 2]∧(b≤l∧l≤n∧n≤d)∧D2 (n - l) < bz∧fJ l0 b d ((D2 (d - b))+1) b d=fJ l0 b d bz l n
 refine C5 (fun i:Int × Int × Nat=> [(14,vI i.1),(15,vI i.2.1),(0, .slice j l0.length u),(1,vI b),(2,vI d),(3,vI c),(4, .func (.func 166) #[] #[])]) fZ (fun i=>i.2.2) (b,d,(D2 (d - b))+1) ⟨rfl,rfl,rfl,rfl,rfl,rfl,rfl,trivial⟩ (L.2 ⟨iQ,e6,e6,rfl⟩) ?_
 rintro ⟨l,n,bz⟩ jX dJ
 obtain⟨di,iR,iT,ai⟩:=L.1 dJ
 obtain⟨I,dK⟩:∃ q,bz=q+1:=⟨bz - 1,e6⟩
 subst dK
 refine EP (sr (Mz rfl (Mz rfl (Kz (.bool (decide (l < n))) (nt ?_)))))
 by_cases U:l < n
 refine jT (dT U) (sk (bo (sr (Mz rfl (Mz rfl (fw (vI (l+n)) (EQ (e:=C7.wrap (l+n)) yk g2) (fw (vU (D2 (l+n))) (EQ (e:=D3.wrap (l+n)) yk g8) (fw (.int .u64 (((D2 (l+n)) / 2:Nat):Int)) (EQ (e:=I9 ((D2 (l+n):Nat):Int) 2) yk (mK _ 1 _ f3)) (fw (vI (((D2 (l+n)) / 2:Nat):Int)) (EQ (e:=C7.wrap (((D2 (l+n)) / 2:Nat):Int)) yk (IR _ e6)) (An rfl (EP ?_)))))))))))
 refine uC [] (E9 (bP.block (E9 (bP.block (E9 (E9 Fp)))))) di ?_
 intro jY gm
 refine qv 0 rfl rfl (qv 1 rfl rfl (qt (v:=vJ (D2 d)) 2 rfl (fun _ _=>EQ (e:=d) (E5 rfl) e6) ?_))
 obtain⟨aI,aj⟩:=ji (ls:=l0) (i:=D2 d) e9
 refine qt (v:= .pointer (some ⟨ab j,ao j+(D2 d) *2,none⟩)) 3 rfl (fun _ ⟨_,t⟩=>ET (jK) rfl rfl ((t.rds (i:=0) rfl).addr (i:=D2 d) e6) e6) (qt (v:= .agg (aJ.cells aI).toArray) 4 rfl (fun _ ⟨_,t⟩=>EY rfl (Fb (cs:=(aJ.cells aI)) I6 I7 ((t.rds (i:=0) rfl).elem aJ.len aj f3))) (qv 5 rfl rfl (qv 6 rfl rfl ?_)))
 obtain⟨aK,ak⟩:=ji (ls:=l0) (i:=(D2 (l+n)) / 2) e9
 refine qt (v:= .pointer (some ⟨ab j,ao j+((D2 (l+n)) / 2) *2,none⟩)) 7 rfl (fun _ ⟨_,t⟩=>ET (jK) rfl rfl ((t.rds (i:=0) rfl).addr (i:=(D2 (l+n)) / 2) e6) e6) (qt (v:= .agg (aJ.cells aK).toArray) 8 rfl (fun _ ⟨_,t⟩=>EY rfl (Fb (cs:=(aJ.cells aK)) I6 I7 ((t.rds (i:=0) rfl).elem aJ.len ak f3))) ?_)
 obtain⟨V,au⟩:∃ q,iO aI aK=q:=⟨_,rfl⟩
 obtain⟨jZ,dL,iU,dM,iV⟩:=EU gm
 refine qd 9 rfl (Fw J0 rfl rfl (mH _ _ aI aK V dL au) ?_)
 rintro _ j3 ⟨rfl,dN⟩
 have bA:=dM _ _ dN
 refine⟨.inr ⟨_,bA⟩, ?_⟩
 refine qk (.bool (decide (V < 0))) 10 rfl (qt (v:= .bool (decide (¬ (V < 0)))) 11 rfl (fun _ _=>Fs (e:= !(decide (V < 0))) yk decide_not.symm) (qn (ER ?_)))
 by_cases aL:V < 0
 refine jF (dF (IV aL)) (EO (Mz rfl (Az rfl (D0 (bN ?_)))))
 have gp:=bA.pf []
 exact E8 (l,(((D2 (l+n)) / 2:Nat):Int),I) ⟨rfl,rfl,rfl,rfl,rfl,rfl,rfl,trivial⟩ (L.2 ⟨gp,e6,e6,et (ai) (et (ip U) (et (ah (bI aj)) (et (ah (bI ak)) (et (ah au) (ip aL)))))⟩) (by show I < I+1; omega)
 refine jT (dT aL) (EO (Mz rfl (fw (vI ((((D2 (l+n)) / 2)+1:Nat):Int)) (EQ (e:=C7.wrap ((((D2 (l+n)) / 2:Nat):Int)+1)) yk f1) (Az rfl (D0 (bN ?_))))))
 have gq:=bA.pf []
 exact E8 (((((D2 (l+n)) / 2)+1:Nat):Int),n,I) ⟨rfl,rfl,rfl,rfl,rfl,rfl,rfl,trivial⟩ (L.2 ⟨gq,e6,e6,et (ai) (et (ip U) (et (ah (bI aj)) (et (ah (bI ak)) (et (ah au) (iN aL)))))⟩) (by show I < I+1; omega)
 refine jF (dF U) (D1 (EX ?_))
 have dO:fJ l0 b d ((D2 (d - b))+1) b d=l:=et (ai) (iN U)
 refine EX (Fg (ER (EP (sr (Mz rfl (An rfl (bo ?_)))))))
 have gu:=di.pf []
 obtain⟨gy,av⟩:=qo fun(f:Int) (z:List aJ) (W:Nat) (w':World)=>Own w D w' [row j l0.length u (q6 aJ.cells z) 153 2]∧z.length=l0.length∧f≤d∧D2 (f - b) < W∧fK l ((D2 (d - b))+1) d l0=fK l W f z
 refine C5 (fun i:Int × (List aJ) × Nat=> [(17,vI i.1),(14,vI l),(0, .slice j l0.length u),(1,vI b),(2,vI d),(3,vI c),(4, .func (.func 166) #[] #[])]) gy (fun i=>i.2.2) (d,l0,(D2 (d - b))+1) ⟨rfl,rfl,rfl,rfl,rfl,rfl,rfl,trivial⟩ (av.2 ⟨gu,by first | omega | (simp only [H3] <;> omega) | (simp only [H4]),e6,e6,rfl⟩) ?_
 rintro ⟨f,z,W⟩ j4 dP
 obtain⟨dm,iW,iX,iY,bB⟩:=av.1 dP
 obtain⟨bC,dQ⟩:∃ q,W=q+1:=⟨W - 1,e6⟩
 subst dQ
 refine EP (sr (Mz rfl (Mz rfl (Kz (.bool (decide (f > l))) (nt ?_)))))
 by_cases aM:f > l
 refine jT (dT aM) (sk (EP (bo ?_)))
 refine uC [15,17] (bP.block (E9 (E9 (bP.block (E9 (E9 Fp)))))) dm ?_
 intro j5 gz
 refine qv 0 rfl rfl (qt (v:=vJ (D2 f)) 1 rfl (fun _ _=>EQ (e:=f) (E5 rfl) e6) (Fz (v:= .slice j l0.length u) 2 rfl e7 (fun _=>E5 rfl) (Fz (v:=vI f) 3 rfl e7 (fun _=>E5 rfl) (Fz (v:=vJ (D2 (f - 1))) 4 rfl e7 (fun _=>EQ (e:=C7.wrap (f - 1)) yk f1) (qv 5 rfl rfl (qv 6 rfl rfl (qt (v:=vJ (D2 (f - 1))) 7 rfl (fun _ _=>EQ (e:=C7.wrap (f - 1)) yk f1) ?_)))))))
 obtain⟨E,bD⟩:=ji (ls:=z) (i:=D2 (f - 1)) e9
 refine qt (v:= .pointer (some ⟨ab j,ao j+(D2 (f - 1)) *2,none⟩)) 8 rfl (fun _ ⟨_,t⟩=>ET (jK) rfl rfl ((t.rds (i:=0) rfl).addr (i:=D2 (f - 1)) e6) e6) (qt (v:= .agg (aJ.cells E).toArray) 9 rfl (fun _ ⟨_,t⟩=>EY rfl (Fb (cs:=(aJ.cells E)) I6 I7 ((t.rds (i:=0) rfl).elem aJ.len bD f3))) (qv 10 rfl rfl (qt (v:=vJ (D2 f)) 11 rfl (fun _ _=>EQ (e:=f) (E5 rfl) e6) ?_)))
 obtain⟨X,M⟩:=ji (ls:=z) (i:=D2 f) e9
 refine qt (v:= .pointer (some ⟨ab j,ao j+(D2 f) *2,none⟩)) 12 rfl (fun _ ⟨_,t⟩=>ET (jK) rfl rfl ((t.rds (i:=0) rfl).addr (i:=D2 f) e6) e6) (qt (v:= .agg (aJ.cells X).toArray) 13 rfl (fun _ ⟨_,t⟩=>EY rfl (Fb (cs:=(aJ.cells X)) I6 I7 ((t.rds (i:=0) rfl).elem aJ.len M f3))) (qt (v:= .pointer (some ⟨ab j,ao j+(D2 f) *2,none⟩)) 14 rfl (fun _ ⟨_,t⟩=>ET (jK) rfl rfl ((t.rds (i:=0) rfl).addr (i:=D2 f) e6) e6) ?_))
 refine qe 15 rfl (Do.storeRow (vs:=(aJ.cells E)) (o:=(D2 f) *2+0) (q:=ao j+(D2 f) *2) gz rfl e6 rfl I7 rfl rfl (IQ rfl) (iJ aJ.len M (IQ rfl)) (jw (y:=E) aJ.len rfl (IQ rfl) M) ?_)
 intro j6 bE
 refine⟨.inl e7, ?_⟩
 obtain⟨kg,iZ⟩:=ji (ls:=z) (i:=D2 (f - 1)) e9
 obtain⟨ko,ja⟩:=dG (ls:=(u5 z (D2 f) E)) (i:=D2 (f - 1)) aJ.len f3 (bE.rds (i:=0) rfl) e9
 refine Fz (v:= .pointer (some ⟨ab j,ao j+(D2 (f - 1)) *2,none⟩)) 16 rfl e7 (fun _=>ET (jK) rfl rfl ((bE.rds (i:=0) rfl).addr (i:=D2 (f - 1)) e6) e6) ?_
 obtain⟨kr,bF⟩:=ji (ls:=(u5 z (D2 f) E)) (i:=D2 (f - 1)) e9
 refine qe 17 rfl (Do.storeRow (vs:=(aJ.cells X)) (o:=(D2 (f - 1)) *2+0) (q:=ao j+(D2 (f - 1)) *2) bE rfl e6 rfl I7 rfl rfl (IQ rfl) (iJ aJ.len bF (IQ rfl)) (jw (y:=X) aJ.len rfl (IQ rfl) bF) ?_)
 intro ku gB
 refine⟨.inl e7, ?_⟩
 refine qn (bN (ER (EO (Mz rfl (fw (vI (f - 1)) (EQ (e:=C7.wrap (f - 1)) yk g2) (Az rfl (D0 ?_)))))))
 have gD:=gB.pf []
 exact E8 (f - 1,(u5 (u5 z (D2 f) E) (D2 (f - 1)) X),bC) ⟨rfl,rfl,rfl,rfl,rfl,rfl,rfl,trivial⟩ (av.2 ⟨gD,by first | omega | (simp only [H3] <;> omega) | (simp only [H4]),e6,e6,Eq.trans (bB) (Eq.trans (if_pos aM) (Eq.trans (ah (bI bD)) (ah (bI M))))⟩) (by show bC < bC+1; omega)
 refine jF (dF aM) (D1 (EX ?_))
 have dR:fK l ((D2 (d - b))+1) d l0=z:=et (bB) (iN aM)
 refine EX (Fg (ER (rt (tR (Fin.res (res0 rfl) ?_)))))
 have gF:=dm.pf []
 obtain rfl:_=z:=hr.symm.trans (et (iN K) (et (ip T) (et (ah dO) (ah dR))))
 exact⟨rfl,gF,g5⟩
 refine jF (dF T) (sk (sr (Mz rfl (Mz rfl (fw (vI (b+c)) (EQ (e:=C7.wrap (b+c)) yk g2) (fw (vU (D2 (b+c))) (EQ (e:=D3.wrap (b+c)) yk g8) (fw (.int .u64 (((D2 (b+c)) / 2:Nat):Int)) (EQ (e:=I9 ((D2 (b+c):Nat):Int) 2) yk (mK _ 1 _ f3)) (fw (vI (((D2 (b+c)) / 2:Nat):Int)) (EQ (e:=C7.wrap (((D2 (b+c)) / 2:Nat):Int)) yk (IR _ e6)) (Ar rfl (Mz rfl (Mz rfl (fw (vI ((((D2 (b+c)) / 2:Nat):Int)+d)) (EQ (e:=C7.wrap ((((D2 (b+c)) / 2:Nat):Int)+d)) yk g2) (Ar rfl (Az rfl (An rfl (EP (sr (Mz rfl (Mz rfl (Kz (.bool (decide (d > (((D2 (b+c)) / 2:Nat):Int)))) (nt ?_)))))))))))))))))))))
 obtain⟨gG,ax⟩:=Dt fun(p:Int) (r:Int) (w':World)=>Own w D w' [row j l0.length u (q6 aJ.cells l0) 153 2]∧(-9223372036854775808≤p∧p≤9223372036854775807)∧(-9223372036854775808≤r∧r≤9223372036854775807)∧(b≤p∧(((D2 (b+c)) / 2:Nat):Int)+d - c≤p∧p≤r∧r≤(((D2 (b+c)) / 2:Nat):Int)∧r≤d)∧(if d > (((D2 (b+c)) / 2:Nat):Int) then(((((D2 (b+c)) / 2:Nat):Int)+d) - c,(((D2 (b+c)) / 2:Nat):Int)) else(b,d))=(p,r)
 refine FK (fun i:Int × Int=> [(20,vI i.1),(21,vI i.2),(19,vI ((((D2 (b+c)) / 2:Nat):Int)+d)),(18,vI (((D2 (b+c)) / 2:Nat):Int)),(0, .slice j l0.length u),(1,vI b),(2,vI d),(3,vI c),(4, .func (.func 166) #[] #[])]) gG ?_ ?_
 by_cases aN:d > (((D2 (b+c)) / 2:Nat):Int)
 refine jT (dT aN) (sr (Mz rfl (Mz rfl (fw (vI (((((D2 (b+c)) / 2:Nat):Int)+d) - c)) (EQ (e:=C7.wrap (((((D2 (b+c)) / 2:Nat):Int)+d) - c)) yk g2) (An rfl (EO (Mz rfl (Az rfl (D0 ?_)))))))))
 have gH:=H.pf []
 exact FD (((((D2 (b+c)) / 2:Nat):Int)+d) - c,(((D2 (b+c)) / 2:Nat):Int)) ⟨rfl,rfl,rfl,rfl,rfl,rfl,rfl,rfl,rfl,trivial⟩ (ax.2 ⟨gH,e6,e6,e6,ip aN⟩)
 refine jF (dF aN) (sr (Mz rfl (An rfl (EO (Mz rfl (Az rfl (D0 ?_)))))))
 have gI:=H.pf []
 exact FD (b,d) ⟨rfl,rfl,rfl,rfl,rfl,rfl,rfl,rfl,rfl,trivial⟩ (ax.2 ⟨gI,e6,e6,e6,iN aN⟩)
 rintro ⟨p,r⟩ kv dU
 obtain⟨gJ,jb,jc,jd,F⟩:=ax.1 dU
 refine sr (Mz rfl (fw (vI (((((D2 (b+c)) / 2:Nat):Int)+d) - 1)) (EQ (e:=C7.wrap (((((D2 (b+c)) / 2:Nat):Int)+d) - 1)) yk g2) (An rfl (EP (bo ?_)))))
 have gK:=gJ.pf []
 obtain⟨gL,N⟩:=qo fun(a:Int) (g:Int) (Y:Nat) (w':World)=>Own w D w' [row j l0.length u (q6 aJ.cells l0) 153 2]∧(b≤a∧(((D2 (b+c)) / 2:Nat):Int)+d - c≤a∧a≤g∧g≤(((D2 (b+c)) / 2:Nat):Int)∧g≤d)∧D2 (g - a) < Y∧eF l0 b d c ((D2 (r - p))+1) p r=eF l0 b d c Y a g
 refine C5 (fun i:Int × Int × Nat=> [(20,vI i.1),(21,vI i.2.1),(22,vI (((((D2 (b+c)) / 2:Nat):Int)+d) - 1)),(19,vI ((((D2 (b+c)) / 2:Nat):Int)+d)),(18,vI (((D2 (b+c)) / 2:Nat):Int)),(0, .slice j l0.length u),(1,vI b),(2,vI d),(3,vI c),(4, .func (.func 166) #[] #[])]) gL (fun i=>i.2.2) (p,r,(D2 (r - p))+1) ⟨rfl,rfl,rfl,rfl,rfl,rfl,rfl,rfl,rfl,rfl,trivial⟩ (N.2 ⟨gK,e6,e6,rfl⟩) ?_
 rintro ⟨a,g,Y⟩ kw dV
 obtain⟨Z,je,jg,ay⟩:=N.1 dV
 obtain⟨J,dW⟩:∃ q,Y=q+1:=⟨Y - 1,e6⟩
 subst dW
 refine EP (sr (Mz rfl (Mz rfl (Kz (.bool (decide (a < g))) (nt ?_)))))
 by_cases aa:a < g
 refine jT (dT aa) (sk (bo (sr (Mz rfl (Mz rfl (fw (vI (a+g)) (EQ (e:=C7.wrap (a+g)) yk g2) (fw (vU (D2 (a+g))) (EQ (e:=D3.wrap (a+g)) yk g8) (fw (.int .u64 (((D2 (a+g)) / 2:Nat):Int)) (EQ (e:=I9 ((D2 (a+g):Nat):Int) 2) yk (mK _ 1 _ f3)) (fw (vI (((D2 (a+g)) / 2:Nat):Int)) (EQ (e:=C7.wrap (((D2 (a+g)) / 2:Nat):Int)) yk (IR _ e6)) (An rfl (EP ?_)))))))))))
 refine uC [] (E9 (bP.block (E9 (bP.block (E9 Fp))))) Z ?_
 intro ky gM
 refine qv 0 rfl rfl (qv 1 rfl rfl (qv 2 rfl rfl (qv 3 rfl rfl (qt (v:=vI ((D2 ((((((D2 (b+c)) / 2:Nat):Int)+d) - 1) - (((D2 (a+g)) / 2:Nat):Int)):Nat):Int)) 4 rfl (fun _ _=>EQ (e:=C7.wrap ((((((D2 (b+c)) / 2:Nat):Int)+d) - 1) - (((D2 (a+g)) / 2:Nat):Int))) yk f1) ?_))))
 obtain⟨aO,az⟩:=ji (ls:=l0) (i:=D2 ((((((D2 (b+c)) / 2:Nat):Int)+d) - 1) - (((D2 (a+g)) / 2:Nat):Int))) e9
 refine qt (v:= .pointer (some ⟨ab j,ao j+(D2 ((((((D2 (b+c)) / 2:Nat):Int)+d) - 1) - (((D2 (a+g)) / 2:Nat):Int))) *2,none⟩)) 5 rfl (fun _ ⟨_,t⟩=>ET (jK) rfl rfl ((t.rds (i:=0) rfl).addr (i:=D2 ((((((D2 (b+c)) / 2:Nat):Int)+d) - 1) - (((D2 (a+g)) / 2:Nat):Int))) e6) e6) (qt (v:= .agg (aJ.cells aO).toArray) 6 rfl (fun _ ⟨_,t⟩=>EY rfl (Fb (cs:=(aJ.cells aO)) I6 I7 ((t.rds (i:=0) rfl).elem aJ.len az f3))) (qv 7 rfl rfl (qv 8 rfl rfl ?_)))
 obtain⟨aP,aA⟩:=ji (ls:=l0) (i:=(D2 (a+g)) / 2) e9
 refine qt (v:= .pointer (some ⟨ab j,ao j+((D2 (a+g)) / 2) *2,none⟩)) 9 rfl (fun _ ⟨_,t⟩=>ET (jK) rfl rfl ((t.rds (i:=0) rfl).addr (i:=(D2 (a+g)) / 2) e6) e6) (qt (v:= .agg (aJ.cells aP).toArray) 10 rfl (fun _ ⟨_,t⟩=>EY rfl (Fb (cs:=(aJ.cells aP)) I6 I7 ((t.rds (i:=0) rfl).elem aJ.len aA f3))) ?_)
 obtain⟨ae,aB⟩:∃ q,iO aO aP=q:=⟨_,rfl⟩
 obtain⟨kz,dX,jh,dY,jk⟩:=EU gM
 refine qd 11 rfl (Fw J0 rfl rfl (mH _ _ aO aP ae dX aB) ?_)
 rintro _ kC ⟨rfl,dZ⟩
 have bG:=dY _ _ dZ
 refine⟨.inr ⟨_,bG⟩, ?_⟩
 refine qk (.bool (decide (ae < 0))) 12 rfl (qt (v:= .bool (decide (¬ (ae < 0)))) 13 rfl (fun _ _=>Fs (e:= !(decide (ae < 0))) yk decide_not.symm) (qn (ER ?_)))
 by_cases aQ:ae < 0
 refine jF (dF (IV aQ)) (EO (Mz rfl (Az rfl (D0 (bN ?_)))))
 have gN:=bG.pf []
 exact E8 (a,(((D2 (a+g)) / 2:Nat):Int),J) ⟨rfl,rfl,rfl,rfl,rfl,rfl,rfl,rfl,rfl,rfl,trivial⟩ (N.2 ⟨gN,e6,e6,et (ay) (et (ip aa) (et (ah (bI az)) (et (ah (bI aA)) (et (ah aB) (ip aQ)))))⟩) (by show J < J+1; omega)
 refine jT (dT aQ) (EO (Mz rfl (fw (vI ((((D2 (a+g)) / 2)+1:Nat):Int)) (EQ (e:=C7.wrap ((((D2 (a+g)) / 2:Nat):Int)+1)) yk f1) (Az rfl (D0 (bN ?_))))))
 have gP:=bG.pf []
 exact E8 (((((D2 (a+g)) / 2)+1:Nat):Int),g,J) ⟨rfl,rfl,rfl,rfl,rfl,rfl,rfl,rfl,rfl,rfl,trivial⟩ (N.2 ⟨gP,e6,e6,et (ay) (et (ip aa) (et (ah (bI az)) (et (ah (bI aA)) (et (ah aB) (iN aQ)))))⟩) (by show J < J+1; omega)
 refine jF (dF aa) (D1 (EX ?_))
 have G:eF l0 b d c ((D2 (r - p))+1) p r=a:=et (ay) (iN aa)
 refine EX (Fg (ER (sr (Mz rfl (Mz rfl (fw (vI (((((D2 (b+c)) / 2:Nat):Int)+d) - a)) (EQ (e:=C7.wrap (((((D2 (b+c)) / 2:Nat):Int)+d) - a)) yk g2) (An rfl (EP (sr (Mz rfl (Mz rfl (Kz (.bool (decide (a < d))) (Mz rfl ?_)))))))))))))
 by_cases x:a < d
 refine gw (vI d) (dT x) (E5 rfl) (gw (vI (((((D2 (b+c)) / 2:Nat):Int)+d) - a)) (dT x) (E5 rfl) (Gz (.bool (decide (d < ((((D2 (b+c)) / 2:Nat):Int)+d) - a))) (dT x) (fw (.bool (decide (d < ((((D2 (b+c)) / 2:Nat):Int)+d) - a))) (Fa rfl (dT x) rfl) (nt ?_))))
 obtain⟨gQ,aC⟩:=lK fun(s:List aJ) (w':World)=>Own w D w' [row j l0.length u (q6 aJ.cells s) 153 2]∧s.length=l0.length∧(if d < ((((D2 (b+c)) / 2:Nat):Int)+d) - a then bnd (ib l0 a d (((((D2 (b+c)) / 2:Nat):Int)+d) - a)) fun d9=>d9 else l0)=s
 refine FK (fun i:(List aJ)=> [(24,vI (((((D2 (b+c)) / 2:Nat):Int)+d) - a)),(20,vI a),(18,vI (((D2 (b+c)) / 2:Nat):Int)),(0, .slice j l0.length u),(1,vI b),(3,vI c),(4, .func (.func 166) #[] #[])]) gQ ?_ ?_
 by_cases aR:d < ((((D2 (b+c)) / 2:Nat):Int)+d) - a
 refine jT (dT aR) (EO (Mz rfl (Mz rfl (Mz rfl (Mz rfl (Mz rfl ?_))))))
 obtain⟨bH,bJ⟩:∃ q,ib l0 a d (((((D2 (b+c)) / 2:Nat):Int)+d) - a)=q:=⟨_,rfl⟩
 obtain⟨kD,ed,jl,ek,jm⟩:=Fu Z
 refine cl Tryz.call209 (pG _ _ j l0.length u l0 a d (((((D2 (b+c)) / 2:Nat):Int)+d) - a) bH ed rfl e6 e6 bJ) ?_
 rintro _ kE ⟨rfl,eu,bK⟩
 have dn:=ek _ _ eu
 have jo:=dn.rowC (i:=0) rfl
 replace bK:bH.length=l0.length:=bK
 refine D0 ?_
 have gT:=dn.pf []
 exact FD bH ⟨rfl,rfl,rfl,rfl,rfl,rfl,rfl,trivial⟩ (aC.2 ⟨gT,by first | omega | (simp only [H3] <;> omega) | (simp only [H4]),Eq.trans (if_pos aR) (ah bJ)⟩)
 refine jF (dF aR) (Fq ?_)
 have gU:=Z.pf []
 exact FD l0 ⟨rfl,rfl,rfl,rfl,rfl,rfl,rfl,trivial⟩ (aC.2 ⟨gU,by first | omega | (simp only [H3] <;> omega) | (simp only [H4]),if_neg aR⟩)
 rintro s kF eB
 obtain⟨aS,jq,O⟩:=aC.1 eB
 refine EP (sr (Mz rfl (Mz rfl (Kz (.bool (decide (b < a))) (Mz rfl ?_)))))
 by_cases A:b < a
 refine gw (vI a) (dT A) (E5 rfl) (gw (vI (((D2 (b+c)) / 2:Nat):Int)) (dT A) (E5 rfl) (Gz (.bool (decide (a < (((D2 (b+c)) / 2:Nat):Int)))) (dT A) (fw (.bool (decide (a < (((D2 (b+c)) / 2:Nat):Int)))) (Fa rfl (dT A) rfl) (nt ?_))))
 obtain⟨gV,aD⟩:=lK fun(B:List aJ) (w':World)=>Own w D w' [row j l0.length u (q6 aJ.cells B) 153 2]∧B.length=l0.length∧(if a < (((D2 (b+c)) / 2:Nat):Int) then bnd (lY s b a (((D2 (b+c)) / 2:Nat):Int)) fun eD=>eD else s)=B
 refine FK (fun i:(List aJ)=> [(24,vI (((((D2 (b+c)) / 2:Nat):Int)+d) - a)),(18,vI (((D2 (b+c)) / 2:Nat):Int)),(0, .slice j l0.length u),(3,vI c),(4, .func (.func 166) #[] #[])]) gV ?_ ?_
 by_cases aT:a < (((D2 (b+c)) / 2:Nat):Int)
 refine jT (dT aT) (EO (Mz rfl (Mz rfl (Mz rfl (Mz rfl (Mz rfl ?_))))))
 obtain⟨bL,bM⟩:∃ q,lY s b a (((D2 (b+c)) / 2:Nat):Int)=q:=⟨_,rfl⟩
 obtain⟨kG,eG,jr,eH,jv⟩:=Fu aS
 refine cl J1 (self_ _ _ j l0.length u s b a (((D2 (b+c)) / 2:Nat):Int) bL eG f0 e6 e6 e6 bM) ?_
 rintro _ kH ⟨rfl,eO,bO⟩
 have dw:=eH _ _ eO
 have jy:=dw.rowC (i:=0) rfl
 replace bO:bL.length=s.length:=bO
 refine D0 ?_
 have gW:=dw.pf []
 exact FD bL ⟨rfl,rfl,rfl,rfl,rfl,trivial⟩ (aD.2 ⟨gW,by first | omega | (simp only [H3] <;> omega) | (simp only [H4]),Eq.trans (if_pos aT) (ah bM)⟩)
 refine jF (dF aT) (Fq ?_)
 have gX:=aS.pf []
 exact FD s ⟨rfl,rfl,rfl,rfl,rfl,trivial⟩ (aD.2 ⟨gX,by first | omega | (simp only [H3] <;> omega) | (simp only [H4]),if_neg aT⟩)
 rintro B kI eP
 obtain⟨dx,jA,bQ⟩:=aD.1 eP
 refine sr (Mz rfl (Mz rfl (Kz (.bool (decide ((((D2 (b+c)) / 2:Nat):Int) < ((((D2 (b+c)) / 2:Nat):Int)+d) - a))) (Mz rfl ?_))))
 have P:(decide ((((D2 (b+c)) / 2:Nat):Int) < ((((D2 (b+c)) / 2:Nat):Int)+d) - a))=true:=(dT e6)
 refine FP (v:=vI (((((D2 (b+c)) / 2:Nat):Int)+d) - a)) rfl rfl P rfl (E5 rfl) (FP (v:=vI c) rfl rfl P rfl (E5 rfl) (Gz (.bool (decide (((((D2 (b+c)) / 2:Nat):Int)+d) - a < c))) P (fw (.bool (decide (((((D2 (b+c)) / 2:Nat):Int)+d) - a < c))) (Fa rfl P rfl) (nt ?_))))
 by_cases aU:((((D2 (b+c)) / 2:Nat):Int)+d) - a < c
 refine jT (dT aU) (EO (Mz rfl (Mz rfl (Mz rfl (Mz rfl (Mz rfl ?_))))))
 obtain⟨bR,bS⟩:∃ q,lY B (((D2 (b+c)) / 2:Nat):Int) (((((D2 (b+c)) / 2:Nat):Int)+d) - a) c=q:=⟨_,rfl⟩
 obtain⟨kJ,eQ,jB,eT,jC⟩:=Fu dx
 refine cl J1 (self_ _ _ j l0.length u B (((D2 (b+c)) / 2:Nat):Int) (((((D2 (b+c)) / 2:Nat):Int)+d) - a) c bR eQ f0 e6 e6 e6 bS) ?_
 rintro _ kK ⟨rfl,eU,bT⟩
 have dz:=eT _ _ eU
 have jD:=dz.rowC (i:=0) rfl
 replace bT:bR.length=B.length:=bT
 refine D0 (Ff (res0 rfl) ?_)
 have gY:=dz.pf []
 obtain rfl:_=bR:=hr.symm.trans (et (iN K) (et (iN T) (et (ah F) (et (ah G) (et (ip x) (et (ah O) (et (ip A) (et (ah bQ) (et (ip aU) (ah bS))))))))))
 exact⟨rfl,gY,g5⟩
 refine jF (dF aU) (Fq (Ff (res0 rfl) ?_))
 have gZ:=dx.pf []
 obtain rfl:_=B:=hr.symm.trans (et (iN K) (et (iN T) (et (ah F) (et (ah G) (et (ip x) (et (ah O) (et (ip A) (et (ah bQ) (iN aU)))))))))
 exact⟨rfl,gZ,g5⟩
 refine Sz (dF A) (Sz (dF A) (Sz (dF A) (fw (.bool false) (ES rfl (dF A) rfl) (nt (jf (sk (sr (Mz rfl (Mz rfl (Kz (.bool (decide ((((D2 (b+c)) / 2:Nat):Int) < ((((D2 (b+c)) / 2:Nat):Int)+d) - a))) (Mz rfl ?_)))))))))))
 have Q:(decide ((((D2 (b+c)) / 2:Nat):Int) < ((((D2 (b+c)) / 2:Nat):Int)+d) - a))=true:=(dT e6)
 refine FP (v:=vI (((((D2 (b+c)) / 2:Nat):Int)+d) - a)) rfl rfl Q rfl (E5 rfl) (FP (v:=vI c) rfl rfl Q rfl (E5 rfl) (Gz (.bool (decide (((((D2 (b+c)) / 2:Nat):Int)+d) - a < c))) Q (fw (.bool (decide (((((D2 (b+c)) / 2:Nat):Int)+d) - a < c))) (Fa rfl Q rfl) (nt ?_))))
 by_cases aV:((((D2 (b+c)) / 2:Nat):Int)+d) - a < c
 refine jT (dT aV) (EO (Mz rfl (Mz rfl (Mz rfl (Mz rfl (Mz rfl ?_))))))
 obtain⟨bU,bV⟩:∃ q,lY s (((D2 (b+c)) / 2:Nat):Int) (((((D2 (b+c)) / 2:Nat):Int)+d) - a) c=q:=⟨_,rfl⟩
 obtain⟨kL,eX,jE,eY,jG⟩:=Fu aS
 refine cl J1 (self_ _ _ j l0.length u s (((D2 (b+c)) / 2:Nat):Int) (((((D2 (b+c)) / 2:Nat):Int)+d) - a) c bU eX f0 e6 e6 e6 bV) ?_
 rintro _ kM ⟨rfl,eZ,bW⟩
 have dA:=eY _ _ eZ
 have jH:=dA.rowC (i:=0) rfl
 replace bW:bU.length=s.length:=bW
 refine D0 (Ff (res0 rfl) ?_)
 have ic:=dA.pf []
 obtain rfl:_=bU:=hr.symm.trans (et (iN K) (et (iN T) (et (ah F) (et (ah G) (et (ip x) (et (ah O) (et (iN A) (et (ip aV) (ah bV)))))))))
 exact⟨rfl,ic,g5⟩
 refine jF (dF aV) (Fq (Ff (res0 rfl) ?_))
 have ig:=aS.pf []
 obtain rfl:_=s:=hr.symm.trans (et (iN K) (et (iN T) (et (ah F) (et (ah G) (et (ip x) (et (ah O) (et (iN A) (iN aV))))))))
 exact⟨rfl,ig,g5⟩
 refine Sz (dF x) (Sz (dF x) (Sz (dF x) (fw (.bool false) (ES rfl (dF x) rfl) (nt (jf (sk (EP (sr (Mz rfl (Mz rfl (Kz (.bool (decide (b < a))) (Mz rfl ?_))))))))))))
 have R:(decide (b < a))=true:=(dT e6)
 refine FP (v:=vI a) rfl rfl R rfl (E5 rfl) (FP (v:=vI (((D2 (b+c)) / 2:Nat):Int)) rfl rfl R rfl (E5 rfl) (Gz (.bool (decide (a < (((D2 (b+c)) / 2:Nat):Int)))) R (fw (.bool (decide (a < (((D2 (b+c)) / 2:Nat):Int)))) (Fa rfl R rfl) (nt ?_))))
 obtain⟨ik,aF⟩:=lK fun(af:List aJ) (w':World)=>Own w D w' [row j l0.length u (q6 aJ.cells af) 153 2]∧af.length=l0.length∧(if a < (((D2 (b+c)) / 2:Nat):Int) then bnd (lY l0 b a (((D2 (b+c)) / 2:Nat):Int)) fun fe=>fe else l0)=af
 refine FK (fun i:(List aJ)=> [(24,vI (((((D2 (b+c)) / 2:Nat):Int)+d) - a)),(18,vI (((D2 (b+c)) / 2:Nat):Int)),(0, .slice j l0.length u),(3,vI c),(4, .func (.func 166) #[] #[])]) ik ?_ ?_
 by_cases aW:a < (((D2 (b+c)) / 2:Nat):Int)
 refine jT (dT aW) (EO (Mz rfl (Mz rfl (Mz rfl (Mz rfl (Mz rfl ?_))))))
 obtain⟨bX,bY⟩:∃ q,lY l0 b a (((D2 (b+c)) / 2:Nat):Int)=q:=⟨_,rfl⟩
 obtain⟨kN,fo,jI,fq,jJ⟩:=Fu Z
 refine cl J1 (self_ _ _ j l0.length u l0 b a (((D2 (b+c)) / 2:Nat):Int) bX fo rfl e6 e6 e6 bY) ?_
 rintro _ kP ⟨rfl,fu,bZ⟩
 have dB:=fq _ _ fu
 have jL:=dB.rowC (i:=0) rfl
 replace bZ:bX.length=l0.length:=bZ
 refine D0 ?_
 have il:=dB.pf []
 exact FD bX ⟨rfl,rfl,rfl,rfl,rfl,trivial⟩ (aF.2 ⟨il,by first | omega | (simp only [H3] <;> omega) | (simp only [H4]),Eq.trans (if_pos aW) (ah bY)⟩)
 refine jF (dF aW) (Fq ?_)
 have iq:=Z.pf []
 exact FD l0 ⟨rfl,rfl,rfl,rfl,rfl,trivial⟩ (aF.2 ⟨iq,by first | omega | (simp only [H3] <;> omega) | (simp only [H4]),if_neg aW⟩)
 rintro af kQ fA
 obtain⟨iw,jM,fB⟩:=aF.1 fA
 refine sr (Mz rfl (Mz rfl (Kz (.bool (decide ((((D2 (b+c)) / 2:Nat):Int) < ((((D2 (b+c)) / 2:Nat):Int)+d) - a))) (Mz rfl ?_))))
 have S:(decide ((((D2 (b+c)) / 2:Nat):Int) < ((((D2 (b+c)) / 2:Nat):Int)+d) - a))=false:=(dF e6)
 refine Sz S (Sz S (Sz S (fw (.bool false) (ES rfl S rfl) (nt (jf (Fq (Ff (res0 rfl) ?_)))))))
 have iy:=iw.pf []
 obtain rfl:_=af:=hr.symm.trans (et (iN K) (et (iN T) (et (ah F) (et (ah G) (et (iN x) (ah fB))))))
 exact⟨rfl,iy,g5⟩
end Go.Proofs.YtbkagebjhbphaaaGreat
