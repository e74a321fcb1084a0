/-
 a stable sort of pairs: two sorted ranges made one.
-/
import Derived.Test.YtbkagebjhbphaaaGreatStA
namespace Go.Proofs.YtbkagebjhbphaaaGreat
open Int renaming fdiv→J0,toNat→D0
open IntKind renaming i64→C5,u64→D1
open List renaming flatMap→q3,getD→C0,length_replicate→H2,length_set→H1,set→u2
open _root_.Go.Proofs.Tryz renaming call166→J1,call202→K0,isAgg153→I0,sizeOf153→I2
open WL renaming nil→C6
open Wp renaming exit→C7,loop→C3
set_option maxRecDepth 100000
open Go.RowKit
set_option linter.unusedVariables false
set_option linter.unusedSectionVars false
set_option linter.unusedSimpArgs false
def gK (l0:List aI) (g:Int) (h:Int):Nat→Int→Int→Int
  | 0,a,b=>default
  | c+1,a,b=>if a < b then bnd (C0 l0 ((D0 (a+b)) / 2) default) fun d=>bnd (C0 l0 (D0 g) default) fun e=>bnd (jw d e) fun f=>if f < 0 then gK l0 g h c ((((D0 (a+b)) / 2)+1:Nat):Int) b else gK l0 g h c a (((D0 (a+b)) / 2:Nat):Int) else a
def gL (e:Int):Nat→Int→List aI→(List aI)
  | 0,a,b=>default
  | f+1,a,b=>if a < e - 1 then bnd (C0 b (D0 (a+1)) default) fun c=>bnd (C0 b (D0 a) default) fun d=>gL e f (a+1) (u2 (u2 b (D0 a) (aI.mk c.bY c.aT)) (D0 (a+1)) (aI.mk d.bY d.aT)) else b
def gM (l0:List aI) (g:Int) (p2:Int):Nat→Int→Int→Int
  | 0,a,b=>default
  | f+1,a,b=>if a < b then bnd (C0 l0 (D0 p2) default) fun c=>bnd (C0 l0 ((D0 (a+b)) / 2) default) fun d=>bnd (jw c d) fun e=>if e < 0 then gM l0 g p2 f a (((D0 (a+b)) / 2:Nat):Int) else gM l0 g p2 f ((((D0 (a+b)) / 2)+1:Nat):Int) b else a
def gN (e:Int):Nat→Int→List aI→(List aI)
  | 0,a,b=>default
  | f+1,a,b=>if a > e then bnd (C0 b (D0 (a - 1)) default) fun c=>bnd (C0 b (D0 a) default) fun d=>gN e f (a - 1) (u2 (u2 b (D0 a) (aI.mk c.bY c.aT)) (D0 (a - 1)) (aI.mk d.bY d.aT)) else b
def fC (l0:List aI) (g:Int) (p2:Int) (h:Int):Nat→Int→Int→Int
  | 0,a,b=>default
  | c+1,a,b=>if a < b then bnd (C0 l0 (D0 ((((((D0 (g+h)) / 2:Nat):Int)+p2) - 1) - (((D0 (a+b)) / 2:Nat):Int))) default) fun d=>bnd (C0 l0 ((D0 (a+b)) / 2) default) fun e=>bnd (jw d e) fun f=>if f < 0 then fC l0 g p2 h c a (((D0 (a+b)) / 2:Nat):Int) else fC l0 g p2 h c ((((D0 (a+b)) / 2)+1:Nat):Int) b else a
def lK (l0:List aI) (a:Int) (p2:Int) (b:Int):(List aI):=
 if p2 - a=1 then bnd (gK l0 a b ((D0 (b - p2))+1) p2 b) fun sLrtL=>bnd (gL sLrtL ((D0 (b - a))+1) a l0) fun sLrtLaL=>sLrtLaL else if b - p2=1 then bnd (gM l0 a p2 ((D0 (p2 - a))+1) a p2) fun sLrftL=>bnd (gN sLrftL ((D0 (p2 - a))+1) p2 l0) fun sLrftLaL=>sLrftLaL else bnd (if p2 > (((D0 (a+b)) / 2:Nat):Int) then(((((D0 (a+b)) / 2:Nat):Int)+p2) - b,(((D0 (a+b)) / 2:Nat):Int)) else(a,p2)) fun sJrffJ=>bnd (fC l0 a p2 b ((D0 (sJrffJ.2 - sJrffJ.1))+1) sJrffJ.1 sJrffJ.2) fun sLrffJaL=>if sLrffJaL < p2 then bnd (if p2 < ((((D0 (a+b)) / 2:Nat):Int)+p2) - sLrffJaL then bnd (iL l0 sLrffJaL p2 (((((D0 (a+b)) / 2:Nat):Int)+p2) - sLrffJaL)) fun c=>c else l0) fun sJrffJaLatJ=>if a < sLrffJaL then bnd (if sLrffJaL < (((D0 (a+b)) / 2:Nat):Int) then bnd (mW sJrffJaLatJ a sLrffJaL (((D0 (a+b)) / 2:Nat):Int)) fun d=>d else sJrffJaLatJ) fun sJrffJaLatJatJ=>if((((D0 (a+b)) / 2:Nat):Int)+p2) - sLrffJaL < b then bnd (mW sJrffJaLatJatJ (((D0 (a+b)) / 2:Nat):Int) (((((D0 (a+b)) / 2:Nat):Int)+p2) - sLrffJaL) b) fun e=>e else sJrffJaLatJatJ else if((((D0 (a+b)) / 2:Nat):Int)+p2) - sLrffJaL < b then bnd (mW sJrffJaLatJ (((D0 (a+b)) / 2:Nat):Int) (((((D0 (a+b)) / 2:Nat):Int)+p2) - sLrffJaL) b) fun f=>f else sJrffJaLatJ else bnd (if sLrffJaL < (((D0 (a+b)) / 2:Nat):Int) then bnd (mW l0 a sLrffJaL (((D0 (a+b)) / 2:Nat):Int)) fun g=>g else l0) fun sJrffJaLafJ=>sJrffJaLafJ
theorem qm (w:World) (D:Nat→Prop) (h:Option Addr) (n0 t:Nat) (l0:List aI) (b:Int) (p2:Int) (c:Int) (r0:List aI) (H:Own w D w [row h n0 t (q3 aI.cells l0) 153 2]) (fA:n0=l0.length) (iw:l0.length *32≤211106232532992) (iy:0≤b∧b < p2∧p2 < c∧c≤((l0.length:Nat):Int)) (hr:lK l0 b p2 c=r0) (pm:Nat) (hpm:pm=D0 (c - b))
    (self_:∀ (w:World) (D:Nat→Prop) (h:Option Addr) (n0 t:Nat) (l0:List aI) (b:Int) (p2:Int) (c:Int) (r0:List aI) (H:Own w D w [row h n0 t (q3 aI.cells l0) 153 2]) (fA:n0=l0.length) (iw:l0.length *32≤211106232532992) (iy:0≤b∧b < p2∧p2 < c∧c≤((l0.length:Nat):Int)) (hh_:D0 (c - b) < pm) (hr:mW l0 b p2 c=r0),Calls Tryz.prog 202 #[.slice h n0 t,vI b,vI p2,vI c, .func (.func 166) #[] #[]] w (d9 fun v w'=>v= .tuple #[]∧Own w D w' [row h n0 t (q3 aI.cells r0) 153 2]∧(r0.length=l0.length))):
    Calls Tryz.prog 202 #[.slice h n0 t,vI b,vI p2,vI c, .func (.func 166) #[] #[]] w (d9 fun v w'=>v= .tuple #[]∧Own w D w' [row h n0 t (q3 aI.cells r0) 153 2]∧(r0.length=l0.length)):=by
 subst fA
 have kQ:=H.rowC (i:=0) rfl
 refine cb Tryz.func202 ?_
 refine Ic (sr (Mz rfl (Mz rfl (fw (vI (p2 - b)) (Ie (e:=C5.wrap (p2 - b)) yk g2) (Kz (.bool (decide (p2 - b=1))) (nt ?_))))))
 by_cases J:p2 - b=1
 refine jT (dT J) (sr (Mz rfl (Ar rfl (Mz rfl (An rfl (Ic (bo ?_)))))))
 have iA:=H.pf []
 obtain⟨iB,aF⟩:=rz fun (j:Int) (l:Int) (aX:Nat) w'=>Own w D w' [row h l0.length t (q3 aI.cells l0) 153 2]∧(p2≤j∧j≤l∧l≤c)∧D0 (l - j) < aX∧gK l0 b c ((D0 (c - p2))+1) p2 c=gK l0 b c aX j l
 refine C3 (fun i:Int × Int × Nat=> [(10,vI i.1),(11,vI i.2.1),(0, .slice h l0.length t),(1,vI b),(2,vI p2),(3,vI c),(4, .func (.func 166) #[] #[])]) iB (fun i=>i.2.2) (p2,c,(D0 (c - p2))+1) ⟨rfl,rfl,rfl,rfl,rfl,rfl,rfl,trivial⟩ (aF.2 ⟨iA,e6,e6,rfl⟩) ?_
 rintro ⟨j,l,aX⟩ kR fB
 obtain⟨fD,jJ,jK,aY⟩:=aF.1 fB
 obtain⟨aW,fE⟩:∃ q,aX=q+1:=⟨aX - 1,e6⟩
 subst fE
 refine Ic (sr (Mz rfl (Mz rfl (Kz (.bool (decide (j < l))) (nt ?_)))))
 by_cases aZ:j < l
 refine jT (dT aZ) (sk (bo (sr (Mz rfl (Mz rfl (fw (vI (j+l)) (Ie (e:=C5.wrap (j+l)) yk g2) (fw (vU (D0 (j+l))) (Ie (e:=D1.wrap (j+l)) yk g8) (fw (.int .u64 (((D0 (j+l)) / 2:Nat):Int)) (Ie (e:=J0 ((D0 (j+l):Nat):Int) 2) yk (nV _ 1 _ f4)) (fw (vI (((D0 (j+l)) / 2:Nat):Int)) (Ie (e:=C5.wrap (((D0 (j+l)) / 2:Nat):Int)) yk (Lf _ e6)) (An rfl (Ic ?_)))))))))))
 refine vW [] (Iu (bQ.block (Iu (bQ.block (Iu (Iu IC)))))) fD ?_
 intro kS iC
 refine qv 0 rfl rfl (qv 1 rfl rfl (qv 2 rfl rfl ?_))
 obtain⟨cu,bf⟩:=jN (ls:=l0) (i:=(D0 (j+l)) / 2) e9
 refine qt (v:= .pointer (some ⟨ab h,ao h+((D0 (j+l)) / 2) *2,none⟩)) 3 rfl (fun _ ⟨_,s⟩=>Ij (ko) rfl rfl ((s.rds (i:=0) rfl).addr (i:=(D0 (j+l)) / 2) e6) e6) (qt (v:= .agg (aI.cells cu).toArray) 4 rfl (fun _ ⟨_,s⟩=>Io rfl (Iy (cs:=(aI.cells cu)) I0 I2 ((s.rds (i:=0) rfl).elem aI.len bf f4))) (qv 5 rfl rfl (qt (v:=vJ (D0 b)) 6 rfl (fun _ _=>Ie (e:=b) (Iq rfl) e6) ?_)))
 obtain⟨cz,bg⟩:=jN (ls:=l0) (i:=D0 b) e9
 refine qt (v:= .pointer (some ⟨ab h,ao h+(D0 b) *2,none⟩)) 7 rfl (fun _ ⟨_,s⟩=>Ij (ko) rfl rfl ((s.rds (i:=0) rfl).addr (i:=D0 b) e6) e6) (qt (v:= .agg (aI.cells cz).toArray) 8 rfl (fun _ ⟨_,s⟩=>Io rfl (Iy (cs:=(aI.cells cz)) I0 I2 ((s.rds (i:=0) rfl).elem aI.len bg f4))) ?_)
 obtain⟨dC,bi⟩:∃ q,jw cu cz=q:=⟨_,rfl⟩
 obtain⟨kT,fF,jL,fG,jM⟩:=Ii iC
 refine qd 9 rfl (IK J1 rfl rfl (nO _ _ cu cz dC fF bi) ?_)
 rintro _ kU ⟨rfl,fH⟩
 have dD:=fG _ _ fH
 refine⟨.inr ⟨_,dD⟩, ?_⟩
 refine qk (.bool (decide (dC < 0))) 10 rfl (qn (Ig ?_))
 by_cases cB:dC < 0
 refine jT (dT cB) (Ib (Mz rfl (fw (vI ((((D0 (j+l)) / 2)+1:Nat):Int)) (Ie (e:=C5.wrap ((((D0 (j+l)) / 2:Nat):Int)+1)) yk f0) (Az rfl (C6 (bN ?_))))))
 have iD:=dD.pf []
 exact Ir (((((D0 (j+l)) / 2)+1:Nat):Int),l,aW) ⟨rfl,rfl,rfl,rfl,rfl,rfl,rfl,trivial⟩ (aF.2 ⟨iD,e6,e6,et (aY) (et (ip aZ) (et (ah (bJ bf)) (et (ah (bJ bg)) (et (ah bi) (ip cB)))))⟩) (by show aW < aW+1; omega)
 refine jF (dF cB) (Ib (Mz rfl (Az rfl (C6 (bN ?_)))))
 have iE:=dD.pf []
 exact Ir (j,(((D0 (j+l)) / 2:Nat):Int),aW) ⟨rfl,rfl,rfl,rfl,rfl,rfl,rfl,trivial⟩ (aF.2 ⟨iE,e6,e6,et (aY) (et (ip aZ) (et (ah (bJ bf)) (et (ah (bJ bg)) (et (ah bi) (iN cB)))))⟩) (by show aW < aW+1; omega)
 refine jF (dF aZ) (C7 (Il ?_))
 have fI:gK l0 b c ((D0 (c - p2))+1) p2 c=j:=et (aY) (iN aZ)
 refine Il (IB (Ig (Ic (sr (Mz rfl (An rfl (bo ?_)))))))
 have iF:=fD.pf []
 obtain⟨iG,bn⟩:=rz fun (g:Int) B (bq:Nat) w'=>Own w D w' [row h l0.length t (q3 aI.cells B) 153 2]∧B.length=l0.length∧b≤g∧D0 (c - g) < bq∧gL j ((D0 (c - b))+1) b l0=gL j bq g B
 refine C3 (fun i:Int × (List aI) × Nat=> [(13,vI i.1),(10,vI j),(0, .slice h l0.length t),(1,vI b),(2,vI p2),(3,vI c),(4, .func (.func 166) #[] #[])]) iG (fun i=>i.2.2) (b,l0,(D0 (c - b))+1) ⟨rfl,rfl,rfl,rfl,rfl,rfl,rfl,trivial⟩ (bn.2 ⟨iF,by first | omega | (simp only [H1] <;> omega) | (simp only [H2]),e6,e6,rfl⟩) ?_
 rintro ⟨g,B,bq⟩ kV fJ
 obtain⟨fK,jO,jP,jQ,cO⟩:=bn.1 fJ
 obtain⟨dE,fM⟩:∃ q,bq=q+1:=⟨bq - 1,e6⟩
 subst fM
 refine Ic (sr (Mz rfl (Mz rfl (fw (vI (j - 1)) (Ie (e:=C5.wrap (j - 1)) yk g2) (Kz (.bool (decide (g < j - 1))) (nt ?_))))))
 by_cases cK:g < j - 1
 refine jT (dT cK) (sk (Ic (bo ?_)))
 refine vW [15,17] (bQ.block (Iu (Iu (bQ.block (Iu (Iu IC)))))) fK ?_
 intro kW iH
 refine qv 0 rfl rfl (qt (v:=vJ (D0 g)) 1 rfl (fun _ _=>Ie (e:=g) (Iq rfl) e6) (IP (v:= .slice h l0.length t) 2 rfl e7 (fun _=>Iq rfl) (IP (v:=vI g) 3 rfl e7 (fun _=>Iq rfl) (IP (v:=vJ (D0 (g+1))) 4 rfl e7 (fun _=>Ie (e:=C5.wrap (g+1)) yk f0) (qv 5 rfl rfl (qv 6 rfl rfl (qt (v:=vJ (D0 (g+1))) 7 rfl (fun _ _=>Ie (e:=C5.wrap (g+1)) yk f0) ?_)))))))
 obtain⟨af,cZ⟩:=jN (ls:=B) (i:=D0 (g+1)) e9
 refine qt (v:= .pointer (some ⟨ab h,ao h+(D0 (g+1)) *2,none⟩)) 8 rfl (fun _ ⟨_,s⟩=>Ij (ko) rfl rfl ((s.rds (i:=0) rfl).addr (i:=D0 (g+1)) e6) e6) (qt (v:= .agg (aI.cells af).toArray) 9 rfl (fun _ ⟨_,s⟩=>Io rfl (Iy (cs:=(aI.cells af)) I0 I2 ((s.rds (i:=0) rfl).elem aI.len cZ f4))) (qv 10 rfl rfl (qt (v:=vJ (D0 g)) 11 rfl (fun _ _=>Ie (e:=g) (Iq rfl) e6) ?_)))
 obtain⟨bu,aG⟩:=jN (ls:=B) (i:=D0 g) e9
 refine qt (v:= .pointer (some ⟨ab h,ao h+(D0 g) *2,none⟩)) 12 rfl (fun _ ⟨_,s⟩=>Ij (ko) rfl rfl ((s.rds (i:=0) rfl).addr (i:=D0 g) e6) e6) (qt (v:= .agg (aI.cells bu).toArray) 13 rfl (fun _ ⟨_,s⟩=>Io rfl (Iy (cs:=(aI.cells bu)) I0 I2 ((s.rds (i:=0) rfl).elem aI.len aG f4))) (qt (v:= .pointer (some ⟨ab h,ao h+(D0 g) *2,none⟩)) 14 rfl (fun _ ⟨_,s⟩=>Ij (ko) rfl rfl ((s.rds (i:=0) rfl).addr (i:=D0 g) e6) e6) ?_))
 refine qe 15 rfl (Do.storeRow (vs:=(aI.cells af)) (o:=(D0 g) *2+0) (q:=ao h+(D0 g) *2) iH rfl e6 rfl I2 rfl rfl (Le rfl) (je aI.len aG (Le rfl)) (jV (y:=af) aI.len rfl (Le rfl) aG) ?_)
 intro kX dG
 refine⟨.inl e7, ?_⟩
 obtain⟨kY,jR⟩:=jN (ls:=B) (i:=D0 (g+1)) e9
 obtain⟨kZ,jS⟩:=dN (ls:=(u2 B (D0 g) af)) (i:=D0 (g+1)) aI.len f4 (dG.rds (i:=0) rfl) e9
 refine IP (v:= .pointer (some ⟨ab h,ao h+(D0 (g+1)) *2,none⟩)) 16 rfl e7 (fun _=>Ij (ko) rfl rfl ((dG.rds (i:=0) rfl).addr (i:=D0 (g+1)) e6) e6) ?_
 obtain⟨lc,df⟩:=jN (ls:=(u2 B (D0 g) af)) (i:=D0 (g+1)) e9
 refine qe 17 rfl (Do.storeRow (vs:=(aI.cells bu)) (o:=(D0 (g+1)) *2+0) (q:=ao h+(D0 (g+1)) *2) dG rfl e6 rfl I2 rfl rfl (Le rfl) (je aI.len df (Le rfl)) (jV (y:=bu) aI.len rfl (Le rfl) df) ?_)
 intro lg iI
 refine⟨.inl e7, ?_⟩
 refine qn (bN (Ig (Ib (Mz rfl (fw (vI (g+1)) (Ie (e:=C5.wrap (g+1)) yk g2) (Az rfl (C6 ?_)))))))
 have iJ:=iI.pf []
 exact Ir (g+1,(u2 (u2 B (D0 g) af) (D0 (g+1)) bu),dE) ⟨rfl,rfl,rfl,rfl,rfl,rfl,rfl,trivial⟩ (bn.2 ⟨iJ,by first | omega | (simp only [H1] <;> omega) | (simp only [H2]),e6,e6,Eq.trans (cO) (Eq.trans (if_pos cK) (Eq.trans (ah (bJ cZ)) (ah (bJ aG))))⟩) (by show dE < dE+1; omega)
 refine jF (dF cK) (C7 (Il ?_))
 have fO:gL j ((D0 (c - b))+1) b l0=B:=et (cO) (iN cK)
 refine Il (IB (Ig (rt (tR (Fin.res (res0 rfl) ?_)))))
 have iK:=fK.pf []
 obtain rfl:_=B:=hr.symm.trans (et (ip J) (et (ah fI) (ah fO)))
 exact⟨rfl,iK,g5⟩
 refine jF (dF J) (sk (Ic (sr (Mz rfl (Mz rfl (fw (vI (c - p2)) (Ie (e:=C5.wrap (c - p2)) yk g2) (Kz (.bool (decide (c - p2=1))) (nt ?_))))))))
 by_cases S:c - p2=1
 refine jT (dT S) (sr (Mz rfl (Ar rfl (Mz rfl (An rfl (Ic (bo ?_)))))))
 have iM:=H.pf []
 obtain⟨fP,K⟩:=rz fun (k:Int) (m:Int) (bv:Nat) w'=>Own w D w' [row h l0.length t (q3 aI.cells l0) 153 2]∧(b≤k∧k≤m∧m≤p2)∧D0 (m - k) < bv∧gM l0 b p2 ((D0 (p2 - b))+1) b p2=gM l0 b p2 bv k m
 refine C3 (fun i:Int × Int × Nat=> [(14,vI i.1),(15,vI i.2.1),(0, .slice h l0.length t),(1,vI b),(2,vI p2),(3,vI c),(4, .func (.func 166) #[] #[])]) fP (fun i=>i.2.2) (b,p2,(D0 (p2 - b))+1) ⟨rfl,rfl,rfl,rfl,rfl,rfl,rfl,trivial⟩ (K.2 ⟨iM,e6,e6,rfl⟩) ?_
 rintro ⟨k,m,bv⟩ jU dH
 obtain⟨dh,iO,iP,ag⟩:=K.1 dH
 obtain⟨G,dI⟩:∃ q,bv=q+1:=⟨bv - 1,e6⟩
 subst dI
 refine Ic (sr (Mz rfl (Mz rfl (Kz (.bool (decide (k < m))) (nt ?_)))))
 by_cases T:k < m
 refine jT (dT T) (sk (bo (sr (Mz rfl (Mz rfl (fw (vI (k+m)) (Ie (e:=C5.wrap (k+m)) yk g2) (fw (vU (D0 (k+m))) (Ie (e:=D1.wrap (k+m)) yk g8) (fw (.int .u64 (((D0 (k+m)) / 2:Nat):Int)) (Ie (e:=J0 ((D0 (k+m):Nat):Int) 2) yk (nV _ 1 _ f4)) (fw (vI (((D0 (k+m)) / 2:Nat):Int)) (Ie (e:=C5.wrap (((D0 (k+m)) / 2:Nat):Int)) yk (Lf _ e6)) (An rfl (Ic ?_)))))))))))
 refine vW [] (Iu (bQ.block (Iu (bQ.block (Iu (Iu IC)))))) dh ?_
 intro jW fQ
 refine qv 0 rfl rfl (qv 1 rfl rfl (qt (v:=vJ (D0 p2)) 2 rfl (fun _ _=>Ie (e:=p2) (Iq rfl) e6) ?_))
 obtain⟨aH,ai⟩:=jN (ls:=l0) (i:=D0 p2) e9
 refine qt (v:= .pointer (some ⟨ab h,ao h+(D0 p2) *2,none⟩)) 3 rfl (fun _ ⟨_,s⟩=>Ij (ko) rfl rfl ((s.rds (i:=0) rfl).addr (i:=D0 p2) e6) e6) (qt (v:= .agg (aI.cells aH).toArray) 4 rfl (fun _ ⟨_,s⟩=>Io rfl (Iy (cs:=(aI.cells aH)) I0 I2 ((s.rds (i:=0) rfl).elem aI.len ai f4))) (qv 5 rfl rfl (qv 6 rfl rfl ?_)))
 obtain⟨aJ,aj⟩:=jN (ls:=l0) (i:=(D0 (k+m)) / 2) e9
 refine qt (v:= .pointer (some ⟨ab h,ao h+((D0 (k+m)) / 2) *2,none⟩)) 7 rfl (fun _ ⟨_,s⟩=>Ij (ko) rfl rfl ((s.rds (i:=0) rfl).addr (i:=(D0 (k+m)) / 2) e6) e6) (qt (v:= .agg (aI.cells aJ).toArray) 8 rfl (fun _ ⟨_,s⟩=>Io rfl (Iy (cs:=(aI.cells aJ)) I0 I2 ((s.rds (i:=0) rfl).elem aI.len aj f4))) ?_)
 obtain⟨U,ak⟩:∃ q,jw aH aJ=q:=⟨_,rfl⟩
 obtain⟨jX,dJ,iQ,dK,iR⟩:=Ii fQ
 refine qd 9 rfl (IK J1 rfl rfl (nO _ _ aH aJ U dJ ak) ?_)
 rintro _ jY ⟨rfl,dL⟩
 have bz:=dK _ _ dL
 refine⟨.inr ⟨_,bz⟩, ?_⟩
 refine qk (.bool (decide (U < 0))) 10 rfl (qt (v:= .bool (decide (¬ (U < 0)))) 11 rfl (fun _ _=>IG (e:= !(decide (U < 0))) yk decide_not.symm) (qn (Ig ?_)))
 by_cases aK:U < 0
 refine jF (dF (Lh aK)) (Ib (Mz rfl (Az rfl (C6 (bN ?_)))))
 have fT:=bz.pf []
 exact Ir (k,(((D0 (k+m)) / 2:Nat):Int),G) ⟨rfl,rfl,rfl,rfl,rfl,rfl,rfl,trivial⟩ (K.2 ⟨fT,e6,e6,et (ag) (et (ip T) (et (ah (bJ ai)) (et (ah (bJ aj)) (et (ah ak) (ip aK)))))⟩) (by show G < G+1; omega)
 refine jT (dT aK) (Ib (Mz rfl (fw (vI ((((D0 (k+m)) / 2)+1:Nat):Int)) (Ie (e:=C5.wrap ((((D0 (k+m)) / 2:Nat):Int)+1)) yk f0) (Az rfl (C6 (bN ?_))))))
 have fU:=bz.pf []
 exact Ir (((((D0 (k+m)) / 2)+1:Nat):Int),m,G) ⟨rfl,rfl,rfl,rfl,rfl,rfl,rfl,trivial⟩ (K.2 ⟨fU,e6,e6,et (ag) (et (ip T) (et (ah (bJ ai)) (et (ah (bJ aj)) (et (ah ak) (iN aK)))))⟩) (by show G < G+1; omega)
 refine jF (dF T) (C7 (Il ?_))
 have dM:gM l0 b p2 ((D0 (p2 - b))+1) b p2=k:=et (ag) (iN T)
 refine Il (IB (Ig (Ic (sr (Mz rfl (An rfl (bo ?_)))))))
 have fV:=dh.pf []
 obtain⟨fZ,au⟩:=rz fun (d:Int) x (V:Nat) w'=>Own w D w' [row h l0.length t (q3 aI.cells x) 153 2]∧x.length=l0.length∧d≤p2∧D0 (d - b) < V∧gN k ((D0 (p2 - b))+1) p2 l0=gN k V d x
 refine C3 (fun i:Int × (List aI) × Nat=> [(17,vI i.1),(14,vI k),(0, .slice h l0.length t),(1,vI b),(2,vI p2),(3,vI c),(4, .func (.func 166) #[] #[])]) fZ (fun i=>i.2.2) (p2,l0,(D0 (p2 - b))+1) ⟨rfl,rfl,rfl,rfl,rfl,rfl,rfl,trivial⟩ (au.2 ⟨fV,by first | omega | (simp only [H1] <;> omega) | (simp only [H2]),e6,e6,rfl⟩) ?_
 rintro ⟨d,x,V⟩ jZ dO
 obtain⟨di,iT,iU,iV,bA⟩:=au.1 dO
 obtain⟨bB,dP⟩:∃ q,V=q+1:=⟨V - 1,e6⟩
 subst dP
 refine Ic (sr (Mz rfl (Mz rfl (Kz (.bool (decide (d > k))) (nt ?_)))))
 by_cases aL:d > k
 refine jT (dT aL) (sk (Ic (bo ?_)))
 refine vW [15,17] (bQ.block (Iu (Iu (bQ.block (Iu (Iu IC)))))) di ?_
 intro j3 gm
 refine qv 0 rfl rfl (qt (v:=vJ (D0 d)) 1 rfl (fun _ _=>Ie (e:=d) (Iq rfl) e6) (IP (v:= .slice h l0.length t) 2 rfl e7 (fun _=>Iq rfl) (IP (v:=vI d) 3 rfl e7 (fun _=>Iq rfl) (IP (v:=vJ (D0 (d - 1))) 4 rfl e7 (fun _=>Ie (e:=C5.wrap (d - 1)) yk f0) (qv 5 rfl rfl (qv 6 rfl rfl (qt (v:=vJ (D0 (d - 1))) 7 rfl (fun _ _=>Ie (e:=C5.wrap (d - 1)) yk f0) ?_)))))))
 obtain⟨C,bC⟩:=jN (ls:=x) (i:=D0 (d - 1)) e9
 refine qt (v:= .pointer (some ⟨ab h,ao h+(D0 (d - 1)) *2,none⟩)) 8 rfl (fun _ ⟨_,s⟩=>Ij (ko) rfl rfl ((s.rds (i:=0) rfl).addr (i:=D0 (d - 1)) e6) e6) (qt (v:= .agg (aI.cells C).toArray) 9 rfl (fun _ ⟨_,s⟩=>Io rfl (Iy (cs:=(aI.cells C)) I0 I2 ((s.rds (i:=0) rfl).elem aI.len bC f4))) (qv 10 rfl rfl (qt (v:=vJ (D0 d)) 11 rfl (fun _ _=>Ie (e:=d) (Iq rfl) e6) ?_)))
 obtain⟨W,L⟩:=jN (ls:=x) (i:=D0 d) e9
 refine qt (v:= .pointer (some ⟨ab h,ao h+(D0 d) *2,none⟩)) 12 rfl (fun _ ⟨_,s⟩=>Ij (ko) rfl rfl ((s.rds (i:=0) rfl).addr (i:=D0 d) e6) e6) (qt (v:= .agg (aI.cells W).toArray) 13 rfl (fun _ ⟨_,s⟩=>Io rfl (Iy (cs:=(aI.cells W)) I0 I2 ((s.rds (i:=0) rfl).elem aI.len L f4))) (qt (v:= .pointer (some ⟨ab h,ao h+(D0 d) *2,none⟩)) 14 rfl (fun _ ⟨_,s⟩=>Ij (ko) rfl rfl ((s.rds (i:=0) rfl).addr (i:=D0 d) e6) e6) ?_))
 refine qe 15 rfl (Do.storeRow (vs:=(aI.cells C)) (o:=(D0 d) *2+0) (q:=ao h+(D0 d) *2) gm rfl e6 rfl I2 rfl rfl (Le rfl) (je aI.len L (Le rfl)) (jV (y:=C) aI.len rfl (Le rfl) L) ?_)
 intro j4 bD
 refine⟨.inl e7, ?_⟩
 obtain⟨j5,iW⟩:=jN (ls:=x) (i:=D0 (d - 1)) e9
 obtain⟨j6,iX⟩:=dN (ls:=(u2 x (D0 d) C)) (i:=D0 (d - 1)) aI.len f4 (bD.rds (i:=0) rfl) e9
 refine IP (v:= .pointer (some ⟨ab h,ao h+(D0 (d - 1)) *2,none⟩)) 16 rfl e7 (fun _=>Ij (ko) rfl rfl ((bD.rds (i:=0) rfl).addr (i:=D0 (d - 1)) e6) e6) ?_
 obtain⟨kg,bE⟩:=jN (ls:=(u2 x (D0 d) C)) (i:=D0 (d - 1)) e9
 refine qe 17 rfl (Do.storeRow (vs:=(aI.cells W)) (o:=(D0 (d - 1)) *2+0) (q:=ao h+(D0 (d - 1)) *2) bD rfl e6 rfl I2 rfl rfl (Le rfl) (je aI.len bE (Le rfl)) (jV (y:=W) aI.len rfl (Le rfl) bE) ?_)
 intro kr gp
 refine⟨.inl e7, ?_⟩
 refine qn (bN (Ig (Ib (Mz rfl (fw (vI (d - 1)) (Ie (e:=C5.wrap (d - 1)) yk g2) (Az rfl (C6 ?_)))))))
 have gq:=gp.pf []
 exact Ir (d - 1,(u2 (u2 x (D0 d) C) (D0 (d - 1)) W),bB) ⟨rfl,rfl,rfl,rfl,rfl,rfl,rfl,trivial⟩ (au.2 ⟨gq,by first | omega | (simp only [H1] <;> omega) | (simp only [H2]),e6,e6,Eq.trans (bA) (Eq.trans (if_pos aL) (Eq.trans (ah (bJ bC)) (ah (bJ L))))⟩) (by show bB < bB+1; omega)
 refine jF (dF aL) (C7 (Il ?_))
 have dQ:gN k ((D0 (p2 - b))+1) p2 l0=x:=et (bA) (iN aL)
 refine Il (IB (Ig (rt (tR (Fin.res (res0 rfl) ?_)))))
 have gu:=di.pf []
 obtain rfl:_=x:=hr.symm.trans (et (iN J) (et (ip S) (et (ah dM) (ah dQ))))
 exact⟨rfl,gu,g5⟩
 refine jF (dF S) (sk (sr (Mz rfl (Mz rfl (fw (vI (b+c)) (Ie (e:=C5.wrap (b+c)) yk g2) (fw (vU (D0 (b+c))) (Ie (e:=D1.wrap (b+c)) yk g8) (fw (.int .u64 (((D0 (b+c)) / 2:Nat):Int)) (Ie (e:=J0 ((D0 (b+c):Nat):Int) 2) yk (nV _ 1 _ f4)) (fw (vI (((D0 (b+c)) / 2:Nat):Int)) (Ie (e:=C5.wrap (((D0 (b+c)) / 2:Nat):Int)) yk (Lf _ e6)) (Ar rfl (Mz rfl (Mz rfl (fw (vI ((((D0 (b+c)) / 2:Nat):Int)+p2)) (Ie (e:=C5.wrap ((((D0 (b+c)) / 2:Nat):Int)+p2)) yk g2) (Ar rfl (Az rfl (An rfl (Ic (sr (Mz rfl (Mz rfl (Kz (.bool (decide (p2 > (((D0 (b+c)) / 2:Nat):Int)))) (nt ?_)))))))))))))))))))))
 obtain⟨gy,av⟩:=Fz fun (n:Int) (p:Int) w'=>Own w D w' [row h l0.length t (q3 aI.cells l0) 153 2]∧(-9223372036854775808≤n∧n≤9223372036854775807)∧(-9223372036854775808≤p∧p≤9223372036854775807)∧(b≤n∧(((D0 (b+c)) / 2:Nat):Int)+p2 - c≤n∧n≤p∧p≤(((D0 (b+c)) / 2:Nat):Int)∧p≤p2)∧(if p2 > (((D0 (b+c)) / 2:Nat):Int) then(((((D0 (b+c)) / 2:Nat):Int)+p2) - c,(((D0 (b+c)) / 2:Nat):Int)) else(b,p2))=(n,p)
 refine IZ (fun i:Int × Int=> [(20,vI i.1),(21,vI i.2),(19,vI ((((D0 (b+c)) / 2:Nat):Int)+p2)),(18,vI (((D0 (b+c)) / 2:Nat):Int)),(0, .slice h l0.length t),(1,vI b),(2,vI p2),(3,vI c),(4, .func (.func 166) #[] #[])]) gy ?_ ?_
 by_cases aM:p2 > (((D0 (b+c)) / 2:Nat):Int)
 refine jT (dT aM) (sr (Mz rfl (Mz rfl (fw (vI (((((D0 (b+c)) / 2:Nat):Int)+p2) - c)) (Ie (e:=C5.wrap (((((D0 (b+c)) / 2:Nat):Int)+p2) - c)) yk g2) (An rfl (Ib (Mz rfl (Az rfl (C6 ?_)))))))))
 have gz:=H.pf []
 exact IQ (((((D0 (b+c)) / 2:Nat):Int)+p2) - c,(((D0 (b+c)) / 2:Nat):Int)) ⟨rfl,rfl,rfl,rfl,rfl,rfl,rfl,rfl,rfl,trivial⟩ (av.2 ⟨gz,e6,e6,e6,ip aM⟩)
 refine jF (dF aM) (sr (Mz rfl (An rfl (Ib (Mz rfl (Az rfl (C6 ?_)))))))
 have gB:=H.pf []
 exact IQ (b,p2) ⟨rfl,rfl,rfl,rfl,rfl,rfl,rfl,rfl,rfl,trivial⟩ (av.2 ⟨gB,e6,e6,e6,iN aM⟩)
 rintro ⟨n,p⟩ ku dR
 obtain⟨gD,iY,iZ,ja,E⟩:=av.1 dR
 refine sr (Mz rfl (fw (vI (((((D0 (b+c)) / 2:Nat):Int)+p2) - 1)) (Ie (e:=C5.wrap (((((D0 (b+c)) / 2:Nat):Int)+p2) - 1)) yk g2) (An rfl (Ic (bo ?_)))))
 have gF:=gD.pf []
 obtain⟨gG,M⟩:=rz fun (a:Int) (f:Int) (X:Nat) w'=>Own w D w' [row h l0.length t (q3 aI.cells l0) 153 2]∧(b≤a∧(((D0 (b+c)) / 2:Nat):Int)+p2 - c≤a∧a≤f∧f≤(((D0 (b+c)) / 2:Nat):Int)∧f≤p2)∧D0 (f - a) < X∧fC l0 b p2 c ((D0 (p - n))+1) n p=fC l0 b p2 c X a f
 refine C3 (fun i:Int × Int × Nat=> [(20,vI i.1),(21,vI i.2.1),(22,vI (((((D0 (b+c)) / 2:Nat):Int)+p2) - 1)),(19,vI ((((D0 (b+c)) / 2:Nat):Int)+p2)),(18,vI (((D0 (b+c)) / 2:Nat):Int)),(0, .slice h l0.length t),(1,vI b),(2,vI p2),(3,vI c),(4, .func (.func 166) #[] #[])]) gG (fun i=>i.2.2) (n,p,(D0 (p - n))+1) ⟨rfl,rfl,rfl,rfl,rfl,rfl,rfl,rfl,rfl,rfl,trivial⟩ (M.2 ⟨gF,e6,e6,rfl⟩) ?_
 rintro ⟨a,f,X⟩ kv dS
 obtain⟨Y,jb,jc,ax⟩:=M.1 dS
 obtain⟨I,dU⟩:∃ q,X=q+1:=⟨X - 1,e6⟩
 subst dU
 refine Ic (sr (Mz rfl (Mz rfl (Kz (.bool (decide (a < f))) (nt ?_)))))
 by_cases Z:a < f
 refine jT (dT Z) (sk (bo (sr (Mz rfl (Mz rfl (fw (vI (a+f)) (Ie (e:=C5.wrap (a+f)) yk g2) (fw (vU (D0 (a+f))) (Ie (e:=D1.wrap (a+f)) yk g8) (fw (.int .u64 (((D0 (a+f)) / 2:Nat):Int)) (Ie (e:=J0 ((D0 (a+f):Nat):Int) 2) yk (nV _ 1 _ f4)) (fw (vI (((D0 (a+f)) / 2:Nat):Int)) (Ie (e:=C5.wrap (((D0 (a+f)) / 2:Nat):Int)) yk (Lf _ e6)) (An rfl (Ic ?_)))))))))))
 refine vW [] (Iu (bQ.block (Iu (bQ.block (Iu IC))))) Y ?_
 intro kw gH
 refine qv 0 rfl rfl (qv 1 rfl rfl (qv 2 rfl rfl (qv 3 rfl rfl (qt (v:=vI ((D0 ((((((D0 (b+c)) / 2:Nat):Int)+p2) - 1) - (((D0 (a+f)) / 2:Nat):Int)):Nat):Int)) 4 rfl (fun _ _=>Ie (e:=C5.wrap ((((((D0 (b+c)) / 2:Nat):Int)+p2) - 1) - (((D0 (a+f)) / 2:Nat):Int))) yk f0) ?_))))
 obtain⟨aN,ay⟩:=jN (ls:=l0) (i:=D0 ((((((D0 (b+c)) / 2:Nat):Int)+p2) - 1) - (((D0 (a+f)) / 2:Nat):Int))) e9
 refine qt (v:= .pointer (some ⟨ab h,ao h+(D0 ((((((D0 (b+c)) / 2:Nat):Int)+p2) - 1) - (((D0 (a+f)) / 2:Nat):Int))) *2,none⟩)) 5 rfl (fun _ ⟨_,s⟩=>Ij (ko) rfl rfl ((s.rds (i:=0) rfl).addr (i:=D0 ((((((D0 (b+c)) / 2:Nat):Int)+p2) - 1) - (((D0 (a+f)) / 2:Nat):Int))) e6) e6) (qt (v:= .agg (aI.cells aN).toArray) 6 rfl (fun _ ⟨_,s⟩=>Io rfl (Iy (cs:=(aI.cells aN)) I0 I2 ((s.rds (i:=0) rfl).elem aI.len ay f4))) (qv 7 rfl rfl (qv 8 rfl rfl ?_)))
 obtain⟨aO,az⟩:=jN (ls:=l0) (i:=(D0 (a+f)) / 2) e9
 refine qt (v:= .pointer (some ⟨ab h,ao h+((D0 (a+f)) / 2) *2,none⟩)) 9 rfl (fun _ ⟨_,s⟩=>Ij (ko) rfl rfl ((s.rds (i:=0) rfl).addr (i:=(D0 (a+f)) / 2) e6) e6) (qt (v:= .agg (aI.cells aO).toArray) 10 rfl (fun _ ⟨_,s⟩=>Io rfl (Iy (cs:=(aI.cells aO)) I0 I2 ((s.rds (i:=0) rfl).elem aI.len az f4))) ?_)
 obtain⟨aa,aA⟩:∃ q,jw aN aO=q:=⟨_,rfl⟩
 obtain⟨ky,dV,jd,dW,jg⟩:=Ii gH
 refine qd 11 rfl (IK J1 rfl rfl (nO _ _ aN aO aa dV aA) ?_)
 rintro _ kz ⟨rfl,dX⟩
 have bF:=dW _ _ dX
 refine⟨.inr ⟨_,bF⟩, ?_⟩
 refine qk (.bool (decide (aa < 0))) 12 rfl (qt (v:= .bool (decide (¬ (aa < 0)))) 13 rfl (fun _ _=>IG (e:= !(decide (aa < 0))) yk decide_not.symm) (qn (Ig ?_)))
 by_cases aP:aa < 0
 refine jF (dF (Lh aP)) (Ib (Mz rfl (Az rfl (C6 (bN ?_)))))
 have gI:=bF.pf []
 exact Ir (a,(((D0 (a+f)) / 2:Nat):Int),I) ⟨rfl,rfl,rfl,rfl,rfl,rfl,rfl,rfl,rfl,rfl,trivial⟩ (M.2 ⟨gI,e6,e6,et (ax) (et (ip Z) (et (ah (bJ ay)) (et (ah (bJ az)) (et (ah aA) (ip aP)))))⟩) (by show I < I+1; omega)
 refine jT (dT aP) (Ib (Mz rfl (fw (vI ((((D0 (a+f)) / 2)+1:Nat):Int)) (Ie (e:=C5.wrap ((((D0 (a+f)) / 2:Nat):Int)+1)) yk f0) (Az rfl (C6 (bN ?_))))))
 have gJ:=bF.pf []
 exact Ir (((((D0 (a+f)) / 2)+1:Nat):Int),f,I) ⟨rfl,rfl,rfl,rfl,rfl,rfl,rfl,rfl,rfl,rfl,trivial⟩ (M.2 ⟨gJ,e6,e6,et (ax) (et (ip Z) (et (ah (bJ ay)) (et (ah (bJ az)) (et (ah aA) (iN aP)))))⟩) (by show I < I+1; omega)
 refine jF (dF Z) (C7 (Il ?_))
 have F:fC l0 b p2 c ((D0 (p - n))+1) n p=a:=et (ax) (iN Z)
 refine Il (IB (Ig (sr (Mz rfl (Mz rfl (fw (vI (((((D0 (b+c)) / 2:Nat):Int)+p2) - a)) (Ie (e:=C5.wrap (((((D0 (b+c)) / 2:Nat):Int)+p2) - a)) yk g2) (An rfl (Ic (sr (Mz rfl (Mz rfl (Kz (.bool (decide (a < p2))) (Mz rfl ?_)))))))))))))
 by_cases u:a < p2
 refine gw (vI p2) (dT u) (Iq rfl) (gw (vI (((((D0 (b+c)) / 2:Nat):Int)+p2) - a)) (dT u) (Iq rfl) (Gz (.bool (decide (p2 < ((((D0 (b+c)) / 2:Nat):Int)+p2) - a))) (dT u) (fw (.bool (decide (p2 < ((((D0 (b+c)) / 2:Nat):Int)+p2) - a))) (Iw rfl (dT u) rfl) (nt ?_))))
 obtain⟨gP,aB⟩:=nQ fun r w'=>Own w D w' [row h l0.length t (q3 aI.cells r) 153 2]∧r.length=l0.length∧(if p2 < ((((D0 (b+c)) / 2:Nat):Int)+p2) - a then bnd (iL l0 a p2 (((((D0 (b+c)) / 2:Nat):Int)+p2) - a)) fun dY=>dY else l0)=r
 refine IZ (fun i:(List aI)=> [(24,vI (((((D0 (b+c)) / 2:Nat):Int)+p2) - a)),(20,vI a),(18,vI (((D0 (b+c)) / 2:Nat):Int)),(0, .slice h l0.length t),(1,vI b),(3,vI c),(4, .func (.func 166) #[] #[])]) gP ?_ ?_
 by_cases aQ:p2 < ((((D0 (b+c)) / 2:Nat):Int)+p2) - a
 refine jT (dT aQ) (Ib (Mz rfl (Mz rfl (Mz rfl (Mz rfl (Mz rfl ?_))))))
 obtain⟨bG,bH⟩:∃ q,iL l0 a p2 (((((D0 (b+c)) / 2:Nat):Int)+p2) - a)=q:=⟨_,rfl⟩
 obtain⟨kC,dZ,jh,ed,ji⟩:=II Y
 refine cl Tryz.call209 (qL _ _ h l0.length t l0 a p2 (((((D0 (b+c)) / 2:Nat):Int)+p2) - a) bG dZ rfl e6 e6 bH) ?_
 rintro _ kD ⟨rfl,ek,bI⟩
 have dm:=ed _ _ ek
 have jk:=dm.rowC (i:=0) rfl
 replace bI:bG.length=l0.length:=bI
 refine C6 ?_
 have gQ:=dm.pf []
 exact IQ bG ⟨rfl,rfl,rfl,rfl,rfl,rfl,rfl,trivial⟩ (aB.2 ⟨gQ,by first | omega | (simp only [H1] <;> omega) | (simp only [H2]),Eq.trans (if_pos aQ) (ah bH)⟩)
 refine jF (dF aQ) (IE ?_)
 have gT:=Y.pf []
 exact IQ l0 ⟨rfl,rfl,rfl,rfl,rfl,rfl,rfl,trivial⟩ (aB.2 ⟨gT,by first | omega | (simp only [H1] <;> omega) | (simp only [H2]),if_neg aQ⟩)
 rintro r kE eu
 obtain⟨aR,jl,N⟩:=aB.1 eu
 refine Ic (sr (Mz rfl (Mz rfl (Kz (.bool (decide (b < a))) (Mz rfl ?_)))))
 by_cases z:b < a
 refine gw (vI a) (dT z) (Iq rfl) (gw (vI (((D0 (b+c)) / 2:Nat):Int)) (dT z) (Iq rfl) (Gz (.bool (decide (a < (((D0 (b+c)) / 2:Nat):Int)))) (dT z) (fw (.bool (decide (a < (((D0 (b+c)) / 2:Nat):Int)))) (Iw rfl (dT z) rfl) (nt ?_))))
 obtain⟨gU,aC⟩:=nQ fun A w'=>Own w D w' [row h l0.length t (q3 aI.cells A) 153 2]∧A.length=l0.length∧(if a < (((D0 (b+c)) / 2:Nat):Int) then bnd (mW r b a (((D0 (b+c)) / 2:Nat):Int)) fun eB=>eB else r)=A
 refine IZ (fun i:(List aI)=> [(24,vI (((((D0 (b+c)) / 2:Nat):Int)+p2) - a)),(18,vI (((D0 (b+c)) / 2:Nat):Int)),(0, .slice h l0.length t),(3,vI c),(4, .func (.func 166) #[] #[])]) gU ?_ ?_
 by_cases aS:a < (((D0 (b+c)) / 2:Nat):Int)
 refine jT (dT aS) (Ib (Mz rfl (Mz rfl (Mz rfl (Mz rfl (Mz rfl ?_))))))
 obtain⟨bK,bL⟩:∃ q,mW r b a (((D0 (b+c)) / 2:Nat):Int)=q:=⟨_,rfl⟩
 obtain⟨kF,eD,jm,eF,jo⟩:=II aR
 refine cl K0 (self_ _ _ h l0.length t r b a (((D0 (b+c)) / 2:Nat):Int) bK eD f1 e6 e6 e6 bL) ?_
 rintro _ kG ⟨rfl,eG,bM⟩
 have dn:=eF _ _ eG
 have jq:=dn.rowC (i:=0) rfl
 replace bM:bK.length=r.length:=bM
 refine C6 ?_
 have gV:=dn.pf []
 exact IQ bK ⟨rfl,rfl,rfl,rfl,rfl,trivial⟩ (aC.2 ⟨gV,by first | omega | (simp only [H1] <;> omega) | (simp only [H2]),Eq.trans (if_pos aS) (ah bL)⟩)
 refine jF (dF aS) (IE ?_)
 have gW:=aR.pf []
 exact IQ r ⟨rfl,rfl,rfl,rfl,rfl,trivial⟩ (aC.2 ⟨gW,by first | omega | (simp only [H1] <;> omega) | (simp only [H2]),if_neg aS⟩)
 rintro A kH eH
 obtain⟨dw,jr,bO⟩:=aC.1 eH
 refine sr (Mz rfl (Mz rfl (Kz (.bool (decide ((((D0 (b+c)) / 2:Nat):Int) < ((((D0 (b+c)) / 2:Nat):Int)+p2) - a))) (Mz rfl ?_))))
 have O:(decide ((((D0 (b+c)) / 2:Nat):Int) < ((((D0 (b+c)) / 2:Nat):Int)+p2) - a))=true:=(dT e6)
 refine I1 (v:=vI (((((D0 (b+c)) / 2:Nat):Int)+p2) - a)) rfl rfl O rfl (Iq rfl) (I1 (v:=vI c) rfl rfl O rfl (Iq rfl) (Gz (.bool (decide (((((D0 (b+c)) / 2:Nat):Int)+p2) - a < c))) O (fw (.bool (decide (((((D0 (b+c)) / 2:Nat):Int)+p2) - a < c))) (Iw rfl O rfl) (nt ?_))))
 by_cases aT:((((D0 (b+c)) / 2:Nat):Int)+p2) - a < c
 refine jT (dT aT) (Ib (Mz rfl (Mz rfl (Mz rfl (Mz rfl (Mz rfl ?_))))))
 obtain⟨bP,bR⟩:∃ q,mW A (((D0 (b+c)) / 2:Nat):Int) (((((D0 (b+c)) / 2:Nat):Int)+p2) - a) c=q:=⟨_,rfl⟩
 obtain⟨kI,eO,jv,eP,jy⟩:=II dw
 refine cl K0 (self_ _ _ h l0.length t A (((D0 (b+c)) / 2:Nat):Int) (((((D0 (b+c)) / 2:Nat):Int)+p2) - a) c bP eO f1 e6 e6 e6 bR) ?_
 rintro _ kJ ⟨rfl,eQ,bS⟩
 have dx:=eP _ _ eQ
 have jA:=dx.rowC (i:=0) rfl
 replace bS:bP.length=A.length:=bS
 refine C6 (IA (res0 rfl) ?_)
 have gX:=dx.pf []
 obtain rfl:_=bP:=hr.symm.trans (et (iN J) (et (iN S) (et (ah E) (et (ah F) (et (ip u) (et (ah N) (et (ip z) (et (ah bO) (et (ip aT) (ah bR))))))))))
 exact⟨rfl,gX,g5⟩
 refine jF (dF aT) (IE (IA (res0 rfl) ?_))
 have gY:=dw.pf []
 obtain rfl:_=A:=hr.symm.trans (et (iN J) (et (iN S) (et (ah E) (et (ah F) (et (ip u) (et (ah N) (et (ip z) (et (ah bO) (iN aT)))))))))
 exact⟨rfl,gY,g5⟩
 refine Sz (dF z) (Sz (dF z) (Sz (dF z) (fw (.bool false) (Ih rfl (dF z) rfl) (nt (jf (sk (sr (Mz rfl (Mz rfl (Kz (.bool (decide ((((D0 (b+c)) / 2:Nat):Int) < ((((D0 (b+c)) / 2:Nat):Int)+p2) - a))) (Mz rfl ?_)))))))))))
 have P:(decide ((((D0 (b+c)) / 2:Nat):Int) < ((((D0 (b+c)) / 2:Nat):Int)+p2) - a))=true:=(dT e6)
 refine I1 (v:=vI (((((D0 (b+c)) / 2:Nat):Int)+p2) - a)) rfl rfl P rfl (Iq rfl) (I1 (v:=vI c) rfl rfl P rfl (Iq rfl) (Gz (.bool (decide (((((D0 (b+c)) / 2:Nat):Int)+p2) - a < c))) P (fw (.bool (decide (((((D0 (b+c)) / 2:Nat):Int)+p2) - a < c))) (Iw rfl P rfl) (nt ?_))))
 by_cases aU:((((D0 (b+c)) / 2:Nat):Int)+p2) - a < c
 refine jT (dT aU) (Ib (Mz rfl (Mz rfl (Mz rfl (Mz rfl (Mz rfl ?_))))))
 obtain⟨bT,bU⟩:∃ q,mW r (((D0 (b+c)) / 2:Nat):Int) (((((D0 (b+c)) / 2:Nat):Int)+p2) - a) c=q:=⟨_,rfl⟩
 obtain⟨kK,eT,jB,eU,jC⟩:=II aR
 refine cl K0 (self_ _ _ h l0.length t r (((D0 (b+c)) / 2:Nat):Int) (((((D0 (b+c)) / 2:Nat):Int)+p2) - a) c bT eT f1 e6 e6 e6 bU) ?_
 rintro _ kL ⟨rfl,eX,bV⟩
 have dz:=eU _ _ eX
 have jD:=dz.rowC (i:=0) rfl
 replace bV:bT.length=r.length:=bV
 refine C6 (IA (res0 rfl) ?_)
 have gZ:=dz.pf []
 obtain rfl:_=bT:=hr.symm.trans (et (iN J) (et (iN S) (et (ah E) (et (ah F) (et (ip u) (et (ah N) (et (iN z) (et (ip aU) (ah bU)))))))))
 exact⟨rfl,gZ,g5⟩
 refine jF (dF aU) (IE (IA (res0 rfl) ?_))
 have ib:=aR.pf []
 obtain rfl:_=r:=hr.symm.trans (et (iN J) (et (iN S) (et (ah E) (et (ah F) (et (ip u) (et (ah N) (et (iN z) (iN aU))))))))
 exact⟨rfl,ib,g5⟩
 refine Sz (dF u) (Sz (dF u) (Sz (dF u) (fw (.bool false) (Ih rfl (dF u) rfl) (nt (jf (sk (Ic (sr (Mz rfl (Mz rfl (Kz (.bool (decide (b < a))) (Mz rfl ?_))))))))))))
 have Q:(decide (b < a))=true:=(dT e6)
 refine I1 (v:=vI a) rfl rfl Q rfl (Iq rfl) (I1 (v:=vI (((D0 (b+c)) / 2:Nat):Int)) rfl rfl Q rfl (Iq rfl) (Gz (.bool (decide (a < (((D0 (b+c)) / 2:Nat):Int)))) Q (fw (.bool (decide (a < (((D0 (b+c)) / 2:Nat):Int)))) (Iw rfl Q rfl) (nt ?_))))
 obtain⟨ic,aD⟩:=nQ fun ae w'=>Own w D w' [row h l0.length t (q3 aI.cells ae) 153 2]∧ae.length=l0.length∧(if a < (((D0 (b+c)) / 2:Nat):Int) then bnd (mW l0 b a (((D0 (b+c)) / 2:Nat):Int)) fun eY=>eY else l0)=ae
 refine IZ (fun i:(List aI)=> [(24,vI (((((D0 (b+c)) / 2:Nat):Int)+p2) - a)),(18,vI (((D0 (b+c)) / 2:Nat):Int)),(0, .slice h l0.length t),(3,vI c),(4, .func (.func 166) #[] #[])]) ic ?_ ?_
 by_cases aV:a < (((D0 (b+c)) / 2:Nat):Int)
 refine jT (dT aV) (Ib (Mz rfl (Mz rfl (Mz rfl (Mz rfl (Mz rfl ?_))))))
 obtain⟨bW,bX⟩:∃ q,mW l0 b a (((D0 (b+c)) / 2:Nat):Int)=q:=⟨_,rfl⟩
 obtain⟨kM,eZ,jE,fe,jG⟩:=II Y
 refine cl K0 (self_ _ _ h l0.length t l0 b a (((D0 (b+c)) / 2:Nat):Int) bW eZ rfl e6 e6 e6 bX) ?_
 rintro _ kN ⟨rfl,fo,bY⟩
 have dA:=fe _ _ fo
 have jH:=dA.rowC (i:=0) rfl
 replace bY:bW.length=l0.length:=bY
 refine C6 ?_
 have ig:=dA.pf []
 exact IQ bW ⟨rfl,rfl,rfl,rfl,rfl,trivial⟩ (aD.2 ⟨ig,by first | omega | (simp only [H1] <;> omega) | (simp only [H2]),Eq.trans (if_pos aV) (ah bX)⟩)
 refine jF (dF aV) (IE ?_)
 have ik:=Y.pf []
 exact IQ l0 ⟨rfl,rfl,rfl,rfl,rfl,trivial⟩ (aD.2 ⟨ik,by first | omega | (simp only [H1] <;> omega) | (simp only [H2]),if_neg aV⟩)
 rintro ae kP fq
 obtain⟨il,jI,fu⟩:=aD.1 fq
 refine sr (Mz rfl (Mz rfl (Kz (.bool (decide ((((D0 (b+c)) / 2:Nat):Int) < ((((D0 (b+c)) / 2:Nat):Int)+p2) - a))) (Mz rfl ?_))))
 have R:(decide ((((D0 (b+c)) / 2:Nat):Int) < ((((D0 (b+c)) / 2:Nat):Int)+p2) - a))=false:=(dF e6)
 refine Sz R (Sz R (Sz R (fw (.bool false) (Ih rfl R rfl) (nt (jf (IE (IA (res0 rfl) ?_)))))))
 have iq:=il.pf []
 obtain rfl:_=ae:=hr.symm.trans (et (iN J) (et (iN S) (et (ah E) (et (ah F) (et (iN u) (ah fu))))))
 exact⟨rfl,iq,g5⟩
end Go.Proofs.YtbkagebjhbphaaaGreat
