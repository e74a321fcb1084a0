/-
 wire: which messages may be.
-/
import Derived.Test.YtbkagebjhbphaaaGreatRa
namespace Go.Proofs.YtbkagebjhbphaaaGreat
open Int renaming toNat→D2
open IntKind renaming i64→C7,u64→D3
open List renaming drop→r6,flatMap→q6,map→s8,mem_of_getElem?→E0,toArray→y6
open Ll renaming mk→E4
open Sum renaming inl→C1,inr→C3
open _root_.Go.Proofs.Tryz renaming call112→K1,call139→L6,call158→L0,func158→K2,isAgg111→L5,isAgg128→K0,isAgg227→L3,isAgg231→K4,isAgg28→E1,isAgg3→C6,isAgg38→K9,isAgg4→L7,isAgg72→K7,isAgg9→C4,prog→y4,sizeOf128→J9,sizeOf231→K5,sizeOf244→K3,sizeOf38→K8,sizeOf72→K6,underlying3→B4,underlying72→L4,underlying9→B5
open WL renaming nil→D0
open Wp renaming exit→D1,loop→C5
set_option maxRecDepth 100000
open Go.RowKit
set_option linter.unusedVariables false
set_option linter.unusedSectionVars false
set_option linter.unusedSimpArgs false
def pq (a:Int):fQ × Bool:=
 if a≤0 then(fQ.mk 0 0 (E4 ([])),false) else if a ≥ 15 then(fQ.mk 0 0 (E4 ([])),false) else if((D2 a:Nat):Int)=1 then(fQ.mk 2 0 (E4 ([0,1,7])),true) else if((D2 a:Nat):Int)=2 then(fQ.mk 0 2 (E4 ([0,1,2,3])),true) else if((D2 a:Nat):Int)=3 then(fQ.mk 0 1 (E4 ([4,5,6,7])),true) else if((D2 a:Nat):Int)=4 then(fQ.mk 1 0 (E4 ([4,2,3])),true) else if((D2 a:Nat):Int)=5 then(fQ.mk 0 1 (E4 ([4,8])),true) else if((D2 a:Nat):Int)=6 then(fQ.mk 1 0 (E4 ([4])),true) else if((D2 a:Nat):Int)=7 then(fQ.mk 1 0 (E4 ([4])),true) else if((D2 a:Nat):Int)=8 then(fQ.mk 0 1 (E4 ([9,6,10,11])),true) else if((D2 a:Nat):Int)=9 then(fQ.mk 1 0 (E4 ([9])),true) else if((D2 a:Nat):Int)=10 then(fQ.mk 0 1 (E4 ([9,10,12,8,13])),true) else if((D2 a:Nat):Int)=11 then(fQ.mk 1 1 (E4 ([10,14,15,13,7])),true) else if((D2 a:Nat):Int)=12 then(fQ.mk 1 1 (E4 ([10,14,15])),true) else if((D2 a:Nat):Int)=13 then(fQ.mk 1 0 (E4 ([10])),true) else(fQ.mk 1 0 (E4 ([10])),true)
theorem wH (w:World) (D:Nat→Prop) (c:Int) (r0:fQ) (r1:Bool) (H:Own w D w []) (hr:pq c=(r0,r1)):
    Calls y4 49 #[vI c] w (dS fun v w'=> ∃ (O:Option Addr) (P:Nat),v= .tuple #[.agg #[vI r0.lS,vI r0.oo, .slice O r0.dh.ls.length P], .bool r1]∧Own w D w' [row O r0.dh.ls.length P (q6 (eI .i64) r0.dh.ls) 154 1]∧(r0.dh.ls.length≤5)):=by
 refine cb Tryz.func49 ?_
 refine sr ?_
 refine dK [vI 0,vI 0, .slice none 0 0] 128 H ?_
 intro cu cz bu
 refine Ar rfl ?_
 refine kG [vI 0,vI 1,vI 7] 154 1 3 bu ?_
 intro s cB ag
 replace ag:=Fx (y:=row s 3 3 (q6 (eI .i64) ([0,1,7])) 154 1) rfl ag
 refine Kz (.agg #[vI 2,vI 0, .slice s 3 3]) ?_
 refine kG [vI 0,vI 1,vI 2,vI 3] 154 1 4 ag ?_
 intro t cK ah
 replace ah:=Fx (y:=row t 4 4 (q6 (eI .i64) ([0,1,2,3])) 154 1) rfl ah
 refine Kz (.agg #[vI 0,vI 2, .slice t 4 4]) ?_
 refine kG [vI 4,vI 5,vI 6,vI 7] 154 1 4 ah ?_
 intro u cO ai
 replace ai:=Fx (y:=row u 4 4 (q6 (eI .i64) ([4,5,6,7])) 154 1) rfl ai
 refine Kz (.agg #[vI 0,vI 1, .slice u 4 4]) ?_
 refine kG [vI 4,vI 2,vI 3] 154 1 3 ai ?_
 intro x cZ aj
 replace aj:=Fx (y:=row x 3 3 (q6 (eI .i64) ([4,2,3])) 154 1) rfl aj
 refine Kz (.agg #[vI 1,vI 0, .slice x 3 3]) ?_
 refine kG [vI 4,vI 8] 154 1 2 aj ?_
 intro z df ak
 replace ak:=Fx (y:=row z 2 2 (q6 (eI .i64) ([4,8])) 154 1) rfl ak
 refine Kz (.agg #[vI 0,vI 1, .slice z 2 2]) ?_
 refine kG [vI 4] 154 1 1 ak ?_
 intro A dh au
 replace au:=Fx (y:=row A 1 1 (q6 (eI .i64) ([4])) 154 1) rfl au
 refine Kz (.agg #[vI 1,vI 0, .slice A 1 1]) ?_
 refine kG [vI 4] 154 1 1 au ?_
 intro B di av
 replace av:=Fx (y:=row B 1 1 (q6 (eI .i64) ([4])) 154 1) rfl av
 refine Kz (.agg #[vI 1,vI 0, .slice B 1 1]) ?_
 refine kG [vI 9,vI 6,vI 10,vI 11] 154 1 4 av ?_
 intro C dm ax
 replace ax:=Fx (y:=row C 4 4 (q6 (eI .i64) ([9,6,10,11])) 154 1) rfl ax
 refine Kz (.agg #[vI 0,vI 1, .slice C 4 4]) ?_
 refine kG [vI 9] 154 1 1 ax ?_
 intro E dn ay
 replace ay:=Fx (y:=row E 1 1 (q6 (eI .i64) ([9])) 154 1) rfl ay
 refine Kz (.agg #[vI 1,vI 0, .slice E 1 1]) ?_
 refine kG [vI 9,vI 10,vI 12,vI 8,vI 13] 154 1 5 ay ?_
 intro F dw az
 replace az:=Fx (y:=row F 5 5 (q6 (eI .i64) ([9,10,12,8,13])) 154 1) rfl az
 refine Kz (.agg #[vI 0,vI 1, .slice F 5 5]) ?_
 refine kG [vI 10,vI 14,vI 15,vI 13,vI 7] 154 1 5 az ?_
 intro G dx aA
 replace aA:=Fx (y:=row G 5 5 (q6 (eI .i64) ([10,14,15,13,7])) 154 1) rfl aA
 refine Kz (.agg #[vI 1,vI 1, .slice G 5 5]) ?_
 refine kG [vI 10,vI 14,vI 15] 154 1 3 aA ?_
 intro I dz aB
 replace aB:=Fx (y:=row I 3 3 (q6 (eI .i64) ([10,14,15])) 154 1) rfl aB
 refine Kz (.agg #[vI 1,vI 1, .slice I 3 3]) ?_
 refine kG [vI 10] 154 1 1 aB ?_
 intro J dA aC
 replace aC:=Fx (y:=row J 1 1 (q6 (eI .i64) ([10])) 154 1) rfl aC
 refine Kz (.agg #[vI 1,vI 0, .slice J 1 1]) ?_
 refine kG [vI 10] 154 1 1 aC ?_
 intro K dB aD
 replace aD:=Fx (y:=row K 1 1 (q6 (eI .i64) ([10])) 154 1) rfl aD
 refine Kz (.agg #[vI 1,vI 0, .slice K 1 1]) (Kz (.agg #[vI 0,vI 0, .slice none 0 0,vI 2,vI 0, .slice s 3 3,vI 0,vI 2, .slice t 4 4,vI 0,vI 1, .slice u 4 4,vI 1,vI 0, .slice x 3 3,vI 0,vI 1, .slice z 2 2,vI 1,vI 0, .slice A 1 1,vI 1,vI 0, .slice B 1 1,vI 0,vI 1, .slice C 4 4,vI 1,vI 0, .slice E 1 1,vI 0,vI 1, .slice F 5 5,vI 1,vI 1, .slice G 5 5,vI 1,vI 1, .slice I 3 3,vI 1,vI 0, .slice J 1 1,vI 1,vI 0, .slice K 1 1]) ?_)
 refine dK [vI 0,vI 0, .slice none 0 0,vI 0,vI 0, .slice none 0 0,vI 0,vI 0, .slice none 0 0,vI 0,vI 0, .slice none 0 0,vI 0,vI 0, .slice none 0 0,vI 0,vI 0, .slice none 0 0,vI 0,vI 0, .slice none 0 0,vI 0,vI 0, .slice none 0 0,vI 0,vI 0, .slice none 0 0,vI 0,vI 0, .slice none 0 0,vI 0,vI 0, .slice none 0 0,vI 0,vI 0, .slice none 0 0,vI 0,vI 0, .slice none 0 0,vI 0,vI 0, .slice none 0 0,vI 0,vI 0, .slice none 0 0] 155 aD ?_
 intro g dC bv
 refine dN [vI 0,vI 0, .slice none 0 0,vI 2,vI 0, .slice s 3 3,vI 0,vI 2, .slice t 4 4,vI 0,vI 1, .slice u 4 4,vI 1,vI 0, .slice x 3 3,vI 0,vI 1, .slice z 2 2,vI 1,vI 0, .slice A 1 1,vI 1,vI 0, .slice B 1 1,vI 0,vI 1, .slice C 4 4,vI 1,vI 0, .slice E 1 1,vI 0,vI 1, .slice F 5 5,vI 1,vI 1, .slice G 5 5,vI 1,vI 1, .slice I 3 3,vI 1,vI 0, .slice J 1 1,vI 1,vI 0, .slice K 1 1] 0 bv Tryz.sizeOf155 ?_
 intro dD a
 refine nt (EP (sr (Mz rfl (Kz (.bool (decide (c≤0))) (Mz rfl ?_)))))
 by_cases b:c≤0
 refine Sz (dT b) (Sz (dT b) (fw (.bool true) (Fa rfl (dT b) rfl) (nt (jt (sr (Kz (.agg #[vI 0,vI 0, .slice none 0 0]) ?_))))))
 have bz:=a.pf [15]
 refine dN [vI 0,vI 0, .slice none 0 0] 0 bz J9 ?_
 intro bA aF
 refine An rfl (rt (tR (Fin.res (ku (vs:= [.agg #[vI 0,vI 0, .slice none 0 0], .bool false]) rfl (dR.cell rfl (Fb (cs:= [vI 0,vI 0, .slice none 0 0]) K0 J9 ((aF.cls (i:=0) rfl).lit (k:=0) (m:=3) rfl)) (dR.tmp rfl dR.nil)) (IQ rfl)) ?_)))
 have bB:Own w D bA (row none 0 0 (q6 (eI .i64) ([])) 154 1::_):=aF.free (eZ 154 1)
 have bC:=bB.pk [0]
 obtain⟨rfl,rfl⟩:=fT (hr.symm.trans (show _=(fQ.mk 0 0 (E4 ([])),false) from ip b))
 exact⟨none,0,rfl,bC,i0⟩
 refine gw (vI c) (dF b) (E5 rfl) (Gz (.bool (decide (c ≥ 15))) (dF b) (fw (.bool (decide (c ≥ 15))) (ES rfl (dF b) rfl) (nt ?_)))
 by_cases d:c ≥ 15
 refine jT (dT d) (sr (Kz (.agg #[vI 0,vI 0, .slice none 0 0]) ?_))
 have bD:=a.pf [15]
 refine dN [vI 0,vI 0, .slice none 0 0] 0 bD J9 ?_
 intro bE aG
 refine An rfl (rt (tR (Fin.res (ku (vs:= [.agg #[vI 0,vI 0, .slice none 0 0], .bool false]) rfl (dR.cell rfl (Fb (cs:= [vI 0,vI 0, .slice none 0 0]) K0 J9 ((aG.cls (i:=0) rfl).lit (k:=0) (m:=3) rfl)) (dR.tmp rfl dR.nil)) (IQ rfl)) ?_)))
 have bF:Own w D bE (row none 0 0 (q6 (eI .i64) ([])) 154 1::_):=aG.free (eZ 154 1)
 have bG:=bF.pk [0]
 obtain⟨rfl,rfl⟩:=fT (hr.symm.trans (show _=(fQ.mk 0 0 (E4 ([])),false) from et (iN b) (ip d)))
 exact⟨none,0,rfl,bG,i0⟩
 refine jF (dF d) (sk (sr (fw (vJ (D2 c)) (EQ (e:=c) (E5 rfl) e6) ?_)))
 by_cases h:((D2 c:Nat):Int)=1
 refine fw (vP g 3) (by(try unfold vJ); rw [show ((D2 c:Nat):Int)=1 from by omega]; exact yk) (La ([vI 2,vI 0, .slice s 3 3]) a 0 K0 J9 ?_)
 have bH:=a.pf [15]
 refine dN [vI 2,vI 0, .slice s 3 3] 0 bH J9 ?_
 intro dE aH
 refine An rfl (rt (Fin.res (ku (vs:= [.agg #[vI 2,vI 0, .slice s 3 3], .bool true]) rfl (dR.cell rfl (Fb (cs:= [vI 2,vI 0, .slice s 3 3]) K0 J9 ((aH.cls (i:=0) rfl).lit (k:=0) (m:=3) rfl)) (dR.tmp rfl dR.nil)) (IQ rfl)) ?_))
 have bI:=aH.pk [15]
 obtain⟨rfl,rfl⟩:=fT (hr.symm.trans (show _=(fQ.mk 2 0 (E4 ([0,1,7])),true) from et (iN b) (et (iN d) (ip h))))
 exact⟨s,3,rfl,bI,i0⟩
 by_cases l:((D2 c:Nat):Int)=2
 refine fw (vP g 6) (by(try unfold vJ); rw [show ((D2 c:Nat):Int)=2 from by omega]; exact yk) (La ([vI 0,vI 2, .slice t 4 4]) a 0 K0 J9 ?_)
 have bJ:=a.pf [15]
 refine dN [vI 0,vI 2, .slice t 4 4] 0 bJ J9 ?_
 intro dG aI
 refine An rfl (rt (Fin.res (ku (vs:= [.agg #[vI 0,vI 2, .slice t 4 4], .bool true]) rfl (dR.cell rfl (Fb (cs:= [vI 0,vI 2, .slice t 4 4]) K0 J9 ((aI.cls (i:=0) rfl).lit (k:=0) (m:=3) rfl)) (dR.tmp rfl dR.nil)) (IQ rfl)) ?_))
 have bK:=aI.pk [14]
 obtain⟨rfl,rfl⟩:=fT (hr.symm.trans (show _=(fQ.mk 0 2 (E4 ([0,1,2,3])),true) from et (iN b) (et (iN d) (et (iN h) (ip l)))))
 exact⟨t,4,rfl,bK,i0⟩
 by_cases o:((D2 c:Nat):Int)=3
 refine fw (vP g 9) (by(try unfold vJ); rw [show ((D2 c:Nat):Int)=3 from by omega]; exact yk) (La ([vI 0,vI 1, .slice u 4 4]) a 0 K0 J9 ?_)
 have bL:=a.pf [15]
 refine dN [vI 0,vI 1, .slice u 4 4] 0 bL J9 ?_
 intro dH aJ
 refine An rfl (rt (Fin.res (ku (vs:= [.agg #[vI 0,vI 1, .slice u 4 4], .bool true]) rfl (dR.cell rfl (Fb (cs:= [vI 0,vI 1, .slice u 4 4]) K0 J9 ((aJ.cls (i:=0) rfl).lit (k:=0) (m:=3) rfl)) (dR.tmp rfl dR.nil)) (IQ rfl)) ?_))
 have bM:=aJ.pk [13]
 obtain⟨rfl,rfl⟩:=fT (hr.symm.trans (show _=(fQ.mk 0 1 (E4 ([4,5,6,7])),true) from et (iN b) (et (iN d) (et (iN h) (et (iN l) (ip o))))))
 exact⟨u,4,rfl,bM,i0⟩
 by_cases p:((D2 c:Nat):Int)=4
 refine fw (vP g 12) (by(try unfold vJ); rw [show ((D2 c:Nat):Int)=4 from by omega]; exact yk) (La ([vI 1,vI 0, .slice x 3 3]) a 0 K0 J9 ?_)
 have bN:=a.pf [15]
 refine dN [vI 1,vI 0, .slice x 3 3] 0 bN J9 ?_
 intro bP Q
 refine An rfl (rt (Fin.res (ku (vs:= [.agg #[vI 1,vI 0, .slice x 3 3], .bool true]) rfl (dR.cell rfl (Fb (cs:= [vI 1,vI 0, .slice x 3 3]) K0 J9 ((Q.cls (i:=0) rfl).lit (k:=0) (m:=3) rfl)) (dR.tmp rfl dR.nil)) (IQ rfl)) ?_))
 have aK:=Q.pk [12]
 obtain⟨rfl,rfl⟩:=fT (hr.symm.trans (show _=(fQ.mk 1 0 (E4 ([4,2,3])),true) from et (iN b) (et (iN d) (et (iN h) (et (iN l) (et (iN o) (ip p)))))))
 exact⟨x,3,rfl,aK,i0⟩
 by_cases f:((D2 c:Nat):Int)=5
 refine fw (vP g 15) (by(try unfold vJ); rw [show ((D2 c:Nat):Int)=5 from by omega]; exact yk) (La ([vI 0,vI 1, .slice z 2 2]) a 0 K0 J9 ?_)
 have aL:=a.pf [15]
 refine dN [vI 0,vI 1, .slice z 2 2] 0 aL J9 ?_
 intro bQ R
 refine An rfl (rt (Fin.res (ku (vs:= [.agg #[vI 0,vI 1, .slice z 2 2], .bool true]) rfl (dR.cell rfl (Fb (cs:= [vI 0,vI 1, .slice z 2 2]) K0 J9 ((R.cls (i:=0) rfl).lit (k:=0) (m:=3) rfl)) (dR.tmp rfl dR.nil)) (IQ rfl)) ?_))
 have aM:=R.pk [11]
 obtain⟨rfl,rfl⟩:=fT (hr.symm.trans (show _=(fQ.mk 0 1 (E4 ([4,8])),true) from et (iN b) (et (iN d) (et (iN h) (et (iN l) (et (iN o) (et (iN p) (ip f))))))))
 exact⟨z,2,rfl,aM,i0⟩
 by_cases j:((D2 c:Nat):Int)=6
 refine fw (vP g 18) (by(try unfold vJ); rw [show ((D2 c:Nat):Int)=6 from by omega]; exact yk) (La ([vI 1,vI 0, .slice A 1 1]) a 0 K0 J9 ?_)
 have aN:=a.pf [15]
 refine dN [vI 1,vI 0, .slice A 1 1] 0 aN J9 ?_
 intro bR S
 refine An rfl (rt (Fin.res (ku (vs:= [.agg #[vI 1,vI 0, .slice A 1 1], .bool true]) rfl (dR.cell rfl (Fb (cs:= [vI 1,vI 0, .slice A 1 1]) K0 J9 ((S.cls (i:=0) rfl).lit (k:=0) (m:=3) rfl)) (dR.tmp rfl dR.nil)) (IQ rfl)) ?_))
 have aO:=S.pk [10]
 obtain⟨rfl,rfl⟩:=fT (hr.symm.trans (show _=(fQ.mk 1 0 (E4 ([4])),true) from et (iN b) (et (iN d) (et (iN h) (et (iN l) (et (iN o) (et (iN p) (et (iN f) (ip j)))))))))
 exact⟨A,1,rfl,aO,i0⟩
 by_cases n:((D2 c:Nat):Int)=7
 refine fw (vP g 21) (by(try unfold vJ); rw [show ((D2 c:Nat):Int)=7 from by omega]; exact yk) (La ([vI 1,vI 0, .slice B 1 1]) a 0 K0 J9 ?_)
 have aP:=a.pf [15]
 refine dN [vI 1,vI 0, .slice B 1 1] 0 aP J9 ?_
 intro bS T
 refine An rfl (rt (Fin.res (ku (vs:= [.agg #[vI 1,vI 0, .slice B 1 1], .bool true]) rfl (dR.cell rfl (Fb (cs:= [vI 1,vI 0, .slice B 1 1]) K0 J9 ((T.cls (i:=0) rfl).lit (k:=0) (m:=3) rfl)) (dR.tmp rfl dR.nil)) (IQ rfl)) ?_))
 have aQ:=T.pk [9]
 obtain⟨rfl,rfl⟩:=fT (hr.symm.trans (show _=(fQ.mk 1 0 (E4 ([4])),true) from et (iN b) (et (iN d) (et (iN h) (et (iN l) (et (iN o) (et (iN p) (et (iN f) (et (iN j) (ip n))))))))))
 exact⟨B,1,rfl,aQ,i0⟩
 by_cases q:((D2 c:Nat):Int)=8
 refine fw (vP g 24) (by(try unfold vJ); rw [show ((D2 c:Nat):Int)=8 from by omega]; exact yk) (La ([vI 0,vI 1, .slice C 4 4]) a 0 K0 J9 ?_)
 have aR:=a.pf [15]
 refine dN [vI 0,vI 1, .slice C 4 4] 0 aR J9 ?_
 intro bT U
 refine An rfl (rt (Fin.res (ku (vs:= [.agg #[vI 0,vI 1, .slice C 4 4], .bool true]) rfl (dR.cell rfl (Fb (cs:= [vI 0,vI 1, .slice C 4 4]) K0 J9 ((U.cls (i:=0) rfl).lit (k:=0) (m:=3) rfl)) (dR.tmp rfl dR.nil)) (IQ rfl)) ?_))
 have aS:=U.pk [8]
 obtain⟨rfl,rfl⟩:=fT (hr.symm.trans (show _=(fQ.mk 0 1 (E4 ([9,6,10,11])),true) from et (iN b) (et (iN d) (et (iN h) (et (iN l) (et (iN o) (et (iN p) (et (iN f) (et (iN j) (et (iN n) (ip q)))))))))))
 exact⟨C,4,rfl,aS,i0⟩
 by_cases r:((D2 c:Nat):Int)=9
 refine fw (vP g 27) (by(try unfold vJ); rw [show ((D2 c:Nat):Int)=9 from by omega]; exact yk) (La ([vI 1,vI 0, .slice E 1 1]) a 0 K0 J9 ?_)
 have aT:=a.pf [15]
 refine dN [vI 1,vI 0, .slice E 1 1] 0 aT J9 ?_
 intro bU V
 refine An rfl (rt (Fin.res (ku (vs:= [.agg #[vI 1,vI 0, .slice E 1 1], .bool true]) rfl (dR.cell rfl (Fb (cs:= [vI 1,vI 0, .slice E 1 1]) K0 J9 ((V.cls (i:=0) rfl).lit (k:=0) (m:=3) rfl)) (dR.tmp rfl dR.nil)) (IQ rfl)) ?_))
 have aU:=V.pk [7]
 obtain⟨rfl,rfl⟩:=fT (hr.symm.trans (show _=(fQ.mk 1 0 (E4 ([9])),true) from et (iN b) (et (iN d) (et (iN h) (et (iN l) (et (iN o) (et (iN p) (et (iN f) (et (iN j) (et (iN n) (et (iN q) (ip r))))))))))))
 exact⟨E,1,rfl,aU,i0⟩
 by_cases L:((D2 c:Nat):Int)=10
 refine fw (vP g 30) (by(try unfold vJ); rw [show ((D2 c:Nat):Int)=10 from by omega]; exact yk) (La ([vI 0,vI 1, .slice F 5 5]) a 0 K0 J9 ?_)
 have aV:=a.pf [15]
 refine dN [vI 0,vI 1, .slice F 5 5] 0 aV J9 ?_
 intro bV W
 refine An rfl (rt (Fin.res (ku (vs:= [.agg #[vI 0,vI 1, .slice F 5 5], .bool true]) rfl (dR.cell rfl (Fb (cs:= [vI 0,vI 1, .slice F 5 5]) K0 J9 ((W.cls (i:=0) rfl).lit (k:=0) (m:=3) rfl)) (dR.tmp rfl dR.nil)) (IQ rfl)) ?_))
 have aW:=W.pk [6]
 obtain⟨rfl,rfl⟩:=fT (hr.symm.trans (show _=(fQ.mk 0 1 (E4 ([9,10,12,8,13])),true) from et (iN b) (et (iN d) (et (iN h) (et (iN l) (et (iN o) (et (iN p) (et (iN f) (et (iN j) (et (iN n) (et (iN q) (et (iN r) (ip L)))))))))))))
 exact⟨F,5,rfl,aW,i0⟩
 by_cases M:((D2 c:Nat):Int)=11
 refine fw (vP g 33) (by(try unfold vJ); rw [show ((D2 c:Nat):Int)=11 from by omega]; exact yk) (La ([vI 1,vI 1, .slice G 5 5]) a 0 K0 J9 ?_)
 have aX:=a.pf [15]
 refine dN [vI 1,vI 1, .slice G 5 5] 0 aX J9 ?_
 intro bW X
 refine An rfl (rt (Fin.res (ku (vs:= [.agg #[vI 1,vI 1, .slice G 5 5], .bool true]) rfl (dR.cell rfl (Fb (cs:= [vI 1,vI 1, .slice G 5 5]) K0 J9 ((X.cls (i:=0) rfl).lit (k:=0) (m:=3) rfl)) (dR.tmp rfl dR.nil)) (IQ rfl)) ?_))
 have aY:=X.pk [5]
 obtain⟨rfl,rfl⟩:=fT (hr.symm.trans (show _=(fQ.mk 1 1 (E4 ([10,14,15,13,7])),true) from et (iN b) (et (iN d) (et (iN h) (et (iN l) (et (iN o) (et (iN p) (et (iN f) (et (iN j) (et (iN n) (et (iN q) (et (iN r) (et (iN L) (ip M))))))))))))))
 exact⟨G,5,rfl,aY,i0⟩
 by_cases N:((D2 c:Nat):Int)=12
 refine fw (vP g 36) (by(try unfold vJ); rw [show ((D2 c:Nat):Int)=12 from by omega]; exact yk) (La ([vI 1,vI 1, .slice I 3 3]) a 0 K0 J9 ?_)
 have aZ:=a.pf [15]
 refine dN [vI 1,vI 1, .slice I 3 3] 0 aZ J9 ?_
 intro bX Y
 refine An rfl (rt (Fin.res (ku (vs:= [.agg #[vI 1,vI 1, .slice I 3 3], .bool true]) rfl (dR.cell rfl (Fb (cs:= [vI 1,vI 1, .slice I 3 3]) K0 J9 ((Y.cls (i:=0) rfl).lit (k:=0) (m:=3) rfl)) (dR.tmp rfl dR.nil)) (IQ rfl)) ?_))
 have bf:=Y.pk [4]
 obtain⟨rfl,rfl⟩:=fT (hr.symm.trans (show _=(fQ.mk 1 1 (E4 ([10,14,15])),true) from et (iN b) (et (iN d) (et (iN h) (et (iN l) (et (iN o) (et (iN p) (et (iN f) (et (iN j) (et (iN n) (et (iN q) (et (iN r) (et (iN L) (et (iN M) (ip N)))))))))))))))
 exact⟨I,3,rfl,bf,i0⟩
 by_cases Z:((D2 c:Nat):Int)=13
 refine fw (vP g 39) (by(try unfold vJ); rw [show ((D2 c:Nat):Int)=13 from by omega]; exact yk) (La ([vI 1,vI 0, .slice J 1 1]) a 0 K0 J9 ?_)
 have bg:=a.pf [15]
 refine dN [vI 1,vI 0, .slice J 1 1] 0 bg J9 ?_
 intro bY aa
 refine An rfl (rt (Fin.res (ku (vs:= [.agg #[vI 1,vI 0, .slice J 1 1], .bool true]) rfl (dR.cell rfl (Fb (cs:= [vI 1,vI 0, .slice J 1 1]) K0 J9 ((aa.cls (i:=0) rfl).lit (k:=0) (m:=3) rfl)) (dR.tmp rfl dR.nil)) (IQ rfl)) ?_))
 have bi:=aa.pk [3]
 obtain⟨rfl,rfl⟩:=fT (hr.symm.trans (show _=(fQ.mk 1 0 (E4 ([10])),true) from et (iN b) (et (iN d) (et (iN h) (et (iN l) (et (iN o) (et (iN p) (et (iN f) (et (iN j) (et (iN n) (et (iN q) (et (iN r) (et (iN L) (et (iN M) (et (iN N) (ip Z))))))))))))))))
 exact⟨J,1,rfl,bi,i0⟩
 refine fw (vP g 42) (by(try unfold vJ); rw [show ((D2 c:Nat):Int)=14 from by omega]; exact yk) (La ([vI 1,vI 0, .slice K 1 1]) a 0 K0 J9 ?_)
 have bn:=a.pf [15]
 refine dN [vI 1,vI 0, .slice K 1 1] 0 bn J9 ?_
 intro bZ ae
 refine An rfl (rt (Fin.res (ku (vs:= [.agg #[vI 1,vI 0, .slice K 1 1], .bool true]) rfl (dR.cell rfl (Fb (cs:= [vI 1,vI 0, .slice K 1 1]) K0 J9 ((ae.cls (i:=0) rfl).lit (k:=0) (m:=3) rfl)) (dR.tmp rfl dR.nil)) (IQ rfl)) ?_))
 have bq:=ae.pk [2]
 obtain⟨rfl,rfl⟩:=fT (hr.symm.trans (show _=(fQ.mk 1 0 (E4 ([10])),true) from et (iN b) (et (iN d) (et (iN h) (et (iN l) (et (iN o) (et (iN p) (et (iN f) (et (iN j) (et (iN n) (et (iN q) (et (iN r) (et (iN L) (et (iN M) (et (iN N) (iN Z))))))))))))))))
 exact⟨K,1,rfl,bq,i0⟩
def rV (b:Int) (a:Int):Bool:=
 if b=2 then if a=1 then true else decide (a=2) else if a=3 then true else if a=4 then true else decide (a=5)
theorem wZ (w:World) (D:Nat→Prop) (f:Int) (b:Int) (l:Bool) (H:Own w D w []) (hr:rV f b=l):
    Calls y4 113 #[vI f,vI b] w (dS fun v w'=>v= .bool l∧Own w D w' []):=by
 refine cb Tryz.func113 ?_
 refine sr (An rfl (EP (sr (Mz rfl (Kz (.bool (decide (f=2))) (nt ?_))))))
 by_cases e:f=2
 refine jT (dT e) (sr (Mz rfl (Kz (.bool (decide (b=1))) (Mz rfl ?_))))
 by_cases c:b=1
 refine Sz (dT c) (Sz (dT c) (fw (.bool true) (Fa rfl (dT c) rfl) (An rfl (rt (tR (rs ?_))))))
 have g:=H.pk []
 obtain rfl:_=true:=hr.symm.trans (et (ip e) (ip c))
 exact⟨rfl,g⟩
 refine gw (vI b) (dF c) (E5 rfl) (Gz (.bool (decide (b=2))) (dF c) (fw (.bool (decide (b=2))) (ES rfl (dF c) rfl) (An rfl (rt (tR (rs ?_))))))
 have h:=H.pk []
 obtain rfl:_=decide (b=2):=hr.symm.trans (et (ip e) (iN c))
 exact⟨rfl,h⟩
 refine jF (dF e) (sk (sr (Mz rfl (Kz (.bool (decide (b=3))) (Mz rfl ?_)))))
 by_cases a:b=3
 refine Sz (dT a) (Sz (dT a) (fw (.bool true) (Fa rfl (dT a) rfl) (Mz rfl (Sz rfl (Sz rfl (fw (.bool true) (Fa rfl rfl rfl) (An rfl (rt (rs ?_)))))))))
 have i:=H.pk []
 obtain rfl:_=true:=hr.symm.trans (et (iN e) (ip a))
 exact⟨rfl,i⟩
 refine gw (vI b) (dF a) (E5 rfl) (Gz (.bool (decide (b=4))) (dF a) (fw (.bool (decide (b=4))) (ES rfl (dF a) rfl) (Mz rfl ?_)))
 by_cases d:b=4
 refine Sz (dT d) (Sz (dT d) (fw (.bool true) (Fa rfl (dT d) rfl) (An rfl (rt (rs ?_)))))
 have j:=H.pk []
 obtain rfl:_=true:=hr.symm.trans (et (iN e) (et (iN a) (ip d)))
 exact⟨rfl,j⟩
 refine gw (vI b) (dF d) (E5 rfl) (Gz (.bool (decide (b=5))) (dF d) (fw (.bool (decide (b=5))) (ES rfl (dF d) rfl) (An rfl (rt (rs ?_)))))
 have k:=H.pk []
 obtain rfl:_=decide (b=5):=hr.symm.trans (et (iN e) (et (iN a) (iN d)))
 exact⟨rfl,k⟩
def gW:List aJ→Unit ⊕ Bool
  | []=>C1 ()
  | a::c=>bnd (gu a.bY) fun b=>if b=0 then if((a.aU.length:Nat):Int) > 16 then C3 (false) else gW c else C3 (false)
def gK:List aX→Unit ⊕ Bool
  | []=>C1 ()
  | a::b=>if((a.aU.length:Nat):Int) > 16 then C3 (false) else if((a.au.ls.length:Nat):Int) > 4 then C3 (false) else qQ (gW a.au.ls) fun _=>gK b
def om (a:Int) (l1:List aX):Bool:=
 bnd (if a=2 then 4 else 24) fun sJrJ=>if((l1.length:Nat):Int) > ((sJrJ:Nat):Int) then false else lp (gK l1) fun _=>true
theorem uX (w:World) (D:Nat→Prop) (S:Int) (r:Option Addr) (n1 Q:Nat) (d1:List af) (l1:List aX) (r0:Bool) (H:Own w D w []) (T:s8 af.abs d1=l1) (R:Ro w D fun w'=>bD w' 3 r n1 (q6 af.cells d1)) (J:∀ x ∈ d1,Ro w D (fun w'=>bD w' 2 x.au.A x.au.ls.length (q6 aJ.cells x.au.ls))∧(x.au.ls.length≤x.au.c∧x.au.ls.length≤9223372036854775807)) (aB:n1=l1.length) (bu:l1.length≤9223372036854775807) (hr:om S l1=r0):
    Calls y4 114 #[vI S, .slice r n1 Q] w (dS fun v w'=>v= .bool r0∧Own w D w' []):=by
 subst aB
 have aV:=az T
 refine cb Tryz.func114 ?_
 refine sr (Ar rfl (An rfl (EP (sr (Mz rfl (Kz (.bool (decide (S=2))) (nt ?_)))))))
 obtain⟨aC,B⟩:=lK fun(n:Nat) (w':World)=>Own w D w' []∧n≤9223372036854775807∧n ≥ 4∧n≤24∧(if S=2 then 4 else 24)=n
 refine FK (fun i:Nat=> [(5,vJ i),(4, .bool false),(1, .slice r l1.length Q)]) aC ?_ ?_
 by_cases K:S=2
 refine jT (dT K) (EO (Az rfl (D0 ?_)))
 have aD:=H.pk []
 exact FD 4 ⟨rfl,rfl,rfl,trivial⟩ (B.2 ⟨aD,e6,e6,e6,ip K⟩)
 refine jF (dF K) (Fq ?_)
 have aF:=H.pk []
 exact FD 24 ⟨rfl,rfl,rfl,trivial⟩ (B.2 ⟨aF,e6,e6,e6,iN K⟩)
 rintro n bv U
 obtain⟨V,aW,aY,aZ,k⟩:=B.1 U
 refine EP (sr (Mz rfl (Kz (vJ l1.length) (Mz rfl (Kz (.bool (decide (((l1.length:Nat):Int) > ((n:Nat):Int)))) (nt ?_))))))
 by_cases o:((l1.length:Nat):Int) > ((n:Nat):Int)
 refine jT (dT o) (sr (An rfl (rt (tR (rs ?_)))))
 have aG:=V.pk []
 obtain rfl:_=false:=hr.symm.trans (et (ah k) (ip o))
 exact⟨rfl,aG⟩
 refine jF (dF o) (sk (EP (sr (Mz rfl (Kz (vJ l1.length) (Mn rfl (bo ?_)))))))
 have aH:=V.pk []
 obtain⟨aI,C⟩:=lK fun(b:Nat) (w':World)=>Own w D w' []∧b≤l1.length∧gK l1=gK (r6 b l1)
 refine C5 (fun i:Nat=> [(4, .bool false),(18,vJ i),(17,vJ l1.length),(16, .slice r l1.length Q)]) aI (fun i=>l1.length - i) 0 ⟨rfl,rfl,rfl,rfl,trivial⟩ (C.2 ⟨aH,e6,rfl⟩) ?_
 rintro b bz W
 obtain⟨E,bf,l⟩:=C.1 W
 refine sr (Kz (.bool (decide (((b:Nat):Int) < ((l1.length:Nat):Int)))) (nt (EP ?_)))
 by_cases X:((b:Nat):Int) < ((l1.length:Nat):Int)
 obtain⟨a,m⟩:=dG (ls:=d1) (i:=b) af.len f3 (E.ro R) e9
 have Y:=eP T m
 have bg:=(J _ (E0 m)).2
 have p:=drop_at Y
 refine jT (dT X) (sk (EP (bo (sr (fw (.pointer (some ⟨ab r,ao r+b *3,none⟩)) (ET (rf) rfl rfl ((E.ro R).addr (i:=b) e6) e6) (fw (.agg (af.cells a).toArray) (EY rfl (Fb (cs:=(af.cells a)) Tryz.isAgg149 Tryz.sizeOf149 ((E.ro R).elem af.len m f3))) ?_))))))
 refine dK [.bool false, .string ⟨y6 ([])⟩, .slice none 0 0] 149 E ?_
 intro j bA aK
 refine dN (af.cells a) 0 aK Tryz.sizeOf149 ?_
 intro bB u
 refine nt (EP (sr (Kz (vP j 1) (Lz (.string ⟨y6 a.aU⟩) u 0 C4 (Kz (vJ a.aU.length) (Kz (.bool (decide (((a.aU.length:Nat):Int) > 16))) (Mz rfl ?_)))))))
 by_cases d:((a.aU.length:Nat):Int) > 16
 refine Sz (dT d) (Sz (dT d) (Sz (dT d) (Sz (dT d) (fw (.bool true) (Fa rfl (dT d) rfl) (nt (jt (sr (An rfl (rt (tR (bR (tR (tR (bR (tR (rs ?_))))))))))))))))
 have aL:=u.pk []
 obtain rfl:_=false:=hr.symm.trans (et (ah k) (et (iN o) (iY (et (l) (et (congrArg (fun q=>gK q) p) (ip d))))))
 exact⟨rfl,aL⟩
 refine Gz (vP j 2) (dF d) (Gl (.slice a.au.A a.au.ls.length a.au.c) (dF d) u 0 Tryz.isAgg147 (Gz (vJ a.au.ls.length) (dF d) (Gz (.bool (decide (((a.au.ls.length:Nat):Int) > 4))) (dF d) (fw (.bool (decide (((a.au.ls.length:Nat):Int) > 4))) (ES rfl (dF d) rfl) (nt ?_)))))
 by_cases y:((a.au.ls.length:Nat):Int) > 4
 refine jT (dT y) (sr (An rfl (rt (tR (bR (tR (tR (bR (tR (rs ?_))))))))))
 have aM:=u.pk []
 obtain rfl:_=false:=hr.symm.trans (et (ah k) (et (iN o) (iY (et (l) (et (congrArg (fun q=>gK q) p) (et (iN d) (ip y)))))))
 exact⟨rfl,aM⟩
 refine jF (dF y) (sk (sr (Kz (vP j 2) (Lz (.slice a.au.A a.au.ls.length a.au.c) u 0 Tryz.isAgg147 (Kz (vJ a.au.ls.length) (Mn rfl (bo ?_)))))))
 have aN:=u.pf []
 obtain⟨aO,F⟩:=lK fun(f:Nat) (w':World)=>Own w D w' [blk j (af.cells a) 149]∧f≤a.au.ls.length∧gW a.au.ls=gW (r6 f a.au.ls)
 refine C5 (fun i:Nat=> [(4, .bool false),(35,vJ i),(34,vJ a.au.ls.length),(33, .slice a.au.A a.au.ls.length a.au.c),(32,vP j 2),(31, .bool (decide (((a.au.ls.length:Nat):Int) > 4))),(30, .bool (decide (((a.au.ls.length:Nat):Int) > 4))),(29,vJ a.au.ls.length),(28, .slice a.au.A a.au.ls.length a.au.c),(27,vP j 2),(26, .bool (decide (((a.aU.length:Nat):Int) > 16))),(25, .bool (decide (((a.aU.length:Nat):Int) > 16))),(24,vJ a.aU.length),(23, .string ⟨y6 a.aU⟩),(22,vP j 1),(7,vP j 0),(21, .agg (af.cells a).toArray),(20, .pointer (some ⟨ab r,ao r+b *3,none⟩)),(19, .bool (decide (((b:Nat):Int) < ((l1.length:Nat):Int)))),(18,vJ b),(17,vJ l1.length),(16, .slice r l1.length Q)]) aO (fun i=>a.au.ls.length - i) 0 ⟨rfl,rfl,rfl,rfl,rfl,rfl,rfl,rfl,rfl,rfl,rfl,rfl,rfl,rfl,rfl,rfl,rfl,rfl,rfl,rfl,rfl,rfl,trivial⟩ (F.2 ⟨aN,e6,rfl⟩) ?_
 rintro f bC Z
 obtain⟨G,bi,s⟩:=F.1 Z
 refine sr (Kz (.bool (decide (((f:Nat):Int) < ((a.au.ls.length:Nat):Int)))) (nt (EP ?_)))
 by_cases aa:((f:Nat):Int) < ((a.au.ls.length:Nat):Int)
 obtain⟨g,N⟩:=dG (ls:=a.au.ls) (i:=f) aJ.len f3 (G.ro (J _ (E0 m)).1) e9
 have I:=drop_at N
 refine jT (dT aa) (sk (EP (bo (sr (fw (.pointer (some ⟨ab a.au.A,ao a.au.A+f *2,none⟩)) (ET (jK) rfl rfl ((G.ro (J _ (E0 m)).1).addr (i:=f) e6) e6) (fw (.agg (aJ.cells g).toArray) (EY rfl (Fb (cs:=(aJ.cells g)) Tryz.isAgg153 Tryz.sizeOf153 ((G.ro (J _ (E0 m)).1).elem aJ.len N f3))) ?_))))))
 refine dK [.string ⟨y6 ([])⟩, .string ⟨y6 ([])⟩] 153 G ?_
 intro ae bE aP
 refine dN (aJ.cells g) 0 aP Tryz.sizeOf153 ?_
 intro bF ag
 refine ns (Kz (vP ae 0) (Lz (.string ⟨y6 g.bY⟩) ag 0 C4 ?_))
 obtain⟨z,t⟩:∃ q,gu g.bY=q:=⟨_,rfl⟩
 obtain⟨bG,ai,bn,aj,bq⟩:=EU ag
 refine cl K1 (jZ _ _ g.bY z ai t) ?_
 rintro _ bH ⟨rfl,ak,O,P⟩
 have L:=aj _ _ ak
 replace O: ¬ (z=0)∨(1≤g.bY.length∧g.bY.length≤12):=O
 replace P:g.bY.length < 1∨g.bY.length > 12∨z=0:=P
 refine fw (.bool (decide (¬ (z=0)))) (Fs (e:= !(decide (z=0))) yk decide_not.symm) (Mz rfl ?_)
 by_cases h:z=0
 refine gw (vP ae 1) (dF (IV h)) yk (gw (.string ⟨y6 g.aU⟩) (dF (IV h)) (EY rfl (bZ.one C4 (FE (L.cls (i:=0) rfl) rfl))) (gw (vJ g.aU.length) (dF (IV h)) yk (gw (.bool (decide (((g.aU.length:Nat):Int) > 16))) (dF (IV h)) yk (fw (.bool (decide (((g.aU.length:Nat):Int) > 16))) (ES rfl (dF (IV h)) rfl) (nt ?_)))))
 by_cases M:((g.aU.length:Nat):Int) > 16
 refine jT (dT M) (sr (An rfl (rt (bR (tR (tR (bR (bR (tR (tR (bR (tR (rs ?_)))))))))))))
 have aQ:=L.pk []
 obtain rfl:_=false:=hr.symm.trans (et (ah k) (et (iN o) (iY (et (l) (et (congrArg (fun q=>gK q) p) (et (iN d) (et (iN y) (mX (et (s) (et (congrArg (fun q=>gW q) I) (et (ah t) (et (ip h) (ip M)))))))))))))
 exact⟨rfl,aQ⟩
 refine jF (dF M) (Fq (bN (ER (EO (fw (vJ (f+1)) (EQ (e:=C7.wrap (((f:Nat):Int)+1)) yk f1) (Mz rfl (D0 ?_)))))))
 have aR:=L.pk [1]
 exact E8 (f+1) ⟨rfl,rfl,rfl,rfl,rfl,rfl,rfl,rfl,rfl,rfl,rfl,rfl,rfl,rfl,rfl,rfl,rfl,rfl,rfl,rfl,rfl,rfl,trivial⟩ (F.2 ⟨aR,e6,et (s) (et (congrArg (fun q=>gW q) I) (et (ah t) (et (ip h) (iN M))))⟩) (by show a.au.ls.length - (f+1) < a.au.ls.length - f; omega)
 refine Sz (dT h) (Sz (dT h) (Sz (dT h) (Sz (dT h) (fw (.bool true) (Fa rfl (dT h) rfl) (nt (jt (sr (An rfl (rt (bR (tR (tR (bR (bR (tR (tR (bR (tR (rs ?_)))))))))))))))))))
 have aS:=L.pk []
 obtain rfl:_=false:=hr.symm.trans (et (ah k) (et (iN o) (iY (et (l) (et (congrArg (fun q=>gK q) p) (et (iN d) (et (iN y) (mX (et (s) (et (congrArg (fun q=>gW q) I) (et (ah t) (iN h))))))))))))
 exact⟨rfl,aS⟩
 refine jF (dF aa) (D1 (EX ?_))
 have au:gW a.au.ls=C1 ():=et (s) (et (congrArg (fun q=>gW q) (eD (ls:=a.au.ls) (i:=f) e6)) rfl)
 refine EX (Fg (bN (ER (EO (fw (vJ (b+1)) (EQ (e:=C7.wrap (((b:Nat):Int)+1)) yk f1) (Mz rfl (D0 ?_)))))))
 have aT:=G.pk []
 exact E8 (b+1) ⟨rfl,rfl,rfl,rfl,trivial⟩ (C.2 ⟨aT,e6,et (l) (et (congrArg (fun q=>gK q) p) (et (iN d) (et (iN y) (oK au))))⟩) (by show l1.length - (b+1) < l1.length - b; omega)
 refine jF (dF X) (D1 (EX ?_))
 have av:gK l1=C1 ():=et (l) (et (congrArg (fun q=>gK q) (eD (ls:=l1) (i:=b) e6)) rfl)
 refine EX (Fg (ER (sr (An rfl (rt (rs ?_))))))
 have ax:=E.pk []
 obtain rfl:_=true:=hr.symm.trans (et (ah k) (et (iN o) (nI av)))
 exact⟨rfl,ax⟩
theorem tF (w:World) (D:Nat→Prop) (j:Int) (H:Own w D w []) (c:j=1):
    Calls y4 158 #[vI j] w (dS fun v w'=>v= .tuple #[.agg #[.bool false, .func (.func 172) #[] #[], .func (.func 173) #[] #[], .func (.func 174) #[] #[], .func (.func 175) #[] #[]], .bool true]∧Own w D w' []):=by
 subst c
 refine cb K2 ?_
 refine sr ?_
 refine dK [.bool false, .nilFunc, .nilFunc, .nilFunc, .nilFunc] 231 H ?_
 intro l n d
 refine Ar rfl (Kz (.agg #[.bool false, .func (.func 172) #[] #[], .func (.func 173) #[] #[], .func (.func 174) #[] #[], .func (.func 175) #[] #[]]) (Kz (.agg #[.bool true, .func (.func 176) #[] #[], .func (.func 177) #[] #[], .func (.func 174) #[] #[], .func (.func 178) #[] #[]]) (Kz (.agg #[.bool true, .func (.func 172) #[] #[], .func (.func 173) #[] #[], .func (.func 174) #[] #[], .func (.func 179) #[] #[]]) (Kz (.agg #[.bool false, .func (.func 180) #[] #[], .func (.func 181) #[] #[], .func (.func 182) #[] #[], .func (.func 183) #[] #[]]) (Kz (.agg #[.bool true, .func (.func 184) #[] #[], .func (.func 185) #[] #[], .func (.func 182) #[] #[], .func (.func 186) #[] #[]]) (Kz (.agg #[.bool false, .nilFunc, .nilFunc, .nilFunc, .nilFunc, .bool false, .func (.func 172) #[] #[], .func (.func 173) #[] #[], .func (.func 174) #[] #[], .func (.func 175) #[] #[], .bool true, .func (.func 176) #[] #[], .func (.func 177) #[] #[], .func (.func 174) #[] #[], .func (.func 178) #[] #[], .bool true, .func (.func 172) #[] #[], .func (.func 173) #[] #[], .func (.func 174) #[] #[], .func (.func 179) #[] #[], .bool false, .func (.func 180) #[] #[], .func (.func 181) #[] #[], .func (.func 182) #[] #[], .func (.func 183) #[] #[], .bool true, .func (.func 184) #[] #[], .func (.func 185) #[] #[], .func (.func 182) #[] #[], .func (.func 186) #[] #[]]) ?_))))))
 refine dK [.bool false, .nilFunc, .nilFunc, .nilFunc, .nilFunc, .bool false, .nilFunc, .nilFunc, .nilFunc, .nilFunc, .bool false, .nilFunc, .nilFunc, .nilFunc, .nilFunc, .bool false, .nilFunc, .nilFunc, .nilFunc, .nilFunc, .bool false, .nilFunc, .nilFunc, .nilFunc, .nilFunc, .bool false, .nilFunc, .nilFunc, .nilFunc, .nilFunc] 244 d ?_
 intro e o f
 refine dN [.bool false, .nilFunc, .nilFunc, .nilFunc, .nilFunc, .bool false, .func (.func 172) #[] #[], .func (.func 173) #[] #[], .func (.func 174) #[] #[], .func (.func 175) #[] #[], .bool true, .func (.func 176) #[] #[], .func (.func 177) #[] #[], .func (.func 174) #[] #[], .func (.func 178) #[] #[], .bool true, .func (.func 172) #[] #[], .func (.func 173) #[] #[], .func (.func 174) #[] #[], .func (.func 179) #[] #[], .bool false, .func (.func 180) #[] #[], .func (.func 181) #[] #[], .func (.func 182) #[] #[], .func (.func 183) #[] #[], .bool true, .func (.func 184) #[] #[], .func (.func 185) #[] #[], .func (.func 182) #[] #[], .func (.func 186) #[] #[]] 0 f K3 ?_
 intro p a
 refine nt (EP (sr (Mz rfl (Kz (.bool false) (Mz rfl (gw (vI 1) rfl (E5 rfl) (Gz (.bool false) rfl (fw (.bool false) (ES rfl rfl rfl) (nt (jf (sk (sr (Mz rfl (Kz (vP e 5) (La ([.bool false, .func (.func 172) #[] #[], .func (.func 173) #[] #[], .func (.func 174) #[] #[], .func (.func 175) #[] #[]]) a 0 K4 K5 ?_)))))))))))))))
 have g:=a.pb [0]
 refine dN [.bool false, .func (.func 172) #[] #[], .func (.func 173) #[] #[], .func (.func 174) #[] #[], .func (.func 175) #[] #[]] 0 g K5 ?_
 intro q b
 refine An rfl (rt (Fin.res (ku (vs:= [.agg #[.bool false, .func (.func 172) #[] #[], .func (.func 173) #[] #[], .func (.func 174) #[] #[], .func (.func 175) #[] #[]], .bool true]) rfl (dR.cell rfl (Fb (cs:= [.bool false, .func (.func 172) #[] #[], .func (.func 173) #[] #[], .func (.func 174) #[] #[], .func (.func 175) #[] #[]]) K4 K5 ((b.cls (i:=0) rfl).lit (k:=0) (m:=5) rfl)) (dR.tmp rfl dR.nil)) (IQ rfl)) ?_))
 have h:=b.pk []
 exact⟨rfl,h⟩
def qV (a:bC):bC:=
 bC.mk a.aM a.bY ([]) ([]) ([]) 0
theorem uY (w:World) (D:Nat→Prop) (a:bC) (g:bC) (H:Own w D w []) (hr:qV a=g):
    Calls y4 172 #[.agg (bC.cells a).toArray] w (dS fun v w'=>v= .agg (bC.cells g).toArray∧Own w D w' []):=by
 refine cb Tryz.func172 ?_
 refine sr ?_
 refine dK (bC.cells a) 72 H ?_
 intro c h e
 refine dK [vI 0, .string ⟨y6 ([])⟩, .string ⟨y6 ([])⟩, .string ⟨y6 ([])⟩, .string ⟨y6 ([])⟩,vI 0] 72 e ?_
 intro j l b
 refine ns (Kz (vP c 0) (Lz (vI a.aM) b 1 C6 (Kz (vP c 1) (Lz (.string ⟨y6 a.bY⟩) b 1 C4 (Kz (.agg #[vI a.aM, .string ⟨y6 a.bY⟩, .string ⟨y6 ([])⟩, .string ⟨y6 ([])⟩, .string ⟨y6 ([])⟩,vI 0]) ?_)))))
 refine dN [vI a.aM, .string ⟨y6 a.bY⟩, .string ⟨y6 ([])⟩, .string ⟨y6 ([])⟩, .string ⟨y6 ([])⟩,vI 0] 0 b K6 ?_
 intro n d
 refine nt (rt (Fin.res (mP rfl rfl (Fb (cs:= [vI a.aM, .string ⟨y6 a.bY⟩, .string ⟨y6 ([])⟩, .string ⟨y6 ([])⟩, .string ⟨y6 ([])⟩,vI 0]) K7 K6 ((d.cls (i:=0) rfl).lit (k:=0) (m:=6) rfl))) ?_))
 have f:=d.pk []
 obtain rfl:_=bC.mk a.aM a.bY ([]) ([]) ([]) 0:=hr.symm.trans rfl
 exact⟨rfl,f⟩
def o8 (b:bC):Int:=
 bnd (gu b.bY) fun a=>a
theorem tH (w:World) (D:Nat→Prop) (a:bC) (m:Int) (H:Own w D w []) (hr:o8 a=m):
    Calls y4 173 #[.agg (bC.cells a).toArray] w (dS fun v w'=>v=vI m∧Own w D w' []):=by
 refine cb Tryz.func173 ?_
 refine sr ?_
 refine dK (bC.cells a) 72 H ?_
 intro j p f
 refine Ar rfl (Kz (vP j 1) (Lz (.string ⟨y6 a.bY⟩) f 0 C4 ?_))
 obtain⟨b,c⟩:∃ q,gu a.bY=q:=⟨_,rfl⟩
 obtain⟨r,g,n,h,o⟩:=EU f
 refine cl K1 (jZ _ _ a.bY b g c) ?_
 rintro _ s ⟨rfl,i,d,e⟩
 have k:=h _ _ i
 replace d: ¬ (b=0)∨(1≤a.bY.length∧a.bY.length≤12):=d
 replace e:a.bY.length < 1∨a.bY.length > 12∨b=0:=e
 refine An rfl (rt (rs ?_))
 have l:=k.pk []
 obtain rfl:_=b:=hr.symm.trans (ah c)
 exact⟨rfl,l⟩
theorem tJ (w:World) (D:Nat→Prop) (j:Int) (H:Own w D w []) (c:j=2):
    Calls y4 158 #[vI j] w (dS fun v w'=>v= .tuple #[.agg #[.bool true, .func (.func 176) #[] #[], .func (.func 177) #[] #[], .func (.func 174) #[] #[], .func (.func 178) #[] #[]], .bool true]∧Own w D w' []):=by
 subst c
 refine cb K2 ?_
 refine sr ?_
 refine dK [.bool false, .nilFunc, .nilFunc, .nilFunc, .nilFunc] 231 H ?_
 intro l n d
 refine Ar rfl (Kz (.agg #[.bool false, .func (.func 172) #[] #[], .func (.func 173) #[] #[], .func (.func 174) #[] #[], .func (.func 175) #[] #[]]) (Kz (.agg #[.bool true, .func (.func 176) #[] #[], .func (.func 177) #[] #[], .func (.func 174) #[] #[], .func (.func 178) #[] #[]]) (Kz (.agg #[.bool true, .func (.func 172) #[] #[], .func (.func 173) #[] #[], .func (.func 174) #[] #[], .func (.func 179) #[] #[]]) (Kz (.agg #[.bool false, .func (.func 180) #[] #[], .func (.func 181) #[] #[], .func (.func 182) #[] #[], .func (.func 183) #[] #[]]) (Kz (.agg #[.bool true, .func (.func 184) #[] #[], .func (.func 185) #[] #[], .func (.func 182) #[] #[], .func (.func 186) #[] #[]]) (Kz (.agg #[.bool false, .nilFunc, .nilFunc, .nilFunc, .nilFunc, .bool false, .func (.func 172) #[] #[], .func (.func 173) #[] #[], .func (.func 174) #[] #[], .func (.func 175) #[] #[], .bool true, .func (.func 176) #[] #[], .func (.func 177) #[] #[], .func (.func 174) #[] #[], .func (.func 178) #[] #[], .bool true, .func (.func 172) #[] #[], .func (.func 173) #[] #[], .func (.func 174) #[] #[], .func (.func 179) #[] #[], .bool false, .func (.func 180) #[] #[], .func (.func 181) #[] #[], .func (.func 182) #[] #[], .func (.func 183) #[] #[], .bool true, .func (.func 184) #[] #[], .func (.func 185) #[] #[], .func (.func 182) #[] #[], .func (.func 186) #[] #[]]) ?_))))))
 refine dK [.bool false, .nilFunc, .nilFunc, .nilFunc, .nilFunc, .bool false, .nilFunc, .nilFunc, .nilFunc, .nilFunc, .bool false, .nilFunc, .nilFunc, .nilFunc, .nilFunc, .bool false, .nilFunc, .nilFunc, .nilFunc, .nilFunc, .bool false, .nilFunc, .nilFunc, .nilFunc, .nilFunc, .bool false, .nilFunc, .nilFunc, .nilFunc, .nilFunc] 244 d ?_
 intro e o f
 refine dN [.bool false, .nilFunc, .nilFunc, .nilFunc, .nilFunc, .bool false, .func (.func 172) #[] #[], .func (.func 173) #[] #[], .func (.func 174) #[] #[], .func (.func 175) #[] #[], .bool true, .func (.func 176) #[] #[], .func (.func 177) #[] #[], .func (.func 174) #[] #[], .func (.func 178) #[] #[], .bool true, .func (.func 172) #[] #[], .func (.func 173) #[] #[], .func (.func 174) #[] #[], .func (.func 179) #[] #[], .bool false, .func (.func 180) #[] #[], .func (.func 181) #[] #[], .func (.func 182) #[] #[], .func (.func 183) #[] #[], .bool true, .func (.func 184) #[] #[], .func (.func 185) #[] #[], .func (.func 182) #[] #[], .func (.func 186) #[] #[]] 0 f K3 ?_
 intro p a
 refine nt (EP (sr (Mz rfl (Kz (.bool false) (Mz rfl (gw (vI 2) rfl (E5 rfl) (Gz (.bool false) rfl (fw (.bool false) (ES rfl rfl rfl) (nt (jf (sk (sr (Mz rfl (Kz (vP e 10) (La ([.bool true, .func (.func 176) #[] #[], .func (.func 177) #[] #[], .func (.func 174) #[] #[], .func (.func 178) #[] #[]]) a 0 K4 K5 ?_)))))))))))))))
 have g:=a.pb [0]
 refine dN [.bool true, .func (.func 176) #[] #[], .func (.func 177) #[] #[], .func (.func 174) #[] #[], .func (.func 178) #[] #[]] 0 g K5 ?_
 intro q b
 refine An rfl (rt (Fin.res (ku (vs:= [.agg #[.bool true, .func (.func 176) #[] #[], .func (.func 177) #[] #[], .func (.func 174) #[] #[], .func (.func 178) #[] #[]], .bool true]) rfl (dR.cell rfl (Fb (cs:= [.bool true, .func (.func 176) #[] #[], .func (.func 177) #[] #[], .func (.func 174) #[] #[], .func (.func 178) #[] #[]]) K4 K5 ((b.cls (i:=0) rfl).lit (k:=0) (m:=5) rfl)) (dR.tmp rfl dR.nil)) (IQ rfl)) ?_))
 have h:=b.pk []
 exact⟨rfl,h⟩
def ul (a:bC):bC:=
 bC.mk a.aM a.bY a.aU ([]) ([]) 0
theorem yu (w:World) (D:Nat→Prop) (a:bC) (g:bC) (H:Own w D w []) (hr:ul a=g):
    Calls y4 176 #[.agg (bC.cells a).toArray] w (dS fun v w'=>v= .agg (bC.cells g).toArray∧Own w D w' []):=by
 refine cb Tryz.func176 ?_
 refine sr ?_
 refine dK (bC.cells a) 72 H ?_
 intro c h e
 refine dK [vI 0, .string ⟨y6 ([])⟩, .string ⟨y6 ([])⟩, .string ⟨y6 ([])⟩, .string ⟨y6 ([])⟩,vI 0] 72 e ?_
 intro j l b
 refine ns (Kz (vP c 0) (Lz (vI a.aM) b 1 C6 (Kz (vP c 1) (Lz (.string ⟨y6 a.bY⟩) b 1 C4 (Kz (vP c 2) (Lz (.string ⟨y6 a.aU⟩) b 1 C4 (Kz (.agg #[vI a.aM, .string ⟨y6 a.bY⟩, .string ⟨y6 a.aU⟩, .string ⟨y6 ([])⟩, .string ⟨y6 ([])⟩,vI 0]) ?_)))))))
 refine dN [vI a.aM, .string ⟨y6 a.bY⟩, .string ⟨y6 a.aU⟩, .string ⟨y6 ([])⟩, .string ⟨y6 ([])⟩,vI 0] 0 b K6 ?_
 intro n d
 refine nt (rt (Fin.res (mP rfl rfl (Fb (cs:= [vI a.aM, .string ⟨y6 a.bY⟩, .string ⟨y6 a.aU⟩, .string ⟨y6 ([])⟩, .string ⟨y6 ([])⟩,vI 0]) K7 K6 ((d.cls (i:=0) rfl).lit (k:=0) (m:=6) rfl))) ?_))
 have f:=d.pk []
 obtain rfl:_=bC.mk a.aM a.bY a.aU ([]) ([]) 0:=hr.symm.trans rfl
 exact⟨rfl,f⟩
def ry (a:List UInt8):Int:=
 if((a.length:Nat):Int) > 16 then 2 else 0
theorem wI (w:World) (D:Nat→Prop) (b:List UInt8) (e:Int) (H:Own w D w []) (hr:ry b=e):
    Calls y4 197 #[.string ⟨y6 b⟩] w (dS fun v w'=>v=vI e∧Own w D w' []):=by
 refine cb Tryz.func197 ?_
 refine sr (An rfl (EP (sr (Mz rfl (Kz (vJ b.length) (Kz (.bool (decide (((b.length:Nat):Int) > 16))) (nt ?_)))))))
 by_cases a:((b.length:Nat):Int) > 16
 refine jT (dT a) (sr (An rfl (rt (tR (rs ?_)))))
 have c:=H.pk []
 obtain rfl:_=2:=hr.symm.trans (ip a)
 exact⟨rfl,c⟩
 refine jF (dF a) (sk (sr (An rfl (rt (rs ?_)))))
 have d:=H.pk []
 obtain rfl:_=0:=hr.symm.trans (iN a)
 exact⟨rfl,d⟩
def rW (c:bC):Int:=
 bnd (gu c.bY) fun a=>if a=0 then bnd (ry c.aU) fun b=>b else a
theorem xc (w:World) (D:Nat→Prop) (b:bC) (y:Int) (H:Own w D w []) (hr:rW b=y):
    Calls y4 177 #[.agg (bC.cells b).toArray] w (dS fun v w'=>v=vI y∧Own w D w' []):=by
 refine cb Tryz.func177 ?_
 refine sr ?_
 refine dK (bC.cells b) 72 H ?_
 intro j E k
 refine An rfl (EP (sr (Kz (vP j 1) (Lz (.string ⟨y6 b.bY⟩) k 0 C4 ?_))))
 obtain⟨a,c⟩:∃ q,gu b.bY=q:=⟨_,rfl⟩
 obtain⟨F,l,z,m,A⟩:=EU k
 refine cl K1 (jZ _ _ b.bY a l c) ?_
 rintro _ G ⟨rfl,n,f,g⟩
 have i:=m _ _ n
 replace f: ¬ (a=0)∨(1≤b.bY.length∧b.bY.length≤12):=f
 replace g:b.bY.length < 1∨b.bY.length > 12∨a=0:=g
 refine Ar rfl (Mz rfl (fw (.bool (decide (¬ (a=0)))) (Fs (e:= !(decide (a=0))) yk decide_not.symm) (nt ?_)))
 by_cases d:a=0
 refine jF (dF (IV d)) (sk (sr (Kz (vP j 2) (Lz (.string ⟨y6 b.aU⟩) i 0 C4 ?_))))
 obtain⟨o,h⟩:∃ q,ry b.aU=q:=⟨_,rfl⟩
 obtain⟨I,p,B,r,C⟩:=EU i
 refine cl Tryz.call197 (wI _ _ b.aU o p h) ?_
 rintro _ J ⟨rfl,s⟩
 have t:=r _ _ s
 refine An rfl (rt (rs ?_))
 have u:=t.pk []
 obtain rfl:_=o:=hr.symm.trans (et (ah c) (et (ip d) (ah h)))
 exact⟨rfl,u⟩
 refine jT (dT d) (sr (Mz rfl (An rfl (rt (tR (rs ?_))))))
 have x:=i.pk []
 obtain rfl:_=a:=hr.symm.trans (et (ah c) (iN d))
 exact⟨rfl,x⟩
theorem tK (w:World) (D:Nat→Prop) (j:Int) (H:Own w D w []) (c:j=3):
    Calls y4 158 #[vI j] w (dS fun v w'=>v= .tuple #[.agg #[.bool true, .func (.func 172) #[] #[], .func (.func 173) #[] #[], .func (.func 174) #[] #[], .func (.func 179) #[] #[]], .bool true]∧Own w D w' []):=by
 subst c
 refine cb K2 ?_
 refine sr ?_
 refine dK [.bool false, .nilFunc, .nilFunc, .nilFunc, .nilFunc] 231 H ?_
 intro l n d
 refine Ar rfl (Kz (.agg #[.bool false, .func (.func 172) #[] #[], .func (.func 173) #[] #[], .func (.func 174) #[] #[], .func (.func 175) #[] #[]]) (Kz (.agg #[.bool true, .func (.func 176) #[] #[], .func (.func 177) #[] #[], .func (.func 174) #[] #[], .func (.func 178) #[] #[]]) (Kz (.agg #[.bool true, .func (.func 172) #[] #[], .func (.func 173) #[] #[], .func (.func 174) #[] #[], .func (.func 179) #[] #[]]) (Kz (.agg #[.bool false, .func (.func 180) #[] #[], .func (.func 181) #[] #[], .func (.func 182) #[] #[], .func (.func 183) #[] #[]]) (Kz (.agg #[.bool true, .func (.func 184) #[] #[], .func (.func 185) #[] #[], .func (.func 182) #[] #[], .func (.func 186) #[] #[]]) (Kz (.agg #[.bool false, .nilFunc, .nilFunc, .nilFunc, .nilFunc, .bool false, .func (.func 172) #[] #[], .func (.func 173) #[] #[], .func (.func 174) #[] #[], .func (.func 175) #[] #[], .bool true, .func (.func 176) #[] #[], .func (.func 177) #[] #[], .func (.func 174) #[] #[], .func (.func 178) #[] #[], .bool true, .func (.func 172) #[] #[], .func (.func 173) #[] #[], .func (.func 174) #[] #[], .func (.func 179) #[] #[], .bool false, .func (.func 180) #[] #[], .func (.func 181) #[] #[], .func (.func 182) #[] #[], .func (.func 183) #[] #[], .bool true, .func (.func 184) #[] #[], .func (.func 185) #[] #[], .func (.func 182) #[] #[], .func (.func 186) #[] #[]]) ?_))))))
 refine dK [.bool false, .nilFunc, .nilFunc, .nilFunc, .nilFunc, .bool false, .nilFunc, .nilFunc, .nilFunc, .nilFunc, .bool false, .nilFunc, .nilFunc, .nilFunc, .nilFunc, .bool false, .nilFunc, .nilFunc, .nilFunc, .nilFunc, .bool false, .nilFunc, .nilFunc, .nilFunc, .nilFunc, .bool false, .nilFunc, .nilFunc, .nilFunc, .nilFunc] 244 d ?_
 intro e o f
 refine dN [.bool false, .nilFunc, .nilFunc, .nilFunc, .nilFunc, .bool false, .func (.func 172) #[] #[], .func (.func 173) #[] #[], .func (.func 174) #[] #[], .func (.func 175) #[] #[], .bool true, .func (.func 176) #[] #[], .func (.func 177) #[] #[], .func (.func 174) #[] #[], .func (.func 178) #[] #[], .bool true, .func (.func 172) #[] #[], .func (.func 173) #[] #[], .func (.func 174) #[] #[], .func (.func 179) #[] #[], .bool false, .func (.func 180) #[] #[], .func (.func 181) #[] #[], .func (.func 182) #[] #[], .func (.func 183) #[] #[], .bool true, .func (.func 184) #[] #[], .func (.func 185) #[] #[], .func (.func 182) #[] #[], .func (.func 186) #[] #[]] 0 f K3 ?_
 intro p a
 refine nt (EP (sr (Mz rfl (Kz (.bool false) (Mz rfl (gw (vI 3) rfl (E5 rfl) (Gz (.bool false) rfl (fw (.bool false) (ES rfl rfl rfl) (nt (jf (sk (sr (Mz rfl (Kz (vP e 15) (La ([.bool true, .func (.func 172) #[] #[], .func (.func 173) #[] #[], .func (.func 174) #[] #[], .func (.func 179) #[] #[]]) a 0 K4 K5 ?_)))))))))))))))
 have g:=a.pb [0]
 refine dN [.bool true, .func (.func 172) #[] #[], .func (.func 173) #[] #[], .func (.func 174) #[] #[], .func (.func 179) #[] #[]] 0 g K5 ?_
 intro q b
 refine An rfl (rt (Fin.res (ku (vs:= [.agg #[.bool true, .func (.func 172) #[] #[], .func (.func 173) #[] #[], .func (.func 174) #[] #[], .func (.func 179) #[] #[]], .bool true]) rfl (dR.cell rfl (Fb (cs:= [.bool true, .func (.func 172) #[] #[], .func (.func 173) #[] #[], .func (.func 174) #[] #[], .func (.func 179) #[] #[]]) K4 K5 ((b.cls (i:=0) rfl).lit (k:=0) (m:=5) rfl)) (dR.tmp rfl dR.nil)) (IQ rfl)) ?_))
 have h:=b.pk []
 exact⟨rfl,h⟩
theorem tL (w:World) (D:Nat→Prop) (j:Int) (H:Own w D w []) (c:j=4):
    Calls y4 158 #[vI j] w (dS fun v w'=>v= .tuple #[.agg #[.bool false, .func (.func 180) #[] #[], .func (.func 181) #[] #[], .func (.func 182) #[] #[], .func (.func 183) #[] #[]], .bool true]∧Own w D w' []):=by
 subst c
 refine cb K2 ?_
 refine sr ?_
 refine dK [.bool false, .nilFunc, .nilFunc, .nilFunc, .nilFunc] 231 H ?_
 intro l n d
 refine Ar rfl (Kz (.agg #[.bool false, .func (.func 172) #[] #[], .func (.func 173) #[] #[], .func (.func 174) #[] #[], .func (.func 175) #[] #[]]) (Kz (.agg #[.bool true, .func (.func 176) #[] #[], .func (.func 177) #[] #[], .func (.func 174) #[] #[], .func (.func 178) #[] #[]]) (Kz (.agg #[.bool true, .func (.func 172) #[] #[], .func (.func 173) #[] #[], .func (.func 174) #[] #[], .func (.func 179) #[] #[]]) (Kz (.agg #[.bool false, .func (.func 180) #[] #[], .func (.func 181) #[] #[], .func (.func 182) #[] #[], .func (.func 183) #[] #[]]) (Kz (.agg #[.bool true, .func (.func 184) #[] #[], .func (.func 185) #[] #[], .func (.func 182) #[] #[], .func (.func 186) #[] #[]]) (Kz (.agg #[.bool false, .nilFunc, .nilFunc, .nilFunc, .nilFunc, .bool false, .func (.func 172) #[] #[], .func (.func 173) #[] #[], .func (.func 174) #[] #[], .func (.func 175) #[] #[], .bool true, .func (.func 176) #[] #[], .func (.func 177) #[] #[], .func (.func 174) #[] #[], .func (.func 178) #[] #[], .bool true, .func (.func 172) #[] #[], .func (.func 173) #[] #[], .func (.func 174) #[] #[], .func (.func 179) #[] #[], .bool false, .func (.func 180) #[] #[], .func (.func 181) #[] #[], .func (.func 182) #[] #[], .func (.func 183) #[] #[], .bool true, .func (.func 184) #[] #[], .func (.func 185) #[] #[], .func (.func 182) #[] #[], .func (.func 186) #[] #[]]) ?_))))))
 refine dK [.bool false, .nilFunc, .nilFunc, .nilFunc, .nilFunc, .bool false, .nilFunc, .nilFunc, .nilFunc, .nilFunc, .bool false, .nilFunc, .nilFunc, .nilFunc, .nilFunc, .bool false, .nilFunc, .nilFunc, .nilFunc, .nilFunc, .bool false, .nilFunc, .nilFunc, .nilFunc, .nilFunc, .bool false, .nilFunc, .nilFunc, .nilFunc, .nilFunc] 244 d ?_
 intro e o f
 refine dN [.bool false, .nilFunc, .nilFunc, .nilFunc, .nilFunc, .bool false, .func (.func 172) #[] #[], .func (.func 173) #[] #[], .func (.func 174) #[] #[], .func (.func 175) #[] #[], .bool true, .func (.func 176) #[] #[], .func (.func 177) #[] #[], .func (.func 174) #[] #[], .func (.func 178) #[] #[], .bool true, .func (.func 172) #[] #[], .func (.func 173) #[] #[], .func (.func 174) #[] #[], .func (.func 179) #[] #[], .bool false, .func (.func 180) #[] #[], .func (.func 181) #[] #[], .func (.func 182) #[] #[], .func (.func 183) #[] #[], .bool true, .func (.func 184) #[] #[], .func (.func 185) #[] #[], .func (.func 182) #[] #[], .func (.func 186) #[] #[]] 0 f K3 ?_
 intro p a
 refine nt (EP (sr (Mz rfl (Kz (.bool false) (Mz rfl (gw (vI 4) rfl (E5 rfl) (Gz (.bool false) rfl (fw (.bool false) (ES rfl rfl rfl) (nt (jf (sk (sr (Mz rfl (Kz (vP e 20) (La ([.bool false, .func (.func 180) #[] #[], .func (.func 181) #[] #[], .func (.func 182) #[] #[], .func (.func 183) #[] #[]]) a 0 K4 K5 ?_)))))))))))))))
 have g:=a.pb [0]
 refine dN [.bool false, .func (.func 180) #[] #[], .func (.func 181) #[] #[], .func (.func 182) #[] #[], .func (.func 183) #[] #[]] 0 g K5 ?_
 intro q b
 refine An rfl (rt (Fin.res (ku (vs:= [.agg #[.bool false, .func (.func 180) #[] #[], .func (.func 181) #[] #[], .func (.func 182) #[] #[], .func (.func 183) #[] #[]], .bool true]) rfl (dR.cell rfl (Fb (cs:= [.bool false, .func (.func 180) #[] #[], .func (.func 181) #[] #[], .func (.func 182) #[] #[], .func (.func 183) #[] #[]]) K4 K5 ((b.cls (i:=0) rfl).lit (k:=0) (m:=5) rfl)) (dR.tmp rfl dR.nil)) (IQ rfl)) ?_))
 have h:=b.pk []
 exact⟨rfl,h⟩
def um (a:bC):bC:=
 bC.mk a.aM ([]) ([]) a.bJ a.bX a.bT
theorem yw (w:World) (D:Nat→Prop) (a:bC) (g:bC) (H:Own w D w []) (hr:um a=g):
    Calls y4 180 #[.agg (bC.cells a).toArray] w (dS fun v w'=>v= .agg (bC.cells g).toArray∧Own w D w' []):=by
 refine cb Tryz.func180 ?_
 refine sr ?_
 refine dK (bC.cells a) 72 H ?_
 intro c h e
 refine dK [vI 0, .string ⟨y6 ([])⟩, .string ⟨y6 ([])⟩, .string ⟨y6 ([])⟩, .string ⟨y6 ([])⟩,vI 0] 72 e ?_
 intro j l b
 refine ns (Kz (vP c 0) (Lz (vI a.aM) b 1 C6 (Kz (vP c 3) (Lz (.string ⟨y6 a.bJ⟩) b 1 C4 (Kz (vP c 4) (Lz (.string ⟨y6 a.bX⟩) b 1 C4 (Kz (vP c 5) (Lz (vI a.bT) b 1 C6 (Kz (.agg #[vI a.aM, .string ⟨y6 ([])⟩, .string ⟨y6 ([])⟩, .string ⟨y6 a.bJ⟩, .string ⟨y6 a.bX⟩,vI a.bT]) ?_)))))))))
 refine dN [vI a.aM, .string ⟨y6 ([])⟩, .string ⟨y6 ([])⟩, .string ⟨y6 a.bJ⟩, .string ⟨y6 a.bX⟩,vI a.bT] 0 b K6 ?_
 intro n d
 refine nt (rt (Fin.res (mP rfl rfl (Fb (cs:= [vI a.aM, .string ⟨y6 ([])⟩, .string ⟨y6 ([])⟩, .string ⟨y6 a.bJ⟩, .string ⟨y6 a.bX⟩,vI a.bT]) K7 K6 ((d.cls (i:=0) rfl).lit (k:=0) (m:=6) rfl))) ?_))
 have f:=d.pk []
 obtain rfl:_=bC.mk a.aM ([]) ([]) a.bJ a.bX a.bT:=hr.symm.trans rfl
 exact⟨rfl,f⟩
def rX (a:bC):bK:=
 bK.mk a.bJ a.bX
theorem xe (w:World) (D:Nat→Prop) (a:bC) (g:bK) (H:Own w D w []) (hr:rX a=g):
    Calls y4 182 #[.agg (bC.cells a).toArray] w (dS fun v w'=>v= .agg (bK.cells g).toArray∧Own w D w' []):=by
 refine cb Tryz.func182 ?_
 refine sr ?_
 refine dK (bC.cells a) 72 H ?_
 intro c h e
 refine dK [.string ⟨y6 ([])⟩, .string ⟨y6 ([])⟩] 38 e ?_
 intro j l b
 refine ns (Kz (vP c 3) (Lz (.string ⟨y6 a.bJ⟩) b 1 C4 (Kz (vP c 4) (Lz (.string ⟨y6 a.bX⟩) b 1 C4 (Kz (.agg #[.string ⟨y6 a.bJ⟩, .string ⟨y6 a.bX⟩]) ?_)))))
 refine dN [.string ⟨y6 a.bJ⟩, .string ⟨y6 a.bX⟩] 0 b K8 ?_
 intro n d
 refine nt (rt (Fin.res (mP rfl rfl (Fb (cs:= [.string ⟨y6 a.bJ⟩, .string ⟨y6 a.bX⟩]) K9 K8 ((d.cls (i:=0) rfl).lit (k:=0) (m:=2) rfl))) ?_))
 have f:=d.pk []
 obtain rfl:_=bK.mk a.bJ a.bX:=hr.symm.trans rfl
 exact⟨rfl,f⟩
def lZ (a:bK):Int:=
 if a.bJ≠([]) then bnd (gu a.bJ) fun b=>if b=0 then if a.bX≠([]) then bnd (gu a.bX) fun c=>if c=0 then if a.bX≤a.bJ then 21 else 0 else 21 else 0 else 21 else if a.bX≠([]) then bnd (gu a.bX) fun d=>if d=0 then if a.bX≤a.bJ then 21 else 0 else 21 else 0
theorem pu (w:World) (D:Nat→Prop) (a:bK) (Z:Int) (H:Own w D w []) (hr:lZ a=Z):
    Calls y4 116 #[.agg (bK.cells a).toArray] w (dS fun v w'=>v=vI Z∧Own w D w' []):=by
 refine cb Tryz.func116 ?_
 refine sr ?_
 refine dK (bK.cells a) 38 H ?_
 intro h ak k
 refine An rfl (EP (sr (Kz (vP h 0) (Lz (.string ⟨y6 a.bJ⟩) k 0 C4 (fw (.bool (decide (a.bJ≠([])))) (Gd rfl rfl) (Mz rfl ?_))))))
 by_cases d:a.bJ≠([])
 refine Gz (vP h 0) (dT d) (Gl (.string ⟨y6 a.bJ⟩) (dT d) k 0 C4 ?_)
 obtain⟨l,j⟩:∃ q,gu a.bJ=q:=⟨_,rfl⟩
 obtain⟨au,G,aa,I,ae⟩:=EU k
 refine uM (dT d) K1 (jZ _ _ a.bJ l G j) ?_
 rintro _ av ⟨rfl,J,z,A⟩
 have s:=I _ _ J
 replace z: ¬ (l=0)∨(1≤a.bJ.length∧a.bJ.length≤12):=z
 replace A:a.bJ.length < 1∨a.bJ.length > 12∨l=0:=A
 refine gw (.bool (decide (¬ (l=0)))) (dT d) (Fs (e:= !(decide (l=0))) yk decide_not.symm) (fw (.bool (decide (¬ (l=0)))) (Fa rfl (dT d) rfl) (nt ?_))
 by_cases m:l=0
 refine jF (dF (IV m)) (sk (EP (sr (Kz (vP h 1) (Lz (.string ⟨y6 a.bX⟩) s 0 C4 (fw (.bool (decide (a.bX≠([])))) (Gd rfl rfl) (Mz rfl ?_)))))))
 by_cases b:a.bX≠([])
 refine Gz (vP h 1) (dT b) (Gl (.string ⟨y6 a.bX⟩) (dT b) s 0 C4 ?_)
 obtain⟨n,p⟩:∃ q,gu a.bX=q:=⟨_,rfl⟩
 obtain⟨ax,K,af,L,ag⟩:=EU s
 refine uM (dT b) K1 (jZ _ _ a.bX n K p) ?_
 rintro _ ay ⟨rfl,M,B,C⟩
 have t:=L _ _ M
 replace B: ¬ (n=0)∨(1≤a.bX.length∧a.bX.length≤12):=B
 replace C:a.bX.length < 1∨a.bX.length > 12∨n=0:=C
 refine gw (.bool (decide (¬ (n=0)))) (dT b) (Fs (e:= !(decide (n=0))) yk decide_not.symm) (gw (.bool (decide (¬ (n=0)))) (dT b) (E5 rfl) ?_)
 by_cases f:n=0
 refine gw (vP h 1) (dF (IV f)) yk (gw (.string ⟨y6 a.bX⟩) (dF (IV f)) (EY rfl (bZ.one C4 (FE (t.cls (i:=0) rfl) rfl))) (gw (vP h 0) (dF (IV f)) yk (gw (.string ⟨y6 a.bJ⟩) (dF (IV f)) (EY rfl (bZ.one C4 (FE (t.cls (i:=0) rfl) rfl))) (gw (.bool (decide (a.bX≤a.bJ))) (dF (IV f)) (Fs (e:=Op.bytesLess a.bX a.bJ || decide (a.bX=a.bJ)) (Gn rfl rfl) (yB _ _)) (gw (.bool (decide (a.bX≤a.bJ))) (dT b) (ES rfl (dF (IV f)) rfl) (fw (.bool (decide (a.bX≤a.bJ))) (Fa rfl (dT b) rfl) (nt ?_)))))))
 by_cases x:a.bX≤a.bJ
 refine jT (dT x) (sr (An rfl (rt (tR (rs ?_)))))
 have Q:=t.pk []
 obtain rfl:_=21:=hr.symm.trans (et (ip d) (et (ah j) (et (ip m) (et (ip b) (et (ah p) (et (ip f) (ip x)))))))
 exact⟨rfl,Q⟩
 refine jF (dF x) (sk (sr (An rfl (rt (rs ?_)))))
 have R:=t.pk []
 obtain rfl:_=0:=hr.symm.trans (et (ip d) (et (ah j) (et (ip m) (et (ip b) (et (ah p) (et (ip f) (iN x)))))))
 exact⟨rfl,R⟩
 refine Sz (dT f) (Sz (dT f) (Sz (dT f) (Sz (dT f) (Sz (dT f) (gw (.bool true) (dT b) (Fa rfl (dT f) rfl) (fw (.bool true) (Fa rfl (dT b) rfl) (nt (jt (sr (An rfl (rt (tR (rs ?_)))))))))))))
 have S:=t.pk []
 obtain rfl:_=21:=hr.symm.trans (et (ip d) (et (ah j) (et (ip m) (et (ip b) (et (ah p) (iN f))))))
 exact⟨rfl,S⟩
 refine Sz (dF b) (Sz (dF b) (Sz (dF b) (Sz (dF b) (Sz (dF b) (FB rfl rfl rfl (FB rfl rfl rfl (FB rfl rfl rfl (FB rfl rfl rfl (FB rfl rfl rfl (Sz (dF b) (fw (.bool false) (ES rfl (dF b) rfl) (nt (jf (sk (sr (An rfl (rt (rs ?_))))))))))))))))))
 have T:=s.pk []
 obtain rfl:_=0:=hr.symm.trans (et (ip d) (et (ah j) (et (ip m) (iN b))))
 exact⟨rfl,T⟩
 refine jT (dT m) (sr (An rfl (rt (tR (rs ?_)))))
 have U:=s.pk []
 obtain rfl:_=21:=hr.symm.trans (et (ip d) (et (ah j) (iN m)))
 exact⟨rfl,U⟩
 refine Sz (dF d) (Sz (dF d) (Sz (dF d) (Sz (dF d) (fw (.bool false) (ES rfl (dF d) rfl) (nt (jf (sk (EP (sr (Kz (vP h 1) (Lz (.string ⟨y6 a.bX⟩) k 0 C4 (fw (.bool (decide (a.bX≠([])))) (Gd rfl rfl) (Mz rfl ?_)))))))))))))
 by_cases c:a.bX≠([])
 refine Gz (vP h 1) (dT c) (Gl (.string ⟨y6 a.bX⟩) (dT c) k 0 C4 ?_)
 obtain⟨o,r⟩:∃ q,gu a.bX=q:=⟨_,rfl⟩
 obtain⟨az,N,ai,O,aj⟩:=EU k
 refine uM (dT c) K1 (jZ _ _ a.bX o N r) ?_
 rintro _ aA ⟨rfl,P,E,F⟩
 have u:=O _ _ P
 replace E: ¬ (o=0)∨(1≤a.bX.length∧a.bX.length≤12):=E
 replace F:a.bX.length < 1∨a.bX.length > 12∨o=0:=F
 refine gw (.bool (decide (¬ (o=0)))) (dT c) (Fs (e:= !(decide (o=0))) yk decide_not.symm) (gw (.bool (decide (¬ (o=0)))) (dT c) (E5 rfl) ?_)
 by_cases g:o=0
 refine gw (vP h 1) (dF (IV g)) yk (gw (.string ⟨y6 a.bX⟩) (dF (IV g)) (EY rfl (bZ.one C4 (FE (u.cls (i:=0) rfl) rfl))) (gw (vP h 0) (dF (IV g)) yk (gw (.string ⟨y6 a.bJ⟩) (dF (IV g)) (EY rfl (bZ.one C4 (FE (u.cls (i:=0) rfl) rfl))) (gw (.bool (decide (a.bX≤a.bJ))) (dF (IV g)) (Fs (e:=Op.bytesLess a.bX a.bJ || decide (a.bX=a.bJ)) (Gn rfl rfl) (yB _ _)) (gw (.bool (decide (a.bX≤a.bJ))) (dT c) (ES rfl (dF (IV g)) rfl) (fw (.bool (decide (a.bX≤a.bJ))) (Fa rfl (dT c) rfl) (nt ?_)))))))
 by_cases y:a.bX≤a.bJ
 refine jT (dT y) (sr (An rfl (rt (tR (rs ?_)))))
 have V:=u.pk []
 obtain rfl:_=21:=hr.symm.trans (et (iN d) (et (ip c) (et (ah r) (et (ip g) (ip y)))))
 exact⟨rfl,V⟩
 refine jF (dF y) (sk (sr (An rfl (rt (rs ?_)))))
 have W:=u.pk []
 obtain rfl:_=0:=hr.symm.trans (et (iN d) (et (ip c) (et (ah r) (et (ip g) (iN y)))))
 exact⟨rfl,W⟩
 refine Sz (dT g) (Sz (dT g) (Sz (dT g) (Sz (dT g) (Sz (dT g) (gw (.bool true) (dT c) (Fa rfl (dT g) rfl) (fw (.bool true) (Fa rfl (dT c) rfl) (nt (jt (sr (An rfl (rt (tR (rs ?_)))))))))))))
 have X:=u.pk []
 obtain rfl:_=21:=hr.symm.trans (et (iN d) (et (ip c) (et (ah r) (iN g))))
 exact⟨rfl,X⟩
 refine Sz (dF c) (Sz (dF c) (Sz (dF c) (Sz (dF c) (Sz (dF c) (FB rfl rfl rfl (FB rfl rfl rfl (FB rfl rfl rfl (FB rfl rfl rfl (FB rfl rfl rfl (Sz (dF c) (fw (.bool false) (ES rfl (dF c) rfl) (nt (jf (sk (sr (An rfl (rt (rs ?_))))))))))))))))))
 have Y:=k.pk []
 obtain rfl:_=0:=hr.symm.trans (et (iN d) (iN c))
 exact⟨rfl,Y⟩
def nW (c:bC):Int:=
 bnd (rX c) fun a=>bnd (lZ a) fun b=>b
theorem rY (w:World) (D:Nat→Prop) (d:bC) (p:Int) (H:Own w D w []) (hr:nW d=p):
    Calls y4 185 #[.agg (bC.cells d).toArray] w (dS fun v w'=>v=vI p∧Own w D w' []):=by
 refine cb Tryz.func185 ?_
 refine sr ?_
 refine dK (bC.cells d) 72 H ?_
 intro x y e
 refine Ar rfl (La (bC.cells d) e 0 K7 K6 ?_)
 obtain⟨c,a⟩:∃ q,rX d=q:=⟨_,rfl⟩
 obtain⟨z,f,r,g,s⟩:=EU e
 refine cl Tryz.call182 (xe _ _ d c f a) ?_
 rintro _ A ⟨rfl,h⟩
 have m:=g _ _ h
 obtain⟨i,b⟩:∃ q,lZ c=q:=⟨_,rfl⟩
 obtain⟨B,j,t,k,u⟩:=EU m
 refine cl Tryz.call116 (pu _ _ c i j b) ?_
 rintro _ C ⟨rfl,l⟩
 have n:=k _ _ l
 refine An rfl (rt (rs ?_))
 have o:=n.pk []
 obtain rfl:_=i:=hr.symm.trans (et (ah a) (ah b))
 exact⟨rfl,o⟩
def qc (b:bC):Int:=
 bnd (nW b) fun a=>if a=0 then if b.bT < 1 then 1 else if b.bT > 4 then 1 else 0 else a
theorem xg (w:World) (D:Nat→Prop) (c:bC) (s:Int) (H:Own w D w []) (hr:qc c=s):
    Calls y4 181 #[.agg (bC.cells c).toArray] w (dS fun v w'=>v=vI s∧Own w D w' []):=by
 refine cb Tryz.func181 ?_
 refine sr ?_
 refine dK (bC.cells c) 72 H ?_
 intro i x j
 refine An rfl (EP (sr (La (bC.cells c) j 0 K7 K6 ?_)))
 obtain⟨g,b⟩:∃ q,nW c=q:=⟨_,rfl⟩
 obtain⟨y,k,t,l,u⟩:=EU j
 refine cl Tryz.call185 (rY _ _ c g k b) ?_
 rintro _ z ⟨rfl,m⟩
 have d:=l _ _ m
 refine Ar rfl (Mz rfl (fw (.bool (decide (¬ (g=0)))) (Fs (e:= !(decide (g=0))) yk decide_not.symm) (nt ?_)))
 by_cases f:g=0
 refine jF (dF (IV f)) (sk (EP (sr (Kz (vP i 5) (Lz (vI c.bT) d 0 C6 (Kz (.bool (decide (c.bT < 1))) (Mz rfl ?_)))))))
 by_cases a:c.bT < 1
 refine Sz (dT a) (Sz (dT a) (Sz (dT a) (fw (.bool true) (Fa rfl (dT a) rfl) (nt (jt (sr (An rfl (rt (tR (rs ?_))))))))))
 have n:=d.pk []
 obtain rfl:_=1:=hr.symm.trans (et (ah b) (et (ip f) (ip a)))
 exact⟨rfl,n⟩
 refine Gz (vP i 5) (dF a) (Gl (vI c.bT) (dF a) d 0 C6 (Gz (.bool (decide (c.bT > 4))) (dF a) (fw (.bool (decide (c.bT > 4))) (ES rfl (dF a) rfl) (nt ?_))))
 by_cases h:c.bT > 4
 refine jT (dT h) (sr (An rfl (rt (tR (rs ?_)))))
 have o:=d.pk []
 obtain rfl:_=1:=hr.symm.trans (et (ah b) (et (ip f) (et (iN a) (ip h))))
 exact⟨rfl,o⟩
 refine jF (dF h) (sk (sr (An rfl (rt (rs ?_)))))
 have p:=d.pk []
 obtain rfl:_=0:=hr.symm.trans (et (ah b) (et (ip f) (et (iN a) (iN h))))
 exact⟨rfl,p⟩
 refine jT (dT f) (sr (Mz rfl (An rfl (rt (tR (rs ?_))))))
 have r:=d.pk []
 obtain rfl:_=g:=hr.symm.trans (et (ah b) (iN f))
 exact⟨rfl,r⟩
theorem tN (w:World) (D:Nat→Prop) (j:Int) (H:Own w D w []) (c:j=5):
    Calls y4 158 #[vI j] w (dS fun v w'=>v= .tuple #[.agg #[.bool true, .func (.func 184) #[] #[], .func (.func 185) #[] #[], .func (.func 182) #[] #[], .func (.func 186) #[] #[]], .bool true]∧Own w D w' []):=by
 subst c
 refine cb K2 ?_
 refine sr ?_
 refine dK [.bool false, .nilFunc, .nilFunc, .nilFunc, .nilFunc] 231 H ?_
 intro l n d
 refine Ar rfl (Kz (.agg #[.bool false, .func (.func 172) #[] #[], .func (.func 173) #[] #[], .func (.func 174) #[] #[], .func (.func 175) #[] #[]]) (Kz (.agg #[.bool true, .func (.func 176) #[] #[], .func (.func 177) #[] #[], .func (.func 174) #[] #[], .func (.func 178) #[] #[]]) (Kz (.agg #[.bool true, .func (.func 172) #[] #[], .func (.func 173) #[] #[], .func (.func 174) #[] #[], .func (.func 179) #[] #[]]) (Kz (.agg #[.bool false, .func (.func 180) #[] #[], .func (.func 181) #[] #[], .func (.func 182) #[] #[], .func (.func 183) #[] #[]]) (Kz (.agg #[.bool true, .func (.func 184) #[] #[], .func (.func 185) #[] #[], .func (.func 182) #[] #[], .func (.func 186) #[] #[]]) (Kz (.agg #[.bool false, .nilFunc, .nilFunc, .nilFunc, .nilFunc, .bool false, .func (.func 172) #[] #[], .func (.func 173) #[] #[], .func (.func 174) #[] #[], .func (.func 175) #[] #[], .bool true, .func (.func 176) #[] #[], .func (.func 177) #[] #[], .func (.func 174) #[] #[], .func (.func 178) #[] #[], .bool true, .func (.func 172) #[] #[], .func (.func 173) #[] #[], .func (.func 174) #[] #[], .func (.func 179) #[] #[], .bool false, .func (.func 180) #[] #[], .func (.func 181) #[] #[], .func (.func 182) #[] #[], .func (.func 183) #[] #[], .bool true, .func (.func 184) #[] #[], .func (.func 185) #[] #[], .func (.func 182) #[] #[], .func (.func 186) #[] #[]]) ?_))))))
 refine dK [.bool false, .nilFunc, .nilFunc, .nilFunc, .nilFunc, .bool false, .nilFunc, .nilFunc, .nilFunc, .nilFunc, .bool false, .nilFunc, .nilFunc, .nilFunc, .nilFunc, .bool false, .nilFunc, .nilFunc, .nilFunc, .nilFunc, .bool false, .nilFunc, .nilFunc, .nilFunc, .nilFunc, .bool false, .nilFunc, .nilFunc, .nilFunc, .nilFunc] 244 d ?_
 intro e o f
 refine dN [.bool false, .nilFunc, .nilFunc, .nilFunc, .nilFunc, .bool false, .func (.func 172) #[] #[], .func (.func 173) #[] #[], .func (.func 174) #[] #[], .func (.func 175) #[] #[], .bool true, .func (.func 176) #[] #[], .func (.func 177) #[] #[], .func (.func 174) #[] #[], .func (.func 178) #[] #[], .bool true, .func (.func 172) #[] #[], .func (.func 173) #[] #[], .func (.func 174) #[] #[], .func (.func 179) #[] #[], .bool false, .func (.func 180) #[] #[], .func (.func 181) #[] #[], .func (.func 182) #[] #[], .func (.func 183) #[] #[], .bool true, .func (.func 184) #[] #[], .func (.func 185) #[] #[], .func (.func 182) #[] #[], .func (.func 186) #[] #[]] 0 f K3 ?_
 intro p a
 refine nt (EP (sr (Mz rfl (Kz (.bool false) (Mz rfl (gw (vI 5) rfl (E5 rfl) (Gz (.bool false) rfl (fw (.bool false) (ES rfl rfl rfl) (nt (jf (sk (sr (Mz rfl (Kz (vP e 25) (La ([.bool true, .func (.func 184) #[] #[], .func (.func 185) #[] #[], .func (.func 182) #[] #[], .func (.func 186) #[] #[]]) a 0 K4 K5 ?_)))))))))))))))
 have g:=a.pb [0]
 refine dN [.bool true, .func (.func 184) #[] #[], .func (.func 185) #[] #[], .func (.func 182) #[] #[], .func (.func 186) #[] #[]] 0 g K5 ?_
 intro q b
 refine An rfl (rt (Fin.res (ku (vs:= [.agg #[.bool true, .func (.func 184) #[] #[], .func (.func 185) #[] #[], .func (.func 182) #[] #[], .func (.func 186) #[] #[]], .bool true]) rfl (dR.cell rfl (Fb (cs:= [.bool true, .func (.func 184) #[] #[], .func (.func 185) #[] #[], .func (.func 182) #[] #[], .func (.func 186) #[] #[]]) K4 K5 ((b.cls (i:=0) rfl).lit (k:=0) (m:=5) rfl)) (dR.tmp rfl dR.nil)) (IQ rfl)) ?_))
 have h:=b.pk []
 exact⟨rfl,h⟩
def sP (a:bC):bC:=
 bC.mk a.aM ([]) ([]) a.bJ a.bX 0
theorem xI (w:World) (D:Nat→Prop) (a:bC) (g:bC) (H:Own w D w []) (hr:sP a=g):
    Calls y4 184 #[.agg (bC.cells a).toArray] w (dS fun v w'=>v= .agg (bC.cells g).toArray∧Own w D w' []):=by
 refine cb Tryz.func184 ?_
 refine sr ?_
 refine dK (bC.cells a) 72 H ?_
 intro c h e
 refine dK [vI 0, .string ⟨y6 ([])⟩, .string ⟨y6 ([])⟩, .string ⟨y6 ([])⟩, .string ⟨y6 ([])⟩,vI 0] 72 e ?_
 intro j l b
 refine ns (Kz (vP c 0) (Lz (vI a.aM) b 1 C6 (Kz (vP c 3) (Lz (.string ⟨y6 a.bJ⟩) b 1 C4 (Kz (vP c 4) (Lz (.string ⟨y6 a.bX⟩) b 1 C4 (Kz (.agg #[vI a.aM, .string ⟨y6 ([])⟩, .string ⟨y6 ([])⟩, .string ⟨y6 a.bJ⟩, .string ⟨y6 a.bX⟩,vI 0]) ?_)))))))
 refine dN [vI a.aM, .string ⟨y6 ([])⟩, .string ⟨y6 ([])⟩, .string ⟨y6 a.bJ⟩, .string ⟨y6 a.bX⟩,vI 0] 0 b K6 ?_
 intro n d
 refine nt (rt (Fin.res (mP rfl rfl (Fb (cs:= [vI a.aM, .string ⟨y6 ([])⟩, .string ⟨y6 ([])⟩, .string ⟨y6 a.bJ⟩, .string ⟨y6 a.bX⟩,vI 0]) K7 K6 ((d.cls (i:=0) rfl).lit (k:=0) (m:=6) rfl))) ?_))
 have f:=d.pk []
 obtain rfl:_=bC.mk a.aM ([]) ([]) a.bJ a.bX 0:=hr.symm.trans rfl
 exact⟨rfl,f⟩
theorem sJ (w:World) (D:Nat→Prop) (b:Int) (H:Own w D w []) (p: ¬ (b=1)) (q: ¬ (b=2)) (r: ¬ (b=3)) (s: ¬ (b=4)) (t: ¬ (b=5)):
    Calls y4 158 #[vI b] w (dS fun v w'=>v= .tuple #[.agg #[.bool false, .nilFunc, .nilFunc, .nilFunc, .nilFunc], .bool false]∧Own w D w' []):=by
 refine cb K2 ?_
 refine sr ?_
 refine dK [.bool false, .nilFunc, .nilFunc, .nilFunc, .nilFunc] 231 H ?_
 intro u x g
 refine Ar rfl (Kz (.agg #[.bool false, .func (.func 172) #[] #[], .func (.func 173) #[] #[], .func (.func 174) #[] #[], .func (.func 175) #[] #[]]) (Kz (.agg #[.bool true, .func (.func 176) #[] #[], .func (.func 177) #[] #[], .func (.func 174) #[] #[], .func (.func 178) #[] #[]]) (Kz (.agg #[.bool true, .func (.func 172) #[] #[], .func (.func 173) #[] #[], .func (.func 174) #[] #[], .func (.func 179) #[] #[]]) (Kz (.agg #[.bool false, .func (.func 180) #[] #[], .func (.func 181) #[] #[], .func (.func 182) #[] #[], .func (.func 183) #[] #[]]) (Kz (.agg #[.bool true, .func (.func 184) #[] #[], .func (.func 185) #[] #[], .func (.func 182) #[] #[], .func (.func 186) #[] #[]]) (Kz (.agg #[.bool false, .nilFunc, .nilFunc, .nilFunc, .nilFunc, .bool false, .func (.func 172) #[] #[], .func (.func 173) #[] #[], .func (.func 174) #[] #[], .func (.func 175) #[] #[], .bool true, .func (.func 176) #[] #[], .func (.func 177) #[] #[], .func (.func 174) #[] #[], .func (.func 178) #[] #[], .bool true, .func (.func 172) #[] #[], .func (.func 173) #[] #[], .func (.func 174) #[] #[], .func (.func 179) #[] #[], .bool false, .func (.func 180) #[] #[], .func (.func 181) #[] #[], .func (.func 182) #[] #[], .func (.func 183) #[] #[], .bool true, .func (.func 184) #[] #[], .func (.func 185) #[] #[], .func (.func 182) #[] #[], .func (.func 186) #[] #[]]) ?_))))))
 refine dK [.bool false, .nilFunc, .nilFunc, .nilFunc, .nilFunc, .bool false, .nilFunc, .nilFunc, .nilFunc, .nilFunc, .bool false, .nilFunc, .nilFunc, .nilFunc, .nilFunc, .bool false, .nilFunc, .nilFunc, .nilFunc, .nilFunc, .bool false, .nilFunc, .nilFunc, .nilFunc, .nilFunc, .bool false, .nilFunc, .nilFunc, .nilFunc, .nilFunc] 244 g ?_
 intro y z h
 refine dN [.bool false, .nilFunc, .nilFunc, .nilFunc, .nilFunc, .bool false, .func (.func 172) #[] #[], .func (.func 173) #[] #[], .func (.func 174) #[] #[], .func (.func 175) #[] #[], .bool true, .func (.func 176) #[] #[], .func (.func 177) #[] #[], .func (.func 174) #[] #[], .func (.func 178) #[] #[], .bool true, .func (.func 172) #[] #[], .func (.func 173) #[] #[], .func (.func 174) #[] #[], .func (.func 179) #[] #[], .bool false, .func (.func 180) #[] #[], .func (.func 181) #[] #[], .func (.func 182) #[] #[], .func (.func 183) #[] #[], .bool true, .func (.func 184) #[] #[], .func (.func 185) #[] #[], .func (.func 182) #[] #[], .func (.func 186) #[] #[]] 0 h K3 ?_
 intro A c
 refine nt (EP (sr (Mz rfl (Kz (.bool (decide (b≤0))) (Mz rfl ?_)))))
 by_cases a:b≤0
 refine Sz (dT a) (Sz (dT a) (fw (.bool true) (Fa rfl (dT a) rfl) (nt (jt (sr (Kz (.agg #[.bool false, .nilFunc, .nilFunc, .nilFunc, .nilFunc]) ?_))))))
 have j:=c.pb [0]
 refine dN [.bool false, .nilFunc, .nilFunc, .nilFunc, .nilFunc] 0 j K5 ?_
 intro B d
 refine An rfl (rt (tR (Fin.res (ku (vs:= [.agg #[.bool false, .nilFunc, .nilFunc, .nilFunc, .nilFunc], .bool false]) rfl (dR.cell rfl (Fb (cs:= [.bool false, .nilFunc, .nilFunc, .nilFunc, .nilFunc]) K4 K5 ((d.cls (i:=0) rfl).lit (k:=0) (m:=5) rfl)) (dR.tmp rfl dR.nil)) (IQ rfl)) ?_)))
 have l:=d.pk []
 exact⟨rfl,l⟩
 refine gw (vI b) (dF a) (E5 rfl) (Gz (.bool (decide (b ≥ 6))) (dF a) (fw (.bool (decide (b ≥ 6))) (ES rfl (dF a) rfl) (nt ?_)))
 have e:(decide (b ≥ 6))=true:=(dT e6)
 refine jT e (sr (Kz (.agg #[.bool false, .nilFunc, .nilFunc, .nilFunc, .nilFunc]) ?_))
 have n:=c.pb [0]
 refine dN [.bool false, .nilFunc, .nilFunc, .nilFunc, .nilFunc] 0 n K5 ?_
 intro C f
 refine An rfl (rt (tR (Fin.res (ku (vs:= [.agg #[.bool false, .nilFunc, .nilFunc, .nilFunc, .nilFunc], .bool false]) rfl (dR.cell rfl (Fb (cs:= [.bool false, .nilFunc, .nilFunc, .nilFunc, .nilFunc]) K4 K5 ((f.cls (i:=0) rfl).lit (k:=0) (m:=5) rfl)) (dR.tmp rfl dR.nil)) (IQ rfl)) ?_)))
 have o:=f.pk []
 exact⟨rfl,o⟩
def kW (a:bC):Int:=
 if a.aM=1 then bnd (qV a) fun e=>if(e.aM=a.aM)∧(e.bY=a.bY)∧(e.aU=a.aU)∧(e.bJ=a.bJ)∧(e.bX=a.bX)∧(e.bT=a.bT) then bnd (o8 a) fun j=>j else 40 else if a.aM=2 then bnd (ul a) fun f=>if(f.aM=a.aM)∧(f.bY=a.bY)∧(f.aU=a.aU)∧(f.bJ=a.bJ)∧(f.bX=a.bX)∧(f.bT=a.bT) then bnd (rW a) fun k=>k else 40 else if a.aM=3 then bnd (qV a) fun b=>if(b.aM=a.aM)∧(b.bY=a.bY)∧(b.aU=a.aU)∧(b.bJ=a.bJ)∧(b.bX=a.bX)∧(b.bT=a.bT) then bnd (o8 a) fun g=>g else 40 else if a.aM=4 then bnd (um a) fun c=>if(c.aM=a.aM)∧(c.bY=a.bY)∧(c.aU=a.aU)∧(c.bJ=a.bJ)∧(c.bX=a.bX)∧(c.bT=a.bT) then bnd (qc a) fun h=>h else 40 else if a.aM=5 then bnd (sP a) fun d=>if(d.aM=a.aM)∧(d.bY=a.bY)∧(d.aU=a.aU)∧(d.bJ=a.bJ)∧(d.bX=a.bX)∧(d.bT=a.bT) then bnd (nW a) fun i=>i else 40 else 40
theorem rz (w:World) (D:Nat→Prop) (a:bC) (r0:Int) (H:Own w D w []) (hr:kW a=r0):
    Calls y4 139 #[.agg (bC.cells a).toArray] w (dS fun v w'=>v=vI r0∧Own w D w' []∧(¬ (r0=0)∨(1≤a.aM∧a.aM≤5))):=by
 refine cb Tryz.func139 ?_
 refine sr ?_
 refine dK (bC.cells a) 72 H ?_
 intro dn gI t
 refine Ar rfl (Kz (vP dn 0) (Lz (vI a.aM) t 0 C6 ?_))
 by_cases l:a.aM=1
 obtain⟨gJ,aR,eG,aS,eH⟩:=EU t
 refine cl L0 (tF _ _ a.aM aR (of_decide_eq_true (dT l))) ?_
 rintro _ gK ⟨rfl,aT⟩
 have dw:=aS _ _ aT
 refine Mz rfl (Kz (.agg #[.bool false, .func (.func 172) #[] #[], .func (.func 173) #[] #[], .func (.func 174) #[] #[], .func (.func 175) #[] #[]]) (Kz (.bool true) ?_))
 refine dK [.bool false, .nilFunc, .nilFunc, .nilFunc, .nilFunc] 231 dw ?_
 intro aU gL dx
 refine dN [.bool false, .func (.func 172) #[] #[], .func (.func 173) #[] #[], .func (.func 174) #[] #[], .func (.func 175) #[] #[]] 0 dx K5 ?_
 intro gM dz
 refine An rfl (EP (EP ?_))
 refine o5 [] (E9 (E9 Fp)) dz ?_
 intro gN dA
 refine qv 0 rfl rfl (qk (.bool false) 1 rfl (qv 2 rfl rfl (EZ (v:=vP aU 1) (rs:= []) 3 rfl rfl rfl rfl e7 (fun _ _=>yk) (EZ (v:= .func (.func 172) #[] #[]) (rs:= []) 4 rfl rfl rfl rfl e7 (fun _ ⟨_,h⟩=>EY rfl (bZ.one L3 (FE (h.cls (i:=0) rfl) rfl))) (EZ (v:= .agg (bC.cells a).toArray) (rs:= []) 5 rfl rfl rfl rfl e7 (fun _ ⟨_,h⟩=>EY rfl (Fb (cs:=(bC.cells a)) K7 K6 ((h.cls (i:=1) rfl).lit (k:=0) (m:=6) rfl))) (EZ (v:= .agg (bC.cells a).toArray) (rs:= []) 7 rfl rfl rfl rfl e7 (fun _ ⟨_,h⟩=>EY rfl (Fb (cs:=(bC.cells a)) K7 K6 ((h.cls (i:=1) rfl).lit (k:=0) (m:=6) rfl))) ?_))))))
 obtain⟨f,F⟩:∃ q,qV a=q:=⟨_,rfl⟩
 obtain⟨gP,aV,eO,aW,eP⟩:=EU dA
 refine Gg 6 rfl rfl rfl rfl e7 (Fw Tryz.call172 rfl rfl (uY _ _ a f aV F) ?_)
 rintro _ gQ ⟨rfl,aX⟩
 have G:=aW _ _ aX
 refine⟨.inr ⟨_,G⟩, ?_⟩
 refine EZ (v:= .bool (decide (¬ ((f.aM=a.aM)∧(f.bY=a.bY)∧(f.aU=a.aU)∧(f.bJ=a.bJ)∧(f.bX=a.bX)∧(f.bT=a.bT))))) (rs:= []) 8 rfl rfl rfl rfl e7 (fun _ _=>Fs (e:= !(decide ((f.aM=a.aM)∧(f.bY=a.bY)∧(f.aU=a.aU)∧(f.bJ=a.bJ)∧(f.bX=a.bX)∧(f.bT=a.bT)))) (Gf rfl rfl e7 rfl (jN.struct L4 e7 (jk.dec (jk.cons (u:=vI f.aM) (v:=vI a.aM) f3 (fun _=>by kernel_rfl) (fun _=>by kernel_rfl) (jN.int B4) (jk.cons (u:= .string ⟨y6 f.bY⟩) (v:= .string ⟨y6 a.bY⟩) f3 (fun _=>by kernel_rfl) (fun _=>by kernel_rfl) (jN.string B5) (jk.cons (u:= .string ⟨y6 f.aU⟩) (v:= .string ⟨y6 a.aU⟩) f3 (fun _=>by kernel_rfl) (fun _=>by kernel_rfl) (jN.string B5) (jk.cons (u:= .string ⟨y6 f.bJ⟩) (v:= .string ⟨y6 a.bJ⟩) f3 (fun _=>by kernel_rfl) (fun _=>by kernel_rfl) (jN.string B5) (jk.cons (u:= .string ⟨y6 f.bX⟩) (v:= .string ⟨y6 a.bX⟩) f3 (fun _=>by kernel_rfl) (fun _=>by kernel_rfl) (jN.string B5) (jk.cons (u:=vI f.bT) (v:=vI a.bT) f3 (fun _=>by kernel_rfl) (fun _=>by kernel_rfl) (jN.int B4) (jk.nil.up (IU _)))))))) ((congrArg (decide (f.aM=a.aM) && ·) ((congrArg (decide (f.bY=a.bY) && ·) ((congrArg (decide (f.aU=a.aU) && ·) ((congrArg (decide (f.bJ=a.bJ) && ·) ((congrArg (decide (f.bX=a.bX) && ·) qz).trans iT)).trans iT)).trans iT)).trans iT)).trans iT)))) decide_not.symm) (qt (v:= .bool (decide (¬ ((f.aM=a.aM)∧(f.bY=a.bY)∧(f.aU=a.aU)∧(f.bJ=a.bJ)∧(f.bX=a.bX)∧(f.bT=a.bT))))) 9 rfl (fun _ _=>ES rfl rfl rfl) (qn (ER ?_)))
 by_cases N:(f.aM=a.aM)∧(f.bY=a.bY)∧(f.aU=a.aU)∧(f.bJ=a.bJ)∧(f.bX=a.bX)∧(f.bT=a.bT)
 refine jF (dF (IV N)) (sk (sr (Kz (vP aU 2) (Lz (.func (.func 173) #[] #[]) G 0 L5 (La (bC.cells a) G 1 K7 K6 ?_)))))
 obtain⟨aY,P⟩:∃ q,o8 a=q:=⟨_,rfl⟩
 obtain⟨gT,aZ,eQ,bf,eT⟩:=EU G
 refine WL.do rfl (Fw Tryz.call173 rfl rfl (tH _ _ a aY aZ P) ?_)
 rintro _ gU ⟨rfl,bg⟩
 have dB:=bf _ _ bg
 refine An rfl (rt (rs ?_))
 have dC:=dB.pk []
 obtain rfl:_=aY:=hr.symm.trans (et (ip l) (et (ah F) (et (ip N) (ah P))))
 exact⟨rfl,dC,e6⟩
 refine jT (dT N) (sr (An rfl (rt (tR (rs ?_)))))
 have dD:=G.pk []
 obtain rfl:_=40:=hr.symm.trans (et (ip l) (et (ah F) (iN N)))
 exact⟨rfl,dD,e6⟩
 by_cases n:a.aM=2
 obtain⟨gV,bi,eU,bn,eX⟩:=EU t
 refine cl L0 (tJ _ _ a.aM bi (of_decide_eq_true (dT n))) ?_
 rintro _ gW ⟨rfl,bq⟩
 have dE:=bn _ _ bq
 refine Mz rfl (Kz (.agg #[.bool true, .func (.func 176) #[] #[], .func (.func 177) #[] #[], .func (.func 174) #[] #[], .func (.func 178) #[] #[]]) (Kz (.bool true) ?_))
 refine dK [.bool false, .nilFunc, .nilFunc, .nilFunc, .nilFunc] 231 dE ?_
 intro bu gX dG
 refine dN [.bool true, .func (.func 176) #[] #[], .func (.func 177) #[] #[], .func (.func 174) #[] #[], .func (.func 178) #[] #[]] 0 dG K5 ?_
 intro gY dH
 refine An rfl (EP (EP ?_))
 refine o5 [] (E9 (E9 Fp)) dH ?_
 intro gZ dI
 refine qv 0 rfl rfl (qk (.bool false) 1 rfl (qv 2 rfl rfl (EZ (v:=vP bu 1) (rs:= []) 3 rfl rfl rfl rfl e7 (fun _ _=>yk) (EZ (v:= .func (.func 176) #[] #[]) (rs:= []) 4 rfl rfl rfl rfl e7 (fun _ ⟨_,h⟩=>EY rfl (bZ.one L3 (FE (h.cls (i:=0) rfl) rfl))) (EZ (v:= .agg (bC.cells a).toArray) (rs:= []) 5 rfl rfl rfl rfl e7 (fun _ ⟨_,h⟩=>EY rfl (Fb (cs:=(bC.cells a)) K7 K6 ((h.cls (i:=1) rfl).lit (k:=0) (m:=6) rfl))) (EZ (v:= .agg (bC.cells a).toArray) (rs:= []) 7 rfl rfl rfl rfl e7 (fun _ ⟨_,h⟩=>EY rfl (Fb (cs:=(bC.cells a)) K7 K6 ((h.cls (i:=1) rfl).lit (k:=0) (m:=6) rfl))) ?_))))))
 obtain⟨g,I⟩:∃ q,ul a=q:=⟨_,rfl⟩
 obtain⟨ib,bv,eY,bz,eZ⟩:=EU dI
 refine Gg 6 rfl rfl rfl rfl e7 (Fw Tryz.call176 rfl rfl (yu _ _ a g bv I) ?_)
 rintro _ ic ⟨rfl,bA⟩
 have J:=bz _ _ bA
 refine⟨.inr ⟨_,J⟩, ?_⟩
 refine EZ (v:= .bool (decide (¬ ((g.aM=a.aM)∧(g.bY=a.bY)∧(g.aU=a.aU)∧(g.bJ=a.bJ)∧(g.bX=a.bX)∧(g.bT=a.bT))))) (rs:= []) 8 rfl rfl rfl rfl e7 (fun _ _=>Fs (e:= !(decide ((g.aM=a.aM)∧(g.bY=a.bY)∧(g.aU=a.aU)∧(g.bJ=a.bJ)∧(g.bX=a.bX)∧(g.bT=a.bT)))) (Gf rfl rfl e7 rfl (jN.struct L4 e7 (jk.dec (jk.cons (u:=vI g.aM) (v:=vI a.aM) f3 (fun _=>by kernel_rfl) (fun _=>by kernel_rfl) (jN.int B4) (jk.cons (u:= .string ⟨y6 g.bY⟩) (v:= .string ⟨y6 a.bY⟩) f3 (fun _=>by kernel_rfl) (fun _=>by kernel_rfl) (jN.string B5) (jk.cons (u:= .string ⟨y6 g.aU⟩) (v:= .string ⟨y6 a.aU⟩) f3 (fun _=>by kernel_rfl) (fun _=>by kernel_rfl) (jN.string B5) (jk.cons (u:= .string ⟨y6 g.bJ⟩) (v:= .string ⟨y6 a.bJ⟩) f3 (fun _=>by kernel_rfl) (fun _=>by kernel_rfl) (jN.string B5) (jk.cons (u:= .string ⟨y6 g.bX⟩) (v:= .string ⟨y6 a.bX⟩) f3 (fun _=>by kernel_rfl) (fun _=>by kernel_rfl) (jN.string B5) (jk.cons (u:=vI g.bT) (v:=vI a.bT) f3 (fun _=>by kernel_rfl) (fun _=>by kernel_rfl) (jN.int B4) (jk.nil.up (IU _)))))))) ((congrArg (decide (g.aM=a.aM) && ·) ((congrArg (decide (g.bY=a.bY) && ·) ((congrArg (decide (g.aU=a.aU) && ·) ((congrArg (decide (g.bJ=a.bJ) && ·) ((congrArg (decide (g.bX=a.bX) && ·) qz).trans iT)).trans iT)).trans iT)).trans iT)).trans iT)))) decide_not.symm) (qt (v:= .bool (decide (¬ ((g.aM=a.aM)∧(g.bY=a.bY)∧(g.aU=a.aU)∧(g.bJ=a.bJ)∧(g.bX=a.bX)∧(g.bT=a.bT))))) 9 rfl (fun _ _=>ES rfl rfl rfl) (qn (ER ?_)))
 by_cases O:(g.aM=a.aM)∧(g.bY=a.bY)∧(g.aU=a.aU)∧(g.bJ=a.bJ)∧(g.bX=a.bX)∧(g.bT=a.bT)
 refine jF (dF (IV O)) (sk (sr (Kz (vP bu 2) (Lz (.func (.func 177) #[] #[]) J 0 L5 (La (bC.cells a) J 1 K7 K6 ?_)))))
 obtain⟨bB,Q⟩:∃ q,rW a=q:=⟨_,rfl⟩
 obtain⟨ig,bD,fe,bE,fo⟩:=EU J
 refine WL.do rfl (Fw Tryz.call177 rfl rfl (xc _ _ a bB bD Q) ?_)
 rintro _ ik ⟨rfl,X⟩
 have bF:=bE _ _ X
 refine An rfl (rt (rs ?_))
 have bG:=bF.pk []
 obtain rfl:_=bB:=hr.symm.trans (et (iN l) (et (ip n) (et (ah I) (et (ip O) (ah Q)))))
 exact⟨rfl,bG,e6⟩
 refine jT (dT O) (sr (An rfl (rt (tR (rs ?_)))))
 have bH:=J.pk []
 obtain rfl:_=40:=hr.symm.trans (et (iN l) (et (ip n) (et (ah I) (iN O))))
 exact⟨rfl,bH,e6⟩
 by_cases j:a.aM=3
 obtain⟨fq,Y,dJ,Z,dL⟩:=EU t
 refine cl L0 (tK _ _ a.aM Y (of_decide_eq_true (dT j))) ?_
 rintro _ fu ⟨rfl,aa⟩
 have bI:=Z _ _ aa
 refine Mz rfl (Kz (.agg #[.bool true, .func (.func 172) #[] #[], .func (.func 173) #[] #[], .func (.func 174) #[] #[], .func (.func 179) #[] #[]]) (Kz (.bool true) ?_))
 refine dK [.bool false, .nilFunc, .nilFunc, .nilFunc, .nilFunc] 231 bI ?_
 intro R fw bJ
 refine dN [.bool true, .func (.func 172) #[] #[], .func (.func 173) #[] #[], .func (.func 174) #[] #[], .func (.func 179) #[] #[]] 0 bJ K5 ?_
 intro fA bK
 refine An rfl (EP (EP ?_))
 refine o5 [] (E9 (E9 Fp)) bK ?_
 intro fB bL
 refine qv 0 rfl rfl (qk (.bool false) 1 rfl (qv 2 rfl rfl (EZ (v:=vP R 1) (rs:= []) 3 rfl rfl rfl rfl e7 (fun _ _=>yk) (EZ (v:= .func (.func 172) #[] #[]) (rs:= []) 4 rfl rfl rfl rfl e7 (fun _ ⟨_,h⟩=>EY rfl (bZ.one L3 (FE (h.cls (i:=0) rfl) rfl))) (EZ (v:= .agg (bC.cells a).toArray) (rs:= []) 5 rfl rfl rfl rfl e7 (fun _ ⟨_,h⟩=>EY rfl (Fb (cs:=(bC.cells a)) K7 K6 ((h.cls (i:=1) rfl).lit (k:=0) (m:=6) rfl))) (EZ (v:= .agg (bC.cells a).toArray) (rs:= []) 7 rfl rfl rfl rfl e7 (fun _ ⟨_,h⟩=>EY rfl (Fb (cs:=(bC.cells a)) K7 K6 ((h.cls (i:=1) rfl).lit (k:=0) (m:=6) rfl))) ?_))))))
 obtain⟨b,x⟩:∃ q,qV a=q:=⟨_,rfl⟩
 obtain⟨fC,ae,dM,af,dO⟩:=EU bL
 refine Gg 6 rfl rfl rfl rfl e7 (Fw Tryz.call172 rfl rfl (uY _ _ a b ae x) ?_)
 rintro _ fD ⟨rfl,ag⟩
 have p:=af _ _ ag
 refine⟨.inr ⟨_,p⟩, ?_⟩
 refine EZ (v:= .bool (decide (¬ ((b.aM=a.aM)∧(b.bY=a.bY)∧(b.aU=a.aU)∧(b.bJ=a.bJ)∧(b.bX=a.bX)∧(b.bT=a.bT))))) (rs:= []) 8 rfl rfl rfl rfl e7 (fun _ _=>Fs (e:= !(decide ((b.aM=a.aM)∧(b.bY=a.bY)∧(b.aU=a.aU)∧(b.bJ=a.bJ)∧(b.bX=a.bX)∧(b.bT=a.bT)))) (Gf rfl rfl e7 rfl (jN.struct L4 e7 (jk.dec (jk.cons (u:=vI b.aM) (v:=vI a.aM) f3 (fun _=>by kernel_rfl) (fun _=>by kernel_rfl) (jN.int B4) (jk.cons (u:= .string ⟨y6 b.bY⟩) (v:= .string ⟨y6 a.bY⟩) f3 (fun _=>by kernel_rfl) (fun _=>by kernel_rfl) (jN.string B5) (jk.cons (u:= .string ⟨y6 b.aU⟩) (v:= .string ⟨y6 a.aU⟩) f3 (fun _=>by kernel_rfl) (fun _=>by kernel_rfl) (jN.string B5) (jk.cons (u:= .string ⟨y6 b.bJ⟩) (v:= .string ⟨y6 a.bJ⟩) f3 (fun _=>by kernel_rfl) (fun _=>by kernel_rfl) (jN.string B5) (jk.cons (u:= .string ⟨y6 b.bX⟩) (v:= .string ⟨y6 a.bX⟩) f3 (fun _=>by kernel_rfl) (fun _=>by kernel_rfl) (jN.string B5) (jk.cons (u:=vI b.bT) (v:=vI a.bT) f3 (fun _=>by kernel_rfl) (fun _=>by kernel_rfl) (jN.int B4) (jk.nil.up (IU _)))))))) ((congrArg (decide (b.aM=a.aM) && ·) ((congrArg (decide (b.bY=a.bY) && ·) ((congrArg (decide (b.aU=a.aU) && ·) ((congrArg (decide (b.bJ=a.bJ) && ·) ((congrArg (decide (b.bX=a.bX) && ·) qz).trans iT)).trans iT)).trans iT)).trans iT)).trans iT)))) decide_not.symm) (qt (v:= .bool (decide (¬ ((b.aM=a.aM)∧(b.bY=a.bY)∧(b.aU=a.aU)∧(b.bJ=a.bJ)∧(b.bX=a.bX)∧(b.bT=a.bT))))) 9 rfl (fun _ _=>ES rfl rfl rfl) (qn (ER ?_)))
 by_cases A:(b.aM=a.aM)∧(b.bY=a.bY)∧(b.aU=a.aU)∧(b.bJ=a.bJ)∧(b.bX=a.bX)∧(b.bT=a.bT)
 refine jF (dF (IV A)) (sk (sr (Kz (vP R 2) (Lz (.func (.func 173) #[] #[]) p 0 L5 (La (bC.cells a) p 1 K7 K6 ?_)))))
 obtain⟨S,K⟩:∃ q,o8 a=q:=⟨_,rfl⟩
 obtain⟨fE,ai,dP,aj,dQ⟩:=EU p
 refine WL.do rfl (Fw Tryz.call173 rfl rfl (tH _ _ a S ai K) ?_)
 rintro _ fF ⟨rfl,ak⟩
 have bM:=aj _ _ ak
 refine An rfl (rt (rs ?_))
 have bN:=bM.pk []
 obtain rfl:_=S:=hr.symm.trans (et (iN l) (et (iN n) (et (ip j) (et (ah x) (et (ip A) (ah K))))))
 exact⟨rfl,bN,e6⟩
 refine jT (dT A) (sr (An rfl (rt (tR (rs ?_)))))
 have bO:=p.pk []
 obtain rfl:_=40:=hr.symm.trans (et (iN l) (et (iN n) (et (ip j) (et (ah x) (iN A)))))
 exact⟨rfl,bO,e6⟩
 by_cases o:a.aM=4
 obtain⟨fG,au,dR,av,dU⟩:=EU t
 refine cl L0 (tL _ _ a.aM au (of_decide_eq_true (dT o))) ?_
 rintro _ fH ⟨rfl,ax⟩
 have bP:=av _ _ ax
 refine Mz rfl (Kz (.agg #[.bool false, .func (.func 180) #[] #[], .func (.func 181) #[] #[], .func (.func 182) #[] #[], .func (.func 183) #[] #[]]) (Kz (.bool true) ?_))
 refine dK [.bool false, .nilFunc, .nilFunc, .nilFunc, .nilFunc] 231 bP ?_
 intro T fI bQ
 refine dN [.bool false, .func (.func 180) #[] #[], .func (.func 181) #[] #[], .func (.func 182) #[] #[], .func (.func 183) #[] #[]] 0 bQ K5 ?_
 intro fJ bR
 refine An rfl (EP (EP ?_))
 refine o5 [] (E9 (E9 Fp)) bR ?_
 intro fK bS
 refine qv 0 rfl rfl (qk (.bool false) 1 rfl (qv 2 rfl rfl (EZ (v:=vP T 1) (rs:= []) 3 rfl rfl rfl rfl e7 (fun _ _=>yk) (EZ (v:= .func (.func 180) #[] #[]) (rs:= []) 4 rfl rfl rfl rfl e7 (fun _ ⟨_,h⟩=>EY rfl (bZ.one L3 (FE (h.cls (i:=0) rfl) rfl))) (EZ (v:= .agg (bC.cells a).toArray) (rs:= []) 5 rfl rfl rfl rfl e7 (fun _ ⟨_,h⟩=>EY rfl (Fb (cs:=(bC.cells a)) K7 K6 ((h.cls (i:=1) rfl).lit (k:=0) (m:=6) rfl))) (EZ (v:= .agg (bC.cells a).toArray) (rs:= []) 7 rfl rfl rfl rfl e7 (fun _ ⟨_,h⟩=>EY rfl (Fb (cs:=(bC.cells a)) K7 K6 ((h.cls (i:=1) rfl).lit (k:=0) (m:=6) rfl))) ?_))))))
 obtain⟨c,y⟩:∃ q,um a=q:=⟨_,rfl⟩
 obtain⟨fM,ay,dV,az,dW⟩:=EU bS
 refine Gg 6 rfl rfl rfl rfl e7 (Fw Tryz.call180 rfl rfl (yw _ _ a c ay y) ?_)
 rintro _ fO ⟨rfl,aA⟩
 have r:=az _ _ aA
 refine⟨.inr ⟨_,r⟩, ?_⟩
 refine EZ (v:= .bool (decide (¬ ((c.aM=a.aM)∧(c.bY=a.bY)∧(c.aU=a.aU)∧(c.bJ=a.bJ)∧(c.bX=a.bX)∧(c.bT=a.bT))))) (rs:= []) 8 rfl rfl rfl rfl e7 (fun _ _=>Fs (e:= !(decide ((c.aM=a.aM)∧(c.bY=a.bY)∧(c.aU=a.aU)∧(c.bJ=a.bJ)∧(c.bX=a.bX)∧(c.bT=a.bT)))) (Gf rfl rfl e7 rfl (jN.struct L4 e7 (jk.dec (jk.cons (u:=vI c.aM) (v:=vI a.aM) f3 (fun _=>by kernel_rfl) (fun _=>by kernel_rfl) (jN.int B4) (jk.cons (u:= .string ⟨y6 c.bY⟩) (v:= .string ⟨y6 a.bY⟩) f3 (fun _=>by kernel_rfl) (fun _=>by kernel_rfl) (jN.string B5) (jk.cons (u:= .string ⟨y6 c.aU⟩) (v:= .string ⟨y6 a.aU⟩) f3 (fun _=>by kernel_rfl) (fun _=>by kernel_rfl) (jN.string B5) (jk.cons (u:= .string ⟨y6 c.bJ⟩) (v:= .string ⟨y6 a.bJ⟩) f3 (fun _=>by kernel_rfl) (fun _=>by kernel_rfl) (jN.string B5) (jk.cons (u:= .string ⟨y6 c.bX⟩) (v:= .string ⟨y6 a.bX⟩) f3 (fun _=>by kernel_rfl) (fun _=>by kernel_rfl) (jN.string B5) (jk.cons (u:=vI c.bT) (v:=vI a.bT) f3 (fun _=>by kernel_rfl) (fun _=>by kernel_rfl) (jN.int B4) (jk.nil.up (IU _)))))))) ((congrArg (decide (c.aM=a.aM) && ·) ((congrArg (decide (c.bY=a.bY) && ·) ((congrArg (decide (c.aU=a.aU) && ·) ((congrArg (decide (c.bJ=a.bJ) && ·) ((congrArg (decide (c.bX=a.bX) && ·) qz).trans iT)).trans iT)).trans iT)).trans iT)).trans iT)))) decide_not.symm) (qt (v:= .bool (decide (¬ ((c.aM=a.aM)∧(c.bY=a.bY)∧(c.aU=a.aU)∧(c.bJ=a.bJ)∧(c.bX=a.bX)∧(c.bT=a.bT))))) 9 rfl (fun _ _=>ES rfl rfl rfl) (qn (ER ?_)))
 by_cases B:(c.aM=a.aM)∧(c.bY=a.bY)∧(c.aU=a.aU)∧(c.bJ=a.bJ)∧(c.bX=a.bX)∧(c.bT=a.bT)
 refine jF (dF (IV B)) (sk (sr (Kz (vP T 2) (Lz (.func (.func 181) #[] #[]) r 0 L5 (La (bC.cells a) r 1 K7 K6 ?_)))))
 obtain⟨U,L⟩:∃ q,qc a=q:=⟨_,rfl⟩
 obtain⟨fP,aB,dX,aC,dY⟩:=EU r
 refine WL.do rfl (Fw Tryz.call181 rfl rfl (xg _ _ a U aB L) ?_)
 rintro _ fQ ⟨rfl,aD⟩
 have bT:=aC _ _ aD
 refine An rfl (rt (rs ?_))
 have bU:=bT.pk []
 obtain rfl:_=U:=hr.symm.trans (et (iN l) (et (iN n) (et (iN j) (et (ip o) (et (ah y) (et (ip B) (ah L)))))))
 exact⟨rfl,bU,e6⟩
 refine jT (dT B) (sr (An rfl (rt (tR (rs ?_)))))
 have bV:=r.pk []
 obtain rfl:_=40:=hr.symm.trans (et (iN l) (et (iN n) (et (iN j) (et (ip o) (et (ah y) (iN B))))))
 exact⟨rfl,bV,e6⟩
 by_cases C:a.aM=5
 obtain⟨fT,aF,dZ,aG,d9⟩:=EU t
 refine cl L0 (tN _ _ a.aM aF (of_decide_eq_true (dT C))) ?_
 rintro _ fU ⟨rfl,aH⟩
 have bW:=aG _ _ aH
 refine Mz rfl (Kz (.agg #[.bool true, .func (.func 184) #[] #[], .func (.func 185) #[] #[], .func (.func 182) #[] #[], .func (.func 186) #[] #[]]) (Kz (.bool true) ?_))
 refine dK [.bool false, .nilFunc, .nilFunc, .nilFunc, .nilFunc] 231 bW ?_
 intro V fV bX
 refine dN [.bool true, .func (.func 184) #[] #[], .func (.func 185) #[] #[], .func (.func 182) #[] #[], .func (.func 186) #[] #[]] 0 bX K5 ?_
 intro fZ bY
 refine An rfl (EP (EP ?_))
 refine o5 [] (E9 (E9 Fp)) bY ?_
 intro gm cu
 refine qv 0 rfl rfl (qk (.bool false) 1 rfl (qv 2 rfl rfl (EZ (v:=vP V 1) (rs:= []) 3 rfl rfl rfl rfl e7 (fun _ _=>yk) (EZ (v:= .func (.func 184) #[] #[]) (rs:= []) 4 rfl rfl rfl rfl e7 (fun _ ⟨_,h⟩=>EY rfl (bZ.one L3 (FE (h.cls (i:=0) rfl) rfl))) (EZ (v:= .agg (bC.cells a).toArray) (rs:= []) 5 rfl rfl rfl rfl e7 (fun _ ⟨_,h⟩=>EY rfl (Fb (cs:=(bC.cells a)) K7 K6 ((h.cls (i:=1) rfl).lit (k:=0) (m:=6) rfl))) (EZ (v:= .agg (bC.cells a).toArray) (rs:= []) 7 rfl rfl rfl rfl e7 (fun _ ⟨_,h⟩=>EY rfl (Fb (cs:=(bC.cells a)) K7 K6 ((h.cls (i:=1) rfl).lit (k:=0) (m:=6) rfl))) ?_))))))
 obtain⟨d,z⟩:∃ q,sP a=q:=⟨_,rfl⟩
 obtain⟨gp,aI,ed,aJ,ek⟩:=EU cu
 refine Gg 6 rfl rfl rfl rfl e7 (Fw Tryz.call184 rfl rfl (xI _ _ a d aI z) ?_)
 rintro _ gq ⟨rfl,aK⟩
 have s:=aJ _ _ aK
 refine⟨.inr ⟨_,s⟩, ?_⟩
 refine EZ (v:= .bool (decide (¬ ((d.aM=a.aM)∧(d.bY=a.bY)∧(d.aU=a.aU)∧(d.bJ=a.bJ)∧(d.bX=a.bX)∧(d.bT=a.bT))))) (rs:= []) 8 rfl rfl rfl rfl e7 (fun _ _=>Fs (e:= !(decide ((d.aM=a.aM)∧(d.bY=a.bY)∧(d.aU=a.aU)∧(d.bJ=a.bJ)∧(d.bX=a.bX)∧(d.bT=a.bT)))) (Gf rfl rfl e7 rfl (jN.struct L4 e7 (jk.dec (jk.cons (u:=vI d.aM) (v:=vI a.aM) f3 (fun _=>by kernel_rfl) (fun _=>by kernel_rfl) (jN.int B4) (jk.cons (u:= .string ⟨y6 d.bY⟩) (v:= .string ⟨y6 a.bY⟩) f3 (fun _=>by kernel_rfl) (fun _=>by kernel_rfl) (jN.string B5) (jk.cons (u:= .string ⟨y6 d.aU⟩) (v:= .string ⟨y6 a.aU⟩) f3 (fun _=>by kernel_rfl) (fun _=>by kernel_rfl) (jN.string B5) (jk.cons (u:= .string ⟨y6 d.bJ⟩) (v:= .string ⟨y6 a.bJ⟩) f3 (fun _=>by kernel_rfl) (fun _=>by kernel_rfl) (jN.string B5) (jk.cons (u:= .string ⟨y6 d.bX⟩) (v:= .string ⟨y6 a.bX⟩) f3 (fun _=>by kernel_rfl) (fun _=>by kernel_rfl) (jN.string B5) (jk.cons (u:=vI d.bT) (v:=vI a.bT) f3 (fun _=>by kernel_rfl) (fun _=>by kernel_rfl) (jN.int B4) (jk.nil.up (IU _)))))))) ((congrArg (decide (d.aM=a.aM) && ·) ((congrArg (decide (d.bY=a.bY) && ·) ((congrArg (decide (d.aU=a.aU) && ·) ((congrArg (decide (d.bJ=a.bJ) && ·) ((congrArg (decide (d.bX=a.bX) && ·) qz).trans iT)).trans iT)).trans iT)).trans iT)).trans iT)))) decide_not.symm) (qt (v:= .bool (decide (¬ ((d.aM=a.aM)∧(d.bY=a.bY)∧(d.aU=a.aU)∧(d.bJ=a.bJ)∧(d.bX=a.bX)∧(d.bT=a.bT))))) 9 rfl (fun _ _=>ES rfl rfl rfl) (qn (ER ?_)))
 by_cases E:(d.aM=a.aM)∧(d.bY=a.bY)∧(d.aU=a.aU)∧(d.bJ=a.bJ)∧(d.bX=a.bX)∧(d.bT=a.bT)
 refine jF (dF (IV E)) (sk (sr (Kz (vP V 2) (Lz (.func (.func 185) #[] #[]) s 0 L5 (La (bC.cells a) s 1 K7 K6 ?_)))))
 obtain⟨W,M⟩:∃ q,nW a=q:=⟨_,rfl⟩
 obtain⟨gu,aL,eu,aM,eB⟩:=EU s
 refine WL.do rfl (Fw Tryz.call185 rfl rfl (rY _ _ a W aL M) ?_)
 rintro _ gy ⟨rfl,aN⟩
 have cz:=aM _ _ aN
 refine An rfl (rt (rs ?_))
 have cB:=cz.pk []
 obtain rfl:_=W:=hr.symm.trans (et (iN l) (et (iN n) (et (iN j) (et (iN o) (et (ip C) (et (ah z) (et (ip E) (ah M))))))))
 exact⟨rfl,cB,e6⟩
 refine jT (dT E) (sr (An rfl (rt (tR (rs ?_)))))
 have cK:=s.pk []
 obtain rfl:_=40:=hr.symm.trans (et (iN l) (et (iN n) (et (iN j) (et (iN o) (et (ip C) (et (ah z) (iN E)))))))
 exact⟨rfl,cK,e6⟩
 obtain⟨gz,aO,eD,aP,eF⟩:=EU t
 refine cl L0 (sJ _ _ a.aM aO e6 e6 e6 e6 e6) ?_
 rintro _ gB ⟨rfl,aQ⟩
 have cO:=aP _ _ aQ
 refine Mz rfl (Kz (.agg #[.bool false, .nilFunc, .nilFunc, .nilFunc, .nilFunc]) (Kz (.bool false) ?_))
 refine dK [.bool false, .nilFunc, .nilFunc, .nilFunc, .nilFunc] 231 cO ?_
 intro gD gF cZ
 refine dN [.bool false, .nilFunc, .nilFunc, .nilFunc, .nilFunc] 0 cZ K5 ?_
 intro gG df
 refine An rfl (EP (EP ?_))
 refine o5 [] (E9 (E9 Fp)) df ?_
 intro gH dh
 refine qv 0 rfl rfl (qk (.bool true) 1 rfl (qv 2 rfl rfl (EW (rs:= []) 3 rfl rfl rfl rfl e7 (EW (rs:= []) 4 rfl rfl rfl rfl e7 (EW (rs:= []) 5 rfl rfl rfl rfl e7 (EW (rs:= []) 6 rfl rfl rfl rfl e7 (EW (rs:= []) 7 rfl rfl rfl rfl e7 (EW (rs:= []) 8 rfl rfl rfl rfl e7 (qt (v:= .bool true) 9 rfl (fun _ _=>Fa rfl rfl rfl) (qn (ER (jt (sr (An rfl (rt (tR (rs ?_)))))))))))))))))
 have di:=dh.pk []
 obtain rfl:_=40:=hr.symm.trans (et (iN l) (et (iN n) (et (iN j) (et (iN o) (iN C)))))
 exact⟨rfl,di,e6⟩
def jE:List bC→Unit ⊕ Int
  | []=>C1 ()
  | b::c=>bnd (kW b) fun a=>if a=0 then jE c else C3 (a)
def qf (l0:List bC):Int:=
 lp (jE l0) fun _=>0
theorem xh (w:World) (D:Nat→Prop) (o:Option Addr) (A B:Nat) (l0:List bC) (L:Int) (H:Own w D w []) (n:Ro w D fun w'=>bD w' 6 o A (q6 bC.cells l0)) (C:A=l0.length) (P:l0.length≤9223372036854775807) (hr:qf l0=L):
    Calls y4 157 #[.slice o A B] w (dS fun v w'=>v=vI L∧Own w D w' []):=by
 subst C
 refine cb Tryz.func157 ?_
 refine sr (An rfl (EP (sr (Mz rfl (Kz (vJ l0.length) (Mn rfl (bo ?_)))))))
 have E:=H.pk []
 obtain⟨F,d⟩:=lK fun(a:Nat) (w':World)=>Own w D w' []∧a≤l0.length∧jE l0=jE (r6 a l0)
 refine C5 (fun i:Nat=> [(2,vI 0),(8,vJ i),(7,vJ l0.length),(6, .slice o l0.length B)]) F (fun i=>l0.length - i) 0 ⟨rfl,rfl,rfl,rfl,trivial⟩ (d.2 ⟨E,e6,rfl⟩) ?_
 rintro a Q p
 obtain⟨f,M,g⟩:=d.1 p
 refine sr (Kz (.bool (decide (((a:Nat):Int) < ((l0.length:Nat):Int)))) (nt (EP ?_)))
 by_cases r:((a:Nat):Int) < ((l0.length:Nat):Int)
 obtain⟨b,k⟩:=dG (ls:=l0) (i:=a) bC.len f3 (f.ro n) e9
 have l:=drop_at k
 refine jT (dT r) (sk (EP (bo (sr (fw (.pointer (some ⟨ab o,ao o+a *6,none⟩)) (ET (pW) rfl rfl ((f.ro n).addr (i:=a) e6) e6) (fw (.agg (bC.cells b).toArray) (EY rfl (Fb (cs:=(bC.cells b)) K7 K6 ((f.ro n).elem bC.len k f3))) ?_))))))
 refine dK [vI 0, .string ⟨y6 ([])⟩, .string ⟨y6 ([])⟩, .string ⟨y6 ([])⟩, .string ⟨y6 ([])⟩,vI 0] 72 f ?_
 intro R S G
 refine dN (bC.cells b) 0 G K6 ?_
 intro T s
 refine ns (La (bC.cells b) s 0 K7 K6 ?_)
 obtain⟨c,h⟩:∃ q,kW b=q:=⟨_,rfl⟩
 obtain⟨U,t,N,u,O⟩:=EU s
 refine cl L6 (rz _ _ b c t h) ?_
 rintro _ V ⟨rfl,x,m⟩
 have y:=u _ _ x
 replace m: ¬ (c=0)∨(1≤b.aM∧b.aM≤5):=m
 refine Ar rfl (Mz rfl (fw (.bool (decide (¬ (c=0)))) (Fs (e:= !(decide (c=0))) yk decide_not.symm) (nt ?_)))
 by_cases j:c=0
 refine jF (dF (IV j)) (Fq (bN (ER (EO (fw (vJ (a+1)) (EQ (e:=C7.wrap (((a:Nat):Int)+1)) yk f1) (Mz rfl (D0 ?_)))))))
 have I:=y.pk []
 exact E8 (a+1) ⟨rfl,rfl,rfl,rfl,trivial⟩ (d.2 ⟨I,e6,et (g) (et (congrArg (fun q=>jE q) l) (et (ah h) (ip j)))⟩) (by show l0.length - (a+1) < l0.length - a; omega)
 refine jT (dT j) (sr (Mz rfl (An rfl (rt (bR (tR (tR (bR (tR (rs ?_))))))))))
 have J:=y.pk []
 obtain rfl:_=c:=hr.symm.trans (iY (et (g) (et (congrArg (fun q=>jE q) l) (et (ah h) (iN j)))))
 exact⟨rfl,J⟩
 refine jF (dF r) (D1 (EX ?_))
 have z:jE l0=C1 ():=et (g) (et (congrArg (fun q=>jE q) (eD (ls:=l0) (i:=a) e6)) rfl)
 refine EX (Fg (ER (sr (An rfl (rt (rs ?_))))))
 have K:=f.pk []
 obtain rfl:_=0:=hr.symm.trans (nI z)
 exact⟨rfl,K⟩
def nN (l0:List bC):Int:=
 if((l0.length:Nat):Int) < 1 then 3 else if((l0.length:Nat):Int) > 4 then 3 else bnd (qf l0) fun a=>a
theorem wm (w:World) (D:Nat→Prop) (i:Option Addr) (j k:Nat) (l0:List bC) (l:Int) (H:Own w D w []) (m:Ro w D fun w'=>bD w' 6 i j (q6 bC.cells l0)) (n:j=l0.length) (u:l0.length≤9223372036854775807) (hr:nN l0=l):
    Calls y4 137 #[.slice i j k] w (dS fun v w'=>v=vI l∧Own w D w' []∧(¬ (l=0)∨(1≤l0.length∧l0.length≤4))):=by
 subst n
 refine cb Tryz.func137 ?_
 refine sr (An rfl (EP (sr (Mz rfl (Kz (vJ l0.length) (Kz (.bool (decide (((l0.length:Nat):Int) < 1))) (Mz rfl ?_)))))))
 by_cases a:((l0.length:Nat):Int) < 1
 refine Sz (dT a) (Sz (dT a) (Sz (dT a) (fw (.bool true) (Fa rfl (dT a) rfl) (nt (jt (sr (An rfl (rt (tR (rs ?_))))))))))
 have o:=H.pk []
 obtain rfl:_=3:=hr.symm.trans (ip a)
 exact⟨rfl,o,e6⟩
 refine gw (.slice i l0.length k) (dF a) (E5 rfl) (Gz (vJ l0.length) (dF a) (Gz (.bool (decide (((l0.length:Nat):Int) > 4))) (dF a) (fw (.bool (decide (((l0.length:Nat):Int) > 4))) (ES rfl (dF a) rfl) (nt ?_))))
 by_cases b:((l0.length:Nat):Int) > 4
 refine jT (dT b) (sr (An rfl (rt (tR (rs ?_)))))
 have p:=H.pk []
 obtain rfl:_=3:=hr.symm.trans (et (iN a) (ip b))
 exact⟨rfl,p,e6⟩
 refine jF (dF b) (sk (sr (Mz rfl ?_)))
 obtain⟨d,c⟩:∃ q,qf l0=q:=⟨_,rfl⟩
 obtain⟨x,e,f,g,t⟩:=EU H
 refine cl Tryz.call157 (xh _ _ i l0.length k l0 d e (f _ m) rfl e6 c) ?_
 rintro _ y ⟨rfl,h⟩
 have r:=g _ _ h
 refine An rfl (rt (rs ?_))
 have s:=r.pk []
 obtain rfl:_=d:=hr.symm.trans (et (iN a) (et (iN b) (ah c)))
 exact⟨rfl,s,e6⟩
def kP:List bC→Unit ⊕ Bool
  | []=>C1 ()
  | b::c=>bnd (kW b) fun a=>if a=0 then kP c else C3 (false)
def sQ (l0:List bC):Bool:=
 lp (kP l0) fun _=>true
theorem xJ (w:World) (D:Nat→Prop) (o:Option Addr) (A B:Nat) (l0:List bC) (L:Bool) (H:Own w D w []) (n:Ro w D fun w'=>bD w' 6 o A (q6 bC.cells l0)) (C:A=l0.length) (P:l0.length≤9223372036854775807) (hr:sQ l0=L):
    Calls y4 138 #[.slice o A B, .func (.func 139) #[] #[]] w (dS fun v w'=>v= .bool L∧Own w D w' []):=by
 subst C
 refine cb Tryz.func138 ?_
 refine sr (An rfl (EP (sr (Mz rfl (Kz (vJ l0.length) (Mn rfl (bo ?_)))))))
 have E:=H.pk []
 obtain⟨F,c⟩:=lK fun(a:Nat) (w':World)=>Own w D w' []∧a≤l0.length∧kP l0=kP (r6 a l0)
 refine C5 (fun i:Nat=> [(4, .bool false),(9,vJ i),(8,vJ l0.length),(7, .slice o l0.length B),(1, .func (.func 139) #[] #[])]) F (fun i=>l0.length - i) 0 ⟨rfl,rfl,rfl,rfl,rfl,trivial⟩ (c.2 ⟨E,e6,rfl⟩) ?_
 rintro a Q p
 obtain⟨d,M,f⟩:=c.1 p
 refine sr (Kz (.bool (decide (((a:Nat):Int) < ((l0.length:Nat):Int)))) (nt (EP ?_)))
 by_cases r:((a:Nat):Int) < ((l0.length:Nat):Int)
 obtain⟨b,k⟩:=dG (ls:=l0) (i:=a) bC.len f3 (d.ro n) e9
 have l:=drop_at k
 refine jT (dT r) (sk (EP (bo (sr (fw (.pointer (some ⟨ab o,ao o+a *6,none⟩)) (ET (pW) rfl rfl ((d.ro n).addr (i:=a) e6) e6) (fw (.agg (bC.cells b).toArray) (EY rfl (Fb (cs:=(bC.cells b)) K7 K6 ((d.ro n).elem bC.len k f3))) ?_))))))
 refine dK [vI 0, .string ⟨y6 ([])⟩, .string ⟨y6 ([])⟩, .string ⟨y6 ([])⟩, .string ⟨y6 ([])⟩,vI 0] 72 d ?_
 intro R S G
 refine dN (bC.cells b) 0 G K6 ?_
 intro T s
 refine ns (Mz rfl (La (bC.cells b) s 0 K7 K6 ?_))
 obtain⟨g,h⟩:∃ q,kW b=q:=⟨_,rfl⟩
 obtain⟨U,t,N,u,O⟩:=EU s
 refine WL.do rfl (Fw L6 rfl rfl (rz _ _ b g t h) ?_)
 rintro _ V ⟨rfl,x,m⟩
 have y:=u _ _ x
 replace m: ¬ (g=0)∨(1≤b.aM∧b.aM≤5):=m
 refine fw (.bool (decide (¬ (g=0)))) (Fs (e:= !(decide (g=0))) yk decide_not.symm) (nt ?_)
 by_cases j:g=0
 refine jF (dF (IV j)) (Fq (bN (ER (EO (fw (vJ (a+1)) (EQ (e:=C7.wrap (((a:Nat):Int)+1)) yk f1) (Mz rfl (D0 ?_)))))))
 have I:=y.pk []
 exact E8 (a+1) ⟨rfl,rfl,rfl,rfl,rfl,trivial⟩ (c.2 ⟨I,e6,et (f) (et (congrArg (fun q=>kP q) l) (et (ah h) (ip j)))⟩) (by show l0.length - (a+1) < l0.length - a; omega)
 refine jT (dT j) (sr (An rfl (rt (bR (tR (tR (bR (tR (rs ?_)))))))))
 have J:=y.pk []
 obtain rfl:_=false:=hr.symm.trans (iY (et (f) (et (congrArg (fun q=>kP q) l) (et (ah h) (iN j)))))
 exact⟨rfl,J⟩
 refine jF (dF r) (D1 (EX ?_))
 have z:kP l0=C1 ():=et (f) (et (congrArg (fun q=>kP q) (eD (ls:=l0) (i:=a) e6)) rfl)
 refine EX (Fg (ER (sr (An rfl (rt (rs ?_))))))
 have K:=d.pk []
 obtain rfl:_=true:=hr.symm.trans (nI z)
 exact⟨rfl,K⟩
def uZ (a:bC):Bool:=
 if a.aM=1 then false else if a.aM=2 then true else if a.aM=3 then true else if a.aM=4 then false else if a.aM=5 then true else false
theorem zt (w:World) (D:Nat→Prop) (a:bC) (r0:Bool) (H:Own w D w []) (hr:uZ a=r0):
    Calls y4 159 #[.agg (bC.cells a).toArray] w (dS fun v w'=>v= .bool r0∧Own w D w' []):=by
 refine cb Tryz.func159 ?_
 refine sr ?_
 refine dK (bC.cells a) 72 H ?_
 intro S aV b
 refine Ar rfl (Kz (vP S 0) (Lz (vI a.aM) b 0 C6 ?_))
 by_cases c:a.aM=1
 obtain⟨aW,m,aD,n,aF⟩:=EU b
 refine cl L0 (tF _ _ a.aM m (of_decide_eq_true (dT c))) ?_
 rintro _ aX ⟨rfl,o⟩
 have T:=n _ _ o
 refine Mz rfl (Kz (.agg #[.bool false, .func (.func 172) #[] #[], .func (.func 173) #[] #[], .func (.func 174) #[] #[], .func (.func 175) #[] #[]]) (Kz (.bool true) ?_))
 refine dK [.bool false, .nilFunc, .nilFunc, .nilFunc, .nilFunc] 231 T ?_
 intro U aY V
 refine dN [.bool false, .func (.func 172) #[] #[], .func (.func 173) #[] #[], .func (.func 174) #[] #[], .func (.func 175) #[] #[]] 0 V K5 ?_
 intro aZ W
 refine An rfl (EP ?_)
 have p:=W.pk [0]
 refine EO (Mz rfl (Mz rfl (Gz (vP U 0) rfl (Gl (.bool false) rfl p 0 L7 (fw (.bool false) (Fa rfl rfl rfl) (An rfl (rt (rs ?_))))))))
 have X:=p.pk []
 obtain rfl:_=false:=hr.symm.trans (ip c)
 exact⟨rfl,X⟩
 by_cases d:a.aM=2
 obtain⟨bf,q,aG,r,aH⟩:=EU b
 refine cl L0 (tJ _ _ a.aM q (of_decide_eq_true (dT d))) ?_
 rintro _ bg ⟨rfl,s⟩
 have Y:=r _ _ s
 refine Mz rfl (Kz (.agg #[.bool true, .func (.func 176) #[] #[], .func (.func 177) #[] #[], .func (.func 174) #[] #[], .func (.func 178) #[] #[]]) (Kz (.bool true) ?_))
 refine dK [.bool false, .nilFunc, .nilFunc, .nilFunc, .nilFunc] 231 Y ?_
 intro Z bi aa
 refine dN [.bool true, .func (.func 176) #[] #[], .func (.func 177) #[] #[], .func (.func 174) #[] #[], .func (.func 178) #[] #[]] 0 aa K5 ?_
 intro bn ae
 refine An rfl (EP ?_)
 have t:=ae.pk [0]
 refine EO (Mz rfl (Mz rfl (Gz (vP Z 0) rfl (Gl (.bool true) rfl t 0 L7 (fw (.bool true) (Fa rfl rfl rfl) (An rfl (rt (rs ?_))))))))
 have af:=t.pk []
 obtain rfl:_=true:=hr.symm.trans (et (iN c) (ip d))
 exact⟨rfl,af⟩
 by_cases e:a.aM=3
 obtain⟨bq,u,aI,x,aJ⟩:=EU b
 refine cl L0 (tK _ _ a.aM u (of_decide_eq_true (dT e))) ?_
 rintro _ bu ⟨rfl,y⟩
 have ag:=x _ _ y
 refine Mz rfl (Kz (.agg #[.bool true, .func (.func 172) #[] #[], .func (.func 173) #[] #[], .func (.func 174) #[] #[], .func (.func 179) #[] #[]]) (Kz (.bool true) ?_))
 refine dK [.bool false, .nilFunc, .nilFunc, .nilFunc, .nilFunc] 231 ag ?_
 intro ah bv ai
 refine dN [.bool true, .func (.func 172) #[] #[], .func (.func 173) #[] #[], .func (.func 174) #[] #[], .func (.func 179) #[] #[]] 0 ai K5 ?_
 intro bz aj
 refine An rfl (EP ?_)
 have z:=aj.pk [0]
 refine EO (Mz rfl (Mz rfl (Gz (vP ah 0) rfl (Gl (.bool true) rfl z 0 L7 (fw (.bool true) (Fa rfl rfl rfl) (An rfl (rt (rs ?_))))))))
 have ak:=z.pk []
 obtain rfl:_=true:=hr.symm.trans (et (iN c) (et (iN d) (ip e)))
 exact⟨rfl,ak⟩
 by_cases f:a.aM=4
 obtain⟨bA,A,aK,B,aL⟩:=EU b
 refine cl L0 (tL _ _ a.aM A (of_decide_eq_true (dT f))) ?_
 rintro _ bB ⟨rfl,C⟩
 have au:=B _ _ C
 refine Mz rfl (Kz (.agg #[.bool false, .func (.func 180) #[] #[], .func (.func 181) #[] #[], .func (.func 182) #[] #[], .func (.func 183) #[] #[]]) (Kz (.bool true) ?_))
 refine dK [.bool false, .nilFunc, .nilFunc, .nilFunc, .nilFunc] 231 au ?_
 intro av bD ax
 refine dN [.bool false, .func (.func 180) #[] #[], .func (.func 181) #[] #[], .func (.func 182) #[] #[], .func (.func 183) #[] #[]] 0 ax K5 ?_
 intro bE ay
 refine An rfl (EP ?_)
 have E:=ay.pk [0]
 refine EO (Mz rfl (Mz rfl (Gz (vP av 0) rfl (Gl (.bool false) rfl E 0 L7 (fw (.bool false) (Fa rfl rfl rfl) (An rfl (rt (rs ?_))))))))
 have az:=E.pk []
 obtain rfl:_=false:=hr.symm.trans (et (iN c) (et (iN d) (et (iN e) (ip f))))
 exact⟨rfl,az⟩
 by_cases h:a.aM=5
 obtain⟨bF,F,aM,G,aN⟩:=EU b
 refine cl L0 (tN _ _ a.aM F (of_decide_eq_true (dT h))) ?_
 rintro _ bG ⟨rfl,i⟩
 have I:=G _ _ i
 refine Mz rfl (Kz (.agg #[.bool true, .func (.func 184) #[] #[], .func (.func 185) #[] #[], .func (.func 182) #[] #[], .func (.func 186) #[] #[]]) (Kz (.bool true) ?_))
 refine dK [.bool false, .nilFunc, .nilFunc, .nilFunc, .nilFunc] 231 I ?_
 intro J aO K
 refine dN [.bool true, .func (.func 184) #[] #[], .func (.func 185) #[] #[], .func (.func 182) #[] #[], .func (.func 186) #[] #[]] 0 K K5 ?_
 intro aP L
 refine An rfl (EP ?_)
 have g:=L.pk [0]
 refine EO (Mz rfl (Mz rfl (Gz (vP J 0) rfl (Gl (.bool true) rfl g 0 L7 (fw (.bool true) (Fa rfl rfl rfl) (An rfl (rt (rs ?_))))))))
 have M:=g.pk []
 obtain rfl:_=true:=hr.symm.trans (et (iN c) (et (iN d) (et (iN e) (et (iN f) (ip h)))))
 exact⟨rfl,M⟩
 obtain⟨aQ,j,aA,k,aB⟩:=EU b
 refine cl L0 (sJ _ _ a.aM j e6 e6 e6 e6 e6) ?_
 rintro _ aR ⟨rfl,l⟩
 have N:=k _ _ l
 refine Mz rfl (Kz (.agg #[.bool false, .nilFunc, .nilFunc, .nilFunc, .nilFunc]) (Kz (.bool false) ?_))
 refine dK [.bool false, .nilFunc, .nilFunc, .nilFunc, .nilFunc] 231 N ?_
 intro aS aT O
 refine dN [.bool false, .nilFunc, .nilFunc, .nilFunc, .nilFunc] 0 O K5 ?_
 intro aU P
 refine An rfl (EP ?_)
 have Q:=P.pk [0]
 refine EO (Mz rfl (Mz rfl (Sz rfl (Sz rfl (fw (.bool false) (ES rfl rfl rfl) (An rfl (rt (rs ?_))))))))
 have R:=Q.pk []
 obtain rfl:_=false:=hr.symm.trans (et (iN c) (et (iN d) (et (iN e) (et (iN f) (iN h)))))
 exact⟨rfl,R⟩
def qg (c:bC):Int:=
 bnd (uZ c) fun a=>if a=true then bnd (kW c) fun b=>b else 40
theorem ve (w:World) (D:Nat→Prop) (a:bC) (t:Int) (H:Own w D w []) (hr:qg a=t):
    Calls y4 140 #[.agg (bC.cells a).toArray] w (dS fun v w'=>v=vI t∧Own w D w' []):=by
 refine cb Tryz.func140 ?_
 refine sr ?_
 refine dK (bC.cells a) 72 H ?_
 intro A B i
 refine An rfl (EP (sr (La (bC.cells a) i 0 K7 K6 ?_)))
 obtain⟨f,b⟩:∃ q,uZ a=q:=⟨_,rfl⟩
 obtain⟨C,j,u,k,x⟩:=EU i
 refine cl Tryz.call159 (zt _ _ a f j b) ?_
 rintro _ E ⟨rfl,l⟩
 have g:=k _ _ l
 refine Kz (.bool (!f)) (nt ?_)
 rcases IW (f) with c | c
 refine jF (cn c) (sk (sr (La (bC.cells a) g 0 K7 K6 ?_)))
 obtain⟨h,d⟩:∃ q,kW a=q:=⟨_,rfl⟩
 obtain⟨F,m,y,n,z⟩:=EU g
 refine cl L6 (rz _ _ a h m d) ?_
 rintro _ G ⟨rfl,o,e⟩
 have p:=n _ _ o
 replace e: ¬ (h=0)∨(1≤a.aM∧a.aM≤5):=e
 refine An rfl (rt (rs ?_))
 have r:=p.pk []
 obtain rfl:_=h:=hr.symm.trans (et (ah b) (et (ip c) (ah d)))
 exact⟨rfl,r⟩
 refine jT (cn c) (sr (An rfl (rt (tR (rs ?_)))))
 have s:=g.pk []
 obtain rfl:_=40:=hr.symm.trans (et (ah b) (fU c))
 exact⟨rfl,s⟩
def kE:List bC→Unit ⊕ Bool
  | []=>C1 ()
  | b::c=>bnd (qg b) fun a=>if a=0 then kE c else C3 (false)
def rZ (l0:List bC):Bool:=
 lp (kE l0) fun _=>true
theorem xk (w:World) (D:Nat→Prop) (n:Option Addr) (z A:Nat) (l0:List bC) (K:Bool) (H:Own w D w []) (m:Ro w D fun w'=>bD w' 6 n z (q6 bC.cells l0)) (B:z=l0.length) (O:l0.length≤9223372036854775807) (hr:rZ l0=K):
    Calls y4 138 #[.slice n z A, .func (.func 140) #[] #[]] w (dS fun v w'=>v= .bool K∧Own w D w' []):=by
 subst B
 refine cb Tryz.func138 ?_
 refine sr (An rfl (EP (sr (Mz rfl (Kz (vJ l0.length) (Mn rfl (bo ?_)))))))
 have C:=H.pk []
 obtain⟨E,c⟩:=lK fun(a:Nat) (w':World)=>Own w D w' []∧a≤l0.length∧kE l0=kE (r6 a l0)
 refine C5 (fun i:Nat=> [(4, .bool false),(9,vJ i),(8,vJ l0.length),(7, .slice n l0.length A),(1, .func (.func 140) #[] #[])]) E (fun i=>l0.length - i) 0 ⟨rfl,rfl,rfl,rfl,rfl,trivial⟩ (c.2 ⟨C,e6,rfl⟩) ?_
 rintro a P o
 obtain⟨d,L,f⟩:=c.1 o
 refine sr (Kz (.bool (decide (((a:Nat):Int) < ((l0.length:Nat):Int)))) (nt (EP ?_)))
 by_cases p:((a:Nat):Int) < ((l0.length:Nat):Int)
 obtain⟨b,k⟩:=dG (ls:=l0) (i:=a) bC.len f3 (d.ro m) e9
 have l:=drop_at k
 refine jT (dT p) (sk (EP (bo (sr (fw (.pointer (some ⟨ab n,ao n+a *6,none⟩)) (ET (pW) rfl rfl ((d.ro m).addr (i:=a) e6) e6) (fw (.agg (bC.cells b).toArray) (EY rfl (Fb (cs:=(bC.cells b)) K7 K6 ((d.ro m).elem bC.len k f3))) ?_))))))
 refine dK [vI 0, .string ⟨y6 ([])⟩, .string ⟨y6 ([])⟩, .string ⟨y6 ([])⟩, .string ⟨y6 ([])⟩,vI 0] 72 d ?_
 intro Q R F
 refine dN (bC.cells b) 0 F K6 ?_
 intro S r
 refine ns (Mz rfl (La (bC.cells b) r 0 K7 K6 ?_))
 obtain⟨h,g⟩:∃ q,qg b=q:=⟨_,rfl⟩
 obtain⟨T,s,M,t,N⟩:=EU r
 refine WL.do rfl (Fw Tryz.call140 rfl rfl (ve _ _ b h s g) ?_)
 rintro _ U ⟨rfl,u⟩
 have x:=t _ _ u
 refine fw (.bool (decide (¬ (h=0)))) (Fs (e:= !(decide (h=0))) yk decide_not.symm) (nt ?_)
 by_cases j:h=0
 refine jF (dF (IV j)) (Fq (bN (ER (EO (fw (vJ (a+1)) (EQ (e:=C7.wrap (((a:Nat):Int)+1)) yk f1) (Mz rfl (D0 ?_)))))))
 have G:=x.pk []
 exact E8 (a+1) ⟨rfl,rfl,rfl,rfl,rfl,trivial⟩ (c.2 ⟨G,e6,et (f) (et (congrArg (fun q=>kE q) l) (et (ah g) (ip j)))⟩) (by show l0.length - (a+1) < l0.length - a; omega)
 refine jT (dT j) (sr (An rfl (rt (bR (tR (tR (bR (tR (rs ?_)))))))))
 have I:=x.pk []
 obtain rfl:_=false:=hr.symm.trans (iY (et (f) (et (congrArg (fun q=>kE q) l) (et (ah g) (iN j)))))
 exact⟨rfl,I⟩
 refine jF (dF p) (D1 (EX ?_))
 have y:kE l0=C1 ():=et (f) (et (congrArg (fun q=>kE q) (eD (ls:=l0) (i:=a) e6)) rfl)
 refine EX (Fg (ER (sr (An rfl (rt (rs ?_))))))
 have J:=d.pk []
 obtain rfl:_=true:=hr.symm.trans (nI y)
 exact⟨rfl,J⟩
def qM (d:Int) (l1:List bC):Bool:=
 if d=1 then bnd (nN l1) fun a=>decide (a=0) else if d=3 then if((l1.length:Nat):Int) ≥ 1 then if((l1.length:Nat):Int)≤24 then bnd (sQ l1) fun b=>b else false else false else if((l1.length:Nat):Int)≤6 then bnd (rZ l1) fun c=>c else false
theorem xK (w:World) (D:Nat→Prop) (p:Int) (g:Option Addr) (G l:Nat) (l1:List bC) (S:Bool) (H:Own w D w []) (m:Ro w D fun w'=>bD w' 6 g G (q6 bC.cells l1)) (I:G=l1.length) (W:l1.length≤9223372036854775807) (hr:qM p l1=S):
    Calls y4 115 #[vI p, .slice g G l] w (dS fun v w'=>v= .bool S∧Own w D w' []):=by
 subst I
 refine cb Tryz.func115 ?_
 refine sr (An rfl (EP (sr (Mn rfl (bo (sr (Kz (.bool (decide (p=1))) (An rfl ?_))))))))
 by_cases b:p=1
 refine jT (dT b) (sr (Mz rfl ?_))
 obtain⟨f,h⟩:∃ q,nN l1=q:=⟨_,rfl⟩
 obtain⟨X,r,s,t,T⟩:=EU H
 refine cl Tryz.call137 (wm _ _ g l1.length l l1 f r (s _ m) rfl e6 h) ?_
 rintro _ Y ⟨rfl,u,i⟩
 have J:=t _ _ u
 replace i: ¬ (f=0)∨(1≤l1.length∧l1.length≤4):=i
 refine Kz (.bool (decide (f=0))) (An rfl (rt (bR (tR (rs ?_)))))
 have K:=J.pk []
 obtain rfl:_=decide (f=0):=hr.symm.trans (et (ip b) (ah h))
 exact⟨rfl,K⟩
 refine jF (dF b) (sr (Kz (.bool (decide (p=3))) (An rfl ?_)))
 by_cases e:p=3
 refine jT (dT e) (sr (Mz rfl (Kz (vJ l1.length) (Kz (.bool (decide (((l1.length:Nat):Int) ≥ 1))) (Mz rfl ?_)))))
 by_cases a:((l1.length:Nat):Int) ≥ 1
 refine gw (.slice g l1.length l) (dT a) (E5 rfl) (Gz (vJ l1.length) (dT a) (Gz (.bool (decide (((l1.length:Nat):Int)≤24))) (dT a) (fw (.bool (decide (((l1.length:Nat):Int)≤24))) (Fa rfl (dT a) rfl) (Mz rfl ?_))))
 by_cases c:((l1.length:Nat):Int)≤24
 refine gw (.slice g l1.length l) (dT c) (E5 rfl) ?_
 obtain⟨n,j⟩:∃ q,sQ l1=q:=⟨_,rfl⟩
 obtain⟨Z,x,y,z,U⟩:=EU H
 refine uM (dT c) Tryz.call138 (xJ _ _ g l1.length l l1 n x (y _ m) rfl e6 j) ?_
 rintro _ aa ⟨rfl,A⟩
 have L:=z _ _ A
 refine fw (.bool n) (Fa rfl (dT c) rfl) (An rfl (rt (bR (tR (rs ?_)))))
 have M:=L.pk []
 obtain rfl:_=n:=hr.symm.trans (et (iN b) (et (ip e) (et (ip a) (et (ip c) (ah j)))))
 exact⟨rfl,M⟩
 refine Sz (dF c) (Sz (dF c) (fw (.bool false) (ES rfl (dF c) rfl) (An rfl (rt (bR (tR (rs ?_)))))))
 have N:=H.pk []
 obtain rfl:_=false:=hr.symm.trans (et (iN b) (et (ip e) (et (ip a) (iN c))))
 exact⟨rfl,N⟩
 refine Sz (dF a) (Sz (dF a) (Sz (dF a) (fw (.bool false) (ES rfl (dF a) rfl) (Mz rfl (Sz rfl (Sz rfl (fw (.bool false) (ES rfl rfl rfl) (An rfl (rt (bR (tR (rs ?_))))))))))))
 have O:=H.pk []
 obtain rfl:_=false:=hr.symm.trans (et (iN b) (et (ip e) (iN a)))
 exact⟨rfl,O⟩
 refine jF (dF e) (Fq (bN (ER (sr (Mz rfl (Kz (vJ l1.length) (Kz (.bool (decide (((l1.length:Nat):Int)≤6))) (Mz rfl ?_))))))))
 by_cases d:((l1.length:Nat):Int)≤6
 refine gw (.slice g l1.length l) (dT d) (E5 rfl) ?_
 obtain⟨o,k⟩:∃ q,rZ l1=q:=⟨_,rfl⟩
 obtain⟨ae,B,C,E,V⟩:=EU H
 refine uM (dT d) Tryz.call138 (xk _ _ g l1.length l l1 o B (C _ m) rfl e6 k) ?_
 rintro _ af ⟨rfl,F⟩
 have P:=E _ _ F
 refine fw (.bool o) (Fa rfl (dT d) rfl) (An rfl (rt (rs ?_)))
 have Q:=P.pk []
 obtain rfl:_=o:=hr.symm.trans (et (iN b) (et (iN e) (et (ip d) (ah k))))
 exact⟨rfl,Q⟩
 refine Sz (dF d) (Sz (dF d) (fw (.bool false) (ES rfl (dF d) rfl) (An rfl (rt (rs ?_)))))
 have R:=H.pk []
 obtain rfl:_=false:=hr.symm.trans (et (iN b) (et (iN e) (iN d)))
 exact⟨rfl,R⟩
def kX (b:Int) (a:Int):Bool:=
 if b=1 then if a ≥ 1 then decide (a≤4) else false else if b=2 then if a ≥ 11 then decide (a < 15) else false else decide (a=0)
theorem qh (w:World) (D:Nat→Prop) (f:Int) (c:Int) (l:Bool) (H:Own w D w []) (hr:kX f c=l):
    Calls y4 50 #[vI f,vI c] w (dS fun v w'=>v= .bool l∧Own w D w' []):=by
 refine cb Tryz.func50 ?_
 refine sr (An rfl (EP (sr (Mn rfl (bo (sr (Kz (.bool (decide (f=1))) (An rfl ?_))))))))
 by_cases d:f=1
 refine jT (dT d) (sr (Mz rfl (Kz (.bool (decide (c ≥ 1))) (Mz rfl ?_))))
 by_cases a:c ≥ 1
 refine gw (vI c) (dT a) (E5 rfl) (Gz (.bool (decide (c≤4))) (dT a) (fw (.bool (decide (c≤4))) (Fa rfl (dT a) rfl) (An rfl (rt (bR (tR (rs ?_)))))))
 have g:=H.pk []
 obtain rfl:_=decide (c≤4):=hr.symm.trans (et (ip d) (ip a))
 exact⟨rfl,g⟩
 refine Sz (dF a) (Sz (dF a) (fw (.bool false) (ES rfl (dF a) rfl) (An rfl (rt (bR (tR (rs ?_)))))))
 have h:=H.pk []
 obtain rfl:_=false:=hr.symm.trans (et (ip d) (iN a))
 exact⟨rfl,h⟩
 refine jF (dF d) (sr (Kz (.bool (decide (f=2))) (An rfl ?_)))
 by_cases e:f=2
 refine jT (dT e) (sr (Mz rfl (Kz (.bool (decide (c ≥ 11))) (Mz rfl ?_))))
 by_cases b:c ≥ 11
 refine gw (vI c) (dT b) (E5 rfl) (Gz (.bool (decide (c < 15))) (dT b) (fw (.bool (decide (c < 15))) (Fa rfl (dT b) rfl) (An rfl (rt (bR (tR (rs ?_)))))))
 have i:=H.pk []
 obtain rfl:_=decide (c < 15):=hr.symm.trans (et (iN d) (et (ip e) (ip b)))
 exact⟨rfl,i⟩
 refine Sz (dF b) (Sz (dF b) (fw (.bool false) (ES rfl (dF b) rfl) (An rfl (rt (bR (tR (rs ?_)))))))
 have j:=H.pk []
 obtain rfl:_=false:=hr.symm.trans (et (iN d) (et (ip e) (iN b)))
 exact⟨rfl,j⟩
 refine jF (dF e) (Fq (bN (ER (sr (Mz rfl (Kz (.bool (decide (c=0))) (An rfl (rt (rs ?_)))))))))
 have k:=H.pk []
 obtain rfl:_=decide (c=0):=hr.symm.trans (et (iN d) (iN e))
 exact⟨rfl,k⟩
def oH (a:bQ) (b:Int):Bool:=
 if b=2 then bnd (rV a.aM a.dJ) fun c=>c else if b=3 then bnd (om a.aM a.ai.ls) fun d=>d else if b=7 then bnd (qM a.aM a.aD.ls) fun e=>e else if b=11 then bnd (kH a.ag.ls) fun f=>decide (f=0) else if b=12 then bnd (kX 1 a.d9) fun g=>g else if b=13 then bnd (lZ a.bW) fun h=>decide (h=0) else true
theorem zP (w:World) (D:Nat→Prop) (a:bQ) (f:Option Addr) (z g:Nat) (h:Option Addr) (B i:Nat) (n:List af) (j:Option Addr) (C k:Nat) (o:Int) (r0:Bool) (H:Own w D w []) (N:z=a.aD.ls.length) (O:Ro w D fun w'=>bD w' 6 f a.aD.ls.length (q6 bC.cells a.aD.ls)) (aL:a.aD.ls.length≤g∧a.aD.ls.length≤9223372036854775807) (r:s8 af.abs n=a.ai.ls) (P:B=a.ai.ls.length) (Q:Ro w D fun w'=>bD w' 3 h a.ai.ls.length (q6 af.cells n)) (aM:a.ai.ls.length≤i∧a.ai.ls.length≤9223372036854775807) (s:∀ x ∈ n,Ro w D (fun w'=>bD w' 2 x.au.A x.au.ls.length (q6 aJ.cells x.au.ls))∧(x.au.ls.length≤x.au.c∧x.au.ls.length≤9223372036854775807)) (R:C=a.ag.ls.length) (S:Ro w D fun w'=>bD w' 2 j a.ag.ls.length (q6 bv.cells a.ag.ls)) (aN:a.ag.ls.length≤k∧a.ag.ls.length≤9223372036854775807) (bI:a.aD.ls.length≤140737488355328∧a.ai.ls.length≤140737488355328∧a.ag.ls.length≤140737488355328) (hr:oH a o=r0):
    Calls y4 76 #[.agg (gH a.aM a.aP a.fO a.aS a.dJ a.d9 a.aY a.ax a.bf a.di a.bi a.aI a.dM a.cZ a.xN a.dY a.bW.bJ a.bW.bX f z g h B i j C k).toArray,vI o] w (dS fun v w'=>v= .bool r0∧Own w D w' []):=by
 subst N P R
 have aK:=az r
 refine cb Tryz.func76 ?_
 refine sr ?_
 refine dK (gM a f g h i j k) 42 H ?_
 intro d bJ b
 refine An rfl (EP (sr (Mn rfl (bo (sr (Kz (.bool (decide (o=2))) (An rfl ?_)))))))
 by_cases e:o=2
 refine jT (dT e) (sr (Kz (vP d 0) (Lz (vI a.aM) b 0 C6 (Kz (vP d 4) (Lz (vI a.dJ) b 0 C6 ?_)))))
 obtain⟨U,E⟩:∃ q,rV a.aM a.dJ=q:=⟨_,rfl⟩
 obtain⟨bL,V,bi,W,bn⟩:=EU b
 refine cl Tryz.call113 (wZ _ _ a.aM a.dJ U V E) ?_
 rintro _ bM ⟨rfl,X⟩
 have aO:=W _ _ X
 refine An rfl (rt (bR (tR (rs ?_))))
 have aP:=aO.pk []
 obtain rfl:_=U:=hr.symm.trans (et (ip e) (ah E))
 exact⟨rfl,aP⟩
 refine jF (dF e) (sr (Kz (.bool (decide (o=3))) (An rfl ?_)))
 by_cases l:o=3
 refine jT (dT l) (sr (Kz (vP d 0) (Lz (vI a.aM) b 0 C6 (Kz (vP d 19) (Lz (.slice h a.ai.ls.length i) b 0 Tryz.isAgg40 ?_)))))
 obtain⟨Y,F⟩:∃ q,om a.aM a.ai.ls=q:=⟨_,rfl⟩
 obtain⟨bO,Z,G,aa,bq⟩:=EU b
 refine cl Tryz.call114 (uX _ _ a.aM h a.ai.ls.length i n a.ai.ls Y Z r (G _ Q) (fun x9 h9=>⟨G _ (s x9 h9).1,(s x9 h9).2⟩) rfl e6 F) ?_
 rintro _ bP ⟨rfl,ae⟩
 have aQ:=aa _ _ ae
 refine An rfl (rt (bR (tR (rs ?_))))
 have aR:=aQ.pk []
 obtain rfl:_=Y:=hr.symm.trans (et (iN e) (et (ip l) (ah F)))
 exact⟨rfl,aR⟩
 refine jF (dF l) (sr (Kz (.bool (decide (o=7))) (An rfl ?_)))
 by_cases m:o=7
 refine jT (dT m) (sr (Kz (vP d 0) (Lz (vI a.aM) b 0 C6 (Kz (vP d 18) (Lz (.slice f a.aD.ls.length g) b 0 Tryz.isAgg39 ?_)))))
 obtain⟨ag,I⟩:∃ q,qM a.aM a.aD.ls=q:=⟨_,rfl⟩
 obtain⟨bS,ai,aj,ak,bA⟩:=EU b
 refine cl Tryz.call115 (xK _ _ a.aM f a.aD.ls.length g a.aD.ls ag ai (aj _ O) rfl e6 I) ?_
 rintro _ bT ⟨rfl,au⟩
 have aS:=ak _ _ au
 refine An rfl (rt (bR (tR (rs ?_))))
 have aT:=aS.pk []
 obtain rfl:_=ag:=hr.symm.trans (et (iN e) (et (iN l) (et (ip m) (ah I))))
 exact⟨rfl,aT⟩
 refine jF (dF m) (sr (Kz (.bool (decide (o=11))) (An rfl ?_)))
 by_cases p:o=11
 refine jT (dT p) (sr (Kz (vP d 20) (Lz (.slice j a.ag.ls.length k) b 0 Tryz.isAgg29 ?_)))
 obtain⟨u,J⟩:∃ q,kH a.ag.ls=q:=⟨_,rfl⟩
 obtain⟨bU,av,ax,ay,bB⟩:=EU b
 refine cl Tryz.call72 (qD _ _ j a.ag.ls.length k a.ag.ls u av (ax _ S) rfl e6 J) ?_
 rintro _ bV ⟨rfl,aA,K⟩
 have aU:=ay _ _ aA
 replace K: ¬ (u=0)∨(1≤a.ag.ls.length∧a.ag.ls.length≤6):=K
 refine Kz (.bool (decide (u=0))) (An rfl (rt (bR (tR (rs ?_)))))
 have aV:=aU.pk []
 obtain rfl:_=decide (u=0):=hr.symm.trans (et (iN e) (et (iN l) (et (iN m) (et (ip p) (ah J)))))
 exact⟨rfl,aV⟩
 refine jF (dF p) (sr (Kz (.bool (decide (o=12))) (An rfl ?_)))
 by_cases t:o=12
 refine jT (dT t) (sr (Kz (vP d 5) (Lz (vI a.d9) b 0 C6 ?_)))
 obtain⟨aB,L⟩:∃ q,kX 1 a.d9=q:=⟨_,rfl⟩
 obtain⟨bW,aC,bE,aD,bF⟩:=EU b
 refine cl Tryz.call50 (qh _ _ 1 a.d9 aB aC L) ?_
 rintro _ bX ⟨rfl,aF⟩
 have aW:=aD _ _ aF
 refine An rfl (rt (bR (tR (rs ?_))))
 have aX:=aW.pk []
 obtain rfl:_=aB:=hr.symm.trans (et (iN e) (et (iN l) (et (iN m) (et (iN p) (et (ip t) (ah L))))))
 exact⟨rfl,aX⟩
 refine jF (dF t) (sr (Kz (.bool (decide (o=13))) (An rfl ?_)))
 by_cases y:o=13
 refine jT (dT y) (sr (Kz (vP d 16) (La (bK.cells a.bW) b 0 K9 K8 ?_)))
 obtain⟨T,M⟩:∃ q,lZ a.bW=q:=⟨_,rfl⟩
 obtain⟨bY,aG,bG,aH,bH⟩:=EU b
 refine cl Tryz.call116 (pu _ _ a.bW T aG M) ?_
 rintro _ bZ ⟨rfl,aI⟩
 have aY:=aH _ _ aI
 refine Kz (.bool (decide (T=0))) (An rfl (rt (bR (tR (rs ?_)))))
 have aZ:=aY.pk []
 obtain rfl:_=decide (T=0):=hr.symm.trans (et (iN e) (et (iN l) (et (iN m) (et (iN p) (et (iN t) (et (ip y) (ah M)))))))
 exact⟨rfl,aZ⟩
 refine jF (dF y) (Fq (bN (ER (sr (An rfl (rt (rs ?_)))))))
 have bf:=b.pk []
 obtain rfl:_=true:=hr.symm.trans (et (iN e) (et (iN l) (et (iN m) (et (iN p) (et (iN t) (iN y))))))
 exact⟨rfl,bf⟩
def jS (d:bQ):List Int→Unit ⊕ Bool
  | []=>C1 ()
  | b::c=>bnd (oH d b) fun a=>if a=true then jS d c else C3 (false)
def qN (a:bQ) (l1:List Int):Bool:=
 lp (jS a l1) fun _=>true
theorem xL (w:World) (D:Nat→Prop) (a:bQ) (h:Option Addr) (z d:Nat) (j:Option Addr) (B f:Nat) (m:List af) (l:Option Addr) (C g:Nat) (R:Option Addr) (n1 c1:Nat) (l1:List Int) (r0:Bool) (H:Own w D w []) (G:z=a.aD.ls.length) (I:Ro w D fun w'=>bD w' 6 h a.aD.ls.length (q6 bC.cells a.aD.ls)) (ag:a.aD.ls.length≤d∧a.aD.ls.length≤9223372036854775807) (p:s8 af.abs m=a.ai.ls) (J:B=a.ai.ls.length) (K:Ro w D fun w'=>bD w' 3 j a.ai.ls.length (q6 af.cells m)) (ai:a.ai.ls.length≤f∧a.ai.ls.length≤9223372036854775807) (r:∀ x ∈ m,Ro w D (fun w'=>bD w' 2 x.au.A x.au.ls.length (q6 aJ.cells x.au.ls))∧(x.au.ls.length≤x.au.c∧x.au.ls.length≤9223372036854775807)) (L:C=a.ag.ls.length) (M:Ro w D fun w'=>bD w' 2 l a.ag.ls.length (q6 bv.cells a.ag.ls)) (aj:a.ag.ls.length≤g∧a.ag.ls.length≤9223372036854775807) (N:Ro w D fun w'=>bD w' 1 R n1 (q6 (eI .i64) l1)) (ak:n1=l1.length) (aI:l1.length *8≤211106232532992) (aK:a.aD.ls.length≤140737488355328∧a.ai.ls.length≤140737488355328∧a.ag.ls.length≤140737488355328) (hr:qN a l1=r0):
    Calls y4 53 #[.agg (gH a.aM a.aP a.fO a.aS a.dJ a.d9 a.aY a.ax a.bf a.di a.bi a.aI a.dM a.cZ a.xN a.dY a.bW.bJ a.bW.bX h z d j B f l C g).toArray, .slice R n1 c1] w (dS fun v w'=>v= .bool r0∧Own w D w' []):=by
 subst ak G J L
 have Z:=az p
 refine cb Tryz.func53 ?_
 refine sr ?_
 refine dK (gM a h d j f l g) 42 H ?_
 intro O aL au
 refine An rfl (EP (sr (Mz rfl (Kz (vJ l1.length) (Mn rfl (bo ?_))))))
 have av:=au.pf []
 obtain⟨ax,s⟩:=lK fun(b:Nat) (w':World)=>Own w D w' [blk O (gM a h d j f l g) 42]∧b≤l1.length∧jS a l1=jS a (r6 b l1)
 refine C5 (fun i:Nat=> [(4, .bool false),(9,vJ i),(8,vJ l1.length),(7, .slice R l1.length c1),(2,vP O 0)]) ax (fun i=>l1.length - i) 0 ⟨rfl,rfl,rfl,rfl,rfl,trivial⟩ (s.2 ⟨av,e6,rfl⟩) ?_
 rintro b aM S
 obtain⟨o,aD,t⟩:=s.1 S
 refine sr (Kz (.bool (decide (((b:Nat):Int) < ((l1.length:Nat):Int)))) (nt (EP ?_)))
 by_cases T:((b:Nat):Int) < ((l1.length:Nat):Int)
 obtain⟨P,E⟩:=dG (ls:=l1) (i:=b) iH f3 (o.ro N) e9
 have F:=drop_at E
 refine jT (dT T) (sk (EP (bo (sr (fw (.pointer (some ⟨ab R,ao R+b *1,none⟩)) (ET (CK) rfl rfl ((o.ro N).addr (i:=b) e6) e6) (fw (vI P) (EY rfl (bZ.one Tryz.isAgg154 (((o.ro N).elem iH E f3).at_ (k:=0) rfl))) (Ar rfl (La (gM a h d j f l g) o 0 Tryz.isAgg42 Tryz.sizeOf42 (Mz rfl ?_)))))))))
 obtain⟨Q,u⟩:∃ q,oH a P=q:=⟨_,rfl⟩
 obtain⟨aN,U,n,V,aF⟩:=EU o
 refine cl Tryz.call76 (zP _ _ a h a.aD.ls.length d j a.ai.ls.length f m l a.ag.ls.length g P Q U rfl (n _ I) (show a.aD.ls.length≤d∧a.aD.ls.length≤9223372036854775807 from by omega) p rfl (n _ K) (show a.ai.ls.length≤f∧a.ai.ls.length≤9223372036854775807 from by omega) (fun x9 h9=>⟨n _ (r x9 h9).1,(r x9 h9).2⟩) rfl (n _ M) (show a.ag.ls.length≤g∧a.ag.ls.length≤9223372036854775807 from by omega) i3 u) ?_
 rintro _ aO ⟨rfl,W⟩
 have X:=V _ _ W
 refine Kz (.bool (!Q)) (nt ?_)
 rcases IW (Q) with y | y
 refine jF (cn y) (Fq (bN (ER (EO (fw (vJ (b+1)) (EQ (e:=C7.wrap (((b:Nat):Int)+1)) yk f1) (Mz rfl (D0 ?_)))))))
 have ay:=X.pf []
 exact E8 (b+1) ⟨rfl,rfl,rfl,rfl,rfl,trivial⟩ (s.2 ⟨ay,e6,et (t) (et (congrArg (fun q=>jS a q) F) (et (ah u) (ip y)))⟩) (by show l1.length - (b+1) < l1.length - b; omega)
 refine jT (cn y) (sr (An rfl (rt (bR (tR (tR (bR (tR (rs ?_)))))))))
 have aA:=X.pk []
 obtain rfl:_=false:=hr.symm.trans (iY (et (t) (et (congrArg (fun q=>jS a q) F) (et (ah u) (fU y)))))
 exact⟨rfl,aA⟩
 refine jF (dF T) (D1 (EX ?_))
 have Y:jS a l1=C1 ():=et (t) (et (congrArg (fun q=>jS a q) (eD (ls:=l1) (i:=b) e6)) rfl)
 refine EX (Fg (ER (sr (An rfl (rt (rs ?_))))))
 have aB:=o.pk []
 obtain rfl:_=true:=hr.symm.trans (nI Y)
 exact⟨rfl,aB⟩
def qi (a:bQ):Bool:=
 if((dn (dn (dn (dn (dn (dn (dn (dn a.aY a.ax) a.bf) a.di) a.bi) a.aI) a.dM) a.cZ) a.xN:Nat):Int)=0 then if(((a.aD.ls.length+a.ai.ls.length)+a.ag.ls.length:Nat):Int)=0 then if a.aS=0 then if a.dJ=0 then if a.d9=0 then if a.dY=true then false else decide ((a.bW.bJ=([]))∧(a.bW.bX=([]))) else false else false else false else false else false
theorem yx (w:World) (D:Nat→Prop) (a:bQ) (l:Option Addr) (s m:Nat) (n:Option Addr) (t o:Nat) (r:List af) (p:Option Addr) (y q:Nat) (V:Bool) (H:Own w D w []) (z:s=a.aD.ls.length) (G:Ro w D fun w'=>bD w' 6 l a.aD.ls.length (q6 bC.cells a.aD.ls)) (I:a.aD.ls.length≤m∧a.aD.ls.length≤9223372036854775807) (B:s8 af.abs r=a.ai.ls) (C:t=a.ai.ls.length) (J:Ro w D fun w'=>bD w' 3 n a.ai.ls.length (q6 af.cells r)) (K:a.ai.ls.length≤o∧a.ai.ls.length≤9223372036854775807) (L:∀ x ∈ r,Ro w D (fun w'=>bD w' 2 x.au.A x.au.ls.length (q6 aJ.cells x.au.ls))∧(x.au.ls.length≤x.au.c∧x.au.ls.length≤9223372036854775807)) (E:y=a.ag.ls.length) (M:Ro w D fun w'=>bD w' 2 p a.ag.ls.length (q6 bv.cells a.ag.ls)) (N:a.ag.ls.length≤q∧a.ag.ls.length≤9223372036854775807) (ai:a.aD.ls.length≤140737488355328∧a.ai.ls.length≤140737488355328∧a.ag.ls.length≤140737488355328) (hr:qi a=V):
    Calls y4 51 #[.agg (gH a.aM a.aP a.fO a.aS a.dJ a.d9 a.aY a.ax a.bf a.di a.bi a.aI a.dM a.cZ a.xN a.dY a.bW.bJ a.bW.bX l s m n t o p y q).toArray] w (dS fun v w'=>v= .bool V∧Own w D w' []):=by
 subst z C E
 have F:=az B
 refine cb Tryz.func51 ?_
 refine sr ?_
 refine dK (gM a l m n o p q) 42 H ?_
 intro d aj b
 refine Ar rfl (Kz (vP d 6) (Lz (vU a.aY) b 0 E1 (Kz (vP d 7) (Lz (vU a.ax) b 0 E1 ?_))))
 have W:dn a.aY a.ax≤18446744073709551615:=oz _ _
 refine fw (vU (dn a.aY a.ax)) (EQ (e:=D3.wrap (((BitVec.ofInt 64 ((a.aY:Nat):Int) ||| BitVec.ofInt 64 ((a.ax:Nat):Int)).toNat:Nat):Int)) yk (fe _)) (Kz (vP d 8) (Lz (vU a.bf) b 0 E1 ?_))
 have X:dn (dn a.aY a.ax) a.bf≤18446744073709551615:=oz _ _
 refine fw (vU (dn (dn a.aY a.ax) a.bf)) (EQ (e:=D3.wrap (((BitVec.ofInt 64 ((dn a.aY a.ax:Nat):Int) ||| BitVec.ofInt 64 ((a.bf:Nat):Int)).toNat:Nat):Int)) yk (fe _)) (Kz (vP d 9) (Lz (vU a.di) b 0 E1 ?_))
 have Y:dn (dn (dn a.aY a.ax) a.bf) a.di≤18446744073709551615:=oz _ _
 refine fw (.int .u64 ((dn (dn (dn a.aY a.ax) a.bf) a.di:Nat):Int)) (EQ (e:=D3.wrap (((BitVec.ofInt 64 ((dn (dn a.aY a.ax) a.bf:Nat):Int) ||| BitVec.ofInt 64 ((a.di:Nat):Int)).toNat:Nat):Int)) yk (fe _)) (Kz (vP d 10) (Lz (vU a.bi) b 0 E1 ?_))
 have Z:dn (dn (dn (dn a.aY a.ax) a.bf) a.di) a.bi≤18446744073709551615:=oz _ _
 refine fw (.int .u64 ((dn (dn (dn (dn a.aY a.ax) a.bf) a.di) a.bi:Nat):Int)) (EQ (e:=D3.wrap (((BitVec.ofInt 64 ((dn (dn (dn a.aY a.ax) a.bf) a.di:Nat):Int) ||| BitVec.ofInt 64 ((a.bi:Nat):Int)).toNat:Nat):Int)) yk (fe _)) (Kz (vP d 11) (Lz (vU a.aI) b 0 E1 ?_))
 have aa:dn (dn (dn (dn (dn a.aY a.ax) a.bf) a.di) a.bi) a.aI≤18446744073709551615:=oz _ _
 refine fw (.int .u64 ((dn (dn (dn (dn (dn a.aY a.ax) a.bf) a.di) a.bi) a.aI:Nat):Int)) (EQ (e:=D3.wrap (((BitVec.ofInt 64 ((dn (dn (dn (dn a.aY a.ax) a.bf) a.di) a.bi:Nat):Int) ||| BitVec.ofInt 64 ((a.aI:Nat):Int)).toNat:Nat):Int)) yk (fe _)) (Kz (vP d 12) (Lz (vU a.dM) b 0 E1 ?_))
 have ae:dn (dn (dn (dn (dn (dn a.aY a.ax) a.bf) a.di) a.bi) a.aI) a.dM≤18446744073709551615:=oz _ _
 refine fw (.int .u64 ((dn (dn (dn (dn (dn (dn a.aY a.ax) a.bf) a.di) a.bi) a.aI) a.dM:Nat):Int)) (EQ (e:=D3.wrap (((BitVec.ofInt 64 ((dn (dn (dn (dn (dn a.aY a.ax) a.bf) a.di) a.bi) a.aI:Nat):Int) ||| BitVec.ofInt 64 ((a.dM:Nat):Int)).toNat:Nat):Int)) yk (fe _)) (Kz (vP d 13) (Lz (vU a.cZ) b 0 E1 ?_))
 have ag:dn (dn (dn (dn (dn (dn (dn a.aY a.ax) a.bf) a.di) a.bi) a.aI) a.dM) a.cZ≤18446744073709551615:=oz _ _
 refine fw (.int .u64 ((dn (dn (dn (dn (dn (dn (dn a.aY a.ax) a.bf) a.di) a.bi) a.aI) a.dM) a.cZ:Nat):Int)) (EQ (e:=D3.wrap (((BitVec.ofInt 64 ((dn (dn (dn (dn (dn (dn a.aY a.ax) a.bf) a.di) a.bi) a.aI) a.dM:Nat):Int) ||| BitVec.ofInt 64 ((a.cZ:Nat):Int)).toNat:Nat):Int)) yk (fe _)) (Kz (vP d 14) (Lz (vU a.xN) b 0 E1 ?_))
 have ah:dn (dn (dn (dn (dn (dn (dn (dn a.aY a.ax) a.bf) a.di) a.bi) a.aI) a.dM) a.cZ) a.xN≤18446744073709551615:=oz _ _
 refine fw (.int .u64 ((dn (dn (dn (dn (dn (dn (dn (dn a.aY a.ax) a.bf) a.di) a.bi) a.aI) a.dM) a.cZ) a.xN:Nat):Int)) (EQ (e:=D3.wrap (((BitVec.ofInt 64 ((dn (dn (dn (dn (dn (dn (dn a.aY a.ax) a.bf) a.di) a.bi) a.aI) a.dM) a.cZ:Nat):Int) ||| BitVec.ofInt 64 ((a.xN:Nat):Int)).toNat:Nat):Int)) yk (fe _)) (Ar rfl (Kz (vP d 18) (Lz (.slice l a.aD.ls.length m) b 0 Tryz.isAgg39 (Kz (vJ a.aD.ls.length) (Kz (vP d 19) (Lz (.slice n a.ai.ls.length o) b 0 Tryz.isAgg40 (Kz (vJ a.ai.ls.length) (fw (vJ (a.aD.ls.length+a.ai.ls.length)) (EQ (e:=C7.wrap (((a.aD.ls.length:Nat):Int)+((a.ai.ls.length:Nat):Int))) yk f1) (Kz (vP d 20) (Lz (.slice p a.ag.ls.length q) b 0 Tryz.isAgg29 (Kz (vJ a.ag.ls.length) (fw (vJ ((a.aD.ls.length+a.ai.ls.length)+a.ag.ls.length)) (EQ (e:=C7.wrap (((a.aD.ls.length+a.ai.ls.length:Nat):Int)+((a.ag.ls.length:Nat):Int))) yk f1) (Ar rfl (Mz rfl (Kz (.bool (decide (((dn (dn (dn (dn (dn (dn (dn (dn a.aY a.ax) a.bf) a.di) a.bi) a.aI) a.dM) a.cZ) a.xN:Nat):Int)=0))) (Mz rfl ?_))))))))))))))))
 by_cases g:((dn (dn (dn (dn (dn (dn (dn (dn a.aY a.ax) a.bf) a.di) a.bi) a.aI) a.dM) a.cZ) a.xN:Nat):Int)=0
 refine gw (vJ ((a.aD.ls.length+a.ai.ls.length)+a.ag.ls.length)) (dT g) (E5 rfl) (Gz (.bool (decide ((((a.aD.ls.length+a.ai.ls.length)+a.ag.ls.length:Nat):Int)=0))) (dT g) (fw (.bool (decide ((((a.aD.ls.length+a.ai.ls.length)+a.ag.ls.length:Nat):Int)=0))) (Fa rfl (dT g) rfl) (Mz rfl ?_)))
 by_cases f:(((a.aD.ls.length+a.ai.ls.length)+a.ag.ls.length:Nat):Int)=0
 refine Gz (vP d 3) (dT f) (Gl (vI a.aS) (dT f) b 0 C6 (Gz (.bool (decide (a.aS=0))) (dT f) (fw (.bool (decide (a.aS=0))) (Fa rfl (dT f) rfl) (Mz rfl ?_))))
 by_cases h:a.aS=0
 refine Gz (vP d 4) (dT h) (Gl (vI a.dJ) (dT h) b 0 C6 (Gz (.bool (decide (a.dJ=0))) (dT h) (fw (.bool (decide (a.dJ=0))) (Fa rfl (dT h) rfl) (Mz rfl ?_))))
 by_cases j:a.dJ=0
 refine Gz (vP d 5) (dT j) (Gl (vI a.d9) (dT j) b 0 C6 (Gz (.bool (decide (a.d9=0))) (dT j) (fw (.bool (decide (a.d9=0))) (Fa rfl (dT j) rfl) (Mz rfl ?_))))
 by_cases k:a.d9=0
 refine Gz (vP d 15) (dT k) (Gl (.bool a.dY) (dT k) b 0 L7 (Gz (.bool (!a.dY)) (dT k) (fw (.bool (!a.dY)) (Fa rfl (dT k) rfl) (Mz rfl ?_))))
 rcases IW (a.dY) with i | i
 refine Sz (cn i) (Sz (cn i) (Sz (cn i) (Sz (cn i) (fw (.bool false) (ES rfl (cn i) rfl) (An rfl (rt (rs ?_)))))))
 have O:=b.pk []
 obtain rfl:_=false:=hr.symm.trans (et (ip g) (et (ip f) (et (ip h) (et (ip j) (et (ip k) (ip i))))))
 exact⟨rfl,O⟩
 refine Gz (vP d 16) (cn i) (Ga (bK.cells a.bW) (cn i) b 0 K9 K8 (Gz (.agg #[.string ⟨y6 ([])⟩, .string ⟨y6 ([])⟩]) (cn i) (gw (.bool (decide ((a.bW.bJ=([]))∧(a.bW.bX=([]))))) (cn i) (Ie rfl rfl e7 rfl (jN.struct Tryz.underlying38 e7 (jk.dec (jk.cons (u:= .string ⟨y6 a.bW.bJ⟩) (v:= .string ⟨y6 ([])⟩) f3 (fun _=>by kernel_rfl) (fun _=>by kernel_rfl) (jN.string B5) (jk.cons (u:= .string ⟨y6 a.bW.bX⟩) (v:= .string ⟨y6 ([])⟩) f3 (fun _=>by kernel_rfl) (fun _=>by kernel_rfl) (jN.string B5) (jk.nil.up (IU _)))) ((congrArg (decide (a.bW.bJ=([])) && ·) qz).trans iT)))) (fw (.bool (decide ((a.bW.bJ=([]))∧(a.bW.bX=([]))))) (Fa rfl (cn i) rfl) (An rfl (rt (rs ?_)))))))
 have P:=b.pk []
 obtain rfl:_=decide ((a.bW.bJ=([]))∧(a.bW.bX=([]))):=hr.symm.trans (et (ip g) (et (ip f) (et (ip h) (et (ip j) (et (ip k) (fU i))))))
 exact⟨rfl,P⟩
 refine Sz (dF k) (Sz (dF k) (Sz (dF k) (fw (.bool false) (ES rfl (dF k) rfl) (Mz rfl (Sz rfl (Sz rfl (Sz rfl (Sz rfl (fw (.bool false) (ES rfl rfl rfl) (An rfl (rt (rs ?_))))))))))))
 have Q:=b.pk []
 obtain rfl:_=false:=hr.symm.trans (et (ip g) (et (ip f) (et (ip h) (et (ip j) (iN k)))))
 exact⟨rfl,Q⟩
 refine Sz (dF j) (Sz (dF j) (Sz (dF j) (fw (.bool false) (ES rfl (dF j) rfl) (Mz rfl (Sz rfl (Sz rfl (Sz rfl (fw (.bool false) (ES rfl rfl rfl) (Mz rfl (Sz rfl (Sz rfl (Sz rfl (Sz rfl (fw (.bool false) (ES rfl rfl rfl) (An rfl (rt (rs ?_)))))))))))))))))
 have R:=b.pk []
 obtain rfl:_=false:=hr.symm.trans (et (ip g) (et (ip f) (et (ip h) (iN j))))
 exact⟨rfl,R⟩
 refine Sz (dF h) (Sz (dF h) (Sz (dF h) (fw (.bool false) (ES rfl (dF h) rfl) (Mz rfl (Sz rfl (Sz rfl (Sz rfl (fw (.bool false) (ES rfl rfl rfl) (Mz rfl (Sz rfl (Sz rfl (Sz rfl (fw (.bool false) (ES rfl rfl rfl) (Mz rfl (Sz rfl (Sz rfl (Sz rfl (Sz rfl (fw (.bool false) (ES rfl rfl rfl) (An rfl (rt (rs ?_))))))))))))))))))))))
 have S:=b.pk []
 obtain rfl:_=false:=hr.symm.trans (et (ip g) (et (ip f) (iN h)))
 exact⟨rfl,S⟩
 refine Sz (dF f) (Sz (dF f) (Sz (dF f) (fw (.bool false) (ES rfl (dF f) rfl) (Mz rfl (Sz rfl (Sz rfl (Sz rfl (fw (.bool false) (ES rfl rfl rfl) (Mz rfl (Sz rfl (Sz rfl (Sz rfl (fw (.bool false) (ES rfl rfl rfl) (Mz rfl (Sz rfl (Sz rfl (Sz rfl (fw (.bool false) (ES rfl rfl rfl) (Mz rfl (Sz rfl (Sz rfl (Sz rfl (Sz rfl (fw (.bool false) (ES rfl rfl rfl) (An rfl (rt (rs ?_)))))))))))))))))))))))))))
 have T:=b.pk []
 obtain rfl:_=false:=hr.symm.trans (et (ip g) (iN f))
 exact⟨rfl,T⟩
 refine Sz (dF g) (Sz (dF g) (fw (.bool false) (ES rfl (dF g) rfl) (Mz rfl (Sz rfl (Sz rfl (Sz rfl (fw (.bool false) (ES rfl rfl rfl) (Mz rfl (Sz rfl (Sz rfl (Sz rfl (fw (.bool false) (ES rfl rfl rfl) (Mz rfl (Sz rfl (Sz rfl (Sz rfl (fw (.bool false) (ES rfl rfl rfl) (Mz rfl (Sz rfl (Sz rfl (Sz rfl (fw (.bool false) (ES rfl rfl rfl) (Mz rfl (Sz rfl (Sz rfl (Sz rfl (Sz rfl (fw (.bool false) (ES rfl rfl rfl) (An rfl (rt (rs ?_)))))))))))))))))))))))))))))))
 have U:=b.pk []
 obtain rfl:_=false:=hr.symm.trans (iN g)
 exact⟨rfl,U⟩
end Go.Proofs.YtbkagebjhbphaaaGreat
