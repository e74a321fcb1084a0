/-
 wire: which messages may be.
-/
import Derived.Test.YtbkagebjhbphaaaGreatRa
namespace Go.Proofs.YtbkagebjhbphaaaGreat
open Int renaming toNat→D2
open IntKind renaming i64→C7,u64→D3
open List renaming drop→r6,flatMap→q6,map→s8,mem_of_getElem?→E0,toArray→y6
open Ll renaming mk→E4
open Sum renaming inl→C1,inr→C3
open _root_.Go.Proofs.Tryz renaming call112→K7,call139→M2,call158→L8,func158→K8,isAgg111→M1,isAgg128→K6,isAgg227→L9,isAgg231→L0,isAgg28→E1,isAgg3→C6,isAgg38→L7,isAgg4→M3,isAgg72→L5,isAgg9→C4,prog→y4,sizeOf128→K5,sizeOf231→L3,sizeOf244→K9,sizeOf38→L6,sizeOf72→L4,underlying3→B4,underlying72→M0,underlying9→B5
open WL renaming nil→D0
open Wp renaming exit→D1,loop→C5
set_option maxRecDepth 100000
open Go.RowKit
set_option linter.unusedVariables false
set_option linter.unusedSectionVars false
set_option linter.unusedSimpArgs false
def pQ (a:Int):fZ × Bool:=
 if a≤0 then(fZ.mk 0 0 (E4 ([])),false) else if a ≥ 15 then(fZ.mk 0 0 (E4 ([])),false) else if((D2 a:Nat):Int)=1 then(fZ.mk 2 0 (E4 ([0,1,7])),true) else if((D2 a:Nat):Int)=2 then(fZ.mk 0 2 (E4 ([0,1,2,3])),true) else if((D2 a:Nat):Int)=3 then(fZ.mk 0 1 (E4 ([4,5,6,7])),true) else if((D2 a:Nat):Int)=4 then(fZ.mk 1 0 (E4 ([4,2,3])),true) else if((D2 a:Nat):Int)=5 then(fZ.mk 0 1 (E4 ([4,8])),true) else if((D2 a:Nat):Int)=6 then(fZ.mk 1 0 (E4 ([4])),true) else if((D2 a:Nat):Int)=7 then(fZ.mk 1 0 (E4 ([4])),true) else if((D2 a:Nat):Int)=8 then(fZ.mk 0 1 (E4 ([9,6,10,11])),true) else if((D2 a:Nat):Int)=9 then(fZ.mk 1 0 (E4 ([9])),true) else if((D2 a:Nat):Int)=10 then(fZ.mk 0 1 (E4 ([9,10,12,8,13])),true) else if((D2 a:Nat):Int)=11 then(fZ.mk 1 1 (E4 ([10,14,15,13,7])),true) else if((D2 a:Nat):Int)=12 then(fZ.mk 1 1 (E4 ([10,14,15])),true) else if((D2 a:Nat):Int)=13 then(fZ.mk 1 0 (E4 ([10])),true) else(fZ.mk 1 0 (E4 ([10])),true)
theorem wY (w:World) (D:Nat→Prop) (c:Int) (r0:fZ) (r1:Bool) (H:Own w D w []) (hr:pQ c=(r0,r1)):
    Calls y4 49 #[vI c] w (dR fun v w'=> ∃ (O:Option Addr) (P:Nat),v= .tuple #[.agg #[vI r0.lX,vI r0.ny, .slice O r0.dn.ls.length P], .bool r1]∧Own w D w' [row O r0.dn.ls.length P (q6 (eI .i64) r0.dn.ls) 154 1]∧(r0.dn.ls.length≤5)):=by
 refine cb Tryz.func49 ?_
 refine sr ?_
 refine dM [vI 0,vI 0, .slice none 0 0] 128 H ?_
 intro cu cz bu
 refine Ar rfl ?_
 refine kL [vI 0,vI 1,vI 7] 154 1 3 bu ?_
 intro s cB ag
 replace ag:=Gq (y:=row s 3 3 (q6 (eI .i64) ([0,1,7])) 154 1) rfl ag
 refine Kz (.agg #[vI 2,vI 0, .slice s 3 3]) ?_
 refine kL [vI 0,vI 1,vI 2,vI 3] 154 1 4 ag ?_
 intro t cK ah
 replace ah:=Gq (y:=row t 4 4 (q6 (eI .i64) ([0,1,2,3])) 154 1) rfl ah
 refine Kz (.agg #[vI 0,vI 2, .slice t 4 4]) ?_
 refine kL [vI 4,vI 5,vI 6,vI 7] 154 1 4 ah ?_
 intro u cO ai
 replace ai:=Gq (y:=row u 4 4 (q6 (eI .i64) ([4,5,6,7])) 154 1) rfl ai
 refine Kz (.agg #[vI 0,vI 1, .slice u 4 4]) ?_
 refine kL [vI 4,vI 2,vI 3] 154 1 3 ai ?_
 intro x cZ aj
 replace aj:=Gq (y:=row x 3 3 (q6 (eI .i64) ([4,2,3])) 154 1) rfl aj
 refine Kz (.agg #[vI 1,vI 0, .slice x 3 3]) ?_
 refine kL [vI 4,vI 8] 154 1 2 aj ?_
 intro z df ak
 replace ak:=Gq (y:=row z 2 2 (q6 (eI .i64) ([4,8])) 154 1) rfl ak
 refine Kz (.agg #[vI 0,vI 1, .slice z 2 2]) ?_
 refine kL [vI 4] 154 1 1 ak ?_
 intro A dh au
 replace au:=Gq (y:=row A 1 1 (q6 (eI .i64) ([4])) 154 1) rfl au
 refine Kz (.agg #[vI 1,vI 0, .slice A 1 1]) ?_
 refine kL [vI 4] 154 1 1 au ?_
 intro B di av
 replace av:=Gq (y:=row B 1 1 (q6 (eI .i64) ([4])) 154 1) rfl av
 refine Kz (.agg #[vI 1,vI 0, .slice B 1 1]) ?_
 refine kL [vI 9,vI 6,vI 10,vI 11] 154 1 4 av ?_
 intro C dm ax
 replace ax:=Gq (y:=row C 4 4 (q6 (eI .i64) ([9,6,10,11])) 154 1) rfl ax
 refine Kz (.agg #[vI 0,vI 1, .slice C 4 4]) ?_
 refine kL [vI 9] 154 1 1 ax ?_
 intro E dn ay
 replace ay:=Gq (y:=row E 1 1 (q6 (eI .i64) ([9])) 154 1) rfl ay
 refine Kz (.agg #[vI 1,vI 0, .slice E 1 1]) ?_
 refine kL [vI 9,vI 10,vI 12,vI 8,vI 13] 154 1 5 ay ?_
 intro F dw az
 replace az:=Gq (y:=row F 5 5 (q6 (eI .i64) ([9,10,12,8,13])) 154 1) rfl az
 refine Kz (.agg #[vI 0,vI 1, .slice F 5 5]) ?_
 refine kL [vI 10,vI 14,vI 15,vI 13,vI 7] 154 1 5 az ?_
 intro G dx aA
 replace aA:=Gq (y:=row G 5 5 (q6 (eI .i64) ([10,14,15,13,7])) 154 1) rfl aA
 refine Kz (.agg #[vI 1,vI 1, .slice G 5 5]) ?_
 refine kL [vI 10,vI 14,vI 15] 154 1 3 aA ?_
 intro I dz aB
 replace aB:=Gq (y:=row I 3 3 (q6 (eI .i64) ([10,14,15])) 154 1) rfl aB
 refine Kz (.agg #[vI 1,vI 1, .slice I 3 3]) ?_
 refine kL [vI 10] 154 1 1 aB ?_
 intro J dA aC
 replace aC:=Gq (y:=row J 1 1 (q6 (eI .i64) ([10])) 154 1) rfl aC
 refine Kz (.agg #[vI 1,vI 0, .slice J 1 1]) ?_
 refine kL [vI 10] 154 1 1 aC ?_
 intro K dB aD
 replace aD:=Gq (y:=row K 1 1 (q6 (eI .i64) ([10])) 154 1) rfl aD
 refine Kz (.agg #[vI 1,vI 0, .slice K 1 1]) (Kz (.agg #[vI 0,vI 0, .slice none 0 0,vI 2,vI 0, .slice s 3 3,vI 0,vI 2, .slice t 4 4,vI 0,vI 1, .slice u 4 4,vI 1,vI 0, .slice x 3 3,vI 0,vI 1, .slice z 2 2,vI 1,vI 0, .slice A 1 1,vI 1,vI 0, .slice B 1 1,vI 0,vI 1, .slice C 4 4,vI 1,vI 0, .slice E 1 1,vI 0,vI 1, .slice F 5 5,vI 1,vI 1, .slice G 5 5,vI 1,vI 1, .slice I 3 3,vI 1,vI 0, .slice J 1 1,vI 1,vI 0, .slice K 1 1]) ?_)
 refine dM [vI 0,vI 0, .slice none 0 0,vI 0,vI 0, .slice none 0 0,vI 0,vI 0, .slice none 0 0,vI 0,vI 0, .slice none 0 0,vI 0,vI 0, .slice none 0 0,vI 0,vI 0, .slice none 0 0,vI 0,vI 0, .slice none 0 0,vI 0,vI 0, .slice none 0 0,vI 0,vI 0, .slice none 0 0,vI 0,vI 0, .slice none 0 0,vI 0,vI 0, .slice none 0 0,vI 0,vI 0, .slice none 0 0,vI 0,vI 0, .slice none 0 0,vI 0,vI 0, .slice none 0 0,vI 0,vI 0, .slice none 0 0] 155 aD ?_
 intro g dC bv
 refine dN [vI 0,vI 0, .slice none 0 0,vI 2,vI 0, .slice s 3 3,vI 0,vI 2, .slice t 4 4,vI 0,vI 1, .slice u 4 4,vI 1,vI 0, .slice x 3 3,vI 0,vI 1, .slice z 2 2,vI 1,vI 0, .slice A 1 1,vI 1,vI 0, .slice B 1 1,vI 0,vI 1, .slice C 4 4,vI 1,vI 0, .slice E 1 1,vI 0,vI 1, .slice F 5 5,vI 1,vI 1, .slice G 5 5,vI 1,vI 1, .slice I 3 3,vI 1,vI 0, .slice J 1 1,vI 1,vI 0, .slice K 1 1] 0 bv Tryz.sizeOf155 ?_
 intro dD a
 refine nt (FU (sr (Mz rfl (Kz (.bool (decide (c≤0))) (Mz rfl ?_)))))
 by_cases b:c≤0
 refine Sz (dT b) (Sz (dT b) (fw (.bool true) (Gb rfl (dT b) rfl) (nt (jt (sr (Kz (.agg #[vI 0,vI 0, .slice none 0 0]) ?_))))))
 have bz:=a.pf [15]
 refine dN [vI 0,vI 0, .slice none 0 0] 0 bz K5 ?_
 intro bA aF
 refine An rfl (rt (tR (Fin.res (kC (vs:= [.agg #[vI 0,vI 0, .slice none 0 0], .bool false]) rfl (dS.cell rfl (Gc (cs:= [vI 0,vI 0, .slice none 0 0]) K6 K5 ((aF.cls (i:=0) rfl).lit (k:=0) (m:=3) rfl)) (dS.tmp rfl dS.nil)) (JM rfl)) ?_)))
 have bB:Own w D bA (row none 0 0 (q6 (eI .i64) ([])) 154 1::_):=aF.free (fB 154 1)
 have bC:=bB.pk [0]
 obtain⟨rfl,rfl⟩:=gm (hr.symm.trans (show _=(fZ.mk 0 0 (E4 ([])),false) from ip b))
 exact⟨none,0,rfl,bC,i0⟩
 refine gw (vI c) (dF b) (F7 rfl) (Gz (.bool (decide (c ≥ 15))) (dF b) (fw (.bool (decide (c ≥ 15))) (FX rfl (dF b) rfl) (nt ?_)))
 by_cases d:c ≥ 15
 refine jT (dT d) (sr (Kz (.agg #[vI 0,vI 0, .slice none 0 0]) ?_))
 have bD:=a.pf [15]
 refine dN [vI 0,vI 0, .slice none 0 0] 0 bD K5 ?_
 intro bE aG
 refine An rfl (rt (tR (Fin.res (kC (vs:= [.agg #[vI 0,vI 0, .slice none 0 0], .bool false]) rfl (dS.cell rfl (Gc (cs:= [vI 0,vI 0, .slice none 0 0]) K6 K5 ((aG.cls (i:=0) rfl).lit (k:=0) (m:=3) rfl)) (dS.tmp rfl dS.nil)) (JM rfl)) ?_)))
 have bF:Own w D bE (row none 0 0 (q6 (eI .i64) ([])) 154 1::_):=aG.free (fB 154 1)
 have bG:=bF.pk [0]
 obtain⟨rfl,rfl⟩:=gm (hr.symm.trans (show _=(fZ.mk 0 0 (E4 ([])),false) from et (iN b) (ip d)))
 exact⟨none,0,rfl,bG,i0⟩
 refine jF (dF d) (sk (sr (fw (vJ (D2 c)) (FV (e:=c) (F7 rfl) e6) ?_)))
 by_cases h:((D2 c:Nat):Int)=1
 refine fw (vP g 3) (by(try unfold vJ); rw [show ((D2 c:Nat):Int)=1 from by omega]; exact yk) (La ([vI 2,vI 0, .slice s 3 3]) a 0 K6 K5 ?_)
 have bH:=a.pf [15]
 refine dN [vI 2,vI 0, .slice s 3 3] 0 bH K5 ?_
 intro dE aH
 refine An rfl (rt (Fin.res (kC (vs:= [.agg #[vI 2,vI 0, .slice s 3 3], .bool true]) rfl (dS.cell rfl (Gc (cs:= [vI 2,vI 0, .slice s 3 3]) K6 K5 ((aH.cls (i:=0) rfl).lit (k:=0) (m:=3) rfl)) (dS.tmp rfl dS.nil)) (JM rfl)) ?_))
 have bI:=aH.pk [15]
 obtain⟨rfl,rfl⟩:=gm (hr.symm.trans (show _=(fZ.mk 2 0 (E4 ([0,1,7])),true) from et (iN b) (et (iN d) (ip h))))
 exact⟨s,3,rfl,bI,i0⟩
 by_cases l:((D2 c:Nat):Int)=2
 refine fw (vP g 6) (by(try unfold vJ); rw [show ((D2 c:Nat):Int)=2 from by omega]; exact yk) (La ([vI 0,vI 2, .slice t 4 4]) a 0 K6 K5 ?_)
 have bJ:=a.pf [15]
 refine dN [vI 0,vI 2, .slice t 4 4] 0 bJ K5 ?_
 intro dG aI
 refine An rfl (rt (Fin.res (kC (vs:= [.agg #[vI 0,vI 2, .slice t 4 4], .bool true]) rfl (dS.cell rfl (Gc (cs:= [vI 0,vI 2, .slice t 4 4]) K6 K5 ((aI.cls (i:=0) rfl).lit (k:=0) (m:=3) rfl)) (dS.tmp rfl dS.nil)) (JM rfl)) ?_))
 have bK:=aI.pk [14]
 obtain⟨rfl,rfl⟩:=gm (hr.symm.trans (show _=(fZ.mk 0 2 (E4 ([0,1,2,3])),true) from et (iN b) (et (iN d) (et (iN h) (ip l)))))
 exact⟨t,4,rfl,bK,i0⟩
 by_cases o:((D2 c:Nat):Int)=3
 refine fw (vP g 9) (by(try unfold vJ); rw [show ((D2 c:Nat):Int)=3 from by omega]; exact yk) (La ([vI 0,vI 1, .slice u 4 4]) a 0 K6 K5 ?_)
 have bL:=a.pf [15]
 refine dN [vI 0,vI 1, .slice u 4 4] 0 bL K5 ?_
 intro dH aJ
 refine An rfl (rt (Fin.res (kC (vs:= [.agg #[vI 0,vI 1, .slice u 4 4], .bool true]) rfl (dS.cell rfl (Gc (cs:= [vI 0,vI 1, .slice u 4 4]) K6 K5 ((aJ.cls (i:=0) rfl).lit (k:=0) (m:=3) rfl)) (dS.tmp rfl dS.nil)) (JM rfl)) ?_))
 have bM:=aJ.pk [13]
 obtain⟨rfl,rfl⟩:=gm (hr.symm.trans (show _=(fZ.mk 0 1 (E4 ([4,5,6,7])),true) from et (iN b) (et (iN d) (et (iN h) (et (iN l) (ip o))))))
 exact⟨u,4,rfl,bM,i0⟩
 by_cases p:((D2 c:Nat):Int)=4
 refine fw (vP g 12) (by(try unfold vJ); rw [show ((D2 c:Nat):Int)=4 from by omega]; exact yk) (La ([vI 1,vI 0, .slice x 3 3]) a 0 K6 K5 ?_)
 have bN:=a.pf [15]
 refine dN [vI 1,vI 0, .slice x 3 3] 0 bN K5 ?_
 intro bP Q
 refine An rfl (rt (Fin.res (kC (vs:= [.agg #[vI 1,vI 0, .slice x 3 3], .bool true]) rfl (dS.cell rfl (Gc (cs:= [vI 1,vI 0, .slice x 3 3]) K6 K5 ((Q.cls (i:=0) rfl).lit (k:=0) (m:=3) rfl)) (dS.tmp rfl dS.nil)) (JM rfl)) ?_))
 have aK:=Q.pk [12]
 obtain⟨rfl,rfl⟩:=gm (hr.symm.trans (show _=(fZ.mk 1 0 (E4 ([4,2,3])),true) from et (iN b) (et (iN d) (et (iN h) (et (iN l) (et (iN o) (ip p)))))))
 exact⟨x,3,rfl,aK,i0⟩
 by_cases f:((D2 c:Nat):Int)=5
 refine fw (vP g 15) (by(try unfold vJ); rw [show ((D2 c:Nat):Int)=5 from by omega]; exact yk) (La ([vI 0,vI 1, .slice z 2 2]) a 0 K6 K5 ?_)
 have aL:=a.pf [15]
 refine dN [vI 0,vI 1, .slice z 2 2] 0 aL K5 ?_
 intro bQ R
 refine An rfl (rt (Fin.res (kC (vs:= [.agg #[vI 0,vI 1, .slice z 2 2], .bool true]) rfl (dS.cell rfl (Gc (cs:= [vI 0,vI 1, .slice z 2 2]) K6 K5 ((R.cls (i:=0) rfl).lit (k:=0) (m:=3) rfl)) (dS.tmp rfl dS.nil)) (JM rfl)) ?_))
 have aM:=R.pk [11]
 obtain⟨rfl,rfl⟩:=gm (hr.symm.trans (show _=(fZ.mk 0 1 (E4 ([4,8])),true) from et (iN b) (et (iN d) (et (iN h) (et (iN l) (et (iN o) (et (iN p) (ip f))))))))
 exact⟨z,2,rfl,aM,i0⟩
 by_cases j:((D2 c:Nat):Int)=6
 refine fw (vP g 18) (by(try unfold vJ); rw [show ((D2 c:Nat):Int)=6 from by omega]; exact yk) (La ([vI 1,vI 0, .slice A 1 1]) a 0 K6 K5 ?_)
 have aN:=a.pf [15]
 refine dN [vI 1,vI 0, .slice A 1 1] 0 aN K5 ?_
 intro bR S
 refine An rfl (rt (Fin.res (kC (vs:= [.agg #[vI 1,vI 0, .slice A 1 1], .bool true]) rfl (dS.cell rfl (Gc (cs:= [vI 1,vI 0, .slice A 1 1]) K6 K5 ((S.cls (i:=0) rfl).lit (k:=0) (m:=3) rfl)) (dS.tmp rfl dS.nil)) (JM rfl)) ?_))
 have aO:=S.pk [10]
 obtain⟨rfl,rfl⟩:=gm (hr.symm.trans (show _=(fZ.mk 1 0 (E4 ([4])),true) from et (iN b) (et (iN d) (et (iN h) (et (iN l) (et (iN o) (et (iN p) (et (iN f) (ip j)))))))))
 exact⟨A,1,rfl,aO,i0⟩
 by_cases n:((D2 c:Nat):Int)=7
 refine fw (vP g 21) (by(try unfold vJ); rw [show ((D2 c:Nat):Int)=7 from by omega]; exact yk) (La ([vI 1,vI 0, .slice B 1 1]) a 0 K6 K5 ?_)
 have aP:=a.pf [15]
 refine dN [vI 1,vI 0, .slice B 1 1] 0 aP K5 ?_
 intro bS T
 refine An rfl (rt (Fin.res (kC (vs:= [.agg #[vI 1,vI 0, .slice B 1 1], .bool true]) rfl (dS.cell rfl (Gc (cs:= [vI 1,vI 0, .slice B 1 1]) K6 K5 ((T.cls (i:=0) rfl).lit (k:=0) (m:=3) rfl)) (dS.tmp rfl dS.nil)) (JM rfl)) ?_))
 have aQ:=T.pk [9]
 obtain⟨rfl,rfl⟩:=gm (hr.symm.trans (show _=(fZ.mk 1 0 (E4 ([4])),true) from et (iN b) (et (iN d) (et (iN h) (et (iN l) (et (iN o) (et (iN p) (et (iN f) (et (iN j) (ip n))))))))))
 exact⟨B,1,rfl,aQ,i0⟩
 by_cases q:((D2 c:Nat):Int)=8
 refine fw (vP g 24) (by(try unfold vJ); rw [show ((D2 c:Nat):Int)=8 from by omega]; exact yk) (La ([vI 0,vI 1, .slice C 4 4]) a 0 K6 K5 ?_)
 have aR:=a.pf [15]
 refine dN [vI 0,vI 1, .slice C 4 4] 0 aR K5 ?_
 intro bT U
 refine An rfl (rt (Fin.res (kC (vs:= [.agg #[vI 0,vI 1, .slice C 4 4], .bool true]) rfl (dS.cell rfl (Gc (cs:= [vI 0,vI 1, .slice C 4 4]) K6 K5 ((U.cls (i:=0) rfl).lit (k:=0) (m:=3) rfl)) (dS.tmp rfl dS.nil)) (JM rfl)) ?_))
 have aS:=U.pk [8]
 obtain⟨rfl,rfl⟩:=gm (hr.symm.trans (show _=(fZ.mk 0 1 (E4 ([9,6,10,11])),true) from et (iN b) (et (iN d) (et (iN h) (et (iN l) (et (iN o) (et (iN p) (et (iN f) (et (iN j) (et (iN n) (ip q)))))))))))
 exact⟨C,4,rfl,aS,i0⟩
 by_cases r:((D2 c:Nat):Int)=9
 refine fw (vP g 27) (by(try unfold vJ); rw [show ((D2 c:Nat):Int)=9 from by omega]; exact yk) (La ([vI 1,vI 0, .slice E 1 1]) a 0 K6 K5 ?_)
 have aT:=a.pf [15]
 refine dN [vI 1,vI 0, .slice E 1 1] 0 aT K5 ?_
 intro bU V
 refine An rfl (rt (Fin.res (kC (vs:= [.agg #[vI 1,vI 0, .slice E 1 1], .bool true]) rfl (dS.cell rfl (Gc (cs:= [vI 1,vI 0, .slice E 1 1]) K6 K5 ((V.cls (i:=0) rfl).lit (k:=0) (m:=3) rfl)) (dS.tmp rfl dS.nil)) (JM rfl)) ?_))
 have aU:=V.pk [7]
 obtain⟨rfl,rfl⟩:=gm (hr.symm.trans (show _=(fZ.mk 1 0 (E4 ([9])),true) from et (iN b) (et (iN d) (et (iN h) (et (iN l) (et (iN o) (et (iN p) (et (iN f) (et (iN j) (et (iN n) (et (iN q) (ip r))))))))))))
 exact⟨E,1,rfl,aU,i0⟩
 by_cases L:((D2 c:Nat):Int)=10
 refine fw (vP g 30) (by(try unfold vJ); rw [show ((D2 c:Nat):Int)=10 from by omega]; exact yk) (La ([vI 0,vI 1, .slice F 5 5]) a 0 K6 K5 ?_)
 have aV:=a.pf [15]
 refine dN [vI 0,vI 1, .slice F 5 5] 0 aV K5 ?_
 intro bV W
 refine An rfl (rt (Fin.res (kC (vs:= [.agg #[vI 0,vI 1, .slice F 5 5], .bool true]) rfl (dS.cell rfl (Gc (cs:= [vI 0,vI 1, .slice F 5 5]) K6 K5 ((W.cls (i:=0) rfl).lit (k:=0) (m:=3) rfl)) (dS.tmp rfl dS.nil)) (JM rfl)) ?_))
 have aW:=W.pk [6]
 obtain⟨rfl,rfl⟩:=gm (hr.symm.trans (show _=(fZ.mk 0 1 (E4 ([9,10,12,8,13])),true) from et (iN b) (et (iN d) (et (iN h) (et (iN l) (et (iN o) (et (iN p) (et (iN f) (et (iN j) (et (iN n) (et (iN q) (et (iN r) (ip L)))))))))))))
 exact⟨F,5,rfl,aW,i0⟩
 by_cases M:((D2 c:Nat):Int)=11
 refine fw (vP g 33) (by(try unfold vJ); rw [show ((D2 c:Nat):Int)=11 from by omega]; exact yk) (La ([vI 1,vI 1, .slice G 5 5]) a 0 K6 K5 ?_)
 have aX:=a.pf [15]
 refine dN [vI 1,vI 1, .slice G 5 5] 0 aX K5 ?_
 intro bW X
 refine An rfl (rt (Fin.res (kC (vs:= [.agg #[vI 1,vI 1, .slice G 5 5], .bool true]) rfl (dS.cell rfl (Gc (cs:= [vI 1,vI 1, .slice G 5 5]) K6 K5 ((X.cls (i:=0) rfl).lit (k:=0) (m:=3) rfl)) (dS.tmp rfl dS.nil)) (JM rfl)) ?_))
 have aY:=X.pk [5]
 obtain⟨rfl,rfl⟩:=gm (hr.symm.trans (show _=(fZ.mk 1 1 (E4 ([10,14,15,13,7])),true) from et (iN b) (et (iN d) (et (iN h) (et (iN l) (et (iN o) (et (iN p) (et (iN f) (et (iN j) (et (iN n) (et (iN q) (et (iN r) (et (iN L) (ip M))))))))))))))
 exact⟨G,5,rfl,aY,i0⟩
 by_cases N:((D2 c:Nat):Int)=12
 refine fw (vP g 36) (by(try unfold vJ); rw [show ((D2 c:Nat):Int)=12 from by omega]; exact yk) (La ([vI 1,vI 1, .slice I 3 3]) a 0 K6 K5 ?_)
 have aZ:=a.pf [15]
 refine dN [vI 1,vI 1, .slice I 3 3] 0 aZ K5 ?_
 intro bX Y
 refine An rfl (rt (Fin.res (kC (vs:= [.agg #[vI 1,vI 1, .slice I 3 3], .bool true]) rfl (dS.cell rfl (Gc (cs:= [vI 1,vI 1, .slice I 3 3]) K6 K5 ((Y.cls (i:=0) rfl).lit (k:=0) (m:=3) rfl)) (dS.tmp rfl dS.nil)) (JM rfl)) ?_))
 have bf:=Y.pk [4]
 obtain⟨rfl,rfl⟩:=gm (hr.symm.trans (show _=(fZ.mk 1 1 (E4 ([10,14,15])),true) from et (iN b) (et (iN d) (et (iN h) (et (iN l) (et (iN o) (et (iN p) (et (iN f) (et (iN j) (et (iN n) (et (iN q) (et (iN r) (et (iN L) (et (iN M) (ip N)))))))))))))))
 exact⟨I,3,rfl,bf,i0⟩
 by_cases Z:((D2 c:Nat):Int)=13
 refine fw (vP g 39) (by(try unfold vJ); rw [show ((D2 c:Nat):Int)=13 from by omega]; exact yk) (La ([vI 1,vI 0, .slice J 1 1]) a 0 K6 K5 ?_)
 have bg:=a.pf [15]
 refine dN [vI 1,vI 0, .slice J 1 1] 0 bg K5 ?_
 intro bY aa
 refine An rfl (rt (Fin.res (kC (vs:= [.agg #[vI 1,vI 0, .slice J 1 1], .bool true]) rfl (dS.cell rfl (Gc (cs:= [vI 1,vI 0, .slice J 1 1]) K6 K5 ((aa.cls (i:=0) rfl).lit (k:=0) (m:=3) rfl)) (dS.tmp rfl dS.nil)) (JM rfl)) ?_))
 have bi:=aa.pk [3]
 obtain⟨rfl,rfl⟩:=gm (hr.symm.trans (show _=(fZ.mk 1 0 (E4 ([10])),true) from et (iN b) (et (iN d) (et (iN h) (et (iN l) (et (iN o) (et (iN p) (et (iN f) (et (iN j) (et (iN n) (et (iN q) (et (iN r) (et (iN L) (et (iN M) (et (iN N) (ip Z))))))))))))))))
 exact⟨J,1,rfl,bi,i0⟩
 refine fw (vP g 42) (by(try unfold vJ); rw [show ((D2 c:Nat):Int)=14 from by omega]; exact yk) (La ([vI 1,vI 0, .slice K 1 1]) a 0 K6 K5 ?_)
 have bn:=a.pf [15]
 refine dN [vI 1,vI 0, .slice K 1 1] 0 bn K5 ?_
 intro bZ ae
 refine An rfl (rt (Fin.res (kC (vs:= [.agg #[vI 1,vI 0, .slice K 1 1], .bool true]) rfl (dS.cell rfl (Gc (cs:= [vI 1,vI 0, .slice K 1 1]) K6 K5 ((ae.cls (i:=0) rfl).lit (k:=0) (m:=3) rfl)) (dS.tmp rfl dS.nil)) (JM rfl)) ?_))
 have bq:=ae.pk [2]
 obtain⟨rfl,rfl⟩:=gm (hr.symm.trans (show _=(fZ.mk 1 0 (E4 ([10])),true) from et (iN b) (et (iN d) (et (iN h) (et (iN l) (et (iN o) (et (iN p) (et (iN f) (et (iN j) (et (iN n) (et (iN q) (et (iN r) (et (iN L) (et (iN M) (et (iN N) (iN Z))))))))))))))))
 exact⟨K,1,rfl,bq,i0⟩
def sM (b:Int) (a:Int):Bool:=
 if b=2 then if a=1 then true else decide (a=2) else if a=3 then true else if a=4 then true else decide (a=5)
theorem xG (w:World) (D:Nat→Prop) (f:Int) (b:Int) (l:Bool) (H:Own w D w []) (hr:sM f b=l):
    Calls y4 113 #[vI f,vI b] w (dR fun v w'=>v= .bool l∧Own w D w' []):=by
 refine cb Tryz.func113 ?_
 refine sr (An rfl (FU (sr (Mz rfl (Kz (.bool (decide (f=2))) (nt ?_))))))
 by_cases e:f=2
 refine jT (dT e) (sr (Mz rfl (Kz (.bool (decide (b=1))) (Mz rfl ?_))))
 by_cases c:b=1
 refine Sz (dT c) (Sz (dT c) (fw (.bool true) (Gb rfl (dT c) rfl) (An rfl (rt (tR (rs ?_))))))
 have g:=H.pk []
 obtain rfl:_=true:=hr.symm.trans (et (ip e) (ip c))
 exact⟨rfl,g⟩
 refine gw (vI b) (dF c) (F7 rfl) (Gz (.bool (decide (b=2))) (dF c) (fw (.bool (decide (b=2))) (FX rfl (dF c) rfl) (An rfl (rt (tR (rs ?_))))))
 have h:=H.pk []
 obtain rfl:_=decide (b=2):=hr.symm.trans (et (ip e) (iN c))
 exact⟨rfl,h⟩
 refine jF (dF e) (sk (sr (Mz rfl (Kz (.bool (decide (b=3))) (Mz rfl ?_)))))
 by_cases a:b=3
 refine Sz (dT a) (Sz (dT a) (fw (.bool true) (Gb rfl (dT a) rfl) (Mz rfl (Sz rfl (Sz rfl (fw (.bool true) (Gb rfl rfl rfl) (An rfl (rt (rs ?_)))))))))
 have i:=H.pk []
 obtain rfl:_=true:=hr.symm.trans (et (iN e) (ip a))
 exact⟨rfl,i⟩
 refine gw (vI b) (dF a) (F7 rfl) (Gz (.bool (decide (b=4))) (dF a) (fw (.bool (decide (b=4))) (FX rfl (dF a) rfl) (Mz rfl ?_)))
 by_cases d:b=4
 refine Sz (dT d) (Sz (dT d) (fw (.bool true) (Gb rfl (dT d) rfl) (An rfl (rt (rs ?_)))))
 have j:=H.pk []
 obtain rfl:_=true:=hr.symm.trans (et (iN e) (et (iN a) (ip d)))
 exact⟨rfl,j⟩
 refine gw (vI b) (dF d) (F7 rfl) (Gz (.bool (decide (b=5))) (dF d) (fw (.bool (decide (b=5))) (FX rfl (dF d) rfl) (An rfl (rt (rs ?_)))))
 have k:=H.pk []
 obtain rfl:_=decide (b=5):=hr.symm.trans (et (iN e) (et (iN a) (iN d)))
 exact⟨rfl,k⟩
def gZ:List aL→Unit ⊕ Bool
  | []=>C1 ()
  | a::c=>bnd (gF a.bY) fun b=>if b=0 then if((a.aW.length:Nat):Int) > 16 then C3 (false) else gZ c else C3 (false)
def gN:List aY→Unit ⊕ Bool
  | []=>C1 ()
  | a::b=>if((a.aW.length:Nat):Int) > 16 then C3 (false) else if((a.au.ls.length:Nat):Int) > 4 then C3 (false) else sI (gZ a.au.ls) fun _=>gN b
def oK (a:Int) (l1:List aY):Bool:=
 bnd (if a=2 then 4 else 24) fun sJrJ=>if((l1.length:Nat):Int) > ((sJrJ:Nat):Int) then false else lp (gN l1) fun _=>true
theorem vG (w:World) (D:Nat→Prop) (S:Int) (r:Option Addr) (n1 Q:Nat) (d1:List af) (l1:List aY) (r0:Bool) (H:Own w D w []) (T:s8 af.abs d1=l1) (R:Ro w D fun w'=>bD w' 3 r n1 (q6 af.cells d1)) (J:∀ x ∈ d1,Ro w D (fun w'=>bD w' 2 x.au.A x.au.ls.length (q6 aL.cells x.au.ls))∧(x.au.ls.length≤x.au.c∧x.au.ls.length≤9223372036854775807)) (aB:n1=l1.length) (bu:l1.length≤9223372036854775807) (hr:oK S l1=r0):
    Calls y4 114 #[vI S, .slice r n1 Q] w (dR fun v w'=>v= .bool r0∧Own w D w' []):=by
 subst aB
 have aV:=az T
 refine cb Tryz.func114 ?_
 refine sr (Ar rfl (An rfl (FU (sr (Mz rfl (Kz (.bool (decide (S=2))) (nt ?_)))))))
 obtain⟨aC,B⟩:=mX fun(n:Nat) (w':World)=>Own w D w' []∧n≤9223372036854775807∧n ≥ 4∧n≤24∧(if S=2 then 4 else 24)=n
 refine GA (fun i:Nat=> [(5,vJ i),(4, .bool false),(1, .slice r l1.length Q)]) aC ?_ ?_
 by_cases K:S=2
 refine jT (dT K) (FT (Az rfl (D0 ?_)))
 have aD:=H.pk []
 exact Gt 4 ⟨rfl,rfl,rfl,trivial⟩ (B.2 ⟨aD,e6,e6,e6,ip K⟩)
 refine jF (dF K) (Gj ?_)
 have aF:=H.pk []
 exact Gt 24 ⟨rfl,rfl,rfl,trivial⟩ (B.2 ⟨aF,e6,e6,e6,iN K⟩)
 rintro n bv U
 obtain⟨V,aW,aX,aZ,k⟩:=B.1 U
 refine FU (sr (Mz rfl (Kz (vJ l1.length) (Mz rfl (Kz (.bool (decide (((l1.length:Nat):Int) > ((n:Nat):Int)))) (nt ?_))))))
 by_cases o:((l1.length:Nat):Int) > ((n:Nat):Int)
 refine jT (dT o) (sr (An rfl (rt (tR (rs ?_)))))
 have aG:=V.pk []
 obtain rfl:_=false:=hr.symm.trans (et (ai k) (ip o))
 exact⟨rfl,aG⟩
 refine jF (dF o) (sk (FU (sr (Mz rfl (Kz (vJ l1.length) (Mn rfl (bo ?_)))))))
 have aH:=V.pk []
 obtain⟨aI,C⟩:=mX fun(b:Nat) (w':World)=>Own w D w' []∧b≤l1.length∧gN l1=gN (r6 b l1)
 refine C5 (fun i:Nat=> [(4, .bool false),(18,vJ i),(17,vJ l1.length),(16, .slice r l1.length Q)]) aI (fun i=>l1.length - i) 0 ⟨rfl,rfl,rfl,rfl,trivial⟩ (C.2 ⟨aH,e6,rfl⟩) ?_
 rintro b bz W
 obtain⟨E,bf,l⟩:=C.1 W
 refine sr (Kz (.bool (decide (((b:Nat):Int) < ((l1.length:Nat):Int)))) (nt (FU ?_)))
 by_cases X:((b:Nat):Int) < ((l1.length:Nat):Int)
 obtain⟨a,m⟩:=dK (ls:=d1) (i:=b) af.len f3 (E.ro R) e9
 have Y:=fo T m
 have bg:=(J _ (E0 m)).2
 have p:=drop_at Y
 refine jT (dT X) (sk (FU (bo (sr (fw (.pointer (some ⟨ab r,ao r+b *3,none⟩)) (FZ (rP) rfl rfl ((E.ro R).addr (i:=b) e6) e6) (fw (.agg (af.cells a).toArray) (F5 rfl (Gc (cs:=(af.cells a)) Tryz.isAgg149 Tryz.sizeOf149 ((E.ro R).elem af.len m f3))) ?_))))))
 refine dM [.bool false, .string ⟨y6 ([])⟩, .slice none 0 0] 149 E ?_
 intro j bA aJ
 refine dN (af.cells a) 0 aJ Tryz.sizeOf149 ?_
 intro bB u
 refine nt (FU (sr (Kz (vP j 1) (Lz (.string ⟨y6 a.aW⟩) u 0 C4 (Kz (vJ a.aW.length) (Kz (.bool (decide (((a.aW.length:Nat):Int) > 16))) (Mz rfl ?_)))))))
 by_cases d:((a.aW.length:Nat):Int) > 16
 refine Sz (dT d) (Sz (dT d) (Sz (dT d) (Sz (dT d) (fw (.bool true) (Gb rfl (dT d) rfl) (nt (jt (sr (An rfl (rt (tR (bR (tR (tR (bR (tR (rs ?_))))))))))))))))
 have aK:=u.pk []
 obtain rfl:_=false:=hr.symm.trans (et (ai k) (et (iN o) (jq (et (l) (et (congrArg (fun q=>gN q) p) (ip d))))))
 exact⟨rfl,aK⟩
 refine Gz (vP j 2) (dF d) (Gl (.slice a.au.A a.au.ls.length a.au.c) (dF d) u 0 Tryz.isAgg147 (Gz (vJ a.au.ls.length) (dF d) (Gz (.bool (decide (((a.au.ls.length:Nat):Int) > 4))) (dF d) (fw (.bool (decide (((a.au.ls.length:Nat):Int) > 4))) (FX rfl (dF d) rfl) (nt ?_)))))
 by_cases y:((a.au.ls.length:Nat):Int) > 4
 refine jT (dT y) (sr (An rfl (rt (tR (bR (tR (tR (bR (tR (rs ?_))))))))))
 have aM:=u.pk []
 obtain rfl:_=false:=hr.symm.trans (et (ai k) (et (iN o) (jq (et (l) (et (congrArg (fun q=>gN q) p) (et (iN d) (ip y)))))))
 exact⟨rfl,aM⟩
 refine jF (dF y) (sk (sr (Kz (vP j 2) (Lz (.slice a.au.A a.au.ls.length a.au.c) u 0 Tryz.isAgg147 (Kz (vJ a.au.ls.length) (Mn rfl (bo ?_)))))))
 have aN:=u.pf []
 obtain⟨aO,F⟩:=mX fun(f:Nat) (w':World)=>Own w D w' [blk j (af.cells a) 149]∧f≤a.au.ls.length∧gZ a.au.ls=gZ (r6 f a.au.ls)
 refine C5 (fun i:Nat=> [(4, .bool false),(35,vJ i),(34,vJ a.au.ls.length),(33, .slice a.au.A a.au.ls.length a.au.c),(32,vP j 2),(31, .bool (decide (((a.au.ls.length:Nat):Int) > 4))),(30, .bool (decide (((a.au.ls.length:Nat):Int) > 4))),(29,vJ a.au.ls.length),(28, .slice a.au.A a.au.ls.length a.au.c),(27,vP j 2),(26, .bool (decide (((a.aW.length:Nat):Int) > 16))),(25, .bool (decide (((a.aW.length:Nat):Int) > 16))),(24,vJ a.aW.length),(23, .string ⟨y6 a.aW⟩),(22,vP j 1),(7,vP j 0),(21, .agg (af.cells a).toArray),(20, .pointer (some ⟨ab r,ao r+b *3,none⟩)),(19, .bool (decide (((b:Nat):Int) < ((l1.length:Nat):Int)))),(18,vJ b),(17,vJ l1.length),(16, .slice r l1.length Q)]) aO (fun i=>a.au.ls.length - i) 0 ⟨rfl,rfl,rfl,rfl,rfl,rfl,rfl,rfl,rfl,rfl,rfl,rfl,rfl,rfl,rfl,rfl,rfl,rfl,rfl,rfl,rfl,rfl,trivial⟩ (F.2 ⟨aN,e6,rfl⟩) ?_
 rintro f bC Z
 obtain⟨G,bi,s⟩:=F.1 Z
 refine sr (Kz (.bool (decide (((f:Nat):Int) < ((a.au.ls.length:Nat):Int)))) (nt (FU ?_)))
 by_cases aa:((f:Nat):Int) < ((a.au.ls.length:Nat):Int)
 obtain⟨g,N⟩:=dK (ls:=a.au.ls) (i:=f) aL.len f3 (G.ro (J _ (E0 m)).1) e9
 have I:=drop_at N
 refine jT (dT aa) (sk (FU (bo (sr (fw (.pointer (some ⟨ab a.au.A,ao a.au.A+f *2,none⟩)) (FZ (jO) rfl rfl ((G.ro (J _ (E0 m)).1).addr (i:=f) e6) e6) (fw (.agg (aL.cells g).toArray) (F5 rfl (Gc (cs:=(aL.cells g)) Tryz.isAgg153 Tryz.sizeOf153 ((G.ro (J _ (E0 m)).1).elem aL.len N f3))) ?_))))))
 refine dM [.string ⟨y6 ([])⟩, .string ⟨y6 ([])⟩] 153 G ?_
 intro ae bE aP
 refine dN (aL.cells g) 0 aP Tryz.sizeOf153 ?_
 intro bF ag
 refine ns (Kz (vP ae 0) (Lz (.string ⟨y6 g.bY⟩) ag 0 C4 ?_))
 obtain⟨z,t⟩:∃ q,gF g.bY=q:=⟨_,rfl⟩
 obtain⟨bG,ah,bn,aj,bq⟩:=FY ag
 refine cl K7 (ku _ _ g.bY z ah t) ?_
 rintro _ bH ⟨rfl,ak,O,P⟩
 have L:=aj _ _ ak
 replace O: ¬ (z=0)∨(1≤g.bY.length∧g.bY.length≤12):=O
 replace P:g.bY.length < 1∨g.bY.length > 12∨z=0:=P
 refine fw (.bool (decide (¬ (z=0)))) (Gi (e:= !(decide (z=0))) yk decide_not.symm) (Mz rfl ?_)
 by_cases h:z=0
 refine gw (vP ae 1) (dF (JP h)) yk (gw (.string ⟨y6 g.aW⟩) (dF (JP h)) (F5 rfl (bZ.one C4 (jL.of (L.cls (i:=0) rfl) rfl))) (gw (vJ g.aW.length) (dF (JP h)) yk (gw (.bool (decide (((g.aW.length:Nat):Int) > 16))) (dF (JP h)) yk (fw (.bool (decide (((g.aW.length:Nat):Int) > 16))) (FX rfl (dF (JP h)) rfl) (nt ?_)))))
 by_cases M:((g.aW.length:Nat):Int) > 16
 refine jT (dT M) (sr (An rfl (rt (bR (tR (tR (bR (bR (tR (tR (bR (tR (rs ?_)))))))))))))
 have aQ:=L.pk []
 obtain rfl:_=false:=hr.symm.trans (et (ai k) (et (iN o) (jq (et (l) (et (congrArg (fun q=>gN q) p) (et (iN d) (et (iN y) (qm (et (s) (et (congrArg (fun q=>gZ q) I) (et (ai t) (et (ip h) (ip M)))))))))))))
 exact⟨rfl,aQ⟩
 refine jF (dF M) (Gj (bN (FW (FT (fw (vJ (f+1)) (FV (e:=C7.wrap (((f:Nat):Int)+1)) yk f1) (Mz rfl (D0 ?_)))))))
 have aR:=L.pk [1]
 exact F9 (f+1) ⟨rfl,rfl,rfl,rfl,rfl,rfl,rfl,rfl,rfl,rfl,rfl,rfl,rfl,rfl,rfl,rfl,rfl,rfl,rfl,rfl,rfl,rfl,trivial⟩ (F.2 ⟨aR,e6,et (s) (et (congrArg (fun q=>gZ q) I) (et (ai t) (et (ip h) (iN M))))⟩) (by show a.au.ls.length - (f+1) < a.au.ls.length - f; omega)
 refine Sz (dT h) (Sz (dT h) (Sz (dT h) (Sz (dT h) (fw (.bool true) (Gb rfl (dT h) rfl) (nt (jt (sr (An rfl (rt (bR (tR (tR (bR (bR (tR (tR (bR (tR (rs ?_)))))))))))))))))))
 have aS:=L.pk []
 obtain rfl:_=false:=hr.symm.trans (et (ai k) (et (iN o) (jq (et (l) (et (congrArg (fun q=>gN q) p) (et (iN d) (et (iN y) (qm (et (s) (et (congrArg (fun q=>gZ q) I) (et (ai t) (iN h))))))))))))
 exact⟨rfl,aS⟩
 refine jF (dF aa) (D1 (F4 ?_))
 have au:gZ a.au.ls=C1 ():=et (s) (et (congrArg (fun q=>gZ q) (eZ (ls:=a.au.ls) (i:=f) e6)) rfl)
 refine F4 (Gg (bN (FW (FT (fw (vJ (b+1)) (FV (e:=C7.wrap (((b:Nat):Int)+1)) yk f1) (Mz rfl (D0 ?_)))))))
 have aT:=G.pk []
 exact F9 (b+1) ⟨rfl,rfl,rfl,rfl,trivial⟩ (C.2 ⟨aT,e6,et (l) (et (congrArg (fun q=>gN q) p) (et (iN d) (et (iN y) (tC au))))⟩) (by show l1.length - (b+1) < l1.length - b; omega)
 refine jF (dF X) (D1 (F4 ?_))
 have av:gN l1=C1 ():=et (l) (et (congrArg (fun q=>gN q) (eZ (ls:=l1) (i:=b) e6)) rfl)
 refine F4 (Gg (FW (sr (An rfl (rt (rs ?_))))))
 have ax:=E.pk []
 obtain rfl:_=true:=hr.symm.trans (et (ai k) (et (iN o) (nS av)))
 exact⟨rfl,ax⟩
theorem uf (w:World) (D:Nat→Prop) (j:Int) (H:Own w D w []) (c:j=1):
    Calls y4 158 #[vI j] w (dR fun v w'=>v= .tuple #[.agg #[.bool false, .func (.func 172) #[] #[], .func (.func 173) #[] #[], .func (.func 174) #[] #[], .func (.func 175) #[] #[]], .bool true]∧Own w D w' []):=by
 subst c
 refine cb K8 ?_
 refine sr ?_
 refine dM [.bool false, .nilFunc, .nilFunc, .nilFunc, .nilFunc] 231 H ?_
 intro l n d
 refine Ar rfl (Kz (.agg #[.bool false, .func (.func 172) #[] #[], .func (.func 173) #[] #[], .func (.func 174) #[] #[], .func (.func 175) #[] #[]]) (Kz (.agg #[.bool true, .func (.func 176) #[] #[], .func (.func 177) #[] #[], .func (.func 174) #[] #[], .func (.func 178) #[] #[]]) (Kz (.agg #[.bool true, .func (.func 172) #[] #[], .func (.func 173) #[] #[], .func (.func 174) #[] #[], .func (.func 179) #[] #[]]) (Kz (.agg #[.bool false, .func (.func 180) #[] #[], .func (.func 181) #[] #[], .func (.func 182) #[] #[], .func (.func 183) #[] #[]]) (Kz (.agg #[.bool true, .func (.func 184) #[] #[], .func (.func 185) #[] #[], .func (.func 182) #[] #[], .func (.func 186) #[] #[]]) (Kz (.agg #[.bool false, .nilFunc, .nilFunc, .nilFunc, .nilFunc, .bool false, .func (.func 172) #[] #[], .func (.func 173) #[] #[], .func (.func 174) #[] #[], .func (.func 175) #[] #[], .bool true, .func (.func 176) #[] #[], .func (.func 177) #[] #[], .func (.func 174) #[] #[], .func (.func 178) #[] #[], .bool true, .func (.func 172) #[] #[], .func (.func 173) #[] #[], .func (.func 174) #[] #[], .func (.func 179) #[] #[], .bool false, .func (.func 180) #[] #[], .func (.func 181) #[] #[], .func (.func 182) #[] #[], .func (.func 183) #[] #[], .bool true, .func (.func 184) #[] #[], .func (.func 185) #[] #[], .func (.func 182) #[] #[], .func (.func 186) #[] #[]]) ?_))))))
 refine dM [.bool false, .nilFunc, .nilFunc, .nilFunc, .nilFunc, .bool false, .nilFunc, .nilFunc, .nilFunc, .nilFunc, .bool false, .nilFunc, .nilFunc, .nilFunc, .nilFunc, .bool false, .nilFunc, .nilFunc, .nilFunc, .nilFunc, .bool false, .nilFunc, .nilFunc, .nilFunc, .nilFunc, .bool false, .nilFunc, .nilFunc, .nilFunc, .nilFunc] 244 d ?_
 intro e o f
 refine dN [.bool false, .nilFunc, .nilFunc, .nilFunc, .nilFunc, .bool false, .func (.func 172) #[] #[], .func (.func 173) #[] #[], .func (.func 174) #[] #[], .func (.func 175) #[] #[], .bool true, .func (.func 176) #[] #[], .func (.func 177) #[] #[], .func (.func 174) #[] #[], .func (.func 178) #[] #[], .bool true, .func (.func 172) #[] #[], .func (.func 173) #[] #[], .func (.func 174) #[] #[], .func (.func 179) #[] #[], .bool false, .func (.func 180) #[] #[], .func (.func 181) #[] #[], .func (.func 182) #[] #[], .func (.func 183) #[] #[], .bool true, .func (.func 184) #[] #[], .func (.func 185) #[] #[], .func (.func 182) #[] #[], .func (.func 186) #[] #[]] 0 f K9 ?_
 intro p a
 refine nt (FU (sr (Mz rfl (Kz (.bool false) (Mz rfl (gw (vI 1) rfl (F7 rfl) (Gz (.bool false) rfl (fw (.bool false) (FX rfl rfl rfl) (nt (jf (sk (sr (Mz rfl (Kz (vP e 5) (La ([.bool false, .func (.func 172) #[] #[], .func (.func 173) #[] #[], .func (.func 174) #[] #[], .func (.func 175) #[] #[]]) a 0 L0 L3 ?_)))))))))))))))
 have g:=a.pb [0]
 refine dN [.bool false, .func (.func 172) #[] #[], .func (.func 173) #[] #[], .func (.func 174) #[] #[], .func (.func 175) #[] #[]] 0 g L3 ?_
 intro q b
 refine An rfl (rt (Fin.res (kC (vs:= [.agg #[.bool false, .func (.func 172) #[] #[], .func (.func 173) #[] #[], .func (.func 174) #[] #[], .func (.func 175) #[] #[]], .bool true]) rfl (dS.cell rfl (Gc (cs:= [.bool false, .func (.func 172) #[] #[], .func (.func 173) #[] #[], .func (.func 174) #[] #[], .func (.func 175) #[] #[]]) L0 L3 ((b.cls (i:=0) rfl).lit (k:=0) (m:=5) rfl)) (dS.tmp rfl dS.nil)) (JM rfl)) ?_))
 have h:=b.pk []
 exact⟨rfl,h⟩
def rD (a:bC):bC:=
 bC.mk a.aH a.bY ([]) ([]) ([]) 0
theorem vH (w:World) (D:Nat→Prop) (a:bC) (g:bC) (H:Own w D w []) (hr:rD a=g):
    Calls y4 172 #[.agg (bC.cells a).toArray] w (dR fun v w'=>v= .agg (bC.cells g).toArray∧Own w D w' []):=by
 refine cb Tryz.func172 ?_
 refine sr ?_
 refine dM (bC.cells a) 72 H ?_
 intro c h e
 refine dM [vI 0, .string ⟨y6 ([])⟩, .string ⟨y6 ([])⟩, .string ⟨y6 ([])⟩, .string ⟨y6 ([])⟩,vI 0] 72 e ?_
 intro j l b
 refine ns (Kz (vP c 0) (Lz (vI a.aH) b 1 C6 (Kz (vP c 1) (Lz (.string ⟨y6 a.bY⟩) b 1 C4 (Kz (.agg #[vI a.aH, .string ⟨y6 a.bY⟩, .string ⟨y6 ([])⟩, .string ⟨y6 ([])⟩, .string ⟨y6 ([])⟩,vI 0]) ?_)))))
 refine dN [vI a.aH, .string ⟨y6 a.bY⟩, .string ⟨y6 ([])⟩, .string ⟨y6 ([])⟩, .string ⟨y6 ([])⟩,vI 0] 0 b L4 ?_
 intro n d
 refine nt (rt (Fin.res (mZ rfl rfl (Gc (cs:= [vI a.aH, .string ⟨y6 a.bY⟩, .string ⟨y6 ([])⟩, .string ⟨y6 ([])⟩, .string ⟨y6 ([])⟩,vI 0]) L5 L4 ((d.cls (i:=0) rfl).lit (k:=0) (m:=6) rfl))) ?_))
 have f:=d.pk []
 obtain rfl:_=bC.mk a.aH a.bY ([]) ([]) ([]) 0:=hr.symm.trans rfl
 exact⟨rfl,f⟩
def pK (b:bC):Int:=
 bnd (gF b.bY) fun a=>a
theorem ug (w:World) (D:Nat→Prop) (a:bC) (m:Int) (H:Own w D w []) (hr:pK a=m):
    Calls y4 173 #[.agg (bC.cells a).toArray] w (dR fun v w'=>v=vI m∧Own w D w' []):=by
 refine cb Tryz.func173 ?_
 refine sr ?_
 refine dM (bC.cells a) 72 H ?_
 intro j p f
 refine Ar rfl (Kz (vP j 1) (Lz (.string ⟨y6 a.bY⟩) f 0 C4 ?_))
 obtain⟨b,c⟩:∃ q,gF a.bY=q:=⟨_,rfl⟩
 obtain⟨r,g,n,h,o⟩:=FY f
 refine cl K7 (ku _ _ a.bY b g c) ?_
 rintro _ s ⟨rfl,i,d,e⟩
 have k:=h _ _ i
 replace d: ¬ (b=0)∨(1≤a.bY.length∧a.bY.length≤12):=d
 replace e:a.bY.length < 1∨a.bY.length > 12∨b=0:=e
 refine An rfl (rt (rs ?_))
 have l:=k.pk []
 obtain rfl:_=b:=hr.symm.trans (ai c)
 exact⟨rfl,l⟩
theorem uh (w:World) (D:Nat→Prop) (j:Int) (H:Own w D w []) (c:j=2):
    Calls y4 158 #[vI j] w (dR fun v w'=>v= .tuple #[.agg #[.bool true, .func (.func 176) #[] #[], .func (.func 177) #[] #[], .func (.func 174) #[] #[], .func (.func 178) #[] #[]], .bool true]∧Own w D w' []):=by
 subst c
 refine cb K8 ?_
 refine sr ?_
 refine dM [.bool false, .nilFunc, .nilFunc, .nilFunc, .nilFunc] 231 H ?_
 intro l n d
 refine Ar rfl (Kz (.agg #[.bool false, .func (.func 172) #[] #[], .func (.func 173) #[] #[], .func (.func 174) #[] #[], .func (.func 175) #[] #[]]) (Kz (.agg #[.bool true, .func (.func 176) #[] #[], .func (.func 177) #[] #[], .func (.func 174) #[] #[], .func (.func 178) #[] #[]]) (Kz (.agg #[.bool true, .func (.func 172) #[] #[], .func (.func 173) #[] #[], .func (.func 174) #[] #[], .func (.func 179) #[] #[]]) (Kz (.agg #[.bool false, .func (.func 180) #[] #[], .func (.func 181) #[] #[], .func (.func 182) #[] #[], .func (.func 183) #[] #[]]) (Kz (.agg #[.bool true, .func (.func 184) #[] #[], .func (.func 185) #[] #[], .func (.func 182) #[] #[], .func (.func 186) #[] #[]]) (Kz (.agg #[.bool false, .nilFunc, .nilFunc, .nilFunc, .nilFunc, .bool false, .func (.func 172) #[] #[], .func (.func 173) #[] #[], .func (.func 174) #[] #[], .func (.func 175) #[] #[], .bool true, .func (.func 176) #[] #[], .func (.func 177) #[] #[], .func (.func 174) #[] #[], .func (.func 178) #[] #[], .bool true, .func (.func 172) #[] #[], .func (.func 173) #[] #[], .func (.func 174) #[] #[], .func (.func 179) #[] #[], .bool false, .func (.func 180) #[] #[], .func (.func 181) #[] #[], .func (.func 182) #[] #[], .func (.func 183) #[] #[], .bool true, .func (.func 184) #[] #[], .func (.func 185) #[] #[], .func (.func 182) #[] #[], .func (.func 186) #[] #[]]) ?_))))))
 refine dM [.bool false, .nilFunc, .nilFunc, .nilFunc, .nilFunc, .bool false, .nilFunc, .nilFunc, .nilFunc, .nilFunc, .bool false, .nilFunc, .nilFunc, .nilFunc, .nilFunc, .bool false, .nilFunc, .nilFunc, .nilFunc, .nilFunc, .bool false, .nilFunc, .nilFunc, .nilFunc, .nilFunc, .bool false, .nilFunc, .nilFunc, .nilFunc, .nilFunc] 244 d ?_
 intro e o f
 refine dN [.bool false, .nilFunc, .nilFunc, .nilFunc, .nilFunc, .bool false, .func (.func 172) #[] #[], .func (.func 173) #[] #[], .func (.func 174) #[] #[], .func (.func 175) #[] #[], .bool true, .func (.func 176) #[] #[], .func (.func 177) #[] #[], .func (.func 174) #[] #[], .func (.func 178) #[] #[], .bool true, .func (.func 172) #[] #[], .func (.func 173) #[] #[], .func (.func 174) #[] #[], .func (.func 179) #[] #[], .bool false, .func (.func 180) #[] #[], .func (.func 181) #[] #[], .func (.func 182) #[] #[], .func (.func 183) #[] #[], .bool true, .func (.func 184) #[] #[], .func (.func 185) #[] #[], .func (.func 182) #[] #[], .func (.func 186) #[] #[]] 0 f K9 ?_
 intro p a
 refine nt (FU (sr (Mz rfl (Kz (.bool false) (Mz rfl (gw (vI 2) rfl (F7 rfl) (Gz (.bool false) rfl (fw (.bool false) (FX rfl rfl rfl) (nt (jf (sk (sr (Mz rfl (Kz (vP e 10) (La ([.bool true, .func (.func 176) #[] #[], .func (.func 177) #[] #[], .func (.func 174) #[] #[], .func (.func 178) #[] #[]]) a 0 L0 L3 ?_)))))))))))))))
 have g:=a.pb [0]
 refine dN [.bool true, .func (.func 176) #[] #[], .func (.func 177) #[] #[], .func (.func 174) #[] #[], .func (.func 178) #[] #[]] 0 g L3 ?_
 intro q b
 refine An rfl (rt (Fin.res (kC (vs:= [.agg #[.bool true, .func (.func 176) #[] #[], .func (.func 177) #[] #[], .func (.func 174) #[] #[], .func (.func 178) #[] #[]], .bool true]) rfl (dS.cell rfl (Gc (cs:= [.bool true, .func (.func 176) #[] #[], .func (.func 177) #[] #[], .func (.func 174) #[] #[], .func (.func 178) #[] #[]]) L0 L3 ((b.cls (i:=0) rfl).lit (k:=0) (m:=5) rfl)) (dS.tmp rfl dS.nil)) (JM rfl)) ?_))
 have h:=b.pk []
 exact⟨rfl,h⟩
def uG (a:bC):bC:=
 bC.mk a.aH a.bY a.aW ([]) ([]) 0
theorem yU (w:World) (D:Nat→Prop) (a:bC) (g:bC) (H:Own w D w []) (hr:uG a=g):
    Calls y4 176 #[.agg (bC.cells a).toArray] w (dR fun v w'=>v= .agg (bC.cells g).toArray∧Own w D w' []):=by
 refine cb Tryz.func176 ?_
 refine sr ?_
 refine dM (bC.cells a) 72 H ?_
 intro c h e
 refine dM [vI 0, .string ⟨y6 ([])⟩, .string ⟨y6 ([])⟩, .string ⟨y6 ([])⟩, .string ⟨y6 ([])⟩,vI 0] 72 e ?_
 intro j l b
 refine ns (Kz (vP c 0) (Lz (vI a.aH) b 1 C6 (Kz (vP c 1) (Lz (.string ⟨y6 a.bY⟩) b 1 C4 (Kz (vP c 2) (Lz (.string ⟨y6 a.aW⟩) b 1 C4 (Kz (.agg #[vI a.aH, .string ⟨y6 a.bY⟩, .string ⟨y6 a.aW⟩, .string ⟨y6 ([])⟩, .string ⟨y6 ([])⟩,vI 0]) ?_)))))))
 refine dN [vI a.aH, .string ⟨y6 a.bY⟩, .string ⟨y6 a.aW⟩, .string ⟨y6 ([])⟩, .string ⟨y6 ([])⟩,vI 0] 0 b L4 ?_
 intro n d
 refine nt (rt (Fin.res (mZ rfl rfl (Gc (cs:= [vI a.aH, .string ⟨y6 a.bY⟩, .string ⟨y6 a.aW⟩, .string ⟨y6 ([])⟩, .string ⟨y6 ([])⟩,vI 0]) L5 L4 ((d.cls (i:=0) rfl).lit (k:=0) (m:=6) rfl))) ?_))
 have f:=d.pk []
 obtain rfl:_=bC.mk a.aH a.bY a.aW ([]) ([]) 0:=hr.symm.trans rfl
 exact⟨rfl,f⟩
def rT (a:List UInt8):Int:=
 if((a.length:Nat):Int) > 16 then 2 else 0
theorem wZ (w:World) (D:Nat→Prop) (b:List UInt8) (e:Int) (H:Own w D w []) (hr:rT b=e):
    Calls y4 197 #[.string ⟨y6 b⟩] w (dR fun v w'=>v=vI e∧Own w D w' []):=by
 refine cb Tryz.func197 ?_
 refine sr (An rfl (FU (sr (Mz rfl (Kz (vJ b.length) (Kz (.bool (decide (((b.length:Nat):Int) > 16))) (nt ?_)))))))
 by_cases a:((b.length:Nat):Int) > 16
 refine jT (dT a) (sr (An rfl (rt (tR (rs ?_)))))
 have c:=H.pk []
 obtain rfl:_=2:=hr.symm.trans (ip a)
 exact⟨rfl,c⟩
 refine jF (dF a) (sk (sr (An rfl (rt (rs ?_)))))
 have d:=H.pk []
 obtain rfl:_=0:=hr.symm.trans (iN a)
 exact⟨rfl,d⟩
def sN (c:bC):Int:=
 bnd (gF c.bY) fun a=>if a=0 then bnd (rT c.aW) fun b=>b else a
theorem xH (w:World) (D:Nat→Prop) (b:bC) (y:Int) (H:Own w D w []) (hr:sN b=y):
    Calls y4 177 #[.agg (bC.cells b).toArray] w (dR fun v w'=>v=vI y∧Own w D w' []):=by
 refine cb Tryz.func177 ?_
 refine sr ?_
 refine dM (bC.cells b) 72 H ?_
 intro j E k
 refine An rfl (FU (sr (Kz (vP j 1) (Lz (.string ⟨y6 b.bY⟩) k 0 C4 ?_))))
 obtain⟨a,c⟩:∃ q,gF b.bY=q:=⟨_,rfl⟩
 obtain⟨F,l,z,m,A⟩:=FY k
 refine cl K7 (ku _ _ b.bY a l c) ?_
 rintro _ G ⟨rfl,n,f,g⟩
 have i:=m _ _ n
 replace f: ¬ (a=0)∨(1≤b.bY.length∧b.bY.length≤12):=f
 replace g:b.bY.length < 1∨b.bY.length > 12∨a=0:=g
 refine Ar rfl (Mz rfl (fw (.bool (decide (¬ (a=0)))) (Gi (e:= !(decide (a=0))) yk decide_not.symm) (nt ?_)))
 by_cases d:a=0
 refine jF (dF (JP d)) (sk (sr (Kz (vP j 2) (Lz (.string ⟨y6 b.aW⟩) i 0 C4 ?_))))
 obtain⟨o,h⟩:∃ q,rT b.aW=q:=⟨_,rfl⟩
 obtain⟨I,p,B,r,C⟩:=FY i
 refine cl Tryz.call197 (wZ _ _ b.aW o p h) ?_
 rintro _ J ⟨rfl,s⟩
 have t:=r _ _ s
 refine An rfl (rt (rs ?_))
 have u:=t.pk []
 obtain rfl:_=o:=hr.symm.trans (et (ai c) (et (ip d) (ai h)))
 exact⟨rfl,u⟩
 refine jT (dT d) (sr (Mz rfl (An rfl (rt (tR (rs ?_))))))
 have x:=i.pk []
 obtain rfl:_=a:=hr.symm.trans (et (ai c) (iN d))
 exact⟨rfl,x⟩
theorem ui (w:World) (D:Nat→Prop) (j:Int) (H:Own w D w []) (c:j=3):
    Calls y4 158 #[vI j] w (dR fun v w'=>v= .tuple #[.agg #[.bool true, .func (.func 172) #[] #[], .func (.func 173) #[] #[], .func (.func 174) #[] #[], .func (.func 179) #[] #[]], .bool true]∧Own w D w' []):=by
 subst c
 refine cb K8 ?_
 refine sr ?_
 refine dM [.bool false, .nilFunc, .nilFunc, .nilFunc, .nilFunc] 231 H ?_
 intro l n d
 refine Ar rfl (Kz (.agg #[.bool false, .func (.func 172) #[] #[], .func (.func 173) #[] #[], .func (.func 174) #[] #[], .func (.func 175) #[] #[]]) (Kz (.agg #[.bool true, .func (.func 176) #[] #[], .func (.func 177) #[] #[], .func (.func 174) #[] #[], .func (.func 178) #[] #[]]) (Kz (.agg #[.bool true, .func (.func 172) #[] #[], .func (.func 173) #[] #[], .func (.func 174) #[] #[], .func (.func 179) #[] #[]]) (Kz (.agg #[.bool false, .func (.func 180) #[] #[], .func (.func 181) #[] #[], .func (.func 182) #[] #[], .func (.func 183) #[] #[]]) (Kz (.agg #[.bool true, .func (.func 184) #[] #[], .func (.func 185) #[] #[], .func (.func 182) #[] #[], .func (.func 186) #[] #[]]) (Kz (.agg #[.bool false, .nilFunc, .nilFunc, .nilFunc, .nilFunc, .bool false, .func (.func 172) #[] #[], .func (.func 173) #[] #[], .func (.func 174) #[] #[], .func (.func 175) #[] #[], .bool true, .func (.func 176) #[] #[], .func (.func 177) #[] #[], .func (.func 174) #[] #[], .func (.func 178) #[] #[], .bool true, .func (.func 172) #[] #[], .func (.func 173) #[] #[], .func (.func 174) #[] #[], .func (.func 179) #[] #[], .bool false, .func (.func 180) #[] #[], .func (.func 181) #[] #[], .func (.func 182) #[] #[], .func (.func 183) #[] #[], .bool true, .func (.func 184) #[] #[], .func (.func 185) #[] #[], .func (.func 182) #[] #[], .func (.func 186) #[] #[]]) ?_))))))
 refine dM [.bool false, .nilFunc, .nilFunc, .nilFunc, .nilFunc, .bool false, .nilFunc, .nilFunc, .nilFunc, .nilFunc, .bool false, .nilFunc, .nilFunc, .nilFunc, .nilFunc, .bool false, .nilFunc, .nilFunc, .nilFunc, .nilFunc, .bool false, .nilFunc, .nilFunc, .nilFunc, .nilFunc, .bool false, .nilFunc, .nilFunc, .nilFunc, .nilFunc] 244 d ?_
 intro e o f
 refine dN [.bool false, .nilFunc, .nilFunc, .nilFunc, .nilFunc, .bool false, .func (.func 172) #[] #[], .func (.func 173) #[] #[], .func (.func 174) #[] #[], .func (.func 175) #[] #[], .bool true, .func (.func 176) #[] #[], .func (.func 177) #[] #[], .func (.func 174) #[] #[], .func (.func 178) #[] #[], .bool true, .func (.func 172) #[] #[], .func (.func 173) #[] #[], .func (.func 174) #[] #[], .func (.func 179) #[] #[], .bool false, .func (.func 180) #[] #[], .func (.func 181) #[] #[], .func (.func 182) #[] #[], .func (.func 183) #[] #[], .bool true, .func (.func 184) #[] #[], .func (.func 185) #[] #[], .func (.func 182) #[] #[], .func (.func 186) #[] #[]] 0 f K9 ?_
 intro p a
 refine nt (FU (sr (Mz rfl (Kz (.bool false) (Mz rfl (gw (vI 3) rfl (F7 rfl) (Gz (.bool false) rfl (fw (.bool false) (FX rfl rfl rfl) (nt (jf (sk (sr (Mz rfl (Kz (vP e 15) (La ([.bool true, .func (.func 172) #[] #[], .func (.func 173) #[] #[], .func (.func 174) #[] #[], .func (.func 179) #[] #[]]) a 0 L0 L3 ?_)))))))))))))))
 have g:=a.pb [0]
 refine dN [.bool true, .func (.func 172) #[] #[], .func (.func 173) #[] #[], .func (.func 174) #[] #[], .func (.func 179) #[] #[]] 0 g L3 ?_
 intro q b
 refine An rfl (rt (Fin.res (kC (vs:= [.agg #[.bool true, .func (.func 172) #[] #[], .func (.func 173) #[] #[], .func (.func 174) #[] #[], .func (.func 179) #[] #[]], .bool true]) rfl (dS.cell rfl (Gc (cs:= [.bool true, .func (.func 172) #[] #[], .func (.func 173) #[] #[], .func (.func 174) #[] #[], .func (.func 179) #[] #[]]) L0 L3 ((b.cls (i:=0) rfl).lit (k:=0) (m:=5) rfl)) (dS.tmp rfl dS.nil)) (JM rfl)) ?_))
 have h:=b.pk []
 exact⟨rfl,h⟩
theorem uj (w:World) (D:Nat→Prop) (j:Int) (H:Own w D w []) (c:j=4):
    Calls y4 158 #[vI j] w (dR fun v w'=>v= .tuple #[.agg #[.bool false, .func (.func 180) #[] #[], .func (.func 181) #[] #[], .func (.func 182) #[] #[], .func (.func 183) #[] #[]], .bool true]∧Own w D w' []):=by
 subst c
 refine cb K8 ?_
 refine sr ?_
 refine dM [.bool false, .nilFunc, .nilFunc, .nilFunc, .nilFunc] 231 H ?_
 intro l n d
 refine Ar rfl (Kz (.agg #[.bool false, .func (.func 172) #[] #[], .func (.func 173) #[] #[], .func (.func 174) #[] #[], .func (.func 175) #[] #[]]) (Kz (.agg #[.bool true, .func (.func 176) #[] #[], .func (.func 177) #[] #[], .func (.func 174) #[] #[], .func (.func 178) #[] #[]]) (Kz (.agg #[.bool true, .func (.func 172) #[] #[], .func (.func 173) #[] #[], .func (.func 174) #[] #[], .func (.func 179) #[] #[]]) (Kz (.agg #[.bool false, .func (.func 180) #[] #[], .func (.func 181) #[] #[], .func (.func 182) #[] #[], .func (.func 183) #[] #[]]) (Kz (.agg #[.bool true, .func (.func 184) #[] #[], .func (.func 185) #[] #[], .func (.func 182) #[] #[], .func (.func 186) #[] #[]]) (Kz (.agg #[.bool false, .nilFunc, .nilFunc, .nilFunc, .nilFunc, .bool false, .func (.func 172) #[] #[], .func (.func 173) #[] #[], .func (.func 174) #[] #[], .func (.func 175) #[] #[], .bool true, .func (.func 176) #[] #[], .func (.func 177) #[] #[], .func (.func 174) #[] #[], .func (.func 178) #[] #[], .bool true, .func (.func 172) #[] #[], .func (.func 173) #[] #[], .func (.func 174) #[] #[], .func (.func 179) #[] #[], .bool false, .func (.func 180) #[] #[], .func (.func 181) #[] #[], .func (.func 182) #[] #[], .func (.func 183) #[] #[], .bool true, .func (.func 184) #[] #[], .func (.func 185) #[] #[], .func (.func 182) #[] #[], .func (.func 186) #[] #[]]) ?_))))))
 refine dM [.bool false, .nilFunc, .nilFunc, .nilFunc, .nilFunc, .bool false, .nilFunc, .nilFunc, .nilFunc, .nilFunc, .bool false, .nilFunc, .nilFunc, .nilFunc, .nilFunc, .bool false, .nilFunc, .nilFunc, .nilFunc, .nilFunc, .bool false, .nilFunc, .nilFunc, .nilFunc, .nilFunc, .bool false, .nilFunc, .nilFunc, .nilFunc, .nilFunc] 244 d ?_
 intro e o f
 refine dN [.bool false, .nilFunc, .nilFunc, .nilFunc, .nilFunc, .bool false, .func (.func 172) #[] #[], .func (.func 173) #[] #[], .func (.func 174) #[] #[], .func (.func 175) #[] #[], .bool true, .func (.func 176) #[] #[], .func (.func 177) #[] #[], .func (.func 174) #[] #[], .func (.func 178) #[] #[], .bool true, .func (.func 172) #[] #[], .func (.func 173) #[] #[], .func (.func 174) #[] #[], .func (.func 179) #[] #[], .bool false, .func (.func 180) #[] #[], .func (.func 181) #[] #[], .func (.func 182) #[] #[], .func (.func 183) #[] #[], .bool true, .func (.func 184) #[] #[], .func (.func 185) #[] #[], .func (.func 182) #[] #[], .func (.func 186) #[] #[]] 0 f K9 ?_
 intro p a
 refine nt (FU (sr (Mz rfl (Kz (.bool false) (Mz rfl (gw (vI 4) rfl (F7 rfl) (Gz (.bool false) rfl (fw (.bool false) (FX rfl rfl rfl) (nt (jf (sk (sr (Mz rfl (Kz (vP e 20) (La ([.bool false, .func (.func 180) #[] #[], .func (.func 181) #[] #[], .func (.func 182) #[] #[], .func (.func 183) #[] #[]]) a 0 L0 L3 ?_)))))))))))))))
 have g:=a.pb [0]
 refine dN [.bool false, .func (.func 180) #[] #[], .func (.func 181) #[] #[], .func (.func 182) #[] #[], .func (.func 183) #[] #[]] 0 g L3 ?_
 intro q b
 refine An rfl (rt (Fin.res (kC (vs:= [.agg #[.bool false, .func (.func 180) #[] #[], .func (.func 181) #[] #[], .func (.func 182) #[] #[], .func (.func 183) #[] #[]], .bool true]) rfl (dS.cell rfl (Gc (cs:= [.bool false, .func (.func 180) #[] #[], .func (.func 181) #[] #[], .func (.func 182) #[] #[], .func (.func 183) #[] #[]]) L0 L3 ((b.cls (i:=0) rfl).lit (k:=0) (m:=5) rfl)) (dS.tmp rfl dS.nil)) (JM rfl)) ?_))
 have h:=b.pk []
 exact⟨rfl,h⟩
def uH (a:bC):bC:=
 bC.mk a.aH ([]) ([]) a.bK a.bW a.bU
theorem yV (w:World) (D:Nat→Prop) (a:bC) (g:bC) (H:Own w D w []) (hr:uH a=g):
    Calls y4 180 #[.agg (bC.cells a).toArray] w (dR fun v w'=>v= .agg (bC.cells g).toArray∧Own w D w' []):=by
 refine cb Tryz.func180 ?_
 refine sr ?_
 refine dM (bC.cells a) 72 H ?_
 intro c h e
 refine dM [vI 0, .string ⟨y6 ([])⟩, .string ⟨y6 ([])⟩, .string ⟨y6 ([])⟩, .string ⟨y6 ([])⟩,vI 0] 72 e ?_
 intro j l b
 refine ns (Kz (vP c 0) (Lz (vI a.aH) b 1 C6 (Kz (vP c 3) (Lz (.string ⟨y6 a.bK⟩) b 1 C4 (Kz (vP c 4) (Lz (.string ⟨y6 a.bW⟩) b 1 C4 (Kz (vP c 5) (Lz (vI a.bU) b 1 C6 (Kz (.agg #[vI a.aH, .string ⟨y6 ([])⟩, .string ⟨y6 ([])⟩, .string ⟨y6 a.bK⟩, .string ⟨y6 a.bW⟩,vI a.bU]) ?_)))))))))
 refine dN [vI a.aH, .string ⟨y6 ([])⟩, .string ⟨y6 ([])⟩, .string ⟨y6 a.bK⟩, .string ⟨y6 a.bW⟩,vI a.bU] 0 b L4 ?_
 intro n d
 refine nt (rt (Fin.res (mZ rfl rfl (Gc (cs:= [vI a.aH, .string ⟨y6 ([])⟩, .string ⟨y6 ([])⟩, .string ⟨y6 a.bK⟩, .string ⟨y6 a.bW⟩,vI a.bU]) L5 L4 ((d.cls (i:=0) rfl).lit (k:=0) (m:=6) rfl))) ?_))
 have f:=d.pk []
 obtain rfl:_=bC.mk a.aH ([]) ([]) a.bK a.bW a.bU:=hr.symm.trans rfl
 exact⟨rfl,f⟩
def sO (a:bC):bL:=
 bL.mk a.bK a.bW
theorem xI (w:World) (D:Nat→Prop) (a:bC) (g:bL) (H:Own w D w []) (hr:sO a=g):
    Calls y4 182 #[.agg (bC.cells a).toArray] w (dR fun v w'=>v= .agg (bL.cells g).toArray∧Own w D w' []):=by
 refine cb Tryz.func182 ?_
 refine sr ?_
 refine dM (bC.cells a) 72 H ?_
 intro c h e
 refine dM [.string ⟨y6 ([])⟩, .string ⟨y6 ([])⟩] 38 e ?_
 intro j l b
 refine ns (Kz (vP c 3) (Lz (.string ⟨y6 a.bK⟩) b 1 C4 (Kz (vP c 4) (Lz (.string ⟨y6 a.bW⟩) b 1 C4 (Kz (.agg #[.string ⟨y6 a.bK⟩, .string ⟨y6 a.bW⟩]) ?_)))))
 refine dN [.string ⟨y6 a.bK⟩, .string ⟨y6 a.bW⟩] 0 b L6 ?_
 intro n d
 refine nt (rt (Fin.res (mZ rfl rfl (Gc (cs:= [.string ⟨y6 a.bK⟩, .string ⟨y6 a.bW⟩]) L7 L6 ((d.cls (i:=0) rfl).lit (k:=0) (m:=2) rfl))) ?_))
 have f:=d.pk []
 obtain rfl:_=bL.mk a.bK a.bW:=hr.symm.trans rfl
 exact⟨rfl,f⟩
def ma (a:bL):Int:=
 if a.bK≠([]) then bnd (gF a.bK) fun b=>if b=0 then if a.bW≠([]) then bnd (gF a.bW) fun c=>if c=0 then if a.bW≤a.bK then 21 else 0 else 21 else 0 else 21 else if a.bW≠([]) then bnd (gF a.bW) fun d=>if d=0 then if a.bW≤a.bK then 21 else 0 else 21 else 0
theorem pR (w:World) (D:Nat→Prop) (a:bL) (Z:Int) (H:Own w D w []) (hr:ma a=Z):
    Calls y4 116 #[.agg (bL.cells a).toArray] w (dR fun v w'=>v=vI Z∧Own w D w' []):=by
 refine cb Tryz.func116 ?_
 refine sr ?_
 refine dM (bL.cells a) 38 H ?_
 intro h ak k
 refine An rfl (FU (sr (Kz (vP h 0) (Lz (.string ⟨y6 a.bK⟩) k 0 C4 (fw (.bool (decide (a.bK≠([])))) (Hm rfl rfl) (Mz rfl ?_))))))
 by_cases d:a.bK≠([])
 refine Gz (vP h 0) (dT d) (Gl (.string ⟨y6 a.bK⟩) (dT d) k 0 C4 ?_)
 obtain⟨l,j⟩:∃ q,gF a.bK=q:=⟨_,rfl⟩
 obtain⟨au,G,aa,I,ae⟩:=FY k
 refine uX (dT d) K7 (ku _ _ a.bK l G j) ?_
 rintro _ av ⟨rfl,J,z,A⟩
 have s:=I _ _ J
 replace z: ¬ (l=0)∨(1≤a.bK.length∧a.bK.length≤12):=z
 replace A:a.bK.length < 1∨a.bK.length > 12∨l=0:=A
 refine gw (.bool (decide (¬ (l=0)))) (dT d) (Gi (e:= !(decide (l=0))) yk decide_not.symm) (fw (.bool (decide (¬ (l=0)))) (Gb rfl (dT d) rfl) (nt ?_))
 by_cases m:l=0
 refine jF (dF (JP m)) (sk (FU (sr (Kz (vP h 1) (Lz (.string ⟨y6 a.bW⟩) s 0 C4 (fw (.bool (decide (a.bW≠([])))) (Hm rfl rfl) (Mz rfl ?_)))))))
 by_cases b:a.bW≠([])
 refine Gz (vP h 1) (dT b) (Gl (.string ⟨y6 a.bW⟩) (dT b) s 0 C4 ?_)
 obtain⟨n,p⟩:∃ q,gF a.bW=q:=⟨_,rfl⟩
 obtain⟨ax,K,af,L,ag⟩:=FY s
 refine uX (dT b) K7 (ku _ _ a.bW n K p) ?_
 rintro _ ay ⟨rfl,M,B,C⟩
 have t:=L _ _ M
 replace B: ¬ (n=0)∨(1≤a.bW.length∧a.bW.length≤12):=B
 replace C:a.bW.length < 1∨a.bW.length > 12∨n=0:=C
 refine gw (.bool (decide (¬ (n=0)))) (dT b) (Gi (e:= !(decide (n=0))) yk decide_not.symm) (gw (.bool (decide (¬ (n=0)))) (dT b) (F7 rfl) ?_)
 by_cases f:n=0
 refine gw (vP h 1) (dF (JP f)) yk (gw (.string ⟨y6 a.bW⟩) (dF (JP f)) (F5 rfl (bZ.one C4 (jL.of (t.cls (i:=0) rfl) rfl))) (gw (vP h 0) (dF (JP f)) yk (gw (.string ⟨y6 a.bK⟩) (dF (JP f)) (F5 rfl (bZ.one C4 (jL.of (t.cls (i:=0) rfl) rfl))) (gw (.bool (decide (a.bW≤a.bK))) (dF (JP f)) (Gi (e:=Op.bytesLess a.bW a.bK || decide (a.bW=a.bK)) (Hy rfl rfl) (za _ _)) (gw (.bool (decide (a.bW≤a.bK))) (dT b) (FX rfl (dF (JP f)) rfl) (fw (.bool (decide (a.bW≤a.bK))) (Gb rfl (dT b) rfl) (nt ?_)))))))
 by_cases x:a.bW≤a.bK
 refine jT (dT x) (sr (An rfl (rt (tR (rs ?_)))))
 have Q:=t.pk []
 obtain rfl:_=21:=hr.symm.trans (et (ip d) (et (ai j) (et (ip m) (et (ip b) (et (ai p) (et (ip f) (ip x)))))))
 exact⟨rfl,Q⟩
 refine jF (dF x) (sk (sr (An rfl (rt (rs ?_)))))
 have R:=t.pk []
 obtain rfl:_=0:=hr.symm.trans (et (ip d) (et (ai j) (et (ip m) (et (ip b) (et (ai p) (et (ip f) (iN x)))))))
 exact⟨rfl,R⟩
 refine Sz (dT f) (Sz (dT f) (Sz (dT f) (Sz (dT f) (Sz (dT f) (gw (.bool true) (dT b) (Gb rfl (dT f) rfl) (fw (.bool true) (Gb rfl (dT b) rfl) (nt (jt (sr (An rfl (rt (tR (rs ?_)))))))))))))
 have S:=t.pk []
 obtain rfl:_=21:=hr.symm.trans (et (ip d) (et (ai j) (et (ip m) (et (ip b) (et (ai p) (iN f))))))
 exact⟨rfl,S⟩
 refine Sz (dF b) (Sz (dF b) (Sz (dF b) (Sz (dF b) (Sz (dF b) (Gu rfl rfl rfl (Gu rfl rfl rfl (Gu rfl rfl rfl (Gu rfl rfl rfl (Gu rfl rfl rfl (Sz (dF b) (fw (.bool false) (FX rfl (dF b) rfl) (nt (jf (sk (sr (An rfl (rt (rs ?_))))))))))))))))))
 have T:=s.pk []
 obtain rfl:_=0:=hr.symm.trans (et (ip d) (et (ai j) (et (ip m) (iN b))))
 exact⟨rfl,T⟩
 refine jT (dT m) (sr (An rfl (rt (tR (rs ?_)))))
 have U:=s.pk []
 obtain rfl:_=21:=hr.symm.trans (et (ip d) (et (ai j) (iN m)))
 exact⟨rfl,U⟩
 refine Sz (dF d) (Sz (dF d) (Sz (dF d) (Sz (dF d) (fw (.bool false) (FX rfl (dF d) rfl) (nt (jf (sk (FU (sr (Kz (vP h 1) (Lz (.string ⟨y6 a.bW⟩) k 0 C4 (fw (.bool (decide (a.bW≠([])))) (Hm rfl rfl) (Mz rfl ?_)))))))))))))
 by_cases c:a.bW≠([])
 refine Gz (vP h 1) (dT c) (Gl (.string ⟨y6 a.bW⟩) (dT c) k 0 C4 ?_)
 obtain⟨o,r⟩:∃ q,gF a.bW=q:=⟨_,rfl⟩
 obtain⟨az,N,ah,O,aj⟩:=FY k
 refine uX (dT c) K7 (ku _ _ a.bW o N r) ?_
 rintro _ aA ⟨rfl,P,E,F⟩
 have u:=O _ _ P
 replace E: ¬ (o=0)∨(1≤a.bW.length∧a.bW.length≤12):=E
 replace F:a.bW.length < 1∨a.bW.length > 12∨o=0:=F
 refine gw (.bool (decide (¬ (o=0)))) (dT c) (Gi (e:= !(decide (o=0))) yk decide_not.symm) (gw (.bool (decide (¬ (o=0)))) (dT c) (F7 rfl) ?_)
 by_cases g:o=0
 refine gw (vP h 1) (dF (JP g)) yk (gw (.string ⟨y6 a.bW⟩) (dF (JP g)) (F5 rfl (bZ.one C4 (jL.of (u.cls (i:=0) rfl) rfl))) (gw (vP h 0) (dF (JP g)) yk (gw (.string ⟨y6 a.bK⟩) (dF (JP g)) (F5 rfl (bZ.one C4 (jL.of (u.cls (i:=0) rfl) rfl))) (gw (.bool (decide (a.bW≤a.bK))) (dF (JP g)) (Gi (e:=Op.bytesLess a.bW a.bK || decide (a.bW=a.bK)) (Hy rfl rfl) (za _ _)) (gw (.bool (decide (a.bW≤a.bK))) (dT c) (FX rfl (dF (JP g)) rfl) (fw (.bool (decide (a.bW≤a.bK))) (Gb rfl (dT c) rfl) (nt ?_)))))))
 by_cases y:a.bW≤a.bK
 refine jT (dT y) (sr (An rfl (rt (tR (rs ?_)))))
 have V:=u.pk []
 obtain rfl:_=21:=hr.symm.trans (et (iN d) (et (ip c) (et (ai r) (et (ip g) (ip y)))))
 exact⟨rfl,V⟩
 refine jF (dF y) (sk (sr (An rfl (rt (rs ?_)))))
 have W:=u.pk []
 obtain rfl:_=0:=hr.symm.trans (et (iN d) (et (ip c) (et (ai r) (et (ip g) (iN y)))))
 exact⟨rfl,W⟩
 refine Sz (dT g) (Sz (dT g) (Sz (dT g) (Sz (dT g) (Sz (dT g) (gw (.bool true) (dT c) (Gb rfl (dT g) rfl) (fw (.bool true) (Gb rfl (dT c) rfl) (nt (jt (sr (An rfl (rt (tR (rs ?_)))))))))))))
 have X:=u.pk []
 obtain rfl:_=21:=hr.symm.trans (et (iN d) (et (ip c) (et (ai r) (iN g))))
 exact⟨rfl,X⟩
 refine Sz (dF c) (Sz (dF c) (Sz (dF c) (Sz (dF c) (Sz (dF c) (Gu rfl rfl rfl (Gu rfl rfl rfl (Gu rfl rfl rfl (Gu rfl rfl rfl (Gu rfl rfl rfl (Sz (dF c) (fw (.bool false) (FX rfl (dF c) rfl) (nt (jf (sk (sr (An rfl (rt (rs ?_))))))))))))))))))
 have Y:=k.pk []
 obtain rfl:_=0:=hr.symm.trans (et (iN d) (iN c))
 exact⟨rfl,Y⟩
def ou (c:bC):Int:=
 bnd (sO c) fun a=>bnd (ma a) fun b=>b
theorem sP (w:World) (D:Nat→Prop) (d:bC) (p:Int) (H:Own w D w []) (hr:ou d=p):
    Calls y4 185 #[.agg (bC.cells d).toArray] w (dR fun v w'=>v=vI p∧Own w D w' []):=by
 refine cb Tryz.func185 ?_
 refine sr ?_
 refine dM (bC.cells d) 72 H ?_
 intro x y e
 refine Ar rfl (La (bC.cells d) e 0 L5 L4 ?_)
 obtain⟨c,a⟩:∃ q,sO d=q:=⟨_,rfl⟩
 obtain⟨z,f,r,g,s⟩:=FY e
 refine cl Tryz.call182 (xI _ _ d c f a) ?_
 rintro _ A ⟨rfl,h⟩
 have m:=g _ _ h
 obtain⟨i,b⟩:∃ q,ma c=q:=⟨_,rfl⟩
 obtain⟨B,j,t,k,u⟩:=FY m
 refine cl Tryz.call116 (pR _ _ c i j b) ?_
 rintro _ C ⟨rfl,l⟩
 have n:=k _ _ l
 refine An rfl (rt (rs ?_))
 have o:=n.pk []
 obtain rfl:_=i:=hr.symm.trans (et (ai a) (ai b))
 exact⟨rfl,o⟩
def qC (b:bC):Int:=
 bnd (ou b) fun a=>if a=0 then if b.bU < 1 then 1 else if b.bU > 4 then 1 else 0 else a
theorem xJ (w:World) (D:Nat→Prop) (c:bC) (s:Int) (H:Own w D w []) (hr:qC c=s):
    Calls y4 181 #[.agg (bC.cells c).toArray] w (dR fun v w'=>v=vI s∧Own w D w' []):=by
 refine cb Tryz.func181 ?_
 refine sr ?_
 refine dM (bC.cells c) 72 H ?_
 intro i x j
 refine An rfl (FU (sr (La (bC.cells c) j 0 L5 L4 ?_)))
 obtain⟨g,b⟩:∃ q,ou c=q:=⟨_,rfl⟩
 obtain⟨y,k,t,l,u⟩:=FY j
 refine cl Tryz.call185 (sP _ _ c g k b) ?_
 rintro _ z ⟨rfl,m⟩
 have d:=l _ _ m
 refine Ar rfl (Mz rfl (fw (.bool (decide (¬ (g=0)))) (Gi (e:= !(decide (g=0))) yk decide_not.symm) (nt ?_)))
 by_cases f:g=0
 refine jF (dF (JP f)) (sk (FU (sr (Kz (vP i 5) (Lz (vI c.bU) d 0 C6 (Kz (.bool (decide (c.bU < 1))) (Mz rfl ?_)))))))
 by_cases a:c.bU < 1
 refine Sz (dT a) (Sz (dT a) (Sz (dT a) (fw (.bool true) (Gb rfl (dT a) rfl) (nt (jt (sr (An rfl (rt (tR (rs ?_))))))))))
 have n:=d.pk []
 obtain rfl:_=1:=hr.symm.trans (et (ai b) (et (ip f) (ip a)))
 exact⟨rfl,n⟩
 refine Gz (vP i 5) (dF a) (Gl (vI c.bU) (dF a) d 0 C6 (Gz (.bool (decide (c.bU > 4))) (dF a) (fw (.bool (decide (c.bU > 4))) (FX rfl (dF a) rfl) (nt ?_))))
 by_cases h:c.bU > 4
 refine jT (dT h) (sr (An rfl (rt (tR (rs ?_)))))
 have o:=d.pk []
 obtain rfl:_=1:=hr.symm.trans (et (ai b) (et (ip f) (et (iN a) (ip h))))
 exact⟨rfl,o⟩
 refine jF (dF h) (sk (sr (An rfl (rt (rs ?_)))))
 have p:=d.pk []
 obtain rfl:_=0:=hr.symm.trans (et (ai b) (et (ip f) (et (iN a) (iN h))))
 exact⟨rfl,p⟩
 refine jT (dT f) (sr (Mz rfl (An rfl (rt (tR (rs ?_))))))
 have r:=d.pk []
 obtain rfl:_=g:=hr.symm.trans (et (ai b) (iN f))
 exact⟨rfl,r⟩
theorem uk (w:World) (D:Nat→Prop) (j:Int) (H:Own w D w []) (c:j=5):
    Calls y4 158 #[vI j] w (dR fun v w'=>v= .tuple #[.agg #[.bool true, .func (.func 184) #[] #[], .func (.func 185) #[] #[], .func (.func 182) #[] #[], .func (.func 186) #[] #[]], .bool true]∧Own w D w' []):=by
 subst c
 refine cb K8 ?_
 refine sr ?_
 refine dM [.bool false, .nilFunc, .nilFunc, .nilFunc, .nilFunc] 231 H ?_
 intro l n d
 refine Ar rfl (Kz (.agg #[.bool false, .func (.func 172) #[] #[], .func (.func 173) #[] #[], .func (.func 174) #[] #[], .func (.func 175) #[] #[]]) (Kz (.agg #[.bool true, .func (.func 176) #[] #[], .func (.func 177) #[] #[], .func (.func 174) #[] #[], .func (.func 178) #[] #[]]) (Kz (.agg #[.bool true, .func (.func 172) #[] #[], .func (.func 173) #[] #[], .func (.func 174) #[] #[], .func (.func 179) #[] #[]]) (Kz (.agg #[.bool false, .func (.func 180) #[] #[], .func (.func 181) #[] #[], .func (.func 182) #[] #[], .func (.func 183) #[] #[]]) (Kz (.agg #[.bool true, .func (.func 184) #[] #[], .func (.func 185) #[] #[], .func (.func 182) #[] #[], .func (.func 186) #[] #[]]) (Kz (.agg #[.bool false, .nilFunc, .nilFunc, .nilFunc, .nilFunc, .bool false, .func (.func 172) #[] #[], .func (.func 173) #[] #[], .func (.func 174) #[] #[], .func (.func 175) #[] #[], .bool true, .func (.func 176) #[] #[], .func (.func 177) #[] #[], .func (.func 174) #[] #[], .func (.func 178) #[] #[], .bool true, .func (.func 172) #[] #[], .func (.func 173) #[] #[], .func (.func 174) #[] #[], .func (.func 179) #[] #[], .bool false, .func (.func 180) #[] #[], .func (.func 181) #[] #[], .func (.func 182) #[] #[], .func (.func 183) #[] #[], .bool true, .func (.func 184) #[] #[], .func (.func 185) #[] #[], .func (.func 182) #[] #[], .func (.func 186) #[] #[]]) ?_))))))
 refine dM [.bool false, .nilFunc, .nilFunc, .nilFunc, .nilFunc, .bool false, .nilFunc, .nilFunc, .nilFunc, .nilFunc, .bool false, .nilFunc, .nilFunc, .nilFunc, .nilFunc, .bool false, .nilFunc, .nilFunc, .nilFunc, .nilFunc, .bool false, .nilFunc, .nilFunc, .nilFunc, .nilFunc, .bool false, .nilFunc, .nilFunc, .nilFunc, .nilFunc] 244 d ?_
 intro e o f
 refine dN [.bool false, .nilFunc, .nilFunc, .nilFunc, .nilFunc, .bool false, .func (.func 172) #[] #[], .func (.func 173) #[] #[], .func (.func 174) #[] #[], .func (.func 175) #[] #[], .bool true, .func (.func 176) #[] #[], .func (.func 177) #[] #[], .func (.func 174) #[] #[], .func (.func 178) #[] #[], .bool true, .func (.func 172) #[] #[], .func (.func 173) #[] #[], .func (.func 174) #[] #[], .func (.func 179) #[] #[], .bool false, .func (.func 180) #[] #[], .func (.func 181) #[] #[], .func (.func 182) #[] #[], .func (.func 183) #[] #[], .bool true, .func (.func 184) #[] #[], .func (.func 185) #[] #[], .func (.func 182) #[] #[], .func (.func 186) #[] #[]] 0 f K9 ?_
 intro p a
 refine nt (FU (sr (Mz rfl (Kz (.bool false) (Mz rfl (gw (vI 5) rfl (F7 rfl) (Gz (.bool false) rfl (fw (.bool false) (FX rfl rfl rfl) (nt (jf (sk (sr (Mz rfl (Kz (vP e 25) (La ([.bool true, .func (.func 184) #[] #[], .func (.func 185) #[] #[], .func (.func 182) #[] #[], .func (.func 186) #[] #[]]) a 0 L0 L3 ?_)))))))))))))))
 have g:=a.pb [0]
 refine dN [.bool true, .func (.func 184) #[] #[], .func (.func 185) #[] #[], .func (.func 182) #[] #[], .func (.func 186) #[] #[]] 0 g L3 ?_
 intro q b
 refine An rfl (rt (Fin.res (kC (vs:= [.agg #[.bool true, .func (.func 184) #[] #[], .func (.func 185) #[] #[], .func (.func 182) #[] #[], .func (.func 186) #[] #[]], .bool true]) rfl (dS.cell rfl (Gc (cs:= [.bool true, .func (.func 184) #[] #[], .func (.func 185) #[] #[], .func (.func 182) #[] #[], .func (.func 186) #[] #[]]) L0 L3 ((b.cls (i:=0) rfl).lit (k:=0) (m:=5) rfl)) (dS.tmp rfl dS.nil)) (JM rfl)) ?_))
 have h:=b.pk []
 exact⟨rfl,h⟩
def tL (a:bC):bC:=
 bC.mk a.aH ([]) ([]) a.bK a.bW 0
theorem ym (w:World) (D:Nat→Prop) (a:bC) (g:bC) (H:Own w D w []) (hr:tL a=g):
    Calls y4 184 #[.agg (bC.cells a).toArray] w (dR fun v w'=>v= .agg (bC.cells g).toArray∧Own w D w' []):=by
 refine cb Tryz.func184 ?_
 refine sr ?_
 refine dM (bC.cells a) 72 H ?_
 intro c h e
 refine dM [vI 0, .string ⟨y6 ([])⟩, .string ⟨y6 ([])⟩, .string ⟨y6 ([])⟩, .string ⟨y6 ([])⟩,vI 0] 72 e ?_
 intro j l b
 refine ns (Kz (vP c 0) (Lz (vI a.aH) b 1 C6 (Kz (vP c 3) (Lz (.string ⟨y6 a.bK⟩) b 1 C4 (Kz (vP c 4) (Lz (.string ⟨y6 a.bW⟩) b 1 C4 (Kz (.agg #[vI a.aH, .string ⟨y6 ([])⟩, .string ⟨y6 ([])⟩, .string ⟨y6 a.bK⟩, .string ⟨y6 a.bW⟩,vI 0]) ?_)))))))
 refine dN [vI a.aH, .string ⟨y6 ([])⟩, .string ⟨y6 ([])⟩, .string ⟨y6 a.bK⟩, .string ⟨y6 a.bW⟩,vI 0] 0 b L4 ?_
 intro n d
 refine nt (rt (Fin.res (mZ rfl rfl (Gc (cs:= [vI a.aH, .string ⟨y6 ([])⟩, .string ⟨y6 ([])⟩, .string ⟨y6 a.bK⟩, .string ⟨y6 a.bW⟩,vI 0]) L5 L4 ((d.cls (i:=0) rfl).lit (k:=0) (m:=6) rfl))) ?_))
 have f:=d.pk []
 obtain rfl:_=bC.mk a.aH ([]) ([]) a.bK a.bW 0:=hr.symm.trans rfl
 exact⟨rfl,f⟩
theorem tJ (w:World) (D:Nat→Prop) (b:Int) (H:Own w D w []) (p: ¬ (b=1)) (q: ¬ (b=2)) (r: ¬ (b=3)) (s: ¬ (b=4)) (t: ¬ (b=5)):
    Calls y4 158 #[vI b] w (dR fun v w'=>v= .tuple #[.agg #[.bool false, .nilFunc, .nilFunc, .nilFunc, .nilFunc], .bool false]∧Own w D w' []):=by
 refine cb K8 ?_
 refine sr ?_
 refine dM [.bool false, .nilFunc, .nilFunc, .nilFunc, .nilFunc] 231 H ?_
 intro u x g
 refine Ar rfl (Kz (.agg #[.bool false, .func (.func 172) #[] #[], .func (.func 173) #[] #[], .func (.func 174) #[] #[], .func (.func 175) #[] #[]]) (Kz (.agg #[.bool true, .func (.func 176) #[] #[], .func (.func 177) #[] #[], .func (.func 174) #[] #[], .func (.func 178) #[] #[]]) (Kz (.agg #[.bool true, .func (.func 172) #[] #[], .func (.func 173) #[] #[], .func (.func 174) #[] #[], .func (.func 179) #[] #[]]) (Kz (.agg #[.bool false, .func (.func 180) #[] #[], .func (.func 181) #[] #[], .func (.func 182) #[] #[], .func (.func 183) #[] #[]]) (Kz (.agg #[.bool true, .func (.func 184) #[] #[], .func (.func 185) #[] #[], .func (.func 182) #[] #[], .func (.func 186) #[] #[]]) (Kz (.agg #[.bool false, .nilFunc, .nilFunc, .nilFunc, .nilFunc, .bool false, .func (.func 172) #[] #[], .func (.func 173) #[] #[], .func (.func 174) #[] #[], .func (.func 175) #[] #[], .bool true, .func (.func 176) #[] #[], .func (.func 177) #[] #[], .func (.func 174) #[] #[], .func (.func 178) #[] #[], .bool true, .func (.func 172) #[] #[], .func (.func 173) #[] #[], .func (.func 174) #[] #[], .func (.func 179) #[] #[], .bool false, .func (.func 180) #[] #[], .func (.func 181) #[] #[], .func (.func 182) #[] #[], .func (.func 183) #[] #[], .bool true, .func (.func 184) #[] #[], .func (.func 185) #[] #[], .func (.func 182) #[] #[], .func (.func 186) #[] #[]]) ?_))))))
 refine dM [.bool false, .nilFunc, .nilFunc, .nilFunc, .nilFunc, .bool false, .nilFunc, .nilFunc, .nilFunc, .nilFunc, .bool false, .nilFunc, .nilFunc, .nilFunc, .nilFunc, .bool false, .nilFunc, .nilFunc, .nilFunc, .nilFunc, .bool false, .nilFunc, .nilFunc, .nilFunc, .nilFunc, .bool false, .nilFunc, .nilFunc, .nilFunc, .nilFunc] 244 g ?_
 intro y z h
 refine dN [.bool false, .nilFunc, .nilFunc, .nilFunc, .nilFunc, .bool false, .func (.func 172) #[] #[], .func (.func 173) #[] #[], .func (.func 174) #[] #[], .func (.func 175) #[] #[], .bool true, .func (.func 176) #[] #[], .func (.func 177) #[] #[], .func (.func 174) #[] #[], .func (.func 178) #[] #[], .bool true, .func (.func 172) #[] #[], .func (.func 173) #[] #[], .func (.func 174) #[] #[], .func (.func 179) #[] #[], .bool false, .func (.func 180) #[] #[], .func (.func 181) #[] #[], .func (.func 182) #[] #[], .func (.func 183) #[] #[], .bool true, .func (.func 184) #[] #[], .func (.func 185) #[] #[], .func (.func 182) #[] #[], .func (.func 186) #[] #[]] 0 h K9 ?_
 intro A c
 refine nt (FU (sr (Mz rfl (Kz (.bool (decide (b≤0))) (Mz rfl ?_)))))
 by_cases a:b≤0
 refine Sz (dT a) (Sz (dT a) (fw (.bool true) (Gb rfl (dT a) rfl) (nt (jt (sr (Kz (.agg #[.bool false, .nilFunc, .nilFunc, .nilFunc, .nilFunc]) ?_))))))
 have j:=c.pb [0]
 refine dN [.bool false, .nilFunc, .nilFunc, .nilFunc, .nilFunc] 0 j L3 ?_
 intro B d
 refine An rfl (rt (tR (Fin.res (kC (vs:= [.agg #[.bool false, .nilFunc, .nilFunc, .nilFunc, .nilFunc], .bool false]) rfl (dS.cell rfl (Gc (cs:= [.bool false, .nilFunc, .nilFunc, .nilFunc, .nilFunc]) L0 L3 ((d.cls (i:=0) rfl).lit (k:=0) (m:=5) rfl)) (dS.tmp rfl dS.nil)) (JM rfl)) ?_)))
 have l:=d.pk []
 exact⟨rfl,l⟩
 refine gw (vI b) (dF a) (F7 rfl) (Gz (.bool (decide (b ≥ 6))) (dF a) (fw (.bool (decide (b ≥ 6))) (FX rfl (dF a) rfl) (nt ?_)))
 have e:(decide (b ≥ 6))=true:=(dT e6)
 refine jT e (sr (Kz (.agg #[.bool false, .nilFunc, .nilFunc, .nilFunc, .nilFunc]) ?_))
 have n:=c.pb [0]
 refine dN [.bool false, .nilFunc, .nilFunc, .nilFunc, .nilFunc] 0 n L3 ?_
 intro C f
 refine An rfl (rt (tR (Fin.res (kC (vs:= [.agg #[.bool false, .nilFunc, .nilFunc, .nilFunc, .nilFunc], .bool false]) rfl (dS.cell rfl (Gc (cs:= [.bool false, .nilFunc, .nilFunc, .nilFunc, .nilFunc]) L0 L3 ((f.cls (i:=0) rfl).lit (k:=0) (m:=5) rfl)) (dS.tmp rfl dS.nil)) (JM rfl)) ?_)))
 have o:=f.pk []
 exact⟨rfl,o⟩
def ll (a:bC):Int:=
 if a.aH=1 then bnd (rD a) fun e=>if(e.aH=a.aH)∧(e.bY=a.bY)∧(e.aW=a.aW)∧(e.bK=a.bK)∧(e.bW=a.bW)∧(e.bU=a.bU) then bnd (pK a) fun j=>j else 40 else if a.aH=2 then bnd (uG a) fun f=>if(f.aH=a.aH)∧(f.bY=a.bY)∧(f.aW=a.aW)∧(f.bK=a.bK)∧(f.bW=a.bW)∧(f.bU=a.bU) then bnd (sN a) fun k=>k else 40 else if a.aH=3 then bnd (rD a) fun b=>if(b.aH=a.aH)∧(b.bY=a.bY)∧(b.aW=a.aW)∧(b.bK=a.bK)∧(b.bW=a.bW)∧(b.bU=a.bU) then bnd (pK a) fun g=>g else 40 else if a.aH=4 then bnd (uH a) fun c=>if(c.aH=a.aH)∧(c.bY=a.bY)∧(c.aW=a.aW)∧(c.bK=a.bK)∧(c.bW=a.bW)∧(c.bU=a.bU) then bnd (qC a) fun h=>h else 40 else if a.aH=5 then bnd (tL a) fun d=>if(d.aH=a.aH)∧(d.bY=a.bY)∧(d.aW=a.aW)∧(d.bK=a.bK)∧(d.bW=a.bW)∧(d.bU=a.bU) then bnd (ou a) fun i=>i else 40 else 40
theorem rU (w:World) (D:Nat→Prop) (a:bC) (r0:Int) (H:Own w D w []) (hr:ll a=r0):
    Calls y4 139 #[.agg (bC.cells a).toArray] w (dR fun v w'=>v=vI r0∧Own w D w' []∧(¬ (r0=0)∨(1≤a.aH∧a.aH≤5))):=by
 refine cb Tryz.func139 ?_
 refine sr ?_
 refine dM (bC.cells a) 72 H ?_
 intro dn gI t
 refine Ar rfl (Kz (vP dn 0) (Lz (vI a.aH) t 0 C6 ?_))
 by_cases l:a.aH=1
 obtain⟨gJ,aR,eG,aS,eH⟩:=FY t
 refine cl L8 (uf _ _ a.aH aR (of_decide_eq_true (dT l))) ?_
 rintro _ gK ⟨rfl,aT⟩
 have dw:=aS _ _ aT
 refine Mz rfl (Kz (.agg #[.bool false, .func (.func 172) #[] #[], .func (.func 173) #[] #[], .func (.func 174) #[] #[], .func (.func 175) #[] #[]]) (Kz (.bool true) ?_))
 refine dM [.bool false, .nilFunc, .nilFunc, .nilFunc, .nilFunc] 231 dw ?_
 intro aU gL dx
 refine dN [.bool false, .func (.func 172) #[] #[], .func (.func 173) #[] #[], .func (.func 174) #[] #[], .func (.func 175) #[] #[]] 0 dx L3 ?_
 intro gM dz
 refine An rfl (FU (FU ?_))
 refine pG [] (F8 (F8 Gh)) dz ?_
 intro gN dA
 refine qv 0 rfl rfl (qk (.bool false) 1 rfl (qv 2 rfl rfl (F6 (v:=vP aU 1) (rs:= []) 3 rfl rfl rfl rfl e7 (fun _ _=>yk) (F6 (v:= .func (.func 172) #[] #[]) (rs:= []) 4 rfl rfl rfl rfl e7 (fun _ ⟨_,h⟩=>F5 rfl (bZ.one L9 (jL.of (h.cls (i:=0) rfl) rfl))) (F6 (v:= .agg (bC.cells a).toArray) (rs:= []) 5 rfl rfl rfl rfl e7 (fun _ ⟨_,h⟩=>F5 rfl (Gc (cs:=(bC.cells a)) L5 L4 ((h.cls (i:=1) rfl).lit (k:=0) (m:=6) rfl))) (F6 (v:= .agg (bC.cells a).toArray) (rs:= []) 7 rfl rfl rfl rfl e7 (fun _ ⟨_,h⟩=>F5 rfl (Gc (cs:=(bC.cells a)) L5 L4 ((h.cls (i:=1) rfl).lit (k:=0) (m:=6) rfl))) ?_))))))
 obtain⟨f,F⟩:∃ q,rD a=q:=⟨_,rfl⟩
 obtain⟨gP,aV,eO,aW,eP⟩:=FY dA
 refine Hq 6 rfl rfl rfl rfl e7 (Gp Tryz.call172 rfl rfl (vH _ _ a f aV F) ?_)
 rintro _ gQ ⟨rfl,aX⟩
 have G:=aW _ _ aX
 refine⟨.inr ⟨_,G⟩, ?_⟩
 refine F6 (v:= .bool (decide (¬ ((f.aH=a.aH)∧(f.bY=a.bY)∧(f.aW=a.aW)∧(f.bK=a.bK)∧(f.bW=a.bW)∧(f.bU=a.bU))))) (rs:= []) 8 rfl rfl rfl rfl e7 (fun _ _=>Gi (e:= !(decide ((f.aH=a.aH)∧(f.bY=a.bY)∧(f.aW=a.aW)∧(f.bK=a.bK)∧(f.bW=a.bW)∧(f.bU=a.bU)))) (Ho rfl rfl e7 rfl (jR.struct M0 e7 (jr.dec (jr.cons (u:=vI f.aH) (v:=vI a.aH) f3 (fun _=>by kernel_rfl) (fun _=>by kernel_rfl) (jR.int B4) (jr.cons (u:= .string ⟨y6 f.bY⟩) (v:= .string ⟨y6 a.bY⟩) f3 (fun _=>by kernel_rfl) (fun _=>by kernel_rfl) (jR.string B5) (jr.cons (u:= .string ⟨y6 f.aW⟩) (v:= .string ⟨y6 a.aW⟩) f3 (fun _=>by kernel_rfl) (fun _=>by kernel_rfl) (jR.string B5) (jr.cons (u:= .string ⟨y6 f.bK⟩) (v:= .string ⟨y6 a.bK⟩) f3 (fun _=>by kernel_rfl) (fun _=>by kernel_rfl) (jR.string B5) (jr.cons (u:= .string ⟨y6 f.bW⟩) (v:= .string ⟨y6 a.bW⟩) f3 (fun _=>by kernel_rfl) (fun _=>by kernel_rfl) (jR.string B5) (jr.cons (u:=vI f.bU) (v:=vI a.bU) f3 (fun _=>by kernel_rfl) (fun _=>by kernel_rfl) (jR.int B4) (jr.nil.up (JO _)))))))) ((congrArg (decide (f.aH=a.aH) && ·) ((congrArg (decide (f.bY=a.bY) && ·) ((congrArg (decide (f.aW=a.aW) && ·) ((congrArg (decide (f.bK=a.bK) && ·) ((congrArg (decide (f.bW=a.bW) && ·) qM).trans iZ)).trans iZ)).trans iZ)).trans iZ)).trans iZ)))) decide_not.symm) (qt (v:= .bool (decide (¬ ((f.aH=a.aH)∧(f.bY=a.bY)∧(f.aW=a.aW)∧(f.bK=a.bK)∧(f.bW=a.bW)∧(f.bU=a.bU))))) 9 rfl (fun _ _=>FX rfl rfl rfl) (qn (FW ?_)))
 by_cases N:(f.aH=a.aH)∧(f.bY=a.bY)∧(f.aW=a.aW)∧(f.bK=a.bK)∧(f.bW=a.bW)∧(f.bU=a.bU)
 refine jF (dF (JP N)) (sk (sr (Kz (vP aU 2) (Lz (.func (.func 173) #[] #[]) G 0 M1 (La (bC.cells a) G 1 L5 L4 ?_)))))
 obtain⟨aY,P⟩:∃ q,pK a=q:=⟨_,rfl⟩
 obtain⟨gT,aZ,eQ,bf,eT⟩:=FY G
 refine WL.do rfl (Gp Tryz.call173 rfl rfl (ug _ _ a aY aZ P) ?_)
 rintro _ gU ⟨rfl,bg⟩
 have dB:=bf _ _ bg
 refine An rfl (rt (rs ?_))
 have dC:=dB.pk []
 obtain rfl:_=aY:=hr.symm.trans (et (ip l) (et (ai F) (et (ip N) (ai P))))
 exact⟨rfl,dC,e6⟩
 refine jT (dT N) (sr (An rfl (rt (tR (rs ?_)))))
 have dD:=G.pk []
 obtain rfl:_=40:=hr.symm.trans (et (ip l) (et (ai F) (iN N)))
 exact⟨rfl,dD,e6⟩
 by_cases n:a.aH=2
 obtain⟨gV,bi,eU,bn,eX⟩:=FY t
 refine cl L8 (uh _ _ a.aH bi (of_decide_eq_true (dT n))) ?_
 rintro _ gW ⟨rfl,bq⟩
 have dE:=bn _ _ bq
 refine Mz rfl (Kz (.agg #[.bool true, .func (.func 176) #[] #[], .func (.func 177) #[] #[], .func (.func 174) #[] #[], .func (.func 178) #[] #[]]) (Kz (.bool true) ?_))
 refine dM [.bool false, .nilFunc, .nilFunc, .nilFunc, .nilFunc] 231 dE ?_
 intro bu gX dG
 refine dN [.bool true, .func (.func 176) #[] #[], .func (.func 177) #[] #[], .func (.func 174) #[] #[], .func (.func 178) #[] #[]] 0 dG L3 ?_
 intro gY dH
 refine An rfl (FU (FU ?_))
 refine pG [] (F8 (F8 Gh)) dH ?_
 intro gZ dI
 refine qv 0 rfl rfl (qk (.bool false) 1 rfl (qv 2 rfl rfl (F6 (v:=vP bu 1) (rs:= []) 3 rfl rfl rfl rfl e7 (fun _ _=>yk) (F6 (v:= .func (.func 176) #[] #[]) (rs:= []) 4 rfl rfl rfl rfl e7 (fun _ ⟨_,h⟩=>F5 rfl (bZ.one L9 (jL.of (h.cls (i:=0) rfl) rfl))) (F6 (v:= .agg (bC.cells a).toArray) (rs:= []) 5 rfl rfl rfl rfl e7 (fun _ ⟨_,h⟩=>F5 rfl (Gc (cs:=(bC.cells a)) L5 L4 ((h.cls (i:=1) rfl).lit (k:=0) (m:=6) rfl))) (F6 (v:= .agg (bC.cells a).toArray) (rs:= []) 7 rfl rfl rfl rfl e7 (fun _ ⟨_,h⟩=>F5 rfl (Gc (cs:=(bC.cells a)) L5 L4 ((h.cls (i:=1) rfl).lit (k:=0) (m:=6) rfl))) ?_))))))
 obtain⟨g,I⟩:∃ q,uG a=q:=⟨_,rfl⟩
 obtain⟨ib,bv,eY,bz,eZ⟩:=FY dI
 refine Hq 6 rfl rfl rfl rfl e7 (Gp Tryz.call176 rfl rfl (yU _ _ a g bv I) ?_)
 rintro _ ic ⟨rfl,bA⟩
 have J:=bz _ _ bA
 refine⟨.inr ⟨_,J⟩, ?_⟩
 refine F6 (v:= .bool (decide (¬ ((g.aH=a.aH)∧(g.bY=a.bY)∧(g.aW=a.aW)∧(g.bK=a.bK)∧(g.bW=a.bW)∧(g.bU=a.bU))))) (rs:= []) 8 rfl rfl rfl rfl e7 (fun _ _=>Gi (e:= !(decide ((g.aH=a.aH)∧(g.bY=a.bY)∧(g.aW=a.aW)∧(g.bK=a.bK)∧(g.bW=a.bW)∧(g.bU=a.bU)))) (Ho rfl rfl e7 rfl (jR.struct M0 e7 (jr.dec (jr.cons (u:=vI g.aH) (v:=vI a.aH) f3 (fun _=>by kernel_rfl) (fun _=>by kernel_rfl) (jR.int B4) (jr.cons (u:= .string ⟨y6 g.bY⟩) (v:= .string ⟨y6 a.bY⟩) f3 (fun _=>by kernel_rfl) (fun _=>by kernel_rfl) (jR.string B5) (jr.cons (u:= .string ⟨y6 g.aW⟩) (v:= .string ⟨y6 a.aW⟩) f3 (fun _=>by kernel_rfl) (fun _=>by kernel_rfl) (jR.string B5) (jr.cons (u:= .string ⟨y6 g.bK⟩) (v:= .string ⟨y6 a.bK⟩) f3 (fun _=>by kernel_rfl) (fun _=>by kernel_rfl) (jR.string B5) (jr.cons (u:= .string ⟨y6 g.bW⟩) (v:= .string ⟨y6 a.bW⟩) f3 (fun _=>by kernel_rfl) (fun _=>by kernel_rfl) (jR.string B5) (jr.cons (u:=vI g.bU) (v:=vI a.bU) f3 (fun _=>by kernel_rfl) (fun _=>by kernel_rfl) (jR.int B4) (jr.nil.up (JO _)))))))) ((congrArg (decide (g.aH=a.aH) && ·) ((congrArg (decide (g.bY=a.bY) && ·) ((congrArg (decide (g.aW=a.aW) && ·) ((congrArg (decide (g.bK=a.bK) && ·) ((congrArg (decide (g.bW=a.bW) && ·) qM).trans iZ)).trans iZ)).trans iZ)).trans iZ)).trans iZ)))) decide_not.symm) (qt (v:= .bool (decide (¬ ((g.aH=a.aH)∧(g.bY=a.bY)∧(g.aW=a.aW)∧(g.bK=a.bK)∧(g.bW=a.bW)∧(g.bU=a.bU))))) 9 rfl (fun _ _=>FX rfl rfl rfl) (qn (FW ?_)))
 by_cases O:(g.aH=a.aH)∧(g.bY=a.bY)∧(g.aW=a.aW)∧(g.bK=a.bK)∧(g.bW=a.bW)∧(g.bU=a.bU)
 refine jF (dF (JP O)) (sk (sr (Kz (vP bu 2) (Lz (.func (.func 177) #[] #[]) J 0 M1 (La (bC.cells a) J 1 L5 L4 ?_)))))
 obtain⟨bB,Q⟩:∃ q,sN a=q:=⟨_,rfl⟩
 obtain⟨ig,bD,fe,bE,fo⟩:=FY J
 refine WL.do rfl (Gp Tryz.call177 rfl rfl (xH _ _ a bB bD Q) ?_)
 rintro _ ik ⟨rfl,X⟩
 have bF:=bE _ _ X
 refine An rfl (rt (rs ?_))
 have bG:=bF.pk []
 obtain rfl:_=bB:=hr.symm.trans (et (iN l) (et (ip n) (et (ai I) (et (ip O) (ai Q)))))
 exact⟨rfl,bG,e6⟩
 refine jT (dT O) (sr (An rfl (rt (tR (rs ?_)))))
 have bH:=J.pk []
 obtain rfl:_=40:=hr.symm.trans (et (iN l) (et (ip n) (et (ai I) (iN O))))
 exact⟨rfl,bH,e6⟩
 by_cases j:a.aH=3
 obtain⟨fq,Y,dJ,Z,dK⟩:=FY t
 refine cl L8 (ui _ _ a.aH Y (of_decide_eq_true (dT j))) ?_
 rintro _ fu ⟨rfl,aa⟩
 have bI:=Z _ _ aa
 refine Mz rfl (Kz (.agg #[.bool true, .func (.func 172) #[] #[], .func (.func 173) #[] #[], .func (.func 174) #[] #[], .func (.func 179) #[] #[]]) (Kz (.bool true) ?_))
 refine dM [.bool false, .nilFunc, .nilFunc, .nilFunc, .nilFunc] 231 bI ?_
 intro R fw bJ
 refine dN [.bool true, .func (.func 172) #[] #[], .func (.func 173) #[] #[], .func (.func 174) #[] #[], .func (.func 179) #[] #[]] 0 bJ L3 ?_
 intro fA bK
 refine An rfl (FU (FU ?_))
 refine pG [] (F8 (F8 Gh)) bK ?_
 intro fB bL
 refine qv 0 rfl rfl (qk (.bool false) 1 rfl (qv 2 rfl rfl (F6 (v:=vP R 1) (rs:= []) 3 rfl rfl rfl rfl e7 (fun _ _=>yk) (F6 (v:= .func (.func 172) #[] #[]) (rs:= []) 4 rfl rfl rfl rfl e7 (fun _ ⟨_,h⟩=>F5 rfl (bZ.one L9 (jL.of (h.cls (i:=0) rfl) rfl))) (F6 (v:= .agg (bC.cells a).toArray) (rs:= []) 5 rfl rfl rfl rfl e7 (fun _ ⟨_,h⟩=>F5 rfl (Gc (cs:=(bC.cells a)) L5 L4 ((h.cls (i:=1) rfl).lit (k:=0) (m:=6) rfl))) (F6 (v:= .agg (bC.cells a).toArray) (rs:= []) 7 rfl rfl rfl rfl e7 (fun _ ⟨_,h⟩=>F5 rfl (Gc (cs:=(bC.cells a)) L5 L4 ((h.cls (i:=1) rfl).lit (k:=0) (m:=6) rfl))) ?_))))))
 obtain⟨b,x⟩:∃ q,rD a=q:=⟨_,rfl⟩
 obtain⟨fC,ae,dL,af,dO⟩:=FY bL
 refine Hq 6 rfl rfl rfl rfl e7 (Gp Tryz.call172 rfl rfl (vH _ _ a b ae x) ?_)
 rintro _ fD ⟨rfl,ag⟩
 have p:=af _ _ ag
 refine⟨.inr ⟨_,p⟩, ?_⟩
 refine F6 (v:= .bool (decide (¬ ((b.aH=a.aH)∧(b.bY=a.bY)∧(b.aW=a.aW)∧(b.bK=a.bK)∧(b.bW=a.bW)∧(b.bU=a.bU))))) (rs:= []) 8 rfl rfl rfl rfl e7 (fun _ _=>Gi (e:= !(decide ((b.aH=a.aH)∧(b.bY=a.bY)∧(b.aW=a.aW)∧(b.bK=a.bK)∧(b.bW=a.bW)∧(b.bU=a.bU)))) (Ho rfl rfl e7 rfl (jR.struct M0 e7 (jr.dec (jr.cons (u:=vI b.aH) (v:=vI a.aH) f3 (fun _=>by kernel_rfl) (fun _=>by kernel_rfl) (jR.int B4) (jr.cons (u:= .string ⟨y6 b.bY⟩) (v:= .string ⟨y6 a.bY⟩) f3 (fun _=>by kernel_rfl) (fun _=>by kernel_rfl) (jR.string B5) (jr.cons (u:= .string ⟨y6 b.aW⟩) (v:= .string ⟨y6 a.aW⟩) f3 (fun _=>by kernel_rfl) (fun _=>by kernel_rfl) (jR.string B5) (jr.cons (u:= .string ⟨y6 b.bK⟩) (v:= .string ⟨y6 a.bK⟩) f3 (fun _=>by kernel_rfl) (fun _=>by kernel_rfl) (jR.string B5) (jr.cons (u:= .string ⟨y6 b.bW⟩) (v:= .string ⟨y6 a.bW⟩) f3 (fun _=>by kernel_rfl) (fun _=>by kernel_rfl) (jR.string B5) (jr.cons (u:=vI b.bU) (v:=vI a.bU) f3 (fun _=>by kernel_rfl) (fun _=>by kernel_rfl) (jR.int B4) (jr.nil.up (JO _)))))))) ((congrArg (decide (b.aH=a.aH) && ·) ((congrArg (decide (b.bY=a.bY) && ·) ((congrArg (decide (b.aW=a.aW) && ·) ((congrArg (decide (b.bK=a.bK) && ·) ((congrArg (decide (b.bW=a.bW) && ·) qM).trans iZ)).trans iZ)).trans iZ)).trans iZ)).trans iZ)))) decide_not.symm) (qt (v:= .bool (decide (¬ ((b.aH=a.aH)∧(b.bY=a.bY)∧(b.aW=a.aW)∧(b.bK=a.bK)∧(b.bW=a.bW)∧(b.bU=a.bU))))) 9 rfl (fun _ _=>FX rfl rfl rfl) (qn (FW ?_)))
 by_cases A:(b.aH=a.aH)∧(b.bY=a.bY)∧(b.aW=a.aW)∧(b.bK=a.bK)∧(b.bW=a.bW)∧(b.bU=a.bU)
 refine jF (dF (JP A)) (sk (sr (Kz (vP R 2) (Lz (.func (.func 173) #[] #[]) p 0 M1 (La (bC.cells a) p 1 L5 L4 ?_)))))
 obtain⟨S,K⟩:∃ q,pK a=q:=⟨_,rfl⟩
 obtain⟨fE,ah,dP,aj,dQ⟩:=FY p
 refine WL.do rfl (Gp Tryz.call173 rfl rfl (ug _ _ a S ah K) ?_)
 rintro _ fF ⟨rfl,ak⟩
 have bM:=aj _ _ ak
 refine An rfl (rt (rs ?_))
 have bN:=bM.pk []
 obtain rfl:_=S:=hr.symm.trans (et (iN l) (et (iN n) (et (ip j) (et (ai x) (et (ip A) (ai K))))))
 exact⟨rfl,bN,e6⟩
 refine jT (dT A) (sr (An rfl (rt (tR (rs ?_)))))
 have bO:=p.pk []
 obtain rfl:_=40:=hr.symm.trans (et (iN l) (et (iN n) (et (ip j) (et (ai x) (iN A)))))
 exact⟨rfl,bO,e6⟩
 by_cases o:a.aH=4
 obtain⟨fG,au,dS,av,dU⟩:=FY t
 refine cl L8 (uj _ _ a.aH au (of_decide_eq_true (dT o))) ?_
 rintro _ fH ⟨rfl,ax⟩
 have bP:=av _ _ ax
 refine Mz rfl (Kz (.agg #[.bool false, .func (.func 180) #[] #[], .func (.func 181) #[] #[], .func (.func 182) #[] #[], .func (.func 183) #[] #[]]) (Kz (.bool true) ?_))
 refine dM [.bool false, .nilFunc, .nilFunc, .nilFunc, .nilFunc] 231 bP ?_
 intro T fI bQ
 refine dN [.bool false, .func (.func 180) #[] #[], .func (.func 181) #[] #[], .func (.func 182) #[] #[], .func (.func 183) #[] #[]] 0 bQ L3 ?_
 intro fJ bR
 refine An rfl (FU (FU ?_))
 refine pG [] (F8 (F8 Gh)) bR ?_
 intro fK bS
 refine qv 0 rfl rfl (qk (.bool false) 1 rfl (qv 2 rfl rfl (F6 (v:=vP T 1) (rs:= []) 3 rfl rfl rfl rfl e7 (fun _ _=>yk) (F6 (v:= .func (.func 180) #[] #[]) (rs:= []) 4 rfl rfl rfl rfl e7 (fun _ ⟨_,h⟩=>F5 rfl (bZ.one L9 (jL.of (h.cls (i:=0) rfl) rfl))) (F6 (v:= .agg (bC.cells a).toArray) (rs:= []) 5 rfl rfl rfl rfl e7 (fun _ ⟨_,h⟩=>F5 rfl (Gc (cs:=(bC.cells a)) L5 L4 ((h.cls (i:=1) rfl).lit (k:=0) (m:=6) rfl))) (F6 (v:= .agg (bC.cells a).toArray) (rs:= []) 7 rfl rfl rfl rfl e7 (fun _ ⟨_,h⟩=>F5 rfl (Gc (cs:=(bC.cells a)) L5 L4 ((h.cls (i:=1) rfl).lit (k:=0) (m:=6) rfl))) ?_))))))
 obtain⟨c,y⟩:∃ q,uH a=q:=⟨_,rfl⟩
 obtain⟨fM,ay,dV,az,dW⟩:=FY bS
 refine Hq 6 rfl rfl rfl rfl e7 (Gp Tryz.call180 rfl rfl (yV _ _ a c ay y) ?_)
 rintro _ fO ⟨rfl,aA⟩
 have r:=az _ _ aA
 refine⟨.inr ⟨_,r⟩, ?_⟩
 refine F6 (v:= .bool (decide (¬ ((c.aH=a.aH)∧(c.bY=a.bY)∧(c.aW=a.aW)∧(c.bK=a.bK)∧(c.bW=a.bW)∧(c.bU=a.bU))))) (rs:= []) 8 rfl rfl rfl rfl e7 (fun _ _=>Gi (e:= !(decide ((c.aH=a.aH)∧(c.bY=a.bY)∧(c.aW=a.aW)∧(c.bK=a.bK)∧(c.bW=a.bW)∧(c.bU=a.bU)))) (Ho rfl rfl e7 rfl (jR.struct M0 e7 (jr.dec (jr.cons (u:=vI c.aH) (v:=vI a.aH) f3 (fun _=>by kernel_rfl) (fun _=>by kernel_rfl) (jR.int B4) (jr.cons (u:= .string ⟨y6 c.bY⟩) (v:= .string ⟨y6 a.bY⟩) f3 (fun _=>by kernel_rfl) (fun _=>by kernel_rfl) (jR.string B5) (jr.cons (u:= .string ⟨y6 c.aW⟩) (v:= .string ⟨y6 a.aW⟩) f3 (fun _=>by kernel_rfl) (fun _=>by kernel_rfl) (jR.string B5) (jr.cons (u:= .string ⟨y6 c.bK⟩) (v:= .string ⟨y6 a.bK⟩) f3 (fun _=>by kernel_rfl) (fun _=>by kernel_rfl) (jR.string B5) (jr.cons (u:= .string ⟨y6 c.bW⟩) (v:= .string ⟨y6 a.bW⟩) f3 (fun _=>by kernel_rfl) (fun _=>by kernel_rfl) (jR.string B5) (jr.cons (u:=vI c.bU) (v:=vI a.bU) f3 (fun _=>by kernel_rfl) (fun _=>by kernel_rfl) (jR.int B4) (jr.nil.up (JO _)))))))) ((congrArg (decide (c.aH=a.aH) && ·) ((congrArg (decide (c.bY=a.bY) && ·) ((congrArg (decide (c.aW=a.aW) && ·) ((congrArg (decide (c.bK=a.bK) && ·) ((congrArg (decide (c.bW=a.bW) && ·) qM).trans iZ)).trans iZ)).trans iZ)).trans iZ)).trans iZ)))) decide_not.symm) (qt (v:= .bool (decide (¬ ((c.aH=a.aH)∧(c.bY=a.bY)∧(c.aW=a.aW)∧(c.bK=a.bK)∧(c.bW=a.bW)∧(c.bU=a.bU))))) 9 rfl (fun _ _=>FX rfl rfl rfl) (qn (FW ?_)))
 by_cases B:(c.aH=a.aH)∧(c.bY=a.bY)∧(c.aW=a.aW)∧(c.bK=a.bK)∧(c.bW=a.bW)∧(c.bU=a.bU)
 refine jF (dF (JP B)) (sk (sr (Kz (vP T 2) (Lz (.func (.func 181) #[] #[]) r 0 M1 (La (bC.cells a) r 1 L5 L4 ?_)))))
 obtain⟨U,L⟩:∃ q,qC a=q:=⟨_,rfl⟩
 obtain⟨fP,aB,dX,aC,dY⟩:=FY r
 refine WL.do rfl (Gp Tryz.call181 rfl rfl (xJ _ _ a U aB L) ?_)
 rintro _ fQ ⟨rfl,aD⟩
 have bT:=aC _ _ aD
 refine An rfl (rt (rs ?_))
 have bU:=bT.pk []
 obtain rfl:_=U:=hr.symm.trans (et (iN l) (et (iN n) (et (iN j) (et (ip o) (et (ai y) (et (ip B) (ai L)))))))
 exact⟨rfl,bU,e6⟩
 refine jT (dT B) (sr (An rfl (rt (tR (rs ?_)))))
 have bV:=r.pk []
 obtain rfl:_=40:=hr.symm.trans (et (iN l) (et (iN n) (et (iN j) (et (ip o) (et (ai y) (iN B))))))
 exact⟨rfl,bV,e6⟩
 by_cases C:a.aH=5
 obtain⟨fT,aF,dZ,aG,d9⟩:=FY t
 refine cl L8 (uk _ _ a.aH aF (of_decide_eq_true (dT C))) ?_
 rintro _ fU ⟨rfl,aH⟩
 have bW:=aG _ _ aH
 refine Mz rfl (Kz (.agg #[.bool true, .func (.func 184) #[] #[], .func (.func 185) #[] #[], .func (.func 182) #[] #[], .func (.func 186) #[] #[]]) (Kz (.bool true) ?_))
 refine dM [.bool false, .nilFunc, .nilFunc, .nilFunc, .nilFunc] 231 bW ?_
 intro V fV bX
 refine dN [.bool true, .func (.func 184) #[] #[], .func (.func 185) #[] #[], .func (.func 182) #[] #[], .func (.func 186) #[] #[]] 0 bX L3 ?_
 intro fZ bY
 refine An rfl (FU (FU ?_))
 refine pG [] (F8 (F8 Gh)) bY ?_
 intro gm cu
 refine qv 0 rfl rfl (qk (.bool false) 1 rfl (qv 2 rfl rfl (F6 (v:=vP V 1) (rs:= []) 3 rfl rfl rfl rfl e7 (fun _ _=>yk) (F6 (v:= .func (.func 184) #[] #[]) (rs:= []) 4 rfl rfl rfl rfl e7 (fun _ ⟨_,h⟩=>F5 rfl (bZ.one L9 (jL.of (h.cls (i:=0) rfl) rfl))) (F6 (v:= .agg (bC.cells a).toArray) (rs:= []) 5 rfl rfl rfl rfl e7 (fun _ ⟨_,h⟩=>F5 rfl (Gc (cs:=(bC.cells a)) L5 L4 ((h.cls (i:=1) rfl).lit (k:=0) (m:=6) rfl))) (F6 (v:= .agg (bC.cells a).toArray) (rs:= []) 7 rfl rfl rfl rfl e7 (fun _ ⟨_,h⟩=>F5 rfl (Gc (cs:=(bC.cells a)) L5 L4 ((h.cls (i:=1) rfl).lit (k:=0) (m:=6) rfl))) ?_))))))
 obtain⟨d,z⟩:∃ q,tL a=q:=⟨_,rfl⟩
 obtain⟨gp,aI,ed,aJ,ek⟩:=FY cu
 refine Hq 6 rfl rfl rfl rfl e7 (Gp Tryz.call184 rfl rfl (ym _ _ a d aI z) ?_)
 rintro _ gq ⟨rfl,aK⟩
 have s:=aJ _ _ aK
 refine⟨.inr ⟨_,s⟩, ?_⟩
 refine F6 (v:= .bool (decide (¬ ((d.aH=a.aH)∧(d.bY=a.bY)∧(d.aW=a.aW)∧(d.bK=a.bK)∧(d.bW=a.bW)∧(d.bU=a.bU))))) (rs:= []) 8 rfl rfl rfl rfl e7 (fun _ _=>Gi (e:= !(decide ((d.aH=a.aH)∧(d.bY=a.bY)∧(d.aW=a.aW)∧(d.bK=a.bK)∧(d.bW=a.bW)∧(d.bU=a.bU)))) (Ho rfl rfl e7 rfl (jR.struct M0 e7 (jr.dec (jr.cons (u:=vI d.aH) (v:=vI a.aH) f3 (fun _=>by kernel_rfl) (fun _=>by kernel_rfl) (jR.int B4) (jr.cons (u:= .string ⟨y6 d.bY⟩) (v:= .string ⟨y6 a.bY⟩) f3 (fun _=>by kernel_rfl) (fun _=>by kernel_rfl) (jR.string B5) (jr.cons (u:= .string ⟨y6 d.aW⟩) (v:= .string ⟨y6 a.aW⟩) f3 (fun _=>by kernel_rfl) (fun _=>by kernel_rfl) (jR.string B5) (jr.cons (u:= .string ⟨y6 d.bK⟩) (v:= .string ⟨y6 a.bK⟩) f3 (fun _=>by kernel_rfl) (fun _=>by kernel_rfl) (jR.string B5) (jr.cons (u:= .string ⟨y6 d.bW⟩) (v:= .string ⟨y6 a.bW⟩) f3 (fun _=>by kernel_rfl) (fun _=>by kernel_rfl) (jR.string B5) (jr.cons (u:=vI d.bU) (v:=vI a.bU) f3 (fun _=>by kernel_rfl) (fun _=>by kernel_rfl) (jR.int B4) (jr.nil.up (JO _)))))))) ((congrArg (decide (d.aH=a.aH) && ·) ((congrArg (decide (d.bY=a.bY) && ·) ((congrArg (decide (d.aW=a.aW) && ·) ((congrArg (decide (d.bK=a.bK) && ·) ((congrArg (decide (d.bW=a.bW) && ·) qM).trans iZ)).trans iZ)).trans iZ)).trans iZ)).trans iZ)))) decide_not.symm) (qt (v:= .bool (decide (¬ ((d.aH=a.aH)∧(d.bY=a.bY)∧(d.aW=a.aW)∧(d.bK=a.bK)∧(d.bW=a.bW)∧(d.bU=a.bU))))) 9 rfl (fun _ _=>FX rfl rfl rfl) (qn (FW ?_)))
 by_cases E:(d.aH=a.aH)∧(d.bY=a.bY)∧(d.aW=a.aW)∧(d.bK=a.bK)∧(d.bW=a.bW)∧(d.bU=a.bU)
 refine jF (dF (JP E)) (sk (sr (Kz (vP V 2) (Lz (.func (.func 185) #[] #[]) s 0 M1 (La (bC.cells a) s 1 L5 L4 ?_)))))
 obtain⟨W,M⟩:∃ q,ou a=q:=⟨_,rfl⟩
 obtain⟨gu,aL,eu,aM,eB⟩:=FY s
 refine WL.do rfl (Gp Tryz.call185 rfl rfl (sP _ _ a W aL M) ?_)
 rintro _ gy ⟨rfl,aN⟩
 have cz:=aM _ _ aN
 refine An rfl (rt (rs ?_))
 have cB:=cz.pk []
 obtain rfl:_=W:=hr.symm.trans (et (iN l) (et (iN n) (et (iN j) (et (iN o) (et (ip C) (et (ai z) (et (ip E) (ai M))))))))
 exact⟨rfl,cB,e6⟩
 refine jT (dT E) (sr (An rfl (rt (tR (rs ?_)))))
 have cK:=s.pk []
 obtain rfl:_=40:=hr.symm.trans (et (iN l) (et (iN n) (et (iN j) (et (iN o) (et (ip C) (et (ai z) (iN E)))))))
 exact⟨rfl,cK,e6⟩
 obtain⟨gz,aO,eD,aP,eF⟩:=FY t
 refine cl L8 (tJ _ _ a.aH aO e6 e6 e6 e6 e6) ?_
 rintro _ gB ⟨rfl,aQ⟩
 have cO:=aP _ _ aQ
 refine Mz rfl (Kz (.agg #[.bool false, .nilFunc, .nilFunc, .nilFunc, .nilFunc]) (Kz (.bool false) ?_))
 refine dM [.bool false, .nilFunc, .nilFunc, .nilFunc, .nilFunc] 231 cO ?_
 intro gD gF cZ
 refine dN [.bool false, .nilFunc, .nilFunc, .nilFunc, .nilFunc] 0 cZ L3 ?_
 intro gG df
 refine An rfl (FU (FU ?_))
 refine pG [] (F8 (F8 Gh)) df ?_
 intro gH dh
 refine qv 0 rfl rfl (qk (.bool true) 1 rfl (qv 2 rfl rfl (F3 (rs:= []) 3 rfl rfl rfl rfl e7 (F3 (rs:= []) 4 rfl rfl rfl rfl e7 (F3 (rs:= []) 5 rfl rfl rfl rfl e7 (F3 (rs:= []) 6 rfl rfl rfl rfl e7 (F3 (rs:= []) 7 rfl rfl rfl rfl e7 (F3 (rs:= []) 8 rfl rfl rfl rfl e7 (qt (v:= .bool true) 9 rfl (fun _ _=>Gb rfl rfl rfl) (qn (FW (jt (sr (An rfl (rt (tR (rs ?_)))))))))))))))))
 have di:=dh.pk []
 obtain rfl:_=40:=hr.symm.trans (et (iN l) (et (iN n) (et (iN j) (et (iN o) (iN C)))))
 exact⟨rfl,di,e6⟩
def jM:List bC→Unit ⊕ Int
  | []=>C1 ()
  | b::c=>bnd (ll b) fun a=>if a=0 then jM c else C3 (a)
def qD (l0:List bC):Int:=
 lp (jM l0) fun _=>0
theorem xK (w:World) (D:Nat→Prop) (o:Option Addr) (A B:Nat) (l0:List bC) (L:Int) (H:Own w D w []) (n:Ro w D fun w'=>bD w' 6 o A (q6 bC.cells l0)) (C:A=l0.length) (P:l0.length≤9223372036854775807) (hr:qD l0=L):
    Calls y4 157 #[.slice o A B] w (dR fun v w'=>v=vI L∧Own w D w' []):=by
 subst C
 refine cb Tryz.func157 ?_
 refine sr (An rfl (FU (sr (Mz rfl (Kz (vJ l0.length) (Mn rfl (bo ?_)))))))
 have E:=H.pk []
 obtain⟨F,d⟩:=mX fun(a:Nat) (w':World)=>Own w D w' []∧a≤l0.length∧jM l0=jM (r6 a l0)
 refine C5 (fun i:Nat=> [(2,vI 0),(8,vJ i),(7,vJ l0.length),(6, .slice o l0.length B)]) F (fun i=>l0.length - i) 0 ⟨rfl,rfl,rfl,rfl,trivial⟩ (d.2 ⟨E,e6,rfl⟩) ?_
 rintro a Q p
 obtain⟨f,M,g⟩:=d.1 p
 refine sr (Kz (.bool (decide (((a:Nat):Int) < ((l0.length:Nat):Int)))) (nt (FU ?_)))
 by_cases r:((a:Nat):Int) < ((l0.length:Nat):Int)
 obtain⟨b,k⟩:=dK (ls:=l0) (i:=a) bC.len f3 (f.ro n) e9
 have l:=drop_at k
 refine jT (dT r) (sk (FU (bo (sr (fw (.pointer (some ⟨ab o,ao o+a *6,none⟩)) (FZ (qx) rfl rfl ((f.ro n).addr (i:=a) e6) e6) (fw (.agg (bC.cells b).toArray) (F5 rfl (Gc (cs:=(bC.cells b)) L5 L4 ((f.ro n).elem bC.len k f3))) ?_))))))
 refine dM [vI 0, .string ⟨y6 ([])⟩, .string ⟨y6 ([])⟩, .string ⟨y6 ([])⟩, .string ⟨y6 ([])⟩,vI 0] 72 f ?_
 intro R S G
 refine dN (bC.cells b) 0 G L4 ?_
 intro T s
 refine ns (La (bC.cells b) s 0 L5 L4 ?_)
 obtain⟨c,h⟩:∃ q,ll b=q:=⟨_,rfl⟩
 obtain⟨U,t,N,u,O⟩:=FY s
 refine cl M2 (rU _ _ b c t h) ?_
 rintro _ V ⟨rfl,x,m⟩
 have y:=u _ _ x
 replace m: ¬ (c=0)∨(1≤b.aH∧b.aH≤5):=m
 refine Ar rfl (Mz rfl (fw (.bool (decide (¬ (c=0)))) (Gi (e:= !(decide (c=0))) yk decide_not.symm) (nt ?_)))
 by_cases j:c=0
 refine jF (dF (JP j)) (Gj (bN (FW (FT (fw (vJ (a+1)) (FV (e:=C7.wrap (((a:Nat):Int)+1)) yk f1) (Mz rfl (D0 ?_)))))))
 have I:=y.pk []
 exact F9 (a+1) ⟨rfl,rfl,rfl,rfl,trivial⟩ (d.2 ⟨I,e6,et (g) (et (congrArg (fun q=>jM q) l) (et (ai h) (ip j)))⟩) (by show l0.length - (a+1) < l0.length - a; omega)
 refine jT (dT j) (sr (Mz rfl (An rfl (rt (bR (tR (tR (bR (tR (rs ?_))))))))))
 have J:=y.pk []
 obtain rfl:_=c:=hr.symm.trans (jq (et (g) (et (congrArg (fun q=>jM q) l) (et (ai h) (iN j)))))
 exact⟨rfl,J⟩
 refine jF (dF r) (D1 (F4 ?_))
 have z:jM l0=C1 ():=et (g) (et (congrArg (fun q=>jM q) (eZ (ls:=l0) (i:=a) e6)) rfl)
 refine F4 (Gg (FW (sr (An rfl (rt (rs ?_))))))
 have K:=f.pk []
 obtain rfl:_=0:=hr.symm.trans (nS z)
 exact⟨rfl,K⟩
def nX (l0:List bC):Int:=
 if((l0.length:Nat):Int) < 1 then 3 else if((l0.length:Nat):Int) > 4 then 3 else bnd (qD l0) fun a=>a
theorem wK (w:World) (D:Nat→Prop) (i:Option Addr) (j k:Nat) (l0:List bC) (l:Int) (H:Own w D w []) (m:Ro w D fun w'=>bD w' 6 i j (q6 bC.cells l0)) (n:j=l0.length) (u:l0.length≤9223372036854775807) (hr:nX l0=l):
    Calls y4 137 #[.slice i j k] w (dR fun v w'=>v=vI l∧Own w D w' []∧(¬ (l=0)∨(1≤l0.length∧l0.length≤4))):=by
 subst n
 refine cb Tryz.func137 ?_
 refine sr (An rfl (FU (sr (Mz rfl (Kz (vJ l0.length) (Kz (.bool (decide (((l0.length:Nat):Int) < 1))) (Mz rfl ?_)))))))
 by_cases a:((l0.length:Nat):Int) < 1
 refine Sz (dT a) (Sz (dT a) (Sz (dT a) (fw (.bool true) (Gb rfl (dT a) rfl) (nt (jt (sr (An rfl (rt (tR (rs ?_))))))))))
 have o:=H.pk []
 obtain rfl:_=3:=hr.symm.trans (ip a)
 exact⟨rfl,o,e6⟩
 refine gw (.slice i l0.length k) (dF a) (F7 rfl) (Gz (vJ l0.length) (dF a) (Gz (.bool (decide (((l0.length:Nat):Int) > 4))) (dF a) (fw (.bool (decide (((l0.length:Nat):Int) > 4))) (FX rfl (dF a) rfl) (nt ?_))))
 by_cases b:((l0.length:Nat):Int) > 4
 refine jT (dT b) (sr (An rfl (rt (tR (rs ?_)))))
 have p:=H.pk []
 obtain rfl:_=3:=hr.symm.trans (et (iN a) (ip b))
 exact⟨rfl,p,e6⟩
 refine jF (dF b) (sk (sr (Mz rfl ?_)))
 obtain⟨d,c⟩:∃ q,qD l0=q:=⟨_,rfl⟩
 obtain⟨x,e,f,g,t⟩:=FY H
 refine cl Tryz.call157 (xK _ _ i l0.length k l0 d e (f _ m) rfl e6 c) ?_
 rintro _ y ⟨rfl,h⟩
 have r:=g _ _ h
 refine An rfl (rt (rs ?_))
 have s:=r.pk []
 obtain rfl:_=d:=hr.symm.trans (et (iN a) (et (iN b) (ai c)))
 exact⟨rfl,s,e6⟩
def kU:List bC→Unit ⊕ Bool
  | []=>C1 ()
  | b::c=>bnd (ll b) fun a=>if a=0 then kU c else C3 (false)
def tN (l0:List bC):Bool:=
 lp (kU l0) fun _=>true
theorem yn (w:World) (D:Nat→Prop) (o:Option Addr) (A B:Nat) (l0:List bC) (L:Bool) (H:Own w D w []) (n:Ro w D fun w'=>bD w' 6 o A (q6 bC.cells l0)) (C:A=l0.length) (P:l0.length≤9223372036854775807) (hr:tN l0=L):
    Calls y4 138 #[.slice o A B, .func (.func 139) #[] #[]] w (dR fun v w'=>v= .bool L∧Own w D w' []):=by
 subst C
 refine cb Tryz.func138 ?_
 refine sr (An rfl (FU (sr (Mz rfl (Kz (vJ l0.length) (Mn rfl (bo ?_)))))))
 have E:=H.pk []
 obtain⟨F,c⟩:=mX fun(a:Nat) (w':World)=>Own w D w' []∧a≤l0.length∧kU l0=kU (r6 a l0)
 refine C5 (fun i:Nat=> [(4, .bool false),(9,vJ i),(8,vJ l0.length),(7, .slice o l0.length B),(1, .func (.func 139) #[] #[])]) F (fun i=>l0.length - i) 0 ⟨rfl,rfl,rfl,rfl,rfl,trivial⟩ (c.2 ⟨E,e6,rfl⟩) ?_
 rintro a Q p
 obtain⟨d,M,f⟩:=c.1 p
 refine sr (Kz (.bool (decide (((a:Nat):Int) < ((l0.length:Nat):Int)))) (nt (FU ?_)))
 by_cases r:((a:Nat):Int) < ((l0.length:Nat):Int)
 obtain⟨b,k⟩:=dK (ls:=l0) (i:=a) bC.len f3 (d.ro n) e9
 have l:=drop_at k
 refine jT (dT r) (sk (FU (bo (sr (fw (.pointer (some ⟨ab o,ao o+a *6,none⟩)) (FZ (qx) rfl rfl ((d.ro n).addr (i:=a) e6) e6) (fw (.agg (bC.cells b).toArray) (F5 rfl (Gc (cs:=(bC.cells b)) L5 L4 ((d.ro n).elem bC.len k f3))) ?_))))))
 refine dM [vI 0, .string ⟨y6 ([])⟩, .string ⟨y6 ([])⟩, .string ⟨y6 ([])⟩, .string ⟨y6 ([])⟩,vI 0] 72 d ?_
 intro R S G
 refine dN (bC.cells b) 0 G L4 ?_
 intro T s
 refine ns (Mz rfl (La (bC.cells b) s 0 L5 L4 ?_))
 obtain⟨g,h⟩:∃ q,ll b=q:=⟨_,rfl⟩
 obtain⟨U,t,N,u,O⟩:=FY s
 refine WL.do rfl (Gp M2 rfl rfl (rU _ _ b g t h) ?_)
 rintro _ V ⟨rfl,x,m⟩
 have y:=u _ _ x
 replace m: ¬ (g=0)∨(1≤b.aH∧b.aH≤5):=m
 refine fw (.bool (decide (¬ (g=0)))) (Gi (e:= !(decide (g=0))) yk decide_not.symm) (nt ?_)
 by_cases j:g=0
 refine jF (dF (JP j)) (Gj (bN (FW (FT (fw (vJ (a+1)) (FV (e:=C7.wrap (((a:Nat):Int)+1)) yk f1) (Mz rfl (D0 ?_)))))))
 have I:=y.pk []
 exact F9 (a+1) ⟨rfl,rfl,rfl,rfl,rfl,trivial⟩ (c.2 ⟨I,e6,et (f) (et (congrArg (fun q=>kU q) l) (et (ai h) (ip j)))⟩) (by show l0.length - (a+1) < l0.length - a; omega)
 refine jT (dT j) (sr (An rfl (rt (bR (tR (tR (bR (tR (rs ?_)))))))))
 have J:=y.pk []
 obtain rfl:_=false:=hr.symm.trans (jq (et (f) (et (congrArg (fun q=>kU q) l) (et (ai h) (iN j)))))
 exact⟨rfl,J⟩
 refine jF (dF r) (D1 (F4 ?_))
 have z:kU l0=C1 ():=et (f) (et (congrArg (fun q=>kU q) (eZ (ls:=l0) (i:=a) e6)) rfl)
 refine F4 (Gg (FW (sr (An rfl (rt (rs ?_))))))
 have K:=d.pk []
 obtain rfl:_=true:=hr.symm.trans (nS z)
 exact⟨rfl,K⟩
def vK (a:bC):Bool:=
 if a.aH=1 then false else if a.aH=2 then true else if a.aH=3 then true else if a.aH=4 then false else if a.aH=5 then true else false
theorem zW (w:World) (D:Nat→Prop) (a:bC) (r0:Bool) (H:Own w D w []) (hr:vK a=r0):
    Calls y4 159 #[.agg (bC.cells a).toArray] w (dR fun v w'=>v= .bool r0∧Own w D w' []):=by
 refine cb Tryz.func159 ?_
 refine sr ?_
 refine dM (bC.cells a) 72 H ?_
 intro S aV b
 refine Ar rfl (Kz (vP S 0) (Lz (vI a.aH) b 0 C6 ?_))
 by_cases c:a.aH=1
 obtain⟨aW,m,aD,n,aF⟩:=FY b
 refine cl L8 (uf _ _ a.aH m (of_decide_eq_true (dT c))) ?_
 rintro _ aX ⟨rfl,o⟩
 have T:=n _ _ o
 refine Mz rfl (Kz (.agg #[.bool false, .func (.func 172) #[] #[], .func (.func 173) #[] #[], .func (.func 174) #[] #[], .func (.func 175) #[] #[]]) (Kz (.bool true) ?_))
 refine dM [.bool false, .nilFunc, .nilFunc, .nilFunc, .nilFunc] 231 T ?_
 intro U aY V
 refine dN [.bool false, .func (.func 172) #[] #[], .func (.func 173) #[] #[], .func (.func 174) #[] #[], .func (.func 175) #[] #[]] 0 V L3 ?_
 intro aZ W
 refine An rfl (FU ?_)
 have p:=W.pk [0]
 refine FT (Mz rfl (Mz rfl (Gz (vP U 0) rfl (Gl (.bool false) rfl p 0 M3 (fw (.bool false) (Gb rfl rfl rfl) (An rfl (rt (rs ?_))))))))
 have X:=p.pk []
 obtain rfl:_=false:=hr.symm.trans (ip c)
 exact⟨rfl,X⟩
 by_cases d:a.aH=2
 obtain⟨bf,q,aG,r,aH⟩:=FY b
 refine cl L8 (uh _ _ a.aH q (of_decide_eq_true (dT d))) ?_
 rintro _ bg ⟨rfl,s⟩
 have Y:=r _ _ s
 refine Mz rfl (Kz (.agg #[.bool true, .func (.func 176) #[] #[], .func (.func 177) #[] #[], .func (.func 174) #[] #[], .func (.func 178) #[] #[]]) (Kz (.bool true) ?_))
 refine dM [.bool false, .nilFunc, .nilFunc, .nilFunc, .nilFunc] 231 Y ?_
 intro Z bi aa
 refine dN [.bool true, .func (.func 176) #[] #[], .func (.func 177) #[] #[], .func (.func 174) #[] #[], .func (.func 178) #[] #[]] 0 aa L3 ?_
 intro bn ae
 refine An rfl (FU ?_)
 have t:=ae.pk [0]
 refine FT (Mz rfl (Mz rfl (Gz (vP Z 0) rfl (Gl (.bool true) rfl t 0 M3 (fw (.bool true) (Gb rfl rfl rfl) (An rfl (rt (rs ?_))))))))
 have af:=t.pk []
 obtain rfl:_=true:=hr.symm.trans (et (iN c) (ip d))
 exact⟨rfl,af⟩
 by_cases e:a.aH=3
 obtain⟨bq,u,aI,x,aJ⟩:=FY b
 refine cl L8 (ui _ _ a.aH u (of_decide_eq_true (dT e))) ?_
 rintro _ bu ⟨rfl,y⟩
 have ag:=x _ _ y
 refine Mz rfl (Kz (.agg #[.bool true, .func (.func 172) #[] #[], .func (.func 173) #[] #[], .func (.func 174) #[] #[], .func (.func 179) #[] #[]]) (Kz (.bool true) ?_))
 refine dM [.bool false, .nilFunc, .nilFunc, .nilFunc, .nilFunc] 231 ag ?_
 intro ah bv ai
 refine dN [.bool true, .func (.func 172) #[] #[], .func (.func 173) #[] #[], .func (.func 174) #[] #[], .func (.func 179) #[] #[]] 0 ai L3 ?_
 intro bz aj
 refine An rfl (FU ?_)
 have z:=aj.pk [0]
 refine FT (Mz rfl (Mz rfl (Gz (vP ah 0) rfl (Gl (.bool true) rfl z 0 M3 (fw (.bool true) (Gb rfl rfl rfl) (An rfl (rt (rs ?_))))))))
 have ak:=z.pk []
 obtain rfl:_=true:=hr.symm.trans (et (iN c) (et (iN d) (ip e)))
 exact⟨rfl,ak⟩
 by_cases f:a.aH=4
 obtain⟨bA,A,aK,B,aL⟩:=FY b
 refine cl L8 (uj _ _ a.aH A (of_decide_eq_true (dT f))) ?_
 rintro _ bB ⟨rfl,C⟩
 have au:=B _ _ C
 refine Mz rfl (Kz (.agg #[.bool false, .func (.func 180) #[] #[], .func (.func 181) #[] #[], .func (.func 182) #[] #[], .func (.func 183) #[] #[]]) (Kz (.bool true) ?_))
 refine dM [.bool false, .nilFunc, .nilFunc, .nilFunc, .nilFunc] 231 au ?_
 intro av bD ax
 refine dN [.bool false, .func (.func 180) #[] #[], .func (.func 181) #[] #[], .func (.func 182) #[] #[], .func (.func 183) #[] #[]] 0 ax L3 ?_
 intro bE ay
 refine An rfl (FU ?_)
 have E:=ay.pk [0]
 refine FT (Mz rfl (Mz rfl (Gz (vP av 0) rfl (Gl (.bool false) rfl E 0 M3 (fw (.bool false) (Gb rfl rfl rfl) (An rfl (rt (rs ?_))))))))
 have az:=E.pk []
 obtain rfl:_=false:=hr.symm.trans (et (iN c) (et (iN d) (et (iN e) (ip f))))
 exact⟨rfl,az⟩
 by_cases h:a.aH=5
 obtain⟨bF,F,aM,G,aN⟩:=FY b
 refine cl L8 (uk _ _ a.aH F (of_decide_eq_true (dT h))) ?_
 rintro _ bG ⟨rfl,i⟩
 have I:=G _ _ i
 refine Mz rfl (Kz (.agg #[.bool true, .func (.func 184) #[] #[], .func (.func 185) #[] #[], .func (.func 182) #[] #[], .func (.func 186) #[] #[]]) (Kz (.bool true) ?_))
 refine dM [.bool false, .nilFunc, .nilFunc, .nilFunc, .nilFunc] 231 I ?_
 intro J aO K
 refine dN [.bool true, .func (.func 184) #[] #[], .func (.func 185) #[] #[], .func (.func 182) #[] #[], .func (.func 186) #[] #[]] 0 K L3 ?_
 intro aP L
 refine An rfl (FU ?_)
 have g:=L.pk [0]
 refine FT (Mz rfl (Mz rfl (Gz (vP J 0) rfl (Gl (.bool true) rfl g 0 M3 (fw (.bool true) (Gb rfl rfl rfl) (An rfl (rt (rs ?_))))))))
 have M:=g.pk []
 obtain rfl:_=true:=hr.symm.trans (et (iN c) (et (iN d) (et (iN e) (et (iN f) (ip h)))))
 exact⟨rfl,M⟩
 obtain⟨aQ,j,aA,k,aB⟩:=FY b
 refine cl L8 (tJ _ _ a.aH j e6 e6 e6 e6 e6) ?_
 rintro _ aR ⟨rfl,l⟩
 have N:=k _ _ l
 refine Mz rfl (Kz (.agg #[.bool false, .nilFunc, .nilFunc, .nilFunc, .nilFunc]) (Kz (.bool false) ?_))
 refine dM [.bool false, .nilFunc, .nilFunc, .nilFunc, .nilFunc] 231 N ?_
 intro aS aT O
 refine dN [.bool false, .nilFunc, .nilFunc, .nilFunc, .nilFunc] 0 O L3 ?_
 intro aU P
 refine An rfl (FU ?_)
 have Q:=P.pk [0]
 refine FT (Mz rfl (Mz rfl (Sz rfl (Sz rfl (fw (.bool false) (FX rfl rfl rfl) (An rfl (rt (rs ?_))))))))
 have R:=Q.pk []
 obtain rfl:_=false:=hr.symm.trans (et (iN c) (et (iN d) (et (iN e) (et (iN f) (iN h)))))
 exact⟨rfl,R⟩
def qE (c:bC):Int:=
 bnd (vK c) fun a=>if a=true then bnd (ll c) fun b=>b else 40
theorem vL (w:World) (D:Nat→Prop) (a:bC) (t:Int) (H:Own w D w []) (hr:qE a=t):
    Calls y4 140 #[.agg (bC.cells a).toArray] w (dR fun v w'=>v=vI t∧Own w D w' []):=by
 refine cb Tryz.func140 ?_
 refine sr ?_
 refine dM (bC.cells a) 72 H ?_
 intro A B i
 refine An rfl (FU (sr (La (bC.cells a) i 0 L5 L4 ?_)))
 obtain⟨f,b⟩:∃ q,vK a=q:=⟨_,rfl⟩
 obtain⟨C,j,u,k,x⟩:=FY i
 refine cl Tryz.call159 (zW _ _ a f j b) ?_
 rintro _ E ⟨rfl,l⟩
 have g:=k _ _ l
 refine Kz (.bool (!f)) (nt ?_)
 rcases JQ (f) with c | c
 refine jF (cn c) (sk (sr (La (bC.cells a) g 0 L5 L4 ?_)))
 obtain⟨h,d⟩:∃ q,ll a=q:=⟨_,rfl⟩
 obtain⟨F,m,y,n,z⟩:=FY g
 refine cl M2 (rU _ _ a h m d) ?_
 rintro _ G ⟨rfl,o,e⟩
 have p:=n _ _ o
 replace e: ¬ (h=0)∨(1≤a.aH∧a.aH≤5):=e
 refine An rfl (rt (rs ?_))
 have r:=p.pk []
 obtain rfl:_=h:=hr.symm.trans (et (ai b) (et (ip c) (ai d)))
 exact⟨rfl,r⟩
 refine jT (cn c) (sr (An rfl (rt (tR (rs ?_)))))
 have s:=g.pk []
 obtain rfl:_=40:=hr.symm.trans (et (ai b) (gB c))
 exact⟨rfl,s⟩
def kK:List bC→Unit ⊕ Bool
  | []=>C1 ()
  | b::c=>bnd (qE b) fun a=>if a=0 then kK c else C3 (false)
def sQ (l0:List bC):Bool:=
 lp (kK l0) fun _=>true
theorem xL (w:World) (D:Nat→Prop) (n:Option Addr) (z A:Nat) (l0:List bC) (K:Bool) (H:Own w D w []) (m:Ro w D fun w'=>bD w' 6 n z (q6 bC.cells l0)) (B:z=l0.length) (O:l0.length≤9223372036854775807) (hr:sQ l0=K):
    Calls y4 138 #[.slice n z A, .func (.func 140) #[] #[]] w (dR fun v w'=>v= .bool K∧Own w D w' []):=by
 subst B
 refine cb Tryz.func138 ?_
 refine sr (An rfl (FU (sr (Mz rfl (Kz (vJ l0.length) (Mn rfl (bo ?_)))))))
 have C:=H.pk []
 obtain⟨E,c⟩:=mX fun(a:Nat) (w':World)=>Own w D w' []∧a≤l0.length∧kK l0=kK (r6 a l0)
 refine C5 (fun i:Nat=> [(4, .bool false),(9,vJ i),(8,vJ l0.length),(7, .slice n l0.length A),(1, .func (.func 140) #[] #[])]) E (fun i=>l0.length - i) 0 ⟨rfl,rfl,rfl,rfl,rfl,trivial⟩ (c.2 ⟨C,e6,rfl⟩) ?_
 rintro a P o
 obtain⟨d,L,f⟩:=c.1 o
 refine sr (Kz (.bool (decide (((a:Nat):Int) < ((l0.length:Nat):Int)))) (nt (FU ?_)))
 by_cases p:((a:Nat):Int) < ((l0.length:Nat):Int)
 obtain⟨b,k⟩:=dK (ls:=l0) (i:=a) bC.len f3 (d.ro m) e9
 have l:=drop_at k
 refine jT (dT p) (sk (FU (bo (sr (fw (.pointer (some ⟨ab n,ao n+a *6,none⟩)) (FZ (qx) rfl rfl ((d.ro m).addr (i:=a) e6) e6) (fw (.agg (bC.cells b).toArray) (F5 rfl (Gc (cs:=(bC.cells b)) L5 L4 ((d.ro m).elem bC.len k f3))) ?_))))))
 refine dM [vI 0, .string ⟨y6 ([])⟩, .string ⟨y6 ([])⟩, .string ⟨y6 ([])⟩, .string ⟨y6 ([])⟩,vI 0] 72 d ?_
 intro Q R F
 refine dN (bC.cells b) 0 F L4 ?_
 intro S r
 refine ns (Mz rfl (La (bC.cells b) r 0 L5 L4 ?_))
 obtain⟨h,g⟩:∃ q,qE b=q:=⟨_,rfl⟩
 obtain⟨T,s,M,t,N⟩:=FY r
 refine WL.do rfl (Gp Tryz.call140 rfl rfl (vL _ _ b h s g) ?_)
 rintro _ U ⟨rfl,u⟩
 have x:=t _ _ u
 refine fw (.bool (decide (¬ (h=0)))) (Gi (e:= !(decide (h=0))) yk decide_not.symm) (nt ?_)
 by_cases j:h=0
 refine jF (dF (JP j)) (Gj (bN (FW (FT (fw (vJ (a+1)) (FV (e:=C7.wrap (((a:Nat):Int)+1)) yk f1) (Mz rfl (D0 ?_)))))))
 have G:=x.pk []
 exact F9 (a+1) ⟨rfl,rfl,rfl,rfl,rfl,trivial⟩ (c.2 ⟨G,e6,et (f) (et (congrArg (fun q=>kK q) l) (et (ai g) (ip j)))⟩) (by show l0.length - (a+1) < l0.length - a; omega)
 refine jT (dT j) (sr (An rfl (rt (bR (tR (tR (bR (tR (rs ?_)))))))))
 have I:=x.pk []
 obtain rfl:_=false:=hr.symm.trans (jq (et (f) (et (congrArg (fun q=>kK q) l) (et (ai g) (iN j)))))
 exact⟨rfl,I⟩
 refine jF (dF p) (D1 (F4 ?_))
 have y:kK l0=C1 ():=et (f) (et (congrArg (fun q=>kK q) (eZ (ls:=l0) (i:=a) e6)) rfl)
 refine F4 (Gg (FW (sr (An rfl (rt (rs ?_))))))
 have J:=d.pk []
 obtain rfl:_=true:=hr.symm.trans (nS y)
 exact⟨rfl,J⟩
def q8 (d:Int) (l1:List bC):Bool:=
 if d=1 then bnd (nX l1) fun a=>decide (a=0) else if d=3 then if((l1.length:Nat):Int) ≥ 1 then if((l1.length:Nat):Int)≤24 then bnd (tN l1) fun b=>b else false else false else if((l1.length:Nat):Int)≤6 then bnd (sQ l1) fun c=>c else false
theorem yu (w:World) (D:Nat→Prop) (p:Int) (g:Option Addr) (G l:Nat) (l1:List bC) (S:Bool) (H:Own w D w []) (m:Ro w D fun w'=>bD w' 6 g G (q6 bC.cells l1)) (I:G=l1.length) (W:l1.length≤9223372036854775807) (hr:q8 p l1=S):
    Calls y4 115 #[vI p, .slice g G l] w (dR fun v w'=>v= .bool S∧Own w D w' []):=by
 subst I
 refine cb Tryz.func115 ?_
 refine sr (An rfl (FU (sr (Mn rfl (bo (sr (Kz (.bool (decide (p=1))) (An rfl ?_))))))))
 by_cases b:p=1
 refine jT (dT b) (sr (Mz rfl ?_))
 obtain⟨f,h⟩:∃ q,nX l1=q:=⟨_,rfl⟩
 obtain⟨X,r,s,t,T⟩:=FY H
 refine cl Tryz.call137 (wK _ _ g l1.length l l1 f r (s _ m) rfl e6 h) ?_
 rintro _ Y ⟨rfl,u,i⟩
 have J:=t _ _ u
 replace i: ¬ (f=0)∨(1≤l1.length∧l1.length≤4):=i
 refine Kz (.bool (decide (f=0))) (An rfl (rt (bR (tR (rs ?_)))))
 have K:=J.pk []
 obtain rfl:_=decide (f=0):=hr.symm.trans (et (ip b) (ai h))
 exact⟨rfl,K⟩
 refine jF (dF b) (sr (Kz (.bool (decide (p=3))) (An rfl ?_)))
 by_cases e:p=3
 refine jT (dT e) (sr (Mz rfl (Kz (vJ l1.length) (Kz (.bool (decide (((l1.length:Nat):Int) ≥ 1))) (Mz rfl ?_)))))
 by_cases a:((l1.length:Nat):Int) ≥ 1
 refine gw (.slice g l1.length l) (dT a) (F7 rfl) (Gz (vJ l1.length) (dT a) (Gz (.bool (decide (((l1.length:Nat):Int)≤24))) (dT a) (fw (.bool (decide (((l1.length:Nat):Int)≤24))) (Gb rfl (dT a) rfl) (Mz rfl ?_))))
 by_cases c:((l1.length:Nat):Int)≤24
 refine gw (.slice g l1.length l) (dT c) (F7 rfl) ?_
 obtain⟨n,j⟩:∃ q,tN l1=q:=⟨_,rfl⟩
 obtain⟨Z,x,y,z,U⟩:=FY H
 refine uX (dT c) Tryz.call138 (yn _ _ g l1.length l l1 n x (y _ m) rfl e6 j) ?_
 rintro _ aa ⟨rfl,A⟩
 have L:=z _ _ A
 refine fw (.bool n) (Gb rfl (dT c) rfl) (An rfl (rt (bR (tR (rs ?_)))))
 have M:=L.pk []
 obtain rfl:_=n:=hr.symm.trans (et (iN b) (et (ip e) (et (ip a) (et (ip c) (ai j)))))
 exact⟨rfl,M⟩
 refine Sz (dF c) (Sz (dF c) (fw (.bool false) (FX rfl (dF c) rfl) (An rfl (rt (bR (tR (rs ?_)))))))
 have N:=H.pk []
 obtain rfl:_=false:=hr.symm.trans (et (iN b) (et (ip e) (et (ip a) (iN c))))
 exact⟨rfl,N⟩
 refine Sz (dF a) (Sz (dF a) (Sz (dF a) (fw (.bool false) (FX rfl (dF a) rfl) (Mz rfl (Sz rfl (Sz rfl (fw (.bool false) (FX rfl rfl rfl) (An rfl (rt (bR (tR (rs ?_))))))))))))
 have O:=H.pk []
 obtain rfl:_=false:=hr.symm.trans (et (iN b) (et (ip e) (iN a)))
 exact⟨rfl,O⟩
 refine jF (dF e) (Gj (bN (FW (sr (Mz rfl (Kz (vJ l1.length) (Kz (.bool (decide (((l1.length:Nat):Int)≤6))) (Mz rfl ?_))))))))
 by_cases d:((l1.length:Nat):Int)≤6
 refine gw (.slice g l1.length l) (dT d) (F7 rfl) ?_
 obtain⟨o,k⟩:∃ q,sQ l1=q:=⟨_,rfl⟩
 obtain⟨ae,B,C,E,V⟩:=FY H
 refine uX (dT d) Tryz.call138 (xL _ _ g l1.length l l1 o B (C _ m) rfl e6 k) ?_
 rintro _ af ⟨rfl,F⟩
 have P:=E _ _ F
 refine fw (.bool o) (Gb rfl (dT d) rfl) (An rfl (rt (rs ?_)))
 have Q:=P.pk []
 obtain rfl:_=o:=hr.symm.trans (et (iN b) (et (iN e) (et (ip d) (ai k))))
 exact⟨rfl,Q⟩
 refine Sz (dF d) (Sz (dF d) (fw (.bool false) (FX rfl (dF d) rfl) (An rfl (rt (rs ?_)))))
 have R:=H.pk []
 obtain rfl:_=false:=hr.symm.trans (et (iN b) (et (iN e) (iN d)))
 exact⟨rfl,R⟩
def lm (b:Int) (a:Int):Bool:=
 if b=1 then if a ≥ 1 then decide (a≤4) else false else if b=2 then if a ≥ 11 then decide (a < 15) else false else decide (a=0)
theorem qF (w:World) (D:Nat→Prop) (f:Int) (c:Int) (l:Bool) (H:Own w D w []) (hr:lm f c=l):
    Calls y4 50 #[vI f,vI c] w (dR fun v w'=>v= .bool l∧Own w D w' []):=by
 refine cb Tryz.func50 ?_
 refine sr (An rfl (FU (sr (Mn rfl (bo (sr (Kz (.bool (decide (f=1))) (An rfl ?_))))))))
 by_cases d:f=1
 refine jT (dT d) (sr (Mz rfl (Kz (.bool (decide (c ≥ 1))) (Mz rfl ?_))))
 by_cases a:c ≥ 1
 refine gw (vI c) (dT a) (F7 rfl) (Gz (.bool (decide (c≤4))) (dT a) (fw (.bool (decide (c≤4))) (Gb rfl (dT a) rfl) (An rfl (rt (bR (tR (rs ?_)))))))
 have g:=H.pk []
 obtain rfl:_=decide (c≤4):=hr.symm.trans (et (ip d) (ip a))
 exact⟨rfl,g⟩
 refine Sz (dF a) (Sz (dF a) (fw (.bool false) (FX rfl (dF a) rfl) (An rfl (rt (bR (tR (rs ?_)))))))
 have h:=H.pk []
 obtain rfl:_=false:=hr.symm.trans (et (ip d) (iN a))
 exact⟨rfl,h⟩
 refine jF (dF d) (sr (Kz (.bool (decide (f=2))) (An rfl ?_)))
 by_cases e:f=2
 refine jT (dT e) (sr (Mz rfl (Kz (.bool (decide (c ≥ 11))) (Mz rfl ?_))))
 by_cases b:c ≥ 11
 refine gw (vI c) (dT b) (F7 rfl) (Gz (.bool (decide (c < 15))) (dT b) (fw (.bool (decide (c < 15))) (Gb rfl (dT b) rfl) (An rfl (rt (bR (tR (rs ?_)))))))
 have i:=H.pk []
 obtain rfl:_=decide (c < 15):=hr.symm.trans (et (iN d) (et (ip e) (ip b)))
 exact⟨rfl,i⟩
 refine Sz (dF b) (Sz (dF b) (fw (.bool false) (FX rfl (dF b) rfl) (An rfl (rt (bR (tR (rs ?_)))))))
 have j:=H.pk []
 obtain rfl:_=false:=hr.symm.trans (et (iN d) (et (ip e) (iN b)))
 exact⟨rfl,j⟩
 refine jF (dF e) (Gj (bN (FW (sr (Mz rfl (Kz (.bool (decide (c=0))) (An rfl (rt (rs ?_)))))))))
 have k:=H.pk []
 obtain rfl:_=decide (c=0):=hr.symm.trans (et (iN d) (iN e))
 exact⟨rfl,k⟩
def oQ (a:bQ) (b:Int):Bool:=
 if b=2 then bnd (sM a.aH a.dz) fun c=>c else if b=3 then bnd (oK a.aH a.ah.ls) fun d=>d else if b=7 then bnd (q8 a.aH a.aG.ls) fun e=>e else if b=11 then bnd (kM a.ag.ls) fun f=>decide (f=0) else if b=12 then bnd (lm 1 a.eu) fun g=>g else if b=13 then bnd (ma a.bV) fun h=>decide (h=0) else true
theorem Ay (w:World) (D:Nat→Prop) (a:bQ) (f:Option Addr) (z g:Nat) (h:Option Addr) (B i:Nat) (n:List af) (j:Option Addr) (C k:Nat) (o:Int) (r0:Bool) (H:Own w D w []) (N:z=a.aG.ls.length) (O:Ro w D fun w'=>bD w' 6 f a.aG.ls.length (q6 bC.cells a.aG.ls)) (aK:a.aG.ls.length≤g∧a.aG.ls.length≤9223372036854775807) (r:s8 af.abs n=a.ah.ls) (P:B=a.ah.ls.length) (Q:Ro w D fun w'=>bD w' 3 h a.ah.ls.length (q6 af.cells n)) (aM:a.ah.ls.length≤i∧a.ah.ls.length≤9223372036854775807) (s:∀ x ∈ n,Ro w D (fun w'=>bD w' 2 x.au.A x.au.ls.length (q6 aL.cells x.au.ls))∧(x.au.ls.length≤x.au.c∧x.au.ls.length≤9223372036854775807)) (R:C=a.ag.ls.length) (S:Ro w D fun w'=>bD w' 2 j a.ag.ls.length (q6 bv.cells a.ag.ls)) (aN:a.ag.ls.length≤k∧a.ag.ls.length≤9223372036854775807) (bI:a.aG.ls.length≤140737488355328∧a.ah.ls.length≤140737488355328∧a.ag.ls.length≤140737488355328) (hr:oQ a o=r0):
    Calls y4 76 #[.agg (gD a.aH a.aJ a.eO a.aS a.dz a.eu a.aU a.ax a.bi a.dW a.bf a.aK a.dI a.cZ a.xN a.d9 a.bV.bK a.bV.bW f z g h B i j C k).toArray,vI o] w (dR fun v w'=>v= .bool r0∧Own w D w' []):=by
 subst N P R
 have aJ:=az r
 refine cb Tryz.func76 ?_
 refine sr ?_
 refine dM (gT a f g h i j k) 42 H ?_
 intro d bJ b
 refine An rfl (FU (sr (Mn rfl (bo (sr (Kz (.bool (decide (o=2))) (An rfl ?_)))))))
 by_cases e:o=2
 refine jT (dT e) (sr (Kz (vP d 0) (Lz (vI a.aH) b 0 C6 (Kz (vP d 4) (Lz (vI a.dz) b 0 C6 ?_)))))
 obtain⟨U,E⟩:∃ q,sM a.aH a.dz=q:=⟨_,rfl⟩
 obtain⟨bK,V,bi,W,bn⟩:=FY b
 refine cl Tryz.call113 (xG _ _ a.aH a.dz U V E) ?_
 rintro _ bM ⟨rfl,X⟩
 have aO:=W _ _ X
 refine An rfl (rt (bR (tR (rs ?_))))
 have aP:=aO.pk []
 obtain rfl:_=U:=hr.symm.trans (et (ip e) (ai E))
 exact⟨rfl,aP⟩
 refine jF (dF e) (sr (Kz (.bool (decide (o=3))) (An rfl ?_)))
 by_cases l:o=3
 refine jT (dT l) (sr (Kz (vP d 0) (Lz (vI a.aH) b 0 C6 (Kz (vP d 19) (Lz (.slice h a.ah.ls.length i) b 0 Tryz.isAgg40 ?_)))))
 obtain⟨Y,F⟩:∃ q,oK a.aH a.ah.ls=q:=⟨_,rfl⟩
 obtain⟨bO,Z,G,aa,bq⟩:=FY b
 refine cl Tryz.call114 (vG _ _ a.aH h a.ah.ls.length i n a.ah.ls Y Z r (G _ Q) (fun x9 h9=>⟨G _ (s x9 h9).1,(s x9 h9).2⟩) rfl e6 F) ?_
 rintro _ bP ⟨rfl,ae⟩
 have aQ:=aa _ _ ae
 refine An rfl (rt (bR (tR (rs ?_))))
 have aR:=aQ.pk []
 obtain rfl:_=Y:=hr.symm.trans (et (iN e) (et (ip l) (ai F)))
 exact⟨rfl,aR⟩
 refine jF (dF l) (sr (Kz (.bool (decide (o=7))) (An rfl ?_)))
 by_cases m:o=7
 refine jT (dT m) (sr (Kz (vP d 0) (Lz (vI a.aH) b 0 C6 (Kz (vP d 18) (Lz (.slice f a.aG.ls.length g) b 0 Tryz.isAgg39 ?_)))))
 obtain⟨ag,I⟩:∃ q,q8 a.aH a.aG.ls=q:=⟨_,rfl⟩
 obtain⟨bS,ah,aj,ak,bA⟩:=FY b
 refine cl Tryz.call115 (yu _ _ a.aH f a.aG.ls.length g a.aG.ls ag ah (aj _ O) rfl e6 I) ?_
 rintro _ bT ⟨rfl,au⟩
 have aS:=ak _ _ au
 refine An rfl (rt (bR (tR (rs ?_))))
 have aT:=aS.pk []
 obtain rfl:_=ag:=hr.symm.trans (et (iN e) (et (iN l) (et (ip m) (ai I))))
 exact⟨rfl,aT⟩
 refine jF (dF m) (sr (Kz (.bool (decide (o=11))) (An rfl ?_)))
 by_cases p:o=11
 refine jT (dT p) (sr (Kz (vP d 20) (Lz (.slice j a.ag.ls.length k) b 0 Tryz.isAgg29 ?_)))
 obtain⟨u,J⟩:∃ q,kM a.ag.ls=q:=⟨_,rfl⟩
 obtain⟨bU,av,ax,ay,bB⟩:=FY b
 refine cl Tryz.call72 (qQ _ _ j a.ag.ls.length k a.ag.ls u av (ax _ S) rfl e6 J) ?_
 rintro _ bV ⟨rfl,aA,K⟩
 have aU:=ay _ _ aA
 replace K: ¬ (u=0)∨(1≤a.ag.ls.length∧a.ag.ls.length≤6):=K
 refine Kz (.bool (decide (u=0))) (An rfl (rt (bR (tR (rs ?_)))))
 have aV:=aU.pk []
 obtain rfl:_=decide (u=0):=hr.symm.trans (et (iN e) (et (iN l) (et (iN m) (et (ip p) (ai J)))))
 exact⟨rfl,aV⟩
 refine jF (dF p) (sr (Kz (.bool (decide (o=12))) (An rfl ?_)))
 by_cases t:o=12
 refine jT (dT t) (sr (Kz (vP d 5) (Lz (vI a.eu) b 0 C6 ?_)))
 obtain⟨aB,L⟩:∃ q,lm 1 a.eu=q:=⟨_,rfl⟩
 obtain⟨bW,aC,bE,aD,bF⟩:=FY b
 refine cl Tryz.call50 (qF _ _ 1 a.eu aB aC L) ?_
 rintro _ bX ⟨rfl,aF⟩
 have aW:=aD _ _ aF
 refine An rfl (rt (bR (tR (rs ?_))))
 have aX:=aW.pk []
 obtain rfl:_=aB:=hr.symm.trans (et (iN e) (et (iN l) (et (iN m) (et (iN p) (et (ip t) (ai L))))))
 exact⟨rfl,aX⟩
 refine jF (dF t) (sr (Kz (.bool (decide (o=13))) (An rfl ?_)))
 by_cases y:o=13
 refine jT (dT y) (sr (Kz (vP d 16) (La (bL.cells a.bV) b 0 L7 L6 ?_)))
 obtain⟨T,M⟩:∃ q,ma a.bV=q:=⟨_,rfl⟩
 obtain⟨bY,aG,bG,aH,bH⟩:=FY b
 refine cl Tryz.call116 (pR _ _ a.bV T aG M) ?_
 rintro _ bZ ⟨rfl,aI⟩
 have aY:=aH _ _ aI
 refine Kz (.bool (decide (T=0))) (An rfl (rt (bR (tR (rs ?_)))))
 have aZ:=aY.pk []
 obtain rfl:_=decide (T=0):=hr.symm.trans (et (iN e) (et (iN l) (et (iN m) (et (iN p) (et (iN t) (et (ip y) (ai M)))))))
 exact⟨rfl,aZ⟩
 refine jF (dF y) (Gj (bN (FW (sr (An rfl (rt (rs ?_)))))))
 have bf:=b.pk []
 obtain rfl:_=true:=hr.symm.trans (et (iN e) (et (iN l) (et (iN m) (et (iN p) (et (iN t) (iN y))))))
 exact⟨rfl,bf⟩
def jX (d:bQ):List Int→Unit ⊕ Bool
  | []=>C1 ()
  | b::c=>bnd (oQ d b) fun a=>if a=true then jX d c else C3 (false)
def rf (a:bQ) (l1:List Int):Bool:=
 lp (jX a l1) fun _=>true
theorem yw (w:World) (D:Nat→Prop) (a:bQ) (h:Option Addr) (z d:Nat) (j:Option Addr) (B f:Nat) (m:List af) (l:Option Addr) (C g:Nat) (R:Option Addr) (n1 c1:Nat) (l1:List Int) (r0:Bool) (H:Own w D w []) (G:z=a.aG.ls.length) (I:Ro w D fun w'=>bD w' 6 h a.aG.ls.length (q6 bC.cells a.aG.ls)) (ag:a.aG.ls.length≤d∧a.aG.ls.length≤9223372036854775807) (p:s8 af.abs m=a.ah.ls) (J:B=a.ah.ls.length) (K:Ro w D fun w'=>bD w' 3 j a.ah.ls.length (q6 af.cells m)) (ah:a.ah.ls.length≤f∧a.ah.ls.length≤9223372036854775807) (r:∀ x ∈ m,Ro w D (fun w'=>bD w' 2 x.au.A x.au.ls.length (q6 aL.cells x.au.ls))∧(x.au.ls.length≤x.au.c∧x.au.ls.length≤9223372036854775807)) (L:C=a.ag.ls.length) (M:Ro w D fun w'=>bD w' 2 l a.ag.ls.length (q6 bv.cells a.ag.ls)) (aj:a.ag.ls.length≤g∧a.ag.ls.length≤9223372036854775807) (N:Ro w D fun w'=>bD w' 1 R n1 (q6 (eI .i64) l1)) (ak:n1=l1.length) (aI:l1.length *8≤211106232532992) (aJ:a.aG.ls.length≤140737488355328∧a.ah.ls.length≤140737488355328∧a.ag.ls.length≤140737488355328) (hr:rf a l1=r0):
    Calls y4 53 #[.agg (gD a.aH a.aJ a.eO a.aS a.dz a.eu a.aU a.ax a.bi a.dW a.bf a.aK a.dI a.cZ a.xN a.d9 a.bV.bK a.bV.bW h z d j B f l C g).toArray, .slice R n1 c1] w (dR fun v w'=>v= .bool r0∧Own w D w' []):=by
 subst ak G J L
 have Z:=az p
 refine cb Tryz.func53 ?_
 refine sr ?_
 refine dM (gT a h d j f l g) 42 H ?_
 intro O aK au
 refine An rfl (FU (sr (Mz rfl (Kz (vJ l1.length) (Mn rfl (bo ?_))))))
 have av:=au.pf []
 obtain⟨ax,s⟩:=mX fun(b:Nat) (w':World)=>Own w D w' [blk O (gT a h d j f l g) 42]∧b≤l1.length∧jX a l1=jX a (r6 b l1)
 refine C5 (fun i:Nat=> [(4, .bool false),(9,vJ i),(8,vJ l1.length),(7, .slice R l1.length c1),(2,vP O 0)]) ax (fun i=>l1.length - i) 0 ⟨rfl,rfl,rfl,rfl,rfl,trivial⟩ (s.2 ⟨av,e6,rfl⟩) ?_
 rintro b aM S
 obtain⟨o,aD,t⟩:=s.1 S
 refine sr (Kz (.bool (decide (((b:Nat):Int) < ((l1.length:Nat):Int)))) (nt (FU ?_)))
 by_cases T:((b:Nat):Int) < ((l1.length:Nat):Int)
 obtain⟨P,E⟩:=dK (ls:=l1) (i:=b) iI f3 (o.ro N) e9
 have F:=drop_at E
 refine jT (dT T) (sk (FU (bo (sr (fw (.pointer (some ⟨ab R,ao R+b *1,none⟩)) (FZ (Dw) rfl rfl ((o.ro N).addr (i:=b) e6) e6) (fw (vI P) (F5 rfl (bZ.one Tryz.isAgg154 (((o.ro N).elem iI E f3).at_ (k:=0) rfl))) (Ar rfl (La (gT a h d j f l g) o 0 Tryz.isAgg42 Tryz.sizeOf42 (Mz rfl ?_)))))))))
 obtain⟨Q,u⟩:∃ q,oQ a P=q:=⟨_,rfl⟩
 obtain⟨aN,U,n,V,aF⟩:=FY o
 refine cl Tryz.call76 (Ay _ _ a h a.aG.ls.length d j a.ah.ls.length f m l a.ag.ls.length g P Q U rfl (n _ I) (show a.aG.ls.length≤d∧a.aG.ls.length≤9223372036854775807 from by omega) p rfl (n _ K) (show a.ah.ls.length≤f∧a.ah.ls.length≤9223372036854775807 from by omega) (fun x9 h9=>⟨n _ (r x9 h9).1,(r x9 h9).2⟩) rfl (n _ M) (show a.ag.ls.length≤g∧a.ag.ls.length≤9223372036854775807 from by omega) i3 u) ?_
 rintro _ aO ⟨rfl,W⟩
 have X:=V _ _ W
 refine Kz (.bool (!Q)) (nt ?_)
 rcases JQ (Q) with y | y
 refine jF (cn y) (Gj (bN (FW (FT (fw (vJ (b+1)) (FV (e:=C7.wrap (((b:Nat):Int)+1)) yk f1) (Mz rfl (D0 ?_)))))))
 have ay:=X.pf []
 exact F9 (b+1) ⟨rfl,rfl,rfl,rfl,rfl,trivial⟩ (s.2 ⟨ay,e6,et (t) (et (congrArg (fun q=>jX a q) F) (et (ai u) (ip y)))⟩) (by show l1.length - (b+1) < l1.length - b; omega)
 refine jT (cn y) (sr (An rfl (rt (bR (tR (tR (bR (tR (rs ?_)))))))))
 have aA:=X.pk []
 obtain rfl:_=false:=hr.symm.trans (jq (et (t) (et (congrArg (fun q=>jX a q) F) (et (ai u) (gB y)))))
 exact⟨rfl,aA⟩
 refine jF (dF T) (D1 (F4 ?_))
 have Y:jX a l1=C1 ():=et (t) (et (congrArg (fun q=>jX a q) (eZ (ls:=l1) (i:=b) e6)) rfl)
 refine F4 (Gg (FW (sr (An rfl (rt (rs ?_))))))
 have aB:=o.pk []
 obtain rfl:_=true:=hr.symm.trans (nS Y)
 exact⟨rfl,aB⟩
def qG (a:bQ):Bool:=
 if((dw (dw (dw (dw (dw (dw (dw (dw a.aU a.ax) a.bi) a.dW) a.bf) a.aK) a.dI) a.cZ) a.xN:Nat):Int)=0 then if(((a.aG.ls.length+a.ah.ls.length)+a.ag.ls.length:Nat):Int)=0 then if a.aS=0 then if a.dz=0 then if a.eu=0 then if a.d9=true then false else decide ((a.bV.bK=([]))∧(a.bV.bW=([]))) else false else false else false else false else false
theorem yX (w:World) (D:Nat→Prop) (a:bQ) (l:Option Addr) (s m:Nat) (n:Option Addr) (t o:Nat) (r:List af) (p:Option Addr) (y q:Nat) (V:Bool) (H:Own w D w []) (z:s=a.aG.ls.length) (G:Ro w D fun w'=>bD w' 6 l a.aG.ls.length (q6 bC.cells a.aG.ls)) (I:a.aG.ls.length≤m∧a.aG.ls.length≤9223372036854775807) (B:s8 af.abs r=a.ah.ls) (C:t=a.ah.ls.length) (J:Ro w D fun w'=>bD w' 3 n a.ah.ls.length (q6 af.cells r)) (K:a.ah.ls.length≤o∧a.ah.ls.length≤9223372036854775807) (L:∀ x ∈ r,Ro w D (fun w'=>bD w' 2 x.au.A x.au.ls.length (q6 aL.cells x.au.ls))∧(x.au.ls.length≤x.au.c∧x.au.ls.length≤9223372036854775807)) (E:y=a.ag.ls.length) (M:Ro w D fun w'=>bD w' 2 p a.ag.ls.length (q6 bv.cells a.ag.ls)) (N:a.ag.ls.length≤q∧a.ag.ls.length≤9223372036854775807) (ai:a.aG.ls.length≤140737488355328∧a.ah.ls.length≤140737488355328∧a.ag.ls.length≤140737488355328) (hr:qG a=V):
    Calls y4 51 #[.agg (gD a.aH a.aJ a.eO a.aS a.dz a.eu a.aU a.ax a.bi a.dW a.bf a.aK a.dI a.cZ a.xN a.d9 a.bV.bK a.bV.bW l s m n t o p y q).toArray] w (dR fun v w'=>v= .bool V∧Own w D w' []):=by
 subst z C E
 have F:=az B
 refine cb Tryz.func51 ?_
 refine sr ?_
 refine dM (gT a l m n o p q) 42 H ?_
 intro d aj b
 refine Ar rfl (Kz (vP d 6) (Lz (vU a.aU) b 0 E1 (Kz (vP d 7) (Lz (vU a.ax) b 0 E1 ?_))))
 have W:dw a.aU a.ax≤18446744073709551615:=oN _ _
 refine fw (vU (dw a.aU a.ax)) (FV (e:=D3.wrap (((BitVec.ofInt 64 ((a.aU:Nat):Int) ||| BitVec.ofInt 64 ((a.ax:Nat):Int)).toNat:Nat):Int)) yk (fC _)) (Kz (vP d 8) (Lz (vU a.bi) b 0 E1 ?_))
 have X:dw (dw a.aU a.ax) a.bi≤18446744073709551615:=oN _ _
 refine fw (vU (dw (dw a.aU a.ax) a.bi)) (FV (e:=D3.wrap (((BitVec.ofInt 64 ((dw a.aU a.ax:Nat):Int) ||| BitVec.ofInt 64 ((a.bi:Nat):Int)).toNat:Nat):Int)) yk (fC _)) (Kz (vP d 9) (Lz (vU a.dW) b 0 E1 ?_))
 have Y:dw (dw (dw a.aU a.ax) a.bi) a.dW≤18446744073709551615:=oN _ _
 refine fw (.int .u64 ((dw (dw (dw a.aU a.ax) a.bi) a.dW:Nat):Int)) (FV (e:=D3.wrap (((BitVec.ofInt 64 ((dw (dw a.aU a.ax) a.bi:Nat):Int) ||| BitVec.ofInt 64 ((a.dW:Nat):Int)).toNat:Nat):Int)) yk (fC _)) (Kz (vP d 10) (Lz (vU a.bf) b 0 E1 ?_))
 have Z:dw (dw (dw (dw a.aU a.ax) a.bi) a.dW) a.bf≤18446744073709551615:=oN _ _
 refine fw (.int .u64 ((dw (dw (dw (dw a.aU a.ax) a.bi) a.dW) a.bf:Nat):Int)) (FV (e:=D3.wrap (((BitVec.ofInt 64 ((dw (dw (dw a.aU a.ax) a.bi) a.dW:Nat):Int) ||| BitVec.ofInt 64 ((a.bf:Nat):Int)).toNat:Nat):Int)) yk (fC _)) (Kz (vP d 11) (Lz (vU a.aK) b 0 E1 ?_))
 have aa:dw (dw (dw (dw (dw a.aU a.ax) a.bi) a.dW) a.bf) a.aK≤18446744073709551615:=oN _ _
 refine fw (.int .u64 ((dw (dw (dw (dw (dw a.aU a.ax) a.bi) a.dW) a.bf) a.aK:Nat):Int)) (FV (e:=D3.wrap (((BitVec.ofInt 64 ((dw (dw (dw (dw a.aU a.ax) a.bi) a.dW) a.bf:Nat):Int) ||| BitVec.ofInt 64 ((a.aK:Nat):Int)).toNat:Nat):Int)) yk (fC _)) (Kz (vP d 12) (Lz (vU a.dI) b 0 E1 ?_))
 have ae:dw (dw (dw (dw (dw (dw a.aU a.ax) a.bi) a.dW) a.bf) a.aK) a.dI≤18446744073709551615:=oN _ _
 refine fw (.int .u64 ((dw (dw (dw (dw (dw (dw a.aU a.ax) a.bi) a.dW) a.bf) a.aK) a.dI:Nat):Int)) (FV (e:=D3.wrap (((BitVec.ofInt 64 ((dw (dw (dw (dw (dw a.aU a.ax) a.bi) a.dW) a.bf) a.aK:Nat):Int) ||| BitVec.ofInt 64 ((a.dI:Nat):Int)).toNat:Nat):Int)) yk (fC _)) (Kz (vP d 13) (Lz (vU a.cZ) b 0 E1 ?_))
 have ag:dw (dw (dw (dw (dw (dw (dw a.aU a.ax) a.bi) a.dW) a.bf) a.aK) a.dI) a.cZ≤18446744073709551615:=oN _ _
 refine fw (.int .u64 ((dw (dw (dw (dw (dw (dw (dw a.aU a.ax) a.bi) a.dW) a.bf) a.aK) a.dI) a.cZ:Nat):Int)) (FV (e:=D3.wrap (((BitVec.ofInt 64 ((dw (dw (dw (dw (dw (dw a.aU a.ax) a.bi) a.dW) a.bf) a.aK) a.dI:Nat):Int) ||| BitVec.ofInt 64 ((a.cZ:Nat):Int)).toNat:Nat):Int)) yk (fC _)) (Kz (vP d 14) (Lz (vU a.xN) b 0 E1 ?_))
 have ah:dw (dw (dw (dw (dw (dw (dw (dw a.aU a.ax) a.bi) a.dW) a.bf) a.aK) a.dI) a.cZ) a.xN≤18446744073709551615:=oN _ _
 refine fw (.int .u64 ((dw (dw (dw (dw (dw (dw (dw (dw a.aU a.ax) a.bi) a.dW) a.bf) a.aK) a.dI) a.cZ) a.xN:Nat):Int)) (FV (e:=D3.wrap (((BitVec.ofInt 64 ((dw (dw (dw (dw (dw (dw (dw a.aU a.ax) a.bi) a.dW) a.bf) a.aK) a.dI) a.cZ:Nat):Int) ||| BitVec.ofInt 64 ((a.xN:Nat):Int)).toNat:Nat):Int)) yk (fC _)) (Ar rfl (Kz (vP d 18) (Lz (.slice l a.aG.ls.length m) b 0 Tryz.isAgg39 (Kz (vJ a.aG.ls.length) (Kz (vP d 19) (Lz (.slice n a.ah.ls.length o) b 0 Tryz.isAgg40 (Kz (vJ a.ah.ls.length) (fw (vJ (a.aG.ls.length+a.ah.ls.length)) (FV (e:=C7.wrap (((a.aG.ls.length:Nat):Int)+((a.ah.ls.length:Nat):Int))) yk f1) (Kz (vP d 20) (Lz (.slice p a.ag.ls.length q) b 0 Tryz.isAgg29 (Kz (vJ a.ag.ls.length) (fw (vJ ((a.aG.ls.length+a.ah.ls.length)+a.ag.ls.length)) (FV (e:=C7.wrap (((a.aG.ls.length+a.ah.ls.length:Nat):Int)+((a.ag.ls.length:Nat):Int))) yk f1) (Ar rfl (Mz rfl (Kz (.bool (decide (((dw (dw (dw (dw (dw (dw (dw (dw a.aU a.ax) a.bi) a.dW) a.bf) a.aK) a.dI) a.cZ) a.xN:Nat):Int)=0))) (Mz rfl ?_))))))))))))))))
 by_cases g:((dw (dw (dw (dw (dw (dw (dw (dw a.aU a.ax) a.bi) a.dW) a.bf) a.aK) a.dI) a.cZ) a.xN:Nat):Int)=0
 refine gw (vJ ((a.aG.ls.length+a.ah.ls.length)+a.ag.ls.length)) (dT g) (F7 rfl) (Gz (.bool (decide ((((a.aG.ls.length+a.ah.ls.length)+a.ag.ls.length:Nat):Int)=0))) (dT g) (fw (.bool (decide ((((a.aG.ls.length+a.ah.ls.length)+a.ag.ls.length:Nat):Int)=0))) (Gb rfl (dT g) rfl) (Mz rfl ?_)))
 by_cases f:(((a.aG.ls.length+a.ah.ls.length)+a.ag.ls.length:Nat):Int)=0
 refine Gz (vP d 3) (dT f) (Gl (vI a.aS) (dT f) b 0 C6 (Gz (.bool (decide (a.aS=0))) (dT f) (fw (.bool (decide (a.aS=0))) (Gb rfl (dT f) rfl) (Mz rfl ?_))))
 by_cases h:a.aS=0
 refine Gz (vP d 4) (dT h) (Gl (vI a.dz) (dT h) b 0 C6 (Gz (.bool (decide (a.dz=0))) (dT h) (fw (.bool (decide (a.dz=0))) (Gb rfl (dT h) rfl) (Mz rfl ?_))))
 by_cases j:a.dz=0
 refine Gz (vP d 5) (dT j) (Gl (vI a.eu) (dT j) b 0 C6 (Gz (.bool (decide (a.eu=0))) (dT j) (fw (.bool (decide (a.eu=0))) (Gb rfl (dT j) rfl) (Mz rfl ?_))))
 by_cases k:a.eu=0
 refine Gz (vP d 15) (dT k) (Gl (.bool a.d9) (dT k) b 0 M3 (Gz (.bool (!a.d9)) (dT k) (fw (.bool (!a.d9)) (Gb rfl (dT k) rfl) (Mz rfl ?_))))
 rcases JQ (a.d9) with i | i
 refine Sz (cn i) (Sz (cn i) (Sz (cn i) (Sz (cn i) (fw (.bool false) (FX rfl (cn i) rfl) (An rfl (rt (rs ?_)))))))
 have O:=b.pk []
 obtain rfl:_=false:=hr.symm.trans (et (ip g) (et (ip f) (et (ip h) (et (ip j) (et (ip k) (ip i))))))
 exact⟨rfl,O⟩
 refine Gz (vP d 16) (cn i) (Ga (bL.cells a.bV) (cn i) b 0 L7 L6 (Gz (.agg #[.string ⟨y6 ([])⟩, .string ⟨y6 ([])⟩]) (cn i) (gw (.bool (decide ((a.bV.bK=([]))∧(a.bV.bW=([]))))) (cn i) (Ji rfl rfl e7 rfl (jR.struct Tryz.underlying38 e7 (jr.dec (jr.cons (u:= .string ⟨y6 a.bV.bK⟩) (v:= .string ⟨y6 ([])⟩) f3 (fun _=>by kernel_rfl) (fun _=>by kernel_rfl) (jR.string B5) (jr.cons (u:= .string ⟨y6 a.bV.bW⟩) (v:= .string ⟨y6 ([])⟩) f3 (fun _=>by kernel_rfl) (fun _=>by kernel_rfl) (jR.string B5) (jr.nil.up (JO _)))) ((congrArg (decide (a.bV.bK=([])) && ·) qM).trans iZ)))) (fw (.bool (decide ((a.bV.bK=([]))∧(a.bV.bW=([]))))) (Gb rfl (cn i) rfl) (An rfl (rt (rs ?_)))))))
 have P:=b.pk []
 obtain rfl:_=decide ((a.bV.bK=([]))∧(a.bV.bW=([]))):=hr.symm.trans (et (ip g) (et (ip f) (et (ip h) (et (ip j) (et (ip k) (gB i))))))
 exact⟨rfl,P⟩
 refine Sz (dF k) (Sz (dF k) (Sz (dF k) (fw (.bool false) (FX rfl (dF k) rfl) (Mz rfl (Sz rfl (Sz rfl (Sz rfl (Sz rfl (fw (.bool false) (FX rfl rfl rfl) (An rfl (rt (rs ?_))))))))))))
 have Q:=b.pk []
 obtain rfl:_=false:=hr.symm.trans (et (ip g) (et (ip f) (et (ip h) (et (ip j) (iN k)))))
 exact⟨rfl,Q⟩
 refine Sz (dF j) (Sz (dF j) (Sz (dF j) (fw (.bool false) (FX rfl (dF j) rfl) (Mz rfl (Sz rfl (Sz rfl (Sz rfl (fw (.bool false) (FX rfl rfl rfl) (Mz rfl (Sz rfl (Sz rfl (Sz rfl (Sz rfl (fw (.bool false) (FX rfl rfl rfl) (An rfl (rt (rs ?_)))))))))))))))))
 have R:=b.pk []
 obtain rfl:_=false:=hr.symm.trans (et (ip g) (et (ip f) (et (ip h) (iN j))))
 exact⟨rfl,R⟩
 refine Sz (dF h) (Sz (dF h) (Sz (dF h) (fw (.bool false) (FX rfl (dF h) rfl) (Mz rfl (Sz rfl (Sz rfl (Sz rfl (fw (.bool false) (FX rfl rfl rfl) (Mz rfl (Sz rfl (Sz rfl (Sz rfl (fw (.bool false) (FX rfl rfl rfl) (Mz rfl (Sz rfl (Sz rfl (Sz rfl (Sz rfl (fw (.bool false) (FX rfl rfl rfl) (An rfl (rt (rs ?_))))))))))))))))))))))
 have S:=b.pk []
 obtain rfl:_=false:=hr.symm.trans (et (ip g) (et (ip f) (iN h)))
 exact⟨rfl,S⟩
 refine Sz (dF f) (Sz (dF f) (Sz (dF f) (fw (.bool false) (FX rfl (dF f) rfl) (Mz rfl (Sz rfl (Sz rfl (Sz rfl (fw (.bool false) (FX rfl rfl rfl) (Mz rfl (Sz rfl (Sz rfl (Sz rfl (fw (.bool false) (FX rfl rfl rfl) (Mz rfl (Sz rfl (Sz rfl (Sz rfl (fw (.bool false) (FX rfl rfl rfl) (Mz rfl (Sz rfl (Sz rfl (Sz rfl (Sz rfl (fw (.bool false) (FX rfl rfl rfl) (An rfl (rt (rs ?_)))))))))))))))))))))))))))
 have T:=b.pk []
 obtain rfl:_=false:=hr.symm.trans (et (ip g) (iN f))
 exact⟨rfl,T⟩
 refine Sz (dF g) (Sz (dF g) (fw (.bool false) (FX rfl (dF g) rfl) (Mz rfl (Sz rfl (Sz rfl (Sz rfl (fw (.bool false) (FX rfl rfl rfl) (Mz rfl (Sz rfl (Sz rfl (Sz rfl (fw (.bool false) (FX rfl rfl rfl) (Mz rfl (Sz rfl (Sz rfl (Sz rfl (fw (.bool false) (FX rfl rfl rfl) (Mz rfl (Sz rfl (Sz rfl (Sz rfl (fw (.bool false) (FX rfl rfl rfl) (Mz rfl (Sz rfl (Sz rfl (Sz rfl (Sz rfl (fw (.bool false) (FX rfl rfl rfl) (An rfl (rt (rs ?_)))))))))))))))))))))))))))))))
 have U:=b.pk []
 obtain rfl:_=false:=hr.symm.trans (iN g)
 exact⟨rfl,U⟩
end Go.Proofs.YtbkagebjhbphaaaGreat
