/-
 wire: which messages may be.
-/
import Derived.Test.YtbkagebjhbphaaaGreatRa
namespace Go.Proofs.YtbkagebjhbphaaaGreat
open Int renaming toNat→D0
open IntKind renaming i64→C5,u64→D1
open List renaming drop→r3,flatMap→q3,map→s5,mem_of_getElem?→D3,toArray→v9
open Ll renaming mk→E2
open Sum renaming inl→B9,inr→C1
open _root_.Go.Proofs.Tryz renaming call112→L9,call139→N2,call158→M8,func158→M0,isAgg111→N1,isAgg128→L8,isAgg227→M9,isAgg231→M2,isAgg28→D4,isAgg3→C4,isAgg38→M7,isAgg4→N3,isAgg72→M5,isAgg9→C2,prog→v8,sizeOf128→L7,sizeOf231→M3,sizeOf244→M1,sizeOf38→M6,sizeOf72→M4,underlying3→B1,underlying72→N0,underlying9→B3
open WL renaming nil→C6
open Wp renaming exit→C7,loop→C3
set_option maxRecDepth 100000
open Go.RowKit
set_option linter.unusedVariables false
set_option linter.unusedSectionVars false
set_option linter.unusedSimpArgs false
def pu (a:Int):gZ × Bool:=
 if a≤0 then(gZ.mk 0 0 (E2 ([])),false) else if a ≥ 15 then(gZ.mk 0 0 (E2 ([])),false) else if((D0 a:Nat):Int)=1 then(gZ.mk 2 0 (E2 ([0,1,7])),true) else if((D0 a:Nat):Int)=2 then(gZ.mk 0 2 (E2 ([0,1,2,3])),true) else if((D0 a:Nat):Int)=3 then(gZ.mk 0 1 (E2 ([4,5,6,7])),true) else if((D0 a:Nat):Int)=4 then(gZ.mk 1 0 (E2 ([4,2,3])),true) else if((D0 a:Nat):Int)=5 then(gZ.mk 0 1 (E2 ([4,8])),true) else if((D0 a:Nat):Int)=6 then(gZ.mk 1 0 (E2 ([4])),true) else if((D0 a:Nat):Int)=7 then(gZ.mk 1 0 (E2 ([4])),true) else if((D0 a:Nat):Int)=8 then(gZ.mk 0 1 (E2 ([9,6,10,11])),true) else if((D0 a:Nat):Int)=9 then(gZ.mk 1 0 (E2 ([9])),true) else if((D0 a:Nat):Int)=10 then(gZ.mk 0 1 (E2 ([9,10,12,8,13])),true) else if((D0 a:Nat):Int)=11 then(gZ.mk 1 1 (E2 ([10,14,15,13,7])),true) else if((D0 a:Nat):Int)=12 then(gZ.mk 1 1 (E2 ([10,14,15])),true) else if((D0 a:Nat):Int)=13 then(gZ.mk 1 0 (E2 ([10])),true) else(gZ.mk 1 0 (E2 ([10])),true)
theorem xL (w D c) (r0:gZ) (r1) (H:Own w D w []) (hr:pu c=(r0,r1)):
    Calls v8 49 #[vI c] w (d9 fun v w'=> ∃ O P,v= .tuple #[.agg #[vI r0.mG,vI r0.pM, .slice O r0.cK.ls.length P], .bool r1]∧Own w D w' [row O r0.cK.ls.length P (q3 (eI .i64) r0.cK.ls) 154 1]∧(r0.cK.ls.length≤5)):=by
 refine cb Tryz.func49 ?_
 refine sr ?_
 refine dV [vI 0,vI 0, .slice none 0 0] 128 H ?_
 intro cu cz bu
 refine Ar rfl ?_
 refine lg [vI 0,vI 1,vI 7] 154 1 3 bu ?_
 intro s cB ag
 replace ag:=IL (y:=row s 3 3 (q3 (eI .i64) ([0,1,7])) 154 1) rfl ag
 refine Kz (.agg #[vI 2,vI 0, .slice s 3 3]) ?_
 refine lg [vI 0,vI 1,vI 2,vI 3] 154 1 4 ag ?_
 intro t cK ah
 replace ah:=IL (y:=row t 4 4 (q3 (eI .i64) ([0,1,2,3])) 154 1) rfl ah
 refine Kz (.agg #[vI 0,vI 2, .slice t 4 4]) ?_
 refine lg [vI 4,vI 5,vI 6,vI 7] 154 1 4 ah ?_
 intro u cO ai
 replace ai:=IL (y:=row u 4 4 (q3 (eI .i64) ([4,5,6,7])) 154 1) rfl ai
 refine Kz (.agg #[vI 0,vI 1, .slice u 4 4]) ?_
 refine lg [vI 4,vI 2,vI 3] 154 1 3 ai ?_
 intro x cZ aj
 replace aj:=IL (y:=row x 3 3 (q3 (eI .i64) ([4,2,3])) 154 1) rfl aj
 refine Kz (.agg #[vI 1,vI 0, .slice x 3 3]) ?_
 refine lg [vI 4,vI 8] 154 1 2 aj ?_
 intro z df ak
 replace ak:=IL (y:=row z 2 2 (q3 (eI .i64) ([4,8])) 154 1) rfl ak
 refine Kz (.agg #[vI 0,vI 1, .slice z 2 2]) ?_
 refine lg [vI 4] 154 1 1 ak ?_
 intro A dh au
 replace au:=IL (y:=row A 1 1 (q3 (eI .i64) ([4])) 154 1) rfl au
 refine Kz (.agg #[vI 1,vI 0, .slice A 1 1]) ?_
 refine lg [vI 4] 154 1 1 au ?_
 intro B di av
 replace av:=IL (y:=row B 1 1 (q3 (eI .i64) ([4])) 154 1) rfl av
 refine Kz (.agg #[vI 1,vI 0, .slice B 1 1]) ?_
 refine lg [vI 9,vI 6,vI 10,vI 11] 154 1 4 av ?_
 intro C dm ax
 replace ax:=IL (y:=row C 4 4 (q3 (eI .i64) ([9,6,10,11])) 154 1) rfl ax
 refine Kz (.agg #[vI 0,vI 1, .slice C 4 4]) ?_
 refine lg [vI 9] 154 1 1 ax ?_
 intro E dn ay
 replace ay:=IL (y:=row E 1 1 (q3 (eI .i64) ([9])) 154 1) rfl ay
 refine Kz (.agg #[vI 1,vI 0, .slice E 1 1]) ?_
 refine lg [vI 9,vI 10,vI 12,vI 8,vI 13] 154 1 5 ay ?_
 intro F dw az
 replace az:=IL (y:=row F 5 5 (q3 (eI .i64) ([9,10,12,8,13])) 154 1) rfl az
 refine Kz (.agg #[vI 0,vI 1, .slice F 5 5]) ?_
 refine lg [vI 10,vI 14,vI 15,vI 13,vI 7] 154 1 5 az ?_
 intro G dx aA
 replace aA:=IL (y:=row G 5 5 (q3 (eI .i64) ([10,14,15,13,7])) 154 1) rfl aA
 refine Kz (.agg #[vI 1,vI 1, .slice G 5 5]) ?_
 refine lg [vI 10,vI 14,vI 15] 154 1 3 aA ?_
 intro I dz aB
 replace aB:=IL (y:=row I 3 3 (q3 (eI .i64) ([10,14,15])) 154 1) rfl aB
 refine Kz (.agg #[vI 1,vI 1, .slice I 3 3]) ?_
 refine lg [vI 10] 154 1 1 aB ?_
 intro J dA aC
 replace aC:=IL (y:=row J 1 1 (q3 (eI .i64) ([10])) 154 1) rfl aC
 refine Kz (.agg #[vI 1,vI 0, .slice J 1 1]) ?_
 refine lg [vI 10] 154 1 1 aC ?_
 intro K dB aD
 replace aD:=IL (y:=row K 1 1 (q3 (eI .i64) ([10])) 154 1) rfl aD
 refine Kz (.agg #[vI 1,vI 0, .slice K 1 1]) (Kz (.agg #[vI 0,vI 0, .slice none 0 0,vI 2,vI 0, .slice s 3 3,vI 0,vI 2, .slice t 4 4,vI 0,vI 1, .slice u 4 4,vI 1,vI 0, .slice x 3 3,vI 0,vI 1, .slice z 2 2,vI 1,vI 0, .slice A 1 1,vI 1,vI 0, .slice B 1 1,vI 0,vI 1, .slice C 4 4,vI 1,vI 0, .slice E 1 1,vI 0,vI 1, .slice F 5 5,vI 1,vI 1, .slice G 5 5,vI 1,vI 1, .slice I 3 3,vI 1,vI 0, .slice J 1 1,vI 1,vI 0, .slice K 1 1]) ?_)
 refine dV [vI 0,vI 0, .slice none 0 0,vI 0,vI 0, .slice none 0 0,vI 0,vI 0, .slice none 0 0,vI 0,vI 0, .slice none 0 0,vI 0,vI 0, .slice none 0 0,vI 0,vI 0, .slice none 0 0,vI 0,vI 0, .slice none 0 0,vI 0,vI 0, .slice none 0 0,vI 0,vI 0, .slice none 0 0,vI 0,vI 0, .slice none 0 0,vI 0,vI 0, .slice none 0 0,vI 0,vI 0, .slice none 0 0,vI 0,vI 0, .slice none 0 0,vI 0,vI 0, .slice none 0 0,vI 0,vI 0, .slice none 0 0] 155 aD ?_
 intro g dC bv
 refine dS [vI 0,vI 0, .slice none 0 0,vI 2,vI 0, .slice s 3 3,vI 0,vI 2, .slice t 4 4,vI 0,vI 1, .slice u 4 4,vI 1,vI 0, .slice x 3 3,vI 0,vI 1, .slice z 2 2,vI 1,vI 0, .slice A 1 1,vI 1,vI 0, .slice B 1 1,vI 0,vI 1, .slice C 4 4,vI 1,vI 0, .slice E 1 1,vI 0,vI 1, .slice F 5 5,vI 1,vI 1, .slice G 5 5,vI 1,vI 1, .slice I 3 3,vI 1,vI 0, .slice J 1 1,vI 1,vI 0, .slice K 1 1] 0 bv Tryz.sizeOf155 ?_
 intro dD a
 refine nt (Ic (sr (Mz rfl (Kz (.bool (decide (c≤0))) (Mz rfl ?_)))))
 by_cases b:c≤0
 refine Sz (dT b) (Sz (dT b) (fw (.bool true) (Iw rfl (dT b) rfl) (nt (jt (sr (Kz (.agg #[vI 0,vI 0, .slice none 0 0]) ?_))))))
 have bz:=a.pf [15]
 refine dS [vI 0,vI 0, .slice none 0 0] 0 bz L7 ?_
 intro bA aF
 refine An rfl (rt (tR (Fin.res (kS (vs:= [.agg #[vI 0,vI 0, .slice none 0 0], .bool false]) rfl (eu.cell rfl (Iy (cs:= [vI 0,vI 0, .slice none 0 0]) L8 L7 ((aF.cls (i:=0) rfl).lit (k:=0) (m:=3) rfl)) (eu.tmp rfl eu.nil)) (Le rfl)) ?_)))
 have bB:Own w D bA (row none 0 0 (q3 (eI .i64) ([])) 154 1::_):=aF.free (eZ 154 1)
 have bC:=bB.pk [0]
 obtain⟨rfl,rfl⟩:=ic (hr.symm.trans (show _=(gZ.mk 0 0 (E2 ([])),false) from ip b))
 exact⟨none,0,rfl,bC,i0⟩
 refine gw (vI c) (dF b) (Iq rfl) (Gz (.bool (decide (c ≥ 15))) (dF b) (fw (.bool (decide (c ≥ 15))) (Ih rfl (dF b) rfl) (nt ?_)))
 by_cases d:c ≥ 15
 refine jT (dT d) (sr (Kz (.agg #[vI 0,vI 0, .slice none 0 0]) ?_))
 have bD:=a.pf [15]
 refine dS [vI 0,vI 0, .slice none 0 0] 0 bD L7 ?_
 intro bE aG
 refine An rfl (rt (tR (Fin.res (kS (vs:= [.agg #[vI 0,vI 0, .slice none 0 0], .bool false]) rfl (eu.cell rfl (Iy (cs:= [vI 0,vI 0, .slice none 0 0]) L8 L7 ((aG.cls (i:=0) rfl).lit (k:=0) (m:=3) rfl)) (eu.tmp rfl eu.nil)) (Le rfl)) ?_)))
 have bF:Own w D bE (row none 0 0 (q3 (eI .i64) ([])) 154 1::_):=aG.free (eZ 154 1)
 have bG:=bF.pk [0]
 obtain⟨rfl,rfl⟩:=ic (hr.symm.trans (show _=(gZ.mk 0 0 (E2 ([])),false) from et (iN b) (ip d)))
 exact⟨none,0,rfl,bG,i0⟩
 refine jF (dF d) (sk (sr (fw (vJ (D0 c)) (Ie (e:=c) (Iq rfl) e6) ?_)))
 by_cases h:((D0 c:Nat):Int)=1
 refine fw (vP g 3) (by(try unfold vJ); rw [show ((D0 c:Nat):Int)=1 from by omega]; exact yk) (La ([vI 2,vI 0, .slice s 3 3]) a 0 L8 L7 ?_)
 have bH:=a.pf [15]
 refine dS [vI 2,vI 0, .slice s 3 3] 0 bH L7 ?_
 intro dE aH
 refine An rfl (rt (Fin.res (kS (vs:= [.agg #[vI 2,vI 0, .slice s 3 3], .bool true]) rfl (eu.cell rfl (Iy (cs:= [vI 2,vI 0, .slice s 3 3]) L8 L7 ((aH.cls (i:=0) rfl).lit (k:=0) (m:=3) rfl)) (eu.tmp rfl eu.nil)) (Le rfl)) ?_))
 have bI:=aH.pk [15]
 obtain⟨rfl,rfl⟩:=ic (hr.symm.trans (show _=(gZ.mk 2 0 (E2 ([0,1,7])),true) from et (iN b) (et (iN d) (ip h))))
 exact⟨s,3,rfl,bI,i0⟩
 by_cases l:((D0 c:Nat):Int)=2
 refine fw (vP g 6) (by(try unfold vJ); rw [show ((D0 c:Nat):Int)=2 from by omega]; exact yk) (La ([vI 0,vI 2, .slice t 4 4]) a 0 L8 L7 ?_)
 have bJ:=a.pf [15]
 refine dS [vI 0,vI 2, .slice t 4 4] 0 bJ L7 ?_
 intro dG aI
 refine An rfl (rt (Fin.res (kS (vs:= [.agg #[vI 0,vI 2, .slice t 4 4], .bool true]) rfl (eu.cell rfl (Iy (cs:= [vI 0,vI 2, .slice t 4 4]) L8 L7 ((aI.cls (i:=0) rfl).lit (k:=0) (m:=3) rfl)) (eu.tmp rfl eu.nil)) (Le rfl)) ?_))
 have bK:=aI.pk [14]
 obtain⟨rfl,rfl⟩:=ic (hr.symm.trans (show _=(gZ.mk 0 2 (E2 ([0,1,2,3])),true) from et (iN b) (et (iN d) (et (iN h) (ip l)))))
 exact⟨t,4,rfl,bK,i0⟩
 by_cases o:((D0 c:Nat):Int)=3
 refine fw (vP g 9) (by(try unfold vJ); rw [show ((D0 c:Nat):Int)=3 from by omega]; exact yk) (La ([vI 0,vI 1, .slice u 4 4]) a 0 L8 L7 ?_)
 have bL:=a.pf [15]
 refine dS [vI 0,vI 1, .slice u 4 4] 0 bL L7 ?_
 intro dH aJ
 refine An rfl (rt (Fin.res (kS (vs:= [.agg #[vI 0,vI 1, .slice u 4 4], .bool true]) rfl (eu.cell rfl (Iy (cs:= [vI 0,vI 1, .slice u 4 4]) L8 L7 ((aJ.cls (i:=0) rfl).lit (k:=0) (m:=3) rfl)) (eu.tmp rfl eu.nil)) (Le rfl)) ?_))
 have bM:=aJ.pk [13]
 obtain⟨rfl,rfl⟩:=ic (hr.symm.trans (show _=(gZ.mk 0 1 (E2 ([4,5,6,7])),true) from et (iN b) (et (iN d) (et (iN h) (et (iN l) (ip o))))))
 exact⟨u,4,rfl,bM,i0⟩
 by_cases p:((D0 c:Nat):Int)=4
 refine fw (vP g 12) (by(try unfold vJ); rw [show ((D0 c:Nat):Int)=4 from by omega]; exact yk) (La ([vI 1,vI 0, .slice x 3 3]) a 0 L8 L7 ?_)
 have bN:=a.pf [15]
 refine dS [vI 1,vI 0, .slice x 3 3] 0 bN L7 ?_
 intro bP Q
 refine An rfl (rt (Fin.res (kS (vs:= [.agg #[vI 1,vI 0, .slice x 3 3], .bool true]) rfl (eu.cell rfl (Iy (cs:= [vI 1,vI 0, .slice x 3 3]) L8 L7 ((Q.cls (i:=0) rfl).lit (k:=0) (m:=3) rfl)) (eu.tmp rfl eu.nil)) (Le rfl)) ?_))
 have aK:=Q.pk [12]
 obtain⟨rfl,rfl⟩:=ic (hr.symm.trans (show _=(gZ.mk 1 0 (E2 ([4,2,3])),true) from et (iN b) (et (iN d) (et (iN h) (et (iN l) (et (iN o) (ip p)))))))
 exact⟨x,3,rfl,aK,i0⟩
 by_cases f:((D0 c:Nat):Int)=5
 refine fw (vP g 15) (by(try unfold vJ); rw [show ((D0 c:Nat):Int)=5 from by omega]; exact yk) (La ([vI 0,vI 1, .slice z 2 2]) a 0 L8 L7 ?_)
 have aL:=a.pf [15]
 refine dS [vI 0,vI 1, .slice z 2 2] 0 aL L7 ?_
 intro bQ R
 refine An rfl (rt (Fin.res (kS (vs:= [.agg #[vI 0,vI 1, .slice z 2 2], .bool true]) rfl (eu.cell rfl (Iy (cs:= [vI 0,vI 1, .slice z 2 2]) L8 L7 ((R.cls (i:=0) rfl).lit (k:=0) (m:=3) rfl)) (eu.tmp rfl eu.nil)) (Le rfl)) ?_))
 have aM:=R.pk [11]
 obtain⟨rfl,rfl⟩:=ic (hr.symm.trans (show _=(gZ.mk 0 1 (E2 ([4,8])),true) from et (iN b) (et (iN d) (et (iN h) (et (iN l) (et (iN o) (et (iN p) (ip f))))))))
 exact⟨z,2,rfl,aM,i0⟩
 by_cases j:((D0 c:Nat):Int)=6
 refine fw (vP g 18) (by(try unfold vJ); rw [show ((D0 c:Nat):Int)=6 from by omega]; exact yk) (La ([vI 1,vI 0, .slice A 1 1]) a 0 L8 L7 ?_)
 have aN:=a.pf [15]
 refine dS [vI 1,vI 0, .slice A 1 1] 0 aN L7 ?_
 intro bR S
 refine An rfl (rt (Fin.res (kS (vs:= [.agg #[vI 1,vI 0, .slice A 1 1], .bool true]) rfl (eu.cell rfl (Iy (cs:= [vI 1,vI 0, .slice A 1 1]) L8 L7 ((S.cls (i:=0) rfl).lit (k:=0) (m:=3) rfl)) (eu.tmp rfl eu.nil)) (Le rfl)) ?_))
 have aO:=S.pk [10]
 obtain⟨rfl,rfl⟩:=ic (hr.symm.trans (show _=(gZ.mk 1 0 (E2 ([4])),true) from et (iN b) (et (iN d) (et (iN h) (et (iN l) (et (iN o) (et (iN p) (et (iN f) (ip j)))))))))
 exact⟨A,1,rfl,aO,i0⟩
 by_cases n:((D0 c:Nat):Int)=7
 refine fw (vP g 21) (by(try unfold vJ); rw [show ((D0 c:Nat):Int)=7 from by omega]; exact yk) (La ([vI 1,vI 0, .slice B 1 1]) a 0 L8 L7 ?_)
 have aP:=a.pf [15]
 refine dS [vI 1,vI 0, .slice B 1 1] 0 aP L7 ?_
 intro bS T
 refine An rfl (rt (Fin.res (kS (vs:= [.agg #[vI 1,vI 0, .slice B 1 1], .bool true]) rfl (eu.cell rfl (Iy (cs:= [vI 1,vI 0, .slice B 1 1]) L8 L7 ((T.cls (i:=0) rfl).lit (k:=0) (m:=3) rfl)) (eu.tmp rfl eu.nil)) (Le rfl)) ?_))
 have aQ:=T.pk [9]
 obtain⟨rfl,rfl⟩:=ic (hr.symm.trans (show _=(gZ.mk 1 0 (E2 ([4])),true) from et (iN b) (et (iN d) (et (iN h) (et (iN l) (et (iN o) (et (iN p) (et (iN f) (et (iN j) (ip n))))))))))
 exact⟨B,1,rfl,aQ,i0⟩
 by_cases q:((D0 c:Nat):Int)=8
 refine fw (vP g 24) (by(try unfold vJ); rw [show ((D0 c:Nat):Int)=8 from by omega]; exact yk) (La ([vI 0,vI 1, .slice C 4 4]) a 0 L8 L7 ?_)
 have aR:=a.pf [15]
 refine dS [vI 0,vI 1, .slice C 4 4] 0 aR L7 ?_
 intro bT U
 refine An rfl (rt (Fin.res (kS (vs:= [.agg #[vI 0,vI 1, .slice C 4 4], .bool true]) rfl (eu.cell rfl (Iy (cs:= [vI 0,vI 1, .slice C 4 4]) L8 L7 ((U.cls (i:=0) rfl).lit (k:=0) (m:=3) rfl)) (eu.tmp rfl eu.nil)) (Le rfl)) ?_))
 have aS:=U.pk [8]
 obtain⟨rfl,rfl⟩:=ic (hr.symm.trans (show _=(gZ.mk 0 1 (E2 ([9,6,10,11])),true) from et (iN b) (et (iN d) (et (iN h) (et (iN l) (et (iN o) (et (iN p) (et (iN f) (et (iN j) (et (iN n) (ip q)))))))))))
 exact⟨C,4,rfl,aS,i0⟩
 by_cases r:((D0 c:Nat):Int)=9
 refine fw (vP g 27) (by(try unfold vJ); rw [show ((D0 c:Nat):Int)=9 from by omega]; exact yk) (La ([vI 1,vI 0, .slice E 1 1]) a 0 L8 L7 ?_)
 have aT:=a.pf [15]
 refine dS [vI 1,vI 0, .slice E 1 1] 0 aT L7 ?_
 intro bU V
 refine An rfl (rt (Fin.res (kS (vs:= [.agg #[vI 1,vI 0, .slice E 1 1], .bool true]) rfl (eu.cell rfl (Iy (cs:= [vI 1,vI 0, .slice E 1 1]) L8 L7 ((V.cls (i:=0) rfl).lit (k:=0) (m:=3) rfl)) (eu.tmp rfl eu.nil)) (Le rfl)) ?_))
 have aU:=V.pk [7]
 obtain⟨rfl,rfl⟩:=ic (hr.symm.trans (show _=(gZ.mk 1 0 (E2 ([9])),true) from et (iN b) (et (iN d) (et (iN h) (et (iN l) (et (iN o) (et (iN p) (et (iN f) (et (iN j) (et (iN n) (et (iN q) (ip r))))))))))))
 exact⟨E,1,rfl,aU,i0⟩
 by_cases L:((D0 c:Nat):Int)=10
 refine fw (vP g 30) (by(try unfold vJ); rw [show ((D0 c:Nat):Int)=10 from by omega]; exact yk) (La ([vI 0,vI 1, .slice F 5 5]) a 0 L8 L7 ?_)
 have aV:=a.pf [15]
 refine dS [vI 0,vI 1, .slice F 5 5] 0 aV L7 ?_
 intro bV W
 refine An rfl (rt (Fin.res (kS (vs:= [.agg #[vI 0,vI 1, .slice F 5 5], .bool true]) rfl (eu.cell rfl (Iy (cs:= [vI 0,vI 1, .slice F 5 5]) L8 L7 ((W.cls (i:=0) rfl).lit (k:=0) (m:=3) rfl)) (eu.tmp rfl eu.nil)) (Le rfl)) ?_))
 have aW:=W.pk [6]
 obtain⟨rfl,rfl⟩:=ic (hr.symm.trans (show _=(gZ.mk 0 1 (E2 ([9,10,12,8,13])),true) from et (iN b) (et (iN d) (et (iN h) (et (iN l) (et (iN o) (et (iN p) (et (iN f) (et (iN j) (et (iN n) (et (iN q) (et (iN r) (ip L)))))))))))))
 exact⟨F,5,rfl,aW,i0⟩
 by_cases M:((D0 c:Nat):Int)=11
 refine fw (vP g 33) (by(try unfold vJ); rw [show ((D0 c:Nat):Int)=11 from by omega]; exact yk) (La ([vI 1,vI 1, .slice G 5 5]) a 0 L8 L7 ?_)
 have aX:=a.pf [15]
 refine dS [vI 1,vI 1, .slice G 5 5] 0 aX L7 ?_
 intro bW X
 refine An rfl (rt (Fin.res (kS (vs:= [.agg #[vI 1,vI 1, .slice G 5 5], .bool true]) rfl (eu.cell rfl (Iy (cs:= [vI 1,vI 1, .slice G 5 5]) L8 L7 ((X.cls (i:=0) rfl).lit (k:=0) (m:=3) rfl)) (eu.tmp rfl eu.nil)) (Le rfl)) ?_))
 have aY:=X.pk [5]
 obtain⟨rfl,rfl⟩:=ic (hr.symm.trans (show _=(gZ.mk 1 1 (E2 ([10,14,15,13,7])),true) from et (iN b) (et (iN d) (et (iN h) (et (iN l) (et (iN o) (et (iN p) (et (iN f) (et (iN j) (et (iN n) (et (iN q) (et (iN r) (et (iN L) (ip M))))))))))))))
 exact⟨G,5,rfl,aY,i0⟩
 by_cases N:((D0 c:Nat):Int)=12
 refine fw (vP g 36) (by(try unfold vJ); rw [show ((D0 c:Nat):Int)=12 from by omega]; exact yk) (La ([vI 1,vI 1, .slice I 3 3]) a 0 L8 L7 ?_)
 have aZ:=a.pf [15]
 refine dS [vI 1,vI 1, .slice I 3 3] 0 aZ L7 ?_
 intro bX Y
 refine An rfl (rt (Fin.res (kS (vs:= [.agg #[vI 1,vI 1, .slice I 3 3], .bool true]) rfl (eu.cell rfl (Iy (cs:= [vI 1,vI 1, .slice I 3 3]) L8 L7 ((Y.cls (i:=0) rfl).lit (k:=0) (m:=3) rfl)) (eu.tmp rfl eu.nil)) (Le rfl)) ?_))
 have bf:=Y.pk [4]
 obtain⟨rfl,rfl⟩:=ic (hr.symm.trans (show _=(gZ.mk 1 1 (E2 ([10,14,15])),true) from et (iN b) (et (iN d) (et (iN h) (et (iN l) (et (iN o) (et (iN p) (et (iN f) (et (iN j) (et (iN n) (et (iN q) (et (iN r) (et (iN L) (et (iN M) (ip N)))))))))))))))
 exact⟨I,3,rfl,bf,i0⟩
 by_cases Z:((D0 c:Nat):Int)=13
 refine fw (vP g 39) (by(try unfold vJ); rw [show ((D0 c:Nat):Int)=13 from by omega]; exact yk) (La ([vI 1,vI 0, .slice J 1 1]) a 0 L8 L7 ?_)
 have bg:=a.pf [15]
 refine dS [vI 1,vI 0, .slice J 1 1] 0 bg L7 ?_
 intro bY aa
 refine An rfl (rt (Fin.res (kS (vs:= [.agg #[vI 1,vI 0, .slice J 1 1], .bool true]) rfl (eu.cell rfl (Iy (cs:= [vI 1,vI 0, .slice J 1 1]) L8 L7 ((aa.cls (i:=0) rfl).lit (k:=0) (m:=3) rfl)) (eu.tmp rfl eu.nil)) (Le rfl)) ?_))
 have bi:=aa.pk [3]
 obtain⟨rfl,rfl⟩:=ic (hr.symm.trans (show _=(gZ.mk 1 0 (E2 ([10])),true) from et (iN b) (et (iN d) (et (iN h) (et (iN l) (et (iN o) (et (iN p) (et (iN f) (et (iN j) (et (iN n) (et (iN q) (et (iN r) (et (iN L) (et (iN M) (et (iN N) (ip Z))))))))))))))))
 exact⟨J,1,rfl,bi,i0⟩
 refine fw (vP g 42) (by(try unfold vJ); rw [show ((D0 c:Nat):Int)=14 from by omega]; exact yk) (La ([vI 1,vI 0, .slice K 1 1]) a 0 L8 L7 ?_)
 have bn:=a.pf [15]
 refine dS [vI 1,vI 0, .slice K 1 1] 0 bn L7 ?_
 intro bZ ae
 refine An rfl (rt (Fin.res (kS (vs:= [.agg #[vI 1,vI 0, .slice K 1 1], .bool true]) rfl (eu.cell rfl (Iy (cs:= [vI 1,vI 0, .slice K 1 1]) L8 L7 ((ae.cls (i:=0) rfl).lit (k:=0) (m:=3) rfl)) (eu.tmp rfl eu.nil)) (Le rfl)) ?_))
 have bq:=ae.pk [2]
 obtain⟨rfl,rfl⟩:=ic (hr.symm.trans (show _=(gZ.mk 1 0 (E2 ([10])),true) from et (iN b) (et (iN d) (et (iN h) (et (iN l) (et (iN o) (et (iN p) (et (iN f) (et (iN j) (et (iN n) (et (iN q) (et (iN r) (et (iN L) (et (iN M) (et (iN N) (iN Z))))))))))))))))
 exact⟨K,1,rfl,bq,i0⟩
def tL (b:Int) (a:Int):Bool:=
 if b=2 then if a=1 then true else decide (a=2) else if a=3 then true else if a=4 then true else decide (a=5)
theorem yl (w D f b l) (H:Own w D w []) (hr:tL f b=l):
    Calls v8 113 #[vI f,vI b] w (d9 fun v w'=>v= .bool l∧Own w D w' []):=by
 refine cb Tryz.func113 ?_
 refine sr (An rfl (Ic (sr (Mz rfl (Kz (.bool (decide (f=2))) (nt ?_))))))
 by_cases e:f=2
 refine jT (dT e) (sr (Mz rfl (Kz (.bool (decide (b=1))) (Mz rfl ?_))))
 by_cases c:b=1
 refine Sz (dT c) (Sz (dT c) (fw (.bool true) (Iw rfl (dT c) rfl) (An rfl (rt (tR (rs ?_))))))
 have g:=H.pk []
 obtain rfl:_=true:=hr.symm.trans (et (ip e) (ip c))
 exact⟨rfl,g⟩
 refine gw (vI b) (dF c) (Iq rfl) (Gz (.bool (decide (b=2))) (dF c) (fw (.bool (decide (b=2))) (Ih rfl (dF c) rfl) (An rfl (rt (tR (rs ?_))))))
 have h:=H.pk []
 obtain rfl:_=decide (b=2):=hr.symm.trans (et (ip e) (iN c))
 exact⟨rfl,h⟩
 refine jF (dF e) (sk (sr (Mz rfl (Kz (.bool (decide (b=3))) (Mz rfl ?_)))))
 by_cases a:b=3
 refine Sz (dT a) (Sz (dT a) (fw (.bool true) (Iw rfl (dT a) rfl) (Mz rfl (Sz rfl (Sz rfl (fw (.bool true) (Iw rfl rfl rfl) (An rfl (rt (rs ?_)))))))))
 have i:=H.pk []
 obtain rfl:_=true:=hr.symm.trans (et (iN e) (ip a))
 exact⟨rfl,i⟩
 refine gw (vI b) (dF a) (Iq rfl) (Gz (.bool (decide (b=4))) (dF a) (fw (.bool (decide (b=4))) (Ih rfl (dF a) rfl) (Mz rfl ?_)))
 by_cases d:b=4
 refine Sz (dT d) (Sz (dT d) (fw (.bool true) (Iw rfl (dT d) rfl) (An rfl (rt (rs ?_)))))
 have j:=H.pk []
 obtain rfl:_=true:=hr.symm.trans (et (iN e) (et (iN a) (ip d)))
 exact⟨rfl,j⟩
 refine gw (vI b) (dF d) (Iq rfl) (Gz (.bool (decide (b=5))) (dF d) (fw (.bool (decide (b=5))) (Ih rfl (dF d) rfl) (An rfl (rt (rs ?_)))))
 have k:=H.pk []
 obtain rfl:_=decide (b=5):=hr.symm.trans (et (iN e) (et (iN a) (iN d)))
 exact⟨rfl,k⟩
def iq:List aI→Unit ⊕ Bool
  | []=>B9 ()
  | a::c=>bnd (ib a.bY) fun b=>if b=0 then if((a.aT.length:Nat):Int) > 16 then C1 (false) else iq c else C1 (false)
def gY:List aQ→Unit ⊕ Bool
  | []=>B9 ()
  | a::b=>if((a.aT.length:Nat):Int) > 16 then C1 (false) else if((a.ak.ls.length:Nat):Int) > 4 then C1 (false) else qU (iq a.ak.ls) fun _=>gY b
def og (a:Int) (l1:List aQ):Bool:=
 bnd (if a=2 then 4 else 24) fun sJrJ=>if((l1.length:Nat):Int) > ((sJrJ:Nat):Int) then false else lp (gY l1) fun _=>true
theorem wB (w D R r n1 c1 d1 l1 r0) (H:Own w D w []) (S:s5 ae.abs d1=l1) (Q:Ro w D fun w'=>bE w' 3 r n1 (q3 ae.cells d1)) (J:∀ x ∈ d1,Ro w D (fun w'=>bE w' 2 x.ak.A x.ak.ls.length (q3 aI.cells x.ak.ls))∧(x.ak.ls.length≤x.ak.c∧x.ak.ls.length≤9223372036854775807)) (az:n1=l1.length) (bq:l1.length≤9223372036854775807) (hr:og R l1=r0):
    Calls v8 114 #[vI R, .slice r n1 c1] w (d9 fun v w'=>v= .bool r0∧Own w D w' []):=by
 subst az
 have aV:=aB S
 refine cb Tryz.func114 ?_
 refine sr (Ar rfl (An rfl (Ic (sr (Mz rfl (Kz (.bool (decide (R=2))) (nt ?_)))))))
 obtain⟨aA,B⟩:=nQ fun (n:Nat) w'=>Own w D w' []∧n≤9223372036854775807∧n ≥ 4∧n≤24∧(if R=2 then 4 else 24)=n
 refine IZ (fun i:Nat=> [(5,vJ i),(4, .bool false),(1, .slice r l1.length c1)]) aA ?_ ?_
 by_cases K:R=2
 refine jT (dT K) (Ib (Az rfl (C6 ?_)))
 have aC:=H.pk []
 exact IQ 4 ⟨rfl,rfl,rfl,trivial⟩ (B.2 ⟨aC,e6,e6,e6,ip K⟩)
 refine jF (dF K) (IE ?_)
 have aD:=H.pk []
 exact IQ 24 ⟨rfl,rfl,rfl,trivial⟩ (B.2 ⟨aD,e6,e6,e6,iN K⟩)
 rintro n bu T
 obtain⟨U,aW,aX,aY,k⟩:=B.1 T
 refine Ic (sr (Mz rfl (Kz (vJ l1.length) (Mz rfl (Kz (.bool (decide (((l1.length:Nat):Int) > ((n:Nat):Int)))) (nt ?_))))))
 by_cases o:((l1.length:Nat):Int) > ((n:Nat):Int)
 refine jT (dT o) (sr (An rfl (rt (tR (rs ?_)))))
 have aF:=U.pk []
 obtain rfl:_=false:=hr.symm.trans (et (ah k) (ip o))
 exact⟨rfl,aF⟩
 refine jF (dF o) (sk (Ic (sr (Mz rfl (Kz (vJ l1.length) (Mn rfl (bo ?_)))))))
 have aG:=U.pk []
 obtain⟨aH,C⟩:=nQ fun (b:Nat) w'=>Own w D w' []∧b≤l1.length∧gY l1=gY (r3 b l1)
 refine C3 (fun i:Nat=> [(4, .bool false),(18,vJ i),(17,vJ l1.length),(16, .slice r l1.length c1)]) aH (fun i=>l1.length - i) 0 ⟨rfl,rfl,rfl,rfl,trivial⟩ (C.2 ⟨aG,e6,rfl⟩) ?_
 rintro b bv V
 obtain⟨E,aZ,l⟩:=C.1 V
 refine sr (Kz (.bool (decide (((b:Nat):Int) < ((l1.length:Nat):Int)))) (nt (Ic ?_)))
 by_cases W:((b:Nat):Int) < ((l1.length:Nat):Int)
 obtain⟨a,m⟩:=dN (ls:=d1) (i:=b) ae.len f4 (E.ro Q) e9
 have X:=fF S m
 have bf:=(J _ (D3 m)).2
 have p:=drop_at X
 refine jT (dT W) (sk (Ic (bo (sr (fw (.pointer (some ⟨ab r,ao r+b *3,none⟩)) (Ij (sI) rfl rfl ((E.ro Q).addr (i:=b) e6) e6) (fw (.agg (ae.cells a).toArray) (Io rfl (Iy (cs:=(ae.cells a)) Tryz.isAgg149 Tryz.sizeOf149 ((E.ro Q).elem ae.len m f4))) ?_))))))
 refine dV [.bool false, .string ⟨v9 ([])⟩, .slice none 0 0] 149 E ?_
 intro j bz aJ
 refine dS (ae.cells a) 0 aJ Tryz.sizeOf149 ?_
 intro bA u
 refine nt (Ic (sr (Kz (vP j 1) (Lz (.string ⟨v9 a.aT⟩) u 0 C2 (Kz (vJ a.aT.length) (Kz (.bool (decide (((a.aT.length:Nat):Int) > 16))) (Mz rfl ?_)))))))
 by_cases d:((a.aT.length:Nat):Int) > 16
 refine Sz (dT d) (Sz (dT d) (Sz (dT d) (Sz (dT d) (fw (.bool true) (Iw rfl (dT d) rfl) (nt (jt (sr (An rfl (rt (tR (bR (tR (tR (bR (tR (rs ?_))))))))))))))))
 have aK:=u.pk []
 obtain rfl:_=false:=hr.symm.trans (et (ah k) (et (iN o) (jm (et (l) (et (congrArg (fun q=>gY q) p) (ip d))))))
 exact⟨rfl,aK⟩
 refine Gz (vP j 2) (dF d) (Gl (.slice a.ak.A a.ak.ls.length a.ak.c) (dF d) u 0 Tryz.isAgg147 (Gz (vJ a.ak.ls.length) (dF d) (Gz (.bool (decide (((a.ak.ls.length:Nat):Int) > 4))) (dF d) (fw (.bool (decide (((a.ak.ls.length:Nat):Int) > 4))) (Ih rfl (dF d) rfl) (nt ?_)))))
 by_cases y:((a.ak.ls.length:Nat):Int) > 4
 refine jT (dT y) (sr (An rfl (rt (tR (bR (tR (tR (bR (tR (rs ?_))))))))))
 have aL:=u.pk []
 obtain rfl:_=false:=hr.symm.trans (et (ah k) (et (iN o) (jm (et (l) (et (congrArg (fun q=>gY q) p) (et (iN d) (ip y)))))))
 exact⟨rfl,aL⟩
 refine jF (dF y) (sk (sr (Kz (vP j 2) (Lz (.slice a.ak.A a.ak.ls.length a.ak.c) u 0 Tryz.isAgg147 (Kz (vJ a.ak.ls.length) (Mn rfl (bo ?_)))))))
 have aM:=u.pf []
 obtain⟨aN,F⟩:=nQ fun (f:Nat) w'=>Own w D w' [blk j (ae.cells a) 149]∧f≤a.ak.ls.length∧iq a.ak.ls=iq (r3 f a.ak.ls)
 refine C3 (fun i:Nat=> [(4, .bool false),(35,vJ i),(34,vJ a.ak.ls.length),(33, .slice a.ak.A a.ak.ls.length a.ak.c),(32,vP j 2),(31, .bool (decide (((a.ak.ls.length:Nat):Int) > 4))),(30, .bool (decide (((a.ak.ls.length:Nat):Int) > 4))),(29,vJ a.ak.ls.length),(28, .slice a.ak.A a.ak.ls.length a.ak.c),(27,vP j 2),(26, .bool (decide (((a.aT.length:Nat):Int) > 16))),(25, .bool (decide (((a.aT.length:Nat):Int) > 16))),(24,vJ a.aT.length),(23, .string ⟨v9 a.aT⟩),(22,vP j 1),(7,vP j 0),(21, .agg (ae.cells a).toArray),(20, .pointer (some ⟨ab r,ao r+b *3,none⟩)),(19, .bool (decide (((b:Nat):Int) < ((l1.length:Nat):Int)))),(18,vJ b),(17,vJ l1.length),(16, .slice r l1.length c1)]) aN (fun i=>a.ak.ls.length - i) 0 ⟨rfl,rfl,rfl,rfl,rfl,rfl,rfl,rfl,rfl,rfl,rfl,rfl,rfl,rfl,rfl,rfl,rfl,rfl,rfl,rfl,rfl,rfl,trivial⟩ (F.2 ⟨aM,e6,rfl⟩) ?_
 rintro f bB Y
 obtain⟨G,bg,s⟩:=F.1 Y
 refine sr (Kz (.bool (decide (((f:Nat):Int) < ((a.ak.ls.length:Nat):Int)))) (nt (Ic ?_)))
 by_cases Z:((f:Nat):Int) < ((a.ak.ls.length:Nat):Int)
 obtain⟨g,N⟩:=dN (ls:=a.ak.ls) (i:=f) aI.len f4 (G.ro (J _ (D3 m)).1) e9
 have I:=drop_at N
 refine jT (dT Z) (sk (Ic (bo (sr (fw (.pointer (some ⟨ab a.ak.A,ao a.ak.A+f *2,none⟩)) (Ij (ko) rfl rfl ((G.ro (J _ (D3 m)).1).addr (i:=f) e6) e6) (fw (.agg (aI.cells g).toArray) (Io rfl (Iy (cs:=(aI.cells g)) Tryz.isAgg153 Tryz.sizeOf153 ((G.ro (J _ (D3 m)).1).elem aI.len N f4))) ?_))))))
 refine dV [.string ⟨v9 ([])⟩, .string ⟨v9 ([])⟩] 153 G ?_
 intro aa bC aO
 refine dS (aI.cells g) 0 aO Tryz.sizeOf153 ?_
 intro bD af
 refine ns (Kz (vP aa 0) (Lz (.string ⟨v9 g.bY⟩) af 0 C2 ?_))
 obtain⟨z,t⟩:∃ q,ib g.bY=q:=⟨_,rfl⟩
 obtain⟨bF,ag,bi,ai,bn⟩:=Ii af
 refine cl L9 (kM _ _ g.bY z ag t) ?_
 rintro _ bG ⟨rfl,aj,O,P⟩
 have L:=ai _ _ aj
 replace O: ¬ (z=0)∨(1≤g.bY.length∧g.bY.length≤12):=O
 replace P:g.bY.length < 1∨g.bY.length > 12∨z=0:=P
 refine fw (.bool (decide (¬ (z=0)))) (IG (e:= !(decide (z=0))) yk decide_not.symm) (Mz rfl ?_)
 by_cases h:z=0
 refine gw (vP aa 1) (dF (Lh h)) yk (gw (.string ⟨v9 g.aT⟩) (dF (Lh h)) (Io rfl (bZ.one C2 (jR.of (L.cls (i:=0) rfl) rfl))) (gw (vJ g.aT.length) (dF (Lh h)) yk (gw (.bool (decide (((g.aT.length:Nat):Int) > 16))) (dF (Lh h)) yk (fw (.bool (decide (((g.aT.length:Nat):Int) > 16))) (Ih rfl (dF (Lh h)) rfl) (nt ?_)))))
 by_cases M:((g.aT.length:Nat):Int) > 16
 refine jT (dT M) (sr (An rfl (rt (bR (tR (tR (bR (bR (tR (tR (bR (tR (rs ?_)))))))))))))
 have aP:=L.pk []
 obtain rfl:_=false:=hr.symm.trans (et (ah k) (et (iN o) (jm (et (l) (et (congrArg (fun q=>gY q) p) (et (iN d) (et (iN y) (oF (et (s) (et (congrArg (fun q=>iq q) I) (et (ah t) (et (ip h) (ip M)))))))))))))
 exact⟨rfl,aP⟩
 refine jF (dF M) (IE (bN (Ig (Ib (fw (vJ (f+1)) (Ie (e:=C5.wrap (((f:Nat):Int)+1)) yk f0) (Mz rfl (C6 ?_)))))))
 have aR:=L.pk [1]
 exact Ir (f+1) ⟨rfl,rfl,rfl,rfl,rfl,rfl,rfl,rfl,rfl,rfl,rfl,rfl,rfl,rfl,rfl,rfl,rfl,rfl,rfl,rfl,rfl,rfl,trivial⟩ (F.2 ⟨aR,e6,et (s) (et (congrArg (fun q=>iq q) I) (et (ah t) (et (ip h) (iN M))))⟩) (by show a.ak.ls.length - (f+1) < a.ak.ls.length - f; omega)
 refine Sz (dT h) (Sz (dT h) (Sz (dT h) (Sz (dT h) (fw (.bool true) (Iw rfl (dT h) rfl) (nt (jt (sr (An rfl (rt (bR (tR (tR (bR (bR (tR (tR (bR (tR (rs ?_)))))))))))))))))))
 have aS:=L.pk []
 obtain rfl:_=false:=hr.symm.trans (et (ah k) (et (iN o) (jm (et (l) (et (congrArg (fun q=>gY q) p) (et (iN d) (et (iN y) (oF (et (s) (et (congrArg (fun q=>iq q) I) (et (ah t) (iN h))))))))))))
 exact⟨rfl,aS⟩
 refine jF (dF Z) (C7 (Il ?_))
 have ak:iq a.ak.ls=B9 ():=et (s) (et (congrArg (fun q=>iq q) (fB (ls:=a.ak.ls) (i:=f) e6)) rfl)
 refine Il (IB (bN (Ig (Ib (fw (vJ (b+1)) (Ie (e:=C5.wrap (((b:Nat):Int)+1)) yk f0) (Mz rfl (C6 ?_)))))))
 have aT:=G.pk []
 exact Ir (b+1) ⟨rfl,rfl,rfl,rfl,trivial⟩ (C.2 ⟨aT,e6,et (l) (et (congrArg (fun q=>gY q) p) (et (iN d) (et (iN y) (nY ak))))⟩) (by show l1.length - (b+1) < l1.length - b; omega)
 refine jF (dF W) (C7 (Il ?_))
 have au:gY l1=B9 ():=et (l) (et (congrArg (fun q=>gY q) (fB (ls:=l1) (i:=b) e6)) rfl)
 refine Il (IB (Ig (sr (An rfl (rt (rs ?_))))))
 have av:=E.pk []
 obtain rfl:_=true:=hr.symm.trans (et (ah k) (et (iN o) (nT au)))
 exact⟨rfl,av⟩
theorem uH (w D j) (H:Own w D w []) (c:j=1):
    Calls v8 158 #[vI j] w (d9 fun v w'=>v= .tuple #[.agg #[.bool false, .func (.func 172) #[] #[], .func (.func 173) #[] #[], .func (.func 174) #[] #[], .func (.func 175) #[] #[]], .bool true]∧Own w D w' []):=by
 subst c
 refine cb M0 ?_
 refine sr ?_
 refine dV [.bool false, .nilFunc, .nilFunc, .nilFunc, .nilFunc] 231 H ?_
 intro l n d
 refine Ar rfl (Kz (.agg #[.bool false, .func (.func 172) #[] #[], .func (.func 173) #[] #[], .func (.func 174) #[] #[], .func (.func 175) #[] #[]]) (Kz (.agg #[.bool true, .func (.func 176) #[] #[], .func (.func 177) #[] #[], .func (.func 174) #[] #[], .func (.func 178) #[] #[]]) (Kz (.agg #[.bool true, .func (.func 172) #[] #[], .func (.func 173) #[] #[], .func (.func 174) #[] #[], .func (.func 179) #[] #[]]) (Kz (.agg #[.bool false, .func (.func 180) #[] #[], .func (.func 181) #[] #[], .func (.func 182) #[] #[], .func (.func 183) #[] #[]]) (Kz (.agg #[.bool true, .func (.func 184) #[] #[], .func (.func 185) #[] #[], .func (.func 182) #[] #[], .func (.func 186) #[] #[]]) (Kz (.agg #[.bool false, .nilFunc, .nilFunc, .nilFunc, .nilFunc, .bool false, .func (.func 172) #[] #[], .func (.func 173) #[] #[], .func (.func 174) #[] #[], .func (.func 175) #[] #[], .bool true, .func (.func 176) #[] #[], .func (.func 177) #[] #[], .func (.func 174) #[] #[], .func (.func 178) #[] #[], .bool true, .func (.func 172) #[] #[], .func (.func 173) #[] #[], .func (.func 174) #[] #[], .func (.func 179) #[] #[], .bool false, .func (.func 180) #[] #[], .func (.func 181) #[] #[], .func (.func 182) #[] #[], .func (.func 183) #[] #[], .bool true, .func (.func 184) #[] #[], .func (.func 185) #[] #[], .func (.func 182) #[] #[], .func (.func 186) #[] #[]]) ?_))))))
 refine dV [.bool false, .nilFunc, .nilFunc, .nilFunc, .nilFunc, .bool false, .nilFunc, .nilFunc, .nilFunc, .nilFunc, .bool false, .nilFunc, .nilFunc, .nilFunc, .nilFunc, .bool false, .nilFunc, .nilFunc, .nilFunc, .nilFunc, .bool false, .nilFunc, .nilFunc, .nilFunc, .nilFunc, .bool false, .nilFunc, .nilFunc, .nilFunc, .nilFunc] 244 d ?_
 intro e o f
 refine dS [.bool false, .nilFunc, .nilFunc, .nilFunc, .nilFunc, .bool false, .func (.func 172) #[] #[], .func (.func 173) #[] #[], .func (.func 174) #[] #[], .func (.func 175) #[] #[], .bool true, .func (.func 176) #[] #[], .func (.func 177) #[] #[], .func (.func 174) #[] #[], .func (.func 178) #[] #[], .bool true, .func (.func 172) #[] #[], .func (.func 173) #[] #[], .func (.func 174) #[] #[], .func (.func 179) #[] #[], .bool false, .func (.func 180) #[] #[], .func (.func 181) #[] #[], .func (.func 182) #[] #[], .func (.func 183) #[] #[], .bool true, .func (.func 184) #[] #[], .func (.func 185) #[] #[], .func (.func 182) #[] #[], .func (.func 186) #[] #[]] 0 f M1 ?_
 intro p a
 refine nt (Ic (sr (Mz rfl (Kz (.bool false) (Mz rfl (gw (vI 1) rfl (Iq rfl) (Gz (.bool false) rfl (fw (.bool false) (Ih rfl rfl rfl) (nt (jf (sk (sr (Mz rfl (Kz (vP e 5) (La ([.bool false, .func (.func 172) #[] #[], .func (.func 173) #[] #[], .func (.func 174) #[] #[], .func (.func 175) #[] #[]]) a 0 M2 M3 ?_)))))))))))))))
 have g:=a.pb [0]
 refine dS [.bool false, .func (.func 172) #[] #[], .func (.func 173) #[] #[], .func (.func 174) #[] #[], .func (.func 175) #[] #[]] 0 g M3 ?_
 intro q b
 refine An rfl (rt (Fin.res (kS (vs:= [.agg #[.bool false, .func (.func 172) #[] #[], .func (.func 173) #[] #[], .func (.func 174) #[] #[], .func (.func 175) #[] #[]], .bool true]) rfl (eu.cell rfl (Iy (cs:= [.bool false, .func (.func 172) #[] #[], .func (.func 173) #[] #[], .func (.func 174) #[] #[], .func (.func 175) #[] #[]]) M2 M3 ((b.cls (i:=0) rfl).lit (k:=0) (m:=5) rfl)) (eu.tmp rfl eu.nil)) (Le rfl)) ?_))
 have h:=b.pk []
 exact⟨rfl,h⟩
def si (a:bi):bi:=
 bi.mk a.aD a.bY ([]) ([]) ([]) 0
theorem wC (w D) (a:bi) (g:bi) (H:Own w D w []) (hr:si a=g):
    Calls v8 172 #[.agg (bi.cells a).toArray] w (d9 fun v w'=>v= .agg (bi.cells g).toArray∧Own w D w' []):=by
 refine cb Tryz.func172 ?_
 refine sr ?_
 refine dV (bi.cells a) 72 H ?_
 intro c h e
 refine dV [vI 0, .string ⟨v9 ([])⟩, .string ⟨v9 ([])⟩, .string ⟨v9 ([])⟩, .string ⟨v9 ([])⟩,vI 0] 72 e ?_
 intro j l b
 refine ns (Kz (vP c 0) (Lz (vI a.aD) b 1 C4 (Kz (vP c 1) (Lz (.string ⟨v9 a.bY⟩) b 1 C2 (Kz (.agg #[vI a.aD, .string ⟨v9 a.bY⟩, .string ⟨v9 ([])⟩, .string ⟨v9 ([])⟩, .string ⟨v9 ([])⟩,vI 0]) ?_)))))
 refine dS [vI a.aD, .string ⟨v9 a.bY⟩, .string ⟨v9 ([])⟩, .string ⟨v9 ([])⟩, .string ⟨v9 ([])⟩,vI 0] 0 b M4 ?_
 intro n d
 refine nt (rt (Fin.res (ol rfl rfl (Iy (cs:= [vI a.aD, .string ⟨v9 a.bY⟩, .string ⟨v9 ([])⟩, .string ⟨v9 ([])⟩, .string ⟨v9 ([])⟩,vI 0]) M5 M4 ((d.cls (i:=0) rfl).lit (k:=0) (m:=6) rfl))) ?_))
 have f:=d.pk []
 obtain rfl:_=bi.mk a.aD a.bY ([]) ([]) ([]) 0:=hr.symm.trans rfl
 exact⟨rfl,f⟩
def qB (b:bi):Int:=
 bnd (ib b.bY) fun a=>a
theorem uI (w D) (a:bi) (m) (H:Own w D w []) (hr:qB a=m):
    Calls v8 173 #[.agg (bi.cells a).toArray] w (d9 fun v w'=>v=vI m∧Own w D w' []):=by
 refine cb Tryz.func173 ?_
 refine sr ?_
 refine dV (bi.cells a) 72 H ?_
 intro j p f
 refine Ar rfl (Kz (vP j 1) (Lz (.string ⟨v9 a.bY⟩) f 0 C2 ?_))
 obtain⟨b,c⟩:∃ q,ib a.bY=q:=⟨_,rfl⟩
 obtain⟨r,g,n,h,o⟩:=Ii f
 refine cl L9 (kM _ _ a.bY b g c) ?_
 rintro _ s ⟨rfl,i,d,e⟩
 have k:=h _ _ i
 replace d: ¬ (b=0)∨(1≤a.bY.length∧a.bY.length≤12):=d
 replace e:a.bY.length < 1∨a.bY.length > 12∨b=0:=e
 refine An rfl (rt (rs ?_))
 have l:=k.pk []
 obtain rfl:_=b:=hr.symm.trans (ah c)
 exact⟨rfl,l⟩
theorem uJ (w D j) (H:Own w D w []) (c:j=2):
    Calls v8 158 #[vI j] w (d9 fun v w'=>v= .tuple #[.agg #[.bool true, .func (.func 176) #[] #[], .func (.func 177) #[] #[], .func (.func 174) #[] #[], .func (.func 178) #[] #[]], .bool true]∧Own w D w' []):=by
 subst c
 refine cb M0 ?_
 refine sr ?_
 refine dV [.bool false, .nilFunc, .nilFunc, .nilFunc, .nilFunc] 231 H ?_
 intro l n d
 refine Ar rfl (Kz (.agg #[.bool false, .func (.func 172) #[] #[], .func (.func 173) #[] #[], .func (.func 174) #[] #[], .func (.func 175) #[] #[]]) (Kz (.agg #[.bool true, .func (.func 176) #[] #[], .func (.func 177) #[] #[], .func (.func 174) #[] #[], .func (.func 178) #[] #[]]) (Kz (.agg #[.bool true, .func (.func 172) #[] #[], .func (.func 173) #[] #[], .func (.func 174) #[] #[], .func (.func 179) #[] #[]]) (Kz (.agg #[.bool false, .func (.func 180) #[] #[], .func (.func 181) #[] #[], .func (.func 182) #[] #[], .func (.func 183) #[] #[]]) (Kz (.agg #[.bool true, .func (.func 184) #[] #[], .func (.func 185) #[] #[], .func (.func 182) #[] #[], .func (.func 186) #[] #[]]) (Kz (.agg #[.bool false, .nilFunc, .nilFunc, .nilFunc, .nilFunc, .bool false, .func (.func 172) #[] #[], .func (.func 173) #[] #[], .func (.func 174) #[] #[], .func (.func 175) #[] #[], .bool true, .func (.func 176) #[] #[], .func (.func 177) #[] #[], .func (.func 174) #[] #[], .func (.func 178) #[] #[], .bool true, .func (.func 172) #[] #[], .func (.func 173) #[] #[], .func (.func 174) #[] #[], .func (.func 179) #[] #[], .bool false, .func (.func 180) #[] #[], .func (.func 181) #[] #[], .func (.func 182) #[] #[], .func (.func 183) #[] #[], .bool true, .func (.func 184) #[] #[], .func (.func 185) #[] #[], .func (.func 182) #[] #[], .func (.func 186) #[] #[]]) ?_))))))
 refine dV [.bool false, .nilFunc, .nilFunc, .nilFunc, .nilFunc, .bool false, .nilFunc, .nilFunc, .nilFunc, .nilFunc, .bool false, .nilFunc, .nilFunc, .nilFunc, .nilFunc, .bool false, .nilFunc, .nilFunc, .nilFunc, .nilFunc, .bool false, .nilFunc, .nilFunc, .nilFunc, .nilFunc, .bool false, .nilFunc, .nilFunc, .nilFunc, .nilFunc] 244 d ?_
 intro e o f
 refine dS [.bool false, .nilFunc, .nilFunc, .nilFunc, .nilFunc, .bool false, .func (.func 172) #[] #[], .func (.func 173) #[] #[], .func (.func 174) #[] #[], .func (.func 175) #[] #[], .bool true, .func (.func 176) #[] #[], .func (.func 177) #[] #[], .func (.func 174) #[] #[], .func (.func 178) #[] #[], .bool true, .func (.func 172) #[] #[], .func (.func 173) #[] #[], .func (.func 174) #[] #[], .func (.func 179) #[] #[], .bool false, .func (.func 180) #[] #[], .func (.func 181) #[] #[], .func (.func 182) #[] #[], .func (.func 183) #[] #[], .bool true, .func (.func 184) #[] #[], .func (.func 185) #[] #[], .func (.func 182) #[] #[], .func (.func 186) #[] #[]] 0 f M1 ?_
 intro p a
 refine nt (Ic (sr (Mz rfl (Kz (.bool false) (Mz rfl (gw (vI 2) rfl (Iq rfl) (Gz (.bool false) rfl (fw (.bool false) (Ih rfl rfl rfl) (nt (jf (sk (sr (Mz rfl (Kz (vP e 10) (La ([.bool true, .func (.func 176) #[] #[], .func (.func 177) #[] #[], .func (.func 174) #[] #[], .func (.func 178) #[] #[]]) a 0 M2 M3 ?_)))))))))))))))
 have g:=a.pb [0]
 refine dS [.bool true, .func (.func 176) #[] #[], .func (.func 177) #[] #[], .func (.func 174) #[] #[], .func (.func 178) #[] #[]] 0 g M3 ?_
 intro q b
 refine An rfl (rt (Fin.res (kS (vs:= [.agg #[.bool true, .func (.func 176) #[] #[], .func (.func 177) #[] #[], .func (.func 174) #[] #[], .func (.func 178) #[] #[]], .bool true]) rfl (eu.cell rfl (Iy (cs:= [.bool true, .func (.func 176) #[] #[], .func (.func 177) #[] #[], .func (.func 174) #[] #[], .func (.func 178) #[] #[]]) M2 M3 ((b.cls (i:=0) rfl).lit (k:=0) (m:=5) rfl)) (eu.tmp rfl eu.nil)) (Le rfl)) ?_))
 have h:=b.pk []
 exact⟨rfl,h⟩
def vk (a:bi):bi:=
 bi.mk a.aD a.bY a.aT ([]) ([]) 0
theorem zI (w D) (a:bi) (g:bi) (H:Own w D w []) (hr:vk a=g):
    Calls v8 176 #[.agg (bi.cells a).toArray] w (d9 fun v w'=>v= .agg (bi.cells g).toArray∧Own w D w' []):=by
 refine cb Tryz.func176 ?_
 refine sr ?_
 refine dV (bi.cells a) 72 H ?_
 intro c h e
 refine dV [vI 0, .string ⟨v9 ([])⟩, .string ⟨v9 ([])⟩, .string ⟨v9 ([])⟩, .string ⟨v9 ([])⟩,vI 0] 72 e ?_
 intro j l b
 refine ns (Kz (vP c 0) (Lz (vI a.aD) b 1 C4 (Kz (vP c 1) (Lz (.string ⟨v9 a.bY⟩) b 1 C2 (Kz (vP c 2) (Lz (.string ⟨v9 a.aT⟩) b 1 C2 (Kz (.agg #[vI a.aD, .string ⟨v9 a.bY⟩, .string ⟨v9 a.aT⟩, .string ⟨v9 ([])⟩, .string ⟨v9 ([])⟩,vI 0]) ?_)))))))
 refine dS [vI a.aD, .string ⟨v9 a.bY⟩, .string ⟨v9 a.aT⟩, .string ⟨v9 ([])⟩, .string ⟨v9 ([])⟩,vI 0] 0 b M4 ?_
 intro n d
 refine nt (rt (Fin.res (ol rfl rfl (Iy (cs:= [vI a.aD, .string ⟨v9 a.bY⟩, .string ⟨v9 a.aT⟩, .string ⟨v9 ([])⟩, .string ⟨v9 ([])⟩,vI 0]) M5 M4 ((d.cls (i:=0) rfl).lit (k:=0) (m:=6) rfl))) ?_))
 have f:=d.pk []
 obtain rfl:_=bi.mk a.aD a.bY a.aT ([]) ([]) 0:=hr.symm.trans rfl
 exact⟨rfl,f⟩
def sM (a:List UInt8):Int:=
 if((a.length:Nat):Int) > 16 then 2 else 0
theorem xM (w D b e) (H:Own w D w []) (hr:sM b=e):
    Calls v8 197 #[.string ⟨v9 b⟩] w (d9 fun v w'=>v=vI e∧Own w D w' []):=by
 refine cb Tryz.func197 ?_
 refine sr (An rfl (Ic (sr (Mz rfl (Kz (vJ b.length) (Kz (.bool (decide (((b.length:Nat):Int) > 16))) (nt ?_)))))))
 by_cases a:((b.length:Nat):Int) > 16
 refine jT (dT a) (sr (An rfl (rt (tR (rs ?_)))))
 have c:=H.pk []
 obtain rfl:_=2:=hr.symm.trans (ip a)
 exact⟨rfl,c⟩
 refine jF (dF a) (sk (sr (An rfl (rt (rs ?_)))))
 have d:=H.pk []
 obtain rfl:_=0:=hr.symm.trans (iN a)
 exact⟨rfl,d⟩
def tN (c:bi):Int:=
 bnd (ib c.bY) fun a=>if a=0 then bnd (sM c.aT) fun b=>b else a
theorem ym (w D) (b:bi) (y) (H:Own w D w []) (hr:tN b=y):
    Calls v8 177 #[.agg (bi.cells b).toArray] w (d9 fun v w'=>v=vI y∧Own w D w' []):=by
 refine cb Tryz.func177 ?_
 refine sr ?_
 refine dV (bi.cells b) 72 H ?_
 intro j E k
 refine An rfl (Ic (sr (Kz (vP j 1) (Lz (.string ⟨v9 b.bY⟩) k 0 C2 ?_))))
 obtain⟨a,c⟩:∃ q,ib b.bY=q:=⟨_,rfl⟩
 obtain⟨F,l,z,m,A⟩:=Ii k
 refine cl L9 (kM _ _ b.bY a l c) ?_
 rintro _ G ⟨rfl,n,f,g⟩
 have i:=m _ _ n
 replace f: ¬ (a=0)∨(1≤b.bY.length∧b.bY.length≤12):=f
 replace g:b.bY.length < 1∨b.bY.length > 12∨a=0:=g
 refine Ar rfl (Mz rfl (fw (.bool (decide (¬ (a=0)))) (IG (e:= !(decide (a=0))) yk decide_not.symm) (nt ?_)))
 by_cases d:a=0
 refine jF (dF (Lh d)) (sk (sr (Kz (vP j 2) (Lz (.string ⟨v9 b.aT⟩) i 0 C2 ?_))))
 obtain⟨o,h⟩:∃ q,sM b.aT=q:=⟨_,rfl⟩
 obtain⟨I,p,B,r,C⟩:=Ii i
 refine cl Tryz.call197 (xM _ _ b.aT o p h) ?_
 rintro _ J ⟨rfl,s⟩
 have t:=r _ _ s
 refine An rfl (rt (rs ?_))
 have u:=t.pk []
 obtain rfl:_=o:=hr.symm.trans (et (ah c) (et (ip d) (ah h)))
 exact⟨rfl,u⟩
 refine jT (dT d) (sr (Mz rfl (An rfl (rt (tR (rs ?_))))))
 have x:=i.pk []
 obtain rfl:_=a:=hr.symm.trans (et (ah c) (iN d))
 exact⟨rfl,x⟩
theorem uK (w D j) (H:Own w D w []) (c:j=3):
    Calls v8 158 #[vI j] w (d9 fun v w'=>v= .tuple #[.agg #[.bool true, .func (.func 172) #[] #[], .func (.func 173) #[] #[], .func (.func 174) #[] #[], .func (.func 179) #[] #[]], .bool true]∧Own w D w' []):=by
 subst c
 refine cb M0 ?_
 refine sr ?_
 refine dV [.bool false, .nilFunc, .nilFunc, .nilFunc, .nilFunc] 231 H ?_
 intro l n d
 refine Ar rfl (Kz (.agg #[.bool false, .func (.func 172) #[] #[], .func (.func 173) #[] #[], .func (.func 174) #[] #[], .func (.func 175) #[] #[]]) (Kz (.agg #[.bool true, .func (.func 176) #[] #[], .func (.func 177) #[] #[], .func (.func 174) #[] #[], .func (.func 178) #[] #[]]) (Kz (.agg #[.bool true, .func (.func 172) #[] #[], .func (.func 173) #[] #[], .func (.func 174) #[] #[], .func (.func 179) #[] #[]]) (Kz (.agg #[.bool false, .func (.func 180) #[] #[], .func (.func 181) #[] #[], .func (.func 182) #[] #[], .func (.func 183) #[] #[]]) (Kz (.agg #[.bool true, .func (.func 184) #[] #[], .func (.func 185) #[] #[], .func (.func 182) #[] #[], .func (.func 186) #[] #[]]) (Kz (.agg #[.bool false, .nilFunc, .nilFunc, .nilFunc, .nilFunc, .bool false, .func (.func 172) #[] #[], .func (.func 173) #[] #[], .func (.func 174) #[] #[], .func (.func 175) #[] #[], .bool true, .func (.func 176) #[] #[], .func (.func 177) #[] #[], .func (.func 174) #[] #[], .func (.func 178) #[] #[], .bool true, .func (.func 172) #[] #[], .func (.func 173) #[] #[], .func (.func 174) #[] #[], .func (.func 179) #[] #[], .bool false, .func (.func 180) #[] #[], .func (.func 181) #[] #[], .func (.func 182) #[] #[], .func (.func 183) #[] #[], .bool true, .func (.func 184) #[] #[], .func (.func 185) #[] #[], .func (.func 182) #[] #[], .func (.func 186) #[] #[]]) ?_))))))
 refine dV [.bool false, .nilFunc, .nilFunc, .nilFunc, .nilFunc, .bool false, .nilFunc, .nilFunc, .nilFunc, .nilFunc, .bool false, .nilFunc, .nilFunc, .nilFunc, .nilFunc, .bool false, .nilFunc, .nilFunc, .nilFunc, .nilFunc, .bool false, .nilFunc, .nilFunc, .nilFunc, .nilFunc, .bool false, .nilFunc, .nilFunc, .nilFunc, .nilFunc] 244 d ?_
 intro e o f
 refine dS [.bool false, .nilFunc, .nilFunc, .nilFunc, .nilFunc, .bool false, .func (.func 172) #[] #[], .func (.func 173) #[] #[], .func (.func 174) #[] #[], .func (.func 175) #[] #[], .bool true, .func (.func 176) #[] #[], .func (.func 177) #[] #[], .func (.func 174) #[] #[], .func (.func 178) #[] #[], .bool true, .func (.func 172) #[] #[], .func (.func 173) #[] #[], .func (.func 174) #[] #[], .func (.func 179) #[] #[], .bool false, .func (.func 180) #[] #[], .func (.func 181) #[] #[], .func (.func 182) #[] #[], .func (.func 183) #[] #[], .bool true, .func (.func 184) #[] #[], .func (.func 185) #[] #[], .func (.func 182) #[] #[], .func (.func 186) #[] #[]] 0 f M1 ?_
 intro p a
 refine nt (Ic (sr (Mz rfl (Kz (.bool false) (Mz rfl (gw (vI 3) rfl (Iq rfl) (Gz (.bool false) rfl (fw (.bool false) (Ih rfl rfl rfl) (nt (jf (sk (sr (Mz rfl (Kz (vP e 15) (La ([.bool true, .func (.func 172) #[] #[], .func (.func 173) #[] #[], .func (.func 174) #[] #[], .func (.func 179) #[] #[]]) a 0 M2 M3 ?_)))))))))))))))
 have g:=a.pb [0]
 refine dS [.bool true, .func (.func 172) #[] #[], .func (.func 173) #[] #[], .func (.func 174) #[] #[], .func (.func 179) #[] #[]] 0 g M3 ?_
 intro q b
 refine An rfl (rt (Fin.res (kS (vs:= [.agg #[.bool true, .func (.func 172) #[] #[], .func (.func 173) #[] #[], .func (.func 174) #[] #[], .func (.func 179) #[] #[]], .bool true]) rfl (eu.cell rfl (Iy (cs:= [.bool true, .func (.func 172) #[] #[], .func (.func 173) #[] #[], .func (.func 174) #[] #[], .func (.func 179) #[] #[]]) M2 M3 ((b.cls (i:=0) rfl).lit (k:=0) (m:=5) rfl)) (eu.tmp rfl eu.nil)) (Le rfl)) ?_))
 have h:=b.pk []
 exact⟨rfl,h⟩
theorem uL (w D j) (H:Own w D w []) (c:j=4):
    Calls v8 158 #[vI j] w (d9 fun v w'=>v= .tuple #[.agg #[.bool false, .func (.func 180) #[] #[], .func (.func 181) #[] #[], .func (.func 182) #[] #[], .func (.func 183) #[] #[]], .bool true]∧Own w D w' []):=by
 subst c
 refine cb M0 ?_
 refine sr ?_
 refine dV [.bool false, .nilFunc, .nilFunc, .nilFunc, .nilFunc] 231 H ?_
 intro l n d
 refine Ar rfl (Kz (.agg #[.bool false, .func (.func 172) #[] #[], .func (.func 173) #[] #[], .func (.func 174) #[] #[], .func (.func 175) #[] #[]]) (Kz (.agg #[.bool true, .func (.func 176) #[] #[], .func (.func 177) #[] #[], .func (.func 174) #[] #[], .func (.func 178) #[] #[]]) (Kz (.agg #[.bool true, .func (.func 172) #[] #[], .func (.func 173) #[] #[], .func (.func 174) #[] #[], .func (.func 179) #[] #[]]) (Kz (.agg #[.bool false, .func (.func 180) #[] #[], .func (.func 181) #[] #[], .func (.func 182) #[] #[], .func (.func 183) #[] #[]]) (Kz (.agg #[.bool true, .func (.func 184) #[] #[], .func (.func 185) #[] #[], .func (.func 182) #[] #[], .func (.func 186) #[] #[]]) (Kz (.agg #[.bool false, .nilFunc, .nilFunc, .nilFunc, .nilFunc, .bool false, .func (.func 172) #[] #[], .func (.func 173) #[] #[], .func (.func 174) #[] #[], .func (.func 175) #[] #[], .bool true, .func (.func 176) #[] #[], .func (.func 177) #[] #[], .func (.func 174) #[] #[], .func (.func 178) #[] #[], .bool true, .func (.func 172) #[] #[], .func (.func 173) #[] #[], .func (.func 174) #[] #[], .func (.func 179) #[] #[], .bool false, .func (.func 180) #[] #[], .func (.func 181) #[] #[], .func (.func 182) #[] #[], .func (.func 183) #[] #[], .bool true, .func (.func 184) #[] #[], .func (.func 185) #[] #[], .func (.func 182) #[] #[], .func (.func 186) #[] #[]]) ?_))))))
 refine dV [.bool false, .nilFunc, .nilFunc, .nilFunc, .nilFunc, .bool false, .nilFunc, .nilFunc, .nilFunc, .nilFunc, .bool false, .nilFunc, .nilFunc, .nilFunc, .nilFunc, .bool false, .nilFunc, .nilFunc, .nilFunc, .nilFunc, .bool false, .nilFunc, .nilFunc, .nilFunc, .nilFunc, .bool false, .nilFunc, .nilFunc, .nilFunc, .nilFunc] 244 d ?_
 intro e o f
 refine dS [.bool false, .nilFunc, .nilFunc, .nilFunc, .nilFunc, .bool false, .func (.func 172) #[] #[], .func (.func 173) #[] #[], .func (.func 174) #[] #[], .func (.func 175) #[] #[], .bool true, .func (.func 176) #[] #[], .func (.func 177) #[] #[], .func (.func 174) #[] #[], .func (.func 178) #[] #[], .bool true, .func (.func 172) #[] #[], .func (.func 173) #[] #[], .func (.func 174) #[] #[], .func (.func 179) #[] #[], .bool false, .func (.func 180) #[] #[], .func (.func 181) #[] #[], .func (.func 182) #[] #[], .func (.func 183) #[] #[], .bool true, .func (.func 184) #[] #[], .func (.func 185) #[] #[], .func (.func 182) #[] #[], .func (.func 186) #[] #[]] 0 f M1 ?_
 intro p a
 refine nt (Ic (sr (Mz rfl (Kz (.bool false) (Mz rfl (gw (vI 4) rfl (Iq rfl) (Gz (.bool false) rfl (fw (.bool false) (Ih rfl rfl rfl) (nt (jf (sk (sr (Mz rfl (Kz (vP e 20) (La ([.bool false, .func (.func 180) #[] #[], .func (.func 181) #[] #[], .func (.func 182) #[] #[], .func (.func 183) #[] #[]]) a 0 M2 M3 ?_)))))))))))))))
 have g:=a.pb [0]
 refine dS [.bool false, .func (.func 180) #[] #[], .func (.func 181) #[] #[], .func (.func 182) #[] #[], .func (.func 183) #[] #[]] 0 g M3 ?_
 intro q b
 refine An rfl (rt (Fin.res (kS (vs:= [.agg #[.bool false, .func (.func 180) #[] #[], .func (.func 181) #[] #[], .func (.func 182) #[] #[], .func (.func 183) #[] #[]], .bool true]) rfl (eu.cell rfl (Iy (cs:= [.bool false, .func (.func 180) #[] #[], .func (.func 181) #[] #[], .func (.func 182) #[] #[], .func (.func 183) #[] #[]]) M2 M3 ((b.cls (i:=0) rfl).lit (k:=0) (m:=5) rfl)) (eu.tmp rfl eu.nil)) (Le rfl)) ?_))
 have h:=b.pk []
 exact⟨rfl,h⟩
def vo (a:bi):bi:=
 bi.mk a.aD ([]) ([]) a.bF a.bT a.bS
theorem zJ (w D) (a:bi) (g:bi) (H:Own w D w []) (hr:vo a=g):
    Calls v8 180 #[.agg (bi.cells a).toArray] w (d9 fun v w'=>v= .agg (bi.cells g).toArray∧Own w D w' []):=by
 refine cb Tryz.func180 ?_
 refine sr ?_
 refine dV (bi.cells a) 72 H ?_
 intro c h e
 refine dV [vI 0, .string ⟨v9 ([])⟩, .string ⟨v9 ([])⟩, .string ⟨v9 ([])⟩, .string ⟨v9 ([])⟩,vI 0] 72 e ?_
 intro j l b
 refine ns (Kz (vP c 0) (Lz (vI a.aD) b 1 C4 (Kz (vP c 3) (Lz (.string ⟨v9 a.bF⟩) b 1 C2 (Kz (vP c 4) (Lz (.string ⟨v9 a.bT⟩) b 1 C2 (Kz (vP c 5) (Lz (vI a.bS) b 1 C4 (Kz (.agg #[vI a.aD, .string ⟨v9 ([])⟩, .string ⟨v9 ([])⟩, .string ⟨v9 a.bF⟩, .string ⟨v9 a.bT⟩,vI a.bS]) ?_)))))))))
 refine dS [vI a.aD, .string ⟨v9 ([])⟩, .string ⟨v9 ([])⟩, .string ⟨v9 a.bF⟩, .string ⟨v9 a.bT⟩,vI a.bS] 0 b M4 ?_
 intro n d
 refine nt (rt (Fin.res (ol rfl rfl (Iy (cs:= [vI a.aD, .string ⟨v9 ([])⟩, .string ⟨v9 ([])⟩, .string ⟨v9 a.bF⟩, .string ⟨v9 a.bT⟩,vI a.bS]) M5 M4 ((d.cls (i:=0) rfl).lit (k:=0) (m:=6) rfl))) ?_))
 have f:=d.pk []
 obtain rfl:_=bi.mk a.aD ([]) ([]) a.bF a.bT a.bS:=hr.symm.trans rfl
 exact⟨rfl,f⟩
def tO (a:bi):bC:=
 bC.mk a.bF a.bT
theorem yn (w D) (a:bi) (g:bC) (H:Own w D w []) (hr:tO a=g):
    Calls v8 182 #[.agg (bi.cells a).toArray] w (d9 fun v w'=>v= .agg (bC.cells g).toArray∧Own w D w' []):=by
 refine cb Tryz.func182 ?_
 refine sr ?_
 refine dV (bi.cells a) 72 H ?_
 intro c h e
 refine dV [.string ⟨v9 ([])⟩, .string ⟨v9 ([])⟩] 38 e ?_
 intro j l b
 refine ns (Kz (vP c 3) (Lz (.string ⟨v9 a.bF⟩) b 1 C2 (Kz (vP c 4) (Lz (.string ⟨v9 a.bT⟩) b 1 C2 (Kz (.agg #[.string ⟨v9 a.bF⟩, .string ⟨v9 a.bT⟩]) ?_)))))
 refine dS [.string ⟨v9 a.bF⟩, .string ⟨v9 a.bT⟩] 0 b M6 ?_
 intro n d
 refine nt (rt (Fin.res (ol rfl rfl (Iy (cs:= [.string ⟨v9 a.bF⟩, .string ⟨v9 a.bT⟩]) M7 M6 ((d.cls (i:=0) rfl).lit (k:=0) (m:=2) rfl))) ?_))
 have f:=d.pk []
 obtain rfl:_=bC.mk a.bF a.bT:=hr.symm.trans rfl
 exact⟨rfl,f⟩
def kG (a:bC):Int:=
 if a.bF≠([]) then bnd (ib a.bF) fun b=>if b=0 then if a.bT≠([]) then bnd (ib a.bT) fun c=>if c=0 then if a.bT≤a.bF then 21 else 0 else 21 else 0 else 21 else if a.bT≠([]) then bnd (ib a.bT) fun d=>if d=0 then if a.bT≤a.bF then 21 else 0 else 21 else 0
theorem qG (w D) (a:bC) (Z) (H:Own w D w []) (hr:kG a=Z):
    Calls v8 116 #[.agg (bC.cells a).toArray] w (d9 fun v w'=>v=vI Z∧Own w D w' []):=by
 refine cb Tryz.func116 ?_
 refine sr ?_
 refine dV (bC.cells a) 38 H ?_
 intro h ak k
 refine An rfl (Ic (sr (Kz (vP h 0) (Lz (.string ⟨v9 a.bF⟩) k 0 C2 (fw (.bool (decide (a.bF≠([])))) (Js rfl rfl) (Mz rfl ?_))))))
 by_cases d:a.bF≠([])
 refine Gz (vP h 0) (dT d) (Gl (.string ⟨v9 a.bF⟩) (dT d) k 0 C2 ?_)
 obtain⟨l,j⟩:∃ q,ib a.bF=q:=⟨_,rfl⟩
 obtain⟨au,G,aa,I,ae⟩:=Ii k
 refine vR (dT d) L9 (kM _ _ a.bF l G j) ?_
 rintro _ av ⟨rfl,J,z,A⟩
 have s:=I _ _ J
 replace z: ¬ (l=0)∨(1≤a.bF.length∧a.bF.length≤12):=z
 replace A:a.bF.length < 1∨a.bF.length > 12∨l=0:=A
 refine gw (.bool (decide (¬ (l=0)))) (dT d) (IG (e:= !(decide (l=0))) yk decide_not.symm) (fw (.bool (decide (¬ (l=0)))) (Iw rfl (dT d) rfl) (nt ?_))
 by_cases m:l=0
 refine jF (dF (Lh m)) (sk (Ic (sr (Kz (vP h 1) (Lz (.string ⟨v9 a.bT⟩) s 0 C2 (fw (.bool (decide (a.bT≠([])))) (Js rfl rfl) (Mz rfl ?_)))))))
 by_cases b:a.bT≠([])
 refine Gz (vP h 1) (dT b) (Gl (.string ⟨v9 a.bT⟩) (dT b) s 0 C2 ?_)
 obtain⟨n,p⟩:∃ q,ib a.bT=q:=⟨_,rfl⟩
 obtain⟨ax,K,af,L,ag⟩:=Ii s
 refine vR (dT b) L9 (kM _ _ a.bT n K p) ?_
 rintro _ ay ⟨rfl,M,B,C⟩
 have t:=L _ _ M
 replace B: ¬ (n=0)∨(1≤a.bT.length∧a.bT.length≤12):=B
 replace C:a.bT.length < 1∨a.bT.length > 12∨n=0:=C
 refine gw (.bool (decide (¬ (n=0)))) (dT b) (IG (e:= !(decide (n=0))) yk decide_not.symm) (gw (.bool (decide (¬ (n=0)))) (dT b) (Iq rfl) ?_)
 by_cases f:n=0
 refine gw (vP h 1) (dF (Lh f)) yk (gw (.string ⟨v9 a.bT⟩) (dF (Lh f)) (Io rfl (bZ.one C2 (jR.of (t.cls (i:=0) rfl) rfl))) (gw (vP h 0) (dF (Lh f)) yk (gw (.string ⟨v9 a.bF⟩) (dF (Lh f)) (Io rfl (bZ.one C2 (jR.of (t.cls (i:=0) rfl) rfl))) (gw (.bool (decide (a.bT≤a.bF))) (dF (Lh f)) (IG (e:=Op.bytesLess a.bT a.bF || decide (a.bT=a.bF)) (JA rfl rfl) (zN _ _)) (gw (.bool (decide (a.bT≤a.bF))) (dT b) (Ih rfl (dF (Lh f)) rfl) (fw (.bool (decide (a.bT≤a.bF))) (Iw rfl (dT b) rfl) (nt ?_)))))))
 by_cases x:a.bT≤a.bF
 refine jT (dT x) (sr (An rfl (rt (tR (rs ?_)))))
 have Q:=t.pk []
 obtain rfl:_=21:=hr.symm.trans (et (ip d) (et (ah j) (et (ip m) (et (ip b) (et (ah p) (et (ip f) (ip x)))))))
 exact⟨rfl,Q⟩
 refine jF (dF x) (sk (sr (An rfl (rt (rs ?_)))))
 have R:=t.pk []
 obtain rfl:_=0:=hr.symm.trans (et (ip d) (et (ah j) (et (ip m) (et (ip b) (et (ah p) (et (ip f) (iN x)))))))
 exact⟨rfl,R⟩
 refine Sz (dT f) (Sz (dT f) (Sz (dT f) (Sz (dT f) (Sz (dT f) (gw (.bool true) (dT b) (Iw rfl (dT f) rfl) (fw (.bool true) (Iw rfl (dT b) rfl) (nt (jt (sr (An rfl (rt (tR (rs ?_)))))))))))))
 have S:=t.pk []
 obtain rfl:_=21:=hr.symm.trans (et (ip d) (et (ah j) (et (ip m) (et (ip b) (et (ah p) (iN f))))))
 exact⟨rfl,S⟩
 refine Sz (dF b) (Sz (dF b) (Sz (dF b) (Sz (dF b) (Sz (dF b) (IR rfl rfl rfl (IR rfl rfl rfl (IR rfl rfl rfl (IR rfl rfl rfl (IR rfl rfl rfl (Sz (dF b) (fw (.bool false) (Ih rfl (dF b) rfl) (nt (jf (sk (sr (An rfl (rt (rs ?_))))))))))))))))))
 have T:=s.pk []
 obtain rfl:_=0:=hr.symm.trans (et (ip d) (et (ah j) (et (ip m) (iN b))))
 exact⟨rfl,T⟩
 refine jT (dT m) (sr (An rfl (rt (tR (rs ?_)))))
 have U:=s.pk []
 obtain rfl:_=21:=hr.symm.trans (et (ip d) (et (ah j) (iN m)))
 exact⟨rfl,U⟩
 refine Sz (dF d) (Sz (dF d) (Sz (dF d) (Sz (dF d) (fw (.bool false) (Ih rfl (dF d) rfl) (nt (jf (sk (Ic (sr (Kz (vP h 1) (Lz (.string ⟨v9 a.bT⟩) k 0 C2 (fw (.bool (decide (a.bT≠([])))) (Js rfl rfl) (Mz rfl ?_)))))))))))))
 by_cases c:a.bT≠([])
 refine Gz (vP h 1) (dT c) (Gl (.string ⟨v9 a.bT⟩) (dT c) k 0 C2 ?_)
 obtain⟨o,r⟩:∃ q,ib a.bT=q:=⟨_,rfl⟩
 obtain⟨az,N,ai,O,aj⟩:=Ii k
 refine vR (dT c) L9 (kM _ _ a.bT o N r) ?_
 rintro _ aA ⟨rfl,P,E,F⟩
 have u:=O _ _ P
 replace E: ¬ (o=0)∨(1≤a.bT.length∧a.bT.length≤12):=E
 replace F:a.bT.length < 1∨a.bT.length > 12∨o=0:=F
 refine gw (.bool (decide (¬ (o=0)))) (dT c) (IG (e:= !(decide (o=0))) yk decide_not.symm) (gw (.bool (decide (¬ (o=0)))) (dT c) (Iq rfl) ?_)
 by_cases g:o=0
 refine gw (vP h 1) (dF (Lh g)) yk (gw (.string ⟨v9 a.bT⟩) (dF (Lh g)) (Io rfl (bZ.one C2 (jR.of (u.cls (i:=0) rfl) rfl))) (gw (vP h 0) (dF (Lh g)) yk (gw (.string ⟨v9 a.bF⟩) (dF (Lh g)) (Io rfl (bZ.one C2 (jR.of (u.cls (i:=0) rfl) rfl))) (gw (.bool (decide (a.bT≤a.bF))) (dF (Lh g)) (IG (e:=Op.bytesLess a.bT a.bF || decide (a.bT=a.bF)) (JA rfl rfl) (zN _ _)) (gw (.bool (decide (a.bT≤a.bF))) (dT c) (Ih rfl (dF (Lh g)) rfl) (fw (.bool (decide (a.bT≤a.bF))) (Iw rfl (dT c) rfl) (nt ?_)))))))
 by_cases y:a.bT≤a.bF
 refine jT (dT y) (sr (An rfl (rt (tR (rs ?_)))))
 have V:=u.pk []
 obtain rfl:_=21:=hr.symm.trans (et (iN d) (et (ip c) (et (ah r) (et (ip g) (ip y)))))
 exact⟨rfl,V⟩
 refine jF (dF y) (sk (sr (An rfl (rt (rs ?_)))))
 have W:=u.pk []
 obtain rfl:_=0:=hr.symm.trans (et (iN d) (et (ip c) (et (ah r) (et (ip g) (iN y)))))
 exact⟨rfl,W⟩
 refine Sz (dT g) (Sz (dT g) (Sz (dT g) (Sz (dT g) (Sz (dT g) (gw (.bool true) (dT c) (Iw rfl (dT g) rfl) (fw (.bool true) (Iw rfl (dT c) rfl) (nt (jt (sr (An rfl (rt (tR (rs ?_)))))))))))))
 have X:=u.pk []
 obtain rfl:_=21:=hr.symm.trans (et (iN d) (et (ip c) (et (ah r) (iN g))))
 exact⟨rfl,X⟩
 refine Sz (dF c) (Sz (dF c) (Sz (dF c) (Sz (dF c) (Sz (dF c) (IR rfl rfl rfl (IR rfl rfl rfl (IR rfl rfl rfl (IR rfl rfl rfl (IR rfl rfl rfl (Sz (dF c) (fw (.bool false) (Ih rfl (dF c) rfl) (nt (jf (sk (sr (An rfl (rt (rs ?_))))))))))))))))))
 have Y:=k.pk []
 obtain rfl:_=0:=hr.symm.trans (et (iN d) (iN c))
 exact⟨rfl,Y⟩
def mJ (c:bi):Int:=
 bnd (tO c) fun a=>bnd (kG a) fun b=>b
theorem tQ (w D) (d:bi) (p) (H:Own w D w []) (hr:mJ d=p):
    Calls v8 185 #[.agg (bi.cells d).toArray] w (d9 fun v w'=>v=vI p∧Own w D w' []):=by
 refine cb Tryz.func185 ?_
 refine sr ?_
 refine dV (bi.cells d) 72 H ?_
 intro x y e
 refine Ar rfl (La (bi.cells d) e 0 M5 M4 ?_)
 obtain⟨c,a⟩:∃ q,tO d=q:=⟨_,rfl⟩
 obtain⟨z,f,r,g,s⟩:=Ii e
 refine cl Tryz.call182 (yn _ _ d c f a) ?_
 rintro _ A ⟨rfl,h⟩
 have m:=g _ _ h
 obtain⟨i,b⟩:∃ q,kG c=q:=⟨_,rfl⟩
 obtain⟨B,j,t,k,u⟩:=Ii m
 refine cl Tryz.call116 (qG _ _ c i j b) ?_
 rintro _ C ⟨rfl,l⟩
 have n:=k _ _ l
 refine An rfl (rt (rs ?_))
 have o:=n.pk []
 obtain rfl:_=i:=hr.symm.trans (et (ah a) (ah b))
 exact⟨rfl,o⟩
def pW (b:bi):Int:=
 bnd (mJ b) fun a=>if a=0 then if b.bS < 1 then 1 else if b.bS > 4 then 1 else 0 else a
theorem yu (w D) (c:bi) (s) (H:Own w D w []) (hr:pW c=s):
    Calls v8 181 #[.agg (bi.cells c).toArray] w (d9 fun v w'=>v=vI s∧Own w D w' []):=by
 refine cb Tryz.func181 ?_
 refine sr ?_
 refine dV (bi.cells c) 72 H ?_
 intro i x j
 refine An rfl (Ic (sr (La (bi.cells c) j 0 M5 M4 ?_)))
 obtain⟨g,b⟩:∃ q,mJ c=q:=⟨_,rfl⟩
 obtain⟨y,k,t,l,u⟩:=Ii j
 refine cl Tryz.call185 (tQ _ _ c g k b) ?_
 rintro _ z ⟨rfl,m⟩
 have d:=l _ _ m
 refine Ar rfl (Mz rfl (fw (.bool (decide (¬ (g=0)))) (IG (e:= !(decide (g=0))) yk decide_not.symm) (nt ?_)))
 by_cases f:g=0
 refine jF (dF (Lh f)) (sk (Ic (sr (Kz (vP i 5) (Lz (vI c.bS) d 0 C4 (Kz (.bool (decide (c.bS < 1))) (Mz rfl ?_)))))))
 by_cases a:c.bS < 1
 refine Sz (dT a) (Sz (dT a) (Sz (dT a) (fw (.bool true) (Iw rfl (dT a) rfl) (nt (jt (sr (An rfl (rt (tR (rs ?_))))))))))
 have n:=d.pk []
 obtain rfl:_=1:=hr.symm.trans (et (ah b) (et (ip f) (ip a)))
 exact⟨rfl,n⟩
 refine Gz (vP i 5) (dF a) (Gl (vI c.bS) (dF a) d 0 C4 (Gz (.bool (decide (c.bS > 4))) (dF a) (fw (.bool (decide (c.bS > 4))) (Ih rfl (dF a) rfl) (nt ?_))))
 by_cases h:c.bS > 4
 refine jT (dT h) (sr (An rfl (rt (tR (rs ?_)))))
 have o:=d.pk []
 obtain rfl:_=1:=hr.symm.trans (et (ah b) (et (ip f) (et (iN a) (ip h))))
 exact⟨rfl,o⟩
 refine jF (dF h) (sk (sr (An rfl (rt (rs ?_)))))
 have p:=d.pk []
 obtain rfl:_=0:=hr.symm.trans (et (ah b) (et (ip f) (et (iN a) (iN h))))
 exact⟨rfl,p⟩
 refine jT (dT f) (sr (Mz rfl (An rfl (rt (tR (rs ?_))))))
 have r:=d.pk []
 obtain rfl:_=g:=hr.symm.trans (et (ah b) (iN f))
 exact⟨rfl,r⟩
theorem uM (w D j) (H:Own w D w []) (c:j=5):
    Calls v8 158 #[vI j] w (d9 fun v w'=>v= .tuple #[.agg #[.bool true, .func (.func 184) #[] #[], .func (.func 185) #[] #[], .func (.func 182) #[] #[], .func (.func 186) #[] #[]], .bool true]∧Own w D w' []):=by
 subst c
 refine cb M0 ?_
 refine sr ?_
 refine dV [.bool false, .nilFunc, .nilFunc, .nilFunc, .nilFunc] 231 H ?_
 intro l n d
 refine Ar rfl (Kz (.agg #[.bool false, .func (.func 172) #[] #[], .func (.func 173) #[] #[], .func (.func 174) #[] #[], .func (.func 175) #[] #[]]) (Kz (.agg #[.bool true, .func (.func 176) #[] #[], .func (.func 177) #[] #[], .func (.func 174) #[] #[], .func (.func 178) #[] #[]]) (Kz (.agg #[.bool true, .func (.func 172) #[] #[], .func (.func 173) #[] #[], .func (.func 174) #[] #[], .func (.func 179) #[] #[]]) (Kz (.agg #[.bool false, .func (.func 180) #[] #[], .func (.func 181) #[] #[], .func (.func 182) #[] #[], .func (.func 183) #[] #[]]) (Kz (.agg #[.bool true, .func (.func 184) #[] #[], .func (.func 185) #[] #[], .func (.func 182) #[] #[], .func (.func 186) #[] #[]]) (Kz (.agg #[.bool false, .nilFunc, .nilFunc, .nilFunc, .nilFunc, .bool false, .func (.func 172) #[] #[], .func (.func 173) #[] #[], .func (.func 174) #[] #[], .func (.func 175) #[] #[], .bool true, .func (.func 176) #[] #[], .func (.func 177) #[] #[], .func (.func 174) #[] #[], .func (.func 178) #[] #[], .bool true, .func (.func 172) #[] #[], .func (.func 173) #[] #[], .func (.func 174) #[] #[], .func (.func 179) #[] #[], .bool false, .func (.func 180) #[] #[], .func (.func 181) #[] #[], .func (.func 182) #[] #[], .func (.func 183) #[] #[], .bool true, .func (.func 184) #[] #[], .func (.func 185) #[] #[], .func (.func 182) #[] #[], .func (.func 186) #[] #[]]) ?_))))))
 refine dV [.bool false, .nilFunc, .nilFunc, .nilFunc, .nilFunc, .bool false, .nilFunc, .nilFunc, .nilFunc, .nilFunc, .bool false, .nilFunc, .nilFunc, .nilFunc, .nilFunc, .bool false, .nilFunc, .nilFunc, .nilFunc, .nilFunc, .bool false, .nilFunc, .nilFunc, .nilFunc, .nilFunc, .bool false, .nilFunc, .nilFunc, .nilFunc, .nilFunc] 244 d ?_
 intro e o f
 refine dS [.bool false, .nilFunc, .nilFunc, .nilFunc, .nilFunc, .bool false, .func (.func 172) #[] #[], .func (.func 173) #[] #[], .func (.func 174) #[] #[], .func (.func 175) #[] #[], .bool true, .func (.func 176) #[] #[], .func (.func 177) #[] #[], .func (.func 174) #[] #[], .func (.func 178) #[] #[], .bool true, .func (.func 172) #[] #[], .func (.func 173) #[] #[], .func (.func 174) #[] #[], .func (.func 179) #[] #[], .bool false, .func (.func 180) #[] #[], .func (.func 181) #[] #[], .func (.func 182) #[] #[], .func (.func 183) #[] #[], .bool true, .func (.func 184) #[] #[], .func (.func 185) #[] #[], .func (.func 182) #[] #[], .func (.func 186) #[] #[]] 0 f M1 ?_
 intro p a
 refine nt (Ic (sr (Mz rfl (Kz (.bool false) (Mz rfl (gw (vI 5) rfl (Iq rfl) (Gz (.bool false) rfl (fw (.bool false) (Ih rfl rfl rfl) (nt (jf (sk (sr (Mz rfl (Kz (vP e 25) (La ([.bool true, .func (.func 184) #[] #[], .func (.func 185) #[] #[], .func (.func 182) #[] #[], .func (.func 186) #[] #[]]) a 0 M2 M3 ?_)))))))))))))))
 have g:=a.pb [0]
 refine dS [.bool true, .func (.func 184) #[] #[], .func (.func 185) #[] #[], .func (.func 182) #[] #[], .func (.func 186) #[] #[]] 0 g M3 ?_
 intro q b
 refine An rfl (rt (Fin.res (kS (vs:= [.agg #[.bool true, .func (.func 184) #[] #[], .func (.func 185) #[] #[], .func (.func 182) #[] #[], .func (.func 186) #[] #[]], .bool true]) rfl (eu.cell rfl (Iy (cs:= [.bool true, .func (.func 184) #[] #[], .func (.func 185) #[] #[], .func (.func 182) #[] #[], .func (.func 186) #[] #[]]) M2 M3 ((b.cls (i:=0) rfl).lit (k:=0) (m:=5) rfl)) (eu.tmp rfl eu.nil)) (Le rfl)) ?_))
 have h:=b.pk []
 exact⟨rfl,h⟩
def uw (a:bi):bi:=
 bi.mk a.aD ([]) ([]) a.bF a.bT 0
theorem yU (w D) (a:bi) (g:bi) (H:Own w D w []) (hr:uw a=g):
    Calls v8 184 #[.agg (bi.cells a).toArray] w (d9 fun v w'=>v= .agg (bi.cells g).toArray∧Own w D w' []):=by
 refine cb Tryz.func184 ?_
 refine sr ?_
 refine dV (bi.cells a) 72 H ?_
 intro c h e
 refine dV [vI 0, .string ⟨v9 ([])⟩, .string ⟨v9 ([])⟩, .string ⟨v9 ([])⟩, .string ⟨v9 ([])⟩,vI 0] 72 e ?_
 intro j l b
 refine ns (Kz (vP c 0) (Lz (vI a.aD) b 1 C4 (Kz (vP c 3) (Lz (.string ⟨v9 a.bF⟩) b 1 C2 (Kz (vP c 4) (Lz (.string ⟨v9 a.bT⟩) b 1 C2 (Kz (.agg #[vI a.aD, .string ⟨v9 ([])⟩, .string ⟨v9 ([])⟩, .string ⟨v9 a.bF⟩, .string ⟨v9 a.bT⟩,vI 0]) ?_)))))))
 refine dS [vI a.aD, .string ⟨v9 ([])⟩, .string ⟨v9 ([])⟩, .string ⟨v9 a.bF⟩, .string ⟨v9 a.bT⟩,vI 0] 0 b M4 ?_
 intro n d
 refine nt (rt (Fin.res (ol rfl rfl (Iy (cs:= [vI a.aD, .string ⟨v9 ([])⟩, .string ⟨v9 ([])⟩, .string ⟨v9 a.bF⟩, .string ⟨v9 a.bT⟩,vI 0]) M5 M4 ((d.cls (i:=0) rfl).lit (k:=0) (m:=6) rfl))) ?_))
 have f:=d.pk []
 obtain rfl:_=bi.mk a.aD ([]) ([]) a.bF a.bT 0:=hr.symm.trans rfl
 exact⟨rfl,f⟩
theorem uo (w D b) (H:Own w D w []) (p: ¬ (b=1)) (q: ¬ (b=2)) (r: ¬ (b=3)) (s: ¬ (b=4)) (t: ¬ (b=5)):
    Calls v8 158 #[vI b] w (d9 fun v w'=>v= .tuple #[.agg #[.bool false, .nilFunc, .nilFunc, .nilFunc, .nilFunc], .bool false]∧Own w D w' []):=by
 refine cb M0 ?_
 refine sr ?_
 refine dV [.bool false, .nilFunc, .nilFunc, .nilFunc, .nilFunc] 231 H ?_
 intro u x g
 refine Ar rfl (Kz (.agg #[.bool false, .func (.func 172) #[] #[], .func (.func 173) #[] #[], .func (.func 174) #[] #[], .func (.func 175) #[] #[]]) (Kz (.agg #[.bool true, .func (.func 176) #[] #[], .func (.func 177) #[] #[], .func (.func 174) #[] #[], .func (.func 178) #[] #[]]) (Kz (.agg #[.bool true, .func (.func 172) #[] #[], .func (.func 173) #[] #[], .func (.func 174) #[] #[], .func (.func 179) #[] #[]]) (Kz (.agg #[.bool false, .func (.func 180) #[] #[], .func (.func 181) #[] #[], .func (.func 182) #[] #[], .func (.func 183) #[] #[]]) (Kz (.agg #[.bool true, .func (.func 184) #[] #[], .func (.func 185) #[] #[], .func (.func 182) #[] #[], .func (.func 186) #[] #[]]) (Kz (.agg #[.bool false, .nilFunc, .nilFunc, .nilFunc, .nilFunc, .bool false, .func (.func 172) #[] #[], .func (.func 173) #[] #[], .func (.func 174) #[] #[], .func (.func 175) #[] #[], .bool true, .func (.func 176) #[] #[], .func (.func 177) #[] #[], .func (.func 174) #[] #[], .func (.func 178) #[] #[], .bool true, .func (.func 172) #[] #[], .func (.func 173) #[] #[], .func (.func 174) #[] #[], .func (.func 179) #[] #[], .bool false, .func (.func 180) #[] #[], .func (.func 181) #[] #[], .func (.func 182) #[] #[], .func (.func 183) #[] #[], .bool true, .func (.func 184) #[] #[], .func (.func 185) #[] #[], .func (.func 182) #[] #[], .func (.func 186) #[] #[]]) ?_))))))
 refine dV [.bool false, .nilFunc, .nilFunc, .nilFunc, .nilFunc, .bool false, .nilFunc, .nilFunc, .nilFunc, .nilFunc, .bool false, .nilFunc, .nilFunc, .nilFunc, .nilFunc, .bool false, .nilFunc, .nilFunc, .nilFunc, .nilFunc, .bool false, .nilFunc, .nilFunc, .nilFunc, .nilFunc, .bool false, .nilFunc, .nilFunc, .nilFunc, .nilFunc] 244 g ?_
 intro y z h
 refine dS [.bool false, .nilFunc, .nilFunc, .nilFunc, .nilFunc, .bool false, .func (.func 172) #[] #[], .func (.func 173) #[] #[], .func (.func 174) #[] #[], .func (.func 175) #[] #[], .bool true, .func (.func 176) #[] #[], .func (.func 177) #[] #[], .func (.func 174) #[] #[], .func (.func 178) #[] #[], .bool true, .func (.func 172) #[] #[], .func (.func 173) #[] #[], .func (.func 174) #[] #[], .func (.func 179) #[] #[], .bool false, .func (.func 180) #[] #[], .func (.func 181) #[] #[], .func (.func 182) #[] #[], .func (.func 183) #[] #[], .bool true, .func (.func 184) #[] #[], .func (.func 185) #[] #[], .func (.func 182) #[] #[], .func (.func 186) #[] #[]] 0 h M1 ?_
 intro A c
 refine nt (Ic (sr (Mz rfl (Kz (.bool (decide (b≤0))) (Mz rfl ?_)))))
 by_cases a:b≤0
 refine Sz (dT a) (Sz (dT a) (fw (.bool true) (Iw rfl (dT a) rfl) (nt (jt (sr (Kz (.agg #[.bool false, .nilFunc, .nilFunc, .nilFunc, .nilFunc]) ?_))))))
 have j:=c.pb [0]
 refine dS [.bool false, .nilFunc, .nilFunc, .nilFunc, .nilFunc] 0 j M3 ?_
 intro B d
 refine An rfl (rt (tR (Fin.res (kS (vs:= [.agg #[.bool false, .nilFunc, .nilFunc, .nilFunc, .nilFunc], .bool false]) rfl (eu.cell rfl (Iy (cs:= [.bool false, .nilFunc, .nilFunc, .nilFunc, .nilFunc]) M2 M3 ((d.cls (i:=0) rfl).lit (k:=0) (m:=5) rfl)) (eu.tmp rfl eu.nil)) (Le rfl)) ?_)))
 have l:=d.pk []
 exact⟨rfl,l⟩
 refine gw (vI b) (dF a) (Iq rfl) (Gz (.bool (decide (b ≥ 6))) (dF a) (fw (.bool (decide (b ≥ 6))) (Ih rfl (dF a) rfl) (nt ?_)))
 have e:(decide (b ≥ 6))=true:=(dT e6)
 refine jT e (sr (Kz (.agg #[.bool false, .nilFunc, .nilFunc, .nilFunc, .nilFunc]) ?_))
 have n:=c.pb [0]
 refine dS [.bool false, .nilFunc, .nilFunc, .nilFunc, .nilFunc] 0 n M3 ?_
 intro C f
 refine An rfl (rt (tR (Fin.res (kS (vs:= [.agg #[.bool false, .nilFunc, .nilFunc, .nilFunc, .nilFunc], .bool false]) rfl (eu.cell rfl (Iy (cs:= [.bool false, .nilFunc, .nilFunc, .nilFunc, .nilFunc]) M2 M3 ((f.cls (i:=0) rfl).lit (k:=0) (m:=5) rfl)) (eu.tmp rfl eu.nil)) (Le rfl)) ?_)))
 have o:=f.pk []
 exact⟨rfl,o⟩
def kH (a:bi):Int:=
 if a.aD=1 then bnd (si a) fun e=>if(e.aD=a.aD)∧(e.bY=a.bY)∧(e.aT=a.aT)∧(e.bF=a.bF)∧(e.bT=a.bT)∧(e.bS=a.bS) then bnd (qB a) fun j=>j else 40 else if a.aD=2 then bnd (vk a) fun f=>if(f.aD=a.aD)∧(f.bY=a.bY)∧(f.aT=a.aT)∧(f.bF=a.bF)∧(f.bT=a.bT)∧(f.bS=a.bS) then bnd (tN a) fun k=>k else 40 else if a.aD=3 then bnd (si a) fun b=>if(b.aD=a.aD)∧(b.bY=a.bY)∧(b.aT=a.aT)∧(b.bF=a.bF)∧(b.bT=a.bT)∧(b.bS=a.bS) then bnd (qB a) fun g=>g else 40 else if a.aD=4 then bnd (vo a) fun c=>if(c.aD=a.aD)∧(c.bY=a.bY)∧(c.aT=a.aT)∧(c.bF=a.bF)∧(c.bT=a.bT)∧(c.bS=a.bS) then bnd (pW a) fun h=>h else 40 else if a.aD=5 then bnd (uw a) fun d=>if(d.aD=a.aD)∧(d.bY=a.bY)∧(d.aT=a.aT)∧(d.bF=a.bF)∧(d.bT=a.bT)∧(d.bS=a.bS) then bnd (mJ a) fun i=>i else 40 else 40
theorem sN (w D) (a:bi) (r0) (H:Own w D w []) (hr:kH a=r0):
    Calls v8 139 #[.agg (bi.cells a).toArray] w (d9 fun v w'=>v=vI r0∧Own w D w' []∧(¬ (r0=0)∨(1≤a.aD∧a.aD≤5))):=by
 refine cb Tryz.func139 ?_
 refine sr ?_
 refine dV (bi.cells a) 72 H ?_
 intro dn gI t
 refine Ar rfl (Kz (vP dn 0) (Lz (vI a.aD) t 0 C4 ?_))
 by_cases l:a.aD=1
 obtain⟨gJ,aR,eG,aS,eH⟩:=Ii t
 refine cl M8 (uH _ _ a.aD aR (of_decide_eq_true (dT l))) ?_
 rintro _ gK ⟨rfl,aT⟩
 have dw:=aS _ _ aT
 refine Mz rfl (Kz (.agg #[.bool false, .func (.func 172) #[] #[], .func (.func 173) #[] #[], .func (.func 174) #[] #[], .func (.func 175) #[] #[]]) (Kz (.bool true) ?_))
 refine dV [.bool false, .nilFunc, .nilFunc, .nilFunc, .nilFunc] 231 dw ?_
 intro aU gL dx
 refine dS [.bool false, .func (.func 172) #[] #[], .func (.func 173) #[] #[], .func (.func 174) #[] #[], .func (.func 175) #[] #[]] 0 dx M3 ?_
 intro gM dz
 refine An rfl (Ic (Ic ?_))
 refine qy [] (Iu (Iu IC)) dz ?_
 intro gN dA
 refine qv 0 rfl rfl (qk (.bool false) 1 rfl (qv 2 rfl rfl (Ip (v:=vP aU 1) (rs:= []) 3 rfl rfl rfl rfl e7 (fun _ _=>yk) (Ip (v:= .func (.func 172) #[] #[]) (rs:= []) 4 rfl rfl rfl rfl e7 (fun _ ⟨_,h⟩=>Io rfl (bZ.one M9 (jR.of (h.cls (i:=0) rfl) rfl))) (Ip (v:= .agg (bi.cells a).toArray) (rs:= []) 5 rfl rfl rfl rfl e7 (fun _ ⟨_,h⟩=>Io rfl (Iy (cs:=(bi.cells a)) M5 M4 ((h.cls (i:=1) rfl).lit (k:=0) (m:=6) rfl))) (Ip (v:= .agg (bi.cells a).toArray) (rs:= []) 7 rfl rfl rfl rfl e7 (fun _ ⟨_,h⟩=>Io rfl (Iy (cs:=(bi.cells a)) M5 M4 ((h.cls (i:=1) rfl).lit (k:=0) (m:=6) rfl))) ?_))))))
 obtain⟨f,F⟩:∃ q,si a=q:=⟨_,rfl⟩
 obtain⟨gP,aV,eO,aW,eP⟩:=Ii dA
 refine Ju 6 rfl rfl rfl rfl e7 (IK Tryz.call172 rfl rfl (wC _ _ a f aV F) ?_)
 rintro _ gQ ⟨rfl,aX⟩
 have G:=aW _ _ aX
 refine⟨.inr ⟨_,G⟩, ?_⟩
 refine Ip (v:= .bool (decide (¬ ((f.aD=a.aD)∧(f.bY=a.bY)∧(f.aT=a.aT)∧(f.bF=a.bF)∧(f.bT=a.bT)∧(f.bS=a.bS))))) (rs:= []) 8 rfl rfl rfl rfl e7 (fun _ _=>IG (e:= !(decide ((f.aD=a.aD)∧(f.bY=a.bY)∧(f.aT=a.aT)∧(f.bF=a.bF)∧(f.bT=a.bT)∧(f.bS=a.bS)))) (Jt rfl rfl e7 rfl (ku.struct N0 e7 (jO.dec (jO.cons (u:=vI f.aD) (v:=vI a.aD) f4 (fun _=>by kernel_rfl) (fun _=>by kernel_rfl) (ku.int B1) (jO.cons (u:= .string ⟨v9 f.bY⟩) (v:= .string ⟨v9 a.bY⟩) f4 (fun _=>by kernel_rfl) (fun _=>by kernel_rfl) (ku.string B3) (jO.cons (u:= .string ⟨v9 f.aT⟩) (v:= .string ⟨v9 a.aT⟩) f4 (fun _=>by kernel_rfl) (fun _=>by kernel_rfl) (ku.string B3) (jO.cons (u:= .string ⟨v9 f.bF⟩) (v:= .string ⟨v9 a.bF⟩) f4 (fun _=>by kernel_rfl) (fun _=>by kernel_rfl) (ku.string B3) (jO.cons (u:= .string ⟨v9 f.bT⟩) (v:= .string ⟨v9 a.bT⟩) f4 (fun _=>by kernel_rfl) (fun _=>by kernel_rfl) (ku.string B3) (jO.cons (u:=vI f.bS) (v:=vI a.bS) f4 (fun _=>by kernel_rfl) (fun _=>by kernel_rfl) (ku.int B1) (jO.nil.up (Lg _)))))))) ((congrArg (decide (f.aD=a.aD) && ·) ((congrArg (decide (f.bY=a.bY) && ·) ((congrArg (decide (f.aT=a.aT) && ·) ((congrArg (decide (f.bF=a.bF) && ·) ((congrArg (decide (f.bT=a.bT) && ·) rF).trans jA)).trans jA)).trans jA)).trans jA)).trans jA)))) decide_not.symm) (qt (v:= .bool (decide (¬ ((f.aD=a.aD)∧(f.bY=a.bY)∧(f.aT=a.aT)∧(f.bF=a.bF)∧(f.bT=a.bT)∧(f.bS=a.bS))))) 9 rfl (fun _ _=>Ih rfl rfl rfl) (qn (Ig ?_)))
 by_cases N:(f.aD=a.aD)∧(f.bY=a.bY)∧(f.aT=a.aT)∧(f.bF=a.bF)∧(f.bT=a.bT)∧(f.bS=a.bS)
 refine jF (dF (Lh N)) (sk (sr (Kz (vP aU 2) (Lz (.func (.func 173) #[] #[]) G 0 N1 (La (bi.cells a) G 1 M5 M4 ?_)))))
 obtain⟨aY,P⟩:∃ q,qB a=q:=⟨_,rfl⟩
 obtain⟨gT,aZ,eQ,bf,eT⟩:=Ii G
 refine WL.do rfl (IK Tryz.call173 rfl rfl (uI _ _ a aY aZ P) ?_)
 rintro _ gU ⟨rfl,bg⟩
 have dB:=bf _ _ bg
 refine An rfl (rt (rs ?_))
 have dC:=dB.pk []
 obtain rfl:_=aY:=hr.symm.trans (et (ip l) (et (ah F) (et (ip N) (ah P))))
 exact⟨rfl,dC,e6⟩
 refine jT (dT N) (sr (An rfl (rt (tR (rs ?_)))))
 have dD:=G.pk []
 obtain rfl:_=40:=hr.symm.trans (et (ip l) (et (ah F) (iN N)))
 exact⟨rfl,dD,e6⟩
 by_cases n:a.aD=2
 obtain⟨gV,bn,eU,bq,eX⟩:=Ii t
 refine cl M8 (uJ _ _ a.aD bn (of_decide_eq_true (dT n))) ?_
 rintro _ gW ⟨rfl,bu⟩
 have dE:=bq _ _ bu
 refine Mz rfl (Kz (.agg #[.bool true, .func (.func 176) #[] #[], .func (.func 177) #[] #[], .func (.func 174) #[] #[], .func (.func 178) #[] #[]]) (Kz (.bool true) ?_))
 refine dV [.bool false, .nilFunc, .nilFunc, .nilFunc, .nilFunc] 231 dE ?_
 intro bv gX dG
 refine dS [.bool true, .func (.func 176) #[] #[], .func (.func 177) #[] #[], .func (.func 174) #[] #[], .func (.func 178) #[] #[]] 0 dG M3 ?_
 intro gY dH
 refine An rfl (Ic (Ic ?_))
 refine qy [] (Iu (Iu IC)) dH ?_
 intro gZ dI
 refine qv 0 rfl rfl (qk (.bool false) 1 rfl (qv 2 rfl rfl (Ip (v:=vP bv 1) (rs:= []) 3 rfl rfl rfl rfl e7 (fun _ _=>yk) (Ip (v:= .func (.func 176) #[] #[]) (rs:= []) 4 rfl rfl rfl rfl e7 (fun _ ⟨_,h⟩=>Io rfl (bZ.one M9 (jR.of (h.cls (i:=0) rfl) rfl))) (Ip (v:= .agg (bi.cells a).toArray) (rs:= []) 5 rfl rfl rfl rfl e7 (fun _ ⟨_,h⟩=>Io rfl (Iy (cs:=(bi.cells a)) M5 M4 ((h.cls (i:=1) rfl).lit (k:=0) (m:=6) rfl))) (Ip (v:= .agg (bi.cells a).toArray) (rs:= []) 7 rfl rfl rfl rfl e7 (fun _ ⟨_,h⟩=>Io rfl (Iy (cs:=(bi.cells a)) M5 M4 ((h.cls (i:=1) rfl).lit (k:=0) (m:=6) rfl))) ?_))))))
 obtain⟨g,I⟩:∃ q,vk a=q:=⟨_,rfl⟩
 obtain⟨ib,bz,eY,bA,eZ⟩:=Ii dI
 refine Ju 6 rfl rfl rfl rfl e7 (IK Tryz.call176 rfl rfl (zI _ _ a g bz I) ?_)
 rintro _ ic ⟨rfl,bB⟩
 have J:=bA _ _ bB
 refine⟨.inr ⟨_,J⟩, ?_⟩
 refine Ip (v:= .bool (decide (¬ ((g.aD=a.aD)∧(g.bY=a.bY)∧(g.aT=a.aT)∧(g.bF=a.bF)∧(g.bT=a.bT)∧(g.bS=a.bS))))) (rs:= []) 8 rfl rfl rfl rfl e7 (fun _ _=>IG (e:= !(decide ((g.aD=a.aD)∧(g.bY=a.bY)∧(g.aT=a.aT)∧(g.bF=a.bF)∧(g.bT=a.bT)∧(g.bS=a.bS)))) (Jt rfl rfl e7 rfl (ku.struct N0 e7 (jO.dec (jO.cons (u:=vI g.aD) (v:=vI a.aD) f4 (fun _=>by kernel_rfl) (fun _=>by kernel_rfl) (ku.int B1) (jO.cons (u:= .string ⟨v9 g.bY⟩) (v:= .string ⟨v9 a.bY⟩) f4 (fun _=>by kernel_rfl) (fun _=>by kernel_rfl) (ku.string B3) (jO.cons (u:= .string ⟨v9 g.aT⟩) (v:= .string ⟨v9 a.aT⟩) f4 (fun _=>by kernel_rfl) (fun _=>by kernel_rfl) (ku.string B3) (jO.cons (u:= .string ⟨v9 g.bF⟩) (v:= .string ⟨v9 a.bF⟩) f4 (fun _=>by kernel_rfl) (fun _=>by kernel_rfl) (ku.string B3) (jO.cons (u:= .string ⟨v9 g.bT⟩) (v:= .string ⟨v9 a.bT⟩) f4 (fun _=>by kernel_rfl) (fun _=>by kernel_rfl) (ku.string B3) (jO.cons (u:=vI g.bS) (v:=vI a.bS) f4 (fun _=>by kernel_rfl) (fun _=>by kernel_rfl) (ku.int B1) (jO.nil.up (Lg _)))))))) ((congrArg (decide (g.aD=a.aD) && ·) ((congrArg (decide (g.bY=a.bY) && ·) ((congrArg (decide (g.aT=a.aT) && ·) ((congrArg (decide (g.bF=a.bF) && ·) ((congrArg (decide (g.bT=a.bT) && ·) rF).trans jA)).trans jA)).trans jA)).trans jA)).trans jA)))) decide_not.symm) (qt (v:= .bool (decide (¬ ((g.aD=a.aD)∧(g.bY=a.bY)∧(g.aT=a.aT)∧(g.bF=a.bF)∧(g.bT=a.bT)∧(g.bS=a.bS))))) 9 rfl (fun _ _=>Ih rfl rfl rfl) (qn (Ig ?_)))
 by_cases O:(g.aD=a.aD)∧(g.bY=a.bY)∧(g.aT=a.aT)∧(g.bF=a.bF)∧(g.bT=a.bT)∧(g.bS=a.bS)
 refine jF (dF (Lh O)) (sk (sr (Kz (vP bv 2) (Lz (.func (.func 177) #[] #[]) J 0 N1 (La (bi.cells a) J 1 M5 M4 ?_)))))
 obtain⟨bC,Q⟩:∃ q,tN a=q:=⟨_,rfl⟩
 obtain⟨ig,bD,fe,bE,fo⟩:=Ii J
 refine WL.do rfl (IK Tryz.call177 rfl rfl (ym _ _ a bC bD Q) ?_)
 rintro _ ik ⟨rfl,X⟩
 have bF:=bE _ _ X
 refine An rfl (rt (rs ?_))
 have bG:=bF.pk []
 obtain rfl:_=bC:=hr.symm.trans (et (iN l) (et (ip n) (et (ah I) (et (ip O) (ah Q)))))
 exact⟨rfl,bG,e6⟩
 refine jT (dT O) (sr (An rfl (rt (tR (rs ?_)))))
 have bH:=J.pk []
 obtain rfl:_=40:=hr.symm.trans (et (iN l) (et (ip n) (et (ah I) (iN O))))
 exact⟨rfl,bH,e6⟩
 by_cases j:a.aD=3
 obtain⟨fq,Y,dJ,Z,dK⟩:=Ii t
 refine cl M8 (uK _ _ a.aD Y (of_decide_eq_true (dT j))) ?_
 rintro _ fu ⟨rfl,aa⟩
 have bI:=Z _ _ aa
 refine Mz rfl (Kz (.agg #[.bool true, .func (.func 172) #[] #[], .func (.func 173) #[] #[], .func (.func 174) #[] #[], .func (.func 179) #[] #[]]) (Kz (.bool true) ?_))
 refine dV [.bool false, .nilFunc, .nilFunc, .nilFunc, .nilFunc] 231 bI ?_
 intro R fw bJ
 refine dS [.bool true, .func (.func 172) #[] #[], .func (.func 173) #[] #[], .func (.func 174) #[] #[], .func (.func 179) #[] #[]] 0 bJ M3 ?_
 intro fA bK
 refine An rfl (Ic (Ic ?_))
 refine qy [] (Iu (Iu IC)) bK ?_
 intro fB bL
 refine qv 0 rfl rfl (qk (.bool false) 1 rfl (qv 2 rfl rfl (Ip (v:=vP R 1) (rs:= []) 3 rfl rfl rfl rfl e7 (fun _ _=>yk) (Ip (v:= .func (.func 172) #[] #[]) (rs:= []) 4 rfl rfl rfl rfl e7 (fun _ ⟨_,h⟩=>Io rfl (bZ.one M9 (jR.of (h.cls (i:=0) rfl) rfl))) (Ip (v:= .agg (bi.cells a).toArray) (rs:= []) 5 rfl rfl rfl rfl e7 (fun _ ⟨_,h⟩=>Io rfl (Iy (cs:=(bi.cells a)) M5 M4 ((h.cls (i:=1) rfl).lit (k:=0) (m:=6) rfl))) (Ip (v:= .agg (bi.cells a).toArray) (rs:= []) 7 rfl rfl rfl rfl e7 (fun _ ⟨_,h⟩=>Io rfl (Iy (cs:=(bi.cells a)) M5 M4 ((h.cls (i:=1) rfl).lit (k:=0) (m:=6) rfl))) ?_))))))
 obtain⟨b,x⟩:∃ q,si a=q:=⟨_,rfl⟩
 obtain⟨fC,ae,dL,af,dM⟩:=Ii bL
 refine Ju 6 rfl rfl rfl rfl e7 (IK Tryz.call172 rfl rfl (wC _ _ a b ae x) ?_)
 rintro _ fD ⟨rfl,ag⟩
 have p:=af _ _ ag
 refine⟨.inr ⟨_,p⟩, ?_⟩
 refine Ip (v:= .bool (decide (¬ ((b.aD=a.aD)∧(b.bY=a.bY)∧(b.aT=a.aT)∧(b.bF=a.bF)∧(b.bT=a.bT)∧(b.bS=a.bS))))) (rs:= []) 8 rfl rfl rfl rfl e7 (fun _ _=>IG (e:= !(decide ((b.aD=a.aD)∧(b.bY=a.bY)∧(b.aT=a.aT)∧(b.bF=a.bF)∧(b.bT=a.bT)∧(b.bS=a.bS)))) (Jt rfl rfl e7 rfl (ku.struct N0 e7 (jO.dec (jO.cons (u:=vI b.aD) (v:=vI a.aD) f4 (fun _=>by kernel_rfl) (fun _=>by kernel_rfl) (ku.int B1) (jO.cons (u:= .string ⟨v9 b.bY⟩) (v:= .string ⟨v9 a.bY⟩) f4 (fun _=>by kernel_rfl) (fun _=>by kernel_rfl) (ku.string B3) (jO.cons (u:= .string ⟨v9 b.aT⟩) (v:= .string ⟨v9 a.aT⟩) f4 (fun _=>by kernel_rfl) (fun _=>by kernel_rfl) (ku.string B3) (jO.cons (u:= .string ⟨v9 b.bF⟩) (v:= .string ⟨v9 a.bF⟩) f4 (fun _=>by kernel_rfl) (fun _=>by kernel_rfl) (ku.string B3) (jO.cons (u:= .string ⟨v9 b.bT⟩) (v:= .string ⟨v9 a.bT⟩) f4 (fun _=>by kernel_rfl) (fun _=>by kernel_rfl) (ku.string B3) (jO.cons (u:=vI b.bS) (v:=vI a.bS) f4 (fun _=>by kernel_rfl) (fun _=>by kernel_rfl) (ku.int B1) (jO.nil.up (Lg _)))))))) ((congrArg (decide (b.aD=a.aD) && ·) ((congrArg (decide (b.bY=a.bY) && ·) ((congrArg (decide (b.aT=a.aT) && ·) ((congrArg (decide (b.bF=a.bF) && ·) ((congrArg (decide (b.bT=a.bT) && ·) rF).trans jA)).trans jA)).trans jA)).trans jA)).trans jA)))) decide_not.symm) (qt (v:= .bool (decide (¬ ((b.aD=a.aD)∧(b.bY=a.bY)∧(b.aT=a.aT)∧(b.bF=a.bF)∧(b.bT=a.bT)∧(b.bS=a.bS))))) 9 rfl (fun _ _=>Ih rfl rfl rfl) (qn (Ig ?_)))
 by_cases A:(b.aD=a.aD)∧(b.bY=a.bY)∧(b.aT=a.aT)∧(b.bF=a.bF)∧(b.bT=a.bT)∧(b.bS=a.bS)
 refine jF (dF (Lh A)) (sk (sr (Kz (vP R 2) (Lz (.func (.func 173) #[] #[]) p 0 N1 (La (bi.cells a) p 1 M5 M4 ?_)))))
 obtain⟨S,K⟩:∃ q,qB a=q:=⟨_,rfl⟩
 obtain⟨fE,ai,dN,aj,dO⟩:=Ii p
 refine WL.do rfl (IK Tryz.call173 rfl rfl (uI _ _ a S ai K) ?_)
 rintro _ fF ⟨rfl,ak⟩
 have bM:=aj _ _ ak
 refine An rfl (rt (rs ?_))
 have bN:=bM.pk []
 obtain rfl:_=S:=hr.symm.trans (et (iN l) (et (iN n) (et (ip j) (et (ah x) (et (ip A) (ah K))))))
 exact⟨rfl,bN,e6⟩
 refine jT (dT A) (sr (An rfl (rt (tR (rs ?_)))))
 have bO:=p.pk []
 obtain rfl:_=40:=hr.symm.trans (et (iN l) (et (iN n) (et (ip j) (et (ah x) (iN A)))))
 exact⟨rfl,bO,e6⟩
 by_cases o:a.aD=4
 obtain⟨fG,au,dP,av,dQ⟩:=Ii t
 refine cl M8 (uL _ _ a.aD au (of_decide_eq_true (dT o))) ?_
 rintro _ fH ⟨rfl,ax⟩
 have bP:=av _ _ ax
 refine Mz rfl (Kz (.agg #[.bool false, .func (.func 180) #[] #[], .func (.func 181) #[] #[], .func (.func 182) #[] #[], .func (.func 183) #[] #[]]) (Kz (.bool true) ?_))
 refine dV [.bool false, .nilFunc, .nilFunc, .nilFunc, .nilFunc] 231 bP ?_
 intro T fI bQ
 refine dS [.bool false, .func (.func 180) #[] #[], .func (.func 181) #[] #[], .func (.func 182) #[] #[], .func (.func 183) #[] #[]] 0 bQ M3 ?_
 intro fJ bR
 refine An rfl (Ic (Ic ?_))
 refine qy [] (Iu (Iu IC)) bR ?_
 intro fK bS
 refine qv 0 rfl rfl (qk (.bool false) 1 rfl (qv 2 rfl rfl (Ip (v:=vP T 1) (rs:= []) 3 rfl rfl rfl rfl e7 (fun _ _=>yk) (Ip (v:= .func (.func 180) #[] #[]) (rs:= []) 4 rfl rfl rfl rfl e7 (fun _ ⟨_,h⟩=>Io rfl (bZ.one M9 (jR.of (h.cls (i:=0) rfl) rfl))) (Ip (v:= .agg (bi.cells a).toArray) (rs:= []) 5 rfl rfl rfl rfl e7 (fun _ ⟨_,h⟩=>Io rfl (Iy (cs:=(bi.cells a)) M5 M4 ((h.cls (i:=1) rfl).lit (k:=0) (m:=6) rfl))) (Ip (v:= .agg (bi.cells a).toArray) (rs:= []) 7 rfl rfl rfl rfl e7 (fun _ ⟨_,h⟩=>Io rfl (Iy (cs:=(bi.cells a)) M5 M4 ((h.cls (i:=1) rfl).lit (k:=0) (m:=6) rfl))) ?_))))))
 obtain⟨c,y⟩:∃ q,vo a=q:=⟨_,rfl⟩
 obtain⟨fM,ay,dR,az,dU⟩:=Ii bS
 refine Ju 6 rfl rfl rfl rfl e7 (IK Tryz.call180 rfl rfl (zJ _ _ a c ay y) ?_)
 rintro _ fO ⟨rfl,aA⟩
 have r:=az _ _ aA
 refine⟨.inr ⟨_,r⟩, ?_⟩
 refine Ip (v:= .bool (decide (¬ ((c.aD=a.aD)∧(c.bY=a.bY)∧(c.aT=a.aT)∧(c.bF=a.bF)∧(c.bT=a.bT)∧(c.bS=a.bS))))) (rs:= []) 8 rfl rfl rfl rfl e7 (fun _ _=>IG (e:= !(decide ((c.aD=a.aD)∧(c.bY=a.bY)∧(c.aT=a.aT)∧(c.bF=a.bF)∧(c.bT=a.bT)∧(c.bS=a.bS)))) (Jt rfl rfl e7 rfl (ku.struct N0 e7 (jO.dec (jO.cons (u:=vI c.aD) (v:=vI a.aD) f4 (fun _=>by kernel_rfl) (fun _=>by kernel_rfl) (ku.int B1) (jO.cons (u:= .string ⟨v9 c.bY⟩) (v:= .string ⟨v9 a.bY⟩) f4 (fun _=>by kernel_rfl) (fun _=>by kernel_rfl) (ku.string B3) (jO.cons (u:= .string ⟨v9 c.aT⟩) (v:= .string ⟨v9 a.aT⟩) f4 (fun _=>by kernel_rfl) (fun _=>by kernel_rfl) (ku.string B3) (jO.cons (u:= .string ⟨v9 c.bF⟩) (v:= .string ⟨v9 a.bF⟩) f4 (fun _=>by kernel_rfl) (fun _=>by kernel_rfl) (ku.string B3) (jO.cons (u:= .string ⟨v9 c.bT⟩) (v:= .string ⟨v9 a.bT⟩) f4 (fun _=>by kernel_rfl) (fun _=>by kernel_rfl) (ku.string B3) (jO.cons (u:=vI c.bS) (v:=vI a.bS) f4 (fun _=>by kernel_rfl) (fun _=>by kernel_rfl) (ku.int B1) (jO.nil.up (Lg _)))))))) ((congrArg (decide (c.aD=a.aD) && ·) ((congrArg (decide (c.bY=a.bY) && ·) ((congrArg (decide (c.aT=a.aT) && ·) ((congrArg (decide (c.bF=a.bF) && ·) ((congrArg (decide (c.bT=a.bT) && ·) rF).trans jA)).trans jA)).trans jA)).trans jA)).trans jA)))) decide_not.symm) (qt (v:= .bool (decide (¬ ((c.aD=a.aD)∧(c.bY=a.bY)∧(c.aT=a.aT)∧(c.bF=a.bF)∧(c.bT=a.bT)∧(c.bS=a.bS))))) 9 rfl (fun _ _=>Ih rfl rfl rfl) (qn (Ig ?_)))
 by_cases B:(c.aD=a.aD)∧(c.bY=a.bY)∧(c.aT=a.aT)∧(c.bF=a.bF)∧(c.bT=a.bT)∧(c.bS=a.bS)
 refine jF (dF (Lh B)) (sk (sr (Kz (vP T 2) (Lz (.func (.func 181) #[] #[]) r 0 N1 (La (bi.cells a) r 1 M5 M4 ?_)))))
 obtain⟨U,L⟩:∃ q,pW a=q:=⟨_,rfl⟩
 obtain⟨fP,aB,dW,aC,dX⟩:=Ii r
 refine WL.do rfl (IK Tryz.call181 rfl rfl (yu _ _ a U aB L) ?_)
 rintro _ fQ ⟨rfl,aD⟩
 have bT:=aC _ _ aD
 refine An rfl (rt (rs ?_))
 have bU:=bT.pk []
 obtain rfl:_=U:=hr.symm.trans (et (iN l) (et (iN n) (et (iN j) (et (ip o) (et (ah y) (et (ip B) (ah L)))))))
 exact⟨rfl,bU,e6⟩
 refine jT (dT B) (sr (An rfl (rt (tR (rs ?_)))))
 have bV:=r.pk []
 obtain rfl:_=40:=hr.symm.trans (et (iN l) (et (iN n) (et (iN j) (et (ip o) (et (ah y) (iN B))))))
 exact⟨rfl,bV,e6⟩
 by_cases C:a.aD=5
 obtain⟨fT,aF,dY,aG,dZ⟩:=Ii t
 refine cl M8 (uM _ _ a.aD aF (of_decide_eq_true (dT C))) ?_
 rintro _ fU ⟨rfl,aH⟩
 have bW:=aG _ _ aH
 refine Mz rfl (Kz (.agg #[.bool true, .func (.func 184) #[] #[], .func (.func 185) #[] #[], .func (.func 182) #[] #[], .func (.func 186) #[] #[]]) (Kz (.bool true) ?_))
 refine dV [.bool false, .nilFunc, .nilFunc, .nilFunc, .nilFunc] 231 bW ?_
 intro V fV bX
 refine dS [.bool true, .func (.func 184) #[] #[], .func (.func 185) #[] #[], .func (.func 182) #[] #[], .func (.func 186) #[] #[]] 0 bX M3 ?_
 intro fZ bY
 refine An rfl (Ic (Ic ?_))
 refine qy [] (Iu (Iu IC)) bY ?_
 intro gm cu
 refine qv 0 rfl rfl (qk (.bool false) 1 rfl (qv 2 rfl rfl (Ip (v:=vP V 1) (rs:= []) 3 rfl rfl rfl rfl e7 (fun _ _=>yk) (Ip (v:= .func (.func 184) #[] #[]) (rs:= []) 4 rfl rfl rfl rfl e7 (fun _ ⟨_,h⟩=>Io rfl (bZ.one M9 (jR.of (h.cls (i:=0) rfl) rfl))) (Ip (v:= .agg (bi.cells a).toArray) (rs:= []) 5 rfl rfl rfl rfl e7 (fun _ ⟨_,h⟩=>Io rfl (Iy (cs:=(bi.cells a)) M5 M4 ((h.cls (i:=1) rfl).lit (k:=0) (m:=6) rfl))) (Ip (v:= .agg (bi.cells a).toArray) (rs:= []) 7 rfl rfl rfl rfl e7 (fun _ ⟨_,h⟩=>Io rfl (Iy (cs:=(bi.cells a)) M5 M4 ((h.cls (i:=1) rfl).lit (k:=0) (m:=6) rfl))) ?_))))))
 obtain⟨d,z⟩:∃ q,uw a=q:=⟨_,rfl⟩
 obtain⟨gp,aI,ed,aJ,ek⟩:=Ii cu
 refine Ju 6 rfl rfl rfl rfl e7 (IK Tryz.call184 rfl rfl (yU _ _ a d aI z) ?_)
 rintro _ gq ⟨rfl,aK⟩
 have s:=aJ _ _ aK
 refine⟨.inr ⟨_,s⟩, ?_⟩
 refine Ip (v:= .bool (decide (¬ ((d.aD=a.aD)∧(d.bY=a.bY)∧(d.aT=a.aT)∧(d.bF=a.bF)∧(d.bT=a.bT)∧(d.bS=a.bS))))) (rs:= []) 8 rfl rfl rfl rfl e7 (fun _ _=>IG (e:= !(decide ((d.aD=a.aD)∧(d.bY=a.bY)∧(d.aT=a.aT)∧(d.bF=a.bF)∧(d.bT=a.bT)∧(d.bS=a.bS)))) (Jt rfl rfl e7 rfl (ku.struct N0 e7 (jO.dec (jO.cons (u:=vI d.aD) (v:=vI a.aD) f4 (fun _=>by kernel_rfl) (fun _=>by kernel_rfl) (ku.int B1) (jO.cons (u:= .string ⟨v9 d.bY⟩) (v:= .string ⟨v9 a.bY⟩) f4 (fun _=>by kernel_rfl) (fun _=>by kernel_rfl) (ku.string B3) (jO.cons (u:= .string ⟨v9 d.aT⟩) (v:= .string ⟨v9 a.aT⟩) f4 (fun _=>by kernel_rfl) (fun _=>by kernel_rfl) (ku.string B3) (jO.cons (u:= .string ⟨v9 d.bF⟩) (v:= .string ⟨v9 a.bF⟩) f4 (fun _=>by kernel_rfl) (fun _=>by kernel_rfl) (ku.string B3) (jO.cons (u:= .string ⟨v9 d.bT⟩) (v:= .string ⟨v9 a.bT⟩) f4 (fun _=>by kernel_rfl) (fun _=>by kernel_rfl) (ku.string B3) (jO.cons (u:=vI d.bS) (v:=vI a.bS) f4 (fun _=>by kernel_rfl) (fun _=>by kernel_rfl) (ku.int B1) (jO.nil.up (Lg _)))))))) ((congrArg (decide (d.aD=a.aD) && ·) ((congrArg (decide (d.bY=a.bY) && ·) ((congrArg (decide (d.aT=a.aT) && ·) ((congrArg (decide (d.bF=a.bF) && ·) ((congrArg (decide (d.bT=a.bT) && ·) rF).trans jA)).trans jA)).trans jA)).trans jA)).trans jA)))) decide_not.symm) (qt (v:= .bool (decide (¬ ((d.aD=a.aD)∧(d.bY=a.bY)∧(d.aT=a.aT)∧(d.bF=a.bF)∧(d.bT=a.bT)∧(d.bS=a.bS))))) 9 rfl (fun _ _=>Ih rfl rfl rfl) (qn (Ig ?_)))
 by_cases E:(d.aD=a.aD)∧(d.bY=a.bY)∧(d.aT=a.aT)∧(d.bF=a.bF)∧(d.bT=a.bT)∧(d.bS=a.bS)
 refine jF (dF (Lh E)) (sk (sr (Kz (vP V 2) (Lz (.func (.func 185) #[] #[]) s 0 N1 (La (bi.cells a) s 1 M5 M4 ?_)))))
 obtain⟨W,M⟩:∃ q,mJ a=q:=⟨_,rfl⟩
 obtain⟨gu,aL,eu,aM,eB⟩:=Ii s
 refine WL.do rfl (IK Tryz.call185 rfl rfl (tQ _ _ a W aL M) ?_)
 rintro _ gy ⟨rfl,aN⟩
 have cz:=aM _ _ aN
 refine An rfl (rt (rs ?_))
 have cB:=cz.pk []
 obtain rfl:_=W:=hr.symm.trans (et (iN l) (et (iN n) (et (iN j) (et (iN o) (et (ip C) (et (ah z) (et (ip E) (ah M))))))))
 exact⟨rfl,cB,e6⟩
 refine jT (dT E) (sr (An rfl (rt (tR (rs ?_)))))
 have cK:=s.pk []
 obtain rfl:_=40:=hr.symm.trans (et (iN l) (et (iN n) (et (iN j) (et (iN o) (et (ip C) (et (ah z) (iN E)))))))
 exact⟨rfl,cK,e6⟩
 obtain⟨gz,aO,eD,aP,eF⟩:=Ii t
 refine cl M8 (uo _ _ a.aD aO e6 e6 e6 e6 e6) ?_
 rintro _ gB ⟨rfl,aQ⟩
 have cO:=aP _ _ aQ
 refine Mz rfl (Kz (.agg #[.bool false, .nilFunc, .nilFunc, .nilFunc, .nilFunc]) (Kz (.bool false) ?_))
 refine dV [.bool false, .nilFunc, .nilFunc, .nilFunc, .nilFunc] 231 cO ?_
 intro gD gF cZ
 refine dS [.bool false, .nilFunc, .nilFunc, .nilFunc, .nilFunc] 0 cZ M3 ?_
 intro gG df
 refine An rfl (Ic (Ic ?_))
 refine qy [] (Iu (Iu IC)) df ?_
 intro gH dh
 refine qv 0 rfl rfl (qk (.bool true) 1 rfl (qv 2 rfl rfl (Ik (rs:= []) 3 rfl rfl rfl rfl e7 (Ik (rs:= []) 4 rfl rfl rfl rfl e7 (Ik (rs:= []) 5 rfl rfl rfl rfl e7 (Ik (rs:= []) 6 rfl rfl rfl rfl e7 (Ik (rs:= []) 7 rfl rfl rfl rfl e7 (Ik (rs:= []) 8 rfl rfl rfl rfl e7 (qt (v:= .bool true) 9 rfl (fun _ _=>Iw rfl rfl rfl) (qn (Ig (jt (sr (An rfl (rt (tR (rs ?_)))))))))))))))))
 have di:=dh.pk []
 obtain rfl:_=40:=hr.symm.trans (et (iN l) (et (iN n) (et (iN j) (et (iN o) (iN C)))))
 exact⟨rfl,di,e6⟩
def j6:List bi→Unit ⊕ Int
  | []=>B9 ()
  | b::c=>bnd (kH b) fun a=>if a=0 then j6 c else C1 (a)
def pX (l0:List bi):Int:=
 lp (j6 l0) fun _=>0
theorem yw (w D o A B l0 L) (H:Own w D w []) (n:Ro w D fun w'=>bE w' 6 o A (q3 bi.cells l0)) (C:A=l0.length) (P:l0.length≤9223372036854775807) (hr:pX l0=L):
    Calls v8 157 #[.slice o A B] w (d9 fun v w'=>v=vI L∧Own w D w' []):=by
 subst C
 refine cb Tryz.func157 ?_
 refine sr (An rfl (Ic (sr (Mz rfl (Kz (vJ l0.length) (Mn rfl (bo ?_)))))))
 have E:=H.pk []
 obtain⟨F,d⟩:=nQ fun (a:Nat) w'=>Own w D w' []∧a≤l0.length∧j6 l0=j6 (r3 a l0)
 refine C3 (fun i:Nat=> [(2,vI 0),(8,vJ i),(7,vJ l0.length),(6, .slice o l0.length B)]) F (fun i=>l0.length - i) 0 ⟨rfl,rfl,rfl,rfl,trivial⟩ (d.2 ⟨E,e6,rfl⟩) ?_
 rintro a Q p
 obtain⟨f,M,g⟩:=d.1 p
 refine sr (Kz (.bool (decide (((a:Nat):Int) < ((l0.length:Nat):Int)))) (nt (Ic ?_)))
 by_cases r:((a:Nat):Int) < ((l0.length:Nat):Int)
 obtain⟨b,k⟩:=dN (ls:=l0) (i:=a) bi.len f4 (f.ro n) e9
 have l:=drop_at k
 refine jT (dT r) (sk (Ic (bo (sr (fw (.pointer (some ⟨ab o,ao o+a *6,none⟩)) (Ij (qX) rfl rfl ((f.ro n).addr (i:=a) e6) e6) (fw (.agg (bi.cells b).toArray) (Io rfl (Iy (cs:=(bi.cells b)) M5 M4 ((f.ro n).elem bi.len k f4))) ?_))))))
 refine dV [vI 0, .string ⟨v9 ([])⟩, .string ⟨v9 ([])⟩, .string ⟨v9 ([])⟩, .string ⟨v9 ([])⟩,vI 0] 72 f ?_
 intro R S G
 refine dS (bi.cells b) 0 G M4 ?_
 intro T s
 refine ns (La (bi.cells b) s 0 M5 M4 ?_)
 obtain⟨c,h⟩:∃ q,kH b=q:=⟨_,rfl⟩
 obtain⟨U,t,N,u,O⟩:=Ii s
 refine cl N2 (sN _ _ b c t h) ?_
 rintro _ V ⟨rfl,x,m⟩
 have y:=u _ _ x
 replace m: ¬ (c=0)∨(1≤b.aD∧b.aD≤5):=m
 refine Ar rfl (Mz rfl (fw (.bool (decide (¬ (c=0)))) (IG (e:= !(decide (c=0))) yk decide_not.symm) (nt ?_)))
 by_cases j:c=0
 refine jF (dF (Lh j)) (IE (bN (Ig (Ib (fw (vJ (a+1)) (Ie (e:=C5.wrap (((a:Nat):Int)+1)) yk f0) (Mz rfl (C6 ?_)))))))
 have I:=y.pk []
 exact Ir (a+1) ⟨rfl,rfl,rfl,rfl,trivial⟩ (d.2 ⟨I,e6,et (g) (et (congrArg (fun q=>j6 q) l) (et (ah h) (ip j)))⟩) (by show l0.length - (a+1) < l0.length - a; omega)
 refine jT (dT j) (sr (Mz rfl (An rfl (rt (bR (tR (tR (bR (tR (rs ?_))))))))))
 have J:=y.pk []
 obtain rfl:_=c:=hr.symm.trans (jm (et (g) (et (congrArg (fun q=>j6 q) l) (et (ah h) (iN j)))))
 exact⟨rfl,J⟩
 refine jF (dF r) (C7 (Il ?_))
 have z:j6 l0=B9 ():=et (g) (et (congrArg (fun q=>j6 q) (fB (ls:=l0) (i:=a) e6)) rfl)
 refine Il (IB (Ig (sr (An rfl (rt (rs ?_))))))
 have K:=f.pk []
 obtain rfl:_=0:=hr.symm.trans (nT z)
 exact⟨rfl,K⟩
def oo (l0:List bi):Int:=
 if((l0.length:Nat):Int) < 1 then 3 else if((l0.length:Nat):Int) > 4 then 3 else bnd (pX l0) fun a=>a
theorem xw (w D i j k l0 l) (H:Own w D w []) (m:Ro w D fun w'=>bE w' 6 i j (q3 bi.cells l0)) (n:j=l0.length) (u:l0.length≤9223372036854775807) (hr:oo l0=l):
    Calls v8 137 #[.slice i j k] w (d9 fun v w'=>v=vI l∧Own w D w' []∧(¬ (l=0)∨(1≤l0.length∧l0.length≤4))):=by
 subst n
 refine cb Tryz.func137 ?_
 refine sr (An rfl (Ic (sr (Mz rfl (Kz (vJ l0.length) (Kz (.bool (decide (((l0.length:Nat):Int) < 1))) (Mz rfl ?_)))))))
 by_cases a:((l0.length:Nat):Int) < 1
 refine Sz (dT a) (Sz (dT a) (Sz (dT a) (fw (.bool true) (Iw rfl (dT a) rfl) (nt (jt (sr (An rfl (rt (tR (rs ?_))))))))))
 have o:=H.pk []
 obtain rfl:_=3:=hr.symm.trans (ip a)
 exact⟨rfl,o,e6⟩
 refine gw (.slice i l0.length k) (dF a) (Iq rfl) (Gz (vJ l0.length) (dF a) (Gz (.bool (decide (((l0.length:Nat):Int) > 4))) (dF a) (fw (.bool (decide (((l0.length:Nat):Int) > 4))) (Ih rfl (dF a) rfl) (nt ?_))))
 by_cases b:((l0.length:Nat):Int) > 4
 refine jT (dT b) (sr (An rfl (rt (tR (rs ?_)))))
 have p:=H.pk []
 obtain rfl:_=3:=hr.symm.trans (et (iN a) (ip b))
 exact⟨rfl,p,e6⟩
 refine jF (dF b) (sk (sr (Mz rfl ?_)))
 obtain⟨d,c⟩:∃ q,pX l0=q:=⟨_,rfl⟩
 obtain⟨x,e,f,g,t⟩:=Ii H
 refine cl Tryz.call157 (yw _ _ i l0.length k l0 d e (f _ m) rfl e6 c) ?_
 rintro _ y ⟨rfl,h⟩
 have r:=g _ _ h
 refine An rfl (rt (rs ?_))
 have s:=r.pk []
 obtain rfl:_=d:=hr.symm.trans (et (iN a) (et (iN b) (ah c)))
 exact⟨rfl,s,e6⟩
def lC:List bi→Unit ⊕ Bool
  | []=>B9 ()
  | b::c=>bnd (kH b) fun a=>if a=0 then lC c else C1 (false)
def uy (l0:List bi):Bool:=
 lp (lC l0) fun _=>true
theorem yV (w D o A B l0 L) (H:Own w D w []) (n:Ro w D fun w'=>bE w' 6 o A (q3 bi.cells l0)) (C:A=l0.length) (P:l0.length≤9223372036854775807) (hr:uy l0=L):
    Calls v8 138 #[.slice o A B, .func (.func 139) #[] #[]] w (d9 fun v w'=>v= .bool L∧Own w D w' []):=by
 subst C
 refine cb Tryz.func138 ?_
 refine sr (An rfl (Ic (sr (Mz rfl (Kz (vJ l0.length) (Mn rfl (bo ?_)))))))
 have E:=H.pk []
 obtain⟨F,c⟩:=nQ fun (a:Nat) w'=>Own w D w' []∧a≤l0.length∧lC l0=lC (r3 a l0)
 refine C3 (fun i:Nat=> [(4, .bool false),(9,vJ i),(8,vJ l0.length),(7, .slice o l0.length B),(1, .func (.func 139) #[] #[])]) F (fun i=>l0.length - i) 0 ⟨rfl,rfl,rfl,rfl,rfl,trivial⟩ (c.2 ⟨E,e6,rfl⟩) ?_
 rintro a Q p
 obtain⟨d,M,f⟩:=c.1 p
 refine sr (Kz (.bool (decide (((a:Nat):Int) < ((l0.length:Nat):Int)))) (nt (Ic ?_)))
 by_cases r:((a:Nat):Int) < ((l0.length:Nat):Int)
 obtain⟨b,k⟩:=dN (ls:=l0) (i:=a) bi.len f4 (d.ro n) e9
 have l:=drop_at k
 refine jT (dT r) (sk (Ic (bo (sr (fw (.pointer (some ⟨ab o,ao o+a *6,none⟩)) (Ij (qX) rfl rfl ((d.ro n).addr (i:=a) e6) e6) (fw (.agg (bi.cells b).toArray) (Io rfl (Iy (cs:=(bi.cells b)) M5 M4 ((d.ro n).elem bi.len k f4))) ?_))))))
 refine dV [vI 0, .string ⟨v9 ([])⟩, .string ⟨v9 ([])⟩, .string ⟨v9 ([])⟩, .string ⟨v9 ([])⟩,vI 0] 72 d ?_
 intro R S G
 refine dS (bi.cells b) 0 G M4 ?_
 intro T s
 refine ns (Mz rfl (La (bi.cells b) s 0 M5 M4 ?_))
 obtain⟨g,h⟩:∃ q,kH b=q:=⟨_,rfl⟩
 obtain⟨U,t,N,u,O⟩:=Ii s
 refine WL.do rfl (IK N2 rfl rfl (sN _ _ b g t h) ?_)
 rintro _ V ⟨rfl,x,m⟩
 have y:=u _ _ x
 replace m: ¬ (g=0)∨(1≤b.aD∧b.aD≤5):=m
 refine fw (.bool (decide (¬ (g=0)))) (IG (e:= !(decide (g=0))) yk decide_not.symm) (nt ?_)
 by_cases j:g=0
 refine jF (dF (Lh j)) (IE (bN (Ig (Ib (fw (vJ (a+1)) (Ie (e:=C5.wrap (((a:Nat):Int)+1)) yk f0) (Mz rfl (C6 ?_)))))))
 have I:=y.pk []
 exact Ir (a+1) ⟨rfl,rfl,rfl,rfl,rfl,trivial⟩ (c.2 ⟨I,e6,et (f) (et (congrArg (fun q=>lC q) l) (et (ah h) (ip j)))⟩) (by show l0.length - (a+1) < l0.length - a; omega)
 refine jT (dT j) (sr (An rfl (rt (bR (tR (tR (bR (tR (rs ?_)))))))))
 have J:=y.pk []
 obtain rfl:_=false:=hr.symm.trans (jm (et (f) (et (congrArg (fun q=>lC q) l) (et (ah h) (iN j)))))
 exact⟨rfl,J⟩
 refine jF (dF r) (C7 (Il ?_))
 have z:lC l0=B9 ():=et (f) (et (congrArg (fun q=>lC q) (fB (ls:=l0) (i:=a) e6)) rfl)
 refine Il (IB (Ig (sr (An rfl (rt (rs ?_))))))
 have K:=d.pk []
 obtain rfl:_=true:=hr.symm.trans (nT z)
 exact⟨rfl,K⟩
def wD (a:bi):Bool:=
 if a.aD=1 then false else if a.aD=2 then true else if a.aD=3 then true else if a.aD=4 then false else if a.aD=5 then true else false
theorem AZ (w D) (a:bi) (r0) (H:Own w D w []) (hr:wD a=r0):
    Calls v8 159 #[.agg (bi.cells a).toArray] w (d9 fun v w'=>v= .bool r0∧Own w D w' []):=by
 refine cb Tryz.func159 ?_
 refine sr ?_
 refine dV (bi.cells a) 72 H ?_
 intro S aV b
 refine Ar rfl (Kz (vP S 0) (Lz (vI a.aD) b 0 C4 ?_))
 by_cases c:a.aD=1
 obtain⟨aW,m,aD,n,aF⟩:=Ii b
 refine cl M8 (uH _ _ a.aD m (of_decide_eq_true (dT c))) ?_
 rintro _ aX ⟨rfl,o⟩
 have T:=n _ _ o
 refine Mz rfl (Kz (.agg #[.bool false, .func (.func 172) #[] #[], .func (.func 173) #[] #[], .func (.func 174) #[] #[], .func (.func 175) #[] #[]]) (Kz (.bool true) ?_))
 refine dV [.bool false, .nilFunc, .nilFunc, .nilFunc, .nilFunc] 231 T ?_
 intro U aY V
 refine dS [.bool false, .func (.func 172) #[] #[], .func (.func 173) #[] #[], .func (.func 174) #[] #[], .func (.func 175) #[] #[]] 0 V M3 ?_
 intro aZ W
 refine An rfl (Ic ?_)
 have p:=W.pk [0]
 refine Ib (Mz rfl (Mz rfl (Gz (vP U 0) rfl (Gl (.bool false) rfl p 0 N3 (fw (.bool false) (Iw rfl rfl rfl) (An rfl (rt (rs ?_))))))))
 have X:=p.pk []
 obtain rfl:_=false:=hr.symm.trans (ip c)
 exact⟨rfl,X⟩
 by_cases d:a.aD=2
 obtain⟨bf,q,aG,r,aH⟩:=Ii b
 refine cl M8 (uJ _ _ a.aD q (of_decide_eq_true (dT d))) ?_
 rintro _ bg ⟨rfl,s⟩
 have Y:=r _ _ s
 refine Mz rfl (Kz (.agg #[.bool true, .func (.func 176) #[] #[], .func (.func 177) #[] #[], .func (.func 174) #[] #[], .func (.func 178) #[] #[]]) (Kz (.bool true) ?_))
 refine dV [.bool false, .nilFunc, .nilFunc, .nilFunc, .nilFunc] 231 Y ?_
 intro Z bn aa
 refine dS [.bool true, .func (.func 176) #[] #[], .func (.func 177) #[] #[], .func (.func 174) #[] #[], .func (.func 178) #[] #[]] 0 aa M3 ?_
 intro bq ae
 refine An rfl (Ic ?_)
 have t:=ae.pk [0]
 refine Ib (Mz rfl (Mz rfl (Gz (vP Z 0) rfl (Gl (.bool true) rfl t 0 N3 (fw (.bool true) (Iw rfl rfl rfl) (An rfl (rt (rs ?_))))))))
 have af:=t.pk []
 obtain rfl:_=true:=hr.symm.trans (et (iN c) (ip d))
 exact⟨rfl,af⟩
 by_cases e:a.aD=3
 obtain⟨bu,u,aI,x,aJ⟩:=Ii b
 refine cl M8 (uK _ _ a.aD u (of_decide_eq_true (dT e))) ?_
 rintro _ bv ⟨rfl,y⟩
 have ag:=x _ _ y
 refine Mz rfl (Kz (.agg #[.bool true, .func (.func 172) #[] #[], .func (.func 173) #[] #[], .func (.func 174) #[] #[], .func (.func 179) #[] #[]]) (Kz (.bool true) ?_))
 refine dV [.bool false, .nilFunc, .nilFunc, .nilFunc, .nilFunc] 231 ag ?_
 intro ah bz ai
 refine dS [.bool true, .func (.func 172) #[] #[], .func (.func 173) #[] #[], .func (.func 174) #[] #[], .func (.func 179) #[] #[]] 0 ai M3 ?_
 intro bA aj
 refine An rfl (Ic ?_)
 have z:=aj.pk [0]
 refine Ib (Mz rfl (Mz rfl (Gz (vP ah 0) rfl (Gl (.bool true) rfl z 0 N3 (fw (.bool true) (Iw rfl rfl rfl) (An rfl (rt (rs ?_))))))))
 have ak:=z.pk []
 obtain rfl:_=true:=hr.symm.trans (et (iN c) (et (iN d) (ip e)))
 exact⟨rfl,ak⟩
 by_cases f:a.aD=4
 obtain⟨bB,A,aK,B,aL⟩:=Ii b
 refine cl M8 (uL _ _ a.aD A (of_decide_eq_true (dT f))) ?_
 rintro _ bC ⟨rfl,C⟩
 have au:=B _ _ C
 refine Mz rfl (Kz (.agg #[.bool false, .func (.func 180) #[] #[], .func (.func 181) #[] #[], .func (.func 182) #[] #[], .func (.func 183) #[] #[]]) (Kz (.bool true) ?_))
 refine dV [.bool false, .nilFunc, .nilFunc, .nilFunc, .nilFunc] 231 au ?_
 intro av bD ax
 refine dS [.bool false, .func (.func 180) #[] #[], .func (.func 181) #[] #[], .func (.func 182) #[] #[], .func (.func 183) #[] #[]] 0 ax M3 ?_
 intro bE ay
 refine An rfl (Ic ?_)
 have E:=ay.pk [0]
 refine Ib (Mz rfl (Mz rfl (Gz (vP av 0) rfl (Gl (.bool false) rfl E 0 N3 (fw (.bool false) (Iw rfl rfl rfl) (An rfl (rt (rs ?_))))))))
 have az:=E.pk []
 obtain rfl:_=false:=hr.symm.trans (et (iN c) (et (iN d) (et (iN e) (ip f))))
 exact⟨rfl,az⟩
 by_cases h:a.aD=5
 obtain⟨bF,F,aM,G,aN⟩:=Ii b
 refine cl M8 (uM _ _ a.aD F (of_decide_eq_true (dT h))) ?_
 rintro _ bG ⟨rfl,i⟩
 have I:=G _ _ i
 refine Mz rfl (Kz (.agg #[.bool true, .func (.func 184) #[] #[], .func (.func 185) #[] #[], .func (.func 182) #[] #[], .func (.func 186) #[] #[]]) (Kz (.bool true) ?_))
 refine dV [.bool false, .nilFunc, .nilFunc, .nilFunc, .nilFunc] 231 I ?_
 intro J aO K
 refine dS [.bool true, .func (.func 184) #[] #[], .func (.func 185) #[] #[], .func (.func 182) #[] #[], .func (.func 186) #[] #[]] 0 K M3 ?_
 intro aP L
 refine An rfl (Ic ?_)
 have g:=L.pk [0]
 refine Ib (Mz rfl (Mz rfl (Gz (vP J 0) rfl (Gl (.bool true) rfl g 0 N3 (fw (.bool true) (Iw rfl rfl rfl) (An rfl (rt (rs ?_))))))))
 have M:=g.pk []
 obtain rfl:_=true:=hr.symm.trans (et (iN c) (et (iN d) (et (iN e) (et (iN f) (ip h)))))
 exact⟨rfl,M⟩
 obtain⟨aQ,j,aA,k,aB⟩:=Ii b
 refine cl M8 (uo _ _ a.aD j e6 e6 e6 e6 e6) ?_
 rintro _ aR ⟨rfl,l⟩
 have N:=k _ _ l
 refine Mz rfl (Kz (.agg #[.bool false, .nilFunc, .nilFunc, .nilFunc, .nilFunc]) (Kz (.bool false) ?_))
 refine dV [.bool false, .nilFunc, .nilFunc, .nilFunc, .nilFunc] 231 N ?_
 intro aS aT O
 refine dS [.bool false, .nilFunc, .nilFunc, .nilFunc, .nilFunc] 0 O M3 ?_
 intro aU P
 refine An rfl (Ic ?_)
 have Q:=P.pk [0]
 refine Ib (Mz rfl (Mz rfl (Sz rfl (Sz rfl (fw (.bool false) (Ih rfl rfl rfl) (An rfl (rt (rs ?_))))))))
 have R:=Q.pk []
 obtain rfl:_=false:=hr.symm.trans (et (iN c) (et (iN d) (et (iN e) (et (iN f) (iN h)))))
 exact⟨rfl,R⟩
def rf (c:bi):Int:=
 bnd (wD c) fun a=>if a=true then bnd (kH c) fun b=>b else 40
theorem wE (w D) (a:bi) (t) (H:Own w D w []) (hr:rf a=t):
    Calls v8 140 #[.agg (bi.cells a).toArray] w (d9 fun v w'=>v=vI t∧Own w D w' []):=by
 refine cb Tryz.func140 ?_
 refine sr ?_
 refine dV (bi.cells a) 72 H ?_
 intro A B i
 refine An rfl (Ic (sr (La (bi.cells a) i 0 M5 M4 ?_)))
 obtain⟨f,b⟩:∃ q,wD a=q:=⟨_,rfl⟩
 obtain⟨C,j,u,k,x⟩:=Ii i
 refine cl Tryz.call159 (AZ _ _ a f j b) ?_
 rintro _ E ⟨rfl,l⟩
 have g:=k _ _ l
 refine Kz (.bool (!f)) (nt ?_)
 rcases Li (f) with c | c
 refine jF (cn c) (sk (sr (La (bi.cells a) g 0 M5 M4 ?_)))
 obtain⟨h,d⟩:∃ q,kH a=q:=⟨_,rfl⟩
 obtain⟨F,m,y,n,z⟩:=Ii g
 refine cl N2 (sN _ _ a h m d) ?_
 rintro _ G ⟨rfl,o,e⟩
 have p:=n _ _ o
 replace e: ¬ (h=0)∨(1≤a.aD∧a.aD≤5):=e
 refine An rfl (rt (rs ?_))
 have r:=p.pk []
 obtain rfl:_=h:=hr.symm.trans (et (ah b) (et (ip c) (ah d)))
 exact⟨rfl,r⟩
 refine jT (cn c) (sr (An rfl (rt (tR (rs ?_)))))
 have s:=g.pk []
 obtain rfl:_=40:=hr.symm.trans (et (ah b) (gm c))
 exact⟨rfl,s⟩
def kY:List bi→Unit ⊕ Bool
  | []=>B9 ()
  | b::c=>bnd (rf b) fun a=>if a=0 then kY c else C1 (false)
def tT (l0:List bi):Bool:=
 lp (kY l0) fun _=>true
theorem yx (w D n z A l0 K) (H:Own w D w []) (m:Ro w D fun w'=>bE w' 6 n z (q3 bi.cells l0)) (B:z=l0.length) (O:l0.length≤9223372036854775807) (hr:tT l0=K):
    Calls v8 138 #[.slice n z A, .func (.func 140) #[] #[]] w (d9 fun v w'=>v= .bool K∧Own w D w' []):=by
 subst B
 refine cb Tryz.func138 ?_
 refine sr (An rfl (Ic (sr (Mz rfl (Kz (vJ l0.length) (Mn rfl (bo ?_)))))))
 have C:=H.pk []
 obtain⟨E,c⟩:=nQ fun (a:Nat) w'=>Own w D w' []∧a≤l0.length∧kY l0=kY (r3 a l0)
 refine C3 (fun i:Nat=> [(4, .bool false),(9,vJ i),(8,vJ l0.length),(7, .slice n l0.length A),(1, .func (.func 140) #[] #[])]) E (fun i=>l0.length - i) 0 ⟨rfl,rfl,rfl,rfl,rfl,trivial⟩ (c.2 ⟨C,e6,rfl⟩) ?_
 rintro a P o
 obtain⟨d,L,f⟩:=c.1 o
 refine sr (Kz (.bool (decide (((a:Nat):Int) < ((l0.length:Nat):Int)))) (nt (Ic ?_)))
 by_cases p:((a:Nat):Int) < ((l0.length:Nat):Int)
 obtain⟨b,k⟩:=dN (ls:=l0) (i:=a) bi.len f4 (d.ro m) e9
 have l:=drop_at k
 refine jT (dT p) (sk (Ic (bo (sr (fw (.pointer (some ⟨ab n,ao n+a *6,none⟩)) (Ij (qX) rfl rfl ((d.ro m).addr (i:=a) e6) e6) (fw (.agg (bi.cells b).toArray) (Io rfl (Iy (cs:=(bi.cells b)) M5 M4 ((d.ro m).elem bi.len k f4))) ?_))))))
 refine dV [vI 0, .string ⟨v9 ([])⟩, .string ⟨v9 ([])⟩, .string ⟨v9 ([])⟩, .string ⟨v9 ([])⟩,vI 0] 72 d ?_
 intro Q R F
 refine dS (bi.cells b) 0 F M4 ?_
 intro S r
 refine ns (Mz rfl (La (bi.cells b) r 0 M5 M4 ?_))
 obtain⟨h,g⟩:∃ q,rf b=q:=⟨_,rfl⟩
 obtain⟨T,s,M,t,N⟩:=Ii r
 refine WL.do rfl (IK Tryz.call140 rfl rfl (wE _ _ b h s g) ?_)
 rintro _ U ⟨rfl,u⟩
 have x:=t _ _ u
 refine fw (.bool (decide (¬ (h=0)))) (IG (e:= !(decide (h=0))) yk decide_not.symm) (nt ?_)
 by_cases j:h=0
 refine jF (dF (Lh j)) (IE (bN (Ig (Ib (fw (vJ (a+1)) (Ie (e:=C5.wrap (((a:Nat):Int)+1)) yk f0) (Mz rfl (C6 ?_)))))))
 have G:=x.pk []
 exact Ir (a+1) ⟨rfl,rfl,rfl,rfl,rfl,trivial⟩ (c.2 ⟨G,e6,et (f) (et (congrArg (fun q=>kY q) l) (et (ah g) (ip j)))⟩) (by show l0.length - (a+1) < l0.length - a; omega)
 refine jT (dT j) (sr (An rfl (rt (bR (tR (tR (bR (tR (rs ?_)))))))))
 have I:=x.pk []
 obtain rfl:_=false:=hr.symm.trans (jm (et (f) (et (congrArg (fun q=>kY q) l) (et (ah g) (iN j)))))
 exact⟨rfl,I⟩
 refine jF (dF p) (C7 (Il ?_))
 have y:kY l0=B9 ():=et (f) (et (congrArg (fun q=>kY q) (fB (ls:=l0) (i:=a) e6)) rfl)
 refine Il (IB (Ig (sr (An rfl (rt (rs ?_))))))
 have J:=d.pk []
 obtain rfl:_=true:=hr.symm.trans (nT y)
 exact⟨rfl,J⟩
def rV (d:Int) (l1:List bi):Bool:=
 if d=1 then bnd (oo l1) fun a=>decide (a=0) else if d=3 then if((l1.length:Nat):Int) ≥ 1 then if((l1.length:Nat):Int)≤24 then bnd (uy l1) fun b=>b else false else false else if((l1.length:Nat):Int)≤6 then bnd (tT l1) fun c=>c else false
theorem yX (w D o g F c1 l1 R) (H:Own w D w []) (l:Ro w D fun w'=>bE w' 6 g F (q3 bi.cells l1)) (G:F=l1.length) (V:l1.length≤9223372036854775807) (hr:rV o l1=R):
    Calls v8 115 #[vI o, .slice g F c1] w (d9 fun v w'=>v= .bool R∧Own w D w' []):=by
 subst G
 refine cb Tryz.func115 ?_
 refine sr (An rfl (Ic (sr (Mn rfl (bo (sr (Kz (.bool (decide (o=1))) (An rfl ?_))))))))
 by_cases b:o=1
 refine jT (dT b) (sr (Mz rfl ?_))
 obtain⟨f,h⟩:∃ q,oo l1=q:=⟨_,rfl⟩
 obtain⟨W,p,r,s,S⟩:=Ii H
 refine cl Tryz.call137 (xw _ _ g l1.length c1 l1 f p (r _ l) rfl e6 h) ?_
 rintro _ X ⟨rfl,t,i⟩
 have I:=s _ _ t
 replace i: ¬ (f=0)∨(1≤l1.length∧l1.length≤4):=i
 refine Kz (.bool (decide (f=0))) (An rfl (rt (bR (tR (rs ?_)))))
 have J:=I.pk []
 obtain rfl:_=decide (f=0):=hr.symm.trans (et (ip b) (ah h))
 exact⟨rfl,J⟩
 refine jF (dF b) (sr (Kz (.bool (decide (o=3))) (An rfl ?_)))
 by_cases e:o=3
 refine jT (dT e) (sr (Mz rfl (Kz (vJ l1.length) (Kz (.bool (decide (((l1.length:Nat):Int) ≥ 1))) (Mz rfl ?_)))))
 by_cases a:((l1.length:Nat):Int) ≥ 1
 refine gw (.slice g l1.length c1) (dT a) (Iq rfl) (Gz (vJ l1.length) (dT a) (Gz (.bool (decide (((l1.length:Nat):Int)≤24))) (dT a) (fw (.bool (decide (((l1.length:Nat):Int)≤24))) (Iw rfl (dT a) rfl) (Mz rfl ?_))))
 by_cases c:((l1.length:Nat):Int)≤24
 refine gw (.slice g l1.length c1) (dT c) (Iq rfl) ?_
 obtain⟨m,j⟩:∃ q,uy l1=q:=⟨_,rfl⟩
 obtain⟨Y,u,x,y,T⟩:=Ii H
 refine vR (dT c) Tryz.call138 (yV _ _ g l1.length c1 l1 m u (x _ l) rfl e6 j) ?_
 rintro _ Z ⟨rfl,z⟩
 have K:=y _ _ z
 refine fw (.bool m) (Iw rfl (dT c) rfl) (An rfl (rt (bR (tR (rs ?_)))))
 have L:=K.pk []
 obtain rfl:_=m:=hr.symm.trans (et (iN b) (et (ip e) (et (ip a) (et (ip c) (ah j)))))
 exact⟨rfl,L⟩
 refine Sz (dF c) (Sz (dF c) (fw (.bool false) (Ih rfl (dF c) rfl) (An rfl (rt (bR (tR (rs ?_)))))))
 have M:=H.pk []
 obtain rfl:_=false:=hr.symm.trans (et (iN b) (et (ip e) (et (ip a) (iN c))))
 exact⟨rfl,M⟩
 refine Sz (dF a) (Sz (dF a) (Sz (dF a) (fw (.bool false) (Ih rfl (dF a) rfl) (Mz rfl (Sz rfl (Sz rfl (fw (.bool false) (Ih rfl rfl rfl) (An rfl (rt (bR (tR (rs ?_))))))))))))
 have N:=H.pk []
 obtain rfl:_=false:=hr.symm.trans (et (iN b) (et (ip e) (iN a)))
 exact⟨rfl,N⟩
 refine jF (dF e) (IE (bN (Ig (sr (Mz rfl (Kz (vJ l1.length) (Kz (.bool (decide (((l1.length:Nat):Int)≤6))) (Mz rfl ?_))))))))
 by_cases d:((l1.length:Nat):Int)≤6
 refine gw (.slice g l1.length c1) (dT d) (Iq rfl) ?_
 obtain⟨n,k⟩:∃ q,tT l1=q:=⟨_,rfl⟩
 obtain⟨aa,A,B,C,U⟩:=Ii H
 refine vR (dT d) Tryz.call138 (yx _ _ g l1.length c1 l1 n A (B _ l) rfl e6 k) ?_
 rintro _ ae ⟨rfl,E⟩
 have O:=C _ _ E
 refine fw (.bool n) (Iw rfl (dT d) rfl) (An rfl (rt (rs ?_)))
 have P:=O.pk []
 obtain rfl:_=n:=hr.symm.trans (et (iN b) (et (iN e) (et (ip d) (ah k))))
 exact⟨rfl,P⟩
 refine Sz (dF d) (Sz (dF d) (fw (.bool false) (Ih rfl (dF d) rfl) (An rfl (rt (rs ?_)))))
 have Q:=H.pk []
 obtain rfl:_=false:=hr.symm.trans (et (iN b) (et (iN e) (iN d)))
 exact⟨rfl,Q⟩
def lN (b:Int) (a:Int):Bool:=
 if b=1 then if a ≥ 1 then decide (a≤4) else false else if b=2 then if a ≥ 11 then decide (a < 15) else false else decide (a=0)
theorem rq (w D f c l) (H:Own w D w []) (hr:lN f c=l):
    Calls v8 50 #[vI f,vI c] w (d9 fun v w'=>v= .bool l∧Own w D w' []):=by
 refine cb Tryz.func50 ?_
 refine sr (An rfl (Ic (sr (Mn rfl (bo (sr (Kz (.bool (decide (f=1))) (An rfl ?_))))))))
 by_cases d:f=1
 refine jT (dT d) (sr (Mz rfl (Kz (.bool (decide (c ≥ 1))) (Mz rfl ?_))))
 by_cases a:c ≥ 1
 refine gw (vI c) (dT a) (Iq rfl) (Gz (.bool (decide (c≤4))) (dT a) (fw (.bool (decide (c≤4))) (Iw rfl (dT a) rfl) (An rfl (rt (bR (tR (rs ?_)))))))
 have g:=H.pk []
 obtain rfl:_=decide (c≤4):=hr.symm.trans (et (ip d) (ip a))
 exact⟨rfl,g⟩
 refine Sz (dF a) (Sz (dF a) (fw (.bool false) (Ih rfl (dF a) rfl) (An rfl (rt (bR (tR (rs ?_)))))))
 have h:=H.pk []
 obtain rfl:_=false:=hr.symm.trans (et (ip d) (iN a))
 exact⟨rfl,h⟩
 refine jF (dF d) (sr (Kz (.bool (decide (f=2))) (An rfl ?_)))
 by_cases e:f=2
 refine jT (dT e) (sr (Mz rfl (Kz (.bool (decide (c ≥ 11))) (Mz rfl ?_))))
 by_cases b:c ≥ 11
 refine gw (vI c) (dT b) (Iq rfl) (Gz (.bool (decide (c < 15))) (dT b) (fw (.bool (decide (c < 15))) (Iw rfl (dT b) rfl) (An rfl (rt (bR (tR (rs ?_)))))))
 have i:=H.pk []
 obtain rfl:_=decide (c < 15):=hr.symm.trans (et (iN d) (et (ip e) (ip b)))
 exact⟨rfl,i⟩
 refine Sz (dF b) (Sz (dF b) (fw (.bool false) (Ih rfl (dF b) rfl) (An rfl (rt (bR (tR (rs ?_)))))))
 have j:=H.pk []
 obtain rfl:_=false:=hr.symm.trans (et (iN d) (et (ip e) (iN b)))
 exact⟨rfl,j⟩
 refine jF (dF e) (IE (bN (Ig (sr (Mz rfl (Kz (.bool (decide (c=0))) (An rfl (rt (rs ?_)))))))))
 have k:=H.pk []
 obtain rfl:_=decide (c=0):=hr.symm.trans (et (iN d) (iN e))
 exact⟨rfl,k⟩
def oZ (a:bL) (b:Int):Bool:=
 if b=2 then bnd (tL a.aD a.dz) fun c=>c else if b=3 then bnd (og a.aD a.ai.ls) fun d=>d else if b=7 then bnd (rV a.aD a.aH.ls) fun e=>e else if b=11 then bnd (kR a.ag.ls) fun f=>decide (f=0) else if b=12 then bnd (lN 1 a.eH) fun g=>g else if b=13 then bnd (kG a.bU) fun h=>decide (h=0) else true
theorem BA (w D) (a:bL) (f z g h B i n j C k o r0) (H:Own w D w []) (N:z=a.aH.ls.length) (O:Ro w D fun w'=>bE w' 6 f a.aH.ls.length (q3 bi.cells a.aH.ls)) (aL:a.aH.ls.length≤g∧a.aH.ls.length≤9223372036854775807) (r:s5 ae.abs n=a.ai.ls) (P:B=a.ai.ls.length) (Q:Ro w D fun w'=>bE w' 3 h a.ai.ls.length (q3 ae.cells n)) (aM:a.ai.ls.length≤i∧a.ai.ls.length≤9223372036854775807) (s:∀ x ∈ n,Ro w D (fun w'=>bE w' 2 x.ak.A x.ak.ls.length (q3 aI.cells x.ak.ls))∧(x.ak.ls.length≤x.ak.c∧x.ak.ls.length≤9223372036854775807)) (R:C=a.ag.ls.length) (S:Ro w D fun w'=>bE w' 2 j a.ag.ls.length (q3 aY.cells a.ag.ls)) (aN:a.ag.ls.length≤k∧a.ag.ls.length≤9223372036854775807) (bJ:a.aH.ls.length≤140737488355328∧a.ai.ls.length≤140737488355328∧a.ag.ls.length≤140737488355328) (hr:oZ a o=r0):
    Calls v8 76 #[.agg (gU a.aD a.aJ a.fI a.aK a.dz a.eH a.aP a.av a.aN a.dY a.aV a.aL a.dL a.cu a.xN a.cz a.bU.bF a.bU.bT f z g h B i j C k).toArray,vI o] w (d9 fun v w'=>v= .bool r0∧Own w D w' []):=by
 subst N P R
 have aK:=aB r
 refine cb Tryz.func76 ?_
 refine sr ?_
 refine dV (iH a f g h i j k) 42 H ?_
 intro d bK b
 refine An rfl (Ic (sr (Mn rfl (bo (sr (Kz (.bool (decide (o=2))) (An rfl ?_)))))))
 by_cases e:o=2
 refine jT (dT e) (sr (Kz (vP d 0) (Lz (vI a.aD) b 0 C4 (Kz (vP d 4) (Lz (vI a.dz) b 0 C4 ?_)))))
 obtain⟨U,E⟩:∃ q,tL a.aD a.dz=q:=⟨_,rfl⟩
 obtain⟨bM,V,bq,W,bu⟩:=Ii b
 refine cl Tryz.call113 (yl _ _ a.aD a.dz U V E) ?_
 rintro _ bO ⟨rfl,X⟩
 have aO:=W _ _ X
 refine An rfl (rt (bR (tR (rs ?_))))
 have aP:=aO.pk []
 obtain rfl:_=U:=hr.symm.trans (et (ip e) (ah E))
 exact⟨rfl,aP⟩
 refine jF (dF e) (sr (Kz (.bool (decide (o=3))) (An rfl ?_)))
 by_cases l:o=3
 refine jT (dT l) (sr (Kz (vP d 0) (Lz (vI a.aD) b 0 C4 (Kz (vP d 19) (Lz (.slice h a.ai.ls.length i) b 0 Tryz.isAgg40 ?_)))))
 obtain⟨Y,F⟩:∃ q,og a.aD a.ai.ls=q:=⟨_,rfl⟩
 obtain⟨bP,Z,G,aa,bv⟩:=Ii b
 refine cl Tryz.call114 (wB _ _ a.aD h a.ai.ls.length i n a.ai.ls Y Z r (G _ Q) (fun x9 h9=>⟨G _ (s x9 h9).1,(s x9 h9).2⟩) rfl e6 F) ?_
 rintro _ bQ ⟨rfl,af⟩
 have aQ:=aa _ _ af
 refine An rfl (rt (bR (tR (rs ?_))))
 have aR:=aQ.pk []
 obtain rfl:_=Y:=hr.symm.trans (et (iN e) (et (ip l) (ah F)))
 exact⟨rfl,aR⟩
 refine jF (dF l) (sr (Kz (.bool (decide (o=7))) (An rfl ?_)))
 by_cases m:o=7
 refine jT (dT m) (sr (Kz (vP d 0) (Lz (vI a.aD) b 0 C4 (Kz (vP d 18) (Lz (.slice f a.aH.ls.length g) b 0 Tryz.isAgg39 ?_)))))
 obtain⟨ag,I⟩:∃ q,rV a.aD a.aH.ls=q:=⟨_,rfl⟩
 obtain⟨bS,ai,aj,ak,bB⟩:=Ii b
 refine cl Tryz.call115 (yX _ _ a.aD f a.aH.ls.length g a.aH.ls ag ai (aj _ O) rfl e6 I) ?_
 rintro _ bT ⟨rfl,au⟩
 have aS:=ak _ _ au
 refine An rfl (rt (bR (tR (rs ?_))))
 have aT:=aS.pk []
 obtain rfl:_=ag:=hr.symm.trans (et (iN e) (et (iN l) (et (ip m) (ah I))))
 exact⟨rfl,aT⟩
 refine jF (dF m) (sr (Kz (.bool (decide (o=11))) (An rfl ?_)))
 by_cases p:o=11
 refine jT (dT p) (sr (Kz (vP d 20) (Lz (.slice j a.ag.ls.length k) b 0 Tryz.isAgg29 ?_)))
 obtain⟨u,J⟩:∃ q,kR a.ag.ls=q:=⟨_,rfl⟩
 obtain⟨bU,av,ax,ay,bD⟩:=Ii b
 refine cl Tryz.call72 (rM _ _ j a.ag.ls.length k a.ag.ls u av (ax _ S) rfl e6 J) ?_
 rintro _ bV ⟨rfl,az,K⟩
 have aU:=ay _ _ az
 replace K: ¬ (u=0)∨(1≤a.ag.ls.length∧a.ag.ls.length≤6):=K
 refine Kz (.bool (decide (u=0))) (An rfl (rt (bR (tR (rs ?_)))))
 have aV:=aU.pk []
 obtain rfl:_=decide (u=0):=hr.symm.trans (et (iN e) (et (iN l) (et (iN m) (et (ip p) (ah J)))))
 exact⟨rfl,aV⟩
 refine jF (dF p) (sr (Kz (.bool (decide (o=12))) (An rfl ?_)))
 by_cases t:o=12
 refine jT (dT t) (sr (Kz (vP d 5) (Lz (vI a.eH) b 0 C4 ?_)))
 obtain⟨aA,L⟩:∃ q,lN 1 a.eH=q:=⟨_,rfl⟩
 obtain⟨bW,aC,bF,aD,bG⟩:=Ii b
 refine cl Tryz.call50 (rq _ _ 1 a.eH aA aC L) ?_
 rintro _ bX ⟨rfl,aF⟩
 have aW:=aD _ _ aF
 refine An rfl (rt (bR (tR (rs ?_))))
 have aX:=aW.pk []
 obtain rfl:_=aA:=hr.symm.trans (et (iN e) (et (iN l) (et (iN m) (et (iN p) (et (ip t) (ah L))))))
 exact⟨rfl,aX⟩
 refine jF (dF t) (sr (Kz (.bool (decide (o=13))) (An rfl ?_)))
 by_cases y:o=13
 refine jT (dT y) (sr (Kz (vP d 16) (La (bC.cells a.bU) b 0 M7 M6 ?_)))
 obtain⟨T,M⟩:∃ q,kG a.bU=q:=⟨_,rfl⟩
 obtain⟨bY,aG,bH,aH,bI⟩:=Ii b
 refine cl Tryz.call116 (qG _ _ a.bU T aG M) ?_
 rintro _ bZ ⟨rfl,aJ⟩
 have aZ:=aH _ _ aJ
 refine Kz (.bool (decide (T=0))) (An rfl (rt (bR (tR (rs ?_)))))
 have bf:=aZ.pk []
 obtain rfl:_=decide (T=0):=hr.symm.trans (et (iN e) (et (iN l) (et (iN m) (et (iN p) (et (iN t) (et (ip y) (ah M)))))))
 exact⟨rfl,bf⟩
 refine jF (dF y) (IE (bN (Ig (sr (An rfl (rt (rs ?_)))))))
 have bg:=b.pk []
 obtain rfl:_=true:=hr.symm.trans (et (iN e) (et (iN l) (et (iN m) (et (iN p) (et (iN t) (iN y))))))
 exact⟨rfl,bg⟩
def kD (d:bL):List Int→Unit ⊕ Bool
  | []=>B9 ()
  | b::c=>bnd (oZ d b) fun a=>if a=true then kD d c else C1 (false)
def qC (a:bL) (l1:List Int):Bool:=
 lp (kD a l1) fun _=>true
theorem yY (w D) (a:bL) (h z d j B f m l C g R n1 c1 l1 r0) (H:Own w D w []) (G:z=a.aH.ls.length) (I:Ro w D fun w'=>bE w' 6 h a.aH.ls.length (q3 bi.cells a.aH.ls)) (af:a.aH.ls.length≤d∧a.aH.ls.length≤9223372036854775807) (p:s5 ae.abs m=a.ai.ls) (J:B=a.ai.ls.length) (K:Ro w D fun w'=>bE w' 3 j a.ai.ls.length (q3 ae.cells m)) (ag:a.ai.ls.length≤f∧a.ai.ls.length≤9223372036854775807) (r:∀ x ∈ m,Ro w D (fun w'=>bE w' 2 x.ak.A x.ak.ls.length (q3 aI.cells x.ak.ls))∧(x.ak.ls.length≤x.ak.c∧x.ak.ls.length≤9223372036854775807)) (L:C=a.ag.ls.length) (M:Ro w D fun w'=>bE w' 2 l a.ag.ls.length (q3 aY.cells a.ag.ls)) (ai:a.ag.ls.length≤g∧a.ag.ls.length≤9223372036854775807) (N:Ro w D fun w'=>bE w' 1 R n1 (q3 (eI .i64) l1)) (aj:n1=l1.length) (aH:l1.length *8≤211106232532992) (aJ:a.aH.ls.length≤140737488355328∧a.ai.ls.length≤140737488355328∧a.ag.ls.length≤140737488355328) (hr:qC a l1=r0):
    Calls v8 53 #[.agg (gU a.aD a.aJ a.fI a.aK a.dz a.eH a.aP a.av a.aN a.dY a.aV a.aL a.dL a.cu a.xN a.cz a.bU.bF a.bU.bT h z d j B f l C g).toArray, .slice R n1 c1] w (d9 fun v w'=>v= .bool r0∧Own w D w' []):=by
 subst aj G J L
 have Z:=aB p
 refine cb Tryz.func53 ?_
 refine sr ?_
 refine dV (iH a h d j f l g) 42 H ?_
 intro O aK ak
 refine An rfl (Ic (sr (Mz rfl (Kz (vJ l1.length) (Mn rfl (bo ?_))))))
 have au:=ak.pf []
 obtain⟨av,s⟩:=nQ fun (b:Nat) w'=>Own w D w' [blk O (iH a h d j f l g) 42]∧b≤l1.length∧kD a l1=kD a (r3 b l1)
 refine C3 (fun i:Nat=> [(4, .bool false),(9,vJ i),(8,vJ l1.length),(7, .slice R l1.length c1),(2,vP O 0)]) av (fun i=>l1.length - i) 0 ⟨rfl,rfl,rfl,rfl,rfl,trivial⟩ (s.2 ⟨au,e6,rfl⟩) ?_
 rintro b aL S
 obtain⟨o,aC,t⟩:=s.1 S
 refine sr (Kz (.bool (decide (((b:Nat):Int) < ((l1.length:Nat):Int)))) (nt (Ic ?_)))
 by_cases T:((b:Nat):Int) < ((l1.length:Nat):Int)
 obtain⟨P,E⟩:=dN (ls:=l1) (i:=b) jd f4 (o.ro N) e9
 have F:=drop_at E
 refine jT (dT T) (sk (Ic (bo (sr (fw (.pointer (some ⟨ab R,ao R+b *1,none⟩)) (Ij (Ev) rfl rfl ((o.ro N).addr (i:=b) e6) e6) (fw (vI P) (Io rfl (bZ.one Tryz.isAgg154 (((o.ro N).elem jd E f4).at_ (k:=0) rfl))) (Ar rfl (La (iH a h d j f l g) o 0 Tryz.isAgg42 Tryz.sizeOf42 (Mz rfl ?_)))))))))
 obtain⟨Q,u⟩:∃ q,oZ a P=q:=⟨_,rfl⟩
 obtain⟨aM,U,n,V,aD⟩:=Ii o
 refine cl Tryz.call76 (BA _ _ a h a.aH.ls.length d j a.ai.ls.length f m l a.ag.ls.length g P Q U rfl (n _ I) (show a.aH.ls.length≤d∧a.aH.ls.length≤9223372036854775807 from by omega) p rfl (n _ K) (show a.ai.ls.length≤f∧a.ai.ls.length≤9223372036854775807 from by omega) (fun x9 h9=>⟨n _ (r x9 h9).1,(r x9 h9).2⟩) rfl (n _ M) (show a.ag.ls.length≤g∧a.ag.ls.length≤9223372036854775807 from by omega) i3 u) ?_
 rintro _ aN ⟨rfl,W⟩
 have X:=V _ _ W
 refine Kz (.bool (!Q)) (nt ?_)
 rcases Li (Q) with y | y
 refine jF (cn y) (IE (bN (Ig (Ib (fw (vJ (b+1)) (Ie (e:=C5.wrap (((b:Nat):Int)+1)) yk f0) (Mz rfl (C6 ?_)))))))
 have ax:=X.pf []
 exact Ir (b+1) ⟨rfl,rfl,rfl,rfl,rfl,trivial⟩ (s.2 ⟨ax,e6,et (t) (et (congrArg (fun q=>kD a q) F) (et (ah u) (ip y)))⟩) (by show l1.length - (b+1) < l1.length - b; omega)
 refine jT (cn y) (sr (An rfl (rt (bR (tR (tR (bR (tR (rs ?_)))))))))
 have ay:=X.pk []
 obtain rfl:_=false:=hr.symm.trans (jm (et (t) (et (congrArg (fun q=>kD a q) F) (et (ah u) (gm y)))))
 exact⟨rfl,ay⟩
 refine jF (dF T) (C7 (Il ?_))
 have Y:kD a l1=B9 ():=et (t) (et (congrArg (fun q=>kD a q) (fB (ls:=l1) (i:=b) e6)) rfl)
 refine Il (IB (Ig (sr (An rfl (rt (rs ?_))))))
 have az:=o.pk []
 obtain rfl:_=true:=hr.symm.trans (nT Y)
 exact⟨rfl,az⟩
def ru (a:bL):Bool:=
 if((di (di (di (di (di (di (di (di a.aP a.av) a.aN) a.dY) a.aV) a.aL) a.dL) a.cu) a.xN:Nat):Int)=0 then if(((a.aH.ls.length+a.ai.ls.length)+a.ag.ls.length:Nat):Int)=0 then if a.aK=0 then if a.dz=0 then if a.eH=0 then if a.cz=true then false else decide ((a.bU.bF=([]))∧(a.bU.bT=([]))) else false else false else false else false else false
theorem zK (w D) (a:bL) (l s m n t o r p y q V) (H:Own w D w []) (z:s=a.aH.ls.length) (G:Ro w D fun w'=>bE w' 6 l a.aH.ls.length (q3 bi.cells a.aH.ls)) (I:a.aH.ls.length≤m∧a.aH.ls.length≤9223372036854775807) (B:s5 ae.abs r=a.ai.ls) (C:t=a.ai.ls.length) (J:Ro w D fun w'=>bE w' 3 n a.ai.ls.length (q3 ae.cells r)) (K:a.ai.ls.length≤o∧a.ai.ls.length≤9223372036854775807) (L:∀ x ∈ r,Ro w D (fun w'=>bE w' 2 x.ak.A x.ak.ls.length (q3 aI.cells x.ak.ls))∧(x.ak.ls.length≤x.ak.c∧x.ak.ls.length≤9223372036854775807)) (E:y=a.ag.ls.length) (M:Ro w D fun w'=>bE w' 2 p a.ag.ls.length (q3 aY.cells a.ag.ls)) (N:a.ag.ls.length≤q∧a.ag.ls.length≤9223372036854775807) (ai:a.aH.ls.length≤140737488355328∧a.ai.ls.length≤140737488355328∧a.ag.ls.length≤140737488355328) (hr:ru a=V):
    Calls v8 51 #[.agg (gU a.aD a.aJ a.fI a.aK a.dz a.eH a.aP a.av a.aN a.dY a.aV a.aL a.dL a.cu a.xN a.cz a.bU.bF a.bU.bT l s m n t o p y q).toArray] w (d9 fun v w'=>v= .bool V∧Own w D w' []):=by
 subst z C E
 have F:=aB B
 refine cb Tryz.func51 ?_
 refine sr ?_
 refine dV (iH a l m n o p q) 42 H ?_
 intro d aj b
 refine Ar rfl (Kz (vP d 6) (Lz (vU a.aP) b 0 D4 (Kz (vP d 7) (Lz (vU a.av) b 0 D4 ?_))))
 have W:di a.aP a.av≤18446744073709551615:=pR _ _
 refine fw (vU (di a.aP a.av)) (Ie (e:=D1.wrap (((BitVec.ofInt 64 ((a.aP:Nat):Int) ||| BitVec.ofInt 64 ((a.av:Nat):Int)).toNat:Nat):Int)) yk (fD _)) (Kz (vP d 8) (Lz (vU a.aN) b 0 D4 ?_))
 have X:di (di a.aP a.av) a.aN≤18446744073709551615:=pR _ _
 refine fw (vU (di (di a.aP a.av) a.aN)) (Ie (e:=D1.wrap (((BitVec.ofInt 64 ((di a.aP a.av:Nat):Int) ||| BitVec.ofInt 64 ((a.aN:Nat):Int)).toNat:Nat):Int)) yk (fD _)) (Kz (vP d 9) (Lz (vU a.dY) b 0 D4 ?_))
 have Y:di (di (di a.aP a.av) a.aN) a.dY≤18446744073709551615:=pR _ _
 refine fw (.int .u64 ((di (di (di a.aP a.av) a.aN) a.dY:Nat):Int)) (Ie (e:=D1.wrap (((BitVec.ofInt 64 ((di (di a.aP a.av) a.aN:Nat):Int) ||| BitVec.ofInt 64 ((a.dY:Nat):Int)).toNat:Nat):Int)) yk (fD _)) (Kz (vP d 10) (Lz (vU a.aV) b 0 D4 ?_))
 have Z:di (di (di (di a.aP a.av) a.aN) a.dY) a.aV≤18446744073709551615:=pR _ _
 refine fw (.int .u64 ((di (di (di (di a.aP a.av) a.aN) a.dY) a.aV:Nat):Int)) (Ie (e:=D1.wrap (((BitVec.ofInt 64 ((di (di (di a.aP a.av) a.aN) a.dY:Nat):Int) ||| BitVec.ofInt 64 ((a.aV:Nat):Int)).toNat:Nat):Int)) yk (fD _)) (Kz (vP d 11) (Lz (vU a.aL) b 0 D4 ?_))
 have aa:di (di (di (di (di a.aP a.av) a.aN) a.dY) a.aV) a.aL≤18446744073709551615:=pR _ _
 refine fw (.int .u64 ((di (di (di (di (di a.aP a.av) a.aN) a.dY) a.aV) a.aL:Nat):Int)) (Ie (e:=D1.wrap (((BitVec.ofInt 64 ((di (di (di (di a.aP a.av) a.aN) a.dY) a.aV:Nat):Int) ||| BitVec.ofInt 64 ((a.aL:Nat):Int)).toNat:Nat):Int)) yk (fD _)) (Kz (vP d 12) (Lz (vU a.dL) b 0 D4 ?_))
 have af:di (di (di (di (di (di a.aP a.av) a.aN) a.dY) a.aV) a.aL) a.dL≤18446744073709551615:=pR _ _
 refine fw (.int .u64 ((di (di (di (di (di (di a.aP a.av) a.aN) a.dY) a.aV) a.aL) a.dL:Nat):Int)) (Ie (e:=D1.wrap (((BitVec.ofInt 64 ((di (di (di (di (di a.aP a.av) a.aN) a.dY) a.aV) a.aL:Nat):Int) ||| BitVec.ofInt 64 ((a.dL:Nat):Int)).toNat:Nat):Int)) yk (fD _)) (Kz (vP d 13) (Lz (vU a.cu) b 0 D4 ?_))
 have ag:di (di (di (di (di (di (di a.aP a.av) a.aN) a.dY) a.aV) a.aL) a.dL) a.cu≤18446744073709551615:=pR _ _
 refine fw (.int .u64 ((di (di (di (di (di (di (di a.aP a.av) a.aN) a.dY) a.aV) a.aL) a.dL) a.cu:Nat):Int)) (Ie (e:=D1.wrap (((BitVec.ofInt 64 ((di (di (di (di (di (di a.aP a.av) a.aN) a.dY) a.aV) a.aL) a.dL:Nat):Int) ||| BitVec.ofInt 64 ((a.cu:Nat):Int)).toNat:Nat):Int)) yk (fD _)) (Kz (vP d 14) (Lz (vU a.xN) b 0 D4 ?_))
 have ah:di (di (di (di (di (di (di (di a.aP a.av) a.aN) a.dY) a.aV) a.aL) a.dL) a.cu) a.xN≤18446744073709551615:=pR _ _
 refine fw (.int .u64 ((di (di (di (di (di (di (di (di a.aP a.av) a.aN) a.dY) a.aV) a.aL) a.dL) a.cu) a.xN:Nat):Int)) (Ie (e:=D1.wrap (((BitVec.ofInt 64 ((di (di (di (di (di (di (di a.aP a.av) a.aN) a.dY) a.aV) a.aL) a.dL) a.cu:Nat):Int) ||| BitVec.ofInt 64 ((a.xN:Nat):Int)).toNat:Nat):Int)) yk (fD _)) (Ar rfl (Kz (vP d 18) (Lz (.slice l a.aH.ls.length m) b 0 Tryz.isAgg39 (Kz (vJ a.aH.ls.length) (Kz (vP d 19) (Lz (.slice n a.ai.ls.length o) b 0 Tryz.isAgg40 (Kz (vJ a.ai.ls.length) (fw (vJ (a.aH.ls.length+a.ai.ls.length)) (Ie (e:=C5.wrap (((a.aH.ls.length:Nat):Int)+((a.ai.ls.length:Nat):Int))) yk f0) (Kz (vP d 20) (Lz (.slice p a.ag.ls.length q) b 0 Tryz.isAgg29 (Kz (vJ a.ag.ls.length) (fw (vJ ((a.aH.ls.length+a.ai.ls.length)+a.ag.ls.length)) (Ie (e:=C5.wrap (((a.aH.ls.length+a.ai.ls.length:Nat):Int)+((a.ag.ls.length:Nat):Int))) yk f0) (Ar rfl (Mz rfl (Kz (.bool (decide (((di (di (di (di (di (di (di (di a.aP a.av) a.aN) a.dY) a.aV) a.aL) a.dL) a.cu) a.xN:Nat):Int)=0))) (Mz rfl ?_))))))))))))))))
 by_cases g:((di (di (di (di (di (di (di (di a.aP a.av) a.aN) a.dY) a.aV) a.aL) a.dL) a.cu) a.xN:Nat):Int)=0
 refine gw (vJ ((a.aH.ls.length+a.ai.ls.length)+a.ag.ls.length)) (dT g) (Iq rfl) (Gz (.bool (decide ((((a.aH.ls.length+a.ai.ls.length)+a.ag.ls.length:Nat):Int)=0))) (dT g) (fw (.bool (decide ((((a.aH.ls.length+a.ai.ls.length)+a.ag.ls.length:Nat):Int)=0))) (Iw rfl (dT g) rfl) (Mz rfl ?_)))
 by_cases f:(((a.aH.ls.length+a.ai.ls.length)+a.ag.ls.length:Nat):Int)=0
 refine Gz (vP d 3) (dT f) (Gl (vI a.aK) (dT f) b 0 C4 (Gz (.bool (decide (a.aK=0))) (dT f) (fw (.bool (decide (a.aK=0))) (Iw rfl (dT f) rfl) (Mz rfl ?_))))
 by_cases h:a.aK=0
 refine Gz (vP d 4) (dT h) (Gl (vI a.dz) (dT h) b 0 C4 (Gz (.bool (decide (a.dz=0))) (dT h) (fw (.bool (decide (a.dz=0))) (Iw rfl (dT h) rfl) (Mz rfl ?_))))
 by_cases j:a.dz=0
 refine Gz (vP d 5) (dT j) (Gl (vI a.eH) (dT j) b 0 C4 (Gz (.bool (decide (a.eH=0))) (dT j) (fw (.bool (decide (a.eH=0))) (Iw rfl (dT j) rfl) (Mz rfl ?_))))
 by_cases k:a.eH=0
 refine Gz (vP d 15) (dT k) (Gl (.bool a.cz) (dT k) b 0 N3 (Gz (.bool (!a.cz)) (dT k) (fw (.bool (!a.cz)) (Iw rfl (dT k) rfl) (Mz rfl ?_))))
 rcases Li (a.cz) with i | i
 refine Sz (cn i) (Sz (cn i) (Sz (cn i) (Sz (cn i) (fw (.bool false) (Ih rfl (cn i) rfl) (An rfl (rt (rs ?_)))))))
 have O:=b.pk []
 obtain rfl:_=false:=hr.symm.trans (et (ip g) (et (ip f) (et (ip h) (et (ip j) (et (ip k) (ip i))))))
 exact⟨rfl,O⟩
 refine Gz (vP d 16) (cn i) (Ga (bC.cells a.bU) (cn i) b 0 M7 M6 (Gz (.agg #[.string ⟨v9 ([])⟩, .string ⟨v9 ([])⟩]) (cn i) (gw (.bool (decide ((a.bU.bF=([]))∧(a.bU.bT=([]))))) (cn i) (KH rfl rfl e7 rfl (ku.struct Tryz.underlying38 e7 (jO.dec (jO.cons (u:= .string ⟨v9 a.bU.bF⟩) (v:= .string ⟨v9 ([])⟩) f4 (fun _=>by kernel_rfl) (fun _=>by kernel_rfl) (ku.string B3) (jO.cons (u:= .string ⟨v9 a.bU.bT⟩) (v:= .string ⟨v9 ([])⟩) f4 (fun _=>by kernel_rfl) (fun _=>by kernel_rfl) (ku.string B3) (jO.nil.up (Lg _)))) ((congrArg (decide (a.bU.bF=([])) && ·) rF).trans jA)))) (fw (.bool (decide ((a.bU.bF=([]))∧(a.bU.bT=([]))))) (Iw rfl (cn i) rfl) (An rfl (rt (rs ?_)))))))
 have P:=b.pk []
 obtain rfl:_=decide ((a.bU.bF=([]))∧(a.bU.bT=([]))):=hr.symm.trans (et (ip g) (et (ip f) (et (ip h) (et (ip j) (et (ip k) (gm i))))))
 exact⟨rfl,P⟩
 refine Sz (dF k) (Sz (dF k) (Sz (dF k) (fw (.bool false) (Ih rfl (dF k) rfl) (Mz rfl (Sz rfl (Sz rfl (Sz rfl (Sz rfl (fw (.bool false) (Ih rfl rfl rfl) (An rfl (rt (rs ?_))))))))))))
 have Q:=b.pk []
 obtain rfl:_=false:=hr.symm.trans (et (ip g) (et (ip f) (et (ip h) (et (ip j) (iN k)))))
 exact⟨rfl,Q⟩
 refine Sz (dF j) (Sz (dF j) (Sz (dF j) (fw (.bool false) (Ih rfl (dF j) rfl) (Mz rfl (Sz rfl (Sz rfl (Sz rfl (fw (.bool false) (Ih rfl rfl rfl) (Mz rfl (Sz rfl (Sz rfl (Sz rfl (Sz rfl (fw (.bool false) (Ih rfl rfl rfl) (An rfl (rt (rs ?_)))))))))))))))))
 have R:=b.pk []
 obtain rfl:_=false:=hr.symm.trans (et (ip g) (et (ip f) (et (ip h) (iN j))))
 exact⟨rfl,R⟩
 refine Sz (dF h) (Sz (dF h) (Sz (dF h) (fw (.bool false) (Ih rfl (dF h) rfl) (Mz rfl (Sz rfl (Sz rfl (Sz rfl (fw (.bool false) (Ih rfl rfl rfl) (Mz rfl (Sz rfl (Sz rfl (Sz rfl (fw (.bool false) (Ih rfl rfl rfl) (Mz rfl (Sz rfl (Sz rfl (Sz rfl (Sz rfl (fw (.bool false) (Ih rfl rfl rfl) (An rfl (rt (rs ?_))))))))))))))))))))))
 have S:=b.pk []
 obtain rfl:_=false:=hr.symm.trans (et (ip g) (et (ip f) (iN h)))
 exact⟨rfl,S⟩
 refine Sz (dF f) (Sz (dF f) (Sz (dF f) (fw (.bool false) (Ih rfl (dF f) rfl) (Mz rfl (Sz rfl (Sz rfl (Sz rfl (fw (.bool false) (Ih rfl rfl rfl) (Mz rfl (Sz rfl (Sz rfl (Sz rfl (fw (.bool false) (Ih rfl rfl rfl) (Mz rfl (Sz rfl (Sz rfl (Sz rfl (fw (.bool false) (Ih rfl rfl rfl) (Mz rfl (Sz rfl (Sz rfl (Sz rfl (Sz rfl (fw (.bool false) (Ih rfl rfl rfl) (An rfl (rt (rs ?_)))))))))))))))))))))))))))
 have T:=b.pk []
 obtain rfl:_=false:=hr.symm.trans (et (ip g) (iN f))
 exact⟨rfl,T⟩
 refine Sz (dF g) (Sz (dF g) (fw (.bool false) (Ih rfl (dF g) rfl) (Mz rfl (Sz rfl (Sz rfl (Sz rfl (fw (.bool false) (Ih rfl rfl rfl) (Mz rfl (Sz rfl (Sz rfl (Sz rfl (fw (.bool false) (Ih rfl rfl rfl) (Mz rfl (Sz rfl (Sz rfl (Sz rfl (fw (.bool false) (Ih rfl rfl rfl) (Mz rfl (Sz rfl (Sz rfl (Sz rfl (fw (.bool false) (Ih rfl rfl rfl) (Mz rfl (Sz rfl (Sz rfl (Sz rfl (Sz rfl (fw (.bool false) (Ih rfl rfl rfl) (An rfl (rt (rs ?_)))))))))))))))))))))))))))))))
 have U:=b.pk []
 obtain rfl:_=false:=hr.symm.trans (iN g)
 exact⟨rfl,U⟩
end Go.Proofs.YtbkagebjhbphaaaGreat
