/-
 wire: which messages may be.
-/
import Derived.Test.YtbkagebjhbphaaaGreatRa
namespace Go.Proofs.YtbkagebjhbphaaaGreat
open Int renaming toNat→C6
open IntKind renaming i64→C3,u64→C7
open List renaming drop→r4,flatMap→q4,map→s5,mem_of_getElem?→D1,toArray→v6
open Ll renaming mk→E0
open Sum renaming inl→B7,inr→B9
open _root_.Go.Proofs.Tryz renaming call112→M2,call139→N5,call158→N1,func158→M3,isAgg111→N4,isAgg128→M1,isAgg227→N2,isAgg231→M5,isAgg28→D2,isAgg3→C2,isAgg38→N0,isAgg4→N6,isAgg72→M8,isAgg9→C0,prog→v5,sizeOf128→M0,sizeOf231→M6,sizeOf244→M4,sizeOf38→M9,sizeOf72→M7,underlying3→v8,underlying72→N3,underlying9→v9
open WL renaming nil→C4
open Wp renaming exit→C5,loop→C1
set_option maxRecDepth 100000
open Go.RowKit
set_option linter.unusedVariables false
set_option linter.unusedSectionVars false
set_option linter.unusedSimpArgs false
def oJ (a:Int):fT × Bool:=
 if a≤0 then(fT.mk 0 0 (E0 ([])),false) else if a ≥ 15 then(fT.mk 0 0 (E0 ([])),false) else if((C6 a:Nat):Int)=1 then(fT.mk 2 0 (E0 ([0,1,7])),true) else if((C6 a:Nat):Int)=2 then(fT.mk 0 2 (E0 ([0,1,2,3])),true) else if((C6 a:Nat):Int)=3 then(fT.mk 0 1 (E0 ([4,5,6,7])),true) else if((C6 a:Nat):Int)=4 then(fT.mk 1 0 (E0 ([4,2,3])),true) else if((C6 a:Nat):Int)=5 then(fT.mk 0 1 (E0 ([4,8])),true) else if((C6 a:Nat):Int)=6 then(fT.mk 1 0 (E0 ([4])),true) else if((C6 a:Nat):Int)=7 then(fT.mk 1 0 (E0 ([4])),true) else if((C6 a:Nat):Int)=8 then(fT.mk 0 1 (E0 ([9,6,10,11])),true) else if((C6 a:Nat):Int)=9 then(fT.mk 1 0 (E0 ([9])),true) else if((C6 a:Nat):Int)=10 then(fT.mk 0 1 (E0 ([9,10,12,8,13])),true) else if((C6 a:Nat):Int)=11 then(fT.mk 1 1 (E0 ([10,14,15,13,7])),true) else if((C6 a:Nat):Int)=12 then(fT.mk 1 1 (E0 ([10,14,15])),true) else if((C6 a:Nat):Int)=13 then(fT.mk 1 0 (E0 ([10])),true) else(fT.mk 1 0 (E0 ([10])),true)
theorem xw (w D c) (r0:fT) (r1) (H:Own w D w []) (hr:oJ c=(r0,r1)):
    Calls v5 49 #[vI c] w (dA fun v w'=> ∃ O P,v= .tuple #[.agg #[vI r0.mi,vI r0.o5, .slice O r0.bX.ls.length P], .bool r1]∧Own w D w' [row O r0.bX.ls.length P (q4 (eI .i64) r0.bX.ls) 154 1]∧(r0.bX.ls.length≤5)):=by
 refine cb Tryz.func49 ?_
 refine sr ?_
 refine dn [vI 0,vI 0, .slice none 0 0] 128 H ?_
 intro cu cz bu
 refine Ar rfl ?_
 refine jV [vI 0,vI 1,vI 7] 154 1 3 bu ?_
 intro s cB ag
 replace ag:=IX (y:=row s 3 3 (q4 (eI .i64) ([0,1,7])) 154 1) rfl ag
 refine Kz (.agg #[vI 2,vI 0, .slice s 3 3]) ?_
 refine jV [vI 0,vI 1,vI 2,vI 3] 154 1 4 ag ?_
 intro t cO ah
 replace ah:=IX (y:=row t 4 4 (q4 (eI .i64) ([0,1,2,3])) 154 1) rfl ah
 refine Kz (.agg #[vI 0,vI 2, .slice t 4 4]) ?_
 refine jV [vI 4,vI 5,vI 6,vI 7] 154 1 4 ah ?_
 intro u cZ ai
 replace ai:=IX (y:=row u 4 4 (q4 (eI .i64) ([4,5,6,7])) 154 1) rfl ai
 refine Kz (.agg #[vI 0,vI 1, .slice u 4 4]) ?_
 refine jV [vI 4,vI 2,vI 3] 154 1 3 ai ?_
 intro x dh aj
 replace aj:=IX (y:=row x 3 3 (q4 (eI .i64) ([4,2,3])) 154 1) rfl aj
 refine Kz (.agg #[vI 1,vI 0, .slice x 3 3]) ?_
 refine jV [vI 4,vI 8] 154 1 2 aj ?_
 intro z di ak
 replace ak:=IX (y:=row z 2 2 (q4 (eI .i64) ([4,8])) 154 1) rfl ak
 refine Kz (.agg #[vI 0,vI 1, .slice z 2 2]) ?_
 refine jV [vI 4] 154 1 1 ak ?_
 intro A dm au
 replace au:=IX (y:=row A 1 1 (q4 (eI .i64) ([4])) 154 1) rfl au
 refine Kz (.agg #[vI 1,vI 0, .slice A 1 1]) ?_
 refine jV [vI 4] 154 1 1 au ?_
 intro B dw av
 replace av:=IX (y:=row B 1 1 (q4 (eI .i64) ([4])) 154 1) rfl av
 refine Kz (.agg #[vI 1,vI 0, .slice B 1 1]) ?_
 refine jV [vI 9,vI 6,vI 10,vI 11] 154 1 4 av ?_
 intro C dx ax
 replace ax:=IX (y:=row C 4 4 (q4 (eI .i64) ([9,6,10,11])) 154 1) rfl ax
 refine Kz (.agg #[vI 0,vI 1, .slice C 4 4]) ?_
 refine jV [vI 9] 154 1 1 ax ?_
 intro E dz ay
 replace ay:=IX (y:=row E 1 1 (q4 (eI .i64) ([9])) 154 1) rfl ay
 refine Kz (.agg #[vI 1,vI 0, .slice E 1 1]) ?_
 refine jV [vI 9,vI 10,vI 12,vI 8,vI 13] 154 1 5 ay ?_
 intro F dB az
 replace az:=IX (y:=row F 5 5 (q4 (eI .i64) ([9,10,12,8,13])) 154 1) rfl az
 refine Kz (.agg #[vI 0,vI 1, .slice F 5 5]) ?_
 refine jV [vI 10,vI 14,vI 15,vI 13,vI 7] 154 1 5 az ?_
 intro G dC aA
 replace aA:=IX (y:=row G 5 5 (q4 (eI .i64) ([10,14,15,13,7])) 154 1) rfl aA
 refine Kz (.agg #[vI 1,vI 1, .slice G 5 5]) ?_
 refine jV [vI 10,vI 14,vI 15] 154 1 3 aA ?_
 intro I dD aB
 replace aB:=IX (y:=row I 3 3 (q4 (eI .i64) ([10,14,15])) 154 1) rfl aB
 refine Kz (.agg #[vI 1,vI 1, .slice I 3 3]) ?_
 refine jV [vI 10] 154 1 1 aB ?_
 intro J dE aC
 replace aC:=IX (y:=row J 1 1 (q4 (eI .i64) ([10])) 154 1) rfl aC
 refine Kz (.agg #[vI 1,vI 0, .slice J 1 1]) ?_
 refine jV [vI 10] 154 1 1 aC ?_
 intro K dG aD
 replace aD:=IX (y:=row K 1 1 (q4 (eI .i64) ([10])) 154 1) rfl aD
 refine Kz (.agg #[vI 1,vI 0, .slice K 1 1]) (Kz (.agg #[vI 0,vI 0, .slice none 0 0,vI 2,vI 0, .slice s 3 3,vI 0,vI 2, .slice t 4 4,vI 0,vI 1, .slice u 4 4,vI 1,vI 0, .slice x 3 3,vI 0,vI 1, .slice z 2 2,vI 1,vI 0, .slice A 1 1,vI 1,vI 0, .slice B 1 1,vI 0,vI 1, .slice C 4 4,vI 1,vI 0, .slice E 1 1,vI 0,vI 1, .slice F 5 5,vI 1,vI 1, .slice G 5 5,vI 1,vI 1, .slice I 3 3,vI 1,vI 0, .slice J 1 1,vI 1,vI 0, .slice K 1 1]) ?_)
 refine dn [vI 0,vI 0, .slice none 0 0,vI 0,vI 0, .slice none 0 0,vI 0,vI 0, .slice none 0 0,vI 0,vI 0, .slice none 0 0,vI 0,vI 0, .slice none 0 0,vI 0,vI 0, .slice none 0 0,vI 0,vI 0, .slice none 0 0,vI 0,vI 0, .slice none 0 0,vI 0,vI 0, .slice none 0 0,vI 0,vI 0, .slice none 0 0,vI 0,vI 0, .slice none 0 0,vI 0,vI 0, .slice none 0 0,vI 0,vI 0, .slice none 0 0,vI 0,vI 0, .slice none 0 0,vI 0,vI 0, .slice none 0 0] 155 aD ?_
 intro g dH bv
 refine df [vI 0,vI 0, .slice none 0 0,vI 2,vI 0, .slice s 3 3,vI 0,vI 2, .slice t 4 4,vI 0,vI 1, .slice u 4 4,vI 1,vI 0, .slice x 3 3,vI 0,vI 1, .slice z 2 2,vI 1,vI 0, .slice A 1 1,vI 1,vI 0, .slice B 1 1,vI 0,vI 1, .slice C 4 4,vI 1,vI 0, .slice E 1 1,vI 0,vI 1, .slice F 5 5,vI 1,vI 1, .slice G 5 5,vI 1,vI 1, .slice I 3 3,vI 1,vI 0, .slice J 1 1,vI 1,vI 0, .slice K 1 1] 0 bv Tryz.sizeOf155 ?_
 intro dI a
 refine nt (Ik (sr (Mz rfl (Kz (.bool (decide (c≤0))) (Mz rfl ?_)))))
 by_cases b:c≤0
 refine Sz (dT b) (Sz (dT b) (fw (.bool true) (Iw rfl (dT b) rfl) (nt (jt (sr (Kz (.agg #[vI 0,vI 0, .slice none 0 0]) ?_))))))
 have bz:=a.pf [15]
 refine df [vI 0,vI 0, .slice none 0 0] 0 bz M0 ?_
 intro bA aF
 refine An rfl (rt (tR (Fin.res (jb (vs:= [.agg #[vI 0,vI 0, .slice none 0 0], .bool false]) rfl (cK.cell rfl (IJ (cs:= [vI 0,vI 0, .slice none 0 0]) M1 M0 ((aF.cls (i:=0) rfl).lit (k:=0) (m:=3) rfl)) (cK.tmp rfl cK.nil)) (Lj rfl)) ?_)))
 have bB:Own w D bA (row none 0 0 (q4 (eI .i64) ([])) 154 1::_):=aF.free (eP 154 1)
 have bC:=bB.pk [0]
 obtain⟨rfl,rfl⟩:=fD (hr.symm.trans (show _=(fT.mk 0 0 (E0 ([])),false) from ip b))
 exact⟨none,0,rfl,bC,g8⟩
 refine gw (vI c) (dF b) (IA rfl) (Gz (.bool (decide (c ≥ 15))) (dF b) (fw (.bool (decide (c ≥ 15))) (Io rfl (dF b) rfl) (nt ?_)))
 by_cases d:c ≥ 15
 refine jT (dT d) (sr (Kz (.agg #[vI 0,vI 0, .slice none 0 0]) ?_))
 have bD:=a.pf [15]
 refine df [vI 0,vI 0, .slice none 0 0] 0 bD M0 ?_
 intro bE aG
 refine An rfl (rt (tR (Fin.res (jb (vs:= [.agg #[vI 0,vI 0, .slice none 0 0], .bool false]) rfl (cK.cell rfl (IJ (cs:= [vI 0,vI 0, .slice none 0 0]) M1 M0 ((aG.cls (i:=0) rfl).lit (k:=0) (m:=3) rfl)) (cK.tmp rfl cK.nil)) (Lj rfl)) ?_)))
 have bF:Own w D bE (row none 0 0 (q4 (eI .i64) ([])) 154 1::_):=aG.free (eP 154 1)
 have bG:=bF.pk [0]
 obtain⟨rfl,rfl⟩:=fD (hr.symm.trans (show _=(fT.mk 0 0 (E0 ([])),false) from et (iN b) (ip d)))
 exact⟨none,0,rfl,bG,g8⟩
 refine jF (dF d) (sk (sr (fw (vJ (C6 c)) (Ir (e:=c) (IA rfl) e6) ?_)))
 by_cases h:((C6 c:Nat):Int)=1
 refine fw (vP g 3) (by(try unfold vJ); rw [show ((C6 c:Nat):Int)=1 from by omega]; exact yk) (La ([vI 2,vI 0, .slice s 3 3]) a 0 M1 M0 ?_)
 have bH:=a.pf [15]
 refine df [vI 2,vI 0, .slice s 3 3] 0 bH M0 ?_
 intro dJ aH
 refine An rfl (rt (Fin.res (jb (vs:= [.agg #[vI 2,vI 0, .slice s 3 3], .bool true]) rfl (cK.cell rfl (IJ (cs:= [vI 2,vI 0, .slice s 3 3]) M1 M0 ((aH.cls (i:=0) rfl).lit (k:=0) (m:=3) rfl)) (cK.tmp rfl cK.nil)) (Lj rfl)) ?_))
 have bI:=aH.pk [15]
 obtain⟨rfl,rfl⟩:=fD (hr.symm.trans (show _=(fT.mk 2 0 (E0 ([0,1,7])),true) from et (iN b) (et (iN d) (ip h))))
 exact⟨s,3,rfl,bI,g8⟩
 by_cases l:((C6 c:Nat):Int)=2
 refine fw (vP g 6) (by(try unfold vJ); rw [show ((C6 c:Nat):Int)=2 from by omega]; exact yk) (La ([vI 0,vI 2, .slice t 4 4]) a 0 M1 M0 ?_)
 have bJ:=a.pf [15]
 refine df [vI 0,vI 2, .slice t 4 4] 0 bJ M0 ?_
 intro dK aI
 refine An rfl (rt (Fin.res (jb (vs:= [.agg #[vI 0,vI 2, .slice t 4 4], .bool true]) rfl (cK.cell rfl (IJ (cs:= [vI 0,vI 2, .slice t 4 4]) M1 M0 ((aI.cls (i:=0) rfl).lit (k:=0) (m:=3) rfl)) (cK.tmp rfl cK.nil)) (Lj rfl)) ?_))
 have bK:=aI.pk [14]
 obtain⟨rfl,rfl⟩:=fD (hr.symm.trans (show _=(fT.mk 0 2 (E0 ([0,1,2,3])),true) from et (iN b) (et (iN d) (et (iN h) (ip l)))))
 exact⟨t,4,rfl,bK,g8⟩
 by_cases o:((C6 c:Nat):Int)=3
 refine fw (vP g 9) (by(try unfold vJ); rw [show ((C6 c:Nat):Int)=3 from by omega]; exact yk) (La ([vI 0,vI 1, .slice u 4 4]) a 0 M1 M0 ?_)
 have bL:=a.pf [15]
 refine df [vI 0,vI 1, .slice u 4 4] 0 bL M0 ?_
 intro dL aJ
 refine An rfl (rt (Fin.res (jb (vs:= [.agg #[vI 0,vI 1, .slice u 4 4], .bool true]) rfl (cK.cell rfl (IJ (cs:= [vI 0,vI 1, .slice u 4 4]) M1 M0 ((aJ.cls (i:=0) rfl).lit (k:=0) (m:=3) rfl)) (cK.tmp rfl cK.nil)) (Lj rfl)) ?_))
 have bM:=aJ.pk [13]
 obtain⟨rfl,rfl⟩:=fD (hr.symm.trans (show _=(fT.mk 0 1 (E0 ([4,5,6,7])),true) from et (iN b) (et (iN d) (et (iN h) (et (iN l) (ip o))))))
 exact⟨u,4,rfl,bM,g8⟩
 by_cases p:((C6 c:Nat):Int)=4
 refine fw (vP g 12) (by(try unfold vJ); rw [show ((C6 c:Nat):Int)=4 from by omega]; exact yk) (La ([vI 1,vI 0, .slice x 3 3]) a 0 M1 M0 ?_)
 have bN:=a.pf [15]
 refine df [vI 1,vI 0, .slice x 3 3] 0 bN M0 ?_
 intro bP Q
 refine An rfl (rt (Fin.res (jb (vs:= [.agg #[vI 1,vI 0, .slice x 3 3], .bool true]) rfl (cK.cell rfl (IJ (cs:= [vI 1,vI 0, .slice x 3 3]) M1 M0 ((Q.cls (i:=0) rfl).lit (k:=0) (m:=3) rfl)) (cK.tmp rfl cK.nil)) (Lj rfl)) ?_))
 have aK:=Q.pk [12]
 obtain⟨rfl,rfl⟩:=fD (hr.symm.trans (show _=(fT.mk 1 0 (E0 ([4,2,3])),true) from et (iN b) (et (iN d) (et (iN h) (et (iN l) (et (iN o) (ip p)))))))
 exact⟨x,3,rfl,aK,g8⟩
 by_cases f:((C6 c:Nat):Int)=5
 refine fw (vP g 15) (by(try unfold vJ); rw [show ((C6 c:Nat):Int)=5 from by omega]; exact yk) (La ([vI 0,vI 1, .slice z 2 2]) a 0 M1 M0 ?_)
 have aL:=a.pf [15]
 refine df [vI 0,vI 1, .slice z 2 2] 0 aL M0 ?_
 intro bQ R
 refine An rfl (rt (Fin.res (jb (vs:= [.agg #[vI 0,vI 1, .slice z 2 2], .bool true]) rfl (cK.cell rfl (IJ (cs:= [vI 0,vI 1, .slice z 2 2]) M1 M0 ((R.cls (i:=0) rfl).lit (k:=0) (m:=3) rfl)) (cK.tmp rfl cK.nil)) (Lj rfl)) ?_))
 have aM:=R.pk [11]
 obtain⟨rfl,rfl⟩:=fD (hr.symm.trans (show _=(fT.mk 0 1 (E0 ([4,8])),true) from et (iN b) (et (iN d) (et (iN h) (et (iN l) (et (iN o) (et (iN p) (ip f))))))))
 exact⟨z,2,rfl,aM,g8⟩
 by_cases j:((C6 c:Nat):Int)=6
 refine fw (vP g 18) (by(try unfold vJ); rw [show ((C6 c:Nat):Int)=6 from by omega]; exact yk) (La ([vI 1,vI 0, .slice A 1 1]) a 0 M1 M0 ?_)
 have aN:=a.pf [15]
 refine df [vI 1,vI 0, .slice A 1 1] 0 aN M0 ?_
 intro bR S
 refine An rfl (rt (Fin.res (jb (vs:= [.agg #[vI 1,vI 0, .slice A 1 1], .bool true]) rfl (cK.cell rfl (IJ (cs:= [vI 1,vI 0, .slice A 1 1]) M1 M0 ((S.cls (i:=0) rfl).lit (k:=0) (m:=3) rfl)) (cK.tmp rfl cK.nil)) (Lj rfl)) ?_))
 have aO:=S.pk [10]
 obtain⟨rfl,rfl⟩:=fD (hr.symm.trans (show _=(fT.mk 1 0 (E0 ([4])),true) from et (iN b) (et (iN d) (et (iN h) (et (iN l) (et (iN o) (et (iN p) (et (iN f) (ip j)))))))))
 exact⟨A,1,rfl,aO,g8⟩
 by_cases n:((C6 c:Nat):Int)=7
 refine fw (vP g 21) (by(try unfold vJ); rw [show ((C6 c:Nat):Int)=7 from by omega]; exact yk) (La ([vI 1,vI 0, .slice B 1 1]) a 0 M1 M0 ?_)
 have aP:=a.pf [15]
 refine df [vI 1,vI 0, .slice B 1 1] 0 aP M0 ?_
 intro bS T
 refine An rfl (rt (Fin.res (jb (vs:= [.agg #[vI 1,vI 0, .slice B 1 1], .bool true]) rfl (cK.cell rfl (IJ (cs:= [vI 1,vI 0, .slice B 1 1]) M1 M0 ((T.cls (i:=0) rfl).lit (k:=0) (m:=3) rfl)) (cK.tmp rfl cK.nil)) (Lj rfl)) ?_))
 have aQ:=T.pk [9]
 obtain⟨rfl,rfl⟩:=fD (hr.symm.trans (show _=(fT.mk 1 0 (E0 ([4])),true) from et (iN b) (et (iN d) (et (iN h) (et (iN l) (et (iN o) (et (iN p) (et (iN f) (et (iN j) (ip n))))))))))
 exact⟨B,1,rfl,aQ,g8⟩
 by_cases q:((C6 c:Nat):Int)=8
 refine fw (vP g 24) (by(try unfold vJ); rw [show ((C6 c:Nat):Int)=8 from by omega]; exact yk) (La ([vI 0,vI 1, .slice C 4 4]) a 0 M1 M0 ?_)
 have aR:=a.pf [15]
 refine df [vI 0,vI 1, .slice C 4 4] 0 aR M0 ?_
 intro bT U
 refine An rfl (rt (Fin.res (jb (vs:= [.agg #[vI 0,vI 1, .slice C 4 4], .bool true]) rfl (cK.cell rfl (IJ (cs:= [vI 0,vI 1, .slice C 4 4]) M1 M0 ((U.cls (i:=0) rfl).lit (k:=0) (m:=3) rfl)) (cK.tmp rfl cK.nil)) (Lj rfl)) ?_))
 have aS:=U.pk [8]
 obtain⟨rfl,rfl⟩:=fD (hr.symm.trans (show _=(fT.mk 0 1 (E0 ([9,6,10,11])),true) from et (iN b) (et (iN d) (et (iN h) (et (iN l) (et (iN o) (et (iN p) (et (iN f) (et (iN j) (et (iN n) (ip q)))))))))))
 exact⟨C,4,rfl,aS,g8⟩
 by_cases r:((C6 c:Nat):Int)=9
 refine fw (vP g 27) (by(try unfold vJ); rw [show ((C6 c:Nat):Int)=9 from by omega]; exact yk) (La ([vI 1,vI 0, .slice E 1 1]) a 0 M1 M0 ?_)
 have aT:=a.pf [15]
 refine df [vI 1,vI 0, .slice E 1 1] 0 aT M0 ?_
 intro bU V
 refine An rfl (rt (Fin.res (jb (vs:= [.agg #[vI 1,vI 0, .slice E 1 1], .bool true]) rfl (cK.cell rfl (IJ (cs:= [vI 1,vI 0, .slice E 1 1]) M1 M0 ((V.cls (i:=0) rfl).lit (k:=0) (m:=3) rfl)) (cK.tmp rfl cK.nil)) (Lj rfl)) ?_))
 have aU:=V.pk [7]
 obtain⟨rfl,rfl⟩:=fD (hr.symm.trans (show _=(fT.mk 1 0 (E0 ([9])),true) from et (iN b) (et (iN d) (et (iN h) (et (iN l) (et (iN o) (et (iN p) (et (iN f) (et (iN j) (et (iN n) (et (iN q) (ip r))))))))))))
 exact⟨E,1,rfl,aU,g8⟩
 by_cases L:((C6 c:Nat):Int)=10
 refine fw (vP g 30) (by(try unfold vJ); rw [show ((C6 c:Nat):Int)=10 from by omega]; exact yk) (La ([vI 0,vI 1, .slice F 5 5]) a 0 M1 M0 ?_)
 have aV:=a.pf [15]
 refine df [vI 0,vI 1, .slice F 5 5] 0 aV M0 ?_
 intro bV W
 refine An rfl (rt (Fin.res (jb (vs:= [.agg #[vI 0,vI 1, .slice F 5 5], .bool true]) rfl (cK.cell rfl (IJ (cs:= [vI 0,vI 1, .slice F 5 5]) M1 M0 ((W.cls (i:=0) rfl).lit (k:=0) (m:=3) rfl)) (cK.tmp rfl cK.nil)) (Lj rfl)) ?_))
 have aW:=W.pk [6]
 obtain⟨rfl,rfl⟩:=fD (hr.symm.trans (show _=(fT.mk 0 1 (E0 ([9,10,12,8,13])),true) from et (iN b) (et (iN d) (et (iN h) (et (iN l) (et (iN o) (et (iN p) (et (iN f) (et (iN j) (et (iN n) (et (iN q) (et (iN r) (ip L)))))))))))))
 exact⟨F,5,rfl,aW,g8⟩
 by_cases M:((C6 c:Nat):Int)=11
 refine fw (vP g 33) (by(try unfold vJ); rw [show ((C6 c:Nat):Int)=11 from by omega]; exact yk) (La ([vI 1,vI 1, .slice G 5 5]) a 0 M1 M0 ?_)
 have aX:=a.pf [15]
 refine df [vI 1,vI 1, .slice G 5 5] 0 aX M0 ?_
 intro bW X
 refine An rfl (rt (Fin.res (jb (vs:= [.agg #[vI 1,vI 1, .slice G 5 5], .bool true]) rfl (cK.cell rfl (IJ (cs:= [vI 1,vI 1, .slice G 5 5]) M1 M0 ((X.cls (i:=0) rfl).lit (k:=0) (m:=3) rfl)) (cK.tmp rfl cK.nil)) (Lj rfl)) ?_))
 have aY:=X.pk [5]
 obtain⟨rfl,rfl⟩:=fD (hr.symm.trans (show _=(fT.mk 1 1 (E0 ([10,14,15,13,7])),true) from et (iN b) (et (iN d) (et (iN h) (et (iN l) (et (iN o) (et (iN p) (et (iN f) (et (iN j) (et (iN n) (et (iN q) (et (iN r) (et (iN L) (ip M))))))))))))))
 exact⟨G,5,rfl,aY,g8⟩
 by_cases N:((C6 c:Nat):Int)=12
 refine fw (vP g 36) (by(try unfold vJ); rw [show ((C6 c:Nat):Int)=12 from by omega]; exact yk) (La ([vI 1,vI 1, .slice I 3 3]) a 0 M1 M0 ?_)
 have aZ:=a.pf [15]
 refine df [vI 1,vI 1, .slice I 3 3] 0 aZ M0 ?_
 intro bX Y
 refine An rfl (rt (Fin.res (jb (vs:= [.agg #[vI 1,vI 1, .slice I 3 3], .bool true]) rfl (cK.cell rfl (IJ (cs:= [vI 1,vI 1, .slice I 3 3]) M1 M0 ((Y.cls (i:=0) rfl).lit (k:=0) (m:=3) rfl)) (cK.tmp rfl cK.nil)) (Lj rfl)) ?_))
 have bf:=Y.pk [4]
 obtain⟨rfl,rfl⟩:=fD (hr.symm.trans (show _=(fT.mk 1 1 (E0 ([10,14,15])),true) from et (iN b) (et (iN d) (et (iN h) (et (iN l) (et (iN o) (et (iN p) (et (iN f) (et (iN j) (et (iN n) (et (iN q) (et (iN r) (et (iN L) (et (iN M) (ip N)))))))))))))))
 exact⟨I,3,rfl,bf,g8⟩
 by_cases Z:((C6 c:Nat):Int)=13
 refine fw (vP g 39) (by(try unfold vJ); rw [show ((C6 c:Nat):Int)=13 from by omega]; exact yk) (La ([vI 1,vI 0, .slice J 1 1]) a 0 M1 M0 ?_)
 have bg:=a.pf [15]
 refine df [vI 1,vI 0, .slice J 1 1] 0 bg M0 ?_
 intro bY aa
 refine An rfl (rt (Fin.res (jb (vs:= [.agg #[vI 1,vI 0, .slice J 1 1], .bool true]) rfl (cK.cell rfl (IJ (cs:= [vI 1,vI 0, .slice J 1 1]) M1 M0 ((aa.cls (i:=0) rfl).lit (k:=0) (m:=3) rfl)) (cK.tmp rfl cK.nil)) (Lj rfl)) ?_))
 have bi:=aa.pk [3]
 obtain⟨rfl,rfl⟩:=fD (hr.symm.trans (show _=(fT.mk 1 0 (E0 ([10])),true) from et (iN b) (et (iN d) (et (iN h) (et (iN l) (et (iN o) (et (iN p) (et (iN f) (et (iN j) (et (iN n) (et (iN q) (et (iN r) (et (iN L) (et (iN M) (et (iN N) (ip Z))))))))))))))))
 exact⟨J,1,rfl,bi,g8⟩
 refine fw (vP g 42) (by(try unfold vJ); rw [show ((C6 c:Nat):Int)=14 from by omega]; exact yk) (La ([vI 1,vI 0, .slice K 1 1]) a 0 M1 M0 ?_)
 have bn:=a.pf [15]
 refine df [vI 1,vI 0, .slice K 1 1] 0 bn M0 ?_
 intro bZ ae
 refine An rfl (rt (Fin.res (jb (vs:= [.agg #[vI 1,vI 0, .slice K 1 1], .bool true]) rfl (cK.cell rfl (IJ (cs:= [vI 1,vI 0, .slice K 1 1]) M1 M0 ((ae.cls (i:=0) rfl).lit (k:=0) (m:=3) rfl)) (cK.tmp rfl cK.nil)) (Lj rfl)) ?_))
 have bq:=ae.pk [2]
 obtain⟨rfl,rfl⟩:=fD (hr.symm.trans (show _=(fT.mk 1 0 (E0 ([10])),true) from et (iN b) (et (iN d) (et (iN h) (et (iN l) (et (iN o) (et (iN p) (et (iN f) (et (iN j) (et (iN n) (et (iN q) (et (iN r) (et (iN L) (et (iN M) (et (iN N) (iN Z))))))))))))))))
 exact⟨K,1,rfl,bq,g8⟩
def tJ (b:Int) (a:Int):Bool:=
 if b=2 then if a=1 then true else decide (a=2) else if a=3 then true else if a=4 then true else decide (a=5)
theorem xV (w D f b l) (H:Own w D w []) (hr:tJ f b=l):
    Calls v5 113 #[vI f,vI b] w (dA fun v w'=>v= .bool l∧Own w D w' []):=by
 refine cb Tryz.func113 ?_
 refine sr (An rfl (Ik (sr (Mz rfl (Kz (.bool (decide (f=2))) (nt ?_))))))
 by_cases e:f=2
 refine jT (dT e) (sr (Mz rfl (Kz (.bool (decide (b=1))) (Mz rfl ?_))))
 by_cases c:b=1
 refine Sz (dT c) (Sz (dT c) (fw (.bool true) (Iw rfl (dT c) rfl) (An rfl (rt (tR (rs ?_))))))
 have g:=H.pk []
 obtain rfl:_=true:=hr.symm.trans (et (ip e) (ip c))
 exact⟨rfl,g⟩
 refine gw (vI b) (dF c) (IA rfl) (Gz (.bool (decide (b=2))) (dF c) (fw (.bool (decide (b=2))) (Io rfl (dF c) rfl) (An rfl (rt (tR (rs ?_))))))
 have h:=H.pk []
 obtain rfl:_=decide (b=2):=hr.symm.trans (et (ip e) (iN c))
 exact⟨rfl,h⟩
 refine jF (dF e) (sk (sr (Mz rfl (Kz (.bool (decide (b=3))) (Mz rfl ?_)))))
 by_cases a:b=3
 refine Sz (dT a) (Sz (dT a) (fw (.bool true) (Iw rfl (dT a) rfl) (Mz rfl (Sz rfl (Sz rfl (fw (.bool true) (Iw rfl rfl rfl) (An rfl (rt (rs ?_)))))))))
 have i:=H.pk []
 obtain rfl:_=true:=hr.symm.trans (et (iN e) (ip a))
 exact⟨rfl,i⟩
 refine gw (vI b) (dF a) (IA rfl) (Gz (.bool (decide (b=4))) (dF a) (fw (.bool (decide (b=4))) (Io rfl (dF a) rfl) (Mz rfl ?_)))
 by_cases d:b=4
 refine Sz (dT d) (Sz (dT d) (fw (.bool true) (Iw rfl (dT d) rfl) (An rfl (rt (rs ?_)))))
 have j:=H.pk []
 obtain rfl:_=true:=hr.symm.trans (et (iN e) (et (iN a) (ip d)))
 exact⟨rfl,j⟩
 refine gw (vI b) (dF d) (IA rfl) (Gz (.bool (decide (b=5))) (dF d) (fw (.bool (decide (b=5))) (Io rfl (dF d) rfl) (An rfl (rt (rs ?_)))))
 have k:=H.pk []
 obtain rfl:_=decide (b=5):=hr.symm.trans (et (iN e) (et (iN a) (iN d)))
 exact⟨rfl,k⟩
def gY:List aH→Unit ⊕ Bool
  | []=>B7 ()
  | a::c=>bnd (dR a.aZ) fun b=>if b=0 then if((a.aG.length:Nat):Int) > 16 then B9 (false) else gY c else B9 (false)
def gI:List aQ→Unit ⊕ Bool
  | []=>B7 ()
  | a::b=>if((a.aG.length:Nat):Int) > 16 then B9 (false) else if((a.aj.ls.length:Nat):Int) > 4 then B9 (false) else sW (gY a.aj.ls) fun _=>gI b
def oW (a:Int) (l1:List aQ):Bool:=
 bnd (if a=2 then 4 else 24) fun sJrJ=>if((l1.length:Nat):Int) > ((sJrJ:Nat):Int) then false else lp (gI l1) fun _=>true
theorem vT (w D S r n1 Q d1 l1 r0) (H:Own w D w []) (T:s5 af.abs d1=l1) (R:Ro w D fun w'=>aY w' 3 r n1 (q4 af.cells d1)) (J:∀ x ∈ d1,Ro w D (fun w'=>aY w' 2 x.aj.A x.aj.ls.length (q4 aH.cells x.aj.ls))∧(x.aj.ls.length≤x.aj.c∧x.aj.ls.length≤9223372036854775807)) (aB:n1=l1.length) (bv:l1.length≤9223372036854775807) (hr:oW S l1=r0):
    Calls v5 114 #[vI S, .slice r n1 Q] w (dA fun v w'=>v= .bool r0∧Own w D w' []):=by
 subst aB
 have aW:=aA T
 refine cb Tryz.func114 ?_
 refine sr (Ar rfl (An rfl (Ik (sr (Mz rfl (Kz (.bool (decide (S=2))) (nt ?_)))))))
 obtain⟨aC,B⟩:=lF fun (n:Nat) w'=>Own w D w' []∧n≤9223372036854775807∧n ≥ 4∧n≤24∧(if S=2 then 4 else 24)=n
 refine Jg (fun i:Nat=> [(5,vJ i),(4, .bool false),(1, .slice r l1.length Q)]) aC ?_ ?_
 by_cases K:S=2
 refine jT (dT K) (Il (Az rfl (C4 ?_)))
 have aD:=H.pk []
 exact I8 4 ⟨rfl,rfl,rfl,trivial⟩ (B.2 ⟨aD,e6,e6,e6,ip K⟩)
 refine jF (dF K) (IU ?_)
 have aF:=H.pk []
 exact I8 24 ⟨rfl,rfl,rfl,trivial⟩ (B.2 ⟨aF,e6,e6,e6,iN K⟩)
 rintro n bz U
 obtain⟨V,aX,aZ,bf,k⟩:=B.1 U
 refine Ik (sr (Mz rfl (Kz (vJ l1.length) (Mz rfl (Kz (.bool (decide (((l1.length:Nat):Int) > ((n:Nat):Int)))) (nt ?_))))))
 by_cases o:((l1.length:Nat):Int) > ((n:Nat):Int)
 refine jT (dT o) (sr (An rfl (rt (tR (rs ?_)))))
 have aG:=V.pk []
 obtain rfl:_=false:=hr.symm.trans (et (ae k) (ip o))
 exact⟨rfl,aG⟩
 refine jF (dF o) (sk (Ik (sr (Mz rfl (Kz (vJ l1.length) (Mn rfl (bo ?_)))))))
 have aI:=V.pk []
 obtain⟨aJ,C⟩:=lF fun (b:Nat) w'=>Own w D w' []∧b≤l1.length∧gI l1=gI (r4 b l1)
 refine C1 (fun i:Nat=> [(4, .bool false),(18,vJ i),(17,vJ l1.length),(16, .slice r l1.length Q)]) aJ (fun i=>l1.length - i) 0 ⟨rfl,rfl,rfl,rfl,trivial⟩ (C.2 ⟨aI,e6,rfl⟩) ?_
 rintro b bA W
 obtain⟨E,bg,l⟩:=C.1 W
 refine sr (Kz (.bool (decide (((b:Nat):Int) < ((l1.length:Nat):Int)))) (nt (Ik ?_)))
 by_cases X:((b:Nat):Int) < ((l1.length:Nat):Int)
 obtain⟨a,m⟩:=dh (ls:=d1) (i:=b) af.len f2 (E.ro R) e9
 have Y:=eY T m
 have bi:=(J _ (D1 m)).2
 have p:=drop_at Y
 refine jT (dT X) (sk (Ik (bo (sr (fw (.pointer (some ⟨ab r,ao r+b *3,none⟩)) (Iz (rX) rfl rfl ((E.ro R).addr (i:=b) e6) e6) (fw (.agg (af.cells a).toArray) (IB rfl (IJ (cs:=(af.cells a)) Tryz.isAgg149 Tryz.sizeOf149 ((E.ro R).elem af.len m f2))) ?_))))))
 refine dn [.bool false, .string ⟨v6 ([])⟩, .slice none 0 0] 149 E ?_
 intro j bB aK
 refine df (af.cells a) 0 aK Tryz.sizeOf149 ?_
 intro bC u
 refine nt (Ik (sr (Kz (vP j 1) (Lz (.string ⟨v6 a.aG⟩) u 0 C0 (Kz (vJ a.aG.length) (Kz (.bool (decide (((a.aG.length:Nat):Int) > 16))) (Mz rfl ?_)))))))
 by_cases d:((a.aG.length:Nat):Int) > 16
 refine Sz (dT d) (Sz (dT d) (Sz (dT d) (Sz (dT d) (fw (.bool true) (Iw rfl (dT d) rfl) (nt (jt (sr (An rfl (rt (tR (bR (tR (tR (bR (tR (rs ?_))))))))))))))))
 have aL:=u.pk []
 obtain rfl:_=false:=hr.symm.trans (et (ae k) (et (iN o) (gL (et (l) (et (congrArg (fun q=>gI q) p) (ip d))))))
 exact⟨rfl,aL⟩
 refine Gz (vP j 2) (dF d) (Gl (.slice a.aj.A a.aj.ls.length a.aj.c) (dF d) u 0 Tryz.isAgg147 (Gz (vJ a.aj.ls.length) (dF d) (Gz (.bool (decide (((a.aj.ls.length:Nat):Int) > 4))) (dF d) (fw (.bool (decide (((a.aj.ls.length:Nat):Int) > 4))) (Io rfl (dF d) rfl) (nt ?_)))))
 by_cases y:((a.aj.ls.length:Nat):Int) > 4
 refine jT (dT y) (sr (An rfl (rt (tR (bR (tR (tR (bR (tR (rs ?_))))))))))
 have aM:=u.pk []
 obtain rfl:_=false:=hr.symm.trans (et (ae k) (et (iN o) (gL (et (l) (et (congrArg (fun q=>gI q) p) (et (iN d) (ip y)))))))
 exact⟨rfl,aM⟩
 refine jF (dF y) (sk (sr (Kz (vP j 2) (Lz (.slice a.aj.A a.aj.ls.length a.aj.c) u 0 Tryz.isAgg147 (Kz (vJ a.aj.ls.length) (Mn rfl (bo ?_)))))))
 have aN:=u.pf []
 obtain⟨aO,F⟩:=lF fun (f:Nat) w'=>Own w D w' [blk j (af.cells a) 149]∧f≤a.aj.ls.length∧gY a.aj.ls=gY (r4 f a.aj.ls)
 refine C1 (fun i:Nat=> [(4, .bool false),(35,vJ i),(34,vJ a.aj.ls.length),(33, .slice a.aj.A a.aj.ls.length a.aj.c),(32,vP j 2),(31, .bool (decide (((a.aj.ls.length:Nat):Int) > 4))),(30, .bool (decide (((a.aj.ls.length:Nat):Int) > 4))),(29,vJ a.aj.ls.length),(28, .slice a.aj.A a.aj.ls.length a.aj.c),(27,vP j 2),(26, .bool (decide (((a.aG.length:Nat):Int) > 16))),(25, .bool (decide (((a.aG.length:Nat):Int) > 16))),(24,vJ a.aG.length),(23, .string ⟨v6 a.aG⟩),(22,vP j 1),(7,vP j 0),(21, .agg (af.cells a).toArray),(20, .pointer (some ⟨ab r,ao r+b *3,none⟩)),(19, .bool (decide (((b:Nat):Int) < ((l1.length:Nat):Int)))),(18,vJ b),(17,vJ l1.length),(16, .slice r l1.length Q)]) aO (fun i=>a.aj.ls.length - i) 0 ⟨rfl,rfl,rfl,rfl,rfl,rfl,rfl,rfl,rfl,rfl,rfl,rfl,rfl,rfl,rfl,rfl,rfl,rfl,rfl,rfl,rfl,rfl,trivial⟩ (F.2 ⟨aN,e6,rfl⟩) ?_
 rintro f bD Z
 obtain⟨G,bn,s⟩:=F.1 Z
 refine sr (Kz (.bool (decide (((f:Nat):Int) < ((a.aj.ls.length:Nat):Int)))) (nt (Ik ?_)))
 by_cases aa:((f:Nat):Int) < ((a.aj.ls.length:Nat):Int)
 obtain⟨g,N⟩:=dh (ls:=a.aj.ls) (i:=f) aH.len f2 (G.ro (J _ (D1 m)).1) e9
 have I:=drop_at N
 refine jT (dT aa) (sk (Ik (bo (sr (fw (.pointer (some ⟨ab a.aj.A,ao a.aj.A+f *2,none⟩)) (Iz (jL) rfl rfl ((G.ro (J _ (D1 m)).1).addr (i:=f) e6) e6) (fw (.agg (aH.cells g).toArray) (IB rfl (IJ (cs:=(aH.cells g)) Tryz.isAgg153 Tryz.sizeOf153 ((G.ro (J _ (D1 m)).1).elem aH.len N f2))) ?_))))))
 refine dn [.string ⟨v6 ([])⟩, .string ⟨v6 ([])⟩] 153 G ?_
 intro ag bE aP
 refine df (aH.cells g) 0 aP Tryz.sizeOf153 ?_
 intro bF ah
 refine ns (Kz (vP ag 0) (Lz (.string ⟨v6 g.aZ⟩) ah 0 C0 ?_))
 obtain⟨z,t⟩:∃ q,dR g.aZ=q:=⟨_,rfl⟩
 obtain⟨bG,ai,bq,aj,bu⟩:=Iu ah
 refine cl M2 (j4 _ _ g.aZ z ai t) ?_
 rintro _ bH ⟨rfl,ak,O,P⟩
 have L:=aj _ _ ak
 replace O: ¬ (z=0)∨(1≤g.aZ.length∧g.aZ.length≤12):=O
 replace P:g.aZ.length < 1∨g.aZ.length > 12∨z=0:=P
 refine fw (.bool (decide (¬ (z=0)))) (IM (e:= !(decide (z=0))) yk decide_not.symm) (Mz rfl ?_)
 by_cases h:z=0
 refine gw (vP ag 1) (dF (Lr h)) yk (gw (.string ⟨v6 g.aG⟩) (dF (Lr h)) (IB rfl (bJ.one C0 (I1 (L.cls (i:=0) rfl) rfl))) (gw (vJ g.aG.length) (dF (Lr h)) yk (gw (.bool (decide (((g.aG.length:Nat):Int) > 16))) (dF (Lr h)) yk (fw (.bool (decide (((g.aG.length:Nat):Int) > 16))) (Io rfl (dF (Lr h)) rfl) (nt ?_)))))
 by_cases M:((g.aG.length:Nat):Int) > 16
 refine jT (dT M) (sr (An rfl (rt (bR (tR (tR (bR (bR (tR (tR (bR (tR (rs ?_)))))))))))))
 have aR:=L.pk []
 obtain rfl:_=false:=hr.symm.trans (et (ae k) (et (iN o) (gL (et (l) (et (congrArg (fun q=>gI q) p) (et (iN d) (et (iN y) (oU (et (s) (et (congrArg (fun q=>gY q) I) (et (ae t) (et (ip h) (ip M)))))))))))))
 exact⟨rfl,aR⟩
 refine jF (dF M) (IU (bN (Iq (Il (fw (vJ (f+1)) (Ir (e:=C3.wrap (((f:Nat):Int)+1)) yk f0) (Mz rfl (C4 ?_)))))))
 have aS:=L.pk [1]
 exact II (f+1) ⟨rfl,rfl,rfl,rfl,rfl,rfl,rfl,rfl,rfl,rfl,rfl,rfl,rfl,rfl,rfl,rfl,rfl,rfl,rfl,rfl,rfl,rfl,trivial⟩ (F.2 ⟨aS,e6,et (s) (et (congrArg (fun q=>gY q) I) (et (ae t) (et (ip h) (iN M))))⟩) (by show a.aj.ls.length - (f+1) < a.aj.ls.length - f; omega)
 refine Sz (dT h) (Sz (dT h) (Sz (dT h) (Sz (dT h) (fw (.bool true) (Iw rfl (dT h) rfl) (nt (jt (sr (An rfl (rt (bR (tR (tR (bR (bR (tR (tR (bR (tR (rs ?_)))))))))))))))))))
 have aT:=L.pk []
 obtain rfl:_=false:=hr.symm.trans (et (ae k) (et (iN o) (gL (et (l) (et (congrArg (fun q=>gI q) p) (et (iN d) (et (iN y) (oU (et (s) (et (congrArg (fun q=>gY q) I) (et (ae t) (iN h))))))))))))
 exact⟨rfl,aT⟩
 refine jF (dF aa) (C5 (IC ?_))
 have au:gY a.aj.ls=B7 ():=et (s) (et (congrArg (fun q=>gY q) (dZ (ls:=a.aj.ls) (i:=f) e6)) rfl)
 refine IC (IK (bN (Iq (Il (fw (vJ (b+1)) (Ir (e:=C3.wrap (((b:Nat):Int)+1)) yk f0) (Mz rfl (C4 ?_)))))))
 have aU:=G.pk []
 exact II (b+1) ⟨rfl,rfl,rfl,rfl,trivial⟩ (C.2 ⟨aU,e6,et (l) (et (congrArg (fun q=>gI q) p) (et (iN d) (et (iN y) (sH au))))⟩) (by show l1.length - (b+1) < l1.length - b; omega)
 refine jF (dF X) (C5 (IC ?_))
 have av:gI l1=B7 ():=et (l) (et (congrArg (fun q=>gI q) (dZ (ls:=l1) (i:=b) e6)) rfl)
 refine IC (IK (Iq (sr (An rfl (rt (rs ?_))))))
 have ax:=E.pk []
 obtain rfl:_=true:=hr.symm.trans (et (ae k) (et (iN o) (mF av)))
 exact⟨rfl,ax⟩
theorem uA (w D j) (H:Own w D w []) (c:j=1):
    Calls v5 158 #[vI j] w (dA fun v w'=>v= .tuple #[.agg #[.bool false, .func (.func 172) #[] #[], .func (.func 173) #[] #[], .func (.func 174) #[] #[], .func (.func 175) #[] #[]], .bool true]∧Own w D w' []):=by
 subst c
 refine cb M3 ?_
 refine sr ?_
 refine dn [.bool false, .nilFunc, .nilFunc, .nilFunc, .nilFunc] 231 H ?_
 intro l n d
 refine Ar rfl (Kz (.agg #[.bool false, .func (.func 172) #[] #[], .func (.func 173) #[] #[], .func (.func 174) #[] #[], .func (.func 175) #[] #[]]) (Kz (.agg #[.bool true, .func (.func 176) #[] #[], .func (.func 177) #[] #[], .func (.func 174) #[] #[], .func (.func 178) #[] #[]]) (Kz (.agg #[.bool true, .func (.func 172) #[] #[], .func (.func 173) #[] #[], .func (.func 174) #[] #[], .func (.func 179) #[] #[]]) (Kz (.agg #[.bool false, .func (.func 180) #[] #[], .func (.func 181) #[] #[], .func (.func 182) #[] #[], .func (.func 183) #[] #[]]) (Kz (.agg #[.bool true, .func (.func 184) #[] #[], .func (.func 185) #[] #[], .func (.func 182) #[] #[], .func (.func 186) #[] #[]]) (Kz (.agg #[.bool false, .nilFunc, .nilFunc, .nilFunc, .nilFunc, .bool false, .func (.func 172) #[] #[], .func (.func 173) #[] #[], .func (.func 174) #[] #[], .func (.func 175) #[] #[], .bool true, .func (.func 176) #[] #[], .func (.func 177) #[] #[], .func (.func 174) #[] #[], .func (.func 178) #[] #[], .bool true, .func (.func 172) #[] #[], .func (.func 173) #[] #[], .func (.func 174) #[] #[], .func (.func 179) #[] #[], .bool false, .func (.func 180) #[] #[], .func (.func 181) #[] #[], .func (.func 182) #[] #[], .func (.func 183) #[] #[], .bool true, .func (.func 184) #[] #[], .func (.func 185) #[] #[], .func (.func 182) #[] #[], .func (.func 186) #[] #[]]) ?_))))))
 refine dn [.bool false, .nilFunc, .nilFunc, .nilFunc, .nilFunc, .bool false, .nilFunc, .nilFunc, .nilFunc, .nilFunc, .bool false, .nilFunc, .nilFunc, .nilFunc, .nilFunc, .bool false, .nilFunc, .nilFunc, .nilFunc, .nilFunc, .bool false, .nilFunc, .nilFunc, .nilFunc, .nilFunc, .bool false, .nilFunc, .nilFunc, .nilFunc, .nilFunc] 244 d ?_
 intro e o f
 refine df [.bool false, .nilFunc, .nilFunc, .nilFunc, .nilFunc, .bool false, .func (.func 172) #[] #[], .func (.func 173) #[] #[], .func (.func 174) #[] #[], .func (.func 175) #[] #[], .bool true, .func (.func 176) #[] #[], .func (.func 177) #[] #[], .func (.func 174) #[] #[], .func (.func 178) #[] #[], .bool true, .func (.func 172) #[] #[], .func (.func 173) #[] #[], .func (.func 174) #[] #[], .func (.func 179) #[] #[], .bool false, .func (.func 180) #[] #[], .func (.func 181) #[] #[], .func (.func 182) #[] #[], .func (.func 183) #[] #[], .bool true, .func (.func 184) #[] #[], .func (.func 185) #[] #[], .func (.func 182) #[] #[], .func (.func 186) #[] #[]] 0 f M4 ?_
 intro p a
 refine nt (Ik (sr (Mz rfl (Kz (.bool false) (Mz rfl (gw (vI 1) rfl (IA rfl) (Gz (.bool false) rfl (fw (.bool false) (Io rfl rfl rfl) (nt (jf (sk (sr (Mz rfl (Kz (vP e 5) (La ([.bool false, .func (.func 172) #[] #[], .func (.func 173) #[] #[], .func (.func 174) #[] #[], .func (.func 175) #[] #[]]) a 0 M5 M6 ?_)))))))))))))))
 have g:=a.pb [0]
 refine df [.bool false, .func (.func 172) #[] #[], .func (.func 173) #[] #[], .func (.func 174) #[] #[], .func (.func 175) #[] #[]] 0 g M6 ?_
 intro q b
 refine An rfl (rt (Fin.res (jb (vs:= [.agg #[.bool false, .func (.func 172) #[] #[], .func (.func 173) #[] #[], .func (.func 174) #[] #[], .func (.func 175) #[] #[]], .bool true]) rfl (cK.cell rfl (IJ (cs:= [.bool false, .func (.func 172) #[] #[], .func (.func 173) #[] #[], .func (.func 174) #[] #[], .func (.func 175) #[] #[]]) M5 M6 ((b.cls (i:=0) rfl).lit (k:=0) (m:=5) rfl)) (cK.tmp rfl cK.nil)) (Lj rfl)) ?_))
 have h:=b.pk []
 exact⟨rfl,h⟩
def pz (a:aN):aN:=
 aN.mk a.av a.aZ ([]) ([]) ([]) 0
theorem vV (w D) (a:aN) (g:aN) (H:Own w D w []) (hr:pz a=g):
    Calls v5 172 #[.agg (aN.cells a).toArray] w (dA fun v w'=>v= .agg (aN.cells g).toArray∧Own w D w' []):=by
 refine cb Tryz.func172 ?_
 refine sr ?_
 refine dn (aN.cells a) 72 H ?_
 intro c h e
 refine dn [vI 0, .string ⟨v6 ([])⟩, .string ⟨v6 ([])⟩, .string ⟨v6 ([])⟩, .string ⟨v6 ([])⟩,vI 0] 72 e ?_
 intro j l b
 refine ns (Kz (vP c 0) (Lz (vI a.av) b 1 C2 (Kz (vP c 1) (Lz (.string ⟨v6 a.aZ⟩) b 1 C0 (Kz (.agg #[vI a.av, .string ⟨v6 a.aZ⟩, .string ⟨v6 ([])⟩, .string ⟨v6 ([])⟩, .string ⟨v6 ([])⟩,vI 0]) ?_)))))
 refine df [vI a.av, .string ⟨v6 a.aZ⟩, .string ⟨v6 ([])⟩, .string ⟨v6 ([])⟩, .string ⟨v6 ([])⟩,vI 0] 0 b M7 ?_
 intro n d
 refine nt (rt (Fin.res (oo rfl rfl (IJ (cs:= [vI a.av, .string ⟨v6 a.aZ⟩, .string ⟨v6 ([])⟩, .string ⟨v6 ([])⟩, .string ⟨v6 ([])⟩,vI 0]) M8 M7 ((d.cls (i:=0) rfl).lit (k:=0) (m:=6) rfl))) ?_))
 have f:=d.pk []
 obtain rfl:_=aN.mk a.av a.aZ ([]) ([]) ([]) 0:=hr.symm.trans rfl
 exact⟨rfl,f⟩
def nG (b:aN):Int:=
 bnd (dR b.aZ) fun a=>a
theorem uB (w D) (a:aN) (m) (H:Own w D w []) (hr:nG a=m):
    Calls v5 173 #[.agg (aN.cells a).toArray] w (dA fun v w'=>v=vI m∧Own w D w' []):=by
 refine cb Tryz.func173 ?_
 refine sr ?_
 refine dn (aN.cells a) 72 H ?_
 intro j p f
 refine Ar rfl (Kz (vP j 1) (Lz (.string ⟨v6 a.aZ⟩) f 0 C0 ?_))
 obtain⟨b,c⟩:∃ q,dR a.aZ=q:=⟨_,rfl⟩
 obtain⟨r,g,n,h,o⟩:=Iu f
 refine cl M2 (j4 _ _ a.aZ b g c) ?_
 rintro _ s ⟨rfl,i,d,e⟩
 have k:=h _ _ i
 replace d: ¬ (b=0)∨(1≤a.aZ.length∧a.aZ.length≤12):=d
 replace e:a.aZ.length < 1∨a.aZ.length > 12∨b=0:=e
 refine An rfl (rt (rs ?_))
 have l:=k.pk []
 obtain rfl:_=b:=hr.symm.trans (ae c)
 exact⟨rfl,l⟩
theorem uC (w D j) (H:Own w D w []) (c:j=2):
    Calls v5 158 #[vI j] w (dA fun v w'=>v= .tuple #[.agg #[.bool true, .func (.func 176) #[] #[], .func (.func 177) #[] #[], .func (.func 174) #[] #[], .func (.func 178) #[] #[]], .bool true]∧Own w D w' []):=by
 subst c
 refine cb M3 ?_
 refine sr ?_
 refine dn [.bool false, .nilFunc, .nilFunc, .nilFunc, .nilFunc] 231 H ?_
 intro l n d
 refine Ar rfl (Kz (.agg #[.bool false, .func (.func 172) #[] #[], .func (.func 173) #[] #[], .func (.func 174) #[] #[], .func (.func 175) #[] #[]]) (Kz (.agg #[.bool true, .func (.func 176) #[] #[], .func (.func 177) #[] #[], .func (.func 174) #[] #[], .func (.func 178) #[] #[]]) (Kz (.agg #[.bool true, .func (.func 172) #[] #[], .func (.func 173) #[] #[], .func (.func 174) #[] #[], .func (.func 179) #[] #[]]) (Kz (.agg #[.bool false, .func (.func 180) #[] #[], .func (.func 181) #[] #[], .func (.func 182) #[] #[], .func (.func 183) #[] #[]]) (Kz (.agg #[.bool true, .func (.func 184) #[] #[], .func (.func 185) #[] #[], .func (.func 182) #[] #[], .func (.func 186) #[] #[]]) (Kz (.agg #[.bool false, .nilFunc, .nilFunc, .nilFunc, .nilFunc, .bool false, .func (.func 172) #[] #[], .func (.func 173) #[] #[], .func (.func 174) #[] #[], .func (.func 175) #[] #[], .bool true, .func (.func 176) #[] #[], .func (.func 177) #[] #[], .func (.func 174) #[] #[], .func (.func 178) #[] #[], .bool true, .func (.func 172) #[] #[], .func (.func 173) #[] #[], .func (.func 174) #[] #[], .func (.func 179) #[] #[], .bool false, .func (.func 180) #[] #[], .func (.func 181) #[] #[], .func (.func 182) #[] #[], .func (.func 183) #[] #[], .bool true, .func (.func 184) #[] #[], .func (.func 185) #[] #[], .func (.func 182) #[] #[], .func (.func 186) #[] #[]]) ?_))))))
 refine dn [.bool false, .nilFunc, .nilFunc, .nilFunc, .nilFunc, .bool false, .nilFunc, .nilFunc, .nilFunc, .nilFunc, .bool false, .nilFunc, .nilFunc, .nilFunc, .nilFunc, .bool false, .nilFunc, .nilFunc, .nilFunc, .nilFunc, .bool false, .nilFunc, .nilFunc, .nilFunc, .nilFunc, .bool false, .nilFunc, .nilFunc, .nilFunc, .nilFunc] 244 d ?_
 intro e o f
 refine df [.bool false, .nilFunc, .nilFunc, .nilFunc, .nilFunc, .bool false, .func (.func 172) #[] #[], .func (.func 173) #[] #[], .func (.func 174) #[] #[], .func (.func 175) #[] #[], .bool true, .func (.func 176) #[] #[], .func (.func 177) #[] #[], .func (.func 174) #[] #[], .func (.func 178) #[] #[], .bool true, .func (.func 172) #[] #[], .func (.func 173) #[] #[], .func (.func 174) #[] #[], .func (.func 179) #[] #[], .bool false, .func (.func 180) #[] #[], .func (.func 181) #[] #[], .func (.func 182) #[] #[], .func (.func 183) #[] #[], .bool true, .func (.func 184) #[] #[], .func (.func 185) #[] #[], .func (.func 182) #[] #[], .func (.func 186) #[] #[]] 0 f M4 ?_
 intro p a
 refine nt (Ik (sr (Mz rfl (Kz (.bool false) (Mz rfl (gw (vI 2) rfl (IA rfl) (Gz (.bool false) rfl (fw (.bool false) (Io rfl rfl rfl) (nt (jf (sk (sr (Mz rfl (Kz (vP e 10) (La ([.bool true, .func (.func 176) #[] #[], .func (.func 177) #[] #[], .func (.func 174) #[] #[], .func (.func 178) #[] #[]]) a 0 M5 M6 ?_)))))))))))))))
 have g:=a.pb [0]
 refine df [.bool true, .func (.func 176) #[] #[], .func (.func 177) #[] #[], .func (.func 174) #[] #[], .func (.func 178) #[] #[]] 0 g M6 ?_
 intro q b
 refine An rfl (rt (Fin.res (jb (vs:= [.agg #[.bool true, .func (.func 176) #[] #[], .func (.func 177) #[] #[], .func (.func 174) #[] #[], .func (.func 178) #[] #[]], .bool true]) rfl (cK.cell rfl (IJ (cs:= [.bool true, .func (.func 176) #[] #[], .func (.func 177) #[] #[], .func (.func 174) #[] #[], .func (.func 178) #[] #[]]) M5 M6 ((b.cls (i:=0) rfl).lit (k:=0) (m:=5) rfl)) (cK.tmp rfl cK.nil)) (Lj rfl)) ?_))
 have h:=b.pk []
 exact⟨rfl,h⟩
def sI (a:aN):aN:=
 aN.mk a.av a.aZ a.aG ([]) ([]) 0
theorem zq (w D) (a:aN) (g:aN) (H:Own w D w []) (hr:sI a=g):
    Calls v5 176 #[.agg (aN.cells a).toArray] w (dA fun v w'=>v= .agg (aN.cells g).toArray∧Own w D w' []):=by
 refine cb Tryz.func176 ?_
 refine sr ?_
 refine dn (aN.cells a) 72 H ?_
 intro c h e
 refine dn [vI 0, .string ⟨v6 ([])⟩, .string ⟨v6 ([])⟩, .string ⟨v6 ([])⟩, .string ⟨v6 ([])⟩,vI 0] 72 e ?_
 intro j l b
 refine ns (Kz (vP c 0) (Lz (vI a.av) b 1 C2 (Kz (vP c 1) (Lz (.string ⟨v6 a.aZ⟩) b 1 C0 (Kz (vP c 2) (Lz (.string ⟨v6 a.aG⟩) b 1 C0 (Kz (.agg #[vI a.av, .string ⟨v6 a.aZ⟩, .string ⟨v6 a.aG⟩, .string ⟨v6 ([])⟩, .string ⟨v6 ([])⟩,vI 0]) ?_)))))))
 refine df [vI a.av, .string ⟨v6 a.aZ⟩, .string ⟨v6 a.aG⟩, .string ⟨v6 ([])⟩, .string ⟨v6 ([])⟩,vI 0] 0 b M7 ?_
 intro n d
 refine nt (rt (Fin.res (oo rfl rfl (IJ (cs:= [vI a.av, .string ⟨v6 a.aZ⟩, .string ⟨v6 a.aG⟩, .string ⟨v6 ([])⟩, .string ⟨v6 ([])⟩,vI 0]) M8 M7 ((d.cls (i:=0) rfl).lit (k:=0) (m:=6) rfl))) ?_))
 have f:=d.pk []
 obtain rfl:_=aN.mk a.av a.aZ a.aG ([]) ([]) 0:=hr.symm.trans rfl
 exact⟨rfl,f⟩
def si (a:List UInt8):Int:=
 if((a.length:Nat):Int) > 16 then 2 else 0
theorem xx (w D b e) (H:Own w D w []) (hr:si b=e):
    Calls v5 197 #[.string ⟨v6 b⟩] w (dA fun v w'=>v=vI e∧Own w D w' []):=by
 refine cb Tryz.func197 ?_
 refine sr (An rfl (Ik (sr (Mz rfl (Kz (vJ b.length) (Kz (.bool (decide (((b.length:Nat):Int) > 16))) (nt ?_)))))))
 by_cases a:((b.length:Nat):Int) > 16
 refine jT (dT a) (sr (An rfl (rt (tR (rs ?_)))))
 have c:=H.pk []
 obtain rfl:_=2:=hr.symm.trans (ip a)
 exact⟨rfl,c⟩
 refine jF (dF a) (sk (sr (An rfl (rt (rs ?_)))))
 have d:=H.pk []
 obtain rfl:_=0:=hr.symm.trans (iN a)
 exact⟨rfl,d⟩
def pE (c:aN):Int:=
 bnd (dR c.aZ) fun a=>if a=0 then bnd (si c.aG) fun b=>b else a
theorem xW (w D) (b:aN) (y) (H:Own w D w []) (hr:pE b=y):
    Calls v5 177 #[.agg (aN.cells b).toArray] w (dA fun v w'=>v=vI y∧Own w D w' []):=by
 refine cb Tryz.func177 ?_
 refine sr ?_
 refine dn (aN.cells b) 72 H ?_
 intro j E k
 refine An rfl (Ik (sr (Kz (vP j 1) (Lz (.string ⟨v6 b.aZ⟩) k 0 C0 ?_))))
 obtain⟨a,c⟩:∃ q,dR b.aZ=q:=⟨_,rfl⟩
 obtain⟨F,l,z,m,A⟩:=Iu k
 refine cl M2 (j4 _ _ b.aZ a l c) ?_
 rintro _ G ⟨rfl,n,f,g⟩
 have i:=m _ _ n
 replace f: ¬ (a=0)∨(1≤b.aZ.length∧b.aZ.length≤12):=f
 replace g:b.aZ.length < 1∨b.aZ.length > 12∨a=0:=g
 refine Ar rfl (Mz rfl (fw (.bool (decide (¬ (a=0)))) (IM (e:= !(decide (a=0))) yk decide_not.symm) (nt ?_)))
 by_cases d:a=0
 refine jF (dF (Lr d)) (sk (sr (Kz (vP j 2) (Lz (.string ⟨v6 b.aG⟩) i 0 C0 ?_))))
 obtain⟨o,h⟩:∃ q,si b.aG=q:=⟨_,rfl⟩
 obtain⟨I,p,B,r,C⟩:=Iu i
 refine cl Tryz.call197 (xx _ _ b.aG o p h) ?_
 rintro _ J ⟨rfl,s⟩
 have t:=r _ _ s
 refine An rfl (rt (rs ?_))
 have u:=t.pk []
 obtain rfl:_=o:=hr.symm.trans (et (ae c) (et (ip d) (ae h)))
 exact⟨rfl,u⟩
 refine jT (dT d) (sr (Mz rfl (An rfl (rt (tR (rs ?_))))))
 have x:=i.pk []
 obtain rfl:_=a:=hr.symm.trans (et (ae c) (iN d))
 exact⟨rfl,x⟩
theorem uD (w D j) (H:Own w D w []) (c:j=3):
    Calls v5 158 #[vI j] w (dA fun v w'=>v= .tuple #[.agg #[.bool true, .func (.func 172) #[] #[], .func (.func 173) #[] #[], .func (.func 174) #[] #[], .func (.func 179) #[] #[]], .bool true]∧Own w D w' []):=by
 subst c
 refine cb M3 ?_
 refine sr ?_
 refine dn [.bool false, .nilFunc, .nilFunc, .nilFunc, .nilFunc] 231 H ?_
 intro l n d
 refine Ar rfl (Kz (.agg #[.bool false, .func (.func 172) #[] #[], .func (.func 173) #[] #[], .func (.func 174) #[] #[], .func (.func 175) #[] #[]]) (Kz (.agg #[.bool true, .func (.func 176) #[] #[], .func (.func 177) #[] #[], .func (.func 174) #[] #[], .func (.func 178) #[] #[]]) (Kz (.agg #[.bool true, .func (.func 172) #[] #[], .func (.func 173) #[] #[], .func (.func 174) #[] #[], .func (.func 179) #[] #[]]) (Kz (.agg #[.bool false, .func (.func 180) #[] #[], .func (.func 181) #[] #[], .func (.func 182) #[] #[], .func (.func 183) #[] #[]]) (Kz (.agg #[.bool true, .func (.func 184) #[] #[], .func (.func 185) #[] #[], .func (.func 182) #[] #[], .func (.func 186) #[] #[]]) (Kz (.agg #[.bool false, .nilFunc, .nilFunc, .nilFunc, .nilFunc, .bool false, .func (.func 172) #[] #[], .func (.func 173) #[] #[], .func (.func 174) #[] #[], .func (.func 175) #[] #[], .bool true, .func (.func 176) #[] #[], .func (.func 177) #[] #[], .func (.func 174) #[] #[], .func (.func 178) #[] #[], .bool true, .func (.func 172) #[] #[], .func (.func 173) #[] #[], .func (.func 174) #[] #[], .func (.func 179) #[] #[], .bool false, .func (.func 180) #[] #[], .func (.func 181) #[] #[], .func (.func 182) #[] #[], .func (.func 183) #[] #[], .bool true, .func (.func 184) #[] #[], .func (.func 185) #[] #[], .func (.func 182) #[] #[], .func (.func 186) #[] #[]]) ?_))))))
 refine dn [.bool false, .nilFunc, .nilFunc, .nilFunc, .nilFunc, .bool false, .nilFunc, .nilFunc, .nilFunc, .nilFunc, .bool false, .nilFunc, .nilFunc, .nilFunc, .nilFunc, .bool false, .nilFunc, .nilFunc, .nilFunc, .nilFunc, .bool false, .nilFunc, .nilFunc, .nilFunc, .nilFunc, .bool false, .nilFunc, .nilFunc, .nilFunc, .nilFunc] 244 d ?_
 intro e o f
 refine df [.bool false, .nilFunc, .nilFunc, .nilFunc, .nilFunc, .bool false, .func (.func 172) #[] #[], .func (.func 173) #[] #[], .func (.func 174) #[] #[], .func (.func 175) #[] #[], .bool true, .func (.func 176) #[] #[], .func (.func 177) #[] #[], .func (.func 174) #[] #[], .func (.func 178) #[] #[], .bool true, .func (.func 172) #[] #[], .func (.func 173) #[] #[], .func (.func 174) #[] #[], .func (.func 179) #[] #[], .bool false, .func (.func 180) #[] #[], .func (.func 181) #[] #[], .func (.func 182) #[] #[], .func (.func 183) #[] #[], .bool true, .func (.func 184) #[] #[], .func (.func 185) #[] #[], .func (.func 182) #[] #[], .func (.func 186) #[] #[]] 0 f M4 ?_
 intro p a
 refine nt (Ik (sr (Mz rfl (Kz (.bool false) (Mz rfl (gw (vI 3) rfl (IA rfl) (Gz (.bool false) rfl (fw (.bool false) (Io rfl rfl rfl) (nt (jf (sk (sr (Mz rfl (Kz (vP e 15) (La ([.bool true, .func (.func 172) #[] #[], .func (.func 173) #[] #[], .func (.func 174) #[] #[], .func (.func 179) #[] #[]]) a 0 M5 M6 ?_)))))))))))))))
 have g:=a.pb [0]
 refine df [.bool true, .func (.func 172) #[] #[], .func (.func 173) #[] #[], .func (.func 174) #[] #[], .func (.func 179) #[] #[]] 0 g M6 ?_
 intro q b
 refine An rfl (rt (Fin.res (jb (vs:= [.agg #[.bool true, .func (.func 172) #[] #[], .func (.func 173) #[] #[], .func (.func 174) #[] #[], .func (.func 179) #[] #[]], .bool true]) rfl (cK.cell rfl (IJ (cs:= [.bool true, .func (.func 172) #[] #[], .func (.func 173) #[] #[], .func (.func 174) #[] #[], .func (.func 179) #[] #[]]) M5 M6 ((b.cls (i:=0) rfl).lit (k:=0) (m:=5) rfl)) (cK.tmp rfl cK.nil)) (Lj rfl)) ?_))
 have h:=b.pk []
 exact⟨rfl,h⟩
theorem uE (w D j) (H:Own w D w []) (c:j=4):
    Calls v5 158 #[vI j] w (dA fun v w'=>v= .tuple #[.agg #[.bool false, .func (.func 180) #[] #[], .func (.func 181) #[] #[], .func (.func 182) #[] #[], .func (.func 183) #[] #[]], .bool true]∧Own w D w' []):=by
 subst c
 refine cb M3 ?_
 refine sr ?_
 refine dn [.bool false, .nilFunc, .nilFunc, .nilFunc, .nilFunc] 231 H ?_
 intro l n d
 refine Ar rfl (Kz (.agg #[.bool false, .func (.func 172) #[] #[], .func (.func 173) #[] #[], .func (.func 174) #[] #[], .func (.func 175) #[] #[]]) (Kz (.agg #[.bool true, .func (.func 176) #[] #[], .func (.func 177) #[] #[], .func (.func 174) #[] #[], .func (.func 178) #[] #[]]) (Kz (.agg #[.bool true, .func (.func 172) #[] #[], .func (.func 173) #[] #[], .func (.func 174) #[] #[], .func (.func 179) #[] #[]]) (Kz (.agg #[.bool false, .func (.func 180) #[] #[], .func (.func 181) #[] #[], .func (.func 182) #[] #[], .func (.func 183) #[] #[]]) (Kz (.agg #[.bool true, .func (.func 184) #[] #[], .func (.func 185) #[] #[], .func (.func 182) #[] #[], .func (.func 186) #[] #[]]) (Kz (.agg #[.bool false, .nilFunc, .nilFunc, .nilFunc, .nilFunc, .bool false, .func (.func 172) #[] #[], .func (.func 173) #[] #[], .func (.func 174) #[] #[], .func (.func 175) #[] #[], .bool true, .func (.func 176) #[] #[], .func (.func 177) #[] #[], .func (.func 174) #[] #[], .func (.func 178) #[] #[], .bool true, .func (.func 172) #[] #[], .func (.func 173) #[] #[], .func (.func 174) #[] #[], .func (.func 179) #[] #[], .bool false, .func (.func 180) #[] #[], .func (.func 181) #[] #[], .func (.func 182) #[] #[], .func (.func 183) #[] #[], .bool true, .func (.func 184) #[] #[], .func (.func 185) #[] #[], .func (.func 182) #[] #[], .func (.func 186) #[] #[]]) ?_))))))
 refine dn [.bool false, .nilFunc, .nilFunc, .nilFunc, .nilFunc, .bool false, .nilFunc, .nilFunc, .nilFunc, .nilFunc, .bool false, .nilFunc, .nilFunc, .nilFunc, .nilFunc, .bool false, .nilFunc, .nilFunc, .nilFunc, .nilFunc, .bool false, .nilFunc, .nilFunc, .nilFunc, .nilFunc, .bool false, .nilFunc, .nilFunc, .nilFunc, .nilFunc] 244 d ?_
 intro e o f
 refine df [.bool false, .nilFunc, .nilFunc, .nilFunc, .nilFunc, .bool false, .func (.func 172) #[] #[], .func (.func 173) #[] #[], .func (.func 174) #[] #[], .func (.func 175) #[] #[], .bool true, .func (.func 176) #[] #[], .func (.func 177) #[] #[], .func (.func 174) #[] #[], .func (.func 178) #[] #[], .bool true, .func (.func 172) #[] #[], .func (.func 173) #[] #[], .func (.func 174) #[] #[], .func (.func 179) #[] #[], .bool false, .func (.func 180) #[] #[], .func (.func 181) #[] #[], .func (.func 182) #[] #[], .func (.func 183) #[] #[], .bool true, .func (.func 184) #[] #[], .func (.func 185) #[] #[], .func (.func 182) #[] #[], .func (.func 186) #[] #[]] 0 f M4 ?_
 intro p a
 refine nt (Ik (sr (Mz rfl (Kz (.bool false) (Mz rfl (gw (vI 4) rfl (IA rfl) (Gz (.bool false) rfl (fw (.bool false) (Io rfl rfl rfl) (nt (jf (sk (sr (Mz rfl (Kz (vP e 20) (La ([.bool false, .func (.func 180) #[] #[], .func (.func 181) #[] #[], .func (.func 182) #[] #[], .func (.func 183) #[] #[]]) a 0 M5 M6 ?_)))))))))))))))
 have g:=a.pb [0]
 refine df [.bool false, .func (.func 180) #[] #[], .func (.func 181) #[] #[], .func (.func 182) #[] #[], .func (.func 183) #[] #[]] 0 g M6 ?_
 intro q b
 refine An rfl (rt (Fin.res (jb (vs:= [.agg #[.bool false, .func (.func 180) #[] #[], .func (.func 181) #[] #[], .func (.func 182) #[] #[], .func (.func 183) #[] #[]], .bool true]) rfl (cK.cell rfl (IJ (cs:= [.bool false, .func (.func 180) #[] #[], .func (.func 181) #[] #[], .func (.func 182) #[] #[], .func (.func 183) #[] #[]]) M5 M6 ((b.cls (i:=0) rfl).lit (k:=0) (m:=5) rfl)) (cK.tmp rfl cK.nil)) (Lj rfl)) ?_))
 have h:=b.pk []
 exact⟨rfl,h⟩
def sJ (a:aN):aN:=
 aN.mk a.av ([]) ([]) a.aJ a.aR a.aV
theorem zt (w D) (a:aN) (g:aN) (H:Own w D w []) (hr:sJ a=g):
    Calls v5 180 #[.agg (aN.cells a).toArray] w (dA fun v w'=>v= .agg (aN.cells g).toArray∧Own w D w' []):=by
 refine cb Tryz.func180 ?_
 refine sr ?_
 refine dn (aN.cells a) 72 H ?_
 intro c h e
 refine dn [vI 0, .string ⟨v6 ([])⟩, .string ⟨v6 ([])⟩, .string ⟨v6 ([])⟩, .string ⟨v6 ([])⟩,vI 0] 72 e ?_
 intro j l b
 refine ns (Kz (vP c 0) (Lz (vI a.av) b 1 C2 (Kz (vP c 3) (Lz (.string ⟨v6 a.aJ⟩) b 1 C0 (Kz (vP c 4) (Lz (.string ⟨v6 a.aR⟩) b 1 C0 (Kz (vP c 5) (Lz (vI a.aV) b 1 C2 (Kz (.agg #[vI a.av, .string ⟨v6 ([])⟩, .string ⟨v6 ([])⟩, .string ⟨v6 a.aJ⟩, .string ⟨v6 a.aR⟩,vI a.aV]) ?_)))))))))
 refine df [vI a.av, .string ⟨v6 ([])⟩, .string ⟨v6 ([])⟩, .string ⟨v6 a.aJ⟩, .string ⟨v6 a.aR⟩,vI a.aV] 0 b M7 ?_
 intro n d
 refine nt (rt (Fin.res (oo rfl rfl (IJ (cs:= [vI a.av, .string ⟨v6 ([])⟩, .string ⟨v6 ([])⟩, .string ⟨v6 a.aJ⟩, .string ⟨v6 a.aR⟩,vI a.aV]) M8 M7 ((d.cls (i:=0) rfl).lit (k:=0) (m:=6) rfl))) ?_))
 have f:=d.pk []
 obtain rfl:_=aN.mk a.av ([]) ([]) a.aJ a.aR a.aV:=hr.symm.trans rfl
 exact⟨rfl,f⟩
def tK (a:aN):aL:=
 aL.mk a.aJ a.aR
theorem xX (w D) (a:aN) (g:aL) (H:Own w D w []) (hr:tK a=g):
    Calls v5 182 #[.agg (aN.cells a).toArray] w (dA fun v w'=>v= .agg (aL.cells g).toArray∧Own w D w' []):=by
 refine cb Tryz.func182 ?_
 refine sr ?_
 refine dn (aN.cells a) 72 H ?_
 intro c h e
 refine dn [.string ⟨v6 ([])⟩, .string ⟨v6 ([])⟩] 38 e ?_
 intro j l b
 refine ns (Kz (vP c 3) (Lz (.string ⟨v6 a.aJ⟩) b 1 C0 (Kz (vP c 4) (Lz (.string ⟨v6 a.aR⟩) b 1 C0 (Kz (.agg #[.string ⟨v6 a.aJ⟩, .string ⟨v6 a.aR⟩]) ?_)))))
 refine df [.string ⟨v6 a.aJ⟩, .string ⟨v6 a.aR⟩] 0 b M9 ?_
 intro n d
 refine nt (rt (Fin.res (oo rfl rfl (IJ (cs:= [.string ⟨v6 a.aJ⟩, .string ⟨v6 a.aR⟩]) N0 M9 ((d.cls (i:=0) rfl).lit (k:=0) (m:=2) rfl))) ?_))
 have f:=d.pk []
 obtain rfl:_=aL.mk a.aJ a.aR:=hr.symm.trans rfl
 exact⟨rfl,f⟩
def iB (a:aL):Int:=
 if a.aJ≠([]) then bnd (dR a.aJ) fun b=>if b=0 then if a.aR≠([]) then bnd (dR a.aR) fun c=>if c=0 then if a.aR≤a.aJ then 21 else 0 else 21 else 0 else 21 else if a.aR≠([]) then bnd (dR a.aR) fun d=>if d=0 then if a.aR≤a.aJ then 21 else 0 else 21 else 0
theorem qf (w D) (a:aL) (Z) (H:Own w D w []) (hr:iB a=Z):
    Calls v5 116 #[.agg (aL.cells a).toArray] w (dA fun v w'=>v=vI Z∧Own w D w' []):=by
 refine cb Tryz.func116 ?_
 refine sr ?_
 refine dn (aL.cells a) 38 H ?_
 intro h ak k
 refine An rfl (Ik (sr (Kz (vP h 0) (Lz (.string ⟨v6 a.aJ⟩) k 0 C0 (fw (.bool (decide (a.aJ≠([])))) (I6 rfl rfl) (Mz rfl ?_))))))
 by_cases d:a.aJ≠([])
 refine Gz (vP h 0) (dT d) (Gl (.string ⟨v6 a.aJ⟩) (dT d) k 0 C0 ?_)
 obtain⟨l,j⟩:∃ q,dR a.aJ=q:=⟨_,rfl⟩
 obtain⟨au,G,aa,I,af⟩:=Iu k
 refine pW (dT d) M2 (j4 _ _ a.aJ l G j) ?_
 rintro _ av ⟨rfl,J,z,A⟩
 have s:=I _ _ J
 replace z: ¬ (l=0)∨(1≤a.aJ.length∧a.aJ.length≤12):=z
 replace A:a.aJ.length < 1∨a.aJ.length > 12∨l=0:=A
 refine gw (.bool (decide (¬ (l=0)))) (dT d) (IM (e:= !(decide (l=0))) yk decide_not.symm) (fw (.bool (decide (¬ (l=0)))) (Iw rfl (dT d) rfl) (nt ?_))
 by_cases m:l=0
 refine jF (dF (Lr m)) (sk (Ik (sr (Kz (vP h 1) (Lz (.string ⟨v6 a.aR⟩) s 0 C0 (fw (.bool (decide (a.aR≠([])))) (I6 rfl rfl) (Mz rfl ?_)))))))
 by_cases b:a.aR≠([])
 refine Gz (vP h 1) (dT b) (Gl (.string ⟨v6 a.aR⟩) (dT b) s 0 C0 ?_)
 obtain⟨n,p⟩:∃ q,dR a.aR=q:=⟨_,rfl⟩
 obtain⟨ax,K,ag,L,ah⟩:=Iu s
 refine pW (dT b) M2 (j4 _ _ a.aR n K p) ?_
 rintro _ ay ⟨rfl,M,B,C⟩
 have t:=L _ _ M
 replace B: ¬ (n=0)∨(1≤a.aR.length∧a.aR.length≤12):=B
 replace C:a.aR.length < 1∨a.aR.length > 12∨n=0:=C
 refine gw (.bool (decide (¬ (n=0)))) (dT b) (IM (e:= !(decide (n=0))) yk decide_not.symm) (gw (.bool (decide (¬ (n=0)))) (dT b) (IA rfl) ?_)
 by_cases f:n=0
 refine gw (vP h 1) (dF (Lr f)) yk (gw (.string ⟨v6 a.aR⟩) (dF (Lr f)) (IB rfl (bJ.one C0 (I1 (t.cls (i:=0) rfl) rfl))) (gw (vP h 0) (dF (Lr f)) yk (gw (.string ⟨v6 a.aJ⟩) (dF (Lr f)) (IB rfl (bJ.one C0 (I1 (t.cls (i:=0) rfl) rfl))) (gw (.bool (decide (a.aR≤a.aJ))) (dF (Lr f)) (IM (e:=Op.bytesLess a.aR a.aJ || decide (a.aR=a.aJ)) (JD rfl rfl) (xI _ _)) (gw (.bool (decide (a.aR≤a.aJ))) (dT b) (Io rfl (dF (Lr f)) rfl) (fw (.bool (decide (a.aR≤a.aJ))) (Iw rfl (dT b) rfl) (nt ?_)))))))
 by_cases x:a.aR≤a.aJ
 refine jT (dT x) (sr (An rfl (rt (tR (rs ?_)))))
 have Q:=t.pk []
 obtain rfl:_=21:=hr.symm.trans (et (ip d) (et (ae j) (et (ip m) (et (ip b) (et (ae p) (et (ip f) (ip x)))))))
 exact⟨rfl,Q⟩
 refine jF (dF x) (sk (sr (An rfl (rt (rs ?_)))))
 have R:=t.pk []
 obtain rfl:_=0:=hr.symm.trans (et (ip d) (et (ae j) (et (ip m) (et (ip b) (et (ae p) (et (ip f) (iN x)))))))
 exact⟨rfl,R⟩
 refine Sz (dT f) (Sz (dT f) (Sz (dT f) (Sz (dT f) (Sz (dT f) (gw (.bool true) (dT b) (Iw rfl (dT f) rfl) (fw (.bool true) (Iw rfl (dT b) rfl) (nt (jt (sr (An rfl (rt (tR (rs ?_)))))))))))))
 have S:=t.pk []
 obtain rfl:_=21:=hr.symm.trans (et (ip d) (et (ae j) (et (ip m) (et (ip b) (et (ae p) (iN f))))))
 exact⟨rfl,S⟩
 refine Sz (dF b) (Sz (dF b) (Sz (dF b) (Sz (dF b) (Sz (dF b) (IG rfl rfl rfl (IG rfl rfl rfl (IG rfl rfl rfl (IG rfl rfl rfl (IG rfl rfl rfl (Sz (dF b) (fw (.bool false) (Io rfl (dF b) rfl) (nt (jf (sk (sr (An rfl (rt (rs ?_))))))))))))))))))
 have T:=s.pk []
 obtain rfl:_=0:=hr.symm.trans (et (ip d) (et (ae j) (et (ip m) (iN b))))
 exact⟨rfl,T⟩
 refine jT (dT m) (sr (An rfl (rt (tR (rs ?_)))))
 have U:=s.pk []
 obtain rfl:_=21:=hr.symm.trans (et (ip d) (et (ae j) (iN m)))
 exact⟨rfl,U⟩
 refine Sz (dF d) (Sz (dF d) (Sz (dF d) (Sz (dF d) (fw (.bool false) (Io rfl (dF d) rfl) (nt (jf (sk (Ik (sr (Kz (vP h 1) (Lz (.string ⟨v6 a.aR⟩) k 0 C0 (fw (.bool (decide (a.aR≠([])))) (I6 rfl rfl) (Mz rfl ?_)))))))))))))
 by_cases c:a.aR≠([])
 refine Gz (vP h 1) (dT c) (Gl (.string ⟨v6 a.aR⟩) (dT c) k 0 C0 ?_)
 obtain⟨o,r⟩:∃ q,dR a.aR=q:=⟨_,rfl⟩
 obtain⟨az,N,ai,O,aj⟩:=Iu k
 refine pW (dT c) M2 (j4 _ _ a.aR o N r) ?_
 rintro _ aA ⟨rfl,P,E,F⟩
 have u:=O _ _ P
 replace E: ¬ (o=0)∨(1≤a.aR.length∧a.aR.length≤12):=E
 replace F:a.aR.length < 1∨a.aR.length > 12∨o=0:=F
 refine gw (.bool (decide (¬ (o=0)))) (dT c) (IM (e:= !(decide (o=0))) yk decide_not.symm) (gw (.bool (decide (¬ (o=0)))) (dT c) (IA rfl) ?_)
 by_cases g:o=0
 refine gw (vP h 1) (dF (Lr g)) yk (gw (.string ⟨v6 a.aR⟩) (dF (Lr g)) (IB rfl (bJ.one C0 (I1 (u.cls (i:=0) rfl) rfl))) (gw (vP h 0) (dF (Lr g)) yk (gw (.string ⟨v6 a.aJ⟩) (dF (Lr g)) (IB rfl (bJ.one C0 (I1 (u.cls (i:=0) rfl) rfl))) (gw (.bool (decide (a.aR≤a.aJ))) (dF (Lr g)) (IM (e:=Op.bytesLess a.aR a.aJ || decide (a.aR=a.aJ)) (JD rfl rfl) (xI _ _)) (gw (.bool (decide (a.aR≤a.aJ))) (dT c) (Io rfl (dF (Lr g)) rfl) (fw (.bool (decide (a.aR≤a.aJ))) (Iw rfl (dT c) rfl) (nt ?_)))))))
 by_cases y:a.aR≤a.aJ
 refine jT (dT y) (sr (An rfl (rt (tR (rs ?_)))))
 have V:=u.pk []
 obtain rfl:_=21:=hr.symm.trans (et (iN d) (et (ip c) (et (ae r) (et (ip g) (ip y)))))
 exact⟨rfl,V⟩
 refine jF (dF y) (sk (sr (An rfl (rt (rs ?_)))))
 have W:=u.pk []
 obtain rfl:_=0:=hr.symm.trans (et (iN d) (et (ip c) (et (ae r) (et (ip g) (iN y)))))
 exact⟨rfl,W⟩
 refine Sz (dT g) (Sz (dT g) (Sz (dT g) (Sz (dT g) (Sz (dT g) (gw (.bool true) (dT c) (Iw rfl (dT g) rfl) (fw (.bool true) (Iw rfl (dT c) rfl) (nt (jt (sr (An rfl (rt (tR (rs ?_)))))))))))))
 have X:=u.pk []
 obtain rfl:_=21:=hr.symm.trans (et (iN d) (et (ip c) (et (ae r) (iN g))))
 exact⟨rfl,X⟩
 refine Sz (dF c) (Sz (dF c) (Sz (dF c) (Sz (dF c) (Sz (dF c) (IG rfl rfl rfl (IG rfl rfl rfl (IG rfl rfl rfl (IG rfl rfl rfl (IG rfl rfl rfl (Sz (dF c) (fw (.bool false) (Io rfl (dF c) rfl) (nt (jf (sk (sr (An rfl (rt (rs ?_))))))))))))))))))
 have Y:=k.pk []
 obtain rfl:_=0:=hr.symm.trans (et (iN d) (iN c))
 exact⟨rfl,Y⟩
def mD (c:aN):Int:=
 bnd (tK c) fun a=>bnd (iB a) fun b=>b
theorem tL (w D) (d:aN) (p) (H:Own w D w []) (hr:mD d=p):
    Calls v5 185 #[.agg (aN.cells d).toArray] w (dA fun v w'=>v=vI p∧Own w D w' []):=by
 refine cb Tryz.func185 ?_
 refine sr ?_
 refine dn (aN.cells d) 72 H ?_
 intro x y e
 refine Ar rfl (La (aN.cells d) e 0 M8 M7 ?_)
 obtain⟨c,a⟩:∃ q,tK d=q:=⟨_,rfl⟩
 obtain⟨z,f,r,g,s⟩:=Iu e
 refine cl Tryz.call182 (xX _ _ d c f a) ?_
 rintro _ A ⟨rfl,h⟩
 have m:=g _ _ h
 obtain⟨i,b⟩:∃ q,iB c=q:=⟨_,rfl⟩
 obtain⟨B,j,t,k,u⟩:=Iu m
 refine cl Tryz.call116 (qf _ _ c i j b) ?_
 rintro _ C ⟨rfl,l⟩
 have n:=k _ _ l
 refine An rfl (rt (rs ?_))
 have o:=n.pk []
 obtain rfl:_=i:=hr.symm.trans (et (ae a) (ae b))
 exact⟨rfl,o⟩
def nR (b:aN):Int:=
 bnd (mD b) fun a=>if a=0 then if b.aV < 1 then 1 else if b.aV > 4 then 1 else 0 else a
theorem xY (w D) (c:aN) (s) (H:Own w D w []) (hr:nR c=s):
    Calls v5 181 #[.agg (aN.cells c).toArray] w (dA fun v w'=>v=vI s∧Own w D w' []):=by
 refine cb Tryz.func181 ?_
 refine sr ?_
 refine dn (aN.cells c) 72 H ?_
 intro i x j
 refine An rfl (Ik (sr (La (aN.cells c) j 0 M8 M7 ?_)))
 obtain⟨g,b⟩:∃ q,mD c=q:=⟨_,rfl⟩
 obtain⟨y,k,t,l,u⟩:=Iu j
 refine cl Tryz.call185 (tL _ _ c g k b) ?_
 rintro _ z ⟨rfl,m⟩
 have d:=l _ _ m
 refine Ar rfl (Mz rfl (fw (.bool (decide (¬ (g=0)))) (IM (e:= !(decide (g=0))) yk decide_not.symm) (nt ?_)))
 by_cases f:g=0
 refine jF (dF (Lr f)) (sk (Ik (sr (Kz (vP i 5) (Lz (vI c.aV) d 0 C2 (Kz (.bool (decide (c.aV < 1))) (Mz rfl ?_)))))))
 by_cases a:c.aV < 1
 refine Sz (dT a) (Sz (dT a) (Sz (dT a) (fw (.bool true) (Iw rfl (dT a) rfl) (nt (jt (sr (An rfl (rt (tR (rs ?_))))))))))
 have n:=d.pk []
 obtain rfl:_=1:=hr.symm.trans (et (ae b) (et (ip f) (ip a)))
 exact⟨rfl,n⟩
 refine Gz (vP i 5) (dF a) (Gl (vI c.aV) (dF a) d 0 C2 (Gz (.bool (decide (c.aV > 4))) (dF a) (fw (.bool (decide (c.aV > 4))) (Io rfl (dF a) rfl) (nt ?_))))
 by_cases h:c.aV > 4
 refine jT (dT h) (sr (An rfl (rt (tR (rs ?_)))))
 have o:=d.pk []
 obtain rfl:_=1:=hr.symm.trans (et (ae b) (et (ip f) (et (iN a) (ip h))))
 exact⟨rfl,o⟩
 refine jF (dF h) (sk (sr (An rfl (rt (rs ?_)))))
 have p:=d.pk []
 obtain rfl:_=0:=hr.symm.trans (et (ae b) (et (ip f) (et (iN a) (iN h))))
 exact⟨rfl,p⟩
 refine jT (dT f) (sr (Mz rfl (An rfl (rt (tR (rs ?_))))))
 have r:=d.pk []
 obtain rfl:_=g:=hr.symm.trans (et (ae b) (iN f))
 exact⟨rfl,r⟩
theorem uF (w D j) (H:Own w D w []) (c:j=5):
    Calls v5 158 #[vI j] w (dA fun v w'=>v= .tuple #[.agg #[.bool true, .func (.func 184) #[] #[], .func (.func 185) #[] #[], .func (.func 182) #[] #[], .func (.func 186) #[] #[]], .bool true]∧Own w D w' []):=by
 subst c
 refine cb M3 ?_
 refine sr ?_
 refine dn [.bool false, .nilFunc, .nilFunc, .nilFunc, .nilFunc] 231 H ?_
 intro l n d
 refine Ar rfl (Kz (.agg #[.bool false, .func (.func 172) #[] #[], .func (.func 173) #[] #[], .func (.func 174) #[] #[], .func (.func 175) #[] #[]]) (Kz (.agg #[.bool true, .func (.func 176) #[] #[], .func (.func 177) #[] #[], .func (.func 174) #[] #[], .func (.func 178) #[] #[]]) (Kz (.agg #[.bool true, .func (.func 172) #[] #[], .func (.func 173) #[] #[], .func (.func 174) #[] #[], .func (.func 179) #[] #[]]) (Kz (.agg #[.bool false, .func (.func 180) #[] #[], .func (.func 181) #[] #[], .func (.func 182) #[] #[], .func (.func 183) #[] #[]]) (Kz (.agg #[.bool true, .func (.func 184) #[] #[], .func (.func 185) #[] #[], .func (.func 182) #[] #[], .func (.func 186) #[] #[]]) (Kz (.agg #[.bool false, .nilFunc, .nilFunc, .nilFunc, .nilFunc, .bool false, .func (.func 172) #[] #[], .func (.func 173) #[] #[], .func (.func 174) #[] #[], .func (.func 175) #[] #[], .bool true, .func (.func 176) #[] #[], .func (.func 177) #[] #[], .func (.func 174) #[] #[], .func (.func 178) #[] #[], .bool true, .func (.func 172) #[] #[], .func (.func 173) #[] #[], .func (.func 174) #[] #[], .func (.func 179) #[] #[], .bool false, .func (.func 180) #[] #[], .func (.func 181) #[] #[], .func (.func 182) #[] #[], .func (.func 183) #[] #[], .bool true, .func (.func 184) #[] #[], .func (.func 185) #[] #[], .func (.func 182) #[] #[], .func (.func 186) #[] #[]]) ?_))))))
 refine dn [.bool false, .nilFunc, .nilFunc, .nilFunc, .nilFunc, .bool false, .nilFunc, .nilFunc, .nilFunc, .nilFunc, .bool false, .nilFunc, .nilFunc, .nilFunc, .nilFunc, .bool false, .nilFunc, .nilFunc, .nilFunc, .nilFunc, .bool false, .nilFunc, .nilFunc, .nilFunc, .nilFunc, .bool false, .nilFunc, .nilFunc, .nilFunc, .nilFunc] 244 d ?_
 intro e o f
 refine df [.bool false, .nilFunc, .nilFunc, .nilFunc, .nilFunc, .bool false, .func (.func 172) #[] #[], .func (.func 173) #[] #[], .func (.func 174) #[] #[], .func (.func 175) #[] #[], .bool true, .func (.func 176) #[] #[], .func (.func 177) #[] #[], .func (.func 174) #[] #[], .func (.func 178) #[] #[], .bool true, .func (.func 172) #[] #[], .func (.func 173) #[] #[], .func (.func 174) #[] #[], .func (.func 179) #[] #[], .bool false, .func (.func 180) #[] #[], .func (.func 181) #[] #[], .func (.func 182) #[] #[], .func (.func 183) #[] #[], .bool true, .func (.func 184) #[] #[], .func (.func 185) #[] #[], .func (.func 182) #[] #[], .func (.func 186) #[] #[]] 0 f M4 ?_
 intro p a
 refine nt (Ik (sr (Mz rfl (Kz (.bool false) (Mz rfl (gw (vI 5) rfl (IA rfl) (Gz (.bool false) rfl (fw (.bool false) (Io rfl rfl rfl) (nt (jf (sk (sr (Mz rfl (Kz (vP e 25) (La ([.bool true, .func (.func 184) #[] #[], .func (.func 185) #[] #[], .func (.func 182) #[] #[], .func (.func 186) #[] #[]]) a 0 M5 M6 ?_)))))))))))))))
 have g:=a.pb [0]
 refine df [.bool true, .func (.func 184) #[] #[], .func (.func 185) #[] #[], .func (.func 182) #[] #[], .func (.func 186) #[] #[]] 0 g M6 ?_
 intro q b
 refine An rfl (rt (Fin.res (jb (vs:= [.agg #[.bool true, .func (.func 184) #[] #[], .func (.func 185) #[] #[], .func (.func 182) #[] #[], .func (.func 186) #[] #[]], .bool true]) rfl (cK.cell rfl (IJ (cs:= [.bool true, .func (.func 184) #[] #[], .func (.func 185) #[] #[], .func (.func 182) #[] #[], .func (.func 186) #[] #[]]) M5 M6 ((b.cls (i:=0) rfl).lit (k:=0) (m:=5) rfl)) (cK.tmp rfl cK.nil)) (Lj rfl)) ?_))
 have h:=b.pk []
 exact⟨rfl,h⟩
def rD (a:aN):aN:=
 aN.mk a.av ([]) ([]) a.aJ a.aR 0
theorem yG (w D) (a:aN) (g:aN) (H:Own w D w []) (hr:rD a=g):
    Calls v5 184 #[.agg (aN.cells a).toArray] w (dA fun v w'=>v= .agg (aN.cells g).toArray∧Own w D w' []):=by
 refine cb Tryz.func184 ?_
 refine sr ?_
 refine dn (aN.cells a) 72 H ?_
 intro c h e
 refine dn [vI 0, .string ⟨v6 ([])⟩, .string ⟨v6 ([])⟩, .string ⟨v6 ([])⟩, .string ⟨v6 ([])⟩,vI 0] 72 e ?_
 intro j l b
 refine ns (Kz (vP c 0) (Lz (vI a.av) b 1 C2 (Kz (vP c 3) (Lz (.string ⟨v6 a.aJ⟩) b 1 C0 (Kz (vP c 4) (Lz (.string ⟨v6 a.aR⟩) b 1 C0 (Kz (.agg #[vI a.av, .string ⟨v6 ([])⟩, .string ⟨v6 ([])⟩, .string ⟨v6 a.aJ⟩, .string ⟨v6 a.aR⟩,vI 0]) ?_)))))))
 refine df [vI a.av, .string ⟨v6 ([])⟩, .string ⟨v6 ([])⟩, .string ⟨v6 a.aJ⟩, .string ⟨v6 a.aR⟩,vI 0] 0 b M7 ?_
 intro n d
 refine nt (rt (Fin.res (oo rfl rfl (IJ (cs:= [vI a.av, .string ⟨v6 ([])⟩, .string ⟨v6 ([])⟩, .string ⟨v6 a.aJ⟩, .string ⟨v6 a.aR⟩,vI 0]) M8 M7 ((d.cls (i:=0) rfl).lit (k:=0) (m:=6) rfl))) ?_))
 have f:=d.pk []
 obtain rfl:_=aN.mk a.av ([]) ([]) a.aJ a.aR 0:=hr.symm.trans rfl
 exact⟨rfl,f⟩
theorem uh (w D b) (H:Own w D w []) (p: ¬ (b=1)) (q: ¬ (b=2)) (r: ¬ (b=3)) (s: ¬ (b=4)) (t: ¬ (b=5)):
    Calls v5 158 #[vI b] w (dA fun v w'=>v= .tuple #[.agg #[.bool false, .nilFunc, .nilFunc, .nilFunc, .nilFunc], .bool false]∧Own w D w' []):=by
 refine cb M3 ?_
 refine sr ?_
 refine dn [.bool false, .nilFunc, .nilFunc, .nilFunc, .nilFunc] 231 H ?_
 intro u x g
 refine Ar rfl (Kz (.agg #[.bool false, .func (.func 172) #[] #[], .func (.func 173) #[] #[], .func (.func 174) #[] #[], .func (.func 175) #[] #[]]) (Kz (.agg #[.bool true, .func (.func 176) #[] #[], .func (.func 177) #[] #[], .func (.func 174) #[] #[], .func (.func 178) #[] #[]]) (Kz (.agg #[.bool true, .func (.func 172) #[] #[], .func (.func 173) #[] #[], .func (.func 174) #[] #[], .func (.func 179) #[] #[]]) (Kz (.agg #[.bool false, .func (.func 180) #[] #[], .func (.func 181) #[] #[], .func (.func 182) #[] #[], .func (.func 183) #[] #[]]) (Kz (.agg #[.bool true, .func (.func 184) #[] #[], .func (.func 185) #[] #[], .func (.func 182) #[] #[], .func (.func 186) #[] #[]]) (Kz (.agg #[.bool false, .nilFunc, .nilFunc, .nilFunc, .nilFunc, .bool false, .func (.func 172) #[] #[], .func (.func 173) #[] #[], .func (.func 174) #[] #[], .func (.func 175) #[] #[], .bool true, .func (.func 176) #[] #[], .func (.func 177) #[] #[], .func (.func 174) #[] #[], .func (.func 178) #[] #[], .bool true, .func (.func 172) #[] #[], .func (.func 173) #[] #[], .func (.func 174) #[] #[], .func (.func 179) #[] #[], .bool false, .func (.func 180) #[] #[], .func (.func 181) #[] #[], .func (.func 182) #[] #[], .func (.func 183) #[] #[], .bool true, .func (.func 184) #[] #[], .func (.func 185) #[] #[], .func (.func 182) #[] #[], .func (.func 186) #[] #[]]) ?_))))))
 refine dn [.bool false, .nilFunc, .nilFunc, .nilFunc, .nilFunc, .bool false, .nilFunc, .nilFunc, .nilFunc, .nilFunc, .bool false, .nilFunc, .nilFunc, .nilFunc, .nilFunc, .bool false, .nilFunc, .nilFunc, .nilFunc, .nilFunc, .bool false, .nilFunc, .nilFunc, .nilFunc, .nilFunc, .bool false, .nilFunc, .nilFunc, .nilFunc, .nilFunc] 244 g ?_
 intro y z h
 refine df [.bool false, .nilFunc, .nilFunc, .nilFunc, .nilFunc, .bool false, .func (.func 172) #[] #[], .func (.func 173) #[] #[], .func (.func 174) #[] #[], .func (.func 175) #[] #[], .bool true, .func (.func 176) #[] #[], .func (.func 177) #[] #[], .func (.func 174) #[] #[], .func (.func 178) #[] #[], .bool true, .func (.func 172) #[] #[], .func (.func 173) #[] #[], .func (.func 174) #[] #[], .func (.func 179) #[] #[], .bool false, .func (.func 180) #[] #[], .func (.func 181) #[] #[], .func (.func 182) #[] #[], .func (.func 183) #[] #[], .bool true, .func (.func 184) #[] #[], .func (.func 185) #[] #[], .func (.func 182) #[] #[], .func (.func 186) #[] #[]] 0 h M4 ?_
 intro A c
 refine nt (Ik (sr (Mz rfl (Kz (.bool (decide (b≤0))) (Mz rfl ?_)))))
 by_cases a:b≤0
 refine Sz (dT a) (Sz (dT a) (fw (.bool true) (Iw rfl (dT a) rfl) (nt (jt (sr (Kz (.agg #[.bool false, .nilFunc, .nilFunc, .nilFunc, .nilFunc]) ?_))))))
 have j:=c.pb [0]
 refine df [.bool false, .nilFunc, .nilFunc, .nilFunc, .nilFunc] 0 j M6 ?_
 intro B d
 refine An rfl (rt (tR (Fin.res (jb (vs:= [.agg #[.bool false, .nilFunc, .nilFunc, .nilFunc, .nilFunc], .bool false]) rfl (cK.cell rfl (IJ (cs:= [.bool false, .nilFunc, .nilFunc, .nilFunc, .nilFunc]) M5 M6 ((d.cls (i:=0) rfl).lit (k:=0) (m:=5) rfl)) (cK.tmp rfl cK.nil)) (Lj rfl)) ?_)))
 have l:=d.pk []
 exact⟨rfl,l⟩
 refine gw (vI b) (dF a) (IA rfl) (Gz (.bool (decide (b ≥ 6))) (dF a) (fw (.bool (decide (b ≥ 6))) (Io rfl (dF a) rfl) (nt ?_)))
 have e:(decide (b ≥ 6))=true:=(dT e6)
 refine jT e (sr (Kz (.agg #[.bool false, .nilFunc, .nilFunc, .nilFunc, .nilFunc]) ?_))
 have n:=c.pb [0]
 refine df [.bool false, .nilFunc, .nilFunc, .nilFunc, .nilFunc] 0 n M6 ?_
 intro C f
 refine An rfl (rt (tR (Fin.res (jb (vs:= [.agg #[.bool false, .nilFunc, .nilFunc, .nilFunc, .nilFunc], .bool false]) rfl (cK.cell rfl (IJ (cs:= [.bool false, .nilFunc, .nilFunc, .nilFunc, .nilFunc]) M5 M6 ((f.cls (i:=0) rfl).lit (k:=0) (m:=5) rfl)) (cK.tmp rfl cK.nil)) (Lj rfl)) ?_)))
 have o:=f.pk []
 exact⟨rfl,o⟩
def eu (a:aN):Int:=
 if a.av=1 then bnd (pz a) fun e=>if(e.av=a.av)∧(e.aZ=a.aZ)∧(e.aG=a.aG)∧(e.aJ=a.aJ)∧(e.aR=a.aR)∧(e.aV=a.aV) then bnd (nG a) fun j=>j else 40 else if a.av=2 then bnd (sI a) fun f=>if(f.av=a.av)∧(f.aZ=a.aZ)∧(f.aG=a.aG)∧(f.aJ=a.aJ)∧(f.aR=a.aR)∧(f.aV=a.aV) then bnd (pE a) fun k=>k else 40 else if a.av=3 then bnd (pz a) fun b=>if(b.av=a.av)∧(b.aZ=a.aZ)∧(b.aG=a.aG)∧(b.aJ=a.aJ)∧(b.aR=a.aR)∧(b.aV=a.aV) then bnd (nG a) fun g=>g else 40 else if a.av=4 then bnd (sJ a) fun c=>if(c.av=a.av)∧(c.aZ=a.aZ)∧(c.aG=a.aG)∧(c.aJ=a.aJ)∧(c.aR=a.aR)∧(c.aV=a.aV) then bnd (nR a) fun h=>h else 40 else if a.av=5 then bnd (rD a) fun d=>if(d.av=a.av)∧(d.aZ=a.aZ)∧(d.aG=a.aG)∧(d.aJ=a.aJ)∧(d.aR=a.aR)∧(d.aV=a.aV) then bnd (mD a) fun i=>i else 40 else 40
theorem sj (w D) (a:aN) (r0) (H:Own w D w []) (hr:eu a=r0):
    Calls v5 139 #[.agg (aN.cells a).toArray] w (dA fun v w'=>v=vI r0∧Own w D w' []∧(¬ (r0=0)∨(1≤a.av∧a.av≤5))):=by
 refine cb Tryz.func139 ?_
 refine sr ?_
 refine dn (aN.cells a) 72 H ?_
 intro dx gK t
 refine Ar rfl (Kz (vP dx 0) (Lz (vI a.av) t 0 C2 ?_))
 by_cases l:a.av=1
 obtain⟨gL,aS,eH,aT,eO⟩:=Iu t
 refine cl N1 (uA _ _ a.av aS (of_decide_eq_true (dT l))) ?_
 rintro _ gM ⟨rfl,aU⟩
 have dz:=aT _ _ aU
 refine Mz rfl (Kz (.agg #[.bool false, .func (.func 172) #[] #[], .func (.func 173) #[] #[], .func (.func 174) #[] #[], .func (.func 175) #[] #[]]) (Kz (.bool true) ?_))
 refine dn [.bool false, .nilFunc, .nilFunc, .nilFunc, .nilFunc] 231 dz ?_
 intro aV gN dB
 refine df [.bool false, .func (.func 172) #[] #[], .func (.func 173) #[] #[], .func (.func 174) #[] #[], .func (.func 175) #[] #[]] 0 dB M6 ?_
 intro gP dC
 refine An rfl (Ik (Ik ?_))
 refine pM [] (IE (IE IQ)) dC ?_
 intro gQ dD
 refine qv 0 rfl rfl (qk (.bool false) 1 rfl (qv 2 rfl rfl (Iy (v:=vP aV 1) (rs:= []) 3 rfl rfl rfl rfl e7 (fun _ _=>yk) (Iy (v:= .func (.func 172) #[] #[]) (rs:= []) 4 rfl rfl rfl rfl e7 (fun _ ⟨_,h⟩=>IB rfl (bJ.one N2 (I1 (h.cls (i:=0) rfl) rfl))) (Iy (v:= .agg (aN.cells a).toArray) (rs:= []) 5 rfl rfl rfl rfl e7 (fun _ ⟨_,h⟩=>IB rfl (IJ (cs:=(aN.cells a)) M8 M7 ((h.cls (i:=1) rfl).lit (k:=0) (m:=6) rfl))) (Iy (v:= .agg (aN.cells a).toArray) (rs:= []) 7 rfl rfl rfl rfl e7 (fun _ ⟨_,h⟩=>IB rfl (IJ (cs:=(aN.cells a)) M8 M7 ((h.cls (i:=1) rfl).lit (k:=0) (m:=6) rfl))) ?_))))))
 obtain⟨f,F⟩:∃ q,pz a=q:=⟨_,rfl⟩
 obtain⟨gT,aW,eP,aX,eQ⟩:=Iu dD
 refine Jl 6 rfl rfl rfl rfl e7 (IY Tryz.call172 rfl rfl (vV _ _ a f aW F) ?_)
 rintro _ gU ⟨rfl,aY⟩
 have G:=aX _ _ aY
 refine⟨.inr ⟨_,G⟩, ?_⟩
 refine Iy (v:= .bool (decide (¬ ((f.av=a.av)∧(f.aZ=a.aZ)∧(f.aG=a.aG)∧(f.aJ=a.aJ)∧(f.aR=a.aR)∧(f.aV=a.aV))))) (rs:= []) 8 rfl rfl rfl rfl e7 (fun _ _=>IM (e:= !(decide ((f.av=a.av)∧(f.aZ=a.aZ)∧(f.aG=a.aG)∧(f.aJ=a.aJ)∧(f.aR=a.aR)∧(f.aV=a.aV)))) (Jo rfl rfl e7 rfl (iQ.struct N3 e7 (iC.dec (iC.cons (u:=vI f.av) (v:=vI a.av) f2 (fun _=>by kernel_rfl) (fun _=>by kernel_rfl) (iQ.int v8) (iC.cons (u:= .string ⟨v6 f.aZ⟩) (v:= .string ⟨v6 a.aZ⟩) f2 (fun _=>by kernel_rfl) (fun _=>by kernel_rfl) (iQ.string v9) (iC.cons (u:= .string ⟨v6 f.aG⟩) (v:= .string ⟨v6 a.aG⟩) f2 (fun _=>by kernel_rfl) (fun _=>by kernel_rfl) (iQ.string v9) (iC.cons (u:= .string ⟨v6 f.aJ⟩) (v:= .string ⟨v6 a.aJ⟩) f2 (fun _=>by kernel_rfl) (fun _=>by kernel_rfl) (iQ.string v9) (iC.cons (u:= .string ⟨v6 f.aR⟩) (v:= .string ⟨v6 a.aR⟩) f2 (fun _=>by kernel_rfl) (fun _=>by kernel_rfl) (iQ.string v9) (iC.cons (u:=vI f.aV) (v:=vI a.aV) f2 (fun _=>by kernel_rfl) (fun _=>by kernel_rfl) (iQ.int v8) (iC.nil.up (Lp _)))))))) ((congrArg (decide (f.av=a.av) && ·) ((congrArg (decide (f.aZ=a.aZ) && ·) ((congrArg (decide (f.aG=a.aG) && ·) ((congrArg (decide (f.aJ=a.aJ) && ·) ((congrArg (decide (f.aR=a.aR) && ·) o9).trans gG)).trans gG)).trans gG)).trans gG)).trans gG)))) decide_not.symm) (qt (v:= .bool (decide (¬ ((f.av=a.av)∧(f.aZ=a.aZ)∧(f.aG=a.aG)∧(f.aJ=a.aJ)∧(f.aR=a.aR)∧(f.aV=a.aV))))) 9 rfl (fun _ _=>Io rfl rfl rfl) (qn (Iq ?_)))
 by_cases N:(f.av=a.av)∧(f.aZ=a.aZ)∧(f.aG=a.aG)∧(f.aJ=a.aJ)∧(f.aR=a.aR)∧(f.aV=a.aV)
 refine jF (dF (Lr N)) (sk (sr (Kz (vP aV 2) (Lz (.func (.func 173) #[] #[]) G 0 N4 (La (aN.cells a) G 1 M8 M7 ?_)))))
 obtain⟨aZ,P⟩:∃ q,nG a=q:=⟨_,rfl⟩
 obtain⟨gV,bf,eT,bg,eU⟩:=Iu G
 refine WL.do rfl (IY Tryz.call173 rfl rfl (uB _ _ a aZ bf P) ?_)
 rintro _ gW ⟨rfl,bi⟩
 have dE:=bg _ _ bi
 refine An rfl (rt (rs ?_))
 have dG:=dE.pk []
 obtain rfl:_=aZ:=hr.symm.trans (et (ip l) (et (ae F) (et (ip N) (ae P))))
 exact⟨rfl,dG,e6⟩
 refine jT (dT N) (sr (An rfl (rt (tR (rs ?_)))))
 have dH:=G.pk []
 obtain rfl:_=40:=hr.symm.trans (et (ip l) (et (ae F) (iN N)))
 exact⟨rfl,dH,e6⟩
 by_cases n:a.av=2
 obtain⟨gX,bn,eX,bq,eY⟩:=Iu t
 refine cl N1 (uC _ _ a.av bn (of_decide_eq_true (dT n))) ?_
 rintro _ gY ⟨rfl,bu⟩
 have dI:=bq _ _ bu
 refine Mz rfl (Kz (.agg #[.bool true, .func (.func 176) #[] #[], .func (.func 177) #[] #[], .func (.func 174) #[] #[], .func (.func 178) #[] #[]]) (Kz (.bool true) ?_))
 refine dn [.bool false, .nilFunc, .nilFunc, .nilFunc, .nilFunc] 231 dI ?_
 intro bv gZ dJ
 refine df [.bool true, .func (.func 176) #[] #[], .func (.func 177) #[] #[], .func (.func 174) #[] #[], .func (.func 178) #[] #[]] 0 dJ M6 ?_
 intro ib dK
 refine An rfl (Ik (Ik ?_))
 refine pM [] (IE (IE IQ)) dK ?_
 intro ic dL
 refine qv 0 rfl rfl (qk (.bool false) 1 rfl (qv 2 rfl rfl (Iy (v:=vP bv 1) (rs:= []) 3 rfl rfl rfl rfl e7 (fun _ _=>yk) (Iy (v:= .func (.func 176) #[] #[]) (rs:= []) 4 rfl rfl rfl rfl e7 (fun _ ⟨_,h⟩=>IB rfl (bJ.one N2 (I1 (h.cls (i:=0) rfl) rfl))) (Iy (v:= .agg (aN.cells a).toArray) (rs:= []) 5 rfl rfl rfl rfl e7 (fun _ ⟨_,h⟩=>IB rfl (IJ (cs:=(aN.cells a)) M8 M7 ((h.cls (i:=1) rfl).lit (k:=0) (m:=6) rfl))) (Iy (v:= .agg (aN.cells a).toArray) (rs:= []) 7 rfl rfl rfl rfl e7 (fun _ ⟨_,h⟩=>IB rfl (IJ (cs:=(aN.cells a)) M8 M7 ((h.cls (i:=1) rfl).lit (k:=0) (m:=6) rfl))) ?_))))))
 obtain⟨g,I⟩:∃ q,sI a=q:=⟨_,rfl⟩
 obtain⟨ig,bz,eZ,bA,fe⟩:=Iu dL
 refine Jl 6 rfl rfl rfl rfl e7 (IY Tryz.call176 rfl rfl (zq _ _ a g bz I) ?_)
 rintro _ ik ⟨rfl,bB⟩
 have J:=bA _ _ bB
 refine⟨.inr ⟨_,J⟩, ?_⟩
 refine Iy (v:= .bool (decide (¬ ((g.av=a.av)∧(g.aZ=a.aZ)∧(g.aG=a.aG)∧(g.aJ=a.aJ)∧(g.aR=a.aR)∧(g.aV=a.aV))))) (rs:= []) 8 rfl rfl rfl rfl e7 (fun _ _=>IM (e:= !(decide ((g.av=a.av)∧(g.aZ=a.aZ)∧(g.aG=a.aG)∧(g.aJ=a.aJ)∧(g.aR=a.aR)∧(g.aV=a.aV)))) (Jo rfl rfl e7 rfl (iQ.struct N3 e7 (iC.dec (iC.cons (u:=vI g.av) (v:=vI a.av) f2 (fun _=>by kernel_rfl) (fun _=>by kernel_rfl) (iQ.int v8) (iC.cons (u:= .string ⟨v6 g.aZ⟩) (v:= .string ⟨v6 a.aZ⟩) f2 (fun _=>by kernel_rfl) (fun _=>by kernel_rfl) (iQ.string v9) (iC.cons (u:= .string ⟨v6 g.aG⟩) (v:= .string ⟨v6 a.aG⟩) f2 (fun _=>by kernel_rfl) (fun _=>by kernel_rfl) (iQ.string v9) (iC.cons (u:= .string ⟨v6 g.aJ⟩) (v:= .string ⟨v6 a.aJ⟩) f2 (fun _=>by kernel_rfl) (fun _=>by kernel_rfl) (iQ.string v9) (iC.cons (u:= .string ⟨v6 g.aR⟩) (v:= .string ⟨v6 a.aR⟩) f2 (fun _=>by kernel_rfl) (fun _=>by kernel_rfl) (iQ.string v9) (iC.cons (u:=vI g.aV) (v:=vI a.aV) f2 (fun _=>by kernel_rfl) (fun _=>by kernel_rfl) (iQ.int v8) (iC.nil.up (Lp _)))))))) ((congrArg (decide (g.av=a.av) && ·) ((congrArg (decide (g.aZ=a.aZ) && ·) ((congrArg (decide (g.aG=a.aG) && ·) ((congrArg (decide (g.aJ=a.aJ) && ·) ((congrArg (decide (g.aR=a.aR) && ·) o9).trans gG)).trans gG)).trans gG)).trans gG)).trans gG)))) decide_not.symm) (qt (v:= .bool (decide (¬ ((g.av=a.av)∧(g.aZ=a.aZ)∧(g.aG=a.aG)∧(g.aJ=a.aJ)∧(g.aR=a.aR)∧(g.aV=a.aV))))) 9 rfl (fun _ _=>Io rfl rfl rfl) (qn (Iq ?_)))
 by_cases O:(g.av=a.av)∧(g.aZ=a.aZ)∧(g.aG=a.aG)∧(g.aJ=a.aJ)∧(g.aR=a.aR)∧(g.aV=a.aV)
 refine jF (dF (Lr O)) (sk (sr (Kz (vP bv 2) (Lz (.func (.func 177) #[] #[]) J 0 N4 (La (aN.cells a) J 1 M8 M7 ?_)))))
 obtain⟨bC,Q⟩:∃ q,pE a=q:=⟨_,rfl⟩
 obtain⟨il,bD,fo,bE,fq⟩:=Iu J
 refine WL.do rfl (IY Tryz.call177 rfl rfl (xW _ _ a bC bD Q) ?_)
 rintro _ iq ⟨rfl,X⟩
 have bF:=bE _ _ X
 refine An rfl (rt (rs ?_))
 have bG:=bF.pk []
 obtain rfl:_=bC:=hr.symm.trans (et (iN l) (et (ip n) (et (ae I) (et (ip O) (ae Q)))))
 exact⟨rfl,bG,e6⟩
 refine jT (dT O) (sr (An rfl (rt (tR (rs ?_)))))
 have bH:=J.pk []
 obtain rfl:_=40:=hr.symm.trans (et (iN l) (et (ip n) (et (ae I) (iN O))))
 exact⟨rfl,bH,e6⟩
 by_cases j:a.av=3
 obtain⟨fu,Y,dM,Z,dN⟩:=Iu t
 refine cl N1 (uD _ _ a.av Y (of_decide_eq_true (dT j))) ?_
 rintro _ fw ⟨rfl,aa⟩
 have bI:=Z _ _ aa
 refine Mz rfl (Kz (.agg #[.bool true, .func (.func 172) #[] #[], .func (.func 173) #[] #[], .func (.func 174) #[] #[], .func (.func 179) #[] #[]]) (Kz (.bool true) ?_))
 refine dn [.bool false, .nilFunc, .nilFunc, .nilFunc, .nilFunc] 231 bI ?_
 intro R fA bK
 refine df [.bool true, .func (.func 172) #[] #[], .func (.func 173) #[] #[], .func (.func 174) #[] #[], .func (.func 179) #[] #[]] 0 bK M6 ?_
 intro fB bL
 refine An rfl (Ik (Ik ?_))
 refine pM [] (IE (IE IQ)) bL ?_
 intro fC bM
 refine qv 0 rfl rfl (qk (.bool false) 1 rfl (qv 2 rfl rfl (Iy (v:=vP R 1) (rs:= []) 3 rfl rfl rfl rfl e7 (fun _ _=>yk) (Iy (v:= .func (.func 172) #[] #[]) (rs:= []) 4 rfl rfl rfl rfl e7 (fun _ ⟨_,h⟩=>IB rfl (bJ.one N2 (I1 (h.cls (i:=0) rfl) rfl))) (Iy (v:= .agg (aN.cells a).toArray) (rs:= []) 5 rfl rfl rfl rfl e7 (fun _ ⟨_,h⟩=>IB rfl (IJ (cs:=(aN.cells a)) M8 M7 ((h.cls (i:=1) rfl).lit (k:=0) (m:=6) rfl))) (Iy (v:= .agg (aN.cells a).toArray) (rs:= []) 7 rfl rfl rfl rfl e7 (fun _ ⟨_,h⟩=>IB rfl (IJ (cs:=(aN.cells a)) M8 M7 ((h.cls (i:=1) rfl).lit (k:=0) (m:=6) rfl))) ?_))))))
 obtain⟨b,x⟩:∃ q,pz a=q:=⟨_,rfl⟩
 obtain⟨fD,af,dO,ag,dP⟩:=Iu bM
 refine Jl 6 rfl rfl rfl rfl e7 (IY Tryz.call172 rfl rfl (vV _ _ a b af x) ?_)
 rintro _ fE ⟨rfl,ah⟩
 have p:=ag _ _ ah
 refine⟨.inr ⟨_,p⟩, ?_⟩
 refine Iy (v:= .bool (decide (¬ ((b.av=a.av)∧(b.aZ=a.aZ)∧(b.aG=a.aG)∧(b.aJ=a.aJ)∧(b.aR=a.aR)∧(b.aV=a.aV))))) (rs:= []) 8 rfl rfl rfl rfl e7 (fun _ _=>IM (e:= !(decide ((b.av=a.av)∧(b.aZ=a.aZ)∧(b.aG=a.aG)∧(b.aJ=a.aJ)∧(b.aR=a.aR)∧(b.aV=a.aV)))) (Jo rfl rfl e7 rfl (iQ.struct N3 e7 (iC.dec (iC.cons (u:=vI b.av) (v:=vI a.av) f2 (fun _=>by kernel_rfl) (fun _=>by kernel_rfl) (iQ.int v8) (iC.cons (u:= .string ⟨v6 b.aZ⟩) (v:= .string ⟨v6 a.aZ⟩) f2 (fun _=>by kernel_rfl) (fun _=>by kernel_rfl) (iQ.string v9) (iC.cons (u:= .string ⟨v6 b.aG⟩) (v:= .string ⟨v6 a.aG⟩) f2 (fun _=>by kernel_rfl) (fun _=>by kernel_rfl) (iQ.string v9) (iC.cons (u:= .string ⟨v6 b.aJ⟩) (v:= .string ⟨v6 a.aJ⟩) f2 (fun _=>by kernel_rfl) (fun _=>by kernel_rfl) (iQ.string v9) (iC.cons (u:= .string ⟨v6 b.aR⟩) (v:= .string ⟨v6 a.aR⟩) f2 (fun _=>by kernel_rfl) (fun _=>by kernel_rfl) (iQ.string v9) (iC.cons (u:=vI b.aV) (v:=vI a.aV) f2 (fun _=>by kernel_rfl) (fun _=>by kernel_rfl) (iQ.int v8) (iC.nil.up (Lp _)))))))) ((congrArg (decide (b.av=a.av) && ·) ((congrArg (decide (b.aZ=a.aZ) && ·) ((congrArg (decide (b.aG=a.aG) && ·) ((congrArg (decide (b.aJ=a.aJ) && ·) ((congrArg (decide (b.aR=a.aR) && ·) o9).trans gG)).trans gG)).trans gG)).trans gG)).trans gG)))) decide_not.symm) (qt (v:= .bool (decide (¬ ((b.av=a.av)∧(b.aZ=a.aZ)∧(b.aG=a.aG)∧(b.aJ=a.aJ)∧(b.aR=a.aR)∧(b.aV=a.aV))))) 9 rfl (fun _ _=>Io rfl rfl rfl) (qn (Iq ?_)))
 by_cases A:(b.av=a.av)∧(b.aZ=a.aZ)∧(b.aG=a.aG)∧(b.aJ=a.aJ)∧(b.aR=a.aR)∧(b.aV=a.aV)
 refine jF (dF (Lr A)) (sk (sr (Kz (vP R 2) (Lz (.func (.func 173) #[] #[]) p 0 N4 (La (aN.cells a) p 1 M8 M7 ?_)))))
 obtain⟨S,K⟩:∃ q,nG a=q:=⟨_,rfl⟩
 obtain⟨fF,ai,dQ,aj,dR⟩:=Iu p
 refine WL.do rfl (IY Tryz.call173 rfl rfl (uB _ _ a S ai K) ?_)
 rintro _ fG ⟨rfl,ak⟩
 have bN:=aj _ _ ak
 refine An rfl (rt (rs ?_))
 have bO:=bN.pk []
 obtain rfl:_=S:=hr.symm.trans (et (iN l) (et (iN n) (et (ip j) (et (ae x) (et (ip A) (ae K))))))
 exact⟨rfl,bO,e6⟩
 refine jT (dT A) (sr (An rfl (rt (tR (rs ?_)))))
 have bP:=p.pk []
 obtain rfl:_=40:=hr.symm.trans (et (iN l) (et (iN n) (et (ip j) (et (ae x) (iN A)))))
 exact⟨rfl,bP,e6⟩
 by_cases o:a.av=4
 obtain⟨fH,au,dS,av,dU⟩:=Iu t
 refine cl N1 (uE _ _ a.av au (of_decide_eq_true (dT o))) ?_
 rintro _ fI ⟨rfl,ax⟩
 have bQ:=av _ _ ax
 refine Mz rfl (Kz (.agg #[.bool false, .func (.func 180) #[] #[], .func (.func 181) #[] #[], .func (.func 182) #[] #[], .func (.func 183) #[] #[]]) (Kz (.bool true) ?_))
 refine dn [.bool false, .nilFunc, .nilFunc, .nilFunc, .nilFunc] 231 bQ ?_
 intro T fJ bR
 refine df [.bool false, .func (.func 180) #[] #[], .func (.func 181) #[] #[], .func (.func 182) #[] #[], .func (.func 183) #[] #[]] 0 bR M6 ?_
 intro fK bS
 refine An rfl (Ik (Ik ?_))
 refine pM [] (IE (IE IQ)) bS ?_
 intro fM bT
 refine qv 0 rfl rfl (qk (.bool false) 1 rfl (qv 2 rfl rfl (Iy (v:=vP T 1) (rs:= []) 3 rfl rfl rfl rfl e7 (fun _ _=>yk) (Iy (v:= .func (.func 180) #[] #[]) (rs:= []) 4 rfl rfl rfl rfl e7 (fun _ ⟨_,h⟩=>IB rfl (bJ.one N2 (I1 (h.cls (i:=0) rfl) rfl))) (Iy (v:= .agg (aN.cells a).toArray) (rs:= []) 5 rfl rfl rfl rfl e7 (fun _ ⟨_,h⟩=>IB rfl (IJ (cs:=(aN.cells a)) M8 M7 ((h.cls (i:=1) rfl).lit (k:=0) (m:=6) rfl))) (Iy (v:= .agg (aN.cells a).toArray) (rs:= []) 7 rfl rfl rfl rfl e7 (fun _ ⟨_,h⟩=>IB rfl (IJ (cs:=(aN.cells a)) M8 M7 ((h.cls (i:=1) rfl).lit (k:=0) (m:=6) rfl))) ?_))))))
 obtain⟨c,y⟩:∃ q,sJ a=q:=⟨_,rfl⟩
 obtain⟨fO,ay,dV,az,dW⟩:=Iu bT
 refine Jl 6 rfl rfl rfl rfl e7 (IY Tryz.call180 rfl rfl (zt _ _ a c ay y) ?_)
 rintro _ fP ⟨rfl,aA⟩
 have r:=az _ _ aA
 refine⟨.inr ⟨_,r⟩, ?_⟩
 refine Iy (v:= .bool (decide (¬ ((c.av=a.av)∧(c.aZ=a.aZ)∧(c.aG=a.aG)∧(c.aJ=a.aJ)∧(c.aR=a.aR)∧(c.aV=a.aV))))) (rs:= []) 8 rfl rfl rfl rfl e7 (fun _ _=>IM (e:= !(decide ((c.av=a.av)∧(c.aZ=a.aZ)∧(c.aG=a.aG)∧(c.aJ=a.aJ)∧(c.aR=a.aR)∧(c.aV=a.aV)))) (Jo rfl rfl e7 rfl (iQ.struct N3 e7 (iC.dec (iC.cons (u:=vI c.av) (v:=vI a.av) f2 (fun _=>by kernel_rfl) (fun _=>by kernel_rfl) (iQ.int v8) (iC.cons (u:= .string ⟨v6 c.aZ⟩) (v:= .string ⟨v6 a.aZ⟩) f2 (fun _=>by kernel_rfl) (fun _=>by kernel_rfl) (iQ.string v9) (iC.cons (u:= .string ⟨v6 c.aG⟩) (v:= .string ⟨v6 a.aG⟩) f2 (fun _=>by kernel_rfl) (fun _=>by kernel_rfl) (iQ.string v9) (iC.cons (u:= .string ⟨v6 c.aJ⟩) (v:= .string ⟨v6 a.aJ⟩) f2 (fun _=>by kernel_rfl) (fun _=>by kernel_rfl) (iQ.string v9) (iC.cons (u:= .string ⟨v6 c.aR⟩) (v:= .string ⟨v6 a.aR⟩) f2 (fun _=>by kernel_rfl) (fun _=>by kernel_rfl) (iQ.string v9) (iC.cons (u:=vI c.aV) (v:=vI a.aV) f2 (fun _=>by kernel_rfl) (fun _=>by kernel_rfl) (iQ.int v8) (iC.nil.up (Lp _)))))))) ((congrArg (decide (c.av=a.av) && ·) ((congrArg (decide (c.aZ=a.aZ) && ·) ((congrArg (decide (c.aG=a.aG) && ·) ((congrArg (decide (c.aJ=a.aJ) && ·) ((congrArg (decide (c.aR=a.aR) && ·) o9).trans gG)).trans gG)).trans gG)).trans gG)).trans gG)))) decide_not.symm) (qt (v:= .bool (decide (¬ ((c.av=a.av)∧(c.aZ=a.aZ)∧(c.aG=a.aG)∧(c.aJ=a.aJ)∧(c.aR=a.aR)∧(c.aV=a.aV))))) 9 rfl (fun _ _=>Io rfl rfl rfl) (qn (Iq ?_)))
 by_cases B:(c.av=a.av)∧(c.aZ=a.aZ)∧(c.aG=a.aG)∧(c.aJ=a.aJ)∧(c.aR=a.aR)∧(c.aV=a.aV)
 refine jF (dF (Lr B)) (sk (sr (Kz (vP T 2) (Lz (.func (.func 181) #[] #[]) r 0 N4 (La (aN.cells a) r 1 M8 M7 ?_)))))
 obtain⟨U,L⟩:∃ q,nR a=q:=⟨_,rfl⟩
 obtain⟨fQ,aB,dX,aC,dY⟩:=Iu r
 refine WL.do rfl (IY Tryz.call181 rfl rfl (xY _ _ a U aB L) ?_)
 rintro _ fT ⟨rfl,aD⟩
 have bU:=aC _ _ aD
 refine An rfl (rt (rs ?_))
 have bV:=bU.pk []
 obtain rfl:_=U:=hr.symm.trans (et (iN l) (et (iN n) (et (iN j) (et (ip o) (et (ae y) (et (ip B) (ae L)))))))
 exact⟨rfl,bV,e6⟩
 refine jT (dT B) (sr (An rfl (rt (tR (rs ?_)))))
 have bW:=r.pk []
 obtain rfl:_=40:=hr.symm.trans (et (iN l) (et (iN n) (et (iN j) (et (ip o) (et (ae y) (iN B))))))
 exact⟨rfl,bW,e6⟩
 by_cases C:a.av=5
 obtain⟨fU,aF,dZ,aG,d9⟩:=Iu t
 refine cl N1 (uF _ _ a.av aF (of_decide_eq_true (dT C))) ?_
 rintro _ fV ⟨rfl,aH⟩
 have bX:=aG _ _ aH
 refine Mz rfl (Kz (.agg #[.bool true, .func (.func 184) #[] #[], .func (.func 185) #[] #[], .func (.func 182) #[] #[], .func (.func 186) #[] #[]]) (Kz (.bool true) ?_))
 refine dn [.bool false, .nilFunc, .nilFunc, .nilFunc, .nilFunc] 231 bX ?_
 intro V fZ bY
 refine df [.bool true, .func (.func 184) #[] #[], .func (.func 185) #[] #[], .func (.func 182) #[] #[], .func (.func 186) #[] #[]] 0 bY M6 ?_
 intro gm bZ
 refine An rfl (Ik (Ik ?_))
 refine pM [] (IE (IE IQ)) bZ ?_
 intro gp cu
 refine qv 0 rfl rfl (qk (.bool false) 1 rfl (qv 2 rfl rfl (Iy (v:=vP V 1) (rs:= []) 3 rfl rfl rfl rfl e7 (fun _ _=>yk) (Iy (v:= .func (.func 184) #[] #[]) (rs:= []) 4 rfl rfl rfl rfl e7 (fun _ ⟨_,h⟩=>IB rfl (bJ.one N2 (I1 (h.cls (i:=0) rfl) rfl))) (Iy (v:= .agg (aN.cells a).toArray) (rs:= []) 5 rfl rfl rfl rfl e7 (fun _ ⟨_,h⟩=>IB rfl (IJ (cs:=(aN.cells a)) M8 M7 ((h.cls (i:=1) rfl).lit (k:=0) (m:=6) rfl))) (Iy (v:= .agg (aN.cells a).toArray) (rs:= []) 7 rfl rfl rfl rfl e7 (fun _ ⟨_,h⟩=>IB rfl (IJ (cs:=(aN.cells a)) M8 M7 ((h.cls (i:=1) rfl).lit (k:=0) (m:=6) rfl))) ?_))))))
 obtain⟨d,z⟩:∃ q,rD a=q:=⟨_,rfl⟩
 obtain⟨gq,aI,ed,aJ,ek⟩:=Iu cu
 refine Jl 6 rfl rfl rfl rfl e7 (IY Tryz.call184 rfl rfl (yG _ _ a d aI z) ?_)
 rintro _ gu ⟨rfl,aK⟩
 have s:=aJ _ _ aK
 refine⟨.inr ⟨_,s⟩, ?_⟩
 refine Iy (v:= .bool (decide (¬ ((d.av=a.av)∧(d.aZ=a.aZ)∧(d.aG=a.aG)∧(d.aJ=a.aJ)∧(d.aR=a.aR)∧(d.aV=a.aV))))) (rs:= []) 8 rfl rfl rfl rfl e7 (fun _ _=>IM (e:= !(decide ((d.av=a.av)∧(d.aZ=a.aZ)∧(d.aG=a.aG)∧(d.aJ=a.aJ)∧(d.aR=a.aR)∧(d.aV=a.aV)))) (Jo rfl rfl e7 rfl (iQ.struct N3 e7 (iC.dec (iC.cons (u:=vI d.av) (v:=vI a.av) f2 (fun _=>by kernel_rfl) (fun _=>by kernel_rfl) (iQ.int v8) (iC.cons (u:= .string ⟨v6 d.aZ⟩) (v:= .string ⟨v6 a.aZ⟩) f2 (fun _=>by kernel_rfl) (fun _=>by kernel_rfl) (iQ.string v9) (iC.cons (u:= .string ⟨v6 d.aG⟩) (v:= .string ⟨v6 a.aG⟩) f2 (fun _=>by kernel_rfl) (fun _=>by kernel_rfl) (iQ.string v9) (iC.cons (u:= .string ⟨v6 d.aJ⟩) (v:= .string ⟨v6 a.aJ⟩) f2 (fun _=>by kernel_rfl) (fun _=>by kernel_rfl) (iQ.string v9) (iC.cons (u:= .string ⟨v6 d.aR⟩) (v:= .string ⟨v6 a.aR⟩) f2 (fun _=>by kernel_rfl) (fun _=>by kernel_rfl) (iQ.string v9) (iC.cons (u:=vI d.aV) (v:=vI a.aV) f2 (fun _=>by kernel_rfl) (fun _=>by kernel_rfl) (iQ.int v8) (iC.nil.up (Lp _)))))))) ((congrArg (decide (d.av=a.av) && ·) ((congrArg (decide (d.aZ=a.aZ) && ·) ((congrArg (decide (d.aG=a.aG) && ·) ((congrArg (decide (d.aJ=a.aJ) && ·) ((congrArg (decide (d.aR=a.aR) && ·) o9).trans gG)).trans gG)).trans gG)).trans gG)).trans gG)))) decide_not.symm) (qt (v:= .bool (decide (¬ ((d.av=a.av)∧(d.aZ=a.aZ)∧(d.aG=a.aG)∧(d.aJ=a.aJ)∧(d.aR=a.aR)∧(d.aV=a.aV))))) 9 rfl (fun _ _=>Io rfl rfl rfl) (qn (Iq ?_)))
 by_cases E:(d.av=a.av)∧(d.aZ=a.aZ)∧(d.aG=a.aG)∧(d.aJ=a.aJ)∧(d.aR=a.aR)∧(d.aV=a.aV)
 refine jF (dF (Lr E)) (sk (sr (Kz (vP V 2) (Lz (.func (.func 185) #[] #[]) s 0 N4 (La (aN.cells a) s 1 M8 M7 ?_)))))
 obtain⟨W,M⟩:∃ q,mD a=q:=⟨_,rfl⟩
 obtain⟨gy,aL,eB,aM,eD⟩:=Iu s
 refine WL.do rfl (IY Tryz.call185 rfl rfl (tL _ _ a W aL M) ?_)
 rintro _ gz ⟨rfl,aO⟩
 have cz:=aM _ _ aO
 refine An rfl (rt (rs ?_))
 have cB:=cz.pk []
 obtain rfl:_=W:=hr.symm.trans (et (iN l) (et (iN n) (et (iN j) (et (iN o) (et (ip C) (et (ae z) (et (ip E) (ae M))))))))
 exact⟨rfl,cB,e6⟩
 refine jT (dT E) (sr (An rfl (rt (tR (rs ?_)))))
 have cK:=s.pk []
 obtain rfl:_=40:=hr.symm.trans (et (iN l) (et (iN n) (et (iN j) (et (iN o) (et (ip C) (et (ae z) (iN E)))))))
 exact⟨rfl,cK,e6⟩
 obtain⟨gB,aP,eF,aQ,eG⟩:=Iu t
 refine cl N1 (uh _ _ a.av aP e6 e6 e6 e6 e6) ?_
 rintro _ gD ⟨rfl,aR⟩
 have cO:=aQ _ _ aR
 refine Mz rfl (Kz (.agg #[.bool false, .nilFunc, .nilFunc, .nilFunc, .nilFunc]) (Kz (.bool false) ?_))
 refine dn [.bool false, .nilFunc, .nilFunc, .nilFunc, .nilFunc] 231 cO ?_
 intro gF gH cZ
 refine df [.bool false, .nilFunc, .nilFunc, .nilFunc, .nilFunc] 0 cZ M6 ?_
 intro gI dh
 refine An rfl (Ik (Ik ?_))
 refine pM [] (IE (IE IQ)) dh ?_
 intro gJ di
 refine qv 0 rfl rfl (qk (.bool true) 1 rfl (qv 2 rfl rfl (Ip (rs:= []) 3 rfl rfl rfl rfl e7 (Ip (rs:= []) 4 rfl rfl rfl rfl e7 (Ip (rs:= []) 5 rfl rfl rfl rfl e7 (Ip (rs:= []) 6 rfl rfl rfl rfl e7 (Ip (rs:= []) 7 rfl rfl rfl rfl e7 (Ip (rs:= []) 8 rfl rfl rfl rfl e7 (qt (v:= .bool true) 9 rfl (fun _ _=>Iw rfl rfl rfl) (qn (Iq (jt (sr (An rfl (rt (tR (rs ?_)))))))))))))))))
 have dm:=di.pk []
 obtain rfl:_=40:=hr.symm.trans (et (iN l) (et (iN n) (et (iN j) (et (iN o) (iN C)))))
 exact⟨rfl,dm,e6⟩
def iH:List aN→Unit ⊕ Int
  | []=>B7 ()
  | b::c=>bnd (eu b) fun a=>if a=0 then iH c else B9 (a)
def mU (l0:List aN):Int:=
 lp (iH l0) fun _=>0
theorem xZ (w D o A B l0 L) (H:Own w D w []) (n:Ro w D fun w'=>aY w' 6 o A (q4 aN.cells l0)) (C:A=l0.length) (P:l0.length≤9223372036854775807) (hr:mU l0=L):
    Calls v5 157 #[.slice o A B] w (dA fun v w'=>v=vI L∧Own w D w' []):=by
 subst C
 refine cb Tryz.func157 ?_
 refine sr (An rfl (Ik (sr (Mz rfl (Kz (vJ l0.length) (Mn rfl (bo ?_)))))))
 have E:=H.pk []
 obtain⟨F,d⟩:=lF fun (a:Nat) w'=>Own w D w' []∧a≤l0.length∧iH l0=iH (r4 a l0)
 refine C1 (fun i:Nat=> [(2,vI 0),(8,vJ i),(7,vJ l0.length),(6, .slice o l0.length B)]) F (fun i=>l0.length - i) 0 ⟨rfl,rfl,rfl,rfl,trivial⟩ (d.2 ⟨E,e6,rfl⟩) ?_
 rintro a Q p
 obtain⟨f,M,g⟩:=d.1 p
 refine sr (Kz (.bool (decide (((a:Nat):Int) < ((l0.length:Nat):Int)))) (nt (Ik ?_)))
 by_cases r:((a:Nat):Int) < ((l0.length:Nat):Int)
 obtain⟨b,k⟩:=dh (ls:=l0) (i:=a) aN.len f2 (f.ro n) e9
 have l:=drop_at k
 refine jT (dT r) (sk (Ik (bo (sr (fw (.pointer (some ⟨ab o,ao o+a *6,none⟩)) (Iz (mG) rfl rfl ((f.ro n).addr (i:=a) e6) e6) (fw (.agg (aN.cells b).toArray) (IB rfl (IJ (cs:=(aN.cells b)) M8 M7 ((f.ro n).elem aN.len k f2))) ?_))))))
 refine dn [vI 0, .string ⟨v6 ([])⟩, .string ⟨v6 ([])⟩, .string ⟨v6 ([])⟩, .string ⟨v6 ([])⟩,vI 0] 72 f ?_
 intro R S G
 refine df (aN.cells b) 0 G M7 ?_
 intro T s
 refine ns (La (aN.cells b) s 0 M8 M7 ?_)
 obtain⟨c,h⟩:∃ q,eu b=q:=⟨_,rfl⟩
 obtain⟨U,t,N,u,O⟩:=Iu s
 refine cl N5 (sj _ _ b c t h) ?_
 rintro _ V ⟨rfl,x,m⟩
 have y:=u _ _ x
 replace m: ¬ (c=0)∨(1≤b.av∧b.av≤5):=m
 refine Ar rfl (Mz rfl (fw (.bool (decide (¬ (c=0)))) (IM (e:= !(decide (c=0))) yk decide_not.symm) (nt ?_)))
 by_cases j:c=0
 refine jF (dF (Lr j)) (IU (bN (Iq (Il (fw (vJ (a+1)) (Ir (e:=C3.wrap (((a:Nat):Int)+1)) yk f0) (Mz rfl (C4 ?_)))))))
 have I:=y.pk []
 exact II (a+1) ⟨rfl,rfl,rfl,rfl,trivial⟩ (d.2 ⟨I,e6,et (g) (et (congrArg (fun q=>iH q) l) (et (ae h) (ip j)))⟩) (by show l0.length - (a+1) < l0.length - a; omega)
 refine jT (dT j) (sr (Mz rfl (An rfl (rt (bR (tR (tR (bR (tR (rs ?_))))))))))
 have J:=y.pk []
 obtain rfl:_=c:=hr.symm.trans (gL (et (g) (et (congrArg (fun q=>iH q) l) (et (ae h) (iN j)))))
 exact⟨rfl,J⟩
 refine jF (dF r) (C5 (IC ?_))
 have z:iH l0=B7 ():=et (g) (et (congrArg (fun q=>iH q) (dZ (ls:=l0) (i:=a) e6)) rfl)
 refine IC (IK (Iq (sr (An rfl (rt (rs ?_))))))
 have K:=f.pk []
 obtain rfl:_=0:=hr.symm.trans (mF z)
 exact⟨rfl,K⟩
def kC (l0:List aN):Int:=
 if((l0.length:Nat):Int) < 1 then 3 else if((l0.length:Nat):Int) > 4 then 3 else bnd (mU l0) fun a=>a
theorem wT (w D i j k l0 l) (H:Own w D w []) (m:Ro w D fun w'=>aY w' 6 i j (q4 aN.cells l0)) (n:j=l0.length) (u:l0.length≤9223372036854775807) (hr:kC l0=l):
    Calls v5 137 #[.slice i j k] w (dA fun v w'=>v=vI l∧Own w D w' []∧(¬ (l=0)∨(1≤l0.length∧l0.length≤4))):=by
 subst n
 refine cb Tryz.func137 ?_
 refine sr (An rfl (Ik (sr (Mz rfl (Kz (vJ l0.length) (Kz (.bool (decide (((l0.length:Nat):Int) < 1))) (Mz rfl ?_)))))))
 by_cases a:((l0.length:Nat):Int) < 1
 refine Sz (dT a) (Sz (dT a) (Sz (dT a) (fw (.bool true) (Iw rfl (dT a) rfl) (nt (jt (sr (An rfl (rt (tR (rs ?_))))))))))
 have o:=H.pk []
 obtain rfl:_=3:=hr.symm.trans (ip a)
 exact⟨rfl,o,e6⟩
 refine gw (.slice i l0.length k) (dF a) (IA rfl) (Gz (vJ l0.length) (dF a) (Gz (.bool (decide (((l0.length:Nat):Int) > 4))) (dF a) (fw (.bool (decide (((l0.length:Nat):Int) > 4))) (Io rfl (dF a) rfl) (nt ?_))))
 by_cases b:((l0.length:Nat):Int) > 4
 refine jT (dT b) (sr (An rfl (rt (tR (rs ?_)))))
 have p:=H.pk []
 obtain rfl:_=3:=hr.symm.trans (et (iN a) (ip b))
 exact⟨rfl,p,e6⟩
 refine jF (dF b) (sk (sr (Mz rfl ?_)))
 obtain⟨d,c⟩:∃ q,mU l0=q:=⟨_,rfl⟩
 obtain⟨x,e,f,g,t⟩:=Iu H
 refine cl Tryz.call157 (xZ _ _ i l0.length k l0 d e (f _ m) rfl e6 c) ?_
 rintro _ y ⟨rfl,h⟩
 have r:=g _ _ h
 refine An rfl (rt (rs ?_))
 have s:=r.pk []
 obtain rfl:_=d:=hr.symm.trans (et (iN a) (et (iN b) (ae c)))
 exact⟨rfl,s,e6⟩
def kV:List aN→Unit ⊕ Bool
  | []=>B7 ()
  | b::c=>bnd (eu b) fun a=>if a=0 then kV c else B9 (false)
def ul (l0:List aN):Bool:=
 lp (kV l0) fun _=>true
theorem yH (w D o A B l0 L) (H:Own w D w []) (n:Ro w D fun w'=>aY w' 6 o A (q4 aN.cells l0)) (C:A=l0.length) (P:l0.length≤9223372036854775807) (hr:ul l0=L):
    Calls v5 138 #[.slice o A B, .func (.func 139) #[] #[]] w (dA fun v w'=>v= .bool L∧Own w D w' []):=by
 subst C
 refine cb Tryz.func138 ?_
 refine sr (An rfl (Ik (sr (Mz rfl (Kz (vJ l0.length) (Mn rfl (bo ?_)))))))
 have E:=H.pk []
 obtain⟨F,c⟩:=lF fun (a:Nat) w'=>Own w D w' []∧a≤l0.length∧kV l0=kV (r4 a l0)
 refine C1 (fun i:Nat=> [(4, .bool false),(9,vJ i),(8,vJ l0.length),(7, .slice o l0.length B),(1, .func (.func 139) #[] #[])]) F (fun i=>l0.length - i) 0 ⟨rfl,rfl,rfl,rfl,rfl,trivial⟩ (c.2 ⟨E,e6,rfl⟩) ?_
 rintro a Q p
 obtain⟨d,M,f⟩:=c.1 p
 refine sr (Kz (.bool (decide (((a:Nat):Int) < ((l0.length:Nat):Int)))) (nt (Ik ?_)))
 by_cases r:((a:Nat):Int) < ((l0.length:Nat):Int)
 obtain⟨b,k⟩:=dh (ls:=l0) (i:=a) aN.len f2 (d.ro n) e9
 have l:=drop_at k
 refine jT (dT r) (sk (Ik (bo (sr (fw (.pointer (some ⟨ab o,ao o+a *6,none⟩)) (Iz (mG) rfl rfl ((d.ro n).addr (i:=a) e6) e6) (fw (.agg (aN.cells b).toArray) (IB rfl (IJ (cs:=(aN.cells b)) M8 M7 ((d.ro n).elem aN.len k f2))) ?_))))))
 refine dn [vI 0, .string ⟨v6 ([])⟩, .string ⟨v6 ([])⟩, .string ⟨v6 ([])⟩, .string ⟨v6 ([])⟩,vI 0] 72 d ?_
 intro R S G
 refine df (aN.cells b) 0 G M7 ?_
 intro T s
 refine ns (Mz rfl (La (aN.cells b) s 0 M8 M7 ?_))
 obtain⟨g,h⟩:∃ q,eu b=q:=⟨_,rfl⟩
 obtain⟨U,t,N,u,O⟩:=Iu s
 refine WL.do rfl (IY N5 rfl rfl (sj _ _ b g t h) ?_)
 rintro _ V ⟨rfl,x,m⟩
 have y:=u _ _ x
 replace m: ¬ (g=0)∨(1≤b.av∧b.av≤5):=m
 refine fw (.bool (decide (¬ (g=0)))) (IM (e:= !(decide (g=0))) yk decide_not.symm) (nt ?_)
 by_cases j:g=0
 refine jF (dF (Lr j)) (IU (bN (Iq (Il (fw (vJ (a+1)) (Ir (e:=C3.wrap (((a:Nat):Int)+1)) yk f0) (Mz rfl (C4 ?_)))))))
 have I:=y.pk []
 exact II (a+1) ⟨rfl,rfl,rfl,rfl,rfl,trivial⟩ (c.2 ⟨I,e6,et (f) (et (congrArg (fun q=>kV q) l) (et (ae h) (ip j)))⟩) (by show l0.length - (a+1) < l0.length - a; omega)
 refine jT (dT j) (sr (An rfl (rt (bR (tR (tR (bR (tR (rs ?_)))))))))
 have J:=y.pk []
 obtain rfl:_=false:=hr.symm.trans (gL (et (f) (et (congrArg (fun q=>kV q) l) (et (ae h) (iN j)))))
 exact⟨rfl,J⟩
 refine jF (dF r) (C5 (IC ?_))
 have z:kV l0=B7 ():=et (f) (et (congrArg (fun q=>kV q) (dZ (ls:=l0) (i:=a) e6)) rfl)
 refine IC (IK (Iq (sr (An rfl (rt (rs ?_))))))
 have K:=d.pk []
 obtain rfl:_=true:=hr.symm.trans (mF z)
 exact⟨rfl,K⟩
def vW (a:aN):Bool:=
 if a.av=1 then false else if a.av=2 then true else if a.av=3 then true else if a.av=4 then false else if a.av=5 then true else false
theorem Ay (w D) (a:aN) (r0) (H:Own w D w []) (hr:vW a=r0):
    Calls v5 159 #[.agg (aN.cells a).toArray] w (dA fun v w'=>v= .bool r0∧Own w D w' []):=by
 refine cb Tryz.func159 ?_
 refine sr ?_
 refine dn (aN.cells a) 72 H ?_
 intro S aW b
 refine Ar rfl (Kz (vP S 0) (Lz (vI a.av) b 0 C2 ?_))
 by_cases c:a.av=1
 obtain⟨aX,m,aD,n,aF⟩:=Iu b
 refine cl N1 (uA _ _ a.av m (of_decide_eq_true (dT c))) ?_
 rintro _ aY ⟨rfl,o⟩
 have T:=n _ _ o
 refine Mz rfl (Kz (.agg #[.bool false, .func (.func 172) #[] #[], .func (.func 173) #[] #[], .func (.func 174) #[] #[], .func (.func 175) #[] #[]]) (Kz (.bool true) ?_))
 refine dn [.bool false, .nilFunc, .nilFunc, .nilFunc, .nilFunc] 231 T ?_
 intro U aZ V
 refine df [.bool false, .func (.func 172) #[] #[], .func (.func 173) #[] #[], .func (.func 174) #[] #[], .func (.func 175) #[] #[]] 0 V M6 ?_
 intro bf W
 refine An rfl (Ik ?_)
 have p:=W.pk [0]
 refine Il (Mz rfl (Mz rfl (Gz (vP U 0) rfl (Gl (.bool false) rfl p 0 N6 (fw (.bool false) (Iw rfl rfl rfl) (An rfl (rt (rs ?_))))))))
 have X:=p.pk []
 obtain rfl:_=false:=hr.symm.trans (ip c)
 exact⟨rfl,X⟩
 by_cases d:a.av=2
 obtain⟨bg,q,aG,r,aH⟩:=Iu b
 refine cl N1 (uC _ _ a.av q (of_decide_eq_true (dT d))) ?_
 rintro _ bi ⟨rfl,s⟩
 have Y:=r _ _ s
 refine Mz rfl (Kz (.agg #[.bool true, .func (.func 176) #[] #[], .func (.func 177) #[] #[], .func (.func 174) #[] #[], .func (.func 178) #[] #[]]) (Kz (.bool true) ?_))
 refine dn [.bool false, .nilFunc, .nilFunc, .nilFunc, .nilFunc] 231 Y ?_
 intro Z bn aa
 refine df [.bool true, .func (.func 176) #[] #[], .func (.func 177) #[] #[], .func (.func 174) #[] #[], .func (.func 178) #[] #[]] 0 aa M6 ?_
 intro bq ae
 refine An rfl (Ik ?_)
 have t:=ae.pk [0]
 refine Il (Mz rfl (Mz rfl (Gz (vP Z 0) rfl (Gl (.bool true) rfl t 0 N6 (fw (.bool true) (Iw rfl rfl rfl) (An rfl (rt (rs ?_))))))))
 have af:=t.pk []
 obtain rfl:_=true:=hr.symm.trans (et (iN c) (ip d))
 exact⟨rfl,af⟩
 by_cases e:a.av=3
 obtain⟨bu,u,aI,x,aJ⟩:=Iu b
 refine cl N1 (uD _ _ a.av u (of_decide_eq_true (dT e))) ?_
 rintro _ bv ⟨rfl,y⟩
 have ag:=x _ _ y
 refine Mz rfl (Kz (.agg #[.bool true, .func (.func 172) #[] #[], .func (.func 173) #[] #[], .func (.func 174) #[] #[], .func (.func 179) #[] #[]]) (Kz (.bool true) ?_))
 refine dn [.bool false, .nilFunc, .nilFunc, .nilFunc, .nilFunc] 231 ag ?_
 intro ah bz ai
 refine df [.bool true, .func (.func 172) #[] #[], .func (.func 173) #[] #[], .func (.func 174) #[] #[], .func (.func 179) #[] #[]] 0 ai M6 ?_
 intro bA aj
 refine An rfl (Ik ?_)
 have z:=aj.pk [0]
 refine Il (Mz rfl (Mz rfl (Gz (vP ah 0) rfl (Gl (.bool true) rfl z 0 N6 (fw (.bool true) (Iw rfl rfl rfl) (An rfl (rt (rs ?_))))))))
 have ak:=z.pk []
 obtain rfl:_=true:=hr.symm.trans (et (iN c) (et (iN d) (ip e)))
 exact⟨rfl,ak⟩
 by_cases f:a.av=4
 obtain⟨bB,A,aK,B,aL⟩:=Iu b
 refine cl N1 (uE _ _ a.av A (of_decide_eq_true (dT f))) ?_
 rintro _ bC ⟨rfl,C⟩
 have au:=B _ _ C
 refine Mz rfl (Kz (.agg #[.bool false, .func (.func 180) #[] #[], .func (.func 181) #[] #[], .func (.func 182) #[] #[], .func (.func 183) #[] #[]]) (Kz (.bool true) ?_))
 refine dn [.bool false, .nilFunc, .nilFunc, .nilFunc, .nilFunc] 231 au ?_
 intro av bD ax
 refine df [.bool false, .func (.func 180) #[] #[], .func (.func 181) #[] #[], .func (.func 182) #[] #[], .func (.func 183) #[] #[]] 0 ax M6 ?_
 intro bE ay
 refine An rfl (Ik ?_)
 have E:=ay.pk [0]
 refine Il (Mz rfl (Mz rfl (Gz (vP av 0) rfl (Gl (.bool false) rfl E 0 N6 (fw (.bool false) (Iw rfl rfl rfl) (An rfl (rt (rs ?_))))))))
 have az:=E.pk []
 obtain rfl:_=false:=hr.symm.trans (et (iN c) (et (iN d) (et (iN e) (ip f))))
 exact⟨rfl,az⟩
 by_cases h:a.av=5
 obtain⟨bF,F,aM,G,aO⟩:=Iu b
 refine cl N1 (uF _ _ a.av F (of_decide_eq_true (dT h))) ?_
 rintro _ bG ⟨rfl,i⟩
 have I:=G _ _ i
 refine Mz rfl (Kz (.agg #[.bool true, .func (.func 184) #[] #[], .func (.func 185) #[] #[], .func (.func 182) #[] #[], .func (.func 186) #[] #[]]) (Kz (.bool true) ?_))
 refine dn [.bool false, .nilFunc, .nilFunc, .nilFunc, .nilFunc] 231 I ?_
 intro J aP K
 refine df [.bool true, .func (.func 184) #[] #[], .func (.func 185) #[] #[], .func (.func 182) #[] #[], .func (.func 186) #[] #[]] 0 K M6 ?_
 intro aQ L
 refine An rfl (Ik ?_)
 have g:=L.pk [0]
 refine Il (Mz rfl (Mz rfl (Gz (vP J 0) rfl (Gl (.bool true) rfl g 0 N6 (fw (.bool true) (Iw rfl rfl rfl) (An rfl (rt (rs ?_))))))))
 have M:=g.pk []
 obtain rfl:_=true:=hr.symm.trans (et (iN c) (et (iN d) (et (iN e) (et (iN f) (ip h)))))
 exact⟨rfl,M⟩
 obtain⟨aR,j,aA,k,aB⟩:=Iu b
 refine cl N1 (uh _ _ a.av j e6 e6 e6 e6 e6) ?_
 rintro _ aS ⟨rfl,l⟩
 have N:=k _ _ l
 refine Mz rfl (Kz (.agg #[.bool false, .nilFunc, .nilFunc, .nilFunc, .nilFunc]) (Kz (.bool false) ?_))
 refine dn [.bool false, .nilFunc, .nilFunc, .nilFunc, .nilFunc] 231 N ?_
 intro aT aU O
 refine df [.bool false, .nilFunc, .nilFunc, .nilFunc, .nilFunc] 0 O M6 ?_
 intro aV P
 refine An rfl (Ik ?_)
 have Q:=P.pk [0]
 refine Il (Mz rfl (Mz rfl (Sz rfl (Sz rfl (fw (.bool false) (Io rfl rfl rfl) (An rfl (rt (rs ?_))))))))
 have R:=Q.pk []
 obtain rfl:_=false:=hr.symm.trans (et (iN c) (et (iN d) (et (iN e) (et (iN f) (iN h)))))
 exact⟨rfl,R⟩
def qI (c:aN):Int:=
 bnd (vW c) fun a=>if a=true then bnd (eu c) fun b=>b else 40
theorem vX (w D) (a:aN) (t) (H:Own w D w []) (hr:qI a=t):
    Calls v5 140 #[.agg (aN.cells a).toArray] w (dA fun v w'=>v=vI t∧Own w D w' []):=by
 refine cb Tryz.func140 ?_
 refine sr ?_
 refine dn (aN.cells a) 72 H ?_
 intro A B i
 refine An rfl (Ik (sr (La (aN.cells a) i 0 M8 M7 ?_)))
 obtain⟨f,b⟩:∃ q,vW a=q:=⟨_,rfl⟩
 obtain⟨C,j,u,k,x⟩:=Iu i
 refine cl Tryz.call159 (Ay _ _ a f j b) ?_
 rintro _ E ⟨rfl,l⟩
 have g:=k _ _ l
 refine Kz (.bool (!f)) (nt ?_)
 rcases Ls (f) with c | c
 refine jF (cn c) (sk (sr (La (aN.cells a) g 0 M8 M7 ?_)))
 obtain⟨h,d⟩:∃ q,eu a=q:=⟨_,rfl⟩
 obtain⟨F,m,y,n,z⟩:=Iu g
 refine cl N5 (sj _ _ a h m d) ?_
 rintro _ G ⟨rfl,o,e⟩
 have p:=n _ _ o
 replace e: ¬ (h=0)∨(1≤a.av∧a.av≤5):=e
 refine An rfl (rt (rs ?_))
 have r:=p.pk []
 obtain rfl:_=h:=hr.symm.trans (et (ae b) (et (ip c) (ae d)))
 exact⟨rfl,r⟩
 refine jT (cn c) (sr (An rfl (rt (tR (rs ?_)))))
 have s:=g.pk []
 obtain rfl:_=40:=hr.symm.trans (et (ae b) (fP c))
 exact⟨rfl,s⟩
def kI:List aN→Unit ⊕ Bool
  | []=>B7 ()
  | b::c=>bnd (qI b) fun a=>if a=0 then kI c else B9 (false)
def tN (l0:List aN):Bool:=
 lp (kI l0) fun _=>true
theorem x8 (w D n z A l0 K) (H:Own w D w []) (m:Ro w D fun w'=>aY w' 6 n z (q4 aN.cells l0)) (B:z=l0.length) (O:l0.length≤9223372036854775807) (hr:tN l0=K):
    Calls v5 138 #[.slice n z A, .func (.func 140) #[] #[]] w (dA fun v w'=>v= .bool K∧Own w D w' []):=by
 subst B
 refine cb Tryz.func138 ?_
 refine sr (An rfl (Ik (sr (Mz rfl (Kz (vJ l0.length) (Mn rfl (bo ?_)))))))
 have C:=H.pk []
 obtain⟨E,c⟩:=lF fun (a:Nat) w'=>Own w D w' []∧a≤l0.length∧kI l0=kI (r4 a l0)
 refine C1 (fun i:Nat=> [(4, .bool false),(9,vJ i),(8,vJ l0.length),(7, .slice n l0.length A),(1, .func (.func 140) #[] #[])]) E (fun i=>l0.length - i) 0 ⟨rfl,rfl,rfl,rfl,rfl,trivial⟩ (c.2 ⟨C,e6,rfl⟩) ?_
 rintro a P o
 obtain⟨d,L,f⟩:=c.1 o
 refine sr (Kz (.bool (decide (((a:Nat):Int) < ((l0.length:Nat):Int)))) (nt (Ik ?_)))
 by_cases p:((a:Nat):Int) < ((l0.length:Nat):Int)
 obtain⟨b,k⟩:=dh (ls:=l0) (i:=a) aN.len f2 (d.ro m) e9
 have l:=drop_at k
 refine jT (dT p) (sk (Ik (bo (sr (fw (.pointer (some ⟨ab n,ao n+a *6,none⟩)) (Iz (mG) rfl rfl ((d.ro m).addr (i:=a) e6) e6) (fw (.agg (aN.cells b).toArray) (IB rfl (IJ (cs:=(aN.cells b)) M8 M7 ((d.ro m).elem aN.len k f2))) ?_))))))
 refine dn [vI 0, .string ⟨v6 ([])⟩, .string ⟨v6 ([])⟩, .string ⟨v6 ([])⟩, .string ⟨v6 ([])⟩,vI 0] 72 d ?_
 intro Q R F
 refine df (aN.cells b) 0 F M7 ?_
 intro S r
 refine ns (Mz rfl (La (aN.cells b) r 0 M8 M7 ?_))
 obtain⟨h,g⟩:∃ q,qI b=q:=⟨_,rfl⟩
 obtain⟨T,s,M,t,N⟩:=Iu r
 refine WL.do rfl (IY Tryz.call140 rfl rfl (vX _ _ b h s g) ?_)
 rintro _ U ⟨rfl,u⟩
 have x:=t _ _ u
 refine fw (.bool (decide (¬ (h=0)))) (IM (e:= !(decide (h=0))) yk decide_not.symm) (nt ?_)
 by_cases j:h=0
 refine jF (dF (Lr j)) (IU (bN (Iq (Il (fw (vJ (a+1)) (Ir (e:=C3.wrap (((a:Nat):Int)+1)) yk f0) (Mz rfl (C4 ?_)))))))
 have G:=x.pk []
 exact II (a+1) ⟨rfl,rfl,rfl,rfl,rfl,trivial⟩ (c.2 ⟨G,e6,et (f) (et (congrArg (fun q=>kI q) l) (et (ae g) (ip j)))⟩) (by show l0.length - (a+1) < l0.length - a; omega)
 refine jT (dT j) (sr (An rfl (rt (bR (tR (tR (bR (tR (rs ?_)))))))))
 have I:=x.pk []
 obtain rfl:_=false:=hr.symm.trans (gL (et (f) (et (congrArg (fun q=>kI q) l) (et (ae g) (iN j)))))
 exact⟨rfl,I⟩
 refine jF (dF p) (C5 (IC ?_))
 have y:kI l0=B7 ():=et (f) (et (congrArg (fun q=>kI q) (dZ (ls:=l0) (i:=a) e6)) rfl)
 refine IC (IK (Iq (sr (An rfl (rt (rs ?_))))))
 have J:=d.pk []
 obtain rfl:_=true:=hr.symm.trans (mF y)
 exact⟨rfl,J⟩
def p8 (d:Int) (l1:List aN):Bool:=
 if d=1 then bnd (kC l1) fun a=>decide (a=0) else if d=3 then if((l1.length:Nat):Int) ≥ 1 then if((l1.length:Nat):Int)≤24 then bnd (ul l1) fun b=>b else false else false else if((l1.length:Nat):Int)≤6 then bnd (tN l1) fun c=>c else false
theorem yI (w D p g G l l1 S) (H:Own w D w []) (m:Ro w D fun w'=>aY w' 6 g G (q4 aN.cells l1)) (I:G=l1.length) (W:l1.length≤9223372036854775807) (hr:p8 p l1=S):
    Calls v5 115 #[vI p, .slice g G l] w (dA fun v w'=>v= .bool S∧Own w D w' []):=by
 subst I
 refine cb Tryz.func115 ?_
 refine sr (An rfl (Ik (sr (Mn rfl (bo (sr (Kz (.bool (decide (p=1))) (An rfl ?_))))))))
 by_cases b:p=1
 refine jT (dT b) (sr (Mz rfl ?_))
 obtain⟨f,h⟩:∃ q,kC l1=q:=⟨_,rfl⟩
 obtain⟨X,r,s,t,T⟩:=Iu H
 refine cl Tryz.call137 (wT _ _ g l1.length l l1 f r (s _ m) rfl e6 h) ?_
 rintro _ Y ⟨rfl,u,i⟩
 have J:=t _ _ u
 replace i: ¬ (f=0)∨(1≤l1.length∧l1.length≤4):=i
 refine Kz (.bool (decide (f=0))) (An rfl (rt (bR (tR (rs ?_)))))
 have K:=J.pk []
 obtain rfl:_=decide (f=0):=hr.symm.trans (et (ip b) (ae h))
 exact⟨rfl,K⟩
 refine jF (dF b) (sr (Kz (.bool (decide (p=3))) (An rfl ?_)))
 by_cases e:p=3
 refine jT (dT e) (sr (Mz rfl (Kz (vJ l1.length) (Kz (.bool (decide (((l1.length:Nat):Int) ≥ 1))) (Mz rfl ?_)))))
 by_cases a:((l1.length:Nat):Int) ≥ 1
 refine gw (.slice g l1.length l) (dT a) (IA rfl) (Gz (vJ l1.length) (dT a) (Gz (.bool (decide (((l1.length:Nat):Int)≤24))) (dT a) (fw (.bool (decide (((l1.length:Nat):Int)≤24))) (Iw rfl (dT a) rfl) (Mz rfl ?_))))
 by_cases c:((l1.length:Nat):Int)≤24
 refine gw (.slice g l1.length l) (dT c) (IA rfl) ?_
 obtain⟨n,j⟩:∃ q,ul l1=q:=⟨_,rfl⟩
 obtain⟨Z,x,y,z,U⟩:=Iu H
 refine pW (dT c) Tryz.call138 (yH _ _ g l1.length l l1 n x (y _ m) rfl e6 j) ?_
 rintro _ aa ⟨rfl,A⟩
 have L:=z _ _ A
 refine fw (.bool n) (Iw rfl (dT c) rfl) (An rfl (rt (bR (tR (rs ?_)))))
 have M:=L.pk []
 obtain rfl:_=n:=hr.symm.trans (et (iN b) (et (ip e) (et (ip a) (et (ip c) (ae j)))))
 exact⟨rfl,M⟩
 refine Sz (dF c) (Sz (dF c) (fw (.bool false) (Io rfl (dF c) rfl) (An rfl (rt (bR (tR (rs ?_)))))))
 have N:=H.pk []
 obtain rfl:_=false:=hr.symm.trans (et (iN b) (et (ip e) (et (ip a) (iN c))))
 exact⟨rfl,N⟩
 refine Sz (dF a) (Sz (dF a) (Sz (dF a) (fw (.bool false) (Io rfl (dF a) rfl) (Mz rfl (Sz rfl (Sz rfl (fw (.bool false) (Io rfl rfl rfl) (An rfl (rt (bR (tR (rs ?_))))))))))))
 have O:=H.pk []
 obtain rfl:_=false:=hr.symm.trans (et (iN b) (et (ip e) (iN a)))
 exact⟨rfl,O⟩
 refine jF (dF e) (IU (bN (Iq (sr (Mz rfl (Kz (vJ l1.length) (Kz (.bool (decide (((l1.length:Nat):Int)≤6))) (Mz rfl ?_))))))))
 by_cases d:((l1.length:Nat):Int)≤6
 refine gw (.slice g l1.length l) (dT d) (IA rfl) ?_
 obtain⟨o,k⟩:∃ q,tN l1=q:=⟨_,rfl⟩
 obtain⟨af,B,C,E,V⟩:=Iu H
 refine pW (dT d) Tryz.call138 (x8 _ _ g l1.length l l1 o B (C _ m) rfl e6 k) ?_
 rintro _ ag ⟨rfl,F⟩
 have P:=E _ _ F
 refine fw (.bool o) (Iw rfl (dT d) rfl) (An rfl (rt (rs ?_)))
 have Q:=P.pk []
 obtain rfl:_=o:=hr.symm.trans (et (iN b) (et (iN e) (et (ip d) (ae k))))
 exact⟨rfl,Q⟩
 refine Sz (dF d) (Sz (dF d) (fw (.bool false) (Io rfl (dF d) rfl) (An rfl (rt (rs ?_)))))
 have R:=H.pk []
 obtain rfl:_=false:=hr.symm.trans (et (iN b) (et (iN e) (iN d)))
 exact⟨rfl,R⟩
def ll (b:Int) (a:Int):Bool:=
 if b=1 then if a ≥ 1 then decide (a≤4) else false else if b=2 then if a ≥ 11 then decide (a < 15) else false else decide (a=0)
theorem qJ (w D f c l) (H:Own w D w []) (hr:ll f c=l):
    Calls v5 50 #[vI f,vI c] w (dA fun v w'=>v= .bool l∧Own w D w' []):=by
 refine cb Tryz.func50 ?_
 refine sr (An rfl (Ik (sr (Mn rfl (bo (sr (Kz (.bool (decide (f=1))) (An rfl ?_))))))))
 by_cases d:f=1
 refine jT (dT d) (sr (Mz rfl (Kz (.bool (decide (c ≥ 1))) (Mz rfl ?_))))
 by_cases a:c ≥ 1
 refine gw (vI c) (dT a) (IA rfl) (Gz (.bool (decide (c≤4))) (dT a) (fw (.bool (decide (c≤4))) (Iw rfl (dT a) rfl) (An rfl (rt (bR (tR (rs ?_)))))))
 have g:=H.pk []
 obtain rfl:_=decide (c≤4):=hr.symm.trans (et (ip d) (ip a))
 exact⟨rfl,g⟩
 refine Sz (dF a) (Sz (dF a) (fw (.bool false) (Io rfl (dF a) rfl) (An rfl (rt (bR (tR (rs ?_)))))))
 have h:=H.pk []
 obtain rfl:_=false:=hr.symm.trans (et (ip d) (iN a))
 exact⟨rfl,h⟩
 refine jF (dF d) (sr (Kz (.bool (decide (f=2))) (An rfl ?_)))
 by_cases e:f=2
 refine jT (dT e) (sr (Mz rfl (Kz (.bool (decide (c ≥ 11))) (Mz rfl ?_))))
 by_cases b:c ≥ 11
 refine gw (vI c) (dT b) (IA rfl) (Gz (.bool (decide (c < 15))) (dT b) (fw (.bool (decide (c < 15))) (Iw rfl (dT b) rfl) (An rfl (rt (bR (tR (rs ?_)))))))
 have i:=H.pk []
 obtain rfl:_=decide (c < 15):=hr.symm.trans (et (iN d) (et (ip e) (ip b)))
 exact⟨rfl,i⟩
 refine Sz (dF b) (Sz (dF b) (fw (.bool false) (Io rfl (dF b) rfl) (An rfl (rt (bR (tR (rs ?_)))))))
 have j:=H.pk []
 obtain rfl:_=false:=hr.symm.trans (et (iN d) (et (ip e) (iN b)))
 exact⟨rfl,j⟩
 refine jF (dF e) (IU (bN (Iq (sr (Mz rfl (Kz (.bool (decide (c=0))) (An rfl (rt (rs ?_)))))))))
 have k:=H.pk []
 obtain rfl:_=decide (c=0):=hr.symm.trans (et (iN d) (iN e))
 exact⟨rfl,k⟩
def oD (a:bW) (b:Int):Bool:=
 if b=2 then bnd (tJ a.av a.dK) fun c=>c else if b=3 then bnd (oW a.av a.ah.ls) fun d=>d else if b=7 then bnd (p8 a.av a.aB.ls) fun e=>e else if b=11 then bnd (jc a.ag.ls) fun f=>decide (f=0) else if b=12 then bnd (ll 1 a.fA) fun g=>g else if b=13 then bnd (iB a.cu) fun h=>decide (h=0) else true
theorem Bn (w D) (a:bW) (f z g h B i n j C k o r0) (H:Own w D w []) (N:z=a.aB.ls.length) (O:Ro w D fun w'=>aY w' 6 f a.aB.ls.length (q4 aN.cells a.aB.ls)) (aO:a.aB.ls.length≤g∧a.aB.ls.length≤9223372036854775807) (r:s5 af.abs n=a.ah.ls) (P:B=a.ah.ls.length) (Q:Ro w D fun w'=>aY w' 3 h a.ah.ls.length (q4 af.cells n)) (aP:a.ah.ls.length≤i∧a.ah.ls.length≤9223372036854775807) (s:∀ x ∈ n,Ro w D (fun w'=>aY w' 2 x.aj.A x.aj.ls.length (q4 aH.cells x.aj.ls))∧(x.aj.ls.length≤x.aj.c∧x.aj.ls.length≤9223372036854775807)) (R:C=a.ag.ls.length) (S:Ro w D fun w'=>aY w' 2 j a.ag.ls.length (q4 aM.cells a.ag.ls)) (aQ:a.ag.ls.length≤k∧a.ag.ls.length≤9223372036854775807) (bJ:a.aB.ls.length≤140737488355328∧a.ah.ls.length≤140737488355328∧a.ag.ls.length≤140737488355328) (hr:oD a o=r0):
    Calls v5 76 #[.agg (iA a.av a.aI a.eO a.aP a.dK a.fA a.aU a.ax a.aX a.eQ a.bG a.aF a.eG a.cZ a.xN a.fe a.cu.aJ a.cu.aR f z g h B i j C k).toArray,vI o] w (dA fun v w'=>v= .bool r0∧Own w D w' []):=by
 subst N P R
 have aK:=aA r
 refine cb Tryz.func76 ?_
 refine sr ?_
 refine dn (gK a f g h i j k) 42 H ?_
 intro d bK b
 refine An rfl (Ik (sr (Mn rfl (bo (sr (Kz (.bool (decide (o=2))) (An rfl ?_)))))))
 by_cases e:o=2
 refine jT (dT e) (sr (Kz (vP d 0) (Lz (vI a.av) b 0 C2 (Kz (vP d 4) (Lz (vI a.dK) b 0 C2 ?_)))))
 obtain⟨U,E⟩:∃ q,tJ a.av a.dK=q:=⟨_,rfl⟩
 obtain⟨bL,V,bv,W,bz⟩:=Iu b
 refine cl Tryz.call113 (xV _ _ a.av a.dK U V E) ?_
 rintro _ bM ⟨rfl,X⟩
 have aR:=W _ _ X
 refine An rfl (rt (bR (tR (rs ?_))))
 have aS:=aR.pk []
 obtain rfl:_=U:=hr.symm.trans (et (ip e) (ae E))
 exact⟨rfl,aS⟩
 refine jF (dF e) (sr (Kz (.bool (decide (o=3))) (An rfl ?_)))
 by_cases l:o=3
 refine jT (dT l) (sr (Kz (vP d 0) (Lz (vI a.av) b 0 C2 (Kz (vP d 19) (Lz (.slice h a.ah.ls.length i) b 0 Tryz.isAgg40 ?_)))))
 obtain⟨Y,F⟩:∃ q,oW a.av a.ah.ls=q:=⟨_,rfl⟩
 obtain⟨bO,Z,G,aa,bA⟩:=Iu b
 refine cl Tryz.call114 (vT _ _ a.av h a.ah.ls.length i n a.ah.ls Y Z r (G _ Q) (fun x9 h9=>⟨G _ (s x9 h9).1,(s x9 h9).2⟩) rfl e6 F) ?_
 rintro _ bP ⟨rfl,ag⟩
 have aT:=aa _ _ ag
 refine An rfl (rt (bR (tR (rs ?_))))
 have aU:=aT.pk []
 obtain rfl:_=Y:=hr.symm.trans (et (iN e) (et (ip l) (ae F)))
 exact⟨rfl,aU⟩
 refine jF (dF l) (sr (Kz (.bool (decide (o=7))) (An rfl ?_)))
 by_cases m:o=7
 refine jT (dT m) (sr (Kz (vP d 0) (Lz (vI a.av) b 0 C2 (Kz (vP d 18) (Lz (.slice f a.aB.ls.length g) b 0 Tryz.isAgg39 ?_)))))
 obtain⟨ah,I⟩:∃ q,p8 a.av a.aB.ls=q:=⟨_,rfl⟩
 obtain⟨bQ,ai,aj,ak,bD⟩:=Iu b
 refine cl Tryz.call115 (yI _ _ a.av f a.aB.ls.length g a.aB.ls ah ai (aj _ O) rfl e6 I) ?_
 rintro _ bS ⟨rfl,au⟩
 have aV:=ak _ _ au
 refine An rfl (rt (bR (tR (rs ?_))))
 have aW:=aV.pk []
 obtain rfl:_=ah:=hr.symm.trans (et (iN e) (et (iN l) (et (ip m) (ae I))))
 exact⟨rfl,aW⟩
 refine jF (dF m) (sr (Kz (.bool (decide (o=11))) (An rfl ?_)))
 by_cases p:o=11
 refine jT (dT p) (sr (Kz (vP d 20) (Lz (.slice j a.ag.ls.length k) b 0 Tryz.isAgg29 ?_)))
 obtain⟨u,J⟩:∃ q,jc a.ag.ls=q:=⟨_,rfl⟩
 obtain⟨bT,av,ax,ay,bE⟩:=Iu b
 refine cl Tryz.call72 (qY _ _ j a.ag.ls.length k a.ag.ls u av (ax _ S) rfl e6 J) ?_
 rintro _ bU ⟨rfl,az,K⟩
 have aX:=ay _ _ az
 replace K: ¬ (u=0)∨(1≤a.ag.ls.length∧a.ag.ls.length≤6):=K
 refine Kz (.bool (decide (u=0))) (An rfl (rt (bR (tR (rs ?_)))))
 have aZ:=aX.pk []
 obtain rfl:_=decide (u=0):=hr.symm.trans (et (iN e) (et (iN l) (et (iN m) (et (ip p) (ae J)))))
 exact⟨rfl,aZ⟩
 refine jF (dF p) (sr (Kz (.bool (decide (o=12))) (An rfl ?_)))
 by_cases t:o=12
 refine jT (dT t) (sr (Kz (vP d 5) (Lz (vI a.fA) b 0 C2 ?_)))
 obtain⟨aB,L⟩:∃ q,ll 1 a.fA=q:=⟨_,rfl⟩
 obtain⟨bV,aC,bF,aD,bG⟩:=Iu b
 refine cl Tryz.call50 (qJ _ _ 1 a.fA aB aC L) ?_
 rintro _ bX ⟨rfl,aF⟩
 have bf:=aD _ _ aF
 refine An rfl (rt (bR (tR (rs ?_))))
 have bg:=bf.pk []
 obtain rfl:_=aB:=hr.symm.trans (et (iN e) (et (iN l) (et (iN m) (et (iN p) (et (ip t) (ae L))))))
 exact⟨rfl,bg⟩
 refine jF (dF t) (sr (Kz (.bool (decide (o=13))) (An rfl ?_)))
 by_cases y:o=13
 refine jT (dT y) (sr (Kz (vP d 16) (La (aL.cells a.cu) b 0 N0 M9 ?_)))
 obtain⟨T,M⟩:∃ q,iB a.cu=q:=⟨_,rfl⟩
 obtain⟨bY,aG,bH,aI,bI⟩:=Iu b
 refine cl Tryz.call116 (qf _ _ a.cu T aG M) ?_
 rintro _ bZ ⟨rfl,aJ⟩
 have bi:=aI _ _ aJ
 refine Kz (.bool (decide (T=0))) (An rfl (rt (bR (tR (rs ?_)))))
 have bn:=bi.pk []
 obtain rfl:_=decide (T=0):=hr.symm.trans (et (iN e) (et (iN l) (et (iN m) (et (iN p) (et (iN t) (et (ip y) (ae M)))))))
 exact⟨rfl,bn⟩
 refine jF (dF y) (IU (bN (Iq (sr (An rfl (rt (rs ?_)))))))
 have bq:=b.pk []
 obtain rfl:_=true:=hr.symm.trans (et (iN e) (et (iN l) (et (iN m) (et (iN p) (et (iN t) (iN y))))))
 exact⟨rfl,bq⟩
def jU (d:bW):List Int→Unit ⊕ Bool
  | []=>B7 ()
  | b::c=>bnd (oD d b) fun a=>if a=true then jU d c else B9 (false)
def p9 (a:bW) (l1:List Int):Bool:=
 lp (jU a l1) fun _=>true
theorem yJ (w D) (a:bW) (h z d j B f m l C g R n1 c1 l1 r0) (H:Own w D w []) (G:z=a.aB.ls.length) (I:Ro w D fun w'=>aY w' 6 h a.aB.ls.length (q4 aN.cells a.aB.ls)) (ah:a.aB.ls.length≤d∧a.aB.ls.length≤9223372036854775807) (p:s5 af.abs m=a.ah.ls) (J:B=a.ah.ls.length) (K:Ro w D fun w'=>aY w' 3 j a.ah.ls.length (q4 af.cells m)) (ai:a.ah.ls.length≤f∧a.ah.ls.length≤9223372036854775807) (r:∀ x ∈ m,Ro w D (fun w'=>aY w' 2 x.aj.A x.aj.ls.length (q4 aH.cells x.aj.ls))∧(x.aj.ls.length≤x.aj.c∧x.aj.ls.length≤9223372036854775807)) (L:C=a.ag.ls.length) (M:Ro w D fun w'=>aY w' 2 l a.ag.ls.length (q4 aM.cells a.ag.ls)) (aj:a.ag.ls.length≤g∧a.ag.ls.length≤9223372036854775807) (N:Ro w D fun w'=>aY w' 1 R n1 (q4 (eI .i64) l1)) (ak:n1=l1.length) (aJ:l1.length *8≤211106232532992) (aK:a.aB.ls.length≤140737488355328∧a.ah.ls.length≤140737488355328∧a.ag.ls.length≤140737488355328) (hr:p9 a l1=r0):
    Calls v5 53 #[.agg (iA a.av a.aI a.eO a.aP a.dK a.fA a.aU a.ax a.aX a.eQ a.bG a.aF a.eG a.cZ a.xN a.fe a.cu.aJ a.cu.aR h z d j B f l C g).toArray, .slice R n1 c1] w (dA fun v w'=>v= .bool r0∧Own w D w' []):=by
 subst ak G J L
 have Z:=aA p
 refine cb Tryz.func53 ?_
 refine sr ?_
 refine dn (gK a h d j f l g) 42 H ?_
 intro O aL au
 refine An rfl (Ik (sr (Mz rfl (Kz (vJ l1.length) (Mn rfl (bo ?_))))))
 have av:=au.pf []
 obtain⟨ax,s⟩:=lF fun (b:Nat) w'=>Own w D w' [blk O (gK a h d j f l g) 42]∧b≤l1.length∧jU a l1=jU a (r4 b l1)
 refine C1 (fun i:Nat=> [(4, .bool false),(9,vJ i),(8,vJ l1.length),(7, .slice R l1.length c1),(2,vP O 0)]) ax (fun i=>l1.length - i) 0 ⟨rfl,rfl,rfl,rfl,rfl,trivial⟩ (s.2 ⟨av,e6,rfl⟩) ?_
 rintro b aO S
 obtain⟨o,aD,t⟩:=s.1 S
 refine sr (Kz (.bool (decide (((b:Nat):Int) < ((l1.length:Nat):Int)))) (nt (Ik ?_)))
 by_cases T:((b:Nat):Int) < ((l1.length:Nat):Int)
 obtain⟨P,E⟩:=dh (ls:=l1) (i:=b) iL f2 (o.ro N) e9
 have F:=drop_at E
 refine jT (dT T) (sk (Ik (bo (sr (fw (.pointer (some ⟨ab R,ao R+b *1,none⟩)) (Iz (EH) rfl rfl ((o.ro N).addr (i:=b) e6) e6) (fw (vI P) (IB rfl (bJ.one Tryz.isAgg154 (((o.ro N).elem iL E f2).at_ (k:=0) rfl))) (Ar rfl (La (gK a h d j f l g) o 0 Tryz.isAgg42 Tryz.sizeOf42 (Mz rfl ?_)))))))))
 obtain⟨Q,u⟩:∃ q,oD a P=q:=⟨_,rfl⟩
 obtain⟨aP,U,n,V,aF⟩:=Iu o
 refine cl Tryz.call76 (Bn _ _ a h a.aB.ls.length d j a.ah.ls.length f m l a.ag.ls.length g P Q U rfl (n _ I) (show a.aB.ls.length≤d∧a.aB.ls.length≤9223372036854775807 from by omega) p rfl (n _ K) (show a.ah.ls.length≤f∧a.ah.ls.length≤9223372036854775807 from by omega) (fun x9 h9=>⟨n _ (r x9 h9).1,(r x9 h9).2⟩) rfl (n _ M) (show a.ag.ls.length≤g∧a.ag.ls.length≤9223372036854775807 from by omega) i3 u) ?_
 rintro _ aQ ⟨rfl,W⟩
 have X:=V _ _ W
 refine Kz (.bool (!Q)) (nt ?_)
 rcases Ls (Q) with y | y
 refine jF (cn y) (IU (bN (Iq (Il (fw (vJ (b+1)) (Ir (e:=C3.wrap (((b:Nat):Int)+1)) yk f0) (Mz rfl (C4 ?_)))))))
 have ay:=X.pf []
 exact II (b+1) ⟨rfl,rfl,rfl,rfl,rfl,trivial⟩ (s.2 ⟨ay,e6,et (t) (et (congrArg (fun q=>jU a q) F) (et (ae u) (ip y)))⟩) (by show l1.length - (b+1) < l1.length - b; omega)
 refine jT (cn y) (sr (An rfl (rt (bR (tR (tR (bR (tR (rs ?_)))))))))
 have az:=X.pk []
 obtain rfl:_=false:=hr.symm.trans (gL (et (t) (et (congrArg (fun q=>jU a q) F) (et (ae u) (fP y)))))
 exact⟨rfl,az⟩
 refine jF (dF T) (C5 (IC ?_))
 have Y:jU a l1=B7 ():=et (t) (et (congrArg (fun q=>jU a q) (dZ (ls:=l1) (i:=b) e6)) rfl)
 refine IC (IK (Iq (sr (An rfl (rt (rs ?_))))))
 have aB:=o.pk []
 obtain rfl:_=true:=hr.symm.trans (mF Y)
 exact⟨rfl,aB⟩
def qK (a:bW):Bool:=
 if((bY (bY (bY (bY (bY (bY (bY (bY a.aU a.ax) a.aX) a.eQ) a.bG) a.aF) a.eG) a.cZ) a.xN:Nat):Int)=0 then if(((a.aB.ls.length+a.ah.ls.length)+a.ag.ls.length:Nat):Int)=0 then if a.aP=0 then if a.dK=0 then if a.fA=0 then if a.fe=true then false else decide ((a.cu.aJ=([]))∧(a.cu.aR=([]))) else false else false else false else false else false
theorem zu (w D) (a:bW) (l s m n t o r p y q V) (H:Own w D w []) (z:s=a.aB.ls.length) (G:Ro w D fun w'=>aY w' 6 l a.aB.ls.length (q4 aN.cells a.aB.ls)) (I:a.aB.ls.length≤m∧a.aB.ls.length≤9223372036854775807) (B:s5 af.abs r=a.ah.ls) (C:t=a.ah.ls.length) (J:Ro w D fun w'=>aY w' 3 n a.ah.ls.length (q4 af.cells r)) (K:a.ah.ls.length≤o∧a.ah.ls.length≤9223372036854775807) (L:∀ x ∈ r,Ro w D (fun w'=>aY w' 2 x.aj.A x.aj.ls.length (q4 aH.cells x.aj.ls))∧(x.aj.ls.length≤x.aj.c∧x.aj.ls.length≤9223372036854775807)) (E:y=a.ag.ls.length) (M:Ro w D fun w'=>aY w' 2 p a.ag.ls.length (q4 aM.cells a.ag.ls)) (N:a.ag.ls.length≤q∧a.ag.ls.length≤9223372036854775807) (ai:a.aB.ls.length≤140737488355328∧a.ah.ls.length≤140737488355328∧a.ag.ls.length≤140737488355328) (hr:qK a=V):
    Calls v5 51 #[.agg (iA a.av a.aI a.eO a.aP a.dK a.fA a.aU a.ax a.aX a.eQ a.bG a.aF a.eG a.cZ a.xN a.fe a.cu.aJ a.cu.aR l s m n t o p y q).toArray] w (dA fun v w'=>v= .bool V∧Own w D w' []):=by
 subst z C E
 have F:=aA B
 refine cb Tryz.func51 ?_
 refine sr ?_
 refine dn (gK a l m n o p q) 42 H ?_
 intro d aj b
 refine Ar rfl (Kz (vP d 6) (Lz (vU a.aU) b 0 D2 (Kz (vP d 7) (Lz (vU a.ax) b 0 D2 ?_))))
 have W:bY a.aU a.ax≤18446744073709551615:=pg _ _
 refine fw (vU (bY a.aU a.ax)) (Ir (e:=C7.wrap (((BitVec.ofInt 64 ((a.aU:Nat):Int) ||| BitVec.ofInt 64 ((a.ax:Nat):Int)).toNat:Nat):Int)) yk (fB _)) (Kz (vP d 8) (Lz (vU a.aX) b 0 D2 ?_))
 have X:bY (bY a.aU a.ax) a.aX≤18446744073709551615:=pg _ _
 refine fw (vU (bY (bY a.aU a.ax) a.aX)) (Ir (e:=C7.wrap (((BitVec.ofInt 64 ((bY a.aU a.ax:Nat):Int) ||| BitVec.ofInt 64 ((a.aX:Nat):Int)).toNat:Nat):Int)) yk (fB _)) (Kz (vP d 9) (Lz (vU a.eQ) b 0 D2 ?_))
 have Y:bY (bY (bY a.aU a.ax) a.aX) a.eQ≤18446744073709551615:=pg _ _
 refine fw (.int .u64 ((bY (bY (bY a.aU a.ax) a.aX) a.eQ:Nat):Int)) (Ir (e:=C7.wrap (((BitVec.ofInt 64 ((bY (bY a.aU a.ax) a.aX:Nat):Int) ||| BitVec.ofInt 64 ((a.eQ:Nat):Int)).toNat:Nat):Int)) yk (fB _)) (Kz (vP d 10) (Lz (vU a.bG) b 0 D2 ?_))
 have Z:bY (bY (bY (bY a.aU a.ax) a.aX) a.eQ) a.bG≤18446744073709551615:=pg _ _
 refine fw (.int .u64 ((bY (bY (bY (bY a.aU a.ax) a.aX) a.eQ) a.bG:Nat):Int)) (Ir (e:=C7.wrap (((BitVec.ofInt 64 ((bY (bY (bY a.aU a.ax) a.aX) a.eQ:Nat):Int) ||| BitVec.ofInt 64 ((a.bG:Nat):Int)).toNat:Nat):Int)) yk (fB _)) (Kz (vP d 11) (Lz (vU a.aF) b 0 D2 ?_))
 have aa:bY (bY (bY (bY (bY a.aU a.ax) a.aX) a.eQ) a.bG) a.aF≤18446744073709551615:=pg _ _
 refine fw (.int .u64 ((bY (bY (bY (bY (bY a.aU a.ax) a.aX) a.eQ) a.bG) a.aF:Nat):Int)) (Ir (e:=C7.wrap (((BitVec.ofInt 64 ((bY (bY (bY (bY a.aU a.ax) a.aX) a.eQ) a.bG:Nat):Int) ||| BitVec.ofInt 64 ((a.aF:Nat):Int)).toNat:Nat):Int)) yk (fB _)) (Kz (vP d 12) (Lz (vU a.eG) b 0 D2 ?_))
 have ae:bY (bY (bY (bY (bY (bY a.aU a.ax) a.aX) a.eQ) a.bG) a.aF) a.eG≤18446744073709551615:=pg _ _
 refine fw (.int .u64 ((bY (bY (bY (bY (bY (bY a.aU a.ax) a.aX) a.eQ) a.bG) a.aF) a.eG:Nat):Int)) (Ir (e:=C7.wrap (((BitVec.ofInt 64 ((bY (bY (bY (bY (bY a.aU a.ax) a.aX) a.eQ) a.bG) a.aF:Nat):Int) ||| BitVec.ofInt 64 ((a.eG:Nat):Int)).toNat:Nat):Int)) yk (fB _)) (Kz (vP d 13) (Lz (vU a.cZ) b 0 D2 ?_))
 have ag:bY (bY (bY (bY (bY (bY (bY a.aU a.ax) a.aX) a.eQ) a.bG) a.aF) a.eG) a.cZ≤18446744073709551615:=pg _ _
 refine fw (.int .u64 ((bY (bY (bY (bY (bY (bY (bY a.aU a.ax) a.aX) a.eQ) a.bG) a.aF) a.eG) a.cZ:Nat):Int)) (Ir (e:=C7.wrap (((BitVec.ofInt 64 ((bY (bY (bY (bY (bY (bY a.aU a.ax) a.aX) a.eQ) a.bG) a.aF) a.eG:Nat):Int) ||| BitVec.ofInt 64 ((a.cZ:Nat):Int)).toNat:Nat):Int)) yk (fB _)) (Kz (vP d 14) (Lz (vU a.xN) b 0 D2 ?_))
 have ah:bY (bY (bY (bY (bY (bY (bY (bY a.aU a.ax) a.aX) a.eQ) a.bG) a.aF) a.eG) a.cZ) a.xN≤18446744073709551615:=pg _ _
 refine fw (.int .u64 ((bY (bY (bY (bY (bY (bY (bY (bY a.aU a.ax) a.aX) a.eQ) a.bG) a.aF) a.eG) a.cZ) a.xN:Nat):Int)) (Ir (e:=C7.wrap (((BitVec.ofInt 64 ((bY (bY (bY (bY (bY (bY (bY a.aU a.ax) a.aX) a.eQ) a.bG) a.aF) a.eG) a.cZ:Nat):Int) ||| BitVec.ofInt 64 ((a.xN:Nat):Int)).toNat:Nat):Int)) yk (fB _)) (Ar rfl (Kz (vP d 18) (Lz (.slice l a.aB.ls.length m) b 0 Tryz.isAgg39 (Kz (vJ a.aB.ls.length) (Kz (vP d 19) (Lz (.slice n a.ah.ls.length o) b 0 Tryz.isAgg40 (Kz (vJ a.ah.ls.length) (fw (vJ (a.aB.ls.length+a.ah.ls.length)) (Ir (e:=C3.wrap (((a.aB.ls.length:Nat):Int)+((a.ah.ls.length:Nat):Int))) yk f0) (Kz (vP d 20) (Lz (.slice p a.ag.ls.length q) b 0 Tryz.isAgg29 (Kz (vJ a.ag.ls.length) (fw (vJ ((a.aB.ls.length+a.ah.ls.length)+a.ag.ls.length)) (Ir (e:=C3.wrap (((a.aB.ls.length+a.ah.ls.length:Nat):Int)+((a.ag.ls.length:Nat):Int))) yk f0) (Ar rfl (Mz rfl (Kz (.bool (decide (((bY (bY (bY (bY (bY (bY (bY (bY a.aU a.ax) a.aX) a.eQ) a.bG) a.aF) a.eG) a.cZ) a.xN:Nat):Int)=0))) (Mz rfl ?_))))))))))))))))
 by_cases g:((bY (bY (bY (bY (bY (bY (bY (bY a.aU a.ax) a.aX) a.eQ) a.bG) a.aF) a.eG) a.cZ) a.xN:Nat):Int)=0
 refine gw (vJ ((a.aB.ls.length+a.ah.ls.length)+a.ag.ls.length)) (dT g) (IA rfl) (Gz (.bool (decide ((((a.aB.ls.length+a.ah.ls.length)+a.ag.ls.length:Nat):Int)=0))) (dT g) (fw (.bool (decide ((((a.aB.ls.length+a.ah.ls.length)+a.ag.ls.length:Nat):Int)=0))) (Iw rfl (dT g) rfl) (Mz rfl ?_)))
 by_cases f:(((a.aB.ls.length+a.ah.ls.length)+a.ag.ls.length:Nat):Int)=0
 refine Gz (vP d 3) (dT f) (Gl (vI a.aP) (dT f) b 0 C2 (Gz (.bool (decide (a.aP=0))) (dT f) (fw (.bool (decide (a.aP=0))) (Iw rfl (dT f) rfl) (Mz rfl ?_))))
 by_cases h:a.aP=0
 refine Gz (vP d 4) (dT h) (Gl (vI a.dK) (dT h) b 0 C2 (Gz (.bool (decide (a.dK=0))) (dT h) (fw (.bool (decide (a.dK=0))) (Iw rfl (dT h) rfl) (Mz rfl ?_))))
 by_cases j:a.dK=0
 refine Gz (vP d 5) (dT j) (Gl (vI a.fA) (dT j) b 0 C2 (Gz (.bool (decide (a.fA=0))) (dT j) (fw (.bool (decide (a.fA=0))) (Iw rfl (dT j) rfl) (Mz rfl ?_))))
 by_cases k:a.fA=0
 refine Gz (vP d 15) (dT k) (Gl (.bool a.fe) (dT k) b 0 N6 (Gz (.bool (!a.fe)) (dT k) (fw (.bool (!a.fe)) (Iw rfl (dT k) rfl) (Mz rfl ?_))))
 rcases Ls (a.fe) with i | i
 refine Sz (cn i) (Sz (cn i) (Sz (cn i) (Sz (cn i) (fw (.bool false) (Io rfl (cn i) rfl) (An rfl (rt (rs ?_)))))))
 have O:=b.pk []
 obtain rfl:_=false:=hr.symm.trans (et (ip g) (et (ip f) (et (ip h) (et (ip j) (et (ip k) (ip i))))))
 exact⟨rfl,O⟩
 refine Gz (vP d 16) (cn i) (Ga (aL.cells a.cu) (cn i) b 0 N0 M9 (Gz (.agg #[.string ⟨v6 ([])⟩, .string ⟨v6 ([])⟩]) (cn i) (gw (.bool (decide ((a.cu.aJ=([]))∧(a.cu.aR=([]))))) (cn i) (KQ rfl rfl e7 rfl (iQ.struct Tryz.underlying38 e7 (iC.dec (iC.cons (u:= .string ⟨v6 a.cu.aJ⟩) (v:= .string ⟨v6 ([])⟩) f2 (fun _=>by kernel_rfl) (fun _=>by kernel_rfl) (iQ.string v9) (iC.cons (u:= .string ⟨v6 a.cu.aR⟩) (v:= .string ⟨v6 ([])⟩) f2 (fun _=>by kernel_rfl) (fun _=>by kernel_rfl) (iQ.string v9) (iC.nil.up (Lp _)))) ((congrArg (decide (a.cu.aJ=([])) && ·) o9).trans gG)))) (fw (.bool (decide ((a.cu.aJ=([]))∧(a.cu.aR=([]))))) (Iw rfl (cn i) rfl) (An rfl (rt (rs ?_)))))))
 have P:=b.pk []
 obtain rfl:_=decide ((a.cu.aJ=([]))∧(a.cu.aR=([]))):=hr.symm.trans (et (ip g) (et (ip f) (et (ip h) (et (ip j) (et (ip k) (fP i))))))
 exact⟨rfl,P⟩
 refine Sz (dF k) (Sz (dF k) (Sz (dF k) (fw (.bool false) (Io rfl (dF k) rfl) (Mz rfl (Sz rfl (Sz rfl (Sz rfl (Sz rfl (fw (.bool false) (Io rfl rfl rfl) (An rfl (rt (rs ?_))))))))))))
 have Q:=b.pk []
 obtain rfl:_=false:=hr.symm.trans (et (ip g) (et (ip f) (et (ip h) (et (ip j) (iN k)))))
 exact⟨rfl,Q⟩
 refine Sz (dF j) (Sz (dF j) (Sz (dF j) (fw (.bool false) (Io rfl (dF j) rfl) (Mz rfl (Sz rfl (Sz rfl (Sz rfl (fw (.bool false) (Io rfl rfl rfl) (Mz rfl (Sz rfl (Sz rfl (Sz rfl (Sz rfl (fw (.bool false) (Io rfl rfl rfl) (An rfl (rt (rs ?_)))))))))))))))))
 have R:=b.pk []
 obtain rfl:_=false:=hr.symm.trans (et (ip g) (et (ip f) (et (ip h) (iN j))))
 exact⟨rfl,R⟩
 refine Sz (dF h) (Sz (dF h) (Sz (dF h) (fw (.bool false) (Io rfl (dF h) rfl) (Mz rfl (Sz rfl (Sz rfl (Sz rfl (fw (.bool false) (Io rfl rfl rfl) (Mz rfl (Sz rfl (Sz rfl (Sz rfl (fw (.bool false) (Io rfl rfl rfl) (Mz rfl (Sz rfl (Sz rfl (Sz rfl (Sz rfl (fw (.bool false) (Io rfl rfl rfl) (An rfl (rt (rs ?_))))))))))))))))))))))
 have S:=b.pk []
 obtain rfl:_=false:=hr.symm.trans (et (ip g) (et (ip f) (iN h)))
 exact⟨rfl,S⟩
 refine Sz (dF f) (Sz (dF f) (Sz (dF f) (fw (.bool false) (Io rfl (dF f) rfl) (Mz rfl (Sz rfl (Sz rfl (Sz rfl (fw (.bool false) (Io rfl rfl rfl) (Mz rfl (Sz rfl (Sz rfl (Sz rfl (fw (.bool false) (Io rfl rfl rfl) (Mz rfl (Sz rfl (Sz rfl (Sz rfl (fw (.bool false) (Io rfl rfl rfl) (Mz rfl (Sz rfl (Sz rfl (Sz rfl (Sz rfl (fw (.bool false) (Io rfl rfl rfl) (An rfl (rt (rs ?_)))))))))))))))))))))))))))
 have T:=b.pk []
 obtain rfl:_=false:=hr.symm.trans (et (ip g) (iN f))
 exact⟨rfl,T⟩
 refine Sz (dF g) (Sz (dF g) (fw (.bool false) (Io rfl (dF g) rfl) (Mz rfl (Sz rfl (Sz rfl (Sz rfl (fw (.bool false) (Io rfl rfl rfl) (Mz rfl (Sz rfl (Sz rfl (Sz rfl (fw (.bool false) (Io rfl rfl rfl) (Mz rfl (Sz rfl (Sz rfl (Sz rfl (fw (.bool false) (Io rfl rfl rfl) (Mz rfl (Sz rfl (Sz rfl (Sz rfl (fw (.bool false) (Io rfl rfl rfl) (Mz rfl (Sz rfl (Sz rfl (Sz rfl (Sz rfl (fw (.bool false) (Io rfl rfl rfl) (An rfl (rt (rs ?_)))))))))))))))))))))))))))))))
 have U:=b.pk []
 obtain rfl:_=false:=hr.symm.trans (iN g)
 exact⟨rfl,U⟩
end Go.Proofs.YtbkagebjhbphaaaGreat
