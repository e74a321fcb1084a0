/-
 wire: which messages may be.
-/
import Derived.Test.YtbkagebjhbphaaaGreatRa
namespace Go.Proofs.YtbkagebjhbphaaaGreat
open Int renaming toNat→D2
open IntKind renaming i64→C7,u64→D3
open List renaming drop→r6,flatMap→q6,map→s8,mem_of_getElem?→E0,toArray→y6
open Ll renaming mk→E4
open Sum renaming inl→C1,inr→C3
open _root_.Go.Proofs.Tryz renaming call112→K6,call139→M1,call158→L7,func158→K7,isAgg111→M0,isAgg128→K5,isAgg227→L8,isAgg231→K9,isAgg28→E1,isAgg3→C6,isAgg38→L6,isAgg4→M2,isAgg72→L4,isAgg9→C4,prog→y4,sizeOf128→K4,sizeOf231→L0,sizeOf244→K8,sizeOf38→L5,sizeOf72→L3,underlying3→B4,underlying72→L9,underlying9→B5
open WL renaming nil→D0
open Wp renaming exit→D1,loop→C5
set_option maxRecDepth 100000
open Go.RowKit
set_option linter.unusedVariables false
set_option linter.unusedSectionVars false
set_option linter.unusedSimpArgs false
def pU (a:Int):fZ × Bool:=
 if a≤0 then(fZ.mk 0 0 (E4 ([])),false) else if a ≥ 15 then(fZ.mk 0 0 (E4 ([])),false) else if((D2 a:Nat):Int)=1 then(fZ.mk 2 0 (E4 ([0,1,7])),true) else if((D2 a:Nat):Int)=2 then(fZ.mk 0 2 (E4 ([0,1,2,3])),true) else if((D2 a:Nat):Int)=3 then(fZ.mk 0 1 (E4 ([4,5,6,7])),true) else if((D2 a:Nat):Int)=4 then(fZ.mk 1 0 (E4 ([4,2,3])),true) else if((D2 a:Nat):Int)=5 then(fZ.mk 0 1 (E4 ([4,8])),true) else if((D2 a:Nat):Int)=6 then(fZ.mk 1 0 (E4 ([4])),true) else if((D2 a:Nat):Int)=7 then(fZ.mk 1 0 (E4 ([4])),true) else if((D2 a:Nat):Int)=8 then(fZ.mk 0 1 (E4 ([9,6,10,11])),true) else if((D2 a:Nat):Int)=9 then(fZ.mk 1 0 (E4 ([9])),true) else if((D2 a:Nat):Int)=10 then(fZ.mk 0 1 (E4 ([9,10,12,8,13])),true) else if((D2 a:Nat):Int)=11 then(fZ.mk 1 1 (E4 ([10,14,15,13,7])),true) else if((D2 a:Nat):Int)=12 then(fZ.mk 1 1 (E4 ([10,14,15])),true) else if((D2 a:Nat):Int)=13 then(fZ.mk 1 0 (E4 ([10])),true) else(fZ.mk 1 0 (E4 ([10])),true)
theorem xc (w D c) (r0:fZ) (r1) (H:Own w D w []) (hr:pU c=(r0,r1)):
    Calls y4 49 #[vI c] w (dR fun v w'=> ∃ O P,v= .tuple #[.agg #[vI r0.lX,vI r0.nC, .slice O r0.cK.ls.length P], .bool r1]∧Own w D w' [row O r0.cK.ls.length P (q6 (eI .i64) r0.cK.ls) 154 1]∧(r0.cK.ls.length≤5)):=by
 refine cb Tryz.func49 ?_
 refine sr ?_
 refine dM [vI 0,vI 0, .slice none 0 0] 128 H ?_
 intro cu cz bu
 refine Ar rfl ?_
 refine kL [vI 0,vI 1,vI 7] 154 1 3 bu ?_
 intro s cB ag
 replace ag:=Gs (y:=row s 3 3 (q6 (eI .i64) ([0,1,7])) 154 1) rfl ag
 refine Kz (.agg #[vI 2,vI 0, .slice s 3 3]) ?_
 refine kL [vI 0,vI 1,vI 2,vI 3] 154 1 4 ag ?_
 intro t cK ah
 replace ah:=Gs (y:=row t 4 4 (q6 (eI .i64) ([0,1,2,3])) 154 1) rfl ah
 refine Kz (.agg #[vI 0,vI 2, .slice t 4 4]) ?_
 refine kL [vI 4,vI 5,vI 6,vI 7] 154 1 4 ah ?_
 intro u cO ai
 replace ai:=Gs (y:=row u 4 4 (q6 (eI .i64) ([4,5,6,7])) 154 1) rfl ai
 refine Kz (.agg #[vI 0,vI 1, .slice u 4 4]) ?_
 refine kL [vI 4,vI 2,vI 3] 154 1 3 ai ?_
 intro x cZ aj
 replace aj:=Gs (y:=row x 3 3 (q6 (eI .i64) ([4,2,3])) 154 1) rfl aj
 refine Kz (.agg #[vI 1,vI 0, .slice x 3 3]) ?_
 refine kL [vI 4,vI 8] 154 1 2 aj ?_
 intro z df ak
 replace ak:=Gs (y:=row z 2 2 (q6 (eI .i64) ([4,8])) 154 1) rfl ak
 refine Kz (.agg #[vI 0,vI 1, .slice z 2 2]) ?_
 refine kL [vI 4] 154 1 1 ak ?_
 intro A dh au
 replace au:=Gs (y:=row A 1 1 (q6 (eI .i64) ([4])) 154 1) rfl au
 refine Kz (.agg #[vI 1,vI 0, .slice A 1 1]) ?_
 refine kL [vI 4] 154 1 1 au ?_
 intro B di av
 replace av:=Gs (y:=row B 1 1 (q6 (eI .i64) ([4])) 154 1) rfl av
 refine Kz (.agg #[vI 1,vI 0, .slice B 1 1]) ?_
 refine kL [vI 9,vI 6,vI 10,vI 11] 154 1 4 av ?_
 intro C dm ax
 replace ax:=Gs (y:=row C 4 4 (q6 (eI .i64) ([9,6,10,11])) 154 1) rfl ax
 refine Kz (.agg #[vI 0,vI 1, .slice C 4 4]) ?_
 refine kL [vI 9] 154 1 1 ax ?_
 intro E dn ay
 replace ay:=Gs (y:=row E 1 1 (q6 (eI .i64) ([9])) 154 1) rfl ay
 refine Kz (.agg #[vI 1,vI 0, .slice E 1 1]) ?_
 refine kL [vI 9,vI 10,vI 12,vI 8,vI 13] 154 1 5 ay ?_
 intro F dw az
 replace az:=Gs (y:=row F 5 5 (q6 (eI .i64) ([9,10,12,8,13])) 154 1) rfl az
 refine Kz (.agg #[vI 0,vI 1, .slice F 5 5]) ?_
 refine kL [vI 10,vI 14,vI 15,vI 13,vI 7] 154 1 5 az ?_
 intro G dx aA
 replace aA:=Gs (y:=row G 5 5 (q6 (eI .i64) ([10,14,15,13,7])) 154 1) rfl aA
 refine Kz (.agg #[vI 1,vI 1, .slice G 5 5]) ?_
 refine kL [vI 10,vI 14,vI 15] 154 1 3 aA ?_
 intro I dz aB
 replace aB:=Gs (y:=row I 3 3 (q6 (eI .i64) ([10,14,15])) 154 1) rfl aB
 refine Kz (.agg #[vI 1,vI 1, .slice I 3 3]) ?_
 refine kL [vI 10] 154 1 1 aB ?_
 intro J dA aC
 replace aC:=Gs (y:=row J 1 1 (q6 (eI .i64) ([10])) 154 1) rfl aC
 refine Kz (.agg #[vI 1,vI 0, .slice J 1 1]) ?_
 refine kL [vI 10] 154 1 1 aC ?_
 intro K dB aD
 replace aD:=Gs (y:=row K 1 1 (q6 (eI .i64) ([10])) 154 1) rfl aD
 refine Kz (.agg #[vI 1,vI 0, .slice K 1 1]) (Kz (.agg #[vI 0,vI 0, .slice none 0 0,vI 2,vI 0, .slice s 3 3,vI 0,vI 2, .slice t 4 4,vI 0,vI 1, .slice u 4 4,vI 1,vI 0, .slice x 3 3,vI 0,vI 1, .slice z 2 2,vI 1,vI 0, .slice A 1 1,vI 1,vI 0, .slice B 1 1,vI 0,vI 1, .slice C 4 4,vI 1,vI 0, .slice E 1 1,vI 0,vI 1, .slice F 5 5,vI 1,vI 1, .slice G 5 5,vI 1,vI 1, .slice I 3 3,vI 1,vI 0, .slice J 1 1,vI 1,vI 0, .slice K 1 1]) ?_)
 refine dM [vI 0,vI 0, .slice none 0 0,vI 0,vI 0, .slice none 0 0,vI 0,vI 0, .slice none 0 0,vI 0,vI 0, .slice none 0 0,vI 0,vI 0, .slice none 0 0,vI 0,vI 0, .slice none 0 0,vI 0,vI 0, .slice none 0 0,vI 0,vI 0, .slice none 0 0,vI 0,vI 0, .slice none 0 0,vI 0,vI 0, .slice none 0 0,vI 0,vI 0, .slice none 0 0,vI 0,vI 0, .slice none 0 0,vI 0,vI 0, .slice none 0 0,vI 0,vI 0, .slice none 0 0,vI 0,vI 0, .slice none 0 0] 155 aD ?_
 intro g dC bv
 refine dN [vI 0,vI 0, .slice none 0 0,vI 2,vI 0, .slice s 3 3,vI 0,vI 2, .slice t 4 4,vI 0,vI 1, .slice u 4 4,vI 1,vI 0, .slice x 3 3,vI 0,vI 1, .slice z 2 2,vI 1,vI 0, .slice A 1 1,vI 1,vI 0, .slice B 1 1,vI 0,vI 1, .slice C 4 4,vI 1,vI 0, .slice E 1 1,vI 0,vI 1, .slice F 5 5,vI 1,vI 1, .slice G 5 5,vI 1,vI 1, .slice I 3 3,vI 1,vI 0, .slice J 1 1,vI 1,vI 0, .slice K 1 1] 0 bv Tryz.sizeOf155 ?_
 intro dD a
 refine nt (FW (sr (Mz rfl (Kz (.bool (decide (c≤0))) (Mz rfl ?_)))))
 by_cases b:c≤0
 refine Sz (dT b) (Sz (dT b) (fw (.bool true) (Gd rfl (dT b) rfl) (nt (jt (sr (Kz (.agg #[vI 0,vI 0, .slice none 0 0]) ?_))))))
 have bz:=a.pf [15]
 refine dN [vI 0,vI 0, .slice none 0 0] 0 bz K4 ?_
 intro bA aF
 refine An rfl (rt (tR (Fin.res (kC (vs:= [.agg #[vI 0,vI 0, .slice none 0 0], .bool false]) rfl (dS.cell rfl (Gf (cs:= [vI 0,vI 0, .slice none 0 0]) K5 K4 ((aF.cls (i:=0) rfl).lit (k:=0) (m:=3) rfl)) (dS.tmp rfl dS.nil)) (JO rfl)) ?_)))
 have bB:Own w D bA (row none 0 0 (q6 (eI .i64) ([])) 154 1::_):=aF.free (fB 154 1)
 have bC:=bB.pk [0]
 obtain⟨rfl,rfl⟩:=gm (hr.symm.trans (show _=(fZ.mk 0 0 (E4 ([])),false) from ip b))
 exact⟨none,0,rfl,bC,i0⟩
 refine gw (vI c) (dF b) (F9 rfl) (Gz (.bool (decide (c ≥ 15))) (dF b) (fw (.bool (decide (c ≥ 15))) (FZ rfl (dF b) rfl) (nt ?_)))
 by_cases d:c ≥ 15
 refine jT (dT d) (sr (Kz (.agg #[vI 0,vI 0, .slice none 0 0]) ?_))
 have bD:=a.pf [15]
 refine dN [vI 0,vI 0, .slice none 0 0] 0 bD K4 ?_
 intro bE aG
 refine An rfl (rt (tR (Fin.res (kC (vs:= [.agg #[vI 0,vI 0, .slice none 0 0], .bool false]) rfl (dS.cell rfl (Gf (cs:= [vI 0,vI 0, .slice none 0 0]) K5 K4 ((aG.cls (i:=0) rfl).lit (k:=0) (m:=3) rfl)) (dS.tmp rfl dS.nil)) (JO rfl)) ?_)))
 have bF:Own w D bE (row none 0 0 (q6 (eI .i64) ([])) 154 1::_):=aG.free (fB 154 1)
 have bG:=bF.pk [0]
 obtain⟨rfl,rfl⟩:=gm (hr.symm.trans (show _=(fZ.mk 0 0 (E4 ([])),false) from et (iN b) (ip d)))
 exact⟨none,0,rfl,bG,i0⟩
 refine jF (dF d) (sk (sr (fw (vJ (D2 c)) (FX (e:=c) (F9 rfl) e6) ?_)))
 by_cases h:((D2 c:Nat):Int)=1
 refine fw (vP g 3) (by(try unfold vJ); rw [show ((D2 c:Nat):Int)=1 from by omega]; exact yk) (La ([vI 2,vI 0, .slice s 3 3]) a 0 K5 K4 ?_)
 have bH:=a.pf [15]
 refine dN [vI 2,vI 0, .slice s 3 3] 0 bH K4 ?_
 intro dE aH
 refine An rfl (rt (Fin.res (kC (vs:= [.agg #[vI 2,vI 0, .slice s 3 3], .bool true]) rfl (dS.cell rfl (Gf (cs:= [vI 2,vI 0, .slice s 3 3]) K5 K4 ((aH.cls (i:=0) rfl).lit (k:=0) (m:=3) rfl)) (dS.tmp rfl dS.nil)) (JO rfl)) ?_))
 have bI:=aH.pk [15]
 obtain⟨rfl,rfl⟩:=gm (hr.symm.trans (show _=(fZ.mk 2 0 (E4 ([0,1,7])),true) from et (iN b) (et (iN d) (ip h))))
 exact⟨s,3,rfl,bI,i0⟩
 by_cases l:((D2 c:Nat):Int)=2
 refine fw (vP g 6) (by(try unfold vJ); rw [show ((D2 c:Nat):Int)=2 from by omega]; exact yk) (La ([vI 0,vI 2, .slice t 4 4]) a 0 K5 K4 ?_)
 have bJ:=a.pf [15]
 refine dN [vI 0,vI 2, .slice t 4 4] 0 bJ K4 ?_
 intro dG aI
 refine An rfl (rt (Fin.res (kC (vs:= [.agg #[vI 0,vI 2, .slice t 4 4], .bool true]) rfl (dS.cell rfl (Gf (cs:= [vI 0,vI 2, .slice t 4 4]) K5 K4 ((aI.cls (i:=0) rfl).lit (k:=0) (m:=3) rfl)) (dS.tmp rfl dS.nil)) (JO rfl)) ?_))
 have bK:=aI.pk [14]
 obtain⟨rfl,rfl⟩:=gm (hr.symm.trans (show _=(fZ.mk 0 2 (E4 ([0,1,2,3])),true) from et (iN b) (et (iN d) (et (iN h) (ip l)))))
 exact⟨t,4,rfl,bK,i0⟩
 by_cases o:((D2 c:Nat):Int)=3
 refine fw (vP g 9) (by(try unfold vJ); rw [show ((D2 c:Nat):Int)=3 from by omega]; exact yk) (La ([vI 0,vI 1, .slice u 4 4]) a 0 K5 K4 ?_)
 have bL:=a.pf [15]
 refine dN [vI 0,vI 1, .slice u 4 4] 0 bL K4 ?_
 intro dH aJ
 refine An rfl (rt (Fin.res (kC (vs:= [.agg #[vI 0,vI 1, .slice u 4 4], .bool true]) rfl (dS.cell rfl (Gf (cs:= [vI 0,vI 1, .slice u 4 4]) K5 K4 ((aJ.cls (i:=0) rfl).lit (k:=0) (m:=3) rfl)) (dS.tmp rfl dS.nil)) (JO rfl)) ?_))
 have bM:=aJ.pk [13]
 obtain⟨rfl,rfl⟩:=gm (hr.symm.trans (show _=(fZ.mk 0 1 (E4 ([4,5,6,7])),true) from et (iN b) (et (iN d) (et (iN h) (et (iN l) (ip o))))))
 exact⟨u,4,rfl,bM,i0⟩
 by_cases p:((D2 c:Nat):Int)=4
 refine fw (vP g 12) (by(try unfold vJ); rw [show ((D2 c:Nat):Int)=4 from by omega]; exact yk) (La ([vI 1,vI 0, .slice x 3 3]) a 0 K5 K4 ?_)
 have bN:=a.pf [15]
 refine dN [vI 1,vI 0, .slice x 3 3] 0 bN K4 ?_
 intro bP Q
 refine An rfl (rt (Fin.res (kC (vs:= [.agg #[vI 1,vI 0, .slice x 3 3], .bool true]) rfl (dS.cell rfl (Gf (cs:= [vI 1,vI 0, .slice x 3 3]) K5 K4 ((Q.cls (i:=0) rfl).lit (k:=0) (m:=3) rfl)) (dS.tmp rfl dS.nil)) (JO rfl)) ?_))
 have aK:=Q.pk [12]
 obtain⟨rfl,rfl⟩:=gm (hr.symm.trans (show _=(fZ.mk 1 0 (E4 ([4,2,3])),true) from et (iN b) (et (iN d) (et (iN h) (et (iN l) (et (iN o) (ip p)))))))
 exact⟨x,3,rfl,aK,i0⟩
 by_cases f:((D2 c:Nat):Int)=5
 refine fw (vP g 15) (by(try unfold vJ); rw [show ((D2 c:Nat):Int)=5 from by omega]; exact yk) (La ([vI 0,vI 1, .slice z 2 2]) a 0 K5 K4 ?_)
 have aL:=a.pf [15]
 refine dN [vI 0,vI 1, .slice z 2 2] 0 aL K4 ?_
 intro bQ R
 refine An rfl (rt (Fin.res (kC (vs:= [.agg #[vI 0,vI 1, .slice z 2 2], .bool true]) rfl (dS.cell rfl (Gf (cs:= [vI 0,vI 1, .slice z 2 2]) K5 K4 ((R.cls (i:=0) rfl).lit (k:=0) (m:=3) rfl)) (dS.tmp rfl dS.nil)) (JO rfl)) ?_))
 have aM:=R.pk [11]
 obtain⟨rfl,rfl⟩:=gm (hr.symm.trans (show _=(fZ.mk 0 1 (E4 ([4,8])),true) from et (iN b) (et (iN d) (et (iN h) (et (iN l) (et (iN o) (et (iN p) (ip f))))))))
 exact⟨z,2,rfl,aM,i0⟩
 by_cases j:((D2 c:Nat):Int)=6
 refine fw (vP g 18) (by(try unfold vJ); rw [show ((D2 c:Nat):Int)=6 from by omega]; exact yk) (La ([vI 1,vI 0, .slice A 1 1]) a 0 K5 K4 ?_)
 have aN:=a.pf [15]
 refine dN [vI 1,vI 0, .slice A 1 1] 0 aN K4 ?_
 intro bR S
 refine An rfl (rt (Fin.res (kC (vs:= [.agg #[vI 1,vI 0, .slice A 1 1], .bool true]) rfl (dS.cell rfl (Gf (cs:= [vI 1,vI 0, .slice A 1 1]) K5 K4 ((S.cls (i:=0) rfl).lit (k:=0) (m:=3) rfl)) (dS.tmp rfl dS.nil)) (JO rfl)) ?_))
 have aO:=S.pk [10]
 obtain⟨rfl,rfl⟩:=gm (hr.symm.trans (show _=(fZ.mk 1 0 (E4 ([4])),true) from et (iN b) (et (iN d) (et (iN h) (et (iN l) (et (iN o) (et (iN p) (et (iN f) (ip j)))))))))
 exact⟨A,1,rfl,aO,i0⟩
 by_cases n:((D2 c:Nat):Int)=7
 refine fw (vP g 21) (by(try unfold vJ); rw [show ((D2 c:Nat):Int)=7 from by omega]; exact yk) (La ([vI 1,vI 0, .slice B 1 1]) a 0 K5 K4 ?_)
 have aP:=a.pf [15]
 refine dN [vI 1,vI 0, .slice B 1 1] 0 aP K4 ?_
 intro bS T
 refine An rfl (rt (Fin.res (kC (vs:= [.agg #[vI 1,vI 0, .slice B 1 1], .bool true]) rfl (dS.cell rfl (Gf (cs:= [vI 1,vI 0, .slice B 1 1]) K5 K4 ((T.cls (i:=0) rfl).lit (k:=0) (m:=3) rfl)) (dS.tmp rfl dS.nil)) (JO rfl)) ?_))
 have aQ:=T.pk [9]
 obtain⟨rfl,rfl⟩:=gm (hr.symm.trans (show _=(fZ.mk 1 0 (E4 ([4])),true) from et (iN b) (et (iN d) (et (iN h) (et (iN l) (et (iN o) (et (iN p) (et (iN f) (et (iN j) (ip n))))))))))
 exact⟨B,1,rfl,aQ,i0⟩
 by_cases q:((D2 c:Nat):Int)=8
 refine fw (vP g 24) (by(try unfold vJ); rw [show ((D2 c:Nat):Int)=8 from by omega]; exact yk) (La ([vI 0,vI 1, .slice C 4 4]) a 0 K5 K4 ?_)
 have aR:=a.pf [15]
 refine dN [vI 0,vI 1, .slice C 4 4] 0 aR K4 ?_
 intro bT U
 refine An rfl (rt (Fin.res (kC (vs:= [.agg #[vI 0,vI 1, .slice C 4 4], .bool true]) rfl (dS.cell rfl (Gf (cs:= [vI 0,vI 1, .slice C 4 4]) K5 K4 ((U.cls (i:=0) rfl).lit (k:=0) (m:=3) rfl)) (dS.tmp rfl dS.nil)) (JO rfl)) ?_))
 have aS:=U.pk [8]
 obtain⟨rfl,rfl⟩:=gm (hr.symm.trans (show _=(fZ.mk 0 1 (E4 ([9,6,10,11])),true) from et (iN b) (et (iN d) (et (iN h) (et (iN l) (et (iN o) (et (iN p) (et (iN f) (et (iN j) (et (iN n) (ip q)))))))))))
 exact⟨C,4,rfl,aS,i0⟩
 by_cases r:((D2 c:Nat):Int)=9
 refine fw (vP g 27) (by(try unfold vJ); rw [show ((D2 c:Nat):Int)=9 from by omega]; exact yk) (La ([vI 1,vI 0, .slice E 1 1]) a 0 K5 K4 ?_)
 have aT:=a.pf [15]
 refine dN [vI 1,vI 0, .slice E 1 1] 0 aT K4 ?_
 intro bU V
 refine An rfl (rt (Fin.res (kC (vs:= [.agg #[vI 1,vI 0, .slice E 1 1], .bool true]) rfl (dS.cell rfl (Gf (cs:= [vI 1,vI 0, .slice E 1 1]) K5 K4 ((V.cls (i:=0) rfl).lit (k:=0) (m:=3) rfl)) (dS.tmp rfl dS.nil)) (JO rfl)) ?_))
 have aU:=V.pk [7]
 obtain⟨rfl,rfl⟩:=gm (hr.symm.trans (show _=(fZ.mk 1 0 (E4 ([9])),true) from et (iN b) (et (iN d) (et (iN h) (et (iN l) (et (iN o) (et (iN p) (et (iN f) (et (iN j) (et (iN n) (et (iN q) (ip r))))))))))))
 exact⟨E,1,rfl,aU,i0⟩
 by_cases L:((D2 c:Nat):Int)=10
 refine fw (vP g 30) (by(try unfold vJ); rw [show ((D2 c:Nat):Int)=10 from by omega]; exact yk) (La ([vI 0,vI 1, .slice F 5 5]) a 0 K5 K4 ?_)
 have aV:=a.pf [15]
 refine dN [vI 0,vI 1, .slice F 5 5] 0 aV K4 ?_
 intro bV W
 refine An rfl (rt (Fin.res (kC (vs:= [.agg #[vI 0,vI 1, .slice F 5 5], .bool true]) rfl (dS.cell rfl (Gf (cs:= [vI 0,vI 1, .slice F 5 5]) K5 K4 ((W.cls (i:=0) rfl).lit (k:=0) (m:=3) rfl)) (dS.tmp rfl dS.nil)) (JO rfl)) ?_))
 have aW:=W.pk [6]
 obtain⟨rfl,rfl⟩:=gm (hr.symm.trans (show _=(fZ.mk 0 1 (E4 ([9,10,12,8,13])),true) from et (iN b) (et (iN d) (et (iN h) (et (iN l) (et (iN o) (et (iN p) (et (iN f) (et (iN j) (et (iN n) (et (iN q) (et (iN r) (ip L)))))))))))))
 exact⟨F,5,rfl,aW,i0⟩
 by_cases M:((D2 c:Nat):Int)=11
 refine fw (vP g 33) (by(try unfold vJ); rw [show ((D2 c:Nat):Int)=11 from by omega]; exact yk) (La ([vI 1,vI 1, .slice G 5 5]) a 0 K5 K4 ?_)
 have aX:=a.pf [15]
 refine dN [vI 1,vI 1, .slice G 5 5] 0 aX K4 ?_
 intro bW X
 refine An rfl (rt (Fin.res (kC (vs:= [.agg #[vI 1,vI 1, .slice G 5 5], .bool true]) rfl (dS.cell rfl (Gf (cs:= [vI 1,vI 1, .slice G 5 5]) K5 K4 ((X.cls (i:=0) rfl).lit (k:=0) (m:=3) rfl)) (dS.tmp rfl dS.nil)) (JO rfl)) ?_))
 have aY:=X.pk [5]
 obtain⟨rfl,rfl⟩:=gm (hr.symm.trans (show _=(fZ.mk 1 1 (E4 ([10,14,15,13,7])),true) from et (iN b) (et (iN d) (et (iN h) (et (iN l) (et (iN o) (et (iN p) (et (iN f) (et (iN j) (et (iN n) (et (iN q) (et (iN r) (et (iN L) (ip M))))))))))))))
 exact⟨G,5,rfl,aY,i0⟩
 by_cases N:((D2 c:Nat):Int)=12
 refine fw (vP g 36) (by(try unfold vJ); rw [show ((D2 c:Nat):Int)=12 from by omega]; exact yk) (La ([vI 1,vI 1, .slice I 3 3]) a 0 K5 K4 ?_)
 have aZ:=a.pf [15]
 refine dN [vI 1,vI 1, .slice I 3 3] 0 aZ K4 ?_
 intro bX Y
 refine An rfl (rt (Fin.res (kC (vs:= [.agg #[vI 1,vI 1, .slice I 3 3], .bool true]) rfl (dS.cell rfl (Gf (cs:= [vI 1,vI 1, .slice I 3 3]) K5 K4 ((Y.cls (i:=0) rfl).lit (k:=0) (m:=3) rfl)) (dS.tmp rfl dS.nil)) (JO rfl)) ?_))
 have bf:=Y.pk [4]
 obtain⟨rfl,rfl⟩:=gm (hr.symm.trans (show _=(fZ.mk 1 1 (E4 ([10,14,15])),true) from et (iN b) (et (iN d) (et (iN h) (et (iN l) (et (iN o) (et (iN p) (et (iN f) (et (iN j) (et (iN n) (et (iN q) (et (iN r) (et (iN L) (et (iN M) (ip N)))))))))))))))
 exact⟨I,3,rfl,bf,i0⟩
 by_cases Z:((D2 c:Nat):Int)=13
 refine fw (vP g 39) (by(try unfold vJ); rw [show ((D2 c:Nat):Int)=13 from by omega]; exact yk) (La ([vI 1,vI 0, .slice J 1 1]) a 0 K5 K4 ?_)
 have bg:=a.pf [15]
 refine dN [vI 1,vI 0, .slice J 1 1] 0 bg K4 ?_
 intro bY aa
 refine An rfl (rt (Fin.res (kC (vs:= [.agg #[vI 1,vI 0, .slice J 1 1], .bool true]) rfl (dS.cell rfl (Gf (cs:= [vI 1,vI 0, .slice J 1 1]) K5 K4 ((aa.cls (i:=0) rfl).lit (k:=0) (m:=3) rfl)) (dS.tmp rfl dS.nil)) (JO rfl)) ?_))
 have bi:=aa.pk [3]
 obtain⟨rfl,rfl⟩:=gm (hr.symm.trans (show _=(fZ.mk 1 0 (E4 ([10])),true) from et (iN b) (et (iN d) (et (iN h) (et (iN l) (et (iN o) (et (iN p) (et (iN f) (et (iN j) (et (iN n) (et (iN q) (et (iN r) (et (iN L) (et (iN M) (et (iN N) (ip Z))))))))))))))))
 exact⟨J,1,rfl,bi,i0⟩
 refine fw (vP g 42) (by(try unfold vJ); rw [show ((D2 c:Nat):Int)=14 from by omega]; exact yk) (La ([vI 1,vI 0, .slice K 1 1]) a 0 K5 K4 ?_)
 have bn:=a.pf [15]
 refine dN [vI 1,vI 0, .slice K 1 1] 0 bn K4 ?_
 intro bZ ae
 refine An rfl (rt (Fin.res (kC (vs:= [.agg #[vI 1,vI 0, .slice K 1 1], .bool true]) rfl (dS.cell rfl (Gf (cs:= [vI 1,vI 0, .slice K 1 1]) K5 K4 ((ae.cls (i:=0) rfl).lit (k:=0) (m:=3) rfl)) (dS.tmp rfl dS.nil)) (JO rfl)) ?_))
 have bq:=ae.pk [2]
 obtain⟨rfl,rfl⟩:=gm (hr.symm.trans (show _=(fZ.mk 1 0 (E4 ([10])),true) from et (iN b) (et (iN d) (et (iN h) (et (iN l) (et (iN o) (et (iN p) (et (iN f) (et (iN j) (et (iN n) (et (iN q) (et (iN r) (et (iN L) (et (iN M) (et (iN N) (iN Z))))))))))))))))
 exact⟨K,1,rfl,bq,i0⟩
def sO (b:Int) (a:Int):Bool:=
 if b=2 then if a=1 then true else decide (a=2) else if a=3 then true else if a=4 then true else decide (a=5)
theorem xI (w D f b l) (H:Own w D w []) (hr:sO f b=l):
    Calls y4 113 #[vI f,vI b] w (dR fun v w'=>v= .bool l∧Own w D w' []):=by
 refine cb Tryz.func113 ?_
 refine sr (An rfl (FW (sr (Mz rfl (Kz (.bool (decide (f=2))) (nt ?_))))))
 by_cases e:f=2
 refine jT (dT e) (sr (Mz rfl (Kz (.bool (decide (b=1))) (Mz rfl ?_))))
 by_cases c:b=1
 refine Sz (dT c) (Sz (dT c) (fw (.bool true) (Gd rfl (dT c) rfl) (An rfl (rt (tR (rs ?_))))))
 have g:=H.pk []
 obtain rfl:_=true:=hr.symm.trans (et (ip e) (ip c))
 exact⟨rfl,g⟩
 refine gw (vI b) (dF c) (F9 rfl) (Gz (.bool (decide (b=2))) (dF c) (fw (.bool (decide (b=2))) (FZ rfl (dF c) rfl) (An rfl (rt (tR (rs ?_))))))
 have h:=H.pk []
 obtain rfl:_=decide (b=2):=hr.symm.trans (et (ip e) (iN c))
 exact⟨rfl,h⟩
 refine jF (dF e) (sk (sr (Mz rfl (Kz (.bool (decide (b=3))) (Mz rfl ?_)))))
 by_cases a:b=3
 refine Sz (dT a) (Sz (dT a) (fw (.bool true) (Gd rfl (dT a) rfl) (Mz rfl (Sz rfl (Sz rfl (fw (.bool true) (Gd rfl rfl rfl) (An rfl (rt (rs ?_)))))))))
 have i:=H.pk []
 obtain rfl:_=true:=hr.symm.trans (et (iN e) (ip a))
 exact⟨rfl,i⟩
 refine gw (vI b) (dF a) (F9 rfl) (Gz (.bool (decide (b=4))) (dF a) (fw (.bool (decide (b=4))) (FZ rfl (dF a) rfl) (Mz rfl ?_)))
 by_cases d:b=4
 refine Sz (dT d) (Sz (dT d) (fw (.bool true) (Gd rfl (dT d) rfl) (An rfl (rt (rs ?_)))))
 have j:=H.pk []
 obtain rfl:_=true:=hr.symm.trans (et (iN e) (et (iN a) (ip d)))
 exact⟨rfl,j⟩
 refine gw (vI b) (dF d) (F9 rfl) (Gz (.bool (decide (b=5))) (dF d) (fw (.bool (decide (b=5))) (FZ rfl (dF d) rfl) (An rfl (rt (rs ?_)))))
 have k:=H.pk []
 obtain rfl:_=decide (b=5):=hr.symm.trans (et (iN e) (et (iN a) (iN d)))
 exact⟨rfl,k⟩
def gZ:List aI→Unit ⊕ Bool
  | []=>C1 ()
  | a::c=>bnd (gF a.bW) fun b=>if b=0 then if((a.aQ.length:Nat):Int) > 16 then C3 (false) else gZ c else C3 (false)
def gN:List aS→Unit ⊕ Bool
  | []=>C1 ()
  | a::b=>if((a.aQ.length:Nat):Int) > 16 then C3 (false) else if((a.aj.ls.length:Nat):Int) > 4 then C3 (false) else sK (gZ a.aj.ls) fun _=>gN b
def oM (a:Int) (l1:List aS):Bool:=
 bnd (if a=2 then 4 else 24) fun sJrJ=>if((l1.length:Nat):Int) > ((sJrJ:Nat):Int) then false else lp (gN l1) fun _=>true
theorem vK (w D S r n1 Q d1 l1 r0) (H:Own w D w []) (T:s8 ae.abs d1=l1) (R:Ro w D fun w'=>bA w' 3 r n1 (q6 ae.cells d1)) (J:∀ x ∈ d1,Ro w D (fun w'=>bA w' 2 x.aj.A x.aj.ls.length (q6 aI.cells x.aj.ls))∧(x.aj.ls.length≤x.aj.c∧x.aj.ls.length≤9223372036854775807)) (aB:n1=l1.length) (bu:l1.length≤9223372036854775807) (hr:oM S l1=r0):
    Calls y4 114 #[vI S, .slice r n1 Q] w (dR fun v w'=>v= .bool r0∧Own w D w' []):=by
 subst aB
 have aW:=az T
 refine cb Tryz.func114 ?_
 refine sr (Ar rfl (An rfl (FW (sr (Mz rfl (Kz (.bool (decide (S=2))) (nt ?_)))))))
 obtain⟨aC,B⟩:=mZ fun (n:Nat) w'=>Own w D w' []∧n≤9223372036854775807∧n ≥ 4∧n≤24∧(if S=2 then 4 else 24)=n
 refine GG (fun i:Nat=> [(5,vJ i),(4, .bool false),(1, .slice r l1.length Q)]) aC ?_ ?_
 by_cases K:S=2
 refine jT (dT K) (FV (Az rfl (D0 ?_)))
 have aD:=H.pk []
 exact Gv 4 ⟨rfl,rfl,rfl,trivial⟩ (B.2 ⟨aD,e6,e6,e6,ip K⟩)
 refine jF (dF K) (Gn ?_)
 have aF:=H.pk []
 exact Gv 24 ⟨rfl,rfl,rfl,trivial⟩ (B.2 ⟨aF,e6,e6,e6,iN K⟩)
 rintro n bv U
 obtain⟨V,aX,aY,aZ,k⟩:=B.1 U
 refine FW (sr (Mz rfl (Kz (vJ l1.length) (Mz rfl (Kz (.bool (decide (((l1.length:Nat):Int) > ((n:Nat):Int)))) (nt ?_))))))
 by_cases o:((l1.length:Nat):Int) > ((n:Nat):Int)
 refine jT (dT o) (sr (An rfl (rt (tR (rs ?_)))))
 have aG:=V.pk []
 obtain rfl:_=false:=hr.symm.trans (et (ai k) (ip o))
 exact⟨rfl,aG⟩
 refine jF (dF o) (sk (FW (sr (Mz rfl (Kz (vJ l1.length) (Mn rfl (bo ?_)))))))
 have aH:=V.pk []
 obtain⟨aJ,C⟩:=mZ fun (b:Nat) w'=>Own w D w' []∧b≤l1.length∧gN l1=gN (r6 b l1)
 refine C5 (fun i:Nat=> [(4, .bool false),(18,vJ i),(17,vJ l1.length),(16, .slice r l1.length Q)]) aJ (fun i=>l1.length - i) 0 ⟨rfl,rfl,rfl,rfl,trivial⟩ (C.2 ⟨aH,e6,rfl⟩) ?_
 rintro b bz W
 obtain⟨E,bf,l⟩:=C.1 W
 refine sr (Kz (.bool (decide (((b:Nat):Int) < ((l1.length:Nat):Int)))) (nt (FW ?_)))
 by_cases X:((b:Nat):Int) < ((l1.length:Nat):Int)
 obtain⟨a,m⟩:=dK (ls:=d1) (i:=b) ae.len f3 (E.ro R) e9
 have Y:=fo T m
 have bg:=(J _ (E0 m)).2
 have p:=drop_at Y
 refine jT (dT X) (sk (FW (bo (sr (fw (.pointer (some ⟨ab r,ao r+b *3,none⟩)) (F4 (rR) rfl rfl ((E.ro R).addr (i:=b) e6) e6) (fw (.agg (ae.cells a).toArray) (F7 rfl (Gf (cs:=(ae.cells a)) Tryz.isAgg149 Tryz.sizeOf149 ((E.ro R).elem ae.len m f3))) ?_))))))
 refine dM [.bool false, .string ⟨y6 ([])⟩, .slice none 0 0] 149 E ?_
 intro j bB aK
 refine dN (ae.cells a) 0 aK Tryz.sizeOf149 ?_
 intro bC u
 refine nt (FW (sr (Kz (vP j 1) (Lz (.string ⟨y6 a.aQ⟩) u 0 C4 (Kz (vJ a.aQ.length) (Kz (.bool (decide (((a.aQ.length:Nat):Int) > 16))) (Mz rfl ?_)))))))
 by_cases d:((a.aQ.length:Nat):Int) > 16
 refine Sz (dT d) (Sz (dT d) (Sz (dT d) (Sz (dT d) (fw (.bool true) (Gd rfl (dT d) rfl) (nt (jt (sr (An rfl (rt (tR (bR (tR (tR (bR (tR (rs ?_))))))))))))))))
 have aL:=u.pk []
 obtain rfl:_=false:=hr.symm.trans (et (ai k) (et (iN o) (jq (et (l) (et (congrArg (fun q=>gN q) p) (ip d))))))
 exact⟨rfl,aL⟩
 refine Gz (vP j 2) (dF d) (Gl (.slice a.aj.A a.aj.ls.length a.aj.c) (dF d) u 0 Tryz.isAgg147 (Gz (vJ a.aj.ls.length) (dF d) (Gz (.bool (decide (((a.aj.ls.length:Nat):Int) > 4))) (dF d) (fw (.bool (decide (((a.aj.ls.length:Nat):Int) > 4))) (FZ rfl (dF d) rfl) (nt ?_)))))
 by_cases y:((a.aj.ls.length:Nat):Int) > 4
 refine jT (dT y) (sr (An rfl (rt (tR (bR (tR (tR (bR (tR (rs ?_))))))))))
 have aM:=u.pk []
 obtain rfl:_=false:=hr.symm.trans (et (ai k) (et (iN o) (jq (et (l) (et (congrArg (fun q=>gN q) p) (et (iN d) (ip y)))))))
 exact⟨rfl,aM⟩
 refine jF (dF y) (sk (sr (Kz (vP j 2) (Lz (.slice a.aj.A a.aj.ls.length a.aj.c) u 0 Tryz.isAgg147 (Kz (vJ a.aj.ls.length) (Mn rfl (bo ?_)))))))
 have aN:=u.pf []
 obtain⟨aO,F⟩:=mZ fun (f:Nat) w'=>Own w D w' [blk j (ae.cells a) 149]∧f≤a.aj.ls.length∧gZ a.aj.ls=gZ (r6 f a.aj.ls)
 refine C5 (fun i:Nat=> [(4, .bool false),(35,vJ i),(34,vJ a.aj.ls.length),(33, .slice a.aj.A a.aj.ls.length a.aj.c),(32,vP j 2),(31, .bool (decide (((a.aj.ls.length:Nat):Int) > 4))),(30, .bool (decide (((a.aj.ls.length:Nat):Int) > 4))),(29,vJ a.aj.ls.length),(28, .slice a.aj.A a.aj.ls.length a.aj.c),(27,vP j 2),(26, .bool (decide (((a.aQ.length:Nat):Int) > 16))),(25, .bool (decide (((a.aQ.length:Nat):Int) > 16))),(24,vJ a.aQ.length),(23, .string ⟨y6 a.aQ⟩),(22,vP j 1),(7,vP j 0),(21, .agg (ae.cells a).toArray),(20, .pointer (some ⟨ab r,ao r+b *3,none⟩)),(19, .bool (decide (((b:Nat):Int) < ((l1.length:Nat):Int)))),(18,vJ b),(17,vJ l1.length),(16, .slice r l1.length Q)]) aO (fun i=>a.aj.ls.length - i) 0 ⟨rfl,rfl,rfl,rfl,rfl,rfl,rfl,rfl,rfl,rfl,rfl,rfl,rfl,rfl,rfl,rfl,rfl,rfl,rfl,rfl,rfl,rfl,trivial⟩ (F.2 ⟨aN,e6,rfl⟩) ?_
 rintro f bD Z
 obtain⟨G,bi,s⟩:=F.1 Z
 refine sr (Kz (.bool (decide (((f:Nat):Int) < ((a.aj.ls.length:Nat):Int)))) (nt (FW ?_)))
 by_cases aa:((f:Nat):Int) < ((a.aj.ls.length:Nat):Int)
 obtain⟨g,N⟩:=dK (ls:=a.aj.ls) (i:=f) aI.len f3 (G.ro (J _ (E0 m)).1) e9
 have I:=drop_at N
 refine jT (dT aa) (sk (FW (bo (sr (fw (.pointer (some ⟨ab a.aj.A,ao a.aj.A+f *2,none⟩)) (F4 (jO) rfl rfl ((G.ro (J _ (E0 m)).1).addr (i:=f) e6) e6) (fw (.agg (aI.cells g).toArray) (F7 rfl (Gf (cs:=(aI.cells g)) Tryz.isAgg153 Tryz.sizeOf153 ((G.ro (J _ (E0 m)).1).elem aI.len N f3))) ?_))))))
 refine dM [.string ⟨y6 ([])⟩, .string ⟨y6 ([])⟩] 153 G ?_
 intro af bE aP
 refine dN (aI.cells g) 0 aP Tryz.sizeOf153 ?_
 intro bF ag
 refine ns (Kz (vP af 0) (Lz (.string ⟨y6 g.bW⟩) ag 0 C4 ?_))
 obtain⟨z,t⟩:∃ q,gF g.bW=q:=⟨_,rfl⟩
 obtain⟨bG,ah,bn,aj,bq⟩:=F3 ag
 refine cl K6 (ku _ _ g.bW z ah t) ?_
 rintro _ bH ⟨rfl,ak,O,P⟩
 have L:=aj _ _ ak
 replace O: ¬ (z=0)∨(1≤g.bW.length∧g.bW.length≤12):=O
 replace P:g.bW.length < 1∨g.bW.length > 12∨z=0:=P
 refine fw (.bool (decide (¬ (z=0)))) (Gm (e:= !(decide (z=0))) yk decide_not.symm) (Mz rfl ?_)
 by_cases h:z=0
 refine gw (vP af 1) (dF (JR h)) yk (gw (.string ⟨y6 g.aQ⟩) (dF (JR h)) (F7 rfl (bX.one C4 (jL.of (L.cls (i:=0) rfl) rfl))) (gw (vJ g.aQ.length) (dF (JR h)) yk (gw (.bool (decide (((g.aQ.length:Nat):Int) > 16))) (dF (JR h)) yk (fw (.bool (decide (((g.aQ.length:Nat):Int) > 16))) (FZ rfl (dF (JR h)) rfl) (nt ?_)))))
 by_cases M:((g.aQ.length:Nat):Int) > 16
 refine jT (dT M) (sr (An rfl (rt (bR (tR (tR (bR (bR (tR (tR (bR (tR (rs ?_)))))))))))))
 have aQ:=L.pk []
 obtain rfl:_=false:=hr.symm.trans (et (ai k) (et (iN o) (jq (et (l) (et (congrArg (fun q=>gN q) p) (et (iN d) (et (iN y) (qw (et (s) (et (congrArg (fun q=>gZ q) I) (et (ai t) (et (ip h) (ip M)))))))))))))
 exact⟨rfl,aQ⟩
 refine jF (dF M) (Gn (bN (FY (FV (fw (vJ (f+1)) (FX (e:=C7.wrap (((f:Nat):Int)+1)) yk f1) (Mz rfl (D0 ?_)))))))
 have aR:=L.pk [1]
 exact Gc (f+1) ⟨rfl,rfl,rfl,rfl,rfl,rfl,rfl,rfl,rfl,rfl,rfl,rfl,rfl,rfl,rfl,rfl,rfl,rfl,rfl,rfl,rfl,rfl,trivial⟩ (F.2 ⟨aR,e6,et (s) (et (congrArg (fun q=>gZ q) I) (et (ai t) (et (ip h) (iN M))))⟩) (by show a.aj.ls.length - (f+1) < a.aj.ls.length - f; omega)
 refine Sz (dT h) (Sz (dT h) (Sz (dT h) (Sz (dT h) (fw (.bool true) (Gd rfl (dT h) rfl) (nt (jt (sr (An rfl (rt (bR (tR (tR (bR (bR (tR (tR (bR (tR (rs ?_)))))))))))))))))))
 have aT:=L.pk []
 obtain rfl:_=false:=hr.symm.trans (et (ai k) (et (iN o) (jq (et (l) (et (congrArg (fun q=>gN q) p) (et (iN d) (et (iN y) (qw (et (s) (et (congrArg (fun q=>gZ q) I) (et (ai t) (iN h))))))))))))
 exact⟨rfl,aT⟩
 refine jF (dF aa) (D1 (F6 ?_))
 have au:gZ a.aj.ls=C1 ():=et (s) (et (congrArg (fun q=>gZ q) (eZ (ls:=a.aj.ls) (i:=f) e6)) rfl)
 refine F6 (Gi (bN (FY (FV (fw (vJ (b+1)) (FX (e:=C7.wrap (((b:Nat):Int)+1)) yk f1) (Mz rfl (D0 ?_)))))))
 have aU:=G.pk []
 exact Gc (b+1) ⟨rfl,rfl,rfl,rfl,trivial⟩ (C.2 ⟨aU,e6,et (l) (et (congrArg (fun q=>gN q) p) (et (iN d) (et (iN y) (tH au))))⟩) (by show l1.length - (b+1) < l1.length - b; omega)
 refine jF (dF X) (D1 (F6 ?_))
 have av:gN l1=C1 ():=et (l) (et (congrArg (fun q=>gN q) (eZ (ls:=l1) (i:=b) e6)) rfl)
 refine F6 (Gi (FY (sr (An rfl (rt (rs ?_))))))
 have ax:=E.pk []
 obtain rfl:_=true:=hr.symm.trans (et (ai k) (et (iN o) (nU av)))
 exact⟨rfl,ax⟩
theorem uh (w D j) (H:Own w D w []) (c:j=1):
    Calls y4 158 #[vI j] w (dR fun v w'=>v= .tuple #[.agg #[.bool false, .func (.func 172) #[] #[], .func (.func 173) #[] #[], .func (.func 174) #[] #[], .func (.func 175) #[] #[]], .bool true]∧Own w D w' []):=by
 subst c
 refine cb K7 ?_
 refine sr ?_
 refine dM [.bool false, .nilFunc, .nilFunc, .nilFunc, .nilFunc] 231 H ?_
 intro l n d
 refine Ar rfl (Kz (.agg #[.bool false, .func (.func 172) #[] #[], .func (.func 173) #[] #[], .func (.func 174) #[] #[], .func (.func 175) #[] #[]]) (Kz (.agg #[.bool true, .func (.func 176) #[] #[], .func (.func 177) #[] #[], .func (.func 174) #[] #[], .func (.func 178) #[] #[]]) (Kz (.agg #[.bool true, .func (.func 172) #[] #[], .func (.func 173) #[] #[], .func (.func 174) #[] #[], .func (.func 179) #[] #[]]) (Kz (.agg #[.bool false, .func (.func 180) #[] #[], .func (.func 181) #[] #[], .func (.func 182) #[] #[], .func (.func 183) #[] #[]]) (Kz (.agg #[.bool true, .func (.func 184) #[] #[], .func (.func 185) #[] #[], .func (.func 182) #[] #[], .func (.func 186) #[] #[]]) (Kz (.agg #[.bool false, .nilFunc, .nilFunc, .nilFunc, .nilFunc, .bool false, .func (.func 172) #[] #[], .func (.func 173) #[] #[], .func (.func 174) #[] #[], .func (.func 175) #[] #[], .bool true, .func (.func 176) #[] #[], .func (.func 177) #[] #[], .func (.func 174) #[] #[], .func (.func 178) #[] #[], .bool true, .func (.func 172) #[] #[], .func (.func 173) #[] #[], .func (.func 174) #[] #[], .func (.func 179) #[] #[], .bool false, .func (.func 180) #[] #[], .func (.func 181) #[] #[], .func (.func 182) #[] #[], .func (.func 183) #[] #[], .bool true, .func (.func 184) #[] #[], .func (.func 185) #[] #[], .func (.func 182) #[] #[], .func (.func 186) #[] #[]]) ?_))))))
 refine dM [.bool false, .nilFunc, .nilFunc, .nilFunc, .nilFunc, .bool false, .nilFunc, .nilFunc, .nilFunc, .nilFunc, .bool false, .nilFunc, .nilFunc, .nilFunc, .nilFunc, .bool false, .nilFunc, .nilFunc, .nilFunc, .nilFunc, .bool false, .nilFunc, .nilFunc, .nilFunc, .nilFunc, .bool false, .nilFunc, .nilFunc, .nilFunc, .nilFunc] 244 d ?_
 intro e o f
 refine dN [.bool false, .nilFunc, .nilFunc, .nilFunc, .nilFunc, .bool false, .func (.func 172) #[] #[], .func (.func 173) #[] #[], .func (.func 174) #[] #[], .func (.func 175) #[] #[], .bool true, .func (.func 176) #[] #[], .func (.func 177) #[] #[], .func (.func 174) #[] #[], .func (.func 178) #[] #[], .bool true, .func (.func 172) #[] #[], .func (.func 173) #[] #[], .func (.func 174) #[] #[], .func (.func 179) #[] #[], .bool false, .func (.func 180) #[] #[], .func (.func 181) #[] #[], .func (.func 182) #[] #[], .func (.func 183) #[] #[], .bool true, .func (.func 184) #[] #[], .func (.func 185) #[] #[], .func (.func 182) #[] #[], .func (.func 186) #[] #[]] 0 f K8 ?_
 intro p a
 refine nt (FW (sr (Mz rfl (Kz (.bool false) (Mz rfl (gw (vI 1) rfl (F9 rfl) (Gz (.bool false) rfl (fw (.bool false) (FZ rfl rfl rfl) (nt (jf (sk (sr (Mz rfl (Kz (vP e 5) (La ([.bool false, .func (.func 172) #[] #[], .func (.func 173) #[] #[], .func (.func 174) #[] #[], .func (.func 175) #[] #[]]) a 0 K9 L0 ?_)))))))))))))))
 have g:=a.pb [0]
 refine dN [.bool false, .func (.func 172) #[] #[], .func (.func 173) #[] #[], .func (.func 174) #[] #[], .func (.func 175) #[] #[]] 0 g L0 ?_
 intro q b
 refine An rfl (rt (Fin.res (kC (vs:= [.agg #[.bool false, .func (.func 172) #[] #[], .func (.func 173) #[] #[], .func (.func 174) #[] #[], .func (.func 175) #[] #[]], .bool true]) rfl (dS.cell rfl (Gf (cs:= [.bool false, .func (.func 172) #[] #[], .func (.func 173) #[] #[], .func (.func 174) #[] #[], .func (.func 175) #[] #[]]) K9 L0 ((b.cls (i:=0) rfl).lit (k:=0) (m:=5) rfl)) (dS.tmp rfl dS.nil)) (JO rfl)) ?_))
 have h:=b.pk []
 exact⟨rfl,h⟩
def rF (a:bv):bv:=
 bv.mk a.aG a.bW ([]) ([]) ([]) 0
theorem vL (w D) (a:bv) (g:bv) (H:Own w D w []) (hr:rF a=g):
    Calls y4 172 #[.agg (bv.cells a).toArray] w (dR fun v w'=>v= .agg (bv.cells g).toArray∧Own w D w' []):=by
 refine cb Tryz.func172 ?_
 refine sr ?_
 refine dM (bv.cells a) 72 H ?_
 intro c h e
 refine dM [vI 0, .string ⟨y6 ([])⟩, .string ⟨y6 ([])⟩, .string ⟨y6 ([])⟩, .string ⟨y6 ([])⟩,vI 0] 72 e ?_
 intro j l b
 refine ns (Kz (vP c 0) (Lz (vI a.aG) b 1 C6 (Kz (vP c 1) (Lz (.string ⟨y6 a.bW⟩) b 1 C4 (Kz (.agg #[vI a.aG, .string ⟨y6 a.bW⟩, .string ⟨y6 ([])⟩, .string ⟨y6 ([])⟩, .string ⟨y6 ([])⟩,vI 0]) ?_)))))
 refine dN [vI a.aG, .string ⟨y6 a.bW⟩, .string ⟨y6 ([])⟩, .string ⟨y6 ([])⟩, .string ⟨y6 ([])⟩,vI 0] 0 b L3 ?_
 intro n d
 refine nt (rt (Fin.res (ni rfl rfl (Gf (cs:= [vI a.aG, .string ⟨y6 a.bW⟩, .string ⟨y6 ([])⟩, .string ⟨y6 ([])⟩, .string ⟨y6 ([])⟩,vI 0]) L4 L3 ((d.cls (i:=0) rfl).lit (k:=0) (m:=6) rfl))) ?_))
 have f:=d.pk []
 obtain rfl:_=bv.mk a.aG a.bW ([]) ([]) ([]) 0:=hr.symm.trans rfl
 exact⟨rfl,f⟩
def pO (b:bv):Int:=
 bnd (gF b.bW) fun a=>a
theorem ui (w D) (a:bv) (m) (H:Own w D w []) (hr:pO a=m):
    Calls y4 173 #[.agg (bv.cells a).toArray] w (dR fun v w'=>v=vI m∧Own w D w' []):=by
 refine cb Tryz.func173 ?_
 refine sr ?_
 refine dM (bv.cells a) 72 H ?_
 intro j p f
 refine Ar rfl (Kz (vP j 1) (Lz (.string ⟨y6 a.bW⟩) f 0 C4 ?_))
 obtain⟨b,c⟩:∃ q,gF a.bW=q:=⟨_,rfl⟩
 obtain⟨r,g,n,h,o⟩:=F3 f
 refine cl K6 (ku _ _ a.bW b g c) ?_
 rintro _ s ⟨rfl,i,d,e⟩
 have k:=h _ _ i
 replace d: ¬ (b=0)∨(1≤a.bW.length∧a.bW.length≤12):=d
 replace e:a.bW.length < 1∨a.bW.length > 12∨b=0:=e
 refine An rfl (rt (rs ?_))
 have l:=k.pk []
 obtain rfl:_=b:=hr.symm.trans (ai c)
 exact⟨rfl,l⟩
theorem uj (w D j) (H:Own w D w []) (c:j=2):
    Calls y4 158 #[vI j] w (dR fun v w'=>v= .tuple #[.agg #[.bool true, .func (.func 176) #[] #[], .func (.func 177) #[] #[], .func (.func 174) #[] #[], .func (.func 178) #[] #[]], .bool true]∧Own w D w' []):=by
 subst c
 refine cb K7 ?_
 refine sr ?_
 refine dM [.bool false, .nilFunc, .nilFunc, .nilFunc, .nilFunc] 231 H ?_
 intro l n d
 refine Ar rfl (Kz (.agg #[.bool false, .func (.func 172) #[] #[], .func (.func 173) #[] #[], .func (.func 174) #[] #[], .func (.func 175) #[] #[]]) (Kz (.agg #[.bool true, .func (.func 176) #[] #[], .func (.func 177) #[] #[], .func (.func 174) #[] #[], .func (.func 178) #[] #[]]) (Kz (.agg #[.bool true, .func (.func 172) #[] #[], .func (.func 173) #[] #[], .func (.func 174) #[] #[], .func (.func 179) #[] #[]]) (Kz (.agg #[.bool false, .func (.func 180) #[] #[], .func (.func 181) #[] #[], .func (.func 182) #[] #[], .func (.func 183) #[] #[]]) (Kz (.agg #[.bool true, .func (.func 184) #[] #[], .func (.func 185) #[] #[], .func (.func 182) #[] #[], .func (.func 186) #[] #[]]) (Kz (.agg #[.bool false, .nilFunc, .nilFunc, .nilFunc, .nilFunc, .bool false, .func (.func 172) #[] #[], .func (.func 173) #[] #[], .func (.func 174) #[] #[], .func (.func 175) #[] #[], .bool true, .func (.func 176) #[] #[], .func (.func 177) #[] #[], .func (.func 174) #[] #[], .func (.func 178) #[] #[], .bool true, .func (.func 172) #[] #[], .func (.func 173) #[] #[], .func (.func 174) #[] #[], .func (.func 179) #[] #[], .bool false, .func (.func 180) #[] #[], .func (.func 181) #[] #[], .func (.func 182) #[] #[], .func (.func 183) #[] #[], .bool true, .func (.func 184) #[] #[], .func (.func 185) #[] #[], .func (.func 182) #[] #[], .func (.func 186) #[] #[]]) ?_))))))
 refine dM [.bool false, .nilFunc, .nilFunc, .nilFunc, .nilFunc, .bool false, .nilFunc, .nilFunc, .nilFunc, .nilFunc, .bool false, .nilFunc, .nilFunc, .nilFunc, .nilFunc, .bool false, .nilFunc, .nilFunc, .nilFunc, .nilFunc, .bool false, .nilFunc, .nilFunc, .nilFunc, .nilFunc, .bool false, .nilFunc, .nilFunc, .nilFunc, .nilFunc] 244 d ?_
 intro e o f
 refine dN [.bool false, .nilFunc, .nilFunc, .nilFunc, .nilFunc, .bool false, .func (.func 172) #[] #[], .func (.func 173) #[] #[], .func (.func 174) #[] #[], .func (.func 175) #[] #[], .bool true, .func (.func 176) #[] #[], .func (.func 177) #[] #[], .func (.func 174) #[] #[], .func (.func 178) #[] #[], .bool true, .func (.func 172) #[] #[], .func (.func 173) #[] #[], .func (.func 174) #[] #[], .func (.func 179) #[] #[], .bool false, .func (.func 180) #[] #[], .func (.func 181) #[] #[], .func (.func 182) #[] #[], .func (.func 183) #[] #[], .bool true, .func (.func 184) #[] #[], .func (.func 185) #[] #[], .func (.func 182) #[] #[], .func (.func 186) #[] #[]] 0 f K8 ?_
 intro p a
 refine nt (FW (sr (Mz rfl (Kz (.bool false) (Mz rfl (gw (vI 2) rfl (F9 rfl) (Gz (.bool false) rfl (fw (.bool false) (FZ rfl rfl rfl) (nt (jf (sk (sr (Mz rfl (Kz (vP e 10) (La ([.bool true, .func (.func 176) #[] #[], .func (.func 177) #[] #[], .func (.func 174) #[] #[], .func (.func 178) #[] #[]]) a 0 K9 L0 ?_)))))))))))))))
 have g:=a.pb [0]
 refine dN [.bool true, .func (.func 176) #[] #[], .func (.func 177) #[] #[], .func (.func 174) #[] #[], .func (.func 178) #[] #[]] 0 g L0 ?_
 intro q b
 refine An rfl (rt (Fin.res (kC (vs:= [.agg #[.bool true, .func (.func 176) #[] #[], .func (.func 177) #[] #[], .func (.func 174) #[] #[], .func (.func 178) #[] #[]], .bool true]) rfl (dS.cell rfl (Gf (cs:= [.bool true, .func (.func 176) #[] #[], .func (.func 177) #[] #[], .func (.func 174) #[] #[], .func (.func 178) #[] #[]]) K9 L0 ((b.cls (i:=0) rfl).lit (k:=0) (m:=5) rfl)) (dS.tmp rfl dS.nil)) (JO rfl)) ?_))
 have h:=b.pk []
 exact⟨rfl,h⟩
def uI (a:bv):bv:=
 bv.mk a.aG a.bW a.aQ ([]) ([]) 0
theorem yX (w D) (a:bv) (g:bv) (H:Own w D w []) (hr:uI a=g):
    Calls y4 176 #[.agg (bv.cells a).toArray] w (dR fun v w'=>v= .agg (bv.cells g).toArray∧Own w D w' []):=by
 refine cb Tryz.func176 ?_
 refine sr ?_
 refine dM (bv.cells a) 72 H ?_
 intro c h e
 refine dM [vI 0, .string ⟨y6 ([])⟩, .string ⟨y6 ([])⟩, .string ⟨y6 ([])⟩, .string ⟨y6 ([])⟩,vI 0] 72 e ?_
 intro j l b
 refine ns (Kz (vP c 0) (Lz (vI a.aG) b 1 C6 (Kz (vP c 1) (Lz (.string ⟨y6 a.bW⟩) b 1 C4 (Kz (vP c 2) (Lz (.string ⟨y6 a.aQ⟩) b 1 C4 (Kz (.agg #[vI a.aG, .string ⟨y6 a.bW⟩, .string ⟨y6 a.aQ⟩, .string ⟨y6 ([])⟩, .string ⟨y6 ([])⟩,vI 0]) ?_)))))))
 refine dN [vI a.aG, .string ⟨y6 a.bW⟩, .string ⟨y6 a.aQ⟩, .string ⟨y6 ([])⟩, .string ⟨y6 ([])⟩,vI 0] 0 b L3 ?_
 intro n d
 refine nt (rt (Fin.res (ni rfl rfl (Gf (cs:= [vI a.aG, .string ⟨y6 a.bW⟩, .string ⟨y6 a.aQ⟩, .string ⟨y6 ([])⟩, .string ⟨y6 ([])⟩,vI 0]) L4 L3 ((d.cls (i:=0) rfl).lit (k:=0) (m:=6) rfl))) ?_))
 have f:=d.pk []
 obtain rfl:_=bv.mk a.aG a.bW a.aQ ([]) ([]) 0:=hr.symm.trans rfl
 exact⟨rfl,f⟩
def rV (a:List UInt8):Int:=
 if((a.length:Nat):Int) > 16 then 2 else 0
theorem xe (w D b e) (H:Own w D w []) (hr:rV b=e):
    Calls y4 197 #[.string ⟨y6 b⟩] w (dR fun v w'=>v=vI e∧Own w D w' []):=by
 refine cb Tryz.func197 ?_
 refine sr (An rfl (FW (sr (Mz rfl (Kz (vJ b.length) (Kz (.bool (decide (((b.length:Nat):Int) > 16))) (nt ?_)))))))
 by_cases a:((b.length:Nat):Int) > 16
 refine jT (dT a) (sr (An rfl (rt (tR (rs ?_)))))
 have c:=H.pk []
 obtain rfl:_=2:=hr.symm.trans (ip a)
 exact⟨rfl,c⟩
 refine jF (dF a) (sk (sr (An rfl (rt (rs ?_)))))
 have d:=H.pk []
 obtain rfl:_=0:=hr.symm.trans (iN a)
 exact⟨rfl,d⟩
def sP (c:bv):Int:=
 bnd (gF c.bW) fun a=>if a=0 then bnd (rV c.aQ) fun b=>b else a
theorem xJ (w D) (b:bv) (y) (H:Own w D w []) (hr:sP b=y):
    Calls y4 177 #[.agg (bv.cells b).toArray] w (dR fun v w'=>v=vI y∧Own w D w' []):=by
 refine cb Tryz.func177 ?_
 refine sr ?_
 refine dM (bv.cells b) 72 H ?_
 intro j E k
 refine An rfl (FW (sr (Kz (vP j 1) (Lz (.string ⟨y6 b.bW⟩) k 0 C4 ?_))))
 obtain⟨a,c⟩:∃ q,gF b.bW=q:=⟨_,rfl⟩
 obtain⟨F,l,z,m,A⟩:=F3 k
 refine cl K6 (ku _ _ b.bW a l c) ?_
 rintro _ G ⟨rfl,n,f,g⟩
 have i:=m _ _ n
 replace f: ¬ (a=0)∨(1≤b.bW.length∧b.bW.length≤12):=f
 replace g:b.bW.length < 1∨b.bW.length > 12∨a=0:=g
 refine Ar rfl (Mz rfl (fw (.bool (decide (¬ (a=0)))) (Gm (e:= !(decide (a=0))) yk decide_not.symm) (nt ?_)))
 by_cases d:a=0
 refine jF (dF (JR d)) (sk (sr (Kz (vP j 2) (Lz (.string ⟨y6 b.aQ⟩) i 0 C4 ?_))))
 obtain⟨o,h⟩:∃ q,rV b.aQ=q:=⟨_,rfl⟩
 obtain⟨I,p,B,r,C⟩:=F3 i
 refine cl Tryz.call197 (xe _ _ b.aQ o p h) ?_
 rintro _ J ⟨rfl,s⟩
 have t:=r _ _ s
 refine An rfl (rt (rs ?_))
 have u:=t.pk []
 obtain rfl:_=o:=hr.symm.trans (et (ai c) (et (ip d) (ai h)))
 exact⟨rfl,u⟩
 refine jT (dT d) (sr (Mz rfl (An rfl (rt (tR (rs ?_))))))
 have x:=i.pk []
 obtain rfl:_=a:=hr.symm.trans (et (ai c) (iN d))
 exact⟨rfl,x⟩
theorem uk (w D j) (H:Own w D w []) (c:j=3):
    Calls y4 158 #[vI j] w (dR fun v w'=>v= .tuple #[.agg #[.bool true, .func (.func 172) #[] #[], .func (.func 173) #[] #[], .func (.func 174) #[] #[], .func (.func 179) #[] #[]], .bool true]∧Own w D w' []):=by
 subst c
 refine cb K7 ?_
 refine sr ?_
 refine dM [.bool false, .nilFunc, .nilFunc, .nilFunc, .nilFunc] 231 H ?_
 intro l n d
 refine Ar rfl (Kz (.agg #[.bool false, .func (.func 172) #[] #[], .func (.func 173) #[] #[], .func (.func 174) #[] #[], .func (.func 175) #[] #[]]) (Kz (.agg #[.bool true, .func (.func 176) #[] #[], .func (.func 177) #[] #[], .func (.func 174) #[] #[], .func (.func 178) #[] #[]]) (Kz (.agg #[.bool true, .func (.func 172) #[] #[], .func (.func 173) #[] #[], .func (.func 174) #[] #[], .func (.func 179) #[] #[]]) (Kz (.agg #[.bool false, .func (.func 180) #[] #[], .func (.func 181) #[] #[], .func (.func 182) #[] #[], .func (.func 183) #[] #[]]) (Kz (.agg #[.bool true, .func (.func 184) #[] #[], .func (.func 185) #[] #[], .func (.func 182) #[] #[], .func (.func 186) #[] #[]]) (Kz (.agg #[.bool false, .nilFunc, .nilFunc, .nilFunc, .nilFunc, .bool false, .func (.func 172) #[] #[], .func (.func 173) #[] #[], .func (.func 174) #[] #[], .func (.func 175) #[] #[], .bool true, .func (.func 176) #[] #[], .func (.func 177) #[] #[], .func (.func 174) #[] #[], .func (.func 178) #[] #[], .bool true, .func (.func 172) #[] #[], .func (.func 173) #[] #[], .func (.func 174) #[] #[], .func (.func 179) #[] #[], .bool false, .func (.func 180) #[] #[], .func (.func 181) #[] #[], .func (.func 182) #[] #[], .func (.func 183) #[] #[], .bool true, .func (.func 184) #[] #[], .func (.func 185) #[] #[], .func (.func 182) #[] #[], .func (.func 186) #[] #[]]) ?_))))))
 refine dM [.bool false, .nilFunc, .nilFunc, .nilFunc, .nilFunc, .bool false, .nilFunc, .nilFunc, .nilFunc, .nilFunc, .bool false, .nilFunc, .nilFunc, .nilFunc, .nilFunc, .bool false, .nilFunc, .nilFunc, .nilFunc, .nilFunc, .bool false, .nilFunc, .nilFunc, .nilFunc, .nilFunc, .bool false, .nilFunc, .nilFunc, .nilFunc, .nilFunc] 244 d ?_
 intro e o f
 refine dN [.bool false, .nilFunc, .nilFunc, .nilFunc, .nilFunc, .bool false, .func (.func 172) #[] #[], .func (.func 173) #[] #[], .func (.func 174) #[] #[], .func (.func 175) #[] #[], .bool true, .func (.func 176) #[] #[], .func (.func 177) #[] #[], .func (.func 174) #[] #[], .func (.func 178) #[] #[], .bool true, .func (.func 172) #[] #[], .func (.func 173) #[] #[], .func (.func 174) #[] #[], .func (.func 179) #[] #[], .bool false, .func (.func 180) #[] #[], .func (.func 181) #[] #[], .func (.func 182) #[] #[], .func (.func 183) #[] #[], .bool true, .func (.func 184) #[] #[], .func (.func 185) #[] #[], .func (.func 182) #[] #[], .func (.func 186) #[] #[]] 0 f K8 ?_
 intro p a
 refine nt (FW (sr (Mz rfl (Kz (.bool false) (Mz rfl (gw (vI 3) rfl (F9 rfl) (Gz (.bool false) rfl (fw (.bool false) (FZ rfl rfl rfl) (nt (jf (sk (sr (Mz rfl (Kz (vP e 15) (La ([.bool true, .func (.func 172) #[] #[], .func (.func 173) #[] #[], .func (.func 174) #[] #[], .func (.func 179) #[] #[]]) a 0 K9 L0 ?_)))))))))))))))
 have g:=a.pb [0]
 refine dN [.bool true, .func (.func 172) #[] #[], .func (.func 173) #[] #[], .func (.func 174) #[] #[], .func (.func 179) #[] #[]] 0 g L0 ?_
 intro q b
 refine An rfl (rt (Fin.res (kC (vs:= [.agg #[.bool true, .func (.func 172) #[] #[], .func (.func 173) #[] #[], .func (.func 174) #[] #[], .func (.func 179) #[] #[]], .bool true]) rfl (dS.cell rfl (Gf (cs:= [.bool true, .func (.func 172) #[] #[], .func (.func 173) #[] #[], .func (.func 174) #[] #[], .func (.func 179) #[] #[]]) K9 L0 ((b.cls (i:=0) rfl).lit (k:=0) (m:=5) rfl)) (dS.tmp rfl dS.nil)) (JO rfl)) ?_))
 have h:=b.pk []
 exact⟨rfl,h⟩
theorem ul (w D j) (H:Own w D w []) (c:j=4):
    Calls y4 158 #[vI j] w (dR fun v w'=>v= .tuple #[.agg #[.bool false, .func (.func 180) #[] #[], .func (.func 181) #[] #[], .func (.func 182) #[] #[], .func (.func 183) #[] #[]], .bool true]∧Own w D w' []):=by
 subst c
 refine cb K7 ?_
 refine sr ?_
 refine dM [.bool false, .nilFunc, .nilFunc, .nilFunc, .nilFunc] 231 H ?_
 intro l n d
 refine Ar rfl (Kz (.agg #[.bool false, .func (.func 172) #[] #[], .func (.func 173) #[] #[], .func (.func 174) #[] #[], .func (.func 175) #[] #[]]) (Kz (.agg #[.bool true, .func (.func 176) #[] #[], .func (.func 177) #[] #[], .func (.func 174) #[] #[], .func (.func 178) #[] #[]]) (Kz (.agg #[.bool true, .func (.func 172) #[] #[], .func (.func 173) #[] #[], .func (.func 174) #[] #[], .func (.func 179) #[] #[]]) (Kz (.agg #[.bool false, .func (.func 180) #[] #[], .func (.func 181) #[] #[], .func (.func 182) #[] #[], .func (.func 183) #[] #[]]) (Kz (.agg #[.bool true, .func (.func 184) #[] #[], .func (.func 185) #[] #[], .func (.func 182) #[] #[], .func (.func 186) #[] #[]]) (Kz (.agg #[.bool false, .nilFunc, .nilFunc, .nilFunc, .nilFunc, .bool false, .func (.func 172) #[] #[], .func (.func 173) #[] #[], .func (.func 174) #[] #[], .func (.func 175) #[] #[], .bool true, .func (.func 176) #[] #[], .func (.func 177) #[] #[], .func (.func 174) #[] #[], .func (.func 178) #[] #[], .bool true, .func (.func 172) #[] #[], .func (.func 173) #[] #[], .func (.func 174) #[] #[], .func (.func 179) #[] #[], .bool false, .func (.func 180) #[] #[], .func (.func 181) #[] #[], .func (.func 182) #[] #[], .func (.func 183) #[] #[], .bool true, .func (.func 184) #[] #[], .func (.func 185) #[] #[], .func (.func 182) #[] #[], .func (.func 186) #[] #[]]) ?_))))))
 refine dM [.bool false, .nilFunc, .nilFunc, .nilFunc, .nilFunc, .bool false, .nilFunc, .nilFunc, .nilFunc, .nilFunc, .bool false, .nilFunc, .nilFunc, .nilFunc, .nilFunc, .bool false, .nilFunc, .nilFunc, .nilFunc, .nilFunc, .bool false, .nilFunc, .nilFunc, .nilFunc, .nilFunc, .bool false, .nilFunc, .nilFunc, .nilFunc, .nilFunc] 244 d ?_
 intro e o f
 refine dN [.bool false, .nilFunc, .nilFunc, .nilFunc, .nilFunc, .bool false, .func (.func 172) #[] #[], .func (.func 173) #[] #[], .func (.func 174) #[] #[], .func (.func 175) #[] #[], .bool true, .func (.func 176) #[] #[], .func (.func 177) #[] #[], .func (.func 174) #[] #[], .func (.func 178) #[] #[], .bool true, .func (.func 172) #[] #[], .func (.func 173) #[] #[], .func (.func 174) #[] #[], .func (.func 179) #[] #[], .bool false, .func (.func 180) #[] #[], .func (.func 181) #[] #[], .func (.func 182) #[] #[], .func (.func 183) #[] #[], .bool true, .func (.func 184) #[] #[], .func (.func 185) #[] #[], .func (.func 182) #[] #[], .func (.func 186) #[] #[]] 0 f K8 ?_
 intro p a
 refine nt (FW (sr (Mz rfl (Kz (.bool false) (Mz rfl (gw (vI 4) rfl (F9 rfl) (Gz (.bool false) rfl (fw (.bool false) (FZ rfl rfl rfl) (nt (jf (sk (sr (Mz rfl (Kz (vP e 20) (La ([.bool false, .func (.func 180) #[] #[], .func (.func 181) #[] #[], .func (.func 182) #[] #[], .func (.func 183) #[] #[]]) a 0 K9 L0 ?_)))))))))))))))
 have g:=a.pb [0]
 refine dN [.bool false, .func (.func 180) #[] #[], .func (.func 181) #[] #[], .func (.func 182) #[] #[], .func (.func 183) #[] #[]] 0 g L0 ?_
 intro q b
 refine An rfl (rt (Fin.res (kC (vs:= [.agg #[.bool false, .func (.func 180) #[] #[], .func (.func 181) #[] #[], .func (.func 182) #[] #[], .func (.func 183) #[] #[]], .bool true]) rfl (dS.cell rfl (Gf (cs:= [.bool false, .func (.func 180) #[] #[], .func (.func 181) #[] #[], .func (.func 182) #[] #[], .func (.func 183) #[] #[]]) K9 L0 ((b.cls (i:=0) rfl).lit (k:=0) (m:=5) rfl)) (dS.tmp rfl dS.nil)) (JO rfl)) ?_))
 have h:=b.pk []
 exact⟨rfl,h⟩
def uJ (a:bv):bv:=
 bv.mk a.aG ([]) ([]) a.bG a.bU a.bS
theorem yY (w D) (a:bv) (g:bv) (H:Own w D w []) (hr:uJ a=g):
    Calls y4 180 #[.agg (bv.cells a).toArray] w (dR fun v w'=>v= .agg (bv.cells g).toArray∧Own w D w' []):=by
 refine cb Tryz.func180 ?_
 refine sr ?_
 refine dM (bv.cells a) 72 H ?_
 intro c h e
 refine dM [vI 0, .string ⟨y6 ([])⟩, .string ⟨y6 ([])⟩, .string ⟨y6 ([])⟩, .string ⟨y6 ([])⟩,vI 0] 72 e ?_
 intro j l b
 refine ns (Kz (vP c 0) (Lz (vI a.aG) b 1 C6 (Kz (vP c 3) (Lz (.string ⟨y6 a.bG⟩) b 1 C4 (Kz (vP c 4) (Lz (.string ⟨y6 a.bU⟩) b 1 C4 (Kz (vP c 5) (Lz (vI a.bS) b 1 C6 (Kz (.agg #[vI a.aG, .string ⟨y6 ([])⟩, .string ⟨y6 ([])⟩, .string ⟨y6 a.bG⟩, .string ⟨y6 a.bU⟩,vI a.bS]) ?_)))))))))
 refine dN [vI a.aG, .string ⟨y6 ([])⟩, .string ⟨y6 ([])⟩, .string ⟨y6 a.bG⟩, .string ⟨y6 a.bU⟩,vI a.bS] 0 b L3 ?_
 intro n d
 refine nt (rt (Fin.res (ni rfl rfl (Gf (cs:= [vI a.aG, .string ⟨y6 ([])⟩, .string ⟨y6 ([])⟩, .string ⟨y6 a.bG⟩, .string ⟨y6 a.bU⟩,vI a.bS]) L4 L3 ((d.cls (i:=0) rfl).lit (k:=0) (m:=6) rfl))) ?_))
 have f:=d.pk []
 obtain rfl:_=bv.mk a.aG ([]) ([]) a.bG a.bU a.bS:=hr.symm.trans rfl
 exact⟨rfl,f⟩
def sQ (a:bv):bI:=
 bI.mk a.bG a.bU
theorem xK (w D) (a:bv) (g:bI) (H:Own w D w []) (hr:sQ a=g):
    Calls y4 182 #[.agg (bv.cells a).toArray] w (dR fun v w'=>v= .agg (bI.cells g).toArray∧Own w D w' []):=by
 refine cb Tryz.func182 ?_
 refine sr ?_
 refine dM (bv.cells a) 72 H ?_
 intro c h e
 refine dM [.string ⟨y6 ([])⟩, .string ⟨y6 ([])⟩] 38 e ?_
 intro j l b
 refine ns (Kz (vP c 3) (Lz (.string ⟨y6 a.bG⟩) b 1 C4 (Kz (vP c 4) (Lz (.string ⟨y6 a.bU⟩) b 1 C4 (Kz (.agg #[.string ⟨y6 a.bG⟩, .string ⟨y6 a.bU⟩]) ?_)))))
 refine dN [.string ⟨y6 a.bG⟩, .string ⟨y6 a.bU⟩] 0 b L5 ?_
 intro n d
 refine nt (rt (Fin.res (ni rfl rfl (Gf (cs:= [.string ⟨y6 a.bG⟩, .string ⟨y6 a.bU⟩]) L6 L5 ((d.cls (i:=0) rfl).lit (k:=0) (m:=2) rfl))) ?_))
 have f:=d.pk []
 obtain rfl:_=bI.mk a.bG a.bU:=hr.symm.trans rfl
 exact⟨rfl,f⟩
def ma (a:bI):Int:=
 if a.bG≠([]) then bnd (gF a.bG) fun b=>if b=0 then if a.bU≠([]) then bnd (gF a.bU) fun c=>if c=0 then if a.bU≤a.bG then 21 else 0 else 21 else 0 else 21 else if a.bU≠([]) then bnd (gF a.bU) fun d=>if d=0 then if a.bU≤a.bG then 21 else 0 else 21 else 0
theorem pV (w D) (a:bI) (Z) (H:Own w D w []) (hr:ma a=Z):
    Calls y4 116 #[.agg (bI.cells a).toArray] w (dR fun v w'=>v=vI Z∧Own w D w' []):=by
 refine cb Tryz.func116 ?_
 refine sr ?_
 refine dM (bI.cells a) 38 H ?_
 intro h ak k
 refine An rfl (FW (sr (Kz (vP h 0) (Lz (.string ⟨y6 a.bG⟩) k 0 C4 (fw (.bool (decide (a.bG≠([])))) (Hq rfl rfl) (Mz rfl ?_))))))
 by_cases d:a.bG≠([])
 refine Gz (vP h 0) (dT d) (Gl (.string ⟨y6 a.bG⟩) (dT d) k 0 C4 ?_)
 obtain⟨l,j⟩:∃ q,gF a.bG=q:=⟨_,rfl⟩
 obtain⟨au,G,aa,I,ae⟩:=F3 k
 refine uZ (dT d) K6 (ku _ _ a.bG l G j) ?_
 rintro _ av ⟨rfl,J,z,A⟩
 have s:=I _ _ J
 replace z: ¬ (l=0)∨(1≤a.bG.length∧a.bG.length≤12):=z
 replace A:a.bG.length < 1∨a.bG.length > 12∨l=0:=A
 refine gw (.bool (decide (¬ (l=0)))) (dT d) (Gm (e:= !(decide (l=0))) yk decide_not.symm) (fw (.bool (decide (¬ (l=0)))) (Gd rfl (dT d) rfl) (nt ?_))
 by_cases m:l=0
 refine jF (dF (JR m)) (sk (FW (sr (Kz (vP h 1) (Lz (.string ⟨y6 a.bU⟩) s 0 C4 (fw (.bool (decide (a.bU≠([])))) (Hq rfl rfl) (Mz rfl ?_)))))))
 by_cases b:a.bU≠([])
 refine Gz (vP h 1) (dT b) (Gl (.string ⟨y6 a.bU⟩) (dT b) s 0 C4 ?_)
 obtain⟨n,p⟩:∃ q,gF a.bU=q:=⟨_,rfl⟩
 obtain⟨ax,K,af,L,ag⟩:=F3 s
 refine uZ (dT b) K6 (ku _ _ a.bU n K p) ?_
 rintro _ ay ⟨rfl,M,B,C⟩
 have t:=L _ _ M
 replace B: ¬ (n=0)∨(1≤a.bU.length∧a.bU.length≤12):=B
 replace C:a.bU.length < 1∨a.bU.length > 12∨n=0:=C
 refine gw (.bool (decide (¬ (n=0)))) (dT b) (Gm (e:= !(decide (n=0))) yk decide_not.symm) (gw (.bool (decide (¬ (n=0)))) (dT b) (F9 rfl) ?_)
 by_cases f:n=0
 refine gw (vP h 1) (dF (JR f)) yk (gw (.string ⟨y6 a.bU⟩) (dF (JR f)) (F7 rfl (bX.one C4 (jL.of (t.cls (i:=0) rfl) rfl))) (gw (vP h 0) (dF (JR f)) yk (gw (.string ⟨y6 a.bG⟩) (dF (JR f)) (F7 rfl (bX.one C4 (jL.of (t.cls (i:=0) rfl) rfl))) (gw (.bool (decide (a.bU≤a.bG))) (dF (JR f)) (Gm (e:=Op.bytesLess a.bU a.bG || decide (a.bU=a.bG)) (HV rfl rfl) (ze _ _)) (gw (.bool (decide (a.bU≤a.bG))) (dT b) (FZ rfl (dF (JR f)) rfl) (fw (.bool (decide (a.bU≤a.bG))) (Gd rfl (dT b) rfl) (nt ?_)))))))
 by_cases x:a.bU≤a.bG
 refine jT (dT x) (sr (An rfl (rt (tR (rs ?_)))))
 have Q:=t.pk []
 obtain rfl:_=21:=hr.symm.trans (et (ip d) (et (ai j) (et (ip m) (et (ip b) (et (ai p) (et (ip f) (ip x)))))))
 exact⟨rfl,Q⟩
 refine jF (dF x) (sk (sr (An rfl (rt (rs ?_)))))
 have R:=t.pk []
 obtain rfl:_=0:=hr.symm.trans (et (ip d) (et (ai j) (et (ip m) (et (ip b) (et (ai p) (et (ip f) (iN x)))))))
 exact⟨rfl,R⟩
 refine Sz (dT f) (Sz (dT f) (Sz (dT f) (Sz (dT f) (Sz (dT f) (gw (.bool true) (dT b) (Gd rfl (dT f) rfl) (fw (.bool true) (Gd rfl (dT b) rfl) (nt (jt (sr (An rfl (rt (tR (rs ?_)))))))))))))
 have S:=t.pk []
 obtain rfl:_=21:=hr.symm.trans (et (ip d) (et (ai j) (et (ip m) (et (ip b) (et (ai p) (iN f))))))
 exact⟨rfl,S⟩
 refine Sz (dF b) (Sz (dF b) (Sz (dF b) (Sz (dF b) (Sz (dF b) (Gw rfl rfl rfl (Gw rfl rfl rfl (Gw rfl rfl rfl (Gw rfl rfl rfl (Gw rfl rfl rfl (Sz (dF b) (fw (.bool false) (FZ rfl (dF b) rfl) (nt (jf (sk (sr (An rfl (rt (rs ?_))))))))))))))))))
 have T:=s.pk []
 obtain rfl:_=0:=hr.symm.trans (et (ip d) (et (ai j) (et (ip m) (iN b))))
 exact⟨rfl,T⟩
 refine jT (dT m) (sr (An rfl (rt (tR (rs ?_)))))
 have U:=s.pk []
 obtain rfl:_=21:=hr.symm.trans (et (ip d) (et (ai j) (iN m)))
 exact⟨rfl,U⟩
 refine Sz (dF d) (Sz (dF d) (Sz (dF d) (Sz (dF d) (fw (.bool false) (FZ rfl (dF d) rfl) (nt (jf (sk (FW (sr (Kz (vP h 1) (Lz (.string ⟨y6 a.bU⟩) k 0 C4 (fw (.bool (decide (a.bU≠([])))) (Hq rfl rfl) (Mz rfl ?_)))))))))))))
 by_cases c:a.bU≠([])
 refine Gz (vP h 1) (dT c) (Gl (.string ⟨y6 a.bU⟩) (dT c) k 0 C4 ?_)
 obtain⟨o,r⟩:∃ q,gF a.bU=q:=⟨_,rfl⟩
 obtain⟨az,N,ah,O,aj⟩:=F3 k
 refine uZ (dT c) K6 (ku _ _ a.bU o N r) ?_
 rintro _ aA ⟨rfl,P,E,F⟩
 have u:=O _ _ P
 replace E: ¬ (o=0)∨(1≤a.bU.length∧a.bU.length≤12):=E
 replace F:a.bU.length < 1∨a.bU.length > 12∨o=0:=F
 refine gw (.bool (decide (¬ (o=0)))) (dT c) (Gm (e:= !(decide (o=0))) yk decide_not.symm) (gw (.bool (decide (¬ (o=0)))) (dT c) (F9 rfl) ?_)
 by_cases g:o=0
 refine gw (vP h 1) (dF (JR g)) yk (gw (.string ⟨y6 a.bU⟩) (dF (JR g)) (F7 rfl (bX.one C4 (jL.of (u.cls (i:=0) rfl) rfl))) (gw (vP h 0) (dF (JR g)) yk (gw (.string ⟨y6 a.bG⟩) (dF (JR g)) (F7 rfl (bX.one C4 (jL.of (u.cls (i:=0) rfl) rfl))) (gw (.bool (decide (a.bU≤a.bG))) (dF (JR g)) (Gm (e:=Op.bytesLess a.bU a.bG || decide (a.bU=a.bG)) (HV rfl rfl) (ze _ _)) (gw (.bool (decide (a.bU≤a.bG))) (dT c) (FZ rfl (dF (JR g)) rfl) (fw (.bool (decide (a.bU≤a.bG))) (Gd rfl (dT c) rfl) (nt ?_)))))))
 by_cases y:a.bU≤a.bG
 refine jT (dT y) (sr (An rfl (rt (tR (rs ?_)))))
 have V:=u.pk []
 obtain rfl:_=21:=hr.symm.trans (et (iN d) (et (ip c) (et (ai r) (et (ip g) (ip y)))))
 exact⟨rfl,V⟩
 refine jF (dF y) (sk (sr (An rfl (rt (rs ?_)))))
 have W:=u.pk []
 obtain rfl:_=0:=hr.symm.trans (et (iN d) (et (ip c) (et (ai r) (et (ip g) (iN y)))))
 exact⟨rfl,W⟩
 refine Sz (dT g) (Sz (dT g) (Sz (dT g) (Sz (dT g) (Sz (dT g) (gw (.bool true) (dT c) (Gd rfl (dT g) rfl) (fw (.bool true) (Gd rfl (dT c) rfl) (nt (jt (sr (An rfl (rt (tR (rs ?_)))))))))))))
 have X:=u.pk []
 obtain rfl:_=21:=hr.symm.trans (et (iN d) (et (ip c) (et (ai r) (iN g))))
 exact⟨rfl,X⟩
 refine Sz (dF c) (Sz (dF c) (Sz (dF c) (Sz (dF c) (Sz (dF c) (Gw rfl rfl rfl (Gw rfl rfl rfl (Gw rfl rfl rfl (Gw rfl rfl rfl (Gw rfl rfl rfl (Sz (dF c) (fw (.bool false) (FZ rfl (dF c) rfl) (nt (jf (sk (sr (An rfl (rt (rs ?_))))))))))))))))))
 have Y:=k.pk []
 obtain rfl:_=0:=hr.symm.trans (et (iN d) (iN c))
 exact⟨rfl,Y⟩
def oz (c:bv):Int:=
 bnd (sQ c) fun a=>bnd (ma a) fun b=>b
theorem sS (w D) (d:bv) (p) (H:Own w D w []) (hr:oz d=p):
    Calls y4 185 #[.agg (bv.cells d).toArray] w (dR fun v w'=>v=vI p∧Own w D w' []):=by
 refine cb Tryz.func185 ?_
 refine sr ?_
 refine dM (bv.cells d) 72 H ?_
 intro x y e
 refine Ar rfl (La (bv.cells d) e 0 L4 L3 ?_)
 obtain⟨c,a⟩:∃ q,sQ d=q:=⟨_,rfl⟩
 obtain⟨z,f,r,g,s⟩:=F3 e
 refine cl Tryz.call182 (xK _ _ d c f a) ?_
 rintro _ A ⟨rfl,h⟩
 have m:=g _ _ h
 obtain⟨i,b⟩:∃ q,ma c=q:=⟨_,rfl⟩
 obtain⟨B,j,t,k,u⟩:=F3 m
 refine cl Tryz.call116 (pV _ _ c i j b) ?_
 rintro _ C ⟨rfl,l⟩
 have n:=k _ _ l
 refine An rfl (rt (rs ?_))
 have o:=n.pk []
 obtain rfl:_=i:=hr.symm.trans (et (ai a) (ai b))
 exact⟨rfl,o⟩
def qE (b:bv):Int:=
 bnd (oz b) fun a=>if a=0 then if b.bS < 1 then 1 else if b.bS > 4 then 1 else 0 else a
theorem xL (w D) (c:bv) (s) (H:Own w D w []) (hr:qE c=s):
    Calls y4 181 #[.agg (bv.cells c).toArray] w (dR fun v w'=>v=vI s∧Own w D w' []):=by
 refine cb Tryz.func181 ?_
 refine sr ?_
 refine dM (bv.cells c) 72 H ?_
 intro i x j
 refine An rfl (FW (sr (La (bv.cells c) j 0 L4 L3 ?_)))
 obtain⟨g,b⟩:∃ q,oz c=q:=⟨_,rfl⟩
 obtain⟨y,k,t,l,u⟩:=F3 j
 refine cl Tryz.call185 (sS _ _ c g k b) ?_
 rintro _ z ⟨rfl,m⟩
 have d:=l _ _ m
 refine Ar rfl (Mz rfl (fw (.bool (decide (¬ (g=0)))) (Gm (e:= !(decide (g=0))) yk decide_not.symm) (nt ?_)))
 by_cases f:g=0
 refine jF (dF (JR f)) (sk (FW (sr (Kz (vP i 5) (Lz (vI c.bS) d 0 C6 (Kz (.bool (decide (c.bS < 1))) (Mz rfl ?_)))))))
 by_cases a:c.bS < 1
 refine Sz (dT a) (Sz (dT a) (Sz (dT a) (fw (.bool true) (Gd rfl (dT a) rfl) (nt (jt (sr (An rfl (rt (tR (rs ?_))))))))))
 have n:=d.pk []
 obtain rfl:_=1:=hr.symm.trans (et (ai b) (et (ip f) (ip a)))
 exact⟨rfl,n⟩
 refine Gz (vP i 5) (dF a) (Gl (vI c.bS) (dF a) d 0 C6 (Gz (.bool (decide (c.bS > 4))) (dF a) (fw (.bool (decide (c.bS > 4))) (FZ rfl (dF a) rfl) (nt ?_))))
 by_cases h:c.bS > 4
 refine jT (dT h) (sr (An rfl (rt (tR (rs ?_)))))
 have o:=d.pk []
 obtain rfl:_=1:=hr.symm.trans (et (ai b) (et (ip f) (et (iN a) (ip h))))
 exact⟨rfl,o⟩
 refine jF (dF h) (sk (sr (An rfl (rt (rs ?_)))))
 have p:=d.pk []
 obtain rfl:_=0:=hr.symm.trans (et (ai b) (et (ip f) (et (iN a) (iN h))))
 exact⟨rfl,p⟩
 refine jT (dT f) (sr (Mz rfl (An rfl (rt (tR (rs ?_))))))
 have r:=d.pk []
 obtain rfl:_=g:=hr.symm.trans (et (ai b) (iN f))
 exact⟨rfl,r⟩
theorem um (w D j) (H:Own w D w []) (c:j=5):
    Calls y4 158 #[vI j] w (dR fun v w'=>v= .tuple #[.agg #[.bool true, .func (.func 184) #[] #[], .func (.func 185) #[] #[], .func (.func 182) #[] #[], .func (.func 186) #[] #[]], .bool true]∧Own w D w' []):=by
 subst c
 refine cb K7 ?_
 refine sr ?_
 refine dM [.bool false, .nilFunc, .nilFunc, .nilFunc, .nilFunc] 231 H ?_
 intro l n d
 refine Ar rfl (Kz (.agg #[.bool false, .func (.func 172) #[] #[], .func (.func 173) #[] #[], .func (.func 174) #[] #[], .func (.func 175) #[] #[]]) (Kz (.agg #[.bool true, .func (.func 176) #[] #[], .func (.func 177) #[] #[], .func (.func 174) #[] #[], .func (.func 178) #[] #[]]) (Kz (.agg #[.bool true, .func (.func 172) #[] #[], .func (.func 173) #[] #[], .func (.func 174) #[] #[], .func (.func 179) #[] #[]]) (Kz (.agg #[.bool false, .func (.func 180) #[] #[], .func (.func 181) #[] #[], .func (.func 182) #[] #[], .func (.func 183) #[] #[]]) (Kz (.agg #[.bool true, .func (.func 184) #[] #[], .func (.func 185) #[] #[], .func (.func 182) #[] #[], .func (.func 186) #[] #[]]) (Kz (.agg #[.bool false, .nilFunc, .nilFunc, .nilFunc, .nilFunc, .bool false, .func (.func 172) #[] #[], .func (.func 173) #[] #[], .func (.func 174) #[] #[], .func (.func 175) #[] #[], .bool true, .func (.func 176) #[] #[], .func (.func 177) #[] #[], .func (.func 174) #[] #[], .func (.func 178) #[] #[], .bool true, .func (.func 172) #[] #[], .func (.func 173) #[] #[], .func (.func 174) #[] #[], .func (.func 179) #[] #[], .bool false, .func (.func 180) #[] #[], .func (.func 181) #[] #[], .func (.func 182) #[] #[], .func (.func 183) #[] #[], .bool true, .func (.func 184) #[] #[], .func (.func 185) #[] #[], .func (.func 182) #[] #[], .func (.func 186) #[] #[]]) ?_))))))
 refine dM [.bool false, .nilFunc, .nilFunc, .nilFunc, .nilFunc, .bool false, .nilFunc, .nilFunc, .nilFunc, .nilFunc, .bool false, .nilFunc, .nilFunc, .nilFunc, .nilFunc, .bool false, .nilFunc, .nilFunc, .nilFunc, .nilFunc, .bool false, .nilFunc, .nilFunc, .nilFunc, .nilFunc, .bool false, .nilFunc, .nilFunc, .nilFunc, .nilFunc] 244 d ?_
 intro e o f
 refine dN [.bool false, .nilFunc, .nilFunc, .nilFunc, .nilFunc, .bool false, .func (.func 172) #[] #[], .func (.func 173) #[] #[], .func (.func 174) #[] #[], .func (.func 175) #[] #[], .bool true, .func (.func 176) #[] #[], .func (.func 177) #[] #[], .func (.func 174) #[] #[], .func (.func 178) #[] #[], .bool true, .func (.func 172) #[] #[], .func (.func 173) #[] #[], .func (.func 174) #[] #[], .func (.func 179) #[] #[], .bool false, .func (.func 180) #[] #[], .func (.func 181) #[] #[], .func (.func 182) #[] #[], .func (.func 183) #[] #[], .bool true, .func (.func 184) #[] #[], .func (.func 185) #[] #[], .func (.func 182) #[] #[], .func (.func 186) #[] #[]] 0 f K8 ?_
 intro p a
 refine nt (FW (sr (Mz rfl (Kz (.bool false) (Mz rfl (gw (vI 5) rfl (F9 rfl) (Gz (.bool false) rfl (fw (.bool false) (FZ rfl rfl rfl) (nt (jf (sk (sr (Mz rfl (Kz (vP e 25) (La ([.bool true, .func (.func 184) #[] #[], .func (.func 185) #[] #[], .func (.func 182) #[] #[], .func (.func 186) #[] #[]]) a 0 K9 L0 ?_)))))))))))))))
 have g:=a.pb [0]
 refine dN [.bool true, .func (.func 184) #[] #[], .func (.func 185) #[] #[], .func (.func 182) #[] #[], .func (.func 186) #[] #[]] 0 g L0 ?_
 intro q b
 refine An rfl (rt (Fin.res (kC (vs:= [.agg #[.bool true, .func (.func 184) #[] #[], .func (.func 185) #[] #[], .func (.func 182) #[] #[], .func (.func 186) #[] #[]], .bool true]) rfl (dS.cell rfl (Gf (cs:= [.bool true, .func (.func 184) #[] #[], .func (.func 185) #[] #[], .func (.func 182) #[] #[], .func (.func 186) #[] #[]]) K9 L0 ((b.cls (i:=0) rfl).lit (k:=0) (m:=5) rfl)) (dS.tmp rfl dS.nil)) (JO rfl)) ?_))
 have h:=b.pk []
 exact⟨rfl,h⟩
def tO (a:bv):bv:=
 bv.mk a.aG ([]) ([]) a.bG a.bU 0
theorem yu (w D) (a:bv) (g:bv) (H:Own w D w []) (hr:tO a=g):
    Calls y4 184 #[.agg (bv.cells a).toArray] w (dR fun v w'=>v= .agg (bv.cells g).toArray∧Own w D w' []):=by
 refine cb Tryz.func184 ?_
 refine sr ?_
 refine dM (bv.cells a) 72 H ?_
 intro c h e
 refine dM [vI 0, .string ⟨y6 ([])⟩, .string ⟨y6 ([])⟩, .string ⟨y6 ([])⟩, .string ⟨y6 ([])⟩,vI 0] 72 e ?_
 intro j l b
 refine ns (Kz (vP c 0) (Lz (vI a.aG) b 1 C6 (Kz (vP c 3) (Lz (.string ⟨y6 a.bG⟩) b 1 C4 (Kz (vP c 4) (Lz (.string ⟨y6 a.bU⟩) b 1 C4 (Kz (.agg #[vI a.aG, .string ⟨y6 ([])⟩, .string ⟨y6 ([])⟩, .string ⟨y6 a.bG⟩, .string ⟨y6 a.bU⟩,vI 0]) ?_)))))))
 refine dN [vI a.aG, .string ⟨y6 ([])⟩, .string ⟨y6 ([])⟩, .string ⟨y6 a.bG⟩, .string ⟨y6 a.bU⟩,vI 0] 0 b L3 ?_
 intro n d
 refine nt (rt (Fin.res (ni rfl rfl (Gf (cs:= [vI a.aG, .string ⟨y6 ([])⟩, .string ⟨y6 ([])⟩, .string ⟨y6 a.bG⟩, .string ⟨y6 a.bU⟩,vI 0]) L4 L3 ((d.cls (i:=0) rfl).lit (k:=0) (m:=6) rfl))) ?_))
 have f:=d.pk []
 obtain rfl:_=bv.mk a.aG ([]) ([]) a.bG a.bU 0:=hr.symm.trans rfl
 exact⟨rfl,f⟩
theorem tL (w D b) (H:Own w D w []) (p: ¬ (b=1)) (q: ¬ (b=2)) (r: ¬ (b=3)) (s: ¬ (b=4)) (t: ¬ (b=5)):
    Calls y4 158 #[vI b] w (dR fun v w'=>v= .tuple #[.agg #[.bool false, .nilFunc, .nilFunc, .nilFunc, .nilFunc], .bool false]∧Own w D w' []):=by
 refine cb K7 ?_
 refine sr ?_
 refine dM [.bool false, .nilFunc, .nilFunc, .nilFunc, .nilFunc] 231 H ?_
 intro u x g
 refine Ar rfl (Kz (.agg #[.bool false, .func (.func 172) #[] #[], .func (.func 173) #[] #[], .func (.func 174) #[] #[], .func (.func 175) #[] #[]]) (Kz (.agg #[.bool true, .func (.func 176) #[] #[], .func (.func 177) #[] #[], .func (.func 174) #[] #[], .func (.func 178) #[] #[]]) (Kz (.agg #[.bool true, .func (.func 172) #[] #[], .func (.func 173) #[] #[], .func (.func 174) #[] #[], .func (.func 179) #[] #[]]) (Kz (.agg #[.bool false, .func (.func 180) #[] #[], .func (.func 181) #[] #[], .func (.func 182) #[] #[], .func (.func 183) #[] #[]]) (Kz (.agg #[.bool true, .func (.func 184) #[] #[], .func (.func 185) #[] #[], .func (.func 182) #[] #[], .func (.func 186) #[] #[]]) (Kz (.agg #[.bool false, .nilFunc, .nilFunc, .nilFunc, .nilFunc, .bool false, .func (.func 172) #[] #[], .func (.func 173) #[] #[], .func (.func 174) #[] #[], .func (.func 175) #[] #[], .bool true, .func (.func 176) #[] #[], .func (.func 177) #[] #[], .func (.func 174) #[] #[], .func (.func 178) #[] #[], .bool true, .func (.func 172) #[] #[], .func (.func 173) #[] #[], .func (.func 174) #[] #[], .func (.func 179) #[] #[], .bool false, .func (.func 180) #[] #[], .func (.func 181) #[] #[], .func (.func 182) #[] #[], .func (.func 183) #[] #[], .bool true, .func (.func 184) #[] #[], .func (.func 185) #[] #[], .func (.func 182) #[] #[], .func (.func 186) #[] #[]]) ?_))))))
 refine dM [.bool false, .nilFunc, .nilFunc, .nilFunc, .nilFunc, .bool false, .nilFunc, .nilFunc, .nilFunc, .nilFunc, .bool false, .nilFunc, .nilFunc, .nilFunc, .nilFunc, .bool false, .nilFunc, .nilFunc, .nilFunc, .nilFunc, .bool false, .nilFunc, .nilFunc, .nilFunc, .nilFunc, .bool false, .nilFunc, .nilFunc, .nilFunc, .nilFunc] 244 g ?_
 intro y z h
 refine dN [.bool false, .nilFunc, .nilFunc, .nilFunc, .nilFunc, .bool false, .func (.func 172) #[] #[], .func (.func 173) #[] #[], .func (.func 174) #[] #[], .func (.func 175) #[] #[], .bool true, .func (.func 176) #[] #[], .func (.func 177) #[] #[], .func (.func 174) #[] #[], .func (.func 178) #[] #[], .bool true, .func (.func 172) #[] #[], .func (.func 173) #[] #[], .func (.func 174) #[] #[], .func (.func 179) #[] #[], .bool false, .func (.func 180) #[] #[], .func (.func 181) #[] #[], .func (.func 182) #[] #[], .func (.func 183) #[] #[], .bool true, .func (.func 184) #[] #[], .func (.func 185) #[] #[], .func (.func 182) #[] #[], .func (.func 186) #[] #[]] 0 h K8 ?_
 intro A c
 refine nt (FW (sr (Mz rfl (Kz (.bool (decide (b≤0))) (Mz rfl ?_)))))
 by_cases a:b≤0
 refine Sz (dT a) (Sz (dT a) (fw (.bool true) (Gd rfl (dT a) rfl) (nt (jt (sr (Kz (.agg #[.bool false, .nilFunc, .nilFunc, .nilFunc, .nilFunc]) ?_))))))
 have j:=c.pb [0]
 refine dN [.bool false, .nilFunc, .nilFunc, .nilFunc, .nilFunc] 0 j L0 ?_
 intro B d
 refine An rfl (rt (tR (Fin.res (kC (vs:= [.agg #[.bool false, .nilFunc, .nilFunc, .nilFunc, .nilFunc], .bool false]) rfl (dS.cell rfl (Gf (cs:= [.bool false, .nilFunc, .nilFunc, .nilFunc, .nilFunc]) K9 L0 ((d.cls (i:=0) rfl).lit (k:=0) (m:=5) rfl)) (dS.tmp rfl dS.nil)) (JO rfl)) ?_)))
 have l:=d.pk []
 exact⟨rfl,l⟩
 refine gw (vI b) (dF a) (F9 rfl) (Gz (.bool (decide (b ≥ 6))) (dF a) (fw (.bool (decide (b ≥ 6))) (FZ rfl (dF a) rfl) (nt ?_)))
 have e:(decide (b ≥ 6))=true:=(dT e6)
 refine jT e (sr (Kz (.agg #[.bool false, .nilFunc, .nilFunc, .nilFunc, .nilFunc]) ?_))
 have n:=c.pb [0]
 refine dN [.bool false, .nilFunc, .nilFunc, .nilFunc, .nilFunc] 0 n L0 ?_
 intro C f
 refine An rfl (rt (tR (Fin.res (kC (vs:= [.agg #[.bool false, .nilFunc, .nilFunc, .nilFunc, .nilFunc], .bool false]) rfl (dS.cell rfl (Gf (cs:= [.bool false, .nilFunc, .nilFunc, .nilFunc, .nilFunc]) K9 L0 ((f.cls (i:=0) rfl).lit (k:=0) (m:=5) rfl)) (dS.tmp rfl dS.nil)) (JO rfl)) ?_)))
 have o:=f.pk []
 exact⟨rfl,o⟩
def ll (a:bv):Int:=
 if a.aG=1 then bnd (rF a) fun e=>if(e.aG=a.aG)∧(e.bW=a.bW)∧(e.aQ=a.aQ)∧(e.bG=a.bG)∧(e.bU=a.bU)∧(e.bS=a.bS) then bnd (pO a) fun j=>j else 40 else if a.aG=2 then bnd (uI a) fun f=>if(f.aG=a.aG)∧(f.bW=a.bW)∧(f.aQ=a.aQ)∧(f.bG=a.bG)∧(f.bU=a.bU)∧(f.bS=a.bS) then bnd (sP a) fun k=>k else 40 else if a.aG=3 then bnd (rF a) fun b=>if(b.aG=a.aG)∧(b.bW=a.bW)∧(b.aQ=a.aQ)∧(b.bG=a.bG)∧(b.bU=a.bU)∧(b.bS=a.bS) then bnd (pO a) fun g=>g else 40 else if a.aG=4 then bnd (uJ a) fun c=>if(c.aG=a.aG)∧(c.bW=a.bW)∧(c.aQ=a.aQ)∧(c.bG=a.bG)∧(c.bU=a.bU)∧(c.bS=a.bS) then bnd (qE a) fun h=>h else 40 else if a.aG=5 then bnd (tO a) fun d=>if(d.aG=a.aG)∧(d.bW=a.bW)∧(d.aQ=a.aQ)∧(d.bG=a.bG)∧(d.bU=a.bU)∧(d.bS=a.bS) then bnd (oz a) fun i=>i else 40 else 40
theorem rW (w D) (a:bv) (r0) (H:Own w D w []) (hr:ll a=r0):
    Calls y4 139 #[.agg (bv.cells a).toArray] w (dR fun v w'=>v=vI r0∧Own w D w' []∧(¬ (r0=0)∨(1≤a.aG∧a.aG≤5))):=by
 refine cb Tryz.func139 ?_
 refine sr ?_
 refine dM (bv.cells a) 72 H ?_
 intro dn gI t
 refine Ar rfl (Kz (vP dn 0) (Lz (vI a.aG) t 0 C6 ?_))
 by_cases l:a.aG=1
 obtain⟨gJ,aR,eG,aS,eH⟩:=F3 t
 refine cl L7 (uh _ _ a.aG aR (of_decide_eq_true (dT l))) ?_
 rintro _ gK ⟨rfl,aT⟩
 have dw:=aS _ _ aT
 refine Mz rfl (Kz (.agg #[.bool false, .func (.func 172) #[] #[], .func (.func 173) #[] #[], .func (.func 174) #[] #[], .func (.func 175) #[] #[]]) (Kz (.bool true) ?_))
 refine dM [.bool false, .nilFunc, .nilFunc, .nilFunc, .nilFunc] 231 dw ?_
 intro aU gL dx
 refine dN [.bool false, .func (.func 172) #[] #[], .func (.func 173) #[] #[], .func (.func 174) #[] #[], .func (.func 175) #[] #[]] 0 dx L0 ?_
 intro gM dz
 refine An rfl (FW (FW ?_))
 refine pJ [] (Gb (Gb Gj)) dz ?_
 intro gN dA
 refine qv 0 rfl rfl (qk (.bool false) 1 rfl (qv 2 rfl rfl (F8 (v:=vP aU 1) (rs:= []) 3 rfl rfl rfl rfl e7 (fun _ _=>yk) (F8 (v:= .func (.func 172) #[] #[]) (rs:= []) 4 rfl rfl rfl rfl e7 (fun _ ⟨_,h⟩=>F7 rfl (bX.one L8 (jL.of (h.cls (i:=0) rfl) rfl))) (F8 (v:= .agg (bv.cells a).toArray) (rs:= []) 5 rfl rfl rfl rfl e7 (fun _ ⟨_,h⟩=>F7 rfl (Gf (cs:=(bv.cells a)) L4 L3 ((h.cls (i:=1) rfl).lit (k:=0) (m:=6) rfl))) (F8 (v:= .agg (bv.cells a).toArray) (rs:= []) 7 rfl rfl rfl rfl e7 (fun _ ⟨_,h⟩=>F7 rfl (Gf (cs:=(bv.cells a)) L4 L3 ((h.cls (i:=1) rfl).lit (k:=0) (m:=6) rfl))) ?_))))))
 obtain⟨f,F⟩:∃ q,rF a=q:=⟨_,rfl⟩
 obtain⟨gP,aV,eO,aW,eP⟩:=F3 dA
 refine Ht 6 rfl rfl rfl rfl e7 (Gr Tryz.call172 rfl rfl (vL _ _ a f aV F) ?_)
 rintro _ gQ ⟨rfl,aX⟩
 have G:=aW _ _ aX
 refine⟨.inr ⟨_,G⟩, ?_⟩
 refine F8 (v:= .bool (decide (¬ ((f.aG=a.aG)∧(f.bW=a.bW)∧(f.aQ=a.aQ)∧(f.bG=a.bG)∧(f.bU=a.bU)∧(f.bS=a.bS))))) (rs:= []) 8 rfl rfl rfl rfl e7 (fun _ _=>Gm (e:= !(decide ((f.aG=a.aG)∧(f.bW=a.bW)∧(f.aQ=a.aQ)∧(f.bG=a.bG)∧(f.bU=a.bU)∧(f.bS=a.bS)))) (Hr rfl rfl e7 rfl (jR.struct L9 e7 (jr.dec (jr.cons (u:=vI f.aG) (v:=vI a.aG) f3 (fun _=>by kernel_rfl) (fun _=>by kernel_rfl) (jR.int B4) (jr.cons (u:= .string ⟨y6 f.bW⟩) (v:= .string ⟨y6 a.bW⟩) f3 (fun _=>by kernel_rfl) (fun _=>by kernel_rfl) (jR.string B5) (jr.cons (u:= .string ⟨y6 f.aQ⟩) (v:= .string ⟨y6 a.aQ⟩) f3 (fun _=>by kernel_rfl) (fun _=>by kernel_rfl) (jR.string B5) (jr.cons (u:= .string ⟨y6 f.bG⟩) (v:= .string ⟨y6 a.bG⟩) f3 (fun _=>by kernel_rfl) (fun _=>by kernel_rfl) (jR.string B5) (jr.cons (u:= .string ⟨y6 f.bU⟩) (v:= .string ⟨y6 a.bU⟩) f3 (fun _=>by kernel_rfl) (fun _=>by kernel_rfl) (jR.string B5) (jr.cons (u:=vI f.bS) (v:=vI a.bS) f3 (fun _=>by kernel_rfl) (fun _=>by kernel_rfl) (jR.int B4) (jr.nil.up (JQ _)))))))) ((congrArg (decide (f.aG=a.aG) && ·) ((congrArg (decide (f.bW=a.bW) && ·) ((congrArg (decide (f.aQ=a.aQ) && ·) ((congrArg (decide (f.bG=a.bG) && ·) ((congrArg (decide (f.bU=a.bU) && ·) qO).trans iZ)).trans iZ)).trans iZ)).trans iZ)).trans iZ)))) decide_not.symm) (qt (v:= .bool (decide (¬ ((f.aG=a.aG)∧(f.bW=a.bW)∧(f.aQ=a.aQ)∧(f.bG=a.bG)∧(f.bU=a.bU)∧(f.bS=a.bS))))) 9 rfl (fun _ _=>FZ rfl rfl rfl) (qn (FY ?_)))
 by_cases N:(f.aG=a.aG)∧(f.bW=a.bW)∧(f.aQ=a.aQ)∧(f.bG=a.bG)∧(f.bU=a.bU)∧(f.bS=a.bS)
 refine jF (dF (JR N)) (sk (sr (Kz (vP aU 2) (Lz (.func (.func 173) #[] #[]) G 0 M0 (La (bv.cells a) G 1 L4 L3 ?_)))))
 obtain⟨aY,P⟩:∃ q,pO a=q:=⟨_,rfl⟩
 obtain⟨gT,aZ,eQ,bf,eT⟩:=F3 G
 refine WL.do rfl (Gr Tryz.call173 rfl rfl (ui _ _ a aY aZ P) ?_)
 rintro _ gU ⟨rfl,bg⟩
 have dB:=bf _ _ bg
 refine An rfl (rt (rs ?_))
 have dC:=dB.pk []
 obtain rfl:_=aY:=hr.symm.trans (et (ip l) (et (ai F) (et (ip N) (ai P))))
 exact⟨rfl,dC,e6⟩
 refine jT (dT N) (sr (An rfl (rt (tR (rs ?_)))))
 have dD:=G.pk []
 obtain rfl:_=40:=hr.symm.trans (et (ip l) (et (ai F) (iN N)))
 exact⟨rfl,dD,e6⟩
 by_cases n:a.aG=2
 obtain⟨gV,bi,eU,bn,eX⟩:=F3 t
 refine cl L7 (uj _ _ a.aG bi (of_decide_eq_true (dT n))) ?_
 rintro _ gW ⟨rfl,bq⟩
 have dE:=bn _ _ bq
 refine Mz rfl (Kz (.agg #[.bool true, .func (.func 176) #[] #[], .func (.func 177) #[] #[], .func (.func 174) #[] #[], .func (.func 178) #[] #[]]) (Kz (.bool true) ?_))
 refine dM [.bool false, .nilFunc, .nilFunc, .nilFunc, .nilFunc] 231 dE ?_
 intro bu gX dG
 refine dN [.bool true, .func (.func 176) #[] #[], .func (.func 177) #[] #[], .func (.func 174) #[] #[], .func (.func 178) #[] #[]] 0 dG L0 ?_
 intro gY dH
 refine An rfl (FW (FW ?_))
 refine pJ [] (Gb (Gb Gj)) dH ?_
 intro gZ dI
 refine qv 0 rfl rfl (qk (.bool false) 1 rfl (qv 2 rfl rfl (F8 (v:=vP bu 1) (rs:= []) 3 rfl rfl rfl rfl e7 (fun _ _=>yk) (F8 (v:= .func (.func 176) #[] #[]) (rs:= []) 4 rfl rfl rfl rfl e7 (fun _ ⟨_,h⟩=>F7 rfl (bX.one L8 (jL.of (h.cls (i:=0) rfl) rfl))) (F8 (v:= .agg (bv.cells a).toArray) (rs:= []) 5 rfl rfl rfl rfl e7 (fun _ ⟨_,h⟩=>F7 rfl (Gf (cs:=(bv.cells a)) L4 L3 ((h.cls (i:=1) rfl).lit (k:=0) (m:=6) rfl))) (F8 (v:= .agg (bv.cells a).toArray) (rs:= []) 7 rfl rfl rfl rfl e7 (fun _ ⟨_,h⟩=>F7 rfl (Gf (cs:=(bv.cells a)) L4 L3 ((h.cls (i:=1) rfl).lit (k:=0) (m:=6) rfl))) ?_))))))
 obtain⟨g,I⟩:∃ q,uI a=q:=⟨_,rfl⟩
 obtain⟨ib,bz,eY,bA,eZ⟩:=F3 dI
 refine Ht 6 rfl rfl rfl rfl e7 (Gr Tryz.call176 rfl rfl (yX _ _ a g bz I) ?_)
 rintro _ ic ⟨rfl,bB⟩
 have J:=bA _ _ bB
 refine⟨.inr ⟨_,J⟩, ?_⟩
 refine F8 (v:= .bool (decide (¬ ((g.aG=a.aG)∧(g.bW=a.bW)∧(g.aQ=a.aQ)∧(g.bG=a.bG)∧(g.bU=a.bU)∧(g.bS=a.bS))))) (rs:= []) 8 rfl rfl rfl rfl e7 (fun _ _=>Gm (e:= !(decide ((g.aG=a.aG)∧(g.bW=a.bW)∧(g.aQ=a.aQ)∧(g.bG=a.bG)∧(g.bU=a.bU)∧(g.bS=a.bS)))) (Hr rfl rfl e7 rfl (jR.struct L9 e7 (jr.dec (jr.cons (u:=vI g.aG) (v:=vI a.aG) f3 (fun _=>by kernel_rfl) (fun _=>by kernel_rfl) (jR.int B4) (jr.cons (u:= .string ⟨y6 g.bW⟩) (v:= .string ⟨y6 a.bW⟩) f3 (fun _=>by kernel_rfl) (fun _=>by kernel_rfl) (jR.string B5) (jr.cons (u:= .string ⟨y6 g.aQ⟩) (v:= .string ⟨y6 a.aQ⟩) f3 (fun _=>by kernel_rfl) (fun _=>by kernel_rfl) (jR.string B5) (jr.cons (u:= .string ⟨y6 g.bG⟩) (v:= .string ⟨y6 a.bG⟩) f3 (fun _=>by kernel_rfl) (fun _=>by kernel_rfl) (jR.string B5) (jr.cons (u:= .string ⟨y6 g.bU⟩) (v:= .string ⟨y6 a.bU⟩) f3 (fun _=>by kernel_rfl) (fun _=>by kernel_rfl) (jR.string B5) (jr.cons (u:=vI g.bS) (v:=vI a.bS) f3 (fun _=>by kernel_rfl) (fun _=>by kernel_rfl) (jR.int B4) (jr.nil.up (JQ _)))))))) ((congrArg (decide (g.aG=a.aG) && ·) ((congrArg (decide (g.bW=a.bW) && ·) ((congrArg (decide (g.aQ=a.aQ) && ·) ((congrArg (decide (g.bG=a.bG) && ·) ((congrArg (decide (g.bU=a.bU) && ·) qO).trans iZ)).trans iZ)).trans iZ)).trans iZ)).trans iZ)))) decide_not.symm) (qt (v:= .bool (decide (¬ ((g.aG=a.aG)∧(g.bW=a.bW)∧(g.aQ=a.aQ)∧(g.bG=a.bG)∧(g.bU=a.bU)∧(g.bS=a.bS))))) 9 rfl (fun _ _=>FZ rfl rfl rfl) (qn (FY ?_)))
 by_cases O:(g.aG=a.aG)∧(g.bW=a.bW)∧(g.aQ=a.aQ)∧(g.bG=a.bG)∧(g.bU=a.bU)∧(g.bS=a.bS)
 refine jF (dF (JR O)) (sk (sr (Kz (vP bu 2) (Lz (.func (.func 177) #[] #[]) J 0 M0 (La (bv.cells a) J 1 L4 L3 ?_)))))
 obtain⟨bC,Q⟩:∃ q,sP a=q:=⟨_,rfl⟩
 obtain⟨ig,bD,fe,bE,fo⟩:=F3 J
 refine WL.do rfl (Gr Tryz.call177 rfl rfl (xJ _ _ a bC bD Q) ?_)
 rintro _ ik ⟨rfl,X⟩
 have bF:=bE _ _ X
 refine An rfl (rt (rs ?_))
 have bG:=bF.pk []
 obtain rfl:_=bC:=hr.symm.trans (et (iN l) (et (ip n) (et (ai I) (et (ip O) (ai Q)))))
 exact⟨rfl,bG,e6⟩
 refine jT (dT O) (sr (An rfl (rt (tR (rs ?_)))))
 have bH:=J.pk []
 obtain rfl:_=40:=hr.symm.trans (et (iN l) (et (ip n) (et (ai I) (iN O))))
 exact⟨rfl,bH,e6⟩
 by_cases j:a.aG=3
 obtain⟨fq,Y,dJ,Z,dK⟩:=F3 t
 refine cl L7 (uk _ _ a.aG Y (of_decide_eq_true (dT j))) ?_
 rintro _ fu ⟨rfl,aa⟩
 have bI:=Z _ _ aa
 refine Mz rfl (Kz (.agg #[.bool true, .func (.func 172) #[] #[], .func (.func 173) #[] #[], .func (.func 174) #[] #[], .func (.func 179) #[] #[]]) (Kz (.bool true) ?_))
 refine dM [.bool false, .nilFunc, .nilFunc, .nilFunc, .nilFunc] 231 bI ?_
 intro R fw bJ
 refine dN [.bool true, .func (.func 172) #[] #[], .func (.func 173) #[] #[], .func (.func 174) #[] #[], .func (.func 179) #[] #[]] 0 bJ L0 ?_
 intro fA bK
 refine An rfl (FW (FW ?_))
 refine pJ [] (Gb (Gb Gj)) bK ?_
 intro fB bL
 refine qv 0 rfl rfl (qk (.bool false) 1 rfl (qv 2 rfl rfl (F8 (v:=vP R 1) (rs:= []) 3 rfl rfl rfl rfl e7 (fun _ _=>yk) (F8 (v:= .func (.func 172) #[] #[]) (rs:= []) 4 rfl rfl rfl rfl e7 (fun _ ⟨_,h⟩=>F7 rfl (bX.one L8 (jL.of (h.cls (i:=0) rfl) rfl))) (F8 (v:= .agg (bv.cells a).toArray) (rs:= []) 5 rfl rfl rfl rfl e7 (fun _ ⟨_,h⟩=>F7 rfl (Gf (cs:=(bv.cells a)) L4 L3 ((h.cls (i:=1) rfl).lit (k:=0) (m:=6) rfl))) (F8 (v:= .agg (bv.cells a).toArray) (rs:= []) 7 rfl rfl rfl rfl e7 (fun _ ⟨_,h⟩=>F7 rfl (Gf (cs:=(bv.cells a)) L4 L3 ((h.cls (i:=1) rfl).lit (k:=0) (m:=6) rfl))) ?_))))))
 obtain⟨b,x⟩:∃ q,rF a=q:=⟨_,rfl⟩
 obtain⟨fC,ae,dL,af,dO⟩:=F3 bL
 refine Ht 6 rfl rfl rfl rfl e7 (Gr Tryz.call172 rfl rfl (vL _ _ a b ae x) ?_)
 rintro _ fD ⟨rfl,ag⟩
 have p:=af _ _ ag
 refine⟨.inr ⟨_,p⟩, ?_⟩
 refine F8 (v:= .bool (decide (¬ ((b.aG=a.aG)∧(b.bW=a.bW)∧(b.aQ=a.aQ)∧(b.bG=a.bG)∧(b.bU=a.bU)∧(b.bS=a.bS))))) (rs:= []) 8 rfl rfl rfl rfl e7 (fun _ _=>Gm (e:= !(decide ((b.aG=a.aG)∧(b.bW=a.bW)∧(b.aQ=a.aQ)∧(b.bG=a.bG)∧(b.bU=a.bU)∧(b.bS=a.bS)))) (Hr rfl rfl e7 rfl (jR.struct L9 e7 (jr.dec (jr.cons (u:=vI b.aG) (v:=vI a.aG) f3 (fun _=>by kernel_rfl) (fun _=>by kernel_rfl) (jR.int B4) (jr.cons (u:= .string ⟨y6 b.bW⟩) (v:= .string ⟨y6 a.bW⟩) f3 (fun _=>by kernel_rfl) (fun _=>by kernel_rfl) (jR.string B5) (jr.cons (u:= .string ⟨y6 b.aQ⟩) (v:= .string ⟨y6 a.aQ⟩) f3 (fun _=>by kernel_rfl) (fun _=>by kernel_rfl) (jR.string B5) (jr.cons (u:= .string ⟨y6 b.bG⟩) (v:= .string ⟨y6 a.bG⟩) f3 (fun _=>by kernel_rfl) (fun _=>by kernel_rfl) (jR.string B5) (jr.cons (u:= .string ⟨y6 b.bU⟩) (v:= .string ⟨y6 a.bU⟩) f3 (fun _=>by kernel_rfl) (fun _=>by kernel_rfl) (jR.string B5) (jr.cons (u:=vI b.bS) (v:=vI a.bS) f3 (fun _=>by kernel_rfl) (fun _=>by kernel_rfl) (jR.int B4) (jr.nil.up (JQ _)))))))) ((congrArg (decide (b.aG=a.aG) && ·) ((congrArg (decide (b.bW=a.bW) && ·) ((congrArg (decide (b.aQ=a.aQ) && ·) ((congrArg (decide (b.bG=a.bG) && ·) ((congrArg (decide (b.bU=a.bU) && ·) qO).trans iZ)).trans iZ)).trans iZ)).trans iZ)).trans iZ)))) decide_not.symm) (qt (v:= .bool (decide (¬ ((b.aG=a.aG)∧(b.bW=a.bW)∧(b.aQ=a.aQ)∧(b.bG=a.bG)∧(b.bU=a.bU)∧(b.bS=a.bS))))) 9 rfl (fun _ _=>FZ rfl rfl rfl) (qn (FY ?_)))
 by_cases A:(b.aG=a.aG)∧(b.bW=a.bW)∧(b.aQ=a.aQ)∧(b.bG=a.bG)∧(b.bU=a.bU)∧(b.bS=a.bS)
 refine jF (dF (JR A)) (sk (sr (Kz (vP R 2) (Lz (.func (.func 173) #[] #[]) p 0 M0 (La (bv.cells a) p 1 L4 L3 ?_)))))
 obtain⟨S,K⟩:∃ q,pO a=q:=⟨_,rfl⟩
 obtain⟨fE,ah,dP,aj,dQ⟩:=F3 p
 refine WL.do rfl (Gr Tryz.call173 rfl rfl (ui _ _ a S ah K) ?_)
 rintro _ fF ⟨rfl,ak⟩
 have bM:=aj _ _ ak
 refine An rfl (rt (rs ?_))
 have bN:=bM.pk []
 obtain rfl:_=S:=hr.symm.trans (et (iN l) (et (iN n) (et (ip j) (et (ai x) (et (ip A) (ai K))))))
 exact⟨rfl,bN,e6⟩
 refine jT (dT A) (sr (An rfl (rt (tR (rs ?_)))))
 have bO:=p.pk []
 obtain rfl:_=40:=hr.symm.trans (et (iN l) (et (iN n) (et (ip j) (et (ai x) (iN A)))))
 exact⟨rfl,bO,e6⟩
 by_cases o:a.aG=4
 obtain⟨fG,au,dS,av,dU⟩:=F3 t
 refine cl L7 (ul _ _ a.aG au (of_decide_eq_true (dT o))) ?_
 rintro _ fH ⟨rfl,ax⟩
 have bP:=av _ _ ax
 refine Mz rfl (Kz (.agg #[.bool false, .func (.func 180) #[] #[], .func (.func 181) #[] #[], .func (.func 182) #[] #[], .func (.func 183) #[] #[]]) (Kz (.bool true) ?_))
 refine dM [.bool false, .nilFunc, .nilFunc, .nilFunc, .nilFunc] 231 bP ?_
 intro T fI bQ
 refine dN [.bool false, .func (.func 180) #[] #[], .func (.func 181) #[] #[], .func (.func 182) #[] #[], .func (.func 183) #[] #[]] 0 bQ L0 ?_
 intro fJ bR
 refine An rfl (FW (FW ?_))
 refine pJ [] (Gb (Gb Gj)) bR ?_
 intro fK bS
 refine qv 0 rfl rfl (qk (.bool false) 1 rfl (qv 2 rfl rfl (F8 (v:=vP T 1) (rs:= []) 3 rfl rfl rfl rfl e7 (fun _ _=>yk) (F8 (v:= .func (.func 180) #[] #[]) (rs:= []) 4 rfl rfl rfl rfl e7 (fun _ ⟨_,h⟩=>F7 rfl (bX.one L8 (jL.of (h.cls (i:=0) rfl) rfl))) (F8 (v:= .agg (bv.cells a).toArray) (rs:= []) 5 rfl rfl rfl rfl e7 (fun _ ⟨_,h⟩=>F7 rfl (Gf (cs:=(bv.cells a)) L4 L3 ((h.cls (i:=1) rfl).lit (k:=0) (m:=6) rfl))) (F8 (v:= .agg (bv.cells a).toArray) (rs:= []) 7 rfl rfl rfl rfl e7 (fun _ ⟨_,h⟩=>F7 rfl (Gf (cs:=(bv.cells a)) L4 L3 ((h.cls (i:=1) rfl).lit (k:=0) (m:=6) rfl))) ?_))))))
 obtain⟨c,y⟩:∃ q,uJ a=q:=⟨_,rfl⟩
 obtain⟨fM,ay,dV,az,dW⟩:=F3 bS
 refine Ht 6 rfl rfl rfl rfl e7 (Gr Tryz.call180 rfl rfl (yY _ _ a c ay y) ?_)
 rintro _ fO ⟨rfl,aA⟩
 have r:=az _ _ aA
 refine⟨.inr ⟨_,r⟩, ?_⟩
 refine F8 (v:= .bool (decide (¬ ((c.aG=a.aG)∧(c.bW=a.bW)∧(c.aQ=a.aQ)∧(c.bG=a.bG)∧(c.bU=a.bU)∧(c.bS=a.bS))))) (rs:= []) 8 rfl rfl rfl rfl e7 (fun _ _=>Gm (e:= !(decide ((c.aG=a.aG)∧(c.bW=a.bW)∧(c.aQ=a.aQ)∧(c.bG=a.bG)∧(c.bU=a.bU)∧(c.bS=a.bS)))) (Hr rfl rfl e7 rfl (jR.struct L9 e7 (jr.dec (jr.cons (u:=vI c.aG) (v:=vI a.aG) f3 (fun _=>by kernel_rfl) (fun _=>by kernel_rfl) (jR.int B4) (jr.cons (u:= .string ⟨y6 c.bW⟩) (v:= .string ⟨y6 a.bW⟩) f3 (fun _=>by kernel_rfl) (fun _=>by kernel_rfl) (jR.string B5) (jr.cons (u:= .string ⟨y6 c.aQ⟩) (v:= .string ⟨y6 a.aQ⟩) f3 (fun _=>by kernel_rfl) (fun _=>by kernel_rfl) (jR.string B5) (jr.cons (u:= .string ⟨y6 c.bG⟩) (v:= .string ⟨y6 a.bG⟩) f3 (fun _=>by kernel_rfl) (fun _=>by kernel_rfl) (jR.string B5) (jr.cons (u:= .string ⟨y6 c.bU⟩) (v:= .string ⟨y6 a.bU⟩) f3 (fun _=>by kernel_rfl) (fun _=>by kernel_rfl) (jR.string B5) (jr.cons (u:=vI c.bS) (v:=vI a.bS) f3 (fun _=>by kernel_rfl) (fun _=>by kernel_rfl) (jR.int B4) (jr.nil.up (JQ _)))))))) ((congrArg (decide (c.aG=a.aG) && ·) ((congrArg (decide (c.bW=a.bW) && ·) ((congrArg (decide (c.aQ=a.aQ) && ·) ((congrArg (decide (c.bG=a.bG) && ·) ((congrArg (decide (c.bU=a.bU) && ·) qO).trans iZ)).trans iZ)).trans iZ)).trans iZ)).trans iZ)))) decide_not.symm) (qt (v:= .bool (decide (¬ ((c.aG=a.aG)∧(c.bW=a.bW)∧(c.aQ=a.aQ)∧(c.bG=a.bG)∧(c.bU=a.bU)∧(c.bS=a.bS))))) 9 rfl (fun _ _=>FZ rfl rfl rfl) (qn (FY ?_)))
 by_cases B:(c.aG=a.aG)∧(c.bW=a.bW)∧(c.aQ=a.aQ)∧(c.bG=a.bG)∧(c.bU=a.bU)∧(c.bS=a.bS)
 refine jF (dF (JR B)) (sk (sr (Kz (vP T 2) (Lz (.func (.func 181) #[] #[]) r 0 M0 (La (bv.cells a) r 1 L4 L3 ?_)))))
 obtain⟨U,L⟩:∃ q,qE a=q:=⟨_,rfl⟩
 obtain⟨fP,aB,dX,aC,dY⟩:=F3 r
 refine WL.do rfl (Gr Tryz.call181 rfl rfl (xL _ _ a U aB L) ?_)
 rintro _ fQ ⟨rfl,aD⟩
 have bT:=aC _ _ aD
 refine An rfl (rt (rs ?_))
 have bU:=bT.pk []
 obtain rfl:_=U:=hr.symm.trans (et (iN l) (et (iN n) (et (iN j) (et (ip o) (et (ai y) (et (ip B) (ai L)))))))
 exact⟨rfl,bU,e6⟩
 refine jT (dT B) (sr (An rfl (rt (tR (rs ?_)))))
 have bV:=r.pk []
 obtain rfl:_=40:=hr.symm.trans (et (iN l) (et (iN n) (et (iN j) (et (ip o) (et (ai y) (iN B))))))
 exact⟨rfl,bV,e6⟩
 by_cases C:a.aG=5
 obtain⟨fT,aF,dZ,aG,d9⟩:=F3 t
 refine cl L7 (um _ _ a.aG aF (of_decide_eq_true (dT C))) ?_
 rintro _ fU ⟨rfl,aH⟩
 have bW:=aG _ _ aH
 refine Mz rfl (Kz (.agg #[.bool true, .func (.func 184) #[] #[], .func (.func 185) #[] #[], .func (.func 182) #[] #[], .func (.func 186) #[] #[]]) (Kz (.bool true) ?_))
 refine dM [.bool false, .nilFunc, .nilFunc, .nilFunc, .nilFunc] 231 bW ?_
 intro V fV bY
 refine dN [.bool true, .func (.func 184) #[] #[], .func (.func 185) #[] #[], .func (.func 182) #[] #[], .func (.func 186) #[] #[]] 0 bY L0 ?_
 intro fZ bZ
 refine An rfl (FW (FW ?_))
 refine pJ [] (Gb (Gb Gj)) bZ ?_
 intro gm cu
 refine qv 0 rfl rfl (qk (.bool false) 1 rfl (qv 2 rfl rfl (F8 (v:=vP V 1) (rs:= []) 3 rfl rfl rfl rfl e7 (fun _ _=>yk) (F8 (v:= .func (.func 184) #[] #[]) (rs:= []) 4 rfl rfl rfl rfl e7 (fun _ ⟨_,h⟩=>F7 rfl (bX.one L8 (jL.of (h.cls (i:=0) rfl) rfl))) (F8 (v:= .agg (bv.cells a).toArray) (rs:= []) 5 rfl rfl rfl rfl e7 (fun _ ⟨_,h⟩=>F7 rfl (Gf (cs:=(bv.cells a)) L4 L3 ((h.cls (i:=1) rfl).lit (k:=0) (m:=6) rfl))) (F8 (v:= .agg (bv.cells a).toArray) (rs:= []) 7 rfl rfl rfl rfl e7 (fun _ ⟨_,h⟩=>F7 rfl (Gf (cs:=(bv.cells a)) L4 L3 ((h.cls (i:=1) rfl).lit (k:=0) (m:=6) rfl))) ?_))))))
 obtain⟨d,z⟩:∃ q,tO a=q:=⟨_,rfl⟩
 obtain⟨gp,aI,ed,aJ,ek⟩:=F3 cu
 refine Ht 6 rfl rfl rfl rfl e7 (Gr Tryz.call184 rfl rfl (yu _ _ a d aI z) ?_)
 rintro _ gq ⟨rfl,aK⟩
 have s:=aJ _ _ aK
 refine⟨.inr ⟨_,s⟩, ?_⟩
 refine F8 (v:= .bool (decide (¬ ((d.aG=a.aG)∧(d.bW=a.bW)∧(d.aQ=a.aQ)∧(d.bG=a.bG)∧(d.bU=a.bU)∧(d.bS=a.bS))))) (rs:= []) 8 rfl rfl rfl rfl e7 (fun _ _=>Gm (e:= !(decide ((d.aG=a.aG)∧(d.bW=a.bW)∧(d.aQ=a.aQ)∧(d.bG=a.bG)∧(d.bU=a.bU)∧(d.bS=a.bS)))) (Hr rfl rfl e7 rfl (jR.struct L9 e7 (jr.dec (jr.cons (u:=vI d.aG) (v:=vI a.aG) f3 (fun _=>by kernel_rfl) (fun _=>by kernel_rfl) (jR.int B4) (jr.cons (u:= .string ⟨y6 d.bW⟩) (v:= .string ⟨y6 a.bW⟩) f3 (fun _=>by kernel_rfl) (fun _=>by kernel_rfl) (jR.string B5) (jr.cons (u:= .string ⟨y6 d.aQ⟩) (v:= .string ⟨y6 a.aQ⟩) f3 (fun _=>by kernel_rfl) (fun _=>by kernel_rfl) (jR.string B5) (jr.cons (u:= .string ⟨y6 d.bG⟩) (v:= .string ⟨y6 a.bG⟩) f3 (fun _=>by kernel_rfl) (fun _=>by kernel_rfl) (jR.string B5) (jr.cons (u:= .string ⟨y6 d.bU⟩) (v:= .string ⟨y6 a.bU⟩) f3 (fun _=>by kernel_rfl) (fun _=>by kernel_rfl) (jR.string B5) (jr.cons (u:=vI d.bS) (v:=vI a.bS) f3 (fun _=>by kernel_rfl) (fun _=>by kernel_rfl) (jR.int B4) (jr.nil.up (JQ _)))))))) ((congrArg (decide (d.aG=a.aG) && ·) ((congrArg (decide (d.bW=a.bW) && ·) ((congrArg (decide (d.aQ=a.aQ) && ·) ((congrArg (decide (d.bG=a.bG) && ·) ((congrArg (decide (d.bU=a.bU) && ·) qO).trans iZ)).trans iZ)).trans iZ)).trans iZ)).trans iZ)))) decide_not.symm) (qt (v:= .bool (decide (¬ ((d.aG=a.aG)∧(d.bW=a.bW)∧(d.aQ=a.aQ)∧(d.bG=a.bG)∧(d.bU=a.bU)∧(d.bS=a.bS))))) 9 rfl (fun _ _=>FZ rfl rfl rfl) (qn (FY ?_)))
 by_cases E:(d.aG=a.aG)∧(d.bW=a.bW)∧(d.aQ=a.aQ)∧(d.bG=a.bG)∧(d.bU=a.bU)∧(d.bS=a.bS)
 refine jF (dF (JR E)) (sk (sr (Kz (vP V 2) (Lz (.func (.func 185) #[] #[]) s 0 M0 (La (bv.cells a) s 1 L4 L3 ?_)))))
 obtain⟨W,M⟩:∃ q,oz a=q:=⟨_,rfl⟩
 obtain⟨gu,aL,eu,aM,eB⟩:=F3 s
 refine WL.do rfl (Gr Tryz.call185 rfl rfl (sS _ _ a W aL M) ?_)
 rintro _ gy ⟨rfl,aN⟩
 have cz:=aM _ _ aN
 refine An rfl (rt (rs ?_))
 have cB:=cz.pk []
 obtain rfl:_=W:=hr.symm.trans (et (iN l) (et (iN n) (et (iN j) (et (iN o) (et (ip C) (et (ai z) (et (ip E) (ai M))))))))
 exact⟨rfl,cB,e6⟩
 refine jT (dT E) (sr (An rfl (rt (tR (rs ?_)))))
 have cK:=s.pk []
 obtain rfl:_=40:=hr.symm.trans (et (iN l) (et (iN n) (et (iN j) (et (iN o) (et (ip C) (et (ai z) (iN E)))))))
 exact⟨rfl,cK,e6⟩
 obtain⟨gz,aO,eD,aP,eF⟩:=F3 t
 refine cl L7 (tL _ _ a.aG aO e6 e6 e6 e6 e6) ?_
 rintro _ gB ⟨rfl,aQ⟩
 have cO:=aP _ _ aQ
 refine Mz rfl (Kz (.agg #[.bool false, .nilFunc, .nilFunc, .nilFunc, .nilFunc]) (Kz (.bool false) ?_))
 refine dM [.bool false, .nilFunc, .nilFunc, .nilFunc, .nilFunc] 231 cO ?_
 intro gD gF cZ
 refine dN [.bool false, .nilFunc, .nilFunc, .nilFunc, .nilFunc] 0 cZ L0 ?_
 intro gG df
 refine An rfl (FW (FW ?_))
 refine pJ [] (Gb (Gb Gj)) df ?_
 intro gH dh
 refine qv 0 rfl rfl (qk (.bool true) 1 rfl (qv 2 rfl rfl (F5 (rs:= []) 3 rfl rfl rfl rfl e7 (F5 (rs:= []) 4 rfl rfl rfl rfl e7 (F5 (rs:= []) 5 rfl rfl rfl rfl e7 (F5 (rs:= []) 6 rfl rfl rfl rfl e7 (F5 (rs:= []) 7 rfl rfl rfl rfl e7 (F5 (rs:= []) 8 rfl rfl rfl rfl e7 (qt (v:= .bool true) 9 rfl (fun _ _=>Gd rfl rfl rfl) (qn (FY (jt (sr (An rfl (rt (tR (rs ?_)))))))))))))))))
 have di:=dh.pk []
 obtain rfl:_=40:=hr.symm.trans (et (iN l) (et (iN n) (et (iN j) (et (iN o) (iN C)))))
 exact⟨rfl,di,e6⟩
def jM:List bv→Unit ⊕ Int
  | []=>C1 ()
  | b::c=>bnd (ll b) fun a=>if a=0 then jM c else C3 (a)
def qF (l0:List bv):Int:=
 lp (jM l0) fun _=>0
theorem xM (w D o A B l0 L) (H:Own w D w []) (n:Ro w D fun w'=>bA w' 6 o A (q6 bv.cells l0)) (C:A=l0.length) (P:l0.length≤9223372036854775807) (hr:qF l0=L):
    Calls y4 157 #[.slice o A B] w (dR fun v w'=>v=vI L∧Own w D w' []):=by
 subst C
 refine cb Tryz.func157 ?_
 refine sr (An rfl (FW (sr (Mz rfl (Kz (vJ l0.length) (Mn rfl (bo ?_)))))))
 have E:=H.pk []
 obtain⟨F,d⟩:=mZ fun (a:Nat) w'=>Own w D w' []∧a≤l0.length∧jM l0=jM (r6 a l0)
 refine C5 (fun i:Nat=> [(2,vI 0),(8,vJ i),(7,vJ l0.length),(6, .slice o l0.length B)]) F (fun i=>l0.length - i) 0 ⟨rfl,rfl,rfl,rfl,trivial⟩ (d.2 ⟨E,e6,rfl⟩) ?_
 rintro a Q p
 obtain⟨f,M,g⟩:=d.1 p
 refine sr (Kz (.bool (decide (((a:Nat):Int) < ((l0.length:Nat):Int)))) (nt (FW ?_)))
 by_cases r:((a:Nat):Int) < ((l0.length:Nat):Int)
 obtain⟨b,k⟩:=dK (ls:=l0) (i:=a) bv.len f3 (f.ro n) e9
 have l:=drop_at k
 refine jT (dT r) (sk (FW (bo (sr (fw (.pointer (some ⟨ab o,ao o+a *6,none⟩)) (F4 (qz) rfl rfl ((f.ro n).addr (i:=a) e6) e6) (fw (.agg (bv.cells b).toArray) (F7 rfl (Gf (cs:=(bv.cells b)) L4 L3 ((f.ro n).elem bv.len k f3))) ?_))))))
 refine dM [vI 0, .string ⟨y6 ([])⟩, .string ⟨y6 ([])⟩, .string ⟨y6 ([])⟩, .string ⟨y6 ([])⟩,vI 0] 72 f ?_
 intro R S G
 refine dN (bv.cells b) 0 G L3 ?_
 intro T s
 refine ns (La (bv.cells b) s 0 L4 L3 ?_)
 obtain⟨c,h⟩:∃ q,ll b=q:=⟨_,rfl⟩
 obtain⟨U,t,N,u,O⟩:=F3 s
 refine cl M1 (rW _ _ b c t h) ?_
 rintro _ V ⟨rfl,x,m⟩
 have y:=u _ _ x
 replace m: ¬ (c=0)∨(1≤b.aG∧b.aG≤5):=m
 refine Ar rfl (Mz rfl (fw (.bool (decide (¬ (c=0)))) (Gm (e:= !(decide (c=0))) yk decide_not.symm) (nt ?_)))
 by_cases j:c=0
 refine jF (dF (JR j)) (Gn (bN (FY (FV (fw (vJ (a+1)) (FX (e:=C7.wrap (((a:Nat):Int)+1)) yk f1) (Mz rfl (D0 ?_)))))))
 have I:=y.pk []
 exact Gc (a+1) ⟨rfl,rfl,rfl,rfl,trivial⟩ (d.2 ⟨I,e6,et (g) (et (congrArg (fun q=>jM q) l) (et (ai h) (ip j)))⟩) (by show l0.length - (a+1) < l0.length - a; omega)
 refine jT (dT j) (sr (Mz rfl (An rfl (rt (bR (tR (tR (bR (tR (rs ?_))))))))))
 have J:=y.pk []
 obtain rfl:_=c:=hr.symm.trans (jq (et (g) (et (congrArg (fun q=>jM q) l) (et (ai h) (iN j)))))
 exact⟨rfl,J⟩
 refine jF (dF r) (D1 (F6 ?_))
 have z:jM l0=C1 ():=et (g) (et (congrArg (fun q=>jM q) (eZ (ls:=l0) (i:=a) e6)) rfl)
 refine F6 (Gi (FY (sr (An rfl (rt (rs ?_))))))
 have K:=f.pk []
 obtain rfl:_=0:=hr.symm.trans (nU z)
 exact⟨rfl,K⟩
def nZ (l0:List bv):Int:=
 if((l0.length:Nat):Int) < 1 then 3 else if((l0.length:Nat):Int) > 4 then 3 else bnd (qF l0) fun a=>a
theorem wM (w D i j k l0 l) (H:Own w D w []) (m:Ro w D fun w'=>bA w' 6 i j (q6 bv.cells l0)) (n:j=l0.length) (u:l0.length≤9223372036854775807) (hr:nZ l0=l):
    Calls y4 137 #[.slice i j k] w (dR fun v w'=>v=vI l∧Own w D w' []∧(¬ (l=0)∨(1≤l0.length∧l0.length≤4))):=by
 subst n
 refine cb Tryz.func137 ?_
 refine sr (An rfl (FW (sr (Mz rfl (Kz (vJ l0.length) (Kz (.bool (decide (((l0.length:Nat):Int) < 1))) (Mz rfl ?_)))))))
 by_cases a:((l0.length:Nat):Int) < 1
 refine Sz (dT a) (Sz (dT a) (Sz (dT a) (fw (.bool true) (Gd rfl (dT a) rfl) (nt (jt (sr (An rfl (rt (tR (rs ?_))))))))))
 have o:=H.pk []
 obtain rfl:_=3:=hr.symm.trans (ip a)
 exact⟨rfl,o,e6⟩
 refine gw (.slice i l0.length k) (dF a) (F9 rfl) (Gz (vJ l0.length) (dF a) (Gz (.bool (decide (((l0.length:Nat):Int) > 4))) (dF a) (fw (.bool (decide (((l0.length:Nat):Int) > 4))) (FZ rfl (dF a) rfl) (nt ?_))))
 by_cases b:((l0.length:Nat):Int) > 4
 refine jT (dT b) (sr (An rfl (rt (tR (rs ?_)))))
 have p:=H.pk []
 obtain rfl:_=3:=hr.symm.trans (et (iN a) (ip b))
 exact⟨rfl,p,e6⟩
 refine jF (dF b) (sk (sr (Mz rfl ?_)))
 obtain⟨d,c⟩:∃ q,qF l0=q:=⟨_,rfl⟩
 obtain⟨x,e,f,g,t⟩:=F3 H
 refine cl Tryz.call157 (xM _ _ i l0.length k l0 d e (f _ m) rfl e6 c) ?_
 rintro _ y ⟨rfl,h⟩
 have r:=g _ _ h
 refine An rfl (rt (rs ?_))
 have s:=r.pk []
 obtain rfl:_=d:=hr.symm.trans (et (iN a) (et (iN b) (ai c)))
 exact⟨rfl,s,e6⟩
def kU:List bv→Unit ⊕ Bool
  | []=>C1 ()
  | b::c=>bnd (ll b) fun a=>if a=0 then kU c else C3 (false)
def tQ (l0:List bv):Bool:=
 lp (kU l0) fun _=>true
theorem yw (w D o A B l0 L) (H:Own w D w []) (n:Ro w D fun w'=>bA w' 6 o A (q6 bv.cells l0)) (C:A=l0.length) (P:l0.length≤9223372036854775807) (hr:tQ l0=L):
    Calls y4 138 #[.slice o A B, .func (.func 139) #[] #[]] w (dR fun v w'=>v= .bool L∧Own w D w' []):=by
 subst C
 refine cb Tryz.func138 ?_
 refine sr (An rfl (FW (sr (Mz rfl (Kz (vJ l0.length) (Mn rfl (bo ?_)))))))
 have E:=H.pk []
 obtain⟨F,c⟩:=mZ fun (a:Nat) w'=>Own w D w' []∧a≤l0.length∧kU l0=kU (r6 a l0)
 refine C5 (fun i:Nat=> [(4, .bool false),(9,vJ i),(8,vJ l0.length),(7, .slice o l0.length B),(1, .func (.func 139) #[] #[])]) F (fun i=>l0.length - i) 0 ⟨rfl,rfl,rfl,rfl,rfl,trivial⟩ (c.2 ⟨E,e6,rfl⟩) ?_
 rintro a Q p
 obtain⟨d,M,f⟩:=c.1 p
 refine sr (Kz (.bool (decide (((a:Nat):Int) < ((l0.length:Nat):Int)))) (nt (FW ?_)))
 by_cases r:((a:Nat):Int) < ((l0.length:Nat):Int)
 obtain⟨b,k⟩:=dK (ls:=l0) (i:=a) bv.len f3 (d.ro n) e9
 have l:=drop_at k
 refine jT (dT r) (sk (FW (bo (sr (fw (.pointer (some ⟨ab o,ao o+a *6,none⟩)) (F4 (qz) rfl rfl ((d.ro n).addr (i:=a) e6) e6) (fw (.agg (bv.cells b).toArray) (F7 rfl (Gf (cs:=(bv.cells b)) L4 L3 ((d.ro n).elem bv.len k f3))) ?_))))))
 refine dM [vI 0, .string ⟨y6 ([])⟩, .string ⟨y6 ([])⟩, .string ⟨y6 ([])⟩, .string ⟨y6 ([])⟩,vI 0] 72 d ?_
 intro R S G
 refine dN (bv.cells b) 0 G L3 ?_
 intro T s
 refine ns (Mz rfl (La (bv.cells b) s 0 L4 L3 ?_))
 obtain⟨g,h⟩:∃ q,ll b=q:=⟨_,rfl⟩
 obtain⟨U,t,N,u,O⟩:=F3 s
 refine WL.do rfl (Gr M1 rfl rfl (rW _ _ b g t h) ?_)
 rintro _ V ⟨rfl,x,m⟩
 have y:=u _ _ x
 replace m: ¬ (g=0)∨(1≤b.aG∧b.aG≤5):=m
 refine fw (.bool (decide (¬ (g=0)))) (Gm (e:= !(decide (g=0))) yk decide_not.symm) (nt ?_)
 by_cases j:g=0
 refine jF (dF (JR j)) (Gn (bN (FY (FV (fw (vJ (a+1)) (FX (e:=C7.wrap (((a:Nat):Int)+1)) yk f1) (Mz rfl (D0 ?_)))))))
 have I:=y.pk []
 exact Gc (a+1) ⟨rfl,rfl,rfl,rfl,rfl,trivial⟩ (c.2 ⟨I,e6,et (f) (et (congrArg (fun q=>kU q) l) (et (ai h) (ip j)))⟩) (by show l0.length - (a+1) < l0.length - a; omega)
 refine jT (dT j) (sr (An rfl (rt (bR (tR (tR (bR (tR (rs ?_)))))))))
 have J:=y.pk []
 obtain rfl:_=false:=hr.symm.trans (jq (et (f) (et (congrArg (fun q=>kU q) l) (et (ai h) (iN j)))))
 exact⟨rfl,J⟩
 refine jF (dF r) (D1 (F6 ?_))
 have z:kU l0=C1 ():=et (f) (et (congrArg (fun q=>kU q) (eZ (ls:=l0) (i:=a) e6)) rfl)
 refine F6 (Gi (FY (sr (An rfl (rt (rs ?_))))))
 have K:=d.pk []
 obtain rfl:_=true:=hr.symm.trans (nU z)
 exact⟨rfl,K⟩
def vM (a:bv):Bool:=
 if a.aG=1 then false else if a.aG=2 then true else if a.aG=3 then true else if a.aG=4 then false else if a.aG=5 then true else false
theorem zY (w D) (a:bv) (r0) (H:Own w D w []) (hr:vM a=r0):
    Calls y4 159 #[.agg (bv.cells a).toArray] w (dR fun v w'=>v= .bool r0∧Own w D w' []):=by
 refine cb Tryz.func159 ?_
 refine sr ?_
 refine dM (bv.cells a) 72 H ?_
 intro S aV b
 refine Ar rfl (Kz (vP S 0) (Lz (vI a.aG) b 0 C6 ?_))
 by_cases c:a.aG=1
 obtain⟨aW,m,aD,n,aF⟩:=F3 b
 refine cl L7 (uh _ _ a.aG m (of_decide_eq_true (dT c))) ?_
 rintro _ aX ⟨rfl,o⟩
 have T:=n _ _ o
 refine Mz rfl (Kz (.agg #[.bool false, .func (.func 172) #[] #[], .func (.func 173) #[] #[], .func (.func 174) #[] #[], .func (.func 175) #[] #[]]) (Kz (.bool true) ?_))
 refine dM [.bool false, .nilFunc, .nilFunc, .nilFunc, .nilFunc] 231 T ?_
 intro U aY V
 refine dN [.bool false, .func (.func 172) #[] #[], .func (.func 173) #[] #[], .func (.func 174) #[] #[], .func (.func 175) #[] #[]] 0 V L0 ?_
 intro aZ W
 refine An rfl (FW ?_)
 have p:=W.pk [0]
 refine FV (Mz rfl (Mz rfl (Gz (vP U 0) rfl (Gl (.bool false) rfl p 0 M2 (fw (.bool false) (Gd rfl rfl rfl) (An rfl (rt (rs ?_))))))))
 have X:=p.pk []
 obtain rfl:_=false:=hr.symm.trans (ip c)
 exact⟨rfl,X⟩
 by_cases d:a.aG=2
 obtain⟨bf,q,aG,r,aH⟩:=F3 b
 refine cl L7 (uj _ _ a.aG q (of_decide_eq_true (dT d))) ?_
 rintro _ bg ⟨rfl,s⟩
 have Y:=r _ _ s
 refine Mz rfl (Kz (.agg #[.bool true, .func (.func 176) #[] #[], .func (.func 177) #[] #[], .func (.func 174) #[] #[], .func (.func 178) #[] #[]]) (Kz (.bool true) ?_))
 refine dM [.bool false, .nilFunc, .nilFunc, .nilFunc, .nilFunc] 231 Y ?_
 intro Z bi aa
 refine dN [.bool true, .func (.func 176) #[] #[], .func (.func 177) #[] #[], .func (.func 174) #[] #[], .func (.func 178) #[] #[]] 0 aa L0 ?_
 intro bn ae
 refine An rfl (FW ?_)
 have t:=ae.pk [0]
 refine FV (Mz rfl (Mz rfl (Gz (vP Z 0) rfl (Gl (.bool true) rfl t 0 M2 (fw (.bool true) (Gd rfl rfl rfl) (An rfl (rt (rs ?_))))))))
 have af:=t.pk []
 obtain rfl:_=true:=hr.symm.trans (et (iN c) (ip d))
 exact⟨rfl,af⟩
 by_cases e:a.aG=3
 obtain⟨bq,u,aI,x,aJ⟩:=F3 b
 refine cl L7 (uk _ _ a.aG u (of_decide_eq_true (dT e))) ?_
 rintro _ bu ⟨rfl,y⟩
 have ag:=x _ _ y
 refine Mz rfl (Kz (.agg #[.bool true, .func (.func 172) #[] #[], .func (.func 173) #[] #[], .func (.func 174) #[] #[], .func (.func 179) #[] #[]]) (Kz (.bool true) ?_))
 refine dM [.bool false, .nilFunc, .nilFunc, .nilFunc, .nilFunc] 231 ag ?_
 intro ah bz ai
 refine dN [.bool true, .func (.func 172) #[] #[], .func (.func 173) #[] #[], .func (.func 174) #[] #[], .func (.func 179) #[] #[]] 0 ai L0 ?_
 intro bA aj
 refine An rfl (FW ?_)
 have z:=aj.pk [0]
 refine FV (Mz rfl (Mz rfl (Gz (vP ah 0) rfl (Gl (.bool true) rfl z 0 M2 (fw (.bool true) (Gd rfl rfl rfl) (An rfl (rt (rs ?_))))))))
 have ak:=z.pk []
 obtain rfl:_=true:=hr.symm.trans (et (iN c) (et (iN d) (ip e)))
 exact⟨rfl,ak⟩
 by_cases f:a.aG=4
 obtain⟨bB,A,aK,B,aL⟩:=F3 b
 refine cl L7 (ul _ _ a.aG A (of_decide_eq_true (dT f))) ?_
 rintro _ bC ⟨rfl,C⟩
 have au:=B _ _ C
 refine Mz rfl (Kz (.agg #[.bool false, .func (.func 180) #[] #[], .func (.func 181) #[] #[], .func (.func 182) #[] #[], .func (.func 183) #[] #[]]) (Kz (.bool true) ?_))
 refine dM [.bool false, .nilFunc, .nilFunc, .nilFunc, .nilFunc] 231 au ?_
 intro av bD ax
 refine dN [.bool false, .func (.func 180) #[] #[], .func (.func 181) #[] #[], .func (.func 182) #[] #[], .func (.func 183) #[] #[]] 0 ax L0 ?_
 intro bE ay
 refine An rfl (FW ?_)
 have E:=ay.pk [0]
 refine FV (Mz rfl (Mz rfl (Gz (vP av 0) rfl (Gl (.bool false) rfl E 0 M2 (fw (.bool false) (Gd rfl rfl rfl) (An rfl (rt (rs ?_))))))))
 have az:=E.pk []
 obtain rfl:_=false:=hr.symm.trans (et (iN c) (et (iN d) (et (iN e) (ip f))))
 exact⟨rfl,az⟩
 by_cases h:a.aG=5
 obtain⟨bF,F,aM,G,aN⟩:=F3 b
 refine cl L7 (um _ _ a.aG F (of_decide_eq_true (dT h))) ?_
 rintro _ bG ⟨rfl,i⟩
 have I:=G _ _ i
 refine Mz rfl (Kz (.agg #[.bool true, .func (.func 184) #[] #[], .func (.func 185) #[] #[], .func (.func 182) #[] #[], .func (.func 186) #[] #[]]) (Kz (.bool true) ?_))
 refine dM [.bool false, .nilFunc, .nilFunc, .nilFunc, .nilFunc] 231 I ?_
 intro J aO K
 refine dN [.bool true, .func (.func 184) #[] #[], .func (.func 185) #[] #[], .func (.func 182) #[] #[], .func (.func 186) #[] #[]] 0 K L0 ?_
 intro aP L
 refine An rfl (FW ?_)
 have g:=L.pk [0]
 refine FV (Mz rfl (Mz rfl (Gz (vP J 0) rfl (Gl (.bool true) rfl g 0 M2 (fw (.bool true) (Gd rfl rfl rfl) (An rfl (rt (rs ?_))))))))
 have M:=g.pk []
 obtain rfl:_=true:=hr.symm.trans (et (iN c) (et (iN d) (et (iN e) (et (iN f) (ip h)))))
 exact⟨rfl,M⟩
 obtain⟨aQ,j,aA,k,aB⟩:=F3 b
 refine cl L7 (tL _ _ a.aG j e6 e6 e6 e6 e6) ?_
 rintro _ aR ⟨rfl,l⟩
 have N:=k _ _ l
 refine Mz rfl (Kz (.agg #[.bool false, .nilFunc, .nilFunc, .nilFunc, .nilFunc]) (Kz (.bool false) ?_))
 refine dM [.bool false, .nilFunc, .nilFunc, .nilFunc, .nilFunc] 231 N ?_
 intro aS aT O
 refine dN [.bool false, .nilFunc, .nilFunc, .nilFunc, .nilFunc] 0 O L0 ?_
 intro aU P
 refine An rfl (FW ?_)
 have Q:=P.pk [0]
 refine FV (Mz rfl (Mz rfl (Sz rfl (Sz rfl (fw (.bool false) (FZ rfl rfl rfl) (An rfl (rt (rs ?_))))))))
 have R:=Q.pk []
 obtain rfl:_=false:=hr.symm.trans (et (iN c) (et (iN d) (et (iN e) (et (iN f) (iN h)))))
 exact⟨rfl,R⟩
def qG (c:bv):Int:=
 bnd (vM c) fun a=>if a=true then bnd (ll c) fun b=>b else 40
theorem vN (w D) (a:bv) (t) (H:Own w D w []) (hr:qG a=t):
    Calls y4 140 #[.agg (bv.cells a).toArray] w (dR fun v w'=>v=vI t∧Own w D w' []):=by
 refine cb Tryz.func140 ?_
 refine sr ?_
 refine dM (bv.cells a) 72 H ?_
 intro A B i
 refine An rfl (FW (sr (La (bv.cells a) i 0 L4 L3 ?_)))
 obtain⟨f,b⟩:∃ q,vM a=q:=⟨_,rfl⟩
 obtain⟨C,j,u,k,x⟩:=F3 i
 refine cl Tryz.call159 (zY _ _ a f j b) ?_
 rintro _ E ⟨rfl,l⟩
 have g:=k _ _ l
 refine Kz (.bool (!f)) (nt ?_)
 rcases JS (f) with c | c
 refine jF (cn c) (sk (sr (La (bv.cells a) g 0 L4 L3 ?_)))
 obtain⟨h,d⟩:∃ q,ll a=q:=⟨_,rfl⟩
 obtain⟨F,m,y,n,z⟩:=F3 g
 refine cl M1 (rW _ _ a h m d) ?_
 rintro _ G ⟨rfl,o,e⟩
 have p:=n _ _ o
 replace e: ¬ (h=0)∨(1≤a.aG∧a.aG≤5):=e
 refine An rfl (rt (rs ?_))
 have r:=p.pk []
 obtain rfl:_=h:=hr.symm.trans (et (ai b) (et (ip c) (ai d)))
 exact⟨rfl,r⟩
 refine jT (cn c) (sr (An rfl (rt (tR (rs ?_)))))
 have s:=g.pk []
 obtain rfl:_=40:=hr.symm.trans (et (ai b) (gB c))
 exact⟨rfl,s⟩
def kK:List bv→Unit ⊕ Bool
  | []=>C1 ()
  | b::c=>bnd (qG b) fun a=>if a=0 then kK c else C3 (false)
def sU (l0:List bv):Bool:=
 lp (kK l0) fun _=>true
theorem xO (w D n z A l0 K) (H:Own w D w []) (m:Ro w D fun w'=>bA w' 6 n z (q6 bv.cells l0)) (B:z=l0.length) (O:l0.length≤9223372036854775807) (hr:sU l0=K):
    Calls y4 138 #[.slice n z A, .func (.func 140) #[] #[]] w (dR fun v w'=>v= .bool K∧Own w D w' []):=by
 subst B
 refine cb Tryz.func138 ?_
 refine sr (An rfl (FW (sr (Mz rfl (Kz (vJ l0.length) (Mn rfl (bo ?_)))))))
 have C:=H.pk []
 obtain⟨E,c⟩:=mZ fun (a:Nat) w'=>Own w D w' []∧a≤l0.length∧kK l0=kK (r6 a l0)
 refine C5 (fun i:Nat=> [(4, .bool false),(9,vJ i),(8,vJ l0.length),(7, .slice n l0.length A),(1, .func (.func 140) #[] #[])]) E (fun i=>l0.length - i) 0 ⟨rfl,rfl,rfl,rfl,rfl,trivial⟩ (c.2 ⟨C,e6,rfl⟩) ?_
 rintro a P o
 obtain⟨d,L,f⟩:=c.1 o
 refine sr (Kz (.bool (decide (((a:Nat):Int) < ((l0.length:Nat):Int)))) (nt (FW ?_)))
 by_cases p:((a:Nat):Int) < ((l0.length:Nat):Int)
 obtain⟨b,k⟩:=dK (ls:=l0) (i:=a) bv.len f3 (d.ro m) e9
 have l:=drop_at k
 refine jT (dT p) (sk (FW (bo (sr (fw (.pointer (some ⟨ab n,ao n+a *6,none⟩)) (F4 (qz) rfl rfl ((d.ro m).addr (i:=a) e6) e6) (fw (.agg (bv.cells b).toArray) (F7 rfl (Gf (cs:=(bv.cells b)) L4 L3 ((d.ro m).elem bv.len k f3))) ?_))))))
 refine dM [vI 0, .string ⟨y6 ([])⟩, .string ⟨y6 ([])⟩, .string ⟨y6 ([])⟩, .string ⟨y6 ([])⟩,vI 0] 72 d ?_
 intro Q R F
 refine dN (bv.cells b) 0 F L3 ?_
 intro S r
 refine ns (Mz rfl (La (bv.cells b) r 0 L4 L3 ?_))
 obtain⟨h,g⟩:∃ q,qG b=q:=⟨_,rfl⟩
 obtain⟨T,s,M,t,N⟩:=F3 r
 refine WL.do rfl (Gr Tryz.call140 rfl rfl (vN _ _ b h s g) ?_)
 rintro _ U ⟨rfl,u⟩
 have x:=t _ _ u
 refine fw (.bool (decide (¬ (h=0)))) (Gm (e:= !(decide (h=0))) yk decide_not.symm) (nt ?_)
 by_cases j:h=0
 refine jF (dF (JR j)) (Gn (bN (FY (FV (fw (vJ (a+1)) (FX (e:=C7.wrap (((a:Nat):Int)+1)) yk f1) (Mz rfl (D0 ?_)))))))
 have G:=x.pk []
 exact Gc (a+1) ⟨rfl,rfl,rfl,rfl,rfl,trivial⟩ (c.2 ⟨G,e6,et (f) (et (congrArg (fun q=>kK q) l) (et (ai g) (ip j)))⟩) (by show l0.length - (a+1) < l0.length - a; omega)
 refine jT (dT j) (sr (An rfl (rt (bR (tR (tR (bR (tR (rs ?_)))))))))
 have I:=x.pk []
 obtain rfl:_=false:=hr.symm.trans (jq (et (f) (et (congrArg (fun q=>kK q) l) (et (ai g) (iN j)))))
 exact⟨rfl,I⟩
 refine jF (dF p) (D1 (F6 ?_))
 have y:kK l0=C1 ():=et (f) (et (congrArg (fun q=>kK q) (eZ (ls:=l0) (i:=a) e6)) rfl)
 refine F6 (Gi (FY (sr (An rfl (rt (rs ?_))))))
 have J:=d.pk []
 obtain rfl:_=true:=hr.symm.trans (nU y)
 exact⟨rfl,J⟩
def rq (d:Int) (l1:List bv):Bool:=
 if d=1 then bnd (nZ l1) fun a=>decide (a=0) else if d=3 then if((l1.length:Nat):Int) ≥ 1 then if((l1.length:Nat):Int)≤24 then bnd (tQ l1) fun b=>b else false else false else if((l1.length:Nat):Int)≤6 then bnd (sU l1) fun c=>c else false
theorem yx (w D p g G l l1 S) (H:Own w D w []) (m:Ro w D fun w'=>bA w' 6 g G (q6 bv.cells l1)) (I:G=l1.length) (W:l1.length≤9223372036854775807) (hr:rq p l1=S):
    Calls y4 115 #[vI p, .slice g G l] w (dR fun v w'=>v= .bool S∧Own w D w' []):=by
 subst I
 refine cb Tryz.func115 ?_
 refine sr (An rfl (FW (sr (Mn rfl (bo (sr (Kz (.bool (decide (p=1))) (An rfl ?_))))))))
 by_cases b:p=1
 refine jT (dT b) (sr (Mz rfl ?_))
 obtain⟨f,h⟩:∃ q,nZ l1=q:=⟨_,rfl⟩
 obtain⟨X,r,s,t,T⟩:=F3 H
 refine cl Tryz.call137 (wM _ _ g l1.length l l1 f r (s _ m) rfl e6 h) ?_
 rintro _ Y ⟨rfl,u,i⟩
 have J:=t _ _ u
 replace i: ¬ (f=0)∨(1≤l1.length∧l1.length≤4):=i
 refine Kz (.bool (decide (f=0))) (An rfl (rt (bR (tR (rs ?_)))))
 have K:=J.pk []
 obtain rfl:_=decide (f=0):=hr.symm.trans (et (ip b) (ai h))
 exact⟨rfl,K⟩
 refine jF (dF b) (sr (Kz (.bool (decide (p=3))) (An rfl ?_)))
 by_cases e:p=3
 refine jT (dT e) (sr (Mz rfl (Kz (vJ l1.length) (Kz (.bool (decide (((l1.length:Nat):Int) ≥ 1))) (Mz rfl ?_)))))
 by_cases a:((l1.length:Nat):Int) ≥ 1
 refine gw (.slice g l1.length l) (dT a) (F9 rfl) (Gz (vJ l1.length) (dT a) (Gz (.bool (decide (((l1.length:Nat):Int)≤24))) (dT a) (fw (.bool (decide (((l1.length:Nat):Int)≤24))) (Gd rfl (dT a) rfl) (Mz rfl ?_))))
 by_cases c:((l1.length:Nat):Int)≤24
 refine gw (.slice g l1.length l) (dT c) (F9 rfl) ?_
 obtain⟨n,j⟩:∃ q,tQ l1=q:=⟨_,rfl⟩
 obtain⟨Z,x,y,z,U⟩:=F3 H
 refine uZ (dT c) Tryz.call138 (yw _ _ g l1.length l l1 n x (y _ m) rfl e6 j) ?_
 rintro _ aa ⟨rfl,A⟩
 have L:=z _ _ A
 refine fw (.bool n) (Gd rfl (dT c) rfl) (An rfl (rt (bR (tR (rs ?_)))))
 have M:=L.pk []
 obtain rfl:_=n:=hr.symm.trans (et (iN b) (et (ip e) (et (ip a) (et (ip c) (ai j)))))
 exact⟨rfl,M⟩
 refine Sz (dF c) (Sz (dF c) (fw (.bool false) (FZ rfl (dF c) rfl) (An rfl (rt (bR (tR (rs ?_)))))))
 have N:=H.pk []
 obtain rfl:_=false:=hr.symm.trans (et (iN b) (et (ip e) (et (ip a) (iN c))))
 exact⟨rfl,N⟩
 refine Sz (dF a) (Sz (dF a) (Sz (dF a) (fw (.bool false) (FZ rfl (dF a) rfl) (Mz rfl (Sz rfl (Sz rfl (fw (.bool false) (FZ rfl rfl rfl) (An rfl (rt (bR (tR (rs ?_))))))))))))
 have O:=H.pk []
 obtain rfl:_=false:=hr.symm.trans (et (iN b) (et (ip e) (iN a)))
 exact⟨rfl,O⟩
 refine jF (dF e) (Gn (bN (FY (sr (Mz rfl (Kz (vJ l1.length) (Kz (.bool (decide (((l1.length:Nat):Int)≤6))) (Mz rfl ?_))))))))
 by_cases d:((l1.length:Nat):Int)≤6
 refine gw (.slice g l1.length l) (dT d) (F9 rfl) ?_
 obtain⟨o,k⟩:∃ q,sU l1=q:=⟨_,rfl⟩
 obtain⟨ae,B,C,E,V⟩:=F3 H
 refine uZ (dT d) Tryz.call138 (xO _ _ g l1.length l l1 o B (C _ m) rfl e6 k) ?_
 rintro _ af ⟨rfl,F⟩
 have P:=E _ _ F
 refine fw (.bool o) (Gd rfl (dT d) rfl) (An rfl (rt (rs ?_)))
 have Q:=P.pk []
 obtain rfl:_=o:=hr.symm.trans (et (iN b) (et (iN e) (et (ip d) (ai k))))
 exact⟨rfl,Q⟩
 refine Sz (dF d) (Sz (dF d) (fw (.bool false) (FZ rfl (dF d) rfl) (An rfl (rt (rs ?_)))))
 have R:=H.pk []
 obtain rfl:_=false:=hr.symm.trans (et (iN b) (et (iN e) (iN d)))
 exact⟨rfl,R⟩
def lm (b:Int) (a:Int):Bool:=
 if b=1 then if a ≥ 1 then decide (a≤4) else false else if b=2 then if a ≥ 11 then decide (a < 15) else false else decide (a=0)
theorem qH (w D f c l) (H:Own w D w []) (hr:lm f c=l):
    Calls y4 50 #[vI f,vI c] w (dR fun v w'=>v= .bool l∧Own w D w' []):=by
 refine cb Tryz.func50 ?_
 refine sr (An rfl (FW (sr (Mn rfl (bo (sr (Kz (.bool (decide (f=1))) (An rfl ?_))))))))
 by_cases d:f=1
 refine jT (dT d) (sr (Mz rfl (Kz (.bool (decide (c ≥ 1))) (Mz rfl ?_))))
 by_cases a:c ≥ 1
 refine gw (vI c) (dT a) (F9 rfl) (Gz (.bool (decide (c≤4))) (dT a) (fw (.bool (decide (c≤4))) (Gd rfl (dT a) rfl) (An rfl (rt (bR (tR (rs ?_)))))))
 have g:=H.pk []
 obtain rfl:_=decide (c≤4):=hr.symm.trans (et (ip d) (ip a))
 exact⟨rfl,g⟩
 refine Sz (dF a) (Sz (dF a) (fw (.bool false) (FZ rfl (dF a) rfl) (An rfl (rt (bR (tR (rs ?_)))))))
 have h:=H.pk []
 obtain rfl:_=false:=hr.symm.trans (et (ip d) (iN a))
 exact⟨rfl,h⟩
 refine jF (dF d) (sr (Kz (.bool (decide (f=2))) (An rfl ?_)))
 by_cases e:f=2
 refine jT (dT e) (sr (Mz rfl (Kz (.bool (decide (c ≥ 11))) (Mz rfl ?_))))
 by_cases b:c ≥ 11
 refine gw (vI c) (dT b) (F9 rfl) (Gz (.bool (decide (c < 15))) (dT b) (fw (.bool (decide (c < 15))) (Gd rfl (dT b) rfl) (An rfl (rt (bR (tR (rs ?_)))))))
 have i:=H.pk []
 obtain rfl:_=decide (c < 15):=hr.symm.trans (et (iN d) (et (ip e) (ip b)))
 exact⟨rfl,i⟩
 refine Sz (dF b) (Sz (dF b) (fw (.bool false) (FZ rfl (dF b) rfl) (An rfl (rt (bR (tR (rs ?_)))))))
 have j:=H.pk []
 obtain rfl:_=false:=hr.symm.trans (et (iN d) (et (ip e) (iN b)))
 exact⟨rfl,j⟩
 refine jF (dF e) (Gn (bN (FY (sr (Mz rfl (Kz (.bool (decide (c=0))) (An rfl (rt (rs ?_)))))))))
 have k:=H.pk []
 obtain rfl:_=decide (c=0):=hr.symm.trans (et (iN d) (iN e))
 exact⟨rfl,k⟩
def oV (a:bM) (b:Int):Bool:=
 if b=2 then bnd (sO a.aG a.cZ) fun c=>c else if b=3 then bnd (oM a.aG a.ah.ls) fun d=>d else if b=7 then bnd (rq a.aG a.aF.ls) fun e=>e else if b=11 then bnd (kM a.ag.ls) fun f=>decide (f=0) else if b=12 then bnd (lm 1 a.eu) fun g=>g else if b=13 then bnd (ma a.bT) fun h=>decide (h=0) else true
theorem AB (w D) (a:bM) (f z g h B i n j C k o r0) (H:Own w D w []) (N:z=a.aF.ls.length) (O:Ro w D fun w'=>bA w' 6 f a.aF.ls.length (q6 bv.cells a.aF.ls)) (aL:a.aF.ls.length≤g∧a.aF.ls.length≤9223372036854775807) (r:s8 ae.abs n=a.ah.ls) (P:B=a.ah.ls.length) (Q:Ro w D fun w'=>bA w' 3 h a.ah.ls.length (q6 ae.cells n)) (aM:a.ah.ls.length≤i∧a.ah.ls.length≤9223372036854775807) (s:∀ x ∈ n,Ro w D (fun w'=>bA w' 2 x.aj.A x.aj.ls.length (q6 aI.cells x.aj.ls))∧(x.aj.ls.length≤x.aj.c∧x.aj.ls.length≤9223372036854775807)) (R:C=a.ag.ls.length) (S:Ro w D fun w'=>bA w' 2 j a.ag.ls.length (q6 aW.cells a.ag.ls)) (aN:a.ag.ls.length≤k∧a.ag.ls.length≤9223372036854775807) (bJ:a.aF.ls.length≤140737488355328∧a.ah.ls.length≤140737488355328∧a.ag.ls.length≤140737488355328) (hr:oV a o=r0):
    Calls y4 76 #[.agg (gD a.aG a.aH a.eP a.aN a.cZ a.eu a.aO a.ay a.aU a.dW a.aX a.aL a.dH a.bZ a.xN a.d9 a.bT.bG a.bT.bU f z g h B i j C k).toArray,vI o] w (dR fun v w'=>v= .bool r0∧Own w D w' []):=by
 subst N P R
 have aK:=az r
 refine cb Tryz.func76 ?_
 refine sr ?_
 refine dM (gT a f g h i j k) 42 H ?_
 intro d bK b
 refine An rfl (FW (sr (Mn rfl (bo (sr (Kz (.bool (decide (o=2))) (An rfl ?_)))))))
 by_cases e:o=2
 refine jT (dT e) (sr (Kz (vP d 0) (Lz (vI a.aG) b 0 C6 (Kz (vP d 4) (Lz (vI a.cZ) b 0 C6 ?_)))))
 obtain⟨U,E⟩:∃ q,sO a.aG a.cZ=q:=⟨_,rfl⟩
 obtain⟨bL,V,bn,W,bq⟩:=F3 b
 refine cl Tryz.call113 (xI _ _ a.aG a.cZ U V E) ?_
 rintro _ bO ⟨rfl,X⟩
 have aO:=W _ _ X
 refine An rfl (rt (bR (tR (rs ?_))))
 have aP:=aO.pk []
 obtain rfl:_=U:=hr.symm.trans (et (ip e) (ai E))
 exact⟨rfl,aP⟩
 refine jF (dF e) (sr (Kz (.bool (decide (o=3))) (An rfl ?_)))
 by_cases l:o=3
 refine jT (dT l) (sr (Kz (vP d 0) (Lz (vI a.aG) b 0 C6 (Kz (vP d 19) (Lz (.slice h a.ah.ls.length i) b 0 Tryz.isAgg40 ?_)))))
 obtain⟨Y,F⟩:∃ q,oM a.aG a.ah.ls=q:=⟨_,rfl⟩
 obtain⟨bP,Z,G,aa,bu⟩:=F3 b
 refine cl Tryz.call114 (vK _ _ a.aG h a.ah.ls.length i n a.ah.ls Y Z r (G _ Q) (fun x9 h9=>⟨G _ (s x9 h9).1,(s x9 h9).2⟩) rfl e6 F) ?_
 rintro _ bQ ⟨rfl,af⟩
 have aQ:=aa _ _ af
 refine An rfl (rt (bR (tR (rs ?_))))
 have aR:=aQ.pk []
 obtain rfl:_=Y:=hr.symm.trans (et (iN e) (et (ip l) (ai F)))
 exact⟨rfl,aR⟩
 refine jF (dF l) (sr (Kz (.bool (decide (o=7))) (An rfl ?_)))
 by_cases m:o=7
 refine jT (dT m) (sr (Kz (vP d 0) (Lz (vI a.aG) b 0 C6 (Kz (vP d 18) (Lz (.slice f a.aF.ls.length g) b 0 Tryz.isAgg39 ?_)))))
 obtain⟨ag,I⟩:∃ q,rq a.aG a.aF.ls=q:=⟨_,rfl⟩
 obtain⟨bS,ah,aj,ak,bC⟩:=F3 b
 refine cl Tryz.call115 (yx _ _ a.aG f a.aF.ls.length g a.aF.ls ag ah (aj _ O) rfl e6 I) ?_
 rintro _ bT ⟨rfl,au⟩
 have aS:=ak _ _ au
 refine An rfl (rt (bR (tR (rs ?_))))
 have aT:=aS.pk []
 obtain rfl:_=ag:=hr.symm.trans (et (iN e) (et (iN l) (et (ip m) (ai I))))
 exact⟨rfl,aT⟩
 refine jF (dF m) (sr (Kz (.bool (decide (o=11))) (An rfl ?_)))
 by_cases p:o=11
 refine jT (dT p) (sr (Kz (vP d 20) (Lz (.slice j a.ag.ls.length k) b 0 Tryz.isAgg29 ?_)))
 obtain⟨u,J⟩:∃ q,kM a.ag.ls=q:=⟨_,rfl⟩
 obtain⟨bU,av,ax,ay,bD⟩:=F3 b
 refine cl Tryz.call72 (qU _ _ j a.ag.ls.length k a.ag.ls u av (ax _ S) rfl e6 J) ?_
 rintro _ bV ⟨rfl,aA,K⟩
 have aU:=ay _ _ aA
 replace K: ¬ (u=0)∨(1≤a.ag.ls.length∧a.ag.ls.length≤6):=K
 refine Kz (.bool (decide (u=0))) (An rfl (rt (bR (tR (rs ?_)))))
 have aV:=aU.pk []
 obtain rfl:_=decide (u=0):=hr.symm.trans (et (iN e) (et (iN l) (et (iN m) (et (ip p) (ai J)))))
 exact⟨rfl,aV⟩
 refine jF (dF p) (sr (Kz (.bool (decide (o=12))) (An rfl ?_)))
 by_cases t:o=12
 refine jT (dT t) (sr (Kz (vP d 5) (Lz (vI a.eu) b 0 C6 ?_)))
 obtain⟨aB,L⟩:∃ q,lm 1 a.eu=q:=⟨_,rfl⟩
 obtain⟨bW,aC,bE,aD,bF⟩:=F3 b
 refine cl Tryz.call50 (qH _ _ 1 a.eu aB aC L) ?_
 rintro _ bX ⟨rfl,aF⟩
 have aX:=aD _ _ aF
 refine An rfl (rt (bR (tR (rs ?_))))
 have aY:=aX.pk []
 obtain rfl:_=aB:=hr.symm.trans (et (iN e) (et (iN l) (et (iN m) (et (iN p) (et (ip t) (ai L))))))
 exact⟨rfl,aY⟩
 refine jF (dF t) (sr (Kz (.bool (decide (o=13))) (An rfl ?_)))
 by_cases y:o=13
 refine jT (dT y) (sr (Kz (vP d 16) (La (bI.cells a.bT) b 0 L6 L5 ?_)))
 obtain⟨T,M⟩:∃ q,ma a.bT=q:=⟨_,rfl⟩
 obtain⟨bY,aG,bG,aH,bH⟩:=F3 b
 refine cl Tryz.call116 (pV _ _ a.bT T aG M) ?_
 rintro _ bZ ⟨rfl,aJ⟩
 have aZ:=aH _ _ aJ
 refine Kz (.bool (decide (T=0))) (An rfl (rt (bR (tR (rs ?_)))))
 have bf:=aZ.pk []
 obtain rfl:_=decide (T=0):=hr.symm.trans (et (iN e) (et (iN l) (et (iN m) (et (iN p) (et (iN t) (et (ip y) (ai M)))))))
 exact⟨rfl,bf⟩
 refine jF (dF y) (Gn (bN (FY (sr (An rfl (rt (rs ?_)))))))
 have bg:=b.pk []
 obtain rfl:_=true:=hr.symm.trans (et (iN e) (et (iN l) (et (iN m) (et (iN p) (et (iN t) (iN y))))))
 exact⟨rfl,bg⟩
def jX (d:bM):List Int→Unit ⊕ Bool
  | []=>C1 ()
  | b::c=>bnd (oV d b) fun a=>if a=true then jX d c else C3 (false)
def ru (a:bM) (l1:List Int):Bool:=
 lp (jX a l1) fun _=>true
theorem yz (w D) (a:bM) (h z d j B f m l C g R n1 c1 l1 r0) (H:Own w D w []) (G:z=a.aF.ls.length) (I:Ro w D fun w'=>bA w' 6 h a.aF.ls.length (q6 bv.cells a.aF.ls)) (ag:a.aF.ls.length≤d∧a.aF.ls.length≤9223372036854775807) (p:s8 ae.abs m=a.ah.ls) (J:B=a.ah.ls.length) (K:Ro w D fun w'=>bA w' 3 j a.ah.ls.length (q6 ae.cells m)) (ah:a.ah.ls.length≤f∧a.ah.ls.length≤9223372036854775807) (r:∀ x ∈ m,Ro w D (fun w'=>bA w' 2 x.aj.A x.aj.ls.length (q6 aI.cells x.aj.ls))∧(x.aj.ls.length≤x.aj.c∧x.aj.ls.length≤9223372036854775807)) (L:C=a.ag.ls.length) (M:Ro w D fun w'=>bA w' 2 l a.ag.ls.length (q6 aW.cells a.ag.ls)) (aj:a.ag.ls.length≤g∧a.ag.ls.length≤9223372036854775807) (N:Ro w D fun w'=>bA w' 1 R n1 (q6 (eI .i64) l1)) (ak:n1=l1.length) (aJ:l1.length *8≤211106232532992) (aK:a.aF.ls.length≤140737488355328∧a.ah.ls.length≤140737488355328∧a.ag.ls.length≤140737488355328) (hr:ru a l1=r0):
    Calls y4 53 #[.agg (gD a.aG a.aH a.eP a.aN a.cZ a.eu a.aO a.ay a.aU a.dW a.aX a.aL a.dH a.bZ a.xN a.d9 a.bT.bG a.bT.bU h z d j B f l C g).toArray, .slice R n1 c1] w (dR fun v w'=>v= .bool r0∧Own w D w' []):=by
 subst ak G J L
 have Z:=az p
 refine cb Tryz.func53 ?_
 refine sr ?_
 refine dM (gT a h d j f l g) 42 H ?_
 intro O aL au
 refine An rfl (FW (sr (Mz rfl (Kz (vJ l1.length) (Mn rfl (bo ?_))))))
 have av:=au.pf []
 obtain⟨ax,s⟩:=mZ fun (b:Nat) w'=>Own w D w' [blk O (gT a h d j f l g) 42]∧b≤l1.length∧jX a l1=jX a (r6 b l1)
 refine C5 (fun i:Nat=> [(4, .bool false),(9,vJ i),(8,vJ l1.length),(7, .slice R l1.length c1),(2,vP O 0)]) ax (fun i=>l1.length - i) 0 ⟨rfl,rfl,rfl,rfl,rfl,trivial⟩ (s.2 ⟨av,e6,rfl⟩) ?_
 rintro b aM S
 obtain⟨o,aD,t⟩:=s.1 S
 refine sr (Kz (.bool (decide (((b:Nat):Int) < ((l1.length:Nat):Int)))) (nt (FW ?_)))
 by_cases T:((b:Nat):Int) < ((l1.length:Nat):Int)
 obtain⟨P,E⟩:=dK (ls:=l1) (i:=b) iI f3 (o.ro N) e9
 have F:=drop_at E
 refine jT (dT T) (sk (FW (bo (sr (fw (.pointer (some ⟨ab R,ao R+b *1,none⟩)) (F4 (Dy) rfl rfl ((o.ro N).addr (i:=b) e6) e6) (fw (vI P) (F7 rfl (bX.one Tryz.isAgg154 (((o.ro N).elem iI E f3).at_ (k:=0) rfl))) (Ar rfl (La (gT a h d j f l g) o 0 Tryz.isAgg42 Tryz.sizeOf42 (Mz rfl ?_)))))))))
 obtain⟨Q,u⟩:∃ q,oV a P=q:=⟨_,rfl⟩
 obtain⟨aN,U,n,V,aF⟩:=F3 o
 refine cl Tryz.call76 (AB _ _ a h a.aF.ls.length d j a.ah.ls.length f m l a.ag.ls.length g P Q U rfl (n _ I) (show a.aF.ls.length≤d∧a.aF.ls.length≤9223372036854775807 from by omega) p rfl (n _ K) (show a.ah.ls.length≤f∧a.ah.ls.length≤9223372036854775807 from by omega) (fun x9 h9=>⟨n _ (r x9 h9).1,(r x9 h9).2⟩) rfl (n _ M) (show a.ag.ls.length≤g∧a.ag.ls.length≤9223372036854775807 from by omega) i3 u) ?_
 rintro _ aO ⟨rfl,W⟩
 have X:=V _ _ W
 refine Kz (.bool (!Q)) (nt ?_)
 rcases JS (Q) with y | y
 refine jF (cn y) (Gn (bN (FY (FV (fw (vJ (b+1)) (FX (e:=C7.wrap (((b:Nat):Int)+1)) yk f1) (Mz rfl (D0 ?_)))))))
 have ay:=X.pf []
 exact Gc (b+1) ⟨rfl,rfl,rfl,rfl,rfl,trivial⟩ (s.2 ⟨ay,e6,et (t) (et (congrArg (fun q=>jX a q) F) (et (ai u) (ip y)))⟩) (by show l1.length - (b+1) < l1.length - b; omega)
 refine jT (cn y) (sr (An rfl (rt (bR (tR (tR (bR (tR (rs ?_)))))))))
 have aA:=X.pk []
 obtain rfl:_=false:=hr.symm.trans (jq (et (t) (et (congrArg (fun q=>jX a q) F) (et (ai u) (gB y)))))
 exact⟨rfl,aA⟩
 refine jF (dF T) (D1 (F6 ?_))
 have Y:jX a l1=C1 ():=et (t) (et (congrArg (fun q=>jX a q) (eZ (ls:=l1) (i:=b) e6)) rfl)
 refine F6 (Gi (FY (sr (An rfl (rt (rs ?_))))))
 have aB:=o.pk []
 obtain rfl:_=true:=hr.symm.trans (nU Y)
 exact⟨rfl,aB⟩
def qI (a:bM):Bool:=
 if((cO (cO (cO (cO (cO (cO (cO (cO a.aO a.ay) a.aU) a.dW) a.aX) a.aL) a.dH) a.bZ) a.xN:Nat):Int)=0 then if(((a.aF.ls.length+a.ah.ls.length)+a.ag.ls.length:Nat):Int)=0 then if a.aN=0 then if a.cZ=0 then if a.eu=0 then if a.d9=true then false else decide ((a.bT.bG=([]))∧(a.bT.bU=([]))) else false else false else false else false else false
theorem yZ (w D) (a:bM) (l s m n t o r p y q V) (H:Own w D w []) (z:s=a.aF.ls.length) (G:Ro w D fun w'=>bA w' 6 l a.aF.ls.length (q6 bv.cells a.aF.ls)) (I:a.aF.ls.length≤m∧a.aF.ls.length≤9223372036854775807) (B:s8 ae.abs r=a.ah.ls) (C:t=a.ah.ls.length) (J:Ro w D fun w'=>bA w' 3 n a.ah.ls.length (q6 ae.cells r)) (K:a.ah.ls.length≤o∧a.ah.ls.length≤9223372036854775807) (L:∀ x ∈ r,Ro w D (fun w'=>bA w' 2 x.aj.A x.aj.ls.length (q6 aI.cells x.aj.ls))∧(x.aj.ls.length≤x.aj.c∧x.aj.ls.length≤9223372036854775807)) (E:y=a.ag.ls.length) (M:Ro w D fun w'=>bA w' 2 p a.ag.ls.length (q6 aW.cells a.ag.ls)) (N:a.ag.ls.length≤q∧a.ag.ls.length≤9223372036854775807) (ai:a.aF.ls.length≤140737488355328∧a.ah.ls.length≤140737488355328∧a.ag.ls.length≤140737488355328) (hr:qI a=V):
    Calls y4 51 #[.agg (gD a.aG a.aH a.eP a.aN a.cZ a.eu a.aO a.ay a.aU a.dW a.aX a.aL a.dH a.bZ a.xN a.d9 a.bT.bG a.bT.bU l s m n t o p y q).toArray] w (dR fun v w'=>v= .bool V∧Own w D w' []):=by
 subst z C E
 have F:=az B
 refine cb Tryz.func51 ?_
 refine sr ?_
 refine dM (gT a l m n o p q) 42 H ?_
 intro d aj b
 refine Ar rfl (Kz (vP d 6) (Lz (vU a.aO) b 0 E1 (Kz (vP d 7) (Lz (vU a.ay) b 0 E1 ?_))))
 have W:cO a.aO a.ay≤18446744073709551615:=oP _ _
 refine fw (vU (cO a.aO a.ay)) (FX (e:=D3.wrap (((BitVec.ofInt 64 ((a.aO:Nat):Int) ||| BitVec.ofInt 64 ((a.ay:Nat):Int)).toNat:Nat):Int)) yk (fC _)) (Kz (vP d 8) (Lz (vU a.aU) b 0 E1 ?_))
 have X:cO (cO a.aO a.ay) a.aU≤18446744073709551615:=oP _ _
 refine fw (vU (cO (cO a.aO a.ay) a.aU)) (FX (e:=D3.wrap (((BitVec.ofInt 64 ((cO a.aO a.ay:Nat):Int) ||| BitVec.ofInt 64 ((a.aU:Nat):Int)).toNat:Nat):Int)) yk (fC _)) (Kz (vP d 9) (Lz (vU a.dW) b 0 E1 ?_))
 have Y:cO (cO (cO a.aO a.ay) a.aU) a.dW≤18446744073709551615:=oP _ _
 refine fw (.int .u64 ((cO (cO (cO a.aO a.ay) a.aU) a.dW:Nat):Int)) (FX (e:=D3.wrap (((BitVec.ofInt 64 ((cO (cO a.aO a.ay) a.aU:Nat):Int) ||| BitVec.ofInt 64 ((a.dW:Nat):Int)).toNat:Nat):Int)) yk (fC _)) (Kz (vP d 10) (Lz (vU a.aX) b 0 E1 ?_))
 have Z:cO (cO (cO (cO a.aO a.ay) a.aU) a.dW) a.aX≤18446744073709551615:=oP _ _
 refine fw (.int .u64 ((cO (cO (cO (cO a.aO a.ay) a.aU) a.dW) a.aX:Nat):Int)) (FX (e:=D3.wrap (((BitVec.ofInt 64 ((cO (cO (cO a.aO a.ay) a.aU) a.dW:Nat):Int) ||| BitVec.ofInt 64 ((a.aX:Nat):Int)).toNat:Nat):Int)) yk (fC _)) (Kz (vP d 11) (Lz (vU a.aL) b 0 E1 ?_))
 have aa:cO (cO (cO (cO (cO a.aO a.ay) a.aU) a.dW) a.aX) a.aL≤18446744073709551615:=oP _ _
 refine fw (.int .u64 ((cO (cO (cO (cO (cO a.aO a.ay) a.aU) a.dW) a.aX) a.aL:Nat):Int)) (FX (e:=D3.wrap (((BitVec.ofInt 64 ((cO (cO (cO (cO a.aO a.ay) a.aU) a.dW) a.aX:Nat):Int) ||| BitVec.ofInt 64 ((a.aL:Nat):Int)).toNat:Nat):Int)) yk (fC _)) (Kz (vP d 12) (Lz (vU a.dH) b 0 E1 ?_))
 have af:cO (cO (cO (cO (cO (cO a.aO a.ay) a.aU) a.dW) a.aX) a.aL) a.dH≤18446744073709551615:=oP _ _
 refine fw (.int .u64 ((cO (cO (cO (cO (cO (cO a.aO a.ay) a.aU) a.dW) a.aX) a.aL) a.dH:Nat):Int)) (FX (e:=D3.wrap (((BitVec.ofInt 64 ((cO (cO (cO (cO (cO a.aO a.ay) a.aU) a.dW) a.aX) a.aL:Nat):Int) ||| BitVec.ofInt 64 ((a.dH:Nat):Int)).toNat:Nat):Int)) yk (fC _)) (Kz (vP d 13) (Lz (vU a.bZ) b 0 E1 ?_))
 have ag:cO (cO (cO (cO (cO (cO (cO a.aO a.ay) a.aU) a.dW) a.aX) a.aL) a.dH) a.bZ≤18446744073709551615:=oP _ _
 refine fw (.int .u64 ((cO (cO (cO (cO (cO (cO (cO a.aO a.ay) a.aU) a.dW) a.aX) a.aL) a.dH) a.bZ:Nat):Int)) (FX (e:=D3.wrap (((BitVec.ofInt 64 ((cO (cO (cO (cO (cO (cO a.aO a.ay) a.aU) a.dW) a.aX) a.aL) a.dH:Nat):Int) ||| BitVec.ofInt 64 ((a.bZ:Nat):Int)).toNat:Nat):Int)) yk (fC _)) (Kz (vP d 14) (Lz (vU a.xN) b 0 E1 ?_))
 have ah:cO (cO (cO (cO (cO (cO (cO (cO a.aO a.ay) a.aU) a.dW) a.aX) a.aL) a.dH) a.bZ) a.xN≤18446744073709551615:=oP _ _
 refine fw (.int .u64 ((cO (cO (cO (cO (cO (cO (cO (cO a.aO a.ay) a.aU) a.dW) a.aX) a.aL) a.dH) a.bZ) a.xN:Nat):Int)) (FX (e:=D3.wrap (((BitVec.ofInt 64 ((cO (cO (cO (cO (cO (cO (cO a.aO a.ay) a.aU) a.dW) a.aX) a.aL) a.dH) a.bZ:Nat):Int) ||| BitVec.ofInt 64 ((a.xN:Nat):Int)).toNat:Nat):Int)) yk (fC _)) (Ar rfl (Kz (vP d 18) (Lz (.slice l a.aF.ls.length m) b 0 Tryz.isAgg39 (Kz (vJ a.aF.ls.length) (Kz (vP d 19) (Lz (.slice n a.ah.ls.length o) b 0 Tryz.isAgg40 (Kz (vJ a.ah.ls.length) (fw (vJ (a.aF.ls.length+a.ah.ls.length)) (FX (e:=C7.wrap (((a.aF.ls.length:Nat):Int)+((a.ah.ls.length:Nat):Int))) yk f1) (Kz (vP d 20) (Lz (.slice p a.ag.ls.length q) b 0 Tryz.isAgg29 (Kz (vJ a.ag.ls.length) (fw (vJ ((a.aF.ls.length+a.ah.ls.length)+a.ag.ls.length)) (FX (e:=C7.wrap (((a.aF.ls.length+a.ah.ls.length:Nat):Int)+((a.ag.ls.length:Nat):Int))) yk f1) (Ar rfl (Mz rfl (Kz (.bool (decide (((cO (cO (cO (cO (cO (cO (cO (cO a.aO a.ay) a.aU) a.dW) a.aX) a.aL) a.dH) a.bZ) a.xN:Nat):Int)=0))) (Mz rfl ?_))))))))))))))))
 by_cases g:((cO (cO (cO (cO (cO (cO (cO (cO a.aO a.ay) a.aU) a.dW) a.aX) a.aL) a.dH) a.bZ) a.xN:Nat):Int)=0
 refine gw (vJ ((a.aF.ls.length+a.ah.ls.length)+a.ag.ls.length)) (dT g) (F9 rfl) (Gz (.bool (decide ((((a.aF.ls.length+a.ah.ls.length)+a.ag.ls.length:Nat):Int)=0))) (dT g) (fw (.bool (decide ((((a.aF.ls.length+a.ah.ls.length)+a.ag.ls.length:Nat):Int)=0))) (Gd rfl (dT g) rfl) (Mz rfl ?_)))
 by_cases f:(((a.aF.ls.length+a.ah.ls.length)+a.ag.ls.length:Nat):Int)=0
 refine Gz (vP d 3) (dT f) (Gl (vI a.aN) (dT f) b 0 C6 (Gz (.bool (decide (a.aN=0))) (dT f) (fw (.bool (decide (a.aN=0))) (Gd rfl (dT f) rfl) (Mz rfl ?_))))
 by_cases h:a.aN=0
 refine Gz (vP d 4) (dT h) (Gl (vI a.cZ) (dT h) b 0 C6 (Gz (.bool (decide (a.cZ=0))) (dT h) (fw (.bool (decide (a.cZ=0))) (Gd rfl (dT h) rfl) (Mz rfl ?_))))
 by_cases j:a.cZ=0
 refine Gz (vP d 5) (dT j) (Gl (vI a.eu) (dT j) b 0 C6 (Gz (.bool (decide (a.eu=0))) (dT j) (fw (.bool (decide (a.eu=0))) (Gd rfl (dT j) rfl) (Mz rfl ?_))))
 by_cases k:a.eu=0
 refine Gz (vP d 15) (dT k) (Gl (.bool a.d9) (dT k) b 0 M2 (Gz (.bool (!a.d9)) (dT k) (fw (.bool (!a.d9)) (Gd rfl (dT k) rfl) (Mz rfl ?_))))
 rcases JS (a.d9) with i | i
 refine Sz (cn i) (Sz (cn i) (Sz (cn i) (Sz (cn i) (fw (.bool false) (FZ rfl (cn i) rfl) (An rfl (rt (rs ?_)))))))
 have O:=b.pk []
 obtain rfl:_=false:=hr.symm.trans (et (ip g) (et (ip f) (et (ip h) (et (ip j) (et (ip k) (ip i))))))
 exact⟨rfl,O⟩
 refine Gz (vP d 16) (cn i) (Ga (bI.cells a.bT) (cn i) b 0 L6 L5 (Gz (.agg #[.string ⟨y6 ([])⟩, .string ⟨y6 ([])⟩]) (cn i) (gw (.bool (decide ((a.bT.bG=([]))∧(a.bT.bU=([]))))) (cn i) (Jk rfl rfl e7 rfl (jR.struct Tryz.underlying38 e7 (jr.dec (jr.cons (u:= .string ⟨y6 a.bT.bG⟩) (v:= .string ⟨y6 ([])⟩) f3 (fun _=>by kernel_rfl) (fun _=>by kernel_rfl) (jR.string B5) (jr.cons (u:= .string ⟨y6 a.bT.bU⟩) (v:= .string ⟨y6 ([])⟩) f3 (fun _=>by kernel_rfl) (fun _=>by kernel_rfl) (jR.string B5) (jr.nil.up (JQ _)))) ((congrArg (decide (a.bT.bG=([])) && ·) qO).trans iZ)))) (fw (.bool (decide ((a.bT.bG=([]))∧(a.bT.bU=([]))))) (Gd rfl (cn i) rfl) (An rfl (rt (rs ?_)))))))
 have P:=b.pk []
 obtain rfl:_=decide ((a.bT.bG=([]))∧(a.bT.bU=([]))):=hr.symm.trans (et (ip g) (et (ip f) (et (ip h) (et (ip j) (et (ip k) (gB i))))))
 exact⟨rfl,P⟩
 refine Sz (dF k) (Sz (dF k) (Sz (dF k) (fw (.bool false) (FZ rfl (dF k) rfl) (Mz rfl (Sz rfl (Sz rfl (Sz rfl (Sz rfl (fw (.bool false) (FZ rfl rfl rfl) (An rfl (rt (rs ?_))))))))))))
 have Q:=b.pk []
 obtain rfl:_=false:=hr.symm.trans (et (ip g) (et (ip f) (et (ip h) (et (ip j) (iN k)))))
 exact⟨rfl,Q⟩
 refine Sz (dF j) (Sz (dF j) (Sz (dF j) (fw (.bool false) (FZ rfl (dF j) rfl) (Mz rfl (Sz rfl (Sz rfl (Sz rfl (fw (.bool false) (FZ rfl rfl rfl) (Mz rfl (Sz rfl (Sz rfl (Sz rfl (Sz rfl (fw (.bool false) (FZ rfl rfl rfl) (An rfl (rt (rs ?_)))))))))))))))))
 have R:=b.pk []
 obtain rfl:_=false:=hr.symm.trans (et (ip g) (et (ip f) (et (ip h) (iN j))))
 exact⟨rfl,R⟩
 refine Sz (dF h) (Sz (dF h) (Sz (dF h) (fw (.bool false) (FZ rfl (dF h) rfl) (Mz rfl (Sz rfl (Sz rfl (Sz rfl (fw (.bool false) (FZ rfl rfl rfl) (Mz rfl (Sz rfl (Sz rfl (Sz rfl (fw (.bool false) (FZ rfl rfl rfl) (Mz rfl (Sz rfl (Sz rfl (Sz rfl (Sz rfl (fw (.bool false) (FZ rfl rfl rfl) (An rfl (rt (rs ?_))))))))))))))))))))))
 have S:=b.pk []
 obtain rfl:_=false:=hr.symm.trans (et (ip g) (et (ip f) (iN h)))
 exact⟨rfl,S⟩
 refine Sz (dF f) (Sz (dF f) (Sz (dF f) (fw (.bool false) (FZ rfl (dF f) rfl) (Mz rfl (Sz rfl (Sz rfl (Sz rfl (fw (.bool false) (FZ rfl rfl rfl) (Mz rfl (Sz rfl (Sz rfl (Sz rfl (fw (.bool false) (FZ rfl rfl rfl) (Mz rfl (Sz rfl (Sz rfl (Sz rfl (fw (.bool false) (FZ rfl rfl rfl) (Mz rfl (Sz rfl (Sz rfl (Sz rfl (Sz rfl (fw (.bool false) (FZ rfl rfl rfl) (An rfl (rt (rs ?_)))))))))))))))))))))))))))
 have T:=b.pk []
 obtain rfl:_=false:=hr.symm.trans (et (ip g) (iN f))
 exact⟨rfl,T⟩
 refine Sz (dF g) (Sz (dF g) (fw (.bool false) (FZ rfl (dF g) rfl) (Mz rfl (Sz rfl (Sz rfl (Sz rfl (fw (.bool false) (FZ rfl rfl rfl) (Mz rfl (Sz rfl (Sz rfl (Sz rfl (fw (.bool false) (FZ rfl rfl rfl) (Mz rfl (Sz rfl (Sz rfl (Sz rfl (fw (.bool false) (FZ rfl rfl rfl) (Mz rfl (Sz rfl (Sz rfl (Sz rfl (fw (.bool false) (FZ rfl rfl rfl) (Mz rfl (Sz rfl (Sz rfl (Sz rfl (Sz rfl (fw (.bool false) (FZ rfl rfl rfl) (An rfl (rt (rs ?_)))))))))))))))))))))))))))))))
 have U:=b.pk []
 obtain rfl:_=false:=hr.symm.trans (iN g)
 exact⟨rfl,U⟩
end Go.Proofs.YtbkagebjhbphaaaGreat
