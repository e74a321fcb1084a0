/-
 wire: which messages may be.
-/
import Derived.Test.YtccjclalngabhaaGreatWa
namespace Go.Proofs.YtccjclalngabhaaGreat
set_option maxRecDepth 100000
open Go.RowKit
set_option linter.unusedVariables false
set_option linter.unusedSectionVars false
set_option linter.unusedSimpArgs false
theorem uh:Elem Tryz.prog 48 93 1 8:=kT (z:= .int .i64 0) Tryz.underlying48 (by kernel_rfl) rfl (by decide)
structure jk where
 gN:Int
 jA:Int
 aJ:Sv Int
def jk.cells (x:jk):List Value:= [.int .i64 x.gN, .int .i64 x.jA, .slice x.aJ.A x.aJ.ls.length x.aJ.c]
instance:Bk jk:=⟨fun x _=>bk x.gN+(bk x.jA+(bk x.aJ+(0)))⟩
theorem jk.len:∀ x,(jk.cells x).length=3:=fun _=>rfl
theorem jk.one:∀ x, ∀ u ∈ jk.cells x,u.oneCell'=true:=fun x u hu=>by
 simp only [jk.cells,List.mem_cons,List.not_mem_nil,or_false] at hu
 rcases hu with rfl | rfl | rfl <;> rfl
def Bo (w:World) (x:jk):Prop:=((-9223372036854775808)≤x.gN∧x.gN≤9223372036854775807)∧((-9223372036854775808)≤x.jA∧x.jA≤9223372036854775807)∧(nO w 1 8 (eI .i64) (fun n=>(-9223372036854775808)≤n∧n≤9223372036854775807) x.aJ)
instance:Inhabited jk:=⟨⟨default,default,default⟩⟩
structure dM where
 gN:Int
 jA:Int
 aJ:Ll Int
instance:Inhabited dM:=⟨⟨default,default,default⟩⟩
def Bi (x:jk):dM:=⟨x.gN,x.jA,⟨x.aJ.ls⟩⟩
def Bj (x:jk):List HP:= [row x.aJ.A x.aJ.ls.length x.aJ.c (List.flatMap (eI .i64) x.aJ.ls) 93 1]
def bY (a:Int):dM × Bool:=
 if a≤0 then(dM.mk 0 0 (Ll.mk ([])),false) else if a ≥ 15 then(dM.mk 0 0 (Ll.mk ([])),false) else if((Int.toNat a:Nat):Int)=1 then(dM.mk 2 0 (Ll.mk ([0,1,7])),true) else if((Int.toNat a:Nat):Int)=2 then(dM.mk 0 2 (Ll.mk ([0,1,2,3])),true) else if((Int.toNat a:Nat):Int)=3 then(dM.mk 0 1 (Ll.mk ([4,5,6,7])),true) else if((Int.toNat a:Nat):Int)=4 then(dM.mk 1 0 (Ll.mk ([4,2,3])),true) else if((Int.toNat a:Nat):Int)=5 then(dM.mk 0 1 (Ll.mk ([4,8])),true) else if((Int.toNat a:Nat):Int)=6 then(dM.mk 1 0 (Ll.mk ([4])),true) else if((Int.toNat a:Nat):Int)=7 then(dM.mk 1 0 (Ll.mk ([4])),true) else if((Int.toNat a:Nat):Int)=8 then(dM.mk 0 1 (Ll.mk ([9,6,10,11])),true) else if((Int.toNat a:Nat):Int)=9 then(dM.mk 1 0 (Ll.mk ([9])),true) else if((Int.toNat a:Nat):Int)=10 then(dM.mk 0 1 (Ll.mk ([9,10,12,8,13])),true) else if((Int.toNat a:Nat):Int)=11 then(dM.mk 1 1 (Ll.mk ([10,14,15,13,7])),true) else if((Int.toNat a:Nat):Int)=12 then(dM.mk 1 1 (Ll.mk ([10,14,15])),true) else if((Int.toNat a:Nat):Int)=13 then(dM.mk 1 0 (Ll.mk ([10])),true) else(dM.mk 1 0 (Ll.mk ([10])),true)
theorem lC (w:World) (D:Nat→Prop) (b:Int) (r0:dM) (r1:Bool) (H:Own w D w []) (hr:bY b=(r0,r1)):
    Calls Tryz.prog 19 #[.int .i64 b] w (cO fun v w'=> ∃ (O:Option Addr) (P:Nat),v= .tuple #[.agg #[.int .i64 r0.gN, .int .i64 r0.jA, .slice O r0.aJ.ls.length P], .bool r1]∧Own w D w' [row O r0.aJ.ls.length P (List.flatMap (eI .i64) r0.aJ.ls) 93 1]∧(r0.aJ.ls.length≤5)):=by
 refine yR (args:= [.int .i64 b]) Tryz.func19 rfl rfl rfl ?_
 show Wp _ _ _ [(0, .int .i64 b)] _ _
 refine sr ?_
 refine dE [.int .i64 0, .int .i64 0, .slice none 0 0] 50 H ?_
 intro aF df bv
 refine Ar rfl ?_
 refine iX [.int .i64 0, .int .i64 1, .int .i64 7] 93 1 3 bv ?_
 intro l dh ag
 replace ag:=zi (y:=row l 3 3 (List.flatMap (eI .i64) ([0,1,7])) 93 1) rfl ag
 refine Kz (.agg #[.int .i64 2, .int .i64 0, .slice l 3 3]) ?_
 refine iX [.int .i64 0, .int .i64 1, .int .i64 2, .int .i64 3] 93 1 4 ag ?_
 intro n di ah
 replace ah:=zi (y:=row n 4 4 (List.flatMap (eI .i64) ([0,1,2,3])) 93 1) rfl ah
 refine Kz (.agg #[.int .i64 0, .int .i64 2, .slice n 4 4]) ?_
 refine iX [.int .i64 4, .int .i64 5, .int .i64 6, .int .i64 7] 93 1 4 ah ?_
 intro o dm ai
 replace ai:=zi (y:=row o 4 4 (List.flatMap (eI .i64) ([4,5,6,7])) 93 1) rfl ai
 refine Kz (.agg #[.int .i64 0, .int .i64 1, .slice o 4 4]) ?_
 refine iX [.int .i64 4, .int .i64 2, .int .i64 3] 93 1 3 ai ?_
 intro p dn aj
 replace aj:=zi (y:=row p 3 3 (List.flatMap (eI .i64) ([4,2,3])) 93 1) rfl aj
 refine Kz (.agg #[.int .i64 1, .int .i64 0, .slice p 3 3]) ?_
 refine iX [.int .i64 4, .int .i64 8] 93 1 2 aj ?_
 intro q dw ak
 replace ak:=zi (y:=row q 2 2 (List.flatMap (eI .i64) ([4,8])) 93 1) rfl ak
 refine Kz (.agg #[.int .i64 0, .int .i64 1, .slice q 2 2]) ?_
 refine iX [.int .i64 4] 93 1 1 ak ?_
 intro r dx au
 replace au:=zi (y:=row r 1 1 (List.flatMap (eI .i64) ([4])) 93 1) rfl au
 refine Kz (.agg #[.int .i64 1, .int .i64 0, .slice r 1 1]) ?_
 refine iX [.int .i64 4] 93 1 1 au ?_
 intro s dz av
 replace av:=zi (y:=row s 1 1 (List.flatMap (eI .i64) ([4])) 93 1) rfl av
 refine Kz (.agg #[.int .i64 1, .int .i64 0, .slice s 1 1]) ?_
 refine iX [.int .i64 9, .int .i64 6, .int .i64 10, .int .i64 11] 93 1 4 av ?_
 intro t dA ax
 replace ax:=zi (y:=row t 4 4 (List.flatMap (eI .i64) ([9,6,10,11])) 93 1) rfl ax
 refine Kz (.agg #[.int .i64 0, .int .i64 1, .slice t 4 4]) ?_
 refine iX [.int .i64 9] 93 1 1 ax ?_
 intro u dB ay
 replace ay:=zi (y:=row u 1 1 (List.flatMap (eI .i64) ([9])) 93 1) rfl ay
 refine Kz (.agg #[.int .i64 1, .int .i64 0, .slice u 1 1]) ?_
 refine iX [.int .i64 9, .int .i64 10, .int .i64 12, .int .i64 8, .int .i64 13] 93 1 5 ay ?_
 intro x dC az
 replace az:=zi (y:=row x 5 5 (List.flatMap (eI .i64) ([9,10,12,8,13])) 93 1) rfl az
 refine Kz (.agg #[.int .i64 0, .int .i64 1, .slice x 5 5]) ?_
 refine iX [.int .i64 10, .int .i64 14, .int .i64 15, .int .i64 13, .int .i64 7] 93 1 5 az ?_
 intro z dD aA
 replace aA:=zi (y:=row z 5 5 (List.flatMap (eI .i64) ([10,14,15,13,7])) 93 1) rfl aA
 refine Kz (.agg #[.int .i64 1, .int .i64 1, .slice z 5 5]) ?_
 refine iX [.int .i64 10, .int .i64 14, .int .i64 15] 93 1 3 aA ?_
 intro A dG aB
 replace aB:=zi (y:=row A 3 3 (List.flatMap (eI .i64) ([10,14,15])) 93 1) rfl aB
 refine Kz (.agg #[.int .i64 1, .int .i64 1, .slice A 3 3]) ?_
 refine iX [.int .i64 10] 93 1 1 aB ?_
 intro B dH aC
 replace aC:=zi (y:=row B 1 1 (List.flatMap (eI .i64) ([10])) 93 1) rfl aC
 refine Kz (.agg #[.int .i64 1, .int .i64 0, .slice B 1 1]) ?_
 refine iX [.int .i64 10] 93 1 1 aC ?_
 intro C dI aD
 replace aD:=zi (y:=row C 1 1 (List.flatMap (eI .i64) ([10])) 93 1) rfl aD
 refine Kz (.agg #[.int .i64 1, .int .i64 0, .slice C 1 1]) (Kz (.agg #[.int .i64 0, .int .i64 0, .slice none 0 0, .int .i64 2, .int .i64 0, .slice l 3 3, .int .i64 0, .int .i64 2, .slice n 4 4, .int .i64 0, .int .i64 1, .slice o 4 4, .int .i64 1, .int .i64 0, .slice p 3 3, .int .i64 0, .int .i64 1, .slice q 2 2, .int .i64 1, .int .i64 0, .slice r 1 1, .int .i64 1, .int .i64 0, .slice s 1 1, .int .i64 0, .int .i64 1, .slice t 4 4, .int .i64 1, .int .i64 0, .slice u 1 1, .int .i64 0, .int .i64 1, .slice x 5 5, .int .i64 1, .int .i64 1, .slice z 5 5, .int .i64 1, .int .i64 1, .slice A 3 3, .int .i64 1, .int .i64 0, .slice B 1 1, .int .i64 1, .int .i64 0, .slice C 1 1]) ?_)
 refine dE [.int .i64 0, .int .i64 0, .slice none 0 0, .int .i64 0, .int .i64 0, .slice none 0 0, .int .i64 0, .int .i64 0, .slice none 0 0, .int .i64 0, .int .i64 0, .slice none 0 0, .int .i64 0, .int .i64 0, .slice none 0 0, .int .i64 0, .int .i64 0, .slice none 0 0, .int .i64 0, .int .i64 0, .slice none 0 0, .int .i64 0, .int .i64 0, .slice none 0 0, .int .i64 0, .int .i64 0, .slice none 0 0, .int .i64 0, .int .i64 0, .slice none 0 0, .int .i64 0, .int .i64 0, .slice none 0 0, .int .i64 0, .int .i64 0, .slice none 0 0, .int .i64 0, .int .i64 0, .slice none 0 0, .int .i64 0, .int .i64 0, .slice none 0 0, .int .i64 0, .int .i64 0, .slice none 0 0] 94 aD ?_
 intro f dJ bA
 refine bz [.int .i64 0, .int .i64 0, .slice none 0 0, .int .i64 2, .int .i64 0, .slice l 3 3, .int .i64 0, .int .i64 2, .slice n 4 4, .int .i64 0, .int .i64 1, .slice o 4 4, .int .i64 1, .int .i64 0, .slice p 3 3, .int .i64 0, .int .i64 1, .slice q 2 2, .int .i64 1, .int .i64 0, .slice r 1 1, .int .i64 1, .int .i64 0, .slice s 1 1, .int .i64 0, .int .i64 1, .slice t 4 4, .int .i64 1, .int .i64 0, .slice u 1 1, .int .i64 0, .int .i64 1, .slice x 5 5, .int .i64 1, .int .i64 1, .slice z 5 5, .int .i64 1, .int .i64 1, .slice A 3 3, .int .i64 1, .int .i64 0, .slice B 1 1, .int .i64 1, .int .i64 0, .slice C 1 1] 0 bA Tryz.sizeOf94 ?_
 intro dK a
 refine nt (yJ (sr (Mz rfl (Kz (.bool (decide (b≤0))) (Mz rfl ?_)))))
 by_cases c:b≤0
 refine Sz (dT c) (Sz (dT c) (fw (.bool true) (yN rfl (dT c) rfl) (nt (jt (sr (Kz (.agg #[.int .i64 0, .int .i64 0, .slice none 0 0]) ?_))))))
 have bB:=a.pk [15,0,1,2,3,4,5,6,7,8,9,10,11,12,13,14]
 refine bz [.int .i64 0, .int .i64 0, .slice none 0 0] 0 bB Tryz.sizeOf50 ?_
 intro bC aG
 refine An rfl (rt (tR (y9 (iq (vs:= [.agg #[.int .i64 0, .int .i64 0, .slice none 0 0], .bool false]) rfl (bT.cell rfl (zg (cs:= [.int .i64 0, .int .i64 0, .slice none 0 0]) Tryz.isAgg50 Tryz.sizeOf50 ((aG.cls (i:=0) rfl).lit (k:=0) (m:=3) rfl)) (bT.tmp rfl bT.nil)) (BH rfl)) ?_)))
 have bD:Own w D bC [row none 0 0 (List.flatMap (eI .i64) ([])) 93 1,blk aF [.int .i64 0, .int .i64 0, .slice none 0 0] 50,blk f [.int .i64 0, .int .i64 0, .slice none 0 0, .int .i64 2, .int .i64 0, .slice l 3 3, .int .i64 0, .int .i64 2, .slice n 4 4, .int .i64 0, .int .i64 1, .slice o 4 4, .int .i64 1, .int .i64 0, .slice p 3 3, .int .i64 0, .int .i64 1, .slice q 2 2, .int .i64 1, .int .i64 0, .slice r 1 1, .int .i64 1, .int .i64 0, .slice s 1 1, .int .i64 0, .int .i64 1, .slice t 4 4, .int .i64 1, .int .i64 0, .slice u 1 1, .int .i64 0, .int .i64 1, .slice x 5 5, .int .i64 1, .int .i64 1, .slice z 5 5, .int .i64 1, .int .i64 1, .slice A 3 3, .int .i64 1, .int .i64 0, .slice B 1 1, .int .i64 1, .int .i64 0, .slice C 1 1] 94,row C 1 1 (List.flatMap (eI .i64) ([10])) 93 1,row B 1 1 (List.flatMap (eI .i64) ([10])) 93 1,row A 3 3 (List.flatMap (eI .i64) ([10,14,15])) 93 1,row z 5 5 (List.flatMap (eI .i64) ([10,14,15,13,7])) 93 1,row x 5 5 (List.flatMap (eI .i64) ([9,10,12,8,13])) 93 1,row u 1 1 (List.flatMap (eI .i64) ([9])) 93 1,row t 4 4 (List.flatMap (eI .i64) ([9,6,10,11])) 93 1,row s 1 1 (List.flatMap (eI .i64) ([4])) 93 1,row r 1 1 (List.flatMap (eI .i64) ([4])) 93 1,row q 2 2 (List.flatMap (eI .i64) ([4,8])) 93 1,row p 3 3 (List.flatMap (eI .i64) ([4,2,3])) 93 1,row o 4 4 (List.flatMap (eI .i64) ([4,5,6,7])) 93 1,row n 4 4 (List.flatMap (eI .i64) ([0,1,2,3])) 93 1,row l 3 3 (List.flatMap (eI .i64) ([0,1,7])) 93 1]:=aG.free (bP 93 1)
 have bE:=bD.pk [0]
 have e:bY b=(dM.mk 0 0 (Ll.mk ([])),false):=ip c
 obtain⟨rfl,rfl⟩:=dN (e.symm.trans hr)
 exact⟨none,0,rfl,bE,(by first | omega | exact BH rfl)⟩
 refine gw (.int .i64 b) (dF c) (yO rfl) (Gz (.bool (decide (b ≥ 15))) (dF c) (fw (.bool (decide (b ≥ 15))) (yM rfl (dF c) rfl) (nt ?_)))
 by_cases d:b ≥ 15
 refine jT (dT d) (sr (Kz (.agg #[.int .i64 0, .int .i64 0, .slice none 0 0]) ?_))
 have bF:=a.pk [15,0,1,2,3,4,5,6,7,8,9,10,11,12,13,14]
 refine bz [.int .i64 0, .int .i64 0, .slice none 0 0] 0 bF Tryz.sizeOf50 ?_
 intro bG aH
 refine An rfl (rt (tR (y9 (iq (vs:= [.agg #[.int .i64 0, .int .i64 0, .slice none 0 0], .bool false]) rfl (bT.cell rfl (zg (cs:= [.int .i64 0, .int .i64 0, .slice none 0 0]) Tryz.isAgg50 Tryz.sizeOf50 ((aH.cls (i:=0) rfl).lit (k:=0) (m:=3) rfl)) (bT.tmp rfl bT.nil)) (BH rfl)) ?_)))
 have bH:Own w D bG [row none 0 0 (List.flatMap (eI .i64) ([])) 93 1,blk aF [.int .i64 0, .int .i64 0, .slice none 0 0] 50,blk f [.int .i64 0, .int .i64 0, .slice none 0 0, .int .i64 2, .int .i64 0, .slice l 3 3, .int .i64 0, .int .i64 2, .slice n 4 4, .int .i64 0, .int .i64 1, .slice o 4 4, .int .i64 1, .int .i64 0, .slice p 3 3, .int .i64 0, .int .i64 1, .slice q 2 2, .int .i64 1, .int .i64 0, .slice r 1 1, .int .i64 1, .int .i64 0, .slice s 1 1, .int .i64 0, .int .i64 1, .slice t 4 4, .int .i64 1, .int .i64 0, .slice u 1 1, .int .i64 0, .int .i64 1, .slice x 5 5, .int .i64 1, .int .i64 1, .slice z 5 5, .int .i64 1, .int .i64 1, .slice A 3 3, .int .i64 1, .int .i64 0, .slice B 1 1, .int .i64 1, .int .i64 0, .slice C 1 1] 94,row C 1 1 (List.flatMap (eI .i64) ([10])) 93 1,row B 1 1 (List.flatMap (eI .i64) ([10])) 93 1,row A 3 3 (List.flatMap (eI .i64) ([10,14,15])) 93 1,row z 5 5 (List.flatMap (eI .i64) ([10,14,15,13,7])) 93 1,row x 5 5 (List.flatMap (eI .i64) ([9,10,12,8,13])) 93 1,row u 1 1 (List.flatMap (eI .i64) ([9])) 93 1,row t 4 4 (List.flatMap (eI .i64) ([9,6,10,11])) 93 1,row s 1 1 (List.flatMap (eI .i64) ([4])) 93 1,row r 1 1 (List.flatMap (eI .i64) ([4])) 93 1,row q 2 2 (List.flatMap (eI .i64) ([4,8])) 93 1,row p 3 3 (List.flatMap (eI .i64) ([4,2,3])) 93 1,row o 4 4 (List.flatMap (eI .i64) ([4,5,6,7])) 93 1,row n 4 4 (List.flatMap (eI .i64) ([0,1,2,3])) 93 1,row l 3 3 (List.flatMap (eI .i64) ([0,1,7])) 93 1]:=aH.free (bP 93 1)
 have bI:=bH.pk [0]
 have e:bY b=(dM.mk 0 0 (Ll.mk ([])),false):=et (iN c) (ip d)
 obtain⟨rfl,rfl⟩:=dN (e.symm.trans hr)
 exact⟨none,0,rfl,bI,(by first | omega | exact BH rfl)⟩
 refine jF (dF d) (sk (sr (fw (.int .i64 ((Int.toNat b:Nat):Int)) (yS (e:=b) (yO rfl) (by omega)) ?_)))
 by_cases h:((Int.toNat b:Nat):Int)=1
 refine fw (.pointer (some ⟨f,3,none⟩)) (by rw [show ((Int.toNat b:Nat):Int)=1 from by omega]; exact yk) (La ([.int .i64 2, .int .i64 0, .slice l 3 3]) a 0 Tryz.isAgg50 Tryz.sizeOf50 ?_)
 have bJ:=a.pk [15,0,1,2,3,4,5,6,7,8,9,10,11,12,13,14]
 refine bz [.int .i64 2, .int .i64 0, .slice l 3 3] 0 bJ Tryz.sizeOf50 ?_
 intro dL aI
 refine An rfl (rt (y9 (iq (vs:= [.agg #[.int .i64 2, .int .i64 0, .slice l 3 3], .bool true]) rfl (bT.cell rfl (zg (cs:= [.int .i64 2, .int .i64 0, .slice l 3 3]) Tryz.isAgg50 Tryz.sizeOf50 ((aI.cls (i:=0) rfl).lit (k:=0) (m:=3) rfl)) (bT.tmp rfl bT.nil)) (BH rfl)) ?_))
 have bK:=aI.pk [15]
 have e:bY b=(dM.mk 2 0 (Ll.mk ([0,1,7])),true):=et (iN c) (et (iN d) (ip h))
 obtain⟨rfl,rfl⟩:=dN (e.symm.trans hr)
 exact⟨l,3,rfl,bK,(by first | omega | exact BH rfl)⟩
 by_cases E:((Int.toNat b:Nat):Int)=2
 refine fw (.pointer (some ⟨f,6,none⟩)) (by rw [show ((Int.toNat b:Nat):Int)=2 from by omega]; exact yk) (La ([.int .i64 0, .int .i64 2, .slice n 4 4]) a 0 Tryz.isAgg50 Tryz.sizeOf50 ?_)
 have bL:=a.pk [15,0,1,2,3,4,5,6,7,8,9,10,11,12,13,14]
 refine bz [.int .i64 0, .int .i64 2, .slice n 4 4] 0 bL Tryz.sizeOf50 ?_
 intro dO aJ
 refine An rfl (rt (y9 (iq (vs:= [.agg #[.int .i64 0, .int .i64 2, .slice n 4 4], .bool true]) rfl (bT.cell rfl (zg (cs:= [.int .i64 0, .int .i64 2, .slice n 4 4]) Tryz.isAgg50 Tryz.sizeOf50 ((aJ.cls (i:=0) rfl).lit (k:=0) (m:=3) rfl)) (bT.tmp rfl bT.nil)) (BH rfl)) ?_))
 have bM:=aJ.pk [14]
 have e:bY b=(dM.mk 0 2 (Ll.mk ([0,1,2,3])),true):=et (iN c) (et (iN d) (et (iN h) (ip E)))
 obtain⟨rfl,rfl⟩:=dN (e.symm.trans hr)
 exact⟨n,4,rfl,bM,(by first | omega | exact BH rfl)⟩
 by_cases G:((Int.toNat b:Nat):Int)=3
 refine fw (.pointer (some ⟨f,9,none⟩)) (by rw [show ((Int.toNat b:Nat):Int)=3 from by omega]; exact yk) (La ([.int .i64 0, .int .i64 1, .slice o 4 4]) a 0 Tryz.isAgg50 Tryz.sizeOf50 ?_)
 have bN:=a.pk [15,0,1,2,3,4,5,6,7,8,9,10,11,12,13,14]
 refine bz [.int .i64 0, .int .i64 1, .slice o 4 4] 0 bN Tryz.sizeOf50 ?_
 intro dP aK
 refine An rfl (rt (y9 (iq (vs:= [.agg #[.int .i64 0, .int .i64 1, .slice o 4 4], .bool true]) rfl (bT.cell rfl (zg (cs:= [.int .i64 0, .int .i64 1, .slice o 4 4]) Tryz.isAgg50 Tryz.sizeOf50 ((aK.cls (i:=0) rfl).lit (k:=0) (m:=3) rfl)) (bT.tmp rfl bT.nil)) (BH rfl)) ?_))
 have bO:=aK.pk [13]
 have e:bY b=(dM.mk 0 1 (Ll.mk ([4,5,6,7])),true):=et (iN c) (et (iN d) (et (iN h) (et (iN E) (ip G))))
 obtain⟨rfl,rfl⟩:=dN (e.symm.trans hr)
 exact⟨o,4,rfl,bO,(by first | omega | exact BH rfl)⟩
 by_cases I:((Int.toNat b:Nat):Int)=4
 refine fw (.pointer (some ⟨f,12,none⟩)) (by rw [show ((Int.toNat b:Nat):Int)=4 from by omega]; exact yk) (La ([.int .i64 1, .int .i64 0, .slice p 3 3]) a 0 Tryz.isAgg50 Tryz.sizeOf50 ?_)
 have bQ:=a.pk [15,0,1,2,3,4,5,6,7,8,9,10,11,12,13,14]
 refine bz [.int .i64 1, .int .i64 0, .slice p 3 3] 0 bQ Tryz.sizeOf50 ?_
 intro bS Q
 refine An rfl (rt (y9 (iq (vs:= [.agg #[.int .i64 1, .int .i64 0, .slice p 3 3], .bool true]) rfl (bT.cell rfl (zg (cs:= [.int .i64 1, .int .i64 0, .slice p 3 3]) Tryz.isAgg50 Tryz.sizeOf50 ((Q.cls (i:=0) rfl).lit (k:=0) (m:=3) rfl)) (bT.tmp rfl bT.nil)) (BH rfl)) ?_))
 have aL:=Q.pk [12]
 have e:bY b=(dM.mk 1 0 (Ll.mk ([4,2,3])),true):=et (iN c) (et (iN d) (et (iN h) (et (iN E) (et (iN G) (ip I)))))
 obtain⟨rfl,rfl⟩:=dN (e.symm.trans hr)
 exact⟨p,3,rfl,aL,(by first | omega | exact BH rfl)⟩
 by_cases g:((Int.toNat b:Nat):Int)=5
 refine fw (.pointer (some ⟨f,15,none⟩)) (by rw [show ((Int.toNat b:Nat):Int)=5 from by omega]; exact yk) (La ([.int .i64 0, .int .i64 1, .slice q 2 2]) a 0 Tryz.isAgg50 Tryz.sizeOf50 ?_)
 have aM:=a.pk [15,0,1,2,3,4,5,6,7,8,9,10,11,12,13,14]
 refine bz [.int .i64 0, .int .i64 1, .slice q 2 2] 0 aM Tryz.sizeOf50 ?_
 intro bU R
 refine An rfl (rt (y9 (iq (vs:= [.agg #[.int .i64 0, .int .i64 1, .slice q 2 2], .bool true]) rfl (bT.cell rfl (zg (cs:= [.int .i64 0, .int .i64 1, .slice q 2 2]) Tryz.isAgg50 Tryz.sizeOf50 ((R.cls (i:=0) rfl).lit (k:=0) (m:=3) rfl)) (bT.tmp rfl bT.nil)) (BH rfl)) ?_))
 have aN:=R.pk [11]
 have e:bY b=(dM.mk 0 1 (Ll.mk ([4,8])),true):=et (iN c) (et (iN d) (et (iN h) (et (iN E) (et (iN G) (et (iN I) (ip g))))))
 obtain⟨rfl,rfl⟩:=dN (e.symm.trans hr)
 exact⟨q,2,rfl,aN,(by first | omega | exact BH rfl)⟩
 by_cases j:((Int.toNat b:Nat):Int)=6
 refine fw (.pointer (some ⟨f,18,none⟩)) (by rw [show ((Int.toNat b:Nat):Int)=6 from by omega]; exact yk) (La ([.int .i64 1, .int .i64 0, .slice r 1 1]) a 0 Tryz.isAgg50 Tryz.sizeOf50 ?_)
 have aO:=a.pk [15,0,1,2,3,4,5,6,7,8,9,10,11,12,13,14]
 refine bz [.int .i64 1, .int .i64 0, .slice r 1 1] 0 aO Tryz.sizeOf50 ?_
 intro bV S
 refine An rfl (rt (y9 (iq (vs:= [.agg #[.int .i64 1, .int .i64 0, .slice r 1 1], .bool true]) rfl (bT.cell rfl (zg (cs:= [.int .i64 1, .int .i64 0, .slice r 1 1]) Tryz.isAgg50 Tryz.sizeOf50 ((S.cls (i:=0) rfl).lit (k:=0) (m:=3) rfl)) (bT.tmp rfl bT.nil)) (BH rfl)) ?_))
 have aP:=S.pk [10]
 have e:bY b=(dM.mk 1 0 (Ll.mk ([4])),true):=et (iN c) (et (iN d) (et (iN h) (et (iN E) (et (iN G) (et (iN I) (et (iN g) (ip j)))))))
 obtain⟨rfl,rfl⟩:=dN (e.symm.trans hr)
 exact⟨r,1,rfl,aP,(by first | omega | exact BH rfl)⟩
 by_cases F:((Int.toNat b:Nat):Int)=7
 refine fw (.pointer (some ⟨f,21,none⟩)) (by rw [show ((Int.toNat b:Nat):Int)=7 from by omega]; exact yk) (La ([.int .i64 1, .int .i64 0, .slice s 1 1]) a 0 Tryz.isAgg50 Tryz.sizeOf50 ?_)
 have aQ:=a.pk [15,0,1,2,3,4,5,6,7,8,9,10,11,12,13,14]
 refine bz [.int .i64 1, .int .i64 0, .slice s 1 1] 0 aQ Tryz.sizeOf50 ?_
 intro bW T
 refine An rfl (rt (y9 (iq (vs:= [.agg #[.int .i64 1, .int .i64 0, .slice s 1 1], .bool true]) rfl (bT.cell rfl (zg (cs:= [.int .i64 1, .int .i64 0, .slice s 1 1]) Tryz.isAgg50 Tryz.sizeOf50 ((T.cls (i:=0) rfl).lit (k:=0) (m:=3) rfl)) (bT.tmp rfl bT.nil)) (BH rfl)) ?_))
 have aR:=T.pk [9]
 have e:bY b=(dM.mk 1 0 (Ll.mk ([4])),true):=et (iN c) (et (iN d) (et (iN h) (et (iN E) (et (iN G) (et (iN I) (et (iN g) (et (iN j) (ip F))))))))
 obtain⟨rfl,rfl⟩:=dN (e.symm.trans hr)
 exact⟨s,1,rfl,aR,(by first | omega | exact BH rfl)⟩
 by_cases J:((Int.toNat b:Nat):Int)=8
 refine fw (.pointer (some ⟨f,24,none⟩)) (by rw [show ((Int.toNat b:Nat):Int)=8 from by omega]; exact yk) (La ([.int .i64 0, .int .i64 1, .slice t 4 4]) a 0 Tryz.isAgg50 Tryz.sizeOf50 ?_)
 have aS:=a.pk [15,0,1,2,3,4,5,6,7,8,9,10,11,12,13,14]
 refine bz [.int .i64 0, .int .i64 1, .slice t 4 4] 0 aS Tryz.sizeOf50 ?_
 intro bX U
 refine An rfl (rt (y9 (iq (vs:= [.agg #[.int .i64 0, .int .i64 1, .slice t 4 4], .bool true]) rfl (bT.cell rfl (zg (cs:= [.int .i64 0, .int .i64 1, .slice t 4 4]) Tryz.isAgg50 Tryz.sizeOf50 ((U.cls (i:=0) rfl).lit (k:=0) (m:=3) rfl)) (bT.tmp rfl bT.nil)) (BH rfl)) ?_))
 have aT:=U.pk [8]
 have e:bY b=(dM.mk 0 1 (Ll.mk ([9,6,10,11])),true):=et (iN c) (et (iN d) (et (iN h) (et (iN E) (et (iN G) (et (iN I) (et (iN g) (et (iN j) (et (iN F) (ip J)))))))))
 obtain⟨rfl,rfl⟩:=dN (e.symm.trans hr)
 exact⟨t,4,rfl,aT,(by first | omega | exact BH rfl)⟩
 by_cases K:((Int.toNat b:Nat):Int)=9
 refine fw (.pointer (some ⟨f,27,none⟩)) (by rw [show ((Int.toNat b:Nat):Int)=9 from by omega]; exact yk) (La ([.int .i64 1, .int .i64 0, .slice u 1 1]) a 0 Tryz.isAgg50 Tryz.sizeOf50 ?_)
 have aU:=a.pk [15,0,1,2,3,4,5,6,7,8,9,10,11,12,13,14]
 refine bz [.int .i64 1, .int .i64 0, .slice u 1 1] 0 aU Tryz.sizeOf50 ?_
 intro bZ V
 refine An rfl (rt (y9 (iq (vs:= [.agg #[.int .i64 1, .int .i64 0, .slice u 1 1], .bool true]) rfl (bT.cell rfl (zg (cs:= [.int .i64 1, .int .i64 0, .slice u 1 1]) Tryz.isAgg50 Tryz.sizeOf50 ((V.cls (i:=0) rfl).lit (k:=0) (m:=3) rfl)) (bT.tmp rfl bT.nil)) (BH rfl)) ?_))
 have aV:=V.pk [7]
 have e:bY b=(dM.mk 1 0 (Ll.mk ([9])),true):=et (iN c) (et (iN d) (et (iN h) (et (iN E) (et (iN G) (et (iN I) (et (iN g) (et (iN j) (et (iN F) (et (iN J) (ip K))))))))))
 obtain⟨rfl,rfl⟩:=dN (e.symm.trans hr)
 exact⟨u,1,rfl,aV,(by first | omega | exact BH rfl)⟩
 by_cases L:((Int.toNat b:Nat):Int)=10
 refine fw (.pointer (some ⟨f,30,none⟩)) (by rw [show ((Int.toNat b:Nat):Int)=10 from by omega]; exact yk) (La ([.int .i64 0, .int .i64 1, .slice x 5 5]) a 0 Tryz.isAgg50 Tryz.sizeOf50 ?_)
 have aW:=a.pk [15,0,1,2,3,4,5,6,7,8,9,10,11,12,13,14]
 refine bz [.int .i64 0, .int .i64 1, .slice x 5 5] 0 aW Tryz.sizeOf50 ?_
 intro cu W
 refine An rfl (rt (y9 (iq (vs:= [.agg #[.int .i64 0, .int .i64 1, .slice x 5 5], .bool true]) rfl (bT.cell rfl (zg (cs:= [.int .i64 0, .int .i64 1, .slice x 5 5]) Tryz.isAgg50 Tryz.sizeOf50 ((W.cls (i:=0) rfl).lit (k:=0) (m:=3) rfl)) (bT.tmp rfl bT.nil)) (BH rfl)) ?_))
 have aX:=W.pk [6]
 have e:bY b=(dM.mk 0 1 (Ll.mk ([9,10,12,8,13])),true):=et (iN c) (et (iN d) (et (iN h) (et (iN E) (et (iN G) (et (iN I) (et (iN g) (et (iN j) (et (iN F) (et (iN J) (et (iN K) (ip L)))))))))))
 obtain⟨rfl,rfl⟩:=dN (e.symm.trans hr)
 exact⟨x,5,rfl,aX,(by first | omega | exact BH rfl)⟩
 by_cases M:((Int.toNat b:Nat):Int)=11
 refine fw (.pointer (some ⟨f,33,none⟩)) (by rw [show ((Int.toNat b:Nat):Int)=11 from by omega]; exact yk) (La ([.int .i64 1, .int .i64 1, .slice z 5 5]) a 0 Tryz.isAgg50 Tryz.sizeOf50 ?_)
 have aY:=a.pk [15,0,1,2,3,4,5,6,7,8,9,10,11,12,13,14]
 refine bz [.int .i64 1, .int .i64 1, .slice z 5 5] 0 aY Tryz.sizeOf50 ?_
 intro cz X
 refine An rfl (rt (y9 (iq (vs:= [.agg #[.int .i64 1, .int .i64 1, .slice z 5 5], .bool true]) rfl (bT.cell rfl (zg (cs:= [.int .i64 1, .int .i64 1, .slice z 5 5]) Tryz.isAgg50 Tryz.sizeOf50 ((X.cls (i:=0) rfl).lit (k:=0) (m:=3) rfl)) (bT.tmp rfl bT.nil)) (BH rfl)) ?_))
 have aZ:=X.pk [5]
 have e:bY b=(dM.mk 1 1 (Ll.mk ([10,14,15,13,7])),true):=et (iN c) (et (iN d) (et (iN h) (et (iN E) (et (iN G) (et (iN I) (et (iN g) (et (iN j) (et (iN F) (et (iN J) (et (iN K) (et (iN L) (ip M))))))))))))
 obtain⟨rfl,rfl⟩:=dN (e.symm.trans hr)
 exact⟨z,5,rfl,aZ,(by first | omega | exact BH rfl)⟩
 by_cases N:((Int.toNat b:Nat):Int)=12
 refine fw (.pointer (some ⟨f,36,none⟩)) (by rw [show ((Int.toNat b:Nat):Int)=12 from by omega]; exact yk) (La ([.int .i64 1, .int .i64 1, .slice A 3 3]) a 0 Tryz.isAgg50 Tryz.sizeOf50 ?_)
 have bf:=a.pk [15,0,1,2,3,4,5,6,7,8,9,10,11,12,13,14]
 refine bz [.int .i64 1, .int .i64 1, .slice A 3 3] 0 bf Tryz.sizeOf50 ?_
 intro cB Y
 refine An rfl (rt (y9 (iq (vs:= [.agg #[.int .i64 1, .int .i64 1, .slice A 3 3], .bool true]) rfl (bT.cell rfl (zg (cs:= [.int .i64 1, .int .i64 1, .slice A 3 3]) Tryz.isAgg50 Tryz.sizeOf50 ((Y.cls (i:=0) rfl).lit (k:=0) (m:=3) rfl)) (bT.tmp rfl bT.nil)) (BH rfl)) ?_))
 have bg:=Y.pk [4]
 have e:bY b=(dM.mk 1 1 (Ll.mk ([10,14,15])),true):=et (iN c) (et (iN d) (et (iN h) (et (iN E) (et (iN G) (et (iN I) (et (iN g) (et (iN j) (et (iN F) (et (iN J) (et (iN K) (et (iN L) (et (iN M) (ip N)))))))))))))
 obtain⟨rfl,rfl⟩:=dN (e.symm.trans hr)
 exact⟨A,3,rfl,bg,(by first | omega | exact BH rfl)⟩
 by_cases Z:((Int.toNat b:Nat):Int)=13
 refine fw (.pointer (some ⟨f,39,none⟩)) (by rw [show ((Int.toNat b:Nat):Int)=13 from by omega]; exact yk) (La ([.int .i64 1, .int .i64 0, .slice B 1 1]) a 0 Tryz.isAgg50 Tryz.sizeOf50 ?_)
 have bi:=a.pk [15,0,1,2,3,4,5,6,7,8,9,10,11,12,13,14]
 refine bz [.int .i64 1, .int .i64 0, .slice B 1 1] 0 bi Tryz.sizeOf50 ?_
 intro cK aa
 refine An rfl (rt (y9 (iq (vs:= [.agg #[.int .i64 1, .int .i64 0, .slice B 1 1], .bool true]) rfl (bT.cell rfl (zg (cs:= [.int .i64 1, .int .i64 0, .slice B 1 1]) Tryz.isAgg50 Tryz.sizeOf50 ((aa.cls (i:=0) rfl).lit (k:=0) (m:=3) rfl)) (bT.tmp rfl bT.nil)) (BH rfl)) ?_))
 have bn:=aa.pk [3]
 have e:bY b=(dM.mk 1 0 (Ll.mk ([10])),true):=et (iN c) (et (iN d) (et (iN h) (et (iN E) (et (iN G) (et (iN I) (et (iN g) (et (iN j) (et (iN F) (et (iN J) (et (iN K) (et (iN L) (et (iN M) (et (iN N) (ip Z))))))))))))))
 obtain⟨rfl,rfl⟩:=dN (e.symm.trans hr)
 exact⟨B,1,rfl,bn,(by first | omega | exact BH rfl)⟩
 refine fw (.pointer (some ⟨f,42,none⟩)) (by rw [show ((Int.toNat b:Nat):Int)=14 from by omega]; exact yk) (La ([.int .i64 1, .int .i64 0, .slice C 1 1]) a 0 Tryz.isAgg50 Tryz.sizeOf50 ?_)
 have bq:=a.pk [15,0,1,2,3,4,5,6,7,8,9,10,11,12,13,14]
 refine bz [.int .i64 1, .int .i64 0, .slice C 1 1] 0 bq Tryz.sizeOf50 ?_
 intro cZ ae
 refine An rfl (rt (y9 (iq (vs:= [.agg #[.int .i64 1, .int .i64 0, .slice C 1 1], .bool true]) rfl (bT.cell rfl (zg (cs:= [.int .i64 1, .int .i64 0, .slice C 1 1]) Tryz.isAgg50 Tryz.sizeOf50 ((ae.cls (i:=0) rfl).lit (k:=0) (m:=3) rfl)) (bT.tmp rfl bT.nil)) (BH rfl)) ?_))
 have bu:=ae.pk [2]
 have e:bY b=(dM.mk 1 0 (Ll.mk ([10])),true):=et (iN c) (et (iN d) (et (iN h) (et (iN E) (et (iN G) (et (iN I) (et (iN g) (et (iN j) (et (iN F) (et (iN J) (et (iN K) (et (iN L) (et (iN M) (et (iN N) (iN Z))))))))))))))
 obtain⟨rfl,rfl⟩:=dN (e.symm.trans hr)
 exact⟨C,1,rfl,bu,(by first | omega | exact BH rfl)⟩
def fE (b:Int) (a:Int):Bool:=
 if b=2 then if a=1 then true else decide (a=2) else if a=3 then true else if a=4 then true else decide (a=5)
theorem qy (w:World) (D:Nat→Prop) (f:Int) (a:Int) (l:Bool) (H:Own w D w []) (hr:fE f a=l):
    Calls Tryz.prog 103 #[.int .i64 f, .int .i64 a] w (cO fun v w'=>v= .bool l∧Own w D w' []):=by
 refine yR (args:= [.int .i64 f, .int .i64 a]) Tryz.func103 rfl rfl rfl ?_
 show Wp _ _ _ [(0, .int .i64 f),(1, .int .i64 a)] _ _
 refine sr (An rfl (yJ (sr (Mz rfl (Kz (.bool (decide (f=2))) (nt ?_))))))
 by_cases e:f=2
 refine jT (dT e) (sr (Mz rfl (Kz (.bool (decide (a=1))) (Mz rfl ?_))))
 by_cases c:a=1
 refine Sz (dT c) (Sz (dT c) (fw (.bool true) (yN rfl (dT c) rfl) (An rfl (rt (tR (rs ?_))))))
 have g:Own w D w []:=H.pk []
 obtain rfl:_=true:=hr.symm.trans (et (ip e) (ip c))
 exact⟨rfl,g⟩
 refine gw (.int .i64 a) (dF c) (yO rfl) (Gz (.bool (decide (a=2))) (dF c) (fw (.bool (decide (a=2))) (yM rfl (dF c) rfl) (An rfl (rt (tR (rs ?_))))))
 have h:Own w D w []:=H.pk []
 obtain rfl:_=decide (a=2):=hr.symm.trans (et (ip e) (iN c))
 exact⟨rfl,h⟩
 refine jF (dF e) (sk (sr (Mz rfl (Kz (.bool (decide (a=3))) (Mz rfl ?_)))))
 by_cases b:a=3
 refine Sz (dT b) (Sz (dT b) (fw (.bool true) (yN rfl (dT b) rfl) (Mz rfl (Sz rfl (Sz rfl (fw (.bool true) (yN rfl rfl rfl) (An rfl (rt (rs ?_)))))))))
 have i:Own w D w []:=H.pk []
 obtain rfl:_=true:=hr.symm.trans (et (iN e) (ip b))
 exact⟨rfl,i⟩
 refine gw (.int .i64 a) (dF b) (yO rfl) (Gz (.bool (decide (a=4))) (dF b) (fw (.bool (decide (a=4))) (yM rfl (dF b) rfl) (Mz rfl ?_)))
 by_cases d:a=4
 refine Sz (dT d) (Sz (dT d) (fw (.bool true) (yN rfl (dT d) rfl) (An rfl (rt (rs ?_)))))
 have j:Own w D w []:=H.pk []
 obtain rfl:_=true:=hr.symm.trans (et (iN e) (et (iN b) (ip d)))
 exact⟨rfl,j⟩
 refine gw (.int .i64 a) (dF d) (yO rfl) (Gz (.bool (decide (a=5))) (dF d) (fw (.bool (decide (a=5))) (yM rfl (dF d) rfl) (An rfl (rt (rs ?_)))))
 have k:Own w D w []:=H.pk []
 obtain rfl:_=decide (a=5):=hr.symm.trans (et (iN e) (et (iN b) (iN d)))
 exact⟨rfl,k⟩
theorem lD:Elem Tryz.prog 26 84 3 48:=kT (z:= .agg #[.bool false, .string ⟨List.toArray ([])⟩, .slice none 0 0]) Tryz.underlying26 (by kernel_rfl) rfl (by decide)
theorem o5:Elem Tryz.prog 82 86 2 32:=kT (z:= .agg #[.string ⟨List.toArray ([])⟩, .string ⟨List.toArray ([])⟩]) Tryz.underlying82 (by kernel_rfl) rfl (by decide)
structure aR where
 aL:List UInt8
 au:List UInt8
def aR.cells (x:aR):List Value:= [.string ⟨List.toArray x.aL⟩, .string ⟨List.toArray x.au⟩]
instance:Bk aR:=⟨fun x _=>bk x.aL+(bk x.au+(0))⟩
theorem aR.len:∀ x,(aR.cells x).length=2:=fun _=>rfl
theorem aR.one:∀ x, ∀ u ∈ aR.cells x,u.oneCell'=true:=fun x u hu=>by
 simp only [aR.cells,List.mem_cons,List.not_mem_nil,or_false] at hu
 rcases hu with rfl | rfl <;> rfl
def AZ (w:World) (x:aR):Prop:=(x.aL.length≤140737488351232)∧(x.au.length≤140737488351232)
instance:Inhabited aR:=⟨⟨default,default⟩⟩
structure af where
 cB:Bool
 au:List UInt8
 ak:Sv aR
def af.cells (x:af):List Value:= [.bool x.cB, .string ⟨List.toArray x.au⟩, .slice x.ak.A x.ak.ls.length x.ak.c]
instance:Bk af:=⟨fun x _=>bk x.cB+(bk x.au+(bk x.ak+(0)))⟩
theorem af.len:∀ x,(af.cells x).length=3:=fun _=>rfl
theorem af.one:∀ x, ∀ u ∈ af.cells x,u.oneCell'=true:=fun x u hu=>by
 simp only [af.cells,List.mem_cons,List.not_mem_nil,or_false] at hu
 rcases hu with rfl | rfl | rfl <;> rfl
def AC (w:World) (x:af):Prop:=(True)∧(x.au.length≤140737488351232)∧(nO w 2 32 aR.cells (AZ w) x.ak)
instance:Inhabited af:=⟨⟨default,default,default⟩⟩
structure aP where
 cB:Bool
 au:List UInt8
 ak:Ll aR
instance:Inhabited aP:=⟨⟨default,default,default⟩⟩
def zh (x:af):aP:=⟨x.cB,x.au,⟨x.ak.ls⟩⟩
def yQ (x:af):List HP:= [row x.ak.A x.ak.ls.length x.ak.c (List.flatMap aR.cells x.ak.ls) 86 2]
def bX (a:List UInt8):Int:=
 if((a.length:Nat):Int) < 1 then 20 else if((a.length:Nat):Int) > 12 then 20 else 0
theorem iP (w:World) (D:Nat→Prop) (b:List UInt8) (d:Int) (H:Own w D w []) (hr:bX b=d):
    Calls Tryz.prog 117 #[.string ⟨List.toArray b⟩] w (cO fun v w'=>v= .int .i64 d∧Own w D w' []∧(¬ (d=0)∨(1≤b.length∧b.length≤12))):=by
 refine yR (args:= [.string ⟨List.toArray b⟩]) Tryz.func117 rfl rfl rfl ?_
 show Wp _ _ _ [(0, .string ⟨List.toArray b⟩)] _ _
 refine sr (An rfl (yJ (sr (Mz rfl (Kz (.int .i64 ((b.length:Nat):Int)) (Kz (.bool (decide (((b.length:Nat):Int) < 1))) (Mz rfl ?_)))))))
 by_cases a:((b.length:Nat):Int) < 1
 refine Sz (dT a) (Sz (dT a) (Sz (dT a) (fw (.bool true) (yN rfl (dT a) rfl) (nt (jt (sr (An rfl (rt (tR (rs ?_))))))))))
 have e:Own w D w []:=H.pk []
 obtain rfl:_=20:=hr.symm.trans (ip a)
 exact⟨rfl,e,(by omega)⟩
 refine gw (.string ⟨List.toArray b⟩) (dF a) (yO rfl) (Gz (.int .i64 ((b.length:Nat):Int)) (dF a) (Gz (.bool (decide (((b.length:Nat):Int) > 12))) (dF a) (fw (.bool (decide (((b.length:Nat):Int) > 12))) (yM rfl (dF a) rfl) (nt ?_))))
 by_cases c:((b.length:Nat):Int) > 12
 refine jT (dT c) (sr (An rfl (rt (tR (rs ?_)))))
 have f:Own w D w []:=H.pk []
 obtain rfl:_=20:=hr.symm.trans (et (iN a) (ip c))
 exact⟨rfl,f,(by omega)⟩
 refine jF (dF c) (sk (sr (An rfl (rt (rs ?_)))))
 have g:Own w D w []:=H.pk []
 obtain rfl:_=0:=hr.symm.trans (et (iN a) (iN c))
 exact⟨rfl,g,(by omega)⟩
def cZ:List aR→Unit ⊕ Bool
  | []=>Sum.inl ()
  | a::c=>bnd (bX a.aL) fun b=>if b=0 then if((a.au.length:Nat):Int) > 16 then Sum.inr (false) else cZ c else Sum.inr (false)
def dm:List aP→Unit ⊕ Bool
  | []=>Sum.inl ()
  | a::b=>if((a.au.length:Nat):Int) > 16 then Sum.inr (false) else if((a.ak.ls.length:Nat):Int) > 4 then Sum.inr (false) else rZ (cZ a.ak.ls) fun _=>dm b
def iJ (b:Int) (a:List aP):Bool:=
 bnd (if b=2 then 4 else 24) fun sJrJ=>if((a.length:Nat):Int) > ((sJrJ:Nat):Int) then false else lp (dm a) fun _=>true
theorem o6 (w:World) (D:Nat→Prop) (P:Int) (s:Option Addr) (n1 K:Nat) (d1:List af) (d:List aP) (r0:Bool) (H:Own w D w []) (U:List.map zh d1=d) (S:Ro w D fun w'=>bD w' 3 s n1 (List.flatMap af.cells d1)) (L:∀ x ∈ d1,Ro w D (fun w'=>bD w' 2 x.ak.A x.ak.ls.length (List.flatMap aR.cells x.ak.ls))∧(x.ak.ls.length≤x.ak.c∧x.ak.ls.length≤9223372036854775807)) (aI:n1=d.length) (bA:d.length≤9223372036854775807) (hr:iJ P d=r0):
    Calls Tryz.prog 104 #[.int .i64 P, .slice s n1 K] w (cO fun v w'=>v= .bool r0∧Own w D w' []):=by
 subst aI
 have hdl1:=dG U
 refine yR (args:= [.int .i64 P, .slice s d.length K]) Tryz.func104 rfl rfl rfl ?_
 show Wp _ _ _ [(0, .int .i64 P),(1, .slice s d.length K)] _ _
 refine sr (Ar rfl (An rfl (yJ (sr (Mz rfl (Kz (.bool (decide (P=2))) (nt ?_)))))))
 obtain⟨V,W⟩:∃ q:Nat→World→Prop,q=fun(i:Nat) w'=>Own w D w' []∧(i≤9223372036854775807∧i ≥ 4∧i≤24∧(if P=2 then 4 else 24)=i):=⟨_,rfl⟩
 have B:∀ {o:Nat} {w':World},V o w'↔Own w D w' []∧o≤9223372036854775807∧o ≥ 4∧o≤24∧(if P=2 then 4 else 24)=o:=by intros; subst W; exact Iff.rfl
 refine zD (fun i:Nat=> [(5, .int .i64 ((i:Nat):Int)),(4, .bool false),(1, .slice s d.length K)]) V ?_ ?_
 by_cases M:P=2
 refine jT (dT M) (yK (Az rfl (WL.nil ?_)))
 have aJ:Own w D w []:=H.pk []
 exact zu 4 ⟨rfl,rfl,rfl,trivial⟩ (B.2 ⟨aJ,by omega,by omega,by omega,ip M⟩)
 refine jF (dF M) (zm ?_)
 have aK:Own w D w []:=H.pk []
 exact zu 24 ⟨rfl,rfl,rfl,trivial⟩ (B.2 ⟨aK,by omega,by omega,by omega,iN M⟩)
 rintro o bB X
 show Wp _ _ _ [(5, .int .i64 ((o:Nat):Int)),(4, .bool false),(1, .slice s d.length K)] _ _
 obtain⟨Y,aY,aZ,bf,l⟩:=B.1 X
 refine yJ (sr (Mz rfl (Kz (.int .i64 ((d.length:Nat):Int)) (Mz rfl (Kz (.bool (decide (((d.length:Nat):Int) > ((o:Nat):Int)))) (nt ?_))))))
 by_cases p:((d.length:Nat):Int) > ((o:Nat):Int)
 refine jT (dT p) (sr (An rfl (rt (tR (rs ?_)))))
 have aL:=Y.pk []
 obtain rfl:_=false:=hr.symm.trans (et (aa l) (ip p))
 exact⟨rfl,aL⟩
 refine jF (dF p) (sk (yJ (sr (Mz rfl (Kz (.int .i64 ((d.length:Nat):Int)) (Mn rfl (bo ?_)))))))
 have aM:=Y.pk []
 obtain⟨Z,ae⟩:∃ q:Nat→World→Prop,q=fun(i:Nat) w'=>Own w D w' []∧(i≤d.length∧dm d=dm (List.drop i d)):=⟨_,rfl⟩
 have C:∀ {b:Nat} {w':World},Z b w'↔Own w D w' []∧b≤d.length∧dm d=dm (List.drop b d):=by intros; subst ae; exact Iff.rfl
 refine Wp.loop (fun i:Nat=> [(4, .bool false),(18, .int .i64 ((i:Nat):Int)),(17, .int .i64 ((d.length:Nat):Int)),(16, .slice s d.length K)]) Z (fun i=>d.length - i) 0 ⟨rfl,rfl,rfl,rfl,trivial⟩ (C.2 ⟨aM,by omega,rfl⟩) ?_
 rintro b bC ag
 show Wp _ _ _ [(4, .bool false),(18, .int .i64 ((b:Nat):Int)),(17, .int .i64 ((d.length:Nat):Int)),(16, .slice s d.length K)] _ _
 obtain⟨E,bg,m⟩:=C.1 ag
 refine sr (Kz (.bool (decide (((b:Nat):Int) < ((d.length:Nat):Int)))) (nt (yJ ?_)))
 by_cases ah:((b:Nat):Int) < ((d.length:Nat):Int)
 obtain⟨a,n⟩:=dV (ls:=d1) (i:=b) af.len (by decide) (E.ro S) (by first | omega | (simp; done) | (simp; omega))
 have ai:=mq U n
 have bi:=(L _ (List.mem_of_getElem? n)).2
 have r:=drop_at ai
 refine jT (dT ah) (sk (yJ (bo (sr (fw (.pointer (some ⟨ab s,ao s+b *3,none⟩)) (yZ (lD) rfl rfl ((E.ro S).addr (i:=b) (by omega)) (by omega)) (fw (.agg (af.cells a).toArray) (y5 rfl (zg (cs:=(af.cells a)) Tryz.isAgg84 Tryz.sizeOf84 ((E.ro S).elem af.len n (by decide)))) ?_))))))
 refine dE [.bool false, .string ⟨List.toArray ([])⟩, .slice none 0 0] 84 E ?_
 intro h bE aN
 refine bz (af.cells a) 0 aN Tryz.sizeOf84 ?_
 intro bF y
 refine nt (yJ (sr (Kz (.pointer (some ⟨h,1,none⟩)) (Lz (.string ⟨List.toArray a.au⟩) y 0 Tryz.isAgg9 (Kz (.int .i64 ((a.au.length:Nat):Int)) (Kz (.bool (decide (((a.au.length:Nat):Int) > 16))) (Mz rfl ?_)))))))
 by_cases g:((a.au.length:Nat):Int) > 16
 refine Sz (dT g) (Sz (dT g) (Sz (dT g) (Sz (dT g) (fw (.bool true) (yN rfl (dT g) rfl) (nt (jt (sr (An rfl (rt (tR (bR (tR (tR (bR (tR (rs ?_))))))))))))))))
 have aO:=y.pk []
 obtain rfl:_=false:=hr.symm.trans (et (aa l) (et (iN p) (iG (et (m) (et (congrArg (fun q=>dm q) r) (ip g))))))
 exact⟨rfl,aO⟩
 refine Gz (.pointer (some ⟨h,2,none⟩)) (dF g) (Gl (.slice a.ak.A a.ak.ls.length a.ak.c) (dF g) y 0 Tryz.isAgg82 (Gz (.int .i64 ((a.ak.ls.length:Nat):Int)) (dF g) (Gz (.bool (decide (((a.ak.ls.length:Nat):Int) > 4))) (dF g) (fw (.bool (decide (((a.ak.ls.length:Nat):Int) > 4))) (yM rfl (dF g) rfl) (nt ?_)))))
 by_cases z:((a.ak.ls.length:Nat):Int) > 4
 refine jT (dT z) (sr (An rfl (rt (tR (bR (tR (tR (bR (tR (rs ?_))))))))))
 have aQ:=y.pk []
 obtain rfl:_=false:=hr.symm.trans (et (aa l) (et (iN p) (iG (et (m) (et (congrArg (fun q=>dm q) r) (et (iN g) (ip z)))))))
 exact⟨rfl,aQ⟩
 refine jF (dF z) (sk (sr (Kz (.pointer (some ⟨h,2,none⟩)) (Lz (.slice a.ak.A a.ak.ls.length a.ak.c) y 0 Tryz.isAgg82 (Kz (.int .i64 ((a.ak.ls.length:Nat):Int)) (Mn rfl (bo ?_)))))))
 have aS:=y.pk [0]
 obtain⟨aj,ak⟩:∃ q:Nat→World→Prop,q=fun(i:Nat) w'=>Own w D w' [blk h (af.cells a) 84]∧(i≤a.ak.ls.length∧cZ a.ak.ls=cZ (List.drop i a.ak.ls)):=⟨_,rfl⟩
 have F:∀ {f:Nat} {w':World},aj f w'↔Own w D w' [blk h (af.cells a) 84]∧f≤a.ak.ls.length∧cZ a.ak.ls=cZ (List.drop f a.ak.ls):=by intros; subst ak; exact Iff.rfl
 refine Wp.loop (fun i:Nat=> [(4, .bool false),(35, .int .i64 ((i:Nat):Int)),(34, .int .i64 ((a.ak.ls.length:Nat):Int)),(33, .slice a.ak.A a.ak.ls.length a.ak.c),(32, .pointer (some ⟨h,2,none⟩)),(31, .bool (decide (((a.ak.ls.length:Nat):Int) > 4))),(30, .bool (decide (((a.ak.ls.length:Nat):Int) > 4))),(29, .int .i64 ((a.ak.ls.length:Nat):Int)),(28, .slice a.ak.A a.ak.ls.length a.ak.c),(27, .pointer (some ⟨h,2,none⟩)),(26, .bool (decide (((a.au.length:Nat):Int) > 16))),(25, .bool (decide (((a.au.length:Nat):Int) > 16))),(24, .int .i64 ((a.au.length:Nat):Int)),(23, .string ⟨List.toArray a.au⟩),(22, .pointer (some ⟨h,1,none⟩)),(7, .pointer (some ⟨h,0,none⟩)),(21, .agg (af.cells a).toArray),(20, .pointer (some ⟨ab s,ao s+b *3,none⟩)),(19, .bool (decide (((b:Nat):Int) < ((d.length:Nat):Int)))),(18, .int .i64 ((b:Nat):Int)),(17, .int .i64 ((d.length:Nat):Int)),(16, .slice s d.length K)]) aj (fun i=>a.ak.ls.length - i) 0 ⟨rfl,rfl,rfl,rfl,rfl,rfl,rfl,rfl,rfl,rfl,rfl,rfl,rfl,rfl,rfl,rfl,rfl,rfl,rfl,rfl,rfl,rfl,trivial⟩ (F.2 ⟨aS,by omega,rfl⟩) ?_
 rintro f bG au
 show Wp _ _ _ [(4, .bool false),(35, .int .i64 ((f:Nat):Int)),(34, .int .i64 ((a.ak.ls.length:Nat):Int)),(33, .slice a.ak.A a.ak.ls.length a.ak.c),(32, .pointer (some ⟨h,2,none⟩)),(31, .bool (decide (((a.ak.ls.length:Nat):Int) > 4))),(30, .bool (decide (((a.ak.ls.length:Nat):Int) > 4))),(29, .int .i64 ((a.ak.ls.length:Nat):Int)),(28, .slice a.ak.A a.ak.ls.length a.ak.c),(27, .pointer (some ⟨h,2,none⟩)),(26, .bool (decide (((a.au.length:Nat):Int) > 16))),(25, .bool (decide (((a.au.length:Nat):Int) > 16))),(24, .int .i64 ((a.au.length:Nat):Int)),(23, .string ⟨List.toArray a.au⟩),(22, .pointer (some ⟨h,1,none⟩)),(7, .pointer (some ⟨h,0,none⟩)),(21, .agg (af.cells a).toArray),(20, .pointer (some ⟨ab s,ao s+b *3,none⟩)),(19, .bool (decide (((b:Nat):Int) < ((d.length:Nat):Int)))),(18, .int .i64 ((b:Nat):Int)),(17, .int .i64 ((d.length:Nat):Int)),(16, .slice s d.length K)] _ _
 obtain⟨G,bq,t⟩:=F.1 au
 refine sr (Kz (.bool (decide (((f:Nat):Int) < ((a.ak.ls.length:Nat):Int)))) (nt (yJ ?_)))
 by_cases av:((f:Nat):Int) < ((a.ak.ls.length:Nat):Int)
 obtain⟨j,Q⟩:=dV (ls:=a.ak.ls) (i:=f) aR.len (by decide) (G.ro (L _ (List.mem_of_getElem? n)).1) (by first | omega | (simp; done) | (simp; omega))
 have I:=drop_at Q
 refine jT (dT av) (sk (yJ (bo (sr (fw (.pointer (some ⟨ab a.ak.A,ao a.ak.A+f *2,none⟩)) (yZ (o5) rfl rfl ((G.ro (L _ (List.mem_of_getElem? n)).1).addr (i:=f) (by omega)) (by omega)) (fw (.agg (aR.cells j).toArray) (y5 rfl (zg (cs:=(aR.cells j)) Tryz.isAgg86 Tryz.sizeOf86 ((G.ro (L _ (List.mem_of_getElem? n)).1).elem aR.len Q (by decide)))) ?_))))))
 refine dE [.string ⟨List.toArray ([])⟩, .string ⟨List.toArray ([])⟩] 86 G ?_
 intro ax bH aT
 refine bz (aR.cells j) 0 aT Tryz.sizeOf86 ?_
 intro bI ay
 refine ns (Kz (.pointer (some ⟨ax,0,none⟩)) (Lz (.string ⟨List.toArray j.aL⟩) ay 0 Tryz.isAgg9 ?_))
 obtain⟨J,u⟩:∃ q,bX j.aL=q:=⟨_,rfl⟩
 obtain⟨bJ,az,bu,aA,bv⟩:=yP ay
 refine cl Tryz.call117 (iP _ _ j.aL J az u) ?_
 rintro _ bK ⟨rfl,aB,R⟩
 have N:=aA _ _ aB
 replace R: ¬ (J=0)∨(1≤j.aL.length∧j.aL.length≤12):=R
 refine fw (.bool (decide (¬ (J=0)))) (za (e:= !(decide (J=0))) yk decide_not.symm) (Mz rfl ?_)
 by_cases k:J=0
 refine gw (.pointer (some ⟨ax,1,none⟩)) (dF (BK k)) yk (gw (.string ⟨List.toArray j.au⟩) (dF (BK k)) (y5 rfl (bn.one Tryz.isAgg9 (zq (N.cls (i:=0) rfl) rfl))) (gw (.int .i64 ((j.au.length:Nat):Int)) (dF (BK k)) yk (gw (.bool (decide (((j.au.length:Nat):Int) > 16))) (dF (BK k)) yk (fw (.bool (decide (((j.au.length:Nat):Int) > 16))) (yM rfl (dF (BK k)) rfl) (nt ?_)))))
 by_cases O:((j.au.length:Nat):Int) > 16
 refine jT (dT O) (sr (An rfl (rt (bR (tR (tR (bR (bR (tR (tR (bR (tR (rs ?_)))))))))))))
 have aU:=N.pk []
 obtain rfl:_=false:=hr.symm.trans (et (aa l) (et (iN p) (iG (et (m) (et (congrArg (fun q=>dm q) r) (et (iN g) (et (iN z) (pQ (et (t) (et (congrArg (fun q=>cZ q) I) (et (aa u) (et (ip k) (ip O)))))))))))))
 exact⟨rfl,aU⟩
 refine jF (dF O) (zm (bN (yL (yK (fw (.int .i64 ((f+1:Nat):Int)) (yS (e:=IntKind.i64.wrap (((f:Nat):Int)+1)) yk (by rw [BI _ (by omega)]; omega)) (Mz rfl (WL.nil ?_)))))))
 have aV:=N.pk [1]
 exact yY (f+1) ⟨rfl,rfl,rfl,rfl,rfl,rfl,rfl,rfl,rfl,rfl,rfl,rfl,rfl,rfl,rfl,rfl,rfl,rfl,rfl,rfl,rfl,rfl,trivial⟩ (F.2 ⟨aV,by omega,et (t) (et (congrArg (fun q=>cZ q) I) (et (aa u) (et (ip k) (iN O))))⟩) (by show a.ak.ls.length - (f+1) < a.ak.ls.length - f; omega)
 refine Sz (dT k) (Sz (dT k) (Sz (dT k) (Sz (dT k) (fw (.bool true) (yN rfl (dT k) rfl) (nt (jt (sr (An rfl (rt (bR (tR (tR (bR (bR (tR (tR (bR (tR (rs ?_)))))))))))))))))))
 have aW:=N.pk []
 obtain rfl:_=false:=hr.symm.trans (et (aa l) (et (iN p) (iG (et (m) (et (congrArg (fun q=>dm q) r) (et (iN g) (et (iN z) (pQ (et (t) (et (congrArg (fun q=>cZ q) I) (et (aa u) (iN k))))))))))))
 exact⟨rfl,aW⟩
 refine jF (dF av) (Wp.exit (yV ?_))
 have aC:cZ a.ak.ls=Sum.inl ():=et (t) (et (congrArg (fun q=>cZ q) (dZ (ls:=a.ak.ls) (i:=f) (by omega))) rfl)
 refine yV (y8 (bN (yL (yK (fw (.int .i64 ((b+1:Nat):Int)) (yS (e:=IntKind.i64.wrap (((b:Nat):Int)+1)) yk (by rw [BI _ (by omega)]; omega)) (Mz rfl (WL.nil ?_)))))))
 have aD:=G.pk []
 exact yY (b+1) ⟨rfl,rfl,rfl,rfl,trivial⟩ (C.2 ⟨aD,by omega,et (m) (et (congrArg (fun q=>dm q) r) (et (iN g) (et (iN z) (rM aC))))⟩) (by show d.length - (b+1) < d.length - b; omega)
 refine jF (dF ah) (Wp.exit (yV ?_))
 have T:dm d=Sum.inl ():=et (m) (et (congrArg (fun q=>dm q) (dZ (ls:=d) (i:=b) (by omega))) rfl)
 refine yV (y8 (yL (sr (An rfl (rt (rs ?_))))))
 have aF:=E.pk []
 obtain rfl:_=true:=hr.symm.trans (et (aa l) (et (iN p) (kG T)))
 exact⟨rfl,aF⟩
theorem l8:Elem Tryz.prog 25 64 6 80:=kT (z:= .agg #[.int .i64 0, .string ⟨List.toArray ([])⟩, .string ⟨List.toArray ([])⟩, .string ⟨List.toArray ([])⟩, .string ⟨List.toArray ([])⟩, .int .i64 0]) Tryz.underlying25 (by kernel_rfl) rfl (by decide)
structure aB where
 ae:Int
 aL:List UInt8
 au:List UInt8
 aD:List UInt8
 aH:List UInt8
 aF:Int
def aB.cells (x:aB):List Value:= [.int .i64 x.ae, .string ⟨List.toArray x.aL⟩, .string ⟨List.toArray x.au⟩, .string ⟨List.toArray x.aD⟩, .string ⟨List.toArray x.aH⟩, .int .i64 x.aF]
instance:Bk aB:=⟨fun x _=>bk x.ae+(bk x.aL+(bk x.au+(bk x.aD+(bk x.aH+(bk x.aF+(0))))))⟩
theorem aB.len:∀ x,(aB.cells x).length=6:=fun _=>rfl
theorem aB.one:∀ x, ∀ u ∈ aB.cells x,u.oneCell'=true:=fun x u hu=>by
 simp only [aB.cells,List.mem_cons,List.not_mem_nil,or_false] at hu
 rcases hu with rfl | rfl | rfl | rfl | rfl | rfl <;> rfl
def Bh (w:World) (x:aB):Prop:=((-9223372036854775808)≤x.ae∧x.ae≤9223372036854775807)∧(x.aL.length≤140737488351232)∧(x.au.length≤140737488351232)∧(x.aD.length≤140737488351232)∧(x.aH.length≤140737488351232)∧((-9223372036854775808)≤x.aF∧x.aF≤9223372036854775807)
instance:Inhabited aB:=⟨⟨default,default,default,default,default,default⟩⟩
theorem nU (w:World) (D:Nat→Prop) (j:Int) (H:Own w D w []) (c:j=1):
    Calls Tryz.prog 126 #[.int .i64 j] w (cO fun v w'=>v= .tuple #[.agg #[.bool false, .func (.func 128) #[] #[], .func (.func 129) #[] #[], .func (.func 130) #[] #[], .func (.func 131) #[] #[]], .bool true]∧Own w D w' []):=by
 subst c
 refine yR (args:= [.int .i64 1]) Tryz.func126 rfl rfl rfl ?_
 show Wp _ _ _ [(0, .int .i64 1)] _ _
 refine sr ?_
 refine dE [.bool false, .nilFunc, .nilFunc, .nilFunc, .nilFunc] 162 H ?_
 intro l n d
 refine Ar rfl (Kz (.agg #[.bool false, .func (.func 128) #[] #[], .func (.func 129) #[] #[], .func (.func 130) #[] #[], .func (.func 131) #[] #[]]) (Kz (.agg #[.bool true, .func (.func 132) #[] #[], .func (.func 133) #[] #[], .func (.func 130) #[] #[], .func (.func 134) #[] #[]]) (Kz (.agg #[.bool true, .func (.func 128) #[] #[], .func (.func 129) #[] #[], .func (.func 130) #[] #[], .func (.func 135) #[] #[]]) (Kz (.agg #[.bool false, .func (.func 136) #[] #[], .func (.func 137) #[] #[], .func (.func 138) #[] #[], .func (.func 139) #[] #[]]) (Kz (.agg #[.bool true, .func (.func 140) #[] #[], .func (.func 141) #[] #[], .func (.func 138) #[] #[], .func (.func 142) #[] #[]]) (Kz (.agg #[.bool false, .nilFunc, .nilFunc, .nilFunc, .nilFunc, .bool false, .func (.func 128) #[] #[], .func (.func 129) #[] #[], .func (.func 130) #[] #[], .func (.func 131) #[] #[], .bool true, .func (.func 132) #[] #[], .func (.func 133) #[] #[], .func (.func 130) #[] #[], .func (.func 134) #[] #[], .bool true, .func (.func 128) #[] #[], .func (.func 129) #[] #[], .func (.func 130) #[] #[], .func (.func 135) #[] #[], .bool false, .func (.func 136) #[] #[], .func (.func 137) #[] #[], .func (.func 138) #[] #[], .func (.func 139) #[] #[], .bool true, .func (.func 140) #[] #[], .func (.func 141) #[] #[], .func (.func 138) #[] #[], .func (.func 142) #[] #[]]) ?_))))))
 refine dE [.bool false, .nilFunc, .nilFunc, .nilFunc, .nilFunc, .bool false, .nilFunc, .nilFunc, .nilFunc, .nilFunc, .bool false, .nilFunc, .nilFunc, .nilFunc, .nilFunc, .bool false, .nilFunc, .nilFunc, .nilFunc, .nilFunc, .bool false, .nilFunc, .nilFunc, .nilFunc, .nilFunc, .bool false, .nilFunc, .nilFunc, .nilFunc, .nilFunc] 165 d ?_
 intro e o f
 refine bz [.bool false, .nilFunc, .nilFunc, .nilFunc, .nilFunc, .bool false, .func (.func 128) #[] #[], .func (.func 129) #[] #[], .func (.func 130) #[] #[], .func (.func 131) #[] #[], .bool true, .func (.func 132) #[] #[], .func (.func 133) #[] #[], .func (.func 130) #[] #[], .func (.func 134) #[] #[], .bool true, .func (.func 128) #[] #[], .func (.func 129) #[] #[], .func (.func 130) #[] #[], .func (.func 135) #[] #[], .bool false, .func (.func 136) #[] #[], .func (.func 137) #[] #[], .func (.func 138) #[] #[], .func (.func 139) #[] #[], .bool true, .func (.func 140) #[] #[], .func (.func 141) #[] #[], .func (.func 138) #[] #[], .func (.func 142) #[] #[]] 0 f Tryz.sizeOf165 ?_
 intro p a
 refine nt (yJ (sr (Mz rfl (Kz (.bool false) (Mz rfl (gw (.int .i64 1) rfl (yO rfl) (Gz (.bool false) rfl (fw (.bool false) (yM rfl rfl rfl) (nt (jf (sk (sr (Mz rfl (Kz (.pointer (some ⟨e,5,none⟩)) (La ([.bool false, .func (.func 128) #[] #[], .func (.func 129) #[] #[], .func (.func 130) #[] #[], .func (.func 131) #[] #[]]) a 0 Tryz.isAgg162 Tryz.sizeOf162 ?_)))))))))))))))
 have g:=a.pk [1,0]
 refine bz [.bool false, .func (.func 128) #[] #[], .func (.func 129) #[] #[], .func (.func 130) #[] #[], .func (.func 131) #[] #[]] 0 g Tryz.sizeOf162 ?_
 intro q b
 refine An rfl (rt (y9 (iq (vs:= [.agg #[.bool false, .func (.func 128) #[] #[], .func (.func 129) #[] #[], .func (.func 130) #[] #[], .func (.func 131) #[] #[]], .bool true]) rfl (bT.cell rfl (zg (cs:= [.bool false, .func (.func 128) #[] #[], .func (.func 129) #[] #[], .func (.func 130) #[] #[], .func (.func 131) #[] #[]]) Tryz.isAgg162 Tryz.sizeOf162 ((b.cls (i:=0) rfl).lit (k:=0) (m:=5) rfl)) (bT.tmp rfl bT.nil)) (BH rfl)) ?_))
 have h:=b.pk []
 exact⟨rfl,h⟩
def ku (a:aB):aB:=
 aB.mk a.ae a.aL ([]) ([]) ([]) 0
theorem o7 (w:World) (D:Nat→Prop) (a:aB) (g:aB) (H:Own w D w []) (hr:ku a=g):
    Calls Tryz.prog 128 #[.agg (aB.cells a).toArray] w (cO fun v w'=>v= .agg (aB.cells g).toArray∧Own w D w' []):=by
 refine yR (args:= [.agg (aB.cells a).toArray]) Tryz.func128 rfl rfl rfl ?_
 show Wp _ _ _ [(0, .agg (aB.cells a).toArray)] _ _
 refine sr ?_
 refine dE (aB.cells a) 64 H ?_
 intro c h e
 refine dE [.int .i64 0, .string ⟨List.toArray ([])⟩, .string ⟨List.toArray ([])⟩, .string ⟨List.toArray ([])⟩, .string ⟨List.toArray ([])⟩, .int .i64 0] 64 e ?_
 intro j l b
 refine ns (Kz (.pointer (some ⟨c,0,none⟩)) (Lz (.int .i64 a.ae) b 1 Tryz.isAgg3 (Kz (.pointer (some ⟨c,1,none⟩)) (Lz (.string ⟨List.toArray a.aL⟩) b 1 Tryz.isAgg9 (Kz (.agg #[.int .i64 a.ae, .string ⟨List.toArray a.aL⟩, .string ⟨List.toArray ([])⟩, .string ⟨List.toArray ([])⟩, .string ⟨List.toArray ([])⟩, .int .i64 0]) ?_)))))
 refine bz [.int .i64 a.ae, .string ⟨List.toArray a.aL⟩, .string ⟨List.toArray ([])⟩, .string ⟨List.toArray ([])⟩, .string ⟨List.toArray ([])⟩, .int .i64 0] 0 b Tryz.sizeOf64 ?_
 intro n d
 refine nt (rt (y9 (l6 rfl rfl (zg (cs:= [.int .i64 a.ae, .string ⟨List.toArray a.aL⟩, .string ⟨List.toArray ([])⟩, .string ⟨List.toArray ([])⟩, .string ⟨List.toArray ([])⟩, .int .i64 0]) Tryz.isAgg64 Tryz.sizeOf64 ((d.cls (i:=0) rfl).lit (k:=0) (m:=6) rfl))) ?_))
 have f:=d.pk []
 obtain rfl:_=aB.mk a.ae a.aL ([]) ([]) ([]) 0:=hr.symm.trans rfl
 exact⟨rfl,f⟩
def jU (b:aB):Int:=
 bnd (bX b.aL) fun a=>a
theorem nV (w:World) (D:Nat→Prop) (a:aB) (l:Int) (H:Own w D w []) (hr:jU a=l):
    Calls Tryz.prog 129 #[.agg (aB.cells a).toArray] w (cO fun v w'=>v= .int .i64 l∧Own w D w' []):=by
 refine yR (args:= [.agg (aB.cells a).toArray]) Tryz.func129 rfl rfl rfl ?_
 show Wp _ _ _ [(0, .agg (aB.cells a).toArray)] _ _
 refine sr ?_
 refine dE (aB.cells a) 64 H ?_
 intro i o e
 refine Ar rfl (Kz (.pointer (some ⟨i,1,none⟩)) (Lz (.string ⟨List.toArray a.aL⟩) e 0 Tryz.isAgg9 ?_))
 obtain⟨d,b⟩:∃ q,bX a.aL=q:=⟨_,rfl⟩
 obtain⟨p,f,m,g,n⟩:=yP e
 refine cl Tryz.call117 (iP _ _ a.aL d f b) ?_
 rintro _ r ⟨rfl,h,c⟩
 have j:=g _ _ h
 replace c: ¬ (d=0)∨(1≤a.aL.length∧a.aL.length≤12):=c
 refine An rfl (rt (rs ?_))
 have k:=j.pk []
 obtain rfl:_=d:=hr.symm.trans (aa b)
 exact⟨rfl,k⟩
theorem nW (w:World) (D:Nat→Prop) (j:Int) (H:Own w D w []) (c:j=2):
    Calls Tryz.prog 126 #[.int .i64 j] w (cO fun v w'=>v= .tuple #[.agg #[.bool true, .func (.func 132) #[] #[], .func (.func 133) #[] #[], .func (.func 130) #[] #[], .func (.func 134) #[] #[]], .bool true]∧Own w D w' []):=by
 subst c
 refine yR (args:= [.int .i64 2]) Tryz.func126 rfl rfl rfl ?_
 show Wp _ _ _ [(0, .int .i64 2)] _ _
 refine sr ?_
 refine dE [.bool false, .nilFunc, .nilFunc, .nilFunc, .nilFunc] 162 H ?_
 intro l n d
 refine Ar rfl (Kz (.agg #[.bool false, .func (.func 128) #[] #[], .func (.func 129) #[] #[], .func (.func 130) #[] #[], .func (.func 131) #[] #[]]) (Kz (.agg #[.bool true, .func (.func 132) #[] #[], .func (.func 133) #[] #[], .func (.func 130) #[] #[], .func (.func 134) #[] #[]]) (Kz (.agg #[.bool true, .func (.func 128) #[] #[], .func (.func 129) #[] #[], .func (.func 130) #[] #[], .func (.func 135) #[] #[]]) (Kz (.agg #[.bool false, .func (.func 136) #[] #[], .func (.func 137) #[] #[], .func (.func 138) #[] #[], .func (.func 139) #[] #[]]) (Kz (.agg #[.bool true, .func (.func 140) #[] #[], .func (.func 141) #[] #[], .func (.func 138) #[] #[], .func (.func 142) #[] #[]]) (Kz (.agg #[.bool false, .nilFunc, .nilFunc, .nilFunc, .nilFunc, .bool false, .func (.func 128) #[] #[], .func (.func 129) #[] #[], .func (.func 130) #[] #[], .func (.func 131) #[] #[], .bool true, .func (.func 132) #[] #[], .func (.func 133) #[] #[], .func (.func 130) #[] #[], .func (.func 134) #[] #[], .bool true, .func (.func 128) #[] #[], .func (.func 129) #[] #[], .func (.func 130) #[] #[], .func (.func 135) #[] #[], .bool false, .func (.func 136) #[] #[], .func (.func 137) #[] #[], .func (.func 138) #[] #[], .func (.func 139) #[] #[], .bool true, .func (.func 140) #[] #[], .func (.func 141) #[] #[], .func (.func 138) #[] #[], .func (.func 142) #[] #[]]) ?_))))))
 refine dE [.bool false, .nilFunc, .nilFunc, .nilFunc, .nilFunc, .bool false, .nilFunc, .nilFunc, .nilFunc, .nilFunc, .bool false, .nilFunc, .nilFunc, .nilFunc, .nilFunc, .bool false, .nilFunc, .nilFunc, .nilFunc, .nilFunc, .bool false, .nilFunc, .nilFunc, .nilFunc, .nilFunc, .bool false, .nilFunc, .nilFunc, .nilFunc, .nilFunc] 165 d ?_
 intro e o f
 refine bz [.bool false, .nilFunc, .nilFunc, .nilFunc, .nilFunc, .bool false, .func (.func 128) #[] #[], .func (.func 129) #[] #[], .func (.func 130) #[] #[], .func (.func 131) #[] #[], .bool true, .func (.func 132) #[] #[], .func (.func 133) #[] #[], .func (.func 130) #[] #[], .func (.func 134) #[] #[], .bool true, .func (.func 128) #[] #[], .func (.func 129) #[] #[], .func (.func 130) #[] #[], .func (.func 135) #[] #[], .bool false, .func (.func 136) #[] #[], .func (.func 137) #[] #[], .func (.func 138) #[] #[], .func (.func 139) #[] #[], .bool true, .func (.func 140) #[] #[], .func (.func 141) #[] #[], .func (.func 138) #[] #[], .func (.func 142) #[] #[]] 0 f Tryz.sizeOf165 ?_
 intro p a
 refine nt (yJ (sr (Mz rfl (Kz (.bool false) (Mz rfl (gw (.int .i64 2) rfl (yO rfl) (Gz (.bool false) rfl (fw (.bool false) (yM rfl rfl rfl) (nt (jf (sk (sr (Mz rfl (Kz (.pointer (some ⟨e,10,none⟩)) (La ([.bool true, .func (.func 132) #[] #[], .func (.func 133) #[] #[], .func (.func 130) #[] #[], .func (.func 134) #[] #[]]) a 0 Tryz.isAgg162 Tryz.sizeOf162 ?_)))))))))))))))
 have g:=a.pk [1,0]
 refine bz [.bool true, .func (.func 132) #[] #[], .func (.func 133) #[] #[], .func (.func 130) #[] #[], .func (.func 134) #[] #[]] 0 g Tryz.sizeOf162 ?_
 intro q b
 refine An rfl (rt (y9 (iq (vs:= [.agg #[.bool true, .func (.func 132) #[] #[], .func (.func 133) #[] #[], .func (.func 130) #[] #[], .func (.func 134) #[] #[]], .bool true]) rfl (bT.cell rfl (zg (cs:= [.bool true, .func (.func 132) #[] #[], .func (.func 133) #[] #[], .func (.func 130) #[] #[], .func (.func 134) #[] #[]]) Tryz.isAgg162 Tryz.sizeOf162 ((b.cls (i:=0) rfl).lit (k:=0) (m:=5) rfl)) (bT.tmp rfl bT.nil)) (BH rfl)) ?_))
 have h:=b.pk []
 exact⟨rfl,h⟩
def lQ (a:aB):aB:=
 aB.mk a.ae a.aL a.au ([]) ([]) 0
theorem rz (w:World) (D:Nat→Prop) (a:aB) (g:aB) (H:Own w D w []) (hr:lQ a=g):
    Calls Tryz.prog 132 #[.agg (aB.cells a).toArray] w (cO fun v w'=>v= .agg (aB.cells g).toArray∧Own w D w' []):=by
 refine yR (args:= [.agg (aB.cells a).toArray]) Tryz.func132 rfl rfl rfl ?_
 show Wp _ _ _ [(0, .agg (aB.cells a).toArray)] _ _
 refine sr ?_
 refine dE (aB.cells a) 64 H ?_
 intro c h e
 refine dE [.int .i64 0, .string ⟨List.toArray ([])⟩, .string ⟨List.toArray ([])⟩, .string ⟨List.toArray ([])⟩, .string ⟨List.toArray ([])⟩, .int .i64 0] 64 e ?_
 intro j l b
 refine ns (Kz (.pointer (some ⟨c,0,none⟩)) (Lz (.int .i64 a.ae) b 1 Tryz.isAgg3 (Kz (.pointer (some ⟨c,1,none⟩)) (Lz (.string ⟨List.toArray a.aL⟩) b 1 Tryz.isAgg9 (Kz (.pointer (some ⟨c,2,none⟩)) (Lz (.string ⟨List.toArray a.au⟩) b 1 Tryz.isAgg9 (Kz (.agg #[.int .i64 a.ae, .string ⟨List.toArray a.aL⟩, .string ⟨List.toArray a.au⟩, .string ⟨List.toArray ([])⟩, .string ⟨List.toArray ([])⟩, .int .i64 0]) ?_)))))))
 refine bz [.int .i64 a.ae, .string ⟨List.toArray a.aL⟩, .string ⟨List.toArray a.au⟩, .string ⟨List.toArray ([])⟩, .string ⟨List.toArray ([])⟩, .int .i64 0] 0 b Tryz.sizeOf64 ?_
 intro n d
 refine nt (rt (y9 (l6 rfl rfl (zg (cs:= [.int .i64 a.ae, .string ⟨List.toArray a.aL⟩, .string ⟨List.toArray a.au⟩, .string ⟨List.toArray ([])⟩, .string ⟨List.toArray ([])⟩, .int .i64 0]) Tryz.isAgg64 Tryz.sizeOf64 ((d.cls (i:=0) rfl).lit (k:=0) (m:=6) rfl))) ?_))
 have f:=d.pk []
 obtain rfl:_=aB.mk a.ae a.aL a.au ([]) ([]) 0:=hr.symm.trans rfl
 exact⟨rfl,f⟩
def ll (a:List UInt8):Int:=
 if((a.length:Nat):Int) > 16 then 2 else 0
theorem qh (w:World) (D:Nat→Prop) (b:List UInt8) (e:Int) (H:Own w D w []) (hr:ll b=e):
    Calls Tryz.prog 145 #[.string ⟨List.toArray b⟩] w (cO fun v w'=>v= .int .i64 e∧Own w D w' []):=by
 refine yR (args:= [.string ⟨List.toArray b⟩]) Tryz.func145 rfl rfl rfl ?_
 show Wp _ _ _ [(0, .string ⟨List.toArray b⟩)] _ _
 refine sr (An rfl (yJ (sr (Mz rfl (Kz (.int .i64 ((b.length:Nat):Int)) (Kz (.bool (decide (((b.length:Nat):Int) > 16))) (nt ?_)))))))
 by_cases a:((b.length:Nat):Int) > 16
 refine jT (dT a) (sr (An rfl (rt (tR (rs ?_)))))
 have c:Own w D w []:=H.pk []
 obtain rfl:_=2:=hr.symm.trans (ip a)
 exact⟨rfl,c⟩
 refine jF (dF a) (sk (sr (An rfl (rt (rs ?_)))))
 have d:Own w D w []:=H.pk []
 obtain rfl:_=0:=hr.symm.trans (iN a)
 exact⟨rfl,d⟩
def j4 (c:aB):Int:=
 bnd (bX c.aL) fun a=>if a=0 then bnd (ll c.au) fun b=>b else a
theorem qz (w:World) (D:Nat→Prop) (a:aB) (x:Int) (H:Own w D w []) (hr:j4 a=x):
    Calls Tryz.prog 133 #[.agg (aB.cells a).toArray] w (cO fun v w'=>v= .int .i64 x∧Own w D w' []):=by
 refine yR (args:= [.agg (aB.cells a).toArray]) Tryz.func133 rfl rfl rfl ?_
 show Wp _ _ _ [(0, .agg (aB.cells a).toArray)] _ _
 refine sr ?_
 refine dE (aB.cells a) 64 H ?_
 intro i C j
 refine An rfl (yJ (sr (Kz (.pointer (some ⟨i,1,none⟩)) (Lz (.string ⟨List.toArray a.aL⟩) j 0 Tryz.isAgg9 ?_))))
 obtain⟨b,c⟩:∃ q,bX a.aL=q:=⟨_,rfl⟩
 obtain⟨E,k,y,l,z⟩:=yP j
 refine cl Tryz.call117 (iP _ _ a.aL b k c) ?_
 rintro _ F ⟨rfl,m,f⟩
 have h:=l _ _ m
 replace f: ¬ (b=0)∨(1≤a.aL.length∧a.aL.length≤12):=f
 refine Ar rfl (Mz rfl (fw (.bool (decide (¬ (b=0)))) (za (e:= !(decide (b=0))) yk decide_not.symm) (nt ?_)))
 by_cases d:b=0
 refine jF (dF (BK d)) (sk (sr (Kz (.pointer (some ⟨i,2,none⟩)) (Lz (.string ⟨List.toArray a.au⟩) h 0 Tryz.isAgg9 ?_))))
 obtain⟨n,g⟩:∃ q,ll a.au=q:=⟨_,rfl⟩
 obtain⟨G,o,A,p,B⟩:=yP h
 refine cl Tryz.call145 (qh _ _ a.au n o g) ?_
 rintro _ I ⟨rfl,r⟩
 have s:=p _ _ r
 refine An rfl (rt (rs ?_))
 have t:=s.pk []
 obtain rfl:_=n:=hr.symm.trans (et (aa c) (et (ip d) (aa g)))
 exact⟨rfl,t⟩
 refine jT (dT d) (sr (Mz rfl (An rfl (rt (tR (rs ?_))))))
 have u:=h.pk []
 obtain rfl:_=b:=hr.symm.trans (et (aa c) (iN d))
 exact⟨rfl,u⟩
theorem nX (w:World) (D:Nat→Prop) (j:Int) (H:Own w D w []) (c:j=3):
    Calls Tryz.prog 126 #[.int .i64 j] w (cO fun v w'=>v= .tuple #[.agg #[.bool true, .func (.func 128) #[] #[], .func (.func 129) #[] #[], .func (.func 130) #[] #[], .func (.func 135) #[] #[]], .bool true]∧Own w D w' []):=by
 subst c
 refine yR (args:= [.int .i64 3]) Tryz.func126 rfl rfl rfl ?_
 show Wp _ _ _ [(0, .int .i64 3)] _ _
 refine sr ?_
 refine dE [.bool false, .nilFunc, .nilFunc, .nilFunc, .nilFunc] 162 H ?_
 intro l n d
 refine Ar rfl (Kz (.agg #[.bool false, .func (.func 128) #[] #[], .func (.func 129) #[] #[], .func (.func 130) #[] #[], .func (.func 131) #[] #[]]) (Kz (.agg #[.bool true, .func (.func 132) #[] #[], .func (.func 133) #[] #[], .func (.func 130) #[] #[], .func (.func 134) #[] #[]]) (Kz (.agg #[.bool true, .func (.func 128) #[] #[], .func (.func 129) #[] #[], .func (.func 130) #[] #[], .func (.func 135) #[] #[]]) (Kz (.agg #[.bool false, .func (.func 136) #[] #[], .func (.func 137) #[] #[], .func (.func 138) #[] #[], .func (.func 139) #[] #[]]) (Kz (.agg #[.bool true, .func (.func 140) #[] #[], .func (.func 141) #[] #[], .func (.func 138) #[] #[], .func (.func 142) #[] #[]]) (Kz (.agg #[.bool false, .nilFunc, .nilFunc, .nilFunc, .nilFunc, .bool false, .func (.func 128) #[] #[], .func (.func 129) #[] #[], .func (.func 130) #[] #[], .func (.func 131) #[] #[], .bool true, .func (.func 132) #[] #[], .func (.func 133) #[] #[], .func (.func 130) #[] #[], .func (.func 134) #[] #[], .bool true, .func (.func 128) #[] #[], .func (.func 129) #[] #[], .func (.func 130) #[] #[], .func (.func 135) #[] #[], .bool false, .func (.func 136) #[] #[], .func (.func 137) #[] #[], .func (.func 138) #[] #[], .func (.func 139) #[] #[], .bool true, .func (.func 140) #[] #[], .func (.func 141) #[] #[], .func (.func 138) #[] #[], .func (.func 142) #[] #[]]) ?_))))))
 refine dE [.bool false, .nilFunc, .nilFunc, .nilFunc, .nilFunc, .bool false, .nilFunc, .nilFunc, .nilFunc, .nilFunc, .bool false, .nilFunc, .nilFunc, .nilFunc, .nilFunc, .bool false, .nilFunc, .nilFunc, .nilFunc, .nilFunc, .bool false, .nilFunc, .nilFunc, .nilFunc, .nilFunc, .bool false, .nilFunc, .nilFunc, .nilFunc, .nilFunc] 165 d ?_
 intro e o f
 refine bz [.bool false, .nilFunc, .nilFunc, .nilFunc, .nilFunc, .bool false, .func (.func 128) #[] #[], .func (.func 129) #[] #[], .func (.func 130) #[] #[], .func (.func 131) #[] #[], .bool true, .func (.func 132) #[] #[], .func (.func 133) #[] #[], .func (.func 130) #[] #[], .func (.func 134) #[] #[], .bool true, .func (.func 128) #[] #[], .func (.func 129) #[] #[], .func (.func 130) #[] #[], .func (.func 135) #[] #[], .bool false, .func (.func 136) #[] #[], .func (.func 137) #[] #[], .func (.func 138) #[] #[], .func (.func 139) #[] #[], .bool true, .func (.func 140) #[] #[], .func (.func 141) #[] #[], .func (.func 138) #[] #[], .func (.func 142) #[] #[]] 0 f Tryz.sizeOf165 ?_
 intro p a
 refine nt (yJ (sr (Mz rfl (Kz (.bool false) (Mz rfl (gw (.int .i64 3) rfl (yO rfl) (Gz (.bool false) rfl (fw (.bool false) (yM rfl rfl rfl) (nt (jf (sk (sr (Mz rfl (Kz (.pointer (some ⟨e,15,none⟩)) (La ([.bool true, .func (.func 128) #[] #[], .func (.func 129) #[] #[], .func (.func 130) #[] #[], .func (.func 135) #[] #[]]) a 0 Tryz.isAgg162 Tryz.sizeOf162 ?_)))))))))))))))
 have g:=a.pk [1,0]
 refine bz [.bool true, .func (.func 128) #[] #[], .func (.func 129) #[] #[], .func (.func 130) #[] #[], .func (.func 135) #[] #[]] 0 g Tryz.sizeOf162 ?_
 intro q b
 refine An rfl (rt (y9 (iq (vs:= [.agg #[.bool true, .func (.func 128) #[] #[], .func (.func 129) #[] #[], .func (.func 130) #[] #[], .func (.func 135) #[] #[]], .bool true]) rfl (bT.cell rfl (zg (cs:= [.bool true, .func (.func 128) #[] #[], .func (.func 129) #[] #[], .func (.func 130) #[] #[], .func (.func 135) #[] #[]]) Tryz.isAgg162 Tryz.sizeOf162 ((b.cls (i:=0) rfl).lit (k:=0) (m:=5) rfl)) (bT.tmp rfl bT.nil)) (BH rfl)) ?_))
 have h:=b.pk []
 exact⟨rfl,h⟩
theorem nY (w:World) (D:Nat→Prop) (j:Int) (H:Own w D w []) (c:j=4):
    Calls Tryz.prog 126 #[.int .i64 j] w (cO fun v w'=>v= .tuple #[.agg #[.bool false, .func (.func 136) #[] #[], .func (.func 137) #[] #[], .func (.func 138) #[] #[], .func (.func 139) #[] #[]], .bool true]∧Own w D w' []):=by
 subst c
 refine yR (args:= [.int .i64 4]) Tryz.func126 rfl rfl rfl ?_
 show Wp _ _ _ [(0, .int .i64 4)] _ _
 refine sr ?_
 refine dE [.bool false, .nilFunc, .nilFunc, .nilFunc, .nilFunc] 162 H ?_
 intro l n d
 refine Ar rfl (Kz (.agg #[.bool false, .func (.func 128) #[] #[], .func (.func 129) #[] #[], .func (.func 130) #[] #[], .func (.func 131) #[] #[]]) (Kz (.agg #[.bool true, .func (.func 132) #[] #[], .func (.func 133) #[] #[], .func (.func 130) #[] #[], .func (.func 134) #[] #[]]) (Kz (.agg #[.bool true, .func (.func 128) #[] #[], .func (.func 129) #[] #[], .func (.func 130) #[] #[], .func (.func 135) #[] #[]]) (Kz (.agg #[.bool false, .func (.func 136) #[] #[], .func (.func 137) #[] #[], .func (.func 138) #[] #[], .func (.func 139) #[] #[]]) (Kz (.agg #[.bool true, .func (.func 140) #[] #[], .func (.func 141) #[] #[], .func (.func 138) #[] #[], .func (.func 142) #[] #[]]) (Kz (.agg #[.bool false, .nilFunc, .nilFunc, .nilFunc, .nilFunc, .bool false, .func (.func 128) #[] #[], .func (.func 129) #[] #[], .func (.func 130) #[] #[], .func (.func 131) #[] #[], .bool true, .func (.func 132) #[] #[], .func (.func 133) #[] #[], .func (.func 130) #[] #[], .func (.func 134) #[] #[], .bool true, .func (.func 128) #[] #[], .func (.func 129) #[] #[], .func (.func 130) #[] #[], .func (.func 135) #[] #[], .bool false, .func (.func 136) #[] #[], .func (.func 137) #[] #[], .func (.func 138) #[] #[], .func (.func 139) #[] #[], .bool true, .func (.func 140) #[] #[], .func (.func 141) #[] #[], .func (.func 138) #[] #[], .func (.func 142) #[] #[]]) ?_))))))
 refine dE [.bool false, .nilFunc, .nilFunc, .nilFunc, .nilFunc, .bool false, .nilFunc, .nilFunc, .nilFunc, .nilFunc, .bool false, .nilFunc, .nilFunc, .nilFunc, .nilFunc, .bool false, .nilFunc, .nilFunc, .nilFunc, .nilFunc, .bool false, .nilFunc, .nilFunc, .nilFunc, .nilFunc, .bool false, .nilFunc, .nilFunc, .nilFunc, .nilFunc] 165 d ?_
 intro e o f
 refine bz [.bool false, .nilFunc, .nilFunc, .nilFunc, .nilFunc, .bool false, .func (.func 128) #[] #[], .func (.func 129) #[] #[], .func (.func 130) #[] #[], .func (.func 131) #[] #[], .bool true, .func (.func 132) #[] #[], .func (.func 133) #[] #[], .func (.func 130) #[] #[], .func (.func 134) #[] #[], .bool true, .func (.func 128) #[] #[], .func (.func 129) #[] #[], .func (.func 130) #[] #[], .func (.func 135) #[] #[], .bool false, .func (.func 136) #[] #[], .func (.func 137) #[] #[], .func (.func 138) #[] #[], .func (.func 139) #[] #[], .bool true, .func (.func 140) #[] #[], .func (.func 141) #[] #[], .func (.func 138) #[] #[], .func (.func 142) #[] #[]] 0 f Tryz.sizeOf165 ?_
 intro p a
 refine nt (yJ (sr (Mz rfl (Kz (.bool false) (Mz rfl (gw (.int .i64 4) rfl (yO rfl) (Gz (.bool false) rfl (fw (.bool false) (yM rfl rfl rfl) (nt (jf (sk (sr (Mz rfl (Kz (.pointer (some ⟨e,20,none⟩)) (La ([.bool false, .func (.func 136) #[] #[], .func (.func 137) #[] #[], .func (.func 138) #[] #[], .func (.func 139) #[] #[]]) a 0 Tryz.isAgg162 Tryz.sizeOf162 ?_)))))))))))))))
 have g:=a.pk [1,0]
 refine bz [.bool false, .func (.func 136) #[] #[], .func (.func 137) #[] #[], .func (.func 138) #[] #[], .func (.func 139) #[] #[]] 0 g Tryz.sizeOf162 ?_
 intro q b
 refine An rfl (rt (y9 (iq (vs:= [.agg #[.bool false, .func (.func 136) #[] #[], .func (.func 137) #[] #[], .func (.func 138) #[] #[], .func (.func 139) #[] #[]], .bool true]) rfl (bT.cell rfl (zg (cs:= [.bool false, .func (.func 136) #[] #[], .func (.func 137) #[] #[], .func (.func 138) #[] #[], .func (.func 139) #[] #[]]) Tryz.isAgg162 Tryz.sizeOf162 ((b.cls (i:=0) rfl).lit (k:=0) (m:=5) rfl)) (bT.tmp rfl bT.nil)) (BH rfl)) ?_))
 have h:=b.pk []
 exact⟨rfl,h⟩
def lS (a:aB):aB:=
 aB.mk a.ae ([]) ([]) a.aD a.aH a.aF
theorem rA (w:World) (D:Nat→Prop) (a:aB) (g:aB) (H:Own w D w []) (hr:lS a=g):
    Calls Tryz.prog 136 #[.agg (aB.cells a).toArray] w (cO fun v w'=>v= .agg (aB.cells g).toArray∧Own w D w' []):=by
 refine yR (args:= [.agg (aB.cells a).toArray]) Tryz.func136 rfl rfl rfl ?_
 show Wp _ _ _ [(0, .agg (aB.cells a).toArray)] _ _
 refine sr ?_
 refine dE (aB.cells a) 64 H ?_
 intro c h e
 refine dE [.int .i64 0, .string ⟨List.toArray ([])⟩, .string ⟨List.toArray ([])⟩, .string ⟨List.toArray ([])⟩, .string ⟨List.toArray ([])⟩, .int .i64 0] 64 e ?_
 intro j l b
 refine ns (Kz (.pointer (some ⟨c,0,none⟩)) (Lz (.int .i64 a.ae) b 1 Tryz.isAgg3 (Kz (.pointer (some ⟨c,3,none⟩)) (Lz (.string ⟨List.toArray a.aD⟩) b 1 Tryz.isAgg9 (Kz (.pointer (some ⟨c,4,none⟩)) (Lz (.string ⟨List.toArray a.aH⟩) b 1 Tryz.isAgg9 (Kz (.pointer (some ⟨c,5,none⟩)) (Lz (.int .i64 a.aF) b 1 Tryz.isAgg3 (Kz (.agg #[.int .i64 a.ae, .string ⟨List.toArray ([])⟩, .string ⟨List.toArray ([])⟩, .string ⟨List.toArray a.aD⟩, .string ⟨List.toArray a.aH⟩, .int .i64 a.aF]) ?_)))))))))
 refine bz [.int .i64 a.ae, .string ⟨List.toArray ([])⟩, .string ⟨List.toArray ([])⟩, .string ⟨List.toArray a.aD⟩, .string ⟨List.toArray a.aH⟩, .int .i64 a.aF] 0 b Tryz.sizeOf64 ?_
 intro n d
 refine nt (rt (y9 (l6 rfl rfl (zg (cs:= [.int .i64 a.ae, .string ⟨List.toArray ([])⟩, .string ⟨List.toArray ([])⟩, .string ⟨List.toArray a.aD⟩, .string ⟨List.toArray a.aH⟩, .int .i64 a.aF]) Tryz.isAgg64 Tryz.sizeOf64 ((d.cls (i:=0) rfl).lit (k:=0) (m:=6) rfl))) ?_))
 have f:=d.pk []
 obtain rfl:_=aB.mk a.ae ([]) ([]) a.aD a.aH a.aF:=hr.symm.trans rfl
 exact⟨rfl,f⟩
structure bC where
 aD:List UInt8
 aH:List UInt8
def bC.cells (x:bC):List Value:= [.string ⟨List.toArray x.aD⟩, .string ⟨List.toArray x.aH⟩]
instance:Bk bC:=⟨fun x _=>bk x.aD+(bk x.aH+(0))⟩
theorem bC.len:∀ x,(bC.cells x).length=2:=fun _=>rfl
theorem bC.one:∀ x, ∀ u ∈ bC.cells x,u.oneCell'=true:=fun x u hu=>by
 simp only [bC.cells,List.mem_cons,List.not_mem_nil,or_false] at hu
 rcases hu with rfl | rfl <;> rfl
def AP (w:World) (x:bC):Prop:=(x.aD.length≤140737488351232)∧(x.aH.length≤140737488351232)
instance:Inhabited bC:=⟨⟨default,default⟩⟩
def kP (a:aB):bC:=
 bC.mk a.aD a.aH
theorem qA (w:World) (D:Nat→Prop) (a:aB) (g:bC) (H:Own w D w []) (hr:kP a=g):
    Calls Tryz.prog 138 #[.agg (aB.cells a).toArray] w (cO fun v w'=>v= .agg (bC.cells g).toArray∧Own w D w' []):=by
 refine yR (args:= [.agg (aB.cells a).toArray]) Tryz.func138 rfl rfl rfl ?_
 show Wp _ _ _ [(0, .agg (aB.cells a).toArray)] _ _
 refine sr ?_
 refine dE (aB.cells a) 64 H ?_
 intro c h e
 refine dE [.string ⟨List.toArray ([])⟩, .string ⟨List.toArray ([])⟩] 24 e ?_
 intro j l b
 refine ns (Kz (.pointer (some ⟨c,3,none⟩)) (Lz (.string ⟨List.toArray a.aD⟩) b 1 Tryz.isAgg9 (Kz (.pointer (some ⟨c,4,none⟩)) (Lz (.string ⟨List.toArray a.aH⟩) b 1 Tryz.isAgg9 (Kz (.agg #[.string ⟨List.toArray a.aD⟩, .string ⟨List.toArray a.aH⟩]) ?_)))))
 refine bz [.string ⟨List.toArray a.aD⟩, .string ⟨List.toArray a.aH⟩] 0 b Tryz.sizeOf24 ?_
 intro n d
 refine nt (rt (y9 (l6 rfl rfl (zg (cs:= [.string ⟨List.toArray a.aD⟩, .string ⟨List.toArray a.aH⟩]) Tryz.isAgg24 Tryz.sizeOf24 ((d.cls (i:=0) rfl).lit (k:=0) (m:=2) rfl))) ?_))
 have f:=d.pk []
 obtain rfl:_=bC.mk a.aD a.aH:=hr.symm.trans rfl
 exact⟨rfl,f⟩
def gK (a:bC):Int:=
 if a.aD≠([]) then bnd (bX a.aD) fun b=>if b=0 then if a.aH≠([]) then bnd (bX a.aH) fun c=>if c=0 then if a.aH≤a.aD then 21 else 0 else 21 else 0 else 21 else if a.aH≠([]) then bnd (bX a.aH) fun d=>if d=0 then if a.aH≤a.aD then 21 else 0 else 21 else 0
theorem oL (w:World) (D:Nat→Prop) (a:bC) (W:Int) (H:Own w D w []) (hr:gK a=W):
    Calls Tryz.prog 107 #[.agg (bC.cells a).toArray] w (cO fun v w'=>v= .int .i64 W∧Own w D w' []):=by
 refine yR (args:= [.agg (bC.cells a).toArray]) Tryz.func107 rfl rfl rfl ?_
 show Wp _ _ _ [(0, .agg (bC.cells a).toArray)] _ _
 refine sr ?_
 refine dE (bC.cells a) 24 H ?_
 intro h ah k
 refine An rfl (yJ (sr (Kz (.pointer (some ⟨h,0,none⟩)) (Lz (.string ⟨List.toArray a.aD⟩) k 0 Tryz.isAgg9 (fw (.bool (decide (a.aD≠([])))) (zA rfl rfl) (Mz rfl ?_))))))
 by_cases d:a.aD≠([])
 refine Gz (.pointer (some ⟨h,0,none⟩)) (dT d) (Gl (.string ⟨List.toArray a.aD⟩) (dT d) k 0 Tryz.isAgg9 ?_)
 obtain⟨o,j⟩:∃ q,bX a.aD=q:=⟨_,rfl⟩
 obtain⟨ai,C,X,E,Y⟩:=yP k
 refine jM (dT d) Tryz.call117 (iP _ _ a.aD o C j) ?_
 rintro _ aj ⟨rfl,F,z⟩
 have s:=E _ _ F
 replace z: ¬ (o=0)∨(1≤a.aD.length∧a.aD.length≤12):=z
 refine gw (.bool (decide (¬ (o=0)))) (dT d) (za (e:= !(decide (o=0))) yk decide_not.symm) (fw (.bool (decide (¬ (o=0)))) (yN rfl (dT d) rfl) (nt ?_))
 by_cases l:o=0
 refine jF (dF (BK l)) (sk (yJ (sr (Kz (.pointer (some ⟨h,1,none⟩)) (Lz (.string ⟨List.toArray a.aH⟩) s 0 Tryz.isAgg9 (fw (.bool (decide (a.aH≠([])))) (zA rfl rfl) (Mz rfl ?_)))))))
 by_cases b:a.aH≠([])
 refine Gz (.pointer (some ⟨h,1,none⟩)) (dT b) (Gl (.string ⟨List.toArray a.aH⟩) (dT b) s 0 Tryz.isAgg9 ?_)
 obtain⟨p,m⟩:∃ q,bX a.aH=q:=⟨_,rfl⟩
 obtain⟨ak,G,Z,I,ae⟩:=yP s
 refine jM (dT b) Tryz.call117 (iP _ _ a.aH p G m) ?_
 rintro _ au ⟨rfl,J,A⟩
 have t:=I _ _ J
 replace A: ¬ (p=0)∨(1≤a.aH.length∧a.aH.length≤12):=A
 refine gw (.bool (decide (¬ (p=0)))) (dT b) (za (e:= !(decide (p=0))) yk decide_not.symm) (gw (.bool (decide (¬ (p=0)))) (dT b) (yO rfl) ?_)
 by_cases f:p=0
 refine gw (.pointer (some ⟨h,1,none⟩)) (dF (BK f)) yk (gw (.string ⟨List.toArray a.aH⟩) (dF (BK f)) (y5 rfl (bn.one Tryz.isAgg9 (zq (t.cls (i:=0) rfl) rfl))) (gw (.pointer (some ⟨h,0,none⟩)) (dF (BK f)) yk (gw (.string ⟨List.toArray a.aD⟩) (dF (BK f)) (y5 rfl (bn.one Tryz.isAgg9 (zq (t.cls (i:=0) rfl) rfl))) (gw (.bool (decide (a.aH≤a.aD))) (dF (BK f)) (za (e:=Op.bytesLess a.aH a.aD || decide (a.aH=a.aD)) (zY rfl rfl) (tX _ _)) (gw (.bool (decide (a.aH≤a.aD))) (dT b) (yM rfl (dF (BK f)) rfl) (fw (.bool (decide (a.aH≤a.aD))) (yN rfl (dT b) rfl) (nt ?_)))))))
 by_cases x:a.aH≤a.aD
 refine jT (dT x) (sr (An rfl (rt (tR (rs ?_)))))
 have N:=t.pk []
 obtain rfl:_=21:=hr.symm.trans (et (ip d) (et (aa j) (et (ip l) (et (ip b) (et (aa m) (et (ip f) (ip x)))))))
 exact⟨rfl,N⟩
 refine jF (dF x) (sk (sr (An rfl (rt (rs ?_)))))
 have O:=t.pk []
 obtain rfl:_=0:=hr.symm.trans (et (ip d) (et (aa j) (et (ip l) (et (ip b) (et (aa m) (et (ip f) (iN x)))))))
 exact⟨rfl,O⟩
 refine Sz (dT f) (Sz (dT f) (Sz (dT f) (Sz (dT f) (Sz (dT f) (gw (.bool true) (dT b) (yN rfl (dT f) rfl) (fw (.bool true) (yN rfl (dT b) rfl) (nt (jt (sr (An rfl (rt (tR (rs ?_)))))))))))))
 have P:=t.pk []
 obtain rfl:_=21:=hr.symm.trans (et (ip d) (et (aa j) (et (ip l) (et (ip b) (et (aa m) (iN f))))))
 exact⟨rfl,P⟩
 refine Sz (dF b) (Sz (dF b) (Sz (dF b) (Sz (dF b) (Sz (dF b) (yX rfl rfl rfl (yX rfl rfl rfl (yX rfl rfl rfl (yX rfl rfl rfl (yX rfl rfl rfl (Sz (dF b) (fw (.bool false) (yM rfl (dF b) rfl) (nt (jf (sk (sr (An rfl (rt (rs ?_))))))))))))))))))
 have Q:=s.pk []
 obtain rfl:_=0:=hr.symm.trans (et (ip d) (et (aa j) (et (ip l) (iN b))))
 exact⟨rfl,Q⟩
 refine jT (dT l) (sr (An rfl (rt (tR (rs ?_)))))
 have R:=s.pk []
 obtain rfl:_=21:=hr.symm.trans (et (ip d) (et (aa j) (iN l)))
 exact⟨rfl,R⟩
 refine Sz (dF d) (Sz (dF d) (Sz (dF d) (Sz (dF d) (fw (.bool false) (yM rfl (dF d) rfl) (nt (jf (sk (yJ (sr (Kz (.pointer (some ⟨h,1,none⟩)) (Lz (.string ⟨List.toArray a.aH⟩) k 0 Tryz.isAgg9 (fw (.bool (decide (a.aH≠([])))) (zA rfl rfl) (Mz rfl ?_)))))))))))))
 by_cases c:a.aH≠([])
 refine Gz (.pointer (some ⟨h,1,none⟩)) (dT c) (Gl (.string ⟨List.toArray a.aH⟩) (dT c) k 0 Tryz.isAgg9 ?_)
 obtain⟨r,n⟩:∃ q,bX a.aH=q:=⟨_,rfl⟩
 obtain⟨av,K,af,L,ag⟩:=yP k
 refine jM (dT c) Tryz.call117 (iP _ _ a.aH r K n) ?_
 rintro _ ax ⟨rfl,M,B⟩
 have u:=L _ _ M
 replace B: ¬ (r=0)∨(1≤a.aH.length∧a.aH.length≤12):=B
 refine gw (.bool (decide (¬ (r=0)))) (dT c) (za (e:= !(decide (r=0))) yk decide_not.symm) (gw (.bool (decide (¬ (r=0)))) (dT c) (yO rfl) ?_)
 by_cases g:r=0
 refine gw (.pointer (some ⟨h,1,none⟩)) (dF (BK g)) yk (gw (.string ⟨List.toArray a.aH⟩) (dF (BK g)) (y5 rfl (bn.one Tryz.isAgg9 (zq (u.cls (i:=0) rfl) rfl))) (gw (.pointer (some ⟨h,0,none⟩)) (dF (BK g)) yk (gw (.string ⟨List.toArray a.aD⟩) (dF (BK g)) (y5 rfl (bn.one Tryz.isAgg9 (zq (u.cls (i:=0) rfl) rfl))) (gw (.bool (decide (a.aH≤a.aD))) (dF (BK g)) (za (e:=Op.bytesLess a.aH a.aD || decide (a.aH=a.aD)) (zY rfl rfl) (tX _ _)) (gw (.bool (decide (a.aH≤a.aD))) (dT c) (yM rfl (dF (BK g)) rfl) (fw (.bool (decide (a.aH≤a.aD))) (yN rfl (dT c) rfl) (nt ?_)))))))
 by_cases y:a.aH≤a.aD
 refine jT (dT y) (sr (An rfl (rt (tR (rs ?_)))))
 have S:=u.pk []
 obtain rfl:_=21:=hr.symm.trans (et (iN d) (et (ip c) (et (aa n) (et (ip g) (ip y)))))
 exact⟨rfl,S⟩
 refine jF (dF y) (sk (sr (An rfl (rt (rs ?_)))))
 have T:=u.pk []
 obtain rfl:_=0:=hr.symm.trans (et (iN d) (et (ip c) (et (aa n) (et (ip g) (iN y)))))
 exact⟨rfl,T⟩
 refine Sz (dT g) (Sz (dT g) (Sz (dT g) (Sz (dT g) (Sz (dT g) (gw (.bool true) (dT c) (yN rfl (dT g) rfl) (fw (.bool true) (yN rfl (dT c) rfl) (nt (jt (sr (An rfl (rt (tR (rs ?_)))))))))))))
 have U:=u.pk []
 obtain rfl:_=21:=hr.symm.trans (et (iN d) (et (ip c) (et (aa n) (iN g))))
 exact⟨rfl,U⟩
 refine Sz (dF c) (Sz (dF c) (Sz (dF c) (Sz (dF c) (Sz (dF c) (yX rfl rfl rfl (yX rfl rfl rfl (yX rfl rfl rfl (yX rfl rfl rfl (yX rfl rfl rfl (Sz (dF c) (fw (.bool false) (yM rfl (dF c) rfl) (nt (jf (sk (sr (An rfl (rt (rs ?_))))))))))))))))))
 have V:=k.pk []
 obtain rfl:_=0:=hr.symm.trans (et (iN d) (iN c))
 exact⟨rfl,V⟩
def iM (c:aB):Int:=
 bnd (kP c) fun a=>bnd (gK a) fun b=>b
theorem mY (w:World) (D:Nat→Prop) (a:aB) (p:Int) (H:Own w D w []) (hr:iM a=p):
    Calls Tryz.prog 141 #[.agg (aB.cells a).toArray] w (cO fun v w'=>v= .int .i64 p∧Own w D w' []):=by
 refine yR (args:= [.agg (aB.cells a).toArray]) Tryz.func141 rfl rfl rfl ?_
 show Wp _ _ _ [(0, .agg (aB.cells a).toArray)] _ _
 refine sr ?_
 refine dE (aB.cells a) 64 H ?_
 intro x y e
 refine Ar rfl (La (aB.cells a) e 0 Tryz.isAgg64 Tryz.sizeOf64 ?_)
 obtain⟨d,b⟩:∃ q,kP a=q:=⟨_,rfl⟩
 obtain⟨z,f,r,g,s⟩:=yP e
 refine cl Tryz.call138 (qA _ _ a d f b) ?_
 rintro _ A ⟨rfl,h⟩
 have m:=g _ _ h
 obtain⟨i,c⟩:∃ q,gK d=q:=⟨_,rfl⟩
 obtain⟨B,j,t,k,u⟩:=yP m
 refine cl Tryz.call107 (oL _ _ d i j c) ?_
 rintro _ C ⟨rfl,l⟩
 have n:=k _ _ l
 refine An rfl (rt (rs ?_))
 have o:=n.pk []
 obtain rfl:_=i:=hr.symm.trans (et (aa b) (aa c))
 exact⟨rfl,o⟩
def j5 (b:aB):Int:=
 bnd (iM b) fun a=>if a=0 then if b.aF < 1 then 1 else if b.aF > 4 then 1 else 0 else a
theorem qB (w:World) (D:Nat→Prop) (c:aB) (s:Int) (H:Own w D w []) (hr:j5 c=s):
    Calls Tryz.prog 137 #[.agg (aB.cells c).toArray] w (cO fun v w'=>v= .int .i64 s∧Own w D w' []):=by
 refine yR (args:= [.agg (aB.cells c).toArray]) Tryz.func137 rfl rfl rfl ?_
 show Wp _ _ _ [(0, .agg (aB.cells c).toArray)] _ _
 refine sr ?_
 refine dE (aB.cells c) 64 H ?_
 intro i x j
 refine An rfl (yJ (sr (La (aB.cells c) j 0 Tryz.isAgg64 Tryz.sizeOf64 ?_)))
 obtain⟨g,b⟩:∃ q,iM c=q:=⟨_,rfl⟩
 obtain⟨y,k,t,l,u⟩:=yP j
 refine cl Tryz.call141 (mY _ _ c g k b) ?_
 rintro _ z ⟨rfl,m⟩
 have d:=l _ _ m
 refine Ar rfl (Mz rfl (fw (.bool (decide (¬ (g=0)))) (za (e:= !(decide (g=0))) yk decide_not.symm) (nt ?_)))
 by_cases f:g=0
 refine jF (dF (BK f)) (sk (yJ (sr (Kz (.pointer (some ⟨i,5,none⟩)) (Lz (.int .i64 c.aF) d 0 Tryz.isAgg3 (Kz (.bool (decide (c.aF < 1))) (Mz rfl ?_)))))))
 by_cases a:c.aF < 1
 refine Sz (dT a) (Sz (dT a) (Sz (dT a) (fw (.bool true) (yN rfl (dT a) rfl) (nt (jt (sr (An rfl (rt (tR (rs ?_))))))))))
 have n:=d.pk []
 obtain rfl:_=1:=hr.symm.trans (et (aa b) (et (ip f) (ip a)))
 exact⟨rfl,n⟩
 refine Gz (.pointer (some ⟨i,5,none⟩)) (dF a) (Gl (.int .i64 c.aF) (dF a) d 0 Tryz.isAgg3 (Gz (.bool (decide (c.aF > 4))) (dF a) (fw (.bool (decide (c.aF > 4))) (yM rfl (dF a) rfl) (nt ?_))))
 by_cases h:c.aF > 4
 refine jT (dT h) (sr (An rfl (rt (tR (rs ?_)))))
 have o:=d.pk []
 obtain rfl:_=1:=hr.symm.trans (et (aa b) (et (ip f) (et (iN a) (ip h))))
 exact⟨rfl,o⟩
 refine jF (dF h) (sk (sr (An rfl (rt (rs ?_)))))
 have p:=d.pk []
 obtain rfl:_=0:=hr.symm.trans (et (aa b) (et (ip f) (et (iN a) (iN h))))
 exact⟨rfl,p⟩
 refine jT (dT f) (sr (Mz rfl (An rfl (rt (tR (rs ?_))))))
 have r:=d.pk []
 obtain rfl:_=g:=hr.symm.trans (et (aa b) (iN f))
 exact⟨rfl,r⟩
theorem nZ (w:World) (D:Nat→Prop) (j:Int) (H:Own w D w []) (c:j=5):
    Calls Tryz.prog 126 #[.int .i64 j] w (cO fun v w'=>v= .tuple #[.agg #[.bool true, .func (.func 140) #[] #[], .func (.func 141) #[] #[], .func (.func 138) #[] #[], .func (.func 142) #[] #[]], .bool true]∧Own w D w' []):=by
 subst c
 refine yR (args:= [.int .i64 5]) Tryz.func126 rfl rfl rfl ?_
 show Wp _ _ _ [(0, .int .i64 5)] _ _
 refine sr ?_
 refine dE [.bool false, .nilFunc, .nilFunc, .nilFunc, .nilFunc] 162 H ?_
 intro l n d
 refine Ar rfl (Kz (.agg #[.bool false, .func (.func 128) #[] #[], .func (.func 129) #[] #[], .func (.func 130) #[] #[], .func (.func 131) #[] #[]]) (Kz (.agg #[.bool true, .func (.func 132) #[] #[], .func (.func 133) #[] #[], .func (.func 130) #[] #[], .func (.func 134) #[] #[]]) (Kz (.agg #[.bool true, .func (.func 128) #[] #[], .func (.func 129) #[] #[], .func (.func 130) #[] #[], .func (.func 135) #[] #[]]) (Kz (.agg #[.bool false, .func (.func 136) #[] #[], .func (.func 137) #[] #[], .func (.func 138) #[] #[], .func (.func 139) #[] #[]]) (Kz (.agg #[.bool true, .func (.func 140) #[] #[], .func (.func 141) #[] #[], .func (.func 138) #[] #[], .func (.func 142) #[] #[]]) (Kz (.agg #[.bool false, .nilFunc, .nilFunc, .nilFunc, .nilFunc, .bool false, .func (.func 128) #[] #[], .func (.func 129) #[] #[], .func (.func 130) #[] #[], .func (.func 131) #[] #[], .bool true, .func (.func 132) #[] #[], .func (.func 133) #[] #[], .func (.func 130) #[] #[], .func (.func 134) #[] #[], .bool true, .func (.func 128) #[] #[], .func (.func 129) #[] #[], .func (.func 130) #[] #[], .func (.func 135) #[] #[], .bool false, .func (.func 136) #[] #[], .func (.func 137) #[] #[], .func (.func 138) #[] #[], .func (.func 139) #[] #[], .bool true, .func (.func 140) #[] #[], .func (.func 141) #[] #[], .func (.func 138) #[] #[], .func (.func 142) #[] #[]]) ?_))))))
 refine dE [.bool false, .nilFunc, .nilFunc, .nilFunc, .nilFunc, .bool false, .nilFunc, .nilFunc, .nilFunc, .nilFunc, .bool false, .nilFunc, .nilFunc, .nilFunc, .nilFunc, .bool false, .nilFunc, .nilFunc, .nilFunc, .nilFunc, .bool false, .nilFunc, .nilFunc, .nilFunc, .nilFunc, .bool false, .nilFunc, .nilFunc, .nilFunc, .nilFunc] 165 d ?_
 intro e o f
 refine bz [.bool false, .nilFunc, .nilFunc, .nilFunc, .nilFunc, .bool false, .func (.func 128) #[] #[], .func (.func 129) #[] #[], .func (.func 130) #[] #[], .func (.func 131) #[] #[], .bool true, .func (.func 132) #[] #[], .func (.func 133) #[] #[], .func (.func 130) #[] #[], .func (.func 134) #[] #[], .bool true, .func (.func 128) #[] #[], .func (.func 129) #[] #[], .func (.func 130) #[] #[], .func (.func 135) #[] #[], .bool false, .func (.func 136) #[] #[], .func (.func 137) #[] #[], .func (.func 138) #[] #[], .func (.func 139) #[] #[], .bool true, .func (.func 140) #[] #[], .func (.func 141) #[] #[], .func (.func 138) #[] #[], .func (.func 142) #[] #[]] 0 f Tryz.sizeOf165 ?_
 intro p a
 refine nt (yJ (sr (Mz rfl (Kz (.bool false) (Mz rfl (gw (.int .i64 5) rfl (yO rfl) (Gz (.bool false) rfl (fw (.bool false) (yM rfl rfl rfl) (nt (jf (sk (sr (Mz rfl (Kz (.pointer (some ⟨e,25,none⟩)) (La ([.bool true, .func (.func 140) #[] #[], .func (.func 141) #[] #[], .func (.func 138) #[] #[], .func (.func 142) #[] #[]]) a 0 Tryz.isAgg162 Tryz.sizeOf162 ?_)))))))))))))))
 have g:=a.pk [1,0]
 refine bz [.bool true, .func (.func 140) #[] #[], .func (.func 141) #[] #[], .func (.func 138) #[] #[], .func (.func 142) #[] #[]] 0 g Tryz.sizeOf162 ?_
 intro q b
 refine An rfl (rt (y9 (iq (vs:= [.agg #[.bool true, .func (.func 140) #[] #[], .func (.func 141) #[] #[], .func (.func 138) #[] #[], .func (.func 142) #[] #[]], .bool true]) rfl (bT.cell rfl (zg (cs:= [.bool true, .func (.func 140) #[] #[], .func (.func 141) #[] #[], .func (.func 138) #[] #[], .func (.func 142) #[] #[]]) Tryz.isAgg162 Tryz.sizeOf162 ((b.cls (i:=0) rfl).lit (k:=0) (m:=5) rfl)) (bT.tmp rfl bT.nil)) (BH rfl)) ?_))
 have h:=b.pk []
 exact⟨rfl,h⟩
def lc (a:aB):aB:=
 aB.mk a.ae ([]) ([]) a.aD a.aH 0
theorem qN (w:World) (D:Nat→Prop) (a:aB) (g:aB) (H:Own w D w []) (hr:lc a=g):
    Calls Tryz.prog 140 #[.agg (aB.cells a).toArray] w (cO fun v w'=>v= .agg (aB.cells g).toArray∧Own w D w' []):=by
 refine yR (args:= [.agg (aB.cells a).toArray]) Tryz.func140 rfl rfl rfl ?_
 show Wp _ _ _ [(0, .agg (aB.cells a).toArray)] _ _
 refine sr ?_
 refine dE (aB.cells a) 64 H ?_
 intro c h e
 refine dE [.int .i64 0, .string ⟨List.toArray ([])⟩, .string ⟨List.toArray ([])⟩, .string ⟨List.toArray ([])⟩, .string ⟨List.toArray ([])⟩, .int .i64 0] 64 e ?_
 intro j l b
 refine ns (Kz (.pointer (some ⟨c,0,none⟩)) (Lz (.int .i64 a.ae) b 1 Tryz.isAgg3 (Kz (.pointer (some ⟨c,3,none⟩)) (Lz (.string ⟨List.toArray a.aD⟩) b 1 Tryz.isAgg9 (Kz (.pointer (some ⟨c,4,none⟩)) (Lz (.string ⟨List.toArray a.aH⟩) b 1 Tryz.isAgg9 (Kz (.agg #[.int .i64 a.ae, .string ⟨List.toArray ([])⟩, .string ⟨List.toArray ([])⟩, .string ⟨List.toArray a.aD⟩, .string ⟨List.toArray a.aH⟩, .int .i64 0]) ?_)))))))
 refine bz [.int .i64 a.ae, .string ⟨List.toArray ([])⟩, .string ⟨List.toArray ([])⟩, .string ⟨List.toArray a.aD⟩, .string ⟨List.toArray a.aH⟩, .int .i64 0] 0 b Tryz.sizeOf64 ?_
 intro n d
 refine nt (rt (y9 (l6 rfl rfl (zg (cs:= [.int .i64 a.ae, .string ⟨List.toArray ([])⟩, .string ⟨List.toArray ([])⟩, .string ⟨List.toArray a.aD⟩, .string ⟨List.toArray a.aH⟩, .int .i64 0]) Tryz.isAgg64 Tryz.sizeOf64 ((d.cls (i:=0) rfl).lit (k:=0) (m:=6) rfl))) ?_))
 have f:=d.pk []
 obtain rfl:_=aB.mk a.ae ([]) ([]) a.aD a.aH 0:=hr.symm.trans rfl
 exact⟨rfl,f⟩
theorem nE (w:World) (D:Nat→Prop) (a:Int) (H:Own w D w []) (p: ¬ (a=1)) (q: ¬ (a=2)) (r: ¬ (a=3)) (s: ¬ (a=4)) (t: ¬ (a=5)):
    Calls Tryz.prog 126 #[.int .i64 a] w (cO fun v w'=>v= .tuple #[.agg #[.bool false, .nilFunc, .nilFunc, .nilFunc, .nilFunc], .bool false]∧Own w D w' []):=by
 refine yR (args:= [.int .i64 a]) Tryz.func126 rfl rfl rfl ?_
 show Wp _ _ _ [(0, .int .i64 a)] _ _
 refine sr ?_
 refine dE [.bool false, .nilFunc, .nilFunc, .nilFunc, .nilFunc] 162 H ?_
 intro u x g
 refine Ar rfl (Kz (.agg #[.bool false, .func (.func 128) #[] #[], .func (.func 129) #[] #[], .func (.func 130) #[] #[], .func (.func 131) #[] #[]]) (Kz (.agg #[.bool true, .func (.func 132) #[] #[], .func (.func 133) #[] #[], .func (.func 130) #[] #[], .func (.func 134) #[] #[]]) (Kz (.agg #[.bool true, .func (.func 128) #[] #[], .func (.func 129) #[] #[], .func (.func 130) #[] #[], .func (.func 135) #[] #[]]) (Kz (.agg #[.bool false, .func (.func 136) #[] #[], .func (.func 137) #[] #[], .func (.func 138) #[] #[], .func (.func 139) #[] #[]]) (Kz (.agg #[.bool true, .func (.func 140) #[] #[], .func (.func 141) #[] #[], .func (.func 138) #[] #[], .func (.func 142) #[] #[]]) (Kz (.agg #[.bool false, .nilFunc, .nilFunc, .nilFunc, .nilFunc, .bool false, .func (.func 128) #[] #[], .func (.func 129) #[] #[], .func (.func 130) #[] #[], .func (.func 131) #[] #[], .bool true, .func (.func 132) #[] #[], .func (.func 133) #[] #[], .func (.func 130) #[] #[], .func (.func 134) #[] #[], .bool true, .func (.func 128) #[] #[], .func (.func 129) #[] #[], .func (.func 130) #[] #[], .func (.func 135) #[] #[], .bool false, .func (.func 136) #[] #[], .func (.func 137) #[] #[], .func (.func 138) #[] #[], .func (.func 139) #[] #[], .bool true, .func (.func 140) #[] #[], .func (.func 141) #[] #[], .func (.func 138) #[] #[], .func (.func 142) #[] #[]]) ?_))))))
 refine dE [.bool false, .nilFunc, .nilFunc, .nilFunc, .nilFunc, .bool false, .nilFunc, .nilFunc, .nilFunc, .nilFunc, .bool false, .nilFunc, .nilFunc, .nilFunc, .nilFunc, .bool false, .nilFunc, .nilFunc, .nilFunc, .nilFunc, .bool false, .nilFunc, .nilFunc, .nilFunc, .nilFunc, .bool false, .nilFunc, .nilFunc, .nilFunc, .nilFunc] 165 g ?_
 intro y z h
 refine bz [.bool false, .nilFunc, .nilFunc, .nilFunc, .nilFunc, .bool false, .func (.func 128) #[] #[], .func (.func 129) #[] #[], .func (.func 130) #[] #[], .func (.func 131) #[] #[], .bool true, .func (.func 132) #[] #[], .func (.func 133) #[] #[], .func (.func 130) #[] #[], .func (.func 134) #[] #[], .bool true, .func (.func 128) #[] #[], .func (.func 129) #[] #[], .func (.func 130) #[] #[], .func (.func 135) #[] #[], .bool false, .func (.func 136) #[] #[], .func (.func 137) #[] #[], .func (.func 138) #[] #[], .func (.func 139) #[] #[], .bool true, .func (.func 140) #[] #[], .func (.func 141) #[] #[], .func (.func 138) #[] #[], .func (.func 142) #[] #[]] 0 h Tryz.sizeOf165 ?_
 intro A c
 refine nt (yJ (sr (Mz rfl (Kz (.bool (decide (a≤0))) (Mz rfl ?_)))))
 by_cases b:a≤0
 refine Sz (dT b) (Sz (dT b) (fw (.bool true) (yN rfl (dT b) rfl) (nt (jt (sr (Kz (.agg #[.bool false, .nilFunc, .nilFunc, .nilFunc, .nilFunc]) ?_))))))
 have j:=c.pk [1,0]
 refine bz [.bool false, .nilFunc, .nilFunc, .nilFunc, .nilFunc] 0 j Tryz.sizeOf162 ?_
 intro B d
 refine An rfl (rt (tR (y9 (iq (vs:= [.agg #[.bool false, .nilFunc, .nilFunc, .nilFunc, .nilFunc], .bool false]) rfl (bT.cell rfl (zg (cs:= [.bool false, .nilFunc, .nilFunc, .nilFunc, .nilFunc]) Tryz.isAgg162 Tryz.sizeOf162 ((d.cls (i:=0) rfl).lit (k:=0) (m:=5) rfl)) (bT.tmp rfl bT.nil)) (BH rfl)) ?_)))
 have l:=d.pk []
 exact⟨rfl,l⟩
 refine gw (.int .i64 a) (dF b) (yO rfl) (Gz (.bool (decide (a ≥ 6))) (dF b) (fw (.bool (decide (a ≥ 6))) (yM rfl (dF b) rfl) (nt ?_)))
 have e:(decide (a ≥ 6))=true:=(dT (by omega))
 refine jT e (sr (Kz (.agg #[.bool false, .nilFunc, .nilFunc, .nilFunc, .nilFunc]) ?_))
 have n:=c.pk [1,0]
 refine bz [.bool false, .nilFunc, .nilFunc, .nilFunc, .nilFunc] 0 n Tryz.sizeOf162 ?_
 intro C f
 refine An rfl (rt (tR (y9 (iq (vs:= [.agg #[.bool false, .nilFunc, .nilFunc, .nilFunc, .nilFunc], .bool false]) rfl (bT.cell rfl (zg (cs:= [.bool false, .nilFunc, .nilFunc, .nilFunc, .nilFunc]) Tryz.isAgg162 Tryz.sizeOf162 ((f.cls (i:=0) rfl).lit (k:=0) (m:=5) rfl)) (bT.tmp rfl bT.nil)) (BH rfl)) ?_)))
 have o:=f.pk []
 exact⟨rfl,o⟩
def dO (a:aB):Int:=
 if a.ae=1 then bnd (ku a) fun e=>if(e.ae=a.ae)∧(e.aL=a.aL)∧(e.au=a.au)∧(e.aD=a.aD)∧(e.aH=a.aH)∧(e.aF=a.aF) then bnd (jU a) fun j=>j else 40 else if a.ae=2 then bnd (lQ a) fun f=>if(f.ae=a.ae)∧(f.aL=a.aL)∧(f.au=a.au)∧(f.aD=a.aD)∧(f.aH=a.aH)∧(f.aF=a.aF) then bnd (j4 a) fun k=>k else 40 else if a.ae=3 then bnd (ku a) fun b=>if(b.ae=a.ae)∧(b.aL=a.aL)∧(b.au=a.au)∧(b.aD=a.aD)∧(b.aH=a.aH)∧(b.aF=a.aF) then bnd (jU a) fun g=>g else 40 else if a.ae=4 then bnd (lS a) fun c=>if(c.ae=a.ae)∧(c.aL=a.aL)∧(c.au=a.au)∧(c.aD=a.aD)∧(c.aH=a.aH)∧(c.aF=a.aF) then bnd (j5 a) fun h=>h else 40 else if a.ae=5 then bnd (lc a) fun d=>if(d.ae=a.ae)∧(d.aL=a.aL)∧(d.au=a.au)∧(d.aD=a.aD)∧(d.aH=a.aH)∧(d.aF=a.aF) then bnd (iM a) fun i=>i else 40 else 40
theorem mE (w:World) (D:Nat→Prop) (a:aB) (r0:Int) (H:Own w D w []) (hr:dO a=r0):
    Calls Tryz.prog 120 #[.agg (aB.cells a).toArray] w (cO fun v w'=>v= .int .i64 r0∧Own w D w' []∧(¬ (r0=0)∨(1≤a.ae∧a.ae≤5))):=by
 refine yR (args:= [.agg (aB.cells a).toArray]) Tryz.func120 rfl rfl rfl ?_
 show Wp _ _ _ [(0, .agg (aB.cells a).toArray)] _ _
 refine sr ?_
 refine dE (aB.cells a) 64 H ?_
 intro t gQ x
 refine Ar rfl (Kz (.pointer (some ⟨t,0,none⟩)) (Lz (.int .i64 a.ae) x 0 Tryz.isAgg3 ?_))
 by_cases l:a.ae=1
 obtain⟨gT,bi,fo,bq,fq⟩:=yP x
 refine cl Tryz.call126 (nU _ _ a.ae bi (of_decide_eq_true (dT l))) ?_
 rintro _ gU ⟨rfl,bu⟩
 have dJ:=bq _ _ bu
 refine Mz rfl (Kz (.agg #[.bool false, .func (.func 128) #[] #[], .func (.func 129) #[] #[], .func (.func 130) #[] #[], .func (.func 131) #[] #[]]) (Kz (.bool true) ?_))
 refine dE [.bool false, .nilFunc, .nilFunc, .nilFunc, .nilFunc] 162 dJ ?_
 intro aj gV dK
 refine bz [.bool false, .func (.func 128) #[] #[], .func (.func 129) #[] #[], .func (.func 130) #[] #[], .func (.func 131) #[] #[]] 0 dK Tryz.sizeOf162 ?_
 intro dL dM
 refine An rfl (yJ (yJ ?_))
 have V:=dM.drew
 refine zt [] (fun W=> ∃ L',Own w D W ([blk aj [.bool false, .func (.func 128) #[] #[], .func (.func 129) #[] #[], .func (.func 130) #[] #[], .func (.func 131) #[] #[]] 162,blk t (aB.cells a) 64]++L')) (by kernel_rfl) (by kernel_rfl) (zb (zb zw)) ⟨_,V⟩ ?_
 revert V
 generalize World.drew dL=gW
 intro V
 refine GX.take (v:= .bool true) (rs:= []) 0 rfl (by kernel_rfl) (fun _ _=>yO rfl) (GX.take (v:= .bool false) (rs:= []) 1 rfl (by kernel_rfl) (fun _ _=>yk) (GX.take (v:= .bool false) (rs:= []) 2 rfl (by kernel_rfl) (fun _ _=>yO rfl) (y7 (v:= .pointer (some ⟨aj,1,none⟩)) (rs:= []) 3 rfl rfl rfl rfl (by kernel_rfl) (fun _ _=>yk) (y7 (v:= .func (.func 128) #[] #[]) (rs:= []) 4 rfl rfl rfl rfl (by kernel_rfl) (fun _ ⟨_,h⟩=>y5 rfl (bn.one Tryz.isAgg158 (zq (h.cls (i:=0) rfl) rfl))) (y7 (v:= .agg (aB.cells a).toArray) (rs:= []) 5 rfl rfl rfl rfl (by kernel_rfl) (fun _ ⟨_,h⟩=>y5 rfl (zg (cs:=(aB.cells a)) Tryz.isAgg64 Tryz.sizeOf64 ((h.cls (i:=1) rfl).lit (k:=0) (m:=6) rfl))) (y7 (v:= .agg (aB.cells a).toArray) (rs:= []) 7 rfl rfl rfl rfl (by kernel_rfl) (fun _ ⟨_,h⟩=>y5 rfl (zg (cs:=(aB.cells a)) Tryz.isAgg64 Tryz.sizeOf64 ((h.cls (i:=1) rfl).lit (k:=0) (m:=6) rfl))) ?_))))))
 obtain⟨f,L⟩:∃ q,ku a=q:=⟨_,rfl⟩
 obtain⟨gX,bv,fu,bA,fw⟩:=yP V
 refine zO 6 rfl rfl rfl rfl (by kernel_rfl) (zB Tryz.call128 rfl rfl (o7 _ _ a f bv L) ?_)
 rintro _ gY ⟨rfl,bB⟩
 have M:=bA _ _ bB
 refine⟨.inr ⟨_,M⟩, ?_⟩
 refine y7 (v:= .bool (decide (¬ ((f.ae=a.ae)∧(f.aL=a.aL)∧(f.au=a.au)∧(f.aD=a.aD)∧(f.aH=a.aH)∧(f.aF=a.aF))))) (rs:= []) 8 rfl rfl rfl rfl (by kernel_rfl) (fun _ _=>za (e:= !(decide ((f.ae=a.ae)∧(f.aL=a.aL)∧(f.au=a.au)∧(f.aD=a.aD)∧(f.aH=a.aH)∧(f.aF=a.aF)))) (zM rfl rfl (by kernel_rfl) rfl (fD.struct Tryz.underlying64 (by kernel_rfl) (zK (eF.cons (u:= .int .i64 f.ae) (v:= .int .i64 a.ae) (by decide) (fun _=>by kernel_rfl) (fun _=>by kernel_rfl) (fD.int Tryz.underlying3) (eF.cons (u:= .string ⟨List.toArray f.aL⟩) (v:= .string ⟨List.toArray a.aL⟩) (by decide) (fun _=>by kernel_rfl) (fun _=>by kernel_rfl) (fD.string Tryz.underlying9) (eF.cons (u:= .string ⟨List.toArray f.au⟩) (v:= .string ⟨List.toArray a.au⟩) (by decide) (fun _=>by kernel_rfl) (fun _=>by kernel_rfl) (fD.string Tryz.underlying9) (eF.cons (u:= .string ⟨List.toArray f.aD⟩) (v:= .string ⟨List.toArray a.aD⟩) (by decide) (fun _=>by kernel_rfl) (fun _=>by kernel_rfl) (fD.string Tryz.underlying9) (eF.cons (u:= .string ⟨List.toArray f.aH⟩) (v:= .string ⟨List.toArray a.aH⟩) (by decide) (fun _=>by kernel_rfl) (fun _=>by kernel_rfl) (fD.string Tryz.underlying9) (eF.cons (u:= .int .i64 f.aF) (v:= .int .i64 a.aF) (by decide) (fun _=>by kernel_rfl) (fun _=>by kernel_rfl) (fD.int Tryz.underlying3) (eF.nil.up (BJ _)))))))) ((congrArg (decide (f.ae=a.ae) && ·) ((congrArg (decide (f.aL=a.aL) && ·) ((congrArg (decide (f.au=a.au) && ·) ((congrArg (decide (f.aD=a.aD) && ·) ((congrArg (decide (f.aH=a.aH) && ·) jH).trans eu)).trans eu)).trans eu)).trans eu)).trans eu)))) decide_not.symm) (GX.take (v:= .bool (decide (¬ ((f.ae=a.ae)∧(f.aL=a.aL)∧(f.au=a.au)∧(f.aD=a.aD)∧(f.aH=a.aH)∧(f.aF=a.aF))))) (rs:= []) 9 rfl (by kernel_rfl) (fun _ _=>yM rfl rfl rfl) (zk (by kernel_rfl) (yL ?_)))
 by_cases X:(f.ae=a.ae)∧(f.aL=a.aL)∧(f.au=a.au)∧(f.aD=a.aD)∧(f.aH=a.aH)∧(f.aF=a.aF)
 refine jF (dF (BK X)) (sk (sr (Kz (.pointer (some ⟨aj,2,none⟩)) (Lz (.func (.func 129) #[] #[]) M 0 Tryz.isAgg113 (La (aB.cells a) M 1 Tryz.isAgg64 Tryz.sizeOf64 ?_)))))
 obtain⟨bC,ae⟩:∃ q,jU a=q:=⟨_,rfl⟩
 obtain⟨gZ,bD,fA,bE,fB⟩:=yP M
 refine WL.do rfl (zB Tryz.call129 rfl rfl (nV _ _ a bC bD ae) ?_)
 rintro _ ib ⟨rfl,bF⟩
 have dN:=bE _ _ bF
 refine An rfl (rt (rs ?_))
 have dP:=dN.pk []
 obtain rfl:_=bC:=hr.symm.trans (et (ip l) (et (aa L) (et (ip X) (aa ae))))
 exact⟨rfl,dP,(by omega)⟩
 refine jT (dT X) (sr (An rfl (rt (tR (rs ?_)))))
 have dQ:=M.pk []
 obtain rfl:_=40:=hr.symm.trans (et (ip l) (et (aa L) (iN X)))
 exact⟨rfl,dQ,(by omega)⟩
 by_cases n:a.ae=2
 obtain⟨ic,bG,fC,bH,fE⟩:=yP x
 refine cl Tryz.call126 (nW _ _ a.ae bG (of_decide_eq_true (dT n))) ?_
 rintro _ ig ⟨rfl,bI⟩
 have dR:=bH _ _ bI
 refine Mz rfl (Kz (.agg #[.bool true, .func (.func 132) #[] #[], .func (.func 133) #[] #[], .func (.func 130) #[] #[], .func (.func 134) #[] #[]]) (Kz (.bool true) ?_))
 refine dE [.bool false, .nilFunc, .nilFunc, .nilFunc, .nilFunc] 162 dR ?_
 intro ak ik dS
 refine bz [.bool true, .func (.func 132) #[] #[], .func (.func 133) #[] #[], .func (.func 130) #[] #[], .func (.func 134) #[] #[]] 0 dS Tryz.sizeOf162 ?_
 intro dU dV
 refine An rfl (yJ (yJ ?_))
 have Y:=dV.drew
 refine zt [] (fun W=> ∃ L',Own w D W ([blk ak [.bool true, .func (.func 132) #[] #[], .func (.func 133) #[] #[], .func (.func 130) #[] #[], .func (.func 134) #[] #[]] 162,blk t (aB.cells a) 64]++L')) (by kernel_rfl) (by kernel_rfl) (zb (zb zw)) ⟨_,Y⟩ ?_
 revert Y
 generalize World.drew dU=il
 intro Y
 refine GX.take (v:= .bool true) (rs:= []) 0 rfl (by kernel_rfl) (fun _ _=>yO rfl) (GX.take (v:= .bool false) (rs:= []) 1 rfl (by kernel_rfl) (fun _ _=>yk) (GX.take (v:= .bool false) (rs:= []) 2 rfl (by kernel_rfl) (fun _ _=>yO rfl) (y7 (v:= .pointer (some ⟨ak,1,none⟩)) (rs:= []) 3 rfl rfl rfl rfl (by kernel_rfl) (fun _ _=>yk) (y7 (v:= .func (.func 132) #[] #[]) (rs:= []) 4 rfl rfl rfl rfl (by kernel_rfl) (fun _ ⟨_,h⟩=>y5 rfl (bn.one Tryz.isAgg158 (zq (h.cls (i:=0) rfl) rfl))) (y7 (v:= .agg (aB.cells a).toArray) (rs:= []) 5 rfl rfl rfl rfl (by kernel_rfl) (fun _ ⟨_,h⟩=>y5 rfl (zg (cs:=(aB.cells a)) Tryz.isAgg64 Tryz.sizeOf64 ((h.cls (i:=1) rfl).lit (k:=0) (m:=6) rfl))) (y7 (v:= .agg (aB.cells a).toArray) (rs:= []) 7 rfl rfl rfl rfl (by kernel_rfl) (fun _ ⟨_,h⟩=>y5 rfl (zg (cs:=(aB.cells a)) Tryz.isAgg64 Tryz.sizeOf64 ((h.cls (i:=1) rfl).lit (k:=0) (m:=6) rfl))) ?_))))))
 obtain⟨g,N⟩:∃ q,lQ a=q:=⟨_,rfl⟩
 obtain⟨iq,bJ,fF,bK,fG⟩:=yP Y
 refine zO 6 rfl rfl rfl rfl (by kernel_rfl) (zB Tryz.call132 rfl rfl (rz _ _ a g bJ N) ?_)
 rintro _ iw ⟨rfl,bL⟩
 have O:=bK _ _ bL
 refine⟨.inr ⟨_,O⟩, ?_⟩
 refine y7 (v:= .bool (decide (¬ ((g.ae=a.ae)∧(g.aL=a.aL)∧(g.au=a.au)∧(g.aD=a.aD)∧(g.aH=a.aH)∧(g.aF=a.aF))))) (rs:= []) 8 rfl rfl rfl rfl (by kernel_rfl) (fun _ _=>za (e:= !(decide ((g.ae=a.ae)∧(g.aL=a.aL)∧(g.au=a.au)∧(g.aD=a.aD)∧(g.aH=a.aH)∧(g.aF=a.aF)))) (zM rfl rfl (by kernel_rfl) rfl (fD.struct Tryz.underlying64 (by kernel_rfl) (zK (eF.cons (u:= .int .i64 g.ae) (v:= .int .i64 a.ae) (by decide) (fun _=>by kernel_rfl) (fun _=>by kernel_rfl) (fD.int Tryz.underlying3) (eF.cons (u:= .string ⟨List.toArray g.aL⟩) (v:= .string ⟨List.toArray a.aL⟩) (by decide) (fun _=>by kernel_rfl) (fun _=>by kernel_rfl) (fD.string Tryz.underlying9) (eF.cons (u:= .string ⟨List.toArray g.au⟩) (v:= .string ⟨List.toArray a.au⟩) (by decide) (fun _=>by kernel_rfl) (fun _=>by kernel_rfl) (fD.string Tryz.underlying9) (eF.cons (u:= .string ⟨List.toArray g.aD⟩) (v:= .string ⟨List.toArray a.aD⟩) (by decide) (fun _=>by kernel_rfl) (fun _=>by kernel_rfl) (fD.string Tryz.underlying9) (eF.cons (u:= .string ⟨List.toArray g.aH⟩) (v:= .string ⟨List.toArray a.aH⟩) (by decide) (fun _=>by kernel_rfl) (fun _=>by kernel_rfl) (fD.string Tryz.underlying9) (eF.cons (u:= .int .i64 g.aF) (v:= .int .i64 a.aF) (by decide) (fun _=>by kernel_rfl) (fun _=>by kernel_rfl) (fD.int Tryz.underlying3) (eF.nil.up (BJ _)))))))) ((congrArg (decide (g.ae=a.ae) && ·) ((congrArg (decide (g.aL=a.aL) && ·) ((congrArg (decide (g.au=a.au) && ·) ((congrArg (decide (g.aD=a.aD) && ·) ((congrArg (decide (g.aH=a.aH) && ·) jH).trans eu)).trans eu)).trans eu)).trans eu)).trans eu)))) decide_not.symm) (GX.take (v:= .bool (decide (¬ ((g.ae=a.ae)∧(g.aL=a.aL)∧(g.au=a.au)∧(g.aD=a.aD)∧(g.aH=a.aH)∧(g.aF=a.aF))))) (rs:= []) 9 rfl (by kernel_rfl) (fun _ _=>yM rfl rfl rfl) (zk (by kernel_rfl) (yL ?_)))
 by_cases Z:(g.ae=a.ae)∧(g.aL=a.aL)∧(g.au=a.au)∧(g.aD=a.aD)∧(g.aH=a.aH)∧(g.aF=a.aF)
 refine jF (dF (BK Z)) (sk (sr (Kz (.pointer (some ⟨ak,2,none⟩)) (Lz (.func (.func 133) #[] #[]) O 0 Tryz.isAgg113 (La (aB.cells a) O 1 Tryz.isAgg64 Tryz.sizeOf64 ?_)))))
 obtain⟨bM,af⟩:∃ q,j4 a=q:=⟨_,rfl⟩
 obtain⟨iy,bN,fH,bO,fI⟩:=yP O
 refine WL.do rfl (zB Tryz.call133 rfl rfl (qz _ _ a bM bN af) ?_)
 rintro _ iA ⟨rfl,au⟩
 have bP:=bO _ _ au
 refine An rfl (rt (rs ?_))
 have bQ:=bP.pk []
 obtain rfl:_=bM:=hr.symm.trans (et (iN l) (et (ip n) (et (aa N) (et (ip Z) (aa af)))))
 exact⟨rfl,bQ,(by omega)⟩
 refine jT (dT Z) (sr (An rfl (rt (tR (rs ?_)))))
 have bR:=O.pk []
 obtain rfl:_=40:=hr.symm.trans (et (iN l) (et (ip n) (et (aa N) (iN Z))))
 exact⟨rfl,bR,(by omega)⟩
 by_cases j:a.ae=3
 obtain⟨fJ,av,dW,ax,dX⟩:=yP x
 refine cl Tryz.call126 (nX _ _ a.ae av (of_decide_eq_true (dT j))) ?_
 rintro _ fK ⟨rfl,ay⟩
 have bS:=ax _ _ ay
 refine Mz rfl (Kz (.agg #[.bool true, .func (.func 128) #[] #[], .func (.func 129) #[] #[], .func (.func 130) #[] #[], .func (.func 135) #[] #[]]) (Kz (.bool true) ?_))
 refine dE [.bool false, .nilFunc, .nilFunc, .nilFunc, .nilFunc] 162 bS ?_
 intro P fM bT
 refine bz [.bool true, .func (.func 128) #[] #[], .func (.func 129) #[] #[], .func (.func 130) #[] #[], .func (.func 135) #[] #[]] 0 bT Tryz.sizeOf162 ?_
 intro bU bV
 refine An rfl (yJ (yJ ?_))
 have B:=bV.drew
 refine zt [] (fun W=> ∃ L',Own w D W ([blk P [.bool true, .func (.func 128) #[] #[], .func (.func 129) #[] #[], .func (.func 130) #[] #[], .func (.func 135) #[] #[]] 162,blk t (aB.cells a) 64]++L')) (by kernel_rfl) (by kernel_rfl) (zb (zb zw)) ⟨_,B⟩ ?_
 revert B
 generalize World.drew bU=fO
 intro B
 refine GX.take (v:= .bool true) (rs:= []) 0 rfl (by kernel_rfl) (fun _ _=>yO rfl) (GX.take (v:= .bool false) (rs:= []) 1 rfl (by kernel_rfl) (fun _ _=>yk) (GX.take (v:= .bool false) (rs:= []) 2 rfl (by kernel_rfl) (fun _ _=>yO rfl) (y7 (v:= .pointer (some ⟨P,1,none⟩)) (rs:= []) 3 rfl rfl rfl rfl (by kernel_rfl) (fun _ _=>yk) (y7 (v:= .func (.func 128) #[] #[]) (rs:= []) 4 rfl rfl rfl rfl (by kernel_rfl) (fun _ ⟨_,h⟩=>y5 rfl (bn.one Tryz.isAgg158 (zq (h.cls (i:=0) rfl) rfl))) (y7 (v:= .agg (aB.cells a).toArray) (rs:= []) 5 rfl rfl rfl rfl (by kernel_rfl) (fun _ ⟨_,h⟩=>y5 rfl (zg (cs:=(aB.cells a)) Tryz.isAgg64 Tryz.sizeOf64 ((h.cls (i:=1) rfl).lit (k:=0) (m:=6) rfl))) (y7 (v:= .agg (aB.cells a).toArray) (rs:= []) 7 rfl rfl rfl rfl (by kernel_rfl) (fun _ ⟨_,h⟩=>y5 rfl (zg (cs:=(aB.cells a)) Tryz.isAgg64 Tryz.sizeOf64 ((h.cls (i:=1) rfl).lit (k:=0) (m:=6) rfl))) ?_))))))
 obtain⟨b,y⟩:∃ q,ku a=q:=⟨_,rfl⟩
 obtain⟨fP,az,dY,aA,dZ⟩:=yP B
 refine zO 6 rfl rfl rfl rfl (by kernel_rfl) (zB Tryz.call128 rfl rfl (o7 _ _ a b az y) ?_)
 rintro _ fQ ⟨rfl,aC⟩
 have p:=aA _ _ aC
 refine⟨.inr ⟨_,p⟩, ?_⟩
 refine y7 (v:= .bool (decide (¬ ((b.ae=a.ae)∧(b.aL=a.aL)∧(b.au=a.au)∧(b.aD=a.aD)∧(b.aH=a.aH)∧(b.aF=a.aF))))) (rs:= []) 8 rfl rfl rfl rfl (by kernel_rfl) (fun _ _=>za (e:= !(decide ((b.ae=a.ae)∧(b.aL=a.aL)∧(b.au=a.au)∧(b.aD=a.aD)∧(b.aH=a.aH)∧(b.aF=a.aF)))) (zM rfl rfl (by kernel_rfl) rfl (fD.struct Tryz.underlying64 (by kernel_rfl) (zK (eF.cons (u:= .int .i64 b.ae) (v:= .int .i64 a.ae) (by decide) (fun _=>by kernel_rfl) (fun _=>by kernel_rfl) (fD.int Tryz.underlying3) (eF.cons (u:= .string ⟨List.toArray b.aL⟩) (v:= .string ⟨List.toArray a.aL⟩) (by decide) (fun _=>by kernel_rfl) (fun _=>by kernel_rfl) (fD.string Tryz.underlying9) (eF.cons (u:= .string ⟨List.toArray b.au⟩) (v:= .string ⟨List.toArray a.au⟩) (by decide) (fun _=>by kernel_rfl) (fun _=>by kernel_rfl) (fD.string Tryz.underlying9) (eF.cons (u:= .string ⟨List.toArray b.aD⟩) (v:= .string ⟨List.toArray a.aD⟩) (by decide) (fun _=>by kernel_rfl) (fun _=>by kernel_rfl) (fD.string Tryz.underlying9) (eF.cons (u:= .string ⟨List.toArray b.aH⟩) (v:= .string ⟨List.toArray a.aH⟩) (by decide) (fun _=>by kernel_rfl) (fun _=>by kernel_rfl) (fD.string Tryz.underlying9) (eF.cons (u:= .int .i64 b.aF) (v:= .int .i64 a.aF) (by decide) (fun _=>by kernel_rfl) (fun _=>by kernel_rfl) (fD.int Tryz.underlying3) (eF.nil.up (BJ _)))))))) ((congrArg (decide (b.ae=a.ae) && ·) ((congrArg (decide (b.aL=a.aL) && ·) ((congrArg (decide (b.au=a.au) && ·) ((congrArg (decide (b.aD=a.aD) && ·) ((congrArg (decide (b.aH=a.aH) && ·) jH).trans eu)).trans eu)).trans eu)).trans eu)).trans eu)))) decide_not.symm) (GX.take (v:= .bool (decide (¬ ((b.ae=a.ae)∧(b.aL=a.aL)∧(b.au=a.au)∧(b.aD=a.aD)∧(b.aH=a.aH)∧(b.aF=a.aF))))) (rs:= []) 9 rfl (by kernel_rfl) (fun _ _=>yM rfl rfl rfl) (zk (by kernel_rfl) (yL ?_)))
 by_cases C:(b.ae=a.ae)∧(b.aL=a.aL)∧(b.au=a.au)∧(b.aD=a.aD)∧(b.aH=a.aH)∧(b.aF=a.aF)
 refine jF (dF (BK C)) (sk (sr (Kz (.pointer (some ⟨P,2,none⟩)) (Lz (.func (.func 129) #[] #[]) p 0 Tryz.isAgg113 (La (aB.cells a) p 1 Tryz.isAgg64 Tryz.sizeOf64 ?_)))))
 obtain⟨ag,Q⟩:∃ q,jU a=q:=⟨_,rfl⟩
 obtain⟨fT,aD,d9,aF,ed⟩:=yP p
 refine WL.do rfl (zB Tryz.call129 rfl rfl (nV _ _ a ag aD Q) ?_)
 rintro _ fU ⟨rfl,aG⟩
 have bW:=aF _ _ aG
 refine An rfl (rt (rs ?_))
 have bX:=bW.pk []
 obtain rfl:_=ag:=hr.symm.trans (et (iN l) (et (iN n) (et (ip j) (et (aa y) (et (ip C) (aa Q))))))
 exact⟨rfl,bX,(by omega)⟩
 refine jT (dT C) (sr (An rfl (rt (tR (rs ?_)))))
 have bY:=p.pk []
 obtain rfl:_=40:=hr.symm.trans (et (iN l) (et (iN n) (et (ip j) (et (aa y) (iN C)))))
 exact⟨rfl,bY,(by omega)⟩
 by_cases o:a.ae=4
 obtain⟨fV,aH,ek,aI,eB⟩:=yP x
 refine cl Tryz.call126 (nY _ _ a.ae aH (of_decide_eq_true (dT o))) ?_
 rintro _ fZ ⟨rfl,aJ⟩
 have bZ:=aI _ _ aJ
 refine Mz rfl (Kz (.agg #[.bool false, .func (.func 136) #[] #[], .func (.func 137) #[] #[], .func (.func 138) #[] #[], .func (.func 139) #[] #[]]) (Kz (.bool true) ?_))
 refine dE [.bool false, .nilFunc, .nilFunc, .nilFunc, .nilFunc] 162 bZ ?_
 intro R gm cu
 refine bz [.bool false, .func (.func 136) #[] #[], .func (.func 137) #[] #[], .func (.func 138) #[] #[], .func (.func 139) #[] #[]] 0 cu Tryz.sizeOf162 ?_
 intro cz cB
 refine An rfl (yJ (yJ ?_))
 have E:=cB.drew
 refine zt [] (fun W=> ∃ L',Own w D W ([blk R [.bool false, .func (.func 136) #[] #[], .func (.func 137) #[] #[], .func (.func 138) #[] #[], .func (.func 139) #[] #[]] 162,blk t (aB.cells a) 64]++L')) (by kernel_rfl) (by kernel_rfl) (zb (zb zw)) ⟨_,E⟩ ?_
 revert E
 generalize World.drew cz=gp
 intro E
 refine GX.take (v:= .bool true) (rs:= []) 0 rfl (by kernel_rfl) (fun _ _=>yO rfl) (GX.take (v:= .bool false) (rs:= []) 1 rfl (by kernel_rfl) (fun _ _=>yk) (GX.take (v:= .bool false) (rs:= []) 2 rfl (by kernel_rfl) (fun _ _=>yO rfl) (y7 (v:= .pointer (some ⟨R,1,none⟩)) (rs:= []) 3 rfl rfl rfl rfl (by kernel_rfl) (fun _ _=>yk) (y7 (v:= .func (.func 136) #[] #[]) (rs:= []) 4 rfl rfl rfl rfl (by kernel_rfl) (fun _ ⟨_,h⟩=>y5 rfl (bn.one Tryz.isAgg158 (zq (h.cls (i:=0) rfl) rfl))) (y7 (v:= .agg (aB.cells a).toArray) (rs:= []) 5 rfl rfl rfl rfl (by kernel_rfl) (fun _ ⟨_,h⟩=>y5 rfl (zg (cs:=(aB.cells a)) Tryz.isAgg64 Tryz.sizeOf64 ((h.cls (i:=1) rfl).lit (k:=0) (m:=6) rfl))) (y7 (v:= .agg (aB.cells a).toArray) (rs:= []) 7 rfl rfl rfl rfl (by kernel_rfl) (fun _ ⟨_,h⟩=>y5 rfl (zg (cs:=(aB.cells a)) Tryz.isAgg64 Tryz.sizeOf64 ((h.cls (i:=1) rfl).lit (k:=0) (m:=6) rfl))) ?_))))))
 obtain⟨c,z⟩:∃ q,lS a=q:=⟨_,rfl⟩
 obtain⟨gq,aK,eD,aL,eG⟩:=yP E
 refine zO 6 rfl rfl rfl rfl (by kernel_rfl) (zB Tryz.call136 rfl rfl (rA _ _ a c aK z) ?_)
 rintro _ gu ⟨rfl,aM⟩
 have r:=aL _ _ aM
 refine⟨.inr ⟨_,r⟩, ?_⟩
 refine y7 (v:= .bool (decide (¬ ((c.ae=a.ae)∧(c.aL=a.aL)∧(c.au=a.au)∧(c.aD=a.aD)∧(c.aH=a.aH)∧(c.aF=a.aF))))) (rs:= []) 8 rfl rfl rfl rfl (by kernel_rfl) (fun _ _=>za (e:= !(decide ((c.ae=a.ae)∧(c.aL=a.aL)∧(c.au=a.au)∧(c.aD=a.aD)∧(c.aH=a.aH)∧(c.aF=a.aF)))) (zM rfl rfl (by kernel_rfl) rfl (fD.struct Tryz.underlying64 (by kernel_rfl) (zK (eF.cons (u:= .int .i64 c.ae) (v:= .int .i64 a.ae) (by decide) (fun _=>by kernel_rfl) (fun _=>by kernel_rfl) (fD.int Tryz.underlying3) (eF.cons (u:= .string ⟨List.toArray c.aL⟩) (v:= .string ⟨List.toArray a.aL⟩) (by decide) (fun _=>by kernel_rfl) (fun _=>by kernel_rfl) (fD.string Tryz.underlying9) (eF.cons (u:= .string ⟨List.toArray c.au⟩) (v:= .string ⟨List.toArray a.au⟩) (by decide) (fun _=>by kernel_rfl) (fun _=>by kernel_rfl) (fD.string Tryz.underlying9) (eF.cons (u:= .string ⟨List.toArray c.aD⟩) (v:= .string ⟨List.toArray a.aD⟩) (by decide) (fun _=>by kernel_rfl) (fun _=>by kernel_rfl) (fD.string Tryz.underlying9) (eF.cons (u:= .string ⟨List.toArray c.aH⟩) (v:= .string ⟨List.toArray a.aH⟩) (by decide) (fun _=>by kernel_rfl) (fun _=>by kernel_rfl) (fD.string Tryz.underlying9) (eF.cons (u:= .int .i64 c.aF) (v:= .int .i64 a.aF) (by decide) (fun _=>by kernel_rfl) (fun _=>by kernel_rfl) (fD.int Tryz.underlying3) (eF.nil.up (BJ _)))))))) ((congrArg (decide (c.ae=a.ae) && ·) ((congrArg (decide (c.aL=a.aL) && ·) ((congrArg (decide (c.au=a.au) && ·) ((congrArg (decide (c.aD=a.aD) && ·) ((congrArg (decide (c.aH=a.aH) && ·) jH).trans eu)).trans eu)).trans eu)).trans eu)).trans eu)))) decide_not.symm) (GX.take (v:= .bool (decide (¬ ((c.ae=a.ae)∧(c.aL=a.aL)∧(c.au=a.au)∧(c.aD=a.aD)∧(c.aH=a.aH)∧(c.aF=a.aF))))) (rs:= []) 9 rfl (by kernel_rfl) (fun _ _=>yM rfl rfl rfl) (zk (by kernel_rfl) (yL ?_)))
 by_cases F:(c.ae=a.ae)∧(c.aL=a.aL)∧(c.au=a.au)∧(c.aD=a.aD)∧(c.aH=a.aH)∧(c.aF=a.aF)
 refine jF (dF (BK F)) (sk (sr (Kz (.pointer (some ⟨R,2,none⟩)) (Lz (.func (.func 137) #[] #[]) r 0 Tryz.isAgg113 (La (aB.cells a) r 1 Tryz.isAgg64 Tryz.sizeOf64 ?_)))))
 obtain⟨ah,S⟩:∃ q,j5 a=q:=⟨_,rfl⟩
 obtain⟨gy,aN,eH,aO,eO⟩:=yP r
 refine WL.do rfl (zB Tryz.call137 rfl rfl (qB _ _ a ah aN S) ?_)
 rintro _ gz ⟨rfl,aP⟩
 have cK:=aO _ _ aP
 refine An rfl (rt (rs ?_))
 have cZ:=cK.pk []
 obtain rfl:_=ah:=hr.symm.trans (et (iN l) (et (iN n) (et (iN j) (et (ip o) (et (aa z) (et (ip F) (aa S)))))))
 exact⟨rfl,cZ,(by omega)⟩
 refine jT (dT F) (sr (An rfl (rt (tR (rs ?_)))))
 have df:=r.pk []
 obtain rfl:_=40:=hr.symm.trans (et (iN l) (et (iN n) (et (iN j) (et (ip o) (et (aa z) (iN F))))))
 exact⟨rfl,df,(by omega)⟩
 by_cases G:a.ae=5
 obtain⟨gB,aQ,eP,aR,eQ⟩:=yP x
 refine cl Tryz.call126 (nZ _ _ a.ae aQ (of_decide_eq_true (dT G))) ?_
 rintro _ gD ⟨rfl,aS⟩
 have dh:=aR _ _ aS
 refine Mz rfl (Kz (.agg #[.bool true, .func (.func 140) #[] #[], .func (.func 141) #[] #[], .func (.func 138) #[] #[], .func (.func 142) #[] #[]]) (Kz (.bool true) ?_))
 refine dE [.bool false, .nilFunc, .nilFunc, .nilFunc, .nilFunc] 162 dh ?_
 intro T gF di
 refine bz [.bool true, .func (.func 140) #[] #[], .func (.func 141) #[] #[], .func (.func 138) #[] #[], .func (.func 142) #[] #[]] 0 di Tryz.sizeOf162 ?_
 intro dm dn
 refine An rfl (yJ (yJ ?_))
 have I:=dn.drew
 refine zt [] (fun W=> ∃ L',Own w D W ([blk T [.bool true, .func (.func 140) #[] #[], .func (.func 141) #[] #[], .func (.func 138) #[] #[], .func (.func 142) #[] #[]] 162,blk t (aB.cells a) 64]++L')) (by kernel_rfl) (by kernel_rfl) (zb (zb zw)) ⟨_,I⟩ ?_
 revert I
 generalize World.drew dm=gG
 intro I
 refine GX.take (v:= .bool true) (rs:= []) 0 rfl (by kernel_rfl) (fun _ _=>yO rfl) (GX.take (v:= .bool false) (rs:= []) 1 rfl (by kernel_rfl) (fun _ _=>yk) (GX.take (v:= .bool false) (rs:= []) 2 rfl (by kernel_rfl) (fun _ _=>yO rfl) (y7 (v:= .pointer (some ⟨T,1,none⟩)) (rs:= []) 3 rfl rfl rfl rfl (by kernel_rfl) (fun _ _=>yk) (y7 (v:= .func (.func 140) #[] #[]) (rs:= []) 4 rfl rfl rfl rfl (by kernel_rfl) (fun _ ⟨_,h⟩=>y5 rfl (bn.one Tryz.isAgg158 (zq (h.cls (i:=0) rfl) rfl))) (y7 (v:= .agg (aB.cells a).toArray) (rs:= []) 5 rfl rfl rfl rfl (by kernel_rfl) (fun _ ⟨_,h⟩=>y5 rfl (zg (cs:=(aB.cells a)) Tryz.isAgg64 Tryz.sizeOf64 ((h.cls (i:=1) rfl).lit (k:=0) (m:=6) rfl))) (y7 (v:= .agg (aB.cells a).toArray) (rs:= []) 7 rfl rfl rfl rfl (by kernel_rfl) (fun _ ⟨_,h⟩=>y5 rfl (zg (cs:=(aB.cells a)) Tryz.isAgg64 Tryz.sizeOf64 ((h.cls (i:=1) rfl).lit (k:=0) (m:=6) rfl))) ?_))))))
 obtain⟨d,A⟩:∃ q,lc a=q:=⟨_,rfl⟩
 obtain⟨gH,aT,eT,aU,eU⟩:=yP I
 refine zO 6 rfl rfl rfl rfl (by kernel_rfl) (zB Tryz.call140 rfl rfl (qN _ _ a d aT A) ?_)
 rintro _ gI ⟨rfl,aV⟩
 have s:=aU _ _ aV
 refine⟨.inr ⟨_,s⟩, ?_⟩
 refine y7 (v:= .bool (decide (¬ ((d.ae=a.ae)∧(d.aL=a.aL)∧(d.au=a.au)∧(d.aD=a.aD)∧(d.aH=a.aH)∧(d.aF=a.aF))))) (rs:= []) 8 rfl rfl rfl rfl (by kernel_rfl) (fun _ _=>za (e:= !(decide ((d.ae=a.ae)∧(d.aL=a.aL)∧(d.au=a.au)∧(d.aD=a.aD)∧(d.aH=a.aH)∧(d.aF=a.aF)))) (zM rfl rfl (by kernel_rfl) rfl (fD.struct Tryz.underlying64 (by kernel_rfl) (zK (eF.cons (u:= .int .i64 d.ae) (v:= .int .i64 a.ae) (by decide) (fun _=>by kernel_rfl) (fun _=>by kernel_rfl) (fD.int Tryz.underlying3) (eF.cons (u:= .string ⟨List.toArray d.aL⟩) (v:= .string ⟨List.toArray a.aL⟩) (by decide) (fun _=>by kernel_rfl) (fun _=>by kernel_rfl) (fD.string Tryz.underlying9) (eF.cons (u:= .string ⟨List.toArray d.au⟩) (v:= .string ⟨List.toArray a.au⟩) (by decide) (fun _=>by kernel_rfl) (fun _=>by kernel_rfl) (fD.string Tryz.underlying9) (eF.cons (u:= .string ⟨List.toArray d.aD⟩) (v:= .string ⟨List.toArray a.aD⟩) (by decide) (fun _=>by kernel_rfl) (fun _=>by kernel_rfl) (fD.string Tryz.underlying9) (eF.cons (u:= .string ⟨List.toArray d.aH⟩) (v:= .string ⟨List.toArray a.aH⟩) (by decide) (fun _=>by kernel_rfl) (fun _=>by kernel_rfl) (fD.string Tryz.underlying9) (eF.cons (u:= .int .i64 d.aF) (v:= .int .i64 a.aF) (by decide) (fun _=>by kernel_rfl) (fun _=>by kernel_rfl) (fD.int Tryz.underlying3) (eF.nil.up (BJ _)))))))) ((congrArg (decide (d.ae=a.ae) && ·) ((congrArg (decide (d.aL=a.aL) && ·) ((congrArg (decide (d.au=a.au) && ·) ((congrArg (decide (d.aD=a.aD) && ·) ((congrArg (decide (d.aH=a.aH) && ·) jH).trans eu)).trans eu)).trans eu)).trans eu)).trans eu)))) decide_not.symm) (GX.take (v:= .bool (decide (¬ ((d.ae=a.ae)∧(d.aL=a.aL)∧(d.au=a.au)∧(d.aD=a.aD)∧(d.aH=a.aH)∧(d.aF=a.aF))))) (rs:= []) 9 rfl (by kernel_rfl) (fun _ _=>yM rfl rfl rfl) (zk (by kernel_rfl) (yL ?_)))
 by_cases J:(d.ae=a.ae)∧(d.aL=a.aL)∧(d.au=a.au)∧(d.aD=a.aD)∧(d.aH=a.aH)∧(d.aF=a.aF)
 refine jF (dF (BK J)) (sk (sr (Kz (.pointer (some ⟨T,2,none⟩)) (Lz (.func (.func 141) #[] #[]) s 0 Tryz.isAgg113 (La (aB.cells a) s 1 Tryz.isAgg64 Tryz.sizeOf64 ?_)))))
 obtain⟨ai,U⟩:∃ q,iM a=q:=⟨_,rfl⟩
 obtain⟨gJ,aW,eX,aX,eY⟩:=yP s
 refine WL.do rfl (zB Tryz.call141 rfl rfl (mY _ _ a ai aW U) ?_)
 rintro _ gK ⟨rfl,aY⟩
 have dw:=aX _ _ aY
 refine An rfl (rt (rs ?_))
 have dx:=dw.pk []
 obtain rfl:_=ai:=hr.symm.trans (et (iN l) (et (iN n) (et (iN j) (et (iN o) (et (ip G) (et (aa A) (et (ip J) (aa U))))))))
 exact⟨rfl,dx,(by omega)⟩
 refine jT (dT J) (sr (An rfl (rt (tR (rs ?_)))))
 have dz:=s.pk []
 obtain rfl:_=40:=hr.symm.trans (et (iN l) (et (iN n) (et (iN j) (et (iN o) (et (ip G) (et (aa A) (iN J)))))))
 exact⟨rfl,dz,(by omega)⟩
 obtain⟨gL,aZ,eZ,bf,fe⟩:=yP x
 refine cl Tryz.call126 (nE _ _ a.ae aZ (by omega) (by omega) (by omega) (by omega) (by omega)) ?_
 rintro _ gM ⟨rfl,bg⟩
 have dA:=bf _ _ bg
 refine Mz rfl (Kz (.agg #[.bool false, .nilFunc, .nilFunc, .nilFunc, .nilFunc]) (Kz (.bool false) ?_))
 refine dE [.bool false, .nilFunc, .nilFunc, .nilFunc, .nilFunc] 162 dA ?_
 intro dB gN dC
 refine bz [.bool false, .nilFunc, .nilFunc, .nilFunc, .nilFunc] 0 dC Tryz.sizeOf162 ?_
 intro dD dG
 refine An rfl (yJ (yJ ?_))
 have K:=dG.drew
 refine zt [] (fun W=> ∃ L',Own w D W ([blk dB [.bool false, .nilFunc, .nilFunc, .nilFunc, .nilFunc] 162,blk t (aB.cells a) 64]++L')) (by kernel_rfl) (by kernel_rfl) (zb (zb zw)) ⟨_,K⟩ ?_
 revert K
 generalize World.drew dD=gP
 intro K
 refine GX.take (v:= .bool false) (rs:= []) 0 rfl (by kernel_rfl) (fun _ _=>yO rfl) (GX.take (v:= .bool true) (rs:= []) 1 rfl (by kernel_rfl) (fun _ _=>yk) (GX.take (v:= .bool true) (rs:= []) 2 rfl (by kernel_rfl) (fun _ _=>yO rfl) (yU (rs:= []) 3 rfl rfl rfl rfl (by kernel_rfl) (yU (rs:= []) 4 rfl rfl rfl rfl (by kernel_rfl) (yU (rs:= []) 5 rfl rfl rfl rfl (by kernel_rfl) (yU (rs:= []) 6 rfl rfl rfl rfl (by kernel_rfl) (yU (rs:= []) 7 rfl rfl rfl rfl (by kernel_rfl) (yU (rs:= []) 8 rfl rfl rfl rfl (by kernel_rfl) (GX.take (v:= .bool true) (rs:= []) 9 rfl (by kernel_rfl) (fun _ _=>yN rfl rfl rfl) (zk (by kernel_rfl) (yL (jt (sr (An rfl (rt (tR (rs ?_)))))))))))))))))
 have dH:=K.pk []
 obtain rfl:_=40:=hr.symm.trans (et (iN l) (et (iN n) (et (iN j) (et (iN o) (iN G)))))
 exact⟨rfl,dH,(by omega)⟩
def eO:List aB→Unit ⊕ Int
  | []=>Sum.inl ()
  | b::c=>bnd (dO b) fun a=>if a=0 then eO c else Sum.inr (a)
def j6 (a:List aB):Int:=
 lp (eO a) fun _=>0
theorem qC (w:World) (D:Nat→Prop) (l:Option Addr) (n0 r:Nat) (b:List aB) (M:Int) (H:Own w D w []) (p:Ro w D fun w'=>bD w' 6 l n0 (List.flatMap aB.cells b)) (F:n0=b.length) (Q:b.length≤9223372036854775807) (hr:j6 b=M):
    Calls Tryz.prog 125 #[.slice l n0 r] w (cO fun v w'=>v= .int .i64 M∧Own w D w' []):=by
 subst F
 refine yR (args:= [.slice l b.length r]) Tryz.func125 rfl rfl rfl ?_
 show Wp _ _ _ [(0, .slice l b.length r)] _ _
 refine sr (An rfl (yJ (sr (Mz rfl (Kz (.int .i64 ((b.length:Nat):Int)) (Mn rfl (bo ?_)))))))
 have G:Own w D w []:=H.pk []
 obtain⟨s,t⟩:∃ q:Nat→World→Prop,q=fun(i:Nat) w'=>Own w D w' []∧(i≤b.length∧eO b=eO (List.drop i b)):=⟨_,rfl⟩
 have f:∀ {a:Nat} {w':World},s a w'↔Own w D w' []∧a≤b.length∧eO b=eO (List.drop a b):=by intros; subst t; exact Iff.rfl
 refine Wp.loop (fun i:Nat=> [(2, .int .i64 0),(8, .int .i64 ((i:Nat):Int)),(7, .int .i64 ((b.length:Nat):Int)),(6, .slice l b.length r)]) s (fun i=>b.length - i) 0 ⟨rfl,rfl,rfl,rfl,trivial⟩ (f.2 ⟨G,by omega,rfl⟩) ?_
 rintro a R u
 show Wp _ _ _ [(2, .int .i64 0),(8, .int .i64 ((a:Nat):Int)),(7, .int .i64 ((b.length:Nat):Int)),(6, .slice l b.length r)] _ _
 obtain⟨g,N,h⟩:=f.1 u
 refine sr (Kz (.bool (decide (((a:Nat):Int) < ((b.length:Nat):Int)))) (nt (yJ ?_)))
 by_cases x:((a:Nat):Int) < ((b.length:Nat):Int)
 obtain⟨c,m⟩:=dV (ls:=b) (i:=a) aB.len (by decide) (g.ro p) (by first | omega | (simp; done) | (simp; omega))
 have n:=drop_at m
 refine jT (dT x) (sk (yJ (bo (sr (fw (.pointer (some ⟨ab l,ao l+a *6,none⟩)) (yZ (l8) rfl rfl ((g.ro p).addr (i:=a) (by omega)) (by omega)) (fw (.agg (aB.cells c).toArray) (y5 rfl (zg (cs:=(aB.cells c)) Tryz.isAgg64 Tryz.sizeOf64 ((g.ro p).elem aB.len m (by decide)))) ?_))))))
 refine dE [.int .i64 0, .string ⟨List.toArray ([])⟩, .string ⟨List.toArray ([])⟩, .string ⟨List.toArray ([])⟩, .string ⟨List.toArray ([])⟩, .int .i64 0] 64 g ?_
 intro S T I
 refine bz (aB.cells c) 0 I Tryz.sizeOf64 ?_
 intro U y
 refine ns (La (aB.cells c) y 0 Tryz.isAgg64 Tryz.sizeOf64 ?_)
 obtain⟨d,j⟩:∃ q,dO c=q:=⟨_,rfl⟩
 obtain⟨V,z,O,A,P⟩:=yP y
 refine cl Tryz.call120 (mE _ _ c d z j) ?_
 rintro _ W ⟨rfl,B,o⟩
 have C:=A _ _ B
 replace o: ¬ (d=0)∨(1≤c.ae∧c.ae≤5):=o
 refine Ar rfl (Mz rfl (fw (.bool (decide (¬ (d=0)))) (za (e:= !(decide (d=0))) yk decide_not.symm) (nt ?_)))
 by_cases k:d=0
 refine jF (dF (BK k)) (zm (bN (yL (yK (fw (.int .i64 ((a+1:Nat):Int)) (yS (e:=IntKind.i64.wrap (((a:Nat):Int)+1)) yk (by rw [BI _ (by omega)]; omega)) (Mz rfl (WL.nil ?_)))))))
 have J:=C.pk []
 exact yY (a+1) ⟨rfl,rfl,rfl,rfl,trivial⟩ (f.2 ⟨J,by omega,et (h) (et (congrArg (fun q=>eO q) n) (et (aa j) (ip k)))⟩) (by show b.length - (a+1) < b.length - a; omega)
 refine jT (dT k) (sr (Mz rfl (An rfl (rt (bR (tR (tR (bR (tR (rs ?_))))))))))
 have K:=C.pk []
 obtain rfl:_=d:=hr.symm.trans (iG (et (h) (et (congrArg (fun q=>eO q) n) (et (aa j) (iN k)))))
 exact⟨rfl,K⟩
 refine jF (dF x) (Wp.exit (yV ?_))
 have E:eO b=Sum.inl ():=et (h) (et (congrArg (fun q=>eO q) (dZ (ls:=b) (i:=a) (by omega))) rfl)
 refine yV (y8 (yL (sr (An rfl (rt (rs ?_))))))
 have L:=g.pk []
 obtain rfl:_=0:=hr.symm.trans (kG E)
 exact⟨rfl,L⟩
def l9 (b:List aB):Int:=
 if((b.length:Nat):Int) < 1 then 3 else if((b.length:Nat):Int) > 4 then 3 else bnd (j6 b) fun a=>a
theorem sN (w:World) (D:Nat→Prop) (e:Option Addr) (n0 f:Nat) (b:List aB) (s:Int) (H:Own w D w []) (l:Ro w D fun w'=>bD w' 6 e n0 (List.flatMap aB.cells b)) (m:n0=b.length) (u:b.length≤9223372036854775807) (hr:l9 b=s):
    Calls Tryz.prog 118 #[.slice e n0 f] w (cO fun v w'=>v= .int .i64 s∧Own w D w' []):=by
 subst m
 refine yR (args:= [.slice e b.length f]) Tryz.func118 rfl rfl rfl ?_
 show Wp _ _ _ [(0, .slice e b.length f)] _ _
 refine sr (An rfl (yJ (sr (Mz rfl (Kz (.int .i64 ((b.length:Nat):Int)) (Kz (.bool (decide (((b.length:Nat):Int) < 1))) (Mz rfl ?_)))))))
 by_cases a:((b.length:Nat):Int) < 1
 refine Sz (dT a) (Sz (dT a) (Sz (dT a) (fw (.bool true) (yN rfl (dT a) rfl) (nt (jt (sr (An rfl (rt (tR (rs ?_))))))))))
 have n:Own w D w []:=H.pk []
 obtain rfl:_=3:=hr.symm.trans (ip a)
 exact⟨rfl,n⟩
 refine gw (.slice e b.length f) (dF a) (yO rfl) (Gz (.int .i64 ((b.length:Nat):Int)) (dF a) (Gz (.bool (decide (((b.length:Nat):Int) > 4))) (dF a) (fw (.bool (decide (((b.length:Nat):Int) > 4))) (yM rfl (dF a) rfl) (nt ?_))))
 by_cases c:((b.length:Nat):Int) > 4
 refine jT (dT c) (sr (An rfl (rt (tR (rs ?_)))))
 have o:Own w D w []:=H.pk []
 obtain rfl:_=3:=hr.symm.trans (et (iN a) (ip c))
 exact⟨rfl,o⟩
 refine jF (dF c) (sk (sr (Mz rfl ?_)))
 obtain⟨g,d⟩:∃ q,j6 b=q:=⟨_,rfl⟩
 obtain⟨x,h,i,j,t⟩:=yP H
 refine cl Tryz.call125 (qC _ _ e b.length f b g h (i _ l) rfl (by omega) d) ?_
 rintro _ y ⟨rfl,k⟩
 have p:=j _ _ k
 refine An rfl (rt (rs ?_))
 have r:=p.pk []
 obtain rfl:_=g:=hr.symm.trans (et (iN a) (et (iN c) (aa d)))
 exact⟨rfl,r⟩
def eT:List aB→Unit ⊕ Bool
  | []=>Sum.inl ()
  | b::c=>bnd (dO b) fun a=>if a=0 then eT c else Sum.inr (false)
def jV (a:List aB):Bool:=
 lp (eT a) fun _=>true
theorem qO (w:World) (D:Nat→Prop) (l:Option Addr) (n0 r:Nat) (b:List aB) (M:Bool) (H:Own w D w []) (p:Ro w D fun w'=>bD w' 6 l n0 (List.flatMap aB.cells b)) (F:n0=b.length) (Q:b.length≤9223372036854775807) (hr:jV b=M):
    Calls Tryz.prog 119 #[.slice l n0 r, .func (.func 120) #[] #[]] w (cO fun v w'=>v= .bool M∧Own w D w' []):=by
 subst F
 refine yR (args:= [.slice l b.length r, .func (.func 120) #[] #[]]) Tryz.func119 rfl rfl rfl ?_
 show Wp _ _ _ [(0, .slice l b.length r),(1, .func (.func 120) #[] #[])] _ _
 refine sr (An rfl (yJ (sr (Mz rfl (Kz (.int .i64 ((b.length:Nat):Int)) (Mn rfl (bo ?_)))))))
 have G:Own w D w []:=H.pk []
 obtain⟨s,t⟩:∃ q:Nat→World→Prop,q=fun(i:Nat) w'=>Own w D w' []∧(i≤b.length∧eT b=eT (List.drop i b)):=⟨_,rfl⟩
 have d:∀ {a:Nat} {w':World},s a w'↔Own w D w' []∧a≤b.length∧eT b=eT (List.drop a b):=by intros; subst t; exact Iff.rfl
 refine Wp.loop (fun i:Nat=> [(4, .bool false),(9, .int .i64 ((i:Nat):Int)),(8, .int .i64 ((b.length:Nat):Int)),(7, .slice l b.length r),(1, .func (.func 120) #[] #[])]) s (fun i=>b.length - i) 0 ⟨rfl,rfl,rfl,rfl,rfl,trivial⟩ (d.2 ⟨G,by omega,rfl⟩) ?_
 rintro a R u
 show Wp _ _ _ [(4, .bool false),(9, .int .i64 ((a:Nat):Int)),(8, .int .i64 ((b.length:Nat):Int)),(7, .slice l b.length r),(1, .func (.func 120) #[] #[])] _ _
 obtain⟨f,N,g⟩:=d.1 u
 refine sr (Kz (.bool (decide (((a:Nat):Int) < ((b.length:Nat):Int)))) (nt (yJ ?_)))
 by_cases x:((a:Nat):Int) < ((b.length:Nat):Int)
 obtain⟨c,m⟩:=dV (ls:=b) (i:=a) aB.len (by decide) (f.ro p) (by first | omega | (simp; done) | (simp; omega))
 have n:=drop_at m
 refine jT (dT x) (sk (yJ (bo (sr (fw (.pointer (some ⟨ab l,ao l+a *6,none⟩)) (yZ (l8) rfl rfl ((f.ro p).addr (i:=a) (by omega)) (by omega)) (fw (.agg (aB.cells c).toArray) (y5 rfl (zg (cs:=(aB.cells c)) Tryz.isAgg64 Tryz.sizeOf64 ((f.ro p).elem aB.len m (by decide)))) ?_))))))
 refine dE [.int .i64 0, .string ⟨List.toArray ([])⟩, .string ⟨List.toArray ([])⟩, .string ⟨List.toArray ([])⟩, .string ⟨List.toArray ([])⟩, .int .i64 0] 64 f ?_
 intro S T I
 refine bz (aB.cells c) 0 I Tryz.sizeOf64 ?_
 intro U y
 refine ns (Mz rfl (La (aB.cells c) y 0 Tryz.isAgg64 Tryz.sizeOf64 ?_))
 obtain⟨h,j⟩:∃ q,dO c=q:=⟨_,rfl⟩
 obtain⟨V,z,O,A,P⟩:=yP y
 refine WL.do rfl (zB Tryz.call120 rfl rfl (mE _ _ c h z j) ?_)
 rintro _ W ⟨rfl,B,o⟩
 have C:=A _ _ B
 replace o: ¬ (h=0)∨(1≤c.ae∧c.ae≤5):=o
 refine fw (.bool (decide (¬ (h=0)))) (za (e:= !(decide (h=0))) yk decide_not.symm) (nt ?_)
 by_cases k:h=0
 refine jF (dF (BK k)) (zm (bN (yL (yK (fw (.int .i64 ((a+1:Nat):Int)) (yS (e:=IntKind.i64.wrap (((a:Nat):Int)+1)) yk (by rw [BI _ (by omega)]; omega)) (Mz rfl (WL.nil ?_)))))))
 have J:=C.pk []
 exact yY (a+1) ⟨rfl,rfl,rfl,rfl,rfl,trivial⟩ (d.2 ⟨J,by omega,et (g) (et (congrArg (fun q=>eT q) n) (et (aa j) (ip k)))⟩) (by show b.length - (a+1) < b.length - a; omega)
 refine jT (dT k) (sr (An rfl (rt (bR (tR (tR (bR (tR (rs ?_)))))))))
 have K:=C.pk []
 obtain rfl:_=false:=hr.symm.trans (iG (et (g) (et (congrArg (fun q=>eT q) n) (et (aa j) (iN k)))))
 exact⟨rfl,K⟩
 refine jF (dF x) (Wp.exit (yV ?_))
 have E:eT b=Sum.inl ():=et (g) (et (congrArg (fun q=>eT q) (dZ (ls:=b) (i:=a) (by omega))) rfl)
 refine yV (y8 (yL (sr (An rfl (rt (rs ?_))))))
 have L:=f.pk []
 obtain rfl:_=true:=hr.symm.trans (kG E)
 exact⟨rfl,L⟩
def lM (a:aB):Bool:=
 if a.ae=1 then false else if a.ae=2 then true else if a.ae=3 then true else if a.ae=4 then false else if a.ae=5 then true else false
theorem si (w:World) (D:Nat→Prop) (a:aB) (r0:Bool) (H:Own w D w []) (hr:lM a=r0):
    Calls Tryz.prog 127 #[.agg (aB.cells a).toArray] w (cO fun v w'=>v= .bool r0∧Own w D w' []):=by
 refine yR (args:= [.agg (aB.cells a).toArray]) Tryz.func127 rfl rfl rfl ?_
 show Wp _ _ _ [(0, .agg (aB.cells a).toArray)] _ _
 refine sr ?_
 refine dE (aB.cells a) 64 H ?_
 intro S aW b
 refine Ar rfl (Kz (.pointer (some ⟨S,0,none⟩)) (Lz (.int .i64 a.ae) b 0 Tryz.isAgg3 ?_))
 by_cases c:a.ae=1
 obtain⟨aX,m,aF,n,aG⟩:=yP b
 refine cl Tryz.call126 (nU _ _ a.ae m (of_decide_eq_true (dT c))) ?_
 rintro _ aY ⟨rfl,o⟩
 have T:=n _ _ o
 refine Mz rfl (Kz (.agg #[.bool false, .func (.func 128) #[] #[], .func (.func 129) #[] #[], .func (.func 130) #[] #[], .func (.func 131) #[] #[]]) (Kz (.bool true) ?_))
 refine dE [.bool false, .nilFunc, .nilFunc, .nilFunc, .nilFunc] 162 T ?_
 intro U aZ V
 refine bz [.bool false, .func (.func 128) #[] #[], .func (.func 129) #[] #[], .func (.func 130) #[] #[], .func (.func 131) #[] #[]] 0 V Tryz.sizeOf162 ?_
 intro bf W
 refine An rfl (yJ ?_)
 have p:=W.pk [0]
 refine yK (Mz rfl (Mz rfl (Gz (.pointer (some ⟨U,0,none⟩)) rfl (Gl (.bool false) rfl p 0 Tryz.isAgg4 (fw (.bool false) (yN rfl rfl rfl) (An rfl (rt (rs ?_))))))))
 have X:=p.pk []
 obtain rfl:_=false:=hr.symm.trans (ip c)
 exact⟨rfl,X⟩
 by_cases d:a.ae=2
 obtain⟨bg,q,aH,r,aI⟩:=yP b
 refine cl Tryz.call126 (nW _ _ a.ae q (of_decide_eq_true (dT d))) ?_
 rintro _ bi ⟨rfl,s⟩
 have Y:=r _ _ s
 refine Mz rfl (Kz (.agg #[.bool true, .func (.func 132) #[] #[], .func (.func 133) #[] #[], .func (.func 130) #[] #[], .func (.func 134) #[] #[]]) (Kz (.bool true) ?_))
 refine dE [.bool false, .nilFunc, .nilFunc, .nilFunc, .nilFunc] 162 Y ?_
 intro Z bn aa
 refine bz [.bool true, .func (.func 132) #[] #[], .func (.func 133) #[] #[], .func (.func 130) #[] #[], .func (.func 134) #[] #[]] 0 aa Tryz.sizeOf162 ?_
 intro bq ae
 refine An rfl (yJ ?_)
 have t:=ae.pk [0]
 refine yK (Mz rfl (Mz rfl (Gz (.pointer (some ⟨Z,0,none⟩)) rfl (Gl (.bool true) rfl t 0 Tryz.isAgg4 (fw (.bool true) (yN rfl rfl rfl) (An rfl (rt (rs ?_))))))))
 have af:=t.pk []
 obtain rfl:_=true:=hr.symm.trans (et (iN c) (ip d))
 exact⟨rfl,af⟩
 by_cases e:a.ae=3
 obtain⟨bu,u,aJ,x,aK⟩:=yP b
 refine cl Tryz.call126 (nX _ _ a.ae u (of_decide_eq_true (dT e))) ?_
 rintro _ bv ⟨rfl,y⟩
 have ag:=x _ _ y
 refine Mz rfl (Kz (.agg #[.bool true, .func (.func 128) #[] #[], .func (.func 129) #[] #[], .func (.func 130) #[] #[], .func (.func 135) #[] #[]]) (Kz (.bool true) ?_))
 refine dE [.bool false, .nilFunc, .nilFunc, .nilFunc, .nilFunc] 162 ag ?_
 intro ah bA ai
 refine bz [.bool true, .func (.func 128) #[] #[], .func (.func 129) #[] #[], .func (.func 130) #[] #[], .func (.func 135) #[] #[]] 0 ai Tryz.sizeOf162 ?_
 intro bB aj
 refine An rfl (yJ ?_)
 have z:=aj.pk [0]
 refine yK (Mz rfl (Mz rfl (Gz (.pointer (some ⟨ah,0,none⟩)) rfl (Gl (.bool true) rfl z 0 Tryz.isAgg4 (fw (.bool true) (yN rfl rfl rfl) (An rfl (rt (rs ?_))))))))
 have ak:=z.pk []
 obtain rfl:_=true:=hr.symm.trans (et (iN c) (et (iN d) (ip e)))
 exact⟨rfl,ak⟩
 by_cases f:a.ae=4
 obtain⟨bC,A,aL,B,aM⟩:=yP b
 refine cl Tryz.call126 (nY _ _ a.ae A (of_decide_eq_true (dT f))) ?_
 rintro _ bD ⟨rfl,C⟩
 have au:=B _ _ C
 refine Mz rfl (Kz (.agg #[.bool false, .func (.func 136) #[] #[], .func (.func 137) #[] #[], .func (.func 138) #[] #[], .func (.func 139) #[] #[]]) (Kz (.bool true) ?_))
 refine dE [.bool false, .nilFunc, .nilFunc, .nilFunc, .nilFunc] 162 au ?_
 intro av bE ax
 refine bz [.bool false, .func (.func 136) #[] #[], .func (.func 137) #[] #[], .func (.func 138) #[] #[], .func (.func 139) #[] #[]] 0 ax Tryz.sizeOf162 ?_
 intro bF ay
 refine An rfl (yJ ?_)
 have E:=ay.pk [0]
 refine yK (Mz rfl (Mz rfl (Gz (.pointer (some ⟨av,0,none⟩)) rfl (Gl (.bool false) rfl E 0 Tryz.isAgg4 (fw (.bool false) (yN rfl rfl rfl) (An rfl (rt (rs ?_))))))))
 have az:=E.pk []
 obtain rfl:_=false:=hr.symm.trans (et (iN c) (et (iN d) (et (iN e) (ip f))))
 exact⟨rfl,az⟩
 by_cases h:a.ae=5
 obtain⟨bG,F,aN,G,aO⟩:=yP b
 refine cl Tryz.call126 (nZ _ _ a.ae F (of_decide_eq_true (dT h))) ?_
 rintro _ bH ⟨rfl,i⟩
 have I:=G _ _ i
 refine Mz rfl (Kz (.agg #[.bool true, .func (.func 140) #[] #[], .func (.func 141) #[] #[], .func (.func 138) #[] #[], .func (.func 142) #[] #[]]) (Kz (.bool true) ?_))
 refine dE [.bool false, .nilFunc, .nilFunc, .nilFunc, .nilFunc] 162 I ?_
 intro J aP K
 refine bz [.bool true, .func (.func 140) #[] #[], .func (.func 141) #[] #[], .func (.func 138) #[] #[], .func (.func 142) #[] #[]] 0 K Tryz.sizeOf162 ?_
 intro aQ L
 refine An rfl (yJ ?_)
 have g:=L.pk [0]
 refine yK (Mz rfl (Mz rfl (Gz (.pointer (some ⟨J,0,none⟩)) rfl (Gl (.bool true) rfl g 0 Tryz.isAgg4 (fw (.bool true) (yN rfl rfl rfl) (An rfl (rt (rs ?_))))))))
 have M:=g.pk []
 obtain rfl:_=true:=hr.symm.trans (et (iN c) (et (iN d) (et (iN e) (et (iN f) (ip h)))))
 exact⟨rfl,M⟩
 obtain⟨aR,j,aA,k,aC⟩:=yP b
 refine cl Tryz.call126 (nE _ _ a.ae j (by omega) (by omega) (by omega) (by omega) (by omega)) ?_
 rintro _ aS ⟨rfl,l⟩
 have N:=k _ _ l
 refine Mz rfl (Kz (.agg #[.bool false, .nilFunc, .nilFunc, .nilFunc, .nilFunc]) (Kz (.bool false) ?_))
 refine dE [.bool false, .nilFunc, .nilFunc, .nilFunc, .nilFunc] 162 N ?_
 intro aT aU O
 refine bz [.bool false, .nilFunc, .nilFunc, .nilFunc, .nilFunc] 0 O Tryz.sizeOf162 ?_
 intro aV P
 refine An rfl (yJ ?_)
 have Q:=P.pk [0]
 refine yK (Mz rfl (Mz rfl (Sz rfl (Sz rfl (fw (.bool false) (yM rfl rfl rfl) (An rfl (rt (rs ?_))))))))
 have R:=Q.pk []
 obtain rfl:_=false:=hr.symm.trans (et (iN c) (et (iN d) (et (iN e) (et (iN f) (iN h)))))
 exact⟨rfl,R⟩
def fZ (c:aB):Int:=
 bnd (lM c) fun a=>if a=true then bnd (dO c) fun b=>b else 40
theorem o8 (w:World) (D:Nat→Prop) (a:aB) (t:Int) (H:Own w D w []) (hr:fZ a=t):
    Calls Tryz.prog 121 #[.agg (aB.cells a).toArray] w (cO fun v w'=>v= .int .i64 t∧Own w D w' []):=by
 refine yR (args:= [.agg (aB.cells a).toArray]) Tryz.func121 rfl rfl rfl ?_
 show Wp _ _ _ [(0, .agg (aB.cells a).toArray)] _ _
 refine sr ?_
 refine dE (aB.cells a) 64 H ?_
 intro A B i
 refine An rfl (yJ (sr (La (aB.cells a) i 0 Tryz.isAgg64 Tryz.sizeOf64 ?_)))
 obtain⟨f,b⟩:∃ q,lM a=q:=⟨_,rfl⟩
 obtain⟨C,j,u,k,x⟩:=yP i
 refine cl Tryz.call127 (si _ _ a f j b) ?_
 rintro _ E ⟨rfl,l⟩
 have g:=k _ _ l
 refine Kz (.bool (!f)) (nt ?_)
 rcases BL (f) with c | c
 refine jF (cn c) (sk (sr (La (aB.cells a) g 0 Tryz.isAgg64 Tryz.sizeOf64 ?_)))
 obtain⟨h,d⟩:∃ q,dO a=q:=⟨_,rfl⟩
 obtain⟨F,m,y,n,z⟩:=yP g
 refine cl Tryz.call120 (mE _ _ a h m d) ?_
 rintro _ G ⟨rfl,o,e⟩
 have p:=n _ _ o
 replace e: ¬ (h=0)∨(1≤a.ae∧a.ae≤5):=e
 refine An rfl (rt (rs ?_))
 have r:=p.pk []
 obtain rfl:_=h:=hr.symm.trans (et (aa b) (et (ip c) (aa d)))
 exact⟨rfl,r⟩
 refine jT (cn c) (sr (An rfl (rt (tR (rs ?_)))))
 have s:=g.pk []
 obtain rfl:_=40:=hr.symm.trans (et (aa b) (dz c))
 exact⟨rfl,s⟩
def dW:List aB→Unit ⊕ Bool
  | []=>Sum.inl ()
  | b::c=>bnd (fZ b) fun a=>if a=0 then dW c else Sum.inr (false)
def jJ (a:List aB):Bool:=
 lp (dW a) fun _=>true
theorem qD (w:World) (D:Nat→Prop) (l:Option Addr) (n0 p:Nat) (b:List aB) (L:Bool) (H:Own w D w []) (o:Ro w D fun w'=>bD w' 6 l n0 (List.flatMap aB.cells b)) (E:n0=b.length) (P:b.length≤9223372036854775807) (hr:jJ b=L):
    Calls Tryz.prog 119 #[.slice l n0 p, .func (.func 121) #[] #[]] w (cO fun v w'=>v= .bool L∧Own w D w' []):=by
 subst E
 refine yR (args:= [.slice l b.length p, .func (.func 121) #[] #[]]) Tryz.func119 rfl rfl rfl ?_
 show Wp _ _ _ [(0, .slice l b.length p),(1, .func (.func 121) #[] #[])] _ _
 refine sr (An rfl (yJ (sr (Mz rfl (Kz (.int .i64 ((b.length:Nat):Int)) (Mn rfl (bo ?_)))))))
 have F:Own w D w []:=H.pk []
 obtain⟨r,s⟩:∃ q:Nat→World→Prop,q=fun(i:Nat) w'=>Own w D w' []∧(i≤b.length∧dW b=dW (List.drop i b)):=⟨_,rfl⟩
 have d:∀ {a:Nat} {w':World},r a w'↔Own w D w' []∧a≤b.length∧dW b=dW (List.drop a b):=by intros; subst s; exact Iff.rfl
 refine Wp.loop (fun i:Nat=> [(4, .bool false),(9, .int .i64 ((i:Nat):Int)),(8, .int .i64 ((b.length:Nat):Int)),(7, .slice l b.length p),(1, .func (.func 121) #[] #[])]) r (fun i=>b.length - i) 0 ⟨rfl,rfl,rfl,rfl,rfl,trivial⟩ (d.2 ⟨F,by omega,rfl⟩) ?_
 rintro a Q t
 show Wp _ _ _ [(4, .bool false),(9, .int .i64 ((a:Nat):Int)),(8, .int .i64 ((b.length:Nat):Int)),(7, .slice l b.length p),(1, .func (.func 121) #[] #[])] _ _
 obtain⟨f,M,g⟩:=d.1 t
 refine sr (Kz (.bool (decide (((a:Nat):Int) < ((b.length:Nat):Int)))) (nt (yJ ?_)))
 by_cases u:((a:Nat):Int) < ((b.length:Nat):Int)
 obtain⟨c,m⟩:=dV (ls:=b) (i:=a) aB.len (by decide) (f.ro o) (by first | omega | (simp; done) | (simp; omega))
 have n:=drop_at m
 refine jT (dT u) (sk (yJ (bo (sr (fw (.pointer (some ⟨ab l,ao l+a *6,none⟩)) (yZ (l8) rfl rfl ((f.ro o).addr (i:=a) (by omega)) (by omega)) (fw (.agg (aB.cells c).toArray) (y5 rfl (zg (cs:=(aB.cells c)) Tryz.isAgg64 Tryz.sizeOf64 ((f.ro o).elem aB.len m (by decide)))) ?_))))))
 refine dE [.int .i64 0, .string ⟨List.toArray ([])⟩, .string ⟨List.toArray ([])⟩, .string ⟨List.toArray ([])⟩, .string ⟨List.toArray ([])⟩, .int .i64 0] 64 f ?_
 intro R S G
 refine bz (aB.cells c) 0 G Tryz.sizeOf64 ?_
 intro T x
 refine ns (Mz rfl (La (aB.cells c) x 0 Tryz.isAgg64 Tryz.sizeOf64 ?_))
 obtain⟨j,h⟩:∃ q,fZ c=q:=⟨_,rfl⟩
 obtain⟨U,y,N,z,O⟩:=yP x
 refine WL.do rfl (zB Tryz.call121 rfl rfl (o8 _ _ c j y h) ?_)
 rintro _ V ⟨rfl,A⟩
 have B:=z _ _ A
 refine fw (.bool (decide (¬ (j=0)))) (za (e:= !(decide (j=0))) yk decide_not.symm) (nt ?_)
 by_cases k:j=0
 refine jF (dF (BK k)) (zm (bN (yL (yK (fw (.int .i64 ((a+1:Nat):Int)) (yS (e:=IntKind.i64.wrap (((a:Nat):Int)+1)) yk (by rw [BI _ (by omega)]; omega)) (Mz rfl (WL.nil ?_)))))))
 have I:=B.pk []
 exact yY (a+1) ⟨rfl,rfl,rfl,rfl,rfl,trivial⟩ (d.2 ⟨I,by omega,et (g) (et (congrArg (fun q=>dW q) n) (et (aa h) (ip k)))⟩) (by show b.length - (a+1) < b.length - a; omega)
 refine jT (dT k) (sr (An rfl (rt (bR (tR (tR (bR (tR (rs ?_)))))))))
 have J:=B.pk []
 obtain rfl:_=false:=hr.symm.trans (iG (et (g) (et (congrArg (fun q=>dW q) n) (et (aa h) (iN k)))))
 exact⟨rfl,J⟩
 refine jF (dF u) (Wp.exit (yV ?_))
 have C:dW b=Sum.inl ():=et (g) (et (congrArg (fun q=>dW q) (dZ (ls:=b) (i:=a) (by omega))) rfl)
 refine yV (y8 (yL (sr (An rfl (rt (rs ?_))))))
 have K:=f.pk []
 obtain rfl:_=true:=hr.symm.trans (kG C)
 exact⟨rfl,K⟩
def eX (e:Int) (a:List aB):Bool:=
 if e=1 then bnd (l9 a) fun b=>decide (b=0) else if e=3 then if((a.length:Nat):Int) ≥ 1 then if((a.length:Nat):Int)≤24 then bnd (jV a) fun c=>c else false else false else if((a.length:Nat):Int)≤6 then bnd (jJ a) fun d=>d else false
theorem qP (w:World) (D:Nat→Prop) (i:Int) (g:Option Addr) (G h:Nat) (a:List aB) (S:Bool) (H:Own w D w []) (m:Ro w D fun w'=>bD w' 6 g G (List.flatMap aB.cells a)) (I:G=a.length) (W:a.length≤9223372036854775807) (hr:eX i a=S):
    Calls Tryz.prog 105 #[.int .i64 i, .slice g G h] w (cO fun v w'=>v= .bool S∧Own w D w' []):=by
 subst I
 refine yR (args:= [.int .i64 i, .slice g a.length h]) Tryz.func105 rfl rfl rfl ?_
 show Wp _ _ _ [(0, .int .i64 i),(1, .slice g a.length h)] _ _
 refine sr (An rfl (yJ (sr (Mn rfl (bo (sr (Kz (.bool (decide (i=1))) (An rfl ?_))))))))
 by_cases c:i=1
 refine jT (dT c) (sr (Mz rfl ?_))
 obtain⟨n,j⟩:∃ q,l9 a=q:=⟨_,rfl⟩
 obtain⟨X,r,s,t,T⟩:=yP H
 refine cl Tryz.call118 (sN _ _ g a.length h a n r (s _ m) rfl (by omega) j) ?_
 rintro _ Y ⟨rfl,u⟩
 have J:=t _ _ u
 refine Kz (.bool (decide (n=0))) (An rfl (rt (bR (tR (rs ?_)))))
 have K:=J.pk []
 obtain rfl:_=decide (n=0):=hr.symm.trans (et (ip c) (aa j))
 exact⟨rfl,K⟩
 refine jF (dF c) (sr (Kz (.bool (decide (i=3))) (An rfl ?_)))
 by_cases f:i=3
 refine jT (dT f) (sr (Mz rfl (Kz (.int .i64 ((a.length:Nat):Int)) (Kz (.bool (decide (((a.length:Nat):Int) ≥ 1))) (Mz rfl ?_)))))
 by_cases b:((a.length:Nat):Int) ≥ 1
 refine gw (.slice g a.length h) (dT b) (yO rfl) (Gz (.int .i64 ((a.length:Nat):Int)) (dT b) (Gz (.bool (decide (((a.length:Nat):Int)≤24))) (dT b) (fw (.bool (decide (((a.length:Nat):Int)≤24))) (yN rfl (dT b) rfl) (Mz rfl ?_))))
 by_cases d:((a.length:Nat):Int)≤24
 refine gw (.slice g a.length h) (dT d) (yO rfl) ?_
 obtain⟨o,k⟩:∃ q,jV a=q:=⟨_,rfl⟩
 obtain⟨Z,x,y,z,U⟩:=yP H
 refine jM (dT d) Tryz.call119 (qO _ _ g a.length h a o x (y _ m) rfl (by omega) k) ?_
 rintro _ ae ⟨rfl,A⟩
 have L:=z _ _ A
 refine fw (.bool o) (yN rfl (dT d) rfl) (An rfl (rt (bR (tR (rs ?_)))))
 have M:=L.pk []
 obtain rfl:_=o:=hr.symm.trans (et (iN c) (et (ip f) (et (ip b) (et (ip d) (aa k)))))
 exact⟨rfl,M⟩
 refine Sz (dF d) (Sz (dF d) (fw (.bool false) (yM rfl (dF d) rfl) (An rfl (rt (bR (tR (rs ?_)))))))
 have N:Own w D w []:=H.pk []
 obtain rfl:_=false:=hr.symm.trans (et (iN c) (et (ip f) (et (ip b) (iN d))))
 exact⟨rfl,N⟩
 refine Sz (dF b) (Sz (dF b) (Sz (dF b) (fw (.bool false) (yM rfl (dF b) rfl) (Mz rfl (Sz rfl (Sz rfl (fw (.bool false) (yM rfl rfl rfl) (An rfl (rt (bR (tR (rs ?_))))))))))))
 have O:Own w D w []:=H.pk []
 obtain rfl:_=false:=hr.symm.trans (et (iN c) (et (ip f) (iN b)))
 exact⟨rfl,O⟩
 refine jF (dF f) (zm (bN (yL (sr (Mz rfl (Kz (.int .i64 ((a.length:Nat):Int)) (Kz (.bool (decide (((a.length:Nat):Int)≤6))) (Mz rfl ?_))))))))
 by_cases e:((a.length:Nat):Int)≤6
 refine gw (.slice g a.length h) (dT e) (yO rfl) ?_
 obtain⟨p,l⟩:∃ q,jJ a=q:=⟨_,rfl⟩
 obtain⟨af,B,C,E,V⟩:=yP H
 refine jM (dT e) Tryz.call119 (qD _ _ g a.length h a p B (C _ m) rfl (by omega) l) ?_
 rintro _ ag ⟨rfl,F⟩
 have P:=E _ _ F
 refine fw (.bool p) (yN rfl (dT e) rfl) (An rfl (rt (rs ?_)))
 have Q:=P.pk []
 obtain rfl:_=p:=hr.symm.trans (et (iN c) (et (iN f) (et (ip e) (aa l))))
 exact⟨rfl,Q⟩
 refine Sz (dF e) (Sz (dF e) (fw (.bool false) (yM rfl (dF e) rfl) (An rfl (rt (rs ?_)))))
 have R:Own w D w []:=H.pk []
 obtain rfl:_=false:=hr.symm.trans (et (iN c) (et (iN f) (iN e)))
 exact⟨rfl,R⟩
theorem lT:Elem Tryz.prog 27 88 2 24:=kT (z:= .agg #[.string ⟨List.toArray ([])⟩, .int .i64 0]) Tryz.underlying27 (by kernel_rfl) rfl (by decide)
structure aA where
 aD:List UInt8
 dn:Int
def aA.cells (x:aA):List Value:= [.string ⟨List.toArray x.aD⟩, .int .i64 x.dn]
instance:Bk aA:=⟨fun x _=>bk x.aD+(bk x.dn+(0))⟩
theorem aA.len:∀ x,(aA.cells x).length=2:=fun _=>rfl
theorem aA.one:∀ x, ∀ u ∈ aA.cells x,u.oneCell'=true:=fun x u hu=>by
 simp only [aA.cells,List.mem_cons,List.not_mem_nil,or_false] at hu
 rcases hu with rfl | rfl <;> rfl
def AQ (w:World) (x:aA):Prop:=(x.aD.length≤140737488351232)∧((-9223372036854775808)≤x.dn∧x.dn≤9223372036854775807)
instance:Inhabited aA:=⟨⟨default,default⟩⟩
structure lF where
 ae:Int
 bq:Int
 dw:Int
 aQ:Int
 bu:Int
 bO:Int
 bG:Nat
 aY:Nat
 bF:Nat
 bH:Nat
 bL:Nat
 aV:Nat
 bB:Nat
 aK:Nat
 xN:Nat
 bV:Bool
 aG:bC
 ax:Sv aB
 ah:Sv af
 ai:Sv aA
def lF.cells (x:lF):List Value:= [.int .i64 x.ae, .int .i64 x.bq, .int .i64 x.dw, .int .i64 x.aQ, .int .i64 x.bu, .int .i64 x.bO, .int .u64 ((x.bG:Nat):Int), .int .u64 ((x.aY:Nat):Int), .int .u64 ((x.bF:Nat):Int), .int .u64 ((x.bH:Nat):Int), .int .u64 ((x.bL:Nat):Int), .int .u64 ((x.aV:Nat):Int), .int .u64 ((x.bB:Nat):Int), .int .u64 ((x.aK:Nat):Int), .int .u64 ((x.xN:Nat):Int), .bool x.bV, .string ⟨List.toArray x.aG.aD⟩, .string ⟨List.toArray x.aG.aH⟩, .slice x.ax.A x.ax.ls.length x.ax.c, .slice x.ah.A x.ah.ls.length x.ah.c, .slice x.ai.A x.ai.ls.length x.ai.c]
instance:Bk lF:=⟨fun x _=>bk x.ae+(bk x.bq+(bk x.dw+(bk x.aQ+(bk x.bu+(bk x.bO+(bk x.bG+(bk x.aY+(bk x.bF+(bk x.bH+(bk x.bL+(bk x.aV+(bk x.bB+(bk x.aK+(bk x.xN+(bk x.bV+(bk x.aG+(bk x.ax+(bk x.ah+(bk x.ai+(0))))))))))))))))))))⟩
theorem lF.len:∀ x,(lF.cells x).length=21:=fun _=>rfl
theorem lF.one:∀ x, ∀ u ∈ lF.cells x,u.oneCell'=true:=fun x u hu=>by
 simp only [lF.cells,List.mem_cons,List.not_mem_nil,or_false] at hu
 rcases hu with rfl | rfl | rfl | rfl | rfl | rfl | rfl | rfl | rfl | rfl | rfl | rfl | rfl | rfl | rfl | rfl | rfl | rfl | rfl | rfl | rfl <;> rfl
def BB (w:World) (x:lF):Prop:=((-9223372036854775808)≤x.ae∧x.ae≤9223372036854775807)∧((-9223372036854775808)≤x.bq∧x.bq≤9223372036854775807)∧((-9223372036854775808)≤x.dw∧x.dw≤9223372036854775807)∧((-9223372036854775808)≤x.aQ∧x.aQ≤9223372036854775807)∧((-9223372036854775808)≤x.bu∧x.bu≤9223372036854775807)∧((-9223372036854775808)≤x.bO∧x.bO≤9223372036854775807)∧(x.bG≤18446744073709551615)∧(x.aY≤18446744073709551615)∧(x.bF≤18446744073709551615)∧(x.bH≤18446744073709551615)∧(x.bL≤18446744073709551615)∧(x.aV≤18446744073709551615)∧(x.bB≤18446744073709551615)∧(x.aK≤18446744073709551615)∧(x.xN≤18446744073709551615)∧(True)∧(AP w x.aG)∧(nO w 6 80 aB.cells (Bh w) x.ax)∧(nO w 3 48 af.cells (AC w) x.ah)∧(nO w 2 24 aA.cells (AQ w) x.ai)
instance:Inhabited lF:=⟨⟨default,default,default,default,default,default,default,default,default,default,default,default,default,default,default,default,default,default,default,default⟩⟩
structure bE where
 ae:Int
 bq:Int
 dw:Int
 aQ:Int
 bu:Int
 bO:Int
 bG:Nat
 aY:Nat
 bF:Nat
 bH:Nat
 bL:Nat
 aV:Nat
 bB:Nat
 aK:Nat
 xN:Nat
 bV:Bool
 aG:bC
 ax:Ll aB
 ah:Ll aP
 ai:Ll aA
instance:Inhabited bE:=⟨⟨default,default,default,default,default,default,default,default,default,default,default,default,default,default,default,default,default,default,default,default⟩⟩
def Bz (x:lF):bE:=⟨x.ae,x.bq,x.dw,x.aQ,x.bu,x.bO,x.bG,x.aY,x.bF,x.bH,x.bL,x.aV,x.bB,x.aK,x.xN,x.bV,x.aG,⟨x.ax.ls⟩,⟨List.map zh x.ah.ls⟩,⟨x.ai.ls⟩⟩
def BA (x:lF):List HP:= [row x.ax.A x.ax.ls.length x.ax.c (List.flatMap aB.cells x.ax.ls) 64 6,row x.ah.A x.ah.ls.length x.ah.c (List.flatMap af.cells x.ah.ls) 84 3,row x.ai.A x.ai.ls.length x.ai.c (List.flatMap aA.cells x.ai.ls) 88 2,sepL (List.flatMap yQ x.ah.ls)]
abbrev bf (r:Int) (s:Int) (t:Int) (u:Int) (v:Int) (w:Int) (x:Nat) (y:Nat) (z:Nat) (A:Nat) (g:Nat) (h:Nat) (i:Nat) (j:Nat) (k:Nat) (l:Bool) (m:List UInt8) (n:List UInt8) (o:Option Addr) (a b:Nat) (p:Option Addr) (c d:Nat) (q:Option Addr) (e f:Nat):List Value:= [.int .i64 r, .int .i64 s, .int .i64 t, .int .i64 u, .int .i64 v, .int .i64 w, .int .u64 ((x:Nat):Int), .int .u64 ((y:Nat):Int), .int .u64 ((z:Nat):Int), .int .u64 ((A:Nat):Int), .int .u64 ((g:Nat):Int), .int .u64 ((h:Nat):Int), .int .u64 ((i:Nat):Int), .int .u64 ((j:Nat):Int), .int .u64 ((k:Nat):Int), .bool l, .string ⟨List.toArray m⟩, .string ⟨List.toArray n⟩, .slice o a b, .slice p c d, .slice q e f]
abbrev aM (x:bE) (a:Option Addr) (b:Nat) (c:Option Addr) (d:Nat) (e:Option Addr) (f:Nat):List Value:= [.int .i64 x.ae, .int .i64 x.bq, .int .i64 x.dw, .int .i64 x.aQ, .int .i64 x.bu, .int .i64 x.bO, .int .u64 ((x.bG:Nat):Int), .int .u64 ((x.aY:Nat):Int), .int .u64 ((x.bF:Nat):Int), .int .u64 ((x.bH:Nat):Int), .int .u64 ((x.bL:Nat):Int), .int .u64 ((x.aV:Nat):Int), .int .u64 ((x.bB:Nat):Int), .int .u64 ((x.aK:Nat):Int), .int .u64 ((x.xN:Nat):Int), .bool x.bV, .string ⟨List.toArray x.aG.aD⟩, .string ⟨List.toArray x.aG.aH⟩, .slice a x.ax.ls.length b, .slice c x.ah.ls.length d, .slice e x.ai.ls.length f]
def jO (a:Int):Bool:=
 if a ≥ 1 then decide (a≤4) else false
theorem qi (w:World) (D:Nat→Prop) (b:Int) (e:Bool) (H:Own w D w []) (hr:jO b=e):
    Calls Tryz.prog 122 #[.int .i64 b] w (cO fun v w'=>v= .bool e∧Own w D w' []):=by
 refine yR (args:= [.int .i64 b]) Tryz.func122 rfl rfl rfl ?_
 show Wp _ _ _ [(0, .int .i64 b)] _ _
 refine sr (Ar rfl (Mz rfl (Kz (.bool (decide (b ≥ 1))) (Mz rfl ?_))))
 by_cases a:b ≥ 1
 refine gw (.int .i64 b) (dT a) (yO rfl) (Gz (.bool (decide (b≤4))) (dT a) (fw (.bool (decide (b≤4))) (yN rfl (dT a) rfl) (An rfl (rt (rs ?_)))))
 have c:Own w D w []:=H.pk []
 obtain rfl:_=decide (b≤4):=hr.symm.trans (ip a)
 exact⟨rfl,c⟩
 refine Sz (dF a) (Sz (dF a) (fw (.bool false) (yM rfl (dF a) rfl) (An rfl (rt (rs ?_)))))
 have d:Own w D w []:=H.pk []
 obtain rfl:_=false:=hr.symm.trans (iN a)
 exact⟨rfl,d⟩
def dR (g:List aA):List aA→Nat→Unit ⊕ Int
  | [],a=>Sum.inl ()
  | b::c,a=>bnd (jO b.dn) fun d=>if d=true then if((a:Nat):Int) > 0 then bnd (bX b.aD) fun e=>if e=0 then bnd (List.getD g (a - 1) default) fun f=>if b.aD≤f.aD then Sum.inr (170) else dR g c (a+1) else Sum.inr (170) else dR g c (a+1) else Sum.inr (170)
def jE (a:List aA):Int:=
 if((a.length:Nat):Int) < 1 then 170 else if((a.length:Nat):Int) > 6 then 170 else bnd (List.getD a 0 default) fun b=>if b.aD≠([]) then 170 else lp (dR a a 0) fun _=>0
theorem qQ (w:World) (D:Nat→Prop) (g:Option Addr) (n0 F:Nat) (d:List aA) (r0:Int) (H:Own w D w []) (l:Ro w D fun w'=>bD w' 2 g n0 (List.flatMap aA.cells d)) (Z:n0=d.length) (aH:d.length≤9223372036854775807) (hr:jE d=r0):
    Calls Tryz.prog 106 #[.slice g n0 F] w (cO fun v w'=>v= .int .i64 r0∧Own w D w' []):=by
 subst Z
 refine yR (args:= [.slice g d.length F]) Tryz.func106 rfl rfl rfl ?_
 show Wp _ _ _ [(0, .slice g d.length F)] _ _
 refine sr (An rfl (yJ (sr (Mz rfl (Kz (.int .i64 ((d.length:Nat):Int)) (Kz (.bool (decide (((d.length:Nat):Int) < 1))) (Mz rfl ?_)))))))
 by_cases h:((d.length:Nat):Int) < 1
 refine Sz (dT h) (Sz (dT h) (Sz (dT h) (fw (.bool true) (yN rfl (dT h) rfl) (Mz rfl (Sz rfl (Sz rfl (Sz rfl (Sz rfl (Sz rfl (fw (.bool true) (yN rfl rfl rfl) (nt (jt (sr (An rfl (rt (tR (rs ?_)))))))))))))))))
 have ae:Own w D w []:=H.pk []
 obtain rfl:_=170:=hr.symm.trans (ip h)
 exact⟨rfl,ae⟩
 refine gw (.slice g d.length F) (dF h) (yO rfl) (Gz (.int .i64 ((d.length:Nat):Int)) (dF h) (Gz (.bool (decide (((d.length:Nat):Int) > 6))) (dF h) (fw (.bool (decide (((d.length:Nat):Int) > 6))) (yM rfl (dF h) rfl) (Mz rfl ?_))))
 by_cases f:((d.length:Nat):Int) > 6
 refine Sz (dT f) (Sz (dT f) (Sz (dT f) (Sz (dT f) (Sz (dT f) (fw (.bool true) (yN rfl (dT f) rfl) (nt (jt (sr (An rfl (rt (tR (rs ?_))))))))))))
 have af:Own w D w []:=H.pk []
 obtain rfl:_=170:=hr.symm.trans (et (iN h) (ip f))
 exact⟨rfl,af⟩
 refine gw (.slice g d.length F) (dF f) (yO rfl) ?_
 obtain⟨G,m⟩:=dV (ls:=d) (i:=0) aA.len (by decide) (H.ro l) (by first | omega | (simp; done) | (simp; omega))
 refine gw (.pointer (some ⟨ab g,ao g+0 *2,none⟩)) (dF f) (yZ (lT) rfl rfl ((H.ro l).addr (i:=0) (by omega)) (by omega)) (Gz (.pointer (some ⟨ab g,ao g+0 *2,none⟩)) (dF f) (gw (.string ⟨List.toArray G.aD⟩) (dF f) (y5 rfl (bn.one Tryz.isAgg9 (((H.ro l).elem aA.len m (by decide)).at_ (k:=0) rfl))) (gw (.bool (decide (G.aD≠([])))) (dF f) (zA rfl rfl) (fw (.bool (decide (G.aD≠([])))) (yM rfl (dF f) rfl) (nt ?_)))))
 by_cases s:G.aD≠([])
 refine jT (dT s) (sr (An rfl (rt (tR (rs ?_)))))
 have ag:Own w D w []:=H.pk []
 obtain rfl:_=170:=hr.symm.trans (et (iN h) (et (iN f) (et (aa (dh m)) (ip s))))
 exact⟨rfl,ag⟩
 refine jF (dF s) (sk (yJ (sr (Mz rfl (Kz (.int .i64 ((d.length:Nat):Int)) (Mn rfl (bo ?_)))))))
 have ah:Own w D w []:=H.pk []
 obtain⟨M,N⟩:∃ q:Nat→World→Prop,q=fun(i:Nat) w'=>Own w D w' []∧(i≤d.length∧dR d d 0=dR d (List.drop i d) i):=⟨_,rfl⟩
 have u:∀ {a:Nat} {w':World},M a w'↔Own w D w' []∧a≤d.length∧dR d d 0=dR d (List.drop a d) a:=by intros; subst N; exact Iff.rfl
 refine Wp.loop (fun i:Nat=> [(2, .int .i64 0),(21, .int .i64 ((i:Nat):Int)),(20, .int .i64 ((d.length:Nat):Int)),(0, .slice g d.length F)]) M (fun i=>d.length - i) 0 ⟨rfl,rfl,rfl,rfl,trivial⟩ (u.2 ⟨ah,by omega,rfl⟩) ?_
 rintro a aI O
 show Wp _ _ _ [(2, .int .i64 0),(21, .int .i64 ((a:Nat):Int)),(20, .int .i64 ((d.length:Nat):Int)),(0, .slice g d.length F)] _ _
 obtain⟨A,aB,n⟩:=u.1 O
 refine sr (Kz (.bool (decide (((a:Nat):Int) < ((d.length:Nat):Int)))) (nt (yJ ?_)))
 by_cases P:((a:Nat):Int) < ((d.length:Nat):Int)
 obtain⟨j,x⟩:=dV (ls:=d) (i:=a) aA.len (by decide) (A.ro l) (by first | omega | (simp; done) | (simp; omega))
 have p:=drop_at x
 refine jT (dT P) (sk (yJ (bo (sr (Mz rfl (An rfl (yJ (sr (Mz rfl (Mz rfl (fw (.pointer (some ⟨ab g,ao g+a *2,none⟩)) (yZ (lT) rfl rfl ((A.ro l).addr (i:=a) (by omega)) (by omega)) (Kz (.pointer (some ⟨ab g,ao g+a *2+1,none⟩)) (fw (.int .i64 j.dn) (y5 rfl (bn.one Tryz.isAgg3 (((A.ro l).elem aA.len x (by decide)).at_ (k:=1) rfl))) ?_)))))))))))))
 obtain⟨L,o⟩:∃ q,jO j.dn=q:=⟨_,rfl⟩
 obtain⟨aJ,Q,aC,R,aD⟩:=yP A
 refine cl Tryz.call122 (qi _ _ j.dn L Q o) ?_
 rintro _ ai ⟨rfl,S⟩
 have T:=R _ _ S
 refine Kz (.bool (!L)) (nt ?_)
 rcases BL (L) with r | r
 refine jF (cn r) (sk (yJ ?_))
 have B:=T.drew
 refine zt [] (fun W=> ∃ L',Own w D W ([]++L')) (by kernel_rfl) (by kernel_rfl) (zb (bM.block (zb (zb (bM.block (zb zw)))))) ⟨_,B⟩ ?_
 revert B
 generalize World.drew ai=aK
 intro B
 refine GX.take (v:= .int .i64 ((a:Nat):Int)) (rs:= []) 0 rfl (by kernel_rfl) (fun _ _=>yO rfl) (GX.take (v:= .bool (decide (((a:Nat):Int) > 0))) (rs:= []) 1 rfl (by kernel_rfl) (fun _ _=>yk) (GX.take (v:= .bool (decide (((a:Nat):Int) > 0))) (rs:= []) 2 rfl (by kernel_rfl) (fun _ _=>yO rfl) ?_))
 by_cases c:((a:Nat):Int) > 0
 refine y7 (v:= .slice g d.length F) (rs:= []) 3 rfl rfl rfl (dT c) (by kernel_rfl) (fun _ _=>yO rfl) (y7 (v:= .int .i64 ((a:Nat):Int)) (rs:= []) 4 rfl rfl rfl (dT c) (by kernel_rfl) (fun _ _=>yO rfl) (y7 (v:= .pointer (some ⟨ab g,ao g+a *2,none⟩)) (rs:= []) 5 rfl rfl rfl (dT c) (by kernel_rfl) (fun _ ⟨_,C⟩=>yZ (lT) rfl rfl ((C.ro l).addr (i:=a) (by omega)) (by omega)) (y7 (v:= .pointer (some ⟨ab g,ao g+a *2,none⟩)) (rs:= []) 6 rfl rfl rfl (dT c) (by kernel_rfl) (fun _ _=>yk) (y7 (v:= .string ⟨List.toArray j.aD⟩) (rs:= []) 7 rfl rfl rfl (dT c) (by kernel_rfl) (fun _ ⟨_,C⟩=>y5 rfl (bn.one Tryz.isAgg9 (((C.ro l).elem aA.len x (by decide)).at_ (k:=0) rfl))) ?_))))
 obtain⟨z,y⟩:∃ q,bX j.aD=q:=⟨_,rfl⟩
 obtain⟨aL,U,aF,V,aG⟩:=yP B
 refine zO 8 rfl rfl rfl (dT c) (by kernel_rfl) (zf Tryz.call117 rfl (iP _ _ j.aD z U y) ?_)
 rintro _ aM ⟨rfl,X,K⟩
 have I:=V _ _ X
 replace K: ¬ (z=0)∨(1≤j.aD.length∧j.aD.length≤12):=K
 refine⟨.inr ⟨_,I⟩, ?_⟩
 refine y7 (v:= .bool (decide (¬ (z=0)))) (rs:= []) 9 rfl rfl rfl (dT c) (by kernel_rfl) (fun _ _=>za (e:= !(decide (z=0))) yk decide_not.symm) (y7 (v:= .bool (decide (¬ (z=0)))) (rs:= []) 10 rfl rfl rfl (dT c) (by kernel_rfl) (fun _ _=>yO rfl) ?_)
 by_cases b:z=0
 refine y7 (v:= .slice g d.length F) (rs:= []) 11 rfl rfl rfl (dF (BK b)) (by kernel_rfl) (fun _ _=>yO rfl) (y7 (v:= .int .i64 ((a:Nat):Int)) (rs:= []) 12 rfl rfl rfl (dF (BK b)) (by kernel_rfl) (fun _ _=>yO rfl) (y7 (v:= .pointer (some ⟨ab g,ao g+a *2,none⟩)) (rs:= []) 13 rfl rfl rfl (dF (BK b)) (by kernel_rfl) (fun _ ⟨_,C⟩=>yZ (lT) rfl rfl ((C.ro l).addr (i:=a) (by omega)) (by omega)) (y7 (v:= .pointer (some ⟨ab g,ao g+a *2,none⟩)) (rs:= []) 14 rfl rfl rfl (dF (BK b)) (by kernel_rfl) (fun _ _=>yk) (y7 (v:= .string ⟨List.toArray j.aD⟩) (rs:= []) 15 rfl rfl rfl (dF (BK b)) (by kernel_rfl) (fun _ ⟨_,C⟩=>y5 rfl (bn.one Tryz.isAgg9 (((C.ro l).elem aA.len x (by decide)).at_ (k:=0) rfl))) (y7 (v:= .slice g d.length F) (rs:= []) 16 rfl rfl rfl (dF (BK b)) (by kernel_rfl) (fun _ _=>yO rfl) (y7 (v:= .int .i64 ((a:Nat):Int)) (rs:= []) 17 rfl rfl rfl (dF (BK b)) (by kernel_rfl) (fun _ _=>yO rfl) (y7 (v:= .int .i64 ((a - 1:Nat):Int)) (rs:= []) 18 rfl rfl rfl (dF (BK b)) (by kernel_rfl) (fun _ _=>yS (e:=IntKind.i64.wrap (((a:Nat):Int) - 1)) yk (by rw [BI _ (by omega)]; omega)) ?_)))))))
 obtain⟨t,E⟩:=jZ (ls:=d) (i:=a - 1) (by first | omega | (simp; done) | (simp; omega))
 refine y7 (v:= .pointer (some ⟨ab g,ao g+(a - 1) *2,none⟩)) (rs:= []) 19 rfl rfl rfl (dF (BK b)) (by kernel_rfl) (fun _ ⟨_,C⟩=>yZ (lT) rfl rfl ((C.ro l).addr (i:=a - 1) (by omega)) (by omega)) (y7 (v:= .pointer (some ⟨ab g,ao g+(a - 1) *2,none⟩)) (rs:= []) 20 rfl rfl rfl (dF (BK b)) (by kernel_rfl) (fun _ _=>yk) (y7 (v:= .string ⟨List.toArray t.aD⟩) (rs:= []) 21 rfl rfl rfl (dF (BK b)) (by kernel_rfl) (fun _ ⟨_,C⟩=>y5 rfl (bn.one Tryz.isAgg9 (((C.ro l).elem aA.len E (by decide)).at_ (k:=0) rfl))) (y7 (v:= .bool (decide (j.aD≤t.aD))) (rs:= []) 22 rfl rfl rfl (dF (BK b)) (by kernel_rfl) (fun _ _=>za (e:=Op.bytesLess j.aD t.aD || decide (j.aD=t.aD)) (zY rfl rfl) (tX _ _)) (y7 (v:= .bool (decide (j.aD≤t.aD))) (rs:= []) 23 rfl rfl rfl (dT c) (by kernel_rfl) (fun _ _=>yM rfl (dF (BK b)) rfl) (GX.take (v:= .bool (decide (j.aD≤t.aD))) (rs:= []) 24 rfl (by kernel_rfl) (fun _ _=>yN rfl (dT c) rfl) (zk (by kernel_rfl) (yL ?_)))))))
 by_cases J:j.aD≤t.aD
 refine jT (dT J) (sr (An rfl (rt (bR (tR (tR (bR (tR (rs ?_)))))))))
 have aj:=I.pk []
 obtain rfl:_=170:=hr.symm.trans (et (iN h) (et (iN f) (et (aa (dh m)) (et (iN s) (iG (et (n) (et (congrArg (fun q=>dR d q a) p) (et (aa o) (et (ip r) (et (ip c) (et (aa y) (et (ip b) (et (aa (dh E)) (ip J))))))))))))))
 exact⟨rfl,aj⟩
 refine jF (dF J) (zm (bN (yL (yK (fw (.int .i64 ((a+1:Nat):Int)) (yS (e:=IntKind.i64.wrap (((a:Nat):Int)+1)) yk (by rw [BI _ (by omega)]; omega)) (Mz rfl (WL.nil ?_)))))))
 have ak:=I.pk []
 exact yY (a+1) ⟨rfl,rfl,rfl,rfl,trivial⟩ (u.2 ⟨ak,by omega,et (n) (et (congrArg (fun q=>dR d q a) p) (et (aa o) (et (ip r) (et (ip c) (et (aa y) (et (ip b) (et (aa (dh E)) (iN J))))))))⟩) (by show d.length - (a+1) < d.length - a; omega)
 refine yU (rs:= []) 11 rfl rfl rfl (dT b) (by kernel_rfl) (yU (rs:= []) 12 rfl rfl rfl (dT b) (by kernel_rfl) (yU (rs:= []) 13 rfl rfl rfl (dT b) (by kernel_rfl) (yU (rs:= []) 14 rfl rfl rfl (dT b) (by kernel_rfl) (yU (rs:= []) 15 rfl rfl rfl (dT b) (by kernel_rfl) (yU (rs:= []) 16 rfl rfl rfl (dT b) (by kernel_rfl) (yU (rs:= []) 17 rfl rfl rfl (dT b) (by kernel_rfl) (yU (rs:= []) 18 rfl rfl rfl (dT b) (by kernel_rfl) (yU (rs:= []) 19 rfl rfl rfl (dT b) (by kernel_rfl) (yU (rs:= []) 20 rfl rfl rfl (dT b) (by kernel_rfl) (yU (rs:= []) 21 rfl rfl rfl (dT b) (by kernel_rfl) (yU (rs:= []) 22 rfl rfl rfl (dT b) (by kernel_rfl) (y7 (v:= .bool true) (rs:= []) 23 rfl rfl rfl (dT c) (by kernel_rfl) (fun _ _=>yN rfl (dT b) rfl) (GX.take (v:= .bool true) (rs:= []) 24 rfl (by kernel_rfl) (fun _ _=>yN rfl (dT c) rfl) (zk (by kernel_rfl) (yL (jt (sr (An rfl (rt (bR (tR (tR (bR (tR (rs ?_)))))))))))))))))))))))))
 have au:=I.pk []
 obtain rfl:_=170:=hr.symm.trans (et (iN h) (et (iN f) (et (aa (dh m)) (et (iN s) (iG (et (n) (et (congrArg (fun q=>dR d q a) p) (et (aa o) (et (ip r) (et (ip c) (et (aa y) (iN b))))))))))))
 exact⟨rfl,au⟩
 refine yU (rs:= []) 3 rfl rfl rfl (dF c) (by kernel_rfl) (yU (rs:= []) 4 rfl rfl rfl (dF c) (by kernel_rfl) (yU (rs:= []) 5 rfl rfl rfl (dF c) (by kernel_rfl) (yU (rs:= []) 6 rfl rfl rfl (dF c) (by kernel_rfl) (yU (rs:= []) 7 rfl rfl rfl (dF c) (by kernel_rfl) (yU (rs:= []) 8 rfl rfl rfl (dF c) (by kernel_rfl) (yU (rs:= []) 9 rfl rfl rfl (dF c) (by kernel_rfl) (yU (rs:= []) 10 rfl rfl rfl (dF c) (by kernel_rfl) (zl (rs:= []) 11 rfl rfl rfl (by kernel_rfl) (zl (rs:= []) 12 rfl rfl rfl (by kernel_rfl) (zl (rs:= []) 13 rfl rfl rfl (by kernel_rfl) (zl (rs:= []) 14 rfl rfl rfl (by kernel_rfl) (zl (rs:= []) 15 rfl rfl rfl (by kernel_rfl) (zl (rs:= []) 16 rfl rfl rfl (by kernel_rfl) (zl (rs:= []) 17 rfl rfl rfl (by kernel_rfl) (zl (rs:= []) 18 rfl rfl rfl (by kernel_rfl) (zl (rs:= []) 19 rfl rfl rfl (by kernel_rfl) (zl (rs:= []) 20 rfl rfl rfl (by kernel_rfl) (zl (rs:= []) 21 rfl rfl rfl (by kernel_rfl) (zl (rs:= []) 22 rfl rfl rfl (by kernel_rfl) (yU (rs:= []) 23 rfl rfl rfl (dF c) (by kernel_rfl) (GX.take (v:= .bool false) (rs:= []) 24 rfl (by kernel_rfl) (fun _ _=>yM rfl (dF c) rfl) (zk (by kernel_rfl) (yL (jf (zm (bN (yL (yK (fw (.int .i64 ((a+1:Nat):Int)) (yS (e:=IntKind.i64.wrap (((a:Nat):Int)+1)) yk (by rw [BI _ (by omega)]; omega)) (Mz rfl (WL.nil ?_)))))))))))))))))))))))))))))))
 have av:=B.pk []
 exact yY (a+1) ⟨rfl,rfl,rfl,rfl,trivial⟩ (u.2 ⟨av,by omega,et (n) (et (congrArg (fun q=>dR d q a) p) (et (aa o) (et (ip r) (iN c))))⟩) (by show d.length - (a+1) < d.length - a; omega)
 refine jT (cn r) (sr (An rfl (rt (tR (bR (tR (tR (bR (tR (rs ?_))))))))))
 have ax:=T.pk []
 obtain rfl:_=170:=hr.symm.trans (et (iN h) (et (iN f) (et (aa (dh m)) (et (iN s) (iG (et (n) (et (congrArg (fun q=>dR d q a) p) (et (aa o) (dz r)))))))))
 exact⟨rfl,ax⟩
 refine jF (dF P) (Wp.exit (yV ?_))
 have Y:dR d d 0=Sum.inl ():=et (n) (et (congrArg (fun q=>dR d q a) (dZ (ls:=d) (i:=a) (by omega))) rfl)
 refine yV (y8 (yL (sr (An rfl (rt (rs ?_))))))
 have ay:=A.pk []
 obtain rfl:_=0:=hr.symm.trans (et (iN h) (et (iN f) (et (aa (dh m)) (et (iN s) (kG Y)))))
 exact⟨rfl,ay⟩
def bQ (b:Int) (a:Int):Bool:=
 if b=1 then if a ≥ 1 then decide (a≤4) else false else if b=2 then if a ≥ 11 then decide (a < 15) else false else decide (a=0)
theorem lU (w:World) (D:Nat→Prop) (f:Int) (a:Int) (l:Bool) (H:Own w D w []) (hr:bQ f a=l):
    Calls Tryz.prog 23 #[.int .i64 f, .int .i64 a] w (cO fun v w'=>v= .bool l∧Own w D w' []):=by
 refine yR (args:= [.int .i64 f, .int .i64 a]) Tryz.func23 rfl rfl rfl ?_
 show Wp _ _ _ [(0, .int .i64 f),(1, .int .i64 a)] _ _
 refine sr (An rfl (yJ (sr (Mn rfl (bo (sr (Kz (.bool (decide (f=1))) (An rfl ?_))))))))
 by_cases d:f=1
 refine jT (dT d) (sr (Mz rfl (Kz (.bool (decide (a ≥ 1))) (Mz rfl ?_))))
 by_cases b:a ≥ 1
 refine gw (.int .i64 a) (dT b) (yO rfl) (Gz (.bool (decide (a≤4))) (dT b) (fw (.bool (decide (a≤4))) (yN rfl (dT b) rfl) (An rfl (rt (bR (tR (rs ?_)))))))
 have g:Own w D w []:=H.pk []
 obtain rfl:_=decide (a≤4):=hr.symm.trans (et (ip d) (ip b))
 exact⟨rfl,g⟩
 refine Sz (dF b) (Sz (dF b) (fw (.bool false) (yM rfl (dF b) rfl) (An rfl (rt (bR (tR (rs ?_)))))))
 have h:Own w D w []:=H.pk []
 obtain rfl:_=false:=hr.symm.trans (et (ip d) (iN b))
 exact⟨rfl,h⟩
 refine jF (dF d) (sr (Kz (.bool (decide (f=2))) (An rfl ?_)))
 by_cases e:f=2
 refine jT (dT e) (sr (Mz rfl (Kz (.bool (decide (a ≥ 11))) (Mz rfl ?_))))
 by_cases c:a ≥ 11
 refine gw (.int .i64 a) (dT c) (yO rfl) (Gz (.bool (decide (a < 15))) (dT c) (fw (.bool (decide (a < 15))) (yN rfl (dT c) rfl) (An rfl (rt (bR (tR (rs ?_)))))))
 have i:Own w D w []:=H.pk []
 obtain rfl:_=decide (a < 15):=hr.symm.trans (et (iN d) (et (ip e) (ip c)))
 exact⟨rfl,i⟩
 refine Sz (dF c) (Sz (dF c) (fw (.bool false) (yM rfl (dF c) rfl) (An rfl (rt (bR (tR (rs ?_)))))))
 have j:Own w D w []:=H.pk []
 obtain rfl:_=false:=hr.symm.trans (et (iN d) (et (ip e) (iN c)))
 exact⟨rfl,j⟩
 refine jF (dF e) (zm (bN (yL (sr (Mz rfl (Kz (.bool (decide (a=0))) (An rfl (rt (rs ?_)))))))))
 have k:Own w D w []:=H.pk []
 obtain rfl:_=decide (a=0):=hr.symm.trans (et (iN d) (iN e))
 exact⟨rfl,k⟩
def gp (a:bE) (b:Int):Bool:=
 if b=2 then bnd (fE a.ae a.bu) fun c=>c else if b=3 then bnd (iJ a.ae a.ah.ls) fun d=>d else if b=7 then bnd (eX a.ae a.ax.ls) fun e=>e else if b=11 then bnd (jE a.ai.ls) fun f=>decide (f=0) else if b=12 then bnd (bQ 1 a.bO) fun g=>g else if b=13 then bnd (gK a.aG) fun h=>decide (h=0) else true
theorem sO (w:World) (D:Nat→Prop) (a:bE) (d:Option Addr) (y e:Nat) (f:Option Addr) (z g:Nat) (o:List af) (h:Option Addr) (B i:Nat) (m:Int) (r0:Bool) (H:Own w D w []) (L:y=a.ax.ls.length) (M:Ro w D fun w'=>bD w' 6 d a.ax.ls.length (List.flatMap aB.cells a.ax.ls)) (aJ:a.ax.ls.length≤e∧a.ax.ls.length≤9223372036854775807) (r:List.map zh o=a.ah.ls) (N:z=a.ah.ls.length) (O:Ro w D fun w'=>bD w' 3 f a.ah.ls.length (List.flatMap af.cells o)) (aK:a.ah.ls.length≤g∧a.ah.ls.length≤9223372036854775807) (s:∀ x ∈ o,Ro w D (fun w'=>bD w' 2 x.ak.A x.ak.ls.length (List.flatMap aR.cells x.ak.ls))∧(x.ak.ls.length≤x.ak.c∧x.ak.ls.length≤9223372036854775807)) (P:B=a.ai.ls.length) (Q:Ro w D fun w'=>bD w' 2 h a.ai.ls.length (List.flatMap aA.cells a.ai.ls)) (aL:a.ai.ls.length≤i∧a.ai.ls.length≤9223372036854775807) (bJ:a.ax.ls.length≤140737488355328∧a.ah.ls.length≤140737488355328∧a.ai.ls.length≤140737488355328) (hr:gp a m=r0):
    Calls Tryz.prog 71 #[.agg (bf a.ae a.bq a.dw a.aQ a.bu a.bO a.bG a.aY a.bF a.bH a.bL a.aV a.bB a.aK a.xN a.bV a.aG.aD a.aG.aH d y e f z g h B i).toArray, .int .i64 m] w (cO fun v w'=>v= .bool r0∧Own w D w' []):=by
 subst L N P
 have hdl0x1:=dG r
 refine yR (args:= [.agg (aM a d e f g h i).toArray, .int .i64 m]) Tryz.func71 rfl rfl rfl ?_
 show Wp _ _ _ [(0, .agg (aM a d e f g h i).toArray),(1, .int .i64 m)] _ _
 refine sr ?_
 refine dE (aM a d e f g h i) 29 H ?_
 intro j bK b
 refine An rfl (yJ (sr (Mn rfl (bo (sr (Kz (.bool (decide (m=2))) (An rfl ?_)))))))
 by_cases k:m=2
 refine jT (dT k) (sr (Kz (.pointer (some ⟨j,0,none⟩)) (Lz (.int .i64 a.ae) b 0 Tryz.isAgg3 (Kz (.pointer (some ⟨j,4,none⟩)) (Lz (.int .i64 a.bu) b 0 Tryz.isAgg3 ?_)))))
 obtain⟨T,C⟩:∃ q,fE a.ae a.bu=q:=⟨_,rfl⟩
 obtain⟨bL,U,bn,V,bq⟩:=yP b
 refine cl Tryz.call103 (qy _ _ a.ae a.bu T U C) ?_
 rintro _ bM ⟨rfl,W⟩
 have aN:=V _ _ W
 refine An rfl (rt (bR (tR (rs ?_))))
 have aO:=aN.pk []
 obtain rfl:_=T:=hr.symm.trans (et (ip k) (aa C))
 exact⟨rfl,aO⟩
 refine jF (dF k) (sr (Kz (.bool (decide (m=3))) (An rfl ?_)))
 by_cases l:m=3
 refine jT (dT l) (sr (Kz (.pointer (some ⟨j,0,none⟩)) (Lz (.int .i64 a.ae) b 0 Tryz.isAgg3 (Kz (.pointer (some ⟨j,19,none⟩)) (Lz (.slice f a.ah.ls.length g) b 0 Tryz.isAgg26 ?_)))))
 obtain⟨X,E⟩:∃ q,iJ a.ae a.ah.ls=q:=⟨_,rfl⟩
 obtain⟨bO,Y,F,Z,bu⟩:=yP b
 refine cl Tryz.call104 (o6 _ _ a.ae f a.ah.ls.length g o a.ah.ls X Y r (F _ O) (fun x9 h9=>⟨F _ (s x9 h9).1,(s x9 h9).2⟩) rfl (by omega) E) ?_
 rintro _ bP ⟨rfl,ae⟩
 have aP:=Z _ _ ae
 refine An rfl (rt (bR (tR (rs ?_))))
 have aQ:=aP.pk []
 obtain rfl:_=X:=hr.symm.trans (et (iN k) (et (ip l) (aa E)))
 exact⟨rfl,aQ⟩
 refine jF (dF l) (sr (Kz (.bool (decide (m=7))) (An rfl ?_)))
 by_cases n:m=7
 refine jT (dT n) (sr (Kz (.pointer (some ⟨j,0,none⟩)) (Lz (.int .i64 a.ae) b 0 Tryz.isAgg3 (Kz (.pointer (some ⟨j,18,none⟩)) (Lz (.slice d a.ax.ls.length e) b 0 Tryz.isAgg25 ?_)))))
 obtain⟨ag,G⟩:∃ q,eX a.ae a.ax.ls=q:=⟨_,rfl⟩
 obtain⟨bS,ah,ai,aj,bA⟩:=yP b
 refine cl Tryz.call105 (qP _ _ a.ae d a.ax.ls.length e a.ax.ls ag ah (ai _ M) rfl (by omega) G) ?_
 rintro _ bT ⟨rfl,ak⟩
 have aS:=aj _ _ ak
 refine An rfl (rt (bR (tR (rs ?_))))
 have aT:=aS.pk []
 obtain rfl:_=ag:=hr.symm.trans (et (iN k) (et (iN l) (et (ip n) (aa G))))
 exact⟨rfl,aT⟩
 refine jF (dF n) (sr (Kz (.bool (decide (m=11))) (An rfl ?_)))
 by_cases p:m=11
 refine jT (dT p) (sr (Kz (.pointer (some ⟨j,20,none⟩)) (Lz (.slice h a.ai.ls.length i) b 0 Tryz.isAgg27 ?_)))
 obtain⟨R,I⟩:∃ q,jE a.ai.ls=q:=⟨_,rfl⟩
 obtain⟨bU,au,av,ax,bB⟩:=yP b
 refine cl Tryz.call106 (qQ _ _ h a.ai.ls.length i a.ai.ls R au (av _ Q) rfl (by omega) I) ?_
 rintro _ bV ⟨rfl,ay⟩
 have aU:=ax _ _ ay
 refine Kz (.bool (decide (R=0))) (An rfl (rt (bR (tR (rs ?_)))))
 have aV:=aU.pk []
 obtain rfl:_=decide (R=0):=hr.symm.trans (et (iN k) (et (iN l) (et (iN n) (et (ip p) (aa I)))))
 exact⟨rfl,aV⟩
 refine jF (dF p) (sr (Kz (.bool (decide (m=12))) (An rfl ?_)))
 by_cases t:m=12
 refine jT (dT t) (sr (Kz (.pointer (some ⟨j,5,none⟩)) (Lz (.int .i64 a.bO) b 0 Tryz.isAgg3 ?_)))
 obtain⟨az,J⟩:∃ q,bQ 1 a.bO=q:=⟨_,rfl⟩
 obtain⟨bW,aC,bF,aD,bG⟩:=yP b
 refine cl Tryz.call23 (lU _ _ 1 a.bO az aC J) ?_
 rintro _ bX ⟨rfl,aF⟩
 have aW:=aD _ _ aF
 refine An rfl (rt (bR (tR (rs ?_))))
 have aX:=aW.pk []
 obtain rfl:_=az:=hr.symm.trans (et (iN k) (et (iN l) (et (iN n) (et (iN p) (et (ip t) (aa J))))))
 exact⟨rfl,aX⟩
 refine jF (dF t) (sr (Kz (.bool (decide (m=13))) (An rfl ?_)))
 by_cases u:m=13
 refine jT (dT u) (sr (Kz (.pointer (some ⟨j,16,none⟩)) (La (bC.cells a.aG) b 0 Tryz.isAgg24 Tryz.sizeOf24 ?_)))
 obtain⟨S,K⟩:∃ q,gK a.aG=q:=⟨_,rfl⟩
 obtain⟨bY,aG,bH,aH,bI⟩:=yP b
 refine cl Tryz.call107 (oL _ _ a.aG S aG K) ?_
 rintro _ bZ ⟨rfl,aI⟩
 have aY:=aH _ _ aI
 refine Kz (.bool (decide (S=0))) (An rfl (rt (bR (tR (rs ?_)))))
 have aZ:=aY.pk []
 obtain rfl:_=decide (S=0):=hr.symm.trans (et (iN k) (et (iN l) (et (iN n) (et (iN p) (et (iN t) (et (ip u) (aa K)))))))
 exact⟨rfl,aZ⟩
 refine jF (dF u) (zm (bN (yL (sr (An rfl (rt (rs ?_)))))))
 have bg:=b.pk []
 obtain rfl:_=true:=hr.symm.trans (et (iN k) (et (iN l) (et (iN n) (et (iN p) (et (iN t) (iN u))))))
 exact⟨rfl,bg⟩
def fT (d:bE):List Int→Unit ⊕ Bool
  | []=>Sum.inl ()
  | b::c=>bnd (gp d b) fun a=>if a=true then fT d c else Sum.inr (false)
def dQ (a:bE) (b:List Int):Bool:=
 lp (fT a b) fun _=>true
theorem qR (w:World) (D:Nat→Prop) (a:bE) (h:Option Addr) (C d:Nat) (j:Option Addr) (E f:Nat) (n:List af) (l:Option Addr) (F g:Nat) (G:Option Addr) (n1 T:Nat) (m:List Int) (r0:Bool) (H:Own w D w []) (K:C=a.ax.ls.length) (L:Ro w D fun w'=>bD w' 6 h a.ax.ls.length (List.flatMap aB.cells a.ax.ls)) (aj:a.ax.ls.length≤d∧a.ax.ls.length≤9223372036854775807) (r:List.map zh n=a.ah.ls) (M:E=a.ah.ls.length) (N:Ro w D fun w'=>bD w' 3 j a.ah.ls.length (List.flatMap af.cells n)) (ak:a.ah.ls.length≤f∧a.ah.ls.length≤9223372036854775807) (s:∀ x ∈ n,Ro w D (fun w'=>bD w' 2 x.ak.A x.ak.ls.length (List.flatMap aR.cells x.ak.ls))∧(x.ak.ls.length≤x.ak.c∧x.ak.ls.length≤9223372036854775807)) (O:F=a.ai.ls.length) (P:Ro w D fun w'=>bD w' 2 l a.ai.ls.length (List.flatMap aA.cells a.ai.ls)) (au:a.ai.ls.length≤g∧a.ai.ls.length≤9223372036854775807) (Q:Ro w D fun w'=>bD w' 1 G n1 (List.flatMap (eI .i64) m)) (av:n1=m.length) (aK:m.length *8≤211106232532992) (aL:a.ax.ls.length≤140737488355328∧a.ah.ls.length≤140737488355328∧a.ai.ls.length≤140737488355328) (hr:dQ a m=r0):
    Calls Tryz.prog 26 #[.agg (bf a.ae a.bq a.dw a.aQ a.bu a.bO a.bG a.aY a.bF a.bH a.bL a.aV a.bB a.aK a.xN a.bV a.aG.aD a.aG.aH h C d j E f l F g).toArray, .slice G n1 T] w (cO fun v w'=>v= .bool r0∧Own w D w' []):=by
 subst av K M O
 have hdl0x1:=dG r
 refine yR (args:= [.agg (aM a h d j f l g).toArray, .slice G m.length T]) Tryz.func26 rfl rfl rfl ?_
 show Wp _ _ _ [(0, .agg (aM a h d j f l g).toArray),(1, .slice G m.length T)] _ _
 refine sr ?_
 refine dE (aM a h d j f l g) 29 H ?_
 intro B aN ax
 refine An rfl (yJ (sr (Mz rfl (Kz (.int .i64 ((m.length:Nat):Int)) (Mn rfl (bo ?_))))))
 have ay:=ax.pk [0]
 obtain⟨U,V⟩:∃ q:Nat→World→Prop,q=fun(i:Nat) w'=>Own w D w' [blk B (aM a h d j f l g) 29]∧(i≤m.length∧fT a m=fT a (List.drop i m)):=⟨_,rfl⟩
 have t:∀ {b:Nat} {w':World},U b w'↔Own w D w' [blk B (aM a h d j f l g) 29]∧b≤m.length∧fT a m=fT a (List.drop b m):=by intros; subst V; exact Iff.rfl
 refine Wp.loop (fun i:Nat=> [(4, .bool false),(9, .int .i64 ((i:Nat):Int)),(8, .int .i64 ((m.length:Nat):Int)),(7, .slice G m.length T),(2, .pointer (some ⟨B,0,none⟩))]) U (fun i=>m.length - i) 0 ⟨rfl,rfl,rfl,rfl,rfl,trivial⟩ (t.2 ⟨ay,by omega,rfl⟩) ?_
 rintro b aO W
 show Wp _ _ _ [(4, .bool false),(9, .int .i64 ((b:Nat):Int)),(8, .int .i64 ((m.length:Nat):Int)),(7, .slice G m.length T),(2, .pointer (some ⟨B,0,none⟩))] _ _
 obtain⟨p,aG,u⟩:=t.1 W
 refine sr (Kz (.bool (decide (((b:Nat):Int) < ((m.length:Nat):Int)))) (nt (yJ ?_)))
 by_cases X:((b:Nat):Int) < ((m.length:Nat):Int)
 obtain⟨R,I⟩:=dV (ls:=m) (i:=b) mi (by decide) (p.ro Q) (by first | omega | (simp; done) | (simp; omega))
 have J:=drop_at I
 refine jT (dT X) (sk (yJ (bo (sr (fw (.pointer (some ⟨ab G,ao G+b *1,none⟩)) (yZ (uh) rfl rfl ((p.ro Q).addr (i:=b) (by omega)) (by omega)) (fw (.int .i64 R) (y5 rfl (bn.one Tryz.isAgg93 (((p.ro Q).elem mi I (by decide)).at_ (k:=0) rfl))) (Ar rfl (La (aM a h d j f l g) p 0 Tryz.isAgg29 Tryz.sizeOf29 (Mz rfl ?_)))))))))
 obtain⟨S,y⟩:∃ q,gp a R=q:=⟨_,rfl⟩
 obtain⟨aP,Y,o,Z,aH⟩:=yP p
 refine cl Tryz.call71 (sO _ _ a h a.ax.ls.length d j a.ah.ls.length f n l a.ai.ls.length g R S Y rfl (o _ L) (show a.ax.ls.length≤d∧a.ax.ls.length≤9223372036854775807 from by omega) r rfl (o _ N) (show a.ah.ls.length≤f∧a.ah.ls.length≤9223372036854775807 from by omega) (fun x9 h9=>⟨o _ (s x9 h9).1,(s x9 h9).2⟩) rfl (o _ P) (show a.ai.ls.length≤g∧a.ai.ls.length≤9223372036854775807 from by omega) (by first | omega | (dsimp only; omega) | (simp only [List.length_nil]; omega)) y) ?_
 rintro _ aQ ⟨rfl,ae⟩
 have ag:=Z _ _ ae
 refine Kz (.bool (!S)) (nt ?_)
 rcases BL (S) with z | z
 refine jF (cn z) (zm (bN (yL (yK (fw (.int .i64 ((b+1:Nat):Int)) (yS (e:=IntKind.i64.wrap (((b:Nat):Int)+1)) yk (by rw [BI _ (by omega)]; omega)) (Mz rfl (WL.nil ?_)))))))
 have az:=ag.pk [0]
 exact yY (b+1) ⟨rfl,rfl,rfl,rfl,rfl,trivial⟩ (t.2 ⟨az,by omega,et (u) (et (congrArg (fun q=>fT a q) J) (et (aa y) (ip z)))⟩) (by show m.length - (b+1) < m.length - b; omega)
 refine jT (cn z) (sr (An rfl (rt (bR (tR (tR (bR (tR (rs ?_)))))))))
 have aC:=ag.pk []
 obtain rfl:_=false:=hr.symm.trans (iG (et (u) (et (congrArg (fun q=>fT a q) J) (et (aa y) (dz z)))))
 exact⟨rfl,aC⟩
 refine jF (dF X) (Wp.exit (yV ?_))
 have ah:fT a m=Sum.inl ():=et (u) (et (congrArg (fun q=>fT a q) (dZ (ls:=m) (i:=b) (by omega))) rfl)
 refine yV (y8 (yL (sr (An rfl (rt (rs ?_))))))
 have aD:=p.pk []
 obtain rfl:_=true:=hr.symm.trans (kG ah)
 exact⟨rfl,aD⟩
def fe (a:bE):Bool:=
 if((aZ (aZ (aZ (aZ (aZ (aZ (aZ (aZ a.bG a.aY) a.bF) a.bH) a.bL) a.aV) a.bB) a.aK) a.xN:Nat):Int)=0 then if(((a.ax.ls.length+a.ah.ls.length)+a.ai.ls.length:Nat):Int)=0 then if a.aQ=0 then if a.bu=0 then if a.bO=0 then if a.bV=true then false else decide ((a.aG.aD=([]))∧(a.aG.aH=([]))) else false else false else false else false else false
theorem rC (w:World) (D:Nat→Prop) (a:bE) (l:Option Addr) (s m:Nat) (n:Option Addr) (t o:Nat) (r:List af) (p:Option Addr) (y q:Nat) (U:Bool) (H:Own w D w []) (z:s=a.ax.ls.length) (F:Ro w D fun w'=>bD w' 6 l a.ax.ls.length (List.flatMap aB.cells a.ax.ls)) (G:a.ax.ls.length≤m∧a.ax.ls.length≤9223372036854775807) (B:List.map zh r=a.ah.ls) (C:t=a.ah.ls.length) (I:Ro w D fun w'=>bD w' 3 n a.ah.ls.length (List.flatMap af.cells r)) (J:a.ah.ls.length≤o∧a.ah.ls.length≤9223372036854775807) (K:∀ x ∈ r,Ro w D (fun w'=>bD w' 2 x.ak.A x.ak.ls.length (List.flatMap aR.cells x.ak.ls))∧(x.ak.ls.length≤x.ak.c∧x.ak.ls.length≤9223372036854775807)) (E:y=a.ai.ls.length) (L:Ro w D fun w'=>bD w' 2 p a.ai.ls.length (List.flatMap aA.cells a.ai.ls)) (M:a.ai.ls.length≤q∧a.ai.ls.length≤9223372036854775807) (ah:a.ax.ls.length≤140737488355328∧a.ah.ls.length≤140737488355328∧a.ai.ls.length≤140737488355328) (hr:fe a=U):
    Calls Tryz.prog 24 #[.agg (bf a.ae a.bq a.dw a.aQ a.bu a.bO a.bG a.aY a.bF a.bH a.bL a.aV a.bB a.aK a.xN a.bV a.aG.aD a.aG.aH l s m n t o p y q).toArray] w (cO fun v w'=>v= .bool U∧Own w D w' []):=by
 subst z C E
 have hdl0x1:=dG B
 refine yR (args:= [.agg (aM a l m n o p q).toArray]) Tryz.func24 rfl rfl rfl ?_
 show Wp _ _ _ [(0, .agg (aM a l m n o p q).toArray)] _ _
 refine sr ?_
 refine dE (aM a l m n o p q) 29 H ?_
 intro d ai b
 refine Ar rfl (Kz (.pointer (some ⟨d,6,none⟩)) (Lz (.int .u64 ((a.bG:Nat):Int)) b 0 Tryz.isAgg22 (Kz (.pointer (some ⟨d,7,none⟩)) (Lz (.int .u64 ((a.aY:Nat):Int)) b 0 Tryz.isAgg22 ?_))))
 have V:aZ a.bG a.aY≤18446744073709551615:=iC _ _
 refine fw (.int .u64 ((aZ a.bG a.aY:Nat):Int)) (yS (e:=IntKind.u64.wrap (((BitVec.ofInt 64 ((a.bG:Nat):Int) ||| BitVec.ofInt 64 ((a.aY:Nat):Int)).toNat:Nat):Int)) yk (gJ _)) (Kz (.pointer (some ⟨d,8,none⟩)) (Lz (.int .u64 ((a.bF:Nat):Int)) b 0 Tryz.isAgg22 ?_))
 have W:aZ (aZ a.bG a.aY) a.bF≤18446744073709551615:=iC _ _
 refine fw (.int .u64 ((aZ (aZ a.bG a.aY) a.bF:Nat):Int)) (yS (e:=IntKind.u64.wrap (((BitVec.ofInt 64 ((aZ a.bG a.aY:Nat):Int) ||| BitVec.ofInt 64 ((a.bF:Nat):Int)).toNat:Nat):Int)) yk (gJ _)) (Kz (.pointer (some ⟨d,9,none⟩)) (Lz (.int .u64 ((a.bH:Nat):Int)) b 0 Tryz.isAgg22 ?_))
 have X:aZ (aZ (aZ a.bG a.aY) a.bF) a.bH≤18446744073709551615:=iC _ _
 refine fw (.int .u64 ((aZ (aZ (aZ a.bG a.aY) a.bF) a.bH:Nat):Int)) (yS (e:=IntKind.u64.wrap (((BitVec.ofInt 64 ((aZ (aZ a.bG a.aY) a.bF:Nat):Int) ||| BitVec.ofInt 64 ((a.bH:Nat):Int)).toNat:Nat):Int)) yk (gJ _)) (Kz (.pointer (some ⟨d,10,none⟩)) (Lz (.int .u64 ((a.bL:Nat):Int)) b 0 Tryz.isAgg22 ?_))
 have Y:aZ (aZ (aZ (aZ a.bG a.aY) a.bF) a.bH) a.bL≤18446744073709551615:=iC _ _
 refine fw (.int .u64 ((aZ (aZ (aZ (aZ a.bG a.aY) a.bF) a.bH) a.bL:Nat):Int)) (yS (e:=IntKind.u64.wrap (((BitVec.ofInt 64 ((aZ (aZ (aZ a.bG a.aY) a.bF) a.bH:Nat):Int) ||| BitVec.ofInt 64 ((a.bL:Nat):Int)).toNat:Nat):Int)) yk (gJ _)) (Kz (.pointer (some ⟨d,11,none⟩)) (Lz (.int .u64 ((a.aV:Nat):Int)) b 0 Tryz.isAgg22 ?_))
 have Z:aZ (aZ (aZ (aZ (aZ a.bG a.aY) a.bF) a.bH) a.bL) a.aV≤18446744073709551615:=iC _ _
 refine fw (.int .u64 ((aZ (aZ (aZ (aZ (aZ a.bG a.aY) a.bF) a.bH) a.bL) a.aV:Nat):Int)) (yS (e:=IntKind.u64.wrap (((BitVec.ofInt 64 ((aZ (aZ (aZ (aZ a.bG a.aY) a.bF) a.bH) a.bL:Nat):Int) ||| BitVec.ofInt 64 ((a.aV:Nat):Int)).toNat:Nat):Int)) yk (gJ _)) (Kz (.pointer (some ⟨d,12,none⟩)) (Lz (.int .u64 ((a.bB:Nat):Int)) b 0 Tryz.isAgg22 ?_))
 have aa:aZ (aZ (aZ (aZ (aZ (aZ a.bG a.aY) a.bF) a.bH) a.bL) a.aV) a.bB≤18446744073709551615:=iC _ _
 refine fw (.int .u64 ((aZ (aZ (aZ (aZ (aZ (aZ a.bG a.aY) a.bF) a.bH) a.bL) a.aV) a.bB:Nat):Int)) (yS (e:=IntKind.u64.wrap (((BitVec.ofInt 64 ((aZ (aZ (aZ (aZ (aZ a.bG a.aY) a.bF) a.bH) a.bL) a.aV:Nat):Int) ||| BitVec.ofInt 64 ((a.bB:Nat):Int)).toNat:Nat):Int)) yk (gJ _)) (Kz (.pointer (some ⟨d,13,none⟩)) (Lz (.int .u64 ((a.aK:Nat):Int)) b 0 Tryz.isAgg22 ?_))
 have ae:aZ (aZ (aZ (aZ (aZ (aZ (aZ a.bG a.aY) a.bF) a.bH) a.bL) a.aV) a.bB) a.aK≤18446744073709551615:=iC _ _
 refine fw (.int .u64 ((aZ (aZ (aZ (aZ (aZ (aZ (aZ a.bG a.aY) a.bF) a.bH) a.bL) a.aV) a.bB) a.aK:Nat):Int)) (yS (e:=IntKind.u64.wrap (((BitVec.ofInt 64 ((aZ (aZ (aZ (aZ (aZ (aZ a.bG a.aY) a.bF) a.bH) a.bL) a.aV) a.bB:Nat):Int) ||| BitVec.ofInt 64 ((a.aK:Nat):Int)).toNat:Nat):Int)) yk (gJ _)) (Kz (.pointer (some ⟨d,14,none⟩)) (Lz (.int .u64 ((a.xN:Nat):Int)) b 0 Tryz.isAgg22 ?_))
 have ag:aZ (aZ (aZ (aZ (aZ (aZ (aZ (aZ a.bG a.aY) a.bF) a.bH) a.bL) a.aV) a.bB) a.aK) a.xN≤18446744073709551615:=iC _ _
 refine fw (.int .u64 ((aZ (aZ (aZ (aZ (aZ (aZ (aZ (aZ a.bG a.aY) a.bF) a.bH) a.bL) a.aV) a.bB) a.aK) a.xN:Nat):Int)) (yS (e:=IntKind.u64.wrap (((BitVec.ofInt 64 ((aZ (aZ (aZ (aZ (aZ (aZ (aZ a.bG a.aY) a.bF) a.bH) a.bL) a.aV) a.bB) a.aK:Nat):Int) ||| BitVec.ofInt 64 ((a.xN:Nat):Int)).toNat:Nat):Int)) yk (gJ _)) (Ar rfl (Kz (.pointer (some ⟨d,18,none⟩)) (Lz (.slice l a.ax.ls.length m) b 0 Tryz.isAgg25 (Kz (.int .i64 ((a.ax.ls.length:Nat):Int)) (Kz (.pointer (some ⟨d,19,none⟩)) (Lz (.slice n a.ah.ls.length o) b 0 Tryz.isAgg26 (Kz (.int .i64 ((a.ah.ls.length:Nat):Int)) (fw (.int .i64 ((a.ax.ls.length+a.ah.ls.length:Nat):Int)) (yS (e:=IntKind.i64.wrap (((a.ax.ls.length:Nat):Int)+((a.ah.ls.length:Nat):Int))) yk (by rw [BI _ (by omega)]; omega)) (Kz (.pointer (some ⟨d,20,none⟩)) (Lz (.slice p a.ai.ls.length q) b 0 Tryz.isAgg27 (Kz (.int .i64 ((a.ai.ls.length:Nat):Int)) (fw (.int .i64 (((a.ax.ls.length+a.ah.ls.length)+a.ai.ls.length:Nat):Int)) (yS (e:=IntKind.i64.wrap (((a.ax.ls.length+a.ah.ls.length:Nat):Int)+((a.ai.ls.length:Nat):Int))) yk (by rw [BI _ (by omega)]; omega)) (Ar rfl (Mz rfl (Kz (.bool (decide (((aZ (aZ (aZ (aZ (aZ (aZ (aZ (aZ a.bG a.aY) a.bF) a.bH) a.bL) a.aV) a.bB) a.aK) a.xN:Nat):Int)=0))) (Mz rfl ?_))))))))))))))))
 by_cases g:((aZ (aZ (aZ (aZ (aZ (aZ (aZ (aZ a.bG a.aY) a.bF) a.bH) a.bL) a.aV) a.bB) a.aK) a.xN:Nat):Int)=0
 refine gw (.int .i64 (((a.ax.ls.length+a.ah.ls.length)+a.ai.ls.length:Nat):Int)) (dT g) (yO rfl) (Gz (.bool (decide ((((a.ax.ls.length+a.ah.ls.length)+a.ai.ls.length:Nat):Int)=0))) (dT g) (fw (.bool (decide ((((a.ax.ls.length+a.ah.ls.length)+a.ai.ls.length:Nat):Int)=0))) (yN rfl (dT g) rfl) (Mz rfl ?_)))
 by_cases f:(((a.ax.ls.length+a.ah.ls.length)+a.ai.ls.length:Nat):Int)=0
 refine Gz (.pointer (some ⟨d,3,none⟩)) (dT f) (Gl (.int .i64 a.aQ) (dT f) b 0 Tryz.isAgg3 (Gz (.bool (decide (a.aQ=0))) (dT f) (fw (.bool (decide (a.aQ=0))) (yN rfl (dT f) rfl) (Mz rfl ?_))))
 by_cases h:a.aQ=0
 refine Gz (.pointer (some ⟨d,4,none⟩)) (dT h) (Gl (.int .i64 a.bu) (dT h) b 0 Tryz.isAgg3 (Gz (.bool (decide (a.bu=0))) (dT h) (fw (.bool (decide (a.bu=0))) (yN rfl (dT h) rfl) (Mz rfl ?_))))
 by_cases j:a.bu=0
 refine Gz (.pointer (some ⟨d,5,none⟩)) (dT j) (Gl (.int .i64 a.bO) (dT j) b 0 Tryz.isAgg3 (Gz (.bool (decide (a.bO=0))) (dT j) (fw (.bool (decide (a.bO=0))) (yN rfl (dT j) rfl) (Mz rfl ?_))))
 by_cases k:a.bO=0
 refine Gz (.pointer (some ⟨d,15,none⟩)) (dT k) (Gl (.bool a.bV) (dT k) b 0 Tryz.isAgg4 (Gz (.bool (!a.bV)) (dT k) (fw (.bool (!a.bV)) (yN rfl (dT k) rfl) (Mz rfl ?_))))
 rcases BL (a.bV) with i | i
 refine Sz (cn i) (Sz (cn i) (Sz (cn i) (Sz (cn i) (fw (.bool false) (yM rfl (cn i) rfl) (An rfl (rt (rs ?_)))))))
 have N:=b.pk []
 obtain rfl:_=false:=hr.symm.trans (et (ip g) (et (ip f) (et (ip h) (et (ip j) (et (ip k) (ip i))))))
 exact⟨rfl,N⟩
 refine Gz (.pointer (some ⟨d,16,none⟩)) (cn i) (Ga (bC.cells a.aG) (cn i) b 0 Tryz.isAgg24 Tryz.sizeOf24 (Gz (.agg #[.string ⟨List.toArray ([])⟩, .string ⟨List.toArray ([])⟩]) (cn i) (gw (.bool (decide ((a.aG.aD=([]))∧(a.aG.aH=([]))))) (cn i) (z8 rfl rfl (by kernel_rfl) rfl (fD.struct Tryz.underlying24 (by kernel_rfl) (zK (eF.cons (u:= .string ⟨List.toArray a.aG.aD⟩) (v:= .string ⟨List.toArray ([])⟩) (by decide) (fun _=>by kernel_rfl) (fun _=>by kernel_rfl) (fD.string Tryz.underlying9) (eF.cons (u:= .string ⟨List.toArray a.aG.aH⟩) (v:= .string ⟨List.toArray ([])⟩) (by decide) (fun _=>by kernel_rfl) (fun _=>by kernel_rfl) (fD.string Tryz.underlying9) (eF.nil.up (BJ _)))) ((congrArg (decide (a.aG.aD=([])) && ·) jH).trans eu)))) (fw (.bool (decide ((a.aG.aD=([]))∧(a.aG.aH=([]))))) (yN rfl (cn i) rfl) (An rfl (rt (rs ?_)))))))
 have O:=b.pk []
 obtain rfl:_=decide ((a.aG.aD=([]))∧(a.aG.aH=([]))):=hr.symm.trans (et (ip g) (et (ip f) (et (ip h) (et (ip j) (et (ip k) (dz i))))))
 exact⟨rfl,O⟩
 refine Sz (dF k) (Sz (dF k) (Sz (dF k) (fw (.bool false) (yM rfl (dF k) rfl) (Mz rfl (Sz rfl (Sz rfl (Sz rfl (Sz rfl (fw (.bool false) (yM rfl rfl rfl) (An rfl (rt (rs ?_))))))))))))
 have P:=b.pk []
 obtain rfl:_=false:=hr.symm.trans (et (ip g) (et (ip f) (et (ip h) (et (ip j) (iN k)))))
 exact⟨rfl,P⟩
 refine Sz (dF j) (Sz (dF j) (Sz (dF j) (fw (.bool false) (yM rfl (dF j) rfl) (Mz rfl (Sz rfl (Sz rfl (Sz rfl (fw (.bool false) (yM rfl rfl rfl) (Mz rfl (Sz rfl (Sz rfl (Sz rfl (Sz rfl (fw (.bool false) (yM rfl rfl rfl) (An rfl (rt (rs ?_)))))))))))))))))
 have Q:=b.pk []
 obtain rfl:_=false:=hr.symm.trans (et (ip g) (et (ip f) (et (ip h) (iN j))))
 exact⟨rfl,Q⟩
 refine Sz (dF h) (Sz (dF h) (Sz (dF h) (fw (.bool false) (yM rfl (dF h) rfl) (Mz rfl (Sz rfl (Sz rfl (Sz rfl (fw (.bool false) (yM rfl rfl rfl) (Mz rfl (Sz rfl (Sz rfl (Sz rfl (fw (.bool false) (yM rfl rfl rfl) (Mz rfl (Sz rfl (Sz rfl (Sz rfl (Sz rfl (fw (.bool false) (yM rfl rfl rfl) (An rfl (rt (rs ?_))))))))))))))))))))))
 have R:=b.pk []
 obtain rfl:_=false:=hr.symm.trans (et (ip g) (et (ip f) (iN h)))
 exact⟨rfl,R⟩
 refine Sz (dF f) (Sz (dF f) (Sz (dF f) (fw (.bool false) (yM rfl (dF f) rfl) (Mz rfl (Sz rfl (Sz rfl (Sz rfl (fw (.bool false) (yM rfl rfl rfl) (Mz rfl (Sz rfl (Sz rfl (Sz rfl (fw (.bool false) (yM rfl rfl rfl) (Mz rfl (Sz rfl (Sz rfl (Sz rfl (fw (.bool false) (yM rfl rfl rfl) (Mz rfl (Sz rfl (Sz rfl (Sz rfl (Sz rfl (fw (.bool false) (yM rfl rfl rfl) (An rfl (rt (rs ?_)))))))))))))))))))))))))))
 have S:=b.pk []
 obtain rfl:_=false:=hr.symm.trans (et (ip g) (iN f))
 exact⟨rfl,S⟩
 refine Sz (dF g) (Sz (dF g) (fw (.bool false) (yM rfl (dF g) rfl) (Mz rfl (Sz rfl (Sz rfl (Sz rfl (fw (.bool false) (yM rfl rfl rfl) (Mz rfl (Sz rfl (Sz rfl (Sz rfl (fw (.bool false) (yM rfl rfl rfl) (Mz rfl (Sz rfl (Sz rfl (Sz rfl (fw (.bool false) (yM rfl rfl rfl) (Mz rfl (Sz rfl (Sz rfl (Sz rfl (fw (.bool false) (yM rfl rfl rfl) (Mz rfl (Sz rfl (Sz rfl (Sz rfl (Sz rfl (fw (.bool false) (yM rfl rfl rfl) (An rfl (rt (rs ?_)))))))))))))))))))))))))))))))
 have T:=b.pk []
 obtain rfl:_=false:=hr.symm.trans (iN g)
 exact⟨rfl,T⟩
structure RD where
 xB:Sv UInt8
 xE:Int
def RD.cells (x:RD):List Value:= [.slice x.xB.A x.xB.ls.length x.xB.c, .int .i64 x.xE]
instance:Bk RD:=⟨fun x _=>bk x.xB+(bk x.xE+(0))⟩
theorem RD.len:∀ x,(RD.cells x).length=2:=fun _=>rfl
theorem RD.one:∀ x, ∀ u ∈ RD.cells x,u.oneCell'=true:=fun x u hu=>by
 simp only [RD.cells,List.mem_cons,List.not_mem_nil,or_false] at hu
 rcases hu with rfl | rfl <;> rfl
def BG (w:World) (x:RD):Prop:=(nO w 1 1 eB (fun _=>True) x.xB)∧((-9223372036854775808)≤x.xE∧x.xE≤9223372036854775807)
instance:Inhabited RD:=⟨⟨default,default⟩⟩
structure RT where
 xB:Ll UInt8
 xE:Int
instance:Inhabited RT:=⟨⟨default,default⟩⟩
def BD (x:RD):RT:=⟨⟨x.xB.ls⟩,x.xE⟩
def BF (x:RD):List HP:= [row x.xB.A x.xB.ls.length x.xB.c (List.flatMap eB x.xB.ls) 5 1]
theorem xm:Elem Tryz.prog 141 9 1 16:=kT (z:= .string ⟨List.toArray ([])⟩) Tryz.underlying141 (by kernel_rfl) rfl (by decide)
structure jl where
 ag:Sv UInt8
 az:Int
def jl.cells (x:jl):List Value:= [.slice x.ag.A x.ag.ls.length x.ag.c, .int .i64 x.az]
instance:Bk jl:=⟨fun x _=>bk x.ag+(bk x.az+(0))⟩
theorem jl.len:∀ x,(jl.cells x).length=2:=fun _=>rfl
theorem jl.one:∀ x, ∀ u ∈ jl.cells x,u.oneCell'=true:=fun x u hu=>by
 simp only [jl.cells,List.mem_cons,List.not_mem_nil,or_false] at hu
 rcases hu with rfl | rfl <;> rfl
def Bp (w:World) (x:jl):Prop:=(nO w 1 1 eB (fun _=>True) x.ag)∧((-9223372036854775808)≤x.az∧x.az≤9223372036854775807)
instance:Inhabited jl:=⟨⟨default,default⟩⟩
structure ReaderT where
 ag:Ll UInt8
 az:Int
instance:Inhabited ReaderT:=⟨⟨default,default⟩⟩
def Bl (x:jl):ReaderT:=⟨⟨x.ag.ls⟩,x.az⟩
def Bn (x:jl):List HP:= [row x.ag.A x.ag.ls.length x.ag.c (List.flatMap eB x.ag.ls) 5 1]
theorem mh:Elem Tryz.prog 148 124 1 8:=kT (z:= .pointer none) Tryz.underlying148 (by kernel_rfl) rfl (by decide)
end Go.Proofs.YtccjclalngabhaaGreat
