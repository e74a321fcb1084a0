/-
 record: states' bytes.
-/
import Derived.Test.YtcnkpjheifkgnaaGreatRb
namespace Go.Proofs.YtcnkpjheifkgnaaGreat
set_option maxRecDepth 100000
open Go.RowKit
set_option linter.unusedVariables false
set_option linter.unusedSectionVars false
set_option linter.unusedSimpArgs false
def eD (e:bP):List aC→List UInt8→(List UInt8)
  | [],a=>a
  | c::d,a=>bnd (gJ (aK.mk (Ll.mk a)) c) fun b=>eD e d b.xb.ls
def eF (e:bP):List fo→List UInt8→(List UInt8)
  | [],a=>a
  | b::d,a=>bnd (jh (aK.mk (Ll.mk a)) (fo.mk b.aV (Ll.mk b.aI.ls))) fun c=>eF e d c.xb.ls
def eG (e:bP):List Nat→List UInt8→(List UInt8)
  | [],a=>a
  | c::d,a=>bnd (av (aK.mk (Ll.mk a)) c) fun b=>eG e d b.xb.ls
def fV (a:bP):(List UInt8) × Int:=
 bnd (bi a) fun b=>if b=0 then bnd (av (aK.mk (Ll.mk ([83]))) (Int.toNat (IntKind.u64.wrap a.iZ))) fun q=>bnd (av q a.az) fun r=>bnd (av r a.bC) fun s=>bnd (av s a.aS) fun c=>bnd (av c a.bA) fun d=>bnd (av d a.ag.ls.length) fun e=>bnd (eD a a.ag.ls e.xb.ls) fun sLrbtbbbbbbL=>bnd (av (aK.mk (Ll.mk sLrbtbbbbbbL)) a.aH.ls.length) fun f=>bnd (eF a a.aH.ls f.xb.ls) fun sLrbtbbbbbbLabL=>bnd (av (aK.mk (Ll.mk sLrbtbbbbbbLabL)) a.ax.ls.length) fun g=>bnd (eG a a.ax.ls g.xb.ls) fun sLrbtbbbbbbLabLabL=>bnd (av (aK.mk (Ll.mk sLrbtbbbbbbLabLabL)) a.iQ) fun h=>bnd (av h a.dM) fun i=>bnd (bv i a.bz.aJ) fun j=>bnd (bv j a.bz.aO) fun k=>bnd (av k a.bg.bA) fun l=>bnd (av l a.bg.bG) fun m=>bnd (av m a.bg.dR) fun n=>bnd (bv n a.bg.aR.aJ) fun o=>bnd (bv o a.bg.aR.aO) fun p=>(p.xb.ls,0) else([],b)
set_option maxHeartbeats 4000000 in
theorem kJ (w:World) (D:Nat→Prop) (a:bP) (d:Option Addr) (d9 h:Nat) (f:Option Addr) (ed j:Nat) (Z:List aL) (g:Option Addr) (ek l:Nat) (r0:List UInt8) (r1:Int) (H:Own w D w []) (fM:d9=a.ag.ls.length) (U:Ro w D fun w'=>bu w' 2 d a.ag.ls.length (List.flatMap aC.cells a.ag.ls)) (lX:a.ag.ls.length≤h∧a.ag.ls.length≤9223372036854775807) (aG:List.map yS Z=a.aH.ls) (fO:ed=a.aH.ls.length) (V:Ro w D fun w'=>bu w' 2 f a.aH.ls.length (List.flatMap aL.cells Z)) (lY:a.aH.ls.length≤j∧a.aH.ls.length≤9223372036854775807) (W:∀ x ∈ Z,Ro w D (fun w'=>bu w' 6 x.aI.A x.aI.ls.length (List.flatMap aW.cells x.aI.ls))∧(x.aI.ls.length≤x.aI.c∧x.aI.ls.length≤9223372036854775807)) (fP:ek=a.ax.ls.length) (X:Ro w D fun w'=>bu w' 1 g a.ax.ls.length (List.flatMap (eN .u64) a.ax.ls)) (lZ:a.ax.ls.length≤l∧a.ax.ls.length≤9223372036854775807) (qN:a.ag.ls.length≤140737488355328∧a.aH.ls.length≤140737488355328∧a.ax.ls.length≤140737488355328) (l5:o8 a) (hr:fV a=(r0,r1)):
    Calls Tryz.prog 7 #[.agg (bF a.iZ a.az a.bC a.aS a.bA d d9 h f ed j g ek l a.iQ a.dM a.bz.aJ a.bz.aO a.bg.bA a.bg.bG a.bg.dR a.bg.aR.aJ a.bg.aR.aO).toArray] w (dC fun v w'=> ∃ (B0:Option Addr) (b0:Nat),v= .tuple #[.slice B0 r0.length b0, .int .i64 r1]∧Own w D w' [row B0 r0.length b0 (List.flatMap eB r0) 5 1]∧(r0.length≤100000)):=by
 subst fM fO fP
 have hdl0x1:=bV aG
 refine xU (args:= [.agg (dL a d h f j g l).toArray]) Tryz.func7 rfl rfl rfl ?_
 show Wp _ _ _ [(0, .agg (dL a d h f j g l).toArray)] _ _
 refine sr ?_
 refine dG (dL a d h f j g l) 31 H ?_
 intro m qO jH
 refine Az rfl (An rfl (xV (sr (La (dL a d h f j g l) jH 0 Tryz.isAgg31 Tryz.sizeOf31 ?_))))
 obtain⟨bB,aR⟩:∃ q,bi a=q:=⟨_,rfl⟩
 obtain⟨qP,jI,aS,jJ,oC⟩:=yc jH
 refine cl Tryz.call11 (kR _ _ a d a.ag.ls.length h f a.aH.ls.length j Z g a.ax.ls.length l bB jI rfl (aS _ U) (show a.ag.ls.length≤h∧a.ag.ls.length≤9223372036854775807 from by omega) aG rfl (aS _ V) (show a.aH.ls.length≤j∧a.aH.ls.length≤9223372036854775807 from by omega) (fun x9 h9=>⟨aS _ (W x9 h9).1,(W x9 h9).2⟩) rfl (aS _ X) (show a.ax.ls.length≤l∧a.ax.ls.length≤9223372036854775807 from by omega) (by first | omega | (dsimp only; omega) | (simp only [List.length_nil]; omega) | decide) aR) ?_
 rintro _ l6 ⟨rfl,jM⟩
 have jN:=jJ _ _ jM
 refine Ar rfl (Mz rfl (fw (.bool (decide (¬ (bB=0)))) (yJ (e:= !(decide (bB=0))) yk decide_not.symm) (nt ?_)))
 by_cases dW:bB=0
 refine jF (dF (Ba dW)) (sk (sr ?_))
 have hsm35:=sj (by rw [aR]; omega) l5
 have oG:a.ag.ls.length≤6:=hsm35.1
 have oH:a.aH.ls.length≤6:=hsm35.2.2.1
 have oI:a.ax.ls.length≤64:=hsm35.2.2.2.2.1
 have oJ:a.bz.aJ.length≤12∧a.bz.aO.length≤12∧a.bg.aR.aJ.length≤12∧a.bg.aR.aO.length≤12:=hsm35.2.2.2.2.2.2.1
 have oK:a.az≤18446744073709551615:=hsm35.2.2.2.2.2.2.2.1
 have oL:a.bC≤18446744073709551615:=hsm35.2.2.2.2.2.2.2.2.1
 have oM:a.aS≤18446744073709551615:=hsm35.2.2.2.2.2.2.2.2.2.1
 have oN:a.bA≤18446744073709551615:=hsm35.2.2.2.2.2.2.2.2.2.2.1
 have oO:a.iQ≤18446744073709551615:=hsm35.2.2.2.2.2.2.2.2.2.2.2.1
 have oP:a.dM≤18446744073709551615:=hsm35.2.2.2.2.2.2.2.2.2.2.2.2.1
 have oQ:a.bg.bA≤18446744073709551615:=hsm35.2.2.2.2.2.2.2.2.2.2.2.2.2.1
 have oU:a.bg.bG≤18446744073709551615:=hsm35.2.2.2.2.2.2.2.2.2.2.2.2.2.2.1
 have oV:a.bg.dR≤18446744073709551615:=hsm35.2.2.2.2.2.2.2.2.2.2.2.2.2.2.2
 refine jR [.int .u8 83] 5 1 1 jN ?_
 intro dX qQ fQ
 replace fQ:=yR (y:=row dX 1 1 (List.flatMap eB ([83])) 5 1) rfl fQ
 refine Kz (.agg #[.slice dX 1 1]) ?_
 refine dG [.slice dX 1 1] 57 fQ ?_
 intro b qR jO
 refine Ar rfl (Mz rfl (Kz (.pointer (some ⟨m,0,none⟩)) (Lz (.int .i64 a.iZ) jO 2 Tryz.isAgg3 ?_)))
 refine WL.do rfl (yC Tryz.call19 rfl ?_ (fun _ _ k=>k))
 refine xU (args:= [.pointer (some ⟨b,0,none⟩), .int .i64 a.iZ]) Tryz.func19 rfl rfl rfl ?_
 show Wp _ _ _ [(0, .pointer (some ⟨b,0,none⟩)),(1, .int .i64 a.iZ)] _ _
 refine xS (Mz rfl (Mz rfl ?_))
 have oW:Int.toNat (IntKind.u64.wrap a.iZ)≤18446744073709551615:=jG _
 refine fw (.int .u64 ((Int.toNat (IntKind.u64.wrap a.iZ):Nat):Int)) (ym (e:=IntKind.u64.wrap a.iZ) yk (fJ _)) ?_
 obtain⟨bC,eu⟩:∃ q,av (aK.mk (Ll.mk ([83]))) (Int.toNat (IntKind.u64.wrap a.iZ))=q:=⟨_,rfl⟩
 obtain⟨qU,jP,oZ,jQ,o5⟩:=yu jO
 refine cl Tryz.call21 (aN _ _ b (aK.mk (Ll.mk ([83]))) dX 1 (Int.toNat (IntKind.u64.wrap a.iZ)) bC jP (by first | omega | (dsimp only; omega) | (dsimp only [List.length_cons,List.length_nil]; omega)) eu) ?_
 rintro _ qV ⟨l7,l8,rfl,jS,eH⟩
 have bA:=jQ _ _ jS
 have o6:=bA.rowC (i:=1) rfl
 replace eH:bC.xb.ls.length≤1+10:=eH
 refine xY (yA (res0 rfl) (ns (Mz rfl (Kz (.func (.func 21) #[.pointer (some ⟨b,0,none⟩)] #[]) (Kz (.pointer (some ⟨m,1,none⟩)) (Lz (.int .u64 ((a.az:Nat):Int)) bA 2 Tryz.isAgg22 (Kz (.pointer (some ⟨m,2,none⟩)) (Lz (.int .u64 ((a.bC:Nat):Int)) bA 2 Tryz.isAgg22 (Kz (.pointer (some ⟨m,3,none⟩)) (Lz (.int .u64 ((a.aS:Nat):Int)) bA 2 Tryz.isAgg22 (Kz (.pointer (some ⟨m,4,none⟩)) (Lz (.int .u64 ((a.bA:Nat):Int)) bA 2 Tryz.isAgg22 ?_))))))))))))
 refine jR [.int .u64 ((a.az:Nat):Int), .int .u64 ((a.bC:Nat):Int), .int .u64 ((a.aS:Nat):Int), .int .u64 ((a.bA:Nat):Int)] 22 1 4 bA ?_
 intro z qW bD
 replace bD:=yR (y:=row z 4 4 (List.flatMap (eN .u64) ([a.az,a.bC,a.aS,a.bA])) 22 1) rfl bD
 refine WL.do rfl (yC Tryz.call20 rfl ?_ (fun _ _ k=>k))
 refine xU (args:= [.func (.func 21) #[.pointer (some ⟨b,0,none⟩)] #[], .slice z 4 4]) Tryz.func20 rfl rfl rfl ?_
 show Wp _ _ _ [(0, .func (.func 21) #[.pointer (some ⟨b,0,none⟩)] #[]),(1, .slice z 4 4)] _ _
 refine sr (Mz rfl (Kz (.int .i64 4) (Mn rfl (bo (zb 200 (sr (Kz (.bool true) (nt (xV (jt (sk (xV (bo (sr ?_))))))))))))))
 have jU:([a.az,a.bC,a.aS,a.bA]:List Nat)[0]? =some a.az:=rfl
 refine fw (.pointer (some ⟨ab z,ao z+0 *1,none⟩)) (yh (jL) rfl rfl ((bD.rds (i:=0) rfl).addr (i:=0) (by omega)) (by omega)) (fw (.int .u64 ((a.az:Nat):Int)) (yl rfl (bH.one Tryz.isAgg22 (((bD.rds (i:=0) rfl).elem gW jU (by decide)).at_ (k:=0) rfl))) (An rfl (xS (Mz rfl (Mz rfl ?_)))))
 have l9:=bD.pk [1,2,0,3]
 obtain⟨bE,eO⟩:∃ q,av bC a.az=q:=⟨_,rfl⟩
 obtain⟨qX,jV,o7,jW,o9⟩:=yu l9
 refine WL.do rfl (yB Tryz.call21 rfl rfl (aN _ _ b bC l7 l8 a.az bE jV (by first | omega | (dsimp only; omega) | (dsimp only [List.length_cons,List.length_nil]; omega)) eO) ?_)
 rintro _ qY ⟨ma,mf,rfl,jX,eP⟩
 have dY:=jW _ _ jX
 have pg:=dY.rowC (i:=1) rfl
 replace eP:bE.xb.ls.length≤bC.xb.ls.length+10:=eP
 refine xY (bN (yg (xS (Kz (.int .i64 1) (Mz rfl (xY (yN [(8, .int .i64 1),(7, .int .i64 4),(6, .slice z 4 4),(0, .func (.func 21) #[.pointer (some ⟨b,0,none⟩)] #[])] ⟨rfl,rfl,rfl,rfl,trivial⟩ (sr (Kz (.bool true) (nt (xV (jt (sk (xV (bo (sr ?_))))))))))))))))
 have jY:([a.az,a.bC,a.aS,a.bA]:List Nat)[1]? =some a.bC:=rfl
 refine fw (.pointer (some ⟨ab z,ao z+1 *1,none⟩)) (yh (jL) rfl rfl ((dY.rds (i:=2) rfl).addr (i:=1) (by omega)) (by omega)) (fw (.int .u64 ((a.bC:Nat):Int)) (yl rfl (bH.one Tryz.isAgg22 (((dY.rds (i:=2) rfl).elem gW jY (by decide)).at_ (k:=0) rfl))) (An rfl (xS (Mz rfl (Mz rfl ?_)))))
 obtain⟨bG,eQ⟩:∃ q,av bE a.bC=q:=⟨_,rfl⟩
 obtain⟨qZ,j3,pq,j4,pu⟩:=yu dY
 refine WL.do rfl (yB Tryz.call21 rfl rfl (aN _ _ b bE ma mf a.bC bG j3 (by first | omega | (dsimp only; omega) | (dsimp only [List.length_cons,List.length_nil]; omega)) eQ) ?_)
 rintro _ q8 ⟨j5,j6,rfl,kg,bI⟩
 have dZ:=j4 _ _ kg
 have mg:=dZ.rowC (i:=1) rfl
 replace bI:bG.xb.ls.length≤bE.xb.ls.length+10:=bI
 refine xY (bN (yg (xS (Kz (.int .i64 2) (Mz rfl (xY (yN [(8, .int .i64 2),(7, .int .i64 4),(6, .slice z 4 4),(0, .func (.func 21) #[.pointer (some ⟨b,0,none⟩)] #[])] ⟨rfl,rfl,rfl,rfl,trivial⟩ (sr (Kz (.bool true) (nt (xV (jt (sk (xV (bo (sr ?_))))))))))))))))
 have fT:([a.az,a.bC,a.aS,a.bA]:List Nat)[2]? =some a.aS:=rfl
 refine fw (.pointer (some ⟨ab z,ao z+2 *1,none⟩)) (yh (jL) rfl rfl ((dZ.rds (i:=2) rfl).addr (i:=2) (by omega)) (by omega)) (fw (.int .u64 ((a.aS:Nat):Int)) (yl rfl (bH.one Tryz.isAgg22 (((dZ.rds (i:=2) rfl).elem gW fT (by decide)).at_ (k:=0) rfl))) (An rfl (xS (Mz rfl (Mz rfl ?_)))))
 obtain⟨aa,bJ⟩:∃ q,av bG a.aS=q:=⟨_,rfl⟩
 obtain⟨pz,fZ,mh,gm,mi⟩:=yu dZ
 refine WL.do rfl (yB Tryz.call21 rfl rfl (aN _ _ b bG j5 j6 a.aS aa fZ (by first | omega | (dsimp only; omega) | (dsimp only [List.length_cons,List.length_nil]; omega)) bJ) ?_)
 rintro _ pE ⟨ko,kr,rfl,gp,bK⟩
 have aT:=gm _ _ gp
 have mo:=aT.rowC (i:=1) rfl
 replace bK:aa.xb.ls.length≤bG.xb.ls.length+10:=bK
 refine xY (bN (yg (xS (Kz (.int .i64 3) (Mz rfl (xY (yN [(8, .int .i64 3),(7, .int .i64 4),(6, .slice z 4 4),(0, .func (.func 21) #[.pointer (some ⟨b,0,none⟩)] #[])] ⟨rfl,rfl,rfl,rfl,trivial⟩ (sr (Kz (.bool true) (nt (xV (jt (sk (xV (bo (sr ?_))))))))))))))))
 have gq:([a.az,a.bC,a.aS,a.bA]:List Nat)[3]? =some a.bA:=rfl
 refine fw (.pointer (some ⟨ab z,ao z+3 *1,none⟩)) (yh (jL) rfl rfl ((aT.rds (i:=2) rfl).addr (i:=3) (by omega)) (by omega)) (fw (.int .u64 ((a.bA:Nat):Int)) (yl rfl (bH.one Tryz.isAgg22 (((aT.rds (i:=2) rfl).elem gW gq (by decide)).at_ (k:=0) rfl))) (An rfl (xS (Mz rfl (Mz rfl ?_)))))
 obtain⟨af,bL⟩:∃ q,av aa a.bA=q:=⟨_,rfl⟩
 obtain⟨pF,gu,mq,gy,mr⟩:=yu aT
 refine WL.do rfl (yB Tryz.call21 rfl rfl (aN _ _ b aa ko kr a.bA af gu (by first | omega | (dsimp only; omega) | (dsimp only [List.length_cons,List.length_nil]; omega)) bL) ?_)
 rintro _ pG ⟨ku,kv,rfl,gz,bM⟩
 have bO:=gy _ _ gz
 have mD:=bO.rowC (i:=1) rfl
 replace bM:af.xb.ls.length≤aa.xb.ls.length+10:=bM
 refine xY (bN (yg (xS (Kz (.int .i64 4) (Mz rfl (xY (yN [(8, .int .i64 4),(7, .int .i64 4),(6, .slice z 4 4),(0, .func (.func 21) #[.pointer (some ⟨b,0,none⟩)] #[])] ⟨rfl,rfl,rfl,rfl,trivial⟩ (sr (Kz (.bool false) (nt (xV (jf (Wp.exit (xX (xX (yx (yA (res0 rfl) (ns (Mz rfl (Kz (.pointer (some ⟨m,5,none⟩)) (Lz (.slice d a.ag.ls.length h) bO 3 Tryz.isAgg23 (Mz rfl (Kz (.func (.func 23) #[.pointer (some ⟨b,0,none⟩)] #[]) ?_)))))))))))))))))))))))
 refine WL.do rfl (yC Tryz.call22 rfl ?_ (fun _ _ k=>k))
 refine xU (args:= [.pointer (some ⟨b,0,none⟩), .slice d a.ag.ls.length h, .func (.func 23) #[.pointer (some ⟨b,0,none⟩)] #[]]) Tryz.func22 rfl rfl rfl ?_
 show Wp _ _ _ [(0, .pointer (some ⟨b,0,none⟩)),(1, .slice d a.ag.ls.length h),(2, .func (.func 23) #[.pointer (some ⟨b,0,none⟩)] #[])] _ _
 refine sr (Mz rfl (Mz rfl (Kz (.int .i64 ((a.ag.ls.length:Nat):Int)) ?_)))
 refine WL.do rfl (yC Tryz.call19 rfl ?_ (fun _ _ k=>k))
 refine xU (args:= [.pointer (some ⟨b,0,none⟩), .int .i64 ((a.ag.ls.length:Nat):Int)]) Tryz.func19 rfl rfl rfl ?_
 show Wp _ _ _ [(0, .pointer (some ⟨b,0,none⟩)),(1, .int .i64 ((a.ag.ls.length:Nat):Int))] _ _
 refine xS (Mz rfl (Mz rfl (fw (.int .u64 ((a.ag.ls.length:Nat):Int)) (ym (e:=IntKind.u64.wrap ((a.ag.ls.length:Nat):Int)) yk (IntWalk.u64_in _ (by omega))) ?_)))
 obtain⟨G,bQ⟩:∃ q,av af a.ag.ls.length=q:=⟨_,rfl⟩
 obtain⟨pI,gB,mE,gF,mF⟩:=yu bO
 refine cl Tryz.call21 (aN _ _ b af ku kv a.ag.ls.length G gB (by first | omega | (dsimp only; omega) | (dsimp only [List.length_cons,List.length_nil]; omega)) bQ) ?_
 rintro _ pJ ⟨kw,ky,rfl,gG,bR⟩
 have eT:=gF _ _ gG
 have mG:=eT.rowC (i:=1) rfl
 replace bR:G.xb.ls.length≤af.xb.ls.length+10:=bR
 refine xY (yA (res0 rfl) (nt (xS (Mz rfl (Mz rfl ?_)))))
 refine WL.do rfl (yC Tryz.call69 rfl ?_ (fun _ _ k=>k))
 refine xU (args:= [.func (.func 23) #[.pointer (some ⟨b,0,none⟩)] #[], .slice d a.ag.ls.length h]) Tryz.func69 rfl rfl rfl ?_
 show Wp _ _ _ [(0, .func (.func 23) #[.pointer (some ⟨b,0,none⟩)] #[]),(1, .slice d a.ag.ls.length h)] _ _
 refine sr (Mz rfl (Kz (.int .i64 ((a.ag.ls.length:Nat):Int)) (Mn rfl (bo ?_))))
 have kC:=eT.pk [0,2,3,1]
 obtain⟨eU,gH⟩:∃ q:(Nat × (Option Addr) × Nat × (List UInt8))→World→Prop,q=fun(i:Nat × (Option Addr) × Nat × (List UInt8)) w'=>Own w D w' [blk b [.slice i.2.1 i.2.2.2.length i.2.2.1] 57,row z 4 4 (List.flatMap (eN .u64) ([a.az,a.bC,a.aS,a.bA])) 22 1,blk m (dL a d h f j g l) 31,row i.2.1 i.2.2.2.length i.2.2.1 (List.flatMap eB i.2.2.2) 5 1]∧(i.1≤a.ag.ls.length∧((i.2.2.2.length:Nat):Int)≤((G.xb.ls.length:Nat):Int)+40 *((i.1:Nat):Int)∧eD a a.ag.ls G.xb.ls=eD a (List.drop i.1 a.ag.ls) i.2.2.2):=⟨_,rfl⟩
 have aH:∀ {o:Nat} {M:Option Addr} {N:Nat} {s:List UInt8} {w':World},eU (o,M,N,s) w'↔Own w D w' [blk b [.slice M s.length N] 57,row z 4 4 (List.flatMap (eN .u64) ([a.az,a.bC,a.aS,a.bA])) 22 1,blk m (dL a d h f j g l) 31,row M s.length N (List.flatMap eB s) 5 1]∧o≤a.ag.ls.length∧((s.length:Nat):Int)≤((G.xb.ls.length:Nat):Int)+40 *((o:Nat):Int)∧eD a a.ag.ls G.xb.ls=eD a (List.drop o a.ag.ls) s:=by intros; subst gH; exact Iff.rfl
 refine Wp.loop (fun i:Nat × (Option Addr) × Nat × (List UInt8)=> [(8, .int .i64 ((i.1:Nat):Int)),(7, .int .i64 ((a.ag.ls.length:Nat):Int)),(6, .slice d a.ag.ls.length h),(0, .func (.func 23) #[.pointer (some ⟨b,0,none⟩)] #[])]) eU (fun i=>a.ag.ls.length - i.1) (0,kw,ky,G.xb.ls) ⟨rfl,rfl,rfl,rfl,trivial⟩ (aH.2 ⟨kC,by omega,by omega,rfl⟩) ?_
 rintro ⟨o,M,N,s⟩ pK gI
 show Wp _ _ _ [(8, .int .i64 ((o:Nat):Int)),(7, .int .i64 ((a.ag.ls.length:Nat):Int)),(6, .slice d a.ag.ls.length h),(0, .func (.func 23) #[.pointer (some ⟨b,0,none⟩)] #[])] _ _
 obtain⟨O,mH,mI,bS⟩:=aH.1 gI
 refine sr (Kz (.bool (decide (((o:Nat):Int) < ((a.ag.ls.length:Nat):Int)))) (nt (xV ?_)))
 by_cases eX:((o:Nat):Int) < ((a.ag.ls.length:Nat):Int)
 obtain⟨K,aJ⟩:=fE (ls:=a.ag.ls) (i:=o) aC.len (by decide) (O.ro U) (by first | omega | (simp; done) | (simp; omega))
 have gK:K.aJ.length≤12:=hsm35.2.1 _ (List.mem_of_getElem? aJ)
 have gL:=drop_at aJ
 refine jT (dT eX) (sk (xV (bo (sr (fw (.pointer (some ⟨ab d,ao d+o *2,none⟩)) (yh (mX) rfl rfl ((O.ro U).addr (i:=o) (by omega)) (by omega)) (fw (.agg (aC.cells K).toArray) (yl rfl (yD (cs:=(aC.cells K)) Tryz.isAgg54 Tryz.sizeOf54 ((O.ro U).elem aC.len aJ (by decide)))) ?_))))))
 refine dG [.string ⟨List.toArray ([])⟩, .int .i64 0] 54 O ?_
 intro pM pO kD
 refine cZ (aC.cells K) 0 kD Tryz.sizeOf54 ?_
 intro pQ eY
 refine nt (xS (Mz rfl (La (aC.cells K) eY 0 Tryz.isAgg54 Tryz.sizeOf54 ?_)))
 have kE:=eY.pk [1,4,0,2,3]
 obtain⟨bT,bU⟩:∃ q,gJ (aK.mk (Ll.mk s)) K=q:=⟨_,rfl⟩
 obtain⟨pR,gM,mJ,gN,mM⟩:=yu kE
 refine WL.do rfl (yB Tryz.call23 rfl rfl (kz _ _ b (aK.mk (Ll.mk s)) M N K bT gM (by first | omega | (dsimp only; omega) | (dsimp only [List.length_cons,List.length_nil]; omega)) (by exact gK) bU) ?_)
 rintro _ pU ⟨kF,kG,rfl,gP,bW⟩
 have eZ:=gN _ _ gP
 have mO:=eZ.rowC (i:=1) rfl
 replace bW:bT.xb.ls.length≤s.length+40:=bW
 refine xY (bN (yg (xS (fw (.int .i64 ((o+1:Nat):Int)) (ym (e:=IntKind.i64.wrap (((o:Nat):Int)+1)) yk (by rw [A8 _ (by omega)]; omega)) (Mz rfl (xY ?_))))))
 have kH:=eZ.pk [0,3,4,1]
 exact yE (o+1,kF,kG,bT.xb.ls) ⟨rfl,rfl,rfl,rfl,trivial⟩ (aH.2 ⟨kH,by omega,by omega,et (bS) (et (congrArg (fun q=>eD a q s) gL) (ae bU))⟩) (by show a.ag.ls.length - (o+1) < a.ag.ls.length - o; omega)
 refine jF (dF eX) (Wp.exit (xX ?_))
 have gQ:eD a a.ag.ls G.xb.ls=s:=et (bS) (et (congrArg (fun q=>eD a q s) (fG (ls:=a.ag.ls) (i:=o) (by omega))) rfl)
 refine xX (yx (yA (res0 rfl) (xY (yA (res0 rfl) (ns (Mz rfl (Kz (.pointer (some ⟨m,6,none⟩)) (Lz (.slice f a.aH.ls.length j) O 2 Tryz.isAgg24 (Mz rfl (Kz (.func (.func 25) #[.pointer (some ⟨b,0,none⟩)] #[]) ?_))))))))))
 refine WL.do rfl (yC Tryz.call24 rfl ?_ (fun _ _ k=>k))
 refine xU (args:= [.pointer (some ⟨b,0,none⟩), .slice f a.aH.ls.length j, .func (.func 25) #[.pointer (some ⟨b,0,none⟩)] #[]]) Tryz.func24 rfl rfl rfl ?_
 show Wp _ _ _ [(0, .pointer (some ⟨b,0,none⟩)),(1, .slice f a.aH.ls.length j),(2, .func (.func 25) #[.pointer (some ⟨b,0,none⟩)] #[])] _ _
 refine sr (Mz rfl (Mz rfl (Kz (.int .i64 ((a.aH.ls.length:Nat):Int)) ?_)))
 refine WL.do rfl (yC Tryz.call19 rfl ?_ (fun _ _ k=>k))
 refine xU (args:= [.pointer (some ⟨b,0,none⟩), .int .i64 ((a.aH.ls.length:Nat):Int)]) Tryz.func19 rfl rfl rfl ?_
 show Wp _ _ _ [(0, .pointer (some ⟨b,0,none⟩)),(1, .int .i64 ((a.aH.ls.length:Nat):Int))] _ _
 refine xS (Mz rfl (Mz rfl (fw (.int .u64 ((a.aH.ls.length:Nat):Int)) (ym (e:=IntKind.u64.wrap ((a.aH.ls.length:Nat):Int)) yk (IntWalk.u64_in _ (by omega))) ?_)))
 have kI:=O.pk [0,3,1,2]
 obtain⟨I,bX⟩:∃ q,av (aK.mk (Ll.mk s)) a.aH.ls.length=q:=⟨_,rfl⟩
 obtain⟨pV,gT,mP,gU,mQ⟩:=yu kI
 refine cl Tryz.call21 (aN _ _ b (aK.mk (Ll.mk s)) M N a.aH.ls.length I gT (by first | omega | (dsimp only; omega) | (dsimp only [List.length_cons,List.length_nil]; omega)) bX) ?_
 rintro _ pW ⟨kK,kL,rfl,gV,bY⟩
 have fe:=gU _ _ gV
 have mR:=fe.rowC (i:=1) rfl
 replace bY:I.xb.ls.length≤s.length+10:=bY
 refine xY (yA (res0 rfl) (nt (xS (Mz rfl (Mz rfl ?_)))))
 refine WL.do rfl (yC Tryz.call70 rfl ?_ (fun _ _ k=>k))
 refine xU (args:= [.func (.func 25) #[.pointer (some ⟨b,0,none⟩)] #[], .slice f a.aH.ls.length j]) Tryz.func70 rfl rfl rfl ?_
 show Wp _ _ _ [(0, .func (.func 25) #[.pointer (some ⟨b,0,none⟩)] #[]),(1, .slice f a.aH.ls.length j)] _ _
 refine sr (Mz rfl (Kz (.int .i64 ((a.aH.ls.length:Nat):Int)) (Mn rfl (bo ?_))))
 have kM:=fe.pk [0,2,3,1]
 obtain⟨fq,gX⟩:∃ q:(Nat × (Option Addr) × Nat × (List UInt8))→World→Prop,q=fun(i:Nat × (Option Addr) × Nat × (List UInt8)) w'=>Own w D w' [blk b [.slice i.2.1 i.2.2.2.length i.2.2.1] 57,row z 4 4 (List.flatMap (eN .u64) ([a.az,a.bC,a.aS,a.bA])) 22 1,blk m (dL a d h f j g l) 31,row i.2.1 i.2.2.2.length i.2.2.1 (List.flatMap eB i.2.2.2) 5 1]∧(i.1≤a.aH.ls.length∧((i.2.2.2.length:Nat):Int)≤((I.xb.ls.length:Nat):Int)+3300 *((i.1:Nat):Int)∧eF a a.aH.ls I.xb.ls=eF a (List.drop i.1 a.aH.ls) i.2.2.2):=⟨_,rfl⟩
 have aM:∀ {p:Nat} {P:Option Addr} {Q:Nat} {t:List UInt8} {w':World},fq (p,P,Q,t) w'↔Own w D w' [blk b [.slice P t.length Q] 57,row z 4 4 (List.flatMap (eN .u64) ([a.az,a.bC,a.aS,a.bA])) 22 1,blk m (dL a d h f j g l) 31,row P t.length Q (List.flatMap eB t) 5 1]∧p≤a.aH.ls.length∧((t.length:Nat):Int)≤((I.xb.ls.length:Nat):Int)+3300 *((p:Nat):Int)∧eF a a.aH.ls I.xb.ls=eF a (List.drop p a.aH.ls) t:=by intros; subst gX; exact Iff.rfl
 refine Wp.loop (fun i:Nat × (Option Addr) × Nat × (List UInt8)=> [(8, .int .i64 ((i.1:Nat):Int)),(7, .int .i64 ((a.aH.ls.length:Nat):Int)),(6, .slice f a.aH.ls.length j),(0, .func (.func 25) #[.pointer (some ⟨b,0,none⟩)] #[])]) fq (fun i=>a.aH.ls.length - i.1) (0,kK,kL,I.xb.ls) ⟨rfl,rfl,rfl,rfl,trivial⟩ (aM.2 ⟨kM,by omega,by omega,rfl⟩) ?_
 rintro ⟨p,P,Q,t⟩ pX gY
 show Wp _ _ _ [(8, .int .i64 ((p:Nat):Int)),(7, .int .i64 ((a.aH.ls.length:Nat):Int)),(6, .slice f a.aH.ls.length j),(0, .func (.func 25) #[.pointer (some ⟨b,0,none⟩)] #[])] _ _
 obtain⟨R,mU,mV,bZ⟩:=aM.1 gY
 refine sr (Kz (.bool (decide (((p:Nat):Int) < ((a.aH.ls.length:Nat):Int)))) (nt (xV ?_)))
 by_cases fu:((p:Nat):Int) < ((a.aH.ls.length:Nat):Int)
 obtain⟨n,Y⟩:=fE (ls:=Z) (i:=p) aL.len (by decide) (R.ro V) (by first | omega | (simp; done) | (simp; omega))
 have cu:=jK aG Y
 have mW:=(W _ (List.mem_of_getElem? Y)).2
 have aO:(yS n).aV≤18446744073709551615∧List.length (yS n).aI.ls≤24∧∀ q ∈ (yS n).aI.ls,q.aY.length≤12∧q.aB.length≤16∧q.aJ.length≤12∧q.aO.length≤12:=hsm35.2.2.2.1 _ (List.mem_of_getElem? cu)
 have hz225p0:n.aV≤18446744073709551615:=by have q9:=aO.1; first | exact q9 | (simp only [yS,List.length_map] at q9; exact q9)
 have hz225p1:n.aI.ls.length≤24:=by have q9:=aO.2.1; first | exact q9 | (simp only [yS,List.length_map] at q9; exact q9)
 have ib:=drop_at cu
 refine jT (dT fu) (sk (xV (bo (sr (fw (.pointer (some ⟨ab f,ao f+p *2,none⟩)) (yh (qF) rfl rfl ((R.ro V).addr (i:=p) (by omega)) (by omega)) (fw (.agg (aL.cells n).toArray) (yl rfl (yD (cs:=(aL.cells n)) Tryz.isAgg66 Tryz.sizeOf66 ((R.ro V).elem aL.len Y (by decide)))) ?_))))))
 refine dG [.int .u64 0, .slice none 0 0] 66 R ?_
 intro pY p8 kN
 refine cZ (aL.cells n) 0 kN Tryz.sizeOf66 ?_
 intro p9 fA
 refine nt (xS (Mz rfl (La (aL.cells n) fA 0 Tryz.isAgg66 Tryz.sizeOf66 ?_)))
 have kP:=fA.pk [1,4,0,2,3]
 obtain⟨cz,cB⟩:∃ q,jh (aK.mk (Ll.mk t)) (fo.mk n.aV (Ll.mk n.aI.ls))=q:=⟨_,rfl⟩
 obtain⟨qa,ic,ig,ik,mY⟩:=yu kP
 refine WL.do rfl (yB Tryz.call25 rfl rfl (mK _ _ b (aK.mk (Ll.mk t)) P Q (fo.mk n.aV (Ll.mk n.aI.ls)) n.aI.A n.aI.ls.length n.aI.c cz ic rfl (ig _ (W _ (List.mem_of_getElem? Y)).1) (show n.aI.ls.length≤n.aI.c∧n.aI.ls.length≤9223372036854775807 from by omega) (by first | omega | (dsimp only; omega) | (dsimp only [List.length_cons,List.length_nil]; omega)) (by exact aO) cB) ?_)
 rintro _ qb ⟨kQ,kS,rfl,il,cK⟩
 have fB:=ik _ _ il
 have mZ:=fB.rowC (i:=1) rfl
 replace cK:cz.xb.ls.length≤t.length+3300:=cK
 refine xY (bN (yg (xS (fw (.int .i64 ((p+1:Nat):Int)) (ym (e:=IntKind.i64.wrap (((p:Nat):Int)+1)) yk (by rw [A8 _ (by omega)]; omega)) (Mz rfl (xY ?_))))))
 have kT:=fB.pk [0,3,4,1]
 exact yE (p+1,kQ,kS,cz.xb.ls) ⟨rfl,rfl,rfl,rfl,trivial⟩ (aM.2 ⟨kT,by omega,by omega,et (bZ) (et (congrArg (fun q=>eF a q t) ib) (ae cB))⟩) (by show a.aH.ls.length - (p+1) < a.aH.ls.length - p; omega)
 refine jF (dF fu) (Wp.exit (xX ?_))
 have iq:eF a a.aH.ls I.xb.ls=t:=et (bZ) (et (congrArg (fun q=>eF a q t) (fG (ls:=a.aH.ls) (i:=p) (by omega))) rfl)
 refine xX (yx (yA (res0 rfl) (xY (yA (res0 rfl) (ns (Mz rfl (Kz (.pointer (some ⟨m,7,none⟩)) (Lz (.slice g a.ax.ls.length l) R 2 Tryz.isAgg25 (Mz rfl (Kz (.func (.func 21) #[.pointer (some ⟨b,0,none⟩)] #[]) ?_))))))))))
 refine WL.do rfl (yC Tryz.call26 rfl ?_ (fun _ _ k=>k))
 refine xU (args:= [.pointer (some ⟨b,0,none⟩), .slice g a.ax.ls.length l, .func (.func 21) #[.pointer (some ⟨b,0,none⟩)] #[]]) Tryz.func26 rfl rfl rfl ?_
 show Wp _ _ _ [(0, .pointer (some ⟨b,0,none⟩)),(1, .slice g a.ax.ls.length l),(2, .func (.func 21) #[.pointer (some ⟨b,0,none⟩)] #[])] _ _
 refine sr (Mz rfl (Mz rfl (Kz (.int .i64 ((a.ax.ls.length:Nat):Int)) ?_)))
 refine WL.do rfl (yC Tryz.call19 rfl ?_ (fun _ _ k=>k))
 refine xU (args:= [.pointer (some ⟨b,0,none⟩), .int .i64 ((a.ax.ls.length:Nat):Int)]) Tryz.func19 rfl rfl rfl ?_
 show Wp _ _ _ [(0, .pointer (some ⟨b,0,none⟩)),(1, .int .i64 ((a.ax.ls.length:Nat):Int))] _ _
 refine xS (Mz rfl (Mz rfl (fw (.int .u64 ((a.ax.ls.length:Nat):Int)) (ym (e:=IntKind.u64.wrap ((a.ax.ls.length:Nat):Int)) yk (IntWalk.u64_in _ (by omega))) ?_)))
 have kU:=R.pk [0,3,1,2]
 obtain⟨J,cO⟩:∃ q,av (aK.mk (Ll.mk t)) a.ax.ls.length=q:=⟨_,rfl⟩
 obtain⟨qc,iw,ng,iy,ni⟩:=yu kU
 refine cl Tryz.call21 (aN _ _ b (aK.mk (Ll.mk t)) P Q a.ax.ls.length J iw (by first | omega | (dsimp only; omega) | (dsimp only [List.length_cons,List.length_nil]; omega)) cO) ?_
 rintro _ qd ⟨kV,kW,rfl,iA,df⟩
 have fC:=iy _ _ iA
 have nk:=fC.rowC (i:=1) rfl
 replace df:J.xb.ls.length≤t.length+10:=df
 refine xY (yA (res0 rfl) (nt (xS (Mz rfl (Mz rfl ?_)))))
 refine WL.do rfl (yC Tryz.call20 rfl ?_ (fun _ _ k=>k))
 refine xU (args:= [.func (.func 21) #[.pointer (some ⟨b,0,none⟩)] #[], .slice g a.ax.ls.length l]) Tryz.func20 rfl rfl rfl ?_
 show Wp _ _ _ [(0, .func (.func 21) #[.pointer (some ⟨b,0,none⟩)] #[]),(1, .slice g a.ax.ls.length l)] _ _
 refine sr (Mz rfl (Kz (.int .i64 ((a.ax.ls.length:Nat):Int)) (Mn rfl (bo ?_))))
 have kX:=fC.pk [0,2,3,1]
 obtain⟨fD,iB⟩:∃ q:(Nat × (Option Addr) × Nat × (List UInt8))→World→Prop,q=fun(i:Nat × (Option Addr) × Nat × (List UInt8)) w'=>Own w D w' [blk b [.slice i.2.1 i.2.2.2.length i.2.2.1] 57,row z 4 4 (List.flatMap (eN .u64) ([a.az,a.bC,a.aS,a.bA])) 22 1,blk m (dL a d h f j g l) 31,row i.2.1 i.2.2.2.length i.2.2.1 (List.flatMap eB i.2.2.2) 5 1]∧(i.1≤a.ax.ls.length∧((i.2.2.2.length:Nat):Int)≤((J.xb.ls.length:Nat):Int)+10 *((i.1:Nat):Int)∧eG a a.ax.ls J.xb.ls=eG a (List.drop i.1 a.ax.ls) i.2.2.2):=⟨_,rfl⟩
 have aP:∀ {r:Nat} {S:Option Addr} {T:Nat} {u:List UInt8} {w':World},fD (r,S,T,u) w'↔Own w D w' [blk b [.slice S u.length T] 57,row z 4 4 (List.flatMap (eN .u64) ([a.az,a.bC,a.aS,a.bA])) 22 1,blk m (dL a d h f j g l) 31,row S u.length T (List.flatMap eB u) 5 1]∧r≤a.ax.ls.length∧((u.length:Nat):Int)≤((J.xb.ls.length:Nat):Int)+10 *((r:Nat):Int)∧eG a a.ax.ls J.xb.ls=eG a (List.drop r a.ax.ls) u:=by intros; subst iB; exact Iff.rfl
 refine Wp.loop (fun i:Nat × (Option Addr) × Nat × (List UInt8)=> [(8, .int .i64 ((i.1:Nat):Int)),(7, .int .i64 ((a.ax.ls.length:Nat):Int)),(6, .slice g a.ax.ls.length l),(0, .func (.func 21) #[.pointer (some ⟨b,0,none⟩)] #[])]) fD (fun i=>a.ax.ls.length - i.1) (0,kV,kW,J.xb.ls) ⟨rfl,rfl,rfl,rfl,trivial⟩ (aP.2 ⟨kX,by omega,by omega,rfl⟩) ?_
 rintro ⟨r,S,T,u⟩ qf iC
 show Wp _ _ _ [(8, .int .i64 ((r:Nat):Int)),(7, .int .i64 ((a.ax.ls.length:Nat):Int)),(6, .slice g a.ax.ls.length l),(0, .func (.func 21) #[.pointer (some ⟨b,0,none⟩)] #[])] _ _
 obtain⟨L,nu,ny,dh⟩:=aP.1 iC
 refine sr (Kz (.bool (decide (((r:Nat):Int) < ((a.ax.ls.length:Nat):Int)))) (nt (xV ?_)))
 by_cases fF:((r:Nat):Int) < ((a.ax.ls.length:Nat):Int)
 obtain⟨aU,aQ⟩:=fE (ls:=a.ax.ls) (i:=r) gW (by decide) (L.ro X) (by first | omega | (simp; done) | (simp; omega))
 have nz:aU≤18446744073709551615:=hsm35.2.2.2.2.2.1 _ (List.mem_of_getElem? aQ)
 have iD:=drop_at aQ
 refine jT (dT fF) (sk (xV (bo (sr (fw (.pointer (some ⟨ab g,ao g+r *1,none⟩)) (yh (jL) rfl rfl ((L.ro X).addr (i:=r) (by omega)) (by omega)) (fw (.int .u64 ((aU:Nat):Int)) (yl rfl (bH.one Tryz.isAgg22 (((L.ro X).elem gW aQ (by decide)).at_ (k:=0) rfl))) (An rfl (xS (Mz rfl (Mz rfl ?_))))))))))
 have kY:=L.pk [0,3,1,2]
 obtain⟨di,dm⟩:∃ q,av (aK.mk (Ll.mk u)) aU=q:=⟨_,rfl⟩
 obtain⟨qg,iE,nA,iF,nC⟩:=yu kY
 refine WL.do rfl (yB Tryz.call21 rfl rfl (aN _ _ b (aK.mk (Ll.mk u)) S T aU di iE (by first | omega | (dsimp only; omega) | (dsimp only [List.length_cons,List.length_nil]; omega)) dm) ?_)
 rintro _ qh ⟨kZ,lc,rfl,iG,dn⟩
 have fH:=iF _ _ iG
 have nD:=fH.rowC (i:=1) rfl
 replace dn:di.xb.ls.length≤u.length+10:=dn
 refine xY (bN (yg (xS (fw (.int .i64 ((r+1:Nat):Int)) (ym (e:=IntKind.i64.wrap (((r:Nat):Int)+1)) yk (by rw [A8 _ (by omega)]; omega)) (Mz rfl (xY ?_))))))
 have lg:=fH.pk [0,2,3,1]
 exact yE (r+1,kZ,lc,di.xb.ls) ⟨rfl,rfl,rfl,rfl,trivial⟩ (aP.2 ⟨lg,by omega,by omega,et (dh) (et (congrArg (fun q=>eG a q u) iD) (ae dm))⟩) (by show a.ax.ls.length - (r+1) < a.ax.ls.length - r; omega)
 refine jF (dF fF) (Wp.exit (xX ?_))
 have iH:eG a a.ax.ls J.xb.ls=u:=et (dh) (et (congrArg (fun q=>eG a q u) (fG (ls:=a.ax.ls) (i:=r) (by omega))) rfl)
 refine xX (yx (yA (res0 rfl) (xY (yA (res0 rfl) (ns (Mz rfl (Kz (.func (.func 21) #[.pointer (some ⟨b,0,none⟩)] #[]) (Kz (.pointer (some ⟨m,8,none⟩)) (Lz (.int .u64 ((a.iQ:Nat):Int)) L 2 Tryz.isAgg22 (Kz (.pointer (some ⟨m,9,none⟩)) (Lz (.int .u64 ((a.dM:Nat):Int)) L 2 Tryz.isAgg22 ?_)))))))))))
 refine jR [.int .u64 ((a.iQ:Nat):Int), .int .u64 ((a.dM:Nat):Int)] 22 1 2 L ?_
 intro C qi ag
 replace ag:=yR (y:=row C 2 2 (List.flatMap (eN .u64) ([a.iQ,a.dM])) 22 1) rfl ag
 refine WL.do rfl (yC Tryz.call20 rfl ?_ (fun _ _ k=>k))
 refine xU (args:= [.func (.func 21) #[.pointer (some ⟨b,0,none⟩)] #[], .slice C 2 2]) Tryz.func20 rfl rfl rfl ?_
 show Wp _ _ _ [(0, .func (.func 21) #[.pointer (some ⟨b,0,none⟩)] #[]),(1, .slice C 2 2)] _ _
 refine sr (Mz rfl (Kz (.int .i64 2) (Mn rfl (bo (zb 200 (sr (Kz (.bool true) (nt (xV (jt (sk (xV (bo (sr ?_))))))))))))))
 have iI:([a.iQ,a.dM]:List Nat)[0]? =some a.iQ:=rfl
 refine fw (.pointer (some ⟨ab C,ao C+0 *1,none⟩)) (yh (jL) rfl rfl ((ag.rds (i:=0) rfl).addr (i:=0) (by omega)) (by omega)) (fw (.int .u64 ((a.iQ:Nat):Int)) (yl rfl (bH.one Tryz.isAgg22 (((ag.rds (i:=0) rfl).elem gW iI (by decide)).at_ (k:=0) rfl))) (An rfl (xS (Mz rfl (Mz rfl ?_)))))
 have lh:=ag.pk [1,4,0,2,3]
 obtain⟨ah,dw⟩:∃ q,av (aK.mk (Ll.mk u)) a.iQ=q:=⟨_,rfl⟩
 obtain⟨qj,iJ,nE,iK,nG⟩:=yu lh
 refine WL.do rfl (yB Tryz.call21 rfl rfl (aN _ _ b (aK.mk (Ll.mk u)) S T a.iQ ah iJ (by first | omega | (dsimp only; omega) | (dsimp only [List.length_cons,List.length_nil]; omega)) dw) ?_)
 rintro _ ql ⟨ll,lm,rfl,iL,dx⟩
 have aX:=iK _ _ iL
 have nH:=aX.rowC (i:=1) rfl
 replace dx:ah.xb.ls.length≤u.length+10:=dx
 refine xY (bN (yg (xS (Kz (.int .i64 1) (Mz rfl (xY (yN [(8, .int .i64 1),(7, .int .i64 2),(6, .slice C 2 2),(0, .func (.func 21) #[.pointer (some ⟨b,0,none⟩)] #[])] ⟨rfl,rfl,rfl,rfl,trivial⟩ (sr (Kz (.bool true) (nt (xV (jt (sk (xV (bo (sr ?_))))))))))))))))
 have iM:([a.iQ,a.dM]:List Nat)[1]? =some a.dM:=rfl
 refine fw (.pointer (some ⟨ab C,ao C+1 *1,none⟩)) (yh (jL) rfl rfl ((aX.rds (i:=2) rfl).addr (i:=1) (by omega)) (by omega)) (fw (.int .u64 ((a.dM:Nat):Int)) (yl rfl (bH.one Tryz.isAgg22 (((aX.rds (i:=2) rfl).elem gW iM (by decide)).at_ (k:=0) rfl))) (An rfl (xS (Mz rfl (Mz rfl ?_)))))
 obtain⟨ai,dz⟩:∃ q,av ah a.dM=q:=⟨_,rfl⟩
 obtain⟨qm,iO,nI,iP,nJ⟩:=yu aX
 refine WL.do rfl (yB Tryz.call21 rfl rfl (aN _ _ b ah ll lm a.dM ai iO (by first | omega | (dsimp only; omega) | (dsimp only [List.length_cons,List.length_nil]; omega)) dz) ?_)
 rintro _ qo ⟨lq,lu,rfl,iQ,dA⟩
 have aY:=iP _ _ iQ
 have nK:=aY.rowC (i:=1) rfl
 replace dA:ai.xb.ls.length≤ah.xb.ls.length+10:=dA
 refine xY (bN (yg (xS (Kz (.int .i64 2) (Mz rfl (xY (yN [(8, .int .i64 2),(7, .int .i64 2),(6, .slice C 2 2),(0, .func (.func 21) #[.pointer (some ⟨b,0,none⟩)] #[])] ⟨rfl,rfl,rfl,rfl,trivial⟩ (sr (Kz (.bool false) (nt (xV (jf (Wp.exit (xX (xX (yx (yA (res0 rfl) (ns (Mz rfl (Kz (.func (.func 28) #[.pointer (some ⟨b,0,none⟩)] #[]) (Kz (.pointer (some ⟨m,10,none⟩)) (Kz (.pointer (some ⟨m,10,none⟩)) (Lz (.string ⟨List.toArray a.bz.aJ⟩) aY 4 Tryz.isAgg9 (Kz (.pointer (some ⟨m,10,none⟩)) (Kz (.pointer (some ⟨m,11,none⟩)) (Lz (.string ⟨List.toArray a.bz.aO⟩) aY 4 Tryz.isAgg9 ?_))))))))))))))))))))))))))
 refine jR [.string ⟨List.toArray a.bz.aJ⟩, .string ⟨List.toArray a.bz.aO⟩] 9 1 2 aY ?_
 intro E qp aj
 replace aj:=yR (y:=row E 2 2 (List.flatMap eS ([a.bz.aJ,a.bz.aO])) 9 1) rfl aj
 refine WL.do rfl (yC Tryz.call27 rfl ?_ (fun _ _ k=>k))
 refine xU (args:= [.func (.func 28) #[.pointer (some ⟨b,0,none⟩)] #[], .slice E 2 2]) Tryz.func27 rfl rfl rfl ?_
 show Wp _ _ _ [(0, .func (.func 28) #[.pointer (some ⟨b,0,none⟩)] #[]),(1, .slice E 2 2)] _ _
 refine sr (Mz rfl (Kz (.int .i64 2) (Mn rfl (bo (zb 200 (sr (Kz (.bool true) (nt (xV (jt (sk (xV (bo (sr ?_))))))))))))))
 have iR:([a.bz.aJ,a.bz.aO]:List (List UInt8))[0]? =some a.bz.aJ:=rfl
 refine fw (.pointer (some ⟨ab E,ao E+0 *1,none⟩)) (yh (lv) rfl rfl ((aj.rds (i:=0) rfl).addr (i:=0) (by omega)) (by omega)) (fw (.string ⟨List.toArray a.bz.aJ⟩) (yl rfl (bH.one Tryz.isAgg9 (((aj.rds (i:=0) rfl).elem jZ iR (by decide)).at_ (k:=0) rfl))) (An rfl (xS (Mz rfl (Mz rfl ?_)))))
 have lw:=aj.pk [1,2,0,3,4,5]
 obtain⟨ak,dB⟩:∃ q,bv ai a.bz.aJ=q:=⟨_,rfl⟩
 obtain⟨qw,iT,nL,iU,nM⟩:=yu lw
 refine WL.do rfl (yB Tryz.call28 rfl rfl (dK _ _ b ai lq lu a.bz.aJ ak iT (by first | omega | (dsimp only; omega) | (dsimp only [List.length_cons,List.length_nil]; omega)) dB) ?_)
 rintro _ qx ⟨lC,lD,rfl,iV,dD⟩
 have aZ:=iU _ _ iV
 have nN:=aZ.rowC (i:=1) rfl
 replace dD:ak.xb.ls.length≤ai.xb.ls.length+26:=dD
 refine xY (bN (yg (xS (Kz (.int .i64 1) (Mz rfl (xY (yN [(8, .int .i64 1),(7, .int .i64 2),(6, .slice E 2 2),(0, .func (.func 28) #[.pointer (some ⟨b,0,none⟩)] #[])] ⟨rfl,rfl,rfl,rfl,trivial⟩ (sr (Kz (.bool true) (nt (xV (jt (sk (xV (bo (sr ?_))))))))))))))))
 have iW:([a.bz.aJ,a.bz.aO]:List (List UInt8))[1]? =some a.bz.aO:=rfl
 refine fw (.pointer (some ⟨ab E,ao E+1 *1,none⟩)) (yh (lv) rfl rfl ((aZ.rds (i:=2) rfl).addr (i:=1) (by omega)) (by omega)) (fw (.string ⟨List.toArray a.bz.aO⟩) (yl rfl (bH.one Tryz.isAgg9 (((aZ.rds (i:=2) rfl).elem jZ iW (by decide)).at_ (k:=0) rfl))) (An rfl (xS (Mz rfl (Mz rfl ?_)))))
 obtain⟨au,dE⟩:∃ q,bv ak a.bz.aO=q:=⟨_,rfl⟩
 obtain⟨qy,iX,nO,iY,nP⟩:=yu aZ
 refine WL.do rfl (yB Tryz.call28 rfl rfl (dK _ _ b ak lC lD a.bz.aO au iX (by first | omega | (dsimp only; omega) | (dsimp only [List.length_cons,List.length_nil]; omega)) dE) ?_)
 rintro _ qz ⟨lF,lG,rfl,iZ,dH⟩
 have ax:=iY _ _ iZ
 have nQ:=ax.rowC (i:=1) rfl
 replace dH:au.xb.ls.length≤ak.xb.ls.length+26:=dH
 refine xY (bN (yg (xS (Kz (.int .i64 2) (Mz rfl (xY (yN [(8, .int .i64 2),(7, .int .i64 2),(6, .slice E 2 2),(0, .func (.func 28) #[.pointer (some ⟨b,0,none⟩)] #[])] ⟨rfl,rfl,rfl,rfl,trivial⟩ (sr (Kz (.bool false) (nt (xV (jf (Wp.exit (xX (xX (yx (yA (res0 rfl) (ns (Mz rfl (Kz (.func (.func 21) #[.pointer (some ⟨b,0,none⟩)] #[]) (Kz (.pointer (some ⟨m,12,none⟩)) (Kz (.pointer (some ⟨m,12,none⟩)) (Lz (.int .u64 ((a.bg.bA:Nat):Int)) ax 5 Tryz.isAgg22 (Kz (.pointer (some ⟨m,12,none⟩)) (Kz (.pointer (some ⟨m,13,none⟩)) (Lz (.int .u64 ((a.bg.bG:Nat):Int)) ax 5 Tryz.isAgg22 (Kz (.pointer (some ⟨m,12,none⟩)) (Kz (.pointer (some ⟨m,14,none⟩)) (Lz (.int .u64 ((a.bg.dR:Nat):Int)) ax 5 Tryz.isAgg22 ?_)))))))))))))))))))))))))))))
 refine jR [.int .u64 ((a.bg.bA:Nat):Int), .int .u64 ((a.bg.bG:Nat):Int), .int .u64 ((a.bg.dR:Nat):Int)] 22 1 3 ax ?_
 intro B qA ay
 replace ay:=yR (y:=row B 3 3 (List.flatMap (eN .u64) ([a.bg.bA,a.bg.bG,a.bg.dR])) 22 1) rfl ay
 refine WL.do rfl (yC Tryz.call20 rfl ?_ (fun _ _ k=>k))
 refine xU (args:= [.func (.func 21) #[.pointer (some ⟨b,0,none⟩)] #[], .slice B 3 3]) Tryz.func20 rfl rfl rfl ?_
 show Wp _ _ _ [(0, .func (.func 21) #[.pointer (some ⟨b,0,none⟩)] #[]),(1, .slice B 3 3)] _ _
 refine sr (Mz rfl (Kz (.int .i64 3) (Mn rfl (bo (zb 200 (sr (Kz (.bool true) (nt (xV (jt (sk (xV (bo (sr ?_))))))))))))))
 have ja:([a.bg.bA,a.bg.bG,a.bg.dR]:List Nat)[0]? =some a.bg.bA:=rfl
 refine fw (.pointer (some ⟨ab B,ao B+0 *1,none⟩)) (yh (jL) rfl rfl ((ay.rds (i:=0) rfl).addr (i:=0) (by omega)) (by omega)) (fw (.int .u64 ((a.bg.bA:Nat):Int)) (yl rfl (bH.one Tryz.isAgg22 (((ay.rds (i:=0) rfl).elem gW ja (by decide)).at_ (k:=0) rfl))) (An rfl (xS (Mz rfl (Mz rfl ?_)))))
 have lH:=ay.pk [1,2,0,3,4,5,6]
 obtain⟨az,dI⟩:∃ q,av au a.bg.bA=q:=⟨_,rfl⟩
 obtain⟨qB,jb,nR,jc,nS⟩:=yu lH
 refine WL.do rfl (yB Tryz.call21 rfl rfl (aN _ _ b au lF lG a.bg.bA az jb (by first | omega | (dsimp only; omega) | (dsimp only [List.length_cons,List.length_nil]; omega)) dI) ?_)
 rintro _ qC ⟨lI,lJ,rfl,jd,dJ⟩
 have bf:=jc _ _ jd
 have nT:=bf.rowC (i:=1) rfl
 replace dJ:az.xb.ls.length≤au.xb.ls.length+10:=dJ
 refine xY (bN (yg (xS (Kz (.int .i64 1) (Mz rfl (xY (yN [(8, .int .i64 1),(7, .int .i64 3),(6, .slice B 3 3),(0, .func (.func 21) #[.pointer (some ⟨b,0,none⟩)] #[])] ⟨rfl,rfl,rfl,rfl,trivial⟩ (sr (Kz (.bool true) (nt (xV (jt (sk (xV (bo (sr ?_))))))))))))))))
 have je:([a.bg.bA,a.bg.bG,a.bg.dR]:List Nat)[1]? =some a.bg.bG:=rfl
 refine fw (.pointer (some ⟨ab B,ao B+1 *1,none⟩)) (yh (jL) rfl rfl ((bf.rds (i:=2) rfl).addr (i:=1) (by omega)) (by omega)) (fw (.int .u64 ((a.bg.bG:Nat):Int)) (yl rfl (bH.one Tryz.isAgg22 (((bf.rds (i:=2) rfl).elem gW je (by decide)).at_ (k:=0) rfl))) (An rfl (xS (Mz rfl (Mz rfl ?_)))))
 obtain⟨aA,dM⟩:∃ q,av az a.bg.bG=q:=⟨_,rfl⟩
 obtain⟨qD,jg,nU,ji,nV⟩:=yu bf
 refine WL.do rfl (yB Tryz.call21 rfl rfl (aN _ _ b az lI lJ a.bg.bG aA jg (by first | omega | (dsimp only; omega) | (dsimp only [List.length_cons,List.length_nil]; omega)) dM) ?_)
 rintro _ qE ⟨lK,lL,rfl,jk,dN⟩
 have bg:=ji _ _ jk
 have nW:=bg.rowC (i:=1) rfl
 replace dN:aA.xb.ls.length≤az.xb.ls.length+10:=dN
 refine xY (bN (yg (xS (Kz (.int .i64 2) (Mz rfl (xY (yN [(8, .int .i64 2),(7, .int .i64 3),(6, .slice B 3 3),(0, .func (.func 21) #[.pointer (some ⟨b,0,none⟩)] #[])] ⟨rfl,rfl,rfl,rfl,trivial⟩ (sr (Kz (.bool true) (nt (xV (jt (sk (xV (bo (sr ?_))))))))))))))))
 have jl:([a.bg.bA,a.bg.bG,a.bg.dR]:List Nat)[2]? =some a.bg.dR:=rfl
 refine fw (.pointer (some ⟨ab B,ao B+2 *1,none⟩)) (yh (jL) rfl rfl ((bg.rds (i:=2) rfl).addr (i:=2) (by omega)) (by omega)) (fw (.int .u64 ((a.bg.dR:Nat):Int)) (yl rfl (bH.one Tryz.isAgg22 (((bg.rds (i:=2) rfl).elem gW jl (by decide)).at_ (k:=0) rfl))) (An rfl (xS (Mz rfl (Mz rfl ?_)))))
 obtain⟨aB,dO⟩:∃ q,av aA a.bg.dR=q:=⟨_,rfl⟩
 obtain⟨qG,jm,nX,jo,nY⟩:=yu bg
 refine WL.do rfl (yB Tryz.call21 rfl rfl (aN _ _ b aA lK lL a.bg.dR aB jm (by first | omega | (dsimp only; omega) | (dsimp only [List.length_cons,List.length_nil]; omega)) dO) ?_)
 rintro _ qH ⟨lM,lN,rfl,jq,dP⟩
 have bn:=jo _ _ jq
 have nZ:=bn.rowC (i:=1) rfl
 replace dP:aB.xb.ls.length≤aA.xb.ls.length+10:=dP
 refine xY (bN (yg (xS (Kz (.int .i64 3) (Mz rfl (xY (yN [(8, .int .i64 3),(7, .int .i64 3),(6, .slice B 3 3),(0, .func (.func 21) #[.pointer (some ⟨b,0,none⟩)] #[])] ⟨rfl,rfl,rfl,rfl,trivial⟩ (sr (Kz (.bool false) (nt (xV (jf (Wp.exit (xX (xX (yx (yA (res0 rfl) (ns (Mz rfl (Kz (.func (.func 28) #[.pointer (some ⟨b,0,none⟩)] #[]) (Kz (.pointer (some ⟨m,12,none⟩)) (Kz (.pointer (some ⟨m,15,none⟩)) (Kz (.pointer (some ⟨m,15,none⟩)) (Lz (.string ⟨List.toArray a.bg.aR.aJ⟩) bn 6 Tryz.isAgg9 (Kz (.pointer (some ⟨m,12,none⟩)) (Kz (.pointer (some ⟨m,15,none⟩)) (Kz (.pointer (some ⟨m,16,none⟩)) (Lz (.string ⟨List.toArray a.bg.aR.aO⟩) bn 6 Tryz.isAgg9 ?_))))))))))))))))))))))))))))
 refine jR [.string ⟨List.toArray a.bg.aR.aJ⟩, .string ⟨List.toArray a.bg.aR.aO⟩] 9 1 2 bn ?_
 intro F qI aD
 replace aD:=yR (y:=row F 2 2 (List.flatMap eS ([a.bg.aR.aJ,a.bg.aR.aO])) 9 1) rfl aD
 refine WL.do rfl (yC Tryz.call27 rfl ?_ (fun _ _ k=>k))
 refine xU (args:= [.func (.func 28) #[.pointer (some ⟨b,0,none⟩)] #[], .slice F 2 2]) Tryz.func27 rfl rfl rfl ?_
 show Wp _ _ _ [(0, .func (.func 28) #[.pointer (some ⟨b,0,none⟩)] #[]),(1, .slice F 2 2)] _ _
 refine sr (Mz rfl (Kz (.int .i64 2) (Mn rfl (bo (zb 200 (sr (Kz (.bool true) (nt (xV (jt (sk (xV (bo (sr ?_))))))))))))))
 have jr:([a.bg.aR.aJ,a.bg.aR.aO]:List (List UInt8))[0]? =some a.bg.aR.aJ:=rfl
 refine fw (.pointer (some ⟨ab F,ao F+0 *1,none⟩)) (yh (lv) rfl rfl ((aD.rds (i:=0) rfl).addr (i:=0) (by omega)) (by omega)) (fw (.string ⟨List.toArray a.bg.aR.aJ⟩) (yl rfl (bH.one Tryz.isAgg9 (((aD.rds (i:=0) rfl).elem jZ jr (by decide)).at_ (k:=0) rfl))) (An rfl (xS (Mz rfl (Mz rfl ?_)))))
 have lQ:=aD.pk [1,2,0,3,4,5,6,7]
 obtain⟨aF,dQ⟩:∃ q,bv aB a.bg.aR.aJ=q:=⟨_,rfl⟩
 obtain⟨qJ,jv,og,jw,oh⟩:=yu lQ
 refine WL.do rfl (yB Tryz.call28 rfl rfl (dK _ _ b aB lM lN a.bg.aR.aJ aF jv (by first | omega | (dsimp only; omega) | (dsimp only [List.length_cons,List.length_nil]; omega)) dQ) ?_)
 rintro _ qK ⟨lS,lT,rfl,jy,dR⟩
 have bq:=jw _ _ jy
 have ol:=bq.rowC (i:=1) rfl
 replace dR:aF.xb.ls.length≤aB.xb.ls.length+26:=dR
 refine xY (bN (yg (xS (Kz (.int .i64 1) (Mz rfl (xY (yN [(8, .int .i64 1),(7, .int .i64 2),(6, .slice F 2 2),(0, .func (.func 28) #[.pointer (some ⟨b,0,none⟩)] #[])] ⟨rfl,rfl,rfl,rfl,trivial⟩ (sr (Kz (.bool true) (nt (xV (jt (sk (xV (bo (sr ?_))))))))))))))))
 have jA:([a.bg.aR.aJ,a.bg.aR.aO]:List (List UInt8))[1]? =some a.bg.aR.aO:=rfl
 refine fw (.pointer (some ⟨ab F,ao F+1 *1,none⟩)) (yh (lv) rfl rfl ((bq.rds (i:=2) rfl).addr (i:=1) (by omega)) (by omega)) (fw (.string ⟨List.toArray a.bg.aR.aO⟩) (yl rfl (bH.one Tryz.isAgg9 (((bq.rds (i:=2) rfl).elem jZ jA (by decide)).at_ (k:=0) rfl))) (An rfl (xS (Mz rfl (Mz rfl ?_)))))
 obtain⟨bz,dS⟩:∃ q,bv aF a.bg.aR.aO=q:=⟨_,rfl⟩
 obtain⟨qL,jB,om,jC,oo⟩:=yu bq
 refine WL.do rfl (yB Tryz.call28 rfl rfl (dK _ _ b aF lS lT a.bg.aR.aO bz jB (by first | omega | (dsimp only; omega) | (dsimp only [List.length_cons,List.length_nil]; omega)) dS) ?_)
 rintro _ qM ⟨fI,fK,rfl,jD,dU⟩
 have dV:=jC _ _ jD
 have oq:=dV.rowC (i:=1) rfl
 replace dU:bz.xb.ls.length≤aF.xb.ls.length+26:=dU
 refine xY (bN (yg (xS (Kz (.int .i64 2) (Mz rfl (xY (yN [(8, .int .i64 2),(7, .int .i64 2),(6, .slice F 2 2),(0, .func (.func 28) #[.pointer (some ⟨b,0,none⟩)] #[])] ⟨rfl,rfl,rfl,rfl,trivial⟩ (sr (Kz (.bool false) (nt (xV (jf (Wp.exit (xX (xX (yx (yA (res0 rfl) (ns (Mz rfl (Kz (.pointer (some ⟨b,0,none⟩)) (Kz (.pointer (some ⟨b,0,none⟩)) (Lz (.slice fI bz.xb.ls.length fK) dV 0 Tryz.isAgg37 (Az rfl (An rfl (rt (yI (rz rfl rfl rfl) ?_))))))))))))))))))))))))))
 have lU:=dV.pk [1]
 have e:fV a=(bz.xb.ls,0):=et (ae aR) (et (ip dW) (et (ae eu) (et (ae eO) (et (ae eQ) (et (ae bJ) (et (ae bL) (et (ae bQ) (et (ae gQ) (et (ae bX) (et (ae iq) (et (ae cO) (et (ae iH) (et (ae dw) (et (ae dz) (et (ae dB) (et (ae dE) (et (ae dI) (et (ae dM) (et (ae dO) (et (ae dQ) (ae dS)))))))))))))))))))))
 obtain⟨rfl,rfl⟩:=gD (e.symm.trans hr)
 exact⟨fI,fK,rfl,lU,(by first | omega | exact A9 _)⟩
 refine jT (dT dW) (sr (Mz rfl (Az rfl (An rfl (rt (tR (yI (rz rfl rfl rfl) ?_)))))))
 have lV:Own w D l6 [row none 0 0 (List.flatMap eB ([])) 5 1,blk m (dL a d h f j g l) 31]:=jN.free (fU 5 1)
 have lW:=lV.pk [0]
 have e:fV a=([],bB):=et (ae aR) (iN dW)
 obtain⟨rfl,rfl⟩:=gD (e.symm.trans hr)
 exact⟨none,0,rfl,lW,(by first | omega | exact A9 _)⟩
def eH (e:bL):List aC→List UInt8→(List UInt8)
  | [],a=>a
  | c::d,a=>bnd (gJ (aK.mk (Ll.mk a)) c) fun b=>eH e d b.xb.ls
def eO (e:bL):List bJ→List UInt8→(List UInt8)
  | [],b=>b
  | a::d,b=>bnd (iC (aK.mk (Ll.mk b)) (bJ.mk a.aV a.aG a.az a.bU (Ll.mk a.af.ls))) fun c=>eO e d c.xb.ls
def eP:List dX→List UInt8→(List UInt8)
  | [],b=>b
  | a::d,b=>bnd (ji (aK.mk (Ll.mk b)) (dX.mk a.aG a.az a.bU (Ll.mk a.ah.ls))) fun c=>eP d c.xb.ls
def fZ (a:bL):(List UInt8) × Int:=
 bnd (bn a) fun b=>if b=0 then bnd (av (aK.mk (Ll.mk ([67]))) (Int.toNat (IntKind.u64.wrap a.af))) fun g=>bnd (av g a.az) fun h=>bnd (av h a.bC) fun i=>bnd (av i a.aS) fun c=>bnd (av c a.ag.ls.length) fun d=>bnd (eH a a.ag.ls d.xb.ls) fun sLrbtbbbbbL=>bnd (av (aK.mk (Ll.mk sLrbtbbbbbL)) a.ak.ls.length) fun e=>bnd (eO a a.ak.ls e.xb.ls) fun sLrbtbbbbbLabL=>bnd (av (aK.mk (Ll.mk sLrbtbbbbbLabL)) a.aP.ls.length) fun f=>bnd (eP a.aP.ls f.xb.ls) fun sLrbtbbbbbLabLabL=>(sLrbtbbbbbLabLabL,0) else([],b)
set_option maxHeartbeats 4000000 in
theorem kK (w:World) (D:Nat→Prop) (a:bL) (g:Option Addr) (bZ l:Nat) (h:Option Addr) (cu m:Nat) (aj:List au) (j:Option Addr) (cz n:Nat) (ak:List aM) (r0:List UInt8) (r1:Int) (H:Own w D w []) (dN:bZ=a.ag.ls.length) (X:Ro w D fun w'=>bu w' 2 g a.ag.ls.length (List.flatMap aC.cells a.ag.ls)) (iT:a.ag.ls.length≤l∧a.ag.ls.length≤9223372036854775807) (ay:List.map yz aj=a.ak.ls) (dO:cu=a.ak.ls.length) (Y:Ro w D fun w'=>bu w' 5 h a.ak.ls.length (List.flatMap au.cells aj)) (iU:a.ak.ls.length≤m∧a.ak.ls.length≤9223372036854775807) (Z:∀ x ∈ aj,Ro w D (fun w'=>bu w' 1 x.af.A x.af.ls.length (List.flatMap (eI .i64) x.af.ls))∧(x.af.ls.length≤x.af.c∧x.af.ls.length≤9223372036854775807)) (aB:List.map yG ak=a.aP.ls) (dP:cz=a.aP.ls.length) (aa:Ro w D fun w'=>bu w' 4 j a.aP.ls.length (List.flatMap aM.cells ak)) (iV:a.aP.ls.length≤n∧a.aP.ls.length≤9223372036854775807) (C:∀ x ∈ ak,Ro w D (fun w'=>bu w' 3 x.ah.A x.ah.ls.length (List.flatMap aA.cells x.ah.ls))∧(x.ah.ls.length≤x.ah.c∧x.ah.ls.length≤9223372036854775807)∧(∀ y1 ∈ x.ah.ls,Ro w D (fun w'=>bu w' 2 y1.ay.A y1.ay.ls.length (List.flatMap bB.cells y1.ay.ls))∧(y1.ay.ls.length≤y1.ay.c∧y1.ay.ls.length≤9223372036854775807))) (lF:a.ag.ls.length≤140737488355328∧a.ak.ls.length≤140737488355328∧a.aP.ls.length≤140737488355328) (iW:o9 a) (hr:fZ a=(r0,r1)):
    Calls Tryz.prog 9 #[.agg #[.int .i64 a.af, .int .u64 ((a.az:Nat):Int), .int .u64 ((a.bC:Nat):Int), .int .u64 ((a.aS:Nat):Int), .slice g bZ l, .slice h cu m, .slice j cz n]] w (dC fun v w'=> ∃ (B0:Option Addr) (b0:Nat),v= .tuple #[.slice B0 r0.length b0, .int .i64 r1]∧Own w D w' [row B0 r0.length b0 (List.flatMap eB r0) 5 1]∧(r0.length≤100000)):=by
 subst dN dO dP
 have hdl0x1:=bV ay
 have hdl0x2:=bV aB
 refine xU (args:= [.agg #[.int .i64 a.af, .int .u64 ((a.az:Nat):Int), .int .u64 ((a.bC:Nat):Int), .int .u64 ((a.aS:Nat):Int), .slice g a.ag.ls.length l, .slice h a.ak.ls.length m, .slice j a.aP.ls.length n]]) Tryz.func9 rfl rfl rfl ?_
 show Wp _ _ _ [(0, .agg #[.int .i64 a.af, .int .u64 ((a.az:Nat):Int), .int .u64 ((a.bC:Nat):Int), .int .u64 ((a.aS:Nat):Int), .slice g a.ag.ls.length l, .slice h a.ak.ls.length m, .slice j a.aP.ls.length n])] _ _
 refine sr ?_
 refine dG [.int .i64 a.af, .int .u64 ((a.az:Nat):Int), .int .u64 ((a.bC:Nat):Int), .int .u64 ((a.aS:Nat):Int), .slice g a.ag.ls.length l, .slice h a.ak.ls.length m, .slice j a.aP.ls.length n] 35 H ?_
 intro E lG fQ
 refine Az rfl (An rfl (xV (sr (La ([.int .i64 a.af, .int .u64 ((a.az:Nat):Int), .int .u64 ((a.bC:Nat):Int), .int .u64 ((a.aS:Nat):Int), .slice g a.ag.ls.length l, .slice h a.ak.ls.length m, .slice j a.aP.ls.length n]) fQ 0 Tryz.isAgg35 Tryz.sizeOf35 ?_))))
 obtain⟨aL,aI⟩:∃ q,bn a=q:=⟨_,rfl⟩
 obtain⟨lH,fT,P,fV,j3⟩:=yc fQ
 refine cl Tryz.call13 (kS _ _ a g a.ag.ls.length l h a.ak.ls.length m aj j a.aP.ls.length n ak aL fT rfl (P _ X) (show a.ag.ls.length≤l∧a.ag.ls.length≤9223372036854775807 from by omega) ay rfl (P _ Y) (show a.ak.ls.length≤m∧a.ak.ls.length≤9223372036854775807 from by omega) (fun x9 h9=>⟨P _ (Z x9 h9).1,(Z x9 h9).2⟩) aB rfl (P _ aa) (show a.aP.ls.length≤n∧a.aP.ls.length≤9223372036854775807 from by omega) (fun x9 h9=>⟨P _ (C x9 h9).1,(C x9 h9).2.1,(fun y1 k1=>⟨P _ ((C x9 h9).2.2 y1 k1).1,((C x9 h9).2.2 y1 k1).2⟩)⟩) (by first | omega | (dsimp only; omega) | (simp only [List.length_nil]; omega) | decide) aI) ?_
 rintro _ iX ⟨rfl,gm⟩
 have gp:=fV _ _ gm
 refine Ar rfl (Mz rfl (fw (.bool (decide (¬ (aL=0)))) (yJ (e:= !(decide (aL=0))) yk decide_not.symm) (nt ?_)))
 by_cases bT:aL=0
 refine jF (dF (Ba bT)) (sk (sr ?_))
 have hsm35:=su (by rw [aI]; omega) iW
 have j5:a.ag.ls.length≤6:=hsm35.1
 have j6:a.ak.ls.length≤8:=hsm35.2.2.1
 have kg:a.aP.ls.length≤4:=hsm35.2.2.2.2.1
 have ko:a.az≤18446744073709551615:=hsm35.2.2.2.2.2.2.1
 have kr:a.bC≤18446744073709551615:=hsm35.2.2.2.2.2.2.2.1
 have ku:a.aS≤18446744073709551615:=hsm35.2.2.2.2.2.2.2.2
 refine jR [.int .u8 67] 5 1 1 gp ?_
 intro bW lJ dQ
 replace dQ:=yR (y:=row bW 1 1 (List.flatMap eB ([67])) 5 1) rfl dQ
 refine Kz (.agg #[.slice bW 1 1]) ?_
 refine dG [.slice bW 1 1] 57 dQ ?_
 intro b lK gq
 refine Ar rfl (Mz rfl (Kz (.pointer (some ⟨E,0,none⟩)) (Lz (.int .i64 a.af) gq 2 Tryz.isAgg3 ?_)))
 refine WL.do rfl (yC Tryz.call19 rfl ?_ (fun _ _ k=>k))
 refine xU (args:= [.pointer (some ⟨b,0,none⟩), .int .i64 a.af]) Tryz.func19 rfl rfl rfl ?_
 show Wp _ _ _ [(0, .pointer (some ⟨b,0,none⟩)),(1, .int .i64 a.af)] _ _
 refine xS (Mz rfl (Mz rfl ?_))
 have kv:Int.toNat (IntKind.u64.wrap a.af)≤18446744073709551615:=jG _
 refine fw (.int .u64 ((Int.toNat (IntKind.u64.wrap a.af):Nat):Int)) (ym (e:=IntKind.u64.wrap a.af) yk (fJ _)) ?_
 obtain⟨aO,cB⟩:∃ q,av (aK.mk (Ll.mk ([67]))) (Int.toNat (IntKind.u64.wrap a.af))=q:=⟨_,rfl⟩
 obtain⟨lL,gu,kw,gy,ky⟩:=yu gq
 refine cl Tryz.call21 (aN _ _ b (aK.mk (Ll.mk ([67]))) bW 1 (Int.toNat (IntKind.u64.wrap a.af)) aO gu (by first | omega | (dsimp only; omega) | (dsimp only [List.length_cons,List.length_nil]; omega)) cB) ?_
 rintro _ lM ⟨iY,iZ,rfl,gz,cK⟩
 have aP:=gy _ _ gz
 have kC:=aP.rowC (i:=1) rfl
 replace cK:aO.xb.ls.length≤1+10:=cK
 refine xY (yA (res0 rfl) (ns (Mz rfl (Kz (.func (.func 21) #[.pointer (some ⟨b,0,none⟩)] #[]) (Kz (.pointer (some ⟨E,1,none⟩)) (Lz (.int .u64 ((a.az:Nat):Int)) aP 2 Tryz.isAgg22 (Kz (.pointer (some ⟨E,2,none⟩)) (Lz (.int .u64 ((a.bC:Nat):Int)) aP 2 Tryz.isAgg22 (Kz (.pointer (some ⟨E,3,none⟩)) (Lz (.int .u64 ((a.aS:Nat):Int)) aP 2 Tryz.isAgg22 ?_))))))))))
 refine jR [.int .u64 ((a.az:Nat):Int), .int .u64 ((a.bC:Nat):Int), .int .u64 ((a.aS:Nat):Int)] 22 1 3 aP ?_
 intro B lN aQ
 replace aQ:=yR (y:=row B 3 3 (List.flatMap (eN .u64) ([a.az,a.bC,a.aS])) 22 1) rfl aQ
 refine WL.do rfl (yC Tryz.call20 rfl ?_ (fun _ _ k=>k))
 refine xU (args:= [.func (.func 21) #[.pointer (some ⟨b,0,none⟩)] #[], .slice B 3 3]) Tryz.func20 rfl rfl rfl ?_
 show Wp _ _ _ [(0, .func (.func 21) #[.pointer (some ⟨b,0,none⟩)] #[]),(1, .slice B 3 3)] _ _
 refine sr (Mz rfl (Kz (.int .i64 3) (Mn rfl (bo (zb 200 (sr (Kz (.bool true) (nt (xV (jt (sk (xV (bo (sr ?_))))))))))))))
 have gB:([a.az,a.bC,a.aS]:List Nat)[0]? =some a.az:=rfl
 refine fw (.pointer (some ⟨ab B,ao B+0 *1,none⟩)) (yh (jL) rfl rfl ((aQ.rds (i:=0) rfl).addr (i:=0) (by omega)) (by omega)) (fw (.int .u64 ((a.az:Nat):Int)) (yl rfl (bH.one Tryz.isAgg22 (((aQ.rds (i:=0) rfl).elem gW gB (by decide)).at_ (k:=0) rfl))) (An rfl (xS (Mz rfl (Mz rfl ?_)))))
 have ja:=aQ.pk [1,2,0,3]
 obtain⟨aR,cO⟩:∃ q,av aO a.az=q:=⟨_,rfl⟩
 obtain⟨lQ,gF,kD,gG,kE⟩:=yu ja
 refine WL.do rfl (yB Tryz.call21 rfl rfl (aN _ _ b aO iY iZ a.az aR gF (by first | omega | (dsimp only; omega) | (dsimp only [List.length_cons,List.length_nil]; omega)) cO) ?_)
 rintro _ lS ⟨jb,jc,rfl,gH,df⟩
 have bX:=gG _ _ gH
 have kF:=bX.rowC (i:=1) rfl
 replace df:aR.xb.ls.length≤aO.xb.ls.length+10:=df
 refine xY (bN (yg (xS (Kz (.int .i64 1) (Mz rfl (xY (yN [(8, .int .i64 1),(7, .int .i64 3),(6, .slice B 3 3),(0, .func (.func 21) #[.pointer (some ⟨b,0,none⟩)] #[])] ⟨rfl,rfl,rfl,rfl,trivial⟩ (sr (Kz (.bool true) (nt (xV (jt (sk (xV (bo (sr ?_))))))))))))))))
 have gI:([a.az,a.bC,a.aS]:List Nat)[1]? =some a.bC:=rfl
 refine fw (.pointer (some ⟨ab B,ao B+1 *1,none⟩)) (yh (jL) rfl rfl ((bX.rds (i:=2) rfl).addr (i:=1) (by omega)) (by omega)) (fw (.int .u64 ((a.bC:Nat):Int)) (yl rfl (bH.one Tryz.isAgg22 (((bX.rds (i:=2) rfl).elem gW gI (by decide)).at_ (k:=0) rfl))) (An rfl (xS (Mz rfl (Mz rfl ?_)))))
 obtain⟨aS,dh⟩:∃ q,av aR a.bC=q:=⟨_,rfl⟩
 obtain⟨lT,gK,kG,gL,kH⟩:=yu bX
 refine WL.do rfl (yB Tryz.call21 rfl rfl (aN _ _ b aR jb jc a.bC aS gK (by first | omega | (dsimp only; omega) | (dsimp only [List.length_cons,List.length_nil]; omega)) dh) ?_)
 rintro _ lU ⟨jd,je,rfl,gM,di⟩
 have bY:=gL _ _ gM
 have kI:=bY.rowC (i:=1) rfl
 replace di:aS.xb.ls.length≤aR.xb.ls.length+10:=di
 refine xY (bN (yg (xS (Kz (.int .i64 2) (Mz rfl (xY (yN [(8, .int .i64 2),(7, .int .i64 3),(6, .slice B 3 3),(0, .func (.func 21) #[.pointer (some ⟨b,0,none⟩)] #[])] ⟨rfl,rfl,rfl,rfl,trivial⟩ (sr (Kz (.bool true) (nt (xV (jt (sk (xV (bo (sr ?_))))))))))))))))
 have gN:([a.az,a.bC,a.aS]:List Nat)[2]? =some a.aS:=rfl
 refine fw (.pointer (some ⟨ab B,ao B+2 *1,none⟩)) (yh (jL) rfl rfl ((bY.rds (i:=2) rfl).addr (i:=2) (by omega)) (by omega)) (fw (.int .u64 ((a.aS:Nat):Int)) (yl rfl (bH.one Tryz.isAgg22 (((bY.rds (i:=2) rfl).elem gW gN (by decide)).at_ (k:=0) rfl))) (An rfl (xS (Mz rfl (Mz rfl ?_)))))
 obtain⟨ax,aT⟩:∃ q,av aS a.aS=q:=⟨_,rfl⟩
 obtain⟨lV,gP,jg,dR,jh⟩:=yu bY
 refine WL.do rfl (yB Tryz.call21 rfl rfl (aN _ _ b aS jd je a.aS ax gP (by first | omega | (dsimp only; omega) | (dsimp only [List.length_cons,List.length_nil]; omega)) aT) ?_)
 rintro _ kJ ⟨gQ,gT,rfl,dS,aU⟩
 have aW:=dR _ _ dS
 have jk:=aW.rowC (i:=1) rfl
 replace aU:ax.xb.ls.length≤aS.xb.ls.length+10:=aU
 refine xY (bN (yg (xS (Kz (.int .i64 3) (Mz rfl (xY (yN [(8, .int .i64 3),(7, .int .i64 3),(6, .slice B 3 3),(0, .func (.func 21) #[.pointer (some ⟨b,0,none⟩)] #[])] ⟨rfl,rfl,rfl,rfl,trivial⟩ (sr (Kz (.bool false) (nt (xV (jf (Wp.exit (xX (xX (yx (yA (res0 rfl) (ns (Mz rfl (Kz (.pointer (some ⟨E,4,none⟩)) (Lz (.slice g a.ag.ls.length l) aW 3 Tryz.isAgg23 (Mz rfl (Kz (.func (.func 23) #[.pointer (some ⟨b,0,none⟩)] #[]) ?_)))))))))))))))))))))))
 refine WL.do rfl (yC Tryz.call22 rfl ?_ (fun _ _ k=>k))
 refine xU (args:= [.pointer (some ⟨b,0,none⟩), .slice g a.ag.ls.length l, .func (.func 23) #[.pointer (some ⟨b,0,none⟩)] #[]]) Tryz.func22 rfl rfl rfl ?_
 show Wp _ _ _ [(0, .pointer (some ⟨b,0,none⟩)),(1, .slice g a.ag.ls.length l),(2, .func (.func 23) #[.pointer (some ⟨b,0,none⟩)] #[])] _ _
 refine sr (Mz rfl (Mz rfl (Kz (.int .i64 ((a.ag.ls.length:Nat):Int)) ?_)))
 refine WL.do rfl (yC Tryz.call19 rfl ?_ (fun _ _ k=>k))
 refine xU (args:= [.pointer (some ⟨b,0,none⟩), .int .i64 ((a.ag.ls.length:Nat):Int)]) Tryz.func19 rfl rfl rfl ?_
 show Wp _ _ _ [(0, .pointer (some ⟨b,0,none⟩)),(1, .int .i64 ((a.ag.ls.length:Nat):Int))] _ _
 refine xS (Mz rfl (Mz rfl (fw (.int .u64 ((a.ag.ls.length:Nat):Int)) (ym (e:=IntKind.u64.wrap ((a.ag.ls.length:Nat):Int)) yk (IntWalk.u64_in _ (by omega))) ?_)))
 obtain⟨I,aX⟩:∃ q,av ax a.ag.ls.length=q:=⟨_,rfl⟩
 obtain⟨kL,dU,jl,dV,jm⟩:=yu aW
 refine cl Tryz.call21 (aN _ _ b ax gQ gT a.ag.ls.length I dU (by first | omega | (dsimp only; omega) | (dsimp only [List.length_cons,List.length_nil]; omega)) aX) ?_
 rintro _ kM ⟨gU,gV,rfl,dW,aY⟩
 have dm:=dV _ _ dW
 have jo:=dm.rowC (i:=1) rfl
 replace aY:I.xb.ls.length≤ax.xb.ls.length+10:=aY
 refine xY (yA (res0 rfl) (nt (xS (Mz rfl (Mz rfl ?_)))))
 refine WL.do rfl (yC Tryz.call69 rfl ?_ (fun _ _ k=>k))
 refine xU (args:= [.func (.func 23) #[.pointer (some ⟨b,0,none⟩)] #[], .slice g a.ag.ls.length l]) Tryz.func69 rfl rfl rfl ?_
 show Wp _ _ _ [(0, .func (.func 23) #[.pointer (some ⟨b,0,none⟩)] #[]),(1, .slice g a.ag.ls.length l)] _ _
 refine sr (Mz rfl (Kz (.int .i64 ((a.ag.ls.length:Nat):Int)) (Mn rfl (bo ?_))))
 have gX:=dm.pk [0,2,3,1]
 obtain⟨dn,dY⟩:∃ q:(Nat × (Option Addr) × Nat × (List UInt8))→World→Prop,q=fun(i:Nat × (Option Addr) × Nat × (List UInt8)) w'=>Own w D w' [blk b [.slice i.2.1 i.2.2.2.length i.2.2.1] 57,row B 3 3 (List.flatMap (eN .u64) ([a.az,a.bC,a.aS])) 22 1,blk E [.int .i64 a.af, .int .u64 ((a.az:Nat):Int), .int .u64 ((a.bC:Nat):Int), .int .u64 ((a.aS:Nat):Int), .slice g a.ag.ls.length l, .slice h a.ak.ls.length m, .slice j a.aP.ls.length n] 35,row i.2.1 i.2.2.2.length i.2.2.1 (List.flatMap eB i.2.2.2) 5 1]∧(i.1≤a.ag.ls.length∧((i.2.2.2.length:Nat):Int)≤((I.xb.ls.length:Nat):Int)+40 *((i.1:Nat):Int)∧eH a a.ag.ls I.xb.ls=eH a (List.drop i.1 a.ag.ls) i.2.2.2):=⟨_,rfl⟩
 have aD:∀ {o:Nat} {Q:Option Addr} {R:Nat} {s:List UInt8} {w':World},dn (o,Q,R,s) w'↔Own w D w' [blk b [.slice Q s.length R] 57,row B 3 3 (List.flatMap (eN .u64) ([a.az,a.bC,a.aS])) 22 1,blk E [.int .i64 a.af, .int .u64 ((a.az:Nat):Int), .int .u64 ((a.bC:Nat):Int), .int .u64 ((a.aS:Nat):Int), .slice g a.ag.ls.length l, .slice h a.ak.ls.length m, .slice j a.aP.ls.length n] 35,row Q s.length R (List.flatMap eB s) 5 1]∧o≤a.ag.ls.length∧((s.length:Nat):Int)≤((I.xb.ls.length:Nat):Int)+40 *((o:Nat):Int)∧eH a a.ag.ls I.xb.ls=eH a (List.drop o a.ag.ls) s:=by intros; subst dY; exact Iff.rfl
 refine Wp.loop (fun i:Nat × (Option Addr) × Nat × (List UInt8)=> [(8, .int .i64 ((i.1:Nat):Int)),(7, .int .i64 ((a.ag.ls.length:Nat):Int)),(6, .slice g a.ag.ls.length l),(0, .func (.func 23) #[.pointer (some ⟨b,0,none⟩)] #[])]) dn (fun i=>a.ag.ls.length - i.1) (0,gU,gV,I.xb.ls) ⟨rfl,rfl,rfl,rfl,trivial⟩ (aD.2 ⟨gX,by omega,by omega,rfl⟩) ?_
 rintro ⟨o,Q,R,s⟩ kN dZ
 show Wp _ _ _ [(8, .int .i64 ((o:Nat):Int)),(7, .int .i64 ((a.ag.ls.length:Nat):Int)),(6, .slice g a.ag.ls.length l),(0, .func (.func 23) #[.pointer (some ⟨b,0,none⟩)] #[])] _ _
 obtain⟨S,jq,jr,aZ⟩:=aD.1 dZ
 refine sr (Kz (.bool (decide (((o:Nat):Int) < ((a.ag.ls.length:Nat):Int)))) (nt (xV ?_)))
 by_cases dw:((o:Nat):Int) < ((a.ag.ls.length:Nat):Int)
 obtain⟨L,aF⟩:=fE (ls:=a.ag.ls) (i:=o) aC.len (by decide) (S.ro X) (by first | omega | (simp; done) | (simp; omega))
 have d9:L.aJ.length≤12:=hsm35.2.1 _ (List.mem_of_getElem? aF)
 have ed:=drop_at aF
 refine jT (dT dw) (sk (xV (bo (sr (fw (.pointer (some ⟨ab g,ao g+o *2,none⟩)) (yh (mX) rfl rfl ((S.ro X).addr (i:=o) (by omega)) (by omega)) (fw (.agg (aC.cells L).toArray) (yl rfl (yD (cs:=(aC.cells L)) Tryz.isAgg54 Tryz.sizeOf54 ((S.ro X).elem aC.len aF (by decide)))) ?_))))))
 refine dG [.string ⟨List.toArray ([])⟩, .int .i64 0] 54 S ?_
 intro kP kQ gY
 refine cZ (aC.cells L) 0 gY Tryz.sizeOf54 ?_
 intro kR dx
 refine nt (xS (Mz rfl (La (aC.cells L) dx 0 Tryz.isAgg54 Tryz.sizeOf54 ?_)))
 have gZ:=dx.pk [1,4,0,2,3]
 obtain⟨bf,bg⟩:∃ q,gJ (aK.mk (Ll.mk s)) L=q:=⟨_,rfl⟩
 obtain⟨kT,ek,jv,eu,jw⟩:=yu gZ
 refine WL.do rfl (yB Tryz.call23 rfl rfl (kz _ _ b (aK.mk (Ll.mk s)) Q R L bf ek (by first | omega | (dsimp only; omega) | (dsimp only [List.length_cons,List.length_nil]; omega)) (by exact d9) bg) ?_)
 rintro _ kU ⟨ib,ic,rfl,eD,bi⟩
 have dz:=eu _ _ eD
 have jy:=dz.rowC (i:=1) rfl
 replace bi:bf.xb.ls.length≤s.length+40:=bi
 refine xY (bN (yg (xS (fw (.int .i64 ((o+1:Nat):Int)) (ym (e:=IntKind.i64.wrap (((o:Nat):Int)+1)) yk (by rw [A8 _ (by omega)]; omega)) (Mz rfl (xY ?_))))))
 have ig:=dz.pk [0,3,4,1]
 exact yE (o+1,ib,ic,bf.xb.ls) ⟨rfl,rfl,rfl,rfl,trivial⟩ (aD.2 ⟨ig,by omega,by omega,et (aZ) (et (congrArg (fun q=>eH a q s) ed) (ae bg))⟩) (by show a.ag.ls.length - (o+1) < a.ag.ls.length - o; omega)
 refine jF (dF dw) (Wp.exit (xX ?_))
 have eF:eH a a.ag.ls I.xb.ls=s:=et (aZ) (et (congrArg (fun q=>eH a q s) (fG (ls:=a.ag.ls) (i:=o) (by omega))) rfl)
 refine xX (yx (yA (res0 rfl) (xY (yA (res0 rfl) (ns (Mz rfl (Kz (.pointer (some ⟨E,5,none⟩)) (Lz (.slice h a.ak.ls.length m) S 2 Tryz.isAgg32 (Mz rfl (Kz (.func (.func 33) #[.pointer (some ⟨b,0,none⟩)] #[]) ?_))))))))))
 refine WL.do rfl (yC Tryz.call32 rfl ?_ (fun _ _ k=>k))
 refine xU (args:= [.pointer (some ⟨b,0,none⟩), .slice h a.ak.ls.length m, .func (.func 33) #[.pointer (some ⟨b,0,none⟩)] #[]]) Tryz.func32 rfl rfl rfl ?_
 show Wp _ _ _ [(0, .pointer (some ⟨b,0,none⟩)),(1, .slice h a.ak.ls.length m),(2, .func (.func 33) #[.pointer (some ⟨b,0,none⟩)] #[])] _ _
 refine sr (Mz rfl (Mz rfl (Kz (.int .i64 ((a.ak.ls.length:Nat):Int)) ?_)))
 refine WL.do rfl (yC Tryz.call19 rfl ?_ (fun _ _ k=>k))
 refine xU (args:= [.pointer (some ⟨b,0,none⟩), .int .i64 ((a.ak.ls.length:Nat):Int)]) Tryz.func19 rfl rfl rfl ?_
 show Wp _ _ _ [(0, .pointer (some ⟨b,0,none⟩)),(1, .int .i64 ((a.ak.ls.length:Nat):Int))] _ _
 refine xS (Mz rfl (Mz rfl (fw (.int .u64 ((a.ak.ls.length:Nat):Int)) (ym (e:=IntKind.u64.wrap ((a.ak.ls.length:Nat):Int)) yk (IntWalk.u64_in _ (by omega))) ?_)))
 have ik:=S.pk [0,3,1,2]
 obtain⟨J,bq⟩:∃ q,av (aK.mk (Ll.mk s)) a.ak.ls.length=q:=⟨_,rfl⟩
 obtain⟨kV,eG,jA,eQ,jB⟩:=yu ik
 refine cl Tryz.call21 (aN _ _ b (aK.mk (Ll.mk s)) Q R a.ak.ls.length J eG (by first | omega | (dsimp only; omega) | (dsimp only [List.length_cons,List.length_nil]; omega)) bq) ?_
 rintro _ kW ⟨il,iq,rfl,eT,bv⟩
 have dA:=eQ _ _ eT
 have jC:=dA.rowC (i:=1) rfl
 replace bv:J.xb.ls.length≤s.length+10:=bv
 refine xY (yA (res0 rfl) (nt (xS (Mz rfl (Mz rfl ?_)))))
 refine WL.do rfl (yC Tryz.call76 rfl ?_ (fun _ _ k=>k))
 refine xU (args:= [.func (.func 33) #[.pointer (some ⟨b,0,none⟩)] #[], .slice h a.ak.ls.length m]) Tryz.func76 rfl rfl rfl ?_
 show Wp _ _ _ [(0, .func (.func 33) #[.pointer (some ⟨b,0,none⟩)] #[]),(1, .slice h a.ak.ls.length m)] _ _
 refine sr (Mz rfl (Kz (.int .i64 ((a.ak.ls.length:Nat):Int)) (Mn rfl (bo ?_))))
 have iw:=dA.pk [0,2,3,1]
 obtain⟨dB,eU⟩:∃ q:(Nat × (Option Addr) × Nat × (List UInt8))→World→Prop,q=fun(i:Nat × (Option Addr) × Nat × (List UInt8)) w'=>Own w D w' [blk b [.slice i.2.1 i.2.2.2.length i.2.2.1] 57,row B 3 3 (List.flatMap (eN .u64) ([a.az,a.bC,a.aS])) 22 1,blk E [.int .i64 a.af, .int .u64 ((a.az:Nat):Int), .int .u64 ((a.bC:Nat):Int), .int .u64 ((a.aS:Nat):Int), .slice g a.ag.ls.length l, .slice h a.ak.ls.length m, .slice j a.aP.ls.length n] 35,row i.2.1 i.2.2.2.length i.2.2.1 (List.flatMap eB i.2.2.2) 5 1]∧(i.1≤a.ak.ls.length∧((i.2.2.2.length:Nat):Int)≤((J.xb.ls.length:Nat):Int)+100 *((i.1:Nat):Int)∧eO a a.ak.ls J.xb.ls=eO a (List.drop i.1 a.ak.ls) i.2.2.2):=⟨_,rfl⟩
 have aG:∀ {p:Nat} {T:Option Addr} {U:Nat} {t:List UInt8} {w':World},dB (p,T,U,t) w'↔Own w D w' [blk b [.slice T t.length U] 57,row B 3 3 (List.flatMap (eN .u64) ([a.az,a.bC,a.aS])) 22 1,blk E [.int .i64 a.af, .int .u64 ((a.az:Nat):Int), .int .u64 ((a.bC:Nat):Int), .int .u64 ((a.aS:Nat):Int), .slice g a.ag.ls.length l, .slice h a.ak.ls.length m, .slice j a.aP.ls.length n] 35,row T t.length U (List.flatMap eB t) 5 1]∧p≤a.ak.ls.length∧((t.length:Nat):Int)≤((J.xb.ls.length:Nat):Int)+100 *((p:Nat):Int)∧eO a a.ak.ls J.xb.ls=eO a (List.drop p a.ak.ls) t:=by intros; subst eU; exact Iff.rfl
 refine Wp.loop (fun i:Nat × (Option Addr) × Nat × (List UInt8)=> [(8, .int .i64 ((i.1:Nat):Int)),(7, .int .i64 ((a.ak.ls.length:Nat):Int)),(6, .slice h a.ak.ls.length m),(0, .func (.func 33) #[.pointer (some ⟨b,0,none⟩)] #[])]) dB (fun i=>a.ak.ls.length - i.1) (0,il,iq,J.xb.ls) ⟨rfl,rfl,rfl,rfl,trivial⟩ (aG.2 ⟨iw,by omega,by omega,rfl⟩) ?_
 rintro ⟨p,T,U,t⟩ kX eX
 show Wp _ _ _ [(8, .int .i64 ((p:Nat):Int)),(7, .int .i64 ((a.ak.ls.length:Nat):Int)),(6, .slice h a.ak.ls.length m),(0, .func (.func 33) #[.pointer (some ⟨b,0,none⟩)] #[])] _ _
 obtain⟨V,jD,jE,bz⟩:=aG.1 eX
 refine sr (Kz (.bool (decide (((p:Nat):Int) < ((a.ak.ls.length:Nat):Int)))) (nt (xV ?_)))
 by_cases dD:((p:Nat):Int) < ((a.ak.ls.length:Nat):Int)
 obtain⟨f,ag⟩:=fE (ls:=aj) (i:=p) au.len (by decide) (V.ro Y) (by first | omega | (simp; done) | (simp; omega))
 have bA:=jK ay ag
 have jH:=(Z _ (List.mem_of_getElem? ag)).2
 have M:(yz f).aV≤18446744073709551615∧(yz f).az≤18446744073709551615∧(yz f).bU≤18446744073709551615∧List.length (yz f).af.ls≤4:=hsm35.2.2.2.1 _ (List.mem_of_getElem? bA)
 have hz203p0:f.aV≤18446744073709551615:=by have F:=M.1; first | exact F | (simp only [yz,List.length_map] at F; exact F)
 have hz203p1:f.az≤18446744073709551615:=by have F:=M.2.1; first | exact F | (simp only [yz,List.length_map] at F; exact F)
 have hz203p2:f.bU≤18446744073709551615:=by have F:=M.2.2.1; first | exact F | (simp only [yz,List.length_map] at F; exact F)
 have hz203p3:f.af.ls.length≤4:=by have F:=M.2.2.2; first | exact F | (simp only [yz,List.length_map] at F; exact F)
 have eY:=drop_at bA
 refine jT (dT dD) (sk (xV (bo (sr (fw (.pointer (some ⟨ab h,ao h+p *5,none⟩)) (yh (rG) rfl rfl ((V.ro Y).addr (i:=p) (by omega)) (by omega)) (fw (.agg (au.cells f).toArray) (yl rfl (yD (cs:=(au.cells f)) Tryz.isAgg79 Tryz.sizeOf79 ((V.ro Y).elem au.len ag (by decide)))) ?_))))))
 refine dG [.int .u64 0, .int .i64 0, .int .u64 0, .int .u64 0, .slice none 0 0] 79 V ?_
 intro kY kZ iy
 refine cZ (au.cells f) 0 iy Tryz.sizeOf79 ?_
 intro lc dE
 refine nt (xS (Mz rfl (La (au.cells f) dE 0 Tryz.isAgg79 Tryz.sizeOf79 ?_)))
 have iA:=dE.pk [1,4,0,2,3]
 obtain⟨bC,bD⟩:∃ q,iC (aK.mk (Ll.mk t)) (bJ.mk f.aV f.aG f.az f.bU (Ll.mk f.af.ls))=q:=⟨_,rfl⟩
 obtain⟨lg,eZ,fe,fo,jI⟩:=yu iA
 refine WL.do rfl (yB Tryz.call33 rfl rfl (lI _ _ b (aK.mk (Ll.mk t)) T U (bJ.mk f.aV f.aG f.az f.bU (Ll.mk f.af.ls)) f.af.A f.af.ls.length f.af.c bC eZ rfl (fe _ (Z _ (List.mem_of_getElem? ag)).1) (show f.af.ls.length≤f.af.c∧f.af.ls.length≤9223372036854775807 from by omega) (by first | omega | (dsimp only; omega) | (dsimp only [List.length_cons,List.length_nil]; omega)) (by exact M) bD) ?_)
 rintro _ lh ⟨iB,iD,rfl,fq,bE⟩
 have dH:=fo _ _ fq
 have jJ:=dH.rowC (i:=1) rfl
 replace bE:bC.xb.ls.length≤t.length+100:=bE
 refine xY (bN (yg (xS (fw (.int .i64 ((p+1:Nat):Int)) (ym (e:=IntKind.i64.wrap (((p:Nat):Int)+1)) yk (by rw [A8 _ (by omega)]; omega)) (Mz rfl (xY ?_))))))
 have iE:=dH.pk [0,3,4,1]
 exact yE (p+1,iB,iD,bC.xb.ls) ⟨rfl,rfl,rfl,rfl,trivial⟩ (aG.2 ⟨iE,by omega,by omega,et (bz) (et (congrArg (fun q=>eO a q t) eY) (ae bD))⟩) (by show a.ak.ls.length - (p+1) < a.ak.ls.length - p; omega)
 refine jF (dF dD) (Wp.exit (xX ?_))
 have fu:eO a a.ak.ls J.xb.ls=t:=et (bz) (et (congrArg (fun q=>eO a q t) (fG (ls:=a.ak.ls) (i:=p) (by omega))) rfl)
 refine xX (yx (yA (res0 rfl) (xY (yA (res0 rfl) (ns (Mz rfl (Kz (.pointer (some ⟨E,6,none⟩)) (Lz (.slice j a.aP.ls.length n) V 2 Tryz.isAgg33 (Mz rfl (Kz (.func (.func 35) #[.pointer (some ⟨b,0,none⟩)] #[]) ?_))))))))))
 refine WL.do rfl (yC Tryz.call34 rfl ?_ (fun _ _ k=>k))
 refine xU (args:= [.pointer (some ⟨b,0,none⟩), .slice j a.aP.ls.length n, .func (.func 35) #[.pointer (some ⟨b,0,none⟩)] #[]]) Tryz.func34 rfl rfl rfl ?_
 show Wp _ _ _ [(0, .pointer (some ⟨b,0,none⟩)),(1, .slice j a.aP.ls.length n),(2, .func (.func 35) #[.pointer (some ⟨b,0,none⟩)] #[])] _ _
 refine sr (Mz rfl (Mz rfl (Kz (.int .i64 ((a.aP.ls.length:Nat):Int)) ?_)))
 refine WL.do rfl (yC Tryz.call19 rfl ?_ (fun _ _ k=>k))
 refine xU (args:= [.pointer (some ⟨b,0,none⟩), .int .i64 ((a.aP.ls.length:Nat):Int)]) Tryz.func19 rfl rfl rfl ?_
 show Wp _ _ _ [(0, .pointer (some ⟨b,0,none⟩)),(1, .int .i64 ((a.aP.ls.length:Nat):Int))] _ _
 refine xS (Mz rfl (Mz rfl (fw (.int .u64 ((a.aP.ls.length:Nat):Int)) (ym (e:=IntKind.u64.wrap ((a.aP.ls.length:Nat):Int)) yk (IntWalk.u64_in _ (by omega))) ?_)))
 have iF:=V.pk [0,3,1,2]
 obtain⟨K,bF⟩:∃ q,av (aK.mk (Ll.mk t)) a.aP.ls.length=q:=⟨_,rfl⟩
 obtain⟨ll,fA,jM,fB,jN⟩:=yu iF
 refine cl Tryz.call21 (aN _ _ b (aK.mk (Ll.mk t)) T U a.aP.ls.length K fA (by first | omega | (dsimp only; omega) | (dsimp only [List.length_cons,List.length_nil]; omega)) bF) ?_
 rintro _ lm ⟨iG,iH,rfl,fC,bG⟩
 have dI:=fB _ _ fC
 have jO:=dI.rowC (i:=1) rfl
 replace bG:K.xb.ls.length≤t.length+10:=bG
 refine xY (yA (res0 rfl) (nt (xS (Mz rfl (Mz rfl ?_)))))
 refine WL.do rfl (yC Tryz.call78 rfl ?_ (fun _ _ k=>k))
 refine xU (args:= [.func (.func 35) #[.pointer (some ⟨b,0,none⟩)] #[], .slice j a.aP.ls.length n]) Tryz.func78 rfl rfl rfl ?_
 show Wp _ _ _ [(0, .func (.func 35) #[.pointer (some ⟨b,0,none⟩)] #[]),(1, .slice j a.aP.ls.length n)] _ _
 refine sr (Mz rfl (Kz (.int .i64 ((a.aP.ls.length:Nat):Int)) (Mn rfl (bo ?_))))
 have iI:=dI.pk [0,2,3,1]
 obtain⟨dJ,fD⟩:∃ q:(Nat × (Option Addr) × Nat × (List UInt8))→World→Prop,q=fun(i:Nat × (Option Addr) × Nat × (List UInt8)) w'=>Own w D w' [blk b [.slice i.2.1 i.2.2.2.length i.2.2.1] 57,row B 3 3 (List.flatMap (eN .u64) ([a.az,a.bC,a.aS])) 22 1,blk E [.int .i64 a.af, .int .u64 ((a.az:Nat):Int), .int .u64 ((a.bC:Nat):Int), .int .u64 ((a.aS:Nat):Int), .slice g a.ag.ls.length l, .slice h a.ak.ls.length m, .slice j a.aP.ls.length n] 35,row i.2.1 i.2.2.2.length i.2.2.1 (List.flatMap eB i.2.2.2) 5 1]∧(i.1≤a.aP.ls.length∧((i.2.2.2.length:Nat):Int)≤((K.xb.ls.length:Nat):Int)+8000 *((i.1:Nat):Int)∧eP a.aP.ls K.xb.ls=eP (List.drop i.1 a.aP.ls) i.2.2.2):=⟨_,rfl⟩
 have aH:∀ {r:Nat} {N:Option Addr} {O:Nat} {u:List UInt8} {w':World},dJ (r,N,O,u) w'↔Own w D w' [blk b [.slice N u.length O] 57,row B 3 3 (List.flatMap (eN .u64) ([a.az,a.bC,a.aS])) 22 1,blk E [.int .i64 a.af, .int .u64 ((a.az:Nat):Int), .int .u64 ((a.bC:Nat):Int), .int .u64 ((a.aS:Nat):Int), .slice g a.ag.ls.length l, .slice h a.ak.ls.length m, .slice j a.aP.ls.length n] 35,row N u.length O (List.flatMap eB u) 5 1]∧r≤a.aP.ls.length∧((u.length:Nat):Int)≤((K.xb.ls.length:Nat):Int)+8000 *((r:Nat):Int)∧eP a.aP.ls K.xb.ls=eP (List.drop r a.aP.ls) u:=by intros; subst fD; exact Iff.rfl
 refine Wp.loop (fun i:Nat × (Option Addr) × Nat × (List UInt8)=> [(8, .int .i64 ((i.1:Nat):Int)),(7, .int .i64 ((a.aP.ls.length:Nat):Int)),(6, .slice j a.aP.ls.length n),(0, .func (.func 35) #[.pointer (some ⟨b,0,none⟩)] #[])]) dJ (fun i=>a.aP.ls.length - i.1) (0,iG,iH,K.xb.ls) ⟨rfl,rfl,rfl,rfl,trivial⟩ (aH.2 ⟨iI,by omega,by omega,rfl⟩) ?_
 rintro ⟨r,N,O,u⟩ lq fF
 show Wp _ _ _ [(8, .int .i64 ((r:Nat):Int)),(7, .int .i64 ((a.aP.ls.length:Nat):Int)),(6, .slice j a.aP.ls.length n),(0, .func (.func 35) #[.pointer (some ⟨b,0,none⟩)] #[])] _ _
 obtain⟨W,jP,jQ,bI⟩:=aH.1 fF
 refine sr (Kz (.bool (decide (((r:Nat):Int) < ((a.aP.ls.length:Nat):Int)))) (nt (xV ?_)))
 by_cases dK:((r:Nat):Int) < ((a.aP.ls.length:Nat):Int)
 obtain⟨d,G⟩:=fE (ls:=ak) (i:=r) aM.len (by decide) (W.ro aa) (by first | omega | (simp; done) | (simp; omega))
 have bK:=jK aB G
 have jS:=(C _ (List.mem_of_getElem? G)).2.1
 have jU:List.length (List.map xZ d.ah.ls)=d.ah.ls.length:=List.length_map ..
 have ai:(yG d).az≤18446744073709551615∧(yG d).bU≤18446744073709551615∧List.length (yG d).ah.ls≤24∧∀ z ∈ (yG d).ah.ls,z.aB.length≤16∧z.ay.ls.length≤4∧∀ q ∈ z.ay.ls,q.aY.length≤12∧q.aB.length≤16:=hsm35.2.2.2.2.2.1 _ (List.mem_of_getElem? bK)
 have hz263p0:d.az≤18446744073709551615:=by have F:=ai.1; first | exact F | (simp only [yG,List.length_map] at F; exact F)
 have hz263p1:d.bU≤18446744073709551615:=by have F:=ai.2.1; first | exact F | (simp only [yG,List.length_map] at F; exact F)
 have hz263p2:d.ah.ls.length≤24:=by have F:=ai.2.2.1; first | exact F | (simp only [yG,List.length_map] at F; exact F)
 have fH:=drop_at bK
 refine jT (dT dK) (sk (xV (bo (sr (fw (.pointer (some ⟨ab j,ao j+r *4,none⟩)) (yh (rH) rfl rfl ((W.ro aa).addr (i:=r) (by omega)) (by omega)) (fw (.agg (aM.cells d).toArray) (yl rfl (yD (cs:=(aM.cells d)) Tryz.isAgg84 Tryz.sizeOf84 ((W.ro aa).elem aM.len G (by decide)))) ?_))))))
 refine dG [.int .i64 0, .int .u64 0, .int .u64 0, .slice none 0 0] 84 W ?_
 intro lu lv iJ
 refine cZ (aM.cells d) 0 iJ Tryz.sizeOf84 ?_
 intro lw dL
 refine nt (xS (Mz rfl (La (aM.cells d) dL 0 Tryz.isAgg84 Tryz.sizeOf84 ?_)))
 have iK:=dL.pk [1,4,0,2,3]
 obtain⟨bM,bO⟩:∃ q,ji (aK.mk (Ll.mk u)) (dX.mk d.aG d.az d.bU (Ll.mk (List.map xZ d.ah.ls)))=q:=⟨_,rfl⟩
 obtain⟨lC,fI,bP,fK,jV⟩:=yu iK
 refine WL.do rfl (yB Tryz.call35 rfl rfl (mM _ _ b (aK.mk (Ll.mk u)) N O (dX.mk d.aG d.az d.bU (Ll.mk (List.map xZ d.ah.ls))) d.ah.A d.ah.ls.length d.ah.c d.ah.ls bM fI (rfl:List.map xZ d.ah.ls=List.map xZ d.ah.ls) (by first | rfl | omega | (simp only [List.length_append,List.length_cons,List.length_nil,List.length_take,List.length_drop,List.length_set,List.length_replicate,List.length_map] <;> omega)) (fun w9 h9=>wM (bV (rfl:List.map xZ d.ah.ls=List.map xZ d.ah.ls)) ((bP _ (C _ (List.mem_of_getElem? G)).1) w9 h9)) (show List.length (List.map xZ d.ah.ls)≤d.ah.c∧List.length (List.map xZ d.ah.ls)≤9223372036854775807 from by omega) (fun x9 h9=>⟨bP _ ((C _ (List.mem_of_getElem? G)).2.2 x9 h9).1,((C _ (List.mem_of_getElem? G)).2.2 x9 h9).2⟩) (by first | omega | (dsimp only; omega) | (dsimp only [List.length_cons,List.length_nil]; omega)) (by exact ai) bO) ?_)
 rintro _ lD ⟨iL,iM,rfl,fM,bQ⟩
 have dM:=fK _ _ fM
 have jW:=dM.rowC (i:=1) rfl
 replace bQ:bM.xb.ls.length≤u.length+8000:=bQ
 refine xY (bN (yg (xS (fw (.int .i64 ((r+1:Nat):Int)) (ym (e:=IntKind.i64.wrap (((r:Nat):Int)+1)) yk (by rw [A8 _ (by omega)]; omega)) (Mz rfl (xY ?_))))))
 have iO:=dM.pk [0,3,4,1]
 exact yE (r+1,iL,iM,bM.xb.ls) ⟨rfl,rfl,rfl,rfl,trivial⟩ (aH.2 ⟨iO,by omega,by omega,et (bI) (et (congrArg (fun q=>eP q u) fH) (ae bO))⟩) (by show a.aP.ls.length - (r+1) < a.aP.ls.length - r; omega)
 refine jF (dF dK) (Wp.exit (xX ?_))
 have fO:eP a.aP.ls K.xb.ls=u:=et (bI) (et (congrArg (fun q=>eP q u) (fG (ls:=a.aP.ls) (i:=r) (by omega))) rfl)
 refine xX (yx (yA (res0 rfl) (xY (yA (res0 rfl) (ns (Mz rfl (Kz (.pointer (some ⟨b,0,none⟩)) (Kz (.pointer (some ⟨b,0,none⟩)) (Lz (.slice N u.length O) W 0 Tryz.isAgg37 (Az rfl (An rfl (rt (yI (rz rfl rfl rfl) ?_)))))))))))))
 have iP:=W.pk [3]
 have e:fZ a=(u,0):=et (ae aI) (et (ip bT) (et (ae cB) (et (ae cO) (et (ae dh) (et (ae aT) (et (ae aX) (et (ae eF) (et (ae bq) (et (ae fu) (et (ae bF) (ae fO)))))))))))
 obtain⟨rfl,rfl⟩:=gD (e.symm.trans hr)
 exact⟨N,O,rfl,iP,(by first | omega | exact A9 _)⟩
 refine jT (dT bT) (sr (Mz rfl (Az rfl (An rfl (rt (tR (yI (rz rfl rfl rfl) ?_)))))))
 have iQ:Own w D iX [row none 0 0 (List.flatMap eB ([])) 5 1,blk E [.int .i64 a.af, .int .u64 ((a.az:Nat):Int), .int .u64 ((a.bC:Nat):Int), .int .u64 ((a.aS:Nat):Int), .slice g a.ag.ls.length l, .slice h a.ak.ls.length m, .slice j a.aP.ls.length n] 35]:=gp.free (fU 5 1)
 have iR:=iQ.pk [0]
 have e:fZ a=([],aL):=et (ae aI) (iN bT)
 obtain⟨rfl,rfl⟩:=gD (e.symm.trans hr)
 exact⟨none,0,rfl,iR,(by first | omega | exact A9 _)⟩
end Go.Proofs.YtcnkpjheifkgnaaGreat
