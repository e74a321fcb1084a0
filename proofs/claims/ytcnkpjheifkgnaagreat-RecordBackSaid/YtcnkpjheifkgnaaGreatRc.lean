/-
 record: states' bytes.
-/
import Derived.Test.YtcnkpjheifkgnaaGreatRb
namespace Go.Proofs.YtcnkpjheifkgnaaGreat
set_option maxRecDepth 100000
open Go.RowKit
set_option linter.unusedVariables false
set_option linter.unusedSectionVars false
set_option linter.unusedSimpArgs false
def fq (e:bP):List aH→List UInt8→(List UInt8)
  | [],a=>a
  | c::d,a=>bnd (iy (aQ.mk (Ll.mk a)) c) fun b=>fq e d b.xb.ls
def fu (e:bP):List fK→List UInt8→(List UInt8)
  | [],a=>a
  | b::d,a=>bnd (jE (aQ.mk (Ll.mk a)) (fK.mk b.aS (Ll.mk b.aL.ls))) fun c=>fu e d c.xb.ls
def fA (e:bP):List Nat→List UInt8→(List UInt8)
  | [],a=>a
  | c::d,a=>bnd (aA (aQ.mk (Ll.mk a)) c) fun b=>fA e d b.xb.ls
def gm (a:bP):(List UInt8) × Int:=
 bnd (bG a) fun b=>if b=0 then bnd (aA (aQ.mk (Ll.mk ([83]))) (Int.toNat (IntKind.u64.wrap a.iw))) fun q=>bnd (aA q a.au) fun r=>bnd (aA r a.aY) fun s=>bnd (aA s a.aK) fun c=>bnd (aA c a.bg) fun d=>bnd (aA d a.ag.ls.length) fun e=>bnd (fq a a.ag.ls e.xb.ls) fun sLrbtbbbbbbL=>bnd (aA (aQ.mk (Ll.mk sLrbtbbbbbbL)) a.aD.ls.length) fun f=>bnd (fu a a.aD.ls f.xb.ls) fun sLrbtbbbbbbLabL=>bnd (aA (aQ.mk (Ll.mk sLrbtbbbbbbLabL)) a.aj.ls.length) fun g=>bnd (fA a a.aj.ls g.xb.ls) fun sLrbtbbbbbbLabLabL=>bnd (aA (aQ.mk (Ll.mk sLrbtbbbbbbLabLabL)) a.gU) fun h=>bnd (aA h a.cu) fun i=>bnd (bD i a.aZ.aJ) fun j=>bnd (bD j a.aZ.aN) fun k=>bnd (aA k a.aT.bg) fun l=>bnd (aA l a.aT.bv) fun m=>bnd (aA m a.aT.cz) fun n=>bnd (bD n a.aT.aO.aJ) fun o=>bnd (bD o a.aT.aO.aN) fun p=>(p.xb.ls,0) else([],b)
set_option maxHeartbeats 4000000 in
theorem kg (w:World) (D:Nat→Prop) (a:bP) (d:Option Addr) (d9 h:Nat) (f:Option Addr) (ed j:Nat) (Z:List aP) (g:Option Addr) (ek l:Nat) (r0:List UInt8) (r1:Int) (H:Own w D w []) (fJ:d9=a.ag.ls.length) (U:Ro w D fun w'=>bn w' 2 d a.ag.ls.length (List.flatMap aH.cells a.ag.ls)) (lX:a.ag.ls.length≤h∧a.ag.ls.length≤9223372036854775807) (aF:List.map zV Z=a.aD.ls) (fM:ed=a.aD.ls.length) (V:Ro w D fun w'=>bn w' 2 f a.aD.ls.length (List.flatMap aP.cells Z)) (lY:a.aD.ls.length≤j∧a.aD.ls.length≤9223372036854775807) (W:∀ x ∈ Z,Ro w D (fun w'=>bn w' 6 x.aL.A x.aL.ls.length (List.flatMap aW.cells x.aL.ls))∧(x.aL.ls.length≤x.aL.c∧x.aL.ls.length≤9223372036854775807)) (fO:ek=a.aj.ls.length) (X:Ro w D fun w'=>bn w' 1 g a.aj.ls.length (List.flatMap (eN .u64) a.aj.ls)) (lZ:a.aj.ls.length≤l∧a.aj.ls.length≤9223372036854775807) (qN:a.ag.ls.length≤140737488355328∧a.aD.ls.length≤140737488355328∧a.aj.ls.length≤140737488355328) (l5:nE a) (hr:gm a=(r0,r1)):
    Calls Tryz.prog 7 #[.agg (bM a.iw a.au a.aY a.aK a.bg d d9 h f ed j g ek l a.gU a.cu a.aZ.aJ a.aZ.aN a.aT.bg a.aT.bv a.aT.cz a.aT.aO.aJ a.aT.aO.aN).toArray] w (dE fun v w'=> ∃ (B0:Option Addr) (b0:Nat),v= .tuple #[.slice B0 r0.length b0, .int .i64 r1]∧Own w D w' [row B0 r0.length b0 (List.flatMap eB r0) 5 1]∧(r0.length≤100000)):=by
 subst fJ fM fO
 have hdl0x1:=bS aF
 refine zg (args:= [.agg (bQ a d h f j g l).toArray]) Tryz.func7 rfl rfl rfl ?_
 show Wp _ _ _ [(0, .agg (bQ a d h f j g l).toArray)] _ _
 refine sr ?_
 refine dC (bQ a d h f j g l) 31 H ?_
 intro m qO jH
 refine Az rfl (An rfl (ze (sr (La (bQ a d h f j g l) jH 0 Tryz.isAgg31 Tryz.sizeOf31 ?_))))
 obtain⟨bA,aO⟩:∃ q,bG a=q:=⟨_,rfl⟩
 obtain⟨qP,jI,aT,jJ,oF⟩:=zt jH
 refine cl Tryz.call11 (kv _ _ a d a.ag.ls.length h f a.aD.ls.length j Z g a.aj.ls.length l bA jI rfl (aT _ U) (show a.ag.ls.length≤h∧a.ag.ls.length≤9223372036854775807 from by omega) aF rfl (aT _ V) (show a.aD.ls.length≤j∧a.aD.ls.length≤9223372036854775807 from by omega) (fun x9 h9=>⟨aT _ (W x9 h9).1,(W x9 h9).2⟩) rfl (aT _ X) (show a.aj.ls.length≤l∧a.aj.ls.length≤9223372036854775807 from by omega) (by first | omega | (dsimp only; omega) | (simp only [List.length_nil]; omega) | decide) aO) ?_
 rintro _ l6 ⟨rfl,jK⟩
 have jL:=jJ _ _ jK
 refine Ar rfl (Mz rfl (fw (.bool (decide (¬ (bA=0)))) (zF (e:= !(decide (bA=0))) yk decide_not.symm) (nt ?_)))
 by_cases dW:bA=0
 refine jF (dF (Ce dW)) (sk (sr ?_))
 have hsm35:=tH (by rw [aO]; omega) l5
 have oI:a.ag.ls.length≤6:=hsm35.1
 have oJ:a.aD.ls.length≤6:=hsm35.2.2.1
 have oK:a.aj.ls.length≤64:=hsm35.2.2.2.2.1
 have oL:a.aZ.aJ.length≤12∧a.aZ.aN.length≤12∧a.aT.aO.aJ.length≤12∧a.aT.aO.aN.length≤12:=hsm35.2.2.2.2.2.2.1
 have oM:a.au≤18446744073709551615:=hsm35.2.2.2.2.2.2.2.1
 have oN:a.aY≤18446744073709551615:=hsm35.2.2.2.2.2.2.2.2.1
 have oO:a.aK≤18446744073709551615:=hsm35.2.2.2.2.2.2.2.2.2.1
 have oP:a.bg≤18446744073709551615:=hsm35.2.2.2.2.2.2.2.2.2.2.1
 have oQ:a.gU≤18446744073709551615:=hsm35.2.2.2.2.2.2.2.2.2.2.2.1
 have oU:a.cu≤18446744073709551615:=hsm35.2.2.2.2.2.2.2.2.2.2.2.2.1
 have oV:a.aT.bg≤18446744073709551615:=hsm35.2.2.2.2.2.2.2.2.2.2.2.2.2.1
 have oW:a.aT.bv≤18446744073709551615:=hsm35.2.2.2.2.2.2.2.2.2.2.2.2.2.2.1
 have oZ:a.aT.cz≤18446744073709551615:=hsm35.2.2.2.2.2.2.2.2.2.2.2.2.2.2.2
 refine kF [.int .u8 83] 5 1 1 jL ?_
 intro dX qQ fP
 replace fP:=zY (y:=row dX 1 1 (List.flatMap eB ([83])) 5 1) rfl fP
 refine Kz (.agg #[.slice dX 1 1]) ?_
 refine dC [.slice dX 1 1] 57 fP ?_
 intro b qR jM
 refine Ar rfl (Mz rfl (Kz (.pointer (some ⟨m,0,none⟩)) (Lz (.int .i64 a.iw) jM 2 Tryz.isAgg3 ?_)))
 refine WL.do rfl (zI Tryz.call19 rfl ?_ (fun _ _ k=>k))
 refine zg (args:= [.pointer (some ⟨b,0,none⟩), .int .i64 a.iw]) Tryz.func19 rfl rfl rfl ?_
 show Wp _ _ _ [(0, .pointer (some ⟨b,0,none⟩)),(1, .int .i64 a.iw)] _ _
 refine zb (Mz rfl (Mz rfl ?_))
 have o5:Int.toNat (IntKind.u64.wrap a.iw)≤18446744073709551615:=jW _
 refine fw (.int .u64 ((Int.toNat (IntKind.u64.wrap a.iw):Nat):Int)) (zy (e:=IntKind.u64.wrap a.iw) yk (gI _)) ?_
 obtain⟨bB,eu⟩:∃ q,aA (aQ.mk (Ll.mk ([83]))) (Int.toNat (IntKind.u64.wrap a.iw))=q:=⟨_,rfl⟩
 obtain⟨qU,jN,o6,jO,o7⟩:=zB jM
 refine cl Tryz.call21 (aR _ _ b (aQ.mk (Ll.mk ([83]))) dX 1 (Int.toNat (IntKind.u64.wrap a.iw)) bB jN (by first | omega | (dsimp only; omega) | (dsimp only [List.length_cons,List.length_nil]; omega)) eu) ?_
 rintro _ qV ⟨l7,l8,rfl,jP,eD⟩
 have bz:=jO _ _ jP
 have o8:=bz.rowC (i:=1) rfl
 replace eD:bB.xb.ls.length≤1+10:=eD
 refine zq (zC (res0 rfl) (ns (Mz rfl (Kz (.func (.func 21) #[.pointer (some ⟨b,0,none⟩)] #[]) (Kz (.pointer (some ⟨m,1,none⟩)) (Lz (.int .u64 ((a.au:Nat):Int)) bz 2 Tryz.isAgg22 (Kz (.pointer (some ⟨m,2,none⟩)) (Lz (.int .u64 ((a.aY:Nat):Int)) bz 2 Tryz.isAgg22 (Kz (.pointer (some ⟨m,3,none⟩)) (Lz (.int .u64 ((a.aK:Nat):Int)) bz 2 Tryz.isAgg22 (Kz (.pointer (some ⟨m,4,none⟩)) (Lz (.int .u64 ((a.bg:Nat):Int)) bz 2 Tryz.isAgg22 ?_))))))))))))
 refine kF [.int .u64 ((a.au:Nat):Int), .int .u64 ((a.aY:Nat):Int), .int .u64 ((a.aK:Nat):Int), .int .u64 ((a.bg:Nat):Int)] 22 1 4 bz ?_
 intro z qW bC
 replace bC:=zY (y:=row z 4 4 (List.flatMap (eN .u64) ([a.au,a.aY,a.aK,a.bg])) 22 1) rfl bC
 refine WL.do rfl (zI Tryz.call20 rfl ?_ (fun _ _ k=>k))
 refine zg (args:= [.func (.func 21) #[.pointer (some ⟨b,0,none⟩)] #[], .slice z 4 4]) Tryz.func20 rfl rfl rfl ?_
 show Wp _ _ _ [(0, .func (.func 21) #[.pointer (some ⟨b,0,none⟩)] #[]),(1, .slice z 4 4)] _ _
 refine sr (Mz rfl (Kz (.int .i64 4) (Mn rfl (bo (Ah 200 (sr (Kz (.bool true) (nt (ze (jt (sk (ze (bo (sr ?_))))))))))))))
 have jQ:([a.au,a.aY,a.aK,a.bg]:List Nat)[0]? =some a.au:=rfl
 refine fw (.pointer (some ⟨ab z,ao z+0 *1,none⟩)) (zn (jR) rfl rfl ((bC.rds (i:=0) rfl).addr (i:=0) (by omega)) (by omega)) (fw (.int .u64 ((a.au:Nat):Int)) (zi rfl (bf.one Tryz.isAgg22 (((bC.rds (i:=0) rfl).elem ib jQ (by decide)).at_ (k:=0) rfl))) (An rfl (zb (Mz rfl (Mz rfl ?_)))))
 have l9:=bC.pk [1,2,0,3]
 obtain⟨bE,eG⟩:∃ q,aA bB a.au=q:=⟨_,rfl⟩
 obtain⟨qX,jS,o9,jU,pg⟩:=zB l9
 refine WL.do rfl (zK Tryz.call21 rfl rfl (aR _ _ b bB l7 l8 a.au bE jS (by first | omega | (dsimp only; omega) | (dsimp only [List.length_cons,List.length_nil]; omega)) eG) ?_)
 rintro _ qY ⟨ma,mf,rfl,jV,eO⟩
 have dY:=jU _ _ jV
 have pq:=dY.rowC (i:=1) rfl
 replace eO:bE.xb.ls.length≤bB.xb.ls.length+10:=eO
 refine zq (bN (zu (zb (Kz (.int .i64 1) (Mz rfl (zq (zR [(8, .int .i64 1),(7, .int .i64 4),(6, .slice z 4 4),(0, .func (.func 21) #[.pointer (some ⟨b,0,none⟩)] #[])] ⟨rfl,rfl,rfl,rfl,trivial⟩ (sr (Kz (.bool true) (nt (ze (jt (sk (ze (bo (sr ?_))))))))))))))))
 have jX:([a.au,a.aY,a.aK,a.bg]:List Nat)[1]? =some a.aY:=rfl
 refine fw (.pointer (some ⟨ab z,ao z+1 *1,none⟩)) (zn (jR) rfl rfl ((dY.rds (i:=2) rfl).addr (i:=1) (by omega)) (by omega)) (fw (.int .u64 ((a.aY:Nat):Int)) (zi rfl (bf.one Tryz.isAgg22 (((dY.rds (i:=2) rfl).elem ib jX (by decide)).at_ (k:=0) rfl))) (An rfl (zb (Mz rfl (Mz rfl ?_)))))
 obtain⟨bF,eP⟩:∃ q,aA bE a.aY=q:=⟨_,rfl⟩
 obtain⟨qZ,jY,pu,jZ,pz⟩:=zB dY
 refine WL.do rfl (zK Tryz.call21 rfl rfl (aR _ _ b bE ma mf a.aY bF jY (by first | omega | (dsimp only; omega) | (dsimp only [List.length_cons,List.length_nil]; omega)) eP) ?_)
 rintro _ q8 ⟨j3,j4,rfl,j5,bH⟩
 have dZ:=jZ _ _ j5
 have mg:=dZ.rowC (i:=1) rfl
 replace bH:bF.xb.ls.length≤bE.xb.ls.length+10:=bH
 refine zq (bN (zu (zb (Kz (.int .i64 2) (Mz rfl (zq (zR [(8, .int .i64 2),(7, .int .i64 4),(6, .slice z 4 4),(0, .func (.func 21) #[.pointer (some ⟨b,0,none⟩)] #[])] ⟨rfl,rfl,rfl,rfl,trivial⟩ (sr (Kz (.bool true) (nt (ze (jt (sk (ze (bo (sr ?_))))))))))))))))
 have fQ:([a.au,a.aY,a.aK,a.bg]:List Nat)[2]? =some a.aK:=rfl
 refine fw (.pointer (some ⟨ab z,ao z+2 *1,none⟩)) (zn (jR) rfl rfl ((dZ.rds (i:=2) rfl).addr (i:=2) (by omega)) (by omega)) (fw (.int .u64 ((a.aK:Nat):Int)) (zi rfl (bf.one Tryz.isAgg22 (((dZ.rds (i:=2) rfl).elem ib fQ (by decide)).at_ (k:=0) rfl))) (An rfl (zb (Mz rfl (Mz rfl ?_)))))
 obtain⟨aa,bI⟩:∃ q,aA bF a.aK=q:=⟨_,rfl⟩
 obtain⟨pE,fT,mh,fU,mi⟩:=zB dZ
 refine WL.do rfl (zK Tryz.call21 rfl rfl (aR _ _ b bF j3 j4 a.aK aa fT (by first | omega | (dsimp only; omega) | (dsimp only [List.length_cons,List.length_nil]; omega)) bI) ?_)
 rintro _ pF ⟨j6,ko,rfl,fV,bJ⟩
 have aU:=fU _ _ fV
 have mo:=aU.rowC (i:=1) rfl
 replace bJ:aa.xb.ls.length≤bF.xb.ls.length+10:=bJ
 refine zq (bN (zu (zb (Kz (.int .i64 3) (Mz rfl (zq (zR [(8, .int .i64 3),(7, .int .i64 4),(6, .slice z 4 4),(0, .func (.func 21) #[.pointer (some ⟨b,0,none⟩)] #[])] ⟨rfl,rfl,rfl,rfl,trivial⟩ (sr (Kz (.bool true) (nt (ze (jt (sk (ze (bo (sr ?_))))))))))))))))
 have fZ:([a.au,a.aY,a.aK,a.bg]:List Nat)[3]? =some a.bg:=rfl
 refine fw (.pointer (some ⟨ab z,ao z+3 *1,none⟩)) (zn (jR) rfl rfl ((aU.rds (i:=2) rfl).addr (i:=3) (by omega)) (by omega)) (fw (.int .u64 ((a.bg:Nat):Int)) (zi rfl (bf.one Tryz.isAgg22 (((aU.rds (i:=2) rfl).elem ib fZ (by decide)).at_ (k:=0) rfl))) (An rfl (zb (Mz rfl (Mz rfl ?_)))))
 obtain⟨af,bK⟩:∃ q,aA aa a.bg=q:=⟨_,rfl⟩
 obtain⟨pG,gp,mq,gq,mr⟩:=zB aU
 refine WL.do rfl (zK Tryz.call21 rfl rfl (aR _ _ b aa j6 ko a.bg af gp (by first | omega | (dsimp only; omega) | (dsimp only [List.length_cons,List.length_nil]; omega)) bK) ?_)
 rintro _ pI ⟨kr,ku,rfl,gu,bL⟩
 have bO:=gq _ _ gu
 have mD:=bO.rowC (i:=1) rfl
 replace bL:af.xb.ls.length≤aa.xb.ls.length+10:=bL
 refine zq (bN (zu (zb (Kz (.int .i64 4) (Mz rfl (zq (zR [(8, .int .i64 4),(7, .int .i64 4),(6, .slice z 4 4),(0, .func (.func 21) #[.pointer (some ⟨b,0,none⟩)] #[])] ⟨rfl,rfl,rfl,rfl,trivial⟩ (sr (Kz (.bool false) (nt (ze (jf (Wp.exit (zk (zk (zA (zC (res0 rfl) (ns (Mz rfl (Kz (.pointer (some ⟨m,5,none⟩)) (Lz (.slice d a.ag.ls.length h) bO 3 Tryz.isAgg23 (Mz rfl (Kz (.func (.func 23) #[.pointer (some ⟨b,0,none⟩)] #[]) ?_)))))))))))))))))))))))
 refine WL.do rfl (zI Tryz.call22 rfl ?_ (fun _ _ k=>k))
 refine zg (args:= [.pointer (some ⟨b,0,none⟩), .slice d a.ag.ls.length h, .func (.func 23) #[.pointer (some ⟨b,0,none⟩)] #[]]) Tryz.func22 rfl rfl rfl ?_
 show Wp _ _ _ [(0, .pointer (some ⟨b,0,none⟩)),(1, .slice d a.ag.ls.length h),(2, .func (.func 23) #[.pointer (some ⟨b,0,none⟩)] #[])] _ _
 refine sr (Mz rfl (Mz rfl (Kz (.int .i64 ((a.ag.ls.length:Nat):Int)) ?_)))
 refine WL.do rfl (zI Tryz.call19 rfl ?_ (fun _ _ k=>k))
 refine zg (args:= [.pointer (some ⟨b,0,none⟩), .int .i64 ((a.ag.ls.length:Nat):Int)]) Tryz.func19 rfl rfl rfl ?_
 show Wp _ _ _ [(0, .pointer (some ⟨b,0,none⟩)),(1, .int .i64 ((a.ag.ls.length:Nat):Int))] _ _
 refine zb (Mz rfl (Mz rfl (fw (.int .u64 ((a.ag.ls.length:Nat):Int)) (zy (e:=IntKind.u64.wrap ((a.ag.ls.length:Nat):Int)) yk (IntWalk.u64_in _ (by omega))) ?_)))
 obtain⟨G,bR⟩:∃ q,aA af a.ag.ls.length=q:=⟨_,rfl⟩
 obtain⟨pJ,gy,mE,gz,mG⟩:=zB bO
 refine cl Tryz.call21 (aR _ _ b af kr ku a.ag.ls.length G gy (by first | omega | (dsimp only; omega) | (dsimp only [List.length_cons,List.length_nil]; omega)) bR) ?_
 rintro _ pK ⟨kw,ky,rfl,gB,bT⟩
 have eQ:=gz _ _ gB
 have mH:=eQ.rowC (i:=1) rfl
 replace bT:G.xb.ls.length≤af.xb.ls.length+10:=bT
 refine zq (zC (res0 rfl) (nt (zb (Mz rfl (Mz rfl ?_)))))
 refine WL.do rfl (zI Tryz.call69 rfl ?_ (fun _ _ k=>k))
 refine zg (args:= [.func (.func 23) #[.pointer (some ⟨b,0,none⟩)] #[], .slice d a.ag.ls.length h]) Tryz.func69 rfl rfl rfl ?_
 show Wp _ _ _ [(0, .func (.func 23) #[.pointer (some ⟨b,0,none⟩)] #[]),(1, .slice d a.ag.ls.length h)] _ _
 refine sr (Mz rfl (Kz (.int .i64 ((a.ag.ls.length:Nat):Int)) (Mn rfl (bo ?_))))
 have kz:=eQ.pk [0,2,3,1]
 obtain⟨eT,gD⟩:∃ q:(Nat × (Option Addr) × Nat × (List UInt8))→World→Prop,q=fun(i:Nat × (Option Addr) × Nat × (List UInt8)) w'=>Own w D w' [blk b [.slice i.2.1 i.2.2.2.length i.2.2.1] 57,row z 4 4 (List.flatMap (eN .u64) ([a.au,a.aY,a.aK,a.bg])) 22 1,blk m (bQ a d h f j g l) 31,row i.2.1 i.2.2.2.length i.2.2.1 (List.flatMap eB i.2.2.2) 5 1]∧(i.1≤a.ag.ls.length∧((i.2.2.2.length:Nat):Int)≤((G.xb.ls.length:Nat):Int)+40 *((i.1:Nat):Int)∧fq a a.ag.ls G.xb.ls=fq a (List.drop i.1 a.ag.ls) i.2.2.2):=⟨_,rfl⟩
 have aG:∀ {o:Nat} {M:Option Addr} {N:Nat} {s:List UInt8} {w':World},eT (o,M,N,s) w'↔Own w D w' [blk b [.slice M s.length N] 57,row z 4 4 (List.flatMap (eN .u64) ([a.au,a.aY,a.aK,a.bg])) 22 1,blk m (bQ a d h f j g l) 31,row M s.length N (List.flatMap eB s) 5 1]∧o≤a.ag.ls.length∧((s.length:Nat):Int)≤((G.xb.ls.length:Nat):Int)+40 *((o:Nat):Int)∧fq a a.ag.ls G.xb.ls=fq a (List.drop o a.ag.ls) s:=by intros; subst gD; exact Iff.rfl
 refine Wp.loop (fun i:Nat × (Option Addr) × Nat × (List UInt8)=> [(8, .int .i64 ((i.1:Nat):Int)),(7, .int .i64 ((a.ag.ls.length:Nat):Int)),(6, .slice d a.ag.ls.length h),(0, .func (.func 23) #[.pointer (some ⟨b,0,none⟩)] #[])]) eT (fun i=>a.ag.ls.length - i.1) (0,kw,ky,G.xb.ls) ⟨rfl,rfl,rfl,rfl,trivial⟩ (aG.2 ⟨kz,by omega,by omega,rfl⟩) ?_
 rintro ⟨o,M,N,s⟩ pM gF
 show Wp _ _ _ [(8, .int .i64 ((o:Nat):Int)),(7, .int .i64 ((a.ag.ls.length:Nat):Int)),(6, .slice d a.ag.ls.length h),(0, .func (.func 23) #[.pointer (some ⟨b,0,none⟩)] #[])] _ _
 obtain⟨O,mI,mJ,bU⟩:=aG.1 gF
 refine sr (Kz (.bool (decide (((o:Nat):Int) < ((a.ag.ls.length:Nat):Int)))) (nt (ze ?_)))
 by_cases eU:((o:Nat):Int) < ((a.ag.ls.length:Nat):Int)
 obtain⟨K,aI⟩:=eH (ls:=a.ag.ls) (i:=o) aH.len (by decide) (O.ro U) (by first | omega | (simp; done) | (simp; omega))
 have gG:K.aJ.length≤12:=hsm35.2.1 _ (List.mem_of_getElem? aI)
 have gH:=drop_at aI
 refine jT (dT eU) (sk (ze (bo (sr (fw (.pointer (some ⟨ab d,ao d+o *2,none⟩)) (zn (mF) rfl rfl ((O.ro U).addr (i:=o) (by omega)) (by omega)) (fw (.agg (aH.cells K).toArray) (zi rfl (zD (cs:=(aH.cells K)) Tryz.isAgg54 Tryz.sizeOf54 ((O.ro U).elem aH.len aI (by decide)))) ?_))))))
 refine dC [.string ⟨List.toArray ([])⟩, .int .i64 0] 54 O ?_
 intro pO pQ kC
 refine df (aH.cells K) 0 kC Tryz.sizeOf54 ?_
 intro pR eX
 refine nt (zb (Mz rfl (La (aH.cells K) eX 0 Tryz.isAgg54 Tryz.sizeOf54 ?_)))
 have kD:=eX.pk [1,4,0,2,3]
 obtain⟨bV,bW⟩:∃ q,iy (aQ.mk (Ll.mk s)) K=q:=⟨_,rfl⟩
 obtain⟨pU,gJ,mK,gK,mM⟩:=zB kD
 refine WL.do rfl (zK Tryz.call23 rfl rfl (kT _ _ b (aQ.mk (Ll.mk s)) M N K bV gJ (by first | omega | (dsimp only; omega) | (dsimp only [List.length_cons,List.length_nil]; omega)) (by exact gG) bW) ?_)
 rintro _ pV ⟨kE,kH,rfl,gL,bX⟩
 have eY:=gK _ _ gL
 have mO:=eY.rowC (i:=1) rfl
 replace bX:bV.xb.ls.length≤s.length+40:=bX
 refine zq (bN (zu (zb (fw (.int .i64 ((o+1:Nat):Int)) (zy (e:=IntKind.i64.wrap (((o:Nat):Int)+1)) yk (by rw [Cb _ (by omega)]; omega)) (Mz rfl (zq ?_))))))
 have kI:=eY.pk [0,3,4,1]
 exact zH (o+1,kE,kH,bV.xb.ls) ⟨rfl,rfl,rfl,rfl,trivial⟩ (aG.2 ⟨kI,by omega,by omega,et (bU) (et (congrArg (fun q=>fq a q s) gH) (ae bW))⟩) (by show a.ag.ls.length - (o+1) < a.ag.ls.length - o; omega)
 refine jF (dF eU) (Wp.exit (zk ?_))
 have gM:fq a a.ag.ls G.xb.ls=s:=et (bU) (et (congrArg (fun q=>fq a q s) (eF (ls:=a.ag.ls) (i:=o) (by omega))) rfl)
 refine zk (zA (zC (res0 rfl) (zq (zC (res0 rfl) (ns (Mz rfl (Kz (.pointer (some ⟨m,6,none⟩)) (Lz (.slice f a.aD.ls.length j) O 2 Tryz.isAgg24 (Mz rfl (Kz (.func (.func 25) #[.pointer (some ⟨b,0,none⟩)] #[]) ?_))))))))))
 refine WL.do rfl (zI Tryz.call24 rfl ?_ (fun _ _ k=>k))
 refine zg (args:= [.pointer (some ⟨b,0,none⟩), .slice f a.aD.ls.length j, .func (.func 25) #[.pointer (some ⟨b,0,none⟩)] #[]]) Tryz.func24 rfl rfl rfl ?_
 show Wp _ _ _ [(0, .pointer (some ⟨b,0,none⟩)),(1, .slice f a.aD.ls.length j),(2, .func (.func 25) #[.pointer (some ⟨b,0,none⟩)] #[])] _ _
 refine sr (Mz rfl (Mz rfl (Kz (.int .i64 ((a.aD.ls.length:Nat):Int)) ?_)))
 refine WL.do rfl (zI Tryz.call19 rfl ?_ (fun _ _ k=>k))
 refine zg (args:= [.pointer (some ⟨b,0,none⟩), .int .i64 ((a.aD.ls.length:Nat):Int)]) Tryz.func19 rfl rfl rfl ?_
 show Wp _ _ _ [(0, .pointer (some ⟨b,0,none⟩)),(1, .int .i64 ((a.aD.ls.length:Nat):Int))] _ _
 refine zb (Mz rfl (Mz rfl (fw (.int .u64 ((a.aD.ls.length:Nat):Int)) (zy (e:=IntKind.u64.wrap ((a.aD.ls.length:Nat):Int)) yk (IntWalk.u64_in _ (by omega))) ?_)))
 have kJ:=O.pk [0,3,1,2]
 obtain⟨I,bY⟩:∃ q,aA (aQ.mk (Ll.mk s)) a.aD.ls.length=q:=⟨_,rfl⟩
 obtain⟨pW,gN,mP,gP,mQ⟩:=zB kJ
 refine cl Tryz.call21 (aR _ _ b (aQ.mk (Ll.mk s)) M N a.aD.ls.length I gN (by first | omega | (dsimp only; omega) | (dsimp only [List.length_cons,List.length_nil]; omega)) bY) ?_
 rintro _ pX ⟨kK,kL,rfl,gQ,bZ⟩
 have eZ:=gP _ _ gQ
 have mR:=eZ.rowC (i:=1) rfl
 replace bZ:I.xb.ls.length≤s.length+10:=bZ
 refine zq (zC (res0 rfl) (nt (zb (Mz rfl (Mz rfl ?_)))))
 refine WL.do rfl (zI Tryz.call70 rfl ?_ (fun _ _ k=>k))
 refine zg (args:= [.func (.func 25) #[.pointer (some ⟨b,0,none⟩)] #[], .slice f a.aD.ls.length j]) Tryz.func70 rfl rfl rfl ?_
 show Wp _ _ _ [(0, .func (.func 25) #[.pointer (some ⟨b,0,none⟩)] #[]),(1, .slice f a.aD.ls.length j)] _ _
 refine sr (Mz rfl (Kz (.int .i64 ((a.aD.ls.length:Nat):Int)) (Mn rfl (bo ?_))))
 have kM:=eZ.pk [0,2,3,1]
 obtain⟨fe,gT⟩:∃ q:(Nat × (Option Addr) × Nat × (List UInt8))→World→Prop,q=fun(i:Nat × (Option Addr) × Nat × (List UInt8)) w'=>Own w D w' [blk b [.slice i.2.1 i.2.2.2.length i.2.2.1] 57,row z 4 4 (List.flatMap (eN .u64) ([a.au,a.aY,a.aK,a.bg])) 22 1,blk m (bQ a d h f j g l) 31,row i.2.1 i.2.2.2.length i.2.2.1 (List.flatMap eB i.2.2.2) 5 1]∧(i.1≤a.aD.ls.length∧((i.2.2.2.length:Nat):Int)≤((I.xb.ls.length:Nat):Int)+3300 *((i.1:Nat):Int)∧fu a a.aD.ls I.xb.ls=fu a (List.drop i.1 a.aD.ls) i.2.2.2):=⟨_,rfl⟩
 have aJ:∀ {p:Nat} {P:Option Addr} {Q:Nat} {t:List UInt8} {w':World},fe (p,P,Q,t) w'↔Own w D w' [blk b [.slice P t.length Q] 57,row z 4 4 (List.flatMap (eN .u64) ([a.au,a.aY,a.aK,a.bg])) 22 1,blk m (bQ a d h f j g l) 31,row P t.length Q (List.flatMap eB t) 5 1]∧p≤a.aD.ls.length∧((t.length:Nat):Int)≤((I.xb.ls.length:Nat):Int)+3300 *((p:Nat):Int)∧fu a a.aD.ls I.xb.ls=fu a (List.drop p a.aD.ls) t:=by intros; subst gT; exact Iff.rfl
 refine Wp.loop (fun i:Nat × (Option Addr) × Nat × (List UInt8)=> [(8, .int .i64 ((i.1:Nat):Int)),(7, .int .i64 ((a.aD.ls.length:Nat):Int)),(6, .slice f a.aD.ls.length j),(0, .func (.func 25) #[.pointer (some ⟨b,0,none⟩)] #[])]) fe (fun i=>a.aD.ls.length - i.1) (0,kK,kL,I.xb.ls) ⟨rfl,rfl,rfl,rfl,trivial⟩ (aJ.2 ⟨kM,by omega,by omega,rfl⟩) ?_
 rintro ⟨p,P,Q,t⟩ pY gU
 show Wp _ _ _ [(8, .int .i64 ((p:Nat):Int)),(7, .int .i64 ((a.aD.ls.length:Nat):Int)),(6, .slice f a.aD.ls.length j),(0, .func (.func 25) #[.pointer (some ⟨b,0,none⟩)] #[])] _ _
 obtain⟨R,mU,mV,cu⟩:=aJ.1 gU
 refine sr (Kz (.bool (decide (((p:Nat):Int) < ((a.aD.ls.length:Nat):Int)))) (nt (ze ?_)))
 by_cases fo:((p:Nat):Int) < ((a.aD.ls.length:Nat):Int)
 obtain⟨n,Y⟩:=eH (ls:=Z) (i:=p) aP.len (by decide) (R.ro V) (by first | omega | (simp; done) | (simp; omega))
 have cz:=iY aF Y
 have mW:=(W _ (List.mem_of_getElem? Y)).2
 have aK:(zV n).aS≤18446744073709551615∧List.length (zV n).aL.ls≤24∧∀ q ∈ (zV n).aL.ls,q.aX.length≤12∧q.aB.length≤16∧q.aJ.length≤12∧q.aN.length≤12:=hsm35.2.2.2.1 _ (List.mem_of_getElem? cz)
 have hz225p0:n.aS≤18446744073709551615:=by have q9:=aK.1; first | exact q9 | (simp only [zV,List.length_map] at q9; exact q9)
 have hz225p1:n.aL.ls.length≤24:=by have q9:=aK.2.1; first | exact q9 | (simp only [zV,List.length_map] at q9; exact q9)
 have gW:=drop_at cz
 refine jT (dT fo) (sk (ze (bo (sr (fw (.pointer (some ⟨ab f,ao f+p *2,none⟩)) (zn (nR) rfl rfl ((R.ro V).addr (i:=p) (by omega)) (by omega)) (fw (.agg (aP.cells n).toArray) (zi rfl (zD (cs:=(aP.cells n)) Tryz.isAgg66 Tryz.sizeOf66 ((R.ro V).elem aP.len Y (by decide)))) ?_))))))
 refine dC [.int .u64 0, .slice none 0 0] 66 R ?_
 intro p8 p9 kN
 refine df (aP.cells n) 0 kN Tryz.sizeOf66 ?_
 intro qa fB
 refine nt (zb (Mz rfl (La (aP.cells n) fB 0 Tryz.isAgg66 Tryz.sizeOf66 ?_)))
 have kP:=fB.pk [1,4,0,2,3]
 obtain⟨cB,cK⟩:∃ q,jE (aQ.mk (Ll.mk t)) (fK.mk n.aS (Ll.mk n.aL.ls))=q:=⟨_,rfl⟩
 obtain⟨qb,gY,gZ,ic,mX⟩:=zB kP
 refine WL.do rfl (zK Tryz.call25 rfl rfl (nH _ _ b (aQ.mk (Ll.mk t)) P Q (fK.mk n.aS (Ll.mk n.aL.ls)) n.aL.A n.aL.ls.length n.aL.c cB gY rfl (gZ _ (W _ (List.mem_of_getElem? Y)).1) (show n.aL.ls.length≤n.aL.c∧n.aL.ls.length≤9223372036854775807 from by omega) (by first | omega | (dsimp only; omega) | (dsimp only [List.length_cons,List.length_nil]; omega)) (by exact aK) cK) ?_)
 rintro _ qc ⟨kQ,kR,rfl,ik,cO⟩
 have fC:=ic _ _ ik
 have mY:=fC.rowC (i:=1) rfl
 replace cO:cB.xb.ls.length≤t.length+3300:=cO
 refine zq (bN (zu (zb (fw (.int .i64 ((p+1:Nat):Int)) (zy (e:=IntKind.i64.wrap (((p:Nat):Int)+1)) yk (by rw [Cb _ (by omega)]; omega)) (Mz rfl (zq ?_))))))
 have kS:=fC.pk [0,3,4,1]
 exact zH (p+1,kQ,kR,cB.xb.ls) ⟨rfl,rfl,rfl,rfl,trivial⟩ (aJ.2 ⟨kS,by omega,by omega,et (cu) (et (congrArg (fun q=>fu a q t) gW) (ae cK))⟩) (by show a.aD.ls.length - (p+1) < a.aD.ls.length - p; omega)
 refine jF (dF fo) (Wp.exit (zk ?_))
 have il:fu a a.aD.ls I.xb.ls=t:=et (cu) (et (congrArg (fun q=>fu a q t) (eF (ls:=a.aD.ls) (i:=p) (by omega))) rfl)
 refine zk (zA (zC (res0 rfl) (zq (zC (res0 rfl) (ns (Mz rfl (Kz (.pointer (some ⟨m,7,none⟩)) (Lz (.slice g a.aj.ls.length l) R 2 Tryz.isAgg25 (Mz rfl (Kz (.func (.func 21) #[.pointer (some ⟨b,0,none⟩)] #[]) ?_))))))))))
 refine WL.do rfl (zI Tryz.call26 rfl ?_ (fun _ _ k=>k))
 refine zg (args:= [.pointer (some ⟨b,0,none⟩), .slice g a.aj.ls.length l, .func (.func 21) #[.pointer (some ⟨b,0,none⟩)] #[]]) Tryz.func26 rfl rfl rfl ?_
 show Wp _ _ _ [(0, .pointer (some ⟨b,0,none⟩)),(1, .slice g a.aj.ls.length l),(2, .func (.func 21) #[.pointer (some ⟨b,0,none⟩)] #[])] _ _
 refine sr (Mz rfl (Mz rfl (Kz (.int .i64 ((a.aj.ls.length:Nat):Int)) ?_)))
 refine WL.do rfl (zI Tryz.call19 rfl ?_ (fun _ _ k=>k))
 refine zg (args:= [.pointer (some ⟨b,0,none⟩), .int .i64 ((a.aj.ls.length:Nat):Int)]) Tryz.func19 rfl rfl rfl ?_
 show Wp _ _ _ [(0, .pointer (some ⟨b,0,none⟩)),(1, .int .i64 ((a.aj.ls.length:Nat):Int))] _ _
 refine zb (Mz rfl (Mz rfl (fw (.int .u64 ((a.aj.ls.length:Nat):Int)) (zy (e:=IntKind.u64.wrap ((a.aj.ls.length:Nat):Int)) yk (IntWalk.u64_in _ (by omega))) ?_)))
 have kU:=R.pk [0,3,1,2]
 obtain⟨J,cZ⟩:∃ q,aA (aQ.mk (Ll.mk t)) a.aj.ls.length=q:=⟨_,rfl⟩
 obtain⟨qd,iq,mZ,iw,ng⟩:=zB kU
 refine cl Tryz.call21 (aR _ _ b (aQ.mk (Ll.mk t)) P Q a.aj.ls.length J iq (by first | omega | (dsimp only; omega) | (dsimp only [List.length_cons,List.length_nil]; omega)) cZ) ?_
 rintro _ qf ⟨kV,kW,rfl,iA,dh⟩
 have fD:=iw _ _ iA
 have ni:=fD.rowC (i:=1) rfl
 replace dh:J.xb.ls.length≤t.length+10:=dh
 refine zq (zC (res0 rfl) (nt (zb (Mz rfl (Mz rfl ?_)))))
 refine WL.do rfl (zI Tryz.call20 rfl ?_ (fun _ _ k=>k))
 refine zg (args:= [.func (.func 21) #[.pointer (some ⟨b,0,none⟩)] #[], .slice g a.aj.ls.length l]) Tryz.func20 rfl rfl rfl ?_
 show Wp _ _ _ [(0, .func (.func 21) #[.pointer (some ⟨b,0,none⟩)] #[]),(1, .slice g a.aj.ls.length l)] _ _
 refine sr (Mz rfl (Kz (.int .i64 ((a.aj.ls.length:Nat):Int)) (Mn rfl (bo ?_))))
 have kX:=fD.pk [0,2,3,1]
 obtain⟨fE,iB⟩:∃ q:(Nat × (Option Addr) × Nat × (List UInt8))→World→Prop,q=fun(i:Nat × (Option Addr) × Nat × (List UInt8)) w'=>Own w D w' [blk b [.slice i.2.1 i.2.2.2.length i.2.2.1] 57,row z 4 4 (List.flatMap (eN .u64) ([a.au,a.aY,a.aK,a.bg])) 22 1,blk m (bQ a d h f j g l) 31,row i.2.1 i.2.2.2.length i.2.2.1 (List.flatMap eB i.2.2.2) 5 1]∧(i.1≤a.aj.ls.length∧((i.2.2.2.length:Nat):Int)≤((J.xb.ls.length:Nat):Int)+10 *((i.1:Nat):Int)∧fA a a.aj.ls J.xb.ls=fA a (List.drop i.1 a.aj.ls) i.2.2.2):=⟨_,rfl⟩
 have aM:∀ {r:Nat} {S:Option Addr} {T:Nat} {u:List UInt8} {w':World},fE (r,S,T,u) w'↔Own w D w' [blk b [.slice S u.length T] 57,row z 4 4 (List.flatMap (eN .u64) ([a.au,a.aY,a.aK,a.bg])) 22 1,blk m (bQ a d h f j g l) 31,row S u.length T (List.flatMap eB u) 5 1]∧r≤a.aj.ls.length∧((u.length:Nat):Int)≤((J.xb.ls.length:Nat):Int)+10 *((r:Nat):Int)∧fA a a.aj.ls J.xb.ls=fA a (List.drop r a.aj.ls) u:=by intros; subst iB; exact Iff.rfl
 refine Wp.loop (fun i:Nat × (Option Addr) × Nat × (List UInt8)=> [(8, .int .i64 ((i.1:Nat):Int)),(7, .int .i64 ((a.aj.ls.length:Nat):Int)),(6, .slice g a.aj.ls.length l),(0, .func (.func 21) #[.pointer (some ⟨b,0,none⟩)] #[])]) fE (fun i=>a.aj.ls.length - i.1) (0,kV,kW,J.xb.ls) ⟨rfl,rfl,rfl,rfl,trivial⟩ (aM.2 ⟨kX,by omega,by omega,rfl⟩) ?_
 rintro ⟨r,S,T,u⟩ qg iC
 show Wp _ _ _ [(8, .int .i64 ((r:Nat):Int)),(7, .int .i64 ((a.aj.ls.length:Nat):Int)),(6, .slice g a.aj.ls.length l),(0, .func (.func 21) #[.pointer (some ⟨b,0,none⟩)] #[])] _ _
 obtain⟨L,nk,nu,di⟩:=aM.1 iC
 refine sr (Kz (.bool (decide (((r:Nat):Int) < ((a.aj.ls.length:Nat):Int)))) (nt (ze ?_)))
 by_cases fF:((r:Nat):Int) < ((a.aj.ls.length:Nat):Int)
 obtain⟨aV,aN⟩:=eH (ls:=a.aj.ls) (i:=r) ib (by decide) (L.ro X) (by first | omega | (simp; done) | (simp; omega))
 have ny:aV≤18446744073709551615:=hsm35.2.2.2.2.2.1 _ (List.mem_of_getElem? aN)
 have iD:=drop_at aN
 refine jT (dT fF) (sk (ze (bo (sr (fw (.pointer (some ⟨ab g,ao g+r *1,none⟩)) (zn (jR) rfl rfl ((L.ro X).addr (i:=r) (by omega)) (by omega)) (fw (.int .u64 ((aV:Nat):Int)) (zi rfl (bf.one Tryz.isAgg22 (((L.ro X).elem ib aN (by decide)).at_ (k:=0) rfl))) (An rfl (zb (Mz rfl (Mz rfl ?_))))))))))
 have kY:=L.pk [0,3,1,2]
 obtain⟨dm,dn⟩:∃ q,aA (aQ.mk (Ll.mk u)) aV=q:=⟨_,rfl⟩
 obtain⟨qh,iE,nz,iF,nA⟩:=zB kY
 refine WL.do rfl (zK Tryz.call21 rfl rfl (aR _ _ b (aQ.mk (Ll.mk u)) S T aV dm iE (by first | omega | (dsimp only; omega) | (dsimp only [List.length_cons,List.length_nil]; omega)) dn) ?_)
 rintro _ qi ⟨kZ,lc,rfl,iG,dw⟩
 have fG:=iF _ _ iG
 have nC:=fG.rowC (i:=1) rfl
 replace dw:dm.xb.ls.length≤u.length+10:=dw
 refine zq (bN (zu (zb (fw (.int .i64 ((r+1:Nat):Int)) (zy (e:=IntKind.i64.wrap (((r:Nat):Int)+1)) yk (by rw [Cb _ (by omega)]; omega)) (Mz rfl (zq ?_))))))
 have lg:=fG.pk [0,2,3,1]
 exact zH (r+1,kZ,lc,dm.xb.ls) ⟨rfl,rfl,rfl,rfl,trivial⟩ (aM.2 ⟨lg,by omega,by omega,et (di) (et (congrArg (fun q=>fA a q u) iD) (ae dn))⟩) (by show a.aj.ls.length - (r+1) < a.aj.ls.length - r; omega)
 refine jF (dF fF) (Wp.exit (zk ?_))
 have iH:fA a a.aj.ls J.xb.ls=u:=et (di) (et (congrArg (fun q=>fA a q u) (eF (ls:=a.aj.ls) (i:=r) (by omega))) rfl)
 refine zk (zA (zC (res0 rfl) (zq (zC (res0 rfl) (ns (Mz rfl (Kz (.func (.func 21) #[.pointer (some ⟨b,0,none⟩)] #[]) (Kz (.pointer (some ⟨m,8,none⟩)) (Lz (.int .u64 ((a.gU:Nat):Int)) L 2 Tryz.isAgg22 (Kz (.pointer (some ⟨m,9,none⟩)) (Lz (.int .u64 ((a.cu:Nat):Int)) L 2 Tryz.isAgg22 ?_)))))))))))
 refine kF [.int .u64 ((a.gU:Nat):Int), .int .u64 ((a.cu:Nat):Int)] 22 1 2 L ?_
 intro C qj ag
 replace ag:=zY (y:=row C 2 2 (List.flatMap (eN .u64) ([a.gU,a.cu])) 22 1) rfl ag
 refine WL.do rfl (zI Tryz.call20 rfl ?_ (fun _ _ k=>k))
 refine zg (args:= [.func (.func 21) #[.pointer (some ⟨b,0,none⟩)] #[], .slice C 2 2]) Tryz.func20 rfl rfl rfl ?_
 show Wp _ _ _ [(0, .func (.func 21) #[.pointer (some ⟨b,0,none⟩)] #[]),(1, .slice C 2 2)] _ _
 refine sr (Mz rfl (Kz (.int .i64 2) (Mn rfl (bo (Ah 200 (sr (Kz (.bool true) (nt (ze (jt (sk (ze (bo (sr ?_))))))))))))))
 have iI:([a.gU,a.cu]:List Nat)[0]? =some a.gU:=rfl
 refine fw (.pointer (some ⟨ab C,ao C+0 *1,none⟩)) (zn (jR) rfl rfl ((ag.rds (i:=0) rfl).addr (i:=0) (by omega)) (by omega)) (fw (.int .u64 ((a.gU:Nat):Int)) (zi rfl (bf.one Tryz.isAgg22 (((ag.rds (i:=0) rfl).elem ib iI (by decide)).at_ (k:=0) rfl))) (An rfl (zb (Mz rfl (Mz rfl ?_)))))
 have lh:=ag.pk [1,4,0,2,3]
 obtain⟨ah,dx⟩:∃ q,aA (aQ.mk (Ll.mk u)) a.gU=q:=⟨_,rfl⟩
 obtain⟨ql,iJ,nD,iK,nG⟩:=zB lh
 refine WL.do rfl (zK Tryz.call21 rfl rfl (aR _ _ b (aQ.mk (Ll.mk u)) S T a.gU ah iJ (by first | omega | (dsimp only; omega) | (dsimp only [List.length_cons,List.length_nil]; omega)) dx) ?_)
 rintro _ qm ⟨ll,lm,rfl,iL,dz⟩
 have aX:=iK _ _ iL
 have nI:=aX.rowC (i:=1) rfl
 replace dz:ah.xb.ls.length≤u.length+10:=dz
 refine zq (bN (zu (zb (Kz (.int .i64 1) (Mz rfl (zq (zR [(8, .int .i64 1),(7, .int .i64 2),(6, .slice C 2 2),(0, .func (.func 21) #[.pointer (some ⟨b,0,none⟩)] #[])] ⟨rfl,rfl,rfl,rfl,trivial⟩ (sr (Kz (.bool true) (nt (ze (jt (sk (ze (bo (sr ?_))))))))))))))))
 have iM:([a.gU,a.cu]:List Nat)[1]? =some a.cu:=rfl
 refine fw (.pointer (some ⟨ab C,ao C+1 *1,none⟩)) (zn (jR) rfl rfl ((aX.rds (i:=2) rfl).addr (i:=1) (by omega)) (by omega)) (fw (.int .u64 ((a.cu:Nat):Int)) (zi rfl (bf.one Tryz.isAgg22 (((aX.rds (i:=2) rfl).elem ib iM (by decide)).at_ (k:=0) rfl))) (An rfl (zb (Mz rfl (Mz rfl ?_)))))
 obtain⟨ai,dA⟩:∃ q,aA ah a.cu=q:=⟨_,rfl⟩
 obtain⟨qo,iO,nJ,iP,nK⟩:=zB aX
 refine WL.do rfl (zK Tryz.call21 rfl rfl (aR _ _ b ah ll lm a.cu ai iO (by first | omega | (dsimp only; omega) | (dsimp only [List.length_cons,List.length_nil]; omega)) dA) ?_)
 rintro _ qp ⟨lq,lu,rfl,iQ,dB⟩
 have aY:=iP _ _ iQ
 have nL:=aY.rowC (i:=1) rfl
 replace dB:ai.xb.ls.length≤ah.xb.ls.length+10:=dB
 refine zq (bN (zu (zb (Kz (.int .i64 2) (Mz rfl (zq (zR [(8, .int .i64 2),(7, .int .i64 2),(6, .slice C 2 2),(0, .func (.func 21) #[.pointer (some ⟨b,0,none⟩)] #[])] ⟨rfl,rfl,rfl,rfl,trivial⟩ (sr (Kz (.bool false) (nt (ze (jf (Wp.exit (zk (zk (zA (zC (res0 rfl) (ns (Mz rfl (Kz (.func (.func 28) #[.pointer (some ⟨b,0,none⟩)] #[]) (Kz (.pointer (some ⟨m,10,none⟩)) (Kz (.pointer (some ⟨m,10,none⟩)) (Lz (.string ⟨List.toArray a.aZ.aJ⟩) aY 4 Tryz.isAgg9 (Kz (.pointer (some ⟨m,10,none⟩)) (Kz (.pointer (some ⟨m,11,none⟩)) (Lz (.string ⟨List.toArray a.aZ.aN⟩) aY 4 Tryz.isAgg9 ?_))))))))))))))))))))))))))
 refine kF [.string ⟨List.toArray a.aZ.aJ⟩, .string ⟨List.toArray a.aZ.aN⟩] 9 1 2 aY ?_
 intro E qw aj
 replace aj:=zY (y:=row E 2 2 (List.flatMap eS ([a.aZ.aJ,a.aZ.aN])) 9 1) rfl aj
 refine WL.do rfl (zI Tryz.call27 rfl ?_ (fun _ _ k=>k))
 refine zg (args:= [.func (.func 28) #[.pointer (some ⟨b,0,none⟩)] #[], .slice E 2 2]) Tryz.func27 rfl rfl rfl ?_
 show Wp _ _ _ [(0, .func (.func 28) #[.pointer (some ⟨b,0,none⟩)] #[]),(1, .slice E 2 2)] _ _
 refine sr (Mz rfl (Kz (.int .i64 2) (Mn rfl (bo (Ah 200 (sr (Kz (.bool true) (nt (ze (jt (sk (ze (bo (sr ?_))))))))))))))
 have iR:([a.aZ.aJ,a.aZ.aN]:List (List UInt8))[0]? =some a.aZ.aJ:=rfl
 refine fw (.pointer (some ⟨ab E,ao E+0 *1,none⟩)) (zn (lW) rfl rfl ((aj.rds (i:=0) rfl).addr (i:=0) (by omega)) (by omega)) (fw (.string ⟨List.toArray a.aZ.aJ⟩) (zi rfl (bf.one Tryz.isAgg9 (((aj.rds (i:=0) rfl).elem kG iR (by decide)).at_ (k:=0) rfl))) (An rfl (zb (Mz rfl (Mz rfl ?_)))))
 have lv:=aj.pk [1,2,0,3,4,5]
 obtain⟨ak,dD⟩:∃ q,bD ai a.aZ.aJ=q:=⟨_,rfl⟩
 obtain⟨qx,iT,nM,iU,nN⟩:=zB lv
 refine WL.do rfl (zK Tryz.call28 rfl rfl (dU _ _ b ai lq lu a.aZ.aJ ak iT (by first | omega | (dsimp only; omega) | (dsimp only [List.length_cons,List.length_nil]; omega)) dD) ?_)
 rintro _ qy ⟨lw,lC,rfl,iV,dG⟩
 have aZ:=iU _ _ iV
 have nO:=aZ.rowC (i:=1) rfl
 replace dG:ak.xb.ls.length≤ai.xb.ls.length+26:=dG
 refine zq (bN (zu (zb (Kz (.int .i64 1) (Mz rfl (zq (zR [(8, .int .i64 1),(7, .int .i64 2),(6, .slice E 2 2),(0, .func (.func 28) #[.pointer (some ⟨b,0,none⟩)] #[])] ⟨rfl,rfl,rfl,rfl,trivial⟩ (sr (Kz (.bool true) (nt (ze (jt (sk (ze (bo (sr ?_))))))))))))))))
 have iW:([a.aZ.aJ,a.aZ.aN]:List (List UInt8))[1]? =some a.aZ.aN:=rfl
 refine fw (.pointer (some ⟨ab E,ao E+1 *1,none⟩)) (zn (lW) rfl rfl ((aZ.rds (i:=2) rfl).addr (i:=1) (by omega)) (by omega)) (fw (.string ⟨List.toArray a.aZ.aN⟩) (zi rfl (bf.one Tryz.isAgg9 (((aZ.rds (i:=2) rfl).elem kG iW (by decide)).at_ (k:=0) rfl))) (An rfl (zb (Mz rfl (Mz rfl ?_)))))
 obtain⟨au,dH⟩:∃ q,bD ak a.aZ.aN=q:=⟨_,rfl⟩
 obtain⟨qz,iX,nP,iZ,nQ⟩:=zB aZ
 refine WL.do rfl (zK Tryz.call28 rfl rfl (dU _ _ b ak lw lC a.aZ.aN au iX (by first | omega | (dsimp only; omega) | (dsimp only [List.length_cons,List.length_nil]; omega)) dH) ?_)
 rintro _ qA ⟨lD,lF,rfl,ja,dI⟩
 have av:=iZ _ _ ja
 have nS:=av.rowC (i:=1) rfl
 replace dI:au.xb.ls.length≤ak.xb.ls.length+26:=dI
 refine zq (bN (zu (zb (Kz (.int .i64 2) (Mz rfl (zq (zR [(8, .int .i64 2),(7, .int .i64 2),(6, .slice E 2 2),(0, .func (.func 28) #[.pointer (some ⟨b,0,none⟩)] #[])] ⟨rfl,rfl,rfl,rfl,trivial⟩ (sr (Kz (.bool false) (nt (ze (jf (Wp.exit (zk (zk (zA (zC (res0 rfl) (ns (Mz rfl (Kz (.func (.func 21) #[.pointer (some ⟨b,0,none⟩)] #[]) (Kz (.pointer (some ⟨m,12,none⟩)) (Kz (.pointer (some ⟨m,12,none⟩)) (Lz (.int .u64 ((a.aT.bg:Nat):Int)) av 5 Tryz.isAgg22 (Kz (.pointer (some ⟨m,12,none⟩)) (Kz (.pointer (some ⟨m,13,none⟩)) (Lz (.int .u64 ((a.aT.bv:Nat):Int)) av 5 Tryz.isAgg22 (Kz (.pointer (some ⟨m,12,none⟩)) (Kz (.pointer (some ⟨m,14,none⟩)) (Lz (.int .u64 ((a.aT.cz:Nat):Int)) av 5 Tryz.isAgg22 ?_)))))))))))))))))))))))))))))
 refine kF [.int .u64 ((a.aT.bg:Nat):Int), .int .u64 ((a.aT.bv:Nat):Int), .int .u64 ((a.aT.cz:Nat):Int)] 22 1 3 av ?_
 intro B qB ax
 replace ax:=zY (y:=row B 3 3 (List.flatMap (eN .u64) ([a.aT.bg,a.aT.bv,a.aT.cz])) 22 1) rfl ax
 refine WL.do rfl (zI Tryz.call20 rfl ?_ (fun _ _ k=>k))
 refine zg (args:= [.func (.func 21) #[.pointer (some ⟨b,0,none⟩)] #[], .slice B 3 3]) Tryz.func20 rfl rfl rfl ?_
 show Wp _ _ _ [(0, .func (.func 21) #[.pointer (some ⟨b,0,none⟩)] #[]),(1, .slice B 3 3)] _ _
 refine sr (Mz rfl (Kz (.int .i64 3) (Mn rfl (bo (Ah 200 (sr (Kz (.bool true) (nt (ze (jt (sk (ze (bo (sr ?_))))))))))))))
 have jb:([a.aT.bg,a.aT.bv,a.aT.cz]:List Nat)[0]? =some a.aT.bg:=rfl
 refine fw (.pointer (some ⟨ab B,ao B+0 *1,none⟩)) (zn (jR) rfl rfl ((ax.rds (i:=0) rfl).addr (i:=0) (by omega)) (by omega)) (fw (.int .u64 ((a.aT.bg:Nat):Int)) (zi rfl (bf.one Tryz.isAgg22 (((ax.rds (i:=0) rfl).elem ib jb (by decide)).at_ (k:=0) rfl))) (An rfl (zb (Mz rfl (Mz rfl ?_)))))
 have lG:=ax.pk [1,2,0,3,4,5,6]
 obtain⟨ay,dJ⟩:∃ q,aA au a.aT.bg=q:=⟨_,rfl⟩
 obtain⟨qC,jc,nT,jd,nU⟩:=zB lG
 refine WL.do rfl (zK Tryz.call21 rfl rfl (aR _ _ b au lD lF a.aT.bg ay jc (by first | omega | (dsimp only; omega) | (dsimp only [List.length_cons,List.length_nil]; omega)) dJ) ?_)
 rintro _ qD ⟨lH,lI,rfl,je,dK⟩
 have bg:=jd _ _ je
 have nV:=bg.rowC (i:=1) rfl
 replace dK:ay.xb.ls.length≤au.xb.ls.length+10:=dK
 refine zq (bN (zu (zb (Kz (.int .i64 1) (Mz rfl (zq (zR [(8, .int .i64 1),(7, .int .i64 3),(6, .slice B 3 3),(0, .func (.func 21) #[.pointer (some ⟨b,0,none⟩)] #[])] ⟨rfl,rfl,rfl,rfl,trivial⟩ (sr (Kz (.bool true) (nt (ze (jt (sk (ze (bo (sr ?_))))))))))))))))
 have jg:([a.aT.bg,a.aT.bv,a.aT.cz]:List Nat)[1]? =some a.aT.bv:=rfl
 refine fw (.pointer (some ⟨ab B,ao B+1 *1,none⟩)) (zn (jR) rfl rfl ((bg.rds (i:=2) rfl).addr (i:=1) (by omega)) (by omega)) (fw (.int .u64 ((a.aT.bv:Nat):Int)) (zi rfl (bf.one Tryz.isAgg22 (((bg.rds (i:=2) rfl).elem ib jg (by decide)).at_ (k:=0) rfl))) (An rfl (zb (Mz rfl (Mz rfl ?_)))))
 obtain⟨az,dL⟩:∃ q,aA ay a.aT.bv=q:=⟨_,rfl⟩
 obtain⟨qE,jh,nW,ji,nX⟩:=zB bg
 refine WL.do rfl (zK Tryz.call21 rfl rfl (aR _ _ b ay lH lI a.aT.bv az jh (by first | omega | (dsimp only; omega) | (dsimp only [List.length_cons,List.length_nil]; omega)) dL) ?_)
 rintro _ qF ⟨lJ,lK,rfl,jk,dM⟩
 have bi:=ji _ _ jk
 have nY:=bi.rowC (i:=1) rfl
 replace dM:az.xb.ls.length≤ay.xb.ls.length+10:=dM
 refine zq (bN (zu (zb (Kz (.int .i64 2) (Mz rfl (zq (zR [(8, .int .i64 2),(7, .int .i64 3),(6, .slice B 3 3),(0, .func (.func 21) #[.pointer (some ⟨b,0,none⟩)] #[])] ⟨rfl,rfl,rfl,rfl,trivial⟩ (sr (Kz (.bool true) (nt (ze (jt (sk (ze (bo (sr ?_))))))))))))))))
 have jl:([a.aT.bg,a.aT.bv,a.aT.cz]:List Nat)[2]? =some a.aT.cz:=rfl
 refine fw (.pointer (some ⟨ab B,ao B+2 *1,none⟩)) (zn (jR) rfl rfl ((bi.rds (i:=2) rfl).addr (i:=2) (by omega)) (by omega)) (fw (.int .u64 ((a.aT.cz:Nat):Int)) (zi rfl (bf.one Tryz.isAgg22 (((bi.rds (i:=2) rfl).elem ib jl (by decide)).at_ (k:=0) rfl))) (An rfl (zb (Mz rfl (Mz rfl ?_)))))
 obtain⟨aB,dN⟩:∃ q,aA az a.aT.cz=q:=⟨_,rfl⟩
 obtain⟨qG,jm,nZ,jo,og⟩:=zB bi
 refine WL.do rfl (zK Tryz.call21 rfl rfl (aR _ _ b az lJ lK a.aT.cz aB jm (by first | omega | (dsimp only; omega) | (dsimp only [List.length_cons,List.length_nil]; omega)) dN) ?_)
 rintro _ qH ⟨lL,lM,rfl,jq,dO⟩
 have bq:=jo _ _ jq
 have oh:=bq.rowC (i:=1) rfl
 replace dO:aB.xb.ls.length≤az.xb.ls.length+10:=dO
 refine zq (bN (zu (zb (Kz (.int .i64 3) (Mz rfl (zq (zR [(8, .int .i64 3),(7, .int .i64 3),(6, .slice B 3 3),(0, .func (.func 21) #[.pointer (some ⟨b,0,none⟩)] #[])] ⟨rfl,rfl,rfl,rfl,trivial⟩ (sr (Kz (.bool false) (nt (ze (jf (Wp.exit (zk (zk (zA (zC (res0 rfl) (ns (Mz rfl (Kz (.func (.func 28) #[.pointer (some ⟨b,0,none⟩)] #[]) (Kz (.pointer (some ⟨m,12,none⟩)) (Kz (.pointer (some ⟨m,15,none⟩)) (Kz (.pointer (some ⟨m,15,none⟩)) (Lz (.string ⟨List.toArray a.aT.aO.aJ⟩) bq 6 Tryz.isAgg9 (Kz (.pointer (some ⟨m,12,none⟩)) (Kz (.pointer (some ⟨m,15,none⟩)) (Kz (.pointer (some ⟨m,16,none⟩)) (Lz (.string ⟨List.toArray a.aT.aO.aN⟩) bq 6 Tryz.isAgg9 ?_))))))))))))))))))))))))))))
 refine kF [.string ⟨List.toArray a.aT.aO.aJ⟩, .string ⟨List.toArray a.aT.aO.aN⟩] 9 1 2 bq ?_
 intro F qI aC
 replace aC:=zY (y:=row F 2 2 (List.flatMap eS ([a.aT.aO.aJ,a.aT.aO.aN])) 9 1) rfl aC
 refine WL.do rfl (zI Tryz.call27 rfl ?_ (fun _ _ k=>k))
 refine zg (args:= [.func (.func 28) #[.pointer (some ⟨b,0,none⟩)] #[], .slice F 2 2]) Tryz.func27 rfl rfl rfl ?_
 show Wp _ _ _ [(0, .func (.func 28) #[.pointer (some ⟨b,0,none⟩)] #[]),(1, .slice F 2 2)] _ _
 refine sr (Mz rfl (Kz (.int .i64 2) (Mn rfl (bo (Ah 200 (sr (Kz (.bool true) (nt (ze (jt (sk (ze (bo (sr ?_))))))))))))))
 have jr:([a.aT.aO.aJ,a.aT.aO.aN]:List (List UInt8))[0]? =some a.aT.aO.aJ:=rfl
 refine fw (.pointer (some ⟨ab F,ao F+0 *1,none⟩)) (zn (lW) rfl rfl ((aC.rds (i:=0) rfl).addr (i:=0) (by omega)) (by omega)) (fw (.string ⟨List.toArray a.aT.aO.aJ⟩) (zi rfl (bf.one Tryz.isAgg9 (((aC.rds (i:=0) rfl).elem kG jr (by decide)).at_ (k:=0) rfl))) (An rfl (zb (Mz rfl (Mz rfl ?_)))))
 have lN:=aC.pk [1,2,0,3,4,5,6,7]
 obtain⟨aD,dP⟩:∃ q,bD aB a.aT.aO.aJ=q:=⟨_,rfl⟩
 obtain⟨qJ,jv,ol,jw,om⟩:=zB lN
 refine WL.do rfl (zK Tryz.call28 rfl rfl (dU _ _ b aB lL lM a.aT.aO.aJ aD jv (by first | omega | (dsimp only; omega) | (dsimp only [List.length_cons,List.length_nil]; omega)) dP) ?_)
 rintro _ qK ⟨lQ,lS,rfl,jy,dQ⟩
 have bu:=jw _ _ jy
 have oo:=bu.rowC (i:=1) rfl
 replace dQ:aD.xb.ls.length≤aB.xb.ls.length+26:=dQ
 refine zq (bN (zu (zb (Kz (.int .i64 1) (Mz rfl (zq (zR [(8, .int .i64 1),(7, .int .i64 2),(6, .slice F 2 2),(0, .func (.func 28) #[.pointer (some ⟨b,0,none⟩)] #[])] ⟨rfl,rfl,rfl,rfl,trivial⟩ (sr (Kz (.bool true) (nt (ze (jt (sk (ze (bo (sr ?_))))))))))))))))
 have jA:([a.aT.aO.aJ,a.aT.aO.aN]:List (List UInt8))[1]? =some a.aT.aO.aN:=rfl
 refine fw (.pointer (some ⟨ab F,ao F+1 *1,none⟩)) (zn (lW) rfl rfl ((bu.rds (i:=2) rfl).addr (i:=1) (by omega)) (by omega)) (fw (.string ⟨List.toArray a.aT.aO.aN⟩) (zi rfl (bf.one Tryz.isAgg9 (((bu.rds (i:=2) rfl).elem kG jA (by decide)).at_ (k:=0) rfl))) (An rfl (zb (Mz rfl (Mz rfl ?_)))))
 obtain⟨bv,dR⟩:∃ q,bD aD a.aT.aO.aN=q:=⟨_,rfl⟩
 obtain⟨qL,jB,oq,jC,ou⟩:=zB bu
 refine WL.do rfl (zK Tryz.call28 rfl rfl (dU _ _ b aD lQ lS a.aT.aO.aN bv jB (by first | omega | (dsimp only; omega) | (dsimp only [List.length_cons,List.length_nil]; omega)) dR) ?_)
 rintro _ qM ⟨fH,fI,rfl,jD,dS⟩
 have dV:=jC _ _ jD
 have ow:=dV.rowC (i:=1) rfl
 replace dS:bv.xb.ls.length≤aD.xb.ls.length+26:=dS
 refine zq (bN (zu (zb (Kz (.int .i64 2) (Mz rfl (zq (zR [(8, .int .i64 2),(7, .int .i64 2),(6, .slice F 2 2),(0, .func (.func 28) #[.pointer (some ⟨b,0,none⟩)] #[])] ⟨rfl,rfl,rfl,rfl,trivial⟩ (sr (Kz (.bool false) (nt (ze (jf (Wp.exit (zk (zk (zA (zC (res0 rfl) (ns (Mz rfl (Kz (.pointer (some ⟨b,0,none⟩)) (Kz (.pointer (some ⟨b,0,none⟩)) (Lz (.slice fH bv.xb.ls.length fI) dV 0 Tryz.isAgg37 (Az rfl (An rfl (rt (zO (sD rfl rfl rfl) ?_))))))))))))))))))))))))))
 have lT:=dV.pk [1]
 have e:gm a=(bv.xb.ls,0):=et (ae aO) (et (ip dW) (et (ae eu) (et (ae eG) (et (ae eP) (et (ae bI) (et (ae bK) (et (ae bR) (et (ae gM) (et (ae bY) (et (ae il) (et (ae cZ) (et (ae iH) (et (ae dx) (et (ae dA) (et (ae dD) (et (ae dH) (et (ae dJ) (et (ae dL) (et (ae dN) (et (ae dP) (ae dR)))))))))))))))))))))
 obtain⟨rfl,rfl⟩:=ig (e.symm.trans hr)
 exact⟨fH,fI,rfl,lT,(by first | omega | exact Cc _)⟩
 refine jT (dT dW) (sr (Mz rfl (Az rfl (An rfl (rt (tR (zO (sD rfl rfl rfl) ?_)))))))
 have lU:Own w D l6 [row none 0 0 (List.flatMap eB ([])) 5 1,blk m (bQ a d h f j g l) 31]:=jL.free (gX 5 1)
 have lV:=lU.pk [0]
 have e:gm a=([],bA):=et (ae aO) (iN dW)
 obtain⟨rfl,rfl⟩:=ig (e.symm.trans hr)
 exact⟨none,0,rfl,lV,(by first | omega | exact Cc _)⟩
def fB (e:bK):List aH→List UInt8→(List UInt8)
  | [],a=>a
  | c::d,a=>bnd (iy (aQ.mk (Ll.mk a)) c) fun b=>fB e d b.xb.ls
def fC (e:bK):List bO→List UInt8→(List UInt8)
  | [],b=>b
  | a::d,b=>bnd (iZ (aQ.mk (Ll.mk b)) (bO.mk a.aS a.aC a.au a.bB (Ll.mk a.af.ls))) fun c=>fC e d c.xb.ls
def fD:List eD→List UInt8→(List UInt8)
  | [],b=>b
  | a::d,b=>bnd (jG (aQ.mk (Ll.mk b)) (eD.mk a.aC a.au a.bB (Ll.mk a.ah.ls))) fun c=>fD d c.xb.ls
def gp (a:bK):(List UInt8) × Int:=
 bnd (bH a) fun b=>if b=0 then bnd (aA (aQ.mk (Ll.mk ([67]))) (Int.toNat (IntKind.u64.wrap a.af))) fun g=>bnd (aA g a.au) fun h=>bnd (aA h a.aY) fun i=>bnd (aA i a.aK) fun c=>bnd (aA c a.ag.ls.length) fun d=>bnd (fB a a.ag.ls d.xb.ls) fun sLrbtbbbbbL=>bnd (aA (aQ.mk (Ll.mk sLrbtbbbbbL)) a.ai.ls.length) fun e=>bnd (fC a a.ai.ls e.xb.ls) fun sLrbtbbbbbLabL=>bnd (aA (aQ.mk (Ll.mk sLrbtbbbbbLabL)) a.aG.ls.length) fun f=>bnd (fD a.aG.ls f.xb.ls) fun sLrbtbbbbbLabLabL=>(sLrbtbbbbbLabLabL,0) else([],b)
set_option maxHeartbeats 4000000 in
theorem ko (w:World) (D:Nat→Prop) (a:bK) (g:Option Addr) (bZ l:Nat) (h:Option Addr) (cu m:Nat) (aj:List ak) (j:Option Addr) (cz n:Nat) (av:List aM) (r0:List UInt8) (r1:Int) (H:Own w D w []) (dN:bZ=a.ag.ls.length) (X:Ro w D fun w'=>bn w' 2 g a.ag.ls.length (List.flatMap aH.cells a.ag.ls)) (iR:a.ag.ls.length≤l∧a.ag.ls.length≤9223372036854775807) (ay:List.map zz aj=a.ai.ls) (dO:cu=a.ai.ls.length) (Y:Ro w D fun w'=>bn w' 5 h a.ai.ls.length (List.flatMap ak.cells aj)) (iT:a.ai.ls.length≤m∧a.ai.ls.length≤9223372036854775807) (Z:∀ x ∈ aj,Ro w D (fun w'=>bn w' 1 x.af.A x.af.ls.length (List.flatMap (eI .i64) x.af.ls))∧(x.af.ls.length≤x.af.c∧x.af.ls.length≤9223372036854775807)) (aB:List.map zM av=a.aG.ls) (dP:cz=a.aG.ls.length) (aa:Ro w D fun w'=>bn w' 4 j a.aG.ls.length (List.flatMap aM.cells av)) (iU:a.aG.ls.length≤n∧a.aG.ls.length≤9223372036854775807) (C:∀ x ∈ av,Ro w D (fun w'=>bn w' 3 x.ah.A x.ah.ls.length (List.flatMap az.cells x.ah.ls))∧(x.ah.ls.length≤x.ah.c∧x.ah.ls.length≤9223372036854775807)∧(∀ y1 ∈ x.ah.ls,Ro w D (fun w'=>bn w' 2 y1.ax.A y1.ax.ls.length (List.flatMap bu.cells y1.ax.ls))∧(y1.ax.ls.length≤y1.ax.c∧y1.ax.ls.length≤9223372036854775807))) (lF:a.ag.ls.length≤140737488355328∧a.ai.ls.length≤140737488355328∧a.aG.ls.length≤140737488355328) (iV:nG a) (hr:gp a=(r0,r1)):
    Calls Tryz.prog 9 #[.agg #[.int .i64 a.af, .int .u64 ((a.au:Nat):Int), .int .u64 ((a.aY:Nat):Int), .int .u64 ((a.aK:Nat):Int), .slice g bZ l, .slice h cu m, .slice j cz n]] w (dE fun v w'=> ∃ (B0:Option Addr) (b0:Nat),v= .tuple #[.slice B0 r0.length b0, .int .i64 r1]∧Own w D w' [row B0 r0.length b0 (List.flatMap eB r0) 5 1]∧(r0.length≤100000)):=by
 subst dN dO dP
 have hdl0x1:=bS ay
 have hdl0x2:=bS aB
 refine zg (args:= [.agg #[.int .i64 a.af, .int .u64 ((a.au:Nat):Int), .int .u64 ((a.aY:Nat):Int), .int .u64 ((a.aK:Nat):Int), .slice g a.ag.ls.length l, .slice h a.ai.ls.length m, .slice j a.aG.ls.length n]]) Tryz.func9 rfl rfl rfl ?_
 show Wp _ _ _ [(0, .agg #[.int .i64 a.af, .int .u64 ((a.au:Nat):Int), .int .u64 ((a.aY:Nat):Int), .int .u64 ((a.aK:Nat):Int), .slice g a.ag.ls.length l, .slice h a.ai.ls.length m, .slice j a.aG.ls.length n])] _ _
 refine sr ?_
 refine dC [.int .i64 a.af, .int .u64 ((a.au:Nat):Int), .int .u64 ((a.aY:Nat):Int), .int .u64 ((a.aK:Nat):Int), .slice g a.ag.ls.length l, .slice h a.ai.ls.length m, .slice j a.aG.ls.length n] 35 H ?_
 intro E lG fP
 refine Az rfl (An rfl (ze (sr (La ([.int .i64 a.af, .int .u64 ((a.au:Nat):Int), .int .u64 ((a.aY:Nat):Int), .int .u64 ((a.aK:Nat):Int), .slice g a.ag.ls.length l, .slice h a.ai.ls.length m, .slice j a.aG.ls.length n]) fP 0 Tryz.isAgg35 Tryz.sizeOf35 ?_))))
 obtain⟨aK,aI⟩:∃ q,bH a=q:=⟨_,rfl⟩
 obtain⟨lH,fQ,P,fT,jZ⟩:=zt fP
 refine cl Tryz.call13 (kw _ _ a g a.ag.ls.length l h a.ai.ls.length m aj j a.aG.ls.length n av aK fQ rfl (P _ X) (show a.ag.ls.length≤l∧a.ag.ls.length≤9223372036854775807 from by omega) ay rfl (P _ Y) (show a.ai.ls.length≤m∧a.ai.ls.length≤9223372036854775807 from by omega) (fun x9 h9=>⟨P _ (Z x9 h9).1,(Z x9 h9).2⟩) aB rfl (P _ aa) (show a.aG.ls.length≤n∧a.aG.ls.length≤9223372036854775807 from by omega) (fun x9 h9=>⟨P _ (C x9 h9).1,(C x9 h9).2.1,(fun y1 k1=>⟨P _ ((C x9 h9).2.2 y1 k1).1,((C x9 h9).2.2 y1 k1).2⟩)⟩) (by first | omega | (dsimp only; omega) | (simp only [List.length_nil]; omega) | decide) aI) ?_
 rintro _ iW ⟨rfl,fU⟩
 have fV:=fT _ _ fU
 refine Ar rfl (Mz rfl (fw (.bool (decide (¬ (aK=0)))) (zF (e:= !(decide (aK=0))) yk decide_not.symm) (nt ?_)))
 by_cases bV:aK=0
 refine jF (dF (Ce bV)) (sk (sr ?_))
 have hsm35:=tJ (by rw [aI]; omega) iV
 have j4:a.ag.ls.length≤6:=hsm35.1
 have j5:a.ai.ls.length≤8:=hsm35.2.2.1
 have j6:a.aG.ls.length≤4:=hsm35.2.2.2.2.1
 have kg:a.au≤18446744073709551615:=hsm35.2.2.2.2.2.2.1
 have kr:a.aY≤18446744073709551615:=hsm35.2.2.2.2.2.2.2.1
 have ku:a.aK≤18446744073709551615:=hsm35.2.2.2.2.2.2.2.2
 refine kF [.int .u8 67] 5 1 1 fV ?_
 intro bW lI dQ
 replace dQ:=zY (y:=row bW 1 1 (List.flatMap eB ([67])) 5 1) rfl dQ
 refine Kz (.agg #[.slice bW 1 1]) ?_
 refine dC [.slice bW 1 1] 57 dQ ?_
 intro b lJ fZ
 refine Ar rfl (Mz rfl (Kz (.pointer (some ⟨E,0,none⟩)) (Lz (.int .i64 a.af) fZ 2 Tryz.isAgg3 ?_)))
 refine WL.do rfl (zI Tryz.call19 rfl ?_ (fun _ _ k=>k))
 refine zg (args:= [.pointer (some ⟨b,0,none⟩), .int .i64 a.af]) Tryz.func19 rfl rfl rfl ?_
 show Wp _ _ _ [(0, .pointer (some ⟨b,0,none⟩)),(1, .int .i64 a.af)] _ _
 refine zb (Mz rfl (Mz rfl ?_))
 have kv:Int.toNat (IntKind.u64.wrap a.af)≤18446744073709551615:=jW _
 refine fw (.int .u64 ((Int.toNat (IntKind.u64.wrap a.af):Nat):Int)) (zy (e:=IntKind.u64.wrap a.af) yk (gI _)) ?_
 obtain⟨aL,cB⟩:∃ q,aA (aQ.mk (Ll.mk ([67]))) (Int.toNat (IntKind.u64.wrap a.af))=q:=⟨_,rfl⟩
 obtain⟨lK,gm,ky,gq,kz⟩:=zB fZ
 refine cl Tryz.call21 (aR _ _ b (aQ.mk (Ll.mk ([67]))) bW 1 (Int.toNat (IntKind.u64.wrap a.af)) aL gm (by first | omega | (dsimp only; omega) | (dsimp only [List.length_cons,List.length_nil]; omega)) cB) ?_
 rintro _ lL ⟨iX,ja,rfl,gu,cK⟩
 have aN:=gq _ _ gu
 have kC:=aN.rowC (i:=1) rfl
 replace cK:aL.xb.ls.length≤1+10:=cK
 refine zq (zC (res0 rfl) (ns (Mz rfl (Kz (.func (.func 21) #[.pointer (some ⟨b,0,none⟩)] #[]) (Kz (.pointer (some ⟨E,1,none⟩)) (Lz (.int .u64 ((a.au:Nat):Int)) aN 2 Tryz.isAgg22 (Kz (.pointer (some ⟨E,2,none⟩)) (Lz (.int .u64 ((a.aY:Nat):Int)) aN 2 Tryz.isAgg22 (Kz (.pointer (some ⟨E,3,none⟩)) (Lz (.int .u64 ((a.aK:Nat):Int)) aN 2 Tryz.isAgg22 ?_))))))))))
 refine kF [.int .u64 ((a.au:Nat):Int), .int .u64 ((a.aY:Nat):Int), .int .u64 ((a.aK:Nat):Int)] 22 1 3 aN ?_
 intro B lM aO
 replace aO:=zY (y:=row B 3 3 (List.flatMap (eN .u64) ([a.au,a.aY,a.aK])) 22 1) rfl aO
 refine WL.do rfl (zI Tryz.call20 rfl ?_ (fun _ _ k=>k))
 refine zg (args:= [.func (.func 21) #[.pointer (some ⟨b,0,none⟩)] #[], .slice B 3 3]) Tryz.func20 rfl rfl rfl ?_
 show Wp _ _ _ [(0, .func (.func 21) #[.pointer (some ⟨b,0,none⟩)] #[]),(1, .slice B 3 3)] _ _
 refine sr (Mz rfl (Kz (.int .i64 3) (Mn rfl (bo (Ah 200 (sr (Kz (.bool true) (nt (ze (jt (sk (ze (bo (sr ?_))))))))))))))
 have gy:([a.au,a.aY,a.aK]:List Nat)[0]? =some a.au:=rfl
 refine fw (.pointer (some ⟨ab B,ao B+0 *1,none⟩)) (zn (jR) rfl rfl ((aO.rds (i:=0) rfl).addr (i:=0) (by omega)) (by omega)) (fw (.int .u64 ((a.au:Nat):Int)) (zi rfl (bf.one Tryz.isAgg22 (((aO.rds (i:=0) rfl).elem ib gy (by decide)).at_ (k:=0) rfl))) (An rfl (zb (Mz rfl (Mz rfl ?_)))))
 have jb:=aO.pk [1,2,0,3]
 obtain⟨aP,cO⟩:∃ q,aA aL a.au=q:=⟨_,rfl⟩
 obtain⟨lN,gz,kD,gB,kE⟩:=zB jb
 refine WL.do rfl (zK Tryz.call21 rfl rfl (aR _ _ b aL iX ja a.au aP gz (by first | omega | (dsimp only; omega) | (dsimp only [List.length_cons,List.length_nil]; omega)) cO) ?_)
 rintro _ lQ ⟨jc,jd,rfl,gD,cZ⟩
 have bX:=gB _ _ gD
 have kG:=bX.rowC (i:=1) rfl
 replace cZ:aP.xb.ls.length≤aL.xb.ls.length+10:=cZ
 refine zq (bN (zu (zb (Kz (.int .i64 1) (Mz rfl (zq (zR [(8, .int .i64 1),(7, .int .i64 3),(6, .slice B 3 3),(0, .func (.func 21) #[.pointer (some ⟨b,0,none⟩)] #[])] ⟨rfl,rfl,rfl,rfl,trivial⟩ (sr (Kz (.bool true) (nt (ze (jt (sk (ze (bo (sr ?_))))))))))))))))
 have gF:([a.au,a.aY,a.aK]:List Nat)[1]? =some a.aY:=rfl
 refine fw (.pointer (some ⟨ab B,ao B+1 *1,none⟩)) (zn (jR) rfl rfl ((bX.rds (i:=2) rfl).addr (i:=1) (by omega)) (by omega)) (fw (.int .u64 ((a.aY:Nat):Int)) (zi rfl (bf.one Tryz.isAgg22 (((bX.rds (i:=2) rfl).elem ib gF (by decide)).at_ (k:=0) rfl))) (An rfl (zb (Mz rfl (Mz rfl ?_)))))
 obtain⟨aT,dh⟩:∃ q,aA aP a.aY=q:=⟨_,rfl⟩
 obtain⟨lS,gG,kH,gH,kI⟩:=zB bX
 refine WL.do rfl (zK Tryz.call21 rfl rfl (aR _ _ b aP jc jd a.aY aT gG (by first | omega | (dsimp only; omega) | (dsimp only [List.length_cons,List.length_nil]; omega)) dh) ?_)
 rintro _ lT ⟨je,jg,rfl,gJ,di⟩
 have bY:=gH _ _ gJ
 have kJ:=bY.rowC (i:=1) rfl
 replace di:aT.xb.ls.length≤aP.xb.ls.length+10:=di
 refine zq (bN (zu (zb (Kz (.int .i64 2) (Mz rfl (zq (zR [(8, .int .i64 2),(7, .int .i64 3),(6, .slice B 3 3),(0, .func (.func 21) #[.pointer (some ⟨b,0,none⟩)] #[])] ⟨rfl,rfl,rfl,rfl,trivial⟩ (sr (Kz (.bool true) (nt (ze (jt (sk (ze (bo (sr ?_))))))))))))))))
 have gK:([a.au,a.aY,a.aK]:List Nat)[2]? =some a.aK:=rfl
 refine fw (.pointer (some ⟨ab B,ao B+2 *1,none⟩)) (zn (jR) rfl rfl ((bY.rds (i:=2) rfl).addr (i:=2) (by omega)) (by omega)) (fw (.int .u64 ((a.aK:Nat):Int)) (zi rfl (bf.one Tryz.isAgg22 (((bY.rds (i:=2) rfl).elem ib gK (by decide)).at_ (k:=0) rfl))) (An rfl (zb (Mz rfl (Mz rfl ?_)))))
 obtain⟨ax,aU⟩:∃ q,aA aT a.aK=q:=⟨_,rfl⟩
 obtain⟨lU,gL,jh,dR,ji⟩:=zB bY
 refine WL.do rfl (zK Tryz.call21 rfl rfl (aR _ _ b aT je jg a.aK ax gL (by first | omega | (dsimp only; omega) | (dsimp only [List.length_cons,List.length_nil]; omega)) aU) ?_)
 rintro _ kK ⟨gM,gN,rfl,dS,aV⟩
 have aW:=dR _ _ dS
 have jk:=aW.rowC (i:=1) rfl
 replace aV:ax.xb.ls.length≤aT.xb.ls.length+10:=aV
 refine zq (bN (zu (zb (Kz (.int .i64 3) (Mz rfl (zq (zR [(8, .int .i64 3),(7, .int .i64 3),(6, .slice B 3 3),(0, .func (.func 21) #[.pointer (some ⟨b,0,none⟩)] #[])] ⟨rfl,rfl,rfl,rfl,trivial⟩ (sr (Kz (.bool false) (nt (ze (jf (Wp.exit (zk (zk (zA (zC (res0 rfl) (ns (Mz rfl (Kz (.pointer (some ⟨E,4,none⟩)) (Lz (.slice g a.ag.ls.length l) aW 3 Tryz.isAgg23 (Mz rfl (Kz (.func (.func 23) #[.pointer (some ⟨b,0,none⟩)] #[]) ?_)))))))))))))))))))))))
 refine WL.do rfl (zI Tryz.call22 rfl ?_ (fun _ _ k=>k))
 refine zg (args:= [.pointer (some ⟨b,0,none⟩), .slice g a.ag.ls.length l, .func (.func 23) #[.pointer (some ⟨b,0,none⟩)] #[]]) Tryz.func22 rfl rfl rfl ?_
 show Wp _ _ _ [(0, .pointer (some ⟨b,0,none⟩)),(1, .slice g a.ag.ls.length l),(2, .func (.func 23) #[.pointer (some ⟨b,0,none⟩)] #[])] _ _
 refine sr (Mz rfl (Mz rfl (Kz (.int .i64 ((a.ag.ls.length:Nat):Int)) ?_)))
 refine WL.do rfl (zI Tryz.call19 rfl ?_ (fun _ _ k=>k))
 refine zg (args:= [.pointer (some ⟨b,0,none⟩), .int .i64 ((a.ag.ls.length:Nat):Int)]) Tryz.func19 rfl rfl rfl ?_
 show Wp _ _ _ [(0, .pointer (some ⟨b,0,none⟩)),(1, .int .i64 ((a.ag.ls.length:Nat):Int))] _ _
 refine zb (Mz rfl (Mz rfl (fw (.int .u64 ((a.ag.ls.length:Nat):Int)) (zy (e:=IntKind.u64.wrap ((a.ag.ls.length:Nat):Int)) yk (IntWalk.u64_in _ (by omega))) ?_)))
 obtain⟨I,aX⟩:∃ q,aA ax a.ag.ls.length=q:=⟨_,rfl⟩
 obtain⟨kL,dU,jl,dV,jm⟩:=zB aW
 refine cl Tryz.call21 (aR _ _ b ax gM gN a.ag.ls.length I dU (by first | omega | (dsimp only; omega) | (dsimp only [List.length_cons,List.length_nil]; omega)) aX) ?_
 rintro _ kM ⟨gP,gQ,rfl,dW,aY⟩
 have dm:=dV _ _ dW
 have jo:=dm.rowC (i:=1) rfl
 replace aY:I.xb.ls.length≤ax.xb.ls.length+10:=aY
 refine zq (zC (res0 rfl) (nt (zb (Mz rfl (Mz rfl ?_)))))
 refine WL.do rfl (zI Tryz.call69 rfl ?_ (fun _ _ k=>k))
 refine zg (args:= [.func (.func 23) #[.pointer (some ⟨b,0,none⟩)] #[], .slice g a.ag.ls.length l]) Tryz.func69 rfl rfl rfl ?_
 show Wp _ _ _ [(0, .func (.func 23) #[.pointer (some ⟨b,0,none⟩)] #[]),(1, .slice g a.ag.ls.length l)] _ _
 refine sr (Mz rfl (Kz (.int .i64 ((a.ag.ls.length:Nat):Int)) (Mn rfl (bo ?_))))
 have gT:=dm.pk [0,2,3,1]
 obtain⟨dn,dX⟩:∃ q:(Nat × (Option Addr) × Nat × (List UInt8))→World→Prop,q=fun(i:Nat × (Option Addr) × Nat × (List UInt8)) w'=>Own w D w' [blk b [.slice i.2.1 i.2.2.2.length i.2.2.1] 57,row B 3 3 (List.flatMap (eN .u64) ([a.au,a.aY,a.aK])) 22 1,blk E [.int .i64 a.af, .int .u64 ((a.au:Nat):Int), .int .u64 ((a.aY:Nat):Int), .int .u64 ((a.aK:Nat):Int), .slice g a.ag.ls.length l, .slice h a.ai.ls.length m, .slice j a.aG.ls.length n] 35,row i.2.1 i.2.2.2.length i.2.2.1 (List.flatMap eB i.2.2.2) 5 1]∧(i.1≤a.ag.ls.length∧((i.2.2.2.length:Nat):Int)≤((I.xb.ls.length:Nat):Int)+40 *((i.1:Nat):Int)∧fB a a.ag.ls I.xb.ls=fB a (List.drop i.1 a.ag.ls) i.2.2.2):=⟨_,rfl⟩
 have aC:∀ {o:Nat} {Q:Option Addr} {R:Nat} {s:List UInt8} {w':World},dn (o,Q,R,s) w'↔Own w D w' [blk b [.slice Q s.length R] 57,row B 3 3 (List.flatMap (eN .u64) ([a.au,a.aY,a.aK])) 22 1,blk E [.int .i64 a.af, .int .u64 ((a.au:Nat):Int), .int .u64 ((a.aY:Nat):Int), .int .u64 ((a.aK:Nat):Int), .slice g a.ag.ls.length l, .slice h a.ai.ls.length m, .slice j a.aG.ls.length n] 35,row Q s.length R (List.flatMap eB s) 5 1]∧o≤a.ag.ls.length∧((s.length:Nat):Int)≤((I.xb.ls.length:Nat):Int)+40 *((o:Nat):Int)∧fB a a.ag.ls I.xb.ls=fB a (List.drop o a.ag.ls) s:=by intros; subst dX; exact Iff.rfl
 refine Wp.loop (fun i:Nat × (Option Addr) × Nat × (List UInt8)=> [(8, .int .i64 ((i.1:Nat):Int)),(7, .int .i64 ((a.ag.ls.length:Nat):Int)),(6, .slice g a.ag.ls.length l),(0, .func (.func 23) #[.pointer (some ⟨b,0,none⟩)] #[])]) dn (fun i=>a.ag.ls.length - i.1) (0,gP,gQ,I.xb.ls) ⟨rfl,rfl,rfl,rfl,trivial⟩ (aC.2 ⟨gT,by omega,by omega,rfl⟩) ?_
 rintro ⟨o,Q,R,s⟩ kN dY
 show Wp _ _ _ [(8, .int .i64 ((o:Nat):Int)),(7, .int .i64 ((a.ag.ls.length:Nat):Int)),(6, .slice g a.ag.ls.length l),(0, .func (.func 23) #[.pointer (some ⟨b,0,none⟩)] #[])] _ _
 obtain⟨S,jq,jr,aZ⟩:=aC.1 dY
 refine sr (Kz (.bool (decide (((o:Nat):Int) < ((a.ag.ls.length:Nat):Int)))) (nt (ze ?_)))
 by_cases dw:((o:Nat):Int) < ((a.ag.ls.length:Nat):Int)
 obtain⟨L,aD⟩:=eH (ls:=a.ag.ls) (i:=o) aH.len (by decide) (S.ro X) (by first | omega | (simp; done) | (simp; omega))
 have dZ:L.aJ.length≤12:=hsm35.2.1 _ (List.mem_of_getElem? aD)
 have d9:=drop_at aD
 refine jT (dT dw) (sk (ze (bo (sr (fw (.pointer (some ⟨ab g,ao g+o *2,none⟩)) (zn (mF) rfl rfl ((S.ro X).addr (i:=o) (by omega)) (by omega)) (fw (.agg (aH.cells L).toArray) (zi rfl (zD (cs:=(aH.cells L)) Tryz.isAgg54 Tryz.sizeOf54 ((S.ro X).elem aH.len aD (by decide)))) ?_))))))
 refine dC [.string ⟨List.toArray ([])⟩, .int .i64 0] 54 S ?_
 intro kP kQ gU
 refine df (aH.cells L) 0 gU Tryz.sizeOf54 ?_
 intro kR dx
 refine nt (zb (Mz rfl (La (aH.cells L) dx 0 Tryz.isAgg54 Tryz.sizeOf54 ?_)))
 have gV:=dx.pk [1,4,0,2,3]
 obtain⟨bg,bi⟩:∃ q,iy (aQ.mk (Ll.mk s)) L=q:=⟨_,rfl⟩
 obtain⟨kS,ed,jv,ek,jw⟩:=zB gV
 refine WL.do rfl (zK Tryz.call23 rfl rfl (kT _ _ b (aQ.mk (Ll.mk s)) Q R L bg ed (by first | omega | (dsimp only; omega) | (dsimp only [List.length_cons,List.length_nil]; omega)) (by exact dZ) bi) ?_)
 rintro _ kU ⟨gW,gY,rfl,eu,bq⟩
 have dz:=ek _ _ eu
 have jy:=dz.rowC (i:=1) rfl
 replace bq:bg.xb.ls.length≤s.length+40:=bq
 refine zq (bN (zu (zb (fw (.int .i64 ((o+1:Nat):Int)) (zy (e:=IntKind.i64.wrap (((o:Nat):Int)+1)) yk (by rw [Cb _ (by omega)]; omega)) (Mz rfl (zq ?_))))))
 have gZ:=dz.pk [0,3,4,1]
 exact zH (o+1,gW,gY,bg.xb.ls) ⟨rfl,rfl,rfl,rfl,trivial⟩ (aC.2 ⟨gZ,by omega,by omega,et (aZ) (et (congrArg (fun q=>fB a q s) d9) (ae bi))⟩) (by show a.ag.ls.length - (o+1) < a.ag.ls.length - o; omega)
 refine jF (dF dw) (Wp.exit (zk ?_))
 have eG:fB a a.ag.ls I.xb.ls=s:=et (aZ) (et (congrArg (fun q=>fB a q s) (eF (ls:=a.ag.ls) (i:=o) (by omega))) rfl)
 refine zk (zA (zC (res0 rfl) (zq (zC (res0 rfl) (ns (Mz rfl (Kz (.pointer (some ⟨E,5,none⟩)) (Lz (.slice h a.ai.ls.length m) S 2 Tryz.isAgg32 (Mz rfl (Kz (.func (.func 33) #[.pointer (some ⟨b,0,none⟩)] #[]) ?_))))))))))
 refine WL.do rfl (zI Tryz.call32 rfl ?_ (fun _ _ k=>k))
 refine zg (args:= [.pointer (some ⟨b,0,none⟩), .slice h a.ai.ls.length m, .func (.func 33) #[.pointer (some ⟨b,0,none⟩)] #[]]) Tryz.func32 rfl rfl rfl ?_
 show Wp _ _ _ [(0, .pointer (some ⟨b,0,none⟩)),(1, .slice h a.ai.ls.length m),(2, .func (.func 33) #[.pointer (some ⟨b,0,none⟩)] #[])] _ _
 refine sr (Mz rfl (Mz rfl (Kz (.int .i64 ((a.ai.ls.length:Nat):Int)) ?_)))
 refine WL.do rfl (zI Tryz.call19 rfl ?_ (fun _ _ k=>k))
 refine zg (args:= [.pointer (some ⟨b,0,none⟩), .int .i64 ((a.ai.ls.length:Nat):Int)]) Tryz.func19 rfl rfl rfl ?_
 show Wp _ _ _ [(0, .pointer (some ⟨b,0,none⟩)),(1, .int .i64 ((a.ai.ls.length:Nat):Int))] _ _
 refine zb (Mz rfl (Mz rfl (fw (.int .u64 ((a.ai.ls.length:Nat):Int)) (zy (e:=IntKind.u64.wrap ((a.ai.ls.length:Nat):Int)) yk (IntWalk.u64_in _ (by omega))) ?_)))
 have ic:=S.pk [0,3,1,2]
 obtain⟨J,bv⟩:∃ q,aA (aQ.mk (Ll.mk s)) a.ai.ls.length=q:=⟨_,rfl⟩
 obtain⟨kV,eO,jA,eP,jB⟩:=zB ic
 refine cl Tryz.call21 (aR _ _ b (aQ.mk (Ll.mk s)) Q R a.ai.ls.length J eO (by first | omega | (dsimp only; omega) | (dsimp only [List.length_cons,List.length_nil]; omega)) bv) ?_
 rintro _ kW ⟨ik,il,rfl,eQ,bz⟩
 have dA:=eP _ _ eQ
 have jC:=dA.rowC (i:=1) rfl
 replace bz:J.xb.ls.length≤s.length+10:=bz
 refine zq (zC (res0 rfl) (nt (zb (Mz rfl (Mz rfl ?_)))))
 refine WL.do rfl (zI Tryz.call76 rfl ?_ (fun _ _ k=>k))
 refine zg (args:= [.func (.func 33) #[.pointer (some ⟨b,0,none⟩)] #[], .slice h a.ai.ls.length m]) Tryz.func76 rfl rfl rfl ?_
 show Wp _ _ _ [(0, .func (.func 33) #[.pointer (some ⟨b,0,none⟩)] #[]),(1, .slice h a.ai.ls.length m)] _ _
 refine sr (Mz rfl (Kz (.int .i64 ((a.ai.ls.length:Nat):Int)) (Mn rfl (bo ?_))))
 have iq:=dA.pk [0,2,3,1]
 obtain⟨dB,eT⟩:∃ q:(Nat × (Option Addr) × Nat × (List UInt8))→World→Prop,q=fun(i:Nat × (Option Addr) × Nat × (List UInt8)) w'=>Own w D w' [blk b [.slice i.2.1 i.2.2.2.length i.2.2.1] 57,row B 3 3 (List.flatMap (eN .u64) ([a.au,a.aY,a.aK])) 22 1,blk E [.int .i64 a.af, .int .u64 ((a.au:Nat):Int), .int .u64 ((a.aY:Nat):Int), .int .u64 ((a.aK:Nat):Int), .slice g a.ag.ls.length l, .slice h a.ai.ls.length m, .slice j a.aG.ls.length n] 35,row i.2.1 i.2.2.2.length i.2.2.1 (List.flatMap eB i.2.2.2) 5 1]∧(i.1≤a.ai.ls.length∧((i.2.2.2.length:Nat):Int)≤((J.xb.ls.length:Nat):Int)+100 *((i.1:Nat):Int)∧fC a a.ai.ls J.xb.ls=fC a (List.drop i.1 a.ai.ls) i.2.2.2):=⟨_,rfl⟩
 have aF:∀ {p:Nat} {T:Option Addr} {U:Nat} {t:List UInt8} {w':World},dB (p,T,U,t) w'↔Own w D w' [blk b [.slice T t.length U] 57,row B 3 3 (List.flatMap (eN .u64) ([a.au,a.aY,a.aK])) 22 1,blk E [.int .i64 a.af, .int .u64 ((a.au:Nat):Int), .int .u64 ((a.aY:Nat):Int), .int .u64 ((a.aK:Nat):Int), .slice g a.ag.ls.length l, .slice h a.ai.ls.length m, .slice j a.aG.ls.length n] 35,row T t.length U (List.flatMap eB t) 5 1]∧p≤a.ai.ls.length∧((t.length:Nat):Int)≤((J.xb.ls.length:Nat):Int)+100 *((p:Nat):Int)∧fC a a.ai.ls J.xb.ls=fC a (List.drop p a.ai.ls) t:=by intros; subst eT; exact Iff.rfl
 refine Wp.loop (fun i:Nat × (Option Addr) × Nat × (List UInt8)=> [(8, .int .i64 ((i.1:Nat):Int)),(7, .int .i64 ((a.ai.ls.length:Nat):Int)),(6, .slice h a.ai.ls.length m),(0, .func (.func 33) #[.pointer (some ⟨b,0,none⟩)] #[])]) dB (fun i=>a.ai.ls.length - i.1) (0,ik,il,J.xb.ls) ⟨rfl,rfl,rfl,rfl,trivial⟩ (aF.2 ⟨iq,by omega,by omega,rfl⟩) ?_
 rintro ⟨p,T,U,t⟩ kX eU
 show Wp _ _ _ [(8, .int .i64 ((p:Nat):Int)),(7, .int .i64 ((a.ai.ls.length:Nat):Int)),(6, .slice h a.ai.ls.length m),(0, .func (.func 33) #[.pointer (some ⟨b,0,none⟩)] #[])] _ _
 obtain⟨V,jD,jE,bA⟩:=aF.1 eU
 refine sr (Kz (.bool (decide (((p:Nat):Int) < ((a.ai.ls.length:Nat):Int)))) (nt (ze ?_)))
 by_cases dD:((p:Nat):Int) < ((a.ai.ls.length:Nat):Int)
 obtain⟨f,ag⟩:=eH (ls:=aj) (i:=p) ak.len (by decide) (V.ro Y) (by first | omega | (simp; done) | (simp; omega))
 have bC:=iY ay ag
 have jH:=(Z _ (List.mem_of_getElem? ag)).2
 have M:(zz f).aS≤18446744073709551615∧(zz f).au≤18446744073709551615∧(zz f).bB≤18446744073709551615∧List.length (zz f).af.ls≤4:=hsm35.2.2.2.1 _ (List.mem_of_getElem? bC)
 have hz203p0:f.aS≤18446744073709551615:=by have F:=M.1; first | exact F | (simp only [zz,List.length_map] at F; exact F)
 have hz203p1:f.au≤18446744073709551615:=by have F:=M.2.1; first | exact F | (simp only [zz,List.length_map] at F; exact F)
 have hz203p2:f.bB≤18446744073709551615:=by have F:=M.2.2.1; first | exact F | (simp only [zz,List.length_map] at F; exact F)
 have hz203p3:f.af.ls.length≤4:=by have F:=M.2.2.2; first | exact F | (simp only [zz,List.length_map] at F; exact F)
 have eX:=drop_at bC
 refine jT (dT dD) (sk (ze (bo (sr (fw (.pointer (some ⟨ab h,ao h+p *5,none⟩)) (zn (qE) rfl rfl ((V.ro Y).addr (i:=p) (by omega)) (by omega)) (fw (.agg (ak.cells f).toArray) (zi rfl (zD (cs:=(ak.cells f)) Tryz.isAgg79 Tryz.sizeOf79 ((V.ro Y).elem ak.len ag (by decide)))) ?_))))))
 refine dC [.int .u64 0, .int .i64 0, .int .u64 0, .int .u64 0, .slice none 0 0] 79 V ?_
 intro kY kZ iw
 refine df (ak.cells f) 0 iw Tryz.sizeOf79 ?_
 intro lc dG
 refine nt (zb (Mz rfl (La (ak.cells f) dG 0 Tryz.isAgg79 Tryz.sizeOf79 ?_)))
 have iA:=dG.pk [1,4,0,2,3]
 obtain⟨bD,bE⟩:∃ q,iZ (aQ.mk (Ll.mk t)) (bO.mk f.aS f.aC f.au f.bB (Ll.mk f.af.ls))=q:=⟨_,rfl⟩
 obtain⟨lg,eY,eZ,fe,jI⟩:=zB iA
 refine WL.do rfl (zK Tryz.call33 rfl rfl (mo _ _ b (aQ.mk (Ll.mk t)) T U (bO.mk f.aS f.aC f.au f.bB (Ll.mk f.af.ls)) f.af.A f.af.ls.length f.af.c bD eY rfl (eZ _ (Z _ (List.mem_of_getElem? ag)).1) (show f.af.ls.length≤f.af.c∧f.af.ls.length≤9223372036854775807 from by omega) (by first | omega | (dsimp only; omega) | (dsimp only [List.length_cons,List.length_nil]; omega)) (by exact M) bE) ?_)
 rintro _ lh ⟨iB,iC,rfl,fo,bF⟩
 have dH:=fe _ _ fo
 have jJ:=dH.rowC (i:=1) rfl
 replace bF:bD.xb.ls.length≤t.length+100:=bF
 refine zq (bN (zu (zb (fw (.int .i64 ((p+1:Nat):Int)) (zy (e:=IntKind.i64.wrap (((p:Nat):Int)+1)) yk (by rw [Cb _ (by omega)]; omega)) (Mz rfl (zq ?_))))))
 have iD:=dH.pk [0,3,4,1]
 exact zH (p+1,iB,iC,bD.xb.ls) ⟨rfl,rfl,rfl,rfl,trivial⟩ (aF.2 ⟨iD,by omega,by omega,et (bA) (et (congrArg (fun q=>fC a q t) eX) (ae bE))⟩) (by show a.ai.ls.length - (p+1) < a.ai.ls.length - p; omega)
 refine jF (dF dD) (Wp.exit (zk ?_))
 have fq:fC a a.ai.ls J.xb.ls=t:=et (bA) (et (congrArg (fun q=>fC a q t) (eF (ls:=a.ai.ls) (i:=p) (by omega))) rfl)
 refine zk (zA (zC (res0 rfl) (zq (zC (res0 rfl) (ns (Mz rfl (Kz (.pointer (some ⟨E,6,none⟩)) (Lz (.slice j a.aG.ls.length n) V 2 Tryz.isAgg33 (Mz rfl (Kz (.func (.func 35) #[.pointer (some ⟨b,0,none⟩)] #[]) ?_))))))))))
 refine WL.do rfl (zI Tryz.call34 rfl ?_ (fun _ _ k=>k))
 refine zg (args:= [.pointer (some ⟨b,0,none⟩), .slice j a.aG.ls.length n, .func (.func 35) #[.pointer (some ⟨b,0,none⟩)] #[]]) Tryz.func34 rfl rfl rfl ?_
 show Wp _ _ _ [(0, .pointer (some ⟨b,0,none⟩)),(1, .slice j a.aG.ls.length n),(2, .func (.func 35) #[.pointer (some ⟨b,0,none⟩)] #[])] _ _
 refine sr (Mz rfl (Mz rfl (Kz (.int .i64 ((a.aG.ls.length:Nat):Int)) ?_)))
 refine WL.do rfl (zI Tryz.call19 rfl ?_ (fun _ _ k=>k))
 refine zg (args:= [.pointer (some ⟨b,0,none⟩), .int .i64 ((a.aG.ls.length:Nat):Int)]) Tryz.func19 rfl rfl rfl ?_
 show Wp _ _ _ [(0, .pointer (some ⟨b,0,none⟩)),(1, .int .i64 ((a.aG.ls.length:Nat):Int))] _ _
 refine zb (Mz rfl (Mz rfl (fw (.int .u64 ((a.aG.ls.length:Nat):Int)) (zy (e:=IntKind.u64.wrap ((a.aG.ls.length:Nat):Int)) yk (IntWalk.u64_in _ (by omega))) ?_)))
 have iE:=V.pk [0,3,1,2]
 obtain⟨K,bG⟩:∃ q,aA (aQ.mk (Ll.mk t)) a.aG.ls.length=q:=⟨_,rfl⟩
 obtain⟨ll,fu,jK,fA,jL⟩:=zB iE
 refine cl Tryz.call21 (aR _ _ b (aQ.mk (Ll.mk t)) T U a.aG.ls.length K fu (by first | omega | (dsimp only; omega) | (dsimp only [List.length_cons,List.length_nil]; omega)) bG) ?_
 rintro _ lm ⟨iF,iG,rfl,fE,bI⟩
 have dI:=fA _ _ fE
 have jM:=dI.rowC (i:=1) rfl
 replace bI:K.xb.ls.length≤t.length+10:=bI
 refine zq (zC (res0 rfl) (nt (zb (Mz rfl (Mz rfl ?_)))))
 refine WL.do rfl (zI Tryz.call78 rfl ?_ (fun _ _ k=>k))
 refine zg (args:= [.func (.func 35) #[.pointer (some ⟨b,0,none⟩)] #[], .slice j a.aG.ls.length n]) Tryz.func78 rfl rfl rfl ?_
 show Wp _ _ _ [(0, .func (.func 35) #[.pointer (some ⟨b,0,none⟩)] #[]),(1, .slice j a.aG.ls.length n)] _ _
 refine sr (Mz rfl (Kz (.int .i64 ((a.aG.ls.length:Nat):Int)) (Mn rfl (bo ?_))))
 have iH:=dI.pk [0,2,3,1]
 obtain⟨dJ,fF⟩:∃ q:(Nat × (Option Addr) × Nat × (List UInt8))→World→Prop,q=fun(i:Nat × (Option Addr) × Nat × (List UInt8)) w'=>Own w D w' [blk b [.slice i.2.1 i.2.2.2.length i.2.2.1] 57,row B 3 3 (List.flatMap (eN .u64) ([a.au,a.aY,a.aK])) 22 1,blk E [.int .i64 a.af, .int .u64 ((a.au:Nat):Int), .int .u64 ((a.aY:Nat):Int), .int .u64 ((a.aK:Nat):Int), .slice g a.ag.ls.length l, .slice h a.ai.ls.length m, .slice j a.aG.ls.length n] 35,row i.2.1 i.2.2.2.length i.2.2.1 (List.flatMap eB i.2.2.2) 5 1]∧(i.1≤a.aG.ls.length∧((i.2.2.2.length:Nat):Int)≤((K.xb.ls.length:Nat):Int)+8000 *((i.1:Nat):Int)∧fD a.aG.ls K.xb.ls=fD (List.drop i.1 a.aG.ls) i.2.2.2):=⟨_,rfl⟩
 have aG:∀ {r:Nat} {N:Option Addr} {O:Nat} {u:List UInt8} {w':World},dJ (r,N,O,u) w'↔Own w D w' [blk b [.slice N u.length O] 57,row B 3 3 (List.flatMap (eN .u64) ([a.au,a.aY,a.aK])) 22 1,blk E [.int .i64 a.af, .int .u64 ((a.au:Nat):Int), .int .u64 ((a.aY:Nat):Int), .int .u64 ((a.aK:Nat):Int), .slice g a.ag.ls.length l, .slice h a.ai.ls.length m, .slice j a.aG.ls.length n] 35,row N u.length O (List.flatMap eB u) 5 1]∧r≤a.aG.ls.length∧((u.length:Nat):Int)≤((K.xb.ls.length:Nat):Int)+8000 *((r:Nat):Int)∧fD a.aG.ls K.xb.ls=fD (List.drop r a.aG.ls) u:=by intros; subst fF; exact Iff.rfl
 refine Wp.loop (fun i:Nat × (Option Addr) × Nat × (List UInt8)=> [(8, .int .i64 ((i.1:Nat):Int)),(7, .int .i64 ((a.aG.ls.length:Nat):Int)),(6, .slice j a.aG.ls.length n),(0, .func (.func 35) #[.pointer (some ⟨b,0,none⟩)] #[])]) dJ (fun i=>a.aG.ls.length - i.1) (0,iF,iG,K.xb.ls) ⟨rfl,rfl,rfl,rfl,trivial⟩ (aG.2 ⟨iH,by omega,by omega,rfl⟩) ?_
 rintro ⟨r,N,O,u⟩ lq fG
 show Wp _ _ _ [(8, .int .i64 ((r:Nat):Int)),(7, .int .i64 ((a.aG.ls.length:Nat):Int)),(6, .slice j a.aG.ls.length n),(0, .func (.func 35) #[.pointer (some ⟨b,0,none⟩)] #[])] _ _
 obtain⟨W,jN,jO,bJ⟩:=aG.1 fG
 refine sr (Kz (.bool (decide (((r:Nat):Int) < ((a.aG.ls.length:Nat):Int)))) (nt (ze ?_)))
 by_cases dK:((r:Nat):Int) < ((a.aG.ls.length:Nat):Int)
 obtain⟨d,G⟩:=eH (ls:=av) (i:=r) aM.len (by decide) (W.ro aa) (by first | omega | (simp; done) | (simp; omega))
 have bL:=iY aB G
 have jP:=(C _ (List.mem_of_getElem? G)).2.1
 have jQ:List.length (List.map zm d.ah.ls)=d.ah.ls.length:=List.length_map ..
 have ai:(zM d).au≤18446744073709551615∧(zM d).bB≤18446744073709551615∧List.length (zM d).ah.ls≤24∧∀ z ∈ (zM d).ah.ls,z.aB.length≤16∧z.ax.ls.length≤4∧∀ q ∈ z.ax.ls,q.aX.length≤12∧q.aB.length≤16:=hsm35.2.2.2.2.2.1 _ (List.mem_of_getElem? bL)
 have hz263p0:d.au≤18446744073709551615:=by have F:=ai.1; first | exact F | (simp only [zM,List.length_map] at F; exact F)
 have hz263p1:d.bB≤18446744073709551615:=by have F:=ai.2.1; first | exact F | (simp only [zM,List.length_map] at F; exact F)
 have hz263p2:d.ah.ls.length≤24:=by have F:=ai.2.2.1; first | exact F | (simp only [zM,List.length_map] at F; exact F)
 have fH:=drop_at bL
 refine jT (dT dK) (sk (ze (bo (sr (fw (.pointer (some ⟨ab j,ao j+r *4,none⟩)) (zn (qF) rfl rfl ((W.ro aa).addr (i:=r) (by omega)) (by omega)) (fw (.agg (aM.cells d).toArray) (zi rfl (zD (cs:=(aM.cells d)) Tryz.isAgg84 Tryz.sizeOf84 ((W.ro aa).elem aM.len G (by decide)))) ?_))))))
 refine dC [.int .i64 0, .int .u64 0, .int .u64 0, .slice none 0 0] 84 W ?_
 intro lu lv iI
 refine df (aM.cells d) 0 iI Tryz.sizeOf84 ?_
 intro lw dL
 refine nt (zb (Mz rfl (La (aM.cells d) dL 0 Tryz.isAgg84 Tryz.sizeOf84 ?_)))
 have iJ:=dL.pk [1,4,0,2,3]
 obtain⟨bM,bP⟩:∃ q,jG (aQ.mk (Ll.mk u)) (eD.mk d.aC d.au d.bB (Ll.mk (List.map zm d.ah.ls)))=q:=⟨_,rfl⟩
 obtain⟨lC,fI,bQ,fJ,jS⟩:=zB iJ
 refine WL.do rfl (zK Tryz.call35 rfl rfl (nI _ _ b (aQ.mk (Ll.mk u)) N O (eD.mk d.aC d.au d.bB (Ll.mk (List.map zm d.ah.ls))) d.ah.A d.ah.ls.length d.ah.c d.ah.ls bM fI (rfl:List.map zm d.ah.ls=List.map zm d.ah.ls) (by first | rfl | omega | (simp only [List.length_append,List.length_cons,List.length_nil,List.length_take,List.length_drop,List.length_set,List.length_replicate,List.length_map] <;> omega)) (fun w9 h9=>x8 (bS (rfl:List.map zm d.ah.ls=List.map zm d.ah.ls)) ((bQ _ (C _ (List.mem_of_getElem? G)).1) w9 h9)) (show List.length (List.map zm d.ah.ls)≤d.ah.c∧List.length (List.map zm d.ah.ls)≤9223372036854775807 from by omega) (fun x9 h9=>⟨bQ _ ((C _ (List.mem_of_getElem? G)).2.2 x9 h9).1,((C _ (List.mem_of_getElem? G)).2.2 x9 h9).2⟩) (by first | omega | (dsimp only; omega) | (dsimp only [List.length_cons,List.length_nil]; omega)) (by exact ai) bP) ?_)
 rintro _ lD ⟨iK,iL,rfl,fK,bR⟩
 have dM:=fJ _ _ fK
 have jU:=dM.rowC (i:=1) rfl
 replace bR:bM.xb.ls.length≤u.length+8000:=bR
 refine zq (bN (zu (zb (fw (.int .i64 ((r+1:Nat):Int)) (zy (e:=IntKind.i64.wrap (((r:Nat):Int)+1)) yk (by rw [Cb _ (by omega)]; omega)) (Mz rfl (zq ?_))))))
 have iM:=dM.pk [0,3,4,1]
 exact zH (r+1,iK,iL,bM.xb.ls) ⟨rfl,rfl,rfl,rfl,trivial⟩ (aG.2 ⟨iM,by omega,by omega,et (bJ) (et (congrArg (fun q=>fD q u) fH) (ae bP))⟩) (by show a.aG.ls.length - (r+1) < a.aG.ls.length - r; omega)
 refine jF (dF dK) (Wp.exit (zk ?_))
 have fM:fD a.aG.ls K.xb.ls=u:=et (bJ) (et (congrArg (fun q=>fD q u) (eF (ls:=a.aG.ls) (i:=r) (by omega))) rfl)
 refine zk (zA (zC (res0 rfl) (zq (zC (res0 rfl) (ns (Mz rfl (Kz (.pointer (some ⟨b,0,none⟩)) (Kz (.pointer (some ⟨b,0,none⟩)) (Lz (.slice N u.length O) W 0 Tryz.isAgg37 (Az rfl (An rfl (rt (zO (sD rfl rfl rfl) ?_)))))))))))))
 have iO:=W.pk [3]
 have e:gp a=(u,0):=et (ae aI) (et (ip bV) (et (ae cB) (et (ae cO) (et (ae dh) (et (ae aU) (et (ae aX) (et (ae eG) (et (ae bv) (et (ae fq) (et (ae bG) (ae fM)))))))))))
 obtain⟨rfl,rfl⟩:=ig (e.symm.trans hr)
 exact⟨N,O,rfl,iO,(by first | omega | exact Cc _)⟩
 refine jT (dT bV) (sr (Mz rfl (Az rfl (An rfl (rt (tR (zO (sD rfl rfl rfl) ?_)))))))
 have iP:Own w D iW [row none 0 0 (List.flatMap eB ([])) 5 1,blk E [.int .i64 a.af, .int .u64 ((a.au:Nat):Int), .int .u64 ((a.aY:Nat):Int), .int .u64 ((a.aK:Nat):Int), .slice g a.ag.ls.length l, .slice h a.ai.ls.length m, .slice j a.aG.ls.length n] 35]:=fV.free (gX 5 1)
 have iQ:=iP.pk [0]
 have e:gp a=([],aK):=et (ae aI) (iN bV)
 obtain⟨rfl,rfl⟩:=ig (e.symm.trans hr)
 exact⟨none,0,rfl,iQ,(by first | omega | exact Cc _)⟩
end Go.Proofs.YtcnkpjheifkgnaaGreat
