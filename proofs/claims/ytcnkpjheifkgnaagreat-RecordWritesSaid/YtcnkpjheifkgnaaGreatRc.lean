/-
 record: states' bytes.
-/
import Derived.Test.YtcnkpjheifkgnaaGreatRb
namespace Go.Proofs.YtcnkpjheifkgnaaGreat
set_option maxRecDepth 100000
open Go.RowKit
set_option linter.unusedVariables false
set_option linter.unusedSectionVars false
set_option linter.unusedSimpArgs false
def fK (e:bQ):List aL→List UInt8→(List UInt8)
  | [],a=>a
  | c::d,a=>bnd (jv (aW.mk (Ll.mk a)) c) fun b=>fK e d b.xb.ls
def fM (e:bQ):List eZ→List UInt8→(List UInt8)
  | [],a=>a
  | b::d,a=>bnd (kW (aW.mk (Ll.mk a)) (eZ.mk b.av (Ll.mk b.ay.ls))) fun c=>fM e d c.xb.ls
def fP (e:bQ):List Nat→List UInt8→(List UInt8)
  | [],a=>a
  | c::d,a=>bnd (aJ (aW.mk (Ll.mk a)) c) fun b=>fP e d b.xb.ls
def ik (a:bQ):(List UInt8) × Int:=
 bnd (dz a) fun b=>if b=0 then bnd (aJ (aW.mk (Ll.mk ([83]))) (Int.toNat (IntKind.u64.wrap a.cO))) fun q=>bnd (aJ q a.aj) fun r=>bnd (aJ r a.aR) fun s=>bnd (aJ s a.aH) fun c=>bnd (aJ c a.aZ) fun d=>bnd (aJ d a.ai.ls.length) fun e=>bnd (fK a a.ai.ls e.xb.ls) fun sLrbtbbbbbbL=>bnd (aJ (aW.mk (Ll.mk sLrbtbbbbbbL)) a.az.ls.length) fun f=>bnd (fM a a.az.ls f.xb.ls) fun sLrbtbbbbbbLabL=>bnd (aJ (aW.mk (Ll.mk sLrbtbbbbbbLabL)) a.ah.ls.length) fun g=>bnd (fP a a.ah.ls g.xb.ls) fun sLrbtbbbbbbLabLabL=>bnd (aJ (aW.mk (Ll.mk sLrbtbbbbbbLabLabL)) a.iq) fun h=>bnd (aJ h a.bS) fun i=>bnd (bO i a.bf.aK) fun j=>bnd (bO j a.bf.aO) fun k=>bnd (aJ k a.aS.aZ) fun l=>bnd (aJ l a.aS.bB) fun m=>bnd (aJ m a.aS.cz) fun n=>bnd (bO n a.aS.aP.aK) fun o=>bnd (bO o a.aS.aP.aO) fun p=>(p.xb.ls,0) else([],b)
set_option maxHeartbeats 4000000 in
theorem mV (w:World) (D:Nat→Prop) (a:bQ) (d:Option Addr) (ek h:Nat) (f:Option Addr) (eu j:Nat) (Z:List aM) (g:Option Addr) (eD l:Nat) (r0:List UInt8) (r1:Int) (H:Own w D w []) (fJ:ek=a.ai.ls.length) (U:Ro w D fun w'=>bG w' 2 d a.ai.ls.length (List.flatMap aL.cells a.ai.ls)) (lS:a.ai.ls.length≤h∧a.ai.ls.length≤9223372036854775807) (aG:List.map CE Z=a.az.ls) (fO:eu=a.az.ls.length) (V:Ro w D fun w'=>bG w' 2 f a.az.ls.length (List.flatMap aM.cells Z)) (lT:a.az.ls.length≤j∧a.az.ls.length≤9223372036854775807) (W:∀ x ∈ Z,Ro w D (fun w'=>bG w' 6 x.ay.A x.ay.ls.length (List.flatMap bq.cells x.ay.ls))∧(x.ay.ls.length≤x.ay.c∧x.ay.ls.length≤9223372036854775807)) (fQ:eD=a.ah.ls.length) (X:Ro w D fun w'=>bG w' 1 g a.ah.ls.length (List.flatMap (eN .u64) a.ah.ls)) (lU:a.ah.ls.length≤l∧a.ah.ls.length≤9223372036854775807) (qN:a.ai.ls.length≤140737488355328∧a.az.ls.length≤140737488355328∧a.ah.ls.length≤140737488355328) (lV:rZ a) (hr:ik a=(r0,r1)):
    Calls Tryz.prog 7 #[.agg (bZ a.cO a.aj a.aR a.aH a.aZ d ek h f eu j g eD l a.iq a.bS a.bf.aK a.bf.aO a.aS.aZ a.aS.bB a.aS.cz a.aS.aP.aK a.aS.aP.aO).toArray] w (dE fun v w'=> ∃ (B0:Option Addr) (b0:Nat),v= .tuple #[.slice B0 r0.length b0, .int .i64 r1]∧Own w D w' [row B0 r0.length b0 (List.flatMap eB r0) 5 1]∧(r0.length≤100000)):=by
 subst fJ fO fQ
 have hdl0x1:=dm aG
 refine Ce (args:= [.agg (aX a d h f j g l).toArray]) Tryz.func7 rfl rfl rfl ?_
 show Wp _ _ _ [(0, .agg (aX a d h f j g l).toArray)] _ _
 refine sr ?_
 refine dB (aX a d h f j g l) 31 H ?_
 intro m qO jI
 refine Az rfl (An rfl (BS (sr (La (aX a d h f j g l) jI 0 Tryz.isAgg31 Tryz.sizeOf31 ?_))))
 obtain⟨bA,aQ⟩:∃ q,dz a=q:=⟨_,rfl⟩
 obtain⟨qP,jJ,aR,jK,oz⟩:=Ck jI
 refine cl Tryz.call11 (lY _ _ a d a.ai.ls.length h f a.az.ls.length j Z g a.ah.ls.length l bA jJ rfl (aR _ U) (show a.ai.ls.length≤h∧a.ai.ls.length≤9223372036854775807 from by omega) aG rfl (aR _ V) (show a.az.ls.length≤j∧a.az.ls.length≤9223372036854775807 from by omega) (fun x9 h9=>⟨aR _ (W x9 h9).1,(W x9 h9).2⟩) rfl (aR _ X) (show a.ah.ls.length≤l∧a.ah.ls.length≤9223372036854775807 from by omega) (by first | omega | (dsimp only; omega) | (simp only [List.length_nil]; omega) | decide) aQ) ?_
 rintro _ lW ⟨rfl,jL⟩
 have jM:=jK _ _ jL
 refine Ar rfl (Mz rfl (fw (.bool (decide (¬ (bA=0)))) (Cy (e:= !(decide (bA=0))) yk decide_not.symm) (nt ?_)))
 by_cases dY:bA=0
 refine jF (dF (EN dY)) (sk (sr ?_))
 have hsm35:=uo (by rw [aQ]; omega) lV
 have oF:a.ai.ls.length≤6:=hsm35.1
 have oG:a.az.ls.length≤6:=hsm35.2.2.1
 have oH:a.ah.ls.length≤64:=hsm35.2.2.2.2.1
 have oI:a.bf.aK.length≤12∧a.bf.aO.length≤12∧a.aS.aP.aK.length≤12∧a.aS.aP.aO.length≤12:=hsm35.2.2.2.2.2.2.1
 have oJ:a.aj≤18446744073709551615:=hsm35.2.2.2.2.2.2.2.1
 have oK:a.aR≤18446744073709551615:=hsm35.2.2.2.2.2.2.2.2.1
 have oL:a.aH≤18446744073709551615:=hsm35.2.2.2.2.2.2.2.2.2.1
 have oM:a.aZ≤18446744073709551615:=hsm35.2.2.2.2.2.2.2.2.2.2.1
 have oN:a.iq≤18446744073709551615:=hsm35.2.2.2.2.2.2.2.2.2.2.2.1
 have oO:a.bS≤18446744073709551615:=hsm35.2.2.2.2.2.2.2.2.2.2.2.2.1
 have oP:a.aS.aZ≤18446744073709551615:=hsm35.2.2.2.2.2.2.2.2.2.2.2.2.2.1
 have oQ:a.aS.bB≤18446744073709551615:=hsm35.2.2.2.2.2.2.2.2.2.2.2.2.2.2.1
 have oU:a.aS.cz≤18446744073709551615:=hsm35.2.2.2.2.2.2.2.2.2.2.2.2.2.2.2
 refine ji [.int .u8 83] 5 1 1 jM ?_
 intro dZ qQ fT
 replace fT:=CG (y:=row dZ 1 1 (List.flatMap eB ([83])) 5 1) rfl fT
 refine Kz (.agg #[.slice dZ 1 1]) ?_
 refine dB [.slice dZ 1 1] 57 fT ?_
 intro b qR jN
 refine Ar rfl (Mz rfl (Kz (.pointer (some ⟨m,0,none⟩)) (Lz (.int .i64 a.cO) jN 2 Tryz.isAgg3 ?_)))
 refine WL.do rfl (Cq Tryz.call19 rfl ?_ (fun _ _ k=>k))
 refine Ce (args:= [.pointer (some ⟨b,0,none⟩), .int .i64 a.cO]) Tryz.func19 rfl rfl rfl ?_
 show Wp _ _ _ [(0, .pointer (some ⟨b,0,none⟩)),(1, .int .i64 a.cO)] _ _
 refine BR (Mz rfl (Mz rfl ?_))
 have oW:Int.toNat (IntKind.u64.wrap a.cO)≤18446744073709551615:=gW _
 refine fw (.int .u64 ((Int.toNat (IntKind.u64.wrap a.cO):Nat):Int)) (Ci (e:=IntKind.u64.wrap a.cO) yk (di _)) ?_
 obtain⟨bB,eF⟩:∃ q,aJ (aW.mk (Ll.mk ([83]))) (Int.toNat (IntKind.u64.wrap a.cO))=q:=⟨_,rfl⟩
 obtain⟨qU,jO,oZ,jP,o5⟩:=Ct jN
 refine cl Tryz.call21 (bg _ _ b (aW.mk (Ll.mk ([83]))) dZ 1 (Int.toNat (IntKind.u64.wrap a.cO)) bB jO (by first | omega | (dsimp only; omega) | (dsimp only [List.length_cons,List.length_nil]; omega)) eF) ?_
 rintro _ qV ⟨lX,lZ,rfl,jQ,eG⟩
 have bz:=jP _ _ jQ
 have o6:=bz.rowC (i:=1) rfl
 replace eG:bB.xb.ls.length≤1+10:=eG
 refine Cf (Cw (res0 rfl) (ns (Mz rfl (Kz (.func (.func 21) #[.pointer (some ⟨b,0,none⟩)] #[]) (Kz (.pointer (some ⟨m,1,none⟩)) (Lz (.int .u64 ((a.aj:Nat):Int)) bz 2 Tryz.isAgg22 (Kz (.pointer (some ⟨m,2,none⟩)) (Lz (.int .u64 ((a.aR:Nat):Int)) bz 2 Tryz.isAgg22 (Kz (.pointer (some ⟨m,3,none⟩)) (Lz (.int .u64 ((a.aH:Nat):Int)) bz 2 Tryz.isAgg22 (Kz (.pointer (some ⟨m,4,none⟩)) (Lz (.int .u64 ((a.aZ:Nat):Int)) bz 2 Tryz.isAgg22 ?_))))))))))))
 refine ji [.int .u64 ((a.aj:Nat):Int), .int .u64 ((a.aR:Nat):Int), .int .u64 ((a.aH:Nat):Int), .int .u64 ((a.aZ:Nat):Int)] 22 1 4 bz ?_
 intro z qW bC
 replace bC:=CG (y:=row z 4 4 (List.flatMap (eN .u64) ([a.aj,a.aR,a.aH,a.aZ])) 22 1) rfl bC
 refine WL.do rfl (Cq Tryz.call20 rfl ?_ (fun _ _ k=>k))
 refine Ce (args:= [.func (.func 21) #[.pointer (some ⟨b,0,none⟩)] #[], .slice z 4 4]) Tryz.func20 rfl rfl rfl ?_
 show Wp _ _ _ [(0, .func (.func 21) #[.pointer (some ⟨b,0,none⟩)] #[]),(1, .slice z 4 4)] _ _
 refine sr (Mz rfl (Kz (.int .i64 4) (Mn rfl (bo (Da 200 (sr (Kz (.bool true) (nt (BS (jt (sk (BS (bo (sr ?_))))))))))))))
 have jR:([a.aj,a.aR,a.aH,a.aZ]:List Nat)[0]? =some a.aj:=rfl
 refine fw (.pointer (some ⟨ab z,ao z+0 *1,none⟩)) (Ch (jY) rfl rfl ((bC.rds (i:=0) rfl).addr (i:=0) (by omega)) (by omega)) (fw (.int .u64 ((a.aj:Nat):Int)) (Cc rfl (bi.one Tryz.isAgg22 (((bC.rds (i:=0) rfl).elem fu jR (by decide)).at_ (k:=0) rfl))) (An rfl (BR (Mz rfl (Mz rfl ?_)))))
 have l5:=bC.pk [1,2,0,3]
 obtain⟨bD,eH⟩:∃ q,aJ bB a.aj=q:=⟨_,rfl⟩
 obtain⟨qX,jS,o7,jU,o8⟩:=Ct l5
 refine WL.do rfl (CB Tryz.call21 rfl rfl (bg _ _ b bB lX lZ a.aj bD jS (by first | omega | (dsimp only; omega) | (dsimp only [List.length_cons,List.length_nil]; omega)) eH) ?_)
 rintro _ qY ⟨l6,l7,rfl,jV,eO⟩
 have d9:=jU _ _ jV
 have o9:=d9.rowC (i:=1) rfl
 replace eO:bD.xb.ls.length≤bB.xb.ls.length+10:=eO
 refine Cf (bN (Ca (BR (Kz (.int .i64 1) (Mz rfl (Cf (CS [(8, .int .i64 1),(7, .int .i64 4),(6, .slice z 4 4),(0, .func (.func 21) #[.pointer (some ⟨b,0,none⟩)] #[])] ⟨rfl,rfl,rfl,rfl,trivial⟩ (sr (Kz (.bool true) (nt (BS (jt (sk (BS (bo (sr ?_))))))))))))))))
 have jW:([a.aj,a.aR,a.aH,a.aZ]:List Nat)[1]? =some a.aR:=rfl
 refine fw (.pointer (some ⟨ab z,ao z+1 *1,none⟩)) (Ch (jY) rfl rfl ((d9.rds (i:=2) rfl).addr (i:=1) (by omega)) (by omega)) (fw (.int .u64 ((a.aR:Nat):Int)) (Cc rfl (bi.one Tryz.isAgg22 (((d9.rds (i:=2) rfl).elem fu jW (by decide)).at_ (k:=0) rfl))) (An rfl (BR (Mz rfl (Mz rfl ?_)))))
 obtain⟨bE,eP⟩:∃ q,aJ bD a.aR=q:=⟨_,rfl⟩
 obtain⟨qZ,jX,pg,jZ,pu⟩:=Ct d9
 refine WL.do rfl (CB Tryz.call21 rfl rfl (bg _ _ b bD l6 l7 a.aR bE jX (by first | omega | (dsimp only; omega) | (dsimp only [List.length_cons,List.length_nil]; omega)) eP) ?_)
 rintro _ q8 ⟨j3,j4,rfl,j5,bF⟩
 have ed:=jZ _ _ j5
 have l8:=ed.rowC (i:=1) rfl
 replace bF:bE.xb.ls.length≤bD.xb.ls.length+10:=bF
 refine Cf (bN (Ca (BR (Kz (.int .i64 2) (Mz rfl (Cf (CS [(8, .int .i64 2),(7, .int .i64 4),(6, .slice z 4 4),(0, .func (.func 21) #[.pointer (some ⟨b,0,none⟩)] #[])] ⟨rfl,rfl,rfl,rfl,trivial⟩ (sr (Kz (.bool true) (nt (BS (jt (sk (BS (bo (sr ?_))))))))))))))))
 have fU:([a.aj,a.aR,a.aH,a.aZ]:List Nat)[2]? =some a.aH:=rfl
 refine fw (.pointer (some ⟨ab z,ao z+2 *1,none⟩)) (Ch (jY) rfl rfl ((ed.rds (i:=2) rfl).addr (i:=2) (by omega)) (by omega)) (fw (.int .u64 ((a.aH:Nat):Int)) (Cc rfl (bi.one Tryz.isAgg22 (((ed.rds (i:=2) rfl).elem fu fU (by decide)).at_ (k:=0) rfl))) (An rfl (BR (Mz rfl (Mz rfl ?_)))))
 obtain⟨aa,bH⟩:∃ q,aJ bE a.aH=q:=⟨_,rfl⟩
 obtain⟨pz,fV,l9,fZ,ma⟩:=Ct ed
 refine WL.do rfl (CB Tryz.call21 rfl rfl (bg _ _ b bE j3 j4 a.aH aa fV (by first | omega | (dsimp only; omega) | (dsimp only [List.length_cons,List.length_nil]; omega)) bH) ?_)
 rintro _ pE ⟨j6,kg,rfl,gm,bI⟩
 have aS:=fZ _ _ gm
 have mf:=aS.rowC (i:=1) rfl
 replace bI:aa.xb.ls.length≤bE.xb.ls.length+10:=bI
 refine Cf (bN (Ca (BR (Kz (.int .i64 3) (Mz rfl (Cf (CS [(8, .int .i64 3),(7, .int .i64 4),(6, .slice z 4 4),(0, .func (.func 21) #[.pointer (some ⟨b,0,none⟩)] #[])] ⟨rfl,rfl,rfl,rfl,trivial⟩ (sr (Kz (.bool true) (nt (BS (jt (sk (BS (bo (sr ?_))))))))))))))))
 have gp:([a.aj,a.aR,a.aH,a.aZ]:List Nat)[3]? =some a.aZ:=rfl
 refine fw (.pointer (some ⟨ab z,ao z+3 *1,none⟩)) (Ch (jY) rfl rfl ((aS.rds (i:=2) rfl).addr (i:=3) (by omega)) (by omega)) (fw (.int .u64 ((a.aZ:Nat):Int)) (Cc rfl (bi.one Tryz.isAgg22 (((aS.rds (i:=2) rfl).elem fu gp (by decide)).at_ (k:=0) rfl))) (An rfl (BR (Mz rfl (Mz rfl ?_)))))
 obtain⟨ae,bJ⟩:∃ q,aJ aa a.aZ=q:=⟨_,rfl⟩
 obtain⟨pF,gq,mg,gu,mh⟩:=Ct aS
 refine WL.do rfl (CB Tryz.call21 rfl rfl (bg _ _ b aa j6 kg a.aZ ae gq (by first | omega | (dsimp only; omega) | (dsimp only [List.length_cons,List.length_nil]; omega)) bJ) ?_)
 rintro _ pG ⟨ko,kr,rfl,gy,bK⟩
 have bL:=gu _ _ gy
 have mi:=bL.rowC (i:=1) rfl
 replace bK:ae.xb.ls.length≤aa.xb.ls.length+10:=bK
 refine Cf (bN (Ca (BR (Kz (.int .i64 4) (Mz rfl (Cf (CS [(8, .int .i64 4),(7, .int .i64 4),(6, .slice z 4 4),(0, .func (.func 21) #[.pointer (some ⟨b,0,none⟩)] #[])] ⟨rfl,rfl,rfl,rfl,trivial⟩ (sr (Kz (.bool false) (nt (BS (jf (Wp.exit (Cb (Cb (Cn (Cw (res0 rfl) (ns (Mz rfl (Kz (.pointer (some ⟨m,5,none⟩)) (Lz (.slice d a.ai.ls.length h) bL 3 Tryz.isAgg23 (Mz rfl (Kz (.func (.func 23) #[.pointer (some ⟨b,0,none⟩)] #[]) ?_)))))))))))))))))))))))
 refine WL.do rfl (Cq Tryz.call22 rfl ?_ (fun _ _ k=>k))
 refine Ce (args:= [.pointer (some ⟨b,0,none⟩), .slice d a.ai.ls.length h, .func (.func 23) #[.pointer (some ⟨b,0,none⟩)] #[]]) Tryz.func22 rfl rfl rfl ?_
 show Wp _ _ _ [(0, .pointer (some ⟨b,0,none⟩)),(1, .slice d a.ai.ls.length h),(2, .func (.func 23) #[.pointer (some ⟨b,0,none⟩)] #[])] _ _
 refine sr (Mz rfl (Mz rfl (Kz (.int .i64 ((a.ai.ls.length:Nat):Int)) ?_)))
 refine WL.do rfl (Cq Tryz.call19 rfl ?_ (fun _ _ k=>k))
 refine Ce (args:= [.pointer (some ⟨b,0,none⟩), .int .i64 ((a.ai.ls.length:Nat):Int)]) Tryz.func19 rfl rfl rfl ?_
 show Wp _ _ _ [(0, .pointer (some ⟨b,0,none⟩)),(1, .int .i64 ((a.ai.ls.length:Nat):Int))] _ _
 refine BR (Mz rfl (Mz rfl (fw (.int .u64 ((a.ai.ls.length:Nat):Int)) (Ci (e:=IntKind.u64.wrap ((a.ai.ls.length:Nat):Int)) yk (IntWalk.u64_in _ (by omega))) ?_)))
 obtain⟨G,bP⟩:∃ q,aJ ae a.ai.ls.length=q:=⟨_,rfl⟩
 obtain⟨pI,gz,mq,gB,mr⟩:=Ct bL
 refine cl Tryz.call21 (bg _ _ b ae ko kr a.ai.ls.length G gz (by first | omega | (dsimp only; omega) | (dsimp only [List.length_cons,List.length_nil]; omega)) bP) ?_
 rintro _ pJ ⟨ku,kv,rfl,gD,bR⟩
 have eQ:=gB _ _ gD
 have mD:=eQ.rowC (i:=1) rfl
 replace bR:G.xb.ls.length≤ae.xb.ls.length+10:=bR
 refine Cf (Cw (res0 rfl) (nt (BR (Mz rfl (Mz rfl ?_)))))
 refine WL.do rfl (Cq Tryz.call69 rfl ?_ (fun _ _ k=>k))
 refine Ce (args:= [.func (.func 23) #[.pointer (some ⟨b,0,none⟩)] #[], .slice d a.ai.ls.length h]) Tryz.func69 rfl rfl rfl ?_
 show Wp _ _ _ [(0, .func (.func 23) #[.pointer (some ⟨b,0,none⟩)] #[]),(1, .slice d a.ai.ls.length h)] _ _
 refine sr (Mz rfl (Kz (.int .i64 ((a.ai.ls.length:Nat):Int)) (Mn rfl (bo ?_))))
 have kw:=eQ.pk [0,2,3,1]
 obtain⟨eT,gF⟩:∃ q:(Nat × (Option Addr) × Nat × (List UInt8))→World→Prop,q=fun(i:Nat × (Option Addr) × Nat × (List UInt8)) w'=>Own w D w' [blk b [.slice i.2.1 i.2.2.2.length i.2.2.1] 57,row z 4 4 (List.flatMap (eN .u64) ([a.aj,a.aR,a.aH,a.aZ])) 22 1,blk m (aX a d h f j g l) 31,row i.2.1 i.2.2.2.length i.2.2.1 (List.flatMap eB i.2.2.2) 5 1]∧(i.1≤a.ai.ls.length∧((i.2.2.2.length:Nat):Int)≤((G.xb.ls.length:Nat):Int)+40 *((i.1:Nat):Int)∧fK a a.ai.ls G.xb.ls=fK a (List.drop i.1 a.ai.ls) i.2.2.2):=⟨_,rfl⟩
 have aH:∀ {o:Nat} {M:Option Addr} {N:Nat} {s:List UInt8} {w':World},eT (o,M,N,s) w'↔Own w D w' [blk b [.slice M s.length N] 57,row z 4 4 (List.flatMap (eN .u64) ([a.aj,a.aR,a.aH,a.aZ])) 22 1,blk m (aX a d h f j g l) 31,row M s.length N (List.flatMap eB s) 5 1]∧o≤a.ai.ls.length∧((s.length:Nat):Int)≤((G.xb.ls.length:Nat):Int)+40 *((o:Nat):Int)∧fK a a.ai.ls G.xb.ls=fK a (List.drop o a.ai.ls) s:=by intros; subst gF; exact Iff.rfl
 refine Wp.loop (fun i:Nat × (Option Addr) × Nat × (List UInt8)=> [(8, .int .i64 ((i.1:Nat):Int)),(7, .int .i64 ((a.ai.ls.length:Nat):Int)),(6, .slice d a.ai.ls.length h),(0, .func (.func 23) #[.pointer (some ⟨b,0,none⟩)] #[])]) eT (fun i=>a.ai.ls.length - i.1) (0,ku,kv,G.xb.ls) ⟨rfl,rfl,rfl,rfl,trivial⟩ (aH.2 ⟨kw,by omega,by omega,rfl⟩) ?_
 rintro ⟨o,M,N,s⟩ pK gG
 show Wp _ _ _ [(8, .int .i64 ((o:Nat):Int)),(7, .int .i64 ((a.ai.ls.length:Nat):Int)),(6, .slice d a.ai.ls.length h),(0, .func (.func 23) #[.pointer (some ⟨b,0,none⟩)] #[])] _ _
 obtain⟨O,mE,mF,bS⟩:=aH.1 gG
 refine sr (Kz (.bool (decide (((o:Nat):Int) < ((a.ai.ls.length:Nat):Int)))) (nt (BS ?_)))
 by_cases eU:((o:Nat):Int) < ((a.ai.ls.length:Nat):Int)
 obtain⟨K,aI⟩:=bU (ls:=a.ai.ls) (i:=o) aL.len (by decide) (O.ro U) (by first | omega | (simp; done) | (simp; omega))
 have gH:K.aK.length≤12:=hsm35.2.1 _ (List.mem_of_getElem? aI)
 have gI:=drop_at aI
 refine jT (dT eU) (sk (BS (bo (sr (fw (.pointer (some ⟨ab d,ao d+o *2,none⟩)) (Ch (ng) rfl rfl ((O.ro U).addr (i:=o) (by omega)) (by omega)) (fw (.agg (aL.cells K).toArray) (Cc rfl (Cu (cs:=(aL.cells K)) Tryz.isAgg54 Tryz.sizeOf54 ((O.ro U).elem aL.len aI (by decide)))) ?_))))))
 refine dB [.string ⟨List.toArray ([])⟩, .int .i64 0] 54 O ?_
 intro pM pO ky
 refine dw (aL.cells K) 0 ky Tryz.sizeOf54 ?_
 intro pR eX
 refine nt (BR (Mz rfl (La (aL.cells K) eX 0 Tryz.isAgg54 Tryz.sizeOf54 ?_)))
 have kz:=eX.pk [1,4,0,2,3]
 obtain⟨bT,bV⟩:∃ q,jv (aW.mk (Ll.mk s)) K=q:=⟨_,rfl⟩
 obtain⟨pU,gJ,mH,gK,mI⟩:=Ct kz
 refine WL.do rfl (CB Tryz.call23 rfl rfl (mG _ _ b (aW.mk (Ll.mk s)) M N K bT gJ (by first | omega | (dsimp only; omega) | (dsimp only [List.length_cons,List.length_nil]; omega)) (by exact gH) bV) ?_)
 rintro _ pV ⟨kC,kD,rfl,gL,bW⟩
 have fe:=gK _ _ gL
 have mJ:=fe.rowC (i:=1) rfl
 replace bW:bT.xb.ls.length≤s.length+40:=bW
 refine Cf (bN (Ca (BR (fw (.int .i64 ((o+1:Nat):Int)) (Ci (e:=IntKind.i64.wrap (((o:Nat):Int)+1)) yk (by rw [EL _ (by omega)]; omega)) (Mz rfl (Cf ?_))))))
 have kE:=fe.pk [0,3,4,1]
 exact Cm (o+1,kC,kD,bT.xb.ls) ⟨rfl,rfl,rfl,rfl,trivial⟩ (aH.2 ⟨kE,by omega,by omega,et (bS) (et (congrArg (fun q=>fK a q s) gI) (ag bV))⟩) (by show a.ai.ls.length - (o+1) < a.ai.ls.length - o; omega)
 refine jF (dF eU) (Wp.exit (Cb ?_))
 have gM:fK a a.ai.ls G.xb.ls=s:=et (bS) (et (congrArg (fun q=>fK a q s) (bM (ls:=a.ai.ls) (i:=o) (by omega))) rfl)
 refine Cb (Cn (Cw (res0 rfl) (Cf (Cw (res0 rfl) (ns (Mz rfl (Kz (.pointer (some ⟨m,6,none⟩)) (Lz (.slice f a.az.ls.length j) O 2 Tryz.isAgg24 (Mz rfl (Kz (.func (.func 25) #[.pointer (some ⟨b,0,none⟩)] #[]) ?_))))))))))
 refine WL.do rfl (Cq Tryz.call24 rfl ?_ (fun _ _ k=>k))
 refine Ce (args:= [.pointer (some ⟨b,0,none⟩), .slice f a.az.ls.length j, .func (.func 25) #[.pointer (some ⟨b,0,none⟩)] #[]]) Tryz.func24 rfl rfl rfl ?_
 show Wp _ _ _ [(0, .pointer (some ⟨b,0,none⟩)),(1, .slice f a.az.ls.length j),(2, .func (.func 25) #[.pointer (some ⟨b,0,none⟩)] #[])] _ _
 refine sr (Mz rfl (Mz rfl (Kz (.int .i64 ((a.az.ls.length:Nat):Int)) ?_)))
 refine WL.do rfl (Cq Tryz.call19 rfl ?_ (fun _ _ k=>k))
 refine Ce (args:= [.pointer (some ⟨b,0,none⟩), .int .i64 ((a.az.ls.length:Nat):Int)]) Tryz.func19 rfl rfl rfl ?_
 show Wp _ _ _ [(0, .pointer (some ⟨b,0,none⟩)),(1, .int .i64 ((a.az.ls.length:Nat):Int))] _ _
 refine BR (Mz rfl (Mz rfl (fw (.int .u64 ((a.az.ls.length:Nat):Int)) (Ci (e:=IntKind.u64.wrap ((a.az.ls.length:Nat):Int)) yk (IntWalk.u64_in _ (by omega))) ?_)))
 have kF:=O.pk [0,3,1,2]
 obtain⟨I,bX⟩:∃ q,aJ (aW.mk (Ll.mk s)) a.az.ls.length=q:=⟨_,rfl⟩
 obtain⟨pW,gN,mK,gP,mM⟩:=Ct kF
 refine cl Tryz.call21 (bg _ _ b (aW.mk (Ll.mk s)) M N a.az.ls.length I gN (by first | omega | (dsimp only; omega) | (dsimp only [List.length_cons,List.length_nil]; omega)) bX) ?_
 rintro _ pX ⟨kG,kH,rfl,gQ,bY⟩
 have fo:=gP _ _ gQ
 have mO:=fo.rowC (i:=1) rfl
 replace bY:I.xb.ls.length≤s.length+10:=bY
 refine Cf (Cw (res0 rfl) (nt (BR (Mz rfl (Mz rfl ?_)))))
 refine WL.do rfl (Cq Tryz.call70 rfl ?_ (fun _ _ k=>k))
 refine Ce (args:= [.func (.func 25) #[.pointer (some ⟨b,0,none⟩)] #[], .slice f a.az.ls.length j]) Tryz.func70 rfl rfl rfl ?_
 show Wp _ _ _ [(0, .func (.func 25) #[.pointer (some ⟨b,0,none⟩)] #[]),(1, .slice f a.az.ls.length j)] _ _
 refine sr (Mz rfl (Kz (.int .i64 ((a.az.ls.length:Nat):Int)) (Mn rfl (bo ?_))))
 have kI:=fo.pk [0,2,3,1]
 obtain⟨fq,gT⟩:∃ q:(Nat × (Option Addr) × Nat × (List UInt8))→World→Prop,q=fun(i:Nat × (Option Addr) × Nat × (List UInt8)) w'=>Own w D w' [blk b [.slice i.2.1 i.2.2.2.length i.2.2.1] 57,row z 4 4 (List.flatMap (eN .u64) ([a.aj,a.aR,a.aH,a.aZ])) 22 1,blk m (aX a d h f j g l) 31,row i.2.1 i.2.2.2.length i.2.2.1 (List.flatMap eB i.2.2.2) 5 1]∧(i.1≤a.az.ls.length∧((i.2.2.2.length:Nat):Int)≤((I.xb.ls.length:Nat):Int)+3300 *((i.1:Nat):Int)∧fM a a.az.ls I.xb.ls=fM a (List.drop i.1 a.az.ls) i.2.2.2):=⟨_,rfl⟩
 have aK:∀ {p:Nat} {P:Option Addr} {Q:Nat} {t:List UInt8} {w':World},fq (p,P,Q,t) w'↔Own w D w' [blk b [.slice P t.length Q] 57,row z 4 4 (List.flatMap (eN .u64) ([a.aj,a.aR,a.aH,a.aZ])) 22 1,blk m (aX a d h f j g l) 31,row P t.length Q (List.flatMap eB t) 5 1]∧p≤a.az.ls.length∧((t.length:Nat):Int)≤((I.xb.ls.length:Nat):Int)+3300 *((p:Nat):Int)∧fM a a.az.ls I.xb.ls=fM a (List.drop p a.az.ls) t:=by intros; subst gT; exact Iff.rfl
 refine Wp.loop (fun i:Nat × (Option Addr) × Nat × (List UInt8)=> [(8, .int .i64 ((i.1:Nat):Int)),(7, .int .i64 ((a.az.ls.length:Nat):Int)),(6, .slice f a.az.ls.length j),(0, .func (.func 25) #[.pointer (some ⟨b,0,none⟩)] #[])]) fq (fun i=>a.az.ls.length - i.1) (0,kG,kH,I.xb.ls) ⟨rfl,rfl,rfl,rfl,trivial⟩ (aK.2 ⟨kI,by omega,by omega,rfl⟩) ?_
 rintro ⟨p,P,Q,t⟩ pY gU
 show Wp _ _ _ [(8, .int .i64 ((p:Nat):Int)),(7, .int .i64 ((a.az.ls.length:Nat):Int)),(6, .slice f a.az.ls.length j),(0, .func (.func 25) #[.pointer (some ⟨b,0,none⟩)] #[])] _ _
 obtain⟨R,mP,mQ,cu⟩:=aK.1 gU
 refine sr (Kz (.bool (decide (((p:Nat):Int) < ((a.az.ls.length:Nat):Int)))) (nt (BS ?_)))
 by_cases fA:((p:Nat):Int) < ((a.az.ls.length:Nat):Int)
 obtain⟨n,Y⟩:=bU (ls:=Z) (i:=p) aM.len (by decide) (R.ro V) (by first | omega | (simp; done) | (simp; omega))
 have cz:=jb aG Y
 have mR:=(W _ (List.mem_of_getElem? Y)).2
 have aN:(CE n).av≤18446744073709551615∧List.length (CE n).ay.ls≤24∧∀ q ∈ (CE n).ay.ls,q.aV.length≤12∧q.aC.length≤16∧q.aK.length≤12∧q.aO.length≤12:=hsm35.2.2.2.1 _ (List.mem_of_getElem? cz)
 have hz225p0:n.av≤18446744073709551615:=by have q9:=aN.1; first | exact q9 | (simp only [CE,List.length_map] at q9; exact q9)
 have hz225p1:n.ay.ls.length≤24:=by have q9:=aN.2.1; first | exact q9 | (simp only [CE,List.length_map] at q9; exact q9)
 have gX:=drop_at cz
 refine jT (dT fA) (sk (BS (bo (sr (fw (.pointer (some ⟨ab f,ao f+p *2,none⟩)) (Ch (pQ) rfl rfl ((R.ro V).addr (i:=p) (by omega)) (by omega)) (fw (.agg (aM.cells n).toArray) (Cc rfl (Cu (cs:=(aM.cells n)) Tryz.isAgg66 Tryz.sizeOf66 ((R.ro V).elem aM.len Y (by decide)))) ?_))))))
 refine dB [.int .u64 0, .slice none 0 0] 66 R ?_
 intro p8 p9 kJ
 refine dw (aM.cells n) 0 kJ Tryz.sizeOf66 ?_
 intro qa fB
 refine nt (BR (Mz rfl (La (aM.cells n) fB 0 Tryz.isAgg66 Tryz.sizeOf66 ?_)))
 have kK:=fB.pk [1,4,0,2,3]
 obtain⟨cB,cK⟩:∃ q,kW (aW.mk (Ll.mk t)) (eZ.mk n.av (Ll.mk n.ay.ls))=q:=⟨_,rfl⟩
 obtain⟨qb,gY,gZ,ib,mU⟩:=Ct kK
 refine WL.do rfl (CB Tryz.call25 rfl rfl (pq _ _ b (aW.mk (Ll.mk t)) P Q (eZ.mk n.av (Ll.mk n.ay.ls)) n.ay.A n.ay.ls.length n.ay.c cB gY rfl (gZ _ (W _ (List.mem_of_getElem? Y)).1) (show n.ay.ls.length≤n.ay.c∧n.ay.ls.length≤9223372036854775807 from by omega) (by first | omega | (dsimp only; omega) | (dsimp only [List.length_cons,List.length_nil]; omega)) (by exact aN) cK) ?_)
 rintro _ qc ⟨kL,kM,rfl,ic,cO⟩
 have fC:=ib _ _ ic
 have mW:=fC.rowC (i:=1) rfl
 replace cO:cB.xb.ls.length≤t.length+3300:=cO
 refine Cf (bN (Ca (BR (fw (.int .i64 ((p+1:Nat):Int)) (Ci (e:=IntKind.i64.wrap (((p:Nat):Int)+1)) yk (by rw [EL _ (by omega)]; omega)) (Mz rfl (Cf ?_))))))
 have kN:=fC.pk [0,3,4,1]
 exact Cm (p+1,kL,kM,cB.xb.ls) ⟨rfl,rfl,rfl,rfl,trivial⟩ (aK.2 ⟨kN,by omega,by omega,et (cu) (et (congrArg (fun q=>fM a q t) gX) (ag cK))⟩) (by show a.az.ls.length - (p+1) < a.az.ls.length - p; omega)
 refine jF (dF fA) (Wp.exit (Cb ?_))
 have ig:fM a a.az.ls I.xb.ls=t:=et (cu) (et (congrArg (fun q=>fM a q t) (bM (ls:=a.az.ls) (i:=p) (by omega))) rfl)
 refine Cb (Cn (Cw (res0 rfl) (Cf (Cw (res0 rfl) (ns (Mz rfl (Kz (.pointer (some ⟨m,7,none⟩)) (Lz (.slice g a.ah.ls.length l) R 2 Tryz.isAgg25 (Mz rfl (Kz (.func (.func 21) #[.pointer (some ⟨b,0,none⟩)] #[]) ?_))))))))))
 refine WL.do rfl (Cq Tryz.call26 rfl ?_ (fun _ _ k=>k))
 refine Ce (args:= [.pointer (some ⟨b,0,none⟩), .slice g a.ah.ls.length l, .func (.func 21) #[.pointer (some ⟨b,0,none⟩)] #[]]) Tryz.func26 rfl rfl rfl ?_
 show Wp _ _ _ [(0, .pointer (some ⟨b,0,none⟩)),(1, .slice g a.ah.ls.length l),(2, .func (.func 21) #[.pointer (some ⟨b,0,none⟩)] #[])] _ _
 refine sr (Mz rfl (Mz rfl (Kz (.int .i64 ((a.ah.ls.length:Nat):Int)) ?_)))
 refine WL.do rfl (Cq Tryz.call19 rfl ?_ (fun _ _ k=>k))
 refine Ce (args:= [.pointer (some ⟨b,0,none⟩), .int .i64 ((a.ah.ls.length:Nat):Int)]) Tryz.func19 rfl rfl rfl ?_
 show Wp _ _ _ [(0, .pointer (some ⟨b,0,none⟩)),(1, .int .i64 ((a.ah.ls.length:Nat):Int))] _ _
 refine BR (Mz rfl (Mz rfl (fw (.int .u64 ((a.ah.ls.length:Nat):Int)) (Ci (e:=IntKind.u64.wrap ((a.ah.ls.length:Nat):Int)) yk (IntWalk.u64_in _ (by omega))) ?_)))
 have kP:=R.pk [0,3,1,2]
 obtain⟨J,cZ⟩:∃ q,aJ (aW.mk (Ll.mk t)) a.ah.ls.length=q:=⟨_,rfl⟩
 obtain⟨qd,il,mX,iq,mY⟩:=Ct kP
 refine cl Tryz.call21 (bg _ _ b (aW.mk (Ll.mk t)) P Q a.ah.ls.length J il (by first | omega | (dsimp only; omega) | (dsimp only [List.length_cons,List.length_nil]; omega)) cZ) ?_
 rintro _ qf ⟨kQ,kR,rfl,iw,df⟩
 have fD:=iq _ _ iw
 have mZ:=fD.rowC (i:=1) rfl
 replace df:J.xb.ls.length≤t.length+10:=df
 refine Cf (Cw (res0 rfl) (nt (BR (Mz rfl (Mz rfl ?_)))))
 refine WL.do rfl (Cq Tryz.call20 rfl ?_ (fun _ _ k=>k))
 refine Ce (args:= [.func (.func 21) #[.pointer (some ⟨b,0,none⟩)] #[], .slice g a.ah.ls.length l]) Tryz.func20 rfl rfl rfl ?_
 show Wp _ _ _ [(0, .func (.func 21) #[.pointer (some ⟨b,0,none⟩)] #[]),(1, .slice g a.ah.ls.length l)] _ _
 refine sr (Mz rfl (Kz (.int .i64 ((a.ah.ls.length:Nat):Int)) (Mn rfl (bo ?_))))
 have kS:=fD.pk [0,2,3,1]
 obtain⟨fE,iy⟩:∃ q:(Nat × (Option Addr) × Nat × (List UInt8))→World→Prop,q=fun(i:Nat × (Option Addr) × Nat × (List UInt8)) w'=>Own w D w' [blk b [.slice i.2.1 i.2.2.2.length i.2.2.1] 57,row z 4 4 (List.flatMap (eN .u64) ([a.aj,a.aR,a.aH,a.aZ])) 22 1,blk m (aX a d h f j g l) 31,row i.2.1 i.2.2.2.length i.2.2.1 (List.flatMap eB i.2.2.2) 5 1]∧(i.1≤a.ah.ls.length∧((i.2.2.2.length:Nat):Int)≤((J.xb.ls.length:Nat):Int)+10 *((i.1:Nat):Int)∧fP a a.ah.ls J.xb.ls=fP a (List.drop i.1 a.ah.ls) i.2.2.2):=⟨_,rfl⟩
 have aO:∀ {r:Nat} {S:Option Addr} {T:Nat} {u:List UInt8} {w':World},fE (r,S,T,u) w'↔Own w D w' [blk b [.slice S u.length T] 57,row z 4 4 (List.flatMap (eN .u64) ([a.aj,a.aR,a.aH,a.aZ])) 22 1,blk m (aX a d h f j g l) 31,row S u.length T (List.flatMap eB u) 5 1]∧r≤a.ah.ls.length∧((u.length:Nat):Int)≤((J.xb.ls.length:Nat):Int)+10 *((r:Nat):Int)∧fP a a.ah.ls J.xb.ls=fP a (List.drop r a.ah.ls) u:=by intros; subst iy; exact Iff.rfl
 refine Wp.loop (fun i:Nat × (Option Addr) × Nat × (List UInt8)=> [(8, .int .i64 ((i.1:Nat):Int)),(7, .int .i64 ((a.ah.ls.length:Nat):Int)),(6, .slice g a.ah.ls.length l),(0, .func (.func 21) #[.pointer (some ⟨b,0,none⟩)] #[])]) fE (fun i=>a.ah.ls.length - i.1) (0,kQ,kR,J.xb.ls) ⟨rfl,rfl,rfl,rfl,trivial⟩ (aO.2 ⟨kS,by omega,by omega,rfl⟩) ?_
 rintro ⟨r,S,T,u⟩ qg iA
 show Wp _ _ _ [(8, .int .i64 ((r:Nat):Int)),(7, .int .i64 ((a.ah.ls.length:Nat):Int)),(6, .slice g a.ah.ls.length l),(0, .func (.func 21) #[.pointer (some ⟨b,0,none⟩)] #[])] _ _
 obtain⟨L,ni,nk,dh⟩:=aO.1 iA
 refine sr (Kz (.bool (decide (((r:Nat):Int) < ((a.ah.ls.length:Nat):Int)))) (nt (BS ?_)))
 by_cases fF:((r:Nat):Int) < ((a.ah.ls.length:Nat):Int)
 obtain⟨aT,aP⟩:=bU (ls:=a.ah.ls) (i:=r) fu (by decide) (L.ro X) (by first | omega | (simp; done) | (simp; omega))
 have nu:aT≤18446744073709551615:=hsm35.2.2.2.2.2.1 _ (List.mem_of_getElem? aP)
 have iB:=drop_at aP
 refine jT (dT fF) (sk (BS (bo (sr (fw (.pointer (some ⟨ab g,ao g+r *1,none⟩)) (Ch (jY) rfl rfl ((L.ro X).addr (i:=r) (by omega)) (by omega)) (fw (.int .u64 ((aT:Nat):Int)) (Cc rfl (bi.one Tryz.isAgg22 (((L.ro X).elem fu aP (by decide)).at_ (k:=0) rfl))) (An rfl (BR (Mz rfl (Mz rfl ?_))))))))))
 have kT:=L.pk [0,3,1,2]
 obtain⟨dn,dx⟩:∃ q,aJ (aW.mk (Ll.mk u)) aT=q:=⟨_,rfl⟩
 obtain⟨qh,iC,ny,iE,nz⟩:=Ct kT
 refine WL.do rfl (CB Tryz.call21 rfl rfl (bg _ _ b (aW.mk (Ll.mk u)) S T aT dn iC (by first | omega | (dsimp only; omega) | (dsimp only [List.length_cons,List.length_nil]; omega)) dx) ?_)
 rintro _ qi ⟨kU,kV,rfl,iF,dA⟩
 have fG:=iE _ _ iF
 have nA:=fG.rowC (i:=1) rfl
 replace dA:dn.xb.ls.length≤u.length+10:=dA
 refine Cf (bN (Ca (BR (fw (.int .i64 ((r+1:Nat):Int)) (Ci (e:=IntKind.i64.wrap (((r:Nat):Int)+1)) yk (by rw [EL _ (by omega)]; omega)) (Mz rfl (Cf ?_))))))
 have kX:=fG.pk [0,2,3,1]
 exact Cm (r+1,kU,kV,dn.xb.ls) ⟨rfl,rfl,rfl,rfl,trivial⟩ (aO.2 ⟨kX,by omega,by omega,et (dh) (et (congrArg (fun q=>fP a q u) iB) (ag dx))⟩) (by show a.ah.ls.length - (r+1) < a.ah.ls.length - r; omega)
 refine jF (dF fF) (Wp.exit (Cb ?_))
 have iG:fP a a.ah.ls J.xb.ls=u:=et (dh) (et (congrArg (fun q=>fP a q u) (bM (ls:=a.ah.ls) (i:=r) (by omega))) rfl)
 refine Cb (Cn (Cw (res0 rfl) (Cf (Cw (res0 rfl) (ns (Mz rfl (Kz (.func (.func 21) #[.pointer (some ⟨b,0,none⟩)] #[]) (Kz (.pointer (some ⟨m,8,none⟩)) (Lz (.int .u64 ((a.iq:Nat):Int)) L 2 Tryz.isAgg22 (Kz (.pointer (some ⟨m,9,none⟩)) (Lz (.int .u64 ((a.bS:Nat):Int)) L 2 Tryz.isAgg22 ?_)))))))))))
 refine ji [.int .u64 ((a.iq:Nat):Int), .int .u64 ((a.bS:Nat):Int)] 22 1 2 L ?_
 intro C qj af
 replace af:=CG (y:=row C 2 2 (List.flatMap (eN .u64) ([a.iq,a.bS])) 22 1) rfl af
 refine WL.do rfl (Cq Tryz.call20 rfl ?_ (fun _ _ k=>k))
 refine Ce (args:= [.func (.func 21) #[.pointer (some ⟨b,0,none⟩)] #[], .slice C 2 2]) Tryz.func20 rfl rfl rfl ?_
 show Wp _ _ _ [(0, .func (.func 21) #[.pointer (some ⟨b,0,none⟩)] #[]),(1, .slice C 2 2)] _ _
 refine sr (Mz rfl (Kz (.int .i64 2) (Mn rfl (bo (Da 200 (sr (Kz (.bool true) (nt (BS (jt (sk (BS (bo (sr ?_))))))))))))))
 have iH:([a.iq,a.bS]:List Nat)[0]? =some a.iq:=rfl
 refine fw (.pointer (some ⟨ab C,ao C+0 *1,none⟩)) (Ch (jY) rfl rfl ((af.rds (i:=0) rfl).addr (i:=0) (by omega)) (by omega)) (fw (.int .u64 ((a.iq:Nat):Int)) (Cc rfl (bi.one Tryz.isAgg22 (((af.rds (i:=0) rfl).elem fu iH (by decide)).at_ (k:=0) rfl))) (An rfl (BR (Mz rfl (Mz rfl ?_)))))
 have kY:=af.pk [1,4,0,2,3]
 obtain⟨ah,dC⟩:∃ q,aJ (aW.mk (Ll.mk u)) a.iq=q:=⟨_,rfl⟩
 obtain⟨ql,iJ,nC,iK,nD⟩:=Ct kY
 refine WL.do rfl (CB Tryz.call21 rfl rfl (bg _ _ b (aW.mk (Ll.mk u)) S T a.iq ah iJ (by first | omega | (dsimp only; omega) | (dsimp only [List.length_cons,List.length_nil]; omega)) dC) ?_)
 rintro _ qm ⟨kZ,lc,rfl,iL,dD⟩
 have aU:=iK _ _ iL
 have nE:=aU.rowC (i:=1) rfl
 replace dD:ah.xb.ls.length≤u.length+10:=dD
 refine Cf (bN (Ca (BR (Kz (.int .i64 1) (Mz rfl (Cf (CS [(8, .int .i64 1),(7, .int .i64 2),(6, .slice C 2 2),(0, .func (.func 21) #[.pointer (some ⟨b,0,none⟩)] #[])] ⟨rfl,rfl,rfl,rfl,trivial⟩ (sr (Kz (.bool true) (nt (BS (jt (sk (BS (bo (sr ?_))))))))))))))))
 have iM:([a.iq,a.bS]:List Nat)[1]? =some a.bS:=rfl
 refine fw (.pointer (some ⟨ab C,ao C+1 *1,none⟩)) (Ch (jY) rfl rfl ((aU.rds (i:=2) rfl).addr (i:=1) (by omega)) (by omega)) (fw (.int .u64 ((a.bS:Nat):Int)) (Cc rfl (bi.one Tryz.isAgg22 (((aU.rds (i:=2) rfl).elem fu iM (by decide)).at_ (k:=0) rfl))) (An rfl (BR (Mz rfl (Mz rfl ?_)))))
 obtain⟨ai,dG⟩:∃ q,aJ ah a.bS=q:=⟨_,rfl⟩
 obtain⟨qo,iO,nG,iP,nH⟩:=Ct aU
 refine WL.do rfl (CB Tryz.call21 rfl rfl (bg _ _ b ah kZ lc a.bS ai iO (by first | omega | (dsimp only; omega) | (dsimp only [List.length_cons,List.length_nil]; omega)) dG) ?_)
 rintro _ qp ⟨lg,lh,rfl,iQ,dH⟩
 have aV:=iP _ _ iQ
 have nI:=aV.rowC (i:=1) rfl
 replace dH:ai.xb.ls.length≤ah.xb.ls.length+10:=dH
 refine Cf (bN (Ca (BR (Kz (.int .i64 2) (Mz rfl (Cf (CS [(8, .int .i64 2),(7, .int .i64 2),(6, .slice C 2 2),(0, .func (.func 21) #[.pointer (some ⟨b,0,none⟩)] #[])] ⟨rfl,rfl,rfl,rfl,trivial⟩ (sr (Kz (.bool false) (nt (BS (jf (Wp.exit (Cb (Cb (Cn (Cw (res0 rfl) (ns (Mz rfl (Kz (.func (.func 28) #[.pointer (some ⟨b,0,none⟩)] #[]) (Kz (.pointer (some ⟨m,10,none⟩)) (Kz (.pointer (some ⟨m,10,none⟩)) (Lz (.string ⟨List.toArray a.bf.aK⟩) aV 4 Tryz.isAgg9 (Kz (.pointer (some ⟨m,10,none⟩)) (Kz (.pointer (some ⟨m,11,none⟩)) (Lz (.string ⟨List.toArray a.bf.aO⟩) aV 4 Tryz.isAgg9 ?_))))))))))))))))))))))))))
 refine ji [.string ⟨List.toArray a.bf.aK⟩, .string ⟨List.toArray a.bf.aO⟩] 9 1 2 aV ?_
 intro E qw aj
 replace aj:=CG (y:=row E 2 2 (List.flatMap eS ([a.bf.aK,a.bf.aO])) 9 1) rfl aj
 refine WL.do rfl (Cq Tryz.call27 rfl ?_ (fun _ _ k=>k))
 refine Ce (args:= [.func (.func 28) #[.pointer (some ⟨b,0,none⟩)] #[], .slice E 2 2]) Tryz.func27 rfl rfl rfl ?_
 show Wp _ _ _ [(0, .func (.func 28) #[.pointer (some ⟨b,0,none⟩)] #[]),(1, .slice E 2 2)] _ _
 refine sr (Mz rfl (Kz (.int .i64 2) (Mn rfl (bo (Da 200 (sr (Kz (.bool true) (nt (BS (jt (sk (BS (bo (sr ?_))))))))))))))
 have iR:([a.bf.aK,a.bf.aO]:List (List UInt8))[0]? =some a.bf.aK:=rfl
 refine fw (.pointer (some ⟨ab E,ao E+0 *1,none⟩)) (Ch (nL) rfl rfl ((aj.rds (i:=0) rfl).addr (i:=0) (by omega)) (by omega)) (fw (.string ⟨List.toArray a.bf.aK⟩) (Cc rfl (bi.one Tryz.isAgg9 (((aj.rds (i:=0) rfl).elem mo iR (by decide)).at_ (k:=0) rfl))) (An rfl (BR (Mz rfl (Mz rfl ?_)))))
 have ll:=aj.pk [1,2,0,3,4,5]
 obtain⟨ak,dI⟩:∃ q,bO ai a.bf.aK=q:=⟨_,rfl⟩
 obtain⟨qx,iT,nJ,iU,nK⟩:=Ct ll
 refine WL.do rfl (CB Tryz.call28 rfl rfl (eY _ _ b ai lg lh a.bf.aK ak iT (by first | omega | (dsimp only; omega) | (dsimp only [List.length_cons,List.length_nil]; omega)) dI) ?_)
 rintro _ qy ⟨lm,lq,rfl,iV,dJ⟩
 have aY:=iU _ _ iV
 have nM:=aY.rowC (i:=1) rfl
 replace dJ:ak.xb.ls.length≤ai.xb.ls.length+26:=dJ
 refine Cf (bN (Ca (BR (Kz (.int .i64 1) (Mz rfl (Cf (CS [(8, .int .i64 1),(7, .int .i64 2),(6, .slice E 2 2),(0, .func (.func 28) #[.pointer (some ⟨b,0,none⟩)] #[])] ⟨rfl,rfl,rfl,rfl,trivial⟩ (sr (Kz (.bool true) (nt (BS (jt (sk (BS (bo (sr ?_))))))))))))))))
 have iW:([a.bf.aK,a.bf.aO]:List (List UInt8))[1]? =some a.bf.aO:=rfl
 refine fw (.pointer (some ⟨ab E,ao E+1 *1,none⟩)) (Ch (nL) rfl rfl ((aY.rds (i:=2) rfl).addr (i:=1) (by omega)) (by omega)) (fw (.string ⟨List.toArray a.bf.aO⟩) (Cc rfl (bi.one Tryz.isAgg9 (((aY.rds (i:=2) rfl).elem mo iW (by decide)).at_ (k:=0) rfl))) (An rfl (BR (Mz rfl (Mz rfl ?_)))))
 obtain⟨au,dK⟩:∃ q,bO ak a.bf.aO=q:=⟨_,rfl⟩
 obtain⟨qz,iX,nN,iY,nO⟩:=Ct aY
 refine WL.do rfl (CB Tryz.call28 rfl rfl (eY _ _ b ak lm lq a.bf.aO au iX (by first | omega | (dsimp only; omega) | (dsimp only [List.length_cons,List.length_nil]; omega)) dK) ?_)
 rintro _ qA ⟨lu,lv,rfl,iZ,dL⟩
 have ax:=iY _ _ iZ
 have nP:=ax.rowC (i:=1) rfl
 replace dL:au.xb.ls.length≤ak.xb.ls.length+26:=dL
 refine Cf (bN (Ca (BR (Kz (.int .i64 2) (Mz rfl (Cf (CS [(8, .int .i64 2),(7, .int .i64 2),(6, .slice E 2 2),(0, .func (.func 28) #[.pointer (some ⟨b,0,none⟩)] #[])] ⟨rfl,rfl,rfl,rfl,trivial⟩ (sr (Kz (.bool false) (nt (BS (jf (Wp.exit (Cb (Cb (Cn (Cw (res0 rfl) (ns (Mz rfl (Kz (.func (.func 21) #[.pointer (some ⟨b,0,none⟩)] #[]) (Kz (.pointer (some ⟨m,12,none⟩)) (Kz (.pointer (some ⟨m,12,none⟩)) (Lz (.int .u64 ((a.aS.aZ:Nat):Int)) ax 5 Tryz.isAgg22 (Kz (.pointer (some ⟨m,12,none⟩)) (Kz (.pointer (some ⟨m,13,none⟩)) (Lz (.int .u64 ((a.aS.bB:Nat):Int)) ax 5 Tryz.isAgg22 (Kz (.pointer (some ⟨m,12,none⟩)) (Kz (.pointer (some ⟨m,14,none⟩)) (Lz (.int .u64 ((a.aS.cz:Nat):Int)) ax 5 Tryz.isAgg22 ?_)))))))))))))))))))))))))))))
 refine ji [.int .u64 ((a.aS.aZ:Nat):Int), .int .u64 ((a.aS.bB:Nat):Int), .int .u64 ((a.aS.cz:Nat):Int)] 22 1 3 ax ?_
 intro B qB az
 replace az:=CG (y:=row B 3 3 (List.flatMap (eN .u64) ([a.aS.aZ,a.aS.bB,a.aS.cz])) 22 1) rfl az
 refine WL.do rfl (Cq Tryz.call20 rfl ?_ (fun _ _ k=>k))
 refine Ce (args:= [.func (.func 21) #[.pointer (some ⟨b,0,none⟩)] #[], .slice B 3 3]) Tryz.func20 rfl rfl rfl ?_
 show Wp _ _ _ [(0, .func (.func 21) #[.pointer (some ⟨b,0,none⟩)] #[]),(1, .slice B 3 3)] _ _
 refine sr (Mz rfl (Kz (.int .i64 3) (Mn rfl (bo (Da 200 (sr (Kz (.bool true) (nt (BS (jt (sk (BS (bo (sr ?_))))))))))))))
 have ja:([a.aS.aZ,a.aS.bB,a.aS.cz]:List Nat)[0]? =some a.aS.aZ:=rfl
 refine fw (.pointer (some ⟨ab B,ao B+0 *1,none⟩)) (Ch (jY) rfl rfl ((az.rds (i:=0) rfl).addr (i:=0) (by omega)) (by omega)) (fw (.int .u64 ((a.aS.aZ:Nat):Int)) (Cc rfl (bi.one Tryz.isAgg22 (((az.rds (i:=0) rfl).elem fu ja (by decide)).at_ (k:=0) rfl))) (An rfl (BR (Mz rfl (Mz rfl ?_)))))
 have lw:=az.pk [1,2,0,3,4,5,6]
 obtain⟨aA,dM⟩:∃ q,aJ au a.aS.aZ=q:=⟨_,rfl⟩
 obtain⟨qC,jc,nQ,jd,nR⟩:=Ct lw
 refine WL.do rfl (CB Tryz.call21 rfl rfl (bg _ _ b au lu lv a.aS.aZ aA jc (by first | omega | (dsimp only; omega) | (dsimp only [List.length_cons,List.length_nil]; omega)) dM) ?_)
 rintro _ qD ⟨lC,lD,rfl,je,dN⟩
 have aZ:=jd _ _ je
 have nS:=aZ.rowC (i:=1) rfl
 replace dN:aA.xb.ls.length≤au.xb.ls.length+10:=dN
 refine Cf (bN (Ca (BR (Kz (.int .i64 1) (Mz rfl (Cf (CS [(8, .int .i64 1),(7, .int .i64 3),(6, .slice B 3 3),(0, .func (.func 21) #[.pointer (some ⟨b,0,none⟩)] #[])] ⟨rfl,rfl,rfl,rfl,trivial⟩ (sr (Kz (.bool true) (nt (BS (jt (sk (BS (bo (sr ?_))))))))))))))))
 have jg:([a.aS.aZ,a.aS.bB,a.aS.cz]:List Nat)[1]? =some a.aS.bB:=rfl
 refine fw (.pointer (some ⟨ab B,ao B+1 *1,none⟩)) (Ch (jY) rfl rfl ((aZ.rds (i:=2) rfl).addr (i:=1) (by omega)) (by omega)) (fw (.int .u64 ((a.aS.bB:Nat):Int)) (Cc rfl (bi.one Tryz.isAgg22 (((aZ.rds (i:=2) rfl).elem fu jg (by decide)).at_ (k:=0) rfl))) (An rfl (BR (Mz rfl (Mz rfl ?_)))))
 obtain⟨aB,dO⟩:∃ q,aJ aA a.aS.bB=q:=⟨_,rfl⟩
 obtain⟨qE,jh,nT,jk,nU⟩:=Ct aZ
 refine WL.do rfl (CB Tryz.call21 rfl rfl (bg _ _ b aA lC lD a.aS.bB aB jh (by first | omega | (dsimp only; omega) | (dsimp only [List.length_cons,List.length_nil]; omega)) dO) ?_)
 rintro _ qF ⟨lF,lG,rfl,jl,dP⟩
 have bf:=jk _ _ jl
 have nV:=bf.rowC (i:=1) rfl
 replace dP:aB.xb.ls.length≤aA.xb.ls.length+10:=dP
 refine Cf (bN (Ca (BR (Kz (.int .i64 2) (Mz rfl (Cf (CS [(8, .int .i64 2),(7, .int .i64 3),(6, .slice B 3 3),(0, .func (.func 21) #[.pointer (some ⟨b,0,none⟩)] #[])] ⟨rfl,rfl,rfl,rfl,trivial⟩ (sr (Kz (.bool true) (nt (BS (jt (sk (BS (bo (sr ?_))))))))))))))))
 have jm:([a.aS.aZ,a.aS.bB,a.aS.cz]:List Nat)[2]? =some a.aS.cz:=rfl
 refine fw (.pointer (some ⟨ab B,ao B+2 *1,none⟩)) (Ch (jY) rfl rfl ((bf.rds (i:=2) rfl).addr (i:=2) (by omega)) (by omega)) (fw (.int .u64 ((a.aS.cz:Nat):Int)) (Cc rfl (bi.one Tryz.isAgg22 (((bf.rds (i:=2) rfl).elem fu jm (by decide)).at_ (k:=0) rfl))) (An rfl (BR (Mz rfl (Mz rfl ?_)))))
 obtain⟨aC,dQ⟩:∃ q,aJ aB a.aS.cz=q:=⟨_,rfl⟩
 obtain⟨qG,jo,nW,jq,nX⟩:=Ct bf
 refine WL.do rfl (CB Tryz.call21 rfl rfl (bg _ _ b aB lF lG a.aS.cz aC jo (by first | omega | (dsimp only; omega) | (dsimp only [List.length_cons,List.length_nil]; omega)) dQ) ?_)
 rintro _ qH ⟨lH,lI,rfl,jr,dR⟩
 have bn:=jq _ _ jr
 have nY:=bn.rowC (i:=1) rfl
 replace dR:aC.xb.ls.length≤aB.xb.ls.length+10:=dR
 refine Cf (bN (Ca (BR (Kz (.int .i64 3) (Mz rfl (Cf (CS [(8, .int .i64 3),(7, .int .i64 3),(6, .slice B 3 3),(0, .func (.func 21) #[.pointer (some ⟨b,0,none⟩)] #[])] ⟨rfl,rfl,rfl,rfl,trivial⟩ (sr (Kz (.bool false) (nt (BS (jf (Wp.exit (Cb (Cb (Cn (Cw (res0 rfl) (ns (Mz rfl (Kz (.func (.func 28) #[.pointer (some ⟨b,0,none⟩)] #[]) (Kz (.pointer (some ⟨m,12,none⟩)) (Kz (.pointer (some ⟨m,15,none⟩)) (Kz (.pointer (some ⟨m,15,none⟩)) (Lz (.string ⟨List.toArray a.aS.aP.aK⟩) bn 6 Tryz.isAgg9 (Kz (.pointer (some ⟨m,12,none⟩)) (Kz (.pointer (some ⟨m,15,none⟩)) (Kz (.pointer (some ⟨m,16,none⟩)) (Lz (.string ⟨List.toArray a.aS.aP.aO⟩) bn 6 Tryz.isAgg9 ?_))))))))))))))))))))))))))))
 refine ji [.string ⟨List.toArray a.aS.aP.aK⟩, .string ⟨List.toArray a.aS.aP.aO⟩] 9 1 2 bn ?_
 intro F qI aD
 replace aD:=CG (y:=row F 2 2 (List.flatMap eS ([a.aS.aP.aK,a.aS.aP.aO])) 9 1) rfl aD
 refine WL.do rfl (Cq Tryz.call27 rfl ?_ (fun _ _ k=>k))
 refine Ce (args:= [.func (.func 28) #[.pointer (some ⟨b,0,none⟩)] #[], .slice F 2 2]) Tryz.func27 rfl rfl rfl ?_
 show Wp _ _ _ [(0, .func (.func 28) #[.pointer (some ⟨b,0,none⟩)] #[]),(1, .slice F 2 2)] _ _
 refine sr (Mz rfl (Kz (.int .i64 2) (Mn rfl (bo (Da 200 (sr (Kz (.bool true) (nt (BS (jt (sk (BS (bo (sr ?_))))))))))))))
 have jw:([a.aS.aP.aK,a.aS.aP.aO]:List (List UInt8))[0]? =some a.aS.aP.aK:=rfl
 refine fw (.pointer (some ⟨ab F,ao F+0 *1,none⟩)) (Ch (nL) rfl rfl ((aD.rds (i:=0) rfl).addr (i:=0) (by omega)) (by omega)) (fw (.string ⟨List.toArray a.aS.aP.aK⟩) (Cc rfl (bi.one Tryz.isAgg9 (((aD.rds (i:=0) rfl).elem mo jw (by decide)).at_ (k:=0) rfl))) (An rfl (BR (Mz rfl (Mz rfl ?_)))))
 have lJ:=aD.pk [1,2,0,3,4,5,6,7]
 obtain⟨aF,dS⟩:∃ q,bO aC a.aS.aP.aK=q:=⟨_,rfl⟩
 obtain⟨qJ,jy,nZ,jA,og⟩:=Ct lJ
 refine WL.do rfl (CB Tryz.call28 rfl rfl (eY _ _ b aC lH lI a.aS.aP.aK aF jy (by first | omega | (dsimp only; omega) | (dsimp only [List.length_cons,List.length_nil]; omega)) dS) ?_)
 rintro _ qK ⟨lK,lL,rfl,jB,dU⟩
 have bu:=jA _ _ jB
 have oh:=bu.rowC (i:=1) rfl
 replace dU:aF.xb.ls.length≤aC.xb.ls.length+26:=dU
 refine Cf (bN (Ca (BR (Kz (.int .i64 1) (Mz rfl (Cf (CS [(8, .int .i64 1),(7, .int .i64 2),(6, .slice F 2 2),(0, .func (.func 28) #[.pointer (some ⟨b,0,none⟩)] #[])] ⟨rfl,rfl,rfl,rfl,trivial⟩ (sr (Kz (.bool true) (nt (BS (jt (sk (BS (bo (sr ?_))))))))))))))))
 have jC:([a.aS.aP.aK,a.aS.aP.aO]:List (List UInt8))[1]? =some a.aS.aP.aO:=rfl
 refine fw (.pointer (some ⟨ab F,ao F+1 *1,none⟩)) (Ch (nL) rfl rfl ((bu.rds (i:=2) rfl).addr (i:=1) (by omega)) (by omega)) (fw (.string ⟨List.toArray a.aS.aP.aO⟩) (Cc rfl (bi.one Tryz.isAgg9 (((bu.rds (i:=2) rfl).elem mo jC (by decide)).at_ (k:=0) rfl))) (An rfl (BR (Mz rfl (Mz rfl ?_)))))
 obtain⟨bv,dV⟩:∃ q,bO aF a.aS.aP.aO=q:=⟨_,rfl⟩
 obtain⟨qL,jD,ol,jE,om⟩:=Ct bu
 refine WL.do rfl (CB Tryz.call28 rfl rfl (eY _ _ b aF lK lL a.aS.aP.aO bv jD (by first | omega | (dsimp only; omega) | (dsimp only [List.length_cons,List.length_nil]; omega)) dV) ?_)
 rintro _ qM ⟨fH,fI,rfl,jG,dW⟩
 have dX:=jE _ _ jG
 have oo:=dX.rowC (i:=1) rfl
 replace dW:bv.xb.ls.length≤aF.xb.ls.length+26:=dW
 refine Cf (bN (Ca (BR (Kz (.int .i64 2) (Mz rfl (Cf (CS [(8, .int .i64 2),(7, .int .i64 2),(6, .slice F 2 2),(0, .func (.func 28) #[.pointer (some ⟨b,0,none⟩)] #[])] ⟨rfl,rfl,rfl,rfl,trivial⟩ (sr (Kz (.bool false) (nt (BS (jf (Wp.exit (Cb (Cb (Cn (Cw (res0 rfl) (ns (Mz rfl (Kz (.pointer (some ⟨b,0,none⟩)) (Kz (.pointer (some ⟨b,0,none⟩)) (Lz (.slice fH bv.xb.ls.length fI) dX 0 Tryz.isAgg37 (Az rfl (An rfl (rt (CK (oV rfl rfl rfl) ?_))))))))))))))))))))))))))
 have lM:=dX.pk [1]
 have e:ik a=(bv.xb.ls,0):=et (ag aQ) (et (ip dY) (et (ag eF) (et (ag eH) (et (ag eP) (et (ag bH) (et (ag bJ) (et (ag bP) (et (ag gM) (et (ag bX) (et (ag ig) (et (ag cZ) (et (ag iG) (et (ag dC) (et (ag dG) (et (ag dI) (et (ag dK) (et (ag dM) (et (ag dO) (et (ag dQ) (et (ag dS) (ag dV)))))))))))))))))))))
 obtain⟨rfl,rfl⟩:=iI (e.symm.trans hr)
 exact⟨fH,fI,rfl,lM,(by first | omega | exact EM _)⟩
 refine jT (dT dY) (sr (Mz rfl (Az rfl (An rfl (rt (tR (CK (oV rfl rfl rfl) ?_)))))))
 have lN:Own w D lW [row none 0 0 (List.flatMap eB ([])) 5 1,blk m (aX a d h f j g l) 31]:=jM.free (iD 5 1)
 have lQ:=lN.pk [0]
 have e:ik a=([],bA):=et (ag aQ) (iN dY)
 obtain⟨rfl,rfl⟩:=iI (e.symm.trans hr)
 exact⟨none,0,rfl,lQ,(by first | omega | exact EM _)⟩
def fQ (e:bI):List aL→List UInt8→(List UInt8)
  | [],a=>a
  | c::d,a=>bnd (jv (aW.mk (Ll.mk a)) c) fun b=>fQ e d b.xb.ls
def fU (e:bI):List bK→List UInt8→(List UInt8)
  | [],b=>b
  | a::d,b=>bnd (jU (aW.mk (Ll.mk b)) (bK.mk a.av a.ak a.aj a.bJ (Ll.mk a.aa.ls))) fun c=>fU e d c.xb.ls
def fV:List eD→List UInt8→(List UInt8)
  | [],b=>b
  | a::d,b=>bnd (kX (aW.mk (Ll.mk b)) (eD.mk a.ak a.aj a.bJ (Ll.mk a.au.ls))) fun c=>fV d c.xb.ls
def il (a:bI):(List UInt8) × Int:=
 bnd (dA a) fun b=>if b=0 then bnd (aJ (aW.mk (Ll.mk ([67]))) (Int.toNat (IntKind.u64.wrap a.aa))) fun g=>bnd (aJ g a.aj) fun h=>bnd (aJ h a.aR) fun i=>bnd (aJ i a.aH) fun c=>bnd (aJ c a.ai.ls.length) fun d=>bnd (fQ a a.ai.ls d.xb.ls) fun sLrbtbbbbbL=>bnd (aJ (aW.mk (Ll.mk sLrbtbbbbbL)) a.af.ls.length) fun e=>bnd (fU a a.af.ls e.xb.ls) fun sLrbtbbbbbLabL=>bnd (aJ (aW.mk (Ll.mk sLrbtbbbbbLabL)) a.aB.ls.length) fun f=>bnd (fV a.aB.ls f.xb.ls) fun sLrbtbbbbbLabLabL=>(sLrbtbbbbbLabLabL,0) else([],b)
set_option maxHeartbeats 4000000 in
theorem mW (w:World) (D:Nat→Prop) (a:bI) (g:Option Addr) (bZ l:Nat) (h:Option Addr) (cu m:Nat) (ai:List ax) (j:Option Addr) (cz n:Nat) (ak:List aT) (r0:List UInt8) (r1:Int) (H:Own w D w []) (dQ:bZ=a.ai.ls.length) (X:Ro w D fun w'=>bG w' 2 g a.ai.ls.length (List.flatMap aL.cells a.ai.ls)) (iR:a.ai.ls.length≤l∧a.ai.ls.length≤9223372036854775807) (az:List.map Co ai=a.af.ls) (dR:cu=a.af.ls.length) (Y:Ro w D fun w'=>bG w' 5 h a.af.ls.length (List.flatMap ax.cells ai)) (iT:a.af.ls.length≤m∧a.af.ls.length≤9223372036854775807) (Z:∀ x ∈ ai,Ro w D (fun w'=>bG w' 1 x.aa.A x.aa.ls.length (List.flatMap (eI .i64) x.aa.ls))∧(x.aa.ls.length≤x.aa.c∧x.aa.ls.length≤9223372036854775807)) (aA:List.map Cz ak=a.aB.ls) (dS:cz=a.aB.ls.length) (ae:Ro w D fun w'=>bG w' 4 j a.aB.ls.length (List.flatMap aT.cells ak)) (iU:a.aB.ls.length≤n∧a.aB.ls.length≤9223372036854775807) (C:∀ x ∈ ak,Ro w D (fun w'=>bG w' 3 x.au.A x.au.ls.length (List.flatMap aD.cells x.au.ls))∧(x.au.ls.length≤x.au.c∧x.au.ls.length≤9223372036854775807)∧(∀ y1 ∈ x.au.ls,Ro w D (fun w'=>bG w' 2 y1.aA.A y1.aA.ls.length (List.flatMap bH.cells y1.aA.ls))∧(y1.aA.ls.length≤y1.aA.c∧y1.aA.ls.length≤9223372036854775807))) (lw:a.ai.ls.length≤140737488355328∧a.af.ls.length≤140737488355328∧a.aB.ls.length≤140737488355328) (iV:r9 a) (hr:il a=(r0,r1)):
    Calls Tryz.prog 9 #[.agg #[.int .i64 a.aa, .int .u64 ((a.aj:Nat):Int), .int .u64 ((a.aR:Nat):Int), .int .u64 ((a.aH:Nat):Int), .slice g bZ l, .slice h cu m, .slice j cz n]] w (dE fun v w'=> ∃ (B0:Option Addr) (b0:Nat),v= .tuple #[.slice B0 r0.length b0, .int .i64 r1]∧Own w D w' [row B0 r0.length b0 (List.flatMap eB r0) 5 1]∧(r0.length≤100000)):=by
 subst dQ dR dS
 have hdl0x1:=dm az
 have hdl0x2:=dm aA
 refine Ce (args:= [.agg #[.int .i64 a.aa, .int .u64 ((a.aj:Nat):Int), .int .u64 ((a.aR:Nat):Int), .int .u64 ((a.aH:Nat):Int), .slice g a.ai.ls.length l, .slice h a.af.ls.length m, .slice j a.aB.ls.length n]]) Tryz.func9 rfl rfl rfl ?_
 show Wp _ _ _ [(0, .agg #[.int .i64 a.aa, .int .u64 ((a.aj:Nat):Int), .int .u64 ((a.aR:Nat):Int), .int .u64 ((a.aH:Nat):Int), .slice g a.ai.ls.length l, .slice h a.af.ls.length m, .slice j a.aB.ls.length n])] _ _
 refine sr ?_
 refine dB [.int .i64 a.aa, .int .u64 ((a.aj:Nat):Int), .int .u64 ((a.aR:Nat):Int), .int .u64 ((a.aH:Nat):Int), .slice g a.ai.ls.length l, .slice h a.af.ls.length m, .slice j a.aB.ls.length n] 35 H ?_
 intro E lC fO
 refine Az rfl (An rfl (BS (sr (La ([.int .i64 a.aa, .int .u64 ((a.aj:Nat):Int), .int .u64 ((a.aR:Nat):Int), .int .u64 ((a.aH:Nat):Int), .slice g a.ai.ls.length l, .slice h a.af.ls.length m, .slice j a.aB.ls.length n]) fO 0 Tryz.isAgg35 Tryz.sizeOf35 ?_))))
 obtain⟨aK,aH⟩:∃ q,dA a=q:=⟨_,rfl⟩
 obtain⟨lD,fP,P,fT,jZ⟩:=Ck fO
 refine cl Tryz.call13 (lZ _ _ a g a.ai.ls.length l h a.af.ls.length m ai j a.aB.ls.length n ak aK fP rfl (P _ X) (show a.ai.ls.length≤l∧a.ai.ls.length≤9223372036854775807 from by omega) az rfl (P _ Y) (show a.af.ls.length≤m∧a.af.ls.length≤9223372036854775807 from by omega) (fun x9 h9=>⟨P _ (Z x9 h9).1,(Z x9 h9).2⟩) aA rfl (P _ ae) (show a.aB.ls.length≤n∧a.aB.ls.length≤9223372036854775807 from by omega) (fun x9 h9=>⟨P _ (C x9 h9).1,(C x9 h9).2.1,(fun y1 k1=>⟨P _ ((C x9 h9).2.2 y1 k1).1,((C x9 h9).2.2 y1 k1).2⟩)⟩) (by first | omega | (dsimp only; omega) | (simp only [List.length_nil]; omega) | decide) aH) ?_
 rintro _ iW ⟨rfl,fZ⟩
 have gm:=fT _ _ fZ
 refine Ar rfl (Mz rfl (fw (.bool (decide (¬ (aK=0)))) (Cy (e:= !(decide (aK=0))) yk decide_not.symm) (nt ?_)))
 by_cases bV:aK=0
 refine jF (dF (EN bV)) (sk (sr ?_))
 have hsm35:=uq (by rw [aH]; omega) iV
 have j4:a.ai.ls.length≤6:=hsm35.1
 have j5:a.af.ls.length≤8:=hsm35.2.2.1
 have j6:a.aB.ls.length≤4:=hsm35.2.2.2.2.1
 have kg:a.aj≤18446744073709551615:=hsm35.2.2.2.2.2.2.1
 have ko:a.aR≤18446744073709551615:=hsm35.2.2.2.2.2.2.2.1
 have kr:a.aH≤18446744073709551615:=hsm35.2.2.2.2.2.2.2.2
 refine ji [.int .u8 67] 5 1 1 gm ?_
 intro bW lF dU
 replace dU:=CG (y:=row bW 1 1 (List.flatMap eB ([67])) 5 1) rfl dU
 refine Kz (.agg #[.slice bW 1 1]) ?_
 refine dB [.slice bW 1 1] 57 dU ?_
 intro b lG gp
 refine Ar rfl (Mz rfl (Kz (.pointer (some ⟨E,0,none⟩)) (Lz (.int .i64 a.aa) gp 2 Tryz.isAgg3 ?_)))
 refine WL.do rfl (Cq Tryz.call19 rfl ?_ (fun _ _ k=>k))
 refine Ce (args:= [.pointer (some ⟨b,0,none⟩), .int .i64 a.aa]) Tryz.func19 rfl rfl rfl ?_
 show Wp _ _ _ [(0, .pointer (some ⟨b,0,none⟩)),(1, .int .i64 a.aa)] _ _
 refine BR (Mz rfl (Mz rfl ?_))
 have ku:Int.toNat (IntKind.u64.wrap a.aa)≤18446744073709551615:=gW _
 refine fw (.int .u64 ((Int.toNat (IntKind.u64.wrap a.aa):Nat):Int)) (Ci (e:=IntKind.u64.wrap a.aa) yk (di _)) ?_
 obtain⟨aM,cB⟩:∃ q,aJ (aW.mk (Ll.mk ([67]))) (Int.toNat (IntKind.u64.wrap a.aa))=q:=⟨_,rfl⟩
 obtain⟨lH,gq,kv,gu,kw⟩:=Ct gp
 refine cl Tryz.call21 (bg _ _ b (aW.mk (Ll.mk ([67]))) bW 1 (Int.toNat (IntKind.u64.wrap a.aa)) aM gq (by first | omega | (dsimp only; omega) | (dsimp only [List.length_cons,List.length_nil]; omega)) cB) ?_
 rintro _ lI ⟨iX,iY,rfl,gy,cK⟩
 have aN:=gu _ _ gy
 have ky:=aN.rowC (i:=1) rfl
 replace cK:aM.xb.ls.length≤1+10:=cK
 refine Cf (Cw (res0 rfl) (ns (Mz rfl (Kz (.func (.func 21) #[.pointer (some ⟨b,0,none⟩)] #[]) (Kz (.pointer (some ⟨E,1,none⟩)) (Lz (.int .u64 ((a.aj:Nat):Int)) aN 2 Tryz.isAgg22 (Kz (.pointer (some ⟨E,2,none⟩)) (Lz (.int .u64 ((a.aR:Nat):Int)) aN 2 Tryz.isAgg22 (Kz (.pointer (some ⟨E,3,none⟩)) (Lz (.int .u64 ((a.aH:Nat):Int)) aN 2 Tryz.isAgg22 ?_))))))))))
 refine ji [.int .u64 ((a.aj:Nat):Int), .int .u64 ((a.aR:Nat):Int), .int .u64 ((a.aH:Nat):Int)] 22 1 3 aN ?_
 intro B lJ aO
 replace aO:=CG (y:=row B 3 3 (List.flatMap (eN .u64) ([a.aj,a.aR,a.aH])) 22 1) rfl aO
 refine WL.do rfl (Cq Tryz.call20 rfl ?_ (fun _ _ k=>k))
 refine Ce (args:= [.func (.func 21) #[.pointer (some ⟨b,0,none⟩)] #[], .slice B 3 3]) Tryz.func20 rfl rfl rfl ?_
 show Wp _ _ _ [(0, .func (.func 21) #[.pointer (some ⟨b,0,none⟩)] #[]),(1, .slice B 3 3)] _ _
 refine sr (Mz rfl (Kz (.int .i64 3) (Mn rfl (bo (Da 200 (sr (Kz (.bool true) (nt (BS (jt (sk (BS (bo (sr ?_))))))))))))))
 have gz:([a.aj,a.aR,a.aH]:List Nat)[0]? =some a.aj:=rfl
 refine fw (.pointer (some ⟨ab B,ao B+0 *1,none⟩)) (Ch (jY) rfl rfl ((aO.rds (i:=0) rfl).addr (i:=0) (by omega)) (by omega)) (fw (.int .u64 ((a.aj:Nat):Int)) (Cc rfl (bi.one Tryz.isAgg22 (((aO.rds (i:=0) rfl).elem fu gz (by decide)).at_ (k:=0) rfl))) (An rfl (BR (Mz rfl (Mz rfl ?_)))))
 have iZ:=aO.pk [1,2,0,3]
 obtain⟨aP,cO⟩:∃ q,aJ aM a.aj=q:=⟨_,rfl⟩
 obtain⟨lK,gB,kz,gD,kC⟩:=Ct iZ
 refine WL.do rfl (CB Tryz.call21 rfl rfl (bg _ _ b aM iX iY a.aj aP gB (by first | omega | (dsimp only; omega) | (dsimp only [List.length_cons,List.length_nil]; omega)) cO) ?_)
 rintro _ lL ⟨ja,jc,rfl,gF,cZ⟩
 have bX:=gD _ _ gF
 have kD:=bX.rowC (i:=1) rfl
 replace cZ:aP.xb.ls.length≤aM.xb.ls.length+10:=cZ
 refine Cf (bN (Ca (BR (Kz (.int .i64 1) (Mz rfl (Cf (CS [(8, .int .i64 1),(7, .int .i64 3),(6, .slice B 3 3),(0, .func (.func 21) #[.pointer (some ⟨b,0,none⟩)] #[])] ⟨rfl,rfl,rfl,rfl,trivial⟩ (sr (Kz (.bool true) (nt (BS (jt (sk (BS (bo (sr ?_))))))))))))))))
 have gG:([a.aj,a.aR,a.aH]:List Nat)[1]? =some a.aR:=rfl
 refine fw (.pointer (some ⟨ab B,ao B+1 *1,none⟩)) (Ch (jY) rfl rfl ((bX.rds (i:=2) rfl).addr (i:=1) (by omega)) (by omega)) (fw (.int .u64 ((a.aR:Nat):Int)) (Cc rfl (bi.one Tryz.isAgg22 (((bX.rds (i:=2) rfl).elem fu gG (by decide)).at_ (k:=0) rfl))) (An rfl (BR (Mz rfl (Mz rfl ?_)))))
 obtain⟨aQ,df⟩:∃ q,aJ aP a.aR=q:=⟨_,rfl⟩
 obtain⟨lM,gH,kE,gI,kF⟩:=Ct bX
 refine WL.do rfl (CB Tryz.call21 rfl rfl (bg _ _ b aP ja jc a.aR aQ gH (by first | omega | (dsimp only; omega) | (dsimp only [List.length_cons,List.length_nil]; omega)) df) ?_)
 rintro _ lN ⟨jd,je,rfl,gJ,dh⟩
 have bY:=gI _ _ gJ
 have kG:=bY.rowC (i:=1) rfl
 replace dh:aQ.xb.ls.length≤aP.xb.ls.length+10:=dh
 refine Cf (bN (Ca (BR (Kz (.int .i64 2) (Mz rfl (Cf (CS [(8, .int .i64 2),(7, .int .i64 3),(6, .slice B 3 3),(0, .func (.func 21) #[.pointer (some ⟨b,0,none⟩)] #[])] ⟨rfl,rfl,rfl,rfl,trivial⟩ (sr (Kz (.bool true) (nt (BS (jt (sk (BS (bo (sr ?_))))))))))))))))
 have gK:([a.aj,a.aR,a.aH]:List Nat)[2]? =some a.aH:=rfl
 refine fw (.pointer (some ⟨ab B,ao B+2 *1,none⟩)) (Ch (jY) rfl rfl ((bY.rds (i:=2) rfl).addr (i:=2) (by omega)) (by omega)) (fw (.int .u64 ((a.aH:Nat):Int)) (Cc rfl (bi.one Tryz.isAgg22 (((bY.rds (i:=2) rfl).elem fu gK (by decide)).at_ (k:=0) rfl))) (An rfl (BR (Mz rfl (Mz rfl ?_)))))
 obtain⟨ay,aR⟩:∃ q,aJ aQ a.aH=q:=⟨_,rfl⟩
 obtain⟨lQ,gL,jg,dV,jh⟩:=Ct bY
 refine WL.do rfl (CB Tryz.call21 rfl rfl (bg _ _ b aQ jd je a.aH ay gL (by first | omega | (dsimp only; omega) | (dsimp only [List.length_cons,List.length_nil]; omega)) aR) ?_)
 rintro _ kH ⟨gM,gN,rfl,dW,aS⟩
 have aU:=dV _ _ dW
 have jk:=aU.rowC (i:=1) rfl
 replace aS:ay.xb.ls.length≤aQ.xb.ls.length+10:=aS
 refine Cf (bN (Ca (BR (Kz (.int .i64 3) (Mz rfl (Cf (CS [(8, .int .i64 3),(7, .int .i64 3),(6, .slice B 3 3),(0, .func (.func 21) #[.pointer (some ⟨b,0,none⟩)] #[])] ⟨rfl,rfl,rfl,rfl,trivial⟩ (sr (Kz (.bool false) (nt (BS (jf (Wp.exit (Cb (Cb (Cn (Cw (res0 rfl) (ns (Mz rfl (Kz (.pointer (some ⟨E,4,none⟩)) (Lz (.slice g a.ai.ls.length l) aU 3 Tryz.isAgg23 (Mz rfl (Kz (.func (.func 23) #[.pointer (some ⟨b,0,none⟩)] #[]) ?_)))))))))))))))))))))))
 refine WL.do rfl (Cq Tryz.call22 rfl ?_ (fun _ _ k=>k))
 refine Ce (args:= [.pointer (some ⟨b,0,none⟩), .slice g a.ai.ls.length l, .func (.func 23) #[.pointer (some ⟨b,0,none⟩)] #[]]) Tryz.func22 rfl rfl rfl ?_
 show Wp _ _ _ [(0, .pointer (some ⟨b,0,none⟩)),(1, .slice g a.ai.ls.length l),(2, .func (.func 23) #[.pointer (some ⟨b,0,none⟩)] #[])] _ _
 refine sr (Mz rfl (Mz rfl (Kz (.int .i64 ((a.ai.ls.length:Nat):Int)) ?_)))
 refine WL.do rfl (Cq Tryz.call19 rfl ?_ (fun _ _ k=>k))
 refine Ce (args:= [.pointer (some ⟨b,0,none⟩), .int .i64 ((a.ai.ls.length:Nat):Int)]) Tryz.func19 rfl rfl rfl ?_
 show Wp _ _ _ [(0, .pointer (some ⟨b,0,none⟩)),(1, .int .i64 ((a.ai.ls.length:Nat):Int))] _ _
 refine BR (Mz rfl (Mz rfl (fw (.int .u64 ((a.ai.ls.length:Nat):Int)) (Ci (e:=IntKind.u64.wrap ((a.ai.ls.length:Nat):Int)) yk (IntWalk.u64_in _ (by omega))) ?_)))
 obtain⟨I,aV⟩:∃ q,aJ ay a.ai.ls.length=q:=⟨_,rfl⟩
 obtain⟨kI,dX,jl,dY,jm⟩:=Ct aU
 refine cl Tryz.call21 (bg _ _ b ay gM gN a.ai.ls.length I dX (by first | omega | (dsimp only; omega) | (dsimp only [List.length_cons,List.length_nil]; omega)) aV) ?_
 rintro _ kJ ⟨gP,gQ,rfl,dZ,aX⟩
 have dn:=dY _ _ dZ
 have jo:=dn.rowC (i:=1) rfl
 replace aX:I.xb.ls.length≤ay.xb.ls.length+10:=aX
 refine Cf (Cw (res0 rfl) (nt (BR (Mz rfl (Mz rfl ?_)))))
 refine WL.do rfl (Cq Tryz.call69 rfl ?_ (fun _ _ k=>k))
 refine Ce (args:= [.func (.func 23) #[.pointer (some ⟨b,0,none⟩)] #[], .slice g a.ai.ls.length l]) Tryz.func69 rfl rfl rfl ?_
 show Wp _ _ _ [(0, .func (.func 23) #[.pointer (some ⟨b,0,none⟩)] #[]),(1, .slice g a.ai.ls.length l)] _ _
 refine sr (Mz rfl (Kz (.int .i64 ((a.ai.ls.length:Nat):Int)) (Mn rfl (bo ?_))))
 have gT:=dn.pk [0,2,3,1]
 obtain⟨dx,d9⟩:∃ q:(Nat × (Option Addr) × Nat × (List UInt8))→World→Prop,q=fun(i:Nat × (Option Addr) × Nat × (List UInt8)) w'=>Own w D w' [blk b [.slice i.2.1 i.2.2.2.length i.2.2.1] 57,row B 3 3 (List.flatMap (eN .u64) ([a.aj,a.aR,a.aH])) 22 1,blk E [.int .i64 a.aa, .int .u64 ((a.aj:Nat):Int), .int .u64 ((a.aR:Nat):Int), .int .u64 ((a.aH:Nat):Int), .slice g a.ai.ls.length l, .slice h a.af.ls.length m, .slice j a.aB.ls.length n] 35,row i.2.1 i.2.2.2.length i.2.2.1 (List.flatMap eB i.2.2.2) 5 1]∧(i.1≤a.ai.ls.length∧((i.2.2.2.length:Nat):Int)≤((I.xb.ls.length:Nat):Int)+40 *((i.1:Nat):Int)∧fQ a a.ai.ls I.xb.ls=fQ a (List.drop i.1 a.ai.ls) i.2.2.2):=⟨_,rfl⟩
 have aB:∀ {o:Nat} {Q:Option Addr} {R:Nat} {s:List UInt8} {w':World},dx (o,Q,R,s) w'↔Own w D w' [blk b [.slice Q s.length R] 57,row B 3 3 (List.flatMap (eN .u64) ([a.aj,a.aR,a.aH])) 22 1,blk E [.int .i64 a.aa, .int .u64 ((a.aj:Nat):Int), .int .u64 ((a.aR:Nat):Int), .int .u64 ((a.aH:Nat):Int), .slice g a.ai.ls.length l, .slice h a.af.ls.length m, .slice j a.aB.ls.length n] 35,row Q s.length R (List.flatMap eB s) 5 1]∧o≤a.ai.ls.length∧((s.length:Nat):Int)≤((I.xb.ls.length:Nat):Int)+40 *((o:Nat):Int)∧fQ a a.ai.ls I.xb.ls=fQ a (List.drop o a.ai.ls) s:=by intros; subst d9; exact Iff.rfl
 refine Wp.loop (fun i:Nat × (Option Addr) × Nat × (List UInt8)=> [(8, .int .i64 ((i.1:Nat):Int)),(7, .int .i64 ((a.ai.ls.length:Nat):Int)),(6, .slice g a.ai.ls.length l),(0, .func (.func 23) #[.pointer (some ⟨b,0,none⟩)] #[])]) dx (fun i=>a.ai.ls.length - i.1) (0,gP,gQ,I.xb.ls) ⟨rfl,rfl,rfl,rfl,trivial⟩ (aB.2 ⟨gT,by omega,by omega,rfl⟩) ?_
 rintro ⟨o,Q,R,s⟩ kK ed
 show Wp _ _ _ [(8, .int .i64 ((o:Nat):Int)),(7, .int .i64 ((a.ai.ls.length:Nat):Int)),(6, .slice g a.ai.ls.length l),(0, .func (.func 23) #[.pointer (some ⟨b,0,none⟩)] #[])] _ _
 obtain⟨S,jq,jr,aY⟩:=aB.1 ed
 refine sr (Kz (.bool (decide (((o:Nat):Int) < ((a.ai.ls.length:Nat):Int)))) (nt (BS ?_)))
 by_cases dz:((o:Nat):Int) < ((a.ai.ls.length:Nat):Int)
 obtain⟨L,aC⟩:=bU (ls:=a.ai.ls) (i:=o) aL.len (by decide) (S.ro X) (by first | omega | (simp; done) | (simp; omega))
 have ek:L.aK.length≤12:=hsm35.2.1 _ (List.mem_of_getElem? aC)
 have eu:=drop_at aC
 refine jT (dT dz) (sk (BS (bo (sr (fw (.pointer (some ⟨ab g,ao g+o *2,none⟩)) (Ch (ng) rfl rfl ((S.ro X).addr (i:=o) (by omega)) (by omega)) (fw (.agg (aL.cells L).toArray) (Cc rfl (Cu (cs:=(aL.cells L)) Tryz.isAgg54 Tryz.sizeOf54 ((S.ro X).elem aL.len aC (by decide)))) ?_))))))
 refine dB [.string ⟨List.toArray ([])⟩, .int .i64 0] 54 S ?_
 intro kL kM gU
 refine dw (aL.cells L) 0 gU Tryz.sizeOf54 ?_
 intro kN dC
 refine nt (BR (Mz rfl (La (aL.cells L) dC 0 Tryz.isAgg54 Tryz.sizeOf54 ?_)))
 have gV:=dC.pk [1,4,0,2,3]
 obtain⟨aZ,bf⟩:∃ q,jv (aW.mk (Ll.mk s)) L=q:=⟨_,rfl⟩
 obtain⟨kP,eF,jw,eG,jy⟩:=Ct gV
 refine WL.do rfl (CB Tryz.call23 rfl rfl (mG _ _ b (aW.mk (Ll.mk s)) Q R L aZ eF (by first | omega | (dsimp only; omega) | (dsimp only [List.length_cons,List.length_nil]; omega)) (by exact ek) bf) ?_)
 rintro _ kQ ⟨gX,gY,rfl,eH,bn⟩
 have dD:=eG _ _ eH
 have jA:=dD.rowC (i:=1) rfl
 replace bn:aZ.xb.ls.length≤s.length+40:=bn
 refine Cf (bN (Ca (BR (fw (.int .i64 ((o+1:Nat):Int)) (Ci (e:=IntKind.i64.wrap (((o:Nat):Int)+1)) yk (by rw [EL _ (by omega)]; omega)) (Mz rfl (Cf ?_))))))
 have gZ:=dD.pk [0,3,4,1]
 exact Cm (o+1,gX,gY,aZ.xb.ls) ⟨rfl,rfl,rfl,rfl,trivial⟩ (aB.2 ⟨gZ,by omega,by omega,et (aY) (et (congrArg (fun q=>fQ a q s) eu) (ag bf))⟩) (by show a.ai.ls.length - (o+1) < a.ai.ls.length - o; omega)
 refine jF (dF dz) (Wp.exit (Cb ?_))
 have eO:fQ a a.ai.ls I.xb.ls=s:=et (aY) (et (congrArg (fun q=>fQ a q s) (bM (ls:=a.ai.ls) (i:=o) (by omega))) rfl)
 refine Cb (Cn (Cw (res0 rfl) (Cf (Cw (res0 rfl) (ns (Mz rfl (Kz (.pointer (some ⟨E,5,none⟩)) (Lz (.slice h a.af.ls.length m) S 2 Tryz.isAgg32 (Mz rfl (Kz (.func (.func 33) #[.pointer (some ⟨b,0,none⟩)] #[]) ?_))))))))))
 refine WL.do rfl (Cq Tryz.call32 rfl ?_ (fun _ _ k=>k))
 refine Ce (args:= [.pointer (some ⟨b,0,none⟩), .slice h a.af.ls.length m, .func (.func 33) #[.pointer (some ⟨b,0,none⟩)] #[]]) Tryz.func32 rfl rfl rfl ?_
 show Wp _ _ _ [(0, .pointer (some ⟨b,0,none⟩)),(1, .slice h a.af.ls.length m),(2, .func (.func 33) #[.pointer (some ⟨b,0,none⟩)] #[])] _ _
 refine sr (Mz rfl (Mz rfl (Kz (.int .i64 ((a.af.ls.length:Nat):Int)) ?_)))
 refine WL.do rfl (Cq Tryz.call19 rfl ?_ (fun _ _ k=>k))
 refine Ce (args:= [.pointer (some ⟨b,0,none⟩), .int .i64 ((a.af.ls.length:Nat):Int)]) Tryz.func19 rfl rfl rfl ?_
 show Wp _ _ _ [(0, .pointer (some ⟨b,0,none⟩)),(1, .int .i64 ((a.af.ls.length:Nat):Int))] _ _
 refine BR (Mz rfl (Mz rfl (fw (.int .u64 ((a.af.ls.length:Nat):Int)) (Ci (e:=IntKind.u64.wrap ((a.af.ls.length:Nat):Int)) yk (IntWalk.u64_in _ (by omega))) ?_)))
 have ib:=S.pk [0,3,1,2]
 obtain⟨J,bq⟩:∃ q,aJ (aW.mk (Ll.mk s)) a.af.ls.length=q:=⟨_,rfl⟩
 obtain⟨kR,eP,jB,eQ,jC⟩:=Ct ib
 refine cl Tryz.call21 (bg _ _ b (aW.mk (Ll.mk s)) Q R a.af.ls.length J eP (by first | omega | (dsimp only; omega) | (dsimp only [List.length_cons,List.length_nil]; omega)) bq) ?_
 rintro _ kS ⟨ic,ig,rfl,eT,bu⟩
 have dG:=eQ _ _ eT
 have jD:=dG.rowC (i:=1) rfl
 replace bu:J.xb.ls.length≤s.length+10:=bu
 refine Cf (Cw (res0 rfl) (nt (BR (Mz rfl (Mz rfl ?_)))))
 refine WL.do rfl (Cq Tryz.call76 rfl ?_ (fun _ _ k=>k))
 refine Ce (args:= [.func (.func 33) #[.pointer (some ⟨b,0,none⟩)] #[], .slice h a.af.ls.length m]) Tryz.func76 rfl rfl rfl ?_
 show Wp _ _ _ [(0, .func (.func 33) #[.pointer (some ⟨b,0,none⟩)] #[]),(1, .slice h a.af.ls.length m)] _ _
 refine sr (Mz rfl (Kz (.int .i64 ((a.af.ls.length:Nat):Int)) (Mn rfl (bo ?_))))
 have ik:=dG.pk [0,2,3,1]
 obtain⟨dH,eU⟩:∃ q:(Nat × (Option Addr) × Nat × (List UInt8))→World→Prop,q=fun(i:Nat × (Option Addr) × Nat × (List UInt8)) w'=>Own w D w' [blk b [.slice i.2.1 i.2.2.2.length i.2.2.1] 57,row B 3 3 (List.flatMap (eN .u64) ([a.aj,a.aR,a.aH])) 22 1,blk E [.int .i64 a.aa, .int .u64 ((a.aj:Nat):Int), .int .u64 ((a.aR:Nat):Int), .int .u64 ((a.aH:Nat):Int), .slice g a.ai.ls.length l, .slice h a.af.ls.length m, .slice j a.aB.ls.length n] 35,row i.2.1 i.2.2.2.length i.2.2.1 (List.flatMap eB i.2.2.2) 5 1]∧(i.1≤a.af.ls.length∧((i.2.2.2.length:Nat):Int)≤((J.xb.ls.length:Nat):Int)+100 *((i.1:Nat):Int)∧fU a a.af.ls J.xb.ls=fU a (List.drop i.1 a.af.ls) i.2.2.2):=⟨_,rfl⟩
 have aF:∀ {p:Nat} {T:Option Addr} {U:Nat} {t:List UInt8} {w':World},dH (p,T,U,t) w'↔Own w D w' [blk b [.slice T t.length U] 57,row B 3 3 (List.flatMap (eN .u64) ([a.aj,a.aR,a.aH])) 22 1,blk E [.int .i64 a.aa, .int .u64 ((a.aj:Nat):Int), .int .u64 ((a.aR:Nat):Int), .int .u64 ((a.aH:Nat):Int), .slice g a.ai.ls.length l, .slice h a.af.ls.length m, .slice j a.aB.ls.length n] 35,row T t.length U (List.flatMap eB t) 5 1]∧p≤a.af.ls.length∧((t.length:Nat):Int)≤((J.xb.ls.length:Nat):Int)+100 *((p:Nat):Int)∧fU a a.af.ls J.xb.ls=fU a (List.drop p a.af.ls) t:=by intros; subst eU; exact Iff.rfl
 refine Wp.loop (fun i:Nat × (Option Addr) × Nat × (List UInt8)=> [(8, .int .i64 ((i.1:Nat):Int)),(7, .int .i64 ((a.af.ls.length:Nat):Int)),(6, .slice h a.af.ls.length m),(0, .func (.func 33) #[.pointer (some ⟨b,0,none⟩)] #[])]) dH (fun i=>a.af.ls.length - i.1) (0,ic,ig,J.xb.ls) ⟨rfl,rfl,rfl,rfl,trivial⟩ (aF.2 ⟨ik,by omega,by omega,rfl⟩) ?_
 rintro ⟨p,T,U,t⟩ kT eX
 show Wp _ _ _ [(8, .int .i64 ((p:Nat):Int)),(7, .int .i64 ((a.af.ls.length:Nat):Int)),(6, .slice h a.af.ls.length m),(0, .func (.func 33) #[.pointer (some ⟨b,0,none⟩)] #[])] _ _
 obtain⟨V,jE,jG,bv⟩:=aF.1 eX
 refine sr (Kz (.bool (decide (((p:Nat):Int) < ((a.af.ls.length:Nat):Int)))) (nt (BS ?_)))
 by_cases dI:((p:Nat):Int) < ((a.af.ls.length:Nat):Int)
 obtain⟨f,af⟩:=bU (ls:=ai) (i:=p) ax.len (by decide) (V.ro Y) (by first | omega | (simp; done) | (simp; omega))
 have bz:=jb az af
 have jH:=(Z _ (List.mem_of_getElem? af)).2
 have M:(Co f).av≤18446744073709551615∧(Co f).aj≤18446744073709551615∧(Co f).bJ≤18446744073709551615∧List.length (Co f).aa.ls≤4:=hsm35.2.2.2.1 _ (List.mem_of_getElem? bz)
 have hz203p0:f.av≤18446744073709551615:=by have F:=M.1; first | exact F | (simp only [Co,List.length_map] at F; exact F)
 have hz203p1:f.aj≤18446744073709551615:=by have F:=M.2.1; first | exact F | (simp only [Co,List.length_map] at F; exact F)
 have hz203p2:f.bJ≤18446744073709551615:=by have F:=M.2.2.1; first | exact F | (simp only [Co,List.length_map] at F; exact F)
 have hz203p3:f.aa.ls.length≤4:=by have F:=M.2.2.2; first | exact F | (simp only [Co,List.length_map] at F; exact F)
 have eY:=drop_at bz
 refine jT (dT dI) (sk (BS (bo (sr (fw (.pointer (some ⟨ab h,ao h+p *5,none⟩)) (Ch (qw) rfl rfl ((V.ro Y).addr (i:=p) (by omega)) (by omega)) (fw (.agg (ax.cells f).toArray) (Cc rfl (Cu (cs:=(ax.cells f)) Tryz.isAgg79 Tryz.sizeOf79 ((V.ro Y).elem ax.len af (by decide)))) ?_))))))
 refine dB [.int .u64 0, .int .i64 0, .int .u64 0, .int .u64 0, .slice none 0 0] 79 V ?_
 intro kU kV iq
 refine dw (ax.cells f) 0 iq Tryz.sizeOf79 ?_
 intro kW dJ
 refine nt (BR (Mz rfl (La (ax.cells f) dJ 0 Tryz.isAgg79 Tryz.sizeOf79 ?_)))
 have iw:=dJ.pk [1,4,0,2,3]
 obtain⟨bA,bB⟩:∃ q,jU (aW.mk (Ll.mk t)) (bK.mk f.av f.ak f.aj f.bJ (Ll.mk f.aa.ls))=q:=⟨_,rfl⟩
 obtain⟨kY,eZ,fe,fo,jI⟩:=Ct iw
 refine WL.do rfl (CB Tryz.call33 rfl rfl (nX _ _ b (aW.mk (Ll.mk t)) T U (bK.mk f.av f.ak f.aj f.bJ (Ll.mk f.aa.ls)) f.aa.A f.aa.ls.length f.aa.c bA eZ rfl (fe _ (Z _ (List.mem_of_getElem? af)).1) (show f.aa.ls.length≤f.aa.c∧f.aa.ls.length≤9223372036854775807 from by omega) (by first | omega | (dsimp only; omega) | (dsimp only [List.length_cons,List.length_nil]; omega)) (by exact M) bB) ?_)
 rintro _ kZ ⟨iy,iA,rfl,fq,bC⟩
 have dK:=fo _ _ fq
 have jJ:=dK.rowC (i:=1) rfl
 replace bC:bA.xb.ls.length≤t.length+100:=bC
 refine Cf (bN (Ca (BR (fw (.int .i64 ((p+1:Nat):Int)) (Ci (e:=IntKind.i64.wrap (((p:Nat):Int)+1)) yk (by rw [EL _ (by omega)]; omega)) (Mz rfl (Cf ?_))))))
 have iB:=dK.pk [0,3,4,1]
 exact Cm (p+1,iy,iA,bA.xb.ls) ⟨rfl,rfl,rfl,rfl,trivial⟩ (aF.2 ⟨iB,by omega,by omega,et (bv) (et (congrArg (fun q=>fU a q t) eY) (ag bB))⟩) (by show a.af.ls.length - (p+1) < a.af.ls.length - p; omega)
 refine jF (dF dI) (Wp.exit (Cb ?_))
 have fA:fU a a.af.ls J.xb.ls=t:=et (bv) (et (congrArg (fun q=>fU a q t) (bM (ls:=a.af.ls) (i:=p) (by omega))) rfl)
 refine Cb (Cn (Cw (res0 rfl) (Cf (Cw (res0 rfl) (ns (Mz rfl (Kz (.pointer (some ⟨E,6,none⟩)) (Lz (.slice j a.aB.ls.length n) V 2 Tryz.isAgg33 (Mz rfl (Kz (.func (.func 35) #[.pointer (some ⟨b,0,none⟩)] #[]) ?_))))))))))
 refine WL.do rfl (Cq Tryz.call34 rfl ?_ (fun _ _ k=>k))
 refine Ce (args:= [.pointer (some ⟨b,0,none⟩), .slice j a.aB.ls.length n, .func (.func 35) #[.pointer (some ⟨b,0,none⟩)] #[]]) Tryz.func34 rfl rfl rfl ?_
 show Wp _ _ _ [(0, .pointer (some ⟨b,0,none⟩)),(1, .slice j a.aB.ls.length n),(2, .func (.func 35) #[.pointer (some ⟨b,0,none⟩)] #[])] _ _
 refine sr (Mz rfl (Mz rfl (Kz (.int .i64 ((a.aB.ls.length:Nat):Int)) ?_)))
 refine WL.do rfl (Cq Tryz.call19 rfl ?_ (fun _ _ k=>k))
 refine Ce (args:= [.pointer (some ⟨b,0,none⟩), .int .i64 ((a.aB.ls.length:Nat):Int)]) Tryz.func19 rfl rfl rfl ?_
 show Wp _ _ _ [(0, .pointer (some ⟨b,0,none⟩)),(1, .int .i64 ((a.aB.ls.length:Nat):Int))] _ _
 refine BR (Mz rfl (Mz rfl (fw (.int .u64 ((a.aB.ls.length:Nat):Int)) (Ci (e:=IntKind.u64.wrap ((a.aB.ls.length:Nat):Int)) yk (IntWalk.u64_in _ (by omega))) ?_)))
 have iC:=V.pk [0,3,1,2]
 obtain⟨K,bD⟩:∃ q,aJ (aW.mk (Ll.mk t)) a.aB.ls.length=q:=⟨_,rfl⟩
 obtain⟨lc,fB,jK,fC,jL⟩:=Ct iC
 refine cl Tryz.call21 (bg _ _ b (aW.mk (Ll.mk t)) T U a.aB.ls.length K fB (by first | omega | (dsimp only; omega) | (dsimp only [List.length_cons,List.length_nil]; omega)) bD) ?_
 rintro _ lg ⟨iE,iF,rfl,fD,bE⟩
 have dL:=fC _ _ fD
 have jM:=dL.rowC (i:=1) rfl
 replace bE:K.xb.ls.length≤t.length+10:=bE
 refine Cf (Cw (res0 rfl) (nt (BR (Mz rfl (Mz rfl ?_)))))
 refine WL.do rfl (Cq Tryz.call78 rfl ?_ (fun _ _ k=>k))
 refine Ce (args:= [.func (.func 35) #[.pointer (some ⟨b,0,none⟩)] #[], .slice j a.aB.ls.length n]) Tryz.func78 rfl rfl rfl ?_
 show Wp _ _ _ [(0, .func (.func 35) #[.pointer (some ⟨b,0,none⟩)] #[]),(1, .slice j a.aB.ls.length n)] _ _
 refine sr (Mz rfl (Kz (.int .i64 ((a.aB.ls.length:Nat):Int)) (Mn rfl (bo ?_))))
 have iG:=dL.pk [0,2,3,1]
 obtain⟨dM,fE⟩:∃ q:(Nat × (Option Addr) × Nat × (List UInt8))→World→Prop,q=fun(i:Nat × (Option Addr) × Nat × (List UInt8)) w'=>Own w D w' [blk b [.slice i.2.1 i.2.2.2.length i.2.2.1] 57,row B 3 3 (List.flatMap (eN .u64) ([a.aj,a.aR,a.aH])) 22 1,blk E [.int .i64 a.aa, .int .u64 ((a.aj:Nat):Int), .int .u64 ((a.aR:Nat):Int), .int .u64 ((a.aH:Nat):Int), .slice g a.ai.ls.length l, .slice h a.af.ls.length m, .slice j a.aB.ls.length n] 35,row i.2.1 i.2.2.2.length i.2.2.1 (List.flatMap eB i.2.2.2) 5 1]∧(i.1≤a.aB.ls.length∧((i.2.2.2.length:Nat):Int)≤((K.xb.ls.length:Nat):Int)+8000 *((i.1:Nat):Int)∧fV a.aB.ls K.xb.ls=fV (List.drop i.1 a.aB.ls) i.2.2.2):=⟨_,rfl⟩
 have aG:∀ {r:Nat} {N:Option Addr} {O:Nat} {u:List UInt8} {w':World},dM (r,N,O,u) w'↔Own w D w' [blk b [.slice N u.length O] 57,row B 3 3 (List.flatMap (eN .u64) ([a.aj,a.aR,a.aH])) 22 1,blk E [.int .i64 a.aa, .int .u64 ((a.aj:Nat):Int), .int .u64 ((a.aR:Nat):Int), .int .u64 ((a.aH:Nat):Int), .slice g a.ai.ls.length l, .slice h a.af.ls.length m, .slice j a.aB.ls.length n] 35,row N u.length O (List.flatMap eB u) 5 1]∧r≤a.aB.ls.length∧((u.length:Nat):Int)≤((K.xb.ls.length:Nat):Int)+8000 *((r:Nat):Int)∧fV a.aB.ls K.xb.ls=fV (List.drop r a.aB.ls) u:=by intros; subst fE; exact Iff.rfl
 refine Wp.loop (fun i:Nat × (Option Addr) × Nat × (List UInt8)=> [(8, .int .i64 ((i.1:Nat):Int)),(7, .int .i64 ((a.aB.ls.length:Nat):Int)),(6, .slice j a.aB.ls.length n),(0, .func (.func 35) #[.pointer (some ⟨b,0,none⟩)] #[])]) dM (fun i=>a.aB.ls.length - i.1) (0,iE,iF,K.xb.ls) ⟨rfl,rfl,rfl,rfl,trivial⟩ (aG.2 ⟨iG,by omega,by omega,rfl⟩) ?_
 rintro ⟨r,N,O,u⟩ lh fF
 show Wp _ _ _ [(8, .int .i64 ((r:Nat):Int)),(7, .int .i64 ((a.aB.ls.length:Nat):Int)),(6, .slice j a.aB.ls.length n),(0, .func (.func 35) #[.pointer (some ⟨b,0,none⟩)] #[])] _ _
 obtain⟨W,jN,jO,bF⟩:=aG.1 fF
 refine sr (Kz (.bool (decide (((r:Nat):Int) < ((a.aB.ls.length:Nat):Int)))) (nt (BS ?_)))
 by_cases dN:((r:Nat):Int) < ((a.aB.ls.length:Nat):Int)
 obtain⟨d,G⟩:=bU (ls:=ak) (i:=r) aT.len (by decide) (W.ro ae) (by first | omega | (simp; done) | (simp; omega))
 have bL:=jb aA G
 have jP:=(C _ (List.mem_of_getElem? G)).2.1
 have jQ:List.length (List.map Cj d.au.ls)=d.au.ls.length:=List.length_map ..
 have ah:(Cz d).aj≤18446744073709551615∧(Cz d).bJ≤18446744073709551615∧List.length (Cz d).au.ls≤24∧∀ z ∈ (Cz d).au.ls,z.aC.length≤16∧z.aA.ls.length≤4∧∀ q ∈ z.aA.ls,q.aV.length≤12∧q.aC.length≤16:=hsm35.2.2.2.2.2.1 _ (List.mem_of_getElem? bL)
 have hz263p0:d.aj≤18446744073709551615:=by have F:=ah.1; first | exact F | (simp only [Cz,List.length_map] at F; exact F)
 have hz263p1:d.bJ≤18446744073709551615:=by have F:=ah.2.1; first | exact F | (simp only [Cz,List.length_map] at F; exact F)
 have hz263p2:d.au.ls.length≤24:=by have F:=ah.2.2.1; first | exact F | (simp only [Cz,List.length_map] at F; exact F)
 have fG:=drop_at bL
 refine jT (dT dN) (sk (BS (bo (sr (fw (.pointer (some ⟨ab j,ao j+r *4,none⟩)) (Ch (qx) rfl rfl ((W.ro ae).addr (i:=r) (by omega)) (by omega)) (fw (.agg (aT.cells d).toArray) (Cc rfl (Cu (cs:=(aT.cells d)) Tryz.isAgg84 Tryz.sizeOf84 ((W.ro ae).elem aT.len G (by decide)))) ?_))))))
 refine dB [.int .i64 0, .int .u64 0, .int .u64 0, .slice none 0 0] 84 W ?_
 intro ll lm iH
 refine dw (aT.cells d) 0 iH Tryz.sizeOf84 ?_
 intro lq dO
 refine nt (BR (Mz rfl (La (aT.cells d) dO 0 Tryz.isAgg84 Tryz.sizeOf84 ?_)))
 have iJ:=dO.pk [1,4,0,2,3]
 obtain⟨bO,bP⟩:∃ q,kX (aW.mk (Ll.mk u)) (eD.mk d.ak d.aj d.bJ (Ll.mk (List.map Cj d.au.ls)))=q:=⟨_,rfl⟩
 obtain⟨lu,fH,bQ,fI,jR⟩:=Ct iJ
 refine WL.do rfl (CB Tryz.call35 rfl rfl (pu _ _ b (aW.mk (Ll.mk u)) N O (eD.mk d.ak d.aj d.bJ (Ll.mk (List.map Cj d.au.ls))) d.au.A d.au.ls.length d.au.c d.au.ls bO fH (rfl:List.map Cj d.au.ls=List.map Cj d.au.ls) (by first | rfl | omega | (simp only [List.length_append,List.length_cons,List.length_nil,List.length_take,List.length_drop,List.length_set,List.length_replicate,List.length_map] <;> omega)) (fun w9 h9=>Au (dm (rfl:List.map Cj d.au.ls=List.map Cj d.au.ls)) ((bQ _ (C _ (List.mem_of_getElem? G)).1) w9 h9)) (show List.length (List.map Cj d.au.ls)≤d.au.c∧List.length (List.map Cj d.au.ls)≤9223372036854775807 from by omega) (fun x9 h9=>⟨bQ _ ((C _ (List.mem_of_getElem? G)).2.2 x9 h9).1,((C _ (List.mem_of_getElem? G)).2.2 x9 h9).2⟩) (by first | omega | (dsimp only; omega) | (dsimp only [List.length_cons,List.length_nil]; omega)) (by exact ah) bP) ?_)
 rintro _ lv ⟨iK,iL,rfl,fJ,bR⟩
 have dP:=fI _ _ fJ
 have jS:=dP.rowC (i:=1) rfl
 replace bR:bO.xb.ls.length≤u.length+8000:=bR
 refine Cf (bN (Ca (BR (fw (.int .i64 ((r+1:Nat):Int)) (Ci (e:=IntKind.i64.wrap (((r:Nat):Int)+1)) yk (by rw [EL _ (by omega)]; omega)) (Mz rfl (Cf ?_))))))
 have iM:=dP.pk [0,3,4,1]
 exact Cm (r+1,iK,iL,bO.xb.ls) ⟨rfl,rfl,rfl,rfl,trivial⟩ (aG.2 ⟨iM,by omega,by omega,et (bF) (et (congrArg (fun q=>fV q u) fG) (ag bP))⟩) (by show a.aB.ls.length - (r+1) < a.aB.ls.length - r; omega)
 refine jF (dF dN) (Wp.exit (Cb ?_))
 have fK:fV a.aB.ls K.xb.ls=u:=et (bF) (et (congrArg (fun q=>fV q u) (bM (ls:=a.aB.ls) (i:=r) (by omega))) rfl)
 refine Cb (Cn (Cw (res0 rfl) (Cf (Cw (res0 rfl) (ns (Mz rfl (Kz (.pointer (some ⟨b,0,none⟩)) (Kz (.pointer (some ⟨b,0,none⟩)) (Lz (.slice N u.length O) W 0 Tryz.isAgg37 (Az rfl (An rfl (rt (CK (oV rfl rfl rfl) ?_)))))))))))))
 have iO:=W.pk [3]
 have e:il a=(u,0):=et (ag aH) (et (ip bV) (et (ag cB) (et (ag cO) (et (ag df) (et (ag aR) (et (ag aV) (et (ag eO) (et (ag bq) (et (ag fA) (et (ag bD) (ag fK)))))))))))
 obtain⟨rfl,rfl⟩:=iI (e.symm.trans hr)
 exact⟨N,O,rfl,iO,(by first | omega | exact EM _)⟩
 refine jT (dT bV) (sr (Mz rfl (Az rfl (An rfl (rt (tR (CK (oV rfl rfl rfl) ?_)))))))
 have iP:Own w D iW [row none 0 0 (List.flatMap eB ([])) 5 1,blk E [.int .i64 a.aa, .int .u64 ((a.aj:Nat):Int), .int .u64 ((a.aR:Nat):Int), .int .u64 ((a.aH:Nat):Int), .slice g a.ai.ls.length l, .slice h a.af.ls.length m, .slice j a.aB.ls.length n] 35]:=gm.free (iD 5 1)
 have iQ:=iP.pk [0]
 have e:il a=([],aK):=et (ag aH) (iN bV)
 obtain⟨rfl,rfl⟩:=iI (e.symm.trans hr)
 exact⟨none,0,rfl,iQ,(by first | omega | exact EM _)⟩
end Go.Proofs.YtcnkpjheifkgnaaGreat
