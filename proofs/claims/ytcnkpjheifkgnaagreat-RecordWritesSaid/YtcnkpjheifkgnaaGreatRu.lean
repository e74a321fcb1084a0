/-
 record: the document's bytes of states.
-/
import Derived.Test.YtcnkpjheifkgnaaGreatRt
namespace Go.Proofs.YtcnkpjheifkgnaaGreat
set_option maxRecDepth 100000
open Go.RowKit
set_option linter.unusedVariables false
set_option linter.unusedSectionVars false
set_option linter.unusedSimpArgs false
def dP:List bq→List UInt8→(List UInt8)
  | [],b=>b
  | a::i,b=>bnd (dC b ([(Int.toNat (IntKind.u64.wrap a.aI))])) fun c=>bnd (eX c a.aV) fun d=>bnd (eX d a.aC) fun e=>bnd (eX e a.aK) fun f=>bnd (eX f a.aO) fun g=>bnd (dC g ([(Int.toNat (IntKind.u64.wrap a.bn))])) fun h=>dP i h
def dQ (e:bQ):List eZ→List UInt8→(List UInt8)
  | [],a=>a
  | b::d,a=>bnd (dC a ([b.av,b.ay.ls.length])) fun c=>bnd (dP b.ay.ls c) fun sLrbtbbbLsbL=>dQ e d sLrbtbbbLsbL
def jQ (a:bQ):(List UInt8) × Int:=
 bnd (kQ a) fun b=>if b=0 then bnd (dC ([83]) ([(Int.toNat (IntKind.u64.wrap a.cO)),a.aj,a.aR,a.aH,a.aZ])) fun l=>bnd (lu l a.ai.ls) fun m=>bnd (dC m ([a.az.ls.length])) fun c=>bnd (dQ a a.az.ls c) fun sLrbtbbbL=>bnd (dC sLrbtbbbL ([a.ah.ls.length])) fun d=>bnd (dC d a.ah.ls) fun e=>bnd (dC e ([a.iq,a.bS])) fun f=>bnd (eX f a.bf.aK) fun g=>bnd (eX g a.bf.aO) fun h=>bnd (dC h ([a.aS.aZ,a.aS.bB,a.aS.cz])) fun i=>bnd (eX i a.aS.aP.aK) fun j=>bnd (eX j a.aS.aP.aO) fun k=>(k,0) else([],b)
set_option maxHeartbeats 4000000 in
theorem qA (w:World) (D:Nat→Prop) (b:bQ) (u:Option Addr) (kF s:Nat) (h:Option Addr) (kG k:Nat) (dA:List aM) (p:Option Addr) (kH o:Nat) (r0:List UInt8) (r1:Int) (H:Own w D w []) (kN:kF=b.ai.ls.length) (fJ:Ro w D fun w'=>bG w' 2 u b.ai.ls.length (List.flatMap aL.cells b.ai.ls)) (o6:b.ai.ls.length≤s∧b.ai.ls.length≤9223372036854775807) (dD:List.map CE dA=b.az.ls) (kP:kG=b.az.ls.length) (ai:Ro w D fun w'=>bG w' 2 h b.az.ls.length (List.flatMap aM.cells dA)) (o7:b.az.ls.length≤k∧b.az.ls.length≤9223372036854775807) (O:∀ x ∈ dA,Ro w D (fun w'=>bG w' 6 x.ay.A x.ay.ls.length (List.flatMap bq.cells x.ay.ls))∧(x.ay.ls.length≤x.ay.c∧x.ay.ls.length≤9223372036854775807)) (kR:kH=b.ah.ls.length) (fK:Ro w D fun w'=>bG w' 1 p b.ah.ls.length (List.flatMap (eN .u64) b.ah.ls)) (o8:b.ah.ls.length≤o∧b.ah.ls.length≤9223372036854775807) (qB:b.ai.ls.length≤140737488355328∧b.az.ls.length≤140737488355328∧b.ah.ls.length≤140737488355328) (o9:rZ b) (hr:jQ b=(r0,r1)):
    Calls Tryz.prog 8 #[.agg (bZ b.cO b.aj b.aR b.aH b.aZ u kF s h kG k p kH o b.iq b.bS b.bf.aK b.bf.aO b.aS.aZ b.aS.bB b.aS.cz b.aS.aP.aK b.aS.aP.aO).toArray] w (dE fun v w'=> ∃ (B0:Option Addr) (b0:Nat),v= .tuple #[.slice B0 r0.length b0, .int .i64 r1]∧Own w D w' [row B0 r0.length b0 (List.flatMap eB r0) 5 1]∧(r0.length≤100000)):=by
 subst kN kP kR
 have hdl0x1:=dm dD
 refine Ce (args:= [.agg (aX b u s h k p o).toArray]) Tryz.func8 rfl rfl rfl ?_
 show Wp _ _ _ [(0, .agg (aX b u s h k p o).toArray)] _ _
 refine sr ?_
 refine dB (aX b u s h k p o) 31 H ?_
 intro f qC mI
 refine Az rfl (An rfl (BS (sr (La (aX b u s h k p o) mI 0 Tryz.isAgg31 Tryz.sizeOf31 ?_))))
 obtain⟨je,dI⟩:∃ q,kQ b=q:=⟨_,rfl⟩
 obtain⟨qD,mK,ja,mM,pV⟩:=Ck mI
 refine cl Tryz.call12 (nU _ _ b u b.ai.ls.length s h b.az.ls.length k dA p b.ah.ls.length o je mK rfl (ja _ fJ) (show b.ai.ls.length≤s∧b.ai.ls.length≤9223372036854775807 from by omega) dD rfl (ja _ ai) (show b.az.ls.length≤k∧b.az.ls.length≤9223372036854775807 from by omega) (fun x9 h9=>⟨ja _ (O x9 h9).1,(O x9 h9).2⟩) rfl (ja _ fK) (show b.ah.ls.length≤o∧b.ah.ls.length≤9223372036854775807 from by omega) (by first | omega | (dsimp only; omega) | (simp only [List.length_nil]; omega) | decide) dI) ?_
 rintro _ pg ⟨rfl,mO⟩
 have mP:=mM _ _ mO
 refine Ar rfl (Mz rfl (fw (.bool (decide (¬ (je=0)))) (Cy (e:= !(decide (je=0))) yk decide_not.symm) (nt ?_)))
 by_cases jf:je=0
 refine jF (dF (EN jf)) (sk (sr ?_))
 have hsm35:=uo (by rw [← ut,dI]; omega) o9
 have pY:b.ai.ls.length≤6:=hsm35.1
 have p8:b.az.ls.length≤6:=hsm35.2.2.1
 have p9:b.ah.ls.length≤64:=hsm35.2.2.2.2.1
 have qa:b.bf.aK.length≤12∧b.bf.aO.length≤12∧b.aS.aP.aK.length≤12∧b.aS.aP.aO.length≤12:=hsm35.2.2.2.2.2.2.1
 have qb:b.aj≤18446744073709551615:=hsm35.2.2.2.2.2.2.2.1
 have qc:b.aR≤18446744073709551615:=hsm35.2.2.2.2.2.2.2.2.1
 have qd:b.aH≤18446744073709551615:=hsm35.2.2.2.2.2.2.2.2.2.1
 have qf:b.aZ≤18446744073709551615:=hsm35.2.2.2.2.2.2.2.2.2.2.1
 have qg:b.iq≤18446744073709551615:=hsm35.2.2.2.2.2.2.2.2.2.2.2.1
 have qh:b.bS≤18446744073709551615:=hsm35.2.2.2.2.2.2.2.2.2.2.2.2.1
 have qi:b.aS.aZ≤18446744073709551615:=hsm35.2.2.2.2.2.2.2.2.2.2.2.2.2.1
 have qj:b.aS.bB≤18446744073709551615:=hsm35.2.2.2.2.2.2.2.2.2.2.2.2.2.2.1
 have ql:b.aS.cz≤18446744073709551615:=hsm35.2.2.2.2.2.2.2.2.2.2.2.2.2.2.2
 refine ji [.int .u8 83] 5 1 1 mP ?_
 intro mQ qE dJ
 replace dJ:=CG (y:=row mQ 1 1 (List.flatMap eB ([83])) 5 1) rfl dJ
 refine Kz (.pointer (some ⟨f,0,none⟩)) (Lz (.int .i64 b.cO) dJ 1 Tryz.isAgg3 ?_)
 have qm:Int.toNat (IntKind.u64.wrap b.cO)≤18446744073709551615:=gW _
 refine fw (.int .u64 ((Int.toNat (IntKind.u64.wrap b.cO):Nat):Int)) (Ci (e:=IntKind.u64.wrap b.cO) yk (di _)) (Kz (.pointer (some ⟨f,1,none⟩)) (Lz (.int .u64 ((b.aj:Nat):Int)) dJ 1 Tryz.isAgg22 (Kz (.pointer (some ⟨f,2,none⟩)) (Lz (.int .u64 ((b.aR:Nat):Int)) dJ 1 Tryz.isAgg22 (Kz (.pointer (some ⟨f,3,none⟩)) (Lz (.int .u64 ((b.aH:Nat):Int)) dJ 1 Tryz.isAgg22 (Kz (.pointer (some ⟨f,4,none⟩)) (Lz (.int .u64 ((b.aZ:Nat):Int)) dJ 1 Tryz.isAgg22 ?_))))))))
 refine ji [.int .u64 ((Int.toNat (IntKind.u64.wrap b.cO):Nat):Int), .int .u64 ((b.aj:Nat):Int), .int .u64 ((b.aR:Nat):Int), .int .u64 ((b.aH:Nat):Int), .int .u64 ((b.aZ:Nat):Int)] 22 1 5 dJ ?_
 intro aa qF kS
 replace kS:=CG (y:=row aa 5 5 (List.flatMap (eN .u64) ([(Int.toNat (IntKind.u64.wrap b.cO)),b.aj,b.aR,b.aH,b.aZ])) 22 1) rfl kS
 have pq:=kS.pk [1,0,2]
 obtain⟨aH,jg⟩:∃ q,dC ([83]) ([(Int.toNat (IntKind.u64.wrap b.cO)),b.aj,b.aR,b.aH,b.aZ])=q:=⟨_,rfl⟩
 obtain⟨qG,mR,qo,mU,mV⟩:=Cg pq
 refine WL.do rfl (Cq Tryz.call29 rfl (eG _ _ mQ 1 1 ([83]) aa 5 5 ([(Int.toNat (IntKind.u64.wrap b.cO)),b.aj,b.aR,b.aH,b.aZ]) aH mR rfl (by simp) (mV _ 0 _ rfl eH) rfl (by simp) (by first | omega | (simp only [List.length_cons,List.length_nil,List.length_append]; omega)) (by refine⟨EK rfl, ?_⟩; simp only [List.mem_cons,List.not_mem_nil,or_false,forall_eq_or_imp,forall_eq]; omega) jg) ?_)
 rintro _ pu ⟨kT,kU,rfl,mW,kI⟩
 have mX:=mU _ _ mW
 have qp:=mX.rowC (i:=0) rfl
 replace kI:aH.length≤1+0+10 *5:=kI
 refine An rfl (BS ?_)
 have pz:=mX.pk [1,2,0]
 have jh:=pz.drew
 refine CP [] (fun W=> ∃ L',Own w D W ([row aa 5 5 (List.flatMap (eN .u64) ([(Int.toNat (IntKind.u64.wrap b.cO)),b.aj,b.aR,b.aH,b.aZ])) 22 1,blk f (aX b u s h k p o) 31]++L')) (by kernel_rfl) (by kernel_rfl) (Cs CR) ⟨_,jh⟩ ?_
 revert jh
 generalize World.drew pu=qH
 intro jh
 refine GX.take (v:= .slice kT aH.length kU) (rs:= []) 0 rfl (by kernel_rfl) (fun _ _=>BX rfl) (GX.take (v:= .pointer (some ⟨f,5,none⟩)) (rs:= []) 1 rfl (by kernel_rfl) (fun _ _=>yk) (GX.take (v:= .slice u b.ai.ls.length s) (rs:= []) 2 rfl (by kernel_rfl) (fun _ ⟨_,H9⟩=>Cc rfl (bi.one Tryz.isAgg23 (Cv (H9.cls (i:=1) rfl) rfl))) (GX.take (v:= .pointer (some ⟨f,6,none⟩)) (rs:= []) 4 rfl (by kernel_rfl) (fun _ _=>yk) (GX.take (v:= .slice h b.az.ls.length k) (rs:= []) 5 rfl (by kernel_rfl) (fun _ ⟨_,H9⟩=>Cc rfl (bi.one Tryz.isAgg24 (Cv (H9.cls (i:=1) rfl) rfl))) (GX.take (v:= .int .i64 ((b.az.ls.length:Nat):Int)) (rs:= []) 6 rfl (by kernel_rfl) (fun _ _=>yk) (GX.take (v:= .int .u64 ((b.az.ls.length:Nat):Int)) (rs:= []) 7 rfl (by kernel_rfl) (fun _ _=>Ci (e:=IntKind.u64.wrap ((b.az.ls.length:Nat):Int)) yk (IntWalk.u64_in _ (by omega))) ?_))))))
 refine DJ 3 8 (by kernel_rfl) ?_ ?_
 have pE:=jh.pk [2,0,1]
 obtain⟨jc,kJ⟩:∃ q,lu aH b.ai.ls=q:=⟨_,rfl⟩
 obtain⟨qI,mY,mZ,ng,qw⟩:=Cg pE
 refine GY.do 3 rfl (by kernel_rfl) (Cq Tryz.call30 rfl (mJ _ _ kT aH.length kU aH u b.ai.ls.length s b.ai.ls jc mY rfl (by omega) (mZ _ fJ) rfl (by omega) (by first | omega | (simp only [List.length_cons,List.length_nil,List.length_append]; omega)) (by exact⟨hsm35.1,hsm35.2.1⟩) kJ) ?_)
 rintro _ qJ ⟨pF,pG,rfl,ni,kK⟩
 have nk:=ng _ _ ni
 have qx:=nk.rowC (i:=0) rfl
 replace kK:jc.length≤aH.length+10+32 *b.ai.ls.length:=kK
 have nu:=nk.pk [1,2,0]
 refine⟨.inr ⟨_,nu⟩, ?_⟩
 refine GX.do 8 rfl (by kernel_rfl) (De (cs:= [.int .u64 ((b.az.ls.length:Nat):Int)]) (t:=22) (sz:=1) (m:=1) nu rfl rfl (fun _=>by kernel_rfl) rfl (by decide) ?_)
 intro dG qK kV
 replace kV:=CG (y:=row dG 1 1 (List.flatMap (eN .u64) ([b.az.ls.length])) 22 1) rfl kV
 have jk:=kV.pk [1,2,0,3]
 refine⟨.inr ⟨_,jk⟩, ?_⟩
 have kW:=jk.pk [3,0,1,2]
 obtain⟨B,aI⟩:∃ q,dC jc ([b.az.ls.length])=q:=⟨_,rfl⟩
 obtain⟨pI,jl,ny,jm,jo⟩:=Cg kW
 refine GX.do 9 rfl (by kernel_rfl) (Cq Tryz.call29 rfl (eG _ _ pF jc.length pG jc dG 1 1 ([b.az.ls.length]) B jl rfl (by omega) (jo _ 2 _ rfl eH) rfl (by simp) (by first | omega | (simp only [List.length_cons,List.length_nil,List.length_append]; omega)) (by refine⟨EK rfl, ?_⟩; simp only [List.mem_cons,List.not_mem_nil,or_false,forall_eq_or_imp,forall_eq]; omega) aI) ?_)
 rintro _ nz ⟨dK,dL,rfl,fM,aJ⟩
 have dM:=jm _ _ fM
 have kX:=dM.rowC (i:=0) rfl
 replace aJ:B.length≤jc.length+0+10 *1:=aJ
 have aK:=dM.pk [1,2,0,3]
 refine⟨.inr ⟨_,aK⟩, ?_⟩
 refine GX.take (v:= .slice dK B.length dL) (rs:= []) 10 rfl (by kernel_rfl) (fun _ _=>CF rfl) (Cx (by kernel_rfl) (Ca (BS (sr (Kz (.pointer (some ⟨f,6,none⟩)) (Lz (.slice h b.az.ls.length k) aK 1 Tryz.isAgg24 (Kz (.int .i64 ((b.az.ls.length:Nat):Int)) (Mn rfl (bo ?_)))))))))
 have jq:=aK.pk [0,1,3,2]
 obtain⟨dN,fO⟩:∃ q:((Option Addr) × Nat × (List UInt8) × Nat)→World→Prop,q=fun(i:(Option Addr) × Nat × (List UInt8) × Nat) w'=>Own w D w' [row aa 5 5 (List.flatMap (eN .u64) ([(Int.toNat (IntKind.u64.wrap b.cO)),b.aj,b.aR,b.aH,b.aZ])) 22 1,blk f (aX b u s h k p o) 31,row dG 1 1 (List.flatMap (eN .u64) ([b.az.ls.length])) 22 1,row i.1 i.2.2.1.length i.2.1 (List.flatMap eB i.2.2.1) 5 1]∧(i.2.2.2≤b.az.ls.length∧((i.2.2.1.length:Nat):Int)≤((B.length:Nat):Int)+2800 *((i.2.2.2:Nat):Int)∧dQ b b.az.ls B=dQ b (List.drop i.2.2.2 b.az.ls) i.2.2.1):=⟨_,rfl⟩
 have aj:∀ {E:Option Addr} {F:Nat} {j:List UInt8} {g:Nat} {w':World},dN (E,F,j,g) w'↔Own w D w' [row aa 5 5 (List.flatMap (eN .u64) ([(Int.toNat (IntKind.u64.wrap b.cO)),b.aj,b.aR,b.aH,b.aZ])) 22 1,blk f (aX b u s h k p o) 31,row dG 1 1 (List.flatMap (eN .u64) ([b.az.ls.length])) 22 1,row E j.length F (List.flatMap eB j) 5 1]∧g≤b.az.ls.length∧((j.length:Nat):Int)≤((B.length:Nat):Int)+2800 *((g:Nat):Int)∧dQ b b.az.ls B=dQ b (List.drop g b.az.ls) j:=by intros; subst fO; exact Iff.rfl
 refine Wp.loop (fun i:(Option Addr) × Nat × (List UInt8) × Nat=> [(5, .slice i.1 i.2.2.1.length i.2.1),(42, .int .i64 ((i.2.2.2:Nat):Int)),(41, .int .i64 ((b.az.ls.length:Nat):Int)),(40, .slice h b.az.ls.length k),(3, .int .i64 0),(2, .slice none 0 0),(1, .pointer (some ⟨f,0,none⟩))]) dN (fun i=>b.az.ls.length - i.2.2.2) (dK,dL,B,0) ⟨rfl,rfl,rfl,rfl,rfl,rfl,rfl,trivial⟩ (aj.2 ⟨jq,by omega,by omega,rfl⟩) ?_
 rintro ⟨E,F,j,g⟩ nA fP
 show Wp _ _ _ [(5, .slice E j.length F),(42, .int .i64 ((g:Nat):Int)),(41, .int .i64 ((b.az.ls.length:Nat):Int)),(40, .slice h b.az.ls.length k),(3, .int .i64 0),(2, .slice none 0 0),(1, .pointer (some ⟨f,0,none⟩))] _ _
 obtain⟨P,kY,kZ,aN⟩:=aj.1 fP
 refine sr (Kz (.bool (decide (((g:Nat):Int) < ((b.az.ls.length:Nat):Int)))) (nt (BS ?_)))
 by_cases dO:((g:Nat):Int) < ((b.az.ls.length:Nat):Int)
 obtain⟨a,C⟩:=bU (ls:=dA) (i:=g) aM.len (by decide) (P.ro ai) (by first | omega | (simp; done) | (simp; omega))
 have aO:=jb dD C
 have lc:=(O _ (List.mem_of_getElem? C)).2
 have ak:(CE a).av≤18446744073709551615∧List.length (CE a).ay.ls≤24∧∀ q ∈ (CE a).ay.ls,q.aV.length≤12∧q.aC.length≤16∧q.aK.length≤12∧q.aO.length≤12:=hsm35.2.2.2.1 _ (List.mem_of_getElem? aO)
 have hz130p0:a.av≤18446744073709551615:=by have q9:=ak.1; first | exact q9 | (simp only [CE,List.length_map] at q9; exact q9)
 have hz130p1:a.ay.ls.length≤24:=by have q9:=ak.2.1; first | exact q9 | (simp only [CE,List.length_map] at q9; exact q9)
 have fT:=drop_at aO
 refine jT (dT dO) (sk (BS (bo (sr (fw (.pointer (some ⟨ab h,ao h+g *2,none⟩)) (Ch (pQ) rfl rfl ((P.ro ai).addr (i:=g) (by omega)) (by omega)) (fw (.agg (aM.cells a).toArray) (Cc rfl (Cu (cs:=(aM.cells a)) Tryz.isAgg66 Tryz.sizeOf66 ((P.ro ai).elem aM.len C (by decide)))) ?_))))))
 refine dB [.int .u64 0, .slice none 0 0] 66 P ?_
 intro r nC jr
 refine dw (aM.cells a) 0 jr Tryz.sizeOf66 ?_
 intro nD aP
 refine ns (Mz rfl (Kz (.pointer (some ⟨r,0,none⟩)) (Lz (.int .u64 ((a.av:Nat):Int)) aP 0 Tryz.isAgg22 (Kz (.pointer (some ⟨r,1,none⟩)) (Lz (.slice a.ay.A a.ay.ls.length a.ay.c) aP 0 Tryz.isAgg64 (Kz (.int .i64 ((a.ay.ls.length:Nat):Int)) (fw (.int .u64 ((a.ay.ls.length:Nat):Int)) (Ci (e:=IntKind.u64.wrap ((a.ay.ls.length:Nat):Int)) yk (IntWalk.u64_in _ (by omega))) ?_)))))))
 refine ji [.int .u64 ((a.av:Nat):Int), .int .u64 ((a.ay.ls.length:Nat):Int)] 22 1 2 aP ?_
 intro G nE aQ
 replace aQ:=CG (y:=row G 2 2 (List.flatMap (eN .u64) ([a.av,a.ay.ls.length])) 22 1) rfl aQ
 have jv:=aQ.pk [5,0,1,2,3,4]
 obtain⟨z,aR⟩:∃ q,dC j ([a.av,a.ay.ls.length])=q:=⟨_,rfl⟩
 obtain⟨nG,fU,lg,fV,fZ⟩:=Cg jv
 refine WL.do rfl (Cq Tryz.call29 rfl (eG _ _ E j.length F j G 2 2 ([a.av,a.ay.ls.length]) z fU rfl (by omega) (fZ _ 0 _ rfl eH) rfl (by simp) (by first | omega | (simp only [List.length_cons,List.length_nil,List.length_append]; omega)) (by refine⟨EK rfl, ?_⟩; simp only [List.mem_cons,List.not_mem_nil,or_false,forall_eq_or_imp,forall_eq]; omega) aR) ?_)
 rintro _ nH ⟨aS,aT,rfl,gm,aU⟩
 have aV:=fV _ _ gm
 have lh:=aV.rowC (i:=0) rfl
 replace aU:z.length≤j.length+0+10 *2:=aU
 refine Ar rfl (Kz (.pointer (some ⟨r,1,none⟩)) (Lz (.slice a.ay.A a.ay.ls.length a.ay.c) aV 2 Tryz.isAgg64 (Kz (.int .i64 ((a.ay.ls.length:Nat):Int)) (Mn rfl (bo ?_)))))
 have jw:=aV.pk [1,2,3,4,5,0]
 obtain⟨dR,gp⟩:∃ q:((Option Addr) × Nat × (List UInt8) × Nat)→World→Prop,q=fun(i:(Option Addr) × Nat × (List UInt8) × Nat) w'=>Own w D w' [row G 2 2 (List.flatMap (eN .u64) ([a.av,a.ay.ls.length])) 22 1,blk r (aM.cells a) 66,row aa 5 5 (List.flatMap (eN .u64) ([(Int.toNat (IntKind.u64.wrap b.cO)),b.aj,b.aR,b.aH,b.aZ])) 22 1,blk f (aX b u s h k p o) 31,row dG 1 1 (List.flatMap (eN .u64) ([b.az.ls.length])) 22 1,row i.1 i.2.2.1.length i.2.1 (List.flatMap eB i.2.2.1) 5 1]∧(i.2.2.2≤a.ay.ls.length∧((i.2.2.1.length:Nat):Int)≤((z.length:Nat):Int)+114 *((i.2.2.2:Nat):Int)∧dP a.ay.ls z=dP (List.drop i.2.2.2 a.ay.ls) i.2.2.1):=⟨_,rfl⟩
 have au:∀ {Q:Option Addr} {R:Nat} {n:List UInt8} {l:Nat} {w':World},dR (Q,R,n,l) w'↔Own w D w' [row G 2 2 (List.flatMap (eN .u64) ([a.av,a.ay.ls.length])) 22 1,blk r (aM.cells a) 66,row aa 5 5 (List.flatMap (eN .u64) ([(Int.toNat (IntKind.u64.wrap b.cO)),b.aj,b.aR,b.aH,b.aZ])) 22 1,blk f (aX b u s h k p o) 31,row dG 1 1 (List.flatMap (eN .u64) ([b.az.ls.length])) 22 1,row Q n.length R (List.flatMap eB n) 5 1]∧l≤a.ay.ls.length∧((n.length:Nat):Int)≤((z.length:Nat):Int)+114 *((l:Nat):Int)∧dP a.ay.ls z=dP (List.drop l a.ay.ls) n:=by intros; subst gp; exact Iff.rfl
 refine Wp.loop (fun i:(Option Addr) × Nat × (List UInt8) × Nat=> [(5, .slice i.1 i.2.2.1.length i.2.1),(58, .int .i64 ((i.2.2.2:Nat):Int)),(57, .int .i64 ((a.ay.ls.length:Nat):Int)),(56, .slice a.ay.A a.ay.ls.length a.ay.c),(55, .pointer (some ⟨r,1,none⟩)),(54, .slice aS z.length aT),(53, .slice G 2 2),(52, .int .u64 ((a.ay.ls.length:Nat):Int)),(51, .int .i64 ((a.ay.ls.length:Nat):Int)),(50, .slice a.ay.A a.ay.ls.length a.ay.c),(49, .pointer (some ⟨r,1,none⟩)),(48, .int .u64 ((a.av:Nat):Int)),(47, .pointer (some ⟨r,0,none⟩)),(46, .slice E j.length F),(7, .pointer (some ⟨r,0,none⟩)),(45, .agg (aM.cells a).toArray),(44, .pointer (some ⟨ab h,ao h+g *2,none⟩)),(43, .bool (decide (((g:Nat):Int) < ((b.az.ls.length:Nat):Int)))),(42, .int .i64 ((g:Nat):Int)),(41, .int .i64 ((b.az.ls.length:Nat):Int)),(40, .slice h b.az.ls.length k),(3, .int .i64 0),(2, .slice none 0 0),(1, .pointer (some ⟨f,0,none⟩))]) dR (fun i=>a.ay.ls.length - i.2.2.2) (aS,aT,z,0) ⟨rfl,rfl,rfl,rfl,rfl,rfl,rfl,rfl,rfl,rfl,rfl,rfl,rfl,rfl,rfl,rfl,rfl,rfl,rfl,rfl,rfl,rfl,rfl,rfl,trivial⟩ (au.2 ⟨jw,by omega,by omega,rfl⟩) ?_
 rintro ⟨Q,R,n,l⟩ nI gu
 show Wp _ _ _ [(5, .slice Q n.length R),(58, .int .i64 ((l:Nat):Int)),(57, .int .i64 ((a.ay.ls.length:Nat):Int)),(56, .slice a.ay.A a.ay.ls.length a.ay.c),(55, .pointer (some ⟨r,1,none⟩)),(54, .slice aS z.length aT),(53, .slice G 2 2),(52, .int .u64 ((a.ay.ls.length:Nat):Int)),(51, .int .i64 ((a.ay.ls.length:Nat):Int)),(50, .slice a.ay.A a.ay.ls.length a.ay.c),(49, .pointer (some ⟨r,1,none⟩)),(48, .int .u64 ((a.av:Nat):Int)),(47, .pointer (some ⟨r,0,none⟩)),(46, .slice E j.length F),(7, .pointer (some ⟨r,0,none⟩)),(45, .agg (aM.cells a).toArray),(44, .pointer (some ⟨ab h,ao h+g *2,none⟩)),(43, .bool (decide (((g:Nat):Int) < ((b.az.ls.length:Nat):Int)))),(42, .int .i64 ((g:Nat):Int)),(41, .int .i64 ((b.az.ls.length:Nat):Int)),(40, .slice h b.az.ls.length k),(3, .int .i64 0),(2, .slice none 0 0),(1, .pointer (some ⟨f,0,none⟩))] _ _
 obtain⟨af,ll,lm,aW⟩:=au.1 gu
 refine sr (Kz (.bool (decide (((l:Nat):Int) < ((a.ay.ls.length:Nat):Int)))) (nt (BS ?_)))
 by_cases dS:((l:Nat):Int) < ((a.ay.ls.length:Nat):Int)
 obtain⟨d,ax⟩:=bU (ls:=a.ay.ls) (i:=l) bq.len (by decide) (af.ro (O _ (List.mem_of_getElem? C)).1) (by first | omega | (simp; done) | (simp; omega))
 have lq:d.aV.length≤12∧d.aC.length≤16∧d.aK.length≤12∧d.aO.length≤12:=ak.2.2 _ (List.mem_of_getElem? ax)
 have gy:=drop_at ax
 refine jT (dT dS) (sk (BS (bo (sr (fw (.pointer (some ⟨ab a.ay.A,ao a.ay.A+l *6,none⟩)) (Ch (rF) rfl rfl ((af.ro (O _ (List.mem_of_getElem? C)).1).addr (i:=l) (by omega)) (by omega)) (fw (.agg (bq.cells d).toArray) (Cc rfl (Cu (cs:=(bq.cells d)) Tryz.isAgg74 Tryz.sizeOf74 ((af.ro (O _ (List.mem_of_getElem? C)).1).elem bq.len ax (by decide)))) ?_))))))
 refine dB [.int .i64 0, .string ⟨List.toArray ([])⟩, .string ⟨List.toArray ([])⟩, .string ⟨List.toArray ([])⟩, .string ⟨List.toArray ([])⟩, .int .i64 0] 74 af ?_
 intro I nJ jy
 refine dw (bq.cells d) 0 jy Tryz.sizeOf74 ?_
 intro nK dU
 refine ns (Mz rfl (Kz (.pointer (some ⟨I,0,none⟩)) (Lz (.int .i64 d.aI) dU 0 Tryz.isAgg3 ?_)))
 have lv:Int.toNat (IntKind.u64.wrap d.aI)≤18446744073709551615:=gW _
 refine fw (.int .u64 ((Int.toNat (IntKind.u64.wrap d.aI):Nat):Int)) (Ci (e:=IntKind.u64.wrap d.aI) yk (di _)) ?_
 refine ji [.int .u64 ((Int.toNat (IntKind.u64.wrap d.aI):Nat):Int)] 22 1 1 dU ?_
 intro aY nL aZ
 replace aZ:=CG (y:=row aY 1 1 (List.flatMap (eN .u64) ([(Int.toNat (IntKind.u64.wrap d.aI))])) 22 1) rfl aZ
 have jA:=aZ.pk [7,0,1,2,3,4,5,6]
 obtain⟨J,bf⟩:∃ q,dC n ([(Int.toNat (IntKind.u64.wrap d.aI))])=q:=⟨_,rfl⟩
 obtain⟨nM,gz,lw,gB,gD⟩:=Cg jA
 refine WL.do rfl (Cq Tryz.call29 rfl (eG _ _ Q n.length R n aY 1 1 ([(Int.toNat (IntKind.u64.wrap d.aI))]) J gz rfl (by omega) (gD _ 0 _ rfl eH) rfl (by simp) (by first | omega | (simp only [List.length_cons,List.length_nil,List.length_append]; omega)) (by refine⟨EK rfl, ?_⟩; simp only [List.mem_cons,List.not_mem_nil,or_false,forall_eq_or_imp,forall_eq]; omega) bf) ?_)
 rintro _ jB ⟨dV,dW,rfl,gF,bg⟩
 have dX:=gB _ _ gF
 have lC:=dX.rowC (i:=0) rfl
 replace bg:J.length≤n.length+0+10 *1:=bg
 refine An rfl (BS ?_)
 have jC:=dX.pk [1,2,3,4,5,6,7,0]
 have az:=jC.drew
 refine CP [] (fun W=> ∃ L',Own w D W ([row aY 1 1 (List.flatMap (eN .u64) ([(Int.toNat (IntKind.u64.wrap d.aI))])) 22 1,blk I (bq.cells d) 74,row G 2 2 (List.flatMap (eN .u64) ([a.av,a.ay.ls.length])) 22 1,blk r (aM.cells a) 66,row aa 5 5 (List.flatMap (eN .u64) ([(Int.toNat (IntKind.u64.wrap b.cO)),b.aj,b.aR,b.aH,b.aZ])) 22 1,blk f (aX b u s h k p o) 31,row dG 1 1 (List.flatMap (eN .u64) ([b.az.ls.length])) 22 1]++L')) (by kernel_rfl) (by kernel_rfl) (Cs (bP.block (Cs (Cs (bP.block (bP.block (Cs (Cs (bP.block (Cs CR)))))))))) ⟨_,az⟩ ?_
 revert az
 generalize World.drew jB=nN
 intro az
 refine GX.take (v:= .slice dV J.length dW) (rs:= []) 0 rfl (by kernel_rfl) (fun _ _=>BX rfl) (GX.take (v:= .pointer (some ⟨I,1,none⟩)) (rs:= []) 1 rfl (by kernel_rfl) (fun _ _=>yk) (GX.take (v:= .string ⟨List.toArray d.aV⟩) (rs:= []) 2 rfl (by kernel_rfl) (fun _ ⟨_,H9⟩=>Cc rfl (bi.one Tryz.isAgg9 (Cv (H9.cls (i:=1) rfl) rfl))) (GX.take (v:= .pointer (some ⟨I,2,none⟩)) (rs:= []) 4 rfl (by kernel_rfl) (fun _ _=>yk) (GX.take (v:= .string ⟨List.toArray d.aC⟩) (rs:= []) 5 rfl (by kernel_rfl) (fun _ ⟨_,H9⟩=>Cc rfl (bi.one Tryz.isAgg9 (Cv (H9.cls (i:=1) rfl) rfl))) (GX.take (v:= .pointer (some ⟨I,3,none⟩)) (rs:= []) 7 rfl (by kernel_rfl) (fun _ _=>yk) (GX.take (v:= .string ⟨List.toArray d.aK⟩) (rs:= []) 8 rfl (by kernel_rfl) (fun _ ⟨_,H9⟩=>Cc rfl (bi.one Tryz.isAgg9 (Cv (H9.cls (i:=1) rfl) rfl))) (GX.take (v:= .pointer (some ⟨I,4,none⟩)) (rs:= []) 10 rfl (by kernel_rfl) (fun _ _=>yk) (GX.take (v:= .string ⟨List.toArray d.aO⟩) (rs:= []) 11 rfl (by kernel_rfl) (fun _ ⟨_,H9⟩=>Cc rfl (bi.one Tryz.isAgg9 (Cv (H9.cls (i:=1) rfl) rfl))) ?_))))))))
 have jD:=az.pk [7,0,1,2,3,4,5,6]
 obtain⟨S,bn⟩:∃ q,eX J d.aV=q:=⟨_,rfl⟩
 obtain⟨nO,gG,lD,gH,lF⟩:=Cg jD
 refine GX.do 3 rfl (by kernel_rfl) (Cq Tryz.call31 rfl (gq _ _ dV J.length dW J d.aV S gG rfl (by omega) (by first | omega | (simp only [List.length_cons,List.length_nil,List.length_append]; omega)) bn) ?_)
 rintro _ nP ⟨jE,jG,rfl,gI,bu⟩
 have dY:=gH _ _ gI
 have lG:=dY.rowC (i:=0) rfl
 replace bu:S.length≤J.length+d.aV.length+10:=bu
 have dZ:=dY.pk [1,2,3,4,5,6,7,0]
 refine⟨.inr ⟨_,dZ⟩, ?_⟩
 have jH:=dZ.pk [7,0,1,2,3,4,5,6]
 obtain⟨T,bv⟩:∃ q,eX S d.aC=q:=⟨_,rfl⟩
 obtain⟨nQ,gJ,lH,gK,lI⟩:=Cg jH
 refine GX.do 6 rfl (by kernel_rfl) (Cq Tryz.call31 rfl (gq _ _ jE S.length jG S d.aC T gJ rfl (by omega) (by first | omega | (simp only [List.length_cons,List.length_nil,List.length_append]; omega)) bv) ?_)
 rintro _ nR ⟨jI,jJ,rfl,gL,bz⟩
 have d9:=gK _ _ gL
 have lJ:=d9.rowC (i:=0) rfl
 replace bz:T.length≤S.length+d.aC.length+10:=bz
 have ed:=d9.pk [1,2,3,4,5,6,7,0]
 refine⟨.inr ⟨_,ed⟩, ?_⟩
 have jK:=ed.pk [7,0,1,2,3,4,5,6]
 obtain⟨U,bA⟩:∃ q,eX T d.aK=q:=⟨_,rfl⟩
 obtain⟨nS,gM,lK,gN,lL⟩:=Cg jK
 refine GX.do 9 rfl (by kernel_rfl) (Cq Tryz.call31 rfl (gq _ _ jI T.length jJ T d.aK U gM rfl (by omega) (by first | omega | (simp only [List.length_cons,List.length_nil,List.length_append]; omega)) bA) ?_)
 rintro _ nT ⟨jL,jM,rfl,gP,bB⟩
 have ek:=gN _ _ gP
 have lM:=ek.rowC (i:=0) rfl
 replace bB:U.length≤T.length+d.aK.length+10:=bB
 have eu:=ek.pk [1,2,3,4,5,6,7,0]
 refine⟨.inr ⟨_,eu⟩, ?_⟩
 have jN:=eu.pk [7,0,1,2,3,4,5,6]
 obtain⟨K,bC⟩:∃ q,eX U d.aO=q:=⟨_,rfl⟩
 obtain⟨nV,gQ,lN,gT,lQ⟩:=Cg jN
 refine GX.do 12 rfl (by kernel_rfl) (Cq Tryz.call31 rfl (gq _ _ jL U.length jM U d.aO K gQ rfl (by omega) (by first | omega | (simp only [List.length_cons,List.length_nil,List.length_append]; omega)) bC) ?_)
 rintro _ nW ⟨eD,eF,rfl,gU,bD⟩
 have eO:=gT _ _ gU
 have lS:=eO.rowC (i:=0) rfl
 replace bD:K.length≤U.length+d.aO.length+10:=bD
 have bE:=eO.pk [1,2,3,4,5,6,7,0]
 refine⟨.inr ⟨_,bE⟩, ?_⟩
 refine GX.take (v:= .slice eD K.length eF) (rs:= []) 13 rfl (by kernel_rfl) (fun _ _=>CF rfl) (Cx (by kernel_rfl) (Ca (BR (Mz rfl (Kz (.pointer (some ⟨I,5,none⟩)) (Lz (.int .i64 d.bn) bE 1 Tryz.isAgg3 ?_))))))
 have lT:Int.toNat (IntKind.u64.wrap d.bn)≤18446744073709551615:=gW _
 refine fw (.int .u64 ((Int.toNat (IntKind.u64.wrap d.bn):Nat):Int)) (Ci (e:=IntKind.u64.wrap d.bn) yk (di _)) ?_
 refine ji [.int .u64 ((Int.toNat (IntKind.u64.wrap d.bn):Nat):Int)] 22 1 1 bE ?_
 intro eP nX bF
 replace bF:=CG (y:=row eP 1 1 (List.flatMap (eN .u64) ([(Int.toNat (IntKind.u64.wrap d.bn))])) 22 1) rfl bF
 have jO:=bF.pk [8,0,1,2,3,4,5,6,7]
 obtain⟨bH,bI⟩:∃ q,dC K ([(Int.toNat (IntKind.u64.wrap d.bn))])=q:=⟨_,rfl⟩
 obtain⟨nY,gV,lU,gX,gY⟩:=Cg jO
 refine WL.do rfl (Cq Tryz.call29 rfl (eG _ _ eD K.length eF K eP 1 1 ([(Int.toNat (IntKind.u64.wrap d.bn))]) bH gV rfl (by omega) (gY _ 0 _ rfl eH) rfl (by simp) (by first | omega | (simp only [List.length_cons,List.length_nil,List.length_append]; omega)) (by refine⟨EK rfl, ?_⟩; simp only [List.mem_cons,List.not_mem_nil,or_false,forall_eq_or_imp,forall_eq]; omega) bI) ?_)
 rintro _ nZ ⟨jP,jR,rfl,gZ,bJ⟩
 have eQ:=gX _ _ gZ
 have lV:=eQ.rowC (i:=0) rfl
 replace bJ:bH.length≤K.length+0+10 *1:=bJ
 refine Az rfl (Cf (bN (Ca (BR (fw (.int .i64 ((l+1:Nat):Int)) (Ci (e:=IntKind.i64.wrap (((l:Nat):Int)+1)) yk (by rw [EL _ (by omega)]; omega)) (Mz rfl (Cf ?_)))))))
 have jS:=eQ.pk [4,5,6,7,8,0]
 exact Cm (jP,jR,bH,l+1) ⟨rfl,rfl,rfl,rfl,rfl,rfl,rfl,rfl,rfl,rfl,rfl,rfl,rfl,rfl,rfl,rfl,rfl,rfl,rfl,rfl,rfl,rfl,rfl,rfl,trivial⟩ (au.2 ⟨jS,by omega,by omega,et (aW) (et (congrArg (fun q=>dP q n) gy) (et (ag bf) (et (ag bn) (et (ag bv) (et (ag bA) (et (ag bC) (ag bI)))))))⟩) (by show a.ay.ls.length - (l+1) < a.ay.ls.length - l; omega)
 refine jF (dF dS) (Wp.exit (Cb ?_))
 have ib:dP a.ay.ls z=n:=et (aW) (et (congrArg (fun q=>dP q n) (bM (ls:=a.ay.ls) (i:=l) (by omega))) rfl)
 refine Cb (Cn (bN (Ca (BR (fw (.int .i64 ((g+1:Nat):Int)) (Ci (e:=IntKind.i64.wrap (((g:Nat):Int)+1)) yk (by rw [EL _ (by omega)]; omega)) (Mz rfl (Cf ?_)))))))
 have jU:=af.pk [2,3,4,5]
 exact Cm (Q,R,n,g+1) ⟨rfl,rfl,rfl,rfl,rfl,rfl,rfl,trivial⟩ (aj.2 ⟨jU,by omega,by omega,et (aN) (et (congrArg (fun q=>dQ b q j) fT) (et (ag aR) (ag ib)))⟩) (by show b.az.ls.length - (g+1) < b.az.ls.length - g; omega)
 refine jF (dF dO) (Wp.exit (Cb ?_))
 have ic:dQ b b.az.ls B=j:=et (aN) (et (congrArg (fun q=>dQ b q j) (bM (ls:=b.az.ls) (i:=g) (by omega))) rfl)
 refine Cb (Cn (Ca (sr (Mz rfl (Kz (.pointer (some ⟨f,7,none⟩)) (Lz (.slice p b.ah.ls.length o) P 1 Tryz.isAgg25 (Kz (.int .i64 ((b.ah.ls.length:Nat):Int)) (fw (.int .u64 ((b.ah.ls.length:Nat):Int)) (Ci (e:=IntKind.u64.wrap ((b.ah.ls.length:Nat):Int)) yk (IntWalk.u64_in _ (by omega))) ?_))))))))
 refine ji [.int .u64 ((b.ah.ls.length:Nat):Int)] 22 1 1 P ?_
 intro aA og bK
 replace bK:=CG (y:=row aA 1 1 (List.flatMap (eN .u64) ([b.ah.ls.length])) 22 1) rfl bK
 have jV:=bK.pk [4,0,1,2,3]
 obtain⟨V,bL⟩:∃ q,dC j ([b.ah.ls.length])=q:=⟨_,rfl⟩
 obtain⟨oh,ig,lW,ik,il⟩:=Cg jV
 refine WL.do rfl (Cq Tryz.call29 rfl (eG _ _ E j.length F j aA 1 1 ([b.ah.ls.length]) V ig rfl (by omega) (il _ 0 _ rfl eH) rfl (by simp) (by first | omega | (simp only [List.length_cons,List.length_nil,List.length_append]; omega)) (by refine⟨EK rfl, ?_⟩; simp only [List.mem_cons,List.not_mem_nil,or_false,forall_eq_or_imp,forall_eq]; omega) bL) ?_)
 rintro _ ol ⟨jW,jX,rfl,iq,bO⟩
 have bR:=ik _ _ iq
 have lX:=bR.rowC (i:=0) rfl
 replace bO:V.length≤j.length+0+10 *1:=bO
 refine Ar rfl (Mz rfl (Kz (.pointer (some ⟨f,7,none⟩)) (Lz (.slice p b.ah.ls.length o) bR 3 Tryz.isAgg25 ?_)))
 obtain⟨X,bS⟩:∃ q,dC V b.ah.ls=q:=⟨_,rfl⟩
 obtain⟨om,iw,iy,iA,lY⟩:=Cg bR
 refine cl Tryz.call29 (eG _ _ jW V.length jX V p b.ah.ls.length o b.ah.ls X iw rfl (by omega) (iy _ fK) rfl (by omega) (by first | omega | (simp only [List.length_cons,List.length_nil,List.length_append]; omega)) (by exact⟨by omega,hsm35.2.2.2.2.2.1⟩) bS) ?_
 rintro _ oo ⟨jY,jZ,rfl,iB,bT⟩
 have aB:=iA _ _ iB
 have lZ:=aB.rowC (i:=0) rfl
 replace bT:X.length≤V.length+0+10 *b.ah.ls.length:=bT
 refine Ar rfl (Mz rfl (Kz (.pointer (some ⟨f,8,none⟩)) (Lz (.int .u64 ((b.iq:Nat):Int)) aB 3 Tryz.isAgg22 (Kz (.pointer (some ⟨f,9,none⟩)) (Lz (.int .u64 ((b.bS:Nat):Int)) aB 3 Tryz.isAgg22 ?_)))))
 refine ji [.int .u64 ((b.iq:Nat):Int), .int .u64 ((b.bS:Nat):Int)] 22 1 2 aB ?_
 intro aC oq bV
 replace bV:=CG (y:=row aC 2 2 (List.flatMap (eN .u64) ([b.iq,b.bS])) 22 1) rfl bV
 have j3:=bV.pk [1,0,2,3,4,5]
 obtain⟨L,bW⟩:∃ q,dC X ([b.iq,b.bS])=q:=⟨_,rfl⟩
 obtain⟨ou,iC,l5,iE,iF⟩:=Cg j3
 refine WL.do rfl (Cq Tryz.call29 rfl (eG _ _ jY X.length jZ X aC 2 2 ([b.iq,b.bS]) L iC rfl (by omega) (iF _ 0 _ rfl eH) rfl (by simp) (by first | omega | (simp only [List.length_cons,List.length_nil,List.length_append]; omega)) (by refine⟨EK rfl, ?_⟩; simp only [List.mem_cons,List.not_mem_nil,or_false,forall_eq_or_imp,forall_eq]; omega) bW) ?_)
 rintro _ j4 ⟨eT,eU,rfl,iG,bX⟩
 have eY:=iE _ _ iG
 have l6:=eY.rowC (i:=0) rfl
 replace bX:L.length≤X.length+0+10 *2:=bX
 refine An rfl (BS ?_)
 have j5:=eY.pk [1,2,3,4,5,0]
 have aD:=j5.drew
 refine CP [] (fun W=> ∃ L',Own w D W ([row aC 2 2 (List.flatMap (eN .u64) ([b.iq,b.bS])) 22 1,row aA 1 1 (List.flatMap (eN .u64) ([b.ah.ls.length])) 22 1,row aa 5 5 (List.flatMap (eN .u64) ([(Int.toNat (IntKind.u64.wrap b.cO)),b.aj,b.aR,b.aH,b.aZ])) 22 1,blk f (aX b u s h k p o) 31,row dG 1 1 (List.flatMap (eN .u64) ([b.az.ls.length])) 22 1]++L')) (by kernel_rfl) (by kernel_rfl) (Cs CR) ⟨_,aD⟩ ?_
 revert aD
 generalize World.drew j4=ow
 intro aD
 refine GX.take (v:= .slice eT L.length eU) (rs:= []) 0 rfl (by kernel_rfl) (fun _ _=>BX rfl) (GX.take (v:= .pointer (some ⟨f,10,none⟩)) (rs:= []) 1 rfl (by kernel_rfl) (fun _ _=>yk) (GX.take (v:= .pointer (some ⟨f,10,none⟩)) (rs:= []) 2 rfl (by kernel_rfl) (fun _ _=>yk) (GX.take (v:= .string ⟨List.toArray b.bf.aK⟩) (rs:= []) 3 rfl (by kernel_rfl) (fun _ ⟨_,H9⟩=>Cc rfl (bi.one Tryz.isAgg9 (Cv (H9.cls (i:=3) rfl) rfl))) (GX.take (v:= .pointer (some ⟨f,10,none⟩)) (rs:= []) 5 rfl (by kernel_rfl) (fun _ _=>yk) (GX.take (v:= .pointer (some ⟨f,11,none⟩)) (rs:= []) 6 rfl (by kernel_rfl) (fun _ _=>yk) (GX.take (v:= .string ⟨List.toArray b.bf.aO⟩) (rs:= []) 7 rfl (by kernel_rfl) (fun _ ⟨_,H9⟩=>Cc rfl (bi.one Tryz.isAgg9 (Cv (H9.cls (i:=3) rfl) rfl))) ?_))))))
 have j6:=aD.pk [5,0,1,2,3,4]
 obtain⟨Y,bY⟩:∃ q,eX L b.bf.aK=q:=⟨_,rfl⟩
 obtain⟨oz,iH,l7,iJ,l8⟩:=Cg j6
 refine GX.do 4 rfl (by kernel_rfl) (Cq Tryz.call31 rfl (gq _ _ eT L.length eU L b.bf.aK Y iH rfl (by omega) (by first | omega | (simp only [List.length_cons,List.length_nil,List.length_append]; omega)) bY) ?_)
 rintro _ oC ⟨kg,ko,rfl,iK,cu⟩
 have eZ:=iJ _ _ iK
 have l9:=eZ.rowC (i:=0) rfl
 replace cu:Y.length≤L.length+b.bf.aK.length+10:=cu
 have fe:=eZ.pk [1,2,3,4,5,0]
 refine⟨.inr ⟨_,fe⟩, ?_⟩
 have kr:=fe.pk [5,0,1,2,3,4]
 obtain⟨M,cz⟩:∃ q,eX Y b.bf.aO=q:=⟨_,rfl⟩
 obtain⟨oD,iL,ma,iM,mf⟩:=Cg kr
 refine GX.do 8 rfl (by kernel_rfl) (Cq Tryz.call31 rfl (gq _ _ kg Y.length ko Y b.bf.aO M iL rfl (by omega) (by first | omega | (simp only [List.length_cons,List.length_nil,List.length_append]; omega)) cz) ?_)
 rintro _ oF ⟨fo,fq,rfl,iO,cB⟩
 have fu:=iM _ _ iO
 have mg:=fu.rowC (i:=0) rfl
 replace cB:M.length≤Y.length+b.bf.aO.length+10:=cB
 have ah:=fu.pk [1,2,3,4,5,0]
 refine⟨.inr ⟨_,ah⟩, ?_⟩
 refine GX.take (v:= .slice fo M.length fq) (rs:= []) 9 rfl (by kernel_rfl) (fun _ _=>CF rfl) (Cx (by kernel_rfl) (Ca (sr (Mz rfl (Kz (.pointer (some ⟨f,12,none⟩)) (Kz (.pointer (some ⟨f,12,none⟩)) (Lz (.int .u64 ((b.aS.aZ:Nat):Int)) ah 3 Tryz.isAgg22 (Kz (.pointer (some ⟨f,12,none⟩)) (Kz (.pointer (some ⟨f,13,none⟩)) (Lz (.int .u64 ((b.aS.bB:Nat):Int)) ah 3 Tryz.isAgg22 (Kz (.pointer (some ⟨f,12,none⟩)) (Kz (.pointer (some ⟨f,14,none⟩)) (Lz (.int .u64 ((b.aS.cz:Nat):Int)) ah 3 Tryz.isAgg22 ?_)))))))))))))
 refine ji [.int .u64 ((b.aS.aZ:Nat):Int), .int .u64 ((b.aS.bB:Nat):Int), .int .u64 ((b.aS.cz:Nat):Int)] 22 1 3 ah ?_
 intro cK oG cO
 replace cO:=CG (y:=row cK 3 3 (List.flatMap (eN .u64) ([b.aS.aZ,b.aS.bB,b.aS.cz])) 22 1) rfl cO
 have ku:=cO.pk [6,0,1,2,3,4,5]
 obtain⟨N,cZ⟩:∃ q,dC M ([b.aS.aZ,b.aS.bB,b.aS.cz])=q:=⟨_,rfl⟩
 obtain⟨oH,iP,mh,iQ,iR⟩:=Cg ku
 refine WL.do rfl (Cq Tryz.call29 rfl (eG _ _ fo M.length fq M cK 3 3 ([b.aS.aZ,b.aS.bB,b.aS.cz]) N iP rfl (by omega) (iR _ 0 _ rfl eH) rfl (by simp) (by first | omega | (simp only [List.length_cons,List.length_nil,List.length_append]; omega)) (by refine⟨EK rfl, ?_⟩; simp only [List.mem_cons,List.not_mem_nil,or_false,forall_eq_or_imp,forall_eq]; omega) cZ) ?_)
 rintro _ kv ⟨fA,fB,rfl,iT,df⟩
 have fC:=iQ _ _ iT
 have mi:=fC.rowC (i:=0) rfl
 replace df:N.length≤M.length+0+10 *3:=df
 refine An rfl (BS ?_)
 have kw:=fC.pk [1,2,3,4,5,6,0]
 have aF:=kw.drew
 refine CP [] (fun W=> ∃ L',Own w D W ([row cK 3 3 (List.flatMap (eN .u64) ([b.aS.aZ,b.aS.bB,b.aS.cz])) 22 1,row aC 2 2 (List.flatMap (eN .u64) ([b.iq,b.bS])) 22 1,row aA 1 1 (List.flatMap (eN .u64) ([b.ah.ls.length])) 22 1,row aa 5 5 (List.flatMap (eN .u64) ([(Int.toNat (IntKind.u64.wrap b.cO)),b.aj,b.aR,b.aH,b.aZ])) 22 1,blk f (aX b u s h k p o) 31,row dG 1 1 (List.flatMap (eN .u64) ([b.az.ls.length])) 22 1]++L')) (by kernel_rfl) (by kernel_rfl) (Cs CR) ⟨_,aF⟩ ?_
 revert aF
 generalize World.drew kv=oI
 intro aF
 refine GX.take (v:= .slice fA N.length fB) (rs:= []) 0 rfl (by kernel_rfl) (fun _ _=>BX rfl) (GX.take (v:= .pointer (some ⟨f,12,none⟩)) (rs:= []) 1 rfl (by kernel_rfl) (fun _ _=>yk) (GX.take (v:= .pointer (some ⟨f,15,none⟩)) (rs:= []) 2 rfl (by kernel_rfl) (fun _ _=>yk) (GX.take (v:= .pointer (some ⟨f,15,none⟩)) (rs:= []) 3 rfl (by kernel_rfl) (fun _ _=>yk) (GX.take (v:= .string ⟨List.toArray b.aS.aP.aK⟩) (rs:= []) 4 rfl (by kernel_rfl) (fun _ ⟨_,H9⟩=>Cc rfl (bi.one Tryz.isAgg9 (Cv (H9.cls (i:=4) rfl) rfl))) (GX.take (v:= .pointer (some ⟨f,12,none⟩)) (rs:= []) 6 rfl (by kernel_rfl) (fun _ _=>yk) (GX.take (v:= .pointer (some ⟨f,15,none⟩)) (rs:= []) 7 rfl (by kernel_rfl) (fun _ _=>yk) (GX.take (v:= .pointer (some ⟨f,16,none⟩)) (rs:= []) 8 rfl (by kernel_rfl) (fun _ _=>yk) (GX.take (v:= .string ⟨List.toArray b.aS.aP.aO⟩) (rs:= []) 9 rfl (by kernel_rfl) (fun _ ⟨_,H9⟩=>Cc rfl (bi.one Tryz.isAgg9 (Cv (H9.cls (i:=4) rfl) rfl))) ?_))))))))
 have ky:=aF.pk [6,0,1,2,3,4,5]
 obtain⟨Z,dh⟩:∃ q,eX N b.aS.aP.aK=q:=⟨_,rfl⟩
 obtain⟨oJ,iU,mo,iV,mq⟩:=Cg ky
 refine GX.do 5 rfl (by kernel_rfl) (Cq Tryz.call31 rfl (gq _ _ fA N.length fB N b.aS.aP.aK Z iU rfl (by omega) (by first | omega | (simp only [List.length_cons,List.length_nil,List.length_append]; omega)) dh) ?_)
 rintro _ oK ⟨kz,kC,rfl,iW,dn⟩
 have fD:=iV _ _ iW
 have mr:=fD.rowC (i:=0) rfl
 replace dn:Z.length≤N.length+b.aS.aP.aK.length+10:=dn
 have fE:=fD.pk [1,2,3,4,5,6,0]
 refine⟨.inr ⟨_,fE⟩, ?_⟩
 have kD:=fE.pk [6,0,1,2,3,4,5]
 obtain⟨aG,dx⟩:∃ q,eX Z b.aS.aP.aO=q:=⟨_,rfl⟩
 obtain⟨oL,iX,mD,iY,mE⟩:=Cg kD
 refine GX.do 10 rfl (by kernel_rfl) (Cq Tryz.call31 rfl (gq _ _ kz Z.length kC Z b.aS.aP.aO aG iX rfl (by omega) (by first | omega | (simp only [List.length_cons,List.length_nil,List.length_append]; omega)) dx) ?_)
 rintro _ oM ⟨fF,fG,rfl,iZ,dz⟩
 have fH:=iY _ _ iZ
 have mF:=fH.rowC (i:=0) rfl
 replace dz:aG.length≤Z.length+b.aS.aP.aO.length+10:=dz
 have fI:=fH.pk [1,2,3,4,5,6,0]
 refine⟨.inr ⟨_,fI⟩, ?_⟩
 refine GX.take (v:= .slice fF aG.length fG) (rs:= []) 11 rfl (by kernel_rfl) (fun _ _=>CF rfl) (GX.take (v:= .int .i64 0) (rs:= []) 12 rfl (by kernel_rfl) (fun _ _=>CF rfl) (Cx (by kernel_rfl) (Ca (rt (CK (oV rfl rfl rfl) ?_)))))
 have kE:=fI.pk [6]
 have e:jQ b=(aG,0):=et (ag dI) (et (ip jf) (et (ag jg) (et (ag kJ) (et (ag aI) (et (ag ic) (et (ag bL) (et (ag bS) (et (ag bW) (et (ag bY) (et (ag cz) (et (ag cZ) (et (ag dh) (ag dx)))))))))))))
 obtain⟨rfl,rfl⟩:=iI (e.symm.trans hr)
 exact⟨fF,fG,rfl,kE,(by first | omega | exact EM _)⟩
 refine GY.do 8 rfl (by kernel_rfl) (De (cs:= [.int .u64 ((b.az.ls.length:Nat):Int)]) (t:=22) (sz:=1) (m:=1) jh rfl rfl (fun _=>by kernel_rfl) rfl (by decide) ?_)
 intro dH qL mG
 replace mG:=CG (y:=row dH 1 1 (List.flatMap (eN .u64) ([b.az.ls.length])) 22 1) rfl mG
 have oN:=mG.pk [1,2,0,3]
 refine⟨.inr ⟨_,oN⟩, ?_⟩
 have pJ:=oN.pk [3,0,1,2]
 obtain⟨jd,kL⟩:∃ q,lu aH b.ai.ls=q:=⟨_,rfl⟩
 obtain⟨qM,oO,oP,oQ,qy⟩:=Cg pJ
 refine GX.do 3 rfl (by kernel_rfl) (Cq Tryz.call30 rfl (mJ _ _ kT aH.length kU aH u b.ai.ls.length s b.ai.ls jd oO rfl (by omega) (oP _ fJ) rfl (by omega) (by first | omega | (simp only [List.length_cons,List.length_nil,List.length_append]; omega)) (by exact⟨hsm35.1,hsm35.2.1⟩) kL) ?_)
 rintro _ qN ⟨pK,pM,rfl,oU,kM⟩
 have oW:=oQ _ _ oU
 have qz:=oW.rowC (i:=0) rfl
 replace kM:jd.length≤aH.length+10+32 *b.ai.ls.length:=kM
 have jk:=oW.pk [1,2,0,3]
 refine⟨.inr ⟨_,jk⟩, ?_⟩
 have kW:=jk.pk [2,0,1,3]
 obtain⟨B,aI⟩:∃ q,dC jd ([b.az.ls.length])=q:=⟨_,rfl⟩
 obtain⟨pI,jl,ny,jm,jo⟩:=Cg kW
 refine GX.do 9 rfl (by kernel_rfl) (Cq Tryz.call29 rfl (eG _ _ pK jd.length pM jd dH 1 1 ([b.az.ls.length]) B jl rfl (by omega) (jo _ 2 _ rfl eH) rfl (by simp) (by first | omega | (simp only [List.length_cons,List.length_nil,List.length_append]; omega)) (by refine⟨EK rfl, ?_⟩; simp only [List.mem_cons,List.not_mem_nil,or_false,forall_eq_or_imp,forall_eq]; omega) aI) ?_)
 rintro _ nz ⟨dK,dL,rfl,fM,aJ⟩
 have dM:=jm _ _ fM
 have kX:=dM.rowC (i:=0) rfl
 replace aJ:B.length≤jd.length+0+10 *1:=aJ
 have aK:=dM.pk [1,2,0,3]
 refine⟨.inr ⟨_,aK⟩, ?_⟩
 refine GX.take (v:= .slice dK B.length dL) (rs:= []) 10 rfl (by kernel_rfl) (fun _ _=>CF rfl) (Cx (by kernel_rfl) (Ca (BS (sr (Kz (.pointer (some ⟨f,6,none⟩)) (Lz (.slice h b.az.ls.length k) aK 1 Tryz.isAgg24 (Kz (.int .i64 ((b.az.ls.length:Nat):Int)) (Mn rfl (bo ?_)))))))))
 have jq:=aK.pk [0,1,3,2]
 obtain⟨dN,fO⟩:∃ q:((Option Addr) × Nat × (List UInt8) × Nat)→World→Prop,q=fun(i:(Option Addr) × Nat × (List UInt8) × Nat) w'=>Own w D w' [row aa 5 5 (List.flatMap (eN .u64) ([(Int.toNat (IntKind.u64.wrap b.cO)),b.aj,b.aR,b.aH,b.aZ])) 22 1,blk f (aX b u s h k p o) 31,row dH 1 1 (List.flatMap (eN .u64) ([b.az.ls.length])) 22 1,row i.1 i.2.2.1.length i.2.1 (List.flatMap eB i.2.2.1) 5 1]∧(i.2.2.2≤b.az.ls.length∧((i.2.2.1.length:Nat):Int)≤((B.length:Nat):Int)+2800 *((i.2.2.2:Nat):Int)∧dQ b b.az.ls B=dQ b (List.drop i.2.2.2 b.az.ls) i.2.2.1):=⟨_,rfl⟩
 have aj:∀ {E:Option Addr} {F:Nat} {j:List UInt8} {g:Nat} {w':World},dN (E,F,j,g) w'↔Own w D w' [row aa 5 5 (List.flatMap (eN .u64) ([(Int.toNat (IntKind.u64.wrap b.cO)),b.aj,b.aR,b.aH,b.aZ])) 22 1,blk f (aX b u s h k p o) 31,row dH 1 1 (List.flatMap (eN .u64) ([b.az.ls.length])) 22 1,row E j.length F (List.flatMap eB j) 5 1]∧g≤b.az.ls.length∧((j.length:Nat):Int)≤((B.length:Nat):Int)+2800 *((g:Nat):Int)∧dQ b b.az.ls B=dQ b (List.drop g b.az.ls) j:=by intros; subst fO; exact Iff.rfl
 refine Wp.loop (fun i:(Option Addr) × Nat × (List UInt8) × Nat=> [(5, .slice i.1 i.2.2.1.length i.2.1),(42, .int .i64 ((i.2.2.2:Nat):Int)),(41, .int .i64 ((b.az.ls.length:Nat):Int)),(40, .slice h b.az.ls.length k),(3, .int .i64 0),(2, .slice none 0 0),(1, .pointer (some ⟨f,0,none⟩))]) dN (fun i=>b.az.ls.length - i.2.2.2) (dK,dL,B,0) ⟨rfl,rfl,rfl,rfl,rfl,rfl,rfl,trivial⟩ (aj.2 ⟨jq,by omega,by omega,rfl⟩) ?_
 rintro ⟨E,F,j,g⟩ nA fP
 show Wp _ _ _ [(5, .slice E j.length F),(42, .int .i64 ((g:Nat):Int)),(41, .int .i64 ((b.az.ls.length:Nat):Int)),(40, .slice h b.az.ls.length k),(3, .int .i64 0),(2, .slice none 0 0),(1, .pointer (some ⟨f,0,none⟩))] _ _
 obtain⟨P,kY,kZ,aN⟩:=aj.1 fP
 refine sr (Kz (.bool (decide (((g:Nat):Int) < ((b.az.ls.length:Nat):Int)))) (nt (BS ?_)))
 by_cases dO:((g:Nat):Int) < ((b.az.ls.length:Nat):Int)
 obtain⟨a,C⟩:=bU (ls:=dA) (i:=g) aM.len (by decide) (P.ro ai) (by first | omega | (simp; done) | (simp; omega))
 have aO:=jb dD C
 have lc:=(O _ (List.mem_of_getElem? C)).2
 have ak:(CE a).av≤18446744073709551615∧List.length (CE a).ay.ls≤24∧∀ q ∈ (CE a).ay.ls,q.aV.length≤12∧q.aC.length≤16∧q.aK.length≤12∧q.aO.length≤12:=hsm35.2.2.2.1 _ (List.mem_of_getElem? aO)
 have hz130p0:a.av≤18446744073709551615:=by have q9:=ak.1; first | exact q9 | (simp only [CE,List.length_map] at q9; exact q9)
 have hz130p1:a.ay.ls.length≤24:=by have q9:=ak.2.1; first | exact q9 | (simp only [CE,List.length_map] at q9; exact q9)
 have fT:=drop_at aO
 refine jT (dT dO) (sk (BS (bo (sr (fw (.pointer (some ⟨ab h,ao h+g *2,none⟩)) (Ch (pQ) rfl rfl ((P.ro ai).addr (i:=g) (by omega)) (by omega)) (fw (.agg (aM.cells a).toArray) (Cc rfl (Cu (cs:=(aM.cells a)) Tryz.isAgg66 Tryz.sizeOf66 ((P.ro ai).elem aM.len C (by decide)))) ?_))))))
 refine dB [.int .u64 0, .slice none 0 0] 66 P ?_
 intro r nC jr
 refine dw (aM.cells a) 0 jr Tryz.sizeOf66 ?_
 intro nD aP
 refine ns (Mz rfl (Kz (.pointer (some ⟨r,0,none⟩)) (Lz (.int .u64 ((a.av:Nat):Int)) aP 0 Tryz.isAgg22 (Kz (.pointer (some ⟨r,1,none⟩)) (Lz (.slice a.ay.A a.ay.ls.length a.ay.c) aP 0 Tryz.isAgg64 (Kz (.int .i64 ((a.ay.ls.length:Nat):Int)) (fw (.int .u64 ((a.ay.ls.length:Nat):Int)) (Ci (e:=IntKind.u64.wrap ((a.ay.ls.length:Nat):Int)) yk (IntWalk.u64_in _ (by omega))) ?_)))))))
 refine ji [.int .u64 ((a.av:Nat):Int), .int .u64 ((a.ay.ls.length:Nat):Int)] 22 1 2 aP ?_
 intro G nE aQ
 replace aQ:=CG (y:=row G 2 2 (List.flatMap (eN .u64) ([a.av,a.ay.ls.length])) 22 1) rfl aQ
 have jv:=aQ.pk [5,0,1,2,3,4]
 obtain⟨z,aR⟩:∃ q,dC j ([a.av,a.ay.ls.length])=q:=⟨_,rfl⟩
 obtain⟨nG,fU,lg,fV,fZ⟩:=Cg jv
 refine WL.do rfl (Cq Tryz.call29 rfl (eG _ _ E j.length F j G 2 2 ([a.av,a.ay.ls.length]) z fU rfl (by omega) (fZ _ 0 _ rfl eH) rfl (by simp) (by first | omega | (simp only [List.length_cons,List.length_nil,List.length_append]; omega)) (by refine⟨EK rfl, ?_⟩; simp only [List.mem_cons,List.not_mem_nil,or_false,forall_eq_or_imp,forall_eq]; omega) aR) ?_)
 rintro _ nH ⟨aS,aT,rfl,gm,aU⟩
 have aV:=fV _ _ gm
 have lh:=aV.rowC (i:=0) rfl
 replace aU:z.length≤j.length+0+10 *2:=aU
 refine Ar rfl (Kz (.pointer (some ⟨r,1,none⟩)) (Lz (.slice a.ay.A a.ay.ls.length a.ay.c) aV 2 Tryz.isAgg64 (Kz (.int .i64 ((a.ay.ls.length:Nat):Int)) (Mn rfl (bo ?_)))))
 have jw:=aV.pk [1,2,3,4,5,0]
 obtain⟨dR,gp⟩:∃ q:((Option Addr) × Nat × (List UInt8) × Nat)→World→Prop,q=fun(i:(Option Addr) × Nat × (List UInt8) × Nat) w'=>Own w D w' [row G 2 2 (List.flatMap (eN .u64) ([a.av,a.ay.ls.length])) 22 1,blk r (aM.cells a) 66,row aa 5 5 (List.flatMap (eN .u64) ([(Int.toNat (IntKind.u64.wrap b.cO)),b.aj,b.aR,b.aH,b.aZ])) 22 1,blk f (aX b u s h k p o) 31,row dH 1 1 (List.flatMap (eN .u64) ([b.az.ls.length])) 22 1,row i.1 i.2.2.1.length i.2.1 (List.flatMap eB i.2.2.1) 5 1]∧(i.2.2.2≤a.ay.ls.length∧((i.2.2.1.length:Nat):Int)≤((z.length:Nat):Int)+114 *((i.2.2.2:Nat):Int)∧dP a.ay.ls z=dP (List.drop i.2.2.2 a.ay.ls) i.2.2.1):=⟨_,rfl⟩
 have au:∀ {Q:Option Addr} {R:Nat} {n:List UInt8} {l:Nat} {w':World},dR (Q,R,n,l) w'↔Own w D w' [row G 2 2 (List.flatMap (eN .u64) ([a.av,a.ay.ls.length])) 22 1,blk r (aM.cells a) 66,row aa 5 5 (List.flatMap (eN .u64) ([(Int.toNat (IntKind.u64.wrap b.cO)),b.aj,b.aR,b.aH,b.aZ])) 22 1,blk f (aX b u s h k p o) 31,row dH 1 1 (List.flatMap (eN .u64) ([b.az.ls.length])) 22 1,row Q n.length R (List.flatMap eB n) 5 1]∧l≤a.ay.ls.length∧((n.length:Nat):Int)≤((z.length:Nat):Int)+114 *((l:Nat):Int)∧dP a.ay.ls z=dP (List.drop l a.ay.ls) n:=by intros; subst gp; exact Iff.rfl
 refine Wp.loop (fun i:(Option Addr) × Nat × (List UInt8) × Nat=> [(5, .slice i.1 i.2.2.1.length i.2.1),(58, .int .i64 ((i.2.2.2:Nat):Int)),(57, .int .i64 ((a.ay.ls.length:Nat):Int)),(56, .slice a.ay.A a.ay.ls.length a.ay.c),(55, .pointer (some ⟨r,1,none⟩)),(54, .slice aS z.length aT),(53, .slice G 2 2),(52, .int .u64 ((a.ay.ls.length:Nat):Int)),(51, .int .i64 ((a.ay.ls.length:Nat):Int)),(50, .slice a.ay.A a.ay.ls.length a.ay.c),(49, .pointer (some ⟨r,1,none⟩)),(48, .int .u64 ((a.av:Nat):Int)),(47, .pointer (some ⟨r,0,none⟩)),(46, .slice E j.length F),(7, .pointer (some ⟨r,0,none⟩)),(45, .agg (aM.cells a).toArray),(44, .pointer (some ⟨ab h,ao h+g *2,none⟩)),(43, .bool (decide (((g:Nat):Int) < ((b.az.ls.length:Nat):Int)))),(42, .int .i64 ((g:Nat):Int)),(41, .int .i64 ((b.az.ls.length:Nat):Int)),(40, .slice h b.az.ls.length k),(3, .int .i64 0),(2, .slice none 0 0),(1, .pointer (some ⟨f,0,none⟩))]) dR (fun i=>a.ay.ls.length - i.2.2.2) (aS,aT,z,0) ⟨rfl,rfl,rfl,rfl,rfl,rfl,rfl,rfl,rfl,rfl,rfl,rfl,rfl,rfl,rfl,rfl,rfl,rfl,rfl,rfl,rfl,rfl,rfl,rfl,trivial⟩ (au.2 ⟨jw,by omega,by omega,rfl⟩) ?_
 rintro ⟨Q,R,n,l⟩ nI gu
 show Wp _ _ _ [(5, .slice Q n.length R),(58, .int .i64 ((l:Nat):Int)),(57, .int .i64 ((a.ay.ls.length:Nat):Int)),(56, .slice a.ay.A a.ay.ls.length a.ay.c),(55, .pointer (some ⟨r,1,none⟩)),(54, .slice aS z.length aT),(53, .slice G 2 2),(52, .int .u64 ((a.ay.ls.length:Nat):Int)),(51, .int .i64 ((a.ay.ls.length:Nat):Int)),(50, .slice a.ay.A a.ay.ls.length a.ay.c),(49, .pointer (some ⟨r,1,none⟩)),(48, .int .u64 ((a.av:Nat):Int)),(47, .pointer (some ⟨r,0,none⟩)),(46, .slice E j.length F),(7, .pointer (some ⟨r,0,none⟩)),(45, .agg (aM.cells a).toArray),(44, .pointer (some ⟨ab h,ao h+g *2,none⟩)),(43, .bool (decide (((g:Nat):Int) < ((b.az.ls.length:Nat):Int)))),(42, .int .i64 ((g:Nat):Int)),(41, .int .i64 ((b.az.ls.length:Nat):Int)),(40, .slice h b.az.ls.length k),(3, .int .i64 0),(2, .slice none 0 0),(1, .pointer (some ⟨f,0,none⟩))] _ _
 obtain⟨af,ll,lm,aW⟩:=au.1 gu
 refine sr (Kz (.bool (decide (((l:Nat):Int) < ((a.ay.ls.length:Nat):Int)))) (nt (BS ?_)))
 by_cases dS:((l:Nat):Int) < ((a.ay.ls.length:Nat):Int)
 obtain⟨d,ax⟩:=bU (ls:=a.ay.ls) (i:=l) bq.len (by decide) (af.ro (O _ (List.mem_of_getElem? C)).1) (by first | omega | (simp; done) | (simp; omega))
 have lq:d.aV.length≤12∧d.aC.length≤16∧d.aK.length≤12∧d.aO.length≤12:=ak.2.2 _ (List.mem_of_getElem? ax)
 have gy:=drop_at ax
 refine jT (dT dS) (sk (BS (bo (sr (fw (.pointer (some ⟨ab a.ay.A,ao a.ay.A+l *6,none⟩)) (Ch (rF) rfl rfl ((af.ro (O _ (List.mem_of_getElem? C)).1).addr (i:=l) (by omega)) (by omega)) (fw (.agg (bq.cells d).toArray) (Cc rfl (Cu (cs:=(bq.cells d)) Tryz.isAgg74 Tryz.sizeOf74 ((af.ro (O _ (List.mem_of_getElem? C)).1).elem bq.len ax (by decide)))) ?_))))))
 refine dB [.int .i64 0, .string ⟨List.toArray ([])⟩, .string ⟨List.toArray ([])⟩, .string ⟨List.toArray ([])⟩, .string ⟨List.toArray ([])⟩, .int .i64 0] 74 af ?_
 intro I nJ jy
 refine dw (bq.cells d) 0 jy Tryz.sizeOf74 ?_
 intro nK dU
 refine ns (Mz rfl (Kz (.pointer (some ⟨I,0,none⟩)) (Lz (.int .i64 d.aI) dU 0 Tryz.isAgg3 ?_)))
 have lv:Int.toNat (IntKind.u64.wrap d.aI)≤18446744073709551615:=gW _
 refine fw (.int .u64 ((Int.toNat (IntKind.u64.wrap d.aI):Nat):Int)) (Ci (e:=IntKind.u64.wrap d.aI) yk (di _)) ?_
 refine ji [.int .u64 ((Int.toNat (IntKind.u64.wrap d.aI):Nat):Int)] 22 1 1 dU ?_
 intro aY nL aZ
 replace aZ:=CG (y:=row aY 1 1 (List.flatMap (eN .u64) ([(Int.toNat (IntKind.u64.wrap d.aI))])) 22 1) rfl aZ
 have jA:=aZ.pk [7,0,1,2,3,4,5,6]
 obtain⟨J,bf⟩:∃ q,dC n ([(Int.toNat (IntKind.u64.wrap d.aI))])=q:=⟨_,rfl⟩
 obtain⟨nM,gz,lw,gB,gD⟩:=Cg jA
 refine WL.do rfl (Cq Tryz.call29 rfl (eG _ _ Q n.length R n aY 1 1 ([(Int.toNat (IntKind.u64.wrap d.aI))]) J gz rfl (by omega) (gD _ 0 _ rfl eH) rfl (by simp) (by first | omega | (simp only [List.length_cons,List.length_nil,List.length_append]; omega)) (by refine⟨EK rfl, ?_⟩; simp only [List.mem_cons,List.not_mem_nil,or_false,forall_eq_or_imp,forall_eq]; omega) bf) ?_)
 rintro _ jB ⟨dV,dW,rfl,gF,bg⟩
 have dX:=gB _ _ gF
 have lC:=dX.rowC (i:=0) rfl
 replace bg:J.length≤n.length+0+10 *1:=bg
 refine An rfl (BS ?_)
 have jC:=dX.pk [1,2,3,4,5,6,7,0]
 have az:=jC.drew
 refine CP [] (fun W=> ∃ L',Own w D W ([row aY 1 1 (List.flatMap (eN .u64) ([(Int.toNat (IntKind.u64.wrap d.aI))])) 22 1,blk I (bq.cells d) 74,row G 2 2 (List.flatMap (eN .u64) ([a.av,a.ay.ls.length])) 22 1,blk r (aM.cells a) 66,row aa 5 5 (List.flatMap (eN .u64) ([(Int.toNat (IntKind.u64.wrap b.cO)),b.aj,b.aR,b.aH,b.aZ])) 22 1,blk f (aX b u s h k p o) 31,row dH 1 1 (List.flatMap (eN .u64) ([b.az.ls.length])) 22 1]++L')) (by kernel_rfl) (by kernel_rfl) (Cs (bP.block (Cs (Cs (bP.block (bP.block (Cs (Cs (bP.block (Cs CR)))))))))) ⟨_,az⟩ ?_
 revert az
 generalize World.drew jB=nN
 intro az
 refine GX.take (v:= .slice dV J.length dW) (rs:= []) 0 rfl (by kernel_rfl) (fun _ _=>BX rfl) (GX.take (v:= .pointer (some ⟨I,1,none⟩)) (rs:= []) 1 rfl (by kernel_rfl) (fun _ _=>yk) (GX.take (v:= .string ⟨List.toArray d.aV⟩) (rs:= []) 2 rfl (by kernel_rfl) (fun _ ⟨_,H9⟩=>Cc rfl (bi.one Tryz.isAgg9 (Cv (H9.cls (i:=1) rfl) rfl))) (GX.take (v:= .pointer (some ⟨I,2,none⟩)) (rs:= []) 4 rfl (by kernel_rfl) (fun _ _=>yk) (GX.take (v:= .string ⟨List.toArray d.aC⟩) (rs:= []) 5 rfl (by kernel_rfl) (fun _ ⟨_,H9⟩=>Cc rfl (bi.one Tryz.isAgg9 (Cv (H9.cls (i:=1) rfl) rfl))) (GX.take (v:= .pointer (some ⟨I,3,none⟩)) (rs:= []) 7 rfl (by kernel_rfl) (fun _ _=>yk) (GX.take (v:= .string ⟨List.toArray d.aK⟩) (rs:= []) 8 rfl (by kernel_rfl) (fun _ ⟨_,H9⟩=>Cc rfl (bi.one Tryz.isAgg9 (Cv (H9.cls (i:=1) rfl) rfl))) (GX.take (v:= .pointer (some ⟨I,4,none⟩)) (rs:= []) 10 rfl (by kernel_rfl) (fun _ _=>yk) (GX.take (v:= .string ⟨List.toArray d.aO⟩) (rs:= []) 11 rfl (by kernel_rfl) (fun _ ⟨_,H9⟩=>Cc rfl (bi.one Tryz.isAgg9 (Cv (H9.cls (i:=1) rfl) rfl))) ?_))))))))
 have jD:=az.pk [7,0,1,2,3,4,5,6]
 obtain⟨S,bn⟩:∃ q,eX J d.aV=q:=⟨_,rfl⟩
 obtain⟨nO,gG,lD,gH,lF⟩:=Cg jD
 refine GX.do 3 rfl (by kernel_rfl) (Cq Tryz.call31 rfl (gq _ _ dV J.length dW J d.aV S gG rfl (by omega) (by first | omega | (simp only [List.length_cons,List.length_nil,List.length_append]; omega)) bn) ?_)
 rintro _ nP ⟨jE,jG,rfl,gI,bu⟩
 have dY:=gH _ _ gI
 have lG:=dY.rowC (i:=0) rfl
 replace bu:S.length≤J.length+d.aV.length+10:=bu
 have dZ:=dY.pk [1,2,3,4,5,6,7,0]
 refine⟨.inr ⟨_,dZ⟩, ?_⟩
 have jH:=dZ.pk [7,0,1,2,3,4,5,6]
 obtain⟨T,bv⟩:∃ q,eX S d.aC=q:=⟨_,rfl⟩
 obtain⟨nQ,gJ,lH,gK,lI⟩:=Cg jH
 refine GX.do 6 rfl (by kernel_rfl) (Cq Tryz.call31 rfl (gq _ _ jE S.length jG S d.aC T gJ rfl (by omega) (by first | omega | (simp only [List.length_cons,List.length_nil,List.length_append]; omega)) bv) ?_)
 rintro _ nR ⟨jI,jJ,rfl,gL,bz⟩
 have d9:=gK _ _ gL
 have lJ:=d9.rowC (i:=0) rfl
 replace bz:T.length≤S.length+d.aC.length+10:=bz
 have ed:=d9.pk [1,2,3,4,5,6,7,0]
 refine⟨.inr ⟨_,ed⟩, ?_⟩
 have jK:=ed.pk [7,0,1,2,3,4,5,6]
 obtain⟨U,bA⟩:∃ q,eX T d.aK=q:=⟨_,rfl⟩
 obtain⟨nS,gM,lK,gN,lL⟩:=Cg jK
 refine GX.do 9 rfl (by kernel_rfl) (Cq Tryz.call31 rfl (gq _ _ jI T.length jJ T d.aK U gM rfl (by omega) (by first | omega | (simp only [List.length_cons,List.length_nil,List.length_append]; omega)) bA) ?_)
 rintro _ nT ⟨jL,jM,rfl,gP,bB⟩
 have ek:=gN _ _ gP
 have lM:=ek.rowC (i:=0) rfl
 replace bB:U.length≤T.length+d.aK.length+10:=bB
 have eu:=ek.pk [1,2,3,4,5,6,7,0]
 refine⟨.inr ⟨_,eu⟩, ?_⟩
 have jN:=eu.pk [7,0,1,2,3,4,5,6]
 obtain⟨K,bC⟩:∃ q,eX U d.aO=q:=⟨_,rfl⟩
 obtain⟨nV,gQ,lN,gT,lQ⟩:=Cg jN
 refine GX.do 12 rfl (by kernel_rfl) (Cq Tryz.call31 rfl (gq _ _ jL U.length jM U d.aO K gQ rfl (by omega) (by first | omega | (simp only [List.length_cons,List.length_nil,List.length_append]; omega)) bC) ?_)
 rintro _ nW ⟨eD,eF,rfl,gU,bD⟩
 have eO:=gT _ _ gU
 have lS:=eO.rowC (i:=0) rfl
 replace bD:K.length≤U.length+d.aO.length+10:=bD
 have bE:=eO.pk [1,2,3,4,5,6,7,0]
 refine⟨.inr ⟨_,bE⟩, ?_⟩
 refine GX.take (v:= .slice eD K.length eF) (rs:= []) 13 rfl (by kernel_rfl) (fun _ _=>CF rfl) (Cx (by kernel_rfl) (Ca (BR (Mz rfl (Kz (.pointer (some ⟨I,5,none⟩)) (Lz (.int .i64 d.bn) bE 1 Tryz.isAgg3 ?_))))))
 have lT:Int.toNat (IntKind.u64.wrap d.bn)≤18446744073709551615:=gW _
 refine fw (.int .u64 ((Int.toNat (IntKind.u64.wrap d.bn):Nat):Int)) (Ci (e:=IntKind.u64.wrap d.bn) yk (di _)) ?_
 refine ji [.int .u64 ((Int.toNat (IntKind.u64.wrap d.bn):Nat):Int)] 22 1 1 bE ?_
 intro eP nX bF
 replace bF:=CG (y:=row eP 1 1 (List.flatMap (eN .u64) ([(Int.toNat (IntKind.u64.wrap d.bn))])) 22 1) rfl bF
 have jO:=bF.pk [8,0,1,2,3,4,5,6,7]
 obtain⟨bH,bI⟩:∃ q,dC K ([(Int.toNat (IntKind.u64.wrap d.bn))])=q:=⟨_,rfl⟩
 obtain⟨nY,gV,lU,gX,gY⟩:=Cg jO
 refine WL.do rfl (Cq Tryz.call29 rfl (eG _ _ eD K.length eF K eP 1 1 ([(Int.toNat (IntKind.u64.wrap d.bn))]) bH gV rfl (by omega) (gY _ 0 _ rfl eH) rfl (by simp) (by first | omega | (simp only [List.length_cons,List.length_nil,List.length_append]; omega)) (by refine⟨EK rfl, ?_⟩; simp only [List.mem_cons,List.not_mem_nil,or_false,forall_eq_or_imp,forall_eq]; omega) bI) ?_)
 rintro _ nZ ⟨jP,jR,rfl,gZ,bJ⟩
 have eQ:=gX _ _ gZ
 have lV:=eQ.rowC (i:=0) rfl
 replace bJ:bH.length≤K.length+0+10 *1:=bJ
 refine Az rfl (Cf (bN (Ca (BR (fw (.int .i64 ((l+1:Nat):Int)) (Ci (e:=IntKind.i64.wrap (((l:Nat):Int)+1)) yk (by rw [EL _ (by omega)]; omega)) (Mz rfl (Cf ?_)))))))
 have jS:=eQ.pk [4,5,6,7,8,0]
 exact Cm (jP,jR,bH,l+1) ⟨rfl,rfl,rfl,rfl,rfl,rfl,rfl,rfl,rfl,rfl,rfl,rfl,rfl,rfl,rfl,rfl,rfl,rfl,rfl,rfl,rfl,rfl,rfl,rfl,trivial⟩ (au.2 ⟨jS,by omega,by omega,et (aW) (et (congrArg (fun q=>dP q n) gy) (et (ag bf) (et (ag bn) (et (ag bv) (et (ag bA) (et (ag bC) (ag bI)))))))⟩) (by show a.ay.ls.length - (l+1) < a.ay.ls.length - l; omega)
 refine jF (dF dS) (Wp.exit (Cb ?_))
 have ib:dP a.ay.ls z=n:=et (aW) (et (congrArg (fun q=>dP q n) (bM (ls:=a.ay.ls) (i:=l) (by omega))) rfl)
 refine Cb (Cn (bN (Ca (BR (fw (.int .i64 ((g+1:Nat):Int)) (Ci (e:=IntKind.i64.wrap (((g:Nat):Int)+1)) yk (by rw [EL _ (by omega)]; omega)) (Mz rfl (Cf ?_)))))))
 have jU:=af.pk [2,3,4,5]
 exact Cm (Q,R,n,g+1) ⟨rfl,rfl,rfl,rfl,rfl,rfl,rfl,trivial⟩ (aj.2 ⟨jU,by omega,by omega,et (aN) (et (congrArg (fun q=>dQ b q j) fT) (et (ag aR) (ag ib)))⟩) (by show b.az.ls.length - (g+1) < b.az.ls.length - g; omega)
 refine jF (dF dO) (Wp.exit (Cb ?_))
 have ic:dQ b b.az.ls B=j:=et (aN) (et (congrArg (fun q=>dQ b q j) (bM (ls:=b.az.ls) (i:=g) (by omega))) rfl)
 refine Cb (Cn (Ca (sr (Mz rfl (Kz (.pointer (some ⟨f,7,none⟩)) (Lz (.slice p b.ah.ls.length o) P 1 Tryz.isAgg25 (Kz (.int .i64 ((b.ah.ls.length:Nat):Int)) (fw (.int .u64 ((b.ah.ls.length:Nat):Int)) (Ci (e:=IntKind.u64.wrap ((b.ah.ls.length:Nat):Int)) yk (IntWalk.u64_in _ (by omega))) ?_))))))))
 refine ji [.int .u64 ((b.ah.ls.length:Nat):Int)] 22 1 1 P ?_
 intro aA og bK
 replace bK:=CG (y:=row aA 1 1 (List.flatMap (eN .u64) ([b.ah.ls.length])) 22 1) rfl bK
 have jV:=bK.pk [4,0,1,2,3]
 obtain⟨V,bL⟩:∃ q,dC j ([b.ah.ls.length])=q:=⟨_,rfl⟩
 obtain⟨oh,ig,lW,ik,il⟩:=Cg jV
 refine WL.do rfl (Cq Tryz.call29 rfl (eG _ _ E j.length F j aA 1 1 ([b.ah.ls.length]) V ig rfl (by omega) (il _ 0 _ rfl eH) rfl (by simp) (by first | omega | (simp only [List.length_cons,List.length_nil,List.length_append]; omega)) (by refine⟨EK rfl, ?_⟩; simp only [List.mem_cons,List.not_mem_nil,or_false,forall_eq_or_imp,forall_eq]; omega) bL) ?_)
 rintro _ ol ⟨jW,jX,rfl,iq,bO⟩
 have bR:=ik _ _ iq
 have lX:=bR.rowC (i:=0) rfl
 replace bO:V.length≤j.length+0+10 *1:=bO
 refine Ar rfl (Mz rfl (Kz (.pointer (some ⟨f,7,none⟩)) (Lz (.slice p b.ah.ls.length o) bR 3 Tryz.isAgg25 ?_)))
 obtain⟨X,bS⟩:∃ q,dC V b.ah.ls=q:=⟨_,rfl⟩
 obtain⟨om,iw,iy,iA,lY⟩:=Cg bR
 refine cl Tryz.call29 (eG _ _ jW V.length jX V p b.ah.ls.length o b.ah.ls X iw rfl (by omega) (iy _ fK) rfl (by omega) (by first | omega | (simp only [List.length_cons,List.length_nil,List.length_append]; omega)) (by exact⟨by omega,hsm35.2.2.2.2.2.1⟩) bS) ?_
 rintro _ oo ⟨jY,jZ,rfl,iB,bT⟩
 have aB:=iA _ _ iB
 have lZ:=aB.rowC (i:=0) rfl
 replace bT:X.length≤V.length+0+10 *b.ah.ls.length:=bT
 refine Ar rfl (Mz rfl (Kz (.pointer (some ⟨f,8,none⟩)) (Lz (.int .u64 ((b.iq:Nat):Int)) aB 3 Tryz.isAgg22 (Kz (.pointer (some ⟨f,9,none⟩)) (Lz (.int .u64 ((b.bS:Nat):Int)) aB 3 Tryz.isAgg22 ?_)))))
 refine ji [.int .u64 ((b.iq:Nat):Int), .int .u64 ((b.bS:Nat):Int)] 22 1 2 aB ?_
 intro aC oq bV
 replace bV:=CG (y:=row aC 2 2 (List.flatMap (eN .u64) ([b.iq,b.bS])) 22 1) rfl bV
 have j3:=bV.pk [1,0,2,3,4,5]
 obtain⟨L,bW⟩:∃ q,dC X ([b.iq,b.bS])=q:=⟨_,rfl⟩
 obtain⟨ou,iC,l5,iE,iF⟩:=Cg j3
 refine WL.do rfl (Cq Tryz.call29 rfl (eG _ _ jY X.length jZ X aC 2 2 ([b.iq,b.bS]) L iC rfl (by omega) (iF _ 0 _ rfl eH) rfl (by simp) (by first | omega | (simp only [List.length_cons,List.length_nil,List.length_append]; omega)) (by refine⟨EK rfl, ?_⟩; simp only [List.mem_cons,List.not_mem_nil,or_false,forall_eq_or_imp,forall_eq]; omega) bW) ?_)
 rintro _ j4 ⟨eT,eU,rfl,iG,bX⟩
 have eY:=iE _ _ iG
 have l6:=eY.rowC (i:=0) rfl
 replace bX:L.length≤X.length+0+10 *2:=bX
 refine An rfl (BS ?_)
 have j5:=eY.pk [1,2,3,4,5,0]
 have aD:=j5.drew
 refine CP [] (fun W=> ∃ L',Own w D W ([row aC 2 2 (List.flatMap (eN .u64) ([b.iq,b.bS])) 22 1,row aA 1 1 (List.flatMap (eN .u64) ([b.ah.ls.length])) 22 1,row aa 5 5 (List.flatMap (eN .u64) ([(Int.toNat (IntKind.u64.wrap b.cO)),b.aj,b.aR,b.aH,b.aZ])) 22 1,blk f (aX b u s h k p o) 31,row dH 1 1 (List.flatMap (eN .u64) ([b.az.ls.length])) 22 1]++L')) (by kernel_rfl) (by kernel_rfl) (Cs CR) ⟨_,aD⟩ ?_
 revert aD
 generalize World.drew j4=ow
 intro aD
 refine GX.take (v:= .slice eT L.length eU) (rs:= []) 0 rfl (by kernel_rfl) (fun _ _=>BX rfl) (GX.take (v:= .pointer (some ⟨f,10,none⟩)) (rs:= []) 1 rfl (by kernel_rfl) (fun _ _=>yk) (GX.take (v:= .pointer (some ⟨f,10,none⟩)) (rs:= []) 2 rfl (by kernel_rfl) (fun _ _=>yk) (GX.take (v:= .string ⟨List.toArray b.bf.aK⟩) (rs:= []) 3 rfl (by kernel_rfl) (fun _ ⟨_,H9⟩=>Cc rfl (bi.one Tryz.isAgg9 (Cv (H9.cls (i:=3) rfl) rfl))) (GX.take (v:= .pointer (some ⟨f,10,none⟩)) (rs:= []) 5 rfl (by kernel_rfl) (fun _ _=>yk) (GX.take (v:= .pointer (some ⟨f,11,none⟩)) (rs:= []) 6 rfl (by kernel_rfl) (fun _ _=>yk) (GX.take (v:= .string ⟨List.toArray b.bf.aO⟩) (rs:= []) 7 rfl (by kernel_rfl) (fun _ ⟨_,H9⟩=>Cc rfl (bi.one Tryz.isAgg9 (Cv (H9.cls (i:=3) rfl) rfl))) ?_))))))
 have j6:=aD.pk [5,0,1,2,3,4]
 obtain⟨Y,bY⟩:∃ q,eX L b.bf.aK=q:=⟨_,rfl⟩
 obtain⟨oz,iH,l7,iJ,l8⟩:=Cg j6
 refine GX.do 4 rfl (by kernel_rfl) (Cq Tryz.call31 rfl (gq _ _ eT L.length eU L b.bf.aK Y iH rfl (by omega) (by first | omega | (simp only [List.length_cons,List.length_nil,List.length_append]; omega)) bY) ?_)
 rintro _ oC ⟨kg,ko,rfl,iK,cu⟩
 have eZ:=iJ _ _ iK
 have l9:=eZ.rowC (i:=0) rfl
 replace cu:Y.length≤L.length+b.bf.aK.length+10:=cu
 have fe:=eZ.pk [1,2,3,4,5,0]
 refine⟨.inr ⟨_,fe⟩, ?_⟩
 have kr:=fe.pk [5,0,1,2,3,4]
 obtain⟨M,cz⟩:∃ q,eX Y b.bf.aO=q:=⟨_,rfl⟩
 obtain⟨oD,iL,ma,iM,mf⟩:=Cg kr
 refine GX.do 8 rfl (by kernel_rfl) (Cq Tryz.call31 rfl (gq _ _ kg Y.length ko Y b.bf.aO M iL rfl (by omega) (by first | omega | (simp only [List.length_cons,List.length_nil,List.length_append]; omega)) cz) ?_)
 rintro _ oF ⟨fo,fq,rfl,iO,cB⟩
 have fu:=iM _ _ iO
 have mg:=fu.rowC (i:=0) rfl
 replace cB:M.length≤Y.length+b.bf.aO.length+10:=cB
 have ah:=fu.pk [1,2,3,4,5,0]
 refine⟨.inr ⟨_,ah⟩, ?_⟩
 refine GX.take (v:= .slice fo M.length fq) (rs:= []) 9 rfl (by kernel_rfl) (fun _ _=>CF rfl) (Cx (by kernel_rfl) (Ca (sr (Mz rfl (Kz (.pointer (some ⟨f,12,none⟩)) (Kz (.pointer (some ⟨f,12,none⟩)) (Lz (.int .u64 ((b.aS.aZ:Nat):Int)) ah 3 Tryz.isAgg22 (Kz (.pointer (some ⟨f,12,none⟩)) (Kz (.pointer (some ⟨f,13,none⟩)) (Lz (.int .u64 ((b.aS.bB:Nat):Int)) ah 3 Tryz.isAgg22 (Kz (.pointer (some ⟨f,12,none⟩)) (Kz (.pointer (some ⟨f,14,none⟩)) (Lz (.int .u64 ((b.aS.cz:Nat):Int)) ah 3 Tryz.isAgg22 ?_)))))))))))))
 refine ji [.int .u64 ((b.aS.aZ:Nat):Int), .int .u64 ((b.aS.bB:Nat):Int), .int .u64 ((b.aS.cz:Nat):Int)] 22 1 3 ah ?_
 intro cK oG cO
 replace cO:=CG (y:=row cK 3 3 (List.flatMap (eN .u64) ([b.aS.aZ,b.aS.bB,b.aS.cz])) 22 1) rfl cO
 have ku:=cO.pk [6,0,1,2,3,4,5]
 obtain⟨N,cZ⟩:∃ q,dC M ([b.aS.aZ,b.aS.bB,b.aS.cz])=q:=⟨_,rfl⟩
 obtain⟨oH,iP,mh,iQ,iR⟩:=Cg ku
 refine WL.do rfl (Cq Tryz.call29 rfl (eG _ _ fo M.length fq M cK 3 3 ([b.aS.aZ,b.aS.bB,b.aS.cz]) N iP rfl (by omega) (iR _ 0 _ rfl eH) rfl (by simp) (by first | omega | (simp only [List.length_cons,List.length_nil,List.length_append]; omega)) (by refine⟨EK rfl, ?_⟩; simp only [List.mem_cons,List.not_mem_nil,or_false,forall_eq_or_imp,forall_eq]; omega) cZ) ?_)
 rintro _ kv ⟨fA,fB,rfl,iT,df⟩
 have fC:=iQ _ _ iT
 have mi:=fC.rowC (i:=0) rfl
 replace df:N.length≤M.length+0+10 *3:=df
 refine An rfl (BS ?_)
 have kw:=fC.pk [1,2,3,4,5,6,0]
 have aF:=kw.drew
 refine CP [] (fun W=> ∃ L',Own w D W ([row cK 3 3 (List.flatMap (eN .u64) ([b.aS.aZ,b.aS.bB,b.aS.cz])) 22 1,row aC 2 2 (List.flatMap (eN .u64) ([b.iq,b.bS])) 22 1,row aA 1 1 (List.flatMap (eN .u64) ([b.ah.ls.length])) 22 1,row aa 5 5 (List.flatMap (eN .u64) ([(Int.toNat (IntKind.u64.wrap b.cO)),b.aj,b.aR,b.aH,b.aZ])) 22 1,blk f (aX b u s h k p o) 31,row dH 1 1 (List.flatMap (eN .u64) ([b.az.ls.length])) 22 1]++L')) (by kernel_rfl) (by kernel_rfl) (Cs CR) ⟨_,aF⟩ ?_
 revert aF
 generalize World.drew kv=oI
 intro aF
 refine GX.take (v:= .slice fA N.length fB) (rs:= []) 0 rfl (by kernel_rfl) (fun _ _=>BX rfl) (GX.take (v:= .pointer (some ⟨f,12,none⟩)) (rs:= []) 1 rfl (by kernel_rfl) (fun _ _=>yk) (GX.take (v:= .pointer (some ⟨f,15,none⟩)) (rs:= []) 2 rfl (by kernel_rfl) (fun _ _=>yk) (GX.take (v:= .pointer (some ⟨f,15,none⟩)) (rs:= []) 3 rfl (by kernel_rfl) (fun _ _=>yk) (GX.take (v:= .string ⟨List.toArray b.aS.aP.aK⟩) (rs:= []) 4 rfl (by kernel_rfl) (fun _ ⟨_,H9⟩=>Cc rfl (bi.one Tryz.isAgg9 (Cv (H9.cls (i:=4) rfl) rfl))) (GX.take (v:= .pointer (some ⟨f,12,none⟩)) (rs:= []) 6 rfl (by kernel_rfl) (fun _ _=>yk) (GX.take (v:= .pointer (some ⟨f,15,none⟩)) (rs:= []) 7 rfl (by kernel_rfl) (fun _ _=>yk) (GX.take (v:= .pointer (some ⟨f,16,none⟩)) (rs:= []) 8 rfl (by kernel_rfl) (fun _ _=>yk) (GX.take (v:= .string ⟨List.toArray b.aS.aP.aO⟩) (rs:= []) 9 rfl (by kernel_rfl) (fun _ ⟨_,H9⟩=>Cc rfl (bi.one Tryz.isAgg9 (Cv (H9.cls (i:=4) rfl) rfl))) ?_))))))))
 have ky:=aF.pk [6,0,1,2,3,4,5]
 obtain⟨Z,dh⟩:∃ q,eX N b.aS.aP.aK=q:=⟨_,rfl⟩
 obtain⟨oJ,iU,mo,iV,mq⟩:=Cg ky
 refine GX.do 5 rfl (by kernel_rfl) (Cq Tryz.call31 rfl (gq _ _ fA N.length fB N b.aS.aP.aK Z iU rfl (by omega) (by first | omega | (simp only [List.length_cons,List.length_nil,List.length_append]; omega)) dh) ?_)
 rintro _ oK ⟨kz,kC,rfl,iW,dn⟩
 have fD:=iV _ _ iW
 have mr:=fD.rowC (i:=0) rfl
 replace dn:Z.length≤N.length+b.aS.aP.aK.length+10:=dn
 have fE:=fD.pk [1,2,3,4,5,6,0]
 refine⟨.inr ⟨_,fE⟩, ?_⟩
 have kD:=fE.pk [6,0,1,2,3,4,5]
 obtain⟨aG,dx⟩:∃ q,eX Z b.aS.aP.aO=q:=⟨_,rfl⟩
 obtain⟨oL,iX,mD,iY,mE⟩:=Cg kD
 refine GX.do 10 rfl (by kernel_rfl) (Cq Tryz.call31 rfl (gq _ _ kz Z.length kC Z b.aS.aP.aO aG iX rfl (by omega) (by first | omega | (simp only [List.length_cons,List.length_nil,List.length_append]; omega)) dx) ?_)
 rintro _ oM ⟨fF,fG,rfl,iZ,dz⟩
 have fH:=iY _ _ iZ
 have mF:=fH.rowC (i:=0) rfl
 replace dz:aG.length≤Z.length+b.aS.aP.aO.length+10:=dz
 have fI:=fH.pk [1,2,3,4,5,6,0]
 refine⟨.inr ⟨_,fI⟩, ?_⟩
 refine GX.take (v:= .slice fF aG.length fG) (rs:= []) 11 rfl (by kernel_rfl) (fun _ _=>CF rfl) (GX.take (v:= .int .i64 0) (rs:= []) 12 rfl (by kernel_rfl) (fun _ _=>CF rfl) (Cx (by kernel_rfl) (Ca (rt (CK (oV rfl rfl rfl) ?_)))))
 have kE:=fI.pk [6]
 have e:jQ b=(aG,0):=et (ag dI) (et (ip jf) (et (ag jg) (et (ag kL) (et (ag aI) (et (ag ic) (et (ag bL) (et (ag bS) (et (ag bW) (et (ag bY) (et (ag cz) (et (ag cZ) (et (ag dh) (ag dx)))))))))))))
 obtain⟨rfl,rfl⟩:=iI (e.symm.trans hr)
 exact⟨fF,fG,rfl,kE,(by first | omega | exact EM _)⟩
 refine jT (dT jf) (sr (Mz rfl (Az rfl (An rfl (rt (tR (CK (oV rfl rfl rfl) ?_)))))))
 have oZ:Own w D pg [row none 0 0 (List.flatMap eB ([])) 5 1,blk f (aX b u s h k p o) 31]:=mP.free (iD 5 1)
 have o5:=oZ.pk [0]
 have e:jQ b=([],je):=et (ag dI) (iN jf)
 obtain⟨rfl,rfl⟩:=iI (e.symm.trans hr)
 exact⟨none,0,rfl,o5,(by first | omega | exact EM _)⟩
def dR:List Int→List UInt8→(List UInt8)
  | [],a=>a
  | c::d,a=>bnd (dC a ([(Int.toNat (IntKind.u64.wrap c))])) fun b=>dR d b
def dS (e:bI):List bK→List UInt8→(List UInt8)
  | [],b=>b
  | a::d,b=>bnd (dC b ([a.av,(Int.toNat (IntKind.u64.wrap a.ak)),a.aj,a.bJ,a.aa.ls.length])) fun c=>bnd (dR a.aa.ls c) fun sLrbtbbbLsbL=>dS e d sLrbtbbbLsbL
def dU:List eD→List UInt8→(List UInt8)
  | [],b=>b
  | a::e,b=>bnd (dC b ([(Int.toNat (IntKind.u64.wrap a.ak)),a.aj,a.bJ])) fun c=>bnd (om c a.au.ls) fun d=>dU e d
def jR (a:bI):(List UInt8) × Int:=
 bnd (kR a) fun b=>if b=0 then bnd (dC ([67]) ([(Int.toNat (IntKind.u64.wrap a.aa)),a.aj,a.aR,a.aH])) fun d=>bnd (lu d a.ai.ls) fun e=>bnd (dC e ([a.af.ls.length])) fun f=>bnd (dS a a.af.ls f) fun sLrbtbbbL=>bnd (dC sLrbtbbbL ([a.aB.ls.length])) fun c=>bnd (dU a.aB.ls c) fun sLrbtbbbLabL=>(sLrbtbbbLabL,0) else([],b)
set_option maxHeartbeats 4000000 in
theorem qB (w:World) (D:Nat→Prop) (b:bI) (C:Option Addr) (gX B:Nat) (g:Option Addr) (gY l:Nat) (bL:List ax) (n:Option Addr) (gZ s:Nat) (bO:List aT) (r0:List UInt8) (r1:Int) (H:Own w D w []) (iq:gX=b.ai.ls.length) (dI:Ro w D fun w'=>bG w' 2 C b.ai.ls.length (List.flatMap aL.cells b.ai.ls)) (kH:b.ai.ls.length≤B∧b.ai.ls.length≤9223372036854775807) (bR:List.map Co bL=b.af.ls) (iw:gY=b.af.ls.length) (aA:Ro w D fun w'=>bG w' 5 g b.af.ls.length (List.flatMap ax.cells bL)) (kI:b.af.ls.length≤l∧b.af.ls.length≤9223372036854775807) (R:∀ x ∈ bL,Ro w D (fun w'=>bG w' 1 x.aa.A x.aa.ls.length (List.flatMap (eI .i64) x.aa.ls))∧(x.aa.ls.length≤x.aa.c∧x.aa.ls.length≤9223372036854775807)) (bS:List.map Cz bO=b.aB.ls) (iy:gZ=b.aB.ls.length) (aB:Ro w D fun w'=>bG w' 4 n b.aB.ls.length (List.flatMap aT.cells bO)) (kJ:b.aB.ls.length≤s∧b.aB.ls.length≤9223372036854775807) (O:∀ x ∈ bO,Ro w D (fun w'=>bG w' 3 x.au.A x.au.ls.length (List.flatMap aD.cells x.au.ls))∧(x.au.ls.length≤x.au.c∧x.au.ls.length≤9223372036854775807)∧(∀ y1 ∈ x.au.ls,Ro w D (fun w'=>bG w' 2 y1.aA.A y1.aA.ls.length (List.flatMap bH.cells y1.aA.ls))∧(y1.aA.ls.length≤y1.aA.c∧y1.aA.ls.length≤9223372036854775807))) (lM:b.ai.ls.length≤140737488355328∧b.af.ls.length≤140737488355328∧b.aB.ls.length≤140737488355328) (kK:r9 b) (hr:jR b=(r0,r1)):
    Calls Tryz.prog 10 #[.agg #[.int .i64 b.aa, .int .u64 ((b.aj:Nat):Int), .int .u64 ((b.aR:Nat):Int), .int .u64 ((b.aH:Nat):Int), .slice C gX B, .slice g gY l, .slice n gZ s]] w (dE fun v w'=> ∃ (B0:Option Addr) (b0:Nat),v= .tuple #[.slice B0 r0.length b0, .int .i64 r1]∧Own w D w' [row B0 r0.length b0 (List.flatMap eB r0) 5 1]∧(r0.length≤100000)):=by
 subst iq iw iy
 have hdl0x1:=dm bR
 have hdl0x2:=dm bS
 refine Ce (args:= [.agg #[.int .i64 b.aa, .int .u64 ((b.aj:Nat):Int), .int .u64 ((b.aR:Nat):Int), .int .u64 ((b.aH:Nat):Int), .slice C b.ai.ls.length B, .slice g b.af.ls.length l, .slice n b.aB.ls.length s]]) Tryz.func10 rfl rfl rfl ?_
 show Wp _ _ _ [(0, .agg #[.int .i64 b.aa, .int .u64 ((b.aj:Nat):Int), .int .u64 ((b.aR:Nat):Int), .int .u64 ((b.aH:Nat):Int), .slice C b.ai.ls.length B, .slice g b.af.ls.length l, .slice n b.aB.ls.length s])] _ _
 refine sr ?_
 refine dB [.int .i64 b.aa, .int .u64 ((b.aj:Nat):Int), .int .u64 ((b.aR:Nat):Int), .int .u64 ((b.aH:Nat):Int), .slice C b.ai.ls.length B, .slice g b.af.ls.length l, .slice n b.aB.ls.length s] 35 H ?_
 intro E lN jm
 refine Az rfl (An rfl (BS (sr (La ([.int .i64 b.aa, .int .u64 ((b.aj:Nat):Int), .int .u64 ((b.aR:Nat):Int), .int .u64 ((b.aH:Nat):Int), .slice C b.ai.ls.length B, .slice g b.af.ls.length l, .slice n b.aB.ls.length s]) jm 0 Tryz.isAgg35 Tryz.sizeOf35 ?_))))
 obtain⟨fF,bX⟩:∃ q,kR b=q:=⟨_,rfl⟩
 obtain⟨lQ,jo,bQ,jq,lh⟩:=Ck jm
 refine cl Tryz.call14 (nV _ _ b C b.ai.ls.length B g b.af.ls.length l bL n b.aB.ls.length s bO fF jo rfl (bQ _ dI) (show b.ai.ls.length≤B∧b.ai.ls.length≤9223372036854775807 from by omega) bR rfl (bQ _ aA) (show b.af.ls.length≤l∧b.af.ls.length≤9223372036854775807 from by omega) (fun x9 h9=>⟨bQ _ (R x9 h9).1,(R x9 h9).2⟩) bS rfl (bQ _ aB) (show b.aB.ls.length≤s∧b.aB.ls.length≤9223372036854775807 from by omega) (fun x9 h9=>⟨bQ _ (O x9 h9).1,(O x9 h9).2.1,(fun y1 k1=>⟨bQ _ ((O x9 h9).2.2 y1 k1).1,((O x9 h9).2.2 y1 k1).2⟩)⟩) (by first | omega | (dsimp only; omega) | (simp only [List.length_nil]; omega) | decide) bX) ?_
 rintro _ kL ⟨rfl,jr⟩
 have jv:=jq _ _ jr
 refine Ar rfl (Mz rfl (fw (.bool (decide (¬ (fF=0)))) (Cy (e:= !(decide (fF=0))) yk decide_not.symm) (nt ?_)))
 by_cases fG:fF=0
 refine jF (dF (EN fG)) (sk (sr ?_))
 have hsm35:=uq (by rw [← uw,bX]; omega) kK
 have lm:b.ai.ls.length≤6:=hsm35.1
 have lq:b.af.ls.length≤8:=hsm35.2.2.1
 have lv:b.aB.ls.length≤4:=hsm35.2.2.2.2.1
 have lw:b.aj≤18446744073709551615:=hsm35.2.2.2.2.2.2.1
 have lC:b.aR≤18446744073709551615:=hsm35.2.2.2.2.2.2.2.1
 have lD:b.aH≤18446744073709551615:=hsm35.2.2.2.2.2.2.2.2
 refine ji [.int .u8 67] 5 1 1 jv ?_
 intro jw lS dJ
 replace dJ:=CG (y:=row jw 1 1 (List.flatMap eB ([67])) 5 1) rfl dJ
 refine Kz (.pointer (some ⟨E,0,none⟩)) (Lz (.int .i64 b.aa) dJ 1 Tryz.isAgg3 ?_)
 have lF:Int.toNat (IntKind.u64.wrap b.aa)≤18446744073709551615:=gW _
 refine fw (.int .u64 ((Int.toNat (IntKind.u64.wrap b.aa):Nat):Int)) (Ci (e:=IntKind.u64.wrap b.aa) yk (di _)) (Kz (.pointer (some ⟨E,1,none⟩)) (Lz (.int .u64 ((b.aj:Nat):Int)) dJ 1 Tryz.isAgg22 (Kz (.pointer (some ⟨E,2,none⟩)) (Lz (.int .u64 ((b.aR:Nat):Int)) dJ 1 Tryz.isAgg22 (Kz (.pointer (some ⟨E,3,none⟩)) (Lz (.int .u64 ((b.aH:Nat):Int)) dJ 1 Tryz.isAgg22 ?_))))))
 refine ji [.int .u64 ((Int.toNat (IntKind.u64.wrap b.aa):Nat):Int), .int .u64 ((b.aj:Nat):Int), .int .u64 ((b.aR:Nat):Int), .int .u64 ((b.aH:Nat):Int)] 22 1 4 dJ ?_
 intro ah lT iA
 replace iA:=CG (y:=row ah 4 4 (List.flatMap (eN .u64) ([(Int.toNat (IntKind.u64.wrap b.aa)),b.aj,b.aR,b.aH])) 22 1) rfl iA
 have kM:=iA.pk [1,0,2]
 obtain⟨aJ,fH⟩:∃ q,dC ([67]) ([(Int.toNat (IntKind.u64.wrap b.aa)),b.aj,b.aR,b.aH])=q:=⟨_,rfl⟩
 obtain⟨lV,jy,lG,jA,jB⟩:=Cg kM
 refine WL.do rfl (Cq Tryz.call29 rfl (eG _ _ jw 1 1 ([67]) ah 4 4 ([(Int.toNat (IntKind.u64.wrap b.aa)),b.aj,b.aR,b.aH]) aJ jy rfl (by simp) (jB _ 0 _ rfl eH) rfl (by simp) (by first | omega | (simp only [List.length_cons,List.length_nil,List.length_append]; omega)) (by refine⟨EK rfl, ?_⟩; simp only [List.mem_cons,List.not_mem_nil,or_false,forall_eq_or_imp,forall_eq]; omega) fH) ?_)
 rintro _ kN ⟨iB,iC,rfl,jC,ib⟩
 have jD:=jA _ _ jC
 have lH:=jD.rowC (i:=0) rfl
 replace ib:aJ.length≤1+0+10 *4:=ib
 refine An rfl (BS ?_)
 have kP:=jD.pk [1,2,0]
 have fI:=kP.drew
 refine CP [] (fun W=> ∃ L',Own w D W ([row ah 4 4 (List.flatMap (eN .u64) ([(Int.toNat (IntKind.u64.wrap b.aa)),b.aj,b.aR,b.aH])) 22 1,blk E [.int .i64 b.aa, .int .u64 ((b.aj:Nat):Int), .int .u64 ((b.aR:Nat):Int), .int .u64 ((b.aH:Nat):Int), .slice C b.ai.ls.length B, .slice g b.af.ls.length l, .slice n b.aB.ls.length s] 35]++L')) (by kernel_rfl) (by kernel_rfl) (Cs CR) ⟨_,fI⟩ ?_
 revert fI
 generalize World.drew kN=lW
 intro fI
 refine GX.take (v:= .slice iB aJ.length iC) (rs:= []) 0 rfl (by kernel_rfl) (fun _ _=>BX rfl) (GX.take (v:= .pointer (some ⟨E,4,none⟩)) (rs:= []) 1 rfl (by kernel_rfl) (fun _ _=>yk) (GX.take (v:= .slice C b.ai.ls.length B) (rs:= []) 2 rfl (by kernel_rfl) (fun _ ⟨_,H9⟩=>Cc rfl (bi.one Tryz.isAgg23 (Cv (H9.cls (i:=1) rfl) rfl))) (GX.take (v:= .pointer (some ⟨E,5,none⟩)) (rs:= []) 4 rfl (by kernel_rfl) (fun _ _=>yk) (GX.take (v:= .slice g b.af.ls.length l) (rs:= []) 5 rfl (by kernel_rfl) (fun _ ⟨_,H9⟩=>Cc rfl (bi.one Tryz.isAgg32 (Cv (H9.cls (i:=1) rfl) rfl))) (GX.take (v:= .int .i64 ((b.af.ls.length:Nat):Int)) (rs:= []) 6 rfl (by kernel_rfl) (fun _ _=>yk) (GX.take (v:= .int .u64 ((b.af.ls.length:Nat):Int)) (rs:= []) 7 rfl (by kernel_rfl) (fun _ _=>Ci (e:=IntKind.u64.wrap ((b.af.ls.length:Nat):Int)) yk (IntWalk.u64_in _ (by omega))) ?_))))))
 refine DJ 3 8 (by kernel_rfl) ?_ ?_
 have kQ:=fI.pk [2,0,1]
 obtain⟨fD,ic⟩:∃ q,lu aJ b.ai.ls=q:=⟨_,rfl⟩
 obtain⟨lX,jE,jG,jH,lI⟩:=Cg kQ
 refine GY.do 3 rfl (by kernel_rfl) (Cq Tryz.call30 rfl (mJ _ _ iB aJ.length iC aJ C b.ai.ls.length B b.ai.ls fD jE rfl (by omega) (jG _ dI) rfl (by omega) (by first | omega | (simp only [List.length_cons,List.length_nil,List.length_append]; omega)) (by exact⟨hsm35.1,hsm35.2.1⟩) ic) ?_)
 rintro _ lY ⟨kS,kT,rfl,jI,ig⟩
 have jJ:=jH _ _ jI
 have lJ:=jJ.rowC (i:=0) rfl
 replace ig:fD.length≤aJ.length+10+32 *b.ai.ls.length:=ig
 have jK:=jJ.pk [1,2,0]
 refine⟨.inr ⟨_,jK⟩, ?_⟩
 refine GX.do 8 rfl (by kernel_rfl) (De (cs:= [.int .u64 ((b.af.ls.length:Nat):Int)]) (t:=22) (sz:=1) (m:=1) jK rfl rfl (fun _=>by kernel_rfl) rfl (by decide) ?_)
 intro bV lZ iE
 replace iE:=CG (y:=row bV 1 1 (List.flatMap (eN .u64) ([b.af.ls.length])) 22 1) rfl iE
 have fJ:=iE.pk [1,2,0,3]
 refine⟨.inr ⟨_,fJ⟩, ?_⟩
 have iF:=fJ.pk [3,0,1,2]
 obtain⟨Z,bY⟩:∃ q,dC fD ([b.af.ls.length])=q:=⟨_,rfl⟩
 obtain⟨kU,fK,jL,fM,fO⟩:=Cg iF
 refine GX.do 9 rfl (by kernel_rfl) (Cq Tryz.call29 rfl (eG _ _ kS fD.length kT fD bV 1 1 ([b.af.ls.length]) Z fK rfl (by omega) (fO _ 2 _ rfl eH) rfl (by simp) (by first | omega | (simp only [List.length_cons,List.length_nil,List.length_append]; omega)) (by refine⟨EK rfl, ?_⟩; simp only [List.mem_cons,List.not_mem_nil,or_false,forall_eq_or_imp,forall_eq]; omega) bY) ?_)
 rintro _ kV ⟨fP,fQ,rfl,fT,aK⟩
 have fU:=fM _ _ fT
 have iG:=fU.rowC (i:=0) rfl
 replace aK:Z.length≤fD.length+0+10 *1:=aK
 have aM:=fU.pk [1,2,0,3]
 refine⟨.inr ⟨_,aM⟩, ?_⟩
 refine GX.take (v:= .slice fP Z.length fQ) (rs:= []) 10 rfl (by kernel_rfl) (fun _ _=>CF rfl) (Cx (by kernel_rfl) (Ca (BS (sr (Kz (.pointer (some ⟨E,5,none⟩)) (Lz (.slice g b.af.ls.length l) aM 1 Tryz.isAgg32 (Kz (.int .i64 ((b.af.ls.length:Nat):Int)) (Mn rfl (bo ?_)))))))))
 have fV:=aM.pk [0,1,3,2]
 obtain⟨bZ,dK⟩:∃ q:((Option Addr) × Nat × (List UInt8) × Nat)→World→Prop,q=fun(i:(Option Addr) × Nat × (List UInt8) × Nat) w'=>Own w D w' [row ah 4 4 (List.flatMap (eN .u64) ([(Int.toNat (IntKind.u64.wrap b.aa)),b.aj,b.aR,b.aH])) 22 1,blk E [.int .i64 b.aa, .int .u64 ((b.aj:Nat):Int), .int .u64 ((b.aR:Nat):Int), .int .u64 ((b.aH:Nat):Int), .slice C b.ai.ls.length B, .slice g b.af.ls.length l, .slice n b.aB.ls.length s] 35,row bV 1 1 (List.flatMap (eN .u64) ([b.af.ls.length])) 22 1,row i.1 i.2.2.1.length i.2.1 (List.flatMap eB i.2.2.1) 5 1]∧(i.2.2.2≤b.af.ls.length∧((i.2.2.1.length:Nat):Int)≤((Z.length:Nat):Int)+100 *((i.2.2.2:Nat):Int)∧dS b b.af.ls Z=dS b (List.drop i.2.2.2 b.af.ls) i.2.2.1):=⟨_,rfl⟩
 have aC:∀ {K:Option Addr} {L:Nat} {j:List UInt8} {f:Nat} {w':World},bZ (K,L,j,f) w'↔Own w D w' [row ah 4 4 (List.flatMap (eN .u64) ([(Int.toNat (IntKind.u64.wrap b.aa)),b.aj,b.aR,b.aH])) 22 1,blk E [.int .i64 b.aa, .int .u64 ((b.aj:Nat):Int), .int .u64 ((b.aR:Nat):Int), .int .u64 ((b.aH:Nat):Int), .slice C b.ai.ls.length B, .slice g b.af.ls.length l, .slice n b.aB.ls.length s] 35,row bV 1 1 (List.flatMap (eN .u64) ([b.af.ls.length])) 22 1,row K j.length L (List.flatMap eB j) 5 1]∧f≤b.af.ls.length∧((j.length:Nat):Int)≤((Z.length:Nat):Int)+100 *((f:Nat):Int)∧dS b b.af.ls Z=dS b (List.drop f b.af.ls) j:=by intros; subst dK; exact Iff.rfl
 refine Wp.loop (fun i:(Option Addr) × Nat × (List UInt8) × Nat=> [(5, .slice i.1 i.2.2.1.length i.2.1),(42, .int .i64 ((i.2.2.2:Nat):Int)),(41, .int .i64 ((b.af.ls.length:Nat):Int)),(40, .slice g b.af.ls.length l),(3, .int .i64 0),(2, .slice none 0 0),(1, .pointer (some ⟨E,0,none⟩))]) bZ (fun i=>b.af.ls.length - i.2.2.2) (fP,fQ,Z,0) ⟨rfl,rfl,rfl,rfl,rfl,rfl,rfl,trivial⟩ (aC.2 ⟨fV,by omega,by omega,rfl⟩) ?_
 rintro ⟨K,L,j,f⟩ jM dL
 show Wp _ _ _ [(5, .slice K j.length L),(42, .int .i64 ((f:Nat):Int)),(41, .int .i64 ((b.af.ls.length:Nat):Int)),(40, .slice g b.af.ls.length l),(3, .int .i64 0),(2, .slice none 0 0),(1, .pointer (some ⟨E,0,none⟩))] _ _
 obtain⟨S,iH,iJ,aN⟩:=aC.1 dL
 refine sr (Kz (.bool (decide (((f:Nat):Int) < ((b.af.ls.length:Nat):Int)))) (nt (BS ?_)))
 by_cases cu:((f:Nat):Int) < ((b.af.ls.length:Nat):Int)
 obtain⟨a,G⟩:=bU (ls:=bL) (i:=f) ax.len (by decide) (S.ro aA) (by first | omega | (simp; done) | (simp; omega))
 have aO:=jb bR G
 have iK:=(R _ (List.mem_of_getElem? G)).2
 have ae:(Co a).av≤18446744073709551615∧(Co a).aj≤18446744073709551615∧(Co a).bJ≤18446744073709551615∧List.length (Co a).aa.ls≤4:=hsm35.2.2.2.1 _ (List.mem_of_getElem? aO)
 have hz123p0:a.av≤18446744073709551615:=by have I:=ae.1; first | exact I | (simp only [Co,List.length_map] at I; exact I)
 have hz123p1:a.aj≤18446744073709551615:=by have I:=ae.2.1; first | exact I | (simp only [Co,List.length_map] at I; exact I)
 have hz123p2:a.bJ≤18446744073709551615:=by have I:=ae.2.2.1; first | exact I | (simp only [Co,List.length_map] at I; exact I)
 have hz123p3:a.aa.ls.length≤4:=by have I:=ae.2.2.2; first | exact I | (simp only [Co,List.length_map] at I; exact I)
 have dM:=drop_at aO
 refine jT (dT cu) (sk (BS (bo (sr (fw (.pointer (some ⟨ab g,ao g+f *5,none⟩)) (Ch (qw) rfl rfl ((S.ro aA).addr (i:=f) (by omega)) (by omega)) (fw (.agg (ax.cells a).toArray) (Cc rfl (Cu (cs:=(ax.cells a)) Tryz.isAgg79 Tryz.sizeOf79 ((S.ro aA).elem ax.len G (by decide)))) ?_))))))
 refine dB [.int .u64 0, .int .i64 0, .int .u64 0, .int .u64 0, .slice none 0 0] 79 S ?_
 intro h jN fZ
 refine dw (ax.cells a) 0 fZ Tryz.sizeOf79 ?_
 intro jO T
 refine ns (Mz rfl (Kz (.pointer (some ⟨h,0,none⟩)) (Lz (.int .u64 ((a.av:Nat):Int)) T 0 Tryz.isAgg22 (Kz (.pointer (some ⟨h,1,none⟩)) (Lz (.int .i64 a.ak) T 0 Tryz.isAgg3 ?_)))))
 have iL:Int.toNat (IntKind.u64.wrap a.ak)≤18446744073709551615:=gW _
 refine fw (.int .u64 ((Int.toNat (IntKind.u64.wrap a.ak):Nat):Int)) (Ci (e:=IntKind.u64.wrap a.ak) yk (di _)) (Kz (.pointer (some ⟨h,2,none⟩)) (Lz (.int .u64 ((a.aj:Nat):Int)) T 0 Tryz.isAgg22 (Kz (.pointer (some ⟨h,3,none⟩)) (Lz (.int .u64 ((a.bJ:Nat):Int)) T 0 Tryz.isAgg22 (Kz (.pointer (some ⟨h,4,none⟩)) (Lz (.slice a.aa.A a.aa.ls.length a.aa.c) T 0 Tryz.isAgg77 (Kz (.int .i64 ((a.aa.ls.length:Nat):Int)) (fw (.int .u64 ((a.aa.ls.length:Nat):Int)) (Ci (e:=IntKind.u64.wrap ((a.aa.ls.length:Nat):Int)) yk (IntWalk.u64_in _ (by omega))) ?_))))))))
 refine ji [.int .u64 ((a.av:Nat):Int), .int .u64 ((Int.toNat (IntKind.u64.wrap a.ak):Nat):Int), .int .u64 ((a.aj:Nat):Int), .int .u64 ((a.bJ:Nat):Int), .int .u64 ((a.aa.ls.length:Nat):Int)] 22 1 5 T ?_
 intro U jP aP
 replace aP:=CG (y:=row U 5 5 (List.flatMap (eN .u64) ([a.av,(Int.toNat (IntKind.u64.wrap a.ak)),a.aj,a.bJ,a.aa.ls.length])) 22 1) rfl aP
 have gm:=aP.pk [5,0,1,2,3,4]
 obtain⟨F,aQ⟩:∃ q,dC j ([a.av,(Int.toNat (IntKind.u64.wrap a.ak)),a.aj,a.bJ,a.aa.ls.length])=q:=⟨_,rfl⟩
 obtain⟨jQ,dN,iM,dO,dP⟩:=Cg gm
 refine WL.do rfl (Cq Tryz.call29 rfl (eG _ _ K j.length L j U 5 5 ([a.av,(Int.toNat (IntKind.u64.wrap a.ak)),a.aj,a.bJ,a.aa.ls.length]) F dN rfl (by omega) (dP _ 0 _ rfl eH) rfl (by simp) (by first | omega | (simp only [List.length_cons,List.length_nil,List.length_append]; omega)) (by refine⟨EK rfl, ?_⟩; simp only [List.mem_cons,List.not_mem_nil,or_false,forall_eq_or_imp,forall_eq]; omega) aQ) ?_)
 rintro _ jS ⟨aR,aS,rfl,dQ,aU⟩
 have aV:=dO _ _ dQ
 have iO:=aV.rowC (i:=0) rfl
 replace aU:F.length≤j.length+0+10 *5:=aU
 refine Ar rfl (Kz (.pointer (some ⟨h,4,none⟩)) (Lz (.slice a.aa.A a.aa.ls.length a.aa.c) aV 2 Tryz.isAgg77 (Kz (.int .i64 ((a.aa.ls.length:Nat):Int)) (Mn rfl (bo ?_)))))
 have gp:=aV.pk [1,2,3,4,5,0]
 obtain⟨cz,dV⟩:∃ q:((Option Addr) × Nat × (List UInt8) × Nat)→World→Prop,q=fun(i:(Option Addr) × Nat × (List UInt8) × Nat) w'=>Own w D w' [row U 5 5 (List.flatMap (eN .u64) ([a.av,(Int.toNat (IntKind.u64.wrap a.ak)),a.aj,a.bJ,a.aa.ls.length])) 22 1,blk h (ax.cells a) 79,row ah 4 4 (List.flatMap (eN .u64) ([(Int.toNat (IntKind.u64.wrap b.aa)),b.aj,b.aR,b.aH])) 22 1,blk E [.int .i64 b.aa, .int .u64 ((b.aj:Nat):Int), .int .u64 ((b.aR:Nat):Int), .int .u64 ((b.aH:Nat):Int), .slice C b.ai.ls.length B, .slice g b.af.ls.length l, .slice n b.aB.ls.length s] 35,row bV 1 1 (List.flatMap (eN .u64) ([b.af.ls.length])) 22 1,row i.1 i.2.2.1.length i.2.1 (List.flatMap eB i.2.2.1) 5 1]∧(i.2.2.2≤a.aa.ls.length∧((i.2.2.1.length:Nat):Int)≤((F.length:Nat):Int)+10 *((i.2.2.2:Nat):Int)∧dR a.aa.ls F=dR (List.drop i.2.2.2 a.aa.ls) i.2.2.1):=⟨_,rfl⟩
 have aF:∀ {V:Option Addr} {X:Nat} {u:List UInt8} {o:Nat} {w':World},cz (V,X,u,o) w'↔Own w D w' [row U 5 5 (List.flatMap (eN .u64) ([a.av,(Int.toNat (IntKind.u64.wrap a.ak)),a.aj,a.bJ,a.aa.ls.length])) 22 1,blk h (ax.cells a) 79,row ah 4 4 (List.flatMap (eN .u64) ([(Int.toNat (IntKind.u64.wrap b.aa)),b.aj,b.aR,b.aH])) 22 1,blk E [.int .i64 b.aa, .int .u64 ((b.aj:Nat):Int), .int .u64 ((b.aR:Nat):Int), .int .u64 ((b.aH:Nat):Int), .slice C b.ai.ls.length B, .slice g b.af.ls.length l, .slice n b.aB.ls.length s] 35,row bV 1 1 (List.flatMap (eN .u64) ([b.af.ls.length])) 22 1,row V u.length X (List.flatMap eB u) 5 1]∧o≤a.aa.ls.length∧((u.length:Nat):Int)≤((F.length:Nat):Int)+10 *((o:Nat):Int)∧dR a.aa.ls F=dR (List.drop o a.aa.ls) u:=by intros; subst dV; exact Iff.rfl
 refine Wp.loop (fun i:(Option Addr) × Nat × (List UInt8) × Nat=> [(5, .slice i.1 i.2.2.1.length i.2.1),(65, .int .i64 ((i.2.2.2:Nat):Int)),(64, .int .i64 ((a.aa.ls.length:Nat):Int)),(63, .slice a.aa.A a.aa.ls.length a.aa.c),(62, .pointer (some ⟨h,4,none⟩)),(61, .slice aR F.length aS),(60, .slice U 5 5),(59, .int .u64 ((a.aa.ls.length:Nat):Int)),(58, .int .i64 ((a.aa.ls.length:Nat):Int)),(57, .slice a.aa.A a.aa.ls.length a.aa.c),(56, .pointer (some ⟨h,4,none⟩)),(55, .int .u64 ((a.bJ:Nat):Int)),(54, .pointer (some ⟨h,3,none⟩)),(53, .int .u64 ((a.aj:Nat):Int)),(52, .pointer (some ⟨h,2,none⟩)),(51, .int .u64 ((Int.toNat (IntKind.u64.wrap a.ak):Nat):Int)),(50, .int .i64 a.ak),(49, .pointer (some ⟨h,1,none⟩)),(48, .int .u64 ((a.av:Nat):Int)),(47, .pointer (some ⟨h,0,none⟩)),(46, .slice K j.length L),(7, .pointer (some ⟨h,0,none⟩)),(45, .agg (ax.cells a).toArray),(44, .pointer (some ⟨ab g,ao g+f *5,none⟩)),(43, .bool (decide (((f:Nat):Int) < ((b.af.ls.length:Nat):Int)))),(42, .int .i64 ((f:Nat):Int)),(41, .int .i64 ((b.af.ls.length:Nat):Int)),(40, .slice g b.af.ls.length l),(3, .int .i64 0),(2, .slice none 0 0),(1, .pointer (some ⟨E,0,none⟩))]) cz (fun i=>a.aa.ls.length - i.2.2.2) (aR,aS,F,0) ⟨rfl,rfl,rfl,rfl,rfl,rfl,rfl,rfl,rfl,rfl,rfl,rfl,rfl,rfl,rfl,rfl,rfl,rfl,rfl,rfl,rfl,rfl,rfl,rfl,rfl,rfl,rfl,rfl,rfl,rfl,rfl,trivial⟩ (aF.2 ⟨gp,by omega,by omega,rfl⟩) ?_
 rintro ⟨V,X,u,o⟩ jU dW
 show Wp _ _ _ [(5, .slice V u.length X),(65, .int .i64 ((o:Nat):Int)),(64, .int .i64 ((a.aa.ls.length:Nat):Int)),(63, .slice a.aa.A a.aa.ls.length a.aa.c),(62, .pointer (some ⟨h,4,none⟩)),(61, .slice aR F.length aS),(60, .slice U 5 5),(59, .int .u64 ((a.aa.ls.length:Nat):Int)),(58, .int .i64 ((a.aa.ls.length:Nat):Int)),(57, .slice a.aa.A a.aa.ls.length a.aa.c),(56, .pointer (some ⟨h,4,none⟩)),(55, .int .u64 ((a.bJ:Nat):Int)),(54, .pointer (some ⟨h,3,none⟩)),(53, .int .u64 ((a.aj:Nat):Int)),(52, .pointer (some ⟨h,2,none⟩)),(51, .int .u64 ((Int.toNat (IntKind.u64.wrap a.ak):Nat):Int)),(50, .int .i64 a.ak),(49, .pointer (some ⟨h,1,none⟩)),(48, .int .u64 ((a.av:Nat):Int)),(47, .pointer (some ⟨h,0,none⟩)),(46, .slice K j.length L),(7, .pointer (some ⟨h,0,none⟩)),(45, .agg (ax.cells a).toArray),(44, .pointer (some ⟨ab g,ao g+f *5,none⟩)),(43, .bool (decide (((f:Nat):Int) < ((b.af.ls.length:Nat):Int)))),(42, .int .i64 ((f:Nat):Int)),(41, .int .i64 ((b.af.ls.length:Nat):Int)),(40, .slice g b.af.ls.length l),(3, .int .i64 0),(2, .slice none 0 0),(1, .pointer (some ⟨E,0,none⟩))] _ _
 obtain⟨ai,iP,iQ,aW⟩:=aF.1 dW
 refine sr (Kz (.bool (decide (((o:Nat):Int) < ((a.aa.ls.length:Nat):Int)))) (nt (BS ?_)))
 by_cases cB:((o:Nat):Int) < ((a.aa.ls.length:Nat):Int)
 obtain⟨M,aX⟩:=bU (ls:=a.aa.ls) (i:=o) gu (by decide) (ai.ro (R _ (List.mem_of_getElem? G)).1) (by first | omega | (simp; done) | (simp; omega))
 have dX:=drop_at aX
 refine jT (dT cB) (sk (BS (bo (sr (fw (.pointer (some ⟨ab a.aa.A,ao a.aa.A+o *1,none⟩)) (Ch (lU) rfl rfl ((ai.ro (R _ (List.mem_of_getElem? G)).1).addr (i:=o) (by omega)) (by omega)) (fw (.int .i64 M) (Cc rfl (bi.one Tryz.isAgg3 (((ai.ro (R _ (List.mem_of_getElem? G)).1).elem gu aX (by decide)).at_ (k:=0) rfl))) (An rfl (BR (Mz rfl (Mz rfl ?_))))))))))
 have iR:Int.toNat (IntKind.u64.wrap M)≤18446744073709551615:=gW _
 refine fw (.int .u64 ((Int.toNat (IntKind.u64.wrap M):Nat):Int)) (Ci (e:=IntKind.u64.wrap M) yk (di _)) ?_
 refine ji [.int .u64 ((Int.toNat (IntKind.u64.wrap M):Nat):Int)] 22 1 1 ai ?_
 intro cK jV aY
 replace aY:=CG (y:=row cK 1 1 (List.flatMap (eN .u64) ([(Int.toNat (IntKind.u64.wrap M))])) 22 1) rfl aY
 have gq:=aY.pk [6,0,1,2,3,4,5]
 obtain⟨aZ,bf⟩:∃ q,dC u ([(Int.toNat (IntKind.u64.wrap M))])=q:=⟨_,rfl⟩
 obtain⟨jW,dY,iT,dZ,d9⟩:=Cg gq
 refine WL.do rfl (Cq Tryz.call29 rfl (eG _ _ V u.length X u cK 1 1 ([(Int.toNat (IntKind.u64.wrap M))]) aZ dY rfl (by omega) (d9 _ 0 _ rfl eH) rfl (by simp) (by first | omega | (simp only [List.length_cons,List.length_nil,List.length_append]; omega)) (by refine⟨EK rfl, ?_⟩; simp only [List.mem_cons,List.not_mem_nil,or_false,forall_eq_or_imp,forall_eq]; omega) bf) ?_)
 rintro _ jX ⟨gy,gz,rfl,ed,bg⟩
 have cO:=dZ _ _ ed
 have iU:=cO.rowC (i:=0) rfl
 replace bg:aZ.length≤u.length+0+10 *1:=bg
 refine Az rfl (Cf (bN (Ca (BR (fw (.int .i64 ((o+1:Nat):Int)) (Ci (e:=IntKind.i64.wrap (((o:Nat):Int)+1)) yk (by rw [EL _ (by omega)]; omega)) (Mz rfl (Cf ?_)))))))
 have gB:=cO.pk [2,3,4,5,6,0]
 exact Cm (gy,gz,aZ,o+1) ⟨rfl,rfl,rfl,rfl,rfl,rfl,rfl,rfl,rfl,rfl,rfl,rfl,rfl,rfl,rfl,rfl,rfl,rfl,rfl,rfl,rfl,rfl,rfl,rfl,rfl,rfl,rfl,rfl,rfl,rfl,rfl,trivial⟩ (aF.2 ⟨gB,by omega,by omega,et (aW) (et (congrArg (fun q=>dR q u) dX) (ag bf))⟩) (by show a.aa.ls.length - (o+1) < a.aa.ls.length - o; omega)
 refine jF (dF cB) (Wp.exit (Cb ?_))
 have ek:dR a.aa.ls F=u:=et (aW) (et (congrArg (fun q=>dR q u) (bM (ls:=a.aa.ls) (i:=o) (by omega))) rfl)
 refine Cb (Cn (bN (Ca (BR (fw (.int .i64 ((f+1:Nat):Int)) (Ci (e:=IntKind.i64.wrap (((f:Nat):Int)+1)) yk (by rw [EL _ (by omega)]; omega)) (Mz rfl (Cf ?_)))))))
 have gD:=ai.pk [2,3,4,5]
 exact Cm (V,X,u,f+1) ⟨rfl,rfl,rfl,rfl,rfl,rfl,rfl,trivial⟩ (aC.2 ⟨gD,by omega,by omega,et (aN) (et (congrArg (fun q=>dS b q j) dM) (et (ag aQ) (ag ek)))⟩) (by show b.af.ls.length - (f+1) < b.af.ls.length - f; omega)
 refine jF (dF cu) (Wp.exit (Cb ?_))
 have eu:dS b b.af.ls Z=j:=et (aN) (et (congrArg (fun q=>dS b q j) (bM (ls:=b.af.ls) (i:=f) (by omega))) rfl)
 refine Cb (Cn (Ca (sr (Mz rfl (Kz (.pointer (some ⟨E,6,none⟩)) (Lz (.slice n b.aB.ls.length s) S 1 Tryz.isAgg33 (Kz (.int .i64 ((b.aB.ls.length:Nat):Int)) (fw (.int .u64 ((b.aB.ls.length:Nat):Int)) (Ci (e:=IntKind.u64.wrap ((b.aB.ls.length:Nat):Int)) yk (IntWalk.u64_in _ (by omega))) ?_))))))))
 refine ji [.int .u64 ((b.aB.ls.length:Nat):Int)] 22 1 1 S ?_
 intro ak jY bn
 replace bn:=CG (y:=row ak 1 1 (List.flatMap (eN .u64) ([b.aB.ls.length])) 22 1) rfl bn
 have gF:=bn.pk [4,0,1,2,3]
 obtain⟨N,bq⟩:∃ q,dC j ([b.aB.ls.length])=q:=⟨_,rfl⟩
 obtain⟨jZ,eD,iV,eF,eO⟩:=Cg gF
 refine WL.do rfl (Cq Tryz.call29 rfl (eG _ _ K j.length L j ak 1 1 ([b.aB.ls.length]) N eD rfl (by omega) (eO _ 0 _ rfl eH) rfl (by simp) (by first | omega | (simp only [List.length_cons,List.length_nil,List.length_append]; omega)) (by refine⟨EK rfl, ?_⟩; simp only [List.mem_cons,List.not_mem_nil,or_false,forall_eq_or_imp,forall_eq]; omega) bq) ?_)
 rintro _ j3 ⟨gG,gH,rfl,eP,bu⟩
 have bv:=eF _ _ eP
 have iW:=bv.rowC (i:=0) rfl
 replace bu:N.length≤j.length+0+10 *1:=bu
 refine An rfl (BS (sr (Kz (.pointer (some ⟨E,6,none⟩)) (Lz (.slice n b.aB.ls.length s) bv 3 Tryz.isAgg33 (Kz (.int .i64 ((b.aB.ls.length:Nat):Int)) (Mn rfl (bo ?_)))))))
 have gI:=bv.pk [1,2,3,4,0]
 obtain⟨cZ,eQ⟩:∃ q:((Option Addr) × Nat × (List UInt8) × Nat)→World→Prop,q=fun(i:(Option Addr) × Nat × (List UInt8) × Nat) w'=>Own w D w' [row ak 1 1 (List.flatMap (eN .u64) ([b.aB.ls.length])) 22 1,row ah 4 4 (List.flatMap (eN .u64) ([(Int.toNat (IntKind.u64.wrap b.aa)),b.aj,b.aR,b.aH])) 22 1,blk E [.int .i64 b.aa, .int .u64 ((b.aj:Nat):Int), .int .u64 ((b.aR:Nat):Int), .int .u64 ((b.aH:Nat):Int), .slice C b.ai.ls.length B, .slice g b.af.ls.length l, .slice n b.aB.ls.length s] 35,row bV 1 1 (List.flatMap (eN .u64) ([b.af.ls.length])) 22 1,row i.1 i.2.2.1.length i.2.1 (List.flatMap eB i.2.2.1) 5 1]∧(i.2.2.2≤b.aB.ls.length∧((i.2.2.1.length:Nat):Int)≤((N.length:Nat):Int)+5800 *((i.2.2.2:Nat):Int)∧dU b.aB.ls N=dU (List.drop i.2.2.2 b.aB.ls) i.2.2.1):=⟨_,rfl⟩
 have aG:∀ {P:Option Addr} {Q:Nat} {r:List UInt8} {p:Nat} {w':World},cZ (P,Q,r,p) w'↔Own w D w' [row ak 1 1 (List.flatMap (eN .u64) ([b.aB.ls.length])) 22 1,row ah 4 4 (List.flatMap (eN .u64) ([(Int.toNat (IntKind.u64.wrap b.aa)),b.aj,b.aR,b.aH])) 22 1,blk E [.int .i64 b.aa, .int .u64 ((b.aj:Nat):Int), .int .u64 ((b.aR:Nat):Int), .int .u64 ((b.aH:Nat):Int), .slice C b.ai.ls.length B, .slice g b.af.ls.length l, .slice n b.aB.ls.length s] 35,row bV 1 1 (List.flatMap (eN .u64) ([b.af.ls.length])) 22 1,row P r.length Q (List.flatMap eB r) 5 1]∧p≤b.aB.ls.length∧((r.length:Nat):Int)≤((N.length:Nat):Int)+5800 *((p:Nat):Int)∧dU b.aB.ls N=dU (List.drop p b.aB.ls) r:=by intros; subst eQ; exact Iff.rfl
 refine Wp.loop (fun i:(Option Addr) × Nat × (List UInt8) × Nat=> [(5, .slice i.1 i.2.2.1.length i.2.1),(86, .int .i64 ((i.2.2.2:Nat):Int)),(85, .int .i64 ((b.aB.ls.length:Nat):Int)),(84, .slice n b.aB.ls.length s),(3, .int .i64 0),(2, .slice none 0 0)]) cZ (fun i=>b.aB.ls.length - i.2.2.2) (gG,gH,N,0) ⟨rfl,rfl,rfl,rfl,rfl,rfl,trivial⟩ (aG.2 ⟨gI,by omega,by omega,rfl⟩) ?_
 rintro ⟨P,Q,r,p⟩ j4 eT
 show Wp _ _ _ [(5, .slice P r.length Q),(86, .int .i64 ((p:Nat):Int)),(85, .int .i64 ((b.aB.ls.length:Nat):Int)),(84, .slice n b.aB.ls.length s),(3, .int .i64 0),(2, .slice none 0 0)] _ _
 obtain⟨ay,iX,iY,bz⟩:=aG.1 eT
 refine sr (Kz (.bool (decide (((p:Nat):Int) < ((b.aB.ls.length:Nat):Int)))) (nt (BS ?_)))
 by_cases df:((p:Nat):Int) < ((b.aB.ls.length:Nat):Int)
 obtain⟨d,J⟩:=bU (ls:=bO) (i:=p) aT.len (by decide) (ay.ro aB) (by first | omega | (simp; done) | (simp; omega))
 have bA:=jb bS J
 have iZ:=(O _ (List.mem_of_getElem? J)).2.1
 have ja:List.length (List.map Cj d.au.ls)=d.au.ls.length:=List.length_map ..
 have af:(Cz d).aj≤18446744073709551615∧(Cz d).bJ≤18446744073709551615∧List.length (Cz d).au.ls≤24∧∀ z ∈ (Cz d).au.ls,z.aC.length≤16∧z.aA.ls.length≤4∧∀ q ∈ z.aA.ls,q.aV.length≤12∧q.aC.length≤16:=hsm35.2.2.2.2.2.1 _ (List.mem_of_getElem? bA)
 have hz230p0:d.aj≤18446744073709551615:=by have I:=af.1; first | exact I | (simp only [Cz,List.length_map] at I; exact I)
 have hz230p1:d.bJ≤18446744073709551615:=by have I:=af.2.1; first | exact I | (simp only [Cz,List.length_map] at I; exact I)
 have hz230p2:d.au.ls.length≤24:=by have I:=af.2.2.1; first | exact I | (simp only [Cz,List.length_map] at I; exact I)
 have eU:=drop_at bA
 refine jT (dT df) (sk (BS (bo (sr (fw (.pointer (some ⟨ab n,ao n+p *4,none⟩)) (Ch (qx) rfl rfl ((ay.ro aB).addr (i:=p) (by omega)) (by omega)) (fw (.agg (aT.cells d).toArray) (Cc rfl (Cu (cs:=(aT.cells d)) Tryz.isAgg84 Tryz.sizeOf84 ((ay.ro aB).elem aT.len J (by decide)))) ?_))))))
 refine dB [.int .i64 0, .int .u64 0, .int .u64 0, .slice none 0 0] 84 ay ?_
 intro az j5 gJ
 refine dw (aT.cells d) 0 gJ Tryz.sizeOf84 ?_
 intro gK gL
 refine nt ?_
 have aH:=gL.drew
 refine CP [] (fun W=> ∃ L',Own w D W ([blk az (aT.cells d) 84,row ak 1 1 (List.flatMap (eN .u64) ([b.aB.ls.length])) 22 1,row ah 4 4 (List.flatMap (eN .u64) ([(Int.toNat (IntKind.u64.wrap b.aa)),b.aj,b.aR,b.aH])) 22 1,blk E [.int .i64 b.aa, .int .u64 ((b.aj:Nat):Int), .int .u64 ((b.aR:Nat):Int), .int .u64 ((b.aH:Nat):Int), .slice C b.ai.ls.length B, .slice g b.af.ls.length l, .slice n b.aB.ls.length s] 35,row bV 1 1 (List.flatMap (eN .u64) ([b.af.ls.length])) 22 1]++L')) (by kernel_rfl) (by kernel_rfl) (bP.block (Cs (Cs (bP.block (Cs CR))))) ⟨_,aH⟩ ?_
 revert aH
 generalize World.drew gK=j6
 intro aH
 refine GX.take (v:= .slice P r.length Q) (rs:= []) 0 rfl (by kernel_rfl) (fun _ _=>BX rfl) (GX.take (v:= .pointer (some ⟨az,0,none⟩)) (rs:= []) 1 rfl (by kernel_rfl) (fun _ _=>yk) (GX.take (v:= .int .i64 d.ak) (rs:= []) 2 rfl (by kernel_rfl) (fun _ ⟨_,H9⟩=>Cc rfl (bi.one Tryz.isAgg3 (Cv (H9.cls (i:=0) rfl) rfl))) ?_))
 have jc:Int.toNat (IntKind.u64.wrap d.ak)≤18446744073709551615:=gW _
 refine GX.take (v:= .int .u64 ((Int.toNat (IntKind.u64.wrap d.ak):Nat):Int)) (rs:= []) 3 rfl (by kernel_rfl) (fun _ _=>Ci (e:=IntKind.u64.wrap d.ak) yk (di _)) (GX.take (v:= .pointer (some ⟨az,1,none⟩)) (rs:= []) 4 rfl (by kernel_rfl) (fun _ _=>yk) (GX.take (v:= .int .u64 ((d.aj:Nat):Int)) (rs:= []) 5 rfl (by kernel_rfl) (fun _ ⟨_,H9⟩=>Cc rfl (bi.one Tryz.isAgg22 (Cv (H9.cls (i:=0) rfl) rfl))) (GX.take (v:= .pointer (some ⟨az,2,none⟩)) (rs:= []) 6 rfl (by kernel_rfl) (fun _ _=>yk) (GX.take (v:= .int .u64 ((d.bJ:Nat):Int)) (rs:= []) 7 rfl (by kernel_rfl) (fun _ ⟨_,H9⟩=>Cc rfl (bi.one Tryz.isAgg22 (Cv (H9.cls (i:=0) rfl) rfl))) (GX.take (v:= .pointer (some ⟨az,3,none⟩)) (rs:= []) 10 rfl (by kernel_rfl) (fun _ _=>yk) (GX.take (v:= .slice d.au.A d.au.ls.length d.au.c) (rs:= []) 11 rfl (by kernel_rfl) (fun _ ⟨_,H9⟩=>Cc rfl (bi.one Tryz.isAgg82 (Cv (H9.cls (i:=0) rfl) rfl))) ?_))))))
 refine GX.do 8 rfl (by kernel_rfl) (De (cs:= [.int .u64 ((Int.toNat (IntKind.u64.wrap d.ak):Nat):Int), .int .u64 ((d.aj:Nat):Int), .int .u64 ((d.bJ:Nat):Int)]) (t:=22) (sz:=1) (m:=3) aH rfl rfl (fun _=>by kernel_rfl) rfl (by decide) ?_)
 intro dh kg bB
 replace bB:=CG (y:=row dh 3 3 (List.flatMap (eN .u64) ([(Int.toNat (IntKind.u64.wrap d.ak)),d.aj,d.bJ])) 22 1) rfl bB
 have dn:=bB.pk [1,2,3,4,5,0,6]
 refine⟨.inr ⟨_,dn⟩, ?_⟩
 have gM:=dn.pk [6,0,1,2,3,4,5]
 obtain⟨Y,bC⟩:∃ q,dC r ([(Int.toNat (IntKind.u64.wrap d.ak)),d.aj,d.bJ])=q:=⟨_,rfl⟩
 obtain⟨ko,eX,jd,eY,eZ⟩:=Cg gM
 refine GX.do 9 rfl (by kernel_rfl) (Cq Tryz.call29 rfl (eG _ _ P r.length Q r dh 3 3 ([(Int.toNat (IntKind.u64.wrap d.ak)),d.aj,d.bJ]) Y eX rfl (by omega) (eZ _ 5 _ rfl eH) rfl (by simp) (by first | omega | (simp only [List.length_cons,List.length_nil,List.length_append]; omega)) (by refine⟨EK rfl, ?_⟩; simp only [List.mem_cons,List.not_mem_nil,or_false,forall_eq_or_imp,forall_eq]; omega) bC) ?_)
 rintro _ kr ⟨gN,gP,rfl,fe,bD⟩
 have dx:=eY _ _ fe
 have je:=dx.rowC (i:=0) rfl
 replace bD:Y.length≤r.length+0+10 *3:=bD
 have dz:=dx.pk [1,2,3,4,5,0,6]
 refine⟨.inr ⟨_,dz⟩, ?_⟩
 have gQ:=dz.pk [5,0,1,2,3,4,6]
 have jf:d.au.ls.length=List.length (List.map Cj d.au.ls):=(by first | rfl | omega | (simp only [List.length_append,List.length_cons,List.length_nil,List.length_take,List.length_drop,List.length_set,List.length_replicate,List.length_map] <;> omega))
 obtain⟨aI,bE⟩:∃ q,om Y (List.map Cj d.au.ls)=q:=⟨_,rfl⟩
 obtain⟨ku,fo,bF,fq,jg⟩:=Cg gQ
 refine GX.do 12 rfl (by kernel_rfl) (Cq Tryz.call36 rfl (sw _ _ gN Y.length gP Y d.au.A d.au.ls.length d.au.c d.au.ls (List.map Cj d.au.ls) aI fo rfl (by omega) (rfl:List.map Cj d.au.ls=List.map Cj d.au.ls) (bF _ (O _ (List.mem_of_getElem? J)).1) (fun x9 h9=>⟨bF _ ((O _ (List.mem_of_getElem? J)).2.2 x9 h9).1,((O _ (List.mem_of_getElem? J)).2.2 x9 h9).2⟩) (by first | rfl | omega | (simp only [List.length_append,List.length_cons,List.length_nil,List.length_take,List.length_drop,List.length_set,List.length_replicate,List.length_map] <;> omega)) (by first | omega | (simp only [List.length_append,List.length_cons,List.length_nil,List.length_take,List.length_drop,List.length_set]; omega)) (by first | omega | (simp only [List.length_cons,List.length_nil,List.length_append]; omega)) (by exact af.2.2) bE) ?_)
 rintro _ kv ⟨dA,dD,rfl,fu,bK⟩
 have dG:=fq _ _ fu
 have jh:=dG.rowC (i:=0) rfl
 replace bK:aI.length≤Y.length+10+239 *List.length (List.map Cj d.au.ls):=bK
 have dH:=dG.pk [1,2,3,4,5,0,6]
 refine⟨.inr ⟨_,dH⟩, ?_⟩
 refine GX.take (v:= .slice dA aI.length dD) (rs:= []) 13 rfl (by kernel_rfl) (fun _ _=>CF rfl) (Cx (by kernel_rfl) (bN (Ca (BR (fw (.int .i64 ((p+1:Nat):Int)) (Ci (e:=IntKind.i64.wrap (((p:Nat):Int)+1)) yk (by rw [EL _ (by omega)]; omega)) (Mz rfl (Cf ?_)))))))
 have gT:=dH.pk [1,2,3,4,5]
 exact Cm (dA,dD,aI,p+1) ⟨rfl,rfl,rfl,rfl,rfl,rfl,trivial⟩ (aG.2 ⟨gT,by omega,by omega,et (bz) (et (congrArg (fun q=>dU q r) eU) (et (ag bC) (ag bE)))⟩) (by show b.aB.ls.length - (p+1) < b.aB.ls.length - p; omega)
 refine jF (dF df) (Wp.exit (Cb ?_))
 have fA:dU b.aB.ls N=r:=et (bz) (et (congrArg (fun q=>dU q r) (bM (ls:=b.aB.ls) (i:=p) (by omega))) rfl)
 refine Cb (Cn (Ca (sr (Mz rfl (Az rfl (An rfl (rt (CK (oV rfl rfl rfl) ?_))))))))
 have gU:=ay.pk [4]
 have e:jR b=(r,0):=et (ag bX) (et (ip fG) (et (ag fH) (et (ag ic) (et (ag bY) (et (ag eu) (et (ag bq) (ag fA)))))))
 obtain⟨rfl,rfl⟩:=iI (e.symm.trans hr)
 exact⟨P,Q,rfl,gU,(by first | omega | exact EM _)⟩
 refine GY.do 8 rfl (by kernel_rfl) (De (cs:= [.int .u64 ((b.af.ls.length:Nat):Int)]) (t:=22) (sz:=1) (m:=1) fI rfl rfl (fun _=>by kernel_rfl) rfl (by decide) ?_)
 intro bW l5 jk
 replace jk:=CG (y:=row bW 1 1 (List.flatMap (eN .u64) ([b.af.ls.length])) 22 1) rfl jk
 have kw:=jk.pk [1,2,0,3]
 refine⟨.inr ⟨_,kw⟩, ?_⟩
 have kW:=kw.pk [3,0,1,2]
 obtain⟨fE,ik⟩:∃ q,lu aJ b.ai.ls=q:=⟨_,rfl⟩
 obtain⟨l6,ky,kz,kC,lK⟩:=Cg kW
 refine GX.do 3 rfl (by kernel_rfl) (Cq Tryz.call30 rfl (mJ _ _ iB aJ.length iC aJ C b.ai.ls.length B b.ai.ls fE ky rfl (by omega) (kz _ dI) rfl (by omega) (by first | omega | (simp only [List.length_cons,List.length_nil,List.length_append]; omega)) (by exact⟨hsm35.1,hsm35.2.1⟩) ik) ?_)
 rintro _ l7 ⟨kX,kY,rfl,kD,il⟩
 have kE:=kC _ _ kD
 have lL:=kE.rowC (i:=0) rfl
 replace il:fE.length≤aJ.length+10+32 *b.ai.ls.length:=il
 have fJ:=kE.pk [1,2,0,3]
 refine⟨.inr ⟨_,fJ⟩, ?_⟩
 have iF:=fJ.pk [2,0,1,3]
 obtain⟨Z,bY⟩:∃ q,dC fE ([b.af.ls.length])=q:=⟨_,rfl⟩
 obtain⟨kU,fK,jL,fM,fO⟩:=Cg iF
 refine GX.do 9 rfl (by kernel_rfl) (Cq Tryz.call29 rfl (eG _ _ kX fE.length kY fE bW 1 1 ([b.af.ls.length]) Z fK rfl (by omega) (fO _ 2 _ rfl eH) rfl (by simp) (by first | omega | (simp only [List.length_cons,List.length_nil,List.length_append]; omega)) (by refine⟨EK rfl, ?_⟩; simp only [List.mem_cons,List.not_mem_nil,or_false,forall_eq_or_imp,forall_eq]; omega) bY) ?_)
 rintro _ kV ⟨fP,fQ,rfl,fT,aK⟩
 have fU:=fM _ _ fT
 have iG:=fU.rowC (i:=0) rfl
 replace aK:Z.length≤fE.length+0+10 *1:=aK
 have aM:=fU.pk [1,2,0,3]
 refine⟨.inr ⟨_,aM⟩, ?_⟩
 refine GX.take (v:= .slice fP Z.length fQ) (rs:= []) 10 rfl (by kernel_rfl) (fun _ _=>CF rfl) (Cx (by kernel_rfl) (Ca (BS (sr (Kz (.pointer (some ⟨E,5,none⟩)) (Lz (.slice g b.af.ls.length l) aM 1 Tryz.isAgg32 (Kz (.int .i64 ((b.af.ls.length:Nat):Int)) (Mn rfl (bo ?_)))))))))
 have fV:=aM.pk [0,1,3,2]
 obtain⟨bZ,dK⟩:∃ q:((Option Addr) × Nat × (List UInt8) × Nat)→World→Prop,q=fun(i:(Option Addr) × Nat × (List UInt8) × Nat) w'=>Own w D w' [row ah 4 4 (List.flatMap (eN .u64) ([(Int.toNat (IntKind.u64.wrap b.aa)),b.aj,b.aR,b.aH])) 22 1,blk E [.int .i64 b.aa, .int .u64 ((b.aj:Nat):Int), .int .u64 ((b.aR:Nat):Int), .int .u64 ((b.aH:Nat):Int), .slice C b.ai.ls.length B, .slice g b.af.ls.length l, .slice n b.aB.ls.length s] 35,row bW 1 1 (List.flatMap (eN .u64) ([b.af.ls.length])) 22 1,row i.1 i.2.2.1.length i.2.1 (List.flatMap eB i.2.2.1) 5 1]∧(i.2.2.2≤b.af.ls.length∧((i.2.2.1.length:Nat):Int)≤((Z.length:Nat):Int)+100 *((i.2.2.2:Nat):Int)∧dS b b.af.ls Z=dS b (List.drop i.2.2.2 b.af.ls) i.2.2.1):=⟨_,rfl⟩
 have aC:∀ {K:Option Addr} {L:Nat} {j:List UInt8} {f:Nat} {w':World},bZ (K,L,j,f) w'↔Own w D w' [row ah 4 4 (List.flatMap (eN .u64) ([(Int.toNat (IntKind.u64.wrap b.aa)),b.aj,b.aR,b.aH])) 22 1,blk E [.int .i64 b.aa, .int .u64 ((b.aj:Nat):Int), .int .u64 ((b.aR:Nat):Int), .int .u64 ((b.aH:Nat):Int), .slice C b.ai.ls.length B, .slice g b.af.ls.length l, .slice n b.aB.ls.length s] 35,row bW 1 1 (List.flatMap (eN .u64) ([b.af.ls.length])) 22 1,row K j.length L (List.flatMap eB j) 5 1]∧f≤b.af.ls.length∧((j.length:Nat):Int)≤((Z.length:Nat):Int)+100 *((f:Nat):Int)∧dS b b.af.ls Z=dS b (List.drop f b.af.ls) j:=by intros; subst dK; exact Iff.rfl
 refine Wp.loop (fun i:(Option Addr) × Nat × (List UInt8) × Nat=> [(5, .slice i.1 i.2.2.1.length i.2.1),(42, .int .i64 ((i.2.2.2:Nat):Int)),(41, .int .i64 ((b.af.ls.length:Nat):Int)),(40, .slice g b.af.ls.length l),(3, .int .i64 0),(2, .slice none 0 0),(1, .pointer (some ⟨E,0,none⟩))]) bZ (fun i=>b.af.ls.length - i.2.2.2) (fP,fQ,Z,0) ⟨rfl,rfl,rfl,rfl,rfl,rfl,rfl,trivial⟩ (aC.2 ⟨fV,by omega,by omega,rfl⟩) ?_
 rintro ⟨K,L,j,f⟩ jM dL
 show Wp _ _ _ [(5, .slice K j.length L),(42, .int .i64 ((f:Nat):Int)),(41, .int .i64 ((b.af.ls.length:Nat):Int)),(40, .slice g b.af.ls.length l),(3, .int .i64 0),(2, .slice none 0 0),(1, .pointer (some ⟨E,0,none⟩))] _ _
 obtain⟨S,iH,iJ,aN⟩:=aC.1 dL
 refine sr (Kz (.bool (decide (((f:Nat):Int) < ((b.af.ls.length:Nat):Int)))) (nt (BS ?_)))
 by_cases cu:((f:Nat):Int) < ((b.af.ls.length:Nat):Int)
 obtain⟨a,G⟩:=bU (ls:=bL) (i:=f) ax.len (by decide) (S.ro aA) (by first | omega | (simp; done) | (simp; omega))
 have aO:=jb bR G
 have iK:=(R _ (List.mem_of_getElem? G)).2
 have ae:(Co a).av≤18446744073709551615∧(Co a).aj≤18446744073709551615∧(Co a).bJ≤18446744073709551615∧List.length (Co a).aa.ls≤4:=hsm35.2.2.2.1 _ (List.mem_of_getElem? aO)
 have hz123p0:a.av≤18446744073709551615:=by have I:=ae.1; first | exact I | (simp only [Co,List.length_map] at I; exact I)
 have hz123p1:a.aj≤18446744073709551615:=by have I:=ae.2.1; first | exact I | (simp only [Co,List.length_map] at I; exact I)
 have hz123p2:a.bJ≤18446744073709551615:=by have I:=ae.2.2.1; first | exact I | (simp only [Co,List.length_map] at I; exact I)
 have hz123p3:a.aa.ls.length≤4:=by have I:=ae.2.2.2; first | exact I | (simp only [Co,List.length_map] at I; exact I)
 have dM:=drop_at aO
 refine jT (dT cu) (sk (BS (bo (sr (fw (.pointer (some ⟨ab g,ao g+f *5,none⟩)) (Ch (qw) rfl rfl ((S.ro aA).addr (i:=f) (by omega)) (by omega)) (fw (.agg (ax.cells a).toArray) (Cc rfl (Cu (cs:=(ax.cells a)) Tryz.isAgg79 Tryz.sizeOf79 ((S.ro aA).elem ax.len G (by decide)))) ?_))))))
 refine dB [.int .u64 0, .int .i64 0, .int .u64 0, .int .u64 0, .slice none 0 0] 79 S ?_
 intro h jN fZ
 refine dw (ax.cells a) 0 fZ Tryz.sizeOf79 ?_
 intro jO T
 refine ns (Mz rfl (Kz (.pointer (some ⟨h,0,none⟩)) (Lz (.int .u64 ((a.av:Nat):Int)) T 0 Tryz.isAgg22 (Kz (.pointer (some ⟨h,1,none⟩)) (Lz (.int .i64 a.ak) T 0 Tryz.isAgg3 ?_)))))
 have iL:Int.toNat (IntKind.u64.wrap a.ak)≤18446744073709551615:=gW _
 refine fw (.int .u64 ((Int.toNat (IntKind.u64.wrap a.ak):Nat):Int)) (Ci (e:=IntKind.u64.wrap a.ak) yk (di _)) (Kz (.pointer (some ⟨h,2,none⟩)) (Lz (.int .u64 ((a.aj:Nat):Int)) T 0 Tryz.isAgg22 (Kz (.pointer (some ⟨h,3,none⟩)) (Lz (.int .u64 ((a.bJ:Nat):Int)) T 0 Tryz.isAgg22 (Kz (.pointer (some ⟨h,4,none⟩)) (Lz (.slice a.aa.A a.aa.ls.length a.aa.c) T 0 Tryz.isAgg77 (Kz (.int .i64 ((a.aa.ls.length:Nat):Int)) (fw (.int .u64 ((a.aa.ls.length:Nat):Int)) (Ci (e:=IntKind.u64.wrap ((a.aa.ls.length:Nat):Int)) yk (IntWalk.u64_in _ (by omega))) ?_))))))))
 refine ji [.int .u64 ((a.av:Nat):Int), .int .u64 ((Int.toNat (IntKind.u64.wrap a.ak):Nat):Int), .int .u64 ((a.aj:Nat):Int), .int .u64 ((a.bJ:Nat):Int), .int .u64 ((a.aa.ls.length:Nat):Int)] 22 1 5 T ?_
 intro U jP aP
 replace aP:=CG (y:=row U 5 5 (List.flatMap (eN .u64) ([a.av,(Int.toNat (IntKind.u64.wrap a.ak)),a.aj,a.bJ,a.aa.ls.length])) 22 1) rfl aP
 have gm:=aP.pk [5,0,1,2,3,4]
 obtain⟨F,aQ⟩:∃ q,dC j ([a.av,(Int.toNat (IntKind.u64.wrap a.ak)),a.aj,a.bJ,a.aa.ls.length])=q:=⟨_,rfl⟩
 obtain⟨jQ,dN,iM,dO,dP⟩:=Cg gm
 refine WL.do rfl (Cq Tryz.call29 rfl (eG _ _ K j.length L j U 5 5 ([a.av,(Int.toNat (IntKind.u64.wrap a.ak)),a.aj,a.bJ,a.aa.ls.length]) F dN rfl (by omega) (dP _ 0 _ rfl eH) rfl (by simp) (by first | omega | (simp only [List.length_cons,List.length_nil,List.length_append]; omega)) (by refine⟨EK rfl, ?_⟩; simp only [List.mem_cons,List.not_mem_nil,or_false,forall_eq_or_imp,forall_eq]; omega) aQ) ?_)
 rintro _ jS ⟨aR,aS,rfl,dQ,aU⟩
 have aV:=dO _ _ dQ
 have iO:=aV.rowC (i:=0) rfl
 replace aU:F.length≤j.length+0+10 *5:=aU
 refine Ar rfl (Kz (.pointer (some ⟨h,4,none⟩)) (Lz (.slice a.aa.A a.aa.ls.length a.aa.c) aV 2 Tryz.isAgg77 (Kz (.int .i64 ((a.aa.ls.length:Nat):Int)) (Mn rfl (bo ?_)))))
 have gp:=aV.pk [1,2,3,4,5,0]
 obtain⟨cz,dV⟩:∃ q:((Option Addr) × Nat × (List UInt8) × Nat)→World→Prop,q=fun(i:(Option Addr) × Nat × (List UInt8) × Nat) w'=>Own w D w' [row U 5 5 (List.flatMap (eN .u64) ([a.av,(Int.toNat (IntKind.u64.wrap a.ak)),a.aj,a.bJ,a.aa.ls.length])) 22 1,blk h (ax.cells a) 79,row ah 4 4 (List.flatMap (eN .u64) ([(Int.toNat (IntKind.u64.wrap b.aa)),b.aj,b.aR,b.aH])) 22 1,blk E [.int .i64 b.aa, .int .u64 ((b.aj:Nat):Int), .int .u64 ((b.aR:Nat):Int), .int .u64 ((b.aH:Nat):Int), .slice C b.ai.ls.length B, .slice g b.af.ls.length l, .slice n b.aB.ls.length s] 35,row bW 1 1 (List.flatMap (eN .u64) ([b.af.ls.length])) 22 1,row i.1 i.2.2.1.length i.2.1 (List.flatMap eB i.2.2.1) 5 1]∧(i.2.2.2≤a.aa.ls.length∧((i.2.2.1.length:Nat):Int)≤((F.length:Nat):Int)+10 *((i.2.2.2:Nat):Int)∧dR a.aa.ls F=dR (List.drop i.2.2.2 a.aa.ls) i.2.2.1):=⟨_,rfl⟩
 have aF:∀ {V:Option Addr} {X:Nat} {u:List UInt8} {o:Nat} {w':World},cz (V,X,u,o) w'↔Own w D w' [row U 5 5 (List.flatMap (eN .u64) ([a.av,(Int.toNat (IntKind.u64.wrap a.ak)),a.aj,a.bJ,a.aa.ls.length])) 22 1,blk h (ax.cells a) 79,row ah 4 4 (List.flatMap (eN .u64) ([(Int.toNat (IntKind.u64.wrap b.aa)),b.aj,b.aR,b.aH])) 22 1,blk E [.int .i64 b.aa, .int .u64 ((b.aj:Nat):Int), .int .u64 ((b.aR:Nat):Int), .int .u64 ((b.aH:Nat):Int), .slice C b.ai.ls.length B, .slice g b.af.ls.length l, .slice n b.aB.ls.length s] 35,row bW 1 1 (List.flatMap (eN .u64) ([b.af.ls.length])) 22 1,row V u.length X (List.flatMap eB u) 5 1]∧o≤a.aa.ls.length∧((u.length:Nat):Int)≤((F.length:Nat):Int)+10 *((o:Nat):Int)∧dR a.aa.ls F=dR (List.drop o a.aa.ls) u:=by intros; subst dV; exact Iff.rfl
 refine Wp.loop (fun i:(Option Addr) × Nat × (List UInt8) × Nat=> [(5, .slice i.1 i.2.2.1.length i.2.1),(65, .int .i64 ((i.2.2.2:Nat):Int)),(64, .int .i64 ((a.aa.ls.length:Nat):Int)),(63, .slice a.aa.A a.aa.ls.length a.aa.c),(62, .pointer (some ⟨h,4,none⟩)),(61, .slice aR F.length aS),(60, .slice U 5 5),(59, .int .u64 ((a.aa.ls.length:Nat):Int)),(58, .int .i64 ((a.aa.ls.length:Nat):Int)),(57, .slice a.aa.A a.aa.ls.length a.aa.c),(56, .pointer (some ⟨h,4,none⟩)),(55, .int .u64 ((a.bJ:Nat):Int)),(54, .pointer (some ⟨h,3,none⟩)),(53, .int .u64 ((a.aj:Nat):Int)),(52, .pointer (some ⟨h,2,none⟩)),(51, .int .u64 ((Int.toNat (IntKind.u64.wrap a.ak):Nat):Int)),(50, .int .i64 a.ak),(49, .pointer (some ⟨h,1,none⟩)),(48, .int .u64 ((a.av:Nat):Int)),(47, .pointer (some ⟨h,0,none⟩)),(46, .slice K j.length L),(7, .pointer (some ⟨h,0,none⟩)),(45, .agg (ax.cells a).toArray),(44, .pointer (some ⟨ab g,ao g+f *5,none⟩)),(43, .bool (decide (((f:Nat):Int) < ((b.af.ls.length:Nat):Int)))),(42, .int .i64 ((f:Nat):Int)),(41, .int .i64 ((b.af.ls.length:Nat):Int)),(40, .slice g b.af.ls.length l),(3, .int .i64 0),(2, .slice none 0 0),(1, .pointer (some ⟨E,0,none⟩))]) cz (fun i=>a.aa.ls.length - i.2.2.2) (aR,aS,F,0) ⟨rfl,rfl,rfl,rfl,rfl,rfl,rfl,rfl,rfl,rfl,rfl,rfl,rfl,rfl,rfl,rfl,rfl,rfl,rfl,rfl,rfl,rfl,rfl,rfl,rfl,rfl,rfl,rfl,rfl,rfl,rfl,trivial⟩ (aF.2 ⟨gp,by omega,by omega,rfl⟩) ?_
 rintro ⟨V,X,u,o⟩ jU dW
 show Wp _ _ _ [(5, .slice V u.length X),(65, .int .i64 ((o:Nat):Int)),(64, .int .i64 ((a.aa.ls.length:Nat):Int)),(63, .slice a.aa.A a.aa.ls.length a.aa.c),(62, .pointer (some ⟨h,4,none⟩)),(61, .slice aR F.length aS),(60, .slice U 5 5),(59, .int .u64 ((a.aa.ls.length:Nat):Int)),(58, .int .i64 ((a.aa.ls.length:Nat):Int)),(57, .slice a.aa.A a.aa.ls.length a.aa.c),(56, .pointer (some ⟨h,4,none⟩)),(55, .int .u64 ((a.bJ:Nat):Int)),(54, .pointer (some ⟨h,3,none⟩)),(53, .int .u64 ((a.aj:Nat):Int)),(52, .pointer (some ⟨h,2,none⟩)),(51, .int .u64 ((Int.toNat (IntKind.u64.wrap a.ak):Nat):Int)),(50, .int .i64 a.ak),(49, .pointer (some ⟨h,1,none⟩)),(48, .int .u64 ((a.av:Nat):Int)),(47, .pointer (some ⟨h,0,none⟩)),(46, .slice K j.length L),(7, .pointer (some ⟨h,0,none⟩)),(45, .agg (ax.cells a).toArray),(44, .pointer (some ⟨ab g,ao g+f *5,none⟩)),(43, .bool (decide (((f:Nat):Int) < ((b.af.ls.length:Nat):Int)))),(42, .int .i64 ((f:Nat):Int)),(41, .int .i64 ((b.af.ls.length:Nat):Int)),(40, .slice g b.af.ls.length l),(3, .int .i64 0),(2, .slice none 0 0),(1, .pointer (some ⟨E,0,none⟩))] _ _
 obtain⟨ai,iP,iQ,aW⟩:=aF.1 dW
 refine sr (Kz (.bool (decide (((o:Nat):Int) < ((a.aa.ls.length:Nat):Int)))) (nt (BS ?_)))
 by_cases cB:((o:Nat):Int) < ((a.aa.ls.length:Nat):Int)
 obtain⟨M,aX⟩:=bU (ls:=a.aa.ls) (i:=o) gu (by decide) (ai.ro (R _ (List.mem_of_getElem? G)).1) (by first | omega | (simp; done) | (simp; omega))
 have dX:=drop_at aX
 refine jT (dT cB) (sk (BS (bo (sr (fw (.pointer (some ⟨ab a.aa.A,ao a.aa.A+o *1,none⟩)) (Ch (lU) rfl rfl ((ai.ro (R _ (List.mem_of_getElem? G)).1).addr (i:=o) (by omega)) (by omega)) (fw (.int .i64 M) (Cc rfl (bi.one Tryz.isAgg3 (((ai.ro (R _ (List.mem_of_getElem? G)).1).elem gu aX (by decide)).at_ (k:=0) rfl))) (An rfl (BR (Mz rfl (Mz rfl ?_))))))))))
 have iR:Int.toNat (IntKind.u64.wrap M)≤18446744073709551615:=gW _
 refine fw (.int .u64 ((Int.toNat (IntKind.u64.wrap M):Nat):Int)) (Ci (e:=IntKind.u64.wrap M) yk (di _)) ?_
 refine ji [.int .u64 ((Int.toNat (IntKind.u64.wrap M):Nat):Int)] 22 1 1 ai ?_
 intro cK jV aY
 replace aY:=CG (y:=row cK 1 1 (List.flatMap (eN .u64) ([(Int.toNat (IntKind.u64.wrap M))])) 22 1) rfl aY
 have gq:=aY.pk [6,0,1,2,3,4,5]
 obtain⟨aZ,bf⟩:∃ q,dC u ([(Int.toNat (IntKind.u64.wrap M))])=q:=⟨_,rfl⟩
 obtain⟨jW,dY,iT,dZ,d9⟩:=Cg gq
 refine WL.do rfl (Cq Tryz.call29 rfl (eG _ _ V u.length X u cK 1 1 ([(Int.toNat (IntKind.u64.wrap M))]) aZ dY rfl (by omega) (d9 _ 0 _ rfl eH) rfl (by simp) (by first | omega | (simp only [List.length_cons,List.length_nil,List.length_append]; omega)) (by refine⟨EK rfl, ?_⟩; simp only [List.mem_cons,List.not_mem_nil,or_false,forall_eq_or_imp,forall_eq]; omega) bf) ?_)
 rintro _ jX ⟨gy,gz,rfl,ed,bg⟩
 have cO:=dZ _ _ ed
 have iU:=cO.rowC (i:=0) rfl
 replace bg:aZ.length≤u.length+0+10 *1:=bg
 refine Az rfl (Cf (bN (Ca (BR (fw (.int .i64 ((o+1:Nat):Int)) (Ci (e:=IntKind.i64.wrap (((o:Nat):Int)+1)) yk (by rw [EL _ (by omega)]; omega)) (Mz rfl (Cf ?_)))))))
 have gB:=cO.pk [2,3,4,5,6,0]
 exact Cm (gy,gz,aZ,o+1) ⟨rfl,rfl,rfl,rfl,rfl,rfl,rfl,rfl,rfl,rfl,rfl,rfl,rfl,rfl,rfl,rfl,rfl,rfl,rfl,rfl,rfl,rfl,rfl,rfl,rfl,rfl,rfl,rfl,rfl,rfl,rfl,trivial⟩ (aF.2 ⟨gB,by omega,by omega,et (aW) (et (congrArg (fun q=>dR q u) dX) (ag bf))⟩) (by show a.aa.ls.length - (o+1) < a.aa.ls.length - o; omega)
 refine jF (dF cB) (Wp.exit (Cb ?_))
 have ek:dR a.aa.ls F=u:=et (aW) (et (congrArg (fun q=>dR q u) (bM (ls:=a.aa.ls) (i:=o) (by omega))) rfl)
 refine Cb (Cn (bN (Ca (BR (fw (.int .i64 ((f+1:Nat):Int)) (Ci (e:=IntKind.i64.wrap (((f:Nat):Int)+1)) yk (by rw [EL _ (by omega)]; omega)) (Mz rfl (Cf ?_)))))))
 have gD:=ai.pk [2,3,4,5]
 exact Cm (V,X,u,f+1) ⟨rfl,rfl,rfl,rfl,rfl,rfl,rfl,trivial⟩ (aC.2 ⟨gD,by omega,by omega,et (aN) (et (congrArg (fun q=>dS b q j) dM) (et (ag aQ) (ag ek)))⟩) (by show b.af.ls.length - (f+1) < b.af.ls.length - f; omega)
 refine jF (dF cu) (Wp.exit (Cb ?_))
 have eu:dS b b.af.ls Z=j:=et (aN) (et (congrArg (fun q=>dS b q j) (bM (ls:=b.af.ls) (i:=f) (by omega))) rfl)
 refine Cb (Cn (Ca (sr (Mz rfl (Kz (.pointer (some ⟨E,6,none⟩)) (Lz (.slice n b.aB.ls.length s) S 1 Tryz.isAgg33 (Kz (.int .i64 ((b.aB.ls.length:Nat):Int)) (fw (.int .u64 ((b.aB.ls.length:Nat):Int)) (Ci (e:=IntKind.u64.wrap ((b.aB.ls.length:Nat):Int)) yk (IntWalk.u64_in _ (by omega))) ?_))))))))
 refine ji [.int .u64 ((b.aB.ls.length:Nat):Int)] 22 1 1 S ?_
 intro ak jY bn
 replace bn:=CG (y:=row ak 1 1 (List.flatMap (eN .u64) ([b.aB.ls.length])) 22 1) rfl bn
 have gF:=bn.pk [4,0,1,2,3]
 obtain⟨N,bq⟩:∃ q,dC j ([b.aB.ls.length])=q:=⟨_,rfl⟩
 obtain⟨jZ,eD,iV,eF,eO⟩:=Cg gF
 refine WL.do rfl (Cq Tryz.call29 rfl (eG _ _ K j.length L j ak 1 1 ([b.aB.ls.length]) N eD rfl (by omega) (eO _ 0 _ rfl eH) rfl (by simp) (by first | omega | (simp only [List.length_cons,List.length_nil,List.length_append]; omega)) (by refine⟨EK rfl, ?_⟩; simp only [List.mem_cons,List.not_mem_nil,or_false,forall_eq_or_imp,forall_eq]; omega) bq) ?_)
 rintro _ j3 ⟨gG,gH,rfl,eP,bu⟩
 have bv:=eF _ _ eP
 have iW:=bv.rowC (i:=0) rfl
 replace bu:N.length≤j.length+0+10 *1:=bu
 refine An rfl (BS (sr (Kz (.pointer (some ⟨E,6,none⟩)) (Lz (.slice n b.aB.ls.length s) bv 3 Tryz.isAgg33 (Kz (.int .i64 ((b.aB.ls.length:Nat):Int)) (Mn rfl (bo ?_)))))))
 have gI:=bv.pk [1,2,3,4,0]
 obtain⟨cZ,eQ⟩:∃ q:((Option Addr) × Nat × (List UInt8) × Nat)→World→Prop,q=fun(i:(Option Addr) × Nat × (List UInt8) × Nat) w'=>Own w D w' [row ak 1 1 (List.flatMap (eN .u64) ([b.aB.ls.length])) 22 1,row ah 4 4 (List.flatMap (eN .u64) ([(Int.toNat (IntKind.u64.wrap b.aa)),b.aj,b.aR,b.aH])) 22 1,blk E [.int .i64 b.aa, .int .u64 ((b.aj:Nat):Int), .int .u64 ((b.aR:Nat):Int), .int .u64 ((b.aH:Nat):Int), .slice C b.ai.ls.length B, .slice g b.af.ls.length l, .slice n b.aB.ls.length s] 35,row bW 1 1 (List.flatMap (eN .u64) ([b.af.ls.length])) 22 1,row i.1 i.2.2.1.length i.2.1 (List.flatMap eB i.2.2.1) 5 1]∧(i.2.2.2≤b.aB.ls.length∧((i.2.2.1.length:Nat):Int)≤((N.length:Nat):Int)+5800 *((i.2.2.2:Nat):Int)∧dU b.aB.ls N=dU (List.drop i.2.2.2 b.aB.ls) i.2.2.1):=⟨_,rfl⟩
 have aG:∀ {P:Option Addr} {Q:Nat} {r:List UInt8} {p:Nat} {w':World},cZ (P,Q,r,p) w'↔Own w D w' [row ak 1 1 (List.flatMap (eN .u64) ([b.aB.ls.length])) 22 1,row ah 4 4 (List.flatMap (eN .u64) ([(Int.toNat (IntKind.u64.wrap b.aa)),b.aj,b.aR,b.aH])) 22 1,blk E [.int .i64 b.aa, .int .u64 ((b.aj:Nat):Int), .int .u64 ((b.aR:Nat):Int), .int .u64 ((b.aH:Nat):Int), .slice C b.ai.ls.length B, .slice g b.af.ls.length l, .slice n b.aB.ls.length s] 35,row bW 1 1 (List.flatMap (eN .u64) ([b.af.ls.length])) 22 1,row P r.length Q (List.flatMap eB r) 5 1]∧p≤b.aB.ls.length∧((r.length:Nat):Int)≤((N.length:Nat):Int)+5800 *((p:Nat):Int)∧dU b.aB.ls N=dU (List.drop p b.aB.ls) r:=by intros; subst eQ; exact Iff.rfl
 refine Wp.loop (fun i:(Option Addr) × Nat × (List UInt8) × Nat=> [(5, .slice i.1 i.2.2.1.length i.2.1),(86, .int .i64 ((i.2.2.2:Nat):Int)),(85, .int .i64 ((b.aB.ls.length:Nat):Int)),(84, .slice n b.aB.ls.length s),(3, .int .i64 0),(2, .slice none 0 0)]) cZ (fun i=>b.aB.ls.length - i.2.2.2) (gG,gH,N,0) ⟨rfl,rfl,rfl,rfl,rfl,rfl,trivial⟩ (aG.2 ⟨gI,by omega,by omega,rfl⟩) ?_
 rintro ⟨P,Q,r,p⟩ j4 eT
 show Wp _ _ _ [(5, .slice P r.length Q),(86, .int .i64 ((p:Nat):Int)),(85, .int .i64 ((b.aB.ls.length:Nat):Int)),(84, .slice n b.aB.ls.length s),(3, .int .i64 0),(2, .slice none 0 0)] _ _
 obtain⟨ay,iX,iY,bz⟩:=aG.1 eT
 refine sr (Kz (.bool (decide (((p:Nat):Int) < ((b.aB.ls.length:Nat):Int)))) (nt (BS ?_)))
 by_cases df:((p:Nat):Int) < ((b.aB.ls.length:Nat):Int)
 obtain⟨d,J⟩:=bU (ls:=bO) (i:=p) aT.len (by decide) (ay.ro aB) (by first | omega | (simp; done) | (simp; omega))
 have bA:=jb bS J
 have iZ:=(O _ (List.mem_of_getElem? J)).2.1
 have ja:List.length (List.map Cj d.au.ls)=d.au.ls.length:=List.length_map ..
 have af:(Cz d).aj≤18446744073709551615∧(Cz d).bJ≤18446744073709551615∧List.length (Cz d).au.ls≤24∧∀ z ∈ (Cz d).au.ls,z.aC.length≤16∧z.aA.ls.length≤4∧∀ q ∈ z.aA.ls,q.aV.length≤12∧q.aC.length≤16:=hsm35.2.2.2.2.2.1 _ (List.mem_of_getElem? bA)
 have hz230p0:d.aj≤18446744073709551615:=by have I:=af.1; first | exact I | (simp only [Cz,List.length_map] at I; exact I)
 have hz230p1:d.bJ≤18446744073709551615:=by have I:=af.2.1; first | exact I | (simp only [Cz,List.length_map] at I; exact I)
 have hz230p2:d.au.ls.length≤24:=by have I:=af.2.2.1; first | exact I | (simp only [Cz,List.length_map] at I; exact I)
 have eU:=drop_at bA
 refine jT (dT df) (sk (BS (bo (sr (fw (.pointer (some ⟨ab n,ao n+p *4,none⟩)) (Ch (qx) rfl rfl ((ay.ro aB).addr (i:=p) (by omega)) (by omega)) (fw (.agg (aT.cells d).toArray) (Cc rfl (Cu (cs:=(aT.cells d)) Tryz.isAgg84 Tryz.sizeOf84 ((ay.ro aB).elem aT.len J (by decide)))) ?_))))))
 refine dB [.int .i64 0, .int .u64 0, .int .u64 0, .slice none 0 0] 84 ay ?_
 intro az j5 gJ
 refine dw (aT.cells d) 0 gJ Tryz.sizeOf84 ?_
 intro gK gL
 refine nt ?_
 have aH:=gL.drew
 refine CP [] (fun W=> ∃ L',Own w D W ([blk az (aT.cells d) 84,row ak 1 1 (List.flatMap (eN .u64) ([b.aB.ls.length])) 22 1,row ah 4 4 (List.flatMap (eN .u64) ([(Int.toNat (IntKind.u64.wrap b.aa)),b.aj,b.aR,b.aH])) 22 1,blk E [.int .i64 b.aa, .int .u64 ((b.aj:Nat):Int), .int .u64 ((b.aR:Nat):Int), .int .u64 ((b.aH:Nat):Int), .slice C b.ai.ls.length B, .slice g b.af.ls.length l, .slice n b.aB.ls.length s] 35,row bW 1 1 (List.flatMap (eN .u64) ([b.af.ls.length])) 22 1]++L')) (by kernel_rfl) (by kernel_rfl) (bP.block (Cs (Cs (bP.block (Cs CR))))) ⟨_,aH⟩ ?_
 revert aH
 generalize World.drew gK=j6
 intro aH
 refine GX.take (v:= .slice P r.length Q) (rs:= []) 0 rfl (by kernel_rfl) (fun _ _=>BX rfl) (GX.take (v:= .pointer (some ⟨az,0,none⟩)) (rs:= []) 1 rfl (by kernel_rfl) (fun _ _=>yk) (GX.take (v:= .int .i64 d.ak) (rs:= []) 2 rfl (by kernel_rfl) (fun _ ⟨_,H9⟩=>Cc rfl (bi.one Tryz.isAgg3 (Cv (H9.cls (i:=0) rfl) rfl))) ?_))
 have jc:Int.toNat (IntKind.u64.wrap d.ak)≤18446744073709551615:=gW _
 refine GX.take (v:= .int .u64 ((Int.toNat (IntKind.u64.wrap d.ak):Nat):Int)) (rs:= []) 3 rfl (by kernel_rfl) (fun _ _=>Ci (e:=IntKind.u64.wrap d.ak) yk (di _)) (GX.take (v:= .pointer (some ⟨az,1,none⟩)) (rs:= []) 4 rfl (by kernel_rfl) (fun _ _=>yk) (GX.take (v:= .int .u64 ((d.aj:Nat):Int)) (rs:= []) 5 rfl (by kernel_rfl) (fun _ ⟨_,H9⟩=>Cc rfl (bi.one Tryz.isAgg22 (Cv (H9.cls (i:=0) rfl) rfl))) (GX.take (v:= .pointer (some ⟨az,2,none⟩)) (rs:= []) 6 rfl (by kernel_rfl) (fun _ _=>yk) (GX.take (v:= .int .u64 ((d.bJ:Nat):Int)) (rs:= []) 7 rfl (by kernel_rfl) (fun _ ⟨_,H9⟩=>Cc rfl (bi.one Tryz.isAgg22 (Cv (H9.cls (i:=0) rfl) rfl))) (GX.take (v:= .pointer (some ⟨az,3,none⟩)) (rs:= []) 10 rfl (by kernel_rfl) (fun _ _=>yk) (GX.take (v:= .slice d.au.A d.au.ls.length d.au.c) (rs:= []) 11 rfl (by kernel_rfl) (fun _ ⟨_,H9⟩=>Cc rfl (bi.one Tryz.isAgg82 (Cv (H9.cls (i:=0) rfl) rfl))) ?_))))))
 refine GX.do 8 rfl (by kernel_rfl) (De (cs:= [.int .u64 ((Int.toNat (IntKind.u64.wrap d.ak):Nat):Int), .int .u64 ((d.aj:Nat):Int), .int .u64 ((d.bJ:Nat):Int)]) (t:=22) (sz:=1) (m:=3) aH rfl rfl (fun _=>by kernel_rfl) rfl (by decide) ?_)
 intro dh kg bB
 replace bB:=CG (y:=row dh 3 3 (List.flatMap (eN .u64) ([(Int.toNat (IntKind.u64.wrap d.ak)),d.aj,d.bJ])) 22 1) rfl bB
 have dn:=bB.pk [1,2,3,4,5,0,6]
 refine⟨.inr ⟨_,dn⟩, ?_⟩
 have gM:=dn.pk [6,0,1,2,3,4,5]
 obtain⟨Y,bC⟩:∃ q,dC r ([(Int.toNat (IntKind.u64.wrap d.ak)),d.aj,d.bJ])=q:=⟨_,rfl⟩
 obtain⟨ko,eX,jd,eY,eZ⟩:=Cg gM
 refine GX.do 9 rfl (by kernel_rfl) (Cq Tryz.call29 rfl (eG _ _ P r.length Q r dh 3 3 ([(Int.toNat (IntKind.u64.wrap d.ak)),d.aj,d.bJ]) Y eX rfl (by omega) (eZ _ 5 _ rfl eH) rfl (by simp) (by first | omega | (simp only [List.length_cons,List.length_nil,List.length_append]; omega)) (by refine⟨EK rfl, ?_⟩; simp only [List.mem_cons,List.not_mem_nil,or_false,forall_eq_or_imp,forall_eq]; omega) bC) ?_)
 rintro _ kr ⟨gN,gP,rfl,fe,bD⟩
 have dx:=eY _ _ fe
 have je:=dx.rowC (i:=0) rfl
 replace bD:Y.length≤r.length+0+10 *3:=bD
 have dz:=dx.pk [1,2,3,4,5,0,6]
 refine⟨.inr ⟨_,dz⟩, ?_⟩
 have gQ:=dz.pk [5,0,1,2,3,4,6]
 have jf:d.au.ls.length=List.length (List.map Cj d.au.ls):=(by first | rfl | omega | (simp only [List.length_append,List.length_cons,List.length_nil,List.length_take,List.length_drop,List.length_set,List.length_replicate,List.length_map] <;> omega))
 obtain⟨aI,bE⟩:∃ q,om Y (List.map Cj d.au.ls)=q:=⟨_,rfl⟩
 obtain⟨ku,fo,bF,fq,jg⟩:=Cg gQ
 refine GX.do 12 rfl (by kernel_rfl) (Cq Tryz.call36 rfl (sw _ _ gN Y.length gP Y d.au.A d.au.ls.length d.au.c d.au.ls (List.map Cj d.au.ls) aI fo rfl (by omega) (rfl:List.map Cj d.au.ls=List.map Cj d.au.ls) (bF _ (O _ (List.mem_of_getElem? J)).1) (fun x9 h9=>⟨bF _ ((O _ (List.mem_of_getElem? J)).2.2 x9 h9).1,((O _ (List.mem_of_getElem? J)).2.2 x9 h9).2⟩) (by first | rfl | omega | (simp only [List.length_append,List.length_cons,List.length_nil,List.length_take,List.length_drop,List.length_set,List.length_replicate,List.length_map] <;> omega)) (by first | omega | (simp only [List.length_append,List.length_cons,List.length_nil,List.length_take,List.length_drop,List.length_set]; omega)) (by first | omega | (simp only [List.length_cons,List.length_nil,List.length_append]; omega)) (by exact af.2.2) bE) ?_)
 rintro _ kv ⟨dA,dD,rfl,fu,bK⟩
 have dG:=fq _ _ fu
 have jh:=dG.rowC (i:=0) rfl
 replace bK:aI.length≤Y.length+10+239 *List.length (List.map Cj d.au.ls):=bK
 have dH:=dG.pk [1,2,3,4,5,0,6]
 refine⟨.inr ⟨_,dH⟩, ?_⟩
 refine GX.take (v:= .slice dA aI.length dD) (rs:= []) 13 rfl (by kernel_rfl) (fun _ _=>CF rfl) (Cx (by kernel_rfl) (bN (Ca (BR (fw (.int .i64 ((p+1:Nat):Int)) (Ci (e:=IntKind.i64.wrap (((p:Nat):Int)+1)) yk (by rw [EL _ (by omega)]; omega)) (Mz rfl (Cf ?_)))))))
 have gT:=dH.pk [1,2,3,4,5]
 exact Cm (dA,dD,aI,p+1) ⟨rfl,rfl,rfl,rfl,rfl,rfl,trivial⟩ (aG.2 ⟨gT,by omega,by omega,et (bz) (et (congrArg (fun q=>dU q r) eU) (et (ag bC) (ag bE)))⟩) (by show b.aB.ls.length - (p+1) < b.aB.ls.length - p; omega)
 refine jF (dF df) (Wp.exit (Cb ?_))
 have fA:dU b.aB.ls N=r:=et (bz) (et (congrArg (fun q=>dU q r) (bM (ls:=b.aB.ls) (i:=p) (by omega))) rfl)
 refine Cb (Cn (Ca (sr (Mz rfl (Az rfl (An rfl (rt (CK (oV rfl rfl rfl) ?_))))))))
 have gU:=ay.pk [4]
 have e:jR b=(r,0):=et (ag bX) (et (ip fG) (et (ag fH) (et (ag ik) (et (ag bY) (et (ag eu) (et (ag bq) (ag fA)))))))
 obtain⟨rfl,rfl⟩:=iI (e.symm.trans hr)
 exact⟨P,Q,rfl,gU,(by first | omega | exact EM _)⟩
 refine jT (dT fG) (sr (Mz rfl (Az rfl (An rfl (rt (tR (CK (oV rfl rfl rfl) ?_)))))))
 have kF:Own w D kL [row none 0 0 (List.flatMap eB ([])) 5 1,blk E [.int .i64 b.aa, .int .u64 ((b.aj:Nat):Int), .int .u64 ((b.aR:Nat):Int), .int .u64 ((b.aH:Nat):Int), .slice C b.ai.ls.length B, .slice g b.af.ls.length l, .slice n b.aB.ls.length s] 35]:=jv.free (iD 5 1)
 have kG:=kF.pk [0]
 have e:jR b=([],fF):=et (ag bX) (iN fG)
 obtain⟨rfl,rfl⟩:=iI (e.symm.trans hr)
 exact⟨none,0,rfl,kG,(by first | omega | exact EM _)⟩
end Go.Proofs.YtcnkpjheifkgnaaGreat
