/-
 wire: bytes of messages.
-/
import Derived.Test.YtccjclalngabhaaGreatWd
namespace Go.Proofs.YtccjclalngabhaaGreat
set_option maxRecDepth 100000
open Go.RowKit
set_option linter.unusedVariables false
set_option linter.unusedSectionVars false
set_option linter.unusedSimpArgs false
def bI (c:bG):List Int→List UInt8→(List UInt8)
  | [],a=>a
  | d::b,a=>if d=0 then bnd (dO c.bF) fun p=>bI c b (a++p) else if d=1 then bnd (dO c.aY) fun q=>bI c b (a++q) else if d=4 then bnd (dO c.bE) fun r=>bI c b (a++r) else if d=5 then bnd (dO c.bH) fun e=>bI c b (a++e) else if d=6 then bnd (dO c.aS) fun f=>bI c b (a++f) else if d=9 then bnd (dO c.bL) fun g=>bI c b (a++g) else if d=10 then bnd (dO c.bB) fun h=>bI c b (a++h) else if d=14 then bnd (dO c.aK) fun i=>bI c b (a++i) else if d=15 then bnd (dO c.xN) fun j=>bI c b (a++j) else if d=2 then bI c b (a++ [(aR c.bq)]) else if d=12 then bI c b (a++ [(aR c.bM)]) else if d=8 then bnd (kP c.bV) fun k=>bI c b (a++ [k]) else if d=13 then bnd (dI a ([c.aG.aD,c.aG.aI])) fun l=>bI c b l else if d=7 then bnd (lm a c.az.ls) fun m=>bI c b m else if d=3 then bnd (ko a c.ai.ls) fun n=>bI c b n else if d=11 then bnd (kz a c.aj.ls) fun o=>bI c b o else bI c b a
def nZ (a:List UInt8) (b:bG) (c:List Int):(List UInt8):=
 bnd (bI b c a) fun sLrL=>sLrL
set_option maxHeartbeats 4000000 in
theorem qZ (w:World) (D:Nat→Prop) (A0:Option Addr) (n0 c0:Nat) (l0:List UInt8) (d:bG) (O:Option Addr) (bT P:Nat) (Q:Option Addr) (bU R:Nat) (au:List ag) (S:Option Addr) (bV T:Nat) (A2:Option Addr) (n2 c2:Nat) (l:List Int) (r0:List UInt8) (H:Own w D w [row A0 n0 c0 (List.flatMap eB l0) 5 1]) (jS:n0=l0.length) (nW:l0.length *1≤211106232532992) (dX:bT=d.az.ls.length) (dZ:Ro w D fun w'=>bD w' 6 O d.az.ls.length (List.flatMap aB.cells d.az.ls)) (jU:d.az.ls.length≤P∧d.az.ls.length≤9223372036854775807) (ay:List.map ag.abs au=d.ai.ls) (d9:bU=d.ai.ls.length) (ed:Ro w D fun w'=>bD w' 3 Q d.ai.ls.length (List.flatMap ag.cells au)) (jV:d.ai.ls.length≤R∧d.ai.ls.length≤9223372036854775807) (az:∀ x ∈ au,Ro w D (fun w'=>bD w' 2 x.ay.A x.ay.ls.length (List.flatMap aW.cells x.ay.ls))∧(x.ay.ls.length≤x.ay.c∧x.ay.ls.length≤9223372036854775807)) (ek:bV=d.aj.ls.length) (eu:Ro w D fun w'=>bD w' 2 S d.aj.ls.length (List.flatMap aA.cells d.aj.ls)) (jW:d.aj.ls.length≤T∧d.aj.ls.length≤9223372036854775807) (eD:Ro w D fun w'=>bD w' 1 A2 n2 (List.flatMap (eI .i64) l)) (jX:n2=l.length) (nX:l.length *8≤211106232532992) (nY:l0.length≤1000) (og:l.length≤5) (ak:((d.az.ls.length≤24∧∀ x ∈ d.az.ls,x.aL.length≤12∧x.au.length≤16∧x.aD.length≤12∧x.aI.length≤12)∧(d.ai.ls.length≤24∧∀ x ∈ d.ai.ls,x.au.length≤16∧x.ay.ls.length≤4∧∀ q ∈ x.ay.ls,q.aL.length≤12∧q.au.length≤16)∧(d.aj.ls.length≤6∧∀ x ∈ d.aj.ls,x.aD.length≤12)∧d.aG.aD.length≤12∧d.aG.aI.length≤12)) (oh:d.bF≤18446744073709551615∧d.aY≤18446744073709551615∧d.bE≤18446744073709551615∧d.bH≤18446744073709551615∧d.bL≤18446744073709551615∧d.aS≤18446744073709551615∧d.bB≤18446744073709551615∧d.aK≤18446744073709551615∧d.xN≤18446744073709551615) (hr:nZ l0 d l=r0):
    Calls Tryz.prog 20 #[.slice A0 n0 c0, .agg (bf d.ae d.bn d.dm d.aO d.bq d.bM d.bF d.aY d.bE d.bH d.bL d.aS d.bB d.aK d.xN d.bV d.aG.aD d.aG.aI O bT P Q bU R S bV T).toArray, .slice A2 n2 c2] w (cK fun v w'=> ∃ (B0:Option Addr) (b0:Nat),v= .slice B0 r0.length b0∧Own w D w' [row B0 r0.length b0 (List.flatMap eB r0) 5 1]∧(r0.length≤50000)):=by
 subst jS jX dX d9 ek
 have hdl1x1:=dM ay
 have ol:=H.rowC (i:=0) rfl
 have hh2a:=ak.1.1
 have hh2b:=ak.2.1.1
 have hh2c:=ak.2.2.1.1
 have hh2d:=ak.2.2.2
 refine Calls.body (args:= [.slice A0 l0.length c0, .agg (aV d O P Q R S T).toArray, .slice A2 l.length c2]) Tryz.func20 rfl rfl rfl ?_
 show Wp _ _ _ [(0, .slice A0 l0.length c0),(1, .agg (aV d O P Q R S T).toArray),(2, .slice A2 l.length c2)] _ _
 refine sr ?_
 refine dD (aV d O P Q R S T) 29 H ?_
 intro f om jY
 refine An rfl (Wp.seq (sr (Mz rfl (Kz (.int .i64 ((l.length:Nat):Int)) (Mn rfl (bo ?_))))))
 have jZ:=jY.pk [0,1]
 obtain⟨gH,gI⟩:∃ q:((Option Addr) × Nat × (List UInt8) × Nat)→World→Prop,q=fun(i:(Option Addr) × Nat × (List UInt8) × Nat) w'=>Own w D w' [blk f (aV d O P Q R S T) 29,row i.1 i.2.2.1.length i.2.1 (List.flatMap eB i.2.2.1) 5 1]∧(i.2.2.2≤l.length∧((i.2.2.1.length:Nat):Int)≤((l0.length:Nat):Int)+6000 *((i.2.2.2:Nat):Int)∧bI d l l0=bI d (List.drop i.2.2.2 l) i.2.2.1):=⟨_,rfl⟩
 have j:∀ {Y:Option Addr} {Z:Nat} {a:List UInt8} {b:Nat} {w':World},gH (Y,Z,a,b) w'↔Own w D w' [blk f (aV d O P Q R S T) 29,row Y a.length Z (List.flatMap eB a) 5 1]∧b≤l.length∧((a.length:Nat):Int)≤((l0.length:Nat):Int)+6000 *((b:Nat):Int)∧bI d l l0=bI d (List.drop b l) a:=by intros; subst gI; exact Iff.rfl
 refine Wp.loop (fun i:(Option Addr) × Nat × (List UInt8) × Nat=> [(0, .slice i.1 i.2.2.1.length i.2.1),(13, .int .i64 ((i.2.2.2:Nat):Int)),(12, .int .i64 ((l.length:Nat):Int)),(11, .slice A2 l.length c2),(6, .slice none 0 0),(4, .pointer (some ⟨f,0,none⟩))]) gH (fun i=>l.length - i.2.2.2) (A0,c0,l0,0) ⟨rfl,rfl,rfl,rfl,rfl,rfl,trivial⟩ (j.2 ⟨jZ,by omega,by omega,rfl⟩) ?_
 rintro ⟨Y,Z,a,b⟩ oo gJ
 show Wp _ _ _ [(0, .slice Y a.length Z),(13, .int .i64 ((b:Nat):Int)),(12, .int .i64 ((l.length:Nat):Int)),(11, .slice A2 l.length c2),(6, .slice none 0 0),(4, .pointer (some ⟨f,0,none⟩))] _ _
 obtain⟨g,lN,lQ,n⟩:=j.1 gJ
 refine sr (Kz (.bool (decide (((b:Nat):Int) < ((l.length:Nat):Int)))) (nt (Wp.seq ?_)))
 by_cases gK:((b:Nat):Int) < ((l.length:Nat):Int)
 obtain⟨h,bY⟩:=eG (ls:=l) (i:=b) l6 (by decide) (g.ro eD) (by first | omega | (simp; done) | (simp; omega))
 have o:=drop_at bY
 refine jT (dT gK) (sk (Wp.seq (bo (sr (fw (.pointer (some ⟨ab A2,ao A2+b *1,none⟩)) (Yl.indexAddr (tF) rfl rfl ((g.ro eD).addr (i:=b) (by omega)) (by omega)) (fw (.int .i64 h) (Yl.load rfl (bu.one Tryz.isAgg93 (((g.ro eD).elem l6 bY (by decide)).at_ (k:=0) rfl))) (An rfl (Wp.seq (sr (Mz rfl ?_))))))))))
 refine WL.do rfl (Do.call Tryz.call54 rfl ?_ (fun _ _ k=>k))
 refine Calls.body (args:= [.pointer (some ⟨f,0,none⟩), .int .i64 h]) Tryz.func54 rfl rfl rfl ?_
 show Wp _ _ _ [(0, .pointer (some ⟨f,0,none⟩)),(1, .int .i64 h)] _ _
 refine sr (Az rfl (An rfl (Wp.seq (sr (Mn rfl (bo (sr (Kz (.bool (decide (h=0))) (An rfl ?_)))))))))
 by_cases z:h=0
 refine jT (dT z) (sr (Mz rfl (Kz (.pointer (some ⟨f,0,none⟩)) (Kz (.pointer (some ⟨f,6,none⟩)) (Az rfl (An rfl (rt (bR (tR (Fin.res (gB rfl rfl rfl) (Mz rfl (Kz (.pointer (some ⟨f,6,none⟩)) (Kz (.bool true) (Az rfl (Ar rfl (Mn rfl (jt (sr (Mz rfl (Mz rfl (Kz (.pointer (some ⟨f,6,none⟩)) (Lz (.int .u64 ((d.bF:Nat):Int)) g 0 Tryz.isAgg22 ?_))))))))))))))))))))))
 obtain⟨ae,bZ⟩:∃ q,dO d.bF=q:=⟨_,rfl⟩
 obtain⟨oq,gL,lS,gM,lT⟩:=Own.enter0 g
 refine cl Tryz.call51 (fZ _ _ d.bF ae gL (by omega) bZ) ?_
 rintro _ ou ⟨ow,oC,rfl,gN,cu,cB⟩
 have gP:=gM _ _ gN
 have lU:=gP.rowC (i:=0) rfl
 replace cu:1≤ae.length∧ae.length≤10:=cu
 replace cB:d.bF ≥ 128∨ae.length=1:=cB
 have gQ:=gP.pk [2,0,1]
 refine WL.do rfl (Do.appendW (k:=a.length) (m:=ae.length) (bW) gQ rfl rfl (cz Tryz.underlying31 (gQ.rds (i:=1) rfl) (bK dB ae)) rfl (by omega) (s:=List.length (a++ae)) (by first | omega | (simp only [List.length_append,List.length_cons,List.length_nil] <;> omega)) (List.flatMap_append).symm ?_)
 intro j3 j4 oD j5
 have lV:List.length (a++ae)=a.length+ae.length:=by simp only [List.length_append,List.length_cons,List.length_nil]
 refine An rfl (Wp.exit (Fin.thenX (Fin.blockX (Fin.then (Wp.region (fw (.int .i64 ((b+1:Nat):Int)) (Yl.int (e:=IntKind.i64.wrap (((b:Nat):Int)+1)) yk (by rw [IntWalk.i64_in _ (by omega)]; omega)) (Mz rfl (WL.nil ?_))))))))
 have j6:=j5.pk [2,0]
 exact Fin.round (j3,j4,(a++ae),b+1) ⟨rfl,rfl,rfl,rfl,rfl,rfl,trivial⟩ (j.2 ⟨j6,by omega,by omega,et (n) (et (congrArg (fun q=>bI d q a) o) (et (ip z) (aa bZ)))⟩) (by show l.length - (b+1) < l.length - b; omega)
 refine jF (dF z) (sr (Kz (.bool (decide (h=1))) (An rfl ?_)))
 by_cases C:h=1
 refine jT (dT C) (sr (Mz rfl (Kz (.pointer (some ⟨f,0,none⟩)) (Kz (.pointer (some ⟨f,7,none⟩)) (Az rfl (An rfl (rt (bR (tR (Fin.res (gB rfl rfl rfl) (Mz rfl (Kz (.pointer (some ⟨f,7,none⟩)) (Kz (.bool true) (Az rfl (Ar rfl (Mn rfl (jt (sr (Mz rfl (Mz rfl (Kz (.pointer (some ⟨f,7,none⟩)) (Lz (.int .u64 ((d.aY:Nat):Int)) g 0 Tryz.isAgg22 ?_))))))))))))))))))))))
 obtain⟨af,cO⟩:∃ q,dO d.aY=q:=⟨_,rfl⟩
 obtain⟨oF,gT,lW,gU,lX⟩:=Own.enter0 g
 refine cl Tryz.call51 (fZ _ _ d.aY af gT (by omega) cO) ?_
 rintro _ oG ⟨oH,oI,rfl,gV,cZ,df⟩
 have gW:=gU _ _ gV
 have lY:=gW.rowC (i:=0) rfl
 replace cZ:1≤af.length∧af.length≤10:=cZ
 replace df:d.aY ≥ 128∨af.length=1:=df
 have gX:=gW.pk [2,0,1]
 refine WL.do rfl (Do.appendW (k:=a.length) (m:=af.length) (bW) gX rfl rfl (cz Tryz.underlying31 (gX.rds (i:=1) rfl) (bK dB af)) rfl (by omega) (s:=List.length (a++af)) (by first | omega | (simp only [List.length_append,List.length_cons,List.length_nil] <;> omega)) (List.flatMap_append).symm ?_)
 intro kg kr oJ ku
 have lZ:List.length (a++af)=a.length+af.length:=by simp only [List.length_append,List.length_cons,List.length_nil]
 refine An rfl (Wp.exit (Fin.thenX (Fin.blockX (Fin.then (Wp.region (fw (.int .i64 ((b+1:Nat):Int)) (Yl.int (e:=IntKind.i64.wrap (((b:Nat):Int)+1)) yk (by rw [IntWalk.i64_in _ (by omega)]; omega)) (Mz rfl (WL.nil ?_))))))))
 have kv:=ku.pk [2,0]
 exact Fin.round (kg,kr,(a++af),b+1) ⟨rfl,rfl,rfl,rfl,rfl,rfl,trivial⟩ (j.2 ⟨kv,by omega,by omega,et (n) (et (congrArg (fun q=>bI d q a) o) (et (iN z) (et (ip C) (aa cO))))⟩) (by show l.length - (b+1) < l.length - b; omega)
 refine jF (dF C) (sr (Kz (.bool (decide (h=4))) (An rfl ?_)))
 by_cases E:h=4
 refine jT (dT E) (sr (Mz rfl (Kz (.pointer (some ⟨f,0,none⟩)) (Kz (.pointer (some ⟨f,8,none⟩)) (Az rfl (An rfl (rt (bR (tR (Fin.res (gB rfl rfl rfl) (Mz rfl (Kz (.pointer (some ⟨f,8,none⟩)) (Kz (.bool true) (Az rfl (Ar rfl (Mn rfl (jt (sr (Mz rfl (Mz rfl (Kz (.pointer (some ⟨f,8,none⟩)) (Lz (.int .u64 ((d.bE:Nat):Int)) g 0 Tryz.isAgg22 ?_))))))))))))))))))))))
 obtain⟨ah,dh⟩:∃ q,dO d.bE=q:=⟨_,rfl⟩
 obtain⟨oK,gY,l5,gZ,l7⟩:=Own.enter0 g
 refine cl Tryz.call51 (fZ _ _ d.bE ah gY (by omega) dh) ?_
 rintro _ oL ⟨l8,l9,rfl,ib,aC,aD⟩
 have ic:=gZ _ _ ib
 have kw:=ic.rowC (i:=0) rfl
 replace aC:1≤ah.length∧ah.length≤10:=aC
 replace aD:d.bE ≥ 128∨ah.length=1:=aD
 have di:=ic.pk [2,0,1]
 refine WL.do rfl (Do.appendW (k:=a.length) (m:=ah.length) (bW) di rfl rfl (cz Tryz.underlying31 (di.rds (i:=1) rfl) (bK dB ah)) rfl (by omega) (s:=List.length (a++ah)) (by first | omega | (simp only [List.length_append,List.length_cons,List.length_nil] <;> omega)) (List.flatMap_append).symm ?_)
 intro ig ik ma il
 have ky:List.length (a++ah)=a.length+ah.length:=by simp only [List.length_append,List.length_cons,List.length_nil]
 refine An rfl (Wp.exit (Fin.thenX (Fin.blockX (Fin.then (Wp.region (fw (.int .i64 ((b+1:Nat):Int)) (Yl.int (e:=IntKind.i64.wrap (((b:Nat):Int)+1)) yk (by rw [IntWalk.i64_in _ (by omega)]; omega)) (Mz rfl (WL.nil ?_))))))))
 have iq:=il.pk [2,0]
 exact Fin.round (ig,ik,(a++ah),b+1) ⟨rfl,rfl,rfl,rfl,rfl,rfl,trivial⟩ (j.2 ⟨iq,by omega,by omega,et (n) (et (congrArg (fun q=>bI d q a) o) (et (iN z) (et (iN C) (et (ip E) (aa dh)))))⟩) (by show l.length - (b+1) < l.length - b; omega)
 refine jF (dF E) (sr (Kz (.bool (decide (h=5))) (An rfl ?_)))
 by_cases p:h=5
 refine jT (dT p) (sr (Mz rfl (Kz (.pointer (some ⟨f,0,none⟩)) (Kz (.pointer (some ⟨f,9,none⟩)) (Az rfl (An rfl (rt (bR (tR (Fin.res (gB rfl rfl rfl) (Mz rfl (Kz (.pointer (some ⟨f,9,none⟩)) (Kz (.bool true) (Az rfl (Ar rfl (Mn rfl (jt (sr (Mz rfl (Mz rfl (Kz (.pointer (some ⟨f,9,none⟩)) (Lz (.int .u64 ((d.bH:Nat):Int)) g 0 Tryz.isAgg22 ?_))))))))))))))))))))))
 obtain⟨G,aF⟩:∃ q,dO d.bH=q:=⟨_,rfl⟩
 obtain⟨mf,eF,kC,eH,kD⟩:=Own.enter0 g
 refine cl Tryz.call51 (fZ _ _ d.bH G eF (by omega) aF) ?_
 rintro _ mg ⟨mi,mo,rfl,eO,aG,aH⟩
 have dm:=eH _ _ eO
 have kE:=dm.rowC (i:=0) rfl
 replace aG:1≤G.length∧G.length≤10:=aG
 replace aH:d.bH ≥ 128∨G.length=1:=aH
 have dn:=dm.pk [2,0,1]
 refine WL.do rfl (Do.appendW (k:=a.length) (m:=G.length) (bW) dn rfl rfl (cz Tryz.underlying31 (dn.rds (i:=1) rfl) (bK dB G)) rfl (by omega) (s:=List.length (a++G)) (by first | omega | (simp only [List.length_append,List.length_cons,List.length_nil] <;> omega)) (List.flatMap_append).symm ?_)
 intro iw iy mq iA
 have kF:List.length (a++G)=a.length+G.length:=by simp only [List.length_append,List.length_cons,List.length_nil]
 refine An rfl (Wp.exit (Fin.thenX (Fin.blockX (Fin.then (Wp.region (fw (.int .i64 ((b+1:Nat):Int)) (Yl.int (e:=IntKind.i64.wrap (((b:Nat):Int)+1)) yk (by rw [IntWalk.i64_in _ (by omega)]; omega)) (Mz rfl (WL.nil ?_))))))))
 have iB:=iA.pk [2,0]
 exact Fin.round (iw,iy,(a++G),b+1) ⟨rfl,rfl,rfl,rfl,rfl,rfl,trivial⟩ (j.2 ⟨iB,by omega,by omega,et (n) (et (congrArg (fun q=>bI d q a) o) (et (iN z) (et (iN C) (et (iN E) (et (ip p) (aa aF))))))⟩) (by show l.length - (b+1) < l.length - b; omega)
 refine jF (dF p) (sr (Kz (.bool (decide (h=6))) (An rfl ?_)))
 by_cases r:h=6
 refine jT (dT r) (sr (Mz rfl (Kz (.pointer (some ⟨f,0,none⟩)) (Kz (.pointer (some ⟨f,11,none⟩)) (Az rfl (An rfl (rt (bR (tR (Fin.res (gB rfl rfl rfl) (Mz rfl (Kz (.pointer (some ⟨f,11,none⟩)) (Kz (.bool true) (Az rfl (Ar rfl (Mn rfl (jt (sr (Mz rfl (Mz rfl (Kz (.pointer (some ⟨f,11,none⟩)) (Lz (.int .u64 ((d.aS:Nat):Int)) g 0 Tryz.isAgg22 ?_))))))))))))))))))))))
 obtain⟨I,aI⟩:∃ q,dO d.aS=q:=⟨_,rfl⟩
 obtain⟨mr,eP,kG,eQ,kI⟩:=Own.enter0 g
 refine cl Tryz.call51 (fZ _ _ d.aS I eP (by omega) aI) ?_
 rintro _ mD ⟨mE,mF,rfl,eT,aJ,aK⟩
 have dw:=eQ _ _ eT
 have kJ:=dw.rowC (i:=0) rfl
 replace aJ:1≤I.length∧I.length≤10:=aJ
 replace aK:d.aS ≥ 128∨I.length=1:=aK
 have dx:=dw.pk [2,0,1]
 refine WL.do rfl (Do.appendW (k:=a.length) (m:=I.length) (bW) dx rfl rfl (cz Tryz.underlying31 (dx.rds (i:=1) rfl) (bK dB I)) rfl (by omega) (s:=List.length (a++I)) (by first | omega | (simp only [List.length_append,List.length_cons,List.length_nil] <;> omega)) (List.flatMap_append).symm ?_)
 intro iC iD mG iE
 have kK:List.length (a++I)=a.length+I.length:=by simp only [List.length_append,List.length_cons,List.length_nil]
 refine An rfl (Wp.exit (Fin.thenX (Fin.blockX (Fin.then (Wp.region (fw (.int .i64 ((b+1:Nat):Int)) (Yl.int (e:=IntKind.i64.wrap (((b:Nat):Int)+1)) yk (by rw [IntWalk.i64_in _ (by omega)]; omega)) (Mz rfl (WL.nil ?_))))))))
 have iF:=iE.pk [2,0]
 exact Fin.round (iC,iD,(a++I),b+1) ⟨rfl,rfl,rfl,rfl,rfl,rfl,trivial⟩ (j.2 ⟨iF,by omega,by omega,et (n) (et (congrArg (fun q=>bI d q a) o) (et (iN z) (et (iN C) (et (iN E) (et (iN p) (et (ip r) (aa aI)))))))⟩) (by show l.length - (b+1) < l.length - b; omega)
 refine jF (dF r) (sr (Kz (.bool (decide (h=9))) (An rfl ?_)))
 by_cases t:h=9
 refine jT (dT t) (sr (Mz rfl (Kz (.pointer (some ⟨f,0,none⟩)) (Kz (.pointer (some ⟨f,10,none⟩)) (Az rfl (An rfl (rt (bR (tR (Fin.res (gB rfl rfl rfl) (Mz rfl (Kz (.pointer (some ⟨f,10,none⟩)) (Kz (.bool true) (Az rfl (Ar rfl (Mn rfl (jt (sr (Mz rfl (Mz rfl (Kz (.pointer (some ⟨f,10,none⟩)) (Lz (.int .u64 ((d.bL:Nat):Int)) g 0 Tryz.isAgg22 ?_))))))))))))))))))))))
 obtain⟨J,aL⟩:∃ q,dO d.bL=q:=⟨_,rfl⟩
 obtain⟨mH,eU,kL,eX,kM⟩:=Own.enter0 g
 refine cl Tryz.call51 (fZ _ _ d.bL J eU (by omega) aL) ?_
 rintro _ mI ⟨mJ,mK,rfl,eY,aM,aN⟩
 have dz:=eX _ _ eY
 have kN:=dz.rowC (i:=0) rfl
 replace aM:1≤J.length∧J.length≤10:=aM
 replace aN:d.bL ≥ 128∨J.length=1:=aN
 have dA:=dz.pk [2,0,1]
 refine WL.do rfl (Do.appendW (k:=a.length) (m:=J.length) (bW) dA rfl rfl (cz Tryz.underlying31 (dA.rds (i:=1) rfl) (bK dB J)) rfl (by omega) (s:=List.length (a++J)) (by first | omega | (simp only [List.length_append,List.length_cons,List.length_nil] <;> omega)) (List.flatMap_append).symm ?_)
 intro iG iH mM iI
 have kQ:List.length (a++J)=a.length+J.length:=by simp only [List.length_append,List.length_cons,List.length_nil]
 refine An rfl (Wp.exit (Fin.thenX (Fin.blockX (Fin.then (Wp.region (fw (.int .i64 ((b+1:Nat):Int)) (Yl.int (e:=IntKind.i64.wrap (((b:Nat):Int)+1)) yk (by rw [IntWalk.i64_in _ (by omega)]; omega)) (Mz rfl (WL.nil ?_))))))))
 have iJ:=iI.pk [2,0]
 exact Fin.round (iG,iH,(a++J),b+1) ⟨rfl,rfl,rfl,rfl,rfl,rfl,trivial⟩ (j.2 ⟨iJ,by omega,by omega,et (n) (et (congrArg (fun q=>bI d q a) o) (et (iN z) (et (iN C) (et (iN E) (et (iN p) (et (iN r) (et (ip t) (aa aL))))))))⟩) (by show l.length - (b+1) < l.length - b; omega)
 refine jF (dF t) (sr (Kz (.bool (decide (h=10))) (An rfl ?_)))
 by_cases u:h=10
 refine jT (dT u) (sr (Mz rfl (Kz (.pointer (some ⟨f,0,none⟩)) (Kz (.pointer (some ⟨f,12,none⟩)) (Az rfl (An rfl (rt (bR (tR (Fin.res (gB rfl rfl rfl) (Mz rfl (Kz (.pointer (some ⟨f,12,none⟩)) (Kz (.bool true) (Az rfl (Ar rfl (Mn rfl (jt (sr (Mz rfl (Mz rfl (Kz (.pointer (some ⟨f,12,none⟩)) (Lz (.int .u64 ((d.bB:Nat):Int)) g 0 Tryz.isAgg22 ?_))))))))))))))))))))))
 obtain⟨K,aO⟩:∃ q,dO d.bB=q:=⟨_,rfl⟩
 obtain⟨mO,eZ,kR,fe,kS⟩:=Own.enter0 g
 refine cl Tryz.call51 (fZ _ _ d.bB K eZ (by omega) aO) ?_
 rintro _ mP ⟨mQ,mR,rfl,fo,aP,aQ⟩
 have dC:=fe _ _ fo
 have kT:=dC.rowC (i:=0) rfl
 replace aP:1≤K.length∧K.length≤10:=aP
 replace aQ:d.bB ≥ 128∨K.length=1:=aQ
 have dG:=dC.pk [2,0,1]
 refine WL.do rfl (Do.appendW (k:=a.length) (m:=K.length) (bW) dG rfl rfl (cz Tryz.underlying31 (dG.rds (i:=1) rfl) (bK dB K)) rfl (by omega) (s:=List.length (a++K)) (by first | omega | (simp only [List.length_append,List.length_cons,List.length_nil] <;> omega)) (List.flatMap_append).symm ?_)
 intro iK iL mU iM
 have kU:List.length (a++K)=a.length+K.length:=by simp only [List.length_append,List.length_cons,List.length_nil]
 refine An rfl (Wp.exit (Fin.thenX (Fin.blockX (Fin.then (Wp.region (fw (.int .i64 ((b+1:Nat):Int)) (Yl.int (e:=IntKind.i64.wrap (((b:Nat):Int)+1)) yk (by rw [IntWalk.i64_in _ (by omega)]; omega)) (Mz rfl (WL.nil ?_))))))))
 have iO:=iM.pk [2,0]
 exact Fin.round (iK,iL,(a++K),b+1) ⟨rfl,rfl,rfl,rfl,rfl,rfl,trivial⟩ (j.2 ⟨iO,by omega,by omega,et (n) (et (congrArg (fun q=>bI d q a) o) (et (iN z) (et (iN C) (et (iN E) (et (iN p) (et (iN r) (et (iN t) (et (ip u) (aa aO)))))))))⟩) (by show l.length - (b+1) < l.length - b; omega)
 refine jF (dF u) (sr (Kz (.bool (decide (h=14))) (An rfl ?_)))
 by_cases B:h=14
 refine jT (dT B) (sr (Mz rfl (Kz (.pointer (some ⟨f,0,none⟩)) (Kz (.pointer (some ⟨f,13,none⟩)) (Az rfl (An rfl (rt (bR (tR (Fin.res (gB rfl rfl rfl) (Mz rfl (Kz (.pointer (some ⟨f,13,none⟩)) (Kz (.bool true) (Az rfl (Ar rfl (Mn rfl (jt (sr (Mz rfl (Mz rfl (Kz (.pointer (some ⟨f,13,none⟩)) (Lz (.int .u64 ((d.aK:Nat):Int)) g 0 Tryz.isAgg22 ?_))))))))))))))))))))))
 obtain⟨L,aS⟩:∃ q,dO d.aK=q:=⟨_,rfl⟩
 obtain⟨mW,fq,kV,fu,kW⟩:=Own.enter0 g
 refine cl Tryz.call51 (fZ _ _ d.aK L fq (by omega) aS) ?_
 rintro _ mX ⟨mY,mZ,rfl,fA,aT,aU⟩
 have dH:=fu _ _ fA
 have kX:=dH.rowC (i:=0) rfl
 replace aT:1≤L.length∧L.length≤10:=aT
 replace aU:d.aK ≥ 128∨L.length=1:=aU
 have dJ:=dH.pk [2,0,1]
 refine WL.do rfl (Do.appendW (k:=a.length) (m:=L.length) (bW) dJ rfl rfl (cz Tryz.underlying31 (dJ.rds (i:=1) rfl) (bK dB L)) rfl (by omega) (s:=List.length (a++L)) (by first | omega | (simp only [List.length_append,List.length_cons,List.length_nil] <;> omega)) (List.flatMap_append).symm ?_)
 intro iQ iR ng iT
 have kY:List.length (a++L)=a.length+L.length:=by simp only [List.length_append,List.length_cons,List.length_nil]
 refine An rfl (Wp.exit (Fin.thenX (Fin.blockX (Fin.then (Wp.region (fw (.int .i64 ((b+1:Nat):Int)) (Yl.int (e:=IntKind.i64.wrap (((b:Nat):Int)+1)) yk (by rw [IntWalk.i64_in _ (by omega)]; omega)) (Mz rfl (WL.nil ?_))))))))
 have iU:=iT.pk [2,0]
 exact Fin.round (iQ,iR,(a++L),b+1) ⟨rfl,rfl,rfl,rfl,rfl,rfl,trivial⟩ (j.2 ⟨iU,by omega,by omega,et (n) (et (congrArg (fun q=>bI d q a) o) (et (iN z) (et (iN C) (et (iN E) (et (iN p) (et (iN r) (et (iN t) (et (iN u) (et (ip B) (aa aS))))))))))⟩) (by show l.length - (b+1) < l.length - b; omega)
 refine jF (dF B) (sr (Kz (.bool (decide (h=15))) (An rfl ?_)))
 by_cases F:h=15
 refine jT (dT F) (sr (Mz rfl (Kz (.pointer (some ⟨f,0,none⟩)) (Kz (.pointer (some ⟨f,14,none⟩)) (Az rfl (An rfl (rt (bR (tR (Fin.res (gB rfl rfl rfl) (Mz rfl (Kz (.pointer (some ⟨f,14,none⟩)) (Kz (.bool true) (Az rfl (Ar rfl (Mn rfl (jt (sr (Mz rfl (Mz rfl (Kz (.pointer (some ⟨f,14,none⟩)) (Lz (.int .u64 ((d.xN:Nat):Int)) g 0 Tryz.isAgg22 ?_))))))))))))))))))))))
 obtain⟨M,aX⟩:∃ q,dO d.xN=q:=⟨_,rfl⟩
 obtain⟨ni,fB,kZ,fC,lc⟩:=Own.enter0 g
 refine cl Tryz.call51 (fZ _ _ d.xN M fB (by omega) aX) ?_
 rintro _ nk ⟨nu,ny,rfl,fD,aY,aZ⟩
 have dK:=fC _ _ fD
 have lg:=dK.rowC (i:=0) rfl
 replace aY:1≤M.length∧M.length≤10:=aY
 replace aZ:d.xN ≥ 128∨M.length=1:=aZ
 have dL:=dK.pk [2,0,1]
 refine WL.do rfl (Do.appendW (k:=a.length) (m:=M.length) (bW) dL rfl rfl (cz Tryz.underlying31 (dL.rds (i:=1) rfl) (bK dB M)) rfl (by omega) (s:=List.length (a++M)) (by first | omega | (simp only [List.length_append,List.length_cons,List.length_nil] <;> omega)) (List.flatMap_append).symm ?_)
 intro iV iW nz iX
 have lh:List.length (a++M)=a.length+M.length:=by simp only [List.length_append,List.length_cons,List.length_nil]
 refine An rfl (Wp.exit (Fin.thenX (Fin.blockX (Fin.then (Wp.region (fw (.int .i64 ((b+1:Nat):Int)) (Yl.int (e:=IntKind.i64.wrap (((b:Nat):Int)+1)) yk (by rw [IntWalk.i64_in _ (by omega)]; omega)) (Mz rfl (WL.nil ?_))))))))
 have iY:=iX.pk [2,0]
 exact Fin.round (iV,iW,(a++M),b+1) ⟨rfl,rfl,rfl,rfl,rfl,rfl,trivial⟩ (j.2 ⟨iY,by omega,by omega,et (n) (et (congrArg (fun q=>bI d q a) o) (et (iN z) (et (iN C) (et (iN E) (et (iN p) (et (iN r) (et (iN t) (et (iN u) (et (iN B) (et (ip F) (aa aX)))))))))))⟩) (by show l.length - (b+1) < l.length - b; omega)
 refine jF (dF F) (Wp.skip (bN (Fin.then (sr (Az rfl (An rfl (rt (Fin.res (gB rfl rfl rfl) (Mz rfl (Kz (.pointer none) (Kz (.bool false) (Az rfl (Ar rfl (Mn rfl (jf (sk (sr (Mn rfl (bo (sr (Kz (.bool (decide (h=2))) (An rfl ?_))))))))))))))))))))))
 by_cases N:h=2
 refine jT (dT N) (Wp.region (Mz rfl (Kz (.pointer (some ⟨f,4,none⟩)) (Lz (.int .i64 d.bq) g 0 Tryz.isAgg3 (fw (.int .u8 (((aR d.bq).toNat:Nat):Int)) (Yl.int (e:=IntKind.u8.wrap d.bq) yk (kH _)) ?_)))))
 refine iP [.int .u8 (((aR d.bq).toNat:Nat):Int)] 5 1 1 g ?_
 intro iZ nA bg
 replace bg:=Own.reh (y:=row iZ 1 1 (List.flatMap eB ([(aR d.bq)])) 5 1) rfl bg
 have dN:=bg.pk [2,0,1]
 refine WL.do rfl (Do.appendW (k:=a.length) (m:=1) (bW) dN rfl rfl (cz Tryz.underlying31 (dN.rds (i:=1) rfl) (bK dB ([(aR d.bq)]))) rfl (by omega) (s:=List.length (a++ [(aR d.bq)])) (by first | omega | (simp only [List.length_append,List.length_cons,List.length_nil] <;> omega)) (List.flatMap_append).symm ?_)
 intro ja jb nC jc
 have ll:List.length (a++ [(aR d.bq)])=a.length+1:=by simp only [List.length_append,List.length_cons,List.length_nil]
 refine Az rfl (WL.nil (bN (bN (Fin.then (Wp.region (fw (.int .i64 ((b+1:Nat):Int)) (Yl.int (e:=IntKind.i64.wrap (((b:Nat):Int)+1)) yk (by rw [IntWalk.i64_in _ (by omega)]; omega)) (Mz rfl (WL.nil ?_))))))))
 have jd:=jc.pk [2,0]
 exact Fin.round (ja,jb,(a++ [(aR d.bq)]),b+1) ⟨rfl,rfl,rfl,rfl,rfl,rfl,trivial⟩ (j.2 ⟨jd,by omega,by omega,et (n) (et (congrArg (fun q=>bI d q a) o) (et (iN z) (et (iN C) (et (iN E) (et (iN p) (et (iN r) (et (iN t) (et (iN u) (et (iN B) (et (iN F) (ip N)))))))))))⟩) (by show l.length - (b+1) < l.length - b; omega)
 refine jF (dF N) (sr (Kz (.bool (decide (h=12))) (An rfl ?_)))
 by_cases U:h=12
 refine jT (dT U) (Wp.region (Mz rfl (Kz (.pointer (some ⟨f,5,none⟩)) (Lz (.int .i64 d.bM) g 0 Tryz.isAgg3 (fw (.int .u8 (((aR d.bM).toNat:Nat):Int)) (Yl.int (e:=IntKind.u8.wrap d.bM) yk (kH _)) ?_)))))
 refine iP [.int .u8 (((aR d.bM).toNat:Nat):Int)] 5 1 1 g ?_
 intro je nD bi
 replace bi:=Own.reh (y:=row je 1 1 (List.flatMap eB ([(aR d.bM)])) 5 1) rfl bi
 have dP:=bi.pk [2,0,1]
 refine WL.do rfl (Do.appendW (k:=a.length) (m:=1) (bW) dP rfl rfl (cz Tryz.underlying31 (dP.rds (i:=1) rfl) (bK dB ([(aR d.bM)]))) rfl (by omega) (s:=List.length (a++ [(aR d.bM)])) (by first | omega | (simp only [List.length_append,List.length_cons,List.length_nil] <;> omega)) (List.flatMap_append).symm ?_)
 intro jg jh nG ji
 have lq:List.length (a++ [(aR d.bM)])=a.length+1:=by simp only [List.length_append,List.length_cons,List.length_nil]
 refine Az rfl (WL.nil (bN (bN (Fin.then (Wp.region (fw (.int .i64 ((b+1:Nat):Int)) (Yl.int (e:=IntKind.i64.wrap (((b:Nat):Int)+1)) yk (by rw [IntWalk.i64_in _ (by omega)]; omega)) (Mz rfl (WL.nil ?_))))))))
 have jk:=ji.pk [2,0]
 exact Fin.round (jg,jh,(a++ [(aR d.bM)]),b+1) ⟨rfl,rfl,rfl,rfl,rfl,rfl,trivial⟩ (j.2 ⟨jk,by omega,by omega,et (n) (et (congrArg (fun q=>bI d q a) o) (et (iN z) (et (iN C) (et (iN E) (et (iN p) (et (iN r) (et (iN t) (et (iN u) (et (iN B) (et (iN F) (et (iN N) (ip U))))))))))))⟩) (by show l.length - (b+1) < l.length - b; omega)
 refine jF (dF U) (sr (Kz (.bool (decide (h=8))) (An rfl ?_)))
 by_cases V:h=8
 refine jT (dT V) (Wp.region (Mz rfl (Kz (.pointer (some ⟨f,15,none⟩)) (Lz (.bool d.bV) g 0 Tryz.isAgg4 ?_))))
 obtain⟨W,bn⟩:∃ q,kP d.bV=q:=⟨_,rfl⟩
 obtain⟨nH,fE,lu,fF,lv⟩:=Own.enter0 g
 refine cl Tryz.call55 (mh _ _ d.bV W fE bn) ?_
 rintro _ nI ⟨rfl,fG⟩
 have jl:=fF _ _ fG
 refine iP [.int .u8 ((W.toNat:Nat):Int)] 5 1 1 jl ?_
 intro jm nJ bq
 replace bq:=Own.reh (y:=row jm 1 1 (List.flatMap eB ([W])) 5 1) rfl bq
 have dQ:=bq.pk [2,0,1]
 refine WL.do rfl (Do.appendW (k:=a.length) (m:=1) (bW) dQ rfl rfl (cz Tryz.underlying31 (dQ.rds (i:=1) rfl) (bK dB ([W]))) rfl (by omega) (s:=List.length (a++ [W])) (by first | omega | (simp only [List.length_append,List.length_cons,List.length_nil] <;> omega)) (List.flatMap_append).symm ?_)
 intro jo jq nK jr
 have lw:List.length (a++ [W])=a.length+1:=by simp only [List.length_append,List.length_cons,List.length_nil]
 refine Az rfl (WL.nil (bN (bN (Fin.then (Wp.region (fw (.int .i64 ((b+1:Nat):Int)) (Yl.int (e:=IntKind.i64.wrap (((b:Nat):Int)+1)) yk (by rw [IntWalk.i64_in _ (by omega)]; omega)) (Mz rfl (WL.nil ?_))))))))
 have jv:=jr.pk [2,0]
 exact Fin.round (jo,jq,(a++ [W]),b+1) ⟨rfl,rfl,rfl,rfl,rfl,rfl,trivial⟩ (j.2 ⟨jv,by omega,by omega,et (n) (et (congrArg (fun q=>bI d q a) o) (et (iN z) (et (iN C) (et (iN E) (et (iN p) (et (iN r) (et (iN t) (et (iN u) (et (iN B) (et (iN F) (et (iN N) (et (iN U) (et (ip V) (aa bn))))))))))))))⟩) (by show l.length - (b+1) < l.length - b; omega)
 refine jF (dF V) (sr (Kz (.bool (decide (h=13))) (An rfl ?_)))
 by_cases X:h=13
 refine jT (dT X) (Wp.region (Mz rfl (Kz (.pointer (some ⟨f,16,none⟩)) (Kz (.pointer (some ⟨f,16,none⟩)) (Lz (.string ⟨List.toArray d.aG.aD⟩) g 0 Tryz.isAgg9 (Kz (.pointer (some ⟨f,16,none⟩)) (Kz (.pointer (some ⟨f,17,none⟩)) (Lz (.string ⟨List.toArray d.aG.aI⟩) g 0 Tryz.isAgg9 ?_))))))))
 refine iP [.string ⟨List.toArray d.aG.aD⟩, .string ⟨List.toArray d.aG.aI⟩] 9 1 2 g ?_
 intro dR nL bv
 replace bv:=Own.reh (y:=row dR 2 2 (List.flatMap eS ([d.aG.aD,d.aG.aI])) 9 1) rfl bv
 have jw:=bv.pk [2,0,1]
 obtain⟨bz,bA⟩:∃ q,dI a ([d.aG.aD,d.aG.aI])=q:=⟨_,rfl⟩
 obtain⟨nM,fH,lC,fI,fJ⟩:=Own.enter1 jw
 refine WL.do rfl (Do.call Tryz.call56 rfl (dE _ _ Y a.length Z a dR 2 2 ([d.aG.aD,d.aG.aI]) bz fH rfl (by omega) (fJ _ 0 _ rfl bJ) rfl (by simp) (by first | omega | (simp only [List.length_cons,List.length_nil,List.length_append]; omega)) (by refine⟨Nat.le_of_ble_eq_true rfl, ?_⟩; simp only [List.mem_cons,List.not_mem_nil,or_false,forall_eq_or_imp,forall_eq]; omega) bA) ?_)
 rintro _ nN ⟨jy,jA,rfl,fK,bB⟩
 have dS:=fI _ _ fK
 have lD:=dS.rowC (i:=0) rfl
 replace bB:bz.length≤a.length+26 *2:=bB
 refine Az rfl (WL.nil (bN (bN (Fin.then (Wp.region (fw (.int .i64 ((b+1:Nat):Int)) (Yl.int (e:=IntKind.i64.wrap (((b:Nat):Int)+1)) yk (by rw [IntWalk.i64_in _ (by omega)]; omega)) (Mz rfl (WL.nil ?_))))))))
 have jB:=dS.pk [2,0]
 exact Fin.round (jy,jA,bz,b+1) ⟨rfl,rfl,rfl,rfl,rfl,rfl,trivial⟩ (j.2 ⟨jB,by omega,by omega,et (n) (et (congrArg (fun q=>bI d q a) o) (et (iN z) (et (iN C) (et (iN E) (et (iN p) (et (iN r) (et (iN t) (et (iN u) (et (iN B) (et (iN F) (et (iN N) (et (iN U) (et (iN V) (et (ip X) (aa bA)))))))))))))))⟩) (by show l.length - (b+1) < l.length - b; omega)
 refine jF (dF X) (sr (Kz (.bool (decide (h=7))) (An rfl ?_)))
 by_cases ai:h=7
 refine jT (dT ai) (Wp.region (Mz rfl (Kz (.pointer (some ⟨f,18,none⟩)) (Lz (.slice O d.az.ls.length P) g 0 Tryz.isAgg25 ?_))))
 have jC:=g.pk [1,0]
 obtain⟨bC,bE⟩:∃ q,lm a d.az.ls=q:=⟨_,rfl⟩
 obtain⟨nO,fM,fO,fP,lF⟩:=Own.enter1 jC
 refine cl Tryz.call57 (oz _ _ Y a.length Z a O d.az.ls.length P d.az.ls bC fM rfl (by omega) (fO _ dZ) rfl (by omega) (by first | omega | (simp only [List.length_cons,List.length_nil,List.length_append]; omega)) (by exact ak.1) bE) ?_
 rintro _ nP ⟨jD,jE,rfl,fQ,bF⟩
 have dU:=fP _ _ fQ
 have lG:=dU.rowC (i:=0) rfl
 replace bF:bC.length≤a.length+10+106 *d.az.ls.length:=bF
 refine Az rfl (WL.nil (bN (bN (Fin.then (Wp.region (fw (.int .i64 ((b+1:Nat):Int)) (Yl.int (e:=IntKind.i64.wrap (((b:Nat):Int)+1)) yk (by rw [IntWalk.i64_in _ (by omega)]; omega)) (Mz rfl (WL.nil ?_))))))))
 have jG:=dU.pk [1,0]
 exact Fin.round (jD,jE,bC,b+1) ⟨rfl,rfl,rfl,rfl,rfl,rfl,trivial⟩ (j.2 ⟨jG,by omega,by omega,et (n) (et (congrArg (fun q=>bI d q a) o) (et (iN z) (et (iN C) (et (iN E) (et (iN p) (et (iN r) (et (iN t) (et (iN u) (et (iN B) (et (iN F) (et (iN N) (et (iN U) (et (iN V) (et (iN X) (et (ip ai) (aa bE))))))))))))))))⟩) (by show l.length - (b+1) < l.length - b; omega)
 refine jF (dF ai) (sr (Kz (.bool (decide (h=3))) (An rfl ?_)))
 by_cases aj:h=3
 refine jT (dT aj) (Wp.region (Mz rfl (Kz (.pointer (some ⟨f,19,none⟩)) (Lz (.slice Q d.ai.ls.length R) g 0 Tryz.isAgg26 ?_))))
 have jH:=g.pk [1,0]
 obtain⟨bH,bL⟩:∃ q,ko a d.ai.ls=q:=⟨_,rfl⟩
 obtain⟨nQ,fT,bM,fU,lH⟩:=Own.enter1 jH
 refine cl Tryz.call59 (mV _ _ Y a.length Z a Q d.ai.ls.length R au d.ai.ls bH fT rfl (by omega) ay (bM _ ed) (fun x9 h9=>⟨bM _ (az x9 h9).1,(az x9 h9).2⟩) rfl (by omega) (by first | omega | (simp only [List.length_cons,List.length_nil,List.length_append]; omega)) (by exact ak.2.1) bL) ?_
 rintro _ nT ⟨jI,jJ,rfl,fV,bO⟩
 have dV:=fU _ _ fV
 have lI:=dV.rowC (i:=0) rfl
 replace bO:bH.length≤a.length+10+245 *d.ai.ls.length:=bO
 refine Az rfl (WL.nil (bN (bN (Fin.then (Wp.region (fw (.int .i64 ((b+1:Nat):Int)) (Yl.int (e:=IntKind.i64.wrap (((b:Nat):Int)+1)) yk (by rw [IntWalk.i64_in _ (by omega)]; omega)) (Mz rfl (WL.nil ?_))))))))
 have jK:=dV.pk [1,0]
 exact Fin.round (jI,jJ,bH,b+1) ⟨rfl,rfl,rfl,rfl,rfl,rfl,trivial⟩ (j.2 ⟨jK,by omega,by omega,et (n) (et (congrArg (fun q=>bI d q a) o) (et (iN z) (et (iN C) (et (iN E) (et (iN p) (et (iN r) (et (iN t) (et (iN u) (et (iN B) (et (iN F) (et (iN N) (et (iN U) (et (iN V) (et (iN X) (et (iN ai) (et (ip aj) (aa bL)))))))))))))))))⟩) (by show l.length - (b+1) < l.length - b; omega)
 refine jF (dF aj) (sr (Kz (.bool (decide (h=11))) (An rfl ?_)))
 by_cases av:h=11
 refine jT (dT av) (Wp.region (Mz rfl (Kz (.pointer (some ⟨f,20,none⟩)) (Lz (.slice S d.aj.ls.length T) g 0 Tryz.isAgg27 ?_))))
 have jL:=g.pk [1,0]
 obtain⟨bP,bQ⟩:∃ q,kz a d.aj.ls=q:=⟨_,rfl⟩
 obtain⟨nU,gm,gp,gq,lJ⟩:=Own.enter1 jL
 refine cl Tryz.call61 (nE _ _ Y a.length Z a S d.aj.ls.length T d.aj.ls bP gm rfl (by omega) (gp _ eu) rfl (by omega) (by first | omega | (simp only [List.length_cons,List.length_nil,List.length_append]; omega)) (by exact ak.2.2.1) bQ) ?_
 rintro _ nV ⟨jM,jN,rfl,gu,bS⟩
 have dW:=gq _ _ gu
 have lK:=dW.rowC (i:=0) rfl
 replace bS:bP.length≤a.length+10+27 *d.aj.ls.length:=bS
 refine Az rfl (WL.nil (bN (bN (Fin.then (Wp.region (fw (.int .i64 ((b+1:Nat):Int)) (Yl.int (e:=IntKind.i64.wrap (((b:Nat):Int)+1)) yk (by rw [IntWalk.i64_in _ (by omega)]; omega)) (Mz rfl (WL.nil ?_))))))))
 have jO:=dW.pk [1,0]
 exact Fin.round (jM,jN,bP,b+1) ⟨rfl,rfl,rfl,rfl,rfl,rfl,trivial⟩ (j.2 ⟨jO,by omega,by omega,et (n) (et (congrArg (fun q=>bI d q a) o) (et (iN z) (et (iN C) (et (iN E) (et (iN p) (et (iN r) (et (iN t) (et (iN u) (et (iN B) (et (iN F) (et (iN N) (et (iN U) (et (iN V) (et (iN X) (et (iN ai) (et (iN aj) (et (ip av) (aa bQ))))))))))))))))))⟩) (by show l.length - (b+1) < l.length - b; omega)
 refine jF (dF av) (Wp.skip (bN (bN (Fin.then (Wp.region (fw (.int .i64 ((b+1:Nat):Int)) (Yl.int (e:=IntKind.i64.wrap (((b:Nat):Int)+1)) yk (by rw [IntWalk.i64_in _ (by omega)]; omega)) (Mz rfl (WL.nil ?_))))))))
 have jP:=g.pk [0,1]
 exact Fin.round (Y,Z,a,b+1) ⟨rfl,rfl,rfl,rfl,rfl,rfl,trivial⟩ (j.2 ⟨jP,by omega,by omega,et (n) (et (congrArg (fun q=>bI d q a) o) (et (iN z) (et (iN C) (et (iN E) (et (iN p) (et (iN r) (et (iN t) (et (iN u) (et (iN B) (et (iN F) (et (iN N) (et (iN U) (et (iN V) (et (iN X) (et (iN ai) (et (iN aj) (iN av)))))))))))))))))⟩) (by show l.length - (b+1) < l.length - b; omega)
 refine jF (dF gK) (Wp.exit (Fin.thenX ?_))
 have gy:bI d l l0=a:=et (n) (et (congrArg (fun q=>bI d q a) (dY (ls:=l) (i:=b) (by omega))) rfl)
 refine Fin.thenX (Fin.blockX (Fin.then (sr (Mz rfl (An rfl (rt (rs ?_)))))))
 have jQ:=g.pk [1]
 obtain rfl:_=a:=hr.symm.trans (aa gy)
 exact⟨Y,Z,rfl,jQ,(by omega)⟩
def kV (c:bG):(List UInt8) × Int:=
 bnd (dH c) fun a=>if a=0 then bnd (bY c.ae) fun d=>bnd (nZ ([(aR c.ae),(aR c.bn),(aR c.dm)]) c d.1.aJ.ls) fun e=>bnd (jw e) fun b=>(b.1,b.2) else([],a)
theorem qI (w:World) (D:Nat→Prop) (a:bG) (g:Option Addr) (L b:Nat) (h:Option Addr) (M d:Nat) (m:List ag) (j:Option Addr) (N f:Nat) (Z:List UInt8) (r1:Int) (H:Own w D w []) (U:L=a.az.ls.length) (t:Ro w D fun w'=>bD w' 6 g a.az.ls.length (List.flatMap aB.cells a.az.ls)) (aQ:a.az.ls.length≤b∧a.az.ls.length≤9223372036854775807) (n:List.map ag.abs m=a.ai.ls) (V:M=a.ai.ls.length) (u:Ro w D fun w'=>bD w' 3 h a.ai.ls.length (List.flatMap ag.cells m)) (aS:a.ai.ls.length≤d∧a.ai.ls.length≤9223372036854775807) (l:∀ x ∈ m,Ro w D (fun w'=>bD w' 2 x.ay.A x.ay.ls.length (List.flatMap aW.cells x.ay.ls))∧(x.ay.ls.length≤x.ay.c∧x.ay.ls.length≤9223372036854775807)) (W:N=a.aj.ls.length) (z:Ro w D fun w'=>bD w' 2 j a.aj.ls.length (List.flatMap aA.cells a.aj.ls)) (aT:a.aj.ls.length≤f∧a.aj.ls.length≤9223372036854775807) (bL:a.az.ls.length≤140737488355328∧a.ai.ls.length≤140737488355328∧a.aj.ls.length≤140737488355328) (bM:a.bF≤18446744073709551615∧a.aY≤18446744073709551615∧a.bE≤18446744073709551615∧a.bH≤18446744073709551615∧a.bL≤18446744073709551615∧a.aS≤18446744073709551615∧a.bB≤18446744073709551615∧a.aK≤18446744073709551615∧a.xN≤18446744073709551615) (hr:kV a=(Z,r1)):
    Calls Tryz.prog 9 #[.agg (bf a.ae a.bn a.dm a.aO a.bq a.bM a.bF a.aY a.bE a.bH a.bL a.aS a.bB a.aK a.xN a.bV a.aG.aD a.aG.aI g L b h M d j N f).toArray] w (cK fun v w'=> ∃ (B0:Option Addr) (b0:Nat),v= .tuple #[.slice B0 Z.length b0, .int .i64 r1]∧Own w D w' [row B0 Z.length b0 (List.flatMap eB Z) 5 1]∧(Z.length≤51000)):=by
 subst U V W
 have hdl0x1:=dM n
 refine Calls.body (args:= [.agg (aV a g b h d j f).toArray]) Tryz.func9 rfl rfl rfl ?_
 show Wp _ _ _ [(0, .agg (aV a g b h d j f).toArray)] _ _
 refine sr ?_
 refine dD (aV a g b h d j f) 29 H ?_
 intro B bN ae
 refine Az rfl (An rfl (Wp.seq (sr (La (aV a g b h d j f) ae 0 Tryz.isAgg29 Tryz.sizeOf29 ?_))))
 obtain⟨C,o⟩:∃ q,dH a=q:=⟨_,rfl⟩
 obtain⟨bO,af,p,ah,bB⟩:=Own.enter0 ae
 refine cl Tryz.call11 (mg _ _ a g a.az.ls.length b h a.ai.ls.length d m j a.aj.ls.length f C af rfl (p _ t) (show a.az.ls.length≤b∧a.az.ls.length≤9223372036854775807 from by omega) n rfl (p _ u) (show a.ai.ls.length≤d∧a.ai.ls.length≤9223372036854775807 from by omega) (fun x9 h9=>⟨p _ (l x9 h9).1,(l x9 h9).2⟩) rfl (p _ z) (show a.aj.ls.length≤f∧a.aj.ls.length≤9223372036854775807 from by omega) (by first | omega | (dsimp only; omega) | (simp only [List.length_nil]; omega)) o) ?_
 rintro _ aU ⟨rfl,ak⟩
 have X:=ah _ _ ak
 refine Ar rfl (Mz rfl (fw (.bool (decide (¬ (C=0)))) (Yl.bool (e:= !(decide (C=0))) yk decide_not.symm) (nt ?_)))
 by_cases F:C=0
 refine jF (dF (not_not_intro F)) (sk (sr (Kz (.pointer (some ⟨B,0,none⟩)) (Lz (.int .i64 a.ae) X 0 Tryz.isAgg3 ?_))))
 obtain⟨⟨k,au⟩,O⟩:∃ q:dK × Bool,bY a.ae=q:=⟨_,rfl⟩
 obtain⟨bQ,av,bC,ax,bE⟩:=Own.enter0 X
 refine cl Tryz.call19 (lh _ _ a.ae k au av O) ?_
 rintro _ bR ⟨G,I,rfl,ay,P⟩
 have az:=ax _ _ ay
 have bF:=az.rowC (i:=0) rfl
 replace P:k.aJ.ls.length≤5:=P
 refine Mz rfl (Kz (.agg #[.int .i64 k.gM, .int .i64 k.jo, .slice G k.aJ.ls.length I]) (Kz (.bool au) ?_))
 refine dD [.int .i64 0, .int .i64 0, .slice none 0 0] 50 az ?_
 intro aX bS aY
 refine bz [.int .i64 k.gM, .int .i64 k.jo, .slice G k.aJ.ls.length I] 0 aY Tryz.sizeOf50 ?_
 intro bT J
 refine Ar rfl (Kz (.pointer (some ⟨B,0,none⟩)) (Lz (.int .i64 a.ae) J 2 Tryz.isAgg3 (fw (.int .u8 (((aR a.ae).toNat:Nat):Int)) (Yl.int (e:=IntKind.u8.wrap a.ae) yk (kH _)) (Kz (.pointer (some ⟨B,1,none⟩)) (Lz (.int .i64 a.bn) J 2 Tryz.isAgg3 (fw (.int .u8 (((aR a.bn).toNat:Nat):Int)) (Yl.int (e:=IntKind.u8.wrap a.bn) yk (kH _)) (Kz (.pointer (some ⟨B,2,none⟩)) (Lz (.int .i64 a.dm) J 2 Tryz.isAgg3 (fw (.int .u8 (((aR a.dm).toNat:Nat):Int)) (Yl.int (e:=IntKind.u8.wrap a.dm) yk (kH _)) ?_)))))))))
 refine iP [.int .u8 (((aR a.ae).toNat:Nat):Int), .int .u8 (((aR a.bn).toNat:Nat):Int), .int .u8 (((aR a.dm).toNat:Nat):Int)] 5 1 3 J ?_
 intro aC bU E
 replace E:=Own.reh (y:=row aC 3 3 (List.flatMap eB ([(aR a.ae),(aR a.bn),(aR a.dm)])) 5 1) rfl E
 refine Ar rfl (Mz rfl (La (aV a g b h d j f) E 3 Tryz.isAgg29 Tryz.sizeOf29 (Kz (.pointer (some ⟨aX,2,none⟩)) (Lz (.slice G k.aJ.ls.length I) E 1 Tryz.isAgg48 ?_))))
 obtain⟨s,Q⟩:∃ q,nZ ([(aR a.ae),(aR a.bn),(aR a.dm)]) a k.aJ.ls=q:=⟨_,rfl⟩
 obtain⟨bV,aD,r,aF,aG⟩:=Own.enter1 E
 refine cl Tryz.call20 (qZ _ _ aC 3 3 ([(aR a.ae),(aR a.bn),(aR a.dm)]) a g a.az.ls.length b h a.ai.ls.length d m j a.aj.ls.length f G k.aJ.ls.length I k.aJ.ls s aD rfl (by simp) rfl (r _ t) (show a.az.ls.length≤b∧a.az.ls.length≤9223372036854775807 from by omega) n rfl (r _ u) (show a.ai.ls.length≤d∧a.ai.ls.length≤9223372036854775807 from by omega) (fun x9 h9=>⟨r _ (l x9 h9).1,(l x9 h9).2⟩) rfl (r _ z) (show a.aj.ls.length≤f∧a.aj.ls.length≤9223372036854775807 from by omega) (aG _ 1 _ rfl bJ) rfl (by omega) (by first | omega | exact Nat.le_of_ble_eq_true rfl) (by omega) (by exact wo (by rw [o]; omega)) (by first | omega | (dsimp only; omega) | (simp only [List.length_nil]; omega)) Q) ?_
 rintro _ bW ⟨aZ,bg,rfl,aH,R⟩
 have aI:=aF _ _ aH
 have bH:=aI.rowC (i:=0) rfl
 replace R:s.length≤50000:=R
 obtain⟨⟨K,Y⟩,S⟩:∃ q:(List UInt8) × Int,jw s=q:=⟨_,rfl⟩
 obtain⟨bX,aJ,bI,aK,aL⟩:=Own.enter0 aI
 refine cl Tryz.call17 (l9 _ _ aZ s.length bg s K Y aJ (aL _ 0 _ rfl bJ) rfl (by omega) S) ?_
 rintro _ bZ ⟨aM,aN,rfl,aO,T⟩
 have aP:=aK _ _ aO
 have bK:=aP.rowC (i:=0) rfl
 replace T:K.length≤s.length+15:=T
 refine Kz (.slice aM K.length aN) (Kz (.int .i64 Y) (Az rfl (An rfl (rt (Fin.res (gB rfl rfl rfl) ?_)))))
 have bi:=aP.pk [0]
 have e:kV a=(K,Y):=et (aa o) (et (ip F) (et (aa O) (et (aa Q) (aa S))))
 obtain⟨rfl,rfl⟩:=dL (e.symm.trans hr)
 exact⟨aM,aN,rfl,bi,(by first | omega | exact Nat.zero_le _)⟩
 refine jT (dT F) (sr (Mz rfl (Az rfl (An rfl (rt (tR (Fin.res (gB rfl rfl rfl) ?_)))))))
 have bn:Own w D aU [row none 0 0 (List.flatMap eB ([])) 5 1,blk B (aV a g b h d j f) 29]:=X.free (bP 5 1)
 have bq:=bn.pk [0]
 have e:kV a=([],C):=et (aa o) (iN F)
 obtain⟨rfl,rfl⟩:=dL (e.symm.trans hr)
 exact⟨none,0,rfl,bq,(by first | omega | exact Nat.zero_le _)⟩
end Go.Proofs.YtccjclalngabhaaGreat
