/-
 wire: bytes of messages.
-/
import Derived.Test.YtccjclalngabhaaGreatWd
namespace Go.Proofs.YtccjclalngabhaaGreat
set_option maxRecDepth 100000
open Go.RowKit
set_option linter.unusedVariables false
set_option linter.unusedSectionVars false
set_option linter.unusedSimpArgs false
def bJ (c:bE):List Int→List UInt8→(List UInt8)
  | [],a=>a
  | d::b,a=>if d=0 then bnd (dP c.bG) fun p=>bJ c b (a++p) else if d=1 then bnd (dP c.aY) fun q=>bJ c b (a++q) else if d=4 then bnd (dP c.bF) fun r=>bJ c b (a++r) else if d=5 then bnd (dP c.bH) fun e=>bJ c b (a++e) else if d=6 then bnd (dP c.aV) fun f=>bJ c b (a++f) else if d=9 then bnd (dP c.bL) fun g=>bJ c b (a++g) else if d=10 then bnd (dP c.bB) fun h=>bJ c b (a++h) else if d=14 then bnd (dP c.aK) fun i=>bJ c b (a++i) else if d=15 then bnd (dP c.xN) fun j=>bJ c b (a++j) else if d=2 then bJ c b (a++ [(aU c.bu)]) else if d=12 then bJ c b (a++ [(aU c.bO)]) else if d=8 then bnd (kU c.bV) fun k=>bJ c b (a++ [k]) else if d=13 then bnd (dK a ([c.aG.aD,c.aG.aH])) fun l=>bJ c b l else if d=7 then bnd (lG a c.ax.ls) fun m=>bJ c b m else if d=3 then bnd (ky a c.ah.ls) fun n=>bJ c b n else if d=11 then bnd (kH a c.ai.ls) fun o=>bJ c b o else bJ c b a
def oC (a:List UInt8) (b:bE) (c:List Int):(List UInt8):=
 bnd (bJ b c a) fun sLrL=>sLrL
set_option maxHeartbeats 4000000 in
theorem rE (w:World) (D:Nat→Prop) (A0:Option Addr) (n0 c0:Nat) (l0:List UInt8) (d:bE) (O:Option Addr) (bT P:Nat) (Q:Option Addr) (bU R:Nat) (au:List af) (S:Option Addr) (bV T:Nat) (A2:Option Addr) (n2 c2:Nat) (l:List Int) (r0:List UInt8) (H:Own w D w [row A0 n0 c0 (List.flatMap eB l0) 5 1]) (jS:n0=l0.length) (nW:l0.length *1≤211106232532992) (dY:bT=d.ax.ls.length) (d9:Ro w D fun w'=>bD w' 6 O d.ax.ls.length (List.flatMap aB.cells d.ax.ls)) (jU:d.ax.ls.length≤P∧d.ax.ls.length≤9223372036854775807) (ay:List.map zh au=d.ah.ls) (ed:bU=d.ah.ls.length) (ek:Ro w D fun w'=>bD w' 3 Q d.ah.ls.length (List.flatMap af.cells au)) (jV:d.ah.ls.length≤R∧d.ah.ls.length≤9223372036854775807) (az:∀ x ∈ au,Ro w D (fun w'=>bD w' 2 x.ak.A x.ak.ls.length (List.flatMap aR.cells x.ak.ls))∧(x.ak.ls.length≤x.ak.c∧x.ak.ls.length≤9223372036854775807)) (eu:bV=d.ai.ls.length) (eD:Ro w D fun w'=>bD w' 2 S d.ai.ls.length (List.flatMap aA.cells d.ai.ls)) (jW:d.ai.ls.length≤T∧d.ai.ls.length≤9223372036854775807) (eF:Ro w D fun w'=>bD w' 1 A2 n2 (List.flatMap (eI .i64) l)) (jX:n2=l.length) (nX:l.length *8≤211106232532992) (nY:l0.length≤1000) (nZ:l.length≤5) (ak:((d.ax.ls.length≤24∧∀ x ∈ d.ax.ls,x.aL.length≤12∧x.au.length≤16∧x.aD.length≤12∧x.aH.length≤12)∧(d.ah.ls.length≤24∧∀ x ∈ d.ah.ls,x.au.length≤16∧x.ak.ls.length≤4∧∀ q ∈ x.ak.ls,q.aL.length≤12∧q.au.length≤16)∧(d.ai.ls.length≤6∧∀ x ∈ d.ai.ls,x.aD.length≤12)∧d.aG.aD.length≤12∧d.aG.aH.length≤12)) (og:d.bG≤18446744073709551615∧d.aY≤18446744073709551615∧d.bF≤18446744073709551615∧d.bH≤18446744073709551615∧d.bL≤18446744073709551615∧d.aV≤18446744073709551615∧d.bB≤18446744073709551615∧d.aK≤18446744073709551615∧d.xN≤18446744073709551615) (hr:oC l0 d l=r0):
    Calls Tryz.prog 20 #[.slice A0 n0 c0, .agg (bf d.ae d.bq d.dw d.aQ d.bu d.bO d.bG d.aY d.bF d.bH d.bL d.aV d.bB d.aK d.xN d.bV d.aG.aD d.aG.aH O bT P Q bU R S bV T).toArray, .slice A2 n2 c2] w (cO fun v w'=> ∃ (B0:Option Addr) (b0:Nat),v= .slice B0 r0.length b0∧Own w D w' [row B0 r0.length b0 (List.flatMap eB r0) 5 1]∧(r0.length≤50000)):=by
 subst jS jX dY ed eu
 have hdl1x1:=dG ay
 have oh:=H.rowC (i:=0) rfl
 have hh2a:=ak.1.1
 have hh2b:=ak.2.1.1
 have hh2c:=ak.2.2.1.1
 have hh2d:=ak.2.2.2
 refine yR (args:= [.slice A0 l0.length c0, .agg (aM d O P Q R S T).toArray, .slice A2 l.length c2]) Tryz.func20 rfl rfl rfl ?_
 show Wp _ _ _ [(0, .slice A0 l0.length c0),(1, .agg (aM d O P Q R S T).toArray),(2, .slice A2 l.length c2)] _ _
 refine sr ?_
 refine dE (aM d O P Q R S T) 29 H ?_
 intro f ol jY
 refine An rfl (yJ (sr (Mz rfl (Kz (.int .i64 ((l.length:Nat):Int)) (Mn rfl (bo ?_))))))
 have jZ:=jY.pk [0,1]
 obtain⟨gH,gI⟩:∃ q:((Option Addr) × Nat × (List UInt8) × Nat)→World→Prop,q=fun(i:(Option Addr) × Nat × (List UInt8) × Nat) w'=>Own w D w' [blk f (aM d O P Q R S T) 29,row i.1 i.2.2.1.length i.2.1 (List.flatMap eB i.2.2.1) 5 1]∧(i.2.2.2≤l.length∧((i.2.2.1.length:Nat):Int)≤((l0.length:Nat):Int)+6000 *((i.2.2.2:Nat):Int)∧bJ d l l0=bJ d (List.drop i.2.2.2 l) i.2.2.1):=⟨_,rfl⟩
 have j:∀ {Y:Option Addr} {Z:Nat} {a:List UInt8} {b:Nat} {w':World},gH (Y,Z,a,b) w'↔Own w D w' [blk f (aM d O P Q R S T) 29,row Y a.length Z (List.flatMap eB a) 5 1]∧b≤l.length∧((a.length:Nat):Int)≤((l0.length:Nat):Int)+6000 *((b:Nat):Int)∧bJ d l l0=bJ d (List.drop b l) a:=by intros; subst gI; exact Iff.rfl
 refine Wp.loop (fun i:(Option Addr) × Nat × (List UInt8) × Nat=> [(0, .slice i.1 i.2.2.1.length i.2.1),(13, .int .i64 ((i.2.2.2:Nat):Int)),(12, .int .i64 ((l.length:Nat):Int)),(11, .slice A2 l.length c2),(6, .slice none 0 0),(4, .pointer (some ⟨f,0,none⟩))]) gH (fun i=>l.length - i.2.2.2) (A0,c0,l0,0) ⟨rfl,rfl,rfl,rfl,rfl,rfl,trivial⟩ (j.2 ⟨jZ,by omega,by omega,rfl⟩) ?_
 rintro ⟨Y,Z,a,b⟩ om gJ
 show Wp _ _ _ [(0, .slice Y a.length Z),(13, .int .i64 ((b:Nat):Int)),(12, .int .i64 ((l.length:Nat):Int)),(11, .slice A2 l.length c2),(6, .slice none 0 0),(4, .pointer (some ⟨f,0,none⟩))] _ _
 obtain⟨g,lN,lQ,n⟩:=j.1 gJ
 refine sr (Kz (.bool (decide (((b:Nat):Int) < ((l.length:Nat):Int)))) (nt (yJ ?_)))
 by_cases gK:((b:Nat):Int) < ((l.length:Nat):Int)
 obtain⟨h,bY⟩:=dV (ls:=l) (i:=b) mi (by decide) (g.ro eF) (by first | omega | (simp; done) | (simp; omega))
 have o:=drop_at bY
 refine jT (dT gK) (sk (yJ (bo (sr (fw (.pointer (some ⟨ab A2,ao A2+b *1,none⟩)) (yZ (uh) rfl rfl ((g.ro eF).addr (i:=b) (by omega)) (by omega)) (fw (.int .i64 h) (y5 rfl (bn.one Tryz.isAgg93 (((g.ro eF).elem mi bY (by decide)).at_ (k:=0) rfl))) (An rfl (yJ (sr (Mz rfl ?_))))))))))
 refine WL.do rfl (zf Tryz.call54 rfl ?_ (fun _ _ k=>k))
 refine yR (args:= [.pointer (some ⟨f,0,none⟩), .int .i64 h]) Tryz.func54 rfl rfl rfl ?_
 show Wp _ _ _ [(0, .pointer (some ⟨f,0,none⟩)),(1, .int .i64 h)] _ _
 refine sr (Az rfl (An rfl (yJ (sr (Mn rfl (bo (sr (Kz (.bool (decide (h=0))) (An rfl ?_)))))))))
 by_cases z:h=0
 refine jT (dT z) (sr (Mz rfl (Kz (.pointer (some ⟨f,0,none⟩)) (Kz (.pointer (some ⟨f,6,none⟩)) (Az rfl (An rfl (rt (bR (tR (y9 (gD rfl rfl rfl) (Mz rfl (Kz (.pointer (some ⟨f,6,none⟩)) (Kz (.bool true) (Az rfl (Ar rfl (Mn rfl (jt (sr (Mz rfl (Mz rfl (Kz (.pointer (some ⟨f,6,none⟩)) (Lz (.int .u64 ((d.bG:Nat):Int)) g 0 Tryz.isAgg22 ?_))))))))))))))))))))))
 obtain⟨ae,bZ⟩:∃ q,dP d.bG=q:=⟨_,rfl⟩
 obtain⟨oo,gL,lS,gM,lT⟩:=yP g
 refine cl Tryz.call51 (gm _ _ d.bG ae gL (by omega) bZ) ?_
 rintro _ oq ⟨ou,ow,rfl,gN,cu,cB⟩
 have gP:=gM _ _ gN
 have lU:=gP.rowC (i:=0) rfl
 replace cu:1≤ae.length∧ae.length≤10:=cu
 replace cB:d.bG ≥ 128∨ae.length=1:=cB
 have gQ:=gP.pk [2,0,1]
 refine WL.do rfl (ze (k:=a.length) (m:=ae.length) (bW) gQ rfl rfl (cz Tryz.underlying31 (gQ.rds (i:=1) rfl) (bK dA ae)) rfl (by omega) (s:=List.length (a++ae)) (by first | omega | (simp only [List.length_append,List.length_cons,List.length_nil] <;> omega)) (List.flatMap_append).symm ?_)
 intro j3 j4 oz j5
 have lV:List.length (a++ae)=a.length+ae.length:=by simp only [List.length_append,List.length_cons,List.length_nil]
 refine An rfl (Wp.exit (yV (y8 (yL (yK (fw (.int .i64 ((b+1:Nat):Int)) (yS (e:=IntKind.i64.wrap (((b:Nat):Int)+1)) yk (by rw [BI _ (by omega)]; omega)) (Mz rfl (WL.nil ?_))))))))
 have j6:=j5.pk [2,0]
 exact yY (j3,j4,(a++ae),b+1) ⟨rfl,rfl,rfl,rfl,rfl,rfl,trivial⟩ (j.2 ⟨j6,by omega,by omega,et (n) (et (congrArg (fun q=>bJ d q a) o) (et (ip z) (aa bZ)))⟩) (by show l.length - (b+1) < l.length - b; omega)
 refine jF (dF z) (sr (Kz (.bool (decide (h=1))) (An rfl ?_)))
 by_cases C:h=1
 refine jT (dT C) (sr (Mz rfl (Kz (.pointer (some ⟨f,0,none⟩)) (Kz (.pointer (some ⟨f,7,none⟩)) (Az rfl (An rfl (rt (bR (tR (y9 (gD rfl rfl rfl) (Mz rfl (Kz (.pointer (some ⟨f,7,none⟩)) (Kz (.bool true) (Az rfl (Ar rfl (Mn rfl (jt (sr (Mz rfl (Mz rfl (Kz (.pointer (some ⟨f,7,none⟩)) (Lz (.int .u64 ((d.aY:Nat):Int)) g 0 Tryz.isAgg22 ?_))))))))))))))))))))))
 obtain⟨ag,cK⟩:∃ q,dP d.aY=q:=⟨_,rfl⟩
 obtain⟨oD,gT,lW,gU,lX⟩:=yP g
 refine cl Tryz.call51 (gm _ _ d.aY ag gT (by omega) cK) ?_
 rintro _ oF ⟨oG,oH,rfl,gV,cZ,df⟩
 have gW:=gU _ _ gV
 have lY:=gW.rowC (i:=0) rfl
 replace cZ:1≤ag.length∧ag.length≤10:=cZ
 replace df:d.aY ≥ 128∨ag.length=1:=df
 have gX:=gW.pk [2,0,1]
 refine WL.do rfl (ze (k:=a.length) (m:=ag.length) (bW) gX rfl rfl (cz Tryz.underlying31 (gX.rds (i:=1) rfl) (bK dA ag)) rfl (by omega) (s:=List.length (a++ag)) (by first | omega | (simp only [List.length_append,List.length_cons,List.length_nil] <;> omega)) (List.flatMap_append).symm ?_)
 intro kg ko oI kr
 have lZ:List.length (a++ag)=a.length+ag.length:=by simp only [List.length_append,List.length_cons,List.length_nil]
 refine An rfl (Wp.exit (yV (y8 (yL (yK (fw (.int .i64 ((b+1:Nat):Int)) (yS (e:=IntKind.i64.wrap (((b:Nat):Int)+1)) yk (by rw [BI _ (by omega)]; omega)) (Mz rfl (WL.nil ?_))))))))
 have ku:=kr.pk [2,0]
 exact yY (kg,ko,(a++ag),b+1) ⟨rfl,rfl,rfl,rfl,rfl,rfl,trivial⟩ (j.2 ⟨ku,by omega,by omega,et (n) (et (congrArg (fun q=>bJ d q a) o) (et (iN z) (et (ip C) (aa cK))))⟩) (by show l.length - (b+1) < l.length - b; omega)
 refine jF (dF C) (sr (Kz (.bool (decide (h=4))) (An rfl ?_)))
 by_cases E:h=4
 refine jT (dT E) (sr (Mz rfl (Kz (.pointer (some ⟨f,0,none⟩)) (Kz (.pointer (some ⟨f,8,none⟩)) (Az rfl (An rfl (rt (bR (tR (y9 (gD rfl rfl rfl) (Mz rfl (Kz (.pointer (some ⟨f,8,none⟩)) (Kz (.bool true) (Az rfl (Ar rfl (Mn rfl (jt (sr (Mz rfl (Mz rfl (Kz (.pointer (some ⟨f,8,none⟩)) (Lz (.int .u64 ((d.bF:Nat):Int)) g 0 Tryz.isAgg22 ?_))))))))))))))))))))))
 obtain⟨ah,dh⟩:∃ q,dP d.bF=q:=⟨_,rfl⟩
 obtain⟨oJ,gY,l5,gZ,l6⟩:=yP g
 refine cl Tryz.call51 (gm _ _ d.bF ah gY (by omega) dh) ?_
 rintro _ oK ⟨l7,l8,rfl,ib,aC,aD⟩
 have ic:=gZ _ _ ib
 have kv:=ic.rowC (i:=0) rfl
 replace aC:1≤ah.length∧ah.length≤10:=aC
 replace aD:d.bF ≥ 128∨ah.length=1:=aD
 have di:=ic.pk [2,0,1]
 refine WL.do rfl (ze (k:=a.length) (m:=ah.length) (bW) di rfl rfl (cz Tryz.underlying31 (di.rds (i:=1) rfl) (bK dA ah)) rfl (by omega) (s:=List.length (a++ah)) (by first | omega | (simp only [List.length_append,List.length_cons,List.length_nil] <;> omega)) (List.flatMap_append).symm ?_)
 intro ig ik l9 il
 have kw:List.length (a++ah)=a.length+ah.length:=by simp only [List.length_append,List.length_cons,List.length_nil]
 refine An rfl (Wp.exit (yV (y8 (yL (yK (fw (.int .i64 ((b+1:Nat):Int)) (yS (e:=IntKind.i64.wrap (((b:Nat):Int)+1)) yk (by rw [BI _ (by omega)]; omega)) (Mz rfl (WL.nil ?_))))))))
 have iq:=il.pk [2,0]
 exact yY (ig,ik,(a++ah),b+1) ⟨rfl,rfl,rfl,rfl,rfl,rfl,trivial⟩ (j.2 ⟨iq,by omega,by omega,et (n) (et (congrArg (fun q=>bJ d q a) o) (et (iN z) (et (iN C) (et (ip E) (aa dh)))))⟩) (by show l.length - (b+1) < l.length - b; omega)
 refine jF (dF E) (sr (Kz (.bool (decide (h=5))) (An rfl ?_)))
 by_cases p:h=5
 refine jT (dT p) (sr (Mz rfl (Kz (.pointer (some ⟨f,0,none⟩)) (Kz (.pointer (some ⟨f,9,none⟩)) (Az rfl (An rfl (rt (bR (tR (y9 (gD rfl rfl rfl) (Mz rfl (Kz (.pointer (some ⟨f,9,none⟩)) (Kz (.bool true) (Az rfl (Ar rfl (Mn rfl (jt (sr (Mz rfl (Mz rfl (Kz (.pointer (some ⟨f,9,none⟩)) (Lz (.int .u64 ((d.bH:Nat):Int)) g 0 Tryz.isAgg22 ?_))))))))))))))))))))))
 obtain⟨G,aF⟩:∃ q,dP d.bH=q:=⟨_,rfl⟩
 obtain⟨ma,eG,kz,eH,kC⟩:=yP g
 refine cl Tryz.call51 (gm _ _ d.bH G eG (by omega) aF) ?_
 rintro _ mf ⟨mg,mh,rfl,eO,aG,aH⟩
 have dm:=eH _ _ eO
 have kD:=dm.rowC (i:=0) rfl
 replace aG:1≤G.length∧G.length≤10:=aG
 replace aH:d.bH ≥ 128∨G.length=1:=aH
 have dn:=dm.pk [2,0,1]
 refine WL.do rfl (ze (k:=a.length) (m:=G.length) (bW) dn rfl rfl (cz Tryz.underlying31 (dn.rds (i:=1) rfl) (bK dA G)) rfl (by omega) (s:=List.length (a++G)) (by first | omega | (simp only [List.length_append,List.length_cons,List.length_nil] <;> omega)) (List.flatMap_append).symm ?_)
 intro iw iy mo iA
 have kE:List.length (a++G)=a.length+G.length:=by simp only [List.length_append,List.length_cons,List.length_nil]
 refine An rfl (Wp.exit (yV (y8 (yL (yK (fw (.int .i64 ((b+1:Nat):Int)) (yS (e:=IntKind.i64.wrap (((b:Nat):Int)+1)) yk (by rw [BI _ (by omega)]; omega)) (Mz rfl (WL.nil ?_))))))))
 have iB:=iA.pk [2,0]
 exact yY (iw,iy,(a++G),b+1) ⟨rfl,rfl,rfl,rfl,rfl,rfl,trivial⟩ (j.2 ⟨iB,by omega,by omega,et (n) (et (congrArg (fun q=>bJ d q a) o) (et (iN z) (et (iN C) (et (iN E) (et (ip p) (aa aF))))))⟩) (by show l.length - (b+1) < l.length - b; omega)
 refine jF (dF p) (sr (Kz (.bool (decide (h=6))) (An rfl ?_)))
 by_cases r:h=6
 refine jT (dT r) (sr (Mz rfl (Kz (.pointer (some ⟨f,0,none⟩)) (Kz (.pointer (some ⟨f,11,none⟩)) (Az rfl (An rfl (rt (bR (tR (y9 (gD rfl rfl rfl) (Mz rfl (Kz (.pointer (some ⟨f,11,none⟩)) (Kz (.bool true) (Az rfl (Ar rfl (Mn rfl (jt (sr (Mz rfl (Mz rfl (Kz (.pointer (some ⟨f,11,none⟩)) (Lz (.int .u64 ((d.aV:Nat):Int)) g 0 Tryz.isAgg22 ?_))))))))))))))))))))))
 obtain⟨I,aI⟩:∃ q,dP d.aV=q:=⟨_,rfl⟩
 obtain⟨mq,eP,kF,eQ,kG⟩:=yP g
 refine cl Tryz.call51 (gm _ _ d.aV I eP (by omega) aI) ?_
 rintro _ mr ⟨mD,mE,rfl,eT,aJ,aK⟩
 have dw:=eQ _ _ eT
 have kI:=dw.rowC (i:=0) rfl
 replace aJ:1≤I.length∧I.length≤10:=aJ
 replace aK:d.aV ≥ 128∨I.length=1:=aK
 have dx:=dw.pk [2,0,1]
 refine WL.do rfl (ze (k:=a.length) (m:=I.length) (bW) dx rfl rfl (cz Tryz.underlying31 (dx.rds (i:=1) rfl) (bK dA I)) rfl (by omega) (s:=List.length (a++I)) (by first | omega | (simp only [List.length_append,List.length_cons,List.length_nil] <;> omega)) (List.flatMap_append).symm ?_)
 intro iC iD mF iE
 have kJ:List.length (a++I)=a.length+I.length:=by simp only [List.length_append,List.length_cons,List.length_nil]
 refine An rfl (Wp.exit (yV (y8 (yL (yK (fw (.int .i64 ((b+1:Nat):Int)) (yS (e:=IntKind.i64.wrap (((b:Nat):Int)+1)) yk (by rw [BI _ (by omega)]; omega)) (Mz rfl (WL.nil ?_))))))))
 have iF:=iE.pk [2,0]
 exact yY (iC,iD,(a++I),b+1) ⟨rfl,rfl,rfl,rfl,rfl,rfl,trivial⟩ (j.2 ⟨iF,by omega,by omega,et (n) (et (congrArg (fun q=>bJ d q a) o) (et (iN z) (et (iN C) (et (iN E) (et (iN p) (et (ip r) (aa aI)))))))⟩) (by show l.length - (b+1) < l.length - b; omega)
 refine jF (dF r) (sr (Kz (.bool (decide (h=9))) (An rfl ?_)))
 by_cases t:h=9
 refine jT (dT t) (sr (Mz rfl (Kz (.pointer (some ⟨f,0,none⟩)) (Kz (.pointer (some ⟨f,10,none⟩)) (Az rfl (An rfl (rt (bR (tR (y9 (gD rfl rfl rfl) (Mz rfl (Kz (.pointer (some ⟨f,10,none⟩)) (Kz (.bool true) (Az rfl (Ar rfl (Mn rfl (jt (sr (Mz rfl (Mz rfl (Kz (.pointer (some ⟨f,10,none⟩)) (Lz (.int .u64 ((d.bL:Nat):Int)) g 0 Tryz.isAgg22 ?_))))))))))))))))))))))
 obtain⟨J,aL⟩:∃ q,dP d.bL=q:=⟨_,rfl⟩
 obtain⟨mH,eU,kK,eX,kL⟩:=yP g
 refine cl Tryz.call51 (gm _ _ d.bL J eU (by omega) aL) ?_
 rintro _ mI ⟨mJ,mK,rfl,eY,aN,aO⟩
 have dz:=eX _ _ eY
 have kM:=dz.rowC (i:=0) rfl
 replace aN:1≤J.length∧J.length≤10:=aN
 replace aO:d.bL ≥ 128∨J.length=1:=aO
 have dB:=dz.pk [2,0,1]
 refine WL.do rfl (ze (k:=a.length) (m:=J.length) (bW) dB rfl rfl (cz Tryz.underlying31 (dB.rds (i:=1) rfl) (bK dA J)) rfl (by omega) (s:=List.length (a++J)) (by first | omega | (simp only [List.length_append,List.length_cons,List.length_nil] <;> omega)) (List.flatMap_append).symm ?_)
 intro iG iH mM iI
 have kP:List.length (a++J)=a.length+J.length:=by simp only [List.length_append,List.length_cons,List.length_nil]
 refine An rfl (Wp.exit (yV (y8 (yL (yK (fw (.int .i64 ((b+1:Nat):Int)) (yS (e:=IntKind.i64.wrap (((b:Nat):Int)+1)) yk (by rw [BI _ (by omega)]; omega)) (Mz rfl (WL.nil ?_))))))))
 have iJ:=iI.pk [2,0]
 exact yY (iG,iH,(a++J),b+1) ⟨rfl,rfl,rfl,rfl,rfl,rfl,trivial⟩ (j.2 ⟨iJ,by omega,by omega,et (n) (et (congrArg (fun q=>bJ d q a) o) (et (iN z) (et (iN C) (et (iN E) (et (iN p) (et (iN r) (et (ip t) (aa aL))))))))⟩) (by show l.length - (b+1) < l.length - b; omega)
 refine jF (dF t) (sr (Kz (.bool (decide (h=10))) (An rfl ?_)))
 by_cases u:h=10
 refine jT (dT u) (sr (Mz rfl (Kz (.pointer (some ⟨f,0,none⟩)) (Kz (.pointer (some ⟨f,12,none⟩)) (Az rfl (An rfl (rt (bR (tR (y9 (gD rfl rfl rfl) (Mz rfl (Kz (.pointer (some ⟨f,12,none⟩)) (Kz (.bool true) (Az rfl (Ar rfl (Mn rfl (jt (sr (Mz rfl (Mz rfl (Kz (.pointer (some ⟨f,12,none⟩)) (Lz (.int .u64 ((d.bB:Nat):Int)) g 0 Tryz.isAgg22 ?_))))))))))))))))))))))
 obtain⟨K,aP⟩:∃ q,dP d.bB=q:=⟨_,rfl⟩
 obtain⟨mO,eZ,kQ,fe,kR⟩:=yP g
 refine cl Tryz.call51 (gm _ _ d.bB K eZ (by omega) aP) ?_
 rintro _ mP ⟨mQ,mR,rfl,fo,aQ,aS⟩
 have dC:=fe _ _ fo
 have kS:=dC.rowC (i:=0) rfl
 replace aQ:1≤K.length∧K.length≤10:=aQ
 replace aS:d.bB ≥ 128∨K.length=1:=aS
 have dD:=dC.pk [2,0,1]
 refine WL.do rfl (ze (k:=a.length) (m:=K.length) (bW) dD rfl rfl (cz Tryz.underlying31 (dD.rds (i:=1) rfl) (bK dA K)) rfl (by omega) (s:=List.length (a++K)) (by first | omega | (simp only [List.length_append,List.length_cons,List.length_nil] <;> omega)) (List.flatMap_append).symm ?_)
 intro iK iL mU iM
 have kT:List.length (a++K)=a.length+K.length:=by simp only [List.length_append,List.length_cons,List.length_nil]
 refine An rfl (Wp.exit (yV (y8 (yL (yK (fw (.int .i64 ((b+1:Nat):Int)) (yS (e:=IntKind.i64.wrap (((b:Nat):Int)+1)) yk (by rw [BI _ (by omega)]; omega)) (Mz rfl (WL.nil ?_))))))))
 have iO:=iM.pk [2,0]
 exact yY (iK,iL,(a++K),b+1) ⟨rfl,rfl,rfl,rfl,rfl,rfl,trivial⟩ (j.2 ⟨iO,by omega,by omega,et (n) (et (congrArg (fun q=>bJ d q a) o) (et (iN z) (et (iN C) (et (iN E) (et (iN p) (et (iN r) (et (iN t) (et (ip u) (aa aP)))))))))⟩) (by show l.length - (b+1) < l.length - b; omega)
 refine jF (dF u) (sr (Kz (.bool (decide (h=14))) (An rfl ?_)))
 by_cases B:h=14
 refine jT (dT B) (sr (Mz rfl (Kz (.pointer (some ⟨f,0,none⟩)) (Kz (.pointer (some ⟨f,13,none⟩)) (Az rfl (An rfl (rt (bR (tR (y9 (gD rfl rfl rfl) (Mz rfl (Kz (.pointer (some ⟨f,13,none⟩)) (Kz (.bool true) (Az rfl (Ar rfl (Mn rfl (jt (sr (Mz rfl (Mz rfl (Kz (.pointer (some ⟨f,13,none⟩)) (Lz (.int .u64 ((d.aK:Nat):Int)) g 0 Tryz.isAgg22 ?_))))))))))))))))))))))
 obtain⟨L,aT⟩:∃ q,dP d.aK=q:=⟨_,rfl⟩
 obtain⟨mV,fq,kV,fu,kW⟩:=yP g
 refine cl Tryz.call51 (gm _ _ d.aK L fq (by omega) aT) ?_
 rintro _ mW ⟨mX,mY,rfl,fA,aV,aW⟩
 have dI:=fu _ _ fA
 have kX:=dI.rowC (i:=0) rfl
 replace aV:1≤L.length∧L.length≤10:=aV
 replace aW:d.aK ≥ 128∨L.length=1:=aW
 have dJ:=dI.pk [2,0,1]
 refine WL.do rfl (ze (k:=a.length) (m:=L.length) (bW) dJ rfl rfl (cz Tryz.underlying31 (dJ.rds (i:=1) rfl) (bK dA L)) rfl (by omega) (s:=List.length (a++L)) (by first | omega | (simp only [List.length_append,List.length_cons,List.length_nil] <;> omega)) (List.flatMap_append).symm ?_)
 intro iP iQ mZ iR
 have kY:List.length (a++L)=a.length+L.length:=by simp only [List.length_append,List.length_cons,List.length_nil]
 refine An rfl (Wp.exit (yV (y8 (yL (yK (fw (.int .i64 ((b+1:Nat):Int)) (yS (e:=IntKind.i64.wrap (((b:Nat):Int)+1)) yk (by rw [BI _ (by omega)]; omega)) (Mz rfl (WL.nil ?_))))))))
 have iT:=iR.pk [2,0]
 exact yY (iP,iQ,(a++L),b+1) ⟨rfl,rfl,rfl,rfl,rfl,rfl,trivial⟩ (j.2 ⟨iT,by omega,by omega,et (n) (et (congrArg (fun q=>bJ d q a) o) (et (iN z) (et (iN C) (et (iN E) (et (iN p) (et (iN r) (et (iN t) (et (iN u) (et (ip B) (aa aT))))))))))⟩) (by show l.length - (b+1) < l.length - b; omega)
 refine jF (dF B) (sr (Kz (.bool (decide (h=15))) (An rfl ?_)))
 by_cases F:h=15
 refine jT (dT F) (sr (Mz rfl (Kz (.pointer (some ⟨f,0,none⟩)) (Kz (.pointer (some ⟨f,14,none⟩)) (Az rfl (An rfl (rt (bR (tR (y9 (gD rfl rfl rfl) (Mz rfl (Kz (.pointer (some ⟨f,14,none⟩)) (Kz (.bool true) (Az rfl (Ar rfl (Mn rfl (jt (sr (Mz rfl (Mz rfl (Kz (.pointer (some ⟨f,14,none⟩)) (Lz (.int .u64 ((d.xN:Nat):Int)) g 0 Tryz.isAgg22 ?_))))))))))))))))))))))
 obtain⟨M,aX⟩:∃ q,dP d.xN=q:=⟨_,rfl⟩
 obtain⟨ng,fB,kZ,fC,lc⟩:=yP g
 refine cl Tryz.call51 (gm _ _ d.xN M fB (by omega) aX) ?_
 rintro _ ni ⟨nk,nu,rfl,fD,aY,aZ⟩
 have dL:=fC _ _ fD
 have lg:=dL.rowC (i:=0) rfl
 replace aY:1≤M.length∧M.length≤10:=aY
 replace aZ:d.xN ≥ 128∨M.length=1:=aZ
 have dM:=dL.pk [2,0,1]
 refine WL.do rfl (ze (k:=a.length) (m:=M.length) (bW) dM rfl rfl (cz Tryz.underlying31 (dM.rds (i:=1) rfl) (bK dA M)) rfl (by omega) (s:=List.length (a++M)) (by first | omega | (simp only [List.length_append,List.length_cons,List.length_nil] <;> omega)) (List.flatMap_append).symm ?_)
 intro iU iV ny iW
 have lh:List.length (a++M)=a.length+M.length:=by simp only [List.length_append,List.length_cons,List.length_nil]
 refine An rfl (Wp.exit (yV (y8 (yL (yK (fw (.int .i64 ((b+1:Nat):Int)) (yS (e:=IntKind.i64.wrap (((b:Nat):Int)+1)) yk (by rw [BI _ (by omega)]; omega)) (Mz rfl (WL.nil ?_))))))))
 have iY:=iW.pk [2,0]
 exact yY (iU,iV,(a++M),b+1) ⟨rfl,rfl,rfl,rfl,rfl,rfl,trivial⟩ (j.2 ⟨iY,by omega,by omega,et (n) (et (congrArg (fun q=>bJ d q a) o) (et (iN z) (et (iN C) (et (iN E) (et (iN p) (et (iN r) (et (iN t) (et (iN u) (et (iN B) (et (ip F) (aa aX)))))))))))⟩) (by show l.length - (b+1) < l.length - b; omega)
 refine jF (dF F) (zm (bN (yL (sr (Az rfl (An rfl (rt (y9 (gD rfl rfl rfl) (Mz rfl (Kz (.pointer none) (Kz (.bool false) (Az rfl (Ar rfl (Mn rfl (jf (sk (sr (Mn rfl (bo (sr (Kz (.bool (decide (h=2))) (An rfl ?_))))))))))))))))))))))
 by_cases N:h=2
 refine jT (dT N) (yK (Mz rfl (Kz (.pointer (some ⟨f,4,none⟩)) (Lz (.int .i64 d.bu) g 0 Tryz.isAgg3 (fw (.int .u8 (((aU d.bu).toNat:Nat):Int)) (yS (e:=IntKind.u8.wrap d.bu) yk (kN _)) ?_)))))
 refine iX [.int .u8 (((aU d.bu).toNat:Nat):Int)] 5 1 1 g ?_
 intro iZ nA bg
 replace bg:=zi (y:=row iZ 1 1 (List.flatMap eB ([(aU d.bu)])) 5 1) rfl bg
 have dN:=bg.pk [2,0,1]
 refine WL.do rfl (ze (k:=a.length) (m:=1) (bW) dN rfl rfl (cz Tryz.underlying31 (dN.rds (i:=1) rfl) (bK dA ([(aU d.bu)]))) rfl (by omega) (s:=List.length (a++ [(aU d.bu)])) (by first | omega | (simp only [List.length_append,List.length_cons,List.length_nil] <;> omega)) (List.flatMap_append).symm ?_)
 intro ja jb nC jc
 have ll:List.length (a++ [(aU d.bu)])=a.length+1:=by simp only [List.length_append,List.length_cons,List.length_nil]
 refine Az rfl (WL.nil (bN (bN (yL (yK (fw (.int .i64 ((b+1:Nat):Int)) (yS (e:=IntKind.i64.wrap (((b:Nat):Int)+1)) yk (by rw [BI _ (by omega)]; omega)) (Mz rfl (WL.nil ?_))))))))
 have jd:=jc.pk [2,0]
 exact yY (ja,jb,(a++ [(aU d.bu)]),b+1) ⟨rfl,rfl,rfl,rfl,rfl,rfl,trivial⟩ (j.2 ⟨jd,by omega,by omega,et (n) (et (congrArg (fun q=>bJ d q a) o) (et (iN z) (et (iN C) (et (iN E) (et (iN p) (et (iN r) (et (iN t) (et (iN u) (et (iN B) (et (iN F) (ip N)))))))))))⟩) (by show l.length - (b+1) < l.length - b; omega)
 refine jF (dF N) (sr (Kz (.bool (decide (h=12))) (An rfl ?_)))
 by_cases U:h=12
 refine jT (dT U) (yK (Mz rfl (Kz (.pointer (some ⟨f,5,none⟩)) (Lz (.int .i64 d.bO) g 0 Tryz.isAgg3 (fw (.int .u8 (((aU d.bO).toNat:Nat):Int)) (yS (e:=IntKind.u8.wrap d.bO) yk (kN _)) ?_)))))
 refine iX [.int .u8 (((aU d.bO).toNat:Nat):Int)] 5 1 1 g ?_
 intro je nD bi
 replace bi:=zi (y:=row je 1 1 (List.flatMap eB ([(aU d.bO)])) 5 1) rfl bi
 have dO:=bi.pk [2,0,1]
 refine WL.do rfl (ze (k:=a.length) (m:=1) (bW) dO rfl rfl (cz Tryz.underlying31 (dO.rds (i:=1) rfl) (bK dA ([(aU d.bO)]))) rfl (by omega) (s:=List.length (a++ [(aU d.bO)])) (by first | omega | (simp only [List.length_append,List.length_cons,List.length_nil] <;> omega)) (List.flatMap_append).symm ?_)
 intro jg jh nE ji
 have lm:List.length (a++ [(aU d.bO)])=a.length+1:=by simp only [List.length_append,List.length_cons,List.length_nil]
 refine Az rfl (WL.nil (bN (bN (yL (yK (fw (.int .i64 ((b+1:Nat):Int)) (yS (e:=IntKind.i64.wrap (((b:Nat):Int)+1)) yk (by rw [BI _ (by omega)]; omega)) (Mz rfl (WL.nil ?_))))))))
 have jk:=ji.pk [2,0]
 exact yY (jg,jh,(a++ [(aU d.bO)]),b+1) ⟨rfl,rfl,rfl,rfl,rfl,rfl,trivial⟩ (j.2 ⟨jk,by omega,by omega,et (n) (et (congrArg (fun q=>bJ d q a) o) (et (iN z) (et (iN C) (et (iN E) (et (iN p) (et (iN r) (et (iN t) (et (iN u) (et (iN B) (et (iN F) (et (iN N) (ip U))))))))))))⟩) (by show l.length - (b+1) < l.length - b; omega)
 refine jF (dF U) (sr (Kz (.bool (decide (h=8))) (An rfl ?_)))
 by_cases V:h=8
 refine jT (dT V) (yK (Mz rfl (Kz (.pointer (some ⟨f,15,none⟩)) (Lz (.bool d.bV) g 0 Tryz.isAgg4 ?_))))
 obtain⟨W,bq⟩:∃ q,kU d.bV=q:=⟨_,rfl⟩
 obtain⟨nG,fE,lq,fF,lu⟩:=yP g
 refine cl Tryz.call55 (mG _ _ d.bV W fE bq) ?_
 rintro _ nH ⟨rfl,fG⟩
 have jl:=fF _ _ fG
 refine iX [.int .u8 ((W.toNat:Nat):Int)] 5 1 1 jl ?_
 intro jm nI bu
 replace bu:=zi (y:=row jm 1 1 (List.flatMap eB ([W])) 5 1) rfl bu
 have dQ:=bu.pk [2,0,1]
 refine WL.do rfl (ze (k:=a.length) (m:=1) (bW) dQ rfl rfl (cz Tryz.underlying31 (dQ.rds (i:=1) rfl) (bK dA ([W]))) rfl (by omega) (s:=List.length (a++ [W])) (by first | omega | (simp only [List.length_append,List.length_cons,List.length_nil] <;> omega)) (List.flatMap_append).symm ?_)
 intro jo jq nJ jr
 have lv:List.length (a++ [W])=a.length+1:=by simp only [List.length_append,List.length_cons,List.length_nil]
 refine Az rfl (WL.nil (bN (bN (yL (yK (fw (.int .i64 ((b+1:Nat):Int)) (yS (e:=IntKind.i64.wrap (((b:Nat):Int)+1)) yk (by rw [BI _ (by omega)]; omega)) (Mz rfl (WL.nil ?_))))))))
 have jv:=jr.pk [2,0]
 exact yY (jo,jq,(a++ [W]),b+1) ⟨rfl,rfl,rfl,rfl,rfl,rfl,trivial⟩ (j.2 ⟨jv,by omega,by omega,et (n) (et (congrArg (fun q=>bJ d q a) o) (et (iN z) (et (iN C) (et (iN E) (et (iN p) (et (iN r) (et (iN t) (et (iN u) (et (iN B) (et (iN F) (et (iN N) (et (iN U) (et (ip V) (aa bq))))))))))))))⟩) (by show l.length - (b+1) < l.length - b; omega)
 refine jF (dF V) (sr (Kz (.bool (decide (h=13))) (An rfl ?_)))
 by_cases X:h=13
 refine jT (dT X) (yK (Mz rfl (Kz (.pointer (some ⟨f,16,none⟩)) (Kz (.pointer (some ⟨f,16,none⟩)) (Lz (.string ⟨List.toArray d.aG.aD⟩) g 0 Tryz.isAgg9 (Kz (.pointer (some ⟨f,16,none⟩)) (Kz (.pointer (some ⟨f,17,none⟩)) (Lz (.string ⟨List.toArray d.aG.aH⟩) g 0 Tryz.isAgg9 ?_))))))))
 refine iX [.string ⟨List.toArray d.aG.aD⟩, .string ⟨List.toArray d.aG.aH⟩] 9 1 2 g ?_
 intro dR nK bv
 replace bv:=zi (y:=row dR 2 2 (List.flatMap eS ([d.aG.aD,d.aG.aH])) 9 1) rfl bv
 have jw:=bv.pk [2,0,1]
 obtain⟨bz,bA⟩:∃ q,dK a ([d.aG.aD,d.aG.aH])=q:=⟨_,rfl⟩
 obtain⟨nL,fH,lw,fI,fJ⟩:=yT jw
 refine WL.do rfl (zf Tryz.call56 rfl (dH _ _ Y a.length Z a dR 2 2 ([d.aG.aD,d.aG.aH]) bz fH rfl (by omega) (fJ _ 0 _ rfl bI) rfl (by simp) (by first | omega | (simp only [List.length_cons,List.length_nil,List.length_append]; omega)) (by refine⟨BH rfl, ?_⟩; simp only [List.mem_cons,List.not_mem_nil,or_false,forall_eq_or_imp,forall_eq]; omega) bA) ?_)
 rintro _ nM ⟨jy,jA,rfl,fK,bB⟩
 have dS:=fI _ _ fK
 have lC:=dS.rowC (i:=0) rfl
 replace bB:bz.length≤a.length+26 *2:=bB
 refine Az rfl (WL.nil (bN (bN (yL (yK (fw (.int .i64 ((b+1:Nat):Int)) (yS (e:=IntKind.i64.wrap (((b:Nat):Int)+1)) yk (by rw [BI _ (by omega)]; omega)) (Mz rfl (WL.nil ?_))))))))
 have jB:=dS.pk [2,0]
 exact yY (jy,jA,bz,b+1) ⟨rfl,rfl,rfl,rfl,rfl,rfl,trivial⟩ (j.2 ⟨jB,by omega,by omega,et (n) (et (congrArg (fun q=>bJ d q a) o) (et (iN z) (et (iN C) (et (iN E) (et (iN p) (et (iN r) (et (iN t) (et (iN u) (et (iN B) (et (iN F) (et (iN N) (et (iN U) (et (iN V) (et (ip X) (aa bA)))))))))))))))⟩) (by show l.length - (b+1) < l.length - b; omega)
 refine jF (dF X) (sr (Kz (.bool (decide (h=7))) (An rfl ?_)))
 by_cases ai:h=7
 refine jT (dT ai) (yK (Mz rfl (Kz (.pointer (some ⟨f,18,none⟩)) (Lz (.slice O d.ax.ls.length P) g 0 Tryz.isAgg25 ?_))))
 have jC:=g.pk [1,0]
 obtain⟨bC,bF⟩:∃ q,lG a d.ax.ls=q:=⟨_,rfl⟩
 obtain⟨nN,fM,fO,fP,lD⟩:=yT jC
 refine cl Tryz.call57 (oN _ _ Y a.length Z a O d.ax.ls.length P d.ax.ls bC fM rfl (by omega) (fO _ d9) rfl (by omega) (by first | omega | (simp only [List.length_cons,List.length_nil,List.length_append]; omega)) (by exact ak.1) bF) ?_
 rintro _ nO ⟨jD,jE,rfl,fQ,bG⟩
 have dU:=fP _ _ fQ
 have lF:=dU.rowC (i:=0) rfl
 replace bG:bC.length≤a.length+10+106 *d.ax.ls.length:=bG
 refine Az rfl (WL.nil (bN (bN (yL (yK (fw (.int .i64 ((b+1:Nat):Int)) (yS (e:=IntKind.i64.wrap (((b:Nat):Int)+1)) yk (by rw [BI _ (by omega)]; omega)) (Mz rfl (WL.nil ?_))))))))
 have jG:=dU.pk [1,0]
 exact yY (jD,jE,bC,b+1) ⟨rfl,rfl,rfl,rfl,rfl,rfl,trivial⟩ (j.2 ⟨jG,by omega,by omega,et (n) (et (congrArg (fun q=>bJ d q a) o) (et (iN z) (et (iN C) (et (iN E) (et (iN p) (et (iN r) (et (iN t) (et (iN u) (et (iN B) (et (iN F) (et (iN N) (et (iN U) (et (iN V) (et (iN X) (et (ip ai) (aa bF))))))))))))))))⟩) (by show l.length - (b+1) < l.length - b; omega)
 refine jF (dF ai) (sr (Kz (.bool (decide (h=3))) (An rfl ?_)))
 by_cases aj:h=3
 refine jT (dT aj) (yK (Mz rfl (Kz (.pointer (some ⟨f,19,none⟩)) (Lz (.slice Q d.ah.ls.length R) g 0 Tryz.isAgg26 ?_))))
 have jH:=g.pk [1,0]
 obtain⟨bH,bL⟩:∃ q,ky a d.ah.ls=q:=⟨_,rfl⟩
 obtain⟨nQ,fT,bM,fU,lH⟩:=yT jH
 refine cl Tryz.call59 (nz _ _ Y a.length Z a Q d.ah.ls.length R au d.ah.ls bH fT rfl (by omega) ay (bM _ ek) (fun x9 h9=>⟨bM _ (az x9 h9).1,(az x9 h9).2⟩) rfl (by omega) (by first | omega | (simp only [List.length_cons,List.length_nil,List.length_append]; omega)) (by exact ak.2.1) bL) ?_
 rintro _ nT ⟨jI,jJ,rfl,fV,bO⟩
 have dW:=fU _ _ fV
 have lI:=dW.rowC (i:=0) rfl
 replace bO:bH.length≤a.length+10+245 *d.ah.ls.length:=bO
 refine Az rfl (WL.nil (bN (bN (yL (yK (fw (.int .i64 ((b+1:Nat):Int)) (yS (e:=IntKind.i64.wrap (((b:Nat):Int)+1)) yk (by rw [BI _ (by omega)]; omega)) (Mz rfl (WL.nil ?_))))))))
 have jK:=dW.pk [1,0]
 exact yY (jI,jJ,bH,b+1) ⟨rfl,rfl,rfl,rfl,rfl,rfl,trivial⟩ (j.2 ⟨jK,by omega,by omega,et (n) (et (congrArg (fun q=>bJ d q a) o) (et (iN z) (et (iN C) (et (iN E) (et (iN p) (et (iN r) (et (iN t) (et (iN u) (et (iN B) (et (iN F) (et (iN N) (et (iN U) (et (iN V) (et (iN X) (et (iN ai) (et (ip aj) (aa bL)))))))))))))))))⟩) (by show l.length - (b+1) < l.length - b; omega)
 refine jF (dF aj) (sr (Kz (.bool (decide (h=11))) (An rfl ?_)))
 by_cases av:h=11
 refine jT (dT av) (yK (Mz rfl (Kz (.pointer (some ⟨f,20,none⟩)) (Lz (.slice S d.ai.ls.length T) g 0 Tryz.isAgg27 ?_))))
 have jL:=g.pk [1,0]
 obtain⟨bP,bQ⟩:∃ q,kH a d.ai.ls=q:=⟨_,rfl⟩
 obtain⟨nU,fZ,gp,gq,lJ⟩:=yT jL
 refine cl Tryz.call61 (nP _ _ Y a.length Z a S d.ai.ls.length T d.ai.ls bP fZ rfl (by omega) (gp _ eD) rfl (by omega) (by first | omega | (simp only [List.length_cons,List.length_nil,List.length_append]; omega)) (by exact ak.2.2.1) bQ) ?_
 rintro _ nV ⟨jM,jN,rfl,gu,bS⟩
 have dX:=gq _ _ gu
 have lK:=dX.rowC (i:=0) rfl
 replace bS:bP.length≤a.length+10+27 *d.ai.ls.length:=bS
 refine Az rfl (WL.nil (bN (bN (yL (yK (fw (.int .i64 ((b+1:Nat):Int)) (yS (e:=IntKind.i64.wrap (((b:Nat):Int)+1)) yk (by rw [BI _ (by omega)]; omega)) (Mz rfl (WL.nil ?_))))))))
 have jO:=dX.pk [1,0]
 exact yY (jM,jN,bP,b+1) ⟨rfl,rfl,rfl,rfl,rfl,rfl,trivial⟩ (j.2 ⟨jO,by omega,by omega,et (n) (et (congrArg (fun q=>bJ d q a) o) (et (iN z) (et (iN C) (et (iN E) (et (iN p) (et (iN r) (et (iN t) (et (iN u) (et (iN B) (et (iN F) (et (iN N) (et (iN U) (et (iN V) (et (iN X) (et (iN ai) (et (iN aj) (et (ip av) (aa bQ))))))))))))))))))⟩) (by show l.length - (b+1) < l.length - b; omega)
 refine jF (dF av) (zm (bN (bN (yL (yK (fw (.int .i64 ((b+1:Nat):Int)) (yS (e:=IntKind.i64.wrap (((b:Nat):Int)+1)) yk (by rw [BI _ (by omega)]; omega)) (Mz rfl (WL.nil ?_))))))))
 have jP:=g.pk [0,1]
 exact yY (Y,Z,a,b+1) ⟨rfl,rfl,rfl,rfl,rfl,rfl,trivial⟩ (j.2 ⟨jP,by omega,by omega,et (n) (et (congrArg (fun q=>bJ d q a) o) (et (iN z) (et (iN C) (et (iN E) (et (iN p) (et (iN r) (et (iN t) (et (iN u) (et (iN B) (et (iN F) (et (iN N) (et (iN U) (et (iN V) (et (iN X) (et (iN ai) (et (iN aj) (iN av)))))))))))))))))⟩) (by show l.length - (b+1) < l.length - b; omega)
 refine jF (dF gK) (Wp.exit (yV ?_))
 have gy:bJ d l l0=a:=et (n) (et (congrArg (fun q=>bJ d q a) (dZ (ls:=l) (i:=b) (by omega))) rfl)
 refine yV (y8 (yL (sr (Mz rfl (An rfl (rt (rs ?_)))))))
 have jQ:=g.pk [1]
 obtain rfl:_=a:=hr.symm.trans (aa gy)
 exact⟨Y,Z,rfl,jQ,(by omega)⟩
def lg (c:bE):(List UInt8) × Int:=
 bnd (dJ c) fun a=>if a=0 then bnd (bY c.ae) fun d=>bnd (oC ([(aU c.ae),(aU c.bq),(aU c.dw)]) c d.1.aJ.ls) fun e=>bnd (kw e) fun b=>(b.1,b.2) else([],a)
theorem qU (w:World) (D:Nat→Prop) (a:bE) (g:Option Addr) (L b:Nat) (h:Option Addr) (M d:Nat) (m:List af) (j:Option Addr) (N f:Nat) (Z:List UInt8) (r1:Int) (H:Own w D w []) (U:L=a.ax.ls.length) (t:Ro w D fun w'=>bD w' 6 g a.ax.ls.length (List.flatMap aB.cells a.ax.ls)) (aS:a.ax.ls.length≤b∧a.ax.ls.length≤9223372036854775807) (n:List.map zh m=a.ah.ls) (V:M=a.ah.ls.length) (u:Ro w D fun w'=>bD w' 3 h a.ah.ls.length (List.flatMap af.cells m)) (aT:a.ah.ls.length≤d∧a.ah.ls.length≤9223372036854775807) (l:∀ x ∈ m,Ro w D (fun w'=>bD w' 2 x.ak.A x.ak.ls.length (List.flatMap aR.cells x.ak.ls))∧(x.ak.ls.length≤x.ak.c∧x.ak.ls.length≤9223372036854775807)) (W:N=a.ai.ls.length) (z:Ro w D fun w'=>bD w' 2 j a.ai.ls.length (List.flatMap aA.cells a.ai.ls)) (aV:a.ai.ls.length≤f∧a.ai.ls.length≤9223372036854775807) (bL:a.ax.ls.length≤140737488355328∧a.ah.ls.length≤140737488355328∧a.ai.ls.length≤140737488355328) (bM:a.bG≤18446744073709551615∧a.aY≤18446744073709551615∧a.bF≤18446744073709551615∧a.bH≤18446744073709551615∧a.bL≤18446744073709551615∧a.aV≤18446744073709551615∧a.bB≤18446744073709551615∧a.aK≤18446744073709551615∧a.xN≤18446744073709551615) (hr:lg a=(Z,r1)):
    Calls Tryz.prog 9 #[.agg (bf a.ae a.bq a.dw a.aQ a.bu a.bO a.bG a.aY a.bF a.bH a.bL a.aV a.bB a.aK a.xN a.bV a.aG.aD a.aG.aH g L b h M d j N f).toArray] w (cO fun v w'=> ∃ (B0:Option Addr) (b0:Nat),v= .tuple #[.slice B0 Z.length b0, .int .i64 r1]∧Own w D w' [row B0 Z.length b0 (List.flatMap eB Z) 5 1]∧(Z.length≤51000)):=by
 subst U V W
 have hdl0x1:=dG n
 refine yR (args:= [.agg (aM a g b h d j f).toArray]) Tryz.func9 rfl rfl rfl ?_
 show Wp _ _ _ [(0, .agg (aM a g b h d j f).toArray)] _ _
 refine sr ?_
 refine dE (aM a g b h d j f) 29 H ?_
 intro B bN ae
 refine Az rfl (An rfl (yJ (sr (La (aM a g b h d j f) ae 0 Tryz.isAgg29 Tryz.sizeOf29 ?_))))
 obtain⟨C,o⟩:∃ q,dJ a=q:=⟨_,rfl⟩
 obtain⟨bO,ag,p,ah,bB⟩:=yP ae
 refine cl Tryz.call11 (mF _ _ a g a.ax.ls.length b h a.ah.ls.length d m j a.ai.ls.length f C ag rfl (p _ t) (show a.ax.ls.length≤b∧a.ax.ls.length≤9223372036854775807 from by omega) n rfl (p _ u) (show a.ah.ls.length≤d∧a.ah.ls.length≤9223372036854775807 from by omega) (fun x9 h9=>⟨p _ (l x9 h9).1,(l x9 h9).2⟩) rfl (p _ z) (show a.ai.ls.length≤f∧a.ai.ls.length≤9223372036854775807 from by omega) (by first | omega | (dsimp only; omega) | (simp only [List.length_nil]; omega)) o) ?_
 rintro _ aW ⟨rfl,ak⟩
 have X:=ah _ _ ak
 refine Ar rfl (Mz rfl (fw (.bool (decide (¬ (C=0)))) (za (e:= !(decide (C=0))) yk decide_not.symm) (nt ?_)))
 by_cases F:C=0
 refine jF (dF (BK F)) (sk (sr (Kz (.pointer (some ⟨B,0,none⟩)) (Lz (.int .i64 a.ae) X 0 Tryz.isAgg3 ?_))))
 obtain⟨⟨k,au⟩,O⟩:∃ q:dM × Bool,bY a.ae=q:=⟨_,rfl⟩
 obtain⟨bQ,av,bC,ax,bF⟩:=yP X
 refine cl Tryz.call19 (lC _ _ a.ae k au av O) ?_
 rintro _ bR ⟨G,I,rfl,ay,P⟩
 have az:=ax _ _ ay
 have bG:=az.rowC (i:=0) rfl
 replace P:k.aJ.ls.length≤5:=P
 refine Mz rfl (Kz (.agg #[.int .i64 k.gN, .int .i64 k.jA, .slice G k.aJ.ls.length I]) (Kz (.bool au) ?_))
 refine dE [.int .i64 0, .int .i64 0, .slice none 0 0] 50 az ?_
 intro aX bS aY
 refine bz [.int .i64 k.gN, .int .i64 k.jA, .slice G k.aJ.ls.length I] 0 aY Tryz.sizeOf50 ?_
 intro bT J
 refine Ar rfl (Kz (.pointer (some ⟨B,0,none⟩)) (Lz (.int .i64 a.ae) J 2 Tryz.isAgg3 (fw (.int .u8 (((aU a.ae).toNat:Nat):Int)) (yS (e:=IntKind.u8.wrap a.ae) yk (kN _)) (Kz (.pointer (some ⟨B,1,none⟩)) (Lz (.int .i64 a.bq) J 2 Tryz.isAgg3 (fw (.int .u8 (((aU a.bq).toNat:Nat):Int)) (yS (e:=IntKind.u8.wrap a.bq) yk (kN _)) (Kz (.pointer (some ⟨B,2,none⟩)) (Lz (.int .i64 a.dw) J 2 Tryz.isAgg3 (fw (.int .u8 (((aU a.dw).toNat:Nat):Int)) (yS (e:=IntKind.u8.wrap a.dw) yk (kN _)) ?_)))))))))
 refine iX [.int .u8 (((aU a.ae).toNat:Nat):Int), .int .u8 (((aU a.bq).toNat:Nat):Int), .int .u8 (((aU a.dw).toNat:Nat):Int)] 5 1 3 J ?_
 intro aC bU E
 replace E:=zi (y:=row aC 3 3 (List.flatMap eB ([(aU a.ae),(aU a.bq),(aU a.dw)])) 5 1) rfl E
 refine Ar rfl (Mz rfl (La (aM a g b h d j f) E 3 Tryz.isAgg29 Tryz.sizeOf29 (Kz (.pointer (some ⟨aX,2,none⟩)) (Lz (.slice G k.aJ.ls.length I) E 1 Tryz.isAgg48 ?_))))
 obtain⟨s,Q⟩:∃ q,oC ([(aU a.ae),(aU a.bq),(aU a.dw)]) a k.aJ.ls=q:=⟨_,rfl⟩
 obtain⟨bV,aD,r,aF,aG⟩:=yT E
 refine cl Tryz.call20 (rE _ _ aC 3 3 ([(aU a.ae),(aU a.bq),(aU a.dw)]) a g a.ax.ls.length b h a.ah.ls.length d m j a.ai.ls.length f G k.aJ.ls.length I k.aJ.ls s aD rfl (by simp) rfl (r _ t) (show a.ax.ls.length≤b∧a.ax.ls.length≤9223372036854775807 from by omega) n rfl (r _ u) (show a.ah.ls.length≤d∧a.ah.ls.length≤9223372036854775807 from by omega) (fun x9 h9=>⟨r _ (l x9 h9).1,(l x9 h9).2⟩) rfl (r _ z) (show a.ai.ls.length≤f∧a.ai.ls.length≤9223372036854775807 from by omega) (aG _ 1 _ rfl bI) rfl (by omega) (by first | omega | exact BH rfl) (by omega) (by exact wM (by rw [o]; omega)) (by first | omega | (dsimp only; omega) | (simp only [List.length_nil]; omega)) Q) ?_
 rintro _ bW ⟨aZ,bg,rfl,aH,R⟩
 have aI:=aF _ _ aH
 have bH:=aI.rowC (i:=0) rfl
 replace R:s.length≤50000:=R
 obtain⟨⟨K,Y⟩,S⟩:∃ q:(List UInt8) × Int,kw s=q:=⟨_,rfl⟩
 obtain⟨bX,aJ,bJ,aK,aL⟩:=yP aI
 refine cl Tryz.call17 (oK _ _ aZ s.length bg s K Y aJ (aL _ 0 _ rfl bI) rfl (by omega) S) ?_
 rintro _ bZ ⟨aN,aO,rfl,aP,T⟩
 have aQ:=aK _ _ aP
 have bK:=aQ.rowC (i:=0) rfl
 replace T:K.length≤s.length+15:=T
 refine Kz (.slice aN K.length aO) (Kz (.int .i64 Y) (Az rfl (An rfl (rt (y9 (gD rfl rfl rfl) ?_)))))
 have bi:=aQ.pk [0]
 have e:lg a=(K,Y):=et (aa o) (et (ip F) (et (aa O) (et (aa Q) (aa S))))
 obtain⟨rfl,rfl⟩:=dN (e.symm.trans hr)
 exact⟨aN,aO,rfl,bi,(by first | omega | exact BJ _)⟩
 refine jT (dT F) (sr (Mz rfl (Az rfl (An rfl (rt (tR (y9 (gD rfl rfl rfl) ?_)))))))
 have bn:Own w D aW [row none 0 0 (List.flatMap eB ([])) 5 1,blk B (aM a g b h d j f) 29]:=X.free (bP 5 1)
 have bq:=bn.pk [0]
 have e:lg a=([],C):=et (aa o) (iN F)
 obtain⟨rfl,rfl⟩:=dN (e.symm.trans hr)
 exact⟨none,0,rfl,bq,(by first | omega | exact BJ _)⟩
end Go.Proofs.YtccjclalngabhaaGreat
