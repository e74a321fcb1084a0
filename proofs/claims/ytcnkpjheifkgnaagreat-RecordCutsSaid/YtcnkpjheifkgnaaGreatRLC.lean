/-
 record: the law RecordCuts
-/
import Derived.Test.YtcnkpjheifkgnaaGreatRl
import Derived.Test.YtcnkpjheifkgnaaGreatWiX
namespace Go.Proofs.YtcnkpjheifkgnaaGreat
set_option maxRecDepth 100000
open Go.RowKit
set_option linter.unusedVariables false
set_option linter.unusedSectionVars false
set_option linter.unusedSimpArgs false
def lq (j:bP) (p1:bL) (h:Int) (i:UInt8):Bool:=
 bnd (lY) fun c=>bnd (fV j) fun a=>bnd (fZ p1) fun b=>lp (if a.2=0 then if((a.1.length:Nat):Int)=0 then Sum.inr (false) else bnd (bQ (List.take (Int.toNat (remI ((remI h a.1.length)+((a.1.length:Nat):Int)) a.1.length)) a.1)) fun g=>bnd (bQ (a.1++ [i])) fun d=>if g.2=10 then if d.2=11 then Sum.inl () else Sum.inr (false) else Sum.inr (false) else Sum.inl ()) fun _=>if b.2=0 then if((b.1.length:Nat):Int)=0 then false else bnd (bW (List.take (Int.toNat (remI ((remI h b.1.length)+((b.1.length:Nat):Int)) b.1.length)) b.1)) fun e=>bnd (bW (b.1++ [i])) fun f=>if e.2=10 then if f.2=11 then c else false else false else c
set_option maxHeartbeats 8000000 in
theorem ou (w:World) (D:Nat→Prop) (f:bP) (I:Option Addr) (bG u:Nat) (J:Option Addr) (bH z:Nat) (ai:List aL) (K:Option Addr) (bI B:Nat) (p1:bL) (L:Option Addr) (bJ C:Nat) (M:Option Addr) (bK E:Nat) (aj:List au) (N:Option Addr) (bM F:Nat) (ak:List aM) (j:Int) (G:UInt8) (r0:Bool) (H:Own w D w []) (dI:bG=f.ag.ls.length) (dJ:Ro w D fun w'=>bu w' 2 I f.ag.ls.length (List.flatMap aC.cells f.ag.ls)) (iD:f.ag.ls.length≤u∧f.ag.ls.length≤9223372036854775807) (aN:List.map yS ai=f.aH.ls) (dK:bH=f.aH.ls.length) (dM:Ro w D fun w'=>bu w' 2 J f.aH.ls.length (List.flatMap aL.cells ai)) (iE:f.aH.ls.length≤z∧f.aH.ls.length≤9223372036854775807) (aO:∀ x ∈ ai,Ro w D (fun w'=>bu w' 6 x.aI.A x.aI.ls.length (List.flatMap aW.cells x.aI.ls))∧(x.aI.ls.length≤x.aI.c∧x.aI.ls.length≤9223372036854775807)) (dN:bI=f.ax.ls.length) (dO:Ro w D fun w'=>bu w' 1 K f.ax.ls.length (List.flatMap (eN .u64) f.ax.ls)) (iF:f.ax.ls.length≤B∧f.ax.ls.length≤9223372036854775807) (dP:bJ=p1.ag.ls.length) (dQ:Ro w D fun w'=>bu w' 2 L p1.ag.ls.length (List.flatMap aC.cells p1.ag.ls)) (iG:p1.ag.ls.length≤C∧p1.ag.ls.length≤9223372036854775807) (aP:List.map yz aj=p1.ak.ls) (dR:bK=p1.ak.ls.length) (dS:Ro w D fun w'=>bu w' 5 M p1.ak.ls.length (List.flatMap au.cells aj)) (iH:p1.ak.ls.length≤E∧p1.ak.ls.length≤9223372036854775807) (aQ:∀ x ∈ aj,Ro w D (fun w'=>bu w' 1 x.af.A x.af.ls.length (List.flatMap (eI .i64) x.af.ls))∧(x.af.ls.length≤x.af.c∧x.af.ls.length≤9223372036854775807)) (aR:List.map yG ak=p1.aP.ls) (dU:bM=p1.aP.ls.length) (dV:Ro w D fun w'=>bu w' 4 N p1.aP.ls.length (List.flatMap aM.cells ak)) (iI:p1.aP.ls.length≤F∧p1.aP.ls.length≤9223372036854775807) (V:∀ x ∈ ak,Ro w D (fun w'=>bu w' 3 x.ah.A x.ah.ls.length (List.flatMap aA.cells x.ah.ls))∧(x.ah.ls.length≤x.ah.c∧x.ah.ls.length≤9223372036854775807)∧(∀ y1 ∈ x.ah.ls,Ro w D (fun w'=>bu w' 2 y1.ay.A y1.ay.ls.length (List.flatMap bB.cells y1.ay.ls))∧(y1.ay.ls.length≤y1.ay.c∧y1.ay.ls.length≤9223372036854775807))) (lI:(-9223372036854775808)≤f.iZ∧f.iZ≤9223372036854775807) (lJ:f.az≤18446744073709551615) (lK:f.bC≤18446744073709551615) (lL:f.aS≤18446744073709551615) (lN:f.bA≤18446744073709551615) (lQ:f.ag.ls.length *24≤140737488351232) (lS:f.aH.ls.length *32≤140737488351232) (lT:f.ax.ls.length *8≤140737488351232) (lU:f.iQ≤18446744073709551615) (lV:f.dM≤18446744073709551615) (jC:f.bz.aJ.length≤140737488351232) (jD:f.bz.aO.length≤140737488351232) (jE:f.bg.bA≤18446744073709551615) (jG:f.bg.bG≤18446744073709551615) (jH:f.bg.dR≤18446744073709551615) (jI:f.bg.aR.aJ.length≤140737488351232) (jJ:f.bg.aR.aO.length≤140737488351232) (jK:(-9223372036854775808)≤p1.af∧p1.af≤9223372036854775807) (jL:p1.az≤18446744073709551615) (jN:p1.bC≤18446744073709551615) (jO:p1.aS≤18446744073709551615) (jP:p1.ag.ls.length *24≤140737488351232) (jS:p1.ak.ls.length *56≤140737488351232) (jU:p1.aP.ls.length *48≤140737488351232) (jV:(-9223372036854775808)≤j∧j≤9223372036854775807) (jW:G≤255) (jX:o8 f) (jY:o9 p1) (hr:lq f p1 j G=r0):
    Calls Tryz.prog 5 #[.agg (bF f.iZ f.az f.bC f.aS f.bA I bG u J bH z K bI B f.iQ f.dM f.bz.aJ f.bz.aO f.bg.bA f.bg.bG f.bg.dR f.bg.aR.aJ f.bg.aR.aO).toArray, .agg #[.int .i64 p1.af, .int .u64 ((p1.az:Nat):Int), .int .u64 ((p1.bC:Nat):Int), .int .u64 ((p1.aS:Nat):Int), .slice L bJ C, .slice M bK E, .slice N bM F], .int .i64 j, .int .u8 ((G.toNat:Nat):Int)] w (dC fun v w'=>v= .bool r0∧Own w D w' []):=by
 subst dI dK dN dP dR dU
 have hdl0x1:=bV aN
 have hdl1x1:=bV aP
 have hdl1x2:=bV aR
 refine xU (args:= [.agg (dL f I u J z K B).toArray, .agg #[.int .i64 p1.af, .int .u64 ((p1.az:Nat):Int), .int .u64 ((p1.bC:Nat):Int), .int .u64 ((p1.aS:Nat):Int), .slice L p1.ag.ls.length C, .slice M p1.ak.ls.length E, .slice N p1.aP.ls.length F], .int .i64 j, .int .u8 ((G.toNat:Nat):Int)]) Tryz.func5 rfl rfl rfl ?_
 show Wp _ _ _ [(0, .agg (dL f I u J z K B).toArray),(1, .agg #[.int .i64 p1.af, .int .u64 ((p1.az:Nat):Int), .int .u64 ((p1.bC:Nat):Int), .int .u64 ((p1.aS:Nat):Int), .slice L p1.ag.ls.length C, .slice M p1.ak.ls.length E, .slice N p1.aP.ls.length F]),(2, .int .i64 j),(3, .int .u8 ((G.toNat:Nat):Int))] _ _
 refine sr ?_
 refine dG (dL f I u J z K B) 31 H ?_
 intro lW lX iJ
 refine dG [.int .i64 p1.af, .int .u64 ((p1.az:Nat):Int), .int .u64 ((p1.bC:Nat):Int), .int .u64 ((p1.aS:Nat):Int), .slice L p1.ag.ls.length C, .slice M p1.ak.ls.length E, .slice N p1.aP.ls.length F] 35 iJ ?_
 intro lZ l5 iK
 refine Ar rfl ?_
 obtain⟨aS,l⟩:∃ q,lY=q:=⟨_,rfl⟩
 obtain⟨l6,eZ,jZ,fe,j4⟩:=yc iK
 refine cl Tryz.call6 (qX _ _ aS eZ l) ?_
 rintro _ l7 ⟨rfl,fo⟩
 have fq:=fe _ _ fo
 refine Ar rfl (La (dL f I u J z K B) fq 1 Tryz.isAgg31 Tryz.sizeOf31 ?_)
 obtain⟨⟨b,aH⟩,o⟩:∃ q:(List UInt8) × Int,fV f=q:=⟨_,rfl⟩
 obtain⟨l8,fu,av,fA,j5⟩:=yc fq
 refine cl Tryz.call7 (kJ _ _ f I f.ag.ls.length u J f.aH.ls.length z ai K f.ax.ls.length B b aH fu rfl (av _ dJ) (show f.ag.ls.length≤u∧f.ag.ls.length≤9223372036854775807 from by omega) aN rfl (av _ dM) (show f.aH.ls.length≤z∧f.aH.ls.length≤9223372036854775807 from by omega) (fun x9 h9=>⟨av _ (aO x9 h9).1,(aO x9 h9).2⟩) rfl (av _ dO) (show f.ax.ls.length≤B∧f.ax.ls.length≤9223372036854775807 from by omega) (by first | omega | (dsimp only; omega) | (simp only [List.length_nil]; omega) | decide) (by first | assumption) o) ?_
 rintro _ l9 ⟨bC,bD,rfl,fB,bN⟩
 have fC:=fA _ _ fB
 have j6:=fC.rowC (i:=0) rfl
 replace bN:b.length≤100000:=bN
 refine Mz rfl (Kz (.slice bC b.length bD) (Kz (.int .i64 aH) (Az rfl (An rfl (xV ?_)))))
 have fD:=fC.pk [0,1]
 refine xS (La ([.int .i64 p1.af, .int .u64 ((p1.az:Nat):Int), .int .u64 ((p1.bC:Nat):Int), .int .u64 ((p1.aS:Nat):Int), .slice L p1.ag.ls.length C, .slice M p1.ak.ls.length E, .slice N p1.aP.ls.length F]) fD 1 Tryz.isAgg35 Tryz.sizeOf35 ?_)
 obtain⟨⟨d,aI⟩,p⟩:∃ q:(List UInt8) × Int,fZ p1=q:=⟨_,rfl⟩
 obtain⟨ma,fE,S,fF,kg⟩:=yc fD
 refine cl Tryz.call9 (kK _ _ p1 L p1.ag.ls.length C M p1.ak.ls.length E aj N p1.aP.ls.length F ak d aI fE rfl (S _ dQ) (show p1.ag.ls.length≤C∧p1.ag.ls.length≤9223372036854775807 from by omega) aP rfl (S _ dS) (show p1.ak.ls.length≤E∧p1.ak.ls.length≤9223372036854775807 from by omega) (fun x9 h9=>⟨S _ (aQ x9 h9).1,(aQ x9 h9).2⟩) aR rfl (S _ dV) (show p1.aP.ls.length≤F∧p1.aP.ls.length≤9223372036854775807 from by omega) (fun x9 h9=>⟨S _ (V x9 h9).1,(V x9 h9).2.1,(fun y1 k1=>⟨S _ ((V x9 h9).2.2 y1 k1).1,((V x9 h9).2.2 y1 k1).2⟩)⟩) (by first | omega | (dsimp only; omega) | (simp only [List.length_nil]; omega) | decide) (by first | assumption) p) ?_
 rintro _ mf ⟨W,X,rfl,fG,bO⟩
 have fH:=fF _ _ fG
 have kr:=fH.rowC (i:=0) rfl
 replace bO:d.length≤100000:=bO
 refine Mz rfl (Kz (.slice W d.length X) (Kz (.int .i64 aI) (Az rfl (An rfl (xV (xV ?_))))))
 have dW:=fH.pk [0,1]
 refine xS (Mz rfl (Kz (.bool (decide (aH=0))) (nt ?_)))
 obtain⟨fI,fJ⟩:∃ q:Unit→World→Prop,q=fun(_:Unit) w'=>Own w D w' [row W d.length X (List.flatMap eB d) 5 1]∧((if aH=0 then if((b.length:Nat):Int)=0 then Sum.inr (false) else bnd (bQ (List.take (Int.toNat (remI ((remI j b.length)+((b.length:Nat):Int)) b.length)) b)) fun aT=>bnd (bQ (b++ [G])) fun ag=>if aT.2=10 then if ag.2=11 then Sum.inl () else Sum.inr (false) else Sum.inr (false) else Sum.inl ())=Sum.inl ()):=⟨_,rfl⟩
 have aV:∀ {w':World},fI () w'↔Own w D w' [row W d.length X (List.flatMap eB d) 5 1]∧(if aH=0 then if((b.length:Nat):Int)=0 then Sum.inr (false) else bnd (bQ (List.take (Int.toNat (remI ((remI j b.length)+((b.length:Nat):Int)) b.length)) b)) fun aT=>bnd (bQ (b++ [G])) fun ag=>if aT.2=10 then if ag.2=11 then Sum.inl () else Sum.inr (false) else Sum.inr (false) else Sum.inl ())=Sum.inl ():=by intros; subst fJ; exact Iff.rfl
 refine ze (fun _:Unit=> [(8, .bool false),(13, .int .i64 aI),(12, .slice W d.length X),(9, .bool aS),(2, .int .i64 j),(3, .int .u8 ((G.toNat:Nat):Int))]) fI ?_ ?_
 by_cases ah:aH=0
 refine jT (dT ah) (xV (sr (Mz rfl (Kz (.int .i64 ((b.length:Nat):Int)) (Kz (.bool (decide (((b.length:Nat):Int)=0))) (nt ?_))))))
 by_cases aJ:((b.length:Nat):Int)=0
 refine jT (dT aJ) (sr (An rfl (rt (tR (tR (rs ?_))))))
 have iL:=dW.pk []
 obtain rfl:_=false:=hr.symm.trans (et (ae l) (et (ae o) (et (ae p) (gI (et (ip ah) (ip aJ))))))
 exact⟨rfl,iL⟩
 refine jF (dF aJ) (sk (sr (Mz rfl (Mz rfl (Kz (.int .i64 ((b.length:Nat):Int)) ?_)))))
 have ku:=lM j (n:=b.length) (by omega)
 refine fw (.int .i64 (remI j b.length)) (Yl.remI rfl rfl (by omega)) (Mz rfl (Kz (.int .i64 ((b.length:Nat):Int)) (fw (.int .i64 ((remI j b.length)+((b.length:Nat):Int))) (ym (e:=IntKind.i64.wrap ((remI j b.length)+((b.length:Nat):Int))) yk (by rw [A8 _ (by omega)])) (Mz rfl (Kz (.int .i64 ((b.length:Nat):Int)) ?_)))))
 have kv:=lM ((remI j b.length)+((b.length:Nat):Int)) (n:=b.length) (by omega)
 have kw:=pR (a:=(remI j b.length)+((b.length:Nat):Int)) (n:=b.length) (by omega)
 refine fw (.int .i64 (remI ((remI j b.length)+((b.length:Nat):Int)) b.length)) (Yl.remI rfl rfl (by omega)) (Ar rfl (Mz rfl (fw (.int .i64 ((Int.toNat (remI ((remI j b.length)+((b.length:Nat):Int)) b.length):Nat):Int)) (ym (e:=remI ((remI j b.length)+((b.length:Nat):Int)) b.length) (yj rfl) (by omega)) (fw (.slice bC (Int.toNat (remI ((remI j b.length)+((b.length:Nat):Int)) b.length)) bD) (zC (jM) rfl rfl (by omega)) ?_))))
 have ky:Int.toNat (remI ((remI j b.length)+((b.length:Nat):Int)) b.length)=List.length (List.take (Int.toNat (remI ((remI j b.length)+((b.length:Nat):Int)) b.length)) b):=(by first | rfl | omega | (simp only [List.length_append,List.length_cons,List.length_nil,List.length_take,List.length_drop,List.length_set,List.length_replicate,List.length_map] <;> omega))
 obtain⟨⟨aK,aX⟩,ay⟩:∃ q:bP × Int,bQ (List.take (Int.toNat (remI ((remI j b.length)+((b.length:Nat):Int)) b.length)) b)=q:=⟨_,rfl⟩
 obtain⟨mg,fK,kz,fM,fO⟩:=yc dW
 refine cl Tryz.call15 (jQ _ _ bC (Int.toNat (remI ((remI j b.length)+((b.length:Nat):Int)) b.length)) bD (List.take (Int.toNat (remI ((remI j b.length)+((b.length:Nat):Int)) b.length)) b) aK aX fK (fun w9 h9=>zn (hi:=Int.toNat (remI ((remI j b.length)+((b.length:Nat):Int)) b.length)) aU ((fO _ 1 _ rfl ig) w9 h9) (by omega)) (by first | rfl | omega | (simp only [List.length_append,List.length_cons,List.length_nil,List.length_take,List.length_drop,List.length_set,List.length_replicate,List.length_map] <;> omega)) (by first | omega | (simp only [List.length_append,List.length_cons,List.length_nil,List.length_take,List.length_drop,List.length_set]; omega)) (by first | omega | (simp only [List.length_take,List.length_drop]; omega) | exact Nat.le_refl _) ay) ?_
 rintro _ mh ⟨fP,fQ,fT,gm,gp,gq,mi,rfl,gu,gy,bR⟩
 have bE:=fM _ _ gu
 have kC:=bV gy
 have iO:=bE.rowC (i:=0) rfl
 have iP:=bE.rowC (i:=1) rfl
 have iQ:=bE.rowC (i:=3) rfl
 replace bR:aK.ag.ls.length≤1000∧aK.aH.ls.length≤1000∧aK.ax.ls.length≤1000:=bR
 refine Mz rfl (Kz (.agg (dL aK fP fQ fT gm gp gq).toArray) (Kz (.int .i64 aX) ?_))
 refine dG (bF 0 0 0 0 0 none 0 0 none 0 0 none 0 0 0 0 ([]) ([]) 0 0 0 ([]) ([])) 31 bE ?_
 intro kD kE gz
 refine cZ (dL aK fP fQ fT gm gp gq) 0 gz Tryz.sizeOf31 ?_
 intro gB gD
 refine An rfl (xV ?_)
 have gF:=gD.pk [5,6]
 refine xS (Mz rfl ?_)
 have bS:Own w D gB [row none 0 0 (List.flatMap eB ([])) 5 1,row W d.length X (List.flatMap eB d) 5 1,row bC b.length bD (List.flatMap eB b) 5 1]:=gF.free (fU 5 1)
 refine WL.do rfl (yQ (k:=0) (m:=b.length) (jM) bS rfl rfl (jg Tryz.underlying37 (bS.rds (i:=2) rfl) (gV lD b)) rfl (by omega) (s:=b.length) (by omega) rfl ?_)
 intro kF kG kH gG
 refine Mz rfl ?_
 refine jR [.int .u8 ((G.toNat:Nat):Int)] 5 1 1 gG ?_
 intro gH kI aY
 replace aY:=yR (y:=row gH 1 1 (List.flatMap eB ([G])) 5 1) rfl aY
 have bT:=aY.pk [1,0,2,3]
 refine WL.do rfl (yQ (k:=b.length) (m:=1) (jM) bT rfl rfl (jg Tryz.underlying37 (bT.rds (i:=1) rfl) (gV lD ([G]))) rfl (by omega) (s:=List.length (b++ [G])) (by first | omega | (simp only [List.length_append,List.length_cons,List.length_nil] <;> omega)) (List.flatMap_append).symm ?_)
 intro gJ gK kL bU
 have iR:List.length (b++ [G])=b.length+1:=by simp only [List.length_append,List.length_cons,List.length_nil]
 have iT:=bU.rowC (i:=0) rfl
 obtain⟨⟨T,O⟩,Y⟩:∃ q:bP × Int,bQ (b++ [G])=q:=⟨_,rfl⟩
 obtain⟨kM,dX,iU,dY,dZ⟩:=yc bU
 refine cl Tryz.call15 (jQ _ _ gJ (List.length (b++ [G])) gK (b++ [G]) T O dX (dZ _ 0 _ rfl ig) rfl (by first | omega | (simp only [List.length_append,List.length_cons,List.length_nil,List.length_take,List.length_drop,List.length_set]; omega)) (by first | omega | (simp only [List.length_take,List.length_drop]; omega) | exact Nat.le_refl _) Y) ?_
 rintro _ kN ⟨bX,bY,bZ,cu,cz,cB,kP,rfl,d9,ed,aZ⟩
 have az:=dY _ _ d9
 have iV:=bV ed
 have iW:=az.rowC (i:=0) rfl
 have iX:=az.rowC (i:=1) rfl
 have iY:=az.rowC (i:=3) rfl
 replace aZ:T.ag.ls.length≤1000∧T.aH.ls.length≤1000∧T.ax.ls.length≤1000:=aZ
 refine Mz rfl (Kz (.agg (dL T bX bY bZ cu cz cB).toArray) (Kz (.int .i64 O) ?_))
 refine dG (bF 0 0 0 0 0 none 0 0 none 0 0 none 0 0 0 0 ([]) ([]) 0 0 0 ([]) ([])) 31 az ?_
 intro kQ kR gL
 refine cZ (dL T bX bY bZ cu cz cB) 0 gL Tryz.sizeOf31 ?_
 intro kS gM
 refine An rfl (xV ?_)
 have bf:=gM.pk [7]
 refine xS (Mz rfl (fw (.bool (decide (¬ (aX=10)))) (yJ (e:= !(decide (aX=10))) yk decide_not.symm) (Mz rfl ?_)))
 by_cases r:aX=10
 refine gw (.int .i64 O) (dF (Ba r)) (yj rfl) (gw (.bool (decide (¬ (O=11)))) (dF (Ba r)) (yJ (e:= !(decide (O=11))) yk decide_not.symm) (fw (.bool (decide (¬ (O=11)))) (xW rfl (dF (Ba r)) rfl) (nt ?_)))
 by_cases aB:O=11
 refine jF (dF (Ba aB)) (yV ?_)
 have gN:=bf.pk [0]
 exact yO () ⟨rfl,rfl,rfl,rfl,rfl,rfl,trivial⟩ (aV.2 ⟨gN,et (ip ah) (et (iN aJ) (et (ae ay) (et (ae Y) (et (ip r) (ip aB)))))⟩)
 refine jT (dT aB) (sr (An rfl (rt (tR (rs ?_)))))
 have gP:=bf.pk []
 obtain rfl:_=false:=hr.symm.trans (et (ae l) (et (ae o) (et (ae p) (gI (et (ip ah) (et (iN aJ) (et (ae ay) (et (ae Y) (et (ip r) (iN aB))))))))))
 exact⟨rfl,gP⟩
 refine Sz (dT r) (Sz (dT r) (fw (.bool true) (yw rfl (dT r) rfl) (nt (jt (sr (An rfl (rt (tR (rs ?_)))))))))
 have gQ:=bf.pk []
 obtain rfl:_=false:=hr.symm.trans (et (ae l) (et (ae o) (et (ae p) (gI (et (ip ah) (et (iN aJ) (et (ae ay) (et (ae Y) (iN r)))))))))
 exact⟨rfl,gQ⟩
 refine jF (dF ah) (yV ?_)
 have gT:=dW.pk [0]
 exact yO () ⟨rfl,rfl,rfl,rfl,rfl,rfl,trivial⟩ (aV.2 ⟨gT,iN ah⟩)
 rintro ⟨⟩ kT ek
 show Wp _ _ _ [(8, .bool false),(13, .int .i64 aI),(12, .slice W d.length X),(9, .bool aS),(2, .int .i64 j),(3, .int .u8 ((G.toNat:Nat):Int))] _ _
 obtain⟨bg,P⟩:=aV.1 ek
 refine xV (sr (Mz rfl (Kz (.bool (decide (aI=0))) (nt ?_))))
 by_cases Q:aI=0
 refine jT (dT Q) (xV (sr (Mz rfl (Kz (.int .i64 ((d.length:Nat):Int)) (Kz (.bool (decide (((d.length:Nat):Int)=0))) (nt ?_))))))
 by_cases U:((d.length:Nat):Int)=0
 refine jT (dT U) (sr (An rfl (rt (tR (tR (rs ?_))))))
 have gU:=bg.pk []
 obtain rfl:_=false:=hr.symm.trans (et (ae l) (et (ae o) (et (ae p) (et (j3 P) (et (ip Q) (ip U))))))
 exact⟨rfl,gU⟩
 refine jF (dF U) (sk (sr (Mz rfl (Mz rfl (Kz (.int .i64 ((d.length:Nat):Int)) ?_)))))
 have iZ:=lM j (n:=d.length) (by omega)
 refine fw (.int .i64 (remI j d.length)) (Yl.remI rfl rfl (by omega)) (Mz rfl (Kz (.int .i64 ((d.length:Nat):Int)) (fw (.int .i64 ((remI j d.length)+((d.length:Nat):Int))) (ym (e:=IntKind.i64.wrap ((remI j d.length)+((d.length:Nat):Int))) yk (by rw [A8 _ (by omega)])) (Mz rfl (Kz (.int .i64 ((d.length:Nat):Int)) ?_)))))
 have ja:=lM ((remI j d.length)+((d.length:Nat):Int)) (n:=d.length) (by omega)
 have jb:=pR (a:=(remI j d.length)+((d.length:Nat):Int)) (n:=d.length) (by omega)
 refine fw (.int .i64 (remI ((remI j d.length)+((d.length:Nat):Int)) d.length)) (Yl.remI rfl rfl (by omega)) (Ar rfl (Mz rfl (fw (.int .i64 ((Int.toNat (remI ((remI j d.length)+((d.length:Nat):Int)) d.length):Nat):Int)) (ym (e:=remI ((remI j d.length)+((d.length:Nat):Int)) d.length) (yj rfl) (by omega)) (fw (.slice W (Int.toNat (remI ((remI j d.length)+((d.length:Nat):Int)) d.length)) X) (zC (jM) rfl rfl (by omega)) ?_))))
 have jc:Int.toNat (remI ((remI j d.length)+((d.length:Nat):Int)) d.length)=List.length (List.take (Int.toNat (remI ((remI j d.length)+((d.length:Nat):Int)) d.length)) d):=(by first | rfl | omega | (simp only [List.length_append,List.length_cons,List.length_nil,List.length_take,List.length_drop,List.length_set,List.length_replicate,List.length_map] <;> omega))
 obtain⟨⟨g,af⟩,Z⟩:∃ q:bL × Int,bW (List.take (Int.toNat (remI ((remI j d.length)+((d.length:Nat):Int)) d.length)) d)=q:=⟨_,rfl⟩
 obtain⟨kU,eu,jd,eD,eF⟩:=yc bg
 refine cl Tryz.call17 (jm _ _ W (Int.toNat (remI ((remI j d.length)+((d.length:Nat):Int)) d.length)) X (List.take (Int.toNat (remI ((remI j d.length)+((d.length:Nat):Int)) d.length)) d) g af eu (fun w9 h9=>zn (hi:=Int.toNat (remI ((remI j d.length)+((d.length:Nat):Int)) d.length)) aU ((eF _ 0 _ rfl ig) w9 h9) (by omega)) (by first | rfl | omega | (simp only [List.length_append,List.length_cons,List.length_nil,List.length_take,List.length_drop,List.length_set,List.length_replicate,List.length_map] <;> omega)) (by first | omega | (simp only [List.length_append,List.length_cons,List.length_nil,List.length_take,List.length_drop,List.length_set]; omega)) (by first | omega | (simp only [List.length_take,List.length_drop]; omega) | exact Nat.le_refl _) Z) ?_
 rintro _ kV ⟨cK,cO,df,dh,di,dm,kW,kX,rfl,eG,eH,eO,bi⟩
 have aD:=eD _ _ eG
 have je:=bV eH
 have jf:=bV eO
 have jh:=aD.rowC (i:=0) rfl
 have ji:=aD.rowC (i:=1) rfl
 have jk:=aD.rowC (i:=3) rfl
 replace bi:g.ag.ls.length≤1000∧g.ak.ls.length≤1000∧g.aP.ls.length≤1000:=bi
 refine Mz rfl (Kz (.agg #[.int .i64 g.af, .int .u64 ((g.az:Nat):Int), .int .u64 ((g.bC:Nat):Int), .int .u64 ((g.aS:Nat):Int), .slice cK g.ag.ls.length cO, .slice df g.ak.ls.length dh, .slice di g.aP.ls.length dm]) (Kz (.int .i64 af) ?_))
 refine dG [.int .i64 0, .int .u64 0, .int .u64 0, .int .u64 0, .slice none 0 0, .slice none 0 0, .slice none 0 0] 35 aD ?_
 intro kY kZ gW
 refine cZ [.int .i64 g.af, .int .u64 ((g.az:Nat):Int), .int .u64 ((g.bC:Nat):Int), .int .u64 ((g.aS:Nat):Int), .slice cK g.ag.ls.length cO, .slice df g.ak.ls.length dh, .slice di g.aP.ls.length dm] 0 gW Tryz.sizeOf35 ?_
 intro gX gY
 refine An rfl (xV ?_)
 have gZ:=gY.pk [6]
 refine xS (Mz rfl ?_)
 have dn:Own w D gX [row none 0 0 (List.flatMap eB ([])) 5 1,row W d.length X (List.flatMap eB d) 5 1]:=gZ.free (fU 5 1)
 refine WL.do rfl (yQ (k:=0) (m:=d.length) (jM) dn rfl rfl (jg Tryz.underlying37 (dn.rds (i:=1) rfl) (gV lD d)) rfl (by omega) (s:=d.length) (by omega) rfl ?_)
 intro lc lg lh ib
 refine Mz rfl ?_
 refine jR [.int .u8 ((G.toNat:Nat):Int)] 5 1 1 ib ?_
 intro ic ll bn
 replace bn:=yR (y:=row ic 1 1 (List.flatMap eB ([G])) 5 1) rfl bn
 have dw:=bn.pk [1,0,2]
 refine WL.do rfl (yQ (k:=d.length) (m:=1) (jM) dw rfl rfl (jg Tryz.underlying37 (dw.rds (i:=1) rfl) (gV lD ([G]))) rfl (by omega) (s:=List.length (d++ [G])) (by first | omega | (simp only [List.length_append,List.length_cons,List.length_nil] <;> omega)) (List.flatMap_append).symm ?_)
 intro ik il lm dx
 have jl:List.length (d++ [G])=d.length+1:=by simp only [List.length_append,List.length_cons,List.length_nil]
 have jo:=dx.rowC (i:=0) rfl
 obtain⟨⟨h,R⟩,aa⟩:∃ q:bL × Int,bW (d++ [G])=q:=⟨_,rfl⟩
 obtain⟨lu,eP,jq,eQ,eT⟩:=yc dx
 refine cl Tryz.call17 (jm _ _ ik (List.length (d++ [G])) il (d++ [G]) h R eP (eT _ 0 _ rfl ig) rfl (by first | omega | (simp only [List.length_append,List.length_cons,List.length_nil,List.length_take,List.length_drop,List.length_set]; omega)) (by first | omega | (simp only [List.length_take,List.length_drop]; omega) | exact Nat.le_refl _) aa) ?_
 rintro _ lv ⟨dz,dA,dB,dD,dE,dH,lw,lC,rfl,eU,eX,eY,bq⟩
 have aF:=eQ _ _ eU
 have jr:=bV eX
 have jv:=bV eY
 have jw:=aF.rowC (i:=0) rfl
 have jy:=aF.rowC (i:=1) rfl
 have jA:=aF.rowC (i:=3) rfl
 replace bq:h.ag.ls.length≤1000∧h.ak.ls.length≤1000∧h.aP.ls.length≤1000:=bq
 refine Mz rfl (Kz (.agg #[.int .i64 h.af, .int .u64 ((h.az:Nat):Int), .int .u64 ((h.bC:Nat):Int), .int .u64 ((h.aS:Nat):Int), .slice dz h.ag.ls.length dA, .slice dB h.ak.ls.length dD, .slice dE h.aP.ls.length dH]) (Kz (.int .i64 R) ?_))
 refine dG [.int .i64 0, .int .u64 0, .int .u64 0, .int .u64 0, .slice none 0 0, .slice none 0 0, .slice none 0 0] 35 aF ?_
 intro lF lG iq
 refine cZ [.int .i64 h.af, .int .u64 ((h.az:Nat):Int), .int .u64 ((h.bC:Nat):Int), .int .u64 ((h.aS:Nat):Int), .slice dz h.ag.ls.length dA, .slice dB h.ak.ls.length dD, .slice dE h.aP.ls.length dH] 0 iq Tryz.sizeOf35 ?_
 intro lH iw
 refine An rfl (xV ?_)
 have bv:=iw.pk []
 refine xS (Mz rfl (fw (.bool (decide (¬ (af=10)))) (yJ (e:= !(decide (af=10))) yk decide_not.symm) (Mz rfl ?_)))
 by_cases t:af=10
 refine gw (.int .i64 R) (dF (Ba t)) (yj rfl) (gw (.bool (decide (¬ (R=11)))) (dF (Ba t)) (yJ (e:= !(decide (R=11))) yk decide_not.symm) (fw (.bool (decide (¬ (R=11)))) (xW rfl (dF (Ba t)) rfl) (nt ?_)))
 by_cases aG:R=11
 refine jF (dF (Ba aG)) (sk (sr (Mz rfl (An rfl (rt (rs ?_))))))
 have iy:=bv.pk []
 obtain rfl:_=aS:=hr.symm.trans (et (ae l) (et (ae o) (et (ae p) (et (j3 P) (et (ip Q) (et (iN U) (et (ae Z) (et (ae aa) (et (ip t) (ip aG))))))))))
 exact⟨rfl,iy⟩
 refine jT (dT aG) (sr (An rfl (rt (tR (rs ?_)))))
 have iA:=bv.pk []
 obtain rfl:_=false:=hr.symm.trans (et (ae l) (et (ae o) (et (ae p) (et (j3 P) (et (ip Q) (et (iN U) (et (ae Z) (et (ae aa) (et (ip t) (iN aG))))))))))
 exact⟨rfl,iA⟩
 refine Sz (dT t) (Sz (dT t) (fw (.bool true) (yw rfl (dT t) rfl) (nt (jt (sr (An rfl (rt (tR (rs ?_)))))))))
 have iB:=bv.pk []
 obtain rfl:_=false:=hr.symm.trans (et (ae l) (et (ae o) (et (ae p) (et (j3 P) (et (ip Q) (et (iN U) (et (ae Z) (et (ae aa) (iN t)))))))))
 exact⟨rfl,iB⟩
 refine jF (dF Q) (sk (sr (Mz rfl (An rfl (rt (rs ?_))))))
 have iC:=bg.pk []
 obtain rfl:_=aS:=hr.symm.trans (et (ae l) (et (ae o) (et (ae p) (et (j3 P) (iN Q)))))
 exact⟨rfl,iC⟩
end Go.Proofs.YtcnkpjheifkgnaaGreat
