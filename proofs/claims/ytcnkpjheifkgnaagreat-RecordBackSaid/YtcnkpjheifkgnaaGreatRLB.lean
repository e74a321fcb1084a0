/-
 record: the law RecordBack
-/
import Derived.Test.YtcnkpjheifkgnaaGreatRl
namespace Go.Proofs.YtcnkpjheifkgnaaGreat
set_option maxRecDepth 100000
open Go.RowKit
set_option linter.unusedVariables false
set_option linter.unusedSectionVars false
set_option linter.unusedSimpArgs false
def lU (o:bP) (p1:bK) (m:List UInt8):Bool:=
 bnd (mQ) fun c=>if((m.length:Nat):Int) > 100000 then c else bnd (gm o) fun d=>bnd (bG o) fun n=>lp (if n=0 then bnd (bL d.1) fun i=>if d.2=0 then if i.2=0 then bnd (jd o i.1) fun j=>if j=true then if((d.1.length:Nat):Int) > 8192 then Sum.inr (false) else Sum.inl () else Sum.inr (false) else Sum.inr (false) else Sum.inr (false) else Sum.inl ()) fun _=>bnd (gp p1) fun a=>bnd (bH p1) fun k=>lp (if k=0 then bnd (bE a.1) fun e=>if a.2=0 then if e.2=0 then bnd (je p1 e.1) fun l=>if l=true then if((a.1.length:Nat):Int) > 8192 then Sum.inr (false) else Sum.inl () else Sum.inr (false) else Sum.inr (false) else Sum.inr (false) else Sum.inl ()) fun _=>bnd (bL m) fun f=>bnd (bE m) fun b=>if f.2=0 then bnd (gm f.1) fun g=>if c=true then if g.2=0 then if g.1=m then decide (¬ (b.2=0)) else false else false else false else if b.2=0 then bnd (gp b.1) fun h=>if c=true then if h.2=0 then decide (h.1=m) else false else false else c
set_option maxHeartbeats 8000000 in
theorem o9 (w:World) (D:Nat→Prop) (d:bP) (L:Option Addr) (fT u:Nat) (M:Option Addr) (fU y:Nat) (aS:List aP) (N:Option Addr) (fV z:Nat) (p1:bK) (G:Option Addr) (fZ f:Nat) (I:Option Addr) (gq g:Nat) (aT:List ak) (J:Option Addr) (gu h:Nat) (aU:List aM) (A2:Option Addr) (n2 c2:Nat) (l2:List UInt8) (r0:Bool) (H:Own w D w []) (gN:fT=d.ag.ls.length) (di:Ro w D fun w'=>bn w' 2 L d.ag.ls.length (List.flatMap aH.cells d.ag.ls)) (kS:d.ag.ls.length≤u∧d.ag.ls.length≤9223372036854775807) (bz:List.map zV aS=d.aD.ls) (gP:fU=d.aD.ls.length) (dm:Ro w D fun w'=>bn w' 2 M d.aD.ls.length (List.flatMap aP.cells aS)) (kT:d.aD.ls.length≤y∧d.aD.ls.length≤9223372036854775807) (av:∀ x ∈ aS,Ro w D (fun w'=>bn w' 6 x.aL.A x.aL.ls.length (List.flatMap aW.cells x.aL.ls))∧(x.aL.ls.length≤x.aL.c∧x.aL.ls.length≤9223372036854775807)) (gQ:fV=d.aj.ls.length) (dn:Ro w D fun w'=>bn w' 1 N d.aj.ls.length (List.flatMap (eN .u64) d.aj.ls)) (kU:d.aj.ls.length≤z∧d.aj.ls.length≤9223372036854775807) (gT:fZ=p1.ag.ls.length) (dw:Ro w D fun w'=>bn w' 2 G p1.ag.ls.length (List.flatMap aH.cells p1.ag.ls)) (kV:p1.ag.ls.length≤f∧p1.ag.ls.length≤9223372036854775807) (bA:List.map zz aT=p1.ai.ls) (gU:gq=p1.ai.ls.length) (dx:Ro w D fun w'=>bn w' 5 I p1.ai.ls.length (List.flatMap ak.cells aT)) (kW:p1.ai.ls.length≤g∧p1.ai.ls.length≤9223372036854775807) (ax:∀ x ∈ aT,Ro w D (fun w'=>bn w' 1 x.af.A x.af.ls.length (List.flatMap (eI .i64) x.af.ls))∧(x.af.ls.length≤x.af.c∧x.af.ls.length≤9223372036854775807)) (bB:List.map zM aU=p1.aG.ls) (gV:gu=p1.aG.ls.length) (dz:Ro w D fun w'=>bn w' 4 J p1.aG.ls.length (List.flatMap aM.cells aU)) (kX:p1.aG.ls.length≤h∧p1.aG.ls.length≤9223372036854775807) (E:∀ x ∈ aU,Ro w D (fun w'=>bn w' 3 x.ah.A x.ah.ls.length (List.flatMap az.cells x.ah.ls))∧(x.ah.ls.length≤x.ah.c∧x.ah.ls.length≤9223372036854775807)∧(∀ y1 ∈ x.ah.ls,Ro w D (fun w'=>bn w' 2 y1.ax.A y1.ax.ls.length (List.flatMap bu.cells y1.ax.ls))∧(y1.ax.ls.length≤y1.ax.c∧y1.ax.ls.length≤9223372036854775807))) (fP:Ro w D fun w'=>bn w' 1 A2 n2 (List.flatMap eB l2)) (kY:n2=l2.length) (og:l2.length *1≤211106232532992) (oh:l2.length≤c2) (ol:(-9223372036854775808)≤d.iw∧d.iw≤9223372036854775807) (om:d.au≤18446744073709551615) (oo:d.aY≤18446744073709551615) (oq:d.aK≤18446744073709551615) (ou:d.bg≤18446744073709551615) (ow:d.ag.ls.length *24≤140737488351232) (oz:d.aD.ls.length *32≤140737488351232) (oC:d.aj.ls.length *8≤140737488351232) (oD:d.gU≤18446744073709551615) (oF:d.cu≤18446744073709551615) (l7:d.aZ.aJ.length≤140737488351232) (l8:d.aZ.aN.length≤140737488351232) (l9:d.aT.bg≤18446744073709551615) (ma:d.aT.bv≤18446744073709551615) (mf:d.aT.cz≤18446744073709551615) (mh:d.aT.aO.aJ.length≤140737488351232) (mi:d.aT.aO.aN.length≤140737488351232) (mo:(-9223372036854775808)≤p1.af∧p1.af≤9223372036854775807) (mq:p1.au≤18446744073709551615) (mr:p1.aY≤18446744073709551615) (mD:p1.aK≤18446744073709551615) (mE:p1.ag.ls.length *24≤140737488351232) (mF:p1.ai.ls.length *56≤140737488351232) (mG:p1.aG.ls.length *48≤140737488351232) (mH:l2.length *1≤140737488351232) (mI:nE d) (mJ:nG p1) (hr:lU d p1 l2=r0):
    Calls Tryz.prog 4 #[.agg (bM d.iw d.au d.aY d.aK d.bg L fT u M fU y N fV z d.gU d.cu d.aZ.aJ d.aZ.aN d.aT.bg d.aT.bv d.aT.cz d.aT.aO.aJ d.aT.aO.aN).toArray, .agg #[.int .i64 p1.af, .int .u64 ((p1.au:Nat):Int), .int .u64 ((p1.aY:Nat):Int), .int .u64 ((p1.aK:Nat):Int), .slice G fZ f, .slice I gq g, .slice J gu h], .slice A2 n2 c2] w (dE fun v w'=>v= .bool r0∧Own w D w' []):=by
 subst kY gN gP gQ gT gU gV
 have hdl0x1:=bS bz
 have hdl1x1:=bS bA
 have hdl1x2:=bS bB
 refine zg (args:= [.agg (bQ d L u M y N z).toArray, .agg #[.int .i64 p1.af, .int .u64 ((p1.au:Nat):Int), .int .u64 ((p1.aY:Nat):Int), .int .u64 ((p1.aK:Nat):Int), .slice G p1.ag.ls.length f, .slice I p1.ai.ls.length g, .slice J p1.aG.ls.length h], .slice A2 l2.length c2]) Tryz.func4 rfl rfl rfl ?_
 show Wp _ _ _ [(0, .agg (bQ d L u M y N z).toArray),(1, .agg #[.int .i64 p1.af, .int .u64 ((p1.au:Nat):Int), .int .u64 ((p1.aY:Nat):Int), .int .u64 ((p1.aK:Nat):Int), .slice G p1.ag.ls.length f, .slice I p1.ai.ls.length g, .slice J p1.aG.ls.length h]),(2, .slice A2 l2.length c2)] _ _
 refine sr ?_
 refine dC (bQ d L u M y N z) 31 H ?_
 intro ja oG kZ
 refine dC [.int .i64 p1.af, .int .u64 ((p1.au:Nat):Int), .int .u64 ((p1.aY:Nat):Int), .int .u64 ((p1.aK:Nat):Int), .slice G p1.ag.ls.length f, .slice I p1.ai.ls.length g, .slice J p1.aG.ls.length h] 35 kZ ?_
 intro ed oH lc
 refine Ar rfl ?_
 obtain⟨bC,n⟩:∃ q,mQ=q:=⟨_,rfl⟩
 obtain⟨oI,jb,mK,jc,mM⟩:=zt lc
 refine cl Tryz.call6 (rX _ _ bC jb n) ?_
 rintro _ oJ ⟨rfl,jf⟩
 have gW:=jc _ _ jf
 refine An rfl (ze (sr (Mz rfl (Kz (.int .i64 ((l2.length:Nat):Int)) (Kz (.bool (decide (((l2.length:Nat):Int) > 100000))) (nt ?_))))))
 by_cases S:((l2.length:Nat):Int) > 100000
 refine jT (dT S) (sr (Mz rfl (An rfl (rt (tR (rs ?_))))))
 have lg:=gW.pk []
 obtain rfl:_=bC:=hr.symm.trans (et (ae n) (ip S))
 exact⟨rfl,lg⟩
 refine jF (dF S) (sk (sr (La (bQ d L u M y N z) gW 1 Tryz.isAgg31 Tryz.sizeOf31 ?_)))
 obtain⟨⟨T,dA⟩,B⟩:∃ q:(List UInt8) × Int,gm d=q:=⟨_,rfl⟩
 obtain⟨oK,jg,dI,jh,mO⟩:=zt gW
 refine cl Tryz.call7 (kg _ _ d L d.ag.ls.length u M d.aD.ls.length y aS N d.aj.ls.length z T dA jg rfl (dI _ di) (show d.ag.ls.length≤u∧d.ag.ls.length≤9223372036854775807 from by omega) bz rfl (dI _ dm) (show d.aD.ls.length≤y∧d.aD.ls.length≤9223372036854775807 from by omega) (fun s t=>⟨dI _ (av s t).1,(av s t).2⟩) rfl (dI _ dn) (show d.aj.ls.length≤z∧d.aj.ls.length≤9223372036854775807 from by omega) (by first | omega | (dsimp only; omega) | (simp only [List.length_nil]; omega) | decide) (by first | assumption) B) ?_
 rintro _ oL ⟨eO,eQ,rfl,ji,gy⟩
 have gX:=jh _ _ ji
 have mP:=gX.rowC (i:=0) rfl
 replace gy:T.length≤100000:=gy
 refine Mz rfl (Kz (.slice eO T.length eQ) (Kz (.int .i64 dA) (Az rfl (An rfl (ze (sr (La (bQ d L u M y N z) gX 2 Tryz.isAgg31 Tryz.sizeOf31 ?_)))))))
 obtain⟨eT,C⟩:∃ q,bG d=q:=⟨_,rfl⟩
 obtain⟨oM,jk,dJ,jl,mR⟩:=zt gX
 refine cl Tryz.call11 (kv _ _ d L d.ag.ls.length u M d.aD.ls.length y aS N d.aj.ls.length z eT jk rfl (dJ _ di) (show d.ag.ls.length≤u∧d.ag.ls.length≤9223372036854775807 from by omega) bz rfl (dJ _ dm) (show d.aD.ls.length≤y∧d.aD.ls.length≤9223372036854775807 from by omega) (fun s t=>⟨dJ _ (av s t).1,(av s t).2⟩) rfl (dJ _ dn) (show d.aj.ls.length≤z∧d.aj.ls.length≤9223372036854775807 from by omega) (by first | omega | (dsimp only; omega) | (simp only [List.length_nil]; omega) | decide) C) ?_
 rintro _ oN ⟨rfl,jm⟩
 have gY:=jl _ _ jm
 refine Kz (.bool (decide (eT=0))) (nt ?_)
 obtain⟨jo,jq⟩:∃ q:Unit→World→Prop,q=fun(_:Unit) w'=>Own w D w' [blk ed [.int .i64 p1.af, .int .u64 ((p1.au:Nat):Int), .int .u64 ((p1.aY:Nat):Int), .int .u64 ((p1.aK:Nat):Int), .slice G p1.ag.ls.length f, .slice I p1.ai.ls.length g, .slice J p1.aG.ls.length h] 35,blk ja (bQ d L u M y N z) 31,row eO T.length eQ (List.flatMap eB T) 5 1]∧((if eT=0 then bnd (bL T) fun bR=>if dA=0 then if bR.2=0 then bnd (jd d bR.1) fun dB=>if dB=true then if((T.length:Nat):Int) > 8192 then Sum.inr (false) else Sum.inl () else Sum.inr (false) else Sum.inr (false) else Sum.inr (false) else Sum.inl ())=Sum.inl ()):=⟨_,rfl⟩
 have eU:∀ {w':World},jo () w'↔Own w D w' [blk ed [.int .i64 p1.af, .int .u64 ((p1.au:Nat):Int), .int .u64 ((p1.aY:Nat):Int), .int .u64 ((p1.aK:Nat):Int), .slice G p1.ag.ls.length f, .slice I p1.ai.ls.length g, .slice J p1.aG.ls.length h] 35,blk ja (bQ d L u M y N z) 31,row eO T.length eQ (List.flatMap eB T) 5 1]∧(if eT=0 then bnd (bL T) fun bR=>if dA=0 then if bR.2=0 then bnd (jd d bR.1) fun dB=>if dB=true then if((T.length:Nat):Int) > 8192 then Sum.inr (false) else Sum.inl () else Sum.inr (false) else Sum.inr (false) else Sum.inr (false) else Sum.inl ())=Sum.inl ():=by intros; subst jq; exact Iff.rfl
 refine Ae (fun _:Unit=> [(6, .bool false),(7, .bool bC),(4, .pointer (some ⟨ed,0,none⟩)),(2, .slice A2 l2.length c2)]) jo ?_ ?_
 by_cases bT:eT=0
 refine jT (dT bT) (sr (Mz rfl ?_))
 have mU:=gY.rowC (i:=0) rfl
 obtain⟨⟨U,dD⟩,aV⟩:∃ q:bP × Int,bL T=q:=⟨_,rfl⟩
 obtain⟨oO,jr,mV,jv,jw⟩:=zt gY
 refine cl Tryz.call15 (kr _ _ eO T.length eQ T U dD jr (jw _ 0 _ rfl eP) rfl (by omega) (by first | omega | (simp only [List.length_take,List.length_drop]; omega) | exact Nat.le_refl _) aV) ?_
 rintro _ oP ⟨eX,ek,eY,eu,eZ,eD,lh,rfl,jy,gz,gB⟩
 have fQ:=jv _ _ jy
 have mW:=bS gz
 have mX:=fQ.rowC (i:=0) rfl
 have mY:=fQ.rowC (i:=1) rfl
 have mZ:=fQ.rowC (i:=3) rfl
 replace gB:U.ag.ls.length≤1000∧U.aD.ls.length≤1000∧U.aj.ls.length≤1000:=gB
 refine Mz rfl (Kz (.agg (bQ U eX ek eY eu eZ eD).toArray) (Kz (.int .i64 dD) ?_))
 refine dC (bM 0 0 0 0 0 none 0 0 none 0 0 none 0 0 0 0 ([]) ([]) 0 0 0 ([]) ([])) 31 fQ ?_
 intro oQ oU ll
 refine df (bQ U eX ek eY eu eZ eD) 0 ll Tryz.sizeOf31 ?_
 intro oV eF
 refine Ar rfl (Mz rfl (fw (.bool (decide (¬ (dA=0)))) (zF (e:= !(decide (dA=0))) yk decide_not.symm) (Mz rfl ?_)))
 by_cases aK:dA=0
 refine gw (.int .i64 dD) (dF (Ce aK)) (zo rfl) (gw (.bool (decide (¬ (dD=0)))) (dF (Ce aK)) (zF (e:= !(decide (dD=0))) yk decide_not.symm) (fw (.bool (decide (¬ (dD=0)))) (zh rfl (dF (Ce aK)) rfl) (Mz rfl ?_)))
 by_cases ah:dD=0
 refine gw (.agg (bQ d L u M y N z).toArray) (dF (Ce ah)) (zi rfl (zD (cs:=(bQ d L u M y N z)) Tryz.isAgg31 Tryz.sizeOf31 ((eF.cls (i:=7) rfl).lit (k:=0) (m:=17) rfl))) (gw (.agg (bQ U eX ek eY eu eZ eD).toArray) (dF (Ce ah)) (zi rfl (zD (cs:=(bQ U eX ek eY eu eZ eD)) Tryz.isAgg31 Tryz.sizeOf31 ((eF.cls (i:=0) rfl).lit (k:=0) (m:=17) rfl))) ?_)
 obtain⟨dK,bD⟩:∃ q,jd d U=q:=⟨_,rfl⟩
 obtain⟨ng,gZ,bF,ib,bI⟩:=zt eF
 refine mg (dF (Ce ah)) Tryz.call16 (pW _ _ d L d.ag.ls.length u M d.aD.ls.length y aS N d.aj.ls.length z U eX U.ag.ls.length ek eY U.aD.ls.length eu lh eZ U.aj.ls.length eD dK gZ rfl (bF _ di) (show d.ag.ls.length≤u∧d.ag.ls.length≤9223372036854775807 from by omega) bz rfl (bF _ dm) (show d.aD.ls.length≤y∧d.aD.ls.length≤9223372036854775807 from by omega) (fun s t=>⟨bF _ (av s t).1,(av s t).2⟩) rfl (bF _ dn) (show d.aj.ls.length≤z∧d.aj.ls.length≤9223372036854775807 from by omega) rfl (bI _ 1 _ rfl eP) (show U.ag.ls.length≤ek∧U.ag.ls.length≤9223372036854775807 from by omega) gz rfl (bI _ 2 _ rfl eP) (show U.aD.ls.length≤eu∧U.aD.ls.length≤9223372036854775807 from by omega) (fun s t=>⟨bI _ 3 _ rfl (fF (List.mem_flatMap.2 ⟨s,t, .head _⟩) eP),kC (φ:=fun _=>_) eF (i:=3) rfl (fF (List.mem_flatMap.2 ⟨s,t, .head _⟩) jS)⟩) rfl (bI _ 4 _ rfl eP) (show U.aj.ls.length≤eD∧U.aj.ls.length≤9223372036854775807 from by omega) bD) ?_
 rintro _ ni ⟨rfl,ic⟩
 have fe:=ib _ _ ic
 refine gw (.bool (!dK)) (dF (Ce ah)) yk (fw (.bool (!dK)) (zh rfl (dF (Ce ah)) rfl) (Mz rfl ?_))
 rcases Cf (dK) with V | V
 refine gw (.slice eO T.length eQ) (cn V) (zo rfl) (Gz (.int .i64 ((T.length:Nat):Int)) (cn V) (Gz (.bool (decide (((T.length:Nat):Int) > 8192))) (cn V) (fw (.bool (decide (((T.length:Nat):Int) > 8192))) (zh rfl (cn V) rfl) (nt ?_))))
 by_cases dL:((T.length:Nat):Int) > 8192
 refine jT (dT dL) (ze ?_)
 have jA:=fe.pk [5,6,7]
 refine zb (An rfl (rt (tR (rs ?_))))
 have jB:=jA.pk []
 obtain rfl:_=false:=hr.symm.trans (et (ae n) (et (iN S) (et (ae B) (et (ae C) (fE (et (ip bT) (et (ae aV) (et (ip aK) (et (ip ah) (et (ae bD) (et (ip V) (ip dL))))))))))))
 exact⟨rfl,jB⟩
 refine jF (dF dL) (zS ?_)
 have jC:=fe.pk [6,7,5]
 exact zU () ⟨rfl,rfl,rfl,rfl,trivial⟩ (eU.2 ⟨jC,et (ip bT) (et (ae aV) (et (ip aK) (et (ip ah) (et (ae bD) (et (ip V) (iN dL))))))⟩)
 refine Sz (cn V) (Sz (cn V) (Sz (cn V) (fw (.bool true) (zf rfl (cn V) rfl) (nt (jt (ze ?_))))))
 have jD:=fe.pk [5,6,7]
 refine zb (An rfl (rt (tR (rs ?_))))
 have jE:=jD.pk []
 obtain rfl:_=false:=hr.symm.trans (et (ae n) (et (iN S) (et (ae B) (et (ae C) (fE (et (ip bT) (et (ae aV) (et (ip aK) (et (ip ah) (et (ae bD) (jV V)))))))))))
 exact⟨rfl,jE⟩
 refine Sz (dT ah) (Sz (dT ah) (Sz (dT ah) (Sz (dT ah) (fw (.bool true) (zf rfl (dT ah) rfl) (Mz rfl (Sz rfl (Sz rfl (Sz rfl (fw (.bool true) (zf rfl rfl rfl) (nt (jt (ze ?_))))))))))))
 have jG:=eF.pk [5,6,7]
 refine zb (An rfl (rt (tR (rs ?_))))
 have jH:=jG.pk []
 obtain rfl:_=false:=hr.symm.trans (et (ae n) (et (iN S) (et (ae B) (et (ae C) (fE (et (ip bT) (et (ae aV) (et (ip aK) (iN ah)))))))))
 exact⟨rfl,jH⟩
 refine Sz (dT aK) (Sz (dT aK) (fw (.bool true) (zf rfl (dT aK) rfl) (Mz rfl (Sz rfl (Sz rfl (Sz rfl (Sz rfl (fw (.bool true) (zf rfl rfl rfl) (Mz rfl (Sz rfl (Sz rfl (Sz rfl (fw (.bool true) (zf rfl rfl rfl) (nt (jt (ze ?_))))))))))))))))
 have jI:=eF.pk [5,6,7]
 refine zb (An rfl (rt (tR (rs ?_))))
 have jK:=jI.pk []
 obtain rfl:_=false:=hr.symm.trans (et (ae n) (et (iN S) (et (ae B) (et (ae C) (fE (et (ip bT) (et (ae aV) (iN aK))))))))
 exact⟨rfl,jK⟩
 refine jF (dF bT) (zS ?_)
 have jL:=gY.pk [1,2,0]
 exact zU () ⟨rfl,rfl,rfl,rfl,trivial⟩ (eU.2 ⟨jL,iN bT⟩)
 rintro ⟨⟩ nk ig
 show Wp _ _ _ [(6, .bool false),(7, .bool bC),(4, .pointer (some ⟨ed,0,none⟩)),(2, .slice A2 l2.length c2)] _ _
 obtain⟨jM,F⟩:=eU.1 ig
 refine ze ?_
 have gD:=jM.pk [0]
 refine zb (La ([.int .i64 p1.af, .int .u64 ((p1.au:Nat):Int), .int .u64 ((p1.aY:Nat):Int), .int .u64 ((p1.aK:Nat):Int), .slice G p1.ag.ls.length f, .slice I p1.ai.ls.length g, .slice J p1.aG.ls.length h]) gD 0 Tryz.isAgg35 Tryz.sizeOf35 ?_)
 obtain⟨⟨j,aL⟩,p⟩:∃ q:(List UInt8) × Int,gp p1=q:=⟨_,rfl⟩
 obtain⟨nu,ik,ay,il,lm⟩:=zt gD
 refine cl Tryz.call9 (ko _ _ p1 G p1.ag.ls.length f I p1.ai.ls.length g aT J p1.aG.ls.length h aU j aL ik rfl (ay _ dw) (show p1.ag.ls.length≤f∧p1.ag.ls.length≤9223372036854775807 from by omega) bA rfl (ay _ dx) (show p1.ai.ls.length≤g∧p1.ai.ls.length≤9223372036854775807 from by omega) (fun s t=>⟨ay _ (ax s t).1,(ax s t).2⟩) bB rfl (ay _ dz) (show p1.aG.ls.length≤h∧p1.aG.ls.length≤9223372036854775807 from by omega) (fun s t=>⟨ay _ (E s t).1,(E s t).2.1,(fun y1 k1=>⟨ay _ ((E s t).2.2 y1 k1).1,((E s t).2.2 y1 k1).2⟩)⟩) (by first | omega | (dsimp only; omega) | (simp only [List.length_nil]; omega) | decide) (by first | assumption) p) ?_
 rintro _ ny ⟨bU,bV,rfl,iq,fo⟩
 have fq:=il _ _ iq
 have lq:=fq.rowC (i:=0) rfl
 replace fo:j.length≤100000:=fo
 refine Mz rfl (Kz (.slice bU j.length bV) (Kz (.int .i64 aL) (Az rfl (An rfl (ze (sr (La ([.int .i64 p1.af, .int .u64 ((p1.au:Nat):Int), .int .u64 ((p1.aY:Nat):Int), .int .u64 ((p1.aK:Nat):Int), .slice G p1.ag.ls.length f, .slice I p1.ai.ls.length g, .slice J p1.aG.ls.length h]) fq 1 Tryz.isAgg35 Tryz.sizeOf35 ?_)))))))
 obtain⟨bW,r⟩:∃ q,bH p1=q:=⟨_,rfl⟩
 obtain⟨nz,iw,aA,iy,lu⟩:=zt fq
 refine cl Tryz.call13 (kw _ _ p1 G p1.ag.ls.length f I p1.ai.ls.length g aT J p1.aG.ls.length h aU bW iw rfl (aA _ dw) (show p1.ag.ls.length≤f∧p1.ag.ls.length≤9223372036854775807 from by omega) bA rfl (aA _ dx) (show p1.ai.ls.length≤g∧p1.ai.ls.length≤9223372036854775807 from by omega) (fun s t=>⟨aA _ (ax s t).1,(ax s t).2⟩) bB rfl (aA _ dz) (show p1.aG.ls.length≤h∧p1.aG.ls.length≤9223372036854775807 from by omega) (fun s t=>⟨aA _ (E s t).1,(E s t).2.1,(fun y1 k1=>⟨aA _ ((E s t).2.2 y1 k1).1,((E s t).2.2 y1 k1).2⟩)⟩) (by first | omega | (dsimp only; omega) | (simp only [List.length_nil]; omega) | decide) r) ?_
 rintro _ nA ⟨rfl,iA⟩
 have fu:=iy _ _ iA
 refine Kz (.bool (decide (bW=0))) (nt ?_)
 obtain⟨gF,iB⟩:∃ q:Unit→World→Prop,q=fun(_:Unit) w'=>Own w D w' [blk ed [.int .i64 p1.af, .int .u64 ((p1.au:Nat):Int), .int .u64 ((p1.aY:Nat):Int), .int .u64 ((p1.aK:Nat):Int), .slice G p1.ag.ls.length f, .slice I p1.ai.ls.length g, .slice J p1.aG.ls.length h] 35,row bU j.length bV (List.flatMap eB j) 5 1]∧((if bW=0 then bnd (bE j) fun aN=>if aL=0 then if aN.2=0 then bnd (je p1 aN.1) fun dG=>if dG=true then if((j.length:Nat):Int) > 8192 then Sum.inr (false) else Sum.inl () else Sum.inr (false) else Sum.inr (false) else Sum.inr (false) else Sum.inl ())=Sum.inl ()):=⟨_,rfl⟩
 have dH:∀ {w':World},gF () w'↔Own w D w' [blk ed [.int .i64 p1.af, .int .u64 ((p1.au:Nat):Int), .int .u64 ((p1.aY:Nat):Int), .int .u64 ((p1.aK:Nat):Int), .slice G p1.ag.ls.length f, .slice I p1.ai.ls.length g, .slice J p1.aG.ls.length h] 35,row bU j.length bV (List.flatMap eB j) 5 1]∧(if bW=0 then bnd (bE j) fun aN=>if aL=0 then if aN.2=0 then bnd (je p1 aN.1) fun dG=>if dG=true then if((j.length:Nat):Int) > 8192 then Sum.inr (false) else Sum.inl () else Sum.inr (false) else Sum.inr (false) else Sum.inr (false) else Sum.inl ())=Sum.inl ():=by intros; subst iB; exact Iff.rfl
 refine Ae (fun _:Unit=> [(6, .bool false),(7, .bool bC),(2, .slice A2 l2.length c2)]) gF ?_ ?_
 by_cases aG:bW=0
 refine jT (dT aG) (sr (Mz rfl ?_))
 have lv:=fu.rowC (i:=0) rfl
 obtain⟨⟨a,aO⟩,aB⟩:∃ q:bK × Int,bE j=q:=⟨_,rfl⟩
 obtain⟨nC,iC,lw,iD,iE⟩:=zt fu
 refine cl Tryz.call17 (jJ _ _ bU j.length bV j a aO iC (iE _ 0 _ rfl eP) rfl (by omega) (by first | omega | (simp only [List.length_take,List.length_drop]; omega) | exact Nat.le_refl _) aB) ?_
 rintro _ nD ⟨bX,aX,bY,aY,bZ,aZ,jN,jO,rfl,iF,fA,fB,fC⟩
 have dN:=iD _ _ iF
 have lC:=bS fA
 have lD:=bS fB
 have lF:=dN.rowC (i:=0) rfl
 have lG:=dN.rowC (i:=1) rfl
 have lH:=dN.rowC (i:=3) rfl
 replace fC:a.ag.ls.length≤1000∧a.ai.ls.length≤1000∧a.aG.ls.length≤1000:=fC
 refine Mz rfl (Kz (.agg #[.int .i64 a.af, .int .u64 ((a.au:Nat):Int), .int .u64 ((a.aY:Nat):Int), .int .u64 ((a.aK:Nat):Int), .slice bX a.ag.ls.length aX, .slice bY a.ai.ls.length aY, .slice bZ a.aG.ls.length aZ]) (Kz (.int .i64 aO) ?_))
 refine dC [.int .i64 0, .int .u64 0, .int .u64 0, .int .u64 0, .slice none 0 0, .slice none 0 0, .slice none 0 0] 35 dN ?_
 intro nH nI jP
 refine df [.int .i64 a.af, .int .u64 ((a.au:Nat):Int), .int .u64 ((a.aY:Nat):Int), .int .u64 ((a.aK:Nat):Int), .slice bX a.ag.ls.length aX, .slice bY a.ai.ls.length aY, .slice bZ a.aG.ls.length aZ] 0 jP Tryz.sizeOf35 ?_
 intro nJ aI
 refine Ar rfl (Mz rfl (fw (.bool (decide (¬ (aL=0)))) (zF (e:= !(decide (aL=0))) yk decide_not.symm) (Mz rfl ?_)))
 by_cases X:aL=0
 refine gw (.int .i64 aO) (dF (Ce X)) (zo rfl) (gw (.bool (decide (¬ (aO=0)))) (dF (Ce X)) (zF (e:= !(decide (aO=0))) yk decide_not.symm) (fw (.bool (decide (¬ (aO=0)))) (zh rfl (dF (Ce X)) rfl) (Mz rfl ?_)))
 by_cases O:aO=0
 refine gw (.agg #[.int .i64 p1.af, .int .u64 ((p1.au:Nat):Int), .int .u64 ((p1.aY:Nat):Int), .int .u64 ((p1.aK:Nat):Int), .slice G p1.ag.ls.length f, .slice I p1.ai.ls.length g, .slice J p1.aG.ls.length h]) (dF (Ce O)) (zi rfl (zD (cs:= [.int .i64 p1.af, .int .u64 ((p1.au:Nat):Int), .int .u64 ((p1.aY:Nat):Int), .int .u64 ((p1.aK:Nat):Int), .slice G p1.ag.ls.length f, .slice I p1.ai.ls.length g, .slice J p1.aG.ls.length h]) Tryz.isAgg35 Tryz.sizeOf35 ((aI.cls (i:=7) rfl).lit (k:=0) (m:=7) rfl))) (gw (.agg #[.int .i64 a.af, .int .u64 ((a.au:Nat):Int), .int .u64 ((a.aY:Nat):Int), .int .u64 ((a.aK:Nat):Int), .slice bX a.ag.ls.length aX, .slice bY a.ai.ls.length aY, .slice bZ a.aG.ls.length aZ]) (dF (Ce O)) (zi rfl (zD (cs:= [.int .i64 a.af, .int .u64 ((a.au:Nat):Int), .int .u64 ((a.aY:Nat):Int), .int .u64 ((a.aK:Nat):Int), .slice bX a.ag.ls.length aX, .slice bY a.ai.ls.length aY, .slice bZ a.aG.ls.length aZ]) Tryz.isAgg35 Tryz.sizeOf35 ((aI.cls (i:=0) rfl).lit (k:=0) (m:=7) rfl))) ?_)
 obtain⟨dO,bJ⟩:∃ q,je p1 a=q:=⟨_,rfl⟩
 obtain⟨nK,iG,aC,iH,aD⟩:=zt aI
 refine mg (dF (Ce O)) Tryz.call18 (pX _ _ p1 G p1.ag.ls.length f I p1.ai.ls.length g aT J p1.aG.ls.length h aU a bX a.ag.ls.length aX bY a.ai.ls.length aY jN bZ a.aG.ls.length aZ jO dO iG rfl (aC _ dw) (show p1.ag.ls.length≤f∧p1.ag.ls.length≤9223372036854775807 from by omega) bA rfl (aC _ dx) (show p1.ai.ls.length≤g∧p1.ai.ls.length≤9223372036854775807 from by omega) (fun s t=>⟨aC _ (ax s t).1,(ax s t).2⟩) bB rfl (aC _ dz) (show p1.aG.ls.length≤h∧p1.aG.ls.length≤9223372036854775807 from by omega) (fun s t=>⟨aC _ (E s t).1,(E s t).2.1,(fun y1 k1=>⟨aC _ ((E s t).2.2 y1 k1).1,((E s t).2.2 y1 k1).2⟩)⟩) rfl (aD _ 1 _ rfl eP) (show a.ag.ls.length≤aX∧a.ag.ls.length≤9223372036854775807 from by omega) fA rfl (aD _ 2 _ rfl eP) (show a.ai.ls.length≤aY∧a.ai.ls.length≤9223372036854775807 from by omega) (fun s t=>⟨aD _ 3 _ rfl (fF (List.mem_flatMap.2 ⟨s,t, .head _⟩) eP),kC (φ:=fun _=>_) aI (i:=3) rfl (fF (List.mem_flatMap.2 ⟨s,t, .head _⟩) jS)⟩) fB rfl (aD _ 4 _ rfl eP) (show a.aG.ls.length≤aZ∧a.aG.ls.length≤9223372036854775807 from by omega) (fun s t=>⟨aD _ 5 _ rfl (fF (List.mem_flatMap.2 ⟨s,t, .head _⟩) eP),kC (φ:=fun _=>_) aI (i:=5) rfl (fF (List.mem_flatMap.2 ⟨s,t, .head _⟩) jS),(fun y1 k1=>⟨aD _ 5 _ rfl (fF (List.mem_flatMap.2 ⟨s,t, .tail _ (.head _)⟩) (fF (List.mem_flatMap.2 ⟨y1,k1, .head _⟩) eP)),kC (φ:=fun _=>_) aI (i:=5) rfl (fF (List.mem_flatMap.2 ⟨s,t, .tail _ (.head _)⟩) (fF (List.mem_flatMap.2 ⟨y1,k1, .head _⟩) jS))⟩)⟩) bJ) ?_
 rintro _ nL ⟨rfl,iI⟩
 have fD:=iH _ _ iI
 refine gw (.bool (!dO)) (dF (Ce O)) yk (fw (.bool (!dO)) (zh rfl (dF (Ce O)) rfl) (Mz rfl ?_))
 rcases Cf (dO) with W | W
 refine gw (.slice bU j.length bV) (cn W) (zo rfl) (Gz (.int .i64 ((j.length:Nat):Int)) (cn W) (Gz (.bool (decide (((j.length:Nat):Int) > 8192))) (cn W) (fw (.bool (decide (((j.length:Nat):Int) > 8192))) (zh rfl (cn W) rfl) (nt ?_))))
 by_cases dP:((j.length:Nat):Int) > 8192
 refine jT (dT dP) (ze ?_)
 have jQ:=fD.pk [6,7]
 refine zb (An rfl (rt (tR (rs ?_))))
 have jR:=jQ.pk []
 obtain rfl:_=false:=hr.symm.trans (et (ae n) (et (iN S) (et (ae B) (et (ae C) (et (gL F) (et (ae p) (et (ae r) (fE (et (ip aG) (et (ae aB) (et (ip X) (et (ip O) (et (ae bJ) (et (ip W) (ip dP)))))))))))))))
 exact⟨rfl,jR⟩
 refine jF (dF dP) (zS ?_)
 have jU:=fD.pk [7,6]
 exact zU () ⟨rfl,rfl,rfl,trivial⟩ (dH.2 ⟨jU,et (ip aG) (et (ae aB) (et (ip X) (et (ip O) (et (ae bJ) (et (ip W) (iN dP))))))⟩)
 refine Sz (cn W) (Sz (cn W) (Sz (cn W) (fw (.bool true) (zf rfl (cn W) rfl) (nt (jt (ze ?_))))))
 have jW:=fD.pk [6,7]
 refine zb (An rfl (rt (tR (rs ?_))))
 have jX:=jW.pk []
 obtain rfl:_=false:=hr.symm.trans (et (ae n) (et (iN S) (et (ae B) (et (ae C) (et (gL F) (et (ae p) (et (ae r) (fE (et (ip aG) (et (ae aB) (et (ip X) (et (ip O) (et (ae bJ) (jV W))))))))))))))
 exact⟨rfl,jX⟩
 refine Sz (dT O) (Sz (dT O) (Sz (dT O) (Sz (dT O) (fw (.bool true) (zf rfl (dT O) rfl) (Mz rfl (Sz rfl (Sz rfl (Sz rfl (fw (.bool true) (zf rfl rfl rfl) (nt (jt (ze ?_))))))))))))
 have jY:=aI.pk [6,7]
 refine zb (An rfl (rt (tR (rs ?_))))
 have jZ:=jY.pk []
 obtain rfl:_=false:=hr.symm.trans (et (ae n) (et (iN S) (et (ae B) (et (ae C) (et (gL F) (et (ae p) (et (ae r) (fE (et (ip aG) (et (ae aB) (et (ip X) (iN O))))))))))))
 exact⟨rfl,jZ⟩
 refine Sz (dT X) (Sz (dT X) (fw (.bool true) (zf rfl (dT X) rfl) (Mz rfl (Sz rfl (Sz rfl (Sz rfl (Sz rfl (fw (.bool true) (zf rfl rfl rfl) (Mz rfl (Sz rfl (Sz rfl (Sz rfl (fw (.bool true) (zf rfl rfl rfl) (nt (jt (ze ?_))))))))))))))))
 have j3:=aI.pk [6,7]
 refine zb (An rfl (rt (tR (rs ?_))))
 have j4:=j3.pk []
 obtain rfl:_=false:=hr.symm.trans (et (ae n) (et (iN S) (et (ae B) (et (ae C) (et (gL F) (et (ae p) (et (ae r) (fE (et (ip aG) (et (ae aB) (iN X)))))))))))
 exact⟨rfl,j4⟩
 refine jF (dF aG) (zS ?_)
 have j5:=fu.pk [1,0]
 exact zU () ⟨rfl,rfl,rfl,trivial⟩ (dH.2 ⟨j5,iN aG⟩)
 rintro ⟨⟩ nM iJ
 show Wp _ _ _ [(6, .bool false),(7, .bool bC),(2, .slice A2 l2.length c2)] _ _
 obtain⟨j6,Y⟩:=dH.1 iJ
 refine ze ?_
 have ku:=j6.pk []
 refine zb (Mz rfl ?_)
 obtain⟨⟨o,dQ⟩,Q⟩:∃ q:bP × Int,bL l2=q:=⟨_,rfl⟩
 obtain⟨nN,iK,iL,iM,lI⟩:=zt ku
 refine cl Tryz.call15 (kr _ _ A2 l2.length c2 l2 o dQ iK (iL _ fP) rfl (by omega) (by first | omega | (simp only [List.length_take,List.length_drop]; omega) | exact Nat.le_refl _) Q) ?_
 rintro _ nO ⟨dR,cu,dS,cz,dU,cB,ky,rfl,iO,fG,fH⟩
 have dV:=iM _ _ iO
 have lJ:=bS fG
 have lK:=dV.rowC (i:=0) rfl
 have lL:=dV.rowC (i:=1) rfl
 have lM:=dV.rowC (i:=3) rfl
 replace fH:o.ag.ls.length≤1000∧o.aD.ls.length≤1000∧o.aj.ls.length≤1000:=fH
 refine Mz rfl (Kz (.agg (bQ o dR cu dS cz dU cB).toArray) (Kz (.int .i64 dQ) ?_))
 refine dC (bM 0 0 0 0 0 none 0 0 none 0 0 none 0 0 0 0 ([]) ([]) 0 0 0 ([]) ([])) 31 dV ?_
 intro nP nQ kz
 refine df (bQ o dR cu dS cz dU cB) 0 kz Tryz.sizeOf31 ?_
 intro nR kD
 refine Ar rfl (Mz rfl ?_)
 obtain⟨⟨b,ai⟩,R⟩:∃ q:bK × Int,bE l2=q:=⟨_,rfl⟩
 obtain⟨nS,iP,iQ,iR,lN⟩:=zt kD
 refine cl Tryz.call17 (jJ _ _ A2 l2.length c2 l2 b ai iP (iQ _ fP) rfl (by omega) (by first | omega | (simp only [List.length_take,List.length_drop]; omega) | exact Nat.le_refl _) R) ?_
 rintro _ sM ⟨dW,cK,dX,cO,dY,cZ,kE,kF,rfl,iT,fI,fJ,fK⟩
 have dZ:=iR _ _ iT
 have lQ:=bS fI
 have lS:=bS fJ
 have lT:=dZ.rowC (i:=0) rfl
 have lV:=dZ.rowC (i:=1) rfl
 have lW:=dZ.rowC (i:=3) rfl
 replace fK:b.ag.ls.length≤1000∧b.ai.ls.length≤1000∧b.aG.ls.length≤1000:=fK
 refine Mz rfl (Kz (.agg #[.int .i64 b.af, .int .u64 ((b.au:Nat):Int), .int .u64 ((b.aY:Nat):Int), .int .u64 ((b.aK:Nat):Int), .slice dW b.ag.ls.length cK, .slice dX b.ai.ls.length cO, .slice dY b.aG.ls.length cZ]) (Kz (.int .i64 ai) ?_))
 refine dC [.int .i64 0, .int .u64 0, .int .u64 0, .int .u64 0, .slice none 0 0, .slice none 0 0, .slice none 0 0] 35 dZ ?_
 intro nT nU kG
 refine df [.int .i64 b.af, .int .u64 ((b.au:Nat):Int), .int .u64 ((b.aY:Nat):Int), .int .u64 ((b.aK:Nat):Int), .slice dW b.ag.ls.length cK, .slice dX b.ai.ls.length cO, .slice dY b.aG.ls.length cZ] 0 kG Tryz.sizeOf35 ?_
 intro nV d9
 refine An rfl (ze (sr (Mz rfl (Kz (.bool (decide (dQ=0))) (nt ?_)))))
 by_cases af:dQ=0
 refine jT (dT af) (sr (La (bQ o dR cu dS cz dU cB) d9 6 Tryz.isAgg31 Tryz.sizeOf31 ?_))
 obtain⟨⟨aj,bf⟩,aQ⟩:∃ q:(List UInt8) × Int,gm o=q:=⟨_,rfl⟩
 obtain⟨nW,iU,lX,iV,bN⟩:=zt d9
 refine cl Tryz.call7 (kg _ _ o dR o.ag.ls.length cu dS o.aD.ls.length cz ky dU o.aj.ls.length cB aj bf iU rfl (bN _ 7 _ rfl eP) (show o.ag.ls.length≤cu∧o.ag.ls.length≤9223372036854775807 from by omega) fG rfl (bN _ 8 _ rfl eP) (show o.aD.ls.length≤cz∧o.aD.ls.length≤9223372036854775807 from by omega) (fun s t=>⟨bN _ 9 _ rfl (fF (List.mem_flatMap.2 ⟨s,t, .head _⟩) eP),kC (φ:=fun _=>_) d9 (i:=9) rfl (fF (List.mem_flatMap.2 ⟨s,t, .head _⟩) jS)⟩) rfl (bN _ 10 _ rfl eP) (show o.aj.ls.length≤cB∧o.aj.ls.length≤9223372036854775807 from by omega) (by first | omega | (dsimp only; omega) | (simp only [List.length_nil]; omega) | decide) (by first | assumption | exact vI Q) aQ) ?_
 rintro _ nX ⟨gG,gH,rfl,iW,fM⟩
 have gI:=iV _ _ iW
 have lY:=gI.rowC (i:=0) rfl
 replace fM:aj.length≤100000:=fM
 refine Mz rfl (Kz (.slice gG aj.length gH) (Kz (.int .i64 bf) (Az rfl (An rfl (ze ?_)))))
 have bg:=gI.pk [0,1,2,3,4,5,6]
 refine zb (Mz rfl (Mz rfl ?_))
 rcases Cf (bC) with Z | Z
 refine Al (v:= .int .i64 bf) rfl rfl Z rfl (zo rfl) (Gz (.bool (decide (bf=0))) Z (fw (.bool (decide (bf=0))) (zf rfl Z rfl) (Mz rfl ?_)))
 by_cases K:bf=0
 refine gw (.slice gG aj.length gH) (dT K) (zo rfl) (gw (.string ⟨List.toArray aj⟩) (dT K) (Ai (l:=aj) Tryz.underlying37 Tryz.underlying5 Tryz.underlying9 (bg.rds (i:=0) rfl) rfl) (gw (.slice A2 l2.length c2) (dT K) (zo rfl) (gw (.string ⟨List.toArray l2⟩) (dT K) (Ai (l:=l2) Tryz.underlying37 Tryz.underlying5 Tryz.underlying9 (bg.ro fP) rfl) (gw (.bool (decide (aj=l2))) (dT K) (Au rfl rfl) (fw (.bool (decide (aj=l2))) (zf rfl (dT K) rfl) (Mz rfl ?_))))))
 by_cases aJ:aj=l2
 refine gw (.int .i64 ai) (dT aJ) (zo rfl) (gw (.bool (decide (¬ (ai=0)))) (dT aJ) (zF (e:= !(decide (ai=0))) yk decide_not.symm) (fw (.bool (decide (¬ (ai=0)))) (zf rfl (dT aJ) rfl) (An rfl (rt (tR (rs ?_))))))
 have kH:=bg.pk []
 obtain rfl:_=decide (¬ (ai=0)):=hr.symm.trans (et (ae n) (et (iN S) (et (ae B) (et (ae C) (et (gL F) (et (ae p) (et (ae r) (et (gL Y) (et (ae Q) (et (ae R) (et (ip af) (et (ae aQ) (et (ip Z) (et (ip K) (ip aJ)))))))))))))))
 exact⟨rfl,kH⟩
 refine Sz (dF aJ) (Sz (dF aJ) (fw (.bool false) (zh rfl (dF aJ) rfl) (An rfl (rt (tR (rs ?_))))))
 have kI:=bg.pk []
 obtain rfl:_=false:=hr.symm.trans (et (ae n) (et (iN S) (et (ae B) (et (ae C) (et (gL F) (et (ae p) (et (ae r) (et (gL Y) (et (ae Q) (et (ae R) (et (ip af) (et (ae aQ) (et (ip Z) (et (ip K) (iN aJ)))))))))))))))
 exact⟨rfl,kI⟩
 refine Sz (dF K) (Sz (dF K) (Sz (dF K) (Sz (dF K) (Sz (dF K) (fw (.bool false) (zh rfl (dF K) rfl) (Mz rfl (Sz rfl (Sz rfl (fw (.bool false) (zh rfl rfl rfl) (An rfl (rt (tR (rs ?_)))))))))))))
 have kJ:=bg.pk []
 obtain rfl:_=false:=hr.symm.trans (et (ae n) (et (iN S) (et (ae B) (et (ae C) (et (gL F) (et (ae p) (et (ae r) (et (gL Y) (et (ae Q) (et (ae R) (et (ip af) (et (ae aQ) (et (ip Z) (iN K))))))))))))))
 exact⟨rfl,kJ⟩
 refine Sz Z (Sz Z (fw (.bool false) (zh rfl Z rfl) (Mz rfl (Sz rfl (Sz rfl (Sz rfl (Sz rfl (Sz rfl (fw (.bool false) (zh rfl rfl rfl) (Mz rfl (Sz rfl (Sz rfl (fw (.bool false) (zh rfl rfl rfl) (An rfl (rt (tR (rs ?_)))))))))))))))))
 have kK:=bg.pk []
 obtain rfl:_=false:=hr.symm.trans (et (ae n) (et (iN S) (et (ae B) (et (ae C) (et (gL F) (et (ae p) (et (ae r) (et (gL Y) (et (ae Q) (et (ae R) (et (ip af) (et (ae aQ) (jV Z)))))))))))))
 exact⟨rfl,kK⟩
 refine jF (dF af) (sk (ze (ze ?_)))
 have bi:=d9.pk [0,1,2,3,4,5]
 refine zb (Mz rfl (Kz (.bool (decide (ai=0))) (nt ?_)))
 by_cases bq:ai=0
 refine jT (dT bq) (sr (La ([.int .i64 b.af, .int .u64 ((b.au:Nat):Int), .int .u64 ((b.aY:Nat):Int), .int .u64 ((b.aK:Nat):Int), .slice dW b.ag.ls.length cK, .slice dX b.ai.ls.length cO, .slice dY b.aG.ls.length cZ]) bi 0 Tryz.isAgg35 Tryz.sizeOf35 ?_))
 obtain⟨⟨au,bv⟩,bO⟩:∃ q:(List UInt8) × Int,gp b=q:=⟨_,rfl⟩
 obtain⟨nY,iX,lZ,iY,aF⟩:=zt bi
 refine cl Tryz.call9 (ko _ _ b dW b.ag.ls.length cK dX b.ai.ls.length cO kE dY b.aG.ls.length cZ kF au bv iX rfl (aF _ 1 _ rfl eP) (show b.ag.ls.length≤cK∧b.ag.ls.length≤9223372036854775807 from by omega) fI rfl (aF _ 2 _ rfl eP) (show b.ai.ls.length≤cO∧b.ai.ls.length≤9223372036854775807 from by omega) (fun s t=>⟨aF _ 3 _ rfl (fF (List.mem_flatMap.2 ⟨s,t, .head _⟩) eP),kC (φ:=fun _=>_) bi (i:=3) rfl (fF (List.mem_flatMap.2 ⟨s,t, .head _⟩) jS)⟩) fJ rfl (aF _ 4 _ rfl eP) (show b.aG.ls.length≤cZ∧b.aG.ls.length≤9223372036854775807 from by omega) (fun s t=>⟨aF _ 5 _ rfl (fF (List.mem_flatMap.2 ⟨s,t, .head _⟩) eP),kC (φ:=fun _=>_) bi (i:=5) rfl (fF (List.mem_flatMap.2 ⟨s,t, .head _⟩) jS),(fun y1 k1=>⟨aF _ 5 _ rfl (fF (List.mem_flatMap.2 ⟨s,t, .tail _ (.head _)⟩) (fF (List.mem_flatMap.2 ⟨y1,k1, .head _⟩) eP)),kC (φ:=fun _=>_) bi (i:=5) rfl (fF (List.mem_flatMap.2 ⟨s,t, .tail _ (.head _)⟩) (fF (List.mem_flatMap.2 ⟨y1,k1, .head _⟩) jS))⟩)⟩) (by first | omega | (dsimp only; omega) | (simp only [List.length_nil]; omega) | decide) (by first | assumption | exact vJ R) bO) ?_
 rintro _ nZ ⟨gJ,gK,rfl,iZ,fO⟩
 have gM:=iY _ _ iZ
 have l5:=gM.rowC (i:=0) rfl
 replace fO:au.length≤100000:=fO
 refine Mz rfl (Kz (.slice gJ au.length gK) (Kz (.int .i64 bv) (Az rfl (An rfl (ze ?_)))))
 have dh:=gM.pk [0]
 refine zb (Mz rfl (Mz rfl ?_))
 rcases Cf (bC) with ag | ag
 refine Al (v:= .int .i64 bv) rfl rfl ag rfl (zo rfl) (Gz (.bool (decide (bv=0))) ag (fw (.bool (decide (bv=0))) (zf rfl ag rfl) (Mz rfl ?_)))
 by_cases P:bv=0
 refine gw (.slice gJ au.length gK) (dT P) (zo rfl) (gw (.string ⟨List.toArray au⟩) (dT P) (Ai (l:=au) Tryz.underlying37 Tryz.underlying5 Tryz.underlying9 (dh.rds (i:=0) rfl) rfl) (gw (.slice A2 l2.length c2) (dT P) (zo rfl) (gw (.string ⟨List.toArray l2⟩) (dT P) (Ai (l:=l2) Tryz.underlying37 Tryz.underlying5 Tryz.underlying9 (dh.ro fP) rfl) (gw (.bool (decide (au=l2))) (dT P) (Au rfl rfl) (fw (.bool (decide (au=l2))) (zf rfl (dT P) rfl) (An rfl (rt (tR (rs ?_)))))))))
 have kL:=dh.pk []
 obtain rfl:_=decide (au=l2):=hr.symm.trans (et (ae n) (et (iN S) (et (ae B) (et (ae C) (et (gL F) (et (ae p) (et (ae r) (et (gL Y) (et (ae Q) (et (ae R) (et (iN af) (et (ip bq) (et (ae bO) (et (ip ag) (ip P)))))))))))))))
 exact⟨rfl,kL⟩
 refine Sz (dF P) (Sz (dF P) (Sz (dF P) (Sz (dF P) (Sz (dF P) (fw (.bool false) (zh rfl (dF P) rfl) (An rfl (rt (tR (rs ?_)))))))))
 have kM:=dh.pk []
 obtain rfl:_=false:=hr.symm.trans (et (ae n) (et (iN S) (et (ae B) (et (ae C) (et (gL F) (et (ae p) (et (ae r) (et (gL Y) (et (ae Q) (et (ae R) (et (iN af) (et (ip bq) (et (ae bO) (et (ip ag) (iN P)))))))))))))))
 exact⟨rfl,kM⟩
 refine Sz ag (Sz ag (fw (.bool false) (zh rfl ag rfl) (Mz rfl (Sz rfl (Sz rfl (Sz rfl (Sz rfl (Sz rfl (fw (.bool false) (zh rfl rfl rfl) (An rfl (rt (tR (rs ?_)))))))))))))
 have kN:=dh.pk []
 obtain rfl:_=false:=hr.symm.trans (et (ae n) (et (iN S) (et (ae B) (et (ae C) (et (gL F) (et (ae p) (et (ae r) (et (gL Y) (et (ae Q) (et (ae R) (et (iN af) (et (ip bq) (et (ae bO) (jV ag))))))))))))))
 exact⟨rfl,kN⟩
 refine jF (dF bq) (sk (ze ?_))
 have kP:=bi.pk []
 refine zb (Mz rfl (An rfl (rt (rs ?_))))
 have kQ:=kP.pk []
 obtain rfl:_=bC:=hr.symm.trans (et (ae n) (et (iN S) (et (ae B) (et (ae C) (et (gL F) (et (ae p) (et (ae r) (et (gL Y) (et (ae Q) (et (ae R) (et (iN af) (iN bq))))))))))))
 exact⟨rfl,kQ⟩
end Go.Proofs.YtcnkpjheifkgnaaGreat
