/-
 record: the chapter's examples.
-/
import Derived.Test.YtcnkpjheifkgnaaGreatRc
import Derived.Test.YtcnkpjheifkgnaaGreatRcB
import Derived.Test.YtcnkpjheifkgnaaGreatRs
namespace Go.Proofs.YtcnkpjheifkgnaaGreat
set_option maxRecDepth 100000
open Go.RowKit
set_option linter.unusedVariables false
set_option linter.unusedSectionVars false
set_option linter.unusedSimpArgs false
def mQ:Bool:=
 bnd (gm (bP.mk 1 0 0 0 0 (Ll.mk ([(aH.mk ([]) 1)])) (Ll.mk ([])) (Ll.mk ([])) 0 0 (bI.mk ([]) ([])) (eU.mk 0 0 0 (bI.mk ([]) ([]))))) fun a=>bnd (gp (bK.mk 2 1 0 0 (Ll.mk ([(aH.mk ([]) 1)])) (Ll.mk ([])) (Ll.mk ([])))) fun b=>bnd (bL a.1) fun c=>bnd (bE b.1) fun d=>bnd (bE a.1) fun e=>if a.1=([83,1,0,0,0,0,1,0,1,0,0,0,0,0,0,0,0,0,0,0]) then if a.2=0 then if b.1=([67,2,1,0,0,1,0,1,0,0]) then if b.2=0 then if c.1.iw=1 then if c.2=0 then if((d.1.au:Nat):Int)=1 then if d.2=0 then decide (e.2=11) else false else false else false else false else false else false else false else false
set_option maxHeartbeats 4000000 in
theorem rX (w:World) (D:Nat→Prop) (r0:Bool) (H:Own w D w []) (hr:mQ=r0):
    Calls Tryz.prog 6 #[] w (dE fun v w'=>v= .bool r0∧Own w D w' []):=by
 refine zg (args:= []) Tryz.func6 rfl rfl rfl ?_
 show Wp _ _ _ [] _ _
 refine sr (Ar rfl (Kz (.agg #[.string ⟨List.toArray ([])⟩, .int .i64 1]) ?_))
 refine kF [.string ⟨List.toArray ([])⟩, .int .i64 1] 54 2 1 H ?_
 intro F bU Y
 replace Y:Own w D bU [row F 1 1 (List.flatMap aH.cells ([(aH.mk ([]) 1)])) 54 2]:=Y
 refine Ar rfl (Mz rfl (Kz (.agg (bM 1 0 0 0 0 F 1 1 none 0 0 none 0 0 0 0 ([]) ([]) 0 0 0 ([]) ([])).toArray) ?_))
 obtain⟨⟨s,A⟩,m⟩:∃ q:(List UInt8) × Int,gm (bP.mk 1 0 0 0 0 (Ll.mk ([(aH.mk ([]) 1)])) (Ll.mk ([])) (Ll.mk ([])) 0 0 (bI.mk ([]) ([])) (eU.mk 0 0 0 (bI.mk ([]) ([]))))=q:=⟨_,rfl⟩
 obtain⟨dY,az,dw,aA,aB⟩:=zt Y
 refine cl Tryz.call7 (kg _ _ (bP.mk 1 0 0 0 0 (Ll.mk ([(aH.mk ([]) 1)])) (Ll.mk ([])) (Ll.mk ([])) 0 0 (bI.mk ([]) ([])) (eU.mk 0 0 0 (bI.mk ([]) ([])))) F 1 1 none 0 0 [] none 0 0 s A az rfl (aB _ 0 _ rfl eP) (by first | exact⟨Ca rfl,Ca rfl⟩ | omega | exact⟨Nat.le_refl _,by omega⟩) rfl rfl (fun _ _=>bn.nil _ _ _) (by first | exact⟨Ca rfl,Ca rfl⟩ | omega | exact⟨Nat.le_refl _,by omega⟩) (fun _ h9=>absurd h9 List.not_mem_nil) rfl (fun _ _=>bn.nil _ _ _) (by first | exact⟨Ca rfl,Ca rfl⟩ | omega | exact⟨Nat.le_refl _,by omega⟩) (by first | omega | (dsimp only; omega) | (simp only [List.length_nil]; omega) | decide) (by(simp [nE]; done)) m) ?_
 rintro _ dZ ⟨Z,aa,rfl,aD,L⟩
 have aF:=aA _ _ aD
 have dx:=aF.rowC (i:=0) rfl
 replace L:s.length≤100000:=L
 refine Mz rfl (Kz (.slice Z s.length aa) (Kz (.int .i64 A) (Az rfl (Ar rfl (Mz rfl (Kz (.agg #[.int .i64 2, .int .u64 1, .int .u64 0, .int .u64 0, .slice F 1 1, .slice none 0 0, .slice none 0 0]) ?_))))))
 obtain⟨⟨u,B⟩,n⟩:∃ q:(List UInt8) × Int,gp (bK.mk 2 1 0 0 (Ll.mk ([(aH.mk ([]) 1)])) (Ll.mk ([])) (Ll.mk ([])))=q:=⟨_,rfl⟩
 obtain⟨d9,aG,dz,aI,aJ⟩:=zt aF
 refine cl Tryz.call9 (ko _ _ (bK.mk 2 1 0 0 (Ll.mk ([(aH.mk ([]) 1)])) (Ll.mk ([])) (Ll.mk ([]))) F 1 1 none 0 0 [] none 0 0 [] u B aG rfl (aJ _ 1 _ rfl eP) (by first | exact⟨Ca rfl,Ca rfl⟩ | omega | exact⟨Nat.le_refl _,by omega⟩) rfl rfl (fun _ _=>bn.nil _ _ _) (by first | exact⟨Ca rfl,Ca rfl⟩ | omega | exact⟨Nat.le_refl _,by omega⟩) (fun _ h9=>absurd h9 List.not_mem_nil) rfl rfl (fun _ _=>bn.nil _ _ _) (by first | exact⟨Ca rfl,Ca rfl⟩ | omega | exact⟨Nat.le_refl _,by omega⟩) (fun _ h9=>absurd h9 List.not_mem_nil) (by first | omega | (dsimp only; omega) | (simp only [List.length_nil]; omega) | decide) (by(simp [nG]; done)) n) ?_
 rintro _ ed ⟨af,ag,rfl,aK,M⟩
 have aL:=aI _ _ aK
 have dA:=aL.rowC (i:=0) rfl
 replace M:u.length≤100000:=M
 refine Mz rfl (Kz (.slice af u.length ag) (Kz (.int .i64 B) (Az rfl (An rfl (ze ?_)))))
 have aM:=aL.pk [0,1]
 refine zb (Mz rfl ?_)
 have dB:=aM.rowC (i:=1) rfl
 obtain⟨⟨x,C⟩,o⟩:∃ q:bP × Int,bL s=q:=⟨_,rfl⟩
 obtain⟨ek,aN,dD,aO,aP⟩:=zt aM
 refine cl Tryz.call15 (kr _ _ Z s.length aa s x C aN (aP _ 1 _ rfl eP) rfl (by omega) (by first | omega | (simp only [List.length_take,List.length_drop]; omega) | exact Nat.le_refl _) o) ?_
 rintro _ eu ⟨aQ,aR,aS,aT,aU,aV,eB,rfl,aW,aX,N⟩
 have J:=aO _ _ aW
 have dG:=bS aX
 have dH:=J.rowC (i:=0) rfl
 have dI:=J.rowC (i:=1) rfl
 have dJ:=J.rowC (i:=3) rfl
 replace N:x.ag.ls.length≤1000∧x.aD.ls.length≤1000∧x.aj.ls.length≤1000:=N
 refine Mz rfl (Kz (.agg (bQ x aQ aR aS aT aU aV).toArray) (Kz (.int .i64 C) ?_))
 refine dC (bM 0 0 0 0 0 none 0 0 none 0 0 none 0 0 0 0 ([]) ([]) 0 0 0 ([]) ([])) 31 J ?_
 intro bV eD bW
 refine df (bQ x aQ aR aS aT aU aV) 0 bW Tryz.sizeOf31 ?_
 intro eF aY
 refine Ar rfl (Mz rfl ?_)
 have dK:=aY.rowC (i:=5) rfl
 obtain⟨⟨d,E⟩,p⟩:∃ q:bK × Int,bE u=q:=⟨_,rfl⟩
 obtain⟨eG,aZ,dL,bf,bg⟩:=zt aY
 refine cl Tryz.call17 (jJ _ _ af u.length ag u d E aZ (bg _ 5 _ rfl eP) rfl (by omega) (by first | omega | (simp only [List.length_take,List.length_drop]; omega) | exact Nat.le_refl _) p) ?_
 rintro _ eH ⟨bi,bq,bu,O,P,Q,dM,dN,rfl,bv,ah,ai,G⟩
 have K:=bf _ _ bv
 have bX:=bS ah
 have bY:=bS ai
 have bZ:=K.rowC (i:=0) rfl
 have cu:=K.rowC (i:=1) rfl
 have cz:=K.rowC (i:=3) rfl
 replace G:d.ag.ls.length≤1000∧d.ai.ls.length≤1000∧d.aG.ls.length≤1000:=G
 refine Mz rfl (Kz (.agg #[.int .i64 d.af, .int .u64 ((d.au:Nat):Int), .int .u64 ((d.aY:Nat):Int), .int .u64 ((d.aK:Nat):Int), .slice bi d.ag.ls.length bq, .slice bu d.ai.ls.length O, .slice P d.aG.ls.length Q]) (Kz (.int .i64 E) ?_))
 refine dC [.int .i64 0, .int .u64 0, .int .u64 0, .int .u64 0, .slice none 0 0, .slice none 0 0, .slice none 0 0] 35 K ?_
 intro bz dO bA
 refine df [.int .i64 d.af, .int .u64 ((d.au:Nat):Int), .int .u64 ((d.aY:Nat):Int), .int .u64 ((d.aK:Nat):Int), .slice bi d.ag.ls.length bq, .slice bu d.ai.ls.length O, .slice P d.aG.ls.length Q] 0 bA Tryz.sizeOf35 ?_
 intro dP R
 refine Ar rfl (Mz rfl ?_)
 have cB:=R.rowC (i:=12) rfl
 obtain⟨⟨a,y⟩,f⟩:∃ q:bK × Int,bE s=q:=⟨_,rfl⟩
 obtain⟨dQ,aj,cK,ak,au⟩:=zt R
 refine cl Tryz.call17 (jJ _ _ Z s.length aa s a y aj (au _ 12 _ rfl eP) rfl (by omega) (by first | omega | (simp only [List.length_take,List.length_drop]; omega) | exact Nat.le_refl _) f) ?_
 rintro _ dR ⟨S,T,U,V,W,X,dS,dU,rfl,av,ax,ay,I⟩
 have z:=ak _ _ av
 have cO:=bS ax
 have cZ:=bS ay
 have dh:=z.rowC (i:=0) rfl
 have di:=z.rowC (i:=1) rfl
 have dm:=z.rowC (i:=3) rfl
 replace I:a.ag.ls.length≤1000∧a.ai.ls.length≤1000∧a.aG.ls.length≤1000:=I
 refine Mz rfl (Kz (.agg #[.int .i64 a.af, .int .u64 ((a.au:Nat):Int), .int .u64 ((a.aY:Nat):Int), .int .u64 ((a.aK:Nat):Int), .slice S a.ag.ls.length T, .slice U a.ai.ls.length V, .slice W a.aG.ls.length X]) (Kz (.int .i64 y) ?_))
 refine dC [.int .i64 0, .int .u64 0, .int .u64 0, .int .u64 0, .slice none 0 0, .slice none 0 0, .slice none 0 0] 35 z ?_
 intro dV dW bB
 refine df [.int .i64 a.af, .int .u64 ((a.au:Nat):Int), .int .u64 ((a.aY:Nat):Int), .int .u64 ((a.aK:Nat):Int), .slice S a.ag.ls.length T, .slice U a.ai.ls.length V, .slice W a.aG.ls.length X] 0 bB Tryz.sizeOf35 ?_
 intro dX bC
 refine An rfl (ze ?_)
 have g:=bC.pk [6,7,8,9,10,11,12,13,14,15,16,17,18]
 refine zb (Mz rfl (fw (.string ⟨List.toArray s⟩) (Ai (l:=s) Tryz.underlying37 Tryz.underlying5 Tryz.underlying9 (g.rds (i:=12) rfl) rfl) (fw (.bool (decide (s=([83,1,0,0,0,0,1,0,1,0,0,0,0,0,0,0,0,0,0,0])))) (Au rfl rfl) (Mz rfl ?_))))
 by_cases c:s=([83,1,0,0,0,0,1,0,1,0,0,0,0,0,0,0,0,0,0,0])
 refine gw (.int .i64 A) (dT c) (zo rfl) (Gz (.bool (decide (A=0))) (dT c) (fw (.bool (decide (A=0))) (zf rfl (dT c) rfl) (Mz rfl ?_)))
 by_cases b:A=0
 refine gw (.slice af u.length ag) (dT b) (zo rfl) (gw (.string ⟨List.toArray u⟩) (dT b) (Ai (l:=u) Tryz.underlying37 Tryz.underlying5 Tryz.underlying9 (g.rds (i:=11) rfl) rfl) (gw (.bool (decide (u=([67,2,1,0,0,1,0,1,0,0])))) (dT b) (Au rfl rfl) (fw (.bool (decide (u=([67,2,1,0,0,1,0,1,0,0])))) (zf rfl (dT b) rfl) (Mz rfl ?_))))
 by_cases h:u=([67,2,1,0,0,1,0,1,0,0])
 refine gw (.int .i64 B) (dT h) (zo rfl) (Gz (.bool (decide (B=0))) (dT h) (fw (.bool (decide (B=0))) (zf rfl (dT h) rfl) (Mz rfl ?_)))
 by_cases e:B=0
 refine Gz (.pointer (some ⟨bV,0,none⟩)) (dT e) (Gl (.int .i64 x.iw) (dT e) g 6 Tryz.isAgg3 (Gz (.bool (decide (x.iw=1))) (dT e) (fw (.bool (decide (x.iw=1))) (zf rfl (dT e) rfl) (Mz rfl ?_))))
 by_cases k:x.iw=1
 refine gw (.int .i64 C) (dT k) (zo rfl) (Gz (.bool (decide (C=0))) (dT k) (fw (.bool (decide (C=0))) (zf rfl (dT k) rfl) (Mz rfl ?_)))
 by_cases j:C=0
 refine Gz (.pointer (some ⟨bz,1,none⟩)) (dT j) (Gl (.int .u64 ((d.au:Nat):Int)) (dT j) g 0 Tryz.isAgg22 (Gz (.bool (decide (((d.au:Nat):Int)=1))) (dT j) (fw (.bool (decide (((d.au:Nat):Int)=1))) (zf rfl (dT j) rfl) (Mz rfl ?_))))
 by_cases r:((d.au:Nat):Int)=1
 refine gw (.int .i64 E) (dT r) (zo rfl) (Gz (.bool (decide (E=0))) (dT r) (fw (.bool (decide (E=0))) (zf rfl (dT r) rfl) (Mz rfl ?_)))
 by_cases t:E=0
 refine gw (.int .i64 y) (dT t) (zo rfl) (Gz (.bool (decide (y=11))) (dT t) (fw (.bool (decide (y=11))) (zf rfl (dT t) rfl) (An rfl (rt (rs ?_)))))
 have bD:=g.pk []
 obtain rfl:_=decide (y=11):=hr.symm.trans (et (ae m) (et (ae n) (et (ae o) (et (ae p) (et (ae f) (et (ip c) (et (ip b) (et (ip h) (et (ip e) (et (ip k) (et (ip j) (et (ip r) (ip t)))))))))))))
 exact⟨rfl,bD⟩
 refine Sz (dF t) (Sz (dF t) (fw (.bool false) (zh rfl (dF t) rfl) (An rfl (rt (rs ?_)))))
 have bF:=g.pk []
 obtain rfl:_=false:=hr.symm.trans (et (ae m) (et (ae n) (et (ae o) (et (ae p) (et (ae f) (et (ip c) (et (ip b) (et (ip h) (et (ip e) (et (ip k) (et (ip j) (et (ip r) (iN t)))))))))))))
 exact⟨rfl,bF⟩
 refine Sz (dF r) (Sz (dF r) (fw (.bool false) (zh rfl (dF r) rfl) (Mz rfl (Sz rfl (Sz rfl (fw (.bool false) (zh rfl rfl rfl) (An rfl (rt (rs ?_)))))))))
 have bG:=g.pk []
 obtain rfl:_=false:=hr.symm.trans (et (ae m) (et (ae n) (et (ae o) (et (ae p) (et (ae f) (et (ip c) (et (ip b) (et (ip h) (et (ip e) (et (ip k) (et (ip j) (iN r))))))))))))
 exact⟨rfl,bG⟩
 refine Sz (dF j) (Sz (dF j) (Sz (dF j) (fw (.bool false) (zh rfl (dF j) rfl) (Mz rfl (Sz rfl (Sz rfl (fw (.bool false) (zh rfl rfl rfl) (Mz rfl (Sz rfl (Sz rfl (fw (.bool false) (zh rfl rfl rfl) (An rfl (rt (rs ?_))))))))))))))
 have bH:=g.pk []
 obtain rfl:_=false:=hr.symm.trans (et (ae m) (et (ae n) (et (ae o) (et (ae p) (et (ae f) (et (ip c) (et (ip b) (et (ip h) (et (ip e) (et (ip k) (iN j)))))))))))
 exact⟨rfl,bH⟩
 refine Sz (dF k) (Sz (dF k) (fw (.bool false) (zh rfl (dF k) rfl) (Mz rfl (Sz rfl (Sz rfl (Sz rfl (fw (.bool false) (zh rfl rfl rfl) (Mz rfl (Sz rfl (Sz rfl (fw (.bool false) (zh rfl rfl rfl) (Mz rfl (Sz rfl (Sz rfl (fw (.bool false) (zh rfl rfl rfl) (An rfl (rt (rs ?_))))))))))))))))))
 have bJ:=g.pk []
 obtain rfl:_=false:=hr.symm.trans (et (ae m) (et (ae n) (et (ae o) (et (ae p) (et (ae f) (et (ip c) (et (ip b) (et (ip h) (et (ip e) (iN k))))))))))
 exact⟨rfl,bJ⟩
 refine Sz (dF e) (Sz (dF e) (Sz (dF e) (fw (.bool false) (zh rfl (dF e) rfl) (Mz rfl (Sz rfl (Sz rfl (fw (.bool false) (zh rfl rfl rfl) (Mz rfl (Sz rfl (Sz rfl (Sz rfl (fw (.bool false) (zh rfl rfl rfl) (Mz rfl (Sz rfl (Sz rfl (fw (.bool false) (zh rfl rfl rfl) (Mz rfl (Sz rfl (Sz rfl (fw (.bool false) (zh rfl rfl rfl) (An rfl (rt (rs ?_)))))))))))))))))))))))
 have bN:=g.pk []
 obtain rfl:_=false:=hr.symm.trans (et (ae m) (et (ae n) (et (ae o) (et (ae p) (et (ae f) (et (ip c) (et (ip b) (et (ip h) (iN e)))))))))
 exact⟨rfl,bN⟩
 refine Sz (dF h) (Sz (dF h) (fw (.bool false) (zh rfl (dF h) rfl) (Mz rfl (Sz rfl (Sz rfl (Sz rfl (fw (.bool false) (zh rfl rfl rfl) (Mz rfl (Sz rfl (Sz rfl (fw (.bool false) (zh rfl rfl rfl) (Mz rfl (Sz rfl (Sz rfl (Sz rfl (fw (.bool false) (zh rfl rfl rfl) (Mz rfl (Sz rfl (Sz rfl (fw (.bool false) (zh rfl rfl rfl) (Mz rfl (Sz rfl (Sz rfl (fw (.bool false) (zh rfl rfl rfl) (An rfl (rt (rs ?_)))))))))))))))))))))))))))
 have bO:=g.pk []
 obtain rfl:_=false:=hr.symm.trans (et (ae m) (et (ae n) (et (ae o) (et (ae p) (et (ae f) (et (ip c) (et (ip b) (iN h))))))))
 exact⟨rfl,bO⟩
 refine Sz (dF b) (Sz (dF b) (Sz (dF b) (fw (.bool false) (zh rfl (dF b) rfl) (Mz rfl (Sz rfl (Sz rfl (fw (.bool false) (zh rfl rfl rfl) (Mz rfl (Sz rfl (Sz rfl (Sz rfl (fw (.bool false) (zh rfl rfl rfl) (Mz rfl (Sz rfl (Sz rfl (fw (.bool false) (zh rfl rfl rfl) (Mz rfl (Sz rfl (Sz rfl (Sz rfl (fw (.bool false) (zh rfl rfl rfl) (Mz rfl (Sz rfl (Sz rfl (fw (.bool false) (zh rfl rfl rfl) (Mz rfl (Sz rfl (Sz rfl (fw (.bool false) (zh rfl rfl rfl) (An rfl (rt (rs ?_))))))))))))))))))))))))))))))))
 have bR:=g.pk []
 obtain rfl:_=false:=hr.symm.trans (et (ae m) (et (ae n) (et (ae o) (et (ae p) (et (ae f) (et (ip c) (iN b)))))))
 exact⟨rfl,bR⟩
 refine Sz (dF c) (Sz (dF c) (fw (.bool false) (zh rfl (dF c) rfl) (Mz rfl (Sz rfl (Sz rfl (Sz rfl (fw (.bool false) (zh rfl rfl rfl) (Mz rfl (Sz rfl (Sz rfl (fw (.bool false) (zh rfl rfl rfl) (Mz rfl (Sz rfl (Sz rfl (Sz rfl (fw (.bool false) (zh rfl rfl rfl) (Mz rfl (Sz rfl (Sz rfl (fw (.bool false) (zh rfl rfl rfl) (Mz rfl (Sz rfl (Sz rfl (Sz rfl (fw (.bool false) (zh rfl rfl rfl) (Mz rfl (Sz rfl (Sz rfl (fw (.bool false) (zh rfl rfl rfl) (Mz rfl (Sz rfl (Sz rfl (fw (.bool false) (zh rfl rfl rfl) (An rfl (rt (rs ?_))))))))))))))))))))))))))))))))))))
 have bT:=g.pk []
 obtain rfl:_=false:=hr.symm.trans (et (ae m) (et (ae n) (et (ae o) (et (ae p) (et (ae f) (iN c))))))
 exact⟨rfl,bT⟩
end Go.Proofs.YtcnkpjheifkgnaaGreat
