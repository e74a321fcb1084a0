/-
 record: the chapter's examples.
-/
import Derived.Test.YtcnkpjheifkgnaaGreatRc
import Derived.Test.YtcnkpjheifkgnaaGreatRcW
import Derived.Test.YtcnkpjheifkgnaaGreatRcA
namespace Go.Proofs.YtcnkpjheifkgnaaGreat
set_option maxRecDepth 100000
open Go.RowKit
set_option linter.unusedVariables false
set_option linter.unusedSectionVars false
set_option linter.unusedSimpArgs false
def oI:Bool:=
 bnd (ik (bQ.mk 1 0 0 0 0 (Ll.mk ([(aL.mk ([]) 1)])) (Ll.mk ([])) (Ll.mk ([])) 0 0 (bF.mk ([]) ([])) (gp.mk 0 0 0 (bF.mk ([]) ([]))))) fun a=>bnd (il (bI.mk 2 1 0 0 (Ll.mk ([(aL.mk ([]) 1)])) (Ll.mk ([])) (Ll.mk ([])))) fun b=>bnd (iH a.1) fun c=>bnd (gB b.1) fun d=>bnd (gB a.1) fun e=>if a.1=([83,1,0,0,0,0,1,0,1,0,0,0,0,0,0,0,0,0,0,0]) then if a.2=0 then if b.1=([67,2,1,0,0,1,0,1,0,0]) then if b.2=0 then if c.1.cO=1 then if c.2=0 then if((d.1.aj:Nat):Int)=1 then if d.2=0 then decide (e.2=11) else false else false else false else false else false else false else false else false
set_option maxHeartbeats 4000000 in
theorem uK (w:World) (D:Nat→Prop) (r0:Bool) (H:Own w D w []) (hr:oI=r0):
    Calls Tryz.prog 6 #[] w (dE fun v w'=>v= .bool r0∧Own w D w' []):=by
 refine Ce (args:= []) Tryz.func6 rfl rfl rfl ?_
 show Wp _ _ _ [] _ _
 refine sr (Ar rfl (Kz (.agg #[.string ⟨List.toArray ([])⟩, .int .i64 1]) ?_))
 refine ji [.string ⟨List.toArray ([])⟩, .int .i64 1] 54 2 1 H ?_
 intro F bP Y
 replace Y:Own w D bP [row F 1 1 (List.flatMap aL.cells ([(aL.mk ([]) 1)])) 54 2]:=Y
 refine Ar rfl (Mz rfl (Kz (.agg (bZ 1 0 0 0 0 F 1 1 none 0 0 none 0 0 0 0 ([]) ([]) 0 0 0 ([]) ([])).toArray) ?_))
 obtain⟨⟨s,A⟩,m⟩:∃ q:(List UInt8) × Int,ik (bQ.mk 1 0 0 0 0 (Ll.mk ([(aL.mk ([]) 1)])) (Ll.mk ([])) (Ll.mk ([])) 0 0 (bF.mk ([]) ([])) (gp.mk 0 0 0 (bF.mk ([]) ([]))))=q:=⟨_,rfl⟩
 obtain⟨dW,az,dh,aA,aB⟩:=Ck Y
 refine cl Tryz.call7 (mV _ _ (bQ.mk 1 0 0 0 0 (Ll.mk ([(aL.mk ([]) 1)])) (Ll.mk ([])) (Ll.mk ([])) 0 0 (bF.mk ([]) ([])) (gp.mk 0 0 0 (bF.mk ([]) ([])))) F 1 1 none 0 0 [] none 0 0 s A az rfl (aB _ 0 _ rfl eH) (by first | exact⟨EK rfl,EK rfl⟩ | omega | exact⟨Nat.le_refl _,by omega⟩) rfl rfl (fun _ _=>bG.nil _ _ _) (by first | exact⟨EK rfl,EK rfl⟩ | omega | exact⟨Nat.le_refl _,by omega⟩) (fun _ h9=>absurd h9 List.not_mem_nil) rfl (fun _ _=>bG.nil _ _ _) (by first | exact⟨EK rfl,EK rfl⟩ | omega | exact⟨Nat.le_refl _,by omega⟩) (by first | omega | (dsimp only; omega) | (simp only [List.length_nil]; omega) | decide) (by(simp [rZ]; done)) m) ?_
 rintro _ dX ⟨Z,aa,rfl,aD,L⟩
 have aF:=aA _ _ aD
 have di:=aF.rowC (i:=0) rfl
 replace L:s.length≤100000:=L
 refine Mz rfl (Kz (.slice Z s.length aa) (Kz (.int .i64 A) (Az rfl (Ar rfl (Mz rfl (Kz (.agg #[.int .i64 2, .int .u64 1, .int .u64 0, .int .u64 0, .slice F 1 1, .slice none 0 0, .slice none 0 0]) ?_))))))
 obtain⟨⟨u,B⟩,n⟩:∃ q:(List UInt8) × Int,il (bI.mk 2 1 0 0 (Ll.mk ([(aL.mk ([]) 1)])) (Ll.mk ([])) (Ll.mk ([])))=q:=⟨_,rfl⟩
 obtain⟨dY,aG,dn,aH,aI⟩:=Ck aF
 refine cl Tryz.call9 (mW _ _ (bI.mk 2 1 0 0 (Ll.mk ([(aL.mk ([]) 1)])) (Ll.mk ([])) (Ll.mk ([]))) F 1 1 none 0 0 [] none 0 0 [] u B aG rfl (aI _ 1 _ rfl eH) (by first | exact⟨EK rfl,EK rfl⟩ | omega | exact⟨Nat.le_refl _,by omega⟩) rfl rfl (fun _ _=>bG.nil _ _ _) (by first | exact⟨EK rfl,EK rfl⟩ | omega | exact⟨Nat.le_refl _,by omega⟩) (fun _ h9=>absurd h9 List.not_mem_nil) rfl rfl (fun _ _=>bG.nil _ _ _) (by first | exact⟨EK rfl,EK rfl⟩ | omega | exact⟨Nat.le_refl _,by omega⟩) (fun _ h9=>absurd h9 List.not_mem_nil) (by first | omega | (dsimp only; omega) | (simp only [List.length_nil]; omega) | decide) (by(simp [r9]; done)) n) ?_
 rintro _ dZ ⟨ae,af,rfl,aJ,M⟩
 have aK:=aH _ _ aJ
 have dx:=aK.rowC (i:=0) rfl
 replace M:u.length≤100000:=M
 refine Mz rfl (Kz (.slice ae u.length af) (Kz (.int .i64 B) (Az rfl (An rfl (BS ?_)))))
 have aM:=aK.pk [0,1]
 refine BR (Mz rfl ?_)
 have dz:=aM.rowC (i:=1) rfl
 obtain⟨⟨x,C⟩,o⟩:∃ q:bQ × Int,iH s=q:=⟨_,rfl⟩
 obtain⟨d9,aN,dA,aO,aP⟩:=Ck aM
 refine cl Tryz.call15 (pG _ _ Z s.length aa s x C aN (aP _ 1 _ rfl eH) rfl (by omega) (by first | omega | (simp only [List.length_take,List.length_drop]; omega) | exact Nat.le_refl _) o) ?_
 rintro _ ed ⟨aQ,aR,aS,aT,aU,aV,ek,rfl,aW,aY,N⟩
 have J:=aO _ _ aW
 have dC:=dm aY
 have dD:=J.rowC (i:=0) rfl
 have dG:=J.rowC (i:=1) rfl
 have dH:=J.rowC (i:=3) rfl
 replace N:x.ai.ls.length≤1000∧x.az.ls.length≤1000∧x.ah.ls.length≤1000:=N
 refine Mz rfl (Kz (.agg (aX x aQ aR aS aT aU aV).toArray) (Kz (.int .i64 C) ?_))
 refine dB (bZ 0 0 0 0 0 none 0 0 none 0 0 none 0 0 0 0 ([]) ([]) 0 0 0 ([]) ([])) 31 J ?_
 intro bR eu bS
 refine dw (aX x aQ aR aS aT aU aV) 0 bS Tryz.sizeOf31 ?_
 intro eB aZ
 refine Ar rfl (Mz rfl ?_)
 have dI:=aZ.rowC (i:=5) rfl
 obtain⟨⟨d,E⟩,p⟩:∃ q:bI × Int,gB u=q:=⟨_,rfl⟩
 obtain⟨eD,bf,dJ,bg,bi⟩:=Ck aZ
 refine cl Tryz.call17 (mX _ _ ae u.length af u d E bf (bi _ 5 _ rfl eH) rfl (by omega) (by first | omega | (simp only [List.length_take,List.length_drop]; omega) | exact Nat.le_refl _) p) ?_
 rintro _ eF ⟨bn,bq,bu,O,P,Q,dK,dL,rfl,bv,ah,ai,G⟩
 have K:=bg _ _ bv
 have bT:=dm ah
 have bU:=dm ai
 have bV:=K.rowC (i:=0) rfl
 have bW:=K.rowC (i:=1) rfl
 have bX:=K.rowC (i:=3) rfl
 replace G:d.ai.ls.length≤1000∧d.af.ls.length≤1000∧d.aB.ls.length≤1000:=G
 refine Mz rfl (Kz (.agg #[.int .i64 d.aa, .int .u64 ((d.aj:Nat):Int), .int .u64 ((d.aR:Nat):Int), .int .u64 ((d.aH:Nat):Int), .slice bn d.ai.ls.length bq, .slice bu d.af.ls.length O, .slice P d.aB.ls.length Q]) (Kz (.int .i64 E) ?_))
 refine dB [.int .i64 0, .int .u64 0, .int .u64 0, .int .u64 0, .slice none 0 0, .slice none 0 0, .slice none 0 0] 35 K ?_
 intro bz dM bA
 refine dw [.int .i64 d.aa, .int .u64 ((d.aj:Nat):Int), .int .u64 ((d.aR:Nat):Int), .int .u64 ((d.aH:Nat):Int), .slice bn d.ai.ls.length bq, .slice bu d.af.ls.length O, .slice P d.aB.ls.length Q] 0 bA Tryz.sizeOf35 ?_
 intro dN R
 refine Ar rfl (Mz rfl ?_)
 have bY:=R.rowC (i:=12) rfl
 obtain⟨⟨a,y⟩,f⟩:∃ q:bI × Int,gB s=q:=⟨_,rfl⟩
 obtain⟨dO,aj,cu,ak,au⟩:=Ck R
 refine cl Tryz.call17 (mX _ _ Z s.length aa s a y aj (au _ 12 _ rfl eH) rfl (by omega) (by first | omega | (simp only [List.length_take,List.length_drop]; omega) | exact Nat.le_refl _) f) ?_
 rintro _ dP ⟨S,T,U,V,W,X,dQ,dR,rfl,av,ax,ay,I⟩
 have z:=ak _ _ av
 have cz:=dm ax
 have cB:=dm ay
 have cK:=z.rowC (i:=0) rfl
 have cO:=z.rowC (i:=1) rfl
 have cZ:=z.rowC (i:=3) rfl
 replace I:a.ai.ls.length≤1000∧a.af.ls.length≤1000∧a.aB.ls.length≤1000:=I
 refine Mz rfl (Kz (.agg #[.int .i64 a.aa, .int .u64 ((a.aj:Nat):Int), .int .u64 ((a.aR:Nat):Int), .int .u64 ((a.aH:Nat):Int), .slice S a.ai.ls.length T, .slice U a.af.ls.length V, .slice W a.aB.ls.length X]) (Kz (.int .i64 y) ?_))
 refine dB [.int .i64 0, .int .u64 0, .int .u64 0, .int .u64 0, .slice none 0 0, .slice none 0 0, .slice none 0 0] 35 z ?_
 intro dS dU bB
 refine dw [.int .i64 a.aa, .int .u64 ((a.aj:Nat):Int), .int .u64 ((a.aR:Nat):Int), .int .u64 ((a.aH:Nat):Int), .slice S a.ai.ls.length T, .slice U a.af.ls.length V, .slice W a.aB.ls.length X] 0 bB Tryz.sizeOf35 ?_
 intro dV bC
 refine An rfl (BS ?_)
 have g:=bC.pk [6,7,8,9,10,11,12,13,14,15,16,17,18]
 refine BR (Mz rfl (fw (.string ⟨List.toArray s⟩) (Db (l:=s) Tryz.underlying37 Tryz.underlying5 Tryz.underlying9 (g.rds (i:=12) rfl) rfl) (fw (.bool (decide (s=([83,1,0,0,0,0,1,0,1,0,0,0,0,0,0,0,0,0,0,0])))) (DV rfl rfl) (Mz rfl ?_))))
 by_cases c:s=([83,1,0,0,0,0,1,0,1,0,0,0,0,0,0,0,0,0,0,0])
 refine gw (.int .i64 A) (dT c) (BX rfl) (Gz (.bool (decide (A=0))) (dT c) (fw (.bool (decide (A=0))) (BZ rfl (dT c) rfl) (Mz rfl ?_)))
 by_cases b:A=0
 refine gw (.slice ae u.length af) (dT b) (BX rfl) (gw (.string ⟨List.toArray u⟩) (dT b) (Db (l:=u) Tryz.underlying37 Tryz.underlying5 Tryz.underlying9 (g.rds (i:=11) rfl) rfl) (gw (.bool (decide (u=([67,2,1,0,0,1,0,1,0,0])))) (dT b) (DV rfl rfl) (fw (.bool (decide (u=([67,2,1,0,0,1,0,1,0,0])))) (BZ rfl (dT b) rfl) (Mz rfl ?_))))
 by_cases h:u=([67,2,1,0,0,1,0,1,0,0])
 refine gw (.int .i64 B) (dT h) (BX rfl) (Gz (.bool (decide (B=0))) (dT h) (fw (.bool (decide (B=0))) (BZ rfl (dT h) rfl) (Mz rfl ?_)))
 by_cases e:B=0
 refine Gz (.pointer (some ⟨bR,0,none⟩)) (dT e) (Gl (.int .i64 x.cO) (dT e) g 6 Tryz.isAgg3 (Gz (.bool (decide (x.cO=1))) (dT e) (fw (.bool (decide (x.cO=1))) (BZ rfl (dT e) rfl) (Mz rfl ?_))))
 by_cases k:x.cO=1
 refine gw (.int .i64 C) (dT k) (BX rfl) (Gz (.bool (decide (C=0))) (dT k) (fw (.bool (decide (C=0))) (BZ rfl (dT k) rfl) (Mz rfl ?_)))
 by_cases j:C=0
 refine Gz (.pointer (some ⟨bz,1,none⟩)) (dT j) (Gl (.int .u64 ((d.aj:Nat):Int)) (dT j) g 0 Tryz.isAgg22 (Gz (.bool (decide (((d.aj:Nat):Int)=1))) (dT j) (fw (.bool (decide (((d.aj:Nat):Int)=1))) (BZ rfl (dT j) rfl) (Mz rfl ?_))))
 by_cases r:((d.aj:Nat):Int)=1
 refine gw (.int .i64 E) (dT r) (BX rfl) (Gz (.bool (decide (E=0))) (dT r) (fw (.bool (decide (E=0))) (BZ rfl (dT r) rfl) (Mz rfl ?_)))
 by_cases t:E=0
 refine gw (.int .i64 y) (dT t) (BX rfl) (Gz (.bool (decide (y=11))) (dT t) (fw (.bool (decide (y=11))) (BZ rfl (dT t) rfl) (An rfl (rt (rs ?_)))))
 have bD:=g.pk []
 obtain rfl:_=decide (y=11):=hr.symm.trans (et (ag m) (et (ag n) (et (ag o) (et (ag p) (et (ag f) (et (ip c) (et (ip b) (et (ip h) (et (ip e) (et (ip k) (et (ip j) (et (ip r) (ip t)))))))))))))
 exact⟨rfl,bD⟩
 refine Sz (dF t) (Sz (dF t) (fw (.bool false) (BQ rfl (dF t) rfl) (An rfl (rt (rs ?_)))))
 have bE:=g.pk []
 obtain rfl:_=false:=hr.symm.trans (et (ag m) (et (ag n) (et (ag o) (et (ag p) (et (ag f) (et (ip c) (et (ip b) (et (ip h) (et (ip e) (et (ip k) (et (ip j) (et (ip r) (iN t)))))))))))))
 exact⟨rfl,bE⟩
 refine Sz (dF r) (Sz (dF r) (fw (.bool false) (BQ rfl (dF r) rfl) (Mz rfl (Sz rfl (Sz rfl (fw (.bool false) (BQ rfl rfl rfl) (An rfl (rt (rs ?_)))))))))
 have bH:=g.pk []
 obtain rfl:_=false:=hr.symm.trans (et (ag m) (et (ag n) (et (ag o) (et (ag p) (et (ag f) (et (ip c) (et (ip b) (et (ip h) (et (ip e) (et (ip k) (et (ip j) (iN r))))))))))))
 exact⟨rfl,bH⟩
 refine Sz (dF j) (Sz (dF j) (Sz (dF j) (fw (.bool false) (BQ rfl (dF j) rfl) (Mz rfl (Sz rfl (Sz rfl (fw (.bool false) (BQ rfl rfl rfl) (Mz rfl (Sz rfl (Sz rfl (fw (.bool false) (BQ rfl rfl rfl) (An rfl (rt (rs ?_))))))))))))))
 have bJ:=g.pk []
 obtain rfl:_=false:=hr.symm.trans (et (ag m) (et (ag n) (et (ag o) (et (ag p) (et (ag f) (et (ip c) (et (ip b) (et (ip h) (et (ip e) (et (ip k) (iN j)))))))))))
 exact⟨rfl,bJ⟩
 refine Sz (dF k) (Sz (dF k) (fw (.bool false) (BQ rfl (dF k) rfl) (Mz rfl (Sz rfl (Sz rfl (Sz rfl (fw (.bool false) (BQ rfl rfl rfl) (Mz rfl (Sz rfl (Sz rfl (fw (.bool false) (BQ rfl rfl rfl) (Mz rfl (Sz rfl (Sz rfl (fw (.bool false) (BQ rfl rfl rfl) (An rfl (rt (rs ?_))))))))))))))))))
 have bK:=g.pk []
 obtain rfl:_=false:=hr.symm.trans (et (ag m) (et (ag n) (et (ag o) (et (ag p) (et (ag f) (et (ip c) (et (ip b) (et (ip h) (et (ip e) (iN k))))))))))
 exact⟨rfl,bK⟩
 refine Sz (dF e) (Sz (dF e) (Sz (dF e) (fw (.bool false) (BQ rfl (dF e) rfl) (Mz rfl (Sz rfl (Sz rfl (fw (.bool false) (BQ rfl rfl rfl) (Mz rfl (Sz rfl (Sz rfl (Sz rfl (fw (.bool false) (BQ rfl rfl rfl) (Mz rfl (Sz rfl (Sz rfl (fw (.bool false) (BQ rfl rfl rfl) (Mz rfl (Sz rfl (Sz rfl (fw (.bool false) (BQ rfl rfl rfl) (An rfl (rt (rs ?_)))))))))))))))))))))))
 have bL:=g.pk []
 obtain rfl:_=false:=hr.symm.trans (et (ag m) (et (ag n) (et (ag o) (et (ag p) (et (ag f) (et (ip c) (et (ip b) (et (ip h) (iN e)))))))))
 exact⟨rfl,bL⟩
 refine Sz (dF h) (Sz (dF h) (fw (.bool false) (BQ rfl (dF h) rfl) (Mz rfl (Sz rfl (Sz rfl (Sz rfl (fw (.bool false) (BQ rfl rfl rfl) (Mz rfl (Sz rfl (Sz rfl (fw (.bool false) (BQ rfl rfl rfl) (Mz rfl (Sz rfl (Sz rfl (Sz rfl (fw (.bool false) (BQ rfl rfl rfl) (Mz rfl (Sz rfl (Sz rfl (fw (.bool false) (BQ rfl rfl rfl) (Mz rfl (Sz rfl (Sz rfl (fw (.bool false) (BQ rfl rfl rfl) (An rfl (rt (rs ?_)))))))))))))))))))))))))))
 have bM:=g.pk []
 obtain rfl:_=false:=hr.symm.trans (et (ag m) (et (ag n) (et (ag o) (et (ag p) (et (ag f) (et (ip c) (et (ip b) (iN h))))))))
 exact⟨rfl,bM⟩
 refine Sz (dF b) (Sz (dF b) (Sz (dF b) (fw (.bool false) (BQ rfl (dF b) rfl) (Mz rfl (Sz rfl (Sz rfl (fw (.bool false) (BQ rfl rfl rfl) (Mz rfl (Sz rfl (Sz rfl (Sz rfl (fw (.bool false) (BQ rfl rfl rfl) (Mz rfl (Sz rfl (Sz rfl (fw (.bool false) (BQ rfl rfl rfl) (Mz rfl (Sz rfl (Sz rfl (Sz rfl (fw (.bool false) (BQ rfl rfl rfl) (Mz rfl (Sz rfl (Sz rfl (fw (.bool false) (BQ rfl rfl rfl) (Mz rfl (Sz rfl (Sz rfl (fw (.bool false) (BQ rfl rfl rfl) (An rfl (rt (rs ?_))))))))))))))))))))))))))))))))
 have bN:=g.pk []
 obtain rfl:_=false:=hr.symm.trans (et (ag m) (et (ag n) (et (ag o) (et (ag p) (et (ag f) (et (ip c) (iN b)))))))
 exact⟨rfl,bN⟩
 refine Sz (dF c) (Sz (dF c) (fw (.bool false) (BQ rfl (dF c) rfl) (Mz rfl (Sz rfl (Sz rfl (Sz rfl (fw (.bool false) (BQ rfl rfl rfl) (Mz rfl (Sz rfl (Sz rfl (fw (.bool false) (BQ rfl rfl rfl) (Mz rfl (Sz rfl (Sz rfl (Sz rfl (fw (.bool false) (BQ rfl rfl rfl) (Mz rfl (Sz rfl (Sz rfl (fw (.bool false) (BQ rfl rfl rfl) (Mz rfl (Sz rfl (Sz rfl (Sz rfl (fw (.bool false) (BQ rfl rfl rfl) (Mz rfl (Sz rfl (Sz rfl (fw (.bool false) (BQ rfl rfl rfl) (Mz rfl (Sz rfl (Sz rfl (fw (.bool false) (BQ rfl rfl rfl) (An rfl (rt (rs ?_))))))))))))))))))))))))))))))))))))
 have bO:=g.pk []
 obtain rfl:_=false:=hr.symm.trans (et (ag m) (et (ag n) (et (ag o) (et (ag p) (et (ag f) (iN c))))))
 exact⟨rfl,bO⟩
end Go.Proofs.YtcnkpjheifkgnaaGreat
