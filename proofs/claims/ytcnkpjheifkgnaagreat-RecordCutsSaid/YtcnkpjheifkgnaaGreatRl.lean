/-
 record: the chapter's examples.
-/
import Derived.Test.YtcnkpjheifkgnaaGreatRc
import Derived.Test.YtcnkpjheifkgnaaGreatRcW
import Derived.Test.YtcnkpjheifkgnaaGreatRcA
namespace Go.Proofs.YtcnkpjheifkgnaaGreat
set_option maxRecDepth 100000
open Go.RowKit
set_option linter.unusedVariables false
set_option linter.unusedSectionVars false
set_option linter.unusedSimpArgs false
def lY:Bool:=
 bnd (fV (bP.mk 1 0 0 0 0 (Ll.mk ([(aC.mk ([]) 1)])) (Ll.mk ([])) (Ll.mk ([])) 0 0 (bE.mk ([]) ([])) (eU.mk 0 0 0 (bE.mk ([]) ([]))))) fun a=>bnd (fZ (bL.mk 2 1 0 0 (Ll.mk ([(aC.mk ([]) 1)])) (Ll.mk ([])) (Ll.mk ([])))) fun b=>bnd (bQ a.1) fun c=>bnd (bW b.1) fun d=>bnd (bW a.1) fun e=>if a.1=([83,1,0,0,0,0,1,0,1,0,0,0,0,0,0,0,0,0,0,0]) then if a.2=0 then if b.1=([67,2,1,0,0,1,0,1,0,0]) then if b.2=0 then if c.1.iZ=1 then if c.2=0 then if((d.1.az:Nat):Int)=1 then if d.2=0 then decide (e.2=11) else false else false else false else false else false else false else false else false
set_option maxHeartbeats 4000000 in
theorem qX (w:World) (D:Nat→Prop) (r0:Bool) (H:Own w D w []) (hr:lY=r0):
    Calls Tryz.prog 6 #[] w (dC fun v w'=>v= .bool r0∧Own w D w' []):=by
 refine xU (args:= []) Tryz.func6 rfl rfl rfl ?_
 show Wp _ _ _ [] _ _
 refine sr (Ar rfl (Kz (.agg #[.string ⟨List.toArray ([])⟩, .int .i64 1]) ?_))
 refine jR [.string ⟨List.toArray ([])⟩, .int .i64 1] 54 2 1 H ?_
 intro F bR Y
 replace Y:Own w D bR [row F 1 1 (List.flatMap aC.cells ([(aC.mk ([]) 1)])) 54 2]:=Y
 refine Ar rfl (Mz rfl (Kz (.agg (bF 1 0 0 0 0 F 1 1 none 0 0 none 0 0 0 0 ([]) ([]) 0 0 0 ([]) ([])).toArray) ?_))
 obtain⟨⟨s,A⟩,m⟩:∃ q:(List UInt8) × Int,fV (bP.mk 1 0 0 0 0 (Ll.mk ([(aC.mk ([]) 1)])) (Ll.mk ([])) (Ll.mk ([])) 0 0 (bE.mk ([]) ([])) (eU.mk 0 0 0 (bE.mk ([]) ([]))))=q:=⟨_,rfl⟩
 obtain⟨dY,az,dn,aA,aB⟩:=yc Y
 refine cl Tryz.call7 (kJ _ _ (bP.mk 1 0 0 0 0 (Ll.mk ([(aC.mk ([]) 1)])) (Ll.mk ([])) (Ll.mk ([])) 0 0 (bE.mk ([]) ([])) (eU.mk 0 0 0 (bE.mk ([]) ([])))) F 1 1 none 0 0 [] none 0 0 s A az rfl (aB _ 0 _ rfl ig) (by first | exact⟨A7 rfl,A7 rfl⟩ | omega | exact⟨Nat.le_refl _,by omega⟩) rfl rfl (fun _ _=>bu.nil _ _ _) (by first | exact⟨A7 rfl,A7 rfl⟩ | omega | exact⟨Nat.le_refl _,by omega⟩) (fun _ h9=>absurd h9 List.not_mem_nil) rfl (fun _ _=>bu.nil _ _ _) (by first | exact⟨A7 rfl,A7 rfl⟩ | omega | exact⟨Nat.le_refl _,by omega⟩) (by first | omega | (dsimp only; omega) | (simp only [List.length_nil]; omega) | decide) (by(simp [o8]; done)) m) ?_
 rintro _ dZ ⟨Z,aa,rfl,aF,L⟩
 have aG:=aA _ _ aF
 have dw:=aG.rowC (i:=0) rfl
 replace L:s.length≤100000:=L
 refine Mz rfl (Kz (.slice Z s.length aa) (Kz (.int .i64 A) (Az rfl (Ar rfl (Mz rfl (Kz (.agg #[.int .i64 2, .int .u64 1, .int .u64 0, .int .u64 0, .slice F 1 1, .slice none 0 0, .slice none 0 0]) ?_))))))
 obtain⟨⟨u,B⟩,n⟩:∃ q:(List UInt8) × Int,fZ (bL.mk 2 1 0 0 (Ll.mk ([(aC.mk ([]) 1)])) (Ll.mk ([])) (Ll.mk ([])))=q:=⟨_,rfl⟩
 obtain⟨d9,aH,dx,aI,aJ⟩:=yc aG
 refine cl Tryz.call9 (kK _ _ (bL.mk 2 1 0 0 (Ll.mk ([(aC.mk ([]) 1)])) (Ll.mk ([])) (Ll.mk ([]))) F 1 1 none 0 0 [] none 0 0 [] u B aH rfl (aJ _ 1 _ rfl ig) (by first | exact⟨A7 rfl,A7 rfl⟩ | omega | exact⟨Nat.le_refl _,by omega⟩) rfl rfl (fun _ _=>bu.nil _ _ _) (by first | exact⟨A7 rfl,A7 rfl⟩ | omega | exact⟨Nat.le_refl _,by omega⟩) (fun _ h9=>absurd h9 List.not_mem_nil) rfl rfl (fun _ _=>bu.nil _ _ _) (by first | exact⟨A7 rfl,A7 rfl⟩ | omega | exact⟨Nat.le_refl _,by omega⟩) (fun _ h9=>absurd h9 List.not_mem_nil) (by first | omega | (dsimp only; omega) | (simp only [List.length_nil]; omega) | decide) (by(simp [o9]; done)) n) ?_
 rintro _ ed ⟨af,ag,rfl,aK,M⟩
 have aL:=aI _ _ aK
 have dz:=aL.rowC (i:=0) rfl
 replace M:u.length≤100000:=M
 refine Mz rfl (Kz (.slice af u.length ag) (Kz (.int .i64 B) (Az rfl (An rfl (xV ?_)))))
 have aM:=aL.pk [0,1]
 refine xS (Mz rfl ?_)
 have dA:=aM.rowC (i:=1) rfl
 obtain⟨⟨x,C⟩,o⟩:∃ q:bP × Int,bQ s=q:=⟨_,rfl⟩
 obtain⟨ek,aN,dB,aO,aP⟩:=yc aM
 refine cl Tryz.call15 (jQ _ _ Z s.length aa s x C aN (aP _ 1 _ rfl ig) rfl (by omega) (by first | omega | (simp only [List.length_take,List.length_drop]; omega) | exact Nat.le_refl _) o) ?_
 rintro _ eu ⟨aQ,aR,aS,aT,aU,aV,eB,rfl,aW,aX,N⟩
 have J:=aO _ _ aW
 have dD:=bV aX
 have dE:=J.rowC (i:=0) rfl
 have dH:=J.rowC (i:=1) rfl
 have dI:=J.rowC (i:=3) rfl
 replace N:x.ag.ls.length≤1000∧x.aH.ls.length≤1000∧x.ax.ls.length≤1000:=N
 refine Mz rfl (Kz (.agg (dL x aQ aR aS aT aU aV).toArray) (Kz (.int .i64 C) ?_))
 refine dG (bF 0 0 0 0 0 none 0 0 none 0 0 none 0 0 0 0 ([]) ([]) 0 0 0 ([]) ([])) 31 J ?_
 intro bS eD bT
 refine cZ (dL x aQ aR aS aT aU aV) 0 bT Tryz.sizeOf31 ?_
 intro eF aY
 refine Ar rfl (Mz rfl ?_)
 have dJ:=aY.rowC (i:=5) rfl
 obtain⟨⟨d,E⟩,p⟩:∃ q:bL × Int,bW u=q:=⟨_,rfl⟩
 obtain⟨eG,aZ,dK,bf,bg⟩:=yc aY
 refine cl Tryz.call17 (jm _ _ af u.length ag u d E aZ (bg _ 5 _ rfl ig) rfl (by omega) (by first | omega | (simp only [List.length_take,List.length_drop]; omega) | exact Nat.le_refl _) p) ?_
 rintro _ eH ⟨bi,bn,bq,O,P,Q,dM,dN,rfl,bv,ah,ai,G⟩
 have K:=bf _ _ bv
 have bU:=bV ah
 have bX:=bV ai
 have bY:=K.rowC (i:=0) rfl
 have bZ:=K.rowC (i:=1) rfl
 have cu:=K.rowC (i:=3) rfl
 replace G:d.ag.ls.length≤1000∧d.ak.ls.length≤1000∧d.aP.ls.length≤1000:=G
 refine Mz rfl (Kz (.agg #[.int .i64 d.af, .int .u64 ((d.az:Nat):Int), .int .u64 ((d.bC:Nat):Int), .int .u64 ((d.aS:Nat):Int), .slice bi d.ag.ls.length bn, .slice bq d.ak.ls.length O, .slice P d.aP.ls.length Q]) (Kz (.int .i64 E) ?_))
 refine dG [.int .i64 0, .int .u64 0, .int .u64 0, .int .u64 0, .slice none 0 0, .slice none 0 0, .slice none 0 0] 35 K ?_
 intro bz dO bA
 refine cZ [.int .i64 d.af, .int .u64 ((d.az:Nat):Int), .int .u64 ((d.bC:Nat):Int), .int .u64 ((d.aS:Nat):Int), .slice bi d.ag.ls.length bn, .slice bq d.ak.ls.length O, .slice P d.aP.ls.length Q] 0 bA Tryz.sizeOf35 ?_
 intro dP R
 refine Ar rfl (Mz rfl ?_)
 have cz:=R.rowC (i:=12) rfl
 obtain⟨⟨a,y⟩,f⟩:∃ q:bL × Int,bW s=q:=⟨_,rfl⟩
 obtain⟨dQ,aj,cB,ak,au⟩:=yc R
 refine cl Tryz.call17 (jm _ _ Z s.length aa s a y aj (au _ 12 _ rfl ig) rfl (by omega) (by first | omega | (simp only [List.length_take,List.length_drop]; omega) | exact Nat.le_refl _) f) ?_
 rintro _ dR ⟨S,T,U,V,W,X,dS,dU,rfl,av,ax,ay,I⟩
 have z:=ak _ _ av
 have cK:=bV ax
 have cO:=bV ay
 have df:=z.rowC (i:=0) rfl
 have dh:=z.rowC (i:=1) rfl
 have di:=z.rowC (i:=3) rfl
 replace I:a.ag.ls.length≤1000∧a.ak.ls.length≤1000∧a.aP.ls.length≤1000:=I
 refine Mz rfl (Kz (.agg #[.int .i64 a.af, .int .u64 ((a.az:Nat):Int), .int .u64 ((a.bC:Nat):Int), .int .u64 ((a.aS:Nat):Int), .slice S a.ag.ls.length T, .slice U a.ak.ls.length V, .slice W a.aP.ls.length X]) (Kz (.int .i64 y) ?_))
 refine dG [.int .i64 0, .int .u64 0, .int .u64 0, .int .u64 0, .slice none 0 0, .slice none 0 0, .slice none 0 0] 35 z ?_
 intro dV dW bB
 refine cZ [.int .i64 a.af, .int .u64 ((a.az:Nat):Int), .int .u64 ((a.bC:Nat):Int), .int .u64 ((a.aS:Nat):Int), .slice S a.ag.ls.length T, .slice U a.ak.ls.length V, .slice W a.aP.ls.length X] 0 bB Tryz.sizeOf35 ?_
 intro dX bC
 refine An rfl (xV ?_)
 have g:=bC.pk [6,7,8,9,10,11,12,13,14,15,16,17,18]
 refine xS (Mz rfl (fw (.string ⟨List.toArray s⟩) (zl (l:=s) Tryz.underlying37 Tryz.underlying5 Tryz.underlying9 (g.rds (i:=12) rfl) rfl) (fw (.bool (decide (s=([83,1,0,0,0,0,1,0,1,0,0,0,0,0,0,0,0,0,0,0])))) (zN rfl rfl) (Mz rfl ?_))))
 by_cases c:s=([83,1,0,0,0,0,1,0,1,0,0,0,0,0,0,0,0,0,0,0])
 refine gw (.int .i64 A) (dT c) (yj rfl) (Gz (.bool (decide (A=0))) (dT c) (fw (.bool (decide (A=0))) (yw rfl (dT c) rfl) (Mz rfl ?_)))
 by_cases b:A=0
 refine gw (.slice af u.length ag) (dT b) (yj rfl) (gw (.string ⟨List.toArray u⟩) (dT b) (zl (l:=u) Tryz.underlying37 Tryz.underlying5 Tryz.underlying9 (g.rds (i:=11) rfl) rfl) (gw (.bool (decide (u=([67,2,1,0,0,1,0,1,0,0])))) (dT b) (zN rfl rfl) (fw (.bool (decide (u=([67,2,1,0,0,1,0,1,0,0])))) (yw rfl (dT b) rfl) (Mz rfl ?_))))
 by_cases h:u=([67,2,1,0,0,1,0,1,0,0])
 refine gw (.int .i64 B) (dT h) (yj rfl) (Gz (.bool (decide (B=0))) (dT h) (fw (.bool (decide (B=0))) (yw rfl (dT h) rfl) (Mz rfl ?_)))
 by_cases e:B=0
 refine Gz (.pointer (some ⟨bS,0,none⟩)) (dT e) (Gl (.int .i64 x.iZ) (dT e) g 6 Tryz.isAgg3 (Gz (.bool (decide (x.iZ=1))) (dT e) (fw (.bool (decide (x.iZ=1))) (yw rfl (dT e) rfl) (Mz rfl ?_))))
 by_cases k:x.iZ=1
 refine gw (.int .i64 C) (dT k) (yj rfl) (Gz (.bool (decide (C=0))) (dT k) (fw (.bool (decide (C=0))) (yw rfl (dT k) rfl) (Mz rfl ?_)))
 by_cases j:C=0
 refine Gz (.pointer (some ⟨bz,1,none⟩)) (dT j) (Gl (.int .u64 ((d.az:Nat):Int)) (dT j) g 0 Tryz.isAgg22 (Gz (.bool (decide (((d.az:Nat):Int)=1))) (dT j) (fw (.bool (decide (((d.az:Nat):Int)=1))) (yw rfl (dT j) rfl) (Mz rfl ?_))))
 by_cases r:((d.az:Nat):Int)=1
 refine gw (.int .i64 E) (dT r) (yj rfl) (Gz (.bool (decide (E=0))) (dT r) (fw (.bool (decide (E=0))) (yw rfl (dT r) rfl) (Mz rfl ?_)))
 by_cases t:E=0
 refine gw (.int .i64 y) (dT t) (yj rfl) (Gz (.bool (decide (y=11))) (dT t) (fw (.bool (decide (y=11))) (yw rfl (dT t) rfl) (An rfl (rt (rs ?_)))))
 have bD:=g.pk []
 obtain rfl:_=decide (y=11):=hr.symm.trans (et (ae m) (et (ae n) (et (ae o) (et (ae p) (et (ae f) (et (ip c) (et (ip b) (et (ip h) (et (ip e) (et (ip k) (et (ip j) (et (ip r) (ip t)))))))))))))
 exact⟨rfl,bD⟩
 refine Sz (dF t) (Sz (dF t) (fw (.bool false) (xW rfl (dF t) rfl) (An rfl (rt (rs ?_)))))
 have bG:=g.pk []
 obtain rfl:_=false:=hr.symm.trans (et (ae m) (et (ae n) (et (ae o) (et (ae p) (et (ae f) (et (ip c) (et (ip b) (et (ip h) (et (ip e) (et (ip k) (et (ip j) (et (ip r) (iN t)))))))))))))
 exact⟨rfl,bG⟩
 refine Sz (dF r) (Sz (dF r) (fw (.bool false) (xW rfl (dF r) rfl) (Mz rfl (Sz rfl (Sz rfl (fw (.bool false) (xW rfl rfl rfl) (An rfl (rt (rs ?_)))))))))
 have bH:=g.pk []
 obtain rfl:_=false:=hr.symm.trans (et (ae m) (et (ae n) (et (ae o) (et (ae p) (et (ae f) (et (ip c) (et (ip b) (et (ip h) (et (ip e) (et (ip k) (et (ip j) (iN r))))))))))))
 exact⟨rfl,bH⟩
 refine Sz (dF j) (Sz (dF j) (Sz (dF j) (fw (.bool false) (xW rfl (dF j) rfl) (Mz rfl (Sz rfl (Sz rfl (fw (.bool false) (xW rfl rfl rfl) (Mz rfl (Sz rfl (Sz rfl (fw (.bool false) (xW rfl rfl rfl) (An rfl (rt (rs ?_))))))))))))))
 have bI:=g.pk []
 obtain rfl:_=false:=hr.symm.trans (et (ae m) (et (ae n) (et (ae o) (et (ae p) (et (ae f) (et (ip c) (et (ip b) (et (ip h) (et (ip e) (et (ip k) (iN j)))))))))))
 exact⟨rfl,bI⟩
 refine Sz (dF k) (Sz (dF k) (fw (.bool false) (xW rfl (dF k) rfl) (Mz rfl (Sz rfl (Sz rfl (Sz rfl (fw (.bool false) (xW rfl rfl rfl) (Mz rfl (Sz rfl (Sz rfl (fw (.bool false) (xW rfl rfl rfl) (Mz rfl (Sz rfl (Sz rfl (fw (.bool false) (xW rfl rfl rfl) (An rfl (rt (rs ?_))))))))))))))))))
 have bJ:=g.pk []
 obtain rfl:_=false:=hr.symm.trans (et (ae m) (et (ae n) (et (ae o) (et (ae p) (et (ae f) (et (ip c) (et (ip b) (et (ip h) (et (ip e) (iN k))))))))))
 exact⟨rfl,bJ⟩
 refine Sz (dF e) (Sz (dF e) (Sz (dF e) (fw (.bool false) (xW rfl (dF e) rfl) (Mz rfl (Sz rfl (Sz rfl (fw (.bool false) (xW rfl rfl rfl) (Mz rfl (Sz rfl (Sz rfl (Sz rfl (fw (.bool false) (xW rfl rfl rfl) (Mz rfl (Sz rfl (Sz rfl (fw (.bool false) (xW rfl rfl rfl) (Mz rfl (Sz rfl (Sz rfl (fw (.bool false) (xW rfl rfl rfl) (An rfl (rt (rs ?_)))))))))))))))))))))))
 have bK:=g.pk []
 obtain rfl:_=false:=hr.symm.trans (et (ae m) (et (ae n) (et (ae o) (et (ae p) (et (ae f) (et (ip c) (et (ip b) (et (ip h) (iN e)))))))))
 exact⟨rfl,bK⟩
 refine Sz (dF h) (Sz (dF h) (fw (.bool false) (xW rfl (dF h) rfl) (Mz rfl (Sz rfl (Sz rfl (Sz rfl (fw (.bool false) (xW rfl rfl rfl) (Mz rfl (Sz rfl (Sz rfl (fw (.bool false) (xW rfl rfl rfl) (Mz rfl (Sz rfl (Sz rfl (Sz rfl (fw (.bool false) (xW rfl rfl rfl) (Mz rfl (Sz rfl (Sz rfl (fw (.bool false) (xW rfl rfl rfl) (Mz rfl (Sz rfl (Sz rfl (fw (.bool false) (xW rfl rfl rfl) (An rfl (rt (rs ?_)))))))))))))))))))))))))))
 have bM:=g.pk []
 obtain rfl:_=false:=hr.symm.trans (et (ae m) (et (ae n) (et (ae o) (et (ae p) (et (ae f) (et (ip c) (et (ip b) (iN h))))))))
 exact⟨rfl,bM⟩
 refine Sz (dF b) (Sz (dF b) (Sz (dF b) (fw (.bool false) (xW rfl (dF b) rfl) (Mz rfl (Sz rfl (Sz rfl (fw (.bool false) (xW rfl rfl rfl) (Mz rfl (Sz rfl (Sz rfl (Sz rfl (fw (.bool false) (xW rfl rfl rfl) (Mz rfl (Sz rfl (Sz rfl (fw (.bool false) (xW rfl rfl rfl) (Mz rfl (Sz rfl (Sz rfl (Sz rfl (fw (.bool false) (xW rfl rfl rfl) (Mz rfl (Sz rfl (Sz rfl (fw (.bool false) (xW rfl rfl rfl) (Mz rfl (Sz rfl (Sz rfl (fw (.bool false) (xW rfl rfl rfl) (An rfl (rt (rs ?_))))))))))))))))))))))))))))))))
 have bN:=g.pk []
 obtain rfl:_=false:=hr.symm.trans (et (ae m) (et (ae n) (et (ae o) (et (ae p) (et (ae f) (et (ip c) (iN b)))))))
 exact⟨rfl,bN⟩
 refine Sz (dF c) (Sz (dF c) (fw (.bool false) (xW rfl (dF c) rfl) (Mz rfl (Sz rfl (Sz rfl (Sz rfl (fw (.bool false) (xW rfl rfl rfl) (Mz rfl (Sz rfl (Sz rfl (fw (.bool false) (xW rfl rfl rfl) (Mz rfl (Sz rfl (Sz rfl (Sz rfl (fw (.bool false) (xW rfl rfl rfl) (Mz rfl (Sz rfl (Sz rfl (fw (.bool false) (xW rfl rfl rfl) (Mz rfl (Sz rfl (Sz rfl (Sz rfl (fw (.bool false) (xW rfl rfl rfl) (Mz rfl (Sz rfl (Sz rfl (fw (.bool false) (xW rfl rfl rfl) (Mz rfl (Sz rfl (Sz rfl (fw (.bool false) (xW rfl rfl rfl) (An rfl (rt (rs ?_))))))))))))))))))))))))))))))))))))
 have bO:=g.pk []
 obtain rfl:_=false:=hr.symm.trans (et (ae m) (et (ae n) (et (ae o) (et (ae p) (et (ae f) (iN c))))))
 exact⟨rfl,bO⟩
end Go.Proofs.YtcnkpjheifkgnaaGreat
