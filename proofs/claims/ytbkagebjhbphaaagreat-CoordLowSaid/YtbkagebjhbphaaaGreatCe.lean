/-
 coord: a transaction begins.
-/
import Derived.Test.YtbkagebjhbphaaaGreatCc
namespace Go.Proofs.YtbkagebjhbphaaaGreat
set_option maxRecDepth 100000
open Go.RowKit
set_option linter.unusedVariables false
set_option linter.unusedSectionVars false
set_option linter.unusedSimpArgs false
def il (l:Int) (k:bP) (a:aC) (e:Nat) (d:List fV):List fV→Nat→List bP→(List bP)
  | [],b,c=>c
  | f::g,b,c=>bnd (List.getD (List.replicate d.length false) b default) fun h=>if h=true then il l k a e d g (b+1) c else bnd (gu (aC.mk a.aa (Int.toNat (IntKind.u64.wrap (((a.bH:Nat):Int)+1))) (Ll.mk (a.aB.ls++ [(dM.mk e l k.aU a.aa.aH (Ll.mk k.aD.ls) (Ll.mk d) (Ll.mk (List.replicate d.length false)) (Ll.mk (List.replicate d.length (Ll.mk []:Ll aZ))) 0)])) a.aR a.aN a.aM a.aO a.aP a.di a.cB a.cZ a.cK a.cO)) fun i=>bnd (dD (bQ.mk (Ll.mk c)) (bP.mk 3 0 f.dX 0 0 0 0 0 e i 0 a.aa.aH 0 0 0 false (bK.mk ([]) ([])) (Ll.mk f.aD.ls) (Ll.mk ([])) (Ll.mk ([])))) fun j=>il l k a e d g (b+1) j.bE.ls
def eP (j:bQ) (i:Int) (h:bP) (a:aC):bQ × aC:=
 bnd (gZ a) fun g=>bnd (gu a) fun k=>bnd (ma a.aa.ag.ls h.aD.ls) fun f=>if((a.aB.ls.length:Nat):Int) ≥ 6 then bnd (d9 j i h.aU 2 ([]) (aC.mk a.aa (Int.toNat (IntKind.u64.wrap (((a.bH:Nat):Int)+1))) (Ll.mk a.aB.ls) a.aR a.aN a.aM a.aO a.aP a.di a.cB a.cZ a.cK a.cO)) fun e=>(e.1,aC.mk (dC.mk e.2.aa.au e.2.aa.ay e.2.aa.aY e.2.aa.aH (Ll.mk a.aa.ag.ls) (Ll.mk a.aa.aj.ls) (Ll.mk a.aa.aG.ls)) e.2.bH (Ll.mk a.aB.ls) e.2.aR e.2.aN e.2.aM e.2.aO e.2.aP e.2.di e.2.cB e.2.cZ e.2.cK e.2.cO) else if((a.aB.ls.length+a.aa.aj.ls.length:Nat):Int) ≥ 8 then bnd (d9 j i h.aU 2 ([]) (aC.mk a.aa (Int.toNat (IntKind.u64.wrap (((a.bH:Nat):Int)+1))) (Ll.mk a.aB.ls) a.aR a.aN a.aM a.aO a.aP a.di a.cB a.cZ a.cK a.cO)) fun b=>(b.1,aC.mk (dC.mk b.2.aa.au b.2.aa.ay b.2.aa.aY b.2.aa.aH (Ll.mk a.aa.ag.ls) (Ll.mk a.aa.aj.ls) (Ll.mk a.aa.aG.ls)) b.2.bH (Ll.mk a.aB.ls) b.2.aR b.2.aN b.2.aM b.2.aO b.2.aP b.2.di b.2.cB b.2.cZ b.2.cK b.2.cO) else if((Int.toNat (IntKind.u64.wrap (((g:Nat):Int) - ((k:Nat):Int))):Nat):Int) ≥ 64 then bnd (d9 j i h.aU 2 ([]) (aC.mk a.aa (Int.toNat (IntKind.u64.wrap (((a.bH:Nat):Int)+1))) (Ll.mk a.aB.ls) a.aR a.aN a.aM a.aO a.aP a.di a.cB a.cZ a.cK a.cO)) fun c=>(c.1,aC.mk (dC.mk c.2.aa.au c.2.aa.ay c.2.aa.aY c.2.aa.aH (Ll.mk a.aa.ag.ls) (Ll.mk a.aa.aj.ls) (Ll.mk a.aa.aG.ls)) c.2.bH (Ll.mk a.aB.ls) c.2.aR c.2.aN c.2.aM c.2.aO c.2.aP c.2.di c.2.cB c.2.cZ c.2.cK c.2.cO) else if f.2=0 then bnd (il i h a g f.1 f.1 0 j.bE.ls) fun sLrbbbffftL=>(bQ.mk (Ll.mk sLrbbbffftL),aC.mk a.aa (Int.toNat (IntKind.u64.wrap (((a.bH:Nat):Int)+1))) (Ll.mk (a.aB.ls++ [(dM.mk g i h.aU a.aa.aH (Ll.mk h.aD.ls) (Ll.mk f.1) (Ll.mk (List.replicate f.1.length false)) (Ll.mk (List.replicate f.1.length (Ll.mk []:Ll aZ))) 0)])) a.aR a.aN a.aM a.aO a.aP a.di a.cB a.cZ a.cK a.cO) else bnd (d9 j i h.aU 2 ([]) (aC.mk a.aa (Int.toNat (IntKind.u64.wrap (((a.bH:Nat):Int)+1))) (Ll.mk a.aB.ls) a.aR a.aN a.aM a.aO a.aP a.di a.cB a.cZ a.cK a.cO)) fun d=>(d.1,aC.mk (dC.mk d.2.aa.au d.2.aa.ay d.2.aa.aY d.2.aa.aH (Ll.mk a.aa.ag.ls) (Ll.mk a.aa.aj.ls) (Ll.mk a.aa.aG.ls)) d.2.bH (Ll.mk a.aB.ls) d.2.aR d.2.aN d.2.aM d.2.aO d.2.aP d.2.di d.2.cB d.2.cZ d.2.cK d.2.cO)
set_option maxHeartbeats 4000000 in
theorem jr (w:World) (D:Nat→Prop) (g0:Nat) (p0:bQ) (bL:Option Addr) (bO:Nat) (bF:List bA) (p1:Int) (d:bP) (dw:Option Addr) (gV dx:Nat) (dX:Option Addr) (gW dY:Nat) (dZ:List af) (ed:Option Addr) (gX ek:Nat) (g:Nat) (a:aC) (n:Option Addr) (p:Nat) (r:Option Addr) (j:Nat) (N:List az) (C:Option Addr) (E:Nat) (ag:List aX) (J:Option Addr) (G:Nat) (I:List bB) (O:Option Addr) (P:Nat) (ah:List af) (Q:Option Addr) (S:Nat) (aj:List af) (T:Option Addr) (U:Nat) (ak:List af) (V:Option Addr) (W:Nat) (au:List af) (X:Option Addr) (Y:Nat) (av:List af) (r0:bQ) (r1:aC) (H:Own w D w [blk g0 [.pointer (some ⟨g,0,none⟩), .slice bL p0.bE.ls.length bO] 98,row bL p0.bE.ls.length bO (List.flatMap bA.cells bF) 42 21,sepL (List.flatMap bA.own bF),blk g [.int .i64 a.aa.au, .int .u64 ((a.aa.ay:Nat):Int), .int .u64 ((a.aa.aY:Nat):Int), .int .u64 ((a.aa.aH:Nat):Int), .slice n a.aa.ag.ls.length p, .slice r a.aa.aj.ls.length j, .slice C a.aa.aG.ls.length E, .int .u64 ((a.bH:Nat):Int), .slice J a.aB.ls.length G, .bool a.aR.aS, .int .u64 ((a.aR.aK:Nat):Int), .int .i64 a.aR.bi, .slice O a.aR.ae.ls.length P, .bool a.aN.aS, .int .u64 ((a.aN.aK:Nat):Int), .int .i64 a.aN.bi, .slice Q a.aN.ae.ls.length S, .bool a.aM.aS, .int .u64 ((a.aM.aK:Nat):Int), .int .i64 a.aM.bi, .slice T a.aM.ae.ls.length U, .bool a.aO.aS, .int .u64 ((a.aO.aK:Nat):Int), .int .i64 a.aO.bi, .slice V a.aO.ae.ls.length W, .bool a.aP.aS, .int .u64 ((a.aP.aK:Nat):Int), .int .i64 a.aP.bi, .slice X a.aP.ae.ls.length Y, .int .u64 ((a.di:Nat):Int), .int .u64 ((a.cB:Nat):Int), .int .u64 ((a.cZ:Nat):Int), .int .u64 ((a.cK:Nat):Int), .int .u64 ((a.cO:Nat):Int), .pointer none] 86,row n a.aa.ag.ls.length p (List.flatMap bv.cells a.aa.ag.ls) 89 2,row r a.aa.aj.ls.length j (List.flatMap az.cells N) 60 5,sepL (List.flatMap az.own N),row C a.aa.aG.ls.length E (List.flatMap aX.cells ag) 56 4,sepL (List.flatMap aX.own ag),row J a.aB.ls.length G (List.flatMap bB.cells I) 107 9,sepL (List.flatMap bB.own I),row O a.aR.ae.ls.length P (List.flatMap af.cells ah) 149 3,sepL (List.flatMap af.own ah),row Q a.aN.ae.ls.length S (List.flatMap af.cells aj) 149 3,sepL (List.flatMap af.own aj),row T a.aM.ae.ls.length U (List.flatMap af.cells ak) 149 3,sepL (List.flatMap af.own ak),row V a.aO.ae.ls.length W (List.flatMap af.cells au) 149 3,sepL (List.flatMap af.own au),row X a.aP.ae.ls.length Y (List.flatMap af.cells av) 149 3,sepL (List.flatMap af.own av)]) (bE:List.map bA.abs bF=p0.bE.ls) (iF:gV=d.aD.ls.length) (eu:Ro w D fun w'=>bD w' 6 dw d.aD.ls.length (List.flatMap bC.cells d.aD.ls)) (oP:d.aD.ls.length≤dx∧d.aD.ls.length≤9223372036854775807) (iG:List.map af.abs dZ=d.ah.ls) (iH:gW=d.ah.ls.length) (oU:Ro w D fun w'=>bD w' 3 dX d.ah.ls.length (List.flatMap af.cells dZ)) (oV:d.ah.ls.length≤dY∧d.ah.ls.length≤9223372036854775807) (oW:∀ x ∈ dZ,Ro w D (fun w'=>bD w' 2 x.av.A x.av.ls.length (List.flatMap aL.cells x.av.ls))∧(x.av.ls.length≤x.av.c∧x.av.ls.length≤9223372036854775807)) (iI:gX=d.ag.ls.length) (oZ:Ro w D fun w'=>bD w' 2 ed d.ag.ls.length (List.flatMap bv.cells d.ag.ls)) (o5:d.ag.ls.length≤ek∧d.ag.ls.length≤9223372036854775807) (aB:List.map az.abs N=a.aa.aj.ls) (aO:List.map aX.abs ag=a.aa.aG.ls) (Z:List.map bB.abs I=a.aB.ls) (aP:List.map af.abs ah=a.aR.ae.ls) (aQ:List.map af.abs aj=a.aN.ae.ls) (aR:List.map af.abs ak=a.aM.ae.ls) (aS:List.map af.abs au=a.aO.ae.ls) (aU:List.map af.abs av=a.aP.ae.ls) (uk:a.aa.ag.ls.length≤1000∧a.aa.aj.ls.length≤1000∧a.aa.aG.ls.length≤1000∧a.aB.ls.length≤1000∧p0.bE.ls.length≤100000) (ul:1≤p1∧p1≤4) (um:d.aD.ls.length≤24∧d.ag.ls.length≤1000∧d.ah.ls.length≤1000∧jh d.aU) (hr:eP p0 p1 d a=(r0,r1)):
    Calls Tryz.prog 90 #[vP g0 0,vI p1, .agg (gN d.aI d.aJ d.eU d.aQ d.dz d.dL d.aU d.ay d.bf d.cz d.aY d.aH d.dG d.bT d.xN d.dI d.bO.bJ d.bO.bW dw gV dx dX gW dY ed gX ek).toArray] w (dW fun v w'=> ∃ (B0ox0:Option Addr) (b0ox0:Nat) (e0ox0:List bA) (B1ox0:Option Addr) (b1ox0:Nat) (B1ox1:Option Addr) (b1ox1:Nat) (e1ox1:List az) (B1ox2:Option Addr) (b1ox2:Nat) (e1ox2:List aX) (B1ox3:Option Addr) (b1ox3:Nat) (e1ox3:List bB) (B1ox4:Option Addr) (b1ox4:Nat) (e1ox4:List af) (B1ox5:Option Addr) (b1ox5:Nat) (e1ox5:List af) (B1ox6:Option Addr) (b1ox6:Nat) (e1ox6:List af) (B1ox7:Option Addr) (b1ox7:Nat) (e1ox7:List af) (B1ox8:Option Addr) (b1ox8:Nat) (e1ox8:List af),v= .tuple #[]∧Own w D w' [blk g0 [vP g 0, .slice B0ox0 r0.bE.ls.length b0ox0] 98,row B0ox0 r0.bE.ls.length b0ox0 (List.flatMap bA.cells e0ox0) 42 21,sepL (List.flatMap bA.own e0ox0),blk g [vI r1.aa.au,vU r1.aa.ay,vU r1.aa.aY,vU r1.aa.aH, .slice B1ox0 r1.aa.ag.ls.length b1ox0, .slice B1ox1 r1.aa.aj.ls.length b1ox1, .slice B1ox2 r1.aa.aG.ls.length b1ox2,vU r1.bH, .slice B1ox3 r1.aB.ls.length b1ox3, .bool r1.aR.aS,vU r1.aR.aK,vI r1.aR.bi, .slice B1ox4 r1.aR.ae.ls.length b1ox4, .bool r1.aN.aS,vU r1.aN.aK,vI r1.aN.bi, .slice B1ox5 r1.aN.ae.ls.length b1ox5, .bool r1.aM.aS,vU r1.aM.aK,vI r1.aM.bi, .slice B1ox6 r1.aM.ae.ls.length b1ox6, .bool r1.aO.aS,vU r1.aO.aK,vI r1.aO.bi, .slice B1ox7 r1.aO.ae.ls.length b1ox7, .bool r1.aP.aS,vU r1.aP.aK,vI r1.aP.bi, .slice B1ox8 r1.aP.ae.ls.length b1ox8,vU r1.di,vU r1.cB,vU r1.cZ,vU r1.cK,vU r1.cO, .pointer none] 86,row B1ox0 r1.aa.ag.ls.length b1ox0 (List.flatMap bv.cells r1.aa.ag.ls) 89 2,row B1ox1 r1.aa.aj.ls.length b1ox1 (List.flatMap az.cells e1ox1) 60 5,sepL (List.flatMap az.own e1ox1),row B1ox2 r1.aa.aG.ls.length b1ox2 (List.flatMap aX.cells e1ox2) 56 4,sepL (List.flatMap aX.own e1ox2),row B1ox3 r1.aB.ls.length b1ox3 (List.flatMap bB.cells e1ox3) 107 9,sepL (List.flatMap bB.own e1ox3),row B1ox4 r1.aR.ae.ls.length b1ox4 (List.flatMap af.cells e1ox4) 149 3,sepL (List.flatMap af.own e1ox4),row B1ox5 r1.aN.ae.ls.length b1ox5 (List.flatMap af.cells e1ox5) 149 3,sepL (List.flatMap af.own e1ox5),row B1ox6 r1.aM.ae.ls.length b1ox6 (List.flatMap af.cells e1ox6) 149 3,sepL (List.flatMap af.own e1ox6),row B1ox7 r1.aO.ae.ls.length b1ox7 (List.flatMap af.cells e1ox7) 149 3,sepL (List.flatMap af.own e1ox7),row B1ox8 r1.aP.ae.ls.length b1ox8 (List.flatMap af.cells e1ox8) 149 3,sepL (List.flatMap af.own e1ox8)]∧(List.map bA.abs e0ox0=r0.bE.ls)∧(List.map az.abs e1ox1=r1.aa.aj.ls)∧(List.map aX.abs e1ox2=r1.aa.aG.ls)∧(List.map bB.abs e1ox3=r1.aB.ls)∧(List.map af.abs e1ox4=r1.aR.ae.ls)∧(List.map af.abs e1ox5=r1.aN.ae.ls)∧(List.map af.abs e1ox6=r1.aM.ae.ls)∧(List.map af.abs e1ox7=r1.aO.ae.ls)∧(List.map af.abs e1ox8=r1.aP.ae.ls)):=by
 subst iF iH iI
 have oN:=aA bE
 have oO:=aA iG
 have jo:=aA aB
 have jq:=aA aO
 have jv:=aA Z
 have jw:=aA aP
 have jy:=aA aQ
 have jA:=aA aR
 have jB:=aA aS
 have jC:=aA aU
 have o6:=H.rowC (i:=1) rfl
 have jD:=H.rowC (i:=4) rfl
 have jE:=H.rowC (i:=5) rfl
 have jG:=H.rowC (i:=7) rfl
 have jH:=H.rowC (i:=9) rfl
 have jI:=H.rowC (i:=11) rfl
 have jJ:=H.rowC (i:=13) rfl
 have jK:=H.rowC (i:=15) rfl
 have jL:=H.rowC (i:=17) rfl
 have jN:=H.rowC (i:=19) rfl
 refine cb Tryz.func90 ?_
 refine sr ?_
 refine dP (gP d dw dx dX dY ed ek) 42 H ?_
 intro dE uo o7
 refine nt (EP ?_)
 refine oF 22 [] (E9 Fp) o7 ?_
 intro uq o8
 refine qv 0 rfl rfl (qp g0 0 1 rfl (qp g0 0 2 rfl (ql 3 rfl 1 Tryz.isAgg24 rfl rfl rfl (qv 5 rfl rfl (qp g0 0 6 rfl (qp g0 0 7 rfl (ql 8 rfl 1 Tryz.isAgg24 rfl rfl rfl ?_)))))))
 have o9:=o8.pf [4]
 obtain⟨h,cu⟩:∃ q,gZ a=q:=⟨_,rfl⟩
 obtain⟨ut,jO,su,jP,sw⟩:=Fu o9
 refine qd 4 rfl (Fe Tryz.call126 rfl (pO _ _ g a n p r j C E J G O P Q S T U V W X Y h jO cu) ?_)
 rintro _ uu ⟨rfl,jQ,gY⟩
 have pg:=jP _ _ jQ
 replace gY:h≤18446744073709551615:=gY
 have jR:=pg.pf [1,2,3,4]
 refine⟨.inr ⟨_,jR⟩, ?_⟩
 have bJ:=jR.pf [4]
 have sD:=bJ.rowC (i:=6) rfl
 have sF:=bJ.rowC (i:=10) rfl
 obtain⟨dG,cz⟩:∃ q,gu a=q:=⟨_,rfl⟩
 obtain⟨uw,jS,sG,jU,bg⟩:=Fu bJ
 refine qd 9 rfl (Fe Tryz.call108 rfl (nS _ _ g a n p r j N C E J G I O P Q S T U V W X Y dG jS aB (bg _ 5 _ rfl aT) (show a.aa.aj.ls.length≤j∧a.aa.aj.ls.length≤9223372036854775807 from by omega) (fun x9 h9=>⟨bg _ 6 _ rfl (ax (List.mem_flatMap.2 ⟨x9,h9, .head _⟩) aT),bz (φ:=fun _=>_) bJ (i:=7) rfl (ax (List.mem_flatMap.2 ⟨x9,h9, .head _⟩) bn)⟩) Z (bg _ 9 _ rfl aT) (show a.aB.ls.length≤G∧a.aB.ls.length≤9223372036854775807 from by omega) (fun x9 h9=>⟨bg _ 10 _ rfl (ax (List.mem_flatMap.2 ⟨x9,h9, .head _⟩) aT),bz (φ:=fun _=>_) bJ (i:=11) rfl (ax (List.mem_flatMap.2 ⟨x9,h9, .head _⟩) bn),bg _ 10 _ rfl (ax (List.mem_flatMap.2 ⟨x9,h9, .tail _ (.head _)⟩) aT),bz (φ:=fun _=>_) bJ (i:=11) rfl (ax (List.mem_flatMap.2 ⟨x9,h9, .tail _ (.head _)⟩) bn),(fun y1 k1=>⟨bg _ 10 _ rfl (ax (List.mem_flatMap.2 ⟨x9,h9, .tail _ (.tail _ (.tail _ (.tail _ (.head _))))⟩) (ax (List.mem_flatMap.2 ⟨y1,k1, .head _⟩) aT)),bz (φ:=fun _=>_) bJ (i:=11) rfl (ax (List.mem_flatMap.2 ⟨x9,h9, .tail _ (.tail _ (.tail _ (.tail _ (.head _))))⟩) (ax (List.mem_flatMap.2 ⟨y1,k1, .head _⟩) bn)),bg _ 10 _ rfl (ax (List.mem_flatMap.2 ⟨x9,h9, .tail _ (.tail _ (.tail _ (.tail _ (.head _))))⟩) (ax (List.mem_flatMap.2 ⟨y1,k1, .tail _ (.head _)⟩) aT)),bz (φ:=fun _=>_) bJ (i:=11) rfl (ax (List.mem_flatMap.2 ⟨x9,h9, .tail _ (.tail _ (.tail _ (.tail _ (.head _))))⟩) (ax (List.mem_flatMap.2 ⟨y1,k1, .tail _ (.head _)⟩) bn))⟩),bg _ 10 _ rfl (ax (List.mem_flatMap.2 ⟨x9,h9, .tail _ (.tail _ (.head _))⟩) aT),bz (φ:=fun _=>_) bJ (i:=11) rfl (ax (List.mem_flatMap.2 ⟨x9,h9, .tail _ (.tail _ (.head _))⟩) bn),bg _ 10 _ rfl (ax (List.mem_flatMap.2 ⟨x9,h9, .tail _ (.tail _ (.tail _ (.head _)))⟩) aT),bz (φ:=fun _=>_) bJ (i:=11) rfl (ax (List.mem_flatMap.2 ⟨x9,h9, .tail _ (.tail _ (.tail _ (.head _)))⟩) bn),(fun y1 k1=>⟨bg _ 10 _ rfl (ax (List.mem_flatMap.2 ⟨x9,h9, .tail _ (.tail _ (.tail _ (.tail _ (.tail _ (.head _)))))⟩) (ax (List.mem_flatMap.2 ⟨y1,k1, .head _⟩) aT)),bz (φ:=fun _=>_) bJ (i:=11) rfl (ax (List.mem_flatMap.2 ⟨x9,h9, .tail _ (.tail _ (.tail _ (.tail _ (.tail _ (.head _)))))⟩) (ax (List.mem_flatMap.2 ⟨y1,k1, .head _⟩) bn)),(fun y2 k2=>⟨bg _ 10 _ rfl (ax (List.mem_flatMap.2 ⟨x9,h9, .tail _ (.tail _ (.tail _ (.tail _ (.tail _ (.head _)))))⟩) (ax (List.mem_flatMap.2 ⟨y1,k1, .tail _ (.head _)⟩) (ax (List.mem_flatMap.2 ⟨y2,k2, .head _⟩) aT))),bz (φ:=fun _=>_) bJ (i:=11) rfl (ax (List.mem_flatMap.2 ⟨x9,h9, .tail _ (.tail _ (.tail _ (.tail _ (.tail _ (.head _)))))⟩) (ax (List.mem_flatMap.2 ⟨y1,k1, .tail _ (.head _)⟩) (ax (List.mem_flatMap.2 ⟨y2,k2, .head _⟩) bn)))⟩)⟩)⟩) (by first | omega | (dsimp only; omega) | (simp only [List.length_nil]; omega) | decide) cz) ?_)
 rintro _ uy ⟨rfl,jW⟩
 have pq:=jU _ _ jW
 have gT:=pq.pf [1,2,3,4]
 refine⟨.inr ⟨_,gT⟩, ?_⟩
 refine qa 10 rfl rfl (qa 11 rfl rfl (qn (ER (sr (Mz rfl (Kz (vP g0 0) (Kz (vP g0 0) (Lz (vP g 0) gT 1 Tryz.isAgg24 (Kz (vP g 0) (Kz (vP g 7) (Lz (vU a.bH) gT 4 Tryz.isAgg28 (fw (.int .u64 ((Int.toNat (IntKind.u64.wrap (((a.bH:Nat):Int)+1)):Nat):Int)) (EQ (e:=IntKind.u64.wrap (((a.bH:Nat):Int)+1)) yk (fq _)) (Kz (vP g 0) (Kz (vP g 7) ?_))))))))))))))
 have pu:=gT.pf [4]
 refine dO [.int .u64 ((Int.toNat (IntKind.u64.wrap (((a.bH:Nat):Int)+1)):Nat):Int)] 7 pu Tryz.sizeOf28 ?_
 intro uz pz
 refine nt (EP ?_)
 refine oF 22 [] (E9 Fp) pz ?_
 intro uA pE
 refine qv 0 rfl rfl (qp g0 0 1 rfl (qp g0 0 2 rfl (ql 3 rfl 2 Tryz.isAgg24 rfl rfl rfl (qp g 0 4 rfl (qp g 0 5 rfl (qp g 4 6 rfl (ql 7 rfl 0 Tryz.isAgg29 rfl rfl rfl (qp dE 18 8 rfl (ql 9 rfl 1 Tryz.isAgg39 rfl rfl rfl ?_)))))))))
 obtain⟨⟨b,dI⟩,bH⟩:∃ q:(List fV) × Int,ma a.aa.ag.ls d.aD.ls=q:=⟨_,rfl⟩
 obtain⟨uB,jX,jY,jZ,j3⟩:=EU pE
 refine qd 10 rfl (Fe Tryz.call127 rfl (zw _ _ n a.aa.ag.ls.length p a.aa.ag.ls dw d.aD.ls.length dx d.aD.ls b dI jX (j3 _ 5 _ rfl aT) rfl (by omega) (jY _ eu) rfl (by omega) bH) ?_)
 rintro _ uC ⟨ae,aJ,aY,rfl,j4,bq⟩
 have j5:=jZ _ _ j4
 have sH:=aA bq
 have sJ:=j5.rowC (i:=0) rfl
 have j6:∀ x ∈ b,x.aD.ls.length≤24024:=Aq bH (by omega) (by omega)
 have sK:b.length≤5:=Ao bH
 have kg:=j5.pb [0,1]
 refine⟨.inr ⟨_,kg⟩, ?_⟩
 refine qv 11 rfl rfl (qk (.slice ae b.length aJ) 12 rfl (qk (vI dI) 13 rfl (qa 14 rfl rfl (qa 15 rfl rfl (qn (ER (EP ?_)))))))
 refine oF 24 [] (E9 Fp) kg ?_
 intro uD di
 refine qv 0 rfl rfl (qp g0 0 1 rfl (qp g0 0 2 rfl (ql 3 rfl 2 Tryz.isAgg24 rfl rfl rfl (qp g 0 4 rfl (qp g 8 5 rfl (ql 6 rfl 0 Tryz.isAgg79 rfl rfl rfl (qk (vJ a.aB.ls.length) 7 rfl (qk (.bool (decide (((a.aB.ls.length:Nat):Int) ≥ 6))) 8 rfl (qv 9 rfl rfl ?_)))))))))
 by_cases l:((a.aB.ls.length:Nat):Int) ≥ 6
 refine EW (rs:= []) 10 rfl rfl rfl (dT l) (by kernel_rfl) (EW (rs:= []) 11 rfl rfl rfl (dT l) (by kernel_rfl) (EW (rs:= []) 12 rfl rfl rfl (dT l) (by kernel_rfl) (EW (rs:= []) 13 rfl rfl rfl (dT l) (by kernel_rfl) (EW (rs:= []) 14 rfl rfl rfl (dT l) (by kernel_rfl) (EW (rs:= []) 15 rfl rfl rfl (dT l) (by kernel_rfl) (EW (rs:= []) 16 rfl rfl rfl (dT l) (by kernel_rfl) (EW (rs:= []) 17 rfl rfl rfl (dT l) (by kernel_rfl) (EW (rs:= []) 18 rfl rfl rfl (dT l) (by kernel_rfl) (EW (rs:= []) 19 rfl rfl rfl (dT l) (by kernel_rfl) (EW (rs:= []) 20 rfl rfl rfl (dT l) (by kernel_rfl) (EW (rs:= []) 21 rfl rfl rfl (dT l) (by kernel_rfl) (EW (rs:= []) 22 rfl rfl rfl (dT l) (by kernel_rfl) (EW (rs:= []) 23 rfl rfl rfl (dT l) (by kernel_rfl) (EW (rs:= []) 24 rfl rfl rfl (dT l) (by kernel_rfl) (EW (rs:= []) 25 rfl rfl rfl (dT l) (by kernel_rfl) (EW (rs:= []) 26 rfl rfl rfl (dT l) (by kernel_rfl) (EW (rs:= []) 27 rfl rfl rfl (dT l) (by kernel_rfl) (EW (rs:= []) 28 rfl rfl rfl (dT l) (by kernel_rfl) (qt (v:= .bool true) 29 rfl (fun _ _=>Fa rfl (dT l) rfl) (qv 30 rfl rfl (EW (rs:= []) 31 rfl rfl rfl rfl (by kernel_rfl) (EW (rs:= []) 32 rfl rfl rfl rfl (by kernel_rfl) (EW (rs:= []) 33 rfl rfl rfl rfl (by kernel_rfl) (EW (rs:= []) 34 rfl rfl rfl rfl (by kernel_rfl) (qt (v:= .bool true) 35 rfl (fun _ _=>Fa rfl rfl rfl) (qa 36 rfl rfl (qn (ER (EP (sr (Mz rfl (Mz rfl (Sz rfl (Sz rfl (fw (.bool true) (Fa rfl rfl rfl) (nt (jt ?_)))))))))))))))))))))))))))))))))))))
 refine sr (Mz rfl (Mz rfl (Kz (vP dE 6) (Lz (vU d.aU) di 1 Tryz.isAgg28 ?_))))
 have pF:=di.px [2,3,4] [] [1,5,6,7,8,9,10,11,22,23]
 obtain⟨⟨iJ,bi⟩,ib⟩:∃ q:bQ × aC,d9 p0 p1 d.aU 2 ([]) (aC.mk a.aa (Int.toNat (IntKind.u64.wrap (((a.bH:Nat):Int)+1))) (Ll.mk a.aB.ls) a.aR a.aN a.aM a.aO a.aP a.di a.cB a.cZ a.cK a.cO)=q:=⟨_,rfl⟩
 obtain⟨uE,ko,sM,kr,sN⟩:=FU pF
 refine cl Tryz.call106 (jM _ _ g0 p0 bL bO bF p1 d.aU 2 none 0 0 [] ([]) g (aC.mk a.aa (Int.toNat (IntKind.u64.wrap (((a.bH:Nat):Int)+1))) (Ll.mk a.aB.ls) a.aR a.aN a.aM a.aO a.aP a.di a.cB a.cZ a.cK a.cO) n p r j C E J G O P ah Q S aj T U ak V W au X Y av iJ bi ko bE rfl (fun _ _=>bD.nil _ _ _) (fun _ h9=>absurd h9 List.not_mem_nil) rfl (by simp) (by first | omega | (simp only [List.length_take,List.length_drop]; omega) | exact Nat.le_refl _) aP aQ aR aS aU (by first | omega | (dsimp only; omega) | (simp only [List.length_nil]; omega) | decide) (by first | omega | (simp only [List.length_nil]; omega) | decide) (by first | omega | (simp only [List.length_nil]; omega) | decide) (by first | assumption | exact mi | exact Mk.kZ (by assumption) |>.1) ib) ?_
 rintro _ uF ⟨pG,pI,pJ,ku,kv,kw,ky,kz,kC,kD,kE,kF,kG,kH,kI,kJ,kK,kL,rfl,kM,ic,eB,eF,eG,eH,eO,eT⟩
 have dJ:=kr _ _ kM
 have pK:=aA ic
 have pM:=aA eB
 have pQ:=aA eF
 have pR:=aA eG
 have pU:=aA eH
 have pV:=aA eO
 have pW:=dJ.rowC (i:=1) rfl
 have pX:=dJ.rowC (i:=4) rfl
 have pY:=dJ.rowC (i:=6) rfl
 have p8:=dJ.rowC (i:=8) rfl
 have p9:=dJ.rowC (i:=10) rfl
 have qb:=dJ.rowC (i:=12) rfl
 replace eT:iJ.bE.ls.length=p0.bE.ls.length+1:=eT
 refine nt (rt (tR (Fin.res (res0 rfl) ?_)))
 have kN:=dJ.px [] [14,22,23] [4,5,6,7,8,9,10,11,12,13]
 obtain⟨rfl,rfl⟩:=fT (hr.symm.trans (show _=(iJ,aC.mk (dC.mk bi.aa.au bi.aa.ay bi.aa.aY bi.aa.aH (Ll.mk a.aa.ag.ls) (Ll.mk a.aa.aj.ls) (Ll.mk a.aa.aG.ls)) bi.bH (Ll.mk a.aB.ls) bi.aR bi.aN bi.aM bi.aO bi.aP bi.di bi.cB bi.cZ bi.cK bi.cO) from et (ai cu) (et (ai cz) (et (ai bH) (et (ip l) (ai ib))))))
 exact⟨pG,pI,pJ,n,p,r,j,N,C,E,ag,J,G,I,ku,kv,kw,ky,kz,kC,kD,kE,kF,kG,kH,kI,kJ,kK,kL,rfl,kN,ic,aB,aO,Z,eB,eF,eG,eH,eO⟩
 refine EZ (v:=vP g0 0) (rs:= []) 10 rfl rfl rfl (dF l) (by kernel_rfl) (fun _ _=>E5 rfl) (EZ (v:=vP g0 0) (rs:= []) 11 rfl rfl rfl (dF l) (by kernel_rfl) (fun _ _=>yk) (EZ (v:=vP g0 0) (rs:= []) 12 rfl rfl rfl (dF l) (by kernel_rfl) (fun _ _=>yk) (EZ (v:=vP g 0) (rs:= []) 13 rfl rfl rfl (dF l) (by kernel_rfl) (fun _ ⟨_,H9⟩=>EY rfl (bZ.one Tryz.isAgg24 (FE (H9.cls (i:=2) rfl) rfl))) (EZ (v:=vP g 0) (rs:= []) 14 rfl rfl rfl (dF l) (by kernel_rfl) (fun _ _=>yk) (EZ (v:=vP g 8) (rs:= []) 15 rfl rfl rfl (dF l) (by kernel_rfl) (fun _ _=>yk) (EZ (v:= .slice J a.aB.ls.length G) (rs:= []) 16 rfl rfl rfl (dF l) (by kernel_rfl) (fun _ ⟨_,H9⟩=>EY rfl (bZ.one Tryz.isAgg79 (FE (H9.cls (i:=0) rfl) rfl))) (EZ (v:=vJ a.aB.ls.length) (rs:= []) 17 rfl rfl rfl (dF l) (by kernel_rfl) (fun _ _=>yk) (EZ (v:=vP g0 0) (rs:= []) 18 rfl rfl rfl (dF l) (by kernel_rfl) (fun _ _=>E5 rfl) (EZ (v:=vP g0 0) (rs:= []) 19 rfl rfl rfl (dF l) (by kernel_rfl) (fun _ _=>yk) (EZ (v:=vP g0 0) (rs:= []) 20 rfl rfl rfl (dF l) (by kernel_rfl) (fun _ _=>yk) (EZ (v:=vP g 0) (rs:= []) 21 rfl rfl rfl (dF l) (by kernel_rfl) (fun _ ⟨_,H9⟩=>EY rfl (bZ.one Tryz.isAgg24 (FE (H9.cls (i:=2) rfl) rfl))) (EZ (v:=vP g 0) (rs:= []) 22 rfl rfl rfl (dF l) (by kernel_rfl) (fun _ _=>yk) (EZ (v:=vP g 0) (rs:= []) 23 rfl rfl rfl (dF l) (by kernel_rfl) (fun _ _=>yk) (EZ (v:=vP g 5) (rs:= []) 24 rfl rfl rfl (dF l) (by kernel_rfl) (fun _ _=>yk) (EZ (v:= .slice r a.aa.aj.ls.length j) (rs:= []) 25 rfl rfl rfl (dF l) (by kernel_rfl) (fun _ ⟨_,H9⟩=>EY rfl (bZ.one Tryz.isAgg30 (FE (H9.cls (i:=0) rfl) rfl))) (EZ (v:=vJ a.aa.aj.ls.length) (rs:= []) 26 rfl rfl rfl (dF l) (by kernel_rfl) (fun _ _=>yk) (EZ (v:=vJ (a.aB.ls.length+a.aa.aj.ls.length)) (rs:= []) 27 rfl rfl rfl (dF l) (by kernel_rfl) (fun _ _=>EQ (e:=IntKind.i64.wrap (((a.aB.ls.length:Nat):Int)+((a.aa.aj.ls.length:Nat):Int))) yk (by rw [IR _ (by omega)]; omega)) (EZ (v:= .bool (decide (((a.aB.ls.length+a.aa.aj.ls.length:Nat):Int) ≥ 8))) (rs:= []) 28 rfl rfl rfl (dF l) (by kernel_rfl) (fun _ _=>yk) (qt (v:= .bool (decide (((a.aB.ls.length+a.aa.aj.ls.length:Nat):Int) ≥ 8))) 29 rfl (fun _ _=>ES rfl (dF l) rfl) (qv 30 rfl rfl ?_))))))))))))))))))))
 by_cases aM:((a.aB.ls.length+a.aa.aj.ls.length:Nat):Int) ≥ 8
 refine EW (rs:= []) 31 rfl rfl rfl (dT aM) (by kernel_rfl) (EW (rs:= []) 32 rfl rfl rfl (dT aM) (by kernel_rfl) (EW (rs:= []) 33 rfl rfl rfl (dT aM) (by kernel_rfl) (EW (rs:= []) 34 rfl rfl rfl (dT aM) (by kernel_rfl) (qt (v:= .bool true) 35 rfl (fun _ _=>Fa rfl (dT aM) rfl) (qa 36 rfl rfl (qn (ER (EP (sr (Mz rfl (Mz rfl (Sz rfl (Sz rfl (fw (.bool true) (Fa rfl rfl rfl) (nt (jt (sr (Mz rfl (Mz rfl (Kz (vP dE 6) (Lz (vU d.aU) di 1 Tryz.isAgg28 ?_)))))))))))))))))))))
 have kP:=di.px [2,3,4] [] [1,5,6,7,8,9,10,11,22,23]
 obtain⟨⟨eU,aF⟩,eX⟩:∃ q:bQ × aC,d9 p0 p1 d.aU 2 ([]) (aC.mk a.aa (Int.toNat (IntKind.u64.wrap (((a.bH:Nat):Int)+1))) (Ll.mk a.aB.ls) a.aR a.aN a.aM a.aO a.aP a.di a.cB a.cZ a.cK a.cO)=q:=⟨_,rfl⟩
 obtain⟨sO,iK,qc,iL,qf⟩:=FU kP
 refine cl Tryz.call106 (jM _ _ g0 p0 bL bO bF p1 d.aU 2 none 0 0 [] ([]) g (aC.mk a.aa (Int.toNat (IntKind.u64.wrap (((a.bH:Nat):Int)+1))) (Ll.mk a.aB.ls) a.aR a.aN a.aM a.aO a.aP a.di a.cB a.cZ a.cK a.cO) n p r j C E J G O P ah Q S aj T U ak V W au X Y av eU aF iK bE rfl (fun _ _=>bD.nil _ _ _) (fun _ h9=>absurd h9 List.not_mem_nil) rfl (by simp) (by first | omega | (simp only [List.length_take,List.length_drop]; omega) | exact Nat.le_refl _) aP aQ aR aS aU (by first | omega | (dsimp only; omega) | (simp only [List.length_nil]; omega) | decide) (by first | omega | (simp only [List.length_nil]; omega) | decide) (by first | omega | (simp only [List.length_nil]; omega) | decide) (by first | assumption | exact mi | exact Mk.kZ (by assumption) |>.1) eX) ?_
 rintro _ sP ⟨kQ,kR,kS,kT,kU,kV,kW,kX,kY,kZ,lc,lg,lh,ll,lm,lq,lu,lv,rfl,iM,eY,eZ,fe,fu,fB,fC,fD⟩
 have bR:=iL _ _ iM
 have qg:=aA eY
 have qh:=aA eZ
 have qi:=aA fe
 have qj:=aA fu
 have qm:=aA fB
 have qo:=aA fC
 have qw:=bR.rowC (i:=1) rfl
 have qx:=bR.rowC (i:=4) rfl
 have qy:=bR.rowC (i:=6) rfl
 have qz:=bR.rowC (i:=8) rfl
 have qA:=bR.rowC (i:=10) rfl
 have qB:=bR.rowC (i:=12) rfl
 replace fD:eU.bE.ls.length=p0.bE.ls.length+1:=fD
 refine nt (rt (tR (Fin.res (res0 rfl) ?_)))
 have lw:=bR.px [] [14,22,23] [4,5,6,7,8,9,10,11,12,13]
 obtain⟨rfl,rfl⟩:=fT (hr.symm.trans (show _=(eU,aC.mk (dC.mk aF.aa.au aF.aa.ay aF.aa.aY aF.aa.aH (Ll.mk a.aa.ag.ls) (Ll.mk a.aa.aj.ls) (Ll.mk a.aa.aG.ls)) aF.bH (Ll.mk a.aB.ls) aF.aR aF.aN aF.aM aF.aO aF.aP aF.di aF.cB aF.cZ aF.cK aF.cO) from et (ai cu) (et (ai cz) (et (ai bH) (et (iN l) (et (ip aM) (ai eX)))))))
 exact⟨kQ,kR,kS,n,p,r,j,N,C,E,ag,J,G,I,kT,kU,kV,kW,kX,kY,kZ,lc,lg,lh,ll,lm,lq,lu,lv,rfl,lw,eY,aB,aO,Z,eZ,fe,fu,fB,fC⟩
 refine EZ (v:=vU h) (rs:= []) 31 rfl rfl rfl (dF aM) (by kernel_rfl) (fun _ _=>E5 rfl) (EZ (v:=vU dG) (rs:= []) 32 rfl rfl rfl (dF aM) (by kernel_rfl) (fun _ _=>E5 rfl) (EZ (v:= .int .u64 ((Int.toNat (IntKind.u64.wrap (((h:Nat):Int) - ((dG:Nat):Int))):Nat):Int)) (rs:= []) 33 rfl rfl rfl (dF aM) (by kernel_rfl) (fun _ _=>EQ (e:=IntKind.u64.wrap (((h:Nat):Int) - ((dG:Nat):Int))) yk (fq _)) (EZ (v:= .bool (decide (((Int.toNat (IntKind.u64.wrap (((h:Nat):Int) - ((dG:Nat):Int))):Nat):Int) ≥ 64))) (rs:= []) 34 rfl rfl rfl (dF aM) (by kernel_rfl) (fun _ _=>yk) (qt (v:= .bool (decide (((Int.toNat (IntKind.u64.wrap (((h:Nat):Int) - ((dG:Nat):Int))):Nat):Int) ≥ 64))) 35 rfl (fun _ _=>ES rfl (dF aM) rfl) (qa 36 rfl rfl (qn (ER (EP (sr (Mz rfl (Mz rfl ?_)))))))))))
 by_cases bu:((Int.toNat (IntKind.u64.wrap (((h:Nat):Int) - ((dG:Nat):Int))):Nat):Int) ≥ 64
 refine Sz (dT bu) (Sz (dT bu) (fw (.bool true) (Fa rfl (dT bu) rfl) (nt (jt (sr (Mz rfl (Mz rfl (Kz (vP dE 6) (Lz (vU d.aU) di 1 Tryz.isAgg28 ?_)))))))))
 have lC:=di.px [2,3,4] [] [1,5,6,7,8,9,10,11,22,23]
 obtain⟨⟨fF,aG⟩,fG⟩:∃ q:bQ × aC,d9 p0 p1 d.aU 2 ([]) (aC.mk a.aa (Int.toNat (IntKind.u64.wrap (((a.bH:Nat):Int)+1))) (Ll.mk a.aB.ls) a.aR a.aN a.aM a.aO a.aP a.di a.cB a.cZ a.cK a.cO)=q:=⟨_,rfl⟩
 obtain⟨sQ,iO,qD,iQ,qE⟩:=FU lC
 refine cl Tryz.call106 (jM _ _ g0 p0 bL bO bF p1 d.aU 2 none 0 0 [] ([]) g (aC.mk a.aa (Int.toNat (IntKind.u64.wrap (((a.bH:Nat):Int)+1))) (Ll.mk a.aB.ls) a.aR a.aN a.aM a.aO a.aP a.di a.cB a.cZ a.cK a.cO) n p r j C E J G O P ah Q S aj T U ak V W au X Y av fF aG iO bE rfl (fun _ _=>bD.nil _ _ _) (fun _ h9=>absurd h9 List.not_mem_nil) rfl (by simp) (by first | omega | (simp only [List.length_take,List.length_drop]; omega) | exact Nat.le_refl _) aP aQ aR aS aU (by first | omega | (dsimp only; omega) | (simp only [List.length_nil]; omega) | decide) (by first | omega | (simp only [List.length_nil]; omega) | decide) (by first | omega | (simp only [List.length_nil]; omega) | decide) (by first | assumption | exact mi | exact Mk.kZ (by assumption) |>.1) fG) ?_
 rintro _ sS ⟨lD,lF,lG,lH,lI,lJ,lK,lL,lM,lN,lQ,lS,lT,lU,lV,lW,lX,lY,rfl,iR,fH,fI,fJ,fK,fM,fO,fP⟩
 have bT:=iQ _ _ iR
 have qF:=aA fH
 have qG:=aA fI
 have qH:=aA fJ
 have qI:=aA fK
 have qJ:=aA fM
 have qK:=aA fO
 have qM:=bT.rowC (i:=1) rfl
 have qN:=bT.rowC (i:=4) rfl
 have qO:=bT.rowC (i:=6) rfl
 have qP:=bT.rowC (i:=8) rfl
 have qQ:=bT.rowC (i:=10) rfl
 have qR:=bT.rowC (i:=12) rfl
 replace fP:fF.bE.ls.length=p0.bE.ls.length+1:=fP
 refine nt (rt (tR (Fin.res (res0 rfl) ?_)))
 have lZ:=bT.px [] [14,22,23] [4,5,6,7,8,9,10,11,12,13]
 obtain⟨rfl,rfl⟩:=fT (hr.symm.trans (show _=(fF,aC.mk (dC.mk aG.aa.au aG.aa.ay aG.aa.aY aG.aa.aH (Ll.mk a.aa.ag.ls) (Ll.mk a.aa.aj.ls) (Ll.mk a.aa.aG.ls)) aG.bH (Ll.mk a.aB.ls) aG.aR aG.aN aG.aM aG.aO aG.aP aG.di aG.cB aG.cZ aG.cK aG.cO) from et (ai cu) (et (ai cz) (et (ai bH) (et (iN l) (et (iN aM) (et (ip bu) (ai fG))))))))
 exact⟨lD,lF,lG,n,p,r,j,N,C,E,ag,J,G,I,lH,lI,lJ,lK,lL,lM,lN,lQ,lS,lT,lU,lV,lW,lX,lY,rfl,lZ,fH,aB,aO,Z,fI,fJ,fK,fM,fO⟩
 refine gw (vI dI) (dF bu) (E5 rfl) (gw (.bool (decide (¬ (dI=0)))) (dF bu) (Fq (e:= !(decide (dI=0))) yk decide_not.symm) (fw (.bool (decide (¬ (dI=0)))) (ES rfl (dF bu) rfl) (nt ?_)))
 by_cases dS:dI=0
 refine jF (dF (IV dS)) (sk (sr (Mz rfl (Kz (vJ b.length) (An rfl (EP ?_))))))
 refine oF 24 [] (E9 Fp) di ?_
 intro sU l5
 refine qv 0 rfl rfl (qv 1 rfl rfl (qp dE 6 2 rfl (ql 3 rfl 1 Tryz.isAgg28 rfl rfl rfl (qv 4 rfl rfl (qp g0 0 5 rfl (qp g0 0 6 rfl (ql 7 rfl 2 Tryz.isAgg24 rfl rfl rfl (qp g 0 8 rfl (qp g 0 9 rfl (qp g 3 10 rfl (ql 11 rfl 0 Tryz.isAgg28 rfl rfl rfl (qp dE 18 12 rfl (ql 13 rfl 1 Tryz.isAgg39 rfl rfl rfl (qv 15 rfl rfl (qv 16 rfl rfl (qv 18 rfl rfl ?_))))))))))))))))
 have qU:List.length (List.replicate b.length false)=b.length:=List.length_replicate
 have qV:List.length (List.replicate b.length (Sv.mk none 0 []:bM))=b.length:=List.length_replicate
 have qW:List.length (List.replicate b.length (Ll.mk []:Ll aZ))=b.length:=List.length_replicate
 refine Eh ⟨14,_,_,_,_,_,Option Addr × Nat,fun g9=> .slice g9.1 d.aD.ls.length g9.2,fun _=>True,fun g9=> [row g9.1 d.aD.ls.length g9.2 (List.flatMap bC.cells d.aD.ls) 72 6]⟩ ⟨17,_,_,_,_,_,Option Addr,fun g9=> .slice g9 b.length b.length,fun _=>True,fun g9=> [row g9 b.length b.length (List.flatMap eL (List.replicate b.length false)) 4 1]⟩ ⟨19,_,_,_,_,_,Option Addr,fun g9=> .slice g9 b.length b.length,fun _=>True,fun g9=> [sepL (List.flatMap bM.own (List.replicate b.length (Sv.mk none 0 []:bM))),row g9 b.length b.length (List.flatMap (FJ (β:=af)) (List.replicate b.length (Sv.mk none 0 []:bM))) 40 1]⟩ ⟨21,_,_,_,_,_,Nat,fun g9=>vP g9 0,fun _=>True,fun g9=> [blk g9 (qC 0 0 0 0 none 0 0 none 0 0 none 0 0 none 0 0 0) 107]⟩ 20 24 l5 ⟨⟨rfl,rfl,rfl, ?_⟩,⟨rfl,rfl,rfl, ?_⟩,⟨rfl,rfl,rfl, ?_⟩,⟨rfl,rfl,rfl, ?_⟩,trivial⟩ rfl ?_
 intro sV L' l6
 refine(FP (cs:=(qC 0 0 0 0 none 0 0 none 0 0 none 0 0 none 0 0 0)) (t:=107) l6 rfl rfl (fun _=>by kernel_rfl) ?_)
 intro aN sW l7
 exact⟨aN,rfl,trivial,l7⟩
 intro sZ L' l8
 obtain⟨tq,iT,iU,iV,qX⟩:=EU l8
 refine(Fe Tryz.call109 rfl (mV _ _ dw d.aD.ls.length dx d.aD.ls d.aD.ls iT (iU _ eu) rfl (by omega) rfl) ?_)
 rintro _ tu ⟨K,L,rfl,iW⟩
 have l9:=iV _ _ iW
 exact⟨(K,L),rfl,trivial,l9⟩
 intro tC L' mf
 refine(F5 (x0:=false) (z:= .bool false) (k:=b.length) (size:=1) (bytes:=1) nW (by decide) rfl Tryz.underlying104 (by kernel_rfl) mf rfl rfl (by omega) (by unfold maxLen; omega) ?_)
 intro B tF mg
 exact⟨B,rfl,trivial,mg⟩
 intro tH L' mh
 refine(F5 (x0:=(Sv.mk none 0 []:bM)) (z:= .slice none 0 0) (k:=b.length) (size:=1) (bytes:=24) qL (by decide) rfl Tryz.underlying105 (by kernel_rfl) mh rfl rfl (by omega) (by unfold maxLen; omega) ?_)
 intro M tJ mo
 have mq:=mo.free (R:=sepL (List.flatMap bM.own (List.replicate b.length (Sv.mk none 0 []:bM)))) (ui (Ce (fo 149 3) (xZ fun _ h9=>absurd h9 List.not_mem_nil)))
 exact⟨M,rfl,trivial,mq⟩
 rintro ⟨K,L⟩ _ B _ M _
 refine⟨.agg (qC h p1 d.aU a.aa.aH K d.aD.ls.length L ae b.length aJ B b.length b.length M b.length b.length 0).toArray,fun _=>yk, ?_⟩
 rintro aN _
 intro mr mD
 have dU:Own w D mr (blk aN (qC 0 0 0 0 none 0 0 none 0 0 none 0 0 none 0 0 0) 107::sepL (List.flatMap bM.own (List.replicate b.length (Sv.mk none 0 []:bM)))::row M b.length b.length (List.flatMap (FJ (β:=af)) (List.replicate b.length (Sv.mk none 0 []:bM))) 40 1::row B b.length b.length (List.flatMap eL (List.replicate b.length false)) 4 1::row K d.aD.ls.length L (List.flatMap bC.cells d.aD.ls) 72 6::_):=mD.flat.pf []
 have qY:=dU.rowC (i:=2) rfl
 have qZ:=dU.rowC (i:=3) rfl
 have q8:=dU.rowC (i:=4) rfl
 have mE:=dU.pb [0,1,2,3,4]
 have mF:=mE.pf [24]
 refine qe 22 rfl (Do.store (vs:=(qC h p1 d.aU a.aa.aH K d.aD.ls.length L ae b.length aJ B b.length b.length M b.length b.length 0)) (o:=0) mF rfl rfl Tryz.sizeOf107 rfl rfl rfl rfl ?_)
 intro tK mG
 have ig:=mG.pb [0,25,26,27,28]
 refine⟨.inr ⟨_,ig⟩, ?_⟩
 refine qn (ER (EP ?_))
 have mH:=ig.px [] [1] []
 have dL:b.length=List.length (List.replicate b.length (Ll.mk []:Ll aZ)):=by first | omega | (simp only [List.length_set]; done) | (simp only [List.length_set,List.length_append,List.length_cons,List.length_nil,List.length_take,List.length_drop,List.length_replicate]; omega)
 have mI:=mH.pf [23]
 have mJ:=FZ 7 dL mI
 have mK:=mJ.pf [25]
 have mM:=FK dL mK
 have mO:=mM.pb [1,25,0,26,27]
 have dN:b.length=List.length (List.replicate b.length false):=by first | omega | (simp only [List.length_set]; done) | (simp only [List.length_set,List.length_append,List.length_cons,List.length_nil,List.length_take,List.length_drop,List.length_replicate]; omega)
 have mP:=mO.pf [23]
 have mQ:=FZ 6 dN mP
 have mR:=mQ.pf [26]
 have mU:=FK dN mR
 have mW:=mU.pb [1,25,26,0,27]
 have mX:=mW.pf [0,1,23]
 refine CG [16] (E9 Fp) mX ?_
 intro tL mY
 refine qv 0 rfl rfl (qp g0 0 1 rfl (qp g0 0 2 rfl (ql 3 rfl 1 Tryz.isAgg24 rfl rfl rfl (qv 4 rfl rfl (qp g0 0 5 rfl (qp g0 0 6 rfl (ql 7 rfl 1 Tryz.isAgg24 rfl rfl rfl (qp g 0 8 rfl (qp g 8 9 rfl (ql 10 rfl 0 Tryz.isAgg79 rfl rfl rfl (qt (v:= .agg (qC h p1 d.aU a.aa.aH K d.aD.ls.length L ae b.length aJ B (List.length (List.replicate b.length false)) b.length M (List.length (List.replicate b.length (Ll.mk []:Ll aZ))) b.length 0).toArray) 11 rfl (fun _ ⟨_,H9⟩=>EY rfl (Fb (cs:=(qC h p1 d.aU a.aa.aH K d.aD.ls.length L ae b.length aJ B (List.length (List.replicate b.length false)) b.length M (List.length (List.replicate b.length (Ll.mk []:Ll aZ))) b.length 0)) Tryz.isAgg107 Tryz.sizeOf107 ((H9.cls (i:=2) rfl).lit (k:=0) (m:=9) rfl))) ?_)))))))))))
 refine qd 12 rfl (F9 (cs:=(qC h p1 d.aU a.aa.aH K d.aD.ls.length L ae b.length aJ B (List.length (List.replicate b.length false)) b.length M (List.length (List.replicate b.length (Ll.mk []:Ll aZ))) b.length 0)) (t:=107) (sz:=9) (m:=1) mY rfl rfl (fun _=>by kernel_rfl) rfl (by decide) ?_)
 intro ik tN fQ
 replace fQ:=Fx (y:=row ik 1 1 (List.flatMap bB.cells ([(bB.mk h p1 d.aU a.aa.aH (Sv.mk K L d.aD.ls) (Sv.mk ae aJ aY) (Sv.mk B b.length (List.replicate b.length false)) (Sv.mk M b.length (List.replicate b.length (Sv.mk none 0 []:bM))) 0)])) 107 9) (CU (fun z9 z8=>row ik 1 1 [vU h,vI p1,vU d.aU,vU a.aa.aH, .slice K d.aD.ls.length L, .slice ae z9 aJ, .slice B (List.length (List.replicate b.length false)) b.length, .slice M z8 b.length,vI 0] 107 9) (aA bq).symm (aA (List.map_replicate (f:=bM.abs))).symm) fQ
 have iq:=fQ.pf [1,2,3]
 refine⟨.inr ⟨_,iq⟩, ?_⟩
 have iw:=iq.pf [11,12,28,23,27,26,24,25]
 refine qd 13 rfl (Fy (k:=a.aB.ls.length) (m:=1) (oQ) iw rfl rfl (iP Tryz.underlying79 (iw.rds (i:=11) rfl) (fA bB.one ([(bB.mk h p1 d.aU a.aa.aH (Sv.mk K L d.aD.ls) (Sv.mk ae aJ aY) (Sv.mk B b.length (List.replicate b.length false)) (Sv.mk M b.length (List.replicate b.length (Sv.mk none 0 []:bM))) 0)]))) rfl (by omega) (s:=List.length (a.aB.ls++ [(dM.mk h p1 d.aU a.aa.aH (Ll.mk d.aD.ls) (Ll.mk b) (Ll.mk (List.replicate b.length false)) (Ll.mk (List.replicate b.length (Ll.mk []:Ll aZ))) 0)])) (by first | omega | (simp only [List.length_append,List.length_cons,List.length_nil] <;> omega)) (List.flatMap_append).symm ?_)
 intro dA cB ng ni
 have nk:=ni.pf [3]
 have nu:=FK (aA bq).symm nk
 have ny:=nu.pf [5]
 have nz:=FK (n':=List.length (List.replicate b.length (Sv.mk none 0 []:bM))) (aA (List.map_replicate (f:=bM.abs))).symm ny
 have nA:=nz.pf [3,4,1,5,0,6,7]
 have nC:Own w D ng (sepL (List.flatMap bB.own (I++ [(bB.mk h p1 d.aU a.aa.aH (Sv.mk K L d.aD.ls) (Sv.mk ae aJ aY) (Sv.mk B b.length (List.replicate b.length false)) (Sv.mk M b.length (List.replicate b.length (Sv.mk none 0 []:bM))) 0)]))::_):=nA.sepAdd (L2:= [row K d.aD.ls.length L (List.flatMap bC.cells d.aD.ls) 72 6,row ae aY.length aJ (List.flatMap bG.cells aY) 172 3,row B (List.length (List.replicate b.length false)) b.length (List.flatMap eL (List.replicate b.length false)) 4 1,row M (List.length (List.replicate b.length (Sv.mk none 0 []:bM))) b.length (List.flatMap (FJ (β:=af)) (List.replicate b.length (Sv.mk none 0 []:bM))) 40 1,sepL (List.flatMap bG.own aY),sepL (List.flatMap bM.own (List.replicate b.length (Sv.mk none 0 []:bM)))]) (List.flatMap_append (f:=bB.own) (xs:=I) (ys:= [(bB.mk h p1 d.aU a.aa.aH (Sv.mk K L d.aD.ls) (Sv.mk ae aJ aY) (Sv.mk B b.length (List.replicate b.length false)) (Sv.mk M b.length (List.replicate b.length (Sv.mk none 0 []:bM))) 0)])).symm
 have q9:List.length (a.aB.ls++ [(dM.mk h p1 d.aU a.aa.aH (Ll.mk d.aD.ls) (Ll.mk b) (Ll.mk (List.replicate b.length false)) (Ll.mk (List.replicate b.length (Ll.mk []:Ll aZ))) 0)])=a.aB.ls.length+1:=by simp only [List.length_append,List.length_cons,List.length_nil]
 have rf:=aA (og (es:= [(bB.mk h p1 d.aU a.aa.aH (Sv.mk K L d.aD.ls) (Sv.mk ae aJ aY) (Sv.mk B b.length (List.replicate b.length false)) (Sv.mk M b.length (List.replicate b.length (Sv.mk none 0 []:bM))) 0)]) (ms:= [(dM.mk h p1 d.aU a.aa.aH (Ll.mk d.aD.ls) (Ll.mk b) (Ll.mk (List.replicate b.length false)) (Ll.mk (List.replicate b.length (Ll.mk []:Ll aZ))) 0)]) Z (CU (fun z9 z8=> [dM.mk h p1 d.aU a.aa.aH (Ll.mk d.aD.ls) (Ll.mk z9) (Ll.mk (List.replicate b.length false)) (Ll.mk z8) 0]) bq (List.map_replicate (f:=bM.abs))))
 have iy:=nC.pf [2,3,4]
 refine⟨.inr ⟨_,iy⟩, ?_⟩
 refine qp g 0 14 rfl (qp g 8 15 rfl ?_)
 refine qe 16 rfl (Do.store (vs:= [.slice dA (List.length (a.aB.ls++ [(dM.mk h p1 d.aU a.aa.aH (Ll.mk d.aD.ls) (Ll.mk b) (Ll.mk (List.replicate b.length false)) (Ll.mk (List.replicate b.length (Ll.mk []:Ll aZ))) 0)])) cB]) (o:=8) iy rfl rfl Tryz.sizeOf79 rfl rfl rfl rfl ?_)
 intro tO nD
 refine⟨.inl (by kernel_rfl), ?_⟩
 refine qn (ER ?_)
 have iA:=nD.px [] [5] []
 refine EO (Mz rfl ?_)
 refine WL.do rfl (Fe Tryz.call64 rfl ?_ (fun _ _ k=>k))
 refine cb Tryz.func64 ?_
 refine sr (Mz rfl (Kz (vP aN 0) (Kz (vP aN 5) (Lz (.slice ae b.length aJ) iA 2 Tryz.isAgg103 (Kz (vJ b.length) (Mn rfl (bo ?_)))))))
 have nE:=iA.pb [5,6]
 obtain⟨nG,dm⟩:=zZ fun(u:Nat) (cK:Option Addr) (cO:Nat) (bU:List bA) (aH:List bP) (w':World)=>Own w D w' [blk g [vI a.aa.au,vU a.aa.ay,vU a.aa.aY,vU a.aa.aH, .slice n a.aa.ag.ls.length p, .slice r a.aa.aj.ls.length j, .slice C a.aa.aG.ls.length E, .int .u64 ((Int.toNat (IntKind.u64.wrap (((a.bH:Nat):Int)+1)):Nat):Int), .slice dA (List.length (a.aB.ls++ [(dM.mk h p1 d.aU a.aa.aH (Ll.mk d.aD.ls) (Ll.mk b) (Ll.mk (List.replicate b.length false)) (Ll.mk (List.replicate b.length (Ll.mk []:Ll aZ))) 0)])) cB, .bool a.aR.aS,vU a.aR.aK,vI a.aR.bi, .slice O a.aR.ae.ls.length P, .bool a.aN.aS,vU a.aN.aK,vI a.aN.bi, .slice Q a.aN.ae.ls.length S, .bool a.aM.aS,vU a.aM.aK,vI a.aM.bi, .slice T a.aM.ae.ls.length U, .bool a.aO.aS,vU a.aO.aK,vI a.aO.bi, .slice V a.aO.ae.ls.length W, .bool a.aP.aS,vU a.aP.aK,vI a.aP.bi, .slice X a.aP.ae.ls.length Y,vU a.di,vU a.cB,vU a.cZ,vU a.cK,vU a.cO, .pointer none] 86,blk g0 [vP g 0, .slice cK aH.length cO] 98,blk aN (qC h p1 d.aU a.aa.aH K d.aD.ls.length L ae b.length aJ B (List.length (List.replicate b.length false)) b.length M (List.length (List.replicate b.length (Ll.mk []:Ll aZ))) b.length 0) 107,sepL (List.flatMap bB.own (I++ [(bB.mk h p1 d.aU a.aa.aH (Sv.mk K L d.aD.ls) (Sv.mk ae aJ aY) (Sv.mk B b.length (List.replicate b.length false)) (Sv.mk M b.length (List.replicate b.length (Sv.mk none 0 []:bM))) 0)])),row dA (List.length (a.aB.ls++ [(dM.mk h p1 d.aU a.aa.aH (Ll.mk d.aD.ls) (Ll.mk b) (Ll.mk (List.replicate b.length false)) (Ll.mk (List.replicate b.length (Ll.mk []:Ll aZ))) 0)])) cB (List.flatMap bB.cells (I++ [(bB.mk h p1 d.aU a.aa.aH (Sv.mk K L d.aD.ls) (Sv.mk ae aJ aY) (Sv.mk B b.length (List.replicate b.length false)) (Sv.mk M b.length (List.replicate b.length (Sv.mk none 0 []:bM))) 0)])) 107 9,row n a.aa.ag.ls.length p (List.flatMap bv.cells a.aa.ag.ls) 89 2,row r a.aa.aj.ls.length j (List.flatMap az.cells N) 60 5,sepL (List.flatMap az.own N),row C a.aa.aG.ls.length E (List.flatMap aX.cells ag) 56 4,sepL (List.flatMap aX.own ag),row O a.aR.ae.ls.length P (List.flatMap af.cells ah) 149 3,sepL (List.flatMap af.own ah),row Q a.aN.ae.ls.length S (List.flatMap af.cells aj) 149 3,sepL (List.flatMap af.own aj),row T a.aM.ae.ls.length U (List.flatMap af.cells ak) 149 3,sepL (List.flatMap af.own ak),row V a.aO.ae.ls.length W (List.flatMap af.cells au) 149 3,sepL (List.flatMap af.own au),row X a.aP.ae.ls.length Y (List.flatMap af.cells av) 149 3,sepL (List.flatMap af.own av),row cK aH.length cO (List.flatMap bA.cells bU) 42 21,sepL (List.flatMap bA.own bU)]∧List.map bA.abs bU=aH∧u≤b.length∧aH.length≤p0.bE.ls.length+u∧aH.length≤100000+u∧il p1 d a h b b 0 p0.bE.ls=il p1 d a h b (List.drop u b) u aH
 refine Wp.loop (fun i:Nat × (Option Addr) × Nat × (List bA) × (List bP)=> [(11,vJ i.1),(10,vJ b.length),(9, .slice ae b.length aJ),(0,vP g0 0),(1,vP aN 0)]) nG (fun i=>b.length - i.1) (0,bL,bO,bF,p0.bE.ls) ⟨rfl,rfl,rfl,rfl,rfl,trivial⟩ (dm.2 ⟨nE,by exact bE,by omega,by omega,by omega,rfl⟩) ?_
 rintro ⟨u,cK,cO,bU,aH⟩ tQ iZ
 show Wp _ _ _ [(11,vJ u),(10,vJ b.length),(9, .slice ae b.length aJ),(0,vP g0 0),(1,vP aN 0)] _ _
 obtain⟨bV,dn,rq,ru,ry,dQ⟩:=dm.1 iZ
 have rz:=aA dn
 refine sr (Kz (.bool (decide (((u:Nat):Int) < ((b.length:Nat):Int)))) (nt (EP ?_)))
 by_cases iB:((u:Nat):Int) < ((b.length:Nat):Int)
 obtain⟨F,bW⟩:=dK (ls:=aY) (i:=u) bG.len (by decide) (show bD _ 3 ae b.length (List.flatMap bG.cells aY) from (bz bV (i:=3) rfl (ax (List.mem_flatMap.2 ⟨_,List.mem_append_right _ (.head _), .tail _ (.head _)⟩) (fun w9 h9 a9 b9=>mZ (aA bq) (aT w9 h9 a9 b9))))) (by first | omega | (simp; done) | (simp; omega))
 have fZ:=eQ bq bW
 have rA:F.aD.ls.length≤F.aD.c∧F.aD.ls.length≤9223372036854775807:=bz bV (i:=3) rfl (φ:=fun _=>_) (ax (List.mem_flatMap.2 ⟨_,List.mem_append_right _ (.head _), .tail _ (.tail _ (.tail _ (.tail _ (.head _))))⟩) (ax (List.mem_flatMap.2 ⟨F,List.mem_of_getElem? bW, .head _⟩) bn))
 have rC:F.aJ.ls.length≤F.aJ.c∧F.aJ.ls.length≤9223372036854775807:=bz bV (i:=3) rfl (φ:=fun _=>_) (ax (List.mem_flatMap.2 ⟨_,List.mem_append_right _ (.head _), .tail _ (.tail _ (.tail _ (.tail _ (.head _))))⟩) (ax (List.mem_flatMap.2 ⟨F,List.mem_of_getElem? bW, .tail _ (.head _)⟩) bn))
 have rD:F.aD.ls.length≤24024:=j6 _ (List.mem_of_getElem? fZ)
 have gm:=drop_at fZ
 refine jT (dT iB) (sk (EP (bo (sr (Mz rfl (fw (.pointer (some ⟨ab ae,ao ae+u *3,none⟩)) (ET (sI) rfl rfl ((show bD _ 3 ae b.length (List.flatMap bG.cells aY) from (bz bV (i:=3) rfl (ax (List.mem_flatMap.2 ⟨_,List.mem_append_right _ (.head _), .tail _ (.head _)⟩) (fun w9 h9 a9 b9=>mZ (aA bq) (aT w9 h9 a9 b9))))).addr (i:=u) (by omega)) (by omega)) (fw (.agg (bG.cells F).toArray) (EY rfl (Fb (cs:=(bG.cells F)) Tryz.isAgg172 Tryz.sizeOf172 ((show bD _ 3 ae b.length (List.flatMap bG.cells aY) from (bz bV (i:=3) rfl (ax (List.mem_flatMap.2 ⟨_,List.mem_append_right _ (.head _), .tail _ (.head _)⟩) (fun w9 h9 a9 b9=>mZ (aA bq) (aT w9 h9 a9 b9))))).elem bG.len bW (by decide)))) ?_)))))))
 refine dP [vI 0, .slice none 0 0, .slice none 0 0] 172 bV ?_
 intro iC tT nK
 refine Az rfl ?_
 refine dO (bG.cells F) 0 nK Tryz.sizeOf172 ?_
 intro tV cZ
 refine ns (Mz rfl (Kz (vP aN 0) (Kz (vP aN 6) (Lz (.slice B (List.length (List.replicate b.length false)) b.length) cZ 3 Tryz.isAgg104 (Mz rfl ?_)))))
 obtain⟨gp,dR⟩:=dK (ls:=(List.replicate b.length false)) (i:=u) nW (by decide) (show bD _ 1 B (List.length (List.replicate b.length false)) (List.flatMap eL (List.replicate b.length false)) from (bz cZ (i:=4) rfl (ax (List.mem_flatMap.2 ⟨_,List.mem_append_right _ (.head _), .tail _ (.tail _ (.head _))⟩) aT))) (by first | omega | (simp; done) | (simp; omega))
 refine fw (.pointer (some ⟨ab B,ao B+u *1,none⟩)) (ET (wV) rfl rfl ((show bD _ 1 B (List.length (List.replicate b.length false)) (List.flatMap eL (List.replicate b.length false)) from (bz cZ (i:=4) rfl (ax (List.mem_flatMap.2 ⟨_,List.mem_append_right _ (.head _), .tail _ (.tail _ (.head _))⟩) aT))).addr (i:=u) (by omega)) (by omega)) (fw (.bool gp) (EY rfl (bZ.one Tryz.isAgg4 (((show bD _ 1 B (List.length (List.replicate b.length false)) (List.flatMap eL (List.replicate b.length false)) from (bz cZ (i:=4) rfl (ax (List.mem_flatMap.2 ⟨_,List.mem_append_right _ (.head _), .tail _ (.tail _ (.head _))⟩) aT))).elem nW dR (by decide)).at_ (k:=0) rfl))) (Kz (.bool (!gp)) (nt ?_)))
 rcases IW (gp) with dB | dB
 refine jF (cn dB) (Fs (bN (ER (EO (fw (vJ (u+1)) (EQ (e:=IntKind.i64.wrap (((u:Nat):Int)+1)) yk (by rw [IR _ (by omega)]; omega)) (Mz rfl (WL.nil ?_)))))))
 have nL:=cZ.px [] [0] []
 exact E8 (u+1,cK,cO,bU,aH) ⟨rfl,rfl,rfl,rfl,rfl,trivial⟩ (dm.2 ⟨nL,by exact dn,by omega,by omega,by omega,et (dQ) (et (congrArg (fun q=>il p1 d a h b q u aH) gm) (et (ai (bI dR)) (ip dB)))⟩) (by show b.length - (u+1) < b.length - u; omega)
 refine jT (cn dB) ?_
 refine oF 23 [19] (bS.block (E9 (E9 (bS.block Fp)))) cZ ?_
 intro tX nM
 refine qv 0 rfl rfl (qp iC 0 1 rfl (ql 2 rfl 0 Tryz.isAgg3 rfl rfl rfl (qv 3 rfl rfl (qp aN 0 4 rfl (qp aN 0 5 rfl (ql 6 rfl 3 Tryz.isAgg28 rfl rfl rfl (qv 7 rfl rfl (qp g0 0 8 rfl (qp g0 0 9 rfl (ql 10 rfl 2 Tryz.isAgg24 rfl rfl rfl (qv 12 rfl rfl (qp aN 0 13 rfl (qp aN 3 14 rfl (ql 15 rfl 3 Tryz.isAgg28 rfl rfl rfl (qp iC 1 16 rfl (ql 17 rfl 0 Tryz.isAgg39 rfl rfl rfl ?_))))))))))))))))
 have aW:=nM.pf [1]
 have rE:=aW.rowC (i:=7) rfl
 have rF:=aW.rowC (i:=5) rfl
 obtain⟨dV,gq⟩:∃ q,gu (aC.mk a.aa (Int.toNat (IntKind.u64.wrap (((a.bH:Nat):Int)+1))) (Ll.mk (a.aB.ls++ [(dM.mk h p1 d.aU a.aa.aH (Ll.mk d.aD.ls) (Ll.mk b) (Ll.mk (List.replicate b.length false)) (Ll.mk (List.replicate b.length (Ll.mk []:Ll aZ))) 0)])) a.aR a.aN a.aM a.aO a.aP a.di a.cB a.cZ a.cK a.cO)=q:=⟨_,rfl⟩
 obtain⟨tY,ja,rG,jb,aK⟩:=Fu aW
 refine qd 11 rfl (Fe Tryz.call108 rfl (nS _ _ g (aC.mk a.aa (Int.toNat (IntKind.u64.wrap (((a.bH:Nat):Int)+1))) (Ll.mk (a.aB.ls++ [(dM.mk h p1 d.aU a.aa.aH (Ll.mk d.aD.ls) (Ll.mk b) (Ll.mk (List.replicate b.length false)) (Ll.mk (List.replicate b.length (Ll.mk []:Ll aZ))) 0)])) a.aR a.aN a.aM a.aO a.aP a.di a.cB a.cZ a.cK a.cO) n p r j N C E dA cB (I++ [(bB.mk h p1 d.aU a.aa.aH (Sv.mk K L d.aD.ls) (Sv.mk ae aJ aY) (Sv.mk B b.length (List.replicate b.length false)) (Sv.mk M b.length (List.replicate b.length (Sv.mk none 0 []:bM))) 0)]) O P Q S T U V W X Y dV ja aB (aK _ 6 _ rfl aT) (show a.aa.aj.ls.length≤j∧a.aa.aj.ls.length≤9223372036854775807 from by omega) (fun x9 h9=>⟨aK _ 7 _ rfl (ax (List.mem_flatMap.2 ⟨x9,h9, .head _⟩) aT),bz (φ:=fun _=>_) aW (i:=8) rfl (ax (List.mem_flatMap.2 ⟨x9,h9, .head _⟩) bn)⟩) (og (es:= [(bB.mk h p1 d.aU a.aa.aH (Sv.mk K L d.aD.ls) (Sv.mk ae aJ aY) (Sv.mk B b.length (List.replicate b.length false)) (Sv.mk M b.length (List.replicate b.length (Sv.mk none 0 []:bM))) 0)]) (ms:= [(dM.mk h p1 d.aU a.aa.aH (Ll.mk d.aD.ls) (Ll.mk b) (Ll.mk (List.replicate b.length false)) (Ll.mk (List.replicate b.length (Ll.mk []:Ll aZ))) 0)]) Z (CU (fun z9 z8=> [dM.mk h p1 d.aU a.aa.aH (Ll.mk d.aD.ls) (Ll.mk z9) (Ll.mk (List.replicate b.length false)) (Ll.mk z8) 0]) bq (List.map_replicate (f:=bM.abs)))) (aK _ 4 _ rfl aT) (show List.length (a.aB.ls++ [(dM.mk h p1 d.aU a.aa.aH (Ll.mk d.aD.ls) (Ll.mk b) (Ll.mk (List.replicate b.length false)) (Ll.mk (List.replicate b.length (Ll.mk []:Ll aZ))) 0)])≤cB∧List.length (a.aB.ls++ [(dM.mk h p1 d.aU a.aa.aH (Ll.mk d.aD.ls) (Ll.mk b) (Ll.mk (List.replicate b.length false)) (Ll.mk (List.replicate b.length (Ll.mk []:Ll aZ))) 0)])≤9223372036854775807 from by omega) (fun x9 h9=>⟨aK _ 3 _ rfl (ax (List.mem_flatMap.2 ⟨x9,h9, .head _⟩) aT),bz (φ:=fun _=>_) aW (i:=4) rfl (ax (List.mem_flatMap.2 ⟨x9,h9, .head _⟩) bn),aK _ 3 _ rfl (ax (List.mem_flatMap.2 ⟨x9,h9, .tail _ (.head _)⟩) aT),bz (φ:=fun _=>_) aW (i:=4) rfl (ax (List.mem_flatMap.2 ⟨x9,h9, .tail _ (.head _)⟩) bn),(fun y1 k1=>⟨aK _ 3 _ rfl (ax (List.mem_flatMap.2 ⟨x9,h9, .tail _ (.tail _ (.tail _ (.tail _ (.head _))))⟩) (ax (List.mem_flatMap.2 ⟨y1,k1, .head _⟩) aT)),bz (φ:=fun _=>_) aW (i:=4) rfl (ax (List.mem_flatMap.2 ⟨x9,h9, .tail _ (.tail _ (.tail _ (.tail _ (.head _))))⟩) (ax (List.mem_flatMap.2 ⟨y1,k1, .head _⟩) bn)),aK _ 3 _ rfl (ax (List.mem_flatMap.2 ⟨x9,h9, .tail _ (.tail _ (.tail _ (.tail _ (.head _))))⟩) (ax (List.mem_flatMap.2 ⟨y1,k1, .tail _ (.head _)⟩) aT)),bz (φ:=fun _=>_) aW (i:=4) rfl (ax (List.mem_flatMap.2 ⟨x9,h9, .tail _ (.tail _ (.tail _ (.tail _ (.head _))))⟩) (ax (List.mem_flatMap.2 ⟨y1,k1, .tail _ (.head _)⟩) bn))⟩),aK _ 3 _ rfl (ax (List.mem_flatMap.2 ⟨x9,h9, .tail _ (.tail _ (.head _))⟩) aT),bz (φ:=fun _=>_) aW (i:=4) rfl (ax (List.mem_flatMap.2 ⟨x9,h9, .tail _ (.tail _ (.head _))⟩) bn),aK _ 3 _ rfl (ax (List.mem_flatMap.2 ⟨x9,h9, .tail _ (.tail _ (.tail _ (.head _)))⟩) aT),bz (φ:=fun _=>_) aW (i:=4) rfl (ax (List.mem_flatMap.2 ⟨x9,h9, .tail _ (.tail _ (.tail _ (.head _)))⟩) bn),(fun y1 k1=>⟨aK _ 3 _ rfl (ax (List.mem_flatMap.2 ⟨x9,h9, .tail _ (.tail _ (.tail _ (.tail _ (.tail _ (.head _)))))⟩) (ax (List.mem_flatMap.2 ⟨y1,k1, .head _⟩) aT)),bz (φ:=fun _=>_) aW (i:=4) rfl (ax (List.mem_flatMap.2 ⟨x9,h9, .tail _ (.tail _ (.tail _ (.tail _ (.tail _ (.head _)))))⟩) (ax (List.mem_flatMap.2 ⟨y1,k1, .head _⟩) bn)),(fun y2 k2=>⟨aK _ 3 _ rfl (ax (List.mem_flatMap.2 ⟨x9,h9, .tail _ (.tail _ (.tail _ (.tail _ (.tail _ (.head _)))))⟩) (ax (List.mem_flatMap.2 ⟨y1,k1, .tail _ (.head _)⟩) (ax (List.mem_flatMap.2 ⟨y2,k2, .head _⟩) aT))),bz (φ:=fun _=>_) aW (i:=4) rfl (ax (List.mem_flatMap.2 ⟨x9,h9, .tail _ (.tail _ (.tail _ (.tail _ (.tail _ (.head _)))))⟩) (ax (List.mem_flatMap.2 ⟨y1,k1, .tail _ (.head _)⟩) (ax (List.mem_flatMap.2 ⟨y2,k2, .head _⟩) bn)))⟩)⟩)⟩) (by first | omega | (dsimp only; omega) | (simp only [List.length_nil]; omega) | decide) gq) ?_)
 rintro _ tZ ⟨rfl,jc⟩
 have nN:=jb _ _ jc
 have iD:=nN.pf [1]
 refine⟨.inr ⟨_,iD⟩, ?_⟩
 refine qk (.agg (gN 3 0 F.dX 0 0 0 0 0 h dV 0 a.aa.aH 0 0 0 false ([]) ([]) F.aD.A F.aD.ls.length F.aD.c none 0 0 none 0 0).toArray) 18 rfl ?_
 have nO:=iD.pf [2,21,22]
 obtain⟨gy,gz⟩:∃ q,dD (bQ.mk (Ll.mk aH)) (bP.mk 3 0 F.dX 0 0 0 0 0 h dV 0 a.aa.aH 0 0 0 false (bK.mk ([]) ([])) (Ll.mk F.aD.ls) (Ll.mk ([])) (Ll.mk ([])))=q:=⟨_,rfl⟩
 obtain⟨uf,jd,rH,je,jf⟩:=FC nO
 refine qd 19 rfl (Fe Tryz.call65 rfl (fE _ _ g0 (bQ.mk (Ll.mk aH)) cK cO bU g (bP.mk 3 0 F.dX 0 0 0 0 0 h dV 0 a.aa.aH 0 0 0 false (bK.mk ([]) ([])) (Ll.mk F.aD.ls) (Ll.mk ([])) (Ll.mk ([]))) F.aD.A F.aD.ls.length F.aD.c none 0 0 [] none 0 0 gy jd dn rfl (jf _ 3 _ rfl (ax (List.mem_flatMap.2 ⟨_,List.mem_append_right _ (.head _), .tail _ (.tail _ (.tail _ (.tail _ (.head _))))⟩) (ax (List.mem_flatMap.2 ⟨F,List.mem_of_getElem? bW, .head _⟩) aT))) (show F.aD.ls.length≤F.aD.c∧F.aD.ls.length≤9223372036854775807 from by omega) rfl rfl (fun _ _=>bD.nil _ _ _) (by first | exact⟨IQ rfl,IQ rfl⟩ | omega | exact⟨Nat.le_refl _,by omega⟩) (fun _ h9=>absurd h9 List.not_mem_nil) rfl (fun _ _=>bD.nil _ _ _) (by first | exact⟨IQ rfl,IQ rfl⟩ | omega | exact⟨Nat.le_refl _,by omega⟩) (by first | omega | (dsimp only; omega) | (simp only [List.length_nil]; omega) | decide) (by first | assumption | exact dH (by assumption) | exact fun x hx=>absurd hx List.not_mem_nil | exact dH (Mk.lW (by assumption)).1 | exact dH (Mk.kZ (by assumption)).1 | exact dH (Mk.mg (by assumption)).1 | exact dH (Mk.mf (by assumption)).1 | exact dH (Mk.mh (by assumption)).1) gz) ?_)
 rintro _ ug ⟨nP,nQ,nR,rfl,jg,gB,gD⟩
 have iE:=je _ _ jg
 have rJ:=aA gB
 have rM:=iE.rowC (i:=1) rfl
 replace gD:gy.bE.ls.length=aH.length+1:=gD
 refine⟨.inl (by kernel_rfl), ?_⟩
 refine qn (bN (ER (EO (fw (vJ (u+1)) (EQ (e:=IntKind.i64.wrap (((u:Nat):Int)+1)) yk (by rw [IR _ (by omega)]; omega)) (Mz rfl (WL.nil ?_))))))
 have nT:=iE.px [4] [3] [1,2]
 exact E8 (u+1,nP,nQ,nR,gy.bE.ls) ⟨rfl,rfl,rfl,rfl,rfl,trivial⟩ (dm.2 ⟨nT,by exact gB,by omega,by omega,by omega,et (dQ) (et (congrArg (fun q=>il p1 d a h b q u aH) gm) (et (ai (bI dR)) (et (fU dB) (et (ai gq) (ai gz)))))⟩) (by show b.length - (u+1) < b.length - u; omega)
 refine jF (dF iB) (Wp.exit (EX ?_))
 have ji:il p1 d a h b b 0 p0.bE.ls=aH:=et (dQ) (et (congrArg (fun q=>il p1 d a h b q u aH) (eD (ls:=b) (i:=u) (by omega))) rfl)
 refine EX (Fg (Ff (res0 rfl) (WL.nil (Ff (res0 rfl) ?_))))
 have nU:=bV.px [1,20,21,0,5,6,7,8,9,4] [2] []
 obtain⟨rfl,rfl⟩:=fT (hr.symm.trans (show _=(bQ.mk (Ll.mk aH),aC.mk a.aa (Int.toNat (IntKind.u64.wrap (((a.bH:Nat):Int)+1))) (Ll.mk (a.aB.ls++ [(dM.mk h p1 d.aU a.aa.aH (Ll.mk d.aD.ls) (Ll.mk b) (Ll.mk (List.replicate b.length false)) (Ll.mk (List.replicate b.length (Ll.mk []:Ll aZ))) 0)])) a.aR a.aN a.aM a.aO a.aP a.di a.cB a.cZ a.cK a.cO) from et (ai cu) (et (ai cz) (et (ai bH) (et (iN l) (et (iN aM) (et (iN bu) (et (ip dS) (ai ji)))))))))
 exact⟨cK,cO,bU,n,p,r,j,N,C,E,ag,dA,cB,(I++ [(bB.mk h p1 d.aU a.aa.aH (Sv.mk K L d.aD.ls) (Sv.mk ae aJ aY) (Sv.mk B b.length (List.replicate b.length false)) (Sv.mk M b.length (List.replicate b.length (Sv.mk none 0 []:bM))) 0)]),O,P,ah,Q,S,aj,T,U,ak,V,W,au,X,Y,av,(by(first | rw [← dL] | skip); (first | rw [← dN] | skip); first | done | rfl),nU,dn,aB,aO,(og (es:= [(bB.mk h p1 d.aU a.aa.aH (Sv.mk K L d.aD.ls) (Sv.mk ae aJ aY) (Sv.mk B b.length (List.replicate b.length false)) (Sv.mk M b.length (List.replicate b.length (Sv.mk none 0 []:bM))) 0)]) (ms:= [(dM.mk h p1 d.aU a.aa.aH (Ll.mk d.aD.ls) (Ll.mk b) (Ll.mk (List.replicate b.length false)) (Ll.mk (List.replicate b.length (Ll.mk []:Ll aZ))) 0)]) Z (CU (fun z9 z8=> [dM.mk h p1 d.aU a.aa.aH (Ll.mk d.aD.ls) (Ll.mk z9) (Ll.mk (List.replicate b.length false)) (Ll.mk z8) 0]) bq (List.map_replicate (f:=bM.abs)))),aP,aQ,aR,aS,aU⟩
 refine jT (dT dS) (sr (Mz rfl (Mz rfl (Kz (vP dE 6) (Lz (vU d.aU) di 1 Tryz.isAgg28 ?_)))))
 have nV:=di.px [2,3,4] [] [1,5,6,7,8,9,10,11,22,23]
 obtain⟨⟨gF,aI⟩,gG⟩:∃ q:bQ × aC,d9 p0 p1 d.aU 2 ([]) (aC.mk a.aa (Int.toNat (IntKind.u64.wrap (((a.bH:Nat):Int)+1))) (Ll.mk a.aB.ls) a.aR a.aN a.aM a.aO a.aP a.di a.cB a.cZ a.cK a.cO)=q:=⟨_,rfl⟩
 obtain⟨uh,jk,rO,jl,rP⟩:=FU nV
 refine cl Tryz.call106 (jM _ _ g0 p0 bL bO bF p1 d.aU 2 none 0 0 [] ([]) g (aC.mk a.aa (Int.toNat (IntKind.u64.wrap (((a.bH:Nat):Int)+1))) (Ll.mk a.aB.ls) a.aR a.aN a.aM a.aO a.aP a.di a.cB a.cZ a.cK a.cO) n p r j C E J G O P ah Q S aj T U ak V W au X Y av gF aI jk bE rfl (fun _ _=>bD.nil _ _ _) (fun _ h9=>absurd h9 List.not_mem_nil) rfl (by simp) (by first | omega | (simp only [List.length_take,List.length_drop]; omega) | exact Nat.le_refl _) aP aQ aR aS aU (by first | omega | (dsimp only; omega) | (simp only [List.length_nil]; omega) | decide) (by first | omega | (simp only [List.length_nil]; omega) | decide) (by first | omega | (simp only [List.length_nil]; omega) | decide) (by first | assumption | exact mi | exact Mk.kZ (by assumption) |>.1) gG) ?_
 rintro _ uj ⟨nX,nY,nZ,oh,ol,om,oo,oq,ou,ow,oz,oC,oD,oG,oH,oI,oJ,oK,rfl,jm,gH,gI,gJ,gK,gL,gM,gQ⟩
 have bX:=jl _ _ jm
 have rQ:=aA gH
 have rR:=aA gI
 have rT:=aA gJ
 have rU:=aA gK
 have rV:=aA gL
 have rW:=aA gM
 have rX:=bX.rowC (i:=1) rfl
 have rY:=bX.rowC (i:=4) rfl
 have rZ:=bX.rowC (i:=6) rfl
 have r9:=bX.rowC (i:=8) rfl
 have si:=bX.rowC (i:=10) rfl
 have sj:=bX.rowC (i:=12) rfl
 replace gQ:gF.bE.ls.length=p0.bE.ls.length+1:=gQ
 refine nt (rt (tR (Fin.res (res0 rfl) ?_)))
 have oL:=bX.px [] [14,22,23] [4,5,6,7,8,9,10,11,12,13]
 obtain⟨rfl,rfl⟩:=fT (hr.symm.trans (show _=(gF,aC.mk (dC.mk aI.aa.au aI.aa.ay aI.aa.aY aI.aa.aH (Ll.mk a.aa.ag.ls) (Ll.mk a.aa.aj.ls) (Ll.mk a.aa.aG.ls)) aI.bH (Ll.mk a.aB.ls) aI.aR aI.aN aI.aM aI.aO aI.aP aI.di aI.cB aI.cZ aI.cK aI.cO) from et (ai cu) (et (ai cz) (et (ai bH) (et (iN l) (et (iN aM) (et (iN bu) (et (iN dS) (ai gG)))))))))
 exact⟨nX,nY,nZ,n,p,r,j,N,C,E,ag,J,G,I,oh,ol,om,oo,oq,ou,ow,oz,oC,oD,oG,oH,oI,oJ,oK,rfl,oL,gH,aB,aO,Z,gI,gJ,gK,gL,gM⟩
end Go.Proofs.YtbkagebjhbphaaaGreat
