/-
 coord: a transaction begins.
-/
import Derived.Test.YtbkagebjhbphaaaGreatCc
namespace Go.Proofs.YtbkagebjhbphaaaGreat
open Int renaming toNat→D2
open IntKind renaming i64→C7,u64→D3
open List renaming flatMap→q6,flatMap_append→r7,length→s2,length_append→p5,length_cons→s3,length_drop→p4,length_nil→G1,length_replicate→H7,length_set→H6,length_take→p3,map→s8,map_replicate→K4,mem_append_right→v5,mem_flatMap→P3,mem_of_getElem?→E0,not_mem_nil→B3,replicate→s0
open Ll renaming mk→E4
open Sv renaming mk→H5
open _root_.Go.Proofs.Tryz renaming call106→P8,isAgg24→O3,isAgg28→E1,isAgg39→P7,isAgg79→P1
set_option maxRecDepth 100000
open Go.RowKit
set_option linter.unusedVariables false
set_option linter.unusedSectionVars false
set_option linter.unusedSimpArgs false
def il (l:Int) (k:bQ) (a:aB) (e:Nat) (d:List gq):List gq→Nat→List bQ→(List bQ)
  | [],b,c=>c
  | f::g,b,c=>bnd (List.getD (s0 d.length false) b default) fun h=>if h=true then il l k a e d g (b+1) c else bnd (gG (aB.mk a.aa (D2 (D3.wrap (((a.bI:Nat):Int)+1))) (E4 (a.ak.ls++ [(dE.mk e l k.aU a.aa.aK (E4 k.aG.ls) (E4 d) (E4 (s0 d.length false)) (E4 (s0 d.length (E4 []:Ll aY))) 0)])) a.aR a.aN a.aO a.aP a.aM a.di a.cz a.cK a.cB a.cu)) fun i=>bnd (dA (bH.mk (E4 c)) (bQ.mk 3 0 f.dV 0 0 0 0 0 e i 0 a.aa.aK 0 0 0 false (bL.mk ([]) ([])) (E4 f.aG.ls) (E4 ([])) (E4 ([])))) fun j=>il l k a e d g (b+1) j.bB.ls
def dU (j:bH) (i:Int) (h:bQ) (a:aB):bH × aB:=
 bnd (gP a) fun g=>bnd (gG a) fun k=>bnd (lQ a.aa.ag.ls h.aG.ls) fun f=>if((a.ak.ls.length:Nat):Int) ≥ 6 then bnd (dB j i h.aU 2 ([]) (aB.mk a.aa (D2 (D3.wrap (((a.bI:Nat):Int)+1))) (E4 a.ak.ls) a.aR a.aN a.aO a.aP a.aM a.di a.cz a.cK a.cB a.cu)) fun e=>(e.1,aB.mk (dC.mk e.2.aa.av e.2.aa.ax e.2.aa.bf e.2.aa.aK (E4 a.aa.ag.ls) (E4 a.aa.aj.ls) (E4 a.aa.aI.ls)) e.2.bI (E4 a.ak.ls) e.2.aR e.2.aN e.2.aO e.2.aP e.2.aM e.2.di e.2.cz e.2.cK e.2.cB e.2.cu) else if((a.ak.ls.length+a.aa.aj.ls.length:Nat):Int) ≥ 8 then bnd (dB j i h.aU 2 ([]) (aB.mk a.aa (D2 (D3.wrap (((a.bI:Nat):Int)+1))) (E4 a.ak.ls) a.aR a.aN a.aO a.aP a.aM a.di a.cz a.cK a.cB a.cu)) fun b=>(b.1,aB.mk (dC.mk b.2.aa.av b.2.aa.ax b.2.aa.bf b.2.aa.aK (E4 a.aa.ag.ls) (E4 a.aa.aj.ls) (E4 a.aa.aI.ls)) b.2.bI (E4 a.ak.ls) b.2.aR b.2.aN b.2.aO b.2.aP b.2.aM b.2.di b.2.cz b.2.cK b.2.cB b.2.cu) else if((D2 (D3.wrap (((g:Nat):Int) - ((k:Nat):Int))):Nat):Int) ≥ 64 then bnd (dB j i h.aU 2 ([]) (aB.mk a.aa (D2 (D3.wrap (((a.bI:Nat):Int)+1))) (E4 a.ak.ls) a.aR a.aN a.aO a.aP a.aM a.di a.cz a.cK a.cB a.cu)) fun c=>(c.1,aB.mk (dC.mk c.2.aa.av c.2.aa.ax c.2.aa.bf c.2.aa.aK (E4 a.aa.ag.ls) (E4 a.aa.aj.ls) (E4 a.aa.aI.ls)) c.2.bI (E4 a.ak.ls) c.2.aR c.2.aN c.2.aO c.2.aP c.2.aM c.2.di c.2.cz c.2.cK c.2.cB c.2.cu) else if f.2=0 then bnd (il i h a g f.1 f.1 0 j.bB.ls) fun sLrbbbffftL=>(bH.mk (E4 sLrbbbffftL),aB.mk a.aa (D2 (D3.wrap (((a.bI:Nat):Int)+1))) (E4 (a.ak.ls++ [(dE.mk g i h.aU a.aa.aK (E4 h.aG.ls) (E4 f.1) (E4 (s0 f.1.length false)) (E4 (s0 f.1.length (E4 []:Ll aY))) 0)])) a.aR a.aN a.aO a.aP a.aM a.di a.cz a.cK a.cB a.cu) else bnd (dB j i h.aU 2 ([]) (aB.mk a.aa (D2 (D3.wrap (((a.bI:Nat):Int)+1))) (E4 a.ak.ls) a.aR a.aN a.aO a.aP a.aM a.di a.cz a.cK a.cB a.cu)) fun d=>(d.1,aB.mk (dC.mk d.2.aa.av d.2.aa.ax d.2.aa.bf d.2.aa.aK (E4 a.aa.ag.ls) (E4 a.aa.aj.ls) (E4 a.aa.aI.ls)) d.2.bI (E4 a.ak.ls) d.2.aR d.2.aN d.2.aO d.2.aP d.2.aM d.2.di d.2.cz d.2.cK d.2.cB d.2.cu)
set_option maxHeartbeats 4000000 in
theorem jw (w:World) (D:Nat→Prop) (g0:Nat) (p0:bH) (bM:Option Addr) (bR:Nat) (bE:List bF) (p1:Int) (d:bQ) (dw:Option Addr) (gW dx:Nat) (dZ:Option Addr) (gX d9:Nat) (ed:List af) (ek:Option Addr) (gY eu:Nat) (g:Nat) (a:aB) (n:Option Addr) (p:Nat) (r:Option Addr) (j:Nat) (N:List aA) (C:Option Addr) (E:Nat) (ag:List aZ) (J:Option Addr) (G:Nat) (I:List bA) (O:Option Addr) (P:Nat) (ah:List af) (Q:Option Addr) (S:Nat) (aj:List af) (T:Option Addr) (U:Nat) (ak:List af) (V:Option Addr) (W:Nat) (au:List af) (X:Option Addr) (Y:Nat) (av:List af) (r0:bH) (r1:aB) (H:Own w D w [blk g0 [.pointer (some ⟨g,0,none⟩), .slice bM p0.bB.ls.length bR] 98,row bM p0.bB.ls.length bR (q6 bF.cells bE) 42 21,sepL (q6 bF.own bE),blk g [.int .i64 a.aa.av, .int .u64 ((a.aa.ax:Nat):Int), .int .u64 ((a.aa.bf:Nat):Int), .int .u64 ((a.aa.aK:Nat):Int), .slice n a.aa.ag.ls.length p, .slice r a.aa.aj.ls.length j, .slice C a.aa.aI.ls.length E, .int .u64 ((a.bI:Nat):Int), .slice J a.ak.ls.length G, .bool a.aR.aT, .int .u64 ((a.aR.aF:Nat):Int), .int .i64 a.aR.bn, .slice O a.aR.ae.ls.length P, .bool a.aN.aT, .int .u64 ((a.aN.aF:Nat):Int), .int .i64 a.aN.bn, .slice Q a.aN.ae.ls.length S, .bool a.aO.aT, .int .u64 ((a.aO.aF:Nat):Int), .int .i64 a.aO.bn, .slice T a.aO.ae.ls.length U, .bool a.aP.aT, .int .u64 ((a.aP.aF:Nat):Int), .int .i64 a.aP.bn, .slice V a.aP.ae.ls.length W, .bool a.aM.aT, .int .u64 ((a.aM.aF:Nat):Int), .int .i64 a.aM.bn, .slice X a.aM.ae.ls.length Y, .int .u64 ((a.di:Nat):Int), .int .u64 ((a.cz:Nat):Int), .int .u64 ((a.cK:Nat):Int), .int .u64 ((a.cB:Nat):Int), .int .u64 ((a.cu:Nat):Int), .pointer none] 86,row n a.aa.ag.ls.length p (q6 bv.cells a.aa.ag.ls) 89 2,row r a.aa.aj.ls.length j (q6 aA.cells N) 60 5,sepL (q6 aA.own N),row C a.aa.aI.ls.length E (q6 aZ.cells ag) 56 4,sepL (q6 aZ.own ag),row J a.ak.ls.length G (q6 bA.cells I) 107 9,sepL (q6 bA.own I),row O a.aR.ae.ls.length P (q6 af.cells ah) 149 3,sepL (q6 af.own ah),row Q a.aN.ae.ls.length S (q6 af.cells aj) 149 3,sepL (q6 af.own aj),row T a.aO.ae.ls.length U (q6 af.cells ak) 149 3,sepL (q6 af.own ak),row V a.aP.ae.ls.length W (q6 af.cells au) 149 3,sepL (q6 af.own au),row X a.aM.ae.ls.length Y (q6 af.cells av) 149 3,sepL (q6 af.own av)]) (bB:s8 bF.abs bE=p0.bB.ls) (iF:gW=d.aG.ls.length) (eB:Ro w D fun w'=>bD w' 6 dw d.aG.ls.length (q6 bC.cells d.aG.ls)) (oP:d.aG.ls.length≤dx∧d.aG.ls.length≤9223372036854775807) (iG:s8 af.abs ed=d.ah.ls) (iH:gX=d.ah.ls.length) (oQ:Ro w D fun w'=>bD w' 3 dZ d.ah.ls.length (q6 af.cells ed)) (oU:d.ah.ls.length≤d9∧d.ah.ls.length≤9223372036854775807) (oV:∀ x ∈ ed,Ro w D (fun w'=>bD w' 2 x.au.A x.au.ls.length (q6 aL.cells x.au.ls))∧(x.au.ls.length≤x.au.c∧x.au.ls.length≤9223372036854775807)) (iI:gY=d.ag.ls.length) (oW:Ro w D fun w'=>bD w' 2 ek d.ag.ls.length (q6 bv.cells d.ag.ls)) (oZ:d.ag.ls.length≤eu∧d.ag.ls.length≤9223372036854775807) (aC:s8 aA.abs N=a.aa.aj.ls) (aO:s8 aZ.abs ag=a.aa.aI.ls) (Z:s8 bA.abs I=a.ak.ls) (aP:s8 af.abs ah=a.aR.ae.ls) (aQ:s8 af.abs aj=a.aN.ae.ls) (aR:s8 af.abs ak=a.aO.ae.ls) (aS:s8 af.abs au=a.aP.ae.ls) (aT:s8 af.abs av=a.aM.ae.ls) (uk:a.aa.ag.ls.length≤1000∧a.aa.aj.ls.length≤1000∧a.aa.aI.ls.length≤1000∧a.ak.ls.length≤1000∧p0.bB.ls.length≤100000) (ul:1≤p1∧p1≤4) (um:d.aG.ls.length≤24∧d.ag.ls.length≤1000∧d.ah.ls.length≤1000∧jZ d.aU) (hr:dU p0 p1 d a=(r0,r1)):
    Calls Tryz.prog 90 #[vP g0 0,vI p1, .agg (gD d.aH d.aJ d.eO d.aS d.dz d.eu d.aU d.ax d.bi d.dW d.bf d.aK d.dI d.cZ d.xN d.d9 d.bV.bK d.bV.bW dw gW dx dZ gX d9 ek gY eu).toArray] w (dR fun v w'=> ∃ (B0ox0:Option Addr) (b0ox0:Nat) (e0ox0:List bF) (B1ox0:Option Addr) (b1ox0:Nat) (B1ox1:Option Addr) (b1ox1:Nat) (e1ox1:List aA) (B1ox2:Option Addr) (b1ox2:Nat) (e1ox2:List aZ) (B1ox3:Option Addr) (b1ox3:Nat) (e1ox3:List bA) (B1ox4:Option Addr) (b1ox4:Nat) (e1ox4:List af) (B1ox5:Option Addr) (b1ox5:Nat) (e1ox5:List af) (B1ox6:Option Addr) (b1ox6:Nat) (e1ox6:List af) (B1ox7:Option Addr) (b1ox7:Nat) (e1ox7:List af) (B1ox8:Option Addr) (b1ox8:Nat) (e1ox8:List af),v= .tuple #[]∧Own w D w' [blk g0 [vP g 0, .slice B0ox0 r0.bB.ls.length b0ox0] 98,row B0ox0 r0.bB.ls.length b0ox0 (q6 bF.cells e0ox0) 42 21,sepL (q6 bF.own e0ox0),blk g [vI r1.aa.av,vU r1.aa.ax,vU r1.aa.bf,vU r1.aa.aK, .slice B1ox0 r1.aa.ag.ls.length b1ox0, .slice B1ox1 r1.aa.aj.ls.length b1ox1, .slice B1ox2 r1.aa.aI.ls.length b1ox2,vU r1.bI, .slice B1ox3 r1.ak.ls.length b1ox3, .bool r1.aR.aT,vU r1.aR.aF,vI r1.aR.bn, .slice B1ox4 r1.aR.ae.ls.length b1ox4, .bool r1.aN.aT,vU r1.aN.aF,vI r1.aN.bn, .slice B1ox5 r1.aN.ae.ls.length b1ox5, .bool r1.aO.aT,vU r1.aO.aF,vI r1.aO.bn, .slice B1ox6 r1.aO.ae.ls.length b1ox6, .bool r1.aP.aT,vU r1.aP.aF,vI r1.aP.bn, .slice B1ox7 r1.aP.ae.ls.length b1ox7, .bool r1.aM.aT,vU r1.aM.aF,vI r1.aM.bn, .slice B1ox8 r1.aM.ae.ls.length b1ox8,vU r1.di,vU r1.cz,vU r1.cK,vU r1.cB,vU r1.cu, .pointer none] 86,row B1ox0 r1.aa.ag.ls.length b1ox0 (q6 bv.cells r1.aa.ag.ls) 89 2,row B1ox1 r1.aa.aj.ls.length b1ox1 (q6 aA.cells e1ox1) 60 5,sepL (q6 aA.own e1ox1),row B1ox2 r1.aa.aI.ls.length b1ox2 (q6 aZ.cells e1ox2) 56 4,sepL (q6 aZ.own e1ox2),row B1ox3 r1.ak.ls.length b1ox3 (q6 bA.cells e1ox3) 107 9,sepL (q6 bA.own e1ox3),row B1ox4 r1.aR.ae.ls.length b1ox4 (q6 af.cells e1ox4) 149 3,sepL (q6 af.own e1ox4),row B1ox5 r1.aN.ae.ls.length b1ox5 (q6 af.cells e1ox5) 149 3,sepL (q6 af.own e1ox5),row B1ox6 r1.aO.ae.ls.length b1ox6 (q6 af.cells e1ox6) 149 3,sepL (q6 af.own e1ox6),row B1ox7 r1.aP.ae.ls.length b1ox7 (q6 af.cells e1ox7) 149 3,sepL (q6 af.own e1ox7),row B1ox8 r1.aM.ae.ls.length b1ox8 (q6 af.cells e1ox8) 149 3,sepL (q6 af.own e1ox8)]∧(s8 bF.abs e0ox0=r0.bB.ls)∧(s8 aA.abs e1ox1=r1.aa.aj.ls)∧(s8 aZ.abs e1ox2=r1.aa.aI.ls)∧(s8 bA.abs e1ox3=r1.ak.ls)∧(s8 af.abs e1ox4=r1.aR.ae.ls)∧(s8 af.abs e1ox5=r1.aN.ae.ls)∧(s8 af.abs e1ox6=r1.aO.ae.ls)∧(s8 af.abs e1ox7=r1.aP.ae.ls)∧(s8 af.abs e1ox8=r1.aM.ae.ls)):=by
 subst iF iH iI
 have oN:=az bB
 have oO:=az iG
 have jm:=az aC
 have jo:=az aO
 have jq:=az Z
 have jr:=az aP
 have jv:=az aQ
 have jy:=az aR
 have jA:=az aS
 have jB:=az aT
 have o5:=H.rowC (i:=1) rfl
 have jC:=H.rowC (i:=4) rfl
 have jD:=H.rowC (i:=5) rfl
 have jE:=H.rowC (i:=7) rfl
 have jG:=H.rowC (i:=9) rfl
 have jH:=H.rowC (i:=11) rfl
 have jI:=H.rowC (i:=13) rfl
 have jJ:=H.rowC (i:=15) rfl
 have jK:=H.rowC (i:=17) rfl
 have jM:=H.rowC (i:=19) rfl
 refine cb Tryz.func90 ?_
 refine sr ?_
 refine dM (gT d dw dx dZ d9 ek eu) 42 H ?_
 intro dI uo o6
 refine nt (FU ?_)
 refine oJ 22 [] (F8 Gh) o6 ?_
 intro uq o7
 refine qv 0 rfl rfl (qp g0 0 1 rfl (qp g0 0 2 rfl (ql 3 rfl 1 O3 rfl rfl rfl (qv 5 rfl rfl (qp g0 0 6 rfl (qp g0 0 7 rfl (ql 8 rfl 1 O3 rfl rfl rfl ?_)))))))
 have o9:=o7.pf [4]
 obtain⟨h,cu⟩:∃ q,gP a=q:=⟨_,rfl⟩
 obtain⟨ut,jN,sw,jO,sD⟩:=Gn o9
 refine qd 4 rfl (Gd Tryz.call126 rfl (qf _ _ g a n p r j C E J G O P Q S T U V W X Y h jN cu) ?_)
 rintro _ uu ⟨rfl,jQ,gZ⟩
 have pq:=jO _ _ jQ
 replace gZ:h≤18446744073709551615:=gZ
 have jR:=pq.pf [1,2,3,4]
 refine⟨.inr ⟨_,jR⟩, ?_⟩
 have bK:=jR.pf [4]
 have sF:=bK.rowC (i:=6) rfl
 have sG:=bK.rowC (i:=10) rfl
 obtain⟨dJ,cz⟩:∃ q,gG a=q:=⟨_,rfl⟩
 obtain⟨uw,jS,sH,jU,bg⟩:=Gn bK
 refine qd 9 rfl (Gd Tryz.call108 rfl (oh _ _ g a n p r j N C E J G I O P Q S T U V W X Y dJ jS aC (bg _ 5 _ rfl aV) (show a.aa.aj.ls.length≤j∧a.aa.aj.ls.length≤9223372036854775807 from by omega) (fun x9 h9=>⟨bg _ 6 _ rfl (ay (P3.2 ⟨x9,h9,b1⟩) aV),bz (φ:=fun _=>_) bK (i:=7) rfl (ay (P3.2 ⟨x9,h9,b1⟩) bq)⟩) Z (bg _ 9 _ rfl aV) (show a.ak.ls.length≤G∧a.ak.ls.length≤9223372036854775807 from by omega) (fun x9 h9=>⟨bg _ 10 _ rfl (ay (P3.2 ⟨x9,h9,b1⟩) aV),bz (φ:=fun _=>_) bK (i:=11) rfl (ay (P3.2 ⟨x9,h9,b1⟩) bq),bg _ 10 _ rfl (ay (P3.2 ⟨x9,h9, .tail _ b1⟩) aV),bz (φ:=fun _=>_) bK (i:=11) rfl (ay (P3.2 ⟨x9,h9, .tail _ b1⟩) bq),(fun y1 k1=>⟨bg _ 10 _ rfl (ay (P3.2 ⟨x9,h9, .tail _ b4⟩) (ay (P3.2 ⟨y1,k1,b1⟩) aV)),bz (φ:=fun _=>_) bK (i:=11) rfl (ay (P3.2 ⟨x9,h9, .tail _ b4⟩) (ay (P3.2 ⟨y1,k1,b1⟩) bq)),bg _ 10 _ rfl (ay (P3.2 ⟨x9,h9, .tail _ b4⟩) (ay (P3.2 ⟨y1,k1, .tail _ b1⟩) aV)),bz (φ:=fun _=>_) bK (i:=11) rfl (ay (P3.2 ⟨x9,h9, .tail _ b4⟩) (ay (P3.2 ⟨y1,k1, .tail _ b1⟩) bq))⟩),bg _ 10 _ rfl (ay (P3.2 ⟨x9,h9, .tail _ b2⟩) aV),bz (φ:=fun _=>_) bK (i:=11) rfl (ay (P3.2 ⟨x9,h9, .tail _ b2⟩) bq),bg _ 10 _ rfl (ay (P3.2 ⟨x9,h9, .tail _ b3⟩) aV),bz (φ:=fun _=>_) bK (i:=11) rfl (ay (P3.2 ⟨x9,h9, .tail _ b3⟩) bq),(fun y1 k1=>⟨bg _ 10 _ rfl (ay (P3.2 ⟨x9,h9, .tail _ b5⟩) (ay (P3.2 ⟨y1,k1,b1⟩) aV)),bz (φ:=fun _=>_) bK (i:=11) rfl (ay (P3.2 ⟨x9,h9, .tail _ b5⟩) (ay (P3.2 ⟨y1,k1,b1⟩) bq)),(fun y2 k2=>⟨bg _ 10 _ rfl (ay (P3.2 ⟨x9,h9, .tail _ b5⟩) (ay (P3.2 ⟨y1,k1, .tail _ b1⟩) (ay (P3.2 ⟨y2,k2,b1⟩) aV))),bz (φ:=fun _=>_) bK (i:=11) rfl (ay (P3.2 ⟨x9,h9, .tail _ b5⟩) (ay (P3.2 ⟨y1,k1, .tail _ b1⟩) (ay (P3.2 ⟨y2,k2,b1⟩) bq)))⟩)⟩)⟩) e8 cz) ?_)
 rintro _ uy ⟨rfl,jW⟩
 have pu:=jU _ _ jW
 have gU:=pu.pf [1,2,3,4]
 refine⟨.inr ⟨_,gU⟩, ?_⟩
 refine qa 10 rfl rfl (qa 11 rfl rfl (qn (FW (sr (Mz rfl (Kz (vP g0 0) (Kz (vP g0 0) (Lz (vP g 0) gU 1 O3 (Kz (vP g 0) (Kz (vP g 7) (Lz (vU a.bI) gU 4 E1 (fw (.int .u64 ((D2 (D3.wrap (((a.bI:Nat):Int)+1)):Nat):Int)) (FV (e:=D3.wrap (((a.bI:Nat):Int)+1)) yk (fC _)) (Kz (vP g 0) (Kz (vP g 7) ?_))))))))))))))
 have pz:=gU.pf [4]
 refine dN [.int .u64 ((D2 (D3.wrap (((a.bI:Nat):Int)+1)):Nat):Int)] 7 pz Tryz.sizeOf28 ?_
 intro uz pE
 refine nt (FU ?_)
 refine oJ 22 [] (F8 Gh) pE ?_
 intro uB pF
 refine qv 0 rfl rfl (qp g0 0 1 rfl (qp g0 0 2 rfl (ql 3 rfl 2 O3 rfl rfl rfl (qp g 0 4 rfl (qp g 0 5 rfl (qp g 4 6 rfl (ql 7 rfl 0 Tryz.isAgg29 rfl rfl rfl (qp dI 18 8 rfl (ql 9 rfl 1 P7 rfl rfl rfl ?_)))))))))
 obtain⟨⟨b,dL⟩,bI⟩:∃ q:(List gq) × Int,lQ a.aa.ag.ls d.aG.ls=q:=⟨_,rfl⟩
 obtain⟨uC,jX,jY,j3,j4⟩:=FY pF
 refine qd 10 rfl (Gd Tryz.call127 rfl (zX _ _ n a.aa.ag.ls.length p a.aa.ag.ls dw d.aG.ls.length dx d.aG.ls b dL jX (j4 _ 5 _ rfl aV) rfl e6 (jY _ eB) rfl e6 bI) ?_)
 rintro _ uD ⟨ae,aJ,aX,rfl,j5,bn⟩
 have j6:=j3 _ _ j5
 have sI:=az bn
 have sJ:=j6.rowC (i:=0) rfl
 have kg:∀ x ∈ b,x.aG.ls.length≤24024:=Bg bI e6 e6
 have sK:b.length≤5:=Be bI
 have ko:=j6.pb [0,1]
 refine⟨.inr ⟨_,ko⟩, ?_⟩
 refine qv 11 rfl rfl (qk (.slice ae b.length aJ) 12 rfl (qk (vI dL) 13 rfl (qa 14 rfl rfl (qa 15 rfl rfl (qn (FW (FU ?_)))))))
 refine oJ 24 [] (F8 Gh) ko ?_
 intro uE di
 refine qv 0 rfl rfl (qp g0 0 1 rfl (qp g0 0 2 rfl (ql 3 rfl 2 O3 rfl rfl rfl (qp g 0 4 rfl (qp g 8 5 rfl (ql 6 rfl 0 P1 rfl rfl rfl (qk (vJ a.ak.ls.length) 7 rfl (qk (.bool (decide (((a.ak.ls.length:Nat):Int) ≥ 6))) 8 rfl (qv 9 rfl rfl ?_)))))))))
 by_cases l:((a.ak.ls.length:Nat):Int) ≥ 6
 refine F3 (rs:= []) 10 rfl rfl rfl (dT l) e7 (F3 (rs:= []) 11 rfl rfl rfl (dT l) e7 (F3 (rs:= []) 12 rfl rfl rfl (dT l) e7 (F3 (rs:= []) 13 rfl rfl rfl (dT l) e7 (F3 (rs:= []) 14 rfl rfl rfl (dT l) e7 (F3 (rs:= []) 15 rfl rfl rfl (dT l) e7 (F3 (rs:= []) 16 rfl rfl rfl (dT l) e7 (F3 (rs:= []) 17 rfl rfl rfl (dT l) e7 (F3 (rs:= []) 18 rfl rfl rfl (dT l) e7 (F3 (rs:= []) 19 rfl rfl rfl (dT l) e7 (F3 (rs:= []) 20 rfl rfl rfl (dT l) e7 (F3 (rs:= []) 21 rfl rfl rfl (dT l) e7 (F3 (rs:= []) 22 rfl rfl rfl (dT l) e7 (F3 (rs:= []) 23 rfl rfl rfl (dT l) e7 (F3 (rs:= []) 24 rfl rfl rfl (dT l) e7 (F3 (rs:= []) 25 rfl rfl rfl (dT l) e7 (F3 (rs:= []) 26 rfl rfl rfl (dT l) e7 (F3 (rs:= []) 27 rfl rfl rfl (dT l) e7 (F3 (rs:= []) 28 rfl rfl rfl (dT l) e7 (qt (v:= .bool true) 29 rfl (fun _ _=>Gb rfl (dT l) rfl) (qv 30 rfl rfl (F3 (rs:= []) 31 rfl rfl rfl rfl e7 (F3 (rs:= []) 32 rfl rfl rfl rfl e7 (F3 (rs:= []) 33 rfl rfl rfl rfl e7 (F3 (rs:= []) 34 rfl rfl rfl rfl e7 (qt (v:= .bool true) 35 rfl (fun _ _=>Gb rfl rfl rfl) (qa 36 rfl rfl (qn (FW (FU (sr (Mz rfl (Mz rfl (Sz rfl (Sz rfl (fw (.bool true) (Gb rfl rfl rfl) (nt (jt ?_)))))))))))))))))))))))))))))))))))))
 refine sr (Mz rfl (Mz rfl (Kz (vP dI 6) (Lz (vU d.aU) di 1 E1 ?_))))
 have pG:=di.px [2,3,4] [] [1,5,6,7,8,9,10,11,22,23]
 obtain⟨⟨iJ,bi⟩,ib⟩:∃ q:bH × aB,dB p0 p1 d.aU 2 ([]) (aB.mk a.aa (D2 (D3.wrap (((a.bI:Nat):Int)+1))) (E4 a.ak.ls) a.aR a.aN a.aO a.aP a.aM a.di a.cz a.cK a.cB a.cu)=q:=⟨_,rfl⟩
 obtain⟨uF,kr,sM,ku,sN⟩:=GN pG
 refine cl P8 (jP _ _ g0 p0 bM bR bE p1 d.aU 2 none 0 0 [] ([]) g (aB.mk a.aa (D2 (D3.wrap (((a.bI:Nat):Int)+1))) (E4 a.ak.ls) a.aR a.aN a.aO a.aP a.aM a.di a.cz a.cK a.cB a.cu) n p r j C E J G O P ah Q S aj T U ak V W au X Y av iJ bi kr bB rfl (fun _ _=>bD.nil _ _ _) (fun _ h9=>absurd h9 B3) rfl i8 g6 aP aQ aR aS aT e8 g3 g3 i2 ib) ?_
 rintro _ uG ⟨pI,pJ,pK,kv,kw,ky,kz,kC,kD,kE,kF,kG,kH,kI,kJ,kK,kL,kM,rfl,kN,ic,eD,eF,eG,eH,eO,eP⟩
 have dO:=ku _ _ kN
 have pM:=az ic
 have pO:=az eD
 have pQ:=az eF
 have pR:=az eG
 have pU:=az eH
 have pV:=az eO
 have pW:=dO.rowC (i:=1) rfl
 have pX:=dO.rowC (i:=4) rfl
 have pY:=dO.rowC (i:=6) rfl
 have p8:=dO.rowC (i:=8) rfl
 have p9:=dO.rowC (i:=10) rfl
 have qb:=dO.rowC (i:=12) rfl
 replace eP:iJ.bB.ls.length=p0.bB.ls.length+1:=eP
 refine nt (rt (tR (Fin.res (res0 rfl) ?_)))
 have kP:=dO.px [] [14,22,23] [4,5,6,7,8,9,10,11,12,13]
 obtain⟨rfl,rfl⟩:=gm (hr.symm.trans (show _=(iJ,aB.mk (dC.mk bi.aa.av bi.aa.ax bi.aa.bf bi.aa.aK (E4 a.aa.ag.ls) (E4 a.aa.aj.ls) (E4 a.aa.aI.ls)) bi.bI (E4 a.ak.ls) bi.aR bi.aN bi.aO bi.aP bi.aM bi.di bi.cz bi.cK bi.cB bi.cu) from et (ai cu) (et (ai cz) (et (ai bI) (et (ip l) (ai ib))))))
 exact⟨pI,pJ,pK,n,p,r,j,N,C,E,ag,J,G,I,kv,kw,ky,kz,kC,kD,kE,kF,kG,kH,kI,kJ,kK,kL,kM,rfl,kP,ic,aC,aO,Z,eD,eF,eG,eH,eO⟩
 refine F6 (v:=vP g0 0) (rs:= []) 10 rfl rfl rfl (dF l) e7 (fun _ _=>F7 rfl) (F6 (v:=vP g0 0) (rs:= []) 11 rfl rfl rfl (dF l) e7 (fun _ _=>yk) (F6 (v:=vP g0 0) (rs:= []) 12 rfl rfl rfl (dF l) e7 (fun _ _=>yk) (F6 (v:=vP g 0) (rs:= []) 13 rfl rfl rfl (dF l) e7 (fun _ ⟨_,H9⟩=>F5 rfl (bZ.one O3 (jL.of (H9.cls (i:=2) rfl) rfl))) (F6 (v:=vP g 0) (rs:= []) 14 rfl rfl rfl (dF l) e7 (fun _ _=>yk) (F6 (v:=vP g 8) (rs:= []) 15 rfl rfl rfl (dF l) e7 (fun _ _=>yk) (F6 (v:= .slice J a.ak.ls.length G) (rs:= []) 16 rfl rfl rfl (dF l) e7 (fun _ ⟨_,H9⟩=>F5 rfl (bZ.one P1 (jL.of (H9.cls (i:=0) rfl) rfl))) (F6 (v:=vJ a.ak.ls.length) (rs:= []) 17 rfl rfl rfl (dF l) e7 (fun _ _=>yk) (F6 (v:=vP g0 0) (rs:= []) 18 rfl rfl rfl (dF l) e7 (fun _ _=>F7 rfl) (F6 (v:=vP g0 0) (rs:= []) 19 rfl rfl rfl (dF l) e7 (fun _ _=>yk) (F6 (v:=vP g0 0) (rs:= []) 20 rfl rfl rfl (dF l) e7 (fun _ _=>yk) (F6 (v:=vP g 0) (rs:= []) 21 rfl rfl rfl (dF l) e7 (fun _ ⟨_,H9⟩=>F5 rfl (bZ.one O3 (jL.of (H9.cls (i:=2) rfl) rfl))) (F6 (v:=vP g 0) (rs:= []) 22 rfl rfl rfl (dF l) e7 (fun _ _=>yk) (F6 (v:=vP g 0) (rs:= []) 23 rfl rfl rfl (dF l) e7 (fun _ _=>yk) (F6 (v:=vP g 5) (rs:= []) 24 rfl rfl rfl (dF l) e7 (fun _ _=>yk) (F6 (v:= .slice r a.aa.aj.ls.length j) (rs:= []) 25 rfl rfl rfl (dF l) e7 (fun _ ⟨_,H9⟩=>F5 rfl (bZ.one Tryz.isAgg30 (jL.of (H9.cls (i:=0) rfl) rfl))) (F6 (v:=vJ a.aa.aj.ls.length) (rs:= []) 26 rfl rfl rfl (dF l) e7 (fun _ _=>yk) (F6 (v:=vJ (a.ak.ls.length+a.aa.aj.ls.length)) (rs:= []) 27 rfl rfl rfl (dF l) e7 (fun _ _=>FV (e:=C7.wrap (((a.ak.ls.length:Nat):Int)+((a.aa.aj.ls.length:Nat):Int))) yk f1) (F6 (v:= .bool (decide (((a.ak.ls.length+a.aa.aj.ls.length:Nat):Int) ≥ 8))) (rs:= []) 28 rfl rfl rfl (dF l) e7 (fun _ _=>yk) (qt (v:= .bool (decide (((a.ak.ls.length+a.aa.aj.ls.length:Nat):Int) ≥ 8))) 29 rfl (fun _ _=>FX rfl (dF l) rfl) (qv 30 rfl rfl ?_))))))))))))))))))))
 by_cases aM:((a.ak.ls.length+a.aa.aj.ls.length:Nat):Int) ≥ 8
 refine F3 (rs:= []) 31 rfl rfl rfl (dT aM) e7 (F3 (rs:= []) 32 rfl rfl rfl (dT aM) e7 (F3 (rs:= []) 33 rfl rfl rfl (dT aM) e7 (F3 (rs:= []) 34 rfl rfl rfl (dT aM) e7 (qt (v:= .bool true) 35 rfl (fun _ _=>Gb rfl (dT aM) rfl) (qa 36 rfl rfl (qn (FW (FU (sr (Mz rfl (Mz rfl (Sz rfl (Sz rfl (fw (.bool true) (Gb rfl rfl rfl) (nt (jt (sr (Mz rfl (Mz rfl (Kz (vP dI 6) (Lz (vU d.aU) di 1 E1 ?_)))))))))))))))))))))
 have kQ:=di.px [2,3,4] [] [1,5,6,7,8,9,10,11,22,23]
 obtain⟨⟨eQ,aF⟩,eT⟩:∃ q:bH × aB,dB p0 p1 d.aU 2 ([]) (aB.mk a.aa (D2 (D3.wrap (((a.bI:Nat):Int)+1))) (E4 a.ak.ls) a.aR a.aN a.aO a.aP a.aM a.di a.cz a.cK a.cB a.cu)=q:=⟨_,rfl⟩
 obtain⟨sO,iK,qc,iL,qg⟩:=GN kQ
 refine cl P8 (jP _ _ g0 p0 bM bR bE p1 d.aU 2 none 0 0 [] ([]) g (aB.mk a.aa (D2 (D3.wrap (((a.bI:Nat):Int)+1))) (E4 a.ak.ls) a.aR a.aN a.aO a.aP a.aM a.di a.cz a.cK a.cB a.cu) n p r j C E J G O P ah Q S aj T U ak V W au X Y av eQ aF iK bB rfl (fun _ _=>bD.nil _ _ _) (fun _ h9=>absurd h9 B3) rfl i8 g6 aP aQ aR aS aT e8 g3 g3 i2 eT) ?_
 rintro _ sP ⟨kR,kS,kT,kU,kV,kW,kX,kY,kZ,lc,lg,lh,ll,lm,lq,lu,lv,lw,rfl,iM,eU,eX,eY,fe,fq,fu,fA⟩
 have bS:=iL _ _ iM
 have qh:=az eU
 have qi:=az eX
 have qj:=az eY
 have qm:=az fe
 have qo:=az fq
 have qw:=az fu
 have qx:=bS.rowC (i:=1) rfl
 have qy:=bS.rowC (i:=4) rfl
 have qz:=bS.rowC (i:=6) rfl
 have qA:=bS.rowC (i:=8) rfl
 have qB:=bS.rowC (i:=10) rfl
 have qC:=bS.rowC (i:=12) rfl
 replace fA:eQ.bB.ls.length=p0.bB.ls.length+1:=fA
 refine nt (rt (tR (Fin.res (res0 rfl) ?_)))
 have lC:=bS.px [] [14,22,23] [4,5,6,7,8,9,10,11,12,13]
 obtain⟨rfl,rfl⟩:=gm (hr.symm.trans (show _=(eQ,aB.mk (dC.mk aF.aa.av aF.aa.ax aF.aa.bf aF.aa.aK (E4 a.aa.ag.ls) (E4 a.aa.aj.ls) (E4 a.aa.aI.ls)) aF.bI (E4 a.ak.ls) aF.aR aF.aN aF.aO aF.aP aF.aM aF.di aF.cz aF.cK aF.cB aF.cu) from et (ai cu) (et (ai cz) (et (ai bI) (et (iN l) (et (ip aM) (ai eT)))))))
 exact⟨kR,kS,kT,n,p,r,j,N,C,E,ag,J,G,I,kU,kV,kW,kX,kY,kZ,lc,lg,lh,ll,lm,lq,lu,lv,lw,rfl,lC,eU,aC,aO,Z,eX,eY,fe,fq,fu⟩
 refine F6 (v:=vU h) (rs:= []) 31 rfl rfl rfl (dF aM) e7 (fun _ _=>F7 rfl) (F6 (v:=vU dJ) (rs:= []) 32 rfl rfl rfl (dF aM) e7 (fun _ _=>F7 rfl) (F6 (v:= .int .u64 ((D2 (D3.wrap (((h:Nat):Int) - ((dJ:Nat):Int))):Nat):Int)) (rs:= []) 33 rfl rfl rfl (dF aM) e7 (fun _ _=>FV (e:=D3.wrap (((h:Nat):Int) - ((dJ:Nat):Int))) yk (fC _)) (F6 (v:= .bool (decide (((D2 (D3.wrap (((h:Nat):Int) - ((dJ:Nat):Int))):Nat):Int) ≥ 64))) (rs:= []) 34 rfl rfl rfl (dF aM) e7 (fun _ _=>yk) (qt (v:= .bool (decide (((D2 (D3.wrap (((h:Nat):Int) - ((dJ:Nat):Int))):Nat):Int) ≥ 64))) 35 rfl (fun _ _=>FX rfl (dF aM) rfl) (qa 36 rfl rfl (qn (FW (FU (sr (Mz rfl (Mz rfl ?_)))))))))))
 by_cases bu:((D2 (D3.wrap (((h:Nat):Int) - ((dJ:Nat):Int))):Nat):Int) ≥ 64
 refine Sz (dT bu) (Sz (dT bu) (fw (.bool true) (Gb rfl (dT bu) rfl) (nt (jt (sr (Mz rfl (Mz rfl (Kz (vP dI 6) (Lz (vU d.aU) di 1 E1 ?_)))))))))
 have lD:=di.px [2,3,4] [] [1,5,6,7,8,9,10,11,22,23]
 obtain⟨⟨fD,aG⟩,fE⟩:∃ q:bH × aB,dB p0 p1 d.aU 2 ([]) (aB.mk a.aa (D2 (D3.wrap (((a.bI:Nat):Int)+1))) (E4 a.ak.ls) a.aR a.aN a.aO a.aP a.aM a.di a.cz a.cK a.cB a.cu)=q:=⟨_,rfl⟩
 obtain⟨sQ,iO,qD,iP,qE⟩:=GN lD
 refine cl P8 (jP _ _ g0 p0 bM bR bE p1 d.aU 2 none 0 0 [] ([]) g (aB.mk a.aa (D2 (D3.wrap (((a.bI:Nat):Int)+1))) (E4 a.ak.ls) a.aR a.aN a.aO a.aP a.aM a.di a.cz a.cK a.cB a.cu) n p r j C E J G O P ah Q S aj T U ak V W au X Y av fD aG iO bB rfl (fun _ _=>bD.nil _ _ _) (fun _ h9=>absurd h9 B3) rfl i8 g6 aP aQ aR aS aT e8 g3 g3 i2 fE) ?_
 rintro _ sS ⟨lF,lG,lH,lI,lJ,lK,lL,lM,lN,lS,lT,lU,lV,lW,lX,lY,lZ,l5,rfl,iQ,fG,fH,fJ,fK,fM,fO,fP⟩
 have bT:=iP _ _ iQ
 have qF:=az fG
 have qG:=az fH
 have qH:=az fJ
 have qI:=az fK
 have qJ:=az fM
 have qK:=az fO
 have qL:=bT.rowC (i:=1) rfl
 have qM:=bT.rowC (i:=4) rfl
 have qN:=bT.rowC (i:=6) rfl
 have qO:=bT.rowC (i:=8) rfl
 have qQ:=bT.rowC (i:=10) rfl
 have qR:=bT.rowC (i:=12) rfl
 replace fP:fD.bB.ls.length=p0.bB.ls.length+1:=fP
 refine nt (rt (tR (Fin.res (res0 rfl) ?_)))
 have l6:=bT.px [] [14,22,23] [4,5,6,7,8,9,10,11,12,13]
 obtain⟨rfl,rfl⟩:=gm (hr.symm.trans (show _=(fD,aB.mk (dC.mk aG.aa.av aG.aa.ax aG.aa.bf aG.aa.aK (E4 a.aa.ag.ls) (E4 a.aa.aj.ls) (E4 a.aa.aI.ls)) aG.bI (E4 a.ak.ls) aG.aR aG.aN aG.aO aG.aP aG.aM aG.di aG.cz aG.cK aG.cB aG.cu) from et (ai cu) (et (ai cz) (et (ai bI) (et (iN l) (et (iN aM) (et (ip bu) (ai fE))))))))
 exact⟨lF,lG,lH,n,p,r,j,N,C,E,ag,J,G,I,lI,lJ,lK,lL,lM,lN,lS,lT,lU,lV,lW,lX,lY,lZ,l5,rfl,l6,fG,aC,aO,Z,fH,fJ,fK,fM,fO⟩
 refine gw (vI dL) (dF bu) (F7 rfl) (gw (.bool (decide (¬ (dL=0)))) (dF bu) (Gi (e:= !(decide (dL=0))) yk decide_not.symm) (fw (.bool (decide (¬ (dL=0)))) (FX rfl (dF bu) rfl) (nt ?_)))
 by_cases dW:dL=0
 refine jF (dF (JP dW)) (sk (sr (Mz rfl (Kz (vJ b.length) (An rfl (FU ?_))))))
 refine oJ 24 [] (F8 Gh) di ?_
 intro sU l7
 refine qv 0 rfl rfl (qv 1 rfl rfl (qp dI 6 2 rfl (ql 3 rfl 1 E1 rfl rfl rfl (qv 4 rfl rfl (qp g0 0 5 rfl (qp g0 0 6 rfl (ql 7 rfl 2 O3 rfl rfl rfl (qp g 0 8 rfl (qp g 0 9 rfl (qp g 3 10 rfl (ql 11 rfl 0 E1 rfl rfl rfl (qp dI 18 12 rfl (ql 13 rfl 1 P7 rfl rfl rfl (qv 15 rfl rfl (qv 16 rfl rfl (qv 18 rfl rfl ?_))))))))))))))))
 have qU:s2 (s0 b.length false)=b.length:=H7
 have qV:s2 (s0 b.length (H5 none 0 []:bO))=b.length:=H7
 have qW:s2 (s0 b.length (E4 []:Ll aY))=b.length:=H7
 refine E9 ⟨14,_,_,_,_,_,Option Addr × Nat,fun g9=> .slice g9.1 d.aG.ls.length g9.2,fun _=>True,fun g9=> [row g9.1 d.aG.ls.length g9.2 (q6 bC.cells d.aG.ls) 72 6]⟩ ⟨17,_,_,_,_,_,Option Addr,fun g9=> .slice g9 b.length b.length,fun _=>True,fun g9=> [row g9 b.length b.length (q6 eL (s0 b.length false)) 4 1]⟩ ⟨19,_,_,_,_,_,Option Addr,fun g9=> .slice g9 b.length b.length,fun _=>True,fun g9=> [sepL (q6 bO.own (s0 b.length (H5 none 0 []:bO))),row g9 b.length b.length (q6 (Gy (β:=af)) (s0 b.length (H5 none 0 []:bO))) 40 1]⟩ ⟨21,_,_,_,_,_,Nat,fun g9=>vP g9 0,fun _=>True,fun g9=> [blk g9 (qP 0 0 0 0 none 0 0 none 0 0 none 0 0 none 0 0 0) 107]⟩ 20 24 l7 ⟨⟨rfl,rfl,rfl, ?_⟩,⟨rfl,rfl,rfl, ?_⟩,⟨rfl,rfl,rfl, ?_⟩,⟨rfl,rfl,rfl, ?_⟩,trivial⟩ rfl ?_
 intro sV L' l8
 refine(GD (cs:=(qP 0 0 0 0 none 0 0 none 0 0 none 0 0 none 0 0 0)) (t:=107) l8 rfl rfl (fun _=>by kernel_rfl) ?_)
 intro aN sW l9
 exact⟨aN,rfl,trivial,l9⟩
 intro sZ L' ma
 obtain⟨tq,iR,iT,iV,qX⟩:=FY ma
 refine(Gd Tryz.call109 rfl (nu _ _ dw d.aG.ls.length dx d.aG.ls d.aG.ls iR (iT _ eB) rfl e6 rfl) ?_)
 rintro _ tu ⟨K,L,rfl,iW⟩
 have mf:=iV _ _ iW
 exact⟨(K,L),rfl,trivial,mf⟩
 intro tC L' mg
 refine(G8 (x0:=false) (z:= .bool false) (k:=b.length) (size:=1) (bytes:=1) oo f3 rfl Tryz.underlying104 e7 mg rfl rfl e6 (by unfold maxLen; omega) ?_)
 intro B tF mh
 exact⟨B,rfl,trivial,mh⟩
 intro tJ L' mi
 refine(G8 (x0:=(H5 none 0 []:bO)) (z:= .slice none 0 0) (k:=b.length) (size:=1) (bytes:=24) qZ f3 rfl Tryz.underlying105 e7 mi rfl rfl e6 (by unfold maxLen; omega) ?_)
 intro M tK mo
 have mq:=mo.free (R:=sepL (q6 bO.own (s0 b.length (H5 none 0 []:bO)))) (uA (CW (fB 149 3) (yI fun _ h9=>absurd h9 B3)))
 exact⟨M,rfl,trivial,mq⟩
 rintro ⟨K,L⟩ _ B _ M _
 refine⟨.agg (qP h p1 d.aU a.aa.aK K d.aG.ls.length L ae b.length aJ B b.length b.length M b.length b.length 0).toArray,fun _=>yk, ?_⟩
 rintro aN _
 intro mr mE
 have dX:Own w D mr (blk aN (qP 0 0 0 0 none 0 0 none 0 0 none 0 0 none 0 0 0) 107::sepL (q6 bO.own (s0 b.length (H5 none 0 []:bO)))::row M b.length b.length (q6 (Gy (β:=af)) (s0 b.length (H5 none 0 []:bO))) 40 1::row B b.length b.length (q6 eL (s0 b.length false)) 4 1::row K d.aG.ls.length L (q6 bC.cells d.aG.ls) 72 6::_):=mE.flat.pf []
 have qY:=dX.rowC (i:=2) rfl
 have q8:=dX.rowC (i:=3) rfl
 have q9:=dX.rowC (i:=4) rfl
 have mF:=dX.pb [0,1,2,3,4]
 have mG:=mF.pf [24]
 refine qe 22 rfl (Do.store (vs:=(qP h p1 d.aU a.aa.aK K d.aG.ls.length L ae b.length aJ B b.length b.length M b.length b.length 0)) (o:=0) mG rfl rfl Tryz.sizeOf107 rfl rfl rfl rfl ?_)
 intro tL mH
 have ig:=mH.pb [0,25,26,27,28]
 refine⟨.inr ⟨_,ig⟩, ?_⟩
 refine qn (FW (FU ?_))
 have mI:=ig.px [] [1] []
 have dP:b.length=s2 (s0 b.length (E4 []:Ll aY)):=by first | omega | (simp only [H6]; done) | (simp only [H6,p5,s3,G1,p3,p4,H7]; omega)
 have mJ:=mI.pf [23]
 have mK:=G5 7 dP mJ
 have mM:=mK.pf [25]
 have mO:=GG dP mM
 have mP:=mO.pb [1,25,0,26,27]
 have dQ:b.length=s2 (s0 b.length false):=by first | omega | (simp only [H6]; done) | (simp only [H6,p5,s3,G1,p3,p4,H7]; omega)
 have mQ:=mP.pf [23]
 have mR:=G5 6 dQ mQ
 have mU:=mR.pf [26]
 have mV:=GG dQ mU
 have mW:=mV.pb [1,25,26,0,27]
 have mX:=mW.pf [0,1,23]
 refine Ca [16] (F8 Gh) mX ?_
 intro tN mY
 refine qv 0 rfl rfl (qp g0 0 1 rfl (qp g0 0 2 rfl (ql 3 rfl 1 O3 rfl rfl rfl (qv 4 rfl rfl (qp g0 0 5 rfl (qp g0 0 6 rfl (ql 7 rfl 1 O3 rfl rfl rfl (qp g 0 8 rfl (qp g 8 9 rfl (ql 10 rfl 0 P1 rfl rfl rfl (qt (v:= .agg (qP h p1 d.aU a.aa.aK K d.aG.ls.length L ae b.length aJ B (s2 (s0 b.length false)) b.length M (s2 (s0 b.length (E4 []:Ll aY))) b.length 0).toArray) 11 rfl (fun _ ⟨_,H9⟩=>F5 rfl (Gc (cs:=(qP h p1 d.aU a.aa.aK K d.aG.ls.length L ae b.length aJ B (s2 (s0 b.length false)) b.length M (s2 (s0 b.length (E4 []:Ll aY))) b.length 0)) Tryz.isAgg107 Tryz.sizeOf107 ((H9.cls (i:=2) rfl).lit (k:=0) (m:=9) rfl))) ?_)))))))))))
 refine qd 12 rfl (He (cs:=(qP h p1 d.aU a.aa.aK K d.aG.ls.length L ae b.length aJ B (s2 (s0 b.length false)) b.length M (s2 (s0 b.length (E4 []:Ll aY))) b.length 0)) (t:=107) (sz:=9) (m:=1) mY rfl rfl (fun _=>by kernel_rfl) rfl f3 ?_)
 intro ik tO fQ
 replace fQ:=Gq (y:=row ik 1 1 (q6 bA.cells ([(bA.mk h p1 d.aU a.aa.aK (H5 K L d.aG.ls) (H5 ae aJ aX) (H5 B b.length (s0 b.length false)) (H5 M b.length (s0 b.length (H5 none 0 []:bO))) 0)])) 107 9) (DI (fun z9 z8=>row ik 1 1 [vU h,vI p1,vU d.aU,vU a.aa.aK, .slice K d.aG.ls.length L, .slice ae z9 aJ, .slice B (s2 (s0 b.length false)) b.length, .slice M z8 b.length,vI 0] 107 9) (az bn).symm (az (K4 (f:=bO.abs))).symm) fQ
 have iq:=fQ.pf [1,2,3]
 refine⟨.inr ⟨_,iq⟩, ?_⟩
 have iw:=iq.pf [11,12,28,23,27,26,24,25]
 refine qd 13 rfl (Gr (k:=a.ak.ls.length) (m:=1) (pg) iw rfl rfl (iU Tryz.underlying79 (iw.rds (i:=11) rfl) (fF bA.one ([(bA.mk h p1 d.aU a.aa.aK (H5 K L d.aG.ls) (H5 ae aJ aX) (H5 B b.length (s0 b.length false)) (H5 M b.length (s0 b.length (H5 none 0 []:bO))) 0)]))) rfl e6 (s:=s2 (a.ak.ls++ [(dE.mk h p1 d.aU a.aa.aK (E4 d.aG.ls) (E4 b) (E4 (s0 b.length false)) (E4 (s0 b.length (E4 []:Ll aY))) 0)])) f7 (r7).symm ?_)
 intro dD cB mZ ng
 have ni:=ng.pf [3]
 have nk:=GG (az bn).symm ni
 have ny:=nk.pf [5]
 have nz:=GG (n':=s2 (s0 b.length (H5 none 0 []:bO))) (az (K4 (f:=bO.abs))).symm ny
 have nA:=nz.pf [3,4,1,5,0,6,7]
 have nC:Own w D mZ (sepL (q6 bA.own (I++ [(bA.mk h p1 d.aU a.aa.aK (H5 K L d.aG.ls) (H5 ae aJ aX) (H5 B b.length (s0 b.length false)) (H5 M b.length (s0 b.length (H5 none 0 []:bO))) 0)]))::_):=nA.sepAdd (L2:= [row K d.aG.ls.length L (q6 bC.cells d.aG.ls) 72 6,row ae aX.length aJ (q6 bG.cells aX) 172 3,row B (s2 (s0 b.length false)) b.length (q6 eL (s0 b.length false)) 4 1,row M (s2 (s0 b.length (H5 none 0 []:bO))) b.length (q6 (Gy (β:=af)) (s0 b.length (H5 none 0 []:bO))) 40 1,sepL (q6 bG.own aX),sepL (q6 bO.own (s0 b.length (H5 none 0 []:bO)))]) (r7 (f:=bA.own) (xs:=I) (ys:= [(bA.mk h p1 d.aU a.aa.aK (H5 K L d.aG.ls) (H5 ae aJ aX) (H5 B b.length (s0 b.length false)) (H5 M b.length (s0 b.length (H5 none 0 []:bO))) 0)])).symm
 have rf:s2 (a.ak.ls++ [(dE.mk h p1 d.aU a.aa.aK (E4 d.aG.ls) (E4 b) (E4 (s0 b.length false)) (E4 (s0 b.length (E4 []:Ll aY))) 0)])=a.ak.ls.length+1:=by simp only [p5,s3,G1]
 have rq:=az (oD (es:= [(bA.mk h p1 d.aU a.aa.aK (H5 K L d.aG.ls) (H5 ae aJ aX) (H5 B b.length (s0 b.length false)) (H5 M b.length (s0 b.length (H5 none 0 []:bO))) 0)]) (ms:= [(dE.mk h p1 d.aU a.aa.aK (E4 d.aG.ls) (E4 b) (E4 (s0 b.length false)) (E4 (s0 b.length (E4 []:Ll aY))) 0)]) Z (DI (fun z9 z8=> [dE.mk h p1 d.aU a.aa.aK (E4 d.aG.ls) (E4 z9) (E4 (s0 b.length false)) (E4 z8) 0]) bn (K4 (f:=bO.abs))))
 have iy:=nC.pf [2,3,4]
 refine⟨.inr ⟨_,iy⟩, ?_⟩
 refine qp g 0 14 rfl (qp g 8 15 rfl ?_)
 refine qe 16 rfl (Do.store (vs:= [.slice dD (s2 (a.ak.ls++ [(dE.mk h p1 d.aU a.aa.aK (E4 d.aG.ls) (E4 b) (E4 (s0 b.length false)) (E4 (s0 b.length (E4 []:Ll aY))) 0)])) cB]) (o:=8) iy rfl rfl Tryz.sizeOf79 rfl rfl rfl rfl ?_)
 intro tQ nD
 refine⟨.inl e7, ?_⟩
 refine qn (FW ?_)
 have iA:=nD.px [] [5] []
 refine FT (Mz rfl ?_)
 refine WL.do rfl (Gd Tryz.call64 rfl ?_ (fun _ _ k=>k))
 refine cb Tryz.func64 ?_
 refine sr (Mz rfl (Kz (vP aN 0) (Kz (vP aN 5) (Lz (.slice ae b.length aJ) iA 2 Tryz.isAgg103 (Kz (vJ b.length) (Mn rfl (bo ?_)))))))
 have nE:=iA.pb [5,6]
 obtain⟨nG,dm⟩:=AQ fun(u:Nat) (cK:Option Addr) (cO:Nat) (bU:List bF) (aH:List bQ) (w':World)=>Own w D w' [blk g [vI a.aa.av,vU a.aa.ax,vU a.aa.bf,vU a.aa.aK, .slice n a.aa.ag.ls.length p, .slice r a.aa.aj.ls.length j, .slice C a.aa.aI.ls.length E, .int .u64 ((D2 (D3.wrap (((a.bI:Nat):Int)+1)):Nat):Int), .slice dD (s2 (a.ak.ls++ [(dE.mk h p1 d.aU a.aa.aK (E4 d.aG.ls) (E4 b) (E4 (s0 b.length false)) (E4 (s0 b.length (E4 []:Ll aY))) 0)])) cB, .bool a.aR.aT,vU a.aR.aF,vI a.aR.bn, .slice O a.aR.ae.ls.length P, .bool a.aN.aT,vU a.aN.aF,vI a.aN.bn, .slice Q a.aN.ae.ls.length S, .bool a.aO.aT,vU a.aO.aF,vI a.aO.bn, .slice T a.aO.ae.ls.length U, .bool a.aP.aT,vU a.aP.aF,vI a.aP.bn, .slice V a.aP.ae.ls.length W, .bool a.aM.aT,vU a.aM.aF,vI a.aM.bn, .slice X a.aM.ae.ls.length Y,vU a.di,vU a.cz,vU a.cK,vU a.cB,vU a.cu, .pointer none] 86,blk g0 [vP g 0, .slice cK aH.length cO] 98,blk aN (qP h p1 d.aU a.aa.aK K d.aG.ls.length L ae b.length aJ B (s2 (s0 b.length false)) b.length M (s2 (s0 b.length (E4 []:Ll aY))) b.length 0) 107,sepL (q6 bA.own (I++ [(bA.mk h p1 d.aU a.aa.aK (H5 K L d.aG.ls) (H5 ae aJ aX) (H5 B b.length (s0 b.length false)) (H5 M b.length (s0 b.length (H5 none 0 []:bO))) 0)])),row dD (s2 (a.ak.ls++ [(dE.mk h p1 d.aU a.aa.aK (E4 d.aG.ls) (E4 b) (E4 (s0 b.length false)) (E4 (s0 b.length (E4 []:Ll aY))) 0)])) cB (q6 bA.cells (I++ [(bA.mk h p1 d.aU a.aa.aK (H5 K L d.aG.ls) (H5 ae aJ aX) (H5 B b.length (s0 b.length false)) (H5 M b.length (s0 b.length (H5 none 0 []:bO))) 0)])) 107 9,row n a.aa.ag.ls.length p (q6 bv.cells a.aa.ag.ls) 89 2,row r a.aa.aj.ls.length j (q6 aA.cells N) 60 5,sepL (q6 aA.own N),row C a.aa.aI.ls.length E (q6 aZ.cells ag) 56 4,sepL (q6 aZ.own ag),row O a.aR.ae.ls.length P (q6 af.cells ah) 149 3,sepL (q6 af.own ah),row Q a.aN.ae.ls.length S (q6 af.cells aj) 149 3,sepL (q6 af.own aj),row T a.aO.ae.ls.length U (q6 af.cells ak) 149 3,sepL (q6 af.own ak),row V a.aP.ae.ls.length W (q6 af.cells au) 149 3,sepL (q6 af.own au),row X a.aM.ae.ls.length Y (q6 af.cells av) 149 3,sepL (q6 af.own av),row cK aH.length cO (q6 bF.cells bU) 42 21,sepL (q6 bF.own bU)]∧s8 bF.abs bU=aH∧u≤b.length∧aH.length≤p0.bB.ls.length+u∧aH.length≤100000+u∧il p1 d a h b b 0 p0.bB.ls=il p1 d a h b (List.drop u b) u aH
 refine Wp.loop (fun i:Nat × (Option Addr) × Nat × (List bF) × (List bQ)=> [(11,vJ i.1),(10,vJ b.length),(9, .slice ae b.length aJ),(0,vP g0 0),(1,vP aN 0)]) nG (fun i=>b.length - i.1) (0,bM,bR,bE,p0.bB.ls) ⟨rfl,rfl,rfl,rfl,rfl,trivial⟩ (dm.2 ⟨nE,by exact bB,e6,e6,e6,rfl⟩) ?_
 rintro ⟨u,cK,cO,bU,aH⟩ tT iZ
 obtain⟨bV,dn,ru,ry,rz,dS⟩:=dm.1 iZ
 have rA:=az dn
 refine sr (Kz (.bool (decide (((u:Nat):Int) < ((b.length:Nat):Int)))) (nt (FU ?_)))
 by_cases iB:((u:Nat):Int) < ((b.length:Nat):Int)
 obtain⟨F,bW⟩:=dK (ls:=aX) (i:=u) bG.len f3 (show bD _ 3 ae b.length (q6 bG.cells aX) from (bz bV (i:=3) rfl (ay (P3.2 ⟨_,v5 _ b1, .tail _ b1⟩) (fun w9 h9 a9 b9=>o8 (az bn) (aV w9 h9 a9 b9))))) e9
 have fT:=fo bn bW
 have rC:F.aG.ls.length≤F.aG.c∧F.aG.ls.length≤9223372036854775807:=bz bV (i:=3) rfl (φ:=fun _=>_) (ay (P3.2 ⟨_,v5 _ b1, .tail _ b4⟩) (ay (P3.2 ⟨F,E0 bW,b1⟩) bq))
 have rD:F.aJ.ls.length≤F.aJ.c∧F.aJ.ls.length≤9223372036854775807:=bz bV (i:=3) rfl (φ:=fun _=>_) (ay (P3.2 ⟨_,v5 _ b1, .tail _ b4⟩) (ay (P3.2 ⟨F,E0 bW, .tail _ b1⟩) bq))
 have rE:F.aG.ls.length≤24024:=kg _ (E0 fT)
 have fU:=drop_at fT
 refine jT (dT iB) (sk (FU (bo (sr (Mz rfl (fw (.pointer (some ⟨ab ae,ao ae+u *3,none⟩)) (FZ (tH) rfl rfl ((show bD _ 3 ae b.length (q6 bG.cells aX) from (bz bV (i:=3) rfl (ay (P3.2 ⟨_,v5 _ b1, .tail _ b1⟩) (fun w9 h9 a9 b9=>o8 (az bn) (aV w9 h9 a9 b9))))).addr (i:=u) e6) e6) (fw (.agg (bG.cells F).toArray) (F5 rfl (Gc (cs:=(bG.cells F)) Tryz.isAgg172 Tryz.sizeOf172 ((show bD _ 3 ae b.length (q6 bG.cells aX) from (bz bV (i:=3) rfl (ay (P3.2 ⟨_,v5 _ b1, .tail _ b1⟩) (fun w9 h9 a9 b9=>o8 (az bn) (aV w9 h9 a9 b9))))).elem bG.len bW f3))) ?_)))))))
 refine dM [vI 0, .slice none 0 0, .slice none 0 0] 172 bV ?_
 intro iC tV nK
 refine Az rfl ?_
 refine dN (bG.cells F) 0 nK Tryz.sizeOf172 ?_
 intro tX cZ
 refine ns (Mz rfl (Kz (vP aN 0) (Kz (vP aN 6) (Lz (.slice B (s2 (s0 b.length false)) b.length) cZ 3 Tryz.isAgg104 (Mz rfl ?_)))))
 obtain⟨fV,dV⟩:=dK (ls:=(s0 b.length false)) (i:=u) oo f3 (show bD _ 1 B (s2 (s0 b.length false)) (q6 eL (s0 b.length false)) from (bz cZ (i:=4) rfl (ay (P3.2 ⟨_,v5 _ b1, .tail _ b2⟩) aV))) e9
 refine fw (.pointer (some ⟨ab B,ao B+u *1,none⟩)) (FZ (xA) rfl rfl ((show bD _ 1 B (s2 (s0 b.length false)) (q6 eL (s0 b.length false)) from (bz cZ (i:=4) rfl (ay (P3.2 ⟨_,v5 _ b1, .tail _ b2⟩) aV))).addr (i:=u) e6) e6) (fw (.bool fV) (F5 rfl (bZ.one Tryz.isAgg4 (((show bD _ 1 B (s2 (s0 b.length false)) (q6 eL (s0 b.length false)) from (bz cZ (i:=4) rfl (ay (P3.2 ⟨_,v5 _ b1, .tail _ b2⟩) aV))).elem oo dV f3).at_ (k:=0) rfl))) (Kz (.bool (!fV)) (nt ?_)))
 rcases JQ (fV) with dH | dH
 refine jF (cn dH) (Gj (bN (FW (FT (fw (vJ (u+1)) (FV (e:=C7.wrap (((u:Nat):Int)+1)) yk f1) (Mz rfl (WL.nil ?_)))))))
 have nL:=cZ.px [] [0] []
 exact F9 (u+1,cK,cO,bU,aH) ⟨rfl,rfl,rfl,rfl,rfl,trivial⟩ (dm.2 ⟨nL,by exact dn,e6,e6,e6,et (dS) (et (congrArg (fun q=>il p1 d a h b q u aH) fU) (et (ai (bJ dV)) (ip dH)))⟩) (by show b.length - (u+1) < b.length - u; omega)
 refine jT (cn dH) ?_
 refine oJ 23 [19] (bP.block (F8 (F8 (bP.block Gh)))) cZ ?_
 intro tY nM
 refine qv 0 rfl rfl (qp iC 0 1 rfl (ql 2 rfl 0 Tryz.isAgg3 rfl rfl rfl (qv 3 rfl rfl (qp aN 0 4 rfl (qp aN 0 5 rfl (ql 6 rfl 3 E1 rfl rfl rfl (qv 7 rfl rfl (qp g0 0 8 rfl (qp g0 0 9 rfl (ql 10 rfl 2 O3 rfl rfl rfl (qv 12 rfl rfl (qp aN 0 13 rfl (qp aN 3 14 rfl (ql 15 rfl 3 E1 rfl rfl rfl (qp iC 1 16 rfl (ql 17 rfl 0 P7 rfl rfl rfl ?_))))))))))))))))
 have aW:=nM.pf [1]
 have rF:=aW.rowC (i:=7) rfl
 have rG:=aW.rowC (i:=5) rfl
 obtain⟨dY,fZ⟩:∃ q,gG (aB.mk a.aa (D2 (D3.wrap (((a.bI:Nat):Int)+1))) (E4 (a.ak.ls++ [(dE.mk h p1 d.aU a.aa.aK (E4 d.aG.ls) (E4 b) (E4 (s0 b.length false)) (E4 (s0 b.length (E4 []:Ll aY))) 0)])) a.aR a.aN a.aO a.aP a.aM a.di a.cz a.cK a.cB a.cu)=q:=⟨_,rfl⟩
 obtain⟨tZ,ja,rH,jb,aK⟩:=Gn aW
 refine qd 11 rfl (Gd Tryz.call108 rfl (oh _ _ g (aB.mk a.aa (D2 (D3.wrap (((a.bI:Nat):Int)+1))) (E4 (a.ak.ls++ [(dE.mk h p1 d.aU a.aa.aK (E4 d.aG.ls) (E4 b) (E4 (s0 b.length false)) (E4 (s0 b.length (E4 []:Ll aY))) 0)])) a.aR a.aN a.aO a.aP a.aM a.di a.cz a.cK a.cB a.cu) n p r j N C E dD cB (I++ [(bA.mk h p1 d.aU a.aa.aK (H5 K L d.aG.ls) (H5 ae aJ aX) (H5 B b.length (s0 b.length false)) (H5 M b.length (s0 b.length (H5 none 0 []:bO))) 0)]) O P Q S T U V W X Y dY ja aC (aK _ 6 _ rfl aV) (show a.aa.aj.ls.length≤j∧a.aa.aj.ls.length≤9223372036854775807 from by omega) (fun x9 h9=>⟨aK _ 7 _ rfl (ay (P3.2 ⟨x9,h9,b1⟩) aV),bz (φ:=fun _=>_) aW (i:=8) rfl (ay (P3.2 ⟨x9,h9,b1⟩) bq)⟩) (oD (es:= [(bA.mk h p1 d.aU a.aa.aK (H5 K L d.aG.ls) (H5 ae aJ aX) (H5 B b.length (s0 b.length false)) (H5 M b.length (s0 b.length (H5 none 0 []:bO))) 0)]) (ms:= [(dE.mk h p1 d.aU a.aa.aK (E4 d.aG.ls) (E4 b) (E4 (s0 b.length false)) (E4 (s0 b.length (E4 []:Ll aY))) 0)]) Z (DI (fun z9 z8=> [dE.mk h p1 d.aU a.aa.aK (E4 d.aG.ls) (E4 z9) (E4 (s0 b.length false)) (E4 z8) 0]) bn (K4 (f:=bO.abs)))) (aK _ 4 _ rfl aV) (show s2 (a.ak.ls++ [(dE.mk h p1 d.aU a.aa.aK (E4 d.aG.ls) (E4 b) (E4 (s0 b.length false)) (E4 (s0 b.length (E4 []:Ll aY))) 0)])≤cB∧s2 (a.ak.ls++ [(dE.mk h p1 d.aU a.aa.aK (E4 d.aG.ls) (E4 b) (E4 (s0 b.length false)) (E4 (s0 b.length (E4 []:Ll aY))) 0)])≤9223372036854775807 from by omega) (fun x9 h9=>⟨aK _ 3 _ rfl (ay (P3.2 ⟨x9,h9,b1⟩) aV),bz (φ:=fun _=>_) aW (i:=4) rfl (ay (P3.2 ⟨x9,h9,b1⟩) bq),aK _ 3 _ rfl (ay (P3.2 ⟨x9,h9, .tail _ b1⟩) aV),bz (φ:=fun _=>_) aW (i:=4) rfl (ay (P3.2 ⟨x9,h9, .tail _ b1⟩) bq),(fun y1 k1=>⟨aK _ 3 _ rfl (ay (P3.2 ⟨x9,h9, .tail _ b4⟩) (ay (P3.2 ⟨y1,k1,b1⟩) aV)),bz (φ:=fun _=>_) aW (i:=4) rfl (ay (P3.2 ⟨x9,h9, .tail _ b4⟩) (ay (P3.2 ⟨y1,k1,b1⟩) bq)),aK _ 3 _ rfl (ay (P3.2 ⟨x9,h9, .tail _ b4⟩) (ay (P3.2 ⟨y1,k1, .tail _ b1⟩) aV)),bz (φ:=fun _=>_) aW (i:=4) rfl (ay (P3.2 ⟨x9,h9, .tail _ b4⟩) (ay (P3.2 ⟨y1,k1, .tail _ b1⟩) bq))⟩),aK _ 3 _ rfl (ay (P3.2 ⟨x9,h9, .tail _ b2⟩) aV),bz (φ:=fun _=>_) aW (i:=4) rfl (ay (P3.2 ⟨x9,h9, .tail _ b2⟩) bq),aK _ 3 _ rfl (ay (P3.2 ⟨x9,h9, .tail _ b3⟩) aV),bz (φ:=fun _=>_) aW (i:=4) rfl (ay (P3.2 ⟨x9,h9, .tail _ b3⟩) bq),(fun y1 k1=>⟨aK _ 3 _ rfl (ay (P3.2 ⟨x9,h9, .tail _ b5⟩) (ay (P3.2 ⟨y1,k1,b1⟩) aV)),bz (φ:=fun _=>_) aW (i:=4) rfl (ay (P3.2 ⟨x9,h9, .tail _ b5⟩) (ay (P3.2 ⟨y1,k1,b1⟩) bq)),(fun y2 k2=>⟨aK _ 3 _ rfl (ay (P3.2 ⟨x9,h9, .tail _ b5⟩) (ay (P3.2 ⟨y1,k1, .tail _ b1⟩) (ay (P3.2 ⟨y2,k2,b1⟩) aV))),bz (φ:=fun _=>_) aW (i:=4) rfl (ay (P3.2 ⟨x9,h9, .tail _ b5⟩) (ay (P3.2 ⟨y1,k1, .tail _ b1⟩) (ay (P3.2 ⟨y2,k2,b1⟩) bq)))⟩)⟩)⟩) e8 fZ) ?_)
 rintro _ uf ⟨rfl,jc⟩
 have nN:=jb _ _ jc
 have iD:=nN.pf [1]
 refine⟨.inr ⟨_,iD⟩, ?_⟩
 refine qk (.agg (gD 3 0 F.dV 0 0 0 0 0 h dY 0 a.aa.aK 0 0 0 false ([]) ([]) F.aG.A F.aG.ls.length F.aG.c none 0 0 none 0 0).toArray) 18 rfl ?_
 have nO:=iD.pf [2,21,22]
 obtain⟨gp,gu⟩:∃ q,dA (bH.mk (E4 aH)) (bQ.mk 3 0 F.dV 0 0 0 0 0 h dY 0 a.aa.aK 0 0 0 false (bL.mk ([]) ([])) (E4 F.aG.ls) (E4 ([])) (E4 ([])))=q:=⟨_,rfl⟩
 obtain⟨ug,jd,rJ,je,jf⟩:=Gv nO
 refine qd 19 rfl (Gd Tryz.call65 rfl (fI _ _ g0 (bH.mk (E4 aH)) cK cO bU g (bQ.mk 3 0 F.dV 0 0 0 0 0 h dY 0 a.aa.aK 0 0 0 false (bL.mk ([]) ([])) (E4 F.aG.ls) (E4 ([])) (E4 ([]))) F.aG.A F.aG.ls.length F.aG.c none 0 0 [] none 0 0 gp jd dn rfl (jf _ 3 _ rfl (ay (P3.2 ⟨_,v5 _ b1, .tail _ b4⟩) (ay (P3.2 ⟨F,E0 bW,b1⟩) aV))) (show F.aG.ls.length≤F.aG.c∧F.aG.ls.length≤9223372036854775807 from by omega) rfl rfl (fun _ _=>bD.nil _ _ _) f2 (fun _ h9=>absurd h9 B3) rfl (fun _ _=>bD.nil _ _ _) f2 e8 (by first | assumption | exact dG f4 | exact fun x hx=>absurd hx B3 | exact dG (Mk.l8 f4).1 | exact dG (Mk.lq f4).1 | exact dG (Mk.mq f4).1 | exact dG (Mk.mo f4).1 | exact dG (Mk.mr f4).1) gu) ?_)
 rintro _ uh ⟨nP,nQ,nR,rfl,jg,gy,gz⟩
 have iE:=je _ _ jg
 have rM:=az gy
 have rO:=iE.rowC (i:=1) rfl
 replace gz:gp.bB.ls.length=aH.length+1:=gz
 refine⟨.inl e7, ?_⟩
 refine qn (bN (FW (FT (fw (vJ (u+1)) (FV (e:=C7.wrap (((u:Nat):Int)+1)) yk f1) (Mz rfl (WL.nil ?_))))))
 have nS:=iE.px [4] [3] [1,2]
 exact F9 (u+1,nP,nQ,nR,gp.bB.ls) ⟨rfl,rfl,rfl,rfl,rfl,trivial⟩ (dm.2 ⟨nS,by exact gy,e6,e6,e6,et (dS) (et (congrArg (fun q=>il p1 d a h b q u aH) fU) (et (ai (bJ dV)) (et (gB dH) (et (ai fZ) (ai gu)))))⟩) (by show b.length - (u+1) < b.length - u; omega)
 refine jF (dF iB) (Wp.exit (F4 ?_))
 have jh:il p1 d a h b b 0 p0.bB.ls=aH:=et (dS) (et (congrArg (fun q=>il p1 d a h b q u aH) (eZ (ls:=b) (i:=u) e6)) rfl)
 refine F4 (Gg (Gf (res0 rfl) (WL.nil (Gf (res0 rfl) ?_))))
 have nT:=bV.px [1,20,21,0,5,6,7,8,9,4] [2] []
 obtain⟨rfl,rfl⟩:=gm (hr.symm.trans (show _=(bH.mk (E4 aH),aB.mk a.aa (D2 (D3.wrap (((a.bI:Nat):Int)+1))) (E4 (a.ak.ls++ [(dE.mk h p1 d.aU a.aa.aK (E4 d.aG.ls) (E4 b) (E4 (s0 b.length false)) (E4 (s0 b.length (E4 []:Ll aY))) 0)])) a.aR a.aN a.aO a.aP a.aM a.di a.cz a.cK a.cB a.cu) from et (ai cu) (et (ai cz) (et (ai bI) (et (iN l) (et (iN aM) (et (iN bu) (et (ip dW) (ai jh)))))))))
 exact⟨cK,cO,bU,n,p,r,j,N,C,E,ag,dD,cB,(I++ [(bA.mk h p1 d.aU a.aa.aK (H5 K L d.aG.ls) (H5 ae aJ aX) (H5 B b.length (s0 b.length false)) (H5 M b.length (s0 b.length (H5 none 0 []:bO))) 0)]),O,P,ah,Q,S,aj,T,U,ak,V,W,au,X,Y,av,(by(first | rw [← dP] | skip); (first | rw [← dQ] | skip); first | done | rfl),nT,dn,aC,aO,(oD (es:= [(bA.mk h p1 d.aU a.aa.aK (H5 K L d.aG.ls) (H5 ae aJ aX) (H5 B b.length (s0 b.length false)) (H5 M b.length (s0 b.length (H5 none 0 []:bO))) 0)]) (ms:= [(dE.mk h p1 d.aU a.aa.aK (E4 d.aG.ls) (E4 b) (E4 (s0 b.length false)) (E4 (s0 b.length (E4 []:Ll aY))) 0)]) Z (DI (fun z9 z8=> [dE.mk h p1 d.aU a.aa.aK (E4 d.aG.ls) (E4 z9) (E4 (s0 b.length false)) (E4 z8) 0]) bn (K4 (f:=bO.abs)))),aP,aQ,aR,aS,aT⟩
 refine jT (dT dW) (sr (Mz rfl (Mz rfl (Kz (vP dI 6) (Lz (vU d.aU) di 1 E1 ?_)))))
 have nU:=di.px [2,3,4] [] [1,5,6,7,8,9,10,11,22,23]
 obtain⟨⟨gF,aI⟩,gH⟩:∃ q:bH × aB,dB p0 p1 d.aU 2 ([]) (aB.mk a.aa (D2 (D3.wrap (((a.bI:Nat):Int)+1))) (E4 a.ak.ls) a.aR a.aN a.aO a.aP a.aM a.di a.cz a.cK a.cB a.cu)=q:=⟨_,rfl⟩
 obtain⟨ui,ji,rP,jk,rQ⟩:=GN nU
 refine cl P8 (jP _ _ g0 p0 bM bR bE p1 d.aU 2 none 0 0 [] ([]) g (aB.mk a.aa (D2 (D3.wrap (((a.bI:Nat):Int)+1))) (E4 a.ak.ls) a.aR a.aN a.aO a.aP a.aM a.di a.cz a.cK a.cB a.cu) n p r j C E J G O P ah Q S aj T U ak V W au X Y av gF aI ji bB rfl (fun _ _=>bD.nil _ _ _) (fun _ h9=>absurd h9 B3) rfl i8 g6 aP aQ aR aS aT e8 g3 g3 i2 gH) ?_
 rintro _ uj ⟨nV,nW,nX,nY,nZ,og,ol,om,oq,ou,ow,oz,oC,oF,oG,oH,oI,oK,rfl,jl,gI,gJ,gK,gL,gM,gN,gQ⟩
 have bX:=jk _ _ jl
 have rR:=az gI
 have rT:=az gJ
 have rU:=az gK
 have rV:=az gL
 have rW:=az gM
 have rX:=az gN
 have rY:=bX.rowC (i:=1) rfl
 have rZ:=bX.rowC (i:=4) rfl
 have r9:=bX.rowC (i:=6) rfl
 have si:=bX.rowC (i:=8) rfl
 have sj:=bX.rowC (i:=10) rfl
 have su:=bX.rowC (i:=12) rfl
 replace gQ:gF.bB.ls.length=p0.bB.ls.length+1:=gQ
 refine nt (rt (tR (Fin.res (res0 rfl) ?_)))
 have oL:=bX.px [] [14,22,23] [4,5,6,7,8,9,10,11,12,13]
 obtain⟨rfl,rfl⟩:=gm (hr.symm.trans (show _=(gF,aB.mk (dC.mk aI.aa.av aI.aa.ax aI.aa.bf aI.aa.aK (E4 a.aa.ag.ls) (E4 a.aa.aj.ls) (E4 a.aa.aI.ls)) aI.bI (E4 a.ak.ls) aI.aR aI.aN aI.aO aI.aP aI.aM aI.di aI.cz aI.cK aI.cB aI.cu) from et (ai cu) (et (ai cz) (et (ai bI) (et (iN l) (et (iN aM) (et (iN bu) (et (iN dW) (ai gH)))))))))
 exact⟨nV,nW,nX,n,p,r,j,N,C,E,ag,J,G,I,nY,nZ,og,ol,om,oq,ou,ow,oz,oC,oF,oG,oH,oI,oK,rfl,oL,gI,aC,aO,Z,gJ,gK,gL,gM,gN⟩
end Go.Proofs.YtbkagebjhbphaaaGreat
