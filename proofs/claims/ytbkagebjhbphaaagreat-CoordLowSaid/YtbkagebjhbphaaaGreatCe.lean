/-
 coord: a transaction begins.
-/
import Derived.Test.YtbkagebjhbphaaaGreatCc
namespace Go.Proofs.YtbkagebjhbphaaaGreat
open Int renaming toNat→D2
open IntKind renaming i64→C7,u64→D3
open List renaming flatMap→q6,flatMap_append→r7,length→s2,length_append→p5,length_cons→s3,length_drop→p4,length_nil→G1,length_replicate→H4,length_set→H3,length_take→p3,map→s8,map_replicate→J8,mem_append_right→v5,mem_flatMap→O7,mem_of_getElem?→E0,not_mem_nil→B3,replicate→s0
open Ll renaming mk→E4
open Sv renaming mk→H2
open _root_.Go.Proofs.Tryz renaming call106→P2,isAgg24→N7,isAgg28→E1,isAgg39→P1,isAgg79→O5
set_option maxRecDepth 100000
open Go.RowKit
set_option linter.unusedVariables false
set_option linter.unusedSectionVars false
set_option linter.unusedSimpArgs false
def ig (l:Int) (k:bQ) (a:aB) (e:Nat) (d:List fV):List fV→Nat→List bQ→(List bQ)
  | [],b,c=>c
  | f::g,b,c=>bnd (List.getD (s0 d.length false) b default) fun h=>if h=true then ig l k a e d g (b+1) c else bnd (gy (aB.mk a.aa (D2 (D3.wrap (((a.bH:Nat):Int)+1))) (E4 (a.aA.ls++ [(dH.mk e l k.aY a.aa.aI (E4 k.aD.ls) (E4 d) (E4 (s0 d.length false)) (E4 (s0 d.length (E4 []:Ll aX))) 0)])) a.aQ a.aO a.aL a.aN a.aK a.df a.cu a.cz a.cB a.cK)) fun i=>bnd (dB (bO.mk (E4 c)) (bQ.mk 3 0 f.dU 0 0 0 0 0 e i 0 a.aa.aI 0 0 0 false (bK.mk ([]) ([])) (E4 f.aD.ls) (E4 ([])) (E4 ([])))) fun j=>ig l k a e d g (b+1) j.bE.ls
def eO (j:bO) (i:Int) (h:bQ) (a:aB):bO × aB:=
 bnd (gX a) fun g=>bnd (gy a) fun k=>bnd (l9 a.aa.ag.ls h.aD.ls) fun f=>if((a.aA.ls.length:Nat):Int) ≥ 6 then bnd (dX j i h.aY 2 ([]) (aB.mk a.aa (D2 (D3.wrap (((a.bH:Nat):Int)+1))) (E4 a.aA.ls) a.aQ a.aO a.aL a.aN a.aK a.df a.cu a.cz a.cB a.cK)) fun e=>(e.1,aB.mk (dA.mk e.2.aa.ak e.2.aa.ax e.2.aa.bi e.2.aa.aI (E4 a.aa.ag.ls) (E4 a.aa.aj.ls) (E4 a.aa.aF.ls)) e.2.bH (E4 a.aA.ls) e.2.aQ e.2.aO e.2.aL e.2.aN e.2.aK e.2.df e.2.cu e.2.cz e.2.cB e.2.cK) else if((a.aA.ls.length+a.aa.aj.ls.length:Nat):Int) ≥ 8 then bnd (dX j i h.aY 2 ([]) (aB.mk a.aa (D2 (D3.wrap (((a.bH:Nat):Int)+1))) (E4 a.aA.ls) a.aQ a.aO a.aL a.aN a.aK a.df a.cu a.cz a.cB a.cK)) fun b=>(b.1,aB.mk (dA.mk b.2.aa.ak b.2.aa.ax b.2.aa.bi b.2.aa.aI (E4 a.aa.ag.ls) (E4 a.aa.aj.ls) (E4 a.aa.aF.ls)) b.2.bH (E4 a.aA.ls) b.2.aQ b.2.aO b.2.aL b.2.aN b.2.aK b.2.df b.2.cu b.2.cz b.2.cB b.2.cK) else if((D2 (D3.wrap (((g:Nat):Int) - ((k:Nat):Int))):Nat):Int) ≥ 64 then bnd (dX j i h.aY 2 ([]) (aB.mk a.aa (D2 (D3.wrap (((a.bH:Nat):Int)+1))) (E4 a.aA.ls) a.aQ a.aO a.aL a.aN a.aK a.df a.cu a.cz a.cB a.cK)) fun c=>(c.1,aB.mk (dA.mk c.2.aa.ak c.2.aa.ax c.2.aa.bi c.2.aa.aI (E4 a.aa.ag.ls) (E4 a.aa.aj.ls) (E4 a.aa.aF.ls)) c.2.bH (E4 a.aA.ls) c.2.aQ c.2.aO c.2.aL c.2.aN c.2.aK c.2.df c.2.cu c.2.cz c.2.cB c.2.cK) else if f.2=0 then bnd (ig i h a g f.1 f.1 0 j.bE.ls) fun sLrbbbffftL=>(bO.mk (E4 sLrbbbffftL),aB.mk a.aa (D2 (D3.wrap (((a.bH:Nat):Int)+1))) (E4 (a.aA.ls++ [(dH.mk g i h.aY a.aa.aI (E4 h.aD.ls) (E4 f.1) (E4 (s0 f.1.length false)) (E4 (s0 f.1.length (E4 []:Ll aX))) 0)])) a.aQ a.aO a.aL a.aN a.aK a.df a.cu a.cz a.cB a.cK) else bnd (dX j i h.aY 2 ([]) (aB.mk a.aa (D2 (D3.wrap (((a.bH:Nat):Int)+1))) (E4 a.aA.ls) a.aQ a.aO a.aL a.aN a.aK a.df a.cu a.cz a.cB a.cK)) fun d=>(d.1,aB.mk (dA.mk d.2.aa.ak d.2.aa.ax d.2.aa.bi d.2.aa.aI (E4 a.aa.ag.ls) (E4 a.aa.aj.ls) (E4 a.aa.aF.ls)) d.2.bH (E4 a.aA.ls) d.2.aQ d.2.aO d.2.aL d.2.aN d.2.aK d.2.df d.2.cu d.2.cz d.2.cB d.2.cK)
set_option maxHeartbeats 4000000 in
theorem jm (w:World) (D:Nat→Prop) (g0:Nat) (p0:bO) (bL:Option Addr) (bR:Nat) (bF:List bA) (p1:Int) (d:bQ) (dw:Option Addr) (gV dx:Nat) (dY:Option Addr) (gW dZ:Nat) (d9:List af) (ed:Option Addr) (gY ek:Nat) (g:Nat) (a:aB) (n:Option Addr) (p:Nat) (r:Option Addr) (j:Nat) (N:List ay) (C:Option Addr) (E:Nat) (ag:List aV) (J:Option Addr) (G:Nat) (I:List bB) (O:Option Addr) (P:Nat) (ai:List af) (Q:Option Addr) (S:Nat) (aj:List af) (T:Option Addr) (U:Nat) (ak:List af) (V:Option Addr) (W:Nat) (au:List af) (X:Option Addr) (Y:Nat) (ax:List af) (r0:bO) (r1:aB) (H:Own w D w [blk g0 [.pointer (some ⟨g,0,none⟩), .slice bL p0.bE.ls.length bR] 98,row bL p0.bE.ls.length bR (q6 bA.cells bF) 42 21,sepL (q6 bA.own bF),blk g [.int .i64 a.aa.ak, .int .u64 ((a.aa.ax:Nat):Int), .int .u64 ((a.aa.bi:Nat):Int), .int .u64 ((a.aa.aI:Nat):Int), .slice n a.aa.ag.ls.length p, .slice r a.aa.aj.ls.length j, .slice C a.aa.aF.ls.length E, .int .u64 ((a.bH:Nat):Int), .slice J a.aA.ls.length G, .bool a.aQ.aR, .int .u64 ((a.aQ.aH:Nat):Int), .int .i64 a.aQ.aZ, .slice O a.aQ.ae.ls.length P, .bool a.aO.aR, .int .u64 ((a.aO.aH:Nat):Int), .int .i64 a.aO.aZ, .slice Q a.aO.ae.ls.length S, .bool a.aL.aR, .int .u64 ((a.aL.aH:Nat):Int), .int .i64 a.aL.aZ, .slice T a.aL.ae.ls.length U, .bool a.aN.aR, .int .u64 ((a.aN.aH:Nat):Int), .int .i64 a.aN.aZ, .slice V a.aN.ae.ls.length W, .bool a.aK.aR, .int .u64 ((a.aK.aH:Nat):Int), .int .i64 a.aK.aZ, .slice X a.aK.ae.ls.length Y, .int .u64 ((a.df:Nat):Int), .int .u64 ((a.cu:Nat):Int), .int .u64 ((a.cz:Nat):Int), .int .u64 ((a.cB:Nat):Int), .int .u64 ((a.cK:Nat):Int), .pointer none] 86,row n a.aa.ag.ls.length p (q6 bv.cells a.aa.ag.ls) 89 2,row r a.aa.aj.ls.length j (q6 ay.cells N) 60 5,sepL (q6 ay.own N),row C a.aa.aF.ls.length E (q6 aV.cells ag) 56 4,sepL (q6 aV.own ag),row J a.aA.ls.length G (q6 bB.cells I) 107 9,sepL (q6 bB.own I),row O a.aQ.ae.ls.length P (q6 af.cells ai) 149 3,sepL (q6 af.own ai),row Q a.aO.ae.ls.length S (q6 af.cells aj) 149 3,sepL (q6 af.own aj),row T a.aL.ae.ls.length U (q6 af.cells ak) 149 3,sepL (q6 af.own ak),row V a.aN.ae.ls.length W (q6 af.cells au) 149 3,sepL (q6 af.own au),row X a.aK.ae.ls.length Y (q6 af.cells ax) 149 3,sepL (q6 af.own ax)]) (bE:s8 bA.abs bF=p0.bE.ls) (iF:gV=d.aD.ls.length) (eu:Ro w D fun w'=>bD w' 6 dw d.aD.ls.length (q6 bC.cells d.aD.ls)) (oP:d.aD.ls.length≤dx∧d.aD.ls.length≤9223372036854775807) (iG:s8 af.abs d9=d.ai.ls) (iH:gW=d.ai.ls.length) (oU:Ro w D fun w'=>bD w' 3 dY d.ai.ls.length (q6 af.cells d9)) (oV:d.ai.ls.length≤dZ∧d.ai.ls.length≤9223372036854775807) (oW:∀ x ∈ d9,Ro w D (fun w'=>bD w' 2 x.au.A x.au.ls.length (q6 aJ.cells x.au.ls))∧(x.au.ls.length≤x.au.c∧x.au.ls.length≤9223372036854775807)) (iI:gY=d.ag.ls.length) (oZ:Ro w D fun w'=>bD w' 2 ed d.ag.ls.length (q6 bv.cells d.ag.ls)) (o5:d.ag.ls.length≤ek∧d.ag.ls.length≤9223372036854775807) (aC:s8 ay.abs N=a.aa.aj.ls) (aO:s8 aV.abs ag=a.aa.aF.ls) (Z:s8 bB.abs I=a.aA.ls) (aP:s8 af.abs ai=a.aQ.ae.ls) (aQ:s8 af.abs aj=a.aO.ae.ls) (aR:s8 af.abs ak=a.aL.ae.ls) (aS:s8 af.abs au=a.aN.ae.ls) (aU:s8 af.abs ax=a.aK.ae.ls) (uk:a.aa.ag.ls.length≤1000∧a.aa.aj.ls.length≤1000∧a.aa.aF.ls.length≤1000∧a.aA.ls.length≤1000∧p0.bE.ls.length≤100000) (ul:1≤p1∧p1≤4) (um:d.aD.ls.length≤24∧d.ag.ls.length≤1000∧d.ai.ls.length≤1000∧jy d.aY) (hr:eO p0 p1 d a=(r0,r1)):
    Calls Tryz.prog 90 #[vP g0 0,vI p1, .agg (gH d.aM d.aP d.fO d.aS d.dJ d.d9 d.aY d.ax d.bf d.di d.bi d.aI d.dM d.cZ d.xN d.dY d.bW.bJ d.bW.bX dw gV dx dY gW dZ ed gY ek).toArray] w (dS fun v w'=> ∃ (B0ox0:Option Addr) (b0ox0:Nat) (e0ox0:List bA) (B1ox0:Option Addr) (b1ox0:Nat) (B1ox1:Option Addr) (b1ox1:Nat) (e1ox1:List ay) (B1ox2:Option Addr) (b1ox2:Nat) (e1ox2:List aV) (B1ox3:Option Addr) (b1ox3:Nat) (e1ox3:List bB) (B1ox4:Option Addr) (b1ox4:Nat) (e1ox4:List af) (B1ox5:Option Addr) (b1ox5:Nat) (e1ox5:List af) (B1ox6:Option Addr) (b1ox6:Nat) (e1ox6:List af) (B1ox7:Option Addr) (b1ox7:Nat) (e1ox7:List af) (B1ox8:Option Addr) (b1ox8:Nat) (e1ox8:List af),v= .tuple #[]∧Own w D w' [blk g0 [vP g 0, .slice B0ox0 r0.bE.ls.length b0ox0] 98,row B0ox0 r0.bE.ls.length b0ox0 (q6 bA.cells e0ox0) 42 21,sepL (q6 bA.own e0ox0),blk g [vI r1.aa.ak,vU r1.aa.ax,vU r1.aa.bi,vU r1.aa.aI, .slice B1ox0 r1.aa.ag.ls.length b1ox0, .slice B1ox1 r1.aa.aj.ls.length b1ox1, .slice B1ox2 r1.aa.aF.ls.length b1ox2,vU r1.bH, .slice B1ox3 r1.aA.ls.length b1ox3, .bool r1.aQ.aR,vU r1.aQ.aH,vI r1.aQ.aZ, .slice B1ox4 r1.aQ.ae.ls.length b1ox4, .bool r1.aO.aR,vU r1.aO.aH,vI r1.aO.aZ, .slice B1ox5 r1.aO.ae.ls.length b1ox5, .bool r1.aL.aR,vU r1.aL.aH,vI r1.aL.aZ, .slice B1ox6 r1.aL.ae.ls.length b1ox6, .bool r1.aN.aR,vU r1.aN.aH,vI r1.aN.aZ, .slice B1ox7 r1.aN.ae.ls.length b1ox7, .bool r1.aK.aR,vU r1.aK.aH,vI r1.aK.aZ, .slice B1ox8 r1.aK.ae.ls.length b1ox8,vU r1.df,vU r1.cu,vU r1.cz,vU r1.cB,vU r1.cK, .pointer none] 86,row B1ox0 r1.aa.ag.ls.length b1ox0 (q6 bv.cells r1.aa.ag.ls) 89 2,row B1ox1 r1.aa.aj.ls.length b1ox1 (q6 ay.cells e1ox1) 60 5,sepL (q6 ay.own e1ox1),row B1ox2 r1.aa.aF.ls.length b1ox2 (q6 aV.cells e1ox2) 56 4,sepL (q6 aV.own e1ox2),row B1ox3 r1.aA.ls.length b1ox3 (q6 bB.cells e1ox3) 107 9,sepL (q6 bB.own e1ox3),row B1ox4 r1.aQ.ae.ls.length b1ox4 (q6 af.cells e1ox4) 149 3,sepL (q6 af.own e1ox4),row B1ox5 r1.aO.ae.ls.length b1ox5 (q6 af.cells e1ox5) 149 3,sepL (q6 af.own e1ox5),row B1ox6 r1.aL.ae.ls.length b1ox6 (q6 af.cells e1ox6) 149 3,sepL (q6 af.own e1ox6),row B1ox7 r1.aN.ae.ls.length b1ox7 (q6 af.cells e1ox7) 149 3,sepL (q6 af.own e1ox7),row B1ox8 r1.aK.ae.ls.length b1ox8 (q6 af.cells e1ox8) 149 3,sepL (q6 af.own e1ox8)]∧(s8 bA.abs e0ox0=r0.bE.ls)∧(s8 ay.abs e1ox1=r1.aa.aj.ls)∧(s8 aV.abs e1ox2=r1.aa.aF.ls)∧(s8 bB.abs e1ox3=r1.aA.ls)∧(s8 af.abs e1ox4=r1.aQ.ae.ls)∧(s8 af.abs e1ox5=r1.aO.ae.ls)∧(s8 af.abs e1ox6=r1.aL.ae.ls)∧(s8 af.abs e1ox7=r1.aN.ae.ls)∧(s8 af.abs e1ox8=r1.aK.ae.ls)):=by
 subst iF iH iI
 have oN:=az bE
 have oO:=az iG
 have jo:=az aC
 have jq:=az aO
 have jr:=az Z
 have jv:=az aP
 have jw:=az aQ
 have jA:=az aR
 have jB:=az aS
 have jC:=az aU
 have o6:=H.rowC (i:=1) rfl
 have jD:=H.rowC (i:=4) rfl
 have jE:=H.rowC (i:=5) rfl
 have jG:=H.rowC (i:=7) rfl
 have jH:=H.rowC (i:=9) rfl
 have jI:=H.rowC (i:=11) rfl
 have jJ:=H.rowC (i:=13) rfl
 have jK:=H.rowC (i:=15) rfl
 have jL:=H.rowC (i:=17) rfl
 have jN:=H.rowC (i:=19) rfl
 refine cb Tryz.func90 ?_
 refine sr ?_
 refine dK (gM d dw dx dY dZ ed ek) 42 H ?_
 intro dI uo o7
 refine nt (EP ?_)
 refine oF 22 [] (E9 Fp) o7 ?_
 intro uq o8
 refine qv 0 rfl rfl (qp g0 0 1 rfl (qp g0 0 2 rfl (ql 3 rfl 1 N7 rfl rfl rfl (qv 5 rfl rfl (qp g0 0 6 rfl (qp g0 0 7 rfl (ql 8 rfl 1 N7 rfl rfl rfl ?_)))))))
 have o9:=o8.pf [4]
 obtain⟨h,cu⟩:∃ q,gX a=q:=⟨_,rfl⟩
 obtain⟨ut,jO,su,jP,sw⟩:=Fu o9
 refine qd 4 rfl (Fe Tryz.call126 rfl (pO _ _ g a n p r j C E J G O P Q S T U V W X Y h jO cu) ?_)
 rintro _ uu ⟨rfl,jQ,gZ⟩
 have pg:=jP _ _ jQ
 replace gZ:h≤18446744073709551615:=gZ
 have jR:=pg.pf [1,2,3,4]
 refine⟨.inr ⟨_,jR⟩, ?_⟩
 have bJ:=jR.pf [4]
 have sD:=bJ.rowC (i:=6) rfl
 have sF:=bJ.rowC (i:=10) rfl
 obtain⟨dJ,cz⟩:∃ q,gy a=q:=⟨_,rfl⟩
 obtain⟨uw,jS,sG,jU,bg⟩:=Fu bJ
 refine qd 9 rfl (Fe Tryz.call108 rfl (nR _ _ g a n p r j N C E J G I O P Q S T U V W X Y dJ jS aC (bg _ 5 _ rfl aT) (show a.aa.aj.ls.length≤j∧a.aa.aj.ls.length≤9223372036854775807 from by omega) (fun x9 h9=>⟨bg _ 6 _ rfl (av (O7.2 ⟨x9,h9,b1⟩) aT),bz (φ:=fun _=>_) bJ (i:=7) rfl (av (O7.2 ⟨x9,h9,b1⟩) bn)⟩) Z (bg _ 9 _ rfl aT) (show a.aA.ls.length≤G∧a.aA.ls.length≤9223372036854775807 from by omega) (fun x9 h9=>⟨bg _ 10 _ rfl (av (O7.2 ⟨x9,h9,b1⟩) aT),bz (φ:=fun _=>_) bJ (i:=11) rfl (av (O7.2 ⟨x9,h9,b1⟩) bn),bg _ 10 _ rfl (av (O7.2 ⟨x9,h9, .tail _ b1⟩) aT),bz (φ:=fun _=>_) bJ (i:=11) rfl (av (O7.2 ⟨x9,h9, .tail _ b1⟩) bn),(fun y1 k1=>⟨bg _ 10 _ rfl (av (O7.2 ⟨x9,h9, .tail _ b4⟩) (av (O7.2 ⟨y1,k1,b1⟩) aT)),bz (φ:=fun _=>_) bJ (i:=11) rfl (av (O7.2 ⟨x9,h9, .tail _ b4⟩) (av (O7.2 ⟨y1,k1,b1⟩) bn)),bg _ 10 _ rfl (av (O7.2 ⟨x9,h9, .tail _ b4⟩) (av (O7.2 ⟨y1,k1, .tail _ b1⟩) aT)),bz (φ:=fun _=>_) bJ (i:=11) rfl (av (O7.2 ⟨x9,h9, .tail _ b4⟩) (av (O7.2 ⟨y1,k1, .tail _ b1⟩) bn))⟩),bg _ 10 _ rfl (av (O7.2 ⟨x9,h9, .tail _ b2⟩) aT),bz (φ:=fun _=>_) bJ (i:=11) rfl (av (O7.2 ⟨x9,h9, .tail _ b2⟩) bn),bg _ 10 _ rfl (av (O7.2 ⟨x9,h9, .tail _ b3⟩) aT),bz (φ:=fun _=>_) bJ (i:=11) rfl (av (O7.2 ⟨x9,h9, .tail _ b3⟩) bn),(fun y1 k1=>⟨bg _ 10 _ rfl (av (O7.2 ⟨x9,h9, .tail _ b5⟩) (av (O7.2 ⟨y1,k1,b1⟩) aT)),bz (φ:=fun _=>_) bJ (i:=11) rfl (av (O7.2 ⟨x9,h9, .tail _ b5⟩) (av (O7.2 ⟨y1,k1,b1⟩) bn)),(fun y2 k2=>⟨bg _ 10 _ rfl (av (O7.2 ⟨x9,h9, .tail _ b5⟩) (av (O7.2 ⟨y1,k1, .tail _ b1⟩) (av (O7.2 ⟨y2,k2,b1⟩) aT))),bz (φ:=fun _=>_) bJ (i:=11) rfl (av (O7.2 ⟨x9,h9, .tail _ b5⟩) (av (O7.2 ⟨y1,k1, .tail _ b1⟩) (av (O7.2 ⟨y2,k2,b1⟩) bn)))⟩)⟩)⟩) e8 cz) ?_)
 rintro _ uy ⟨rfl,jW⟩
 have pq:=jU _ _ jW
 have gT:=pq.pf [1,2,3,4]
 refine⟨.inr ⟨_,gT⟩, ?_⟩
 refine qa 10 rfl rfl (qa 11 rfl rfl (qn (ER (sr (Mz rfl (Kz (vP g0 0) (Kz (vP g0 0) (Lz (vP g 0) gT 1 N7 (Kz (vP g 0) (Kz (vP g 7) (Lz (vU a.bH) gT 4 E1 (fw (.int .u64 ((D2 (D3.wrap (((a.bH:Nat):Int)+1)):Nat):Int)) (EQ (e:=D3.wrap (((a.bH:Nat):Int)+1)) yk (fe _)) (Kz (vP g 0) (Kz (vP g 7) ?_))))))))))))))
 have pu:=gT.pf [4]
 refine dN [.int .u64 ((D2 (D3.wrap (((a.bH:Nat):Int)+1)):Nat):Int)] 7 pu Tryz.sizeOf28 ?_
 intro uz pz
 refine nt (EP ?_)
 refine oF 22 [] (E9 Fp) pz ?_
 intro uA pE
 refine qv 0 rfl rfl (qp g0 0 1 rfl (qp g0 0 2 rfl (ql 3 rfl 2 N7 rfl rfl rfl (qp g 0 4 rfl (qp g 0 5 rfl (qp g 4 6 rfl (ql 7 rfl 0 Tryz.isAgg29 rfl rfl rfl (qp dI 18 8 rfl (ql 9 rfl 1 P1 rfl rfl rfl ?_)))))))))
 obtain⟨⟨b,dL⟩,bH⟩:∃ q:(List fV) × Int,l9 a.aa.ag.ls d.aD.ls=q:=⟨_,rfl⟩
 obtain⟨uB,jX,jY,jZ,j3⟩:=EU pE
 refine qd 10 rfl (Fe Tryz.call127 rfl (zu _ _ n a.aa.ag.ls.length p a.aa.ag.ls dw d.aD.ls.length dx d.aD.ls b dL jX (j3 _ 5 _ rfl aT) rfl e6 (jY _ eu) rfl e6 bH) ?_)
 rintro _ uC ⟨ae,aK,aZ,rfl,j4,bq⟩
 have j5:=jZ _ _ j4
 have sH:=az bq
 have sJ:=j5.rowC (i:=0) rfl
 have j6:∀ x ∈ b,x.aD.ls.length≤24024:=Ap bH e6 e6
 have sK:b.length≤5:=Am bH
 have kg:=j5.pb [0,1]
 refine⟨.inr ⟨_,kg⟩, ?_⟩
 refine qv 11 rfl rfl (qk (.slice ae b.length aK) 12 rfl (qk (vI dL) 13 rfl (qa 14 rfl rfl (qa 15 rfl rfl (qn (ER (EP ?_)))))))
 refine oF 24 [] (E9 Fp) kg ?_
 intro uD di
 refine qv 0 rfl rfl (qp g0 0 1 rfl (qp g0 0 2 rfl (ql 3 rfl 2 N7 rfl rfl rfl (qp g 0 4 rfl (qp g 8 5 rfl (ql 6 rfl 0 O5 rfl rfl rfl (qk (vJ a.aA.ls.length) 7 rfl (qk (.bool (decide (((a.aA.ls.length:Nat):Int) ≥ 6))) 8 rfl (qv 9 rfl rfl ?_)))))))))
 by_cases l:((a.aA.ls.length:Nat):Int) ≥ 6
 refine EW (rs:= []) 10 rfl rfl rfl (dT l) e7 (EW (rs:= []) 11 rfl rfl rfl (dT l) e7 (EW (rs:= []) 12 rfl rfl rfl (dT l) e7 (EW (rs:= []) 13 rfl rfl rfl (dT l) e7 (EW (rs:= []) 14 rfl rfl rfl (dT l) e7 (EW (rs:= []) 15 rfl rfl rfl (dT l) e7 (EW (rs:= []) 16 rfl rfl rfl (dT l) e7 (EW (rs:= []) 17 rfl rfl rfl (dT l) e7 (EW (rs:= []) 18 rfl rfl rfl (dT l) e7 (EW (rs:= []) 19 rfl rfl rfl (dT l) e7 (EW (rs:= []) 20 rfl rfl rfl (dT l) e7 (EW (rs:= []) 21 rfl rfl rfl (dT l) e7 (EW (rs:= []) 22 rfl rfl rfl (dT l) e7 (EW (rs:= []) 23 rfl rfl rfl (dT l) e7 (EW (rs:= []) 24 rfl rfl rfl (dT l) e7 (EW (rs:= []) 25 rfl rfl rfl (dT l) e7 (EW (rs:= []) 26 rfl rfl rfl (dT l) e7 (EW (rs:= []) 27 rfl rfl rfl (dT l) e7 (EW (rs:= []) 28 rfl rfl rfl (dT l) e7 (qt (v:= .bool true) 29 rfl (fun _ _=>Fa rfl (dT l) rfl) (qv 30 rfl rfl (EW (rs:= []) 31 rfl rfl rfl rfl e7 (EW (rs:= []) 32 rfl rfl rfl rfl e7 (EW (rs:= []) 33 rfl rfl rfl rfl e7 (EW (rs:= []) 34 rfl rfl rfl rfl e7 (qt (v:= .bool true) 35 rfl (fun _ _=>Fa rfl rfl rfl) (qa 36 rfl rfl (qn (ER (EP (sr (Mz rfl (Mz rfl (Sz rfl (Sz rfl (fw (.bool true) (Fa rfl rfl rfl) (nt (jt ?_)))))))))))))))))))))))))))))))))))))
 refine sr (Mz rfl (Mz rfl (Kz (vP dI 6) (Lz (vU d.aY) di 1 E1 ?_))))
 have pF:=di.px [2,3,4] [] [1,5,6,7,8,9,10,11,22,23]
 obtain⟨⟨iJ,bi⟩,ib⟩:∃ q:bO × aB,dX p0 p1 d.aY 2 ([]) (aB.mk a.aa (D2 (D3.wrap (((a.bH:Nat):Int)+1))) (E4 a.aA.ls) a.aQ a.aO a.aL a.aN a.aK a.df a.cu a.cz a.cB a.cK)=q:=⟨_,rfl⟩
 obtain⟨uE,ko,sM,kr,sN⟩:=FU pF
 refine cl P2 (jM _ _ g0 p0 bL bR bF p1 d.aY 2 none 0 0 [] ([]) g (aB.mk a.aa (D2 (D3.wrap (((a.bH:Nat):Int)+1))) (E4 a.aA.ls) a.aQ a.aO a.aL a.aN a.aK a.df a.cu a.cz a.cB a.cK) n p r j C E J G O P ai Q S aj T U ak V W au X Y ax iJ bi ko bE rfl (fun _ _=>bD.nil _ _ _) (fun _ h9=>absurd h9 B3) rfl i8 g6 aP aQ aR aS aU e8 g3 g3 i2 ib) ?_
 rintro _ uF ⟨pG,pI,pJ,ku,kv,kw,ky,kz,kC,kD,kE,kF,kG,kH,kI,kJ,kK,kL,rfl,kM,ic,eB,eF,eG,eH,eQ,eT⟩
 have dM:=kr _ _ kM
 have pK:=az ic
 have pM:=az eB
 have pQ:=az eF
 have pR:=az eG
 have pU:=az eH
 have pV:=az eQ
 have pW:=dM.rowC (i:=1) rfl
 have pX:=dM.rowC (i:=4) rfl
 have pY:=dM.rowC (i:=6) rfl
 have p8:=dM.rowC (i:=8) rfl
 have p9:=dM.rowC (i:=10) rfl
 have qb:=dM.rowC (i:=12) rfl
 replace eT:iJ.bE.ls.length=p0.bE.ls.length+1:=eT
 refine nt (rt (tR (Fin.res (res0 rfl) ?_)))
 have kN:=dM.px [] [14,22,23] [4,5,6,7,8,9,10,11,12,13]
 obtain⟨rfl,rfl⟩:=fT (hr.symm.trans (show _=(iJ,aB.mk (dA.mk bi.aa.ak bi.aa.ax bi.aa.bi bi.aa.aI (E4 a.aa.ag.ls) (E4 a.aa.aj.ls) (E4 a.aa.aF.ls)) bi.bH (E4 a.aA.ls) bi.aQ bi.aO bi.aL bi.aN bi.aK bi.df bi.cu bi.cz bi.cB bi.cK) from et (ah cu) (et (ah cz) (et (ah bH) (et (ip l) (ah ib))))))
 exact⟨pG,pI,pJ,n,p,r,j,N,C,E,ag,J,G,I,ku,kv,kw,ky,kz,kC,kD,kE,kF,kG,kH,kI,kJ,kK,kL,rfl,kN,ic,aC,aO,Z,eB,eF,eG,eH,eQ⟩
 refine EZ (v:=vP g0 0) (rs:= []) 10 rfl rfl rfl (dF l) e7 (fun _ _=>E5 rfl) (EZ (v:=vP g0 0) (rs:= []) 11 rfl rfl rfl (dF l) e7 (fun _ _=>yk) (EZ (v:=vP g0 0) (rs:= []) 12 rfl rfl rfl (dF l) e7 (fun _ _=>yk) (EZ (v:=vP g 0) (rs:= []) 13 rfl rfl rfl (dF l) e7 (fun _ ⟨_,H9⟩=>EY rfl (bZ.one N7 (FE (H9.cls (i:=2) rfl) rfl))) (EZ (v:=vP g 0) (rs:= []) 14 rfl rfl rfl (dF l) e7 (fun _ _=>yk) (EZ (v:=vP g 8) (rs:= []) 15 rfl rfl rfl (dF l) e7 (fun _ _=>yk) (EZ (v:= .slice J a.aA.ls.length G) (rs:= []) 16 rfl rfl rfl (dF l) e7 (fun _ ⟨_,H9⟩=>EY rfl (bZ.one O5 (FE (H9.cls (i:=0) rfl) rfl))) (EZ (v:=vJ a.aA.ls.length) (rs:= []) 17 rfl rfl rfl (dF l) e7 (fun _ _=>yk) (EZ (v:=vP g0 0) (rs:= []) 18 rfl rfl rfl (dF l) e7 (fun _ _=>E5 rfl) (EZ (v:=vP g0 0) (rs:= []) 19 rfl rfl rfl (dF l) e7 (fun _ _=>yk) (EZ (v:=vP g0 0) (rs:= []) 20 rfl rfl rfl (dF l) e7 (fun _ _=>yk) (EZ (v:=vP g 0) (rs:= []) 21 rfl rfl rfl (dF l) e7 (fun _ ⟨_,H9⟩=>EY rfl (bZ.one N7 (FE (H9.cls (i:=2) rfl) rfl))) (EZ (v:=vP g 0) (rs:= []) 22 rfl rfl rfl (dF l) e7 (fun _ _=>yk) (EZ (v:=vP g 0) (rs:= []) 23 rfl rfl rfl (dF l) e7 (fun _ _=>yk) (EZ (v:=vP g 5) (rs:= []) 24 rfl rfl rfl (dF l) e7 (fun _ _=>yk) (EZ (v:= .slice r a.aa.aj.ls.length j) (rs:= []) 25 rfl rfl rfl (dF l) e7 (fun _ ⟨_,H9⟩=>EY rfl (bZ.one Tryz.isAgg30 (FE (H9.cls (i:=0) rfl) rfl))) (EZ (v:=vJ a.aa.aj.ls.length) (rs:= []) 26 rfl rfl rfl (dF l) e7 (fun _ _=>yk) (EZ (v:=vJ (a.aA.ls.length+a.aa.aj.ls.length)) (rs:= []) 27 rfl rfl rfl (dF l) e7 (fun _ _=>EQ (e:=C7.wrap (((a.aA.ls.length:Nat):Int)+((a.aa.aj.ls.length:Nat):Int))) yk f1) (EZ (v:= .bool (decide (((a.aA.ls.length+a.aa.aj.ls.length:Nat):Int) ≥ 8))) (rs:= []) 28 rfl rfl rfl (dF l) e7 (fun _ _=>yk) (qt (v:= .bool (decide (((a.aA.ls.length+a.aa.aj.ls.length:Nat):Int) ≥ 8))) 29 rfl (fun _ _=>ES rfl (dF l) rfl) (qv 30 rfl rfl ?_))))))))))))))))))))
 by_cases aM:((a.aA.ls.length+a.aa.aj.ls.length:Nat):Int) ≥ 8
 refine EW (rs:= []) 31 rfl rfl rfl (dT aM) e7 (EW (rs:= []) 32 rfl rfl rfl (dT aM) e7 (EW (rs:= []) 33 rfl rfl rfl (dT aM) e7 (EW (rs:= []) 34 rfl rfl rfl (dT aM) e7 (qt (v:= .bool true) 35 rfl (fun _ _=>Fa rfl (dT aM) rfl) (qa 36 rfl rfl (qn (ER (EP (sr (Mz rfl (Mz rfl (Sz rfl (Sz rfl (fw (.bool true) (Fa rfl rfl rfl) (nt (jt (sr (Mz rfl (Mz rfl (Kz (vP dI 6) (Lz (vU d.aY) di 1 E1 ?_)))))))))))))))))))))
 have kP:=di.px [2,3,4] [] [1,5,6,7,8,9,10,11,22,23]
 obtain⟨⟨eU,aF⟩,eX⟩:∃ q:bO × aB,dX p0 p1 d.aY 2 ([]) (aB.mk a.aa (D2 (D3.wrap (((a.bH:Nat):Int)+1))) (E4 a.aA.ls) a.aQ a.aO a.aL a.aN a.aK a.df a.cu a.cz a.cB a.cK)=q:=⟨_,rfl⟩
 obtain⟨sO,iK,qc,iL,qf⟩:=FU kP
 refine cl P2 (jM _ _ g0 p0 bL bR bF p1 d.aY 2 none 0 0 [] ([]) g (aB.mk a.aa (D2 (D3.wrap (((a.bH:Nat):Int)+1))) (E4 a.aA.ls) a.aQ a.aO a.aL a.aN a.aK a.df a.cu a.cz a.cB a.cK) n p r j C E J G O P ai Q S aj T U ak V W au X Y ax eU aF iK bE rfl (fun _ _=>bD.nil _ _ _) (fun _ h9=>absurd h9 B3) rfl i8 g6 aP aQ aR aS aU e8 g3 g3 i2 eX) ?_
 rintro _ sP ⟨kQ,kR,kS,kT,kU,kV,kW,kX,kY,kZ,lc,lg,lh,ll,lm,lq,lu,lv,rfl,iO,eY,fo,fq,fA,fB,fC,fE⟩
 have bS:=iL _ _ iO
 have qg:=az eY
 have qh:=az fo
 have qi:=az fq
 have qj:=az fA
 have qm:=az fB
 have qo:=az fC
 have qw:=bS.rowC (i:=1) rfl
 have qx:=bS.rowC (i:=4) rfl
 have qy:=bS.rowC (i:=6) rfl
 have qz:=bS.rowC (i:=8) rfl
 have qA:=bS.rowC (i:=10) rfl
 have qB:=bS.rowC (i:=12) rfl
 replace fE:eU.bE.ls.length=p0.bE.ls.length+1:=fE
 refine nt (rt (tR (Fin.res (res0 rfl) ?_)))
 have lw:=bS.px [] [14,22,23] [4,5,6,7,8,9,10,11,12,13]
 obtain⟨rfl,rfl⟩:=fT (hr.symm.trans (show _=(eU,aB.mk (dA.mk aF.aa.ak aF.aa.ax aF.aa.bi aF.aa.aI (E4 a.aa.ag.ls) (E4 a.aa.aj.ls) (E4 a.aa.aF.ls)) aF.bH (E4 a.aA.ls) aF.aQ aF.aO aF.aL aF.aN aF.aK aF.df aF.cu aF.cz aF.cB aF.cK) from et (ah cu) (et (ah cz) (et (ah bH) (et (iN l) (et (ip aM) (ah eX)))))))
 exact⟨kQ,kR,kS,n,p,r,j,N,C,E,ag,J,G,I,kT,kU,kV,kW,kX,kY,kZ,lc,lg,lh,ll,lm,lq,lu,lv,rfl,lw,eY,aC,aO,Z,fo,fq,fA,fB,fC⟩
 refine EZ (v:=vU h) (rs:= []) 31 rfl rfl rfl (dF aM) e7 (fun _ _=>E5 rfl) (EZ (v:=vU dJ) (rs:= []) 32 rfl rfl rfl (dF aM) e7 (fun _ _=>E5 rfl) (EZ (v:= .int .u64 ((D2 (D3.wrap (((h:Nat):Int) - ((dJ:Nat):Int))):Nat):Int)) (rs:= []) 33 rfl rfl rfl (dF aM) e7 (fun _ _=>EQ (e:=D3.wrap (((h:Nat):Int) - ((dJ:Nat):Int))) yk (fe _)) (EZ (v:= .bool (decide (((D2 (D3.wrap (((h:Nat):Int) - ((dJ:Nat):Int))):Nat):Int) ≥ 64))) (rs:= []) 34 rfl rfl rfl (dF aM) e7 (fun _ _=>yk) (qt (v:= .bool (decide (((D2 (D3.wrap (((h:Nat):Int) - ((dJ:Nat):Int))):Nat):Int) ≥ 64))) 35 rfl (fun _ _=>ES rfl (dF aM) rfl) (qa 36 rfl rfl (qn (ER (EP (sr (Mz rfl (Mz rfl ?_)))))))))))
 by_cases bu:((D2 (D3.wrap (((h:Nat):Int) - ((dJ:Nat):Int))):Nat):Int) ≥ 64
 refine Sz (dT bu) (Sz (dT bu) (fw (.bool true) (Fa rfl (dT bu) rfl) (nt (jt (sr (Mz rfl (Mz rfl (Kz (vP dI 6) (Lz (vU d.aY) di 1 E1 ?_)))))))))
 have lC:=di.px [2,3,4] [] [1,5,6,7,8,9,10,11,22,23]
 obtain⟨⟨fF,aG⟩,fG⟩:∃ q:bO × aB,dX p0 p1 d.aY 2 ([]) (aB.mk a.aa (D2 (D3.wrap (((a.bH:Nat):Int)+1))) (E4 a.aA.ls) a.aQ a.aO a.aL a.aN a.aK a.df a.cu a.cz a.cB a.cK)=q:=⟨_,rfl⟩
 obtain⟨sQ,iP,qD,iQ,qE⟩:=FU lC
 refine cl P2 (jM _ _ g0 p0 bL bR bF p1 d.aY 2 none 0 0 [] ([]) g (aB.mk a.aa (D2 (D3.wrap (((a.bH:Nat):Int)+1))) (E4 a.aA.ls) a.aQ a.aO a.aL a.aN a.aK a.df a.cu a.cz a.cB a.cK) n p r j C E J G O P ai Q S aj T U ak V W au X Y ax fF aG iP bE rfl (fun _ _=>bD.nil _ _ _) (fun _ h9=>absurd h9 B3) rfl i8 g6 aP aQ aR aS aU e8 g3 g3 i2 fG) ?_
 rintro _ sS ⟨lD,lF,lG,lH,lI,lJ,lK,lL,lM,lN,lQ,lS,lT,lU,lV,lW,lX,lY,rfl,iR,fH,fI,fJ,fK,fM,fO,fP⟩
 have bT:=iQ _ _ iR
 have qF:=az fH
 have qG:=az fI
 have qH:=az fJ
 have qI:=az fK
 have qJ:=az fM
 have qK:=az fO
 have qM:=bT.rowC (i:=1) rfl
 have qN:=bT.rowC (i:=4) rfl
 have qO:=bT.rowC (i:=6) rfl
 have qP:=bT.rowC (i:=8) rfl
 have qQ:=bT.rowC (i:=10) rfl
 have qR:=bT.rowC (i:=12) rfl
 replace fP:fF.bE.ls.length=p0.bE.ls.length+1:=fP
 refine nt (rt (tR (Fin.res (res0 rfl) ?_)))
 have lZ:=bT.px [] [14,22,23] [4,5,6,7,8,9,10,11,12,13]
 obtain⟨rfl,rfl⟩:=fT (hr.symm.trans (show _=(fF,aB.mk (dA.mk aG.aa.ak aG.aa.ax aG.aa.bi aG.aa.aI (E4 a.aa.ag.ls) (E4 a.aa.aj.ls) (E4 a.aa.aF.ls)) aG.bH (E4 a.aA.ls) aG.aQ aG.aO aG.aL aG.aN aG.aK aG.df aG.cu aG.cz aG.cB aG.cK) from et (ah cu) (et (ah cz) (et (ah bH) (et (iN l) (et (iN aM) (et (ip bu) (ah fG))))))))
 exact⟨lD,lF,lG,n,p,r,j,N,C,E,ag,J,G,I,lH,lI,lJ,lK,lL,lM,lN,lQ,lS,lT,lU,lV,lW,lX,lY,rfl,lZ,fH,aC,aO,Z,fI,fJ,fK,fM,fO⟩
 refine gw (vI dL) (dF bu) (E5 rfl) (gw (.bool (decide (¬ (dL=0)))) (dF bu) (Fs (e:= !(decide (dL=0))) yk decide_not.symm) (fw (.bool (decide (¬ (dL=0)))) (ES rfl (dF bu) rfl) (nt ?_)))
 by_cases dU:dL=0
 refine jF (dF (IV dU)) (sk (sr (Mz rfl (Kz (vJ b.length) (An rfl (EP ?_))))))
 refine oF 24 [] (E9 Fp) di ?_
 intro sU l5
 refine qv 0 rfl rfl (qv 1 rfl rfl (qp dI 6 2 rfl (ql 3 rfl 1 E1 rfl rfl rfl (qv 4 rfl rfl (qp g0 0 5 rfl (qp g0 0 6 rfl (ql 7 rfl 2 N7 rfl rfl rfl (qp g 0 8 rfl (qp g 0 9 rfl (qp g 3 10 rfl (ql 11 rfl 0 E1 rfl rfl rfl (qp dI 18 12 rfl (ql 13 rfl 1 P1 rfl rfl rfl (qv 15 rfl rfl (qv 16 rfl rfl (qv 18 rfl rfl ?_))))))))))))))))
 have qU:s2 (s0 b.length false)=b.length:=H4
 have qV:s2 (s0 b.length (H2 none 0 []:bM))=b.length:=H4
 have qW:s2 (s0 b.length (E4 []:Ll aX))=b.length:=H4
 refine Eh ⟨14,_,_,_,_,_,Option Addr × Nat,fun g9=> .slice g9.1 d.aD.ls.length g9.2,fun _=>True,fun g9=> [row g9.1 d.aD.ls.length g9.2 (q6 bC.cells d.aD.ls) 72 6]⟩ ⟨17,_,_,_,_,_,Option Addr,fun g9=> .slice g9 b.length b.length,fun _=>True,fun g9=> [row g9 b.length b.length (q6 eL (s0 b.length false)) 4 1]⟩ ⟨19,_,_,_,_,_,Option Addr,fun g9=> .slice g9 b.length b.length,fun _=>True,fun g9=> [sepL (q6 bM.own (s0 b.length (H2 none 0 []:bM))),row g9 b.length b.length (q6 (FJ (β:=af)) (s0 b.length (H2 none 0 []:bM))) 40 1]⟩ ⟨21,_,_,_,_,_,Nat,fun g9=>vP g9 0,fun _=>True,fun g9=> [blk g9 (qC 0 0 0 0 none 0 0 none 0 0 none 0 0 none 0 0 0) 107]⟩ 20 24 l5 ⟨⟨rfl,rfl,rfl, ?_⟩,⟨rfl,rfl,rfl, ?_⟩,⟨rfl,rfl,rfl, ?_⟩,⟨rfl,rfl,rfl, ?_⟩,trivial⟩ rfl ?_
 intro sV L' l6
 refine(FQ (cs:=(qC 0 0 0 0 none 0 0 none 0 0 none 0 0 none 0 0 0)) (t:=107) l6 rfl rfl (fun _=>by kernel_rfl) ?_)
 intro aN sW l7
 exact⟨aN,rfl,trivial,l7⟩
 intro sZ L' l8
 obtain⟨tq,iT,iU,iV,qX⟩:=EU l8
 refine(Fe Tryz.call109 rfl (mV _ _ dw d.aD.ls.length dx d.aD.ls d.aD.ls iT (iU _ eu) rfl e6 rfl) ?_)
 rintro _ tu ⟨K,L,rfl,iW⟩
 have ma:=iV _ _ iW
 exact⟨(K,L),rfl,trivial,ma⟩
 intro tC L' mf
 refine(F5 (x0:=false) (z:= .bool false) (k:=b.length) (size:=1) (bytes:=1) nV f3 rfl Tryz.underlying104 e7 mf rfl rfl e6 (by unfold maxLen; omega) ?_)
 intro B tF mg
 exact⟨B,rfl,trivial,mg⟩
 intro tH L' mi
 refine(F5 (x0:=(H2 none 0 []:bM)) (z:= .slice none 0 0) (k:=b.length) (size:=1) (bytes:=24) qL f3 rfl Tryz.underlying105 e7 mi rfl rfl e6 (by unfold maxLen; omega) ?_)
 intro M tJ mo
 have mq:=mo.free (R:=sepL (q6 bM.own (s0 b.length (H2 none 0 []:bM)))) (ug (Ce (eZ 149 3) (xY fun _ h9=>absurd h9 B3)))
 exact⟨M,rfl,trivial,mq⟩
 rintro ⟨K,L⟩ _ B _ M _
 refine⟨.agg (qC h p1 d.aY a.aa.aI K d.aD.ls.length L ae b.length aK B b.length b.length M b.length b.length 0).toArray,fun _=>yk, ?_⟩
 rintro aN _
 intro mr mD
 have dV:Own w D mr (blk aN (qC 0 0 0 0 none 0 0 none 0 0 none 0 0 none 0 0 0) 107::sepL (q6 bM.own (s0 b.length (H2 none 0 []:bM)))::row M b.length b.length (q6 (FJ (β:=af)) (s0 b.length (H2 none 0 []:bM))) 40 1::row B b.length b.length (q6 eL (s0 b.length false)) 4 1::row K d.aD.ls.length L (q6 bC.cells d.aD.ls) 72 6::_):=mD.flat.pf []
 have qY:=dV.rowC (i:=2) rfl
 have qZ:=dV.rowC (i:=3) rfl
 have q8:=dV.rowC (i:=4) rfl
 have mE:=dV.pb [0,1,2,3,4]
 have mF:=mE.pf [24]
 refine qe 22 rfl (Do.store (vs:=(qC h p1 d.aY a.aa.aI K d.aD.ls.length L ae b.length aK B b.length b.length M b.length b.length 0)) (o:=0) mF rfl rfl Tryz.sizeOf107 rfl rfl rfl rfl ?_)
 intro tK mG
 have ik:=mG.pb [0,25,26,27,28]
 refine⟨.inr ⟨_,ik⟩, ?_⟩
 refine qn (ER (EP ?_))
 have mH:=ik.px [] [1] []
 have dO:b.length=s2 (s0 b.length (E4 []:Ll aX)):=by first | omega | (simp only [H3]; done) | (simp only [H3,p5,s3,G1,p3,p4,H4]; omega)
 have mI:=mH.pf [23]
 have mJ:=FZ 7 dO mI
 have mK:=mJ.pf [25]
 have mM:=FL dO mK
 have mO:=mM.pb [1,25,0,26,27]
 have dP:b.length=s2 (s0 b.length false):=by first | omega | (simp only [H3]; done) | (simp only [H3,p5,s3,G1,p3,p4,H4]; omega)
 have mP:=mO.pf [23]
 have mQ:=FZ 6 dP mP
 have mR:=mQ.pf [26]
 have mU:=FL dP mR
 have mW:=mU.pb [1,25,26,0,27]
 have mX:=mW.pf [0,1,23]
 refine CG [16] (E9 Fp) mX ?_
 intro tL mY
 refine qv 0 rfl rfl (qp g0 0 1 rfl (qp g0 0 2 rfl (ql 3 rfl 1 N7 rfl rfl rfl (qv 4 rfl rfl (qp g0 0 5 rfl (qp g0 0 6 rfl (ql 7 rfl 1 N7 rfl rfl rfl (qp g 0 8 rfl (qp g 8 9 rfl (ql 10 rfl 0 O5 rfl rfl rfl (qt (v:= .agg (qC h p1 d.aY a.aa.aI K d.aD.ls.length L ae b.length aK B (s2 (s0 b.length false)) b.length M (s2 (s0 b.length (E4 []:Ll aX))) b.length 0).toArray) 11 rfl (fun _ ⟨_,H9⟩=>EY rfl (Fb (cs:=(qC h p1 d.aY a.aa.aI K d.aD.ls.length L ae b.length aK B (s2 (s0 b.length false)) b.length M (s2 (s0 b.length (E4 []:Ll aX))) b.length 0)) Tryz.isAgg107 Tryz.sizeOf107 ((H9.cls (i:=2) rfl).lit (k:=0) (m:=9) rfl))) ?_)))))))))))
 refine qd 12 rfl (F9 (cs:=(qC h p1 d.aY a.aa.aI K d.aD.ls.length L ae b.length aK B (s2 (s0 b.length false)) b.length M (s2 (s0 b.length (E4 []:Ll aX))) b.length 0)) (t:=107) (sz:=9) (m:=1) mY rfl rfl (fun _=>by kernel_rfl) rfl f3 ?_)
 intro il tN fQ
 replace fQ:=Fx (y:=row il 1 1 (q6 bB.cells ([(bB.mk h p1 d.aY a.aa.aI (H2 K L d.aD.ls) (H2 ae aK aZ) (H2 B b.length (s0 b.length false)) (H2 M b.length (s0 b.length (H2 none 0 []:bM))) 0)])) 107 9) (CU (fun z9 z8=>row il 1 1 [vU h,vI p1,vU d.aY,vU a.aa.aI, .slice K d.aD.ls.length L, .slice ae z9 aK, .slice B (s2 (s0 b.length false)) b.length, .slice M z8 b.length,vI 0] 107 9) (az bq).symm (az (J8 (f:=bM.abs))).symm) fQ
 have iq:=fQ.pf [1,2,3]
 refine⟨.inr ⟨_,iq⟩, ?_⟩
 have iw:=iq.pf [11,12,28,23,27,26,24,25]
 refine qd 13 rfl (Fy (k:=a.aA.ls.length) (m:=1) (oQ) iw rfl rfl (iM Tryz.underlying79 (iw.rds (i:=11) rfl) (fu bB.one ([(bB.mk h p1 d.aY a.aa.aI (H2 K L d.aD.ls) (H2 ae aK aZ) (H2 B b.length (s0 b.length false)) (H2 M b.length (s0 b.length (H2 none 0 []:bM))) 0)]))) rfl e6 (s:=s2 (a.aA.ls++ [(dH.mk h p1 d.aY a.aa.aI (E4 d.aD.ls) (E4 b) (E4 (s0 b.length false)) (E4 (s0 b.length (E4 []:Ll aX))) 0)])) f7 (r7).symm ?_)
 intro dC cB mZ ng
 have ni:=ng.pf [3]
 have nk:=FL (az bq).symm ni
 have nu:=nk.pf [5]
 have ny:=FL (n':=s2 (s0 b.length (H2 none 0 []:bM))) (az (J8 (f:=bM.abs))).symm nu
 have nz:=ny.pf [3,4,1,5,0,6,7]
 have nA:Own w D mZ (sepL (q6 bB.own (I++ [(bB.mk h p1 d.aY a.aa.aI (H2 K L d.aD.ls) (H2 ae aK aZ) (H2 B b.length (s0 b.length false)) (H2 M b.length (s0 b.length (H2 none 0 []:bM))) 0)]))::_):=nz.sepAdd (L2:= [row K d.aD.ls.length L (q6 bC.cells d.aD.ls) 72 6,row ae aZ.length aK (q6 bG.cells aZ) 172 3,row B (s2 (s0 b.length false)) b.length (q6 eL (s0 b.length false)) 4 1,row M (s2 (s0 b.length (H2 none 0 []:bM))) b.length (q6 (FJ (β:=af)) (s0 b.length (H2 none 0 []:bM))) 40 1,sepL (q6 bG.own aZ),sepL (q6 bM.own (s0 b.length (H2 none 0 []:bM)))]) (r7 (f:=bB.own) (xs:=I) (ys:= [(bB.mk h p1 d.aY a.aa.aI (H2 K L d.aD.ls) (H2 ae aK aZ) (H2 B b.length (s0 b.length false)) (H2 M b.length (s0 b.length (H2 none 0 []:bM))) 0)])).symm
 have q9:s2 (a.aA.ls++ [(dH.mk h p1 d.aY a.aa.aI (E4 d.aD.ls) (E4 b) (E4 (s0 b.length false)) (E4 (s0 b.length (E4 []:Ll aX))) 0)])=a.aA.ls.length+1:=by simp only [p5,s3,G1]
 have rf:=az (nZ (es:= [(bB.mk h p1 d.aY a.aa.aI (H2 K L d.aD.ls) (H2 ae aK aZ) (H2 B b.length (s0 b.length false)) (H2 M b.length (s0 b.length (H2 none 0 []:bM))) 0)]) (ms:= [(dH.mk h p1 d.aY a.aa.aI (E4 d.aD.ls) (E4 b) (E4 (s0 b.length false)) (E4 (s0 b.length (E4 []:Ll aX))) 0)]) Z (CU (fun z9 z8=> [dH.mk h p1 d.aY a.aa.aI (E4 d.aD.ls) (E4 z9) (E4 (s0 b.length false)) (E4 z8) 0]) bq (J8 (f:=bM.abs))))
 have iy:=nA.pf [2,3,4]
 refine⟨.inr ⟨_,iy⟩, ?_⟩
 refine qp g 0 14 rfl (qp g 8 15 rfl ?_)
 refine qe 16 rfl (Do.store (vs:= [.slice dC (s2 (a.aA.ls++ [(dH.mk h p1 d.aY a.aa.aI (E4 d.aD.ls) (E4 b) (E4 (s0 b.length false)) (E4 (s0 b.length (E4 []:Ll aX))) 0)])) cB]) (o:=8) iy rfl rfl Tryz.sizeOf79 rfl rfl rfl rfl ?_)
 intro tO nC
 refine⟨.inl e7, ?_⟩
 refine qn (ER ?_)
 have iA:=nC.px [] [5] []
 refine EO (Mz rfl ?_)
 refine WL.do rfl (Fe Tryz.call64 rfl ?_ (fun _ _ k=>k))
 refine cb Tryz.func64 ?_
 refine sr (Mz rfl (Kz (vP aN 0) (Kz (vP aN 5) (Lz (.slice ae b.length aK) iA 2 Tryz.isAgg103 (Kz (vJ b.length) (Mn rfl (bo ?_)))))))
 have nD:=iA.pb [5,6]
 obtain⟨nE,dm⟩:=zY fun(u:Nat) (cK:Option Addr) (cO:Nat) (bU:List bA) (aH:List bQ) (w':World)=>Own w D w' [blk g [vI a.aa.ak,vU a.aa.ax,vU a.aa.bi,vU a.aa.aI, .slice n a.aa.ag.ls.length p, .slice r a.aa.aj.ls.length j, .slice C a.aa.aF.ls.length E, .int .u64 ((D2 (D3.wrap (((a.bH:Nat):Int)+1)):Nat):Int), .slice dC (s2 (a.aA.ls++ [(dH.mk h p1 d.aY a.aa.aI (E4 d.aD.ls) (E4 b) (E4 (s0 b.length false)) (E4 (s0 b.length (E4 []:Ll aX))) 0)])) cB, .bool a.aQ.aR,vU a.aQ.aH,vI a.aQ.aZ, .slice O a.aQ.ae.ls.length P, .bool a.aO.aR,vU a.aO.aH,vI a.aO.aZ, .slice Q a.aO.ae.ls.length S, .bool a.aL.aR,vU a.aL.aH,vI a.aL.aZ, .slice T a.aL.ae.ls.length U, .bool a.aN.aR,vU a.aN.aH,vI a.aN.aZ, .slice V a.aN.ae.ls.length W, .bool a.aK.aR,vU a.aK.aH,vI a.aK.aZ, .slice X a.aK.ae.ls.length Y,vU a.df,vU a.cu,vU a.cz,vU a.cB,vU a.cK, .pointer none] 86,blk g0 [vP g 0, .slice cK aH.length cO] 98,blk aN (qC h p1 d.aY a.aa.aI K d.aD.ls.length L ae b.length aK B (s2 (s0 b.length false)) b.length M (s2 (s0 b.length (E4 []:Ll aX))) b.length 0) 107,sepL (q6 bB.own (I++ [(bB.mk h p1 d.aY a.aa.aI (H2 K L d.aD.ls) (H2 ae aK aZ) (H2 B b.length (s0 b.length false)) (H2 M b.length (s0 b.length (H2 none 0 []:bM))) 0)])),row dC (s2 (a.aA.ls++ [(dH.mk h p1 d.aY a.aa.aI (E4 d.aD.ls) (E4 b) (E4 (s0 b.length false)) (E4 (s0 b.length (E4 []:Ll aX))) 0)])) cB (q6 bB.cells (I++ [(bB.mk h p1 d.aY a.aa.aI (H2 K L d.aD.ls) (H2 ae aK aZ) (H2 B b.length (s0 b.length false)) (H2 M b.length (s0 b.length (H2 none 0 []:bM))) 0)])) 107 9,row n a.aa.ag.ls.length p (q6 bv.cells a.aa.ag.ls) 89 2,row r a.aa.aj.ls.length j (q6 ay.cells N) 60 5,sepL (q6 ay.own N),row C a.aa.aF.ls.length E (q6 aV.cells ag) 56 4,sepL (q6 aV.own ag),row O a.aQ.ae.ls.length P (q6 af.cells ai) 149 3,sepL (q6 af.own ai),row Q a.aO.ae.ls.length S (q6 af.cells aj) 149 3,sepL (q6 af.own aj),row T a.aL.ae.ls.length U (q6 af.cells ak) 149 3,sepL (q6 af.own ak),row V a.aN.ae.ls.length W (q6 af.cells au) 149 3,sepL (q6 af.own au),row X a.aK.ae.ls.length Y (q6 af.cells ax) 149 3,sepL (q6 af.own ax),row cK aH.length cO (q6 bA.cells bU) 42 21,sepL (q6 bA.own bU)]∧s8 bA.abs bU=aH∧u≤b.length∧aH.length≤p0.bE.ls.length+u∧aH.length≤100000+u∧ig p1 d a h b b 0 p0.bE.ls=ig p1 d a h b (List.drop u b) u aH
 refine Wp.loop (fun i:Nat × (Option Addr) × Nat × (List bA) × (List bQ)=> [(11,vJ i.1),(10,vJ b.length),(9, .slice ae b.length aK),(0,vP g0 0),(1,vP aN 0)]) nE (fun i=>b.length - i.1) (0,bL,bR,bF,p0.bE.ls) ⟨rfl,rfl,rfl,rfl,rfl,trivial⟩ (dm.2 ⟨nD,by exact bE,e6,e6,e6,rfl⟩) ?_
 rintro ⟨u,cK,cO,bU,aH⟩ tQ iZ
 obtain⟨bV,dn,rq,ru,ry,dQ⟩:=dm.1 iZ
 have rz:=az dn
 refine sr (Kz (.bool (decide (((u:Nat):Int) < ((b.length:Nat):Int)))) (nt (EP ?_)))
 by_cases iB:((u:Nat):Int) < ((b.length:Nat):Int)
 obtain⟨F,bW⟩:=dG (ls:=aZ) (i:=u) bG.len f3 (show bD _ 3 ae b.length (q6 bG.cells aZ) from (bz bV (i:=3) rfl (av (O7.2 ⟨_,v5 _ b1, .tail _ b1⟩) (fun w9 h9 a9 b9=>oD (az bq) (aT w9 h9 a9 b9))))) e9
 have fZ:=eP bq bW
 have rA:F.aD.ls.length≤F.aD.c∧F.aD.ls.length≤9223372036854775807:=bz bV (i:=3) rfl (φ:=fun _=>_) (av (O7.2 ⟨_,v5 _ b1, .tail _ b4⟩) (av (O7.2 ⟨F,E0 bW,b1⟩) bn))
 have rC:F.aP.ls.length≤F.aP.c∧F.aP.ls.length≤9223372036854775807:=bz bV (i:=3) rfl (φ:=fun _=>_) (av (O7.2 ⟨_,v5 _ b1, .tail _ b4⟩) (av (O7.2 ⟨F,E0 bW, .tail _ b1⟩) bn))
 have rD:F.aD.ls.length≤24024:=j6 _ (E0 fZ)
 have gm:=drop_at fZ
 refine jT (dT iB) (sk (EP (bo (sr (Mz rfl (fw (.pointer (some ⟨ab ae,ao ae+u *3,none⟩)) (ET (sI) rfl rfl ((show bD _ 3 ae b.length (q6 bG.cells aZ) from (bz bV (i:=3) rfl (av (O7.2 ⟨_,v5 _ b1, .tail _ b1⟩) (fun w9 h9 a9 b9=>oD (az bq) (aT w9 h9 a9 b9))))).addr (i:=u) e6) e6) (fw (.agg (bG.cells F).toArray) (EY rfl (Fb (cs:=(bG.cells F)) Tryz.isAgg172 Tryz.sizeOf172 ((show bD _ 3 ae b.length (q6 bG.cells aZ) from (bz bV (i:=3) rfl (av (O7.2 ⟨_,v5 _ b1, .tail _ b1⟩) (fun w9 h9 a9 b9=>oD (az bq) (aT w9 h9 a9 b9))))).elem bG.len bW f3))) ?_)))))))
 refine dK [vI 0, .slice none 0 0, .slice none 0 0] 172 bV ?_
 intro iC tT nJ
 refine Az rfl ?_
 refine dN (bG.cells F) 0 nJ Tryz.sizeOf172 ?_
 intro tV cZ
 refine ns (Mz rfl (Kz (vP aN 0) (Kz (vP aN 6) (Lz (.slice B (s2 (s0 b.length false)) b.length) cZ 3 Tryz.isAgg104 (Mz rfl ?_)))))
 obtain⟨gp,dR⟩:=dG (ls:=(s0 b.length false)) (i:=u) nV f3 (show bD _ 1 B (s2 (s0 b.length false)) (q6 eL (s0 b.length false)) from (bz cZ (i:=4) rfl (av (O7.2 ⟨_,v5 _ b1, .tail _ b2⟩) aT))) e9
 refine fw (.pointer (some ⟨ab B,ao B+u *1,none⟩)) (ET (wU) rfl rfl ((show bD _ 1 B (s2 (s0 b.length false)) (q6 eL (s0 b.length false)) from (bz cZ (i:=4) rfl (av (O7.2 ⟨_,v5 _ b1, .tail _ b2⟩) aT))).addr (i:=u) e6) e6) (fw (.bool gp) (EY rfl (bZ.one Tryz.isAgg4 (((show bD _ 1 B (s2 (s0 b.length false)) (q6 eL (s0 b.length false)) from (bz cZ (i:=4) rfl (av (O7.2 ⟨_,v5 _ b1, .tail _ b2⟩) aT))).elem nV dR f3).at_ (k:=0) rfl))) (Kz (.bool (!gp)) (nt ?_)))
 rcases IW (gp) with dE | dE
 refine jF (cn dE) (Fq (bN (ER (EO (fw (vJ (u+1)) (EQ (e:=C7.wrap (((u:Nat):Int)+1)) yk f1) (Mz rfl (WL.nil ?_)))))))
 have nK:=cZ.px [] [0] []
 exact E8 (u+1,cK,cO,bU,aH) ⟨rfl,rfl,rfl,rfl,rfl,trivial⟩ (dm.2 ⟨nK,by exact dn,e6,e6,e6,et (dQ) (et (congrArg (fun q=>ig p1 d a h b q u aH) gm) (et (ah (bI dR)) (ip dE)))⟩) (by show b.length - (u+1) < b.length - u; omega)
 refine jT (cn dE) ?_
 refine oF 23 [19] (bP.block (E9 (E9 (bP.block Fp)))) cZ ?_
 intro tX nL
 refine qv 0 rfl rfl (qp iC 0 1 rfl (ql 2 rfl 0 Tryz.isAgg3 rfl rfl rfl (qv 3 rfl rfl (qp aN 0 4 rfl (qp aN 0 5 rfl (ql 6 rfl 3 E1 rfl rfl rfl (qv 7 rfl rfl (qp g0 0 8 rfl (qp g0 0 9 rfl (ql 10 rfl 2 N7 rfl rfl rfl (qv 12 rfl rfl (qp aN 0 13 rfl (qp aN 3 14 rfl (ql 15 rfl 3 E1 rfl rfl rfl (qp iC 1 16 rfl (ql 17 rfl 0 P1 rfl rfl rfl ?_))))))))))))))))
 have aY:=nL.pf [1]
 have rE:=aY.rowC (i:=7) rfl
 have rF:=aY.rowC (i:=5) rfl
 obtain⟨dW,gq⟩:∃ q,gy (aB.mk a.aa (D2 (D3.wrap (((a.bH:Nat):Int)+1))) (E4 (a.aA.ls++ [(dH.mk h p1 d.aY a.aa.aI (E4 d.aD.ls) (E4 b) (E4 (s0 b.length false)) (E4 (s0 b.length (E4 []:Ll aX))) 0)])) a.aQ a.aO a.aL a.aN a.aK a.df a.cu a.cz a.cB a.cK)=q:=⟨_,rfl⟩
 obtain⟨tY,ja,rG,jb,aL⟩:=Fu aY
 refine qd 11 rfl (Fe Tryz.call108 rfl (nR _ _ g (aB.mk a.aa (D2 (D3.wrap (((a.bH:Nat):Int)+1))) (E4 (a.aA.ls++ [(dH.mk h p1 d.aY a.aa.aI (E4 d.aD.ls) (E4 b) (E4 (s0 b.length false)) (E4 (s0 b.length (E4 []:Ll aX))) 0)])) a.aQ a.aO a.aL a.aN a.aK a.df a.cu a.cz a.cB a.cK) n p r j N C E dC cB (I++ [(bB.mk h p1 d.aY a.aa.aI (H2 K L d.aD.ls) (H2 ae aK aZ) (H2 B b.length (s0 b.length false)) (H2 M b.length (s0 b.length (H2 none 0 []:bM))) 0)]) O P Q S T U V W X Y dW ja aC (aL _ 6 _ rfl aT) (show a.aa.aj.ls.length≤j∧a.aa.aj.ls.length≤9223372036854775807 from by omega) (fun x9 h9=>⟨aL _ 7 _ rfl (av (O7.2 ⟨x9,h9,b1⟩) aT),bz (φ:=fun _=>_) aY (i:=8) rfl (av (O7.2 ⟨x9,h9,b1⟩) bn)⟩) (nZ (es:= [(bB.mk h p1 d.aY a.aa.aI (H2 K L d.aD.ls) (H2 ae aK aZ) (H2 B b.length (s0 b.length false)) (H2 M b.length (s0 b.length (H2 none 0 []:bM))) 0)]) (ms:= [(dH.mk h p1 d.aY a.aa.aI (E4 d.aD.ls) (E4 b) (E4 (s0 b.length false)) (E4 (s0 b.length (E4 []:Ll aX))) 0)]) Z (CU (fun z9 z8=> [dH.mk h p1 d.aY a.aa.aI (E4 d.aD.ls) (E4 z9) (E4 (s0 b.length false)) (E4 z8) 0]) bq (J8 (f:=bM.abs)))) (aL _ 4 _ rfl aT) (show s2 (a.aA.ls++ [(dH.mk h p1 d.aY a.aa.aI (E4 d.aD.ls) (E4 b) (E4 (s0 b.length false)) (E4 (s0 b.length (E4 []:Ll aX))) 0)])≤cB∧s2 (a.aA.ls++ [(dH.mk h p1 d.aY a.aa.aI (E4 d.aD.ls) (E4 b) (E4 (s0 b.length false)) (E4 (s0 b.length (E4 []:Ll aX))) 0)])≤9223372036854775807 from by omega) (fun x9 h9=>⟨aL _ 3 _ rfl (av (O7.2 ⟨x9,h9,b1⟩) aT),bz (φ:=fun _=>_) aY (i:=4) rfl (av (O7.2 ⟨x9,h9,b1⟩) bn),aL _ 3 _ rfl (av (O7.2 ⟨x9,h9, .tail _ b1⟩) aT),bz (φ:=fun _=>_) aY (i:=4) rfl (av (O7.2 ⟨x9,h9, .tail _ b1⟩) bn),(fun y1 k1=>⟨aL _ 3 _ rfl (av (O7.2 ⟨x9,h9, .tail _ b4⟩) (av (O7.2 ⟨y1,k1,b1⟩) aT)),bz (φ:=fun _=>_) aY (i:=4) rfl (av (O7.2 ⟨x9,h9, .tail _ b4⟩) (av (O7.2 ⟨y1,k1,b1⟩) bn)),aL _ 3 _ rfl (av (O7.2 ⟨x9,h9, .tail _ b4⟩) (av (O7.2 ⟨y1,k1, .tail _ b1⟩) aT)),bz (φ:=fun _=>_) aY (i:=4) rfl (av (O7.2 ⟨x9,h9, .tail _ b4⟩) (av (O7.2 ⟨y1,k1, .tail _ b1⟩) bn))⟩),aL _ 3 _ rfl (av (O7.2 ⟨x9,h9, .tail _ b2⟩) aT),bz (φ:=fun _=>_) aY (i:=4) rfl (av (O7.2 ⟨x9,h9, .tail _ b2⟩) bn),aL _ 3 _ rfl (av (O7.2 ⟨x9,h9, .tail _ b3⟩) aT),bz (φ:=fun _=>_) aY (i:=4) rfl (av (O7.2 ⟨x9,h9, .tail _ b3⟩) bn),(fun y1 k1=>⟨aL _ 3 _ rfl (av (O7.2 ⟨x9,h9, .tail _ b5⟩) (av (O7.2 ⟨y1,k1,b1⟩) aT)),bz (φ:=fun _=>_) aY (i:=4) rfl (av (O7.2 ⟨x9,h9, .tail _ b5⟩) (av (O7.2 ⟨y1,k1,b1⟩) bn)),(fun y2 k2=>⟨aL _ 3 _ rfl (av (O7.2 ⟨x9,h9, .tail _ b5⟩) (av (O7.2 ⟨y1,k1, .tail _ b1⟩) (av (O7.2 ⟨y2,k2,b1⟩) aT))),bz (φ:=fun _=>_) aY (i:=4) rfl (av (O7.2 ⟨x9,h9, .tail _ b5⟩) (av (O7.2 ⟨y1,k1, .tail _ b1⟩) (av (O7.2 ⟨y2,k2,b1⟩) bn)))⟩)⟩)⟩) e8 gq) ?_)
 rintro _ tZ ⟨rfl,jc⟩
 have nM:=jb _ _ jc
 have iD:=nM.pf [1]
 refine⟨.inr ⟨_,iD⟩, ?_⟩
 refine qk (.agg (gH 3 0 F.dU 0 0 0 0 0 h dW 0 a.aa.aI 0 0 0 false ([]) ([]) F.aD.A F.aD.ls.length F.aD.c none 0 0 none 0 0).toArray) 18 rfl ?_
 have nN:=iD.pf [2,21,22]
 obtain⟨gu,gz⟩:∃ q,dB (bO.mk (E4 aH)) (bQ.mk 3 0 F.dU 0 0 0 0 0 h dW 0 a.aa.aI 0 0 0 false (bK.mk ([]) ([])) (E4 F.aD.ls) (E4 ([])) (E4 ([])))=q:=⟨_,rfl⟩
 obtain⟨uf,jd,rH,je,jf⟩:=FC nN
 refine qd 19 rfl (Fe Tryz.call65 rfl (fD _ _ g0 (bO.mk (E4 aH)) cK cO bU g (bQ.mk 3 0 F.dU 0 0 0 0 0 h dW 0 a.aa.aI 0 0 0 false (bK.mk ([]) ([])) (E4 F.aD.ls) (E4 ([])) (E4 ([]))) F.aD.A F.aD.ls.length F.aD.c none 0 0 [] none 0 0 gu jd dn rfl (jf _ 3 _ rfl (av (O7.2 ⟨_,v5 _ b1, .tail _ b4⟩) (av (O7.2 ⟨F,E0 bW,b1⟩) aT))) (show F.aD.ls.length≤F.aD.c∧F.aD.ls.length≤9223372036854775807 from by omega) rfl rfl (fun _ _=>bD.nil _ _ _) f2 (fun _ h9=>absurd h9 B3) rfl (fun _ _=>bD.nil _ _ _) f2 e8 (by first | assumption | exact dD f5 | exact fun x hx=>absurd hx B3 | exact dD (Mk.lX f5).1 | exact dD (Mk.kZ f5).1 | exact dD (Mk.ma f5).1 | exact dD (Mk.mg f5).1 | exact dD (Mk.mf f5).1) gz) ?_)
 rintro _ uh ⟨nO,nP,nQ,rfl,jg,gB,gD⟩
 have iE:=je _ _ jg
 have rJ:=az gB
 have rM:=iE.rowC (i:=1) rfl
 replace gD:gu.bE.ls.length=aH.length+1:=gD
 refine⟨.inl e7, ?_⟩
 refine qn (bN (ER (EO (fw (vJ (u+1)) (EQ (e:=C7.wrap (((u:Nat):Int)+1)) yk f1) (Mz rfl (WL.nil ?_))))))
 have nS:=iE.px [4] [3] [1,2]
 exact E8 (u+1,nO,nP,nQ,gu.bE.ls) ⟨rfl,rfl,rfl,rfl,rfl,trivial⟩ (dm.2 ⟨nS,by exact gB,e6,e6,e6,et (dQ) (et (congrArg (fun q=>ig p1 d a h b q u aH) gm) (et (ah (bI dR)) (et (fU dE) (et (ah gq) (ah gz)))))⟩) (by show b.length - (u+1) < b.length - u; omega)
 refine jF (dF iB) (Wp.exit (EX ?_))
 have jh:ig p1 d a h b b 0 p0.bE.ls=aH:=et (dQ) (et (congrArg (fun q=>ig p1 d a h b q u aH) (eD (ls:=b) (i:=u) e6)) rfl)
 refine EX (Fg (Ff (res0 rfl) (WL.nil (Ff (res0 rfl) ?_))))
 have nT:=bV.px [1,20,21,0,5,6,7,8,9,4] [2] []
 obtain⟨rfl,rfl⟩:=fT (hr.symm.trans (show _=(bO.mk (E4 aH),aB.mk a.aa (D2 (D3.wrap (((a.bH:Nat):Int)+1))) (E4 (a.aA.ls++ [(dH.mk h p1 d.aY a.aa.aI (E4 d.aD.ls) (E4 b) (E4 (s0 b.length false)) (E4 (s0 b.length (E4 []:Ll aX))) 0)])) a.aQ a.aO a.aL a.aN a.aK a.df a.cu a.cz a.cB a.cK) from et (ah cu) (et (ah cz) (et (ah bH) (et (iN l) (et (iN aM) (et (iN bu) (et (ip dU) (ah jh)))))))))
 exact⟨cK,cO,bU,n,p,r,j,N,C,E,ag,dC,cB,(I++ [(bB.mk h p1 d.aY a.aa.aI (H2 K L d.aD.ls) (H2 ae aK aZ) (H2 B b.length (s0 b.length false)) (H2 M b.length (s0 b.length (H2 none 0 []:bM))) 0)]),O,P,ai,Q,S,aj,T,U,ak,V,W,au,X,Y,ax,(by(first | rw [← dO] | skip); (first | rw [← dP] | skip); first | done | rfl),nT,dn,aC,aO,(nZ (es:= [(bB.mk h p1 d.aY a.aa.aI (H2 K L d.aD.ls) (H2 ae aK aZ) (H2 B b.length (s0 b.length false)) (H2 M b.length (s0 b.length (H2 none 0 []:bM))) 0)]) (ms:= [(dH.mk h p1 d.aY a.aa.aI (E4 d.aD.ls) (E4 b) (E4 (s0 b.length false)) (E4 (s0 b.length (E4 []:Ll aX))) 0)]) Z (CU (fun z9 z8=> [dH.mk h p1 d.aY a.aa.aI (E4 d.aD.ls) (E4 z9) (E4 (s0 b.length false)) (E4 z8) 0]) bq (J8 (f:=bM.abs)))),aP,aQ,aR,aS,aU⟩
 refine jT (dT dU) (sr (Mz rfl (Mz rfl (Kz (vP dI 6) (Lz (vU d.aY) di 1 E1 ?_)))))
 have nU:=di.px [2,3,4] [] [1,5,6,7,8,9,10,11,22,23]
 obtain⟨⟨gF,aI⟩,gG⟩:∃ q:bO × aB,dX p0 p1 d.aY 2 ([]) (aB.mk a.aa (D2 (D3.wrap (((a.bH:Nat):Int)+1))) (E4 a.aA.ls) a.aQ a.aO a.aL a.aN a.aK a.df a.cu a.cz a.cB a.cK)=q:=⟨_,rfl⟩
 obtain⟨ui,ji,rO,jk,rP⟩:=FU nU
 refine cl P2 (jM _ _ g0 p0 bL bR bF p1 d.aY 2 none 0 0 [] ([]) g (aB.mk a.aa (D2 (D3.wrap (((a.bH:Nat):Int)+1))) (E4 a.aA.ls) a.aQ a.aO a.aL a.aN a.aK a.df a.cu a.cz a.cB a.cK) n p r j C E J G O P ai Q S aj T U ak V W au X Y ax gF aI ji bE rfl (fun _ _=>bD.nil _ _ _) (fun _ h9=>absurd h9 B3) rfl i8 g6 aP aQ aR aS aU e8 g3 g3 i2 gG) ?_
 rintro _ uj ⟨nW,nX,nY,og,oh,ol,om,oo,oq,ou,ow,oz,oC,oG,oH,oI,oJ,oK,rfl,jl,gI,gJ,gK,gL,gN,gP,gQ⟩
 have bX:=jk _ _ jl
 have rQ:=az gI
 have rR:=az gJ
 have rT:=az gK
 have rU:=az gL
 have rV:=az gN
 have rW:=az gP
 have rX:=bX.rowC (i:=1) rfl
 have rY:=bX.rowC (i:=4) rfl
 have rZ:=bX.rowC (i:=6) rfl
 have r9:=bX.rowC (i:=8) rfl
 have si:=bX.rowC (i:=10) rfl
 have sj:=bX.rowC (i:=12) rfl
 replace gQ:gF.bE.ls.length=p0.bE.ls.length+1:=gQ
 refine nt (rt (tR (Fin.res (res0 rfl) ?_)))
 have oL:=bX.px [] [14,22,23] [4,5,6,7,8,9,10,11,12,13]
 obtain⟨rfl,rfl⟩:=fT (hr.symm.trans (show _=(gF,aB.mk (dA.mk aI.aa.ak aI.aa.ax aI.aa.bi aI.aa.aI (E4 a.aa.ag.ls) (E4 a.aa.aj.ls) (E4 a.aa.aF.ls)) aI.bH (E4 a.aA.ls) aI.aQ aI.aO aI.aL aI.aN aI.aK aI.df aI.cu aI.cz aI.cB aI.cK) from et (ah cu) (et (ah cz) (et (ah bH) (et (iN l) (et (iN aM) (et (iN bu) (et (iN dU) (ah gG)))))))))
 exact⟨nW,nX,nY,n,p,r,j,N,C,E,ag,J,G,I,og,oh,ol,om,oo,oq,ou,ow,oz,oC,oG,oH,oI,oJ,oK,rfl,oL,gI,aC,aO,Z,gJ,gK,gL,gN,gP⟩
end Go.Proofs.YtbkagebjhbphaaaGreat
