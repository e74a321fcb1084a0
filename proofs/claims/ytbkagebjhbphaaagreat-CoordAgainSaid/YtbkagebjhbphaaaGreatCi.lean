/-
 coord: patience.
-/
import Derived.Test.YtbkagebjhbphaaaGreatCc
import Derived.Test.YtbkagebjhbphaaaGreatCf
namespace Go.Proofs.YtbkagebjhbphaaaGreat
open Int renaming toNat→D2
open IntKind renaming i64→C7
open List renaming flatMap→q6,getD→C2,length→s2,length_append→p5,length_cons→s3,length_drop→p4,length_map→s6,length_nil→G1,length_replicate→H7,length_set→H6,length_take→p3,map→s8,mem_flatMap→P3,mem_of_getElem?→E0,not_mem_nil→B3,set→u5
open Ll renaming mk→E4
open _root_.Go.Proofs.Tryz renaming isAgg24→O3,isAgg3→C6
set_option maxRecDepth 100000
open Go.RowKit
set_option linter.unusedVariables false
set_option linter.unusedSectionVars false
set_option linter.unusedSimpArgs false
def gJ (a:aB) (h:Int) (b:dE) (e:dE):Nat→Nat→List bQ→(List bQ)
  | 0,c,d=>d
  | g+1,c,d=>bnd (C2 e.aD.ls c default) fun f=>bnd (C2 e.bE.ls c default) fun i=>if i=true then gJ a h b e g (c+1) d else bnd (gG (aB.mk a.aa a.bI (E4 (u5 a.ak.ls (D2 h) (dE.mk b.aX b.aQ b.aF b.dh (E4 b.bS.ls) (E4 b.aD.ls) (E4 b.bE.ls) (E4 b.ae.ls) (C7.wrap (b.dO+1))))) a.aR a.aN a.aO a.aP a.aM a.di a.cz a.cK a.cB a.cu)) fun j=>bnd (dA (bH.mk (E4 d)) (bQ.mk 3 0 f.dV 0 0 0 0 0 e.aX j 0 e.dh 0 0 0 false (bL.mk ([]) ([])) (E4 f.aG.ls) (E4 ([])) (E4 ([])))) fun k=>gJ a h b e g (c+1) k.bB.ls
def iT (f:bH) (g:Nat) (a:aB):bH × aB:=
 bnd (df a.ak.ls g) fun d=>if d.2=true then bnd (C2 a.ak.ls (D2 d.1) default) fun b=>bnd (C2 (u5 a.ak.ls (D2 d.1) (dE.mk b.aX b.aQ b.aF b.dh (E4 b.bS.ls) (E4 b.aD.ls) (E4 b.bE.ls) (E4 b.ae.ls) (C7.wrap (b.dO+1)))) (D2 d.1) default) fun e=>if e.dO > 10 then bnd (eH f d.1 (aB.mk a.aa a.bI (E4 (u5 a.ak.ls (D2 d.1) (dE.mk b.aX b.aQ b.aF b.dh (E4 b.bS.ls) (E4 b.aD.ls) (E4 b.bE.ls) (E4 b.ae.ls) (C7.wrap (b.dO+1))))) a.aR a.aN a.aO a.aP a.aM a.di a.cz a.cK a.cB a.cu)) fun c=>(c.1,aB.mk (dC.mk c.2.aa.av c.2.aa.ax c.2.aa.bf c.2.aa.aK (E4 a.aa.ag.ls) (E4 a.aa.aj.ls) (E4 a.aa.aI.ls)) c.2.bI (E4 c.2.ak.ls) c.2.aR c.2.aN c.2.aO c.2.aP c.2.aM c.2.di c.2.cz c.2.cK c.2.cB c.2.cu) else bnd (gJ a d.1 b e e.aD.ls.length 0 f.bB.ls) fun sLrbtbbfL=>(bH.mk (E4 sLrbtbbfL),aB.mk a.aa a.bI (E4 (u5 a.ak.ls (D2 d.1) (dE.mk b.aX b.aQ b.aF b.dh (E4 b.bS.ls) (E4 b.aD.ls) (E4 b.bE.ls) (E4 b.ae.ls) (C7.wrap (b.dO+1))))) a.aR a.aN a.aO a.aP a.aM a.di a.cz a.cK a.cB a.cu) else(f,a)
set_option maxHeartbeats 4000000 in
theorem vQ (w:World) (D:Nat→Prop) (g0:Nat) (p0:bH) (ag:Option Addr) (ah:Nat) (Z:List bF) (p1:Nat) (N:Nat) (a:aB) (T:Option Addr) (U:Nat) (S:Option Addr) (Q:Nat) (aK:List aA) (V:Option Addr) (W:Nat) (d:Option Addr) (m:Nat) (j:List bA) (r:Option Addr) (s:Nat) (t:List af) (u:Option Addr) (z:Nat) (B:List af) (C:Option Addr) (E:Nat) (F:List af) (G:Option Addr) (I:Nat) (J:List af) (K:Option Addr) (L:Nat) (M:List af) (r0:bH) (X:aB) (H:Own w D w [blk g0 [.pointer (some ⟨N,0,none⟩), .slice ag p0.bB.ls.length ah] 98,row ag p0.bB.ls.length ah (q6 bF.cells Z) 42 21,sepL (q6 bF.own Z),blk N [.int .i64 a.aa.av, .int .u64 ((a.aa.ax:Nat):Int), .int .u64 ((a.aa.bf:Nat):Int), .int .u64 ((a.aa.aK:Nat):Int), .slice T a.aa.ag.ls.length U, .slice S a.aa.aj.ls.length Q, .slice V a.aa.aI.ls.length W, .int .u64 ((a.bI:Nat):Int), .slice d a.ak.ls.length m, .bool a.aR.aT, .int .u64 ((a.aR.aF:Nat):Int), .int .i64 a.aR.bn, .slice r a.aR.ae.ls.length s, .bool a.aN.aT, .int .u64 ((a.aN.aF:Nat):Int), .int .i64 a.aN.bn, .slice u a.aN.ae.ls.length z, .bool a.aO.aT, .int .u64 ((a.aO.aF:Nat):Int), .int .i64 a.aO.bn, .slice C a.aO.ae.ls.length E, .bool a.aP.aT, .int .u64 ((a.aP.aF:Nat):Int), .int .i64 a.aP.bn, .slice G a.aP.ae.ls.length I, .bool a.aM.aT, .int .u64 ((a.aM.aF:Nat):Int), .int .i64 a.aM.bn, .slice K a.aM.ae.ls.length L, .int .u64 ((a.di:Nat):Int), .int .u64 ((a.cz:Nat):Int), .int .u64 ((a.cK:Nat):Int), .int .u64 ((a.cB:Nat):Int), .int .u64 ((a.cu:Nat):Int), .pointer none] 86,row d a.ak.ls.length m (q6 bA.cells j) 107 9,sepL (q6 bA.own j),row r a.aR.ae.ls.length s (q6 af.cells t) 149 3,sepL (q6 af.own t),row u a.aN.ae.ls.length z (q6 af.cells B) 149 3,sepL (q6 af.own B),row C a.aO.ae.ls.length E (q6 af.cells F) 149 3,sepL (q6 af.own F),row G a.aP.ae.ls.length I (q6 af.cells J) 149 3,sepL (q6 af.own J),row K a.aM.ae.ls.length L (q6 af.cells M) 149 3,sepL (q6 af.own M)]) (aS:s8 bF.abs Z=p0.bB.ls) (bf:s8 aA.abs aK=a.aa.aj.ls) (bS:Ro w D fun w'=>bD w' 5 S a.aa.aj.ls.length (q6 aA.cells aK)) (eO:a.aa.aj.ls.length≤Q∧a.aa.aj.ls.length≤9223372036854775807) (bg:∀ x ∈ aK,Ro w D (fun w'=>bD w' 1 x.av.A x.av.ls.length (q6 (eI .i64) x.av.ls))∧(x.av.ls.length≤x.av.c∧x.av.ls.length≤9223372036854775807)) (O:s8 bA.abs j=a.ak.ls) (av:s8 af.abs t=a.aR.ae.ls) (ax:s8 af.abs B=a.aN.ae.ls) (aC:s8 af.abs F=a.aO.ae.ls) (aD:s8 af.abs J=a.aP.ae.ls) (aF:s8 af.abs M=a.aM.ae.ls) (j3:a.aa.ag.ls.length≤1000∧a.aa.aj.ls.length≤1000∧a.aa.aI.ls.length≤1000∧a.ak.ls.length≤1000∧p0.bB.ls.length≤100000) (j4:Ak a.ak.ls) (hr:iT p0 p1 a=(r0,X)):
    Calls Tryz.prog 26 #[vP g0 0,vU p1] w (dR fun v w'=> ∃ (B0ox0:Option Addr) (b0ox0:Nat) (e0ox0:List bF) (B1ox3:Option Addr) (b1ox3:Nat) (e1ox3:List bA) (B1ox4:Option Addr) (b1ox4:Nat) (e1ox4:List af) (B1ox5:Option Addr) (b1ox5:Nat) (e1ox5:List af) (B1ox6:Option Addr) (b1ox6:Nat) (e1ox6:List af) (B1ox7:Option Addr) (b1ox7:Nat) (e1ox7:List af) (B1ox8:Option Addr) (b1ox8:Nat) (e1ox8:List af),v= .tuple #[]∧Own w D w' [blk g0 [vP N 0, .slice B0ox0 r0.bB.ls.length b0ox0] 98,row B0ox0 r0.bB.ls.length b0ox0 (q6 bF.cells e0ox0) 42 21,sepL (q6 bF.own e0ox0),blk N [vI X.aa.av,vU X.aa.ax,vU X.aa.bf,vU X.aa.aK, .slice T a.aa.ag.ls.length U, .slice S a.aa.aj.ls.length Q, .slice V a.aa.aI.ls.length W,vU X.bI, .slice B1ox3 X.ak.ls.length b1ox3, .bool X.aR.aT,vU X.aR.aF,vI X.aR.bn, .slice B1ox4 X.aR.ae.ls.length b1ox4, .bool X.aN.aT,vU X.aN.aF,vI X.aN.bn, .slice B1ox5 X.aN.ae.ls.length b1ox5, .bool X.aO.aT,vU X.aO.aF,vI X.aO.bn, .slice B1ox6 X.aO.ae.ls.length b1ox6, .bool X.aP.aT,vU X.aP.aF,vI X.aP.bn, .slice B1ox7 X.aP.ae.ls.length b1ox7, .bool X.aM.aT,vU X.aM.aF,vI X.aM.bn, .slice B1ox8 X.aM.ae.ls.length b1ox8,vU X.di,vU X.cz,vU X.cK,vU X.cB,vU X.cu, .pointer none] 86,row B1ox3 X.ak.ls.length b1ox3 (q6 bA.cells e1ox3) 107 9,sepL (q6 bA.own e1ox3),row B1ox4 X.aR.ae.ls.length b1ox4 (q6 af.cells e1ox4) 149 3,sepL (q6 af.own e1ox4),row B1ox5 X.aN.ae.ls.length b1ox5 (q6 af.cells e1ox5) 149 3,sepL (q6 af.own e1ox5),row B1ox6 X.aO.ae.ls.length b1ox6 (q6 af.cells e1ox6) 149 3,sepL (q6 af.own e1ox6),row B1ox7 X.aP.ae.ls.length b1ox7 (q6 af.cells e1ox7) 149 3,sepL (q6 af.own e1ox7),row B1ox8 X.aM.ae.ls.length b1ox8 (q6 af.cells e1ox8) 149 3,sepL (q6 af.own e1ox8)]∧(s8 bF.abs e0ox0=r0.bB.ls)∧(s8 bA.abs e1ox3=X.ak.ls)∧(s8 af.abs e1ox4=X.aR.ae.ls)∧(s8 af.abs e1ox5=X.aN.ae.ls)∧(s8 af.abs e1ox6=X.aO.ae.ls)∧(s8 af.abs e1ox7=X.aP.ae.ls)∧(s8 af.abs e1ox8=X.aM.ae.ls)):=by
 have gV:=az aS
 have ed:=az bf
 have ek:=az O
 have eu:=az av
 have eB:=az ax
 have eD:=az aC
 have eF:=az aD
 have eG:=az aF
 have gW:=H.rowC (i:=1) rfl
 have eP:=H.rowC (i:=4) rfl
 have eQ:=H.rowC (i:=6) rfl
 have eT:=H.rowC (i:=8) rfl
 have eU:=H.rowC (i:=10) rfl
 have eX:=H.rowC (i:=12) rfl
 have eY:=H.rowC (i:=14) rfl
 refine cb Tryz.func26 ?_
 refine sr (Mz rfl (Kz (vP g0 0) (Kz (vP g0 0) (Lz (vP N 0) H 0 O3 (Mz rfl ?_)))))
 refine WL.do rfl (Gd Tryz.call62 rfl ?_ (fun _ _ k=>k))
 refine cb Tryz.func62 ?_
 refine sr (Az rfl (Ar rfl (Mz rfl (Kz (vP N 0) (Kz (vP N 8) (Lz (.slice d a.ak.ls.length m) H 3 Tryz.isAgg79 (Mz rfl ?_)))))))
 obtain⟨⟨h,bi⟩,bM⟩:∃ q:Int × Bool,df a.ak.ls p1=q:=⟨_,rfl⟩
 obtain⟨j5,eZ,jg,fe,aG⟩:=FY H
 refine cl Tryz.call102 (iF _ _ d a.ak.ls.length m j a.ak.ls p1 h bi eZ O (aG _ 4 _ rfl aV) (fun x9 h9=>⟨aG _ 5 _ rfl (ay (P3.2 ⟨x9,h9,b1⟩) aV),bz (φ:=fun _=>_) H (i:=5) rfl (ay (P3.2 ⟨x9,h9,b1⟩) bq),aG _ 5 _ rfl (ay (P3.2 ⟨x9,h9, .tail _ b1⟩) aV),bz (φ:=fun _=>_) H (i:=5) rfl (ay (P3.2 ⟨x9,h9, .tail _ b1⟩) bq),(fun y1 k1=>⟨aG _ 5 _ rfl (ay (P3.2 ⟨x9,h9, .tail _ b4⟩) (ay (P3.2 ⟨y1,k1,b1⟩) aV)),bz (φ:=fun _=>_) H (i:=5) rfl (ay (P3.2 ⟨x9,h9, .tail _ b4⟩) (ay (P3.2 ⟨y1,k1,b1⟩) bq)),aG _ 5 _ rfl (ay (P3.2 ⟨x9,h9, .tail _ b4⟩) (ay (P3.2 ⟨y1,k1, .tail _ b1⟩) aV)),bz (φ:=fun _=>_) H (i:=5) rfl (ay (P3.2 ⟨x9,h9, .tail _ b4⟩) (ay (P3.2 ⟨y1,k1, .tail _ b1⟩) bq))⟩),aG _ 5 _ rfl (ay (P3.2 ⟨x9,h9, .tail _ b2⟩) aV),bz (φ:=fun _=>_) H (i:=5) rfl (ay (P3.2 ⟨x9,h9, .tail _ b2⟩) bq),aG _ 5 _ rfl (ay (P3.2 ⟨x9,h9, .tail _ b3⟩) aV),bz (φ:=fun _=>_) H (i:=5) rfl (ay (P3.2 ⟨x9,h9, .tail _ b3⟩) bq),(fun y1 k1=>⟨aG _ 5 _ rfl (ay (P3.2 ⟨x9,h9, .tail _ b5⟩) (ay (P3.2 ⟨y1,k1,b1⟩) aV)),bz (φ:=fun _=>_) H (i:=5) rfl (ay (P3.2 ⟨x9,h9, .tail _ b5⟩) (ay (P3.2 ⟨y1,k1,b1⟩) bq)),(fun y2 k2=>⟨aG _ 5 _ rfl (ay (P3.2 ⟨x9,h9, .tail _ b5⟩) (ay (P3.2 ⟨y1,k1, .tail _ b1⟩) (ay (P3.2 ⟨y2,k2,b1⟩) aV))),bz (φ:=fun _=>_) H (i:=5) rfl (ay (P3.2 ⟨x9,h9, .tail _ b5⟩) (ay (P3.2 ⟨y1,k1, .tail _ b1⟩) (ay (P3.2 ⟨y2,k2,b1⟩) bq)))⟩)⟩)⟩) rfl e6 bM) ?_
 rintro _ j6 ⟨rfl,fu,dx,dz⟩
 have aL:=fe _ _ fu
 replace dx:0≤h∧h≤((a.ak.ls.length:Nat):Int):=dx
 replace dz:Bool.toNat bi=0∨h < ((a.ak.ls.length:Nat):Int):=dz
 refine Kz (vI h) (Kz (.bool bi) (Az rfl (An rfl (rt (Fin.res (lY rfl rfl rfl) (Mz rfl (Kz (vI h) (Kz (.bool bi) (Az rfl (An rfl (FU (sr (Mz rfl (Kz (.bool (!bi)) (nt ?_)))))))))))))))
 rcases JQ (bi) with bn | bn
 have h34t:Bool.toNat bi=1:=by rw [bn]; rfl
 refine jF (cn bn) (sk (sr (Mz rfl (Kz (vP g0 0) (Kz (vP g0 0) (Lz (vP N 0) aL 0 O3 (Kz (vP N 0) (Kz (vP N 8) (Lz (.slice d a.ak.ls.length m) aL 3 Tryz.isAgg79 (fw (vJ (D2 h)) (FV (e:=h) (F7 rfl) e6) ?_))))))))))
 obtain⟨b,aH⟩:=dK (ls:=j) (i:=D2 h) bA.len f3 (aL.rds (i:=4) rfl) e9
 have bT:=fo O aH
 have jh:b.bS.ls.length≤b.bS.c∧b.bS.ls.length≤9223372036854775807:=bz aL (i:=5) rfl (φ:=fun _=>_) (ay (P3.2 ⟨b,E0 aH,b1⟩) bq)
 have ji:b.aD.ls.length=s2 (s8 bG.abs b.aD.ls):=az (rfl:s8 bG.abs b.aD.ls=s8 bG.abs b.aD.ls)
 have jk:b.aD.ls.length≤b.aD.c∧b.aD.ls.length≤9223372036854775807:=bz aL (i:=5) rfl (φ:=fun _=>_) (ay (P3.2 ⟨b,E0 aH, .tail _ b1⟩) bq)
 have jl:b.bE.ls.length≤b.bE.c∧b.bE.ls.length≤9223372036854775807:=bz aL (i:=5) rfl (φ:=fun _=>_) (ay (P3.2 ⟨b,E0 aH, .tail _ b2⟩) bq)
 have jm:b.ae.ls.length=s2 (s8 bO.abs b.ae.ls):=az (rfl:s8 bO.abs b.ae.ls=s8 bO.abs b.ae.ls)
 have jo:b.ae.ls.length≤b.ae.c∧b.ae.ls.length≤9223372036854775807:=bz aL (i:=5) rfl (φ:=fun _=>_) (ay (P3.2 ⟨b,E0 aH, .tail _ b3⟩) bq)
 have aI:Tok (bA.abs b):=xM f8 bT
 have jq:1≤b.aQ∧b.aQ≤4:=aI.Aq
 have jr:b.bE.ls.length=b.aD.ls.length:=by have q9:=aI.yes; simp only [bA.abs,s6] at q9; exact q9
 have jv:b.ae.ls.length=b.aD.ls.length:=by have q9:=aI.res; simp only [bA.abs,s6] at q9; exact q9
 have jw:b.aD.ls.length≤5:=by have q9:=aI.len; simp only [bA.abs,s6] at q9; exact q9
 have jy:b.bS.ls.length≤24:=aI.ops.1
 refine fw (.pointer (some ⟨ab d,ao d+(D2 h) *9,none⟩)) (FZ (pg) rfl rfl ((aL.rds (i:=4) rfl).addr (i:=D2 h) e6) e6) (Ar rfl (Mz rfl (Kz (.pointer (some ⟨ab d,ao d+(D2 h) *9,none⟩)) (Kz (.pointer (some ⟨ab d,ao d+(D2 h) *9+8,none⟩)) (fw (vI b.dO) (F5 rfl (bZ.one C6 (((aL.rds (i:=4) rfl).elem bA.len aH f3).at_ (k:=8) rfl))) (Kz (vI (C7.wrap (b.dO+1))) (Kz (.pointer (some ⟨ab d,ao d+(D2 h) *9,none⟩)) (Kz (.pointer (some ⟨ab d,ao d+(D2 h) *9+8,none⟩)) ?_))))))))
 have gX:=aL.pf [4]
 refine GV (Do.storeRow (vs:= [vI (C7.wrap (b.dO+1))]) (o:=(D2 h) *9+8) (q:=ao d+(D2 h) *9+8) gX rfl e6 rfl Tryz.sizeOf3 rfl rfl (JM rfl) (iK bA.len aH (JM rfl)) (jE (y:=(bA.mk b.aX b.aQ b.aF b.dh b.bS b.aD b.bE b.ae (C7.wrap (b.dO+1)))) bA.len rfl (JM rfl) aH) ?_)
 intro dP gY
 have bv:Own w D dP [row d a.ak.ls.length m (q6 bA.cells (u5 j (D2 h) (bA.mk b.aX b.aQ b.aF b.dh b.bS b.aD b.bE b.ae (C7.wrap (b.dO+1))))) 107 9,blk g0 [vP N 0, .slice ag p0.bB.ls.length ah] 98,row ag p0.bB.ls.length ah (q6 bF.cells Z) 42 21,sepL (q6 bF.own Z),blk N [vI a.aa.av,vU a.aa.ax,vU a.aa.bf,vU a.aa.aK, .slice T a.aa.ag.ls.length U, .slice S a.aa.aj.ls.length Q, .slice V a.aa.aI.ls.length W,vU a.bI, .slice d a.ak.ls.length m, .bool a.aR.aT,vU a.aR.aF,vI a.aR.bn, .slice r a.aR.ae.ls.length s, .bool a.aN.aT,vU a.aN.aF,vI a.aN.bn, .slice u a.aN.ae.ls.length z, .bool a.aO.aT,vU a.aO.aF,vI a.aO.bn, .slice C a.aO.ae.ls.length E, .bool a.aP.aT,vU a.aP.aF,vI a.aP.bn, .slice G a.aP.ae.ls.length I, .bool a.aM.aT,vU a.aM.aF,vI a.aM.bn, .slice K a.aM.ae.ls.length L,vU a.di,vU a.cz,vU a.cK,vU a.cB,vU a.cu, .pointer none] 86,sepL (q6 bA.own (u5 j (D2 h) (bA.mk b.aX b.aQ b.aF b.dh b.bS b.aD b.bE b.ae (C7.wrap (b.dO+1))))),row r a.aR.ae.ls.length s (q6 af.cells t) 149 3,sepL (q6 af.own t),row u a.aN.ae.ls.length z (q6 af.cells B) 149 3,sepL (q6 af.own B),row C a.aO.ae.ls.length E (q6 af.cells F) 149 3,sepL (q6 af.own F),row G a.aP.ae.ls.length I (q6 af.cells J) 149 3,sepL (q6 af.own J),row K a.aM.ae.ls.length L (q6 af.cells M) 149 3,sepL (q6 af.own M)]:=by rw [Bz (f:=bA.own) (y:=(bA.mk b.aX b.aQ b.aF b.dh b.bS b.aD b.bE b.ae (C7.wrap (b.dO+1)))) aH rfl]; exact gY
 have jA:s2 (u5 j (D2 h) (bA.mk b.aX b.aQ b.aF b.dh b.bS b.aD b.bE b.ae (C7.wrap (b.dO+1))))=s2 (u5 a.ak.ls (D2 h) (dE.mk b.aX b.aQ b.aF b.dh (E4 b.bS.ls) (E4 (s8 bG.abs b.aD.ls)) (E4 b.bE.ls) (E4 (s8 bO.abs b.ae.ls)) (C7.wrap (b.dO+1)))):=az (iB O rfl)
 have jB:s2 (u5 a.ak.ls (D2 h) (dE.mk b.aX b.aQ b.aF b.dh (E4 b.bS.ls) (E4 (s8 bG.abs b.aD.ls)) (E4 b.bE.ls) (E4 (s8 bO.abs b.ae.ls)) (C7.wrap (b.dO+1))))=a.ak.ls.length:=H6
 refine nt (FU (sr (Mz rfl (Kz (.pointer (some ⟨ab d,ao d+(D2 h) *9,none⟩)) (Kz (.pointer (some ⟨ab d,ao d+(D2 h) *9+8,none⟩)) ?_)))))
 obtain⟨g,P⟩:=dK (ls:=(u5 j (D2 h) (bA.mk b.aX b.aQ b.aF b.dh b.bS b.aD b.bE b.ae (C7.wrap (b.dO+1))))) (i:=D2 h) bA.len f3 (bv.rds (i:=0) rfl) e9
 have bU:=fo (iB O rfl) P
 have jC:g.bS.ls.length≤g.bS.c∧g.bS.ls.length≤9223372036854775807:=bz bv (i:=5) rfl (φ:=fun _=>_) (ay (P3.2 ⟨g,E0 P,b1⟩) bq)
 have jD:g.aD.ls.length=s2 (s8 bG.abs g.aD.ls):=az (rfl:s8 bG.abs g.aD.ls=s8 bG.abs g.aD.ls)
 have jG:g.aD.ls.length≤g.aD.c∧g.aD.ls.length≤9223372036854775807:=bz bv (i:=5) rfl (φ:=fun _=>_) (ay (P3.2 ⟨g,E0 P, .tail _ b1⟩) bq)
 have jH:g.bE.ls.length≤g.bE.c∧g.bE.ls.length≤9223372036854775807:=bz bv (i:=5) rfl (φ:=fun _=>_) (ay (P3.2 ⟨g,E0 P, .tail _ b2⟩) bq)
 have jI:g.ae.ls.length=s2 (s8 bO.abs g.ae.ls):=az (rfl:s8 bO.abs g.ae.ls=s8 bO.abs g.ae.ls)
 have jJ:g.ae.ls.length≤g.ae.c∧g.ae.ls.length≤9223372036854775807:=bz bv (i:=5) rfl (φ:=fun _=>_) (ay (P3.2 ⟨g,E0 P, .tail _ b3⟩) bq)
 have aJ:Tok (bA.abs g):=xM (by first | assumption | exact Mk.act f4 | exact mI f8 (nZ (x:=bA.abs b) aI f4) | exact mI f8 (p9 (x:=bA.abs b) aI _)) bU
 have jK:1≤g.aQ∧g.aQ≤4:=aJ.Aq
 have jL:g.bE.ls.length=g.aD.ls.length:=by have q9:=aJ.yes; simp only [bA.abs,s6] at q9; exact q9
 have jM:g.ae.ls.length=g.aD.ls.length:=by have q9:=aJ.res; simp only [bA.abs,s6] at q9; exact q9
 have jN:g.aD.ls.length≤5:=by have q9:=aJ.len; simp only [bA.abs,s6] at q9; exact q9
 have jO:g.bS.ls.length≤24:=aJ.ops.1
 refine fw (vI g.dO) (F5 rfl (bZ.one C6 (((bv.rds (i:=0) rfl).elem bA.len P f3).at_ (k:=8) rfl))) (Kz (.bool (decide (g.dO > 10))) (nt ?_))
 by_cases dw:g.dO > 10
 refine jT (dT dw) (sr (Mz rfl (Mz rfl ?_)))
 have bV:a.ak.ls.length=s2 (u5 a.ak.ls (D2 h) (dE.mk b.aX b.aQ b.aF b.dh (E4 b.bS.ls) (E4 (s8 bG.abs b.aD.ls)) (E4 b.bE.ls) (E4 (s8 bO.abs b.ae.ls)) (C7.wrap (b.dO+1)))):=by first | omega | (simp only [H6]; done) | (simp only [H6,p5,s3,G1,p3,p4,H7]; omega)
 have gZ:Own w D dP [row d (s2 (u5 a.ak.ls (D2 h) (dE.mk b.aX b.aQ b.aF b.dh (E4 b.bS.ls) (E4 (s8 bG.abs b.aD.ls)) (E4 b.bE.ls) (E4 (s8 bO.abs b.ae.ls)) (C7.wrap (b.dO+1))))) m (q6 bA.cells (u5 j (D2 h) (bA.mk b.aX b.aQ b.aF b.dh b.bS b.aD b.bE b.ae (C7.wrap (b.dO+1))))) 107 9,blk g0 [vP N 0, .slice ag p0.bB.ls.length ah] 98,row ag p0.bB.ls.length ah (q6 bF.cells Z) 42 21,sepL (q6 bF.own Z),blk N [vI a.aa.av,vU a.aa.ax,vU a.aa.bf,vU a.aa.aK, .slice T a.aa.ag.ls.length U, .slice S a.aa.aj.ls.length Q, .slice V a.aa.aI.ls.length W,vU a.bI, .slice d (s2 (u5 a.ak.ls (D2 h) (dE.mk b.aX b.aQ b.aF b.dh (E4 b.bS.ls) (E4 (s8 bG.abs b.aD.ls)) (E4 b.bE.ls) (E4 (s8 bO.abs b.ae.ls)) (C7.wrap (b.dO+1))))) m, .bool a.aR.aT,vU a.aR.aF,vI a.aR.bn, .slice r a.aR.ae.ls.length s, .bool a.aN.aT,vU a.aN.aF,vI a.aN.bn, .slice u a.aN.ae.ls.length z, .bool a.aO.aT,vU a.aO.aF,vI a.aO.bn, .slice C a.aO.ae.ls.length E, .bool a.aP.aT,vU a.aP.aF,vI a.aP.bn, .slice G a.aP.ae.ls.length I, .bool a.aM.aT,vU a.aM.aF,vI a.aM.bn, .slice K a.aM.ae.ls.length L,vU a.di,vU a.cz,vU a.cK,vU a.cB,vU a.cu, .pointer none] 86,sepL (q6 bA.own (u5 j (D2 h) (bA.mk b.aX b.aQ b.aF b.dh b.bS b.aD b.bE b.ae (C7.wrap (b.dO+1))))),row r a.aR.ae.ls.length s (q6 af.cells t) 149 3,sepL (q6 af.own t),row u a.aN.ae.ls.length z (q6 af.cells B) 149 3,sepL (q6 af.own B),row C a.aO.ae.ls.length E (q6 af.cells F) 149 3,sepL (q6 af.own F),row G a.aP.ae.ls.length I (q6 af.cells J) 149 3,sepL (q6 af.own J),row K a.aM.ae.ls.length L (q6 af.cells M) 149 3,sepL (q6 af.own M)]:=by rw [← bV]; exact bv
 have ib:=gZ.pf [1,2,3,4]
 obtain⟨⟨fA,aj⟩,dB⟩:∃ q:bH × aB,eH p0 h (aB.mk a.aa a.bI (E4 (u5 a.ak.ls (D2 h) (dE.mk b.aX b.aQ b.aF b.dh (E4 b.bS.ls) (E4 (s8 bG.abs b.aD.ls)) (E4 b.bE.ls) (E4 (s8 bO.abs b.ae.ls)) (C7.wrap (b.dO+1))))) a.aR a.aN a.aO a.aP a.aM a.di a.cz a.cK a.cB a.cu)=q:=⟨_,rfl⟩
 obtain⟨kg,fB,jP,fC,jQ⟩:=GZ ib
 refine cl Tryz.call63 (mQ _ _ g0 p0 ag ah Z h N (aB.mk a.aa a.bI (E4 (u5 a.ak.ls (D2 h) (dE.mk b.aX b.aQ b.aF b.dh (E4 b.bS.ls) (E4 (s8 bG.abs b.aD.ls)) (E4 b.bE.ls) (E4 (s8 bO.abs b.ae.ls)) (C7.wrap (b.dO+1))))) a.aR a.aN a.aO a.aP a.aM a.di a.cz a.cK a.cB a.cu) T U S Q V W d m (u5 j (D2 h) (bA.mk b.aX b.aQ b.aF b.dh b.bS b.aD b.bE b.ae (C7.wrap (b.dO+1)))) r s t u z B C E F G I J K L M fA aj fB aS (iB O rfl) av ax aC aD aF e8 (by first | assumption | exact Mk.act f4 | exact mI f8 (nZ (x:=bA.abs b) aI f4) | exact mI f8 (p9 (x:=bA.abs b) aI _) | exact mI f8 (nZ (x:=bA.abs g) aJ f4) | exact mI f8 (p9 (x:=bA.abs g) aJ _)) e8 dB) ?_
 rintro _ ko ⟨ic,ig,ik,il,iq,fD,iw,iy,fE,fF,fG,fH,fJ,fK,fM,fO,fP,fQ,fT,fU,fV,rfl,fZ,dD,bW,bX,bY,cu,cz,cB⟩
 have bB:=fC _ _ fZ
 have iA:=az dD
 have iC:=az bW
 have iD:=az bX
 have iE:=az bY
 have iG:=az cu
 have iH:=az cz
 have iI:=az cB
 have iJ:=bB.rowC (i:=1) rfl
 have iL:=bB.rowC (i:=4) rfl
 have iM:=bB.rowC (i:=6) rfl
 have iO:=bB.rowC (i:=8) rfl
 have iP:=bB.rowC (i:=10) rfl
 have iQ:=bB.rowC (i:=12) rfl
 have iR:=bB.rowC (i:=14) rfl
 refine nt (rt (tR (Fin.res (res0 rfl) ?_)))
 have gp:=bB.pf []
 obtain⟨rfl,rfl⟩:=gm (hr.symm.trans (show _=(fA,aB.mk (dC.mk aj.aa.av aj.aa.ax aj.aa.bf aj.aa.aK (E4 a.aa.ag.ls) (E4 a.aa.aj.ls) (E4 a.aa.aI.ls)) aj.bI (E4 aj.ak.ls) aj.aR aj.aN aj.aO aj.aP aj.aM aj.di aj.cz aj.cK aj.cB aj.cu) from et (ai bM) (et (ip bn) (et (ai (bJ bT)) (et (ai (bJ bU)) (et (ip dw) (ai dB)))))))
 exact⟨ic,ig,ik,il,iq,fD,iw,iy,fE,fF,fG,fH,fJ,fK,fM,fO,fP,fQ,fT,fU,fV,(by first | rfl | (rw [← bV]; done) | (rw [← bV]; rfl)),gp,dD,bW,bX,bY,cu,cz,cB⟩
 refine jF (dF dw) (sk (FT ?_))
 have au:a.ak.ls.length=s2 (u5 a.ak.ls (D2 h) (dE.mk b.aX b.aQ b.aF b.dh (E4 b.bS.ls) (E4 (s8 bG.abs b.aD.ls)) (E4 b.bE.ls) (E4 (s8 bO.abs b.ae.ls)) (C7.wrap (b.dO+1)))):=by first | omega | (simp only [H6]; done) | (simp only [H6,p5,s3,G1,p3,p4,H7]; omega)
 have dH:Own w D dP [row d (s2 (u5 a.ak.ls (D2 h) (dE.mk b.aX b.aQ b.aF b.dh (E4 b.bS.ls) (E4 (s8 bG.abs b.aD.ls)) (E4 b.bE.ls) (E4 (s8 bO.abs b.ae.ls)) (C7.wrap (b.dO+1))))) m (q6 bA.cells (u5 j (D2 h) (bA.mk b.aX b.aQ b.aF b.dh b.bS b.aD b.bE b.ae (C7.wrap (b.dO+1))))) 107 9,blk g0 [vP N 0, .slice ag p0.bB.ls.length ah] 98,row ag p0.bB.ls.length ah (q6 bF.cells Z) 42 21,sepL (q6 bF.own Z),blk N [vI a.aa.av,vU a.aa.ax,vU a.aa.bf,vU a.aa.aK, .slice T a.aa.ag.ls.length U, .slice S a.aa.aj.ls.length Q, .slice V a.aa.aI.ls.length W,vU a.bI, .slice d (s2 (u5 a.ak.ls (D2 h) (dE.mk b.aX b.aQ b.aF b.dh (E4 b.bS.ls) (E4 (s8 bG.abs b.aD.ls)) (E4 b.bE.ls) (E4 (s8 bO.abs b.ae.ls)) (C7.wrap (b.dO+1))))) m, .bool a.aR.aT,vU a.aR.aF,vI a.aR.bn, .slice r a.aR.ae.ls.length s, .bool a.aN.aT,vU a.aN.aF,vI a.aN.bn, .slice u a.aN.ae.ls.length z, .bool a.aO.aT,vU a.aO.aF,vI a.aO.bn, .slice C a.aO.ae.ls.length E, .bool a.aP.aT,vU a.aP.aF,vI a.aP.bn, .slice G a.aP.ae.ls.length I, .bool a.aM.aT,vU a.aM.aF,vI a.aM.bn, .slice K a.aM.ae.ls.length L,vU a.di,vU a.cz,vU a.cK,vU a.cB,vU a.cu, .pointer none] 86,sepL (q6 bA.own (u5 j (D2 h) (bA.mk b.aX b.aQ b.aF b.dh b.bS b.aD b.bE b.ae (C7.wrap (b.dO+1))))),row r a.aR.ae.ls.length s (q6 af.cells t) 149 3,sepL (q6 af.own t),row u a.aN.ae.ls.length z (q6 af.cells B) 149 3,sepL (q6 af.own B),row C a.aO.ae.ls.length E (q6 af.cells F) 149 3,sepL (q6 af.own F),row G a.aP.ae.ls.length I (q6 af.cells J) 149 3,sepL (q6 af.own J),row K a.aM.ae.ls.length L (q6 af.cells M) 149 3,sepL (q6 af.own M)]:=by rw [← au]; exact bv
 refine Mz rfl (Mz rfl ?_)
 refine WL.do rfl (Gd Tryz.call64 rfl ?_ (fun _ _ k=>k))
 refine cb Tryz.func64 ?_
 refine sr (Mz rfl (Kz (.pointer (some ⟨ab d,ao d+(D2 h) *9,none⟩)) (Kz (.pointer (some ⟨ab d,ao d+(D2 h) *9+5,none⟩)) (fw (.slice g.aD.A g.aD.ls.length g.aD.c) (F5 rfl (bZ.one Tryz.isAgg103 (((o8 au.symm (dH.rds (i:=0) rfl)).elem bA.len P f3).at_ (k:=5) rfl))) (fw (vJ (s2 (s8 bG.abs g.aD.ls))) (FV (e:=((g.aD.ls.length:Nat):Int)) yk j0) (Mn rfl (bo ?_)))))))
 have gq:=dH.pb [2,3]
 obtain⟨gu,aW⟩:=AQ fun(l:Nat) (aP:Option Addr) (aQ:Nat) (aM:List bF) (R:List bQ) (w':World)=>Own w D w' [row d (s2 (u5 a.ak.ls (D2 h) (dE.mk b.aX b.aQ b.aF b.dh (E4 b.bS.ls) (E4 (s8 bG.abs b.aD.ls)) (E4 b.bE.ls) (E4 (s8 bO.abs b.ae.ls)) (C7.wrap (b.dO+1))))) m (q6 bA.cells (u5 j (D2 h) (bA.mk b.aX b.aQ b.aF b.dh b.bS b.aD b.bE b.ae (C7.wrap (b.dO+1))))) 107 9,blk g0 [vP N 0, .slice aP R.length aQ] 98,blk N [vI a.aa.av,vU a.aa.ax,vU a.aa.bf,vU a.aa.aK, .slice T a.aa.ag.ls.length U, .slice S a.aa.aj.ls.length Q, .slice V a.aa.aI.ls.length W,vU a.bI, .slice d (s2 (u5 a.ak.ls (D2 h) (dE.mk b.aX b.aQ b.aF b.dh (E4 b.bS.ls) (E4 (s8 bG.abs b.aD.ls)) (E4 b.bE.ls) (E4 (s8 bO.abs b.ae.ls)) (C7.wrap (b.dO+1))))) m, .bool a.aR.aT,vU a.aR.aF,vI a.aR.bn, .slice r a.aR.ae.ls.length s, .bool a.aN.aT,vU a.aN.aF,vI a.aN.bn, .slice u a.aN.ae.ls.length z, .bool a.aO.aT,vU a.aO.aF,vI a.aO.bn, .slice C a.aO.ae.ls.length E, .bool a.aP.aT,vU a.aP.aF,vI a.aP.bn, .slice G a.aP.ae.ls.length I, .bool a.aM.aT,vU a.aM.aF,vI a.aM.bn, .slice K a.aM.ae.ls.length L,vU a.di,vU a.cz,vU a.cK,vU a.cB,vU a.cu, .pointer none] 86,sepL (q6 bA.own (u5 j (D2 h) (bA.mk b.aX b.aQ b.aF b.dh b.bS b.aD b.bE b.ae (C7.wrap (b.dO+1))))),row r a.aR.ae.ls.length s (q6 af.cells t) 149 3,sepL (q6 af.own t),row u a.aN.ae.ls.length z (q6 af.cells B) 149 3,sepL (q6 af.own B),row C a.aO.ae.ls.length E (q6 af.cells F) 149 3,sepL (q6 af.own F),row G a.aP.ae.ls.length I (q6 af.cells J) 149 3,sepL (q6 af.own J),row K a.aM.ae.ls.length L (q6 af.cells M) 149 3,sepL (q6 af.own M),row aP R.length aQ (q6 bF.cells aM) 42 21,sepL (q6 bF.own aM)]∧s8 bF.abs aM=R∧l≤s2 (s8 bG.abs g.aD.ls)∧R.length≤p0.bB.ls.length+l∧R.length≤100000+l∧gJ a h (bA.abs b) (bA.abs g) (s2 (s8 bG.abs g.aD.ls)) 0 p0.bB.ls=gJ a h (bA.abs b) (bA.abs g) ((s2 (s8 bG.abs g.aD.ls)) - l) l R
 refine Wp.loop (fun i:Nat × (Option Addr) × Nat × (List bF) × (List bQ)=> [(11,vJ i.1),(10,vJ (s2 (s8 bG.abs g.aD.ls))),(9, .slice g.aD.A g.aD.ls.length g.aD.c),(0,vP g0 0),(1, .pointer (some ⟨ab d,ao d+(D2 h) *9,none⟩))]) gu (fun i=>(s2 (s8 bG.abs g.aD.ls)) - i.1) (0,ag,ah,Z,p0.bB.ls) ⟨rfl,rfl,rfl,rfl,rfl,trivial⟩ (aW.2 ⟨gq,by exact aS,e6,e6,e6,rfl⟩) ?_
 rintro ⟨l,aP,aQ,aM,R⟩ jR dQ
 obtain⟨aN,aX,iU,iV,iW,bE⟩:=aW.1 dQ
 have iX:=az aX
 refine sr (Kz (.bool (decide (((l:Nat):Int) < ((s2 (s8 bG.abs g.aD.ls):Nat):Int)))) (nt (FU ?_)))
 by_cases dI:((l:Nat):Int) < ((s2 (s8 bG.abs g.aD.ls):Nat):Int)
 refine jT (dT dI) (sk (FU (bo (sr (Mz rfl ?_)))))
 obtain⟨p,aO⟩:=dK (ls:=g.aD.ls) (i:=l) bG.len f3 (show bD _ 3 g.aD.A g.aD.ls.length (q6 bG.cells g.aD.ls) from (bz aN (i:=3) rfl (ay (P3.2 ⟨g,E0 P, .tail _ b1⟩) aV))) e9
 have bI:=fo (rfl:s8 bG.abs g.aD.ls=s8 bG.abs g.aD.ls) aO
 have iY:p.aG.ls.length≤p.aG.c∧p.aG.ls.length≤9223372036854775807:=bz aN (i:=3) rfl (φ:=fun _=>_) (ay (P3.2 ⟨g,E0 P, .tail _ b4⟩) (ay (P3.2 ⟨p,E0 aO,b1⟩) bq))
 have iZ:p.aJ.ls.length≤p.aJ.c∧p.aJ.ls.length≤9223372036854775807:=bz aN (i:=3) rfl (φ:=fun _=>_) (ay (P3.2 ⟨g,E0 P, .tail _ b4⟩) (ay (P3.2 ⟨p,E0 aO, .tail _ b1⟩) bq))
 have ja:p.aG.ls.length≤24024:=Tok.prt aJ _ (E0 bI)
 refine fw (.pointer (some ⟨ab g.aD.A,ao g.aD.A+l *3,none⟩)) (FZ (tH) rfl rfl ((show bD _ 3 g.aD.A g.aD.ls.length (q6 bG.cells g.aD.ls) from (bz aN (i:=3) rfl (ay (P3.2 ⟨g,E0 P, .tail _ b1⟩) aV))).addr (i:=l) e6) e6) (fw (.agg (bG.cells p).toArray) (F5 rfl (Gc (cs:=(bG.cells p)) Tryz.isAgg172 Tryz.sizeOf172 ((show bD _ 3 g.aD.A g.aD.ls.length (q6 bG.cells g.aD.ls) from (bz aN (i:=3) rfl (ay (P3.2 ⟨g,E0 P, .tail _ b1⟩) aV))).elem bG.len aO f3))) ?_)
 refine dM [vI 0, .slice none 0 0, .slice none 0 0] 172 aN ?_
 intro dJ jS gy
 refine Az rfl ?_
 refine dN (bG.cells p) 0 gy Tryz.sizeOf172 ?_
 intro jU aR
 refine ns (Mz rfl (Kz (.pointer (some ⟨ab d,ao d+(D2 h) *9,none⟩)) (Kz (.pointer (some ⟨ab d,ao d+(D2 h) *9+6,none⟩)) (fw (.slice g.bE.A g.bE.ls.length g.bE.c) (F5 rfl (bZ.one Tryz.isAgg104 (((o8 au.symm (aR.rds (i:=1) rfl)).elem bA.len P f3).at_ (k:=6) rfl))) (Mz rfl ?_)))))
 obtain⟨cK,bK⟩:=dK (ls:=g.bE.ls) (i:=l) oo f3 (bz aR (i:=4) rfl (ay (P3.2 ⟨g,E0 P, .tail _ b2⟩) aV)) e9
 refine fw (.pointer (some ⟨ab g.bE.A,ao g.bE.A+l *1,none⟩)) (FZ (xA) rfl rfl ((bz aR (i:=4) rfl (ay (P3.2 ⟨g,E0 P, .tail _ b2⟩) aV)).addr (i:=l) e6) e6) (fw (.bool cK) (F5 rfl (bZ.one Tryz.isAgg4 (((bz aR (i:=4) rfl (ay (P3.2 ⟨g,E0 P, .tail _ b2⟩) aV)).elem oo bK f3).at_ (k:=0) rfl))) (Kz (.bool (!cK)) (nt ?_)))
 rcases JQ (cK) with bC | bC
 refine jF (cn bC) (Gj (bN (FW (FT (fw (vJ (l+1)) (FV (e:=C7.wrap (((l:Nat):Int)+1)) yk f1) (Mz rfl (WL.nil ?_)))))))
 have gz:=aR.px [] [0] []
 exact F9 (l+1,aP,aQ,aM,R) ⟨rfl,rfl,rfl,rfl,rfl,trivial⟩ (aW.2 ⟨gz,by exact aX,e6,e6,e6,et (bE) (et (congrArg (fun q=>gJ a h (bA.abs b) (bA.abs g) q l R) (ry (n:=s2 (s8 bG.abs g.aD.ls)) (i:=l) e6)) (et (ai (bJ bI)) (et (ai (bJ bK)) (ip bC))))⟩) (by show (s2 (s8 bG.abs g.aD.ls)) - (l+1) < (s2 (s8 bG.abs g.aD.ls)) - l; omega)
 refine jT (cn bC) ?_
 refine oJ 17 [19] (bP.block (F8 (F8 (bP.block Gh)))) aR ?_
 intro jV gF
 refine qv 0 rfl rfl (qp dJ 0 1 rfl (ql 2 rfl 0 C6 rfl rfl rfl (qv 3 rfl rfl (qk (.pointer (some ⟨ab d,ao d+(D2 h) *9,none⟩)) 4 rfl (qk (.pointer (some ⟨ab d,ao d+(D2 h) *9,none⟩)) 5 rfl (qt (v:=vU g.aX) 6 rfl (fun _ ⟨_,H9⟩=>F5 rfl (bZ.one Tryz.isAgg28 (((o8 au.symm (H9.rds (i:=1) rfl)).elem bA.len P f3).at_ (k:=0) rfl))) (qv 7 rfl rfl (qp g0 0 8 rfl (qp g0 0 9 rfl (ql 10 rfl 2 O3 rfl rfl rfl (qv 12 rfl rfl (qk (.pointer (some ⟨ab d,ao d+(D2 h) *9,none⟩)) 13 rfl (qk (.pointer (some ⟨ab d,ao d+(D2 h) *9+3,none⟩)) 14 rfl (qt (v:=vU g.dh) 15 rfl (fun _ ⟨_,H9⟩=>F5 rfl (bZ.one Tryz.isAgg28 (((o8 au.symm (H9.rds (i:=1) rfl)).elem bA.len P f3).at_ (k:=3) rfl))) (qp dJ 1 16 rfl (ql 17 rfl 0 Tryz.isAgg39 rfl rfl rfl ?_))))))))))))))))
 have ak:=gF.pf [3]
 have jc:=ak.rowC (i:=2) rfl
 obtain⟨bR,cO⟩:∃ q,gG (aB.mk a.aa a.bI (E4 (u5 a.ak.ls (D2 h) (dE.mk b.aX b.aQ b.aF b.dh (E4 b.bS.ls) (E4 (s8 bG.abs b.aD.ls)) (E4 b.bE.ls) (E4 (s8 bO.abs b.ae.ls)) (C7.wrap (b.dO+1))))) a.aR a.aN a.aO a.aP a.aM a.di a.cz a.cK a.cB a.cu)=q:=⟨_,rfl⟩
 obtain⟨jW,dS,cZ,dU,Y⟩:=Gn ak
 refine qd 11 rfl (Gd Tryz.call108 rfl (oh _ _ N (aB.mk a.aa a.bI (E4 (u5 a.ak.ls (D2 h) (dE.mk b.aX b.aQ b.aF b.dh (E4 b.bS.ls) (E4 (s8 bG.abs b.aD.ls)) (E4 b.bE.ls) (E4 (s8 bO.abs b.ae.ls)) (C7.wrap (b.dO+1))))) a.aR a.aN a.aO a.aP a.aM a.di a.cz a.cK a.cB a.cu) T U S Q aK V W d m (u5 j (D2 h) (bA.mk b.aX b.aQ b.aF b.dh b.bS b.aD b.bE b.ae (C7.wrap (b.dO+1)))) r s u z C E G I K L bR dS bf (cZ _ bS) (show a.aa.aj.ls.length≤Q∧a.aa.aj.ls.length≤9223372036854775807 from by omega) (fun x9 h9=>⟨cZ _ (bg x9 h9).1,(bg x9 h9).2⟩) (iB O rfl) (Y _ 1 _ rfl aV) (show s2 (u5 a.ak.ls (D2 h) (dE.mk b.aX b.aQ b.aF b.dh (E4 b.bS.ls) (E4 (s8 bG.abs b.aD.ls)) (E4 b.bE.ls) (E4 (s8 bO.abs b.ae.ls)) (C7.wrap (b.dO+1))))≤m∧s2 (u5 a.ak.ls (D2 h) (dE.mk b.aX b.aQ b.aF b.dh (E4 b.bS.ls) (E4 (s8 bG.abs b.aD.ls)) (E4 b.bE.ls) (E4 (s8 bO.abs b.ae.ls)) (C7.wrap (b.dO+1))))≤9223372036854775807 from by omega) (fun x9 h9=>⟨Y _ 3 _ rfl (ay (P3.2 ⟨x9,h9,b1⟩) aV),bz (φ:=fun _=>_) ak (i:=4) rfl (ay (P3.2 ⟨x9,h9,b1⟩) bq),Y _ 3 _ rfl (ay (P3.2 ⟨x9,h9, .tail _ b1⟩) aV),bz (φ:=fun _=>_) ak (i:=4) rfl (ay (P3.2 ⟨x9,h9, .tail _ b1⟩) bq),(fun y1 k1=>⟨Y _ 3 _ rfl (ay (P3.2 ⟨x9,h9, .tail _ b4⟩) (ay (P3.2 ⟨y1,k1,b1⟩) aV)),bz (φ:=fun _=>_) ak (i:=4) rfl (ay (P3.2 ⟨x9,h9, .tail _ b4⟩) (ay (P3.2 ⟨y1,k1,b1⟩) bq)),Y _ 3 _ rfl (ay (P3.2 ⟨x9,h9, .tail _ b4⟩) (ay (P3.2 ⟨y1,k1, .tail _ b1⟩) aV)),bz (φ:=fun _=>_) ak (i:=4) rfl (ay (P3.2 ⟨x9,h9, .tail _ b4⟩) (ay (P3.2 ⟨y1,k1, .tail _ b1⟩) bq))⟩),Y _ 3 _ rfl (ay (P3.2 ⟨x9,h9, .tail _ b2⟩) aV),bz (φ:=fun _=>_) ak (i:=4) rfl (ay (P3.2 ⟨x9,h9, .tail _ b2⟩) bq),Y _ 3 _ rfl (ay (P3.2 ⟨x9,h9, .tail _ b3⟩) aV),bz (φ:=fun _=>_) ak (i:=4) rfl (ay (P3.2 ⟨x9,h9, .tail _ b3⟩) bq),(fun y1 k1=>⟨Y _ 3 _ rfl (ay (P3.2 ⟨x9,h9, .tail _ b5⟩) (ay (P3.2 ⟨y1,k1,b1⟩) aV)),bz (φ:=fun _=>_) ak (i:=4) rfl (ay (P3.2 ⟨x9,h9, .tail _ b5⟩) (ay (P3.2 ⟨y1,k1,b1⟩) bq)),(fun y2 k2=>⟨Y _ 3 _ rfl (ay (P3.2 ⟨x9,h9, .tail _ b5⟩) (ay (P3.2 ⟨y1,k1, .tail _ b1⟩) (ay (P3.2 ⟨y2,k2,b1⟩) aV))),bz (φ:=fun _=>_) ak (i:=4) rfl (ay (P3.2 ⟨x9,h9, .tail _ b5⟩) (ay (P3.2 ⟨y1,k1, .tail _ b1⟩) (ay (P3.2 ⟨y2,k2,b1⟩) bq)))⟩)⟩)⟩) e8 cO) ?_)
 rintro _ jX ⟨rfl,dV⟩
 have gH:=dU _ _ dV
 have dL:=gH.pf [1,2,3]
 refine⟨.inr ⟨_,dL⟩, ?_⟩
 refine qk (.agg (gD 3 0 p.dV 0 0 0 0 0 g.aX bR 0 g.dh 0 0 0 false ([]) ([]) p.aG.A p.aG.ls.length p.aG.c none 0 0 none 0 0).toArray) 18 rfl ?_
 have gI:=dL.pf [2,15,16]
 obtain⟨dh,di⟩:∃ q,dA (bH.mk (E4 R)) (bQ.mk 3 0 p.dV 0 0 0 0 0 g.aX bR 0 g.dh 0 0 0 false (bL.mk ([]) ([])) (E4 p.aG.ls) (E4 ([])) (E4 ([])))=q:=⟨_,rfl⟩
 obtain⟨jY,dW,jd,dX,dY⟩:=Gv gI
 refine qd 19 rfl (Gd Tryz.call65 rfl (fI _ _ g0 (bH.mk (E4 R)) aP aQ aM N (bQ.mk 3 0 p.dV 0 0 0 0 0 g.aX bR 0 g.dh 0 0 0 false (bL.mk ([]) ([])) (E4 p.aG.ls) (E4 ([])) (E4 ([]))) p.aG.A p.aG.ls.length p.aG.c none 0 0 [] none 0 0 dh dW aX rfl (dY _ 3 _ rfl (ay (P3.2 ⟨g,E0 P, .tail _ b4⟩) (ay (P3.2 ⟨p,E0 aO,b1⟩) aV))) (show p.aG.ls.length≤p.aG.c∧p.aG.ls.length≤9223372036854775807 from by omega) rfl rfl (fun _ _=>bD.nil _ _ _) f2 (fun _ h9=>absurd h9 B3) rfl (fun _ _=>bD.nil _ _ _) f2 e8 (by first | assumption | exact dG f4 | exact fun x hx=>absurd hx B3 | exact dG (Mk.l8 f4).1 | exact dG (Mk.lq f4).1 | exact dG (Mk.mq f4).1 | exact dG (Mk.mo f4).1 | exact dG (Mk.mr f4).1) di) ?_)
 rintro _ jZ ⟨gK,gL,gM,rfl,dZ,dm,dn⟩
 have dO:=dX _ _ dZ
 have je:=az dm
 have jf:=dO.rowC (i:=1) rfl
 replace dn:dh.bB.ls.length=R.length+1:=dn
 refine⟨.inl e7, ?_⟩
 refine qn (bN (FW (FT (fw (vJ (l+1)) (FV (e:=C7.wrap (((l:Nat):Int)+1)) yk f1) (Mz rfl (WL.nil ?_))))))
 have gN:=dO.px [4] [3] [1,2]
 exact F9 (l+1,gK,gL,gM,dh.bB.ls) ⟨rfl,rfl,rfl,rfl,rfl,trivial⟩ (aW.2 ⟨gN,by exact dm,e6,e6,e6,et (bE) (et (congrArg (fun q=>gJ a h (bA.abs b) (bA.abs g) q l R) (ry (n:=s2 (s8 bG.abs g.aD.ls)) (i:=l) e6)) (et (ai (bJ bI)) (et (ai (bJ bK)) (et (gB bC) (et (ai cO) (ai di))))))⟩) (by show (s2 (s8 bG.abs g.aD.ls)) - (l+1) < (s2 (s8 bG.abs g.aD.ls)) - l; omega)
 refine jF (dF dI) (Wp.exit (F4 ?_))
 have d9:gJ a h (bA.abs b) (bA.abs g) (s2 (s8 bG.abs g.aD.ls)) 0 p0.bB.ls=R:=et (bE) (et (congrArg (fun q=>gJ a h (bA.abs b) (bA.abs g) q l R) (vZ (n:=s2 (s8 bG.abs g.aD.ls)) (i:=l) e6)) rfl)
 refine F4 (Gg (Gf (res0 rfl) (WL.nil (Gf (res0 rfl) ?_))))
 have gP:=aN.pf [1,14,15,2]
 obtain⟨rfl,rfl⟩:=gm (hr.symm.trans (show _=(bH.mk (E4 R),aB.mk a.aa a.bI (E4 (u5 a.ak.ls (D2 h) (dE.mk b.aX b.aQ b.aF b.dh (E4 b.bS.ls) (E4 (s8 bG.abs b.aD.ls)) (E4 b.bE.ls) (E4 (s8 bO.abs b.ae.ls)) (C7.wrap (b.dO+1))))) a.aR a.aN a.aO a.aP a.aM a.di a.cz a.cK a.cB a.cu) from et (ai bM) (et (ip bn) (et (ai (bJ bT)) (et (ai (bJ bU)) (et (iN dw) (ai d9)))))))
 exact⟨aP,aQ,aM,d,m,(u5 j (D2 h) (bA.mk b.aX b.aQ b.aF b.dh b.bS b.aD b.bE b.ae (C7.wrap (b.dO+1)))),r,s,t,u,z,B,C,E,F,G,I,J,K,L,M,(by first | rfl | (rw [← au]; done) | (rw [← au]; rfl)),gP,aX,(iB O rfl),av,ax,aC,aD,aF⟩
 have h34t:Bool.toNat bi=0:=by rw [bn]; rfl
 refine jT (cn bn) (rt (tR (Fin.res (res0 rfl) ?_)))
 have gQ:=aL.pf []
 obtain⟨rfl,rfl⟩:=gm (hr.symm.trans (show _=(p0,a) from et (ai bM) (gB bn)))
 exact⟨ag,ah,Z,d,m,j,r,s,t,u,z,B,C,E,F,G,I,J,K,L,M,rfl,gQ,aS,O,av,ax,aC,aD,aF⟩
end Go.Proofs.YtbkagebjhbphaaaGreat
