/-
 coord: patience.
-/
import Derived.Test.YtbkagebjhbphaaaGreatCc
import Derived.Test.YtbkagebjhbphaaaGreatCf
namespace Go.Proofs.YtbkagebjhbphaaaGreat
open Int renaming toNat→D2
open IntKind renaming i64→C7
open List renaming flatMap→q6,getD→C2,length→s2,length_append→p5,length_cons→s3,length_drop→p4,length_map→s6,length_nil→G0,length_replicate→H6,length_set→H5,length_take→p3,map→s8,mem_flatMap→P2,mem_of_getElem?→E0,not_mem_nil→B3,set→u5
open Ll renaming mk→E4
open _root_.Go.Proofs.Tryz renaming isAgg24→O2,isAgg3→C6
set_option maxRecDepth 100000
open Go.RowKit
set_option linter.unusedVariables false
set_option linter.unusedSectionVars false
set_option linter.unusedSimpArgs false
def gJ (a:aB) (h:Int) (b:dD) (e:dD):Nat→Nat→List bM→(List bM)
  | 0,c,d=>d
  | g+1,c,d=>bnd (C2 e.aD.ls c default) fun f=>bnd (C2 e.bB.ls c default) fun i=>if i=true then gJ a h b e g (c+1) d else bnd (gG (aB.mk a.aa a.bP (E4 (u5 a.au.ls (D2 h) (dD.mk b.aR b.aK b.aM b.cz (E4 b.bO.ls) (E4 b.aD.ls) (E4 b.bB.ls) (E4 b.af.ls) (C7.wrap (b.dO+1))))) a.bH a.bf a.bi a.bn a.aZ a.dI a.dz a.dB a.dA a.dC)) fun j=>bnd (df (bE.mk (E4 d)) (bM.mk 3 0 f.dV 0 0 0 0 0 e.aR j 0 e.cz 0 0 0 false (bI.mk ([]) ([])) (E4 f.aF.ls) (E4 ([])) (E4 ([])))) fun k=>gJ a h b e g (c+1) k.bq.ls
def iT (f:bE) (g:Nat) (a:aB):bE × aB:=
 bnd (cu a.au.ls g) fun d=>if d.2=true then bnd (C2 a.au.ls (D2 d.1) default) fun b=>bnd (C2 (u5 a.au.ls (D2 d.1) (dD.mk b.aR b.aK b.aM b.cz (E4 b.bO.ls) (E4 b.aD.ls) (E4 b.bB.ls) (E4 b.af.ls) (C7.wrap (b.dO+1)))) (D2 d.1) default) fun e=>if e.dO > 10 then bnd (eH f d.1 (aB.mk a.aa a.bP (E4 (u5 a.au.ls (D2 d.1) (dD.mk b.aR b.aK b.aM b.cz (E4 b.bO.ls) (E4 b.aD.ls) (E4 b.bB.ls) (E4 b.af.ls) (C7.wrap (b.dO+1))))) a.bH a.bf a.bi a.bn a.aZ a.dI a.dz a.dB a.dA a.dC)) fun c=>(c.1,aB.mk (di.mk c.2.aa.av c.2.aa.ay c.2.aa.aX c.2.aa.aL (E4 a.aa.ag.ls) (E4 a.aa.ak.ls) (E4 a.aa.aJ.ls)) c.2.bP (E4 c.2.au.ls) c.2.bH c.2.bf c.2.bi c.2.bn c.2.aZ c.2.dI c.2.dz c.2.dB c.2.dA c.2.dC) else bnd (gJ a d.1 b e e.aD.ls.length 0 f.bq.ls) fun sLrbtbbfL=>(bE.mk (E4 sLrbtbbfL),aB.mk a.aa a.bP (E4 (u5 a.au.ls (D2 d.1) (dD.mk b.aR b.aK b.aM b.cz (E4 b.bO.ls) (E4 b.aD.ls) (E4 b.bB.ls) (E4 b.af.ls) (C7.wrap (b.dO+1))))) a.bH a.bf a.bi a.bn a.aZ a.dI a.dz a.dB a.dA a.dC) else(f,a)
set_option maxHeartbeats 4000000 in
theorem vS (w D g0) (p0:bE) (ag ah Z p1 N) (a:aB) (T U S Q aK V W d m j r s t u z B C E F G I J K L M) (r0:bE) (X:aB) (H:Own w D w [blk g0 [.pointer (some ⟨N,0,none⟩), .slice ag p0.bq.ls.length ah] 98,row ag p0.bq.ls.length ah (q6 bC.cells Z) 42 21,sepL (q6 bC.own Z),mK N a T a.aa.ag.ls.length U S Q V W d m r s u z C E G I K L,row d a.au.ls.length m (q6 bz.cells j) 107 9,sepL (q6 bz.own j),row r a.bH.af.ls.length s (q6 ae.cells t) 149 3,sepL (q6 ae.own t),row u a.bf.af.ls.length z (q6 ae.cells B) 149 3,sepL (q6 ae.own B),row C a.bi.af.ls.length E (q6 ae.cells F) 149 3,sepL (q6 ae.own F),row G a.bn.af.ls.length I (q6 ae.cells J) 149 3,sepL (q6 ae.own J),row K a.aZ.af.ls.length L (q6 ae.cells M) 149 3,sepL (q6 ae.own M)]) (aT:s8 bC.abs Z=p0.bq.ls) (bi:s8 aA.abs aK=a.aa.ak.ls) (cz:Ro w D fun w'=>bA w' 5 S a.aa.ak.ls.length (q6 aA.cells aK)) (fM:a.aa.ak.ls.length≤Q∧a.aa.ak.ls.length≤9223372036854775807) (bn:∀ x ∈ aK,Ro w D (fun w'=>bA w' 1 x.av.A x.av.ls.length (q6 (eI .i64) x.av.ls))∧(x.av.ls.length≤x.av.c∧x.av.ls.length≤9223372036854775807)) (O:s8 bz.abs j=a.au.ls) (av:s8 ae.abs t=a.bH.af.ls) (ay:s8 ae.abs B=a.bf.af.ls) (aC:s8 ae.abs F=a.bi.af.ls) (aD:s8 ae.abs J=a.bn.af.ls) (aF:s8 ae.abs M=a.aZ.af.ls) (kL:a.aa.ag.ls.length≤1000∧a.aa.ak.ls.length≤1000∧a.aa.aJ.ls.length≤1000∧a.au.ls.length≤1000∧p0.bq.ls.length≤100000) (kM:Ak a.au.ls) (hr:iT p0 p1 a=(r0,X)):
    Calls Tryz.prog 26 #[vP g0 0,vU p1] w (dR fun v w'=> ∃ cB cK bJ cO cZ bO dh dm bP dn dw bQ dx dz bR dA dB bS dC dG bT,v= .tuple #[]∧Own w D w' [blk g0 [vP N 0, .slice cB r0.bq.ls.length cK] 98,row cB r0.bq.ls.length cK (q6 bC.cells bJ) 42 21,sepL (q6 bC.own bJ),blk N [vI X.aa.av,vU X.aa.ay,vU X.aa.aX,vU X.aa.aL, .slice T a.aa.ag.ls.length U, .slice S a.aa.ak.ls.length Q, .slice V a.aa.aJ.ls.length W,vU X.bP, .slice cO X.au.ls.length cZ, .bool X.bH.cB,vU X.bH.aM,vI X.bH.dw, .slice dh X.bH.af.ls.length dm, .bool X.bf.cB,vU X.bf.aM,vI X.bf.dw, .slice dn X.bf.af.ls.length dw, .bool X.bi.cB,vU X.bi.aM,vI X.bi.dw, .slice dx X.bi.af.ls.length dz, .bool X.bn.cB,vU X.bn.aM,vI X.bn.dw, .slice dA X.bn.af.ls.length dB, .bool X.aZ.cB,vU X.aZ.aM,vI X.aZ.dw, .slice dC X.aZ.af.ls.length dG,vU X.dI,vU X.dz,vU X.dB,vU X.dA,vU X.dC, .pointer none] 86,row cO X.au.ls.length cZ (q6 bz.cells bO) 107 9,sepL (q6 bz.own bO),row dh X.bH.af.ls.length dm (q6 ae.cells bP) 149 3,sepL (q6 ae.own bP),row dn X.bf.af.ls.length dw (q6 ae.cells bQ) 149 3,sepL (q6 ae.own bQ),row dx X.bi.af.ls.length dz (q6 ae.cells bR) 149 3,sepL (q6 ae.own bR),row dA X.bn.af.ls.length dB (q6 ae.cells bS) 149 3,sepL (q6 ae.own bS),row dC X.aZ.af.ls.length dG (q6 ae.cells bT) 149 3,sepL (q6 ae.own bT)]∧(s8 bC.abs bJ=r0.bq.ls)∧(s8 bz.abs bO=X.au.ls)∧(s8 ae.abs bP=X.bH.af.ls)∧(s8 ae.abs bQ=X.bf.af.ls)∧(s8 ae.abs bR=X.bi.af.ls)∧(s8 ae.abs bS=X.bn.af.ls)∧(s8 ae.abs bT=X.aZ.af.ls)):=by
 have iL:=az aT
 have fD:=az bi
 have fE:=az O
 have fF:=az av
 have fG:=az ay
 have fH:=az aC
 have fJ:=az aD
 have fK:=az aF
 have iM:=H.rowC (i:=1) rfl
 have fO:=H.rowC (i:=4) rfl
 have fP:=H.rowC (i:=6) rfl
 have fQ:=H.rowC (i:=8) rfl
 have fT:=H.rowC (i:=10) rfl
 have fU:=H.rowC (i:=12) rfl
 have fV:=H.rowC (i:=14) rfl
 refine cb Tryz.func26 ?_
 refine sr (Mz rfl (Kz (vP g0 0) (Kz (vP g0 0) (Lz (vP N 0) H 0 O2 (Mz rfl ?_)))))
 refine WL.do rfl (Gg Tryz.call62 rfl ?_ (fun _ _ k=>k))
 refine cb Tryz.func62 ?_
 refine sr (Az rfl (Ar rfl (Mz rfl (Kz (vP N 0) (Kz (vP N 8) (Lz (.slice d a.au.ls.length m) H 3 Tryz.isAgg79 (Mz rfl ?_)))))))
 obtain⟨⟨h,bq⟩,bY⟩:∃ q:Int × Bool,cu a.au.ls p1=q:=⟨_,rfl⟩
 obtain⟨kN,fZ,jL,gp,aG⟩:=F3 H
 refine cl Tryz.call102 (iF _ _ d a.au.ls.length m j a.au.ls p1 h bq fZ O (aG _ 4 _ rfl aP) (fun x9 h9=>⟨aG _ 5 _ rfl (ax (P2.2 ⟨x9,h9,b1⟩) aP),aY (φ:=fun _=>_) H (i:=5) rfl (ax (P2.2 ⟨x9,h9,b1⟩) aV),aG _ 5 _ rfl (ax (P2.2 ⟨x9,h9, .tail _ b1⟩) aP),aY (φ:=fun _=>_) H (i:=5) rfl (ax (P2.2 ⟨x9,h9, .tail _ b1⟩) aV),(fun y1 k1=>⟨aG _ 5 _ rfl (ax (P2.2 ⟨x9,h9, .tail _ b4⟩) (ax (P2.2 ⟨y1,k1,b1⟩) aP)),aY (φ:=fun _=>_) H (i:=5) rfl (ax (P2.2 ⟨x9,h9, .tail _ b4⟩) (ax (P2.2 ⟨y1,k1,b1⟩) aV)),aG _ 5 _ rfl (ax (P2.2 ⟨x9,h9, .tail _ b4⟩) (ax (P2.2 ⟨y1,k1, .tail _ b1⟩) aP)),aY (φ:=fun _=>_) H (i:=5) rfl (ax (P2.2 ⟨x9,h9, .tail _ b4⟩) (ax (P2.2 ⟨y1,k1, .tail _ b1⟩) aV))⟩),aG _ 5 _ rfl (ax (P2.2 ⟨x9,h9, .tail _ b2⟩) aP),aY (φ:=fun _=>_) H (i:=5) rfl (ax (P2.2 ⟨x9,h9, .tail _ b2⟩) aV),aG _ 5 _ rfl (ax (P2.2 ⟨x9,h9, .tail _ b3⟩) aP),aY (φ:=fun _=>_) H (i:=5) rfl (ax (P2.2 ⟨x9,h9, .tail _ b3⟩) aV),(fun y1 k1=>⟨aG _ 5 _ rfl (ax (P2.2 ⟨x9,h9, .tail _ b5⟩) (ax (P2.2 ⟨y1,k1,b1⟩) aP)),aY (φ:=fun _=>_) H (i:=5) rfl (ax (P2.2 ⟨x9,h9, .tail _ b5⟩) (ax (P2.2 ⟨y1,k1,b1⟩) aV)),(fun y2 k2=>⟨aG _ 5 _ rfl (ax (P2.2 ⟨x9,h9, .tail _ b5⟩) (ax (P2.2 ⟨y1,k1, .tail _ b1⟩) (ax (P2.2 ⟨y2,k2,b1⟩) aP))),aY (φ:=fun _=>_) H (i:=5) rfl (ax (P2.2 ⟨x9,h9, .tail _ b5⟩) (ax (P2.2 ⟨y1,k1, .tail _ b1⟩) (ax (P2.2 ⟨y2,k2,b1⟩) aV)))⟩)⟩)⟩) rfl e6 bY) ?_
 rintro _ kP ⟨rfl,gu,eu,eB⟩
 have aL:=gp _ _ gu
 replace eu:0≤h∧h≤((a.au.ls.length:Nat):Int):=eu
 replace eB:Bool.toNat bq=0∨h < ((a.au.ls.length:Nat):Int):=eB
 refine Kz (vI h) (Kz (.bool bq) (Az rfl (An rfl (rt (Fin.res (lY rfl rfl rfl) (Mz rfl (Kz (vI h) (Kz (.bool bq) (Az rfl (An rfl (FW (sr (Mz rfl (Kz (.bool (!bq)) (nt ?_)))))))))))))))
 rcases JS (bq) with bu | bu
 have h34t:Bool.toNat bq=1:=by rw [bu]; rfl
 refine jF (cn bu) (sk (sr (Mz rfl (Kz (vP g0 0) (Kz (vP g0 0) (Lz (vP N 0) aL 0 O2 (Kz (vP N 0) (Kz (vP N 8) (Lz (.slice d a.au.ls.length m) aL 3 Tryz.isAgg79 (fw (vJ (D2 h)) (FX (e:=h) (F9 rfl) e6) ?_))))))))))
 obtain⟨b,aH⟩:=dK (ls:=j) (i:=D2 h) bz.len f3 (aL.rds (i:=4) rfl) e9
 have dH:=fo O aH
 have jM:b.bO.ls.length≤b.bO.c∧b.bO.ls.length≤9223372036854775807:=aY aL (i:=5) rfl (φ:=fun _=>_) (ax (P2.2 ⟨b,E0 aH,b1⟩) aV)
 have jN:b.aD.ls.length=s2 (s8 bD.abs b.aD.ls):=az (rfl:s8 bD.abs b.aD.ls=s8 bD.abs b.aD.ls)
 have jO:b.aD.ls.length≤b.aD.c∧b.aD.ls.length≤9223372036854775807:=aY aL (i:=5) rfl (φ:=fun _=>_) (ax (P2.2 ⟨b,E0 aH, .tail _ b1⟩) aV)
 have jP:b.bB.ls.length≤b.bB.c∧b.bB.ls.length≤9223372036854775807:=aY aL (i:=5) rfl (φ:=fun _=>_) (ax (P2.2 ⟨b,E0 aH, .tail _ b2⟩) aV)
 have jQ:b.af.ls.length=s2 (s8 bK.abs b.af.ls):=az (rfl:s8 bK.abs b.af.ls=s8 bK.abs b.af.ls)
 have jR:b.af.ls.length≤b.af.c∧b.af.ls.length≤9223372036854775807:=aY aL (i:=5) rfl (φ:=fun _=>_) (ax (P2.2 ⟨b,E0 aH, .tail _ b3⟩) aV)
 have aI:Tok (bz.abs b):=xP f8 dH
 have jS:1≤b.aK∧b.aK≤4:=aI.Av
 have jU:b.bB.ls.length=b.aD.ls.length:=by have q9:=aI.yes; simp only [bz.abs,s6] at q9; exact q9
 have jV:b.af.ls.length=b.aD.ls.length:=by have q9:=aI.res; simp only [bz.abs,s6] at q9; exact q9
 have jW:b.aD.ls.length≤5:=by have q9:=aI.len; simp only [bz.abs,s6] at q9; exact q9
 have jX:b.bO.ls.length≤24:=aI.ops.1
 refine fw (.pointer (some ⟨ab d,ao d+(D2 h) *9,none⟩)) (F4 (pu) rfl rfl ((aL.rds (i:=4) rfl).addr (i:=D2 h) e6) e6) (Ar rfl (Mz rfl (Kz (.pointer (some ⟨ab d,ao d+(D2 h) *9,none⟩)) (Kz (.pointer (some ⟨ab d,ao d+(D2 h) *9+8,none⟩)) (fw (vI b.dO) (F7 rfl (bX.one C6 (((aL.rds (i:=4) rfl).elem bz.len aH f3).at_ (k:=8) rfl))) (Kz (vI (C7.wrap (b.dO+1))) (Kz (.pointer (some ⟨ab d,ao d+(D2 h) *9,none⟩)) (Kz (.pointer (some ⟨ab d,ao d+(D2 h) *9+8,none⟩)) ?_))))))))
 have iO:=aL.pf [4]
 refine G5 (Do.storeRow (vs:= [vI (C7.wrap (b.dO+1))]) (o:=(D2 h) *9+8) (q:=ao d+(D2 h) *9+8) iO rfl e6 rfl Tryz.sizeOf3 rfl rfl (JO rfl) (iK bz.len aH (JO rfl)) (jE (y:=(bz.mk b.aR b.aK b.aM b.cz b.bO b.aD b.bB b.af (C7.wrap (b.dO+1)))) bz.len rfl (JO rfl) aH) ?_)
 intro eU iP
 have bB:Own w D eU [row d a.au.ls.length m (q6 bz.cells (u5 j (D2 h) (bz.mk b.aR b.aK b.aM b.cz b.bO b.aD b.bB b.af (C7.wrap (b.dO+1))))) 107 9,blk g0 [vP N 0, .slice ag p0.bq.ls.length ah] 98,row ag p0.bq.ls.length ah (q6 bC.cells Z) 42 21,sepL (q6 bC.own Z),mK N a T a.aa.ag.ls.length U S Q V W d m r s u z C E G I K L,sepL (q6 bz.own (u5 j (D2 h) (bz.mk b.aR b.aK b.aM b.cz b.bO b.aD b.bB b.af (C7.wrap (b.dO+1))))),row r a.bH.af.ls.length s (q6 ae.cells t) 149 3,sepL (q6 ae.own t),row u a.bf.af.ls.length z (q6 ae.cells B) 149 3,sepL (q6 ae.own B),row C a.bi.af.ls.length E (q6 ae.cells F) 149 3,sepL (q6 ae.own F),row G a.bn.af.ls.length I (q6 ae.cells J) 149 3,sepL (q6 ae.own J),row K a.aZ.af.ls.length L (q6 ae.cells M) 149 3,sepL (q6 ae.own M)]:=by rw [BB (f:=bz.own) (y:=(bz.mk b.aR b.aK b.aM b.cz b.bO b.aD b.bB b.af (C7.wrap (b.dO+1)))) aH rfl]; exact iP
 have jY:s2 (u5 j (D2 h) (bz.mk b.aR b.aK b.aM b.cz b.bO b.aD b.bB b.af (C7.wrap (b.dO+1))))=s2 (u5 a.au.ls (D2 h) (dD.mk b.aR b.aK b.aM b.cz (E4 b.bO.ls) (E4 (s8 bD.abs b.aD.ls)) (E4 b.bB.ls) (E4 (s8 bK.abs b.af.ls)) (C7.wrap (b.dO+1)))):=az (iB O rfl)
 have jZ:s2 (u5 a.au.ls (D2 h) (dD.mk b.aR b.aK b.aM b.cz (E4 b.bO.ls) (E4 (s8 bD.abs b.aD.ls)) (E4 b.bB.ls) (E4 (s8 bK.abs b.af.ls)) (C7.wrap (b.dO+1))))=a.au.ls.length:=H5
 refine nt (FW (sr (Mz rfl (Kz (.pointer (some ⟨ab d,ao d+(D2 h) *9,none⟩)) (Kz (.pointer (some ⟨ab d,ao d+(D2 h) *9+8,none⟩)) ?_)))))
 obtain⟨g,P⟩:=dK (ls:=(u5 j (D2 h) (bz.mk b.aR b.aK b.aM b.cz b.bO b.aD b.bB b.af (C7.wrap (b.dO+1))))) (i:=D2 h) bz.len f3 (bB.rds (i:=0) rfl) e9
 have dI:=fo (iB O rfl) P
 have j3:g.bO.ls.length≤g.bO.c∧g.bO.ls.length≤9223372036854775807:=aY bB (i:=5) rfl (φ:=fun _=>_) (ax (P2.2 ⟨g,E0 P,b1⟩) aV)
 have j4:g.aD.ls.length=s2 (s8 bD.abs g.aD.ls):=az (rfl:s8 bD.abs g.aD.ls=s8 bD.abs g.aD.ls)
 have j5:g.aD.ls.length≤g.aD.c∧g.aD.ls.length≤9223372036854775807:=aY bB (i:=5) rfl (φ:=fun _=>_) (ax (P2.2 ⟨g,E0 P, .tail _ b1⟩) aV)
 have j6:g.bB.ls.length≤g.bB.c∧g.bB.ls.length≤9223372036854775807:=aY bB (i:=5) rfl (φ:=fun _=>_) (ax (P2.2 ⟨g,E0 P, .tail _ b2⟩) aV)
 have kg:g.af.ls.length=s2 (s8 bK.abs g.af.ls):=az (rfl:s8 bK.abs g.af.ls=s8 bK.abs g.af.ls)
 have ko:g.af.ls.length≤g.af.c∧g.af.ls.length≤9223372036854775807:=aY bB (i:=5) rfl (φ:=fun _=>_) (ax (P2.2 ⟨g,E0 P, .tail _ b3⟩) aV)
 have aJ:Tok (bz.abs g):=xP (by first | assumption | exact Mk.act f4 | exact mI f8 (oh (x:=bz.abs b) aI f4) | exact mI f8 (qf (x:=bz.abs b) aI _)) dI
 have kr:1≤g.aK∧g.aK≤4:=aJ.Av
 have ku:g.bB.ls.length=g.aD.ls.length:=by have q9:=aJ.yes; simp only [bz.abs,s6] at q9; exact q9
 have kv:g.af.ls.length=g.aD.ls.length:=by have q9:=aJ.res; simp only [bz.abs,s6] at q9; exact q9
 have kw:g.aD.ls.length≤5:=by have q9:=aJ.len; simp only [bz.abs,s6] at q9; exact q9
 have ky:g.bO.ls.length≤24:=aJ.ops.1
 refine fw (vI g.dO) (F7 rfl (bX.one C6 (((bB.rds (i:=0) rfl).elem bz.len P f3).at_ (k:=8) rfl))) (Kz (.bool (decide (g.dO > 10))) (nt ?_))
 by_cases ek:g.dO > 10
 refine jT (dT ek) (sr (Mz rfl (Mz rfl ?_)))
 have dJ:a.au.ls.length=s2 (u5 a.au.ls (D2 h) (dD.mk b.aR b.aK b.aM b.cz (E4 b.bO.ls) (E4 (s8 bD.abs b.aD.ls)) (E4 b.bB.ls) (E4 (s8 bK.abs b.af.ls)) (C7.wrap (b.dO+1)))):=by first | omega | (simp only [H5]; done) | (simp only [H5,p5,s3,G0,p3,p4,H6]; omega)
 have iQ:Own w D eU [row d (s2 (u5 a.au.ls (D2 h) (dD.mk b.aR b.aK b.aM b.cz (E4 b.bO.ls) (E4 (s8 bD.abs b.aD.ls)) (E4 b.bB.ls) (E4 (s8 bK.abs b.af.ls)) (C7.wrap (b.dO+1))))) m (q6 bz.cells (u5 j (D2 h) (bz.mk b.aR b.aK b.aM b.cz b.bO b.aD b.bB b.af (C7.wrap (b.dO+1))))) 107 9,blk g0 [vP N 0, .slice ag p0.bq.ls.length ah] 98,row ag p0.bq.ls.length ah (q6 bC.cells Z) 42 21,sepL (q6 bC.own Z),blk N [vI a.aa.av,vU a.aa.ay,vU a.aa.aX,vU a.aa.aL, .slice T a.aa.ag.ls.length U, .slice S a.aa.ak.ls.length Q, .slice V a.aa.aJ.ls.length W,vU a.bP, .slice d (s2 (u5 a.au.ls (D2 h) (dD.mk b.aR b.aK b.aM b.cz (E4 b.bO.ls) (E4 (s8 bD.abs b.aD.ls)) (E4 b.bB.ls) (E4 (s8 bK.abs b.af.ls)) (C7.wrap (b.dO+1))))) m, .bool a.bH.cB,vU a.bH.aM,vI a.bH.dw, .slice r a.bH.af.ls.length s, .bool a.bf.cB,vU a.bf.aM,vI a.bf.dw, .slice u a.bf.af.ls.length z, .bool a.bi.cB,vU a.bi.aM,vI a.bi.dw, .slice C a.bi.af.ls.length E, .bool a.bn.cB,vU a.bn.aM,vI a.bn.dw, .slice G a.bn.af.ls.length I, .bool a.aZ.cB,vU a.aZ.aM,vI a.aZ.dw, .slice K a.aZ.af.ls.length L,vU a.dI,vU a.dz,vU a.dB,vU a.dA,vU a.dC, .pointer none] 86,sepL (q6 bz.own (u5 j (D2 h) (bz.mk b.aR b.aK b.aM b.cz b.bO b.aD b.bB b.af (C7.wrap (b.dO+1))))),row r a.bH.af.ls.length s (q6 ae.cells t) 149 3,sepL (q6 ae.own t),row u a.bf.af.ls.length z (q6 ae.cells B) 149 3,sepL (q6 ae.own B),row C a.bi.af.ls.length E (q6 ae.cells F) 149 3,sepL (q6 ae.own F),row G a.bn.af.ls.length I (q6 ae.cells J) 149 3,sepL (q6 ae.own J),row K a.aZ.af.ls.length L (q6 ae.cells M) 149 3,sepL (q6 ae.own M)]:=by rw [← dJ]; exact bB
 have iR:=iQ.pf [1,2,3,4]
 obtain⟨⟨gy,aj⟩,eD⟩:∃ q:bE × aB,eH p0 h (aB.mk a.aa a.bP (E4 (u5 a.au.ls (D2 h) (dD.mk b.aR b.aK b.aM b.cz (E4 b.bO.ls) (E4 (s8 bD.abs b.aD.ls)) (E4 b.bB.ls) (E4 (s8 bK.abs b.af.ls)) (C7.wrap (b.dO+1))))) a.bH a.bf a.bi a.bn a.aZ a.dI a.dz a.dB a.dA a.dC)=q:=⟨_,rfl⟩
 obtain⟨kQ,gz,kz,gF,kC⟩:=G6 iR
 refine cl Tryz.call63 (mR _ _ g0 p0 ag ah Z h N (aB.mk a.aa a.bP (E4 (u5 a.au.ls (D2 h) (dD.mk b.aR b.aK b.aM b.cz (E4 b.bO.ls) (E4 (s8 bD.abs b.aD.ls)) (E4 b.bB.ls) (E4 (s8 bK.abs b.af.ls)) (C7.wrap (b.dO+1))))) a.bH a.bf a.bi a.bn a.aZ a.dI a.dz a.dB a.dA a.dC) T U S Q V W d m (u5 j (D2 h) (bz.mk b.aR b.aK b.aM b.cz b.bO b.aD b.bB b.af (C7.wrap (b.dO+1)))) r s t u z B C E F G I J K L M gy aj gz aT (iB O rfl) av ay aC aD aF e8 (by first | assumption | exact Mk.act f4 | exact mI f8 (oh (x:=bz.abs b) aI f4) | exact mI f8 (qf (x:=bz.abs b) aI _) | exact mI f8 (oh (x:=bz.abs g) aJ f4) | exact mI f8 (qf (x:=bz.abs g) aJ _)) e8 eD) ?_
 rintro _ kR ⟨iU,iV,iW,iX,iY,gH,iZ,ja,gI,gK,gL,gM,gN,gP,gQ,gT,gU,gV,gW,gX,gY,rfl,gZ,eF,dL,dO,dP,dQ,dS,dU⟩
 have bG:=gF _ _ gZ
 have jb:=az eF
 have jc:=az dL
 have jd:=az dO
 have je:=az dP
 have jf:=az dQ
 have jg:=az dS
 have jh:=az dU
 have ji:=bG.rowC (i:=1) rfl
 have jk:=bG.rowC (i:=4) rfl
 have jl:=bG.rowC (i:=6) rfl
 have jm:=bG.rowC (i:=8) rfl
 have jo:=bG.rowC (i:=10) rfl
 have jq:=bG.rowC (i:=12) rfl
 have jr:=bG.rowC (i:=14) rfl
 refine nt (rt (tR (Fin.res (res0 rfl) ?_)))
 have ib:=bG.pf []
 obtain⟨rfl,rfl⟩:=gm (hr.symm.trans (show _=(gy,aB.mk (di.mk aj.aa.av aj.aa.ay aj.aa.aX aj.aa.aL (E4 a.aa.ag.ls) (E4 a.aa.ak.ls) (E4 a.aa.aJ.ls)) aj.bP (E4 aj.au.ls) aj.bH aj.bf aj.bi aj.bn aj.aZ aj.dI aj.dz aj.dB aj.dA aj.dC) from et (ai bY) (et (ip bu) (et (ai (bF dH)) (et (ai (bF dI)) (et (ip ek) (ai eD)))))))
 exact⟨iU,iV,iW,iX,iY,gH,iZ,ja,gI,gK,gL,gM,gN,gP,gQ,gT,gU,gV,gW,gX,gY,(by first | rfl | (rw [← dJ]; done) | (rw [← dJ]; rfl)),ib,eF,dL,dO,dP,dQ,dS,dU⟩
 refine jF (dF ek) (sk (FV ?_))
 have au:a.au.ls.length=s2 (u5 a.au.ls (D2 h) (dD.mk b.aR b.aK b.aM b.cz (E4 b.bO.ls) (E4 (s8 bD.abs b.aD.ls)) (E4 b.bB.ls) (E4 (s8 bK.abs b.af.ls)) (C7.wrap (b.dO+1)))):=by first | omega | (simp only [H5]; done) | (simp only [H5,p5,s3,G0,p3,p4,H6]; omega)
 have eG:Own w D eU [row d (s2 (u5 a.au.ls (D2 h) (dD.mk b.aR b.aK b.aM b.cz (E4 b.bO.ls) (E4 (s8 bD.abs b.aD.ls)) (E4 b.bB.ls) (E4 (s8 bK.abs b.af.ls)) (C7.wrap (b.dO+1))))) m (q6 bz.cells (u5 j (D2 h) (bz.mk b.aR b.aK b.aM b.cz b.bO b.aD b.bB b.af (C7.wrap (b.dO+1))))) 107 9,blk g0 [vP N 0, .slice ag p0.bq.ls.length ah] 98,row ag p0.bq.ls.length ah (q6 bC.cells Z) 42 21,sepL (q6 bC.own Z),blk N [vI a.aa.av,vU a.aa.ay,vU a.aa.aX,vU a.aa.aL, .slice T a.aa.ag.ls.length U, .slice S a.aa.ak.ls.length Q, .slice V a.aa.aJ.ls.length W,vU a.bP, .slice d (s2 (u5 a.au.ls (D2 h) (dD.mk b.aR b.aK b.aM b.cz (E4 b.bO.ls) (E4 (s8 bD.abs b.aD.ls)) (E4 b.bB.ls) (E4 (s8 bK.abs b.af.ls)) (C7.wrap (b.dO+1))))) m, .bool a.bH.cB,vU a.bH.aM,vI a.bH.dw, .slice r a.bH.af.ls.length s, .bool a.bf.cB,vU a.bf.aM,vI a.bf.dw, .slice u a.bf.af.ls.length z, .bool a.bi.cB,vU a.bi.aM,vI a.bi.dw, .slice C a.bi.af.ls.length E, .bool a.bn.cB,vU a.bn.aM,vI a.bn.dw, .slice G a.bn.af.ls.length I, .bool a.aZ.cB,vU a.aZ.aM,vI a.aZ.dw, .slice K a.aZ.af.ls.length L,vU a.dI,vU a.dz,vU a.dB,vU a.dA,vU a.dC, .pointer none] 86,sepL (q6 bz.own (u5 j (D2 h) (bz.mk b.aR b.aK b.aM b.cz b.bO b.aD b.bB b.af (C7.wrap (b.dO+1))))),row r a.bH.af.ls.length s (q6 ae.cells t) 149 3,sepL (q6 ae.own t),row u a.bf.af.ls.length z (q6 ae.cells B) 149 3,sepL (q6 ae.own B),row C a.bi.af.ls.length E (q6 ae.cells F) 149 3,sepL (q6 ae.own F),row G a.bn.af.ls.length I (q6 ae.cells J) 149 3,sepL (q6 ae.own J),row K a.aZ.af.ls.length L (q6 ae.cells M) 149 3,sepL (q6 ae.own M)]:=by rw [← au]; exact bB
 refine Mz rfl (Mz rfl ?_)
 refine WL.do rfl (Gg Tryz.call64 rfl ?_ (fun _ _ k=>k))
 refine cb Tryz.func64 ?_
 refine sr (Mz rfl (Kz (.pointer (some ⟨ab d,ao d+(D2 h) *9,none⟩)) (Kz (.pointer (some ⟨ab d,ao d+(D2 h) *9+5,none⟩)) (fw (.slice g.aD.A g.aD.ls.length g.aD.c) (F7 rfl (bX.one Tryz.isAgg103 (((pg au.symm (eG.rds (i:=0) rfl)).elem bz.len P f3).at_ (k:=5) rfl))) (fw (vJ (s2 (s8 bD.abs g.aD.ls))) (FX (e:=((g.aD.ls.length:Nat):Int)) yk j0) (Mn rfl (bo ?_)))))))
 have ic:=eG.pb [2,3]
 obtain⟨ig,aX⟩:=AU fun (l:Nat) aQ (aR:Nat) aM R w'=>Own w D w' [row d (s2 (u5 a.au.ls (D2 h) (dD.mk b.aR b.aK b.aM b.cz (E4 b.bO.ls) (E4 (s8 bD.abs b.aD.ls)) (E4 b.bB.ls) (E4 (s8 bK.abs b.af.ls)) (C7.wrap (b.dO+1))))) m (q6 bz.cells (u5 j (D2 h) (bz.mk b.aR b.aK b.aM b.cz b.bO b.aD b.bB b.af (C7.wrap (b.dO+1))))) 107 9,blk g0 [vP N 0, .slice aQ R.length aR] 98,blk N [vI a.aa.av,vU a.aa.ay,vU a.aa.aX,vU a.aa.aL, .slice T a.aa.ag.ls.length U, .slice S a.aa.ak.ls.length Q, .slice V a.aa.aJ.ls.length W,vU a.bP, .slice d (s2 (u5 a.au.ls (D2 h) (dD.mk b.aR b.aK b.aM b.cz (E4 b.bO.ls) (E4 (s8 bD.abs b.aD.ls)) (E4 b.bB.ls) (E4 (s8 bK.abs b.af.ls)) (C7.wrap (b.dO+1))))) m, .bool a.bH.cB,vU a.bH.aM,vI a.bH.dw, .slice r a.bH.af.ls.length s, .bool a.bf.cB,vU a.bf.aM,vI a.bf.dw, .slice u a.bf.af.ls.length z, .bool a.bi.cB,vU a.bi.aM,vI a.bi.dw, .slice C a.bi.af.ls.length E, .bool a.bn.cB,vU a.bn.aM,vI a.bn.dw, .slice G a.bn.af.ls.length I, .bool a.aZ.cB,vU a.aZ.aM,vI a.aZ.dw, .slice K a.aZ.af.ls.length L,vU a.dI,vU a.dz,vU a.dB,vU a.dA,vU a.dC, .pointer none] 86,sepL (q6 bz.own (u5 j (D2 h) (bz.mk b.aR b.aK b.aM b.cz b.bO b.aD b.bB b.af (C7.wrap (b.dO+1))))),row r a.bH.af.ls.length s (q6 ae.cells t) 149 3,sepL (q6 ae.own t),row u a.bf.af.ls.length z (q6 ae.cells B) 149 3,sepL (q6 ae.own B),row C a.bi.af.ls.length E (q6 ae.cells F) 149 3,sepL (q6 ae.own F),row G a.bn.af.ls.length I (q6 ae.cells J) 149 3,sepL (q6 ae.own J),row K a.aZ.af.ls.length L (q6 ae.cells M) 149 3,sepL (q6 ae.own M),row aQ R.length aR (q6 bC.cells aM) 42 21,sepL (q6 bC.own aM)]∧s8 bC.abs aM=R∧l≤s2 (s8 bD.abs g.aD.ls)∧R.length≤p0.bq.ls.length+l∧R.length≤100000+l∧gJ a h (bz.abs b) (bz.abs g) (s2 (s8 bD.abs g.aD.ls)) 0 p0.bq.ls=gJ a h (bz.abs b) (bz.abs g) ((s2 (s8 bD.abs g.aD.ls)) - l) l R
 refine Wp.loop (fun i:Nat × (Option Addr) × Nat × (List bC) × (List bM)=> [(11,vJ i.1),(10,vJ (s2 (s8 bD.abs g.aD.ls))),(9, .slice g.aD.A g.aD.ls.length g.aD.c),(0,vP g0 0),(1, .pointer (some ⟨ab d,ao d+(D2 h) *9,none⟩))]) ig (fun i=>(s2 (s8 bD.abs g.aD.ls)) - i.1) (0,ag,ah,Z,p0.bq.ls) ⟨rfl,rfl,rfl,rfl,rfl,trivial⟩ (aX.2 ⟨ic,by exact aT,e6,e6,e6,rfl⟩) ?_
 rintro ⟨l,aQ,aR,aM,R⟩ kD eX
 obtain⟨aN,aZ,jv,jw,jy,bU⟩:=aX.1 eX
 have jA:=az aZ
 refine sr (Kz (.bool (decide (((l:Nat):Int) < ((s2 (s8 bD.abs g.aD.ls):Nat):Int)))) (nt (FW ?_)))
 by_cases eO:((l:Nat):Int) < ((s2 (s8 bD.abs g.aD.ls):Nat):Int)
 refine jT (dT eO) (sk (FW (bo (sr (Mz rfl ?_)))))
 obtain⟨p,aO⟩:=dK (ls:=g.aD.ls) (i:=l) bD.len f3 (show bA _ 3 g.aD.A g.aD.ls.length (q6 bD.cells g.aD.ls) from (aY aN (i:=3) rfl (ax (P2.2 ⟨g,E0 P, .tail _ b1⟩) aP))) e9
 have bV:=fo (rfl:s8 bD.abs g.aD.ls=s8 bD.abs g.aD.ls) aO
 have jB:p.aF.ls.length≤p.aF.c∧p.aF.ls.length≤9223372036854775807:=aY aN (i:=3) rfl (φ:=fun _=>_) (ax (P2.2 ⟨g,E0 P, .tail _ b4⟩) (ax (P2.2 ⟨p,E0 aO,b1⟩) aV))
 have jC:p.aH.ls.length≤p.aH.c∧p.aH.ls.length≤9223372036854775807:=aY aN (i:=3) rfl (φ:=fun _=>_) (ax (P2.2 ⟨g,E0 P, .tail _ b4⟩) (ax (P2.2 ⟨p,E0 aO, .tail _ b1⟩) aV))
 have jD:p.aF.ls.length≤24024:=Tok.prt aJ _ (E0 bV)
 refine fw (.pointer (some ⟨ab g.aD.A,ao g.aD.A+l *3,none⟩)) (F4 (tK) rfl rfl ((show bA _ 3 g.aD.A g.aD.ls.length (q6 bD.cells g.aD.ls) from (aY aN (i:=3) rfl (ax (P2.2 ⟨g,E0 P, .tail _ b1⟩) aP))).addr (i:=l) e6) e6) (fw (.agg (bD.cells p).toArray) (F7 rfl (Gf (cs:=(bD.cells p)) Tryz.isAgg172 Tryz.sizeOf172 ((show bA _ 3 g.aD.A g.aD.ls.length (q6 bD.cells g.aD.ls) from (aY aN (i:=3) rfl (ax (P2.2 ⟨g,E0 P, .tail _ b1⟩) aP))).elem bD.len aO f3))) ?_)
 refine dM [vI 0, .slice none 0 0, .slice none 0 0] 172 aN ?_
 intro eP kE ik
 refine Az rfl ?_
 refine dN (bD.cells p) 0 ik Tryz.sizeOf172 ?_
 intro kF aS
 refine ns (Mz rfl (Kz (.pointer (some ⟨ab d,ao d+(D2 h) *9,none⟩)) (Kz (.pointer (some ⟨ab d,ao d+(D2 h) *9+6,none⟩)) (fw (.slice g.bB.A g.bB.ls.length g.bB.c) (F7 rfl (bX.one Tryz.isAgg104 (((pg au.symm (aS.rds (i:=1) rfl)).elem bz.len P f3).at_ (k:=6) rfl))) (Mz rfl ?_)))))
 obtain⟨dV,bW⟩:=dK (ls:=g.bB.ls) (i:=l) ow f3 (aY aS (i:=4) rfl (ax (P2.2 ⟨g,E0 P, .tail _ b2⟩) aP)) e9
 refine fw (.pointer (some ⟨ab g.bB.A,ao g.bB.A+l *1,none⟩)) (F4 (xC) rfl rfl ((aY aS (i:=4) rfl (ax (P2.2 ⟨g,E0 P, .tail _ b2⟩) aP)).addr (i:=l) e6) e6) (fw (.bool dV) (F7 rfl (bX.one Tryz.isAgg4 (((aY aS (i:=4) rfl (ax (P2.2 ⟨g,E0 P, .tail _ b2⟩) aP)).elem ow bW f3).at_ (k:=0) rfl))) (Kz (.bool (!dV)) (nt ?_)))
 rcases JS (dV) with bH | bH
 refine jF (cn bH) (Gn (bN (FY (FV (fw (vJ (l+1)) (FX (e:=C7.wrap (((l:Nat):Int)+1)) yk f1) (Mz rfl (WL.nil ?_)))))))
 have il:=aS.px [] [0] []
 exact Gc (l+1,aQ,aR,aM,R) ⟨rfl,rfl,rfl,rfl,rfl,trivial⟩ (aX.2 ⟨il,by exact aZ,e6,e6,e6,et (bU) (et (congrArg (fun q=>gJ a h (bz.abs b) (bz.abs g) q l R) (rA (n:=s2 (s8 bD.abs g.aD.ls)) (i:=l) e6)) (et (ai (bF bV)) (et (ai (bF bW)) (ip bH))))⟩) (by show (s2 (s8 bD.abs g.aD.ls)) - (l+1) < (s2 (s8 bD.abs g.aD.ls)) - l; omega)
 refine jT (cn bH) ?_
 refine oL 17 [19] (bL.block (Gb (Gb (bL.block Gj)))) aS ?_
 intro kG iq
 refine qv 0 rfl rfl (qp eP 0 1 rfl (ql 2 rfl 0 C6 rfl rfl rfl (qv 3 rfl rfl (qk (.pointer (some ⟨ab d,ao d+(D2 h) *9,none⟩)) 4 rfl (qk (.pointer (some ⟨ab d,ao d+(D2 h) *9,none⟩)) 5 rfl (qt (v:=vU g.aR) 6 rfl (fun _ ⟨_,H9⟩=>F7 rfl (bX.one Tryz.isAgg28 (((pg au.symm (H9.rds (i:=1) rfl)).elem bz.len P f3).at_ (k:=0) rfl))) (qv 7 rfl rfl (qp g0 0 8 rfl (qp g0 0 9 rfl (ql 10 rfl 2 O2 rfl rfl rfl (qv 12 rfl rfl (qk (.pointer (some ⟨ab d,ao d+(D2 h) *9,none⟩)) 13 rfl (qk (.pointer (some ⟨ab d,ao d+(D2 h) *9+3,none⟩)) 14 rfl (qt (v:=vU g.cz) 15 rfl (fun _ ⟨_,H9⟩=>F7 rfl (bX.one Tryz.isAgg28 (((pg au.symm (H9.rds (i:=1) rfl)).elem bz.len P f3).at_ (k:=3) rfl))) (qp eP 1 16 rfl (ql 17 rfl 0 Tryz.isAgg39 rfl rfl rfl ?_))))))))))))))))
 have ak:=iq.pf [3]
 have jH:=ak.rowC (i:=2) rfl
 obtain⟨bZ,dW⟩:∃ q,gG (aB.mk a.aa a.bP (E4 (u5 a.au.ls (D2 h) (dD.mk b.aR b.aK b.aM b.cz (E4 b.bO.ls) (E4 (s8 bD.abs b.aD.ls)) (E4 b.bB.ls) (E4 (s8 bK.abs b.af.ls)) (C7.wrap (b.dO+1))))) a.bH a.bf a.bi a.bn a.aZ a.dI a.dz a.dB a.dA a.dC)=q:=⟨_,rfl⟩
 obtain⟨kH,eY,dX,eZ,Y⟩:=Gq ak
 refine qd 11 rfl (Gg Tryz.call108 rfl (om _ _ N (aB.mk a.aa a.bP (E4 (u5 a.au.ls (D2 h) (dD.mk b.aR b.aK b.aM b.cz (E4 b.bO.ls) (E4 (s8 bD.abs b.aD.ls)) (E4 b.bB.ls) (E4 (s8 bK.abs b.af.ls)) (C7.wrap (b.dO+1))))) a.bH a.bf a.bi a.bn a.aZ a.dI a.dz a.dB a.dA a.dC) T U S Q aK V W d m (u5 j (D2 h) (bz.mk b.aR b.aK b.aM b.cz b.bO b.aD b.bB b.af (C7.wrap (b.dO+1)))) r s u z C E G I K L bZ eY bi (dX _ cz) (show a.aa.ak.ls.length≤Q∧a.aa.ak.ls.length≤9223372036854775807 from by omega) (fun x9 h9=>⟨dX _ (bn x9 h9).1,(bn x9 h9).2⟩) (iB O rfl) (Y _ 1 _ rfl aP) (show s2 (u5 a.au.ls (D2 h) (dD.mk b.aR b.aK b.aM b.cz (E4 b.bO.ls) (E4 (s8 bD.abs b.aD.ls)) (E4 b.bB.ls) (E4 (s8 bK.abs b.af.ls)) (C7.wrap (b.dO+1))))≤m∧s2 (u5 a.au.ls (D2 h) (dD.mk b.aR b.aK b.aM b.cz (E4 b.bO.ls) (E4 (s8 bD.abs b.aD.ls)) (E4 b.bB.ls) (E4 (s8 bK.abs b.af.ls)) (C7.wrap (b.dO+1))))≤9223372036854775807 from by omega) (fun x9 h9=>⟨Y _ 3 _ rfl (ax (P2.2 ⟨x9,h9,b1⟩) aP),aY (φ:=fun _=>_) ak (i:=4) rfl (ax (P2.2 ⟨x9,h9,b1⟩) aV),Y _ 3 _ rfl (ax (P2.2 ⟨x9,h9, .tail _ b1⟩) aP),aY (φ:=fun _=>_) ak (i:=4) rfl (ax (P2.2 ⟨x9,h9, .tail _ b1⟩) aV),(fun y1 k1=>⟨Y _ 3 _ rfl (ax (P2.2 ⟨x9,h9, .tail _ b4⟩) (ax (P2.2 ⟨y1,k1,b1⟩) aP)),aY (φ:=fun _=>_) ak (i:=4) rfl (ax (P2.2 ⟨x9,h9, .tail _ b4⟩) (ax (P2.2 ⟨y1,k1,b1⟩) aV)),Y _ 3 _ rfl (ax (P2.2 ⟨x9,h9, .tail _ b4⟩) (ax (P2.2 ⟨y1,k1, .tail _ b1⟩) aP)),aY (φ:=fun _=>_) ak (i:=4) rfl (ax (P2.2 ⟨x9,h9, .tail _ b4⟩) (ax (P2.2 ⟨y1,k1, .tail _ b1⟩) aV))⟩),Y _ 3 _ rfl (ax (P2.2 ⟨x9,h9, .tail _ b2⟩) aP),aY (φ:=fun _=>_) ak (i:=4) rfl (ax (P2.2 ⟨x9,h9, .tail _ b2⟩) aV),Y _ 3 _ rfl (ax (P2.2 ⟨x9,h9, .tail _ b3⟩) aP),aY (φ:=fun _=>_) ak (i:=4) rfl (ax (P2.2 ⟨x9,h9, .tail _ b3⟩) aV),(fun y1 k1=>⟨Y _ 3 _ rfl (ax (P2.2 ⟨x9,h9, .tail _ b5⟩) (ax (P2.2 ⟨y1,k1,b1⟩) aP)),aY (φ:=fun _=>_) ak (i:=4) rfl (ax (P2.2 ⟨x9,h9, .tail _ b5⟩) (ax (P2.2 ⟨y1,k1,b1⟩) aV)),(fun y2 k2=>⟨Y _ 3 _ rfl (ax (P2.2 ⟨x9,h9, .tail _ b5⟩) (ax (P2.2 ⟨y1,k1, .tail _ b1⟩) (ax (P2.2 ⟨y2,k2,b1⟩) aP))),aY (φ:=fun _=>_) ak (i:=4) rfl (ax (P2.2 ⟨x9,h9, .tail _ b5⟩) (ax (P2.2 ⟨y1,k1, .tail _ b1⟩) (ax (P2.2 ⟨y2,k2,b1⟩) aV)))⟩)⟩)⟩) e8 dW) ?_)
 rintro _ kI ⟨rfl,fe⟩
 have iw:=eZ _ _ fe
 have eQ:=iw.pf [1,2,3]
 refine⟨.inr ⟨_,eQ⟩, ?_⟩
 refine qk (.agg (gD 3 0 p.dV 0 0 0 0 0 g.aR bZ 0 g.cz 0 0 0 false ([]) ([]) p.aF.A p.aF.ls.length p.aF.c none 0 0 none 0 0).toArray) 18 rfl ?_
 have iy:=eQ.pf [2,15,16]
 obtain⟨dY,dZ⟩:∃ q,df (bE.mk (E4 R)) (bM.mk 3 0 p.dV 0 0 0 0 0 g.aR bZ 0 g.cz 0 0 0 false (bI.mk ([]) ([])) (E4 p.aF.ls) (E4 ([])) (E4 ([])))=q:=⟨_,rfl⟩
 obtain⟨kJ,fq,jI,fu,fA⟩:=Gx iy
 refine qd 19 rfl (Gg Tryz.call65 rfl (fI _ _ g0 (bE.mk (E4 R)) aQ aR aM N (bM.mk 3 0 p.dV 0 0 0 0 0 g.aR bZ 0 g.cz 0 0 0 false (bI.mk ([]) ([])) (E4 p.aF.ls) (E4 ([])) (E4 ([]))) p.aF.A p.aF.ls.length p.aF.c none 0 0 [] none 0 0 dY fq aZ rfl (fA _ 3 _ rfl (ax (P2.2 ⟨g,E0 P, .tail _ b4⟩) (ax (P2.2 ⟨p,E0 aO,b1⟩) aP))) (show p.aF.ls.length≤p.aF.c∧p.aF.ls.length≤9223372036854775807 from by omega) rfl rfl (fun _ _=>bA.nil _ _ _) f2 (fun _ h9=>absurd h9 B3) rfl (fun _ _=>bA.nil _ _ _) f2 e8 (by first | assumption | exact dE f4 | exact fun x hx=>absurd hx B3 | exact dE (Mk.l8 f4).1 | exact dE (Mk.lq f4).1 | exact dE (Mk.mo f4).1 | exact dE (Mk.mr f4).1 | exact dE (Mk.mq f4).1) dZ) ?_)
 rintro _ kK ⟨iA,iC,iD,rfl,fB,d9,ed⟩
 have eT:=fu _ _ fB
 have jJ:=az d9
 have jK:=eT.rowC (i:=1) rfl
 replace ed:dY.bq.ls.length=R.length+1:=ed
 refine⟨.inl e7, ?_⟩
 refine qn (bN (FY (FV (fw (vJ (l+1)) (FX (e:=C7.wrap (((l:Nat):Int)+1)) yk f1) (Mz rfl (WL.nil ?_))))))
 have iE:=eT.px [4] [3] [1,2]
 exact Gc (l+1,iA,iC,iD,dY.bq.ls) ⟨rfl,rfl,rfl,rfl,rfl,trivial⟩ (aX.2 ⟨iE,by exact d9,e6,e6,e6,et (bU) (et (congrArg (fun q=>gJ a h (bz.abs b) (bz.abs g) q l R) (rA (n:=s2 (s8 bD.abs g.aD.ls)) (i:=l) e6)) (et (ai (bF bV)) (et (ai (bF bW)) (et (gB bH) (et (ai dW) (ai dZ))))))⟩) (by show (s2 (s8 bD.abs g.aD.ls)) - (l+1) < (s2 (s8 bD.abs g.aD.ls)) - l; omega)
 refine jF (dF eO) (Wp.exit (F6 ?_))
 have fC:gJ a h (bz.abs b) (bz.abs g) (s2 (s8 bD.abs g.aD.ls)) 0 p0.bq.ls=R:=et (bU) (et (congrArg (fun q=>gJ a h (bz.abs b) (bz.abs g) q l R) (wm (n:=s2 (s8 bD.abs g.aD.ls)) (i:=l) e6)) rfl)
 refine F6 (Gi (Gh (res0 rfl) (WL.nil (Gh (res0 rfl) ?_))))
 have iG:=aN.pf [1,14,15,2]
 obtain⟨rfl,rfl⟩:=gm (hr.symm.trans (show _=(bE.mk (E4 R),aB.mk a.aa a.bP (E4 (u5 a.au.ls (D2 h) (dD.mk b.aR b.aK b.aM b.cz (E4 b.bO.ls) (E4 (s8 bD.abs b.aD.ls)) (E4 b.bB.ls) (E4 (s8 bK.abs b.af.ls)) (C7.wrap (b.dO+1))))) a.bH a.bf a.bi a.bn a.aZ a.dI a.dz a.dB a.dA a.dC) from et (ai bY) (et (ip bu) (et (ai (bF dH)) (et (ai (bF dI)) (et (iN ek) (ai fC)))))))
 exact⟨aQ,aR,aM,d,m,(u5 j (D2 h) (bz.mk b.aR b.aK b.aM b.cz b.bO b.aD b.bB b.af (C7.wrap (b.dO+1)))),r,s,t,u,z,B,C,E,F,G,I,J,K,L,M,(by first | rfl | (rw [← au]; done) | (rw [← au]; rfl)),iG,aZ,(iB O rfl),av,ay,aC,aD,aF⟩
 have h34t:Bool.toNat bq=0:=by rw [bu]; rfl
 refine jT (cn bu) (rt (tR (Fin.res (res0 rfl) ?_)))
 have iH:=aL.pf []
 obtain⟨rfl,rfl⟩:=gm (hr.symm.trans (show _=(p0,a) from et (ai bY) (gB bu)))
 exact⟨ag,ah,Z,d,m,j,r,s,t,u,z,B,C,E,F,G,I,J,K,L,M,rfl,iH,aT,O,av,ay,aC,aD,aF⟩
end Go.Proofs.YtbkagebjhbphaaaGreat
