/-
 coord: patience.
-/
import Derived.Test.YtbkagebjhbphaaaGreatCc
import Derived.Test.YtbkagebjhbphaaaGreatCf
namespace Go.Proofs.YtbkagebjhbphaaaGreat
open Int renaming toNat→D0
open IntKind renaming i64→C5
open List renaming flatMap→q3,getD→C0,length→r8,length_append→o1,length_cons→s0,length_drop→o0,length_map→s3,length_nil→F2,length_replicate→H2,length_set→H1,length_take→m9,map→s5,mem_flatMap→Q3,mem_of_getElem?→D3,not_mem_nil→y6,set→u2
open Ll renaming mk→E2
open _root_.Go.Proofs.Tryz renaming isAgg24→P3,isAgg3→C4
set_option maxRecDepth 100000
open Go.RowKit
set_option linter.unusedVariables false
set_option linter.unusedSectionVars false
set_option linter.unusedSimpArgs false
def iw (a:aA) (h:Int) (b:dK) (e:dK):Nat→Nat→List bL→(List bL)
  | 0,c,d=>d
  | g+1,c,d=>bnd (C0 e.aG.ls c default) fun f=>bnd (C0 e.bD.ls c default) fun i=>if i=true then iw a h b e g (c+1) d else bnd (il (aA.mk a.aa a.bP (E2 (u2 a.ay.ls (D0 h) (dK.mk b.aR b.aM b.aS b.dh (E2 b.bV.ls) (E2 b.aG.ls) (E2 b.bD.ls) (E2 b.af.ls) (C5.wrap (b.eO+1))))) a.bK a.bA a.bz a.bv a.bq a.dP a.dH a.dI a.dG a.dJ)) fun j=>bnd (dw (bI.mk (E2 d)) (bL.mk 3 0 f.eG 0 0 0 0 0 e.aR j 0 e.dh 0 0 0 false (bC.mk ([]) ([])) (E2 f.aH.ls) (E2 ([])) (E2 ([])))) fun k=>iw a h b e g (c+1) k.aX.ls
def jJ (f:bI) (g:Nat) (a:aA):bI × aA:=
 bnd (bW a.ay.ls g) fun d=>if d.2=true then bnd (C0 a.ay.ls (D0 d.1) default) fun b=>bnd (C0 (u2 a.ay.ls (D0 d.1) (dK.mk b.aR b.aM b.aS b.dh (E2 b.bV.ls) (E2 b.aG.ls) (E2 b.bD.ls) (E2 b.af.ls) (C5.wrap (b.eO+1)))) (D0 d.1) default) fun e=>if e.eO > 10 then bnd (fq f d.1 (aA.mk a.aa a.bP (E2 (u2 a.ay.ls (D0 d.1) (dK.mk b.aR b.aM b.aS b.dh (E2 b.bV.ls) (E2 b.aG.ls) (E2 b.bD.ls) (E2 b.af.ls) (C5.wrap (b.eO+1))))) a.bK a.bA a.bz a.bv a.bq a.dP a.dH a.dI a.dG a.dJ)) fun c=>(c.1,aA.mk (cZ.mk c.2.aa.au c.2.aa.av c.2.aa.aV c.2.aa.aL (E2 a.aa.ag.ls) (E2 a.aa.aj.ls) (E2 a.aa.aF.ls)) c.2.bP (E2 c.2.ay.ls) c.2.bK c.2.bA c.2.bz c.2.bv c.2.bq c.2.dP c.2.dH c.2.dI c.2.dG c.2.dJ) else bnd (iw a d.1 b e e.aG.ls.length 0 f.aX.ls) fun sLrbtbbfL=>(bI.mk (E2 sLrbtbbfL),aA.mk a.aa a.bP (E2 (u2 a.ay.ls (D0 d.1) (dK.mk b.aR b.aM b.aS b.dh (E2 b.bV.ls) (E2 b.aG.ls) (E2 b.bD.ls) (E2 b.af.ls) (C5.wrap (b.eO+1))))) a.bK a.bA a.bz a.bv a.bq a.dP a.dH a.dI a.dG a.dJ) else(f,a)
set_option maxHeartbeats 4000000 in
theorem wI (w D g0) (p0:bI) (ag ai Z p1 N) (a:aA) (T U S Q aK V W d m j r s t u z B C E F G I J K L M) (r0:bI) (X:aA) (H:Own w D w [blk g0 [.pointer (some ⟨N,0,none⟩), .slice ag p0.aX.ls.length ai] 98,row ag p0.aX.ls.length ai (q3 bf.cells Z) 42 21,sepL (q3 bf.own Z),mK N a T a.aa.ag.ls.length U S Q V W d m r s u z C E G I K L,row d a.ay.ls.length m (q3 bB.cells j) 107 9,sepL (q3 bB.own j),row r a.bK.af.ls.length s (q3 ae.cells t) 149 3,sepL (q3 ae.own t),row u a.bA.af.ls.length z (q3 ae.cells B) 149 3,sepL (q3 ae.own B),row C a.bz.af.ls.length E (q3 ae.cells F) 149 3,sepL (q3 ae.own F),row G a.bv.af.ls.length I (q3 ae.cells J) 149 3,sepL (q3 ae.own J),row K a.bq.af.ls.length L (q3 ae.cells M) 149 3,sepL (q3 ae.own M)]) (aT:s5 bf.abs Z=p0.aX.ls) (bn:s5 aC.abs aK=a.aa.aj.ls) (cz:Ro w D fun w'=>bE w' 5 S a.aa.aj.ls.length (q3 aC.cells aK)) (fK:a.aa.aj.ls.length≤Q∧a.aa.aj.ls.length≤9223372036854775807) (bq:∀ x ∈ aK,Ro w D (fun w'=>bE w' 1 x.au.A x.au.ls.length (q3 (eI .i64) x.au.ls))∧(x.au.ls.length≤x.au.c∧x.au.ls.length≤9223372036854775807)) (O:s5 bB.abs j=a.ay.ls) (av:s5 ae.abs t=a.bK.af.ls) (ay:s5 ae.abs B=a.bA.af.ls) (az:s5 ae.abs F=a.bz.af.ls) (aD:s5 ae.abs J=a.bv.af.ls) (aF:s5 ae.abs M=a.bq.af.ls) (kL:a.aa.ag.ls.length≤1000∧a.aa.aj.ls.length≤1000∧a.aa.aF.ls.length≤1000∧a.ay.ls.length≤1000∧p0.aX.ls.length≤100000) (kM:Ak a.ay.ls) (hr:jJ p0 p1 a=(r0,X)):
    Calls Tryz.prog 26 #[vP g0 0,vU p1] w (d9 fun v w'=> ∃ cB cK bH cO df bK dh di bM dm dn bP dx dz bR dA dB bS dC dD bT,v= .tuple #[]∧Own w D w' [blk g0 [vP N 0, .slice cB r0.aX.ls.length cK] 98,row cB r0.aX.ls.length cK (q3 bf.cells bH) 42 21,sepL (q3 bf.own bH),blk N [vI X.aa.au,vU X.aa.av,vU X.aa.aV,vU X.aa.aL, .slice T a.aa.ag.ls.length U, .slice S a.aa.aj.ls.length Q, .slice V a.aa.aF.ls.length W,vU X.bP, .slice cO X.ay.ls.length df, .bool X.bK.cO,vU X.bK.aS,vI X.bK.dA, .slice dh X.bK.af.ls.length di, .bool X.bA.cO,vU X.bA.aS,vI X.bA.dA, .slice dm X.bA.af.ls.length dn, .bool X.bz.cO,vU X.bz.aS,vI X.bz.dA, .slice dx X.bz.af.ls.length dz, .bool X.bv.cO,vU X.bv.aS,vI X.bv.dA, .slice dA X.bv.af.ls.length dB, .bool X.bq.cO,vU X.bq.aS,vI X.bq.dA, .slice dC X.bq.af.ls.length dD,vU X.dP,vU X.dH,vU X.dI,vU X.dG,vU X.dJ, .pointer none] 86,row cO X.ay.ls.length df (q3 bB.cells bK) 107 9,sepL (q3 bB.own bK),row dh X.bK.af.ls.length di (q3 ae.cells bM) 149 3,sepL (q3 ae.own bM),row dm X.bA.af.ls.length dn (q3 ae.cells bP) 149 3,sepL (q3 ae.own bP),row dx X.bz.af.ls.length dz (q3 ae.cells bR) 149 3,sepL (q3 ae.own bR),row dA X.bv.af.ls.length dB (q3 ae.cells bS) 149 3,sepL (q3 ae.own bS),row dC X.bq.af.ls.length dD (q3 ae.cells bT) 149 3,sepL (q3 ae.own bT)]∧(s5 bf.abs bH=r0.aX.ls)∧(s5 bB.abs bK=X.ay.ls)∧(s5 ae.abs bM=X.bK.af.ls)∧(s5 ae.abs bP=X.bA.af.ls)∧(s5 ae.abs bR=X.bz.af.ls)∧(s5 ae.abs bS=X.bv.af.ls)∧(s5 ae.abs bT=X.bq.af.ls)):=by
 have iI:=aB aT
 have fC:=aB bn
 have fD:=aB O
 have fE:=aB av
 have fG:=aB ay
 have fH:=aB az
 have fI:=aB aD
 have fJ:=aB aF
 have iJ:=H.rowC (i:=1) rfl
 have fM:=H.rowC (i:=4) rfl
 have fO:=H.rowC (i:=6) rfl
 have fP:=H.rowC (i:=8) rfl
 have fQ:=H.rowC (i:=10) rfl
 have fT:=H.rowC (i:=12) rfl
 have fU:=H.rowC (i:=14) rfl
 refine cb Tryz.func26 ?_
 refine sr (Mz rfl (Kz (vP g0 0) (Kz (vP g0 0) (Lz (vP N 0) H 0 P3 (Mz rfl ?_)))))
 refine WL.do rfl (Iz Tryz.call62 rfl ?_ (fun _ _ k=>k))
 refine cb Tryz.func62 ?_
 refine sr (Az rfl (Ar rfl (Mz rfl (Kz (vP N 0) (Kz (vP N 8) (Lz (.slice d a.ay.ls.length m) H 3 Tryz.isAgg79 (Mz rfl ?_)))))))
 obtain⟨⟨h,bu⟩,bY⟩:∃ q:Int × Bool,bW a.ay.ls p1=q:=⟨_,rfl⟩
 obtain⟨kN,fV,jK,fZ,aG⟩:=Ii H
 refine cl Tryz.call102 (jb _ _ d a.ay.ls.length m j a.ay.ls p1 h bu fV O (aG _ 4 _ rfl aO) (fun x9 h9=>⟨aG _ 5 _ rfl (ax (Q3.2 ⟨x9,h9,b1⟩) aO),aZ (φ:=fun _=>_) H (i:=5) rfl (ax (Q3.2 ⟨x9,h9,b1⟩) aW),aG _ 5 _ rfl (ax (Q3.2 ⟨x9,h9, .tail _ b1⟩) aO),aZ (φ:=fun _=>_) H (i:=5) rfl (ax (Q3.2 ⟨x9,h9, .tail _ b1⟩) aW),(fun y1 k1=>⟨aG _ 5 _ rfl (ax (Q3.2 ⟨x9,h9, .tail _ b4⟩) (ax (Q3.2 ⟨y1,k1,b1⟩) aO)),aZ (φ:=fun _=>_) H (i:=5) rfl (ax (Q3.2 ⟨x9,h9, .tail _ b4⟩) (ax (Q3.2 ⟨y1,k1,b1⟩) aW)),aG _ 5 _ rfl (ax (Q3.2 ⟨x9,h9, .tail _ b4⟩) (ax (Q3.2 ⟨y1,k1, .tail _ b1⟩) aO)),aZ (φ:=fun _=>_) H (i:=5) rfl (ax (Q3.2 ⟨x9,h9, .tail _ b4⟩) (ax (Q3.2 ⟨y1,k1, .tail _ b1⟩) aW))⟩),aG _ 5 _ rfl (ax (Q3.2 ⟨x9,h9, .tail _ b2⟩) aO),aZ (φ:=fun _=>_) H (i:=5) rfl (ax (Q3.2 ⟨x9,h9, .tail _ b2⟩) aW),aG _ 5 _ rfl (ax (Q3.2 ⟨x9,h9, .tail _ b3⟩) aO),aZ (φ:=fun _=>_) H (i:=5) rfl (ax (Q3.2 ⟨x9,h9, .tail _ b3⟩) aW),(fun y1 k1=>⟨aG _ 5 _ rfl (ax (Q3.2 ⟨x9,h9, .tail _ b5⟩) (ax (Q3.2 ⟨y1,k1,b1⟩) aO)),aZ (φ:=fun _=>_) H (i:=5) rfl (ax (Q3.2 ⟨x9,h9, .tail _ b5⟩) (ax (Q3.2 ⟨y1,k1,b1⟩) aW)),(fun y2 k2=>⟨aG _ 5 _ rfl (ax (Q3.2 ⟨x9,h9, .tail _ b5⟩) (ax (Q3.2 ⟨y1,k1, .tail _ b1⟩) (ax (Q3.2 ⟨y2,k2,b1⟩) aO))),aZ (φ:=fun _=>_) H (i:=5) rfl (ax (Q3.2 ⟨x9,h9, .tail _ b5⟩) (ax (Q3.2 ⟨y1,k1, .tail _ b1⟩) (ax (Q3.2 ⟨y2,k2,b1⟩) aW)))⟩)⟩)⟩) rfl e6 bY) ?_
 rintro _ kP ⟨rfl,gu,eu,eB⟩
 have aL:=fZ _ _ gu
 replace eu:0≤h∧h≤((a.ay.ls.length:Nat):Int):=eu
 replace eB:Bool.toNat bu=0∨h < ((a.ay.ls.length:Nat):Int):=eB
 refine Kz (vI h) (Kz (.bool bu) (Az rfl (An rfl (rt (Fin.res (lW rfl rfl rfl) (Mz rfl (Kz (vI h) (Kz (.bool bu) (Az rfl (An rfl (Ic (sr (Mz rfl (Kz (.bool (!bu)) (nt ?_)))))))))))))))
 rcases Li (bu) with bv | bv
 have h34t:Bool.toNat bu=1:=by rw [bv]; rfl
 refine jF (cn bv) (sk (sr (Mz rfl (Kz (vP g0 0) (Kz (vP g0 0) (Lz (vP N 0) aL 0 P3 (Kz (vP N 0) (Kz (vP N 8) (Lz (.slice d a.ay.ls.length m) aL 3 Tryz.isAgg79 (fw (vJ (D0 h)) (Ie (e:=h) (Iq rfl) e6) ?_))))))))))
 obtain⟨b,aH⟩:=dN (ls:=j) (i:=D0 h) bB.len f4 (aL.rds (i:=4) rfl) e9
 have dE:=fF O aH
 have jL:b.bV.ls.length≤b.bV.c∧b.bV.ls.length≤9223372036854775807:=aZ aL (i:=5) rfl (φ:=fun _=>_) (ax (Q3.2 ⟨b,D3 aH,b1⟩) aW)
 have jM:b.aG.ls.length=r8 (s5 bG.abs b.aG.ls):=aB (rfl:s5 bG.abs b.aG.ls=s5 bG.abs b.aG.ls)
 have jN:b.aG.ls.length≤b.aG.c∧b.aG.ls.length≤9223372036854775807:=aZ aL (i:=5) rfl (φ:=fun _=>_) (ax (Q3.2 ⟨b,D3 aH, .tail _ b1⟩) aW)
 have jO:b.bD.ls.length≤b.bD.c∧b.bD.ls.length≤9223372036854775807:=aZ aL (i:=5) rfl (φ:=fun _=>_) (ax (Q3.2 ⟨b,D3 aH, .tail _ b2⟩) aW)
 have jP:b.af.ls.length=r8 (s5 bO.abs b.af.ls):=aB (rfl:s5 bO.abs b.af.ls=s5 bO.abs b.af.ls)
 have jQ:b.af.ls.length≤b.af.c∧b.af.ls.length≤9223372036854775807:=aZ aL (i:=5) rfl (φ:=fun _=>_) (ax (Q3.2 ⟨b,D3 aH, .tail _ b3⟩) aW)
 have aI:Tok (bB.abs b):=yz f8 dE
 have jR:1≤b.aM∧b.aM≤4:=aI.uh
 have jS:b.bD.ls.length=b.aG.ls.length:=by have q9:=aI.yes; simp only [bB.abs,s3] at q9; exact q9
 have jU:b.af.ls.length=b.aG.ls.length:=by have q9:=aI.res; simp only [bB.abs,s3] at q9; exact q9
 have jW:b.aG.ls.length≤5:=by have q9:=aI.len; simp only [bB.abs,s3] at q9; exact q9
 have jX:b.bV.ls.length≤24:=aI.ops.1
 refine fw (.pointer (some ⟨ab d,ao d+(D0 h) *9,none⟩)) (Ij (qh) rfl rfl ((aL.rds (i:=4) rfl).addr (i:=D0 h) e6) e6) (Ar rfl (Mz rfl (Kz (.pointer (some ⟨ab d,ao d+(D0 h) *9,none⟩)) (Kz (.pointer (some ⟨ab d,ao d+(D0 h) *9+8,none⟩)) (fw (vI b.eO) (Io rfl (bZ.one C4 (((aL.rds (i:=4) rfl).elem bB.len aH f4).at_ (k:=8) rfl))) (Kz (vI (C5.wrap (b.eO+1))) (Kz (.pointer (some ⟨ab d,ao d+(D0 h) *9,none⟩)) (Kz (.pointer (some ⟨ab d,ao d+(D0 h) *9+8,none⟩)) ?_))))))))
 have iK:=aL.pf [4]
 refine Jb (Do.storeRow (vs:= [vI (C5.wrap (b.eO+1))]) (o:=(D0 h) *9+8) (q:=ao d+(D0 h) *9+8) iK rfl e6 rfl Tryz.sizeOf3 rfl rfl (Le rfl) (je bB.len aH (Le rfl)) (jV (y:=(bB.mk b.aR b.aM b.aS b.dh b.bV b.aG b.bD b.af (C5.wrap (b.eO+1)))) bB.len rfl (Le rfl) aH) ?_)
 intro eT iL
 have bA:Own w D eT [row d a.ay.ls.length m (q3 bB.cells (u2 j (D0 h) (bB.mk b.aR b.aM b.aS b.dh b.bV b.aG b.bD b.af (C5.wrap (b.eO+1))))) 107 9,blk g0 [vP N 0, .slice ag p0.aX.ls.length ai] 98,row ag p0.aX.ls.length ai (q3 bf.cells Z) 42 21,sepL (q3 bf.own Z),mK N a T a.aa.ag.ls.length U S Q V W d m r s u z C E G I K L,sepL (q3 bB.own (u2 j (D0 h) (bB.mk b.aR b.aM b.aS b.dh b.bV b.aG b.bD b.af (C5.wrap (b.eO+1))))),row r a.bK.af.ls.length s (q3 ae.cells t) 149 3,sepL (q3 ae.own t),row u a.bA.af.ls.length z (q3 ae.cells B) 149 3,sepL (q3 ae.own B),row C a.bz.af.ls.length E (q3 ae.cells F) 149 3,sepL (q3 ae.own F),row G a.bv.af.ls.length I (q3 ae.cells J) 149 3,sepL (q3 ae.own J),row K a.bq.af.ls.length L (q3 ae.cells M) 149 3,sepL (q3 ae.own M)]:=by rw [Cw (f:=bB.own) (y:=(bB.mk b.aR b.aM b.aS b.dh b.bV b.aG b.bD b.af (C5.wrap (b.eO+1)))) aH rfl]; exact iL
 have jY:r8 (u2 j (D0 h) (bB.mk b.aR b.aM b.aS b.dh b.bV b.aG b.bD b.af (C5.wrap (b.eO+1))))=r8 (u2 a.ay.ls (D0 h) (dK.mk b.aR b.aM b.aS b.dh (E2 b.bV.ls) (E2 (s5 bG.abs b.aG.ls)) (E2 b.bD.ls) (E2 (s5 bO.abs b.af.ls)) (C5.wrap (b.eO+1)))):=aB (iW O rfl)
 have jZ:r8 (u2 a.ay.ls (D0 h) (dK.mk b.aR b.aM b.aS b.dh (E2 b.bV.ls) (E2 (s5 bG.abs b.aG.ls)) (E2 b.bD.ls) (E2 (s5 bO.abs b.af.ls)) (C5.wrap (b.eO+1))))=a.ay.ls.length:=H1
 refine nt (Ic (sr (Mz rfl (Kz (.pointer (some ⟨ab d,ao d+(D0 h) *9,none⟩)) (Kz (.pointer (some ⟨ab d,ao d+(D0 h) *9+8,none⟩)) ?_)))))
 obtain⟨g,P⟩:=dN (ls:=(u2 j (D0 h) (bB.mk b.aR b.aM b.aS b.dh b.bV b.aG b.bD b.af (C5.wrap (b.eO+1))))) (i:=D0 h) bB.len f4 (bA.rds (i:=0) rfl) e9
 have dG:=fF (iW O rfl) P
 have j3:g.bV.ls.length≤g.bV.c∧g.bV.ls.length≤9223372036854775807:=aZ bA (i:=5) rfl (φ:=fun _=>_) (ax (Q3.2 ⟨g,D3 P,b1⟩) aW)
 have j4:g.aG.ls.length=r8 (s5 bG.abs g.aG.ls):=aB (rfl:s5 bG.abs g.aG.ls=s5 bG.abs g.aG.ls)
 have j5:g.aG.ls.length≤g.aG.c∧g.aG.ls.length≤9223372036854775807:=aZ bA (i:=5) rfl (φ:=fun _=>_) (ax (Q3.2 ⟨g,D3 P, .tail _ b1⟩) aW)
 have j6:g.bD.ls.length≤g.bD.c∧g.bD.ls.length≤9223372036854775807:=aZ bA (i:=5) rfl (φ:=fun _=>_) (ax (Q3.2 ⟨g,D3 P, .tail _ b2⟩) aW)
 have kg:g.af.ls.length=r8 (s5 bO.abs g.af.ls):=aB (rfl:s5 bO.abs g.af.ls=s5 bO.abs g.af.ls)
 have ko:g.af.ls.length≤g.af.c∧g.af.ls.length≤9223372036854775807:=aZ bA (i:=5) rfl (φ:=fun _=>_) (ax (Q3.2 ⟨g,D3 P, .tail _ b3⟩) aW)
 have aJ:Tok (bB.abs g):=yz (by first | assumption | exact Mk.act f5 | exact nJ f8 (o7 (x:=bB.abs b) aI f5) | exact nJ f8 (qN (x:=bB.abs b) aI _)) dG
 have kr:1≤g.aM∧g.aM≤4:=aJ.uh
 have ku:g.bD.ls.length=g.aG.ls.length:=by have q9:=aJ.yes; simp only [bB.abs,s3] at q9; exact q9
 have kv:g.af.ls.length=g.aG.ls.length:=by have q9:=aJ.res; simp only [bB.abs,s3] at q9; exact q9
 have kw:g.aG.ls.length≤5:=by have q9:=aJ.len; simp only [bB.abs,s3] at q9; exact q9
 have ky:g.bV.ls.length≤24:=aJ.ops.1
 refine fw (vI g.eO) (Io rfl (bZ.one C4 (((bA.rds (i:=0) rfl).elem bB.len P f4).at_ (k:=8) rfl))) (Kz (.bool (decide (g.eO > 10))) (nt ?_))
 by_cases ek:g.eO > 10
 refine jT (dT ek) (sr (Mz rfl (Mz rfl ?_)))
 have dH:a.ay.ls.length=r8 (u2 a.ay.ls (D0 h) (dK.mk b.aR b.aM b.aS b.dh (E2 b.bV.ls) (E2 (s5 bG.abs b.aG.ls)) (E2 b.bD.ls) (E2 (s5 bO.abs b.af.ls)) (C5.wrap (b.eO+1)))):=by first | omega | (simp only [H1]; done) | (simp only [H1,o1,s0,F2,m9,o0,H2]; omega)
 have iM:Own w D eT [row d (r8 (u2 a.ay.ls (D0 h) (dK.mk b.aR b.aM b.aS b.dh (E2 b.bV.ls) (E2 (s5 bG.abs b.aG.ls)) (E2 b.bD.ls) (E2 (s5 bO.abs b.af.ls)) (C5.wrap (b.eO+1))))) m (q3 bB.cells (u2 j (D0 h) (bB.mk b.aR b.aM b.aS b.dh b.bV b.aG b.bD b.af (C5.wrap (b.eO+1))))) 107 9,blk g0 [vP N 0, .slice ag p0.aX.ls.length ai] 98,row ag p0.aX.ls.length ai (q3 bf.cells Z) 42 21,sepL (q3 bf.own Z),blk N [vI a.aa.au,vU a.aa.av,vU a.aa.aV,vU a.aa.aL, .slice T a.aa.ag.ls.length U, .slice S a.aa.aj.ls.length Q, .slice V a.aa.aF.ls.length W,vU a.bP, .slice d (r8 (u2 a.ay.ls (D0 h) (dK.mk b.aR b.aM b.aS b.dh (E2 b.bV.ls) (E2 (s5 bG.abs b.aG.ls)) (E2 b.bD.ls) (E2 (s5 bO.abs b.af.ls)) (C5.wrap (b.eO+1))))) m, .bool a.bK.cO,vU a.bK.aS,vI a.bK.dA, .slice r a.bK.af.ls.length s, .bool a.bA.cO,vU a.bA.aS,vI a.bA.dA, .slice u a.bA.af.ls.length z, .bool a.bz.cO,vU a.bz.aS,vI a.bz.dA, .slice C a.bz.af.ls.length E, .bool a.bv.cO,vU a.bv.aS,vI a.bv.dA, .slice G a.bv.af.ls.length I, .bool a.bq.cO,vU a.bq.aS,vI a.bq.dA, .slice K a.bq.af.ls.length L,vU a.dP,vU a.dH,vU a.dI,vU a.dG,vU a.dJ, .pointer none] 86,sepL (q3 bB.own (u2 j (D0 h) (bB.mk b.aR b.aM b.aS b.dh b.bV b.aG b.bD b.af (C5.wrap (b.eO+1))))),row r a.bK.af.ls.length s (q3 ae.cells t) 149 3,sepL (q3 ae.own t),row u a.bA.af.ls.length z (q3 ae.cells B) 149 3,sepL (q3 ae.own B),row C a.bz.af.ls.length E (q3 ae.cells F) 149 3,sepL (q3 ae.own F),row G a.bv.af.ls.length I (q3 ae.cells J) 149 3,sepL (q3 ae.own J),row K a.bq.af.ls.length L (q3 ae.cells M) 149 3,sepL (q3 ae.own M)]:=by rw [← dH]; exact bA
 have iO:=iM.pf [1,2,3,4]
 obtain⟨⟨gy,aj⟩,eD⟩:∃ q:bI × aA,fq p0 h (aA.mk a.aa a.bP (E2 (u2 a.ay.ls (D0 h) (dK.mk b.aR b.aM b.aS b.dh (E2 b.bV.ls) (E2 (s5 bG.abs b.aG.ls)) (E2 b.bD.ls) (E2 (s5 bO.abs b.af.ls)) (C5.wrap (b.eO+1))))) a.bK a.bA a.bz a.bv a.bq a.dP a.dH a.dI a.dG a.dJ)=q:=⟨_,rfl⟩
 obtain⟨kQ,gz,kz,gB,kC⟩:=Jg iO
 refine cl Tryz.call63 (nP _ _ g0 p0 ag ai Z h N (aA.mk a.aa a.bP (E2 (u2 a.ay.ls (D0 h) (dK.mk b.aR b.aM b.aS b.dh (E2 b.bV.ls) (E2 (s5 bG.abs b.aG.ls)) (E2 b.bD.ls) (E2 (s5 bO.abs b.af.ls)) (C5.wrap (b.eO+1))))) a.bK a.bA a.bz a.bv a.bq a.dP a.dH a.dI a.dG a.dJ) T U S Q V W d m (u2 j (D0 h) (bB.mk b.aR b.aM b.aS b.dh b.bV b.aG b.bD b.af (C5.wrap (b.eO+1)))) r s t u z B C E F G I J K L M gy aj gz aT (iW O rfl) av ay az aD aF e8 (by first | assumption | exact Mk.act f5 | exact nJ f8 (o7 (x:=bB.abs b) aI f5) | exact nJ f8 (qN (x:=bB.abs b) aI _) | exact nJ f8 (o7 (x:=bB.abs g) aJ f5) | exact nJ f8 (qN (x:=bB.abs g) aJ _)) e8 eD) ?_
 rintro _ kR ⟨iP,iQ,iR,iT,iU,gD,iV,iX,gF,gG,gH,gI,gJ,gK,gL,gM,gN,gP,gQ,gT,gV,rfl,gW,eF,dI,dJ,dL,dO,dP,dQ⟩
 have bD:=gB _ _ gW
 have iY:=aB eF
 have iZ:=aB dI
 have ja:=aB dJ
 have jc:=aB dL
 have jd:=aB dO
 have jf:=aB dP
 have jg:=aB dQ
 have jh:=bD.rowC (i:=1) rfl
 have ji:=bD.rowC (i:=4) rfl
 have jk:=bD.rowC (i:=6) rfl
 have jl:=bD.rowC (i:=8) rfl
 have jm:=bD.rowC (i:=10) rfl
 have jo:=bD.rowC (i:=12) rfl
 have jq:=bD.rowC (i:=14) rfl
 refine nt (rt (tR (Fin.res (res0 rfl) ?_)))
 have gX:=bD.pf []
 obtain⟨rfl,rfl⟩:=ic (hr.symm.trans (show _=(gy,aA.mk (cZ.mk aj.aa.au aj.aa.av aj.aa.aV aj.aa.aL (E2 a.aa.ag.ls) (E2 a.aa.aj.ls) (E2 a.aa.aF.ls)) aj.bP (E2 aj.ay.ls) aj.bK aj.bA aj.bz aj.bv aj.bq aj.dP aj.dH aj.dI aj.dG aj.dJ) from et (ah bY) (et (ip bv) (et (ah (bJ dE)) (et (ah (bJ dG)) (et (ip ek) (ah eD)))))))
 exact⟨iP,iQ,iR,iT,iU,gD,iV,iX,gF,gG,gH,gI,gJ,gK,gL,gM,gN,gP,gQ,gT,gV,(by first | rfl | (rw [← dH]; done) | (rw [← dH]; rfl)),gX,eF,dI,dJ,dL,dO,dP,dQ⟩
 refine jF (dF ek) (sk (Ib ?_))
 have au:a.ay.ls.length=r8 (u2 a.ay.ls (D0 h) (dK.mk b.aR b.aM b.aS b.dh (E2 b.bV.ls) (E2 (s5 bG.abs b.aG.ls)) (E2 b.bD.ls) (E2 (s5 bO.abs b.af.ls)) (C5.wrap (b.eO+1)))):=by first | omega | (simp only [H1]; done) | (simp only [H1,o1,s0,F2,m9,o0,H2]; omega)
 have eG:Own w D eT [row d (r8 (u2 a.ay.ls (D0 h) (dK.mk b.aR b.aM b.aS b.dh (E2 b.bV.ls) (E2 (s5 bG.abs b.aG.ls)) (E2 b.bD.ls) (E2 (s5 bO.abs b.af.ls)) (C5.wrap (b.eO+1))))) m (q3 bB.cells (u2 j (D0 h) (bB.mk b.aR b.aM b.aS b.dh b.bV b.aG b.bD b.af (C5.wrap (b.eO+1))))) 107 9,blk g0 [vP N 0, .slice ag p0.aX.ls.length ai] 98,row ag p0.aX.ls.length ai (q3 bf.cells Z) 42 21,sepL (q3 bf.own Z),blk N [vI a.aa.au,vU a.aa.av,vU a.aa.aV,vU a.aa.aL, .slice T a.aa.ag.ls.length U, .slice S a.aa.aj.ls.length Q, .slice V a.aa.aF.ls.length W,vU a.bP, .slice d (r8 (u2 a.ay.ls (D0 h) (dK.mk b.aR b.aM b.aS b.dh (E2 b.bV.ls) (E2 (s5 bG.abs b.aG.ls)) (E2 b.bD.ls) (E2 (s5 bO.abs b.af.ls)) (C5.wrap (b.eO+1))))) m, .bool a.bK.cO,vU a.bK.aS,vI a.bK.dA, .slice r a.bK.af.ls.length s, .bool a.bA.cO,vU a.bA.aS,vI a.bA.dA, .slice u a.bA.af.ls.length z, .bool a.bz.cO,vU a.bz.aS,vI a.bz.dA, .slice C a.bz.af.ls.length E, .bool a.bv.cO,vU a.bv.aS,vI a.bv.dA, .slice G a.bv.af.ls.length I, .bool a.bq.cO,vU a.bq.aS,vI a.bq.dA, .slice K a.bq.af.ls.length L,vU a.dP,vU a.dH,vU a.dI,vU a.dG,vU a.dJ, .pointer none] 86,sepL (q3 bB.own (u2 j (D0 h) (bB.mk b.aR b.aM b.aS b.dh b.bV b.aG b.bD b.af (C5.wrap (b.eO+1))))),row r a.bK.af.ls.length s (q3 ae.cells t) 149 3,sepL (q3 ae.own t),row u a.bA.af.ls.length z (q3 ae.cells B) 149 3,sepL (q3 ae.own B),row C a.bz.af.ls.length E (q3 ae.cells F) 149 3,sepL (q3 ae.own F),row G a.bv.af.ls.length I (q3 ae.cells J) 149 3,sepL (q3 ae.own J),row K a.bq.af.ls.length L (q3 ae.cells M) 149 3,sepL (q3 ae.own M)]:=by rw [← au]; exact bA
 refine Mz rfl (Mz rfl ?_)
 refine WL.do rfl (Iz Tryz.call64 rfl ?_ (fun _ _ k=>k))
 refine cb Tryz.func64 ?_
 refine sr (Mz rfl (Kz (.pointer (some ⟨ab d,ao d+(D0 h) *9,none⟩)) (Kz (.pointer (some ⟨ab d,ao d+(D0 h) *9+5,none⟩)) (fw (.slice g.aG.A g.aG.ls.length g.aG.c) (Io rfl (bZ.one Tryz.isAgg103 (((qg au.symm (eG.rds (i:=0) rfl)).elem bB.len P f4).at_ (k:=5) rfl))) (fw (vJ (r8 (s5 bG.abs g.aG.ls))) (Ie (e:=((g.aG.ls.length:Nat):Int)) yk j0) (Mn rfl (bo ?_)))))))
 have gY:=eG.pb [2,3]
 obtain⟨gZ,aX⟩:=Au fun (l:Nat) aQ (aR:Nat) aM R w'=>Own w D w' [row d (r8 (u2 a.ay.ls (D0 h) (dK.mk b.aR b.aM b.aS b.dh (E2 b.bV.ls) (E2 (s5 bG.abs b.aG.ls)) (E2 b.bD.ls) (E2 (s5 bO.abs b.af.ls)) (C5.wrap (b.eO+1))))) m (q3 bB.cells (u2 j (D0 h) (bB.mk b.aR b.aM b.aS b.dh b.bV b.aG b.bD b.af (C5.wrap (b.eO+1))))) 107 9,blk g0 [vP N 0, .slice aQ R.length aR] 98,blk N [vI a.aa.au,vU a.aa.av,vU a.aa.aV,vU a.aa.aL, .slice T a.aa.ag.ls.length U, .slice S a.aa.aj.ls.length Q, .slice V a.aa.aF.ls.length W,vU a.bP, .slice d (r8 (u2 a.ay.ls (D0 h) (dK.mk b.aR b.aM b.aS b.dh (E2 b.bV.ls) (E2 (s5 bG.abs b.aG.ls)) (E2 b.bD.ls) (E2 (s5 bO.abs b.af.ls)) (C5.wrap (b.eO+1))))) m, .bool a.bK.cO,vU a.bK.aS,vI a.bK.dA, .slice r a.bK.af.ls.length s, .bool a.bA.cO,vU a.bA.aS,vI a.bA.dA, .slice u a.bA.af.ls.length z, .bool a.bz.cO,vU a.bz.aS,vI a.bz.dA, .slice C a.bz.af.ls.length E, .bool a.bv.cO,vU a.bv.aS,vI a.bv.dA, .slice G a.bv.af.ls.length I, .bool a.bq.cO,vU a.bq.aS,vI a.bq.dA, .slice K a.bq.af.ls.length L,vU a.dP,vU a.dH,vU a.dI,vU a.dG,vU a.dJ, .pointer none] 86,sepL (q3 bB.own (u2 j (D0 h) (bB.mk b.aR b.aM b.aS b.dh b.bV b.aG b.bD b.af (C5.wrap (b.eO+1))))),row r a.bK.af.ls.length s (q3 ae.cells t) 149 3,sepL (q3 ae.own t),row u a.bA.af.ls.length z (q3 ae.cells B) 149 3,sepL (q3 ae.own B),row C a.bz.af.ls.length E (q3 ae.cells F) 149 3,sepL (q3 ae.own F),row G a.bv.af.ls.length I (q3 ae.cells J) 149 3,sepL (q3 ae.own J),row K a.bq.af.ls.length L (q3 ae.cells M) 149 3,sepL (q3 ae.own M),row aQ R.length aR (q3 bf.cells aM) 42 21,sepL (q3 bf.own aM)]∧s5 bf.abs aM=R∧l≤r8 (s5 bG.abs g.aG.ls)∧R.length≤p0.aX.ls.length+l∧R.length≤100000+l∧iw a h (bB.abs b) (bB.abs g) (r8 (s5 bG.abs g.aG.ls)) 0 p0.aX.ls=iw a h (bB.abs b) (bB.abs g) ((r8 (s5 bG.abs g.aG.ls)) - l) l R
 refine Wp.loop (fun i:Nat × (Option Addr) × Nat × (List bf) × (List bL)=> [(11,vJ i.1),(10,vJ (r8 (s5 bG.abs g.aG.ls))),(9, .slice g.aG.A g.aG.ls.length g.aG.c),(0,vP g0 0),(1, .pointer (some ⟨ab d,ao d+(D0 h) *9,none⟩))]) gZ (fun i=>(r8 (s5 bG.abs g.aG.ls)) - i.1) (0,ag,ai,Z,p0.aX.ls) ⟨rfl,rfl,rfl,rfl,rfl,trivial⟩ (aX.2 ⟨gY,by exact aT,e6,e6,e6,rfl⟩) ?_
 rintro ⟨l,aQ,aR,aM,R⟩ kD eU
 obtain⟨aN,aY,jr,jv,jw,bU⟩:=aX.1 eU
 have jy:=aB aY
 refine sr (Kz (.bool (decide (((l:Nat):Int) < ((r8 (s5 bG.abs g.aG.ls):Nat):Int)))) (nt (Ic ?_)))
 by_cases eH:((l:Nat):Int) < ((r8 (s5 bG.abs g.aG.ls):Nat):Int)
 refine jT (dT eH) (sk (Ic (bo (sr (Mz rfl ?_)))))
 obtain⟨p,aP⟩:=dN (ls:=g.aG.ls) (i:=l) bG.len f4 (show bE _ 3 g.aG.A g.aG.ls.length (q3 bG.cells g.aG.ls) from (aZ aN (i:=3) rfl (ax (Q3.2 ⟨g,D3 P, .tail _ b1⟩) aO))) e9
 have bV:=fF (rfl:s5 bG.abs g.aG.ls=s5 bG.abs g.aG.ls) aP
 have jA:p.aH.ls.length≤p.aH.c∧p.aH.ls.length≤9223372036854775807:=aZ aN (i:=3) rfl (φ:=fun _=>_) (ax (Q3.2 ⟨g,D3 P, .tail _ b4⟩) (ax (Q3.2 ⟨p,D3 aP,b1⟩) aW))
 have jB:p.aJ.ls.length≤p.aJ.c∧p.aJ.ls.length≤9223372036854775807:=aZ aN (i:=3) rfl (φ:=fun _=>_) (ax (Q3.2 ⟨g,D3 P, .tail _ b4⟩) (ax (Q3.2 ⟨p,D3 aP, .tail _ b1⟩) aW))
 have jC:p.aH.ls.length≤24024:=Tok.prt aJ _ (D3 bV)
 refine fw (.pointer (some ⟨ab g.aG.A,ao g.aG.A+l *3,none⟩)) (Ij (um) rfl rfl ((show bE _ 3 g.aG.A g.aG.ls.length (q3 bG.cells g.aG.ls) from (aZ aN (i:=3) rfl (ax (Q3.2 ⟨g,D3 P, .tail _ b1⟩) aO))).addr (i:=l) e6) e6) (fw (.agg (bG.cells p).toArray) (Io rfl (Iy (cs:=(bG.cells p)) Tryz.isAgg172 Tryz.sizeOf172 ((show bE _ 3 g.aG.A g.aG.ls.length (q3 bG.cells g.aG.ls) from (aZ aN (i:=3) rfl (ax (Q3.2 ⟨g,D3 P, .tail _ b1⟩) aO))).elem bG.len aP f4))) ?_)
 refine dV [vI 0, .slice none 0 0, .slice none 0 0] 172 aN ?_
 intro eO kE ib
 refine Az rfl ?_
 refine dS (bG.cells p) 0 ib Tryz.sizeOf172 ?_
 intro kF aS
 refine ns (Mz rfl (Kz (.pointer (some ⟨ab d,ao d+(D0 h) *9,none⟩)) (Kz (.pointer (some ⟨ab d,ao d+(D0 h) *9+6,none⟩)) (fw (.slice g.bD.A g.bD.ls.length g.bD.c) (Io rfl (bZ.one Tryz.isAgg104 (((qg au.symm (aS.rds (i:=1) rfl)).elem bB.len P f4).at_ (k:=6) rfl))) (Mz rfl ?_)))))
 obtain⟨dR,bX⟩:=dN (ls:=g.bD.ls) (i:=l) pq f4 (aZ aS (i:=4) rfl (ax (Q3.2 ⟨g,D3 P, .tail _ b2⟩) aO)) e9
 refine fw (.pointer (some ⟨ab g.bD.A,ao g.bD.A+l *1,none⟩)) (Ij (yc) rfl rfl ((aZ aS (i:=4) rfl (ax (Q3.2 ⟨g,D3 P, .tail _ b2⟩) aO)).addr (i:=l) e6) e6) (fw (.bool dR) (Io rfl (bZ.one Tryz.isAgg4 (((aZ aS (i:=4) rfl (ax (Q3.2 ⟨g,D3 P, .tail _ b2⟩) aO)).elem pq bX f4).at_ (k:=0) rfl))) (Kz (.bool (!dR)) (nt ?_)))
 rcases Li (dR) with bF | bF
 refine jF (cn bF) (IE (bN (Ig (Ib (fw (vJ (l+1)) (Ie (e:=C5.wrap (((l:Nat):Int)+1)) yk f0) (Mz rfl (WL.nil ?_)))))))
 have ig:=aS.px [] [0] []
 exact Ir (l+1,aQ,aR,aM,R) ⟨rfl,rfl,rfl,rfl,rfl,trivial⟩ (aX.2 ⟨ig,by exact aY,e6,e6,e6,et (bU) (et (congrArg (fun q=>iw a h (bB.abs b) (bB.abs g) q l R) (rY (n:=r8 (s5 bG.abs g.aG.ls)) (i:=l) e6)) (et (ah (bJ bV)) (et (ah (bJ bX)) (ip bF))))⟩) (by show (r8 (s5 bG.abs g.aG.ls)) - (l+1) < (r8 (s5 bG.abs g.aG.ls)) - l; omega)
 refine jT (cn bF) ?_
 refine pU 17 [19] (bQ.block (Iu (Iu (bQ.block IC)))) aS ?_
 intro kG ik
 refine qv 0 rfl rfl (qp eO 0 1 rfl (ql 2 rfl 0 C4 rfl rfl rfl (qv 3 rfl rfl (qk (.pointer (some ⟨ab d,ao d+(D0 h) *9,none⟩)) 4 rfl (qk (.pointer (some ⟨ab d,ao d+(D0 h) *9,none⟩)) 5 rfl (qt (v:=vU g.aR) 6 rfl (fun _ ⟨_,H9⟩=>Io rfl (bZ.one Tryz.isAgg28 (((qg au.symm (H9.rds (i:=1) rfl)).elem bB.len P f4).at_ (k:=0) rfl))) (qv 7 rfl rfl (qp g0 0 8 rfl (qp g0 0 9 rfl (ql 10 rfl 2 P3 rfl rfl rfl (qv 12 rfl rfl (qk (.pointer (some ⟨ab d,ao d+(D0 h) *9,none⟩)) 13 rfl (qk (.pointer (some ⟨ab d,ao d+(D0 h) *9+3,none⟩)) 14 rfl (qt (v:=vU g.dh) 15 rfl (fun _ ⟨_,H9⟩=>Io rfl (bZ.one Tryz.isAgg28 (((qg au.symm (H9.rds (i:=1) rfl)).elem bB.len P f4).at_ (k:=3) rfl))) (qp eO 1 16 rfl (ql 17 rfl 0 Tryz.isAgg39 rfl rfl rfl ?_))))))))))))))))
 have ak:=ik.pf [3]
 have jE:=ak.rowC (i:=2) rfl
 obtain⟨cu,dU⟩:∃ q,il (aA.mk a.aa a.bP (E2 (u2 a.ay.ls (D0 h) (dK.mk b.aR b.aM b.aS b.dh (E2 b.bV.ls) (E2 (s5 bG.abs b.aG.ls)) (E2 b.bD.ls) (E2 (s5 bO.abs b.af.ls)) (C5.wrap (b.eO+1))))) a.bK a.bA a.bz a.bv a.bq a.dP a.dH a.dI a.dG a.dJ)=q:=⟨_,rfl⟩
 obtain⟨kH,eX,dW,eY,Y⟩:=II ak
 refine qd 11 rfl (Iz Tryz.call108 rfl (o9 _ _ N (aA.mk a.aa a.bP (E2 (u2 a.ay.ls (D0 h) (dK.mk b.aR b.aM b.aS b.dh (E2 b.bV.ls) (E2 (s5 bG.abs b.aG.ls)) (E2 b.bD.ls) (E2 (s5 bO.abs b.af.ls)) (C5.wrap (b.eO+1))))) a.bK a.bA a.bz a.bv a.bq a.dP a.dH a.dI a.dG a.dJ) T U S Q aK V W d m (u2 j (D0 h) (bB.mk b.aR b.aM b.aS b.dh b.bV b.aG b.bD b.af (C5.wrap (b.eO+1)))) r s u z C E G I K L cu eX bn (dW _ cz) (show a.aa.aj.ls.length≤Q∧a.aa.aj.ls.length≤9223372036854775807 from by omega) (fun x9 h9=>⟨dW _ (bq x9 h9).1,(bq x9 h9).2⟩) (iW O rfl) (Y _ 1 _ rfl aO) (show r8 (u2 a.ay.ls (D0 h) (dK.mk b.aR b.aM b.aS b.dh (E2 b.bV.ls) (E2 (s5 bG.abs b.aG.ls)) (E2 b.bD.ls) (E2 (s5 bO.abs b.af.ls)) (C5.wrap (b.eO+1))))≤m∧r8 (u2 a.ay.ls (D0 h) (dK.mk b.aR b.aM b.aS b.dh (E2 b.bV.ls) (E2 (s5 bG.abs b.aG.ls)) (E2 b.bD.ls) (E2 (s5 bO.abs b.af.ls)) (C5.wrap (b.eO+1))))≤9223372036854775807 from by omega) (fun x9 h9=>⟨Y _ 3 _ rfl (ax (Q3.2 ⟨x9,h9,b1⟩) aO),aZ (φ:=fun _=>_) ak (i:=4) rfl (ax (Q3.2 ⟨x9,h9,b1⟩) aW),Y _ 3 _ rfl (ax (Q3.2 ⟨x9,h9, .tail _ b1⟩) aO),aZ (φ:=fun _=>_) ak (i:=4) rfl (ax (Q3.2 ⟨x9,h9, .tail _ b1⟩) aW),(fun y1 k1=>⟨Y _ 3 _ rfl (ax (Q3.2 ⟨x9,h9, .tail _ b4⟩) (ax (Q3.2 ⟨y1,k1,b1⟩) aO)),aZ (φ:=fun _=>_) ak (i:=4) rfl (ax (Q3.2 ⟨x9,h9, .tail _ b4⟩) (ax (Q3.2 ⟨y1,k1,b1⟩) aW)),Y _ 3 _ rfl (ax (Q3.2 ⟨x9,h9, .tail _ b4⟩) (ax (Q3.2 ⟨y1,k1, .tail _ b1⟩) aO)),aZ (φ:=fun _=>_) ak (i:=4) rfl (ax (Q3.2 ⟨x9,h9, .tail _ b4⟩) (ax (Q3.2 ⟨y1,k1, .tail _ b1⟩) aW))⟩),Y _ 3 _ rfl (ax (Q3.2 ⟨x9,h9, .tail _ b2⟩) aO),aZ (φ:=fun _=>_) ak (i:=4) rfl (ax (Q3.2 ⟨x9,h9, .tail _ b2⟩) aW),Y _ 3 _ rfl (ax (Q3.2 ⟨x9,h9, .tail _ b3⟩) aO),aZ (φ:=fun _=>_) ak (i:=4) rfl (ax (Q3.2 ⟨x9,h9, .tail _ b3⟩) aW),(fun y1 k1=>⟨Y _ 3 _ rfl (ax (Q3.2 ⟨x9,h9, .tail _ b5⟩) (ax (Q3.2 ⟨y1,k1,b1⟩) aO)),aZ (φ:=fun _=>_) ak (i:=4) rfl (ax (Q3.2 ⟨x9,h9, .tail _ b5⟩) (ax (Q3.2 ⟨y1,k1,b1⟩) aW)),(fun y2 k2=>⟨Y _ 3 _ rfl (ax (Q3.2 ⟨x9,h9, .tail _ b5⟩) (ax (Q3.2 ⟨y1,k1, .tail _ b1⟩) (ax (Q3.2 ⟨y2,k2,b1⟩) aO))),aZ (φ:=fun _=>_) ak (i:=4) rfl (ax (Q3.2 ⟨x9,h9, .tail _ b5⟩) (ax (Q3.2 ⟨y1,k1, .tail _ b1⟩) (ax (Q3.2 ⟨y2,k2,b1⟩) aW)))⟩)⟩)⟩) e8 dU) ?_)
 rintro _ kI ⟨rfl,eZ⟩
 have iq:=eY _ _ eZ
 have eP:=iq.pf [1,2,3]
 refine⟨.inr ⟨_,eP⟩, ?_⟩
 refine qk (.agg (gU 3 0 p.eG 0 0 0 0 0 g.aR cu 0 g.dh 0 0 0 false ([]) ([]) p.aH.A p.aH.ls.length p.aH.c none 0 0 none 0 0).toArray) 18 rfl ?_
 have iy:=eP.pf [2,15,16]
 obtain⟨dX,dY⟩:∃ q,dw (bI.mk (E2 R)) (bL.mk 3 0 p.eG 0 0 0 0 0 g.aR cu 0 g.dh 0 0 0 false (bC.mk ([]) ([])) (E2 p.aH.ls) (E2 ([])) (E2 ([])))=q:=⟨_,rfl⟩
 obtain⟨kJ,fe,jG,fo,fu⟩:=IU iy
 refine qd 19 rfl (Iz Tryz.call65 rfl (gp _ _ g0 (bI.mk (E2 R)) aQ aR aM N (bL.mk 3 0 p.eG 0 0 0 0 0 g.aR cu 0 g.dh 0 0 0 false (bC.mk ([]) ([])) (E2 p.aH.ls) (E2 ([])) (E2 ([]))) p.aH.A p.aH.ls.length p.aH.c none 0 0 [] none 0 0 dX fe aY rfl (fu _ 3 _ rfl (ax (Q3.2 ⟨g,D3 P, .tail _ b4⟩) (ax (Q3.2 ⟨p,D3 aP,b1⟩) aO))) (show p.aH.ls.length≤p.aH.c∧p.aH.ls.length≤9223372036854775807 from by omega) rfl rfl (fun _ _=>bE.nil _ _ _) f2 (fun _ h9=>absurd h9 y6) rfl (fun _ _=>bE.nil _ _ _) f2 e8 (by first | assumption | exact dM f5 | exact fun x hx=>absurd hx y6 | exact dM (Mk.mU f5).1 | exact dM (Mk.lT f5).1 | exact dM (Mk.nu f5).1 | exact dM (Mk.ny f5).1 | exact dM (Mk.nz f5).1) dY) ?_)
 rintro _ kK ⟨iA,iB,iC,rfl,fA,dZ,ed⟩
 have eQ:=fo _ _ fA
 have jH:=aB dZ
 have jI:=eQ.rowC (i:=1) rfl
 replace ed:dX.aX.ls.length=R.length+1:=ed
 refine⟨.inl e7, ?_⟩
 refine qn (bN (Ig (Ib (fw (vJ (l+1)) (Ie (e:=C5.wrap (((l:Nat):Int)+1)) yk f0) (Mz rfl (WL.nil ?_))))))
 have iD:=eQ.px [4] [3] [1,2]
 exact Ir (l+1,iA,iB,iC,dX.aX.ls) ⟨rfl,rfl,rfl,rfl,rfl,trivial⟩ (aX.2 ⟨iD,by exact dZ,e6,e6,e6,et (bU) (et (congrArg (fun q=>iw a h (bB.abs b) (bB.abs g) q l R) (rY (n:=r8 (s5 bG.abs g.aG.ls)) (i:=l) e6)) (et (ah (bJ bV)) (et (ah (bJ bX)) (et (gm bF) (et (ah dU) (ah dY))))))⟩) (by show (r8 (s5 bG.abs g.aG.ls)) - (l+1) < (r8 (s5 bG.abs g.aG.ls)) - l; omega)
 refine jF (dF eH) (Wp.exit (Il ?_))
 have fB:iw a h (bB.abs b) (bB.abs g) (r8 (s5 bG.abs g.aG.ls)) 0 p0.aX.ls=R:=et (bU) (et (congrArg (fun q=>iw a h (bB.abs b) (bB.abs g) q l R) (wT (n:=r8 (s5 bG.abs g.aG.ls)) (i:=l) e6)) rfl)
 refine Il (IB (IA (res0 rfl) (WL.nil (IA (res0 rfl) ?_))))
 have iE:=aN.pf [1,14,15,2]
 obtain⟨rfl,rfl⟩:=ic (hr.symm.trans (show _=(bI.mk (E2 R),aA.mk a.aa a.bP (E2 (u2 a.ay.ls (D0 h) (dK.mk b.aR b.aM b.aS b.dh (E2 b.bV.ls) (E2 (s5 bG.abs b.aG.ls)) (E2 b.bD.ls) (E2 (s5 bO.abs b.af.ls)) (C5.wrap (b.eO+1))))) a.bK a.bA a.bz a.bv a.bq a.dP a.dH a.dI a.dG a.dJ) from et (ah bY) (et (ip bv) (et (ah (bJ dE)) (et (ah (bJ dG)) (et (iN ek) (ah fB)))))))
 exact⟨aQ,aR,aM,d,m,(u2 j (D0 h) (bB.mk b.aR b.aM b.aS b.dh b.bV b.aG b.bD b.af (C5.wrap (b.eO+1)))),r,s,t,u,z,B,C,E,F,G,I,J,K,L,M,(by first | rfl | (rw [← au]; done) | (rw [← au]; rfl)),iE,aY,(iW O rfl),av,ay,az,aD,aF⟩
 have h34t:Bool.toNat bu=0:=by rw [bv]; rfl
 refine jT (cn bv) (rt (tR (Fin.res (res0 rfl) ?_)))
 have iF:=aL.pf []
 obtain⟨rfl,rfl⟩:=ic (hr.symm.trans (show _=(p0,a) from et (ah bY) (gm bv)))
 exact⟨ag,ai,Z,d,m,j,r,s,t,u,z,B,C,E,F,G,I,J,K,L,M,rfl,iF,aT,O,av,ay,az,aD,aF⟩
end Go.Proofs.YtbkagebjhbphaaaGreat
