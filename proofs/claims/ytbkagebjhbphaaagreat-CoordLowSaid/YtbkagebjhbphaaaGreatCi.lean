/-
 coord: patience.
-/
import Derived.Test.YtbkagebjhbphaaaGreatCc
import Derived.Test.YtbkagebjhbphaaaGreatCf
namespace Go.Proofs.YtbkagebjhbphaaaGreat
open Int renaming toNat→D2
open IntKind renaming i64→C7
open List renaming flatMap→q6,getD→C2,length→s2,length_append→p5,length_cons→s3,length_drop→p4,length_map→s6,length_nil→G1,length_replicate→H4,length_set→H3,length_take→p3,map→s8,mem_flatMap→O7,mem_of_getElem?→E0,not_mem_nil→B3,set→u5
open Ll renaming mk→E4
open _root_.Go.Proofs.Tryz renaming isAgg24→N7,isAgg3→C6
set_option maxRecDepth 100000
open Go.RowKit
set_option linter.unusedVariables false
set_option linter.unusedSectionVars false
set_option linter.unusedSimpArgs false
def gZ (a:aB) (h:Int) (b:dH) (e:dH):Nat→Nat→List bQ→(List bQ)
  | 0,c,d=>d
  | g+1,c,d=>bnd (C2 e.aC.ls c default) fun f=>bnd (C2 e.bF.ls c default) fun i=>if i=true then gZ a h b e g (c+1) d else bnd (gy (aB.mk a.aa a.bH (E4 (u5 a.aA.ls (D2 h) (dH.mk b.bq b.aW b.aH b.dw (E4 b.bS.ls) (E4 b.aC.ls) (E4 b.bF.ls) (E4 b.ae.ls) (C7.wrap (b.dZ+1))))) a.aQ a.aO a.aL a.aN a.aK a.df a.cu a.cz a.cB a.cK)) fun j=>bnd (dB (bO.mk (E4 d)) (bQ.mk 3 0 f.dU 0 0 0 0 0 e.bq j 0 e.dw 0 0 0 false (bK.mk ([]) ([])) (E4 f.aD.ls) (E4 ([])) (E4 ([])))) fun k=>gZ a h b e g (c+1) k.bE.ls
def kF (f:bO) (g:Nat) (a:aB):bO × aB:=
 bnd (dz a.aA.ls g) fun d=>if d.2=true then bnd (C2 a.aA.ls (D2 d.1) default) fun b=>bnd (C2 (u5 a.aA.ls (D2 d.1) (dH.mk b.bq b.aW b.aH b.dw (E4 b.bS.ls) (E4 b.aC.ls) (E4 b.bF.ls) (E4 b.ae.ls) (C7.wrap (b.dZ+1)))) (D2 d.1) default) fun e=>if e.dZ > 10 then bnd (gz f d.1 (aB.mk a.aa a.bH (E4 (u5 a.aA.ls (D2 d.1) (dH.mk b.bq b.aW b.aH b.dw (E4 b.bS.ls) (E4 b.aC.ls) (E4 b.bF.ls) (E4 b.ae.ls) (C7.wrap (b.dZ+1))))) a.aQ a.aO a.aL a.aN a.aK a.df a.cu a.cz a.cB a.cK)) fun c=>(c.1,aB.mk (dA.mk c.2.aa.ak c.2.aa.ax c.2.aa.bi c.2.aa.aI (E4 a.aa.ag.ls) (E4 a.aa.aj.ls) (E4 a.aa.aF.ls)) c.2.bH (E4 c.2.aA.ls) c.2.aQ c.2.aO c.2.aL c.2.aN c.2.aK c.2.df c.2.cu c.2.cz c.2.cB c.2.cK) else bnd (gZ a d.1 b e e.aC.ls.length 0 f.bE.ls) fun sLrbtbbfL=>(bO.mk (E4 sLrbtbbfL),aB.mk a.aa a.bH (E4 (u5 a.aA.ls (D2 d.1) (dH.mk b.bq b.aW b.aH b.dw (E4 b.bS.ls) (E4 b.aC.ls) (E4 b.bF.ls) (E4 b.ae.ls) (C7.wrap (b.dZ+1))))) a.aQ a.aO a.aL a.aN a.aK a.df a.cu a.cz a.cB a.cK) else(f,a)
set_option maxHeartbeats 4000000 in
theorem vw (w:World) (D:Nat→Prop) (g0:Nat) (p0:bO) (ag:Option Addr) (ai:Nat) (Z:List bA) (p1:Nat) (N:Nat) (a:aB) (T:Option Addr) (U:Nat) (S:Option Addr) (Q:Nat) (aK:List ay) (V:Option Addr) (W:Nat) (d:Option Addr) (m:Nat) (j:List bB) (r:Option Addr) (s:Nat) (t:List af) (u:Option Addr) (z:Nat) (B:List af) (C:Option Addr) (E:Nat) (F:List af) (G:Option Addr) (I:Nat) (J:List af) (K:Option Addr) (L:Nat) (M:List af) (r0:bO) (X:aB) (H:Own w D w [blk g0 [.pointer (some ⟨N,0,none⟩), .slice ag p0.bE.ls.length ai] 98,row ag p0.bE.ls.length ai (q6 bA.cells Z) 42 21,sepL (q6 bA.own Z),blk N [.int .i64 a.aa.ak, .int .u64 ((a.aa.ax:Nat):Int), .int .u64 ((a.aa.bi:Nat):Int), .int .u64 ((a.aa.aI:Nat):Int), .slice T a.aa.ag.ls.length U, .slice S a.aa.aj.ls.length Q, .slice V a.aa.aF.ls.length W, .int .u64 ((a.bH:Nat):Int), .slice d a.aA.ls.length m, .bool a.aQ.aR, .int .u64 ((a.aQ.aH:Nat):Int), .int .i64 a.aQ.aZ, .slice r a.aQ.ae.ls.length s, .bool a.aO.aR, .int .u64 ((a.aO.aH:Nat):Int), .int .i64 a.aO.aZ, .slice u a.aO.ae.ls.length z, .bool a.aL.aR, .int .u64 ((a.aL.aH:Nat):Int), .int .i64 a.aL.aZ, .slice C a.aL.ae.ls.length E, .bool a.aN.aR, .int .u64 ((a.aN.aH:Nat):Int), .int .i64 a.aN.aZ, .slice G a.aN.ae.ls.length I, .bool a.aK.aR, .int .u64 ((a.aK.aH:Nat):Int), .int .i64 a.aK.aZ, .slice K a.aK.ae.ls.length L, .int .u64 ((a.df:Nat):Int), .int .u64 ((a.cu:Nat):Int), .int .u64 ((a.cz:Nat):Int), .int .u64 ((a.cB:Nat):Int), .int .u64 ((a.cK:Nat):Int), .pointer none] 86,row d a.aA.ls.length m (q6 bB.cells j) 107 9,sepL (q6 bB.own j),row r a.aQ.ae.ls.length s (q6 af.cells t) 149 3,sepL (q6 af.own t),row u a.aO.ae.ls.length z (q6 af.cells B) 149 3,sepL (q6 af.own B),row C a.aL.ae.ls.length E (q6 af.cells F) 149 3,sepL (q6 af.own F),row G a.aN.ae.ls.length I (q6 af.cells J) 149 3,sepL (q6 af.own J),row K a.aK.ae.ls.length L (q6 af.cells M) 149 3,sepL (q6 af.own M)]) (aS:s8 bA.abs Z=p0.bE.ls) (bf:s8 ay.abs aK=a.aa.aj.ls) (bS:Ro w D fun w'=>bD w' 5 S a.aa.aj.ls.length (q6 ay.cells aK)) (eH:a.aa.aj.ls.length≤Q∧a.aa.aj.ls.length≤9223372036854775807) (bg:∀ x ∈ aK,Ro w D (fun w'=>bD w' 1 x.ak.A x.ak.ls.length (q6 (eI .i64) x.ak.ls))∧(x.ak.ls.length≤x.ak.c∧x.ak.ls.length≤9223372036854775807)) (O:s8 bB.abs j=a.aA.ls) (ax:s8 af.abs t=a.aQ.ae.ls) (aA:s8 af.abs B=a.aO.ae.ls) (aC:s8 af.abs F=a.aL.ae.ls) (aD:s8 af.abs J=a.aN.ae.ls) (aF:s8 af.abs M=a.aK.ae.ls) (jZ:a.aa.ag.ls.length≤1000∧a.aa.aj.ls.length≤1000∧a.aa.aF.ls.length≤1000∧a.aA.ls.length≤1000∧p0.bE.ls.length≤100000) (j3:Ak a.aA.ls) (hr:kF p0 p1 a=(r0,X)):
    Calls Tryz.prog 26 #[vP g0 0,vU p1] w (dS fun v w'=> ∃ (B0ox0:Option Addr) (b0ox0:Nat) (e0ox0:List bA) (B1ox3:Option Addr) (b1ox3:Nat) (e1ox3:List bB) (B1ox4:Option Addr) (b1ox4:Nat) (e1ox4:List af) (B1ox5:Option Addr) (b1ox5:Nat) (e1ox5:List af) (B1ox6:Option Addr) (b1ox6:Nat) (e1ox6:List af) (B1ox7:Option Addr) (b1ox7:Nat) (e1ox7:List af) (B1ox8:Option Addr) (b1ox8:Nat) (e1ox8:List af),v= .tuple #[]∧Own w D w' [blk g0 [vP N 0, .slice B0ox0 r0.bE.ls.length b0ox0] 98,row B0ox0 r0.bE.ls.length b0ox0 (q6 bA.cells e0ox0) 42 21,sepL (q6 bA.own e0ox0),blk N [vI X.aa.ak,vU X.aa.ax,vU X.aa.bi,vU X.aa.aI, .slice T a.aa.ag.ls.length U, .slice S a.aa.aj.ls.length Q, .slice V a.aa.aF.ls.length W,vU X.bH, .slice B1ox3 X.aA.ls.length b1ox3, .bool X.aQ.aR,vU X.aQ.aH,vI X.aQ.aZ, .slice B1ox4 X.aQ.ae.ls.length b1ox4, .bool X.aO.aR,vU X.aO.aH,vI X.aO.aZ, .slice B1ox5 X.aO.ae.ls.length b1ox5, .bool X.aL.aR,vU X.aL.aH,vI X.aL.aZ, .slice B1ox6 X.aL.ae.ls.length b1ox6, .bool X.aN.aR,vU X.aN.aH,vI X.aN.aZ, .slice B1ox7 X.aN.ae.ls.length b1ox7, .bool X.aK.aR,vU X.aK.aH,vI X.aK.aZ, .slice B1ox8 X.aK.ae.ls.length b1ox8,vU X.df,vU X.cu,vU X.cz,vU X.cB,vU X.cK, .pointer none] 86,row B1ox3 X.aA.ls.length b1ox3 (q6 bB.cells e1ox3) 107 9,sepL (q6 bB.own e1ox3),row B1ox4 X.aQ.ae.ls.length b1ox4 (q6 af.cells e1ox4) 149 3,sepL (q6 af.own e1ox4),row B1ox5 X.aO.ae.ls.length b1ox5 (q6 af.cells e1ox5) 149 3,sepL (q6 af.own e1ox5),row B1ox6 X.aL.ae.ls.length b1ox6 (q6 af.cells e1ox6) 149 3,sepL (q6 af.own e1ox6),row B1ox7 X.aN.ae.ls.length b1ox7 (q6 af.cells e1ox7) 149 3,sepL (q6 af.own e1ox7),row B1ox8 X.aK.ae.ls.length b1ox8 (q6 af.cells e1ox8) 149 3,sepL (q6 af.own e1ox8)]∧(s8 bA.abs e0ox0=r0.bE.ls)∧(s8 bB.abs e1ox3=X.aA.ls)∧(s8 af.abs e1ox4=X.aQ.ae.ls)∧(s8 af.abs e1ox5=X.aO.ae.ls)∧(s8 af.abs e1ox6=X.aL.ae.ls)∧(s8 af.abs e1ox7=X.aN.ae.ls)∧(s8 af.abs e1ox8=X.aK.ae.ls)):=by
 have gU:=az aS
 have ed:=az bf
 have ek:=az O
 have eu:=az ax
 have eB:=az aA
 have eD:=az aC
 have eF:=az aD
 have eG:=az aF
 have gV:=H.rowC (i:=1) rfl
 have eO:=H.rowC (i:=4) rfl
 have eQ:=H.rowC (i:=6) rfl
 have eT:=H.rowC (i:=8) rfl
 have eU:=H.rowC (i:=10) rfl
 have eX:=H.rowC (i:=12) rfl
 have eY:=H.rowC (i:=14) rfl
 refine cb Tryz.func26 ?_
 refine sr (Mz rfl (Kz (vP g0 0) (Kz (vP g0 0) (Lz (vP N 0) H 0 N7 (Mz rfl ?_)))))
 refine WL.do rfl (Fe Tryz.call62 rfl ?_ (fun _ _ k=>k))
 refine cb Tryz.func62 ?_
 refine sr (Az rfl (Ar rfl (Mz rfl (Kz (vP N 0) (Kz (vP N 8) (Lz (.slice d a.aA.ls.length m) H 3 Tryz.isAgg79 (Mz rfl ?_)))))))
 obtain⟨⟨h,bi⟩,bL⟩:∃ q:Int × Bool,dz a.aA.ls p1=q:=⟨_,rfl⟩
 obtain⟨j4,eZ,jf,fe,aG⟩:=EU H
 refine cl Tryz.call102 (iF _ _ d a.aA.ls.length m j a.aA.ls p1 h bi eZ O (aG _ 4 _ rfl aT) (fun x9 h9=>⟨aG _ 5 _ rfl (av (O7.2 ⟨x9,h9,b1⟩) aT),bz (φ:=fun _=>_) H (i:=5) rfl (av (O7.2 ⟨x9,h9,b1⟩) bn),aG _ 5 _ rfl (av (O7.2 ⟨x9,h9, .tail _ b1⟩) aT),bz (φ:=fun _=>_) H (i:=5) rfl (av (O7.2 ⟨x9,h9, .tail _ b1⟩) bn),(fun y1 k1=>⟨aG _ 5 _ rfl (av (O7.2 ⟨x9,h9, .tail _ b4⟩) (av (O7.2 ⟨y1,k1,b1⟩) aT)),bz (φ:=fun _=>_) H (i:=5) rfl (av (O7.2 ⟨x9,h9, .tail _ b4⟩) (av (O7.2 ⟨y1,k1,b1⟩) bn)),aG _ 5 _ rfl (av (O7.2 ⟨x9,h9, .tail _ b4⟩) (av (O7.2 ⟨y1,k1, .tail _ b1⟩) aT)),bz (φ:=fun _=>_) H (i:=5) rfl (av (O7.2 ⟨x9,h9, .tail _ b4⟩) (av (O7.2 ⟨y1,k1, .tail _ b1⟩) bn))⟩),aG _ 5 _ rfl (av (O7.2 ⟨x9,h9, .tail _ b2⟩) aT),bz (φ:=fun _=>_) H (i:=5) rfl (av (O7.2 ⟨x9,h9, .tail _ b2⟩) bn),aG _ 5 _ rfl (av (O7.2 ⟨x9,h9, .tail _ b3⟩) aT),bz (φ:=fun _=>_) H (i:=5) rfl (av (O7.2 ⟨x9,h9, .tail _ b3⟩) bn),(fun y1 k1=>⟨aG _ 5 _ rfl (av (O7.2 ⟨x9,h9, .tail _ b5⟩) (av (O7.2 ⟨y1,k1,b1⟩) aT)),bz (φ:=fun _=>_) H (i:=5) rfl (av (O7.2 ⟨x9,h9, .tail _ b5⟩) (av (O7.2 ⟨y1,k1,b1⟩) bn)),(fun y2 k2=>⟨aG _ 5 _ rfl (av (O7.2 ⟨x9,h9, .tail _ b5⟩) (av (O7.2 ⟨y1,k1, .tail _ b1⟩) (av (O7.2 ⟨y2,k2,b1⟩) aT))),bz (φ:=fun _=>_) H (i:=5) rfl (av (O7.2 ⟨x9,h9, .tail _ b5⟩) (av (O7.2 ⟨y1,k1, .tail _ b1⟩) (av (O7.2 ⟨y2,k2,b1⟩) bn)))⟩)⟩)⟩) rfl e6 bL) ?_
 rintro _ j5 ⟨rfl,fq,dw,dx⟩
 have aL:=fe _ _ fq
 replace dw:0≤h∧h≤((a.aA.ls.length:Nat):Int):=dw
 replace dx:Bool.toNat bi=0∨h < ((a.aA.ls.length:Nat):Int):=dx
 refine Kz (vI h) (Kz (.bool bi) (Az rfl (An rfl (rt (Fin.res (lT rfl rfl rfl) (Mz rfl (Kz (vI h) (Kz (.bool bi) (Az rfl (An rfl (EP (sr (Mz rfl (Kz (.bool (!bi)) (nt ?_)))))))))))))))
 rcases IW (bi) with bq | bq
 have h34t:Bool.toNat bi=1:=by rw [bq]; rfl
 refine jF (cn bq) (sk (sr (Mz rfl (Kz (vP g0 0) (Kz (vP g0 0) (Lz (vP N 0) aL 0 N7 (Kz (vP N 0) (Kz (vP N 8) (Lz (.slice d a.aA.ls.length m) aL 3 Tryz.isAgg79 (fw (vJ (D2 h)) (EQ (e:=h) (E5 rfl) e6) ?_))))))))))
 obtain⟨b,aH⟩:=dG (ls:=j) (i:=D2 h) bB.len f3 (aL.rds (i:=4) rfl) e9
 have bT:=eP O aH
 have jg:b.bS.ls.length≤b.bS.c∧b.bS.ls.length≤9223372036854775807:=bz aL (i:=5) rfl (φ:=fun _=>_) (av (O7.2 ⟨b,E0 aH,b1⟩) bn)
 have jh:b.aC.ls.length=s2 (s8 bG.abs b.aC.ls):=az (rfl:s8 bG.abs b.aC.ls=s8 bG.abs b.aC.ls)
 have ji:b.aC.ls.length≤b.aC.c∧b.aC.ls.length≤9223372036854775807:=bz aL (i:=5) rfl (φ:=fun _=>_) (av (O7.2 ⟨b,E0 aH, .tail _ b1⟩) bn)
 have jk:b.bF.ls.length≤b.bF.c∧b.bF.ls.length≤9223372036854775807:=bz aL (i:=5) rfl (φ:=fun _=>_) (av (O7.2 ⟨b,E0 aH, .tail _ b2⟩) bn)
 have jl:b.ae.ls.length=s2 (s8 bM.abs b.ae.ls):=az (rfl:s8 bM.abs b.ae.ls=s8 bM.abs b.ae.ls)
 have jm:b.ae.ls.length≤b.ae.c∧b.ae.ls.length≤9223372036854775807:=bz aL (i:=5) rfl (φ:=fun _=>_) (av (O7.2 ⟨b,E0 aH, .tail _ b3⟩) bn)
 have aI:Tok (bB.abs b):=xm f9 bT
 have jo:1≤b.aW∧b.aW≤4:=aI.zL
 have jq:b.bF.ls.length=b.aC.ls.length:=by have q9:=aI.yes; simp only [bB.abs,s6] at q9; exact q9
 have jr:b.ae.ls.length=b.aC.ls.length:=by have q9:=aI.res; simp only [bB.abs,s6] at q9; exact q9
 have jv:b.aC.ls.length≤5:=by have q9:=aI.len; simp only [bB.abs,s6] at q9; exact q9
 have jy:b.bS.ls.length≤24:=aI.ops.1
 refine fw (.pointer (some ⟨ab d,ao d+(D2 h) *9,none⟩)) (ET (oQ) rfl rfl ((aL.rds (i:=4) rfl).addr (i:=D2 h) e6) e6) (Ar rfl (Mz rfl (Kz (.pointer (some ⟨ab d,ao d+(D2 h) *9,none⟩)) (Kz (.pointer (some ⟨ab d,ao d+(D2 h) *9+8,none⟩)) (fw (vI b.dZ) (EY rfl (bZ.one C6 (((aL.rds (i:=4) rfl).elem bB.len aH f3).at_ (k:=8) rfl))) (Kz (vI (C7.wrap (b.dZ+1))) (Kz (.pointer (some ⟨ab d,ao d+(D2 h) *9,none⟩)) (Kz (.pointer (some ⟨ab d,ao d+(D2 h) *9+8,none⟩)) ?_))))))))
 have gW:=aL.pf [4]
 refine F6 (Do.storeRow (vs:= [vI (C7.wrap (b.dZ+1))]) (o:=(D2 h) *9+8) (q:=ao d+(D2 h) *9+8) gW rfl e6 rfl Tryz.sizeOf3 rfl rfl (IQ rfl) (iJ bB.len aH (IQ rfl)) (jw (y:=(bB.mk b.bq b.aW b.aH b.dw b.bS b.aC b.bF b.ae (C7.wrap (b.dZ+1)))) bB.len rfl (IQ rfl) aH) ?_)
 intro dP gX
 have bv:Own w D dP [row d a.aA.ls.length m (q6 bB.cells (u5 j (D2 h) (bB.mk b.bq b.aW b.aH b.dw b.bS b.aC b.bF b.ae (C7.wrap (b.dZ+1))))) 107 9,blk g0 [vP N 0, .slice ag p0.bE.ls.length ai] 98,row ag p0.bE.ls.length ai (q6 bA.cells Z) 42 21,sepL (q6 bA.own Z),blk N [vI a.aa.ak,vU a.aa.ax,vU a.aa.bi,vU a.aa.aI, .slice T a.aa.ag.ls.length U, .slice S a.aa.aj.ls.length Q, .slice V a.aa.aF.ls.length W,vU a.bH, .slice d a.aA.ls.length m, .bool a.aQ.aR,vU a.aQ.aH,vI a.aQ.aZ, .slice r a.aQ.ae.ls.length s, .bool a.aO.aR,vU a.aO.aH,vI a.aO.aZ, .slice u a.aO.ae.ls.length z, .bool a.aL.aR,vU a.aL.aH,vI a.aL.aZ, .slice C a.aL.ae.ls.length E, .bool a.aN.aR,vU a.aN.aH,vI a.aN.aZ, .slice G a.aN.ae.ls.length I, .bool a.aK.aR,vU a.aK.aH,vI a.aK.aZ, .slice K a.aK.ae.ls.length L,vU a.df,vU a.cu,vU a.cz,vU a.cB,vU a.cK, .pointer none] 86,sepL (q6 bB.own (u5 j (D2 h) (bB.mk b.bq b.aW b.aH b.dw b.bS b.aC b.bF b.ae (C7.wrap (b.dZ+1))))),row r a.aQ.ae.ls.length s (q6 af.cells t) 149 3,sepL (q6 af.own t),row u a.aO.ae.ls.length z (q6 af.cells B) 149 3,sepL (q6 af.own B),row C a.aL.ae.ls.length E (q6 af.cells F) 149 3,sepL (q6 af.own F),row G a.aN.ae.ls.length I (q6 af.cells J) 149 3,sepL (q6 af.own J),row K a.aK.ae.ls.length L (q6 af.cells M) 149 3,sepL (q6 af.own M)]:=by rw [AU (f:=bB.own) (y:=(bB.mk b.bq b.aW b.aH b.dw b.bS b.aC b.bF b.ae (C7.wrap (b.dZ+1)))) aH rfl]; exact gX
 have jA:s2 (u5 j (D2 h) (bB.mk b.bq b.aW b.aH b.dw b.bS b.aC b.bF b.ae (C7.wrap (b.dZ+1))))=s2 (u5 a.aA.ls (D2 h) (dH.mk b.bq b.aW b.aH b.dw (E4 b.bS.ls) (E4 (s8 bG.abs b.aC.ls)) (E4 b.bF.ls) (E4 (s8 bM.abs b.ae.ls)) (C7.wrap (b.dZ+1)))):=az (iA O rfl)
 have jB:s2 (u5 a.aA.ls (D2 h) (dH.mk b.bq b.aW b.aH b.dw (E4 b.bS.ls) (E4 (s8 bG.abs b.aC.ls)) (E4 b.bF.ls) (E4 (s8 bM.abs b.ae.ls)) (C7.wrap (b.dZ+1))))=a.aA.ls.length:=H3
 refine nt (EP (sr (Mz rfl (Kz (.pointer (some ⟨ab d,ao d+(D2 h) *9,none⟩)) (Kz (.pointer (some ⟨ab d,ao d+(D2 h) *9+8,none⟩)) ?_)))))
 obtain⟨g,P⟩:=dG (ls:=(u5 j (D2 h) (bB.mk b.bq b.aW b.aH b.dw b.bS b.aC b.bF b.ae (C7.wrap (b.dZ+1))))) (i:=D2 h) bB.len f3 (bv.rds (i:=0) rfl) e9
 have bU:=eP (iA O rfl) P
 have jC:g.bS.ls.length≤g.bS.c∧g.bS.ls.length≤9223372036854775807:=bz bv (i:=5) rfl (φ:=fun _=>_) (av (O7.2 ⟨g,E0 P,b1⟩) bn)
 have jD:g.aC.ls.length=s2 (s8 bG.abs g.aC.ls):=az (rfl:s8 bG.abs g.aC.ls=s8 bG.abs g.aC.ls)
 have jE:g.aC.ls.length≤g.aC.c∧g.aC.ls.length≤9223372036854775807:=bz bv (i:=5) rfl (φ:=fun _=>_) (av (O7.2 ⟨g,E0 P, .tail _ b1⟩) bn)
 have jG:g.bF.ls.length≤g.bF.c∧g.bF.ls.length≤9223372036854775807:=bz bv (i:=5) rfl (φ:=fun _=>_) (av (O7.2 ⟨g,E0 P, .tail _ b2⟩) bn)
 have jH:g.ae.ls.length=s2 (s8 bM.abs g.ae.ls):=az (rfl:s8 bM.abs g.ae.ls=s8 bM.abs g.ae.ls)
 have jI:g.ae.ls.length≤g.ae.c∧g.ae.ls.length≤9223372036854775807:=bz bv (i:=5) rfl (φ:=fun _=>_) (av (O7.2 ⟨g,E0 P, .tail _ b3⟩) bn)
 have aJ:Tok (bB.abs g):=xm (by first | assumption | exact Mk.act f5 | exact mD f9 (nP (x:=bB.abs b) aI f5) | exact mD f9 (pK (x:=bB.abs b) aI _)) bU
 have jJ:1≤g.aW∧g.aW≤4:=aJ.zL
 have jK:g.bF.ls.length=g.aC.ls.length:=by have q9:=aJ.yes; simp only [bB.abs,s6] at q9; exact q9
 have jL:g.ae.ls.length=g.aC.ls.length:=by have q9:=aJ.res; simp only [bB.abs,s6] at q9; exact q9
 have jM:g.aC.ls.length≤5:=by have q9:=aJ.len; simp only [bB.abs,s6] at q9; exact q9
 have jN:g.bS.ls.length≤24:=aJ.ops.1
 refine fw (vI g.dZ) (EY rfl (bZ.one C6 (((bv.rds (i:=0) rfl).elem bB.len P f3).at_ (k:=8) rfl))) (Kz (.bool (decide (g.dZ > 10))) (nt ?_))
 by_cases dn:g.dZ > 10
 refine jT (dT dn) (sr (Mz rfl (Mz rfl ?_)))
 have bV:a.aA.ls.length=s2 (u5 a.aA.ls (D2 h) (dH.mk b.bq b.aW b.aH b.dw (E4 b.bS.ls) (E4 (s8 bG.abs b.aC.ls)) (E4 b.bF.ls) (E4 (s8 bM.abs b.ae.ls)) (C7.wrap (b.dZ+1)))):=by first | omega | (simp only [H3]; done) | (simp only [H3,p5,s3,G1,p3,p4,H4]; omega)
 have gY:Own w D dP [row d (s2 (u5 a.aA.ls (D2 h) (dH.mk b.bq b.aW b.aH b.dw (E4 b.bS.ls) (E4 (s8 bG.abs b.aC.ls)) (E4 b.bF.ls) (E4 (s8 bM.abs b.ae.ls)) (C7.wrap (b.dZ+1))))) m (q6 bB.cells (u5 j (D2 h) (bB.mk b.bq b.aW b.aH b.dw b.bS b.aC b.bF b.ae (C7.wrap (b.dZ+1))))) 107 9,blk g0 [vP N 0, .slice ag p0.bE.ls.length ai] 98,row ag p0.bE.ls.length ai (q6 bA.cells Z) 42 21,sepL (q6 bA.own Z),blk N [vI a.aa.ak,vU a.aa.ax,vU a.aa.bi,vU a.aa.aI, .slice T a.aa.ag.ls.length U, .slice S a.aa.aj.ls.length Q, .slice V a.aa.aF.ls.length W,vU a.bH, .slice d (s2 (u5 a.aA.ls (D2 h) (dH.mk b.bq b.aW b.aH b.dw (E4 b.bS.ls) (E4 (s8 bG.abs b.aC.ls)) (E4 b.bF.ls) (E4 (s8 bM.abs b.ae.ls)) (C7.wrap (b.dZ+1))))) m, .bool a.aQ.aR,vU a.aQ.aH,vI a.aQ.aZ, .slice r a.aQ.ae.ls.length s, .bool a.aO.aR,vU a.aO.aH,vI a.aO.aZ, .slice u a.aO.ae.ls.length z, .bool a.aL.aR,vU a.aL.aH,vI a.aL.aZ, .slice C a.aL.ae.ls.length E, .bool a.aN.aR,vU a.aN.aH,vI a.aN.aZ, .slice G a.aN.ae.ls.length I, .bool a.aK.aR,vU a.aK.aH,vI a.aK.aZ, .slice K a.aK.ae.ls.length L,vU a.df,vU a.cu,vU a.cz,vU a.cB,vU a.cK, .pointer none] 86,sepL (q6 bB.own (u5 j (D2 h) (bB.mk b.bq b.aW b.aH b.dw b.bS b.aC b.bF b.ae (C7.wrap (b.dZ+1))))),row r a.aQ.ae.ls.length s (q6 af.cells t) 149 3,sepL (q6 af.own t),row u a.aO.ae.ls.length z (q6 af.cells B) 149 3,sepL (q6 af.own B),row C a.aL.ae.ls.length E (q6 af.cells F) 149 3,sepL (q6 af.own F),row G a.aN.ae.ls.length I (q6 af.cells J) 149 3,sepL (q6 af.own J),row K a.aK.ae.ls.length L (q6 af.cells M) 149 3,sepL (q6 af.own M)]:=by rw [← bV]; exact bv
 have ib:=gY.pf [1,2,3,4]
 obtain⟨⟨fu,aj⟩,dC⟩:∃ q:bO × aB,gz p0 h (aB.mk a.aa a.bH (E4 (u5 a.aA.ls (D2 h) (dH.mk b.bq b.aW b.aH b.dw (E4 b.bS.ls) (E4 (s8 bG.abs b.aC.ls)) (E4 b.bF.ls) (E4 (s8 bM.abs b.ae.ls)) (C7.wrap (b.dZ+1))))) a.aQ a.aO a.aL a.aN a.aK a.df a.cu a.cz a.cB a.cK)=q:=⟨_,rfl⟩
 obtain⟨j6,fA,jO,fB,jP⟩:=FY ib
 refine cl Tryz.call63 (mI _ _ g0 p0 ag ai Z h N (aB.mk a.aa a.bH (E4 (u5 a.aA.ls (D2 h) (dH.mk b.bq b.aW b.aH b.dw (E4 b.bS.ls) (E4 (s8 bG.abs b.aC.ls)) (E4 b.bF.ls) (E4 (s8 bM.abs b.ae.ls)) (C7.wrap (b.dZ+1))))) a.aQ a.aO a.aL a.aN a.aK a.df a.cu a.cz a.cB a.cK) T U S Q V W d m (u5 j (D2 h) (bB.mk b.bq b.aW b.aH b.dw b.bS b.aC b.bF b.ae (C7.wrap (b.dZ+1)))) r s t u z B C E F G I J K L M fu aj fA aS (iA O rfl) ax aA aC aD aF e8 (by first | assumption | exact Mk.act f5 | exact mD f9 (nP (x:=bB.abs b) aI f5) | exact mD f9 (pK (x:=bB.abs b) aI _) | exact mD f9 (nP (x:=bB.abs g) aJ f5) | exact mD f9 (pK (x:=bB.abs g) aJ _)) e8 dC) ?_
 rintro _ kg ⟨ic,ig,ik,il,iq,fC,iw,iy,fE,fF,fG,fH,fI,fJ,fK,fM,fO,fP,fQ,fV,fZ,rfl,gm,dE,bW,bX,bY,cu,cz,cB⟩
 have bC:=fB _ _ gm
 have iB:=az dE
 have iC:=az bW
 have iD:=az bX
 have iE:=az bY
 have iG:=az cu
 have iH:=az cz
 have iI:=az cB
 have iK:=bC.rowC (i:=1) rfl
 have iL:=bC.rowC (i:=4) rfl
 have iM:=bC.rowC (i:=6) rfl
 have iO:=bC.rowC (i:=8) rfl
 have iP:=bC.rowC (i:=10) rfl
 have iQ:=bC.rowC (i:=12) rfl
 have iR:=bC.rowC (i:=14) rfl
 refine nt (rt (tR (Fin.res (res0 rfl) ?_)))
 have gp:=bC.pf []
 obtain⟨rfl,rfl⟩:=fT (hr.symm.trans (show _=(fu,aB.mk (dA.mk aj.aa.ak aj.aa.ax aj.aa.bi aj.aa.aI (E4 a.aa.ag.ls) (E4 a.aa.aj.ls) (E4 a.aa.aF.ls)) aj.bH (E4 aj.aA.ls) aj.aQ aj.aO aj.aL aj.aN aj.aK aj.df aj.cu aj.cz aj.cB aj.cK) from et (ah bL) (et (ip bq) (et (ah (bI bT)) (et (ah (bI bU)) (et (ip dn) (ah dC)))))))
 exact⟨ic,ig,ik,il,iq,fC,iw,iy,fE,fF,fG,fH,fI,fJ,fK,fM,fO,fP,fQ,fV,fZ,(by first | rfl | (rw [← bV]; done) | (rw [← bV]; rfl)),gp,dE,bW,bX,bY,cu,cz,cB⟩
 refine jF (dF dn) (sk (EO ?_))
 have au:a.aA.ls.length=s2 (u5 a.aA.ls (D2 h) (dH.mk b.bq b.aW b.aH b.dw (E4 b.bS.ls) (E4 (s8 bG.abs b.aC.ls)) (E4 b.bF.ls) (E4 (s8 bM.abs b.ae.ls)) (C7.wrap (b.dZ+1)))):=by first | omega | (simp only [H3]; done) | (simp only [H3,p5,s3,G1,p3,p4,H4]; omega)
 have dI:Own w D dP [row d (s2 (u5 a.aA.ls (D2 h) (dH.mk b.bq b.aW b.aH b.dw (E4 b.bS.ls) (E4 (s8 bG.abs b.aC.ls)) (E4 b.bF.ls) (E4 (s8 bM.abs b.ae.ls)) (C7.wrap (b.dZ+1))))) m (q6 bB.cells (u5 j (D2 h) (bB.mk b.bq b.aW b.aH b.dw b.bS b.aC b.bF b.ae (C7.wrap (b.dZ+1))))) 107 9,blk g0 [vP N 0, .slice ag p0.bE.ls.length ai] 98,row ag p0.bE.ls.length ai (q6 bA.cells Z) 42 21,sepL (q6 bA.own Z),blk N [vI a.aa.ak,vU a.aa.ax,vU a.aa.bi,vU a.aa.aI, .slice T a.aa.ag.ls.length U, .slice S a.aa.aj.ls.length Q, .slice V a.aa.aF.ls.length W,vU a.bH, .slice d (s2 (u5 a.aA.ls (D2 h) (dH.mk b.bq b.aW b.aH b.dw (E4 b.bS.ls) (E4 (s8 bG.abs b.aC.ls)) (E4 b.bF.ls) (E4 (s8 bM.abs b.ae.ls)) (C7.wrap (b.dZ+1))))) m, .bool a.aQ.aR,vU a.aQ.aH,vI a.aQ.aZ, .slice r a.aQ.ae.ls.length s, .bool a.aO.aR,vU a.aO.aH,vI a.aO.aZ, .slice u a.aO.ae.ls.length z, .bool a.aL.aR,vU a.aL.aH,vI a.aL.aZ, .slice C a.aL.ae.ls.length E, .bool a.aN.aR,vU a.aN.aH,vI a.aN.aZ, .slice G a.aN.ae.ls.length I, .bool a.aK.aR,vU a.aK.aH,vI a.aK.aZ, .slice K a.aK.ae.ls.length L,vU a.df,vU a.cu,vU a.cz,vU a.cB,vU a.cK, .pointer none] 86,sepL (q6 bB.own (u5 j (D2 h) (bB.mk b.bq b.aW b.aH b.dw b.bS b.aC b.bF b.ae (C7.wrap (b.dZ+1))))),row r a.aQ.ae.ls.length s (q6 af.cells t) 149 3,sepL (q6 af.own t),row u a.aO.ae.ls.length z (q6 af.cells B) 149 3,sepL (q6 af.own B),row C a.aL.ae.ls.length E (q6 af.cells F) 149 3,sepL (q6 af.own F),row G a.aN.ae.ls.length I (q6 af.cells J) 149 3,sepL (q6 af.own J),row K a.aK.ae.ls.length L (q6 af.cells M) 149 3,sepL (q6 af.own M)]:=by rw [← au]; exact bv
 refine Mz rfl (Mz rfl ?_)
 refine WL.do rfl (Fe Tryz.call64 rfl ?_ (fun _ _ k=>k))
 refine cb Tryz.func64 ?_
 refine sr (Mz rfl (Kz (.pointer (some ⟨ab d,ao d+(D2 h) *9,none⟩)) (Kz (.pointer (some ⟨ab d,ao d+(D2 h) *9+5,none⟩)) (fw (.slice g.aC.A g.aC.ls.length g.aC.c) (EY rfl (bZ.one Tryz.isAgg103 (((oD au.symm (dI.rds (i:=0) rfl)).elem bB.len P f3).at_ (k:=5) rfl))) (fw (vJ (s2 (s8 bG.abs g.aC.ls))) (EQ (e:=((g.aC.ls.length:Nat):Int)) yk i9) (Mn rfl (bo ?_)))))))
 have gq:=dI.pb [2,3]
 obtain⟨gu,aW⟩:=zY fun(l:Nat) (aP:Option Addr) (aQ:Nat) (aM:List bA) (R:List bQ) (w':World)=>Own w D w' [row d (s2 (u5 a.aA.ls (D2 h) (dH.mk b.bq b.aW b.aH b.dw (E4 b.bS.ls) (E4 (s8 bG.abs b.aC.ls)) (E4 b.bF.ls) (E4 (s8 bM.abs b.ae.ls)) (C7.wrap (b.dZ+1))))) m (q6 bB.cells (u5 j (D2 h) (bB.mk b.bq b.aW b.aH b.dw b.bS b.aC b.bF b.ae (C7.wrap (b.dZ+1))))) 107 9,blk g0 [vP N 0, .slice aP R.length aQ] 98,blk N [vI a.aa.ak,vU a.aa.ax,vU a.aa.bi,vU a.aa.aI, .slice T a.aa.ag.ls.length U, .slice S a.aa.aj.ls.length Q, .slice V a.aa.aF.ls.length W,vU a.bH, .slice d (s2 (u5 a.aA.ls (D2 h) (dH.mk b.bq b.aW b.aH b.dw (E4 b.bS.ls) (E4 (s8 bG.abs b.aC.ls)) (E4 b.bF.ls) (E4 (s8 bM.abs b.ae.ls)) (C7.wrap (b.dZ+1))))) m, .bool a.aQ.aR,vU a.aQ.aH,vI a.aQ.aZ, .slice r a.aQ.ae.ls.length s, .bool a.aO.aR,vU a.aO.aH,vI a.aO.aZ, .slice u a.aO.ae.ls.length z, .bool a.aL.aR,vU a.aL.aH,vI a.aL.aZ, .slice C a.aL.ae.ls.length E, .bool a.aN.aR,vU a.aN.aH,vI a.aN.aZ, .slice G a.aN.ae.ls.length I, .bool a.aK.aR,vU a.aK.aH,vI a.aK.aZ, .slice K a.aK.ae.ls.length L,vU a.df,vU a.cu,vU a.cz,vU a.cB,vU a.cK, .pointer none] 86,sepL (q6 bB.own (u5 j (D2 h) (bB.mk b.bq b.aW b.aH b.dw b.bS b.aC b.bF b.ae (C7.wrap (b.dZ+1))))),row r a.aQ.ae.ls.length s (q6 af.cells t) 149 3,sepL (q6 af.own t),row u a.aO.ae.ls.length z (q6 af.cells B) 149 3,sepL (q6 af.own B),row C a.aL.ae.ls.length E (q6 af.cells F) 149 3,sepL (q6 af.own F),row G a.aN.ae.ls.length I (q6 af.cells J) 149 3,sepL (q6 af.own J),row K a.aK.ae.ls.length L (q6 af.cells M) 149 3,sepL (q6 af.own M),row aP R.length aQ (q6 bA.cells aM) 42 21,sepL (q6 bA.own aM)]∧s8 bA.abs aM=R∧l≤s2 (s8 bG.abs g.aC.ls)∧R.length≤p0.bE.ls.length+l∧R.length≤100000+l∧gZ a h (bB.abs b) (bB.abs g) (s2 (s8 bG.abs g.aC.ls)) 0 p0.bE.ls=gZ a h (bB.abs b) (bB.abs g) ((s2 (s8 bG.abs g.aC.ls)) - l) l R
 refine Wp.loop (fun i:Nat × (Option Addr) × Nat × (List bA) × (List bQ)=> [(11,vJ i.1),(10,vJ (s2 (s8 bG.abs g.aC.ls))),(9, .slice g.aC.A g.aC.ls.length g.aC.c),(0,vP g0 0),(1, .pointer (some ⟨ab d,ao d+(D2 h) *9,none⟩))]) gu (fun i=>(s2 (s8 bG.abs g.aC.ls)) - i.1) (0,ag,ai,Z,p0.bE.ls) ⟨rfl,rfl,rfl,rfl,rfl,trivial⟩ (aW.2 ⟨gq,by exact aS,e6,e6,e6,rfl⟩) ?_
 rintro ⟨l,aP,aQ,aM,R⟩ jQ dQ
 obtain⟨aN,aX,iT,iU,iV,bF⟩:=aW.1 dQ
 have iW:=az aX
 refine sr (Kz (.bool (decide (((l:Nat):Int) < ((s2 (s8 bG.abs g.aC.ls):Nat):Int)))) (nt (EP ?_)))
 by_cases dJ:((l:Nat):Int) < ((s2 (s8 bG.abs g.aC.ls):Nat):Int)
 refine jT (dT dJ) (sk (EP (bo (sr (Mz rfl ?_)))))
 obtain⟨p,aO⟩:=dG (ls:=g.aC.ls) (i:=l) bG.len f3 (show bD _ 3 g.aC.A g.aC.ls.length (q6 bG.cells g.aC.ls) from (bz aN (i:=3) rfl (av (O7.2 ⟨g,E0 P, .tail _ b1⟩) aT))) e9
 have bH:=eP (rfl:s8 bG.abs g.aC.ls=s8 bG.abs g.aC.ls) aO
 have iX:p.aD.ls.length≤p.aD.c∧p.aD.ls.length≤9223372036854775807:=bz aN (i:=3) rfl (φ:=fun _=>_) (av (O7.2 ⟨g,E0 P, .tail _ b4⟩) (av (O7.2 ⟨p,E0 aO,b1⟩) bn))
 have iY:p.aP.ls.length≤p.aP.c∧p.aP.ls.length≤9223372036854775807:=bz aN (i:=3) rfl (φ:=fun _=>_) (av (O7.2 ⟨g,E0 P, .tail _ b4⟩) (av (O7.2 ⟨p,E0 aO, .tail _ b1⟩) bn))
 have iZ:p.aD.ls.length≤24024:=Tok.prt aJ _ (E0 bH)
 refine fw (.pointer (some ⟨ab g.aC.A,ao g.aC.A+l *3,none⟩)) (ET (sI) rfl rfl ((show bD _ 3 g.aC.A g.aC.ls.length (q6 bG.cells g.aC.ls) from (bz aN (i:=3) rfl (av (O7.2 ⟨g,E0 P, .tail _ b1⟩) aT))).addr (i:=l) e6) e6) (fw (.agg (bG.cells p).toArray) (EY rfl (Fb (cs:=(bG.cells p)) Tryz.isAgg172 Tryz.sizeOf172 ((show bD _ 3 g.aC.A g.aC.ls.length (q6 bG.cells g.aC.ls) from (bz aN (i:=3) rfl (av (O7.2 ⟨g,E0 P, .tail _ b1⟩) aT))).elem bG.len aO f3))) ?_)
 refine dK [vI 0, .slice none 0 0, .slice none 0 0] 172 aN ?_
 intro dL jR gB
 refine Az rfl ?_
 refine dN (bG.cells p) 0 gB Tryz.sizeOf172 ?_
 intro jS aR
 refine ns (Mz rfl (Kz (.pointer (some ⟨ab d,ao d+(D2 h) *9,none⟩)) (Kz (.pointer (some ⟨ab d,ao d+(D2 h) *9+6,none⟩)) (fw (.slice g.bF.A g.bF.ls.length g.bF.c) (EY rfl (bZ.one Tryz.isAgg104 (((oD au.symm (aR.rds (i:=1) rfl)).elem bB.len P f3).at_ (k:=6) rfl))) (Mz rfl ?_)))))
 obtain⟨cK,bJ⟩:=dG (ls:=g.bF.ls) (i:=l) nV f3 (bz aR (i:=4) rfl (av (O7.2 ⟨g,E0 P, .tail _ b2⟩) aT)) e9
 refine fw (.pointer (some ⟨ab g.bF.A,ao g.bF.A+l *1,none⟩)) (ET (wU) rfl rfl ((bz aR (i:=4) rfl (av (O7.2 ⟨g,E0 P, .tail _ b2⟩) aT)).addr (i:=l) e6) e6) (fw (.bool cK) (EY rfl (bZ.one Tryz.isAgg4 (((bz aR (i:=4) rfl (av (O7.2 ⟨g,E0 P, .tail _ b2⟩) aT)).elem nV bJ f3).at_ (k:=0) rfl))) (Kz (.bool (!cK)) (nt ?_)))
 rcases IW (cK) with bE | bE
 refine jF (cn bE) (Fq (bN (ER (EO (fw (vJ (l+1)) (EQ (e:=C7.wrap (((l:Nat):Int)+1)) yk f1) (Mz rfl (WL.nil ?_)))))))
 have gD:=aR.px [] [0] []
 exact E8 (l+1,aP,aQ,aM,R) ⟨rfl,rfl,rfl,rfl,rfl,trivial⟩ (aW.2 ⟨gD,by exact aX,e6,e6,e6,et (bF) (et (congrArg (fun q=>gZ a h (bB.abs b) (bB.abs g) q l R) (qR (n:=s2 (s8 bG.abs g.aC.ls)) (i:=l) e6)) (et (ah (bI bH)) (et (ah (bI bJ)) (ip bE))))⟩) (by show (s2 (s8 bG.abs g.aC.ls)) - (l+1) < (s2 (s8 bG.abs g.aC.ls)) - l; omega)
 refine jT (cn bE) ?_
 refine oF 17 [19] (bP.block (E9 (E9 (bP.block Fp)))) aR ?_
 intro jU gF
 refine qv 0 rfl rfl (qp dL 0 1 rfl (ql 2 rfl 0 C6 rfl rfl rfl (qv 3 rfl rfl (qk (.pointer (some ⟨ab d,ao d+(D2 h) *9,none⟩)) 4 rfl (qk (.pointer (some ⟨ab d,ao d+(D2 h) *9,none⟩)) 5 rfl (qt (v:=vU g.bq) 6 rfl (fun _ ⟨_,H9⟩=>EY rfl (bZ.one Tryz.isAgg28 (((oD au.symm (H9.rds (i:=1) rfl)).elem bB.len P f3).at_ (k:=0) rfl))) (qv 7 rfl rfl (qp g0 0 8 rfl (qp g0 0 9 rfl (ql 10 rfl 2 N7 rfl rfl rfl (qv 12 rfl rfl (qk (.pointer (some ⟨ab d,ao d+(D2 h) *9,none⟩)) 13 rfl (qk (.pointer (some ⟨ab d,ao d+(D2 h) *9+3,none⟩)) 14 rfl (qt (v:=vU g.dw) 15 rfl (fun _ ⟨_,H9⟩=>EY rfl (bZ.one Tryz.isAgg28 (((oD au.symm (H9.rds (i:=1) rfl)).elem bB.len P f3).at_ (k:=3) rfl))) (qp dL 1 16 rfl (ql 17 rfl 0 Tryz.isAgg39 rfl rfl rfl ?_))))))))))))))))
 have ak:=gF.pf [3]
 have jb:=ak.rowC (i:=2) rfl
 obtain⟨bR,cO⟩:∃ q,gy (aB.mk a.aa a.bH (E4 (u5 a.aA.ls (D2 h) (dH.mk b.bq b.aW b.aH b.dw (E4 b.bS.ls) (E4 (s8 bG.abs b.aC.ls)) (E4 b.bF.ls) (E4 (s8 bM.abs b.ae.ls)) (C7.wrap (b.dZ+1))))) a.aQ a.aO a.aL a.aN a.aK a.df a.cu a.cz a.cB a.cK)=q:=⟨_,rfl⟩
 obtain⟨jV,dR,cZ,dU,Y⟩:=Fu ak
 refine qd 11 rfl (Fe Tryz.call108 rfl (nR _ _ N (aB.mk a.aa a.bH (E4 (u5 a.aA.ls (D2 h) (dH.mk b.bq b.aW b.aH b.dw (E4 b.bS.ls) (E4 (s8 bG.abs b.aC.ls)) (E4 b.bF.ls) (E4 (s8 bM.abs b.ae.ls)) (C7.wrap (b.dZ+1))))) a.aQ a.aO a.aL a.aN a.aK a.df a.cu a.cz a.cB a.cK) T U S Q aK V W d m (u5 j (D2 h) (bB.mk b.bq b.aW b.aH b.dw b.bS b.aC b.bF b.ae (C7.wrap (b.dZ+1)))) r s u z C E G I K L bR dR bf (cZ _ bS) (show a.aa.aj.ls.length≤Q∧a.aa.aj.ls.length≤9223372036854775807 from by omega) (fun x9 h9=>⟨cZ _ (bg x9 h9).1,(bg x9 h9).2⟩) (iA O rfl) (Y _ 1 _ rfl aT) (show s2 (u5 a.aA.ls (D2 h) (dH.mk b.bq b.aW b.aH b.dw (E4 b.bS.ls) (E4 (s8 bG.abs b.aC.ls)) (E4 b.bF.ls) (E4 (s8 bM.abs b.ae.ls)) (C7.wrap (b.dZ+1))))≤m∧s2 (u5 a.aA.ls (D2 h) (dH.mk b.bq b.aW b.aH b.dw (E4 b.bS.ls) (E4 (s8 bG.abs b.aC.ls)) (E4 b.bF.ls) (E4 (s8 bM.abs b.ae.ls)) (C7.wrap (b.dZ+1))))≤9223372036854775807 from by omega) (fun x9 h9=>⟨Y _ 3 _ rfl (av (O7.2 ⟨x9,h9,b1⟩) aT),bz (φ:=fun _=>_) ak (i:=4) rfl (av (O7.2 ⟨x9,h9,b1⟩) bn),Y _ 3 _ rfl (av (O7.2 ⟨x9,h9, .tail _ b1⟩) aT),bz (φ:=fun _=>_) ak (i:=4) rfl (av (O7.2 ⟨x9,h9, .tail _ b1⟩) bn),(fun y1 k1=>⟨Y _ 3 _ rfl (av (O7.2 ⟨x9,h9, .tail _ b4⟩) (av (O7.2 ⟨y1,k1,b1⟩) aT)),bz (φ:=fun _=>_) ak (i:=4) rfl (av (O7.2 ⟨x9,h9, .tail _ b4⟩) (av (O7.2 ⟨y1,k1,b1⟩) bn)),Y _ 3 _ rfl (av (O7.2 ⟨x9,h9, .tail _ b4⟩) (av (O7.2 ⟨y1,k1, .tail _ b1⟩) aT)),bz (φ:=fun _=>_) ak (i:=4) rfl (av (O7.2 ⟨x9,h9, .tail _ b4⟩) (av (O7.2 ⟨y1,k1, .tail _ b1⟩) bn))⟩),Y _ 3 _ rfl (av (O7.2 ⟨x9,h9, .tail _ b2⟩) aT),bz (φ:=fun _=>_) ak (i:=4) rfl (av (O7.2 ⟨x9,h9, .tail _ b2⟩) bn),Y _ 3 _ rfl (av (O7.2 ⟨x9,h9, .tail _ b3⟩) aT),bz (φ:=fun _=>_) ak (i:=4) rfl (av (O7.2 ⟨x9,h9, .tail _ b3⟩) bn),(fun y1 k1=>⟨Y _ 3 _ rfl (av (O7.2 ⟨x9,h9, .tail _ b5⟩) (av (O7.2 ⟨y1,k1,b1⟩) aT)),bz (φ:=fun _=>_) ak (i:=4) rfl (av (O7.2 ⟨x9,h9, .tail _ b5⟩) (av (O7.2 ⟨y1,k1,b1⟩) bn)),(fun y2 k2=>⟨Y _ 3 _ rfl (av (O7.2 ⟨x9,h9, .tail _ b5⟩) (av (O7.2 ⟨y1,k1, .tail _ b1⟩) (av (O7.2 ⟨y2,k2,b1⟩) aT))),bz (φ:=fun _=>_) ak (i:=4) rfl (av (O7.2 ⟨x9,h9, .tail _ b5⟩) (av (O7.2 ⟨y1,k1, .tail _ b1⟩) (av (O7.2 ⟨y2,k2,b1⟩) bn)))⟩)⟩)⟩) e8 cO) ?_)
 rintro _ jW ⟨rfl,dV⟩
 have gG:=dU _ _ dV
 have dM:=gG.pf [1,2,3]
 refine⟨.inr ⟨_,dM⟩, ?_⟩
 refine qk (.agg (gH 3 0 p.dU 0 0 0 0 0 g.bq bR 0 g.dw 0 0 0 false ([]) ([]) p.aD.A p.aD.ls.length p.aD.c none 0 0 none 0 0).toArray) 18 rfl ?_
 have gI:=dM.pf [2,15,16]
 obtain⟨df,dh⟩:∃ q,dB (bO.mk (E4 R)) (bQ.mk 3 0 p.dU 0 0 0 0 0 g.bq bR 0 g.dw 0 0 0 false (bK.mk ([]) ([])) (E4 p.aD.ls) (E4 ([])) (E4 ([])))=q:=⟨_,rfl⟩
 obtain⟨jX,dW,jc,dX,dY⟩:=FC gI
 refine qd 19 rfl (Fe Tryz.call65 rfl (fD _ _ g0 (bO.mk (E4 R)) aP aQ aM N (bQ.mk 3 0 p.dU 0 0 0 0 0 g.bq bR 0 g.dw 0 0 0 false (bK.mk ([]) ([])) (E4 p.aD.ls) (E4 ([])) (E4 ([]))) p.aD.A p.aD.ls.length p.aD.c none 0 0 [] none 0 0 df dW aX rfl (dY _ 3 _ rfl (av (O7.2 ⟨g,E0 P, .tail _ b4⟩) (av (O7.2 ⟨p,E0 aO,b1⟩) aT))) (show p.aD.ls.length≤p.aD.c∧p.aD.ls.length≤9223372036854775807 from by omega) rfl rfl (fun _ _=>bD.nil _ _ _) f2 (fun _ h9=>absurd h9 B3) rfl (fun _ _=>bD.nil _ _ _) f2 e8 (by first | assumption | exact dD f5 | exact fun x hx=>absurd hx B3 | exact dD (Mk.lX f5).1 | exact dD (Mk.kZ f5).1 | exact dD (Mk.ma f5).1 | exact dD (Mk.mg f5).1 | exact dD (Mk.mf f5).1) dh) ?_)
 rintro _ jY ⟨gJ,gK,gL,rfl,dZ,di,dm⟩
 have dO:=dX _ _ dZ
 have jd:=az di
 have je:=dO.rowC (i:=1) rfl
 replace dm:df.bE.ls.length=R.length+1:=dm
 refine⟨.inl e7, ?_⟩
 refine qn (bN (ER (EO (fw (vJ (l+1)) (EQ (e:=C7.wrap (((l:Nat):Int)+1)) yk f1) (Mz rfl (WL.nil ?_))))))
 have gM:=dO.px [4] [3] [1,2]
 exact E8 (l+1,gJ,gK,gL,df.bE.ls) ⟨rfl,rfl,rfl,rfl,rfl,trivial⟩ (aW.2 ⟨gM,by exact di,e6,e6,e6,et (bF) (et (congrArg (fun q=>gZ a h (bB.abs b) (bB.abs g) q l R) (qR (n:=s2 (s8 bG.abs g.aC.ls)) (i:=l) e6)) (et (ah (bI bH)) (et (ah (bI bJ)) (et (fU bE) (et (ah cO) (ah dh))))))⟩) (by show (s2 (s8 bG.abs g.aC.ls)) - (l+1) < (s2 (s8 bG.abs g.aC.ls)) - l; omega)
 refine jF (dF dJ) (Wp.exit (EX ?_))
 have d9:gZ a h (bB.abs b) (bB.abs g) (s2 (s8 bG.abs g.aC.ls)) 0 p0.bE.ls=R:=et (bF) (et (congrArg (fun q=>gZ a h (bB.abs b) (bB.abs g) q l R) (vK (n:=s2 (s8 bG.abs g.aC.ls)) (i:=l) e6)) rfl)
 refine EX (Fg (Ff (res0 rfl) (WL.nil (Ff (res0 rfl) ?_))))
 have gN:=aN.pf [1,14,15,2]
 obtain⟨rfl,rfl⟩:=fT (hr.symm.trans (show _=(bO.mk (E4 R),aB.mk a.aa a.bH (E4 (u5 a.aA.ls (D2 h) (dH.mk b.bq b.aW b.aH b.dw (E4 b.bS.ls) (E4 (s8 bG.abs b.aC.ls)) (E4 b.bF.ls) (E4 (s8 bM.abs b.ae.ls)) (C7.wrap (b.dZ+1))))) a.aQ a.aO a.aL a.aN a.aK a.df a.cu a.cz a.cB a.cK) from et (ah bL) (et (ip bq) (et (ah (bI bT)) (et (ah (bI bU)) (et (iN dn) (ah d9)))))))
 exact⟨aP,aQ,aM,d,m,(u5 j (D2 h) (bB.mk b.bq b.aW b.aH b.dw b.bS b.aC b.bF b.ae (C7.wrap (b.dZ+1)))),r,s,t,u,z,B,C,E,F,G,I,J,K,L,M,(by first | rfl | (rw [← au]; done) | (rw [← au]; rfl)),gN,aX,(iA O rfl),ax,aA,aC,aD,aF⟩
 have h34t:Bool.toNat bi=0:=by rw [bq]; rfl
 refine jT (cn bq) (rt (tR (Fin.res (res0 rfl) ?_)))
 have gP:=aL.pf []
 obtain⟨rfl,rfl⟩:=fT (hr.symm.trans (show _=(p0,a) from et (ah bL) (fU bq)))
 exact⟨ag,ai,Z,d,m,j,r,s,t,u,z,B,C,E,F,G,I,J,K,L,M,rfl,gP,aS,O,ax,aA,aC,aD,aF⟩
end Go.Proofs.YtbkagebjhbphaaaGreat
