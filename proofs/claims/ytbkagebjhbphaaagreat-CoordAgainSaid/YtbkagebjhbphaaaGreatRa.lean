/-
 record: the layers below; which states may be.
-/
import Derived.Test.YtbkagebjhbphaaaGreatKy
import Derived.Test.YtbkagebjhbphaaaGreatKl
import Derived.Test.YtbkagebjhbphaaaGreatWiX
import Derived.Test.YtbkagebjhbphaaaGreatKi
namespace Go.Proofs.YtbkagebjhbphaaaGreat
open Int renaming toNat→D2
open IntKind renaming i64→C7,u64→D3
open List renaming drop→r6,flatMap→q6,getD→C2,length→s2,length_map→s6,map→s8,mem_cons→v2,mem_of_getElem?→E0,not_mem_nil→B3,toArray→y6
open Ll renaming mk→E4
open Nat renaming le_refl→m5
open Sum renaming inl→C1,inr→C3
open _root_.Go.Proofs.Tryz renaming call39→F0,call40→E2,isAgg149→E7,isAgg28→E1,isAgg3→C6,isAgg30→D4,isAgg40→E6,isAgg58→E3,isAgg9→C4,prog→y4,sizeOf149→E8,underlying147→B7,underlying28→C0,underlying29→B9,underlying3→B4,underlying39→B1,underlying4→B8,underlying40→B6,underlying9→B5
open WL renaming nil→D0
open Wp renaming exit→D1,loop→C5
set_option maxRecDepth 100000
open Go.RowKit
set_option linter.unusedVariables false
set_option linter.unusedSectionVars false
set_option linter.unusedSimpArgs false
theorem qz:Elem y4 39 72 6 80:=kS (z:= .agg #[.int .i64 0, .string ⟨y6 ([])⟩, .string ⟨y6 ([])⟩, .string ⟨y6 ([])⟩, .string ⟨y6 ([])⟩, .int .i64 0]) B1 e7 rfl f3
structure bv where
 aG:Int
 bW:List UInt8
 aQ:List UInt8
 bG:List UInt8
 bU:List UInt8
 bS:Int
def bv.cells (x:bv):List Value:= [.int .i64 x.aG, .string ⟨y6 x.bW⟩, .string ⟨y6 x.aQ⟩, .string ⟨y6 x.bG⟩, .string ⟨y6 x.bU⟩, .int .i64 x.bS]
instance:Bk bv:=⟨fun x _=>bk x.aG+(bk x.bW+(bk x.aQ+(bk x.bG+(bk x.bU+(bk x.bS+(0))))))⟩
theorem bv.len:∀ x,(bv.cells x).length=6:=fun _=>rfl
theorem bv.one:∀ x, ∀ u ∈ bv.cells x,u.oneCell'=true:=fun x u hu=>by
 simp only [bv.cells,v2,B3,or_false] at hu
 rcases hu with rfl | rfl | rfl | rfl | rfl | rfl <;> rfl
def Ig (w:World) (x:bv):Prop:=((-9223372036854775808)≤x.aG∧x.aG≤9223372036854775807)∧(x.bW.length≤140737488351232)∧(x.aQ.length≤140737488351232)∧(x.bG.length≤140737488351232)∧(x.bU.length≤140737488351232)∧((-9223372036854775808)≤x.bS∧x.bS≤9223372036854775807)
theorem Ch (w:World):kQ y4 w 72 6 bv.cells (Ig w):=
 (mE (sz:=6) Tryz.underlying72 e7 (fH.cons (i:=0) (off:=0) (s:=1) rfl rfl (lM (k:= .i64) (lo:= -9223372036854775808) (hi:=9223372036854775807) B4 e7 f3 f3) (fH.cons (i:=1) (off:=1) (s:=1) rfl rfl (kr B5 e7) (fH.cons (i:=2) (off:=2) (s:=1) rfl rfl (kr B5 e7) (fH.cons (i:=3) (off:=3) (s:=1) rfl rfl (kr B5 e7) (fH.cons (i:=4) (off:=4) (s:=1) rfl rfl (kr B5 e7) (fH.cons (i:=5) (off:=5) (s:=1) rfl rfl (lM (k:= .i64) (lo:= -9223372036854775808) (hi:=9223372036854775807) B4 e7 f3 f3) fH.nil))))))).map (fun p=>⟨p.1,p.2.1,p.2.2.1,p.2.2.2.1,p.2.2.2.2.1,p.2.2.2.2.2.1⟩) bv.len (fun _=>rfl) (fun _ h=>⟨h.1,h.2.1,h.2.2.1,h.2.2.2.1,h.2.2.2.2.1,h.2.2.2.2.2.1⟩) fun _=>m5 _
instance:Inhabited bv:=⟨⟨default,default,default,default,default,default⟩⟩
theorem nk:Elem y4 58 3 1 8:=kS (z:= .int .i64 0) Tryz.underlying58 e7 rfl f3
structure bD where
 dV:Int
 aF:Sv bv
 aH:Sv Int
def bD.cells (x:bD):List Value:= [.int .i64 x.dV, .slice x.aF.A x.aF.ls.length x.aF.c, .slice x.aH.A x.aH.ls.length x.aH.c]
instance:Bk bD:=⟨fun x _=>bk x.dV+(bk x.aF+(bk x.aH+(0)))⟩
theorem bD.len:∀ x,(bD.cells x).length=3:=fun _=>rfl
theorem bD.one:∀ x, ∀ u ∈ bD.cells x,u.oneCell'=true:=fun x u hu=>by
 simp only [bD.cells,v2,B3,or_false] at hu
 rcases hu with rfl | rfl | rfl <;> rfl
def Jm (w:World) (x:bD):Prop:=((-9223372036854775808)≤x.dV∧x.dV≤9223372036854775807)∧(lZ w 6 80 bv.cells (Ig w) x.aF)∧(lZ w 1 8 (eI .i64) (fun n=>(-9223372036854775808)≤n∧n≤9223372036854775807) x.aH)
instance:Inhabited bD:=⟨⟨default,default,default⟩⟩
structure gq where
 dV:Int
 aF:Ll bv
 aH:Ll Int
instance:Inhabited gq:=⟨⟨default,default,default⟩⟩
def bD.abs (x:bD):gq:=⟨x.dV,⟨x.aF.ls⟩,⟨x.aH.ls⟩⟩
def bD.own (x:bD):List HP:= [row x.aF.A x.aF.ls.length x.aF.c (q6 bv.cells x.aF.ls) 72 6,row x.aH.A x.aH.ls.length x.aH.c (q6 (eI .i64) x.aH.ls) 3 1]
theorem FD:Elem y4 22 44 25 272:=kS (z:= .agg #[.int .i64 0, .int .i64 0, .int .i64 0, .int .i64 0, .int .i64 0, .int .i64 0, .int .i64 0, .int .i64 0, .int .u64 0, .int .u64 0, .int .u64 0, .int .u64 0, .int .u64 0, .int .u64 0, .int .u64 0, .int .u64 0, .int .u64 0, .bool false, .string ⟨y6 ([])⟩, .string ⟨y6 ([])⟩, .slice none 0 0, .slice none 0 0, .slice none 0 0, .bool false, .string ⟨y6 ([])⟩]) Tryz.underlying22 e7 rfl f3
structure bI where
 bG:List UInt8
 bU:List UInt8
def bI.cells (x:bI):List Value:= [.string ⟨y6 x.bG⟩, .string ⟨y6 x.bU⟩]
instance:Bk bI:=⟨fun x _=>bk x.bG+(bk x.bU+(0))⟩
theorem bI.len:∀ x,(bI.cells x).length=2:=fun _=>rfl
theorem bI.one:∀ x, ∀ u ∈ bI.cells x,u.oneCell'=true:=fun x u hu=>by
 simp only [bI.cells,v2,B3,or_false] at hu
 rcases hu with rfl | rfl <;> rfl
def IA (w:World) (x:bI):Prop:=(x.bG.length≤140737488351232)∧(x.bU.length≤140737488351232)
theorem zM (w:World):kQ y4 w 38 2 bI.cells (IA w):=
 (mE (sz:=2) Tryz.underlying38 e7 (fH.cons (i:=0) (off:=0) (s:=1) rfl rfl (kr B5 e7) (fH.cons (i:=1) (off:=1) (s:=1) rfl rfl (kr B5 e7) fH.nil))).map (fun p=>⟨p.1,p.2.1⟩) bI.len (fun _=>rfl) (fun _ h=>⟨h.1,h.2.1⟩) fun _=>m5 _
instance:Inhabited bI:=⟨⟨default,default⟩⟩
theorem rR:Elem y4 40 149 3 48:=kS (z:= .agg #[.bool false, .string ⟨y6 ([])⟩, .slice none 0 0]) B6 e7 rfl f3
theorem jO:Elem y4 147 153 2 32:=kS (z:= .agg #[.string ⟨y6 ([])⟩, .string ⟨y6 ([])⟩]) B7 e7 rfl f3
structure aI where
 bW:List UInt8
 aQ:List UInt8
def aI.cells (x:aI):List Value:= [.string ⟨y6 x.bW⟩, .string ⟨y6 x.aQ⟩]
instance:Bk aI:=⟨fun x _=>bk x.bW+(bk x.aQ+(0))⟩
theorem aI.len:∀ x,(aI.cells x).length=2:=fun _=>rfl
theorem aI.one:∀ x, ∀ u ∈ aI.cells x,u.oneCell'=true:=fun x u hu=>by
 simp only [aI.cells,v2,B3,or_false] at hu
 rcases hu with rfl | rfl <;> rfl
def IM (w:World) (x:aI):Prop:=(x.bW.length≤140737488351232)∧(x.aQ.length≤140737488351232)
theorem Ay (w:World):kQ y4 w 153 2 aI.cells (IM w):=
 (mE (sz:=2) Tryz.underlying153 e7 (fH.cons (i:=0) (off:=0) (s:=1) rfl rfl (kr B5 e7) (fH.cons (i:=1) (off:=1) (s:=1) rfl rfl (kr B5 e7) fH.nil))).map (fun p=>⟨p.1,p.2.1⟩) aI.len (fun _=>rfl) (fun _ h=>⟨h.1,h.2.1⟩) fun _=>m5 _
instance:Inhabited aI:=⟨⟨default,default⟩⟩
structure ae where
 dZ:Bool
 aQ:List UInt8
 aj:Sv aI
def ae.cells (x:ae):List Value:= [.bool x.dZ, .string ⟨y6 x.aQ⟩, .slice x.aj.A x.aj.ls.length x.aj.c]
instance:Bk ae:=⟨fun x _=>bk x.dZ+(bk x.aQ+(bk x.aj+(0)))⟩
theorem ae.len:∀ x,(ae.cells x).length=3:=fun _=>rfl
theorem ae.one:∀ x, ∀ u ∈ ae.cells x,u.oneCell'=true:=fun x u hu=>by
 simp only [ae.cells,v2,B3,or_false] at hu
 rcases hu with rfl | rfl | rfl <;> rfl
def G9 (w:World) (x:ae):Prop:=(True)∧(x.aQ.length≤140737488351232)∧(lZ w 2 32 aI.cells (IM w) x.aj)
theorem yU (w:World):kQ y4 w 149 3 ae.cells (G9 w):=
 (mE (sz:=3) Tryz.underlying149 e7 (fH.cons (i:=0) (off:=0) (s:=1) rfl rfl (uB B8 e7) (fH.cons (i:=1) (off:=1) (s:=1) rfl rfl (kr B5 e7) (fH.cons (i:=2) (off:=2) (s:=1) rfl rfl (pI (bytes:=32) B7 e7 e7 f3 (Ay w)) fH.nil)))).map (fun p=>⟨p.1,p.2.1,p.2.2.1⟩) ae.len (fun _=>rfl) (fun _ h=>⟨h.1,h.2.1,h.2.2.1⟩) fun _=>m5 _
instance:Inhabited ae:=⟨⟨default,default,default⟩⟩
structure aS where
 dZ:Bool
 aQ:List UInt8
 aj:Ll aI
instance:Inhabited aS:=⟨⟨default,default,default⟩⟩
def ae.abs (x:ae):aS:=⟨x.dZ,x.aQ,⟨x.aj.ls⟩⟩
def ae.own (x:ae):List HP:= [row x.aj.A x.aj.ls.length x.aj.c (q6 aI.cells x.aj.ls) 153 2]
theorem qA:Elem y4 29 89 2 24:=kS (z:= .agg #[.string ⟨y6 ([])⟩, .int .i64 0]) B9 e7 rfl f3
structure aW where
 bG:List UInt8
 dV:Int
def aW.cells (x:aW):List Value:= [.string ⟨y6 x.bG⟩, .int .i64 x.dV]
instance:Bk aW:=⟨fun x _=>bk x.bG+(bk x.dV+(0))⟩
theorem aW.len:∀ x,(aW.cells x).length=2:=fun _=>rfl
theorem aW.one:∀ x, ∀ u ∈ aW.cells x,u.oneCell'=true:=fun x u hu=>by
 simp only [aW.cells,v2,B3,or_false] at hu
 rcases hu with rfl | rfl <;> rfl
def Ih (w:World) (x:aW):Prop:=(x.bG.length≤140737488351232)∧((-9223372036854775808)≤x.dV∧x.dV≤9223372036854775807)
theorem zN (w:World):kQ y4 w 89 2 aW.cells (Ih w):=
 (mE (sz:=2) Tryz.underlying89 e7 (fH.cons (i:=0) (off:=0) (s:=1) rfl rfl (kr B5 e7) (fH.cons (i:=1) (off:=1) (s:=1) rfl rfl (lM (k:= .i64) (lo:= -9223372036854775808) (hi:=9223372036854775807) B4 e7 f3 f3) fH.nil))).map (fun p=>⟨p.1,p.2.1⟩) aW.len (fun _=>rfl) (fun _ h=>⟨h.1,h.2.1⟩) fun _=>m5 _
instance:Inhabited aW:=⟨⟨default,default⟩⟩
structure bC where
 aG:Int
 aH:Int
 eP:Int
 aN:Int
 cZ:Int
 eu:Int
 aO:Nat
 ay:Nat
 aU:Nat
 dW:Nat
 aX:Nat
 aL:Nat
 dH:Nat
 bZ:Nat
 xN:Nat
 d9:Bool
 bT:bI
 aF:Sv bv
 ah:Sv ae
 ag:Sv aW
def bC.cells (x:bC):List Value:= [.int .i64 x.aG, .int .i64 x.aH, .int .i64 x.eP, .int .i64 x.aN, .int .i64 x.cZ, .int .i64 x.eu, .int .u64 ((x.aO:Nat):Int), .int .u64 ((x.ay:Nat):Int), .int .u64 ((x.aU:Nat):Int), .int .u64 ((x.dW:Nat):Int), .int .u64 ((x.aX:Nat):Int), .int .u64 ((x.aL:Nat):Int), .int .u64 ((x.dH:Nat):Int), .int .u64 ((x.bZ:Nat):Int), .int .u64 ((x.xN:Nat):Int), .bool x.d9, .string ⟨y6 x.bT.bG⟩, .string ⟨y6 x.bT.bU⟩, .slice x.aF.A x.aF.ls.length x.aF.c, .slice x.ah.A x.ah.ls.length x.ah.c, .slice x.ag.A x.ag.ls.length x.ag.c]
instance:Bk bC:=⟨fun x _=>bk x.aG+(bk x.aH+(bk x.eP+(bk x.aN+(bk x.cZ+(bk x.eu+(bk x.aO+(bk x.ay+(bk x.aU+(bk x.dW+(bk x.aX+(bk x.aL+(bk x.dH+(bk x.bZ+(bk x.xN+(bk x.d9+(bk x.bT+(bk x.aF+(bk x.ah+(bk x.ag+(0))))))))))))))))))))⟩
theorem bC.len:∀ x,(bC.cells x).length=21:=fun _=>rfl
theorem bC.one:∀ x, ∀ u ∈ bC.cells x,u.oneCell'=true:=fun x u hu=>by
 simp only [bC.cells,v2,B3,or_false] at hu
 rcases hu with rfl | rfl | rfl | rfl | rfl | rfl | rfl | rfl | rfl | rfl | rfl | rfl | rfl | rfl | rfl | rfl | rfl | rfl | rfl | rfl | rfl <;> rfl
def Iq (w:World) (x:bC):Prop:=((-9223372036854775808)≤x.aG∧x.aG≤9223372036854775807)∧((-9223372036854775808)≤x.aH∧x.aH≤9223372036854775807)∧((-9223372036854775808)≤x.eP∧x.eP≤9223372036854775807)∧((-9223372036854775808)≤x.aN∧x.aN≤9223372036854775807)∧((-9223372036854775808)≤x.cZ∧x.cZ≤9223372036854775807)∧((-9223372036854775808)≤x.eu∧x.eu≤9223372036854775807)∧(x.aO≤18446744073709551615)∧(x.ay≤18446744073709551615)∧(x.aU≤18446744073709551615)∧(x.dW≤18446744073709551615)∧(x.aX≤18446744073709551615)∧(x.aL≤18446744073709551615)∧(x.dH≤18446744073709551615)∧(x.bZ≤18446744073709551615)∧(x.xN≤18446744073709551615)∧(True)∧(IA w x.bT)∧(lZ w 6 80 bv.cells (Ig w) x.aF)∧(lZ w 3 48 ae.cells (G9 w) x.ah)∧(lZ w 2 24 aW.cells (Ih w) x.ag)
theorem BD (w:World):kQ y4 w 42 21 bC.cells (Iq w):=
 (mE (sz:=21) Tryz.underlying42 e7 (fH.cons (i:=0) (off:=0) (s:=1) rfl rfl (lM (k:= .i64) (lo:= -9223372036854775808) (hi:=9223372036854775807) B4 e7 f3 f3) (fH.cons (i:=1) (off:=1) (s:=1) rfl rfl (lM (k:= .i64) (lo:= -9223372036854775808) (hi:=9223372036854775807) B4 e7 f3 f3) (fH.cons (i:=2) (off:=2) (s:=1) rfl rfl (lM (k:= .i64) (lo:= -9223372036854775808) (hi:=9223372036854775807) B4 e7 f3 f3) (fH.cons (i:=3) (off:=3) (s:=1) rfl rfl (lM (k:= .i64) (lo:= -9223372036854775808) (hi:=9223372036854775807) B4 e7 f3 f3) (fH.cons (i:=4) (off:=4) (s:=1) rfl rfl (lM (k:= .i64) (lo:= -9223372036854775808) (hi:=9223372036854775807) B4 e7 f3 f3) (fH.cons (i:=5) (off:=5) (s:=1) rfl rfl (lM (k:= .i64) (lo:= -9223372036854775808) (hi:=9223372036854775807) B4 e7 f3 f3) (fH.cons (i:=6) (off:=6) (s:=1) rfl rfl (mY (k:= .u64) (hi:=18446744073709551615) C0 e7 f3 f3) (fH.cons (i:=7) (off:=7) (s:=1) rfl rfl (mY (k:= .u64) (hi:=18446744073709551615) C0 e7 f3 f3) (fH.cons (i:=8) (off:=8) (s:=1) rfl rfl (mY (k:= .u64) (hi:=18446744073709551615) C0 e7 f3 f3) (fH.cons (i:=9) (off:=9) (s:=1) rfl rfl (mY (k:= .u64) (hi:=18446744073709551615) C0 e7 f3 f3) (fH.cons (i:=10) (off:=10) (s:=1) rfl rfl (mY (k:= .u64) (hi:=18446744073709551615) C0 e7 f3 f3) (fH.cons (i:=11) (off:=11) (s:=1) rfl rfl (mY (k:= .u64) (hi:=18446744073709551615) C0 e7 f3 f3) (fH.cons (i:=12) (off:=12) (s:=1) rfl rfl (mY (k:= .u64) (hi:=18446744073709551615) C0 e7 f3 f3) (fH.cons (i:=13) (off:=13) (s:=1) rfl rfl (mY (k:= .u64) (hi:=18446744073709551615) C0 e7 f3 f3) (fH.cons (i:=14) (off:=14) (s:=1) rfl rfl (mY (k:= .u64) (hi:=18446744073709551615) C0 e7 f3 f3) (fH.cons (i:=15) (off:=15) (s:=1) rfl rfl (uB B8 e7) (fH.cons (i:=16) (off:=16) (s:=2) rfl rfl (zM w) (fH.cons (i:=17) (off:=18) (s:=1) rfl rfl (pI (bytes:=80) B1 e7 e7 f3 (Ch w)) (fH.cons (i:=18) (off:=19) (s:=1) rfl rfl (pI (bytes:=48) B6 e7 e7 f3 (yU w)) (fH.cons (i:=19) (off:=20) (s:=1) rfl rfl (pI (bytes:=24) B9 e7 e7 f3 (zN w)) fH.nil))))))))))))))))))))).map (fun p=>⟨p.1,p.2.1,p.2.2.1,p.2.2.2.1,p.2.2.2.2.1,p.2.2.2.2.2.1,p.2.2.2.2.2.2.1,p.2.2.2.2.2.2.2.1,p.2.2.2.2.2.2.2.2.1,p.2.2.2.2.2.2.2.2.2.1,p.2.2.2.2.2.2.2.2.2.2.1,p.2.2.2.2.2.2.2.2.2.2.2.1,p.2.2.2.2.2.2.2.2.2.2.2.2.1,p.2.2.2.2.2.2.2.2.2.2.2.2.2.1,p.2.2.2.2.2.2.2.2.2.2.2.2.2.2.1,p.2.2.2.2.2.2.2.2.2.2.2.2.2.2.2.1,p.2.2.2.2.2.2.2.2.2.2.2.2.2.2.2.2.1,p.2.2.2.2.2.2.2.2.2.2.2.2.2.2.2.2.2.1,p.2.2.2.2.2.2.2.2.2.2.2.2.2.2.2.2.2.2.1,p.2.2.2.2.2.2.2.2.2.2.2.2.2.2.2.2.2.2.2.1⟩) bC.len (fun _=>rfl) (fun _ h=>⟨h.1,h.2.1,h.2.2.1,h.2.2.2.1,h.2.2.2.2.1,h.2.2.2.2.2.1,h.2.2.2.2.2.2.1,h.2.2.2.2.2.2.2.1,h.2.2.2.2.2.2.2.2.1,h.2.2.2.2.2.2.2.2.2.1,h.2.2.2.2.2.2.2.2.2.2.1,h.2.2.2.2.2.2.2.2.2.2.2.1,h.2.2.2.2.2.2.2.2.2.2.2.2.1,h.2.2.2.2.2.2.2.2.2.2.2.2.2.1,h.2.2.2.2.2.2.2.2.2.2.2.2.2.2.1,h.2.2.2.2.2.2.2.2.2.2.2.2.2.2.2.1,h.2.2.2.2.2.2.2.2.2.2.2.2.2.2.2.2.1,h.2.2.2.2.2.2.2.2.2.2.2.2.2.2.2.2.2.1,h.2.2.2.2.2.2.2.2.2.2.2.2.2.2.2.2.2.2.1,h.2.2.2.2.2.2.2.2.2.2.2.2.2.2.2.2.2.2.2.1⟩) fun _=>m5 _
instance:Inhabited bC:=⟨⟨default,default,default,default,default,default,default,default,default,default,default,default,default,default,default,default,default,default,default,default⟩⟩
structure bM where
 aG:Int
 aH:Int
 eP:Int
 aN:Int
 cZ:Int
 eu:Int
 aO:Nat
 ay:Nat
 aU:Nat
 dW:Nat
 aX:Nat
 aL:Nat
 dH:Nat
 bZ:Nat
 xN:Nat
 d9:Bool
 bT:bI
 aF:Ll bv
 ah:Ll aS
 ag:Ll aW
instance:Inhabited bM:=⟨⟨default,default,default,default,default,default,default,default,default,default,default,default,default,default,default,default,default,default,default,default⟩⟩
def bC.abs (x:bC):bM:=⟨x.aG,x.aH,x.eP,x.aN,x.cZ,x.eu,x.aO,x.ay,x.aU,x.dW,x.aX,x.aL,x.dH,x.bZ,x.xN,x.d9,x.bT,⟨x.aF.ls⟩,⟨s8 ae.abs x.ah.ls⟩,⟨x.ag.ls⟩⟩
def bC.own (x:bC):List HP:= [row x.aF.A x.aF.ls.length x.aF.c (q6 bv.cells x.aF.ls) 72 6,row x.ah.A x.ah.ls.length x.ah.c (q6 ae.cells x.ah.ls) 149 3,row x.ag.A x.ag.ls.length x.ag.c (q6 aW.cells x.ag.ls) 89 2,sepL (q6 ae.own x.ah.ls)]
abbrev gD (r:Int) (s:Int) (t:Int) (u:Int) (v:Int) (w:Int) (x:Nat) (y:Nat) (z:Nat) (A:Nat) (g:Nat) (h:Nat) (i:Nat) (j:Nat) (k:Nat) (l:Bool) (m:List UInt8) (n:List UInt8) (o:Option Addr) (a b:Nat) (p:Option Addr) (c d:Nat) (q:Option Addr) (e f:Nat):List Value:= [.int .i64 r, .int .i64 s, .int .i64 t, .int .i64 u, .int .i64 v, .int .i64 w, .int .u64 ((x:Nat):Int), .int .u64 ((y:Nat):Int), .int .u64 ((z:Nat):Int), .int .u64 ((A:Nat):Int), .int .u64 ((g:Nat):Int), .int .u64 ((h:Nat):Int), .int .u64 ((i:Nat):Int), .int .u64 ((j:Nat):Int), .int .u64 ((k:Nat):Int), .bool l, .string ⟨y6 m⟩, .string ⟨y6 n⟩, .slice o a b, .slice p c d, .slice q e f]
abbrev gT (x:bM) (a:Option Addr) (b:Nat) (c:Option Addr) (d:Nat) (e:Option Addr) (f:Nat):List Value:= [.int .i64 x.aG, .int .i64 x.aH, .int .i64 x.eP, .int .i64 x.aN, .int .i64 x.cZ, .int .i64 x.eu, .int .u64 ((x.aO:Nat):Int), .int .u64 ((x.ay:Nat):Int), .int .u64 ((x.aU:Nat):Int), .int .u64 ((x.dW:Nat):Int), .int .u64 ((x.aX:Nat):Int), .int .u64 ((x.aL:Nat):Int), .int .u64 ((x.dH:Nat):Int), .int .u64 ((x.bZ:Nat):Int), .int .u64 ((x.xN:Nat):Int), .bool x.d9, .string ⟨y6 x.bT.bG⟩, .string ⟨y6 x.bT.bU⟩, .slice a x.aF.ls.length b, .slice c x.ah.ls.length d, .slice e x.ag.ls.length f]
structure fU where
 kX:Int
 eP:Int
 aC:bC
 ed:Bool
 bW:List UInt8
def fU.cells (x:fU):List Value:= [.int .i64 x.kX, .int .i64 x.eP, .int .i64 x.aC.aG, .int .i64 x.aC.aH, .int .i64 x.aC.eP, .int .i64 x.aC.aN, .int .i64 x.aC.cZ, .int .i64 x.aC.eu, .int .u64 ((x.aC.aO:Nat):Int), .int .u64 ((x.aC.ay:Nat):Int), .int .u64 ((x.aC.aU:Nat):Int), .int .u64 ((x.aC.dW:Nat):Int), .int .u64 ((x.aC.aX:Nat):Int), .int .u64 ((x.aC.aL:Nat):Int), .int .u64 ((x.aC.dH:Nat):Int), .int .u64 ((x.aC.bZ:Nat):Int), .int .u64 ((x.aC.xN:Nat):Int), .bool x.aC.d9, .string ⟨y6 x.aC.bT.bG⟩, .string ⟨y6 x.aC.bT.bU⟩, .slice x.aC.aF.A x.aC.aF.ls.length x.aC.aF.c, .slice x.aC.ah.A x.aC.ah.ls.length x.aC.ah.c, .slice x.aC.ag.A x.aC.ag.ls.length x.aC.ag.c, .bool x.ed, .string ⟨y6 x.bW⟩]
instance:Bk fU:=⟨fun x _=>bk x.kX+(bk x.eP+(bk x.aC+(bk x.ed+(bk x.bW+(0)))))⟩
theorem fU.len:∀ x,(fU.cells x).length=25:=fun _=>rfl
theorem fU.one:∀ x, ∀ u ∈ fU.cells x,u.oneCell'=true:=fun x u hu=>by
 simp only [fU.cells,v2,B3,or_false] at hu
 rcases hu with rfl | rfl | rfl | rfl | rfl | rfl | rfl | rfl | rfl | rfl | rfl | rfl | rfl | rfl | rfl | rfl | rfl | rfl | rfl | rfl | rfl | rfl | rfl | rfl | rfl <;> rfl
def HY (w:World) (x:fU):Prop:=((-9223372036854775808)≤x.kX∧x.kX≤9223372036854775807)∧((-9223372036854775808)≤x.eP∧x.eP≤9223372036854775807)∧(Iq w x.aC)∧(True)∧(x.bW.length≤140737488351232)
theorem AA (w:World):kQ y4 w 44 25 fU.cells (HY w):=
 (mE (sz:=25) Tryz.underlying44 e7 (fH.cons (i:=0) (off:=0) (s:=1) rfl rfl (lM (k:= .i64) (lo:= -9223372036854775808) (hi:=9223372036854775807) B4 e7 f3 f3) (fH.cons (i:=1) (off:=1) (s:=1) rfl rfl (lM (k:= .i64) (lo:= -9223372036854775808) (hi:=9223372036854775807) B4 e7 f3 f3) (fH.cons (i:=2) (off:=2) (s:=21) rfl rfl (BD w) (fH.cons (i:=3) (off:=23) (s:=1) rfl rfl (uB B8 e7) (fH.cons (i:=4) (off:=24) (s:=1) rfl rfl (kr B5 e7) fH.nil)))))).map (fun p=>⟨p.1,p.2.1,p.2.2.1,p.2.2.2.1,p.2.2.2.2.1⟩) fU.len (fun _=>rfl) (fun _ h=>⟨h.1,h.2.1,h.2.2.1,h.2.2.2.1,h.2.2.2.2.1⟩) fun _=>m5 _
instance:Inhabited fU:=⟨⟨default,default,default,default,default⟩⟩
structure StepT where
 kX:Int
 eP:Int
 aC:bM
 ed:Bool
 bW:List UInt8
instance:Inhabited StepT:=⟨⟨default,default,default,default,default⟩⟩
def fU.abs (x:fU):StepT:=⟨x.kX,x.eP,x.aC.abs,x.ed,x.bW⟩
def fU.own (x:fU):List HP:= [row x.aC.aF.A x.aC.aF.ls.length x.aC.aF.c (q6 bv.cells x.aC.aF.ls) 72 6,row x.aC.ah.A x.aC.ah.ls.length x.aC.ah.c (q6 ae.cells x.aC.ah.ls) 149 3,row x.aC.ag.A x.aC.ag.ls.length x.aC.ag.c (q6 aW.cells x.aC.ag.ls) 89 2,sepL (q6 ae.own x.aC.ah.ls)]
abbrev Fe (v:Int) (w:Int) (x:Int) (y:Int) (z:Int) (A:Int) (B:Int) (C:Int) (D:Nat) (E:Nat) (g:Nat) (h:Nat) (i:Nat) (j:Nat) (k:Nat) (l:Nat) (m:Nat) (n:Bool) (o:List UInt8) (p:List UInt8) (q:Option Addr) (a b:Nat) (r:Option Addr) (c d:Nat) (s:Option Addr) (e f:Nat) (t:Bool) (u:List UInt8):List Value:= [.int .i64 v, .int .i64 w, .int .i64 x, .int .i64 y, .int .i64 z, .int .i64 A, .int .i64 B, .int .i64 C, .int .u64 ((D:Nat):Int), .int .u64 ((E:Nat):Int), .int .u64 ((g:Nat):Int), .int .u64 ((h:Nat):Int), .int .u64 ((i:Nat):Int), .int .u64 ((j:Nat):Int), .int .u64 ((k:Nat):Int), .int .u64 ((l:Nat):Int), .int .u64 ((m:Nat):Int), .bool n, .string ⟨y6 o⟩, .string ⟨y6 p⟩, .slice q a b, .slice r c d, .slice s e f, .bool t, .string ⟨y6 u⟩]
theorem lN:Elem y4 31 56 4 48:=kS (z:= .agg #[.int .i64 0, .int .u64 0, .int .u64 0, .slice none 0 0]) Tryz.underlying31 e7 rfl f3
structure aT where
 aN:Int
 ay:Nat
 aO:Nat
 ah:Sv ae
def aT.cells (x:aT):List Value:= [.int .i64 x.aN, .int .u64 ((x.ay:Nat):Int), .int .u64 ((x.aO:Nat):Int), .slice x.ah.A x.ah.ls.length x.ah.c]
instance:Bk aT:=⟨fun x _=>bk x.aN+(bk x.ay+(bk x.aO+(bk x.ah+(0))))⟩
theorem aT.len:∀ x,(aT.cells x).length=4:=fun _=>rfl
theorem aT.one:∀ x, ∀ u ∈ aT.cells x,u.oneCell'=true:=fun x u hu=>by
 simp only [aT.cells,v2,B3,or_false] at hu
 rcases hu with rfl | rfl | rfl | rfl <;> rfl
def Jn (w:World) (x:aT):Prop:=((-9223372036854775808)≤x.aN∧x.aN≤9223372036854775807)∧(x.ay≤18446744073709551615)∧(x.aO≤18446744073709551615)∧(lZ w 3 48 ae.cells (G9 w) x.ah)
instance:Inhabited aT:=⟨⟨default,default,default,default⟩⟩
structure fE where
 aN:Int
 ay:Nat
 aO:Nat
 ah:Ll aS
instance:Inhabited fE:=⟨⟨default,default,default,default⟩⟩
def aT.abs (x:aT):fE:=⟨x.aN,x.ay,x.aO,⟨s8 ae.abs x.ah.ls⟩⟩
def aT.own (x:aT):List HP:= [row x.ah.A x.ah.ls.length x.ah.c (q6 ae.cells x.ah.ls) 149 3,sepL (q6 ae.own x.ah.ls)]
theorem kG:Elem y4 30 60 5 56:=kS (z:= .agg #[.int .u64 0, .int .i64 0, .int .u64 0, .int .u64 0, .slice none 0 0]) Tryz.underlying30 e7 rfl f3
structure aA where
 aU:Nat
 aN:Int
 ay:Nat
 aO:Nat
 av:Sv Int
def aA.cells (x:aA):List Value:= [.int .u64 ((x.aU:Nat):Int), .int .i64 x.aN, .int .u64 ((x.ay:Nat):Int), .int .u64 ((x.aO:Nat):Int), .slice x.av.A x.av.ls.length x.av.c]
instance:Bk aA:=⟨fun x _=>bk x.aU+(bk x.aN+(bk x.ay+(bk x.aO+(bk x.av+(0)))))⟩
theorem aA.len:∀ x,(aA.cells x).length=5:=fun _=>rfl
theorem aA.one:∀ x, ∀ u ∈ aA.cells x,u.oneCell'=true:=fun x u hu=>by
 simp only [aA.cells,v2,B3,or_false] at hu
 rcases hu with rfl | rfl | rfl | rfl | rfl <;> rfl
def IP (w:World) (x:aA):Prop:=(x.aU≤18446744073709551615)∧((-9223372036854775808)≤x.aN∧x.aN≤9223372036854775807)∧(x.ay≤18446744073709551615)∧(x.aO≤18446744073709551615)∧(lZ w 1 8 (eI .i64) (fun n=>(-9223372036854775808)≤n∧n≤9223372036854775807) x.av)
instance:Inhabited aA:=⟨⟨default,default,default,default,default⟩⟩
structure bJ where
 aU:Nat
 aN:Int
 ay:Nat
 aO:Nat
 av:Ll Int
instance:Inhabited bJ:=⟨⟨default,default,default,default,default⟩⟩
def aA.abs (x:aA):bJ:=⟨x.aU,x.aN,x.ay,x.aO,⟨x.av.ls⟩⟩
def aA.own (x:aA):List HP:= [row x.av.A x.av.ls.length x.av.c (q6 (eI .i64) x.av.ls) 3 1]
structure mF where
 av:Int
 ay:Nat
 aX:Nat
 aL:Nat
 ag:Sv aW
 ak:Sv aA
 aJ:Sv aT
def mF.cells (x:mF):List Value:= [.int .i64 x.av, .int .u64 ((x.ay:Nat):Int), .int .u64 ((x.aX:Nat):Int), .int .u64 ((x.aL:Nat):Int), .slice x.ag.A x.ag.ls.length x.ag.c, .slice x.ak.A x.ak.ls.length x.ak.c, .slice x.aJ.A x.aJ.ls.length x.aJ.c]
instance:Bk mF:=⟨fun x _=>bk x.av+(bk x.ay+(bk x.aX+(bk x.aL+(bk x.ag+(bk x.ak+(bk x.aJ+(0)))))))⟩
theorem mF.len:∀ x,(mF.cells x).length=7:=fun _=>rfl
theorem mF.one:∀ x, ∀ u ∈ mF.cells x,u.oneCell'=true:=fun x u hu=>by
 simp only [mF.cells,v2,B3,or_false] at hu
 rcases hu with rfl | rfl | rfl | rfl | rfl | rfl | rfl <;> rfl
def JD (w:World) (x:mF):Prop:=((-9223372036854775808)≤x.av∧x.av≤9223372036854775807)∧(x.ay≤18446744073709551615)∧(x.aX≤18446744073709551615)∧(x.aL≤18446744073709551615)∧(lZ w 2 24 aW.cells (Ih w) x.ag)∧(lZ w 5 56 aA.cells (IP w) x.ak)∧(lZ w 4 48 aT.cells (Jn w) x.aJ)
instance:Inhabited mF:=⟨⟨default,default,default,default,default,default,default⟩⟩
structure di where
 av:Int
 ay:Nat
 aX:Nat
 aL:Nat
 ag:Ll aW
 ak:Ll bJ
 aJ:Ll fE
instance:Inhabited di:=⟨⟨default,default,default,default,default,default,default⟩⟩
def mF.abs (x:mF):di:=⟨x.av,x.ay,x.aX,x.aL,⟨x.ag.ls⟩,⟨s8 aA.abs x.ak.ls⟩,⟨s8 aT.abs x.aJ.ls⟩⟩
def mF.own (x:mF):List HP:= [row x.ag.A x.ag.ls.length x.ag.c (q6 aW.cells x.ag.ls) 89 2,row x.ak.A x.ak.ls.length x.ak.c (q6 aA.cells x.ak.ls) 60 5,row x.aJ.A x.aJ.ls.length x.aJ.c (q6 aT.cells x.aJ.ls) 56 4,sepL (q6 aA.own x.ak.ls),sepL (q6 aT.own x.aJ.ls)]
theorem uD:Elem y4 45 42 21 232:=kS (z:= .agg (gD 0 0 0 0 0 0 0 0 0 0 0 0 0 0 0 false ([]) ([]) none 0 0 none 0 0 none 0 0).toArray) Tryz.underlying45 e7 rfl f3
structure nW where
 eO:Sv bC
 iQ:Bool
def nW.cells (x:nW):List Value:= [.slice x.eO.A x.eO.ls.length x.eO.c, .bool x.iQ]
instance:Bk nW:=⟨fun x _=>bk x.eO+(bk x.iQ+(0))⟩
theorem nW.len:∀ x,(nW.cells x).length=2:=fun _=>rfl
theorem nW.one:∀ x, ∀ u ∈ nW.cells x,u.oneCell'=true:=fun x u hu=>by
 simp only [nW.cells,v2,B3,or_false] at hu
 rcases hu with rfl | rfl <;> rfl
def JF (w:World) (x:nW):Prop:=(lZ w 21 232 bC.cells (Iq w) x.eO)∧(True)
instance:Inhabited nW:=⟨⟨default,default⟩⟩
structure jW where
 eO:Ll bM
 iQ:Bool
instance:Inhabited jW:=⟨⟨default,default⟩⟩
def nW.abs (x:nW):jW:=⟨⟨s8 bC.abs x.eO.ls⟩,x.iQ⟩
def nW.own (x:nW):List HP:= [row x.eO.A x.eO.ls.length x.eO.c (q6 bC.cells x.eO.ls) 42 21,sepL (q6 bC.own x.eO.ls)]
structure qB where
 bB:Bool
 Fy:Bool
def qB.cells (x:qB):List Value:= [.bool x.bB, .bool x.Fy]
instance:Bk qB:=⟨fun x _=>bk x.bB+(bk x.Fy+(0))⟩
theorem qB.len:∀ x,(qB.cells x).length=2:=fun _=>rfl
theorem qB.one:∀ x, ∀ u ∈ qB.cells x,u.oneCell'=true:=fun x u hu=>by
 simp only [qB.cells,v2,B3,or_false] at hu
 rcases hu with rfl | rfl <;> rfl
def JG (w:World) (x:qB):Prop:=(True)∧(True)
instance:Inhabited qB:=⟨⟨default,default⟩⟩
theorem uE:Elem y4 61 28 1 8:=kS (z:= .int .u64 0) Tryz.underlying61 e7 rfl f3
structure iH where
 nC:Int
 aM:Nat
def iH.cells (x:iH):List Value:= [.int .i64 x.nC, .int .u64 ((x.aM:Nat):Int)]
instance:Bk iH:=⟨fun x _=>bk x.nC+(bk x.aM+(0))⟩
theorem iH.len:∀ x,(iH.cells x).length=2:=fun _=>rfl
theorem iH.one:∀ x, ∀ u ∈ iH.cells x,u.oneCell'=true:=fun x u hu=>by
 simp only [iH.cells,v2,B3,or_false] at hu
 rcases hu with rfl | rfl <;> rfl
def JH (w:World) (x:iH):Prop:=((-9223372036854775808)≤x.nC∧x.nC≤9223372036854775807)∧(x.aM≤18446744073709551615)
instance:Inhabited iH:=⟨⟨default,default⟩⟩
structure mG where
 dV:Int
 aF:Sv bv
 aH:Sv Int
def mG.cells (x:mG):List Value:= [.int .i64 x.dV, .slice x.aF.A x.aF.ls.length x.aF.c, .slice x.aH.A x.aH.ls.length x.aH.c]
instance:Bk mG:=⟨fun x _=>bk x.dV+(bk x.aF+(bk x.aH+(0)))⟩
theorem mG.len:∀ x,(mG.cells x).length=3:=fun _=>rfl
theorem mG.one:∀ x, ∀ u ∈ mG.cells x,u.oneCell'=true:=fun x u hu=>by
 simp only [mG.cells,v2,B3,or_false] at hu
 rcases hu with rfl | rfl | rfl <;> rfl
def JE (w:World) (x:mG):Prop:=((-9223372036854775808)≤x.dV∧x.dV≤9223372036854775807)∧(lZ w 6 80 bv.cells (Ig w) x.aF)∧(lZ w 1 8 (eI .i64) (fun n=>(-9223372036854775808)≤n∧n≤9223372036854775807) x.aH)
instance:Inhabited mG:=⟨⟨default,default,default⟩⟩
structure Ci where
 dV:Int
 aF:Ll bv
 aH:Ll Int
instance:Inhabited Ci:=⟨⟨default,default,default⟩⟩
def mG.abs (x:mG):Ci:=⟨x.dV,⟨x.aF.ls⟩,⟨x.aH.ls⟩⟩
def mG.own (x:mG):List HP:= [row x.aF.A x.aF.ls.length x.aF.c (q6 bv.cells x.aF.ls) 72 6,row x.aH.A x.aH.ls.length x.aH.c (q6 (eI .i64) x.aH.ls) 3 1]
theorem pu:Elem y4 79 107 9 136:=kS (z:= .agg #[.int .u64 0, .int .i64 0, .int .u64 0, .int .u64 0, .slice none 0 0, .slice none 0 0, .slice none 0 0, .slice none 0 0, .int .i64 0]) Tryz.underlying79 e7 rfl f3
theorem tK:Elem y4 103 172 3 56:=kS (z:= .agg #[.int .i64 0, .slice none 0 0, .slice none 0 0]) Tryz.underlying103 e7 rfl f3
theorem xC:Elem y4 104 4 1 1:=kS (z:= .bool false) Tryz.underlying104 e7 rfl f3
theorem wu:Elem y4 105 40 1 24:=kS (z:= .slice none 0 0) Tryz.underlying105 e7 rfl f3
structure bz where
 aR:Nat
 aK:Int
 aM:Nat
 cz:Nat
 bO:Sv bv
 aD:Sv bD
 bB:Sv Bool
 af:Sv (Sv ae)
 dO:Int
def bz.cells (x:bz):List Value:= [.int .u64 ((x.aR:Nat):Int), .int .i64 x.aK, .int .u64 ((x.aM:Nat):Int), .int .u64 ((x.cz:Nat):Int), .slice x.bO.A x.bO.ls.length x.bO.c, .slice x.aD.A x.aD.ls.length x.aD.c, .slice x.bB.A x.bB.ls.length x.bB.c, .slice x.af.A x.af.ls.length x.af.c, .int .i64 x.dO]
instance:Bk bz:=⟨fun x _=>bk x.aR+(bk x.aK+(bk x.aM+(bk x.cz+(bk x.bO+(bk x.aD+(bk x.bB+(bk x.af+(bk x.dO+(0)))))))))⟩
theorem bz.len:∀ x,(bz.cells x).length=9:=fun _=>rfl
theorem bz.one:∀ x, ∀ u ∈ bz.cells x,u.oneCell'=true:=fun x u hu=>by
 simp only [bz.cells,v2,B3,or_false] at hu
 rcases hu with rfl | rfl | rfl | rfl | rfl | rfl | rfl | rfl | rfl <;> rfl
def JI (w:World) (x:bz):Prop:=(x.aR≤18446744073709551615)∧((-9223372036854775808)≤x.aK∧x.aK≤9223372036854775807)∧(x.aM≤18446744073709551615)∧(x.cz≤18446744073709551615)∧(lZ w 6 80 bv.cells (Ig w) x.bO)∧(lZ w 3 56 bD.cells (Jm w) x.aD)∧(lZ w 1 1 eL (fun _=>True) x.bB)∧(lZ w 1 24 (GD (β:=ae)) (lZ w 3 48 ae.cells (G9 w)) x.af)∧((-9223372036854775808)≤x.dO∧x.dO≤9223372036854775807)
instance:Inhabited bz:=⟨⟨default,default,default,default,default,default,default,default,default⟩⟩
abbrev bK:=Sv ae
def bK.abs (x:bK):Ll aS:=⟨s8 ae.abs x.ls⟩
def bK.own (x:bK):List HP:= [row x.A x.ls.length x.c (q6 ae.cells x.ls) 149 3,sepL (q6 ae.own x.ls)]
structure dD where
 aR:Nat
 aK:Int
 aM:Nat
 cz:Nat
 bO:Ll bv
 aD:Ll gq
 bB:Ll Bool
 af:Ll (Ll aS)
 dO:Int
instance:Inhabited dD:=⟨⟨default,default,default,default,default,default,default,default,default⟩⟩
def bz.abs (x:bz):dD:=⟨x.aR,x.aK,x.aM,x.cz,⟨x.bO.ls⟩,⟨s8 bD.abs x.aD.ls⟩,⟨x.bB.ls⟩,⟨s8 bK.abs x.af.ls⟩,x.dO⟩
def bz.own (x:bz):List HP:= [row x.bO.A x.bO.ls.length x.bO.c (q6 bv.cells x.bO.ls) 72 6,row x.aD.A x.aD.ls.length x.aD.c (q6 bD.cells x.aD.ls) 172 3,row x.bB.A x.bB.ls.length x.bB.c (q6 eL x.bB.ls) 4 1,row x.af.A x.af.ls.length x.af.c (q6 (GD (β:=ae)) x.af.ls) 40 1,sepL (q6 bD.own x.aD.ls),sepL (q6 bK.own x.af.ls)]
abbrev qR (i:Nat) (j:Int) (k:Nat) (l:Nat) (m:Option Addr) (a b:Nat) (n:Option Addr) (c d:Nat) (o:Option Addr) (e f:Nat) (p:Option Addr) (g h:Nat) (q:Int):List Value:= [.int .u64 ((i:Nat):Int), .int .i64 j, .int .u64 ((k:Nat):Int), .int .u64 ((l:Nat):Int), .slice m a b, .slice n c d, .slice o e f, .slice p g h, .int .i64 q]
abbrev BF (x:dD) (a:Option Addr) (b:Nat) (c:Option Addr) (d:Nat) (e:Option Addr) (f:Nat) (g:Option Addr) (h:Nat):List Value:= [.int .u64 ((x.aR:Nat):Int), .int .i64 x.aK, .int .u64 ((x.aM:Nat):Int), .int .u64 ((x.cz:Nat):Int), .slice a x.bO.ls.length b, .slice c x.aD.ls.length d, .slice e x.bB.ls.length f, .slice g x.af.ls.length h, .int .i64 x.dO]
structure lI where
 cB:Bool
 aM:Nat
 dw:Int
 af:Sv ae
def lI.cells (x:lI):List Value:= [.bool x.cB, .int .u64 ((x.aM:Nat):Int), .int .i64 x.dw, .slice x.af.A x.af.ls.length x.af.c]
instance:Bk lI:=⟨fun x _=>bk x.cB+(bk x.aM+(bk x.dw+(bk x.af+(0))))⟩
theorem lI.len:∀ x,(lI.cells x).length=4:=fun _=>rfl
theorem lI.one:∀ x, ∀ u ∈ lI.cells x,u.oneCell'=true:=fun x u hu=>by
 simp only [lI.cells,v2,B3,or_false] at hu
 rcases hu with rfl | rfl | rfl | rfl <;> rfl
def Jw (w:World) (x:lI):Prop:=(True)∧(x.aM≤18446744073709551615)∧((-9223372036854775808)≤x.dw∧x.dw≤9223372036854775807)∧(lZ w 3 48 ae.cells (G9 w) x.af)
instance:Inhabited lI:=⟨⟨default,default,default,default⟩⟩
structure dX where
 cB:Bool
 aM:Nat
 dw:Int
 af:Ll aS
instance:Inhabited dX:=⟨⟨default,default,default,default⟩⟩
def lI.abs (x:lI):dX:=⟨x.cB,x.aM,x.dw,⟨s8 ae.abs x.af.ls⟩⟩
def lI.own (x:lI):List HP:= [row x.af.A x.af.ls.length x.af.c (q6 ae.cells x.af.ls) 149 3,sepL (q6 ae.own x.af.ls)]
structure aB where
 aa:di
 bP:Nat
 au:Ll dD
 bH:dX
 bf:dX
 bi:dX
 bn:dX
 aZ:dX
 dI:Nat
 dz:Nat
 dB:Nat
 dA:Nat
 dC:Nat
instance:Inhabited aB:=⟨⟨default,default,default,default,default,default,default,default,default,default,default,default,default⟩⟩
theorem Dy:Elem y4 126 154 1 8:=kS (z:= .int .i64 0) Tryz.underlying126 e7 rfl f3
structure lJ where
 lX:Int
 nC:Int
 cK:Sv Int
def lJ.cells (x:lJ):List Value:= [.int .i64 x.lX, .int .i64 x.nC, .slice x.cK.A x.cK.ls.length x.cK.c]
instance:Bk lJ:=⟨fun x _=>bk x.lX+(bk x.nC+(bk x.cK+(0)))⟩
theorem lJ.len:∀ x,(lJ.cells x).length=3:=fun _=>rfl
theorem lJ.one:∀ x, ∀ u ∈ lJ.cells x,u.oneCell'=true:=fun x u hu=>by
 simp only [lJ.cells,v2,B3,or_false] at hu
 rcases hu with rfl | rfl | rfl <;> rfl
def Jy (w:World) (x:lJ):Prop:=((-9223372036854775808)≤x.lX∧x.lX≤9223372036854775807)∧((-9223372036854775808)≤x.nC∧x.nC≤9223372036854775807)∧(lZ w 1 8 (eI .i64) (fun n=>(-9223372036854775808)≤n∧n≤9223372036854775807) x.cK)
instance:Inhabited lJ:=⟨⟨default,default,default⟩⟩
structure fZ where
 lX:Int
 nC:Int
 cK:Ll Int
instance:Inhabited fZ:=⟨⟨default,default,default⟩⟩
def lJ.abs (x:lJ):fZ:=⟨x.lX,x.nC,⟨x.cK.ls⟩⟩
def lJ.own (x:lJ):List HP:= [row x.cK.A x.cK.ls.length x.cK.c (q6 (eI .i64) x.cK.ls) 154 1]
structure bE where
 bq:Ll bM
instance:Inhabited bE:=⟨⟨default⟩⟩
theorem xD:Elem y4 134 5 1 1:=kS (z:= .int .u8 0) Tryz.underlying134 e7 rfl f3
structure lK where
 xb:Sv UInt8
def lK.cells (x:lK):List Value:= [.slice x.xb.A x.xb.ls.length x.xb.c]
instance:Bk lK:=⟨fun x _=>bk x.xb+(0)⟩
theorem lK.len:∀ x,(lK.cells x).length=1:=fun _=>rfl
theorem lK.one:∀ x, ∀ u ∈ lK.cells x,u.oneCell'=true:=fun x u hu=>by
 simp only [lK.cells,v2,B3,or_false] at hu
 rcases hu with rfl <;> rfl
def Jz (w:World) (x:lK):Prop:=(lZ w 1 1 eB (fun _=>True) x.xb)
instance:Inhabited lK:=⟨⟨default⟩⟩
structure dJ where
 xb:Ll UInt8
instance:Inhabited dJ:=⟨⟨default⟩⟩
def lK.abs (x:lK):dJ:=⟨⟨x.xb.ls⟩⟩
def lK.own (x:lK):List HP:= [row x.xb.A x.xb.ls.length x.xb.c (q6 eB x.xb.ls) 5 1]
theorem Dz:Elem y4 245 9 1 16:=kS (z:= .string ⟨y6 ([])⟩) Tryz.underlying245 e7 rfl f3
def iJ (a:Int) (b:Int):Bool:=
 if a ≥ 1 then decide (a≤b) else false
theorem lT (w D b c f) (H:Own w D w []) (hr:iJ b c=f):
    Calls y4 40 #[vI b,vI c] w (dR fun v w'=>v= .bool f∧Own w D w' []):=by
 refine cb Tryz.func40 ?_
 refine sr (Ar rfl (Mz rfl (Kz (.bool (decide (b ≥ 1))) (Mz rfl ?_))))
 by_cases a:b ≥ 1
 refine gw (vI b) (dT a) (F9 rfl) (gw (vI c) (dT a) (F9 rfl) (Gz (.bool (decide (b≤c))) (dT a) (fw (.bool (decide (b≤c))) (Gd rfl (dT a) rfl) (An rfl (rt (rs ?_))))))
 have d:=H.pk []
 obtain rfl:_=decide (b≤c):=hr.symm.trans (ip a)
 exact⟨rfl,d⟩
 refine Sz (dF a) (Sz (dF a) (Sz (dF a) (fw (.bool false) (FZ rfl (dF a) rfl) (An rfl (rt (rs ?_))))))
 have e:=H.pk []
 obtain rfl:_=false:=hr.symm.trans (iN a)
 exact⟨rfl,e⟩
def rT (a:Int):Bool:=
 if a ≥ 1 then decide (a≤4) else false
theorem wT (w D b e) (H:Own w D w []) (hr:rT b=e):
    Calls y4 111 #[vI b] w (dR fun v w'=>v= .bool e∧Own w D w' []):=by
 refine cb Tryz.func111 ?_
 refine sr (Ar rfl (Mz rfl (Kz (.bool (decide (b ≥ 1))) (Mz rfl ?_))))
 by_cases a:b ≥ 1
 refine gw (vI b) (dT a) (F9 rfl) (Gz (.bool (decide (b≤4))) (dT a) (fw (.bool (decide (b≤4))) (Gd rfl (dT a) rfl) (An rfl (rt (rs ?_)))))
 have c:=H.pk []
 obtain rfl:_=decide (b≤4):=hr.symm.trans (ip a)
 exact⟨rfl,c⟩
 refine Sz (dF a) (Sz (dF a) (fw (.bool false) (FZ rfl (dF a) rfl) (An rfl (rt (rs ?_)))))
 have d:=H.pk []
 obtain rfl:_=false:=hr.symm.trans (iN a)
 exact⟨rfl,d⟩
def gF (a:List UInt8):Int:=
 if((a.length:Nat):Int) < 1 then 20 else if((a.length:Nat):Int) > 12 then 20 else 0
theorem ku (w D b d) (H:Own w D w []) (hr:gF b=d):
    Calls y4 112 #[.string ⟨y6 b⟩] w (dR fun v w'=>v=vI d∧Own w D w' []∧(¬ (d=0)∨(1≤b.length∧b.length≤12))∧(b.length < 1∨b.length > 12∨d=0)):=by
 refine cb Tryz.func112 ?_
 refine sr (An rfl (FW (sr (Mz rfl (Kz (vJ b.length) (Kz (.bool (decide (((b.length:Nat):Int) < 1))) (Mz rfl ?_)))))))
 by_cases a:((b.length:Nat):Int) < 1
 refine Sz (dT a) (Sz (dT a) (Sz (dT a) (fw (.bool true) (Gd rfl (dT a) rfl) (nt (jt (sr (An rfl (rt (tR (rs ?_))))))))))
 have e:=H.pk []
 obtain rfl:_=20:=hr.symm.trans (ip a)
 exact⟨rfl,e,e6,e6⟩
 refine gw (.string ⟨y6 b⟩) (dF a) (F9 rfl) (Gz (vJ b.length) (dF a) (Gz (.bool (decide (((b.length:Nat):Int) > 12))) (dF a) (fw (.bool (decide (((b.length:Nat):Int) > 12))) (FZ rfl (dF a) rfl) (nt ?_))))
 by_cases c:((b.length:Nat):Int) > 12
 refine jT (dT c) (sr (An rfl (rt (tR (rs ?_)))))
 have f:=H.pk []
 obtain rfl:_=20:=hr.symm.trans (et (iN a) (ip c))
 exact⟨rfl,f,e6,e6⟩
 refine jF (dF c) (sk (sr (An rfl (rt (rs ?_)))))
 have g:=H.pk []
 obtain rfl:_=0:=hr.symm.trans (et (iN a) (iN c))
 exact⟨rfl,g,e6,e6⟩
def iy (l0:List aW):List aW→Nat→Unit ⊕ Int
  | [],a=>C1 ()
  | b::c,a=>bnd (rT b.dV) fun d=>if d=true then if((a:Nat):Int) > 0 then bnd (gF b.bG) fun e=>if e=0 then bnd (C2 l0 (a - 1) default) fun f=>if b.bG≤f.bG then C3 (170) else iy l0 c (a+1) else C3 (170) else iy l0 c (a+1) else C3 (170)
def kM (l0:List aW):Int:=
 if((l0.length:Nat):Int) < 1 then 170 else if((l0.length:Nat):Int) > 6 then 170 else bnd (C2 l0 0 default) fun a=>if a.bG≠([]) then 170 else lp (iy l0 l0 0) fun _=>0
theorem qU (w D h W G l0 X) (H:Own w D w []) (j:Ro w D fun w'=>bA w' 2 h W (q6 aW.cells l0)) (Y:W=l0.length) (aD:l0.length≤9223372036854775807) (hr:kM l0=X):
    Calls y4 72 #[.slice h W G] w (dR fun v w'=>v=vI X∧Own w D w' []∧(¬ (X=0)∨(1≤l0.length∧l0.length≤6))):=by
 subst Y
 refine cb Tryz.func72 ?_
 refine sr (An rfl (FW (sr (Mz rfl (Kz (vJ l0.length) (Kz (.bool (decide (((l0.length:Nat):Int) < 1))) (Mz rfl ?_)))))))
 by_cases g:((l0.length:Nat):Int) < 1
 refine Sz (dT g) (Sz (dT g) (Sz (dT g) (fw (.bool true) (Gd rfl (dT g) rfl) (Mz rfl (Sz rfl (Sz rfl (Sz rfl (Sz rfl (Sz rfl (fw (.bool true) (Gd rfl rfl rfl) (nt (jt (sr (An rfl (rt (tR (rs ?_)))))))))))))))))
 have Z:=H.pk []
 obtain rfl:_=170:=hr.symm.trans (ip g)
 exact⟨rfl,Z,e6⟩
 refine gw (.slice h l0.length G) (dF g) (F9 rfl) (Gz (vJ l0.length) (dF g) (Gz (.bool (decide (((l0.length:Nat):Int) > 6))) (dF g) (fw (.bool (decide (((l0.length:Nat):Int) > 6))) (FZ rfl (dF g) rfl) (Mz rfl ?_))))
 by_cases d:((l0.length:Nat):Int) > 6
 refine Sz (dT d) (Sz (dT d) (Sz (dT d) (Sz (dT d) (Sz (dT d) (fw (.bool true) (Gd rfl (dT d) rfl) (nt (jt (sr (An rfl (rt (tR (rs ?_))))))))))))
 have aa:=H.pk []
 obtain rfl:_=170:=hr.symm.trans (et (iN g) (ip d))
 exact⟨rfl,aa,e6⟩
 refine gw (.slice h l0.length G) (dF d) (F9 rfl) ?_
 obtain⟨C,l⟩:=dK (ls:=l0) (i:=0) aW.len f3 (H.ro j) e9
 refine gw (.pointer (some ⟨ab h,ao h+0 *2,none⟩)) (dF d) (F4 (qA) rfl rfl ((H.ro j).addr (i:=0) e6) e6) (Gz (.pointer (some ⟨ab h,ao h+0 *2,none⟩)) (dF d) (gw (.string ⟨y6 C.bG⟩) (dF d) (F7 rfl (bX.one C4 (((H.ro j).elem aW.len l f3).at_ (k:=0) rfl))) (gw (.bool (decide (C.bG≠([])))) (dF d) (Hq rfl rfl) (fw (.bool (decide (C.bG≠([])))) (FZ rfl (dF d) rfl) (nt ?_)))))
 by_cases r:C.bG≠([])
 refine jT (dT r) (sr (An rfl (rt (tR (rs ?_)))))
 have ae:=H.pk []
 obtain rfl:_=170:=hr.symm.trans (et (iN g) (et (iN d) (et (ai (bF l)) (ip r))))
 exact⟨rfl,ae,e6⟩
 refine jF (dF r) (sk (FW (sr (Mz rfl (Kz (vJ l0.length) (Mn rfl (bo ?_)))))))
 have af:=H.pk []
 obtain⟨ag,u⟩:=mZ fun (a:Nat) w'=>Own w D w' []∧a≤l0.length∧iy l0 l0 0=iy l0 (r6 a l0) a
 refine C5 (fun i:Nat=> [(2,vI 0),(21,vJ i),(20,vJ l0.length),(0, .slice h l0.length G)]) ag (fun i=>l0.length - i) 0 ⟨rfl,rfl,rfl,rfl,trivial⟩ (u.2 ⟨af,e6,rfl⟩) ?_
 rintro a aF L
 obtain⟨z,ay,m⟩:=u.1 L
 refine sr (Kz (.bool (decide (((a:Nat):Int) < ((l0.length:Nat):Int)))) (nt (FW ?_)))
 by_cases M:((a:Nat):Int) < ((l0.length:Nat):Int)
 obtain⟨f,x⟩:=dK (ls:=l0) (i:=a) aW.len f3 (z.ro j) e9
 have o:=drop_at x
 refine jT (dT M) (sk (FW (bo (sr (Mz rfl (An rfl (FW (sr (Mz rfl (Mz rfl (fw (.pointer (some ⟨ab h,ao h+a *2,none⟩)) (F4 (qA) rfl rfl ((z.ro j).addr (i:=a) e6) e6) (Kz (.pointer (some ⟨ab h,ao h+a *2+1,none⟩)) (fw (vI f.dV) (F7 rfl (bX.one C6 (((z.ro j).elem aW.len x f3).at_ (k:=1) rfl))) ?_)))))))))))))
 obtain⟨K,n⟩:∃ q,rT f.dV=q:=⟨_,rfl⟩
 obtain⟨aG,N,az,O,aA⟩:=F3 z
 refine cl Tryz.call111 (wT _ _ f.dV K N n) ?_
 rintro _ aH ⟨rfl,P⟩
 have Q:=O _ _ P
 refine Kz (.bool (!K)) (nt ?_)
 rcases JS (K) with p | p
 refine jF (cn p) (sk (FW ?_))
 refine FO [] (Gb (bL.block (Gb (Gb (bL.block (Gb Gj)))))) Q ?_
 intro aI R
 refine qv 0 rfl rfl (qk (.bool (decide (((a:Nat):Int) > 0))) 1 rfl (qv 2 rfl rfl ?_))
 by_cases c:((a:Nat):Int) > 0
 refine F8 (v:= .slice h l0.length G) (rs:= []) 3 rfl rfl rfl (dT c) e7 (fun _ _=>F9 rfl) (F8 (v:=vJ a) (rs:= []) 4 rfl rfl rfl (dT c) e7 (fun _ _=>F9 rfl) (F8 (v:= .pointer (some ⟨ab h,ao h+a *2,none⟩)) (rs:= []) 5 rfl rfl rfl (dT c) e7 (fun _ ⟨_,A⟩=>F4 (qA) rfl rfl ((A.ro j).addr (i:=a) e6) e6) (F8 (v:= .pointer (some ⟨ab h,ao h+a *2,none⟩)) (rs:= []) 6 rfl rfl rfl (dT c) e7 (fun _ _=>yk) (F8 (v:= .string ⟨y6 f.bG⟩) (rs:= []) 7 rfl rfl rfl (dT c) e7 (fun _ ⟨_,A⟩=>F7 rfl (bX.one C4 (((A.ro j).elem aW.len x f3).at_ (k:=0) rfl))) ?_))))
 obtain⟨s,y⟩:∃ q,gF f.bG=q:=⟨_,rfl⟩
 obtain⟨aJ,S,aB,T,aC⟩:=F3 R
 refine Ht 8 rfl rfl rfl (dT c) e7 (Gg Tryz.call112 rfl (ku _ _ f.bG s S y) ?_)
 rintro _ aK ⟨rfl,U,I,J⟩
 have E:=T _ _ U
 replace I: ¬ (s=0)∨(1≤f.bG.length∧f.bG.length≤12):=I
 replace J:f.bG.length < 1∨f.bG.length > 12∨s=0:=J
 refine⟨.inr ⟨_,E⟩, ?_⟩
 refine F8 (v:= .bool (decide (¬ (s=0)))) (rs:= []) 9 rfl rfl rfl (dT c) e7 (fun _ _=>Gm (e:= !(decide (s=0))) yk decide_not.symm) (F8 (v:= .bool (decide (¬ (s=0)))) (rs:= []) 10 rfl rfl rfl (dT c) e7 (fun _ _=>F9 rfl) ?_)
 by_cases b:s=0
 refine F8 (v:= .slice h l0.length G) (rs:= []) 11 rfl rfl rfl (dF (JR b)) e7 (fun _ _=>F9 rfl) (F8 (v:=vJ a) (rs:= []) 12 rfl rfl rfl (dF (JR b)) e7 (fun _ _=>F9 rfl) (F8 (v:= .pointer (some ⟨ab h,ao h+a *2,none⟩)) (rs:= []) 13 rfl rfl rfl (dF (JR b)) e7 (fun _ ⟨_,A⟩=>F4 (qA) rfl rfl ((A.ro j).addr (i:=a) e6) e6) (F8 (v:= .pointer (some ⟨ab h,ao h+a *2,none⟩)) (rs:= []) 14 rfl rfl rfl (dF (JR b)) e7 (fun _ _=>yk) (F8 (v:= .string ⟨y6 f.bG⟩) (rs:= []) 15 rfl rfl rfl (dF (JR b)) e7 (fun _ ⟨_,A⟩=>F7 rfl (bX.one C4 (((A.ro j).elem aW.len x f3).at_ (k:=0) rfl))) (F8 (v:= .slice h l0.length G) (rs:= []) 16 rfl rfl rfl (dF (JR b)) e7 (fun _ _=>F9 rfl) (F8 (v:=vJ a) (rs:= []) 17 rfl rfl rfl (dF (JR b)) e7 (fun _ _=>F9 rfl) (F8 (v:=vJ (a - 1)) (rs:= []) 18 rfl rfl rfl (dF (JR b)) e7 (fun _ _=>FX (e:=C7.wrap (((a:Nat):Int) - 1)) yk f1) ?_)))))))
 obtain⟨t,B⟩:=jo (ls:=l0) (i:=a - 1) e9
 refine F8 (v:= .pointer (some ⟨ab h,ao h+(a - 1) *2,none⟩)) (rs:= []) 19 rfl rfl rfl (dF (JR b)) e7 (fun _ ⟨_,A⟩=>F4 (qA) rfl rfl ((A.ro j).addr (i:=a - 1) e6) e6) (F8 (v:= .pointer (some ⟨ab h,ao h+(a - 1) *2,none⟩)) (rs:= []) 20 rfl rfl rfl (dF (JR b)) e7 (fun _ _=>yk) (F8 (v:= .string ⟨y6 t.bG⟩) (rs:= []) 21 rfl rfl rfl (dF (JR b)) e7 (fun _ ⟨_,A⟩=>F7 rfl (bX.one C4 (((A.ro j).elem aW.len B f3).at_ (k:=0) rfl))) (F8 (v:= .bool (decide (f.bG≤t.bG))) (rs:= []) 22 rfl rfl rfl (dF (JR b)) e7 (fun _ _=>Gm (e:=Op.bytesLess f.bG t.bG || decide (f.bG=t.bG)) (HV rfl rfl) (ze _ _)) (F8 (v:= .bool (decide (f.bG≤t.bG))) (rs:= []) 23 rfl rfl rfl (dT c) e7 (fun _ _=>FZ rfl (dF (JR b)) rfl) (qt (v:= .bool (decide (f.bG≤t.bG))) 24 rfl (fun _ _=>Gd rfl (dT c) rfl) (qn (FY ?_)))))))
 by_cases F:f.bG≤t.bG
 refine jT (dT F) (sr (An rfl (rt (bR (tR (tR (bR (tR (rs ?_)))))))))
 have ah:=E.pk []
 obtain rfl:_=170:=hr.symm.trans (et (iN g) (et (iN d) (et (ai (bF l)) (et (iN r) (jq (et (m) (et (congrArg (fun q=>iy l0 q a) o) (et (ai n) (et (ip p) (et (ip c) (et (ai y) (et (ip b) (et (ai (bF B)) (ip F))))))))))))))
 exact⟨rfl,ah,e6⟩
 refine jF (dF F) (Gn (bN (FY (FV (fw (vJ (a+1)) (FX (e:=C7.wrap (((a:Nat):Int)+1)) yk f1) (Mz rfl (D0 ?_)))))))
 have aj:=E.pk []
 exact Gc (a+1) ⟨rfl,rfl,rfl,rfl,trivial⟩ (u.2 ⟨aj,e6,et (m) (et (congrArg (fun q=>iy l0 q a) o) (et (ai n) (et (ip p) (et (ip c) (et (ai y) (et (ip b) (et (ai (bF B)) (iN F))))))))⟩) (by show l0.length - (a+1) < l0.length - a; omega)
 refine F5 (rs:= []) 11 rfl rfl rfl (dT b) e7 (F5 (rs:= []) 12 rfl rfl rfl (dT b) e7 (F5 (rs:= []) 13 rfl rfl rfl (dT b) e7 (F5 (rs:= []) 14 rfl rfl rfl (dT b) e7 (F5 (rs:= []) 15 rfl rfl rfl (dT b) e7 (F5 (rs:= []) 16 rfl rfl rfl (dT b) e7 (F5 (rs:= []) 17 rfl rfl rfl (dT b) e7 (F5 (rs:= []) 18 rfl rfl rfl (dT b) e7 (F5 (rs:= []) 19 rfl rfl rfl (dT b) e7 (F5 (rs:= []) 20 rfl rfl rfl (dT b) e7 (F5 (rs:= []) 21 rfl rfl rfl (dT b) e7 (F5 (rs:= []) 22 rfl rfl rfl (dT b) e7 (F8 (v:= .bool true) (rs:= []) 23 rfl rfl rfl (dT c) e7 (fun _ _=>Gd rfl (dT b) rfl) (qt (v:= .bool true) 24 rfl (fun _ _=>Gd rfl (dT c) rfl) (qn (FY (jt (sr (An rfl (rt (bR (tR (tR (bR (tR (rs ?_)))))))))))))))))))))))))
 have ak:=E.pk []
 obtain rfl:_=170:=hr.symm.trans (et (iN g) (et (iN d) (et (ai (bF l)) (et (iN r) (jq (et (m) (et (congrArg (fun q=>iy l0 q a) o) (et (ai n) (et (ip p) (et (ip c) (et (ai y) (iN b))))))))))))
 exact⟨rfl,ak,e6⟩
 refine F5 (rs:= []) 3 rfl rfl rfl (dF c) e7 (F5 (rs:= []) 4 rfl rfl rfl (dF c) e7 (F5 (rs:= []) 5 rfl rfl rfl (dF c) e7 (F5 (rs:= []) 6 rfl rfl rfl (dF c) e7 (F5 (rs:= []) 7 rfl rfl rfl (dF c) e7 (F5 (rs:= []) 8 rfl rfl rfl (dF c) e7 (F5 (rs:= []) 9 rfl rfl rfl (dF c) e7 (F5 (rs:= []) 10 rfl rfl rfl (dF c) e7 (GA (rs:= []) 11 rfl rfl rfl e7 (GA (rs:= []) 12 rfl rfl rfl e7 (GA (rs:= []) 13 rfl rfl rfl e7 (GA (rs:= []) 14 rfl rfl rfl e7 (GA (rs:= []) 15 rfl rfl rfl e7 (GA (rs:= []) 16 rfl rfl rfl e7 (GA (rs:= []) 17 rfl rfl rfl e7 (GA (rs:= []) 18 rfl rfl rfl e7 (GA (rs:= []) 19 rfl rfl rfl e7 (GA (rs:= []) 20 rfl rfl rfl e7 (GA (rs:= []) 21 rfl rfl rfl e7 (GA (rs:= []) 22 rfl rfl rfl e7 (F5 (rs:= []) 23 rfl rfl rfl (dF c) e7 (qt (v:= .bool false) 24 rfl (fun _ _=>FZ rfl (dF c) rfl) (qn (FY (jf (Gn (bN (FY (FV (fw (vJ (a+1)) (FX (e:=C7.wrap (((a:Nat):Int)+1)) yk f1) (Mz rfl (D0 ?_)))))))))))))))))))))))))))))))
 have au:=R.pk []
 exact Gc (a+1) ⟨rfl,rfl,rfl,rfl,trivial⟩ (u.2 ⟨au,e6,et (m) (et (congrArg (fun q=>iy l0 q a) o) (et (ai n) (et (ip p) (iN c))))⟩) (by show l0.length - (a+1) < l0.length - a; omega)
 refine jT (cn p) (sr (An rfl (rt (tR (bR (tR (tR (bR (tR (rs ?_))))))))))
 have av:=Q.pk []
 obtain rfl:_=170:=hr.symm.trans (et (iN g) (et (iN d) (et (ai (bF l)) (et (iN r) (jq (et (m) (et (congrArg (fun q=>iy l0 q a) o) (et (ai n) (gB p)))))))))
 exact⟨rfl,av,e6⟩
 refine jF (dF M) (D1 (F6 ?_))
 have V:iy l0 l0 0=C1 ():=et (m) (et (congrArg (fun q=>iy l0 q a) (eZ (ls:=l0) (i:=a) e6)) rfl)
 refine F6 (Gi (FY (sr (An rfl (rt (rs ?_))))))
 have ax:=z.pk []
 obtain rfl:_=0:=hr.symm.trans (et (iN g) (et (iN d) (et (ai (bF l)) (et (iN r) (nU V)))))
 exact⟨rfl,ax,e6⟩
def jv (c:di):List aW→Unit ⊕ Bool
  | []=>C1 ()
  | a::b=>if a.dV > c.av then C3 (false) else jv c b
def nX (b:di):Bool:=
 bnd (kM b.ag.ls) fun a=>if a=0 then lp (jv b b.ag.ls) fun _=>true else false
set_option maxHeartbeats 1000000 in
theorem uU (w D) (a:di) (b E f h F j p k G l r r0) (H:Own w D w []) (L:E=a.ag.ls.length) (g:Ro w D fun w'=>bA w' 2 b a.ag.ls.length (q6 aW.cells a.ag.ls)) (ag:a.ag.ls.length≤f∧a.ag.ls.length≤9223372036854775807) (M:s8 aA.abs p=a.ak.ls) (N:F=a.ak.ls.length) (ah:Ro w D fun w'=>bA w' 5 h a.ak.ls.length (q6 aA.cells p)) (aj:a.ak.ls.length≤j∧a.ak.ls.length≤9223372036854775807) (ak:∀ x ∈ p,Ro w D (fun w'=>bA w' 1 x.av.A x.av.ls.length (q6 (eI .i64) x.av.ls))∧(x.av.ls.length≤x.av.c∧x.av.ls.length≤9223372036854775807)) (O:s8 aT.abs r=a.aJ.ls) (P:G=a.aJ.ls.length) (au:Ro w D fun w'=>bA w' 4 k a.aJ.ls.length (q6 aT.cells r)) (av:a.aJ.ls.length≤l∧a.aJ.ls.length≤9223372036854775807) (ax:∀ x ∈ r,Ro w D (fun w'=>bA w' 3 x.ah.A x.ah.ls.length (q6 ae.cells x.ah.ls))∧(x.ah.ls.length≤x.ah.c∧x.ah.ls.length≤9223372036854775807)∧(∀ R ∈ x.ah.ls,Ro w D (fun w'=>bA w' 2 R.aj.A R.aj.ls.length (q6 aI.cells R.aj.ls))∧(R.aj.ls.length≤R.aj.c∧R.aj.ls.length≤9223372036854775807))) (aN:a.ag.ls.length≤140737488355328∧a.ak.ls.length≤140737488355328∧a.aJ.ls.length≤140737488355328) (hr:nX a=r0):
    Calls y4 41 #[.agg #[vI a.av,vU a.ay,vU a.aX,vU a.aL, .slice b E f, .slice h F j, .slice k G l]] w (dR fun v w'=>v= .bool r0∧Own w D w' []):=by
 subst L N P
 have aa:=az M
 have af:=az O
 refine cb Tryz.func41 ?_
 refine sr ?_
 refine dM [vI a.av,vU a.ay,vU a.aX,vU a.aL, .slice b a.ag.ls.length f, .slice h a.ak.ls.length j, .slice k a.aJ.ls.length l] 33 H ?_
 intro n aO S
 refine An rfl (FW (sr (Kz (vP n 4) (Lz (.slice b a.ag.ls.length f) S 0 Tryz.isAgg29 ?_))))
 obtain⟨s,m⟩:∃ q,kM a.ag.ls=q:=⟨_,rfl⟩
 obtain⟨aP,T,U,V,aL⟩:=F3 S
 refine cl Tryz.call72 (qU _ _ b a.ag.ls.length f a.ag.ls s T (U _ g) rfl e6 m) ?_
 rintro _ aQ ⟨rfl,W,I⟩
 have Q:=V _ _ W
 replace I: ¬ (s=0)∨(1≤a.ag.ls.length∧a.ag.ls.length≤6):=I
 refine fw (.bool (decide (¬ (s=0)))) (Gm (e:= !(decide (s=0))) yk decide_not.symm) (nt ?_)
 by_cases t:s=0
 refine jF (dF (JR t)) (sk (FW (sr (Kz (vP n 4) (Lz (.slice b a.ag.ls.length f) Q 0 Tryz.isAgg29 (Kz (vJ a.ag.ls.length) (Mn rfl (bo ?_))))))))
 have ay:=Q.pf []
 obtain⟨aB,u⟩:=mZ fun (d:Nat) w'=>Own w D w' [blk n [vI a.av,vU a.ay,vU a.aX,vU a.aL, .slice b a.ag.ls.length f, .slice h a.ak.ls.length j, .slice k a.aJ.ls.length l] 33]∧d≤a.ag.ls.length∧jv a a.ag.ls=jv a (r6 d a.ag.ls)
 refine C5 (fun i:Nat=> [(2, .bool false),(12,vJ i),(11,vJ a.ag.ls.length),(10, .slice b a.ag.ls.length f),(1,vP n 0)]) aB (fun i=>a.ag.ls.length - i) 0 ⟨rfl,rfl,rfl,rfl,rfl,trivial⟩ (u.2 ⟨ay,e6,rfl⟩) ?_
 rintro d aR X
 obtain⟨y,aM,z⟩:=u.1 X
 refine sr (Kz (.bool (decide (((d:Nat):Int) < ((a.ag.ls.length:Nat):Int)))) (nt (FW ?_)))
 by_cases Y:((d:Nat):Int) < ((a.ag.ls.length:Nat):Int)
 obtain⟨o,J⟩:=dK (ls:=a.ag.ls) (i:=d) aW.len f3 (y.ro g) e9
 have K:=drop_at J
 refine jT (dT Y) (sk (FW (bo (sr (fw (.pointer (some ⟨ab b,ao b+d *2,none⟩)) (F4 (qA) rfl rfl ((y.ro g).addr (i:=d) e6) e6) (fw (.agg (aW.cells o).toArray) (F7 rfl (Gf (cs:=(aW.cells o)) Tryz.isAgg89 Tryz.sizeOf89 ((y.ro g).elem aW.len J f3))) ?_))))))
 refine dM [.string ⟨y6 ([])⟩,vI 0] 89 y ?_
 intro aC aS aD
 refine dN (aW.cells o) 0 aD Tryz.sizeOf89 ?_
 intro aU B
 refine ns (Kz (vP aC 1) (Lz (vI o.dV) B 0 C6 (Kz (vP n 0) (Lz (vI a.av) B 1 C6 (Kz (.bool (decide (o.dV > a.av))) (nt ?_))))))
 by_cases C:o.dV > a.av
 refine jT (dT C) (sr (An rfl (rt (bR (tR (tR (bR (tR (rs ?_)))))))))
 have aF:=B.pk []
 obtain rfl:_=false:=hr.symm.trans (et (ai m) (et (ip t) (jq (et (z) (et (congrArg (fun q=>jv a q) K) (ip C))))))
 exact⟨rfl,aF⟩
 refine jF (dF C) (Gn (bN (FY (FV (fw (vJ (d+1)) (FX (e:=C7.wrap (((d:Nat):Int)+1)) yk f1) (Mz rfl (D0 ?_)))))))
 have aG:=B.pk [1]
 exact Gc (d+1) ⟨rfl,rfl,rfl,rfl,rfl,trivial⟩ (u.2 ⟨aG,e6,et (z) (et (congrArg (fun q=>jv a q) K) (iN C))⟩) (by show a.ag.ls.length - (d+1) < a.ag.ls.length - d; omega)
 refine jF (dF Y) (D1 (F6 ?_))
 have Z:jv a a.ag.ls=C1 ():=et (z) (et (congrArg (fun q=>jv a q) (eZ (ls:=a.ag.ls) (i:=d) e6)) rfl)
 refine F6 (Gi (FY (sr (An rfl (rt (rs ?_))))))
 have aH:=y.pk []
 obtain rfl:_=true:=hr.symm.trans (et (ai m) (et (ip t) (nU Z)))
 exact⟨rfl,aH⟩
 refine jT (dT t) (sr (An rfl (rt (tR (rs ?_)))))
 have aJ:=Q.pk []
 obtain rfl:_=false:=hr.symm.trans (et (ai m) (iN t))
 exact⟨rfl,aJ⟩
def dP (h:di) (c:Nat) (b:bJ):List Int→Nat→Unit ⊕ Bool
  | [],a=>C1 ()
  | d::e,a=>bnd (iJ d h.av) fun f=>if f=true then if((a:Nat):Int) > 0 then bnd (C2 b.av.ls (a - 1) default) fun g=>if d≤g then C3 (false) else dP h c b e (a+1) else dP h c b e (a+1) else C3 (false)
def gu (h:di) (g:Nat) (d:bJ):List Int→Nat→Unit ⊕ Bool
  | [],a=>C1 ()
  | b::c,a=>bnd (iJ b h.av) fun e=>if e=true then if((a:Nat):Int) > 0 then bnd (C2 d.av.ls (a - 1) default) fun f=>if b≤f then C3 (false) else gu h g d c (a+1) else gu h g d c (a+1) else C3 (false)
def dL (c:di):List bJ→Nat→Unit ⊕ Bool
  | [],b=>C1 ()
  | a::e,b=>if((b:Nat):Int) > 0 then bnd (C2 c.ak.ls (b - 1) default) fun f=>if((a.aU:Nat):Int)≤((f.aU:Nat):Int) then C3 (false) else if((a.aU:Nat):Int) ≥ ((fD (D2 (D3.wrap (((c.ay:Nat):Int)+1))) 32:Nat):Int) then C3 (false) else bnd (iJ a.aN 4) fun g=>if g=true then if((a.av.ls.length:Nat):Int)=0 then C3 (false) else sK (dP c b a a.av.ls 0) fun _=>dL c e (b+1) else C3 (false) else if((a.aU:Nat):Int) ≥ ((fD (D2 (D3.wrap (((c.ay:Nat):Int)+1))) 32:Nat):Int) then C3 (false) else bnd (iJ a.aN 4) fun d=>if d=true then if((a.av.ls.length:Nat):Int)=0 then C3 (false) else sK (gu c b a a.av.ls 0) fun _=>dL c e (b+1) else C3 (false)
def nG (a:di):Bool:=
 if((a.ak.ls.length:Nat):Int) > 8 then false else lp (dL a a.ak.ls 0) fun _=>true
set_option maxHeartbeats 1000000 in
theorem uF (w D) (d:di) (S aZ T f bf p ag U bg V aO r0) (H:Own w D w []) (bq:aZ=d.ag.ls.length) (dO:Ro w D fun w'=>bA w' 2 S d.ag.ls.length (q6 aW.cells d.ag.ls)) (dQ:d.ag.ls.length≤T∧d.ag.ls.length≤9223372036854775807) (aB:s8 aA.abs ag=d.ak.ls) (bu:bf=d.ak.ls.length) (O:Ro w D fun w'=>bA w' 5 f d.ak.ls.length (q6 aA.cells ag)) (dS:d.ak.ls.length≤p∧d.ak.ls.length≤9223372036854775807) (o:∀ x ∈ ag,Ro w D (fun w'=>bA w' 1 x.av.A x.av.ls.length (q6 (eI .i64) x.av.ls))∧(x.av.ls.length≤x.av.c∧x.av.ls.length≤9223372036854775807)) (bv:s8 aT.abs aO=d.aJ.ls) (bz:bg=d.aJ.ls.length) (dU:Ro w D fun w'=>bA w' 4 U d.aJ.ls.length (q6 aT.cells aO)) (dV:d.aJ.ls.length≤V∧d.aJ.ls.length≤9223372036854775807) (dW:∀ x ∈ aO,Ro w D (fun w'=>bA w' 3 x.ah.A x.ah.ls.length (q6 ae.cells x.ah.ls))∧(x.ah.ls.length≤x.ah.c∧x.ah.ls.length≤9223372036854775807)∧(∀ y1 ∈ x.ah.ls,Ro w D (fun w'=>bA w' 2 y1.aj.A y1.aj.ls.length (q6 aI.cells y1.aj.ls))∧(y1.aj.ls.length≤y1.aj.c∧y1.aj.ls.length≤9223372036854775807))) (fM:d.ag.ls.length≤140737488355328∧d.ak.ls.length≤140737488355328∧d.aJ.ls.length≤140737488355328) (hr:nG d=r0):
    Calls y4 42 #[.agg #[vI d.av,vU d.ay,vU d.aX,vU d.aL, .slice S aZ T, .slice f bf p, .slice U bg V]] w (dR fun v w'=>v= .bool r0∧Own w D w' []):=by
 subst bq bu bz
 have dI:=az aB
 have dJ:=az bv
 refine cb Tryz.func42 ?_
 refine sr ?_
 refine dM [vI d.av,vU d.ay,vU d.aX,vU d.aL, .slice S d.ag.ls.length T, .slice f d.ak.ls.length p, .slice U d.aJ.ls.length V] 33 H ?_
 intro y fO aY
 refine An rfl (FW (sr (Kz (vP y 5) (Lz (.slice f d.ak.ls.length p) aY 0 D4 (Kz (vJ d.ak.ls.length) (Kz (.bool (decide (((d.ak.ls.length:Nat):Int) > 8))) (nt ?_)))))))
 by_cases G:((d.ak.ls.length:Nat):Int) > 8
 refine jT (dT G) (sr (An rfl (rt (tR (rs ?_)))))
 have dX:=aY.pk []
 obtain rfl:_=false:=hr.symm.trans (ip G)
 exact⟨rfl,dX⟩
 refine jF (dF G) (sk (FW (sr (Kz (vP y 5) (Lz (.slice f d.ak.ls.length p) aY 0 D4 (Kz (vJ d.ak.ls.length) (Mn rfl (bo ?_))))))))
 have dY:=aY.pf []
 obtain⟨dZ,aG⟩:=mZ fun (b:Nat) w'=>Own w D w' [blk y [vI d.av,vU d.ay,vU d.aX,vU d.aL, .slice S d.ag.ls.length T, .slice f d.ak.ls.length p, .slice U d.aJ.ls.length V] 33]∧b≤d.ak.ls.length∧dL d d.ak.ls 0=dL d (r6 b d.ak.ls) b
 refine C5 (fun i:Nat=> [(2, .bool false),(14,vJ i),(13,vJ d.ak.ls.length),(12, .slice f d.ak.ls.length p),(1,vP y 0)]) dZ (fun i=>d.ak.ls.length - i) 0 ⟨rfl,rfl,rfl,rfl,rfl,trivial⟩ (aG.2 ⟨dY,e6,rfl⟩) ?_
 rintro b fP bQ
 obtain⟨aP,eX,z⟩:=aG.1 bQ
 refine sr (Kz (.bool (decide (((b:Nat):Int) < ((d.ak.ls.length:Nat):Int)))) (nt (FW ?_)))
 by_cases bS:((b:Nat):Int) < ((d.ak.ls.length:Nat):Int)
 obtain⟨a,t⟩:=dK (ls:=ag) (i:=b) aA.len f3 (aP.ro O) e9
 have bT:=fo aB t
 have eY:=(o _ (E0 t)).2
 have C:=drop_at bT
 refine jT (dT bS) (sk (FW (bo (sr (Mz rfl (fw (.pointer (some ⟨ab f,ao f+b *5,none⟩)) (F4 (kG) rfl rfl ((aP.ro O).addr (i:=b) e6) e6) (fw (.agg (aA.cells a).toArray) (F7 rfl (Gf (cs:=(aA.cells a)) Tryz.isAgg60 Tryz.sizeOf60 ((aP.ro O).elem aA.len t f3))) ?_)))))))
 refine dM [.int .u64 0,vI 0, .int .u64 0, .int .u64 0, .slice none 0 0] 60 aP ?_
 intro j fQ d9
 refine Az rfl ?_
 refine dN (aA.cells a) 0 d9 Tryz.sizeOf60 ?_
 intro fT ed
 refine nt (FW (FW ?_))
 refine pJ [] (Gb (Gb (bL.block (Gb (Gb (bL.block (Gb Gj))))))) ed ?_
 intro fU aC
 refine qv 0 rfl rfl (qk (.bool (decide (((b:Nat):Int) > 0))) 1 rfl (qv 2 rfl rfl ?_))
 by_cases l:((b:Nat):Int) > 0
 refine F8 (v:=vP j 0) (rs:= []) 3 rfl rfl rfl (dT l) e7 (fun _ _=>yk) (F8 (v:=vU a.aU) (rs:= []) 4 rfl rfl rfl (dT l) e7 (fun _ ⟨_,H9⟩=>F7 rfl (bX.one E1 (jL.of (H9.cls (i:=0) rfl) rfl))) (F8 (v:=vP y 5) (rs:= []) 5 rfl rfl rfl (dT l) e7 (fun _ _=>yk) (F8 (v:= .slice f d.ak.ls.length p) (rs:= []) 6 rfl rfl rfl (dT l) e7 (fun _ ⟨_,H9⟩=>F7 rfl (bX.one D4 (jL.of (H9.cls (i:=1) rfl) rfl))) (F8 (v:=vJ b) (rs:= []) 7 rfl rfl rfl (dT l) e7 (fun _ _=>F9 rfl) (F8 (v:=vJ (b - 1)) (rs:= []) 8 rfl rfl rfl (dT l) e7 (fun _ _=>FX (e:=C7.wrap (((b:Nat):Int) - 1)) yk f1) ?_)))))
 obtain⟨N,aQ⟩:=jo (ls:=ag) (i:=b - 1) e9
 have P:=fo aB aQ
 have fe:=(o _ (E0 aQ)).2
 refine F8 (v:= .pointer (some ⟨ab f,ao f+(b - 1) *5,none⟩)) (rs:= []) 9 rfl rfl rfl (dT l) e7 (fun _ ⟨_,H9⟩=>F4 (kG) rfl rfl ((H9.ro O).addr (i:=b - 1) e6) e6) (F8 (v:= .pointer (some ⟨ab f,ao f+(b - 1) *5,none⟩)) (rs:= []) 10 rfl rfl rfl (dT l) e7 (fun _ _=>yk) (F8 (v:=vU N.aU) (rs:= []) 11 rfl rfl rfl (dT l) e7 (fun _ ⟨_,H9⟩=>F7 rfl (bX.one E1 (((H9.ro O).elem aA.len aQ f3).at_ (k:=0) rfl))) (F8 (v:= .bool (decide (((a.aU:Nat):Int)≤((N.aU:Nat):Int)))) (rs:= []) 12 rfl rfl rfl (dT l) e7 (fun _ _=>yk) (qt (v:= .bool (decide (((a.aU:Nat):Int)≤((N.aU:Nat):Int)))) 13 rfl (fun _ _=>Gd rfl (dT l) rfl) (qv 14 rfl rfl ?_)))))
 by_cases u:((a.aU:Nat):Int)≤((N.aU:Nat):Int)
 refine F5 (rs:= []) 15 rfl rfl rfl (dT u) e7 (F5 (rs:= []) 16 rfl rfl rfl (dT u) e7 (F5 (rs:= []) 17 rfl rfl rfl (dT u) e7 (F5 (rs:= []) 18 rfl rfl rfl (dT u) e7 (F5 (rs:= []) 19 rfl rfl rfl (dT u) e7 (F5 (rs:= []) 20 rfl rfl rfl (dT u) e7 (F5 (rs:= []) 21 rfl rfl rfl (dT u) e7 (qt (v:= .bool true) 22 rfl (fun _ _=>Gd rfl (dT u) rfl) (qn (FY (jt (sr (An rfl (rt (tR (bR (tR (tR (bR (tR (rs ?_))))))))))))))))))))
 have ek:=aC.pk []
 obtain rfl:_=false:=hr.symm.trans (et (iN G) (jq (et (z) (et (congrArg (fun q=>dL d q b) C) (et (ip l) (et (ai (bF P)) (ip u)))))))
 exact⟨rfl,ek⟩
 refine F8 (v:=vP j 0) (rs:= []) 15 rfl rfl rfl (dF u) e7 (fun _ _=>yk) (F8 (v:=vU a.aU) (rs:= []) 16 rfl rfl rfl (dF u) e7 (fun _ ⟨_,H9⟩=>F7 rfl (bX.one E1 (jL.of (H9.cls (i:=0) rfl) rfl))) (F8 (v:=vP y 1) (rs:= []) 17 rfl rfl rfl (dF u) e7 (fun _ _=>yk) (F8 (v:=vU d.ay) (rs:= []) 18 rfl rfl rfl (dF u) e7 (fun _ ⟨_,H9⟩=>F7 rfl (bX.one E1 (jL.of (H9.cls (i:=1) rfl) rfl))) (F8 (v:= .int .u64 ((D2 (D3.wrap (((d.ay:Nat):Int)+1)):Nat):Int)) (rs:= []) 19 rfl rfl rfl (dF u) e7 (fun _ _=>FX (e:=D3.wrap (((d.ay:Nat):Int)+1)) yk (fC _)) ?_))))
 have fq:fD (D2 (D3.wrap (((d.ay:Nat):Int)+1))) 32≤18446744073709551615:=oQ _ _
 refine F8 (v:= .int .u64 ((fD (D2 (D3.wrap (((d.ay:Nat):Int)+1))) 32:Nat):Int)) (rs:= []) 20 rfl rfl rfl (dF u) e7 (fun _ _=>FX (Hz (m:=32) rfl rfl) (fC _)) (F8 (v:= .bool (decide (((a.aU:Nat):Int) ≥ ((fD (D2 (D3.wrap (((d.ay:Nat):Int)+1))) 32:Nat):Int)))) (rs:= []) 21 rfl rfl rfl (dF u) e7 (fun _ _=>yk) (qt (v:= .bool (decide (((a.aU:Nat):Int) ≥ ((fD (D2 (D3.wrap (((d.ay:Nat):Int)+1))) 32:Nat):Int)))) 22 rfl (fun _ _=>FZ rfl (dF u) rfl) (qn (FY ?_))))
 by_cases ah:((a.aU:Nat):Int) ≥ ((fD (D2 (D3.wrap (((d.ay:Nat):Int)+1))) 32:Nat):Int)
 refine jT (dT ah) (sr (An rfl (rt (tR (bR (tR (tR (bR (tR (rs ?_))))))))))
 have eu:=aC.pk []
 obtain rfl:_=false:=hr.symm.trans (et (iN G) (jq (et (z) (et (congrArg (fun q=>dL d q b) C) (et (ip l) (et (ai (bF P)) (et (iN u) (ip ah))))))))
 exact⟨rfl,eu⟩
 refine jF (dF ah) (sk (FW (sr (Kz (vP j 1) (Lz (vI a.aN) aC 0 C6 ?_)))))
 obtain⟨Z,W⟩:∃ q,iJ a.aN 4=q:=⟨_,rfl⟩
 obtain⟨fV,bU,fu,bV,fA⟩:=F3 aC
 refine cl E2 (lT _ _ a.aN 4 Z bU W) ?_
 rintro _ fZ ⟨rfl,bW⟩
 have aR:=bV _ _ bW
 refine Kz (.bool (!Z)) (Mz rfl ?_)
 rcases JS (Z) with F | F
 refine Gz (vP j 4) (cn F) (Gl (.slice a.av.A a.av.ls.length a.av.c) (cn F) aR 0 E3 (Gz (vJ a.av.ls.length) (cn F) (Gz (.bool (decide (((a.av.ls.length:Nat):Int)=0))) (cn F) (fw (.bool (decide (((a.av.ls.length:Nat):Int)=0))) (FZ rfl (cn F) rfl) (nt ?_)))))
 by_cases aM:((a.av.ls.length:Nat):Int)=0
 refine jT (dT aM) (sr (An rfl (rt (tR (bR (tR (tR (bR (tR (rs ?_))))))))))
 have eB:=aR.pk []
 obtain rfl:_=false:=hr.symm.trans (et (iN G) (jq (et (z) (et (congrArg (fun q=>dL d q b) C) (et (ip l) (et (ai (bF P)) (et (iN u) (et (iN ah) (et (ai W) (et (ip F) (ip aM)))))))))))
 exact⟨rfl,eB⟩
 refine jF (dF aM) (sk (sr (Kz (vP j 4) (Lz (.slice a.av.A a.av.ls.length a.av.c) aR 0 E3 (Kz (vJ a.av.ls.length) (Mn rfl (bo ?_)))))))
 have eD:=aR.pf []
 obtain⟨eF,aH⟩:=mZ fun (h:Nat) w'=>Own w D w' [blk j (aA.cells a) 60,blk y [vI d.av,vU d.ay,vU d.aX,vU d.aL, .slice S d.ag.ls.length T, .slice f d.ak.ls.length p, .slice U d.aJ.ls.length V] 33]∧h≤a.av.ls.length∧dP d b (aA.abs a) a.av.ls 0=dP d b (aA.abs a) (r6 h a.av.ls) h
 refine C5 (fun i:Nat=> [(2, .bool false),(55,vJ i),(54,vJ a.av.ls.length),(53, .slice a.av.A a.av.ls.length a.av.c),(52,vP j 4),(51, .bool (decide (((a.av.ls.length:Nat):Int)=0))),(50, .bool (decide (((a.av.ls.length:Nat):Int)=0))),(49,vJ a.av.ls.length),(48, .slice a.av.A a.av.ls.length a.av.c),(47,vP j 4),(46, .bool (!Z)),(45, .bool (!Z)),(44, .bool Z),(43,vI a.aN),(42,vP j 1),(41, .bool (decide (((a.aU:Nat):Int) ≥ ((fD (D2 (D3.wrap (((d.ay:Nat):Int)+1))) 32:Nat):Int)))),(40, .bool (decide (((a.aU:Nat):Int) ≥ ((fD (D2 (D3.wrap (((d.ay:Nat):Int)+1))) 32:Nat):Int)))),(39, .int .u64 ((fD (D2 (D3.wrap (((d.ay:Nat):Int)+1))) 32:Nat):Int)),(38, .int .u64 ((D2 (D3.wrap (((d.ay:Nat):Int)+1)):Nat):Int)),(37,vU d.ay),(36,vP y 1),(35,vU a.aU),(34,vP j 0),(33, .bool (decide (((a.aU:Nat):Int)≤((N.aU:Nat):Int)))),(32, .bool (decide (((a.aU:Nat):Int)≤((N.aU:Nat):Int)))),(31, .bool (decide (((a.aU:Nat):Int)≤((N.aU:Nat):Int)))),(30,vU N.aU),(29, .pointer (some ⟨ab f,ao f+(b - 1) *5,none⟩)),(28, .pointer (some ⟨ab f,ao f+(b - 1) *5,none⟩)),(27,vJ (b - 1)),(26,vJ b),(25, .slice f d.ak.ls.length p),(24,vP y 5),(23,vU a.aU),(22,vP j 0),(21, .bool (decide (((b:Nat):Int) > 0))),(20, .bool (decide (((b:Nat):Int) > 0))),(19,vJ b),(3,vJ b),(4,vP j 0),(18, .agg (aA.cells a).toArray),(17, .pointer (some ⟨ab f,ao f+b *5,none⟩)),(16,vJ b),(15, .bool (decide (((b:Nat):Int) < ((d.ak.ls.length:Nat):Int)))),(14,vJ b),(13,vJ d.ak.ls.length),(12, .slice f d.ak.ls.length p),(1,vP y 0)]) eF (fun i=>a.av.ls.length - i) 0 ⟨rfl,rfl,rfl,rfl,rfl,rfl,rfl,rfl,rfl,rfl,rfl,rfl,rfl,rfl,rfl,rfl,rfl,rfl,rfl,rfl,rfl,rfl,rfl,rfl,rfl,rfl,rfl,rfl,rfl,rfl,rfl,rfl,rfl,rfl,rfl,rfl,rfl,rfl,rfl,rfl,rfl,rfl,rfl,rfl,rfl,rfl,rfl,rfl,trivial⟩ (aH.2 ⟨eD,e6,rfl⟩) ?_
 rintro h gm bY
 obtain⟨aN,fB,aj⟩:=aH.1 bY
 refine sr (Kz (.bool (decide (((h:Nat):Int) < ((a.av.ls.length:Nat):Int)))) (nt (FW ?_)))
 by_cases bZ:((h:Nat):Int) < ((a.av.ls.length:Nat):Int)
 obtain⟨ak,bi⟩:=dK (ls:=a.av.ls) (i:=h) iI f3 (aN.ro (o _ (E0 t)).1) e9
 have aJ:=drop_at bi
 refine jT (dT bZ) (sk (FW (bo (sr (Mz rfl (fw (.pointer (some ⟨ab a.av.A,ao a.av.A+h *1,none⟩)) (F4 (nk) rfl rfl ((aN.ro (o _ (E0 t)).1).addr (i:=h) e6) e6) (fw (vI ak) (F7 rfl (bX.one C6 (((aN.ro (o _ (E0 t)).1).elem iI bi f3).at_ (k:=0) rfl))) (Az rfl (Ar rfl (Mz rfl (Kz (vP y 0) (Lz (vI d.av) aN 1 C6 ?_))))))))))))
 obtain⟨bB,au⟩:∃ q,iJ ak d.av=q:=⟨_,rfl⟩
 obtain⟨gp,cu,fE,cz,fF⟩:=F3 aN
 refine cl E2 (lT _ _ ak d.av bB cu au) ?_
 rintro _ gq ⟨rfl,cB⟩
 have av:=cz _ _ cB
 refine Kz (.bool (!bB)) (Mz rfl ?_)
 rcases JS (bB) with E | E
 refine gw (vJ h) (cn E) (F9 rfl) (Gz (.bool (decide (((h:Nat):Int) > 0))) (cn E) (gw (.bool (decide (((h:Nat):Int) > 0))) (cn E) (F9 rfl) ?_))
 by_cases B:((h:Nat):Int) > 0
 refine gw (vI ak) (dT B) (F9 rfl) (Gz (vP j 4) (dT B) (Gl (.slice a.av.A a.av.ls.length a.av.c) (dT B) av 0 E3 (gw (vJ h) (dT B) (F9 rfl) (gw (vJ (h - 1)) (dT B) (FX (e:=C7.wrap (((h:Nat):Int) - 1)) yk f1) ?_))))
 obtain⟨aS,aU⟩:=dK (ls:=a.av.ls) (i:=h - 1) iI f3 (av.ro (o _ (E0 t)).1) e9
 refine gw (.pointer (some ⟨ab a.av.A,ao a.av.A+(h - 1) *1,none⟩)) (dT B) (F4 (nk) rfl rfl ((av.ro (o _ (E0 t)).1).addr (i:=h - 1) e6) e6) (gw (vI aS) (dT B) (F7 rfl (bX.one C6 (((av.ro (o _ (E0 t)).1).elem iI aU f3).at_ (k:=0) rfl))) (Gz (.bool (decide (ak≤aS))) (dT B) (gw (.bool (decide (ak≤aS))) (cn E) (Gd rfl (dT B) rfl) (fw (.bool (decide (ak≤aS))) (FZ rfl (cn E) rfl) (nt ?_)))))
 by_cases aK:ak≤aS
 refine jT (dT aK) (sr (An rfl (rt (bR (tR (tR (bR (bR (tR (tR (bR (tR (rs ?_)))))))))))))
 have cK:=av.pk []
 obtain rfl:_=false:=hr.symm.trans (et (iN G) (jq (et (z) (et (congrArg (fun q=>dL d q b) C) (et (ip l) (et (ai (bF P)) (et (iN u) (et (iN ah) (et (ai W) (et (ip F) (et (iN aM) (qw (et (aj) (et (congrArg (fun q=>dP d b (aA.abs a) q h) aJ) (et (ai au) (et (ip E) (et (ip B) (et (ai (bF aU)) (ip aK)))))))))))))))))))
 exact⟨rfl,cK⟩
 refine jF (dF aK) (Gn (bN (FY (FV (fw (vJ (h+1)) (FX (e:=C7.wrap (((h:Nat):Int)+1)) yk f1) (Mz rfl (D0 ?_)))))))
 have cO:=av.pf []
 exact Gc (h+1) ⟨rfl,rfl,rfl,rfl,rfl,rfl,rfl,rfl,rfl,rfl,rfl,rfl,rfl,rfl,rfl,rfl,rfl,rfl,rfl,rfl,rfl,rfl,rfl,rfl,rfl,rfl,rfl,rfl,rfl,rfl,rfl,rfl,rfl,rfl,rfl,rfl,rfl,rfl,rfl,rfl,rfl,rfl,rfl,rfl,rfl,rfl,rfl,rfl,trivial⟩ (aH.2 ⟨cO,e6,et (aj) (et (congrArg (fun q=>dP d b (aA.abs a) q h) aJ) (et (ai au) (et (ip E) (et (ip B) (et (ai (bF aU)) (iN aK))))))⟩) (by show a.av.ls.length - (h+1) < a.av.ls.length - h; omega)
 refine Sz (dF B) (Sz (dF B) (Sz (dF B) (Sz (dF B) (Sz (dF B) (Sz (dF B) (Sz (dF B) (Sz (dF B) (gw (.bool false) (cn E) (FZ rfl (dF B) rfl) (fw (.bool false) (FZ rfl (cn E) rfl) (nt (jf (Gn (bN (FY (FV (fw (vJ (h+1)) (FX (e:=C7.wrap (((h:Nat):Int)+1)) yk f1) (Mz rfl (D0 ?_))))))))))))))))))
 have cZ:=av.pf []
 exact Gc (h+1) ⟨rfl,rfl,rfl,rfl,rfl,rfl,rfl,rfl,rfl,rfl,rfl,rfl,rfl,rfl,rfl,rfl,rfl,rfl,rfl,rfl,rfl,rfl,rfl,rfl,rfl,rfl,rfl,rfl,rfl,rfl,rfl,rfl,rfl,rfl,rfl,rfl,rfl,rfl,rfl,rfl,rfl,rfl,rfl,rfl,rfl,rfl,rfl,rfl,trivial⟩ (aH.2 ⟨cZ,e6,et (aj) (et (congrArg (fun q=>dP d b (aA.abs a) q h) aJ) (et (ai au) (et (ip E) (iN B))))⟩) (by show a.av.ls.length - (h+1) < a.av.ls.length - h; omega)
 refine Sz (cn E) (Sz (cn E) (Sz (cn E) (Gw rfl rfl rfl (Gw rfl rfl rfl (Gw rfl rfl rfl (Gw rfl rfl rfl (Gw rfl rfl rfl (Gw rfl rfl rfl (Gw rfl rfl rfl (Gw rfl rfl rfl (Sz (cn E) (fw (.bool true) (Gd rfl (cn E) rfl) (nt (jt (sr (An rfl (rt (bR (tR (tR (bR (bR (tR (tR (bR (tR (rs ?_)))))))))))))))))))))))))))
 have df:=av.pk []
 obtain rfl:_=false:=hr.symm.trans (et (iN G) (jq (et (z) (et (congrArg (fun q=>dL d q b) C) (et (ip l) (et (ai (bF P)) (et (iN u) (et (iN ah) (et (ai W) (et (ip F) (et (iN aM) (qw (et (aj) (et (congrArg (fun q=>dP d b (aA.abs a) q h) aJ) (et (ai au) (gB E))))))))))))))))
 exact⟨rfl,df⟩
 refine jF (dF bZ) (D1 (F6 ?_))
 have bC:dP d b (aA.abs a) a.av.ls 0=C1 ():=et (aj) (et (congrArg (fun q=>dP d b (aA.abs a) q h) (eZ (ls:=a.av.ls) (i:=h) e6)) rfl)
 refine F6 (Gi (bN (FY (FV (fw (vJ (b+1)) (FX (e:=C7.wrap (((b:Nat):Int)+1)) yk f1) (Mz rfl (D0 ?_)))))))
 have dh:=aN.pk [1]
 exact Gc (b+1) ⟨rfl,rfl,rfl,rfl,rfl,trivial⟩ (aG.2 ⟨dh,e6,et (z) (et (congrArg (fun q=>dL d q b) C) (et (ip l) (et (ai (bF P)) (et (iN u) (et (iN ah) (et (ai W) (et (ip F) (et (iN aM) (tH bC)))))))))⟩) (by show d.ak.ls.length - (b+1) < d.ak.ls.length - b; omega)
 refine Sz (cn F) (Sz (cn F) (Sz (cn F) (Sz (cn F) (fw (.bool true) (Gd rfl (cn F) rfl) (nt (jt (sr (An rfl (rt (tR (bR (tR (tR (bR (tR (rs ?_))))))))))))))))
 have dm:=aR.pk []
 obtain rfl:_=false:=hr.symm.trans (et (iN G) (jq (et (z) (et (congrArg (fun q=>dL d q b) C) (et (ip l) (et (ai (bF P)) (et (iN u) (et (iN ah) (et (ai W) (gB F))))))))))
 exact⟨rfl,dm⟩
 refine F5 (rs:= []) 3 rfl rfl rfl (dF l) e7 (F5 (rs:= []) 4 rfl rfl rfl (dF l) e7 (F5 (rs:= []) 5 rfl rfl rfl (dF l) e7 (F5 (rs:= []) 6 rfl rfl rfl (dF l) e7 (F5 (rs:= []) 7 rfl rfl rfl (dF l) e7 (F5 (rs:= []) 8 rfl rfl rfl (dF l) e7 (F5 (rs:= []) 9 rfl rfl rfl (dF l) e7 (F5 (rs:= []) 10 rfl rfl rfl (dF l) e7 (F5 (rs:= []) 11 rfl rfl rfl (dF l) e7 (F5 (rs:= []) 12 rfl rfl rfl (dF l) e7 (qt (v:= .bool false) 13 rfl (fun _ _=>FZ rfl (dF l) rfl) (qv 14 rfl rfl (F8 (v:=vP j 0) (rs:= []) 15 rfl rfl rfl rfl e7 (fun _ _=>yk) (F8 (v:=vU a.aU) (rs:= []) 16 rfl rfl rfl rfl e7 (fun _ ⟨_,H9⟩=>F7 rfl (bX.one E1 (jL.of (H9.cls (i:=0) rfl) rfl))) (F8 (v:=vP y 1) (rs:= []) 17 rfl rfl rfl rfl e7 (fun _ _=>yk) (F8 (v:=vU d.ay) (rs:= []) 18 rfl rfl rfl rfl e7 (fun _ ⟨_,H9⟩=>F7 rfl (bX.one E1 (jL.of (H9.cls (i:=1) rfl) rfl))) (F8 (v:= .int .u64 ((D2 (D3.wrap (((d.ay:Nat):Int)+1)):Nat):Int)) (rs:= []) 19 rfl rfl rfl rfl e7 (fun _ _=>FX (e:=D3.wrap (((d.ay:Nat):Int)+1)) yk (fC _)) ?_))))))))))))))))
 have eG:fD (D2 (D3.wrap (((d.ay:Nat):Int)+1))) 32≤18446744073709551615:=oQ _ _
 refine F8 (v:= .int .u64 ((fD (D2 (D3.wrap (((d.ay:Nat):Int)+1))) 32:Nat):Int)) (rs:= []) 20 rfl rfl rfl rfl e7 (fun _ _=>FX (Hz (m:=32) rfl rfl) (fC _)) (F8 (v:= .bool (decide (((a.aU:Nat):Int) ≥ ((fD (D2 (D3.wrap (((d.ay:Nat):Int)+1))) 32:Nat):Int)))) (rs:= []) 21 rfl rfl rfl rfl e7 (fun _ _=>yk) (qt (v:= .bool (decide (((a.aU:Nat):Int) ≥ ((fD (D2 (D3.wrap (((d.ay:Nat):Int)+1))) 32:Nat):Int)))) 22 rfl (fun _ _=>FZ rfl rfl rfl) (qn (FY ?_))))
 by_cases K:((a.aU:Nat):Int) ≥ ((fD (D2 (D3.wrap (((d.ay:Nat):Int)+1))) 32:Nat):Int)
 refine jT (dT K) (sr (An rfl (rt (tR (bR (tR (tR (bR (tR (rs ?_))))))))))
 have dn:=aC.pk []
 obtain rfl:_=false:=hr.symm.trans (et (iN G) (jq (et (z) (et (congrArg (fun q=>dL d q b) C) (et (iN l) (ip K))))))
 exact⟨rfl,dn⟩
 refine jF (dF K) (sk (FW (sr (Kz (vP j 1) (Lz (vI a.aN) aC 0 C6 ?_)))))
 obtain⟨I,J⟩:∃ q,iJ a.aN 4=q:=⟨_,rfl⟩
 obtain⟨fG,bD,eH,bE,eO⟩:=F3 aC
 refine cl E2 (lT _ _ a.aN 4 I bD J) ?_
 rintro _ fH ⟨rfl,bG⟩
 have ax:=bE _ _ bG
 refine Kz (.bool (!I)) (Mz rfl ?_)
 rcases JS (I) with s | s
 refine Gz (vP j 4) (cn s) (Gl (.slice a.av.A a.av.ls.length a.av.c) (cn s) ax 0 E3 (Gz (vJ a.av.ls.length) (cn s) (Gz (.bool (decide (((a.av.ls.length:Nat):Int)=0))) (cn s) (fw (.bool (decide (((a.av.ls.length:Nat):Int)=0))) (FZ rfl (cn s) rfl) (nt ?_)))))
 by_cases X:((a.av.ls.length:Nat):Int)=0
 refine jT (dT X) (sr (An rfl (rt (tR (bR (tR (tR (bR (tR (rs ?_))))))))))
 have dw:=ax.pk []
 obtain rfl:_=false:=hr.symm.trans (et (iN G) (jq (et (z) (et (congrArg (fun q=>dL d q b) C) (et (iN l) (et (iN K) (et (ai J) (et (ip s) (ip X)))))))))
 exact⟨rfl,dw⟩
 refine jF (dF X) (sk (sr (Kz (vP j 4) (Lz (.slice a.av.A a.av.ls.length a.av.c) ax 0 E3 (Kz (vJ a.av.ls.length) (Mn rfl (bo ?_)))))))
 have dx:=ax.pf []
 obtain⟨dz,aa⟩:=mZ fun (g:Nat) w'=>Own w D w' [blk j (aA.cells a) 60,blk y [vI d.av,vU d.ay,vU d.aX,vU d.aL, .slice S d.ag.ls.length T, .slice f d.ak.ls.length p, .slice U d.aJ.ls.length V] 33]∧g≤a.av.ls.length∧gu d b (aA.abs a) a.av.ls 0=gu d b (aA.abs a) (r6 g a.av.ls) g
 refine C5 (fun i:Nat=> [(2, .bool false),(55,vJ i),(54,vJ a.av.ls.length),(53, .slice a.av.A a.av.ls.length a.av.c),(52,vP j 4),(51, .bool (decide (((a.av.ls.length:Nat):Int)=0))),(50, .bool (decide (((a.av.ls.length:Nat):Int)=0))),(49,vJ a.av.ls.length),(48, .slice a.av.A a.av.ls.length a.av.c),(47,vP j 4),(46, .bool (!I)),(45, .bool (!I)),(44, .bool I),(43,vI a.aN),(42,vP j 1),(41, .bool (decide (((a.aU:Nat):Int) ≥ ((fD (D2 (D3.wrap (((d.ay:Nat):Int)+1))) 32:Nat):Int)))),(40, .bool (decide (((a.aU:Nat):Int) ≥ ((fD (D2 (D3.wrap (((d.ay:Nat):Int)+1))) 32:Nat):Int)))),(39, .int .u64 ((fD (D2 (D3.wrap (((d.ay:Nat):Int)+1))) 32:Nat):Int)),(38, .int .u64 ((D2 (D3.wrap (((d.ay:Nat):Int)+1)):Nat):Int)),(37,vU d.ay),(36,vP y 1),(35,vU a.aU),(34,vP j 0),(33, .bool false),(32, .bool false),(31,undef),(30,undef),(29,undef),(28,undef),(27,undef),(26,undef),(25,undef),(24,undef),(23,undef),(22,undef),(21, .bool (decide (((b:Nat):Int) > 0))),(20, .bool (decide (((b:Nat):Int) > 0))),(19,vJ b),(3,vJ b),(4,vP j 0),(18, .agg (aA.cells a).toArray),(17, .pointer (some ⟨ab f,ao f+b *5,none⟩)),(16,vJ b),(15, .bool (decide (((b:Nat):Int) < ((d.ak.ls.length:Nat):Int)))),(14,vJ b),(13,vJ d.ak.ls.length),(12, .slice f d.ak.ls.length p),(1,vP y 0)]) dz (fun i=>a.av.ls.length - i) 0 ⟨rfl,rfl,rfl,rfl,rfl,rfl,rfl,rfl,rfl,rfl,rfl,rfl,rfl,rfl,rfl,rfl,rfl,rfl,rfl,rfl,rfl,rfl,rfl,rfl,rfl,rfl,rfl,rfl,rfl,rfl,rfl,rfl,rfl,rfl,rfl,rfl,rfl,rfl,rfl,rfl,rfl,rfl,rfl,rfl,rfl,rfl,rfl,rfl,trivial⟩ (aa.2 ⟨dx,e6,rfl⟩) ?_
 rintro g fI bH
 obtain⟨Y,eP,Q⟩:=aa.1 bH
 refine sr (Kz (.bool (decide (((g:Nat):Int) < ((a.av.ls.length:Nat):Int)))) (nt (FW ?_)))
 by_cases bn:((g:Nat):Int) < ((a.av.ls.length:Nat):Int)
 obtain⟨L,aV⟩:=dK (ls:=a.av.ls) (i:=g) iI f3 (Y.ro (o _ (E0 t)).1) e9
 have af:=drop_at aV
 refine jT (dT bn) (sk (FW (bo (sr (Mz rfl (fw (.pointer (some ⟨ab a.av.A,ao a.av.A+g *1,none⟩)) (F4 (nk) rfl rfl ((Y.ro (o _ (E0 t)).1).addr (i:=g) e6) e6) (fw (vI L) (F7 rfl (bX.one C6 (((Y.ro (o _ (E0 t)).1).elem iI aV f3).at_ (k:=0) rfl))) (Az rfl (Ar rfl (Mz rfl (Kz (vP y 0) (Lz (vI d.av) Y 1 C6 ?_))))))))))))
 obtain⟨aX,R⟩:∃ q,iJ L d.av=q:=⟨_,rfl⟩
 obtain⟨fJ,bI,eQ,bJ,eT⟩:=F3 Y
 refine cl E2 (lT _ _ L d.av aX bI R) ?_
 rintro _ fK ⟨rfl,bK⟩
 have M:=bJ _ _ bK
 refine Kz (.bool (!aX)) (Mz rfl ?_)
 rcases JS (aX) with r | r
 refine gw (vJ g) (cn r) (F9 rfl) (Gz (.bool (decide (((g:Nat):Int) > 0))) (cn r) (gw (.bool (decide (((g:Nat):Int) > 0))) (cn r) (F9 rfl) ?_))
 by_cases n:((g:Nat):Int) > 0
 refine gw (vI L) (dT n) (F9 rfl) (Gz (vP j 4) (dT n) (Gl (.slice a.av.A a.av.ls.length a.av.c) (dT n) M 0 E3 (gw (vJ g) (dT n) (F9 rfl) (gw (vJ (g - 1)) (dT n) (FX (e:=C7.wrap (((g:Nat):Int) - 1)) yk f1) ?_))))
 obtain⟨ay,aF⟩:=dK (ls:=a.av.ls) (i:=g - 1) iI f3 (M.ro (o _ (E0 t)).1) e9
 refine gw (.pointer (some ⟨ab a.av.A,ao a.av.A+(g - 1) *1,none⟩)) (dT n) (F4 (nk) rfl rfl ((M.ro (o _ (E0 t)).1).addr (i:=g - 1) e6) e6) (gw (vI ay) (dT n) (F7 rfl (bX.one C6 (((M.ro (o _ (E0 t)).1).elem iI aF f3).at_ (k:=0) rfl))) (Gz (.bool (decide (L≤ay))) (dT n) (gw (.bool (decide (L≤ay))) (cn r) (Gd rfl (dT n) rfl) (fw (.bool (decide (L≤ay))) (FZ rfl (cn r) rfl) (nt ?_)))))
 by_cases aL:L≤ay
 refine jT (dT aL) (sr (An rfl (rt (bR (tR (tR (bR (bR (tR (tR (bR (tR (rs ?_)))))))))))))
 have dA:=M.pk []
 obtain rfl:_=false:=hr.symm.trans (et (iN G) (jq (et (z) (et (congrArg (fun q=>dL d q b) C) (et (iN l) (et (iN K) (et (ai J) (et (ip s) (et (iN X) (qw (et (Q) (et (congrArg (fun q=>gu d b (aA.abs a) q g) af) (et (ai R) (et (ip r) (et (ip n) (et (ai (bF aF)) (ip aL)))))))))))))))))
 exact⟨rfl,dA⟩
 refine jF (dF aL) (Gn (bN (FY (FV (fw (vJ (g+1)) (FX (e:=C7.wrap (((g:Nat):Int)+1)) yk f1) (Mz rfl (D0 ?_)))))))
 have dB:=M.pf []
 exact Gc (g+1) ⟨rfl,rfl,rfl,rfl,rfl,rfl,rfl,rfl,rfl,rfl,rfl,rfl,rfl,rfl,rfl,rfl,rfl,rfl,rfl,rfl,rfl,rfl,rfl,rfl,rfl,rfl,rfl,rfl,rfl,rfl,rfl,rfl,rfl,rfl,rfl,rfl,rfl,rfl,rfl,rfl,rfl,rfl,rfl,rfl,rfl,rfl,rfl,rfl,trivial⟩ (aa.2 ⟨dB,e6,et (Q) (et (congrArg (fun q=>gu d b (aA.abs a) q g) af) (et (ai R) (et (ip r) (et (ip n) (et (ai (bF aF)) (iN aL))))))⟩) (by show a.av.ls.length - (g+1) < a.av.ls.length - g; omega)
 refine Sz (dF n) (Sz (dF n) (Sz (dF n) (Sz (dF n) (Sz (dF n) (Sz (dF n) (Sz (dF n) (Sz (dF n) (gw (.bool false) (cn r) (FZ rfl (dF n) rfl) (fw (.bool false) (FZ rfl (cn r) rfl) (nt (jf (Gn (bN (FY (FV (fw (vJ (g+1)) (FX (e:=C7.wrap (((g:Nat):Int)+1)) yk f1) (Mz rfl (D0 ?_))))))))))))))))))
 have dC:=M.pf []
 exact Gc (g+1) ⟨rfl,rfl,rfl,rfl,rfl,rfl,rfl,rfl,rfl,rfl,rfl,rfl,rfl,rfl,rfl,rfl,rfl,rfl,rfl,rfl,rfl,rfl,rfl,rfl,rfl,rfl,rfl,rfl,rfl,rfl,rfl,rfl,rfl,rfl,rfl,rfl,rfl,rfl,rfl,rfl,rfl,rfl,rfl,rfl,rfl,rfl,rfl,rfl,trivial⟩ (aa.2 ⟨dC,e6,et (Q) (et (congrArg (fun q=>gu d b (aA.abs a) q g) af) (et (ai R) (et (ip r) (iN n))))⟩) (by show a.av.ls.length - (g+1) < a.av.ls.length - g; omega)
 refine Sz (cn r) (Sz (cn r) (Sz (cn r) (Gw rfl rfl rfl (Gw rfl rfl rfl (Gw rfl rfl rfl (Gw rfl rfl rfl (Gw rfl rfl rfl (Gw rfl rfl rfl (Gw rfl rfl rfl (Gw rfl rfl rfl (Sz (cn r) (fw (.bool true) (Gd rfl (cn r) rfl) (nt (jt (sr (An rfl (rt (bR (tR (tR (bR (bR (tR (tR (bR (tR (rs ?_)))))))))))))))))))))))))))
 have dD:=M.pk []
 obtain rfl:_=false:=hr.symm.trans (et (iN G) (jq (et (z) (et (congrArg (fun q=>dL d q b) C) (et (iN l) (et (iN K) (et (ai J) (et (ip s) (et (iN X) (qw (et (Q) (et (congrArg (fun q=>gu d b (aA.abs a) q g) af) (et (ai R) (gB r))))))))))))))
 exact⟨rfl,dD⟩
 refine jF (dF bn) (D1 (F6 ?_))
 have bM:gu d b (aA.abs a) a.av.ls 0=C1 ():=et (Q) (et (congrArg (fun q=>gu d b (aA.abs a) q g) (eZ (ls:=a.av.ls) (i:=g) e6)) rfl)
 refine F6 (Gi (bN (FY (FV (fw (vJ (b+1)) (FX (e:=C7.wrap (((b:Nat):Int)+1)) yk f1) (Mz rfl (D0 ?_)))))))
 have dE:=Y.pk [1]
 exact Gc (b+1) ⟨rfl,rfl,rfl,rfl,rfl,trivial⟩ (aG.2 ⟨dE,e6,et (z) (et (congrArg (fun q=>dL d q b) C) (et (iN l) (et (iN K) (et (ai J) (et (ip s) (et (iN X) (tH bM)))))))⟩) (by show d.ak.ls.length - (b+1) < d.ak.ls.length - b; omega)
 refine Sz (cn s) (Sz (cn s) (Sz (cn s) (Sz (cn s) (fw (.bool true) (Gd rfl (cn s) rfl) (nt (jt (sr (An rfl (rt (tR (bR (tR (tR (bR (tR (rs ?_))))))))))))))))
 have dG:=ax.pk []
 obtain rfl:_=false:=hr.symm.trans (et (iN G) (jq (et (z) (et (congrArg (fun q=>dL d q b) C) (et (iN l) (et (iN K) (et (ai J) (gB s))))))))
 exact⟨rfl,dG⟩
 refine jF (dF bS) (D1 (F6 ?_))
 have bO:dL d d.ak.ls 0=C1 ():=et (z) (et (congrArg (fun q=>dL d q b) (eZ (ls:=d.ak.ls) (i:=b) e6)) rfl)
 refine F6 (Gi (FY (sr (An rfl (rt (rs ?_))))))
 have dH:=aP.pk []
 obtain rfl:_=true:=hr.symm.trans (et (iN G) (nU bO))
 exact⟨rfl,dH⟩
def gK:List aI→Unit ⊕ Bool
  | []=>C1 ()
  | a::c=>bnd (gF a.bW) fun b=>if b=0 then if((a.aQ.length:Nat):Int) > 16 then C3 (false) else gK c else C3 (false)
def kv (a:aS):Bool:=
 if((a.aQ.length:Nat):Int) > 16 then false else if((a.aj.ls.length:Nat):Int) > 4 then false else lp (gK a.aj.ls) fun _=>true
theorem qL (w D) (a:aS) (f x h X) (H:Own w D w []) (B:x=a.aj.ls.length) (j:Ro w D fun w'=>bA w' 2 f a.aj.ls.length (q6 aI.cells a.aj.ls)) (N:a.aj.ls.length≤h∧a.aj.ls.length≤9223372036854775807) (hr:kv a=X):
    Calls y4 73 #[.agg #[.bool a.dZ, .string ⟨y6 a.aQ⟩, .slice f x h]] w (dR fun v w'=>v= .bool X∧Own w D w' []):=by
 subst B
 refine cb Tryz.func73 ?_
 refine sr ?_
 refine dM [.bool a.dZ, .string ⟨y6 a.aQ⟩, .slice f a.aj.ls.length h] 149 H ?_
 intro C ae m
 refine An rfl (FW (sr (Kz (vP C 1) (Lz (.string ⟨y6 a.aQ⟩) m 0 C4 (Kz (vJ a.aQ.length) (Kz (.bool (decide (((a.aQ.length:Nat):Int) > 16))) (Mz rfl ?_)))))))
 by_cases b:((a.aQ.length:Nat):Int) > 16
 refine Sz (dT b) (Sz (dT b) (Sz (dT b) (Sz (dT b) (fw (.bool true) (Gd rfl (dT b) rfl) (nt (jt (sr (An rfl (rt (tR (rs ?_)))))))))))
 have O:=m.pk []
 obtain rfl:_=false:=hr.symm.trans (ip b)
 exact⟨rfl,O⟩
 refine Gz (vP C 2) (dF b) (Gl (.slice f a.aj.ls.length h) (dF b) m 0 Tryz.isAgg147 (Gz (vJ a.aj.ls.length) (dF b) (Gz (.bool (decide (((a.aj.ls.length:Nat):Int) > 4))) (dF b) (fw (.bool (decide (((a.aj.ls.length:Nat):Int) > 4))) (FZ rfl (dF b) rfl) (nt ?_)))))
 by_cases n:((a.aj.ls.length:Nat):Int) > 4
 refine jT (dT n) (sr (An rfl (rt (tR (rs ?_)))))
 have P:=m.pk []
 obtain rfl:_=false:=hr.symm.trans (et (iN b) (ip n))
 exact⟨rfl,P⟩
 refine jF (dF n) (sk (FW (sr (Kz (vP C 2) (Lz (.slice f a.aj.ls.length h) m 0 Tryz.isAgg147 (Kz (vJ a.aj.ls.length) (Mn rfl (bo ?_))))))))
 have Q:=m.pk []
 obtain⟨R,p⟩:=mZ fun (c:Nat) w'=>Own w D w' []∧c≤a.aj.ls.length∧gK a.aj.ls=gK (r6 c a.aj.ls)
 refine C5 (fun i:Nat=> [(2, .bool false),(18,vJ i),(17,vJ a.aj.ls.length),(16, .slice f a.aj.ls.length h)]) R (fun i=>a.aj.ls.length - i) 0 ⟨rfl,rfl,rfl,rfl,trivial⟩ (p.2 ⟨Q,e6,rfl⟩) ?_
 rintro c af E
 obtain⟨r,Y,k⟩:=p.1 E
 refine sr (Kz (.bool (decide (((c:Nat):Int) < ((a.aj.ls.length:Nat):Int)))) (nt (FW ?_)))
 by_cases F:((c:Nat):Int) < ((a.aj.ls.length:Nat):Int)
 obtain⟨d,y⟩:=dK (ls:=a.aj.ls) (i:=c) aI.len f3 (r.ro j) e9
 have s:=drop_at y
 refine jT (dT F) (sk (FW (bo (sr (fw (.pointer (some ⟨ab f,ao f+c *2,none⟩)) (F4 (jO) rfl rfl ((r.ro j).addr (i:=c) e6) e6) (fw (.agg (aI.cells d).toArray) (F7 rfl (Gf (cs:=(aI.cells d)) Tryz.isAgg153 Tryz.sizeOf153 ((r.ro j).elem aI.len y f3))) ?_))))))
 refine dM [.string ⟨y6 ([])⟩, .string ⟨y6 ([])⟩] 153 r ?_
 intro G ag S
 refine dN (aI.cells d) 0 S Tryz.sizeOf153 ?_
 intro ah I
 refine ns (Kz (vP G 0) (Lz (.string ⟨y6 d.bW⟩) I 0 C4 ?_))
 obtain⟨o,l⟩:∃ q,gF d.bW=q:=⟨_,rfl⟩
 obtain⟨aj,J,Z,K,aa⟩:=F3 I
 refine cl Tryz.call112 (ku _ _ d.bW o J l) ?_
 rintro _ ak ⟨rfl,L,z,A⟩
 have t:=K _ _ L
 replace z: ¬ (o=0)∨(1≤d.bW.length∧d.bW.length≤12):=z
 replace A:d.bW.length < 1∨d.bW.length > 12∨o=0:=A
 refine fw (.bool (decide (¬ (o=0)))) (Gm (e:= !(decide (o=0))) yk decide_not.symm) (Mz rfl ?_)
 by_cases g:o=0
 refine gw (vP G 1) (dF (JR g)) yk (gw (.string ⟨y6 d.aQ⟩) (dF (JR g)) (F7 rfl (bX.one C4 (jL.of (t.cls (i:=0) rfl) rfl))) (gw (vJ d.aQ.length) (dF (JR g)) yk (gw (.bool (decide (((d.aQ.length:Nat):Int) > 16))) (dF (JR g)) yk (fw (.bool (decide (((d.aQ.length:Nat):Int) > 16))) (FZ rfl (dF (JR g)) rfl) (nt ?_)))))
 by_cases u:((d.aQ.length:Nat):Int) > 16
 refine jT (dT u) (sr (An rfl (rt (bR (tR (tR (bR (tR (rs ?_)))))))))
 have T:=t.pk []
 obtain rfl:_=false:=hr.symm.trans (et (iN b) (et (iN n) (jq (et (k) (et (congrArg (fun q=>gK q) s) (et (ai l) (et (ip g) (ip u))))))))
 exact⟨rfl,T⟩
 refine jF (dF u) (Gn (bN (FY (FV (fw (vJ (c+1)) (FX (e:=C7.wrap (((c:Nat):Int)+1)) yk f1) (Mz rfl (D0 ?_)))))))
 have U:=t.pk []
 exact Gc (c+1) ⟨rfl,rfl,rfl,rfl,trivial⟩ (p.2 ⟨U,e6,et (k) (et (congrArg (fun q=>gK q) s) (et (ai l) (et (ip g) (iN u))))⟩) (by show a.aj.ls.length - (c+1) < a.aj.ls.length - c; omega)
 refine Sz (dT g) (Sz (dT g) (Sz (dT g) (Sz (dT g) (fw (.bool true) (Gd rfl (dT g) rfl) (nt (jt (sr (An rfl (rt (bR (tR (tR (bR (tR (rs ?_)))))))))))))))
 have V:=t.pk []
 obtain rfl:_=false:=hr.symm.trans (et (iN b) (et (iN n) (jq (et (k) (et (congrArg (fun q=>gK q) s) (et (ai l) (iN g)))))))
 exact⟨rfl,V⟩
 refine jF (dF F) (D1 (F6 ?_))
 have M:gK a.aj.ls=C1 ():=et (k) (et (congrArg (fun q=>gK q) (eZ (ls:=a.aj.ls) (i:=c) e6)) rfl)
 refine F6 (Gi (FY (sr (An rfl (rt (rs ?_))))))
 have W:=r.pk []
 obtain rfl:_=true:=hr.symm.trans (et (iN b) (et (iN n) (nU M)))
 exact⟨rfl,W⟩
def fV (e:Nat) (c:fE):Nat→Nat→Unit ⊕ Bool
  | 0,b=>C1 ()
  | f+1,b=>bnd (C2 c.ah.ls b default) fun a=>bnd (kv (aS.mk a.dZ a.aQ (E4 a.aj.ls))) fun d=>if d=true then fV e c f (b+1) else C3 (false)
def jb (f:Nat) (d:fE):Nat→Nat→Unit ⊕ Bool
  | 0,b=>C1 ()
  | e+1,b=>bnd (C2 d.ah.ls b default) fun a=>bnd (kv (aS.mk a.dZ a.aQ (E4 a.aj.ls))) fun c=>if c=true then jb f d e (b+1) else C3 (false)
def fJ (l0:List fE):List fE→Nat→Unit ⊕ Bool
  | [],b=>C1 ()
  | a::c,b=>bnd (iJ a.aN 4) fun d=>if d=true then if((b:Nat):Int) > 0 then bnd (C2 l0 (b - 1) default) fun e=>if a.aN≤e.aN then C3 (false) else if((a.ah.ls.length:Nat):Int) > 4 then C3 (false) else sK (fV b a a.ah.ls.length 0) fun _=>fJ l0 c (b+1) else if((a.ah.ls.length:Nat):Int) > 4 then C3 (false) else sK (jb b a a.ah.ls.length 0) fun _=>fJ l0 c (b+1) else C3 (false)
def o5 (l0:List fE):Bool:=
 if((l0.length:Nat):Int) > 4 then false else lp (fJ l0 l0 0) fun _=>true
theorem wD (w D o n0 K d0 l0 r0) (H:Own w D w []) (av:s8 aT.abs d0=l0) (R:Ro w D fun w'=>bA w' 4 o n0 (q6 aT.cells d0)) (B:∀ x ∈ d0,Ro w D (fun w'=>bA w' 3 x.ah.A x.ah.ls.length (q6 ae.cells x.ah.ls))∧(x.ah.ls.length≤x.ah.c∧x.ah.ls.length≤9223372036854775807)∧(∀ y1 ∈ x.ah.ls,Ro w D (fun w'=>bA w' 2 y1.aj.A y1.aj.ls.length (q6 aI.cells y1.aj.ls))∧(y1.aj.ls.length≤y1.aj.c∧y1.aj.ls.length≤9223372036854775807))) (bG:n0=l0.length) (dE:l0.length≤9223372036854775807) (hr:o5 l0=r0):
    Calls y4 43 #[.slice o n0 K] w (dR fun v w'=>v= .bool r0∧Own w D w' []):=by
 subst bG
 have cz:=az av
 refine cb Tryz.func43 ?_
 refine sr (An rfl (FW (sr (Mz rfl (Kz (vJ l0.length) (Kz (.bool (decide (((l0.length:Nat):Int) > 4))) (nt ?_)))))))
 by_cases C:((l0.length:Nat):Int) > 4
 refine jT (dT C) (sr (An rfl (rt (tR (rs ?_)))))
 have bH:=H.pk []
 obtain rfl:_=false:=hr.symm.trans (ip C)
 exact⟨rfl,bH⟩
 refine jF (dF C) (sk (FW (sr (Mz rfl (Kz (vJ l0.length) (Mn rfl (bo ?_)))))))
 have bI:=H.pk []
 obtain⟨bJ,O⟩:=mZ fun (b:Nat) w'=>Own w D w' []∧b≤l0.length∧fJ l0 l0 0=fJ l0 (r6 b l0) b
 refine C5 (fun i:Nat=> [(2, .bool false),(12,vJ i),(11,vJ l0.length),(10, .slice o l0.length K),(0, .slice o l0.length K)]) bJ (fun i=>l0.length - i) 0 ⟨rfl,rfl,rfl,rfl,rfl,trivial⟩ (O.2 ⟨bI,e6,rfl⟩) ?_
 rintro b dG aK
 obtain⟨S,cB,t⟩:=O.1 aK
 refine sr (Kz (.bool (decide (((b:Nat):Int) < ((l0.length:Nat):Int)))) (nt (FW ?_)))
 by_cases aL:((b:Nat):Int) < ((l0.length:Nat):Int)
 obtain⟨a,m⟩:=dK (ls:=d0) (i:=b) aT.len f3 (S.ro R) e9
 have aM:=fo av m
 have cK:=(B _ (E0 m)).2.1
 have cO:s2 (s8 ae.abs a.ah.ls)=a.ah.ls.length:=s6 ..
 have z:=drop_at aM
 refine jT (dT aL) (sk (FW (bo (sr (Mz rfl (fw (.pointer (some ⟨ab o,ao o+b *4,none⟩)) (F4 (lN) rfl rfl ((S.ro R).addr (i:=b) e6) e6) (fw (.agg (aT.cells a).toArray) (F7 rfl (Gf (cs:=(aT.cells a)) Tryz.isAgg56 Tryz.sizeOf56 ((S.ro R).elem aT.len m f3))) ?_)))))))
 refine dM [vI 0, .int .u64 0, .int .u64 0, .slice none 0 0] 56 S ?_
 intro g dH bK
 refine Az rfl ?_
 refine dN (aT.cells a) 0 bK Tryz.sizeOf56 ?_
 intro dI bM
 refine nt (FW (FW ?_))
 refine vo [] (Gb (Gb (bL.block (Gb (Gb (bL.block (Gb Gj))))))) bM ?_
 intro dJ bO
 refine qp g 0 0 rfl (ql 1 rfl 0 C6 rfl rfl rfl ?_)
 obtain⟨s,u⟩:∃ q,iJ a.aN 4=q:=⟨_,rfl⟩
 obtain⟨dL,aN,cZ,aO,df⟩:=F3 bO
 refine qd 2 rfl (Gg E2 rfl (lT _ _ a.aN 4 s aN u) ?_)
 rintro _ dO ⟨rfl,aP⟩
 have E:=aO _ _ aP
 refine⟨.inr ⟨_,E⟩, ?_⟩
 refine qk (.bool (!s)) 3 rfl (qv 4 rfl rfl ?_)
 rcases JS (s) with j | j
 refine F8 (v:=vJ b) (rs:= []) 5 rfl rfl rfl (cn j) e7 (fun _ _=>F9 rfl) (F8 (v:= .bool (decide (((b:Nat):Int) > 0))) (rs:= []) 6 rfl rfl rfl (cn j) e7 (fun _ _=>yk) (F8 (v:= .bool (decide (((b:Nat):Int) > 0))) (rs:= []) 7 rfl rfl rfl (cn j) e7 (fun _ _=>F9 rfl) ?_))
 by_cases f:((b:Nat):Int) > 0
 refine F8 (v:=vP g 0) (rs:= []) 8 rfl rfl rfl (dT f) e7 (fun _ _=>yk) (F8 (v:=vI a.aN) (rs:= []) 9 rfl rfl rfl (dT f) e7 (fun _ ⟨_,H9⟩=>F7 rfl (bX.one C6 (jL.of (H9.cls (i:=0) rfl) rfl))) (F8 (v:= .slice o l0.length K) (rs:= []) 10 rfl rfl rfl (dT f) e7 (fun _ _=>F9 rfl) (F8 (v:=vJ b) (rs:= []) 11 rfl rfl rfl (dT f) e7 (fun _ _=>F9 rfl) (F8 (v:=vJ (b - 1)) (rs:= []) 12 rfl rfl rfl (dT f) e7 (fun _ _=>FX (e:=C7.wrap (((b:Nat):Int) - 1)) yk f1) ?_))))
 obtain⟨p,T⟩:=jo (ls:=d0) (i:=b - 1) e9
 have P:=fo av T
 have dh:=(B _ (E0 T)).2.1
 have di:s2 (s8 ae.abs p.ah.ls)=p.ah.ls.length:=s6 ..
 refine F8 (v:= .pointer (some ⟨ab o,ao o+(b - 1) *4,none⟩)) (rs:= []) 13 rfl rfl rfl (dT f) e7 (fun _ ⟨_,H9⟩=>F4 (lN) rfl rfl ((H9.ro R).addr (i:=b - 1) e6) e6) (F8 (v:= .pointer (some ⟨ab o,ao o+(b - 1) *4,none⟩)) (rs:= []) 14 rfl rfl rfl (dT f) e7 (fun _ _=>yk) (F8 (v:=vI p.aN) (rs:= []) 15 rfl rfl rfl (dT f) e7 (fun _ ⟨_,H9⟩=>F7 rfl (bX.one C6 (((H9.ro R).elem aT.len T f3).at_ (k:=0) rfl))) (F8 (v:= .bool (decide (a.aN≤p.aN))) (rs:= []) 16 rfl rfl rfl (dT f) e7 (fun _ _=>yk) (F8 (v:= .bool (decide (a.aN≤p.aN))) (rs:= []) 17 rfl rfl rfl (cn j) e7 (fun _ _=>Gd rfl (dT f) rfl) (qt (v:= .bool (decide (a.aN≤p.aN))) 18 rfl (fun _ _=>FZ rfl (cn j) rfl) (qv 19 rfl rfl ?_))))))
 by_cases y:a.aN≤p.aN
 refine F5 (rs:= []) 20 rfl rfl rfl (dT y) e7 (F5 (rs:= []) 21 rfl rfl rfl (dT y) e7 (F5 (rs:= []) 22 rfl rfl rfl (dT y) e7 (F5 (rs:= []) 23 rfl rfl rfl (dT y) e7 (qt (v:= .bool true) 24 rfl (fun _ _=>Gd rfl (dT y) rfl) (qn (FY (jt (sr (An rfl (rt (tR (bR (tR (tR (bR (tR (rs ?_)))))))))))))))))
 have bP:=E.pk []
 obtain rfl:_=false:=hr.symm.trans (et (iN C) (jq (et (t) (et (congrArg (fun q=>fJ l0 q b) z) (et (ai u) (et (ip j) (et (ip f) (et (ai (bF P)) (ip y)))))))))
 exact⟨rfl,bP⟩
 refine F8 (v:=vP g 3) (rs:= []) 20 rfl rfl rfl (dF y) e7 (fun _ _=>yk) (F8 (v:= .slice a.ah.A a.ah.ls.length a.ah.c) (rs:= []) 21 rfl rfl rfl (dF y) e7 (fun _ ⟨_,H9⟩=>F7 rfl (bX.one E6 (jL.of (H9.cls (i:=0) rfl) rfl))) (F8 (v:=vJ (s2 (s8 ae.abs a.ah.ls))) (rs:= []) 22 rfl rfl rfl (dF y) e7 (fun _ _=>FX (e:=((a.ah.ls.length:Nat):Int)) yk j0) (F8 (v:= .bool (decide (((s2 (s8 ae.abs a.ah.ls):Nat):Int) > 4))) (rs:= []) 23 rfl rfl rfl (dF y) e7 (fun _ _=>yk) (qt (v:= .bool (decide (((s2 (s8 ae.abs a.ah.ls):Nat):Int) > 4))) 24 rfl (fun _ _=>FZ rfl (dF y) rfl) (qn (FY ?_))))))
 by_cases U:((s2 (s8 ae.abs a.ah.ls):Nat):Int) > 4
 refine jT (dT U) (sr (An rfl (rt (tR (bR (tR (tR (bR (tR (rs ?_))))))))))
 have bQ:=E.pk []
 obtain rfl:_=false:=hr.symm.trans (et (iN C) (jq (et (t) (et (congrArg (fun q=>fJ l0 q b) z) (et (ai u) (et (ip j) (et (ip f) (et (ai (bF P)) (et (iN y) (ip U))))))))))
 exact⟨rfl,bQ⟩
 refine jF (dF U) (sk (sr (Kz (vP g 3) (Lz (.slice a.ah.A a.ah.ls.length a.ah.c) E 0 E6 (fw (vJ (s2 (s8 ae.abs a.ah.ls))) (FX (e:=((a.ah.ls.length:Nat):Int)) yk j0) (Mn rfl (bo ?_)))))))
 have bS:=E.pf []
 obtain⟨bT,V⟩:=mZ fun (l:Nat) w'=>Own w D w' [blk g (aT.cells a) 56]∧l≤s2 (s8 ae.abs a.ah.ls)∧fV b (aT.abs a) (s2 (s8 ae.abs a.ah.ls)) 0=fV b (aT.abs a) ((s2 (s8 ae.abs a.ah.ls)) - l) l
 refine C5 (fun i:Nat=> [(2, .bool false),(45,vJ i),(44,vJ (s2 (s8 ae.abs a.ah.ls))),(43, .slice a.ah.A a.ah.ls.length a.ah.c),(42,vP g 3),(41, .bool (decide (((s2 (s8 ae.abs a.ah.ls):Nat):Int) > 4))),(40, .bool (decide (((s2 (s8 ae.abs a.ah.ls):Nat):Int) > 4))),(39,vJ (s2 (s8 ae.abs a.ah.ls))),(38, .slice a.ah.A a.ah.ls.length a.ah.c),(37,vP g 3),(36, .bool (decide (a.aN≤p.aN))),(35, .bool (decide (a.aN≤p.aN))),(34, .bool (decide (a.aN≤p.aN))),(33, .bool (decide (a.aN≤p.aN))),(32,vI p.aN),(31, .pointer (some ⟨ab o,ao o+(b - 1) *4,none⟩)),(30, .pointer (some ⟨ab o,ao o+(b - 1) *4,none⟩)),(29,vJ (b - 1)),(28,vJ b),(27, .slice o l0.length K),(26,vI a.aN),(25,vP g 0),(24, .bool (decide (((b:Nat):Int) > 0))),(23, .bool (decide (((b:Nat):Int) > 0))),(22,vJ b),(21, .bool (!s)),(20, .bool (!s)),(19, .bool s),(18,vI a.aN),(17,vP g 0),(3,vJ b),(4,vP g 0),(16, .agg (aT.cells a).toArray),(15, .pointer (some ⟨ab o,ao o+b *4,none⟩)),(14,vJ b),(13, .bool (decide (((b:Nat):Int) < ((l0.length:Nat):Int)))),(12,vJ b),(11,vJ l0.length),(10, .slice o l0.length K),(0, .slice o l0.length K)]) bT (fun i=>(s2 (s8 ae.abs a.ah.ls)) - i) 0 ⟨rfl,rfl,rfl,rfl,rfl,rfl,rfl,rfl,rfl,rfl,rfl,rfl,rfl,rfl,rfl,rfl,rfl,rfl,rfl,rfl,rfl,rfl,rfl,rfl,rfl,rfl,rfl,rfl,rfl,rfl,rfl,rfl,rfl,rfl,rfl,rfl,rfl,rfl,rfl,rfl,trivial⟩ (V.2 ⟨bS,e6,rfl⟩) ?_
 rintro l dP aQ
 obtain⟨W,dm,X⟩:=V.1 aQ
 refine sr (Kz (.bool (decide (((l:Nat):Int) < ((s2 (s8 ae.abs a.ah.ls):Nat):Int)))) (nt (FW ?_)))
 by_cases aR:((l:Nat):Int) < ((s2 (s8 ae.abs a.ah.ls):Nat):Int)
 refine jT (dT aR) (sk (FW (bo (sr ?_))))
 obtain⟨r,Q⟩:=dK (ls:=a.ah.ls) (i:=l) ae.len f3 (W.ro (B _ (E0 m)).1) e9
 have ah:=fo (rfl:s8 ae.abs a.ah.ls=s8 ae.abs a.ah.ls) Q
 have dn:=((B _ (E0 m)).2.2 _ (E0 Q)).2
 refine fw (.pointer (some ⟨ab a.ah.A,ao a.ah.A+l *3,none⟩)) (F4 (rR) rfl rfl ((W.ro (B _ (E0 m)).1).addr (i:=l) e6) e6) (fw (.agg (ae.cells r).toArray) (F7 rfl (Gf (cs:=(ae.cells r)) E7 E8 ((W.ro (B _ (E0 m)).1).elem ae.len Q f3))) ?_)
 refine dM [.bool false, .string ⟨y6 ([])⟩, .slice none 0 0] 149 W ?_
 intro dQ dS bU
 refine dN (ae.cells r) 0 bU E8 ?_
 intro dU aU
 refine ns (La (ae.cells r) aU 0 E7 E8 ?_)
 obtain⟨ax,Y⟩:∃ q,kv (aS.mk r.dZ r.aQ (E4 r.aj.ls))=q:=⟨_,rfl⟩
 obtain⟨dV,aV,aW,aX,dw⟩:=F3 aU
 refine cl Tryz.call73 (qL _ _ (aS.mk r.dZ r.aQ (E4 r.aj.ls)) r.aj.A r.aj.ls.length r.aj.c ax aV rfl (aW _ ((B _ (E0 m)).2.2 _ (E0 Q)).1) (show r.aj.ls.length≤r.aj.c∧r.aj.ls.length≤9223372036854775807 from by omega) Y) ?_
 rintro _ dW ⟨rfl,aY⟩
 have aZ:=aX _ _ aY
 refine Kz (.bool (!ax)) (nt ?_)
 rcases JS (ax) with Z | Z
 refine jF (cn Z) (Gn (bN (FY (FV (fw (vJ (l+1)) (FX (e:=C7.wrap (((l:Nat):Int)+1)) yk f1) (Mz rfl (D0 ?_)))))))
 have bV:=aZ.pk [1]
 exact Gc (l+1) ⟨rfl,rfl,rfl,rfl,rfl,rfl,rfl,rfl,rfl,rfl,rfl,rfl,rfl,rfl,rfl,rfl,rfl,rfl,rfl,rfl,rfl,rfl,rfl,rfl,rfl,rfl,rfl,rfl,rfl,rfl,rfl,rfl,rfl,rfl,rfl,rfl,rfl,rfl,rfl,rfl,trivial⟩ (V.2 ⟨bV,e6,et (X) (et (congrArg (fun q=>fV b (aT.abs a) q l) (rA (n:=s2 (s8 ae.abs a.ah.ls)) (i:=l) e6)) (et (ai (bF ah)) (et (ai Y) (ip Z))))⟩) (by show (s2 (s8 ae.abs a.ah.ls)) - (l+1) < (s2 (s8 ae.abs a.ah.ls)) - l; omega)
 refine jT (cn Z) (sr (An rfl (rt (bR (tR (tR (bR (bR (tR (tR (bR (tR (rs ?_)))))))))))))
 have bf:=aZ.pk []
 obtain rfl:_=false:=hr.symm.trans (et (iN C) (jq (et (t) (et (congrArg (fun q=>fJ l0 q b) z) (et (ai u) (et (ip j) (et (ip f) (et (ai (bF P)) (et (iN y) (et (iN U) (qw (et (X) (et (congrArg (fun q=>fV b (aT.abs a) q l) (rA (n:=s2 (s8 ae.abs a.ah.ls)) (i:=l) e6)) (et (ai (bF ah)) (et (ai Y) (gB Z))))))))))))))))
 exact⟨rfl,bf⟩
 refine jF (dF aR) (D1 (F6 ?_))
 have ay:fV b (aT.abs a) (s2 (s8 ae.abs a.ah.ls)) 0=C1 ():=et (X) (et (congrArg (fun q=>fV b (aT.abs a) q l) (wm (n:=s2 (s8 ae.abs a.ah.ls)) (i:=l) e6)) rfl)
 refine F6 (Gi (bN (FY (FV (fw (vJ (b+1)) (FX (e:=C7.wrap (((b:Nat):Int)+1)) yk f1) (Mz rfl (D0 ?_)))))))
 have bg:=W.pk []
 exact Gc (b+1) ⟨rfl,rfl,rfl,rfl,rfl,trivial⟩ (O.2 ⟨bg,e6,et (t) (et (congrArg (fun q=>fJ l0 q b) z) (et (ai u) (et (ip j) (et (ip f) (et (ai (bF P)) (et (iN y) (et (iN U) (tH ay))))))))⟩) (by show l0.length - (b+1) < l0.length - b; omega)
 refine F5 (rs:= []) 8 rfl rfl rfl (dF f) e7 (F5 (rs:= []) 9 rfl rfl rfl (dF f) e7 (F5 (rs:= []) 10 rfl rfl rfl (dF f) e7 (F5 (rs:= []) 11 rfl rfl rfl (dF f) e7 (F5 (rs:= []) 12 rfl rfl rfl (dF f) e7 (F5 (rs:= []) 13 rfl rfl rfl (dF f) e7 (F5 (rs:= []) 14 rfl rfl rfl (dF f) e7 (F5 (rs:= []) 15 rfl rfl rfl (dF f) e7 (F5 (rs:= []) 16 rfl rfl rfl (dF f) e7 (F8 (v:= .bool false) (rs:= []) 17 rfl rfl rfl (cn j) e7 (fun _ _=>FZ rfl (dF f) rfl) (qt (v:= .bool false) 18 rfl (fun _ _=>FZ rfl (cn j) rfl) (qv 19 rfl rfl (F8 (v:=vP g 3) (rs:= []) 20 rfl rfl rfl rfl e7 (fun _ _=>yk) (F8 (v:= .slice a.ah.A a.ah.ls.length a.ah.c) (rs:= []) 21 rfl rfl rfl rfl e7 (fun _ ⟨_,H9⟩=>F7 rfl (bX.one E6 (jL.of (H9.cls (i:=0) rfl) rfl))) (F8 (v:=vJ (s2 (s8 ae.abs a.ah.ls))) (rs:= []) 22 rfl rfl rfl rfl e7 (fun _ _=>FX (e:=((a.ah.ls.length:Nat):Int)) yk j0) (F8 (v:= .bool (decide (((s2 (s8 ae.abs a.ah.ls):Nat):Int) > 4))) (rs:= []) 23 rfl rfl rfl rfl e7 (fun _ _=>yk) (qt (v:= .bool (decide (((s2 (s8 ae.abs a.ah.ls):Nat):Int) > 4))) 24 rfl (fun _ _=>FZ rfl rfl rfl) (qn (FY ?_))))))))))))))))))
 by_cases G:((s2 (s8 ae.abs a.ah.ls):Nat):Int) > 4
 refine jT (dT G) (sr (An rfl (rt (tR (bR (tR (tR (bR (tR (rs ?_))))))))))
 have bi:=E.pk []
 obtain rfl:_=false:=hr.symm.trans (et (iN C) (jq (et (t) (et (congrArg (fun q=>fJ l0 q b) z) (et (ai u) (et (ip j) (et (iN f) (ip G))))))))
 exact⟨rfl,bi⟩
 refine jF (dF G) (sk (sr (Kz (vP g 3) (Lz (.slice a.ah.A a.ah.ls.length a.ah.c) E 0 E6 (fw (vJ (s2 (s8 ae.abs a.ah.ls))) (FX (e:=((a.ah.ls.length:Nat):Int)) yk j0) (Mn rfl (bo ?_)))))))
 have bn:=E.pf []
 obtain⟨bq,L⟩:=mZ fun (d:Nat) w'=>Own w D w' [blk g (aT.cells a) 56]∧d≤s2 (s8 ae.abs a.ah.ls)∧jb b (aT.abs a) (s2 (s8 ae.abs a.ah.ls)) 0=jb b (aT.abs a) ((s2 (s8 ae.abs a.ah.ls)) - d) d
 refine C5 (fun i:Nat=> [(2, .bool false),(45,vJ i),(44,vJ (s2 (s8 ae.abs a.ah.ls))),(43, .slice a.ah.A a.ah.ls.length a.ah.c),(42,vP g 3),(41, .bool (decide (((s2 (s8 ae.abs a.ah.ls):Nat):Int) > 4))),(40, .bool (decide (((s2 (s8 ae.abs a.ah.ls):Nat):Int) > 4))),(39,vJ (s2 (s8 ae.abs a.ah.ls))),(38, .slice a.ah.A a.ah.ls.length a.ah.c),(37,vP g 3),(36, .bool false),(35, .bool false),(34, .bool false),(33,undef),(32,undef),(31,undef),(30,undef),(29,undef),(28,undef),(27,undef),(26,undef),(25,undef),(24, .bool (decide (((b:Nat):Int) > 0))),(23, .bool (decide (((b:Nat):Int) > 0))),(22,vJ b),(21, .bool (!s)),(20, .bool (!s)),(19, .bool s),(18,vI a.aN),(17,vP g 0),(3,vJ b),(4,vP g 0),(16, .agg (aT.cells a).toArray),(15, .pointer (some ⟨ab o,ao o+b *4,none⟩)),(14,vJ b),(13, .bool (decide (((b:Nat):Int) < ((l0.length:Nat):Int)))),(12,vJ b),(11,vJ l0.length),(10, .slice o l0.length K),(0, .slice o l0.length K)]) bq (fun i=>(s2 (s8 ae.abs a.ah.ls)) - i) 0 ⟨rfl,rfl,rfl,rfl,rfl,rfl,rfl,rfl,rfl,rfl,rfl,rfl,rfl,rfl,rfl,rfl,rfl,rfl,rfl,rfl,rfl,rfl,rfl,rfl,rfl,rfl,rfl,rfl,rfl,rfl,rfl,rfl,rfl,rfl,rfl,rfl,rfl,rfl,rfl,rfl,trivial⟩ (L.2 ⟨bn,e6,rfl⟩) ?_
 rintro d dx aA
 obtain⟨I,bW,M⟩:=L.1 aA
 refine sr (Kz (.bool (decide (((d:Nat):Int) < ((s2 (s8 ae.abs a.ah.ls):Nat):Int)))) (nt (FW ?_)))
 by_cases aj:((d:Nat):Int) < ((s2 (s8 ae.abs a.ah.ls):Nat):Int)
 refine jT (dT aj) (sk (FW (bo (sr ?_))))
 obtain⟨h,F⟩:=dK (ls:=a.ah.ls) (i:=d) ae.len f3 (I.ro (B _ (E0 m)).1) e9
 have aa:=fo (rfl:s8 ae.abs a.ah.ls=s8 ae.abs a.ah.ls) F
 have bY:=((B _ (E0 m)).2.2 _ (E0 F)).2
 refine fw (.pointer (some ⟨ab a.ah.A,ao a.ah.A+d *3,none⟩)) (F4 (rR) rfl rfl ((I.ro (B _ (E0 m)).1).addr (i:=d) e6) e6) (fw (.agg (ae.cells h).toArray) (F7 rfl (Gf (cs:=(ae.cells h)) E7 E8 ((I.ro (B _ (E0 m)).1).elem ae.len F f3))) ?_)
 refine dM [.bool false, .string ⟨y6 ([])⟩, .slice none 0 0] 149 I ?_
 intro dz dA bu
 refine dN (ae.cells h) 0 bu E8 ?_
 intro dB ak
 refine ns (La (ae.cells h) ak 0 E7 E8 ?_)
 obtain⟨af,N⟩:∃ q,kv (aS.mk h.dZ h.aQ (E4 h.aj.ls))=q:=⟨_,rfl⟩
 obtain⟨dC,aB,aC,aD,bZ⟩:=F3 ak
 refine cl Tryz.call73 (qL _ _ (aS.mk h.dZ h.aQ (E4 h.aj.ls)) h.aj.A h.aj.ls.length h.aj.c af aB rfl (aC _ ((B _ (E0 m)).2.2 _ (E0 F)).1) (show h.aj.ls.length≤h.aj.c∧h.aj.ls.length≤9223372036854775807 from by omega) N) ?_
 rintro _ dD ⟨rfl,aF⟩
 have au:=aD _ _ aF
 refine Kz (.bool (!af)) (nt ?_)
 rcases JS (af) with J | J
 refine jF (cn J) (Gn (bN (FY (FV (fw (vJ (d+1)) (FX (e:=C7.wrap (((d:Nat):Int)+1)) yk f1) (Mz rfl (D0 ?_)))))))
 have bv:=au.pk [1]
 exact Gc (d+1) ⟨rfl,rfl,rfl,rfl,rfl,rfl,rfl,rfl,rfl,rfl,rfl,rfl,rfl,rfl,rfl,rfl,rfl,rfl,rfl,rfl,rfl,rfl,rfl,rfl,rfl,rfl,rfl,rfl,rfl,rfl,rfl,rfl,rfl,rfl,rfl,rfl,rfl,rfl,rfl,rfl,trivial⟩ (L.2 ⟨bv,e6,et (M) (et (congrArg (fun q=>jb b (aT.abs a) q d) (rA (n:=s2 (s8 ae.abs a.ah.ls)) (i:=d) e6)) (et (ai (bF aa)) (et (ai N) (ip J))))⟩) (by show (s2 (s8 ae.abs a.ah.ls)) - (d+1) < (s2 (s8 ae.abs a.ah.ls)) - d; omega)
 refine jT (cn J) (sr (An rfl (rt (bR (tR (tR (bR (bR (tR (tR (bR (tR (rs ?_)))))))))))))
 have bz:=au.pk []
 obtain rfl:_=false:=hr.symm.trans (et (iN C) (jq (et (t) (et (congrArg (fun q=>fJ l0 q b) z) (et (ai u) (et (ip j) (et (iN f) (et (iN G) (qw (et (M) (et (congrArg (fun q=>jb b (aT.abs a) q d) (rA (n:=s2 (s8 ae.abs a.ah.ls)) (i:=d) e6)) (et (ai (bF aa)) (et (ai N) (gB J))))))))))))))
 exact⟨rfl,bz⟩
 refine jF (dF aj) (D1 (F6 ?_))
 have aG:jb b (aT.abs a) (s2 (s8 ae.abs a.ah.ls)) 0=C1 ():=et (M) (et (congrArg (fun q=>jb b (aT.abs a) q d) (wm (n:=s2 (s8 ae.abs a.ah.ls)) (i:=d) e6)) rfl)
 refine F6 (Gi (bN (FY (FV (fw (vJ (b+1)) (FX (e:=C7.wrap (((b:Nat):Int)+1)) yk f1) (Mz rfl (D0 ?_)))))))
 have bB:=I.pk []
 exact Gc (b+1) ⟨rfl,rfl,rfl,rfl,rfl,trivial⟩ (O.2 ⟨bB,e6,et (t) (et (congrArg (fun q=>fJ l0 q b) z) (et (ai u) (et (ip j) (et (iN f) (et (iN G) (tH aG))))))⟩) (by show l0.length - (b+1) < l0.length - b; omega)
 refine F5 (rs:= []) 5 rfl rfl rfl (cn j) e7 (F5 (rs:= []) 6 rfl rfl rfl (cn j) e7 (F5 (rs:= []) 7 rfl rfl rfl (cn j) e7 (GA (rs:= []) 8 rfl rfl rfl e7 (GA (rs:= []) 9 rfl rfl rfl e7 (GA (rs:= []) 10 rfl rfl rfl e7 (GA (rs:= []) 11 rfl rfl rfl e7 (GA (rs:= []) 12 rfl rfl rfl e7 (GA (rs:= []) 13 rfl rfl rfl e7 (GA (rs:= []) 14 rfl rfl rfl e7 (GA (rs:= []) 15 rfl rfl rfl e7 (GA (rs:= []) 16 rfl rfl rfl e7 (F5 (rs:= []) 17 rfl rfl rfl (cn j) e7 (qt (v:= .bool true) 18 rfl (fun _ _=>Gd rfl (cn j) rfl) (qv 19 rfl rfl (F5 (rs:= []) 20 rfl rfl rfl rfl e7 (F5 (rs:= []) 21 rfl rfl rfl rfl e7 (F5 (rs:= []) 22 rfl rfl rfl rfl e7 (F5 (rs:= []) 23 rfl rfl rfl rfl e7 (qt (v:= .bool true) 24 rfl (fun _ _=>Gd rfl rfl rfl) (qn (FY (jt (sr (An rfl (rt (tR (bR (tR (tR (bR (tR (rs ?_))))))))))))))))))))))))))))))))
 have bC:=E.pk []
 obtain rfl:_=false:=hr.symm.trans (et (iN C) (jq (et (t) (et (congrArg (fun q=>fJ l0 q b) z) (et (ai u) (gB j))))))
 exact⟨rfl,bC⟩
 refine jF (dF aL) (D1 (F6 ?_))
 have aH:fJ l0 l0 0=C1 ():=et (t) (et (congrArg (fun q=>fJ l0 q b) (eZ (ls:=l0) (i:=b) e6)) rfl)
 refine F6 (Gi (FY (sr (An rfl (rt (rs ?_))))))
 have bD:=S.pk []
 obtain rfl:_=true:=hr.symm.trans (et (iN C) (nU aH))
 exact⟨rfl,bD⟩
def iR (a:Bool):Int:=
 if a=true then 0 else 1
theorem l7 (w D b e) (H:Own w D w []) (hr:iR b=e):
    Calls y4 39 #[.bool b] w (dR fun v w'=>v=vI e∧Own w D w' []):=by
 refine cb Tryz.func39 ?_
 refine sr (An rfl (FW (sr (Mz rfl (Kz (.bool (!b)) (nt ?_))))))
 rcases JS (b) with a | a
 refine jF (cn a) (sk (sr (An rfl (rt (rs ?_)))))
 have c:=H.pk []
 obtain rfl:_=0:=hr.symm.trans (ip a)
 exact⟨rfl,c⟩
 refine jT (cn a) (sr (An rfl (rt (tR (rs ?_)))))
 have d:=H.pk []
 obtain rfl:_=1:=hr.symm.trans (gB a)
 exact⟨rfl,d⟩
def jc (c:di):Int:=
 bnd (iJ c.av 4) fun d=>if d=true then if((c.ay:Nat):Int) < 2147483648 then bnd (nX c) fun e=>if e=true then bnd (nG c) fun f=>if f=true then bnd (o5 c.aJ.ls) fun g=>bnd (iR g) fun h=>h else bnd (iR false) fun i=>i else bnd (iR false) fun j=>j else bnd (iR false) fun a=>a else bnd (iR false) fun b=>b
set_option maxHeartbeats 1000000 in
theorem nY (w D) (a:di) (i P e j Q f z g R d n r0) (H:Own w D w []) (Z:P=a.ag.ls.length) (G:Ro w D fun w'=>bA w' 2 i a.ag.ls.length (q6 aW.cells a.ag.ls)) (bI:a.ag.ls.length≤e∧a.ag.ls.length≤9223372036854775807) (B:s8 aA.abs z=a.ak.ls) (aa:Q=a.ak.ls.length) (I:Ro w D fun w'=>bA w' 5 j a.ak.ls.length (q6 aA.cells z)) (bJ:a.ak.ls.length≤f∧a.ak.ls.length≤9223372036854775807) (u:∀ x ∈ z,Ro w D (fun w'=>bA w' 1 x.av.A x.av.ls.length (q6 (eI .i64) x.av.ls))∧(x.av.ls.length≤x.av.c∧x.av.ls.length≤9223372036854775807)) (y:s8 aT.abs n=a.aJ.ls) (af:R=a.aJ.ls.length) (C:Ro w D fun w'=>bA w' 4 g a.aJ.ls.length (q6 aT.cells n)) (bK:a.aJ.ls.length≤d∧a.aJ.ls.length≤9223372036854775807) (b:∀ x ∈ n,Ro w D (fun w'=>bA w' 3 x.ah.A x.ah.ls.length (q6 ae.cells x.ah.ls))∧(x.ah.ls.length≤x.ah.c∧x.ah.ls.length≤9223372036854775807)∧(∀ E ∈ x.ah.ls,Ro w D (fun w'=>bA w' 2 E.aj.A E.aj.ls.length (q6 aI.cells E.aj.ls))∧(E.aj.ls.length≤E.aj.c∧E.aj.ls.length≤9223372036854775807))) (dx:a.ag.ls.length≤140737488355328∧a.ak.ls.length≤140737488355328∧a.aJ.ls.length≤140737488355328) (hr:jc a=r0):
    Calls y4 19 #[.agg #[vI a.av,vU a.ay,vU a.aX,vU a.aL, .slice i P e, .slice j Q f, .slice g R d]] w (dR fun v w'=>v=vI r0∧Own w D w' []):=by
 subst Z aa af
 have bG:=az B
 have bH:=az y
 refine cb Tryz.func19 ?_
 refine sr ?_
 refine dM [vI a.av,vU a.ay,vU a.aX,vU a.aL, .slice i a.ag.ls.length e, .slice j a.ak.ls.length f, .slice g a.aJ.ls.length d] 33 H ?_
 intro ag dz aF
 refine Ar rfl (Kz (vP ag 0) (Lz (vI a.av) aF 0 C6 ?_))
 obtain⟨aG,o⟩:∃ q,iJ a.av 4=q:=⟨_,rfl⟩
 obtain⟨dA,aH,bW,aJ,bX⟩:=F3 aF
 refine cl E2 (lT _ _ a.av 4 aG aH o) ?_
 rintro _ dB ⟨rfl,aK⟩
 have J:=aJ _ _ aK
 refine Mz rfl ?_
 rcases JS (aG) with h | h
 refine Gz (vP ag 1) h (Gl (vU a.ay) h J 0 E1 (Gz (.bool (decide (((a.ay:Nat):Int) < 2147483648))) h (fw (.bool (decide (((a.ay:Nat):Int) < 2147483648))) (Gd rfl h rfl) (Mz rfl ?_))))
 by_cases l:((a.ay:Nat):Int) < 2147483648
 refine Ga ([vI a.av,vU a.ay,vU a.aX,vU a.aL, .slice i a.ag.ls.length e, .slice j a.ak.ls.length f, .slice g a.aJ.ls.length d]) (dT l) J 0 Tryz.isAgg33 Tryz.sizeOf33 ?_
 obtain⟨ah,F⟩:∃ q,nX a=q:=⟨_,rfl⟩
 obtain⟨dC,aL,p,aM,bY⟩:=F3 J
 refine uZ (decide_eq_true l) Tryz.call41 (uU _ _ a i a.ag.ls.length e j a.ak.ls.length f z g a.aJ.ls.length d n ah aL rfl (p _ G) (show a.ag.ls.length≤e∧a.ag.ls.length≤9223372036854775807 from by omega) B rfl (p _ I) (show a.ak.ls.length≤f∧a.ak.ls.length≤9223372036854775807 from by omega) (fun r s=>⟨p _ (u r s).1,(u r s).2⟩) y rfl (p _ C) (show a.aJ.ls.length≤d∧a.aJ.ls.length≤9223372036854775807 from by omega) (fun r s=>⟨p _ (b r s).1,(b r s).2.1,(fun E S=>⟨p _ ((b r s).2.2 E S).1,((b r s).2.2 E S).2⟩)⟩) e8 F) ?_
 rintro _ dD ⟨rfl,aN⟩
 have aj:=aM _ _ aN
 refine fw (.bool ah) (Gd rfl (dT l) rfl) (Mz rfl ?_)
 rcases JS (ah) with m | m
 refine Ga ([vI a.av,vU a.ay,vU a.aX,vU a.aL, .slice i a.ag.ls.length e, .slice j a.ak.ls.length f, .slice g a.aJ.ls.length d]) m aj 0 Tryz.isAgg33 Tryz.sizeOf33 ?_
 obtain⟨ak,K⟩:∃ q,nG a=q:=⟨_,rfl⟩
 obtain⟨dE,aO,t,aP,bZ⟩:=F3 aj
 refine He rfl rfl m rfl (Gg Tryz.call42 rfl (uF _ _ a i a.ag.ls.length e j a.ak.ls.length f z g a.aJ.ls.length d n ak aO rfl (t _ G) (show a.ag.ls.length≤e∧a.ag.ls.length≤9223372036854775807 from by omega) B rfl (t _ I) (show a.ak.ls.length≤f∧a.ak.ls.length≤9223372036854775807 from by omega) (fun r s=>⟨t _ (u r s).1,(u r s).2⟩) y rfl (t _ C) (show a.aJ.ls.length≤d∧a.aJ.ls.length≤9223372036854775807 from by omega) (fun r s=>⟨t _ (b r s).1,(b r s).2.1,(fun E S=>⟨t _ ((b r s).2.2 E S).1,((b r s).2.2 E S).2⟩)⟩) e8 K) ?_)
 rintro _ dG ⟨rfl,aQ⟩
 have au:=aP _ _ aQ
 refine fw (.bool ak) (Gd rfl m rfl) (Mz rfl ?_)
 rcases JS (ak) with k | k
 refine Gz (vP ag 6) k (Gl (.slice g a.aJ.ls.length d) k au 0 Tryz.isAgg31 ?_)
 obtain⟨O,T⟩:∃ q,o5 a.aJ.ls=q:=⟨_,rfl⟩
 obtain⟨dH,aR,L,aS,cu⟩:=F3 au
 refine He rfl rfl k rfl (Gg Tryz.call43 rfl (wD _ _ g a.aJ.ls.length d n a.aJ.ls O aR y (L _ C) (fun r s=>⟨L _ (b r s).1,(b r s).2.1,(fun E S=>⟨L _ ((b r s).2.2 E S).1,((b r s).2.2 E S).2⟩)⟩) rfl e6 T) ?_)
 rintro _ dI ⟨rfl,aU⟩
 have bL:=aS _ _ aU
 refine fw (.bool O) (Gd rfl k rfl) ?_
 obtain⟨aV,U⟩:∃ q,iR O=q:=⟨_,rfl⟩
 obtain⟨dJ,aX,cz,aY,cB⟩:=F3 bL
 refine cl F0 (l7 _ _ O aV aX U) ?_
 rintro _ dK ⟨rfl,aZ⟩
 have bM:=aY _ _ aZ
 refine An rfl (rt (rs ?_))
 have bN:=bM.pk []
 obtain rfl:_=aV:=hr.symm.trans (et (ai o) (et (ip h) (et (ip l) (et (ai F) (et (ip m) (et (ai K) (et (ip k) (et (ai T) (ai U)))))))))
 exact⟨rfl,bN⟩
 refine Sz k (Sz k (Sz k (fw (.bool false) (FZ rfl k rfl) ?_)))
 obtain⟨bf,V⟩:∃ q,iR false=q:=⟨_,rfl⟩
 obtain⟨dL,bg,cK,bi,cO⟩:=F3 au
 refine cl F0 (l7 _ _ false bf bg V) ?_
 rintro _ dN ⟨rfl,bn⟩
 have bO:=bi _ _ bn
 refine An rfl (rt (rs ?_))
 have bP:=bO.pk []
 obtain rfl:_=bf:=hr.symm.trans (et (ai o) (et (ip h) (et (ip l) (et (ai F) (et (ip m) (et (ai K) (et (gB k) (ai V))))))))
 exact⟨rfl,bP⟩
 refine Sz m (Sz m (fw (.bool false) (FZ rfl m rfl) (Mz rfl (Sz rfl (Sz rfl (Sz rfl (fw (.bool false) (FZ rfl rfl rfl) ?_)))))))
 obtain⟨bq,W⟩:∃ q,iR false=q:=⟨_,rfl⟩
 obtain⟨dO,bu,cZ,bv,df⟩:=F3 aj
 refine cl F0 (l7 _ _ false bq bu W) ?_
 rintro _ dP ⟨rfl,bz⟩
 have bQ:=bv _ _ bz
 refine An rfl (rt (rs ?_))
 have bB:=bQ.pk []
 obtain rfl:_=bq:=hr.symm.trans (et (ai o) (et (ip h) (et (ip l) (et (ai F) (et (gB m) (ai W))))))
 exact⟨rfl,bB⟩
 refine Sz (dF l) (Sz (dF l) (fw (.bool false) (FZ rfl (dF l) rfl) (Mz rfl (Sz rfl (Sz rfl (fw (.bool false) (FZ rfl rfl rfl) (Mz rfl (Sz rfl (Sz rfl (Sz rfl (fw (.bool false) (FZ rfl rfl rfl) ?_)))))))))))
 obtain⟨X,M⟩:∃ q,iR false=q:=⟨_,rfl⟩
 obtain⟨dh,av,bR,ax,bS⟩:=F3 J
 refine cl F0 (l7 _ _ false X av M) ?_
 rintro _ dm ⟨rfl,ay⟩
 have bC:=ax _ _ ay
 refine An rfl (rt (rs ?_))
 have bD:=bC.pk []
 obtain rfl:_=X:=hr.symm.trans (et (ai o) (et (ip h) (et (iN l) (ai M))))
 exact⟨rfl,bD⟩
 refine Sz h (Sz h (Sz h (fw (.bool false) (FZ rfl h rfl) (Mz rfl (Sz rfl (Sz rfl (fw (.bool false) (FZ rfl rfl rfl) (Mz rfl (Sz rfl (Sz rfl (fw (.bool false) (FZ rfl rfl rfl) (Mz rfl (Sz rfl (Sz rfl (Sz rfl (fw (.bool false) (FZ rfl rfl rfl) ?_))))))))))))))))
 obtain⟨Y,N⟩:∃ q,iR false=q:=⟨_,rfl⟩
 obtain⟨dn,aB,bT,aC,bU⟩:=F3 J
 refine cl F0 (l7 _ _ false Y aB N) ?_
 rintro _ dw ⟨rfl,aD⟩
 have bE:=aC _ _ aD
 refine An rfl (rt (rs ?_))
 have bF:=bE.pk []
 obtain rfl:_=Y:=hr.symm.trans (et (ai o) (et (gB h) (ai N)))
 exact⟨rfl,bF⟩
end Go.Proofs.YtbkagebjhbphaaaGreat
