/-
 record: the layers below; which states may be.
-/
import Derived.Test.YtbkagebjhbphaaaGreatKx
import Derived.Test.YtbkagebjhbphaaaGreatKl
import Derived.Test.YtbkagebjhbphaaaGreatWiX
import Derived.Test.YtbkagebjhbphaaaGreatKi
namespace Go.Proofs.YtbkagebjhbphaaaGreat
open Int renaming toNat→D2
open IntKind renaming i64→C7,u64→D3
open List renaming drop→r6,flatMap→q6,getD→C2,length→s2,length_map→s6,map→s8,mem_cons→v2,mem_of_getElem?→E0,not_mem_nil→B3,toArray→y6
open Ll renaming mk→E4
open Nat renaming le_refl→m5
open Sum renaming inl→C1,inr→C3
open _root_.Go.Proofs.Tryz renaming call39→F1,call40→E2,isAgg149→E7,isAgg28→E1,isAgg3→C6,isAgg30→D4,isAgg40→E6,isAgg58→E3,isAgg9→C4,prog→y4,sizeOf149→F0,underlying147→B7,underlying28→C0,underlying29→B9,underlying3→B4,underlying39→B1,underlying4→B8,underlying40→B6,underlying9→B5
open WL renaming nil→D0
open Wp renaming exit→D1,loop→C5
set_option maxRecDepth 100000
open Go.RowKit
set_option linter.unusedVariables false
set_option linter.unusedSectionVars false
set_option linter.unusedSimpArgs false
theorem pW:Elem y4 39 72 6 80:=kM (z:= .agg #[.int .i64 0, .string ⟨y6 ([])⟩, .string ⟨y6 ([])⟩, .string ⟨y6 ([])⟩, .string ⟨y6 ([])⟩, .int .i64 0]) B1 e7 rfl f3
structure bC where
 aM:Int
 bY:List UInt8
 aU:List UInt8
 bJ:List UInt8
 bX:List UInt8
 bT:Int
def bC.cells (x:bC):List Value:= [.int .i64 x.aM, .string ⟨y6 x.bY⟩, .string ⟨y6 x.aU⟩, .string ⟨y6 x.bJ⟩, .string ⟨y6 x.bX⟩, .int .i64 x.bT]
instance:Bk bC:=⟨fun x _=>bk x.aM+(bk x.bY+(bk x.aU+(bk x.bJ+(bk x.bX+(bk x.bT+(0))))))⟩
theorem bC.len:∀ x,(bC.cells x).length=6:=fun _=>rfl
theorem bC.one:∀ x, ∀ u ∈ bC.cells x,u.oneCell'=true:=fun x u hu=>by
 simp only [bC.cells,v2,B3,or_false] at hu
 rcases hu with rfl | rfl | rfl | rfl | rfl | rfl <;> rfl
def Gu (w:World) (x:bC):Prop:=((-9223372036854775808)≤x.aM∧x.aM≤9223372036854775807)∧(x.bY.length≤140737488351232)∧(x.aU.length≤140737488351232)∧(x.bJ.length≤140737488351232)∧(x.bX.length≤140737488351232)∧((-9223372036854775808)≤x.bT∧x.bT≤9223372036854775807)
theorem Bv (w:World):kK y4 w 72 6 bC.cells (Gu w):=
 (mo (sz:=6) Tryz.underlying72 e7 (fC.cons (i:=0) (off:=0) (s:=1) rfl rfl (lH (k:= .i64) (lo:= -9223372036854775808) (hi:=9223372036854775807) B4 e7 f3 f3) (fC.cons (i:=1) (off:=1) (s:=1) rfl rfl (jY B5 e7) (fC.cons (i:=2) (off:=2) (s:=1) rfl rfl (jY B5 e7) (fC.cons (i:=3) (off:=3) (s:=1) rfl rfl (jY B5 e7) (fC.cons (i:=4) (off:=4) (s:=1) rfl rfl (jY B5 e7) (fC.cons (i:=5) (off:=5) (s:=1) rfl rfl (lH (k:= .i64) (lo:= -9223372036854775808) (hi:=9223372036854775807) B4 e7 f3 f3) fC.nil))))))).map (fun p=>⟨p.1,p.2.1,p.2.2.1,p.2.2.2.1,p.2.2.2.2.1,p.2.2.2.2.2.1⟩) bC.len (fun _=>rfl) (fun _ h=>⟨h.1,h.2.1,h.2.2.1,h.2.2.2.1,h.2.2.2.2.1,h.2.2.2.2.2.1⟩) fun _=>m5 _
instance:Inhabited bC:=⟨⟨default,default,default,default,default,default⟩⟩
theorem mQ:Elem y4 58 3 1 8:=kM (z:= .int .i64 0) Tryz.underlying58 e7 rfl f3
structure bG where
 dU:Int
 aD:Sv bC
 aP:Sv Int
def bG.cells (x:bG):List Value:= [.int .i64 x.dU, .slice x.aD.A x.aD.ls.length x.aD.c, .slice x.aP.A x.aP.ls.length x.aP.c]
instance:Bk bG:=⟨fun x _=>bk x.dU+(bk x.aD+(bk x.aP+(0)))⟩
theorem bG.len:∀ x,(bG.cells x).length=3:=fun _=>rfl
theorem bG.one:∀ x, ∀ u ∈ bG.cells x,u.oneCell'=true:=fun x u hu=>by
 simp only [bG.cells,v2,B3,or_false] at hu
 rcases hu with rfl | rfl | rfl <;> rfl
def Ih (w:World) (x:bG):Prop:=((-9223372036854775808)≤x.dU∧x.dU≤9223372036854775807)∧(lU w 6 80 bC.cells (Gu w) x.aD)∧(lU w 1 8 (eI .i64) (fun n=>(-9223372036854775808)≤n∧n≤9223372036854775807) x.aP)
instance:Inhabited bG:=⟨⟨default,default,default⟩⟩
structure fV where
 dU:Int
 aD:Ll bC
 aP:Ll Int
instance:Inhabited fV:=⟨⟨default,default,default⟩⟩
def bG.abs (x:bG):fV:=⟨x.dU,⟨x.aD.ls⟩,⟨x.aP.ls⟩⟩
def bG.own (x:bG):List HP:= [row x.aD.A x.aD.ls.length x.aD.c (q6 bC.cells x.aD.ls) 72 6,row x.aP.A x.aP.ls.length x.aP.c (q6 (eI .i64) x.aP.ls) 3 1]
theorem Ex:Elem y4 22 44 25 272:=kM (z:= .agg #[.int .i64 0, .int .i64 0, .int .i64 0, .int .i64 0, .int .i64 0, .int .i64 0, .int .i64 0, .int .i64 0, .int .u64 0, .int .u64 0, .int .u64 0, .int .u64 0, .int .u64 0, .int .u64 0, .int .u64 0, .int .u64 0, .int .u64 0, .bool false, .string ⟨y6 ([])⟩, .string ⟨y6 ([])⟩, .slice none 0 0, .slice none 0 0, .slice none 0 0, .bool false, .string ⟨y6 ([])⟩]) Tryz.underlying22 e7 rfl f3
structure bK where
 bJ:List UInt8
 bX:List UInt8
def bK.cells (x:bK):List Value:= [.string ⟨y6 x.bJ⟩, .string ⟨y6 x.bX⟩]
instance:Bk bK:=⟨fun x _=>bk x.bJ+(bk x.bX+(0))⟩
theorem bK.len:∀ x,(bK.cells x).length=2:=fun _=>rfl
theorem bK.one:∀ x, ∀ u ∈ bK.cells x,u.oneCell'=true:=fun x u hu=>by
 simp only [bK.cells,v2,B3,or_false] at hu
 rcases hu with rfl | rfl <;> rfl
def GQ (w:World) (x:bK):Prop:=(x.bJ.length≤140737488351232)∧(x.bX.length≤140737488351232)
theorem zb (w:World):kK y4 w 38 2 bK.cells (GQ w):=
 (mo (sz:=2) Tryz.underlying38 e7 (fC.cons (i:=0) (off:=0) (s:=1) rfl rfl (jY B5 e7) (fC.cons (i:=1) (off:=1) (s:=1) rfl rfl (jY B5 e7) fC.nil))).map (fun p=>⟨p.1,p.2.1⟩) bK.len (fun _=>rfl) (fun _ h=>⟨h.1,h.2.1⟩) fun _=>m5 _
instance:Inhabited bK:=⟨⟨default,default⟩⟩
theorem rf:Elem y4 40 149 3 48:=kM (z:= .agg #[.bool false, .string ⟨y6 ([])⟩, .slice none 0 0]) B6 e7 rfl f3
theorem jK:Elem y4 147 153 2 32:=kM (z:= .agg #[.string ⟨y6 ([])⟩, .string ⟨y6 ([])⟩]) B7 e7 rfl f3
structure aJ where
 bY:List UInt8
 aU:List UInt8
def aJ.cells (x:aJ):List Value:= [.string ⟨y6 x.bY⟩, .string ⟨y6 x.aU⟩]
instance:Bk aJ:=⟨fun x _=>bk x.bY+(bk x.aU+(0))⟩
theorem aJ.len:∀ x,(aJ.cells x).length=2:=fun _=>rfl
theorem aJ.one:∀ x, ∀ u ∈ aJ.cells x,u.oneCell'=true:=fun x u hu=>by
 simp only [aJ.cells,v2,B3,or_false] at hu
 rcases hu with rfl | rfl <;> rfl
def G9 (w:World) (x:aJ):Prop:=(x.bY.length≤140737488351232)∧(x.aU.length≤140737488351232)
theorem zN (w:World):kK y4 w 153 2 aJ.cells (G9 w):=
 (mo (sz:=2) Tryz.underlying153 e7 (fC.cons (i:=0) (off:=0) (s:=1) rfl rfl (jY B5 e7) (fC.cons (i:=1) (off:=1) (s:=1) rfl rfl (jY B5 e7) fC.nil))).map (fun p=>⟨p.1,p.2.1⟩) aJ.len (fun _=>rfl) (fun _ h=>⟨h.1,h.2.1⟩) fun _=>m5 _
instance:Inhabited aJ:=⟨⟨default,default⟩⟩
structure af where
 dW:Bool
 aU:List UInt8
 au:Sv aJ
def af.cells (x:af):List Value:= [.bool x.dW, .string ⟨y6 x.aU⟩, .slice x.au.A x.au.ls.length x.au.c]
instance:Bk af:=⟨fun x _=>bk x.dW+(bk x.aU+(bk x.au+(0)))⟩
theorem af.len:∀ x,(af.cells x).length=3:=fun _=>rfl
theorem af.one:∀ x, ∀ u ∈ af.cells x,u.oneCell'=true:=fun x u hu=>by
 simp only [af.cells,v2,B3,or_false] at hu
 rcases hu with rfl | rfl | rfl <;> rfl
def F4 (w:World) (x:af):Prop:=(True)∧(x.aU.length≤140737488351232)∧(lU w 2 32 aJ.cells (G9 w) x.au)
theorem ym (w:World):kK y4 w 149 3 af.cells (F4 w):=
 (mo (sz:=3) Tryz.underlying149 e7 (fC.cons (i:=0) (off:=0) (s:=1) rfl rfl (uf B8 e7) (fC.cons (i:=1) (off:=1) (s:=1) rfl rfl (jY B5 e7) (fC.cons (i:=2) (off:=2) (s:=1) rfl rfl (oZ (bytes:=32) B7 e7 e7 f3 (zN w)) fC.nil)))).map (fun p=>⟨p.1,p.2.1,p.2.2.1⟩) af.len (fun _=>rfl) (fun _ h=>⟨h.1,h.2.1,h.2.2.1⟩) fun _=>m5 _
instance:Inhabited af:=⟨⟨default,default,default⟩⟩
structure aX where
 dW:Bool
 aU:List UInt8
 au:Ll aJ
instance:Inhabited aX:=⟨⟨default,default,default⟩⟩
def af.abs (x:af):aX:=⟨x.dW,x.aU,⟨x.au.ls⟩⟩
def af.own (x:af):List HP:= [row x.au.A x.au.ls.length x.au.c (q6 aJ.cells x.au.ls) 153 2]
theorem pX:Elem y4 29 89 2 24:=kM (z:= .agg #[.string ⟨y6 ([])⟩, .int .i64 0]) B9 e7 rfl f3
structure bv where
 bJ:List UInt8
 dU:Int
def bv.cells (x:bv):List Value:= [.string ⟨y6 x.bJ⟩, .int .i64 x.dU]
instance:Bk bv:=⟨fun x _=>bk x.bJ+(bk x.dU+(0))⟩
theorem bv.len:∀ x,(bv.cells x).length=2:=fun _=>rfl
theorem bv.one:∀ x, ∀ u ∈ bv.cells x,u.oneCell'=true:=fun x u hu=>by
 simp only [bv.cells,v2,B3,or_false] at hu
 rcases hu with rfl | rfl <;> rfl
def Gv (w:World) (x:bv):Prop:=(x.bJ.length≤140737488351232)∧((-9223372036854775808)≤x.dU∧x.dU≤9223372036854775807)
theorem ze (w:World):kK y4 w 89 2 bv.cells (Gv w):=
 (mo (sz:=2) Tryz.underlying89 e7 (fC.cons (i:=0) (off:=0) (s:=1) rfl rfl (jY B5 e7) (fC.cons (i:=1) (off:=1) (s:=1) rfl rfl (lH (k:= .i64) (lo:= -9223372036854775808) (hi:=9223372036854775807) B4 e7 f3 f3) fC.nil))).map (fun p=>⟨p.1,p.2.1⟩) bv.len (fun _=>rfl) (fun _ h=>⟨h.1,h.2.1⟩) fun _=>m5 _
instance:Inhabited bv:=⟨⟨default,default⟩⟩
structure bA where
 aM:Int
 aP:Int
 fO:Int
 aS:Int
 dJ:Int
 d9:Int
 aY:Nat
 ax:Nat
 bf:Nat
 di:Nat
 bi:Nat
 aI:Nat
 dM:Nat
 cZ:Nat
 xN:Nat
 dY:Bool
 bW:bK
 aD:Sv bC
 ai:Sv af
 ag:Sv bv
def bA.cells (x:bA):List Value:= [.int .i64 x.aM, .int .i64 x.aP, .int .i64 x.fO, .int .i64 x.aS, .int .i64 x.dJ, .int .i64 x.d9, .int .u64 ((x.aY:Nat):Int), .int .u64 ((x.ax:Nat):Int), .int .u64 ((x.bf:Nat):Int), .int .u64 ((x.di:Nat):Int), .int .u64 ((x.bi:Nat):Int), .int .u64 ((x.aI:Nat):Int), .int .u64 ((x.dM:Nat):Int), .int .u64 ((x.cZ:Nat):Int), .int .u64 ((x.xN:Nat):Int), .bool x.dY, .string ⟨y6 x.bW.bJ⟩, .string ⟨y6 x.bW.bX⟩, .slice x.aD.A x.aD.ls.length x.aD.c, .slice x.ai.A x.ai.ls.length x.ai.c, .slice x.ag.A x.ag.ls.length x.ag.c]
instance:Bk bA:=⟨fun x _=>bk x.aM+(bk x.aP+(bk x.fO+(bk x.aS+(bk x.dJ+(bk x.d9+(bk x.aY+(bk x.ax+(bk x.bf+(bk x.di+(bk x.bi+(bk x.aI+(bk x.dM+(bk x.cZ+(bk x.xN+(bk x.dY+(bk x.bW+(bk x.aD+(bk x.ai+(bk x.ag+(0))))))))))))))))))))⟩
theorem bA.len:∀ x,(bA.cells x).length=21:=fun _=>rfl
theorem bA.one:∀ x, ∀ u ∈ bA.cells x,u.oneCell'=true:=fun x u hu=>by
 simp only [bA.cells,v2,B3,or_false] at hu
 rcases hu with rfl | rfl | rfl | rfl | rfl | rfl | rfl | rfl | rfl | rfl | rfl | rfl | rfl | rfl | rfl | rfl | rfl | rfl | rfl | rfl | rfl <;> rfl
def GI (w:World) (x:bA):Prop:=((-9223372036854775808)≤x.aM∧x.aM≤9223372036854775807)∧((-9223372036854775808)≤x.aP∧x.aP≤9223372036854775807)∧((-9223372036854775808)≤x.fO∧x.fO≤9223372036854775807)∧((-9223372036854775808)≤x.aS∧x.aS≤9223372036854775807)∧((-9223372036854775808)≤x.dJ∧x.dJ≤9223372036854775807)∧((-9223372036854775808)≤x.d9∧x.d9≤9223372036854775807)∧(x.aY≤18446744073709551615)∧(x.ax≤18446744073709551615)∧(x.bf≤18446744073709551615)∧(x.di≤18446744073709551615)∧(x.bi≤18446744073709551615)∧(x.aI≤18446744073709551615)∧(x.dM≤18446744073709551615)∧(x.cZ≤18446744073709551615)∧(x.xN≤18446744073709551615)∧(True)∧(GQ w x.bW)∧(lU w 6 80 bC.cells (Gu w) x.aD)∧(lU w 3 48 af.cells (F4 w) x.ai)∧(lU w 2 24 bv.cells (Gv w) x.ag)
theorem AY (w:World):kK y4 w 42 21 bA.cells (GI w):=
 (mo (sz:=21) Tryz.underlying42 e7 (fC.cons (i:=0) (off:=0) (s:=1) rfl rfl (lH (k:= .i64) (lo:= -9223372036854775808) (hi:=9223372036854775807) B4 e7 f3 f3) (fC.cons (i:=1) (off:=1) (s:=1) rfl rfl (lH (k:= .i64) (lo:= -9223372036854775808) (hi:=9223372036854775807) B4 e7 f3 f3) (fC.cons (i:=2) (off:=2) (s:=1) rfl rfl (lH (k:= .i64) (lo:= -9223372036854775808) (hi:=9223372036854775807) B4 e7 f3 f3) (fC.cons (i:=3) (off:=3) (s:=1) rfl rfl (lH (k:= .i64) (lo:= -9223372036854775808) (hi:=9223372036854775807) B4 e7 f3 f3) (fC.cons (i:=4) (off:=4) (s:=1) rfl rfl (lH (k:= .i64) (lo:= -9223372036854775808) (hi:=9223372036854775807) B4 e7 f3 f3) (fC.cons (i:=5) (off:=5) (s:=1) rfl rfl (lH (k:= .i64) (lo:= -9223372036854775808) (hi:=9223372036854775807) B4 e7 f3 f3) (fC.cons (i:=6) (off:=6) (s:=1) rfl rfl (mM (k:= .u64) (hi:=18446744073709551615) C0 e7 f3 f3) (fC.cons (i:=7) (off:=7) (s:=1) rfl rfl (mM (k:= .u64) (hi:=18446744073709551615) C0 e7 f3 f3) (fC.cons (i:=8) (off:=8) (s:=1) rfl rfl (mM (k:= .u64) (hi:=18446744073709551615) C0 e7 f3 f3) (fC.cons (i:=9) (off:=9) (s:=1) rfl rfl (mM (k:= .u64) (hi:=18446744073709551615) C0 e7 f3 f3) (fC.cons (i:=10) (off:=10) (s:=1) rfl rfl (mM (k:= .u64) (hi:=18446744073709551615) C0 e7 f3 f3) (fC.cons (i:=11) (off:=11) (s:=1) rfl rfl (mM (k:= .u64) (hi:=18446744073709551615) C0 e7 f3 f3) (fC.cons (i:=12) (off:=12) (s:=1) rfl rfl (mM (k:= .u64) (hi:=18446744073709551615) C0 e7 f3 f3) (fC.cons (i:=13) (off:=13) (s:=1) rfl rfl (mM (k:= .u64) (hi:=18446744073709551615) C0 e7 f3 f3) (fC.cons (i:=14) (off:=14) (s:=1) rfl rfl (mM (k:= .u64) (hi:=18446744073709551615) C0 e7 f3 f3) (fC.cons (i:=15) (off:=15) (s:=1) rfl rfl (uf B8 e7) (fC.cons (i:=16) (off:=16) (s:=2) rfl rfl (zb w) (fC.cons (i:=17) (off:=18) (s:=1) rfl rfl (oZ (bytes:=80) B1 e7 e7 f3 (Bv w)) (fC.cons (i:=18) (off:=19) (s:=1) rfl rfl (oZ (bytes:=48) B6 e7 e7 f3 (ym w)) (fC.cons (i:=19) (off:=20) (s:=1) rfl rfl (oZ (bytes:=24) B9 e7 e7 f3 (ze w)) fC.nil))))))))))))))))))))).map (fun p=>⟨p.1,p.2.1,p.2.2.1,p.2.2.2.1,p.2.2.2.2.1,p.2.2.2.2.2.1,p.2.2.2.2.2.2.1,p.2.2.2.2.2.2.2.1,p.2.2.2.2.2.2.2.2.1,p.2.2.2.2.2.2.2.2.2.1,p.2.2.2.2.2.2.2.2.2.2.1,p.2.2.2.2.2.2.2.2.2.2.2.1,p.2.2.2.2.2.2.2.2.2.2.2.2.1,p.2.2.2.2.2.2.2.2.2.2.2.2.2.1,p.2.2.2.2.2.2.2.2.2.2.2.2.2.2.1,p.2.2.2.2.2.2.2.2.2.2.2.2.2.2.2.1,p.2.2.2.2.2.2.2.2.2.2.2.2.2.2.2.2.1,p.2.2.2.2.2.2.2.2.2.2.2.2.2.2.2.2.2.1,p.2.2.2.2.2.2.2.2.2.2.2.2.2.2.2.2.2.2.1,p.2.2.2.2.2.2.2.2.2.2.2.2.2.2.2.2.2.2.2.1⟩) bA.len (fun _=>rfl) (fun _ h=>⟨h.1,h.2.1,h.2.2.1,h.2.2.2.1,h.2.2.2.2.1,h.2.2.2.2.2.1,h.2.2.2.2.2.2.1,h.2.2.2.2.2.2.2.1,h.2.2.2.2.2.2.2.2.1,h.2.2.2.2.2.2.2.2.2.1,h.2.2.2.2.2.2.2.2.2.2.1,h.2.2.2.2.2.2.2.2.2.2.2.1,h.2.2.2.2.2.2.2.2.2.2.2.2.1,h.2.2.2.2.2.2.2.2.2.2.2.2.2.1,h.2.2.2.2.2.2.2.2.2.2.2.2.2.2.1,h.2.2.2.2.2.2.2.2.2.2.2.2.2.2.2.1,h.2.2.2.2.2.2.2.2.2.2.2.2.2.2.2.2.1,h.2.2.2.2.2.2.2.2.2.2.2.2.2.2.2.2.2.1,h.2.2.2.2.2.2.2.2.2.2.2.2.2.2.2.2.2.2.1,h.2.2.2.2.2.2.2.2.2.2.2.2.2.2.2.2.2.2.2.1⟩) fun _=>m5 _
instance:Inhabited bA:=⟨⟨default,default,default,default,default,default,default,default,default,default,default,default,default,default,default,default,default,default,default,default⟩⟩
structure bQ where
 aM:Int
 aP:Int
 fO:Int
 aS:Int
 dJ:Int
 d9:Int
 aY:Nat
 ax:Nat
 bf:Nat
 di:Nat
 bi:Nat
 aI:Nat
 dM:Nat
 cZ:Nat
 xN:Nat
 dY:Bool
 bW:bK
 aD:Ll bC
 ai:Ll aX
 ag:Ll bv
instance:Inhabited bQ:=⟨⟨default,default,default,default,default,default,default,default,default,default,default,default,default,default,default,default,default,default,default,default⟩⟩
def bA.abs (x:bA):bQ:=⟨x.aM,x.aP,x.fO,x.aS,x.dJ,x.d9,x.aY,x.ax,x.bf,x.di,x.bi,x.aI,x.dM,x.cZ,x.xN,x.dY,x.bW,⟨x.aD.ls⟩,⟨s8 af.abs x.ai.ls⟩,⟨x.ag.ls⟩⟩
def bA.own (x:bA):List HP:= [row x.aD.A x.aD.ls.length x.aD.c (q6 bC.cells x.aD.ls) 72 6,row x.ai.A x.ai.ls.length x.ai.c (q6 af.cells x.ai.ls) 149 3,row x.ag.A x.ag.ls.length x.ag.c (q6 bv.cells x.ag.ls) 89 2,sepL (q6 af.own x.ai.ls)]
abbrev gH (r:Int) (s:Int) (t:Int) (u:Int) (v:Int) (w:Int) (x:Nat) (y:Nat) (z:Nat) (A:Nat) (g:Nat) (h:Nat) (i:Nat) (j:Nat) (k:Nat) (l:Bool) (m:List UInt8) (n:List UInt8) (o:Option Addr) (a b:Nat) (p:Option Addr) (c d:Nat) (q:Option Addr) (e f:Nat):List Value:= [.int .i64 r, .int .i64 s, .int .i64 t, .int .i64 u, .int .i64 v, .int .i64 w, .int .u64 ((x:Nat):Int), .int .u64 ((y:Nat):Int), .int .u64 ((z:Nat):Int), .int .u64 ((A:Nat):Int), .int .u64 ((g:Nat):Int), .int .u64 ((h:Nat):Int), .int .u64 ((i:Nat):Int), .int .u64 ((j:Nat):Int), .int .u64 ((k:Nat):Int), .bool l, .string ⟨y6 m⟩, .string ⟨y6 n⟩, .slice o a b, .slice p c d, .slice q e f]
abbrev gM (x:bQ) (a:Option Addr) (b:Nat) (c:Option Addr) (d:Nat) (e:Option Addr) (f:Nat):List Value:= [.int .i64 x.aM, .int .i64 x.aP, .int .i64 x.fO, .int .i64 x.aS, .int .i64 x.dJ, .int .i64 x.d9, .int .u64 ((x.aY:Nat):Int), .int .u64 ((x.ax:Nat):Int), .int .u64 ((x.bf:Nat):Int), .int .u64 ((x.di:Nat):Int), .int .u64 ((x.bi:Nat):Int), .int .u64 ((x.aI:Nat):Int), .int .u64 ((x.dM:Nat):Int), .int .u64 ((x.cZ:Nat):Int), .int .u64 ((x.xN:Nat):Int), .bool x.dY, .string ⟨y6 x.bW.bJ⟩, .string ⟨y6 x.bW.bX⟩, .slice a x.aD.ls.length b, .slice c x.ai.ls.length d, .slice e x.ag.ls.length f]
structure fZ where
 kR:Int
 fO:Int
 aG:bA
 sW:Bool
 bY:List UInt8
def fZ.cells (x:fZ):List Value:= [.int .i64 x.kR, .int .i64 x.fO, .int .i64 x.aG.aM, .int .i64 x.aG.aP, .int .i64 x.aG.fO, .int .i64 x.aG.aS, .int .i64 x.aG.dJ, .int .i64 x.aG.d9, .int .u64 ((x.aG.aY:Nat):Int), .int .u64 ((x.aG.ax:Nat):Int), .int .u64 ((x.aG.bf:Nat):Int), .int .u64 ((x.aG.di:Nat):Int), .int .u64 ((x.aG.bi:Nat):Int), .int .u64 ((x.aG.aI:Nat):Int), .int .u64 ((x.aG.dM:Nat):Int), .int .u64 ((x.aG.cZ:Nat):Int), .int .u64 ((x.aG.xN:Nat):Int), .bool x.aG.dY, .string ⟨y6 x.aG.bW.bJ⟩, .string ⟨y6 x.aG.bW.bX⟩, .slice x.aG.aD.A x.aG.aD.ls.length x.aG.aD.c, .slice x.aG.ai.A x.aG.ai.ls.length x.aG.ai.c, .slice x.aG.ag.A x.aG.ag.ls.length x.aG.ag.c, .bool x.sW, .string ⟨y6 x.bY⟩]
instance:Bk fZ:=⟨fun x _=>bk x.kR+(bk x.fO+(bk x.aG+(bk x.sW+(bk x.bY+(0)))))⟩
theorem fZ.len:∀ x,(fZ.cells x).length=25:=fun _=>rfl
theorem fZ.one:∀ x, ∀ u ∈ fZ.cells x,u.oneCell'=true:=fun x u hu=>by
 simp only [fZ.cells,v2,B3,or_false] at hu
 rcases hu with rfl | rfl | rfl | rfl | rfl | rfl | rfl | rfl | rfl | rfl | rfl | rfl | rfl | rfl | rfl | rfl | rfl | rfl | rfl | rfl | rfl | rfl | rfl | rfl | rfl <;> rfl
def Gp (w:World) (x:fZ):Prop:=((-9223372036854775808)≤x.kR∧x.kR≤9223372036854775807)∧((-9223372036854775808)≤x.fO∧x.fO≤9223372036854775807)∧(GI w x.aG)∧(True)∧(x.bY.length≤140737488351232)
theorem zO (w:World):kK y4 w 44 25 fZ.cells (Gp w):=
 (mo (sz:=25) Tryz.underlying44 e7 (fC.cons (i:=0) (off:=0) (s:=1) rfl rfl (lH (k:= .i64) (lo:= -9223372036854775808) (hi:=9223372036854775807) B4 e7 f3 f3) (fC.cons (i:=1) (off:=1) (s:=1) rfl rfl (lH (k:= .i64) (lo:= -9223372036854775808) (hi:=9223372036854775807) B4 e7 f3 f3) (fC.cons (i:=2) (off:=2) (s:=21) rfl rfl (AY w) (fC.cons (i:=3) (off:=23) (s:=1) rfl rfl (uf B8 e7) (fC.cons (i:=4) (off:=24) (s:=1) rfl rfl (jY B5 e7) fC.nil)))))).map (fun p=>⟨p.1,p.2.1,p.2.2.1,p.2.2.2.1,p.2.2.2.2.1⟩) fZ.len (fun _=>rfl) (fun _ h=>⟨h.1,h.2.1,h.2.2.1,h.2.2.2.1,h.2.2.2.2.1⟩) fun _=>m5 _
instance:Inhabited fZ:=⟨⟨default,default,default,default,default⟩⟩
structure StepT where
 kR:Int
 fO:Int
 aG:bQ
 sW:Bool
 bY:List UInt8
instance:Inhabited StepT:=⟨⟨default,default,default,default,default⟩⟩
def fZ.abs (x:fZ):StepT:=⟨x.kR,x.fO,x.aG.abs,x.sW,x.bY⟩
def fZ.own (x:fZ):List HP:= [row x.aG.aD.A x.aG.aD.ls.length x.aG.aD.c (q6 bC.cells x.aG.aD.ls) 72 6,row x.aG.ai.A x.aG.ai.ls.length x.aG.ai.c (q6 af.cells x.aG.ai.ls) 149 3,row x.aG.ag.A x.aG.ag.ls.length x.aG.ag.c (q6 bv.cells x.aG.ag.ls) 89 2,sepL (q6 af.own x.aG.ai.ls)]
abbrev Ei (v:Int) (w:Int) (x:Int) (y:Int) (z:Int) (A:Int) (B:Int) (C:Int) (D:Nat) (E:Nat) (g:Nat) (h:Nat) (i:Nat) (j:Nat) (k:Nat) (l:Nat) (m:Nat) (n:Bool) (o:List UInt8) (p:List UInt8) (q:Option Addr) (a b:Nat) (r:Option Addr) (c d:Nat) (s:Option Addr) (e f:Nat) (t:Bool) (u:List UInt8):List Value:= [.int .i64 v, .int .i64 w, .int .i64 x, .int .i64 y, .int .i64 z, .int .i64 A, .int .i64 B, .int .i64 C, .int .u64 ((D:Nat):Int), .int .u64 ((E:Nat):Int), .int .u64 ((g:Nat):Int), .int .u64 ((h:Nat):Int), .int .u64 ((i:Nat):Int), .int .u64 ((j:Nat):Int), .int .u64 ((k:Nat):Int), .int .u64 ((l:Nat):Int), .int .u64 ((m:Nat):Int), .bool n, .string ⟨y6 o⟩, .string ⟨y6 p⟩, .slice q a b, .slice r c d, .slice s e f, .bool t, .string ⟨y6 u⟩]
theorem lI:Elem y4 31 56 4 48:=kM (z:= .agg #[.int .i64 0, .int .u64 0, .int .u64 0, .slice none 0 0]) Tryz.underlying31 e7 rfl f3
structure aV where
 aS:Int
 ax:Nat
 aY:Nat
 ai:Sv af
def aV.cells (x:aV):List Value:= [.int .i64 x.aS, .int .u64 ((x.ax:Nat):Int), .int .u64 ((x.aY:Nat):Int), .slice x.ai.A x.ai.ls.length x.ai.c]
instance:Bk aV:=⟨fun x _=>bk x.aS+(bk x.ax+(bk x.aY+(bk x.ai+(0))))⟩
theorem aV.len:∀ x,(aV.cells x).length=4:=fun _=>rfl
theorem aV.one:∀ x, ∀ u ∈ aV.cells x,u.oneCell'=true:=fun x u hu=>by
 simp only [aV.cells,v2,B3,or_false] at hu
 rcases hu with rfl | rfl | rfl | rfl <;> rfl
def Ii (w:World) (x:aV):Prop:=((-9223372036854775808)≤x.aS∧x.aS≤9223372036854775807)∧(x.ax≤18446744073709551615)∧(x.aY≤18446744073709551615)∧(lU w 3 48 af.cells (F4 w) x.ai)
instance:Inhabited aV:=⟨⟨default,default,default,default⟩⟩
structure fF where
 aS:Int
 ax:Nat
 aY:Nat
 ai:Ll aX
instance:Inhabited fF:=⟨⟨default,default,default,default⟩⟩
def aV.abs (x:aV):fF:=⟨x.aS,x.ax,x.aY,⟨s8 af.abs x.ai.ls⟩⟩
def aV.own (x:aV):List HP:= [row x.ai.A x.ai.ls.length x.ai.c (q6 af.cells x.ai.ls) 149 3,sepL (q6 af.own x.ai.ls)]
theorem kv:Elem y4 30 60 5 56:=kM (z:= .agg #[.int .u64 0, .int .i64 0, .int .u64 0, .int .u64 0, .slice none 0 0]) Tryz.underlying30 e7 rfl f3
structure ay where
 bf:Nat
 aS:Int
 ax:Nat
 aY:Nat
 ak:Sv Int
def ay.cells (x:ay):List Value:= [.int .u64 ((x.bf:Nat):Int), .int .i64 x.aS, .int .u64 ((x.ax:Nat):Int), .int .u64 ((x.aY:Nat):Int), .slice x.ak.A x.ak.ls.length x.ak.c]
instance:Bk ay:=⟨fun x _=>bk x.bf+(bk x.aS+(bk x.ax+(bk x.aY+(bk x.ak+(0)))))⟩
theorem ay.len:∀ x,(ay.cells x).length=5:=fun _=>rfl
theorem ay.one:∀ x, ∀ u ∈ ay.cells x,u.oneCell'=true:=fun x u hu=>by
 simp only [ay.cells,v2,B3,or_false] at hu
 rcases hu with rfl | rfl | rfl | rfl | rfl <;> rfl
def Ha (w:World) (x:ay):Prop:=(x.bf≤18446744073709551615)∧((-9223372036854775808)≤x.aS∧x.aS≤9223372036854775807)∧(x.ax≤18446744073709551615)∧(x.aY≤18446744073709551615)∧(lU w 1 8 (eI .i64) (fun n=>(-9223372036854775808)≤n∧n≤9223372036854775807) x.ak)
instance:Inhabited ay:=⟨⟨default,default,default,default,default⟩⟩
structure bL where
 bf:Nat
 aS:Int
 ax:Nat
 aY:Nat
 ak:Ll Int
instance:Inhabited bL:=⟨⟨default,default,default,default,default⟩⟩
def ay.abs (x:ay):bL:=⟨x.bf,x.aS,x.ax,x.aY,⟨x.ak.ls⟩⟩
def ay.own (x:ay):List HP:= [row x.ak.A x.ak.ls.length x.ak.c (q6 (eI .i64) x.ak.ls) 3 1]
structure mq where
 ak:Int
 ax:Nat
 bi:Nat
 aI:Nat
 ag:Sv bv
 aj:Sv ay
 aF:Sv aV
def mq.cells (x:mq):List Value:= [.int .i64 x.ak, .int .u64 ((x.ax:Nat):Int), .int .u64 ((x.bi:Nat):Int), .int .u64 ((x.aI:Nat):Int), .slice x.ag.A x.ag.ls.length x.ag.c, .slice x.aj.A x.aj.ls.length x.aj.c, .slice x.aF.A x.aF.ls.length x.aF.c]
instance:Bk mq:=⟨fun x _=>bk x.ak+(bk x.ax+(bk x.bi+(bk x.aI+(bk x.ag+(bk x.aj+(bk x.aF+(0)))))))⟩
theorem mq.len:∀ x,(mq.cells x).length=7:=fun _=>rfl
theorem mq.one:∀ x, ∀ u ∈ mq.cells x,u.oneCell'=true:=fun x u hu=>by
 simp only [mq.cells,v2,B3,or_false] at hu
 rcases hu with rfl | rfl | rfl | rfl | rfl | rfl | rfl <;> rfl
def IB (w:World) (x:mq):Prop:=((-9223372036854775808)≤x.ak∧x.ak≤9223372036854775807)∧(x.ax≤18446744073709551615)∧(x.bi≤18446744073709551615)∧(x.aI≤18446744073709551615)∧(lU w 2 24 bv.cells (Gv w) x.ag)∧(lU w 5 56 ay.cells (Ha w) x.aj)∧(lU w 4 48 aV.cells (Ii w) x.aF)
instance:Inhabited mq:=⟨⟨default,default,default,default,default,default,default⟩⟩
structure dA where
 ak:Int
 ax:Nat
 bi:Nat
 aI:Nat
 ag:Ll bv
 aj:Ll bL
 aF:Ll fF
instance:Inhabited dA:=⟨⟨default,default,default,default,default,default,default⟩⟩
def mq.abs (x:mq):dA:=⟨x.ak,x.ax,x.bi,x.aI,⟨x.ag.ls⟩,⟨s8 ay.abs x.aj.ls⟩,⟨s8 aV.abs x.aF.ls⟩⟩
def mq.own (x:mq):List HP:= [row x.ag.A x.ag.ls.length x.ag.c (q6 bv.cells x.ag.ls) 89 2,row x.aj.A x.aj.ls.length x.aj.c (q6 ay.cells x.aj.ls) 60 5,row x.aF.A x.aF.ls.length x.aF.c (q6 aV.cells x.aF.ls) 56 4,sepL (q6 ay.own x.aj.ls),sepL (q6 aV.own x.aF.ls)]
theorem uh:Elem y4 45 42 21 232:=kM (z:= .agg (gH 0 0 0 0 0 0 0 0 0 0 0 0 0 0 0 false ([]) ([]) none 0 0 none 0 0 none 0 0).toArray) Tryz.underlying45 e7 rfl f3
structure nK where
 ed:Sv bA
 iD:Bool
def nK.cells (x:nK):List Value:= [.slice x.ed.A x.ed.ls.length x.ed.c, .bool x.iD]
instance:Bk nK:=⟨fun x _=>bk x.ed+(bk x.iD+(0))⟩
theorem nK.len:∀ x,(nK.cells x).length=2:=fun _=>rfl
theorem nK.one:∀ x, ∀ u ∈ nK.cells x,u.oneCell'=true:=fun x u hu=>by
 simp only [nK.cells,v2,B3,or_false] at hu
 rcases hu with rfl | rfl <;> rfl
def IE (w:World) (x:nK):Prop:=(lU w 21 232 bA.cells (GI w) x.ed)∧(True)
instance:Inhabited nK:=⟨⟨default,default⟩⟩
structure jL where
 ed:Ll bQ
 iD:Bool
instance:Inhabited jL:=⟨⟨default,default⟩⟩
def nK.abs (x:nK):jL:=⟨⟨s8 bA.abs x.ed.ls⟩,x.iD⟩
def nK.own (x:nK):List HP:= [row x.ed.A x.ed.ls.length x.ed.c (q6 bA.cells x.ed.ls) 42 21,sepL (q6 bA.own x.ed.ls)]
structure pY where
 bF:Bool
 Eu:Bool
def pY.cells (x:pY):List Value:= [.bool x.bF, .bool x.Eu]
instance:Bk pY:=⟨fun x _=>bk x.bF+(bk x.Eu+(0))⟩
theorem pY.len:∀ x,(pY.cells x).length=2:=fun _=>rfl
theorem pY.one:∀ x, ∀ u ∈ pY.cells x,u.oneCell'=true:=fun x u hu=>by
 simp only [pY.cells,v2,B3,or_false] at hu
 rcases hu with rfl | rfl <;> rfl
def IG (w:World) (x:pY):Prop:=(True)∧(True)
instance:Inhabited pY:=⟨⟨default,default⟩⟩
theorem sO:Elem y4 61 28 1 8:=kM (z:= .int .u64 0) Tryz.underlying61 e7 rfl f3
structure rU where
 oo:Int
 aH:Nat
def rU.cells (x:rU):List Value:= [.int .i64 x.oo, .int .u64 ((x.aH:Nat):Int)]
instance:Bk rU:=⟨fun x _=>bk x.oo+(bk x.aH+(0))⟩
theorem rU.len:∀ x,(rU.cells x).length=2:=fun _=>rfl
theorem rU.one:∀ x, ∀ u ∈ rU.cells x,u.oneCell'=true:=fun x u hu=>by
 simp only [rU.cells,v2,B3,or_false] at hu
 rcases hu with rfl | rfl <;> rfl
def II (w:World) (x:rU):Prop:=((-9223372036854775808)≤x.oo∧x.oo≤9223372036854775807)∧(x.aH≤18446744073709551615)
instance:Inhabited rU:=⟨⟨default,default⟩⟩
structure mr where
 dU:Int
 aD:Sv bC
 aP:Sv Int
def mr.cells (x:mr):List Value:= [.int .i64 x.dU, .slice x.aD.A x.aD.ls.length x.aD.c, .slice x.aP.A x.aP.ls.length x.aP.c]
instance:Bk mr:=⟨fun x _=>bk x.dU+(bk x.aD+(bk x.aP+(0)))⟩
theorem mr.len:∀ x,(mr.cells x).length=3:=fun _=>rfl
theorem mr.one:∀ x, ∀ u ∈ mr.cells x,u.oneCell'=true:=fun x u hu=>by
 simp only [mr.cells,v2,B3,or_false] at hu
 rcases hu with rfl | rfl | rfl <;> rfl
def IC (w:World) (x:mr):Prop:=((-9223372036854775808)≤x.dU∧x.dU≤9223372036854775807)∧(lU w 6 80 bC.cells (Gu w) x.aD)∧(lU w 1 8 (eI .i64) (fun n=>(-9223372036854775808)≤n∧n≤9223372036854775807) x.aP)
instance:Inhabited mr:=⟨⟨default,default,default⟩⟩
structure Bw where
 dU:Int
 aD:Ll bC
 aP:Ll Int
instance:Inhabited Bw:=⟨⟨default,default,default⟩⟩
def mr.abs (x:mr):Bw:=⟨x.dU,⟨x.aD.ls⟩,⟨x.aP.ls⟩⟩
def mr.own (x:mr):List HP:= [row x.aD.A x.aD.ls.length x.aD.c (q6 bC.cells x.aD.ls) 72 6,row x.aP.A x.aP.ls.length x.aP.c (q6 (eI .i64) x.aP.ls) 3 1]
theorem oQ:Elem y4 79 107 9 136:=kM (z:= .agg #[.int .u64 0, .int .i64 0, .int .u64 0, .int .u64 0, .slice none 0 0, .slice none 0 0, .slice none 0 0, .slice none 0 0, .int .i64 0]) Tryz.underlying79 e7 rfl f3
theorem sI:Elem y4 103 172 3 56:=kM (z:= .agg #[.int .i64 0, .slice none 0 0, .slice none 0 0]) Tryz.underlying103 e7 rfl f3
theorem wU:Elem y4 104 4 1 1:=kM (z:= .bool false) Tryz.underlying104 e7 rfl f3
theorem vM:Elem y4 105 40 1 24:=kM (z:= .slice none 0 0) Tryz.underlying105 e7 rfl f3
structure bB where
 bq:Nat
 aW:Int
 aH:Nat
 dw:Nat
 bS:Sv bC
 aC:Sv bG
 bF:Sv Bool
 ae:Sv (Sv af)
 dZ:Int
def bB.cells (x:bB):List Value:= [.int .u64 ((x.bq:Nat):Int), .int .i64 x.aW, .int .u64 ((x.aH:Nat):Int), .int .u64 ((x.dw:Nat):Int), .slice x.bS.A x.bS.ls.length x.bS.c, .slice x.aC.A x.aC.ls.length x.aC.c, .slice x.bF.A x.bF.ls.length x.bF.c, .slice x.ae.A x.ae.ls.length x.ae.c, .int .i64 x.dZ]
instance:Bk bB:=⟨fun x _=>bk x.bq+(bk x.aW+(bk x.aH+(bk x.dw+(bk x.bS+(bk x.aC+(bk x.bF+(bk x.ae+(bk x.dZ+(0)))))))))⟩
theorem bB.len:∀ x,(bB.cells x).length=9:=fun _=>rfl
theorem bB.one:∀ x, ∀ u ∈ bB.cells x,u.oneCell'=true:=fun x u hu=>by
 simp only [bB.cells,v2,B3,or_false] at hu
 rcases hu with rfl | rfl | rfl | rfl | rfl | rfl | rfl | rfl | rfl <;> rfl
def IJ (w:World) (x:bB):Prop:=(x.bq≤18446744073709551615)∧((-9223372036854775808)≤x.aW∧x.aW≤9223372036854775807)∧(x.aH≤18446744073709551615)∧(x.dw≤18446744073709551615)∧(lU w 6 80 bC.cells (Gu w) x.bS)∧(lU w 3 56 bG.cells (Ih w) x.aC)∧(lU w 1 1 eL (fun _=>True) x.bF)∧(lU w 1 24 (FJ (β:=af)) (lU w 3 48 af.cells (F4 w)) x.ae)∧((-9223372036854775808)≤x.dZ∧x.dZ≤9223372036854775807)
instance:Inhabited bB:=⟨⟨default,default,default,default,default,default,default,default,default⟩⟩
abbrev bM:=Sv af
def bM.abs (x:bM):Ll aX:=⟨s8 af.abs x.ls⟩
def bM.own (x:bM):List HP:= [row x.A x.ls.length x.c (q6 af.cells x.ls) 149 3,sepL (q6 af.own x.ls)]
structure dH where
 bq:Nat
 aW:Int
 aH:Nat
 dw:Nat
 bS:Ll bC
 aC:Ll fV
 bF:Ll Bool
 ae:Ll (Ll aX)
 dZ:Int
instance:Inhabited dH:=⟨⟨default,default,default,default,default,default,default,default,default⟩⟩
def bB.abs (x:bB):dH:=⟨x.bq,x.aW,x.aH,x.dw,⟨x.bS.ls⟩,⟨s8 bG.abs x.aC.ls⟩,⟨x.bF.ls⟩,⟨s8 bM.abs x.ae.ls⟩,x.dZ⟩
def bB.own (x:bB):List HP:= [row x.bS.A x.bS.ls.length x.bS.c (q6 bC.cells x.bS.ls) 72 6,row x.aC.A x.aC.ls.length x.aC.c (q6 bG.cells x.aC.ls) 172 3,row x.bF.A x.bF.ls.length x.bF.c (q6 eL x.bF.ls) 4 1,row x.ae.A x.ae.ls.length x.ae.c (q6 (FJ (β:=af)) x.ae.ls) 40 1,sepL (q6 bG.own x.aC.ls),sepL (q6 bM.own x.ae.ls)]
abbrev qC (i:Nat) (j:Int) (k:Nat) (l:Nat) (m:Option Addr) (a b:Nat) (n:Option Addr) (c d:Nat) (o:Option Addr) (e f:Nat) (p:Option Addr) (g h:Nat) (q:Int):List Value:= [.int .u64 ((i:Nat):Int), .int .i64 j, .int .u64 ((k:Nat):Int), .int .u64 ((l:Nat):Int), .slice m a b, .slice n c d, .slice o e f, .slice p g h, .int .i64 q]
abbrev AZ (x:dH) (a:Option Addr) (b:Nat) (c:Option Addr) (d:Nat) (e:Option Addr) (f:Nat) (g:Option Addr) (h:Nat):List Value:= [.int .u64 ((x.bq:Nat):Int), .int .i64 x.aW, .int .u64 ((x.aH:Nat):Int), .int .u64 ((x.dw:Nat):Int), .slice a x.bS.ls.length b, .slice c x.aC.ls.length d, .slice e x.bF.ls.length f, .slice g x.ae.ls.length h, .int .i64 x.dZ]
structure lu where
 aR:Bool
 aH:Nat
 aZ:Int
 ae:Sv af
def lu.cells (x:lu):List Value:= [.bool x.aR, .int .u64 ((x.aH:Nat):Int), .int .i64 x.aZ, .slice x.ae.A x.ae.ls.length x.ae.c]
instance:Bk lu:=⟨fun x _=>bk x.aR+(bk x.aH+(bk x.aZ+(bk x.ae+(0))))⟩
theorem lu.len:∀ x,(lu.cells x).length=4:=fun _=>rfl
theorem lu.one:∀ x, ∀ u ∈ lu.cells x,u.oneCell'=true:=fun x u hu=>by
 simp only [lu.cells,v2,B3,or_false] at hu
 rcases hu with rfl | rfl | rfl | rfl <;> rfl
def Iu (w:World) (x:lu):Prop:=(True)∧(x.aH≤18446744073709551615)∧((-9223372036854775808)≤x.aZ∧x.aZ≤9223372036854775807)∧(lU w 3 48 af.cells (F4 w) x.ae)
instance:Inhabited lu:=⟨⟨default,default,default,default⟩⟩
structure dV where
 aR:Bool
 aH:Nat
 aZ:Int
 ae:Ll aX
instance:Inhabited dV:=⟨⟨default,default,default,default⟩⟩
def lu.abs (x:lu):dV:=⟨x.aR,x.aH,x.aZ,⟨s8 af.abs x.ae.ls⟩⟩
def lu.own (x:lu):List HP:= [row x.ae.A x.ae.ls.length x.ae.c (q6 af.cells x.ae.ls) 149 3,sepL (q6 af.own x.ae.ls)]
structure aB where
 aa:dA
 bH:Nat
 aA:Ll dH
 aQ:dV
 aO:dV
 aL:dV
 aN:dV
 aK:dV
 df:Nat
 cu:Nat
 cz:Nat
 cB:Nat
 cK:Nat
instance:Inhabited aB:=⟨⟨default,default,default,default,default,default,default,default,default,default,default,default,default⟩⟩
theorem CK:Elem y4 126 154 1 8:=kM (z:= .int .i64 0) Tryz.underlying126 e7 rfl f3
structure lv where
 lS:Int
 oo:Int
 dh:Sv Int
def lv.cells (x:lv):List Value:= [.int .i64 x.lS, .int .i64 x.oo, .slice x.dh.A x.dh.ls.length x.dh.c]
instance:Bk lv:=⟨fun x _=>bk x.lS+(bk x.oo+(bk x.dh+(0)))⟩
theorem lv.len:∀ x,(lv.cells x).length=3:=fun _=>rfl
theorem lv.one:∀ x, ∀ u ∈ lv.cells x,u.oneCell'=true:=fun x u hu=>by
 simp only [lv.cells,v2,B3,or_false] at hu
 rcases hu with rfl | rfl | rfl <;> rfl
def Iw (w:World) (x:lv):Prop:=((-9223372036854775808)≤x.lS∧x.lS≤9223372036854775807)∧((-9223372036854775808)≤x.oo∧x.oo≤9223372036854775807)∧(lU w 1 8 (eI .i64) (fun n=>(-9223372036854775808)≤n∧n≤9223372036854775807) x.dh)
instance:Inhabited lv:=⟨⟨default,default,default⟩⟩
structure fQ where
 lS:Int
 oo:Int
 dh:Ll Int
instance:Inhabited fQ:=⟨⟨default,default,default⟩⟩
def lv.abs (x:lv):fQ:=⟨x.lS,x.oo,⟨x.dh.ls⟩⟩
def lv.own (x:lv):List HP:= [row x.dh.A x.dh.ls.length x.dh.c (q6 (eI .i64) x.dh.ls) 154 1]
structure bO where
 bE:Ll bQ
instance:Inhabited bO:=⟨⟨default⟩⟩
theorem wV:Elem y4 134 5 1 1:=kM (z:= .int .u8 0) Tryz.underlying134 e7 rfl f3
structure lC where
 xb:Sv UInt8
def lC.cells (x:lC):List Value:= [.slice x.xb.A x.xb.ls.length x.xb.c]
instance:Bk lC:=⟨fun x _=>bk x.xb+(0)⟩
theorem lC.len:∀ x,(lC.cells x).length=1:=fun _=>rfl
theorem lC.one:∀ x, ∀ u ∈ lC.cells x,u.oneCell'=true:=fun x u hu=>by
 simp only [lC.cells,v2,B3,or_false] at hu
 rcases hu with rfl <;> rfl
def Iy (w:World) (x:lC):Prop:=(lU w 1 1 eB (fun _=>True) x.xb)
instance:Inhabited lC:=⟨⟨default⟩⟩
structure dI where
 xb:Ll UInt8
instance:Inhabited dI:=⟨⟨default⟩⟩
def lC.abs (x:lC):dI:=⟨⟨x.xb.ls⟩⟩
def lC.own (x:lC):List HP:= [row x.xb.A x.xb.ls.length x.xb.c (q6 eB x.xb.ls) 5 1]
theorem CL:Elem y4 245 9 1 16:=kM (z:= .string ⟨y6 ([])⟩) Tryz.underlying245 e7 rfl f3
def iI (a:Int) (b:Int):Bool:=
 if a ≥ 1 then decide (a≤b) else false
theorem lL (w:World) (D:Nat→Prop) (b:Int) (c:Int) (f:Bool) (H:Own w D w []) (hr:iI b c=f):
    Calls y4 40 #[vI b,vI c] w (dS fun v w'=>v= .bool f∧Own w D w' []):=by
 refine cb Tryz.func40 ?_
 refine sr (Ar rfl (Mz rfl (Kz (.bool (decide (b ≥ 1))) (Mz rfl ?_))))
 by_cases a:b ≥ 1
 refine gw (vI b) (dT a) (E5 rfl) (gw (vI c) (dT a) (E5 rfl) (Gz (.bool (decide (b≤c))) (dT a) (fw (.bool (decide (b≤c))) (Fa rfl (dT a) rfl) (An rfl (rt (rs ?_))))))
 have d:=H.pk []
 obtain rfl:_=decide (b≤c):=hr.symm.trans (ip a)
 exact⟨rfl,d⟩
 refine Sz (dF a) (Sz (dF a) (Sz (dF a) (fw (.bool false) (ES rfl (dF a) rfl) (An rfl (rt (rs ?_))))))
 have e:=H.pk []
 obtain rfl:_=false:=hr.symm.trans (iN a)
 exact⟨rfl,e⟩
def rq (a:Int):Bool:=
 if a ≥ 1 then decide (a≤4) else false
theorem wz (w:World) (D:Nat→Prop) (b:Int) (e:Bool) (H:Own w D w []) (hr:rq b=e):
    Calls y4 111 #[vI b] w (dS fun v w'=>v= .bool e∧Own w D w' []):=by
 refine cb Tryz.func111 ?_
 refine sr (Ar rfl (Mz rfl (Kz (.bool (decide (b ≥ 1))) (Mz rfl ?_))))
 by_cases a:b ≥ 1
 refine gw (vI b) (dT a) (E5 rfl) (Gz (.bool (decide (b≤4))) (dT a) (fw (.bool (decide (b≤4))) (Fa rfl (dT a) rfl) (An rfl (rt (rs ?_)))))
 have c:=H.pk []
 obtain rfl:_=decide (b≤4):=hr.symm.trans (ip a)
 exact⟨rfl,c⟩
 refine Sz (dF a) (Sz (dF a) (fw (.bool false) (ES rfl (dF a) rfl) (An rfl (rt (rs ?_)))))
 have d:=H.pk []
 obtain rfl:_=false:=hr.symm.trans (iN a)
 exact⟨rfl,d⟩
def gu (a:List UInt8):Int:=
 if((a.length:Nat):Int) < 1 then 20 else if((a.length:Nat):Int) > 12 then 20 else 0
theorem jZ (w:World) (D:Nat→Prop) (b:List UInt8) (d:Int) (H:Own w D w []) (hr:gu b=d):
    Calls y4 112 #[.string ⟨y6 b⟩] w (dS fun v w'=>v=vI d∧Own w D w' []∧(¬ (d=0)∨(1≤b.length∧b.length≤12))∧(b.length < 1∨b.length > 12∨d=0)):=by
 refine cb Tryz.func112 ?_
 refine sr (An rfl (EP (sr (Mz rfl (Kz (vJ b.length) (Kz (.bool (decide (((b.length:Nat):Int) < 1))) (Mz rfl ?_)))))))
 by_cases a:((b.length:Nat):Int) < 1
 refine Sz (dT a) (Sz (dT a) (Sz (dT a) (fw (.bool true) (Fa rfl (dT a) rfl) (nt (jt (sr (An rfl (rt (tR (rs ?_))))))))))
 have e:=H.pk []
 obtain rfl:_=20:=hr.symm.trans (ip a)
 exact⟨rfl,e,e6,e6⟩
 refine gw (.string ⟨y6 b⟩) (dF a) (E5 rfl) (Gz (vJ b.length) (dF a) (Gz (.bool (decide (((b.length:Nat):Int) > 12))) (dF a) (fw (.bool (decide (((b.length:Nat):Int) > 12))) (ES rfl (dF a) rfl) (nt ?_))))
 by_cases c:((b.length:Nat):Int) > 12
 refine jT (dT c) (sr (An rfl (rt (tR (rs ?_)))))
 have f:=H.pk []
 obtain rfl:_=20:=hr.symm.trans (et (iN a) (ip c))
 exact⟨rfl,f,e6,e6⟩
 refine jF (dF c) (sk (sr (An rfl (rt (rs ?_)))))
 have g:=H.pk []
 obtain rfl:_=0:=hr.symm.trans (et (iN a) (iN c))
 exact⟨rfl,g,e6,e6⟩
def iw (l0:List bv):List bv→Nat→Unit ⊕ Int
  | [],a=>C1 ()
  | b::c,a=>bnd (rq b.dU) fun d=>if d=true then if((a:Nat):Int) > 0 then bnd (gu b.bJ) fun e=>if e=0 then bnd (C2 l0 (a - 1) default) fun f=>if b.bJ≤f.bJ then C3 (170) else iw l0 c (a+1) else C3 (170) else iw l0 c (a+1) else C3 (170)
def kH (l0:List bv):Int:=
 if((l0.length:Nat):Int) < 1 then 170 else if((l0.length:Nat):Int) > 6 then 170 else bnd (C2 l0 0 default) fun a=>if a.bJ≠([]) then 170 else lp (iw l0 l0 0) fun _=>0
theorem qD (w:World) (D:Nat→Prop) (h:Option Addr) (W G:Nat) (l0:List bv) (X:Int) (H:Own w D w []) (j:Ro w D fun w'=>bD w' 2 h W (q6 bv.cells l0)) (Y:W=l0.length) (aD:l0.length≤9223372036854775807) (hr:kH l0=X):
    Calls y4 72 #[.slice h W G] w (dS fun v w'=>v=vI X∧Own w D w' []∧(¬ (X=0)∨(1≤l0.length∧l0.length≤6))):=by
 subst Y
 refine cb Tryz.func72 ?_
 refine sr (An rfl (EP (sr (Mz rfl (Kz (vJ l0.length) (Kz (.bool (decide (((l0.length:Nat):Int) < 1))) (Mz rfl ?_)))))))
 by_cases g:((l0.length:Nat):Int) < 1
 refine Sz (dT g) (Sz (dT g) (Sz (dT g) (fw (.bool true) (Fa rfl (dT g) rfl) (Mz rfl (Sz rfl (Sz rfl (Sz rfl (Sz rfl (Sz rfl (fw (.bool true) (Fa rfl rfl rfl) (nt (jt (sr (An rfl (rt (tR (rs ?_)))))))))))))))))
 have Z:=H.pk []
 obtain rfl:_=170:=hr.symm.trans (ip g)
 exact⟨rfl,Z,e6⟩
 refine gw (.slice h l0.length G) (dF g) (E5 rfl) (Gz (vJ l0.length) (dF g) (Gz (.bool (decide (((l0.length:Nat):Int) > 6))) (dF g) (fw (.bool (decide (((l0.length:Nat):Int) > 6))) (ES rfl (dF g) rfl) (Mz rfl ?_))))
 by_cases d:((l0.length:Nat):Int) > 6
 refine Sz (dT d) (Sz (dT d) (Sz (dT d) (Sz (dT d) (Sz (dT d) (fw (.bool true) (Fa rfl (dT d) rfl) (nt (jt (sr (An rfl (rt (tR (rs ?_))))))))))))
 have aa:=H.pk []
 obtain rfl:_=170:=hr.symm.trans (et (iN g) (ip d))
 exact⟨rfl,aa,e6⟩
 refine gw (.slice h l0.length G) (dF d) (E5 rfl) ?_
 obtain⟨C,l⟩:=dG (ls:=l0) (i:=0) bv.len f3 (H.ro j) e9
 refine gw (.pointer (some ⟨ab h,ao h+0 *2,none⟩)) (dF d) (ET (pX) rfl rfl ((H.ro j).addr (i:=0) e6) e6) (Gz (.pointer (some ⟨ab h,ao h+0 *2,none⟩)) (dF d) (gw (.string ⟨y6 C.bJ⟩) (dF d) (EY rfl (bZ.one C4 (((H.ro j).elem bv.len l f3).at_ (k:=0) rfl))) (gw (.bool (decide (C.bJ≠([])))) (dF d) (Gd rfl rfl) (fw (.bool (decide (C.bJ≠([])))) (ES rfl (dF d) rfl) (nt ?_)))))
 by_cases r:C.bJ≠([])
 refine jT (dT r) (sr (An rfl (rt (tR (rs ?_)))))
 have ae:=H.pk []
 obtain rfl:_=170:=hr.symm.trans (et (iN g) (et (iN d) (et (ah (bI l)) (ip r))))
 exact⟨rfl,ae,e6⟩
 refine jF (dF r) (sk (EP (sr (Mz rfl (Kz (vJ l0.length) (Mn rfl (bo ?_)))))))
 have af:=H.pk []
 obtain⟨ag,u⟩:=lK fun(a:Nat) (w':World)=>Own w D w' []∧a≤l0.length∧iw l0 l0 0=iw l0 (r6 a l0) a
 refine C5 (fun i:Nat=> [(2,vI 0),(21,vJ i),(20,vJ l0.length),(0, .slice h l0.length G)]) ag (fun i=>l0.length - i) 0 ⟨rfl,rfl,rfl,rfl,trivial⟩ (u.2 ⟨af,e6,rfl⟩) ?_
 rintro a aF L
 obtain⟨z,ay,m⟩:=u.1 L
 refine sr (Kz (.bool (decide (((a:Nat):Int) < ((l0.length:Nat):Int)))) (nt (EP ?_)))
 by_cases M:((a:Nat):Int) < ((l0.length:Nat):Int)
 obtain⟨f,x⟩:=dG (ls:=l0) (i:=a) bv.len f3 (z.ro j) e9
 have o:=drop_at x
 refine jT (dT M) (sk (EP (bo (sr (Mz rfl (An rfl (EP (sr (Mz rfl (Mz rfl (fw (.pointer (some ⟨ab h,ao h+a *2,none⟩)) (ET (pX) rfl rfl ((z.ro j).addr (i:=a) e6) e6) (Kz (.pointer (some ⟨ab h,ao h+a *2+1,none⟩)) (fw (vI f.dU) (EY rfl (bZ.one C6 (((z.ro j).elem bv.len x f3).at_ (k:=1) rfl))) ?_)))))))))))))
 obtain⟨K,n⟩:∃ q,rq f.dU=q:=⟨_,rfl⟩
 obtain⟨aG,N,az,O,aA⟩:=EU z
 refine cl Tryz.call111 (wz _ _ f.dU K N n) ?_
 rintro _ aH ⟨rfl,P⟩
 have Q:=O _ _ P
 refine Kz (.bool (!K)) (nt ?_)
 rcases IW (K) with p | p
 refine jF (cn p) (sk (EP ?_))
 refine EG [] (E9 (bP.block (E9 (E9 (bP.block (E9 Fp)))))) Q ?_
 intro aI R
 refine qv 0 rfl rfl (qk (.bool (decide (((a:Nat):Int) > 0))) 1 rfl (qv 2 rfl rfl ?_))
 by_cases c:((a:Nat):Int) > 0
 refine EZ (v:= .slice h l0.length G) (rs:= []) 3 rfl rfl rfl (dT c) e7 (fun _ _=>E5 rfl) (EZ (v:=vJ a) (rs:= []) 4 rfl rfl rfl (dT c) e7 (fun _ _=>E5 rfl) (EZ (v:= .pointer (some ⟨ab h,ao h+a *2,none⟩)) (rs:= []) 5 rfl rfl rfl (dT c) e7 (fun _ ⟨_,A⟩=>ET (pX) rfl rfl ((A.ro j).addr (i:=a) e6) e6) (EZ (v:= .pointer (some ⟨ab h,ao h+a *2,none⟩)) (rs:= []) 6 rfl rfl rfl (dT c) e7 (fun _ _=>yk) (EZ (v:= .string ⟨y6 f.bJ⟩) (rs:= []) 7 rfl rfl rfl (dT c) e7 (fun _ ⟨_,A⟩=>EY rfl (bZ.one C4 (((A.ro j).elem bv.len x f3).at_ (k:=0) rfl))) ?_))))
 obtain⟨s,y⟩:∃ q,gu f.bJ=q:=⟨_,rfl⟩
 obtain⟨aJ,S,aB,T,aC⟩:=EU R
 refine Gg 8 rfl rfl rfl (dT c) e7 (Fe Tryz.call112 rfl (jZ _ _ f.bJ s S y) ?_)
 rintro _ aK ⟨rfl,U,I,J⟩
 have E:=T _ _ U
 replace I: ¬ (s=0)∨(1≤f.bJ.length∧f.bJ.length≤12):=I
 replace J:f.bJ.length < 1∨f.bJ.length > 12∨s=0:=J
 refine⟨.inr ⟨_,E⟩, ?_⟩
 refine EZ (v:= .bool (decide (¬ (s=0)))) (rs:= []) 9 rfl rfl rfl (dT c) e7 (fun _ _=>Fs (e:= !(decide (s=0))) yk decide_not.symm) (EZ (v:= .bool (decide (¬ (s=0)))) (rs:= []) 10 rfl rfl rfl (dT c) e7 (fun _ _=>E5 rfl) ?_)
 by_cases b:s=0
 refine EZ (v:= .slice h l0.length G) (rs:= []) 11 rfl rfl rfl (dF (IV b)) e7 (fun _ _=>E5 rfl) (EZ (v:=vJ a) (rs:= []) 12 rfl rfl rfl (dF (IV b)) e7 (fun _ _=>E5 rfl) (EZ (v:= .pointer (some ⟨ab h,ao h+a *2,none⟩)) (rs:= []) 13 rfl rfl rfl (dF (IV b)) e7 (fun _ ⟨_,A⟩=>ET (pX) rfl rfl ((A.ro j).addr (i:=a) e6) e6) (EZ (v:= .pointer (some ⟨ab h,ao h+a *2,none⟩)) (rs:= []) 14 rfl rfl rfl (dF (IV b)) e7 (fun _ _=>yk) (EZ (v:= .string ⟨y6 f.bJ⟩) (rs:= []) 15 rfl rfl rfl (dF (IV b)) e7 (fun _ ⟨_,A⟩=>EY rfl (bZ.one C4 (((A.ro j).elem bv.len x f3).at_ (k:=0) rfl))) (EZ (v:= .slice h l0.length G) (rs:= []) 16 rfl rfl rfl (dF (IV b)) e7 (fun _ _=>E5 rfl) (EZ (v:=vJ a) (rs:= []) 17 rfl rfl rfl (dF (IV b)) e7 (fun _ _=>E5 rfl) (EZ (v:=vJ (a - 1)) (rs:= []) 18 rfl rfl rfl (dF (IV b)) e7 (fun _ _=>EQ (e:=C7.wrap (((a:Nat):Int) - 1)) yk f1) ?_)))))))
 obtain⟨t,B⟩:=ji (ls:=l0) (i:=a - 1) e9
 refine EZ (v:= .pointer (some ⟨ab h,ao h+(a - 1) *2,none⟩)) (rs:= []) 19 rfl rfl rfl (dF (IV b)) e7 (fun _ ⟨_,A⟩=>ET (pX) rfl rfl ((A.ro j).addr (i:=a - 1) e6) e6) (EZ (v:= .pointer (some ⟨ab h,ao h+(a - 1) *2,none⟩)) (rs:= []) 20 rfl rfl rfl (dF (IV b)) e7 (fun _ _=>yk) (EZ (v:= .string ⟨y6 t.bJ⟩) (rs:= []) 21 rfl rfl rfl (dF (IV b)) e7 (fun _ ⟨_,A⟩=>EY rfl (bZ.one C4 (((A.ro j).elem bv.len B f3).at_ (k:=0) rfl))) (EZ (v:= .bool (decide (f.bJ≤t.bJ))) (rs:= []) 22 rfl rfl rfl (dF (IV b)) e7 (fun _ _=>Fs (e:=Op.bytesLess f.bJ t.bJ || decide (f.bJ=t.bJ)) (Gn rfl rfl) (yB _ _)) (EZ (v:= .bool (decide (f.bJ≤t.bJ))) (rs:= []) 23 rfl rfl rfl (dT c) e7 (fun _ _=>ES rfl (dF (IV b)) rfl) (qt (v:= .bool (decide (f.bJ≤t.bJ))) 24 rfl (fun _ _=>Fa rfl (dT c) rfl) (qn (ER ?_)))))))
 by_cases F:f.bJ≤t.bJ
 refine jT (dT F) (sr (An rfl (rt (bR (tR (tR (bR (tR (rs ?_)))))))))
 have ai:=E.pk []
 obtain rfl:_=170:=hr.symm.trans (et (iN g) (et (iN d) (et (ah (bI l)) (et (iN r) (iY (et (m) (et (congrArg (fun q=>iw l0 q a) o) (et (ah n) (et (ip p) (et (ip c) (et (ah y) (et (ip b) (et (ah (bI B)) (ip F))))))))))))))
 exact⟨rfl,ai,e6⟩
 refine jF (dF F) (Fq (bN (ER (EO (fw (vJ (a+1)) (EQ (e:=C7.wrap (((a:Nat):Int)+1)) yk f1) (Mz rfl (D0 ?_)))))))
 have aj:=E.pk []
 exact E8 (a+1) ⟨rfl,rfl,rfl,rfl,trivial⟩ (u.2 ⟨aj,e6,et (m) (et (congrArg (fun q=>iw l0 q a) o) (et (ah n) (et (ip p) (et (ip c) (et (ah y) (et (ip b) (et (ah (bI B)) (iN F))))))))⟩) (by show l0.length - (a+1) < l0.length - a; omega)
 refine EW (rs:= []) 11 rfl rfl rfl (dT b) e7 (EW (rs:= []) 12 rfl rfl rfl (dT b) e7 (EW (rs:= []) 13 rfl rfl rfl (dT b) e7 (EW (rs:= []) 14 rfl rfl rfl (dT b) e7 (EW (rs:= []) 15 rfl rfl rfl (dT b) e7 (EW (rs:= []) 16 rfl rfl rfl (dT b) e7 (EW (rs:= []) 17 rfl rfl rfl (dT b) e7 (EW (rs:= []) 18 rfl rfl rfl (dT b) e7 (EW (rs:= []) 19 rfl rfl rfl (dT b) e7 (EW (rs:= []) 20 rfl rfl rfl (dT b) e7 (EW (rs:= []) 21 rfl rfl rfl (dT b) e7 (EW (rs:= []) 22 rfl rfl rfl (dT b) e7 (EZ (v:= .bool true) (rs:= []) 23 rfl rfl rfl (dT c) e7 (fun _ _=>Fa rfl (dT b) rfl) (qt (v:= .bool true) 24 rfl (fun _ _=>Fa rfl (dT c) rfl) (qn (ER (jt (sr (An rfl (rt (bR (tR (tR (bR (tR (rs ?_)))))))))))))))))))))))))
 have ak:=E.pk []
 obtain rfl:_=170:=hr.symm.trans (et (iN g) (et (iN d) (et (ah (bI l)) (et (iN r) (iY (et (m) (et (congrArg (fun q=>iw l0 q a) o) (et (ah n) (et (ip p) (et (ip c) (et (ah y) (iN b))))))))))))
 exact⟨rfl,ak,e6⟩
 refine EW (rs:= []) 3 rfl rfl rfl (dF c) e7 (EW (rs:= []) 4 rfl rfl rfl (dF c) e7 (EW (rs:= []) 5 rfl rfl rfl (dF c) e7 (EW (rs:= []) 6 rfl rfl rfl (dF c) e7 (EW (rs:= []) 7 rfl rfl rfl (dF c) e7 (EW (rs:= []) 8 rfl rfl rfl (dF c) e7 (EW (rs:= []) 9 rfl rfl rfl (dF c) e7 (EW (rs:= []) 10 rfl rfl rfl (dF c) e7 (FI (rs:= []) 11 rfl rfl rfl e7 (FI (rs:= []) 12 rfl rfl rfl e7 (FI (rs:= []) 13 rfl rfl rfl e7 (FI (rs:= []) 14 rfl rfl rfl e7 (FI (rs:= []) 15 rfl rfl rfl e7 (FI (rs:= []) 16 rfl rfl rfl e7 (FI (rs:= []) 17 rfl rfl rfl e7 (FI (rs:= []) 18 rfl rfl rfl e7 (FI (rs:= []) 19 rfl rfl rfl e7 (FI (rs:= []) 20 rfl rfl rfl e7 (FI (rs:= []) 21 rfl rfl rfl e7 (FI (rs:= []) 22 rfl rfl rfl e7 (EW (rs:= []) 23 rfl rfl rfl (dF c) e7 (qt (v:= .bool false) 24 rfl (fun _ _=>ES rfl (dF c) rfl) (qn (ER (jf (Fq (bN (ER (EO (fw (vJ (a+1)) (EQ (e:=C7.wrap (((a:Nat):Int)+1)) yk f1) (Mz rfl (D0 ?_)))))))))))))))))))))))))))))))
 have au:=R.pk []
 exact E8 (a+1) ⟨rfl,rfl,rfl,rfl,trivial⟩ (u.2 ⟨au,e6,et (m) (et (congrArg (fun q=>iw l0 q a) o) (et (ah n) (et (ip p) (iN c))))⟩) (by show l0.length - (a+1) < l0.length - a; omega)
 refine jT (cn p) (sr (An rfl (rt (tR (bR (tR (tR (bR (tR (rs ?_))))))))))
 have av:=Q.pk []
 obtain rfl:_=170:=hr.symm.trans (et (iN g) (et (iN d) (et (ah (bI l)) (et (iN r) (iY (et (m) (et (congrArg (fun q=>iw l0 q a) o) (et (ah n) (fU p)))))))))
 exact⟨rfl,av,e6⟩
 refine jF (dF M) (D1 (EX ?_))
 have V:iw l0 l0 0=C1 ():=et (m) (et (congrArg (fun q=>iw l0 q a) (eD (ls:=l0) (i:=a) e6)) rfl)
 refine EX (Fg (ER (sr (An rfl (rt (rs ?_))))))
 have ax:=z.pk []
 obtain rfl:_=0:=hr.symm.trans (et (iN g) (et (iN d) (et (ah (bI l)) (et (iN r) (nI V)))))
 exact⟨rfl,ax,e6⟩
def jl (c:dA):List bv→Unit ⊕ Bool
  | []=>C1 ()
  | a::b=>if a.dU > c.ak then C3 (false) else jl c b
def nL (b:dA):Bool:=
 bnd (kH b.ag.ls) fun a=>if a=0 then lp (jl b b.ag.ls) fun _=>true else false
set_option maxHeartbeats 1000000 in
theorem uG (w:World) (D:Nat→Prop) (a:dA) (b:Option Addr) (E f:Nat) (h:Option Addr) (F j:Nat) (p:List ay) (k:Option Addr) (G l:Nat) (r:List aV) (r0:Bool) (H:Own w D w []) (L:E=a.ag.ls.length) (g:Ro w D fun w'=>bD w' 2 b a.ag.ls.length (q6 bv.cells a.ag.ls)) (ag:a.ag.ls.length≤f∧a.ag.ls.length≤9223372036854775807) (M:s8 ay.abs p=a.aj.ls) (N:F=a.aj.ls.length) (ai:Ro w D fun w'=>bD w' 5 h a.aj.ls.length (q6 ay.cells p)) (aj:a.aj.ls.length≤j∧a.aj.ls.length≤9223372036854775807) (ak:∀ x ∈ p,Ro w D (fun w'=>bD w' 1 x.ak.A x.ak.ls.length (q6 (eI .i64) x.ak.ls))∧(x.ak.ls.length≤x.ak.c∧x.ak.ls.length≤9223372036854775807)) (O:s8 aV.abs r=a.aF.ls) (P:G=a.aF.ls.length) (au:Ro w D fun w'=>bD w' 4 k a.aF.ls.length (q6 aV.cells r)) (av:a.aF.ls.length≤l∧a.aF.ls.length≤9223372036854775807) (ax:∀ x ∈ r,Ro w D (fun w'=>bD w' 3 x.ai.A x.ai.ls.length (q6 af.cells x.ai.ls))∧(x.ai.ls.length≤x.ai.c∧x.ai.ls.length≤9223372036854775807)∧(∀ R ∈ x.ai.ls,Ro w D (fun w'=>bD w' 2 R.au.A R.au.ls.length (q6 aJ.cells R.au.ls))∧(R.au.ls.length≤R.au.c∧R.au.ls.length≤9223372036854775807))) (aN:a.ag.ls.length≤140737488355328∧a.aj.ls.length≤140737488355328∧a.aF.ls.length≤140737488355328) (hr:nL a=r0):
    Calls y4 41 #[.agg #[vI a.ak,vU a.ax,vU a.bi,vU a.aI, .slice b E f, .slice h F j, .slice k G l]] w (dS fun v w'=>v= .bool r0∧Own w D w' []):=by
 subst L N P
 have aa:=az M
 have ae:=az O
 refine cb Tryz.func41 ?_
 refine sr ?_
 refine dK [vI a.ak,vU a.ax,vU a.bi,vU a.aI, .slice b a.ag.ls.length f, .slice h a.aj.ls.length j, .slice k a.aF.ls.length l] 33 H ?_
 intro n aO S
 refine An rfl (EP (sr (Kz (vP n 4) (Lz (.slice b a.ag.ls.length f) S 0 Tryz.isAgg29 ?_))))
 obtain⟨s,m⟩:∃ q,kH a.ag.ls=q:=⟨_,rfl⟩
 obtain⟨aP,T,U,V,aL⟩:=EU S
 refine cl Tryz.call72 (qD _ _ b a.ag.ls.length f a.ag.ls s T (U _ g) rfl e6 m) ?_
 rintro _ aQ ⟨rfl,W,I⟩
 have Q:=V _ _ W
 replace I: ¬ (s=0)∨(1≤a.ag.ls.length∧a.ag.ls.length≤6):=I
 refine fw (.bool (decide (¬ (s=0)))) (Fs (e:= !(decide (s=0))) yk decide_not.symm) (nt ?_)
 by_cases t:s=0
 refine jF (dF (IV t)) (sk (EP (sr (Kz (vP n 4) (Lz (.slice b a.ag.ls.length f) Q 0 Tryz.isAgg29 (Kz (vJ a.ag.ls.length) (Mn rfl (bo ?_))))))))
 have aA:=Q.pf []
 obtain⟨aB,u⟩:=lK fun(d:Nat) (w':World)=>Own w D w' [blk n [vI a.ak,vU a.ax,vU a.bi,vU a.aI, .slice b a.ag.ls.length f, .slice h a.aj.ls.length j, .slice k a.aF.ls.length l] 33]∧d≤a.ag.ls.length∧jl a a.ag.ls=jl a (r6 d a.ag.ls)
 refine C5 (fun i:Nat=> [(2, .bool false),(12,vJ i),(11,vJ a.ag.ls.length),(10, .slice b a.ag.ls.length f),(1,vP n 0)]) aB (fun i=>a.ag.ls.length - i) 0 ⟨rfl,rfl,rfl,rfl,rfl,trivial⟩ (u.2 ⟨aA,e6,rfl⟩) ?_
 rintro d aR X
 obtain⟨y,aM,z⟩:=u.1 X
 refine sr (Kz (.bool (decide (((d:Nat):Int) < ((a.ag.ls.length:Nat):Int)))) (nt (EP ?_)))
 by_cases Y:((d:Nat):Int) < ((a.ag.ls.length:Nat):Int)
 obtain⟨o,J⟩:=dG (ls:=a.ag.ls) (i:=d) bv.len f3 (y.ro g) e9
 have K:=drop_at J
 refine jT (dT Y) (sk (EP (bo (sr (fw (.pointer (some ⟨ab b,ao b+d *2,none⟩)) (ET (pX) rfl rfl ((y.ro g).addr (i:=d) e6) e6) (fw (.agg (bv.cells o).toArray) (EY rfl (Fb (cs:=(bv.cells o)) Tryz.isAgg89 Tryz.sizeOf89 ((y.ro g).elem bv.len J f3))) ?_))))))
 refine dK [.string ⟨y6 ([])⟩,vI 0] 89 y ?_
 intro aC aS aD
 refine dN (bv.cells o) 0 aD Tryz.sizeOf89 ?_
 intro aT B
 refine ns (Kz (vP aC 1) (Lz (vI o.dU) B 0 C6 (Kz (vP n 0) (Lz (vI a.ak) B 1 C6 (Kz (.bool (decide (o.dU > a.ak))) (nt ?_))))))
 by_cases C:o.dU > a.ak
 refine jT (dT C) (sr (An rfl (rt (bR (tR (tR (bR (tR (rs ?_)))))))))
 have aF:=B.pk []
 obtain rfl:_=false:=hr.symm.trans (et (ah m) (et (ip t) (iY (et (z) (et (congrArg (fun q=>jl a q) K) (ip C))))))
 exact⟨rfl,aF⟩
 refine jF (dF C) (Fq (bN (ER (EO (fw (vJ (d+1)) (EQ (e:=C7.wrap (((d:Nat):Int)+1)) yk f1) (Mz rfl (D0 ?_)))))))
 have aG:=B.pk [1]
 exact E8 (d+1) ⟨rfl,rfl,rfl,rfl,rfl,trivial⟩ (u.2 ⟨aG,e6,et (z) (et (congrArg (fun q=>jl a q) K) (iN C))⟩) (by show a.ag.ls.length - (d+1) < a.ag.ls.length - d; omega)
 refine jF (dF Y) (D1 (EX ?_))
 have Z:jl a a.ag.ls=C1 ():=et (z) (et (congrArg (fun q=>jl a q) (eD (ls:=a.ag.ls) (i:=d) e6)) rfl)
 refine EX (Fg (ER (sr (An rfl (rt (rs ?_))))))
 have aH:=y.pk []
 obtain rfl:_=true:=hr.symm.trans (et (ah m) (et (ip t) (nI Z)))
 exact⟨rfl,aH⟩
 refine jT (dT t) (sr (An rfl (rt (tR (rs ?_)))))
 have aI:=Q.pk []
 obtain rfl:_=false:=hr.symm.trans (et (ah m) (iN t))
 exact⟨rfl,aI⟩
def dP (h:dA) (c:Nat) (b:bL):List Int→Nat→Unit ⊕ Bool
  | [],a=>C1 ()
  | d::e,a=>bnd (iI d h.ak) fun f=>if f=true then if((a:Nat):Int) > 0 then bnd (C2 b.ak.ls (a - 1) default) fun g=>if d≤g then C3 (false) else dP h c b e (a+1) else dP h c b e (a+1) else C3 (false)
def gm (h:dA) (g:Nat) (d:bL):List Int→Nat→Unit ⊕ Bool
  | [],a=>C1 ()
  | b::c,a=>bnd (iI b h.ak) fun e=>if e=true then if((a:Nat):Int) > 0 then bnd (C2 d.ak.ls (a - 1) default) fun f=>if b≤f then C3 (false) else gm h g d c (a+1) else gm h g d c (a+1) else C3 (false)
def dL (c:dA):List bL→Nat→Unit ⊕ Bool
  | [],b=>C1 ()
  | a::e,b=>if((b:Nat):Int) > 0 then bnd (C2 c.aj.ls (b - 1) default) fun f=>if((a.bf:Nat):Int)≤((f.bf:Nat):Int) then C3 (false) else if((a.bf:Nat):Int) ≥ ((eQ (D2 (D3.wrap (((c.ax:Nat):Int)+1))) 32:Nat):Int) then C3 (false) else bnd (iI a.aS 4) fun g=>if g=true then if((a.ak.ls.length:Nat):Int)=0 then C3 (false) else qQ (dP c b a a.ak.ls 0) fun _=>dL c e (b+1) else C3 (false) else if((a.bf:Nat):Int) ≥ ((eQ (D2 (D3.wrap (((c.ax:Nat):Int)+1))) 32:Nat):Int) then C3 (false) else bnd (iI a.aS 4) fun d=>if d=true then if((a.ak.ls.length:Nat):Int)=0 then C3 (false) else qQ (gm c b a a.ak.ls 0) fun _=>dL c e (b+1) else C3 (false)
def mY (a:dA):Bool:=
 if((a.aj.ls.length:Nat):Int) > 8 then false else lp (dL a a.aj.ls 0) fun _=>true
set_option maxHeartbeats 1000000 in
theorem ui (w:World) (D:Nat→Prop) (d:dA) (S:Option Addr) (aY T:Nat) (f:Option Addr) (aZ p:Nat) (ag:List ay) (U:Option Addr) (bf V:Nat) (aO:List aV) (r0:Bool) (H:Own w D w []) (bn:aY=d.ag.ls.length) (dO:Ro w D fun w'=>bD w' 2 S d.ag.ls.length (q6 bv.cells d.ag.ls)) (dQ:d.ag.ls.length≤T∧d.ag.ls.length≤9223372036854775807) (aB:s8 ay.abs ag=d.aj.ls) (bq:aZ=d.aj.ls.length) (O:Ro w D fun w'=>bD w' 5 f d.aj.ls.length (q6 ay.cells ag)) (dR:d.aj.ls.length≤p∧d.aj.ls.length≤9223372036854775807) (o:∀ x ∈ ag,Ro w D (fun w'=>bD w' 1 x.ak.A x.ak.ls.length (q6 (eI .i64) x.ak.ls))∧(x.ak.ls.length≤x.ak.c∧x.ak.ls.length≤9223372036854775807)) (bu:s8 aV.abs aO=d.aF.ls) (bz:bf=d.aF.ls.length) (dU:Ro w D fun w'=>bD w' 4 U d.aF.ls.length (q6 aV.cells aO)) (dV:d.aF.ls.length≤V∧d.aF.ls.length≤9223372036854775807) (dW:∀ x ∈ aO,Ro w D (fun w'=>bD w' 3 x.ai.A x.ai.ls.length (q6 af.cells x.ai.ls))∧(x.ai.ls.length≤x.ai.c∧x.ai.ls.length≤9223372036854775807)∧(∀ y1 ∈ x.ai.ls,Ro w D (fun w'=>bD w' 2 y1.au.A y1.au.ls.length (q6 aJ.cells y1.au.ls))∧(y1.au.ls.length≤y1.au.c∧y1.au.ls.length≤9223372036854775807))) (fM:d.ag.ls.length≤140737488355328∧d.aj.ls.length≤140737488355328∧d.aF.ls.length≤140737488355328) (hr:mY d=r0):
    Calls y4 42 #[.agg #[vI d.ak,vU d.ax,vU d.bi,vU d.aI, .slice S aY T, .slice f aZ p, .slice U bf V]] w (dS fun v w'=>v= .bool r0∧Own w D w' []):=by
 subst bn bq bz
 have dJ:=az aB
 have dM:=az bu
 refine cb Tryz.func42 ?_
 refine sr ?_
 refine dK [vI d.ak,vU d.ax,vU d.bi,vU d.aI, .slice S d.ag.ls.length T, .slice f d.aj.ls.length p, .slice U d.aF.ls.length V] 33 H ?_
 intro y fO aX
 refine An rfl (EP (sr (Kz (vP y 5) (Lz (.slice f d.aj.ls.length p) aX 0 D4 (Kz (vJ d.aj.ls.length) (Kz (.bool (decide (((d.aj.ls.length:Nat):Int) > 8))) (nt ?_)))))))
 by_cases G:((d.aj.ls.length:Nat):Int) > 8
 refine jT (dT G) (sr (An rfl (rt (tR (rs ?_)))))
 have dX:=aX.pk []
 obtain rfl:_=false:=hr.symm.trans (ip G)
 exact⟨rfl,dX⟩
 refine jF (dF G) (sk (EP (sr (Kz (vP y 5) (Lz (.slice f d.aj.ls.length p) aX 0 D4 (Kz (vJ d.aj.ls.length) (Mn rfl (bo ?_))))))))
 have dY:=aX.pf []
 obtain⟨dZ,aG⟩:=lK fun(b:Nat) (w':World)=>Own w D w' [blk y [vI d.ak,vU d.ax,vU d.bi,vU d.aI, .slice S d.ag.ls.length T, .slice f d.aj.ls.length p, .slice U d.aF.ls.length V] 33]∧b≤d.aj.ls.length∧dL d d.aj.ls 0=dL d (r6 b d.aj.ls) b
 refine C5 (fun i:Nat=> [(2, .bool false),(14,vJ i),(13,vJ d.aj.ls.length),(12, .slice f d.aj.ls.length p),(1,vP y 0)]) dZ (fun i=>d.aj.ls.length - i) 0 ⟨rfl,rfl,rfl,rfl,rfl,trivial⟩ (aG.2 ⟨dY,e6,rfl⟩) ?_
 rintro b fP bQ
 obtain⟨aP,fo,z⟩:=aG.1 bQ
 refine sr (Kz (.bool (decide (((b:Nat):Int) < ((d.aj.ls.length:Nat):Int)))) (nt (EP ?_)))
 by_cases bS:((b:Nat):Int) < ((d.aj.ls.length:Nat):Int)
 obtain⟨a,t⟩:=dG (ls:=ag) (i:=b) ay.len f3 (aP.ro O) e9
 have bT:=eP aB t
 have fq:=(o _ (E0 t)).2
 have C:=drop_at bT
 refine jT (dT bS) (sk (EP (bo (sr (Mz rfl (fw (.pointer (some ⟨ab f,ao f+b *5,none⟩)) (ET (kv) rfl rfl ((aP.ro O).addr (i:=b) e6) e6) (fw (.agg (ay.cells a).toArray) (EY rfl (Fb (cs:=(ay.cells a)) Tryz.isAgg60 Tryz.sizeOf60 ((aP.ro O).elem ay.len t f3))) ?_)))))))
 refine dK [.int .u64 0,vI 0, .int .u64 0, .int .u64 0, .slice none 0 0] 60 aP ?_
 intro j fQ d9
 refine Az rfl ?_
 refine dN (ay.cells a) 0 d9 Tryz.sizeOf60 ?_
 intro fT ed
 refine nt (EP (EP ?_))
 refine o5 [] (E9 (E9 (bP.block (E9 (E9 (bP.block (E9 Fp))))))) ed ?_
 intro fV aC
 refine qv 0 rfl rfl (qk (.bool (decide (((b:Nat):Int) > 0))) 1 rfl (qv 2 rfl rfl ?_))
 by_cases l:((b:Nat):Int) > 0
 refine EZ (v:=vP j 0) (rs:= []) 3 rfl rfl rfl (dT l) e7 (fun _ _=>yk) (EZ (v:=vU a.bf) (rs:= []) 4 rfl rfl rfl (dT l) e7 (fun _ ⟨_,H9⟩=>EY rfl (bZ.one E1 (FE (H9.cls (i:=0) rfl) rfl))) (EZ (v:=vP y 5) (rs:= []) 5 rfl rfl rfl (dT l) e7 (fun _ _=>yk) (EZ (v:= .slice f d.aj.ls.length p) (rs:= []) 6 rfl rfl rfl (dT l) e7 (fun _ ⟨_,H9⟩=>EY rfl (bZ.one D4 (FE (H9.cls (i:=1) rfl) rfl))) (EZ (v:=vJ b) (rs:= []) 7 rfl rfl rfl (dT l) e7 (fun _ _=>E5 rfl) (EZ (v:=vJ (b - 1)) (rs:= []) 8 rfl rfl rfl (dT l) e7 (fun _ _=>EQ (e:=C7.wrap (((b:Nat):Int) - 1)) yk f1) ?_)))))
 obtain⟨N,aQ⟩:=ji (ls:=ag) (i:=b - 1) e9
 have P:=eP aB aQ
 have fu:=(o _ (E0 aQ)).2
 refine EZ (v:= .pointer (some ⟨ab f,ao f+(b - 1) *5,none⟩)) (rs:= []) 9 rfl rfl rfl (dT l) e7 (fun _ ⟨_,H9⟩=>ET (kv) rfl rfl ((H9.ro O).addr (i:=b - 1) e6) e6) (EZ (v:= .pointer (some ⟨ab f,ao f+(b - 1) *5,none⟩)) (rs:= []) 10 rfl rfl rfl (dT l) e7 (fun _ _=>yk) (EZ (v:=vU N.bf) (rs:= []) 11 rfl rfl rfl (dT l) e7 (fun _ ⟨_,H9⟩=>EY rfl (bZ.one E1 (((H9.ro O).elem ay.len aQ f3).at_ (k:=0) rfl))) (EZ (v:= .bool (decide (((a.bf:Nat):Int)≤((N.bf:Nat):Int)))) (rs:= []) 12 rfl rfl rfl (dT l) e7 (fun _ _=>yk) (qt (v:= .bool (decide (((a.bf:Nat):Int)≤((N.bf:Nat):Int)))) 13 rfl (fun _ _=>Fa rfl (dT l) rfl) (qv 14 rfl rfl ?_)))))
 by_cases u:((a.bf:Nat):Int)≤((N.bf:Nat):Int)
 refine EW (rs:= []) 15 rfl rfl rfl (dT u) e7 (EW (rs:= []) 16 rfl rfl rfl (dT u) e7 (EW (rs:= []) 17 rfl rfl rfl (dT u) e7 (EW (rs:= []) 18 rfl rfl rfl (dT u) e7 (EW (rs:= []) 19 rfl rfl rfl (dT u) e7 (EW (rs:= []) 20 rfl rfl rfl (dT u) e7 (EW (rs:= []) 21 rfl rfl rfl (dT u) e7 (qt (v:= .bool true) 22 rfl (fun _ _=>Fa rfl (dT u) rfl) (qn (ER (jt (sr (An rfl (rt (tR (bR (tR (tR (bR (tR (rs ?_))))))))))))))))))))
 have ek:=aC.pk []
 obtain rfl:_=false:=hr.symm.trans (et (iN G) (iY (et (z) (et (congrArg (fun q=>dL d q b) C) (et (ip l) (et (ah (bI P)) (ip u)))))))
 exact⟨rfl,ek⟩
 refine EZ (v:=vP j 0) (rs:= []) 15 rfl rfl rfl (dF u) e7 (fun _ _=>yk) (EZ (v:=vU a.bf) (rs:= []) 16 rfl rfl rfl (dF u) e7 (fun _ ⟨_,H9⟩=>EY rfl (bZ.one E1 (FE (H9.cls (i:=0) rfl) rfl))) (EZ (v:=vP y 1) (rs:= []) 17 rfl rfl rfl (dF u) e7 (fun _ _=>yk) (EZ (v:=vU d.ax) (rs:= []) 18 rfl rfl rfl (dF u) e7 (fun _ ⟨_,H9⟩=>EY rfl (bZ.one E1 (FE (H9.cls (i:=1) rfl) rfl))) (EZ (v:= .int .u64 ((D2 (D3.wrap (((d.ax:Nat):Int)+1)):Nat):Int)) (rs:= []) 19 rfl rfl rfl (dF u) e7 (fun _ _=>EQ (e:=D3.wrap (((d.ax:Nat):Int)+1)) yk (fe _)) ?_))))
 have fA:eQ (D2 (D3.wrap (((d.ax:Nat):Int)+1))) 32≤18446744073709551615:=oC _ _
 refine EZ (v:= .int .u64 ((eQ (D2 (D3.wrap (((d.ax:Nat):Int)+1))) 32:Nat):Int)) (rs:= []) 20 rfl rfl rfl (dF u) e7 (fun _ _=>EQ (Gm (m:=32) rfl rfl) (fe _)) (EZ (v:= .bool (decide (((a.bf:Nat):Int) ≥ ((eQ (D2 (D3.wrap (((d.ax:Nat):Int)+1))) 32:Nat):Int)))) (rs:= []) 21 rfl rfl rfl (dF u) e7 (fun _ _=>yk) (qt (v:= .bool (decide (((a.bf:Nat):Int) ≥ ((eQ (D2 (D3.wrap (((d.ax:Nat):Int)+1))) 32:Nat):Int)))) 22 rfl (fun _ _=>ES rfl (dF u) rfl) (qn (ER ?_))))
 by_cases ai:((a.bf:Nat):Int) ≥ ((eQ (D2 (D3.wrap (((d.ax:Nat):Int)+1))) 32:Nat):Int)
 refine jT (dT ai) (sr (An rfl (rt (tR (bR (tR (tR (bR (tR (rs ?_))))))))))
 have eu:=aC.pk []
 obtain rfl:_=false:=hr.symm.trans (et (iN G) (iY (et (z) (et (congrArg (fun q=>dL d q b) C) (et (ip l) (et (ah (bI P)) (et (iN u) (ip ai))))))))
 exact⟨rfl,eu⟩
 refine jF (dF ai) (sk (EP (sr (Kz (vP j 1) (Lz (vI a.aS) aC 0 C6 ?_)))))
 obtain⟨Z,W⟩:∃ q,iI a.aS 4=q:=⟨_,rfl⟩
 obtain⟨fZ,bU,fB,bV,fC⟩:=EU aC
 refine cl E2 (lL _ _ a.aS 4 Z bU W) ?_
 rintro _ gp ⟨rfl,bW⟩
 have aR:=bV _ _ bW
 refine Kz (.bool (!Z)) (Mz rfl ?_)
 rcases IW (Z) with F | F
 refine Gz (vP j 4) (cn F) (Gl (.slice a.ak.A a.ak.ls.length a.ak.c) (cn F) aR 0 E3 (Gz (vJ a.ak.ls.length) (cn F) (Gz (.bool (decide (((a.ak.ls.length:Nat):Int)=0))) (cn F) (fw (.bool (decide (((a.ak.ls.length:Nat):Int)=0))) (ES rfl (cn F) rfl) (nt ?_)))))
 by_cases aM:((a.ak.ls.length:Nat):Int)=0
 refine jT (dT aM) (sr (An rfl (rt (tR (bR (tR (tR (bR (tR (rs ?_))))))))))
 have eB:=aR.pk []
 obtain rfl:_=false:=hr.symm.trans (et (iN G) (iY (et (z) (et (congrArg (fun q=>dL d q b) C) (et (ip l) (et (ah (bI P)) (et (iN u) (et (iN ai) (et (ah W) (et (ip F) (ip aM)))))))))))
 exact⟨rfl,eB⟩
 refine jF (dF aM) (sk (sr (Kz (vP j 4) (Lz (.slice a.ak.A a.ak.ls.length a.ak.c) aR 0 E3 (Kz (vJ a.ak.ls.length) (Mn rfl (bo ?_)))))))
 have eF:=aR.pf []
 obtain⟨eG,aH⟩:=lK fun(h:Nat) (w':World)=>Own w D w' [blk j (ay.cells a) 60,blk y [vI d.ak,vU d.ax,vU d.bi,vU d.aI, .slice S d.ag.ls.length T, .slice f d.aj.ls.length p, .slice U d.aF.ls.length V] 33]∧h≤a.ak.ls.length∧dP d b (ay.abs a) a.ak.ls 0=dP d b (ay.abs a) (r6 h a.ak.ls) h
 refine C5 (fun i:Nat=> [(2, .bool false),(55,vJ i),(54,vJ a.ak.ls.length),(53, .slice a.ak.A a.ak.ls.length a.ak.c),(52,vP j 4),(51, .bool (decide (((a.ak.ls.length:Nat):Int)=0))),(50, .bool (decide (((a.ak.ls.length:Nat):Int)=0))),(49,vJ a.ak.ls.length),(48, .slice a.ak.A a.ak.ls.length a.ak.c),(47,vP j 4),(46, .bool (!Z)),(45, .bool (!Z)),(44, .bool Z),(43,vI a.aS),(42,vP j 1),(41, .bool (decide (((a.bf:Nat):Int) ≥ ((eQ (D2 (D3.wrap (((d.ax:Nat):Int)+1))) 32:Nat):Int)))),(40, .bool (decide (((a.bf:Nat):Int) ≥ ((eQ (D2 (D3.wrap (((d.ax:Nat):Int)+1))) 32:Nat):Int)))),(39, .int .u64 ((eQ (D2 (D3.wrap (((d.ax:Nat):Int)+1))) 32:Nat):Int)),(38, .int .u64 ((D2 (D3.wrap (((d.ax:Nat):Int)+1)):Nat):Int)),(37,vU d.ax),(36,vP y 1),(35,vU a.bf),(34,vP j 0),(33, .bool (decide (((a.bf:Nat):Int)≤((N.bf:Nat):Int)))),(32, .bool (decide (((a.bf:Nat):Int)≤((N.bf:Nat):Int)))),(31, .bool (decide (((a.bf:Nat):Int)≤((N.bf:Nat):Int)))),(30,vU N.bf),(29, .pointer (some ⟨ab f,ao f+(b - 1) *5,none⟩)),(28, .pointer (some ⟨ab f,ao f+(b - 1) *5,none⟩)),(27,vJ (b - 1)),(26,vJ b),(25, .slice f d.aj.ls.length p),(24,vP y 5),(23,vU a.bf),(22,vP j 0),(21, .bool (decide (((b:Nat):Int) > 0))),(20, .bool (decide (((b:Nat):Int) > 0))),(19,vJ b),(3,vJ b),(4,vP j 0),(18, .agg (ay.cells a).toArray),(17, .pointer (some ⟨ab f,ao f+b *5,none⟩)),(16,vJ b),(15, .bool (decide (((b:Nat):Int) < ((d.aj.ls.length:Nat):Int)))),(14,vJ b),(13,vJ d.aj.ls.length),(12, .slice f d.aj.ls.length p),(1,vP y 0)]) eG (fun i=>a.ak.ls.length - i) 0 ⟨rfl,rfl,rfl,rfl,rfl,rfl,rfl,rfl,rfl,rfl,rfl,rfl,rfl,rfl,rfl,rfl,rfl,rfl,rfl,rfl,rfl,rfl,rfl,rfl,rfl,rfl,rfl,rfl,rfl,rfl,rfl,rfl,rfl,rfl,rfl,rfl,rfl,rfl,rfl,rfl,rfl,rfl,rfl,rfl,rfl,rfl,rfl,rfl,trivial⟩ (aH.2 ⟨eF,e6,rfl⟩) ?_
 rintro h gq bX
 obtain⟨aN,fD,aj⟩:=aH.1 bX
 refine sr (Kz (.bool (decide (((h:Nat):Int) < ((a.ak.ls.length:Nat):Int)))) (nt (EP ?_)))
 by_cases bY:((h:Nat):Int) < ((a.ak.ls.length:Nat):Int)
 obtain⟨ak,bg⟩:=dG (ls:=a.ak.ls) (i:=h) iH f3 (aN.ro (o _ (E0 t)).1) e9
 have aI:=drop_at bg
 refine jT (dT bY) (sk (EP (bo (sr (Mz rfl (fw (.pointer (some ⟨ab a.ak.A,ao a.ak.A+h *1,none⟩)) (ET (mQ) rfl rfl ((aN.ro (o _ (E0 t)).1).addr (i:=h) e6) e6) (fw (vI ak) (EY rfl (bZ.one C6 (((aN.ro (o _ (E0 t)).1).elem iH bg f3).at_ (k:=0) rfl))) (Az rfl (Ar rfl (Mz rfl (Kz (vP y 0) (Lz (vI d.ak) aN 1 C6 ?_))))))))))))
 obtain⟨bA,au⟩:∃ q,iI ak d.ak=q:=⟨_,rfl⟩
 obtain⟨gu,cu,fE,cz,fF⟩:=EU aN
 refine cl E2 (lL _ _ ak d.ak bA cu au) ?_
 rintro _ gy ⟨rfl,cB⟩
 have av:=cz _ _ cB
 refine Kz (.bool (!bA)) (Mz rfl ?_)
 rcases IW (bA) with E | E
 refine gw (vJ h) (cn E) (E5 rfl) (Gz (.bool (decide (((h:Nat):Int) > 0))) (cn E) (gw (.bool (decide (((h:Nat):Int) > 0))) (cn E) (E5 rfl) ?_))
 by_cases B:((h:Nat):Int) > 0
 refine gw (vI ak) (dT B) (E5 rfl) (Gz (vP j 4) (dT B) (Gl (.slice a.ak.A a.ak.ls.length a.ak.c) (dT B) av 0 E3 (gw (vJ h) (dT B) (E5 rfl) (gw (vJ (h - 1)) (dT B) (EQ (e:=C7.wrap (((h:Nat):Int) - 1)) yk f1) ?_))))
 obtain⟨aS,aT⟩:=dG (ls:=a.ak.ls) (i:=h - 1) iH f3 (av.ro (o _ (E0 t)).1) e9
 refine gw (.pointer (some ⟨ab a.ak.A,ao a.ak.A+(h - 1) *1,none⟩)) (dT B) (ET (mQ) rfl rfl ((av.ro (o _ (E0 t)).1).addr (i:=h - 1) e6) e6) (gw (vI aS) (dT B) (EY rfl (bZ.one C6 (((av.ro (o _ (E0 t)).1).elem iH aT f3).at_ (k:=0) rfl))) (Gz (.bool (decide (ak≤aS))) (dT B) (gw (.bool (decide (ak≤aS))) (cn E) (Fa rfl (dT B) rfl) (fw (.bool (decide (ak≤aS))) (ES rfl (cn E) rfl) (nt ?_)))))
 by_cases aK:ak≤aS
 refine jT (dT aK) (sr (An rfl (rt (bR (tR (tR (bR (bR (tR (tR (bR (tR (rs ?_)))))))))))))
 have cK:=av.pk []
 obtain rfl:_=false:=hr.symm.trans (et (iN G) (iY (et (z) (et (congrArg (fun q=>dL d q b) C) (et (ip l) (et (ah (bI P)) (et (iN u) (et (iN ai) (et (ah W) (et (ip F) (et (iN aM) (mX (et (aj) (et (congrArg (fun q=>dP d b (ay.abs a) q h) aI) (et (ah au) (et (ip E) (et (ip B) (et (ah (bI aT)) (ip aK)))))))))))))))))))
 exact⟨rfl,cK⟩
 refine jF (dF aK) (Fq (bN (ER (EO (fw (vJ (h+1)) (EQ (e:=C7.wrap (((h:Nat):Int)+1)) yk f1) (Mz rfl (D0 ?_)))))))
 have cO:=av.pf []
 exact E8 (h+1) ⟨rfl,rfl,rfl,rfl,rfl,rfl,rfl,rfl,rfl,rfl,rfl,rfl,rfl,rfl,rfl,rfl,rfl,rfl,rfl,rfl,rfl,rfl,rfl,rfl,rfl,rfl,rfl,rfl,rfl,rfl,rfl,rfl,rfl,rfl,rfl,rfl,rfl,rfl,rfl,rfl,rfl,rfl,rfl,rfl,rfl,rfl,rfl,rfl,trivial⟩ (aH.2 ⟨cO,e6,et (aj) (et (congrArg (fun q=>dP d b (ay.abs a) q h) aI) (et (ah au) (et (ip E) (et (ip B) (et (ah (bI aT)) (iN aK))))))⟩) (by show a.ak.ls.length - (h+1) < a.ak.ls.length - h; omega)
 refine Sz (dF B) (Sz (dF B) (Sz (dF B) (Sz (dF B) (Sz (dF B) (Sz (dF B) (Sz (dF B) (Sz (dF B) (gw (.bool false) (cn E) (ES rfl (dF B) rfl) (fw (.bool false) (ES rfl (cn E) rfl) (nt (jf (Fq (bN (ER (EO (fw (vJ (h+1)) (EQ (e:=C7.wrap (((h:Nat):Int)+1)) yk f1) (Mz rfl (D0 ?_))))))))))))))))))
 have cZ:=av.pf []
 exact E8 (h+1) ⟨rfl,rfl,rfl,rfl,rfl,rfl,rfl,rfl,rfl,rfl,rfl,rfl,rfl,rfl,rfl,rfl,rfl,rfl,rfl,rfl,rfl,rfl,rfl,rfl,rfl,rfl,rfl,rfl,rfl,rfl,rfl,rfl,rfl,rfl,rfl,rfl,rfl,rfl,rfl,rfl,rfl,rfl,rfl,rfl,rfl,rfl,rfl,rfl,trivial⟩ (aH.2 ⟨cZ,e6,et (aj) (et (congrArg (fun q=>dP d b (ay.abs a) q h) aI) (et (ah au) (et (ip E) (iN B))))⟩) (by show a.ak.ls.length - (h+1) < a.ak.ls.length - h; omega)
 refine Sz (cn E) (Sz (cn E) (Sz (cn E) (FB rfl rfl rfl (FB rfl rfl rfl (FB rfl rfl rfl (FB rfl rfl rfl (FB rfl rfl rfl (FB rfl rfl rfl (FB rfl rfl rfl (FB rfl rfl rfl (Sz (cn E) (fw (.bool true) (Fa rfl (cn E) rfl) (nt (jt (sr (An rfl (rt (bR (tR (tR (bR (bR (tR (tR (bR (tR (rs ?_)))))))))))))))))))))))))))
 have df:=av.pk []
 obtain rfl:_=false:=hr.symm.trans (et (iN G) (iY (et (z) (et (congrArg (fun q=>dL d q b) C) (et (ip l) (et (ah (bI P)) (et (iN u) (et (iN ai) (et (ah W) (et (ip F) (et (iN aM) (mX (et (aj) (et (congrArg (fun q=>dP d b (ay.abs a) q h) aI) (et (ah au) (fU E))))))))))))))))
 exact⟨rfl,df⟩
 refine jF (dF bY) (D1 (EX ?_))
 have bB:dP d b (ay.abs a) a.ak.ls 0=C1 ():=et (aj) (et (congrArg (fun q=>dP d b (ay.abs a) q h) (eD (ls:=a.ak.ls) (i:=h) e6)) rfl)
 refine EX (Fg (bN (ER (EO (fw (vJ (b+1)) (EQ (e:=C7.wrap (((b:Nat):Int)+1)) yk f1) (Mz rfl (D0 ?_)))))))
 have dh:=aN.pk [1]
 exact E8 (b+1) ⟨rfl,rfl,rfl,rfl,rfl,trivial⟩ (aG.2 ⟨dh,e6,et (z) (et (congrArg (fun q=>dL d q b) C) (et (ip l) (et (ah (bI P)) (et (iN u) (et (iN ai) (et (ah W) (et (ip F) (et (iN aM) (oK bB)))))))))⟩) (by show d.aj.ls.length - (b+1) < d.aj.ls.length - b; omega)
 refine Sz (cn F) (Sz (cn F) (Sz (cn F) (Sz (cn F) (fw (.bool true) (Fa rfl (cn F) rfl) (nt (jt (sr (An rfl (rt (tR (bR (tR (tR (bR (tR (rs ?_))))))))))))))))
 have di:=aR.pk []
 obtain rfl:_=false:=hr.symm.trans (et (iN G) (iY (et (z) (et (congrArg (fun q=>dL d q b) C) (et (ip l) (et (ah (bI P)) (et (iN u) (et (iN ai) (et (ah W) (fU F))))))))))
 exact⟨rfl,di⟩
 refine EW (rs:= []) 3 rfl rfl rfl (dF l) e7 (EW (rs:= []) 4 rfl rfl rfl (dF l) e7 (EW (rs:= []) 5 rfl rfl rfl (dF l) e7 (EW (rs:= []) 6 rfl rfl rfl (dF l) e7 (EW (rs:= []) 7 rfl rfl rfl (dF l) e7 (EW (rs:= []) 8 rfl rfl rfl (dF l) e7 (EW (rs:= []) 9 rfl rfl rfl (dF l) e7 (EW (rs:= []) 10 rfl rfl rfl (dF l) e7 (EW (rs:= []) 11 rfl rfl rfl (dF l) e7 (EW (rs:= []) 12 rfl rfl rfl (dF l) e7 (qt (v:= .bool false) 13 rfl (fun _ _=>ES rfl (dF l) rfl) (qv 14 rfl rfl (EZ (v:=vP j 0) (rs:= []) 15 rfl rfl rfl rfl e7 (fun _ _=>yk) (EZ (v:=vU a.bf) (rs:= []) 16 rfl rfl rfl rfl e7 (fun _ ⟨_,H9⟩=>EY rfl (bZ.one E1 (FE (H9.cls (i:=0) rfl) rfl))) (EZ (v:=vP y 1) (rs:= []) 17 rfl rfl rfl rfl e7 (fun _ _=>yk) (EZ (v:=vU d.ax) (rs:= []) 18 rfl rfl rfl rfl e7 (fun _ ⟨_,H9⟩=>EY rfl (bZ.one E1 (FE (H9.cls (i:=1) rfl) rfl))) (EZ (v:= .int .u64 ((D2 (D3.wrap (((d.ax:Nat):Int)+1)):Nat):Int)) (rs:= []) 19 rfl rfl rfl rfl e7 (fun _ _=>EQ (e:=D3.wrap (((d.ax:Nat):Int)+1)) yk (fe _)) ?_))))))))))))))))
 have eH:eQ (D2 (D3.wrap (((d.ax:Nat):Int)+1))) 32≤18446744073709551615:=oC _ _
 refine EZ (v:= .int .u64 ((eQ (D2 (D3.wrap (((d.ax:Nat):Int)+1))) 32:Nat):Int)) (rs:= []) 20 rfl rfl rfl rfl e7 (fun _ _=>EQ (Gm (m:=32) rfl rfl) (fe _)) (EZ (v:= .bool (decide (((a.bf:Nat):Int) ≥ ((eQ (D2 (D3.wrap (((d.ax:Nat):Int)+1))) 32:Nat):Int)))) (rs:= []) 21 rfl rfl rfl rfl e7 (fun _ _=>yk) (qt (v:= .bool (decide (((a.bf:Nat):Int) ≥ ((eQ (D2 (D3.wrap (((d.ax:Nat):Int)+1))) 32:Nat):Int)))) 22 rfl (fun _ _=>ES rfl rfl rfl) (qn (ER ?_))))
 by_cases K:((a.bf:Nat):Int) ≥ ((eQ (D2 (D3.wrap (((d.ax:Nat):Int)+1))) 32:Nat):Int)
 refine jT (dT K) (sr (An rfl (rt (tR (bR (tR (tR (bR (tR (rs ?_))))))))))
 have dm:=aC.pk []
 obtain rfl:_=false:=hr.symm.trans (et (iN G) (iY (et (z) (et (congrArg (fun q=>dL d q b) C) (et (iN l) (ip K))))))
 exact⟨rfl,dm⟩
 refine jF (dF K) (sk (EP (sr (Kz (vP j 1) (Lz (vI a.aS) aC 0 C6 ?_)))))
 obtain⟨I,J⟩:∃ q,iI a.aS 4=q:=⟨_,rfl⟩
 obtain⟨fG,bC,eO,bE,eT⟩:=EU aC
 refine cl E2 (lL _ _ a.aS 4 I bC J) ?_
 rintro _ fH ⟨rfl,bF⟩
 have ax:=bE _ _ bF
 refine Kz (.bool (!I)) (Mz rfl ?_)
 rcases IW (I) with s | s
 refine Gz (vP j 4) (cn s) (Gl (.slice a.ak.A a.ak.ls.length a.ak.c) (cn s) ax 0 E3 (Gz (vJ a.ak.ls.length) (cn s) (Gz (.bool (decide (((a.ak.ls.length:Nat):Int)=0))) (cn s) (fw (.bool (decide (((a.ak.ls.length:Nat):Int)=0))) (ES rfl (cn s) rfl) (nt ?_)))))
 by_cases X:((a.ak.ls.length:Nat):Int)=0
 refine jT (dT X) (sr (An rfl (rt (tR (bR (tR (tR (bR (tR (rs ?_))))))))))
 have dn:=ax.pk []
 obtain rfl:_=false:=hr.symm.trans (et (iN G) (iY (et (z) (et (congrArg (fun q=>dL d q b) C) (et (iN l) (et (iN K) (et (ah J) (et (ip s) (ip X)))))))))
 exact⟨rfl,dn⟩
 refine jF (dF X) (sk (sr (Kz (vP j 4) (Lz (.slice a.ak.A a.ak.ls.length a.ak.c) ax 0 E3 (Kz (vJ a.ak.ls.length) (Mn rfl (bo ?_)))))))
 have dw:=ax.pf []
 obtain⟨dx,aa⟩:=lK fun(g:Nat) (w':World)=>Own w D w' [blk j (ay.cells a) 60,blk y [vI d.ak,vU d.ax,vU d.bi,vU d.aI, .slice S d.ag.ls.length T, .slice f d.aj.ls.length p, .slice U d.aF.ls.length V] 33]∧g≤a.ak.ls.length∧gm d b (ay.abs a) a.ak.ls 0=gm d b (ay.abs a) (r6 g a.ak.ls) g
 refine C5 (fun i:Nat=> [(2, .bool false),(55,vJ i),(54,vJ a.ak.ls.length),(53, .slice a.ak.A a.ak.ls.length a.ak.c),(52,vP j 4),(51, .bool (decide (((a.ak.ls.length:Nat):Int)=0))),(50, .bool (decide (((a.ak.ls.length:Nat):Int)=0))),(49,vJ a.ak.ls.length),(48, .slice a.ak.A a.ak.ls.length a.ak.c),(47,vP j 4),(46, .bool (!I)),(45, .bool (!I)),(44, .bool I),(43,vI a.aS),(42,vP j 1),(41, .bool (decide (((a.bf:Nat):Int) ≥ ((eQ (D2 (D3.wrap (((d.ax:Nat):Int)+1))) 32:Nat):Int)))),(40, .bool (decide (((a.bf:Nat):Int) ≥ ((eQ (D2 (D3.wrap (((d.ax:Nat):Int)+1))) 32:Nat):Int)))),(39, .int .u64 ((eQ (D2 (D3.wrap (((d.ax:Nat):Int)+1))) 32:Nat):Int)),(38, .int .u64 ((D2 (D3.wrap (((d.ax:Nat):Int)+1)):Nat):Int)),(37,vU d.ax),(36,vP y 1),(35,vU a.bf),(34,vP j 0),(33, .bool false),(32, .bool false),(31,undef),(30,undef),(29,undef),(28,undef),(27,undef),(26,undef),(25,undef),(24,undef),(23,undef),(22,undef),(21, .bool (decide (((b:Nat):Int) > 0))),(20, .bool (decide (((b:Nat):Int) > 0))),(19,vJ b),(3,vJ b),(4,vP j 0),(18, .agg (ay.cells a).toArray),(17, .pointer (some ⟨ab f,ao f+b *5,none⟩)),(16,vJ b),(15, .bool (decide (((b:Nat):Int) < ((d.aj.ls.length:Nat):Int)))),(14,vJ b),(13,vJ d.aj.ls.length),(12, .slice f d.aj.ls.length p),(1,vP y 0)]) dx (fun i=>a.ak.ls.length - i) 0 ⟨rfl,rfl,rfl,rfl,rfl,rfl,rfl,rfl,rfl,rfl,rfl,rfl,rfl,rfl,rfl,rfl,rfl,rfl,rfl,rfl,rfl,rfl,rfl,rfl,rfl,rfl,rfl,rfl,rfl,rfl,rfl,rfl,rfl,rfl,rfl,rfl,rfl,rfl,rfl,rfl,rfl,rfl,rfl,rfl,rfl,rfl,rfl,rfl,trivial⟩ (aa.2 ⟨dw,e6,rfl⟩) ?_
 rintro g fI bG
 obtain⟨Y,eU,Q⟩:=aa.1 bG
 refine sr (Kz (.bool (decide (((g:Nat):Int) < ((a.ak.ls.length:Nat):Int)))) (nt (EP ?_)))
 by_cases bi:((g:Nat):Int) < ((a.ak.ls.length:Nat):Int)
 obtain⟨L,aU⟩:=dG (ls:=a.ak.ls) (i:=g) iH f3 (Y.ro (o _ (E0 t)).1) e9
 have ae:=drop_at aU
 refine jT (dT bi) (sk (EP (bo (sr (Mz rfl (fw (.pointer (some ⟨ab a.ak.A,ao a.ak.A+g *1,none⟩)) (ET (mQ) rfl rfl ((Y.ro (o _ (E0 t)).1).addr (i:=g) e6) e6) (fw (vI L) (EY rfl (bZ.one C6 (((Y.ro (o _ (E0 t)).1).elem iH aU f3).at_ (k:=0) rfl))) (Az rfl (Ar rfl (Mz rfl (Kz (vP y 0) (Lz (vI d.ak) Y 1 C6 ?_))))))))))))
 obtain⟨aW,R⟩:∃ q,iI L d.ak=q:=⟨_,rfl⟩
 obtain⟨fJ,bH,eX,bJ,eY⟩:=EU Y
 refine cl E2 (lL _ _ L d.ak aW bH R) ?_
 rintro _ fK ⟨rfl,bK⟩
 have M:=bJ _ _ bK
 refine Kz (.bool (!aW)) (Mz rfl ?_)
 rcases IW (aW) with r | r
 refine gw (vJ g) (cn r) (E5 rfl) (Gz (.bool (decide (((g:Nat):Int) > 0))) (cn r) (gw (.bool (decide (((g:Nat):Int) > 0))) (cn r) (E5 rfl) ?_))
 by_cases n:((g:Nat):Int) > 0
 refine gw (vI L) (dT n) (E5 rfl) (Gz (vP j 4) (dT n) (Gl (.slice a.ak.A a.ak.ls.length a.ak.c) (dT n) M 0 E3 (gw (vJ g) (dT n) (E5 rfl) (gw (vJ (g - 1)) (dT n) (EQ (e:=C7.wrap (((g:Nat):Int) - 1)) yk f1) ?_))))
 obtain⟨aA,aF⟩:=dG (ls:=a.ak.ls) (i:=g - 1) iH f3 (M.ro (o _ (E0 t)).1) e9
 refine gw (.pointer (some ⟨ab a.ak.A,ao a.ak.A+(g - 1) *1,none⟩)) (dT n) (ET (mQ) rfl rfl ((M.ro (o _ (E0 t)).1).addr (i:=g - 1) e6) e6) (gw (vI aA) (dT n) (EY rfl (bZ.one C6 (((M.ro (o _ (E0 t)).1).elem iH aF f3).at_ (k:=0) rfl))) (Gz (.bool (decide (L≤aA))) (dT n) (gw (.bool (decide (L≤aA))) (cn r) (Fa rfl (dT n) rfl) (fw (.bool (decide (L≤aA))) (ES rfl (cn r) rfl) (nt ?_)))))
 by_cases aL:L≤aA
 refine jT (dT aL) (sr (An rfl (rt (bR (tR (tR (bR (bR (tR (tR (bR (tR (rs ?_)))))))))))))
 have dz:=M.pk []
 obtain rfl:_=false:=hr.symm.trans (et (iN G) (iY (et (z) (et (congrArg (fun q=>dL d q b) C) (et (iN l) (et (iN K) (et (ah J) (et (ip s) (et (iN X) (mX (et (Q) (et (congrArg (fun q=>gm d b (ay.abs a) q g) ae) (et (ah R) (et (ip r) (et (ip n) (et (ah (bI aF)) (ip aL)))))))))))))))))
 exact⟨rfl,dz⟩
 refine jF (dF aL) (Fq (bN (ER (EO (fw (vJ (g+1)) (EQ (e:=C7.wrap (((g:Nat):Int)+1)) yk f1) (Mz rfl (D0 ?_)))))))
 have dB:=M.pf []
 exact E8 (g+1) ⟨rfl,rfl,rfl,rfl,rfl,rfl,rfl,rfl,rfl,rfl,rfl,rfl,rfl,rfl,rfl,rfl,rfl,rfl,rfl,rfl,rfl,rfl,rfl,rfl,rfl,rfl,rfl,rfl,rfl,rfl,rfl,rfl,rfl,rfl,rfl,rfl,rfl,rfl,rfl,rfl,rfl,rfl,rfl,rfl,rfl,rfl,rfl,rfl,trivial⟩ (aa.2 ⟨dB,e6,et (Q) (et (congrArg (fun q=>gm d b (ay.abs a) q g) ae) (et (ah R) (et (ip r) (et (ip n) (et (ah (bI aF)) (iN aL))))))⟩) (by show a.ak.ls.length - (g+1) < a.ak.ls.length - g; omega)
 refine Sz (dF n) (Sz (dF n) (Sz (dF n) (Sz (dF n) (Sz (dF n) (Sz (dF n) (Sz (dF n) (Sz (dF n) (gw (.bool false) (cn r) (ES rfl (dF n) rfl) (fw (.bool false) (ES rfl (cn r) rfl) (nt (jf (Fq (bN (ER (EO (fw (vJ (g+1)) (EQ (e:=C7.wrap (((g:Nat):Int)+1)) yk f1) (Mz rfl (D0 ?_))))))))))))))))))
 have dC:=M.pf []
 exact E8 (g+1) ⟨rfl,rfl,rfl,rfl,rfl,rfl,rfl,rfl,rfl,rfl,rfl,rfl,rfl,rfl,rfl,rfl,rfl,rfl,rfl,rfl,rfl,rfl,rfl,rfl,rfl,rfl,rfl,rfl,rfl,rfl,rfl,rfl,rfl,rfl,rfl,rfl,rfl,rfl,rfl,rfl,rfl,rfl,rfl,rfl,rfl,rfl,rfl,rfl,trivial⟩ (aa.2 ⟨dC,e6,et (Q) (et (congrArg (fun q=>gm d b (ay.abs a) q g) ae) (et (ah R) (et (ip r) (iN n))))⟩) (by show a.ak.ls.length - (g+1) < a.ak.ls.length - g; omega)
 refine Sz (cn r) (Sz (cn r) (Sz (cn r) (FB rfl rfl rfl (FB rfl rfl rfl (FB rfl rfl rfl (FB rfl rfl rfl (FB rfl rfl rfl (FB rfl rfl rfl (FB rfl rfl rfl (FB rfl rfl rfl (Sz (cn r) (fw (.bool true) (Fa rfl (cn r) rfl) (nt (jt (sr (An rfl (rt (bR (tR (tR (bR (bR (tR (tR (bR (tR (rs ?_)))))))))))))))))))))))))))
 have dD:=M.pk []
 obtain rfl:_=false:=hr.symm.trans (et (iN G) (iY (et (z) (et (congrArg (fun q=>dL d q b) C) (et (iN l) (et (iN K) (et (ah J) (et (ip s) (et (iN X) (mX (et (Q) (et (congrArg (fun q=>gm d b (ay.abs a) q g) ae) (et (ah R) (fU r))))))))))))))
 exact⟨rfl,dD⟩
 refine jF (dF bi) (D1 (EX ?_))
 have bL:gm d b (ay.abs a) a.ak.ls 0=C1 ():=et (Q) (et (congrArg (fun q=>gm d b (ay.abs a) q g) (eD (ls:=a.ak.ls) (i:=g) e6)) rfl)
 refine EX (Fg (bN (ER (EO (fw (vJ (b+1)) (EQ (e:=C7.wrap (((b:Nat):Int)+1)) yk f1) (Mz rfl (D0 ?_)))))))
 have dE:=Y.pk [1]
 exact E8 (b+1) ⟨rfl,rfl,rfl,rfl,rfl,trivial⟩ (aG.2 ⟨dE,e6,et (z) (et (congrArg (fun q=>dL d q b) C) (et (iN l) (et (iN K) (et (ah J) (et (ip s) (et (iN X) (oK bL)))))))⟩) (by show d.aj.ls.length - (b+1) < d.aj.ls.length - b; omega)
 refine Sz (cn s) (Sz (cn s) (Sz (cn s) (Sz (cn s) (fw (.bool true) (Fa rfl (cn s) rfl) (nt (jt (sr (An rfl (rt (tR (bR (tR (tR (bR (tR (rs ?_))))))))))))))))
 have dH:=ax.pk []
 obtain rfl:_=false:=hr.symm.trans (et (iN G) (iY (et (z) (et (congrArg (fun q=>dL d q b) C) (et (iN l) (et (iN K) (et (ah J) (fU s))))))))
 exact⟨rfl,dH⟩
 refine jF (dF bS) (D1 (EX ?_))
 have bM:dL d d.aj.ls 0=C1 ():=et (z) (et (congrArg (fun q=>dL d q b) (eD (ls:=d.aj.ls) (i:=b) e6)) rfl)
 refine EX (Fg (ER (sr (An rfl (rt (rs ?_))))))
 have dI:=aP.pk []
 obtain rfl:_=true:=hr.symm.trans (et (iN G) (nI bM))
 exact⟨rfl,dI⟩
def gB:List aJ→Unit ⊕ Bool
  | []=>C1 ()
  | a::c=>bnd (gu a.bY) fun b=>if b=0 then if((a.aU.length:Nat):Int) > 16 then C3 (false) else gB c else C3 (false)
def j3 (a:aX):Bool:=
 if((a.aU.length:Nat):Int) > 16 then false else if((a.au.ls.length:Nat):Int) > 4 then false else lp (gB a.au.ls) fun _=>true
theorem qw (w:World) (D:Nat→Prop) (a:aX) (f:Option Addr) (x h:Nat) (X:Bool) (H:Own w D w []) (B:x=a.au.ls.length) (j:Ro w D fun w'=>bD w' 2 f a.au.ls.length (q6 aJ.cells a.au.ls)) (N:a.au.ls.length≤h∧a.au.ls.length≤9223372036854775807) (hr:j3 a=X):
    Calls y4 73 #[.agg #[.bool a.dW, .string ⟨y6 a.aU⟩, .slice f x h]] w (dS fun v w'=>v= .bool X∧Own w D w' []):=by
 subst B
 refine cb Tryz.func73 ?_
 refine sr ?_
 refine dK [.bool a.dW, .string ⟨y6 a.aU⟩, .slice f a.au.ls.length h] 149 H ?_
 intro C ae m
 refine An rfl (EP (sr (Kz (vP C 1) (Lz (.string ⟨y6 a.aU⟩) m 0 C4 (Kz (vJ a.aU.length) (Kz (.bool (decide (((a.aU.length:Nat):Int) > 16))) (Mz rfl ?_)))))))
 by_cases b:((a.aU.length:Nat):Int) > 16
 refine Sz (dT b) (Sz (dT b) (Sz (dT b) (Sz (dT b) (fw (.bool true) (Fa rfl (dT b) rfl) (nt (jt (sr (An rfl (rt (tR (rs ?_)))))))))))
 have O:=m.pk []
 obtain rfl:_=false:=hr.symm.trans (ip b)
 exact⟨rfl,O⟩
 refine Gz (vP C 2) (dF b) (Gl (.slice f a.au.ls.length h) (dF b) m 0 Tryz.isAgg147 (Gz (vJ a.au.ls.length) (dF b) (Gz (.bool (decide (((a.au.ls.length:Nat):Int) > 4))) (dF b) (fw (.bool (decide (((a.au.ls.length:Nat):Int) > 4))) (ES rfl (dF b) rfl) (nt ?_)))))
 by_cases n:((a.au.ls.length:Nat):Int) > 4
 refine jT (dT n) (sr (An rfl (rt (tR (rs ?_)))))
 have P:=m.pk []
 obtain rfl:_=false:=hr.symm.trans (et (iN b) (ip n))
 exact⟨rfl,P⟩
 refine jF (dF n) (sk (EP (sr (Kz (vP C 2) (Lz (.slice f a.au.ls.length h) m 0 Tryz.isAgg147 (Kz (vJ a.au.ls.length) (Mn rfl (bo ?_))))))))
 have Q:=m.pk []
 obtain⟨R,p⟩:=lK fun(c:Nat) (w':World)=>Own w D w' []∧c≤a.au.ls.length∧gB a.au.ls=gB (r6 c a.au.ls)
 refine C5 (fun i:Nat=> [(2, .bool false),(18,vJ i),(17,vJ a.au.ls.length),(16, .slice f a.au.ls.length h)]) R (fun i=>a.au.ls.length - i) 0 ⟨rfl,rfl,rfl,rfl,trivial⟩ (p.2 ⟨Q,e6,rfl⟩) ?_
 rintro c af E
 obtain⟨r,Y,k⟩:=p.1 E
 refine sr (Kz (.bool (decide (((c:Nat):Int) < ((a.au.ls.length:Nat):Int)))) (nt (EP ?_)))
 by_cases F:((c:Nat):Int) < ((a.au.ls.length:Nat):Int)
 obtain⟨d,y⟩:=dG (ls:=a.au.ls) (i:=c) aJ.len f3 (r.ro j) e9
 have s:=drop_at y
 refine jT (dT F) (sk (EP (bo (sr (fw (.pointer (some ⟨ab f,ao f+c *2,none⟩)) (ET (jK) rfl rfl ((r.ro j).addr (i:=c) e6) e6) (fw (.agg (aJ.cells d).toArray) (EY rfl (Fb (cs:=(aJ.cells d)) Tryz.isAgg153 Tryz.sizeOf153 ((r.ro j).elem aJ.len y f3))) ?_))))))
 refine dK [.string ⟨y6 ([])⟩, .string ⟨y6 ([])⟩] 153 r ?_
 intro G ag S
 refine dN (aJ.cells d) 0 S Tryz.sizeOf153 ?_
 intro ai I
 refine ns (Kz (vP G 0) (Lz (.string ⟨y6 d.bY⟩) I 0 C4 ?_))
 obtain⟨o,l⟩:∃ q,gu d.bY=q:=⟨_,rfl⟩
 obtain⟨aj,J,Z,K,aa⟩:=EU I
 refine cl Tryz.call112 (jZ _ _ d.bY o J l) ?_
 rintro _ ak ⟨rfl,L,z,A⟩
 have t:=K _ _ L
 replace z: ¬ (o=0)∨(1≤d.bY.length∧d.bY.length≤12):=z
 replace A:d.bY.length < 1∨d.bY.length > 12∨o=0:=A
 refine fw (.bool (decide (¬ (o=0)))) (Fs (e:= !(decide (o=0))) yk decide_not.symm) (Mz rfl ?_)
 by_cases g:o=0
 refine gw (vP G 1) (dF (IV g)) yk (gw (.string ⟨y6 d.aU⟩) (dF (IV g)) (EY rfl (bZ.one C4 (FE (t.cls (i:=0) rfl) rfl))) (gw (vJ d.aU.length) (dF (IV g)) yk (gw (.bool (decide (((d.aU.length:Nat):Int) > 16))) (dF (IV g)) yk (fw (.bool (decide (((d.aU.length:Nat):Int) > 16))) (ES rfl (dF (IV g)) rfl) (nt ?_)))))
 by_cases u:((d.aU.length:Nat):Int) > 16
 refine jT (dT u) (sr (An rfl (rt (bR (tR (tR (bR (tR (rs ?_)))))))))
 have T:=t.pk []
 obtain rfl:_=false:=hr.symm.trans (et (iN b) (et (iN n) (iY (et (k) (et (congrArg (fun q=>gB q) s) (et (ah l) (et (ip g) (ip u))))))))
 exact⟨rfl,T⟩
 refine jF (dF u) (Fq (bN (ER (EO (fw (vJ (c+1)) (EQ (e:=C7.wrap (((c:Nat):Int)+1)) yk f1) (Mz rfl (D0 ?_)))))))
 have U:=t.pk []
 exact E8 (c+1) ⟨rfl,rfl,rfl,rfl,trivial⟩ (p.2 ⟨U,e6,et (k) (et (congrArg (fun q=>gB q) s) (et (ah l) (et (ip g) (iN u))))⟩) (by show a.au.ls.length - (c+1) < a.au.ls.length - c; omega)
 refine Sz (dT g) (Sz (dT g) (Sz (dT g) (Sz (dT g) (fw (.bool true) (Fa rfl (dT g) rfl) (nt (jt (sr (An rfl (rt (bR (tR (tR (bR (tR (rs ?_)))))))))))))))
 have V:=t.pk []
 obtain rfl:_=false:=hr.symm.trans (et (iN b) (et (iN n) (iY (et (k) (et (congrArg (fun q=>gB q) s) (et (ah l) (iN g)))))))
 exact⟨rfl,V⟩
 refine jF (dF F) (D1 (EX ?_))
 have M:gB a.au.ls=C1 ():=et (k) (et (congrArg (fun q=>gB q) (eD (ls:=a.au.ls) (i:=c) e6)) rfl)
 refine EX (Fg (ER (sr (An rfl (rt (rs ?_))))))
 have W:=r.pk []
 obtain rfl:_=true:=hr.symm.trans (et (iN b) (et (iN n) (nI M)))
 exact⟨rfl,W⟩
def fP (e:Nat) (c:fF):Nat→Nat→Unit ⊕ Bool
  | 0,b=>C1 ()
  | f+1,b=>bnd (C2 c.ai.ls b default) fun a=>bnd (j3 (aX.mk a.dW a.aU (E4 a.au.ls))) fun d=>if d=true then fP e c f (b+1) else C3 (false)
def iW (f:Nat) (d:fF):Nat→Nat→Unit ⊕ Bool
  | 0,b=>C1 ()
  | e+1,b=>bnd (C2 d.ai.ls b default) fun a=>bnd (j3 (aX.mk a.dW a.aU (E4 a.au.ls))) fun c=>if c=true then iW f d e (b+1) else C3 (false)
def fE (l0:List fF):List fF→Nat→Unit ⊕ Bool
  | [],b=>C1 ()
  | a::c,b=>bnd (iI a.aS 4) fun d=>if d=true then if((b:Nat):Int) > 0 then bnd (C2 l0 (b - 1) default) fun e=>if a.aS≤e.aS then C3 (false) else if((a.ai.ls.length:Nat):Int) > 4 then C3 (false) else qQ (fP b a a.ai.ls.length 0) fun _=>fE l0 c (b+1) else if((a.ai.ls.length:Nat):Int) > 4 then C3 (false) else qQ (iW b a a.ai.ls.length 0) fun _=>fE l0 c (b+1) else C3 (false)
def oL (l0:List fF):Bool:=
 if((l0.length:Nat):Int) > 4 then false else lp (fE l0 l0 0) fun _=>true
theorem vS (w:World) (D:Nat→Prop) (o:Option Addr) (n0 K:Nat) (d0:List aV) (l0:List fF) (r0:Bool) (H:Own w D w []) (av:s8 aV.abs d0=l0) (R:Ro w D fun w'=>bD w' 4 o n0 (q6 aV.cells d0)) (B:∀ x ∈ d0,Ro w D (fun w'=>bD w' 3 x.ai.A x.ai.ls.length (q6 af.cells x.ai.ls))∧(x.ai.ls.length≤x.ai.c∧x.ai.ls.length≤9223372036854775807)∧(∀ y1 ∈ x.ai.ls,Ro w D (fun w'=>bD w' 2 y1.au.A y1.au.ls.length (q6 aJ.cells y1.au.ls))∧(y1.au.ls.length≤y1.au.c∧y1.au.ls.length≤9223372036854775807))) (bG:n0=l0.length) (dH:l0.length≤9223372036854775807) (hr:oL l0=r0):
    Calls y4 43 #[.slice o n0 K] w (dS fun v w'=>v= .bool r0∧Own w D w' []):=by
 subst bG
 have cB:=az av
 refine cb Tryz.func43 ?_
 refine sr (An rfl (EP (sr (Mz rfl (Kz (vJ l0.length) (Kz (.bool (decide (((l0.length:Nat):Int) > 4))) (nt ?_)))))))
 by_cases C:((l0.length:Nat):Int) > 4
 refine jT (dT C) (sr (An rfl (rt (tR (rs ?_)))))
 have bH:=H.pk []
 obtain rfl:_=false:=hr.symm.trans (ip C)
 exact⟨rfl,bH⟩
 refine jF (dF C) (sk (EP (sr (Mz rfl (Kz (vJ l0.length) (Mn rfl (bo ?_)))))))
 have bJ:=H.pk []
 obtain⟨bK,O⟩:=lK fun(b:Nat) (w':World)=>Own w D w' []∧b≤l0.length∧fE l0 l0 0=fE l0 (r6 b l0) b
 refine C5 (fun i:Nat=> [(2, .bool false),(12,vJ i),(11,vJ l0.length),(10, .slice o l0.length K),(0, .slice o l0.length K)]) bK (fun i=>l0.length - i) 0 ⟨rfl,rfl,rfl,rfl,rfl,trivial⟩ (O.2 ⟨bJ,e6,rfl⟩) ?_
 rintro b dI aL
 obtain⟨S,cK,t⟩:=O.1 aL
 refine sr (Kz (.bool (decide (((b:Nat):Int) < ((l0.length:Nat):Int)))) (nt (EP ?_)))
 by_cases aM:((b:Nat):Int) < ((l0.length:Nat):Int)
 obtain⟨a,m⟩:=dG (ls:=d0) (i:=b) aV.len f3 (S.ro R) e9
 have aN:=eP av m
 have cO:=(B _ (E0 m)).2.1
 have cZ:s2 (s8 af.abs a.ai.ls)=a.ai.ls.length:=s6 ..
 have z:=drop_at aN
 refine jT (dT aM) (sk (EP (bo (sr (Mz rfl (fw (.pointer (some ⟨ab o,ao o+b *4,none⟩)) (ET (lI) rfl rfl ((S.ro R).addr (i:=b) e6) e6) (fw (.agg (aV.cells a).toArray) (EY rfl (Fb (cs:=(aV.cells a)) Tryz.isAgg56 Tryz.sizeOf56 ((S.ro R).elem aV.len m f3))) ?_)))))))
 refine dK [vI 0, .int .u64 0, .int .u64 0, .slice none 0 0] 56 S ?_
 intro g dJ bL
 refine Az rfl ?_
 refine dN (aV.cells a) 0 bL Tryz.sizeOf56 ?_
 intro dL bM
 refine nt (EP (EP ?_))
 refine uC [] (E9 (E9 (bP.block (E9 (E9 (bP.block (E9 Fp))))))) bM ?_
 intro dM bO
 refine qp g 0 0 rfl (ql 1 rfl 0 C6 rfl rfl rfl ?_)
 obtain⟨s,u⟩:∃ q,iI a.aS 4=q:=⟨_,rfl⟩
 obtain⟨dO,aO,df,aP,dh⟩:=EU bO
 refine qd 2 rfl (Fe E2 rfl (lL _ _ a.aS 4 s aO u) ?_)
 rintro _ dP ⟨rfl,aQ⟩
 have E:=aP _ _ aQ
 refine⟨.inr ⟨_,E⟩, ?_⟩
 refine qk (.bool (!s)) 3 rfl (qv 4 rfl rfl ?_)
 rcases IW (s) with j | j
 refine EZ (v:=vJ b) (rs:= []) 5 rfl rfl rfl (cn j) e7 (fun _ _=>E5 rfl) (EZ (v:= .bool (decide (((b:Nat):Int) > 0))) (rs:= []) 6 rfl rfl rfl (cn j) e7 (fun _ _=>yk) (EZ (v:= .bool (decide (((b:Nat):Int) > 0))) (rs:= []) 7 rfl rfl rfl (cn j) e7 (fun _ _=>E5 rfl) ?_))
 by_cases f:((b:Nat):Int) > 0
 refine EZ (v:=vP g 0) (rs:= []) 8 rfl rfl rfl (dT f) e7 (fun _ _=>yk) (EZ (v:=vI a.aS) (rs:= []) 9 rfl rfl rfl (dT f) e7 (fun _ ⟨_,H9⟩=>EY rfl (bZ.one C6 (FE (H9.cls (i:=0) rfl) rfl))) (EZ (v:= .slice o l0.length K) (rs:= []) 10 rfl rfl rfl (dT f) e7 (fun _ _=>E5 rfl) (EZ (v:=vJ b) (rs:= []) 11 rfl rfl rfl (dT f) e7 (fun _ _=>E5 rfl) (EZ (v:=vJ (b - 1)) (rs:= []) 12 rfl rfl rfl (dT f) e7 (fun _ _=>EQ (e:=C7.wrap (((b:Nat):Int) - 1)) yk f1) ?_))))
 obtain⟨p,T⟩:=ji (ls:=d0) (i:=b - 1) e9
 have P:=eP av T
 have di:=(B _ (E0 T)).2.1
 have dm:s2 (s8 af.abs p.ai.ls)=p.ai.ls.length:=s6 ..
 refine EZ (v:= .pointer (some ⟨ab o,ao o+(b - 1) *4,none⟩)) (rs:= []) 13 rfl rfl rfl (dT f) e7 (fun _ ⟨_,H9⟩=>ET (lI) rfl rfl ((H9.ro R).addr (i:=b - 1) e6) e6) (EZ (v:= .pointer (some ⟨ab o,ao o+(b - 1) *4,none⟩)) (rs:= []) 14 rfl rfl rfl (dT f) e7 (fun _ _=>yk) (EZ (v:=vI p.aS) (rs:= []) 15 rfl rfl rfl (dT f) e7 (fun _ ⟨_,H9⟩=>EY rfl (bZ.one C6 (((H9.ro R).elem aV.len T f3).at_ (k:=0) rfl))) (EZ (v:= .bool (decide (a.aS≤p.aS))) (rs:= []) 16 rfl rfl rfl (dT f) e7 (fun _ _=>yk) (EZ (v:= .bool (decide (a.aS≤p.aS))) (rs:= []) 17 rfl rfl rfl (cn j) e7 (fun _ _=>Fa rfl (dT f) rfl) (qt (v:= .bool (decide (a.aS≤p.aS))) 18 rfl (fun _ _=>ES rfl (cn j) rfl) (qv 19 rfl rfl ?_))))))
 by_cases y:a.aS≤p.aS
 refine EW (rs:= []) 20 rfl rfl rfl (dT y) e7 (EW (rs:= []) 21 rfl rfl rfl (dT y) e7 (EW (rs:= []) 22 rfl rfl rfl (dT y) e7 (EW (rs:= []) 23 rfl rfl rfl (dT y) e7 (qt (v:= .bool true) 24 rfl (fun _ _=>Fa rfl (dT y) rfl) (qn (ER (jt (sr (An rfl (rt (tR (bR (tR (tR (bR (tR (rs ?_)))))))))))))))))
 have bQ:=E.pk []
 obtain rfl:_=false:=hr.symm.trans (et (iN C) (iY (et (t) (et (congrArg (fun q=>fE l0 q b) z) (et (ah u) (et (ip j) (et (ip f) (et (ah (bI P)) (ip y)))))))))
 exact⟨rfl,bQ⟩
 refine EZ (v:=vP g 3) (rs:= []) 20 rfl rfl rfl (dF y) e7 (fun _ _=>yk) (EZ (v:= .slice a.ai.A a.ai.ls.length a.ai.c) (rs:= []) 21 rfl rfl rfl (dF y) e7 (fun _ ⟨_,H9⟩=>EY rfl (bZ.one E6 (FE (H9.cls (i:=0) rfl) rfl))) (EZ (v:=vJ (s2 (s8 af.abs a.ai.ls))) (rs:= []) 22 rfl rfl rfl (dF y) e7 (fun _ _=>EQ (e:=((a.ai.ls.length:Nat):Int)) yk i9) (EZ (v:= .bool (decide (((s2 (s8 af.abs a.ai.ls):Nat):Int) > 4))) (rs:= []) 23 rfl rfl rfl (dF y) e7 (fun _ _=>yk) (qt (v:= .bool (decide (((s2 (s8 af.abs a.ai.ls):Nat):Int) > 4))) 24 rfl (fun _ _=>ES rfl (dF y) rfl) (qn (ER ?_))))))
 by_cases U:((s2 (s8 af.abs a.ai.ls):Nat):Int) > 4
 refine jT (dT U) (sr (An rfl (rt (tR (bR (tR (tR (bR (tR (rs ?_))))))))))
 have bS:=E.pk []
 obtain rfl:_=false:=hr.symm.trans (et (iN C) (iY (et (t) (et (congrArg (fun q=>fE l0 q b) z) (et (ah u) (et (ip j) (et (ip f) (et (ah (bI P)) (et (iN y) (ip U))))))))))
 exact⟨rfl,bS⟩
 refine jF (dF U) (sk (sr (Kz (vP g 3) (Lz (.slice a.ai.A a.ai.ls.length a.ai.c) E 0 E6 (fw (vJ (s2 (s8 af.abs a.ai.ls))) (EQ (e:=((a.ai.ls.length:Nat):Int)) yk i9) (Mn rfl (bo ?_)))))))
 have bT:=E.pf []
 obtain⟨bU,V⟩:=lK fun(l:Nat) (w':World)=>Own w D w' [blk g (aV.cells a) 56]∧l≤s2 (s8 af.abs a.ai.ls)∧fP b (aV.abs a) (s2 (s8 af.abs a.ai.ls)) 0=fP b (aV.abs a) ((s2 (s8 af.abs a.ai.ls)) - l) l
 refine C5 (fun i:Nat=> [(2, .bool false),(45,vJ i),(44,vJ (s2 (s8 af.abs a.ai.ls))),(43, .slice a.ai.A a.ai.ls.length a.ai.c),(42,vP g 3),(41, .bool (decide (((s2 (s8 af.abs a.ai.ls):Nat):Int) > 4))),(40, .bool (decide (((s2 (s8 af.abs a.ai.ls):Nat):Int) > 4))),(39,vJ (s2 (s8 af.abs a.ai.ls))),(38, .slice a.ai.A a.ai.ls.length a.ai.c),(37,vP g 3),(36, .bool (decide (a.aS≤p.aS))),(35, .bool (decide (a.aS≤p.aS))),(34, .bool (decide (a.aS≤p.aS))),(33, .bool (decide (a.aS≤p.aS))),(32,vI p.aS),(31, .pointer (some ⟨ab o,ao o+(b - 1) *4,none⟩)),(30, .pointer (some ⟨ab o,ao o+(b - 1) *4,none⟩)),(29,vJ (b - 1)),(28,vJ b),(27, .slice o l0.length K),(26,vI a.aS),(25,vP g 0),(24, .bool (decide (((b:Nat):Int) > 0))),(23, .bool (decide (((b:Nat):Int) > 0))),(22,vJ b),(21, .bool (!s)),(20, .bool (!s)),(19, .bool s),(18,vI a.aS),(17,vP g 0),(3,vJ b),(4,vP g 0),(16, .agg (aV.cells a).toArray),(15, .pointer (some ⟨ab o,ao o+b *4,none⟩)),(14,vJ b),(13, .bool (decide (((b:Nat):Int) < ((l0.length:Nat):Int)))),(12,vJ b),(11,vJ l0.length),(10, .slice o l0.length K),(0, .slice o l0.length K)]) bU (fun i=>(s2 (s8 af.abs a.ai.ls)) - i) 0 ⟨rfl,rfl,rfl,rfl,rfl,rfl,rfl,rfl,rfl,rfl,rfl,rfl,rfl,rfl,rfl,rfl,rfl,rfl,rfl,rfl,rfl,rfl,rfl,rfl,rfl,rfl,rfl,rfl,rfl,rfl,rfl,rfl,rfl,rfl,rfl,rfl,rfl,rfl,rfl,rfl,trivial⟩ (V.2 ⟨bT,e6,rfl⟩) ?_
 rintro l dQ aR
 obtain⟨W,dn,X⟩:=V.1 aR
 refine sr (Kz (.bool (decide (((l:Nat):Int) < ((s2 (s8 af.abs a.ai.ls):Nat):Int)))) (nt (EP ?_)))
 by_cases aS:((l:Nat):Int) < ((s2 (s8 af.abs a.ai.ls):Nat):Int)
 refine jT (dT aS) (sk (EP (bo (sr ?_))))
 obtain⟨r,Q⟩:=dG (ls:=a.ai.ls) (i:=l) af.len f3 (W.ro (B _ (E0 m)).1) e9
 have ai:=eP (rfl:s8 af.abs a.ai.ls=s8 af.abs a.ai.ls) Q
 have dw:=((B _ (E0 m)).2.2 _ (E0 Q)).2
 refine fw (.pointer (some ⟨ab a.ai.A,ao a.ai.A+l *3,none⟩)) (ET (rf) rfl rfl ((W.ro (B _ (E0 m)).1).addr (i:=l) e6) e6) (fw (.agg (af.cells r).toArray) (EY rfl (Fb (cs:=(af.cells r)) E7 F0 ((W.ro (B _ (E0 m)).1).elem af.len Q f3))) ?_)
 refine dK [.bool false, .string ⟨y6 ([])⟩, .slice none 0 0] 149 W ?_
 intro dR dU bV
 refine dN (af.cells r) 0 bV F0 ?_
 intro dV aT
 refine ns (La (af.cells r) aT 0 E7 F0 ?_)
 obtain⟨ax,Y⟩:∃ q,j3 (aX.mk r.dW r.aU (E4 r.au.ls))=q:=⟨_,rfl⟩
 obtain⟨dW,aU,aW,aY,dx⟩:=EU aT
 refine cl Tryz.call73 (qw _ _ (aX.mk r.dW r.aU (E4 r.au.ls)) r.au.A r.au.ls.length r.au.c ax aU rfl (aW _ ((B _ (E0 m)).2.2 _ (E0 Q)).1) (show r.au.ls.length≤r.au.c∧r.au.ls.length≤9223372036854775807 from by omega) Y) ?_
 rintro _ dX ⟨rfl,aZ⟩
 have bf:=aY _ _ aZ
 refine Kz (.bool (!ax)) (nt ?_)
 rcases IW (ax) with Z | Z
 refine jF (cn Z) (Fq (bN (ER (EO (fw (vJ (l+1)) (EQ (e:=C7.wrap (((l:Nat):Int)+1)) yk f1) (Mz rfl (D0 ?_)))))))
 have bW:=bf.pk [1]
 exact E8 (l+1) ⟨rfl,rfl,rfl,rfl,rfl,rfl,rfl,rfl,rfl,rfl,rfl,rfl,rfl,rfl,rfl,rfl,rfl,rfl,rfl,rfl,rfl,rfl,rfl,rfl,rfl,rfl,rfl,rfl,rfl,rfl,rfl,rfl,rfl,rfl,rfl,rfl,rfl,rfl,rfl,rfl,trivial⟩ (V.2 ⟨bW,e6,et (X) (et (congrArg (fun q=>fP b (aV.abs a) q l) (qR (n:=s2 (s8 af.abs a.ai.ls)) (i:=l) e6)) (et (ah (bI ai)) (et (ah Y) (ip Z))))⟩) (by show (s2 (s8 af.abs a.ai.ls)) - (l+1) < (s2 (s8 af.abs a.ai.ls)) - l; omega)
 refine jT (cn Z) (sr (An rfl (rt (bR (tR (tR (bR (bR (tR (tR (bR (tR (rs ?_)))))))))))))
 have bg:=bf.pk []
 obtain rfl:_=false:=hr.symm.trans (et (iN C) (iY (et (t) (et (congrArg (fun q=>fE l0 q b) z) (et (ah u) (et (ip j) (et (ip f) (et (ah (bI P)) (et (iN y) (et (iN U) (mX (et (X) (et (congrArg (fun q=>fP b (aV.abs a) q l) (qR (n:=s2 (s8 af.abs a.ai.ls)) (i:=l) e6)) (et (ah (bI ai)) (et (ah Y) (fU Z))))))))))))))))
 exact⟨rfl,bg⟩
 refine jF (dF aS) (D1 (EX ?_))
 have ay:fP b (aV.abs a) (s2 (s8 af.abs a.ai.ls)) 0=C1 ():=et (X) (et (congrArg (fun q=>fP b (aV.abs a) q l) (vK (n:=s2 (s8 af.abs a.ai.ls)) (i:=l) e6)) rfl)
 refine EX (Fg (bN (ER (EO (fw (vJ (b+1)) (EQ (e:=C7.wrap (((b:Nat):Int)+1)) yk f1) (Mz rfl (D0 ?_)))))))
 have bi:=W.pk []
 exact E8 (b+1) ⟨rfl,rfl,rfl,rfl,rfl,trivial⟩ (O.2 ⟨bi,e6,et (t) (et (congrArg (fun q=>fE l0 q b) z) (et (ah u) (et (ip j) (et (ip f) (et (ah (bI P)) (et (iN y) (et (iN U) (oK ay))))))))⟩) (by show l0.length - (b+1) < l0.length - b; omega)
 refine EW (rs:= []) 8 rfl rfl rfl (dF f) e7 (EW (rs:= []) 9 rfl rfl rfl (dF f) e7 (EW (rs:= []) 10 rfl rfl rfl (dF f) e7 (EW (rs:= []) 11 rfl rfl rfl (dF f) e7 (EW (rs:= []) 12 rfl rfl rfl (dF f) e7 (EW (rs:= []) 13 rfl rfl rfl (dF f) e7 (EW (rs:= []) 14 rfl rfl rfl (dF f) e7 (EW (rs:= []) 15 rfl rfl rfl (dF f) e7 (EW (rs:= []) 16 rfl rfl rfl (dF f) e7 (EZ (v:= .bool false) (rs:= []) 17 rfl rfl rfl (cn j) e7 (fun _ _=>ES rfl (dF f) rfl) (qt (v:= .bool false) 18 rfl (fun _ _=>ES rfl (cn j) rfl) (qv 19 rfl rfl (EZ (v:=vP g 3) (rs:= []) 20 rfl rfl rfl rfl e7 (fun _ _=>yk) (EZ (v:= .slice a.ai.A a.ai.ls.length a.ai.c) (rs:= []) 21 rfl rfl rfl rfl e7 (fun _ ⟨_,H9⟩=>EY rfl (bZ.one E6 (FE (H9.cls (i:=0) rfl) rfl))) (EZ (v:=vJ (s2 (s8 af.abs a.ai.ls))) (rs:= []) 22 rfl rfl rfl rfl e7 (fun _ _=>EQ (e:=((a.ai.ls.length:Nat):Int)) yk i9) (EZ (v:= .bool (decide (((s2 (s8 af.abs a.ai.ls):Nat):Int) > 4))) (rs:= []) 23 rfl rfl rfl rfl e7 (fun _ _=>yk) (qt (v:= .bool (decide (((s2 (s8 af.abs a.ai.ls):Nat):Int) > 4))) 24 rfl (fun _ _=>ES rfl rfl rfl) (qn (ER ?_))))))))))))))))))
 by_cases G:((s2 (s8 af.abs a.ai.ls):Nat):Int) > 4
 refine jT (dT G) (sr (An rfl (rt (tR (bR (tR (tR (bR (tR (rs ?_))))))))))
 have bn:=E.pk []
 obtain rfl:_=false:=hr.symm.trans (et (iN C) (iY (et (t) (et (congrArg (fun q=>fE l0 q b) z) (et (ah u) (et (ip j) (et (iN f) (ip G))))))))
 exact⟨rfl,bn⟩
 refine jF (dF G) (sk (sr (Kz (vP g 3) (Lz (.slice a.ai.A a.ai.ls.length a.ai.c) E 0 E6 (fw (vJ (s2 (s8 af.abs a.ai.ls))) (EQ (e:=((a.ai.ls.length:Nat):Int)) yk i9) (Mn rfl (bo ?_)))))))
 have bq:=E.pf []
 obtain⟨bu,L⟩:=lK fun(d:Nat) (w':World)=>Own w D w' [blk g (aV.cells a) 56]∧d≤s2 (s8 af.abs a.ai.ls)∧iW b (aV.abs a) (s2 (s8 af.abs a.ai.ls)) 0=iW b (aV.abs a) ((s2 (s8 af.abs a.ai.ls)) - d) d
 refine C5 (fun i:Nat=> [(2, .bool false),(45,vJ i),(44,vJ (s2 (s8 af.abs a.ai.ls))),(43, .slice a.ai.A a.ai.ls.length a.ai.c),(42,vP g 3),(41, .bool (decide (((s2 (s8 af.abs a.ai.ls):Nat):Int) > 4))),(40, .bool (decide (((s2 (s8 af.abs a.ai.ls):Nat):Int) > 4))),(39,vJ (s2 (s8 af.abs a.ai.ls))),(38, .slice a.ai.A a.ai.ls.length a.ai.c),(37,vP g 3),(36, .bool false),(35, .bool false),(34, .bool false),(33,undef),(32,undef),(31,undef),(30,undef),(29,undef),(28,undef),(27,undef),(26,undef),(25,undef),(24, .bool (decide (((b:Nat):Int) > 0))),(23, .bool (decide (((b:Nat):Int) > 0))),(22,vJ b),(21, .bool (!s)),(20, .bool (!s)),(19, .bool s),(18,vI a.aS),(17,vP g 0),(3,vJ b),(4,vP g 0),(16, .agg (aV.cells a).toArray),(15, .pointer (some ⟨ab o,ao o+b *4,none⟩)),(14,vJ b),(13, .bool (decide (((b:Nat):Int) < ((l0.length:Nat):Int)))),(12,vJ b),(11,vJ l0.length),(10, .slice o l0.length K),(0, .slice o l0.length K)]) bu (fun i=>(s2 (s8 af.abs a.ai.ls)) - i) 0 ⟨rfl,rfl,rfl,rfl,rfl,rfl,rfl,rfl,rfl,rfl,rfl,rfl,rfl,rfl,rfl,rfl,rfl,rfl,rfl,rfl,rfl,rfl,rfl,rfl,rfl,rfl,rfl,rfl,rfl,rfl,rfl,rfl,rfl,rfl,rfl,rfl,rfl,rfl,rfl,rfl,trivial⟩ (L.2 ⟨bq,e6,rfl⟩) ?_
 rintro d dz aA
 obtain⟨I,bX,M⟩:=L.1 aA
 refine sr (Kz (.bool (decide (((d:Nat):Int) < ((s2 (s8 af.abs a.ai.ls):Nat):Int)))) (nt (EP ?_)))
 by_cases aj:((d:Nat):Int) < ((s2 (s8 af.abs a.ai.ls):Nat):Int)
 refine jT (dT aj) (sk (EP (bo (sr ?_))))
 obtain⟨h,F⟩:=dG (ls:=a.ai.ls) (i:=d) af.len f3 (I.ro (B _ (E0 m)).1) e9
 have aa:=eP (rfl:s8 af.abs a.ai.ls=s8 af.abs a.ai.ls) F
 have bY:=((B _ (E0 m)).2.2 _ (E0 F)).2
 refine fw (.pointer (some ⟨ab a.ai.A,ao a.ai.A+d *3,none⟩)) (ET (rf) rfl rfl ((I.ro (B _ (E0 m)).1).addr (i:=d) e6) e6) (fw (.agg (af.cells h).toArray) (EY rfl (Fb (cs:=(af.cells h)) E7 F0 ((I.ro (B _ (E0 m)).1).elem af.len F f3))) ?_)
 refine dK [.bool false, .string ⟨y6 ([])⟩, .slice none 0 0] 149 I ?_
 intro dA dB bv
 refine dN (af.cells h) 0 bv F0 ?_
 intro dC ak
 refine ns (La (af.cells h) ak 0 E7 F0 ?_)
 obtain⟨ae,N⟩:∃ q,j3 (aX.mk h.dW h.aU (E4 h.au.ls))=q:=⟨_,rfl⟩
 obtain⟨dD,aB,aC,aD,cu⟩:=EU ak
 refine cl Tryz.call73 (qw _ _ (aX.mk h.dW h.aU (E4 h.au.ls)) h.au.A h.au.ls.length h.au.c ae aB rfl (aC _ ((B _ (E0 m)).2.2 _ (E0 F)).1) (show h.au.ls.length≤h.au.c∧h.au.ls.length≤9223372036854775807 from by omega) N) ?_
 rintro _ dE ⟨rfl,aF⟩
 have au:=aD _ _ aF
 refine Kz (.bool (!ae)) (nt ?_)
 rcases IW (ae) with J | J
 refine jF (cn J) (Fq (bN (ER (EO (fw (vJ (d+1)) (EQ (e:=C7.wrap (((d:Nat):Int)+1)) yk f1) (Mz rfl (D0 ?_)))))))
 have bz:=au.pk [1]
 exact E8 (d+1) ⟨rfl,rfl,rfl,rfl,rfl,rfl,rfl,rfl,rfl,rfl,rfl,rfl,rfl,rfl,rfl,rfl,rfl,rfl,rfl,rfl,rfl,rfl,rfl,rfl,rfl,rfl,rfl,rfl,rfl,rfl,rfl,rfl,rfl,rfl,rfl,rfl,rfl,rfl,rfl,rfl,trivial⟩ (L.2 ⟨bz,e6,et (M) (et (congrArg (fun q=>iW b (aV.abs a) q d) (qR (n:=s2 (s8 af.abs a.ai.ls)) (i:=d) e6)) (et (ah (bI aa)) (et (ah N) (ip J))))⟩) (by show (s2 (s8 af.abs a.ai.ls)) - (d+1) < (s2 (s8 af.abs a.ai.ls)) - d; omega)
 refine jT (cn J) (sr (An rfl (rt (bR (tR (tR (bR (bR (tR (tR (bR (tR (rs ?_)))))))))))))
 have bA:=au.pk []
 obtain rfl:_=false:=hr.symm.trans (et (iN C) (iY (et (t) (et (congrArg (fun q=>fE l0 q b) z) (et (ah u) (et (ip j) (et (iN f) (et (iN G) (mX (et (M) (et (congrArg (fun q=>iW b (aV.abs a) q d) (qR (n:=s2 (s8 af.abs a.ai.ls)) (i:=d) e6)) (et (ah (bI aa)) (et (ah N) (fU J))))))))))))))
 exact⟨rfl,bA⟩
 refine jF (dF aj) (D1 (EX ?_))
 have aG:iW b (aV.abs a) (s2 (s8 af.abs a.ai.ls)) 0=C1 ():=et (M) (et (congrArg (fun q=>iW b (aV.abs a) q d) (vK (n:=s2 (s8 af.abs a.ai.ls)) (i:=d) e6)) rfl)
 refine EX (Fg (bN (ER (EO (fw (vJ (b+1)) (EQ (e:=C7.wrap (((b:Nat):Int)+1)) yk f1) (Mz rfl (D0 ?_)))))))
 have bB:=I.pk []
 exact E8 (b+1) ⟨rfl,rfl,rfl,rfl,rfl,trivial⟩ (O.2 ⟨bB,e6,et (t) (et (congrArg (fun q=>fE l0 q b) z) (et (ah u) (et (ip j) (et (iN f) (et (iN G) (oK aG))))))⟩) (by show l0.length - (b+1) < l0.length - b; omega)
 refine EW (rs:= []) 5 rfl rfl rfl (cn j) e7 (EW (rs:= []) 6 rfl rfl rfl (cn j) e7 (EW (rs:= []) 7 rfl rfl rfl (cn j) e7 (FI (rs:= []) 8 rfl rfl rfl e7 (FI (rs:= []) 9 rfl rfl rfl e7 (FI (rs:= []) 10 rfl rfl rfl e7 (FI (rs:= []) 11 rfl rfl rfl e7 (FI (rs:= []) 12 rfl rfl rfl e7 (FI (rs:= []) 13 rfl rfl rfl e7 (FI (rs:= []) 14 rfl rfl rfl e7 (FI (rs:= []) 15 rfl rfl rfl e7 (FI (rs:= []) 16 rfl rfl rfl e7 (EW (rs:= []) 17 rfl rfl rfl (cn j) e7 (qt (v:= .bool true) 18 rfl (fun _ _=>Fa rfl (cn j) rfl) (qv 19 rfl rfl (EW (rs:= []) 20 rfl rfl rfl rfl e7 (EW (rs:= []) 21 rfl rfl rfl rfl e7 (EW (rs:= []) 22 rfl rfl rfl rfl e7 (EW (rs:= []) 23 rfl rfl rfl rfl e7 (qt (v:= .bool true) 24 rfl (fun _ _=>Fa rfl rfl rfl) (qn (ER (jt (sr (An rfl (rt (tR (bR (tR (tR (bR (tR (rs ?_))))))))))))))))))))))))))))))))
 have bC:=E.pk []
 obtain rfl:_=false:=hr.symm.trans (et (iN C) (iY (et (t) (et (congrArg (fun q=>fE l0 q b) z) (et (ah u) (fU j))))))
 exact⟨rfl,bC⟩
 refine jF (dF aM) (D1 (EX ?_))
 have aH:fE l0 l0 0=C1 ():=et (t) (et (congrArg (fun q=>fE l0 q b) (eD (ls:=l0) (i:=b) e6)) rfl)
 refine EX (Fg (ER (sr (An rfl (rt (rs ?_))))))
 have bE:=S.pk []
 obtain rfl:_=true:=hr.symm.trans (et (iN C) (nI aH))
 exact⟨rfl,bE⟩
def iL (a:Bool):Int:=
 if a=true then 0 else 1
theorem lW (w:World) (D:Nat→Prop) (b:Bool) (e:Int) (H:Own w D w []) (hr:iL b=e):
    Calls y4 39 #[.bool b] w (dS fun v w'=>v=vI e∧Own w D w' []):=by
 refine cb Tryz.func39 ?_
 refine sr (An rfl (EP (sr (Mz rfl (Kz (.bool (!b)) (nt ?_))))))
 rcases IW (b) with a | a
 refine jF (cn a) (sk (sr (An rfl (rt (rs ?_)))))
 have c:=H.pk []
 obtain rfl:_=0:=hr.symm.trans (ip a)
 exact⟨rfl,c⟩
 refine jT (cn a) (sr (An rfl (rt (tR (rs ?_)))))
 have d:=H.pk []
 obtain rfl:_=1:=hr.symm.trans (fU a)
 exact⟨rfl,d⟩
def iX (c:dA):Int:=
 bnd (iI c.ak 4) fun d=>if d=true then if((c.ax:Nat):Int) < 2147483648 then bnd (nL c) fun e=>if e=true then bnd (mY c) fun f=>if f=true then bnd (oL c.aF.ls) fun g=>bnd (iL g) fun h=>h else bnd (iL false) fun i=>i else bnd (iL false) fun j=>j else bnd (iL false) fun a=>a else bnd (iL false) fun b=>b
set_option maxHeartbeats 1000000 in
theorem nM (w:World) (D:Nat→Prop) (a:dA) (i:Option Addr) (P e:Nat) (j:Option Addr) (Q f:Nat) (z:List ay) (g:Option Addr) (R d:Nat) (n:List aV) (r0:Int) (H:Own w D w []) (Z:P=a.ag.ls.length) (G:Ro w D fun w'=>bD w' 2 i a.ag.ls.length (q6 bv.cells a.ag.ls)) (bI:a.ag.ls.length≤e∧a.ag.ls.length≤9223372036854775807) (B:s8 ay.abs z=a.aj.ls) (aa:Q=a.aj.ls.length) (I:Ro w D fun w'=>bD w' 5 j a.aj.ls.length (q6 ay.cells z)) (bJ:a.aj.ls.length≤f∧a.aj.ls.length≤9223372036854775807) (u:∀ x ∈ z,Ro w D (fun w'=>bD w' 1 x.ak.A x.ak.ls.length (q6 (eI .i64) x.ak.ls))∧(x.ak.ls.length≤x.ak.c∧x.ak.ls.length≤9223372036854775807)) (y:s8 aV.abs n=a.aF.ls) (ae:R=a.aF.ls.length) (C:Ro w D fun w'=>bD w' 4 g a.aF.ls.length (q6 aV.cells n)) (bK:a.aF.ls.length≤d∧a.aF.ls.length≤9223372036854775807) (b:∀ x ∈ n,Ro w D (fun w'=>bD w' 3 x.ai.A x.ai.ls.length (q6 af.cells x.ai.ls))∧(x.ai.ls.length≤x.ai.c∧x.ai.ls.length≤9223372036854775807)∧(∀ E ∈ x.ai.ls,Ro w D (fun w'=>bD w' 2 E.au.A E.au.ls.length (q6 aJ.cells E.au.ls))∧(E.au.ls.length≤E.au.c∧E.au.ls.length≤9223372036854775807))) (dw:a.ag.ls.length≤140737488355328∧a.aj.ls.length≤140737488355328∧a.aF.ls.length≤140737488355328) (hr:iX a=r0):
    Calls y4 19 #[.agg #[vI a.ak,vU a.ax,vU a.bi,vU a.aI, .slice i P e, .slice j Q f, .slice g R d]] w (dS fun v w'=>v=vI r0∧Own w D w' []):=by
 subst Z aa ae
 have bG:=az B
 have bH:=az y
 refine cb Tryz.func19 ?_
 refine sr ?_
 refine dK [vI a.ak,vU a.ax,vU a.bi,vU a.aI, .slice i a.ag.ls.length e, .slice j a.aj.ls.length f, .slice g a.aF.ls.length d] 33 H ?_
 intro ag dx aF
 refine Ar rfl (Kz (vP ag 0) (Lz (vI a.ak) aF 0 C6 ?_))
 obtain⟨aG,o⟩:∃ q,iI a.ak 4=q:=⟨_,rfl⟩
 obtain⟨dz,aH,bW,aI,bX⟩:=EU aF
 refine cl E2 (lL _ _ a.ak 4 aG aH o) ?_
 rintro _ dB ⟨rfl,aK⟩
 have J:=aI _ _ aK
 refine Mz rfl ?_
 rcases IW (aG) with h | h
 refine Gz (vP ag 1) h (Gl (vU a.ax) h J 0 E1 (Gz (.bool (decide (((a.ax:Nat):Int) < 2147483648))) h (fw (.bool (decide (((a.ax:Nat):Int) < 2147483648))) (Fa rfl h rfl) (Mz rfl ?_))))
 by_cases l:((a.ax:Nat):Int) < 2147483648
 refine Ga ([vI a.ak,vU a.ax,vU a.bi,vU a.aI, .slice i a.ag.ls.length e, .slice j a.aj.ls.length f, .slice g a.aF.ls.length d]) (dT l) J 0 Tryz.isAgg33 Tryz.sizeOf33 ?_
 obtain⟨ai,F⟩:∃ q,nL a=q:=⟨_,rfl⟩
 obtain⟨dC,aL,p,aM,bY⟩:=EU J
 refine uM (decide_eq_true l) Tryz.call41 (uG _ _ a i a.ag.ls.length e j a.aj.ls.length f z g a.aF.ls.length d n ai aL rfl (p _ G) (show a.ag.ls.length≤e∧a.ag.ls.length≤9223372036854775807 from by omega) B rfl (p _ I) (show a.aj.ls.length≤f∧a.aj.ls.length≤9223372036854775807 from by omega) (fun r s=>⟨p _ (u r s).1,(u r s).2⟩) y rfl (p _ C) (show a.aF.ls.length≤d∧a.aF.ls.length≤9223372036854775807 from by omega) (fun r s=>⟨p _ (b r s).1,(b r s).2.1,(fun E S=>⟨p _ ((b r s).2.2 E S).1,((b r s).2.2 E S).2⟩)⟩) e8 F) ?_
 rintro _ dD ⟨rfl,aN⟩
 have aj:=aM _ _ aN
 refine fw (.bool ai) (Fa rfl (dT l) rfl) (Mz rfl ?_)
 rcases IW (ai) with m | m
 refine Ga ([vI a.ak,vU a.ax,vU a.bi,vU a.aI, .slice i a.ag.ls.length e, .slice j a.aj.ls.length f, .slice g a.aF.ls.length d]) m aj 0 Tryz.isAgg33 Tryz.sizeOf33 ?_
 obtain⟨ak,K⟩:∃ q,mY a=q:=⟨_,rfl⟩
 obtain⟨dE,aO,t,aP,bZ⟩:=EU aj
 refine F7 rfl rfl m rfl (Fe Tryz.call42 rfl (ui _ _ a i a.ag.ls.length e j a.aj.ls.length f z g a.aF.ls.length d n ak aO rfl (t _ G) (show a.ag.ls.length≤e∧a.ag.ls.length≤9223372036854775807 from by omega) B rfl (t _ I) (show a.aj.ls.length≤f∧a.aj.ls.length≤9223372036854775807 from by omega) (fun r s=>⟨t _ (u r s).1,(u r s).2⟩) y rfl (t _ C) (show a.aF.ls.length≤d∧a.aF.ls.length≤9223372036854775807 from by omega) (fun r s=>⟨t _ (b r s).1,(b r s).2.1,(fun E S=>⟨t _ ((b r s).2.2 E S).1,((b r s).2.2 E S).2⟩)⟩) e8 K) ?_)
 rintro _ dG ⟨rfl,aQ⟩
 have au:=aP _ _ aQ
 refine fw (.bool ak) (Fa rfl m rfl) (Mz rfl ?_)
 rcases IW (ak) with k | k
 refine Gz (vP ag 6) k (Gl (.slice g a.aF.ls.length d) k au 0 Tryz.isAgg31 ?_)
 obtain⟨O,T⟩:∃ q,oL a.aF.ls=q:=⟨_,rfl⟩
 obtain⟨dH,aR,L,aS,cu⟩:=EU au
 refine F7 rfl rfl k rfl (Fe Tryz.call43 rfl (vS _ _ g a.aF.ls.length d n a.aF.ls O aR y (L _ C) (fun r s=>⟨L _ (b r s).1,(b r s).2.1,(fun E S=>⟨L _ ((b r s).2.2 E S).1,((b r s).2.2 E S).2⟩)⟩) rfl e6 T) ?_)
 rintro _ dI ⟨rfl,aT⟩
 have bL:=aS _ _ aT
 refine fw (.bool O) (Fa rfl k rfl) ?_
 obtain⟨aU,U⟩:∃ q,iL O=q:=⟨_,rfl⟩
 obtain⟨dJ,aW,cz,aX,cB⟩:=EU bL
 refine cl F1 (lW _ _ O aU aW U) ?_
 rintro _ dL ⟨rfl,aY⟩
 have bM:=aX _ _ aY
 refine An rfl (rt (rs ?_))
 have bN:=bM.pk []
 obtain rfl:_=aU:=hr.symm.trans (et (ah o) (et (ip h) (et (ip l) (et (ah F) (et (ip m) (et (ah K) (et (ip k) (et (ah T) (ah U)))))))))
 exact⟨rfl,bN⟩
 refine Sz k (Sz k (Sz k (fw (.bool false) (ES rfl k rfl) ?_)))
 obtain⟨aZ,V⟩:∃ q,iL false=q:=⟨_,rfl⟩
 obtain⟨dM,bf,cK,bg,cO⟩:=EU au
 refine cl F1 (lW _ _ false aZ bf V) ?_
 rintro _ dN ⟨rfl,bi⟩
 have bO:=bg _ _ bi
 refine An rfl (rt (rs ?_))
 have bP:=bO.pk []
 obtain rfl:_=aZ:=hr.symm.trans (et (ah o) (et (ip h) (et (ip l) (et (ah F) (et (ip m) (et (ah K) (et (fU k) (ah V))))))))
 exact⟨rfl,bP⟩
 refine Sz m (Sz m (fw (.bool false) (ES rfl m rfl) (Mz rfl (Sz rfl (Sz rfl (Sz rfl (fw (.bool false) (ES rfl rfl rfl) ?_)))))))
 obtain⟨bn,W⟩:∃ q,iL false=q:=⟨_,rfl⟩
 obtain⟨dO,bq,cZ,bu,df⟩:=EU aj
 refine cl F1 (lW _ _ false bn bq W) ?_
 rintro _ dP ⟨rfl,bz⟩
 have bQ:=bu _ _ bz
 refine An rfl (rt (rs ?_))
 have bA:=bQ.pk []
 obtain rfl:_=bn:=hr.symm.trans (et (ah o) (et (ip h) (et (ip l) (et (ah F) (et (fU m) (ah W))))))
 exact⟨rfl,bA⟩
 refine Sz (dF l) (Sz (dF l) (fw (.bool false) (ES rfl (dF l) rfl) (Mz rfl (Sz rfl (Sz rfl (fw (.bool false) (ES rfl rfl rfl) (Mz rfl (Sz rfl (Sz rfl (Sz rfl (fw (.bool false) (ES rfl rfl rfl) ?_)))))))))))
 obtain⟨X,M⟩:∃ q,iL false=q:=⟨_,rfl⟩
 obtain⟨dh,av,bR,ax,bS⟩:=EU J
 refine cl F1 (lW _ _ false X av M) ?_
 rintro _ di ⟨rfl,aA⟩
 have bB:=ax _ _ aA
 refine An rfl (rt (rs ?_))
 have bC:=bB.pk []
 obtain rfl:_=X:=hr.symm.trans (et (ah o) (et (ip h) (et (iN l) (ah M))))
 exact⟨rfl,bC⟩
 refine Sz h (Sz h (Sz h (fw (.bool false) (ES rfl h rfl) (Mz rfl (Sz rfl (Sz rfl (fw (.bool false) (ES rfl rfl rfl) (Mz rfl (Sz rfl (Sz rfl (fw (.bool false) (ES rfl rfl rfl) (Mz rfl (Sz rfl (Sz rfl (Sz rfl (fw (.bool false) (ES rfl rfl rfl) ?_))))))))))))))))
 obtain⟨Y,N⟩:∃ q,iL false=q:=⟨_,rfl⟩
 obtain⟨dm,aB,bT,aC,bU⟩:=EU J
 refine cl F1 (lW _ _ false Y aB N) ?_
 rintro _ dn ⟨rfl,aD⟩
 have bE:=aC _ _ aD
 refine An rfl (rt (rs ?_))
 have bF:=bE.pk []
 obtain rfl:_=Y:=hr.symm.trans (et (ah o) (et (fU h) (ah N)))
 exact⟨rfl,bF⟩
end Go.Proofs.YtbkagebjhbphaaaGreat
