/-
 record: the layers below; which states may be.
-/
import Derived.Test.YtbkagebjhbphaaaGreatKy
import Derived.Test.YtbkagebjhbphaaaGreatKl
import Derived.Test.YtbkagebjhbphaaaGreatWiX
import Derived.Test.YtbkagebjhbphaaaGreatKi
namespace Go.Proofs.YtbkagebjhbphaaaGreat
open Int renaming toNat→D2
open IntKind renaming i64→C7,u64→D3
open List renaming drop→r6,flatMap→q6,getD→C2,length→s2,length_map→s6,map→s8,mem_cons→v2,mem_of_getElem?→E0,not_mem_nil→B3,toArray→y6
open Ll renaming mk→E4
open Nat renaming le_refl→m5
open Sum renaming inl→C1,inr→C3
open _root_.Go.Proofs.Tryz renaming call39→F1,call40→E2,isAgg149→E7,isAgg28→E1,isAgg3→C6,isAgg30→D4,isAgg40→E6,isAgg58→E3,isAgg9→C4,prog→y4,sizeOf149→F0,underlying147→B7,underlying28→C0,underlying29→B9,underlying3→B4,underlying39→B1,underlying4→B8,underlying40→B6,underlying9→B5
open WL renaming nil→D0
open Wp renaming exit→D1,loop→C5
set_option maxRecDepth 100000
open Go.RowKit
set_option linter.unusedVariables false
set_option linter.unusedSectionVars false
set_option linter.unusedSimpArgs false
theorem qx:Elem y4 39 72 6 80:=kS (z:= .agg #[.int .i64 0, .string ⟨y6 ([])⟩, .string ⟨y6 ([])⟩, .string ⟨y6 ([])⟩, .string ⟨y6 ([])⟩, .int .i64 0]) B1 e7 rfl f3
structure bC where
 aH:Int
 bY:List UInt8
 aW:List UInt8
 bK:List UInt8
 bW:List UInt8
 bU:Int
def bC.cells (x:bC):List Value:= [.int .i64 x.aH, .string ⟨y6 x.bY⟩, .string ⟨y6 x.aW⟩, .string ⟨y6 x.bK⟩, .string ⟨y6 x.bW⟩, .int .i64 x.bU]
instance:Bk bC:=⟨fun x _=>bk x.aH+(bk x.bY+(bk x.aW+(bk x.bK+(bk x.bW+(bk x.bU+(0))))))⟩
theorem bC.len:∀ x,(bC.cells x).length=6:=fun _=>rfl
theorem bC.one:∀ x, ∀ u ∈ bC.cells x,u.oneCell'=true:=fun x u hu=>by
 simp only [bC.cells,v2,B3,or_false] at hu
 rcases hu with rfl | rfl | rfl | rfl | rfl | rfl <;> rfl
def Ic (w:World) (x:bC):Prop:=((-9223372036854775808)≤x.aH∧x.aH≤9223372036854775807)∧(x.bY.length≤140737488351232)∧(x.aW.length≤140737488351232)∧(x.bK.length≤140737488351232)∧(x.bW.length≤140737488351232)∧((-9223372036854775808)≤x.bU∧x.bU≤9223372036854775807)
theorem Cf (w:World):kQ y4 w 72 6 bC.cells (Ic w):=
 (mE (sz:=6) Tryz.underlying72 e7 (fH.cons (i:=0) (off:=0) (s:=1) rfl rfl (lM (k:= .i64) (lo:= -9223372036854775808) (hi:=9223372036854775807) B4 e7 f3 f3) (fH.cons (i:=1) (off:=1) (s:=1) rfl rfl (kr B5 e7) (fH.cons (i:=2) (off:=2) (s:=1) rfl rfl (kr B5 e7) (fH.cons (i:=3) (off:=3) (s:=1) rfl rfl (kr B5 e7) (fH.cons (i:=4) (off:=4) (s:=1) rfl rfl (kr B5 e7) (fH.cons (i:=5) (off:=5) (s:=1) rfl rfl (lM (k:= .i64) (lo:= -9223372036854775808) (hi:=9223372036854775807) B4 e7 f3 f3) fH.nil))))))).map (fun p=>⟨p.1,p.2.1,p.2.2.1,p.2.2.2.1,p.2.2.2.2.1,p.2.2.2.2.2.1⟩) bC.len (fun _=>rfl) (fun _ h=>⟨h.1,h.2.1,h.2.2.1,h.2.2.2.1,h.2.2.2.2.1,h.2.2.2.2.2.1⟩) fun _=>m5 _
instance:Inhabited bC:=⟨⟨default,default,default,default,default,default⟩⟩
theorem ng:Elem y4 58 3 1 8:=kS (z:= .int .i64 0) Tryz.underlying58 e7 rfl f3
structure bG where
 dV:Int
 aG:Sv bC
 aJ:Sv Int
def bG.cells (x:bG):List Value:= [.int .i64 x.dV, .slice x.aG.A x.aG.ls.length x.aG.c, .slice x.aJ.A x.aJ.ls.length x.aJ.c]
instance:Bk bG:=⟨fun x _=>bk x.dV+(bk x.aG+(bk x.aJ+(0)))⟩
theorem bG.len:∀ x,(bG.cells x).length=3:=fun _=>rfl
theorem bG.one:∀ x, ∀ u ∈ bG.cells x,u.oneCell'=true:=fun x u hu=>by
 simp only [bG.cells,v2,B3,or_false] at hu
 rcases hu with rfl | rfl | rfl <;> rfl
def Jk (w:World) (x:bG):Prop:=((-9223372036854775808)≤x.dV∧x.dV≤9223372036854775807)∧(lZ w 6 80 bC.cells (Ic w) x.aG)∧(lZ w 1 8 (eI .i64) (fun n=>(-9223372036854775808)≤n∧n≤9223372036854775807) x.aJ)
instance:Inhabited bG:=⟨⟨default,default,default⟩⟩
structure gq where
 dV:Int
 aG:Ll bC
 aJ:Ll Int
instance:Inhabited gq:=⟨⟨default,default,default⟩⟩
def bG.abs (x:bG):gq:=⟨x.dV,⟨x.aG.ls⟩,⟨x.aJ.ls⟩⟩
def bG.own (x:bG):List HP:= [row x.aG.A x.aG.ls.length x.aG.c (q6 bC.cells x.aG.ls) 72 6,row x.aJ.A x.aJ.ls.length x.aJ.c (q6 (eI .i64) x.aJ.ls) 3 1]
theorem FB:Elem y4 22 44 25 272:=kS (z:= .agg #[.int .i64 0, .int .i64 0, .int .i64 0, .int .i64 0, .int .i64 0, .int .i64 0, .int .i64 0, .int .i64 0, .int .u64 0, .int .u64 0, .int .u64 0, .int .u64 0, .int .u64 0, .int .u64 0, .int .u64 0, .int .u64 0, .int .u64 0, .bool false, .string ⟨y6 ([])⟩, .string ⟨y6 ([])⟩, .slice none 0 0, .slice none 0 0, .slice none 0 0, .bool false, .string ⟨y6 ([])⟩]) Tryz.underlying22 e7 rfl f3
structure bL where
 bK:List UInt8
 bW:List UInt8
def bL.cells (x:bL):List Value:= [.string ⟨y6 x.bK⟩, .string ⟨y6 x.bW⟩]
instance:Bk bL:=⟨fun x _=>bk x.bK+(bk x.bW+(0))⟩
theorem bL.len:∀ x,(bL.cells x).length=2:=fun _=>rfl
theorem bL.one:∀ x, ∀ u ∈ bL.cells x,u.oneCell'=true:=fun x u hu=>by
 simp only [bL.cells,v2,B3,or_false] at hu
 rcases hu with rfl | rfl <;> rfl
def Iy (w:World) (x:bL):Prop:=(x.bK.length≤140737488351232)∧(x.bW.length≤140737488351232)
theorem zK (w:World):kQ y4 w 38 2 bL.cells (Iy w):=
 (mE (sz:=2) Tryz.underlying38 e7 (fH.cons (i:=0) (off:=0) (s:=1) rfl rfl (kr B5 e7) (fH.cons (i:=1) (off:=1) (s:=1) rfl rfl (kr B5 e7) fH.nil))).map (fun p=>⟨p.1,p.2.1⟩) bL.len (fun _=>rfl) (fun _ h=>⟨h.1,h.2.1⟩) fun _=>m5 _
instance:Inhabited bL:=⟨⟨default,default⟩⟩
theorem rP:Elem y4 40 149 3 48:=kS (z:= .agg #[.bool false, .string ⟨y6 ([])⟩, .slice none 0 0]) B6 e7 rfl f3
theorem jO:Elem y4 147 153 2 32:=kS (z:= .agg #[.string ⟨y6 ([])⟩, .string ⟨y6 ([])⟩]) B7 e7 rfl f3
structure aL where
 bY:List UInt8
 aW:List UInt8
def aL.cells (x:aL):List Value:= [.string ⟨y6 x.bY⟩, .string ⟨y6 x.aW⟩]
instance:Bk aL:=⟨fun x _=>bk x.bY+(bk x.aW+(0))⟩
theorem aL.len:∀ x,(aL.cells x).length=2:=fun _=>rfl
theorem aL.one:∀ x, ∀ u ∈ aL.cells x,u.oneCell'=true:=fun x u hu=>by
 simp only [aL.cells,v2,B3,or_false] at hu
 rcases hu with rfl | rfl <;> rfl
def IK (w:World) (x:aL):Prop:=(x.bY.length≤140737488351232)∧(x.aW.length≤140737488351232)
theorem Av (w:World):kQ y4 w 153 2 aL.cells (IK w):=
 (mE (sz:=2) Tryz.underlying153 e7 (fH.cons (i:=0) (off:=0) (s:=1) rfl rfl (kr B5 e7) (fH.cons (i:=1) (off:=1) (s:=1) rfl rfl (kr B5 e7) fH.nil))).map (fun p=>⟨p.1,p.2.1⟩) aL.len (fun _=>rfl) (fun _ h=>⟨h.1,h.2.1⟩) fun _=>m5 _
instance:Inhabited aL:=⟨⟨default,default⟩⟩
structure af where
 dZ:Bool
 aW:List UInt8
 au:Sv aL
def af.cells (x:af):List Value:= [.bool x.dZ, .string ⟨y6 x.aW⟩, .slice x.au.A x.au.ls.length x.au.c]
instance:Bk af:=⟨fun x _=>bk x.dZ+(bk x.aW+(bk x.au+(0)))⟩
theorem af.len:∀ x,(af.cells x).length=3:=fun _=>rfl
theorem af.one:∀ x, ∀ u ∈ af.cells x,u.oneCell'=true:=fun x u hu=>by
 simp only [af.cells,v2,B3,or_false] at hu
 rcases hu with rfl | rfl | rfl <;> rfl
def G7 (w:World) (x:af):Prop:=(True)∧(x.aW.length≤140737488351232)∧(lZ w 2 32 aL.cells (IK w) x.au)
theorem yS (w:World):kQ y4 w 149 3 af.cells (G7 w):=
 (mE (sz:=3) Tryz.underlying149 e7 (fH.cons (i:=0) (off:=0) (s:=1) rfl rfl (uz B8 e7) (fH.cons (i:=1) (off:=1) (s:=1) rfl rfl (kr B5 e7) (fH.cons (i:=2) (off:=2) (s:=1) rfl rfl (pF (bytes:=32) B7 e7 e7 f3 (Av w)) fH.nil)))).map (fun p=>⟨p.1,p.2.1,p.2.2.1⟩) af.len (fun _=>rfl) (fun _ h=>⟨h.1,h.2.1,h.2.2.1⟩) fun _=>m5 _
instance:Inhabited af:=⟨⟨default,default,default⟩⟩
structure aY where
 dZ:Bool
 aW:List UInt8
 au:Ll aL
instance:Inhabited aY:=⟨⟨default,default,default⟩⟩
def af.abs (x:af):aY:=⟨x.dZ,x.aW,⟨x.au.ls⟩⟩
def af.own (x:af):List HP:= [row x.au.A x.au.ls.length x.au.c (q6 aL.cells x.au.ls) 153 2]
theorem qy:Elem y4 29 89 2 24:=kS (z:= .agg #[.string ⟨y6 ([])⟩, .int .i64 0]) B9 e7 rfl f3
structure bv where
 bK:List UInt8
 dV:Int
def bv.cells (x:bv):List Value:= [.string ⟨y6 x.bK⟩, .int .i64 x.dV]
instance:Bk bv:=⟨fun x _=>bk x.bK+(bk x.dV+(0))⟩
theorem bv.len:∀ x,(bv.cells x).length=2:=fun _=>rfl
theorem bv.one:∀ x, ∀ u ∈ bv.cells x,u.oneCell'=true:=fun x u hu=>by
 simp only [bv.cells,v2,B3,or_false] at hu
 rcases hu with rfl | rfl <;> rfl
def Ie (w:World) (x:bv):Prop:=(x.bK.length≤140737488351232)∧((-9223372036854775808)≤x.dV∧x.dV≤9223372036854775807)
theorem zL (w:World):kQ y4 w 89 2 bv.cells (Ie w):=
 (mE (sz:=2) Tryz.underlying89 e7 (fH.cons (i:=0) (off:=0) (s:=1) rfl rfl (kr B5 e7) (fH.cons (i:=1) (off:=1) (s:=1) rfl rfl (lM (k:= .i64) (lo:= -9223372036854775808) (hi:=9223372036854775807) B4 e7 f3 f3) fH.nil))).map (fun p=>⟨p.1,p.2.1⟩) bv.len (fun _=>rfl) (fun _ h=>⟨h.1,h.2.1⟩) fun _=>m5 _
instance:Inhabited bv:=⟨⟨default,default⟩⟩
structure bF where
 aH:Int
 aJ:Int
 eO:Int
 aS:Int
 dz:Int
 eu:Int
 aU:Nat
 ax:Nat
 bi:Nat
 dW:Nat
 bf:Nat
 aK:Nat
 dI:Nat
 cZ:Nat
 xN:Nat
 d9:Bool
 bV:bL
 aG:Sv bC
 ah:Sv af
 ag:Sv bv
def bF.cells (x:bF):List Value:= [.int .i64 x.aH, .int .i64 x.aJ, .int .i64 x.eO, .int .i64 x.aS, .int .i64 x.dz, .int .i64 x.eu, .int .u64 ((x.aU:Nat):Int), .int .u64 ((x.ax:Nat):Int), .int .u64 ((x.bi:Nat):Int), .int .u64 ((x.dW:Nat):Int), .int .u64 ((x.bf:Nat):Int), .int .u64 ((x.aK:Nat):Int), .int .u64 ((x.dI:Nat):Int), .int .u64 ((x.cZ:Nat):Int), .int .u64 ((x.xN:Nat):Int), .bool x.d9, .string ⟨y6 x.bV.bK⟩, .string ⟨y6 x.bV.bW⟩, .slice x.aG.A x.aG.ls.length x.aG.c, .slice x.ah.A x.ah.ls.length x.ah.c, .slice x.ag.A x.ag.ls.length x.ag.c]
instance:Bk bF:=⟨fun x _=>bk x.aH+(bk x.aJ+(bk x.eO+(bk x.aS+(bk x.dz+(bk x.eu+(bk x.aU+(bk x.ax+(bk x.bi+(bk x.dW+(bk x.bf+(bk x.aK+(bk x.dI+(bk x.cZ+(bk x.xN+(bk x.d9+(bk x.bV+(bk x.aG+(bk x.ah+(bk x.ag+(0))))))))))))))))))))⟩
theorem bF.len:∀ x,(bF.cells x).length=21:=fun _=>rfl
theorem bF.one:∀ x, ∀ u ∈ bF.cells x,u.oneCell'=true:=fun x u hu=>by
 simp only [bF.cells,v2,B3,or_false] at hu
 rcases hu with rfl | rfl | rfl | rfl | rfl | rfl | rfl | rfl | rfl | rfl | rfl | rfl | rfl | rfl | rfl | rfl | rfl | rfl | rfl | rfl | rfl <;> rfl
def Io (w:World) (x:bF):Prop:=((-9223372036854775808)≤x.aH∧x.aH≤9223372036854775807)∧((-9223372036854775808)≤x.aJ∧x.aJ≤9223372036854775807)∧((-9223372036854775808)≤x.eO∧x.eO≤9223372036854775807)∧((-9223372036854775808)≤x.aS∧x.aS≤9223372036854775807)∧((-9223372036854775808)≤x.dz∧x.dz≤9223372036854775807)∧((-9223372036854775808)≤x.eu∧x.eu≤9223372036854775807)∧(x.aU≤18446744073709551615)∧(x.ax≤18446744073709551615)∧(x.bi≤18446744073709551615)∧(x.dW≤18446744073709551615)∧(x.bf≤18446744073709551615)∧(x.aK≤18446744073709551615)∧(x.dI≤18446744073709551615)∧(x.cZ≤18446744073709551615)∧(x.xN≤18446744073709551615)∧(True)∧(Iy w x.bV)∧(lZ w 6 80 bC.cells (Ic w) x.aG)∧(lZ w 3 48 af.cells (G7 w) x.ah)∧(lZ w 2 24 bv.cells (Ie w) x.ag)
theorem BB (w:World):kQ y4 w 42 21 bF.cells (Io w):=
 (mE (sz:=21) Tryz.underlying42 e7 (fH.cons (i:=0) (off:=0) (s:=1) rfl rfl (lM (k:= .i64) (lo:= -9223372036854775808) (hi:=9223372036854775807) B4 e7 f3 f3) (fH.cons (i:=1) (off:=1) (s:=1) rfl rfl (lM (k:= .i64) (lo:= -9223372036854775808) (hi:=9223372036854775807) B4 e7 f3 f3) (fH.cons (i:=2) (off:=2) (s:=1) rfl rfl (lM (k:= .i64) (lo:= -9223372036854775808) (hi:=9223372036854775807) B4 e7 f3 f3) (fH.cons (i:=3) (off:=3) (s:=1) rfl rfl (lM (k:= .i64) (lo:= -9223372036854775808) (hi:=9223372036854775807) B4 e7 f3 f3) (fH.cons (i:=4) (off:=4) (s:=1) rfl rfl (lM (k:= .i64) (lo:= -9223372036854775808) (hi:=9223372036854775807) B4 e7 f3 f3) (fH.cons (i:=5) (off:=5) (s:=1) rfl rfl (lM (k:= .i64) (lo:= -9223372036854775808) (hi:=9223372036854775807) B4 e7 f3 f3) (fH.cons (i:=6) (off:=6) (s:=1) rfl rfl (mW (k:= .u64) (hi:=18446744073709551615) C0 e7 f3 f3) (fH.cons (i:=7) (off:=7) (s:=1) rfl rfl (mW (k:= .u64) (hi:=18446744073709551615) C0 e7 f3 f3) (fH.cons (i:=8) (off:=8) (s:=1) rfl rfl (mW (k:= .u64) (hi:=18446744073709551615) C0 e7 f3 f3) (fH.cons (i:=9) (off:=9) (s:=1) rfl rfl (mW (k:= .u64) (hi:=18446744073709551615) C0 e7 f3 f3) (fH.cons (i:=10) (off:=10) (s:=1) rfl rfl (mW (k:= .u64) (hi:=18446744073709551615) C0 e7 f3 f3) (fH.cons (i:=11) (off:=11) (s:=1) rfl rfl (mW (k:= .u64) (hi:=18446744073709551615) C0 e7 f3 f3) (fH.cons (i:=12) (off:=12) (s:=1) rfl rfl (mW (k:= .u64) (hi:=18446744073709551615) C0 e7 f3 f3) (fH.cons (i:=13) (off:=13) (s:=1) rfl rfl (mW (k:= .u64) (hi:=18446744073709551615) C0 e7 f3 f3) (fH.cons (i:=14) (off:=14) (s:=1) rfl rfl (mW (k:= .u64) (hi:=18446744073709551615) C0 e7 f3 f3) (fH.cons (i:=15) (off:=15) (s:=1) rfl rfl (uz B8 e7) (fH.cons (i:=16) (off:=16) (s:=2) rfl rfl (zK w) (fH.cons (i:=17) (off:=18) (s:=1) rfl rfl (pF (bytes:=80) B1 e7 e7 f3 (Cf w)) (fH.cons (i:=18) (off:=19) (s:=1) rfl rfl (pF (bytes:=48) B6 e7 e7 f3 (yS w)) (fH.cons (i:=19) (off:=20) (s:=1) rfl rfl (pF (bytes:=24) B9 e7 e7 f3 (zL w)) fH.nil))))))))))))))))))))).map (fun p=>⟨p.1,p.2.1,p.2.2.1,p.2.2.2.1,p.2.2.2.2.1,p.2.2.2.2.2.1,p.2.2.2.2.2.2.1,p.2.2.2.2.2.2.2.1,p.2.2.2.2.2.2.2.2.1,p.2.2.2.2.2.2.2.2.2.1,p.2.2.2.2.2.2.2.2.2.2.1,p.2.2.2.2.2.2.2.2.2.2.2.1,p.2.2.2.2.2.2.2.2.2.2.2.2.1,p.2.2.2.2.2.2.2.2.2.2.2.2.2.1,p.2.2.2.2.2.2.2.2.2.2.2.2.2.2.1,p.2.2.2.2.2.2.2.2.2.2.2.2.2.2.2.1,p.2.2.2.2.2.2.2.2.2.2.2.2.2.2.2.2.1,p.2.2.2.2.2.2.2.2.2.2.2.2.2.2.2.2.2.1,p.2.2.2.2.2.2.2.2.2.2.2.2.2.2.2.2.2.2.1,p.2.2.2.2.2.2.2.2.2.2.2.2.2.2.2.2.2.2.2.1⟩) bF.len (fun _=>rfl) (fun _ h=>⟨h.1,h.2.1,h.2.2.1,h.2.2.2.1,h.2.2.2.2.1,h.2.2.2.2.2.1,h.2.2.2.2.2.2.1,h.2.2.2.2.2.2.2.1,h.2.2.2.2.2.2.2.2.1,h.2.2.2.2.2.2.2.2.2.1,h.2.2.2.2.2.2.2.2.2.2.1,h.2.2.2.2.2.2.2.2.2.2.2.1,h.2.2.2.2.2.2.2.2.2.2.2.2.1,h.2.2.2.2.2.2.2.2.2.2.2.2.2.1,h.2.2.2.2.2.2.2.2.2.2.2.2.2.2.1,h.2.2.2.2.2.2.2.2.2.2.2.2.2.2.2.1,h.2.2.2.2.2.2.2.2.2.2.2.2.2.2.2.2.1,h.2.2.2.2.2.2.2.2.2.2.2.2.2.2.2.2.2.1,h.2.2.2.2.2.2.2.2.2.2.2.2.2.2.2.2.2.2.1,h.2.2.2.2.2.2.2.2.2.2.2.2.2.2.2.2.2.2.2.1⟩) fun _=>m5 _
instance:Inhabited bF:=⟨⟨default,default,default,default,default,default,default,default,default,default,default,default,default,default,default,default,default,default,default,default⟩⟩
structure bQ where
 aH:Int
 aJ:Int
 eO:Int
 aS:Int
 dz:Int
 eu:Int
 aU:Nat
 ax:Nat
 bi:Nat
 dW:Nat
 bf:Nat
 aK:Nat
 dI:Nat
 cZ:Nat
 xN:Nat
 d9:Bool
 bV:bL
 aG:Ll bC
 ah:Ll aY
 ag:Ll bv
instance:Inhabited bQ:=⟨⟨default,default,default,default,default,default,default,default,default,default,default,default,default,default,default,default,default,default,default,default⟩⟩
def bF.abs (x:bF):bQ:=⟨x.aH,x.aJ,x.eO,x.aS,x.dz,x.eu,x.aU,x.ax,x.bi,x.dW,x.bf,x.aK,x.dI,x.cZ,x.xN,x.d9,x.bV,⟨x.aG.ls⟩,⟨s8 af.abs x.ah.ls⟩,⟨x.ag.ls⟩⟩
def bF.own (x:bF):List HP:= [row x.aG.A x.aG.ls.length x.aG.c (q6 bC.cells x.aG.ls) 72 6,row x.ah.A x.ah.ls.length x.ah.c (q6 af.cells x.ah.ls) 149 3,row x.ag.A x.ag.ls.length x.ag.c (q6 bv.cells x.ag.ls) 89 2,sepL (q6 af.own x.ah.ls)]
abbrev gD (r:Int) (s:Int) (t:Int) (u:Int) (v:Int) (w:Int) (x:Nat) (y:Nat) (z:Nat) (A:Nat) (g:Nat) (h:Nat) (i:Nat) (j:Nat) (k:Nat) (l:Bool) (m:List UInt8) (n:List UInt8) (o:Option Addr) (a b:Nat) (p:Option Addr) (c d:Nat) (q:Option Addr) (e f:Nat):List Value:= [.int .i64 r, .int .i64 s, .int .i64 t, .int .i64 u, .int .i64 v, .int .i64 w, .int .u64 ((x:Nat):Int), .int .u64 ((y:Nat):Int), .int .u64 ((z:Nat):Int), .int .u64 ((A:Nat):Int), .int .u64 ((g:Nat):Int), .int .u64 ((h:Nat):Int), .int .u64 ((i:Nat):Int), .int .u64 ((j:Nat):Int), .int .u64 ((k:Nat):Int), .bool l, .string ⟨y6 m⟩, .string ⟨y6 n⟩, .slice o a b, .slice p c d, .slice q e f]
abbrev gT (x:bQ) (a:Option Addr) (b:Nat) (c:Option Addr) (d:Nat) (e:Option Addr) (f:Nat):List Value:= [.int .i64 x.aH, .int .i64 x.aJ, .int .i64 x.eO, .int .i64 x.aS, .int .i64 x.dz, .int .i64 x.eu, .int .u64 ((x.aU:Nat):Int), .int .u64 ((x.ax:Nat):Int), .int .u64 ((x.bi:Nat):Int), .int .u64 ((x.dW:Nat):Int), .int .u64 ((x.bf:Nat):Int), .int .u64 ((x.aK:Nat):Int), .int .u64 ((x.dI:Nat):Int), .int .u64 ((x.cZ:Nat):Int), .int .u64 ((x.xN:Nat):Int), .bool x.d9, .string ⟨y6 x.bV.bK⟩, .string ⟨y6 x.bV.bW⟩, .slice a x.aG.ls.length b, .slice c x.ah.ls.length d, .slice e x.ag.ls.length f]
structure fU where
 kX:Int
 eO:Int
 aC:bF
 ed:Bool
 bY:List UInt8
def fU.cells (x:fU):List Value:= [.int .i64 x.kX, .int .i64 x.eO, .int .i64 x.aC.aH, .int .i64 x.aC.aJ, .int .i64 x.aC.eO, .int .i64 x.aC.aS, .int .i64 x.aC.dz, .int .i64 x.aC.eu, .int .u64 ((x.aC.aU:Nat):Int), .int .u64 ((x.aC.ax:Nat):Int), .int .u64 ((x.aC.bi:Nat):Int), .int .u64 ((x.aC.dW:Nat):Int), .int .u64 ((x.aC.bf:Nat):Int), .int .u64 ((x.aC.aK:Nat):Int), .int .u64 ((x.aC.dI:Nat):Int), .int .u64 ((x.aC.cZ:Nat):Int), .int .u64 ((x.aC.xN:Nat):Int), .bool x.aC.d9, .string ⟨y6 x.aC.bV.bK⟩, .string ⟨y6 x.aC.bV.bW⟩, .slice x.aC.aG.A x.aC.aG.ls.length x.aC.aG.c, .slice x.aC.ah.A x.aC.ah.ls.length x.aC.ah.c, .slice x.aC.ag.A x.aC.ag.ls.length x.aC.ag.c, .bool x.ed, .string ⟨y6 x.bY⟩]
instance:Bk fU:=⟨fun x _=>bk x.kX+(bk x.eO+(bk x.aC+(bk x.ed+(bk x.bY+(0)))))⟩
theorem fU.len:∀ x,(fU.cells x).length=25:=fun _=>rfl
theorem fU.one:∀ x, ∀ u ∈ fU.cells x,u.oneCell'=true:=fun x u hu=>by
 simp only [fU.cells,v2,B3,or_false] at hu
 rcases hu with rfl | rfl | rfl | rfl | rfl | rfl | rfl | rfl | rfl | rfl | rfl | rfl | rfl | rfl | rfl | rfl | rfl | rfl | rfl | rfl | rfl | rfl | rfl | rfl | rfl <;> rfl
def Hz (w:World) (x:fU):Prop:=((-9223372036854775808)≤x.kX∧x.kX≤9223372036854775807)∧((-9223372036854775808)≤x.eO∧x.eO≤9223372036854775807)∧(Io w x.aC)∧(True)∧(x.bY.length≤140737488351232)
theorem Aw (w:World):kQ y4 w 44 25 fU.cells (Hz w):=
 (mE (sz:=25) Tryz.underlying44 e7 (fH.cons (i:=0) (off:=0) (s:=1) rfl rfl (lM (k:= .i64) (lo:= -9223372036854775808) (hi:=9223372036854775807) B4 e7 f3 f3) (fH.cons (i:=1) (off:=1) (s:=1) rfl rfl (lM (k:= .i64) (lo:= -9223372036854775808) (hi:=9223372036854775807) B4 e7 f3 f3) (fH.cons (i:=2) (off:=2) (s:=21) rfl rfl (BB w) (fH.cons (i:=3) (off:=23) (s:=1) rfl rfl (uz B8 e7) (fH.cons (i:=4) (off:=24) (s:=1) rfl rfl (kr B5 e7) fH.nil)))))).map (fun p=>⟨p.1,p.2.1,p.2.2.1,p.2.2.2.1,p.2.2.2.2.1⟩) fU.len (fun _=>rfl) (fun _ h=>⟨h.1,h.2.1,h.2.2.1,h.2.2.2.1,h.2.2.2.2.1⟩) fun _=>m5 _
instance:Inhabited fU:=⟨⟨default,default,default,default,default⟩⟩
structure StepT where
 kX:Int
 eO:Int
 aC:bQ
 ed:Bool
 bY:List UInt8
instance:Inhabited StepT:=⟨⟨default,default,default,default,default⟩⟩
def fU.abs (x:fU):StepT:=⟨x.kX,x.eO,x.aC.abs,x.ed,x.bY⟩
def fU.own (x:fU):List HP:= [row x.aC.aG.A x.aC.aG.ls.length x.aC.aG.c (q6 bC.cells x.aC.aG.ls) 72 6,row x.aC.ah.A x.aC.ah.ls.length x.aC.ah.c (q6 af.cells x.aC.ah.ls) 149 3,row x.aC.ag.A x.aC.ag.ls.length x.aC.ag.c (q6 bv.cells x.aC.ag.ls) 89 2,sepL (q6 af.own x.aC.ah.ls)]
abbrev Fa (v:Int) (w:Int) (x:Int) (y:Int) (z:Int) (A:Int) (B:Int) (C:Int) (D:Nat) (E:Nat) (g:Nat) (h:Nat) (i:Nat) (j:Nat) (k:Nat) (l:Nat) (m:Nat) (n:Bool) (o:List UInt8) (p:List UInt8) (q:Option Addr) (a b:Nat) (r:Option Addr) (c d:Nat) (s:Option Addr) (e f:Nat) (t:Bool) (u:List UInt8):List Value:= [.int .i64 v, .int .i64 w, .int .i64 x, .int .i64 y, .int .i64 z, .int .i64 A, .int .i64 B, .int .i64 C, .int .u64 ((D:Nat):Int), .int .u64 ((E:Nat):Int), .int .u64 ((g:Nat):Int), .int .u64 ((h:Nat):Int), .int .u64 ((i:Nat):Int), .int .u64 ((j:Nat):Int), .int .u64 ((k:Nat):Int), .int .u64 ((l:Nat):Int), .int .u64 ((m:Nat):Int), .bool n, .string ⟨y6 o⟩, .string ⟨y6 p⟩, .slice q a b, .slice r c d, .slice s e f, .bool t, .string ⟨y6 u⟩]
theorem lN:Elem y4 31 56 4 48:=kS (z:= .agg #[.int .i64 0, .int .u64 0, .int .u64 0, .slice none 0 0]) Tryz.underlying31 e7 rfl f3
structure aZ where
 aS:Int
 ax:Nat
 aU:Nat
 ah:Sv af
def aZ.cells (x:aZ):List Value:= [.int .i64 x.aS, .int .u64 ((x.ax:Nat):Int), .int .u64 ((x.aU:Nat):Int), .slice x.ah.A x.ah.ls.length x.ah.c]
instance:Bk aZ:=⟨fun x _=>bk x.aS+(bk x.ax+(bk x.aU+(bk x.ah+(0))))⟩
theorem aZ.len:∀ x,(aZ.cells x).length=4:=fun _=>rfl
theorem aZ.one:∀ x, ∀ u ∈ aZ.cells x,u.oneCell'=true:=fun x u hu=>by
 simp only [aZ.cells,v2,B3,or_false] at hu
 rcases hu with rfl | rfl | rfl | rfl <;> rfl
def Jl (w:World) (x:aZ):Prop:=((-9223372036854775808)≤x.aS∧x.aS≤9223372036854775807)∧(x.ax≤18446744073709551615)∧(x.aU≤18446744073709551615)∧(lZ w 3 48 af.cells (G7 w) x.ah)
instance:Inhabited aZ:=⟨⟨default,default,default,default⟩⟩
structure fE where
 aS:Int
 ax:Nat
 aU:Nat
 ah:Ll aY
instance:Inhabited fE:=⟨⟨default,default,default,default⟩⟩
def aZ.abs (x:aZ):fE:=⟨x.aS,x.ax,x.aU,⟨s8 af.abs x.ah.ls⟩⟩
def aZ.own (x:aZ):List HP:= [row x.ah.A x.ah.ls.length x.ah.c (q6 af.cells x.ah.ls) 149 3,sepL (q6 af.own x.ah.ls)]
theorem kG:Elem y4 30 60 5 56:=kS (z:= .agg #[.int .u64 0, .int .i64 0, .int .u64 0, .int .u64 0, .slice none 0 0]) Tryz.underlying30 e7 rfl f3
structure aA where
 bi:Nat
 aS:Int
 ax:Nat
 aU:Nat
 av:Sv Int
def aA.cells (x:aA):List Value:= [.int .u64 ((x.bi:Nat):Int), .int .i64 x.aS, .int .u64 ((x.ax:Nat):Int), .int .u64 ((x.aU:Nat):Int), .slice x.av.A x.av.ls.length x.av.c]
instance:Bk aA:=⟨fun x _=>bk x.bi+(bk x.aS+(bk x.ax+(bk x.aU+(bk x.av+(0)))))⟩
theorem aA.len:∀ x,(aA.cells x).length=5:=fun _=>rfl
theorem aA.one:∀ x, ∀ u ∈ aA.cells x,u.oneCell'=true:=fun x u hu=>by
 simp only [aA.cells,v2,B3,or_false] at hu
 rcases hu with rfl | rfl | rfl | rfl | rfl <;> rfl
def IL (w:World) (x:aA):Prop:=(x.bi≤18446744073709551615)∧((-9223372036854775808)≤x.aS∧x.aS≤9223372036854775807)∧(x.ax≤18446744073709551615)∧(x.aU≤18446744073709551615)∧(lZ w 1 8 (eI .i64) (fun n=>(-9223372036854775808)≤n∧n≤9223372036854775807) x.av)
instance:Inhabited aA:=⟨⟨default,default,default,default,default⟩⟩
structure bM where
 bi:Nat
 aS:Int
 ax:Nat
 aU:Nat
 av:Ll Int
instance:Inhabited bM:=⟨⟨default,default,default,default,default⟩⟩
def aA.abs (x:aA):bM:=⟨x.bi,x.aS,x.ax,x.aU,⟨x.av.ls⟩⟩
def aA.own (x:aA):List HP:= [row x.av.A x.av.ls.length x.av.c (q6 (eI .i64) x.av.ls) 3 1]
structure mF where
 av:Int
 ax:Nat
 bf:Nat
 aK:Nat
 ag:Sv bv
 aj:Sv aA
 aI:Sv aZ
def mF.cells (x:mF):List Value:= [.int .i64 x.av, .int .u64 ((x.ax:Nat):Int), .int .u64 ((x.bf:Nat):Int), .int .u64 ((x.aK:Nat):Int), .slice x.ag.A x.ag.ls.length x.ag.c, .slice x.aj.A x.aj.ls.length x.aj.c, .slice x.aI.A x.aI.ls.length x.aI.c]
instance:Bk mF:=⟨fun x _=>bk x.av+(bk x.ax+(bk x.bf+(bk x.aK+(bk x.ag+(bk x.aj+(bk x.aI+(0)))))))⟩
theorem mF.len:∀ x,(mF.cells x).length=7:=fun _=>rfl
theorem mF.one:∀ x, ∀ u ∈ mF.cells x,u.oneCell'=true:=fun x u hu=>by
 simp only [mF.cells,v2,B3,or_false] at hu
 rcases hu with rfl | rfl | rfl | rfl | rfl | rfl | rfl <;> rfl
def JB (w:World) (x:mF):Prop:=((-9223372036854775808)≤x.av∧x.av≤9223372036854775807)∧(x.ax≤18446744073709551615)∧(x.bf≤18446744073709551615)∧(x.aK≤18446744073709551615)∧(lZ w 2 24 bv.cells (Ie w) x.ag)∧(lZ w 5 56 aA.cells (IL w) x.aj)∧(lZ w 4 48 aZ.cells (Jl w) x.aI)
instance:Inhabited mF:=⟨⟨default,default,default,default,default,default,default⟩⟩
structure dC where
 av:Int
 ax:Nat
 bf:Nat
 aK:Nat
 ag:Ll bv
 aj:Ll bM
 aI:Ll fE
instance:Inhabited dC:=⟨⟨default,default,default,default,default,default,default⟩⟩
def mF.abs (x:mF):dC:=⟨x.av,x.ax,x.bf,x.aK,⟨x.ag.ls⟩,⟨s8 aA.abs x.aj.ls⟩,⟨s8 aZ.abs x.aI.ls⟩⟩
def mF.own (x:mF):List HP:= [row x.ag.A x.ag.ls.length x.ag.c (q6 bv.cells x.ag.ls) 89 2,row x.aj.A x.aj.ls.length x.aj.c (q6 aA.cells x.aj.ls) 60 5,row x.aI.A x.aI.ls.length x.aI.c (q6 aZ.cells x.aI.ls) 56 4,sepL (q6 aA.own x.aj.ls),sepL (q6 aZ.own x.aI.ls)]
theorem uB:Elem y4 45 42 21 232:=kS (z:= .agg (gD 0 0 0 0 0 0 0 0 0 0 0 0 0 0 0 false ([]) ([]) none 0 0 none 0 0 none 0 0).toArray) Tryz.underlying45 e7 rfl f3
structure nU where
 eP:Sv bF
 iQ:Bool
def nU.cells (x:nU):List Value:= [.slice x.eP.A x.eP.ls.length x.eP.c, .bool x.iQ]
instance:Bk nU:=⟨fun x _=>bk x.eP+(bk x.iQ+(0))⟩
theorem nU.len:∀ x,(nU.cells x).length=2:=fun _=>rfl
theorem nU.one:∀ x, ∀ u ∈ nU.cells x,u.oneCell'=true:=fun x u hu=>by
 simp only [nU.cells,v2,B3,or_false] at hu
 rcases hu with rfl | rfl <;> rfl
def JD (w:World) (x:nU):Prop:=(lZ w 21 232 bF.cells (Io w) x.eP)∧(True)
instance:Inhabited nU:=⟨⟨default,default⟩⟩
structure jW where
 eP:Ll bQ
 iQ:Bool
instance:Inhabited jW:=⟨⟨default,default⟩⟩
def nU.abs (x:nU):jW:=⟨⟨s8 bF.abs x.eP.ls⟩,x.iQ⟩
def nU.own (x:nU):List HP:= [row x.eP.A x.eP.ls.length x.eP.c (q6 bF.cells x.eP.ls) 42 21,sepL (q6 bF.own x.eP.ls)]
structure qz where
 bE:Bool
 Fw:Bool
def qz.cells (x:qz):List Value:= [.bool x.bE, .bool x.Fw]
instance:Bk qz:=⟨fun x _=>bk x.bE+(bk x.Fw+(0))⟩
theorem qz.len:∀ x,(qz.cells x).length=2:=fun _=>rfl
theorem qz.one:∀ x, ∀ u ∈ qz.cells x,u.oneCell'=true:=fun x u hu=>by
 simp only [qz.cells,v2,B3,or_false] at hu
 rcases hu with rfl | rfl <;> rfl
def JE (w:World) (x:qz):Prop:=(True)∧(True)
instance:Inhabited qz:=⟨⟨default,default⟩⟩
theorem uC:Elem y4 61 28 1 8:=kS (z:= .int .u64 0) Tryz.underlying61 e7 rfl f3
structure iH where
 ny:Int
 aF:Nat
def iH.cells (x:iH):List Value:= [.int .i64 x.ny, .int .u64 ((x.aF:Nat):Int)]
instance:Bk iH:=⟨fun x _=>bk x.ny+(bk x.aF+(0))⟩
theorem iH.len:∀ x,(iH.cells x).length=2:=fun _=>rfl
theorem iH.one:∀ x, ∀ u ∈ iH.cells x,u.oneCell'=true:=fun x u hu=>by
 simp only [iH.cells,v2,B3,or_false] at hu
 rcases hu with rfl | rfl <;> rfl
def JF (w:World) (x:iH):Prop:=((-9223372036854775808)≤x.ny∧x.ny≤9223372036854775807)∧(x.aF≤18446744073709551615)
instance:Inhabited iH:=⟨⟨default,default⟩⟩
structure mG where
 dV:Int
 aG:Sv bC
 aJ:Sv Int
def mG.cells (x:mG):List Value:= [.int .i64 x.dV, .slice x.aG.A x.aG.ls.length x.aG.c, .slice x.aJ.A x.aJ.ls.length x.aJ.c]
instance:Bk mG:=⟨fun x _=>bk x.dV+(bk x.aG+(bk x.aJ+(0)))⟩
theorem mG.len:∀ x,(mG.cells x).length=3:=fun _=>rfl
theorem mG.one:∀ x, ∀ u ∈ mG.cells x,u.oneCell'=true:=fun x u hu=>by
 simp only [mG.cells,v2,B3,or_false] at hu
 rcases hu with rfl | rfl | rfl <;> rfl
def JC (w:World) (x:mG):Prop:=((-9223372036854775808)≤x.dV∧x.dV≤9223372036854775807)∧(lZ w 6 80 bC.cells (Ic w) x.aG)∧(lZ w 1 8 (eI .i64) (fun n=>(-9223372036854775808)≤n∧n≤9223372036854775807) x.aJ)
instance:Inhabited mG:=⟨⟨default,default,default⟩⟩
structure Cg where
 dV:Int
 aG:Ll bC
 aJ:Ll Int
instance:Inhabited Cg:=⟨⟨default,default,default⟩⟩
def mG.abs (x:mG):Cg:=⟨x.dV,⟨x.aG.ls⟩,⟨x.aJ.ls⟩⟩
def mG.own (x:mG):List HP:= [row x.aG.A x.aG.ls.length x.aG.c (q6 bC.cells x.aG.ls) 72 6,row x.aJ.A x.aJ.ls.length x.aJ.c (q6 (eI .i64) x.aJ.ls) 3 1]
theorem pg:Elem y4 79 107 9 136:=kS (z:= .agg #[.int .u64 0, .int .i64 0, .int .u64 0, .int .u64 0, .slice none 0 0, .slice none 0 0, .slice none 0 0, .slice none 0 0, .int .i64 0]) Tryz.underlying79 e7 rfl f3
theorem tH:Elem y4 103 172 3 56:=kS (z:= .agg #[.int .i64 0, .slice none 0 0, .slice none 0 0]) Tryz.underlying103 e7 rfl f3
theorem xA:Elem y4 104 4 1 1:=kS (z:= .bool false) Tryz.underlying104 e7 rfl f3
theorem wm:Elem y4 105 40 1 24:=kS (z:= .slice none 0 0) Tryz.underlying105 e7 rfl f3
structure bA where
 aX:Nat
 aQ:Int
 aF:Nat
 dh:Nat
 bS:Sv bC
 aD:Sv bG
 bE:Sv Bool
 ae:Sv (Sv af)
 dO:Int
def bA.cells (x:bA):List Value:= [.int .u64 ((x.aX:Nat):Int), .int .i64 x.aQ, .int .u64 ((x.aF:Nat):Int), .int .u64 ((x.dh:Nat):Int), .slice x.bS.A x.bS.ls.length x.bS.c, .slice x.aD.A x.aD.ls.length x.aD.c, .slice x.bE.A x.bE.ls.length x.bE.c, .slice x.ae.A x.ae.ls.length x.ae.c, .int .i64 x.dO]
instance:Bk bA:=⟨fun x _=>bk x.aX+(bk x.aQ+(bk x.aF+(bk x.dh+(bk x.bS+(bk x.aD+(bk x.bE+(bk x.ae+(bk x.dO+(0)))))))))⟩
theorem bA.len:∀ x,(bA.cells x).length=9:=fun _=>rfl
theorem bA.one:∀ x, ∀ u ∈ bA.cells x,u.oneCell'=true:=fun x u hu=>by
 simp only [bA.cells,v2,B3,or_false] at hu
 rcases hu with rfl | rfl | rfl | rfl | rfl | rfl | rfl | rfl | rfl <;> rfl
def JG (w:World) (x:bA):Prop:=(x.aX≤18446744073709551615)∧((-9223372036854775808)≤x.aQ∧x.aQ≤9223372036854775807)∧(x.aF≤18446744073709551615)∧(x.dh≤18446744073709551615)∧(lZ w 6 80 bC.cells (Ic w) x.bS)∧(lZ w 3 56 bG.cells (Jk w) x.aD)∧(lZ w 1 1 eL (fun _=>True) x.bE)∧(lZ w 1 24 (Gy (β:=af)) (lZ w 3 48 af.cells (G7 w)) x.ae)∧((-9223372036854775808)≤x.dO∧x.dO≤9223372036854775807)
instance:Inhabited bA:=⟨⟨default,default,default,default,default,default,default,default,default⟩⟩
abbrev bO:=Sv af
def bO.abs (x:bO):Ll aY:=⟨s8 af.abs x.ls⟩
def bO.own (x:bO):List HP:= [row x.A x.ls.length x.c (q6 af.cells x.ls) 149 3,sepL (q6 af.own x.ls)]
structure dE where
 aX:Nat
 aQ:Int
 aF:Nat
 dh:Nat
 bS:Ll bC
 aD:Ll gq
 bE:Ll Bool
 ae:Ll (Ll aY)
 dO:Int
instance:Inhabited dE:=⟨⟨default,default,default,default,default,default,default,default,default⟩⟩
def bA.abs (x:bA):dE:=⟨x.aX,x.aQ,x.aF,x.dh,⟨x.bS.ls⟩,⟨s8 bG.abs x.aD.ls⟩,⟨x.bE.ls⟩,⟨s8 bO.abs x.ae.ls⟩,x.dO⟩
def bA.own (x:bA):List HP:= [row x.bS.A x.bS.ls.length x.bS.c (q6 bC.cells x.bS.ls) 72 6,row x.aD.A x.aD.ls.length x.aD.c (q6 bG.cells x.aD.ls) 172 3,row x.bE.A x.bE.ls.length x.bE.c (q6 eL x.bE.ls) 4 1,row x.ae.A x.ae.ls.length x.ae.c (q6 (Gy (β:=af)) x.ae.ls) 40 1,sepL (q6 bG.own x.aD.ls),sepL (q6 bO.own x.ae.ls)]
abbrev qP (i:Nat) (j:Int) (k:Nat) (l:Nat) (m:Option Addr) (a b:Nat) (n:Option Addr) (c d:Nat) (o:Option Addr) (e f:Nat) (p:Option Addr) (g h:Nat) (q:Int):List Value:= [.int .u64 ((i:Nat):Int), .int .i64 j, .int .u64 ((k:Nat):Int), .int .u64 ((l:Nat):Int), .slice m a b, .slice n c d, .slice o e f, .slice p g h, .int .i64 q]
abbrev BC (x:dE) (a:Option Addr) (b:Nat) (c:Option Addr) (d:Nat) (e:Option Addr) (f:Nat) (g:Option Addr) (h:Nat):List Value:= [.int .u64 ((x.aX:Nat):Int), .int .i64 x.aQ, .int .u64 ((x.aF:Nat):Int), .int .u64 ((x.dh:Nat):Int), .slice a x.bS.ls.length b, .slice c x.aD.ls.length d, .slice e x.bE.ls.length f, .slice g x.ae.ls.length h, .int .i64 x.dO]
structure lI where
 aT:Bool
 aF:Nat
 bn:Int
 ae:Sv af
def lI.cells (x:lI):List Value:= [.bool x.aT, .int .u64 ((x.aF:Nat):Int), .int .i64 x.bn, .slice x.ae.A x.ae.ls.length x.ae.c]
instance:Bk lI:=⟨fun x _=>bk x.aT+(bk x.aF+(bk x.bn+(bk x.ae+(0))))⟩
theorem lI.len:∀ x,(lI.cells x).length=4:=fun _=>rfl
theorem lI.one:∀ x, ∀ u ∈ lI.cells x,u.oneCell'=true:=fun x u hu=>by
 simp only [lI.cells,v2,B3,or_false] at hu
 rcases hu with rfl | rfl | rfl | rfl <;> rfl
def Ju (w:World) (x:lI):Prop:=(True)∧(x.aF≤18446744073709551615)∧((-9223372036854775808)≤x.bn∧x.bn≤9223372036854775807)∧(lZ w 3 48 af.cells (G7 w) x.ae)
instance:Inhabited lI:=⟨⟨default,default,default,default⟩⟩
structure dX where
 aT:Bool
 aF:Nat
 bn:Int
 ae:Ll aY
instance:Inhabited dX:=⟨⟨default,default,default,default⟩⟩
def lI.abs (x:lI):dX:=⟨x.aT,x.aF,x.bn,⟨s8 af.abs x.ae.ls⟩⟩
def lI.own (x:lI):List HP:= [row x.ae.A x.ae.ls.length x.ae.c (q6 af.cells x.ae.ls) 149 3,sepL (q6 af.own x.ae.ls)]
structure aB where
 aa:dC
 bI:Nat
 ak:Ll dE
 aR:dX
 aN:dX
 aO:dX
 aP:dX
 aM:dX
 di:Nat
 cz:Nat
 cK:Nat
 cB:Nat
 cu:Nat
instance:Inhabited aB:=⟨⟨default,default,default,default,default,default,default,default,default,default,default,default,default⟩⟩
theorem Dw:Elem y4 126 154 1 8:=kS (z:= .int .i64 0) Tryz.underlying126 e7 rfl f3
structure lJ where
 lX:Int
 ny:Int
 dn:Sv Int
def lJ.cells (x:lJ):List Value:= [.int .i64 x.lX, .int .i64 x.ny, .slice x.dn.A x.dn.ls.length x.dn.c]
instance:Bk lJ:=⟨fun x _=>bk x.lX+(bk x.ny+(bk x.dn+(0)))⟩
theorem lJ.len:∀ x,(lJ.cells x).length=3:=fun _=>rfl
theorem lJ.one:∀ x, ∀ u ∈ lJ.cells x,u.oneCell'=true:=fun x u hu=>by
 simp only [lJ.cells,v2,B3,or_false] at hu
 rcases hu with rfl | rfl | rfl <;> rfl
def Jv (w:World) (x:lJ):Prop:=((-9223372036854775808)≤x.lX∧x.lX≤9223372036854775807)∧((-9223372036854775808)≤x.ny∧x.ny≤9223372036854775807)∧(lZ w 1 8 (eI .i64) (fun n=>(-9223372036854775808)≤n∧n≤9223372036854775807) x.dn)
instance:Inhabited lJ:=⟨⟨default,default,default⟩⟩
structure fZ where
 lX:Int
 ny:Int
 dn:Ll Int
instance:Inhabited fZ:=⟨⟨default,default,default⟩⟩
def lJ.abs (x:lJ):fZ:=⟨x.lX,x.ny,⟨x.dn.ls⟩⟩
def lJ.own (x:lJ):List HP:= [row x.dn.A x.dn.ls.length x.dn.c (q6 (eI .i64) x.dn.ls) 154 1]
structure bH where
 bB:Ll bQ
instance:Inhabited bH:=⟨⟨default⟩⟩
theorem xB:Elem y4 134 5 1 1:=kS (z:= .int .u8 0) Tryz.underlying134 e7 rfl f3
structure lK where
 xb:Sv UInt8
def lK.cells (x:lK):List Value:= [.slice x.xb.A x.xb.ls.length x.xb.c]
instance:Bk lK:=⟨fun x _=>bk x.xb+(0)⟩
theorem lK.len:∀ x,(lK.cells x).length=1:=fun _=>rfl
theorem lK.one:∀ x, ∀ u ∈ lK.cells x,u.oneCell'=true:=fun x u hu=>by
 simp only [lK.cells,v2,B3,or_false] at hu
 rcases hu with rfl <;> rfl
def Jw (w:World) (x:lK):Prop:=(lZ w 1 1 eB (fun _=>True) x.xb)
instance:Inhabited lK:=⟨⟨default⟩⟩
structure dJ where
 xb:Ll UInt8
instance:Inhabited dJ:=⟨⟨default⟩⟩
def lK.abs (x:lK):dJ:=⟨⟨x.xb.ls⟩⟩
def lK.own (x:lK):List HP:= [row x.xb.A x.xb.ls.length x.xb.c (q6 eB x.xb.ls) 5 1]
theorem Dx:Elem y4 245 9 1 16:=kS (z:= .string ⟨y6 ([])⟩) Tryz.underlying245 e7 rfl f3
def iJ (a:Int) (b:Int):Bool:=
 if a ≥ 1 then decide (a≤b) else false
theorem lT (w:World) (D:Nat→Prop) (b:Int) (c:Int) (f:Bool) (H:Own w D w []) (hr:iJ b c=f):
    Calls y4 40 #[vI b,vI c] w (dR fun v w'=>v= .bool f∧Own w D w' []):=by
 refine cb Tryz.func40 ?_
 refine sr (Ar rfl (Mz rfl (Kz (.bool (decide (b ≥ 1))) (Mz rfl ?_))))
 by_cases a:b ≥ 1
 refine gw (vI b) (dT a) (F7 rfl) (gw (vI c) (dT a) (F7 rfl) (Gz (.bool (decide (b≤c))) (dT a) (fw (.bool (decide (b≤c))) (Gb rfl (dT a) rfl) (An rfl (rt (rs ?_))))))
 have d:=H.pk []
 obtain rfl:_=decide (b≤c):=hr.symm.trans (ip a)
 exact⟨rfl,d⟩
 refine Sz (dF a) (Sz (dF a) (Sz (dF a) (fw (.bool false) (FX rfl (dF a) rfl) (An rfl (rt (rs ?_))))))
 have e:=H.pk []
 obtain rfl:_=false:=hr.symm.trans (iN a)
 exact⟨rfl,e⟩
def rQ (a:Int):Bool:=
 if a ≥ 1 then decide (a≤4) else false
theorem wR (w:World) (D:Nat→Prop) (b:Int) (e:Bool) (H:Own w D w []) (hr:rQ b=e):
    Calls y4 111 #[vI b] w (dR fun v w'=>v= .bool e∧Own w D w' []):=by
 refine cb Tryz.func111 ?_
 refine sr (Ar rfl (Mz rfl (Kz (.bool (decide (b ≥ 1))) (Mz rfl ?_))))
 by_cases a:b ≥ 1
 refine gw (vI b) (dT a) (F7 rfl) (Gz (.bool (decide (b≤4))) (dT a) (fw (.bool (decide (b≤4))) (Gb rfl (dT a) rfl) (An rfl (rt (rs ?_)))))
 have c:=H.pk []
 obtain rfl:_=decide (b≤4):=hr.symm.trans (ip a)
 exact⟨rfl,c⟩
 refine Sz (dF a) (Sz (dF a) (fw (.bool false) (FX rfl (dF a) rfl) (An rfl (rt (rs ?_)))))
 have d:=H.pk []
 obtain rfl:_=false:=hr.symm.trans (iN a)
 exact⟨rfl,d⟩
def gF (a:List UInt8):Int:=
 if((a.length:Nat):Int) < 1 then 20 else if((a.length:Nat):Int) > 12 then 20 else 0
theorem ku (w:World) (D:Nat→Prop) (b:List UInt8) (d:Int) (H:Own w D w []) (hr:gF b=d):
    Calls y4 112 #[.string ⟨y6 b⟩] w (dR fun v w'=>v=vI d∧Own w D w' []∧(¬ (d=0)∨(1≤b.length∧b.length≤12))∧(b.length < 1∨b.length > 12∨d=0)):=by
 refine cb Tryz.func112 ?_
 refine sr (An rfl (FU (sr (Mz rfl (Kz (vJ b.length) (Kz (.bool (decide (((b.length:Nat):Int) < 1))) (Mz rfl ?_)))))))
 by_cases a:((b.length:Nat):Int) < 1
 refine Sz (dT a) (Sz (dT a) (Sz (dT a) (fw (.bool true) (Gb rfl (dT a) rfl) (nt (jt (sr (An rfl (rt (tR (rs ?_))))))))))
 have e:=H.pk []
 obtain rfl:_=20:=hr.symm.trans (ip a)
 exact⟨rfl,e,e6,e6⟩
 refine gw (.string ⟨y6 b⟩) (dF a) (F7 rfl) (Gz (vJ b.length) (dF a) (Gz (.bool (decide (((b.length:Nat):Int) > 12))) (dF a) (fw (.bool (decide (((b.length:Nat):Int) > 12))) (FX rfl (dF a) rfl) (nt ?_))))
 by_cases c:((b.length:Nat):Int) > 12
 refine jT (dT c) (sr (An rfl (rt (tR (rs ?_)))))
 have f:=H.pk []
 obtain rfl:_=20:=hr.symm.trans (et (iN a) (ip c))
 exact⟨rfl,f,e6,e6⟩
 refine jF (dF c) (sk (sr (An rfl (rt (rs ?_)))))
 have g:=H.pk []
 obtain rfl:_=0:=hr.symm.trans (et (iN a) (iN c))
 exact⟨rfl,g,e6,e6⟩
def iy (l0:List bv):List bv→Nat→Unit ⊕ Int
  | [],a=>C1 ()
  | b::c,a=>bnd (rQ b.dV) fun d=>if d=true then if((a:Nat):Int) > 0 then bnd (gF b.bK) fun e=>if e=0 then bnd (C2 l0 (a - 1) default) fun f=>if b.bK≤f.bK then C3 (170) else iy l0 c (a+1) else C3 (170) else iy l0 c (a+1) else C3 (170)
def kM (l0:List bv):Int:=
 if((l0.length:Nat):Int) < 1 then 170 else if((l0.length:Nat):Int) > 6 then 170 else bnd (C2 l0 0 default) fun a=>if a.bK≠([]) then 170 else lp (iy l0 l0 0) fun _=>0
theorem qQ (w:World) (D:Nat→Prop) (h:Option Addr) (W G:Nat) (l0:List bv) (X:Int) (H:Own w D w []) (j:Ro w D fun w'=>bD w' 2 h W (q6 bv.cells l0)) (Y:W=l0.length) (aD:l0.length≤9223372036854775807) (hr:kM l0=X):
    Calls y4 72 #[.slice h W G] w (dR fun v w'=>v=vI X∧Own w D w' []∧(¬ (X=0)∨(1≤l0.length∧l0.length≤6))):=by
 subst Y
 refine cb Tryz.func72 ?_
 refine sr (An rfl (FU (sr (Mz rfl (Kz (vJ l0.length) (Kz (.bool (decide (((l0.length:Nat):Int) < 1))) (Mz rfl ?_)))))))
 by_cases g:((l0.length:Nat):Int) < 1
 refine Sz (dT g) (Sz (dT g) (Sz (dT g) (fw (.bool true) (Gb rfl (dT g) rfl) (Mz rfl (Sz rfl (Sz rfl (Sz rfl (Sz rfl (Sz rfl (fw (.bool true) (Gb rfl rfl rfl) (nt (jt (sr (An rfl (rt (tR (rs ?_)))))))))))))))))
 have Z:=H.pk []
 obtain rfl:_=170:=hr.symm.trans (ip g)
 exact⟨rfl,Z,e6⟩
 refine gw (.slice h l0.length G) (dF g) (F7 rfl) (Gz (vJ l0.length) (dF g) (Gz (.bool (decide (((l0.length:Nat):Int) > 6))) (dF g) (fw (.bool (decide (((l0.length:Nat):Int) > 6))) (FX rfl (dF g) rfl) (Mz rfl ?_))))
 by_cases d:((l0.length:Nat):Int) > 6
 refine Sz (dT d) (Sz (dT d) (Sz (dT d) (Sz (dT d) (Sz (dT d) (fw (.bool true) (Gb rfl (dT d) rfl) (nt (jt (sr (An rfl (rt (tR (rs ?_))))))))))))
 have aa:=H.pk []
 obtain rfl:_=170:=hr.symm.trans (et (iN g) (ip d))
 exact⟨rfl,aa,e6⟩
 refine gw (.slice h l0.length G) (dF d) (F7 rfl) ?_
 obtain⟨C,l⟩:=dK (ls:=l0) (i:=0) bv.len f3 (H.ro j) e9
 refine gw (.pointer (some ⟨ab h,ao h+0 *2,none⟩)) (dF d) (FZ (qy) rfl rfl ((H.ro j).addr (i:=0) e6) e6) (Gz (.pointer (some ⟨ab h,ao h+0 *2,none⟩)) (dF d) (gw (.string ⟨y6 C.bK⟩) (dF d) (F5 rfl (bZ.one C4 (((H.ro j).elem bv.len l f3).at_ (k:=0) rfl))) (gw (.bool (decide (C.bK≠([])))) (dF d) (Hm rfl rfl) (fw (.bool (decide (C.bK≠([])))) (FX rfl (dF d) rfl) (nt ?_)))))
 by_cases r:C.bK≠([])
 refine jT (dT r) (sr (An rfl (rt (tR (rs ?_)))))
 have ae:=H.pk []
 obtain rfl:_=170:=hr.symm.trans (et (iN g) (et (iN d) (et (ai (bJ l)) (ip r))))
 exact⟨rfl,ae,e6⟩
 refine jF (dF r) (sk (FU (sr (Mz rfl (Kz (vJ l0.length) (Mn rfl (bo ?_)))))))
 have af:=H.pk []
 obtain⟨ag,u⟩:=mX fun(a:Nat) (w':World)=>Own w D w' []∧a≤l0.length∧iy l0 l0 0=iy l0 (r6 a l0) a
 refine C5 (fun i:Nat=> [(2,vI 0),(21,vJ i),(20,vJ l0.length),(0, .slice h l0.length G)]) ag (fun i=>l0.length - i) 0 ⟨rfl,rfl,rfl,rfl,trivial⟩ (u.2 ⟨af,e6,rfl⟩) ?_
 rintro a aF L
 obtain⟨z,ay,m⟩:=u.1 L
 refine sr (Kz (.bool (decide (((a:Nat):Int) < ((l0.length:Nat):Int)))) (nt (FU ?_)))
 by_cases M:((a:Nat):Int) < ((l0.length:Nat):Int)
 obtain⟨f,x⟩:=dK (ls:=l0) (i:=a) bv.len f3 (z.ro j) e9
 have o:=drop_at x
 refine jT (dT M) (sk (FU (bo (sr (Mz rfl (An rfl (FU (sr (Mz rfl (Mz rfl (fw (.pointer (some ⟨ab h,ao h+a *2,none⟩)) (FZ (qy) rfl rfl ((z.ro j).addr (i:=a) e6) e6) (Kz (.pointer (some ⟨ab h,ao h+a *2+1,none⟩)) (fw (vI f.dV) (F5 rfl (bZ.one C6 (((z.ro j).elem bv.len x f3).at_ (k:=1) rfl))) ?_)))))))))))))
 obtain⟨K,n⟩:∃ q,rQ f.dV=q:=⟨_,rfl⟩
 obtain⟨aG,N,az,O,aA⟩:=FY z
 refine cl Tryz.call111 (wR _ _ f.dV K N n) ?_
 rintro _ aH ⟨rfl,P⟩
 have Q:=O _ _ P
 refine Kz (.bool (!K)) (nt ?_)
 rcases JQ (K) with p | p
 refine jF (cn p) (sk (FU ?_))
 refine FM [] (F8 (bP.block (F8 (F8 (bP.block (F8 Gh)))))) Q ?_
 intro aI R
 refine qv 0 rfl rfl (qk (.bool (decide (((a:Nat):Int) > 0))) 1 rfl (qv 2 rfl rfl ?_))
 by_cases c:((a:Nat):Int) > 0
 refine F6 (v:= .slice h l0.length G) (rs:= []) 3 rfl rfl rfl (dT c) e7 (fun _ _=>F7 rfl) (F6 (v:=vJ a) (rs:= []) 4 rfl rfl rfl (dT c) e7 (fun _ _=>F7 rfl) (F6 (v:= .pointer (some ⟨ab h,ao h+a *2,none⟩)) (rs:= []) 5 rfl rfl rfl (dT c) e7 (fun _ ⟨_,A⟩=>FZ (qy) rfl rfl ((A.ro j).addr (i:=a) e6) e6) (F6 (v:= .pointer (some ⟨ab h,ao h+a *2,none⟩)) (rs:= []) 6 rfl rfl rfl (dT c) e7 (fun _ _=>yk) (F6 (v:= .string ⟨y6 f.bK⟩) (rs:= []) 7 rfl rfl rfl (dT c) e7 (fun _ ⟨_,A⟩=>F5 rfl (bZ.one C4 (((A.ro j).elem bv.len x f3).at_ (k:=0) rfl))) ?_))))
 obtain⟨s,y⟩:∃ q,gF f.bK=q:=⟨_,rfl⟩
 obtain⟨aJ,S,aB,T,aC⟩:=FY R
 refine Hq 8 rfl rfl rfl (dT c) e7 (Gd Tryz.call112 rfl (ku _ _ f.bK s S y) ?_)
 rintro _ aK ⟨rfl,U,I,J⟩
 have E:=T _ _ U
 replace I: ¬ (s=0)∨(1≤f.bK.length∧f.bK.length≤12):=I
 replace J:f.bK.length < 1∨f.bK.length > 12∨s=0:=J
 refine⟨.inr ⟨_,E⟩, ?_⟩
 refine F6 (v:= .bool (decide (¬ (s=0)))) (rs:= []) 9 rfl rfl rfl (dT c) e7 (fun _ _=>Gi (e:= !(decide (s=0))) yk decide_not.symm) (F6 (v:= .bool (decide (¬ (s=0)))) (rs:= []) 10 rfl rfl rfl (dT c) e7 (fun _ _=>F7 rfl) ?_)
 by_cases b:s=0
 refine F6 (v:= .slice h l0.length G) (rs:= []) 11 rfl rfl rfl (dF (JP b)) e7 (fun _ _=>F7 rfl) (F6 (v:=vJ a) (rs:= []) 12 rfl rfl rfl (dF (JP b)) e7 (fun _ _=>F7 rfl) (F6 (v:= .pointer (some ⟨ab h,ao h+a *2,none⟩)) (rs:= []) 13 rfl rfl rfl (dF (JP b)) e7 (fun _ ⟨_,A⟩=>FZ (qy) rfl rfl ((A.ro j).addr (i:=a) e6) e6) (F6 (v:= .pointer (some ⟨ab h,ao h+a *2,none⟩)) (rs:= []) 14 rfl rfl rfl (dF (JP b)) e7 (fun _ _=>yk) (F6 (v:= .string ⟨y6 f.bK⟩) (rs:= []) 15 rfl rfl rfl (dF (JP b)) e7 (fun _ ⟨_,A⟩=>F5 rfl (bZ.one C4 (((A.ro j).elem bv.len x f3).at_ (k:=0) rfl))) (F6 (v:= .slice h l0.length G) (rs:= []) 16 rfl rfl rfl (dF (JP b)) e7 (fun _ _=>F7 rfl) (F6 (v:=vJ a) (rs:= []) 17 rfl rfl rfl (dF (JP b)) e7 (fun _ _=>F7 rfl) (F6 (v:=vJ (a - 1)) (rs:= []) 18 rfl rfl rfl (dF (JP b)) e7 (fun _ _=>FV (e:=C7.wrap (((a:Nat):Int) - 1)) yk f1) ?_)))))))
 obtain⟨t,B⟩:=jo (ls:=l0) (i:=a - 1) e9
 refine F6 (v:= .pointer (some ⟨ab h,ao h+(a - 1) *2,none⟩)) (rs:= []) 19 rfl rfl rfl (dF (JP b)) e7 (fun _ ⟨_,A⟩=>FZ (qy) rfl rfl ((A.ro j).addr (i:=a - 1) e6) e6) (F6 (v:= .pointer (some ⟨ab h,ao h+(a - 1) *2,none⟩)) (rs:= []) 20 rfl rfl rfl (dF (JP b)) e7 (fun _ _=>yk) (F6 (v:= .string ⟨y6 t.bK⟩) (rs:= []) 21 rfl rfl rfl (dF (JP b)) e7 (fun _ ⟨_,A⟩=>F5 rfl (bZ.one C4 (((A.ro j).elem bv.len B f3).at_ (k:=0) rfl))) (F6 (v:= .bool (decide (f.bK≤t.bK))) (rs:= []) 22 rfl rfl rfl (dF (JP b)) e7 (fun _ _=>Gi (e:=Op.bytesLess f.bK t.bK || decide (f.bK=t.bK)) (Hy rfl rfl) (za _ _)) (F6 (v:= .bool (decide (f.bK≤t.bK))) (rs:= []) 23 rfl rfl rfl (dT c) e7 (fun _ _=>FX rfl (dF (JP b)) rfl) (qt (v:= .bool (decide (f.bK≤t.bK))) 24 rfl (fun _ _=>Gb rfl (dT c) rfl) (qn (FW ?_)))))))
 by_cases F:f.bK≤t.bK
 refine jT (dT F) (sr (An rfl (rt (bR (tR (tR (bR (tR (rs ?_)))))))))
 have ah:=E.pk []
 obtain rfl:_=170:=hr.symm.trans (et (iN g) (et (iN d) (et (ai (bJ l)) (et (iN r) (jq (et (m) (et (congrArg (fun q=>iy l0 q a) o) (et (ai n) (et (ip p) (et (ip c) (et (ai y) (et (ip b) (et (ai (bJ B)) (ip F))))))))))))))
 exact⟨rfl,ah,e6⟩
 refine jF (dF F) (Gj (bN (FW (FT (fw (vJ (a+1)) (FV (e:=C7.wrap (((a:Nat):Int)+1)) yk f1) (Mz rfl (D0 ?_)))))))
 have aj:=E.pk []
 exact F9 (a+1) ⟨rfl,rfl,rfl,rfl,trivial⟩ (u.2 ⟨aj,e6,et (m) (et (congrArg (fun q=>iy l0 q a) o) (et (ai n) (et (ip p) (et (ip c) (et (ai y) (et (ip b) (et (ai (bJ B)) (iN F))))))))⟩) (by show l0.length - (a+1) < l0.length - a; omega)
 refine F3 (rs:= []) 11 rfl rfl rfl (dT b) e7 (F3 (rs:= []) 12 rfl rfl rfl (dT b) e7 (F3 (rs:= []) 13 rfl rfl rfl (dT b) e7 (F3 (rs:= []) 14 rfl rfl rfl (dT b) e7 (F3 (rs:= []) 15 rfl rfl rfl (dT b) e7 (F3 (rs:= []) 16 rfl rfl rfl (dT b) e7 (F3 (rs:= []) 17 rfl rfl rfl (dT b) e7 (F3 (rs:= []) 18 rfl rfl rfl (dT b) e7 (F3 (rs:= []) 19 rfl rfl rfl (dT b) e7 (F3 (rs:= []) 20 rfl rfl rfl (dT b) e7 (F3 (rs:= []) 21 rfl rfl rfl (dT b) e7 (F3 (rs:= []) 22 rfl rfl rfl (dT b) e7 (F6 (v:= .bool true) (rs:= []) 23 rfl rfl rfl (dT c) e7 (fun _ _=>Gb rfl (dT b) rfl) (qt (v:= .bool true) 24 rfl (fun _ _=>Gb rfl (dT c) rfl) (qn (FW (jt (sr (An rfl (rt (bR (tR (tR (bR (tR (rs ?_)))))))))))))))))))))))))
 have ak:=E.pk []
 obtain rfl:_=170:=hr.symm.trans (et (iN g) (et (iN d) (et (ai (bJ l)) (et (iN r) (jq (et (m) (et (congrArg (fun q=>iy l0 q a) o) (et (ai n) (et (ip p) (et (ip c) (et (ai y) (iN b))))))))))))
 exact⟨rfl,ak,e6⟩
 refine F3 (rs:= []) 3 rfl rfl rfl (dF c) e7 (F3 (rs:= []) 4 rfl rfl rfl (dF c) e7 (F3 (rs:= []) 5 rfl rfl rfl (dF c) e7 (F3 (rs:= []) 6 rfl rfl rfl (dF c) e7 (F3 (rs:= []) 7 rfl rfl rfl (dF c) e7 (F3 (rs:= []) 8 rfl rfl rfl (dF c) e7 (F3 (rs:= []) 9 rfl rfl rfl (dF c) e7 (F3 (rs:= []) 10 rfl rfl rfl (dF c) e7 (Gx (rs:= []) 11 rfl rfl rfl e7 (Gx (rs:= []) 12 rfl rfl rfl e7 (Gx (rs:= []) 13 rfl rfl rfl e7 (Gx (rs:= []) 14 rfl rfl rfl e7 (Gx (rs:= []) 15 rfl rfl rfl e7 (Gx (rs:= []) 16 rfl rfl rfl e7 (Gx (rs:= []) 17 rfl rfl rfl e7 (Gx (rs:= []) 18 rfl rfl rfl e7 (Gx (rs:= []) 19 rfl rfl rfl e7 (Gx (rs:= []) 20 rfl rfl rfl e7 (Gx (rs:= []) 21 rfl rfl rfl e7 (Gx (rs:= []) 22 rfl rfl rfl e7 (F3 (rs:= []) 23 rfl rfl rfl (dF c) e7 (qt (v:= .bool false) 24 rfl (fun _ _=>FX rfl (dF c) rfl) (qn (FW (jf (Gj (bN (FW (FT (fw (vJ (a+1)) (FV (e:=C7.wrap (((a:Nat):Int)+1)) yk f1) (Mz rfl (D0 ?_)))))))))))))))))))))))))))))))
 have au:=R.pk []
 exact F9 (a+1) ⟨rfl,rfl,rfl,rfl,trivial⟩ (u.2 ⟨au,e6,et (m) (et (congrArg (fun q=>iy l0 q a) o) (et (ai n) (et (ip p) (iN c))))⟩) (by show l0.length - (a+1) < l0.length - a; omega)
 refine jT (cn p) (sr (An rfl (rt (tR (bR (tR (tR (bR (tR (rs ?_))))))))))
 have av:=Q.pk []
 obtain rfl:_=170:=hr.symm.trans (et (iN g) (et (iN d) (et (ai (bJ l)) (et (iN r) (jq (et (m) (et (congrArg (fun q=>iy l0 q a) o) (et (ai n) (gB p)))))))))
 exact⟨rfl,av,e6⟩
 refine jF (dF M) (D1 (F4 ?_))
 have V:iy l0 l0 0=C1 ():=et (m) (et (congrArg (fun q=>iy l0 q a) (eZ (ls:=l0) (i:=a) e6)) rfl)
 refine F4 (Gg (FW (sr (An rfl (rt (rs ?_))))))
 have ax:=z.pk []
 obtain rfl:_=0:=hr.symm.trans (et (iN g) (et (iN d) (et (ai (bJ l)) (et (iN r) (nS V)))))
 exact⟨rfl,ax,e6⟩
def jv (c:dC):List bv→Unit ⊕ Bool
  | []=>C1 ()
  | a::b=>if a.dV > c.av then C3 (false) else jv c b
def nV (b:dC):Bool:=
 bnd (kM b.ag.ls) fun a=>if a=0 then lp (jv b b.ag.ls) fun _=>true else false
set_option maxHeartbeats 1000000 in
theorem uS (w:World) (D:Nat→Prop) (a:dC) (b:Option Addr) (E f:Nat) (h:Option Addr) (F j:Nat) (p:List aA) (k:Option Addr) (G l:Nat) (r:List aZ) (r0:Bool) (H:Own w D w []) (L:E=a.ag.ls.length) (g:Ro w D fun w'=>bD w' 2 b a.ag.ls.length (q6 bv.cells a.ag.ls)) (ag:a.ag.ls.length≤f∧a.ag.ls.length≤9223372036854775807) (M:s8 aA.abs p=a.aj.ls) (N:F=a.aj.ls.length) (ah:Ro w D fun w'=>bD w' 5 h a.aj.ls.length (q6 aA.cells p)) (aj:a.aj.ls.length≤j∧a.aj.ls.length≤9223372036854775807) (ak:∀ x ∈ p,Ro w D (fun w'=>bD w' 1 x.av.A x.av.ls.length (q6 (eI .i64) x.av.ls))∧(x.av.ls.length≤x.av.c∧x.av.ls.length≤9223372036854775807)) (O:s8 aZ.abs r=a.aI.ls) (P:G=a.aI.ls.length) (au:Ro w D fun w'=>bD w' 4 k a.aI.ls.length (q6 aZ.cells r)) (av:a.aI.ls.length≤l∧a.aI.ls.length≤9223372036854775807) (ax:∀ x ∈ r,Ro w D (fun w'=>bD w' 3 x.ah.A x.ah.ls.length (q6 af.cells x.ah.ls))∧(x.ah.ls.length≤x.ah.c∧x.ah.ls.length≤9223372036854775807)∧(∀ R ∈ x.ah.ls,Ro w D (fun w'=>bD w' 2 R.au.A R.au.ls.length (q6 aL.cells R.au.ls))∧(R.au.ls.length≤R.au.c∧R.au.ls.length≤9223372036854775807))) (aN:a.ag.ls.length≤140737488355328∧a.aj.ls.length≤140737488355328∧a.aI.ls.length≤140737488355328) (hr:nV a=r0):
    Calls y4 41 #[.agg #[vI a.av,vU a.ax,vU a.bf,vU a.aK, .slice b E f, .slice h F j, .slice k G l]] w (dR fun v w'=>v= .bool r0∧Own w D w' []):=by
 subst L N P
 have aa:=az M
 have ae:=az O
 refine cb Tryz.func41 ?_
 refine sr ?_
 refine dM [vI a.av,vU a.ax,vU a.bf,vU a.aK, .slice b a.ag.ls.length f, .slice h a.aj.ls.length j, .slice k a.aI.ls.length l] 33 H ?_
 intro n aO S
 refine An rfl (FU (sr (Kz (vP n 4) (Lz (.slice b a.ag.ls.length f) S 0 Tryz.isAgg29 ?_))))
 obtain⟨s,m⟩:∃ q,kM a.ag.ls=q:=⟨_,rfl⟩
 obtain⟨aP,T,U,V,aK⟩:=FY S
 refine cl Tryz.call72 (qQ _ _ b a.ag.ls.length f a.ag.ls s T (U _ g) rfl e6 m) ?_
 rintro _ aQ ⟨rfl,W,I⟩
 have Q:=V _ _ W
 replace I: ¬ (s=0)∨(1≤a.ag.ls.length∧a.ag.ls.length≤6):=I
 refine fw (.bool (decide (¬ (s=0)))) (Gi (e:= !(decide (s=0))) yk decide_not.symm) (nt ?_)
 by_cases t:s=0
 refine jF (dF (JP t)) (sk (FU (sr (Kz (vP n 4) (Lz (.slice b a.ag.ls.length f) Q 0 Tryz.isAgg29 (Kz (vJ a.ag.ls.length) (Mn rfl (bo ?_))))))))
 have ay:=Q.pf []
 obtain⟨aB,u⟩:=mX fun(d:Nat) (w':World)=>Own w D w' [blk n [vI a.av,vU a.ax,vU a.bf,vU a.aK, .slice b a.ag.ls.length f, .slice h a.aj.ls.length j, .slice k a.aI.ls.length l] 33]∧d≤a.ag.ls.length∧jv a a.ag.ls=jv a (r6 d a.ag.ls)
 refine C5 (fun i:Nat=> [(2, .bool false),(12,vJ i),(11,vJ a.ag.ls.length),(10, .slice b a.ag.ls.length f),(1,vP n 0)]) aB (fun i=>a.ag.ls.length - i) 0 ⟨rfl,rfl,rfl,rfl,rfl,trivial⟩ (u.2 ⟨ay,e6,rfl⟩) ?_
 rintro d aR X
 obtain⟨y,aM,z⟩:=u.1 X
 refine sr (Kz (.bool (decide (((d:Nat):Int) < ((a.ag.ls.length:Nat):Int)))) (nt (FU ?_)))
 by_cases Y:((d:Nat):Int) < ((a.ag.ls.length:Nat):Int)
 obtain⟨o,J⟩:=dK (ls:=a.ag.ls) (i:=d) bv.len f3 (y.ro g) e9
 have K:=drop_at J
 refine jT (dT Y) (sk (FU (bo (sr (fw (.pointer (some ⟨ab b,ao b+d *2,none⟩)) (FZ (qy) rfl rfl ((y.ro g).addr (i:=d) e6) e6) (fw (.agg (bv.cells o).toArray) (F5 rfl (Gc (cs:=(bv.cells o)) Tryz.isAgg89 Tryz.sizeOf89 ((y.ro g).elem bv.len J f3))) ?_))))))
 refine dM [.string ⟨y6 ([])⟩,vI 0] 89 y ?_
 intro aC aS aD
 refine dN (bv.cells o) 0 aD Tryz.sizeOf89 ?_
 intro aT B
 refine ns (Kz (vP aC 1) (Lz (vI o.dV) B 0 C6 (Kz (vP n 0) (Lz (vI a.av) B 1 C6 (Kz (.bool (decide (o.dV > a.av))) (nt ?_))))))
 by_cases C:o.dV > a.av
 refine jT (dT C) (sr (An rfl (rt (bR (tR (tR (bR (tR (rs ?_)))))))))
 have aF:=B.pk []
 obtain rfl:_=false:=hr.symm.trans (et (ai m) (et (ip t) (jq (et (z) (et (congrArg (fun q=>jv a q) K) (ip C))))))
 exact⟨rfl,aF⟩
 refine jF (dF C) (Gj (bN (FW (FT (fw (vJ (d+1)) (FV (e:=C7.wrap (((d:Nat):Int)+1)) yk f1) (Mz rfl (D0 ?_)))))))
 have aG:=B.pk [1]
 exact F9 (d+1) ⟨rfl,rfl,rfl,rfl,rfl,trivial⟩ (u.2 ⟨aG,e6,et (z) (et (congrArg (fun q=>jv a q) K) (iN C))⟩) (by show a.ag.ls.length - (d+1) < a.ag.ls.length - d; omega)
 refine jF (dF Y) (D1 (F4 ?_))
 have Z:jv a a.ag.ls=C1 ():=et (z) (et (congrArg (fun q=>jv a q) (eZ (ls:=a.ag.ls) (i:=d) e6)) rfl)
 refine F4 (Gg (FW (sr (An rfl (rt (rs ?_))))))
 have aH:=y.pk []
 obtain rfl:_=true:=hr.symm.trans (et (ai m) (et (ip t) (nS Z)))
 exact⟨rfl,aH⟩
 refine jT (dT t) (sr (An rfl (rt (tR (rs ?_)))))
 have aI:=Q.pk []
 obtain rfl:_=false:=hr.symm.trans (et (ai m) (iN t))
 exact⟨rfl,aI⟩
def dP (h:dC) (c:Nat) (b:bM):List Int→Nat→Unit ⊕ Bool
  | [],a=>C1 ()
  | d::e,a=>bnd (iJ d h.av) fun f=>if f=true then if((a:Nat):Int) > 0 then bnd (C2 b.av.ls (a - 1) default) fun g=>if d≤g then C3 (false) else dP h c b e (a+1) else dP h c b e (a+1) else C3 (false)
def gu (h:dC) (g:Nat) (d:bM):List Int→Nat→Unit ⊕ Bool
  | [],a=>C1 ()
  | b::c,a=>bnd (iJ b h.av) fun e=>if e=true then if((a:Nat):Int) > 0 then bnd (C2 d.av.ls (a - 1) default) fun f=>if b≤f then C3 (false) else gu h g d c (a+1) else gu h g d c (a+1) else C3 (false)
def dL (c:dC):List bM→Nat→Unit ⊕ Bool
  | [],b=>C1 ()
  | a::e,b=>if((b:Nat):Int) > 0 then bnd (C2 c.aj.ls (b - 1) default) fun f=>if((a.bi:Nat):Int)≤((f.bi:Nat):Int) then C3 (false) else if((a.bi:Nat):Int) ≥ ((fD (D2 (D3.wrap (((c.ax:Nat):Int)+1))) 32:Nat):Int) then C3 (false) else bnd (iJ a.aS 4) fun g=>if g=true then if((a.av.ls.length:Nat):Int)=0 then C3 (false) else sI (dP c b a a.av.ls 0) fun _=>dL c e (b+1) else C3 (false) else if((a.bi:Nat):Int) ≥ ((fD (D2 (D3.wrap (((c.ax:Nat):Int)+1))) 32:Nat):Int) then C3 (false) else bnd (iJ a.aS 4) fun d=>if d=true then if((a.av.ls.length:Nat):Int)=0 then C3 (false) else sI (gu c b a a.av.ls 0) fun _=>dL c e (b+1) else C3 (false)
def nC (a:dC):Bool:=
 if((a.aj.ls.length:Nat):Int) > 8 then false else lp (dL a a.aj.ls 0) fun _=>true
set_option maxHeartbeats 1000000 in
theorem uD (w:World) (D:Nat→Prop) (d:dC) (S:Option Addr) (aX T:Nat) (f:Option Addr) (aY p:Nat) (ag:List aA) (U:Option Addr) (bf V:Nat) (aO:List aZ) (r0:Bool) (H:Own w D w []) (bn:aX=d.ag.ls.length) (dO:Ro w D fun w'=>bD w' 2 S d.ag.ls.length (q6 bv.cells d.ag.ls)) (dQ:d.ag.ls.length≤T∧d.ag.ls.length≤9223372036854775807) (aB:s8 aA.abs ag=d.aj.ls) (bq:aY=d.aj.ls.length) (O:Ro w D fun w'=>bD w' 5 f d.aj.ls.length (q6 aA.cells ag)) (dS:d.aj.ls.length≤p∧d.aj.ls.length≤9223372036854775807) (o:∀ x ∈ ag,Ro w D (fun w'=>bD w' 1 x.av.A x.av.ls.length (q6 (eI .i64) x.av.ls))∧(x.av.ls.length≤x.av.c∧x.av.ls.length≤9223372036854775807)) (bu:s8 aZ.abs aO=d.aI.ls) (bz:bf=d.aI.ls.length) (dU:Ro w D fun w'=>bD w' 4 U d.aI.ls.length (q6 aZ.cells aO)) (dV:d.aI.ls.length≤V∧d.aI.ls.length≤9223372036854775807) (dW:∀ x ∈ aO,Ro w D (fun w'=>bD w' 3 x.ah.A x.ah.ls.length (q6 af.cells x.ah.ls))∧(x.ah.ls.length≤x.ah.c∧x.ah.ls.length≤9223372036854775807)∧(∀ y1 ∈ x.ah.ls,Ro w D (fun w'=>bD w' 2 y1.au.A y1.au.ls.length (q6 aL.cells y1.au.ls))∧(y1.au.ls.length≤y1.au.c∧y1.au.ls.length≤9223372036854775807))) (fM:d.ag.ls.length≤140737488355328∧d.aj.ls.length≤140737488355328∧d.aI.ls.length≤140737488355328) (hr:nC d=r0):
    Calls y4 42 #[.agg #[vI d.av,vU d.ax,vU d.bf,vU d.aK, .slice S aX T, .slice f aY p, .slice U bf V]] w (dR fun v w'=>v= .bool r0∧Own w D w' []):=by
 subst bn bq bz
 have dI:=az aB
 have dJ:=az bu
 refine cb Tryz.func42 ?_
 refine sr ?_
 refine dM [vI d.av,vU d.ax,vU d.bf,vU d.aK, .slice S d.ag.ls.length T, .slice f d.aj.ls.length p, .slice U d.aI.ls.length V] 33 H ?_
 intro y fO aW
 refine An rfl (FU (sr (Kz (vP y 5) (Lz (.slice f d.aj.ls.length p) aW 0 D4 (Kz (vJ d.aj.ls.length) (Kz (.bool (decide (((d.aj.ls.length:Nat):Int) > 8))) (nt ?_)))))))
 by_cases G:((d.aj.ls.length:Nat):Int) > 8
 refine jT (dT G) (sr (An rfl (rt (tR (rs ?_)))))
 have dX:=aW.pk []
 obtain rfl:_=false:=hr.symm.trans (ip G)
 exact⟨rfl,dX⟩
 refine jF (dF G) (sk (FU (sr (Kz (vP y 5) (Lz (.slice f d.aj.ls.length p) aW 0 D4 (Kz (vJ d.aj.ls.length) (Mn rfl (bo ?_))))))))
 have dY:=aW.pf []
 obtain⟨dZ,aG⟩:=mX fun(b:Nat) (w':World)=>Own w D w' [blk y [vI d.av,vU d.ax,vU d.bf,vU d.aK, .slice S d.ag.ls.length T, .slice f d.aj.ls.length p, .slice U d.aI.ls.length V] 33]∧b≤d.aj.ls.length∧dL d d.aj.ls 0=dL d (r6 b d.aj.ls) b
 refine C5 (fun i:Nat=> [(2, .bool false),(14,vJ i),(13,vJ d.aj.ls.length),(12, .slice f d.aj.ls.length p),(1,vP y 0)]) dZ (fun i=>d.aj.ls.length - i) 0 ⟨rfl,rfl,rfl,rfl,rfl,trivial⟩ (aG.2 ⟨dY,e6,rfl⟩) ?_
 rintro b fP bQ
 obtain⟨aP,eX,z⟩:=aG.1 bQ
 refine sr (Kz (.bool (decide (((b:Nat):Int) < ((d.aj.ls.length:Nat):Int)))) (nt (FU ?_)))
 by_cases bS:((b:Nat):Int) < ((d.aj.ls.length:Nat):Int)
 obtain⟨a,t⟩:=dK (ls:=ag) (i:=b) aA.len f3 (aP.ro O) e9
 have bT:=fo aB t
 have eY:=(o _ (E0 t)).2
 have C:=drop_at bT
 refine jT (dT bS) (sk (FU (bo (sr (Mz rfl (fw (.pointer (some ⟨ab f,ao f+b *5,none⟩)) (FZ (kG) rfl rfl ((aP.ro O).addr (i:=b) e6) e6) (fw (.agg (aA.cells a).toArray) (F5 rfl (Gc (cs:=(aA.cells a)) Tryz.isAgg60 Tryz.sizeOf60 ((aP.ro O).elem aA.len t f3))) ?_)))))))
 refine dM [.int .u64 0,vI 0, .int .u64 0, .int .u64 0, .slice none 0 0] 60 aP ?_
 intro j fQ d9
 refine Az rfl ?_
 refine dN (aA.cells a) 0 d9 Tryz.sizeOf60 ?_
 intro fT ed
 refine nt (FU (FU ?_))
 refine pG [] (F8 (F8 (bP.block (F8 (F8 (bP.block (F8 Gh))))))) ed ?_
 intro fU aC
 refine qv 0 rfl rfl (qk (.bool (decide (((b:Nat):Int) > 0))) 1 rfl (qv 2 rfl rfl ?_))
 by_cases l:((b:Nat):Int) > 0
 refine F6 (v:=vP j 0) (rs:= []) 3 rfl rfl rfl (dT l) e7 (fun _ _=>yk) (F6 (v:=vU a.bi) (rs:= []) 4 rfl rfl rfl (dT l) e7 (fun _ ⟨_,H9⟩=>F5 rfl (bZ.one E1 (jL.of (H9.cls (i:=0) rfl) rfl))) (F6 (v:=vP y 5) (rs:= []) 5 rfl rfl rfl (dT l) e7 (fun _ _=>yk) (F6 (v:= .slice f d.aj.ls.length p) (rs:= []) 6 rfl rfl rfl (dT l) e7 (fun _ ⟨_,H9⟩=>F5 rfl (bZ.one D4 (jL.of (H9.cls (i:=1) rfl) rfl))) (F6 (v:=vJ b) (rs:= []) 7 rfl rfl rfl (dT l) e7 (fun _ _=>F7 rfl) (F6 (v:=vJ (b - 1)) (rs:= []) 8 rfl rfl rfl (dT l) e7 (fun _ _=>FV (e:=C7.wrap (((b:Nat):Int) - 1)) yk f1) ?_)))))
 obtain⟨N,aQ⟩:=jo (ls:=ag) (i:=b - 1) e9
 have P:=fo aB aQ
 have fe:=(o _ (E0 aQ)).2
 refine F6 (v:= .pointer (some ⟨ab f,ao f+(b - 1) *5,none⟩)) (rs:= []) 9 rfl rfl rfl (dT l) e7 (fun _ ⟨_,H9⟩=>FZ (kG) rfl rfl ((H9.ro O).addr (i:=b - 1) e6) e6) (F6 (v:= .pointer (some ⟨ab f,ao f+(b - 1) *5,none⟩)) (rs:= []) 10 rfl rfl rfl (dT l) e7 (fun _ _=>yk) (F6 (v:=vU N.bi) (rs:= []) 11 rfl rfl rfl (dT l) e7 (fun _ ⟨_,H9⟩=>F5 rfl (bZ.one E1 (((H9.ro O).elem aA.len aQ f3).at_ (k:=0) rfl))) (F6 (v:= .bool (decide (((a.bi:Nat):Int)≤((N.bi:Nat):Int)))) (rs:= []) 12 rfl rfl rfl (dT l) e7 (fun _ _=>yk) (qt (v:= .bool (decide (((a.bi:Nat):Int)≤((N.bi:Nat):Int)))) 13 rfl (fun _ _=>Gb rfl (dT l) rfl) (qv 14 rfl rfl ?_)))))
 by_cases u:((a.bi:Nat):Int)≤((N.bi:Nat):Int)
 refine F3 (rs:= []) 15 rfl rfl rfl (dT u) e7 (F3 (rs:= []) 16 rfl rfl rfl (dT u) e7 (F3 (rs:= []) 17 rfl rfl rfl (dT u) e7 (F3 (rs:= []) 18 rfl rfl rfl (dT u) e7 (F3 (rs:= []) 19 rfl rfl rfl (dT u) e7 (F3 (rs:= []) 20 rfl rfl rfl (dT u) e7 (F3 (rs:= []) 21 rfl rfl rfl (dT u) e7 (qt (v:= .bool true) 22 rfl (fun _ _=>Gb rfl (dT u) rfl) (qn (FW (jt (sr (An rfl (rt (tR (bR (tR (tR (bR (tR (rs ?_))))))))))))))))))))
 have ek:=aC.pk []
 obtain rfl:_=false:=hr.symm.trans (et (iN G) (jq (et (z) (et (congrArg (fun q=>dL d q b) C) (et (ip l) (et (ai (bJ P)) (ip u)))))))
 exact⟨rfl,ek⟩
 refine F6 (v:=vP j 0) (rs:= []) 15 rfl rfl rfl (dF u) e7 (fun _ _=>yk) (F6 (v:=vU a.bi) (rs:= []) 16 rfl rfl rfl (dF u) e7 (fun _ ⟨_,H9⟩=>F5 rfl (bZ.one E1 (jL.of (H9.cls (i:=0) rfl) rfl))) (F6 (v:=vP y 1) (rs:= []) 17 rfl rfl rfl (dF u) e7 (fun _ _=>yk) (F6 (v:=vU d.ax) (rs:= []) 18 rfl rfl rfl (dF u) e7 (fun _ ⟨_,H9⟩=>F5 rfl (bZ.one E1 (jL.of (H9.cls (i:=1) rfl) rfl))) (F6 (v:= .int .u64 ((D2 (D3.wrap (((d.ax:Nat):Int)+1)):Nat):Int)) (rs:= []) 19 rfl rfl rfl (dF u) e7 (fun _ _=>FV (e:=D3.wrap (((d.ax:Nat):Int)+1)) yk (fC _)) ?_))))
 have fq:fD (D2 (D3.wrap (((d.ax:Nat):Int)+1))) 32≤18446744073709551615:=oO _ _
 refine F6 (v:= .int .u64 ((fD (D2 (D3.wrap (((d.ax:Nat):Int)+1))) 32:Nat):Int)) (rs:= []) 20 rfl rfl rfl (dF u) e7 (fun _ _=>FV (Hw (m:=32) rfl rfl) (fC _)) (F6 (v:= .bool (decide (((a.bi:Nat):Int) ≥ ((fD (D2 (D3.wrap (((d.ax:Nat):Int)+1))) 32:Nat):Int)))) (rs:= []) 21 rfl rfl rfl (dF u) e7 (fun _ _=>yk) (qt (v:= .bool (decide (((a.bi:Nat):Int) ≥ ((fD (D2 (D3.wrap (((d.ax:Nat):Int)+1))) 32:Nat):Int)))) 22 rfl (fun _ _=>FX rfl (dF u) rfl) (qn (FW ?_))))
 by_cases ah:((a.bi:Nat):Int) ≥ ((fD (D2 (D3.wrap (((d.ax:Nat):Int)+1))) 32:Nat):Int)
 refine jT (dT ah) (sr (An rfl (rt (tR (bR (tR (tR (bR (tR (rs ?_))))))))))
 have eu:=aC.pk []
 obtain rfl:_=false:=hr.symm.trans (et (iN G) (jq (et (z) (et (congrArg (fun q=>dL d q b) C) (et (ip l) (et (ai (bJ P)) (et (iN u) (ip ah))))))))
 exact⟨rfl,eu⟩
 refine jF (dF ah) (sk (FU (sr (Kz (vP j 1) (Lz (vI a.aS) aC 0 C6 ?_)))))
 obtain⟨Z,W⟩:∃ q,iJ a.aS 4=q:=⟨_,rfl⟩
 obtain⟨fV,bU,fu,bV,fA⟩:=FY aC
 refine cl E2 (lT _ _ a.aS 4 Z bU W) ?_
 rintro _ fZ ⟨rfl,bW⟩
 have aR:=bV _ _ bW
 refine Kz (.bool (!Z)) (Mz rfl ?_)
 rcases JQ (Z) with F | F
 refine Gz (vP j 4) (cn F) (Gl (.slice a.av.A a.av.ls.length a.av.c) (cn F) aR 0 E3 (Gz (vJ a.av.ls.length) (cn F) (Gz (.bool (decide (((a.av.ls.length:Nat):Int)=0))) (cn F) (fw (.bool (decide (((a.av.ls.length:Nat):Int)=0))) (FX rfl (cn F) rfl) (nt ?_)))))
 by_cases aM:((a.av.ls.length:Nat):Int)=0
 refine jT (dT aM) (sr (An rfl (rt (tR (bR (tR (tR (bR (tR (rs ?_))))))))))
 have eB:=aR.pk []
 obtain rfl:_=false:=hr.symm.trans (et (iN G) (jq (et (z) (et (congrArg (fun q=>dL d q b) C) (et (ip l) (et (ai (bJ P)) (et (iN u) (et (iN ah) (et (ai W) (et (ip F) (ip aM)))))))))))
 exact⟨rfl,eB⟩
 refine jF (dF aM) (sk (sr (Kz (vP j 4) (Lz (.slice a.av.A a.av.ls.length a.av.c) aR 0 E3 (Kz (vJ a.av.ls.length) (Mn rfl (bo ?_)))))))
 have eD:=aR.pf []
 obtain⟨eF,aH⟩:=mX fun(h:Nat) (w':World)=>Own w D w' [blk j (aA.cells a) 60,blk y [vI d.av,vU d.ax,vU d.bf,vU d.aK, .slice S d.ag.ls.length T, .slice f d.aj.ls.length p, .slice U d.aI.ls.length V] 33]∧h≤a.av.ls.length∧dP d b (aA.abs a) a.av.ls 0=dP d b (aA.abs a) (r6 h a.av.ls) h
 refine C5 (fun i:Nat=> [(2, .bool false),(55,vJ i),(54,vJ a.av.ls.length),(53, .slice a.av.A a.av.ls.length a.av.c),(52,vP j 4),(51, .bool (decide (((a.av.ls.length:Nat):Int)=0))),(50, .bool (decide (((a.av.ls.length:Nat):Int)=0))),(49,vJ a.av.ls.length),(48, .slice a.av.A a.av.ls.length a.av.c),(47,vP j 4),(46, .bool (!Z)),(45, .bool (!Z)),(44, .bool Z),(43,vI a.aS),(42,vP j 1),(41, .bool (decide (((a.bi:Nat):Int) ≥ ((fD (D2 (D3.wrap (((d.ax:Nat):Int)+1))) 32:Nat):Int)))),(40, .bool (decide (((a.bi:Nat):Int) ≥ ((fD (D2 (D3.wrap (((d.ax:Nat):Int)+1))) 32:Nat):Int)))),(39, .int .u64 ((fD (D2 (D3.wrap (((d.ax:Nat):Int)+1))) 32:Nat):Int)),(38, .int .u64 ((D2 (D3.wrap (((d.ax:Nat):Int)+1)):Nat):Int)),(37,vU d.ax),(36,vP y 1),(35,vU a.bi),(34,vP j 0),(33, .bool (decide (((a.bi:Nat):Int)≤((N.bi:Nat):Int)))),(32, .bool (decide (((a.bi:Nat):Int)≤((N.bi:Nat):Int)))),(31, .bool (decide (((a.bi:Nat):Int)≤((N.bi:Nat):Int)))),(30,vU N.bi),(29, .pointer (some ⟨ab f,ao f+(b - 1) *5,none⟩)),(28, .pointer (some ⟨ab f,ao f+(b - 1) *5,none⟩)),(27,vJ (b - 1)),(26,vJ b),(25, .slice f d.aj.ls.length p),(24,vP y 5),(23,vU a.bi),(22,vP j 0),(21, .bool (decide (((b:Nat):Int) > 0))),(20, .bool (decide (((b:Nat):Int) > 0))),(19,vJ b),(3,vJ b),(4,vP j 0),(18, .agg (aA.cells a).toArray),(17, .pointer (some ⟨ab f,ao f+b *5,none⟩)),(16,vJ b),(15, .bool (decide (((b:Nat):Int) < ((d.aj.ls.length:Nat):Int)))),(14,vJ b),(13,vJ d.aj.ls.length),(12, .slice f d.aj.ls.length p),(1,vP y 0)]) eF (fun i=>a.av.ls.length - i) 0 ⟨rfl,rfl,rfl,rfl,rfl,rfl,rfl,rfl,rfl,rfl,rfl,rfl,rfl,rfl,rfl,rfl,rfl,rfl,rfl,rfl,rfl,rfl,rfl,rfl,rfl,rfl,rfl,rfl,rfl,rfl,rfl,rfl,rfl,rfl,rfl,rfl,rfl,rfl,rfl,rfl,rfl,rfl,rfl,rfl,rfl,rfl,rfl,rfl,trivial⟩ (aH.2 ⟨eD,e6,rfl⟩) ?_
 rintro h gm bX
 obtain⟨aN,fB,aj⟩:=aH.1 bX
 refine sr (Kz (.bool (decide (((h:Nat):Int) < ((a.av.ls.length:Nat):Int)))) (nt (FU ?_)))
 by_cases bY:((h:Nat):Int) < ((a.av.ls.length:Nat):Int)
 obtain⟨ak,bg⟩:=dK (ls:=a.av.ls) (i:=h) iI f3 (aN.ro (o _ (E0 t)).1) e9
 have aI:=drop_at bg
 refine jT (dT bY) (sk (FU (bo (sr (Mz rfl (fw (.pointer (some ⟨ab a.av.A,ao a.av.A+h *1,none⟩)) (FZ (ng) rfl rfl ((aN.ro (o _ (E0 t)).1).addr (i:=h) e6) e6) (fw (vI ak) (F5 rfl (bZ.one C6 (((aN.ro (o _ (E0 t)).1).elem iI bg f3).at_ (k:=0) rfl))) (Az rfl (Ar rfl (Mz rfl (Kz (vP y 0) (Lz (vI d.av) aN 1 C6 ?_))))))))))))
 obtain⟨bA,au⟩:∃ q,iJ ak d.av=q:=⟨_,rfl⟩
 obtain⟨gp,cu,fE,cz,fF⟩:=FY aN
 refine cl E2 (lT _ _ ak d.av bA cu au) ?_
 rintro _ gq ⟨rfl,cB⟩
 have av:=cz _ _ cB
 refine Kz (.bool (!bA)) (Mz rfl ?_)
 rcases JQ (bA) with E | E
 refine gw (vJ h) (cn E) (F7 rfl) (Gz (.bool (decide (((h:Nat):Int) > 0))) (cn E) (gw (.bool (decide (((h:Nat):Int) > 0))) (cn E) (F7 rfl) ?_))
 by_cases B:((h:Nat):Int) > 0
 refine gw (vI ak) (dT B) (F7 rfl) (Gz (vP j 4) (dT B) (Gl (.slice a.av.A a.av.ls.length a.av.c) (dT B) av 0 E3 (gw (vJ h) (dT B) (F7 rfl) (gw (vJ (h - 1)) (dT B) (FV (e:=C7.wrap (((h:Nat):Int) - 1)) yk f1) ?_))))
 obtain⟨aS,aT⟩:=dK (ls:=a.av.ls) (i:=h - 1) iI f3 (av.ro (o _ (E0 t)).1) e9
 refine gw (.pointer (some ⟨ab a.av.A,ao a.av.A+(h - 1) *1,none⟩)) (dT B) (FZ (ng) rfl rfl ((av.ro (o _ (E0 t)).1).addr (i:=h - 1) e6) e6) (gw (vI aS) (dT B) (F5 rfl (bZ.one C6 (((av.ro (o _ (E0 t)).1).elem iI aT f3).at_ (k:=0) rfl))) (Gz (.bool (decide (ak≤aS))) (dT B) (gw (.bool (decide (ak≤aS))) (cn E) (Gb rfl (dT B) rfl) (fw (.bool (decide (ak≤aS))) (FX rfl (cn E) rfl) (nt ?_)))))
 by_cases aJ:ak≤aS
 refine jT (dT aJ) (sr (An rfl (rt (bR (tR (tR (bR (bR (tR (tR (bR (tR (rs ?_)))))))))))))
 have cK:=av.pk []
 obtain rfl:_=false:=hr.symm.trans (et (iN G) (jq (et (z) (et (congrArg (fun q=>dL d q b) C) (et (ip l) (et (ai (bJ P)) (et (iN u) (et (iN ah) (et (ai W) (et (ip F) (et (iN aM) (qm (et (aj) (et (congrArg (fun q=>dP d b (aA.abs a) q h) aI) (et (ai au) (et (ip E) (et (ip B) (et (ai (bJ aT)) (ip aJ)))))))))))))))))))
 exact⟨rfl,cK⟩
 refine jF (dF aJ) (Gj (bN (FW (FT (fw (vJ (h+1)) (FV (e:=C7.wrap (((h:Nat):Int)+1)) yk f1) (Mz rfl (D0 ?_)))))))
 have cO:=av.pf []
 exact F9 (h+1) ⟨rfl,rfl,rfl,rfl,rfl,rfl,rfl,rfl,rfl,rfl,rfl,rfl,rfl,rfl,rfl,rfl,rfl,rfl,rfl,rfl,rfl,rfl,rfl,rfl,rfl,rfl,rfl,rfl,rfl,rfl,rfl,rfl,rfl,rfl,rfl,rfl,rfl,rfl,rfl,rfl,rfl,rfl,rfl,rfl,rfl,rfl,rfl,rfl,trivial⟩ (aH.2 ⟨cO,e6,et (aj) (et (congrArg (fun q=>dP d b (aA.abs a) q h) aI) (et (ai au) (et (ip E) (et (ip B) (et (ai (bJ aT)) (iN aJ))))))⟩) (by show a.av.ls.length - (h+1) < a.av.ls.length - h; omega)
 refine Sz (dF B) (Sz (dF B) (Sz (dF B) (Sz (dF B) (Sz (dF B) (Sz (dF B) (Sz (dF B) (Sz (dF B) (gw (.bool false) (cn E) (FX rfl (dF B) rfl) (fw (.bool false) (FX rfl (cn E) rfl) (nt (jf (Gj (bN (FW (FT (fw (vJ (h+1)) (FV (e:=C7.wrap (((h:Nat):Int)+1)) yk f1) (Mz rfl (D0 ?_))))))))))))))))))
 have cZ:=av.pf []
 exact F9 (h+1) ⟨rfl,rfl,rfl,rfl,rfl,rfl,rfl,rfl,rfl,rfl,rfl,rfl,rfl,rfl,rfl,rfl,rfl,rfl,rfl,rfl,rfl,rfl,rfl,rfl,rfl,rfl,rfl,rfl,rfl,rfl,rfl,rfl,rfl,rfl,rfl,rfl,rfl,rfl,rfl,rfl,rfl,rfl,rfl,rfl,rfl,rfl,rfl,rfl,trivial⟩ (aH.2 ⟨cZ,e6,et (aj) (et (congrArg (fun q=>dP d b (aA.abs a) q h) aI) (et (ai au) (et (ip E) (iN B))))⟩) (by show a.av.ls.length - (h+1) < a.av.ls.length - h; omega)
 refine Sz (cn E) (Sz (cn E) (Sz (cn E) (Gu rfl rfl rfl (Gu rfl rfl rfl (Gu rfl rfl rfl (Gu rfl rfl rfl (Gu rfl rfl rfl (Gu rfl rfl rfl (Gu rfl rfl rfl (Gu rfl rfl rfl (Sz (cn E) (fw (.bool true) (Gb rfl (cn E) rfl) (nt (jt (sr (An rfl (rt (bR (tR (tR (bR (bR (tR (tR (bR (tR (rs ?_)))))))))))))))))))))))))))
 have df:=av.pk []
 obtain rfl:_=false:=hr.symm.trans (et (iN G) (jq (et (z) (et (congrArg (fun q=>dL d q b) C) (et (ip l) (et (ai (bJ P)) (et (iN u) (et (iN ah) (et (ai W) (et (ip F) (et (iN aM) (qm (et (aj) (et (congrArg (fun q=>dP d b (aA.abs a) q h) aI) (et (ai au) (gB E))))))))))))))))
 exact⟨rfl,df⟩
 refine jF (dF bY) (D1 (F4 ?_))
 have bB:dP d b (aA.abs a) a.av.ls 0=C1 ():=et (aj) (et (congrArg (fun q=>dP d b (aA.abs a) q h) (eZ (ls:=a.av.ls) (i:=h) e6)) rfl)
 refine F4 (Gg (bN (FW (FT (fw (vJ (b+1)) (FV (e:=C7.wrap (((b:Nat):Int)+1)) yk f1) (Mz rfl (D0 ?_)))))))
 have dh:=aN.pk [1]
 exact F9 (b+1) ⟨rfl,rfl,rfl,rfl,rfl,trivial⟩ (aG.2 ⟨dh,e6,et (z) (et (congrArg (fun q=>dL d q b) C) (et (ip l) (et (ai (bJ P)) (et (iN u) (et (iN ah) (et (ai W) (et (ip F) (et (iN aM) (tC bB)))))))))⟩) (by show d.aj.ls.length - (b+1) < d.aj.ls.length - b; omega)
 refine Sz (cn F) (Sz (cn F) (Sz (cn F) (Sz (cn F) (fw (.bool true) (Gb rfl (cn F) rfl) (nt (jt (sr (An rfl (rt (tR (bR (tR (tR (bR (tR (rs ?_))))))))))))))))
 have di:=aR.pk []
 obtain rfl:_=false:=hr.symm.trans (et (iN G) (jq (et (z) (et (congrArg (fun q=>dL d q b) C) (et (ip l) (et (ai (bJ P)) (et (iN u) (et (iN ah) (et (ai W) (gB F))))))))))
 exact⟨rfl,di⟩
 refine F3 (rs:= []) 3 rfl rfl rfl (dF l) e7 (F3 (rs:= []) 4 rfl rfl rfl (dF l) e7 (F3 (rs:= []) 5 rfl rfl rfl (dF l) e7 (F3 (rs:= []) 6 rfl rfl rfl (dF l) e7 (F3 (rs:= []) 7 rfl rfl rfl (dF l) e7 (F3 (rs:= []) 8 rfl rfl rfl (dF l) e7 (F3 (rs:= []) 9 rfl rfl rfl (dF l) e7 (F3 (rs:= []) 10 rfl rfl rfl (dF l) e7 (F3 (rs:= []) 11 rfl rfl rfl (dF l) e7 (F3 (rs:= []) 12 rfl rfl rfl (dF l) e7 (qt (v:= .bool false) 13 rfl (fun _ _=>FX rfl (dF l) rfl) (qv 14 rfl rfl (F6 (v:=vP j 0) (rs:= []) 15 rfl rfl rfl rfl e7 (fun _ _=>yk) (F6 (v:=vU a.bi) (rs:= []) 16 rfl rfl rfl rfl e7 (fun _ ⟨_,H9⟩=>F5 rfl (bZ.one E1 (jL.of (H9.cls (i:=0) rfl) rfl))) (F6 (v:=vP y 1) (rs:= []) 17 rfl rfl rfl rfl e7 (fun _ _=>yk) (F6 (v:=vU d.ax) (rs:= []) 18 rfl rfl rfl rfl e7 (fun _ ⟨_,H9⟩=>F5 rfl (bZ.one E1 (jL.of (H9.cls (i:=1) rfl) rfl))) (F6 (v:= .int .u64 ((D2 (D3.wrap (((d.ax:Nat):Int)+1)):Nat):Int)) (rs:= []) 19 rfl rfl rfl rfl e7 (fun _ _=>FV (e:=D3.wrap (((d.ax:Nat):Int)+1)) yk (fC _)) ?_))))))))))))))))
 have eG:fD (D2 (D3.wrap (((d.ax:Nat):Int)+1))) 32≤18446744073709551615:=oO _ _
 refine F6 (v:= .int .u64 ((fD (D2 (D3.wrap (((d.ax:Nat):Int)+1))) 32:Nat):Int)) (rs:= []) 20 rfl rfl rfl rfl e7 (fun _ _=>FV (Hw (m:=32) rfl rfl) (fC _)) (F6 (v:= .bool (decide (((a.bi:Nat):Int) ≥ ((fD (D2 (D3.wrap (((d.ax:Nat):Int)+1))) 32:Nat):Int)))) (rs:= []) 21 rfl rfl rfl rfl e7 (fun _ _=>yk) (qt (v:= .bool (decide (((a.bi:Nat):Int) ≥ ((fD (D2 (D3.wrap (((d.ax:Nat):Int)+1))) 32:Nat):Int)))) 22 rfl (fun _ _=>FX rfl rfl rfl) (qn (FW ?_))))
 by_cases K:((a.bi:Nat):Int) ≥ ((fD (D2 (D3.wrap (((d.ax:Nat):Int)+1))) 32:Nat):Int)
 refine jT (dT K) (sr (An rfl (rt (tR (bR (tR (tR (bR (tR (rs ?_))))))))))
 have dm:=aC.pk []
 obtain rfl:_=false:=hr.symm.trans (et (iN G) (jq (et (z) (et (congrArg (fun q=>dL d q b) C) (et (iN l) (ip K))))))
 exact⟨rfl,dm⟩
 refine jF (dF K) (sk (FU (sr (Kz (vP j 1) (Lz (vI a.aS) aC 0 C6 ?_)))))
 obtain⟨I,J⟩:∃ q,iJ a.aS 4=q:=⟨_,rfl⟩
 obtain⟨fG,bC,eH,bE,eO⟩:=FY aC
 refine cl E2 (lT _ _ a.aS 4 I bC J) ?_
 rintro _ fH ⟨rfl,bF⟩
 have ax:=bE _ _ bF
 refine Kz (.bool (!I)) (Mz rfl ?_)
 rcases JQ (I) with s | s
 refine Gz (vP j 4) (cn s) (Gl (.slice a.av.A a.av.ls.length a.av.c) (cn s) ax 0 E3 (Gz (vJ a.av.ls.length) (cn s) (Gz (.bool (decide (((a.av.ls.length:Nat):Int)=0))) (cn s) (fw (.bool (decide (((a.av.ls.length:Nat):Int)=0))) (FX rfl (cn s) rfl) (nt ?_)))))
 by_cases X:((a.av.ls.length:Nat):Int)=0
 refine jT (dT X) (sr (An rfl (rt (tR (bR (tR (tR (bR (tR (rs ?_))))))))))
 have dn:=ax.pk []
 obtain rfl:_=false:=hr.symm.trans (et (iN G) (jq (et (z) (et (congrArg (fun q=>dL d q b) C) (et (iN l) (et (iN K) (et (ai J) (et (ip s) (ip X)))))))))
 exact⟨rfl,dn⟩
 refine jF (dF X) (sk (sr (Kz (vP j 4) (Lz (.slice a.av.A a.av.ls.length a.av.c) ax 0 E3 (Kz (vJ a.av.ls.length) (Mn rfl (bo ?_)))))))
 have dw:=ax.pf []
 obtain⟨dx,aa⟩:=mX fun(g:Nat) (w':World)=>Own w D w' [blk j (aA.cells a) 60,blk y [vI d.av,vU d.ax,vU d.bf,vU d.aK, .slice S d.ag.ls.length T, .slice f d.aj.ls.length p, .slice U d.aI.ls.length V] 33]∧g≤a.av.ls.length∧gu d b (aA.abs a) a.av.ls 0=gu d b (aA.abs a) (r6 g a.av.ls) g
 refine C5 (fun i:Nat=> [(2, .bool false),(55,vJ i),(54,vJ a.av.ls.length),(53, .slice a.av.A a.av.ls.length a.av.c),(52,vP j 4),(51, .bool (decide (((a.av.ls.length:Nat):Int)=0))),(50, .bool (decide (((a.av.ls.length:Nat):Int)=0))),(49,vJ a.av.ls.length),(48, .slice a.av.A a.av.ls.length a.av.c),(47,vP j 4),(46, .bool (!I)),(45, .bool (!I)),(44, .bool I),(43,vI a.aS),(42,vP j 1),(41, .bool (decide (((a.bi:Nat):Int) ≥ ((fD (D2 (D3.wrap (((d.ax:Nat):Int)+1))) 32:Nat):Int)))),(40, .bool (decide (((a.bi:Nat):Int) ≥ ((fD (D2 (D3.wrap (((d.ax:Nat):Int)+1))) 32:Nat):Int)))),(39, .int .u64 ((fD (D2 (D3.wrap (((d.ax:Nat):Int)+1))) 32:Nat):Int)),(38, .int .u64 ((D2 (D3.wrap (((d.ax:Nat):Int)+1)):Nat):Int)),(37,vU d.ax),(36,vP y 1),(35,vU a.bi),(34,vP j 0),(33, .bool false),(32, .bool false),(31,undef),(30,undef),(29,undef),(28,undef),(27,undef),(26,undef),(25,undef),(24,undef),(23,undef),(22,undef),(21, .bool (decide (((b:Nat):Int) > 0))),(20, .bool (decide (((b:Nat):Int) > 0))),(19,vJ b),(3,vJ b),(4,vP j 0),(18, .agg (aA.cells a).toArray),(17, .pointer (some ⟨ab f,ao f+b *5,none⟩)),(16,vJ b),(15, .bool (decide (((b:Nat):Int) < ((d.aj.ls.length:Nat):Int)))),(14,vJ b),(13,vJ d.aj.ls.length),(12, .slice f d.aj.ls.length p),(1,vP y 0)]) dx (fun i=>a.av.ls.length - i) 0 ⟨rfl,rfl,rfl,rfl,rfl,rfl,rfl,rfl,rfl,rfl,rfl,rfl,rfl,rfl,rfl,rfl,rfl,rfl,rfl,rfl,rfl,rfl,rfl,rfl,rfl,rfl,rfl,rfl,rfl,rfl,rfl,rfl,rfl,rfl,rfl,rfl,rfl,rfl,rfl,rfl,rfl,rfl,rfl,rfl,rfl,rfl,rfl,rfl,trivial⟩ (aa.2 ⟨dw,e6,rfl⟩) ?_
 rintro g fI bG
 obtain⟨Y,eP,Q⟩:=aa.1 bG
 refine sr (Kz (.bool (decide (((g:Nat):Int) < ((a.av.ls.length:Nat):Int)))) (nt (FU ?_)))
 by_cases bi:((g:Nat):Int) < ((a.av.ls.length:Nat):Int)
 obtain⟨L,aU⟩:=dK (ls:=a.av.ls) (i:=g) iI f3 (Y.ro (o _ (E0 t)).1) e9
 have ae:=drop_at aU
 refine jT (dT bi) (sk (FU (bo (sr (Mz rfl (fw (.pointer (some ⟨ab a.av.A,ao a.av.A+g *1,none⟩)) (FZ (ng) rfl rfl ((Y.ro (o _ (E0 t)).1).addr (i:=g) e6) e6) (fw (vI L) (F5 rfl (bZ.one C6 (((Y.ro (o _ (E0 t)).1).elem iI aU f3).at_ (k:=0) rfl))) (Az rfl (Ar rfl (Mz rfl (Kz (vP y 0) (Lz (vI d.av) Y 1 C6 ?_))))))))))))
 obtain⟨aV,R⟩:∃ q,iJ L d.av=q:=⟨_,rfl⟩
 obtain⟨fJ,bH,eQ,bI,eT⟩:=FY Y
 refine cl E2 (lT _ _ L d.av aV bH R) ?_
 rintro _ fK ⟨rfl,bK⟩
 have M:=bI _ _ bK
 refine Kz (.bool (!aV)) (Mz rfl ?_)
 rcases JQ (aV) with r | r
 refine gw (vJ g) (cn r) (F7 rfl) (Gz (.bool (decide (((g:Nat):Int) > 0))) (cn r) (gw (.bool (decide (((g:Nat):Int) > 0))) (cn r) (F7 rfl) ?_))
 by_cases n:((g:Nat):Int) > 0
 refine gw (vI L) (dT n) (F7 rfl) (Gz (vP j 4) (dT n) (Gl (.slice a.av.A a.av.ls.length a.av.c) (dT n) M 0 E3 (gw (vJ g) (dT n) (F7 rfl) (gw (vJ (g - 1)) (dT n) (FV (e:=C7.wrap (((g:Nat):Int) - 1)) yk f1) ?_))))
 obtain⟨ay,aF⟩:=dK (ls:=a.av.ls) (i:=g - 1) iI f3 (M.ro (o _ (E0 t)).1) e9
 refine gw (.pointer (some ⟨ab a.av.A,ao a.av.A+(g - 1) *1,none⟩)) (dT n) (FZ (ng) rfl rfl ((M.ro (o _ (E0 t)).1).addr (i:=g - 1) e6) e6) (gw (vI ay) (dT n) (F5 rfl (bZ.one C6 (((M.ro (o _ (E0 t)).1).elem iI aF f3).at_ (k:=0) rfl))) (Gz (.bool (decide (L≤ay))) (dT n) (gw (.bool (decide (L≤ay))) (cn r) (Gb rfl (dT n) rfl) (fw (.bool (decide (L≤ay))) (FX rfl (cn r) rfl) (nt ?_)))))
 by_cases aK:L≤ay
 refine jT (dT aK) (sr (An rfl (rt (bR (tR (tR (bR (bR (tR (tR (bR (tR (rs ?_)))))))))))))
 have dz:=M.pk []
 obtain rfl:_=false:=hr.symm.trans (et (iN G) (jq (et (z) (et (congrArg (fun q=>dL d q b) C) (et (iN l) (et (iN K) (et (ai J) (et (ip s) (et (iN X) (qm (et (Q) (et (congrArg (fun q=>gu d b (aA.abs a) q g) ae) (et (ai R) (et (ip r) (et (ip n) (et (ai (bJ aF)) (ip aK)))))))))))))))))
 exact⟨rfl,dz⟩
 refine jF (dF aK) (Gj (bN (FW (FT (fw (vJ (g+1)) (FV (e:=C7.wrap (((g:Nat):Int)+1)) yk f1) (Mz rfl (D0 ?_)))))))
 have dA:=M.pf []
 exact F9 (g+1) ⟨rfl,rfl,rfl,rfl,rfl,rfl,rfl,rfl,rfl,rfl,rfl,rfl,rfl,rfl,rfl,rfl,rfl,rfl,rfl,rfl,rfl,rfl,rfl,rfl,rfl,rfl,rfl,rfl,rfl,rfl,rfl,rfl,rfl,rfl,rfl,rfl,rfl,rfl,rfl,rfl,rfl,rfl,rfl,rfl,rfl,rfl,rfl,rfl,trivial⟩ (aa.2 ⟨dA,e6,et (Q) (et (congrArg (fun q=>gu d b (aA.abs a) q g) ae) (et (ai R) (et (ip r) (et (ip n) (et (ai (bJ aF)) (iN aK))))))⟩) (by show a.av.ls.length - (g+1) < a.av.ls.length - g; omega)
 refine Sz (dF n) (Sz (dF n) (Sz (dF n) (Sz (dF n) (Sz (dF n) (Sz (dF n) (Sz (dF n) (Sz (dF n) (gw (.bool false) (cn r) (FX rfl (dF n) rfl) (fw (.bool false) (FX rfl (cn r) rfl) (nt (jf (Gj (bN (FW (FT (fw (vJ (g+1)) (FV (e:=C7.wrap (((g:Nat):Int)+1)) yk f1) (Mz rfl (D0 ?_))))))))))))))))))
 have dB:=M.pf []
 exact F9 (g+1) ⟨rfl,rfl,rfl,rfl,rfl,rfl,rfl,rfl,rfl,rfl,rfl,rfl,rfl,rfl,rfl,rfl,rfl,rfl,rfl,rfl,rfl,rfl,rfl,rfl,rfl,rfl,rfl,rfl,rfl,rfl,rfl,rfl,rfl,rfl,rfl,rfl,rfl,rfl,rfl,rfl,rfl,rfl,rfl,rfl,rfl,rfl,rfl,rfl,trivial⟩ (aa.2 ⟨dB,e6,et (Q) (et (congrArg (fun q=>gu d b (aA.abs a) q g) ae) (et (ai R) (et (ip r) (iN n))))⟩) (by show a.av.ls.length - (g+1) < a.av.ls.length - g; omega)
 refine Sz (cn r) (Sz (cn r) (Sz (cn r) (Gu rfl rfl rfl (Gu rfl rfl rfl (Gu rfl rfl rfl (Gu rfl rfl rfl (Gu rfl rfl rfl (Gu rfl rfl rfl (Gu rfl rfl rfl (Gu rfl rfl rfl (Sz (cn r) (fw (.bool true) (Gb rfl (cn r) rfl) (nt (jt (sr (An rfl (rt (bR (tR (tR (bR (bR (tR (tR (bR (tR (rs ?_)))))))))))))))))))))))))))
 have dD:=M.pk []
 obtain rfl:_=false:=hr.symm.trans (et (iN G) (jq (et (z) (et (congrArg (fun q=>dL d q b) C) (et (iN l) (et (iN K) (et (ai J) (et (ip s) (et (iN X) (qm (et (Q) (et (congrArg (fun q=>gu d b (aA.abs a) q g) ae) (et (ai R) (gB r))))))))))))))
 exact⟨rfl,dD⟩
 refine jF (dF bi) (D1 (F4 ?_))
 have bL:gu d b (aA.abs a) a.av.ls 0=C1 ():=et (Q) (et (congrArg (fun q=>gu d b (aA.abs a) q g) (eZ (ls:=a.av.ls) (i:=g) e6)) rfl)
 refine F4 (Gg (bN (FW (FT (fw (vJ (b+1)) (FV (e:=C7.wrap (((b:Nat):Int)+1)) yk f1) (Mz rfl (D0 ?_)))))))
 have dE:=Y.pk [1]
 exact F9 (b+1) ⟨rfl,rfl,rfl,rfl,rfl,trivial⟩ (aG.2 ⟨dE,e6,et (z) (et (congrArg (fun q=>dL d q b) C) (et (iN l) (et (iN K) (et (ai J) (et (ip s) (et (iN X) (tC bL)))))))⟩) (by show d.aj.ls.length - (b+1) < d.aj.ls.length - b; omega)
 refine Sz (cn s) (Sz (cn s) (Sz (cn s) (Sz (cn s) (fw (.bool true) (Gb rfl (cn s) rfl) (nt (jt (sr (An rfl (rt (tR (bR (tR (tR (bR (tR (rs ?_))))))))))))))))
 have dG:=ax.pk []
 obtain rfl:_=false:=hr.symm.trans (et (iN G) (jq (et (z) (et (congrArg (fun q=>dL d q b) C) (et (iN l) (et (iN K) (et (ai J) (gB s))))))))
 exact⟨rfl,dG⟩
 refine jF (dF bS) (D1 (F4 ?_))
 have bM:dL d d.aj.ls 0=C1 ():=et (z) (et (congrArg (fun q=>dL d q b) (eZ (ls:=d.aj.ls) (i:=b) e6)) rfl)
 refine F4 (Gg (FW (sr (An rfl (rt (rs ?_))))))
 have dH:=aP.pk []
 obtain rfl:_=true:=hr.symm.trans (et (iN G) (nS bM))
 exact⟨rfl,dH⟩
def gK:List aL→Unit ⊕ Bool
  | []=>C1 ()
  | a::c=>bnd (gF a.bY) fun b=>if b=0 then if((a.aW.length:Nat):Int) > 16 then C3 (false) else gK c else C3 (false)
def kv (a:aY):Bool:=
 if((a.aW.length:Nat):Int) > 16 then false else if((a.au.ls.length:Nat):Int) > 4 then false else lp (gK a.au.ls) fun _=>true
theorem qJ (w:World) (D:Nat→Prop) (a:aY) (f:Option Addr) (x h:Nat) (X:Bool) (H:Own w D w []) (B:x=a.au.ls.length) (j:Ro w D fun w'=>bD w' 2 f a.au.ls.length (q6 aL.cells a.au.ls)) (N:a.au.ls.length≤h∧a.au.ls.length≤9223372036854775807) (hr:kv a=X):
    Calls y4 73 #[.agg #[.bool a.dZ, .string ⟨y6 a.aW⟩, .slice f x h]] w (dR fun v w'=>v= .bool X∧Own w D w' []):=by
 subst B
 refine cb Tryz.func73 ?_
 refine sr ?_
 refine dM [.bool a.dZ, .string ⟨y6 a.aW⟩, .slice f a.au.ls.length h] 149 H ?_
 intro C ae m
 refine An rfl (FU (sr (Kz (vP C 1) (Lz (.string ⟨y6 a.aW⟩) m 0 C4 (Kz (vJ a.aW.length) (Kz (.bool (decide (((a.aW.length:Nat):Int) > 16))) (Mz rfl ?_)))))))
 by_cases b:((a.aW.length:Nat):Int) > 16
 refine Sz (dT b) (Sz (dT b) (Sz (dT b) (Sz (dT b) (fw (.bool true) (Gb rfl (dT b) rfl) (nt (jt (sr (An rfl (rt (tR (rs ?_)))))))))))
 have O:=m.pk []
 obtain rfl:_=false:=hr.symm.trans (ip b)
 exact⟨rfl,O⟩
 refine Gz (vP C 2) (dF b) (Gl (.slice f a.au.ls.length h) (dF b) m 0 Tryz.isAgg147 (Gz (vJ a.au.ls.length) (dF b) (Gz (.bool (decide (((a.au.ls.length:Nat):Int) > 4))) (dF b) (fw (.bool (decide (((a.au.ls.length:Nat):Int) > 4))) (FX rfl (dF b) rfl) (nt ?_)))))
 by_cases n:((a.au.ls.length:Nat):Int) > 4
 refine jT (dT n) (sr (An rfl (rt (tR (rs ?_)))))
 have P:=m.pk []
 obtain rfl:_=false:=hr.symm.trans (et (iN b) (ip n))
 exact⟨rfl,P⟩
 refine jF (dF n) (sk (FU (sr (Kz (vP C 2) (Lz (.slice f a.au.ls.length h) m 0 Tryz.isAgg147 (Kz (vJ a.au.ls.length) (Mn rfl (bo ?_))))))))
 have Q:=m.pk []
 obtain⟨R,p⟩:=mX fun(c:Nat) (w':World)=>Own w D w' []∧c≤a.au.ls.length∧gK a.au.ls=gK (r6 c a.au.ls)
 refine C5 (fun i:Nat=> [(2, .bool false),(18,vJ i),(17,vJ a.au.ls.length),(16, .slice f a.au.ls.length h)]) R (fun i=>a.au.ls.length - i) 0 ⟨rfl,rfl,rfl,rfl,trivial⟩ (p.2 ⟨Q,e6,rfl⟩) ?_
 rintro c af E
 obtain⟨r,Y,k⟩:=p.1 E
 refine sr (Kz (.bool (decide (((c:Nat):Int) < ((a.au.ls.length:Nat):Int)))) (nt (FU ?_)))
 by_cases F:((c:Nat):Int) < ((a.au.ls.length:Nat):Int)
 obtain⟨d,y⟩:=dK (ls:=a.au.ls) (i:=c) aL.len f3 (r.ro j) e9
 have s:=drop_at y
 refine jT (dT F) (sk (FU (bo (sr (fw (.pointer (some ⟨ab f,ao f+c *2,none⟩)) (FZ (jO) rfl rfl ((r.ro j).addr (i:=c) e6) e6) (fw (.agg (aL.cells d).toArray) (F5 rfl (Gc (cs:=(aL.cells d)) Tryz.isAgg153 Tryz.sizeOf153 ((r.ro j).elem aL.len y f3))) ?_))))))
 refine dM [.string ⟨y6 ([])⟩, .string ⟨y6 ([])⟩] 153 r ?_
 intro G ag S
 refine dN (aL.cells d) 0 S Tryz.sizeOf153 ?_
 intro ah I
 refine ns (Kz (vP G 0) (Lz (.string ⟨y6 d.bY⟩) I 0 C4 ?_))
 obtain⟨o,l⟩:∃ q,gF d.bY=q:=⟨_,rfl⟩
 obtain⟨aj,J,Z,K,aa⟩:=FY I
 refine cl Tryz.call112 (ku _ _ d.bY o J l) ?_
 rintro _ ak ⟨rfl,L,z,A⟩
 have t:=K _ _ L
 replace z: ¬ (o=0)∨(1≤d.bY.length∧d.bY.length≤12):=z
 replace A:d.bY.length < 1∨d.bY.length > 12∨o=0:=A
 refine fw (.bool (decide (¬ (o=0)))) (Gi (e:= !(decide (o=0))) yk decide_not.symm) (Mz rfl ?_)
 by_cases g:o=0
 refine gw (vP G 1) (dF (JP g)) yk (gw (.string ⟨y6 d.aW⟩) (dF (JP g)) (F5 rfl (bZ.one C4 (jL.of (t.cls (i:=0) rfl) rfl))) (gw (vJ d.aW.length) (dF (JP g)) yk (gw (.bool (decide (((d.aW.length:Nat):Int) > 16))) (dF (JP g)) yk (fw (.bool (decide (((d.aW.length:Nat):Int) > 16))) (FX rfl (dF (JP g)) rfl) (nt ?_)))))
 by_cases u:((d.aW.length:Nat):Int) > 16
 refine jT (dT u) (sr (An rfl (rt (bR (tR (tR (bR (tR (rs ?_)))))))))
 have T:=t.pk []
 obtain rfl:_=false:=hr.symm.trans (et (iN b) (et (iN n) (jq (et (k) (et (congrArg (fun q=>gK q) s) (et (ai l) (et (ip g) (ip u))))))))
 exact⟨rfl,T⟩
 refine jF (dF u) (Gj (bN (FW (FT (fw (vJ (c+1)) (FV (e:=C7.wrap (((c:Nat):Int)+1)) yk f1) (Mz rfl (D0 ?_)))))))
 have U:=t.pk []
 exact F9 (c+1) ⟨rfl,rfl,rfl,rfl,trivial⟩ (p.2 ⟨U,e6,et (k) (et (congrArg (fun q=>gK q) s) (et (ai l) (et (ip g) (iN u))))⟩) (by show a.au.ls.length - (c+1) < a.au.ls.length - c; omega)
 refine Sz (dT g) (Sz (dT g) (Sz (dT g) (Sz (dT g) (fw (.bool true) (Gb rfl (dT g) rfl) (nt (jt (sr (An rfl (rt (bR (tR (tR (bR (tR (rs ?_)))))))))))))))
 have V:=t.pk []
 obtain rfl:_=false:=hr.symm.trans (et (iN b) (et (iN n) (jq (et (k) (et (congrArg (fun q=>gK q) s) (et (ai l) (iN g)))))))
 exact⟨rfl,V⟩
 refine jF (dF F) (D1 (F4 ?_))
 have M:gK a.au.ls=C1 ():=et (k) (et (congrArg (fun q=>gK q) (eZ (ls:=a.au.ls) (i:=c) e6)) rfl)
 refine F4 (Gg (FW (sr (An rfl (rt (rs ?_))))))
 have W:=r.pk []
 obtain rfl:_=true:=hr.symm.trans (et (iN b) (et (iN n) (nS M)))
 exact⟨rfl,W⟩
def fV (e:Nat) (c:fE):Nat→Nat→Unit ⊕ Bool
  | 0,b=>C1 ()
  | f+1,b=>bnd (C2 c.ah.ls b default) fun a=>bnd (kv (aY.mk a.dZ a.aW (E4 a.au.ls))) fun d=>if d=true then fV e c f (b+1) else C3 (false)
def jb (f:Nat) (d:fE):Nat→Nat→Unit ⊕ Bool
  | 0,b=>C1 ()
  | e+1,b=>bnd (C2 d.ah.ls b default) fun a=>bnd (kv (aY.mk a.dZ a.aW (E4 a.au.ls))) fun c=>if c=true then jb f d e (b+1) else C3 (false)
def fJ (l0:List fE):List fE→Nat→Unit ⊕ Bool
  | [],b=>C1 ()
  | a::c,b=>bnd (iJ a.aS 4) fun d=>if d=true then if((b:Nat):Int) > 0 then bnd (C2 l0 (b - 1) default) fun e=>if a.aS≤e.aS then C3 (false) else if((a.ah.ls.length:Nat):Int) > 4 then C3 (false) else sI (fV b a a.ah.ls.length 0) fun _=>fJ l0 c (b+1) else if((a.ah.ls.length:Nat):Int) > 4 then C3 (false) else sI (jb b a a.ah.ls.length 0) fun _=>fJ l0 c (b+1) else C3 (false)
def oW (l0:List fE):Bool:=
 if((l0.length:Nat):Int) > 4 then false else lp (fJ l0 l0 0) fun _=>true
theorem wB (w:World) (D:Nat→Prop) (o:Option Addr) (n0 K:Nat) (d0:List aZ) (l0:List fE) (r0:Bool) (H:Own w D w []) (av:s8 aZ.abs d0=l0) (R:Ro w D fun w'=>bD w' 4 o n0 (q6 aZ.cells d0)) (B:∀ x ∈ d0,Ro w D (fun w'=>bD w' 3 x.ah.A x.ah.ls.length (q6 af.cells x.ah.ls))∧(x.ah.ls.length≤x.ah.c∧x.ah.ls.length≤9223372036854775807)∧(∀ y1 ∈ x.ah.ls,Ro w D (fun w'=>bD w' 2 y1.au.A y1.au.ls.length (q6 aL.cells y1.au.ls))∧(y1.au.ls.length≤y1.au.c∧y1.au.ls.length≤9223372036854775807))) (bF:n0=l0.length) (dE:l0.length≤9223372036854775807) (hr:oW l0=r0):
    Calls y4 43 #[.slice o n0 K] w (dR fun v w'=>v= .bool r0∧Own w D w' []):=by
 subst bF
 have cz:=az av
 refine cb Tryz.func43 ?_
 refine sr (An rfl (FU (sr (Mz rfl (Kz (vJ l0.length) (Kz (.bool (decide (((l0.length:Nat):Int) > 4))) (nt ?_)))))))
 by_cases C:((l0.length:Nat):Int) > 4
 refine jT (dT C) (sr (An rfl (rt (tR (rs ?_)))))
 have bG:=H.pk []
 obtain rfl:_=false:=hr.symm.trans (ip C)
 exact⟨rfl,bG⟩
 refine jF (dF C) (sk (FU (sr (Mz rfl (Kz (vJ l0.length) (Mn rfl (bo ?_)))))))
 have bH:=H.pk []
 obtain⟨bI,O⟩:=mX fun(b:Nat) (w':World)=>Own w D w' []∧b≤l0.length∧fJ l0 l0 0=fJ l0 (r6 b l0) b
 refine C5 (fun i:Nat=> [(2, .bool false),(12,vJ i),(11,vJ l0.length),(10, .slice o l0.length K),(0, .slice o l0.length K)]) bI (fun i=>l0.length - i) 0 ⟨rfl,rfl,rfl,rfl,rfl,trivial⟩ (O.2 ⟨bH,e6,rfl⟩) ?_
 rintro b dG aJ
 obtain⟨S,cB,t⟩:=O.1 aJ
 refine sr (Kz (.bool (decide (((b:Nat):Int) < ((l0.length:Nat):Int)))) (nt (FU ?_)))
 by_cases aK:((b:Nat):Int) < ((l0.length:Nat):Int)
 obtain⟨a,m⟩:=dK (ls:=d0) (i:=b) aZ.len f3 (S.ro R) e9
 have aM:=fo av m
 have cK:=(B _ (E0 m)).2.1
 have cO:s2 (s8 af.abs a.ah.ls)=a.ah.ls.length:=s6 ..
 have z:=drop_at aM
 refine jT (dT aK) (sk (FU (bo (sr (Mz rfl (fw (.pointer (some ⟨ab o,ao o+b *4,none⟩)) (FZ (lN) rfl rfl ((S.ro R).addr (i:=b) e6) e6) (fw (.agg (aZ.cells a).toArray) (F5 rfl (Gc (cs:=(aZ.cells a)) Tryz.isAgg56 Tryz.sizeOf56 ((S.ro R).elem aZ.len m f3))) ?_)))))))
 refine dM [vI 0, .int .u64 0, .int .u64 0, .slice none 0 0] 56 S ?_
 intro g dH bK
 refine Az rfl ?_
 refine dN (aZ.cells a) 0 bK Tryz.sizeOf56 ?_
 intro dI bL
 refine nt (FU (FU ?_))
 refine vg [] (F8 (F8 (bP.block (F8 (F8 (bP.block (F8 Gh))))))) bL ?_
 intro dJ bM
 refine qp g 0 0 rfl (ql 1 rfl 0 C6 rfl rfl rfl ?_)
 obtain⟨s,u⟩:∃ q,iJ a.aS 4=q:=⟨_,rfl⟩
 obtain⟨dL,aN,cZ,aO,df⟩:=FY bM
 refine qd 2 rfl (Gd E2 rfl (lT _ _ a.aS 4 s aN u) ?_)
 rintro _ dO ⟨rfl,aP⟩
 have E:=aO _ _ aP
 refine⟨.inr ⟨_,E⟩, ?_⟩
 refine qk (.bool (!s)) 3 rfl (qv 4 rfl rfl ?_)
 rcases JQ (s) with j | j
 refine F6 (v:=vJ b) (rs:= []) 5 rfl rfl rfl (cn j) e7 (fun _ _=>F7 rfl) (F6 (v:= .bool (decide (((b:Nat):Int) > 0))) (rs:= []) 6 rfl rfl rfl (cn j) e7 (fun _ _=>yk) (F6 (v:= .bool (decide (((b:Nat):Int) > 0))) (rs:= []) 7 rfl rfl rfl (cn j) e7 (fun _ _=>F7 rfl) ?_))
 by_cases f:((b:Nat):Int) > 0
 refine F6 (v:=vP g 0) (rs:= []) 8 rfl rfl rfl (dT f) e7 (fun _ _=>yk) (F6 (v:=vI a.aS) (rs:= []) 9 rfl rfl rfl (dT f) e7 (fun _ ⟨_,H9⟩=>F5 rfl (bZ.one C6 (jL.of (H9.cls (i:=0) rfl) rfl))) (F6 (v:= .slice o l0.length K) (rs:= []) 10 rfl rfl rfl (dT f) e7 (fun _ _=>F7 rfl) (F6 (v:=vJ b) (rs:= []) 11 rfl rfl rfl (dT f) e7 (fun _ _=>F7 rfl) (F6 (v:=vJ (b - 1)) (rs:= []) 12 rfl rfl rfl (dT f) e7 (fun _ _=>FV (e:=C7.wrap (((b:Nat):Int) - 1)) yk f1) ?_))))
 obtain⟨p,T⟩:=jo (ls:=d0) (i:=b - 1) e9
 have P:=fo av T
 have dh:=(B _ (E0 T)).2.1
 have di:s2 (s8 af.abs p.ah.ls)=p.ah.ls.length:=s6 ..
 refine F6 (v:= .pointer (some ⟨ab o,ao o+(b - 1) *4,none⟩)) (rs:= []) 13 rfl rfl rfl (dT f) e7 (fun _ ⟨_,H9⟩=>FZ (lN) rfl rfl ((H9.ro R).addr (i:=b - 1) e6) e6) (F6 (v:= .pointer (some ⟨ab o,ao o+(b - 1) *4,none⟩)) (rs:= []) 14 rfl rfl rfl (dT f) e7 (fun _ _=>yk) (F6 (v:=vI p.aS) (rs:= []) 15 rfl rfl rfl (dT f) e7 (fun _ ⟨_,H9⟩=>F5 rfl (bZ.one C6 (((H9.ro R).elem aZ.len T f3).at_ (k:=0) rfl))) (F6 (v:= .bool (decide (a.aS≤p.aS))) (rs:= []) 16 rfl rfl rfl (dT f) e7 (fun _ _=>yk) (F6 (v:= .bool (decide (a.aS≤p.aS))) (rs:= []) 17 rfl rfl rfl (cn j) e7 (fun _ _=>Gb rfl (dT f) rfl) (qt (v:= .bool (decide (a.aS≤p.aS))) 18 rfl (fun _ _=>FX rfl (cn j) rfl) (qv 19 rfl rfl ?_))))))
 by_cases y:a.aS≤p.aS
 refine F3 (rs:= []) 20 rfl rfl rfl (dT y) e7 (F3 (rs:= []) 21 rfl rfl rfl (dT y) e7 (F3 (rs:= []) 22 rfl rfl rfl (dT y) e7 (F3 (rs:= []) 23 rfl rfl rfl (dT y) e7 (qt (v:= .bool true) 24 rfl (fun _ _=>Gb rfl (dT y) rfl) (qn (FW (jt (sr (An rfl (rt (tR (bR (tR (tR (bR (tR (rs ?_)))))))))))))))))
 have bO:=E.pk []
 obtain rfl:_=false:=hr.symm.trans (et (iN C) (jq (et (t) (et (congrArg (fun q=>fJ l0 q b) z) (et (ai u) (et (ip j) (et (ip f) (et (ai (bJ P)) (ip y)))))))))
 exact⟨rfl,bO⟩
 refine F6 (v:=vP g 3) (rs:= []) 20 rfl rfl rfl (dF y) e7 (fun _ _=>yk) (F6 (v:= .slice a.ah.A a.ah.ls.length a.ah.c) (rs:= []) 21 rfl rfl rfl (dF y) e7 (fun _ ⟨_,H9⟩=>F5 rfl (bZ.one E6 (jL.of (H9.cls (i:=0) rfl) rfl))) (F6 (v:=vJ (s2 (s8 af.abs a.ah.ls))) (rs:= []) 22 rfl rfl rfl (dF y) e7 (fun _ _=>FV (e:=((a.ah.ls.length:Nat):Int)) yk j0) (F6 (v:= .bool (decide (((s2 (s8 af.abs a.ah.ls):Nat):Int) > 4))) (rs:= []) 23 rfl rfl rfl (dF y) e7 (fun _ _=>yk) (qt (v:= .bool (decide (((s2 (s8 af.abs a.ah.ls):Nat):Int) > 4))) 24 rfl (fun _ _=>FX rfl (dF y) rfl) (qn (FW ?_))))))
 by_cases U:((s2 (s8 af.abs a.ah.ls):Nat):Int) > 4
 refine jT (dT U) (sr (An rfl (rt (tR (bR (tR (tR (bR (tR (rs ?_))))))))))
 have bQ:=E.pk []
 obtain rfl:_=false:=hr.symm.trans (et (iN C) (jq (et (t) (et (congrArg (fun q=>fJ l0 q b) z) (et (ai u) (et (ip j) (et (ip f) (et (ai (bJ P)) (et (iN y) (ip U))))))))))
 exact⟨rfl,bQ⟩
 refine jF (dF U) (sk (sr (Kz (vP g 3) (Lz (.slice a.ah.A a.ah.ls.length a.ah.c) E 0 E6 (fw (vJ (s2 (s8 af.abs a.ah.ls))) (FV (e:=((a.ah.ls.length:Nat):Int)) yk j0) (Mn rfl (bo ?_)))))))
 have bS:=E.pf []
 obtain⟨bT,V⟩:=mX fun(l:Nat) (w':World)=>Own w D w' [blk g (aZ.cells a) 56]∧l≤s2 (s8 af.abs a.ah.ls)∧fV b (aZ.abs a) (s2 (s8 af.abs a.ah.ls)) 0=fV b (aZ.abs a) ((s2 (s8 af.abs a.ah.ls)) - l) l
 refine C5 (fun i:Nat=> [(2, .bool false),(45,vJ i),(44,vJ (s2 (s8 af.abs a.ah.ls))),(43, .slice a.ah.A a.ah.ls.length a.ah.c),(42,vP g 3),(41, .bool (decide (((s2 (s8 af.abs a.ah.ls):Nat):Int) > 4))),(40, .bool (decide (((s2 (s8 af.abs a.ah.ls):Nat):Int) > 4))),(39,vJ (s2 (s8 af.abs a.ah.ls))),(38, .slice a.ah.A a.ah.ls.length a.ah.c),(37,vP g 3),(36, .bool (decide (a.aS≤p.aS))),(35, .bool (decide (a.aS≤p.aS))),(34, .bool (decide (a.aS≤p.aS))),(33, .bool (decide (a.aS≤p.aS))),(32,vI p.aS),(31, .pointer (some ⟨ab o,ao o+(b - 1) *4,none⟩)),(30, .pointer (some ⟨ab o,ao o+(b - 1) *4,none⟩)),(29,vJ (b - 1)),(28,vJ b),(27, .slice o l0.length K),(26,vI a.aS),(25,vP g 0),(24, .bool (decide (((b:Nat):Int) > 0))),(23, .bool (decide (((b:Nat):Int) > 0))),(22,vJ b),(21, .bool (!s)),(20, .bool (!s)),(19, .bool s),(18,vI a.aS),(17,vP g 0),(3,vJ b),(4,vP g 0),(16, .agg (aZ.cells a).toArray),(15, .pointer (some ⟨ab o,ao o+b *4,none⟩)),(14,vJ b),(13, .bool (decide (((b:Nat):Int) < ((l0.length:Nat):Int)))),(12,vJ b),(11,vJ l0.length),(10, .slice o l0.length K),(0, .slice o l0.length K)]) bT (fun i=>(s2 (s8 af.abs a.ah.ls)) - i) 0 ⟨rfl,rfl,rfl,rfl,rfl,rfl,rfl,rfl,rfl,rfl,rfl,rfl,rfl,rfl,rfl,rfl,rfl,rfl,rfl,rfl,rfl,rfl,rfl,rfl,rfl,rfl,rfl,rfl,rfl,rfl,rfl,rfl,rfl,rfl,rfl,rfl,rfl,rfl,rfl,rfl,trivial⟩ (V.2 ⟨bS,e6,rfl⟩) ?_
 rintro l dP aQ
 obtain⟨W,dm,X⟩:=V.1 aQ
 refine sr (Kz (.bool (decide (((l:Nat):Int) < ((s2 (s8 af.abs a.ah.ls):Nat):Int)))) (nt (FU ?_)))
 by_cases aR:((l:Nat):Int) < ((s2 (s8 af.abs a.ah.ls):Nat):Int)
 refine jT (dT aR) (sk (FU (bo (sr ?_))))
 obtain⟨r,Q⟩:=dK (ls:=a.ah.ls) (i:=l) af.len f3 (W.ro (B _ (E0 m)).1) e9
 have ah:=fo (rfl:s8 af.abs a.ah.ls=s8 af.abs a.ah.ls) Q
 have dn:=((B _ (E0 m)).2.2 _ (E0 Q)).2
 refine fw (.pointer (some ⟨ab a.ah.A,ao a.ah.A+l *3,none⟩)) (FZ (rP) rfl rfl ((W.ro (B _ (E0 m)).1).addr (i:=l) e6) e6) (fw (.agg (af.cells r).toArray) (F5 rfl (Gc (cs:=(af.cells r)) E7 F0 ((W.ro (B _ (E0 m)).1).elem af.len Q f3))) ?_)
 refine dM [.bool false, .string ⟨y6 ([])⟩, .slice none 0 0] 149 W ?_
 intro dQ dS bU
 refine dN (af.cells r) 0 bU F0 ?_
 intro dU aS
 refine ns (La (af.cells r) aS 0 E7 F0 ?_)
 obtain⟨ax,Y⟩:∃ q,kv (aY.mk r.dZ r.aW (E4 r.au.ls))=q:=⟨_,rfl⟩
 obtain⟨dV,aT,aU,aV,dw⟩:=FY aS
 refine cl Tryz.call73 (qJ _ _ (aY.mk r.dZ r.aW (E4 r.au.ls)) r.au.A r.au.ls.length r.au.c ax aT rfl (aU _ ((B _ (E0 m)).2.2 _ (E0 Q)).1) (show r.au.ls.length≤r.au.c∧r.au.ls.length≤9223372036854775807 from by omega) Y) ?_
 rintro _ dW ⟨rfl,aW⟩
 have aX:=aV _ _ aW
 refine Kz (.bool (!ax)) (nt ?_)
 rcases JQ (ax) with Z | Z
 refine jF (cn Z) (Gj (bN (FW (FT (fw (vJ (l+1)) (FV (e:=C7.wrap (((l:Nat):Int)+1)) yk f1) (Mz rfl (D0 ?_)))))))
 have bV:=aX.pk [1]
 exact F9 (l+1) ⟨rfl,rfl,rfl,rfl,rfl,rfl,rfl,rfl,rfl,rfl,rfl,rfl,rfl,rfl,rfl,rfl,rfl,rfl,rfl,rfl,rfl,rfl,rfl,rfl,rfl,rfl,rfl,rfl,rfl,rfl,rfl,rfl,rfl,rfl,rfl,rfl,rfl,rfl,rfl,rfl,trivial⟩ (V.2 ⟨bV,e6,et (X) (et (congrArg (fun q=>fV b (aZ.abs a) q l) (ry (n:=s2 (s8 af.abs a.ah.ls)) (i:=l) e6)) (et (ai (bJ ah)) (et (ai Y) (ip Z))))⟩) (by show (s2 (s8 af.abs a.ah.ls)) - (l+1) < (s2 (s8 af.abs a.ah.ls)) - l; omega)
 refine jT (cn Z) (sr (An rfl (rt (bR (tR (tR (bR (bR (tR (tR (bR (tR (rs ?_)))))))))))))
 have bf:=aX.pk []
 obtain rfl:_=false:=hr.symm.trans (et (iN C) (jq (et (t) (et (congrArg (fun q=>fJ l0 q b) z) (et (ai u) (et (ip j) (et (ip f) (et (ai (bJ P)) (et (iN y) (et (iN U) (qm (et (X) (et (congrArg (fun q=>fV b (aZ.abs a) q l) (ry (n:=s2 (s8 af.abs a.ah.ls)) (i:=l) e6)) (et (ai (bJ ah)) (et (ai Y) (gB Z))))))))))))))))
 exact⟨rfl,bf⟩
 refine jF (dF aR) (D1 (F4 ?_))
 have ay:fV b (aZ.abs a) (s2 (s8 af.abs a.ah.ls)) 0=C1 ():=et (X) (et (congrArg (fun q=>fV b (aZ.abs a) q l) (vZ (n:=s2 (s8 af.abs a.ah.ls)) (i:=l) e6)) rfl)
 refine F4 (Gg (bN (FW (FT (fw (vJ (b+1)) (FV (e:=C7.wrap (((b:Nat):Int)+1)) yk f1) (Mz rfl (D0 ?_)))))))
 have bg:=W.pk []
 exact F9 (b+1) ⟨rfl,rfl,rfl,rfl,rfl,trivial⟩ (O.2 ⟨bg,e6,et (t) (et (congrArg (fun q=>fJ l0 q b) z) (et (ai u) (et (ip j) (et (ip f) (et (ai (bJ P)) (et (iN y) (et (iN U) (tC ay))))))))⟩) (by show l0.length - (b+1) < l0.length - b; omega)
 refine F3 (rs:= []) 8 rfl rfl rfl (dF f) e7 (F3 (rs:= []) 9 rfl rfl rfl (dF f) e7 (F3 (rs:= []) 10 rfl rfl rfl (dF f) e7 (F3 (rs:= []) 11 rfl rfl rfl (dF f) e7 (F3 (rs:= []) 12 rfl rfl rfl (dF f) e7 (F3 (rs:= []) 13 rfl rfl rfl (dF f) e7 (F3 (rs:= []) 14 rfl rfl rfl (dF f) e7 (F3 (rs:= []) 15 rfl rfl rfl (dF f) e7 (F3 (rs:= []) 16 rfl rfl rfl (dF f) e7 (F6 (v:= .bool false) (rs:= []) 17 rfl rfl rfl (cn j) e7 (fun _ _=>FX rfl (dF f) rfl) (qt (v:= .bool false) 18 rfl (fun _ _=>FX rfl (cn j) rfl) (qv 19 rfl rfl (F6 (v:=vP g 3) (rs:= []) 20 rfl rfl rfl rfl e7 (fun _ _=>yk) (F6 (v:= .slice a.ah.A a.ah.ls.length a.ah.c) (rs:= []) 21 rfl rfl rfl rfl e7 (fun _ ⟨_,H9⟩=>F5 rfl (bZ.one E6 (jL.of (H9.cls (i:=0) rfl) rfl))) (F6 (v:=vJ (s2 (s8 af.abs a.ah.ls))) (rs:= []) 22 rfl rfl rfl rfl e7 (fun _ _=>FV (e:=((a.ah.ls.length:Nat):Int)) yk j0) (F6 (v:= .bool (decide (((s2 (s8 af.abs a.ah.ls):Nat):Int) > 4))) (rs:= []) 23 rfl rfl rfl rfl e7 (fun _ _=>yk) (qt (v:= .bool (decide (((s2 (s8 af.abs a.ah.ls):Nat):Int) > 4))) 24 rfl (fun _ _=>FX rfl rfl rfl) (qn (FW ?_))))))))))))))))))
 by_cases G:((s2 (s8 af.abs a.ah.ls):Nat):Int) > 4
 refine jT (dT G) (sr (An rfl (rt (tR (bR (tR (tR (bR (tR (rs ?_))))))))))
 have bi:=E.pk []
 obtain rfl:_=false:=hr.symm.trans (et (iN C) (jq (et (t) (et (congrArg (fun q=>fJ l0 q b) z) (et (ai u) (et (ip j) (et (iN f) (ip G))))))))
 exact⟨rfl,bi⟩
 refine jF (dF G) (sk (sr (Kz (vP g 3) (Lz (.slice a.ah.A a.ah.ls.length a.ah.c) E 0 E6 (fw (vJ (s2 (s8 af.abs a.ah.ls))) (FV (e:=((a.ah.ls.length:Nat):Int)) yk j0) (Mn rfl (bo ?_)))))))
 have bn:=E.pf []
 obtain⟨bq,L⟩:=mX fun(d:Nat) (w':World)=>Own w D w' [blk g (aZ.cells a) 56]∧d≤s2 (s8 af.abs a.ah.ls)∧jb b (aZ.abs a) (s2 (s8 af.abs a.ah.ls)) 0=jb b (aZ.abs a) ((s2 (s8 af.abs a.ah.ls)) - d) d
 refine C5 (fun i:Nat=> [(2, .bool false),(45,vJ i),(44,vJ (s2 (s8 af.abs a.ah.ls))),(43, .slice a.ah.A a.ah.ls.length a.ah.c),(42,vP g 3),(41, .bool (decide (((s2 (s8 af.abs a.ah.ls):Nat):Int) > 4))),(40, .bool (decide (((s2 (s8 af.abs a.ah.ls):Nat):Int) > 4))),(39,vJ (s2 (s8 af.abs a.ah.ls))),(38, .slice a.ah.A a.ah.ls.length a.ah.c),(37,vP g 3),(36, .bool false),(35, .bool false),(34, .bool false),(33,undef),(32,undef),(31,undef),(30,undef),(29,undef),(28,undef),(27,undef),(26,undef),(25,undef),(24, .bool (decide (((b:Nat):Int) > 0))),(23, .bool (decide (((b:Nat):Int) > 0))),(22,vJ b),(21, .bool (!s)),(20, .bool (!s)),(19, .bool s),(18,vI a.aS),(17,vP g 0),(3,vJ b),(4,vP g 0),(16, .agg (aZ.cells a).toArray),(15, .pointer (some ⟨ab o,ao o+b *4,none⟩)),(14,vJ b),(13, .bool (decide (((b:Nat):Int) < ((l0.length:Nat):Int)))),(12,vJ b),(11,vJ l0.length),(10, .slice o l0.length K),(0, .slice o l0.length K)]) bq (fun i=>(s2 (s8 af.abs a.ah.ls)) - i) 0 ⟨rfl,rfl,rfl,rfl,rfl,rfl,rfl,rfl,rfl,rfl,rfl,rfl,rfl,rfl,rfl,rfl,rfl,rfl,rfl,rfl,rfl,rfl,rfl,rfl,rfl,rfl,rfl,rfl,rfl,rfl,rfl,rfl,rfl,rfl,rfl,rfl,rfl,rfl,rfl,rfl,trivial⟩ (L.2 ⟨bn,e6,rfl⟩) ?_
 rintro d dx aA
 obtain⟨I,bW,M⟩:=L.1 aA
 refine sr (Kz (.bool (decide (((d:Nat):Int) < ((s2 (s8 af.abs a.ah.ls):Nat):Int)))) (nt (FU ?_)))
 by_cases aj:((d:Nat):Int) < ((s2 (s8 af.abs a.ah.ls):Nat):Int)
 refine jT (dT aj) (sk (FU (bo (sr ?_))))
 obtain⟨h,F⟩:=dK (ls:=a.ah.ls) (i:=d) af.len f3 (I.ro (B _ (E0 m)).1) e9
 have aa:=fo (rfl:s8 af.abs a.ah.ls=s8 af.abs a.ah.ls) F
 have bX:=((B _ (E0 m)).2.2 _ (E0 F)).2
 refine fw (.pointer (some ⟨ab a.ah.A,ao a.ah.A+d *3,none⟩)) (FZ (rP) rfl rfl ((I.ro (B _ (E0 m)).1).addr (i:=d) e6) e6) (fw (.agg (af.cells h).toArray) (F5 rfl (Gc (cs:=(af.cells h)) E7 F0 ((I.ro (B _ (E0 m)).1).elem af.len F f3))) ?_)
 refine dM [.bool false, .string ⟨y6 ([])⟩, .slice none 0 0] 149 I ?_
 intro dz dA bu
 refine dN (af.cells h) 0 bu F0 ?_
 intro dB ak
 refine ns (La (af.cells h) ak 0 E7 F0 ?_)
 obtain⟨ae,N⟩:∃ q,kv (aY.mk h.dZ h.aW (E4 h.au.ls))=q:=⟨_,rfl⟩
 obtain⟨dC,aB,aC,aD,bY⟩:=FY ak
 refine cl Tryz.call73 (qJ _ _ (aY.mk h.dZ h.aW (E4 h.au.ls)) h.au.A h.au.ls.length h.au.c ae aB rfl (aC _ ((B _ (E0 m)).2.2 _ (E0 F)).1) (show h.au.ls.length≤h.au.c∧h.au.ls.length≤9223372036854775807 from by omega) N) ?_
 rintro _ dD ⟨rfl,aF⟩
 have au:=aD _ _ aF
 refine Kz (.bool (!ae)) (nt ?_)
 rcases JQ (ae) with J | J
 refine jF (cn J) (Gj (bN (FW (FT (fw (vJ (d+1)) (FV (e:=C7.wrap (((d:Nat):Int)+1)) yk f1) (Mz rfl (D0 ?_)))))))
 have bv:=au.pk [1]
 exact F9 (d+1) ⟨rfl,rfl,rfl,rfl,rfl,rfl,rfl,rfl,rfl,rfl,rfl,rfl,rfl,rfl,rfl,rfl,rfl,rfl,rfl,rfl,rfl,rfl,rfl,rfl,rfl,rfl,rfl,rfl,rfl,rfl,rfl,rfl,rfl,rfl,rfl,rfl,rfl,rfl,rfl,rfl,trivial⟩ (L.2 ⟨bv,e6,et (M) (et (congrArg (fun q=>jb b (aZ.abs a) q d) (ry (n:=s2 (s8 af.abs a.ah.ls)) (i:=d) e6)) (et (ai (bJ aa)) (et (ai N) (ip J))))⟩) (by show (s2 (s8 af.abs a.ah.ls)) - (d+1) < (s2 (s8 af.abs a.ah.ls)) - d; omega)
 refine jT (cn J) (sr (An rfl (rt (bR (tR (tR (bR (bR (tR (tR (bR (tR (rs ?_)))))))))))))
 have bz:=au.pk []
 obtain rfl:_=false:=hr.symm.trans (et (iN C) (jq (et (t) (et (congrArg (fun q=>fJ l0 q b) z) (et (ai u) (et (ip j) (et (iN f) (et (iN G) (qm (et (M) (et (congrArg (fun q=>jb b (aZ.abs a) q d) (ry (n:=s2 (s8 af.abs a.ah.ls)) (i:=d) e6)) (et (ai (bJ aa)) (et (ai N) (gB J))))))))))))))
 exact⟨rfl,bz⟩
 refine jF (dF aj) (D1 (F4 ?_))
 have aG:jb b (aZ.abs a) (s2 (s8 af.abs a.ah.ls)) 0=C1 ():=et (M) (et (congrArg (fun q=>jb b (aZ.abs a) q d) (vZ (n:=s2 (s8 af.abs a.ah.ls)) (i:=d) e6)) rfl)
 refine F4 (Gg (bN (FW (FT (fw (vJ (b+1)) (FV (e:=C7.wrap (((b:Nat):Int)+1)) yk f1) (Mz rfl (D0 ?_)))))))
 have bA:=I.pk []
 exact F9 (b+1) ⟨rfl,rfl,rfl,rfl,rfl,trivial⟩ (O.2 ⟨bA,e6,et (t) (et (congrArg (fun q=>fJ l0 q b) z) (et (ai u) (et (ip j) (et (iN f) (et (iN G) (tC aG))))))⟩) (by show l0.length - (b+1) < l0.length - b; omega)
 refine F3 (rs:= []) 5 rfl rfl rfl (cn j) e7 (F3 (rs:= []) 6 rfl rfl rfl (cn j) e7 (F3 (rs:= []) 7 rfl rfl rfl (cn j) e7 (Gx (rs:= []) 8 rfl rfl rfl e7 (Gx (rs:= []) 9 rfl rfl rfl e7 (Gx (rs:= []) 10 rfl rfl rfl e7 (Gx (rs:= []) 11 rfl rfl rfl e7 (Gx (rs:= []) 12 rfl rfl rfl e7 (Gx (rs:= []) 13 rfl rfl rfl e7 (Gx (rs:= []) 14 rfl rfl rfl e7 (Gx (rs:= []) 15 rfl rfl rfl e7 (Gx (rs:= []) 16 rfl rfl rfl e7 (F3 (rs:= []) 17 rfl rfl rfl (cn j) e7 (qt (v:= .bool true) 18 rfl (fun _ _=>Gb rfl (cn j) rfl) (qv 19 rfl rfl (F3 (rs:= []) 20 rfl rfl rfl rfl e7 (F3 (rs:= []) 21 rfl rfl rfl rfl e7 (F3 (rs:= []) 22 rfl rfl rfl rfl e7 (F3 (rs:= []) 23 rfl rfl rfl rfl e7 (qt (v:= .bool true) 24 rfl (fun _ _=>Gb rfl rfl rfl) (qn (FW (jt (sr (An rfl (rt (tR (bR (tR (tR (bR (tR (rs ?_))))))))))))))))))))))))))))))))
 have bB:=E.pk []
 obtain rfl:_=false:=hr.symm.trans (et (iN C) (jq (et (t) (et (congrArg (fun q=>fJ l0 q b) z) (et (ai u) (gB j))))))
 exact⟨rfl,bB⟩
 refine jF (dF aK) (D1 (F4 ?_))
 have aH:fJ l0 l0 0=C1 ():=et (t) (et (congrArg (fun q=>fJ l0 q b) (eZ (ls:=l0) (i:=b) e6)) rfl)
 refine F4 (Gg (FW (sr (An rfl (rt (rs ?_))))))
 have bC:=S.pk []
 obtain rfl:_=true:=hr.symm.trans (et (iN C) (nS aH))
 exact⟨rfl,bC⟩
def iR (a:Bool):Int:=
 if a=true then 0 else 1
theorem l7 (w:World) (D:Nat→Prop) (b:Bool) (e:Int) (H:Own w D w []) (hr:iR b=e):
    Calls y4 39 #[.bool b] w (dR fun v w'=>v=vI e∧Own w D w' []):=by
 refine cb Tryz.func39 ?_
 refine sr (An rfl (FU (sr (Mz rfl (Kz (.bool (!b)) (nt ?_))))))
 rcases JQ (b) with a | a
 refine jF (cn a) (sk (sr (An rfl (rt (rs ?_)))))
 have c:=H.pk []
 obtain rfl:_=0:=hr.symm.trans (ip a)
 exact⟨rfl,c⟩
 refine jT (cn a) (sr (An rfl (rt (tR (rs ?_)))))
 have d:=H.pk []
 obtain rfl:_=1:=hr.symm.trans (gB a)
 exact⟨rfl,d⟩
def jc (c:dC):Int:=
 bnd (iJ c.av 4) fun d=>if d=true then if((c.ax:Nat):Int) < 2147483648 then bnd (nV c) fun e=>if e=true then bnd (nC c) fun f=>if f=true then bnd (oW c.aI.ls) fun g=>bnd (iR g) fun h=>h else bnd (iR false) fun i=>i else bnd (iR false) fun j=>j else bnd (iR false) fun a=>a else bnd (iR false) fun b=>b
set_option maxHeartbeats 1000000 in
theorem nW (w:World) (D:Nat→Prop) (a:dC) (i:Option Addr) (P e:Nat) (j:Option Addr) (Q f:Nat) (z:List aA) (g:Option Addr) (R d:Nat) (n:List aZ) (r0:Int) (H:Own w D w []) (Z:P=a.ag.ls.length) (G:Ro w D fun w'=>bD w' 2 i a.ag.ls.length (q6 bv.cells a.ag.ls)) (bI:a.ag.ls.length≤e∧a.ag.ls.length≤9223372036854775807) (B:s8 aA.abs z=a.aj.ls) (aa:Q=a.aj.ls.length) (I:Ro w D fun w'=>bD w' 5 j a.aj.ls.length (q6 aA.cells z)) (bJ:a.aj.ls.length≤f∧a.aj.ls.length≤9223372036854775807) (u:∀ x ∈ z,Ro w D (fun w'=>bD w' 1 x.av.A x.av.ls.length (q6 (eI .i64) x.av.ls))∧(x.av.ls.length≤x.av.c∧x.av.ls.length≤9223372036854775807)) (y:s8 aZ.abs n=a.aI.ls) (ae:R=a.aI.ls.length) (C:Ro w D fun w'=>bD w' 4 g a.aI.ls.length (q6 aZ.cells n)) (bK:a.aI.ls.length≤d∧a.aI.ls.length≤9223372036854775807) (b:∀ x ∈ n,Ro w D (fun w'=>bD w' 3 x.ah.A x.ah.ls.length (q6 af.cells x.ah.ls))∧(x.ah.ls.length≤x.ah.c∧x.ah.ls.length≤9223372036854775807)∧(∀ E ∈ x.ah.ls,Ro w D (fun w'=>bD w' 2 E.au.A E.au.ls.length (q6 aL.cells E.au.ls))∧(E.au.ls.length≤E.au.c∧E.au.ls.length≤9223372036854775807))) (dw:a.ag.ls.length≤140737488355328∧a.aj.ls.length≤140737488355328∧a.aI.ls.length≤140737488355328) (hr:jc a=r0):
    Calls y4 19 #[.agg #[vI a.av,vU a.ax,vU a.bf,vU a.aK, .slice i P e, .slice j Q f, .slice g R d]] w (dR fun v w'=>v=vI r0∧Own w D w' []):=by
 subst Z aa ae
 have bG:=az B
 have bH:=az y
 refine cb Tryz.func19 ?_
 refine sr ?_
 refine dM [vI a.av,vU a.ax,vU a.bf,vU a.aK, .slice i a.ag.ls.length e, .slice j a.aj.ls.length f, .slice g a.aI.ls.length d] 33 H ?_
 intro ag dx aF
 refine Ar rfl (Kz (vP ag 0) (Lz (vI a.av) aF 0 C6 ?_))
 obtain⟨aG,o⟩:∃ q,iJ a.av 4=q:=⟨_,rfl⟩
 obtain⟨dz,aH,bW,aI,bX⟩:=FY aF
 refine cl E2 (lT _ _ a.av 4 aG aH o) ?_
 rintro _ dA ⟨rfl,aJ⟩
 have J:=aI _ _ aJ
 refine Mz rfl ?_
 rcases JQ (aG) with h | h
 refine Gz (vP ag 1) h (Gl (vU a.ax) h J 0 E1 (Gz (.bool (decide (((a.ax:Nat):Int) < 2147483648))) h (fw (.bool (decide (((a.ax:Nat):Int) < 2147483648))) (Gb rfl h rfl) (Mz rfl ?_))))
 by_cases l:((a.ax:Nat):Int) < 2147483648
 refine Ga ([vI a.av,vU a.ax,vU a.bf,vU a.aK, .slice i a.ag.ls.length e, .slice j a.aj.ls.length f, .slice g a.aI.ls.length d]) (dT l) J 0 Tryz.isAgg33 Tryz.sizeOf33 ?_
 obtain⟨ah,F⟩:∃ q,nV a=q:=⟨_,rfl⟩
 obtain⟨dB,aK,p,aM,bY⟩:=FY J
 refine uX (decide_eq_true l) Tryz.call41 (uS _ _ a i a.ag.ls.length e j a.aj.ls.length f z g a.aI.ls.length d n ah aK rfl (p _ G) (show a.ag.ls.length≤e∧a.ag.ls.length≤9223372036854775807 from by omega) B rfl (p _ I) (show a.aj.ls.length≤f∧a.aj.ls.length≤9223372036854775807 from by omega) (fun r s=>⟨p _ (u r s).1,(u r s).2⟩) y rfl (p _ C) (show a.aI.ls.length≤d∧a.aI.ls.length≤9223372036854775807 from by omega) (fun r s=>⟨p _ (b r s).1,(b r s).2.1,(fun E S=>⟨p _ ((b r s).2.2 E S).1,((b r s).2.2 E S).2⟩)⟩) e8 F) ?_
 rintro _ dD ⟨rfl,aN⟩
 have aj:=aM _ _ aN
 refine fw (.bool ah) (Gb rfl (dT l) rfl) (Mz rfl ?_)
 rcases JQ (ah) with m | m
 refine Ga ([vI a.av,vU a.ax,vU a.bf,vU a.aK, .slice i a.ag.ls.length e, .slice j a.aj.ls.length f, .slice g a.aI.ls.length d]) m aj 0 Tryz.isAgg33 Tryz.sizeOf33 ?_
 obtain⟨ak,K⟩:∃ q,nC a=q:=⟨_,rfl⟩
 obtain⟨dE,aO,t,aP,bZ⟩:=FY aj
 refine Ha rfl rfl m rfl (Gd Tryz.call42 rfl (uD _ _ a i a.ag.ls.length e j a.aj.ls.length f z g a.aI.ls.length d n ak aO rfl (t _ G) (show a.ag.ls.length≤e∧a.ag.ls.length≤9223372036854775807 from by omega) B rfl (t _ I) (show a.aj.ls.length≤f∧a.aj.ls.length≤9223372036854775807 from by omega) (fun r s=>⟨t _ (u r s).1,(u r s).2⟩) y rfl (t _ C) (show a.aI.ls.length≤d∧a.aI.ls.length≤9223372036854775807 from by omega) (fun r s=>⟨t _ (b r s).1,(b r s).2.1,(fun E S=>⟨t _ ((b r s).2.2 E S).1,((b r s).2.2 E S).2⟩)⟩) e8 K) ?_)
 rintro _ dG ⟨rfl,aQ⟩
 have au:=aP _ _ aQ
 refine fw (.bool ak) (Gb rfl m rfl) (Mz rfl ?_)
 rcases JQ (ak) with k | k
 refine Gz (vP ag 6) k (Gl (.slice g a.aI.ls.length d) k au 0 Tryz.isAgg31 ?_)
 obtain⟨O,T⟩:∃ q,oW a.aI.ls=q:=⟨_,rfl⟩
 obtain⟨dH,aR,L,aS,cu⟩:=FY au
 refine Ha rfl rfl k rfl (Gd Tryz.call43 rfl (wB _ _ g a.aI.ls.length d n a.aI.ls O aR y (L _ C) (fun r s=>⟨L _ (b r s).1,(b r s).2.1,(fun E S=>⟨L _ ((b r s).2.2 E S).1,((b r s).2.2 E S).2⟩)⟩) rfl e6 T) ?_)
 rintro _ dI ⟨rfl,aT⟩
 have bL:=aS _ _ aT
 refine fw (.bool O) (Gb rfl k rfl) ?_
 obtain⟨aU,U⟩:∃ q,iR O=q:=⟨_,rfl⟩
 obtain⟨dJ,aV,cz,aW,cB⟩:=FY bL
 refine cl F1 (l7 _ _ O aU aV U) ?_
 rintro _ dK ⟨rfl,aX⟩
 have bM:=aW _ _ aX
 refine An rfl (rt (rs ?_))
 have bN:=bM.pk []
 obtain rfl:_=aU:=hr.symm.trans (et (ai o) (et (ip h) (et (ip l) (et (ai F) (et (ip m) (et (ai K) (et (ip k) (et (ai T) (ai U)))))))))
 exact⟨rfl,bN⟩
 refine Sz k (Sz k (Sz k (fw (.bool false) (FX rfl k rfl) ?_)))
 obtain⟨aY,V⟩:∃ q,iR false=q:=⟨_,rfl⟩
 obtain⟨dL,bf,cK,bg,cO⟩:=FY au
 refine cl F1 (l7 _ _ false aY bf V) ?_
 rintro _ dN ⟨rfl,bi⟩
 have bO:=bg _ _ bi
 refine An rfl (rt (rs ?_))
 have bP:=bO.pk []
 obtain rfl:_=aY:=hr.symm.trans (et (ai o) (et (ip h) (et (ip l) (et (ai F) (et (ip m) (et (ai K) (et (gB k) (ai V))))))))
 exact⟨rfl,bP⟩
 refine Sz m (Sz m (fw (.bool false) (FX rfl m rfl) (Mz rfl (Sz rfl (Sz rfl (Sz rfl (fw (.bool false) (FX rfl rfl rfl) ?_)))))))
 obtain⟨bn,W⟩:∃ q,iR false=q:=⟨_,rfl⟩
 obtain⟨dO,bq,cZ,bu,df⟩:=FY aj
 refine cl F1 (l7 _ _ false bn bq W) ?_
 rintro _ dP ⟨rfl,bz⟩
 have bQ:=bu _ _ bz
 refine An rfl (rt (rs ?_))
 have bA:=bQ.pk []
 obtain rfl:_=bn:=hr.symm.trans (et (ai o) (et (ip h) (et (ip l) (et (ai F) (et (gB m) (ai W))))))
 exact⟨rfl,bA⟩
 refine Sz (dF l) (Sz (dF l) (fw (.bool false) (FX rfl (dF l) rfl) (Mz rfl (Sz rfl (Sz rfl (fw (.bool false) (FX rfl rfl rfl) (Mz rfl (Sz rfl (Sz rfl (Sz rfl (fw (.bool false) (FX rfl rfl rfl) ?_)))))))))))
 obtain⟨X,M⟩:∃ q,iR false=q:=⟨_,rfl⟩
 obtain⟨dh,av,bR,ax,bS⟩:=FY J
 refine cl F1 (l7 _ _ false X av M) ?_
 rintro _ di ⟨rfl,ay⟩
 have bB:=ax _ _ ay
 refine An rfl (rt (rs ?_))
 have bC:=bB.pk []
 obtain rfl:_=X:=hr.symm.trans (et (ai o) (et (ip h) (et (iN l) (ai M))))
 exact⟨rfl,bC⟩
 refine Sz h (Sz h (Sz h (fw (.bool false) (FX rfl h rfl) (Mz rfl (Sz rfl (Sz rfl (fw (.bool false) (FX rfl rfl rfl) (Mz rfl (Sz rfl (Sz rfl (fw (.bool false) (FX rfl rfl rfl) (Mz rfl (Sz rfl (Sz rfl (Sz rfl (fw (.bool false) (FX rfl rfl rfl) ?_))))))))))))))))
 obtain⟨Y,N⟩:∃ q,iR false=q:=⟨_,rfl⟩
 obtain⟨dm,aB,bT,aC,bU⟩:=FY J
 refine cl F1 (l7 _ _ false Y aB N) ?_
 rintro _ dn ⟨rfl,aD⟩
 have bE:=aC _ _ aD
 refine An rfl (rt (rs ?_))
 have bF:=bE.pk []
 obtain rfl:_=Y:=hr.symm.trans (et (ai o) (et (gB h) (ai N)))
 exact⟨rfl,bF⟩
end Go.Proofs.YtbkagebjhbphaaaGreat
