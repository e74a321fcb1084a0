/-
 record: the layers below; which states may be.
-/
import Derived.Test.YtbkagebjhbphaaaGreatKy
import Derived.Test.YtbkagebjhbphaaaGreatKl
import Derived.Test.YtbkagebjhbphaaaGreatWiX
import Derived.Test.YtbkagebjhbphaaaGreatKi
namespace Go.Proofs.YtbkagebjhbphaaaGreat
open Int renaming toNat→D0
open IntKind renaming i64→C5,u64→D1
open List renaming drop→r3,flatMap→q3,getD→C0,length→r8,length_map→s3,map→s5,mem_cons→u9,mem_of_getElem?→D3,not_mem_nil→y6,toArray→v9
open Ll renaming mk→E2
open Nat renaming le_refl→o3
open Sum renaming inl→B9,inr→C1
open _root_.Go.Proofs.Tryz renaming call39→E7,call40→E0,isAgg149→E4,isAgg28→D4,isAgg3→C4,isAgg30→D2,isAgg40→E3,isAgg58→E1,isAgg9→C2,prog→v8,sizeOf149→E6,underlying147→B5,underlying28→B8,underlying29→B7,underlying3→B1,underlying39→y4,underlying4→B6,underlying40→B4,underlying9→B3
open WL renaming nil→C6
open Wp renaming exit→C7,loop→C3
set_option maxRecDepth 100000
open Go.RowKit
set_option linter.unusedVariables false
set_option linter.unusedSectionVars false
set_option linter.unusedSimpArgs false
theorem qX:Elem v8 39 72 6 80:=lv (z:= .agg #[.int .i64 0, .string ⟨v9 ([])⟩, .string ⟨v9 ([])⟩, .string ⟨v9 ([])⟩, .string ⟨v9 ([])⟩, .int .i64 0]) y4 e7 rfl f4
structure bi where
 aD:Int
 bY:List UInt8
 aT:List UInt8
 bF:List UInt8
 bT:List UInt8
 bS:Int
def bi.cells (x:bi):List Value:= [.int .i64 x.aD, .string ⟨v9 x.bY⟩, .string ⟨v9 x.aT⟩, .string ⟨v9 x.bF⟩, .string ⟨v9 x.bT⟩, .int .i64 x.bS]
instance:Bk bi:=⟨fun x _=>bk x.aD+(bk x.bY+(bk x.aT+(bk x.bF+(bk x.bT+(bk x.bS+(0))))))⟩
theorem bi.len:∀ x,(bi.cells x).length=6:=fun _=>rfl
theorem bi.one:∀ x, ∀ u ∈ bi.cells x,u.oneCell'=true:=fun x u hu=>by
 simp only [bi.cells,u9,y6,or_false] at hu
 rcases hu with rfl | rfl | rfl | rfl | rfl | rfl <;> rfl
def JG (w:World) (x:bi):Prop:=((-9223372036854775808)≤x.aD∧x.aD≤9223372036854775807)∧(x.bY.length≤140737488351232)∧(x.aT.length≤140737488351232)∧(x.bF.length≤140737488351232)∧(x.bT.length≤140737488351232)∧((-9223372036854775808)≤x.bS∧x.bS≤9223372036854775807)
theorem Df (w:World):lm v8 w 72 6 bi.cells (JG w):=
 (nE (sz:=6) Tryz.underlying72 e7 (fZ.cons (i:=0) (off:=0) (s:=1) rfl rfl (mg (k:= .i64) (lo:= -9223372036854775808) (hi:=9223372036854775807) B1 e7 f4 f4) (fZ.cons (i:=1) (off:=1) (s:=1) rfl rfl (kK B3 e7) (fZ.cons (i:=2) (off:=2) (s:=1) rfl rfl (kK B3 e7) (fZ.cons (i:=3) (off:=3) (s:=1) rfl rfl (kK B3 e7) (fZ.cons (i:=4) (off:=4) (s:=1) rfl rfl (kK B3 e7) (fZ.cons (i:=5) (off:=5) (s:=1) rfl rfl (mg (k:= .i64) (lo:= -9223372036854775808) (hi:=9223372036854775807) B1 e7 f4 f4) fZ.nil))))))).map (fun p=>⟨p.1,p.2.1,p.2.2.1,p.2.2.2.1,p.2.2.2.2.1,p.2.2.2.2.2.1⟩) bi.len (fun _=>rfl) (fun _ h=>⟨h.1,h.2.1,h.2.2.1,h.2.2.2.1,h.2.2.2.2.1,h.2.2.2.2.2.1⟩) fun _=>o3 _
instance:Inhabited bi:=⟨⟨default,default,default,default,default,default⟩⟩
theorem om:Elem v8 58 3 1 8:=lv (z:= .int .i64 0) Tryz.underlying58 e7 rfl f4
structure bG where
 eG:Int
 aH:Sv bi
 aJ:Sv Int
def bG.cells (x:bG):List Value:= [.int .i64 x.eG, .slice x.aH.A x.aH.ls.length x.aH.c, .slice x.aJ.A x.aJ.ls.length x.aJ.c]
instance:Bk bG:=⟨fun x _=>bk x.eG+(bk x.aH+(bk x.aJ+(0)))⟩
theorem bG.len:∀ x,(bG.cells x).length=3:=fun _=>rfl
theorem bG.one:∀ x, ∀ u ∈ bG.cells x,u.oneCell'=true:=fun x u hu=>by
 simp only [bG.cells,u9,y6,or_false] at hu
 rcases hu with rfl | rfl | rfl <;> rfl
def KJ (w:World) (x:bG):Prop:=((-9223372036854775808)≤x.eG∧x.eG≤9223372036854775807)∧(mI w 6 80 bi.cells (JG w) x.aH)∧(mI w 1 8 (eI .i64) (fun n=>(-9223372036854775808)≤n∧n≤9223372036854775807) x.aJ)
instance:Inhabited bG:=⟨⟨default,default,default⟩⟩
structure gF where
 eG:Int
 aH:Ll bi
 aJ:Ll Int
instance:Inhabited gF:=⟨⟨default,default,default⟩⟩
def bG.abs (x:bG):gF:=⟨x.eG,⟨x.aH.ls⟩,⟨x.aJ.ls⟩⟩
def bG.own (x:bG):List HP:= [row x.aH.A x.aH.ls.length x.aH.c (q3 bi.cells x.aH.ls) 72 6,row x.aJ.A x.aJ.ls.length x.aJ.c (q3 (eI .i64) x.aJ.ls) 3 1]
theorem G7:Elem v8 22 44 25 272:=lv (z:= .agg #[.int .i64 0, .int .i64 0, .int .i64 0, .int .i64 0, .int .i64 0, .int .i64 0, .int .i64 0, .int .i64 0, .int .u64 0, .int .u64 0, .int .u64 0, .int .u64 0, .int .u64 0, .int .u64 0, .int .u64 0, .int .u64 0, .int .u64 0, .bool false, .string ⟨v9 ([])⟩, .string ⟨v9 ([])⟩, .slice none 0 0, .slice none 0 0, .slice none 0 0, .bool false, .string ⟨v9 ([])⟩]) Tryz.underlying22 e7 rfl f4
structure bC where
 bF:List UInt8
 bT:List UInt8
def bC.cells (x:bC):List Value:= [.string ⟨v9 x.bF⟩, .string ⟨v9 x.bT⟩]
instance:Bk bC:=⟨fun x _=>bk x.bF+(bk x.bT+(0))⟩
theorem bC.len:∀ x,(bC.cells x).length=2:=fun _=>rfl
theorem bC.one:∀ x, ∀ u ∈ bC.cells x,u.oneCell'=true:=fun x u hu=>by
 simp only [bC.cells,u9,y6,or_false] at hu
 rcases hu with rfl | rfl <;> rfl
def JW (w:World) (x:bC):Prop:=(x.bF.length≤140737488351232)∧(x.bT.length≤140737488351232)
theorem AB (w:World):lm v8 w 38 2 bC.cells (JW w):=
 (nE (sz:=2) Tryz.underlying38 e7 (fZ.cons (i:=0) (off:=0) (s:=1) rfl rfl (kK B3 e7) (fZ.cons (i:=1) (off:=1) (s:=1) rfl rfl (kK B3 e7) fZ.nil))).map (fun p=>⟨p.1,p.2.1⟩) bC.len (fun _=>rfl) (fun _ h=>⟨h.1,h.2.1⟩) fun _=>o3 _
instance:Inhabited bC:=⟨⟨default,default⟩⟩
theorem sI:Elem v8 40 149 3 48:=lv (z:= .agg #[.bool false, .string ⟨v9 ([])⟩, .slice none 0 0]) B4 e7 rfl f4
theorem ko:Elem v8 147 153 2 32:=lv (z:= .agg #[.string ⟨v9 ([])⟩, .string ⟨v9 ([])⟩]) B5 e7 rfl f4
structure aI where
 bY:List UInt8
 aT:List UInt8
def aI.cells (x:aI):List Value:= [.string ⟨v9 x.bY⟩, .string ⟨v9 x.aT⟩]
instance:Bk aI:=⟨fun x _=>bk x.bY+(bk x.aT+(0))⟩
theorem aI.len:∀ x,(aI.cells x).length=2:=fun _=>rfl
theorem aI.one:∀ x, ∀ u ∈ aI.cells x,u.oneCell'=true:=fun x u hu=>by
 simp only [aI.cells,u9,y6,or_false] at hu
 rcases hu with rfl | rfl <;> rfl
def J7 (w:World) (x:aI):Prop:=(x.bY.length≤140737488351232)∧(x.aT.length≤140737488351232)
theorem Bw (w:World):lm v8 w 153 2 aI.cells (J7 w):=
 (nE (sz:=2) Tryz.underlying153 e7 (fZ.cons (i:=0) (off:=0) (s:=1) rfl rfl (kK B3 e7) (fZ.cons (i:=1) (off:=1) (s:=1) rfl rfl (kK B3 e7) fZ.nil))).map (fun p=>⟨p.1,p.2.1⟩) aI.len (fun _=>rfl) (fun _ h=>⟨h.1,h.2.1⟩) fun _=>o3 _
instance:Inhabited aI:=⟨⟨default,default⟩⟩
structure ae where
 eF:Bool
 aT:List UInt8
 ak:Sv aI
def ae.cells (x:ae):List Value:= [.bool x.eF, .string ⟨v9 x.aT⟩, .slice x.ak.A x.ak.ls.length x.ak.c]
instance:Bk ae:=⟨fun x _=>bk x.eF+(bk x.aT+(bk x.ak+(0)))⟩
theorem ae.len:∀ x,(ae.cells x).length=3:=fun _=>rfl
theorem ae.one:∀ x, ∀ u ∈ ae.cells x,u.oneCell'=true:=fun x u hu=>by
 simp only [ae.cells,u9,y6,or_false] at hu
 rcases hu with rfl | rfl | rfl <;> rfl
def Jk (w:World) (x:ae):Prop:=(True)∧(x.aT.length≤140737488351232)∧(mI w 2 32 aI.cells (J7 w) x.ak)
theorem zG (w:World):lm v8 w 149 3 ae.cells (Jk w):=
 (nE (sz:=3) Tryz.underlying149 e7 (fZ.cons (i:=0) (off:=0) (s:=1) rfl rfl (uW B6 e7) (fZ.cons (i:=1) (off:=1) (s:=1) rfl rfl (kK B3 e7) (fZ.cons (i:=2) (off:=2) (s:=1) rfl rfl (qx (bytes:=32) B5 e7 e7 f4 (Bw w)) fZ.nil)))).map (fun p=>⟨p.1,p.2.1,p.2.2.1⟩) ae.len (fun _=>rfl) (fun _ h=>⟨h.1,h.2.1,h.2.2.1⟩) fun _=>o3 _
instance:Inhabited ae:=⟨⟨default,default,default⟩⟩
structure aQ where
 eF:Bool
 aT:List UInt8
 ak:Ll aI
instance:Inhabited aQ:=⟨⟨default,default,default⟩⟩
def ae.abs (x:ae):aQ:=⟨x.eF,x.aT,⟨x.ak.ls⟩⟩
def ae.own (x:ae):List HP:= [row x.ak.A x.ak.ls.length x.ak.c (q3 aI.cells x.ak.ls) 153 2]
theorem qY:Elem v8 29 89 2 24:=lv (z:= .agg #[.string ⟨v9 ([])⟩, .int .i64 0]) B7 e7 rfl f4
structure aY where
 bF:List UInt8
 eG:Int
def aY.cells (x:aY):List Value:= [.string ⟨v9 x.bF⟩, .int .i64 x.eG]
instance:Bk aY:=⟨fun x _=>bk x.bF+(bk x.eG+(0))⟩
theorem aY.len:∀ x,(aY.cells x).length=2:=fun _=>rfl
theorem aY.one:∀ x, ∀ u ∈ aY.cells x,u.oneCell'=true:=fun x u hu=>by
 simp only [aY.cells,u9,y6,or_false] at hu
 rcases hu with rfl | rfl <;> rfl
def JH (w:World) (x:aY):Prop:=(x.bF.length≤140737488351232)∧((-9223372036854775808)≤x.eG∧x.eG≤9223372036854775807)
theorem AC (w:World):lm v8 w 89 2 aY.cells (JH w):=
 (nE (sz:=2) Tryz.underlying89 e7 (fZ.cons (i:=0) (off:=0) (s:=1) rfl rfl (kK B3 e7) (fZ.cons (i:=1) (off:=1) (s:=1) rfl rfl (mg (k:= .i64) (lo:= -9223372036854775808) (hi:=9223372036854775807) B1 e7 f4 f4) fZ.nil))).map (fun p=>⟨p.1,p.2.1⟩) aY.len (fun _=>rfl) (fun _ h=>⟨h.1,h.2.1⟩) fun _=>o3 _
instance:Inhabited aY:=⟨⟨default,default⟩⟩
structure bf where
 aD:Int
 aJ:Int
 fI:Int
 aK:Int
 dz:Int
 eH:Int
 aP:Nat
 av:Nat
 aN:Nat
 dY:Nat
 aV:Nat
 aL:Nat
 dL:Nat
 cu:Nat
 xN:Nat
 cz:Bool
 bU:bC
 aH:Sv bi
 ai:Sv ae
 ag:Sv aY
def bf.cells (x:bf):List Value:= [.int .i64 x.aD, .int .i64 x.aJ, .int .i64 x.fI, .int .i64 x.aK, .int .i64 x.dz, .int .i64 x.eH, .int .u64 ((x.aP:Nat):Int), .int .u64 ((x.av:Nat):Int), .int .u64 ((x.aN:Nat):Int), .int .u64 ((x.dY:Nat):Int), .int .u64 ((x.aV:Nat):Int), .int .u64 ((x.aL:Nat):Int), .int .u64 ((x.dL:Nat):Int), .int .u64 ((x.cu:Nat):Int), .int .u64 ((x.xN:Nat):Int), .bool x.cz, .string ⟨v9 x.bU.bF⟩, .string ⟨v9 x.bU.bT⟩, .slice x.aH.A x.aH.ls.length x.aH.c, .slice x.ai.A x.ai.ls.length x.ai.c, .slice x.ag.A x.ag.ls.length x.ag.c]
instance:Bk bf:=⟨fun x _=>bk x.aD+(bk x.aJ+(bk x.fI+(bk x.aK+(bk x.dz+(bk x.eH+(bk x.aP+(bk x.av+(bk x.aN+(bk x.dY+(bk x.aV+(bk x.aL+(bk x.dL+(bk x.cu+(bk x.xN+(bk x.cz+(bk x.bU+(bk x.aH+(bk x.ai+(bk x.ag+(0))))))))))))))))))))⟩
theorem bf.len:∀ x,(bf.cells x).length=21:=fun _=>rfl
theorem bf.one:∀ x, ∀ u ∈ bf.cells x,u.oneCell'=true:=fun x u hu=>by
 simp only [bf.cells,u9,y6,or_false] at hu
 rcases hu with rfl | rfl | rfl | rfl | rfl | rfl | rfl | rfl | rfl | rfl | rfl | rfl | rfl | rfl | rfl | rfl | rfl | rfl | rfl | rfl | rfl <;> rfl
def JO (w:World) (x:bf):Prop:=((-9223372036854775808)≤x.aD∧x.aD≤9223372036854775807)∧((-9223372036854775808)≤x.aJ∧x.aJ≤9223372036854775807)∧((-9223372036854775808)≤x.fI∧x.fI≤9223372036854775807)∧((-9223372036854775808)≤x.aK∧x.aK≤9223372036854775807)∧((-9223372036854775808)≤x.dz∧x.dz≤9223372036854775807)∧((-9223372036854775808)≤x.eH∧x.eH≤9223372036854775807)∧(x.aP≤18446744073709551615)∧(x.av≤18446744073709551615)∧(x.aN≤18446744073709551615)∧(x.dY≤18446744073709551615)∧(x.aV≤18446744073709551615)∧(x.aL≤18446744073709551615)∧(x.dL≤18446744073709551615)∧(x.cu≤18446744073709551615)∧(x.xN≤18446744073709551615)∧(True)∧(JW w x.bU)∧(mI w 6 80 bi.cells (JG w) x.aH)∧(mI w 3 48 ae.cells (Jk w) x.ai)∧(mI w 2 24 aY.cells (JH w) x.ag)
theorem Cy (w:World):lm v8 w 42 21 bf.cells (JO w):=
 (nE (sz:=21) Tryz.underlying42 e7 (fZ.cons (i:=0) (off:=0) (s:=1) rfl rfl (mg (k:= .i64) (lo:= -9223372036854775808) (hi:=9223372036854775807) B1 e7 f4 f4) (fZ.cons (i:=1) (off:=1) (s:=1) rfl rfl (mg (k:= .i64) (lo:= -9223372036854775808) (hi:=9223372036854775807) B1 e7 f4 f4) (fZ.cons (i:=2) (off:=2) (s:=1) rfl rfl (mg (k:= .i64) (lo:= -9223372036854775808) (hi:=9223372036854775807) B1 e7 f4 f4) (fZ.cons (i:=3) (off:=3) (s:=1) rfl rfl (mg (k:= .i64) (lo:= -9223372036854775808) (hi:=9223372036854775807) B1 e7 f4 f4) (fZ.cons (i:=4) (off:=4) (s:=1) rfl rfl (mg (k:= .i64) (lo:= -9223372036854775808) (hi:=9223372036854775807) B1 e7 f4 f4) (fZ.cons (i:=5) (off:=5) (s:=1) rfl rfl (mg (k:= .i64) (lo:= -9223372036854775808) (hi:=9223372036854775807) B1 e7 f4 f4) (fZ.cons (i:=6) (off:=6) (s:=1) rfl rfl (nX (k:= .u64) (hi:=18446744073709551615) B8 e7 f4 f4) (fZ.cons (i:=7) (off:=7) (s:=1) rfl rfl (nX (k:= .u64) (hi:=18446744073709551615) B8 e7 f4 f4) (fZ.cons (i:=8) (off:=8) (s:=1) rfl rfl (nX (k:= .u64) (hi:=18446744073709551615) B8 e7 f4 f4) (fZ.cons (i:=9) (off:=9) (s:=1) rfl rfl (nX (k:= .u64) (hi:=18446744073709551615) B8 e7 f4 f4) (fZ.cons (i:=10) (off:=10) (s:=1) rfl rfl (nX (k:= .u64) (hi:=18446744073709551615) B8 e7 f4 f4) (fZ.cons (i:=11) (off:=11) (s:=1) rfl rfl (nX (k:= .u64) (hi:=18446744073709551615) B8 e7 f4 f4) (fZ.cons (i:=12) (off:=12) (s:=1) rfl rfl (nX (k:= .u64) (hi:=18446744073709551615) B8 e7 f4 f4) (fZ.cons (i:=13) (off:=13) (s:=1) rfl rfl (nX (k:= .u64) (hi:=18446744073709551615) B8 e7 f4 f4) (fZ.cons (i:=14) (off:=14) (s:=1) rfl rfl (nX (k:= .u64) (hi:=18446744073709551615) B8 e7 f4 f4) (fZ.cons (i:=15) (off:=15) (s:=1) rfl rfl (uW B6 e7) (fZ.cons (i:=16) (off:=16) (s:=2) rfl rfl (AB w) (fZ.cons (i:=17) (off:=18) (s:=1) rfl rfl (qx (bytes:=80) y4 e7 e7 f4 (Df w)) (fZ.cons (i:=18) (off:=19) (s:=1) rfl rfl (qx (bytes:=48) B4 e7 e7 f4 (zG w)) (fZ.cons (i:=19) (off:=20) (s:=1) rfl rfl (qx (bytes:=24) B7 e7 e7 f4 (AC w)) fZ.nil))))))))))))))))))))).map (fun p=>⟨p.1,p.2.1,p.2.2.1,p.2.2.2.1,p.2.2.2.2.1,p.2.2.2.2.2.1,p.2.2.2.2.2.2.1,p.2.2.2.2.2.2.2.1,p.2.2.2.2.2.2.2.2.1,p.2.2.2.2.2.2.2.2.2.1,p.2.2.2.2.2.2.2.2.2.2.1,p.2.2.2.2.2.2.2.2.2.2.2.1,p.2.2.2.2.2.2.2.2.2.2.2.2.1,p.2.2.2.2.2.2.2.2.2.2.2.2.2.1,p.2.2.2.2.2.2.2.2.2.2.2.2.2.2.1,p.2.2.2.2.2.2.2.2.2.2.2.2.2.2.2.1,p.2.2.2.2.2.2.2.2.2.2.2.2.2.2.2.2.1,p.2.2.2.2.2.2.2.2.2.2.2.2.2.2.2.2.2.1,p.2.2.2.2.2.2.2.2.2.2.2.2.2.2.2.2.2.2.1,p.2.2.2.2.2.2.2.2.2.2.2.2.2.2.2.2.2.2.2.1⟩) bf.len (fun _=>rfl) (fun _ h=>⟨h.1,h.2.1,h.2.2.1,h.2.2.2.1,h.2.2.2.2.1,h.2.2.2.2.2.1,h.2.2.2.2.2.2.1,h.2.2.2.2.2.2.2.1,h.2.2.2.2.2.2.2.2.1,h.2.2.2.2.2.2.2.2.2.1,h.2.2.2.2.2.2.2.2.2.2.1,h.2.2.2.2.2.2.2.2.2.2.2.1,h.2.2.2.2.2.2.2.2.2.2.2.2.1,h.2.2.2.2.2.2.2.2.2.2.2.2.2.1,h.2.2.2.2.2.2.2.2.2.2.2.2.2.2.1,h.2.2.2.2.2.2.2.2.2.2.2.2.2.2.2.1,h.2.2.2.2.2.2.2.2.2.2.2.2.2.2.2.2.1,h.2.2.2.2.2.2.2.2.2.2.2.2.2.2.2.2.2.1,h.2.2.2.2.2.2.2.2.2.2.2.2.2.2.2.2.2.2.1,h.2.2.2.2.2.2.2.2.2.2.2.2.2.2.2.2.2.2.2.1⟩) fun _=>o3 _
instance:Inhabited bf:=⟨⟨default,default,default,default,default,default,default,default,default,default,default,default,default,default,default,default,default,default,default,default⟩⟩
structure bL where
 aD:Int
 aJ:Int
 fI:Int
 aK:Int
 dz:Int
 eH:Int
 aP:Nat
 av:Nat
 aN:Nat
 dY:Nat
 aV:Nat
 aL:Nat
 dL:Nat
 cu:Nat
 xN:Nat
 cz:Bool
 bU:bC
 aH:Ll bi
 ai:Ll aQ
 ag:Ll aY
instance:Inhabited bL:=⟨⟨default,default,default,default,default,default,default,default,default,default,default,default,default,default,default,default,default,default,default,default⟩⟩
def bf.abs (x:bf):bL:=⟨x.aD,x.aJ,x.fI,x.aK,x.dz,x.eH,x.aP,x.av,x.aN,x.dY,x.aV,x.aL,x.dL,x.cu,x.xN,x.cz,x.bU,⟨x.aH.ls⟩,⟨s5 ae.abs x.ai.ls⟩,⟨x.ag.ls⟩⟩
def bf.own (x:bf):List HP:= [row x.aH.A x.aH.ls.length x.aH.c (q3 bi.cells x.aH.ls) 72 6,row x.ai.A x.ai.ls.length x.ai.c (q3 ae.cells x.ai.ls) 149 3,row x.ag.A x.ag.ls.length x.ag.c (q3 aY.cells x.ag.ls) 89 2,sepL (q3 ae.own x.ai.ls)]
abbrev gU (r:Int) (s:Int) (t:Int) (u:Int) (v:Int) (w:Int) (x:Nat) (y:Nat) (z:Nat) (A:Nat) (g:Nat) (h:Nat) (i:Nat) (j:Nat) (k:Nat) (l:Bool) (m:List UInt8) (n:List UInt8) (o:Option Addr) (a b:Nat) (p:Option Addr) (c d:Nat) (q:Option Addr) (e f:Nat):List Value:= [.int .i64 r, .int .i64 s, .int .i64 t, .int .i64 u, .int .i64 v, .int .i64 w, .int .u64 ((x:Nat):Int), .int .u64 ((y:Nat):Int), .int .u64 ((z:Nat):Int), .int .u64 ((A:Nat):Int), .int .u64 ((g:Nat):Int), .int .u64 ((h:Nat):Int), .int .u64 ((i:Nat):Int), .int .u64 ((j:Nat):Int), .int .u64 ((k:Nat):Int), .bool l, .string ⟨v9 m⟩, .string ⟨v9 n⟩, .slice o a b, .slice p c d, .slice q e f]
abbrev iH (x:bL) (a:Option Addr) (b:Nat) (c:Option Addr) (c1:Nat) (d:Option Addr) (c2:Nat):List Value:= [.int .i64 x.aD, .int .i64 x.aJ, .int .i64 x.fI, .int .i64 x.aK, .int .i64 x.dz, .int .i64 x.eH, .int .u64 ((x.aP:Nat):Int), .int .u64 ((x.av:Nat):Int), .int .u64 ((x.aN:Nat):Int), .int .u64 ((x.dY:Nat):Int), .int .u64 ((x.aV:Nat):Int), .int .u64 ((x.aL:Nat):Int), .int .u64 ((x.dL:Nat):Int), .int .u64 ((x.cu:Nat):Int), .int .u64 ((x.xN:Nat):Int), .bool x.cz, .string ⟨v9 x.bU.bF⟩, .string ⟨v9 x.bU.bT⟩, .slice a x.aH.ls.length b, .slice c x.ai.ls.length c1, .slice d x.ag.ls.length c2]
structure fM where
 iU:Int
 fI:Int
 az:bf
 dE:Bool
 bY:List UInt8
def fM.cells (x:fM):List Value:= [.int .i64 x.iU, .int .i64 x.fI, .int .i64 x.az.aD, .int .i64 x.az.aJ, .int .i64 x.az.fI, .int .i64 x.az.aK, .int .i64 x.az.dz, .int .i64 x.az.eH, .int .u64 ((x.az.aP:Nat):Int), .int .u64 ((x.az.av:Nat):Int), .int .u64 ((x.az.aN:Nat):Int), .int .u64 ((x.az.dY:Nat):Int), .int .u64 ((x.az.aV:Nat):Int), .int .u64 ((x.az.aL:Nat):Int), .int .u64 ((x.az.dL:Nat):Int), .int .u64 ((x.az.cu:Nat):Int), .int .u64 ((x.az.xN:Nat):Int), .bool x.az.cz, .string ⟨v9 x.az.bU.bF⟩, .string ⟨v9 x.az.bU.bT⟩, .slice x.az.aH.A x.az.aH.ls.length x.az.aH.c, .slice x.az.ai.A x.az.ai.ls.length x.az.ai.c, .slice x.az.ag.A x.az.ag.ls.length x.az.ag.c, .bool x.dE, .string ⟨v9 x.bY⟩]
instance:Bk fM:=⟨fun x _=>bk x.iU+(bk x.fI+(bk x.az+(bk x.dE+(bk x.bY+(0)))))⟩
theorem fM.len:∀ x,(fM.cells x).length=25:=fun _=>rfl
theorem fM.one:∀ x, ∀ u ∈ fM.cells x,u.oneCell'=true:=fun x u hu=>by
 simp only [fM.cells,u9,y6,or_false] at hu
 rcases hu with rfl | rfl | rfl | rfl | rfl | rfl | rfl | rfl | rfl | rfl | rfl | rfl | rfl | rfl | rfl | rfl | rfl | rfl | rfl | rfl | rfl | rfl | rfl | rfl | rfl <;> rfl
def JB (w:World) (x:fM):Prop:=((-9223372036854775808)≤x.iU∧x.iU≤9223372036854775807)∧((-9223372036854775808)≤x.fI∧x.fI≤9223372036854775807)∧(JO w x.az)∧(True)∧(x.bY.length≤140737488351232)
theorem Bz (w:World):lm v8 w 44 25 fM.cells (JB w):=
 (nE (sz:=25) Tryz.underlying44 e7 (fZ.cons (i:=0) (off:=0) (s:=1) rfl rfl (mg (k:= .i64) (lo:= -9223372036854775808) (hi:=9223372036854775807) B1 e7 f4 f4) (fZ.cons (i:=1) (off:=1) (s:=1) rfl rfl (mg (k:= .i64) (lo:= -9223372036854775808) (hi:=9223372036854775807) B1 e7 f4 f4) (fZ.cons (i:=2) (off:=2) (s:=21) rfl rfl (Cy w) (fZ.cons (i:=3) (off:=23) (s:=1) rfl rfl (uW B6 e7) (fZ.cons (i:=4) (off:=24) (s:=1) rfl rfl (kK B3 e7) fZ.nil)))))).map (fun p=>⟨p.1,p.2.1,p.2.2.1,p.2.2.2.1,p.2.2.2.2.1⟩) fM.len (fun _=>rfl) (fun _ h=>⟨h.1,h.2.1,h.2.2.1,h.2.2.2.1,h.2.2.2.2.1⟩) fun _=>o3 _
instance:Inhabited fM:=⟨⟨default,default,default,default,default⟩⟩
structure StepT where
 iU:Int
 fI:Int
 az:bL
 dE:Bool
 bY:List UInt8
instance:Inhabited StepT:=⟨⟨default,default,default,default,default⟩⟩
def fM.abs (x:fM):StepT:=⟨x.iU,x.fI,x.az.abs,x.dE,x.bY⟩
def fM.own (x:fM):List HP:= [row x.az.aH.A x.az.aH.ls.length x.az.aH.c (q3 bi.cells x.az.aH.ls) 72 6,row x.az.ai.A x.az.ai.ls.length x.az.ai.c (q3 ae.cells x.az.ai.ls) 149 3,row x.az.ag.A x.az.ag.ls.length x.az.ag.c (q3 aY.cells x.az.ag.ls) 89 2,sepL (q3 ae.own x.az.ai.ls)]
abbrev Gy (v:Int) (w:Int) (x:Int) (y:Int) (z:Int) (A:Int) (B:Int) (C:Int) (D:Nat) (E:Nat) (g:Nat) (h:Nat) (i:Nat) (j:Nat) (k:Nat) (l:Nat) (m:Nat) (n:Bool) (o:List UInt8) (p:List UInt8) (q:Option Addr) (a b:Nat) (r:Option Addr) (c d:Nat) (s:Option Addr) (e f:Nat) (t:Bool) (u:List UInt8):List Value:= [.int .i64 v, .int .i64 w, .int .i64 x, .int .i64 y, .int .i64 z, .int .i64 A, .int .i64 B, .int .i64 C, .int .u64 ((D:Nat):Int), .int .u64 ((E:Nat):Int), .int .u64 ((g:Nat):Int), .int .u64 ((h:Nat):Int), .int .u64 ((i:Nat):Int), .int .u64 ((j:Nat):Int), .int .u64 ((k:Nat):Int), .int .u64 ((l:Nat):Int), .int .u64 ((m:Nat):Int), .bool n, .string ⟨v9 o⟩, .string ⟨v9 p⟩, .slice q a b, .slice r c d, .slice s e f, .bool t, .string ⟨v9 u⟩]
theorem l6:Elem v8 31 56 4 48:=lv (z:= .agg #[.int .i64 0, .int .u64 0, .int .u64 0, .slice none 0 0]) Tryz.underlying31 e7 rfl f4
structure aU where
 aK:Int
 av:Nat
 aP:Nat
 ai:Sv ae
def aU.cells (x:aU):List Value:= [.int .i64 x.aK, .int .u64 ((x.av:Nat):Int), .int .u64 ((x.aP:Nat):Int), .slice x.ai.A x.ai.ls.length x.ai.c]
instance:Bk aU:=⟨fun x _=>bk x.aK+(bk x.av+(bk x.aP+(bk x.ai+(0))))⟩
theorem aU.len:∀ x,(aU.cells x).length=4:=fun _=>rfl
theorem aU.one:∀ x, ∀ u ∈ aU.cells x,u.oneCell'=true:=fun x u hu=>by
 simp only [aU.cells,u9,y6,or_false] at hu
 rcases hu with rfl | rfl | rfl | rfl <;> rfl
def KL (w:World) (x:aU):Prop:=((-9223372036854775808)≤x.aK∧x.aK≤9223372036854775807)∧(x.av≤18446744073709551615)∧(x.aP≤18446744073709551615)∧(mI w 3 48 ae.cells (Jk w) x.ai)
instance:Inhabited aU:=⟨⟨default,default,default,default⟩⟩
structure eD where
 aK:Int
 av:Nat
 aP:Nat
 ai:Ll aQ
instance:Inhabited eD:=⟨⟨default,default,default,default⟩⟩
def aU.abs (x:aU):eD:=⟨x.aK,x.av,x.aP,⟨s5 ae.abs x.ai.ls⟩⟩
def aU.own (x:aU):List HP:= [row x.ai.A x.ai.ls.length x.ai.c (q3 ae.cells x.ai.ls) 149 3,sepL (q3 ae.own x.ai.ls)]
theorem kW:Elem v8 30 60 5 56:=lv (z:= .agg #[.int .u64 0, .int .i64 0, .int .u64 0, .int .u64 0, .slice none 0 0]) Tryz.underlying30 e7 rfl f4
structure aC where
 aN:Nat
 aK:Int
 av:Nat
 aP:Nat
 au:Sv Int
def aC.cells (x:aC):List Value:= [.int .u64 ((x.aN:Nat):Int), .int .i64 x.aK, .int .u64 ((x.av:Nat):Int), .int .u64 ((x.aP:Nat):Int), .slice x.au.A x.au.ls.length x.au.c]
instance:Bk aC:=⟨fun x _=>bk x.aN+(bk x.aK+(bk x.av+(bk x.aP+(bk x.au+(0)))))⟩
theorem aC.len:∀ x,(aC.cells x).length=5:=fun _=>rfl
theorem aC.one:∀ x, ∀ u ∈ aC.cells x,u.oneCell'=true:=fun x u hu=>by
 simp only [aC.cells,u9,y6,or_false] at hu
 rcases hu with rfl | rfl | rfl | rfl | rfl <;> rfl
def J8 (w:World) (x:aC):Prop:=(x.aN≤18446744073709551615)∧((-9223372036854775808)≤x.aK∧x.aK≤9223372036854775807)∧(x.av≤18446744073709551615)∧(x.aP≤18446744073709551615)∧(mI w 1 8 (eI .i64) (fun n=>(-9223372036854775808)≤n∧n≤9223372036854775807) x.au)
instance:Inhabited aC:=⟨⟨default,default,default,default,default⟩⟩
structure bH where
 aN:Nat
 aK:Int
 av:Nat
 aP:Nat
 au:Ll Int
instance:Inhabited bH:=⟨⟨default,default,default,default,default⟩⟩
def aC.abs (x:aC):bH:=⟨x.aN,x.aK,x.av,x.aP,⟨x.au.ls⟩⟩
def aC.own (x:aC):List HP:= [row x.au.A x.au.ls.length x.au.c (q3 (eI .i64) x.au.ls) 3 1]
structure nG where
 au:Int
 av:Nat
 aV:Nat
 aL:Nat
 ag:Sv aY
 aj:Sv aC
 aF:Sv aU
def nG.cells (x:nG):List Value:= [.int .i64 x.au, .int .u64 ((x.av:Nat):Int), .int .u64 ((x.aV:Nat):Int), .int .u64 ((x.aL:Nat):Int), .slice x.ag.A x.ag.ls.length x.ag.c, .slice x.aj.A x.aj.ls.length x.aj.c, .slice x.aF.A x.aF.ls.length x.aF.c]
instance:Bk nG:=⟨fun x _=>bk x.au+(bk x.av+(bk x.aV+(bk x.aL+(bk x.ag+(bk x.aj+(bk x.aF+(0)))))))⟩
theorem nG.len:∀ x,(nG.cells x).length=7:=fun _=>rfl
theorem nG.one:∀ x, ∀ u ∈ nG.cells x,u.oneCell'=true:=fun x u hu=>by
 simp only [nG.cells,u9,y6,or_false] at hu
 rcases hu with rfl | rfl | rfl | rfl | rfl | rfl | rfl <;> rfl
def KY (w:World) (x:nG):Prop:=((-9223372036854775808)≤x.au∧x.au≤9223372036854775807)∧(x.av≤18446744073709551615)∧(x.aV≤18446744073709551615)∧(x.aL≤18446744073709551615)∧(mI w 2 24 aY.cells (JH w) x.ag)∧(mI w 5 56 aC.cells (J8 w) x.aj)∧(mI w 4 48 aU.cells (KL w) x.aF)
instance:Inhabited nG:=⟨⟨default,default,default,default,default,default,default⟩⟩
structure cZ where
 au:Int
 av:Nat
 aV:Nat
 aL:Nat
 ag:Ll aY
 aj:Ll bH
 aF:Ll eD
instance:Inhabited cZ:=⟨⟨default,default,default,default,default,default,default⟩⟩
def nG.abs (x:nG):cZ:=⟨x.au,x.av,x.aV,x.aL,⟨x.ag.ls⟩,⟨s5 aC.abs x.aj.ls⟩,⟨s5 aU.abs x.aF.ls⟩⟩
def nG.own (x:nG):List HP:= [row x.ag.A x.ag.ls.length x.ag.c (q3 aY.cells x.ag.ls) 89 2,row x.aj.A x.aj.ls.length x.aj.c (q3 aC.cells x.aj.ls) 60 5,row x.aF.A x.aF.ls.length x.aF.c (q3 aU.cells x.aF.ls) 56 4,sepL (q3 aC.own x.aj.ls),sepL (q3 aU.own x.aF.ls)]
theorem uu:Elem v8 45 42 21 232:=lv (z:= .agg (gU 0 0 0 0 0 0 0 0 0 0 0 0 0 0 0 false ([]) ([]) none 0 0 none 0 0 none 0 0).toArray) Tryz.underlying45 e7 rfl f4
structure oW where
 fo:Sv bf
 jl:Bool
def oW.cells (x:oW):List Value:= [.slice x.fo.A x.fo.ls.length x.fo.c, .bool x.jl]
instance:Bk oW:=⟨fun x _=>bk x.fo+(bk x.jl+(0))⟩
theorem oW.len:∀ x,(oW.cells x).length=2:=fun _=>rfl
theorem oW.one:∀ x, ∀ u ∈ oW.cells x,u.oneCell'=true:=fun x u hu=>by
 simp only [oW.cells,u9,y6,or_false] at hu
 rcases hu with rfl | rfl <;> rfl
def K4 (w:World) (x:oW):Prop:=(mI w 21 232 bf.cells (JO w) x.fo)∧(True)
instance:Inhabited oW:=⟨⟨default,default⟩⟩
structure kC where
 fo:Ll bL
 jl:Bool
instance:Inhabited kC:=⟨⟨default,default⟩⟩
def oW.abs (x:oW):kC:=⟨⟨s5 bf.abs x.fo.ls⟩,x.jl⟩
def oW.own (x:oW):List HP:= [row x.fo.A x.fo.ls.length x.fo.c (q3 bf.cells x.fo.ls) 42 21,sepL (q3 bf.own x.fo.ls)]
structure eX where
 bD:Bool
 oN:Bool
def eX.cells (x:eX):List Value:= [.bool x.bD, .bool x.oN]
instance:Bk eX:=⟨fun x _=>bk x.bD+(bk x.oN+(0))⟩
theorem eX.len:∀ x,(eX.cells x).length=2:=fun _=>rfl
theorem eX.one:∀ x, ∀ u ∈ eX.cells x,u.oneCell'=true:=fun x u hu=>by
 simp only [eX.cells,u9,y6,or_false] at hu
 rcases hu with rfl | rfl <;> rfl
def K5 (w:World) (x:eX):Prop:=(True)∧(True)
instance:Inhabited eX:=⟨⟨default,default⟩⟩
theorem uY:Elem v8 61 28 1 8:=lv (z:= .int .u64 0) Tryz.underlying61 e7 rfl f4
structure tK where
 pM:Int
 aS:Nat
def tK.cells (x:tK):List Value:= [.int .i64 x.pM, .int .u64 ((x.aS:Nat):Int)]
instance:Bk tK:=⟨fun x _=>bk x.pM+(bk x.aS+(0))⟩
theorem tK.len:∀ x,(tK.cells x).length=2:=fun _=>rfl
theorem tK.one:∀ x, ∀ u ∈ tK.cells x,u.oneCell'=true:=fun x u hu=>by
 simp only [tK.cells,u9,y6,or_false] at hu
 rcases hu with rfl | rfl <;> rfl
def K6 (w:World) (x:tK):Prop:=((-9223372036854775808)≤x.pM∧x.pM≤9223372036854775807)∧(x.aS≤18446744073709551615)
instance:Inhabited tK:=⟨⟨default,default⟩⟩
structure nH where
 eG:Int
 aH:Sv bi
 aJ:Sv Int
def nH.cells (x:nH):List Value:= [.int .i64 x.eG, .slice x.aH.A x.aH.ls.length x.aH.c, .slice x.aJ.A x.aJ.ls.length x.aJ.c]
instance:Bk nH:=⟨fun x _=>bk x.eG+(bk x.aH+(bk x.aJ+(0)))⟩
theorem nH.len:∀ x,(nH.cells x).length=3:=fun _=>rfl
theorem nH.one:∀ x, ∀ u ∈ nH.cells x,u.oneCell'=true:=fun x u hu=>by
 simp only [nH.cells,u9,y6,or_false] at hu
 rcases hu with rfl | rfl | rfl <;> rfl
def KZ (w:World) (x:nH):Prop:=((-9223372036854775808)≤x.eG∧x.eG≤9223372036854775807)∧(mI w 6 80 bi.cells (JG w) x.aH)∧(mI w 1 8 (eI .i64) (fun n=>(-9223372036854775808)≤n∧n≤9223372036854775807) x.aJ)
instance:Inhabited nH:=⟨⟨default,default,default⟩⟩
structure Dh where
 eG:Int
 aH:Ll bi
 aJ:Ll Int
instance:Inhabited Dh:=⟨⟨default,default,default⟩⟩
def nH.abs (x:nH):Dh:=⟨x.eG,⟨x.aH.ls⟩,⟨x.aJ.ls⟩⟩
def nH.own (x:nH):List HP:= [row x.aH.A x.aH.ls.length x.aH.c (q3 bi.cells x.aH.ls) 72 6,row x.aJ.A x.aJ.ls.length x.aJ.c (q3 (eI .i64) x.aJ.ls) 3 1]
theorem qh:Elem v8 79 107 9 136:=lv (z:= .agg #[.int .u64 0, .int .i64 0, .int .u64 0, .int .u64 0, .slice none 0 0, .slice none 0 0, .slice none 0 0, .slice none 0 0, .int .i64 0]) Tryz.underlying79 e7 rfl f4
theorem um:Elem v8 103 172 3 56:=lv (z:= .agg #[.int .i64 0, .slice none 0 0, .slice none 0 0]) Tryz.underlying103 e7 rfl f4
theorem yc:Elem v8 104 4 1 1:=lv (z:= .bool false) Tryz.underlying104 e7 rfl f4
theorem wV:Elem v8 105 40 1 24:=lv (z:= .slice none 0 0) Tryz.underlying105 e7 rfl f4
structure bB where
 aR:Nat
 aM:Int
 aS:Nat
 dh:Nat
 bV:Sv bi
 aG:Sv bG
 bD:Sv Bool
 af:Sv (Sv ae)
 eO:Int
def bB.cells (x:bB):List Value:= [.int .u64 ((x.aR:Nat):Int), .int .i64 x.aM, .int .u64 ((x.aS:Nat):Int), .int .u64 ((x.dh:Nat):Int), .slice x.bV.A x.bV.ls.length x.bV.c, .slice x.aG.A x.aG.ls.length x.aG.c, .slice x.bD.A x.bD.ls.length x.bD.c, .slice x.af.A x.af.ls.length x.af.c, .int .i64 x.eO]
instance:Bk bB:=⟨fun x _=>bk x.aR+(bk x.aM+(bk x.aS+(bk x.dh+(bk x.bV+(bk x.aG+(bk x.bD+(bk x.af+(bk x.eO+(0)))))))))⟩
theorem bB.len:∀ x,(bB.cells x).length=9:=fun _=>rfl
theorem bB.one:∀ x, ∀ u ∈ bB.cells x,u.oneCell'=true:=fun x u hu=>by
 simp only [bB.cells,u9,y6,or_false] at hu
 rcases hu with rfl | rfl | rfl | rfl | rfl | rfl | rfl | rfl | rfl <;> rfl
def K7 (w:World) (x:bB):Prop:=(x.aR≤18446744073709551615)∧((-9223372036854775808)≤x.aM∧x.aM≤9223372036854775807)∧(x.aS≤18446744073709551615)∧(x.dh≤18446744073709551615)∧(mI w 6 80 bi.cells (JG w) x.bV)∧(mI w 3 56 bG.cells (KJ w) x.aG)∧(mI w 1 1 eL (fun _=>True) x.bD)∧(mI w 1 24 (IX (β:=ae)) (mI w 3 48 ae.cells (Jk w)) x.af)∧((-9223372036854775808)≤x.eO∧x.eO≤9223372036854775807)
instance:Inhabited bB:=⟨⟨default,default,default,default,default,default,default,default,default⟩⟩
abbrev bO:=Sv ae
def bO.abs (x:bO):Ll aQ:=⟨s5 ae.abs x.ls⟩
def bO.own (x:bO):List HP:= [row x.A x.ls.length x.c (q3 ae.cells x.ls) 149 3,sepL (q3 ae.own x.ls)]
structure dK where
 aR:Nat
 aM:Int
 aS:Nat
 dh:Nat
 bV:Ll bi
 aG:Ll gF
 bD:Ll Bool
 af:Ll (Ll aQ)
 eO:Int
instance:Inhabited dK:=⟨⟨default,default,default,default,default,default,default,default,default⟩⟩
def bB.abs (x:bB):dK:=⟨x.aR,x.aM,x.aS,x.dh,⟨x.bV.ls⟩,⟨s5 bG.abs x.aG.ls⟩,⟨x.bD.ls⟩,⟨s5 bO.abs x.af.ls⟩,x.eO⟩
def bB.own (x:bB):List HP:= [row x.bV.A x.bV.ls.length x.bV.c (q3 bi.cells x.bV.ls) 72 6,row x.aG.A x.aG.ls.length x.aG.c (q3 bG.cells x.aG.ls) 172 3,row x.bD.A x.bD.ls.length x.bD.c (q3 eL x.bD.ls) 4 1,row x.af.A x.af.ls.length x.af.c (q3 (IX (β:=ae)) x.af.ls) 40 1,sepL (q3 bG.own x.aG.ls),sepL (q3 bO.own x.af.ls)]
abbrev rJ (i:Nat) (j:Int) (k:Nat) (l:Nat) (m:Option Addr) (a b:Nat) (n:Option Addr) (c d:Nat) (o:Option Addr) (e f:Nat) (p:Option Addr) (g h:Nat) (q:Int):List Value:= [.int .u64 ((i:Nat):Int), .int .i64 j, .int .u64 ((k:Nat):Int), .int .u64 ((l:Nat):Int), .slice m a b, .slice n c d, .slice o e f, .slice p g h, .int .i64 q]
abbrev Cz (x:dK) (a:Option Addr) (b:Nat) (c:Option Addr) (c1:Nat) (d:Option Addr) (c2:Nat) (e:Option Addr) (c3:Nat):List Value:= [.int .u64 ((x.aR:Nat):Int), .int .i64 x.aM, .int .u64 ((x.aS:Nat):Int), .int .u64 ((x.dh:Nat):Int), .slice a x.bV.ls.length b, .slice c x.aG.ls.length c1, .slice d x.bD.ls.length c2, .slice e x.af.ls.length c3, .int .i64 x.eO]
structure l7 where
 cO:Bool
 aS:Nat
 dA:Int
 af:Sv ae
def l7.cells (x:l7):List Value:= [.bool x.cO, .int .u64 ((x.aS:Nat):Int), .int .i64 x.dA, .slice x.af.A x.af.ls.length x.af.c]
instance:Bk l7:=⟨fun x _=>bk x.cO+(bk x.aS+(bk x.dA+(bk x.af+(0))))⟩
theorem l7.len:∀ x,(l7.cells x).length=4:=fun _=>rfl
theorem l7.one:∀ x, ∀ u ∈ l7.cells x,u.oneCell'=true:=fun x u hu=>by
 simp only [l7.cells,u9,y6,or_false] at hu
 rcases hu with rfl | rfl | rfl | rfl <;> rfl
def KT (w:World) (x:l7):Prop:=(True)∧(x.aS≤18446744073709551615)∧((-9223372036854775808)≤x.dA∧x.dA≤9223372036854775807)∧(mI w 3 48 ae.cells (Jk w) x.af)
instance:Inhabited l7:=⟨⟨default,default,default,default⟩⟩
structure df where
 cO:Bool
 aS:Nat
 dA:Int
 af:Ll aQ
instance:Inhabited df:=⟨⟨default,default,default,default⟩⟩
def l7.abs (x:l7):df:=⟨x.cO,x.aS,x.dA,⟨s5 ae.abs x.af.ls⟩⟩
def l7.own (x:l7):List HP:= [row x.af.A x.af.ls.length x.af.c (q3 ae.cells x.af.ls) 149 3,sepL (q3 ae.own x.af.ls)]
structure aA where
 aa:cZ
 bP:Nat
 ay:Ll dK
 bK:df
 bA:df
 bz:df
 bv:df
 bq:df
 dP:Nat
 dH:Nat
 dI:Nat
 dG:Nat
 dJ:Nat
instance:Inhabited aA:=⟨⟨default,default,default,default,default,default,default,default,default,default,default,default,default⟩⟩
theorem Ev:Elem v8 126 154 1 8:=lv (z:= .int .i64 0) Tryz.underlying126 e7 rfl f4
structure l8 where
 mG:Int
 pM:Int
 cK:Sv Int
def l8.cells (x:l8):List Value:= [.int .i64 x.mG, .int .i64 x.pM, .slice x.cK.A x.cK.ls.length x.cK.c]
instance:Bk l8:=⟨fun x _=>bk x.mG+(bk x.pM+(bk x.cK+(0)))⟩
theorem l8.len:∀ x,(l8.cells x).length=3:=fun _=>rfl
theorem l8.one:∀ x, ∀ u ∈ l8.cells x,u.oneCell'=true:=fun x u hu=>by
 simp only [l8.cells,u9,y6,or_false] at hu
 rcases hu with rfl | rfl | rfl <;> rfl
def KU (w:World) (x:l8):Prop:=((-9223372036854775808)≤x.mG∧x.mG≤9223372036854775807)∧((-9223372036854775808)≤x.pM∧x.pM≤9223372036854775807)∧(mI w 1 8 (eI .i64) (fun n=>(-9223372036854775808)≤n∧n≤9223372036854775807) x.cK)
instance:Inhabited l8:=⟨⟨default,default,default⟩⟩
structure gZ where
 mG:Int
 pM:Int
 cK:Ll Int
instance:Inhabited gZ:=⟨⟨default,default,default⟩⟩
def l8.abs (x:l8):gZ:=⟨x.mG,x.pM,⟨x.cK.ls⟩⟩
def l8.own (x:l8):List HP:= [row x.cK.A x.cK.ls.length x.cK.c (q3 (eI .i64) x.cK.ls) 154 1]
structure bI where
 aX:Ll bL
instance:Inhabited bI:=⟨⟨default⟩⟩
theorem yf:Elem v8 134 5 1 1:=lv (z:= .int .u8 0) Tryz.underlying134 e7 rfl f4
structure l9 where
 xb:Sv UInt8
def l9.cells (x:l9):List Value:= [.slice x.xb.A x.xb.ls.length x.xb.c]
instance:Bk l9:=⟨fun x _=>bk x.xb+(0)⟩
theorem l9.len:∀ x,(l9.cells x).length=1:=fun _=>rfl
theorem l9.one:∀ x, ∀ u ∈ l9.cells x,u.oneCell'=true:=fun x u hu=>by
 simp only [l9.cells,u9,y6,or_false] at hu
 rcases hu with rfl <;> rfl
def KV (w:World) (x:l9):Prop:=(mI w 1 1 eB (fun _=>True) x.xb)
instance:Inhabited l9:=⟨⟨default⟩⟩
structure dR where
 xb:Ll UInt8
instance:Inhabited dR:=⟨⟨default⟩⟩
def l9.abs (x:l9):dR:=⟨⟨x.xb.ls⟩⟩
def l9.own (x:l9):List HP:= [row x.xb.A x.xb.ls.length x.xb.c (q3 eB x.xb.ls) 5 1]
theorem Ew:Elem v8 245 9 1 16:=lv (z:= .string ⟨v9 ([])⟩) Tryz.underlying245 e7 rfl f4
def gV (a:Int) (b:Int):Bool:=
 if a ≥ 1 then decide (a≤b) else false
theorem mq (w D b c f) (H:Own w D w []) (hr:gV b c=f):
    Calls v8 40 #[vI b,vI c] w (d9 fun v w'=>v= .bool f∧Own w D w' []):=by
 refine cb Tryz.func40 ?_
 refine sr (Ar rfl (Mz rfl (Kz (.bool (decide (b ≥ 1))) (Mz rfl ?_))))
 by_cases a:b ≥ 1
 refine gw (vI b) (dT a) (Iq rfl) (gw (vI c) (dT a) (Iq rfl) (Gz (.bool (decide (b≤c))) (dT a) (fw (.bool (decide (b≤c))) (Iw rfl (dT a) rfl) (An rfl (rt (rs ?_))))))
 have d:=H.pk []
 obtain rfl:_=decide (b≤c):=hr.symm.trans (ip a)
 exact⟨rfl,d⟩
 refine Sz (dF a) (Sz (dF a) (Sz (dF a) (fw (.bool false) (Ih rfl (dF a) rfl) (An rfl (rt (rs ?_))))))
 have e:=H.pk []
 obtain rfl:_=false:=hr.symm.trans (iN a)
 exact⟨rfl,e⟩
def sJ (a:Int):Bool:=
 if a ≥ 1 then decide (a≤4) else false
theorem xD (w D b e) (H:Own w D w []) (hr:sJ b=e):
    Calls v8 111 #[vI b] w (d9 fun v w'=>v= .bool e∧Own w D w' []):=by
 refine cb Tryz.func111 ?_
 refine sr (Ar rfl (Mz rfl (Kz (.bool (decide (b ≥ 1))) (Mz rfl ?_))))
 by_cases a:b ≥ 1
 refine gw (vI b) (dT a) (Iq rfl) (Gz (.bool (decide (b≤4))) (dT a) (fw (.bool (decide (b≤4))) (Iw rfl (dT a) rfl) (An rfl (rt (rs ?_)))))
 have c:=H.pk []
 obtain rfl:_=decide (b≤4):=hr.symm.trans (ip a)
 exact⟨rfl,c⟩
 refine Sz (dF a) (Sz (dF a) (fw (.bool false) (Ih rfl (dF a) rfl) (An rfl (rt (rs ?_)))))
 have d:=H.pk []
 obtain rfl:_=false:=hr.symm.trans (iN a)
 exact⟨rfl,d⟩
def ib (a:List UInt8):Int:=
 if((a.length:Nat):Int) < 1 then 20 else if((a.length:Nat):Int) > 12 then 20 else 0
theorem kM (w D b d) (H:Own w D w []) (hr:ib b=d):
    Calls v8 112 #[.string ⟨v9 b⟩] w (d9 fun v w'=>v=vI d∧Own w D w' []∧(¬ (d=0)∨(1≤b.length∧b.length≤12))∧(b.length < 1∨b.length > 12∨d=0)):=by
 refine cb Tryz.func112 ?_
 refine sr (An rfl (Ic (sr (Mz rfl (Kz (vJ b.length) (Kz (.bool (decide (((b.length:Nat):Int) < 1))) (Mz rfl ?_)))))))
 by_cases a:((b.length:Nat):Int) < 1
 refine Sz (dT a) (Sz (dT a) (Sz (dT a) (fw (.bool true) (Iw rfl (dT a) rfl) (nt (jt (sr (An rfl (rt (tR (rs ?_))))))))))
 have e:=H.pk []
 obtain rfl:_=20:=hr.symm.trans (ip a)
 exact⟨rfl,e,e6,e6⟩
 refine gw (.string ⟨v9 b⟩) (dF a) (Iq rfl) (Gz (vJ b.length) (dF a) (Gz (.bool (decide (((b.length:Nat):Int) > 12))) (dF a) (fw (.bool (decide (((b.length:Nat):Int) > 12))) (Ih rfl (dF a) rfl) (nt ?_))))
 by_cases c:((b.length:Nat):Int) > 12
 refine jT (dT c) (sr (An rfl (rt (tR (rs ?_)))))
 have f:=H.pk []
 obtain rfl:_=20:=hr.symm.trans (et (iN a) (ip c))
 exact⟨rfl,f,e6,e6⟩
 refine jF (dF c) (sk (sr (An rfl (rt (rs ?_)))))
 have g:=H.pk []
 obtain rfl:_=0:=hr.symm.trans (et (iN a) (iN c))
 exact⟨rfl,g,e6,e6⟩
def iT (l0:List aY):List aY→Nat→Unit ⊕ Int
  | [],a=>B9 ()
  | b::c,a=>bnd (sJ b.eG) fun d=>if d=true then if((a:Nat):Int) > 0 then bnd (ib b.bF) fun e=>if e=0 then bnd (C0 l0 (a - 1) default) fun f=>if b.bF≤f.bF then C1 (170) else iT l0 c (a+1) else C1 (170) else iT l0 c (a+1) else C1 (170)
def kR (l0:List aY):Int:=
 if((l0.length:Nat):Int) < 1 then 170 else if((l0.length:Nat):Int) > 6 then 170 else bnd (C0 l0 0 default) fun a=>if a.bF≠([]) then 170 else lp (iT l0 l0 0) fun _=>0
theorem rM (w D h W G l0 X) (H:Own w D w []) (j:Ro w D fun w'=>bE w' 2 h W (q3 aY.cells l0)) (Y:W=l0.length) (aD:l0.length≤9223372036854775807) (hr:kR l0=X):
    Calls v8 72 #[.slice h W G] w (d9 fun v w'=>v=vI X∧Own w D w' []∧(¬ (X=0)∨(1≤l0.length∧l0.length≤6))):=by
 subst Y
 refine cb Tryz.func72 ?_
 refine sr (An rfl (Ic (sr (Mz rfl (Kz (vJ l0.length) (Kz (.bool (decide (((l0.length:Nat):Int) < 1))) (Mz rfl ?_)))))))
 by_cases g:((l0.length:Nat):Int) < 1
 refine Sz (dT g) (Sz (dT g) (Sz (dT g) (fw (.bool true) (Iw rfl (dT g) rfl) (Mz rfl (Sz rfl (Sz rfl (Sz rfl (Sz rfl (Sz rfl (fw (.bool true) (Iw rfl rfl rfl) (nt (jt (sr (An rfl (rt (tR (rs ?_)))))))))))))))))
 have Z:=H.pk []
 obtain rfl:_=170:=hr.symm.trans (ip g)
 exact⟨rfl,Z,e6⟩
 refine gw (.slice h l0.length G) (dF g) (Iq rfl) (Gz (vJ l0.length) (dF g) (Gz (.bool (decide (((l0.length:Nat):Int) > 6))) (dF g) (fw (.bool (decide (((l0.length:Nat):Int) > 6))) (Ih rfl (dF g) rfl) (Mz rfl ?_))))
 by_cases d:((l0.length:Nat):Int) > 6
 refine Sz (dT d) (Sz (dT d) (Sz (dT d) (Sz (dT d) (Sz (dT d) (fw (.bool true) (Iw rfl (dT d) rfl) (nt (jt (sr (An rfl (rt (tR (rs ?_))))))))))))
 have aa:=H.pk []
 obtain rfl:_=170:=hr.symm.trans (et (iN g) (ip d))
 exact⟨rfl,aa,e6⟩
 refine gw (.slice h l0.length G) (dF d) (Iq rfl) ?_
 obtain⟨C,l⟩:=dN (ls:=l0) (i:=0) aY.len f4 (H.ro j) e9
 refine gw (.pointer (some ⟨ab h,ao h+0 *2,none⟩)) (dF d) (Ij (qY) rfl rfl ((H.ro j).addr (i:=0) e6) e6) (Gz (.pointer (some ⟨ab h,ao h+0 *2,none⟩)) (dF d) (gw (.string ⟨v9 C.bF⟩) (dF d) (Io rfl (bZ.one C2 (((H.ro j).elem aY.len l f4).at_ (k:=0) rfl))) (gw (.bool (decide (C.bF≠([])))) (dF d) (Js rfl rfl) (fw (.bool (decide (C.bF≠([])))) (Ih rfl (dF d) rfl) (nt ?_)))))
 by_cases r:C.bF≠([])
 refine jT (dT r) (sr (An rfl (rt (tR (rs ?_)))))
 have ae:=H.pk []
 obtain rfl:_=170:=hr.symm.trans (et (iN g) (et (iN d) (et (ah (bJ l)) (ip r))))
 exact⟨rfl,ae,e6⟩
 refine jF (dF r) (sk (Ic (sr (Mz rfl (Kz (vJ l0.length) (Mn rfl (bo ?_)))))))
 have af:=H.pk []
 obtain⟨ag,u⟩:=nQ fun (a:Nat) w'=>Own w D w' []∧a≤l0.length∧iT l0 l0 0=iT l0 (r3 a l0) a
 refine C3 (fun i:Nat=> [(2,vI 0),(21,vJ i),(20,vJ l0.length),(0, .slice h l0.length G)]) ag (fun i=>l0.length - i) 0 ⟨rfl,rfl,rfl,rfl,trivial⟩ (u.2 ⟨af,e6,rfl⟩) ?_
 rintro a aF L
 obtain⟨z,ay,m⟩:=u.1 L
 refine sr (Kz (.bool (decide (((a:Nat):Int) < ((l0.length:Nat):Int)))) (nt (Ic ?_)))
 by_cases M:((a:Nat):Int) < ((l0.length:Nat):Int)
 obtain⟨f,x⟩:=dN (ls:=l0) (i:=a) aY.len f4 (z.ro j) e9
 have o:=drop_at x
 refine jT (dT M) (sk (Ic (bo (sr (Mz rfl (An rfl (Ic (sr (Mz rfl (Mz rfl (fw (.pointer (some ⟨ab h,ao h+a *2,none⟩)) (Ij (qY) rfl rfl ((z.ro j).addr (i:=a) e6) e6) (Kz (.pointer (some ⟨ab h,ao h+a *2+1,none⟩)) (fw (vI f.eG) (Io rfl (bZ.one C4 (((z.ro j).elem aY.len x f4).at_ (k:=1) rfl))) ?_)))))))))))))
 obtain⟨K,n⟩:∃ q,sJ f.eG=q:=⟨_,rfl⟩
 obtain⟨aG,N,az,O,aA⟩:=Ii z
 refine cl Tryz.call111 (xD _ _ f.eG K N n) ?_
 rintro _ aH ⟨rfl,P⟩
 have Q:=O _ _ P
 refine Kz (.bool (!K)) (nt ?_)
 rcases Li (K) with p | p
 refine jF (cn p) (sk (Ic ?_))
 refine Hm [] (Iu (bQ.block (Iu (Iu (bQ.block (Iu IC)))))) Q ?_
 intro aI R
 refine qv 0 rfl rfl (qk (.bool (decide (((a:Nat):Int) > 0))) 1 rfl (qv 2 rfl rfl ?_))
 by_cases c:((a:Nat):Int) > 0
 refine Ip (v:= .slice h l0.length G) (rs:= []) 3 rfl rfl rfl (dT c) e7 (fun _ _=>Iq rfl) (Ip (v:=vJ a) (rs:= []) 4 rfl rfl rfl (dT c) e7 (fun _ _=>Iq rfl) (Ip (v:= .pointer (some ⟨ab h,ao h+a *2,none⟩)) (rs:= []) 5 rfl rfl rfl (dT c) e7 (fun _ ⟨_,A⟩=>Ij (qY) rfl rfl ((A.ro j).addr (i:=a) e6) e6) (Ip (v:= .pointer (some ⟨ab h,ao h+a *2,none⟩)) (rs:= []) 6 rfl rfl rfl (dT c) e7 (fun _ _=>yk) (Ip (v:= .string ⟨v9 f.bF⟩) (rs:= []) 7 rfl rfl rfl (dT c) e7 (fun _ ⟨_,A⟩=>Io rfl (bZ.one C2 (((A.ro j).elem aY.len x f4).at_ (k:=0) rfl))) ?_))))
 obtain⟨s,y⟩:∃ q,ib f.bF=q:=⟨_,rfl⟩
 obtain⟨aJ,S,aB,T,aC⟩:=Ii R
 refine Ju 8 rfl rfl rfl (dT c) e7 (Iz Tryz.call112 rfl (kM _ _ f.bF s S y) ?_)
 rintro _ aK ⟨rfl,U,I,J⟩
 have E:=T _ _ U
 replace I: ¬ (s=0)∨(1≤f.bF.length∧f.bF.length≤12):=I
 replace J:f.bF.length < 1∨f.bF.length > 12∨s=0:=J
 refine⟨.inr ⟨_,E⟩, ?_⟩
 refine Ip (v:= .bool (decide (¬ (s=0)))) (rs:= []) 9 rfl rfl rfl (dT c) e7 (fun _ _=>IG (e:= !(decide (s=0))) yk decide_not.symm) (Ip (v:= .bool (decide (¬ (s=0)))) (rs:= []) 10 rfl rfl rfl (dT c) e7 (fun _ _=>Iq rfl) ?_)
 by_cases b:s=0
 refine Ip (v:= .slice h l0.length G) (rs:= []) 11 rfl rfl rfl (dF (Lh b)) e7 (fun _ _=>Iq rfl) (Ip (v:=vJ a) (rs:= []) 12 rfl rfl rfl (dF (Lh b)) e7 (fun _ _=>Iq rfl) (Ip (v:= .pointer (some ⟨ab h,ao h+a *2,none⟩)) (rs:= []) 13 rfl rfl rfl (dF (Lh b)) e7 (fun _ ⟨_,A⟩=>Ij (qY) rfl rfl ((A.ro j).addr (i:=a) e6) e6) (Ip (v:= .pointer (some ⟨ab h,ao h+a *2,none⟩)) (rs:= []) 14 rfl rfl rfl (dF (Lh b)) e7 (fun _ _=>yk) (Ip (v:= .string ⟨v9 f.bF⟩) (rs:= []) 15 rfl rfl rfl (dF (Lh b)) e7 (fun _ ⟨_,A⟩=>Io rfl (bZ.one C2 (((A.ro j).elem aY.len x f4).at_ (k:=0) rfl))) (Ip (v:= .slice h l0.length G) (rs:= []) 16 rfl rfl rfl (dF (Lh b)) e7 (fun _ _=>Iq rfl) (Ip (v:=vJ a) (rs:= []) 17 rfl rfl rfl (dF (Lh b)) e7 (fun _ _=>Iq rfl) (Ip (v:=vJ (a - 1)) (rs:= []) 18 rfl rfl rfl (dF (Lh b)) e7 (fun _ _=>Ie (e:=C5.wrap (((a:Nat):Int) - 1)) yk f0) ?_)))))))
 obtain⟨t,B⟩:=jN (ls:=l0) (i:=a - 1) e9
 refine Ip (v:= .pointer (some ⟨ab h,ao h+(a - 1) *2,none⟩)) (rs:= []) 19 rfl rfl rfl (dF (Lh b)) e7 (fun _ ⟨_,A⟩=>Ij (qY) rfl rfl ((A.ro j).addr (i:=a - 1) e6) e6) (Ip (v:= .pointer (some ⟨ab h,ao h+(a - 1) *2,none⟩)) (rs:= []) 20 rfl rfl rfl (dF (Lh b)) e7 (fun _ _=>yk) (Ip (v:= .string ⟨v9 t.bF⟩) (rs:= []) 21 rfl rfl rfl (dF (Lh b)) e7 (fun _ ⟨_,A⟩=>Io rfl (bZ.one C2 (((A.ro j).elem aY.len B f4).at_ (k:=0) rfl))) (Ip (v:= .bool (decide (f.bF≤t.bF))) (rs:= []) 22 rfl rfl rfl (dF (Lh b)) e7 (fun _ _=>IG (e:=Op.bytesLess f.bF t.bF || decide (f.bF=t.bF)) (JA rfl rfl) (zN _ _)) (Ip (v:= .bool (decide (f.bF≤t.bF))) (rs:= []) 23 rfl rfl rfl (dT c) e7 (fun _ _=>Ih rfl (dF (Lh b)) rfl) (qt (v:= .bool (decide (f.bF≤t.bF))) 24 rfl (fun _ _=>Iw rfl (dT c) rfl) (qn (Ig ?_)))))))
 by_cases F:f.bF≤t.bF
 refine jT (dT F) (sr (An rfl (rt (bR (tR (tR (bR (tR (rs ?_)))))))))
 have ai:=E.pk []
 obtain rfl:_=170:=hr.symm.trans (et (iN g) (et (iN d) (et (ah (bJ l)) (et (iN r) (jm (et (m) (et (congrArg (fun q=>iT l0 q a) o) (et (ah n) (et (ip p) (et (ip c) (et (ah y) (et (ip b) (et (ah (bJ B)) (ip F))))))))))))))
 exact⟨rfl,ai,e6⟩
 refine jF (dF F) (IE (bN (Ig (Ib (fw (vJ (a+1)) (Ie (e:=C5.wrap (((a:Nat):Int)+1)) yk f0) (Mz rfl (C6 ?_)))))))
 have aj:=E.pk []
 exact Ir (a+1) ⟨rfl,rfl,rfl,rfl,trivial⟩ (u.2 ⟨aj,e6,et (m) (et (congrArg (fun q=>iT l0 q a) o) (et (ah n) (et (ip p) (et (ip c) (et (ah y) (et (ip b) (et (ah (bJ B)) (iN F))))))))⟩) (by show l0.length - (a+1) < l0.length - a; omega)
 refine Ik (rs:= []) 11 rfl rfl rfl (dT b) e7 (Ik (rs:= []) 12 rfl rfl rfl (dT b) e7 (Ik (rs:= []) 13 rfl rfl rfl (dT b) e7 (Ik (rs:= []) 14 rfl rfl rfl (dT b) e7 (Ik (rs:= []) 15 rfl rfl rfl (dT b) e7 (Ik (rs:= []) 16 rfl rfl rfl (dT b) e7 (Ik (rs:= []) 17 rfl rfl rfl (dT b) e7 (Ik (rs:= []) 18 rfl rfl rfl (dT b) e7 (Ik (rs:= []) 19 rfl rfl rfl (dT b) e7 (Ik (rs:= []) 20 rfl rfl rfl (dT b) e7 (Ik (rs:= []) 21 rfl rfl rfl (dT b) e7 (Ik (rs:= []) 22 rfl rfl rfl (dT b) e7 (Ip (v:= .bool true) (rs:= []) 23 rfl rfl rfl (dT c) e7 (fun _ _=>Iw rfl (dT b) rfl) (qt (v:= .bool true) 24 rfl (fun _ _=>Iw rfl (dT c) rfl) (qn (Ig (jt (sr (An rfl (rt (bR (tR (tR (bR (tR (rs ?_)))))))))))))))))))))))))
 have ak:=E.pk []
 obtain rfl:_=170:=hr.symm.trans (et (iN g) (et (iN d) (et (ah (bJ l)) (et (iN r) (jm (et (m) (et (congrArg (fun q=>iT l0 q a) o) (et (ah n) (et (ip p) (et (ip c) (et (ah y) (iN b))))))))))))
 exact⟨rfl,ak,e6⟩
 refine Ik (rs:= []) 3 rfl rfl rfl (dF c) e7 (Ik (rs:= []) 4 rfl rfl rfl (dF c) e7 (Ik (rs:= []) 5 rfl rfl rfl (dF c) e7 (Ik (rs:= []) 6 rfl rfl rfl (dF c) e7 (Ik (rs:= []) 7 rfl rfl rfl (dF c) e7 (Ik (rs:= []) 8 rfl rfl rfl (dF c) e7 (Ik (rs:= []) 9 rfl rfl rfl (dF c) e7 (Ik (rs:= []) 10 rfl rfl rfl (dF c) e7 (IW (rs:= []) 11 rfl rfl rfl e7 (IW (rs:= []) 12 rfl rfl rfl e7 (IW (rs:= []) 13 rfl rfl rfl e7 (IW (rs:= []) 14 rfl rfl rfl e7 (IW (rs:= []) 15 rfl rfl rfl e7 (IW (rs:= []) 16 rfl rfl rfl e7 (IW (rs:= []) 17 rfl rfl rfl e7 (IW (rs:= []) 18 rfl rfl rfl e7 (IW (rs:= []) 19 rfl rfl rfl e7 (IW (rs:= []) 20 rfl rfl rfl e7 (IW (rs:= []) 21 rfl rfl rfl e7 (IW (rs:= []) 22 rfl rfl rfl e7 (Ik (rs:= []) 23 rfl rfl rfl (dF c) e7 (qt (v:= .bool false) 24 rfl (fun _ _=>Ih rfl (dF c) rfl) (qn (Ig (jf (IE (bN (Ig (Ib (fw (vJ (a+1)) (Ie (e:=C5.wrap (((a:Nat):Int)+1)) yk f0) (Mz rfl (C6 ?_)))))))))))))))))))))))))))))))
 have au:=R.pk []
 exact Ir (a+1) ⟨rfl,rfl,rfl,rfl,trivial⟩ (u.2 ⟨au,e6,et (m) (et (congrArg (fun q=>iT l0 q a) o) (et (ah n) (et (ip p) (iN c))))⟩) (by show l0.length - (a+1) < l0.length - a; omega)
 refine jT (cn p) (sr (An rfl (rt (tR (bR (tR (tR (bR (tR (rs ?_))))))))))
 have av:=Q.pk []
 obtain rfl:_=170:=hr.symm.trans (et (iN g) (et (iN d) (et (ah (bJ l)) (et (iN r) (jm (et (m) (et (congrArg (fun q=>iT l0 q a) o) (et (ah n) (gm p)))))))))
 exact⟨rfl,av,e6⟩
 refine jF (dF M) (C7 (Il ?_))
 have V:iT l0 l0 0=B9 ():=et (m) (et (congrArg (fun q=>iT l0 q a) (fB (ls:=l0) (i:=a) e6)) rfl)
 refine Il (IB (Ig (sr (An rfl (rt (rs ?_))))))
 have ax:=z.pk []
 obtain rfl:_=0:=hr.symm.trans (et (iN g) (et (iN d) (et (ah (bJ l)) (et (iN r) (nT V)))))
 exact⟨rfl,ax,e6⟩
def jy (c:cZ):List aY→Unit ⊕ Bool
  | []=>B9 ()
  | a::b=>if a.eG > c.au then C1 (false) else jy c b
def ma (b:cZ):Bool:=
 bnd (kR b.ag.ls) fun a=>if a=0 then lp (jy b b.ag.ls) fun _=>true else false
set_option maxHeartbeats 1000000 in
theorem vL (w D) (a:cZ) (b E f h F j p k G l r r0) (H:Own w D w []) (L:E=a.ag.ls.length) (g:Ro w D fun w'=>bE w' 2 b a.ag.ls.length (q3 aY.cells a.ag.ls)) (ag:a.ag.ls.length≤f∧a.ag.ls.length≤9223372036854775807) (M:s5 aC.abs p=a.aj.ls) (N:F=a.aj.ls.length) (ai:Ro w D fun w'=>bE w' 5 h a.aj.ls.length (q3 aC.cells p)) (aj:a.aj.ls.length≤j∧a.aj.ls.length≤9223372036854775807) (ak:∀ x ∈ p,Ro w D (fun w'=>bE w' 1 x.au.A x.au.ls.length (q3 (eI .i64) x.au.ls))∧(x.au.ls.length≤x.au.c∧x.au.ls.length≤9223372036854775807)) (O:s5 aU.abs r=a.aF.ls) (P:G=a.aF.ls.length) (au:Ro w D fun w'=>bE w' 4 k a.aF.ls.length (q3 aU.cells r)) (av:a.aF.ls.length≤l∧a.aF.ls.length≤9223372036854775807) (ax:∀ x ∈ r,Ro w D (fun w'=>bE w' 3 x.ai.A x.ai.ls.length (q3 ae.cells x.ai.ls))∧(x.ai.ls.length≤x.ai.c∧x.ai.ls.length≤9223372036854775807)∧(∀ R ∈ x.ai.ls,Ro w D (fun w'=>bE w' 2 R.ak.A R.ak.ls.length (q3 aI.cells R.ak.ls))∧(R.ak.ls.length≤R.ak.c∧R.ak.ls.length≤9223372036854775807))) (aN:a.ag.ls.length≤140737488355328∧a.aj.ls.length≤140737488355328∧a.aF.ls.length≤140737488355328) (hr:ma a=r0):
    Calls v8 41 #[.agg #[vI a.au,vU a.av,vU a.aV,vU a.aL, .slice b E f, .slice h F j, .slice k G l]] w (d9 fun v w'=>v= .bool r0∧Own w D w' []):=by
 subst L N P
 have aa:=aB M
 have af:=aB O
 refine cb Tryz.func41 ?_
 refine sr ?_
 refine dV [vI a.au,vU a.av,vU a.aV,vU a.aL, .slice b a.ag.ls.length f, .slice h a.aj.ls.length j, .slice k a.aF.ls.length l] 33 H ?_
 intro n aO S
 refine An rfl (Ic (sr (Kz (vP n 4) (Lz (.slice b a.ag.ls.length f) S 0 Tryz.isAgg29 ?_))))
 obtain⟨s,m⟩:∃ q,kR a.ag.ls=q:=⟨_,rfl⟩
 obtain⟨aP,T,U,V,aL⟩:=Ii S
 refine cl Tryz.call72 (rM _ _ b a.ag.ls.length f a.ag.ls s T (U _ g) rfl e6 m) ?_
 rintro _ aQ ⟨rfl,W,I⟩
 have Q:=V _ _ W
 replace I: ¬ (s=0)∨(1≤a.ag.ls.length∧a.ag.ls.length≤6):=I
 refine fw (.bool (decide (¬ (s=0)))) (IG (e:= !(decide (s=0))) yk decide_not.symm) (nt ?_)
 by_cases t:s=0
 refine jF (dF (Lh t)) (sk (Ic (sr (Kz (vP n 4) (Lz (.slice b a.ag.ls.length f) Q 0 Tryz.isAgg29 (Kz (vJ a.ag.ls.length) (Mn rfl (bo ?_))))))))
 have ay:=Q.pf []
 obtain⟨az,u⟩:=nQ fun (d:Nat) w'=>Own w D w' [blk n [vI a.au,vU a.av,vU a.aV,vU a.aL, .slice b a.ag.ls.length f, .slice h a.aj.ls.length j, .slice k a.aF.ls.length l] 33]∧d≤a.ag.ls.length∧jy a a.ag.ls=jy a (r3 d a.ag.ls)
 refine C3 (fun i:Nat=> [(2, .bool false),(12,vJ i),(11,vJ a.ag.ls.length),(10, .slice b a.ag.ls.length f),(1,vP n 0)]) az (fun i=>a.ag.ls.length - i) 0 ⟨rfl,rfl,rfl,rfl,rfl,trivial⟩ (u.2 ⟨ay,e6,rfl⟩) ?_
 rintro d aR X
 obtain⟨y,aM,z⟩:=u.1 X
 refine sr (Kz (.bool (decide (((d:Nat):Int) < ((a.ag.ls.length:Nat):Int)))) (nt (Ic ?_)))
 by_cases Y:((d:Nat):Int) < ((a.ag.ls.length:Nat):Int)
 obtain⟨o,J⟩:=dN (ls:=a.ag.ls) (i:=d) aY.len f4 (y.ro g) e9
 have K:=drop_at J
 refine jT (dT Y) (sk (Ic (bo (sr (fw (.pointer (some ⟨ab b,ao b+d *2,none⟩)) (Ij (qY) rfl rfl ((y.ro g).addr (i:=d) e6) e6) (fw (.agg (aY.cells o).toArray) (Io rfl (Iy (cs:=(aY.cells o)) Tryz.isAgg89 Tryz.sizeOf89 ((y.ro g).elem aY.len J f4))) ?_))))))
 refine dV [.string ⟨v9 ([])⟩,vI 0] 89 y ?_
 intro aA aS aD
 refine dS (aY.cells o) 0 aD Tryz.sizeOf89 ?_
 intro aT B
 refine ns (Kz (vP aA 1) (Lz (vI o.eG) B 0 C4 (Kz (vP n 0) (Lz (vI a.au) B 1 C4 (Kz (.bool (decide (o.eG > a.au))) (nt ?_))))))
 by_cases C:o.eG > a.au
 refine jT (dT C) (sr (An rfl (rt (bR (tR (tR (bR (tR (rs ?_)))))))))
 have aF:=B.pk []
 obtain rfl:_=false:=hr.symm.trans (et (ah m) (et (ip t) (jm (et (z) (et (congrArg (fun q=>jy a q) K) (ip C))))))
 exact⟨rfl,aF⟩
 refine jF (dF C) (IE (bN (Ig (Ib (fw (vJ (d+1)) (Ie (e:=C5.wrap (((d:Nat):Int)+1)) yk f0) (Mz rfl (C6 ?_)))))))
 have aG:=B.pk [1]
 exact Ir (d+1) ⟨rfl,rfl,rfl,rfl,rfl,trivial⟩ (u.2 ⟨aG,e6,et (z) (et (congrArg (fun q=>jy a q) K) (iN C))⟩) (by show a.ag.ls.length - (d+1) < a.ag.ls.length - d; omega)
 refine jF (dF Y) (C7 (Il ?_))
 have Z:jy a a.ag.ls=B9 ():=et (z) (et (congrArg (fun q=>jy a q) (fB (ls:=a.ag.ls) (i:=d) e6)) rfl)
 refine Il (IB (Ig (sr (An rfl (rt (rs ?_))))))
 have aH:=y.pk []
 obtain rfl:_=true:=hr.symm.trans (et (ah m) (et (ip t) (nT Z)))
 exact⟨rfl,aH⟩
 refine jT (dT t) (sr (An rfl (rt (tR (rs ?_)))))
 have aJ:=Q.pk []
 obtain rfl:_=false:=hr.symm.trans (et (ah m) (iN t))
 exact⟨rfl,aJ⟩
def dU (h:cZ) (c:Nat) (b:bH):List Int→Nat→Unit ⊕ Bool
  | [],a=>B9 ()
  | d::e,a=>bnd (gV d h.au) fun f=>if f=true then if((a:Nat):Int) > 0 then bnd (C0 b.au.ls (a - 1) default) fun g=>if d≤g then C1 (false) else dU h c b e (a+1) else dU h c b e (a+1) else C1 (false)
def gB (h:cZ) (g:Nat) (d:bH):List Int→Nat→Unit ⊕ Bool
  | [],a=>B9 ()
  | b::c,a=>bnd (gV b h.au) fun e=>if e=true then if((a:Nat):Int) > 0 then bnd (C0 d.au.ls (a - 1) default) fun f=>if b≤f then C1 (false) else gB h g d c (a+1) else gB h g d c (a+1) else C1 (false)
def dO (c:cZ):List bH→Nat→Unit ⊕ Bool
  | [],b=>B9 ()
  | a::e,b=>if((b:Nat):Int) > 0 then bnd (C0 c.aj.ls (b - 1) default) fun f=>if((a.aN:Nat):Int)≤((f.aN:Nat):Int) then C1 (false) else if((a.aN:Nat):Int) ≥ ((eU (D0 (D1.wrap (((c.av:Nat):Int)+1))) 32:Nat):Int) then C1 (false) else bnd (gV a.aK 4) fun g=>if g=true then if((a.au.ls.length:Nat):Int)=0 then C1 (false) else qU (dU c b a a.au.ls 0) fun _=>dO c e (b+1) else C1 (false) else if((a.aN:Nat):Int) ≥ ((eU (D0 (D1.wrap (((c.av:Nat):Int)+1))) 32:Nat):Int) then C1 (false) else bnd (gV a.aK 4) fun d=>if d=true then if((a.au.ls.length:Nat):Int)=0 then C1 (false) else qU (gB c b a a.au.ls 0) fun _=>dO c e (b+1) else C1 (false)
def lU (a:cZ):Bool:=
 if((a.aj.ls.length:Nat):Int) > 8 then false else lp (dO a a.aj.ls 0) fun _=>true
set_option maxHeartbeats 1000000 in
theorem uZ (w D) (d:cZ) (S aZ T f bf p ag U bg V aO r0) (H:Own w D w []) (bq:aZ=d.ag.ls.length) (dK:Ro w D fun w'=>bE w' 2 S d.ag.ls.length (q3 aY.cells d.ag.ls)) (dL:d.ag.ls.length≤T∧d.ag.ls.length≤9223372036854775807) (az:s5 aC.abs ag=d.aj.ls) (bu:bf=d.aj.ls.length) (O:Ro w D fun w'=>bE w' 5 f d.aj.ls.length (q3 aC.cells ag)) (dM:d.aj.ls.length≤p∧d.aj.ls.length≤9223372036854775807) (o:∀ x ∈ ag,Ro w D (fun w'=>bE w' 1 x.au.A x.au.ls.length (q3 (eI .i64) x.au.ls))∧(x.au.ls.length≤x.au.c∧x.au.ls.length≤9223372036854775807)) (bv:s5 aU.abs aO=d.aF.ls) (bz:bg=d.aF.ls.length) (dP:Ro w D fun w'=>bE w' 4 U d.aF.ls.length (q3 aU.cells aO)) (dQ:d.aF.ls.length≤V∧d.aF.ls.length≤9223372036854775807) (dR:∀ x ∈ aO,Ro w D (fun w'=>bE w' 3 x.ai.A x.ai.ls.length (q3 ae.cells x.ai.ls))∧(x.ai.ls.length≤x.ai.c∧x.ai.ls.length≤9223372036854775807)∧(∀ y1 ∈ x.ai.ls,Ro w D (fun w'=>bE w' 2 y1.ak.A y1.ak.ls.length (q3 aI.cells y1.ak.ls))∧(y1.ak.ls.length≤y1.ak.c∧y1.ak.ls.length≤9223372036854775807))) (fM:d.ag.ls.length≤140737488355328∧d.aj.ls.length≤140737488355328∧d.aF.ls.length≤140737488355328) (hr:lU d=r0):
    Calls v8 42 #[.agg #[vI d.au,vU d.av,vU d.aV,vU d.aL, .slice S aZ T, .slice f bf p, .slice U bg V]] w (d9 fun v w'=>v= .bool r0∧Own w D w' []):=by
 subst bq bu bz
 have dI:=aB az
 have dJ:=aB bv
 refine cb Tryz.func42 ?_
 refine sr ?_
 refine dV [vI d.au,vU d.av,vU d.aV,vU d.aL, .slice S d.ag.ls.length T, .slice f d.aj.ls.length p, .slice U d.aF.ls.length V] 33 H ?_
 intro y fO aX
 refine An rfl (Ic (sr (Kz (vP y 5) (Lz (.slice f d.aj.ls.length p) aX 0 D2 (Kz (vJ d.aj.ls.length) (Kz (.bool (decide (((d.aj.ls.length:Nat):Int) > 8))) (nt ?_)))))))
 by_cases G:((d.aj.ls.length:Nat):Int) > 8
 refine jT (dT G) (sr (An rfl (rt (tR (rs ?_)))))
 have dW:=aX.pk []
 obtain rfl:_=false:=hr.symm.trans (ip G)
 exact⟨rfl,dW⟩
 refine jF (dF G) (sk (Ic (sr (Kz (vP y 5) (Lz (.slice f d.aj.ls.length p) aX 0 D2 (Kz (vJ d.aj.ls.length) (Mn rfl (bo ?_))))))))
 have dX:=aX.pf []
 obtain⟨dY,aG⟩:=nQ fun (b:Nat) w'=>Own w D w' [blk y [vI d.au,vU d.av,vU d.aV,vU d.aL, .slice S d.ag.ls.length T, .slice f d.aj.ls.length p, .slice U d.aF.ls.length V] 33]∧b≤d.aj.ls.length∧dO d d.aj.ls 0=dO d (r3 b d.aj.ls) b
 refine C3 (fun i:Nat=> [(2, .bool false),(14,vJ i),(13,vJ d.aj.ls.length),(12, .slice f d.aj.ls.length p),(1,vP y 0)]) dY (fun i=>d.aj.ls.length - i) 0 ⟨rfl,rfl,rfl,rfl,rfl,trivial⟩ (aG.2 ⟨dX,e6,rfl⟩) ?_
 rintro b fP bP
 obtain⟨aP,eY,z⟩:=aG.1 bP
 refine sr (Kz (.bool (decide (((b:Nat):Int) < ((d.aj.ls.length:Nat):Int)))) (nt (Ic ?_)))
 by_cases bS:((b:Nat):Int) < ((d.aj.ls.length:Nat):Int)
 obtain⟨a,t⟩:=dN (ls:=ag) (i:=b) aC.len f4 (aP.ro O) e9
 have bT:=fF az t
 have eZ:=(o _ (D3 t)).2
 have C:=drop_at bT
 refine jT (dT bS) (sk (Ic (bo (sr (Mz rfl (fw (.pointer (some ⟨ab f,ao f+b *5,none⟩)) (Ij (kW) rfl rfl ((aP.ro O).addr (i:=b) e6) e6) (fw (.agg (aC.cells a).toArray) (Io rfl (Iy (cs:=(aC.cells a)) Tryz.isAgg60 Tryz.sizeOf60 ((aP.ro O).elem aC.len t f4))) ?_)))))))
 refine dV [.int .u64 0,vI 0, .int .u64 0, .int .u64 0, .slice none 0 0] 60 aP ?_
 intro j fQ dZ
 refine Az rfl ?_
 refine dS (aC.cells a) 0 dZ Tryz.sizeOf60 ?_
 intro fT ed
 refine nt (Ic (Ic ?_))
 refine qy [] (Iu (Iu (bQ.block (Iu (Iu (bQ.block (Iu IC))))))) ed ?_
 intro fU aA
 refine qv 0 rfl rfl (qk (.bool (decide (((b:Nat):Int) > 0))) 1 rfl (qv 2 rfl rfl ?_))
 by_cases l:((b:Nat):Int) > 0
 refine Ip (v:=vP j 0) (rs:= []) 3 rfl rfl rfl (dT l) e7 (fun _ _=>yk) (Ip (v:=vU a.aN) (rs:= []) 4 rfl rfl rfl (dT l) e7 (fun _ ⟨_,H9⟩=>Io rfl (bZ.one D4 (jR.of (H9.cls (i:=0) rfl) rfl))) (Ip (v:=vP y 5) (rs:= []) 5 rfl rfl rfl (dT l) e7 (fun _ _=>yk) (Ip (v:= .slice f d.aj.ls.length p) (rs:= []) 6 rfl rfl rfl (dT l) e7 (fun _ ⟨_,H9⟩=>Io rfl (bZ.one D2 (jR.of (H9.cls (i:=1) rfl) rfl))) (Ip (v:=vJ b) (rs:= []) 7 rfl rfl rfl (dT l) e7 (fun _ _=>Iq rfl) (Ip (v:=vJ (b - 1)) (rs:= []) 8 rfl rfl rfl (dT l) e7 (fun _ _=>Ie (e:=C5.wrap (((b:Nat):Int) - 1)) yk f0) ?_)))))
 obtain⟨N,aQ⟩:=jN (ls:=ag) (i:=b - 1) e9
 have P:=fF az aQ
 have fe:=(o _ (D3 aQ)).2
 refine Ip (v:= .pointer (some ⟨ab f,ao f+(b - 1) *5,none⟩)) (rs:= []) 9 rfl rfl rfl (dT l) e7 (fun _ ⟨_,H9⟩=>Ij (kW) rfl rfl ((H9.ro O).addr (i:=b - 1) e6) e6) (Ip (v:= .pointer (some ⟨ab f,ao f+(b - 1) *5,none⟩)) (rs:= []) 10 rfl rfl rfl (dT l) e7 (fun _ _=>yk) (Ip (v:=vU N.aN) (rs:= []) 11 rfl rfl rfl (dT l) e7 (fun _ ⟨_,H9⟩=>Io rfl (bZ.one D4 (((H9.ro O).elem aC.len aQ f4).at_ (k:=0) rfl))) (Ip (v:= .bool (decide (((a.aN:Nat):Int)≤((N.aN:Nat):Int)))) (rs:= []) 12 rfl rfl rfl (dT l) e7 (fun _ _=>yk) (qt (v:= .bool (decide (((a.aN:Nat):Int)≤((N.aN:Nat):Int)))) 13 rfl (fun _ _=>Iw rfl (dT l) rfl) (qv 14 rfl rfl ?_)))))
 by_cases u:((a.aN:Nat):Int)≤((N.aN:Nat):Int)
 refine Ik (rs:= []) 15 rfl rfl rfl (dT u) e7 (Ik (rs:= []) 16 rfl rfl rfl (dT u) e7 (Ik (rs:= []) 17 rfl rfl rfl (dT u) e7 (Ik (rs:= []) 18 rfl rfl rfl (dT u) e7 (Ik (rs:= []) 19 rfl rfl rfl (dT u) e7 (Ik (rs:= []) 20 rfl rfl rfl (dT u) e7 (Ik (rs:= []) 21 rfl rfl rfl (dT u) e7 (qt (v:= .bool true) 22 rfl (fun _ _=>Iw rfl (dT u) rfl) (qn (Ig (jt (sr (An rfl (rt (tR (bR (tR (tR (bR (tR (rs ?_))))))))))))))))))))
 have ek:=aA.pk []
 obtain rfl:_=false:=hr.symm.trans (et (iN G) (jm (et (z) (et (congrArg (fun q=>dO d q b) C) (et (ip l) (et (ah (bJ P)) (ip u)))))))
 exact⟨rfl,ek⟩
 refine Ip (v:=vP j 0) (rs:= []) 15 rfl rfl rfl (dF u) e7 (fun _ _=>yk) (Ip (v:=vU a.aN) (rs:= []) 16 rfl rfl rfl (dF u) e7 (fun _ ⟨_,H9⟩=>Io rfl (bZ.one D4 (jR.of (H9.cls (i:=0) rfl) rfl))) (Ip (v:=vP y 1) (rs:= []) 17 rfl rfl rfl (dF u) e7 (fun _ _=>yk) (Ip (v:=vU d.av) (rs:= []) 18 rfl rfl rfl (dF u) e7 (fun _ ⟨_,H9⟩=>Io rfl (bZ.one D4 (jR.of (H9.cls (i:=1) rfl) rfl))) (Ip (v:= .int .u64 ((D0 (D1.wrap (((d.av:Nat):Int)+1)):Nat):Int)) (rs:= []) 19 rfl rfl rfl (dF u) e7 (fun _ _=>Ie (e:=D1.wrap (((d.av:Nat):Int)+1)) yk (fD _)) ?_))))
 have fo:eU (D0 (D1.wrap (((d.av:Nat):Int)+1))) 32≤18446744073709551615:=nZ _ _
 refine Ip (v:= .int .u64 ((eU (D0 (D1.wrap (((d.av:Nat):Int)+1))) 32:Nat):Int)) (rs:= []) 20 rfl rfl rfl (dF u) e7 (fun _ _=>Ie (Jv (m:=32) rfl rfl) (fD _)) (Ip (v:= .bool (decide (((a.aN:Nat):Int) ≥ ((eU (D0 (D1.wrap (((d.av:Nat):Int)+1))) 32:Nat):Int)))) (rs:= []) 21 rfl rfl rfl (dF u) e7 (fun _ _=>yk) (qt (v:= .bool (decide (((a.aN:Nat):Int) ≥ ((eU (D0 (D1.wrap (((d.av:Nat):Int)+1))) 32:Nat):Int)))) 22 rfl (fun _ _=>Ih rfl (dF u) rfl) (qn (Ig ?_))))
 by_cases ai:((a.aN:Nat):Int) ≥ ((eU (D0 (D1.wrap (((d.av:Nat):Int)+1))) 32:Nat):Int)
 refine jT (dT ai) (sr (An rfl (rt (tR (bR (tR (tR (bR (tR (rs ?_))))))))))
 have eu:=aA.pk []
 obtain rfl:_=false:=hr.symm.trans (et (iN G) (jm (et (z) (et (congrArg (fun q=>dO d q b) C) (et (ip l) (et (ah (bJ P)) (et (iN u) (ip ai))))))))
 exact⟨rfl,eu⟩
 refine jF (dF ai) (sk (Ic (sr (Kz (vP j 1) (Lz (vI a.aK) aA 0 C4 ?_)))))
 obtain⟨Z,W⟩:∃ q,gV a.aK 4=q:=⟨_,rfl⟩
 obtain⟨fV,bU,fq,bV,fu⟩:=Ii aA
 refine cl E0 (mq _ _ a.aK 4 Z bU W) ?_
 rintro _ fZ ⟨rfl,bW⟩
 have aR:=bV _ _ bW
 refine Kz (.bool (!Z)) (Mz rfl ?_)
 rcases Li (Z) with F | F
 refine Gz (vP j 4) (cn F) (Gl (.slice a.au.A a.au.ls.length a.au.c) (cn F) aR 0 E1 (Gz (vJ a.au.ls.length) (cn F) (Gz (.bool (decide (((a.au.ls.length:Nat):Int)=0))) (cn F) (fw (.bool (decide (((a.au.ls.length:Nat):Int)=0))) (Ih rfl (cn F) rfl) (nt ?_)))))
 by_cases aM:((a.au.ls.length:Nat):Int)=0
 refine jT (dT aM) (sr (An rfl (rt (tR (bR (tR (tR (bR (tR (rs ?_))))))))))
 have eB:=aR.pk []
 obtain rfl:_=false:=hr.symm.trans (et (iN G) (jm (et (z) (et (congrArg (fun q=>dO d q b) C) (et (ip l) (et (ah (bJ P)) (et (iN u) (et (iN ai) (et (ah W) (et (ip F) (ip aM)))))))))))
 exact⟨rfl,eB⟩
 refine jF (dF aM) (sk (sr (Kz (vP j 4) (Lz (.slice a.au.A a.au.ls.length a.au.c) aR 0 E1 (Kz (vJ a.au.ls.length) (Mn rfl (bo ?_)))))))
 have eD:=aR.pf []
 obtain⟨eF,aH⟩:=nQ fun (h:Nat) w'=>Own w D w' [blk j (aC.cells a) 60,blk y [vI d.au,vU d.av,vU d.aV,vU d.aL, .slice S d.ag.ls.length T, .slice f d.aj.ls.length p, .slice U d.aF.ls.length V] 33]∧h≤a.au.ls.length∧dU d b (aC.abs a) a.au.ls 0=dU d b (aC.abs a) (r3 h a.au.ls) h
 refine C3 (fun i:Nat=> [(2, .bool false),(55,vJ i),(54,vJ a.au.ls.length),(53, .slice a.au.A a.au.ls.length a.au.c),(52,vP j 4),(51, .bool (decide (((a.au.ls.length:Nat):Int)=0))),(50, .bool (decide (((a.au.ls.length:Nat):Int)=0))),(49,vJ a.au.ls.length),(48, .slice a.au.A a.au.ls.length a.au.c),(47,vP j 4),(46, .bool (!Z)),(45, .bool (!Z)),(44, .bool Z),(43,vI a.aK),(42,vP j 1),(41, .bool (decide (((a.aN:Nat):Int) ≥ ((eU (D0 (D1.wrap (((d.av:Nat):Int)+1))) 32:Nat):Int)))),(40, .bool (decide (((a.aN:Nat):Int) ≥ ((eU (D0 (D1.wrap (((d.av:Nat):Int)+1))) 32:Nat):Int)))),(39, .int .u64 ((eU (D0 (D1.wrap (((d.av:Nat):Int)+1))) 32:Nat):Int)),(38, .int .u64 ((D0 (D1.wrap (((d.av:Nat):Int)+1)):Nat):Int)),(37,vU d.av),(36,vP y 1),(35,vU a.aN),(34,vP j 0),(33, .bool (decide (((a.aN:Nat):Int)≤((N.aN:Nat):Int)))),(32, .bool (decide (((a.aN:Nat):Int)≤((N.aN:Nat):Int)))),(31, .bool (decide (((a.aN:Nat):Int)≤((N.aN:Nat):Int)))),(30,vU N.aN),(29, .pointer (some ⟨ab f,ao f+(b - 1) *5,none⟩)),(28, .pointer (some ⟨ab f,ao f+(b - 1) *5,none⟩)),(27,vJ (b - 1)),(26,vJ b),(25, .slice f d.aj.ls.length p),(24,vP y 5),(23,vU a.aN),(22,vP j 0),(21, .bool (decide (((b:Nat):Int) > 0))),(20, .bool (decide (((b:Nat):Int) > 0))),(19,vJ b),(3,vJ b),(4,vP j 0),(18, .agg (aC.cells a).toArray),(17, .pointer (some ⟨ab f,ao f+b *5,none⟩)),(16,vJ b),(15, .bool (decide (((b:Nat):Int) < ((d.aj.ls.length:Nat):Int)))),(14,vJ b),(13,vJ d.aj.ls.length),(12, .slice f d.aj.ls.length p),(1,vP y 0)]) eF (fun i=>a.au.ls.length - i) 0 ⟨rfl,rfl,rfl,rfl,rfl,rfl,rfl,rfl,rfl,rfl,rfl,rfl,rfl,rfl,rfl,rfl,rfl,rfl,rfl,rfl,rfl,rfl,rfl,rfl,rfl,rfl,rfl,rfl,rfl,rfl,rfl,rfl,rfl,rfl,rfl,rfl,rfl,rfl,rfl,rfl,rfl,rfl,rfl,rfl,rfl,rfl,rfl,rfl,trivial⟩ (aH.2 ⟨eD,e6,rfl⟩) ?_
 rintro h gp bX
 obtain⟨aN,fA,aj⟩:=aH.1 bX
 refine sr (Kz (.bool (decide (((h:Nat):Int) < ((a.au.ls.length:Nat):Int)))) (nt (Ic ?_)))
 by_cases bY:((h:Nat):Int) < ((a.au.ls.length:Nat):Int)
 obtain⟨ak,bi⟩:=dN (ls:=a.au.ls) (i:=h) jd f4 (aN.ro (o _ (D3 t)).1) e9
 have aJ:=drop_at bi
 refine jT (dT bY) (sk (Ic (bo (sr (Mz rfl (fw (.pointer (some ⟨ab a.au.A,ao a.au.A+h *1,none⟩)) (Ij (om) rfl rfl ((aN.ro (o _ (D3 t)).1).addr (i:=h) e6) e6) (fw (vI ak) (Io rfl (bZ.one C4 (((aN.ro (o _ (D3 t)).1).elem jd bi f4).at_ (k:=0) rfl))) (Az rfl (Ar rfl (Mz rfl (Kz (vP y 0) (Lz (vI d.au) aN 1 C4 ?_))))))))))))
 obtain⟨bA,au⟩:∃ q,gV ak d.au=q:=⟨_,rfl⟩
 obtain⟨gq,cu,fC,cz,fE⟩:=Ii aN
 refine cl E0 (mq _ _ ak d.au bA cu au) ?_
 rintro _ gu ⟨rfl,cB⟩
 have av:=cz _ _ cB
 refine Kz (.bool (!bA)) (Mz rfl ?_)
 rcases Li (bA) with E | E
 refine gw (vJ h) (cn E) (Iq rfl) (Gz (.bool (decide (((h:Nat):Int) > 0))) (cn E) (gw (.bool (decide (((h:Nat):Int) > 0))) (cn E) (Iq rfl) ?_))
 by_cases B:((h:Nat):Int) > 0
 refine gw (vI ak) (dT B) (Iq rfl) (Gz (vP j 4) (dT B) (Gl (.slice a.au.A a.au.ls.length a.au.c) (dT B) av 0 E1 (gw (vJ h) (dT B) (Iq rfl) (gw (vJ (h - 1)) (dT B) (Ie (e:=C5.wrap (((h:Nat):Int) - 1)) yk f0) ?_))))
 obtain⟨aS,aT⟩:=dN (ls:=a.au.ls) (i:=h - 1) jd f4 (av.ro (o _ (D3 t)).1) e9
 refine gw (.pointer (some ⟨ab a.au.A,ao a.au.A+(h - 1) *1,none⟩)) (dT B) (Ij (om) rfl rfl ((av.ro (o _ (D3 t)).1).addr (i:=h - 1) e6) e6) (gw (vI aS) (dT B) (Io rfl (bZ.one C4 (((av.ro (o _ (D3 t)).1).elem jd aT f4).at_ (k:=0) rfl))) (Gz (.bool (decide (ak≤aS))) (dT B) (gw (.bool (decide (ak≤aS))) (cn E) (Iw rfl (dT B) rfl) (fw (.bool (decide (ak≤aS))) (Ih rfl (cn E) rfl) (nt ?_)))))
 by_cases aK:ak≤aS
 refine jT (dT aK) (sr (An rfl (rt (bR (tR (tR (bR (bR (tR (tR (bR (tR (rs ?_)))))))))))))
 have cK:=av.pk []
 obtain rfl:_=false:=hr.symm.trans (et (iN G) (jm (et (z) (et (congrArg (fun q=>dO d q b) C) (et (ip l) (et (ah (bJ P)) (et (iN u) (et (iN ai) (et (ah W) (et (ip F) (et (iN aM) (oF (et (aj) (et (congrArg (fun q=>dU d b (aC.abs a) q h) aJ) (et (ah au) (et (ip E) (et (ip B) (et (ah (bJ aT)) (ip aK)))))))))))))))))))
 exact⟨rfl,cK⟩
 refine jF (dF aK) (IE (bN (Ig (Ib (fw (vJ (h+1)) (Ie (e:=C5.wrap (((h:Nat):Int)+1)) yk f0) (Mz rfl (C6 ?_)))))))
 have cO:=av.pf []
 exact Ir (h+1) ⟨rfl,rfl,rfl,rfl,rfl,rfl,rfl,rfl,rfl,rfl,rfl,rfl,rfl,rfl,rfl,rfl,rfl,rfl,rfl,rfl,rfl,rfl,rfl,rfl,rfl,rfl,rfl,rfl,rfl,rfl,rfl,rfl,rfl,rfl,rfl,rfl,rfl,rfl,rfl,rfl,rfl,rfl,rfl,rfl,rfl,rfl,rfl,rfl,trivial⟩ (aH.2 ⟨cO,e6,et (aj) (et (congrArg (fun q=>dU d b (aC.abs a) q h) aJ) (et (ah au) (et (ip E) (et (ip B) (et (ah (bJ aT)) (iN aK))))))⟩) (by show a.au.ls.length - (h+1) < a.au.ls.length - h; omega)
 refine Sz (dF B) (Sz (dF B) (Sz (dF B) (Sz (dF B) (Sz (dF B) (Sz (dF B) (Sz (dF B) (Sz (dF B) (gw (.bool false) (cn E) (Ih rfl (dF B) rfl) (fw (.bool false) (Ih rfl (cn E) rfl) (nt (jf (IE (bN (Ig (Ib (fw (vJ (h+1)) (Ie (e:=C5.wrap (((h:Nat):Int)+1)) yk f0) (Mz rfl (C6 ?_))))))))))))))))))
 have df:=av.pf []
 exact Ir (h+1) ⟨rfl,rfl,rfl,rfl,rfl,rfl,rfl,rfl,rfl,rfl,rfl,rfl,rfl,rfl,rfl,rfl,rfl,rfl,rfl,rfl,rfl,rfl,rfl,rfl,rfl,rfl,rfl,rfl,rfl,rfl,rfl,rfl,rfl,rfl,rfl,rfl,rfl,rfl,rfl,rfl,rfl,rfl,rfl,rfl,rfl,rfl,rfl,rfl,trivial⟩ (aH.2 ⟨df,e6,et (aj) (et (congrArg (fun q=>dU d b (aC.abs a) q h) aJ) (et (ah au) (et (ip E) (iN B))))⟩) (by show a.au.ls.length - (h+1) < a.au.ls.length - h; omega)
 refine Sz (cn E) (Sz (cn E) (Sz (cn E) (IR rfl rfl rfl (IR rfl rfl rfl (IR rfl rfl rfl (IR rfl rfl rfl (IR rfl rfl rfl (IR rfl rfl rfl (IR rfl rfl rfl (IR rfl rfl rfl (Sz (cn E) (fw (.bool true) (Iw rfl (cn E) rfl) (nt (jt (sr (An rfl (rt (bR (tR (tR (bR (bR (tR (tR (bR (tR (rs ?_)))))))))))))))))))))))))))
 have dh:=av.pk []
 obtain rfl:_=false:=hr.symm.trans (et (iN G) (jm (et (z) (et (congrArg (fun q=>dO d q b) C) (et (ip l) (et (ah (bJ P)) (et (iN u) (et (iN ai) (et (ah W) (et (ip F) (et (iN aM) (oF (et (aj) (et (congrArg (fun q=>dU d b (aC.abs a) q h) aJ) (et (ah au) (gm E))))))))))))))))
 exact⟨rfl,dh⟩
 refine jF (dF bY) (C7 (Il ?_))
 have bB:dU d b (aC.abs a) a.au.ls 0=B9 ():=et (aj) (et (congrArg (fun q=>dU d b (aC.abs a) q h) (fB (ls:=a.au.ls) (i:=h) e6)) rfl)
 refine Il (IB (bN (Ig (Ib (fw (vJ (b+1)) (Ie (e:=C5.wrap (((b:Nat):Int)+1)) yk f0) (Mz rfl (C6 ?_)))))))
 have di:=aN.pk [1]
 exact Ir (b+1) ⟨rfl,rfl,rfl,rfl,rfl,trivial⟩ (aG.2 ⟨di,e6,et (z) (et (congrArg (fun q=>dO d q b) C) (et (ip l) (et (ah (bJ P)) (et (iN u) (et (iN ai) (et (ah W) (et (ip F) (et (iN aM) (nY bB)))))))))⟩) (by show d.aj.ls.length - (b+1) < d.aj.ls.length - b; omega)
 refine Sz (cn F) (Sz (cn F) (Sz (cn F) (Sz (cn F) (fw (.bool true) (Iw rfl (cn F) rfl) (nt (jt (sr (An rfl (rt (tR (bR (tR (tR (bR (tR (rs ?_))))))))))))))))
 have dm:=aR.pk []
 obtain rfl:_=false:=hr.symm.trans (et (iN G) (jm (et (z) (et (congrArg (fun q=>dO d q b) C) (et (ip l) (et (ah (bJ P)) (et (iN u) (et (iN ai) (et (ah W) (gm F))))))))))
 exact⟨rfl,dm⟩
 refine Ik (rs:= []) 3 rfl rfl rfl (dF l) e7 (Ik (rs:= []) 4 rfl rfl rfl (dF l) e7 (Ik (rs:= []) 5 rfl rfl rfl (dF l) e7 (Ik (rs:= []) 6 rfl rfl rfl (dF l) e7 (Ik (rs:= []) 7 rfl rfl rfl (dF l) e7 (Ik (rs:= []) 8 rfl rfl rfl (dF l) e7 (Ik (rs:= []) 9 rfl rfl rfl (dF l) e7 (Ik (rs:= []) 10 rfl rfl rfl (dF l) e7 (Ik (rs:= []) 11 rfl rfl rfl (dF l) e7 (Ik (rs:= []) 12 rfl rfl rfl (dF l) e7 (qt (v:= .bool false) 13 rfl (fun _ _=>Ih rfl (dF l) rfl) (qv 14 rfl rfl (Ip (v:=vP j 0) (rs:= []) 15 rfl rfl rfl rfl e7 (fun _ _=>yk) (Ip (v:=vU a.aN) (rs:= []) 16 rfl rfl rfl rfl e7 (fun _ ⟨_,H9⟩=>Io rfl (bZ.one D4 (jR.of (H9.cls (i:=0) rfl) rfl))) (Ip (v:=vP y 1) (rs:= []) 17 rfl rfl rfl rfl e7 (fun _ _=>yk) (Ip (v:=vU d.av) (rs:= []) 18 rfl rfl rfl rfl e7 (fun _ ⟨_,H9⟩=>Io rfl (bZ.one D4 (jR.of (H9.cls (i:=1) rfl) rfl))) (Ip (v:= .int .u64 ((D0 (D1.wrap (((d.av:Nat):Int)+1)):Nat):Int)) (rs:= []) 19 rfl rfl rfl rfl e7 (fun _ _=>Ie (e:=D1.wrap (((d.av:Nat):Int)+1)) yk (fD _)) ?_))))))))))))))))
 have eG:eU (D0 (D1.wrap (((d.av:Nat):Int)+1))) 32≤18446744073709551615:=nZ _ _
 refine Ip (v:= .int .u64 ((eU (D0 (D1.wrap (((d.av:Nat):Int)+1))) 32:Nat):Int)) (rs:= []) 20 rfl rfl rfl rfl e7 (fun _ _=>Ie (Jv (m:=32) rfl rfl) (fD _)) (Ip (v:= .bool (decide (((a.aN:Nat):Int) ≥ ((eU (D0 (D1.wrap (((d.av:Nat):Int)+1))) 32:Nat):Int)))) (rs:= []) 21 rfl rfl rfl rfl e7 (fun _ _=>yk) (qt (v:= .bool (decide (((a.aN:Nat):Int) ≥ ((eU (D0 (D1.wrap (((d.av:Nat):Int)+1))) 32:Nat):Int)))) 22 rfl (fun _ _=>Ih rfl rfl rfl) (qn (Ig ?_))))
 by_cases K:((a.aN:Nat):Int) ≥ ((eU (D0 (D1.wrap (((d.av:Nat):Int)+1))) 32:Nat):Int)
 refine jT (dT K) (sr (An rfl (rt (tR (bR (tR (tR (bR (tR (rs ?_))))))))))
 have dn:=aA.pk []
 obtain rfl:_=false:=hr.symm.trans (et (iN G) (jm (et (z) (et (congrArg (fun q=>dO d q b) C) (et (iN l) (ip K))))))
 exact⟨rfl,dn⟩
 refine jF (dF K) (sk (Ic (sr (Kz (vP j 1) (Lz (vI a.aK) aA 0 C4 ?_)))))
 obtain⟨I,J⟩:∃ q,gV a.aK 4=q:=⟨_,rfl⟩
 obtain⟨fG,bC,eH,bD,eO⟩:=Ii aA
 refine cl E0 (mq _ _ a.aK 4 I bC J) ?_
 rintro _ fH ⟨rfl,bF⟩
 have ax:=bD _ _ bF
 refine Kz (.bool (!I)) (Mz rfl ?_)
 rcases Li (I) with s | s
 refine Gz (vP j 4) (cn s) (Gl (.slice a.au.A a.au.ls.length a.au.c) (cn s) ax 0 E1 (Gz (vJ a.au.ls.length) (cn s) (Gz (.bool (decide (((a.au.ls.length:Nat):Int)=0))) (cn s) (fw (.bool (decide (((a.au.ls.length:Nat):Int)=0))) (Ih rfl (cn s) rfl) (nt ?_)))))
 by_cases X:((a.au.ls.length:Nat):Int)=0
 refine jT (dT X) (sr (An rfl (rt (tR (bR (tR (tR (bR (tR (rs ?_))))))))))
 have dw:=ax.pk []
 obtain rfl:_=false:=hr.symm.trans (et (iN G) (jm (et (z) (et (congrArg (fun q=>dO d q b) C) (et (iN l) (et (iN K) (et (ah J) (et (ip s) (ip X)))))))))
 exact⟨rfl,dw⟩
 refine jF (dF X) (sk (sr (Kz (vP j 4) (Lz (.slice a.au.A a.au.ls.length a.au.c) ax 0 E1 (Kz (vJ a.au.ls.length) (Mn rfl (bo ?_)))))))
 have dx:=ax.pf []
 obtain⟨dz,aa⟩:=nQ fun (g:Nat) w'=>Own w D w' [blk j (aC.cells a) 60,blk y [vI d.au,vU d.av,vU d.aV,vU d.aL, .slice S d.ag.ls.length T, .slice f d.aj.ls.length p, .slice U d.aF.ls.length V] 33]∧g≤a.au.ls.length∧gB d b (aC.abs a) a.au.ls 0=gB d b (aC.abs a) (r3 g a.au.ls) g
 refine C3 (fun i:Nat=> [(2, .bool false),(55,vJ i),(54,vJ a.au.ls.length),(53, .slice a.au.A a.au.ls.length a.au.c),(52,vP j 4),(51, .bool (decide (((a.au.ls.length:Nat):Int)=0))),(50, .bool (decide (((a.au.ls.length:Nat):Int)=0))),(49,vJ a.au.ls.length),(48, .slice a.au.A a.au.ls.length a.au.c),(47,vP j 4),(46, .bool (!I)),(45, .bool (!I)),(44, .bool I),(43,vI a.aK),(42,vP j 1),(41, .bool (decide (((a.aN:Nat):Int) ≥ ((eU (D0 (D1.wrap (((d.av:Nat):Int)+1))) 32:Nat):Int)))),(40, .bool (decide (((a.aN:Nat):Int) ≥ ((eU (D0 (D1.wrap (((d.av:Nat):Int)+1))) 32:Nat):Int)))),(39, .int .u64 ((eU (D0 (D1.wrap (((d.av:Nat):Int)+1))) 32:Nat):Int)),(38, .int .u64 ((D0 (D1.wrap (((d.av:Nat):Int)+1)):Nat):Int)),(37,vU d.av),(36,vP y 1),(35,vU a.aN),(34,vP j 0),(33, .bool false),(32, .bool false),(31,undef),(30,undef),(29,undef),(28,undef),(27,undef),(26,undef),(25,undef),(24,undef),(23,undef),(22,undef),(21, .bool (decide (((b:Nat):Int) > 0))),(20, .bool (decide (((b:Nat):Int) > 0))),(19,vJ b),(3,vJ b),(4,vP j 0),(18, .agg (aC.cells a).toArray),(17, .pointer (some ⟨ab f,ao f+b *5,none⟩)),(16,vJ b),(15, .bool (decide (((b:Nat):Int) < ((d.aj.ls.length:Nat):Int)))),(14,vJ b),(13,vJ d.aj.ls.length),(12, .slice f d.aj.ls.length p),(1,vP y 0)]) dz (fun i=>a.au.ls.length - i) 0 ⟨rfl,rfl,rfl,rfl,rfl,rfl,rfl,rfl,rfl,rfl,rfl,rfl,rfl,rfl,rfl,rfl,rfl,rfl,rfl,rfl,rfl,rfl,rfl,rfl,rfl,rfl,rfl,rfl,rfl,rfl,rfl,rfl,rfl,rfl,rfl,rfl,rfl,rfl,rfl,rfl,rfl,rfl,rfl,rfl,rfl,rfl,rfl,rfl,trivial⟩ (aa.2 ⟨dx,e6,rfl⟩) ?_
 rintro g fI bG
 obtain⟨Y,eP,Q⟩:=aa.1 bG
 refine sr (Kz (.bool (decide (((g:Nat):Int) < ((a.au.ls.length:Nat):Int)))) (nt (Ic ?_)))
 by_cases bn:((g:Nat):Int) < ((a.au.ls.length:Nat):Int)
 obtain⟨L,aV⟩:=dN (ls:=a.au.ls) (i:=g) jd f4 (Y.ro (o _ (D3 t)).1) e9
 have af:=drop_at aV
 refine jT (dT bn) (sk (Ic (bo (sr (Mz rfl (fw (.pointer (some ⟨ab a.au.A,ao a.au.A+g *1,none⟩)) (Ij (om) rfl rfl ((Y.ro (o _ (D3 t)).1).addr (i:=g) e6) e6) (fw (vI L) (Io rfl (bZ.one C4 (((Y.ro (o _ (D3 t)).1).elem jd aV f4).at_ (k:=0) rfl))) (Az rfl (Ar rfl (Mz rfl (Kz (vP y 0) (Lz (vI d.au) Y 1 C4 ?_))))))))))))
 obtain⟨aW,R⟩:∃ q,gV L d.au=q:=⟨_,rfl⟩
 obtain⟨fJ,bH,eQ,bI,eT⟩:=Ii Y
 refine cl E0 (mq _ _ L d.au aW bH R) ?_
 rintro _ fK ⟨rfl,bK⟩
 have M:=bI _ _ bK
 refine Kz (.bool (!aW)) (Mz rfl ?_)
 rcases Li (aW) with r | r
 refine gw (vJ g) (cn r) (Iq rfl) (Gz (.bool (decide (((g:Nat):Int) > 0))) (cn r) (gw (.bool (decide (((g:Nat):Int) > 0))) (cn r) (Iq rfl) ?_))
 by_cases n:((g:Nat):Int) > 0
 refine gw (vI L) (dT n) (Iq rfl) (Gz (vP j 4) (dT n) (Gl (.slice a.au.A a.au.ls.length a.au.c) (dT n) M 0 E1 (gw (vJ g) (dT n) (Iq rfl) (gw (vJ (g - 1)) (dT n) (Ie (e:=C5.wrap (((g:Nat):Int) - 1)) yk f0) ?_))))
 obtain⟨ay,aF⟩:=dN (ls:=a.au.ls) (i:=g - 1) jd f4 (M.ro (o _ (D3 t)).1) e9
 refine gw (.pointer (some ⟨ab a.au.A,ao a.au.A+(g - 1) *1,none⟩)) (dT n) (Ij (om) rfl rfl ((M.ro (o _ (D3 t)).1).addr (i:=g - 1) e6) e6) (gw (vI ay) (dT n) (Io rfl (bZ.one C4 (((M.ro (o _ (D3 t)).1).elem jd aF f4).at_ (k:=0) rfl))) (Gz (.bool (decide (L≤ay))) (dT n) (gw (.bool (decide (L≤ay))) (cn r) (Iw rfl (dT n) rfl) (fw (.bool (decide (L≤ay))) (Ih rfl (cn r) rfl) (nt ?_)))))
 by_cases aL:L≤ay
 refine jT (dT aL) (sr (An rfl (rt (bR (tR (tR (bR (bR (tR (tR (bR (tR (rs ?_)))))))))))))
 have dA:=M.pk []
 obtain rfl:_=false:=hr.symm.trans (et (iN G) (jm (et (z) (et (congrArg (fun q=>dO d q b) C) (et (iN l) (et (iN K) (et (ah J) (et (ip s) (et (iN X) (oF (et (Q) (et (congrArg (fun q=>gB d b (aC.abs a) q g) af) (et (ah R) (et (ip r) (et (ip n) (et (ah (bJ aF)) (ip aL)))))))))))))))))
 exact⟨rfl,dA⟩
 refine jF (dF aL) (IE (bN (Ig (Ib (fw (vJ (g+1)) (Ie (e:=C5.wrap (((g:Nat):Int)+1)) yk f0) (Mz rfl (C6 ?_)))))))
 have dB:=M.pf []
 exact Ir (g+1) ⟨rfl,rfl,rfl,rfl,rfl,rfl,rfl,rfl,rfl,rfl,rfl,rfl,rfl,rfl,rfl,rfl,rfl,rfl,rfl,rfl,rfl,rfl,rfl,rfl,rfl,rfl,rfl,rfl,rfl,rfl,rfl,rfl,rfl,rfl,rfl,rfl,rfl,rfl,rfl,rfl,rfl,rfl,rfl,rfl,rfl,rfl,rfl,rfl,trivial⟩ (aa.2 ⟨dB,e6,et (Q) (et (congrArg (fun q=>gB d b (aC.abs a) q g) af) (et (ah R) (et (ip r) (et (ip n) (et (ah (bJ aF)) (iN aL))))))⟩) (by show a.au.ls.length - (g+1) < a.au.ls.length - g; omega)
 refine Sz (dF n) (Sz (dF n) (Sz (dF n) (Sz (dF n) (Sz (dF n) (Sz (dF n) (Sz (dF n) (Sz (dF n) (gw (.bool false) (cn r) (Ih rfl (dF n) rfl) (fw (.bool false) (Ih rfl (cn r) rfl) (nt (jf (IE (bN (Ig (Ib (fw (vJ (g+1)) (Ie (e:=C5.wrap (((g:Nat):Int)+1)) yk f0) (Mz rfl (C6 ?_))))))))))))))))))
 have dC:=M.pf []
 exact Ir (g+1) ⟨rfl,rfl,rfl,rfl,rfl,rfl,rfl,rfl,rfl,rfl,rfl,rfl,rfl,rfl,rfl,rfl,rfl,rfl,rfl,rfl,rfl,rfl,rfl,rfl,rfl,rfl,rfl,rfl,rfl,rfl,rfl,rfl,rfl,rfl,rfl,rfl,rfl,rfl,rfl,rfl,rfl,rfl,rfl,rfl,rfl,rfl,rfl,rfl,trivial⟩ (aa.2 ⟨dC,e6,et (Q) (et (congrArg (fun q=>gB d b (aC.abs a) q g) af) (et (ah R) (et (ip r) (iN n))))⟩) (by show a.au.ls.length - (g+1) < a.au.ls.length - g; omega)
 refine Sz (cn r) (Sz (cn r) (Sz (cn r) (IR rfl rfl rfl (IR rfl rfl rfl (IR rfl rfl rfl (IR rfl rfl rfl (IR rfl rfl rfl (IR rfl rfl rfl (IR rfl rfl rfl (IR rfl rfl rfl (Sz (cn r) (fw (.bool true) (Iw rfl (cn r) rfl) (nt (jt (sr (An rfl (rt (bR (tR (tR (bR (bR (tR (tR (bR (tR (rs ?_)))))))))))))))))))))))))))
 have dD:=M.pk []
 obtain rfl:_=false:=hr.symm.trans (et (iN G) (jm (et (z) (et (congrArg (fun q=>dO d q b) C) (et (iN l) (et (iN K) (et (ah J) (et (ip s) (et (iN X) (oF (et (Q) (et (congrArg (fun q=>gB d b (aC.abs a) q g) af) (et (ah R) (gm r))))))))))))))
 exact⟨rfl,dD⟩
 refine jF (dF bn) (C7 (Il ?_))
 have bL:gB d b (aC.abs a) a.au.ls 0=B9 ():=et (Q) (et (congrArg (fun q=>gB d b (aC.abs a) q g) (fB (ls:=a.au.ls) (i:=g) e6)) rfl)
 refine Il (IB (bN (Ig (Ib (fw (vJ (b+1)) (Ie (e:=C5.wrap (((b:Nat):Int)+1)) yk f0) (Mz rfl (C6 ?_)))))))
 have dE:=Y.pk [1]
 exact Ir (b+1) ⟨rfl,rfl,rfl,rfl,rfl,trivial⟩ (aG.2 ⟨dE,e6,et (z) (et (congrArg (fun q=>dO d q b) C) (et (iN l) (et (iN K) (et (ah J) (et (ip s) (et (iN X) (nY bL)))))))⟩) (by show d.aj.ls.length - (b+1) < d.aj.ls.length - b; omega)
 refine Sz (cn s) (Sz (cn s) (Sz (cn s) (Sz (cn s) (fw (.bool true) (Iw rfl (cn s) rfl) (nt (jt (sr (An rfl (rt (tR (bR (tR (tR (bR (tR (rs ?_))))))))))))))))
 have dG:=ax.pk []
 obtain rfl:_=false:=hr.symm.trans (et (iN G) (jm (et (z) (et (congrArg (fun q=>dO d q b) C) (et (iN l) (et (iN K) (et (ah J) (gm s))))))))
 exact⟨rfl,dG⟩
 refine jF (dF bS) (C7 (Il ?_))
 have bM:dO d d.aj.ls 0=B9 ():=et (z) (et (congrArg (fun q=>dO d q b) (fB (ls:=d.aj.ls) (i:=b) e6)) rfl)
 refine Il (IB (Ig (sr (An rfl (rt (rs ?_))))))
 have dH:=aP.pk []
 obtain rfl:_=true:=hr.symm.trans (et (iN G) (nT bM))
 exact⟨rfl,dH⟩
def fG:List aI→Unit ⊕ Bool
  | []=>B9 ()
  | a::c=>bnd (ib a.bY) fun b=>if b=0 then if((a.aT.length:Nat):Int) > 16 then C1 (false) else fG c else C1 (false)
def iA (a:aQ):Bool:=
 if((a.aT.length:Nat):Int) > 16 then false else if((a.ak.ls.length:Nat):Int) > 4 then false else lp (fG a.ak.ls) fun _=>true
theorem rA (w D) (a:aQ) (f x h X) (H:Own w D w []) (B:x=a.ak.ls.length) (j:Ro w D fun w'=>bE w' 2 f a.ak.ls.length (q3 aI.cells a.ak.ls)) (N:a.ak.ls.length≤h∧a.ak.ls.length≤9223372036854775807) (hr:iA a=X):
    Calls v8 73 #[.agg #[.bool a.eF, .string ⟨v9 a.aT⟩, .slice f x h]] w (d9 fun v w'=>v= .bool X∧Own w D w' []):=by
 subst B
 refine cb Tryz.func73 ?_
 refine sr ?_
 refine dV [.bool a.eF, .string ⟨v9 a.aT⟩, .slice f a.ak.ls.length h] 149 H ?_
 intro C ae m
 refine An rfl (Ic (sr (Kz (vP C 1) (Lz (.string ⟨v9 a.aT⟩) m 0 C2 (Kz (vJ a.aT.length) (Kz (.bool (decide (((a.aT.length:Nat):Int) > 16))) (Mz rfl ?_)))))))
 by_cases b:((a.aT.length:Nat):Int) > 16
 refine Sz (dT b) (Sz (dT b) (Sz (dT b) (Sz (dT b) (fw (.bool true) (Iw rfl (dT b) rfl) (nt (jt (sr (An rfl (rt (tR (rs ?_)))))))))))
 have O:=m.pk []
 obtain rfl:_=false:=hr.symm.trans (ip b)
 exact⟨rfl,O⟩
 refine Gz (vP C 2) (dF b) (Gl (.slice f a.ak.ls.length h) (dF b) m 0 Tryz.isAgg147 (Gz (vJ a.ak.ls.length) (dF b) (Gz (.bool (decide (((a.ak.ls.length:Nat):Int) > 4))) (dF b) (fw (.bool (decide (((a.ak.ls.length:Nat):Int) > 4))) (Ih rfl (dF b) rfl) (nt ?_)))))
 by_cases n:((a.ak.ls.length:Nat):Int) > 4
 refine jT (dT n) (sr (An rfl (rt (tR (rs ?_)))))
 have P:=m.pk []
 obtain rfl:_=false:=hr.symm.trans (et (iN b) (ip n))
 exact⟨rfl,P⟩
 refine jF (dF n) (sk (Ic (sr (Kz (vP C 2) (Lz (.slice f a.ak.ls.length h) m 0 Tryz.isAgg147 (Kz (vJ a.ak.ls.length) (Mn rfl (bo ?_))))))))
 have Q:=m.pk []
 obtain⟨R,p⟩:=nQ fun (c:Nat) w'=>Own w D w' []∧c≤a.ak.ls.length∧fG a.ak.ls=fG (r3 c a.ak.ls)
 refine C3 (fun i:Nat=> [(2, .bool false),(18,vJ i),(17,vJ a.ak.ls.length),(16, .slice f a.ak.ls.length h)]) R (fun i=>a.ak.ls.length - i) 0 ⟨rfl,rfl,rfl,rfl,trivial⟩ (p.2 ⟨Q,e6,rfl⟩) ?_
 rintro c af E
 obtain⟨r,Y,k⟩:=p.1 E
 refine sr (Kz (.bool (decide (((c:Nat):Int) < ((a.ak.ls.length:Nat):Int)))) (nt (Ic ?_)))
 by_cases F:((c:Nat):Int) < ((a.ak.ls.length:Nat):Int)
 obtain⟨d,y⟩:=dN (ls:=a.ak.ls) (i:=c) aI.len f4 (r.ro j) e9
 have s:=drop_at y
 refine jT (dT F) (sk (Ic (bo (sr (fw (.pointer (some ⟨ab f,ao f+c *2,none⟩)) (Ij (ko) rfl rfl ((r.ro j).addr (i:=c) e6) e6) (fw (.agg (aI.cells d).toArray) (Io rfl (Iy (cs:=(aI.cells d)) Tryz.isAgg153 Tryz.sizeOf153 ((r.ro j).elem aI.len y f4))) ?_))))))
 refine dV [.string ⟨v9 ([])⟩, .string ⟨v9 ([])⟩] 153 r ?_
 intro G ag S
 refine dS (aI.cells d) 0 S Tryz.sizeOf153 ?_
 intro ai I
 refine ns (Kz (vP G 0) (Lz (.string ⟨v9 d.bY⟩) I 0 C2 ?_))
 obtain⟨o,l⟩:∃ q,ib d.bY=q:=⟨_,rfl⟩
 obtain⟨aj,J,Z,K,aa⟩:=Ii I
 refine cl Tryz.call112 (kM _ _ d.bY o J l) ?_
 rintro _ ak ⟨rfl,L,z,A⟩
 have t:=K _ _ L
 replace z: ¬ (o=0)∨(1≤d.bY.length∧d.bY.length≤12):=z
 replace A:d.bY.length < 1∨d.bY.length > 12∨o=0:=A
 refine fw (.bool (decide (¬ (o=0)))) (IG (e:= !(decide (o=0))) yk decide_not.symm) (Mz rfl ?_)
 by_cases g:o=0
 refine gw (vP G 1) (dF (Lh g)) yk (gw (.string ⟨v9 d.aT⟩) (dF (Lh g)) (Io rfl (bZ.one C2 (jR.of (t.cls (i:=0) rfl) rfl))) (gw (vJ d.aT.length) (dF (Lh g)) yk (gw (.bool (decide (((d.aT.length:Nat):Int) > 16))) (dF (Lh g)) yk (fw (.bool (decide (((d.aT.length:Nat):Int) > 16))) (Ih rfl (dF (Lh g)) rfl) (nt ?_)))))
 by_cases u:((d.aT.length:Nat):Int) > 16
 refine jT (dT u) (sr (An rfl (rt (bR (tR (tR (bR (tR (rs ?_)))))))))
 have T:=t.pk []
 obtain rfl:_=false:=hr.symm.trans (et (iN b) (et (iN n) (jm (et (k) (et (congrArg (fun q=>fG q) s) (et (ah l) (et (ip g) (ip u))))))))
 exact⟨rfl,T⟩
 refine jF (dF u) (IE (bN (Ig (Ib (fw (vJ (c+1)) (Ie (e:=C5.wrap (((c:Nat):Int)+1)) yk f0) (Mz rfl (C6 ?_)))))))
 have U:=t.pk []
 exact Ir (c+1) ⟨rfl,rfl,rfl,rfl,trivial⟩ (p.2 ⟨U,e6,et (k) (et (congrArg (fun q=>fG q) s) (et (ah l) (et (ip g) (iN u))))⟩) (by show a.ak.ls.length - (c+1) < a.ak.ls.length - c; omega)
 refine Sz (dT g) (Sz (dT g) (Sz (dT g) (Sz (dT g) (fw (.bool true) (Iw rfl (dT g) rfl) (nt (jt (sr (An rfl (rt (bR (tR (tR (bR (tR (rs ?_)))))))))))))))
 have V:=t.pk []
 obtain rfl:_=false:=hr.symm.trans (et (iN b) (et (iN n) (jm (et (k) (et (congrArg (fun q=>fG q) s) (et (ah l) (iN g)))))))
 exact⟨rfl,V⟩
 refine jF (dF F) (C7 (Il ?_))
 have M:fG a.ak.ls=B9 ():=et (k) (et (congrArg (fun q=>fG q) (fB (ls:=a.ak.ls) (i:=c) e6)) rfl)
 refine Il (IB (Ig (sr (An rfl (rt (rs ?_))))))
 have W:=r.pk []
 obtain rfl:_=true:=hr.symm.trans (et (iN b) (et (iN n) (nT M)))
 exact⟨rfl,W⟩
def gq (e:Nat) (c:eD):Nat→Nat→Unit ⊕ Bool
  | 0,b=>B9 ()
  | f+1,b=>bnd (C0 c.ai.ls b default) fun a=>bnd (iA (aQ.mk a.eF a.aT (E2 a.ak.ls))) fun d=>if d=true then gq e c f (b+1) else C1 (false)
def iV (f:Nat) (d:eD):Nat→Nat→Unit ⊕ Bool
  | 0,b=>B9 ()
  | e+1,b=>bnd (C0 d.ai.ls b default) fun a=>bnd (iA (aQ.mk a.eF a.aT (E2 a.ak.ls))) fun c=>if c=true then iV f d e (b+1) else C1 (false)
def fJ (l0:List eD):List eD→Nat→Unit ⊕ Bool
  | [],b=>B9 ()
  | a::c,b=>bnd (gV a.aK 4) fun d=>if d=true then if((b:Nat):Int) > 0 then bnd (C0 l0 (b - 1) default) fun e=>if a.aK≤e.aK then C1 (false) else if((a.ai.ls.length:Nat):Int) > 4 then C1 (false) else qU (gq b a a.ai.ls.length 0) fun _=>fJ l0 c (b+1) else if((a.ai.ls.length:Nat):Int) > 4 then C1 (false) else qU (iV b a a.ai.ls.length 0) fun _=>fJ l0 c (b+1) else C1 (false)
def nC (l0:List eD):Bool:=
 if((l0.length:Nat):Int) > 4 then false else lp (fJ l0 l0 0) fun _=>true
theorem xc (w D o n0 K d0 l0 r0) (H:Own w D w []) (av:s5 aU.abs d0=l0) (R:Ro w D fun w'=>bE w' 4 o n0 (q3 aU.cells d0)) (B:∀ x ∈ d0,Ro w D (fun w'=>bE w' 3 x.ai.A x.ai.ls.length (q3 ae.cells x.ai.ls))∧(x.ai.ls.length≤x.ai.c∧x.ai.ls.length≤9223372036854775807)∧(∀ y1 ∈ x.ai.ls,Ro w D (fun w'=>bE w' 2 y1.ak.A y1.ak.ls.length (q3 aI.cells y1.ak.ls))∧(y1.ak.ls.length≤y1.ak.c∧y1.ak.ls.length≤9223372036854775807))) (bF:n0=l0.length) (dE:l0.length≤9223372036854775807) (hr:nC l0=r0):
    Calls v8 43 #[.slice o n0 K] w (d9 fun v w'=>v= .bool r0∧Own w D w' []):=by
 subst bF
 have cz:=aB av
 refine cb Tryz.func43 ?_
 refine sr (An rfl (Ic (sr (Mz rfl (Kz (vJ l0.length) (Kz (.bool (decide (((l0.length:Nat):Int) > 4))) (nt ?_)))))))
 by_cases C:((l0.length:Nat):Int) > 4
 refine jT (dT C) (sr (An rfl (rt (tR (rs ?_)))))
 have bG:=H.pk []
 obtain rfl:_=false:=hr.symm.trans (ip C)
 exact⟨rfl,bG⟩
 refine jF (dF C) (sk (Ic (sr (Mz rfl (Kz (vJ l0.length) (Mn rfl (bo ?_)))))))
 have bH:=H.pk []
 obtain⟨bI,O⟩:=nQ fun (b:Nat) w'=>Own w D w' []∧b≤l0.length∧fJ l0 l0 0=fJ l0 (r3 b l0) b
 refine C3 (fun i:Nat=> [(2, .bool false),(12,vJ i),(11,vJ l0.length),(10, .slice o l0.length K),(0, .slice o l0.length K)]) bI (fun i=>l0.length - i) 0 ⟨rfl,rfl,rfl,rfl,rfl,trivial⟩ (O.2 ⟨bH,e6,rfl⟩) ?_
 rintro b dG aK
 obtain⟨S,cB,t⟩:=O.1 aK
 refine sr (Kz (.bool (decide (((b:Nat):Int) < ((l0.length:Nat):Int)))) (nt (Ic ?_)))
 by_cases aL:((b:Nat):Int) < ((l0.length:Nat):Int)
 obtain⟨a,m⟩:=dN (ls:=d0) (i:=b) aU.len f4 (S.ro R) e9
 have aM:=fF av m
 have cK:=(B _ (D3 m)).2.1
 have cO:r8 (s5 ae.abs a.ai.ls)=a.ai.ls.length:=s3 ..
 have z:=drop_at aM
 refine jT (dT aL) (sk (Ic (bo (sr (Mz rfl (fw (.pointer (some ⟨ab o,ao o+b *4,none⟩)) (Ij (l6) rfl rfl ((S.ro R).addr (i:=b) e6) e6) (fw (.agg (aU.cells a).toArray) (Io rfl (Iy (cs:=(aU.cells a)) Tryz.isAgg56 Tryz.sizeOf56 ((S.ro R).elem aU.len m f4))) ?_)))))))
 refine dV [vI 0, .int .u64 0, .int .u64 0, .slice none 0 0] 56 S ?_
 intro g dH bK
 refine Az rfl ?_
 refine dS (aU.cells a) 0 bK Tryz.sizeOf56 ?_
 intro dI bL
 refine nt (Ic (Ic ?_))
 refine vW [] (Iu (Iu (bQ.block (Iu (Iu (bQ.block (Iu IC))))))) bL ?_
 intro dJ bM
 refine qp g 0 0 rfl (ql 1 rfl 0 C4 rfl rfl rfl ?_)
 obtain⟨s,u⟩:∃ q,gV a.aK 4=q:=⟨_,rfl⟩
 obtain⟨dK,aN,cZ,aO,df⟩:=Ii bM
 refine qd 2 rfl (Iz E0 rfl (mq _ _ a.aK 4 s aN u) ?_)
 rintro _ dL ⟨rfl,aP⟩
 have E:=aO _ _ aP
 refine⟨.inr ⟨_,E⟩, ?_⟩
 refine qk (.bool (!s)) 3 rfl (qv 4 rfl rfl ?_)
 rcases Li (s) with j | j
 refine Ip (v:=vJ b) (rs:= []) 5 rfl rfl rfl (cn j) e7 (fun _ _=>Iq rfl) (Ip (v:= .bool (decide (((b:Nat):Int) > 0))) (rs:= []) 6 rfl rfl rfl (cn j) e7 (fun _ _=>yk) (Ip (v:= .bool (decide (((b:Nat):Int) > 0))) (rs:= []) 7 rfl rfl rfl (cn j) e7 (fun _ _=>Iq rfl) ?_))
 by_cases f:((b:Nat):Int) > 0
 refine Ip (v:=vP g 0) (rs:= []) 8 rfl rfl rfl (dT f) e7 (fun _ _=>yk) (Ip (v:=vI a.aK) (rs:= []) 9 rfl rfl rfl (dT f) e7 (fun _ ⟨_,H9⟩=>Io rfl (bZ.one C4 (jR.of (H9.cls (i:=0) rfl) rfl))) (Ip (v:= .slice o l0.length K) (rs:= []) 10 rfl rfl rfl (dT f) e7 (fun _ _=>Iq rfl) (Ip (v:=vJ b) (rs:= []) 11 rfl rfl rfl (dT f) e7 (fun _ _=>Iq rfl) (Ip (v:=vJ (b - 1)) (rs:= []) 12 rfl rfl rfl (dT f) e7 (fun _ _=>Ie (e:=C5.wrap (((b:Nat):Int) - 1)) yk f0) ?_))))
 obtain⟨p,T⟩:=jN (ls:=d0) (i:=b - 1) e9
 have P:=fF av T
 have dh:=(B _ (D3 T)).2.1
 have di:r8 (s5 ae.abs p.ai.ls)=p.ai.ls.length:=s3 ..
 refine Ip (v:= .pointer (some ⟨ab o,ao o+(b - 1) *4,none⟩)) (rs:= []) 13 rfl rfl rfl (dT f) e7 (fun _ ⟨_,H9⟩=>Ij (l6) rfl rfl ((H9.ro R).addr (i:=b - 1) e6) e6) (Ip (v:= .pointer (some ⟨ab o,ao o+(b - 1) *4,none⟩)) (rs:= []) 14 rfl rfl rfl (dT f) e7 (fun _ _=>yk) (Ip (v:=vI p.aK) (rs:= []) 15 rfl rfl rfl (dT f) e7 (fun _ ⟨_,H9⟩=>Io rfl (bZ.one C4 (((H9.ro R).elem aU.len T f4).at_ (k:=0) rfl))) (Ip (v:= .bool (decide (a.aK≤p.aK))) (rs:= []) 16 rfl rfl rfl (dT f) e7 (fun _ _=>yk) (Ip (v:= .bool (decide (a.aK≤p.aK))) (rs:= []) 17 rfl rfl rfl (cn j) e7 (fun _ _=>Iw rfl (dT f) rfl) (qt (v:= .bool (decide (a.aK≤p.aK))) 18 rfl (fun _ _=>Ih rfl (cn j) rfl) (qv 19 rfl rfl ?_))))))
 by_cases y:a.aK≤p.aK
 refine Ik (rs:= []) 20 rfl rfl rfl (dT y) e7 (Ik (rs:= []) 21 rfl rfl rfl (dT y) e7 (Ik (rs:= []) 22 rfl rfl rfl (dT y) e7 (Ik (rs:= []) 23 rfl rfl rfl (dT y) e7 (qt (v:= .bool true) 24 rfl (fun _ _=>Iw rfl (dT y) rfl) (qn (Ig (jt (sr (An rfl (rt (tR (bR (tR (tR (bR (tR (rs ?_)))))))))))))))))
 have bO:=E.pk []
 obtain rfl:_=false:=hr.symm.trans (et (iN C) (jm (et (t) (et (congrArg (fun q=>fJ l0 q b) z) (et (ah u) (et (ip j) (et (ip f) (et (ah (bJ P)) (ip y)))))))))
 exact⟨rfl,bO⟩
 refine Ip (v:=vP g 3) (rs:= []) 20 rfl rfl rfl (dF y) e7 (fun _ _=>yk) (Ip (v:= .slice a.ai.A a.ai.ls.length a.ai.c) (rs:= []) 21 rfl rfl rfl (dF y) e7 (fun _ ⟨_,H9⟩=>Io rfl (bZ.one E3 (jR.of (H9.cls (i:=0) rfl) rfl))) (Ip (v:=vJ (r8 (s5 ae.abs a.ai.ls))) (rs:= []) 22 rfl rfl rfl (dF y) e7 (fun _ _=>Ie (e:=((a.ai.ls.length:Nat):Int)) yk j0) (Ip (v:= .bool (decide (((r8 (s5 ae.abs a.ai.ls):Nat):Int) > 4))) (rs:= []) 23 rfl rfl rfl (dF y) e7 (fun _ _=>yk) (qt (v:= .bool (decide (((r8 (s5 ae.abs a.ai.ls):Nat):Int) > 4))) 24 rfl (fun _ _=>Ih rfl (dF y) rfl) (qn (Ig ?_))))))
 by_cases U:((r8 (s5 ae.abs a.ai.ls):Nat):Int) > 4
 refine jT (dT U) (sr (An rfl (rt (tR (bR (tR (tR (bR (tR (rs ?_))))))))))
 have bP:=E.pk []
 obtain rfl:_=false:=hr.symm.trans (et (iN C) (jm (et (t) (et (congrArg (fun q=>fJ l0 q b) z) (et (ah u) (et (ip j) (et (ip f) (et (ah (bJ P)) (et (iN y) (ip U))))))))))
 exact⟨rfl,bP⟩
 refine jF (dF U) (sk (sr (Kz (vP g 3) (Lz (.slice a.ai.A a.ai.ls.length a.ai.c) E 0 E3 (fw (vJ (r8 (s5 ae.abs a.ai.ls))) (Ie (e:=((a.ai.ls.length:Nat):Int)) yk j0) (Mn rfl (bo ?_)))))))
 have bS:=E.pf []
 obtain⟨bT,V⟩:=nQ fun (l:Nat) w'=>Own w D w' [blk g (aU.cells a) 56]∧l≤r8 (s5 ae.abs a.ai.ls)∧gq b (aU.abs a) (r8 (s5 ae.abs a.ai.ls)) 0=gq b (aU.abs a) ((r8 (s5 ae.abs a.ai.ls)) - l) l
 refine C3 (fun i:Nat=> [(2, .bool false),(45,vJ i),(44,vJ (r8 (s5 ae.abs a.ai.ls))),(43, .slice a.ai.A a.ai.ls.length a.ai.c),(42,vP g 3),(41, .bool (decide (((r8 (s5 ae.abs a.ai.ls):Nat):Int) > 4))),(40, .bool (decide (((r8 (s5 ae.abs a.ai.ls):Nat):Int) > 4))),(39,vJ (r8 (s5 ae.abs a.ai.ls))),(38, .slice a.ai.A a.ai.ls.length a.ai.c),(37,vP g 3),(36, .bool (decide (a.aK≤p.aK))),(35, .bool (decide (a.aK≤p.aK))),(34, .bool (decide (a.aK≤p.aK))),(33, .bool (decide (a.aK≤p.aK))),(32,vI p.aK),(31, .pointer (some ⟨ab o,ao o+(b - 1) *4,none⟩)),(30, .pointer (some ⟨ab o,ao o+(b - 1) *4,none⟩)),(29,vJ (b - 1)),(28,vJ b),(27, .slice o l0.length K),(26,vI a.aK),(25,vP g 0),(24, .bool (decide (((b:Nat):Int) > 0))),(23, .bool (decide (((b:Nat):Int) > 0))),(22,vJ b),(21, .bool (!s)),(20, .bool (!s)),(19, .bool s),(18,vI a.aK),(17,vP g 0),(3,vJ b),(4,vP g 0),(16, .agg (aU.cells a).toArray),(15, .pointer (some ⟨ab o,ao o+b *4,none⟩)),(14,vJ b),(13, .bool (decide (((b:Nat):Int) < ((l0.length:Nat):Int)))),(12,vJ b),(11,vJ l0.length),(10, .slice o l0.length K),(0, .slice o l0.length K)]) bT (fun i=>(r8 (s5 ae.abs a.ai.ls)) - i) 0 ⟨rfl,rfl,rfl,rfl,rfl,rfl,rfl,rfl,rfl,rfl,rfl,rfl,rfl,rfl,rfl,rfl,rfl,rfl,rfl,rfl,rfl,rfl,rfl,rfl,rfl,rfl,rfl,rfl,rfl,rfl,rfl,rfl,rfl,rfl,rfl,rfl,rfl,rfl,rfl,rfl,trivial⟩ (V.2 ⟨bS,e6,rfl⟩) ?_
 rintro l dM aR
 obtain⟨W,dm,X⟩:=V.1 aR
 refine sr (Kz (.bool (decide (((l:Nat):Int) < ((r8 (s5 ae.abs a.ai.ls):Nat):Int)))) (nt (Ic ?_)))
 by_cases aS:((l:Nat):Int) < ((r8 (s5 ae.abs a.ai.ls):Nat):Int)
 refine jT (dT aS) (sk (Ic (bo (sr ?_))))
 obtain⟨r,Q⟩:=dN (ls:=a.ai.ls) (i:=l) ae.len f4 (W.ro (B _ (D3 m)).1) e9
 have ai:=fF (rfl:s5 ae.abs a.ai.ls=s5 ae.abs a.ai.ls) Q
 have dn:=((B _ (D3 m)).2.2 _ (D3 Q)).2
 refine fw (.pointer (some ⟨ab a.ai.A,ao a.ai.A+l *3,none⟩)) (Ij (sI) rfl rfl ((W.ro (B _ (D3 m)).1).addr (i:=l) e6) e6) (fw (.agg (ae.cells r).toArray) (Io rfl (Iy (cs:=(ae.cells r)) E4 E6 ((W.ro (B _ (D3 m)).1).elem ae.len Q f4))) ?_)
 refine dV [.bool false, .string ⟨v9 ([])⟩, .slice none 0 0] 149 W ?_
 intro dO dP bU
 refine dS (ae.cells r) 0 bU E6 ?_
 intro dQ aT
 refine ns (La (ae.cells r) aT 0 E4 E6 ?_)
 obtain⟨ax,Y⟩:∃ q,iA (aQ.mk r.eF r.aT (E2 r.ak.ls))=q:=⟨_,rfl⟩
 obtain⟨dR,aV,aW,aX,dw⟩:=Ii aT
 refine cl Tryz.call73 (rA _ _ (aQ.mk r.eF r.aT (E2 r.ak.ls)) r.ak.A r.ak.ls.length r.ak.c ax aV rfl (aW _ ((B _ (D3 m)).2.2 _ (D3 Q)).1) (show r.ak.ls.length≤r.ak.c∧r.ak.ls.length≤9223372036854775807 from by omega) Y) ?_
 rintro _ dU ⟨rfl,aY⟩
 have aZ:=aX _ _ aY
 refine Kz (.bool (!ax)) (nt ?_)
 rcases Li (ax) with Z | Z
 refine jF (cn Z) (IE (bN (Ig (Ib (fw (vJ (l+1)) (Ie (e:=C5.wrap (((l:Nat):Int)+1)) yk f0) (Mz rfl (C6 ?_)))))))
 have bV:=aZ.pk [1]
 exact Ir (l+1) ⟨rfl,rfl,rfl,rfl,rfl,rfl,rfl,rfl,rfl,rfl,rfl,rfl,rfl,rfl,rfl,rfl,rfl,rfl,rfl,rfl,rfl,rfl,rfl,rfl,rfl,rfl,rfl,rfl,rfl,rfl,rfl,rfl,rfl,rfl,rfl,rfl,rfl,rfl,rfl,rfl,trivial⟩ (V.2 ⟨bV,e6,et (X) (et (congrArg (fun q=>gq b (aU.abs a) q l) (rY (n:=r8 (s5 ae.abs a.ai.ls)) (i:=l) e6)) (et (ah (bJ ai)) (et (ah Y) (ip Z))))⟩) (by show (r8 (s5 ae.abs a.ai.ls)) - (l+1) < (r8 (s5 ae.abs a.ai.ls)) - l; omega)
 refine jT (cn Z) (sr (An rfl (rt (bR (tR (tR (bR (bR (tR (tR (bR (tR (rs ?_)))))))))))))
 have bf:=aZ.pk []
 obtain rfl:_=false:=hr.symm.trans (et (iN C) (jm (et (t) (et (congrArg (fun q=>fJ l0 q b) z) (et (ah u) (et (ip j) (et (ip f) (et (ah (bJ P)) (et (iN y) (et (iN U) (oF (et (X) (et (congrArg (fun q=>gq b (aU.abs a) q l) (rY (n:=r8 (s5 ae.abs a.ai.ls)) (i:=l) e6)) (et (ah (bJ ai)) (et (ah Y) (gm Z))))))))))))))))
 exact⟨rfl,bf⟩
 refine jF (dF aS) (C7 (Il ?_))
 have ay:gq b (aU.abs a) (r8 (s5 ae.abs a.ai.ls)) 0=B9 ():=et (X) (et (congrArg (fun q=>gq b (aU.abs a) q l) (wT (n:=r8 (s5 ae.abs a.ai.ls)) (i:=l) e6)) rfl)
 refine Il (IB (bN (Ig (Ib (fw (vJ (b+1)) (Ie (e:=C5.wrap (((b:Nat):Int)+1)) yk f0) (Mz rfl (C6 ?_)))))))
 have bg:=W.pk []
 exact Ir (b+1) ⟨rfl,rfl,rfl,rfl,rfl,trivial⟩ (O.2 ⟨bg,e6,et (t) (et (congrArg (fun q=>fJ l0 q b) z) (et (ah u) (et (ip j) (et (ip f) (et (ah (bJ P)) (et (iN y) (et (iN U) (nY ay))))))))⟩) (by show l0.length - (b+1) < l0.length - b; omega)
 refine Ik (rs:= []) 8 rfl rfl rfl (dF f) e7 (Ik (rs:= []) 9 rfl rfl rfl (dF f) e7 (Ik (rs:= []) 10 rfl rfl rfl (dF f) e7 (Ik (rs:= []) 11 rfl rfl rfl (dF f) e7 (Ik (rs:= []) 12 rfl rfl rfl (dF f) e7 (Ik (rs:= []) 13 rfl rfl rfl (dF f) e7 (Ik (rs:= []) 14 rfl rfl rfl (dF f) e7 (Ik (rs:= []) 15 rfl rfl rfl (dF f) e7 (Ik (rs:= []) 16 rfl rfl rfl (dF f) e7 (Ip (v:= .bool false) (rs:= []) 17 rfl rfl rfl (cn j) e7 (fun _ _=>Ih rfl (dF f) rfl) (qt (v:= .bool false) 18 rfl (fun _ _=>Ih rfl (cn j) rfl) (qv 19 rfl rfl (Ip (v:=vP g 3) (rs:= []) 20 rfl rfl rfl rfl e7 (fun _ _=>yk) (Ip (v:= .slice a.ai.A a.ai.ls.length a.ai.c) (rs:= []) 21 rfl rfl rfl rfl e7 (fun _ ⟨_,H9⟩=>Io rfl (bZ.one E3 (jR.of (H9.cls (i:=0) rfl) rfl))) (Ip (v:=vJ (r8 (s5 ae.abs a.ai.ls))) (rs:= []) 22 rfl rfl rfl rfl e7 (fun _ _=>Ie (e:=((a.ai.ls.length:Nat):Int)) yk j0) (Ip (v:= .bool (decide (((r8 (s5 ae.abs a.ai.ls):Nat):Int) > 4))) (rs:= []) 23 rfl rfl rfl rfl e7 (fun _ _=>yk) (qt (v:= .bool (decide (((r8 (s5 ae.abs a.ai.ls):Nat):Int) > 4))) 24 rfl (fun _ _=>Ih rfl rfl rfl) (qn (Ig ?_))))))))))))))))))
 by_cases G:((r8 (s5 ae.abs a.ai.ls):Nat):Int) > 4
 refine jT (dT G) (sr (An rfl (rt (tR (bR (tR (tR (bR (tR (rs ?_))))))))))
 have bi:=E.pk []
 obtain rfl:_=false:=hr.symm.trans (et (iN C) (jm (et (t) (et (congrArg (fun q=>fJ l0 q b) z) (et (ah u) (et (ip j) (et (iN f) (ip G))))))))
 exact⟨rfl,bi⟩
 refine jF (dF G) (sk (sr (Kz (vP g 3) (Lz (.slice a.ai.A a.ai.ls.length a.ai.c) E 0 E3 (fw (vJ (r8 (s5 ae.abs a.ai.ls))) (Ie (e:=((a.ai.ls.length:Nat):Int)) yk j0) (Mn rfl (bo ?_)))))))
 have bn:=E.pf []
 obtain⟨bq,L⟩:=nQ fun (d:Nat) w'=>Own w D w' [blk g (aU.cells a) 56]∧d≤r8 (s5 ae.abs a.ai.ls)∧iV b (aU.abs a) (r8 (s5 ae.abs a.ai.ls)) 0=iV b (aU.abs a) ((r8 (s5 ae.abs a.ai.ls)) - d) d
 refine C3 (fun i:Nat=> [(2, .bool false),(45,vJ i),(44,vJ (r8 (s5 ae.abs a.ai.ls))),(43, .slice a.ai.A a.ai.ls.length a.ai.c),(42,vP g 3),(41, .bool (decide (((r8 (s5 ae.abs a.ai.ls):Nat):Int) > 4))),(40, .bool (decide (((r8 (s5 ae.abs a.ai.ls):Nat):Int) > 4))),(39,vJ (r8 (s5 ae.abs a.ai.ls))),(38, .slice a.ai.A a.ai.ls.length a.ai.c),(37,vP g 3),(36, .bool false),(35, .bool false),(34, .bool false),(33,undef),(32,undef),(31,undef),(30,undef),(29,undef),(28,undef),(27,undef),(26,undef),(25,undef),(24, .bool (decide (((b:Nat):Int) > 0))),(23, .bool (decide (((b:Nat):Int) > 0))),(22,vJ b),(21, .bool (!s)),(20, .bool (!s)),(19, .bool s),(18,vI a.aK),(17,vP g 0),(3,vJ b),(4,vP g 0),(16, .agg (aU.cells a).toArray),(15, .pointer (some ⟨ab o,ao o+b *4,none⟩)),(14,vJ b),(13, .bool (decide (((b:Nat):Int) < ((l0.length:Nat):Int)))),(12,vJ b),(11,vJ l0.length),(10, .slice o l0.length K),(0, .slice o l0.length K)]) bq (fun i=>(r8 (s5 ae.abs a.ai.ls)) - i) 0 ⟨rfl,rfl,rfl,rfl,rfl,rfl,rfl,rfl,rfl,rfl,rfl,rfl,rfl,rfl,rfl,rfl,rfl,rfl,rfl,rfl,rfl,rfl,rfl,rfl,rfl,rfl,rfl,rfl,rfl,rfl,rfl,rfl,rfl,rfl,rfl,rfl,rfl,rfl,rfl,rfl,trivial⟩ (L.2 ⟨bn,e6,rfl⟩) ?_
 rintro d dx az
 obtain⟨I,bW,M⟩:=L.1 az
 refine sr (Kz (.bool (decide (((d:Nat):Int) < ((r8 (s5 ae.abs a.ai.ls):Nat):Int)))) (nt (Ic ?_)))
 by_cases aj:((d:Nat):Int) < ((r8 (s5 ae.abs a.ai.ls):Nat):Int)
 refine jT (dT aj) (sk (Ic (bo (sr ?_))))
 obtain⟨h,F⟩:=dN (ls:=a.ai.ls) (i:=d) ae.len f4 (I.ro (B _ (D3 m)).1) e9
 have aa:=fF (rfl:s5 ae.abs a.ai.ls=s5 ae.abs a.ai.ls) F
 have bX:=((B _ (D3 m)).2.2 _ (D3 F)).2
 refine fw (.pointer (some ⟨ab a.ai.A,ao a.ai.A+d *3,none⟩)) (Ij (sI) rfl rfl ((I.ro (B _ (D3 m)).1).addr (i:=d) e6) e6) (fw (.agg (ae.cells h).toArray) (Io rfl (Iy (cs:=(ae.cells h)) E4 E6 ((I.ro (B _ (D3 m)).1).elem ae.len F f4))) ?_)
 refine dV [.bool false, .string ⟨v9 ([])⟩, .slice none 0 0] 149 I ?_
 intro dz dA bu
 refine dS (ae.cells h) 0 bu E6 ?_
 intro dB ak
 refine ns (La (ae.cells h) ak 0 E4 E6 ?_)
 obtain⟨af,N⟩:∃ q,iA (aQ.mk h.eF h.aT (E2 h.ak.ls))=q:=⟨_,rfl⟩
 obtain⟨dC,aA,aC,aD,bY⟩:=Ii ak
 refine cl Tryz.call73 (rA _ _ (aQ.mk h.eF h.aT (E2 h.ak.ls)) h.ak.A h.ak.ls.length h.ak.c af aA rfl (aC _ ((B _ (D3 m)).2.2 _ (D3 F)).1) (show h.ak.ls.length≤h.ak.c∧h.ak.ls.length≤9223372036854775807 from by omega) N) ?_
 rintro _ dD ⟨rfl,aF⟩
 have au:=aD _ _ aF
 refine Kz (.bool (!af)) (nt ?_)
 rcases Li (af) with J | J
 refine jF (cn J) (IE (bN (Ig (Ib (fw (vJ (d+1)) (Ie (e:=C5.wrap (((d:Nat):Int)+1)) yk f0) (Mz rfl (C6 ?_)))))))
 have bv:=au.pk [1]
 exact Ir (d+1) ⟨rfl,rfl,rfl,rfl,rfl,rfl,rfl,rfl,rfl,rfl,rfl,rfl,rfl,rfl,rfl,rfl,rfl,rfl,rfl,rfl,rfl,rfl,rfl,rfl,rfl,rfl,rfl,rfl,rfl,rfl,rfl,rfl,rfl,rfl,rfl,rfl,rfl,rfl,rfl,rfl,trivial⟩ (L.2 ⟨bv,e6,et (M) (et (congrArg (fun q=>iV b (aU.abs a) q d) (rY (n:=r8 (s5 ae.abs a.ai.ls)) (i:=d) e6)) (et (ah (bJ aa)) (et (ah N) (ip J))))⟩) (by show (r8 (s5 ae.abs a.ai.ls)) - (d+1) < (r8 (s5 ae.abs a.ai.ls)) - d; omega)
 refine jT (cn J) (sr (An rfl (rt (bR (tR (tR (bR (bR (tR (tR (bR (tR (rs ?_)))))))))))))
 have bz:=au.pk []
 obtain rfl:_=false:=hr.symm.trans (et (iN C) (jm (et (t) (et (congrArg (fun q=>fJ l0 q b) z) (et (ah u) (et (ip j) (et (iN f) (et (iN G) (oF (et (M) (et (congrArg (fun q=>iV b (aU.abs a) q d) (rY (n:=r8 (s5 ae.abs a.ai.ls)) (i:=d) e6)) (et (ah (bJ aa)) (et (ah N) (gm J))))))))))))))
 exact⟨rfl,bz⟩
 refine jF (dF aj) (C7 (Il ?_))
 have aG:iV b (aU.abs a) (r8 (s5 ae.abs a.ai.ls)) 0=B9 ():=et (M) (et (congrArg (fun q=>iV b (aU.abs a) q d) (wT (n:=r8 (s5 ae.abs a.ai.ls)) (i:=d) e6)) rfl)
 refine Il (IB (bN (Ig (Ib (fw (vJ (b+1)) (Ie (e:=C5.wrap (((b:Nat):Int)+1)) yk f0) (Mz rfl (C6 ?_)))))))
 have bA:=I.pk []
 exact Ir (b+1) ⟨rfl,rfl,rfl,rfl,rfl,trivial⟩ (O.2 ⟨bA,e6,et (t) (et (congrArg (fun q=>fJ l0 q b) z) (et (ah u) (et (ip j) (et (iN f) (et (iN G) (nY aG))))))⟩) (by show l0.length - (b+1) < l0.length - b; omega)
 refine Ik (rs:= []) 5 rfl rfl rfl (cn j) e7 (Ik (rs:= []) 6 rfl rfl rfl (cn j) e7 (Ik (rs:= []) 7 rfl rfl rfl (cn j) e7 (IW (rs:= []) 8 rfl rfl rfl e7 (IW (rs:= []) 9 rfl rfl rfl e7 (IW (rs:= []) 10 rfl rfl rfl e7 (IW (rs:= []) 11 rfl rfl rfl e7 (IW (rs:= []) 12 rfl rfl rfl e7 (IW (rs:= []) 13 rfl rfl rfl e7 (IW (rs:= []) 14 rfl rfl rfl e7 (IW (rs:= []) 15 rfl rfl rfl e7 (IW (rs:= []) 16 rfl rfl rfl e7 (Ik (rs:= []) 17 rfl rfl rfl (cn j) e7 (qt (v:= .bool true) 18 rfl (fun _ _=>Iw rfl (cn j) rfl) (qv 19 rfl rfl (Ik (rs:= []) 20 rfl rfl rfl rfl e7 (Ik (rs:= []) 21 rfl rfl rfl rfl e7 (Ik (rs:= []) 22 rfl rfl rfl rfl e7 (Ik (rs:= []) 23 rfl rfl rfl rfl e7 (qt (v:= .bool true) 24 rfl (fun _ _=>Iw rfl rfl rfl) (qn (Ig (jt (sr (An rfl (rt (tR (bR (tR (tR (bR (tR (rs ?_))))))))))))))))))))))))))))))))
 have bB:=E.pk []
 obtain rfl:_=false:=hr.symm.trans (et (iN C) (jm (et (t) (et (congrArg (fun q=>fJ l0 q b) z) (et (ah u) (gm j))))))
 exact⟨rfl,bB⟩
 refine jF (dF aL) (C7 (Il ?_))
 have aH:fJ l0 l0 0=B9 ():=et (t) (et (congrArg (fun q=>fJ l0 q b) (fB (ls:=l0) (i:=b) e6)) rfl)
 refine Il (IB (Ig (sr (An rfl (rt (rs ?_))))))
 have bC:=S.pk []
 obtain rfl:_=true:=hr.symm.trans (et (iN C) (nT aH))
 exact⟨rfl,bC⟩
def jo (a:Bool):Int:=
 if a=true then 0 else 1
theorem mQ (w D b e) (H:Own w D w []) (hr:jo b=e):
    Calls v8 39 #[.bool b] w (d9 fun v w'=>v=vI e∧Own w D w' []):=by
 refine cb Tryz.func39 ?_
 refine sr (An rfl (Ic (sr (Mz rfl (Kz (.bool (!b)) (nt ?_))))))
 rcases Li (b) with a | a
 refine jF (cn a) (sk (sr (An rfl (rt (rs ?_)))))
 have c:=H.pk []
 obtain rfl:_=0:=hr.symm.trans (ip a)
 exact⟨rfl,c⟩
 refine jT (cn a) (sr (An rfl (rt (tR (rs ?_)))))
 have d:=H.pk []
 obtain rfl:_=1:=hr.symm.trans (gm a)
 exact⟨rfl,d⟩
def gJ (c:cZ):Int:=
 bnd (gV c.au 4) fun d=>if d=true then if((c.av:Nat):Int) < 2147483648 then bnd (ma c) fun e=>if e=true then bnd (lU c) fun f=>if f=true then bnd (nC c.aF.ls) fun g=>bnd (jo g) fun h=>h else bnd (jo false) fun i=>i else bnd (jo false) fun j=>j else bnd (jo false) fun a=>a else bnd (jo false) fun b=>b
set_option maxHeartbeats 1000000 in
theorem mV (w D) (a:cZ) (i P e j Q f z g R d n r0) (H:Own w D w []) (Z:P=a.ag.ls.length) (G:Ro w D fun w'=>bE w' 2 i a.ag.ls.length (q3 aY.cells a.ag.ls)) (bI:a.ag.ls.length≤e∧a.ag.ls.length≤9223372036854775807) (B:s5 aC.abs z=a.aj.ls) (aa:Q=a.aj.ls.length) (I:Ro w D fun w'=>bE w' 5 j a.aj.ls.length (q3 aC.cells z)) (bJ:a.aj.ls.length≤f∧a.aj.ls.length≤9223372036854775807) (u:∀ x ∈ z,Ro w D (fun w'=>bE w' 1 x.au.A x.au.ls.length (q3 (eI .i64) x.au.ls))∧(x.au.ls.length≤x.au.c∧x.au.ls.length≤9223372036854775807)) (y:s5 aU.abs n=a.aF.ls) (af:R=a.aF.ls.length) (C:Ro w D fun w'=>bE w' 4 g a.aF.ls.length (q3 aU.cells n)) (bK:a.aF.ls.length≤d∧a.aF.ls.length≤9223372036854775807) (b:∀ x ∈ n,Ro w D (fun w'=>bE w' 3 x.ai.A x.ai.ls.length (q3 ae.cells x.ai.ls))∧(x.ai.ls.length≤x.ai.c∧x.ai.ls.length≤9223372036854775807)∧(∀ E ∈ x.ai.ls,Ro w D (fun w'=>bE w' 2 E.ak.A E.ak.ls.length (q3 aI.cells E.ak.ls))∧(E.ak.ls.length≤E.ak.c∧E.ak.ls.length≤9223372036854775807))) (dx:a.ag.ls.length≤140737488355328∧a.aj.ls.length≤140737488355328∧a.aF.ls.length≤140737488355328) (hr:gJ a=r0):
    Calls v8 19 #[.agg #[vI a.au,vU a.av,vU a.aV,vU a.aL, .slice i P e, .slice j Q f, .slice g R d]] w (d9 fun v w'=>v=vI r0∧Own w D w' []):=by
 subst Z aa af
 have bG:=aB B
 have bH:=aB y
 refine cb Tryz.func19 ?_
 refine sr ?_
 refine dV [vI a.au,vU a.av,vU a.aV,vU a.aL, .slice i a.ag.ls.length e, .slice j a.aj.ls.length f, .slice g a.aF.ls.length d] 33 H ?_
 intro ag dz aF
 refine Ar rfl (Kz (vP ag 0) (Lz (vI a.au) aF 0 C4 ?_))
 obtain⟨aG,o⟩:∃ q,gV a.au 4=q:=⟨_,rfl⟩
 obtain⟨dA,aH,bW,aJ,bX⟩:=Ii aF
 refine cl E0 (mq _ _ a.au 4 aG aH o) ?_
 rintro _ dB ⟨rfl,aK⟩
 have J:=aJ _ _ aK
 refine Mz rfl ?_
 rcases Li (aG) with h | h
 refine Gz (vP ag 1) h (Gl (vU a.av) h J 0 D4 (Gz (.bool (decide (((a.av:Nat):Int) < 2147483648))) h (fw (.bool (decide (((a.av:Nat):Int) < 2147483648))) (Iw rfl h rfl) (Mz rfl ?_))))
 by_cases l:((a.av:Nat):Int) < 2147483648
 refine Ga ([vI a.au,vU a.av,vU a.aV,vU a.aL, .slice i a.ag.ls.length e, .slice j a.aj.ls.length f, .slice g a.aF.ls.length d]) (dT l) J 0 Tryz.isAgg33 Tryz.sizeOf33 ?_
 obtain⟨ai,F⟩:∃ q,ma a=q:=⟨_,rfl⟩
 obtain⟨dC,aL,p,aM,bY⟩:=Ii J
 refine vR (decide_eq_true l) Tryz.call41 (vL _ _ a i a.ag.ls.length e j a.aj.ls.length f z g a.aF.ls.length d n ai aL rfl (p _ G) (show a.ag.ls.length≤e∧a.ag.ls.length≤9223372036854775807 from by omega) B rfl (p _ I) (show a.aj.ls.length≤f∧a.aj.ls.length≤9223372036854775807 from by omega) (fun r s=>⟨p _ (u r s).1,(u r s).2⟩) y rfl (p _ C) (show a.aF.ls.length≤d∧a.aF.ls.length≤9223372036854775807 from by omega) (fun r s=>⟨p _ (b r s).1,(b r s).2.1,(fun E S=>⟨p _ ((b r s).2.2 E S).1,((b r s).2.2 E S).2⟩)⟩) e8 F) ?_
 rintro _ dD ⟨rfl,aN⟩
 have aj:=aM _ _ aN
 refine fw (.bool ai) (Iw rfl (dT l) rfl) (Mz rfl ?_)
 rcases Li (ai) with m | m
 refine Ga ([vI a.au,vU a.av,vU a.aV,vU a.aL, .slice i a.ag.ls.length e, .slice j a.aj.ls.length f, .slice g a.aF.ls.length d]) m aj 0 Tryz.isAgg33 Tryz.sizeOf33 ?_
 obtain⟨ak,K⟩:∃ q,lU a=q:=⟨_,rfl⟩
 obtain⟨dE,aO,t,aP,bZ⟩:=Ii aj
 refine Jm rfl rfl m rfl (Iz Tryz.call42 rfl (uZ _ _ a i a.ag.ls.length e j a.aj.ls.length f z g a.aF.ls.length d n ak aO rfl (t _ G) (show a.ag.ls.length≤e∧a.ag.ls.length≤9223372036854775807 from by omega) B rfl (t _ I) (show a.aj.ls.length≤f∧a.aj.ls.length≤9223372036854775807 from by omega) (fun r s=>⟨t _ (u r s).1,(u r s).2⟩) y rfl (t _ C) (show a.aF.ls.length≤d∧a.aF.ls.length≤9223372036854775807 from by omega) (fun r s=>⟨t _ (b r s).1,(b r s).2.1,(fun E S=>⟨t _ ((b r s).2.2 E S).1,((b r s).2.2 E S).2⟩)⟩) e8 K) ?_)
 rintro _ dG ⟨rfl,aQ⟩
 have au:=aP _ _ aQ
 refine fw (.bool ak) (Iw rfl m rfl) (Mz rfl ?_)
 rcases Li (ak) with k | k
 refine Gz (vP ag 6) k (Gl (.slice g a.aF.ls.length d) k au 0 Tryz.isAgg31 ?_)
 obtain⟨O,T⟩:∃ q,nC a.aF.ls=q:=⟨_,rfl⟩
 obtain⟨dH,aR,L,aS,cu⟩:=Ii au
 refine Jm rfl rfl k rfl (Iz Tryz.call43 rfl (xc _ _ g a.aF.ls.length d n a.aF.ls O aR y (L _ C) (fun r s=>⟨L _ (b r s).1,(b r s).2.1,(fun E S=>⟨L _ ((b r s).2.2 E S).1,((b r s).2.2 E S).2⟩)⟩) rfl e6 T) ?_)
 rintro _ dI ⟨rfl,aT⟩
 have bL:=aS _ _ aT
 refine fw (.bool O) (Iw rfl k rfl) ?_
 obtain⟨aV,U⟩:∃ q,jo O=q:=⟨_,rfl⟩
 obtain⟨dJ,aW,cz,aX,cB⟩:=Ii bL
 refine cl E7 (mQ _ _ O aV aW U) ?_
 rintro _ dK ⟨rfl,aZ⟩
 have bM:=aX _ _ aZ
 refine An rfl (rt (rs ?_))
 have bN:=bM.pk []
 obtain rfl:_=aV:=hr.symm.trans (et (ah o) (et (ip h) (et (ip l) (et (ah F) (et (ip m) (et (ah K) (et (ip k) (et (ah T) (ah U)))))))))
 exact⟨rfl,bN⟩
 refine Sz k (Sz k (Sz k (fw (.bool false) (Ih rfl k rfl) ?_)))
 obtain⟨bf,V⟩:∃ q,jo false=q:=⟨_,rfl⟩
 obtain⟨dL,bg,cK,bi,cO⟩:=Ii au
 refine cl E7 (mQ _ _ false bf bg V) ?_
 rintro _ dM ⟨rfl,bn⟩
 have bO:=bi _ _ bn
 refine An rfl (rt (rs ?_))
 have bP:=bO.pk []
 obtain rfl:_=bf:=hr.symm.trans (et (ah o) (et (ip h) (et (ip l) (et (ah F) (et (ip m) (et (ah K) (et (gm k) (ah V))))))))
 exact⟨rfl,bP⟩
 refine Sz m (Sz m (fw (.bool false) (Ih rfl m rfl) (Mz rfl (Sz rfl (Sz rfl (Sz rfl (fw (.bool false) (Ih rfl rfl rfl) ?_)))))))
 obtain⟨bq,W⟩:∃ q,jo false=q:=⟨_,rfl⟩
 obtain⟨dN,bu,df,bv,dh⟩:=Ii aj
 refine cl E7 (mQ _ _ false bq bu W) ?_
 rintro _ dO ⟨rfl,bz⟩
 have bQ:=bv _ _ bz
 refine An rfl (rt (rs ?_))
 have bA:=bQ.pk []
 obtain rfl:_=bq:=hr.symm.trans (et (ah o) (et (ip h) (et (ip l) (et (ah F) (et (gm m) (ah W))))))
 exact⟨rfl,bA⟩
 refine Sz (dF l) (Sz (dF l) (fw (.bool false) (Ih rfl (dF l) rfl) (Mz rfl (Sz rfl (Sz rfl (fw (.bool false) (Ih rfl rfl rfl) (Mz rfl (Sz rfl (Sz rfl (Sz rfl (fw (.bool false) (Ih rfl rfl rfl) ?_)))))))))))
 obtain⟨X,M⟩:∃ q,jo false=q:=⟨_,rfl⟩
 obtain⟨di,av,bR,ax,bS⟩:=Ii J
 refine cl E7 (mQ _ _ false X av M) ?_
 rintro _ dm ⟨rfl,ay⟩
 have bB:=ax _ _ ay
 refine An rfl (rt (rs ?_))
 have bC:=bB.pk []
 obtain rfl:_=X:=hr.symm.trans (et (ah o) (et (ip h) (et (iN l) (ah M))))
 exact⟨rfl,bC⟩
 refine Sz h (Sz h (Sz h (fw (.bool false) (Ih rfl h rfl) (Mz rfl (Sz rfl (Sz rfl (fw (.bool false) (Ih rfl rfl rfl) (Mz rfl (Sz rfl (Sz rfl (fw (.bool false) (Ih rfl rfl rfl) (Mz rfl (Sz rfl (Sz rfl (Sz rfl (fw (.bool false) (Ih rfl rfl rfl) ?_))))))))))))))))
 obtain⟨Y,N⟩:∃ q,jo false=q:=⟨_,rfl⟩
 obtain⟨dn,az,bT,aA,bU⟩:=Ii J
 refine cl E7 (mQ _ _ false Y az N) ?_
 rintro _ dw ⟨rfl,aD⟩
 have bD:=aA _ _ aD
 refine An rfl (rt (rs ?_))
 have bF:=bD.pk []
 obtain rfl:_=Y:=hr.symm.trans (et (ah o) (et (gm h) (ah N)))
 exact⟨rfl,bF⟩
end Go.Proofs.YtbkagebjhbphaaaGreat
