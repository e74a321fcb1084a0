/-
 record: the layers below; which states may be.
-/
import Derived.Test.YtbkagebjhbphaaaGreatKx
import Derived.Test.YtbkagebjhbphaaaGreatKl
import Derived.Test.YtbkagebjhbphaaaGreatWiX
import Derived.Test.YtbkagebjhbphaaaGreatKi
namespace Go.Proofs.YtbkagebjhbphaaaGreat
set_option maxRecDepth 100000
open Go.RowKit
set_option linter.unusedVariables false
set_option linter.unusedSectionVars false
set_option linter.unusedSimpArgs false
theorem pW:Elem Tryz.prog 39 72 6 80:=kM (z:= .agg #[.int .i64 0, .string ⟨List.toArray ([])⟩, .string ⟨List.toArray ([])⟩, .string ⟨List.toArray ([])⟩, .string ⟨List.toArray ([])⟩, .int .i64 0]) Tryz.underlying39 (by kernel_rfl) rfl (by decide)
structure bC where
 aI:Int
 cu:List UInt8
 aV:List UInt8
 bJ:List UInt8
 bW:List UInt8
 bV:Int
def bC.cells (x:bC):List Value:= [.int .i64 x.aI, .string ⟨List.toArray x.cu⟩, .string ⟨List.toArray x.aV⟩, .string ⟨List.toArray x.bJ⟩, .string ⟨List.toArray x.bW⟩, .int .i64 x.bV]
instance:Bk bC:=⟨fun x _=>bk x.aI+(bk x.cu+(bk x.aV+(bk x.bJ+(bk x.bW+(bk x.bV+(0))))))⟩
theorem bC.len:∀ x,(bC.cells x).length=6:=fun _=>rfl
theorem bC.one:∀ x, ∀ u ∈ bC.cells x,u.oneCell'=true:=fun x u hu=>by
 simp only [bC.cells,List.mem_cons,List.not_mem_nil,or_false] at hu
 rcases hu with rfl | rfl | rfl | rfl | rfl | rfl <;> rfl
def Gu (w:World) (x:bC):Prop:=((-9223372036854775808)≤x.aI∧x.aI≤9223372036854775807)∧(x.cu.length≤140737488351232)∧(x.aV.length≤140737488351232)∧(x.bJ.length≤140737488351232)∧(x.bW.length≤140737488351232)∧((-9223372036854775808)≤x.bV∧x.bV≤9223372036854775807)
theorem Bv (w:World):kK Tryz.prog w 72 6 bC.cells (Gu w):=
 (mq (sz:=6) Tryz.underlying72 (by kernel_rfl) (fD.cons (i:=0) (off:=0) (s:=1) rfl rfl (lH (k:= .i64) (lo:= -9223372036854775808) (hi:=9223372036854775807) Tryz.underlying3 (by kernel_rfl) (by decide) (by decide)) (fD.cons (i:=1) (off:=1) (s:=1) rfl rfl (jY Tryz.underlying9 (by kernel_rfl)) (fD.cons (i:=2) (off:=2) (s:=1) rfl rfl (jY Tryz.underlying9 (by kernel_rfl)) (fD.cons (i:=3) (off:=3) (s:=1) rfl rfl (jY Tryz.underlying9 (by kernel_rfl)) (fD.cons (i:=4) (off:=4) (s:=1) rfl rfl (jY Tryz.underlying9 (by kernel_rfl)) (fD.cons (i:=5) (off:=5) (s:=1) rfl rfl (lH (k:= .i64) (lo:= -9223372036854775808) (hi:=9223372036854775807) Tryz.underlying3 (by kernel_rfl) (by decide) (by decide)) fD.nil))))))).map (fun p=>⟨p.1,p.2.1,p.2.2.1,p.2.2.2.1,p.2.2.2.2.1,p.2.2.2.2.2.1⟩) bC.len (fun _=>rfl) (fun _ h=>⟨h.1,h.2.1,h.2.2.1,h.2.2.2.1,h.2.2.2.2.1,h.2.2.2.2.2.1⟩) fun _=>Nat.le_refl _
instance:Inhabited bC:=⟨⟨default,default,default,default,default,default⟩⟩
theorem mQ:Elem Tryz.prog 58 3 1 8:=kM (z:= .int .i64 0) Tryz.underlying58 (by kernel_rfl) rfl (by decide)
structure bG where
 dX:Int
 aD:Sv bC
 aJ:Sv Int
def bG.cells (x:bG):List Value:= [.int .i64 x.dX, .slice x.aD.A x.aD.ls.length x.aD.c, .slice x.aJ.A x.aJ.ls.length x.aJ.c]
instance:Bk bG:=⟨fun x _=>bk x.dX+(bk x.aD+(bk x.aJ+(0)))⟩
theorem bG.len:∀ x,(bG.cells x).length=3:=fun _=>rfl
theorem bG.one:∀ x, ∀ u ∈ bG.cells x,u.oneCell'=true:=fun x u hu=>by
 simp only [bG.cells,List.mem_cons,List.not_mem_nil,or_false] at hu
 rcases hu with rfl | rfl | rfl <;> rfl
def Ih (w:World) (x:bG):Prop:=((-9223372036854775808)≤x.dX∧x.dX≤9223372036854775807)∧(lT w 6 80 bC.cells (Gu w) x.aD)∧(lT w 1 8 (eI .i64) (fun n=>(-9223372036854775808)≤n∧n≤9223372036854775807) x.aJ)
instance:Inhabited bG:=⟨⟨default,default,default⟩⟩
structure fV where
 dX:Int
 aD:Ll bC
 aJ:Ll Int
instance:Inhabited fV:=⟨⟨default,default,default⟩⟩
def bG.abs (x:bG):fV:=⟨x.dX,⟨x.aD.ls⟩,⟨x.aJ.ls⟩⟩
def bG.own (x:bG):List HP:= [row x.aD.A x.aD.ls.length x.aD.c (List.flatMap bC.cells x.aD.ls) 72 6,row x.aJ.A x.aJ.ls.length x.aJ.c (List.flatMap (eI .i64) x.aJ.ls) 3 1]
theorem Ex:Elem Tryz.prog 22 44 25 272:=kM (z:= .agg #[.int .i64 0, .int .i64 0, .int .i64 0, .int .i64 0, .int .i64 0, .int .i64 0, .int .i64 0, .int .i64 0, .int .u64 0, .int .u64 0, .int .u64 0, .int .u64 0, .int .u64 0, .int .u64 0, .int .u64 0, .int .u64 0, .int .u64 0, .bool false, .string ⟨List.toArray ([])⟩, .string ⟨List.toArray ([])⟩, .slice none 0 0, .slice none 0 0, .slice none 0 0, .bool false, .string ⟨List.toArray ([])⟩]) Tryz.underlying22 (by kernel_rfl) rfl (by decide)
structure bK where
 bJ:List UInt8
 bW:List UInt8
def bK.cells (x:bK):List Value:= [.string ⟨List.toArray x.bJ⟩, .string ⟨List.toArray x.bW⟩]
instance:Bk bK:=⟨fun x _=>bk x.bJ+(bk x.bW+(0))⟩
theorem bK.len:∀ x,(bK.cells x).length=2:=fun _=>rfl
theorem bK.one:∀ x, ∀ u ∈ bK.cells x,u.oneCell'=true:=fun x u hu=>by
 simp only [bK.cells,List.mem_cons,List.not_mem_nil,or_false] at hu
 rcases hu with rfl | rfl <;> rfl
def GQ (w:World) (x:bK):Prop:=(x.bJ.length≤140737488351232)∧(x.bW.length≤140737488351232)
theorem ze (w:World):kK Tryz.prog w 38 2 bK.cells (GQ w):=
 (mq (sz:=2) Tryz.underlying38 (by kernel_rfl) (fD.cons (i:=0) (off:=0) (s:=1) rfl rfl (jY Tryz.underlying9 (by kernel_rfl)) (fD.cons (i:=1) (off:=1) (s:=1) rfl rfl (jY Tryz.underlying9 (by kernel_rfl)) fD.nil))).map (fun p=>⟨p.1,p.2.1⟩) bK.len (fun _=>rfl) (fun _ h=>⟨h.1,h.2.1⟩) fun _=>Nat.le_refl _
instance:Inhabited bK:=⟨⟨default,default⟩⟩
theorem rf:Elem Tryz.prog 40 149 3 48:=kM (z:= .agg #[.bool false, .string ⟨List.toArray ([])⟩, .slice none 0 0]) Tryz.underlying40 (by kernel_rfl) rfl (by decide)
theorem jL:Elem Tryz.prog 147 153 2 32:=kM (z:= .agg #[.string ⟨List.toArray ([])⟩, .string ⟨List.toArray ([])⟩]) Tryz.underlying147 (by kernel_rfl) rfl (by decide)
structure aL where
 cu:List UInt8
 aV:List UInt8
def aL.cells (x:aL):List Value:= [.string ⟨List.toArray x.cu⟩, .string ⟨List.toArray x.aV⟩]
instance:Bk aL:=⟨fun x _=>bk x.cu+(bk x.aV+(0))⟩
theorem aL.len:∀ x,(aL.cells x).length=2:=fun _=>rfl
theorem aL.one:∀ x, ∀ u ∈ aL.cells x,u.oneCell'=true:=fun x u hu=>by
 simp only [aL.cells,List.mem_cons,List.not_mem_nil,or_false] at hu
 rcases hu with rfl | rfl <;> rfl
def G9 (w:World) (x:aL):Prop:=(x.cu.length≤140737488351232)∧(x.aV.length≤140737488351232)
theorem zO (w:World):kK Tryz.prog w 153 2 aL.cells (G9 w):=
 (mq (sz:=2) Tryz.underlying153 (by kernel_rfl) (fD.cons (i:=0) (off:=0) (s:=1) rfl rfl (jY Tryz.underlying9 (by kernel_rfl)) (fD.cons (i:=1) (off:=1) (s:=1) rfl rfl (jY Tryz.underlying9 (by kernel_rfl)) fD.nil))).map (fun p=>⟨p.1,p.2.1⟩) aL.len (fun _=>rfl) (fun _ h=>⟨h.1,h.2.1⟩) fun _=>Nat.le_refl _
instance:Inhabited aL:=⟨⟨default,default⟩⟩
structure af where
 dZ:Bool
 aV:List UInt8
 av:Sv aL
def af.cells (x:af):List Value:= [.bool x.dZ, .string ⟨List.toArray x.aV⟩, .slice x.av.A x.av.ls.length x.av.c]
instance:Bk af:=⟨fun x _=>bk x.dZ+(bk x.aV+(bk x.av+(0)))⟩
theorem af.len:∀ x,(af.cells x).length=3:=fun _=>rfl
theorem af.one:∀ x, ∀ u ∈ af.cells x,u.oneCell'=true:=fun x u hu=>by
 simp only [af.cells,List.mem_cons,List.not_mem_nil,or_false] at hu
 rcases hu with rfl | rfl | rfl <;> rfl
def F4 (w:World) (x:af):Prop:=(True)∧(x.aV.length≤140737488351232)∧(lT w 2 32 aL.cells (G9 w) x.av)
theorem yn (w:World):kK Tryz.prog w 149 3 af.cells (F4 w):=
 (mq (sz:=3) Tryz.underlying149 (by kernel_rfl) (fD.cons (i:=0) (off:=0) (s:=1) rfl rfl (uh Tryz.underlying4 (by kernel_rfl)) (fD.cons (i:=1) (off:=1) (s:=1) rfl rfl (jY Tryz.underlying9 (by kernel_rfl)) (fD.cons (i:=2) (off:=2) (s:=1) rfl rfl (oZ (bytes:=32) Tryz.underlying147 (by kernel_rfl) (by kernel_rfl) (by decide) (zO w)) fD.nil)))).map (fun p=>⟨p.1,p.2.1,p.2.2.1⟩) af.len (fun _=>rfl) (fun _ h=>⟨h.1,h.2.1,h.2.2.1⟩) fun _=>Nat.le_refl _
instance:Inhabited af:=⟨⟨default,default,default⟩⟩
structure aZ where
 dZ:Bool
 aV:List UInt8
 av:Ll aL
instance:Inhabited aZ:=⟨⟨default,default,default⟩⟩
def af.abs (x:af):aZ:=⟨x.dZ,x.aV,⟨x.av.ls⟩⟩
def af.own (x:af):List HP:= [row x.av.A x.av.ls.length x.av.c (List.flatMap aL.cells x.av.ls) 153 2]
theorem pX:Elem Tryz.prog 29 89 2 24:=kM (z:= .agg #[.string ⟨List.toArray ([])⟩, .int .i64 0]) Tryz.underlying29 (by kernel_rfl) rfl (by decide)
structure bv where
 bJ:List UInt8
 dX:Int
def bv.cells (x:bv):List Value:= [.string ⟨List.toArray x.bJ⟩, .int .i64 x.dX]
instance:Bk bv:=⟨fun x _=>bk x.bJ+(bk x.dX+(0))⟩
theorem bv.len:∀ x,(bv.cells x).length=2:=fun _=>rfl
theorem bv.one:∀ x, ∀ u ∈ bv.cells x,u.oneCell'=true:=fun x u hu=>by
 simp only [bv.cells,List.mem_cons,List.not_mem_nil,or_false] at hu
 rcases hu with rfl | rfl <;> rfl
def Gv (w:World) (x:bv):Prop:=(x.bJ.length≤140737488351232)∧((-9223372036854775808)≤x.dX∧x.dX≤9223372036854775807)
theorem zf (w:World):kK Tryz.prog w 89 2 bv.cells (Gv w):=
 (mq (sz:=2) Tryz.underlying89 (by kernel_rfl) (fD.cons (i:=0) (off:=0) (s:=1) rfl rfl (jY Tryz.underlying9 (by kernel_rfl)) (fD.cons (i:=1) (off:=1) (s:=1) rfl rfl (lH (k:= .i64) (lo:= -9223372036854775808) (hi:=9223372036854775807) Tryz.underlying3 (by kernel_rfl) (by decide) (by decide)) fD.nil))).map (fun p=>⟨p.1,p.2.1⟩) bv.len (fun _=>rfl) (fun _ h=>⟨h.1,h.2.1⟩) fun _=>Nat.le_refl _
instance:Inhabited bv:=⟨⟨default,default⟩⟩
structure bA where
 aI:Int
 aJ:Int
 eU:Int
 aQ:Int
 dz:Int
 dL:Int
 aU:Nat
 ay:Nat
 bf:Nat
 cz:Nat
 aY:Nat
 aH:Nat
 dG:Nat
 bT:Nat
 xN:Nat
 dI:Bool
 bO:bK
 aD:Sv bC
 ah:Sv af
 ag:Sv bv
def bA.cells (x:bA):List Value:= [.int .i64 x.aI, .int .i64 x.aJ, .int .i64 x.eU, .int .i64 x.aQ, .int .i64 x.dz, .int .i64 x.dL, .int .u64 ((x.aU:Nat):Int), .int .u64 ((x.ay:Nat):Int), .int .u64 ((x.bf:Nat):Int), .int .u64 ((x.cz:Nat):Int), .int .u64 ((x.aY:Nat):Int), .int .u64 ((x.aH:Nat):Int), .int .u64 ((x.dG:Nat):Int), .int .u64 ((x.bT:Nat):Int), .int .u64 ((x.xN:Nat):Int), .bool x.dI, .string ⟨List.toArray x.bO.bJ⟩, .string ⟨List.toArray x.bO.bW⟩, .slice x.aD.A x.aD.ls.length x.aD.c, .slice x.ah.A x.ah.ls.length x.ah.c, .slice x.ag.A x.ag.ls.length x.ag.c]
instance:Bk bA:=⟨fun x _=>bk x.aI+(bk x.aJ+(bk x.eU+(bk x.aQ+(bk x.dz+(bk x.dL+(bk x.aU+(bk x.ay+(bk x.bf+(bk x.cz+(bk x.aY+(bk x.aH+(bk x.dG+(bk x.bT+(bk x.xN+(bk x.dI+(bk x.bO+(bk x.aD+(bk x.ah+(bk x.ag+(0))))))))))))))))))))⟩
theorem bA.len:∀ x,(bA.cells x).length=21:=fun _=>rfl
theorem bA.one:∀ x, ∀ u ∈ bA.cells x,u.oneCell'=true:=fun x u hu=>by
 simp only [bA.cells,List.mem_cons,List.not_mem_nil,or_false] at hu
 rcases hu with rfl | rfl | rfl | rfl | rfl | rfl | rfl | rfl | rfl | rfl | rfl | rfl | rfl | rfl | rfl | rfl | rfl | rfl | rfl | rfl | rfl <;> rfl
def GI (w:World) (x:bA):Prop:=((-9223372036854775808)≤x.aI∧x.aI≤9223372036854775807)∧((-9223372036854775808)≤x.aJ∧x.aJ≤9223372036854775807)∧((-9223372036854775808)≤x.eU∧x.eU≤9223372036854775807)∧((-9223372036854775808)≤x.aQ∧x.aQ≤9223372036854775807)∧((-9223372036854775808)≤x.dz∧x.dz≤9223372036854775807)∧((-9223372036854775808)≤x.dL∧x.dL≤9223372036854775807)∧(x.aU≤18446744073709551615)∧(x.ay≤18446744073709551615)∧(x.bf≤18446744073709551615)∧(x.cz≤18446744073709551615)∧(x.aY≤18446744073709551615)∧(x.aH≤18446744073709551615)∧(x.dG≤18446744073709551615)∧(x.bT≤18446744073709551615)∧(x.xN≤18446744073709551615)∧(True)∧(GQ w x.bO)∧(lT w 6 80 bC.cells (Gu w) x.aD)∧(lT w 3 48 af.cells (F4 w) x.ah)∧(lT w 2 24 bv.cells (Gv w) x.ag)
theorem AY (w:World):kK Tryz.prog w 42 21 bA.cells (GI w):=
 (mq (sz:=21) Tryz.underlying42 (by kernel_rfl) (fD.cons (i:=0) (off:=0) (s:=1) rfl rfl (lH (k:= .i64) (lo:= -9223372036854775808) (hi:=9223372036854775807) Tryz.underlying3 (by kernel_rfl) (by decide) (by decide)) (fD.cons (i:=1) (off:=1) (s:=1) rfl rfl (lH (k:= .i64) (lo:= -9223372036854775808) (hi:=9223372036854775807) Tryz.underlying3 (by kernel_rfl) (by decide) (by decide)) (fD.cons (i:=2) (off:=2) (s:=1) rfl rfl (lH (k:= .i64) (lo:= -9223372036854775808) (hi:=9223372036854775807) Tryz.underlying3 (by kernel_rfl) (by decide) (by decide)) (fD.cons (i:=3) (off:=3) (s:=1) rfl rfl (lH (k:= .i64) (lo:= -9223372036854775808) (hi:=9223372036854775807) Tryz.underlying3 (by kernel_rfl) (by decide) (by decide)) (fD.cons (i:=4) (off:=4) (s:=1) rfl rfl (lH (k:= .i64) (lo:= -9223372036854775808) (hi:=9223372036854775807) Tryz.underlying3 (by kernel_rfl) (by decide) (by decide)) (fD.cons (i:=5) (off:=5) (s:=1) rfl rfl (lH (k:= .i64) (lo:= -9223372036854775808) (hi:=9223372036854775807) Tryz.underlying3 (by kernel_rfl) (by decide) (by decide)) (fD.cons (i:=6) (off:=6) (s:=1) rfl rfl (mO (k:= .u64) (hi:=18446744073709551615) Tryz.underlying28 (by kernel_rfl) (by decide) (by decide)) (fD.cons (i:=7) (off:=7) (s:=1) rfl rfl (mO (k:= .u64) (hi:=18446744073709551615) Tryz.underlying28 (by kernel_rfl) (by decide) (by decide)) (fD.cons (i:=8) (off:=8) (s:=1) rfl rfl (mO (k:= .u64) (hi:=18446744073709551615) Tryz.underlying28 (by kernel_rfl) (by decide) (by decide)) (fD.cons (i:=9) (off:=9) (s:=1) rfl rfl (mO (k:= .u64) (hi:=18446744073709551615) Tryz.underlying28 (by kernel_rfl) (by decide) (by decide)) (fD.cons (i:=10) (off:=10) (s:=1) rfl rfl (mO (k:= .u64) (hi:=18446744073709551615) Tryz.underlying28 (by kernel_rfl) (by decide) (by decide)) (fD.cons (i:=11) (off:=11) (s:=1) rfl rfl (mO (k:= .u64) (hi:=18446744073709551615) Tryz.underlying28 (by kernel_rfl) (by decide) (by decide)) (fD.cons (i:=12) (off:=12) (s:=1) rfl rfl (mO (k:= .u64) (hi:=18446744073709551615) Tryz.underlying28 (by kernel_rfl) (by decide) (by decide)) (fD.cons (i:=13) (off:=13) (s:=1) rfl rfl (mO (k:= .u64) (hi:=18446744073709551615) Tryz.underlying28 (by kernel_rfl) (by decide) (by decide)) (fD.cons (i:=14) (off:=14) (s:=1) rfl rfl (mO (k:= .u64) (hi:=18446744073709551615) Tryz.underlying28 (by kernel_rfl) (by decide) (by decide)) (fD.cons (i:=15) (off:=15) (s:=1) rfl rfl (uh Tryz.underlying4 (by kernel_rfl)) (fD.cons (i:=16) (off:=16) (s:=2) rfl rfl (ze w) (fD.cons (i:=17) (off:=18) (s:=1) rfl rfl (oZ (bytes:=80) Tryz.underlying39 (by kernel_rfl) (by kernel_rfl) (by decide) (Bv w)) (fD.cons (i:=18) (off:=19) (s:=1) rfl rfl (oZ (bytes:=48) Tryz.underlying40 (by kernel_rfl) (by kernel_rfl) (by decide) (yn w)) (fD.cons (i:=19) (off:=20) (s:=1) rfl rfl (oZ (bytes:=24) Tryz.underlying29 (by kernel_rfl) (by kernel_rfl) (by decide) (zf w)) fD.nil))))))))))))))))))))).map (fun p=>⟨p.1,p.2.1,p.2.2.1,p.2.2.2.1,p.2.2.2.2.1,p.2.2.2.2.2.1,p.2.2.2.2.2.2.1,p.2.2.2.2.2.2.2.1,p.2.2.2.2.2.2.2.2.1,p.2.2.2.2.2.2.2.2.2.1,p.2.2.2.2.2.2.2.2.2.2.1,p.2.2.2.2.2.2.2.2.2.2.2.1,p.2.2.2.2.2.2.2.2.2.2.2.2.1,p.2.2.2.2.2.2.2.2.2.2.2.2.2.1,p.2.2.2.2.2.2.2.2.2.2.2.2.2.2.1,p.2.2.2.2.2.2.2.2.2.2.2.2.2.2.2.1,p.2.2.2.2.2.2.2.2.2.2.2.2.2.2.2.2.1,p.2.2.2.2.2.2.2.2.2.2.2.2.2.2.2.2.2.1,p.2.2.2.2.2.2.2.2.2.2.2.2.2.2.2.2.2.2.1,p.2.2.2.2.2.2.2.2.2.2.2.2.2.2.2.2.2.2.2.1⟩) bA.len (fun _=>rfl) (fun _ h=>⟨h.1,h.2.1,h.2.2.1,h.2.2.2.1,h.2.2.2.2.1,h.2.2.2.2.2.1,h.2.2.2.2.2.2.1,h.2.2.2.2.2.2.2.1,h.2.2.2.2.2.2.2.2.1,h.2.2.2.2.2.2.2.2.2.1,h.2.2.2.2.2.2.2.2.2.2.1,h.2.2.2.2.2.2.2.2.2.2.2.1,h.2.2.2.2.2.2.2.2.2.2.2.2.1,h.2.2.2.2.2.2.2.2.2.2.2.2.2.1,h.2.2.2.2.2.2.2.2.2.2.2.2.2.2.1,h.2.2.2.2.2.2.2.2.2.2.2.2.2.2.2.1,h.2.2.2.2.2.2.2.2.2.2.2.2.2.2.2.2.1,h.2.2.2.2.2.2.2.2.2.2.2.2.2.2.2.2.2.1,h.2.2.2.2.2.2.2.2.2.2.2.2.2.2.2.2.2.2.1,h.2.2.2.2.2.2.2.2.2.2.2.2.2.2.2.2.2.2.2.1⟩) fun _=>Nat.le_refl _
instance:Inhabited bA:=⟨⟨default,default,default,default,default,default,default,default,default,default,default,default,default,default,default,default,default,default,default,default⟩⟩
structure bP where
 aI:Int
 aJ:Int
 eU:Int
 aQ:Int
 dz:Int
 dL:Int
 aU:Nat
 ay:Nat
 bf:Nat
 cz:Nat
 aY:Nat
 aH:Nat
 dG:Nat
 bT:Nat
 xN:Nat
 dI:Bool
 bO:bK
 aD:Ll bC
 ah:Ll aZ
 ag:Ll bv
instance:Inhabited bP:=⟨⟨default,default,default,default,default,default,default,default,default,default,default,default,default,default,default,default,default,default,default,default⟩⟩
def bA.abs (x:bA):bP:=⟨x.aI,x.aJ,x.eU,x.aQ,x.dz,x.dL,x.aU,x.ay,x.bf,x.cz,x.aY,x.aH,x.dG,x.bT,x.xN,x.dI,x.bO,⟨x.aD.ls⟩,⟨List.map af.abs x.ah.ls⟩,⟨x.ag.ls⟩⟩
def bA.own (x:bA):List HP:= [row x.aD.A x.aD.ls.length x.aD.c (List.flatMap bC.cells x.aD.ls) 72 6,row x.ah.A x.ah.ls.length x.ah.c (List.flatMap af.cells x.ah.ls) 149 3,row x.ag.A x.ag.ls.length x.ag.c (List.flatMap bv.cells x.ag.ls) 89 2,sepL (List.flatMap af.own x.ah.ls)]
abbrev gN (r:Int) (s:Int) (t:Int) (u:Int) (v:Int) (w:Int) (x:Nat) (y:Nat) (z:Nat) (A:Nat) (g:Nat) (h:Nat) (i:Nat) (j:Nat) (k:Nat) (l:Bool) (m:List UInt8) (n:List UInt8) (o:Option Addr) (a b:Nat) (p:Option Addr) (c d:Nat) (q:Option Addr) (e f:Nat):List Value:= [.int .i64 r, .int .i64 s, .int .i64 t, .int .i64 u, .int .i64 v, .int .i64 w, .int .u64 ((x:Nat):Int), .int .u64 ((y:Nat):Int), .int .u64 ((z:Nat):Int), .int .u64 ((A:Nat):Int), .int .u64 ((g:Nat):Int), .int .u64 ((h:Nat):Int), .int .u64 ((i:Nat):Int), .int .u64 ((j:Nat):Int), .int .u64 ((k:Nat):Int), .bool l, .string ⟨List.toArray m⟩, .string ⟨List.toArray n⟩, .slice o a b, .slice p c d, .slice q e f]
abbrev gP (x:bP) (a:Option Addr) (b:Nat) (c:Option Addr) (d:Nat) (e:Option Addr) (f:Nat):List Value:= [.int .i64 x.aI, .int .i64 x.aJ, .int .i64 x.eU, .int .i64 x.aQ, .int .i64 x.dz, .int .i64 x.dL, .int .u64 ((x.aU:Nat):Int), .int .u64 ((x.ay:Nat):Int), .int .u64 ((x.bf:Nat):Int), .int .u64 ((x.cz:Nat):Int), .int .u64 ((x.aY:Nat):Int), .int .u64 ((x.aH:Nat):Int), .int .u64 ((x.dG:Nat):Int), .int .u64 ((x.bT:Nat):Int), .int .u64 ((x.xN:Nat):Int), .bool x.dI, .string ⟨List.toArray x.bO.bJ⟩, .string ⟨List.toArray x.bO.bW⟩, .slice a x.aD.ls.length b, .slice c x.ah.ls.length d, .slice e x.ag.ls.length f]
structure gz where
 kR:Int
 eU:Int
 ak:bA
 sW:Bool
 cu:List UInt8
def gz.cells (x:gz):List Value:= [.int .i64 x.kR, .int .i64 x.eU, .int .i64 x.ak.aI, .int .i64 x.ak.aJ, .int .i64 x.ak.eU, .int .i64 x.ak.aQ, .int .i64 x.ak.dz, .int .i64 x.ak.dL, .int .u64 ((x.ak.aU:Nat):Int), .int .u64 ((x.ak.ay:Nat):Int), .int .u64 ((x.ak.bf:Nat):Int), .int .u64 ((x.ak.cz:Nat):Int), .int .u64 ((x.ak.aY:Nat):Int), .int .u64 ((x.ak.aH:Nat):Int), .int .u64 ((x.ak.dG:Nat):Int), .int .u64 ((x.ak.bT:Nat):Int), .int .u64 ((x.ak.xN:Nat):Int), .bool x.ak.dI, .string ⟨List.toArray x.ak.bO.bJ⟩, .string ⟨List.toArray x.ak.bO.bW⟩, .slice x.ak.aD.A x.ak.aD.ls.length x.ak.aD.c, .slice x.ak.ah.A x.ak.ah.ls.length x.ak.ah.c, .slice x.ak.ag.A x.ak.ag.ls.length x.ak.ag.c, .bool x.sW, .string ⟨List.toArray x.cu⟩]
instance:Bk gz:=⟨fun x _=>bk x.kR+(bk x.eU+(bk x.ak+(bk x.sW+(bk x.cu+(0)))))⟩
theorem gz.len:∀ x,(gz.cells x).length=25:=fun _=>rfl
theorem gz.one:∀ x, ∀ u ∈ gz.cells x,u.oneCell'=true:=fun x u hu=>by
 simp only [gz.cells,List.mem_cons,List.not_mem_nil,or_false] at hu
 rcases hu with rfl | rfl | rfl | rfl | rfl | rfl | rfl | rfl | rfl | rfl | rfl | rfl | rfl | rfl | rfl | rfl | rfl | rfl | rfl | rfl | rfl | rfl | rfl | rfl | rfl <;> rfl
def Gp (w:World) (x:gz):Prop:=((-9223372036854775808)≤x.kR∧x.kR≤9223372036854775807)∧((-9223372036854775808)≤x.eU∧x.eU≤9223372036854775807)∧(GI w x.ak)∧(True)∧(x.cu.length≤140737488351232)
theorem zP (w:World):kK Tryz.prog w 44 25 gz.cells (Gp w):=
 (mq (sz:=25) Tryz.underlying44 (by kernel_rfl) (fD.cons (i:=0) (off:=0) (s:=1) rfl rfl (lH (k:= .i64) (lo:= -9223372036854775808) (hi:=9223372036854775807) Tryz.underlying3 (by kernel_rfl) (by decide) (by decide)) (fD.cons (i:=1) (off:=1) (s:=1) rfl rfl (lH (k:= .i64) (lo:= -9223372036854775808) (hi:=9223372036854775807) Tryz.underlying3 (by kernel_rfl) (by decide) (by decide)) (fD.cons (i:=2) (off:=2) (s:=21) rfl rfl (AY w) (fD.cons (i:=3) (off:=23) (s:=1) rfl rfl (uh Tryz.underlying4 (by kernel_rfl)) (fD.cons (i:=4) (off:=24) (s:=1) rfl rfl (jY Tryz.underlying9 (by kernel_rfl)) fD.nil)))))).map (fun p=>⟨p.1,p.2.1,p.2.2.1,p.2.2.2.1,p.2.2.2.2.1⟩) gz.len (fun _=>rfl) (fun _ h=>⟨h.1,h.2.1,h.2.2.1,h.2.2.2.1,h.2.2.2.2.1⟩) fun _=>Nat.le_refl _
instance:Inhabited gz:=⟨⟨default,default,default,default,default⟩⟩
structure StepT where
 kR:Int
 eU:Int
 ak:bP
 sW:Bool
 cu:List UInt8
instance:Inhabited StepT:=⟨⟨default,default,default,default,default⟩⟩
def gz.abs (x:gz):StepT:=⟨x.kR,x.eU,x.ak.abs,x.sW,x.cu⟩
def gz.own (x:gz):List HP:= [row x.ak.aD.A x.ak.aD.ls.length x.ak.aD.c (List.flatMap bC.cells x.ak.aD.ls) 72 6,row x.ak.ah.A x.ak.ah.ls.length x.ak.ah.c (List.flatMap af.cells x.ak.ah.ls) 149 3,row x.ak.ag.A x.ak.ag.ls.length x.ak.ag.c (List.flatMap bv.cells x.ak.ag.ls) 89 2,sepL (List.flatMap af.own x.ak.ah.ls)]
abbrev Ei (v:Int) (w:Int) (x:Int) (y:Int) (z:Int) (A:Int) (B:Int) (C:Int) (D:Nat) (E:Nat) (g:Nat) (h:Nat) (i:Nat) (j:Nat) (k:Nat) (l:Nat) (m:Nat) (n:Bool) (o:List UInt8) (p:List UInt8) (q:Option Addr) (a b:Nat) (r:Option Addr) (c d:Nat) (s:Option Addr) (e f:Nat) (t:Bool) (u:List UInt8):List Value:= [.int .i64 v, .int .i64 w, .int .i64 x, .int .i64 y, .int .i64 z, .int .i64 A, .int .i64 B, .int .i64 C, .int .u64 ((D:Nat):Int), .int .u64 ((E:Nat):Int), .int .u64 ((g:Nat):Int), .int .u64 ((h:Nat):Int), .int .u64 ((i:Nat):Int), .int .u64 ((j:Nat):Int), .int .u64 ((k:Nat):Int), .int .u64 ((l:Nat):Int), .int .u64 ((m:Nat):Int), .bool n, .string ⟨List.toArray o⟩, .string ⟨List.toArray p⟩, .slice q a b, .slice r c d, .slice s e f, .bool t, .string ⟨List.toArray u⟩]
theorem lI:Elem Tryz.prog 31 56 4 48:=kM (z:= .agg #[.int .i64 0, .int .u64 0, .int .u64 0, .slice none 0 0]) Tryz.underlying31 (by kernel_rfl) rfl (by decide)
structure aX where
 aQ:Int
 ay:Nat
 aU:Nat
 ah:Sv af
def aX.cells (x:aX):List Value:= [.int .i64 x.aQ, .int .u64 ((x.ay:Nat):Int), .int .u64 ((x.aU:Nat):Int), .slice x.ah.A x.ah.ls.length x.ah.c]
instance:Bk aX:=⟨fun x _=>bk x.aQ+(bk x.ay+(bk x.aU+(bk x.ah+(0))))⟩
theorem aX.len:∀ x,(aX.cells x).length=4:=fun _=>rfl
theorem aX.one:∀ x, ∀ u ∈ aX.cells x,u.oneCell'=true:=fun x u hu=>by
 simp only [aX.cells,List.mem_cons,List.not_mem_nil,or_false] at hu
 rcases hu with rfl | rfl | rfl | rfl <;> rfl
def Ii (w:World) (x:aX):Prop:=((-9223372036854775808)≤x.aQ∧x.aQ≤9223372036854775807)∧(x.ay≤18446744073709551615)∧(x.aU≤18446744073709551615)∧(lT w 3 48 af.cells (F4 w) x.ah)
instance:Inhabited aX:=⟨⟨default,default,default,default⟩⟩
structure fG where
 aQ:Int
 ay:Nat
 aU:Nat
 ah:Ll aZ
instance:Inhabited fG:=⟨⟨default,default,default,default⟩⟩
def aX.abs (x:aX):fG:=⟨x.aQ,x.ay,x.aU,⟨List.map af.abs x.ah.ls⟩⟩
def aX.own (x:aX):List HP:= [row x.ah.A x.ah.ls.length x.ah.c (List.flatMap af.cells x.ah.ls) 149 3,sepL (List.flatMap af.own x.ah.ls)]
theorem kv:Elem Tryz.prog 30 60 5 56:=kM (z:= .agg #[.int .u64 0, .int .i64 0, .int .u64 0, .int .u64 0, .slice none 0 0]) Tryz.underlying30 (by kernel_rfl) rfl (by decide)
structure az where
 bf:Nat
 aQ:Int
 ay:Nat
 aU:Nat
 au:Sv Int
def az.cells (x:az):List Value:= [.int .u64 ((x.bf:Nat):Int), .int .i64 x.aQ, .int .u64 ((x.ay:Nat):Int), .int .u64 ((x.aU:Nat):Int), .slice x.au.A x.au.ls.length x.au.c]
instance:Bk az:=⟨fun x _=>bk x.bf+(bk x.aQ+(bk x.ay+(bk x.aU+(bk x.au+(0)))))⟩
theorem az.len:∀ x,(az.cells x).length=5:=fun _=>rfl
theorem az.one:∀ x, ∀ u ∈ az.cells x,u.oneCell'=true:=fun x u hu=>by
 simp only [az.cells,List.mem_cons,List.not_mem_nil,or_false] at hu
 rcases hu with rfl | rfl | rfl | rfl | rfl <;> rfl
def Ha (w:World) (x:az):Prop:=(x.bf≤18446744073709551615)∧((-9223372036854775808)≤x.aQ∧x.aQ≤9223372036854775807)∧(x.ay≤18446744073709551615)∧(x.aU≤18446744073709551615)∧(lT w 1 8 (eI .i64) (fun n=>(-9223372036854775808)≤n∧n≤9223372036854775807) x.au)
instance:Inhabited az:=⟨⟨default,default,default,default,default⟩⟩
structure bL where
 bf:Nat
 aQ:Int
 ay:Nat
 aU:Nat
 au:Ll Int
instance:Inhabited bL:=⟨⟨default,default,default,default,default⟩⟩
def az.abs (x:az):bL:=⟨x.bf,x.aQ,x.ay,x.aU,⟨x.au.ls⟩⟩
def az.own (x:az):List HP:= [row x.au.A x.au.ls.length x.au.c (List.flatMap (eI .i64) x.au.ls) 3 1]
structure mr where
 au:Int
 ay:Nat
 aY:Nat
 aH:Nat
 ag:Sv bv
 aj:Sv az
 aG:Sv aX
def mr.cells (x:mr):List Value:= [.int .i64 x.au, .int .u64 ((x.ay:Nat):Int), .int .u64 ((x.aY:Nat):Int), .int .u64 ((x.aH:Nat):Int), .slice x.ag.A x.ag.ls.length x.ag.c, .slice x.aj.A x.aj.ls.length x.aj.c, .slice x.aG.A x.aG.ls.length x.aG.c]
instance:Bk mr:=⟨fun x _=>bk x.au+(bk x.ay+(bk x.aY+(bk x.aH+(bk x.ag+(bk x.aj+(bk x.aG+(0)))))))⟩
theorem mr.len:∀ x,(mr.cells x).length=7:=fun _=>rfl
theorem mr.one:∀ x, ∀ u ∈ mr.cells x,u.oneCell'=true:=fun x u hu=>by
 simp only [mr.cells,List.mem_cons,List.not_mem_nil,or_false] at hu
 rcases hu with rfl | rfl | rfl | rfl | rfl | rfl | rfl <;> rfl
def IB (w:World) (x:mr):Prop:=((-9223372036854775808)≤x.au∧x.au≤9223372036854775807)∧(x.ay≤18446744073709551615)∧(x.aY≤18446744073709551615)∧(x.aH≤18446744073709551615)∧(lT w 2 24 bv.cells (Gv w) x.ag)∧(lT w 5 56 az.cells (Ha w) x.aj)∧(lT w 4 48 aX.cells (Ii w) x.aG)
instance:Inhabited mr:=⟨⟨default,default,default,default,default,default,default⟩⟩
structure dC where
 au:Int
 ay:Nat
 aY:Nat
 aH:Nat
 ag:Ll bv
 aj:Ll bL
 aG:Ll fG
instance:Inhabited dC:=⟨⟨default,default,default,default,default,default,default⟩⟩
def mr.abs (x:mr):dC:=⟨x.au,x.ay,x.aY,x.aH,⟨x.ag.ls⟩,⟨List.map az.abs x.aj.ls⟩,⟨List.map aX.abs x.aG.ls⟩⟩
def mr.own (x:mr):List HP:= [row x.ag.A x.ag.ls.length x.ag.c (List.flatMap bv.cells x.ag.ls) 89 2,row x.aj.A x.aj.ls.length x.aj.c (List.flatMap az.cells x.aj.ls) 60 5,row x.aG.A x.aG.ls.length x.aG.c (List.flatMap aX.cells x.aG.ls) 56 4,sepL (List.flatMap az.own x.aj.ls),sepL (List.flatMap aX.own x.aG.ls)]
theorem uj:Elem Tryz.prog 45 42 21 232:=kM (z:= .agg (gN 0 0 0 0 0 0 0 0 0 0 0 0 0 0 0 false ([]) ([]) none 0 0 none 0 0 none 0 0).toArray) Tryz.underlying45 (by kernel_rfl) rfl (by decide)
structure nL where
 dR:Sv bA
 gB:Bool
def nL.cells (x:nL):List Value:= [.slice x.dR.A x.dR.ls.length x.dR.c, .bool x.gB]
instance:Bk nL:=⟨fun x _=>bk x.dR+(bk x.gB+(0))⟩
theorem nL.len:∀ x,(nL.cells x).length=2:=fun _=>rfl
theorem nL.one:∀ x, ∀ u ∈ nL.cells x,u.oneCell'=true:=fun x u hu=>by
 simp only [nL.cells,List.mem_cons,List.not_mem_nil,or_false] at hu
 rcases hu with rfl | rfl <;> rfl
def IE (w:World) (x:nL):Prop:=(lT w 21 232 bA.cells (GI w) x.dR)∧(True)
instance:Inhabited nL:=⟨⟨default,default⟩⟩
structure jm where
 dR:Ll bP
 gB:Bool
instance:Inhabited jm:=⟨⟨default,default⟩⟩
def nL.abs (x:nL):jm:=⟨⟨List.map bA.abs x.dR.ls⟩,x.gB⟩
def nL.own (x:nL):List HP:= [row x.dR.A x.dR.ls.length x.dR.c (List.flatMap bA.cells x.dR.ls) 42 21,sepL (List.flatMap bA.own x.dR.ls)]
structure pY where
 bF:Bool
 Eu:Bool
def pY.cells (x:pY):List Value:= [.bool x.bF, .bool x.Eu]
instance:Bk pY:=⟨fun x _=>bk x.bF+(bk x.Eu+(0))⟩
theorem pY.len:∀ x,(pY.cells x).length=2:=fun _=>rfl
theorem pY.one:∀ x, ∀ u ∈ pY.cells x,u.oneCell'=true:=fun x u hu=>by
 simp only [pY.cells,List.mem_cons,List.not_mem_nil,or_false] at hu
 rcases hu with rfl | rfl <;> rfl
def IG (w:World) (x:pY):Prop:=(True)∧(True)
instance:Inhabited pY:=⟨⟨default,default⟩⟩
theorem sO:Elem Tryz.prog 61 28 1 8:=kM (z:= .int .u64 0) Tryz.underlying61 (by kernel_rfl) rfl (by decide)
structure rU where
 ou:Int
 aK:Nat
def rU.cells (x:rU):List Value:= [.int .i64 x.ou, .int .u64 ((x.aK:Nat):Int)]
instance:Bk rU:=⟨fun x _=>bk x.ou+(bk x.aK+(0))⟩
theorem rU.len:∀ x,(rU.cells x).length=2:=fun _=>rfl
theorem rU.one:∀ x, ∀ u ∈ rU.cells x,u.oneCell'=true:=fun x u hu=>by
 simp only [rU.cells,List.mem_cons,List.not_mem_nil,or_false] at hu
 rcases hu with rfl | rfl <;> rfl
def II (w:World) (x:rU):Prop:=((-9223372036854775808)≤x.ou∧x.ou≤9223372036854775807)∧(x.aK≤18446744073709551615)
instance:Inhabited rU:=⟨⟨default,default⟩⟩
structure mD where
 dX:Int
 aD:Sv bC
 aJ:Sv Int
def mD.cells (x:mD):List Value:= [.int .i64 x.dX, .slice x.aD.A x.aD.ls.length x.aD.c, .slice x.aJ.A x.aJ.ls.length x.aJ.c]
instance:Bk mD:=⟨fun x _=>bk x.dX+(bk x.aD+(bk x.aJ+(0)))⟩
theorem mD.len:∀ x,(mD.cells x).length=3:=fun _=>rfl
theorem mD.one:∀ x, ∀ u ∈ mD.cells x,u.oneCell'=true:=fun x u hu=>by
 simp only [mD.cells,List.mem_cons,List.not_mem_nil,or_false] at hu
 rcases hu with rfl | rfl | rfl <;> rfl
def IC (w:World) (x:mD):Prop:=((-9223372036854775808)≤x.dX∧x.dX≤9223372036854775807)∧(lT w 6 80 bC.cells (Gu w) x.aD)∧(lT w 1 8 (eI .i64) (fun n=>(-9223372036854775808)≤n∧n≤9223372036854775807) x.aJ)
instance:Inhabited mD:=⟨⟨default,default,default⟩⟩
structure Bw where
 dX:Int
 aD:Ll bC
 aJ:Ll Int
instance:Inhabited Bw:=⟨⟨default,default,default⟩⟩
def mD.abs (x:mD):Bw:=⟨x.dX,⟨x.aD.ls⟩,⟨x.aJ.ls⟩⟩
def mD.own (x:mD):List HP:= [row x.aD.A x.aD.ls.length x.aD.c (List.flatMap bC.cells x.aD.ls) 72 6,row x.aJ.A x.aJ.ls.length x.aJ.c (List.flatMap (eI .i64) x.aJ.ls) 3 1]
theorem oQ:Elem Tryz.prog 79 107 9 136:=kM (z:= .agg #[.int .u64 0, .int .i64 0, .int .u64 0, .int .u64 0, .slice none 0 0, .slice none 0 0, .slice none 0 0, .slice none 0 0, .int .i64 0]) Tryz.underlying79 (by kernel_rfl) rfl (by decide)
theorem sI:Elem Tryz.prog 103 172 3 56:=kM (z:= .agg #[.int .i64 0, .slice none 0 0, .slice none 0 0]) Tryz.underlying103 (by kernel_rfl) rfl (by decide)
theorem wV:Elem Tryz.prog 104 4 1 1:=kM (z:= .bool false) Tryz.underlying104 (by kernel_rfl) rfl (by decide)
theorem vN:Elem Tryz.prog 105 40 1 24:=kM (z:= .slice none 0 0) Tryz.underlying105 (by kernel_rfl) rfl (by decide)
structure bB where
 bq:Nat
 aW:Int
 aK:Nat
 dA:Nat
 bU:Sv bC
 aF:Sv bG
 bF:Sv Bool
 ae:Sv (Sv af)
 ed:Int
def bB.cells (x:bB):List Value:= [.int .u64 ((x.bq:Nat):Int), .int .i64 x.aW, .int .u64 ((x.aK:Nat):Int), .int .u64 ((x.dA:Nat):Int), .slice x.bU.A x.bU.ls.length x.bU.c, .slice x.aF.A x.aF.ls.length x.aF.c, .slice x.bF.A x.bF.ls.length x.bF.c, .slice x.ae.A x.ae.ls.length x.ae.c, .int .i64 x.ed]
instance:Bk bB:=⟨fun x _=>bk x.bq+(bk x.aW+(bk x.aK+(bk x.dA+(bk x.bU+(bk x.aF+(bk x.bF+(bk x.ae+(bk x.ed+(0)))))))))⟩
theorem bB.len:∀ x,(bB.cells x).length=9:=fun _=>rfl
theorem bB.one:∀ x, ∀ u ∈ bB.cells x,u.oneCell'=true:=fun x u hu=>by
 simp only [bB.cells,List.mem_cons,List.not_mem_nil,or_false] at hu
 rcases hu with rfl | rfl | rfl | rfl | rfl | rfl | rfl | rfl | rfl <;> rfl
def IJ (w:World) (x:bB):Prop:=(x.bq≤18446744073709551615)∧((-9223372036854775808)≤x.aW∧x.aW≤9223372036854775807)∧(x.aK≤18446744073709551615)∧(x.dA≤18446744073709551615)∧(lT w 6 80 bC.cells (Gu w) x.bU)∧(lT w 3 56 bG.cells (Ih w) x.aF)∧(lT w 1 1 eL (fun _=>True) x.bF)∧(lT w 1 24 (FJ (β:=af)) (lT w 3 48 af.cells (F4 w)) x.ae)∧((-9223372036854775808)≤x.ed∧x.ed≤9223372036854775807)
instance:Inhabited bB:=⟨⟨default,default,default,default,default,default,default,default,default⟩⟩
abbrev bM:=Sv af
def bM.abs (x:bM):Ll aZ:=⟨List.map af.abs x.ls⟩
def bM.own (x:bM):List HP:= [row x.A x.ls.length x.c (List.flatMap af.cells x.ls) 149 3,sepL (List.flatMap af.own x.ls)]
structure dM where
 bq:Nat
 aW:Int
 aK:Nat
 dA:Nat
 bU:Ll bC
 aF:Ll fV
 bF:Ll Bool
 ae:Ll (Ll aZ)
 ed:Int
instance:Inhabited dM:=⟨⟨default,default,default,default,default,default,default,default,default⟩⟩
def bB.abs (x:bB):dM:=⟨x.bq,x.aW,x.aK,x.dA,⟨x.bU.ls⟩,⟨List.map bG.abs x.aF.ls⟩,⟨x.bF.ls⟩,⟨List.map bM.abs x.ae.ls⟩,x.ed⟩
def bB.own (x:bB):List HP:= [row x.bU.A x.bU.ls.length x.bU.c (List.flatMap bC.cells x.bU.ls) 72 6,row x.aF.A x.aF.ls.length x.aF.c (List.flatMap bG.cells x.aF.ls) 172 3,row x.bF.A x.bF.ls.length x.bF.c (List.flatMap eL x.bF.ls) 4 1,row x.ae.A x.ae.ls.length x.ae.c (List.flatMap (FJ (β:=af)) x.ae.ls) 40 1,sepL (List.flatMap bG.own x.aF.ls),sepL (List.flatMap bM.own x.ae.ls)]
abbrev qC (i:Nat) (j:Int) (k:Nat) (l:Nat) (m:Option Addr) (a b:Nat) (n:Option Addr) (c d:Nat) (o:Option Addr) (e f:Nat) (p:Option Addr) (g h:Nat) (q:Int):List Value:= [.int .u64 ((i:Nat):Int), .int .i64 j, .int .u64 ((k:Nat):Int), .int .u64 ((l:Nat):Int), .slice m a b, .slice n c d, .slice o e f, .slice p g h, .int .i64 q]
abbrev AZ (x:dM) (a:Option Addr) (b:Nat) (c:Option Addr) (d:Nat) (e:Option Addr) (f:Nat) (g:Option Addr) (h:Nat):List Value:= [.int .u64 ((x.bq:Nat):Int), .int .i64 x.aW, .int .u64 ((x.aK:Nat):Int), .int .u64 ((x.dA:Nat):Int), .slice a x.bU.ls.length b, .slice c x.aF.ls.length d, .slice e x.bF.ls.length f, .slice g x.ae.ls.length h, .int .i64 x.ed]
structure lu where
 aS:Bool
 aK:Nat
 bi:Int
 ae:Sv af
def lu.cells (x:lu):List Value:= [.bool x.aS, .int .u64 ((x.aK:Nat):Int), .int .i64 x.bi, .slice x.ae.A x.ae.ls.length x.ae.c]
instance:Bk lu:=⟨fun x _=>bk x.aS+(bk x.aK+(bk x.bi+(bk x.ae+(0))))⟩
theorem lu.len:∀ x,(lu.cells x).length=4:=fun _=>rfl
theorem lu.one:∀ x, ∀ u ∈ lu.cells x,u.oneCell'=true:=fun x u hu=>by
 simp only [lu.cells,List.mem_cons,List.not_mem_nil,or_false] at hu
 rcases hu with rfl | rfl | rfl | rfl <;> rfl
def Iu (w:World) (x:lu):Prop:=(True)∧(x.aK≤18446744073709551615)∧((-9223372036854775808)≤x.bi∧x.bi≤9223372036854775807)∧(lT w 3 48 af.cells (F4 w) x.ae)
instance:Inhabited lu:=⟨⟨default,default,default,default⟩⟩
structure dY where
 aS:Bool
 aK:Nat
 bi:Int
 ae:Ll aZ
instance:Inhabited dY:=⟨⟨default,default,default,default⟩⟩
def lu.abs (x:lu):dY:=⟨x.aS,x.aK,x.bi,⟨List.map af.abs x.ae.ls⟩⟩
def lu.own (x:lu):List HP:= [row x.ae.A x.ae.ls.length x.ae.c (List.flatMap af.cells x.ae.ls) 149 3,sepL (List.flatMap af.own x.ae.ls)]
structure aC where
 aa:dC
 bH:Nat
 aB:Ll dM
 aR:dY
 aN:dY
 aM:dY
 aO:dY
 aP:dY
 di:Nat
 cB:Nat
 cZ:Nat
 cK:Nat
 cO:Nat
instance:Inhabited aC:=⟨⟨default,default,default,default,default,default,default,default,default,default,default,default,default⟩⟩
theorem CK:Elem Tryz.prog 126 154 1 8:=kM (z:= .int .i64 0) Tryz.underlying126 (by kernel_rfl) rfl (by decide)
structure lv where
 lQ:Int
 ou:Int
 dn:Sv Int
def lv.cells (x:lv):List Value:= [.int .i64 x.lQ, .int .i64 x.ou, .slice x.dn.A x.dn.ls.length x.dn.c]
instance:Bk lv:=⟨fun x _=>bk x.lQ+(bk x.ou+(bk x.dn+(0)))⟩
theorem lv.len:∀ x,(lv.cells x).length=3:=fun _=>rfl
theorem lv.one:∀ x, ∀ u ∈ lv.cells x,u.oneCell'=true:=fun x u hu=>by
 simp only [lv.cells,List.mem_cons,List.not_mem_nil,or_false] at hu
 rcases hu with rfl | rfl | rfl <;> rfl
def Iw (w:World) (x:lv):Prop:=((-9223372036854775808)≤x.lQ∧x.lQ≤9223372036854775807)∧((-9223372036854775808)≤x.ou∧x.ou≤9223372036854775807)∧(lT w 1 8 (eI .i64) (fun n=>(-9223372036854775808)≤n∧n≤9223372036854775807) x.dn)
instance:Inhabited lv:=⟨⟨default,default,default⟩⟩
structure fQ where
 lQ:Int
 ou:Int
 dn:Ll Int
instance:Inhabited fQ:=⟨⟨default,default,default⟩⟩
def lv.abs (x:lv):fQ:=⟨x.lQ,x.ou,⟨x.dn.ls⟩⟩
def lv.own (x:lv):List HP:= [row x.dn.A x.dn.ls.length x.dn.c (List.flatMap (eI .i64) x.dn.ls) 154 1]
structure bQ where
 bE:Ll bP
instance:Inhabited bQ:=⟨⟨default⟩⟩
theorem wW:Elem Tryz.prog 134 5 1 1:=kM (z:= .int .u8 0) Tryz.underlying134 (by kernel_rfl) rfl (by decide)
structure lC where
 xb:Sv UInt8
def lC.cells (x:lC):List Value:= [.slice x.xb.A x.xb.ls.length x.xb.c]
instance:Bk lC:=⟨fun x _=>bk x.xb+(0)⟩
theorem lC.len:∀ x,(lC.cells x).length=1:=fun _=>rfl
theorem lC.one:∀ x, ∀ u ∈ lC.cells x,u.oneCell'=true:=fun x u hu=>by
 simp only [lC.cells,List.mem_cons,List.not_mem_nil,or_false] at hu
 rcases hu with rfl <;> rfl
def Iy (w:World) (x:lC):Prop:=(lT w 1 1 eB (fun _=>True) x.xb)
instance:Inhabited lC:=⟨⟨default⟩⟩
structure dN where
 xb:Ll UInt8
instance:Inhabited dN:=⟨⟨default⟩⟩
def lC.abs (x:lC):dN:=⟨⟨x.xb.ls⟩⟩
def lC.own (x:lC):List HP:= [row x.xb.A x.xb.ls.length x.xb.c (List.flatMap eB x.xb.ls) 5 1]
theorem CL:Elem Tryz.prog 245 9 1 16:=kM (z:= .string ⟨List.toArray ([])⟩) Tryz.underlying245 (by kernel_rfl) rfl (by decide)
def iK (a:Int) (b:Int):Bool:=
 if a ≥ 1 then decide (a≤b) else false
theorem lK (w:World) (D:Nat→Prop) (b:Int) (c:Int) (f:Bool) (H:Own w D w []) (hr:iK b c=f):
    Calls Tryz.prog 40 #[vI b,vI c] w (dW fun v w'=>v= .bool f∧Own w D w' []):=by
 refine cb Tryz.func40 ?_
 refine sr (Ar rfl (Mz rfl (Kz (.bool (decide (b ≥ 1))) (Mz rfl ?_))))
 by_cases a:b ≥ 1
 refine gw (vI b) (dT a) (E5 rfl) (gw (vI c) (dT a) (E5 rfl) (Gz (.bool (decide (b≤c))) (dT a) (fw (.bool (decide (b≤c))) (Fa rfl (dT a) rfl) (An rfl (rt (rs ?_))))))
 have d:=H.pk []
 obtain rfl:_=decide (b≤c):=hr.symm.trans (ip a)
 exact⟨rfl,d⟩
 refine Sz (dF a) (Sz (dF a) (Sz (dF a) (fw (.bool false) (ES rfl (dF a) rfl) (An rfl (rt (rs ?_))))))
 have e:=H.pk []
 obtain rfl:_=false:=hr.symm.trans (iN a)
 exact⟨rfl,e⟩
def rq (a:Int):Bool:=
 if a ≥ 1 then decide (a≤4) else false
theorem wB (w:World) (D:Nat→Prop) (b:Int) (e:Bool) (H:Own w D w []) (hr:rq b=e):
    Calls Tryz.prog 111 #[vI b] w (dW fun v w'=>v= .bool e∧Own w D w' []):=by
 refine cb Tryz.func111 ?_
 refine sr (Ar rfl (Mz rfl (Kz (.bool (decide (b ≥ 1))) (Mz rfl ?_))))
 by_cases a:b ≥ 1
 refine gw (vI b) (dT a) (E5 rfl) (Gz (.bool (decide (b≤4))) (dT a) (fw (.bool (decide (b≤4))) (Fa rfl (dT a) rfl) (An rfl (rt (rs ?_)))))
 have c:=H.pk []
 obtain rfl:_=decide (b≤4):=hr.symm.trans (ip a)
 exact⟨rfl,c⟩
 refine Sz (dF a) (Sz (dF a) (fw (.bool false) (ES rfl (dF a) rfl) (An rfl (rt (rs ?_)))))
 have d:=H.pk []
 obtain rfl:_=false:=hr.symm.trans (iN a)
 exact⟨rfl,d⟩
def gq (a:List UInt8):Int:=
 if((a.length:Nat):Int) < 1 then 20 else if((a.length:Nat):Int) > 12 then 20 else 0
theorem jZ (w:World) (D:Nat→Prop) (b:List UInt8) (d:Int) (H:Own w D w []) (hr:gq b=d):
    Calls Tryz.prog 112 #[.string ⟨List.toArray b⟩] w (dW fun v w'=>v=vI d∧Own w D w' []∧(¬ (d=0)∨(1≤b.length∧b.length≤12))∧(b.length < 1∨b.length > 12∨d=0)):=by
 refine cb Tryz.func112 ?_
 refine sr (An rfl (EP (sr (Mz rfl (Kz (vJ b.length) (Kz (.bool (decide (((b.length:Nat):Int) < 1))) (Mz rfl ?_)))))))
 by_cases a:((b.length:Nat):Int) < 1
 refine Sz (dT a) (Sz (dT a) (Sz (dT a) (fw (.bool true) (Fa rfl (dT a) rfl) (nt (jt (sr (An rfl (rt (tR (rs ?_))))))))))
 have e:=H.pk []
 obtain rfl:_=20:=hr.symm.trans (ip a)
 exact⟨rfl,e,(by omega),(by omega)⟩
 refine gw (.string ⟨List.toArray b⟩) (dF a) (E5 rfl) (Gz (vJ b.length) (dF a) (Gz (.bool (decide (((b.length:Nat):Int) > 12))) (dF a) (fw (.bool (decide (((b.length:Nat):Int) > 12))) (ES rfl (dF a) rfl) (nt ?_))))
 by_cases c:((b.length:Nat):Int) > 12
 refine jT (dT c) (sr (An rfl (rt (tR (rs ?_)))))
 have f:=H.pk []
 obtain rfl:_=20:=hr.symm.trans (et (iN a) (ip c))
 exact⟨rfl,f,(by omega),(by omega)⟩
 refine jF (dF c) (sk (sr (An rfl (rt (rs ?_)))))
 have g:=H.pk []
 obtain rfl:_=0:=hr.symm.trans (et (iN a) (iN c))
 exact⟨rfl,g,(by omega),(by omega)⟩
def iA (l0:List bv):List bv→Nat→Unit ⊕ Int
  | [],a=>Sum.inl ()
  | b::c,a=>bnd (rq b.dX) fun d=>if d=true then if((a:Nat):Int) > 0 then bnd (gq b.bJ) fun e=>if e=0 then bnd (List.getD l0 (a - 1) default) fun f=>if b.bJ≤f.bJ then Sum.inr (170) else iA l0 c (a+1) else Sum.inr (170) else iA l0 c (a+1) else Sum.inr (170)
def kH (l0:List bv):Int:=
 if((l0.length:Nat):Int) < 1 then 170 else if((l0.length:Nat):Int) > 6 then 170 else bnd (List.getD l0 0 default) fun a=>if a.bJ≠([]) then 170 else lp (iA l0 l0 0) fun _=>0
theorem qD (w:World) (D:Nat→Prop) (h:Option Addr) (W G:Nat) (l0:List bv) (X:Int) (H:Own w D w []) (j:Ro w D fun w'=>bD w' 2 h W (List.flatMap bv.cells l0)) (Y:W=l0.length) (aD:l0.length≤9223372036854775807) (hr:kH l0=X):
    Calls Tryz.prog 72 #[.slice h W G] w (dW fun v w'=>v=vI X∧Own w D w' []∧(¬ (X=0)∨(1≤l0.length∧l0.length≤6))):=by
 subst Y
 refine cb Tryz.func72 ?_
 refine sr (An rfl (EP (sr (Mz rfl (Kz (vJ l0.length) (Kz (.bool (decide (((l0.length:Nat):Int) < 1))) (Mz rfl ?_)))))))
 by_cases g:((l0.length:Nat):Int) < 1
 refine Sz (dT g) (Sz (dT g) (Sz (dT g) (fw (.bool true) (Fa rfl (dT g) rfl) (Mz rfl (Sz rfl (Sz rfl (Sz rfl (Sz rfl (Sz rfl (fw (.bool true) (Fa rfl rfl rfl) (nt (jt (sr (An rfl (rt (tR (rs ?_)))))))))))))))))
 have Z:=H.pk []
 obtain rfl:_=170:=hr.symm.trans (ip g)
 exact⟨rfl,Z,(by omega)⟩
 refine gw (.slice h l0.length G) (dF g) (E5 rfl) (Gz (vJ l0.length) (dF g) (Gz (.bool (decide (((l0.length:Nat):Int) > 6))) (dF g) (fw (.bool (decide (((l0.length:Nat):Int) > 6))) (ES rfl (dF g) rfl) (Mz rfl ?_))))
 by_cases d:((l0.length:Nat):Int) > 6
 refine Sz (dT d) (Sz (dT d) (Sz (dT d) (Sz (dT d) (Sz (dT d) (fw (.bool true) (Fa rfl (dT d) rfl) (nt (jt (sr (An rfl (rt (tR (rs ?_))))))))))))
 have aa:=H.pk []
 obtain rfl:_=170:=hr.symm.trans (et (iN g) (ip d))
 exact⟨rfl,aa,(by omega)⟩
 refine gw (.slice h l0.length G) (dF d) (E5 rfl) ?_
 obtain⟨C,l⟩:=dK (ls:=l0) (i:=0) bv.len (by decide) (H.ro j) (by first | omega | (simp; done) | (simp; omega))
 refine gw (.pointer (some ⟨ab h,ao h+0 *2,none⟩)) (dF d) (ET (pX) rfl rfl ((H.ro j).addr (i:=0) (by omega)) (by omega)) (Gz (.pointer (some ⟨ab h,ao h+0 *2,none⟩)) (dF d) (gw (.string ⟨List.toArray C.bJ⟩) (dF d) (EY rfl (bZ.one Tryz.isAgg9 (((H.ro j).elem bv.len l (by decide)).at_ (k:=0) rfl))) (gw (.bool (decide (C.bJ≠([])))) (dF d) (Gd rfl rfl) (fw (.bool (decide (C.bJ≠([])))) (ES rfl (dF d) rfl) (nt ?_)))))
 by_cases r:C.bJ≠([])
 refine jT (dT r) (sr (An rfl (rt (tR (rs ?_)))))
 have ae:=H.pk []
 obtain rfl:_=170:=hr.symm.trans (et (iN g) (et (iN d) (et (ai (bI l)) (ip r))))
 exact⟨rfl,ae,(by omega)⟩
 refine jF (dF r) (sk (EP (sr (Mz rfl (Kz (vJ l0.length) (Mn rfl (bo ?_)))))))
 have af:=H.pk []
 obtain⟨ag,u⟩:=l8 fun(a:Nat) (w':World)=>Own w D w' []∧a≤l0.length∧iA l0 l0 0=iA l0 (List.drop a l0) a
 refine Wp.loop (fun i:Nat=> [(2,vI 0),(21,vJ i),(20,vJ l0.length),(0, .slice h l0.length G)]) ag (fun i=>l0.length - i) 0 ⟨rfl,rfl,rfl,rfl,trivial⟩ (u.2 ⟨af,by omega,rfl⟩) ?_
 rintro a aF L
 show Wp _ _ _ [(2,vI 0),(21,vJ a),(20,vJ l0.length),(0, .slice h l0.length G)] _ _
 obtain⟨z,ay,m⟩:=u.1 L
 refine sr (Kz (.bool (decide (((a:Nat):Int) < ((l0.length:Nat):Int)))) (nt (EP ?_)))
 by_cases M:((a:Nat):Int) < ((l0.length:Nat):Int)
 obtain⟨f,x⟩:=dK (ls:=l0) (i:=a) bv.len (by decide) (z.ro j) (by first | omega | (simp; done) | (simp; omega))
 have o:=drop_at x
 refine jT (dT M) (sk (EP (bo (sr (Mz rfl (An rfl (EP (sr (Mz rfl (Mz rfl (fw (.pointer (some ⟨ab h,ao h+a *2,none⟩)) (ET (pX) rfl rfl ((z.ro j).addr (i:=a) (by omega)) (by omega)) (Kz (.pointer (some ⟨ab h,ao h+a *2+1,none⟩)) (fw (vI f.dX) (EY rfl (bZ.one Tryz.isAgg3 (((z.ro j).elem bv.len x (by decide)).at_ (k:=1) rfl))) ?_)))))))))))))
 obtain⟨K,n⟩:∃ q,rq f.dX=q:=⟨_,rfl⟩
 obtain⟨aG,N,az,O,aA⟩:=EU z
 refine cl Tryz.call111 (wB _ _ f.dX K N n) ?_
 rintro _ aH ⟨rfl,P⟩
 have Q:=O _ _ P
 refine Kz (.bool (!K)) (nt ?_)
 rcases IW (K) with p | p
 refine jF (cn p) (sk (EP ?_))
 refine EG [] (E9 (bS.block (E9 (E9 (bS.block (E9 Fp)))))) Q ?_
 intro aI R
 refine qv 0 rfl rfl (qk (.bool (decide (((a:Nat):Int) > 0))) 1 rfl (qv 2 rfl rfl ?_))
 by_cases c:((a:Nat):Int) > 0
 refine EZ (v:= .slice h l0.length G) (rs:= []) 3 rfl rfl rfl (dT c) (by kernel_rfl) (fun _ _=>E5 rfl) (EZ (v:=vJ a) (rs:= []) 4 rfl rfl rfl (dT c) (by kernel_rfl) (fun _ _=>E5 rfl) (EZ (v:= .pointer (some ⟨ab h,ao h+a *2,none⟩)) (rs:= []) 5 rfl rfl rfl (dT c) (by kernel_rfl) (fun _ ⟨_,A⟩=>ET (pX) rfl rfl ((A.ro j).addr (i:=a) (by omega)) (by omega)) (EZ (v:= .pointer (some ⟨ab h,ao h+a *2,none⟩)) (rs:= []) 6 rfl rfl rfl (dT c) (by kernel_rfl) (fun _ _=>yk) (EZ (v:= .string ⟨List.toArray f.bJ⟩) (rs:= []) 7 rfl rfl rfl (dT c) (by kernel_rfl) (fun _ ⟨_,A⟩=>EY rfl (bZ.one Tryz.isAgg9 (((A.ro j).elem bv.len x (by decide)).at_ (k:=0) rfl))) ?_))))
 obtain⟨s,y⟩:∃ q,gq f.bJ=q:=⟨_,rfl⟩
 obtain⟨aJ,S,aB,T,aC⟩:=EU R
 refine Gg 8 rfl rfl rfl (dT c) (by kernel_rfl) (Fe Tryz.call112 rfl (jZ _ _ f.bJ s S y) ?_)
 rintro _ aK ⟨rfl,U,I,J⟩
 have E:=T _ _ U
 replace I: ¬ (s=0)∨(1≤f.bJ.length∧f.bJ.length≤12):=I
 replace J:f.bJ.length < 1∨f.bJ.length > 12∨s=0:=J
 refine⟨.inr ⟨_,E⟩, ?_⟩
 refine EZ (v:= .bool (decide (¬ (s=0)))) (rs:= []) 9 rfl rfl rfl (dT c) (by kernel_rfl) (fun _ _=>Fq (e:= !(decide (s=0))) yk decide_not.symm) (EZ (v:= .bool (decide (¬ (s=0)))) (rs:= []) 10 rfl rfl rfl (dT c) (by kernel_rfl) (fun _ _=>E5 rfl) ?_)
 by_cases b:s=0
 refine EZ (v:= .slice h l0.length G) (rs:= []) 11 rfl rfl rfl (dF (IV b)) (by kernel_rfl) (fun _ _=>E5 rfl) (EZ (v:=vJ a) (rs:= []) 12 rfl rfl rfl (dF (IV b)) (by kernel_rfl) (fun _ _=>E5 rfl) (EZ (v:= .pointer (some ⟨ab h,ao h+a *2,none⟩)) (rs:= []) 13 rfl rfl rfl (dF (IV b)) (by kernel_rfl) (fun _ ⟨_,A⟩=>ET (pX) rfl rfl ((A.ro j).addr (i:=a) (by omega)) (by omega)) (EZ (v:= .pointer (some ⟨ab h,ao h+a *2,none⟩)) (rs:= []) 14 rfl rfl rfl (dF (IV b)) (by kernel_rfl) (fun _ _=>yk) (EZ (v:= .string ⟨List.toArray f.bJ⟩) (rs:= []) 15 rfl rfl rfl (dF (IV b)) (by kernel_rfl) (fun _ ⟨_,A⟩=>EY rfl (bZ.one Tryz.isAgg9 (((A.ro j).elem bv.len x (by decide)).at_ (k:=0) rfl))) (EZ (v:= .slice h l0.length G) (rs:= []) 16 rfl rfl rfl (dF (IV b)) (by kernel_rfl) (fun _ _=>E5 rfl) (EZ (v:=vJ a) (rs:= []) 17 rfl rfl rfl (dF (IV b)) (by kernel_rfl) (fun _ _=>E5 rfl) (EZ (v:=vJ (a - 1)) (rs:= []) 18 rfl rfl rfl (dF (IV b)) (by kernel_rfl) (fun _ _=>EQ (e:=IntKind.i64.wrap (((a:Nat):Int) - 1)) yk (by rw [IR _ (by omega)]; omega)) ?_)))))))
 obtain⟨t,B⟩:=jl (ls:=l0) (i:=a - 1) (by first | omega | (simp; done) | (simp; omega))
 refine EZ (v:= .pointer (some ⟨ab h,ao h+(a - 1) *2,none⟩)) (rs:= []) 19 rfl rfl rfl (dF (IV b)) (by kernel_rfl) (fun _ ⟨_,A⟩=>ET (pX) rfl rfl ((A.ro j).addr (i:=a - 1) (by omega)) (by omega)) (EZ (v:= .pointer (some ⟨ab h,ao h+(a - 1) *2,none⟩)) (rs:= []) 20 rfl rfl rfl (dF (IV b)) (by kernel_rfl) (fun _ _=>yk) (EZ (v:= .string ⟨List.toArray t.bJ⟩) (rs:= []) 21 rfl rfl rfl (dF (IV b)) (by kernel_rfl) (fun _ ⟨_,A⟩=>EY rfl (bZ.one Tryz.isAgg9 (((A.ro j).elem bv.len B (by decide)).at_ (k:=0) rfl))) (EZ (v:= .bool (decide (f.bJ≤t.bJ))) (rs:= []) 22 rfl rfl rfl (dF (IV b)) (by kernel_rfl) (fun _ _=>Fq (e:=Op.bytesLess f.bJ t.bJ || decide (f.bJ=t.bJ)) (Gn rfl rfl) (yC _ _)) (EZ (v:= .bool (decide (f.bJ≤t.bJ))) (rs:= []) 23 rfl rfl rfl (dT c) (by kernel_rfl) (fun _ _=>ES rfl (dF (IV b)) rfl) (qt (v:= .bool (decide (f.bJ≤t.bJ))) 24 rfl (fun _ _=>Fa rfl (dT c) rfl) (qn (ER ?_)))))))
 by_cases F:f.bJ≤t.bJ
 refine jT (dT F) (sr (An rfl (rt (bR (tR (tR (bR (tR (rs ?_)))))))))
 have ah:=E.pk []
 obtain rfl:_=170:=hr.symm.trans (et (iN g) (et (iN d) (et (ai (bI l)) (et (iN r) (iZ (et (m) (et (congrArg (fun q=>iA l0 q a) o) (et (ai n) (et (ip p) (et (ip c) (et (ai y) (et (ip b) (et (ai (bI B)) (ip F))))))))))))))
 exact⟨rfl,ah,(by omega)⟩
 refine jF (dF F) (Fs (bN (ER (EO (fw (vJ (a+1)) (EQ (e:=IntKind.i64.wrap (((a:Nat):Int)+1)) yk (by rw [IR _ (by omega)]; omega)) (Mz rfl (WL.nil ?_)))))))
 have aj:=E.pk []
 exact E8 (a+1) ⟨rfl,rfl,rfl,rfl,trivial⟩ (u.2 ⟨aj,by omega,et (m) (et (congrArg (fun q=>iA l0 q a) o) (et (ai n) (et (ip p) (et (ip c) (et (ai y) (et (ip b) (et (ai (bI B)) (iN F))))))))⟩) (by show l0.length - (a+1) < l0.length - a; omega)
 refine EW (rs:= []) 11 rfl rfl rfl (dT b) (by kernel_rfl) (EW (rs:= []) 12 rfl rfl rfl (dT b) (by kernel_rfl) (EW (rs:= []) 13 rfl rfl rfl (dT b) (by kernel_rfl) (EW (rs:= []) 14 rfl rfl rfl (dT b) (by kernel_rfl) (EW (rs:= []) 15 rfl rfl rfl (dT b) (by kernel_rfl) (EW (rs:= []) 16 rfl rfl rfl (dT b) (by kernel_rfl) (EW (rs:= []) 17 rfl rfl rfl (dT b) (by kernel_rfl) (EW (rs:= []) 18 rfl rfl rfl (dT b) (by kernel_rfl) (EW (rs:= []) 19 rfl rfl rfl (dT b) (by kernel_rfl) (EW (rs:= []) 20 rfl rfl rfl (dT b) (by kernel_rfl) (EW (rs:= []) 21 rfl rfl rfl (dT b) (by kernel_rfl) (EW (rs:= []) 22 rfl rfl rfl (dT b) (by kernel_rfl) (EZ (v:= .bool true) (rs:= []) 23 rfl rfl rfl (dT c) (by kernel_rfl) (fun _ _=>Fa rfl (dT b) rfl) (qt (v:= .bool true) 24 rfl (fun _ _=>Fa rfl (dT c) rfl) (qn (ER (jt (sr (An rfl (rt (bR (tR (tR (bR (tR (rs ?_)))))))))))))))))))))))))
 have ak:=E.pk []
 obtain rfl:_=170:=hr.symm.trans (et (iN g) (et (iN d) (et (ai (bI l)) (et (iN r) (iZ (et (m) (et (congrArg (fun q=>iA l0 q a) o) (et (ai n) (et (ip p) (et (ip c) (et (ai y) (iN b))))))))))))
 exact⟨rfl,ak,(by omega)⟩
 refine EW (rs:= []) 3 rfl rfl rfl (dF c) (by kernel_rfl) (EW (rs:= []) 4 rfl rfl rfl (dF c) (by kernel_rfl) (EW (rs:= []) 5 rfl rfl rfl (dF c) (by kernel_rfl) (EW (rs:= []) 6 rfl rfl rfl (dF c) (by kernel_rfl) (EW (rs:= []) 7 rfl rfl rfl (dF c) (by kernel_rfl) (EW (rs:= []) 8 rfl rfl rfl (dF c) (by kernel_rfl) (EW (rs:= []) 9 rfl rfl rfl (dF c) (by kernel_rfl) (EW (rs:= []) 10 rfl rfl rfl (dF c) (by kernel_rfl) (FI (rs:= []) 11 rfl rfl rfl (by kernel_rfl) (FI (rs:= []) 12 rfl rfl rfl (by kernel_rfl) (FI (rs:= []) 13 rfl rfl rfl (by kernel_rfl) (FI (rs:= []) 14 rfl rfl rfl (by kernel_rfl) (FI (rs:= []) 15 rfl rfl rfl (by kernel_rfl) (FI (rs:= []) 16 rfl rfl rfl (by kernel_rfl) (FI (rs:= []) 17 rfl rfl rfl (by kernel_rfl) (FI (rs:= []) 18 rfl rfl rfl (by kernel_rfl) (FI (rs:= []) 19 rfl rfl rfl (by kernel_rfl) (FI (rs:= []) 20 rfl rfl rfl (by kernel_rfl) (FI (rs:= []) 21 rfl rfl rfl (by kernel_rfl) (FI (rs:= []) 22 rfl rfl rfl (by kernel_rfl) (EW (rs:= []) 23 rfl rfl rfl (dF c) (by kernel_rfl) (qt (v:= .bool false) 24 rfl (fun _ _=>ES rfl (dF c) rfl) (qn (ER (jf (Fs (bN (ER (EO (fw (vJ (a+1)) (EQ (e:=IntKind.i64.wrap (((a:Nat):Int)+1)) yk (by rw [IR _ (by omega)]; omega)) (Mz rfl (WL.nil ?_)))))))))))))))))))))))))))))))
 have au:=R.pk []
 exact E8 (a+1) ⟨rfl,rfl,rfl,rfl,trivial⟩ (u.2 ⟨au,by omega,et (m) (et (congrArg (fun q=>iA l0 q a) o) (et (ai n) (et (ip p) (iN c))))⟩) (by show l0.length - (a+1) < l0.length - a; omega)
 refine jT (cn p) (sr (An rfl (rt (tR (bR (tR (tR (bR (tR (rs ?_))))))))))
 have av:=Q.pk []
 obtain rfl:_=170:=hr.symm.trans (et (iN g) (et (iN d) (et (ai (bI l)) (et (iN r) (iZ (et (m) (et (congrArg (fun q=>iA l0 q a) o) (et (ai n) (fU p)))))))))
 exact⟨rfl,av,(by omega)⟩
 refine jF (dF M) (Wp.exit (EX ?_))
 have V:iA l0 l0 0=Sum.inl ():=et (m) (et (congrArg (fun q=>iA l0 q a) (eD (ls:=l0) (i:=a) (by omega))) rfl)
 refine EX (Fg (ER (sr (An rfl (rt (rs ?_))))))
 have ax:=z.pk []
 obtain rfl:_=0:=hr.symm.trans (et (iN g) (et (iN d) (et (ai (bI l)) (et (iN r) (nJ V)))))
 exact⟨rfl,ax,(by omega)⟩
def jq (c:dC):List bv→Unit ⊕ Bool
  | []=>Sum.inl ()
  | a::b=>if a.dX > c.au then Sum.inr (false) else jq c b
def nM (b:dC):Bool:=
 bnd (kH b.ag.ls) fun a=>if a=0 then lp (jq b b.ag.ls) fun _=>true else false
set_option maxHeartbeats 1000000 in
theorem uI (w:World) (D:Nat→Prop) (a:dC) (b:Option Addr) (E f:Nat) (h:Option Addr) (F j:Nat) (p:List az) (k:Option Addr) (G l:Nat) (r:List aX) (r0:Bool) (H:Own w D w []) (L:E=a.ag.ls.length) (g:Ro w D fun w'=>bD w' 2 b a.ag.ls.length (List.flatMap bv.cells a.ag.ls)) (ag:a.ag.ls.length≤f∧a.ag.ls.length≤9223372036854775807) (M:List.map az.abs p=a.aj.ls) (N:F=a.aj.ls.length) (ah:Ro w D fun w'=>bD w' 5 h a.aj.ls.length (List.flatMap az.cells p)) (aj:a.aj.ls.length≤j∧a.aj.ls.length≤9223372036854775807) (ak:∀ x ∈ p,Ro w D (fun w'=>bD w' 1 x.au.A x.au.ls.length (List.flatMap (eI .i64) x.au.ls))∧(x.au.ls.length≤x.au.c∧x.au.ls.length≤9223372036854775807)) (O:List.map aX.abs r=a.aG.ls) (P:G=a.aG.ls.length) (au:Ro w D fun w'=>bD w' 4 k a.aG.ls.length (List.flatMap aX.cells r)) (av:a.aG.ls.length≤l∧a.aG.ls.length≤9223372036854775807) (ax:∀ x ∈ r,Ro w D (fun w'=>bD w' 3 x.ah.A x.ah.ls.length (List.flatMap af.cells x.ah.ls))∧(x.ah.ls.length≤x.ah.c∧x.ah.ls.length≤9223372036854775807)∧(∀ R ∈ x.ah.ls,Ro w D (fun w'=>bD w' 2 R.av.A R.av.ls.length (List.flatMap aL.cells R.av.ls))∧(R.av.ls.length≤R.av.c∧R.av.ls.length≤9223372036854775807))) (aN:a.ag.ls.length≤140737488355328∧a.aj.ls.length≤140737488355328∧a.aG.ls.length≤140737488355328) (hr:nM a=r0):
    Calls Tryz.prog 41 #[.agg #[vI a.au,vU a.ay,vU a.aY,vU a.aH, .slice b E f, .slice h F j, .slice k G l]] w (dW fun v w'=>v= .bool r0∧Own w D w' []):=by
 subst L N P
 have aa:=aA M
 have ae:=aA O
 refine cb Tryz.func41 ?_
 refine sr ?_
 refine dP [vI a.au,vU a.ay,vU a.aY,vU a.aH, .slice b a.ag.ls.length f, .slice h a.aj.ls.length j, .slice k a.aG.ls.length l] 33 H ?_
 intro n aO S
 refine An rfl (EP (sr (Kz (vP n 4) (Lz (.slice b a.ag.ls.length f) S 0 Tryz.isAgg29 ?_))))
 obtain⟨s,m⟩:∃ q,kH a.ag.ls=q:=⟨_,rfl⟩
 obtain⟨aP,T,U,V,aK⟩:=EU S
 refine cl Tryz.call72 (qD _ _ b a.ag.ls.length f a.ag.ls s T (U _ g) rfl (by omega) m) ?_
 rintro _ aQ ⟨rfl,W,I⟩
 have Q:=V _ _ W
 replace I: ¬ (s=0)∨(1≤a.ag.ls.length∧a.ag.ls.length≤6):=I
 refine fw (.bool (decide (¬ (s=0)))) (Fq (e:= !(decide (s=0))) yk decide_not.symm) (nt ?_)
 by_cases t:s=0
 refine jF (dF (IV t)) (sk (EP (sr (Kz (vP n 4) (Lz (.slice b a.ag.ls.length f) Q 0 Tryz.isAgg29 (Kz (vJ a.ag.ls.length) (Mn rfl (bo ?_))))))))
 have ay:=Q.pf []
 obtain⟨aB,u⟩:=l8 fun(d:Nat) (w':World)=>Own w D w' [blk n [vI a.au,vU a.ay,vU a.aY,vU a.aH, .slice b a.ag.ls.length f, .slice h a.aj.ls.length j, .slice k a.aG.ls.length l] 33]∧d≤a.ag.ls.length∧jq a a.ag.ls=jq a (List.drop d a.ag.ls)
 refine Wp.loop (fun i:Nat=> [(2, .bool false),(12,vJ i),(11,vJ a.ag.ls.length),(10, .slice b a.ag.ls.length f),(1,vP n 0)]) aB (fun i=>a.ag.ls.length - i) 0 ⟨rfl,rfl,rfl,rfl,rfl,trivial⟩ (u.2 ⟨ay,by omega,rfl⟩) ?_
 rintro d aR X
 show Wp _ _ _ [(2, .bool false),(12,vJ d),(11,vJ a.ag.ls.length),(10, .slice b a.ag.ls.length f),(1,vP n 0)] _ _
 obtain⟨y,aM,z⟩:=u.1 X
 refine sr (Kz (.bool (decide (((d:Nat):Int) < ((a.ag.ls.length:Nat):Int)))) (nt (EP ?_)))
 by_cases Y:((d:Nat):Int) < ((a.ag.ls.length:Nat):Int)
 obtain⟨o,J⟩:=dK (ls:=a.ag.ls) (i:=d) bv.len (by decide) (y.ro g) (by first | omega | (simp; done) | (simp; omega))
 have K:=drop_at J
 refine jT (dT Y) (sk (EP (bo (sr (fw (.pointer (some ⟨ab b,ao b+d *2,none⟩)) (ET (pX) rfl rfl ((y.ro g).addr (i:=d) (by omega)) (by omega)) (fw (.agg (bv.cells o).toArray) (EY rfl (Fb (cs:=(bv.cells o)) Tryz.isAgg89 Tryz.sizeOf89 ((y.ro g).elem bv.len J (by decide)))) ?_))))))
 refine dP [.string ⟨List.toArray ([])⟩,vI 0] 89 y ?_
 intro aC aS aD
 refine dO (bv.cells o) 0 aD Tryz.sizeOf89 ?_
 intro aT B
 refine ns (Kz (vP aC 1) (Lz (vI o.dX) B 0 Tryz.isAgg3 (Kz (vP n 0) (Lz (vI a.au) B 1 Tryz.isAgg3 (Kz (.bool (decide (o.dX > a.au))) (nt ?_))))))
 by_cases C:o.dX > a.au
 refine jT (dT C) (sr (An rfl (rt (bR (tR (tR (bR (tR (rs ?_)))))))))
 have aF:=B.pk []
 obtain rfl:_=false:=hr.symm.trans (et (ai m) (et (ip t) (iZ (et (z) (et (congrArg (fun q=>jq a q) K) (ip C))))))
 exact⟨rfl,aF⟩
 refine jF (dF C) (Fs (bN (ER (EO (fw (vJ (d+1)) (EQ (e:=IntKind.i64.wrap (((d:Nat):Int)+1)) yk (by rw [IR _ (by omega)]; omega)) (Mz rfl (WL.nil ?_)))))))
 have aG:=B.pk [1]
 exact E8 (d+1) ⟨rfl,rfl,rfl,rfl,rfl,trivial⟩ (u.2 ⟨aG,by omega,et (z) (et (congrArg (fun q=>jq a q) K) (iN C))⟩) (by show a.ag.ls.length - (d+1) < a.ag.ls.length - d; omega)
 refine jF (dF Y) (Wp.exit (EX ?_))
 have Z:jq a a.ag.ls=Sum.inl ():=et (z) (et (congrArg (fun q=>jq a q) (eD (ls:=a.ag.ls) (i:=d) (by omega))) rfl)
 refine EX (Fg (ER (sr (An rfl (rt (rs ?_))))))
 have aH:=y.pk []
 obtain rfl:_=true:=hr.symm.trans (et (ai m) (et (ip t) (nJ Z)))
 exact⟨rfl,aH⟩
 refine jT (dT t) (sr (An rfl (rt (tR (rs ?_)))))
 have aI:=Q.pk []
 obtain rfl:_=false:=hr.symm.trans (et (ai m) (iN t))
 exact⟨rfl,aI⟩
def dS (h:dC) (c:Nat) (b:bL):List Int→Nat→Unit ⊕ Bool
  | [],a=>Sum.inl ()
  | d::e,a=>bnd (iK d h.au) fun f=>if f=true then if((a:Nat):Int) > 0 then bnd (List.getD b.au.ls (a - 1) default) fun g=>if d≤g then Sum.inr (false) else dS h c b e (a+1) else dS h c b e (a+1) else Sum.inr (false)
def fZ (h:dC) (g:Nat) (d:bL):List Int→Nat→Unit ⊕ Bool
  | [],a=>Sum.inl ()
  | b::c,a=>bnd (iK b h.au) fun e=>if e=true then if((a:Nat):Int) > 0 then bnd (List.getD d.au.ls (a - 1) default) fun f=>if b≤f then Sum.inr (false) else fZ h g d c (a+1) else fZ h g d c (a+1) else Sum.inr (false)
def dQ (c:dC):List bL→Nat→Unit ⊕ Bool
  | [],b=>Sum.inl ()
  | a::e,b=>if((b:Nat):Int) > 0 then bnd (List.getD c.aj.ls (b - 1) default) fun f=>if((a.bf:Nat):Int)≤((f.bf:Nat):Int) then Sum.inr (false) else if((a.bf:Nat):Int) ≥ ((eT (Int.toNat (IntKind.u64.wrap (((c.ay:Nat):Int)+1))) 32:Nat):Int) then Sum.inr (false) else bnd (iK a.aQ 4) fun g=>if g=true then if((a.au.ls.length:Nat):Int)=0 then Sum.inr (false) else qQ (dS c b a a.au.ls 0) fun _=>dQ c e (b+1) else Sum.inr (false) else if((a.bf:Nat):Int) ≥ ((eT (Int.toNat (IntKind.u64.wrap (((c.ay:Nat):Int)+1))) 32:Nat):Int) then Sum.inr (false) else bnd (iK a.aQ 4) fun d=>if d=true then if((a.au.ls.length:Nat):Int)=0 then Sum.inr (false) else qQ (fZ c b a a.au.ls 0) fun _=>dQ c e (b+1) else Sum.inr (false)
def mY (a:dC):Bool:=
 if((a.aj.ls.length:Nat):Int) > 8 then false else lp (dQ a a.aj.ls 0) fun _=>true
set_option maxHeartbeats 1000000 in
theorem uk (w:World) (D:Nat→Prop) (d:dC) (S:Option Addr) (aY T:Nat) (f:Option Addr) (aZ p:Nat) (ag:List az) (U:Option Addr) (bf V:Nat) (aO:List aX) (r0:Bool) (H:Own w D w []) (bn:aY=d.ag.ls.length) (dL:Ro w D fun w'=>bD w' 2 S d.ag.ls.length (List.flatMap bv.cells d.ag.ls)) (dM:d.ag.ls.length≤T∧d.ag.ls.length≤9223372036854775807) (aB:List.map az.abs ag=d.aj.ls) (bq:aZ=d.aj.ls.length) (O:Ro w D fun w'=>bD w' 5 f d.aj.ls.length (List.flatMap az.cells ag)) (dN:d.aj.ls.length≤p∧d.aj.ls.length≤9223372036854775807) (o:∀ x ∈ ag,Ro w D (fun w'=>bD w' 1 x.au.A x.au.ls.length (List.flatMap (eI .i64) x.au.ls))∧(x.au.ls.length≤x.au.c∧x.au.ls.length≤9223372036854775807)) (bu:List.map aX.abs aO=d.aG.ls) (bz:bf=d.aG.ls.length) (dR:Ro w D fun w'=>bD w' 4 U d.aG.ls.length (List.flatMap aX.cells aO)) (dU:d.aG.ls.length≤V∧d.aG.ls.length≤9223372036854775807) (dV:∀ x ∈ aO,Ro w D (fun w'=>bD w' 3 x.ah.A x.ah.ls.length (List.flatMap af.cells x.ah.ls))∧(x.ah.ls.length≤x.ah.c∧x.ah.ls.length≤9223372036854775807)∧(∀ y1 ∈ x.ah.ls,Ro w D (fun w'=>bD w' 2 y1.av.A y1.av.ls.length (List.flatMap aL.cells y1.av.ls))∧(y1.av.ls.length≤y1.av.c∧y1.av.ls.length≤9223372036854775807))) (fM:d.ag.ls.length≤140737488355328∧d.aj.ls.length≤140737488355328∧d.aG.ls.length≤140737488355328) (hr:mY d=r0):
    Calls Tryz.prog 42 #[.agg #[vI d.au,vU d.ay,vU d.aY,vU d.aH, .slice S aY T, .slice f aZ p, .slice U bf V]] w (dW fun v w'=>v= .bool r0∧Own w D w' []):=by
 subst bn bq bz
 have dI:=aA aB
 have dJ:=aA bu
 refine cb Tryz.func42 ?_
 refine sr ?_
 refine dP [vI d.au,vU d.ay,vU d.aY,vU d.aH, .slice S d.ag.ls.length T, .slice f d.aj.ls.length p, .slice U d.aG.ls.length V] 33 H ?_
 intro y fO aW
 refine An rfl (EP (sr (Kz (vP y 5) (Lz (.slice f d.aj.ls.length p) aW 0 Tryz.isAgg30 (Kz (vJ d.aj.ls.length) (Kz (.bool (decide (((d.aj.ls.length:Nat):Int) > 8))) (nt ?_)))))))
 by_cases G:((d.aj.ls.length:Nat):Int) > 8
 refine jT (dT G) (sr (An rfl (rt (tR (rs ?_)))))
 have dX:=aW.pk []
 obtain rfl:_=false:=hr.symm.trans (ip G)
 exact⟨rfl,dX⟩
 refine jF (dF G) (sk (EP (sr (Kz (vP y 5) (Lz (.slice f d.aj.ls.length p) aW 0 Tryz.isAgg30 (Kz (vJ d.aj.ls.length) (Mn rfl (bo ?_))))))))
 have dY:=aW.pf []
 obtain⟨dZ,aG⟩:=l8 fun(b:Nat) (w':World)=>Own w D w' [blk y [vI d.au,vU d.ay,vU d.aY,vU d.aH, .slice S d.ag.ls.length T, .slice f d.aj.ls.length p, .slice U d.aG.ls.length V] 33]∧b≤d.aj.ls.length∧dQ d d.aj.ls 0=dQ d (List.drop b d.aj.ls) b
 refine Wp.loop (fun i:Nat=> [(2, .bool false),(14,vJ i),(13,vJ d.aj.ls.length),(12, .slice f d.aj.ls.length p),(1,vP y 0)]) dZ (fun i=>d.aj.ls.length - i) 0 ⟨rfl,rfl,rfl,rfl,rfl,trivial⟩ (aG.2 ⟨dY,by omega,rfl⟩) ?_
 rintro b fP bP
 show Wp _ _ _ [(2, .bool false),(14,vJ b),(13,vJ d.aj.ls.length),(12, .slice f d.aj.ls.length p),(1,vP y 0)] _ _
 obtain⟨aP,fe,z⟩:=aG.1 bP
 refine sr (Kz (.bool (decide (((b:Nat):Int) < ((d.aj.ls.length:Nat):Int)))) (nt (EP ?_)))
 by_cases bQ:((b:Nat):Int) < ((d.aj.ls.length:Nat):Int)
 obtain⟨a,t⟩:=dK (ls:=ag) (i:=b) az.len (by decide) (aP.ro O) (by first | omega | (simp; done) | (simp; omega))
 have bT:=eQ aB t
 have fo:=(o _ (List.mem_of_getElem? t)).2
 have C:=drop_at bT
 refine jT (dT bQ) (sk (EP (bo (sr (Mz rfl (fw (.pointer (some ⟨ab f,ao f+b *5,none⟩)) (ET (kv) rfl rfl ((aP.ro O).addr (i:=b) (by omega)) (by omega)) (fw (.agg (az.cells a).toArray) (EY rfl (Fb (cs:=(az.cells a)) Tryz.isAgg60 Tryz.sizeOf60 ((aP.ro O).elem az.len t (by decide)))) ?_)))))))
 refine dP [.int .u64 0,vI 0, .int .u64 0, .int .u64 0, .slice none 0 0] 60 aP ?_
 intro j fQ d9
 refine Az rfl ?_
 refine dO (az.cells a) 0 d9 Tryz.sizeOf60 ?_
 intro fT ed
 refine nt (EP (EP ?_))
 refine o5 [] (E9 (E9 (bS.block (E9 (E9 (bS.block (E9 Fp))))))) ed ?_
 intro fV aC
 refine qv 0 rfl rfl (qk (.bool (decide (((b:Nat):Int) > 0))) 1 rfl (qv 2 rfl rfl ?_))
 by_cases l:((b:Nat):Int) > 0
 refine EZ (v:=vP j 0) (rs:= []) 3 rfl rfl rfl (dT l) (by kernel_rfl) (fun _ _=>yk) (EZ (v:=vU a.bf) (rs:= []) 4 rfl rfl rfl (dT l) (by kernel_rfl) (fun _ ⟨_,H9⟩=>EY rfl (bZ.one Tryz.isAgg28 (FE (H9.cls (i:=0) rfl) rfl))) (EZ (v:=vP y 5) (rs:= []) 5 rfl rfl rfl (dT l) (by kernel_rfl) (fun _ _=>yk) (EZ (v:= .slice f d.aj.ls.length p) (rs:= []) 6 rfl rfl rfl (dT l) (by kernel_rfl) (fun _ ⟨_,H9⟩=>EY rfl (bZ.one Tryz.isAgg30 (FE (H9.cls (i:=1) rfl) rfl))) (EZ (v:=vJ b) (rs:= []) 7 rfl rfl rfl (dT l) (by kernel_rfl) (fun _ _=>E5 rfl) (EZ (v:=vJ (b - 1)) (rs:= []) 8 rfl rfl rfl (dT l) (by kernel_rfl) (fun _ _=>EQ (e:=IntKind.i64.wrap (((b:Nat):Int) - 1)) yk (by rw [IR _ (by omega)]; omega)) ?_)))))
 obtain⟨N,aQ⟩:=jl (ls:=ag) (i:=b - 1) (by first | omega | (simp; done) | (simp; omega))
 have P:=eQ aB aQ
 have fu:=(o _ (List.mem_of_getElem? aQ)).2
 refine EZ (v:= .pointer (some ⟨ab f,ao f+(b - 1) *5,none⟩)) (rs:= []) 9 rfl rfl rfl (dT l) (by kernel_rfl) (fun _ ⟨_,H9⟩=>ET (kv) rfl rfl ((H9.ro O).addr (i:=b - 1) (by omega)) (by omega)) (EZ (v:= .pointer (some ⟨ab f,ao f+(b - 1) *5,none⟩)) (rs:= []) 10 rfl rfl rfl (dT l) (by kernel_rfl) (fun _ _=>yk) (EZ (v:=vU N.bf) (rs:= []) 11 rfl rfl rfl (dT l) (by kernel_rfl) (fun _ ⟨_,H9⟩=>EY rfl (bZ.one Tryz.isAgg28 (((H9.ro O).elem az.len aQ (by decide)).at_ (k:=0) rfl))) (EZ (v:= .bool (decide (((a.bf:Nat):Int)≤((N.bf:Nat):Int)))) (rs:= []) 12 rfl rfl rfl (dT l) (by kernel_rfl) (fun _ _=>yk) (qt (v:= .bool (decide (((a.bf:Nat):Int)≤((N.bf:Nat):Int)))) 13 rfl (fun _ _=>Fa rfl (dT l) rfl) (qv 14 rfl rfl ?_)))))
 by_cases u:((a.bf:Nat):Int)≤((N.bf:Nat):Int)
 refine EW (rs:= []) 15 rfl rfl rfl (dT u) (by kernel_rfl) (EW (rs:= []) 16 rfl rfl rfl (dT u) (by kernel_rfl) (EW (rs:= []) 17 rfl rfl rfl (dT u) (by kernel_rfl) (EW (rs:= []) 18 rfl rfl rfl (dT u) (by kernel_rfl) (EW (rs:= []) 19 rfl rfl rfl (dT u) (by kernel_rfl) (EW (rs:= []) 20 rfl rfl rfl (dT u) (by kernel_rfl) (EW (rs:= []) 21 rfl rfl rfl (dT u) (by kernel_rfl) (qt (v:= .bool true) 22 rfl (fun _ _=>Fa rfl (dT u) rfl) (qn (ER (jt (sr (An rfl (rt (tR (bR (tR (tR (bR (tR (rs ?_))))))))))))))))))))
 have ek:=aC.pk []
 obtain rfl:_=false:=hr.symm.trans (et (iN G) (iZ (et (z) (et (congrArg (fun q=>dQ d q b) C) (et (ip l) (et (ai (bI P)) (ip u)))))))
 exact⟨rfl,ek⟩
 refine EZ (v:=vP j 0) (rs:= []) 15 rfl rfl rfl (dF u) (by kernel_rfl) (fun _ _=>yk) (EZ (v:=vU a.bf) (rs:= []) 16 rfl rfl rfl (dF u) (by kernel_rfl) (fun _ ⟨_,H9⟩=>EY rfl (bZ.one Tryz.isAgg28 (FE (H9.cls (i:=0) rfl) rfl))) (EZ (v:=vP y 1) (rs:= []) 17 rfl rfl rfl (dF u) (by kernel_rfl) (fun _ _=>yk) (EZ (v:=vU d.ay) (rs:= []) 18 rfl rfl rfl (dF u) (by kernel_rfl) (fun _ ⟨_,H9⟩=>EY rfl (bZ.one Tryz.isAgg28 (FE (H9.cls (i:=1) rfl) rfl))) (EZ (v:= .int .u64 ((Int.toNat (IntKind.u64.wrap (((d.ay:Nat):Int)+1)):Nat):Int)) (rs:= []) 19 rfl rfl rfl (dF u) (by kernel_rfl) (fun _ _=>EQ (e:=IntKind.u64.wrap (((d.ay:Nat):Int)+1)) yk (fq _)) ?_))))
 have fA:eT (Int.toNat (IntKind.u64.wrap (((d.ay:Nat):Int)+1))) 32≤18446744073709551615:=oD _ _
 refine EZ (v:= .int .u64 ((eT (Int.toNat (IntKind.u64.wrap (((d.ay:Nat):Int)+1))) 32:Nat):Int)) (rs:= []) 20 rfl rfl rfl (dF u) (by kernel_rfl) (fun _ _=>EQ (Gm (m:=32) rfl rfl) (fq _)) (EZ (v:= .bool (decide (((a.bf:Nat):Int) ≥ ((eT (Int.toNat (IntKind.u64.wrap (((d.ay:Nat):Int)+1))) 32:Nat):Int)))) (rs:= []) 21 rfl rfl rfl (dF u) (by kernel_rfl) (fun _ _=>yk) (qt (v:= .bool (decide (((a.bf:Nat):Int) ≥ ((eT (Int.toNat (IntKind.u64.wrap (((d.ay:Nat):Int)+1))) 32:Nat):Int)))) 22 rfl (fun _ _=>ES rfl (dF u) rfl) (qn (ER ?_))))
 by_cases ah:((a.bf:Nat):Int) ≥ ((eT (Int.toNat (IntKind.u64.wrap (((d.ay:Nat):Int)+1))) 32:Nat):Int)
 refine jT (dT ah) (sr (An rfl (rt (tR (bR (tR (tR (bR (tR (rs ?_))))))))))
 have eu:=aC.pk []
 obtain rfl:_=false:=hr.symm.trans (et (iN G) (iZ (et (z) (et (congrArg (fun q=>dQ d q b) C) (et (ip l) (et (ai (bI P)) (et (iN u) (ip ah))))))))
 exact⟨rfl,eu⟩
 refine jF (dF ah) (sk (EP (sr (Kz (vP j 1) (Lz (vI a.aQ) aC 0 Tryz.isAgg3 ?_)))))
 obtain⟨Z,W⟩:∃ q,iK a.aQ 4=q:=⟨_,rfl⟩
 obtain⟨gm,bU,fB,bV,fC⟩:=EU aC
 refine cl Tryz.call40 (lK _ _ a.aQ 4 Z bU W) ?_
 rintro _ gp ⟨rfl,bW⟩
 have aR:=bV _ _ bW
 refine Kz (.bool (!Z)) (Mz rfl ?_)
 rcases IW (Z) with F | F
 refine Gz (vP j 4) (cn F) (Gl (.slice a.au.A a.au.ls.length a.au.c) (cn F) aR 0 Tryz.isAgg58 (Gz (vJ a.au.ls.length) (cn F) (Gz (.bool (decide (((a.au.ls.length:Nat):Int)=0))) (cn F) (fw (.bool (decide (((a.au.ls.length:Nat):Int)=0))) (ES rfl (cn F) rfl) (nt ?_)))))
 by_cases aM:((a.au.ls.length:Nat):Int)=0
 refine jT (dT aM) (sr (An rfl (rt (tR (bR (tR (tR (bR (tR (rs ?_))))))))))
 have eB:=aR.pk []
 obtain rfl:_=false:=hr.symm.trans (et (iN G) (iZ (et (z) (et (congrArg (fun q=>dQ d q b) C) (et (ip l) (et (ai (bI P)) (et (iN u) (et (iN ah) (et (ai W) (et (ip F) (ip aM)))))))))))
 exact⟨rfl,eB⟩
 refine jF (dF aM) (sk (sr (Kz (vP j 4) (Lz (.slice a.au.A a.au.ls.length a.au.c) aR 0 Tryz.isAgg58 (Kz (vJ a.au.ls.length) (Mn rfl (bo ?_)))))))
 have eF:=aR.pf []
 obtain⟨eG,aH⟩:=l8 fun(h:Nat) (w':World)=>Own w D w' [blk j (az.cells a) 60,blk y [vI d.au,vU d.ay,vU d.aY,vU d.aH, .slice S d.ag.ls.length T, .slice f d.aj.ls.length p, .slice U d.aG.ls.length V] 33]∧h≤a.au.ls.length∧dS d b (az.abs a) a.au.ls 0=dS d b (az.abs a) (List.drop h a.au.ls) h
 refine Wp.loop (fun i:Nat=> [(2, .bool false),(55,vJ i),(54,vJ a.au.ls.length),(53, .slice a.au.A a.au.ls.length a.au.c),(52,vP j 4),(51, .bool (decide (((a.au.ls.length:Nat):Int)=0))),(50, .bool (decide (((a.au.ls.length:Nat):Int)=0))),(49,vJ a.au.ls.length),(48, .slice a.au.A a.au.ls.length a.au.c),(47,vP j 4),(46, .bool (!Z)),(45, .bool (!Z)),(44, .bool Z),(43,vI a.aQ),(42,vP j 1),(41, .bool (decide (((a.bf:Nat):Int) ≥ ((eT (Int.toNat (IntKind.u64.wrap (((d.ay:Nat):Int)+1))) 32:Nat):Int)))),(40, .bool (decide (((a.bf:Nat):Int) ≥ ((eT (Int.toNat (IntKind.u64.wrap (((d.ay:Nat):Int)+1))) 32:Nat):Int)))),(39, .int .u64 ((eT (Int.toNat (IntKind.u64.wrap (((d.ay:Nat):Int)+1))) 32:Nat):Int)),(38, .int .u64 ((Int.toNat (IntKind.u64.wrap (((d.ay:Nat):Int)+1)):Nat):Int)),(37,vU d.ay),(36,vP y 1),(35,vU a.bf),(34,vP j 0),(33, .bool (decide (((a.bf:Nat):Int)≤((N.bf:Nat):Int)))),(32, .bool (decide (((a.bf:Nat):Int)≤((N.bf:Nat):Int)))),(31, .bool (decide (((a.bf:Nat):Int)≤((N.bf:Nat):Int)))),(30,vU N.bf),(29, .pointer (some ⟨ab f,ao f+(b - 1) *5,none⟩)),(28, .pointer (some ⟨ab f,ao f+(b - 1) *5,none⟩)),(27,vJ (b - 1)),(26,vJ b),(25, .slice f d.aj.ls.length p),(24,vP y 5),(23,vU a.bf),(22,vP j 0),(21, .bool (decide (((b:Nat):Int) > 0))),(20, .bool (decide (((b:Nat):Int) > 0))),(19,vJ b),(3,vJ b),(4,vP j 0),(18, .agg (az.cells a).toArray),(17, .pointer (some ⟨ab f,ao f+b *5,none⟩)),(16,vJ b),(15, .bool (decide (((b:Nat):Int) < ((d.aj.ls.length:Nat):Int)))),(14,vJ b),(13,vJ d.aj.ls.length),(12, .slice f d.aj.ls.length p),(1,vP y 0)]) eG (fun i=>a.au.ls.length - i) 0 ⟨rfl,rfl,rfl,rfl,rfl,rfl,rfl,rfl,rfl,rfl,rfl,rfl,rfl,rfl,rfl,rfl,rfl,rfl,rfl,rfl,rfl,rfl,rfl,rfl,rfl,rfl,rfl,rfl,rfl,rfl,rfl,rfl,rfl,rfl,rfl,rfl,rfl,rfl,rfl,rfl,rfl,rfl,rfl,rfl,rfl,rfl,rfl,rfl,trivial⟩ (aH.2 ⟨eF,by omega,rfl⟩) ?_
 rintro h gq bX
 show Wp _ _ _ [(2, .bool false),(55,vJ h),(54,vJ a.au.ls.length),(53, .slice a.au.A a.au.ls.length a.au.c),(52,vP j 4),(51, .bool (decide (((a.au.ls.length:Nat):Int)=0))),(50, .bool (decide (((a.au.ls.length:Nat):Int)=0))),(49,vJ a.au.ls.length),(48, .slice a.au.A a.au.ls.length a.au.c),(47,vP j 4),(46, .bool (!Z)),(45, .bool (!Z)),(44, .bool Z),(43,vI a.aQ),(42,vP j 1),(41, .bool (decide (((a.bf:Nat):Int) ≥ ((eT (Int.toNat (IntKind.u64.wrap (((d.ay:Nat):Int)+1))) 32:Nat):Int)))),(40, .bool (decide (((a.bf:Nat):Int) ≥ ((eT (Int.toNat (IntKind.u64.wrap (((d.ay:Nat):Int)+1))) 32:Nat):Int)))),(39, .int .u64 ((eT (Int.toNat (IntKind.u64.wrap (((d.ay:Nat):Int)+1))) 32:Nat):Int)),(38, .int .u64 ((Int.toNat (IntKind.u64.wrap (((d.ay:Nat):Int)+1)):Nat):Int)),(37,vU d.ay),(36,vP y 1),(35,vU a.bf),(34,vP j 0),(33, .bool (decide (((a.bf:Nat):Int)≤((N.bf:Nat):Int)))),(32, .bool (decide (((a.bf:Nat):Int)≤((N.bf:Nat):Int)))),(31, .bool (decide (((a.bf:Nat):Int)≤((N.bf:Nat):Int)))),(30,vU N.bf),(29, .pointer (some ⟨ab f,ao f+(b - 1) *5,none⟩)),(28, .pointer (some ⟨ab f,ao f+(b - 1) *5,none⟩)),(27,vJ (b - 1)),(26,vJ b),(25, .slice f d.aj.ls.length p),(24,vP y 5),(23,vU a.bf),(22,vP j 0),(21, .bool (decide (((b:Nat):Int) > 0))),(20, .bool (decide (((b:Nat):Int) > 0))),(19,vJ b),(3,vJ b),(4,vP j 0),(18, .agg (az.cells a).toArray),(17, .pointer (some ⟨ab f,ao f+b *5,none⟩)),(16,vJ b),(15, .bool (decide (((b:Nat):Int) < ((d.aj.ls.length:Nat):Int)))),(14,vJ b),(13,vJ d.aj.ls.length),(12, .slice f d.aj.ls.length p),(1,vP y 0)] _ _
 obtain⟨aN,fD,aj⟩:=aH.1 bX
 refine sr (Kz (.bool (decide (((h:Nat):Int) < ((a.au.ls.length:Nat):Int)))) (nt (EP ?_)))
 by_cases bY:((h:Nat):Int) < ((a.au.ls.length:Nat):Int)
 obtain⟨ak,bg⟩:=dK (ls:=a.au.ls) (i:=h) iJ (by decide) (aN.ro (o _ (List.mem_of_getElem? t)).1) (by first | omega | (simp; done) | (simp; omega))
 have aI:=drop_at bg
 refine jT (dT bY) (sk (EP (bo (sr (Mz rfl (fw (.pointer (some ⟨ab a.au.A,ao a.au.A+h *1,none⟩)) (ET (mQ) rfl rfl ((aN.ro (o _ (List.mem_of_getElem? t)).1).addr (i:=h) (by omega)) (by omega)) (fw (vI ak) (EY rfl (bZ.one Tryz.isAgg3 (((aN.ro (o _ (List.mem_of_getElem? t)).1).elem iJ bg (by decide)).at_ (k:=0) rfl))) (Az rfl (Ar rfl (Mz rfl (Kz (vP y 0) (Lz (vI d.au) aN 1 Tryz.isAgg3 ?_))))))))))))
 obtain⟨bA,au⟩:∃ q,iK ak d.au=q:=⟨_,rfl⟩
 obtain⟨gu,cu,fE,cz,fF⟩:=EU aN
 refine cl Tryz.call40 (lK _ _ ak d.au bA cu au) ?_
 rintro _ gy ⟨rfl,cB⟩
 have av:=cz _ _ cB
 refine Kz (.bool (!bA)) (Mz rfl ?_)
 rcases IW (bA) with E | E
 refine gw (vJ h) (cn E) (E5 rfl) (Gz (.bool (decide (((h:Nat):Int) > 0))) (cn E) (gw (.bool (decide (((h:Nat):Int) > 0))) (cn E) (E5 rfl) ?_))
 by_cases B:((h:Nat):Int) > 0
 refine gw (vI ak) (dT B) (E5 rfl) (Gz (vP j 4) (dT B) (Gl (.slice a.au.A a.au.ls.length a.au.c) (dT B) av 0 Tryz.isAgg58 (gw (vJ h) (dT B) (E5 rfl) (gw (vJ (h - 1)) (dT B) (EQ (e:=IntKind.i64.wrap (((h:Nat):Int) - 1)) yk (by rw [IR _ (by omega)]; omega)) ?_))))
 obtain⟨aS,aT⟩:=dK (ls:=a.au.ls) (i:=h - 1) iJ (by decide) (av.ro (o _ (List.mem_of_getElem? t)).1) (by first | omega | (simp; done) | (simp; omega))
 refine gw (.pointer (some ⟨ab a.au.A,ao a.au.A+(h - 1) *1,none⟩)) (dT B) (ET (mQ) rfl rfl ((av.ro (o _ (List.mem_of_getElem? t)).1).addr (i:=h - 1) (by omega)) (by omega)) (gw (vI aS) (dT B) (EY rfl (bZ.one Tryz.isAgg3 (((av.ro (o _ (List.mem_of_getElem? t)).1).elem iJ aT (by decide)).at_ (k:=0) rfl))) (Gz (.bool (decide (ak≤aS))) (dT B) (gw (.bool (decide (ak≤aS))) (cn E) (Fa rfl (dT B) rfl) (fw (.bool (decide (ak≤aS))) (ES rfl (cn E) rfl) (nt ?_)))))
 by_cases aJ:ak≤aS
 refine jT (dT aJ) (sr (An rfl (rt (bR (tR (tR (bR (bR (tR (tR (bR (tR (rs ?_)))))))))))))
 have cK:=av.pk []
 obtain rfl:_=false:=hr.symm.trans (et (iN G) (iZ (et (z) (et (congrArg (fun q=>dQ d q b) C) (et (ip l) (et (ai (bI P)) (et (iN u) (et (iN ah) (et (ai W) (et (ip F) (et (iN aM) (mX (et (aj) (et (congrArg (fun q=>dS d b (az.abs a) q h) aI) (et (ai au) (et (ip E) (et (ip B) (et (ai (bI aT)) (ip aJ)))))))))))))))))))
 exact⟨rfl,cK⟩
 refine jF (dF aJ) (Fs (bN (ER (EO (fw (vJ (h+1)) (EQ (e:=IntKind.i64.wrap (((h:Nat):Int)+1)) yk (by rw [IR _ (by omega)]; omega)) (Mz rfl (WL.nil ?_)))))))
 have cO:=av.pf []
 exact E8 (h+1) ⟨rfl,rfl,rfl,rfl,rfl,rfl,rfl,rfl,rfl,rfl,rfl,rfl,rfl,rfl,rfl,rfl,rfl,rfl,rfl,rfl,rfl,rfl,rfl,rfl,rfl,rfl,rfl,rfl,rfl,rfl,rfl,rfl,rfl,rfl,rfl,rfl,rfl,rfl,rfl,rfl,rfl,rfl,rfl,rfl,rfl,rfl,rfl,rfl,trivial⟩ (aH.2 ⟨cO,by omega,et (aj) (et (congrArg (fun q=>dS d b (az.abs a) q h) aI) (et (ai au) (et (ip E) (et (ip B) (et (ai (bI aT)) (iN aJ))))))⟩) (by show a.au.ls.length - (h+1) < a.au.ls.length - h; omega)
 refine Sz (dF B) (Sz (dF B) (Sz (dF B) (Sz (dF B) (Sz (dF B) (Sz (dF B) (Sz (dF B) (Sz (dF B) (gw (.bool false) (cn E) (ES rfl (dF B) rfl) (fw (.bool false) (ES rfl (cn E) rfl) (nt (jf (Fs (bN (ER (EO (fw (vJ (h+1)) (EQ (e:=IntKind.i64.wrap (((h:Nat):Int)+1)) yk (by rw [IR _ (by omega)]; omega)) (Mz rfl (WL.nil ?_))))))))))))))))))
 have cZ:=av.pf []
 exact E8 (h+1) ⟨rfl,rfl,rfl,rfl,rfl,rfl,rfl,rfl,rfl,rfl,rfl,rfl,rfl,rfl,rfl,rfl,rfl,rfl,rfl,rfl,rfl,rfl,rfl,rfl,rfl,rfl,rfl,rfl,rfl,rfl,rfl,rfl,rfl,rfl,rfl,rfl,rfl,rfl,rfl,rfl,rfl,rfl,rfl,rfl,rfl,rfl,rfl,rfl,trivial⟩ (aH.2 ⟨cZ,by omega,et (aj) (et (congrArg (fun q=>dS d b (az.abs a) q h) aI) (et (ai au) (et (ip E) (iN B))))⟩) (by show a.au.ls.length - (h+1) < a.au.ls.length - h; omega)
 refine Sz (cn E) (Sz (cn E) (Sz (cn E) (FB rfl rfl rfl (FB rfl rfl rfl (FB rfl rfl rfl (FB rfl rfl rfl (FB rfl rfl rfl (FB rfl rfl rfl (FB rfl rfl rfl (FB rfl rfl rfl (Sz (cn E) (fw (.bool true) (Fa rfl (cn E) rfl) (nt (jt (sr (An rfl (rt (bR (tR (tR (bR (bR (tR (tR (bR (tR (rs ?_)))))))))))))))))))))))))))
 have df:=av.pk []
 obtain rfl:_=false:=hr.symm.trans (et (iN G) (iZ (et (z) (et (congrArg (fun q=>dQ d q b) C) (et (ip l) (et (ai (bI P)) (et (iN u) (et (iN ah) (et (ai W) (et (ip F) (et (iN aM) (mX (et (aj) (et (congrArg (fun q=>dS d b (az.abs a) q h) aI) (et (ai au) (fU E))))))))))))))))
 exact⟨rfl,df⟩
 refine jF (dF bY) (Wp.exit (EX ?_))
 have bB:dS d b (az.abs a) a.au.ls 0=Sum.inl ():=et (aj) (et (congrArg (fun q=>dS d b (az.abs a) q h) (eD (ls:=a.au.ls) (i:=h) (by omega))) rfl)
 refine EX (Fg (bN (ER (EO (fw (vJ (b+1)) (EQ (e:=IntKind.i64.wrap (((b:Nat):Int)+1)) yk (by rw [IR _ (by omega)]; omega)) (Mz rfl (WL.nil ?_)))))))
 have dh:=aN.pk [1]
 exact E8 (b+1) ⟨rfl,rfl,rfl,rfl,rfl,trivial⟩ (aG.2 ⟨dh,by omega,et (z) (et (congrArg (fun q=>dQ d q b) C) (et (ip l) (et (ai (bI P)) (et (iN u) (et (iN ah) (et (ai W) (et (ip F) (et (iN aM) (oK bB)))))))))⟩) (by show d.aj.ls.length - (b+1) < d.aj.ls.length - b; omega)
 refine Sz (cn F) (Sz (cn F) (Sz (cn F) (Sz (cn F) (fw (.bool true) (Fa rfl (cn F) rfl) (nt (jt (sr (An rfl (rt (tR (bR (tR (tR (bR (tR (rs ?_))))))))))))))))
 have di:=aR.pk []
 obtain rfl:_=false:=hr.symm.trans (et (iN G) (iZ (et (z) (et (congrArg (fun q=>dQ d q b) C) (et (ip l) (et (ai (bI P)) (et (iN u) (et (iN ah) (et (ai W) (fU F))))))))))
 exact⟨rfl,di⟩
 refine EW (rs:= []) 3 rfl rfl rfl (dF l) (by kernel_rfl) (EW (rs:= []) 4 rfl rfl rfl (dF l) (by kernel_rfl) (EW (rs:= []) 5 rfl rfl rfl (dF l) (by kernel_rfl) (EW (rs:= []) 6 rfl rfl rfl (dF l) (by kernel_rfl) (EW (rs:= []) 7 rfl rfl rfl (dF l) (by kernel_rfl) (EW (rs:= []) 8 rfl rfl rfl (dF l) (by kernel_rfl) (EW (rs:= []) 9 rfl rfl rfl (dF l) (by kernel_rfl) (EW (rs:= []) 10 rfl rfl rfl (dF l) (by kernel_rfl) (EW (rs:= []) 11 rfl rfl rfl (dF l) (by kernel_rfl) (EW (rs:= []) 12 rfl rfl rfl (dF l) (by kernel_rfl) (qt (v:= .bool false) 13 rfl (fun _ _=>ES rfl (dF l) rfl) (qv 14 rfl rfl (EZ (v:=vP j 0) (rs:= []) 15 rfl rfl rfl rfl (by kernel_rfl) (fun _ _=>yk) (EZ (v:=vU a.bf) (rs:= []) 16 rfl rfl rfl rfl (by kernel_rfl) (fun _ ⟨_,H9⟩=>EY rfl (bZ.one Tryz.isAgg28 (FE (H9.cls (i:=0) rfl) rfl))) (EZ (v:=vP y 1) (rs:= []) 17 rfl rfl rfl rfl (by kernel_rfl) (fun _ _=>yk) (EZ (v:=vU d.ay) (rs:= []) 18 rfl rfl rfl rfl (by kernel_rfl) (fun _ ⟨_,H9⟩=>EY rfl (bZ.one Tryz.isAgg28 (FE (H9.cls (i:=1) rfl) rfl))) (EZ (v:= .int .u64 ((Int.toNat (IntKind.u64.wrap (((d.ay:Nat):Int)+1)):Nat):Int)) (rs:= []) 19 rfl rfl rfl rfl (by kernel_rfl) (fun _ _=>EQ (e:=IntKind.u64.wrap (((d.ay:Nat):Int)+1)) yk (fq _)) ?_))))))))))))))))
 have eH:eT (Int.toNat (IntKind.u64.wrap (((d.ay:Nat):Int)+1))) 32≤18446744073709551615:=oD _ _
 refine EZ (v:= .int .u64 ((eT (Int.toNat (IntKind.u64.wrap (((d.ay:Nat):Int)+1))) 32:Nat):Int)) (rs:= []) 20 rfl rfl rfl rfl (by kernel_rfl) (fun _ _=>EQ (Gm (m:=32) rfl rfl) (fq _)) (EZ (v:= .bool (decide (((a.bf:Nat):Int) ≥ ((eT (Int.toNat (IntKind.u64.wrap (((d.ay:Nat):Int)+1))) 32:Nat):Int)))) (rs:= []) 21 rfl rfl rfl rfl (by kernel_rfl) (fun _ _=>yk) (qt (v:= .bool (decide (((a.bf:Nat):Int) ≥ ((eT (Int.toNat (IntKind.u64.wrap (((d.ay:Nat):Int)+1))) 32:Nat):Int)))) 22 rfl (fun _ _=>ES rfl rfl rfl) (qn (ER ?_))))
 by_cases K:((a.bf:Nat):Int) ≥ ((eT (Int.toNat (IntKind.u64.wrap (((d.ay:Nat):Int)+1))) 32:Nat):Int)
 refine jT (dT K) (sr (An rfl (rt (tR (bR (tR (tR (bR (tR (rs ?_))))))))))
 have dm:=aC.pk []
 obtain rfl:_=false:=hr.symm.trans (et (iN G) (iZ (et (z) (et (congrArg (fun q=>dQ d q b) C) (et (iN l) (ip K))))))
 exact⟨rfl,dm⟩
 refine jF (dF K) (sk (EP (sr (Kz (vP j 1) (Lz (vI a.aQ) aC 0 Tryz.isAgg3 ?_)))))
 obtain⟨I,J⟩:∃ q,iK a.aQ 4=q:=⟨_,rfl⟩
 obtain⟨fG,bC,eO,bE,eP⟩:=EU aC
 refine cl Tryz.call40 (lK _ _ a.aQ 4 I bC J) ?_
 rintro _ fH ⟨rfl,bF⟩
 have ax:=bE _ _ bF
 refine Kz (.bool (!I)) (Mz rfl ?_)
 rcases IW (I) with s | s
 refine Gz (vP j 4) (cn s) (Gl (.slice a.au.A a.au.ls.length a.au.c) (cn s) ax 0 Tryz.isAgg58 (Gz (vJ a.au.ls.length) (cn s) (Gz (.bool (decide (((a.au.ls.length:Nat):Int)=0))) (cn s) (fw (.bool (decide (((a.au.ls.length:Nat):Int)=0))) (ES rfl (cn s) rfl) (nt ?_)))))
 by_cases X:((a.au.ls.length:Nat):Int)=0
 refine jT (dT X) (sr (An rfl (rt (tR (bR (tR (tR (bR (tR (rs ?_))))))))))
 have dn:=ax.pk []
 obtain rfl:_=false:=hr.symm.trans (et (iN G) (iZ (et (z) (et (congrArg (fun q=>dQ d q b) C) (et (iN l) (et (iN K) (et (ai J) (et (ip s) (ip X)))))))))
 exact⟨rfl,dn⟩
 refine jF (dF X) (sk (sr (Kz (vP j 4) (Lz (.slice a.au.A a.au.ls.length a.au.c) ax 0 Tryz.isAgg58 (Kz (vJ a.au.ls.length) (Mn rfl (bo ?_)))))))
 have dw:=ax.pf []
 obtain⟨dx,aa⟩:=l8 fun(g:Nat) (w':World)=>Own w D w' [blk j (az.cells a) 60,blk y [vI d.au,vU d.ay,vU d.aY,vU d.aH, .slice S d.ag.ls.length T, .slice f d.aj.ls.length p, .slice U d.aG.ls.length V] 33]∧g≤a.au.ls.length∧fZ d b (az.abs a) a.au.ls 0=fZ d b (az.abs a) (List.drop g a.au.ls) g
 refine Wp.loop (fun i:Nat=> [(2, .bool false),(55,vJ i),(54,vJ a.au.ls.length),(53, .slice a.au.A a.au.ls.length a.au.c),(52,vP j 4),(51, .bool (decide (((a.au.ls.length:Nat):Int)=0))),(50, .bool (decide (((a.au.ls.length:Nat):Int)=0))),(49,vJ a.au.ls.length),(48, .slice a.au.A a.au.ls.length a.au.c),(47,vP j 4),(46, .bool (!I)),(45, .bool (!I)),(44, .bool I),(43,vI a.aQ),(42,vP j 1),(41, .bool (decide (((a.bf:Nat):Int) ≥ ((eT (Int.toNat (IntKind.u64.wrap (((d.ay:Nat):Int)+1))) 32:Nat):Int)))),(40, .bool (decide (((a.bf:Nat):Int) ≥ ((eT (Int.toNat (IntKind.u64.wrap (((d.ay:Nat):Int)+1))) 32:Nat):Int)))),(39, .int .u64 ((eT (Int.toNat (IntKind.u64.wrap (((d.ay:Nat):Int)+1))) 32:Nat):Int)),(38, .int .u64 ((Int.toNat (IntKind.u64.wrap (((d.ay:Nat):Int)+1)):Nat):Int)),(37,vU d.ay),(36,vP y 1),(35,vU a.bf),(34,vP j 0),(33, .bool false),(32, .bool false),(31,undef),(30,undef),(29,undef),(28,undef),(27,undef),(26,undef),(25,undef),(24,undef),(23,undef),(22,undef),(21, .bool (decide (((b:Nat):Int) > 0))),(20, .bool (decide (((b:Nat):Int) > 0))),(19,vJ b),(3,vJ b),(4,vP j 0),(18, .agg (az.cells a).toArray),(17, .pointer (some ⟨ab f,ao f+b *5,none⟩)),(16,vJ b),(15, .bool (decide (((b:Nat):Int) < ((d.aj.ls.length:Nat):Int)))),(14,vJ b),(13,vJ d.aj.ls.length),(12, .slice f d.aj.ls.length p),(1,vP y 0)]) dx (fun i=>a.au.ls.length - i) 0 ⟨rfl,rfl,rfl,rfl,rfl,rfl,rfl,rfl,rfl,rfl,rfl,rfl,rfl,rfl,rfl,rfl,rfl,rfl,rfl,rfl,rfl,rfl,rfl,rfl,rfl,rfl,rfl,rfl,rfl,rfl,rfl,rfl,rfl,rfl,rfl,rfl,rfl,rfl,rfl,rfl,rfl,rfl,rfl,rfl,rfl,rfl,rfl,rfl,trivial⟩ (aa.2 ⟨dw,by omega,rfl⟩) ?_
 rintro g fI bG
 show Wp _ _ _ [(2, .bool false),(55,vJ g),(54,vJ a.au.ls.length),(53, .slice a.au.A a.au.ls.length a.au.c),(52,vP j 4),(51, .bool (decide (((a.au.ls.length:Nat):Int)=0))),(50, .bool (decide (((a.au.ls.length:Nat):Int)=0))),(49,vJ a.au.ls.length),(48, .slice a.au.A a.au.ls.length a.au.c),(47,vP j 4),(46, .bool (!I)),(45, .bool (!I)),(44, .bool I),(43,vI a.aQ),(42,vP j 1),(41, .bool (decide (((a.bf:Nat):Int) ≥ ((eT (Int.toNat (IntKind.u64.wrap (((d.ay:Nat):Int)+1))) 32:Nat):Int)))),(40, .bool (decide (((a.bf:Nat):Int) ≥ ((eT (Int.toNat (IntKind.u64.wrap (((d.ay:Nat):Int)+1))) 32:Nat):Int)))),(39, .int .u64 ((eT (Int.toNat (IntKind.u64.wrap (((d.ay:Nat):Int)+1))) 32:Nat):Int)),(38, .int .u64 ((Int.toNat (IntKind.u64.wrap (((d.ay:Nat):Int)+1)):Nat):Int)),(37,vU d.ay),(36,vP y 1),(35,vU a.bf),(34,vP j 0),(33, .bool false),(32, .bool false),(31,undef),(30,undef),(29,undef),(28,undef),(27,undef),(26,undef),(25,undef),(24,undef),(23,undef),(22,undef),(21, .bool (decide (((b:Nat):Int) > 0))),(20, .bool (decide (((b:Nat):Int) > 0))),(19,vJ b),(3,vJ b),(4,vP j 0),(18, .agg (az.cells a).toArray),(17, .pointer (some ⟨ab f,ao f+b *5,none⟩)),(16,vJ b),(15, .bool (decide (((b:Nat):Int) < ((d.aj.ls.length:Nat):Int)))),(14,vJ b),(13,vJ d.aj.ls.length),(12, .slice f d.aj.ls.length p),(1,vP y 0)] _ _
 obtain⟨Y,eU,Q⟩:=aa.1 bG
 refine sr (Kz (.bool (decide (((g:Nat):Int) < ((a.au.ls.length:Nat):Int)))) (nt (EP ?_)))
 by_cases bi:((g:Nat):Int) < ((a.au.ls.length:Nat):Int)
 obtain⟨L,aU⟩:=dK (ls:=a.au.ls) (i:=g) iJ (by decide) (Y.ro (o _ (List.mem_of_getElem? t)).1) (by first | omega | (simp; done) | (simp; omega))
 have ae:=drop_at aU
 refine jT (dT bi) (sk (EP (bo (sr (Mz rfl (fw (.pointer (some ⟨ab a.au.A,ao a.au.A+g *1,none⟩)) (ET (mQ) rfl rfl ((Y.ro (o _ (List.mem_of_getElem? t)).1).addr (i:=g) (by omega)) (by omega)) (fw (vI L) (EY rfl (bZ.one Tryz.isAgg3 (((Y.ro (o _ (List.mem_of_getElem? t)).1).elem iJ aU (by decide)).at_ (k:=0) rfl))) (Az rfl (Ar rfl (Mz rfl (Kz (vP y 0) (Lz (vI d.au) Y 1 Tryz.isAgg3 ?_))))))))))))
 obtain⟨aV,R⟩:∃ q,iK L d.au=q:=⟨_,rfl⟩
 obtain⟨fJ,bH,eX,bJ,eY⟩:=EU Y
 refine cl Tryz.call40 (lK _ _ L d.au aV bH R) ?_
 rintro _ fK ⟨rfl,bK⟩
 have M:=bJ _ _ bK
 refine Kz (.bool (!aV)) (Mz rfl ?_)
 rcases IW (aV) with r | r
 refine gw (vJ g) (cn r) (E5 rfl) (Gz (.bool (decide (((g:Nat):Int) > 0))) (cn r) (gw (.bool (decide (((g:Nat):Int) > 0))) (cn r) (E5 rfl) ?_))
 by_cases n:((g:Nat):Int) > 0
 refine gw (vI L) (dT n) (E5 rfl) (Gz (vP j 4) (dT n) (Gl (.slice a.au.A a.au.ls.length a.au.c) (dT n) M 0 Tryz.isAgg58 (gw (vJ g) (dT n) (E5 rfl) (gw (vJ (g - 1)) (dT n) (EQ (e:=IntKind.i64.wrap (((g:Nat):Int) - 1)) yk (by rw [IR _ (by omega)]; omega)) ?_))))
 obtain⟨ay,aF⟩:=dK (ls:=a.au.ls) (i:=g - 1) iJ (by decide) (M.ro (o _ (List.mem_of_getElem? t)).1) (by first | omega | (simp; done) | (simp; omega))
 refine gw (.pointer (some ⟨ab a.au.A,ao a.au.A+(g - 1) *1,none⟩)) (dT n) (ET (mQ) rfl rfl ((M.ro (o _ (List.mem_of_getElem? t)).1).addr (i:=g - 1) (by omega)) (by omega)) (gw (vI ay) (dT n) (EY rfl (bZ.one Tryz.isAgg3 (((M.ro (o _ (List.mem_of_getElem? t)).1).elem iJ aF (by decide)).at_ (k:=0) rfl))) (Gz (.bool (decide (L≤ay))) (dT n) (gw (.bool (decide (L≤ay))) (cn r) (Fa rfl (dT n) rfl) (fw (.bool (decide (L≤ay))) (ES rfl (cn r) rfl) (nt ?_)))))
 by_cases aK:L≤ay
 refine jT (dT aK) (sr (An rfl (rt (bR (tR (tR (bR (bR (tR (tR (bR (tR (rs ?_)))))))))))))
 have dz:=M.pk []
 obtain rfl:_=false:=hr.symm.trans (et (iN G) (iZ (et (z) (et (congrArg (fun q=>dQ d q b) C) (et (iN l) (et (iN K) (et (ai J) (et (ip s) (et (iN X) (mX (et (Q) (et (congrArg (fun q=>fZ d b (az.abs a) q g) ae) (et (ai R) (et (ip r) (et (ip n) (et (ai (bI aF)) (ip aK)))))))))))))))))
 exact⟨rfl,dz⟩
 refine jF (dF aK) (Fs (bN (ER (EO (fw (vJ (g+1)) (EQ (e:=IntKind.i64.wrap (((g:Nat):Int)+1)) yk (by rw [IR _ (by omega)]; omega)) (Mz rfl (WL.nil ?_)))))))
 have dA:=M.pf []
 exact E8 (g+1) ⟨rfl,rfl,rfl,rfl,rfl,rfl,rfl,rfl,rfl,rfl,rfl,rfl,rfl,rfl,rfl,rfl,rfl,rfl,rfl,rfl,rfl,rfl,rfl,rfl,rfl,rfl,rfl,rfl,rfl,rfl,rfl,rfl,rfl,rfl,rfl,rfl,rfl,rfl,rfl,rfl,rfl,rfl,rfl,rfl,rfl,rfl,rfl,rfl,trivial⟩ (aa.2 ⟨dA,by omega,et (Q) (et (congrArg (fun q=>fZ d b (az.abs a) q g) ae) (et (ai R) (et (ip r) (et (ip n) (et (ai (bI aF)) (iN aK))))))⟩) (by show a.au.ls.length - (g+1) < a.au.ls.length - g; omega)
 refine Sz (dF n) (Sz (dF n) (Sz (dF n) (Sz (dF n) (Sz (dF n) (Sz (dF n) (Sz (dF n) (Sz (dF n) (gw (.bool false) (cn r) (ES rfl (dF n) rfl) (fw (.bool false) (ES rfl (cn r) rfl) (nt (jf (Fs (bN (ER (EO (fw (vJ (g+1)) (EQ (e:=IntKind.i64.wrap (((g:Nat):Int)+1)) yk (by rw [IR _ (by omega)]; omega)) (Mz rfl (WL.nil ?_))))))))))))))))))
 have dB:=M.pf []
 exact E8 (g+1) ⟨rfl,rfl,rfl,rfl,rfl,rfl,rfl,rfl,rfl,rfl,rfl,rfl,rfl,rfl,rfl,rfl,rfl,rfl,rfl,rfl,rfl,rfl,rfl,rfl,rfl,rfl,rfl,rfl,rfl,rfl,rfl,rfl,rfl,rfl,rfl,rfl,rfl,rfl,rfl,rfl,rfl,rfl,rfl,rfl,rfl,rfl,rfl,rfl,trivial⟩ (aa.2 ⟨dB,by omega,et (Q) (et (congrArg (fun q=>fZ d b (az.abs a) q g) ae) (et (ai R) (et (ip r) (iN n))))⟩) (by show a.au.ls.length - (g+1) < a.au.ls.length - g; omega)
 refine Sz (cn r) (Sz (cn r) (Sz (cn r) (FB rfl rfl rfl (FB rfl rfl rfl (FB rfl rfl rfl (FB rfl rfl rfl (FB rfl rfl rfl (FB rfl rfl rfl (FB rfl rfl rfl (FB rfl rfl rfl (Sz (cn r) (fw (.bool true) (Fa rfl (cn r) rfl) (nt (jt (sr (An rfl (rt (bR (tR (tR (bR (bR (tR (tR (bR (tR (rs ?_)))))))))))))))))))))))))))
 have dD:=M.pk []
 obtain rfl:_=false:=hr.symm.trans (et (iN G) (iZ (et (z) (et (congrArg (fun q=>dQ d q b) C) (et (iN l) (et (iN K) (et (ai J) (et (ip s) (et (iN X) (mX (et (Q) (et (congrArg (fun q=>fZ d b (az.abs a) q g) ae) (et (ai R) (fU r))))))))))))))
 exact⟨rfl,dD⟩
 refine jF (dF bi) (Wp.exit (EX ?_))
 have bL:fZ d b (az.abs a) a.au.ls 0=Sum.inl ():=et (Q) (et (congrArg (fun q=>fZ d b (az.abs a) q g) (eD (ls:=a.au.ls) (i:=g) (by omega))) rfl)
 refine EX (Fg (bN (ER (EO (fw (vJ (b+1)) (EQ (e:=IntKind.i64.wrap (((b:Nat):Int)+1)) yk (by rw [IR _ (by omega)]; omega)) (Mz rfl (WL.nil ?_)))))))
 have dE:=Y.pk [1]
 exact E8 (b+1) ⟨rfl,rfl,rfl,rfl,rfl,trivial⟩ (aG.2 ⟨dE,by omega,et (z) (et (congrArg (fun q=>dQ d q b) C) (et (iN l) (et (iN K) (et (ai J) (et (ip s) (et (iN X) (oK bL)))))))⟩) (by show d.aj.ls.length - (b+1) < d.aj.ls.length - b; omega)
 refine Sz (cn s) (Sz (cn s) (Sz (cn s) (Sz (cn s) (fw (.bool true) (Fa rfl (cn s) rfl) (nt (jt (sr (An rfl (rt (tR (bR (tR (tR (bR (tR (rs ?_))))))))))))))))
 have dG:=ax.pk []
 obtain rfl:_=false:=hr.symm.trans (et (iN G) (iZ (et (z) (et (congrArg (fun q=>dQ d q b) C) (et (iN l) (et (iN K) (et (ai J) (fU s))))))))
 exact⟨rfl,dG⟩
 refine jF (dF bQ) (Wp.exit (EX ?_))
 have bM:dQ d d.aj.ls 0=Sum.inl ():=et (z) (et (congrArg (fun q=>dQ d q b) (eD (ls:=d.aj.ls) (i:=b) (by omega))) rfl)
 refine EX (Fg (ER (sr (An rfl (rt (rs ?_))))))
 have dH:=aP.pk []
 obtain rfl:_=true:=hr.symm.trans (et (iN G) (nJ bM))
 exact⟨rfl,dH⟩
def gD:List aL→Unit ⊕ Bool
  | []=>Sum.inl ()
  | a::c=>bnd (gq a.cu) fun b=>if b=0 then if((a.aV.length:Nat):Int) > 16 then Sum.inr (false) else gD c else Sum.inr (false)
def j3 (a:aZ):Bool:=
 if((a.aV.length:Nat):Int) > 16 then false else if((a.av.ls.length:Nat):Int) > 4 then false else lp (gD a.av.ls) fun _=>true
theorem qw (w:World) (D:Nat→Prop) (a:aZ) (f:Option Addr) (x h:Nat) (X:Bool) (H:Own w D w []) (B:x=a.av.ls.length) (j:Ro w D fun w'=>bD w' 2 f a.av.ls.length (List.flatMap aL.cells a.av.ls)) (N:a.av.ls.length≤h∧a.av.ls.length≤9223372036854775807) (hr:j3 a=X):
    Calls Tryz.prog 73 #[.agg #[.bool a.dZ, .string ⟨List.toArray a.aV⟩, .slice f x h]] w (dW fun v w'=>v= .bool X∧Own w D w' []):=by
 subst B
 refine cb Tryz.func73 ?_
 refine sr ?_
 refine dP [.bool a.dZ, .string ⟨List.toArray a.aV⟩, .slice f a.av.ls.length h] 149 H ?_
 intro C ae m
 refine An rfl (EP (sr (Kz (vP C 1) (Lz (.string ⟨List.toArray a.aV⟩) m 0 Tryz.isAgg9 (Kz (vJ a.aV.length) (Kz (.bool (decide (((a.aV.length:Nat):Int) > 16))) (Mz rfl ?_)))))))
 by_cases b:((a.aV.length:Nat):Int) > 16
 refine Sz (dT b) (Sz (dT b) (Sz (dT b) (Sz (dT b) (fw (.bool true) (Fa rfl (dT b) rfl) (nt (jt (sr (An rfl (rt (tR (rs ?_)))))))))))
 have O:=m.pk []
 obtain rfl:_=false:=hr.symm.trans (ip b)
 exact⟨rfl,O⟩
 refine Gz (vP C 2) (dF b) (Gl (.slice f a.av.ls.length h) (dF b) m 0 Tryz.isAgg147 (Gz (vJ a.av.ls.length) (dF b) (Gz (.bool (decide (((a.av.ls.length:Nat):Int) > 4))) (dF b) (fw (.bool (decide (((a.av.ls.length:Nat):Int) > 4))) (ES rfl (dF b) rfl) (nt ?_)))))
 by_cases n:((a.av.ls.length:Nat):Int) > 4
 refine jT (dT n) (sr (An rfl (rt (tR (rs ?_)))))
 have P:=m.pk []
 obtain rfl:_=false:=hr.symm.trans (et (iN b) (ip n))
 exact⟨rfl,P⟩
 refine jF (dF n) (sk (EP (sr (Kz (vP C 2) (Lz (.slice f a.av.ls.length h) m 0 Tryz.isAgg147 (Kz (vJ a.av.ls.length) (Mn rfl (bo ?_))))))))
 have Q:=m.pk []
 obtain⟨R,p⟩:=l8 fun(c:Nat) (w':World)=>Own w D w' []∧c≤a.av.ls.length∧gD a.av.ls=gD (List.drop c a.av.ls)
 refine Wp.loop (fun i:Nat=> [(2, .bool false),(18,vJ i),(17,vJ a.av.ls.length),(16, .slice f a.av.ls.length h)]) R (fun i=>a.av.ls.length - i) 0 ⟨rfl,rfl,rfl,rfl,trivial⟩ (p.2 ⟨Q,by omega,rfl⟩) ?_
 rintro c af E
 show Wp _ _ _ [(2, .bool false),(18,vJ c),(17,vJ a.av.ls.length),(16, .slice f a.av.ls.length h)] _ _
 obtain⟨r,Y,k⟩:=p.1 E
 refine sr (Kz (.bool (decide (((c:Nat):Int) < ((a.av.ls.length:Nat):Int)))) (nt (EP ?_)))
 by_cases F:((c:Nat):Int) < ((a.av.ls.length:Nat):Int)
 obtain⟨d,y⟩:=dK (ls:=a.av.ls) (i:=c) aL.len (by decide) (r.ro j) (by first | omega | (simp; done) | (simp; omega))
 have s:=drop_at y
 refine jT (dT F) (sk (EP (bo (sr (fw (.pointer (some ⟨ab f,ao f+c *2,none⟩)) (ET (jL) rfl rfl ((r.ro j).addr (i:=c) (by omega)) (by omega)) (fw (.agg (aL.cells d).toArray) (EY rfl (Fb (cs:=(aL.cells d)) Tryz.isAgg153 Tryz.sizeOf153 ((r.ro j).elem aL.len y (by decide)))) ?_))))))
 refine dP [.string ⟨List.toArray ([])⟩, .string ⟨List.toArray ([])⟩] 153 r ?_
 intro G ag S
 refine dO (aL.cells d) 0 S Tryz.sizeOf153 ?_
 intro ah I
 refine ns (Kz (vP G 0) (Lz (.string ⟨List.toArray d.cu⟩) I 0 Tryz.isAgg9 ?_))
 obtain⟨o,l⟩:∃ q,gq d.cu=q:=⟨_,rfl⟩
 obtain⟨aj,J,Z,K,aa⟩:=EU I
 refine cl Tryz.call112 (jZ _ _ d.cu o J l) ?_
 rintro _ ak ⟨rfl,L,z,A⟩
 have t:=K _ _ L
 replace z: ¬ (o=0)∨(1≤d.cu.length∧d.cu.length≤12):=z
 replace A:d.cu.length < 1∨d.cu.length > 12∨o=0:=A
 refine fw (.bool (decide (¬ (o=0)))) (Fq (e:= !(decide (o=0))) yk decide_not.symm) (Mz rfl ?_)
 by_cases g:o=0
 refine gw (vP G 1) (dF (IV g)) yk (gw (.string ⟨List.toArray d.aV⟩) (dF (IV g)) (EY rfl (bZ.one Tryz.isAgg9 (FE (t.cls (i:=0) rfl) rfl))) (gw (vJ d.aV.length) (dF (IV g)) yk (gw (.bool (decide (((d.aV.length:Nat):Int) > 16))) (dF (IV g)) yk (fw (.bool (decide (((d.aV.length:Nat):Int) > 16))) (ES rfl (dF (IV g)) rfl) (nt ?_)))))
 by_cases u:((d.aV.length:Nat):Int) > 16
 refine jT (dT u) (sr (An rfl (rt (bR (tR (tR (bR (tR (rs ?_)))))))))
 have T:=t.pk []
 obtain rfl:_=false:=hr.symm.trans (et (iN b) (et (iN n) (iZ (et (k) (et (congrArg (fun q=>gD q) s) (et (ai l) (et (ip g) (ip u))))))))
 exact⟨rfl,T⟩
 refine jF (dF u) (Fs (bN (ER (EO (fw (vJ (c+1)) (EQ (e:=IntKind.i64.wrap (((c:Nat):Int)+1)) yk (by rw [IR _ (by omega)]; omega)) (Mz rfl (WL.nil ?_)))))))
 have U:=t.pk []
 exact E8 (c+1) ⟨rfl,rfl,rfl,rfl,trivial⟩ (p.2 ⟨U,by omega,et (k) (et (congrArg (fun q=>gD q) s) (et (ai l) (et (ip g) (iN u))))⟩) (by show a.av.ls.length - (c+1) < a.av.ls.length - c; omega)
 refine Sz (dT g) (Sz (dT g) (Sz (dT g) (Sz (dT g) (fw (.bool true) (Fa rfl (dT g) rfl) (nt (jt (sr (An rfl (rt (bR (tR (tR (bR (tR (rs ?_)))))))))))))))
 have V:=t.pk []
 obtain rfl:_=false:=hr.symm.trans (et (iN b) (et (iN n) (iZ (et (k) (et (congrArg (fun q=>gD q) s) (et (ai l) (iN g)))))))
 exact⟨rfl,V⟩
 refine jF (dF F) (Wp.exit (EX ?_))
 have M:gD a.av.ls=Sum.inl ():=et (k) (et (congrArg (fun q=>gD q) (eD (ls:=a.av.ls) (i:=c) (by omega))) rfl)
 refine EX (Fg (ER (sr (An rfl (rt (rs ?_))))))
 have W:=r.pk []
 obtain rfl:_=true:=hr.symm.trans (et (iN b) (et (iN n) (nJ M)))
 exact⟨rfl,W⟩
def fP (e:Nat) (c:fG):Nat→Nat→Unit ⊕ Bool
  | 0,b=>Sum.inl ()
  | f+1,b=>bnd (List.getD c.ah.ls b default) fun a=>bnd (j3 (aZ.mk a.dZ a.aV (Ll.mk a.av.ls))) fun d=>if d=true then fP e c f (b+1) else Sum.inr (false)
def iX (f:Nat) (d:fG):Nat→Nat→Unit ⊕ Bool
  | 0,b=>Sum.inl ()
  | e+1,b=>bnd (List.getD d.ah.ls b default) fun a=>bnd (j3 (aZ.mk a.dZ a.aV (Ll.mk a.av.ls))) fun c=>if c=true then iX f d e (b+1) else Sum.inr (false)
def fF (l0:List fG):List fG→Nat→Unit ⊕ Bool
  | [],b=>Sum.inl ()
  | a::c,b=>bnd (iK a.aQ 4) fun d=>if d=true then if((b:Nat):Int) > 0 then bnd (List.getD l0 (b - 1) default) fun e=>if a.aQ≤e.aQ then Sum.inr (false) else if((a.ah.ls.length:Nat):Int) > 4 then Sum.inr (false) else qQ (fP b a a.ah.ls.length 0) fun _=>fF l0 c (b+1) else if((a.ah.ls.length:Nat):Int) > 4 then Sum.inr (false) else qQ (iX b a a.ah.ls.length 0) fun _=>fF l0 c (b+1) else Sum.inr (false)
def oL (l0:List fG):Bool:=
 if((l0.length:Nat):Int) > 4 then false else lp (fF l0 l0 0) fun _=>true
theorem vT (w:World) (D:Nat→Prop) (o:Option Addr) (n0 K:Nat) (d0:List aX) (l0:List fG) (r0:Bool) (H:Own w D w []) (av:List.map aX.abs d0=l0) (R:Ro w D fun w'=>bD w' 4 o n0 (List.flatMap aX.cells d0)) (B:∀ x ∈ d0,Ro w D (fun w'=>bD w' 3 x.ah.A x.ah.ls.length (List.flatMap af.cells x.ah.ls))∧(x.ah.ls.length≤x.ah.c∧x.ah.ls.length≤9223372036854775807)∧(∀ y1 ∈ x.ah.ls,Ro w D (fun w'=>bD w' 2 y1.av.A y1.av.ls.length (List.flatMap aL.cells y1.av.ls))∧(y1.av.ls.length≤y1.av.c∧y1.av.ls.length≤9223372036854775807))) (bG:n0=l0.length) (dG:l0.length≤9223372036854775807) (hr:oL l0=r0):
    Calls Tryz.prog 43 #[.slice o n0 K] w (dW fun v w'=>v= .bool r0∧Own w D w' []):=by
 subst bG
 have cB:=aA av
 refine cb Tryz.func43 ?_
 refine sr (An rfl (EP (sr (Mz rfl (Kz (vJ l0.length) (Kz (.bool (decide (((l0.length:Nat):Int) > 4))) (nt ?_)))))))
 by_cases C:((l0.length:Nat):Int) > 4
 refine jT (dT C) (sr (An rfl (rt (tR (rs ?_)))))
 have bH:=H.pk []
 obtain rfl:_=false:=hr.symm.trans (ip C)
 exact⟨rfl,bH⟩
 refine jF (dF C) (sk (EP (sr (Mz rfl (Kz (vJ l0.length) (Mn rfl (bo ?_)))))))
 have bJ:=H.pk []
 obtain⟨bK,O⟩:=l8 fun(b:Nat) (w':World)=>Own w D w' []∧b≤l0.length∧fF l0 l0 0=fF l0 (List.drop b l0) b
 refine Wp.loop (fun i:Nat=> [(2, .bool false),(12,vJ i),(11,vJ l0.length),(10, .slice o l0.length K),(0, .slice o l0.length K)]) bK (fun i=>l0.length - i) 0 ⟨rfl,rfl,rfl,rfl,rfl,trivial⟩ (O.2 ⟨bJ,by omega,rfl⟩) ?_
 rintro b dH aK
 show Wp _ _ _ [(2, .bool false),(12,vJ b),(11,vJ l0.length),(10, .slice o l0.length K),(0, .slice o l0.length K)] _ _
 obtain⟨S,cK,t⟩:=O.1 aK
 refine sr (Kz (.bool (decide (((b:Nat):Int) < ((l0.length:Nat):Int)))) (nt (EP ?_)))
 by_cases aM:((b:Nat):Int) < ((l0.length:Nat):Int)
 obtain⟨a,m⟩:=dK (ls:=d0) (i:=b) aX.len (by decide) (S.ro R) (by first | omega | (simp; done) | (simp; omega))
 have aN:=eQ av m
 have cO:=(B _ (List.mem_of_getElem? m)).2.1
 have cZ:List.length (List.map af.abs a.ah.ls)=a.ah.ls.length:=List.length_map ..
 have z:=drop_at aN
 refine jT (dT aM) (sk (EP (bo (sr (Mz rfl (fw (.pointer (some ⟨ab o,ao o+b *4,none⟩)) (ET (lI) rfl rfl ((S.ro R).addr (i:=b) (by omega)) (by omega)) (fw (.agg (aX.cells a).toArray) (EY rfl (Fb (cs:=(aX.cells a)) Tryz.isAgg56 Tryz.sizeOf56 ((S.ro R).elem aX.len m (by decide)))) ?_)))))))
 refine dP [vI 0, .int .u64 0, .int .u64 0, .slice none 0 0] 56 S ?_
 intro g dI bL
 refine Az rfl ?_
 refine dO (aX.cells a) 0 bL Tryz.sizeOf56 ?_
 intro dJ bM
 refine nt (EP (EP ?_))
 refine uE [] (E9 (E9 (bS.block (E9 (E9 (bS.block (E9 Fp))))))) bM ?_
 intro dL bO
 refine qp g 0 0 rfl (ql 1 rfl 0 Tryz.isAgg3 rfl rfl rfl ?_)
 obtain⟨s,u⟩:∃ q,iK a.aQ 4=q:=⟨_,rfl⟩
 obtain⟨dM,aO,df,aP,dh⟩:=EU bO
 refine qd 2 rfl (Fe Tryz.call40 rfl (lK _ _ a.aQ 4 s aO u) ?_)
 rintro _ dN ⟨rfl,aQ⟩
 have E:=aP _ _ aQ
 refine⟨.inr ⟨_,E⟩, ?_⟩
 refine qk (.bool (!s)) 3 rfl (qv 4 rfl rfl ?_)
 rcases IW (s) with j | j
 refine EZ (v:=vJ b) (rs:= []) 5 rfl rfl rfl (cn j) (by kernel_rfl) (fun _ _=>E5 rfl) (EZ (v:= .bool (decide (((b:Nat):Int) > 0))) (rs:= []) 6 rfl rfl rfl (cn j) (by kernel_rfl) (fun _ _=>yk) (EZ (v:= .bool (decide (((b:Nat):Int) > 0))) (rs:= []) 7 rfl rfl rfl (cn j) (by kernel_rfl) (fun _ _=>E5 rfl) ?_))
 by_cases f:((b:Nat):Int) > 0
 refine EZ (v:=vP g 0) (rs:= []) 8 rfl rfl rfl (dT f) (by kernel_rfl) (fun _ _=>yk) (EZ (v:=vI a.aQ) (rs:= []) 9 rfl rfl rfl (dT f) (by kernel_rfl) (fun _ ⟨_,H9⟩=>EY rfl (bZ.one Tryz.isAgg3 (FE (H9.cls (i:=0) rfl) rfl))) (EZ (v:= .slice o l0.length K) (rs:= []) 10 rfl rfl rfl (dT f) (by kernel_rfl) (fun _ _=>E5 rfl) (EZ (v:=vJ b) (rs:= []) 11 rfl rfl rfl (dT f) (by kernel_rfl) (fun _ _=>E5 rfl) (EZ (v:=vJ (b - 1)) (rs:= []) 12 rfl rfl rfl (dT f) (by kernel_rfl) (fun _ _=>EQ (e:=IntKind.i64.wrap (((b:Nat):Int) - 1)) yk (by rw [IR _ (by omega)]; omega)) ?_))))
 obtain⟨p,T⟩:=jl (ls:=d0) (i:=b - 1) (by first | omega | (simp; done) | (simp; omega))
 have P:=eQ av T
 have di:=(B _ (List.mem_of_getElem? T)).2.1
 have dm:List.length (List.map af.abs p.ah.ls)=p.ah.ls.length:=List.length_map ..
 refine EZ (v:= .pointer (some ⟨ab o,ao o+(b - 1) *4,none⟩)) (rs:= []) 13 rfl rfl rfl (dT f) (by kernel_rfl) (fun _ ⟨_,H9⟩=>ET (lI) rfl rfl ((H9.ro R).addr (i:=b - 1) (by omega)) (by omega)) (EZ (v:= .pointer (some ⟨ab o,ao o+(b - 1) *4,none⟩)) (rs:= []) 14 rfl rfl rfl (dT f) (by kernel_rfl) (fun _ _=>yk) (EZ (v:=vI p.aQ) (rs:= []) 15 rfl rfl rfl (dT f) (by kernel_rfl) (fun _ ⟨_,H9⟩=>EY rfl (bZ.one Tryz.isAgg3 (((H9.ro R).elem aX.len T (by decide)).at_ (k:=0) rfl))) (EZ (v:= .bool (decide (a.aQ≤p.aQ))) (rs:= []) 16 rfl rfl rfl (dT f) (by kernel_rfl) (fun _ _=>yk) (EZ (v:= .bool (decide (a.aQ≤p.aQ))) (rs:= []) 17 rfl rfl rfl (cn j) (by kernel_rfl) (fun _ _=>Fa rfl (dT f) rfl) (qt (v:= .bool (decide (a.aQ≤p.aQ))) 18 rfl (fun _ _=>ES rfl (cn j) rfl) (qv 19 rfl rfl ?_))))))
 by_cases y:a.aQ≤p.aQ
 refine EW (rs:= []) 20 rfl rfl rfl (dT y) (by kernel_rfl) (EW (rs:= []) 21 rfl rfl rfl (dT y) (by kernel_rfl) (EW (rs:= []) 22 rfl rfl rfl (dT y) (by kernel_rfl) (EW (rs:= []) 23 rfl rfl rfl (dT y) (by kernel_rfl) (qt (v:= .bool true) 24 rfl (fun _ _=>Fa rfl (dT y) rfl) (qn (ER (jt (sr (An rfl (rt (tR (bR (tR (tR (bR (tR (rs ?_)))))))))))))))))
 have bP:=E.pk []
 obtain rfl:_=false:=hr.symm.trans (et (iN C) (iZ (et (t) (et (congrArg (fun q=>fF l0 q b) z) (et (ai u) (et (ip j) (et (ip f) (et (ai (bI P)) (ip y)))))))))
 exact⟨rfl,bP⟩
 refine EZ (v:=vP g 3) (rs:= []) 20 rfl rfl rfl (dF y) (by kernel_rfl) (fun _ _=>yk) (EZ (v:= .slice a.ah.A a.ah.ls.length a.ah.c) (rs:= []) 21 rfl rfl rfl (dF y) (by kernel_rfl) (fun _ ⟨_,H9⟩=>EY rfl (bZ.one Tryz.isAgg40 (FE (H9.cls (i:=0) rfl) rfl))) (EZ (v:=vJ (List.length (List.map af.abs a.ah.ls))) (rs:= []) 22 rfl rfl rfl (dF y) (by kernel_rfl) (fun _ _=>EQ (e:=((a.ah.ls.length:Nat):Int)) yk (by rw [List.length_map])) (EZ (v:= .bool (decide (((List.length (List.map af.abs a.ah.ls):Nat):Int) > 4))) (rs:= []) 23 rfl rfl rfl (dF y) (by kernel_rfl) (fun _ _=>yk) (qt (v:= .bool (decide (((List.length (List.map af.abs a.ah.ls):Nat):Int) > 4))) 24 rfl (fun _ _=>ES rfl (dF y) rfl) (qn (ER ?_))))))
 by_cases U:((List.length (List.map af.abs a.ah.ls):Nat):Int) > 4
 refine jT (dT U) (sr (An rfl (rt (tR (bR (tR (tR (bR (tR (rs ?_))))))))))
 have bQ:=E.pk []
 obtain rfl:_=false:=hr.symm.trans (et (iN C) (iZ (et (t) (et (congrArg (fun q=>fF l0 q b) z) (et (ai u) (et (ip j) (et (ip f) (et (ai (bI P)) (et (iN y) (ip U))))))))))
 exact⟨rfl,bQ⟩
 refine jF (dF U) (sk (sr (Kz (vP g 3) (Lz (.slice a.ah.A a.ah.ls.length a.ah.c) E 0 Tryz.isAgg40 (fw (vJ (List.length (List.map af.abs a.ah.ls))) (EQ (e:=((a.ah.ls.length:Nat):Int)) yk (by rw [List.length_map])) (Mn rfl (bo ?_)))))))
 have bT:=E.pf []
 obtain⟨bU,V⟩:=l8 fun(l:Nat) (w':World)=>Own w D w' [blk g (aX.cells a) 56]∧l≤List.length (List.map af.abs a.ah.ls)∧fP b (aX.abs a) (List.length (List.map af.abs a.ah.ls)) 0=fP b (aX.abs a) ((List.length (List.map af.abs a.ah.ls)) - l) l
 refine Wp.loop (fun i:Nat=> [(2, .bool false),(45,vJ i),(44,vJ (List.length (List.map af.abs a.ah.ls))),(43, .slice a.ah.A a.ah.ls.length a.ah.c),(42,vP g 3),(41, .bool (decide (((List.length (List.map af.abs a.ah.ls):Nat):Int) > 4))),(40, .bool (decide (((List.length (List.map af.abs a.ah.ls):Nat):Int) > 4))),(39,vJ (List.length (List.map af.abs a.ah.ls))),(38, .slice a.ah.A a.ah.ls.length a.ah.c),(37,vP g 3),(36, .bool (decide (a.aQ≤p.aQ))),(35, .bool (decide (a.aQ≤p.aQ))),(34, .bool (decide (a.aQ≤p.aQ))),(33, .bool (decide (a.aQ≤p.aQ))),(32,vI p.aQ),(31, .pointer (some ⟨ab o,ao o+(b - 1) *4,none⟩)),(30, .pointer (some ⟨ab o,ao o+(b - 1) *4,none⟩)),(29,vJ (b - 1)),(28,vJ b),(27, .slice o l0.length K),(26,vI a.aQ),(25,vP g 0),(24, .bool (decide (((b:Nat):Int) > 0))),(23, .bool (decide (((b:Nat):Int) > 0))),(22,vJ b),(21, .bool (!s)),(20, .bool (!s)),(19, .bool s),(18,vI a.aQ),(17,vP g 0),(3,vJ b),(4,vP g 0),(16, .agg (aX.cells a).toArray),(15, .pointer (some ⟨ab o,ao o+b *4,none⟩)),(14,vJ b),(13, .bool (decide (((b:Nat):Int) < ((l0.length:Nat):Int)))),(12,vJ b),(11,vJ l0.length),(10, .slice o l0.length K),(0, .slice o l0.length K)]) bU (fun i=>(List.length (List.map af.abs a.ah.ls)) - i) 0 ⟨rfl,rfl,rfl,rfl,rfl,rfl,rfl,rfl,rfl,rfl,rfl,rfl,rfl,rfl,rfl,rfl,rfl,rfl,rfl,rfl,rfl,rfl,rfl,rfl,rfl,rfl,rfl,rfl,rfl,rfl,rfl,rfl,rfl,rfl,rfl,rfl,rfl,rfl,rfl,rfl,trivial⟩ (V.2 ⟨bT,by omega,rfl⟩) ?_
 rintro l dQ aR
 show Wp _ _ _ [(2, .bool false),(45,vJ l),(44,vJ (List.length (List.map af.abs a.ah.ls))),(43, .slice a.ah.A a.ah.ls.length a.ah.c),(42,vP g 3),(41, .bool (decide (((List.length (List.map af.abs a.ah.ls):Nat):Int) > 4))),(40, .bool (decide (((List.length (List.map af.abs a.ah.ls):Nat):Int) > 4))),(39,vJ (List.length (List.map af.abs a.ah.ls))),(38, .slice a.ah.A a.ah.ls.length a.ah.c),(37,vP g 3),(36, .bool (decide (a.aQ≤p.aQ))),(35, .bool (decide (a.aQ≤p.aQ))),(34, .bool (decide (a.aQ≤p.aQ))),(33, .bool (decide (a.aQ≤p.aQ))),(32,vI p.aQ),(31, .pointer (some ⟨ab o,ao o+(b - 1) *4,none⟩)),(30, .pointer (some ⟨ab o,ao o+(b - 1) *4,none⟩)),(29,vJ (b - 1)),(28,vJ b),(27, .slice o l0.length K),(26,vI a.aQ),(25,vP g 0),(24, .bool (decide (((b:Nat):Int) > 0))),(23, .bool (decide (((b:Nat):Int) > 0))),(22,vJ b),(21, .bool (!s)),(20, .bool (!s)),(19, .bool s),(18,vI a.aQ),(17,vP g 0),(3,vJ b),(4,vP g 0),(16, .agg (aX.cells a).toArray),(15, .pointer (some ⟨ab o,ao o+b *4,none⟩)),(14,vJ b),(13, .bool (decide (((b:Nat):Int) < ((l0.length:Nat):Int)))),(12,vJ b),(11,vJ l0.length),(10, .slice o l0.length K),(0, .slice o l0.length K)] _ _
 obtain⟨W,dn,X⟩:=V.1 aR
 refine sr (Kz (.bool (decide (((l:Nat):Int) < ((List.length (List.map af.abs a.ah.ls):Nat):Int)))) (nt (EP ?_)))
 by_cases aS:((l:Nat):Int) < ((List.length (List.map af.abs a.ah.ls):Nat):Int)
 refine jT (dT aS) (sk (EP (bo (sr ?_))))
 obtain⟨r,Q⟩:=dK (ls:=a.ah.ls) (i:=l) af.len (by decide) (W.ro (B _ (List.mem_of_getElem? m)).1) (by first | omega | (simp; done) | (simp; omega))
 have ah:=eQ (rfl:List.map af.abs a.ah.ls=List.map af.abs a.ah.ls) Q
 have dw:=((B _ (List.mem_of_getElem? m)).2.2 _ (List.mem_of_getElem? Q)).2
 refine fw (.pointer (some ⟨ab a.ah.A,ao a.ah.A+l *3,none⟩)) (ET (rf) rfl rfl ((W.ro (B _ (List.mem_of_getElem? m)).1).addr (i:=l) (by omega)) (by omega)) (fw (.agg (af.cells r).toArray) (EY rfl (Fb (cs:=(af.cells r)) Tryz.isAgg149 Tryz.sizeOf149 ((W.ro (B _ (List.mem_of_getElem? m)).1).elem af.len Q (by decide)))) ?_)
 refine dP [.bool false, .string ⟨List.toArray ([])⟩, .slice none 0 0] 149 W ?_
 intro dR dS bV
 refine dO (af.cells r) 0 bV Tryz.sizeOf149 ?_
 intro dU aT
 refine ns (La (af.cells r) aT 0 Tryz.isAgg149 Tryz.sizeOf149 ?_)
 obtain⟨ax,Y⟩:∃ q,j3 (aZ.mk r.dZ r.aV (Ll.mk r.av.ls))=q:=⟨_,rfl⟩
 obtain⟨dV,aU,aV,aW,dx⟩:=EU aT
 refine cl Tryz.call73 (qw _ _ (aZ.mk r.dZ r.aV (Ll.mk r.av.ls)) r.av.A r.av.ls.length r.av.c ax aU rfl (aV _ ((B _ (List.mem_of_getElem? m)).2.2 _ (List.mem_of_getElem? Q)).1) (show r.av.ls.length≤r.av.c∧r.av.ls.length≤9223372036854775807 from by omega) Y) ?_
 rintro _ dX ⟨rfl,aY⟩
 have bf:=aW _ _ aY
 refine Kz (.bool (!ax)) (nt ?_)
 rcases IW (ax) with Z | Z
 refine jF (cn Z) (Fs (bN (ER (EO (fw (vJ (l+1)) (EQ (e:=IntKind.i64.wrap (((l:Nat):Int)+1)) yk (by rw [IR _ (by omega)]; omega)) (Mz rfl (WL.nil ?_)))))))
 have bW:=bf.pk [1]
 exact E8 (l+1) ⟨rfl,rfl,rfl,rfl,rfl,rfl,rfl,rfl,rfl,rfl,rfl,rfl,rfl,rfl,rfl,rfl,rfl,rfl,rfl,rfl,rfl,rfl,rfl,rfl,rfl,rfl,rfl,rfl,rfl,rfl,rfl,rfl,rfl,rfl,rfl,rfl,rfl,rfl,rfl,rfl,trivial⟩ (V.2 ⟨bW,by omega,et (X) (et (congrArg (fun q=>fP b (aX.abs a) q l) (qR (n:=List.length (List.map af.abs a.ah.ls)) (i:=l) (by omega))) (et (ai (bI ah)) (et (ai Y) (ip Z))))⟩) (by show (List.length (List.map af.abs a.ah.ls)) - (l+1) < (List.length (List.map af.abs a.ah.ls)) - l; omega)
 refine jT (cn Z) (sr (An rfl (rt (bR (tR (tR (bR (bR (tR (tR (bR (tR (rs ?_)))))))))))))
 have bg:=bf.pk []
 obtain rfl:_=false:=hr.symm.trans (et (iN C) (iZ (et (t) (et (congrArg (fun q=>fF l0 q b) z) (et (ai u) (et (ip j) (et (ip f) (et (ai (bI P)) (et (iN y) (et (iN U) (mX (et (X) (et (congrArg (fun q=>fP b (aX.abs a) q l) (qR (n:=List.length (List.map af.abs a.ah.ls)) (i:=l) (by omega))) (et (ai (bI ah)) (et (ai Y) (fU Z))))))))))))))))
 exact⟨rfl,bg⟩
 refine jF (dF aS) (Wp.exit (EX ?_))
 have ay:fP b (aX.abs a) (List.length (List.map af.abs a.ah.ls)) 0=Sum.inl ():=et (X) (et (congrArg (fun q=>fP b (aX.abs a) q l) (vL (n:=List.length (List.map af.abs a.ah.ls)) (i:=l) (by omega))) rfl)
 refine EX (Fg (bN (ER (EO (fw (vJ (b+1)) (EQ (e:=IntKind.i64.wrap (((b:Nat):Int)+1)) yk (by rw [IR _ (by omega)]; omega)) (Mz rfl (WL.nil ?_)))))))
 have bi:=W.pk []
 exact E8 (b+1) ⟨rfl,rfl,rfl,rfl,rfl,trivial⟩ (O.2 ⟨bi,by omega,et (t) (et (congrArg (fun q=>fF l0 q b) z) (et (ai u) (et (ip j) (et (ip f) (et (ai (bI P)) (et (iN y) (et (iN U) (oK ay))))))))⟩) (by show l0.length - (b+1) < l0.length - b; omega)
 refine EW (rs:= []) 8 rfl rfl rfl (dF f) (by kernel_rfl) (EW (rs:= []) 9 rfl rfl rfl (dF f) (by kernel_rfl) (EW (rs:= []) 10 rfl rfl rfl (dF f) (by kernel_rfl) (EW (rs:= []) 11 rfl rfl rfl (dF f) (by kernel_rfl) (EW (rs:= []) 12 rfl rfl rfl (dF f) (by kernel_rfl) (EW (rs:= []) 13 rfl rfl rfl (dF f) (by kernel_rfl) (EW (rs:= []) 14 rfl rfl rfl (dF f) (by kernel_rfl) (EW (rs:= []) 15 rfl rfl rfl (dF f) (by kernel_rfl) (EW (rs:= []) 16 rfl rfl rfl (dF f) (by kernel_rfl) (EZ (v:= .bool false) (rs:= []) 17 rfl rfl rfl (cn j) (by kernel_rfl) (fun _ _=>ES rfl (dF f) rfl) (qt (v:= .bool false) 18 rfl (fun _ _=>ES rfl (cn j) rfl) (qv 19 rfl rfl (EZ (v:=vP g 3) (rs:= []) 20 rfl rfl rfl rfl (by kernel_rfl) (fun _ _=>yk) (EZ (v:= .slice a.ah.A a.ah.ls.length a.ah.c) (rs:= []) 21 rfl rfl rfl rfl (by kernel_rfl) (fun _ ⟨_,H9⟩=>EY rfl (bZ.one Tryz.isAgg40 (FE (H9.cls (i:=0) rfl) rfl))) (EZ (v:=vJ (List.length (List.map af.abs a.ah.ls))) (rs:= []) 22 rfl rfl rfl rfl (by kernel_rfl) (fun _ _=>EQ (e:=((a.ah.ls.length:Nat):Int)) yk (by rw [List.length_map])) (EZ (v:= .bool (decide (((List.length (List.map af.abs a.ah.ls):Nat):Int) > 4))) (rs:= []) 23 rfl rfl rfl rfl (by kernel_rfl) (fun _ _=>yk) (qt (v:= .bool (decide (((List.length (List.map af.abs a.ah.ls):Nat):Int) > 4))) 24 rfl (fun _ _=>ES rfl rfl rfl) (qn (ER ?_))))))))))))))))))
 by_cases G:((List.length (List.map af.abs a.ah.ls):Nat):Int) > 4
 refine jT (dT G) (sr (An rfl (rt (tR (bR (tR (tR (bR (tR (rs ?_))))))))))
 have bn:=E.pk []
 obtain rfl:_=false:=hr.symm.trans (et (iN C) (iZ (et (t) (et (congrArg (fun q=>fF l0 q b) z) (et (ai u) (et (ip j) (et (iN f) (ip G))))))))
 exact⟨rfl,bn⟩
 refine jF (dF G) (sk (sr (Kz (vP g 3) (Lz (.slice a.ah.A a.ah.ls.length a.ah.c) E 0 Tryz.isAgg40 (fw (vJ (List.length (List.map af.abs a.ah.ls))) (EQ (e:=((a.ah.ls.length:Nat):Int)) yk (by rw [List.length_map])) (Mn rfl (bo ?_)))))))
 have bq:=E.pf []
 obtain⟨bu,L⟩:=l8 fun(d:Nat) (w':World)=>Own w D w' [blk g (aX.cells a) 56]∧d≤List.length (List.map af.abs a.ah.ls)∧iX b (aX.abs a) (List.length (List.map af.abs a.ah.ls)) 0=iX b (aX.abs a) ((List.length (List.map af.abs a.ah.ls)) - d) d
 refine Wp.loop (fun i:Nat=> [(2, .bool false),(45,vJ i),(44,vJ (List.length (List.map af.abs a.ah.ls))),(43, .slice a.ah.A a.ah.ls.length a.ah.c),(42,vP g 3),(41, .bool (decide (((List.length (List.map af.abs a.ah.ls):Nat):Int) > 4))),(40, .bool (decide (((List.length (List.map af.abs a.ah.ls):Nat):Int) > 4))),(39,vJ (List.length (List.map af.abs a.ah.ls))),(38, .slice a.ah.A a.ah.ls.length a.ah.c),(37,vP g 3),(36, .bool false),(35, .bool false),(34, .bool false),(33,undef),(32,undef),(31,undef),(30,undef),(29,undef),(28,undef),(27,undef),(26,undef),(25,undef),(24, .bool (decide (((b:Nat):Int) > 0))),(23, .bool (decide (((b:Nat):Int) > 0))),(22,vJ b),(21, .bool (!s)),(20, .bool (!s)),(19, .bool s),(18,vI a.aQ),(17,vP g 0),(3,vJ b),(4,vP g 0),(16, .agg (aX.cells a).toArray),(15, .pointer (some ⟨ab o,ao o+b *4,none⟩)),(14,vJ b),(13, .bool (decide (((b:Nat):Int) < ((l0.length:Nat):Int)))),(12,vJ b),(11,vJ l0.length),(10, .slice o l0.length K),(0, .slice o l0.length K)]) bu (fun i=>(List.length (List.map af.abs a.ah.ls)) - i) 0 ⟨rfl,rfl,rfl,rfl,rfl,rfl,rfl,rfl,rfl,rfl,rfl,rfl,rfl,rfl,rfl,rfl,rfl,rfl,rfl,rfl,rfl,rfl,rfl,rfl,rfl,rfl,rfl,rfl,rfl,rfl,rfl,rfl,rfl,rfl,rfl,rfl,rfl,rfl,rfl,rfl,trivial⟩ (L.2 ⟨bq,by omega,rfl⟩) ?_
 rintro d dz az
 show Wp _ _ _ [(2, .bool false),(45,vJ d),(44,vJ (List.length (List.map af.abs a.ah.ls))),(43, .slice a.ah.A a.ah.ls.length a.ah.c),(42,vP g 3),(41, .bool (decide (((List.length (List.map af.abs a.ah.ls):Nat):Int) > 4))),(40, .bool (decide (((List.length (List.map af.abs a.ah.ls):Nat):Int) > 4))),(39,vJ (List.length (List.map af.abs a.ah.ls))),(38, .slice a.ah.A a.ah.ls.length a.ah.c),(37,vP g 3),(36, .bool false),(35, .bool false),(34, .bool false),(33,undef),(32,undef),(31,undef),(30,undef),(29,undef),(28,undef),(27,undef),(26,undef),(25,undef),(24, .bool (decide (((b:Nat):Int) > 0))),(23, .bool (decide (((b:Nat):Int) > 0))),(22,vJ b),(21, .bool (!s)),(20, .bool (!s)),(19, .bool s),(18,vI a.aQ),(17,vP g 0),(3,vJ b),(4,vP g 0),(16, .agg (aX.cells a).toArray),(15, .pointer (some ⟨ab o,ao o+b *4,none⟩)),(14,vJ b),(13, .bool (decide (((b:Nat):Int) < ((l0.length:Nat):Int)))),(12,vJ b),(11,vJ l0.length),(10, .slice o l0.length K),(0, .slice o l0.length K)] _ _
 obtain⟨I,bX,M⟩:=L.1 az
 refine sr (Kz (.bool (decide (((d:Nat):Int) < ((List.length (List.map af.abs a.ah.ls):Nat):Int)))) (nt (EP ?_)))
 by_cases aj:((d:Nat):Int) < ((List.length (List.map af.abs a.ah.ls):Nat):Int)
 refine jT (dT aj) (sk (EP (bo (sr ?_))))
 obtain⟨h,F⟩:=dK (ls:=a.ah.ls) (i:=d) af.len (by decide) (I.ro (B _ (List.mem_of_getElem? m)).1) (by first | omega | (simp; done) | (simp; omega))
 have aa:=eQ (rfl:List.map af.abs a.ah.ls=List.map af.abs a.ah.ls) F
 have bY:=((B _ (List.mem_of_getElem? m)).2.2 _ (List.mem_of_getElem? F)).2
 refine fw (.pointer (some ⟨ab a.ah.A,ao a.ah.A+d *3,none⟩)) (ET (rf) rfl rfl ((I.ro (B _ (List.mem_of_getElem? m)).1).addr (i:=d) (by omega)) (by omega)) (fw (.agg (af.cells h).toArray) (EY rfl (Fb (cs:=(af.cells h)) Tryz.isAgg149 Tryz.sizeOf149 ((I.ro (B _ (List.mem_of_getElem? m)).1).elem af.len F (by decide)))) ?_)
 refine dP [.bool false, .string ⟨List.toArray ([])⟩, .slice none 0 0] 149 I ?_
 intro dA dB bv
 refine dO (af.cells h) 0 bv Tryz.sizeOf149 ?_
 intro dC ak
 refine ns (La (af.cells h) ak 0 Tryz.isAgg149 Tryz.sizeOf149 ?_)
 obtain⟨ae,N⟩:∃ q,j3 (aZ.mk h.dZ h.aV (Ll.mk h.av.ls))=q:=⟨_,rfl⟩
 obtain⟨dD,aB,aC,aD,cu⟩:=EU ak
 refine cl Tryz.call73 (qw _ _ (aZ.mk h.dZ h.aV (Ll.mk h.av.ls)) h.av.A h.av.ls.length h.av.c ae aB rfl (aC _ ((B _ (List.mem_of_getElem? m)).2.2 _ (List.mem_of_getElem? F)).1) (show h.av.ls.length≤h.av.c∧h.av.ls.length≤9223372036854775807 from by omega) N) ?_
 rintro _ dE ⟨rfl,aF⟩
 have au:=aD _ _ aF
 refine Kz (.bool (!ae)) (nt ?_)
 rcases IW (ae) with J | J
 refine jF (cn J) (Fs (bN (ER (EO (fw (vJ (d+1)) (EQ (e:=IntKind.i64.wrap (((d:Nat):Int)+1)) yk (by rw [IR _ (by omega)]; omega)) (Mz rfl (WL.nil ?_)))))))
 have bz:=au.pk [1]
 exact E8 (d+1) ⟨rfl,rfl,rfl,rfl,rfl,rfl,rfl,rfl,rfl,rfl,rfl,rfl,rfl,rfl,rfl,rfl,rfl,rfl,rfl,rfl,rfl,rfl,rfl,rfl,rfl,rfl,rfl,rfl,rfl,rfl,rfl,rfl,rfl,rfl,rfl,rfl,rfl,rfl,rfl,rfl,trivial⟩ (L.2 ⟨bz,by omega,et (M) (et (congrArg (fun q=>iX b (aX.abs a) q d) (qR (n:=List.length (List.map af.abs a.ah.ls)) (i:=d) (by omega))) (et (ai (bI aa)) (et (ai N) (ip J))))⟩) (by show (List.length (List.map af.abs a.ah.ls)) - (d+1) < (List.length (List.map af.abs a.ah.ls)) - d; omega)
 refine jT (cn J) (sr (An rfl (rt (bR (tR (tR (bR (bR (tR (tR (bR (tR (rs ?_)))))))))))))
 have bA:=au.pk []
 obtain rfl:_=false:=hr.symm.trans (et (iN C) (iZ (et (t) (et (congrArg (fun q=>fF l0 q b) z) (et (ai u) (et (ip j) (et (iN f) (et (iN G) (mX (et (M) (et (congrArg (fun q=>iX b (aX.abs a) q d) (qR (n:=List.length (List.map af.abs a.ah.ls)) (i:=d) (by omega))) (et (ai (bI aa)) (et (ai N) (fU J))))))))))))))
 exact⟨rfl,bA⟩
 refine jF (dF aj) (Wp.exit (EX ?_))
 have aG:iX b (aX.abs a) (List.length (List.map af.abs a.ah.ls)) 0=Sum.inl ():=et (M) (et (congrArg (fun q=>iX b (aX.abs a) q d) (vL (n:=List.length (List.map af.abs a.ah.ls)) (i:=d) (by omega))) rfl)
 refine EX (Fg (bN (ER (EO (fw (vJ (b+1)) (EQ (e:=IntKind.i64.wrap (((b:Nat):Int)+1)) yk (by rw [IR _ (by omega)]; omega)) (Mz rfl (WL.nil ?_)))))))
 have bB:=I.pk []
 exact E8 (b+1) ⟨rfl,rfl,rfl,rfl,rfl,trivial⟩ (O.2 ⟨bB,by omega,et (t) (et (congrArg (fun q=>fF l0 q b) z) (et (ai u) (et (ip j) (et (iN f) (et (iN G) (oK aG))))))⟩) (by show l0.length - (b+1) < l0.length - b; omega)
 refine EW (rs:= []) 5 rfl rfl rfl (cn j) (by kernel_rfl) (EW (rs:= []) 6 rfl rfl rfl (cn j) (by kernel_rfl) (EW (rs:= []) 7 rfl rfl rfl (cn j) (by kernel_rfl) (FI (rs:= []) 8 rfl rfl rfl (by kernel_rfl) (FI (rs:= []) 9 rfl rfl rfl (by kernel_rfl) (FI (rs:= []) 10 rfl rfl rfl (by kernel_rfl) (FI (rs:= []) 11 rfl rfl rfl (by kernel_rfl) (FI (rs:= []) 12 rfl rfl rfl (by kernel_rfl) (FI (rs:= []) 13 rfl rfl rfl (by kernel_rfl) (FI (rs:= []) 14 rfl rfl rfl (by kernel_rfl) (FI (rs:= []) 15 rfl rfl rfl (by kernel_rfl) (FI (rs:= []) 16 rfl rfl rfl (by kernel_rfl) (EW (rs:= []) 17 rfl rfl rfl (cn j) (by kernel_rfl) (qt (v:= .bool true) 18 rfl (fun _ _=>Fa rfl (cn j) rfl) (qv 19 rfl rfl (EW (rs:= []) 20 rfl rfl rfl rfl (by kernel_rfl) (EW (rs:= []) 21 rfl rfl rfl rfl (by kernel_rfl) (EW (rs:= []) 22 rfl rfl rfl rfl (by kernel_rfl) (EW (rs:= []) 23 rfl rfl rfl rfl (by kernel_rfl) (qt (v:= .bool true) 24 rfl (fun _ _=>Fa rfl rfl rfl) (qn (ER (jt (sr (An rfl (rt (tR (bR (tR (tR (bR (tR (rs ?_))))))))))))))))))))))))))))))))
 have bC:=E.pk []
 obtain rfl:_=false:=hr.symm.trans (et (iN C) (iZ (et (t) (et (congrArg (fun q=>fF l0 q b) z) (et (ai u) (fU j))))))
 exact⟨rfl,bC⟩
 refine jF (dF aM) (Wp.exit (EX ?_))
 have aH:fF l0 l0 0=Sum.inl ():=et (t) (et (congrArg (fun q=>fF l0 q b) (eD (ls:=l0) (i:=b) (by omega))) rfl)
 refine EX (Fg (ER (sr (An rfl (rt (rs ?_))))))
 have bE:=S.pk []
 obtain rfl:_=true:=hr.symm.trans (et (iN C) (nJ aH))
 exact⟨rfl,bE⟩
def iO (a:Bool):Int:=
 if a=true then 0 else 1
theorem lV (w:World) (D:Nat→Prop) (b:Bool) (e:Int) (H:Own w D w []) (hr:iO b=e):
    Calls Tryz.prog 39 #[.bool b] w (dW fun v w'=>v=vI e∧Own w D w' []):=by
 refine cb Tryz.func39 ?_
 refine sr (An rfl (EP (sr (Mz rfl (Kz (.bool (!b)) (nt ?_))))))
 rcases IW (b) with a | a
 refine jF (cn a) (sk (sr (An rfl (rt (rs ?_)))))
 have c:=H.pk []
 obtain rfl:_=0:=hr.symm.trans (ip a)
 exact⟨rfl,c⟩
 refine jT (cn a) (sr (An rfl (rt (tR (rs ?_)))))
 have d:=H.pk []
 obtain rfl:_=1:=hr.symm.trans (fU a)
 exact⟨rfl,d⟩
def iY (c:dC):Int:=
 bnd (iK c.au 4) fun d=>if d=true then if((c.ay:Nat):Int) < 2147483648 then bnd (nM c) fun e=>if e=true then bnd (mY c) fun f=>if f=true then bnd (oL c.aG.ls) fun g=>bnd (iO g) fun h=>h else bnd (iO false) fun i=>i else bnd (iO false) fun j=>j else bnd (iO false) fun a=>a else bnd (iO false) fun b=>b
set_option maxHeartbeats 1000000 in
theorem nN (w:World) (D:Nat→Prop) (a:dC) (i:Option Addr) (P e:Nat) (j:Option Addr) (Q f:Nat) (z:List az) (g:Option Addr) (R d:Nat) (n:List aX) (r0:Int) (H:Own w D w []) (Z:P=a.ag.ls.length) (G:Ro w D fun w'=>bD w' 2 i a.ag.ls.length (List.flatMap bv.cells a.ag.ls)) (bI:a.ag.ls.length≤e∧a.ag.ls.length≤9223372036854775807) (B:List.map az.abs z=a.aj.ls) (aa:Q=a.aj.ls.length) (I:Ro w D fun w'=>bD w' 5 j a.aj.ls.length (List.flatMap az.cells z)) (bJ:a.aj.ls.length≤f∧a.aj.ls.length≤9223372036854775807) (u:∀ x ∈ z,Ro w D (fun w'=>bD w' 1 x.au.A x.au.ls.length (List.flatMap (eI .i64) x.au.ls))∧(x.au.ls.length≤x.au.c∧x.au.ls.length≤9223372036854775807)) (y:List.map aX.abs n=a.aG.ls) (ae:R=a.aG.ls.length) (C:Ro w D fun w'=>bD w' 4 g a.aG.ls.length (List.flatMap aX.cells n)) (bK:a.aG.ls.length≤d∧a.aG.ls.length≤9223372036854775807) (b:∀ x ∈ n,Ro w D (fun w'=>bD w' 3 x.ah.A x.ah.ls.length (List.flatMap af.cells x.ah.ls))∧(x.ah.ls.length≤x.ah.c∧x.ah.ls.length≤9223372036854775807)∧(∀ E ∈ x.ah.ls,Ro w D (fun w'=>bD w' 2 E.av.A E.av.ls.length (List.flatMap aL.cells E.av.ls))∧(E.av.ls.length≤E.av.c∧E.av.ls.length≤9223372036854775807))) (dw:a.ag.ls.length≤140737488355328∧a.aj.ls.length≤140737488355328∧a.aG.ls.length≤140737488355328) (hr:iY a=r0):
    Calls Tryz.prog 19 #[.agg #[vI a.au,vU a.ay,vU a.aY,vU a.aH, .slice i P e, .slice j Q f, .slice g R d]] w (dW fun v w'=>v=vI r0∧Own w D w' []):=by
 subst Z aa ae
 have bG:=aA B
 have bH:=aA y
 refine cb Tryz.func19 ?_
 refine sr ?_
 refine dP [vI a.au,vU a.ay,vU a.aY,vU a.aH, .slice i a.ag.ls.length e, .slice j a.aj.ls.length f, .slice g a.aG.ls.length d] 33 H ?_
 intro ag dx aF
 refine Ar rfl (Kz (vP ag 0) (Lz (vI a.au) aF 0 Tryz.isAgg3 ?_))
 obtain⟨aG,o⟩:∃ q,iK a.au 4=q:=⟨_,rfl⟩
 obtain⟨dz,aH,bW,aI,bX⟩:=EU aF
 refine cl Tryz.call40 (lK _ _ a.au 4 aG aH o) ?_
 rintro _ dA ⟨rfl,aJ⟩
 have J:=aI _ _ aJ
 refine Mz rfl ?_
 rcases IW (aG) with h | h
 refine Gz (vP ag 1) h (Gl (vU a.ay) h J 0 Tryz.isAgg28 (Gz (.bool (decide (((a.ay:Nat):Int) < 2147483648))) h (fw (.bool (decide (((a.ay:Nat):Int) < 2147483648))) (Fa rfl h rfl) (Mz rfl ?_))))
 by_cases l:((a.ay:Nat):Int) < 2147483648
 refine Ga ([vI a.au,vU a.ay,vU a.aY,vU a.aH, .slice i a.ag.ls.length e, .slice j a.aj.ls.length f, .slice g a.aG.ls.length d]) (dT l) J 0 Tryz.isAgg33 Tryz.sizeOf33 ?_
 obtain⟨ah,F⟩:∃ q,nM a=q:=⟨_,rfl⟩
 obtain⟨dB,aK,p,aM,bY⟩:=EU J
 refine uO (decide_eq_true l) Tryz.call41 (uI _ _ a i a.ag.ls.length e j a.aj.ls.length f z g a.aG.ls.length d n ah aK rfl (p _ G) (show a.ag.ls.length≤e∧a.ag.ls.length≤9223372036854775807 from by omega) B rfl (p _ I) (show a.aj.ls.length≤f∧a.aj.ls.length≤9223372036854775807 from by omega) (fun r s=>⟨p _ (u r s).1,(u r s).2⟩) y rfl (p _ C) (show a.aG.ls.length≤d∧a.aG.ls.length≤9223372036854775807 from by omega) (fun r s=>⟨p _ (b r s).1,(b r s).2.1,(fun E S=>⟨p _ ((b r s).2.2 E S).1,((b r s).2.2 E S).2⟩)⟩) (by first | omega | (dsimp only; omega) | (simp only [List.length_nil]; omega) | decide) F) ?_
 rintro _ dD ⟨rfl,aN⟩
 have aj:=aM _ _ aN
 refine fw (.bool ah) (Fa rfl (dT l) rfl) (Mz rfl ?_)
 rcases IW (ah) with m | m
 refine Ga ([vI a.au,vU a.ay,vU a.aY,vU a.aH, .slice i a.ag.ls.length e, .slice j a.aj.ls.length f, .slice g a.aG.ls.length d]) m aj 0 Tryz.isAgg33 Tryz.sizeOf33 ?_
 obtain⟨ak,K⟩:∃ q,mY a=q:=⟨_,rfl⟩
 obtain⟨dE,aO,t,aP,bZ⟩:=EU aj
 refine F7 rfl rfl m rfl (Fe Tryz.call42 rfl (uk _ _ a i a.ag.ls.length e j a.aj.ls.length f z g a.aG.ls.length d n ak aO rfl (t _ G) (show a.ag.ls.length≤e∧a.ag.ls.length≤9223372036854775807 from by omega) B rfl (t _ I) (show a.aj.ls.length≤f∧a.aj.ls.length≤9223372036854775807 from by omega) (fun r s=>⟨t _ (u r s).1,(u r s).2⟩) y rfl (t _ C) (show a.aG.ls.length≤d∧a.aG.ls.length≤9223372036854775807 from by omega) (fun r s=>⟨t _ (b r s).1,(b r s).2.1,(fun E S=>⟨t _ ((b r s).2.2 E S).1,((b r s).2.2 E S).2⟩)⟩) (by first | omega | (dsimp only; omega) | (simp only [List.length_nil]; omega) | decide) K) ?_)
 rintro _ dG ⟨rfl,aQ⟩
 have au:=aP _ _ aQ
 refine fw (.bool ak) (Fa rfl m rfl) (Mz rfl ?_)
 rcases IW (ak) with k | k
 refine Gz (vP ag 6) k (Gl (.slice g a.aG.ls.length d) k au 0 Tryz.isAgg31 ?_)
 obtain⟨O,T⟩:∃ q,oL a.aG.ls=q:=⟨_,rfl⟩
 obtain⟨dH,aR,L,aS,cu⟩:=EU au
 refine F7 rfl rfl k rfl (Fe Tryz.call43 rfl (vT _ _ g a.aG.ls.length d n a.aG.ls O aR y (L _ C) (fun r s=>⟨L _ (b r s).1,(b r s).2.1,(fun E S=>⟨L _ ((b r s).2.2 E S).1,((b r s).2.2 E S).2⟩)⟩) rfl (by omega) T) ?_)
 rintro _ dI ⟨rfl,aT⟩
 have bL:=aS _ _ aT
 refine fw (.bool O) (Fa rfl k rfl) ?_
 obtain⟨aU,U⟩:∃ q,iO O=q:=⟨_,rfl⟩
 obtain⟨dJ,aV,cz,aW,cB⟩:=EU bL
 refine cl Tryz.call39 (lV _ _ O aU aV U) ?_
 rintro _ dK ⟨rfl,aY⟩
 have bM:=aW _ _ aY
 refine An rfl (rt (rs ?_))
 have bN:=bM.pk []
 obtain rfl:_=aU:=hr.symm.trans (et (ai o) (et (ip h) (et (ip l) (et (ai F) (et (ip m) (et (ai K) (et (ip k) (et (ai T) (ai U)))))))))
 exact⟨rfl,bN⟩
 refine Sz k (Sz k (Sz k (fw (.bool false) (ES rfl k rfl) ?_)))
 obtain⟨aZ,V⟩:∃ q,iO false=q:=⟨_,rfl⟩
 obtain⟨dL,bf,cK,bg,cO⟩:=EU au
 refine cl Tryz.call39 (lV _ _ false aZ bf V) ?_
 rintro _ dM ⟨rfl,bi⟩
 have bO:=bg _ _ bi
 refine An rfl (rt (rs ?_))
 have bP:=bO.pk []
 obtain rfl:_=aZ:=hr.symm.trans (et (ai o) (et (ip h) (et (ip l) (et (ai F) (et (ip m) (et (ai K) (et (fU k) (ai V))))))))
 exact⟨rfl,bP⟩
 refine Sz m (Sz m (fw (.bool false) (ES rfl m rfl) (Mz rfl (Sz rfl (Sz rfl (Sz rfl (fw (.bool false) (ES rfl rfl rfl) ?_)))))))
 obtain⟨bn,W⟩:∃ q,iO false=q:=⟨_,rfl⟩
 obtain⟨dN,bq,cZ,bu,df⟩:=EU aj
 refine cl Tryz.call39 (lV _ _ false bn bq W) ?_
 rintro _ dO ⟨rfl,bz⟩
 have bQ:=bu _ _ bz
 refine An rfl (rt (rs ?_))
 have bA:=bQ.pk []
 obtain rfl:_=bn:=hr.symm.trans (et (ai o) (et (ip h) (et (ip l) (et (ai F) (et (fU m) (ai W))))))
 exact⟨rfl,bA⟩
 refine Sz (dF l) (Sz (dF l) (fw (.bool false) (ES rfl (dF l) rfl) (Mz rfl (Sz rfl (Sz rfl (fw (.bool false) (ES rfl rfl rfl) (Mz rfl (Sz rfl (Sz rfl (Sz rfl (fw (.bool false) (ES rfl rfl rfl) ?_)))))))))))
 obtain⟨X,M⟩:∃ q,iO false=q:=⟨_,rfl⟩
 obtain⟨dh,av,bR,ax,bS⟩:=EU J
 refine cl Tryz.call39 (lV _ _ false X av M) ?_
 rintro _ di ⟨rfl,ay⟩
 have bB:=ax _ _ ay
 refine An rfl (rt (rs ?_))
 have bC:=bB.pk []
 obtain rfl:_=X:=hr.symm.trans (et (ai o) (et (ip h) (et (iN l) (ai M))))
 exact⟨rfl,bC⟩
 refine Sz h (Sz h (Sz h (fw (.bool false) (ES rfl h rfl) (Mz rfl (Sz rfl (Sz rfl (fw (.bool false) (ES rfl rfl rfl) (Mz rfl (Sz rfl (Sz rfl (fw (.bool false) (ES rfl rfl rfl) (Mz rfl (Sz rfl (Sz rfl (Sz rfl (fw (.bool false) (ES rfl rfl rfl) ?_))))))))))))))))
 obtain⟨Y,N⟩:∃ q,iO false=q:=⟨_,rfl⟩
 obtain⟨dm,aB,bT,aC,bU⟩:=EU J
 refine cl Tryz.call39 (lV _ _ false Y aB N) ?_
 rintro _ dn ⟨rfl,aD⟩
 have bE:=aC _ _ aD
 refine An rfl (rt (rs ?_))
 have bF:=bE.pk []
 obtain rfl:_=Y:=hr.symm.trans (et (ai o) (et (fU h) (ai N)))
 exact⟨rfl,bF⟩
end Go.Proofs.YtbkagebjhbphaaaGreat
