/-
 record: the layers below; which states may be.
-/
import Derived.Test.YtbkagebjhbphaaaGreatKx
import Derived.Test.YtbkagebjhbphaaaGreatKl
import Derived.Test.YtbkagebjhbphaaaGreatWiX
import Derived.Test.YtbkagebjhbphaaaGreatKi
namespace Go.Proofs.YtbkagebjhbphaaaGreat
open Int renaming toNat→C6
open IntKind renaming i64→C3,u64→C7
open List renaming drop→r4,flatMap→q4,getD→B8,length→s0,length_map→s3,map→s5,mem_cons→u2,mem_of_getElem?→D1,not_mem_nil→v7,toArray→v6
open Ll renaming mk→E0
open Nat renaming le_refl→o4
open Sum renaming inl→B7,inr→B9
open _root_.Go.Proofs.Tryz renaming call39→E4,call40→D3,isAgg149→E2,isAgg28→D2,isAgg3→C2,isAgg30→D0,isAgg40→E1,isAgg58→D4,isAgg9→C0,prog→v5,sizeOf149→E3,underlying147→B1,underlying28→B5,underlying29→B3,underlying3→v8,underlying30→B6,underlying31→B4,underlying40→y6,underlying58→y4,underlying9→v9
open WL renaming nil→C4
open Wp renaming exit→C5,loop→C1
set_option maxRecDepth 100000
open Go.RowKit
set_option linter.unusedVariables false
set_option linter.unusedSectionVars false
set_option linter.unusedSimpArgs false
theorem mG:Elem v5 39 72 6 80:=kT (z:= .agg #[.int .i64 0, .string ⟨v6 ([])⟩, .string ⟨v6 ([])⟩, .string ⟨v6 ([])⟩, .string ⟨v6 ([])⟩, .int .i64 0]) Tryz.underlying39 e7 rfl f2
structure aN where
 av:Int
 aZ:List UInt8
 aG:List UInt8
 aJ:List UInt8
 aR:List UInt8
 aV:Int
def aN.cells (x:aN):List Value:= [.int .i64 x.av, .string ⟨v6 x.aZ⟩, .string ⟨v6 x.aG⟩, .string ⟨v6 x.aJ⟩, .string ⟨v6 x.aR⟩, .int .i64 x.aV]
instance:Bk aN:=⟨fun x _=>bk x.av+(bk x.aZ+(bk x.aG+(bk x.aJ+(bk x.aR+(bk x.aV+(0))))))⟩
theorem aN.len:∀ x,(aN.cells x).length=6:=fun _=>rfl
theorem aN.one:∀ x, ∀ u ∈ aN.cells x,u.oneCell'=true:=fun x u hu=>by
 simp only [aN.cells,u2,v7,or_false] at hu
 rcases hu with rfl | rfl | rfl | rfl | rfl | rfl <;> rfl
def JF (w:World) (x:aN):Prop:=((-9223372036854775808)≤x.av∧x.av≤9223372036854775807)∧(x.aZ.length≤140737488351232)∧(x.aG.length≤140737488351232)∧(x.aJ.length≤140737488351232)∧(x.aR.length≤140737488351232)∧((-9223372036854775808)≤x.aV∧x.aV≤9223372036854775807)
theorem Dh (w:World):ky v5 w 72 6 aN.cells (JF w):=
 (mQ (sz:=6) Tryz.underlying72 e7 (gH.cons (i:=0) (off:=0) (s:=1) rfl rfl (o8 (k:= .i64) (lo:= -9223372036854775808) (hi:=9223372036854775807) v8 e7 f2 f2) (gH.cons (i:=1) (off:=1) (s:=1) rfl rfl (lU v9 e7) (gH.cons (i:=2) (off:=2) (s:=1) rfl rfl (lU v9 e7) (gH.cons (i:=3) (off:=3) (s:=1) rfl rfl (lU v9 e7) (gH.cons (i:=4) (off:=4) (s:=1) rfl rfl (lU v9 e7) (gH.cons (i:=5) (off:=5) (s:=1) rfl rfl (o8 (k:= .i64) (lo:= -9223372036854775808) (hi:=9223372036854775807) v8 e7 f2 f2) gH.nil))))))).map (fun p=>⟨p.1,p.2.1,p.2.2.1,p.2.2.2.1,p.2.2.2.2.1,p.2.2.2.2.2.1⟩) aN.len (fun _=>rfl) (fun _ h=>⟨h.1,h.2.1,h.2.2.1,h.2.2.2.1,h.2.2.2.2.1,h.2.2.2.2.2.1⟩) fun _=>o4 _
instance:Inhabited aN:=⟨⟨default,default,default,default,default,default⟩⟩
theorem mq:Elem v5 58 3 1 8:=kT (z:= .int .i64 0) y4 e7 rfl f2
structure bO where
 bE:Int
 aB:Sv aN
 aI:Sv Int
def bO.cells (x:bO):List Value:= [.int .i64 x.bE, .slice x.aB.A x.aB.ls.length x.aB.c, .slice x.aI.A x.aI.ls.length x.aI.c]
instance:Bk bO:=⟨fun x _=>bk x.bE+(bk x.aB+(bk x.aI+(0)))⟩
theorem bO.len:∀ x,(bO.cells x).length=3:=fun _=>rfl
theorem bO.one:∀ x, ∀ u ∈ bO.cells x,u.oneCell'=true:=fun x u hu=>by
 simp only [bO.cells,u2,v7,or_false] at hu
 rcases hu with rfl | rfl | rfl <;> rfl
def KS (w:World) (x:bO):Prop:=((-9223372036854775808)≤x.bE∧x.bE≤9223372036854775807)∧(mo w 6 80 aN.cells (JF w) x.aB)∧(mo w 1 8 (eI .i64) (fun n=>(-9223372036854775808)≤n∧n≤9223372036854775807) x.aI)
instance:Inhabited bO:=⟨⟨default,default,default⟩⟩
structure fu where
 bE:Int
 aB:Ll aN
 aI:Ll Int
instance:Inhabited fu:=⟨⟨default,default,default⟩⟩
def bO.abs (x:bO):fu:=⟨x.bE,⟨x.aB.ls⟩,⟨x.aI.ls⟩⟩
def bO.own (x:bO):List HP:= [row x.aB.A x.aB.ls.length x.aB.c (q4 aN.cells x.aB.ls) 72 6,row x.aI.A x.aI.ls.length x.aI.c (q4 (eI .i64) x.aI.ls) 3 1]
structure aL where
 aJ:List UInt8
 aR:List UInt8
def aL.cells (x:aL):List Value:= [.string ⟨v6 x.aJ⟩, .string ⟨v6 x.aR⟩]
instance:Bk aL:=⟨fun x _=>bk x.aJ+(bk x.aR+(0))⟩
theorem aL.len:∀ x,(aL.cells x).length=2:=fun _=>rfl
theorem aL.one:∀ x, ∀ u ∈ aL.cells x,u.oneCell'=true:=fun x u hu=>by
 simp only [aL.cells,u2,v7,or_false] at hu
 rcases hu with rfl | rfl <;> rfl
def KH (w:World) (x:aL):Prop:=(x.aJ.length≤140737488351232)∧(x.aR.length≤140737488351232)
instance:Inhabited aL:=⟨⟨default,default⟩⟩
theorem rX:Elem v5 40 149 3 48:=kT (z:= .agg #[.bool false, .string ⟨v6 ([])⟩, .slice none 0 0]) y6 e7 rfl f2
theorem jL:Elem v5 147 153 2 32:=kT (z:= .agg #[.string ⟨v6 ([])⟩, .string ⟨v6 ([])⟩]) B1 e7 rfl f2
structure aH where
 aZ:List UInt8
 aG:List UInt8
def aH.cells (x:aH):List Value:= [.string ⟨v6 x.aZ⟩, .string ⟨v6 x.aG⟩]
instance:Bk aH:=⟨fun x _=>bk x.aZ+(bk x.aG+(0))⟩
theorem aH.len:∀ x,(aH.cells x).length=2:=fun _=>rfl
theorem aH.one:∀ x, ∀ u ∈ aH.cells x,u.oneCell'=true:=fun x u hu=>by
 simp only [aH.cells,u2,v7,or_false] at hu
 rcases hu with rfl | rfl <;> rfl
def Kg (w:World) (x:aH):Prop:=(x.aZ.length≤140737488351232)∧(x.aG.length≤140737488351232)
theorem Bj (w:World):ky v5 w 153 2 aH.cells (Kg w):=
 (mQ (sz:=2) Tryz.underlying153 e7 (gH.cons (i:=0) (off:=0) (s:=1) rfl rfl (lU v9 e7) (gH.cons (i:=1) (off:=1) (s:=1) rfl rfl (lU v9 e7) gH.nil))).map (fun p=>⟨p.1,p.2.1⟩) aH.len (fun _=>rfl) (fun _ h=>⟨h.1,h.2.1⟩) fun _=>o4 _
instance:Inhabited aH:=⟨⟨default,default⟩⟩
structure af where
 dV:Bool
 aG:List UInt8
 aj:Sv aH
def af.cells (x:af):List Value:= [.bool x.dV, .string ⟨v6 x.aG⟩, .slice x.aj.A x.aj.ls.length x.aj.c]
instance:Bk af:=⟨fun x _=>bk x.dV+(bk x.aG+(bk x.aj+(0)))⟩
theorem af.len:∀ x,(af.cells x).length=3:=fun _=>rfl
theorem af.one:∀ x, ∀ u ∈ af.cells x,u.oneCell'=true:=fun x u hu=>by
 simp only [af.cells,u2,v7,or_false] at hu
 rcases hu with rfl | rfl | rfl <;> rfl
def Js (w:World) (x:af):Prop:=(True)∧(x.aG.length≤140737488351232)∧(mo w 2 32 aH.cells (Kg w) x.aj)
theorem zn (w:World):ky v5 w 149 3 af.cells (Js w):=
 (mQ (sz:=3) Tryz.underlying149 e7 (gH.cons (i:=0) (off:=0) (s:=1) rfl rfl (Co Tryz.underlying4 e7) (gH.cons (i:=1) (off:=1) (s:=1) rfl rfl (lU v9 e7) (gH.cons (i:=2) (off:=2) (s:=1) rfl rfl (nC (bytes:=32) B1 e7 e7 f2 (Bj w)) gH.nil)))).map (fun p=>⟨p.1,p.2.1,p.2.2.1⟩) af.len (fun _=>rfl) (fun _ h=>⟨h.1,h.2.1,h.2.2.1⟩) fun _=>o4 _
instance:Inhabited af:=⟨⟨default,default,default⟩⟩
structure aQ where
 dV:Bool
 aG:List UInt8
 aj:Ll aH
instance:Inhabited aQ:=⟨⟨default,default,default⟩⟩
def af.abs (x:af):aQ:=⟨x.dV,x.aG,⟨x.aj.ls⟩⟩
def af.own (x:af):List HP:= [row x.aj.A x.aj.ls.length x.aj.c (q4 aH.cells x.aj.ls) 153 2]
theorem nE:Elem v5 29 89 2 24:=kT (z:= .agg #[.string ⟨v6 ([])⟩, .int .i64 0]) B3 e7 rfl f2
structure aM where
 aJ:List UInt8
 bE:Int
def aM.cells (x:aM):List Value:= [.string ⟨v6 x.aJ⟩, .int .i64 x.bE]
instance:Bk aM:=⟨fun x _=>bk x.aJ+(bk x.bE+(0))⟩
theorem aM.len:∀ x,(aM.cells x).length=2:=fun _=>rfl
theorem aM.one:∀ x, ∀ u ∈ aM.cells x,u.oneCell'=true:=fun x u hu=>by
 simp only [aM.cells,u2,v7,or_false] at hu
 rcases hu with rfl | rfl <;> rfl
def JP (w:World) (x:aM):Prop:=(x.aJ.length≤140737488351232)∧((-9223372036854775808)≤x.bE∧x.bE≤9223372036854775807)
theorem Af (w:World):ky v5 w 89 2 aM.cells (JP w):=
 (mQ (sz:=2) Tryz.underlying89 e7 (gH.cons (i:=0) (off:=0) (s:=1) rfl rfl (lU v9 e7) (gH.cons (i:=1) (off:=1) (s:=1) rfl rfl (o8 (k:= .i64) (lo:= -9223372036854775808) (hi:=9223372036854775807) v8 e7 f2 f2) gH.nil))).map (fun p=>⟨p.1,p.2.1⟩) aM.len (fun _=>rfl) (fun _ h=>⟨h.1,h.2.1⟩) fun _=>o4 _
instance:Inhabited aM:=⟨⟨default,default⟩⟩
structure bz where
 av:Int
 aI:Int
 eO:Int
 aP:Int
 dK:Int
 fA:Int
 aU:Nat
 ax:Nat
 aX:Nat
 eQ:Nat
 bG:Nat
 aF:Nat
 eG:Nat
 cZ:Nat
 xN:Nat
 fe:Bool
 cu:aL
 aB:Sv aN
 ah:Sv af
 ag:Sv aM
def bz.cells (x:bz):List Value:= [.int .i64 x.av, .int .i64 x.aI, .int .i64 x.eO, .int .i64 x.aP, .int .i64 x.dK, .int .i64 x.fA, .int .u64 ((x.aU:Nat):Int), .int .u64 ((x.ax:Nat):Int), .int .u64 ((x.aX:Nat):Int), .int .u64 ((x.eQ:Nat):Int), .int .u64 ((x.bG:Nat):Int), .int .u64 ((x.aF:Nat):Int), .int .u64 ((x.eG:Nat):Int), .int .u64 ((x.cZ:Nat):Int), .int .u64 ((x.xN:Nat):Int), .bool x.fe, .string ⟨v6 x.cu.aJ⟩, .string ⟨v6 x.cu.aR⟩, .slice x.aB.A x.aB.ls.length x.aB.c, .slice x.ah.A x.ah.ls.length x.ah.c, .slice x.ag.A x.ag.ls.length x.ag.c]
instance:Bk bz:=⟨fun x _=>bk x.av+(bk x.aI+(bk x.eO+(bk x.aP+(bk x.dK+(bk x.fA+(bk x.aU+(bk x.ax+(bk x.aX+(bk x.eQ+(bk x.bG+(bk x.aF+(bk x.eG+(bk x.cZ+(bk x.xN+(bk x.fe+(bk x.cu+(bk x.aB+(bk x.ah+(bk x.ag+(0))))))))))))))))))))⟩
theorem bz.len:∀ x,(bz.cells x).length=21:=fun _=>rfl
theorem bz.one:∀ x, ∀ u ∈ bz.cells x,u.oneCell'=true:=fun x u hu=>by
 simp only [bz.cells,u2,v7,or_false] at hu
 rcases hu with rfl | rfl | rfl | rfl | rfl | rfl | rfl | rfl | rfl | rfl | rfl | rfl | rfl | rfl | rfl | rfl | rfl | rfl | rfl | rfl | rfl <;> rfl
def Kq (w:World) (x:bz):Prop:=((-9223372036854775808)≤x.av∧x.av≤9223372036854775807)∧((-9223372036854775808)≤x.aI∧x.aI≤9223372036854775807)∧((-9223372036854775808)≤x.eO∧x.eO≤9223372036854775807)∧((-9223372036854775808)≤x.aP∧x.aP≤9223372036854775807)∧((-9223372036854775808)≤x.dK∧x.dK≤9223372036854775807)∧((-9223372036854775808)≤x.fA∧x.fA≤9223372036854775807)∧(x.aU≤18446744073709551615)∧(x.ax≤18446744073709551615)∧(x.aX≤18446744073709551615)∧(x.eQ≤18446744073709551615)∧(x.bG≤18446744073709551615)∧(x.aF≤18446744073709551615)∧(x.eG≤18446744073709551615)∧(x.cZ≤18446744073709551615)∧(x.xN≤18446744073709551615)∧(True)∧(KH w x.cu)∧(mo w 6 80 aN.cells (JF w) x.aB)∧(mo w 3 48 af.cells (Js w) x.ah)∧(mo w 2 24 aM.cells (JP w) x.ag)
instance:Inhabited bz:=⟨⟨default,default,default,default,default,default,default,default,default,default,default,default,default,default,default,default,default,default,default,default⟩⟩
structure bW where
 av:Int
 aI:Int
 eO:Int
 aP:Int
 dK:Int
 fA:Int
 aU:Nat
 ax:Nat
 aX:Nat
 eQ:Nat
 bG:Nat
 aF:Nat
 eG:Nat
 cZ:Nat
 xN:Nat
 fe:Bool
 cu:aL
 aB:Ll aN
 ah:Ll aQ
 ag:Ll aM
instance:Inhabited bW:=⟨⟨default,default,default,default,default,default,default,default,default,default,default,default,default,default,default,default,default,default,default,default⟩⟩
def bz.abs (x:bz):bW:=⟨x.av,x.aI,x.eO,x.aP,x.dK,x.fA,x.aU,x.ax,x.aX,x.eQ,x.bG,x.aF,x.eG,x.cZ,x.xN,x.fe,x.cu,⟨x.aB.ls⟩,⟨s5 af.abs x.ah.ls⟩,⟨x.ag.ls⟩⟩
def bz.own (x:bz):List HP:= [row x.aB.A x.aB.ls.length x.aB.c (q4 aN.cells x.aB.ls) 72 6,row x.ah.A x.ah.ls.length x.ah.c (q4 af.cells x.ah.ls) 149 3,row x.ag.A x.ag.ls.length x.ag.c (q4 aM.cells x.ag.ls) 89 2,sepL (q4 af.own x.ah.ls)]
abbrev iA (r:Int) (s:Int) (t:Int) (u:Int) (v:Int) (w:Int) (x:Nat) (y:Nat) (z:Nat) (A:Nat) (g:Nat) (h:Nat) (i:Nat) (j:Nat) (k:Nat) (l:Bool) (m:List UInt8) (n:List UInt8) (o:Option Addr) (a b:Nat) (p:Option Addr) (c d:Nat) (q:Option Addr) (e f:Nat):List Value:= [.int .i64 r, .int .i64 s, .int .i64 t, .int .i64 u, .int .i64 v, .int .i64 w, .int .u64 ((x:Nat):Int), .int .u64 ((y:Nat):Int), .int .u64 ((z:Nat):Int), .int .u64 ((A:Nat):Int), .int .u64 ((g:Nat):Int), .int .u64 ((h:Nat):Int), .int .u64 ((i:Nat):Int), .int .u64 ((j:Nat):Int), .int .u64 ((k:Nat):Int), .bool l, .string ⟨v6 m⟩, .string ⟨v6 n⟩, .slice o a b, .slice p c d, .slice q e f]
abbrev gK (x:bW) (a:Option Addr) (b:Nat) (c:Option Addr) (d:Nat) (e:Option Addr) (f:Nat):List Value:= [.int .i64 x.av, .int .i64 x.aI, .int .i64 x.eO, .int .i64 x.aP, .int .i64 x.dK, .int .i64 x.fA, .int .u64 ((x.aU:Nat):Int), .int .u64 ((x.ax:Nat):Int), .int .u64 ((x.aX:Nat):Int), .int .u64 ((x.eQ:Nat):Int), .int .u64 ((x.bG:Nat):Int), .int .u64 ((x.aF:Nat):Int), .int .u64 ((x.eG:Nat):Int), .int .u64 ((x.cZ:Nat):Int), .int .u64 ((x.xN:Nat):Int), .bool x.fe, .string ⟨v6 x.cu.aJ⟩, .string ⟨v6 x.cu.aR⟩, .slice a x.aB.ls.length b, .slice c x.ah.ls.length d, .slice e x.ag.ls.length f]
structure ow where
 Cj:Int
 eO:Int
 jk:bz
 CR:Bool
 aZ:List UInt8
def ow.cells (x:ow):List Value:= [.int .i64 x.Cj, .int .i64 x.eO, .int .i64 x.jk.av, .int .i64 x.jk.aI, .int .i64 x.jk.eO, .int .i64 x.jk.aP, .int .i64 x.jk.dK, .int .i64 x.jk.fA, .int .u64 ((x.jk.aU:Nat):Int), .int .u64 ((x.jk.ax:Nat):Int), .int .u64 ((x.jk.aX:Nat):Int), .int .u64 ((x.jk.eQ:Nat):Int), .int .u64 ((x.jk.bG:Nat):Int), .int .u64 ((x.jk.aF:Nat):Int), .int .u64 ((x.jk.eG:Nat):Int), .int .u64 ((x.jk.cZ:Nat):Int), .int .u64 ((x.jk.xN:Nat):Int), .bool x.jk.fe, .string ⟨v6 x.jk.cu.aJ⟩, .string ⟨v6 x.jk.cu.aR⟩, .slice x.jk.aB.A x.jk.aB.ls.length x.jk.aB.c, .slice x.jk.ah.A x.jk.ah.ls.length x.jk.ah.c, .slice x.jk.ag.A x.jk.ag.ls.length x.jk.ag.c, .bool x.CR, .string ⟨v6 x.aZ⟩]
instance:Bk ow:=⟨fun x _=>bk x.Cj+(bk x.eO+(bk x.jk+(bk x.CR+(bk x.aZ+(0)))))⟩
theorem ow.len:∀ x,(ow.cells x).length=25:=fun _=>rfl
theorem ow.one:∀ x, ∀ u ∈ ow.cells x,u.oneCell'=true:=fun x u hu=>by
 simp only [ow.cells,u2,v7,or_false] at hu
 rcases hu with rfl | rfl | rfl | rfl | rfl | rfl | rfl | rfl | rfl | rfl | rfl | rfl | rfl | rfl | rfl | rfl | rfl | rfl | rfl | rfl | rfl | rfl | rfl | rfl | rfl <;> rfl
def K9 (w:World) (x:ow):Prop:=((-9223372036854775808)≤x.Cj∧x.Cj≤9223372036854775807)∧((-9223372036854775808)≤x.eO∧x.eO≤9223372036854775807)∧(Kq w x.jk)∧(True)∧(x.aZ.length≤140737488351232)
instance:Inhabited ow:=⟨⟨default,default,default,default,default⟩⟩
structure StepT where
 Cj:Int
 eO:Int
 jk:bW
 CR:Bool
 aZ:List UInt8
instance:Inhabited StepT:=⟨⟨default,default,default,default,default⟩⟩
def ow.abs (x:ow):StepT:=⟨x.Cj,x.eO,x.jk.abs,x.CR,x.aZ⟩
def ow.own (x:ow):List HP:= [row x.jk.aB.A x.jk.aB.ls.length x.jk.aB.c (q4 aN.cells x.jk.aB.ls) 72 6,row x.jk.ah.A x.jk.ah.ls.length x.jk.ah.c (q4 af.cells x.jk.ah.ls) 149 3,row x.jk.ag.A x.jk.ag.ls.length x.jk.ag.c (q4 aM.cells x.jk.ag.ls) 89 2,sepL (q4 af.own x.jk.ah.ls)]
theorem lW:Elem v5 31 56 4 48:=kT (z:= .agg #[.int .i64 0, .int .u64 0, .int .u64 0, .slice none 0 0]) B4 e7 rfl f2
structure aS where
 aP:Int
 ax:Nat
 aU:Nat
 ah:Sv af
def aS.cells (x:aS):List Value:= [.int .i64 x.aP, .int .u64 ((x.ax:Nat):Int), .int .u64 ((x.aU:Nat):Int), .slice x.ah.A x.ah.ls.length x.ah.c]
instance:Bk aS:=⟨fun x _=>bk x.aP+(bk x.ax+(bk x.aU+(bk x.ah+(0))))⟩
theorem aS.len:∀ x,(aS.cells x).length=4:=fun _=>rfl
theorem aS.one:∀ x, ∀ u ∈ aS.cells x,u.oneCell'=true:=fun x u hu=>by
 simp only [aS.cells,u2,v7,or_false] at hu
 rcases hu with rfl | rfl | rfl | rfl <;> rfl
def Kh (w:World) (x:aS):Prop:=((-9223372036854775808)≤x.aP∧x.aP≤9223372036854775807)∧(x.ax≤18446744073709551615)∧(x.aU≤18446744073709551615)∧(mo w 3 48 af.cells (Js w) x.ah)
theorem Bl (w:World):ky v5 w 56 4 aS.cells (Kh w):=
 (mQ (sz:=4) Tryz.underlying56 e7 (gH.cons (i:=0) (off:=0) (s:=1) rfl rfl (o8 (k:= .i64) (lo:= -9223372036854775808) (hi:=9223372036854775807) v8 e7 f2 f2) (gH.cons (i:=1) (off:=1) (s:=1) rfl rfl (ol (k:= .u64) (hi:=18446744073709551615) B5 e7 f2 f2) (gH.cons (i:=2) (off:=2) (s:=1) rfl rfl (ol (k:= .u64) (hi:=18446744073709551615) B5 e7 f2 f2) (gH.cons (i:=3) (off:=3) (s:=1) rfl rfl (nC (bytes:=48) y6 e7 e7 f2 (zn w)) gH.nil))))).map (fun p=>⟨p.1,p.2.1,p.2.2.1,p.2.2.2.1⟩) aS.len (fun _=>rfl) (fun _ h=>⟨h.1,h.2.1,h.2.2.1,h.2.2.2.1⟩) fun _=>o4 _
instance:Inhabited aS:=⟨⟨default,default,default,default⟩⟩
structure fF where
 aP:Int
 ax:Nat
 aU:Nat
 ah:Ll aQ
instance:Inhabited fF:=⟨⟨default,default,default,default⟩⟩
def aS.abs (x:aS):fF:=⟨x.aP,x.ax,x.aU,⟨s5 af.abs x.ah.ls⟩⟩
def aS.own (x:aS):List HP:= [row x.ah.A x.ah.ls.length x.ah.c (q4 af.cells x.ah.ls) 149 3,sepL (q4 af.own x.ah.ls)]
theorem kM:Elem v5 30 60 5 56:=kT (z:= .agg #[.int .u64 0, .int .i64 0, .int .u64 0, .int .u64 0, .slice none 0 0]) B6 e7 rfl f2
structure ay where
 aX:Nat
 aP:Int
 ax:Nat
 aU:Nat
 au:Sv Int
def ay.cells (x:ay):List Value:= [.int .u64 ((x.aX:Nat):Int), .int .i64 x.aP, .int .u64 ((x.ax:Nat):Int), .int .u64 ((x.aU:Nat):Int), .slice x.au.A x.au.ls.length x.au.c]
instance:Bk ay:=⟨fun x _=>bk x.aX+(bk x.aP+(bk x.ax+(bk x.aU+(bk x.au+(0)))))⟩
theorem ay.len:∀ x,(ay.cells x).length=5:=fun _=>rfl
theorem ay.one:∀ x, ∀ u ∈ ay.cells x,u.oneCell'=true:=fun x u hu=>by
 simp only [ay.cells,u2,v7,or_false] at hu
 rcases hu with rfl | rfl | rfl | rfl | rfl <;> rfl
def JQ (w:World) (x:ay):Prop:=(x.aX≤18446744073709551615)∧((-9223372036854775808)≤x.aP∧x.aP≤9223372036854775807)∧(x.ax≤18446744073709551615)∧(x.aU≤18446744073709551615)∧(mo w 1 8 (eI .i64) (fun n=>(-9223372036854775808)≤n∧n≤9223372036854775807) x.au)
theorem xP (w:World):ky v5 w 60 5 ay.cells (JQ w):=
 (mQ (sz:=5) Tryz.underlying60 e7 (gH.cons (i:=0) (off:=0) (s:=1) rfl rfl (ol (k:= .u64) (hi:=18446744073709551615) B5 e7 f2 f2) (gH.cons (i:=1) (off:=1) (s:=1) rfl rfl (o8 (k:= .i64) (lo:= -9223372036854775808) (hi:=9223372036854775807) v8 e7 f2 f2) (gH.cons (i:=2) (off:=2) (s:=1) rfl rfl (ol (k:= .u64) (hi:=18446744073709551615) B5 e7 f2 f2) (gH.cons (i:=3) (off:=3) (s:=1) rfl rfl (ol (k:= .u64) (hi:=18446744073709551615) B5 e7 f2 f2) (gH.cons (i:=4) (off:=4) (s:=1) rfl rfl (nC (bytes:=8) y4 e7 e7 f2 (o8 (k:= .i64) (lo:= -9223372036854775808) (hi:=9223372036854775807) v8 e7 f2 f2)) gH.nil)))))).map (fun p=>⟨p.1,p.2.1,p.2.2.1,p.2.2.2.1,p.2.2.2.2.1⟩) ay.len (fun _=>rfl) (fun _ h=>⟨h.1,h.2.1,h.2.2.1,h.2.2.2.1,h.2.2.2.2.1⟩) fun _=>o4 _
instance:Inhabited ay:=⟨⟨default,default,default,default,default⟩⟩
structure bH where
 aX:Nat
 aP:Int
 ax:Nat
 aU:Nat
 au:Ll Int
instance:Inhabited bH:=⟨⟨default,default,default,default,default⟩⟩
def ay.abs (x:ay):bH:=⟨x.aX,x.aP,x.ax,x.aU,⟨x.au.ls⟩⟩
def ay.own (x:ay):List HP:= [row x.au.A x.au.ls.length x.au.c (q4 (eI .i64) x.au.ls) 3 1]
structure jW where
 au:Int
 ax:Nat
 bG:Nat
 aF:Nat
 ag:Sv aM
 ak:Sv ay
 aK:Sv aS
def jW.cells (x:jW):List Value:= [.int .i64 x.au, .int .u64 ((x.ax:Nat):Int), .int .u64 ((x.bG:Nat):Int), .int .u64 ((x.aF:Nat):Int), .slice x.ag.A x.ag.ls.length x.ag.c, .slice x.ak.A x.ak.ls.length x.ak.c, .slice x.aK.A x.aK.ls.length x.aK.c]
instance:Bk jW:=⟨fun x _=>bk x.au+(bk x.ax+(bk x.bG+(bk x.aF+(bk x.ag+(bk x.ak+(bk x.aK+(0)))))))⟩
theorem jW.len:∀ x,(jW.cells x).length=7:=fun _=>rfl
theorem jW.one:∀ x, ∀ u ∈ jW.cells x,u.oneCell'=true:=fun x u hu=>by
 simp only [jW.cells,u2,v7,or_false] at hu
 rcases hu with rfl | rfl | rfl | rfl | rfl | rfl | rfl <;> rfl
def JR (w:World) (x:jW):Prop:=((-9223372036854775808)≤x.au∧x.au≤9223372036854775807)∧(x.ax≤18446744073709551615)∧(x.bG≤18446744073709551615)∧(x.aF≤18446744073709551615)∧(mo w 2 24 aM.cells (JP w) x.ag)∧(mo w 5 56 ay.cells (JQ w) x.ak)∧(mo w 4 48 aS.cells (Kh w) x.aK)
theorem Ah (w:World):ky v5 w 33 7 jW.cells (JR w):=
 (mQ (sz:=7) Tryz.underlying33 e7 (gH.cons (i:=0) (off:=0) (s:=1) rfl rfl (o8 (k:= .i64) (lo:= -9223372036854775808) (hi:=9223372036854775807) v8 e7 f2 f2) (gH.cons (i:=1) (off:=1) (s:=1) rfl rfl (ol (k:= .u64) (hi:=18446744073709551615) B5 e7 f2 f2) (gH.cons (i:=2) (off:=2) (s:=1) rfl rfl (ol (k:= .u64) (hi:=18446744073709551615) B5 e7 f2 f2) (gH.cons (i:=3) (off:=3) (s:=1) rfl rfl (ol (k:= .u64) (hi:=18446744073709551615) B5 e7 f2 f2) (gH.cons (i:=4) (off:=4) (s:=1) rfl rfl (nC (bytes:=24) B3 e7 e7 f2 (Af w)) (gH.cons (i:=5) (off:=5) (s:=1) rfl rfl (nC (bytes:=56) B6 e7 e7 f2 (xP w)) (gH.cons (i:=6) (off:=6) (s:=1) rfl rfl (nC (bytes:=48) B4 e7 e7 f2 (Bl w)) gH.nil)))))))).map (fun p=>⟨p.1,p.2.1,p.2.2.1,p.2.2.2.1,p.2.2.2.2.1,p.2.2.2.2.2.1,p.2.2.2.2.2.2.1⟩) jW.len (fun _=>rfl) (fun _ h=>⟨h.1,h.2.1,h.2.2.1,h.2.2.2.1,h.2.2.2.2.1,h.2.2.2.2.2.1,h.2.2.2.2.2.2.1⟩) fun _=>o4 _
instance:Inhabited jW:=⟨⟨default,default,default,default,default,default,default⟩⟩
structure bZ where
 au:Int
 ax:Nat
 bG:Nat
 aF:Nat
 ag:Ll aM
 ak:Ll bH
 aK:Ll fF
instance:Inhabited bZ:=⟨⟨default,default,default,default,default,default,default⟩⟩
def jW.abs (x:jW):bZ:=⟨x.au,x.ax,x.bG,x.aF,⟨x.ag.ls⟩,⟨s5 ay.abs x.ak.ls⟩,⟨s5 aS.abs x.aK.ls⟩⟩
def jW.own (x:jW):List HP:= [row x.ag.A x.ag.ls.length x.ag.c (q4 aM.cells x.ag.ls) 89 2,row x.ak.A x.ak.ls.length x.ak.c (q4 ay.cells x.ak.ls) 60 5,row x.aK.A x.aK.ls.length x.aK.c (q4 aS.cells x.aK.ls) 56 4,sepL (q4 ay.own x.ak.ls),sepL (q4 aS.own x.aK.ls)]
theorem rY:Elem v5 45 42 21 232:=kT (z:= .agg (iA 0 0 0 0 0 0 0 0 0 0 0 0 0 0 0 false ([]) ([]) none 0 0 none 0 0 none 0 0).toArray) Tryz.underlying45 e7 rfl f2
structure oz where
 cz:Sv bz
 jo:Bool
def oz.cells (x:oz):List Value:= [.slice x.cz.A x.cz.ls.length x.cz.c, .bool x.jo]
instance:Bk oz:=⟨fun x _=>bk x.cz+(bk x.jo+(0))⟩
theorem oz.len:∀ x,(oz.cells x).length=2:=fun _=>rfl
theorem oz.one:∀ x, ∀ u ∈ oz.cells x,u.oneCell'=true:=fun x u hu=>by
 simp only [oz.cells,u2,v7,or_false] at hu
 rcases hu with rfl | rfl <;> rfl
def Lb (w:World) (x:oz):Prop:=(mo w 21 232 bz.cells (Kq w) x.cz)∧(True)
instance:Inhabited oz:=⟨⟨default,default⟩⟩
structure kG where
 cz:Ll bW
 jo:Bool
instance:Inhabited kG:=⟨⟨default,default⟩⟩
def oz.abs (x:oz):kG:=⟨⟨s5 bz.abs x.cz.ls⟩,x.jo⟩
def oz.own (x:oz):List HP:= [row x.cz.A x.cz.ls.length x.cz.c (q4 bz.cells x.cz.ls) 42 21,sepL (q4 bz.own x.cz.ls)]
structure qE where
 bL:Bool
 Hr:Bool
def qE.cells (x:qE):List Value:= [.bool x.bL, .bool x.Hr]
instance:Bk qE:=⟨fun x _=>bk x.bL+(bk x.Hr+(0))⟩
theorem qE.len:∀ x,(qE.cells x).length=2:=fun _=>rfl
theorem qE.one:∀ x, ∀ u ∈ qE.cells x,u.oneCell'=true:=fun x u hu=>by
 simp only [qE.cells,u2,v7,or_false] at hu
 rcases hu with rfl | rfl <;> rfl
def Lc (w:World) (x:qE):Prop:=(True)∧(True)
instance:Inhabited qE:=⟨⟨default,default⟩⟩
theorem xc:Elem v5 61 28 1 8:=kT (z:= .int .u64 0) Tryz.underlying61 e7 rfl f2
structure tH where
 o5:Int
 bi:Nat
def tH.cells (x:tH):List Value:= [.int .i64 x.o5, .int .u64 ((x.bi:Nat):Int)]
instance:Bk tH:=⟨fun x _=>bk x.o5+(bk x.bi+(0))⟩
theorem tH.len:∀ x,(tH.cells x).length=2:=fun _=>rfl
theorem tH.one:∀ x, ∀ u ∈ tH.cells x,u.oneCell'=true:=fun x u hu=>by
 simp only [tH.cells,u2,v7,or_false] at hu
 rcases hu with rfl | rfl <;> rfl
def Ld (w:World) (x:tH):Prop:=((-9223372036854775808)≤x.o5∧x.o5≤9223372036854775807)∧(x.bi≤18446744073709551615)
instance:Inhabited tH:=⟨⟨default,default⟩⟩
theorem xe:Elem v5 66 70 3 56:=kT (z:= .agg #[.int .i64 0, .slice none 0 0, .slice none 0 0]) Tryz.underlying66 e7 rfl f2
structure dQ where
 bE:Int
 aB:Sv aN
 aI:Sv Int
def dQ.cells (x:dQ):List Value:= [.int .i64 x.bE, .slice x.aB.A x.aB.ls.length x.aB.c, .slice x.aI.A x.aI.ls.length x.aI.c]
instance:Bk dQ:=⟨fun x _=>bk x.bE+(bk x.aB+(bk x.aI+(0)))⟩
theorem dQ.len:∀ x,(dQ.cells x).length=3:=fun _=>rfl
theorem dQ.one:∀ x, ∀ u ∈ dQ.cells x,u.oneCell'=true:=fun x u hu=>by
 simp only [dQ.cells,u2,v7,or_false] at hu
 rcases hu with rfl | rfl | rfl <;> rfl
def K8 (w:World) (x:dQ):Prop:=((-9223372036854775808)≤x.bE∧x.bE≤9223372036854775807)∧(mo w 6 80 aN.cells (JF w) x.aB)∧(mo w 1 8 (eI .i64) (fun n=>(-9223372036854775808)≤n∧n≤9223372036854775807) x.aI)
instance:Inhabited dQ:=⟨⟨default,default,default⟩⟩
structure jA where
 bE:Int
 aB:Ll aN
 aI:Ll Int
instance:Inhabited jA:=⟨⟨default,default,default⟩⟩
def dQ.abs (x:dQ):jA:=⟨x.bE,⟨x.aB.ls⟩,⟨x.aI.ls⟩⟩
def dQ.own (x:dQ):List HP:= [row x.aB.A x.aB.ls.length x.aB.c (q4 aN.cells x.aB.ls) 72 6,row x.aI.A x.aI.ls.length x.aI.c (q4 (eI .i64) x.aI.ls) 3 1]
theorem qF:Elem v5 79 107 9 136:=kT (z:= .agg #[.int .u64 0, .int .i64 0, .int .u64 0, .int .u64 0, .slice none 0 0, .slice none 0 0, .slice none 0 0, .slice none 0 0, .int .i64 0]) Tryz.underlying79 e7 rfl f2
theorem uR:Elem v5 103 172 3 56:=kT (z:= .agg #[.int .i64 0, .slice none 0 0, .slice none 0 0]) Tryz.underlying103 e7 rfl f2
theorem zA:Elem v5 104 4 1 1:=kT (z:= .bool false) Tryz.underlying104 e7 rfl f2
theorem wE:Elem v5 105 40 1 24:=kT (z:= .slice none 0 0) Tryz.underlying105 e7 rfl f2
structure bK where
 bI:Nat
 bf:Int
 bi:Nat
 fE:Nat
 cB:Sv aN
 aO:Sv bO
 bL:Sv Bool
 ai:Sv (Sv af)
 iI:Int
def bK.cells (x:bK):List Value:= [.int .u64 ((x.bI:Nat):Int), .int .i64 x.bf, .int .u64 ((x.bi:Nat):Int), .int .u64 ((x.fE:Nat):Int), .slice x.cB.A x.cB.ls.length x.cB.c, .slice x.aO.A x.aO.ls.length x.aO.c, .slice x.bL.A x.bL.ls.length x.bL.c, .slice x.ai.A x.ai.ls.length x.ai.c, .int .i64 x.iI]
instance:Bk bK:=⟨fun x _=>bk x.bI+(bk x.bf+(bk x.bi+(bk x.fE+(bk x.cB+(bk x.aO+(bk x.bL+(bk x.ai+(bk x.iI+(0)))))))))⟩
theorem bK.len:∀ x,(bK.cells x).length=9:=fun _=>rfl
theorem bK.one:∀ x, ∀ u ∈ bK.cells x,u.oneCell'=true:=fun x u hu=>by
 simp only [bK.cells,u2,v7,or_false] at hu
 rcases hu with rfl | rfl | rfl | rfl | rfl | rfl | rfl | rfl | rfl <;> rfl
def Le (w:World) (x:bK):Prop:=(x.bI≤18446744073709551615)∧((-9223372036854775808)≤x.bf∧x.bf≤9223372036854775807)∧(x.bi≤18446744073709551615)∧(x.fE≤18446744073709551615)∧(mo w 6 80 aN.cells (JF w) x.cB)∧(mo w 3 56 bO.cells (KS w) x.aO)∧(mo w 1 1 eL (fun _=>True) x.bL)∧(mo w 1 24 (I9 (β:=af)) (mo w 3 48 af.cells (Js w)) x.ai)∧((-9223372036854775808)≤x.iI∧x.iI≤9223372036854775807)
instance:Inhabited bK:=⟨⟨default,default,default,default,default,default,default,default,default⟩⟩
abbrev bP:=Sv af
def bP.abs (x:bP):Ll aQ:=⟨s5 af.abs x.ls⟩
def bP.own (x:bP):List HP:= [row x.A x.ls.length x.c (q4 af.cells x.ls) 149 3,sepL (q4 af.own x.ls)]
structure ed where
 bI:Nat
 bf:Int
 bi:Nat
 fE:Nat
 cB:Ll aN
 aO:Ll fu
 bL:Ll Bool
 ai:Ll (Ll aQ)
 iI:Int
instance:Inhabited ed:=⟨⟨default,default,default,default,default,default,default,default,default⟩⟩
def bK.abs (x:bK):ed:=⟨x.bI,x.bf,x.bi,x.fE,⟨x.cB.ls⟩,⟨s5 bO.abs x.aO.ls⟩,⟨x.bL.ls⟩,⟨s5 bP.abs x.ai.ls⟩,x.iI⟩
def bK.own (x:bK):List HP:= [row x.cB.A x.cB.ls.length x.cB.c (q4 aN.cells x.cB.ls) 72 6,row x.aO.A x.aO.ls.length x.aO.c (q4 bO.cells x.aO.ls) 172 3,row x.bL.A x.bL.ls.length x.bL.c (q4 eL x.bL.ls) 4 1,row x.ai.A x.ai.ls.length x.ai.c (q4 (I9 (β:=af)) x.ai.ls) 40 1,sepL (q4 bO.own x.aO.ls),sepL (q4 bP.own x.ai.ls)]
abbrev rZ (i:Nat) (j:Int) (k:Nat) (l:Nat) (m:Option Addr) (a b:Nat) (n:Option Addr) (c d:Nat) (o:Option Addr) (e f:Nat) (p:Option Addr) (g h:Nat) (q:Int):List Value:= [.int .u64 ((i:Nat):Int), .int .i64 j, .int .u64 ((k:Nat):Int), .int .u64 ((l:Nat):Int), .slice m a b, .slice n c d, .slice o e f, .slice p g h, .int .i64 q]
abbrev Cs (x:ed) (a:Option Addr) (b:Nat) (c:Option Addr) (d:Nat) (e:Option Addr) (f:Nat) (g:Option Addr) (h:Nat):List Value:= [.int .u64 ((x.bI:Nat):Int), .int .i64 x.bf, .int .u64 ((x.bi:Nat):Int), .int .u64 ((x.fE:Nat):Int), .slice a x.cB.ls.length b, .slice c x.aO.ls.length d, .slice e x.bL.ls.length f, .slice g x.ai.ls.length h, .int .i64 x.iI]
structure lM where
 dB:Bool
 bi:Nat
 dP:Int
 ai:Sv af
def lM.cells (x:lM):List Value:= [.bool x.dB, .int .u64 ((x.bi:Nat):Int), .int .i64 x.dP, .slice x.ai.A x.ai.ls.length x.ai.c]
instance:Bk lM:=⟨fun x _=>bk x.dB+(bk x.bi+(bk x.dP+(bk x.ai+(0))))⟩
theorem lM.len:∀ x,(lM.cells x).length=4:=fun _=>rfl
theorem lM.one:∀ x, ∀ u ∈ lM.cells x,u.oneCell'=true:=fun x u hu=>by
 simp only [lM.cells,u2,v7,or_false] at hu
 rcases hu with rfl | rfl | rfl | rfl <;> rfl
def K3 (w:World) (x:lM):Prop:=(True)∧(x.bi≤18446744073709551615)∧((-9223372036854775808)≤x.dP∧x.dP≤9223372036854775807)∧(mo w 3 48 af.cells (Js w) x.ai)
instance:Inhabited lM:=⟨⟨default,default,default,default⟩⟩
structure dU where
 dB:Bool
 bi:Nat
 dP:Int
 ai:Ll aQ
instance:Inhabited dU:=⟨⟨default,default,default,default⟩⟩
def lM.abs (x:lM):dU:=⟨x.dB,x.bi,x.dP,⟨s5 af.abs x.ai.ls⟩⟩
def lM.own (x:lM):List HP:= [row x.ai.A x.ai.ls.length x.ai.c (q4 af.cells x.ai.ls) 149 3,sepL (q4 af.own x.ai.ls)]
structure aD where
 aa:bZ
 bT:Nat
 aC:Ll ed
 bM:dU
 bD:dU
 bA:dU
 bC:dU
 bB:dU
 dO:Nat
 dG:Nat
 dH:Nat
 dD:Nat
 dE:Nat
instance:Inhabited aD:=⟨⟨default,default,default,default,default,default,default,default,default,default,default,default,default⟩⟩
theorem EH:Elem v5 126 154 1 8:=kT (z:= .int .i64 0) Tryz.underlying126 e7 rfl f2
structure lN where
 mi:Int
 o5:Int
 bX:Sv Int
def lN.cells (x:lN):List Value:= [.int .i64 x.mi, .int .i64 x.o5, .slice x.bX.A x.bX.ls.length x.bX.c]
instance:Bk lN:=⟨fun x _=>bk x.mi+(bk x.o5+(bk x.bX+(0)))⟩
theorem lN.len:∀ x,(lN.cells x).length=3:=fun _=>rfl
theorem lN.one:∀ x, ∀ u ∈ lN.cells x,u.oneCell'=true:=fun x u hu=>by
 simp only [lN.cells,u2,v7,or_false] at hu
 rcases hu with rfl | rfl | rfl <;> rfl
def K4 (w:World) (x:lN):Prop:=((-9223372036854775808)≤x.mi∧x.mi≤9223372036854775807)∧((-9223372036854775808)≤x.o5∧x.o5≤9223372036854775807)∧(mo w 1 8 (eI .i64) (fun n=>(-9223372036854775808)≤n∧n≤9223372036854775807) x.bX)
instance:Inhabited lN:=⟨⟨default,default,default⟩⟩
structure fT where
 mi:Int
 o5:Int
 bX:Ll Int
instance:Inhabited fT:=⟨⟨default,default,default⟩⟩
def lN.abs (x:lN):fT:=⟨x.mi,x.o5,⟨x.bX.ls⟩⟩
def lN.own (x:lN):List HP:= [row x.bX.A x.bX.ls.length x.bX.c (q4 (eI .i64) x.bX.ls) 154 1]
structure bU where
 bF:Ll bW
instance:Inhabited bU:=⟨⟨default⟩⟩
theorem xQ:Elem v5 134 5 1 1:=kT (z:= .int .u8 0) Tryz.underlying134 e7 rfl f2
structure lQ where
 xb:Sv UInt8
def lQ.cells (x:lQ):List Value:= [.slice x.xb.A x.xb.ls.length x.xb.c]
instance:Bk lQ:=⟨fun x _=>bk x.xb+(0)⟩
theorem lQ.len:∀ x,(lQ.cells x).length=1:=fun _=>rfl
theorem lQ.one:∀ x, ∀ u ∈ lQ.cells x,u.oneCell'=true:=fun x u hu=>by
 simp only [lQ.cells,u2,v7,or_false] at hu
 rcases hu with rfl <;> rfl
def K5 (w:World) (x:lQ):Prop:=(mo w 1 1 eB (fun _=>True) x.xb)
instance:Inhabited lQ:=⟨⟨default⟩⟩
structure dz where
 xb:Ll UInt8
instance:Inhabited dz:=⟨⟨default⟩⟩
def lQ.abs (x:lQ):dz:=⟨⟨x.xb.ls⟩⟩
def lQ.own (x:lQ):List HP:= [row x.xb.A x.xb.ls.length x.xb.c (q4 eB x.xb.ls) 5 1]
theorem EI:Elem v5 245 9 1 16:=kT (z:= .string ⟨v6 ([])⟩) Tryz.underlying245 e7 rfl f2
def iM (a:Int) (b:Int):Bool:=
 if a ≥ 1 then decide (a≤b) else false
theorem l6 (w D b c f) (H:Own w D w []) (hr:iM b c=f):
    Calls v5 40 #[vI b,vI c] w (dA fun v w'=>v= .bool f∧Own w D w' []):=by
 refine cb Tryz.func40 ?_
 refine sr (Ar rfl (Mz rfl (Kz (.bool (decide (b ≥ 1))) (Mz rfl ?_))))
 by_cases a:b ≥ 1
 refine gw (vI b) (dT a) (IA rfl) (gw (vI c) (dT a) (IA rfl) (Gz (.bool (decide (b≤c))) (dT a) (fw (.bool (decide (b≤c))) (Iw rfl (dT a) rfl) (An rfl (rt (rs ?_))))))
 have d:=H.pk []
 obtain rfl:_=decide (b≤c):=hr.symm.trans (ip a)
 exact⟨rfl,d⟩
 refine Sz (dF a) (Sz (dF a) (Sz (dF a) (fw (.bool false) (Io rfl (dF a) rfl) (An rfl (rt (rs ?_))))))
 have e:=H.pk []
 obtain rfl:_=false:=hr.symm.trans (iN a)
 exact⟨rfl,e⟩
def mr (a:Int):Bool:=
 if a ≥ 1 then decide (a≤4) else false
theorem xg (w D b e) (H:Own w D w []) (hr:mr b=e):
    Calls v5 111 #[vI b] w (dA fun v w'=>v= .bool e∧Own w D w' []):=by
 refine cb Tryz.func111 ?_
 refine sr (Ar rfl (Mz rfl (Kz (.bool (decide (b ≥ 1))) (Mz rfl ?_))))
 by_cases a:b ≥ 1
 refine gw (vI b) (dT a) (IA rfl) (Gz (.bool (decide (b≤4))) (dT a) (fw (.bool (decide (b≤4))) (Iw rfl (dT a) rfl) (An rfl (rt (rs ?_)))))
 have c:=H.pk []
 obtain rfl:_=decide (b≤4):=hr.symm.trans (ip a)
 exact⟨rfl,c⟩
 refine Sz (dF a) (Sz (dF a) (fw (.bool false) (Io rfl (dF a) rfl) (An rfl (rt (rs ?_)))))
 have d:=H.pk []
 obtain rfl:_=false:=hr.symm.trans (iN a)
 exact⟨rfl,d⟩
def dR (a:List UInt8):Int:=
 if((a.length:Nat):Int) < 1 then 20 else if((a.length:Nat):Int) > 12 then 20 else 0
theorem j4 (w D b d) (H:Own w D w []) (hr:dR b=d):
    Calls v5 112 #[.string ⟨v6 b⟩] w (dA fun v w'=>v=vI d∧Own w D w' []∧(¬ (d=0)∨(1≤b.length∧b.length≤12))∧(b.length < 1∨b.length > 12∨d=0)):=by
 refine cb Tryz.func112 ?_
 refine sr (An rfl (Ik (sr (Mz rfl (Kz (vJ b.length) (Kz (.bool (decide (((b.length:Nat):Int) < 1))) (Mz rfl ?_)))))))
 by_cases a:((b.length:Nat):Int) < 1
 refine Sz (dT a) (Sz (dT a) (Sz (dT a) (fw (.bool true) (Iw rfl (dT a) rfl) (nt (jt (sr (An rfl (rt (tR (rs ?_))))))))))
 have e:=H.pk []
 obtain rfl:_=20:=hr.symm.trans (ip a)
 exact⟨rfl,e,e6,e6⟩
 refine gw (.string ⟨v6 b⟩) (dF a) (IA rfl) (Gz (vJ b.length) (dF a) (Gz (.bool (decide (((b.length:Nat):Int) > 12))) (dF a) (fw (.bool (decide (((b.length:Nat):Int) > 12))) (Io rfl (dF a) rfl) (nt ?_))))
 by_cases c:((b.length:Nat):Int) > 12
 refine jT (dT c) (sr (An rfl (rt (tR (rs ?_)))))
 have f:=H.pk []
 obtain rfl:_=20:=hr.symm.trans (et (iN a) (ip c))
 exact⟨rfl,f,e6,e6⟩
 refine jF (dF c) (sk (sr (An rfl (rt (rs ?_)))))
 have g:=H.pk []
 obtain rfl:_=0:=hr.symm.trans (et (iN a) (iN c))
 exact⟨rfl,g,e6,e6⟩
def fo (l0:List aM):List aM→Nat→Unit ⊕ Int
  | [],a=>B7 ()
  | b::c,a=>bnd (mr b.bE) fun d=>if d=true then if((a:Nat):Int) > 0 then bnd (dR b.aJ) fun e=>if e=0 then bnd (B8 l0 (a - 1) default) fun f=>if b.aJ≤f.aJ then B9 (170) else fo l0 c (a+1) else B9 (170) else fo l0 c (a+1) else B9 (170)
def jc (l0:List aM):Int:=
 if((l0.length:Nat):Int) < 1 then 170 else if((l0.length:Nat):Int) > 6 then 170 else bnd (B8 l0 0 default) fun a=>if a.aJ≠([]) then 170 else lp (fo l0 l0 0) fun _=>0
theorem qY (w D h W G l0 X) (H:Own w D w []) (j:Ro w D fun w'=>aY w' 2 h W (q4 aM.cells l0)) (Y:W=l0.length) (aD:l0.length≤9223372036854775807) (hr:jc l0=X):
    Calls v5 72 #[.slice h W G] w (dA fun v w'=>v=vI X∧Own w D w' []∧(¬ (X=0)∨(1≤l0.length∧l0.length≤6))):=by
 subst Y
 refine cb Tryz.func72 ?_
 refine sr (An rfl (Ik (sr (Mz rfl (Kz (vJ l0.length) (Kz (.bool (decide (((l0.length:Nat):Int) < 1))) (Mz rfl ?_)))))))
 by_cases g:((l0.length:Nat):Int) < 1
 refine Sz (dT g) (Sz (dT g) (Sz (dT g) (fw (.bool true) (Iw rfl (dT g) rfl) (Mz rfl (Sz rfl (Sz rfl (Sz rfl (Sz rfl (Sz rfl (fw (.bool true) (Iw rfl rfl rfl) (nt (jt (sr (An rfl (rt (tR (rs ?_)))))))))))))))))
 have Z:=H.pk []
 obtain rfl:_=170:=hr.symm.trans (ip g)
 exact⟨rfl,Z,e6⟩
 refine gw (.slice h l0.length G) (dF g) (IA rfl) (Gz (vJ l0.length) (dF g) (Gz (.bool (decide (((l0.length:Nat):Int) > 6))) (dF g) (fw (.bool (decide (((l0.length:Nat):Int) > 6))) (Io rfl (dF g) rfl) (Mz rfl ?_))))
 by_cases d:((l0.length:Nat):Int) > 6
 refine Sz (dT d) (Sz (dT d) (Sz (dT d) (Sz (dT d) (Sz (dT d) (fw (.bool true) (Iw rfl (dT d) rfl) (nt (jt (sr (An rfl (rt (tR (rs ?_))))))))))))
 have aa:=H.pk []
 obtain rfl:_=170:=hr.symm.trans (et (iN g) (ip d))
 exact⟨rfl,aa,e6⟩
 refine gw (.slice h l0.length G) (dF d) (IA rfl) ?_
 obtain⟨C,l⟩:=dh (ls:=l0) (i:=0) aM.len f2 (H.ro j) e9
 refine gw (.pointer (some ⟨ab h,ao h+0 *2,none⟩)) (dF d) (Iz (nE) rfl rfl ((H.ro j).addr (i:=0) e6) e6) (Gz (.pointer (some ⟨ab h,ao h+0 *2,none⟩)) (dF d) (gw (.string ⟨v6 C.aJ⟩) (dF d) (IB rfl (bJ.one C0 (((H.ro j).elem aM.len l f2).at_ (k:=0) rfl))) (gw (.bool (decide (C.aJ≠([])))) (dF d) (I6 rfl rfl) (fw (.bool (decide (C.aJ≠([])))) (Io rfl (dF d) rfl) (nt ?_)))))
 by_cases r:C.aJ≠([])
 refine jT (dT r) (sr (An rfl (rt (tR (rs ?_)))))
 have af:=H.pk []
 obtain rfl:_=170:=hr.symm.trans (et (iN g) (et (iN d) (et (ae (aT l)) (ip r))))
 exact⟨rfl,af,e6⟩
 refine jF (dF r) (sk (Ik (sr (Mz rfl (Kz (vJ l0.length) (Mn rfl (bo ?_)))))))
 have ag:=H.pk []
 obtain⟨ah,u⟩:=lF fun (a:Nat) w'=>Own w D w' []∧a≤l0.length∧fo l0 l0 0=fo l0 (r4 a l0) a
 refine C1 (fun i:Nat=> [(2,vI 0),(21,vJ i),(20,vJ l0.length),(0, .slice h l0.length G)]) ah (fun i=>l0.length - i) 0 ⟨rfl,rfl,rfl,rfl,trivial⟩ (u.2 ⟨ag,e6,rfl⟩) ?_
 rintro a aF L
 obtain⟨z,ay,m⟩:=u.1 L
 refine sr (Kz (.bool (decide (((a:Nat):Int) < ((l0.length:Nat):Int)))) (nt (Ik ?_)))
 by_cases M:((a:Nat):Int) < ((l0.length:Nat):Int)
 obtain⟨f,x⟩:=dh (ls:=l0) (i:=a) aM.len f2 (z.ro j) e9
 have o:=drop_at x
 refine jT (dT M) (sk (Ik (bo (sr (Mz rfl (An rfl (Ik (sr (Mz rfl (Mz rfl (fw (.pointer (some ⟨ab h,ao h+a *2,none⟩)) (Iz (nE) rfl rfl ((z.ro j).addr (i:=a) e6) e6) (Kz (.pointer (some ⟨ab h,ao h+a *2+1,none⟩)) (fw (vI f.bE) (IB rfl (bJ.one C2 (((z.ro j).elem aM.len x f2).at_ (k:=1) rfl))) ?_)))))))))))))
 obtain⟨K,n⟩:∃ q,mr f.bE=q:=⟨_,rfl⟩
 obtain⟨aG,N,az,O,aA⟩:=Iu z
 refine cl Tryz.call111 (xg _ _ f.bE K N n) ?_
 rintro _ aH ⟨rfl,P⟩
 have Q:=O _ _ P
 refine Kz (.bool (!K)) (nt ?_)
 rcases Ls (K) with p | p
 refine jF (cn p) (sk (Ik ?_))
 refine G9 [] (IE (bv.block (IE (IE (bv.block (IE IQ)))))) Q ?_
 intro aI R
 refine qv 0 rfl rfl (qk (.bool (decide (((a:Nat):Int) > 0))) 1 rfl (qv 2 rfl rfl ?_))
 by_cases c:((a:Nat):Int) > 0
 refine Iy (v:= .slice h l0.length G) (rs:= []) 3 rfl rfl rfl (dT c) e7 (fun _ _=>IA rfl) (Iy (v:=vJ a) (rs:= []) 4 rfl rfl rfl (dT c) e7 (fun _ _=>IA rfl) (Iy (v:= .pointer (some ⟨ab h,ao h+a *2,none⟩)) (rs:= []) 5 rfl rfl rfl (dT c) e7 (fun _ ⟨_,A⟩=>Iz (nE) rfl rfl ((A.ro j).addr (i:=a) e6) e6) (Iy (v:= .pointer (some ⟨ab h,ao h+a *2,none⟩)) (rs:= []) 6 rfl rfl rfl (dT c) e7 (fun _ _=>yk) (Iy (v:= .string ⟨v6 f.aJ⟩) (rs:= []) 7 rfl rfl rfl (dT c) e7 (fun _ ⟨_,A⟩=>IB rfl (bJ.one C0 (((A.ro j).elem aM.len x f2).at_ (k:=0) rfl))) ?_))))
 obtain⟨s,y⟩:∃ q,dR f.aJ=q:=⟨_,rfl⟩
 obtain⟨aJ,S,aB,T,aC⟩:=Iu R
 refine Jl 8 rfl rfl rfl (dT c) e7 (IP Tryz.call112 rfl (j4 _ _ f.aJ s S y) ?_)
 rintro _ aK ⟨rfl,U,I,J⟩
 have E:=T _ _ U
 replace I: ¬ (s=0)∨(1≤f.aJ.length∧f.aJ.length≤12):=I
 replace J:f.aJ.length < 1∨f.aJ.length > 12∨s=0:=J
 refine⟨.inr ⟨_,E⟩, ?_⟩
 refine Iy (v:= .bool (decide (¬ (s=0)))) (rs:= []) 9 rfl rfl rfl (dT c) e7 (fun _ _=>IM (e:= !(decide (s=0))) yk decide_not.symm) (Iy (v:= .bool (decide (¬ (s=0)))) (rs:= []) 10 rfl rfl rfl (dT c) e7 (fun _ _=>IA rfl) ?_)
 by_cases b:s=0
 refine Iy (v:= .slice h l0.length G) (rs:= []) 11 rfl rfl rfl (dF (Lr b)) e7 (fun _ _=>IA rfl) (Iy (v:=vJ a) (rs:= []) 12 rfl rfl rfl (dF (Lr b)) e7 (fun _ _=>IA rfl) (Iy (v:= .pointer (some ⟨ab h,ao h+a *2,none⟩)) (rs:= []) 13 rfl rfl rfl (dF (Lr b)) e7 (fun _ ⟨_,A⟩=>Iz (nE) rfl rfl ((A.ro j).addr (i:=a) e6) e6) (Iy (v:= .pointer (some ⟨ab h,ao h+a *2,none⟩)) (rs:= []) 14 rfl rfl rfl (dF (Lr b)) e7 (fun _ _=>yk) (Iy (v:= .string ⟨v6 f.aJ⟩) (rs:= []) 15 rfl rfl rfl (dF (Lr b)) e7 (fun _ ⟨_,A⟩=>IB rfl (bJ.one C0 (((A.ro j).elem aM.len x f2).at_ (k:=0) rfl))) (Iy (v:= .slice h l0.length G) (rs:= []) 16 rfl rfl rfl (dF (Lr b)) e7 (fun _ _=>IA rfl) (Iy (v:=vJ a) (rs:= []) 17 rfl rfl rfl (dF (Lr b)) e7 (fun _ _=>IA rfl) (Iy (v:=vJ (a - 1)) (rs:= []) 18 rfl rfl rfl (dF (Lr b)) e7 (fun _ _=>Ir (e:=C3.wrap (((a:Nat):Int) - 1)) yk f0) ?_)))))))
 obtain⟨t,B⟩:=iG (ls:=l0) (i:=a - 1) e9
 refine Iy (v:= .pointer (some ⟨ab h,ao h+(a - 1) *2,none⟩)) (rs:= []) 19 rfl rfl rfl (dF (Lr b)) e7 (fun _ ⟨_,A⟩=>Iz (nE) rfl rfl ((A.ro j).addr (i:=a - 1) e6) e6) (Iy (v:= .pointer (some ⟨ab h,ao h+(a - 1) *2,none⟩)) (rs:= []) 20 rfl rfl rfl (dF (Lr b)) e7 (fun _ _=>yk) (Iy (v:= .string ⟨v6 t.aJ⟩) (rs:= []) 21 rfl rfl rfl (dF (Lr b)) e7 (fun _ ⟨_,A⟩=>IB rfl (bJ.one C0 (((A.ro j).elem aM.len B f2).at_ (k:=0) rfl))) (Iy (v:= .bool (decide (f.aJ≤t.aJ))) (rs:= []) 22 rfl rfl rfl (dF (Lr b)) e7 (fun _ _=>IM (e:=Op.bytesLess f.aJ t.aJ || decide (f.aJ=t.aJ)) (JD rfl rfl) (xI _ _)) (Iy (v:= .bool (decide (f.aJ≤t.aJ))) (rs:= []) 23 rfl rfl rfl (dT c) e7 (fun _ _=>Io rfl (dF (Lr b)) rfl) (qt (v:= .bool (decide (f.aJ≤t.aJ))) 24 rfl (fun _ _=>Iw rfl (dT c) rfl) (qn (Iq ?_)))))))
 by_cases F:f.aJ≤t.aJ
 refine jT (dT F) (sr (An rfl (rt (bR (tR (tR (bR (tR (rs ?_)))))))))
 have ai:=E.pk []
 obtain rfl:_=170:=hr.symm.trans (et (iN g) (et (iN d) (et (ae (aT l)) (et (iN r) (gL (et (m) (et (congrArg (fun q=>fo l0 q a) o) (et (ae n) (et (ip p) (et (ip c) (et (ae y) (et (ip b) (et (ae (aT B)) (ip F))))))))))))))
 exact⟨rfl,ai,e6⟩
 refine jF (dF F) (IU (bN (Iq (Il (fw (vJ (a+1)) (Ir (e:=C3.wrap (((a:Nat):Int)+1)) yk f0) (Mz rfl (C4 ?_)))))))
 have aj:=E.pk []
 exact II (a+1) ⟨rfl,rfl,rfl,rfl,trivial⟩ (u.2 ⟨aj,e6,et (m) (et (congrArg (fun q=>fo l0 q a) o) (et (ae n) (et (ip p) (et (ip c) (et (ae y) (et (ip b) (et (ae (aT B)) (iN F))))))))⟩) (by show l0.length - (a+1) < l0.length - a; omega)
 refine Ip (rs:= []) 11 rfl rfl rfl (dT b) e7 (Ip (rs:= []) 12 rfl rfl rfl (dT b) e7 (Ip (rs:= []) 13 rfl rfl rfl (dT b) e7 (Ip (rs:= []) 14 rfl rfl rfl (dT b) e7 (Ip (rs:= []) 15 rfl rfl rfl (dT b) e7 (Ip (rs:= []) 16 rfl rfl rfl (dT b) e7 (Ip (rs:= []) 17 rfl rfl rfl (dT b) e7 (Ip (rs:= []) 18 rfl rfl rfl (dT b) e7 (Ip (rs:= []) 19 rfl rfl rfl (dT b) e7 (Ip (rs:= []) 20 rfl rfl rfl (dT b) e7 (Ip (rs:= []) 21 rfl rfl rfl (dT b) e7 (Ip (rs:= []) 22 rfl rfl rfl (dT b) e7 (Iy (v:= .bool true) (rs:= []) 23 rfl rfl rfl (dT c) e7 (fun _ _=>Iw rfl (dT b) rfl) (qt (v:= .bool true) 24 rfl (fun _ _=>Iw rfl (dT c) rfl) (qn (Iq (jt (sr (An rfl (rt (bR (tR (tR (bR (tR (rs ?_)))))))))))))))))))))))))
 have ak:=E.pk []
 obtain rfl:_=170:=hr.symm.trans (et (iN g) (et (iN d) (et (ae (aT l)) (et (iN r) (gL (et (m) (et (congrArg (fun q=>fo l0 q a) o) (et (ae n) (et (ip p) (et (ip c) (et (ae y) (iN b))))))))))))
 exact⟨rfl,ak,e6⟩
 refine Ip (rs:= []) 3 rfl rfl rfl (dF c) e7 (Ip (rs:= []) 4 rfl rfl rfl (dF c) e7 (Ip (rs:= []) 5 rfl rfl rfl (dF c) e7 (Ip (rs:= []) 6 rfl rfl rfl (dF c) e7 (Ip (rs:= []) 7 rfl rfl rfl (dF c) e7 (Ip (rs:= []) 8 rfl rfl rfl (dF c) e7 (Ip (rs:= []) 9 rfl rfl rfl (dF c) e7 (Ip (rs:= []) 10 rfl rfl rfl (dF c) e7 (IR (rs:= []) 11 rfl rfl rfl e7 (IR (rs:= []) 12 rfl rfl rfl e7 (IR (rs:= []) 13 rfl rfl rfl e7 (IR (rs:= []) 14 rfl rfl rfl e7 (IR (rs:= []) 15 rfl rfl rfl e7 (IR (rs:= []) 16 rfl rfl rfl e7 (IR (rs:= []) 17 rfl rfl rfl e7 (IR (rs:= []) 18 rfl rfl rfl e7 (IR (rs:= []) 19 rfl rfl rfl e7 (IR (rs:= []) 20 rfl rfl rfl e7 (IR (rs:= []) 21 rfl rfl rfl e7 (IR (rs:= []) 22 rfl rfl rfl e7 (Ip (rs:= []) 23 rfl rfl rfl (dF c) e7 (qt (v:= .bool false) 24 rfl (fun _ _=>Io rfl (dF c) rfl) (qn (Iq (jf (IU (bN (Iq (Il (fw (vJ (a+1)) (Ir (e:=C3.wrap (((a:Nat):Int)+1)) yk f0) (Mz rfl (C4 ?_)))))))))))))))))))))))))))))))
 have au:=R.pk []
 exact II (a+1) ⟨rfl,rfl,rfl,rfl,trivial⟩ (u.2 ⟨au,e6,et (m) (et (congrArg (fun q=>fo l0 q a) o) (et (ae n) (et (ip p) (iN c))))⟩) (by show l0.length - (a+1) < l0.length - a; omega)
 refine jT (cn p) (sr (An rfl (rt (tR (bR (tR (tR (bR (tR (rs ?_))))))))))
 have av:=Q.pk []
 obtain rfl:_=170:=hr.symm.trans (et (iN g) (et (iN d) (et (ae (aT l)) (et (iN r) (gL (et (m) (et (congrArg (fun q=>fo l0 q a) o) (et (ae n) (fP p)))))))))
 exact⟨rfl,av,e6⟩
 refine jF (dF M) (C5 (IC ?_))
 have V:fo l0 l0 0=B7 ():=et (m) (et (congrArg (fun q=>fo l0 q a) (dZ (ls:=l0) (i:=a) e6)) rfl)
 refine IC (IK (Iq (sr (An rfl (rt (rs ?_))))))
 have ax:=z.pk []
 obtain rfl:_=0:=hr.symm.trans (et (iN g) (et (iN d) (et (ae (aT l)) (et (iN r) (mF V)))))
 exact⟨rfl,ax,e6⟩
def jq (c:bZ):List aM→Unit ⊕ Bool
  | []=>B7 ()
  | a::b=>if a.bE > c.au then B9 (false) else jq c b
def mR (b:bZ):Bool:=
 bnd (jc b.ag.ls) fun a=>if a=0 then lp (jq b b.ag.ls) fun _=>true else false
set_option maxHeartbeats 1000000 in
theorem vC (w D) (a:bZ) (b E f h F j p k G l r r0) (H:Own w D w []) (L:E=a.ag.ls.length) (g:Ro w D fun w'=>aY w' 2 b a.ag.ls.length (q4 aM.cells a.ag.ls)) (ah:a.ag.ls.length≤f∧a.ag.ls.length≤9223372036854775807) (M:s5 ay.abs p=a.ak.ls) (N:F=a.ak.ls.length) (ai:Ro w D fun w'=>aY w' 5 h a.ak.ls.length (q4 ay.cells p)) (aj:a.ak.ls.length≤j∧a.ak.ls.length≤9223372036854775807) (ak:∀ x ∈ p,Ro w D (fun w'=>aY w' 1 x.au.A x.au.ls.length (q4 (eI .i64) x.au.ls))∧(x.au.ls.length≤x.au.c∧x.au.ls.length≤9223372036854775807)) (O:s5 aS.abs r=a.aK.ls) (P:G=a.aK.ls.length) (au:Ro w D fun w'=>aY w' 4 k a.aK.ls.length (q4 aS.cells r)) (av:a.aK.ls.length≤l∧a.aK.ls.length≤9223372036854775807) (ax:∀ x ∈ r,Ro w D (fun w'=>aY w' 3 x.ah.A x.ah.ls.length (q4 af.cells x.ah.ls))∧(x.ah.ls.length≤x.ah.c∧x.ah.ls.length≤9223372036854775807)∧(∀ R ∈ x.ah.ls,Ro w D (fun w'=>aY w' 2 R.aj.A R.aj.ls.length (q4 aH.cells R.aj.ls))∧(R.aj.ls.length≤R.aj.c∧R.aj.ls.length≤9223372036854775807))) (aO:a.ag.ls.length≤140737488355328∧a.ak.ls.length≤140737488355328∧a.aK.ls.length≤140737488355328) (hr:mR a=r0):
    Calls v5 41 #[.agg #[vI a.au,vU a.ax,vU a.bG,vU a.aF, .slice b E f, .slice h F j, .slice k G l]] w (dA fun v w'=>v= .bool r0∧Own w D w' []):=by
 subst L N P
 have aa:=aA M
 have ag:=aA O
 refine cb Tryz.func41 ?_
 refine sr ?_
 refine dn [vI a.au,vU a.ax,vU a.bG,vU a.aF, .slice b a.ag.ls.length f, .slice h a.ak.ls.length j, .slice k a.aK.ls.length l] 33 H ?_
 intro n aP S
 refine An rfl (Ik (sr (Kz (vP n 4) (Lz (.slice b a.ag.ls.length f) S 0 Tryz.isAgg29 ?_))))
 obtain⟨s,m⟩:∃ q,jc a.ag.ls=q:=⟨_,rfl⟩
 obtain⟨aQ,T,U,V,aL⟩:=Iu S
 refine cl Tryz.call72 (qY _ _ b a.ag.ls.length f a.ag.ls s T (U _ g) rfl e6 m) ?_
 rintro _ aR ⟨rfl,W,I⟩
 have Q:=V _ _ W
 replace I: ¬ (s=0)∨(1≤a.ag.ls.length∧a.ag.ls.length≤6):=I
 refine fw (.bool (decide (¬ (s=0)))) (IM (e:= !(decide (s=0))) yk decide_not.symm) (nt ?_)
 by_cases t:s=0
 refine jF (dF (Lr t)) (sk (Ik (sr (Kz (vP n 4) (Lz (.slice b a.ag.ls.length f) Q 0 Tryz.isAgg29 (Kz (vJ a.ag.ls.length) (Mn rfl (bo ?_))))))))
 have az:=Q.pf []
 obtain⟨aB,u⟩:=lF fun (d:Nat) w'=>Own w D w' [blk n [vI a.au,vU a.ax,vU a.bG,vU a.aF, .slice b a.ag.ls.length f, .slice h a.ak.ls.length j, .slice k a.aK.ls.length l] 33]∧d≤a.ag.ls.length∧jq a a.ag.ls=jq a (r4 d a.ag.ls)
 refine C1 (fun i:Nat=> [(2, .bool false),(12,vJ i),(11,vJ a.ag.ls.length),(10, .slice b a.ag.ls.length f),(1,vP n 0)]) aB (fun i=>a.ag.ls.length - i) 0 ⟨rfl,rfl,rfl,rfl,rfl,trivial⟩ (u.2 ⟨az,e6,rfl⟩) ?_
 rintro d aT X
 obtain⟨y,aN,z⟩:=u.1 X
 refine sr (Kz (.bool (decide (((d:Nat):Int) < ((a.ag.ls.length:Nat):Int)))) (nt (Ik ?_)))
 by_cases Y:((d:Nat):Int) < ((a.ag.ls.length:Nat):Int)
 obtain⟨o,J⟩:=dh (ls:=a.ag.ls) (i:=d) aM.len f2 (y.ro g) e9
 have K:=drop_at J
 refine jT (dT Y) (sk (Ik (bo (sr (fw (.pointer (some ⟨ab b,ao b+d *2,none⟩)) (Iz (nE) rfl rfl ((y.ro g).addr (i:=d) e6) e6) (fw (.agg (aM.cells o).toArray) (IB rfl (IJ (cs:=(aM.cells o)) Tryz.isAgg89 Tryz.sizeOf89 ((y.ro g).elem aM.len J f2))) ?_))))))
 refine dn [.string ⟨v6 ([])⟩,vI 0] 89 y ?_
 intro aC aU aD
 refine df (aM.cells o) 0 aD Tryz.sizeOf89 ?_
 intro aV B
 refine ns (Kz (vP aC 1) (Lz (vI o.bE) B 0 C2 (Kz (vP n 0) (Lz (vI a.au) B 1 C2 (Kz (.bool (decide (o.bE > a.au))) (nt ?_))))))
 by_cases C:o.bE > a.au
 refine jT (dT C) (sr (An rfl (rt (bR (tR (tR (bR (tR (rs ?_)))))))))
 have aF:=B.pk []
 obtain rfl:_=false:=hr.symm.trans (et (ae m) (et (ip t) (gL (et (z) (et (congrArg (fun q=>jq a q) K) (ip C))))))
 exact⟨rfl,aF⟩
 refine jF (dF C) (IU (bN (Iq (Il (fw (vJ (d+1)) (Ir (e:=C3.wrap (((d:Nat):Int)+1)) yk f0) (Mz rfl (C4 ?_)))))))
 have aG:=B.pk [1]
 exact II (d+1) ⟨rfl,rfl,rfl,rfl,rfl,trivial⟩ (u.2 ⟨aG,e6,et (z) (et (congrArg (fun q=>jq a q) K) (iN C))⟩) (by show a.ag.ls.length - (d+1) < a.ag.ls.length - d; omega)
 refine jF (dF Y) (C5 (IC ?_))
 have Z:jq a a.ag.ls=B7 ():=et (z) (et (congrArg (fun q=>jq a q) (dZ (ls:=a.ag.ls) (i:=d) e6)) rfl)
 refine IC (IK (Iq (sr (An rfl (rt (rs ?_))))))
 have aI:=y.pk []
 obtain rfl:_=true:=hr.symm.trans (et (ae m) (et (ip t) (mF Z)))
 exact⟨rfl,aI⟩
 refine jT (dT t) (sr (An rfl (rt (tR (rs ?_)))))
 have aJ:=Q.pk []
 obtain rfl:_=false:=hr.symm.trans (et (ae m) (iN t))
 exact⟨rfl,aJ⟩
def dI (h:bZ) (c:Nat) (b:bH):List Int→Nat→Unit ⊕ Bool
  | [],a=>B7 ()
  | d::e,a=>bnd (iM d h.au) fun f=>if f=true then if((a:Nat):Int) > 0 then bnd (B8 b.au.ls (a - 1) default) fun g=>if d≤g then B9 (false) else dI h c b e (a+1) else dI h c b e (a+1) else B9 (false)
def gm (h:bZ) (g:Nat) (d:bH):List Int→Nat→Unit ⊕ Bool
  | [],a=>B7 ()
  | b::c,a=>bnd (iM b h.au) fun e=>if e=true then if((a:Nat):Int) > 0 then bnd (B8 d.au.ls (a - 1) default) fun f=>if b≤f then B9 (false) else gm h g d c (a+1) else gm h g d c (a+1) else B9 (false)
def dC (c:bZ):List bH→Nat→Unit ⊕ Bool
  | [],b=>B7 ()
  | a::e,b=>if((b:Nat):Int) > 0 then bnd (B8 c.ak.ls (b - 1) default) fun f=>if((a.aX:Nat):Int)≤((f.aX:Nat):Int) then B9 (false) else if((a.aX:Nat):Int) ≥ ((fQ (C6 (C7.wrap (((c.ax:Nat):Int)+1))) 32:Nat):Int) then B9 (false) else bnd (iM a.aP 4) fun g=>if g=true then if((a.au.ls.length:Nat):Int)=0 then B9 (false) else sW (dI c b a a.au.ls 0) fun _=>dC c e (b+1) else B9 (false) else if((a.aX:Nat):Int) ≥ ((fQ (C6 (C7.wrap (((c.ax:Nat):Int)+1))) 32:Nat):Int) then B9 (false) else bnd (iM a.aP 4) fun d=>if d=true then if((a.au.ls.length:Nat):Int)=0 then B9 (false) else sW (gm c b a a.au.ls 0) fun _=>dC c e (b+1) else B9 (false)
def nM (a:bZ):Bool:=
 if((a.ak.ls.length:Nat):Int) > 8 then false else lp (dC a a.ak.ls 0) fun _=>true
set_option maxHeartbeats 1000000 in
theorem uS (w D) (d:bZ) (S bg T f bi p ah U bn V aP r0) (H:Own w D w []) (bz:bg=d.ag.ls.length) (dQ:Ro w D fun w'=>aY w' 2 S d.ag.ls.length (q4 aM.cells d.ag.ls)) (dR:d.ag.ls.length≤T∧d.ag.ls.length≤9223372036854775807) (aB:s5 ay.abs ah=d.ak.ls) (bA:bi=d.ak.ls.length) (O:Ro w D fun w'=>aY w' 5 f d.ak.ls.length (q4 ay.cells ah)) (dS:d.ak.ls.length≤p∧d.ak.ls.length≤9223372036854775807) (o:∀ x ∈ ah,Ro w D (fun w'=>aY w' 1 x.au.A x.au.ls.length (q4 (eI .i64) x.au.ls))∧(x.au.ls.length≤x.au.c∧x.au.ls.length≤9223372036854775807)) (bB:s5 aS.abs aP=d.aK.ls) (bC:bn=d.aK.ls.length) (dU:Ro w D fun w'=>aY w' 4 U d.aK.ls.length (q4 aS.cells aP)) (dV:d.aK.ls.length≤V∧d.aK.ls.length≤9223372036854775807) (dW:∀ x ∈ aP,Ro w D (fun w'=>aY w' 3 x.ah.A x.ah.ls.length (q4 af.cells x.ah.ls))∧(x.ah.ls.length≤x.ah.c∧x.ah.ls.length≤9223372036854775807)∧(∀ y1 ∈ x.ah.ls,Ro w D (fun w'=>aY w' 2 y1.aj.A y1.aj.ls.length (q4 aH.cells y1.aj.ls))∧(y1.aj.ls.length≤y1.aj.c∧y1.aj.ls.length≤9223372036854775807))) (fK:d.ag.ls.length≤140737488355328∧d.ak.ls.length≤140737488355328∧d.aK.ls.length≤140737488355328) (hr:nM d=r0):
    Calls v5 42 #[.agg #[vI d.au,vU d.ax,vU d.bG,vU d.aF, .slice S bg T, .slice f bi p, .slice U bn V]] w (dA fun v w'=>v= .bool r0∧Own w D w' []):=by
 subst bz bA bC
 have dO:=aA aB
 have dP:=aA bB
 refine cb Tryz.func42 ?_
 refine sr ?_
 refine dn [vI d.au,vU d.ax,vU d.bG,vU d.aF, .slice S d.ag.ls.length T, .slice f d.ak.ls.length p, .slice U d.aK.ls.length V] 33 H ?_
 intro y fM bf
 refine An rfl (Ik (sr (Kz (vP y 5) (Lz (.slice f d.ak.ls.length p) bf 0 D0 (Kz (vJ d.ak.ls.length) (Kz (.bool (decide (((d.ak.ls.length:Nat):Int) > 8))) (nt ?_)))))))
 by_cases G:((d.ak.ls.length:Nat):Int) > 8
 refine jT (dT G) (sr (An rfl (rt (tR (rs ?_)))))
 have dX:=bf.pk []
 obtain rfl:_=false:=hr.symm.trans (ip G)
 exact⟨rfl,dX⟩
 refine jF (dF G) (sk (Ik (sr (Kz (vP y 5) (Lz (.slice f d.ak.ls.length p) bf 0 D0 (Kz (vJ d.ak.ls.length) (Mn rfl (bo ?_))))))))
 have dY:=bf.pf []
 obtain⟨d9,aG⟩:=lF fun (b:Nat) w'=>Own w D w' [blk y [vI d.au,vU d.ax,vU d.bG,vU d.aF, .slice S d.ag.ls.length T, .slice f d.ak.ls.length p, .slice U d.aK.ls.length V] 33]∧b≤d.ak.ls.length∧dC d d.ak.ls 0=dC d (r4 b d.ak.ls) b
 refine C1 (fun i:Nat=> [(2, .bool false),(14,vJ i),(13,vJ d.ak.ls.length),(12, .slice f d.ak.ls.length p),(1,vP y 0)]) d9 (fun i=>d.ak.ls.length - i) 0 ⟨rfl,rfl,rfl,rfl,rfl,trivial⟩ (aG.2 ⟨dY,e6,rfl⟩) ?_
 rintro b fO bS
 obtain⟨aQ,eZ,z⟩:=aG.1 bS
 refine sr (Kz (.bool (decide (((b:Nat):Int) < ((d.ak.ls.length:Nat):Int)))) (nt (Ik ?_)))
 by_cases bT:((b:Nat):Int) < ((d.ak.ls.length:Nat):Int)
 obtain⟨a,t⟩:=dh (ls:=ah) (i:=b) ay.len f2 (aQ.ro O) e9
 have bU:=eY aB t
 have fe:=(o _ (D1 t)).2
 have C:=drop_at bU
 refine jT (dT bT) (sk (Ik (bo (sr (Mz rfl (fw (.pointer (some ⟨ab f,ao f+b *5,none⟩)) (Iz (kM) rfl rfl ((aQ.ro O).addr (i:=b) e6) e6) (fw (.agg (ay.cells a).toArray) (IB rfl (IJ (cs:=(ay.cells a)) Tryz.isAgg60 Tryz.sizeOf60 ((aQ.ro O).elem ay.len t f2))) ?_)))))))
 refine dn [.int .u64 0,vI 0, .int .u64 0, .int .u64 0, .slice none 0 0] 60 aQ ?_
 intro j fT ed
 refine Az rfl ?_
 refine df (ay.cells a) 0 ed Tryz.sizeOf60 ?_
 intro fU ek
 refine nt (Ik (Ik ?_))
 refine pM [] (IE (IE (bv.block (IE (IE (bv.block (IE IQ))))))) ek ?_
 intro fV aC
 refine qv 0 rfl rfl (qk (.bool (decide (((b:Nat):Int) > 0))) 1 rfl (qv 2 rfl rfl ?_))
 by_cases l:((b:Nat):Int) > 0
 refine Iy (v:=vP j 0) (rs:= []) 3 rfl rfl rfl (dT l) e7 (fun _ _=>yk) (Iy (v:=vU a.aX) (rs:= []) 4 rfl rfl rfl (dT l) e7 (fun _ ⟨_,H9⟩=>IB rfl (bJ.one D2 (I1 (H9.cls (i:=0) rfl) rfl))) (Iy (v:=vP y 5) (rs:= []) 5 rfl rfl rfl (dT l) e7 (fun _ _=>yk) (Iy (v:= .slice f d.ak.ls.length p) (rs:= []) 6 rfl rfl rfl (dT l) e7 (fun _ ⟨_,H9⟩=>IB rfl (bJ.one D0 (I1 (H9.cls (i:=1) rfl) rfl))) (Iy (v:=vJ b) (rs:= []) 7 rfl rfl rfl (dT l) e7 (fun _ _=>IA rfl) (Iy (v:=vJ (b - 1)) (rs:= []) 8 rfl rfl rfl (dT l) e7 (fun _ _=>Ir (e:=C3.wrap (((b:Nat):Int) - 1)) yk f0) ?_)))))
 obtain⟨N,aR⟩:=iG (ls:=ah) (i:=b - 1) e9
 have P:=eY aB aR
 have fo:=(o _ (D1 aR)).2
 refine Iy (v:= .pointer (some ⟨ab f,ao f+(b - 1) *5,none⟩)) (rs:= []) 9 rfl rfl rfl (dT l) e7 (fun _ ⟨_,H9⟩=>Iz (kM) rfl rfl ((H9.ro O).addr (i:=b - 1) e6) e6) (Iy (v:= .pointer (some ⟨ab f,ao f+(b - 1) *5,none⟩)) (rs:= []) 10 rfl rfl rfl (dT l) e7 (fun _ _=>yk) (Iy (v:=vU N.aX) (rs:= []) 11 rfl rfl rfl (dT l) e7 (fun _ ⟨_,H9⟩=>IB rfl (bJ.one D2 (((H9.ro O).elem ay.len aR f2).at_ (k:=0) rfl))) (Iy (v:= .bool (decide (((a.aX:Nat):Int)≤((N.aX:Nat):Int)))) (rs:= []) 12 rfl rfl rfl (dT l) e7 (fun _ _=>yk) (qt (v:= .bool (decide (((a.aX:Nat):Int)≤((N.aX:Nat):Int)))) 13 rfl (fun _ _=>Iw rfl (dT l) rfl) (qv 14 rfl rfl ?_)))))
 by_cases u:((a.aX:Nat):Int)≤((N.aX:Nat):Int)
 refine Ip (rs:= []) 15 rfl rfl rfl (dT u) e7 (Ip (rs:= []) 16 rfl rfl rfl (dT u) e7 (Ip (rs:= []) 17 rfl rfl rfl (dT u) e7 (Ip (rs:= []) 18 rfl rfl rfl (dT u) e7 (Ip (rs:= []) 19 rfl rfl rfl (dT u) e7 (Ip (rs:= []) 20 rfl rfl rfl (dT u) e7 (Ip (rs:= []) 21 rfl rfl rfl (dT u) e7 (qt (v:= .bool true) 22 rfl (fun _ _=>Iw rfl (dT u) rfl) (qn (Iq (jt (sr (An rfl (rt (tR (bR (tR (tR (bR (tR (rs ?_))))))))))))))))))))
 have eu:=aC.pk []
 obtain rfl:_=false:=hr.symm.trans (et (iN G) (gL (et (z) (et (congrArg (fun q=>dC d q b) C) (et (ip l) (et (ae (aT P)) (ip u)))))))
 exact⟨rfl,eu⟩
 refine Iy (v:=vP j 0) (rs:= []) 15 rfl rfl rfl (dF u) e7 (fun _ _=>yk) (Iy (v:=vU a.aX) (rs:= []) 16 rfl rfl rfl (dF u) e7 (fun _ ⟨_,H9⟩=>IB rfl (bJ.one D2 (I1 (H9.cls (i:=0) rfl) rfl))) (Iy (v:=vP y 1) (rs:= []) 17 rfl rfl rfl (dF u) e7 (fun _ _=>yk) (Iy (v:=vU d.ax) (rs:= []) 18 rfl rfl rfl (dF u) e7 (fun _ ⟨_,H9⟩=>IB rfl (bJ.one D2 (I1 (H9.cls (i:=1) rfl) rfl))) (Iy (v:= .int .u64 ((C6 (C7.wrap (((d.ax:Nat):Int)+1)):Nat):Int)) (rs:= []) 19 rfl rfl rfl (dF u) e7 (fun _ _=>Ir (e:=C7.wrap (((d.ax:Nat):Int)+1)) yk (fB _)) ?_))))
 have fq:fQ (C6 (C7.wrap (((d.ax:Nat):Int)+1))) 32≤18446744073709551615:=pq _ _
 refine Iy (v:= .int .u64 ((fQ (C6 (C7.wrap (((d.ax:Nat):Int)+1))) 32:Nat):Int)) (rs:= []) 20 rfl rfl rfl (dF u) e7 (fun _ _=>Ir (JO (m:=32) rfl rfl) (fB _)) (Iy (v:= .bool (decide (((a.aX:Nat):Int) ≥ ((fQ (C6 (C7.wrap (((d.ax:Nat):Int)+1))) 32:Nat):Int)))) (rs:= []) 21 rfl rfl rfl (dF u) e7 (fun _ _=>yk) (qt (v:= .bool (decide (((a.aX:Nat):Int) ≥ ((fQ (C6 (C7.wrap (((d.ax:Nat):Int)+1))) 32:Nat):Int)))) 22 rfl (fun _ _=>Io rfl (dF u) rfl) (qn (Iq ?_))))
 by_cases ai:((a.aX:Nat):Int) ≥ ((fQ (C6 (C7.wrap (((d.ax:Nat):Int)+1))) 32:Nat):Int)
 refine jT (dT ai) (sr (An rfl (rt (tR (bR (tR (tR (bR (tR (rs ?_))))))))))
 have eB:=aC.pk []
 obtain rfl:_=false:=hr.symm.trans (et (iN G) (gL (et (z) (et (congrArg (fun q=>dC d q b) C) (et (ip l) (et (ae (aT P)) (et (iN u) (ip ai))))))))
 exact⟨rfl,eB⟩
 refine jF (dF ai) (sk (Ik (sr (Kz (vP j 1) (Lz (vI a.aP) aC 0 C2 ?_)))))
 obtain⟨Z,W⟩:∃ q,iM a.aP 4=q:=⟨_,rfl⟩
 obtain⟨fZ,bV,fu,bW,fA⟩:=Iu aC
 refine cl D3 (l6 _ _ a.aP 4 Z bV W) ?_
 rintro _ gp ⟨rfl,bX⟩
 have aU:=bW _ _ bX
 refine Kz (.bool (!Z)) (Mz rfl ?_)
 rcases Ls (Z) with F | F
 refine Gz (vP j 4) (cn F) (Gl (.slice a.au.A a.au.ls.length a.au.c) (cn F) aU 0 D4 (Gz (vJ a.au.ls.length) (cn F) (Gz (.bool (decide (((a.au.ls.length:Nat):Int)=0))) (cn F) (fw (.bool (decide (((a.au.ls.length:Nat):Int)=0))) (Io rfl (cn F) rfl) (nt ?_)))))
 by_cases aN:((a.au.ls.length:Nat):Int)=0
 refine jT (dT aN) (sr (An rfl (rt (tR (bR (tR (tR (bR (tR (rs ?_))))))))))
 have eD:=aU.pk []
 obtain rfl:_=false:=hr.symm.trans (et (iN G) (gL (et (z) (et (congrArg (fun q=>dC d q b) C) (et (ip l) (et (ae (aT P)) (et (iN u) (et (iN ai) (et (ae W) (et (ip F) (ip aN)))))))))))
 exact⟨rfl,eD⟩
 refine jF (dF aN) (sk (sr (Kz (vP j 4) (Lz (.slice a.au.A a.au.ls.length a.au.c) aU 0 D4 (Kz (vJ a.au.ls.length) (Mn rfl (bo ?_)))))))
 have eF:=aU.pf []
 obtain⟨eG,aI⟩:=lF fun (h:Nat) w'=>Own w D w' [blk j (ay.cells a) 60,blk y [vI d.au,vU d.ax,vU d.bG,vU d.aF, .slice S d.ag.ls.length T, .slice f d.ak.ls.length p, .slice U d.aK.ls.length V] 33]∧h≤a.au.ls.length∧dI d b (ay.abs a) a.au.ls 0=dI d b (ay.abs a) (r4 h a.au.ls) h
 refine C1 (fun i:Nat=> [(2, .bool false),(55,vJ i),(54,vJ a.au.ls.length),(53, .slice a.au.A a.au.ls.length a.au.c),(52,vP j 4),(51, .bool (decide (((a.au.ls.length:Nat):Int)=0))),(50, .bool (decide (((a.au.ls.length:Nat):Int)=0))),(49,vJ a.au.ls.length),(48, .slice a.au.A a.au.ls.length a.au.c),(47,vP j 4),(46, .bool (!Z)),(45, .bool (!Z)),(44, .bool Z),(43,vI a.aP),(42,vP j 1),(41, .bool (decide (((a.aX:Nat):Int) ≥ ((fQ (C6 (C7.wrap (((d.ax:Nat):Int)+1))) 32:Nat):Int)))),(40, .bool (decide (((a.aX:Nat):Int) ≥ ((fQ (C6 (C7.wrap (((d.ax:Nat):Int)+1))) 32:Nat):Int)))),(39, .int .u64 ((fQ (C6 (C7.wrap (((d.ax:Nat):Int)+1))) 32:Nat):Int)),(38, .int .u64 ((C6 (C7.wrap (((d.ax:Nat):Int)+1)):Nat):Int)),(37,vU d.ax),(36,vP y 1),(35,vU a.aX),(34,vP j 0),(33, .bool (decide (((a.aX:Nat):Int)≤((N.aX:Nat):Int)))),(32, .bool (decide (((a.aX:Nat):Int)≤((N.aX:Nat):Int)))),(31, .bool (decide (((a.aX:Nat):Int)≤((N.aX:Nat):Int)))),(30,vU N.aX),(29, .pointer (some ⟨ab f,ao f+(b - 1) *5,none⟩)),(28, .pointer (some ⟨ab f,ao f+(b - 1) *5,none⟩)),(27,vJ (b - 1)),(26,vJ b),(25, .slice f d.ak.ls.length p),(24,vP y 5),(23,vU a.aX),(22,vP j 0),(21, .bool (decide (((b:Nat):Int) > 0))),(20, .bool (decide (((b:Nat):Int) > 0))),(19,vJ b),(3,vJ b),(4,vP j 0),(18, .agg (ay.cells a).toArray),(17, .pointer (some ⟨ab f,ao f+b *5,none⟩)),(16,vJ b),(15, .bool (decide (((b:Nat):Int) < ((d.ak.ls.length:Nat):Int)))),(14,vJ b),(13,vJ d.ak.ls.length),(12, .slice f d.ak.ls.length p),(1,vP y 0)]) eG (fun i=>a.au.ls.length - i) 0 ⟨rfl,rfl,rfl,rfl,rfl,rfl,rfl,rfl,rfl,rfl,rfl,rfl,rfl,rfl,rfl,rfl,rfl,rfl,rfl,rfl,rfl,rfl,rfl,rfl,rfl,rfl,rfl,rfl,rfl,rfl,rfl,rfl,rfl,rfl,rfl,rfl,rfl,rfl,rfl,rfl,rfl,rfl,rfl,rfl,rfl,rfl,rfl,rfl,trivial⟩ (aI.2 ⟨eF,e6,rfl⟩) ?_
 rintro h gq bY
 obtain⟨aO,fC,aj⟩:=aI.1 bY
 refine sr (Kz (.bool (decide (((h:Nat):Int) < ((a.au.ls.length:Nat):Int)))) (nt (Ik ?_)))
 by_cases cu:((h:Nat):Int) < ((a.au.ls.length:Nat):Int)
 obtain⟨ak,bq⟩:=dh (ls:=a.au.ls) (i:=h) iL f2 (aO.ro (o _ (D1 t)).1) e9
 have aJ:=drop_at bq
 refine jT (dT cu) (sk (Ik (bo (sr (Mz rfl (fw (.pointer (some ⟨ab a.au.A,ao a.au.A+h *1,none⟩)) (Iz (mq) rfl rfl ((aO.ro (o _ (D1 t)).1).addr (i:=h) e6) e6) (fw (vI ak) (IB rfl (bJ.one C2 (((aO.ro (o _ (D1 t)).1).elem iL bq f2).at_ (k:=0) rfl))) (Az rfl (Ar rfl (Mz rfl (Kz (vP y 0) (Lz (vI d.au) aO 1 C2 ?_))))))))))))
 obtain⟨bD,au⟩:∃ q,iM ak d.au=q:=⟨_,rfl⟩
 obtain⟨gu,cz,fD,cB,fE⟩:=Iu aO
 refine cl D3 (l6 _ _ ak d.au bD cz au) ?_
 rintro _ gy ⟨rfl,cK⟩
 have av:=cB _ _ cK
 refine Kz (.bool (!bD)) (Mz rfl ?_)
 rcases Ls (bD) with E | E
 refine gw (vJ h) (cn E) (IA rfl) (Gz (.bool (decide (((h:Nat):Int) > 0))) (cn E) (gw (.bool (decide (((h:Nat):Int) > 0))) (cn E) (IA rfl) ?_))
 by_cases B:((h:Nat):Int) > 0
 refine gw (vI ak) (dT B) (IA rfl) (Gz (vP j 4) (dT B) (Gl (.slice a.au.A a.au.ls.length a.au.c) (dT B) av 0 D4 (gw (vJ h) (dT B) (IA rfl) (gw (vJ (h - 1)) (dT B) (Ir (e:=C3.wrap (((h:Nat):Int) - 1)) yk f0) ?_))))
 obtain⟨aV,aW⟩:=dh (ls:=a.au.ls) (i:=h - 1) iL f2 (av.ro (o _ (D1 t)).1) e9
 refine gw (.pointer (some ⟨ab a.au.A,ao a.au.A+(h - 1) *1,none⟩)) (dT B) (Iz (mq) rfl rfl ((av.ro (o _ (D1 t)).1).addr (i:=h - 1) e6) e6) (gw (vI aV) (dT B) (IB rfl (bJ.one C2 (((av.ro (o _ (D1 t)).1).elem iL aW f2).at_ (k:=0) rfl))) (Gz (.bool (decide (ak≤aV))) (dT B) (gw (.bool (decide (ak≤aV))) (cn E) (Iw rfl (dT B) rfl) (fw (.bool (decide (ak≤aV))) (Io rfl (cn E) rfl) (nt ?_)))))
 by_cases aK:ak≤aV
 refine jT (dT aK) (sr (An rfl (rt (bR (tR (tR (bR (bR (tR (tR (bR (tR (rs ?_)))))))))))))
 have cO:=av.pk []
 obtain rfl:_=false:=hr.symm.trans (et (iN G) (gL (et (z) (et (congrArg (fun q=>dC d q b) C) (et (ip l) (et (ae (aT P)) (et (iN u) (et (iN ai) (et (ae W) (et (ip F) (et (iN aN) (oU (et (aj) (et (congrArg (fun q=>dI d b (ay.abs a) q h) aJ) (et (ae au) (et (ip E) (et (ip B) (et (ae (aT aW)) (ip aK)))))))))))))))))))
 exact⟨rfl,cO⟩
 refine jF (dF aK) (IU (bN (Iq (Il (fw (vJ (h+1)) (Ir (e:=C3.wrap (((h:Nat):Int)+1)) yk f0) (Mz rfl (C4 ?_)))))))
 have cZ:=av.pf []
 exact II (h+1) ⟨rfl,rfl,rfl,rfl,rfl,rfl,rfl,rfl,rfl,rfl,rfl,rfl,rfl,rfl,rfl,rfl,rfl,rfl,rfl,rfl,rfl,rfl,rfl,rfl,rfl,rfl,rfl,rfl,rfl,rfl,rfl,rfl,rfl,rfl,rfl,rfl,rfl,rfl,rfl,rfl,rfl,rfl,rfl,rfl,rfl,rfl,rfl,rfl,trivial⟩ (aI.2 ⟨cZ,e6,et (aj) (et (congrArg (fun q=>dI d b (ay.abs a) q h) aJ) (et (ae au) (et (ip E) (et (ip B) (et (ae (aT aW)) (iN aK))))))⟩) (by show a.au.ls.length - (h+1) < a.au.ls.length - h; omega)
 refine Sz (dF B) (Sz (dF B) (Sz (dF B) (Sz (dF B) (Sz (dF B) (Sz (dF B) (Sz (dF B) (Sz (dF B) (gw (.bool false) (cn E) (Io rfl (dF B) rfl) (fw (.bool false) (Io rfl (cn E) rfl) (nt (jf (IU (bN (Iq (Il (fw (vJ (h+1)) (Ir (e:=C3.wrap (((h:Nat):Int)+1)) yk f0) (Mz rfl (C4 ?_))))))))))))))))))
 have di:=av.pf []
 exact II (h+1) ⟨rfl,rfl,rfl,rfl,rfl,rfl,rfl,rfl,rfl,rfl,rfl,rfl,rfl,rfl,rfl,rfl,rfl,rfl,rfl,rfl,rfl,rfl,rfl,rfl,rfl,rfl,rfl,rfl,rfl,rfl,rfl,rfl,rfl,rfl,rfl,rfl,rfl,rfl,rfl,rfl,rfl,rfl,rfl,rfl,rfl,rfl,rfl,rfl,trivial⟩ (aI.2 ⟨di,e6,et (aj) (et (congrArg (fun q=>dI d b (ay.abs a) q h) aJ) (et (ae au) (et (ip E) (iN B))))⟩) (by show a.au.ls.length - (h+1) < a.au.ls.length - h; omega)
 refine Sz (cn E) (Sz (cn E) (Sz (cn E) (IG rfl rfl rfl (IG rfl rfl rfl (IG rfl rfl rfl (IG rfl rfl rfl (IG rfl rfl rfl (IG rfl rfl rfl (IG rfl rfl rfl (IG rfl rfl rfl (Sz (cn E) (fw (.bool true) (Iw rfl (cn E) rfl) (nt (jt (sr (An rfl (rt (bR (tR (tR (bR (bR (tR (tR (bR (tR (rs ?_)))))))))))))))))))))))))))
 have dm:=av.pk []
 obtain rfl:_=false:=hr.symm.trans (et (iN G) (gL (et (z) (et (congrArg (fun q=>dC d q b) C) (et (ip l) (et (ae (aT P)) (et (iN u) (et (iN ai) (et (ae W) (et (ip F) (et (iN aN) (oU (et (aj) (et (congrArg (fun q=>dI d b (ay.abs a) q h) aJ) (et (ae au) (fP E))))))))))))))))
 exact⟨rfl,dm⟩
 refine jF (dF cu) (C5 (IC ?_))
 have bE:dI d b (ay.abs a) a.au.ls 0=B7 ():=et (aj) (et (congrArg (fun q=>dI d b (ay.abs a) q h) (dZ (ls:=a.au.ls) (i:=h) e6)) rfl)
 refine IC (IK (bN (Iq (Il (fw (vJ (b+1)) (Ir (e:=C3.wrap (((b:Nat):Int)+1)) yk f0) (Mz rfl (C4 ?_)))))))
 have dw:=aO.pk [1]
 exact II (b+1) ⟨rfl,rfl,rfl,rfl,rfl,trivial⟩ (aG.2 ⟨dw,e6,et (z) (et (congrArg (fun q=>dC d q b) C) (et (ip l) (et (ae (aT P)) (et (iN u) (et (iN ai) (et (ae W) (et (ip F) (et (iN aN) (sH bE)))))))))⟩) (by show d.ak.ls.length - (b+1) < d.ak.ls.length - b; omega)
 refine Sz (cn F) (Sz (cn F) (Sz (cn F) (Sz (cn F) (fw (.bool true) (Iw rfl (cn F) rfl) (nt (jt (sr (An rfl (rt (tR (bR (tR (tR (bR (tR (rs ?_))))))))))))))))
 have dx:=aU.pk []
 obtain rfl:_=false:=hr.symm.trans (et (iN G) (gL (et (z) (et (congrArg (fun q=>dC d q b) C) (et (ip l) (et (ae (aT P)) (et (iN u) (et (iN ai) (et (ae W) (fP F))))))))))
 exact⟨rfl,dx⟩
 refine Ip (rs:= []) 3 rfl rfl rfl (dF l) e7 (Ip (rs:= []) 4 rfl rfl rfl (dF l) e7 (Ip (rs:= []) 5 rfl rfl rfl (dF l) e7 (Ip (rs:= []) 6 rfl rfl rfl (dF l) e7 (Ip (rs:= []) 7 rfl rfl rfl (dF l) e7 (Ip (rs:= []) 8 rfl rfl rfl (dF l) e7 (Ip (rs:= []) 9 rfl rfl rfl (dF l) e7 (Ip (rs:= []) 10 rfl rfl rfl (dF l) e7 (Ip (rs:= []) 11 rfl rfl rfl (dF l) e7 (Ip (rs:= []) 12 rfl rfl rfl (dF l) e7 (qt (v:= .bool false) 13 rfl (fun _ _=>Io rfl (dF l) rfl) (qv 14 rfl rfl (Iy (v:=vP j 0) (rs:= []) 15 rfl rfl rfl rfl e7 (fun _ _=>yk) (Iy (v:=vU a.aX) (rs:= []) 16 rfl rfl rfl rfl e7 (fun _ ⟨_,H9⟩=>IB rfl (bJ.one D2 (I1 (H9.cls (i:=0) rfl) rfl))) (Iy (v:=vP y 1) (rs:= []) 17 rfl rfl rfl rfl e7 (fun _ _=>yk) (Iy (v:=vU d.ax) (rs:= []) 18 rfl rfl rfl rfl e7 (fun _ ⟨_,H9⟩=>IB rfl (bJ.one D2 (I1 (H9.cls (i:=1) rfl) rfl))) (Iy (v:= .int .u64 ((C6 (C7.wrap (((d.ax:Nat):Int)+1)):Nat):Int)) (rs:= []) 19 rfl rfl rfl rfl e7 (fun _ _=>Ir (e:=C7.wrap (((d.ax:Nat):Int)+1)) yk (fB _)) ?_))))))))))))))))
 have eH:fQ (C6 (C7.wrap (((d.ax:Nat):Int)+1))) 32≤18446744073709551615:=pq _ _
 refine Iy (v:= .int .u64 ((fQ (C6 (C7.wrap (((d.ax:Nat):Int)+1))) 32:Nat):Int)) (rs:= []) 20 rfl rfl rfl rfl e7 (fun _ _=>Ir (JO (m:=32) rfl rfl) (fB _)) (Iy (v:= .bool (decide (((a.aX:Nat):Int) ≥ ((fQ (C6 (C7.wrap (((d.ax:Nat):Int)+1))) 32:Nat):Int)))) (rs:= []) 21 rfl rfl rfl rfl e7 (fun _ _=>yk) (qt (v:= .bool (decide (((a.aX:Nat):Int) ≥ ((fQ (C6 (C7.wrap (((d.ax:Nat):Int)+1))) 32:Nat):Int)))) 22 rfl (fun _ _=>Io rfl rfl rfl) (qn (Iq ?_))))
 by_cases K:((a.aX:Nat):Int) ≥ ((fQ (C6 (C7.wrap (((d.ax:Nat):Int)+1))) 32:Nat):Int)
 refine jT (dT K) (sr (An rfl (rt (tR (bR (tR (tR (bR (tR (rs ?_))))))))))
 have dz:=aC.pk []
 obtain rfl:_=false:=hr.symm.trans (et (iN G) (gL (et (z) (et (congrArg (fun q=>dC d q b) C) (et (iN l) (ip K))))))
 exact⟨rfl,dz⟩
 refine jF (dF K) (sk (Ik (sr (Kz (vP j 1) (Lz (vI a.aP) aC 0 C2 ?_)))))
 obtain⟨I,J⟩:∃ q,iM a.aP 4=q:=⟨_,rfl⟩
 obtain⟨fF,bF,eO,bG,eP⟩:=Iu aC
 refine cl D3 (l6 _ _ a.aP 4 I bF J) ?_
 rintro _ fG ⟨rfl,bH⟩
 have ax:=bG _ _ bH
 refine Kz (.bool (!I)) (Mz rfl ?_)
 rcases Ls (I) with s | s
 refine Gz (vP j 4) (cn s) (Gl (.slice a.au.A a.au.ls.length a.au.c) (cn s) ax 0 D4 (Gz (vJ a.au.ls.length) (cn s) (Gz (.bool (decide (((a.au.ls.length:Nat):Int)=0))) (cn s) (fw (.bool (decide (((a.au.ls.length:Nat):Int)=0))) (Io rfl (cn s) rfl) (nt ?_)))))
 by_cases X:((a.au.ls.length:Nat):Int)=0
 refine jT (dT X) (sr (An rfl (rt (tR (bR (tR (tR (bR (tR (rs ?_))))))))))
 have dB:=ax.pk []
 obtain rfl:_=false:=hr.symm.trans (et (iN G) (gL (et (z) (et (congrArg (fun q=>dC d q b) C) (et (iN l) (et (iN K) (et (ae J) (et (ip s) (ip X)))))))))
 exact⟨rfl,dB⟩
 refine jF (dF X) (sk (sr (Kz (vP j 4) (Lz (.slice a.au.A a.au.ls.length a.au.c) ax 0 D4 (Kz (vJ a.au.ls.length) (Mn rfl (bo ?_)))))))
 have dD:=ax.pf []
 obtain⟨dE,aa⟩:=lF fun (g:Nat) w'=>Own w D w' [blk j (ay.cells a) 60,blk y [vI d.au,vU d.ax,vU d.bG,vU d.aF, .slice S d.ag.ls.length T, .slice f d.ak.ls.length p, .slice U d.aK.ls.length V] 33]∧g≤a.au.ls.length∧gm d b (ay.abs a) a.au.ls 0=gm d b (ay.abs a) (r4 g a.au.ls) g
 refine C1 (fun i:Nat=> [(2, .bool false),(55,vJ i),(54,vJ a.au.ls.length),(53, .slice a.au.A a.au.ls.length a.au.c),(52,vP j 4),(51, .bool (decide (((a.au.ls.length:Nat):Int)=0))),(50, .bool (decide (((a.au.ls.length:Nat):Int)=0))),(49,vJ a.au.ls.length),(48, .slice a.au.A a.au.ls.length a.au.c),(47,vP j 4),(46, .bool (!I)),(45, .bool (!I)),(44, .bool I),(43,vI a.aP),(42,vP j 1),(41, .bool (decide (((a.aX:Nat):Int) ≥ ((fQ (C6 (C7.wrap (((d.ax:Nat):Int)+1))) 32:Nat):Int)))),(40, .bool (decide (((a.aX:Nat):Int) ≥ ((fQ (C6 (C7.wrap (((d.ax:Nat):Int)+1))) 32:Nat):Int)))),(39, .int .u64 ((fQ (C6 (C7.wrap (((d.ax:Nat):Int)+1))) 32:Nat):Int)),(38, .int .u64 ((C6 (C7.wrap (((d.ax:Nat):Int)+1)):Nat):Int)),(37,vU d.ax),(36,vP y 1),(35,vU a.aX),(34,vP j 0),(33, .bool false),(32, .bool false),(31,undef),(30,undef),(29,undef),(28,undef),(27,undef),(26,undef),(25,undef),(24,undef),(23,undef),(22,undef),(21, .bool (decide (((b:Nat):Int) > 0))),(20, .bool (decide (((b:Nat):Int) > 0))),(19,vJ b),(3,vJ b),(4,vP j 0),(18, .agg (ay.cells a).toArray),(17, .pointer (some ⟨ab f,ao f+b *5,none⟩)),(16,vJ b),(15, .bool (decide (((b:Nat):Int) < ((d.ak.ls.length:Nat):Int)))),(14,vJ b),(13,vJ d.ak.ls.length),(12, .slice f d.ak.ls.length p),(1,vP y 0)]) dE (fun i=>a.au.ls.length - i) 0 ⟨rfl,rfl,rfl,rfl,rfl,rfl,rfl,rfl,rfl,rfl,rfl,rfl,rfl,rfl,rfl,rfl,rfl,rfl,rfl,rfl,rfl,rfl,rfl,rfl,rfl,rfl,rfl,rfl,rfl,rfl,rfl,rfl,rfl,rfl,rfl,rfl,rfl,rfl,rfl,rfl,rfl,rfl,rfl,rfl,rfl,rfl,rfl,rfl,trivial⟩ (aa.2 ⟨dD,e6,rfl⟩) ?_
 rintro g fH bI
 obtain⟨Y,eQ,Q⟩:=aa.1 bI
 refine sr (Kz (.bool (decide (((g:Nat):Int) < ((a.au.ls.length:Nat):Int)))) (nt (Ik ?_)))
 by_cases bu:((g:Nat):Int) < ((a.au.ls.length:Nat):Int)
 obtain⟨L,aX⟩:=dh (ls:=a.au.ls) (i:=g) iL f2 (Y.ro (o _ (D1 t)).1) e9
 have ag:=drop_at aX
 refine jT (dT bu) (sk (Ik (bo (sr (Mz rfl (fw (.pointer (some ⟨ab a.au.A,ao a.au.A+g *1,none⟩)) (Iz (mq) rfl rfl ((Y.ro (o _ (D1 t)).1).addr (i:=g) e6) e6) (fw (vI L) (IB rfl (bJ.one C2 (((Y.ro (o _ (D1 t)).1).elem iL aX f2).at_ (k:=0) rfl))) (Az rfl (Ar rfl (Mz rfl (Kz (vP y 0) (Lz (vI d.au) Y 1 C2 ?_))))))))))))
 obtain⟨aZ,R⟩:∃ q,iM L d.au=q:=⟨_,rfl⟩
 obtain⟨fI,bK,eT,bL,eU⟩:=Iu Y
 refine cl D3 (l6 _ _ L d.au aZ bK R) ?_
 rintro _ fJ ⟨rfl,bM⟩
 have M:=bL _ _ bM
 refine Kz (.bool (!aZ)) (Mz rfl ?_)
 rcases Ls (aZ) with r | r
 refine gw (vJ g) (cn r) (IA rfl) (Gz (.bool (decide (((g:Nat):Int) > 0))) (cn r) (gw (.bool (decide (((g:Nat):Int) > 0))) (cn r) (IA rfl) ?_))
 by_cases n:((g:Nat):Int) > 0
 refine gw (vI L) (dT n) (IA rfl) (Gz (vP j 4) (dT n) (Gl (.slice a.au.A a.au.ls.length a.au.c) (dT n) M 0 D4 (gw (vJ g) (dT n) (IA rfl) (gw (vJ (g - 1)) (dT n) (Ir (e:=C3.wrap (((g:Nat):Int) - 1)) yk f0) ?_))))
 obtain⟨az,aF⟩:=dh (ls:=a.au.ls) (i:=g - 1) iL f2 (M.ro (o _ (D1 t)).1) e9
 refine gw (.pointer (some ⟨ab a.au.A,ao a.au.A+(g - 1) *1,none⟩)) (dT n) (Iz (mq) rfl rfl ((M.ro (o _ (D1 t)).1).addr (i:=g - 1) e6) e6) (gw (vI az) (dT n) (IB rfl (bJ.one C2 (((M.ro (o _ (D1 t)).1).elem iL aF f2).at_ (k:=0) rfl))) (Gz (.bool (decide (L≤az))) (dT n) (gw (.bool (decide (L≤az))) (cn r) (Iw rfl (dT n) rfl) (fw (.bool (decide (L≤az))) (Io rfl (cn r) rfl) (nt ?_)))))
 by_cases aL:L≤az
 refine jT (dT aL) (sr (An rfl (rt (bR (tR (tR (bR (bR (tR (tR (bR (tR (rs ?_)))))))))))))
 have dG:=M.pk []
 obtain rfl:_=false:=hr.symm.trans (et (iN G) (gL (et (z) (et (congrArg (fun q=>dC d q b) C) (et (iN l) (et (iN K) (et (ae J) (et (ip s) (et (iN X) (oU (et (Q) (et (congrArg (fun q=>gm d b (ay.abs a) q g) ag) (et (ae R) (et (ip r) (et (ip n) (et (ae (aT aF)) (ip aL)))))))))))))))))
 exact⟨rfl,dG⟩
 refine jF (dF aL) (IU (bN (Iq (Il (fw (vJ (g+1)) (Ir (e:=C3.wrap (((g:Nat):Int)+1)) yk f0) (Mz rfl (C4 ?_)))))))
 have dH:=M.pf []
 exact II (g+1) ⟨rfl,rfl,rfl,rfl,rfl,rfl,rfl,rfl,rfl,rfl,rfl,rfl,rfl,rfl,rfl,rfl,rfl,rfl,rfl,rfl,rfl,rfl,rfl,rfl,rfl,rfl,rfl,rfl,rfl,rfl,rfl,rfl,rfl,rfl,rfl,rfl,rfl,rfl,rfl,rfl,rfl,rfl,rfl,rfl,rfl,rfl,rfl,rfl,trivial⟩ (aa.2 ⟨dH,e6,et (Q) (et (congrArg (fun q=>gm d b (ay.abs a) q g) ag) (et (ae R) (et (ip r) (et (ip n) (et (ae (aT aF)) (iN aL))))))⟩) (by show a.au.ls.length - (g+1) < a.au.ls.length - g; omega)
 refine Sz (dF n) (Sz (dF n) (Sz (dF n) (Sz (dF n) (Sz (dF n) (Sz (dF n) (Sz (dF n) (Sz (dF n) (gw (.bool false) (cn r) (Io rfl (dF n) rfl) (fw (.bool false) (Io rfl (cn r) rfl) (nt (jf (IU (bN (Iq (Il (fw (vJ (g+1)) (Ir (e:=C3.wrap (((g:Nat):Int)+1)) yk f0) (Mz rfl (C4 ?_))))))))))))))))))
 have dJ:=M.pf []
 exact II (g+1) ⟨rfl,rfl,rfl,rfl,rfl,rfl,rfl,rfl,rfl,rfl,rfl,rfl,rfl,rfl,rfl,rfl,rfl,rfl,rfl,rfl,rfl,rfl,rfl,rfl,rfl,rfl,rfl,rfl,rfl,rfl,rfl,rfl,rfl,rfl,rfl,rfl,rfl,rfl,rfl,rfl,rfl,rfl,rfl,rfl,rfl,rfl,rfl,rfl,trivial⟩ (aa.2 ⟨dJ,e6,et (Q) (et (congrArg (fun q=>gm d b (ay.abs a) q g) ag) (et (ae R) (et (ip r) (iN n))))⟩) (by show a.au.ls.length - (g+1) < a.au.ls.length - g; omega)
 refine Sz (cn r) (Sz (cn r) (Sz (cn r) (IG rfl rfl rfl (IG rfl rfl rfl (IG rfl rfl rfl (IG rfl rfl rfl (IG rfl rfl rfl (IG rfl rfl rfl (IG rfl rfl rfl (IG rfl rfl rfl (Sz (cn r) (fw (.bool true) (Iw rfl (cn r) rfl) (nt (jt (sr (An rfl (rt (bR (tR (tR (bR (bR (tR (tR (bR (tR (rs ?_)))))))))))))))))))))))))))
 have dK:=M.pk []
 obtain rfl:_=false:=hr.symm.trans (et (iN G) (gL (et (z) (et (congrArg (fun q=>dC d q b) C) (et (iN l) (et (iN K) (et (ae J) (et (ip s) (et (iN X) (oU (et (Q) (et (congrArg (fun q=>gm d b (ay.abs a) q g) ag) (et (ae R) (fP r))))))))))))))
 exact⟨rfl,dK⟩
 refine jF (dF bu) (C5 (IC ?_))
 have bO:gm d b (ay.abs a) a.au.ls 0=B7 ():=et (Q) (et (congrArg (fun q=>gm d b (ay.abs a) q g) (dZ (ls:=a.au.ls) (i:=g) e6)) rfl)
 refine IC (IK (bN (Iq (Il (fw (vJ (b+1)) (Ir (e:=C3.wrap (((b:Nat):Int)+1)) yk f0) (Mz rfl (C4 ?_)))))))
 have dL:=Y.pk [1]
 exact II (b+1) ⟨rfl,rfl,rfl,rfl,rfl,trivial⟩ (aG.2 ⟨dL,e6,et (z) (et (congrArg (fun q=>dC d q b) C) (et (iN l) (et (iN K) (et (ae J) (et (ip s) (et (iN X) (sH bO)))))))⟩) (by show d.ak.ls.length - (b+1) < d.ak.ls.length - b; omega)
 refine Sz (cn s) (Sz (cn s) (Sz (cn s) (Sz (cn s) (fw (.bool true) (Iw rfl (cn s) rfl) (nt (jt (sr (An rfl (rt (tR (bR (tR (tR (bR (tR (rs ?_))))))))))))))))
 have dM:=ax.pk []
 obtain rfl:_=false:=hr.symm.trans (et (iN G) (gL (et (z) (et (congrArg (fun q=>dC d q b) C) (et (iN l) (et (iN K) (et (ae J) (fP s))))))))
 exact⟨rfl,dM⟩
 refine jF (dF bT) (C5 (IC ?_))
 have bP:dC d d.ak.ls 0=B7 ():=et (z) (et (congrArg (fun q=>dC d q b) (dZ (ls:=d.ak.ls) (i:=b) e6)) rfl)
 refine IC (IK (Iq (sr (An rfl (rt (rs ?_))))))
 have dN:=aQ.pk []
 obtain rfl:_=true:=hr.symm.trans (et (iN G) (mF bP))
 exact⟨rfl,dN⟩
def gy:List aH→Unit ⊕ Bool
  | []=>B7 ()
  | a::c=>bnd (dR a.aZ) fun b=>if b=0 then if((a.aG.length:Nat):Int) > 16 then B9 (false) else gy c else B9 (false)
def j5 (a:aQ):Bool:=
 if((a.aG.length:Nat):Int) > 16 then false else if((a.aj.ls.length:Nat):Int) > 4 then false else lp (gy a.aj.ls) fun _=>true
theorem qR (w D) (a:aQ) (f x h X) (H:Own w D w []) (B:x=a.aj.ls.length) (j:Ro w D fun w'=>aY w' 2 f a.aj.ls.length (q4 aH.cells a.aj.ls)) (N:a.aj.ls.length≤h∧a.aj.ls.length≤9223372036854775807) (hr:j5 a=X):
    Calls v5 73 #[.agg #[.bool a.dV, .string ⟨v6 a.aG⟩, .slice f x h]] w (dA fun v w'=>v= .bool X∧Own w D w' []):=by
 subst B
 refine cb Tryz.func73 ?_
 refine sr ?_
 refine dn [.bool a.dV, .string ⟨v6 a.aG⟩, .slice f a.aj.ls.length h] 149 H ?_
 intro C af m
 refine An rfl (Ik (sr (Kz (vP C 1) (Lz (.string ⟨v6 a.aG⟩) m 0 C0 (Kz (vJ a.aG.length) (Kz (.bool (decide (((a.aG.length:Nat):Int) > 16))) (Mz rfl ?_)))))))
 by_cases b:((a.aG.length:Nat):Int) > 16
 refine Sz (dT b) (Sz (dT b) (Sz (dT b) (Sz (dT b) (fw (.bool true) (Iw rfl (dT b) rfl) (nt (jt (sr (An rfl (rt (tR (rs ?_)))))))))))
 have O:=m.pk []
 obtain rfl:_=false:=hr.symm.trans (ip b)
 exact⟨rfl,O⟩
 refine Gz (vP C 2) (dF b) (Gl (.slice f a.aj.ls.length h) (dF b) m 0 Tryz.isAgg147 (Gz (vJ a.aj.ls.length) (dF b) (Gz (.bool (decide (((a.aj.ls.length:Nat):Int) > 4))) (dF b) (fw (.bool (decide (((a.aj.ls.length:Nat):Int) > 4))) (Io rfl (dF b) rfl) (nt ?_)))))
 by_cases n:((a.aj.ls.length:Nat):Int) > 4
 refine jT (dT n) (sr (An rfl (rt (tR (rs ?_)))))
 have P:=m.pk []
 obtain rfl:_=false:=hr.symm.trans (et (iN b) (ip n))
 exact⟨rfl,P⟩
 refine jF (dF n) (sk (Ik (sr (Kz (vP C 2) (Lz (.slice f a.aj.ls.length h) m 0 Tryz.isAgg147 (Kz (vJ a.aj.ls.length) (Mn rfl (bo ?_))))))))
 have Q:=m.pk []
 obtain⟨R,p⟩:=lF fun (c:Nat) w'=>Own w D w' []∧c≤a.aj.ls.length∧gy a.aj.ls=gy (r4 c a.aj.ls)
 refine C1 (fun i:Nat=> [(2, .bool false),(18,vJ i),(17,vJ a.aj.ls.length),(16, .slice f a.aj.ls.length h)]) R (fun i=>a.aj.ls.length - i) 0 ⟨rfl,rfl,rfl,rfl,trivial⟩ (p.2 ⟨Q,e6,rfl⟩) ?_
 rintro c ag E
 obtain⟨r,Y,k⟩:=p.1 E
 refine sr (Kz (.bool (decide (((c:Nat):Int) < ((a.aj.ls.length:Nat):Int)))) (nt (Ik ?_)))
 by_cases F:((c:Nat):Int) < ((a.aj.ls.length:Nat):Int)
 obtain⟨d,y⟩:=dh (ls:=a.aj.ls) (i:=c) aH.len f2 (r.ro j) e9
 have s:=drop_at y
 refine jT (dT F) (sk (Ik (bo (sr (fw (.pointer (some ⟨ab f,ao f+c *2,none⟩)) (Iz (jL) rfl rfl ((r.ro j).addr (i:=c) e6) e6) (fw (.agg (aH.cells d).toArray) (IB rfl (IJ (cs:=(aH.cells d)) Tryz.isAgg153 Tryz.sizeOf153 ((r.ro j).elem aH.len y f2))) ?_))))))
 refine dn [.string ⟨v6 ([])⟩, .string ⟨v6 ([])⟩] 153 r ?_
 intro G ah S
 refine df (aH.cells d) 0 S Tryz.sizeOf153 ?_
 intro ai I
 refine ns (Kz (vP G 0) (Lz (.string ⟨v6 d.aZ⟩) I 0 C0 ?_))
 obtain⟨o,l⟩:∃ q,dR d.aZ=q:=⟨_,rfl⟩
 obtain⟨aj,J,Z,K,aa⟩:=Iu I
 refine cl Tryz.call112 (j4 _ _ d.aZ o J l) ?_
 rintro _ ak ⟨rfl,L,z,A⟩
 have t:=K _ _ L
 replace z: ¬ (o=0)∨(1≤d.aZ.length∧d.aZ.length≤12):=z
 replace A:d.aZ.length < 1∨d.aZ.length > 12∨o=0:=A
 refine fw (.bool (decide (¬ (o=0)))) (IM (e:= !(decide (o=0))) yk decide_not.symm) (Mz rfl ?_)
 by_cases g:o=0
 refine gw (vP G 1) (dF (Lr g)) yk (gw (.string ⟨v6 d.aG⟩) (dF (Lr g)) (IB rfl (bJ.one C0 (I1 (t.cls (i:=0) rfl) rfl))) (gw (vJ d.aG.length) (dF (Lr g)) yk (gw (.bool (decide (((d.aG.length:Nat):Int) > 16))) (dF (Lr g)) yk (fw (.bool (decide (((d.aG.length:Nat):Int) > 16))) (Io rfl (dF (Lr g)) rfl) (nt ?_)))))
 by_cases u:((d.aG.length:Nat):Int) > 16
 refine jT (dT u) (sr (An rfl (rt (bR (tR (tR (bR (tR (rs ?_)))))))))
 have T:=t.pk []
 obtain rfl:_=false:=hr.symm.trans (et (iN b) (et (iN n) (gL (et (k) (et (congrArg (fun q=>gy q) s) (et (ae l) (et (ip g) (ip u))))))))
 exact⟨rfl,T⟩
 refine jF (dF u) (IU (bN (Iq (Il (fw (vJ (c+1)) (Ir (e:=C3.wrap (((c:Nat):Int)+1)) yk f0) (Mz rfl (C4 ?_)))))))
 have U:=t.pk []
 exact II (c+1) ⟨rfl,rfl,rfl,rfl,trivial⟩ (p.2 ⟨U,e6,et (k) (et (congrArg (fun q=>gy q) s) (et (ae l) (et (ip g) (iN u))))⟩) (by show a.aj.ls.length - (c+1) < a.aj.ls.length - c; omega)
 refine Sz (dT g) (Sz (dT g) (Sz (dT g) (Sz (dT g) (fw (.bool true) (Iw rfl (dT g) rfl) (nt (jt (sr (An rfl (rt (bR (tR (tR (bR (tR (rs ?_)))))))))))))))
 have V:=t.pk []
 obtain rfl:_=false:=hr.symm.trans (et (iN b) (et (iN n) (gL (et (k) (et (congrArg (fun q=>gy q) s) (et (ae l) (iN g)))))))
 exact⟨rfl,V⟩
 refine jF (dF F) (C5 (IC ?_))
 have M:gy a.aj.ls=B7 ():=et (k) (et (congrArg (fun q=>gy q) (dZ (ls:=a.aj.ls) (i:=c) e6)) rfl)
 refine IC (IK (Iq (sr (An rfl (rt (rs ?_))))))
 have W:=r.pk []
 obtain rfl:_=true:=hr.symm.trans (et (iN b) (et (iN n) (mF M)))
 exact⟨rfl,W⟩
def fU (e:Nat) (c:fF):Nat→Nat→Unit ⊕ Bool
  | 0,b=>B7 ()
  | f+1,b=>bnd (B8 c.ah.ls b default) fun a=>bnd (j5 (aQ.mk a.dV a.aG (E0 a.aj.ls))) fun d=>if d=true then fU e c f (b+1) else B9 (false)
def jd (f:Nat) (d:fF):Nat→Nat→Unit ⊕ Bool
  | 0,b=>B7 ()
  | e+1,b=>bnd (B8 d.ah.ls b default) fun a=>bnd (j5 (aQ.mk a.dV a.aG (E0 a.aj.ls))) fun c=>if c=true then jd f d e (b+1) else B9 (false)
def fC (l0:List fF):List fF→Nat→Unit ⊕ Bool
  | [],b=>B7 ()
  | a::c,b=>bnd (iM a.aP 4) fun d=>if d=true then if((b:Nat):Int) > 0 then bnd (B8 l0 (b - 1) default) fun e=>if a.aP≤e.aP then B9 (false) else if((a.ah.ls.length:Nat):Int) > 4 then B9 (false) else sW (fU b a a.ah.ls.length 0) fun _=>fC l0 c (b+1) else if((a.ah.ls.length:Nat):Int) > 4 then B9 (false) else sW (jd b a a.ah.ls.length 0) fun _=>fC l0 c (b+1) else B9 (false)
def pJ (l0:List fF):Bool:=
 if((l0.length:Nat):Int) > 4 then false else lp (fC l0 l0 0) fun _=>true
theorem wK (w D o n0 K d0 l0 r0) (H:Own w D w []) (av:s5 aS.abs d0=l0) (R:Ro w D fun w'=>aY w' 4 o n0 (q4 aS.cells d0)) (B:∀ x ∈ d0,Ro w D (fun w'=>aY w' 3 x.ah.A x.ah.ls.length (q4 af.cells x.ah.ls))∧(x.ah.ls.length≤x.ah.c∧x.ah.ls.length≤9223372036854775807)∧(∀ y1 ∈ x.ah.ls,Ro w D (fun w'=>aY w' 2 y1.aj.A y1.aj.ls.length (q4 aH.cells y1.aj.ls))∧(y1.aj.ls.length≤y1.aj.c∧y1.aj.ls.length≤9223372036854775807))) (bI:n0=l0.length) (dK:l0.length≤9223372036854775807) (hr:pJ l0=r0):
    Calls v5 43 #[.slice o n0 K] w (dA fun v w'=>v= .bool r0∧Own w D w' []):=by
 subst bI
 have cB:=aA av
 refine cb Tryz.func43 ?_
 refine sr (An rfl (Ik (sr (Mz rfl (Kz (vJ l0.length) (Kz (.bool (decide (((l0.length:Nat):Int) > 4))) (nt ?_)))))))
 by_cases C:((l0.length:Nat):Int) > 4
 refine jT (dT C) (sr (An rfl (rt (tR (rs ?_)))))
 have bK:=H.pk []
 obtain rfl:_=false:=hr.symm.trans (ip C)
 exact⟨rfl,bK⟩
 refine jF (dF C) (sk (Ik (sr (Mz rfl (Kz (vJ l0.length) (Mn rfl (bo ?_)))))))
 have bL:=H.pk []
 obtain⟨bM,O⟩:=lF fun (b:Nat) w'=>Own w D w' []∧b≤l0.length∧fC l0 l0 0=fC l0 (r4 b l0) b
 refine C1 (fun i:Nat=> [(2, .bool false),(12,vJ i),(11,vJ l0.length),(10, .slice o l0.length K),(0, .slice o l0.length K)]) bM (fun i=>l0.length - i) 0 ⟨rfl,rfl,rfl,rfl,rfl,trivial⟩ (O.2 ⟨bL,e6,rfl⟩) ?_
 rintro b dL aL
 obtain⟨S,cK,t⟩:=O.1 aL
 refine sr (Kz (.bool (decide (((b:Nat):Int) < ((l0.length:Nat):Int)))) (nt (Ik ?_)))
 by_cases aM:((b:Nat):Int) < ((l0.length:Nat):Int)
 obtain⟨a,m⟩:=dh (ls:=d0) (i:=b) aS.len f2 (S.ro R) e9
 have aN:=eY av m
 have cO:=(B _ (D1 m)).2.1
 have cZ:s0 (s5 af.abs a.ah.ls)=a.ah.ls.length:=s3 ..
 have z:=drop_at aN
 refine jT (dT aM) (sk (Ik (bo (sr (Mz rfl (fw (.pointer (some ⟨ab o,ao o+b *4,none⟩)) (Iz (lW) rfl rfl ((S.ro R).addr (i:=b) e6) e6) (fw (.agg (aS.cells a).toArray) (IB rfl (IJ (cs:=(aS.cells a)) Tryz.isAgg56 Tryz.sizeOf56 ((S.ro R).elem aS.len m f2))) ?_)))))))
 refine dn [vI 0, .int .u64 0, .int .u64 0, .slice none 0 0] 56 S ?_
 intro g dM bO
 refine Az rfl ?_
 refine df (aS.cells a) 0 bO Tryz.sizeOf56 ?_
 intro dN bP
 refine nt (Ik (Ik ?_))
 refine vo [] (IE (IE (bv.block (IE (IE (bv.block (IE IQ))))))) bP ?_
 intro dO bQ
 refine qp g 0 0 rfl (ql 1 rfl 0 C2 rfl rfl rfl ?_)
 obtain⟨s,u⟩:∃ q,iM a.aP 4=q:=⟨_,rfl⟩
 obtain⟨dP,aO,di,aP,dm⟩:=Iu bQ
 refine qd 2 rfl (IP D3 rfl (l6 _ _ a.aP 4 s aO u) ?_)
 rintro _ dQ ⟨rfl,aR⟩
 have E:=aP _ _ aR
 refine⟨.inr ⟨_,E⟩, ?_⟩
 refine qk (.bool (!s)) 3 rfl (qv 4 rfl rfl ?_)
 rcases Ls (s) with j | j
 refine Iy (v:=vJ b) (rs:= []) 5 rfl rfl rfl (cn j) e7 (fun _ _=>IA rfl) (Iy (v:= .bool (decide (((b:Nat):Int) > 0))) (rs:= []) 6 rfl rfl rfl (cn j) e7 (fun _ _=>yk) (Iy (v:= .bool (decide (((b:Nat):Int) > 0))) (rs:= []) 7 rfl rfl rfl (cn j) e7 (fun _ _=>IA rfl) ?_))
 by_cases f:((b:Nat):Int) > 0
 refine Iy (v:=vP g 0) (rs:= []) 8 rfl rfl rfl (dT f) e7 (fun _ _=>yk) (Iy (v:=vI a.aP) (rs:= []) 9 rfl rfl rfl (dT f) e7 (fun _ ⟨_,H9⟩=>IB rfl (bJ.one C2 (I1 (H9.cls (i:=0) rfl) rfl))) (Iy (v:= .slice o l0.length K) (rs:= []) 10 rfl rfl rfl (dT f) e7 (fun _ _=>IA rfl) (Iy (v:=vJ b) (rs:= []) 11 rfl rfl rfl (dT f) e7 (fun _ _=>IA rfl) (Iy (v:=vJ (b - 1)) (rs:= []) 12 rfl rfl rfl (dT f) e7 (fun _ _=>Ir (e:=C3.wrap (((b:Nat):Int) - 1)) yk f0) ?_))))
 obtain⟨p,T⟩:=iG (ls:=d0) (i:=b - 1) e9
 have P:=eY av T
 have dw:=(B _ (D1 T)).2.1
 have dx:s0 (s5 af.abs p.ah.ls)=p.ah.ls.length:=s3 ..
 refine Iy (v:= .pointer (some ⟨ab o,ao o+(b - 1) *4,none⟩)) (rs:= []) 13 rfl rfl rfl (dT f) e7 (fun _ ⟨_,H9⟩=>Iz (lW) rfl rfl ((H9.ro R).addr (i:=b - 1) e6) e6) (Iy (v:= .pointer (some ⟨ab o,ao o+(b - 1) *4,none⟩)) (rs:= []) 14 rfl rfl rfl (dT f) e7 (fun _ _=>yk) (Iy (v:=vI p.aP) (rs:= []) 15 rfl rfl rfl (dT f) e7 (fun _ ⟨_,H9⟩=>IB rfl (bJ.one C2 (((H9.ro R).elem aS.len T f2).at_ (k:=0) rfl))) (Iy (v:= .bool (decide (a.aP≤p.aP))) (rs:= []) 16 rfl rfl rfl (dT f) e7 (fun _ _=>yk) (Iy (v:= .bool (decide (a.aP≤p.aP))) (rs:= []) 17 rfl rfl rfl (cn j) e7 (fun _ _=>Iw rfl (dT f) rfl) (qt (v:= .bool (decide (a.aP≤p.aP))) 18 rfl (fun _ _=>Io rfl (cn j) rfl) (qv 19 rfl rfl ?_))))))
 by_cases y:a.aP≤p.aP
 refine Ip (rs:= []) 20 rfl rfl rfl (dT y) e7 (Ip (rs:= []) 21 rfl rfl rfl (dT y) e7 (Ip (rs:= []) 22 rfl rfl rfl (dT y) e7 (Ip (rs:= []) 23 rfl rfl rfl (dT y) e7 (qt (v:= .bool true) 24 rfl (fun _ _=>Iw rfl (dT y) rfl) (qn (Iq (jt (sr (An rfl (rt (tR (bR (tR (tR (bR (tR (rs ?_)))))))))))))))))
 have bS:=E.pk []
 obtain rfl:_=false:=hr.symm.trans (et (iN C) (gL (et (t) (et (congrArg (fun q=>fC l0 q b) z) (et (ae u) (et (ip j) (et (ip f) (et (ae (aT P)) (ip y)))))))))
 exact⟨rfl,bS⟩
 refine Iy (v:=vP g 3) (rs:= []) 20 rfl rfl rfl (dF y) e7 (fun _ _=>yk) (Iy (v:= .slice a.ah.A a.ah.ls.length a.ah.c) (rs:= []) 21 rfl rfl rfl (dF y) e7 (fun _ ⟨_,H9⟩=>IB rfl (bJ.one E1 (I1 (H9.cls (i:=0) rfl) rfl))) (Iy (v:=vJ (s0 (s5 af.abs a.ah.ls))) (rs:= []) 22 rfl rfl rfl (dF y) e7 (fun _ _=>Ir (e:=((a.ah.ls.length:Nat):Int)) yk j7) (Iy (v:= .bool (decide (((s0 (s5 af.abs a.ah.ls):Nat):Int) > 4))) (rs:= []) 23 rfl rfl rfl (dF y) e7 (fun _ _=>yk) (qt (v:= .bool (decide (((s0 (s5 af.abs a.ah.ls):Nat):Int) > 4))) 24 rfl (fun _ _=>Io rfl (dF y) rfl) (qn (Iq ?_))))))
 by_cases U:((s0 (s5 af.abs a.ah.ls):Nat):Int) > 4
 refine jT (dT U) (sr (An rfl (rt (tR (bR (tR (tR (bR (tR (rs ?_))))))))))
 have bT:=E.pk []
 obtain rfl:_=false:=hr.symm.trans (et (iN C) (gL (et (t) (et (congrArg (fun q=>fC l0 q b) z) (et (ae u) (et (ip j) (et (ip f) (et (ae (aT P)) (et (iN y) (ip U))))))))))
 exact⟨rfl,bT⟩
 refine jF (dF U) (sk (sr (Kz (vP g 3) (Lz (.slice a.ah.A a.ah.ls.length a.ah.c) E 0 E1 (fw (vJ (s0 (s5 af.abs a.ah.ls))) (Ir (e:=((a.ah.ls.length:Nat):Int)) yk j7) (Mn rfl (bo ?_)))))))
 have bU:=E.pf []
 obtain⟨bV,V⟩:=lF fun (l:Nat) w'=>Own w D w' [blk g (aS.cells a) 56]∧l≤s0 (s5 af.abs a.ah.ls)∧fU b (aS.abs a) (s0 (s5 af.abs a.ah.ls)) 0=fU b (aS.abs a) ((s0 (s5 af.abs a.ah.ls)) - l) l
 refine C1 (fun i:Nat=> [(2, .bool false),(45,vJ i),(44,vJ (s0 (s5 af.abs a.ah.ls))),(43, .slice a.ah.A a.ah.ls.length a.ah.c),(42,vP g 3),(41, .bool (decide (((s0 (s5 af.abs a.ah.ls):Nat):Int) > 4))),(40, .bool (decide (((s0 (s5 af.abs a.ah.ls):Nat):Int) > 4))),(39,vJ (s0 (s5 af.abs a.ah.ls))),(38, .slice a.ah.A a.ah.ls.length a.ah.c),(37,vP g 3),(36, .bool (decide (a.aP≤p.aP))),(35, .bool (decide (a.aP≤p.aP))),(34, .bool (decide (a.aP≤p.aP))),(33, .bool (decide (a.aP≤p.aP))),(32,vI p.aP),(31, .pointer (some ⟨ab o,ao o+(b - 1) *4,none⟩)),(30, .pointer (some ⟨ab o,ao o+(b - 1) *4,none⟩)),(29,vJ (b - 1)),(28,vJ b),(27, .slice o l0.length K),(26,vI a.aP),(25,vP g 0),(24, .bool (decide (((b:Nat):Int) > 0))),(23, .bool (decide (((b:Nat):Int) > 0))),(22,vJ b),(21, .bool (!s)),(20, .bool (!s)),(19, .bool s),(18,vI a.aP),(17,vP g 0),(3,vJ b),(4,vP g 0),(16, .agg (aS.cells a).toArray),(15, .pointer (some ⟨ab o,ao o+b *4,none⟩)),(14,vJ b),(13, .bool (decide (((b:Nat):Int) < ((l0.length:Nat):Int)))),(12,vJ b),(11,vJ l0.length),(10, .slice o l0.length K),(0, .slice o l0.length K)]) bV (fun i=>(s0 (s5 af.abs a.ah.ls)) - i) 0 ⟨rfl,rfl,rfl,rfl,rfl,rfl,rfl,rfl,rfl,rfl,rfl,rfl,rfl,rfl,rfl,rfl,rfl,rfl,rfl,rfl,rfl,rfl,rfl,rfl,rfl,rfl,rfl,rfl,rfl,rfl,rfl,rfl,rfl,rfl,rfl,rfl,rfl,rfl,rfl,rfl,trivial⟩ (V.2 ⟨bU,e6,rfl⟩) ?_
 rintro l dR aU
 obtain⟨W,dz,X⟩:=V.1 aU
 refine sr (Kz (.bool (decide (((l:Nat):Int) < ((s0 (s5 af.abs a.ah.ls):Nat):Int)))) (nt (Ik ?_)))
 by_cases aV:((l:Nat):Int) < ((s0 (s5 af.abs a.ah.ls):Nat):Int)
 refine jT (dT aV) (sk (Ik (bo (sr ?_))))
 obtain⟨r,Q⟩:=dh (ls:=a.ah.ls) (i:=l) af.len f2 (W.ro (B _ (D1 m)).1) e9
 have ai:=eY (rfl:s5 af.abs a.ah.ls=s5 af.abs a.ah.ls) Q
 have dB:=((B _ (D1 m)).2.2 _ (D1 Q)).2
 refine fw (.pointer (some ⟨ab a.ah.A,ao a.ah.A+l *3,none⟩)) (Iz (rX) rfl rfl ((W.ro (B _ (D1 m)).1).addr (i:=l) e6) e6) (fw (.agg (af.cells r).toArray) (IB rfl (IJ (cs:=(af.cells r)) E2 E3 ((W.ro (B _ (D1 m)).1).elem af.len Q f2))) ?_)
 refine dn [.bool false, .string ⟨v6 ([])⟩, .slice none 0 0] 149 W ?_
 intro dS dU bW
 refine df (af.cells r) 0 bW E3 ?_
 intro dV aW
 refine ns (La (af.cells r) aW 0 E2 E3 ?_)
 obtain⟨ax,Y⟩:∃ q,j5 (aQ.mk r.dV r.aG (E0 r.aj.ls))=q:=⟨_,rfl⟩
 obtain⟨dW,aX,aZ,bf,dC⟩:=Iu aW
 refine cl Tryz.call73 (qR _ _ (aQ.mk r.dV r.aG (E0 r.aj.ls)) r.aj.A r.aj.ls.length r.aj.c ax aX rfl (aZ _ ((B _ (D1 m)).2.2 _ (D1 Q)).1) (show r.aj.ls.length≤r.aj.c∧r.aj.ls.length≤9223372036854775807 from by omega) Y) ?_
 rintro _ dX ⟨rfl,bg⟩
 have bi:=bf _ _ bg
 refine Kz (.bool (!ax)) (nt ?_)
 rcases Ls (ax) with Z | Z
 refine jF (cn Z) (IU (bN (Iq (Il (fw (vJ (l+1)) (Ir (e:=C3.wrap (((l:Nat):Int)+1)) yk f0) (Mz rfl (C4 ?_)))))))
 have bX:=bi.pk [1]
 exact II (l+1) ⟨rfl,rfl,rfl,rfl,rfl,rfl,rfl,rfl,rfl,rfl,rfl,rfl,rfl,rfl,rfl,rfl,rfl,rfl,rfl,rfl,rfl,rfl,rfl,rfl,rfl,rfl,rfl,rfl,rfl,rfl,rfl,rfl,rfl,rfl,rfl,rfl,rfl,rfl,rfl,rfl,trivial⟩ (V.2 ⟨bX,e6,et (X) (et (congrArg (fun q=>fU b (aS.abs a) q l) (rH (n:=s0 (s5 af.abs a.ah.ls)) (i:=l) e6)) (et (ae (aT ai)) (et (ae Y) (ip Z))))⟩) (by show (s0 (s5 af.abs a.ah.ls)) - (l+1) < (s0 (s5 af.abs a.ah.ls)) - l; omega)
 refine jT (cn Z) (sr (An rfl (rt (bR (tR (tR (bR (bR (tR (tR (bR (tR (rs ?_)))))))))))))
 have bn:=bi.pk []
 obtain rfl:_=false:=hr.symm.trans (et (iN C) (gL (et (t) (et (congrArg (fun q=>fC l0 q b) z) (et (ae u) (et (ip j) (et (ip f) (et (ae (aT P)) (et (iN y) (et (iN U) (oU (et (X) (et (congrArg (fun q=>fU b (aS.abs a) q l) (rH (n:=s0 (s5 af.abs a.ah.ls)) (i:=l) e6)) (et (ae (aT ai)) (et (ae Y) (fP Z))))))))))))))))
 exact⟨rfl,bn⟩
 refine jF (dF aV) (C5 (IC ?_))
 have ay:fU b (aS.abs a) (s0 (s5 af.abs a.ah.ls)) 0=B7 ():=et (X) (et (congrArg (fun q=>fU b (aS.abs a) q l) (wC (n:=s0 (s5 af.abs a.ah.ls)) (i:=l) e6)) rfl)
 refine IC (IK (bN (Iq (Il (fw (vJ (b+1)) (Ir (e:=C3.wrap (((b:Nat):Int)+1)) yk f0) (Mz rfl (C4 ?_)))))))
 have bq:=W.pk []
 exact II (b+1) ⟨rfl,rfl,rfl,rfl,rfl,trivial⟩ (O.2 ⟨bq,e6,et (t) (et (congrArg (fun q=>fC l0 q b) z) (et (ae u) (et (ip j) (et (ip f) (et (ae (aT P)) (et (iN y) (et (iN U) (sH ay))))))))⟩) (by show l0.length - (b+1) < l0.length - b; omega)
 refine Ip (rs:= []) 8 rfl rfl rfl (dF f) e7 (Ip (rs:= []) 9 rfl rfl rfl (dF f) e7 (Ip (rs:= []) 10 rfl rfl rfl (dF f) e7 (Ip (rs:= []) 11 rfl rfl rfl (dF f) e7 (Ip (rs:= []) 12 rfl rfl rfl (dF f) e7 (Ip (rs:= []) 13 rfl rfl rfl (dF f) e7 (Ip (rs:= []) 14 rfl rfl rfl (dF f) e7 (Ip (rs:= []) 15 rfl rfl rfl (dF f) e7 (Ip (rs:= []) 16 rfl rfl rfl (dF f) e7 (Iy (v:= .bool false) (rs:= []) 17 rfl rfl rfl (cn j) e7 (fun _ _=>Io rfl (dF f) rfl) (qt (v:= .bool false) 18 rfl (fun _ _=>Io rfl (cn j) rfl) (qv 19 rfl rfl (Iy (v:=vP g 3) (rs:= []) 20 rfl rfl rfl rfl e7 (fun _ _=>yk) (Iy (v:= .slice a.ah.A a.ah.ls.length a.ah.c) (rs:= []) 21 rfl rfl rfl rfl e7 (fun _ ⟨_,H9⟩=>IB rfl (bJ.one E1 (I1 (H9.cls (i:=0) rfl) rfl))) (Iy (v:=vJ (s0 (s5 af.abs a.ah.ls))) (rs:= []) 22 rfl rfl rfl rfl e7 (fun _ _=>Ir (e:=((a.ah.ls.length:Nat):Int)) yk j7) (Iy (v:= .bool (decide (((s0 (s5 af.abs a.ah.ls):Nat):Int) > 4))) (rs:= []) 23 rfl rfl rfl rfl e7 (fun _ _=>yk) (qt (v:= .bool (decide (((s0 (s5 af.abs a.ah.ls):Nat):Int) > 4))) 24 rfl (fun _ _=>Io rfl rfl rfl) (qn (Iq ?_))))))))))))))))))
 by_cases G:((s0 (s5 af.abs a.ah.ls):Nat):Int) > 4
 refine jT (dT G) (sr (An rfl (rt (tR (bR (tR (tR (bR (tR (rs ?_))))))))))
 have bu:=E.pk []
 obtain rfl:_=false:=hr.symm.trans (et (iN C) (gL (et (t) (et (congrArg (fun q=>fC l0 q b) z) (et (ae u) (et (ip j) (et (iN f) (ip G))))))))
 exact⟨rfl,bu⟩
 refine jF (dF G) (sk (sr (Kz (vP g 3) (Lz (.slice a.ah.A a.ah.ls.length a.ah.c) E 0 E1 (fw (vJ (s0 (s5 af.abs a.ah.ls))) (Ir (e:=((a.ah.ls.length:Nat):Int)) yk j7) (Mn rfl (bo ?_)))))))
 have bz:=E.pf []
 obtain⟨bA,L⟩:=lF fun (d:Nat) w'=>Own w D w' [blk g (aS.cells a) 56]∧d≤s0 (s5 af.abs a.ah.ls)∧jd b (aS.abs a) (s0 (s5 af.abs a.ah.ls)) 0=jd b (aS.abs a) ((s0 (s5 af.abs a.ah.ls)) - d) d
 refine C1 (fun i:Nat=> [(2, .bool false),(45,vJ i),(44,vJ (s0 (s5 af.abs a.ah.ls))),(43, .slice a.ah.A a.ah.ls.length a.ah.c),(42,vP g 3),(41, .bool (decide (((s0 (s5 af.abs a.ah.ls):Nat):Int) > 4))),(40, .bool (decide (((s0 (s5 af.abs a.ah.ls):Nat):Int) > 4))),(39,vJ (s0 (s5 af.abs a.ah.ls))),(38, .slice a.ah.A a.ah.ls.length a.ah.c),(37,vP g 3),(36, .bool false),(35, .bool false),(34, .bool false),(33,undef),(32,undef),(31,undef),(30,undef),(29,undef),(28,undef),(27,undef),(26,undef),(25,undef),(24, .bool (decide (((b:Nat):Int) > 0))),(23, .bool (decide (((b:Nat):Int) > 0))),(22,vJ b),(21, .bool (!s)),(20, .bool (!s)),(19, .bool s),(18,vI a.aP),(17,vP g 0),(3,vJ b),(4,vP g 0),(16, .agg (aS.cells a).toArray),(15, .pointer (some ⟨ab o,ao o+b *4,none⟩)),(14,vJ b),(13, .bool (decide (((b:Nat):Int) < ((l0.length:Nat):Int)))),(12,vJ b),(11,vJ l0.length),(10, .slice o l0.length K),(0, .slice o l0.length K)]) bA (fun i=>(s0 (s5 af.abs a.ah.ls)) - i) 0 ⟨rfl,rfl,rfl,rfl,rfl,rfl,rfl,rfl,rfl,rfl,rfl,rfl,rfl,rfl,rfl,rfl,rfl,rfl,rfl,rfl,rfl,rfl,rfl,rfl,rfl,rfl,rfl,rfl,rfl,rfl,rfl,rfl,rfl,rfl,rfl,rfl,rfl,rfl,rfl,rfl,trivial⟩ (L.2 ⟨bz,e6,rfl⟩) ?_
 rintro d dD az
 obtain⟨I,bY,M⟩:=L.1 az
 refine sr (Kz (.bool (decide (((d:Nat):Int) < ((s0 (s5 af.abs a.ah.ls):Nat):Int)))) (nt (Ik ?_)))
 by_cases aj:((d:Nat):Int) < ((s0 (s5 af.abs a.ah.ls):Nat):Int)
 refine jT (dT aj) (sk (Ik (bo (sr ?_))))
 obtain⟨h,F⟩:=dh (ls:=a.ah.ls) (i:=d) af.len f2 (I.ro (B _ (D1 m)).1) e9
 have aa:=eY (rfl:s5 af.abs a.ah.ls=s5 af.abs a.ah.ls) F
 have bZ:=((B _ (D1 m)).2.2 _ (D1 F)).2
 refine fw (.pointer (some ⟨ab a.ah.A,ao a.ah.A+d *3,none⟩)) (Iz (rX) rfl rfl ((I.ro (B _ (D1 m)).1).addr (i:=d) e6) e6) (fw (.agg (af.cells h).toArray) (IB rfl (IJ (cs:=(af.cells h)) E2 E3 ((I.ro (B _ (D1 m)).1).elem af.len F f2))) ?_)
 refine dn [.bool false, .string ⟨v6 ([])⟩, .slice none 0 0] 149 I ?_
 intro dE dG bB
 refine df (af.cells h) 0 bB E3 ?_
 intro dH ak
 refine ns (La (af.cells h) ak 0 E2 E3 ?_)
 obtain⟨ag,N⟩:∃ q,j5 (aQ.mk h.dV h.aG (E0 h.aj.ls))=q:=⟨_,rfl⟩
 obtain⟨dI,aB,aC,aD,cu⟩:=Iu ak
 refine cl Tryz.call73 (qR _ _ (aQ.mk h.dV h.aG (E0 h.aj.ls)) h.aj.A h.aj.ls.length h.aj.c ag aB rfl (aC _ ((B _ (D1 m)).2.2 _ (D1 F)).1) (show h.aj.ls.length≤h.aj.c∧h.aj.ls.length≤9223372036854775807 from by omega) N) ?_
 rintro _ dJ ⟨rfl,aF⟩
 have au:=aD _ _ aF
 refine Kz (.bool (!ag)) (nt ?_)
 rcases Ls (ag) with J | J
 refine jF (cn J) (IU (bN (Iq (Il (fw (vJ (d+1)) (Ir (e:=C3.wrap (((d:Nat):Int)+1)) yk f0) (Mz rfl (C4 ?_)))))))
 have bC:=au.pk [1]
 exact II (d+1) ⟨rfl,rfl,rfl,rfl,rfl,rfl,rfl,rfl,rfl,rfl,rfl,rfl,rfl,rfl,rfl,rfl,rfl,rfl,rfl,rfl,rfl,rfl,rfl,rfl,rfl,rfl,rfl,rfl,rfl,rfl,rfl,rfl,rfl,rfl,rfl,rfl,rfl,rfl,rfl,rfl,trivial⟩ (L.2 ⟨bC,e6,et (M) (et (congrArg (fun q=>jd b (aS.abs a) q d) (rH (n:=s0 (s5 af.abs a.ah.ls)) (i:=d) e6)) (et (ae (aT aa)) (et (ae N) (ip J))))⟩) (by show (s0 (s5 af.abs a.ah.ls)) - (d+1) < (s0 (s5 af.abs a.ah.ls)) - d; omega)
 refine jT (cn J) (sr (An rfl (rt (bR (tR (tR (bR (bR (tR (tR (bR (tR (rs ?_)))))))))))))
 have bD:=au.pk []
 obtain rfl:_=false:=hr.symm.trans (et (iN C) (gL (et (t) (et (congrArg (fun q=>fC l0 q b) z) (et (ae u) (et (ip j) (et (iN f) (et (iN G) (oU (et (M) (et (congrArg (fun q=>jd b (aS.abs a) q d) (rH (n:=s0 (s5 af.abs a.ah.ls)) (i:=d) e6)) (et (ae (aT aa)) (et (ae N) (fP J))))))))))))))
 exact⟨rfl,bD⟩
 refine jF (dF aj) (C5 (IC ?_))
 have aG:jd b (aS.abs a) (s0 (s5 af.abs a.ah.ls)) 0=B7 ():=et (M) (et (congrArg (fun q=>jd b (aS.abs a) q d) (wC (n:=s0 (s5 af.abs a.ah.ls)) (i:=d) e6)) rfl)
 refine IC (IK (bN (Iq (Il (fw (vJ (b+1)) (Ir (e:=C3.wrap (((b:Nat):Int)+1)) yk f0) (Mz rfl (C4 ?_)))))))
 have bE:=I.pk []
 exact II (b+1) ⟨rfl,rfl,rfl,rfl,rfl,trivial⟩ (O.2 ⟨bE,e6,et (t) (et (congrArg (fun q=>fC l0 q b) z) (et (ae u) (et (ip j) (et (iN f) (et (iN G) (sH aG))))))⟩) (by show l0.length - (b+1) < l0.length - b; omega)
 refine Ip (rs:= []) 5 rfl rfl rfl (cn j) e7 (Ip (rs:= []) 6 rfl rfl rfl (cn j) e7 (Ip (rs:= []) 7 rfl rfl rfl (cn j) e7 (IR (rs:= []) 8 rfl rfl rfl e7 (IR (rs:= []) 9 rfl rfl rfl e7 (IR (rs:= []) 10 rfl rfl rfl e7 (IR (rs:= []) 11 rfl rfl rfl e7 (IR (rs:= []) 12 rfl rfl rfl e7 (IR (rs:= []) 13 rfl rfl rfl e7 (IR (rs:= []) 14 rfl rfl rfl e7 (IR (rs:= []) 15 rfl rfl rfl e7 (IR (rs:= []) 16 rfl rfl rfl e7 (Ip (rs:= []) 17 rfl rfl rfl (cn j) e7 (qt (v:= .bool true) 18 rfl (fun _ _=>Iw rfl (cn j) rfl) (qv 19 rfl rfl (Ip (rs:= []) 20 rfl rfl rfl rfl e7 (Ip (rs:= []) 21 rfl rfl rfl rfl e7 (Ip (rs:= []) 22 rfl rfl rfl rfl e7 (Ip (rs:= []) 23 rfl rfl rfl rfl e7 (qt (v:= .bool true) 24 rfl (fun _ _=>Iw rfl rfl rfl) (qn (Iq (jt (sr (An rfl (rt (tR (bR (tR (tR (bR (tR (rs ?_))))))))))))))))))))))))))))))))
 have bF:=E.pk []
 obtain rfl:_=false:=hr.symm.trans (et (iN C) (gL (et (t) (et (congrArg (fun q=>fC l0 q b) z) (et (ae u) (fP j))))))
 exact⟨rfl,bF⟩
 refine jF (dF aM) (C5 (IC ?_))
 have aI:fC l0 l0 0=B7 ():=et (t) (et (congrArg (fun q=>fC l0 q b) (dZ (ls:=l0) (i:=b) e6)) rfl)
 refine IC (IK (Iq (sr (An rfl (rt (rs ?_))))))
 have bG:=S.pk []
 obtain rfl:_=true:=hr.symm.trans (et (iN C) (mF aI))
 exact⟨rfl,bG⟩
def iV (a:Bool):Int:=
 if a=true then 0 else 1
theorem mE (w D b e) (H:Own w D w []) (hr:iV b=e):
    Calls v5 39 #[.bool b] w (dA fun v w'=>v=vI e∧Own w D w' []):=by
 refine cb Tryz.func39 ?_
 refine sr (An rfl (Ik (sr (Mz rfl (Kz (.bool (!b)) (nt ?_))))))
 rcases Ls (b) with a | a
 refine jF (cn a) (sk (sr (An rfl (rt (rs ?_)))))
 have c:=H.pk []
 obtain rfl:_=0:=hr.symm.trans (ip a)
 exact⟨rfl,c⟩
 refine jT (cn a) (sr (An rfl (rt (tR (rs ?_)))))
 have d:=H.pk []
 obtain rfl:_=1:=hr.symm.trans (fP a)
 exact⟨rfl,d⟩
def gq (c:bZ):Int:=
 bnd (iM c.au 4) fun d=>if d=true then if((c.ax:Nat):Int) < 2147483648 then bnd (mR c) fun e=>if e=true then bnd (nM c) fun f=>if f=true then bnd (pJ c.aK.ls) fun g=>bnd (iV g) fun h=>h else bnd (iV false) fun i=>i else bnd (iV false) fun j=>j else bnd (iV false) fun a=>a else bnd (iV false) fun b=>b
set_option maxHeartbeats 1000000 in
theorem oC (w D) (a:bZ) (i P e j Q f z g R d n r0) (H:Own w D w []) (Z:P=a.ag.ls.length) (G:Ro w D fun w'=>aY w' 2 i a.ag.ls.length (q4 aM.cells a.ag.ls)) (bI:a.ag.ls.length≤e∧a.ag.ls.length≤9223372036854775807) (B:s5 ay.abs z=a.ak.ls) (aa:Q=a.ak.ls.length) (I:Ro w D fun w'=>aY w' 5 j a.ak.ls.length (q4 ay.cells z)) (bJ:a.ak.ls.length≤f∧a.ak.ls.length≤9223372036854775807) (u:∀ x ∈ z,Ro w D (fun w'=>aY w' 1 x.au.A x.au.ls.length (q4 (eI .i64) x.au.ls))∧(x.au.ls.length≤x.au.c∧x.au.ls.length≤9223372036854775807)) (y:s5 aS.abs n=a.aK.ls) (ag:R=a.aK.ls.length) (C:Ro w D fun w'=>aY w' 4 g a.aK.ls.length (q4 aS.cells n)) (bK:a.aK.ls.length≤d∧a.aK.ls.length≤9223372036854775807) (b:∀ x ∈ n,Ro w D (fun w'=>aY w' 3 x.ah.A x.ah.ls.length (q4 af.cells x.ah.ls))∧(x.ah.ls.length≤x.ah.c∧x.ah.ls.length≤9223372036854775807)∧(∀ E ∈ x.ah.ls,Ro w D (fun w'=>aY w' 2 E.aj.A E.aj.ls.length (q4 aH.cells E.aj.ls))∧(E.aj.ls.length≤E.aj.c∧E.aj.ls.length≤9223372036854775807))) (dz:a.ag.ls.length≤140737488355328∧a.ak.ls.length≤140737488355328∧a.aK.ls.length≤140737488355328) (hr:gq a=r0):
    Calls v5 19 #[.agg #[vI a.au,vU a.ax,vU a.bG,vU a.aF, .slice i P e, .slice j Q f, .slice g R d]] w (dA fun v w'=>v=vI r0∧Own w D w' []):=by
 subst Z aa ag
 have bG:=aA B
 have bH:=aA y
 refine cb Tryz.func19 ?_
 refine sr ?_
 refine dn [vI a.au,vU a.ax,vU a.bG,vU a.aF, .slice i a.ag.ls.length e, .slice j a.ak.ls.length f, .slice g a.aK.ls.length d] 33 H ?_
 intro ah dB aF
 refine Ar rfl (Kz (vP ah 0) (Lz (vI a.au) aF 0 C2 ?_))
 obtain⟨aG,o⟩:∃ q,iM a.au 4=q:=⟨_,rfl⟩
 obtain⟨dC,aI,bW,aJ,bX⟩:=Iu aF
 refine cl D3 (l6 _ _ a.au 4 aG aI o) ?_
 rintro _ dD ⟨rfl,aK⟩
 have J:=aJ _ _ aK
 refine Mz rfl ?_
 rcases Ls (aG) with h | h
 refine Gz (vP ah 1) h (Gl (vU a.ax) h J 0 D2 (Gz (.bool (decide (((a.ax:Nat):Int) < 2147483648))) h (fw (.bool (decide (((a.ax:Nat):Int) < 2147483648))) (Iw rfl h rfl) (Mz rfl ?_))))
 by_cases l:((a.ax:Nat):Int) < 2147483648
 refine Ga ([vI a.au,vU a.ax,vU a.bG,vU a.aF, .slice i a.ag.ls.length e, .slice j a.ak.ls.length f, .slice g a.aK.ls.length d]) (dT l) J 0 Tryz.isAgg33 Tryz.sizeOf33 ?_
 obtain⟨ai,F⟩:∃ q,mR a=q:=⟨_,rfl⟩
 obtain⟨dE,aL,p,aN,bY⟩:=Iu J
 refine pW (decide_eq_true l) Tryz.call41 (vC _ _ a i a.ag.ls.length e j a.ak.ls.length f z g a.aK.ls.length d n ai aL rfl (p _ G) (show a.ag.ls.length≤e∧a.ag.ls.length≤9223372036854775807 from by omega) B rfl (p _ I) (show a.ak.ls.length≤f∧a.ak.ls.length≤9223372036854775807 from by omega) (fun r s=>⟨p _ (u r s).1,(u r s).2⟩) y rfl (p _ C) (show a.aK.ls.length≤d∧a.aK.ls.length≤9223372036854775807 from by omega) (fun r s=>⟨p _ (b r s).1,(b r s).2.1,(fun E S=>⟨p _ ((b r s).2.2 E S).1,((b r s).2.2 E S).2⟩)⟩) e8 F) ?_
 rintro _ dG ⟨rfl,aO⟩
 have aj:=aN _ _ aO
 refine fw (.bool ai) (Iw rfl (dT l) rfl) (Mz rfl ?_)
 rcases Ls (ai) with m | m
 refine Ga ([vI a.au,vU a.ax,vU a.bG,vU a.aF, .slice i a.ag.ls.length e, .slice j a.ak.ls.length f, .slice g a.aK.ls.length d]) m aj 0 Tryz.isAgg33 Tryz.sizeOf33 ?_
 obtain⟨ak,K⟩:∃ q,nM a=q:=⟨_,rfl⟩
 obtain⟨dH,aP,t,aQ,cu⟩:=Iu aj
 refine Ju rfl rfl m rfl (IP Tryz.call42 rfl (uS _ _ a i a.ag.ls.length e j a.ak.ls.length f z g a.aK.ls.length d n ak aP rfl (t _ G) (show a.ag.ls.length≤e∧a.ag.ls.length≤9223372036854775807 from by omega) B rfl (t _ I) (show a.ak.ls.length≤f∧a.ak.ls.length≤9223372036854775807 from by omega) (fun r s=>⟨t _ (u r s).1,(u r s).2⟩) y rfl (t _ C) (show a.aK.ls.length≤d∧a.aK.ls.length≤9223372036854775807 from by omega) (fun r s=>⟨t _ (b r s).1,(b r s).2.1,(fun E S=>⟨t _ ((b r s).2.2 E S).1,((b r s).2.2 E S).2⟩)⟩) e8 K) ?_)
 rintro _ dI ⟨rfl,aR⟩
 have au:=aQ _ _ aR
 refine fw (.bool ak) (Iw rfl m rfl) (Mz rfl ?_)
 rcases Ls (ak) with k | k
 refine Gz (vP ah 6) k (Gl (.slice g a.aK.ls.length d) k au 0 Tryz.isAgg31 ?_)
 obtain⟨O,T⟩:∃ q,pJ a.aK.ls=q:=⟨_,rfl⟩
 obtain⟨dJ,aT,L,aU,cz⟩:=Iu au
 refine Ju rfl rfl k rfl (IP Tryz.call43 rfl (wK _ _ g a.aK.ls.length d n a.aK.ls O aT y (L _ C) (fun r s=>⟨L _ (b r s).1,(b r s).2.1,(fun E S=>⟨L _ ((b r s).2.2 E S).1,((b r s).2.2 E S).2⟩)⟩) rfl e6 T) ?_)
 rintro _ dK ⟨rfl,aV⟩
 have bL:=aU _ _ aV
 refine fw (.bool O) (Iw rfl k rfl) ?_
 obtain⟨aW,U⟩:∃ q,iV O=q:=⟨_,rfl⟩
 obtain⟨dL,aX,cB,aZ,cK⟩:=Iu bL
 refine cl E4 (mE _ _ O aW aX U) ?_
 rintro _ dM ⟨rfl,bf⟩
 have bM:=aZ _ _ bf
 refine An rfl (rt (rs ?_))
 have bN:=bM.pk []
 obtain rfl:_=aW:=hr.symm.trans (et (ae o) (et (ip h) (et (ip l) (et (ae F) (et (ip m) (et (ae K) (et (ip k) (et (ae T) (ae U)))))))))
 exact⟨rfl,bN⟩
 refine Sz k (Sz k (Sz k (fw (.bool false) (Io rfl k rfl) ?_)))
 obtain⟨bg,V⟩:∃ q,iV false=q:=⟨_,rfl⟩
 obtain⟨dN,bi,cO,bn,cZ⟩:=Iu au
 refine cl E4 (mE _ _ false bg bi V) ?_
 rintro _ dO ⟨rfl,bq⟩
 have bO:=bn _ _ bq
 refine An rfl (rt (rs ?_))
 have bP:=bO.pk []
 obtain rfl:_=bg:=hr.symm.trans (et (ae o) (et (ip h) (et (ip l) (et (ae F) (et (ip m) (et (ae K) (et (fP k) (ae V))))))))
 exact⟨rfl,bP⟩
 refine Sz m (Sz m (fw (.bool false) (Io rfl m rfl) (Mz rfl (Sz rfl (Sz rfl (Sz rfl (fw (.bool false) (Io rfl rfl rfl) ?_)))))))
 obtain⟨bu,W⟩:∃ q,iV false=q:=⟨_,rfl⟩
 obtain⟨dP,bv,df,bz,dh⟩:=Iu aj
 refine cl E4 (mE _ _ false bu bv W) ?_
 rintro _ dQ ⟨rfl,bA⟩
 have bQ:=bz _ _ bA
 refine An rfl (rt (rs ?_))
 have bB:=bQ.pk []
 obtain rfl:_=bu:=hr.symm.trans (et (ae o) (et (ip h) (et (ip l) (et (ae F) (et (fP m) (ae W))))))
 exact⟨rfl,bB⟩
 refine Sz (dF l) (Sz (dF l) (fw (.bool false) (Io rfl (dF l) rfl) (Mz rfl (Sz rfl (Sz rfl (fw (.bool false) (Io rfl rfl rfl) (Mz rfl (Sz rfl (Sz rfl (Sz rfl (fw (.bool false) (Io rfl rfl rfl) ?_)))))))))))
 obtain⟨X,M⟩:∃ q,iV false=q:=⟨_,rfl⟩
 obtain⟨di,av,bR,ax,bS⟩:=Iu J
 refine cl E4 (mE _ _ false X av M) ?_
 rintro _ dm ⟨rfl,az⟩
 have bC:=ax _ _ az
 refine An rfl (rt (rs ?_))
 have bD:=bC.pk []
 obtain rfl:_=X:=hr.symm.trans (et (ae o) (et (ip h) (et (iN l) (ae M))))
 exact⟨rfl,bD⟩
 refine Sz h (Sz h (Sz h (fw (.bool false) (Io rfl h rfl) (Mz rfl (Sz rfl (Sz rfl (fw (.bool false) (Io rfl rfl rfl) (Mz rfl (Sz rfl (Sz rfl (fw (.bool false) (Io rfl rfl rfl) (Mz rfl (Sz rfl (Sz rfl (Sz rfl (fw (.bool false) (Io rfl rfl rfl) ?_))))))))))))))))
 obtain⟨Y,N⟩:∃ q,iV false=q:=⟨_,rfl⟩
 obtain⟨dw,aB,bT,aC,bU⟩:=Iu J
 refine cl E4 (mE _ _ false Y aB N) ?_
 rintro _ dx ⟨rfl,aD⟩
 have bE:=aC _ _ aD
 refine An rfl (rt (rs ?_))
 have bF:=bE.pk []
 obtain rfl:_=Y:=hr.symm.trans (et (ae o) (et (fP h) (ae N)))
 exact⟨rfl,bF⟩
end Go.Proofs.YtbkagebjhbphaaaGreat
