/-
 record: the layers below; which states may be.
-/
import Derived.Test.YtcnkpjheifkgnaaGreatKq
import Derived.Test.YtcnkpjheifkgnaaGreatKx
import Derived.Test.YtcnkpjheifkgnaaGreatKy
import Derived.Test.YtcnkpjheifkgnaaGreatKs
namespace Go.Proofs.YtcnkpjheifkgnaaGreat
set_option maxRecDepth 100000
open Go.RowKit
set_option linter.unusedVariables false
set_option linter.unusedSectionVars false
set_option linter.unusedSimpArgs false
theorem mF:Elem Tryz.prog 23 54 2 24:=jZ (z:= .agg #[.string ⟨List.toArray ([])⟩, .int .i64 0]) Tryz.underlying23 (by kernel_rfl) rfl (by decide)
structure aH where
 aJ:List UInt8
 fI:Int
def aH.cells (x:aH):List Value:= [.string ⟨List.toArray x.aJ⟩, .int .i64 x.fI]
instance:Bk aH:=⟨fun x _=>bk x.aJ+(bk x.fI+(0))⟩
theorem aH.len:∀ x,(aH.cells x).length=2:=fun _=>rfl
theorem aH.one:∀ x, ∀ u ∈ aH.cells x,u.oneCell'=true:=fun x u hu=>by
 simp only [aH.cells,List.mem_cons,List.not_mem_nil,or_false] at hu
 rcases hu with rfl | rfl <;> rfl
def Aw (w:World) (x:aH):Prop:=(x.aJ.length≤140737488351232)∧((-9223372036854775808)≤x.fI∧x.fI≤9223372036854775807)
theorem oC (w:World):gY Tryz.prog w 54 2 aH.cells (Aw w):=
 (iH (sz:=2) Tryz.underlying54 (by kernel_rfl) (bW.cons (i:=0) (off:=0) (s:=1) rfl rfl (iW Tryz.underlying9 (by kernel_rfl)) (bW.cons (i:=1) (off:=1) (s:=1) rfl rfl (ku (k:= .i64) (lo:= -9223372036854775808) (hi:=9223372036854775807) Tryz.underlying3 (by kernel_rfl) (by decide) (by decide)) bW.nil))).map (fun p=>⟨p.1,p.2.1⟩) aH.len (fun _=>rfl) (fun _ h=>⟨h.1,h.2.1⟩) fun _=>Nat.le_refl _
instance:Inhabited aH:=⟨⟨default,default⟩⟩
theorem nR:Elem Tryz.prog 24 66 2 32:=jZ (z:= .agg #[.int .u64 0, .slice none 0 0]) Tryz.underlying24 (by kernel_rfl) rfl (by decide)
theorem qD:Elem Tryz.prog 64 74 6 80:=jZ (z:= .agg #[.int .i64 0, .string ⟨List.toArray ([])⟩, .string ⟨List.toArray ([])⟩, .string ⟨List.toArray ([])⟩, .string ⟨List.toArray ([])⟩, .int .i64 0]) Tryz.underlying64 (by kernel_rfl) rfl (by decide)
structure aW where
 aV:Int
 aX:List UInt8
 aB:List UInt8
 aJ:List UInt8
 aN:List UInt8
 bF:Int
def aW.cells (x:aW):List Value:= [.int .i64 x.aV, .string ⟨List.toArray x.aX⟩, .string ⟨List.toArray x.aB⟩, .string ⟨List.toArray x.aJ⟩, .string ⟨List.toArray x.aN⟩, .int .i64 x.bF]
instance:Bk aW:=⟨fun x _=>bk x.aV+(bk x.aX+(bk x.aB+(bk x.aJ+(bk x.aN+(bk x.bF+(0))))))⟩
theorem aW.len:∀ x,(aW.cells x).length=6:=fun _=>rfl
theorem aW.one:∀ x, ∀ u ∈ aW.cells x,u.oneCell'=true:=fun x u hu=>by
 simp only [aW.cells,List.mem_cons,List.not_mem_nil,or_false] at hu
 rcases hu with rfl | rfl | rfl | rfl | rfl | rfl <;> rfl
def Bn (w:World) (x:aW):Prop:=((-9223372036854775808)≤x.aV∧x.aV≤9223372036854775807)∧(x.aX.length≤140737488351232)∧(x.aB.length≤140737488351232)∧(x.aJ.length≤140737488351232)∧(x.aN.length≤140737488351232)∧((-9223372036854775808)≤x.bF∧x.bF≤9223372036854775807)
theorem tF (w:World):gY Tryz.prog w 74 6 aW.cells (Bn w):=
 (iH (sz:=6) Tryz.underlying74 (by kernel_rfl) (bW.cons (i:=0) (off:=0) (s:=1) rfl rfl (ku (k:= .i64) (lo:= -9223372036854775808) (hi:=9223372036854775807) Tryz.underlying3 (by kernel_rfl) (by decide) (by decide)) (bW.cons (i:=1) (off:=1) (s:=1) rfl rfl (iW Tryz.underlying9 (by kernel_rfl)) (bW.cons (i:=2) (off:=2) (s:=1) rfl rfl (iW Tryz.underlying9 (by kernel_rfl)) (bW.cons (i:=3) (off:=3) (s:=1) rfl rfl (iW Tryz.underlying9 (by kernel_rfl)) (bW.cons (i:=4) (off:=4) (s:=1) rfl rfl (iW Tryz.underlying9 (by kernel_rfl)) (bW.cons (i:=5) (off:=5) (s:=1) rfl rfl (ku (k:= .i64) (lo:= -9223372036854775808) (hi:=9223372036854775807) Tryz.underlying3 (by kernel_rfl) (by decide) (by decide)) bW.nil))))))).map (fun p=>⟨p.1,p.2.1,p.2.2.1,p.2.2.2.1,p.2.2.2.2.1,p.2.2.2.2.2.1⟩) aW.len (fun _=>rfl) (fun _ h=>⟨h.1,h.2.1,h.2.2.1,h.2.2.2.1,h.2.2.2.2.1,h.2.2.2.2.2.1⟩) fun _=>Nat.le_refl _
instance:Inhabited aW:=⟨⟨default,default,default,default,default,default⟩⟩
structure aP where
 aS:Nat
 aL:Sv aW
def aP.cells (x:aP):List Value:= [.int .u64 ((x.aS:Nat):Int), .slice x.aL.A x.aL.ls.length x.aL.c]
instance:Bk aP:=⟨fun x _=>bk x.aS+(bk x.aL+(0))⟩
theorem aP.len:∀ x,(aP.cells x).length=2:=fun _=>rfl
theorem aP.one:∀ x, ∀ u ∈ aP.cells x,u.oneCell'=true:=fun x u hu=>by
 simp only [aP.cells,List.mem_cons,List.not_mem_nil,or_false] at hu
 rcases hu with rfl | rfl <;> rfl
def A8 (w:World) (x:aP):Prop:=(x.aS≤18446744073709551615)∧(kY w 6 80 aW.cells (Bn w) x.aL)
theorem rU (w:World):gY Tryz.prog w 66 2 aP.cells (A8 w):=
 (iH (sz:=2) Tryz.underlying66 (by kernel_rfl) (bW.cons (i:=0) (off:=0) (s:=1) rfl rfl (gQ (k:= .u64) (hi:=18446744073709551615) Tryz.underlying22 (by kernel_rfl) (by decide) (by decide)) (bW.cons (i:=1) (off:=1) (s:=1) rfl rfl (iX (bytes:=80) Tryz.underlying64 (by kernel_rfl) (by kernel_rfl) (by decide) (tF w)) bW.nil))).map (fun p=>⟨p.1,p.2.1⟩) aP.len (fun _=>rfl) (fun _ h=>⟨h.1,h.2.1⟩) fun _=>Nat.le_refl _
instance:Inhabited aP:=⟨⟨default,default⟩⟩
structure fK where
 aS:Nat
 aL:Ll aW
instance:Inhabited fK:=⟨⟨default,default⟩⟩
def zV (x:aP):fK:=⟨x.aS,⟨x.aL.ls⟩⟩
def zN (x:aP):List HP:= [row x.aL.A x.aL.ls.length x.aL.c (List.flatMap aW.cells x.aL.ls) 74 6]
theorem jR:Elem Tryz.prog 25 22 1 8:=jZ (z:= .int .u64 0) Tryz.underlying25 (by kernel_rfl) rfl (by decide)
structure bI where
 aJ:List UInt8
 aN:List UInt8
def bI.cells (x:bI):List Value:= [.string ⟨List.toArray x.aJ⟩, .string ⟨List.toArray x.aN⟩]
instance:Bk bI:=⟨fun x _=>bk x.aJ+(bk x.aN+(0))⟩
theorem bI.len:∀ x,(bI.cells x).length=2:=fun _=>rfl
theorem bI.one:∀ x, ∀ u ∈ bI.cells x,u.oneCell'=true:=fun x u hu=>by
 simp only [bI.cells,List.mem_cons,List.not_mem_nil,or_false] at hu
 rcases hu with rfl | rfl <;> rfl
def Ay (w:World) (x:bI):Prop:=(x.aJ.length≤140737488351232)∧(x.aN.length≤140737488351232)
theorem oD (w:World):gY Tryz.prog w 27 2 bI.cells (Ay w):=
 (iH (sz:=2) Tryz.underlying27 (by kernel_rfl) (bW.cons (i:=0) (off:=0) (s:=1) rfl rfl (iW Tryz.underlying9 (by kernel_rfl)) (bW.cons (i:=1) (off:=1) (s:=1) rfl rfl (iW Tryz.underlying9 (by kernel_rfl)) bW.nil))).map (fun p=>⟨p.1,p.2.1⟩) bI.len (fun _=>rfl) (fun _ h=>⟨h.1,h.2.1⟩) fun _=>Nat.le_refl _
instance:Inhabited bI:=⟨⟨default,default⟩⟩
structure eU where
 bg:Nat
 bv:Nat
 cz:Nat
 aO:bI
def eU.cells (x:eU):List Value:= [.int .u64 ((x.bg:Nat):Int), .int .u64 ((x.bv:Nat):Int), .int .u64 ((x.cz:Nat):Int), .string ⟨List.toArray x.aO.aJ⟩, .string ⟨List.toArray x.aO.aN⟩]
instance:Bk eU:=⟨fun x _=>bk x.bg+(bk x.bv+(bk x.cz+(bk x.aO+(0))))⟩
theorem eU.len:∀ x,(eU.cells x).length=5:=fun _=>rfl
theorem eU.one:∀ x, ∀ u ∈ eU.cells x,u.oneCell'=true:=fun x u hu=>by
 simp only [eU.cells,List.mem_cons,List.not_mem_nil,or_false] at hu
 rcases hu with rfl | rfl | rfl | rfl | rfl <;> rfl
def AV (w:World) (x:eU):Prop:=(x.bg≤18446744073709551615)∧(x.bv≤18446744073709551615)∧(x.cz≤18446744073709551615)∧(Ay w x.aO)
theorem rC (w:World):gY Tryz.prog w 29 5 eU.cells (AV w):=
 (iH (sz:=5) Tryz.underlying29 (by kernel_rfl) (bW.cons (i:=0) (off:=0) (s:=1) rfl rfl (gQ (k:= .u64) (hi:=18446744073709551615) Tryz.underlying22 (by kernel_rfl) (by decide) (by decide)) (bW.cons (i:=1) (off:=1) (s:=1) rfl rfl (gQ (k:= .u64) (hi:=18446744073709551615) Tryz.underlying22 (by kernel_rfl) (by decide) (by decide)) (bW.cons (i:=2) (off:=2) (s:=1) rfl rfl (gQ (k:= .u64) (hi:=18446744073709551615) Tryz.underlying22 (by kernel_rfl) (by decide) (by decide)) (bW.cons (i:=3) (off:=3) (s:=2) rfl rfl (oD w) bW.nil))))).map (fun p=>⟨p.1,p.2.1,p.2.2.1,p.2.2.2.1⟩) eU.len (fun _=>rfl) (fun _ h=>⟨h.1,h.2.1,h.2.2.1,h.2.2.2.1⟩) fun _=>Nat.le_refl _
instance:Inhabited eU:=⟨⟨default,default,default,default⟩⟩
structure iA where
 iw:Int
 au:Nat
 aY:Nat
 aK:Nat
 bg:Nat
 ag:Sv aH
 aD:Sv aP
 aj:Sv Nat
 gU:Nat
 cu:Nat
 aZ:bI
 aT:eU
def iA.cells (x:iA):List Value:= [.int .i64 x.iw, .int .u64 ((x.au:Nat):Int), .int .u64 ((x.aY:Nat):Int), .int .u64 ((x.aK:Nat):Int), .int .u64 ((x.bg:Nat):Int), .slice x.ag.A x.ag.ls.length x.ag.c, .slice x.aD.A x.aD.ls.length x.aD.c, .slice x.aj.A x.aj.ls.length x.aj.c, .int .u64 ((x.gU:Nat):Int), .int .u64 ((x.cu:Nat):Int), .string ⟨List.toArray x.aZ.aJ⟩, .string ⟨List.toArray x.aZ.aN⟩, .int .u64 ((x.aT.bg:Nat):Int), .int .u64 ((x.aT.bv:Nat):Int), .int .u64 ((x.aT.cz:Nat):Int), .string ⟨List.toArray x.aT.aO.aJ⟩, .string ⟨List.toArray x.aT.aO.aN⟩]
instance:Bk iA:=⟨fun x _=>bk x.iw+(bk x.au+(bk x.aY+(bk x.aK+(bk x.bg+(bk x.ag+(bk x.aD+(bk x.aj+(bk x.gU+(bk x.cu+(bk x.aZ+(bk x.aT+(0))))))))))))⟩
theorem iA.len:∀ x,(iA.cells x).length=17:=fun _=>rfl
theorem iA.one:∀ x, ∀ u ∈ iA.cells x,u.oneCell'=true:=fun x u hu=>by
 simp only [iA.cells,List.mem_cons,List.not_mem_nil,or_false] at hu
 rcases hu with rfl | rfl | rfl | rfl | rfl | rfl | rfl | rfl | rfl | rfl | rfl | rfl | rfl | rfl | rfl | rfl | rfl <;> rfl
def AA (w:World) (x:iA):Prop:=((-9223372036854775808)≤x.iw∧x.iw≤9223372036854775807)∧(x.au≤18446744073709551615)∧(x.aY≤18446744073709551615)∧(x.aK≤18446744073709551615)∧(x.bg≤18446744073709551615)∧(kY w 2 24 aH.cells (Aw w) x.ag)∧(kY w 2 32 aP.cells (A8 w) x.aD)∧(kY w 1 8 (eN .u64) (fun n=>n≤18446744073709551615) x.aj)∧(x.gU≤18446744073709551615)∧(x.cu≤18446744073709551615)∧(Ay w x.aZ)∧(AV w x.aT)
theorem rD (w:World):gY Tryz.prog w 31 17 iA.cells (AA w):=
 (iH (sz:=17) Tryz.underlying31 (by kernel_rfl) (bW.cons (i:=0) (off:=0) (s:=1) rfl rfl (ku (k:= .i64) (lo:= -9223372036854775808) (hi:=9223372036854775807) Tryz.underlying3 (by kernel_rfl) (by decide) (by decide)) (bW.cons (i:=1) (off:=1) (s:=1) rfl rfl (gQ (k:= .u64) (hi:=18446744073709551615) Tryz.underlying22 (by kernel_rfl) (by decide) (by decide)) (bW.cons (i:=2) (off:=2) (s:=1) rfl rfl (gQ (k:= .u64) (hi:=18446744073709551615) Tryz.underlying22 (by kernel_rfl) (by decide) (by decide)) (bW.cons (i:=3) (off:=3) (s:=1) rfl rfl (gQ (k:= .u64) (hi:=18446744073709551615) Tryz.underlying22 (by kernel_rfl) (by decide) (by decide)) (bW.cons (i:=4) (off:=4) (s:=1) rfl rfl (gQ (k:= .u64) (hi:=18446744073709551615) Tryz.underlying22 (by kernel_rfl) (by decide) (by decide)) (bW.cons (i:=5) (off:=5) (s:=1) rfl rfl (iX (bytes:=24) Tryz.underlying23 (by kernel_rfl) (by kernel_rfl) (by decide) (oC w)) (bW.cons (i:=6) (off:=6) (s:=1) rfl rfl (iX (bytes:=32) Tryz.underlying24 (by kernel_rfl) (by kernel_rfl) (by decide) (rU w)) (bW.cons (i:=7) (off:=7) (s:=1) rfl rfl (iX (bytes:=8) Tryz.underlying25 (by kernel_rfl) (by kernel_rfl) (by decide) (gQ (k:= .u64) (hi:=18446744073709551615) Tryz.underlying22 (by kernel_rfl) (by decide) (by decide))) (bW.cons (i:=8) (off:=8) (s:=1) rfl rfl (gQ (k:= .u64) (hi:=18446744073709551615) Tryz.underlying22 (by kernel_rfl) (by decide) (by decide)) (bW.cons (i:=9) (off:=9) (s:=1) rfl rfl (gQ (k:= .u64) (hi:=18446744073709551615) Tryz.underlying22 (by kernel_rfl) (by decide) (by decide)) (bW.cons (i:=10) (off:=10) (s:=2) rfl rfl (oD w) (bW.cons (i:=11) (off:=12) (s:=5) rfl rfl (rC w) bW.nil))))))))))))).map (fun p=>⟨p.1,p.2.1,p.2.2.1,p.2.2.2.1,p.2.2.2.2.1,p.2.2.2.2.2.1,p.2.2.2.2.2.2.1,p.2.2.2.2.2.2.2.1,p.2.2.2.2.2.2.2.2.1,p.2.2.2.2.2.2.2.2.2.1,p.2.2.2.2.2.2.2.2.2.2.1,p.2.2.2.2.2.2.2.2.2.2.2.1⟩) iA.len (fun _=>rfl) (fun _ h=>⟨h.1,h.2.1,h.2.2.1,h.2.2.2.1,h.2.2.2.2.1,h.2.2.2.2.2.1,h.2.2.2.2.2.2.1,h.2.2.2.2.2.2.2.1,h.2.2.2.2.2.2.2.2.1,h.2.2.2.2.2.2.2.2.2.1,h.2.2.2.2.2.2.2.2.2.2.1,h.2.2.2.2.2.2.2.2.2.2.2.1⟩) fun _=>Nat.le_refl _
instance:Inhabited iA:=⟨⟨default,default,default,default,default,default,default,default,default,default,default,default⟩⟩
structure bP where
 iw:Int
 au:Nat
 aY:Nat
 aK:Nat
 bg:Nat
 ag:Ll aH
 aD:Ll fK
 aj:Ll Nat
 gU:Nat
 cu:Nat
 aZ:bI
 aT:eU
instance:Inhabited bP:=⟨⟨default,default,default,default,default,default,default,default,default,default,default,default⟩⟩
def AL (x:iA):bP:=⟨x.iw,x.au,x.aY,x.aK,x.bg,⟨x.ag.ls⟩,⟨List.map zV x.aD.ls⟩,⟨x.aj.ls⟩,x.gU,x.cu,x.aZ,x.aT⟩
def BL (x:iA):List HP:= [row x.ag.A x.ag.ls.length x.ag.c (List.flatMap aH.cells x.ag.ls) 54 2,row x.aD.A x.aD.ls.length x.aD.c (List.flatMap aP.cells x.aD.ls) 66 2,row x.aj.A x.aj.ls.length x.aj.c (List.flatMap (eN .u64) x.aj.ls) 22 1,sepL (List.flatMap zN x.aD.ls)]
abbrev bM (n:Int) (o:Nat) (p:Nat) (q:Nat) (r:Nat) (s:Option Addr) (a b:Nat) (t:Option Addr) (c d:Nat) (u:Option Addr) (e f:Nat) (v:Nat) (w:Nat) (g:List UInt8) (h:List UInt8) (i:Nat) (j:Nat) (k:Nat) (l:List UInt8) (m:List UInt8):List Value:= [.int .i64 n, .int .u64 ((o:Nat):Int), .int .u64 ((p:Nat):Int), .int .u64 ((q:Nat):Int), .int .u64 ((r:Nat):Int), .slice s a b, .slice t c d, .slice u e f, .int .u64 ((v:Nat):Int), .int .u64 ((w:Nat):Int), .string ⟨List.toArray g⟩, .string ⟨List.toArray h⟩, .int .u64 ((i:Nat):Int), .int .u64 ((j:Nat):Int), .int .u64 ((k:Nat):Int), .string ⟨List.toArray l⟩, .string ⟨List.toArray m⟩]
abbrev bQ (x:bP) (a:Option Addr) (b:Nat) (c:Option Addr) (c1:Nat) (d:Option Addr) (e:Nat):List Value:= [.int .i64 x.iw, .int .u64 ((x.au:Nat):Int), .int .u64 ((x.aY:Nat):Int), .int .u64 ((x.aK:Nat):Int), .int .u64 ((x.bg:Nat):Int), .slice a x.ag.ls.length b, .slice c x.aD.ls.length c1, .slice d x.aj.ls.length e, .int .u64 ((x.gU:Nat):Int), .int .u64 ((x.cu:Nat):Int), .string ⟨List.toArray x.aZ.aJ⟩, .string ⟨List.toArray x.aZ.aN⟩, .int .u64 ((x.aT.bg:Nat):Int), .int .u64 ((x.aT.bv:Nat):Int), .int .u64 ((x.aT.cz:Nat):Int), .string ⟨List.toArray x.aT.aO.aJ⟩, .string ⟨List.toArray x.aT.aO.aN⟩]
theorem qE:Elem Tryz.prog 32 79 5 56:=jZ (z:= .agg #[.int .u64 0, .int .i64 0, .int .u64 0, .int .u64 0, .slice none 0 0]) Tryz.underlying32 (by kernel_rfl) rfl (by decide)
theorem oF:Elem Tryz.prog 77 3 1 8:=jZ (z:= .int .i64 0) Tryz.underlying77 (by kernel_rfl) rfl (by decide)
structure ak where
 aS:Nat
 aC:Int
 au:Nat
 bB:Nat
 af:Sv Int
def ak.cells (x:ak):List Value:= [.int .u64 ((x.aS:Nat):Int), .int .i64 x.aC, .int .u64 ((x.au:Nat):Int), .int .u64 ((x.bB:Nat):Int), .slice x.af.A x.af.ls.length x.af.c]
instance:Bk ak:=⟨fun x _=>bk x.aS+(bk x.aC+(bk x.au+(bk x.bB+(bk x.af+(0)))))⟩
theorem ak.len:∀ x,(ak.cells x).length=5:=fun _=>rfl
theorem ak.one:∀ x, ∀ u ∈ ak.cells x,u.oneCell'=true:=fun x u hu=>by
 simp only [ak.cells,List.mem_cons,List.not_mem_nil,or_false] at hu
 rcases hu with rfl | rfl | rfl | rfl | rfl <;> rfl
def AB (w:World) (x:ak):Prop:=(x.aS≤18446744073709551615)∧((-9223372036854775808)≤x.aC∧x.aC≤9223372036854775807)∧(x.au≤18446744073709551615)∧(x.bB≤18446744073709551615)∧(kY w 1 8 (eI .i64) (fun n=>(-9223372036854775808)≤n∧n≤9223372036854775807) x.af)
theorem qb (w:World):gY Tryz.prog w 79 5 ak.cells (AB w):=
 (iH (sz:=5) Tryz.underlying79 (by kernel_rfl) (bW.cons (i:=0) (off:=0) (s:=1) rfl rfl (gQ (k:= .u64) (hi:=18446744073709551615) Tryz.underlying22 (by kernel_rfl) (by decide) (by decide)) (bW.cons (i:=1) (off:=1) (s:=1) rfl rfl (ku (k:= .i64) (lo:= -9223372036854775808) (hi:=9223372036854775807) Tryz.underlying3 (by kernel_rfl) (by decide) (by decide)) (bW.cons (i:=2) (off:=2) (s:=1) rfl rfl (gQ (k:= .u64) (hi:=18446744073709551615) Tryz.underlying22 (by kernel_rfl) (by decide) (by decide)) (bW.cons (i:=3) (off:=3) (s:=1) rfl rfl (gQ (k:= .u64) (hi:=18446744073709551615) Tryz.underlying22 (by kernel_rfl) (by decide) (by decide)) (bW.cons (i:=4) (off:=4) (s:=1) rfl rfl (iX (bytes:=8) Tryz.underlying77 (by kernel_rfl) (by kernel_rfl) (by decide) (ku (k:= .i64) (lo:= -9223372036854775808) (hi:=9223372036854775807) Tryz.underlying3 (by kernel_rfl) (by decide) (by decide))) bW.nil)))))).map (fun p=>⟨p.1,p.2.1,p.2.2.1,p.2.2.2.1,p.2.2.2.2.1⟩) ak.len (fun _=>rfl) (fun _ h=>⟨h.1,h.2.1,h.2.2.1,h.2.2.2.1,h.2.2.2.2.1⟩) fun _=>Nat.le_refl _
instance:Inhabited ak:=⟨⟨default,default,default,default,default⟩⟩
structure bO where
 aS:Nat
 aC:Int
 au:Nat
 bB:Nat
 af:Ll Int
instance:Inhabited bO:=⟨⟨default,default,default,default,default⟩⟩
def zz (x:ak):bO:=⟨x.aS,x.aC,x.au,x.bB,⟨x.af.ls⟩⟩
def zL (x:ak):List HP:= [row x.af.A x.af.ls.length x.af.c (List.flatMap (eI .i64) x.af.ls) 3 1]
theorem qF:Elem Tryz.prog 33 84 4 48:=jZ (z:= .agg #[.int .i64 0, .int .u64 0, .int .u64 0, .slice none 0 0]) Tryz.underlying33 (by kernel_rfl) rfl (by decide)
theorem nk:Elem Tryz.prog 82 129 3 48:=jZ (z:= .agg #[.bool false, .string ⟨List.toArray ([])⟩, .slice none 0 0]) Tryz.underlying82 (by kernel_rfl) rfl (by decide)
theorem oU:Elem Tryz.prog 127 133 2 32:=jZ (z:= .agg #[.string ⟨List.toArray ([])⟩, .string ⟨List.toArray ([])⟩]) Tryz.underlying127 (by kernel_rfl) rfl (by decide)
structure bu where
 aX:List UInt8
 aB:List UInt8
def bu.cells (x:bu):List Value:= [.string ⟨List.toArray x.aX⟩, .string ⟨List.toArray x.aB⟩]
instance:Bk bu:=⟨fun x _=>bk x.aX+(bk x.aB+(0))⟩
theorem bu.len:∀ x,(bu.cells x).length=2:=fun _=>rfl
theorem bu.one:∀ x, ∀ u ∈ bu.cells x,u.oneCell'=true:=fun x u hu=>by
 simp only [bu.cells,List.mem_cons,List.not_mem_nil,or_false] at hu
 rcases hu with rfl | rfl <;> rfl
def A9 (w:World) (x:bu):Prop:=(x.aX.length≤140737488351232)∧(x.aB.length≤140737488351232)
theorem rV (w:World):gY Tryz.prog w 133 2 bu.cells (A9 w):=
 (iH (sz:=2) Tryz.underlying133 (by kernel_rfl) (bW.cons (i:=0) (off:=0) (s:=1) rfl rfl (iW Tryz.underlying9 (by kernel_rfl)) (bW.cons (i:=1) (off:=1) (s:=1) rfl rfl (iW Tryz.underlying9 (by kernel_rfl)) bW.nil))).map (fun p=>⟨p.1,p.2.1⟩) bu.len (fun _=>rfl) (fun _ h=>⟨h.1,h.2.1⟩) fun _=>Nat.le_refl _
instance:Inhabited bu:=⟨⟨default,default⟩⟩
structure az where
 dm:Bool
 aB:List UInt8
 ax:Sv bu
def az.cells (x:az):List Value:= [.bool x.dm, .string ⟨List.toArray x.aB⟩, .slice x.ax.A x.ax.ls.length x.ax.c]
instance:Bk az:=⟨fun x _=>bk x.dm+(bk x.aB+(bk x.ax+(0)))⟩
theorem az.len:∀ x,(az.cells x).length=3:=fun _=>rfl
theorem az.one:∀ x, ∀ u ∈ az.cells x,u.oneCell'=true:=fun x u hu=>by
 simp only [az.cells,List.mem_cons,List.not_mem_nil,or_false] at hu
 rcases hu with rfl | rfl | rfl <;> rfl
def AO (w:World) (x:az):Prop:=(True)∧(x.aB.length≤140737488351232)∧(kY w 2 32 bu.cells (A9 w) x.ax)
theorem qX (w:World):gY Tryz.prog w 129 3 az.cells (AO w):=
 (iH (sz:=3) Tryz.underlying129 (by kernel_rfl) (bW.cons (i:=0) (off:=0) (s:=1) rfl rfl (sI Tryz.underlying4 (by kernel_rfl)) (bW.cons (i:=1) (off:=1) (s:=1) rfl rfl (iW Tryz.underlying9 (by kernel_rfl)) (bW.cons (i:=2) (off:=2) (s:=1) rfl rfl (iX (bytes:=32) Tryz.underlying127 (by kernel_rfl) (by kernel_rfl) (by decide) (rV w)) bW.nil)))).map (fun p=>⟨p.1,p.2.1,p.2.2.1⟩) az.len (fun _=>rfl) (fun _ h=>⟨h.1,h.2.1,h.2.2.1⟩) fun _=>Nat.le_refl _
instance:Inhabited az:=⟨⟨default,default,default⟩⟩
structure bX where
 dm:Bool
 aB:List UInt8
 ax:Ll bu
instance:Inhabited bX:=⟨⟨default,default,default⟩⟩
def zm (x:az):bX:=⟨x.dm,x.aB,⟨x.ax.ls⟩⟩
def zZ (x:az):List HP:= [row x.ax.A x.ax.ls.length x.ax.c (List.flatMap bu.cells x.ax.ls) 133 2]
structure aM where
 aC:Int
 au:Nat
 bB:Nat
 ah:Sv az
def aM.cells (x:aM):List Value:= [.int .i64 x.aC, .int .u64 ((x.au:Nat):Int), .int .u64 ((x.bB:Nat):Int), .slice x.ah.A x.ah.ls.length x.ah.c]
instance:Bk aM:=⟨fun x _=>bk x.aC+(bk x.au+(bk x.bB+(bk x.ah+(0))))⟩
theorem aM.len:∀ x,(aM.cells x).length=4:=fun _=>rfl
theorem aM.one:∀ x, ∀ u ∈ aM.cells x,u.oneCell'=true:=fun x u hu=>by
 simp only [aM.cells,List.mem_cons,List.not_mem_nil,or_false] at hu
 rcases hu with rfl | rfl | rfl | rfl <;> rfl
def Ba (w:World) (x:aM):Prop:=((-9223372036854775808)≤x.aC∧x.aC≤9223372036854775807)∧(x.au≤18446744073709551615)∧(x.bB≤18446744073709551615)∧(kY w 3 48 az.cells (AO w) x.ah)
theorem rW (w:World):gY Tryz.prog w 84 4 aM.cells (Ba w):=
 (iH (sz:=4) Tryz.underlying84 (by kernel_rfl) (bW.cons (i:=0) (off:=0) (s:=1) rfl rfl (ku (k:= .i64) (lo:= -9223372036854775808) (hi:=9223372036854775807) Tryz.underlying3 (by kernel_rfl) (by decide) (by decide)) (bW.cons (i:=1) (off:=1) (s:=1) rfl rfl (gQ (k:= .u64) (hi:=18446744073709551615) Tryz.underlying22 (by kernel_rfl) (by decide) (by decide)) (bW.cons (i:=2) (off:=2) (s:=1) rfl rfl (gQ (k:= .u64) (hi:=18446744073709551615) Tryz.underlying22 (by kernel_rfl) (by decide) (by decide)) (bW.cons (i:=3) (off:=3) (s:=1) rfl rfl (iX (bytes:=48) Tryz.underlying82 (by kernel_rfl) (by kernel_rfl) (by decide) (qX w)) bW.nil))))).map (fun p=>⟨p.1,p.2.1,p.2.2.1,p.2.2.2.1⟩) aM.len (fun _=>rfl) (fun _ h=>⟨h.1,h.2.1,h.2.2.1,h.2.2.2.1⟩) fun _=>Nat.le_refl _
instance:Inhabited aM:=⟨⟨default,default,default,default⟩⟩
structure eD where
 aC:Int
 au:Nat
 bB:Nat
 ah:Ll bX
instance:Inhabited eD:=⟨⟨default,default,default,default⟩⟩
def zM (x:aM):eD:=⟨x.aC,x.au,x.bB,⟨List.map zm x.ah.ls⟩⟩
def zQ (x:aM):List HP:= [row x.ah.A x.ah.ls.length x.ah.c (List.flatMap az.cells x.ah.ls) 129 3,sepL (List.flatMap zZ x.ah.ls)]
structure iC where
 af:Int
 au:Nat
 aY:Nat
 aK:Nat
 ag:Sv aH
 ai:Sv ak
 aG:Sv aM
def iC.cells (x:iC):List Value:= [.int .i64 x.af, .int .u64 ((x.au:Nat):Int), .int .u64 ((x.aY:Nat):Int), .int .u64 ((x.aK:Nat):Int), .slice x.ag.A x.ag.ls.length x.ag.c, .slice x.ai.A x.ai.ls.length x.ai.c, .slice x.aG.A x.aG.ls.length x.aG.c]
instance:Bk iC:=⟨fun x _=>bk x.af+(bk x.au+(bk x.aY+(bk x.aK+(bk x.ag+(bk x.ai+(bk x.aG+(0)))))))⟩
theorem iC.len:∀ x,(iC.cells x).length=7:=fun _=>rfl
theorem iC.one:∀ x, ∀ u ∈ iC.cells x,u.oneCell'=true:=fun x u hu=>by
 simp only [iC.cells,List.mem_cons,List.not_mem_nil,or_false] at hu
 rcases hu with rfl | rfl | rfl | rfl | rfl | rfl | rfl <;> rfl
def AC (w:World) (x:iC):Prop:=((-9223372036854775808)≤x.af∧x.af≤9223372036854775807)∧(x.au≤18446744073709551615)∧(x.aY≤18446744073709551615)∧(x.aK≤18446744073709551615)∧(kY w 2 24 aH.cells (Aw w) x.ag)∧(kY w 5 56 ak.cells (AB w) x.ai)∧(kY w 4 48 aM.cells (Ba w) x.aG)
theorem rE (w:World):gY Tryz.prog w 35 7 iC.cells (AC w):=
 (iH (sz:=7) Tryz.underlying35 (by kernel_rfl) (bW.cons (i:=0) (off:=0) (s:=1) rfl rfl (ku (k:= .i64) (lo:= -9223372036854775808) (hi:=9223372036854775807) Tryz.underlying3 (by kernel_rfl) (by decide) (by decide)) (bW.cons (i:=1) (off:=1) (s:=1) rfl rfl (gQ (k:= .u64) (hi:=18446744073709551615) Tryz.underlying22 (by kernel_rfl) (by decide) (by decide)) (bW.cons (i:=2) (off:=2) (s:=1) rfl rfl (gQ (k:= .u64) (hi:=18446744073709551615) Tryz.underlying22 (by kernel_rfl) (by decide) (by decide)) (bW.cons (i:=3) (off:=3) (s:=1) rfl rfl (gQ (k:= .u64) (hi:=18446744073709551615) Tryz.underlying22 (by kernel_rfl) (by decide) (by decide)) (bW.cons (i:=4) (off:=4) (s:=1) rfl rfl (iX (bytes:=24) Tryz.underlying23 (by kernel_rfl) (by kernel_rfl) (by decide) (oC w)) (bW.cons (i:=5) (off:=5) (s:=1) rfl rfl (iX (bytes:=56) Tryz.underlying32 (by kernel_rfl) (by kernel_rfl) (by decide) (qb w)) (bW.cons (i:=6) (off:=6) (s:=1) rfl rfl (iX (bytes:=48) Tryz.underlying33 (by kernel_rfl) (by kernel_rfl) (by decide) (rW w)) bW.nil)))))))).map (fun p=>⟨p.1,p.2.1,p.2.2.1,p.2.2.2.1,p.2.2.2.2.1,p.2.2.2.2.2.1,p.2.2.2.2.2.2.1⟩) iC.len (fun _=>rfl) (fun _ h=>⟨h.1,h.2.1,h.2.2.1,h.2.2.2.1,h.2.2.2.2.1,h.2.2.2.2.2.1,h.2.2.2.2.2.2.1⟩) fun _=>Nat.le_refl _
instance:Inhabited iC:=⟨⟨default,default,default,default,default,default,default⟩⟩
structure bK where
 af:Int
 au:Nat
 aY:Nat
 aK:Nat
 ag:Ll aH
 ai:Ll bO
 aG:Ll eD
instance:Inhabited bK:=⟨⟨default,default,default,default,default,default,default⟩⟩
def AP (x:iC):bK:=⟨x.af,x.au,x.aY,x.aK,⟨x.ag.ls⟩,⟨List.map zz x.ai.ls⟩,⟨List.map zM x.aG.ls⟩⟩
def BM (x:iC):List HP:= [row x.ag.A x.ag.ls.length x.ag.c (List.flatMap aH.cells x.ag.ls) 54 2,row x.ai.A x.ai.ls.length x.ai.c (List.flatMap ak.cells x.ai.ls) 79 5,row x.aG.A x.aG.ls.length x.aG.c (List.flatMap aM.cells x.aG.ls) 84 4,sepL (List.flatMap zL x.ai.ls),sepL (List.flatMap zQ x.aG.ls)]
theorem lD:Elem Tryz.prog 37 5 1 1:=jZ (z:= .int .u8 0) Tryz.underlying37 (by kernel_rfl) rfl (by decide)
structure jB where
 xb:Sv UInt8
def jB.cells (x:jB):List Value:= [.slice x.xb.A x.xb.ls.length x.xb.c]
instance:Bk jB:=⟨fun x _=>bk x.xb+(0)⟩
theorem jB.len:∀ x,(jB.cells x).length=1:=fun _=>rfl
theorem jB.one:∀ x, ∀ u ∈ jB.cells x,u.oneCell'=true:=fun x u hu=>by
 simp only [jB.cells,List.mem_cons,List.not_mem_nil,or_false] at hu
 rcases hu with rfl <;> rfl
def BN (w:World) (x:jB):Prop:=(kY w 1 1 eB (fun _=>True) x.xb)
instance:Inhabited jB:=⟨⟨default⟩⟩
structure aQ where
 xb:Ll UInt8
instance:Inhabited aQ:=⟨⟨default⟩⟩
def BH (x:jB):aQ:=⟨⟨x.xb.ls⟩⟩
def BI (x:jB):List HP:= [row x.xb.A x.xb.ls.length x.xb.c (List.flatMap eB x.xb.ls) 5 1]
theorem lW:Elem Tryz.prog 121 9 1 16:=jZ (z:= .string ⟨List.toArray ([])⟩) Tryz.underlying121 (by kernel_rfl) rfl (by decide)
structure jC where
 aa:Sv UInt8
 av:Int
def jC.cells (x:jC):List Value:= [.slice x.aa.A x.aa.ls.length x.aa.c, .int .i64 x.av]
instance:Bk jC:=⟨fun x _=>bk x.aa+(bk x.av+(0))⟩
theorem jC.len:∀ x,(jC.cells x).length=2:=fun _=>rfl
theorem jC.one:∀ x, ∀ u ∈ jC.cells x,u.oneCell'=true:=fun x u hu=>by
 simp only [jC.cells,List.mem_cons,List.not_mem_nil,or_false] at hu
 rcases hu with rfl | rfl <;> rfl
def BO (w:World) (x:jC):Prop:=(kY w 1 1 eB (fun _=>True) x.aa)∧((-9223372036854775808)≤x.av∧x.av≤9223372036854775807)
instance:Inhabited jC:=⟨⟨default,default⟩⟩
structure ReaderT where
 aa:Ll UInt8
 av:Int
instance:Inhabited ReaderT:=⟨⟨default,default⟩⟩
def BJ (x:jC):ReaderT:=⟨⟨x.aa.ls⟩,x.av⟩
def BK (x:jC):List HP:= [row x.aa.A x.aa.ls.length x.aa.c (List.flatMap eB x.aa.ls) 5 1]
def dh (a:Int) (p1:Int):Bool:=
 if a ≥ 1 then decide (a≤p1) else false
theorem iD (w:World) (D:Nat→Prop) (b:Int) (p1:Int) (e:Bool) (H:Own w D w []) (hr:dh b p1=e):
    Calls Tryz.prog 38 #[.int .i64 b, .int .i64 p1] w (dE fun v w'=>v= .bool e∧Own w D w' []):=by
 refine zg (args:= [.int .i64 b, .int .i64 p1]) Tryz.func38 rfl rfl rfl ?_
 show Wp _ _ _ [(0, .int .i64 b),(1, .int .i64 p1)] _ _
 refine sr (Ar rfl (Mz rfl (Kz (.bool (decide (b ≥ 1))) (Mz rfl ?_))))
 by_cases a:b ≥ 1
 refine gw (.int .i64 b) (dT a) (zo rfl) (gw (.int .i64 p1) (dT a) (zo rfl) (Gz (.bool (decide (b≤p1))) (dT a) (fw (.bool (decide (b≤p1))) (zf rfl (dT a) rfl) (An rfl (rt (rs ?_))))))
 have c:Own w D w []:=H.pk []
 obtain rfl:_=decide (b≤p1):=hr.symm.trans (ip a)
 exact⟨rfl,c⟩
 refine Sz (dF a) (Sz (dF a) (Sz (dF a) (fw (.bool false) (zh rfl (dF a) rfl) (An rfl (rt (rs ?_))))))
 have d:Own w D w []:=H.pk []
 obtain rfl:_=false:=hr.symm.trans (iN a)
 exact⟨rfl,d⟩
def kD (a:Int):Bool:=
 if a ≥ 1 then decide (a≤4) else false
theorem pQ (w:World) (D:Nat→Prop) (b:Int) (e:Bool) (H:Own w D w []) (hr:kD b=e):
    Calls Tryz.prog 82 #[.int .i64 b] w (dE fun v w'=>v= .bool e∧Own w D w' []):=by
 refine zg (args:= [.int .i64 b]) Tryz.func82 rfl rfl rfl ?_
 show Wp _ _ _ [(0, .int .i64 b)] _ _
 refine sr (Ar rfl (Mz rfl (Kz (.bool (decide (b ≥ 1))) (Mz rfl ?_))))
 by_cases a:b ≥ 1
 refine gw (.int .i64 b) (dT a) (zo rfl) (Gz (.bool (decide (b≤4))) (dT a) (fw (.bool (decide (b≤4))) (zf rfl (dT a) rfl) (An rfl (rt (rs ?_)))))
 have c:Own w D w []:=H.pk []
 obtain rfl:_=decide (b≤4):=hr.symm.trans (ip a)
 exact⟨rfl,c⟩
 refine Sz (dF a) (Sz (dF a) (fw (.bool false) (zh rfl (dF a) rfl) (An rfl (rt (rs ?_)))))
 have d:Own w D w []:=H.pk []
 obtain rfl:_=false:=hr.symm.trans (iN a)
 exact⟨rfl,d⟩
def dR (a:List UInt8):Int:=
 if((a.length:Nat):Int) < 1 then 20 else if((a.length:Nat):Int) > 12 then 20 else 0
theorem jh (w:World) (D:Nat→Prop) (b:List UInt8) (d:Int) (H:Own w D w []) (hr:dR b=d):
    Calls Tryz.prog 83 #[.string ⟨List.toArray b⟩] w (dE fun v w'=>v= .int .i64 d∧Own w D w' []∧(¬ (d=0)∨(1≤b.length∧b.length≤12))):=by
 refine zg (args:= [.string ⟨List.toArray b⟩]) Tryz.func83 rfl rfl rfl ?_
 show Wp _ _ _ [(0, .string ⟨List.toArray b⟩)] _ _
 refine sr (An rfl (ze (sr (Mz rfl (Kz (.int .i64 ((b.length:Nat):Int)) (Kz (.bool (decide (((b.length:Nat):Int) < 1))) (Mz rfl ?_)))))))
 by_cases a:((b.length:Nat):Int) < 1
 refine Sz (dT a) (Sz (dT a) (Sz (dT a) (fw (.bool true) (zf rfl (dT a) rfl) (nt (jt (sr (An rfl (rt (tR (rs ?_))))))))))
 have e:Own w D w []:=H.pk []
 obtain rfl:_=20:=hr.symm.trans (ip a)
 exact⟨rfl,e,(by omega)⟩
 refine gw (.string ⟨List.toArray b⟩) (dF a) (zo rfl) (Gz (.int .i64 ((b.length:Nat):Int)) (dF a) (Gz (.bool (decide (((b.length:Nat):Int) > 12))) (dF a) (fw (.bool (decide (((b.length:Nat):Int) > 12))) (zh rfl (dF a) rfl) (nt ?_))))
 by_cases c:((b.length:Nat):Int) > 12
 refine jT (dT c) (sr (An rfl (rt (tR (rs ?_)))))
 have f:Own w D w []:=H.pk []
 obtain rfl:_=20:=hr.symm.trans (et (iN a) (ip c))
 exact⟨rfl,f,(by omega)⟩
 refine jF (dF c) (sk (sr (An rfl (rt (rs ?_)))))
 have g:Own w D w []:=H.pk []
 obtain rfl:_=0:=hr.symm.trans (et (iN a) (iN c))
 exact⟨rfl,g,(by omega)⟩
def dS (g:List aH):List aH→Nat→Unit ⊕ Int
  | [],a=>Sum.inl ()
  | b::c,a=>bnd (kD b.fI) fun d=>if d=true then if((a:Nat):Int) > 0 then bnd (dR b.aJ) fun e=>if e=0 then bnd (List.getD g (a - 1) default) fun f=>if b.aJ≤f.aJ then Sum.inr (170) else dS g c (a+1) else Sum.inr (170) else dS g c (a+1) else Sum.inr (170)
def iK (a:List aH):Int:=
 if((a.length:Nat):Int) < 1 then 170 else if((a.length:Nat):Int) > 6 then 170 else bnd (List.getD a 0 default) fun b=>if b.aJ≠([]) then 170 else lp (dS a a 0) fun _=>0
theorem nC (w:World) (D:Nat→Prop) (g:Option Addr) (Z F:Nat) (d:List aH) (r0:Int) (H:Own w D w []) (l:Ro w D fun w'=>bn w' 2 g Z (List.flatMap aH.cells d)) (aa:Z=d.length) (aI:d.length≤9223372036854775807) (hr:iK d=r0):
    Calls Tryz.prog 39 #[.slice g Z F] w (dE fun v w'=>v= .int .i64 r0∧Own w D w' []):=by
 subst aa
 refine zg (args:= [.slice g d.length F]) Tryz.func39 rfl rfl rfl ?_
 show Wp _ _ _ [(0, .slice g d.length F)] _ _
 refine sr (An rfl (ze (sr (Mz rfl (Kz (.int .i64 ((d.length:Nat):Int)) (Kz (.bool (decide (((d.length:Nat):Int) < 1))) (Mz rfl ?_)))))))
 by_cases h:((d.length:Nat):Int) < 1
 refine Sz (dT h) (Sz (dT h) (Sz (dT h) (fw (.bool true) (zf rfl (dT h) rfl) (Mz rfl (Sz rfl (Sz rfl (Sz rfl (Sz rfl (Sz rfl (fw (.bool true) (zf rfl rfl rfl) (nt (jt (sr (An rfl (rt (tR (rs ?_)))))))))))))))))
 have af:Own w D w []:=H.pk []
 obtain rfl:_=170:=hr.symm.trans (ip h)
 exact⟨rfl,af⟩
 refine gw (.slice g d.length F) (dF h) (zo rfl) (Gz (.int .i64 ((d.length:Nat):Int)) (dF h) (Gz (.bool (decide (((d.length:Nat):Int) > 6))) (dF h) (fw (.bool (decide (((d.length:Nat):Int) > 6))) (zh rfl (dF h) rfl) (Mz rfl ?_))))
 by_cases f:((d.length:Nat):Int) > 6
 refine Sz (dT f) (Sz (dT f) (Sz (dT f) (Sz (dT f) (Sz (dT f) (fw (.bool true) (zf rfl (dT f) rfl) (nt (jt (sr (An rfl (rt (tR (rs ?_))))))))))))
 have ag:Own w D w []:=H.pk []
 obtain rfl:_=170:=hr.symm.trans (et (iN h) (ip f))
 exact⟨rfl,ag⟩
 refine gw (.slice g d.length F) (dF f) (zo rfl) ?_
 obtain⟨G,m⟩:=eH (ls:=d) (i:=0) aH.len (by decide) (H.ro l) (by first | omega | (simp; done) | (simp; omega))
 refine gw (.pointer (some ⟨ab g,ao g+0 *2,none⟩)) (dF f) (zn (mF) rfl rfl ((H.ro l).addr (i:=0) (by omega)) (by omega)) (Gz (.pointer (some ⟨ab g,ao g+0 *2,none⟩)) (dF f) (gw (.string ⟨List.toArray G.aJ⟩) (dF f) (zi rfl (bf.one Tryz.isAgg9 (((H.ro l).elem aH.len m (by decide)).at_ (k:=0) rfl))) (gw (.bool (decide (G.aJ≠([])))) (dF f) (Ao rfl rfl) (fw (.bool (decide (G.aJ≠([])))) (zh rfl (dF f) rfl) (nt ?_)))))
 by_cases s:G.aJ≠([])
 refine jT (dT s) (sr (An rfl (rt (tR (rs ?_)))))
 have ah:Own w D w []:=H.pk []
 obtain rfl:_=170:=hr.symm.trans (et (iN h) (et (iN f) (et (ae (bJ m)) (ip s))))
 exact⟨rfl,ah⟩
 refine jF (dF s) (sk (ze (sr (Mz rfl (Kz (.int .i64 ((d.length:Nat):Int)) (Mn rfl (bo ?_)))))))
 have ai:Own w D w []:=H.pk []
 obtain⟨M,N⟩:∃ q:Nat→World→Prop,q=fun(i:Nat) w'=>Own w D w' []∧(i≤d.length∧dS d d 0=dS d (List.drop i d) i):=⟨_,rfl⟩
 have u:∀ {a:Nat} {w':World},M a w'↔Own w D w' []∧a≤d.length∧dS d d 0=dS d (List.drop a d) a:=by intros; subst N; exact Iff.rfl
 refine Wp.loop (fun i:Nat=> [(2, .int .i64 0),(21, .int .i64 ((i:Nat):Int)),(20, .int .i64 ((d.length:Nat):Int)),(0, .slice g d.length F)]) M (fun i=>d.length - i) 0 ⟨rfl,rfl,rfl,rfl,trivial⟩ (u.2 ⟨ai,by omega,rfl⟩) ?_
 rintro a aJ O
 show Wp _ _ _ [(2, .int .i64 0),(21, .int .i64 ((a:Nat):Int)),(20, .int .i64 ((d.length:Nat):Int)),(0, .slice g d.length F)] _ _
 obtain⟨A,aB,n⟩:=u.1 O
 refine sr (Kz (.bool (decide (((a:Nat):Int) < ((d.length:Nat):Int)))) (nt (ze ?_)))
 by_cases P:((a:Nat):Int) < ((d.length:Nat):Int)
 obtain⟨j,x⟩:=eH (ls:=d) (i:=a) aH.len (by decide) (A.ro l) (by first | omega | (simp; done) | (simp; omega))
 have p:=drop_at x
 refine jT (dT P) (sk (ze (bo (sr (Mz rfl (An rfl (ze (sr (Mz rfl (Mz rfl (fw (.pointer (some ⟨ab g,ao g+a *2,none⟩)) (zn (mF) rfl rfl ((A.ro l).addr (i:=a) (by omega)) (by omega)) (Kz (.pointer (some ⟨ab g,ao g+a *2+1,none⟩)) (fw (.int .i64 j.fI) (zi rfl (bf.one Tryz.isAgg3 (((A.ro l).elem aH.len x (by decide)).at_ (k:=1) rfl))) ?_)))))))))))))
 obtain⟨L,o⟩:∃ q,kD j.fI=q:=⟨_,rfl⟩
 obtain⟨aK,Q,aC,R,aD⟩:=zt A
 refine cl Tryz.call82 (pQ _ _ j.fI L Q o) ?_
 rintro _ aj ⟨rfl,S⟩
 have T:=R _ _ S
 refine Kz (.bool (!L)) (nt ?_)
 rcases Cf (L) with r | r
 refine jF (cn r) (sk (ze ?_))
 have B:=T.drew
 refine zX [] (fun W=> ∃ L',Own w D W ([]++L')) (by kernel_rfl) (by kernel_rfl) (zG (cK.block (zG (zG (cK.block (zG z8)))))) ⟨_,B⟩ ?_
 revert B
 generalize World.drew aj=aL
 intro B
 refine GX.take (v:= .int .i64 ((a:Nat):Int)) (rs:= []) 0 rfl (by kernel_rfl) (fun _ _=>zo rfl) (GX.take (v:= .bool (decide (((a:Nat):Int) > 0))) (rs:= []) 1 rfl (by kernel_rfl) (fun _ _=>yk) (GX.take (v:= .bool (decide (((a:Nat):Int) > 0))) (rs:= []) 2 rfl (by kernel_rfl) (fun _ _=>zo rfl) ?_))
 by_cases c:((a:Nat):Int) > 0
 refine zl (v:= .slice g d.length F) (rs:= []) 3 rfl rfl rfl (dT c) (by kernel_rfl) (fun _ _=>zo rfl) (zl (v:= .int .i64 ((a:Nat):Int)) (rs:= []) 4 rfl rfl rfl (dT c) (by kernel_rfl) (fun _ _=>zo rfl) (zl (v:= .pointer (some ⟨ab g,ao g+a *2,none⟩)) (rs:= []) 5 rfl rfl rfl (dT c) (by kernel_rfl) (fun _ ⟨_,C⟩=>zn (mF) rfl rfl ((C.ro l).addr (i:=a) (by omega)) (by omega)) (zl (v:= .pointer (some ⟨ab g,ao g+a *2,none⟩)) (rs:= []) 6 rfl rfl rfl (dT c) (by kernel_rfl) (fun _ _=>yk) (zl (v:= .string ⟨List.toArray j.aJ⟩) (rs:= []) 7 rfl rfl rfl (dT c) (by kernel_rfl) (fun _ ⟨_,C⟩=>zi rfl (bf.one Tryz.isAgg9 (((C.ro l).elem aH.len x (by decide)).at_ (k:=0) rfl))) ?_))))
 obtain⟨z,y⟩:∃ q,dR j.aJ=q:=⟨_,rfl⟩
 obtain⟨aM,U,aF,V,aG⟩:=zt B
 refine Aj 8 rfl rfl rfl (dT c) (by kernel_rfl) (zI Tryz.call83 rfl (jh _ _ j.aJ z U y) ?_)
 rintro _ aN ⟨rfl,X,K⟩
 have I:=V _ _ X
 replace K: ¬ (z=0)∨(1≤j.aJ.length∧j.aJ.length≤12):=K
 refine⟨.inr ⟨_,I⟩, ?_⟩
 refine zl (v:= .bool (decide (¬ (z=0)))) (rs:= []) 9 rfl rfl rfl (dT c) (by kernel_rfl) (fun _ _=>zF (e:= !(decide (z=0))) yk decide_not.symm) (zl (v:= .bool (decide (¬ (z=0)))) (rs:= []) 10 rfl rfl rfl (dT c) (by kernel_rfl) (fun _ _=>zo rfl) ?_)
 by_cases b:z=0
 refine zl (v:= .slice g d.length F) (rs:= []) 11 rfl rfl rfl (dF (Ce b)) (by kernel_rfl) (fun _ _=>zo rfl) (zl (v:= .int .i64 ((a:Nat):Int)) (rs:= []) 12 rfl rfl rfl (dF (Ce b)) (by kernel_rfl) (fun _ _=>zo rfl) (zl (v:= .pointer (some ⟨ab g,ao g+a *2,none⟩)) (rs:= []) 13 rfl rfl rfl (dF (Ce b)) (by kernel_rfl) (fun _ ⟨_,C⟩=>zn (mF) rfl rfl ((C.ro l).addr (i:=a) (by omega)) (by omega)) (zl (v:= .pointer (some ⟨ab g,ao g+a *2,none⟩)) (rs:= []) 14 rfl rfl rfl (dF (Ce b)) (by kernel_rfl) (fun _ _=>yk) (zl (v:= .string ⟨List.toArray j.aJ⟩) (rs:= []) 15 rfl rfl rfl (dF (Ce b)) (by kernel_rfl) (fun _ ⟨_,C⟩=>zi rfl (bf.one Tryz.isAgg9 (((C.ro l).elem aH.len x (by decide)).at_ (k:=0) rfl))) (zl (v:= .slice g d.length F) (rs:= []) 16 rfl rfl rfl (dF (Ce b)) (by kernel_rfl) (fun _ _=>zo rfl) (zl (v:= .int .i64 ((a:Nat):Int)) (rs:= []) 17 rfl rfl rfl (dF (Ce b)) (by kernel_rfl) (fun _ _=>zo rfl) (zl (v:= .int .i64 ((a - 1:Nat):Int)) (rs:= []) 18 rfl rfl rfl (dF (Ce b)) (by kernel_rfl) (fun _ _=>zy (e:=IntKind.i64.wrap (((a:Nat):Int) - 1)) yk (by rw [Cb _ (by omega)]; omega)) ?_)))))))
 obtain⟨t,E⟩:=lC (ls:=d) (i:=a - 1) (by first | omega | (simp; done) | (simp; omega))
 refine zl (v:= .pointer (some ⟨ab g,ao g+(a - 1) *2,none⟩)) (rs:= []) 19 rfl rfl rfl (dF (Ce b)) (by kernel_rfl) (fun _ ⟨_,C⟩=>zn (mF) rfl rfl ((C.ro l).addr (i:=a - 1) (by omega)) (by omega)) (zl (v:= .pointer (some ⟨ab g,ao g+(a - 1) *2,none⟩)) (rs:= []) 20 rfl rfl rfl (dF (Ce b)) (by kernel_rfl) (fun _ _=>yk) (zl (v:= .string ⟨List.toArray t.aJ⟩) (rs:= []) 21 rfl rfl rfl (dF (Ce b)) (by kernel_rfl) (fun _ ⟨_,C⟩=>zi rfl (bf.one Tryz.isAgg9 (((C.ro l).elem aH.len E (by decide)).at_ (k:=0) rfl))) (zl (v:= .bool (decide (j.aJ≤t.aJ))) (rs:= []) 22 rfl rfl rfl (dF (Ce b)) (by kernel_rfl) (fun _ _=>zF (e:=Op.bytesLess j.aJ t.aJ || decide (j.aJ=t.aJ)) (AJ rfl rfl) (sG _ _)) (zl (v:= .bool (decide (j.aJ≤t.aJ))) (rs:= []) 23 rfl rfl rfl (dT c) (by kernel_rfl) (fun _ _=>zh rfl (dF (Ce b)) rfl) (GX.take (v:= .bool (decide (j.aJ≤t.aJ))) (rs:= []) 24 rfl (by kernel_rfl) (fun _ _=>zf rfl (dT c) rfl) (zT (by kernel_rfl) (zu ?_)))))))
 by_cases J:j.aJ≤t.aJ
 refine jT (dT J) (sr (An rfl (rt (bR (tR (tR (bR (tR (rs ?_)))))))))
 have ak:=I.pk []
 obtain rfl:_=170:=hr.symm.trans (et (iN h) (et (iN f) (et (ae (bJ m)) (et (iN s) (fE (et (n) (et (congrArg (fun q=>dS d q a) p) (et (ae o) (et (ip r) (et (ip c) (et (ae y) (et (ip b) (et (ae (bJ E)) (ip J))))))))))))))
 exact⟨rfl,ak⟩
 refine jF (dF J) (zS (bN (zu (zb (fw (.int .i64 ((a+1:Nat):Int)) (zy (e:=IntKind.i64.wrap (((a:Nat):Int)+1)) yk (by rw [Cb _ (by omega)]; omega)) (Mz rfl (zq ?_)))))))
 have au:=I.pk []
 exact zH (a+1) ⟨rfl,rfl,rfl,rfl,trivial⟩ (u.2 ⟨au,by omega,et (n) (et (congrArg (fun q=>dS d q a) p) (et (ae o) (et (ip r) (et (ip c) (et (ae y) (et (ip b) (et (ae (bJ E)) (iN J))))))))⟩) (by show d.length - (a+1) < d.length - a; omega)
 refine zw (rs:= []) 11 rfl rfl rfl (dT b) (by kernel_rfl) (zw (rs:= []) 12 rfl rfl rfl (dT b) (by kernel_rfl) (zw (rs:= []) 13 rfl rfl rfl (dT b) (by kernel_rfl) (zw (rs:= []) 14 rfl rfl rfl (dT b) (by kernel_rfl) (zw (rs:= []) 15 rfl rfl rfl (dT b) (by kernel_rfl) (zw (rs:= []) 16 rfl rfl rfl (dT b) (by kernel_rfl) (zw (rs:= []) 17 rfl rfl rfl (dT b) (by kernel_rfl) (zw (rs:= []) 18 rfl rfl rfl (dT b) (by kernel_rfl) (zw (rs:= []) 19 rfl rfl rfl (dT b) (by kernel_rfl) (zw (rs:= []) 20 rfl rfl rfl (dT b) (by kernel_rfl) (zw (rs:= []) 21 rfl rfl rfl (dT b) (by kernel_rfl) (zw (rs:= []) 22 rfl rfl rfl (dT b) (by kernel_rfl) (zl (v:= .bool true) (rs:= []) 23 rfl rfl rfl (dT c) (by kernel_rfl) (fun _ _=>zf rfl (dT b) rfl) (GX.take (v:= .bool true) (rs:= []) 24 rfl (by kernel_rfl) (fun _ _=>zf rfl (dT c) rfl) (zT (by kernel_rfl) (zu (jt (sr (An rfl (rt (bR (tR (tR (bR (tR (rs ?_)))))))))))))))))))))))))
 have av:=I.pk []
 obtain rfl:_=170:=hr.symm.trans (et (iN h) (et (iN f) (et (ae (bJ m)) (et (iN s) (fE (et (n) (et (congrArg (fun q=>dS d q a) p) (et (ae o) (et (ip r) (et (ip c) (et (ae y) (iN b))))))))))))
 exact⟨rfl,av⟩
 refine zw (rs:= []) 3 rfl rfl rfl (dF c) (by kernel_rfl) (zw (rs:= []) 4 rfl rfl rfl (dF c) (by kernel_rfl) (zw (rs:= []) 5 rfl rfl rfl (dF c) (by kernel_rfl) (zw (rs:= []) 6 rfl rfl rfl (dF c) (by kernel_rfl) (zw (rs:= []) 7 rfl rfl rfl (dF c) (by kernel_rfl) (zw (rs:= []) 8 rfl rfl rfl (dF c) (by kernel_rfl) (zw (rs:= []) 9 rfl rfl rfl (dF c) (by kernel_rfl) (zw (rs:= []) 10 rfl rfl rfl (dF c) (by kernel_rfl) (zW (rs:= []) 11 rfl rfl rfl (by kernel_rfl) (zW (rs:= []) 12 rfl rfl rfl (by kernel_rfl) (zW (rs:= []) 13 rfl rfl rfl (by kernel_rfl) (zW (rs:= []) 14 rfl rfl rfl (by kernel_rfl) (zW (rs:= []) 15 rfl rfl rfl (by kernel_rfl) (zW (rs:= []) 16 rfl rfl rfl (by kernel_rfl) (zW (rs:= []) 17 rfl rfl rfl (by kernel_rfl) (zW (rs:= []) 18 rfl rfl rfl (by kernel_rfl) (zW (rs:= []) 19 rfl rfl rfl (by kernel_rfl) (zW (rs:= []) 20 rfl rfl rfl (by kernel_rfl) (zW (rs:= []) 21 rfl rfl rfl (by kernel_rfl) (zW (rs:= []) 22 rfl rfl rfl (by kernel_rfl) (zw (rs:= []) 23 rfl rfl rfl (dF c) (by kernel_rfl) (GX.take (v:= .bool false) (rs:= []) 24 rfl (by kernel_rfl) (fun _ _=>zh rfl (dF c) rfl) (zT (by kernel_rfl) (zu (jf (zS (bN (zu (zb (fw (.int .i64 ((a+1:Nat):Int)) (zy (e:=IntKind.i64.wrap (((a:Nat):Int)+1)) yk (by rw [Cb _ (by omega)]; omega)) (Mz rfl (zq ?_)))))))))))))))))))))))))))))))
 have ax:=B.pk []
 exact zH (a+1) ⟨rfl,rfl,rfl,rfl,trivial⟩ (u.2 ⟨ax,by omega,et (n) (et (congrArg (fun q=>dS d q a) p) (et (ae o) (et (ip r) (iN c))))⟩) (by show d.length - (a+1) < d.length - a; omega)
 refine jT (cn r) (sr (An rfl (rt (tR (bR (tR (tR (bR (tR (rs ?_))))))))))
 have ay:=T.pk []
 obtain rfl:_=170:=hr.symm.trans (et (iN h) (et (iN f) (et (ae (bJ m)) (et (iN s) (fE (et (n) (et (congrArg (fun q=>dS d q a) p) (et (ae o) (jV r)))))))))
 exact⟨rfl,ay⟩
 refine jF (dF P) (Wp.exit (zk ?_))
 have Y:dS d d 0=Sum.inl ():=et (n) (et (congrArg (fun q=>dS d q a) (eF (ls:=d) (i:=a) (by omega))) rfl)
 refine zk (zA (zu (sr (An rfl (rt (rs ?_))))))
 have az:=A.pk []
 obtain rfl:_=0:=hr.symm.trans (et (iN h) (et (iN f) (et (ae (bJ m)) (et (iN s) (gL Y)))))
 exact⟨rfl,az⟩
theorem qG (w:World) (D:Nat→Prop) (j:Int) (H:Own w D w []) (c:j=1):
    Calls Tryz.prog 111 #[.int .i64 j] w (dE fun v w'=>v= .tuple #[.agg #[.bool false, .func (.func 120) #[] #[], .func (.func 121) #[] #[], .func (.func 122) #[] #[], .func (.func 123) #[] #[]], .bool true]∧Own w D w' []):=by
 subst c
 refine zg (args:= [.int .i64 1]) Tryz.func111 rfl rfl rfl ?_
 show Wp _ _ _ [(0, .int .i64 1)] _ _
 refine sr ?_
 refine dC [.bool false, .nilFunc, .nilFunc, .nilFunc, .nilFunc] 166 H ?_
 intro l n d
 refine Ar rfl (Kz (.agg #[.bool false, .func (.func 120) #[] #[], .func (.func 121) #[] #[], .func (.func 122) #[] #[], .func (.func 123) #[] #[]]) (Kz (.agg #[.bool true, .func (.func 124) #[] #[], .func (.func 125) #[] #[], .func (.func 122) #[] #[], .func (.func 126) #[] #[]]) (Kz (.agg #[.bool true, .func (.func 120) #[] #[], .func (.func 121) #[] #[], .func (.func 122) #[] #[], .func (.func 127) #[] #[]]) (Kz (.agg #[.bool false, .func (.func 128) #[] #[], .func (.func 129) #[] #[], .func (.func 130) #[] #[], .func (.func 131) #[] #[]]) (Kz (.agg #[.bool true, .func (.func 132) #[] #[], .func (.func 133) #[] #[], .func (.func 130) #[] #[], .func (.func 134) #[] #[]]) (Kz (.agg #[.bool false, .nilFunc, .nilFunc, .nilFunc, .nilFunc, .bool false, .func (.func 120) #[] #[], .func (.func 121) #[] #[], .func (.func 122) #[] #[], .func (.func 123) #[] #[], .bool true, .func (.func 124) #[] #[], .func (.func 125) #[] #[], .func (.func 122) #[] #[], .func (.func 126) #[] #[], .bool true, .func (.func 120) #[] #[], .func (.func 121) #[] #[], .func (.func 122) #[] #[], .func (.func 127) #[] #[], .bool false, .func (.func 128) #[] #[], .func (.func 129) #[] #[], .func (.func 130) #[] #[], .func (.func 131) #[] #[], .bool true, .func (.func 132) #[] #[], .func (.func 133) #[] #[], .func (.func 130) #[] #[], .func (.func 134) #[] #[]]) ?_))))))
 refine dC [.bool false, .nilFunc, .nilFunc, .nilFunc, .nilFunc, .bool false, .nilFunc, .nilFunc, .nilFunc, .nilFunc, .bool false, .nilFunc, .nilFunc, .nilFunc, .nilFunc, .bool false, .nilFunc, .nilFunc, .nilFunc, .nilFunc, .bool false, .nilFunc, .nilFunc, .nilFunc, .nilFunc, .bool false, .nilFunc, .nilFunc, .nilFunc, .nilFunc] 178 d ?_
 intro e o f
 refine df [.bool false, .nilFunc, .nilFunc, .nilFunc, .nilFunc, .bool false, .func (.func 120) #[] #[], .func (.func 121) #[] #[], .func (.func 122) #[] #[], .func (.func 123) #[] #[], .bool true, .func (.func 124) #[] #[], .func (.func 125) #[] #[], .func (.func 122) #[] #[], .func (.func 126) #[] #[], .bool true, .func (.func 120) #[] #[], .func (.func 121) #[] #[], .func (.func 122) #[] #[], .func (.func 127) #[] #[], .bool false, .func (.func 128) #[] #[], .func (.func 129) #[] #[], .func (.func 130) #[] #[], .func (.func 131) #[] #[], .bool true, .func (.func 132) #[] #[], .func (.func 133) #[] #[], .func (.func 130) #[] #[], .func (.func 134) #[] #[]] 0 f Tryz.sizeOf178 ?_
 intro p a
 refine nt (ze (sr (Mz rfl (Kz (.bool false) (Mz rfl (gw (.int .i64 1) rfl (zo rfl) (Gz (.bool false) rfl (fw (.bool false) (zh rfl rfl rfl) (nt (jf (sk (sr (Mz rfl (Kz (.pointer (some ⟨e,5,none⟩)) (La ([.bool false, .func (.func 120) #[] #[], .func (.func 121) #[] #[], .func (.func 122) #[] #[], .func (.func 123) #[] #[]]) a 0 Tryz.isAgg166 Tryz.sizeOf166 ?_)))))))))))))))
 have g:=a.pk [1,0]
 refine df [.bool false, .func (.func 120) #[] #[], .func (.func 121) #[] #[], .func (.func 122) #[] #[], .func (.func 123) #[] #[]] 0 g Tryz.sizeOf166 ?_
 intro q b
 refine An rfl (rt (zO (lM (vs:= [.agg #[.bool false, .func (.func 120) #[] #[], .func (.func 121) #[] #[], .func (.func 122) #[] #[], .func (.func 123) #[] #[]], .bool true]) rfl (gD.cell rfl (zD (cs:= [.bool false, .func (.func 120) #[] #[], .func (.func 121) #[] #[], .func (.func 122) #[] #[], .func (.func 123) #[] #[]]) Tryz.isAgg166 Tryz.sizeOf166 ((b.cls (i:=0) rfl).lit (k:=0) (m:=5) rfl)) (gD.tmp rfl gD.nil)) (Ca rfl)) ?_))
 have h:=b.pk []
 exact⟨rfl,h⟩
def kH (a:aW):aW:=
 aW.mk a.aV a.aX ([]) ([]) ([]) 0
theorem oG (w:World) (D:Nat→Prop) (a:aW) (g:aW) (H:Own w D w []) (hr:kH a=g):
    Calls Tryz.prog 120 #[.agg (aW.cells a).toArray] w (dE fun v w'=>v= .agg (aW.cells g).toArray∧Own w D w' []):=by
 refine zg (args:= [.agg (aW.cells a).toArray]) Tryz.func120 rfl rfl rfl ?_
 show Wp _ _ _ [(0, .agg (aW.cells a).toArray)] _ _
 refine sr ?_
 refine dC (aW.cells a) 74 H ?_
 intro c h e
 refine dC [.int .i64 0, .string ⟨List.toArray ([])⟩, .string ⟨List.toArray ([])⟩, .string ⟨List.toArray ([])⟩, .string ⟨List.toArray ([])⟩, .int .i64 0] 74 e ?_
 intro j l b
 refine ns (Kz (.pointer (some ⟨c,0,none⟩)) (Lz (.int .i64 a.aV) b 1 Tryz.isAgg3 (Kz (.pointer (some ⟨c,1,none⟩)) (Lz (.string ⟨List.toArray a.aX⟩) b 1 Tryz.isAgg9 (Kz (.agg #[.int .i64 a.aV, .string ⟨List.toArray a.aX⟩, .string ⟨List.toArray ([])⟩, .string ⟨List.toArray ([])⟩, .string ⟨List.toArray ([])⟩, .int .i64 0]) ?_)))))
 refine df [.int .i64 a.aV, .string ⟨List.toArray a.aX⟩, .string ⟨List.toArray ([])⟩, .string ⟨List.toArray ([])⟩, .string ⟨List.toArray ([])⟩, .int .i64 0] 0 b Tryz.sizeOf74 ?_
 intro n d
 refine nt (rt (zO (lv rfl rfl (zD (cs:= [.int .i64 a.aV, .string ⟨List.toArray a.aX⟩, .string ⟨List.toArray ([])⟩, .string ⟨List.toArray ([])⟩, .string ⟨List.toArray ([])⟩, .int .i64 0]) Tryz.isAgg74 Tryz.sizeOf74 ((d.cls (i:=0) rfl).lit (k:=0) (m:=6) rfl))) ?_))
 have f:=d.pk []
 obtain rfl:_=aW.mk a.aV a.aX ([]) ([]) ([]) 0:=hr.symm.trans rfl
 exact⟨rfl,f⟩
def kR (b:aW):Int:=
 bnd (dR b.aX) fun a=>a
theorem nD (w:World) (D:Nat→Prop) (a:aW) (l:Int) (H:Own w D w []) (hr:kR a=l):
    Calls Tryz.prog 121 #[.agg (aW.cells a).toArray] w (dE fun v w'=>v= .int .i64 l∧Own w D w' []):=by
 refine zg (args:= [.agg (aW.cells a).toArray]) Tryz.func121 rfl rfl rfl ?_
 show Wp _ _ _ [(0, .agg (aW.cells a).toArray)] _ _
 refine sr ?_
 refine dC (aW.cells a) 74 H ?_
 intro i o e
 refine Ar rfl (Kz (.pointer (some ⟨i,1,none⟩)) (Lz (.string ⟨List.toArray a.aX⟩) e 0 Tryz.isAgg9 ?_))
 obtain⟨d,b⟩:∃ q,dR a.aX=q:=⟨_,rfl⟩
 obtain⟨p,f,m,g,n⟩:=zt e
 refine cl Tryz.call83 (jh _ _ a.aX d f b) ?_
 rintro _ r ⟨rfl,h,c⟩
 have j:=g _ _ h
 replace c: ¬ (d=0)∨(1≤a.aX.length∧a.aX.length≤12):=c
 refine An rfl (rt (rs ?_))
 have k:=j.pk []
 obtain rfl:_=d:=hr.symm.trans (ae b)
 exact⟨rfl,k⟩
theorem qH (w:World) (D:Nat→Prop) (j:Int) (H:Own w D w []) (c:j=2):
    Calls Tryz.prog 111 #[.int .i64 j] w (dE fun v w'=>v= .tuple #[.agg #[.bool true, .func (.func 124) #[] #[], .func (.func 125) #[] #[], .func (.func 122) #[] #[], .func (.func 126) #[] #[]], .bool true]∧Own w D w' []):=by
 subst c
 refine zg (args:= [.int .i64 2]) Tryz.func111 rfl rfl rfl ?_
 show Wp _ _ _ [(0, .int .i64 2)] _ _
 refine sr ?_
 refine dC [.bool false, .nilFunc, .nilFunc, .nilFunc, .nilFunc] 166 H ?_
 intro l n d
 refine Ar rfl (Kz (.agg #[.bool false, .func (.func 120) #[] #[], .func (.func 121) #[] #[], .func (.func 122) #[] #[], .func (.func 123) #[] #[]]) (Kz (.agg #[.bool true, .func (.func 124) #[] #[], .func (.func 125) #[] #[], .func (.func 122) #[] #[], .func (.func 126) #[] #[]]) (Kz (.agg #[.bool true, .func (.func 120) #[] #[], .func (.func 121) #[] #[], .func (.func 122) #[] #[], .func (.func 127) #[] #[]]) (Kz (.agg #[.bool false, .func (.func 128) #[] #[], .func (.func 129) #[] #[], .func (.func 130) #[] #[], .func (.func 131) #[] #[]]) (Kz (.agg #[.bool true, .func (.func 132) #[] #[], .func (.func 133) #[] #[], .func (.func 130) #[] #[], .func (.func 134) #[] #[]]) (Kz (.agg #[.bool false, .nilFunc, .nilFunc, .nilFunc, .nilFunc, .bool false, .func (.func 120) #[] #[], .func (.func 121) #[] #[], .func (.func 122) #[] #[], .func (.func 123) #[] #[], .bool true, .func (.func 124) #[] #[], .func (.func 125) #[] #[], .func (.func 122) #[] #[], .func (.func 126) #[] #[], .bool true, .func (.func 120) #[] #[], .func (.func 121) #[] #[], .func (.func 122) #[] #[], .func (.func 127) #[] #[], .bool false, .func (.func 128) #[] #[], .func (.func 129) #[] #[], .func (.func 130) #[] #[], .func (.func 131) #[] #[], .bool true, .func (.func 132) #[] #[], .func (.func 133) #[] #[], .func (.func 130) #[] #[], .func (.func 134) #[] #[]]) ?_))))))
 refine dC [.bool false, .nilFunc, .nilFunc, .nilFunc, .nilFunc, .bool false, .nilFunc, .nilFunc, .nilFunc, .nilFunc, .bool false, .nilFunc, .nilFunc, .nilFunc, .nilFunc, .bool false, .nilFunc, .nilFunc, .nilFunc, .nilFunc, .bool false, .nilFunc, .nilFunc, .nilFunc, .nilFunc, .bool false, .nilFunc, .nilFunc, .nilFunc, .nilFunc] 178 d ?_
 intro e o f
 refine df [.bool false, .nilFunc, .nilFunc, .nilFunc, .nilFunc, .bool false, .func (.func 120) #[] #[], .func (.func 121) #[] #[], .func (.func 122) #[] #[], .func (.func 123) #[] #[], .bool true, .func (.func 124) #[] #[], .func (.func 125) #[] #[], .func (.func 122) #[] #[], .func (.func 126) #[] #[], .bool true, .func (.func 120) #[] #[], .func (.func 121) #[] #[], .func (.func 122) #[] #[], .func (.func 127) #[] #[], .bool false, .func (.func 128) #[] #[], .func (.func 129) #[] #[], .func (.func 130) #[] #[], .func (.func 131) #[] #[], .bool true, .func (.func 132) #[] #[], .func (.func 133) #[] #[], .func (.func 130) #[] #[], .func (.func 134) #[] #[]] 0 f Tryz.sizeOf178 ?_
 intro p a
 refine nt (ze (sr (Mz rfl (Kz (.bool false) (Mz rfl (gw (.int .i64 2) rfl (zo rfl) (Gz (.bool false) rfl (fw (.bool false) (zh rfl rfl rfl) (nt (jf (sk (sr (Mz rfl (Kz (.pointer (some ⟨e,10,none⟩)) (La ([.bool true, .func (.func 124) #[] #[], .func (.func 125) #[] #[], .func (.func 122) #[] #[], .func (.func 126) #[] #[]]) a 0 Tryz.isAgg166 Tryz.sizeOf166 ?_)))))))))))))))
 have g:=a.pk [1,0]
 refine df [.bool true, .func (.func 124) #[] #[], .func (.func 125) #[] #[], .func (.func 122) #[] #[], .func (.func 126) #[] #[]] 0 g Tryz.sizeOf166 ?_
 intro q b
 refine An rfl (rt (zO (lM (vs:= [.agg #[.bool true, .func (.func 124) #[] #[], .func (.func 125) #[] #[], .func (.func 122) #[] #[], .func (.func 126) #[] #[]], .bool true]) rfl (gD.cell rfl (zD (cs:= [.bool true, .func (.func 124) #[] #[], .func (.func 125) #[] #[], .func (.func 122) #[] #[], .func (.func 126) #[] #[]]) Tryz.isAgg166 Tryz.sizeOf166 ((b.cls (i:=0) rfl).lit (k:=0) (m:=5) rfl)) (gD.tmp rfl gD.nil)) (Ca rfl)) ?_))
 have h:=b.pk []
 exact⟨rfl,h⟩
def lF (a:aW):aW:=
 aW.mk a.aV a.aX a.aB ([]) ([]) 0
theorem qY (w:World) (D:Nat→Prop) (a:aW) (g:aW) (H:Own w D w []) (hr:lF a=g):
    Calls Tryz.prog 124 #[.agg (aW.cells a).toArray] w (dE fun v w'=>v= .agg (aW.cells g).toArray∧Own w D w' []):=by
 refine zg (args:= [.agg (aW.cells a).toArray]) Tryz.func124 rfl rfl rfl ?_
 show Wp _ _ _ [(0, .agg (aW.cells a).toArray)] _ _
 refine sr ?_
 refine dC (aW.cells a) 74 H ?_
 intro c h e
 refine dC [.int .i64 0, .string ⟨List.toArray ([])⟩, .string ⟨List.toArray ([])⟩, .string ⟨List.toArray ([])⟩, .string ⟨List.toArray ([])⟩, .int .i64 0] 74 e ?_
 intro j l b
 refine ns (Kz (.pointer (some ⟨c,0,none⟩)) (Lz (.int .i64 a.aV) b 1 Tryz.isAgg3 (Kz (.pointer (some ⟨c,1,none⟩)) (Lz (.string ⟨List.toArray a.aX⟩) b 1 Tryz.isAgg9 (Kz (.pointer (some ⟨c,2,none⟩)) (Lz (.string ⟨List.toArray a.aB⟩) b 1 Tryz.isAgg9 (Kz (.agg #[.int .i64 a.aV, .string ⟨List.toArray a.aX⟩, .string ⟨List.toArray a.aB⟩, .string ⟨List.toArray ([])⟩, .string ⟨List.toArray ([])⟩, .int .i64 0]) ?_)))))))
 refine df [.int .i64 a.aV, .string ⟨List.toArray a.aX⟩, .string ⟨List.toArray a.aB⟩, .string ⟨List.toArray ([])⟩, .string ⟨List.toArray ([])⟩, .int .i64 0] 0 b Tryz.sizeOf74 ?_
 intro n d
 refine nt (rt (zO (lv rfl rfl (zD (cs:= [.int .i64 a.aV, .string ⟨List.toArray a.aX⟩, .string ⟨List.toArray a.aB⟩, .string ⟨List.toArray ([])⟩, .string ⟨List.toArray ([])⟩, .int .i64 0]) Tryz.isAgg74 Tryz.sizeOf74 ((d.cls (i:=0) rfl).lit (k:=0) (m:=6) rfl))) ?_))
 have f:=d.pk []
 obtain rfl:_=aW.mk a.aV a.aX a.aB ([]) ([]) 0:=hr.symm.trans rfl
 exact⟨rfl,f⟩
def kE (a:List UInt8):Int:=
 if((a.length:Nat):Int) > 16 then 2 else 0
theorem pR (w:World) (D:Nat→Prop) (b:List UInt8) (e:Int) (H:Own w D w []) (hr:kE b=e):
    Calls Tryz.prog 140 #[.string ⟨List.toArray b⟩] w (dE fun v w'=>v= .int .i64 e∧Own w D w' []):=by
 refine zg (args:= [.string ⟨List.toArray b⟩]) Tryz.func140 rfl rfl rfl ?_
 show Wp _ _ _ [(0, .string ⟨List.toArray b⟩)] _ _
 refine sr (An rfl (ze (sr (Mz rfl (Kz (.int .i64 ((b.length:Nat):Int)) (Kz (.bool (decide (((b.length:Nat):Int) > 16))) (nt ?_)))))))
 by_cases a:((b.length:Nat):Int) > 16
 refine jT (dT a) (sr (An rfl (rt (tR (rs ?_)))))
 have c:Own w D w []:=H.pk []
 obtain rfl:_=2:=hr.symm.trans (ip a)
 exact⟨rfl,c⟩
 refine jF (dF a) (sk (sr (An rfl (rt (rs ?_)))))
 have d:Own w D w []:=H.pk []
 obtain rfl:_=0:=hr.symm.trans (iN a)
 exact⟨rfl,d⟩
def kI (c:aW):Int:=
 bnd (dR c.aX) fun a=>if a=0 then bnd (kE c.aB) fun b=>b else a
theorem qc (w:World) (D:Nat→Prop) (a:aW) (x:Int) (H:Own w D w []) (hr:kI a=x):
    Calls Tryz.prog 125 #[.agg (aW.cells a).toArray] w (dE fun v w'=>v= .int .i64 x∧Own w D w' []):=by
 refine zg (args:= [.agg (aW.cells a).toArray]) Tryz.func125 rfl rfl rfl ?_
 show Wp _ _ _ [(0, .agg (aW.cells a).toArray)] _ _
 refine sr ?_
 refine dC (aW.cells a) 74 H ?_
 intro i C j
 refine An rfl (ze (sr (Kz (.pointer (some ⟨i,1,none⟩)) (Lz (.string ⟨List.toArray a.aX⟩) j 0 Tryz.isAgg9 ?_))))
 obtain⟨b,c⟩:∃ q,dR a.aX=q:=⟨_,rfl⟩
 obtain⟨E,k,y,l,z⟩:=zt j
 refine cl Tryz.call83 (jh _ _ a.aX b k c) ?_
 rintro _ F ⟨rfl,m,f⟩
 have h:=l _ _ m
 replace f: ¬ (b=0)∨(1≤a.aX.length∧a.aX.length≤12):=f
 refine Ar rfl (Mz rfl (fw (.bool (decide (¬ (b=0)))) (zF (e:= !(decide (b=0))) yk decide_not.symm) (nt ?_)))
 by_cases d:b=0
 refine jF (dF (Ce d)) (sk (sr (Kz (.pointer (some ⟨i,2,none⟩)) (Lz (.string ⟨List.toArray a.aB⟩) h 0 Tryz.isAgg9 ?_))))
 obtain⟨n,g⟩:∃ q,kE a.aB=q:=⟨_,rfl⟩
 obtain⟨G,o,A,p,B⟩:=zt h
 refine cl Tryz.call140 (pR _ _ a.aB n o g) ?_
 rintro _ I ⟨rfl,r⟩
 have s:=p _ _ r
 refine An rfl (rt (rs ?_))
 have t:=s.pk []
 obtain rfl:_=n:=hr.symm.trans (et (ae c) (et (ip d) (ae g)))
 exact⟨rfl,t⟩
 refine jT (dT d) (sr (Mz rfl (An rfl (rt (tR (rs ?_))))))
 have u:=h.pk []
 obtain rfl:_=b:=hr.symm.trans (et (ae c) (iN d))
 exact⟨rfl,u⟩
theorem qI (w:World) (D:Nat→Prop) (j:Int) (H:Own w D w []) (c:j=3):
    Calls Tryz.prog 111 #[.int .i64 j] w (dE fun v w'=>v= .tuple #[.agg #[.bool true, .func (.func 120) #[] #[], .func (.func 121) #[] #[], .func (.func 122) #[] #[], .func (.func 127) #[] #[]], .bool true]∧Own w D w' []):=by
 subst c
 refine zg (args:= [.int .i64 3]) Tryz.func111 rfl rfl rfl ?_
 show Wp _ _ _ [(0, .int .i64 3)] _ _
 refine sr ?_
 refine dC [.bool false, .nilFunc, .nilFunc, .nilFunc, .nilFunc] 166 H ?_
 intro l n d
 refine Ar rfl (Kz (.agg #[.bool false, .func (.func 120) #[] #[], .func (.func 121) #[] #[], .func (.func 122) #[] #[], .func (.func 123) #[] #[]]) (Kz (.agg #[.bool true, .func (.func 124) #[] #[], .func (.func 125) #[] #[], .func (.func 122) #[] #[], .func (.func 126) #[] #[]]) (Kz (.agg #[.bool true, .func (.func 120) #[] #[], .func (.func 121) #[] #[], .func (.func 122) #[] #[], .func (.func 127) #[] #[]]) (Kz (.agg #[.bool false, .func (.func 128) #[] #[], .func (.func 129) #[] #[], .func (.func 130) #[] #[], .func (.func 131) #[] #[]]) (Kz (.agg #[.bool true, .func (.func 132) #[] #[], .func (.func 133) #[] #[], .func (.func 130) #[] #[], .func (.func 134) #[] #[]]) (Kz (.agg #[.bool false, .nilFunc, .nilFunc, .nilFunc, .nilFunc, .bool false, .func (.func 120) #[] #[], .func (.func 121) #[] #[], .func (.func 122) #[] #[], .func (.func 123) #[] #[], .bool true, .func (.func 124) #[] #[], .func (.func 125) #[] #[], .func (.func 122) #[] #[], .func (.func 126) #[] #[], .bool true, .func (.func 120) #[] #[], .func (.func 121) #[] #[], .func (.func 122) #[] #[], .func (.func 127) #[] #[], .bool false, .func (.func 128) #[] #[], .func (.func 129) #[] #[], .func (.func 130) #[] #[], .func (.func 131) #[] #[], .bool true, .func (.func 132) #[] #[], .func (.func 133) #[] #[], .func (.func 130) #[] #[], .func (.func 134) #[] #[]]) ?_))))))
 refine dC [.bool false, .nilFunc, .nilFunc, .nilFunc, .nilFunc, .bool false, .nilFunc, .nilFunc, .nilFunc, .nilFunc, .bool false, .nilFunc, .nilFunc, .nilFunc, .nilFunc, .bool false, .nilFunc, .nilFunc, .nilFunc, .nilFunc, .bool false, .nilFunc, .nilFunc, .nilFunc, .nilFunc, .bool false, .nilFunc, .nilFunc, .nilFunc, .nilFunc] 178 d ?_
 intro e o f
 refine df [.bool false, .nilFunc, .nilFunc, .nilFunc, .nilFunc, .bool false, .func (.func 120) #[] #[], .func (.func 121) #[] #[], .func (.func 122) #[] #[], .func (.func 123) #[] #[], .bool true, .func (.func 124) #[] #[], .func (.func 125) #[] #[], .func (.func 122) #[] #[], .func (.func 126) #[] #[], .bool true, .func (.func 120) #[] #[], .func (.func 121) #[] #[], .func (.func 122) #[] #[], .func (.func 127) #[] #[], .bool false, .func (.func 128) #[] #[], .func (.func 129) #[] #[], .func (.func 130) #[] #[], .func (.func 131) #[] #[], .bool true, .func (.func 132) #[] #[], .func (.func 133) #[] #[], .func (.func 130) #[] #[], .func (.func 134) #[] #[]] 0 f Tryz.sizeOf178 ?_
 intro p a
 refine nt (ze (sr (Mz rfl (Kz (.bool false) (Mz rfl (gw (.int .i64 3) rfl (zo rfl) (Gz (.bool false) rfl (fw (.bool false) (zh rfl rfl rfl) (nt (jf (sk (sr (Mz rfl (Kz (.pointer (some ⟨e,15,none⟩)) (La ([.bool true, .func (.func 120) #[] #[], .func (.func 121) #[] #[], .func (.func 122) #[] #[], .func (.func 127) #[] #[]]) a 0 Tryz.isAgg166 Tryz.sizeOf166 ?_)))))))))))))))
 have g:=a.pk [1,0]
 refine df [.bool true, .func (.func 120) #[] #[], .func (.func 121) #[] #[], .func (.func 122) #[] #[], .func (.func 127) #[] #[]] 0 g Tryz.sizeOf166 ?_
 intro q b
 refine An rfl (rt (zO (lM (vs:= [.agg #[.bool true, .func (.func 120) #[] #[], .func (.func 121) #[] #[], .func (.func 122) #[] #[], .func (.func 127) #[] #[]], .bool true]) rfl (gD.cell rfl (zD (cs:= [.bool true, .func (.func 120) #[] #[], .func (.func 121) #[] #[], .func (.func 122) #[] #[], .func (.func 127) #[] #[]]) Tryz.isAgg166 Tryz.sizeOf166 ((b.cls (i:=0) rfl).lit (k:=0) (m:=5) rfl)) (gD.tmp rfl gD.nil)) (Ca rfl)) ?_))
 have h:=b.pk []
 exact⟨rfl,h⟩
theorem qJ (w:World) (D:Nat→Prop) (j:Int) (H:Own w D w []) (c:j=4):
    Calls Tryz.prog 111 #[.int .i64 j] w (dE fun v w'=>v= .tuple #[.agg #[.bool false, .func (.func 128) #[] #[], .func (.func 129) #[] #[], .func (.func 130) #[] #[], .func (.func 131) #[] #[]], .bool true]∧Own w D w' []):=by
 subst c
 refine zg (args:= [.int .i64 4]) Tryz.func111 rfl rfl rfl ?_
 show Wp _ _ _ [(0, .int .i64 4)] _ _
 refine sr ?_
 refine dC [.bool false, .nilFunc, .nilFunc, .nilFunc, .nilFunc] 166 H ?_
 intro l n d
 refine Ar rfl (Kz (.agg #[.bool false, .func (.func 120) #[] #[], .func (.func 121) #[] #[], .func (.func 122) #[] #[], .func (.func 123) #[] #[]]) (Kz (.agg #[.bool true, .func (.func 124) #[] #[], .func (.func 125) #[] #[], .func (.func 122) #[] #[], .func (.func 126) #[] #[]]) (Kz (.agg #[.bool true, .func (.func 120) #[] #[], .func (.func 121) #[] #[], .func (.func 122) #[] #[], .func (.func 127) #[] #[]]) (Kz (.agg #[.bool false, .func (.func 128) #[] #[], .func (.func 129) #[] #[], .func (.func 130) #[] #[], .func (.func 131) #[] #[]]) (Kz (.agg #[.bool true, .func (.func 132) #[] #[], .func (.func 133) #[] #[], .func (.func 130) #[] #[], .func (.func 134) #[] #[]]) (Kz (.agg #[.bool false, .nilFunc, .nilFunc, .nilFunc, .nilFunc, .bool false, .func (.func 120) #[] #[], .func (.func 121) #[] #[], .func (.func 122) #[] #[], .func (.func 123) #[] #[], .bool true, .func (.func 124) #[] #[], .func (.func 125) #[] #[], .func (.func 122) #[] #[], .func (.func 126) #[] #[], .bool true, .func (.func 120) #[] #[], .func (.func 121) #[] #[], .func (.func 122) #[] #[], .func (.func 127) #[] #[], .bool false, .func (.func 128) #[] #[], .func (.func 129) #[] #[], .func (.func 130) #[] #[], .func (.func 131) #[] #[], .bool true, .func (.func 132) #[] #[], .func (.func 133) #[] #[], .func (.func 130) #[] #[], .func (.func 134) #[] #[]]) ?_))))))
 refine dC [.bool false, .nilFunc, .nilFunc, .nilFunc, .nilFunc, .bool false, .nilFunc, .nilFunc, .nilFunc, .nilFunc, .bool false, .nilFunc, .nilFunc, .nilFunc, .nilFunc, .bool false, .nilFunc, .nilFunc, .nilFunc, .nilFunc, .bool false, .nilFunc, .nilFunc, .nilFunc, .nilFunc, .bool false, .nilFunc, .nilFunc, .nilFunc, .nilFunc] 178 d ?_
 intro e o f
 refine df [.bool false, .nilFunc, .nilFunc, .nilFunc, .nilFunc, .bool false, .func (.func 120) #[] #[], .func (.func 121) #[] #[], .func (.func 122) #[] #[], .func (.func 123) #[] #[], .bool true, .func (.func 124) #[] #[], .func (.func 125) #[] #[], .func (.func 122) #[] #[], .func (.func 126) #[] #[], .bool true, .func (.func 120) #[] #[], .func (.func 121) #[] #[], .func (.func 122) #[] #[], .func (.func 127) #[] #[], .bool false, .func (.func 128) #[] #[], .func (.func 129) #[] #[], .func (.func 130) #[] #[], .func (.func 131) #[] #[], .bool true, .func (.func 132) #[] #[], .func (.func 133) #[] #[], .func (.func 130) #[] #[], .func (.func 134) #[] #[]] 0 f Tryz.sizeOf178 ?_
 intro p a
 refine nt (ze (sr (Mz rfl (Kz (.bool false) (Mz rfl (gw (.int .i64 4) rfl (zo rfl) (Gz (.bool false) rfl (fw (.bool false) (zh rfl rfl rfl) (nt (jf (sk (sr (Mz rfl (Kz (.pointer (some ⟨e,20,none⟩)) (La ([.bool false, .func (.func 128) #[] #[], .func (.func 129) #[] #[], .func (.func 130) #[] #[], .func (.func 131) #[] #[]]) a 0 Tryz.isAgg166 Tryz.sizeOf166 ?_)))))))))))))))
 have g:=a.pk [1,0]
 refine df [.bool false, .func (.func 128) #[] #[], .func (.func 129) #[] #[], .func (.func 130) #[] #[], .func (.func 131) #[] #[]] 0 g Tryz.sizeOf166 ?_
 intro q b
 refine An rfl (rt (zO (lM (vs:= [.agg #[.bool false, .func (.func 128) #[] #[], .func (.func 129) #[] #[], .func (.func 130) #[] #[], .func (.func 131) #[] #[]], .bool true]) rfl (gD.cell rfl (zD (cs:= [.bool false, .func (.func 128) #[] #[], .func (.func 129) #[] #[], .func (.func 130) #[] #[], .func (.func 131) #[] #[]]) Tryz.isAgg166 Tryz.sizeOf166 ((b.cls (i:=0) rfl).lit (k:=0) (m:=5) rfl)) (gD.tmp rfl gD.nil)) (Ca rfl)) ?_))
 have h:=b.pk []
 exact⟨rfl,h⟩
def lG (a:aW):aW:=
 aW.mk a.aV ([]) ([]) a.aJ a.aN a.bF
theorem qZ (w:World) (D:Nat→Prop) (a:aW) (g:aW) (H:Own w D w []) (hr:lG a=g):
    Calls Tryz.prog 128 #[.agg (aW.cells a).toArray] w (dE fun v w'=>v= .agg (aW.cells g).toArray∧Own w D w' []):=by
 refine zg (args:= [.agg (aW.cells a).toArray]) Tryz.func128 rfl rfl rfl ?_
 show Wp _ _ _ [(0, .agg (aW.cells a).toArray)] _ _
 refine sr ?_
 refine dC (aW.cells a) 74 H ?_
 intro c h e
 refine dC [.int .i64 0, .string ⟨List.toArray ([])⟩, .string ⟨List.toArray ([])⟩, .string ⟨List.toArray ([])⟩, .string ⟨List.toArray ([])⟩, .int .i64 0] 74 e ?_
 intro j l b
 refine ns (Kz (.pointer (some ⟨c,0,none⟩)) (Lz (.int .i64 a.aV) b 1 Tryz.isAgg3 (Kz (.pointer (some ⟨c,3,none⟩)) (Lz (.string ⟨List.toArray a.aJ⟩) b 1 Tryz.isAgg9 (Kz (.pointer (some ⟨c,4,none⟩)) (Lz (.string ⟨List.toArray a.aN⟩) b 1 Tryz.isAgg9 (Kz (.pointer (some ⟨c,5,none⟩)) (Lz (.int .i64 a.bF) b 1 Tryz.isAgg3 (Kz (.agg #[.int .i64 a.aV, .string ⟨List.toArray ([])⟩, .string ⟨List.toArray ([])⟩, .string ⟨List.toArray a.aJ⟩, .string ⟨List.toArray a.aN⟩, .int .i64 a.bF]) ?_)))))))))
 refine df [.int .i64 a.aV, .string ⟨List.toArray ([])⟩, .string ⟨List.toArray ([])⟩, .string ⟨List.toArray a.aJ⟩, .string ⟨List.toArray a.aN⟩, .int .i64 a.bF] 0 b Tryz.sizeOf74 ?_
 intro n d
 refine nt (rt (zO (lv rfl rfl (zD (cs:= [.int .i64 a.aV, .string ⟨List.toArray ([])⟩, .string ⟨List.toArray ([])⟩, .string ⟨List.toArray a.aJ⟩, .string ⟨List.toArray a.aN⟩, .int .i64 a.bF]) Tryz.isAgg74 Tryz.sizeOf74 ((d.cls (i:=0) rfl).lit (k:=0) (m:=6) rfl))) ?_))
 have f:=d.pk []
 obtain rfl:_=aW.mk a.aV ([]) ([]) a.aJ a.aN a.bF:=hr.symm.trans rfl
 exact⟨rfl,f⟩
def jN (a:aW):bI:=
 bI.mk a.aJ a.aN
theorem qd (w:World) (D:Nat→Prop) (a:aW) (g:bI) (H:Own w D w []) (hr:jN a=g):
    Calls Tryz.prog 130 #[.agg (aW.cells a).toArray] w (dE fun v w'=>v= .agg (bI.cells g).toArray∧Own w D w' []):=by
 refine zg (args:= [.agg (aW.cells a).toArray]) Tryz.func130 rfl rfl rfl ?_
 show Wp _ _ _ [(0, .agg (aW.cells a).toArray)] _ _
 refine sr ?_
 refine dC (aW.cells a) 74 H ?_
 intro c h e
 refine dC [.string ⟨List.toArray ([])⟩, .string ⟨List.toArray ([])⟩] 27 e ?_
 intro j l b
 refine ns (Kz (.pointer (some ⟨c,3,none⟩)) (Lz (.string ⟨List.toArray a.aJ⟩) b 1 Tryz.isAgg9 (Kz (.pointer (some ⟨c,4,none⟩)) (Lz (.string ⟨List.toArray a.aN⟩) b 1 Tryz.isAgg9 (Kz (.agg #[.string ⟨List.toArray a.aJ⟩, .string ⟨List.toArray a.aN⟩]) ?_)))))
 refine df [.string ⟨List.toArray a.aJ⟩, .string ⟨List.toArray a.aN⟩] 0 b Tryz.sizeOf27 ?_
 intro n d
 refine nt (rt (zO (lv rfl rfl (zD (cs:= [.string ⟨List.toArray a.aJ⟩, .string ⟨List.toArray a.aN⟩]) Tryz.isAgg27 Tryz.sizeOf27 ((d.cls (i:=0) rfl).lit (k:=0) (m:=2) rfl))) ?_))
 have f:=d.pk []
 obtain rfl:_=bI.mk a.aJ a.aN:=hr.symm.trans rfl
 exact⟨rfl,f⟩
def fH (a:bI):Int:=
 if a.aJ≠([]) then bnd (dR a.aJ) fun b=>if b=0 then if a.aN≠([]) then bnd (dR a.aN) fun c=>if c=0 then if a.aN≤a.aJ then 21 else 0 else 21 else 0 else 21 else if a.aN≠([]) then bnd (dR a.aN) fun d=>if d=0 then if a.aN≤a.aJ then 21 else 0 else 21 else 0
theorem jb (w:World) (D:Nat→Prop) (a:bI) (W:Int) (H:Own w D w []) (hr:fH a=W):
    Calls Tryz.prog 86 #[.agg (bI.cells a).toArray] w (dE fun v w'=>v= .int .i64 W∧Own w D w' []):=by
 refine zg (args:= [.agg (bI.cells a).toArray]) Tryz.func86 rfl rfl rfl ?_
 show Wp _ _ _ [(0, .agg (bI.cells a).toArray)] _ _
 refine sr ?_
 refine dC (bI.cells a) 27 H ?_
 intro h ah k
 refine An rfl (ze (sr (Kz (.pointer (some ⟨h,0,none⟩)) (Lz (.string ⟨List.toArray a.aJ⟩) k 0 Tryz.isAgg9 (fw (.bool (decide (a.aJ≠([])))) (Ao rfl rfl) (Mz rfl ?_))))))
 by_cases d:a.aJ≠([])
 refine Gz (.pointer (some ⟨h,0,none⟩)) (dT d) (Gl (.string ⟨List.toArray a.aJ⟩) (dT d) k 0 Tryz.isAgg9 ?_)
 obtain⟨o,j⟩:∃ q,dR a.aJ=q:=⟨_,rfl⟩
 obtain⟨ai,C,X,E,Y⟩:=zt k
 refine mg (dT d) Tryz.call83 (jh _ _ a.aJ o C j) ?_
 rintro _ aj ⟨rfl,F,z⟩
 have s:=E _ _ F
 replace z: ¬ (o=0)∨(1≤a.aJ.length∧a.aJ.length≤12):=z
 refine gw (.bool (decide (¬ (o=0)))) (dT d) (zF (e:= !(decide (o=0))) yk decide_not.symm) (fw (.bool (decide (¬ (o=0)))) (zf rfl (dT d) rfl) (nt ?_))
 by_cases l:o=0
 refine jF (dF (Ce l)) (sk (ze (sr (Kz (.pointer (some ⟨h,1,none⟩)) (Lz (.string ⟨List.toArray a.aN⟩) s 0 Tryz.isAgg9 (fw (.bool (decide (a.aN≠([])))) (Ao rfl rfl) (Mz rfl ?_)))))))
 by_cases b:a.aN≠([])
 refine Gz (.pointer (some ⟨h,1,none⟩)) (dT b) (Gl (.string ⟨List.toArray a.aN⟩) (dT b) s 0 Tryz.isAgg9 ?_)
 obtain⟨p,m⟩:∃ q,dR a.aN=q:=⟨_,rfl⟩
 obtain⟨ak,G,Z,I,aa⟩:=zt s
 refine mg (dT b) Tryz.call83 (jh _ _ a.aN p G m) ?_
 rintro _ au ⟨rfl,J,A⟩
 have t:=I _ _ J
 replace A: ¬ (p=0)∨(1≤a.aN.length∧a.aN.length≤12):=A
 refine gw (.bool (decide (¬ (p=0)))) (dT b) (zF (e:= !(decide (p=0))) yk decide_not.symm) (gw (.bool (decide (¬ (p=0)))) (dT b) (zo rfl) ?_)
 by_cases f:p=0
 refine gw (.pointer (some ⟨h,1,none⟩)) (dF (Ce f)) yk (gw (.string ⟨List.toArray a.aN⟩) (dF (Ce f)) (zi rfl (bf.one Tryz.isAgg9 (zJ (t.cls (i:=0) rfl) rfl))) (gw (.pointer (some ⟨h,0,none⟩)) (dF (Ce f)) yk (gw (.string ⟨List.toArray a.aJ⟩) (dF (Ce f)) (zi rfl (bf.one Tryz.isAgg9 (zJ (t.cls (i:=0) rfl) rfl))) (gw (.bool (decide (a.aN≤a.aJ))) (dF (Ce f)) (zF (e:=Op.bytesLess a.aN a.aJ || decide (a.aN=a.aJ)) (AJ rfl rfl) (sG _ _)) (gw (.bool (decide (a.aN≤a.aJ))) (dT b) (zh rfl (dF (Ce f)) rfl) (fw (.bool (decide (a.aN≤a.aJ))) (zf rfl (dT b) rfl) (nt ?_)))))))
 by_cases x:a.aN≤a.aJ
 refine jT (dT x) (sr (An rfl (rt (tR (rs ?_)))))
 have N:=t.pk []
 obtain rfl:_=21:=hr.symm.trans (et (ip d) (et (ae j) (et (ip l) (et (ip b) (et (ae m) (et (ip f) (ip x)))))))
 exact⟨rfl,N⟩
 refine jF (dF x) (sk (sr (An rfl (rt (rs ?_)))))
 have O:=t.pk []
 obtain rfl:_=0:=hr.symm.trans (et (ip d) (et (ae j) (et (ip l) (et (ip b) (et (ae m) (et (ip f) (iN x)))))))
 exact⟨rfl,O⟩
 refine Sz (dT f) (Sz (dT f) (Sz (dT f) (Sz (dT f) (Sz (dT f) (gw (.bool true) (dT b) (zf rfl (dT f) rfl) (fw (.bool true) (zf rfl (dT b) rfl) (nt (jt (sr (An rfl (rt (tR (rs ?_)))))))))))))
 have P:=t.pk []
 obtain rfl:_=21:=hr.symm.trans (et (ip d) (et (ae j) (et (ip l) (et (ip b) (et (ae m) (iN f))))))
 exact⟨rfl,P⟩
 refine Sz (dF b) (Sz (dF b) (Sz (dF b) (Sz (dF b) (Sz (dF b) (zP rfl rfl rfl (zP rfl rfl rfl (zP rfl rfl rfl (zP rfl rfl rfl (zP rfl rfl rfl (Sz (dF b) (fw (.bool false) (zh rfl (dF b) rfl) (nt (jf (sk (sr (An rfl (rt (rs ?_))))))))))))))))))
 have Q:=s.pk []
 obtain rfl:_=0:=hr.symm.trans (et (ip d) (et (ae j) (et (ip l) (iN b))))
 exact⟨rfl,Q⟩
 refine jT (dT l) (sr (An rfl (rt (tR (rs ?_)))))
 have R:=s.pk []
 obtain rfl:_=21:=hr.symm.trans (et (ip d) (et (ae j) (iN l)))
 exact⟨rfl,R⟩
 refine Sz (dF d) (Sz (dF d) (Sz (dF d) (Sz (dF d) (fw (.bool false) (zh rfl (dF d) rfl) (nt (jf (sk (ze (sr (Kz (.pointer (some ⟨h,1,none⟩)) (Lz (.string ⟨List.toArray a.aN⟩) k 0 Tryz.isAgg9 (fw (.bool (decide (a.aN≠([])))) (Ao rfl rfl) (Mz rfl ?_)))))))))))))
 by_cases c:a.aN≠([])
 refine Gz (.pointer (some ⟨h,1,none⟩)) (dT c) (Gl (.string ⟨List.toArray a.aN⟩) (dT c) k 0 Tryz.isAgg9 ?_)
 obtain⟨r,n⟩:∃ q,dR a.aN=q:=⟨_,rfl⟩
 obtain⟨av,K,af,L,ag⟩:=zt k
 refine mg (dT c) Tryz.call83 (jh _ _ a.aN r K n) ?_
 rintro _ ax ⟨rfl,M,B⟩
 have u:=L _ _ M
 replace B: ¬ (r=0)∨(1≤a.aN.length∧a.aN.length≤12):=B
 refine gw (.bool (decide (¬ (r=0)))) (dT c) (zF (e:= !(decide (r=0))) yk decide_not.symm) (gw (.bool (decide (¬ (r=0)))) (dT c) (zo rfl) ?_)
 by_cases g:r=0
 refine gw (.pointer (some ⟨h,1,none⟩)) (dF (Ce g)) yk (gw (.string ⟨List.toArray a.aN⟩) (dF (Ce g)) (zi rfl (bf.one Tryz.isAgg9 (zJ (u.cls (i:=0) rfl) rfl))) (gw (.pointer (some ⟨h,0,none⟩)) (dF (Ce g)) yk (gw (.string ⟨List.toArray a.aJ⟩) (dF (Ce g)) (zi rfl (bf.one Tryz.isAgg9 (zJ (u.cls (i:=0) rfl) rfl))) (gw (.bool (decide (a.aN≤a.aJ))) (dF (Ce g)) (zF (e:=Op.bytesLess a.aN a.aJ || decide (a.aN=a.aJ)) (AJ rfl rfl) (sG _ _)) (gw (.bool (decide (a.aN≤a.aJ))) (dT c) (zh rfl (dF (Ce g)) rfl) (fw (.bool (decide (a.aN≤a.aJ))) (zf rfl (dT c) rfl) (nt ?_)))))))
 by_cases y:a.aN≤a.aJ
 refine jT (dT y) (sr (An rfl (rt (tR (rs ?_)))))
 have S:=u.pk []
 obtain rfl:_=21:=hr.symm.trans (et (iN d) (et (ip c) (et (ae n) (et (ip g) (ip y)))))
 exact⟨rfl,S⟩
 refine jF (dF y) (sk (sr (An rfl (rt (rs ?_)))))
 have T:=u.pk []
 obtain rfl:_=0:=hr.symm.trans (et (iN d) (et (ip c) (et (ae n) (et (ip g) (iN y)))))
 exact⟨rfl,T⟩
 refine Sz (dT g) (Sz (dT g) (Sz (dT g) (Sz (dT g) (Sz (dT g) (gw (.bool true) (dT c) (zf rfl (dT g) rfl) (fw (.bool true) (zf rfl (dT c) rfl) (nt (jt (sr (An rfl (rt (tR (rs ?_)))))))))))))
 have U:=u.pk []
 obtain rfl:_=21:=hr.symm.trans (et (iN d) (et (ip c) (et (ae n) (iN g))))
 exact⟨rfl,U⟩
 refine Sz (dF c) (Sz (dF c) (Sz (dF c) (Sz (dF c) (Sz (dF c) (zP rfl rfl rfl (zP rfl rfl rfl (zP rfl rfl rfl (zP rfl rfl rfl (zP rfl rfl rfl (Sz (dF c) (fw (.bool false) (zh rfl (dF c) rfl) (nt (jf (sk (sr (An rfl (rt (rs ?_))))))))))))))))))
 have V:=k.pk []
 obtain rfl:_=0:=hr.symm.trans (et (iN d) (iN c))
 exact⟨rfl,V⟩
def jc (c:aW):Int:=
 bnd (jN c) fun a=>bnd (fH a) fun b=>b
theorem mG (w:World) (D:Nat→Prop) (a:aW) (p:Int) (H:Own w D w []) (hr:jc a=p):
    Calls Tryz.prog 133 #[.agg (aW.cells a).toArray] w (dE fun v w'=>v= .int .i64 p∧Own w D w' []):=by
 refine zg (args:= [.agg (aW.cells a).toArray]) Tryz.func133 rfl rfl rfl ?_
 show Wp _ _ _ [(0, .agg (aW.cells a).toArray)] _ _
 refine sr ?_
 refine dC (aW.cells a) 74 H ?_
 intro x y e
 refine Ar rfl (La (aW.cells a) e 0 Tryz.isAgg74 Tryz.sizeOf74 ?_)
 obtain⟨d,b⟩:∃ q,jN a=q:=⟨_,rfl⟩
 obtain⟨z,f,r,g,s⟩:=zt e
 refine cl Tryz.call130 (qd _ _ a d f b) ?_
 rintro _ A ⟨rfl,h⟩
 have m:=g _ _ h
 obtain⟨i,c⟩:∃ q,fH d=q:=⟨_,rfl⟩
 obtain⟨B,j,t,k,u⟩:=zt m
 refine cl Tryz.call86 (jb _ _ d i j c) ?_
 rintro _ C ⟨rfl,l⟩
 have n:=k _ _ l
 refine An rfl (rt (rs ?_))
 have o:=n.pk []
 obtain rfl:_=i:=hr.symm.trans (et (ae b) (ae c))
 exact⟨rfl,o⟩
def kJ (b:aW):Int:=
 bnd (jc b) fun a=>if a=0 then if b.bF < 1 then 1 else if b.bF > 4 then 1 else 0 else a
theorem qf (w:World) (D:Nat→Prop) (c:aW) (s:Int) (H:Own w D w []) (hr:kJ c=s):
    Calls Tryz.prog 129 #[.agg (aW.cells c).toArray] w (dE fun v w'=>v= .int .i64 s∧Own w D w' []):=by
 refine zg (args:= [.agg (aW.cells c).toArray]) Tryz.func129 rfl rfl rfl ?_
 show Wp _ _ _ [(0, .agg (aW.cells c).toArray)] _ _
 refine sr ?_
 refine dC (aW.cells c) 74 H ?_
 intro i x j
 refine An rfl (ze (sr (La (aW.cells c) j 0 Tryz.isAgg74 Tryz.sizeOf74 ?_)))
 obtain⟨g,b⟩:∃ q,jc c=q:=⟨_,rfl⟩
 obtain⟨y,k,t,l,u⟩:=zt j
 refine cl Tryz.call133 (mG _ _ c g k b) ?_
 rintro _ z ⟨rfl,m⟩
 have d:=l _ _ m
 refine Ar rfl (Mz rfl (fw (.bool (decide (¬ (g=0)))) (zF (e:= !(decide (g=0))) yk decide_not.symm) (nt ?_)))
 by_cases f:g=0
 refine jF (dF (Ce f)) (sk (ze (sr (Kz (.pointer (some ⟨i,5,none⟩)) (Lz (.int .i64 c.bF) d 0 Tryz.isAgg3 (Kz (.bool (decide (c.bF < 1))) (Mz rfl ?_)))))))
 by_cases a:c.bF < 1
 refine Sz (dT a) (Sz (dT a) (Sz (dT a) (fw (.bool true) (zf rfl (dT a) rfl) (nt (jt (sr (An rfl (rt (tR (rs ?_))))))))))
 have n:=d.pk []
 obtain rfl:_=1:=hr.symm.trans (et (ae b) (et (ip f) (ip a)))
 exact⟨rfl,n⟩
 refine Gz (.pointer (some ⟨i,5,none⟩)) (dF a) (Gl (.int .i64 c.bF) (dF a) d 0 Tryz.isAgg3 (Gz (.bool (decide (c.bF > 4))) (dF a) (fw (.bool (decide (c.bF > 4))) (zh rfl (dF a) rfl) (nt ?_))))
 by_cases h:c.bF > 4
 refine jT (dT h) (sr (An rfl (rt (tR (rs ?_)))))
 have o:=d.pk []
 obtain rfl:_=1:=hr.symm.trans (et (ae b) (et (ip f) (et (iN a) (ip h))))
 exact⟨rfl,o⟩
 refine jF (dF h) (sk (sr (An rfl (rt (rs ?_)))))
 have p:=d.pk []
 obtain rfl:_=0:=hr.symm.trans (et (ae b) (et (ip f) (et (iN a) (iN h))))
 exact⟨rfl,p⟩
 refine jT (dT f) (sr (Mz rfl (An rfl (rt (tR (rs ?_))))))
 have r:=d.pk []
 obtain rfl:_=g:=hr.symm.trans (et (ae b) (iN f))
 exact⟨rfl,r⟩
theorem qK (w:World) (D:Nat→Prop) (j:Int) (H:Own w D w []) (c:j=5):
    Calls Tryz.prog 111 #[.int .i64 j] w (dE fun v w'=>v= .tuple #[.agg #[.bool true, .func (.func 132) #[] #[], .func (.func 133) #[] #[], .func (.func 130) #[] #[], .func (.func 134) #[] #[]], .bool true]∧Own w D w' []):=by
 subst c
 refine zg (args:= [.int .i64 5]) Tryz.func111 rfl rfl rfl ?_
 show Wp _ _ _ [(0, .int .i64 5)] _ _
 refine sr ?_
 refine dC [.bool false, .nilFunc, .nilFunc, .nilFunc, .nilFunc] 166 H ?_
 intro l n d
 refine Ar rfl (Kz (.agg #[.bool false, .func (.func 120) #[] #[], .func (.func 121) #[] #[], .func (.func 122) #[] #[], .func (.func 123) #[] #[]]) (Kz (.agg #[.bool true, .func (.func 124) #[] #[], .func (.func 125) #[] #[], .func (.func 122) #[] #[], .func (.func 126) #[] #[]]) (Kz (.agg #[.bool true, .func (.func 120) #[] #[], .func (.func 121) #[] #[], .func (.func 122) #[] #[], .func (.func 127) #[] #[]]) (Kz (.agg #[.bool false, .func (.func 128) #[] #[], .func (.func 129) #[] #[], .func (.func 130) #[] #[], .func (.func 131) #[] #[]]) (Kz (.agg #[.bool true, .func (.func 132) #[] #[], .func (.func 133) #[] #[], .func (.func 130) #[] #[], .func (.func 134) #[] #[]]) (Kz (.agg #[.bool false, .nilFunc, .nilFunc, .nilFunc, .nilFunc, .bool false, .func (.func 120) #[] #[], .func (.func 121) #[] #[], .func (.func 122) #[] #[], .func (.func 123) #[] #[], .bool true, .func (.func 124) #[] #[], .func (.func 125) #[] #[], .func (.func 122) #[] #[], .func (.func 126) #[] #[], .bool true, .func (.func 120) #[] #[], .func (.func 121) #[] #[], .func (.func 122) #[] #[], .func (.func 127) #[] #[], .bool false, .func (.func 128) #[] #[], .func (.func 129) #[] #[], .func (.func 130) #[] #[], .func (.func 131) #[] #[], .bool true, .func (.func 132) #[] #[], .func (.func 133) #[] #[], .func (.func 130) #[] #[], .func (.func 134) #[] #[]]) ?_))))))
 refine dC [.bool false, .nilFunc, .nilFunc, .nilFunc, .nilFunc, .bool false, .nilFunc, .nilFunc, .nilFunc, .nilFunc, .bool false, .nilFunc, .nilFunc, .nilFunc, .nilFunc, .bool false, .nilFunc, .nilFunc, .nilFunc, .nilFunc, .bool false, .nilFunc, .nilFunc, .nilFunc, .nilFunc, .bool false, .nilFunc, .nilFunc, .nilFunc, .nilFunc] 178 d ?_
 intro e o f
 refine df [.bool false, .nilFunc, .nilFunc, .nilFunc, .nilFunc, .bool false, .func (.func 120) #[] #[], .func (.func 121) #[] #[], .func (.func 122) #[] #[], .func (.func 123) #[] #[], .bool true, .func (.func 124) #[] #[], .func (.func 125) #[] #[], .func (.func 122) #[] #[], .func (.func 126) #[] #[], .bool true, .func (.func 120) #[] #[], .func (.func 121) #[] #[], .func (.func 122) #[] #[], .func (.func 127) #[] #[], .bool false, .func (.func 128) #[] #[], .func (.func 129) #[] #[], .func (.func 130) #[] #[], .func (.func 131) #[] #[], .bool true, .func (.func 132) #[] #[], .func (.func 133) #[] #[], .func (.func 130) #[] #[], .func (.func 134) #[] #[]] 0 f Tryz.sizeOf178 ?_
 intro p a
 refine nt (ze (sr (Mz rfl (Kz (.bool false) (Mz rfl (gw (.int .i64 5) rfl (zo rfl) (Gz (.bool false) rfl (fw (.bool false) (zh rfl rfl rfl) (nt (jf (sk (sr (Mz rfl (Kz (.pointer (some ⟨e,25,none⟩)) (La ([.bool true, .func (.func 132) #[] #[], .func (.func 133) #[] #[], .func (.func 130) #[] #[], .func (.func 134) #[] #[]]) a 0 Tryz.isAgg166 Tryz.sizeOf166 ?_)))))))))))))))
 have g:=a.pk [1,0]
 refine df [.bool true, .func (.func 132) #[] #[], .func (.func 133) #[] #[], .func (.func 130) #[] #[], .func (.func 134) #[] #[]] 0 g Tryz.sizeOf166 ?_
 intro q b
 refine An rfl (rt (zO (lM (vs:= [.agg #[.bool true, .func (.func 132) #[] #[], .func (.func 133) #[] #[], .func (.func 130) #[] #[], .func (.func 134) #[] #[]], .bool true]) rfl (gD.cell rfl (zD (cs:= [.bool true, .func (.func 132) #[] #[], .func (.func 133) #[] #[], .func (.func 130) #[] #[], .func (.func 134) #[] #[]]) Tryz.isAgg166 Tryz.sizeOf166 ((b.cls (i:=0) rfl).lit (k:=0) (m:=5) rfl)) (gD.tmp rfl gD.nil)) (Ca rfl)) ?_))
 have h:=b.pk []
 exact⟨rfl,h⟩
def kS (a:aW):aW:=
 aW.mk a.aV ([]) ([]) a.aJ a.aN 0
theorem qL (w:World) (D:Nat→Prop) (a:aW) (g:aW) (H:Own w D w []) (hr:kS a=g):
    Calls Tryz.prog 132 #[.agg (aW.cells a).toArray] w (dE fun v w'=>v= .agg (aW.cells g).toArray∧Own w D w' []):=by
 refine zg (args:= [.agg (aW.cells a).toArray]) Tryz.func132 rfl rfl rfl ?_
 show Wp _ _ _ [(0, .agg (aW.cells a).toArray)] _ _
 refine sr ?_
 refine dC (aW.cells a) 74 H ?_
 intro c h e
 refine dC [.int .i64 0, .string ⟨List.toArray ([])⟩, .string ⟨List.toArray ([])⟩, .string ⟨List.toArray ([])⟩, .string ⟨List.toArray ([])⟩, .int .i64 0] 74 e ?_
 intro j l b
 refine ns (Kz (.pointer (some ⟨c,0,none⟩)) (Lz (.int .i64 a.aV) b 1 Tryz.isAgg3 (Kz (.pointer (some ⟨c,3,none⟩)) (Lz (.string ⟨List.toArray a.aJ⟩) b 1 Tryz.isAgg9 (Kz (.pointer (some ⟨c,4,none⟩)) (Lz (.string ⟨List.toArray a.aN⟩) b 1 Tryz.isAgg9 (Kz (.agg #[.int .i64 a.aV, .string ⟨List.toArray ([])⟩, .string ⟨List.toArray ([])⟩, .string ⟨List.toArray a.aJ⟩, .string ⟨List.toArray a.aN⟩, .int .i64 0]) ?_)))))))
 refine df [.int .i64 a.aV, .string ⟨List.toArray ([])⟩, .string ⟨List.toArray ([])⟩, .string ⟨List.toArray a.aJ⟩, .string ⟨List.toArray a.aN⟩, .int .i64 0] 0 b Tryz.sizeOf74 ?_
 intro n d
 refine nt (rt (zO (lv rfl rfl (zD (cs:= [.int .i64 a.aV, .string ⟨List.toArray ([])⟩, .string ⟨List.toArray ([])⟩, .string ⟨List.toArray a.aJ⟩, .string ⟨List.toArray a.aN⟩, .int .i64 0]) Tryz.isAgg74 Tryz.sizeOf74 ((d.cls (i:=0) rfl).lit (k:=0) (m:=6) rfl))) ?_))
 have f:=d.pk []
 obtain rfl:_=aW.mk a.aV ([]) ([]) a.aJ a.aN 0:=hr.symm.trans rfl
 exact⟨rfl,f⟩
theorem qg (w:World) (D:Nat→Prop) (a:Int) (H:Own w D w []) (p: ¬ (a=1)) (q: ¬ (a=2)) (r: ¬ (a=3)) (s: ¬ (a=4)) (t: ¬ (a=5)):
    Calls Tryz.prog 111 #[.int .i64 a] w (dE fun v w'=>v= .tuple #[.agg #[.bool false, .nilFunc, .nilFunc, .nilFunc, .nilFunc], .bool false]∧Own w D w' []):=by
 refine zg (args:= [.int .i64 a]) Tryz.func111 rfl rfl rfl ?_
 show Wp _ _ _ [(0, .int .i64 a)] _ _
 refine sr ?_
 refine dC [.bool false, .nilFunc, .nilFunc, .nilFunc, .nilFunc] 166 H ?_
 intro u x g
 refine Ar rfl (Kz (.agg #[.bool false, .func (.func 120) #[] #[], .func (.func 121) #[] #[], .func (.func 122) #[] #[], .func (.func 123) #[] #[]]) (Kz (.agg #[.bool true, .func (.func 124) #[] #[], .func (.func 125) #[] #[], .func (.func 122) #[] #[], .func (.func 126) #[] #[]]) (Kz (.agg #[.bool true, .func (.func 120) #[] #[], .func (.func 121) #[] #[], .func (.func 122) #[] #[], .func (.func 127) #[] #[]]) (Kz (.agg #[.bool false, .func (.func 128) #[] #[], .func (.func 129) #[] #[], .func (.func 130) #[] #[], .func (.func 131) #[] #[]]) (Kz (.agg #[.bool true, .func (.func 132) #[] #[], .func (.func 133) #[] #[], .func (.func 130) #[] #[], .func (.func 134) #[] #[]]) (Kz (.agg #[.bool false, .nilFunc, .nilFunc, .nilFunc, .nilFunc, .bool false, .func (.func 120) #[] #[], .func (.func 121) #[] #[], .func (.func 122) #[] #[], .func (.func 123) #[] #[], .bool true, .func (.func 124) #[] #[], .func (.func 125) #[] #[], .func (.func 122) #[] #[], .func (.func 126) #[] #[], .bool true, .func (.func 120) #[] #[], .func (.func 121) #[] #[], .func (.func 122) #[] #[], .func (.func 127) #[] #[], .bool false, .func (.func 128) #[] #[], .func (.func 129) #[] #[], .func (.func 130) #[] #[], .func (.func 131) #[] #[], .bool true, .func (.func 132) #[] #[], .func (.func 133) #[] #[], .func (.func 130) #[] #[], .func (.func 134) #[] #[]]) ?_))))))
 refine dC [.bool false, .nilFunc, .nilFunc, .nilFunc, .nilFunc, .bool false, .nilFunc, .nilFunc, .nilFunc, .nilFunc, .bool false, .nilFunc, .nilFunc, .nilFunc, .nilFunc, .bool false, .nilFunc, .nilFunc, .nilFunc, .nilFunc, .bool false, .nilFunc, .nilFunc, .nilFunc, .nilFunc, .bool false, .nilFunc, .nilFunc, .nilFunc, .nilFunc] 178 g ?_
 intro y z h
 refine df [.bool false, .nilFunc, .nilFunc, .nilFunc, .nilFunc, .bool false, .func (.func 120) #[] #[], .func (.func 121) #[] #[], .func (.func 122) #[] #[], .func (.func 123) #[] #[], .bool true, .func (.func 124) #[] #[], .func (.func 125) #[] #[], .func (.func 122) #[] #[], .func (.func 126) #[] #[], .bool true, .func (.func 120) #[] #[], .func (.func 121) #[] #[], .func (.func 122) #[] #[], .func (.func 127) #[] #[], .bool false, .func (.func 128) #[] #[], .func (.func 129) #[] #[], .func (.func 130) #[] #[], .func (.func 131) #[] #[], .bool true, .func (.func 132) #[] #[], .func (.func 133) #[] #[], .func (.func 130) #[] #[], .func (.func 134) #[] #[]] 0 h Tryz.sizeOf178 ?_
 intro A c
 refine nt (ze (sr (Mz rfl (Kz (.bool (decide (a≤0))) (Mz rfl ?_)))))
 by_cases b:a≤0
 refine Sz (dT b) (Sz (dT b) (fw (.bool true) (zf rfl (dT b) rfl) (nt (jt (sr (Kz (.agg #[.bool false, .nilFunc, .nilFunc, .nilFunc, .nilFunc]) ?_))))))
 have j:=c.pk [1,0]
 refine df [.bool false, .nilFunc, .nilFunc, .nilFunc, .nilFunc] 0 j Tryz.sizeOf166 ?_
 intro B d
 refine An rfl (rt (tR (zO (lM (vs:= [.agg #[.bool false, .nilFunc, .nilFunc, .nilFunc, .nilFunc], .bool false]) rfl (gD.cell rfl (zD (cs:= [.bool false, .nilFunc, .nilFunc, .nilFunc, .nilFunc]) Tryz.isAgg166 Tryz.sizeOf166 ((d.cls (i:=0) rfl).lit (k:=0) (m:=5) rfl)) (gD.tmp rfl gD.nil)) (Ca rfl)) ?_)))
 have l:=d.pk []
 exact⟨rfl,l⟩
 refine gw (.int .i64 a) (dF b) (zo rfl) (Gz (.bool (decide (a ≥ 6))) (dF b) (fw (.bool (decide (a ≥ 6))) (zh rfl (dF b) rfl) (nt ?_)))
 have e:(decide (a ≥ 6))=true:=(dT (by omega))
 refine jT e (sr (Kz (.agg #[.bool false, .nilFunc, .nilFunc, .nilFunc, .nilFunc]) ?_))
 have n:=c.pk [1,0]
 refine df [.bool false, .nilFunc, .nilFunc, .nilFunc, .nilFunc] 0 n Tryz.sizeOf166 ?_
 intro C f
 refine An rfl (rt (tR (zO (lM (vs:= [.agg #[.bool false, .nilFunc, .nilFunc, .nilFunc, .nilFunc], .bool false]) rfl (gD.cell rfl (zD (cs:= [.bool false, .nilFunc, .nilFunc, .nilFunc, .nilFunc]) Tryz.isAgg166 Tryz.sizeOf166 ((f.cls (i:=0) rfl).lit (k:=0) (m:=5) rfl)) (gD.tmp rfl gD.nil)) (Ca rfl)) ?_)))
 have o:=f.pk []
 exact⟨rfl,o⟩
def jq (a:aW):Int:=
 if a.aV=1 then bnd (kH a) fun e=>if(e.aV=a.aV)∧(e.aX=a.aX)∧(e.aB=a.aB)∧(e.aJ=a.aJ)∧(e.aN=a.aN)∧(e.bF=a.bF) then bnd (kR a) fun j=>j else 40 else if a.aV=2 then bnd (lF a) fun f=>if(f.aV=a.aV)∧(f.aX=a.aX)∧(f.aB=a.aB)∧(f.aJ=a.aJ)∧(f.aN=a.aN)∧(f.bF=a.bF) then bnd (kI a) fun k=>k else 40 else if a.aV=3 then bnd (kH a) fun b=>if(b.aV=a.aV)∧(b.aX=a.aX)∧(b.aB=a.aB)∧(b.aJ=a.aJ)∧(b.aN=a.aN)∧(b.bF=a.bF) then bnd (kR a) fun g=>g else 40 else if a.aV=4 then bnd (lG a) fun c=>if(c.aV=a.aV)∧(c.aX=a.aX)∧(c.aB=a.aB)∧(c.aJ=a.aJ)∧(c.aN=a.aN)∧(c.bF=a.bF) then bnd (kJ a) fun h=>h else 40 else if a.aV=5 then bnd (kS a) fun d=>if(d.aV=a.aV)∧(d.aX=a.aX)∧(d.aB=a.aB)∧(d.aJ=a.aJ)∧(d.aN=a.aN)∧(d.bF=a.bF) then bnd (jc a) fun i=>i else 40 else 40
theorem nX (w:World) (D:Nat→Prop) (a:aW) (r0:Int) (H:Own w D w []) (hr:jq a=r0):
    Calls Tryz.prog 84 #[.agg (aW.cells a).toArray] w (dE fun v w'=>v= .int .i64 r0∧Own w D w' []∧(¬ (r0=0)∨(1≤a.aV∧a.aV≤5))):=by
 refine zg (args:= [.agg (aW.cells a).toArray]) Tryz.func84 rfl rfl rfl ?_
 show Wp _ _ _ [(0, .agg (aW.cells a).toArray)] _ _
 refine sr ?_
 refine dC (aW.cells a) 74 H ?_
 intro t gP x
 refine Ar rfl (Kz (.pointer (some ⟨t,0,none⟩)) (Lz (.int .i64 a.aV) x 0 Tryz.isAgg3 ?_))
 by_cases l:a.aV=1
 obtain⟨gQ,bn,fo,bq,fq⟩:=zt x
 refine cl Tryz.call111 (qG _ _ a.aV bn (of_decide_eq_true (dT l))) ?_
 rintro _ gT ⟨rfl,bu⟩
 have dJ:=bq _ _ bu
 refine Mz rfl (Kz (.agg #[.bool false, .func (.func 120) #[] #[], .func (.func 121) #[] #[], .func (.func 122) #[] #[], .func (.func 123) #[] #[]]) (Kz (.bool true) ?_))
 refine dC [.bool false, .nilFunc, .nilFunc, .nilFunc, .nilFunc] 166 dJ ?_
 intro aj gU dK
 refine df [.bool false, .func (.func 120) #[] #[], .func (.func 121) #[] #[], .func (.func 122) #[] #[], .func (.func 123) #[] #[]] 0 dK Tryz.sizeOf166 ?_
 intro dL dN
 refine An rfl (ze (ze ?_))
 have V:=dN.drew
 refine zX [] (fun W=> ∃ L',Own w D W ([blk aj [.bool false, .func (.func 120) #[] #[], .func (.func 121) #[] #[], .func (.func 122) #[] #[], .func (.func 123) #[] #[]] 166,blk t (aW.cells a) 74]++L')) (by kernel_rfl) (by kernel_rfl) (zG (zG z8)) ⟨_,V⟩ ?_
 revert V
 generalize World.drew dL=gV
 intro V
 refine GX.take (v:= .bool true) (rs:= []) 0 rfl (by kernel_rfl) (fun _ _=>zo rfl) (GX.take (v:= .bool false) (rs:= []) 1 rfl (by kernel_rfl) (fun _ _=>yk) (GX.take (v:= .bool false) (rs:= []) 2 rfl (by kernel_rfl) (fun _ _=>zo rfl) (zl (v:= .pointer (some ⟨aj,1,none⟩)) (rs:= []) 3 rfl rfl rfl rfl (by kernel_rfl) (fun _ _=>yk) (zl (v:= .func (.func 120) #[] #[]) (rs:= []) 4 rfl rfl rfl rfl (by kernel_rfl) (fun _ ⟨_,h⟩=>zi rfl (bf.one Tryz.isAgg162 (zJ (h.cls (i:=0) rfl) rfl))) (zl (v:= .agg (aW.cells a).toArray) (rs:= []) 5 rfl rfl rfl rfl (by kernel_rfl) (fun _ ⟨_,h⟩=>zi rfl (zD (cs:=(aW.cells a)) Tryz.isAgg74 Tryz.sizeOf74 ((h.cls (i:=1) rfl).lit (k:=0) (m:=6) rfl))) (zl (v:= .agg (aW.cells a).toArray) (rs:= []) 7 rfl rfl rfl rfl (by kernel_rfl) (fun _ ⟨_,h⟩=>zi rfl (zD (cs:=(aW.cells a)) Tryz.isAgg74 Tryz.sizeOf74 ((h.cls (i:=1) rfl).lit (k:=0) (m:=6) rfl))) ?_))))))
 obtain⟨f,L⟩:∃ q,kH a=q:=⟨_,rfl⟩
 obtain⟨gW,bv,fu,bz,fw⟩:=zt V
 refine Aj 6 rfl rfl rfl rfl (by kernel_rfl) (zK Tryz.call120 rfl rfl (oG _ _ a f bv L) ?_)
 rintro _ gX ⟨rfl,bA⟩
 have M:=bz _ _ bA
 refine⟨.inr ⟨_,M⟩, ?_⟩
 refine zl (v:= .bool (decide (¬ ((f.aV=a.aV)∧(f.aX=a.aX)∧(f.aB=a.aB)∧(f.aJ=a.aJ)∧(f.aN=a.aN)∧(f.bF=a.bF))))) (rs:= []) 8 rfl rfl rfl rfl (by kernel_rfl) (fun _ _=>zF (e:= !(decide ((f.aV=a.aV)∧(f.aX=a.aX)∧(f.aB=a.aB)∧(f.aJ=a.aJ)∧(f.aN=a.aN)∧(f.bF=a.bF)))) (Ac rfl rfl (by kernel_rfl) rfl (eY.struct Tryz.underlying74 (by kernel_rfl) (Ab (dP.cons (u:= .int .i64 f.aV) (v:= .int .i64 a.aV) (by decide) (fun _=>by kernel_rfl) (fun _=>by kernel_rfl) (eY.int Tryz.underlying3) (dP.cons (u:= .string ⟨List.toArray f.aX⟩) (v:= .string ⟨List.toArray a.aX⟩) (by decide) (fun _=>by kernel_rfl) (fun _=>by kernel_rfl) (eY.string Tryz.underlying9) (dP.cons (u:= .string ⟨List.toArray f.aB⟩) (v:= .string ⟨List.toArray a.aB⟩) (by decide) (fun _=>by kernel_rfl) (fun _=>by kernel_rfl) (eY.string Tryz.underlying9) (dP.cons (u:= .string ⟨List.toArray f.aJ⟩) (v:= .string ⟨List.toArray a.aJ⟩) (by decide) (fun _=>by kernel_rfl) (fun _=>by kernel_rfl) (eY.string Tryz.underlying9) (dP.cons (u:= .string ⟨List.toArray f.aN⟩) (v:= .string ⟨List.toArray a.aN⟩) (by decide) (fun _=>by kernel_rfl) (fun _=>by kernel_rfl) (eY.string Tryz.underlying9) (dP.cons (u:= .int .i64 f.bF) (v:= .int .i64 a.bF) (by decide) (fun _=>by kernel_rfl) (fun _=>by kernel_rfl) (eY.int Tryz.underlying3) (dP.nil.up (Cc _)))))))) ((congrArg (decide (f.aV=a.aV) && ·) ((congrArg (decide (f.aX=a.aX) && ·) ((congrArg (decide (f.aB=a.aB) && ·) ((congrArg (decide (f.aJ=a.aJ) && ·) ((congrArg (decide (f.aN=a.aN) && ·) jg).trans dM)).trans dM)).trans dM)).trans dM)).trans dM)))) decide_not.symm) (GX.take (v:= .bool (decide (¬ ((f.aV=a.aV)∧(f.aX=a.aX)∧(f.aB=a.aB)∧(f.aJ=a.aJ)∧(f.aN=a.aN)∧(f.bF=a.bF))))) (rs:= []) 9 rfl (by kernel_rfl) (fun _ _=>zh rfl rfl rfl) (zT (by kernel_rfl) (zu ?_)))
 by_cases X:(f.aV=a.aV)∧(f.aX=a.aX)∧(f.aB=a.aB)∧(f.aJ=a.aJ)∧(f.aN=a.aN)∧(f.bF=a.bF)
 refine jF (dF (Ce X)) (sk (sr (Kz (.pointer (some ⟨aj,2,none⟩)) (Lz (.func (.func 121) #[] #[]) M 0 Tryz.isAgg136 (La (aW.cells a) M 1 Tryz.isAgg74 Tryz.sizeOf74 ?_)))))
 obtain⟨bB,aa⟩:∃ q,kR a=q:=⟨_,rfl⟩
 obtain⟨gY,bC,fA,bD,fB⟩:=zt M
 refine WL.do rfl (zK Tryz.call121 rfl rfl (nD _ _ a bB bC aa) ?_)
 rintro _ gZ ⟨rfl,bE⟩
 have dO:=bD _ _ bE
 refine An rfl (rt (rs ?_))
 have dQ:=dO.pk []
 obtain rfl:_=bB:=hr.symm.trans (et (ip l) (et (ae L) (et (ip X) (ae aa))))
 exact⟨rfl,dQ,(by omega)⟩
 refine jT (dT X) (sr (An rfl (rt (tR (rs ?_)))))
 have dR:=M.pk []
 obtain rfl:_=40:=hr.symm.trans (et (ip l) (et (ae L) (iN X)))
 exact⟨rfl,dR,(by omega)⟩
 by_cases n:a.aV=2
 obtain⟨ib,bF,fC,bG,fD⟩:=zt x
 refine cl Tryz.call111 (qH _ _ a.aV bF (of_decide_eq_true (dT n))) ?_
 rintro _ ic ⟨rfl,bH⟩
 have dS:=bG _ _ bH
 refine Mz rfl (Kz (.agg #[.bool true, .func (.func 124) #[] #[], .func (.func 125) #[] #[], .func (.func 122) #[] #[], .func (.func 126) #[] #[]]) (Kz (.bool true) ?_))
 refine dC [.bool false, .nilFunc, .nilFunc, .nilFunc, .nilFunc] 166 dS ?_
 intro ak ig dU
 refine df [.bool true, .func (.func 124) #[] #[], .func (.func 125) #[] #[], .func (.func 122) #[] #[], .func (.func 126) #[] #[]] 0 dU Tryz.sizeOf166 ?_
 intro dV dW
 refine An rfl (ze (ze ?_))
 have Y:=dW.drew
 refine zX [] (fun W=> ∃ L',Own w D W ([blk ak [.bool true, .func (.func 124) #[] #[], .func (.func 125) #[] #[], .func (.func 122) #[] #[], .func (.func 126) #[] #[]] 166,blk t (aW.cells a) 74]++L')) (by kernel_rfl) (by kernel_rfl) (zG (zG z8)) ⟨_,Y⟩ ?_
 revert Y
 generalize World.drew dV=ik
 intro Y
 refine GX.take (v:= .bool true) (rs:= []) 0 rfl (by kernel_rfl) (fun _ _=>zo rfl) (GX.take (v:= .bool false) (rs:= []) 1 rfl (by kernel_rfl) (fun _ _=>yk) (GX.take (v:= .bool false) (rs:= []) 2 rfl (by kernel_rfl) (fun _ _=>zo rfl) (zl (v:= .pointer (some ⟨ak,1,none⟩)) (rs:= []) 3 rfl rfl rfl rfl (by kernel_rfl) (fun _ _=>yk) (zl (v:= .func (.func 124) #[] #[]) (rs:= []) 4 rfl rfl rfl rfl (by kernel_rfl) (fun _ ⟨_,h⟩=>zi rfl (bf.one Tryz.isAgg162 (zJ (h.cls (i:=0) rfl) rfl))) (zl (v:= .agg (aW.cells a).toArray) (rs:= []) 5 rfl rfl rfl rfl (by kernel_rfl) (fun _ ⟨_,h⟩=>zi rfl (zD (cs:=(aW.cells a)) Tryz.isAgg74 Tryz.sizeOf74 ((h.cls (i:=1) rfl).lit (k:=0) (m:=6) rfl))) (zl (v:= .agg (aW.cells a).toArray) (rs:= []) 7 rfl rfl rfl rfl (by kernel_rfl) (fun _ ⟨_,h⟩=>zi rfl (zD (cs:=(aW.cells a)) Tryz.isAgg74 Tryz.sizeOf74 ((h.cls (i:=1) rfl).lit (k:=0) (m:=6) rfl))) ?_))))))
 obtain⟨g,N⟩:∃ q,lF a=q:=⟨_,rfl⟩
 obtain⟨il,bI,fE,bJ,fF⟩:=zt Y
 refine Aj 6 rfl rfl rfl rfl (by kernel_rfl) (zK Tryz.call124 rfl rfl (qY _ _ a g bI N) ?_)
 rintro _ iq ⟨rfl,bK⟩
 have O:=bJ _ _ bK
 refine⟨.inr ⟨_,O⟩, ?_⟩
 refine zl (v:= .bool (decide (¬ ((g.aV=a.aV)∧(g.aX=a.aX)∧(g.aB=a.aB)∧(g.aJ=a.aJ)∧(g.aN=a.aN)∧(g.bF=a.bF))))) (rs:= []) 8 rfl rfl rfl rfl (by kernel_rfl) (fun _ _=>zF (e:= !(decide ((g.aV=a.aV)∧(g.aX=a.aX)∧(g.aB=a.aB)∧(g.aJ=a.aJ)∧(g.aN=a.aN)∧(g.bF=a.bF)))) (Ac rfl rfl (by kernel_rfl) rfl (eY.struct Tryz.underlying74 (by kernel_rfl) (Ab (dP.cons (u:= .int .i64 g.aV) (v:= .int .i64 a.aV) (by decide) (fun _=>by kernel_rfl) (fun _=>by kernel_rfl) (eY.int Tryz.underlying3) (dP.cons (u:= .string ⟨List.toArray g.aX⟩) (v:= .string ⟨List.toArray a.aX⟩) (by decide) (fun _=>by kernel_rfl) (fun _=>by kernel_rfl) (eY.string Tryz.underlying9) (dP.cons (u:= .string ⟨List.toArray g.aB⟩) (v:= .string ⟨List.toArray a.aB⟩) (by decide) (fun _=>by kernel_rfl) (fun _=>by kernel_rfl) (eY.string Tryz.underlying9) (dP.cons (u:= .string ⟨List.toArray g.aJ⟩) (v:= .string ⟨List.toArray a.aJ⟩) (by decide) (fun _=>by kernel_rfl) (fun _=>by kernel_rfl) (eY.string Tryz.underlying9) (dP.cons (u:= .string ⟨List.toArray g.aN⟩) (v:= .string ⟨List.toArray a.aN⟩) (by decide) (fun _=>by kernel_rfl) (fun _=>by kernel_rfl) (eY.string Tryz.underlying9) (dP.cons (u:= .int .i64 g.bF) (v:= .int .i64 a.bF) (by decide) (fun _=>by kernel_rfl) (fun _=>by kernel_rfl) (eY.int Tryz.underlying3) (dP.nil.up (Cc _)))))))) ((congrArg (decide (g.aV=a.aV) && ·) ((congrArg (decide (g.aX=a.aX) && ·) ((congrArg (decide (g.aB=a.aB) && ·) ((congrArg (decide (g.aJ=a.aJ) && ·) ((congrArg (decide (g.aN=a.aN) && ·) jg).trans dM)).trans dM)).trans dM)).trans dM)).trans dM)))) decide_not.symm) (GX.take (v:= .bool (decide (¬ ((g.aV=a.aV)∧(g.aX=a.aX)∧(g.aB=a.aB)∧(g.aJ=a.aJ)∧(g.aN=a.aN)∧(g.bF=a.bF))))) (rs:= []) 9 rfl (by kernel_rfl) (fun _ _=>zh rfl rfl rfl) (zT (by kernel_rfl) (zu ?_)))
 by_cases Z:(g.aV=a.aV)∧(g.aX=a.aX)∧(g.aB=a.aB)∧(g.aJ=a.aJ)∧(g.aN=a.aN)∧(g.bF=a.bF)
 refine jF (dF (Ce Z)) (sk (sr (Kz (.pointer (some ⟨ak,2,none⟩)) (Lz (.func (.func 125) #[] #[]) O 0 Tryz.isAgg136 (La (aW.cells a) O 1 Tryz.isAgg74 Tryz.sizeOf74 ?_)))))
 obtain⟨bL,af⟩:∃ q,kI a=q:=⟨_,rfl⟩
 obtain⟨iw,bM,fG,bN,fH⟩:=zt O
 refine WL.do rfl (zK Tryz.call125 rfl rfl (qc _ _ a bL bM af) ?_)
 rintro _ iy ⟨rfl,au⟩
 have bO:=bN _ _ au
 refine An rfl (rt (rs ?_))
 have bP:=bO.pk []
 obtain rfl:_=bL:=hr.symm.trans (et (iN l) (et (ip n) (et (ae N) (et (ip Z) (ae af)))))
 exact⟨rfl,bP,(by omega)⟩
 refine jT (dT Z) (sr (An rfl (rt (tR (rs ?_)))))
 have bQ:=O.pk []
 obtain rfl:_=40:=hr.symm.trans (et (iN l) (et (ip n) (et (ae N) (iN Z))))
 exact⟨rfl,bQ,(by omega)⟩
 by_cases j:a.aV=3
 obtain⟨fI,av,dX,ax,dY⟩:=zt x
 refine cl Tryz.call111 (qI _ _ a.aV av (of_decide_eq_true (dT j))) ?_
 rintro _ fJ ⟨rfl,ay⟩
 have bR:=ax _ _ ay
 refine Mz rfl (Kz (.agg #[.bool true, .func (.func 120) #[] #[], .func (.func 121) #[] #[], .func (.func 122) #[] #[], .func (.func 127) #[] #[]]) (Kz (.bool true) ?_))
 refine dC [.bool false, .nilFunc, .nilFunc, .nilFunc, .nilFunc] 166 bR ?_
 intro P fK bS
 refine df [.bool true, .func (.func 120) #[] #[], .func (.func 121) #[] #[], .func (.func 122) #[] #[], .func (.func 127) #[] #[]] 0 bS Tryz.sizeOf166 ?_
 intro bT bU
 refine An rfl (ze (ze ?_))
 have B:=bU.drew
 refine zX [] (fun W=> ∃ L',Own w D W ([blk P [.bool true, .func (.func 120) #[] #[], .func (.func 121) #[] #[], .func (.func 122) #[] #[], .func (.func 127) #[] #[]] 166,blk t (aW.cells a) 74]++L')) (by kernel_rfl) (by kernel_rfl) (zG (zG z8)) ⟨_,B⟩ ?_
 revert B
 generalize World.drew bT=fM
 intro B
 refine GX.take (v:= .bool true) (rs:= []) 0 rfl (by kernel_rfl) (fun _ _=>zo rfl) (GX.take (v:= .bool false) (rs:= []) 1 rfl (by kernel_rfl) (fun _ _=>yk) (GX.take (v:= .bool false) (rs:= []) 2 rfl (by kernel_rfl) (fun _ _=>zo rfl) (zl (v:= .pointer (some ⟨P,1,none⟩)) (rs:= []) 3 rfl rfl rfl rfl (by kernel_rfl) (fun _ _=>yk) (zl (v:= .func (.func 120) #[] #[]) (rs:= []) 4 rfl rfl rfl rfl (by kernel_rfl) (fun _ ⟨_,h⟩=>zi rfl (bf.one Tryz.isAgg162 (zJ (h.cls (i:=0) rfl) rfl))) (zl (v:= .agg (aW.cells a).toArray) (rs:= []) 5 rfl rfl rfl rfl (by kernel_rfl) (fun _ ⟨_,h⟩=>zi rfl (zD (cs:=(aW.cells a)) Tryz.isAgg74 Tryz.sizeOf74 ((h.cls (i:=1) rfl).lit (k:=0) (m:=6) rfl))) (zl (v:= .agg (aW.cells a).toArray) (rs:= []) 7 rfl rfl rfl rfl (by kernel_rfl) (fun _ ⟨_,h⟩=>zi rfl (zD (cs:=(aW.cells a)) Tryz.isAgg74 Tryz.sizeOf74 ((h.cls (i:=1) rfl).lit (k:=0) (m:=6) rfl))) ?_))))))
 obtain⟨b,y⟩:∃ q,kH a=q:=⟨_,rfl⟩
 obtain⟨fO,az,dZ,aA,d9⟩:=zt B
 refine Aj 6 rfl rfl rfl rfl (by kernel_rfl) (zK Tryz.call120 rfl rfl (oG _ _ a b az y) ?_)
 rintro _ fP ⟨rfl,aB⟩
 have p:=aA _ _ aB
 refine⟨.inr ⟨_,p⟩, ?_⟩
 refine zl (v:= .bool (decide (¬ ((b.aV=a.aV)∧(b.aX=a.aX)∧(b.aB=a.aB)∧(b.aJ=a.aJ)∧(b.aN=a.aN)∧(b.bF=a.bF))))) (rs:= []) 8 rfl rfl rfl rfl (by kernel_rfl) (fun _ _=>zF (e:= !(decide ((b.aV=a.aV)∧(b.aX=a.aX)∧(b.aB=a.aB)∧(b.aJ=a.aJ)∧(b.aN=a.aN)∧(b.bF=a.bF)))) (Ac rfl rfl (by kernel_rfl) rfl (eY.struct Tryz.underlying74 (by kernel_rfl) (Ab (dP.cons (u:= .int .i64 b.aV) (v:= .int .i64 a.aV) (by decide) (fun _=>by kernel_rfl) (fun _=>by kernel_rfl) (eY.int Tryz.underlying3) (dP.cons (u:= .string ⟨List.toArray b.aX⟩) (v:= .string ⟨List.toArray a.aX⟩) (by decide) (fun _=>by kernel_rfl) (fun _=>by kernel_rfl) (eY.string Tryz.underlying9) (dP.cons (u:= .string ⟨List.toArray b.aB⟩) (v:= .string ⟨List.toArray a.aB⟩) (by decide) (fun _=>by kernel_rfl) (fun _=>by kernel_rfl) (eY.string Tryz.underlying9) (dP.cons (u:= .string ⟨List.toArray b.aJ⟩) (v:= .string ⟨List.toArray a.aJ⟩) (by decide) (fun _=>by kernel_rfl) (fun _=>by kernel_rfl) (eY.string Tryz.underlying9) (dP.cons (u:= .string ⟨List.toArray b.aN⟩) (v:= .string ⟨List.toArray a.aN⟩) (by decide) (fun _=>by kernel_rfl) (fun _=>by kernel_rfl) (eY.string Tryz.underlying9) (dP.cons (u:= .int .i64 b.bF) (v:= .int .i64 a.bF) (by decide) (fun _=>by kernel_rfl) (fun _=>by kernel_rfl) (eY.int Tryz.underlying3) (dP.nil.up (Cc _)))))))) ((congrArg (decide (b.aV=a.aV) && ·) ((congrArg (decide (b.aX=a.aX) && ·) ((congrArg (decide (b.aB=a.aB) && ·) ((congrArg (decide (b.aJ=a.aJ) && ·) ((congrArg (decide (b.aN=a.aN) && ·) jg).trans dM)).trans dM)).trans dM)).trans dM)).trans dM)))) decide_not.symm) (GX.take (v:= .bool (decide (¬ ((b.aV=a.aV)∧(b.aX=a.aX)∧(b.aB=a.aB)∧(b.aJ=a.aJ)∧(b.aN=a.aN)∧(b.bF=a.bF))))) (rs:= []) 9 rfl (by kernel_rfl) (fun _ _=>zh rfl rfl rfl) (zT (by kernel_rfl) (zu ?_)))
 by_cases C:(b.aV=a.aV)∧(b.aX=a.aX)∧(b.aB=a.aB)∧(b.aJ=a.aJ)∧(b.aN=a.aN)∧(b.bF=a.bF)
 refine jF (dF (Ce C)) (sk (sr (Kz (.pointer (some ⟨P,2,none⟩)) (Lz (.func (.func 121) #[] #[]) p 0 Tryz.isAgg136 (La (aW.cells a) p 1 Tryz.isAgg74 Tryz.sizeOf74 ?_)))))
 obtain⟨ag,Q⟩:∃ q,kR a=q:=⟨_,rfl⟩
 obtain⟨fQ,aC,ed,aD,ek⟩:=zt p
 refine WL.do rfl (zK Tryz.call121 rfl rfl (nD _ _ a ag aC Q) ?_)
 rintro _ fT ⟨rfl,aF⟩
 have bV:=aD _ _ aF
 refine An rfl (rt (rs ?_))
 have bW:=bV.pk []
 obtain rfl:_=ag:=hr.symm.trans (et (iN l) (et (iN n) (et (ip j) (et (ae y) (et (ip C) (ae Q))))))
 exact⟨rfl,bW,(by omega)⟩
 refine jT (dT C) (sr (An rfl (rt (tR (rs ?_)))))
 have bX:=p.pk []
 obtain rfl:_=40:=hr.symm.trans (et (iN l) (et (iN n) (et (ip j) (et (ae y) (iN C)))))
 exact⟨rfl,bX,(by omega)⟩
 by_cases o:a.aV=4
 obtain⟨fU,aG,eu,aH,eB⟩:=zt x
 refine cl Tryz.call111 (qJ _ _ a.aV aG (of_decide_eq_true (dT o))) ?_
 rintro _ fV ⟨rfl,aI⟩
 have bY:=aH _ _ aI
 refine Mz rfl (Kz (.agg #[.bool false, .func (.func 128) #[] #[], .func (.func 129) #[] #[], .func (.func 130) #[] #[], .func (.func 131) #[] #[]]) (Kz (.bool true) ?_))
 refine dC [.bool false, .nilFunc, .nilFunc, .nilFunc, .nilFunc] 166 bY ?_
 intro R fZ bZ
 refine df [.bool false, .func (.func 128) #[] #[], .func (.func 129) #[] #[], .func (.func 130) #[] #[], .func (.func 131) #[] #[]] 0 bZ Tryz.sizeOf166 ?_
 intro cu cz
 refine An rfl (ze (ze ?_))
 have E:=cz.drew
 refine zX [] (fun W=> ∃ L',Own w D W ([blk R [.bool false, .func (.func 128) #[] #[], .func (.func 129) #[] #[], .func (.func 130) #[] #[], .func (.func 131) #[] #[]] 166,blk t (aW.cells a) 74]++L')) (by kernel_rfl) (by kernel_rfl) (zG (zG z8)) ⟨_,E⟩ ?_
 revert E
 generalize World.drew cu=gm
 intro E
 refine GX.take (v:= .bool true) (rs:= []) 0 rfl (by kernel_rfl) (fun _ _=>zo rfl) (GX.take (v:= .bool false) (rs:= []) 1 rfl (by kernel_rfl) (fun _ _=>yk) (GX.take (v:= .bool false) (rs:= []) 2 rfl (by kernel_rfl) (fun _ _=>zo rfl) (zl (v:= .pointer (some ⟨R,1,none⟩)) (rs:= []) 3 rfl rfl rfl rfl (by kernel_rfl) (fun _ _=>yk) (zl (v:= .func (.func 128) #[] #[]) (rs:= []) 4 rfl rfl rfl rfl (by kernel_rfl) (fun _ ⟨_,h⟩=>zi rfl (bf.one Tryz.isAgg162 (zJ (h.cls (i:=0) rfl) rfl))) (zl (v:= .agg (aW.cells a).toArray) (rs:= []) 5 rfl rfl rfl rfl (by kernel_rfl) (fun _ ⟨_,h⟩=>zi rfl (zD (cs:=(aW.cells a)) Tryz.isAgg74 Tryz.sizeOf74 ((h.cls (i:=1) rfl).lit (k:=0) (m:=6) rfl))) (zl (v:= .agg (aW.cells a).toArray) (rs:= []) 7 rfl rfl rfl rfl (by kernel_rfl) (fun _ ⟨_,h⟩=>zi rfl (zD (cs:=(aW.cells a)) Tryz.isAgg74 Tryz.sizeOf74 ((h.cls (i:=1) rfl).lit (k:=0) (m:=6) rfl))) ?_))))))
 obtain⟨c,z⟩:∃ q,lG a=q:=⟨_,rfl⟩
 obtain⟨gp,aJ,eD,aK,eF⟩:=zt E
 refine Aj 6 rfl rfl rfl rfl (by kernel_rfl) (zK Tryz.call128 rfl rfl (qZ _ _ a c aJ z) ?_)
 rintro _ gq ⟨rfl,aL⟩
 have r:=aK _ _ aL
 refine⟨.inr ⟨_,r⟩, ?_⟩
 refine zl (v:= .bool (decide (¬ ((c.aV=a.aV)∧(c.aX=a.aX)∧(c.aB=a.aB)∧(c.aJ=a.aJ)∧(c.aN=a.aN)∧(c.bF=a.bF))))) (rs:= []) 8 rfl rfl rfl rfl (by kernel_rfl) (fun _ _=>zF (e:= !(decide ((c.aV=a.aV)∧(c.aX=a.aX)∧(c.aB=a.aB)∧(c.aJ=a.aJ)∧(c.aN=a.aN)∧(c.bF=a.bF)))) (Ac rfl rfl (by kernel_rfl) rfl (eY.struct Tryz.underlying74 (by kernel_rfl) (Ab (dP.cons (u:= .int .i64 c.aV) (v:= .int .i64 a.aV) (by decide) (fun _=>by kernel_rfl) (fun _=>by kernel_rfl) (eY.int Tryz.underlying3) (dP.cons (u:= .string ⟨List.toArray c.aX⟩) (v:= .string ⟨List.toArray a.aX⟩) (by decide) (fun _=>by kernel_rfl) (fun _=>by kernel_rfl) (eY.string Tryz.underlying9) (dP.cons (u:= .string ⟨List.toArray c.aB⟩) (v:= .string ⟨List.toArray a.aB⟩) (by decide) (fun _=>by kernel_rfl) (fun _=>by kernel_rfl) (eY.string Tryz.underlying9) (dP.cons (u:= .string ⟨List.toArray c.aJ⟩) (v:= .string ⟨List.toArray a.aJ⟩) (by decide) (fun _=>by kernel_rfl) (fun _=>by kernel_rfl) (eY.string Tryz.underlying9) (dP.cons (u:= .string ⟨List.toArray c.aN⟩) (v:= .string ⟨List.toArray a.aN⟩) (by decide) (fun _=>by kernel_rfl) (fun _=>by kernel_rfl) (eY.string Tryz.underlying9) (dP.cons (u:= .int .i64 c.bF) (v:= .int .i64 a.bF) (by decide) (fun _=>by kernel_rfl) (fun _=>by kernel_rfl) (eY.int Tryz.underlying3) (dP.nil.up (Cc _)))))))) ((congrArg (decide (c.aV=a.aV) && ·) ((congrArg (decide (c.aX=a.aX) && ·) ((congrArg (decide (c.aB=a.aB) && ·) ((congrArg (decide (c.aJ=a.aJ) && ·) ((congrArg (decide (c.aN=a.aN) && ·) jg).trans dM)).trans dM)).trans dM)).trans dM)).trans dM)))) decide_not.symm) (GX.take (v:= .bool (decide (¬ ((c.aV=a.aV)∧(c.aX=a.aX)∧(c.aB=a.aB)∧(c.aJ=a.aJ)∧(c.aN=a.aN)∧(c.bF=a.bF))))) (rs:= []) 9 rfl (by kernel_rfl) (fun _ _=>zh rfl rfl rfl) (zT (by kernel_rfl) (zu ?_)))
 by_cases F:(c.aV=a.aV)∧(c.aX=a.aX)∧(c.aB=a.aB)∧(c.aJ=a.aJ)∧(c.aN=a.aN)∧(c.bF=a.bF)
 refine jF (dF (Ce F)) (sk (sr (Kz (.pointer (some ⟨R,2,none⟩)) (Lz (.func (.func 129) #[] #[]) r 0 Tryz.isAgg136 (La (aW.cells a) r 1 Tryz.isAgg74 Tryz.sizeOf74 ?_)))))
 obtain⟨ah,S⟩:∃ q,kJ a=q:=⟨_,rfl⟩
 obtain⟨gu,aM,eG,aN,eH⟩:=zt r
 refine WL.do rfl (zK Tryz.call129 rfl rfl (qf _ _ a ah aM S) ?_)
 rintro _ gy ⟨rfl,aO⟩
 have cB:=aN _ _ aO
 refine An rfl (rt (rs ?_))
 have cK:=cB.pk []
 obtain rfl:_=ah:=hr.symm.trans (et (iN l) (et (iN n) (et (iN j) (et (ip o) (et (ae z) (et (ip F) (ae S)))))))
 exact⟨rfl,cK,(by omega)⟩
 refine jT (dT F) (sr (An rfl (rt (tR (rs ?_)))))
 have cO:=r.pk []
 obtain rfl:_=40:=hr.symm.trans (et (iN l) (et (iN n) (et (iN j) (et (ip o) (et (ae z) (iN F))))))
 exact⟨rfl,cO,(by omega)⟩
 by_cases G:a.aV=5
 obtain⟨gz,aP,eO,aQ,eP⟩:=zt x
 refine cl Tryz.call111 (qK _ _ a.aV aP (of_decide_eq_true (dT G))) ?_
 rintro _ gB ⟨rfl,aR⟩
 have cZ:=aQ _ _ aR
 refine Mz rfl (Kz (.agg #[.bool true, .func (.func 132) #[] #[], .func (.func 133) #[] #[], .func (.func 130) #[] #[], .func (.func 134) #[] #[]]) (Kz (.bool true) ?_))
 refine dC [.bool false, .nilFunc, .nilFunc, .nilFunc, .nilFunc] 166 cZ ?_
 intro T gD dh
 refine df [.bool true, .func (.func 132) #[] #[], .func (.func 133) #[] #[], .func (.func 130) #[] #[], .func (.func 134) #[] #[]] 0 dh Tryz.sizeOf166 ?_
 intro di dm
 refine An rfl (ze (ze ?_))
 have I:=dm.drew
 refine zX [] (fun W=> ∃ L',Own w D W ([blk T [.bool true, .func (.func 132) #[] #[], .func (.func 133) #[] #[], .func (.func 130) #[] #[], .func (.func 134) #[] #[]] 166,blk t (aW.cells a) 74]++L')) (by kernel_rfl) (by kernel_rfl) (zG (zG z8)) ⟨_,I⟩ ?_
 revert I
 generalize World.drew di=gF
 intro I
 refine GX.take (v:= .bool true) (rs:= []) 0 rfl (by kernel_rfl) (fun _ _=>zo rfl) (GX.take (v:= .bool false) (rs:= []) 1 rfl (by kernel_rfl) (fun _ _=>yk) (GX.take (v:= .bool false) (rs:= []) 2 rfl (by kernel_rfl) (fun _ _=>zo rfl) (zl (v:= .pointer (some ⟨T,1,none⟩)) (rs:= []) 3 rfl rfl rfl rfl (by kernel_rfl) (fun _ _=>yk) (zl (v:= .func (.func 132) #[] #[]) (rs:= []) 4 rfl rfl rfl rfl (by kernel_rfl) (fun _ ⟨_,h⟩=>zi rfl (bf.one Tryz.isAgg162 (zJ (h.cls (i:=0) rfl) rfl))) (zl (v:= .agg (aW.cells a).toArray) (rs:= []) 5 rfl rfl rfl rfl (by kernel_rfl) (fun _ ⟨_,h⟩=>zi rfl (zD (cs:=(aW.cells a)) Tryz.isAgg74 Tryz.sizeOf74 ((h.cls (i:=1) rfl).lit (k:=0) (m:=6) rfl))) (zl (v:= .agg (aW.cells a).toArray) (rs:= []) 7 rfl rfl rfl rfl (by kernel_rfl) (fun _ ⟨_,h⟩=>zi rfl (zD (cs:=(aW.cells a)) Tryz.isAgg74 Tryz.sizeOf74 ((h.cls (i:=1) rfl).lit (k:=0) (m:=6) rfl))) ?_))))))
 obtain⟨d,A⟩:∃ q,kS a=q:=⟨_,rfl⟩
 obtain⟨gG,aS,eQ,aT,eT⟩:=zt I
 refine Aj 6 rfl rfl rfl rfl (by kernel_rfl) (zK Tryz.call132 rfl rfl (qL _ _ a d aS A) ?_)
 rintro _ gH ⟨rfl,aU⟩
 have s:=aT _ _ aU
 refine⟨.inr ⟨_,s⟩, ?_⟩
 refine zl (v:= .bool (decide (¬ ((d.aV=a.aV)∧(d.aX=a.aX)∧(d.aB=a.aB)∧(d.aJ=a.aJ)∧(d.aN=a.aN)∧(d.bF=a.bF))))) (rs:= []) 8 rfl rfl rfl rfl (by kernel_rfl) (fun _ _=>zF (e:= !(decide ((d.aV=a.aV)∧(d.aX=a.aX)∧(d.aB=a.aB)∧(d.aJ=a.aJ)∧(d.aN=a.aN)∧(d.bF=a.bF)))) (Ac rfl rfl (by kernel_rfl) rfl (eY.struct Tryz.underlying74 (by kernel_rfl) (Ab (dP.cons (u:= .int .i64 d.aV) (v:= .int .i64 a.aV) (by decide) (fun _=>by kernel_rfl) (fun _=>by kernel_rfl) (eY.int Tryz.underlying3) (dP.cons (u:= .string ⟨List.toArray d.aX⟩) (v:= .string ⟨List.toArray a.aX⟩) (by decide) (fun _=>by kernel_rfl) (fun _=>by kernel_rfl) (eY.string Tryz.underlying9) (dP.cons (u:= .string ⟨List.toArray d.aB⟩) (v:= .string ⟨List.toArray a.aB⟩) (by decide) (fun _=>by kernel_rfl) (fun _=>by kernel_rfl) (eY.string Tryz.underlying9) (dP.cons (u:= .string ⟨List.toArray d.aJ⟩) (v:= .string ⟨List.toArray a.aJ⟩) (by decide) (fun _=>by kernel_rfl) (fun _=>by kernel_rfl) (eY.string Tryz.underlying9) (dP.cons (u:= .string ⟨List.toArray d.aN⟩) (v:= .string ⟨List.toArray a.aN⟩) (by decide) (fun _=>by kernel_rfl) (fun _=>by kernel_rfl) (eY.string Tryz.underlying9) (dP.cons (u:= .int .i64 d.bF) (v:= .int .i64 a.bF) (by decide) (fun _=>by kernel_rfl) (fun _=>by kernel_rfl) (eY.int Tryz.underlying3) (dP.nil.up (Cc _)))))))) ((congrArg (decide (d.aV=a.aV) && ·) ((congrArg (decide (d.aX=a.aX) && ·) ((congrArg (decide (d.aB=a.aB) && ·) ((congrArg (decide (d.aJ=a.aJ) && ·) ((congrArg (decide (d.aN=a.aN) && ·) jg).trans dM)).trans dM)).trans dM)).trans dM)).trans dM)))) decide_not.symm) (GX.take (v:= .bool (decide (¬ ((d.aV=a.aV)∧(d.aX=a.aX)∧(d.aB=a.aB)∧(d.aJ=a.aJ)∧(d.aN=a.aN)∧(d.bF=a.bF))))) (rs:= []) 9 rfl (by kernel_rfl) (fun _ _=>zh rfl rfl rfl) (zT (by kernel_rfl) (zu ?_)))
 by_cases J:(d.aV=a.aV)∧(d.aX=a.aX)∧(d.aB=a.aB)∧(d.aJ=a.aJ)∧(d.aN=a.aN)∧(d.bF=a.bF)
 refine jF (dF (Ce J)) (sk (sr (Kz (.pointer (some ⟨T,2,none⟩)) (Lz (.func (.func 133) #[] #[]) s 0 Tryz.isAgg136 (La (aW.cells a) s 1 Tryz.isAgg74 Tryz.sizeOf74 ?_)))))
 obtain⟨ai,U⟩:∃ q,jc a=q:=⟨_,rfl⟩
 obtain⟨gI,aV,eU,aX,eX⟩:=zt s
 refine WL.do rfl (zK Tryz.call133 rfl rfl (mG _ _ a ai aV U) ?_)
 rintro _ gJ ⟨rfl,aY⟩
 have dn:=aX _ _ aY
 refine An rfl (rt (rs ?_))
 have dw:=dn.pk []
 obtain rfl:_=ai:=hr.symm.trans (et (iN l) (et (iN n) (et (iN j) (et (iN o) (et (ip G) (et (ae A) (et (ip J) (ae U))))))))
 exact⟨rfl,dw,(by omega)⟩
 refine jT (dT J) (sr (An rfl (rt (tR (rs ?_)))))
 have dx:=s.pk []
 obtain rfl:_=40:=hr.symm.trans (et (iN l) (et (iN n) (et (iN j) (et (iN o) (et (ip G) (et (ae A) (iN J)))))))
 exact⟨rfl,dx,(by omega)⟩
 obtain⟨gK,aZ,eZ,bg,fe⟩:=zt x
 refine cl Tryz.call111 (qg _ _ a.aV aZ (by omega) (by omega) (by omega) (by omega) (by omega)) ?_
 rintro _ gL ⟨rfl,bi⟩
 have dz:=bg _ _ bi
 refine Mz rfl (Kz (.agg #[.bool false, .nilFunc, .nilFunc, .nilFunc, .nilFunc]) (Kz (.bool false) ?_))
 refine dC [.bool false, .nilFunc, .nilFunc, .nilFunc, .nilFunc] 166 dz ?_
 intro dA gM dB
 refine df [.bool false, .nilFunc, .nilFunc, .nilFunc, .nilFunc] 0 dB Tryz.sizeOf166 ?_
 intro dD dG
 refine An rfl (ze (ze ?_))
 have K:=dG.drew
 refine zX [] (fun W=> ∃ L',Own w D W ([blk dA [.bool false, .nilFunc, .nilFunc, .nilFunc, .nilFunc] 166,blk t (aW.cells a) 74]++L')) (by kernel_rfl) (by kernel_rfl) (zG (zG z8)) ⟨_,K⟩ ?_
 revert K
 generalize World.drew dD=gN
 intro K
 refine GX.take (v:= .bool false) (rs:= []) 0 rfl (by kernel_rfl) (fun _ _=>zo rfl) (GX.take (v:= .bool true) (rs:= []) 1 rfl (by kernel_rfl) (fun _ _=>yk) (GX.take (v:= .bool true) (rs:= []) 2 rfl (by kernel_rfl) (fun _ _=>zo rfl) (zw (rs:= []) 3 rfl rfl rfl rfl (by kernel_rfl) (zw (rs:= []) 4 rfl rfl rfl rfl (by kernel_rfl) (zw (rs:= []) 5 rfl rfl rfl rfl (by kernel_rfl) (zw (rs:= []) 6 rfl rfl rfl rfl (by kernel_rfl) (zw (rs:= []) 7 rfl rfl rfl rfl (by kernel_rfl) (zw (rs:= []) 8 rfl rfl rfl rfl (by kernel_rfl) (GX.take (v:= .bool true) (rs:= []) 9 rfl (by kernel_rfl) (fun _ _=>zf rfl rfl rfl) (zT (by kernel_rfl) (zu (jt (sr (An rfl (rt (tR (rs ?_)))))))))))))))))
 have dH:=K.pk []
 obtain rfl:_=40:=hr.symm.trans (et (iN l) (et (iN n) (et (iN j) (et (iN o) (iN G)))))
 exact⟨rfl,dH,(by omega)⟩
def gZ (p1:Nat):List fK→Unit ⊕ Bool
  | []=>Sum.inl ()
  | a::b=>if((a.aS:Nat):Int)=((p1:Nat):Int) then Sum.inr (true) else gZ p1 b
def kK (a:bP) (p1:Nat):Bool:=
 lp (gZ p1 a.aD.ls) fun _=>false
theorem mZ (w:World) (D:Nat→Prop) (a:bP) (g:Option Addr) (y h:Nat) (d:Option Addr) (z f:Nat) (m:List aP) (j:Option Addr) (B k:Nat) (p1:Nat) (r0:Bool) (H:Own w D w []) (E:y=a.ag.ls.length) (R:Ro w D fun w'=>bn w' 2 g a.ag.ls.length (List.flatMap aH.cells a.ag.ls)) (S:a.ag.ls.length≤h∧a.ag.ls.length≤9223372036854775807) (o:List.map zV m=a.aD.ls) (F:z=a.aD.ls.length) (l:Ro w D fun w'=>bn w' 2 d a.aD.ls.length (List.flatMap aP.cells m)) (T:a.aD.ls.length≤f∧a.aD.ls.length≤9223372036854775807) (G:∀ x ∈ m,Ro w D (fun w'=>bn w' 6 x.aL.A x.aL.ls.length (List.flatMap aW.cells x.aL.ls))∧(x.aL.ls.length≤x.aL.c∧x.aL.ls.length≤9223372036854775807)) (I:B=a.aj.ls.length) (U:Ro w D fun w'=>bn w' 1 j a.aj.ls.length (List.flatMap (eN .u64) a.aj.ls)) (V:a.aj.ls.length≤k∧a.aj.ls.length≤9223372036854775807) (hr:kK a p1=r0):
    Calls Tryz.prog 85 #[.agg (bM a.iw a.au a.aY a.aK a.bg g y h d z f j B k a.gU a.cu a.aZ.aJ a.aZ.aN a.aT.bg a.aT.bv a.aT.cz a.aT.aO.aJ a.aT.aO.aN).toArray, .int .u64 ((p1:Nat):Int)] w (dE fun v w'=>v= .bool r0∧Own w D w' []):=by
 subst E F I
 have hdl0x1:=bS o
 refine zg (args:= [.agg (bQ a g h d f j k).toArray, .int .u64 ((p1:Nat):Int)]) Tryz.func85 rfl rfl rfl ?_
 show Wp _ _ _ [(0, .agg (bQ a g h d f j k).toArray),(1, .int .u64 ((p1:Nat):Int))] _ _
 refine sr ?_
 refine dC (bQ a g h d f j k) 31 H ?_
 intro W aj K
 refine An rfl (ze (sr (Kz (.pointer (some ⟨W,6,none⟩)) (Lz (.slice d a.aD.ls.length f) K 0 Tryz.isAgg24 (Kz (.int .i64 ((a.aD.ls.length:Nat):Int)) (Mn rfl (bo ?_)))))))
 have X:=K.pk []
 obtain⟨L,M⟩:∃ q:Nat→World→Prop,q=fun(i:Nat) w'=>Own w D w' []∧(i≤a.aD.ls.length∧gZ p1 a.aD.ls=gZ p1 (List.drop i a.aD.ls)):=⟨_,rfl⟩
 have p:∀ {b:Nat} {w':World},L b w'↔Own w D w' []∧b≤a.aD.ls.length∧gZ p1 a.aD.ls=gZ p1 (List.drop b a.aD.ls):=by intros; subst M; exact Iff.rfl
 refine Wp.loop (fun i:Nat=> [(4, .bool false),(10, .int .i64 ((i:Nat):Int)),(9, .int .i64 ((a.aD.ls.length:Nat):Int)),(8, .slice d a.aD.ls.length f),(1, .int .u64 ((p1:Nat):Int))]) L (fun i=>a.aD.ls.length - i) 0 ⟨rfl,rfl,rfl,rfl,rfl,trivial⟩ (p.2 ⟨X,by omega,rfl⟩) ?_
 rintro b ak N
 show Wp _ _ _ [(4, .bool false),(10, .int .i64 ((b:Nat):Int)),(9, .int .i64 ((a.aD.ls.length:Nat):Int)),(8, .slice d a.aD.ls.length f),(1, .int .u64 ((p1:Nat):Int))] _ _
 obtain⟨r,ah,s⟩:=p.1 N
 refine sr (Kz (.bool (decide (((b:Nat):Int) < ((a.aD.ls.length:Nat):Int)))) (nt (ze ?_)))
 by_cases O:((b:Nat):Int) < ((a.aD.ls.length:Nat):Int)
 obtain⟨n,t⟩:=eH (ls:=m) (i:=b) aP.len (by decide) (r.ro l) (by first | omega | (simp; done) | (simp; omega))
 have P:=iY o t
 have ai:=(G _ (List.mem_of_getElem? t)).2
 have C:=drop_at P
 refine jT (dT O) (sk (ze (bo (sr (fw (.pointer (some ⟨ab d,ao d+b *2,none⟩)) (zn (nR) rfl rfl ((r.ro l).addr (i:=b) (by omega)) (by omega)) (fw (.agg (aP.cells n).toArray) (zi rfl (zD (cs:=(aP.cells n)) Tryz.isAgg66 Tryz.sizeOf66 ((r.ro l).elem aP.len t (by decide)))) ?_))))))
 refine dC [.int .u64 0, .slice none 0 0] 66 r ?_
 intro Y au Z
 refine df (aP.cells n) 0 Z Tryz.sizeOf66 ?_
 intro av J
 refine ns (Kz (.pointer (some ⟨Y,0,none⟩)) (Lz (.int .u64 ((n.aS:Nat):Int)) J 0 Tryz.isAgg22 (Mz rfl (Kz (.bool (decide (((n.aS:Nat):Int)=((p1:Nat):Int)))) (nt ?_)))))
 by_cases u:((n.aS:Nat):Int)=((p1:Nat):Int)
 refine jT (dT u) (sr (An rfl (rt (bR (tR (tR (bR (tR (rs ?_)))))))))
 have aa:=J.pk []
 obtain rfl:_=true:=hr.symm.trans (fE (et (s) (et (congrArg (fun q=>gZ p1 q) C) (ip u))))
 exact⟨rfl,aa⟩
 refine jF (dF u) (zS (bN (zu (zb (fw (.int .i64 ((b+1:Nat):Int)) (zy (e:=IntKind.i64.wrap (((b:Nat):Int)+1)) yk (by rw [Cb _ (by omega)]; omega)) (Mz rfl (zq ?_)))))))
 have ae:=J.pk []
 exact zH (b+1) ⟨rfl,rfl,rfl,rfl,rfl,trivial⟩ (p.2 ⟨ae,by omega,et (s) (et (congrArg (fun q=>gZ p1 q) C) (iN u))⟩) (by show a.aD.ls.length - (b+1) < a.aD.ls.length - b; omega)
 refine jF (dF O) (Wp.exit (zk ?_))
 have Q:gZ p1 a.aD.ls=Sum.inl ():=et (s) (et (congrArg (fun q=>gZ p1 q) (eF (ls:=a.aD.ls) (i:=b) (by omega))) rfl)
 refine zk (zA (zu (sr (An rfl (rt (rs ?_))))))
 have af:=r.pk []
 obtain rfl:_=false:=hr.symm.trans (gL Q)
 exact⟨rfl,af⟩
def bT (b:Nat):List aW→Unit ⊕ Bool
  | []=>Sum.inl ()
  | c::d=>bnd (jq c) fun a=>if a=0 then bT b d else Sum.inr (false)
def fP (d:Nat):List aW→Unit ⊕ Bool
  | []=>Sum.inl ()
  | b::c=>bnd (jq b) fun a=>if a=0 then fP d c else Sum.inr (false)
def bZ (g:bP):List fK→Nat→Unit ⊕ Bool
  | [],a=>Sum.inl ()
  | b::d,a=>if((a:Nat):Int) > 0 then bnd (List.getD g.aD.ls (a - 1) default) fun e=>if((b.aS:Nat):Int)≤((e.aS:Nat):Int) then Sum.inr (false) else bnd (dh ((b.aL.ls.length:Nat):Int) 24) fun f=>if f=true then kQ (bT a b.aL.ls) fun _=>bZ g d (a+1) else Sum.inr (false) else bnd (dh ((b.aL.ls.length:Nat):Int) 24) fun c=>if c=true then kQ (fP a b.aL.ls) fun _=>bZ g d (a+1) else Sum.inr (false)
def eZ (g:bP):List Nat→Nat→Unit ⊕ Bool
  | [],a=>Sum.inl ()
  | b::c,a=>if((a:Nat):Int) > 0 then bnd (List.getD g.aj.ls (a - 1) default) fun d=>if((b:Nat):Int)≤((d:Nat):Int) then Sum.inr (false) else bnd (kK g b) fun e=>if e=true then Sum.inr (false) else eZ g c (a+1) else bnd (kK g b) fun f=>if f=true then Sum.inr (false) else eZ g c (a+1)
def j4 (a:bP):Bool:=
 if((a.aD.ls.length:Nat):Int) > 6 then false else if((a.aD.ls.length+a.aj.ls.length:Nat):Int) > 64 then false else lp (bZ a a.aD.ls 0) fun _=>lp (eZ a a.aj.ls 0) fun _=>true
set_option maxHeartbeats 1000000 in
theorem o5 (w:World) (D:Nat→Prop) (d:bP) (r:Option Addr) (bA n:Nat) (f:Option Addr) (bB h:Nat) (Q:List aP) (j:Option Addr) (bC l:Nat) (r0:Bool) (H:Own w D w []) (bV:bA=d.ag.ls.length) (aO:Ro w D fun w'=>bn w' 2 r d.ag.ls.length (List.flatMap aH.cells d.ag.ls)) (fD:d.ag.ls.length≤n∧d.ag.ls.length≤9223372036854775807) (R:List.map zV Q=d.aD.ls) (bW:bB=d.aD.ls.length) (J:Ro w D fun w'=>bn w' 2 f d.aD.ls.length (List.flatMap aP.cells Q)) (fF:d.aD.ls.length≤h∧d.aD.ls.length≤9223372036854775807) (t:∀ x ∈ Q,Ro w D (fun w'=>bn w' 6 x.aL.A x.aL.ls.length (List.flatMap aW.cells x.aL.ls))∧(x.aL.ls.length≤x.aL.c∧x.aL.ls.length≤9223372036854775807)) (bX:bC=d.aj.ls.length) (B:Ro w D fun w'=>bn w' 1 j d.aj.ls.length (List.flatMap (eN .u64) d.aj.ls)) (fG:d.aj.ls.length≤l∧d.aj.ls.length≤9223372036854775807) (il:d.ag.ls.length≤140737488355328∧d.aD.ls.length≤140737488355328∧d.aj.ls.length≤140737488355328) (hr:j4 d=r0):
    Calls Tryz.prog 40 #[.agg (bM d.iw d.au d.aY d.aK d.bg r bA n f bB h j bC l d.gU d.cu d.aZ.aJ d.aZ.aN d.aT.bg d.aT.bv d.aT.cz d.aT.aO.aJ d.aT.aO.aN).toArray] w (dE fun v w'=>v= .bool r0∧Own w D w' []):=by
 subst bV bW bX
 have hdl0x1:=bS R
 refine zg (args:= [.agg (bQ d r n f h j l).toArray]) Tryz.func40 rfl rfl rfl ?_
 show Wp _ _ _ [(0, .agg (bQ d r n f h j l).toArray)] _ _
 refine sr ?_
 refine dC (bQ d r n f h j l) 31 H ?_
 intro s iq av
 refine An rfl (ze (sr (Kz (.pointer (some ⟨s,6,none⟩)) (Lz (.slice f d.aD.ls.length h) av 0 Tryz.isAgg24 (Kz (.int .i64 ((d.aD.ls.length:Nat):Int)) (Kz (.bool (decide (((d.aD.ls.length:Nat):Int) > 6))) (Mz rfl ?_)))))))
 by_cases o:((d.aD.ls.length:Nat):Int) > 6
 refine Sz (dT o) (Sz (dT o) (Sz (dT o) (Sz (dT o) (Sz (dT o) (Sz (dT o) (Sz (dT o) (Sz (dT o) (fw (.bool true) (zf rfl (dT o) rfl) (nt (jt (sr (An rfl (rt (tR (rs ?_)))))))))))))))
 have fH:=av.pk []
 obtain rfl:_=false:=hr.symm.trans (ip o)
 exact⟨rfl,fH⟩
 refine Gz (.pointer (some ⟨s,6,none⟩)) (dF o) (Gl (.slice f d.aD.ls.length h) (dF o) av 0 Tryz.isAgg24 (Gz (.int .i64 ((d.aD.ls.length:Nat):Int)) (dF o) (Gz (.pointer (some ⟨s,7,none⟩)) (dF o) (Gl (.slice j d.aj.ls.length l) (dF o) av 0 Tryz.isAgg25 (Gz (.int .i64 ((d.aj.ls.length:Nat):Int)) (dF o) (gw (.int .i64 ((d.aD.ls.length+d.aj.ls.length:Nat):Int)) (dF o) (zy (e:=IntKind.i64.wrap (((d.aD.ls.length:Nat):Int)+((d.aj.ls.length:Nat):Int))) yk (by rw [Cb _ (by omega)]; omega)) (Gz (.bool (decide (((d.aD.ls.length+d.aj.ls.length:Nat):Int) > 64))) (dF o) (fw (.bool (decide (((d.aD.ls.length+d.aj.ls.length:Nat):Int) > 64))) (zh rfl (dF o) rfl) (nt ?_)))))))))
 by_cases P:((d.aD.ls.length+d.aj.ls.length:Nat):Int) > 64
 refine jT (dT P) (sr (An rfl (rt (tR (rs ?_)))))
 have fI:=av.pk []
 obtain rfl:_=false:=hr.symm.trans (et (iN o) (ip P))
 exact⟨rfl,fI⟩
 refine jF (dF P) (sk (ze (sr (Kz (.pointer (some ⟨s,6,none⟩)) (Lz (.slice f d.aD.ls.length h) av 0 Tryz.isAgg24 (Kz (.int .i64 ((d.aD.ls.length:Nat):Int)) (Mn rfl (bo ?_))))))))
 have fJ:=av.pk [0]
 obtain⟨dK,dL⟩:∃ q:Nat→World→Prop,q=fun(i:Nat) w'=>Own w D w' [blk s (bQ d r n f h j l) 31]∧(i≤d.aD.ls.length∧bZ d d.aD.ls 0=bZ d (List.drop i d.aD.ls) i):=⟨_,rfl⟩
 have aC:∀ {b:Nat} {w':World},dK b w'↔Own w D w' [blk s (bQ d r n f h j l) 31]∧b≤d.aD.ls.length∧bZ d d.aD.ls 0=bZ d (List.drop b d.aD.ls) b:=by intros; subst dL; exact Iff.rfl
 refine Wp.loop (fun i:Nat=> [(2, .bool false),(26, .int .i64 ((i:Nat):Int)),(25, .int .i64 ((d.aD.ls.length:Nat):Int)),(24, .slice f d.aD.ls.length h),(1, .pointer (some ⟨s,0,none⟩))]) dK (fun i=>d.aD.ls.length - i) 0 ⟨rfl,rfl,rfl,rfl,rfl,trivial⟩ (aC.2 ⟨fJ,by omega,rfl⟩) ?_
 rintro b iw dM
 show Wp _ _ _ [(2, .bool false),(26, .int .i64 ((b:Nat):Int)),(25, .int .i64 ((d.aD.ls.length:Nat):Int)),(24, .slice f d.aD.ls.length h),(1, .pointer (some ⟨s,0,none⟩))] _ _
 obtain⟨aL,gD,N⟩:=aC.1 dM
 refine sr (Kz (.bool (decide (((b:Nat):Int) < ((d.aD.ls.length:Nat):Int)))) (nt (ze ?_)))
 by_cases dN:((b:Nat):Int) < ((d.aD.ls.length:Nat):Int)
 obtain⟨a,K⟩:=eH (ls:=Q) (i:=b) aP.len (by decide) (aL.ro J) (by first | omega | (simp; done) | (simp; omega))
 have dO:=iY R K
 have gF:=(t _ (List.mem_of_getElem? K)).2
 have S:=drop_at dO
 refine jT (dT dN) (sk (ze (bo (sr (Mz rfl (fw (.pointer (some ⟨ab f,ao f+b *2,none⟩)) (zn (nR) rfl rfl ((aL.ro J).addr (i:=b) (by omega)) (by omega)) (fw (.agg (aP.cells a).toArray) (zi rfl (zD (cs:=(aP.cells a)) Tryz.isAgg66 Tryz.sizeOf66 ((aL.ro J).elem aP.len K (by decide)))) ?_)))))))
 refine dC [.int .u64 0, .slice none 0 0] 66 aL ?_
 intro y iy fK
 refine Az rfl ?_
 refine df (aP.cells a) 0 fK Tryz.sizeOf66 ?_
 intro fM fO
 refine nt (ze (ze ?_))
 have aM:=fO.drew
 refine zX [] (fun W=> ∃ L',Own w D W ([blk y (aP.cells a) 66,blk s (bQ d r n f h j l) 31]++L')) (by kernel_rfl) (by kernel_rfl) (zG (zG (cK.block (zG (zG (cK.block (zG z8))))))) ⟨_,aM⟩ ?_
 revert aM
 generalize World.drew fM=iA
 intro aM
 refine GX.take (v:= .int .i64 ((b:Nat):Int)) (rs:= []) 0 rfl (by kernel_rfl) (fun _ _=>zo rfl) (GX.take (v:= .bool (decide (((b:Nat):Int) > 0))) (rs:= []) 1 rfl (by kernel_rfl) (fun _ _=>yk) (GX.take (v:= .bool (decide (((b:Nat):Int) > 0))) (rs:= []) 2 rfl (by kernel_rfl) (fun _ _=>zo rfl) ?_))
 by_cases p:((b:Nat):Int) > 0
 refine zl (v:= .pointer (some ⟨y,0,none⟩)) (rs:= []) 3 rfl rfl rfl (dT p) (by kernel_rfl) (fun _ _=>yk) (zl (v:= .int .u64 ((a.aS:Nat):Int)) (rs:= []) 4 rfl rfl rfl (dT p) (by kernel_rfl) (fun _ ⟨_,H9⟩=>zi rfl (bf.one Tryz.isAgg22 (zJ (H9.cls (i:=0) rfl) rfl))) (zl (v:= .pointer (some ⟨s,6,none⟩)) (rs:= []) 5 rfl rfl rfl (dT p) (by kernel_rfl) (fun _ _=>yk) (zl (v:= .slice f d.aD.ls.length h) (rs:= []) 6 rfl rfl rfl (dT p) (by kernel_rfl) (fun _ ⟨_,H9⟩=>zi rfl (bf.one Tryz.isAgg24 (zJ (H9.cls (i:=1) rfl) rfl))) (zl (v:= .int .i64 ((b:Nat):Int)) (rs:= []) 7 rfl rfl rfl (dT p) (by kernel_rfl) (fun _ _=>zo rfl) (zl (v:= .int .i64 ((b - 1:Nat):Int)) (rs:= []) 8 rfl rfl rfl (dT p) (by kernel_rfl) (fun _ _=>zy (e:=IntKind.i64.wrap (((b:Nat):Int) - 1)) yk (by rw [Cb _ (by omega)]; omega)) ?_)))))
 obtain⟨L,aR⟩:=lC (ls:=Q) (i:=b - 1) (by first | omega | (simp; done) | (simp; omega))
 have aD:=iY R aR
 have gG:=(t _ (List.mem_of_getElem? aR)).2
 refine zl (v:= .pointer (some ⟨ab f,ao f+(b - 1) *2,none⟩)) (rs:= []) 9 rfl rfl rfl (dT p) (by kernel_rfl) (fun _ ⟨_,H9⟩=>zn (nR) rfl rfl ((H9.ro J).addr (i:=b - 1) (by omega)) (by omega)) (zl (v:= .pointer (some ⟨ab f,ao f+(b - 1) *2,none⟩)) (rs:= []) 10 rfl rfl rfl (dT p) (by kernel_rfl) (fun _ _=>yk) (zl (v:= .int .u64 ((L.aS:Nat):Int)) (rs:= []) 11 rfl rfl rfl (dT p) (by kernel_rfl) (fun _ ⟨_,H9⟩=>zi rfl (bf.one Tryz.isAgg22 (((H9.ro J).elem aP.len aR (by decide)).at_ (k:=0) rfl))) (zl (v:= .bool (decide (((a.aS:Nat):Int)≤((L.aS:Nat):Int)))) (rs:= []) 12 rfl rfl rfl (dT p) (by kernel_rfl) (fun _ _=>yk) (GX.take (v:= .bool (decide (((a.aS:Nat):Int)≤((L.aS:Nat):Int)))) (rs:= []) 13 rfl (by kernel_rfl) (fun _ _=>zf rfl (dT p) rfl) (GX.take (v:= .bool (decide (((a.aS:Nat):Int)≤((L.aS:Nat):Int)))) (rs:= []) 14 rfl (by kernel_rfl) (fun _ _=>zo rfl) ?_)))))
 by_cases F:((a.aS:Nat):Int)≤((L.aS:Nat):Int)
 refine zw (rs:= []) 15 rfl rfl rfl (dT F) (by kernel_rfl) (zw (rs:= []) 16 rfl rfl rfl (dT F) (by kernel_rfl) (zw (rs:= []) 17 rfl rfl rfl (dT F) (by kernel_rfl) (zw (rs:= []) 18 rfl rfl rfl (dT F) (by kernel_rfl) (zw (rs:= []) 19 rfl rfl rfl (dT F) (by kernel_rfl) (GX.take (v:= .bool true) (rs:= []) 20 rfl (by kernel_rfl) (fun _ _=>zf rfl (dT F) rfl) (zT (by kernel_rfl) (zu (jt (sr (An rfl (rt (tR (bR (tR (tR (bR (tR (rs ?_))))))))))))))))))
 have fQ:=aM.pk []
 obtain rfl:_=false:=hr.symm.trans (et (iN o) (et (iN P) (fE (et (N) (et (congrArg (fun q=>bZ d q b) S) (et (ip p) (et (ae (bJ aD)) (ip F))))))))
 exact⟨rfl,fQ⟩
 refine zl (v:= .pointer (some ⟨y,1,none⟩)) (rs:= []) 15 rfl rfl rfl (dF F) (by kernel_rfl) (fun _ _=>yk) (zl (v:= .slice a.aL.A a.aL.ls.length a.aL.c) (rs:= []) 16 rfl rfl rfl (dF F) (by kernel_rfl) (fun _ ⟨_,H9⟩=>zi rfl (bf.one Tryz.isAgg64 (zJ (H9.cls (i:=0) rfl) rfl))) (zl (v:= .int .i64 ((a.aL.ls.length:Nat):Int)) (rs:= []) 17 rfl rfl rfl (dF F) (by kernel_rfl) (fun _ _=>yk) ?_))
 obtain⟨U,aF⟩:∃ q,dh ((a.aL.ls.length:Nat):Int) 24=q:=⟨_,rfl⟩
 obtain⟨iB,dP,gH,dQ,gI⟩:=zt aM
 refine Aj 18 rfl rfl rfl (dF F) (by kernel_rfl) (zI Tryz.call38 rfl (iD _ _ ((a.aL.ls.length:Nat):Int) 24 U dP aF) ?_)
 rintro _ iC ⟨rfl,dR⟩
 have bz:=dQ _ _ dR
 refine⟨.inr ⟨_,bz⟩, ?_⟩
 refine zl (v:= .bool (!U)) (rs:= []) 19 rfl rfl rfl (dF F) (by kernel_rfl) (fun _ _=>yk) (GX.take (v:= .bool (!U)) (rs:= []) 20 rfl (by kernel_rfl) (fun _ _=>zh rfl (dF F) rfl) (zT (by kernel_rfl) (zu ?_)))
 rcases Cf (U) with aN | aN
 refine jF (cn aN) (sk (sr (Kz (.pointer (some ⟨y,1,none⟩)) (Lz (.slice a.aL.A a.aL.ls.length a.aL.c) bz 0 Tryz.isAgg64 (Kz (.int .i64 ((a.aL.ls.length:Nat):Int)) (Mn rfl (bo ?_)))))))
 have fT:=bz.pk [0,1]
 obtain⟨dS,dU⟩:∃ q:Nat→World→Prop,q=fun(i:Nat) w'=>Own w D w' [blk y (aP.cells a) 66,blk s (bQ d r n f h j l) 31]∧(i≤a.aL.ls.length∧bT b a.aL.ls=bT b (List.drop i a.aL.ls)):=⟨_,rfl⟩
 have aS:∀ {G:Nat} {w':World},dS G w'↔Own w D w' [blk y (aP.cells a) 66,blk s (bQ d r n f h j l) 31]∧G≤a.aL.ls.length∧bT b a.aL.ls=bT b (List.drop G a.aL.ls):=by intros; subst dU; exact Iff.rfl
 refine Wp.loop (fun i:Nat=> [(2, .bool false),(55, .int .i64 ((i:Nat):Int)),(54, .int .i64 ((a.aL.ls.length:Nat):Int)),(53, .slice a.aL.A a.aL.ls.length a.aL.c),(52, .pointer (some ⟨y,1,none⟩)),(51, .bool (!U)),(50, .bool (!U)),(49, .bool U),(48, .int .i64 ((a.aL.ls.length:Nat):Int)),(47, .slice a.aL.A a.aL.ls.length a.aL.c),(46, .pointer (some ⟨y,1,none⟩)),(45, .bool (decide (((a.aS:Nat):Int)≤((L.aS:Nat):Int)))),(44, .bool (decide (((a.aS:Nat):Int)≤((L.aS:Nat):Int)))),(43, .bool (decide (((a.aS:Nat):Int)≤((L.aS:Nat):Int)))),(42, .int .u64 ((L.aS:Nat):Int)),(41, .pointer (some ⟨ab f,ao f+(b - 1) *2,none⟩)),(40, .pointer (some ⟨ab f,ao f+(b - 1) *2,none⟩)),(39, .int .i64 ((b - 1:Nat):Int)),(38, .int .i64 ((b:Nat):Int)),(37, .slice f d.aD.ls.length h),(36, .pointer (some ⟨s,6,none⟩)),(35, .int .u64 ((a.aS:Nat):Int)),(34, .pointer (some ⟨y,0,none⟩)),(33, .bool (decide (((b:Nat):Int) > 0))),(32, .bool (decide (((b:Nat):Int) > 0))),(31, .int .i64 ((b:Nat):Int)),(3, .int .i64 ((b:Nat):Int)),(4, .pointer (some ⟨y,0,none⟩)),(30, .agg (aP.cells a).toArray),(29, .pointer (some ⟨ab f,ao f+b *2,none⟩)),(28, .int .i64 ((b:Nat):Int)),(27, .bool (decide (((b:Nat):Int) < ((d.aD.ls.length:Nat):Int)))),(26, .int .i64 ((b:Nat):Int)),(25, .int .i64 ((d.aD.ls.length:Nat):Int)),(24, .slice f d.aD.ls.length h),(1, .pointer (some ⟨s,0,none⟩))]) dS (fun i=>a.aL.ls.length - i) 0 ⟨rfl,rfl,rfl,rfl,rfl,rfl,rfl,rfl,rfl,rfl,rfl,rfl,rfl,rfl,rfl,rfl,rfl,rfl,rfl,rfl,rfl,rfl,rfl,rfl,rfl,rfl,rfl,rfl,rfl,rfl,rfl,rfl,rfl,rfl,rfl,rfl,trivial⟩ (aS.2 ⟨fT,by omega,rfl⟩) ?_
 rintro G iE dV
 show Wp _ _ _ [(2, .bool false),(55, .int .i64 ((G:Nat):Int)),(54, .int .i64 ((a.aL.ls.length:Nat):Int)),(53, .slice a.aL.A a.aL.ls.length a.aL.c),(52, .pointer (some ⟨y,1,none⟩)),(51, .bool (!U)),(50, .bool (!U)),(49, .bool U),(48, .int .i64 ((a.aL.ls.length:Nat):Int)),(47, .slice a.aL.A a.aL.ls.length a.aL.c),(46, .pointer (some ⟨y,1,none⟩)),(45, .bool (decide (((a.aS:Nat):Int)≤((L.aS:Nat):Int)))),(44, .bool (decide (((a.aS:Nat):Int)≤((L.aS:Nat):Int)))),(43, .bool (decide (((a.aS:Nat):Int)≤((L.aS:Nat):Int)))),(42, .int .u64 ((L.aS:Nat):Int)),(41, .pointer (some ⟨ab f,ao f+(b - 1) *2,none⟩)),(40, .pointer (some ⟨ab f,ao f+(b - 1) *2,none⟩)),(39, .int .i64 ((b - 1:Nat):Int)),(38, .int .i64 ((b:Nat):Int)),(37, .slice f d.aD.ls.length h),(36, .pointer (some ⟨s,6,none⟩)),(35, .int .u64 ((a.aS:Nat):Int)),(34, .pointer (some ⟨y,0,none⟩)),(33, .bool (decide (((b:Nat):Int) > 0))),(32, .bool (decide (((b:Nat):Int) > 0))),(31, .int .i64 ((b:Nat):Int)),(3, .int .i64 ((b:Nat):Int)),(4, .pointer (some ⟨y,0,none⟩)),(30, .agg (aP.cells a).toArray),(29, .pointer (some ⟨ab f,ao f+b *2,none⟩)),(28, .int .i64 ((b:Nat):Int)),(27, .bool (decide (((b:Nat):Int) < ((d.aD.ls.length:Nat):Int)))),(26, .int .i64 ((b:Nat):Int)),(25, .int .i64 ((d.aD.ls.length:Nat):Int)),(24, .slice f d.aD.ls.length h),(1, .pointer (some ⟨s,0,none⟩))] _ _
 obtain⟨aT,gJ,aU⟩:=aS.1 dV
 refine sr (Kz (.bool (decide (((G:Nat):Int) < ((a.aL.ls.length:Nat):Int)))) (nt (ze ?_)))
 by_cases dW:((G:Nat):Int) < ((a.aL.ls.length:Nat):Int)
 obtain⟨ah,bD⟩:=eH (ls:=a.aL.ls) (i:=G) aW.len (by decide) (aT.ro (t _ (List.mem_of_getElem? K)).1) (by first | omega | (simp; done) | (simp; omega))
 have bE:=drop_at bD
 refine jT (dT dW) (sk (ze (bo (sr (fw (.pointer (some ⟨ab a.aL.A,ao a.aL.A+G *6,none⟩)) (zn (qD) rfl rfl ((aT.ro (t _ (List.mem_of_getElem? K)).1).addr (i:=G) (by omega)) (by omega)) (fw (.agg (aW.cells ah).toArray) (zi rfl (zD (cs:=(aW.cells ah)) Tryz.isAgg74 Tryz.sizeOf74 ((aT.ro (t _ (List.mem_of_getElem? K)).1).elem aW.len bD (by decide)))) ?_))))))
 refine dC [.int .i64 0, .string ⟨List.toArray ([])⟩, .string ⟨List.toArray ([])⟩, .string ⟨List.toArray ([])⟩, .string ⟨List.toArray ([])⟩, .int .i64 0] 74 aT ?_
 intro iF iG fU
 refine df (aW.cells ah) 0 fU Tryz.sizeOf74 ?_
 intro iH dX
 refine ns (La (aW.cells ah) dX 0 Tryz.isAgg74 Tryz.sizeOf74 ?_)
 obtain⟨aV,aX⟩:∃ q,jq ah=q:=⟨_,rfl⟩
 obtain⟨iI,dY,gK,dZ,gM⟩:=zt dX
 refine cl Tryz.call84 (nX _ _ ah aV dY aX) ?_
 rintro _ iJ ⟨rfl,d9,aY⟩
 have ed:=dZ _ _ d9
 replace aY: ¬ (aV=0)∨(1≤ah.aV∧ah.aV≤5):=aY
 refine fw (.bool (decide (¬ (aV=0)))) (zF (e:= !(decide (aV=0))) yk decide_not.symm) (nt ?_)
 by_cases aG:aV=0
 refine jF (dF (Ce aG)) (zS (bN (zu (zb (fw (.int .i64 ((G+1:Nat):Int)) (zy (e:=IntKind.i64.wrap (((G:Nat):Int)+1)) yk (by rw [Cb _ (by omega)]; omega)) (Mz rfl (zq ?_)))))))
 have ek:=ed.pk [1,2]
 exact zH (G+1) ⟨rfl,rfl,rfl,rfl,rfl,rfl,rfl,rfl,rfl,rfl,rfl,rfl,rfl,rfl,rfl,rfl,rfl,rfl,rfl,rfl,rfl,rfl,rfl,rfl,rfl,rfl,rfl,rfl,rfl,rfl,rfl,rfl,rfl,rfl,rfl,rfl,trivial⟩ (aS.2 ⟨ek,by omega,et (aU) (et (congrArg (fun q=>bT b q) bE) (et (ae aX) (ip aG)))⟩) (by show a.aL.ls.length - (G+1) < a.aL.ls.length - G; omega)
 refine jT (dT aG) (sr (An rfl (rt (bR (tR (tR (bR (bR (tR (tR (bR (tR (rs ?_)))))))))))))
 have eu:=ed.pk []
 obtain rfl:_=false:=hr.symm.trans (et (iN o) (et (iN P) (fE (et (N) (et (congrArg (fun q=>bZ d q b) S) (et (ip p) (et (ae (bJ aD)) (et (iN F) (et (ae aF) (et (ip aN) (mi (et (aU) (et (congrArg (fun q=>bT b q) bE) (et (ae aX) (iN aG)))))))))))))))
 exact⟨rfl,eu⟩
 refine jF (dF dW) (Wp.exit (zk ?_))
 have bY:bT b a.aL.ls=Sum.inl ():=et (aU) (et (congrArg (fun q=>bT b q) (eF (ls:=a.aL.ls) (i:=G) (by omega))) rfl)
 refine zk (zA (bN (zu (zb (fw (.int .i64 ((b+1:Nat):Int)) (zy (e:=IntKind.i64.wrap (((b:Nat):Int)+1)) yk (by rw [Cb _ (by omega)]; omega)) (Mz rfl (zq ?_)))))))
 have eB:=aT.pk [1]
 exact zH (b+1) ⟨rfl,rfl,rfl,rfl,rfl,trivial⟩ (aC.2 ⟨eB,by omega,et (N) (et (congrArg (fun q=>bZ d q b) S) (et (ip p) (et (ae (bJ aD)) (et (iN F) (et (ae aF) (et (ip aN) (nQ bY)))))))⟩) (by show d.aD.ls.length - (b+1) < d.aD.ls.length - b; omega)
 refine jT (cn aN) (sr (An rfl (rt (tR (bR (tR (tR (bR (tR (rs ?_))))))))))
 have eD:=bz.pk []
 obtain rfl:_=false:=hr.symm.trans (et (iN o) (et (iN P) (fE (et (N) (et (congrArg (fun q=>bZ d q b) S) (et (ip p) (et (ae (bJ aD)) (et (iN F) (et (ae aF) (jV aN))))))))))
 exact⟨rfl,eD⟩
 refine zw (rs:= []) 3 rfl rfl rfl (dF p) (by kernel_rfl) (zw (rs:= []) 4 rfl rfl rfl (dF p) (by kernel_rfl) (zw (rs:= []) 5 rfl rfl rfl (dF p) (by kernel_rfl) (zw (rs:= []) 6 rfl rfl rfl (dF p) (by kernel_rfl) (zw (rs:= []) 7 rfl rfl rfl (dF p) (by kernel_rfl) (zw (rs:= []) 8 rfl rfl rfl (dF p) (by kernel_rfl) (zw (rs:= []) 9 rfl rfl rfl (dF p) (by kernel_rfl) (zw (rs:= []) 10 rfl rfl rfl (dF p) (by kernel_rfl) (zw (rs:= []) 11 rfl rfl rfl (dF p) (by kernel_rfl) (zw (rs:= []) 12 rfl rfl rfl (dF p) (by kernel_rfl) (GX.take (v:= .bool false) (rs:= []) 13 rfl (by kernel_rfl) (fun _ _=>zh rfl (dF p) rfl) (GX.take (v:= .bool false) (rs:= []) 14 rfl (by kernel_rfl) (fun _ _=>zo rfl) (zl (v:= .pointer (some ⟨y,1,none⟩)) (rs:= []) 15 rfl rfl rfl rfl (by kernel_rfl) (fun _ _=>yk) (zl (v:= .slice a.aL.A a.aL.ls.length a.aL.c) (rs:= []) 16 rfl rfl rfl rfl (by kernel_rfl) (fun _ ⟨_,H9⟩=>zi rfl (bf.one Tryz.isAgg64 (zJ (H9.cls (i:=0) rfl) rfl))) (zl (v:= .int .i64 ((a.aL.ls.length:Nat):Int)) (rs:= []) 17 rfl rfl rfl rfl (by kernel_rfl) (fun _ _=>yk) ?_))))))))))))))
 obtain⟨I,X⟩:∃ q,dh ((a.aL.ls.length:Nat):Int) 24=q:=⟨_,rfl⟩
 obtain⟨gN,cu,fV,cz,fZ⟩:=zt aM
 refine Aj 18 rfl rfl rfl rfl (by kernel_rfl) (zI Tryz.call38 rfl (iD _ _ ((a.aL.ls.length:Nat):Int) 24 I cu X) ?_)
 rintro _ gP ⟨rfl,cB⟩
 have aI:=cz _ _ cB
 refine⟨.inr ⟨_,aI⟩, ?_⟩
 refine zl (v:= .bool (!I)) (rs:= []) 19 rfl rfl rfl rfl (by kernel_rfl) (fun _ _=>yk) (GX.take (v:= .bool (!I)) (rs:= []) 20 rfl (by kernel_rfl) (fun _ _=>zh rfl rfl rfl) (zT (by kernel_rfl) (zu ?_)))
 rcases Cf (I) with V | V
 refine jF (cn V) (sk (sr (Kz (.pointer (some ⟨y,1,none⟩)) (Lz (.slice a.aL.A a.aL.ls.length a.aL.c) aI 0 Tryz.isAgg64 (Kz (.int .i64 ((a.aL.ls.length:Nat):Int)) (Mn rfl (bo ?_)))))))
 have eG:=aI.pk [0,1]
 obtain⟨bF,cO⟩:∃ q:Nat→World→Prop,q=fun(i:Nat) w'=>Own w D w' [blk y (aP.cells a) 66,blk s (bQ d r n f h j l) 31]∧(i≤a.aL.ls.length∧fP b a.aL.ls=fP b (List.drop i a.aL.ls)):=⟨_,rfl⟩
 have ax:∀ {u:Nat} {w':World},bF u w'↔Own w D w' [blk y (aP.cells a) 66,blk s (bQ d r n f h j l) 31]∧u≤a.aL.ls.length∧fP b a.aL.ls=fP b (List.drop u a.aL.ls):=by intros; subst cO; exact Iff.rfl
 refine Wp.loop (fun i:Nat=> [(2, .bool false),(55, .int .i64 ((i:Nat):Int)),(54, .int .i64 ((a.aL.ls.length:Nat):Int)),(53, .slice a.aL.A a.aL.ls.length a.aL.c),(52, .pointer (some ⟨y,1,none⟩)),(51, .bool (!I)),(50, .bool (!I)),(49, .bool I),(48, .int .i64 ((a.aL.ls.length:Nat):Int)),(47, .slice a.aL.A a.aL.ls.length a.aL.c),(46, .pointer (some ⟨y,1,none⟩)),(45, .bool false),(44, .bool false),(43,undef),(42,undef),(41,undef),(40,undef),(39,undef),(38,undef),(37,undef),(36,undef),(35,undef),(34,undef),(33, .bool (decide (((b:Nat):Int) > 0))),(32, .bool (decide (((b:Nat):Int) > 0))),(31, .int .i64 ((b:Nat):Int)),(3, .int .i64 ((b:Nat):Int)),(4, .pointer (some ⟨y,0,none⟩)),(30, .agg (aP.cells a).toArray),(29, .pointer (some ⟨ab f,ao f+b *2,none⟩)),(28, .int .i64 ((b:Nat):Int)),(27, .bool (decide (((b:Nat):Int) < ((d.aD.ls.length:Nat):Int)))),(26, .int .i64 ((b:Nat):Int)),(25, .int .i64 ((d.aD.ls.length:Nat):Int)),(24, .slice f d.aD.ls.length h),(1, .pointer (some ⟨s,0,none⟩))]) bF (fun i=>a.aL.ls.length - i) 0 ⟨rfl,rfl,rfl,rfl,rfl,rfl,rfl,rfl,rfl,rfl,rfl,rfl,rfl,rfl,rfl,rfl,rfl,rfl,rfl,rfl,rfl,rfl,rfl,rfl,rfl,rfl,rfl,rfl,rfl,rfl,rfl,rfl,rfl,rfl,rfl,rfl,trivial⟩ (ax.2 ⟨eG,by omega,rfl⟩) ?_
 rintro u gQ cZ
 show Wp _ _ _ [(2, .bool false),(55, .int .i64 ((u:Nat):Int)),(54, .int .i64 ((a.aL.ls.length:Nat):Int)),(53, .slice a.aL.A a.aL.ls.length a.aL.c),(52, .pointer (some ⟨y,1,none⟩)),(51, .bool (!I)),(50, .bool (!I)),(49, .bool I),(48, .int .i64 ((a.aL.ls.length:Nat):Int)),(47, .slice a.aL.A a.aL.ls.length a.aL.c),(46, .pointer (some ⟨y,1,none⟩)),(45, .bool false),(44, .bool false),(43,undef),(42,undef),(41,undef),(40,undef),(39,undef),(38,undef),(37,undef),(36,undef),(35,undef),(34,undef),(33, .bool (decide (((b:Nat):Int) > 0))),(32, .bool (decide (((b:Nat):Int) > 0))),(31, .int .i64 ((b:Nat):Int)),(3, .int .i64 ((b:Nat):Int)),(4, .pointer (some ⟨y,0,none⟩)),(30, .agg (aP.cells a).toArray),(29, .pointer (some ⟨ab f,ao f+b *2,none⟩)),(28, .int .i64 ((b:Nat):Int)),(27, .bool (decide (((b:Nat):Int) < ((d.aD.ls.length:Nat):Int)))),(26, .int .i64 ((b:Nat):Int)),(25, .int .i64 ((d.aD.ls.length:Nat):Int)),(24, .slice f d.aD.ls.length h),(1, .pointer (some ⟨s,0,none⟩))] _ _
 obtain⟨ai,gm,ay⟩:=ax.1 cZ
 refine sr (Kz (.bool (decide (((u:Nat):Int) < ((a.aL.ls.length:Nat):Int)))) (nt (ze ?_)))
 by_cases bG:((u:Nat):Int) < ((a.aL.ls.length:Nat):Int)
 obtain⟨O,aZ⟩:=eH (ls:=a.aL.ls) (i:=u) aW.len (by decide) (ai.ro (t _ (List.mem_of_getElem? K)).1) (by first | omega | (simp; done) | (simp; omega))
 have bg:=drop_at aZ
 refine jT (dT bG) (sk (ze (bo (sr (fw (.pointer (some ⟨ab a.aL.A,ao a.aL.A+u *6,none⟩)) (zn (qD) rfl rfl ((ai.ro (t _ (List.mem_of_getElem? K)).1).addr (i:=u) (by omega)) (by omega)) (fw (.agg (aW.cells O).toArray) (zi rfl (zD (cs:=(aW.cells O)) Tryz.isAgg74 Tryz.sizeOf74 ((ai.ro (t _ (List.mem_of_getElem? K)).1).elem aW.len aZ (by decide)))) ?_))))))
 refine dC [.int .i64 0, .string ⟨List.toArray ([])⟩, .string ⟨List.toArray ([])⟩, .string ⟨List.toArray ([])⟩, .string ⟨List.toArray ([])⟩, .int .i64 0] 74 ai ?_
 intro gT gU eO
 refine df (aW.cells O) 0 eO Tryz.sizeOf74 ?_
 intro gV bH
 refine ns (La (aW.cells O) bH 0 Tryz.isAgg74 Tryz.sizeOf74 ?_)
 obtain⟨aj,az⟩:∃ q,jq O=q:=⟨_,rfl⟩
 obtain⟨gW,di,gp,dm,gq⟩:=zt bH
 refine cl Tryz.call84 (nX _ _ O aj di az) ?_
 rintro _ gX ⟨rfl,dn,bi⟩
 have bI:=dm _ _ dn
 replace bi: ¬ (aj=0)∨(1≤O.aV∧O.aV≤5):=bi
 refine fw (.bool (decide (¬ (aj=0)))) (zF (e:= !(decide (aj=0))) yk decide_not.symm) (nt ?_)
 by_cases aJ:aj=0
 refine jF (dF (Ce aJ)) (zS (bN (zu (zb (fw (.int .i64 ((u+1:Nat):Int)) (zy (e:=IntKind.i64.wrap (((u:Nat):Int)+1)) yk (by rw [Cb _ (by omega)]; omega)) (Mz rfl (zq ?_)))))))
 have eP:=bI.pk [1,2]
 exact zH (u+1) ⟨rfl,rfl,rfl,rfl,rfl,rfl,rfl,rfl,rfl,rfl,rfl,rfl,rfl,rfl,rfl,rfl,rfl,rfl,rfl,rfl,rfl,rfl,rfl,rfl,rfl,rfl,rfl,rfl,rfl,rfl,rfl,rfl,rfl,rfl,rfl,rfl,trivial⟩ (ax.2 ⟨eP,by omega,et (ay) (et (congrArg (fun q=>fP b q) bg) (et (ae az) (ip aJ)))⟩) (by show a.aL.ls.length - (u+1) < a.aL.ls.length - u; omega)
 refine jT (dT aJ) (sr (An rfl (rt (bR (tR (tR (bR (bR (tR (tR (bR (tR (rs ?_)))))))))))))
 have eQ:=bI.pk []
 obtain rfl:_=false:=hr.symm.trans (et (iN o) (et (iN P) (fE (et (N) (et (congrArg (fun q=>bZ d q b) S) (et (iN p) (et (ae X) (et (ip V) (mi (et (ay) (et (congrArg (fun q=>fP b q) bg) (et (ae az) (iN aJ)))))))))))))
 exact⟨rfl,eQ⟩
 refine jF (dF bG) (Wp.exit (zk ?_))
 have dw:fP b a.aL.ls=Sum.inl ():=et (ay) (et (congrArg (fun q=>fP b q) (eF (ls:=a.aL.ls) (i:=u) (by omega))) rfl)
 refine zk (zA (bN (zu (zb (fw (.int .i64 ((b+1:Nat):Int)) (zy (e:=IntKind.i64.wrap (((b:Nat):Int)+1)) yk (by rw [Cb _ (by omega)]; omega)) (Mz rfl (zq ?_)))))))
 have eT:=ai.pk [1]
 exact zH (b+1) ⟨rfl,rfl,rfl,rfl,rfl,trivial⟩ (aC.2 ⟨eT,by omega,et (N) (et (congrArg (fun q=>bZ d q b) S) (et (iN p) (et (ae X) (et (ip V) (nQ dw)))))⟩) (by show d.aD.ls.length - (b+1) < d.aD.ls.length - b; omega)
 refine jT (cn V) (sr (An rfl (rt (tR (bR (tR (tR (bR (tR (rs ?_))))))))))
 have eU:=aI.pk []
 obtain rfl:_=false:=hr.symm.trans (et (iN o) (et (iN P) (fE (et (N) (et (congrArg (fun q=>bZ d q b) S) (et (iN p) (et (ae X) (jV V))))))))
 exact⟨rfl,eU⟩
 refine jF (dF dN) (Wp.exit (zk ?_))
 have Y:bZ d d.aD.ls 0=Sum.inl ():=et (N) (et (congrArg (fun q=>bZ d q b) (eF (ls:=d.aD.ls) (i:=b) (by omega))) rfl)
 refine zk (zA (zu (ze (sr (Kz (.pointer (some ⟨s,7,none⟩)) (Lz (.slice j d.aj.ls.length l) aL 0 Tryz.isAgg25 (Kz (.int .i64 ((d.aj.ls.length:Nat):Int)) (Mn rfl (bo ?_)))))))))
 have eX:=aL.pk [0]
 obtain⟨bK,dx⟩:∃ q:Nat→World→Prop,q=fun(i:Nat) w'=>Own w D w' [blk s (bQ d r n f h j l) 31]∧(i≤d.aj.ls.length∧eZ d d.aj.ls 0=eZ d (List.drop i d.aj.ls) i):=⟨_,rfl⟩
 have Z:∀ {g:Nat} {w':World},bK g w'↔Own w D w' [blk s (bQ d r n f h j l) 31]∧g≤d.aj.ls.length∧eZ d d.aj.ls 0=eZ d (List.drop g d.aj.ls) g:=by intros; subst dx; exact Iff.rfl
 refine Wp.loop (fun i:Nat=> [(2, .bool false),(67, .int .i64 ((i:Nat):Int)),(66, .int .i64 ((d.aj.ls.length:Nat):Int)),(65, .slice j d.aj.ls.length l),(1, .pointer (some ⟨s,0,none⟩))]) bK (fun i=>d.aj.ls.length - i) 0 ⟨rfl,rfl,rfl,rfl,rfl,trivial⟩ (Z.2 ⟨eX,by omega,rfl⟩) ?_
 rintro g gY dz
 show Wp _ _ _ [(2, .bool false),(67, .int .i64 ((g:Nat):Int)),(66, .int .i64 ((d.aj.ls.length:Nat):Int)),(65, .slice j d.aj.ls.length l),(1, .pointer (some ⟨s,0,none⟩))] _ _
 obtain⟨z,gu,M⟩:=Z.1 dz
 refine sr (Kz (.bool (decide (((g:Nat):Int) < ((d.aj.ls.length:Nat):Int)))) (nt (ze ?_)))
 by_cases bL:((g:Nat):Int) < ((d.aj.ls.length:Nat):Int)
 obtain⟨C,bq⟩:=eH (ls:=d.aj.ls) (i:=g) ib (by decide) (z.ro B) (by first | omega | (simp; done) | (simp; omega))
 have T:=drop_at bq
 refine jT (dT bL) (sk (ze (bo (sr (Mz rfl (fw (.pointer (some ⟨ab j,ao j+g *1,none⟩)) (zn (jR) rfl rfl ((z.ro B).addr (i:=g) (by omega)) (by omega)) (fw (.int .u64 ((C:Nat):Int)) (zi rfl (bf.one Tryz.isAgg22 (((z.ro B).elem ib bq (by decide)).at_ (k:=0) rfl))) (Az rfl (Ar rfl (Mz rfl (Kz (.bool (decide (((g:Nat):Int) > 0))) (Mz rfl ?_))))))))))))
 by_cases m:((g:Nat):Int) > 0
 refine gw (.int .u64 ((C:Nat):Int)) (dT m) (zo rfl) (Gz (.pointer (some ⟨s,7,none⟩)) (dT m) (Gl (.slice j d.aj.ls.length l) (dT m) z 0 Tryz.isAgg25 (gw (.int .i64 ((g:Nat):Int)) (dT m) (zo rfl) (gw (.int .i64 ((g - 1:Nat):Int)) (dT m) (zy (e:=IntKind.i64.wrap (((g:Nat):Int) - 1)) yk (by rw [Cb _ (by omega)]; omega)) ?_))))
 obtain⟨aK,aa⟩:=eH (ls:=d.aj.ls) (i:=g - 1) ib (by decide) (z.ro B) (by first | omega | (simp; done) | (simp; omega))
 refine gw (.pointer (some ⟨ab j,ao j+(g - 1) *1,none⟩)) (dT m) (zn (jR) rfl rfl ((z.ro B).addr (i:=g - 1) (by omega)) (by omega)) (gw (.int .u64 ((aK:Nat):Int)) (dT m) (zi rfl (bf.one Tryz.isAgg22 (((z.ro B).elem ib aa (by decide)).at_ (k:=0) rfl))) (Gz (.bool (decide (((C:Nat):Int)≤((aK:Nat):Int)))) (dT m) (fw (.bool (decide (((C:Nat):Int)≤((aK:Nat):Int)))) (zf rfl (dT m) rfl) (Mz rfl ?_))))
 by_cases E:((C:Nat):Int)≤((aK:Nat):Int)
 refine Sz (dT E) (Sz (dT E) (Sz (dT E) (fw (.bool true) (zf rfl (dT E) rfl) (nt (jt (sr (An rfl (rt (bR (tR (tR (bR (tR (rs ?_))))))))))))))
 have eY:=z.pk []
 obtain rfl:_=false:=hr.symm.trans (et (iN o) (et (iN P) (et (gL Y) (fE (et (M) (et (congrArg (fun q=>eZ d q g) T) (et (ip m) (et (ae (bJ aa)) (ip E)))))))))
 exact⟨rfl,eY⟩
 refine Ga (bQ d r n f h j l) (dF E) z 0 Tryz.isAgg31 Tryz.sizeOf31 (gw (.int .u64 ((C:Nat):Int)) (dF E) (zo rfl) ?_)
 obtain⟨bu,aA⟩:∃ q,kK d C=q:=⟨_,rfl⟩
 obtain⟨gZ,dA,af,dB,gy⟩:=zt z
 refine mg (dF E) Tryz.call85 (mZ _ _ d r d.ag.ls.length n f d.aD.ls.length h Q j d.aj.ls.length l C bu dA rfl (af _ aO) (show d.ag.ls.length≤n∧d.ag.ls.length≤9223372036854775807 from by omega) R rfl (af _ J) (show d.aD.ls.length≤h∧d.aD.ls.length≤9223372036854775807 from by omega) (fun x9 h9=>⟨af _ (t x9 h9).1,(t x9 h9).2⟩) rfl (af _ B) (show d.aj.ls.length≤l∧d.aj.ls.length≤9223372036854775807 from by omega) aA) ?_
 rintro _ ic ⟨rfl,dD⟩
 have bO:=dB _ _ dD
 refine fw (.bool bu) (zh rfl (dF E) rfl) (nt ?_)
 rcases Cf (bu) with ak | ak
 refine jT ak (sr (An rfl (rt (bR (tR (tR (bR (tR (rs ?_)))))))))
 have fq:=bO.pk []
 obtain rfl:_=false:=hr.symm.trans (et (iN o) (et (iN P) (et (gL Y) (fE (et (M) (et (congrArg (fun q=>eZ d q g) T) (et (ip m) (et (ae (bJ aa)) (et (iN E) (et (ae aA) (ip ak)))))))))))
 exact⟨rfl,fq⟩
 refine jF ak (zS (bN (zu (zb (fw (.int .i64 ((g+1:Nat):Int)) (zy (e:=IntKind.i64.wrap (((g:Nat):Int)+1)) yk (by rw [Cb _ (by omega)]; omega)) (Mz rfl (zq ?_)))))))
 have fu:=bO.pk [0]
 exact zH (g+1) ⟨rfl,rfl,rfl,rfl,rfl,trivial⟩ (Z.2 ⟨fu,by omega,et (M) (et (congrArg (fun q=>eZ d q g) T) (et (ip m) (et (ae (bJ aa)) (et (iN E) (et (ae aA) (jV ak))))))⟩) (by show d.aj.ls.length - (g+1) < d.aj.ls.length - g; omega)
 refine Sz (dF m) (Sz (dF m) (Sz (dF m) (Sz (dF m) (Sz (dF m) (Sz (dF m) (Sz (dF m) (Sz (dF m) (fw (.bool false) (zh rfl (dF m) rfl) (Mz rfl (Ga (bQ d r n f h j l) rfl z 0 Tryz.isAgg31 Tryz.sizeOf31 (gw (.int .u64 ((C:Nat):Int)) rfl (zo rfl) ?_)))))))))))
 obtain⟨bv,aB⟩:∃ q,kK d C=q:=⟨_,rfl⟩
 obtain⟨ig,dG,ag,dH,gz⟩:=zt z
 refine mg rfl Tryz.call85 (mZ _ _ d r d.ag.ls.length n f d.aD.ls.length h Q j d.aj.ls.length l C bv dG rfl (ag _ aO) (show d.ag.ls.length≤n∧d.ag.ls.length≤9223372036854775807 from by omega) R rfl (ag _ J) (show d.aD.ls.length≤h∧d.aD.ls.length≤9223372036854775807 from by omega) (fun x9 h9=>⟨ag _ (t x9 h9).1,(t x9 h9).2⟩) rfl (ag _ B) (show d.aj.ls.length≤l∧d.aj.ls.length≤9223372036854775807 from by omega) aB) ?_
 rintro _ ik ⟨rfl,dI⟩
 have bU:=dH _ _ dI
 refine fw (.bool bv) (zh rfl rfl rfl) (nt ?_)
 rcases Cf (bv) with au | au
 refine jT au (sr (An rfl (rt (bR (tR (tR (bR (tR (rs ?_)))))))))
 have fA:=bU.pk []
 obtain rfl:_=false:=hr.symm.trans (et (iN o) (et (iN P) (et (gL Y) (fE (et (M) (et (congrArg (fun q=>eZ d q g) T) (et (iN m) (et (ae aB) (ip au)))))))))
 exact⟨rfl,fA⟩
 refine jF au (zS (bN (zu (zb (fw (.int .i64 ((g+1:Nat):Int)) (zy (e:=IntKind.i64.wrap (((g:Nat):Int)+1)) yk (by rw [Cb _ (by omega)]; omega)) (Mz rfl (zq ?_)))))))
 have fB:=bU.pk [0]
 exact zH (g+1) ⟨rfl,rfl,rfl,rfl,rfl,trivial⟩ (Z.2 ⟨fB,by omega,et (M) (et (congrArg (fun q=>eZ d q g) T) (et (iN m) (et (ae aB) (jV au))))⟩) (by show d.aj.ls.length - (g+1) < d.aj.ls.length - g; omega)
 refine jF (dF bL) (Wp.exit (zk ?_))
 have dJ:eZ d d.aj.ls 0=Sum.inl ():=et (M) (et (congrArg (fun q=>eZ d q g) (eF (ls:=d.aj.ls) (i:=g) (by omega))) rfl)
 refine zk (zA (zu (sr (An rfl (rt (rs ?_))))))
 have fC:=z.pk []
 obtain rfl:_=true:=hr.symm.trans (et (iN o) (et (iN P) (et (gL Y) (gL dJ))))
 exact⟨rfl,fC⟩
def kN (a:bP):Bool:=
 if((a.aT.bg:Nat):Int)=0 then if(((a.aT.bg:Nat):Int)=0)∧(((a.aT.bv:Nat):Int)=0)∧(((a.aT.cz:Nat):Int)=0)∧((a.aT.aO.aJ=([]))∧(a.aT.aO.aN=([]))) then if((a.cu:Nat):Int)=0 then if(a.aZ.aJ=([]))∧(a.aZ.aN=([])) then bnd (fH a.aT.aO) fun d=>if d=0 then bnd (fH a.aZ) fun e=>decide (e=0) else false else false else bnd (fH a.aT.aO) fun f=>if f=0 then bnd (fH a.aZ) fun g=>decide (g=0) else false else false else if((a.cu:Nat):Int)=0 then if(a.aZ.aJ=([]))∧(a.aZ.aN=([])) then bnd (fH a.aT.aO) fun h=>if h=0 then bnd (fH a.aZ) fun i=>decide (i=0) else false else false else bnd (fH a.aT.aO) fun b=>if b=0 then bnd (fH a.aZ) fun c=>decide (c=0) else false
set_option maxHeartbeats 1000000 in
theorem o6 (w:World) (D:Nat→Prop) (a:bP) (o:Option Addr) (Q p:Nat) (r:Option Addr) (R s:Nat) (C:List aP) (t:Option Addr) (S y:Nat) (r0:Bool) (H:Own w D w []) (W:Q=a.ag.ls.length) (bi:Ro w D fun w'=>bn w' 2 o a.ag.ls.length (List.flatMap aH.cells a.ag.ls)) (bq:a.ag.ls.length≤p∧a.ag.ls.length≤9223372036854775807) (X:List.map zV C=a.aD.ls) (Y:R=a.aD.ls.length) (bu:Ro w D fun w'=>bn w' 2 r a.aD.ls.length (List.flatMap aP.cells C)) (bv:a.aD.ls.length≤s∧a.aD.ls.length≤9223372036854775807) (bz:∀ x ∈ C,Ro w D (fun w'=>bn w' 6 x.aL.A x.aL.ls.length (List.flatMap aW.cells x.aL.ls))∧(x.aL.ls.length≤x.aL.c∧x.aL.ls.length≤9223372036854775807)) (Z:S=a.aj.ls.length) (bA:Ro w D fun w'=>bn w' 1 t a.aj.ls.length (List.flatMap (eN .u64) a.aj.ls)) (bB:a.aj.ls.length≤y∧a.aj.ls.length≤9223372036854775807) (dx:a.ag.ls.length≤140737488355328∧a.aD.ls.length≤140737488355328∧a.aj.ls.length≤140737488355328) (hr:kN a=r0):
    Calls Tryz.prog 41 #[.agg (bM a.iw a.au a.aY a.aK a.bg o Q p r R s t S y a.gU a.cu a.aZ.aJ a.aZ.aN a.aT.bg a.aT.bv a.aT.cz a.aT.aO.aJ a.aT.aO.aN).toArray] w (dE fun v w'=>v= .bool r0∧Own w D w' []):=by
 subst W Y Z
 have hdl0x1:=bS X
 refine zg (args:= [.agg (bQ a o p r s t y).toArray]) Tryz.func41 rfl rfl rfl ?_
 show Wp _ _ _ [(0, .agg (bQ a o p r s t y).toArray)] _ _
 refine sr ?_
 refine dC (bQ a o p r s t y) 31 H ?_
 intro f dz h
 refine An rfl (ze (sr (Kz (.pointer (some ⟨f,12,none⟩)) (Kz (.pointer (some ⟨f,12,none⟩)) (Lz (.int .u64 ((a.aT.bg:Nat):Int)) h 0 Tryz.isAgg22 (Kz (.bool (decide (((a.aT.bg:Nat):Int)=0))) (Mz rfl ?_)))))))
 by_cases b:((a.aT.bg:Nat):Int)=0
 refine Gz (.pointer (some ⟨f,12,none⟩)) (dT b) (Ga (eU.cells a.aT) (dT b) h 0 Tryz.isAgg29 Tryz.sizeOf29 (Gz (.agg #[.int .u64 0, .int .u64 0, .int .u64 0, .string ⟨List.toArray ([])⟩, .string ⟨List.toArray ([])⟩]) (dT b) (gw (.bool (decide (¬ ((((a.aT.bg:Nat):Int)=0)∧(((a.aT.bv:Nat):Int)=0)∧(((a.aT.cz:Nat):Int)=0)∧((a.aT.aO.aJ=([]))∧(a.aT.aO.aN=([]))))))) (dT b) (zF (e:= !(decide ((((a.aT.bg:Nat):Int)=0)∧(((a.aT.bv:Nat):Int)=0)∧(((a.aT.cz:Nat):Int)=0)∧((a.aT.aO.aJ=([]))∧(a.aT.aO.aN=([])))))) (Ac rfl rfl (by kernel_rfl) rfl (eY.struct Tryz.underlying29 (by kernel_rfl) (Ab (dP.cons (u:= .int .u64 ((a.aT.bg:Nat):Int)) (v:= .int .u64 0) (by decide) (fun _=>by kernel_rfl) (fun _=>by kernel_rfl) ((eY.int Tryz.underlying22).up (by decide)) (dP.cons (u:= .int .u64 ((a.aT.bv:Nat):Int)) (v:= .int .u64 0) (by decide) (fun _=>by kernel_rfl) (fun _=>by kernel_rfl) ((eY.int Tryz.underlying22).up (by decide)) (dP.cons (u:= .int .u64 ((a.aT.cz:Nat):Int)) (v:= .int .u64 0) (by decide) (fun _=>by kernel_rfl) (fun _=>by kernel_rfl) ((eY.int Tryz.underlying22).up (by decide)) (dP.cons (u:= .agg (bI.cells a.aT.aO).toArray) (v:= .agg #[.string ⟨List.toArray ([])⟩, .string ⟨List.toArray ([])⟩]) (by decide) (fun _=>by kernel_rfl) (fun _=>by kernel_rfl) (eY.struct Tryz.underlying27 (by kernel_rfl) (Ab (dP.cons (u:= .string ⟨List.toArray a.aT.aO.aJ⟩) (v:= .string ⟨List.toArray ([])⟩) (by decide) (fun _=>by kernel_rfl) (fun _=>by kernel_rfl) (eY.string Tryz.underlying9) (dP.cons (u:= .string ⟨List.toArray a.aT.aO.aN⟩) (v:= .string ⟨List.toArray ([])⟩) (by decide) (fun _=>by kernel_rfl) (fun _=>by kernel_rfl) (eY.string Tryz.underlying9) (dP.nil.up (Cc _)))) ((congrArg (decide (a.aT.aO.aJ=([])) && ·) jg).trans dM))) (dP.nil.up (Cc _)))))) ((congrArg (decide (((a.aT.bg:Nat):Int)=0) && ·) ((congrArg (decide (((a.aT.bv:Nat):Int)=0) && ·) ((congrArg (decide (((a.aT.cz:Nat):Int)=0) && ·) jg).trans dM)).trans dM)).trans dM)))) decide_not.symm) (fw (.bool (decide (¬ ((((a.aT.bg:Nat):Int)=0)∧(((a.aT.bv:Nat):Int)=0)∧(((a.aT.cz:Nat):Int)=0)∧((a.aT.aO.aJ=([]))∧(a.aT.aO.aN=([]))))))) (zf rfl (dT b) rfl) (Mz rfl ?_)))))
 by_cases d:(((a.aT.bg:Nat):Int)=0)∧(((a.aT.bv:Nat):Int)=0)∧(((a.aT.cz:Nat):Int)=0)∧((a.aT.aO.aJ=([]))∧(a.aT.aO.aN=([])))
 refine gw (.pointer (some ⟨f,9,none⟩)) (dF (Ce d)) yk (gw (.int .u64 ((a.cu:Nat):Int)) (dF (Ce d)) (zi rfl (bf.one Tryz.isAgg22 (zJ (h.cls (i:=0) rfl) rfl))) (gw (.bool (decide (((a.cu:Nat):Int)=0))) (dF (Ce d)) yk (gw (.bool (decide (((a.cu:Nat):Int)=0))) (dF (Ce d)) (zo rfl) ?_)))
 by_cases j:((a.cu:Nat):Int)=0
 refine Gz (.pointer (some ⟨f,10,none⟩)) (dT j) (Ga (bI.cells a.aZ) (dT j) h 0 Tryz.isAgg27 Tryz.sizeOf27 (Gz (.agg #[.string ⟨List.toArray ([])⟩, .string ⟨List.toArray ([])⟩]) (dT j) (gw (.bool (decide (¬ ((a.aZ.aJ=([]))∧(a.aZ.aN=([])))))) (dT j) (zF (e:= !(decide ((a.aZ.aJ=([]))∧(a.aZ.aN=([]))))) (Ac rfl rfl (by kernel_rfl) rfl (eY.struct Tryz.underlying27 (by kernel_rfl) (Ab (dP.cons (u:= .string ⟨List.toArray a.aZ.aJ⟩) (v:= .string ⟨List.toArray ([])⟩) (by decide) (fun _=>by kernel_rfl) (fun _=>by kernel_rfl) (eY.string Tryz.underlying9) (dP.cons (u:= .string ⟨List.toArray a.aZ.aN⟩) (v:= .string ⟨List.toArray ([])⟩) (by decide) (fun _=>by kernel_rfl) (fun _=>by kernel_rfl) (eY.string Tryz.underlying9) (dP.nil.up (Cc _)))) ((congrArg (decide (a.aZ.aJ=([])) && ·) jg).trans dM)))) decide_not.symm) (gw (.bool (decide (¬ ((a.aZ.aJ=([]))∧(a.aZ.aN=([])))))) (dF (Ce d)) (zf rfl (dT j) rfl) (fw (.bool (decide (¬ ((a.aZ.aJ=([]))∧(a.aZ.aN=([])))))) (zh rfl (dF (Ce d)) rfl) (nt ?_))))))
 by_cases E:(a.aZ.aJ=([]))∧(a.aZ.aN=([]))
 refine jF (dF (Ce E)) (sk (sr (Kz (.pointer (some ⟨f,12,none⟩)) (Kz (.pointer (some ⟨f,15,none⟩)) (La (bI.cells a.aT.aO) h 0 Tryz.isAgg27 Tryz.sizeOf27 ?_)))))
 obtain⟨aa,F⟩:∃ q,fH a.aT.aO=q:=⟨_,rfl⟩
 obtain⟨dA,aA,bW,aB,bX⟩:=zt h
 refine cl Tryz.call86 (jb _ _ a.aT.aO aa aA F) ?_
 rintro _ dB ⟨rfl,aC⟩
 have af:=aB _ _ aC
 refine Kz (.bool (decide (aa=0))) (Mz rfl ?_)
 by_cases l:aa=0
 refine Gz (.pointer (some ⟨f,10,none⟩)) (dT l) (Ga (bI.cells a.aZ) (dT l) af 0 Tryz.isAgg27 Tryz.sizeOf27 ?_)
 obtain⟨N,T⟩:∃ q,fH a.aZ=q:=⟨_,rfl⟩
 obtain⟨dD,aD,bY,aF,bZ⟩:=zt af
 refine mg (dT l) Tryz.call86 (jb _ _ a.aZ N aD T) ?_
 rintro _ dG ⟨rfl,aG⟩
 have bC:=aF _ _ aG
 refine Gz (.bool (decide (N=0))) (dT l) (fw (.bool (decide (N=0))) (zf rfl (dT l) rfl) (An rfl (rt (rs ?_))))
 have bD:=bC.pk []
 obtain rfl:_=decide (N=0):=hr.symm.trans (et (ip b) (et (ip d) (et (ip j) (et (ip E) (et (ae F) (et (ip l) (ae T)))))))
 exact⟨rfl,bD⟩
 refine Sz (dF l) (Sz (dF l) (Sz (dF l) (Sz (dF l) (fw (.bool false) (zh rfl (dF l) rfl) (An rfl (rt (rs ?_)))))))
 have bE:=af.pk []
 obtain rfl:_=false:=hr.symm.trans (et (ip b) (et (ip d) (et (ip j) (et (ip E) (et (ae F) (iN l))))))
 exact⟨rfl,bE⟩
 refine jT (dT E) (sr (An rfl (rt (tR (rs ?_)))))
 have bF:=h.pk []
 obtain rfl:_=false:=hr.symm.trans (et (ip b) (et (ip d) (et (ip j) (iN E))))
 exact⟨rfl,bF⟩
 refine Sz (dF j) (Sz (dF j) (Sz (dF j) (Sz (dF j) (gw (.bool false) (dF (Ce d)) (zh rfl (dF j) rfl) (fw (.bool false) (zh rfl (dF (Ce d)) rfl) (nt (jf (sk (sr (Kz (.pointer (some ⟨f,12,none⟩)) (Kz (.pointer (some ⟨f,15,none⟩)) (La (bI.cells a.aT.aO) h 0 Tryz.isAgg27 Tryz.sizeOf27 ?_))))))))))))
 obtain⟨ag,G⟩:∃ q,fH a.aT.aO=q:=⟨_,rfl⟩
 obtain⟨dH,aI,cu,aJ,cz⟩:=zt h
 refine cl Tryz.call86 (jb _ _ a.aT.aO ag aI G) ?_
 rintro _ dI ⟨rfl,aK⟩
 have ah:=aJ _ _ aK
 refine Kz (.bool (decide (ag=0))) (Mz rfl ?_)
 by_cases m:ag=0
 refine Gz (.pointer (some ⟨f,10,none⟩)) (dT m) (Ga (bI.cells a.aZ) (dT m) ah 0 Tryz.isAgg27 Tryz.sizeOf27 ?_)
 obtain⟨O,U⟩:∃ q,fH a.aZ=q:=⟨_,rfl⟩
 obtain⟨dJ,aL,cB,aM,cK⟩:=zt ah
 refine mg (dT m) Tryz.call86 (jb _ _ a.aZ O aL U) ?_
 rintro _ dK ⟨rfl,aN⟩
 have bG:=aM _ _ aN
 refine Gz (.bool (decide (O=0))) (dT m) (fw (.bool (decide (O=0))) (zf rfl (dT m) rfl) (An rfl (rt (rs ?_))))
 have bH:=bG.pk []
 obtain rfl:_=decide (O=0):=hr.symm.trans (et (ip b) (et (ip d) (et (iN j) (et (ae G) (et (ip m) (ae U))))))
 exact⟨rfl,bH⟩
 refine Sz (dF m) (Sz (dF m) (Sz (dF m) (Sz (dF m) (fw (.bool false) (zh rfl (dF m) rfl) (An rfl (rt (rs ?_)))))))
 have bJ:=ah.pk []
 obtain rfl:_=false:=hr.symm.trans (et (ip b) (et (ip d) (et (iN j) (et (ae G) (iN m)))))
 exact⟨rfl,bJ⟩
 refine Sz (dT d) (Sz (dT d) (Sz (dT d) (Sz (dT d) (zP rfl rfl rfl (zP rfl rfl rfl (zP rfl rfl rfl (zP rfl rfl rfl (Sz (dT d) (fw (.bool true) (zf rfl (dT d) rfl) (nt (jt (sr (An rfl (rt (tR (rs ?_))))))))))))))))
 have bK:=h.pk []
 obtain rfl:_=false:=hr.symm.trans (et (ip b) (iN d))
 exact⟨rfl,bK⟩
 refine Sz (dF b) (Sz (dF b) (Sz (dF b) (Sz (dF b) (fw (.bool false) (zh rfl (dF b) rfl) (Mz rfl (Gz (.pointer (some ⟨f,9,none⟩)) rfl (Gl (.int .u64 ((a.cu:Nat):Int)) rfl h 0 Tryz.isAgg22 (Gz (.bool (decide (((a.cu:Nat):Int)=0))) rfl (gw (.bool (decide (((a.cu:Nat):Int)=0))) rfl (zo rfl) ?_)))))))))
 by_cases k:((a.cu:Nat):Int)=0
 refine Gz (.pointer (some ⟨f,10,none⟩)) (dT k) (Ga (bI.cells a.aZ) (dT k) h 0 Tryz.isAgg27 Tryz.sizeOf27 (Gz (.agg #[.string ⟨List.toArray ([])⟩, .string ⟨List.toArray ([])⟩]) (dT k) (gw (.bool (decide (¬ ((a.aZ.aJ=([]))∧(a.aZ.aN=([])))))) (dT k) (zF (e:= !(decide ((a.aZ.aJ=([]))∧(a.aZ.aN=([]))))) (Ac rfl rfl (by kernel_rfl) rfl (eY.struct Tryz.underlying27 (by kernel_rfl) (Ab (dP.cons (u:= .string ⟨List.toArray a.aZ.aJ⟩) (v:= .string ⟨List.toArray ([])⟩) (by decide) (fun _=>by kernel_rfl) (fun _=>by kernel_rfl) (eY.string Tryz.underlying9) (dP.cons (u:= .string ⟨List.toArray a.aZ.aN⟩) (v:= .string ⟨List.toArray ([])⟩) (by decide) (fun _=>by kernel_rfl) (fun _=>by kernel_rfl) (eY.string Tryz.underlying9) (dP.nil.up (Cc _)))) ((congrArg (decide (a.aZ.aJ=([])) && ·) jg).trans dM)))) decide_not.symm) (gw (.bool (decide (¬ ((a.aZ.aJ=([]))∧(a.aZ.aN=([])))))) rfl (zf rfl (dT k) rfl) (fw (.bool (decide (¬ ((a.aZ.aJ=([]))∧(a.aZ.aN=([])))))) (zh rfl rfl rfl) (nt ?_))))))
 by_cases I:(a.aZ.aJ=([]))∧(a.aZ.aN=([]))
 refine jF (dF (Ce I)) (sk (sr (Kz (.pointer (some ⟨f,12,none⟩)) (Kz (.pointer (some ⟨f,15,none⟩)) (La (bI.cells a.aT.aO) h 0 Tryz.isAgg27 Tryz.sizeOf27 ?_)))))
 obtain⟨ai,J⟩:∃ q,fH a.aT.aO=q:=⟨_,rfl⟩
 obtain⟨dL,aO,cO,aQ,cZ⟩:=zt h
 refine cl Tryz.call86 (jb _ _ a.aT.aO ai aO J) ?_
 rintro _ dN ⟨rfl,aR⟩
 have aj:=aQ _ _ aR
 refine Kz (.bool (decide (ai=0))) (Mz rfl ?_)
 by_cases n:ai=0
 refine Gz (.pointer (some ⟨f,10,none⟩)) (dT n) (Ga (bI.cells a.aZ) (dT n) aj 0 Tryz.isAgg27 Tryz.sizeOf27 ?_)
 obtain⟨P,V⟩:∃ q,fH a.aZ=q:=⟨_,rfl⟩
 obtain⟨dO,aS,df,aT,dh⟩:=zt aj
 refine mg (dT n) Tryz.call86 (jb _ _ a.aZ P aS V) ?_
 rintro _ dQ ⟨rfl,aU⟩
 have bL:=aT _ _ aU
 refine Gz (.bool (decide (P=0))) (dT n) (fw (.bool (decide (P=0))) (zf rfl (dT n) rfl) (An rfl (rt (rs ?_))))
 have bN:=bL.pk []
 obtain rfl:_=decide (P=0):=hr.symm.trans (et (iN b) (et (ip k) (et (ip I) (et (ae J) (et (ip n) (ae V))))))
 exact⟨rfl,bN⟩
 refine Sz (dF n) (Sz (dF n) (Sz (dF n) (Sz (dF n) (fw (.bool false) (zh rfl (dF n) rfl) (An rfl (rt (rs ?_)))))))
 have aV:=aj.pk []
 obtain rfl:_=false:=hr.symm.trans (et (iN b) (et (ip k) (et (ip I) (et (ae J) (iN n)))))
 exact⟨rfl,aV⟩
 refine jT (dT I) (sr (An rfl (rt (tR (rs ?_)))))
 have aX:=h.pk []
 obtain rfl:_=false:=hr.symm.trans (et (iN b) (et (ip k) (iN I)))
 exact⟨rfl,aX⟩
 refine Sz (dF k) (Sz (dF k) (Sz (dF k) (Sz (dF k) (gw (.bool false) rfl (zh rfl (dF k) rfl) (fw (.bool false) (zh rfl rfl rfl) (nt (jf (sk (sr (Kz (.pointer (some ⟨f,12,none⟩)) (Kz (.pointer (some ⟨f,15,none⟩)) (La (bI.cells a.aT.aO) h 0 Tryz.isAgg27 Tryz.sizeOf27 ?_))))))))))))
 obtain⟨K,z⟩:∃ q,fH a.aT.aO=q:=⟨_,rfl⟩
 obtain⟨di,ak,bO,au,bR⟩:=zt h
 refine cl Tryz.call86 (jb _ _ a.aT.aO K ak z) ?_
 rintro _ dm ⟨rfl,av⟩
 have L:=au _ _ av
 refine Kz (.bool (decide (K=0))) (Mz rfl ?_)
 by_cases g:K=0
 refine Gz (.pointer (some ⟨f,10,none⟩)) (dT g) (Ga (bI.cells a.aZ) (dT g) L 0 Tryz.isAgg27 Tryz.sizeOf27 ?_)
 obtain⟨B,M⟩:∃ q,fH a.aZ=q:=⟨_,rfl⟩
 obtain⟨dn,ax,bT,ay,bU⟩:=zt L
 refine mg (dT g) Tryz.call86 (jb _ _ a.aZ B ax M) ?_
 rintro _ dw ⟨rfl,az⟩
 have aY:=ay _ _ az
 refine Gz (.bool (decide (B=0))) (dT g) (fw (.bool (decide (B=0))) (zf rfl (dT g) rfl) (An rfl (rt (rs ?_))))
 have aZ:=aY.pk []
 obtain rfl:_=decide (B=0):=hr.symm.trans (et (iN b) (et (iN k) (et (ae z) (et (ip g) (ae M)))))
 exact⟨rfl,aZ⟩
 refine Sz (dF g) (Sz (dF g) (Sz (dF g) (Sz (dF g) (fw (.bool false) (zh rfl (dF g) rfl) (An rfl (rt (rs ?_)))))))
 have bg:=L.pk []
 obtain rfl:_=false:=hr.symm.trans (et (iN b) (et (iN k) (et (ae z) (iN g))))
 exact⟨rfl,bg⟩
def bY (a:Bool):Int:=
 if a=true then 0 else 1
theorem gW (w:World) (D:Nat→Prop) (b:Bool) (e:Int) (H:Own w D w []) (hr:bY b=e):
    Calls Tryz.prog 37 #[.bool b] w (dE fun v w'=>v= .int .i64 e∧Own w D w' []):=by
 refine zg (args:= [.bool b]) Tryz.func37 rfl rfl rfl ?_
 show Wp _ _ _ [(0, .bool b)] _ _
 refine sr (An rfl (ze (sr (Mz rfl (Kz (.bool (!b)) (nt ?_))))))
 rcases Cf (b) with a | a
 refine jF (cn a) (sk (sr (An rfl (rt (rs ?_)))))
 have c:Own w D w []:=H.pk []
 obtain rfl:_=0:=hr.symm.trans (ip a)
 exact⟨rfl,c⟩
 refine jT (cn a) (sr (An rfl (rt (tR (rs ?_)))))
 have d:Own w D w []:=H.pk []
 obtain rfl:_=1:=hr.symm.trans (jV a)
 exact⟨rfl,d⟩
def bG (i:bP):Int:=
 bnd (dh i.iw 4) fun b=>if b=true then bnd (iK i.ag.ls) fun c=>if c=0 then bnd (j4 i) fun d=>if d=true then bnd (kN i) fun e=>bnd (bY e) fun f=>f else bnd (bY false) fun g=>g else bnd (bY false) fun h=>h else bnd (bY false) fun a=>a
set_option maxHeartbeats 1000000 in
theorem kv (w:World) (D:Nat→Prop) (a:bP) (d:Option Addr) (F b:Nat) (h:Option Addr) (G e:Nat) (m:List aP) (i:Option Addr) (I f:Nat) (r0:Int) (H:Own w D w []) (O:F=a.ag.ls.length) (o:Ro w D fun w'=>bn w' 2 d a.ag.ls.length (List.flatMap aH.cells a.ag.ls)) (aV:a.ag.ls.length≤b∧a.ag.ls.length≤9223372036854775807) (p:List.map zV m=a.aD.ls) (P:G=a.aD.ls.length) (u:Ro w D fun w'=>bn w' 2 h a.aD.ls.length (List.flatMap aP.cells m)) (aX:a.aD.ls.length≤e∧a.aD.ls.length≤9223372036854775807) (j:∀ x ∈ m,Ro w D (fun w'=>bn w' 6 x.aL.A x.aL.ls.length (List.flatMap aW.cells x.aL.ls))∧(x.aL.ls.length≤x.aL.c∧x.aL.ls.length≤9223372036854775807)) (Q:I=a.aj.ls.length) (y:Ro w D fun w'=>bn w' 1 i a.aj.ls.length (List.flatMap (eN .u64) a.aj.ls)) (aY:a.aj.ls.length≤f∧a.aj.ls.length≤9223372036854775807) (bU:a.ag.ls.length≤140737488355328∧a.aD.ls.length≤140737488355328∧a.aj.ls.length≤140737488355328) (hr:bG a=r0):
    Calls Tryz.prog 11 #[.agg (bM a.iw a.au a.aY a.aK a.bg d F b h G e i I f a.gU a.cu a.aZ.aJ a.aZ.aN a.aT.bg a.aT.bv a.aT.cz a.aT.aO.aJ a.aT.aO.aN).toArray] w (dE fun v w'=>v= .int .i64 r0∧Own w D w' []):=by
 subst O P Q
 have hdl0x1:=bS p
 refine zg (args:= [.agg (bQ a d b h e i f).toArray]) Tryz.func11 rfl rfl rfl ?_
 show Wp _ _ _ [(0, .agg (bQ a d b h e i f).toArray)] _ _
 refine sr ?_
 refine dC (bQ a d b h e i f) 31 H ?_
 intro Y bV Z
 refine Ar rfl (Kz (.pointer (some ⟨Y,0,none⟩)) (Lz (.int .i64 a.iw) Z 0 Tryz.isAgg3 ?_))
 obtain⟨aa,n⟩:∃ q,dh a.iw 4=q:=⟨_,rfl⟩
 obtain⟨bW,af,bC,ag,bD⟩:=zt Z
 refine cl Tryz.call38 (iD _ _ a.iw 4 aa af n) ?_
 rintro _ bX ⟨rfl,ah⟩
 have R:=ag _ _ ah
 refine Mz rfl ?_
 rcases Cf (aa) with g | g
 refine Gz (.pointer (some ⟨Y,5,none⟩)) g (Gl (.slice d a.ag.ls.length b) g R 0 Tryz.isAgg23 ?_)
 obtain⟨C,r⟩:∃ q,iK a.ag.ls=q:=⟨_,rfl⟩
 obtain⟨bZ,ai,aj,ak,bE⟩:=zt R
 refine Ap rfl rfl g rfl (zI Tryz.call39 rfl (nC _ _ d a.ag.ls.length b a.ag.ls C ai (aj _ o) rfl (by omega) r) ?_)
 rintro _ cu ⟨rfl,au⟩
 have S:=ak _ _ au
 refine Gz (.bool (decide (C=0))) g (fw (.bool (decide (C=0))) (zf rfl g rfl) (Mz rfl ?_))
 by_cases k:C=0
 refine Ga (bQ a d b h e i f) (dT k) S 0 Tryz.isAgg31 Tryz.sizeOf31 ?_
 obtain⟨T,z⟩:∃ q,j4 a=q:=⟨_,rfl⟩
 obtain⟨cz,av,s,ax,bF⟩:=zt S
 refine mg (decide_eq_true k) Tryz.call40 (o5 _ _ a d a.ag.ls.length b h a.aD.ls.length e m i a.aj.ls.length f T av rfl (s _ o) (show a.ag.ls.length≤b∧a.ag.ls.length≤9223372036854775807 from by omega) p rfl (s _ u) (show a.aD.ls.length≤e∧a.aD.ls.length≤9223372036854775807 from by omega) (fun x9 h9=>⟨s _ (j x9 h9).1,(j x9 h9).2⟩) rfl (s _ y) (show a.aj.ls.length≤f∧a.aj.ls.length≤9223372036854775807 from by omega) (by first | omega | (dsimp only; omega) | (simp only [List.length_nil]; omega) | decide) z) ?_
 rintro _ cB ⟨rfl,aA⟩
 have U:=ax _ _ aA
 refine fw (.bool T) (zf rfl (dT k) rfl) (Mz rfl ?_)
 rcases Cf (T) with l | l
 refine Ga (bQ a d b h e i f) l U 0 Tryz.isAgg31 Tryz.sizeOf31 ?_
 obtain⟨E,J⟩:∃ q,kN a=q:=⟨_,rfl⟩
 obtain⟨cK,aB,t,aC,bH⟩:=zt U
 refine Ap rfl rfl l rfl (zI Tryz.call41 rfl (o6 _ _ a d a.ag.ls.length b h a.aD.ls.length e m i a.aj.ls.length f E aB rfl (t _ o) (show a.ag.ls.length≤b∧a.ag.ls.length≤9223372036854775807 from by omega) p rfl (t _ u) (show a.aD.ls.length≤e∧a.aD.ls.length≤9223372036854775807 from by omega) (fun x9 h9=>⟨t _ (j x9 h9).1,(j x9 h9).2⟩) rfl (t _ y) (show a.aj.ls.length≤f∧a.aj.ls.length≤9223372036854775807 from by omega) (by first | omega | (dsimp only; omega) | (simp only [List.length_nil]; omega) | decide) J) ?_)
 rintro _ cO ⟨rfl,aD⟩
 have aZ:=aC _ _ aD
 refine fw (.bool E) (zf rfl l rfl) ?_
 obtain⟨aF,K⟩:∃ q,bY E=q:=⟨_,rfl⟩
 obtain⟨cZ,aG,bI,aI,bJ⟩:=zt aZ
 refine cl Tryz.call37 (gW _ _ E aF aG K) ?_
 rintro _ df ⟨rfl,aJ⟩
 have bf:=aI _ _ aJ
 refine An rfl (rt (rs ?_))
 have bg:=bf.pk []
 obtain rfl:_=aF:=hr.symm.trans (et (ae n) (et (ip g) (et (ae r) (et (ip k) (et (ae z) (et (ip l) (et (ae J) (ae K))))))))
 exact⟨rfl,bg⟩
 refine Sz l (Sz l (fw (.bool false) (zh rfl l rfl) ?_))
 obtain⟨aK,L⟩:∃ q,bY false=q:=⟨_,rfl⟩
 obtain⟨di,aL,bK,aM,bL⟩:=zt U
 refine cl Tryz.call37 (gW _ _ false aK aL L) ?_
 rintro _ dm ⟨rfl,aN⟩
 have bi:=aM _ _ aN
 refine An rfl (rt (rs ?_))
 have bq:=bi.pk []
 obtain rfl:_=aK:=hr.symm.trans (et (ae n) (et (ip g) (et (ae r) (et (ip k) (et (ae z) (et (jV l) (ae L)))))))
 exact⟨rfl,bq⟩
 refine Sz (dF k) (Sz (dF k) (fw (.bool false) (zh rfl (dF k) rfl) (Mz rfl (Sz rfl (Sz rfl (fw (.bool false) (zh rfl rfl rfl) ?_))))))
 obtain⟨aO,M⟩:∃ q,bY false=q:=⟨_,rfl⟩
 obtain⟨dn,aQ,bN,aR,bO⟩:=zt S
 refine cl Tryz.call37 (gW _ _ false aO aQ M) ?_
 rintro _ dw ⟨rfl,aS⟩
 have bu:=aR _ _ aS
 refine An rfl (rt (rs ?_))
 have bv:=bu.pk []
 obtain rfl:_=aO:=hr.symm.trans (et (ae n) (et (ip g) (et (ae r) (et (iN k) (ae M)))))
 exact⟨rfl,bv⟩
 refine Sz g (Sz g (Sz g (Sz g (fw (.bool false) (zh rfl g rfl) (Mz rfl (Sz rfl (Sz rfl (fw (.bool false) (zh rfl rfl rfl) (Mz rfl (Sz rfl (Sz rfl (fw (.bool false) (zh rfl rfl rfl) ?_))))))))))))
 obtain⟨N,B⟩:∃ q,bY false=q:=⟨_,rfl⟩
 obtain⟨bR,V,bz,W,bA⟩:=zt R
 refine cl Tryz.call37 (gW _ _ false N V B) ?_
 rintro _ bT ⟨rfl,X⟩
 have aT:=W _ _ X
 refine An rfl (rt (rs ?_))
 have aU:=aT.pk []
 obtain rfl:_=N:=hr.symm.trans (et (ae n) (et (jV g) (ae B)))
 exact⟨rfl,aU⟩
def gu (c:bK):List aH→Unit ⊕ Bool
  | []=>Sum.inl ()
  | a::b=>if a.fI > c.af then Sum.inr (false) else gu c b
def jO (b:bK):Bool:=
 bnd (iK b.ag.ls) fun a=>if a=0 then lp (gu b b.ag.ls) fun _=>true else false
set_option maxHeartbeats 1000000 in
theorem og (w:World) (D:Nat→Prop) (a:bK) (b:Option Addr) (E d:Nat) (g:Option Addr) (F h:Nat) (p:List ak) (j:Option Addr) (G k:Nat) (r:List aM) (r0:Bool) (H:Own w D w []) (K:E=a.ag.ls.length) (l:Ro w D fun w'=>bn w' 2 b a.ag.ls.length (List.flatMap aH.cells a.ag.ls)) (af:a.ag.ls.length≤d∧a.ag.ls.length≤9223372036854775807) (L:List.map zz p=a.ai.ls) (M:F=a.ai.ls.length) (ag:Ro w D fun w'=>bn w' 5 g a.ai.ls.length (List.flatMap ak.cells p)) (ah:a.ai.ls.length≤h∧a.ai.ls.length≤9223372036854775807) (ai:∀ x ∈ p,Ro w D (fun w'=>bn w' 1 x.af.A x.af.ls.length (List.flatMap (eI .i64) x.af.ls))∧(x.af.ls.length≤x.af.c∧x.af.ls.length≤9223372036854775807)) (N:List.map zM r=a.aG.ls) (O:G=a.aG.ls.length) (aj:Ro w D fun w'=>bn w' 4 j a.aG.ls.length (List.flatMap aM.cells r)) (au:a.aG.ls.length≤k∧a.aG.ls.length≤9223372036854775807) (av:∀ x ∈ r,Ro w D (fun w'=>bn w' 3 x.ah.A x.ah.ls.length (List.flatMap az.cells x.ah.ls))∧(x.ah.ls.length≤x.ah.c∧x.ah.ls.length≤9223372036854775807)∧(∀ Q ∈ x.ah.ls,Ro w D (fun w'=>bn w' 2 Q.ax.A Q.ax.ls.length (List.flatMap bu.cells Q.ax.ls))∧(Q.ax.ls.length≤Q.ax.c∧Q.ax.ls.length≤9223372036854775807))) (aK:a.ag.ls.length≤140737488355328∧a.ai.ls.length≤140737488355328∧a.aG.ls.length≤140737488355328) (hr:jO a=r0):
    Calls Tryz.prog 45 #[.agg #[.int .i64 a.af, .int .u64 ((a.au:Nat):Int), .int .u64 ((a.aY:Nat):Int), .int .u64 ((a.aK:Nat):Int), .slice b E d, .slice g F h, .slice j G k]] w (dE fun v w'=>v= .bool r0∧Own w D w' []):=by
 subst K M O
 have hdl0x1:=bS L
 have hdl0x2:=bS N
 refine zg (args:= [.agg #[.int .i64 a.af, .int .u64 ((a.au:Nat):Int), .int .u64 ((a.aY:Nat):Int), .int .u64 ((a.aK:Nat):Int), .slice b a.ag.ls.length d, .slice g a.ai.ls.length h, .slice j a.aG.ls.length k]]) Tryz.func45 rfl rfl rfl ?_
 show Wp _ _ _ [(0, .agg #[.int .i64 a.af, .int .u64 ((a.au:Nat):Int), .int .u64 ((a.aY:Nat):Int), .int .u64 ((a.aK:Nat):Int), .slice b a.ag.ls.length d, .slice g a.ai.ls.length h, .slice j a.aG.ls.length k])] _ _
 refine sr ?_
 refine dC [.int .i64 a.af, .int .u64 ((a.au:Nat):Int), .int .u64 ((a.aY:Nat):Int), .int .u64 ((a.aK:Nat):Int), .slice b a.ag.ls.length d, .slice g a.ai.ls.length h, .slice j a.aG.ls.length k] 35 H ?_
 intro m aL R
 refine An rfl (ze (sr (Kz (.pointer (some ⟨m,4,none⟩)) (Lz (.slice b a.ag.ls.length d) R 0 Tryz.isAgg23 ?_))))
 obtain⟨z,n⟩:∃ q,iK a.ag.ls=q:=⟨_,rfl⟩
 obtain⟨aN,S,T,U,aI⟩:=zt R
 refine cl Tryz.call39 (nC _ _ b a.ag.ls.length d a.ag.ls z S (T _ l) rfl (by omega) n) ?_
 rintro _ aO ⟨rfl,V⟩
 have P:=U _ _ V
 refine fw (.bool (decide (¬ (z=0)))) (zF (e:= !(decide (z=0))) yk decide_not.symm) (nt ?_)
 by_cases s:z=0
 refine jF (dF (Ce s)) (sk (ze (sr (Kz (.pointer (some ⟨m,4,none⟩)) (Lz (.slice b a.ag.ls.length d) P 0 Tryz.isAgg23 (Kz (.int .i64 ((a.ag.ls.length:Nat):Int)) (Mn rfl (bo ?_))))))))
 have ax:=P.pk [0]
 obtain⟨W,X⟩:∃ q:Nat→World→Prop,q=fun(i:Nat) w'=>Own w D w' [blk m [.int .i64 a.af, .int .u64 ((a.au:Nat):Int), .int .u64 ((a.aY:Nat):Int), .int .u64 ((a.aK:Nat):Int), .slice b a.ag.ls.length d, .slice g a.ai.ls.length h, .slice j a.aG.ls.length k] 35]∧(i≤a.ag.ls.length∧gu a a.ag.ls=gu a (List.drop i a.ag.ls)):=⟨_,rfl⟩
 have t:∀ {f:Nat} {w':World},W f w'↔Own w D w' [blk m [.int .i64 a.af, .int .u64 ((a.au:Nat):Int), .int .u64 ((a.aY:Nat):Int), .int .u64 ((a.aK:Nat):Int), .slice b a.ag.ls.length d, .slice g a.ai.ls.length h, .slice j a.aG.ls.length k] 35]∧f≤a.ag.ls.length∧gu a a.ag.ls=gu a (List.drop f a.ag.ls):=by intros; subst X; exact Iff.rfl
 refine Wp.loop (fun i:Nat=> [(2, .bool false),(12, .int .i64 ((i:Nat):Int)),(11, .int .i64 ((a.ag.ls.length:Nat):Int)),(10, .slice b a.ag.ls.length d),(1, .pointer (some ⟨m,0,none⟩))]) W (fun i=>a.ag.ls.length - i) 0 ⟨rfl,rfl,rfl,rfl,rfl,trivial⟩ (t.2 ⟨ax,by omega,rfl⟩) ?_
 rintro f aP Y
 show Wp _ _ _ [(2, .bool false),(12, .int .i64 ((f:Nat):Int)),(11, .int .i64 ((a.ag.ls.length:Nat):Int)),(10, .slice b a.ag.ls.length d),(1, .pointer (some ⟨m,0,none⟩))] _ _
 obtain⟨u,aJ,y⟩:=t.1 Y
 refine sr (Kz (.bool (decide (((f:Nat):Int) < ((a.ag.ls.length:Nat):Int)))) (nt (ze ?_)))
 by_cases Z:((f:Nat):Int) < ((a.ag.ls.length:Nat):Int)
 obtain⟨o,I⟩:=eH (ls:=a.ag.ls) (i:=f) aH.len (by decide) (u.ro l) (by first | omega | (simp; done) | (simp; omega))
 have J:=drop_at I
 refine jT (dT Z) (sk (ze (bo (sr (fw (.pointer (some ⟨ab b,ao b+f *2,none⟩)) (zn (mF) rfl rfl ((u.ro l).addr (i:=f) (by omega)) (by omega)) (fw (.agg (aH.cells o).toArray) (zi rfl (zD (cs:=(aH.cells o)) Tryz.isAgg54 Tryz.sizeOf54 ((u.ro l).elem aH.len I (by decide)))) ?_))))))
 refine dC [.string ⟨List.toArray ([])⟩, .int .i64 0] 54 u ?_
 intro ay aQ aA
 refine df (aH.cells o) 0 aA Tryz.sizeOf54 ?_
 intro aR B
 refine ns (Kz (.pointer (some ⟨ay,1,none⟩)) (Lz (.int .i64 o.fI) B 0 Tryz.isAgg3 (Kz (.pointer (some ⟨m,0,none⟩)) (Lz (.int .i64 a.af) B 1 Tryz.isAgg3 (Kz (.bool (decide (o.fI > a.af))) (nt ?_))))))
 by_cases C:o.fI > a.af
 refine jT (dT C) (sr (An rfl (rt (bR (tR (tR (bR (tR (rs ?_)))))))))
 have aB:=B.pk []
 obtain rfl:_=false:=hr.symm.trans (et (ae n) (et (ip s) (fE (et (y) (et (congrArg (fun q=>gu a q) J) (ip C))))))
 exact⟨rfl,aB⟩
 refine jF (dF C) (zS (bN (zu (zb (fw (.int .i64 ((f+1:Nat):Int)) (zy (e:=IntKind.i64.wrap (((f:Nat):Int)+1)) yk (by rw [Cb _ (by omega)]; omega)) (Mz rfl (zq ?_)))))))
 have aC:=B.pk [1]
 exact zH (f+1) ⟨rfl,rfl,rfl,rfl,rfl,trivial⟩ (t.2 ⟨aC,by omega,et (y) (et (congrArg (fun q=>gu a q) J) (iN C))⟩) (by show a.ag.ls.length - (f+1) < a.ag.ls.length - f; omega)
 refine jF (dF Z) (Wp.exit (zk ?_))
 have aa:gu a a.ag.ls=Sum.inl ():=et (y) (et (congrArg (fun q=>gu a q) (eF (ls:=a.ag.ls) (i:=f) (by omega))) rfl)
 refine zk (zA (zu (sr (An rfl (rt (rs ?_))))))
 have aD:=u.pk []
 obtain rfl:_=true:=hr.symm.trans (et (ae n) (et (ip s) (gL aa)))
 exact⟨rfl,aD⟩
 refine jT (dT s) (sr (An rfl (rt (tR (rs ?_)))))
 have aF:=P.pk []
 obtain rfl:_=false:=hr.symm.trans (et (ae n) (iN s))
 exact⟨rfl,aF⟩
def bz (h:bK) (d:Nat) (b:bO):List Int→Nat→Unit ⊕ Bool
  | [],a=>Sum.inl ()
  | e::f,a=>bnd (dh e h.af) fun g=>if g=true then if((a:Nat):Int) > 0 then bnd (List.getD b.af.ls (a - 1) default) fun c=>if e≤c then Sum.inr (false) else bz h d b f (a+1) else bz h d b f (a+1) else Sum.inr (false)
def dI (h:bK) (g:Nat) (d:bO):List Int→Nat→Unit ⊕ Bool
  | [],a=>Sum.inl ()
  | b::c,a=>bnd (dh b h.af) fun e=>if e=true then if((a:Nat):Int) > 0 then bnd (List.getD d.af.ls (a - 1) default) fun f=>if b≤f then Sum.inr (false) else dI h g d c (a+1) else dI h g d c (a+1) else Sum.inr (false)
def bA (c:bK):List bO→Nat→Unit ⊕ Bool
  | [],b=>Sum.inl ()
  | a::e,b=>if((b:Nat):Int) > 0 then bnd (List.getD c.ai.ls (b - 1) default) fun f=>if((a.aS:Nat):Int)≤((f.aS:Nat):Int) then Sum.inr (false) else if((a.aS:Nat):Int) ≥ ((fZ (Int.toNat (IntKind.u64.wrap (((c.au:Nat):Int)+1))) 32:Nat):Int) then Sum.inr (false) else bnd (dh a.aC 4) fun g=>if g=true then if((a.af.ls.length:Nat):Int)=0 then Sum.inr (false) else kQ (bz c b a a.af.ls 0) fun _=>bA c e (b+1) else Sum.inr (false) else if((a.aS:Nat):Int) ≥ ((fZ (Int.toNat (IntKind.u64.wrap (((c.au:Nat):Int)+1))) 32:Nat):Int) then Sum.inr (false) else bnd (dh a.aC 4) fun d=>if d=true then if((a.af.ls.length:Nat):Int)=0 then Sum.inr (false) else kQ (dI c b a a.af.ls 0) fun _=>bA c e (b+1) else Sum.inr (false)
def jM (a:bK):Bool:=
 if((a.ai.ls.length:Nat):Int) > 8 then false else lp (bA a a.ai.ls 0) fun _=>true
set_option maxHeartbeats 1000000 in
theorem nS (w:World) (D:Nat→Prop) (d:bK) (E:Option Addr) (aY F:Nat) (f:Option Addr) (aZ l:Nat) (ai:List ak) (G:Option Addr) (bg I:Nat) (aR:List aM) (r0:Bool) (H:Own w D w []) (bB:aY=d.ag.ls.length) (dW:Ro w D fun w'=>bn w' 2 E d.ag.ls.length (List.flatMap aH.cells d.ag.ls)) (dX:d.ag.ls.length≤F∧d.ag.ls.length≤9223372036854775807) (aD:List.map zz ai=d.ai.ls) (bC:aZ=d.ai.ls.length) (S:Ro w D fun w'=>bn w' 5 f d.ai.ls.length (List.flatMap ak.cells ai)) (dY:d.ai.ls.length≤l∧d.ai.ls.length≤9223372036854775807) (p:∀ x ∈ ai,Ro w D (fun w'=>bn w' 1 x.af.A x.af.ls.length (List.flatMap (eI .i64) x.af.ls))∧(x.af.ls.length≤x.af.c∧x.af.ls.length≤9223372036854775807)) (bD:List.map zM aR=d.aG.ls) (bE:bg=d.aG.ls.length) (dZ:Ro w D fun w'=>bn w' 4 G d.aG.ls.length (List.flatMap aM.cells aR)) (d9:d.aG.ls.length≤I∧d.aG.ls.length≤9223372036854775807) (ed:∀ x ∈ aR,Ro w D (fun w'=>bn w' 3 x.ah.A x.ah.ls.length (List.flatMap az.cells x.ah.ls))∧(x.ah.ls.length≤x.ah.c∧x.ah.ls.length≤9223372036854775807)∧(∀ y1 ∈ x.ah.ls,Ro w D (fun w'=>bn w' 2 y1.ax.A y1.ax.ls.length (List.flatMap bu.cells y1.ax.ls))∧(y1.ax.ls.length≤y1.ax.c∧y1.ax.ls.length≤9223372036854775807))) (fQ:d.ag.ls.length≤140737488355328∧d.ai.ls.length≤140737488355328∧d.aG.ls.length≤140737488355328) (hr:jM d=r0):
    Calls Tryz.prog 46 #[.agg #[.int .i64 d.af, .int .u64 ((d.au:Nat):Int), .int .u64 ((d.aY:Nat):Int), .int .u64 ((d.aK:Nat):Int), .slice E aY F, .slice f aZ l, .slice G bg I]] w (dE fun v w'=>v= .bool r0∧Own w D w' []):=by
 subst bB bC bE
 have hdl0x1:=bS aD
 have hdl0x2:=bS bD
 refine zg (args:= [.agg #[.int .i64 d.af, .int .u64 ((d.au:Nat):Int), .int .u64 ((d.aY:Nat):Int), .int .u64 ((d.aK:Nat):Int), .slice E d.ag.ls.length F, .slice f d.ai.ls.length l, .slice G d.aG.ls.length I]]) Tryz.func46 rfl rfl rfl ?_
 show Wp _ _ _ [(0, .agg #[.int .i64 d.af, .int .u64 ((d.au:Nat):Int), .int .u64 ((d.aY:Nat):Int), .int .u64 ((d.aK:Nat):Int), .slice E d.ag.ls.length F, .slice f d.ai.ls.length l, .slice G d.aG.ls.length I])] _ _
 refine sr ?_
 refine dC [.int .i64 d.af, .int .u64 ((d.au:Nat):Int), .int .u64 ((d.aY:Nat):Int), .int .u64 ((d.aK:Nat):Int), .slice E d.ag.ls.length F, .slice f d.ai.ls.length l, .slice G d.aG.ls.length I] 35 H ?_
 intro r fT aX
 refine An rfl (ze (sr (Kz (.pointer (some ⟨r,5,none⟩)) (Lz (.slice f d.ai.ls.length l) aX 0 Tryz.isAgg32 (Kz (.int .i64 ((d.ai.ls.length:Nat):Int)) (Kz (.bool (decide (((d.ai.ls.length:Nat):Int) > 8))) (nt ?_)))))))
 by_cases L:((d.ai.ls.length:Nat):Int) > 8
 refine jT (dT L) (sr (An rfl (rt (tR (rs ?_)))))
 have ek:=aX.pk []
 obtain rfl:_=false:=hr.symm.trans (ip L)
 exact⟨rfl,ek⟩
 refine jF (dF L) (sk (ze (sr (Kz (.pointer (some ⟨r,5,none⟩)) (Lz (.slice f d.ai.ls.length l) aX 0 Tryz.isAgg32 (Kz (.int .i64 ((d.ai.ls.length:Nat):Int)) (Mn rfl (bo ?_))))))))
 have eu:=aX.pk [0]
 obtain⟨bX,bY⟩:∃ q:Nat→World→Prop,q=fun(i:Nat) w'=>Own w D w' [blk r [.int .i64 d.af, .int .u64 ((d.au:Nat):Int), .int .u64 ((d.aY:Nat):Int), .int .u64 ((d.aK:Nat):Int), .slice E d.ag.ls.length F, .slice f d.ai.ls.length l, .slice G d.aG.ls.length I] 35]∧(i≤d.ai.ls.length∧bA d d.ai.ls 0=bA d (List.drop i d.ai.ls) i):=⟨_,rfl⟩
 have aJ:∀ {b:Nat} {w':World},bX b w'↔Own w D w' [blk r [.int .i64 d.af, .int .u64 ((d.au:Nat):Int), .int .u64 ((d.aY:Nat):Int), .int .u64 ((d.aK:Nat):Int), .slice E d.ag.ls.length F, .slice f d.ai.ls.length l, .slice G d.aG.ls.length I] 35]∧b≤d.ai.ls.length∧bA d d.ai.ls 0=bA d (List.drop b d.ai.ls) b:=by intros; subst bY; exact Iff.rfl
 refine Wp.loop (fun i:Nat=> [(2, .bool false),(14, .int .i64 ((i:Nat):Int)),(13, .int .i64 ((d.ai.ls.length:Nat):Int)),(12, .slice f d.ai.ls.length l),(1, .pointer (some ⟨r,0,none⟩))]) bX (fun i=>d.ai.ls.length - i) 0 ⟨rfl,rfl,rfl,rfl,rfl,trivial⟩ (aJ.2 ⟨eu,by omega,rfl⟩) ?_
 rintro b fU bZ
 show Wp _ _ _ [(2, .bool false),(14, .int .i64 ((b:Nat):Int)),(13, .int .i64 ((d.ai.ls.length:Nat):Int)),(12, .slice f d.ai.ls.length l),(1, .pointer (some ⟨r,0,none⟩))] _ _
 obtain⟨aS,fu,z⟩:=aJ.1 bZ
 refine sr (Kz (.bool (decide (((b:Nat):Int) < ((d.ai.ls.length:Nat):Int)))) (nt (ze ?_)))
 by_cases cu:((b:Nat):Int) < ((d.ai.ls.length:Nat):Int)
 obtain⟨a,u⟩:=eH (ls:=ai) (i:=b) ak.len (by decide) (aS.ro S) (by first | omega | (simp; done) | (simp; omega))
 have cz:=iY aD u
 have fA:=(p _ (List.mem_of_getElem? u)).2
 have C:=drop_at cz
 refine jT (dT cu) (sk (ze (bo (sr (Mz rfl (fw (.pointer (some ⟨ab f,ao f+b *5,none⟩)) (zn (qE) rfl rfl ((aS.ro S).addr (i:=b) (by omega)) (by omega)) (fw (.agg (ak.cells a).toArray) (zi rfl (zD (cs:=(ak.cells a)) Tryz.isAgg79 Tryz.sizeOf79 ((aS.ro S).elem ak.len u (by decide)))) ?_)))))))
 refine dC [.int .u64 0, .int .i64 0, .int .u64 0, .int .u64 0, .slice none 0 0] 79 aS ?_
 intro h fV eB
 refine Az rfl ?_
 refine df (ak.cells a) 0 eB Tryz.sizeOf79 ?_
 intro eD eG
 refine nt (ze (ze ?_))
 have X:=eG.drew
 refine zX [] (fun W=> ∃ L',Own w D W ([blk h (ak.cells a) 79,blk r [.int .i64 d.af, .int .u64 ((d.au:Nat):Int), .int .u64 ((d.aY:Nat):Int), .int .u64 ((d.aK:Nat):Int), .slice E d.ag.ls.length F, .slice f d.ai.ls.length l, .slice G d.aG.ls.length I] 35]++L')) (by kernel_rfl) (by kernel_rfl) (zG (zG (cK.block (zG (zG (cK.block (zG z8))))))) ⟨_,X⟩ ?_
 revert X
 generalize World.drew eD=gm
 intro X
 refine GX.take (v:= .int .i64 ((b:Nat):Int)) (rs:= []) 0 rfl (by kernel_rfl) (fun _ _=>zo rfl) (GX.take (v:= .bool (decide (((b:Nat):Int) > 0))) (rs:= []) 1 rfl (by kernel_rfl) (fun _ _=>yk) (GX.take (v:= .bool (decide (((b:Nat):Int) > 0))) (rs:= []) 2 rfl (by kernel_rfl) (fun _ _=>zo rfl) ?_))
 by_cases n:((b:Nat):Int) > 0
 refine zl (v:= .pointer (some ⟨h,0,none⟩)) (rs:= []) 3 rfl rfl rfl (dT n) (by kernel_rfl) (fun _ _=>yk) (zl (v:= .int .u64 ((a.aS:Nat):Int)) (rs:= []) 4 rfl rfl rfl (dT n) (by kernel_rfl) (fun _ ⟨_,H9⟩=>zi rfl (bf.one Tryz.isAgg22 (zJ (H9.cls (i:=0) rfl) rfl))) (zl (v:= .pointer (some ⟨r,5,none⟩)) (rs:= []) 5 rfl rfl rfl (dT n) (by kernel_rfl) (fun _ _=>yk) (zl (v:= .slice f d.ai.ls.length l) (rs:= []) 6 rfl rfl rfl (dT n) (by kernel_rfl) (fun _ ⟨_,H9⟩=>zi rfl (bf.one Tryz.isAgg32 (zJ (H9.cls (i:=1) rfl) rfl))) (zl (v:= .int .i64 ((b:Nat):Int)) (rs:= []) 7 rfl rfl rfl (dT n) (by kernel_rfl) (fun _ _=>zo rfl) (zl (v:= .int .i64 ((b - 1:Nat):Int)) (rs:= []) 8 rfl rfl rfl (dT n) (by kernel_rfl) (fun _ _=>zy (e:=IntKind.i64.wrap (((b:Nat):Int) - 1)) yk (by rw [Cb _ (by omega)]; omega)) ?_)))))
 obtain⟨N,aT⟩:=lC (ls:=ai) (i:=b - 1) (by first | omega | (simp; done) | (simp; omega))
 have T:=iY aD aT
 have fB:=(p _ (List.mem_of_getElem? aT)).2
 refine zl (v:= .pointer (some ⟨ab f,ao f+(b - 1) *5,none⟩)) (rs:= []) 9 rfl rfl rfl (dT n) (by kernel_rfl) (fun _ ⟨_,H9⟩=>zn (qE) rfl rfl ((H9.ro S).addr (i:=b - 1) (by omega)) (by omega)) (zl (v:= .pointer (some ⟨ab f,ao f+(b - 1) *5,none⟩)) (rs:= []) 10 rfl rfl rfl (dT n) (by kernel_rfl) (fun _ _=>yk) (zl (v:= .int .u64 ((N.aS:Nat):Int)) (rs:= []) 11 rfl rfl rfl (dT n) (by kernel_rfl) (fun _ ⟨_,H9⟩=>zi rfl (bf.one Tryz.isAgg22 (((H9.ro S).elem ak.len aT (by decide)).at_ (k:=0) rfl))) (zl (v:= .bool (decide (((a.aS:Nat):Int)≤((N.aS:Nat):Int)))) (rs:= []) 12 rfl rfl rfl (dT n) (by kernel_rfl) (fun _ _=>yk) (GX.take (v:= .bool (decide (((a.aS:Nat):Int)≤((N.aS:Nat):Int)))) (rs:= []) 13 rfl (by kernel_rfl) (fun _ _=>zf rfl (dT n) rfl) (GX.take (v:= .bool (decide (((a.aS:Nat):Int)≤((N.aS:Nat):Int)))) (rs:= []) 14 rfl (by kernel_rfl) (fun _ _=>zo rfl) ?_)))))
 by_cases y:((a.aS:Nat):Int)≤((N.aS:Nat):Int)
 refine zw (rs:= []) 15 rfl rfl rfl (dT y) (by kernel_rfl) (zw (rs:= []) 16 rfl rfl rfl (dT y) (by kernel_rfl) (zw (rs:= []) 17 rfl rfl rfl (dT y) (by kernel_rfl) (zw (rs:= []) 18 rfl rfl rfl (dT y) (by kernel_rfl) (zw (rs:= []) 19 rfl rfl rfl (dT y) (by kernel_rfl) (zw (rs:= []) 20 rfl rfl rfl (dT y) (by kernel_rfl) (zw (rs:= []) 21 rfl rfl rfl (dT y) (by kernel_rfl) (GX.take (v:= .bool true) (rs:= []) 22 rfl (by kernel_rfl) (fun _ _=>zf rfl (dT y) rfl) (zT (by kernel_rfl) (zu (jt (sr (An rfl (rt (tR (bR (tR (tR (bR (tR (rs ?_))))))))))))))))))))
 have eO:=X.pk []
 obtain rfl:_=false:=hr.symm.trans (et (iN L) (fE (et (z) (et (congrArg (fun q=>bA d q b) C) (et (ip n) (et (ae (bJ T)) (ip y)))))))
 exact⟨rfl,eO⟩
 refine zl (v:= .pointer (some ⟨h,0,none⟩)) (rs:= []) 15 rfl rfl rfl (dF y) (by kernel_rfl) (fun _ _=>yk) (zl (v:= .int .u64 ((a.aS:Nat):Int)) (rs:= []) 16 rfl rfl rfl (dF y) (by kernel_rfl) (fun _ ⟨_,H9⟩=>zi rfl (bf.one Tryz.isAgg22 (zJ (H9.cls (i:=0) rfl) rfl))) (zl (v:= .pointer (some ⟨r,1,none⟩)) (rs:= []) 17 rfl rfl rfl (dF y) (by kernel_rfl) (fun _ _=>yk) (zl (v:= .int .u64 ((d.au:Nat):Int)) (rs:= []) 18 rfl rfl rfl (dF y) (by kernel_rfl) (fun _ ⟨_,H9⟩=>zi rfl (bf.one Tryz.isAgg22 (zJ (H9.cls (i:=1) rfl) rfl))) (zl (v:= .int .u64 ((Int.toNat (IntKind.u64.wrap (((d.au:Nat):Int)+1)):Nat):Int)) (rs:= []) 19 rfl rfl rfl (dF y) (by kernel_rfl) (fun _ _=>zy (e:=IntKind.u64.wrap (((d.au:Nat):Int)+1)) yk (gI _)) ?_))))
 have fC:fZ (Int.toNat (IntKind.u64.wrap (((d.au:Nat):Int)+1))) 32≤18446744073709551615:=oz _ _
 refine zl (v:= .int .u64 ((fZ (Int.toNat (IntKind.u64.wrap (((d.au:Nat):Int)+1))) 32:Nat):Int)) (rs:= []) 20 rfl rfl rfl (dF y) (by kernel_rfl) (fun _ _=>zy (A7 (m:=32) rfl rfl) (gI _)) (zl (v:= .bool (decide (((a.aS:Nat):Int) ≥ ((fZ (Int.toNat (IntKind.u64.wrap (((d.au:Nat):Int)+1))) 32:Nat):Int)))) (rs:= []) 21 rfl rfl rfl (dF y) (by kernel_rfl) (fun _ _=>yk) (GX.take (v:= .bool (decide (((a.aS:Nat):Int) ≥ ((fZ (Int.toNat (IntKind.u64.wrap (((d.au:Nat):Int)+1))) 32:Nat):Int)))) (rs:= []) 22 rfl (by kernel_rfl) (fun _ _=>zh rfl (dF y) rfl) (zT (by kernel_rfl) (zu ?_))))
 by_cases aj:((a.aS:Nat):Int) ≥ ((fZ (Int.toNat (IntKind.u64.wrap (((d.au:Nat):Int)+1))) 32:Nat):Int)
 refine jT (dT aj) (sr (An rfl (rt (tR (bR (tR (tR (bR (tR (rs ?_))))))))))
 have eP:=X.pk []
 obtain rfl:_=false:=hr.symm.trans (et (iN L) (fE (et (z) (et (congrArg (fun q=>bA d q b) C) (et (ip n) (et (ae (bJ T)) (et (iN y) (ip aj))))))))
 exact⟨rfl,eP⟩
 refine jF (dF aj) (sk (ze (sr (Kz (.pointer (some ⟨h,1,none⟩)) (Lz (.int .i64 a.aC) X 0 Tryz.isAgg3 ?_)))))
 obtain⟨af,Y⟩:∃ q,dh a.aC 4=q:=⟨_,rfl⟩
 obtain⟨gp,cB,fD,cO,fF⟩:=zt X
 refine cl Tryz.call38 (iD _ _ a.aC 4 af cB Y) ?_
 rintro _ gq ⟨rfl,cZ⟩
 have aU:=cO _ _ cZ
 refine Kz (.bool (!af)) (Mz rfl ?_)
 rcases Cf (af) with K | K
 refine Gz (.pointer (some ⟨h,4,none⟩)) (cn K) (Gl (.slice a.af.A a.af.ls.length a.af.c) (cn K) aU 0 Tryz.isAgg77 (Gz (.int .i64 ((a.af.ls.length:Nat):Int)) (cn K) (Gz (.bool (decide (((a.af.ls.length:Nat):Int)=0))) (cn K) (fw (.bool (decide (((a.af.ls.length:Nat):Int)=0))) (zh rfl (cn K) rfl) (nt ?_)))))
 by_cases aP:((a.af.ls.length:Nat):Int)=0
 refine jT (dT aP) (sr (An rfl (rt (tR (bR (tR (tR (bR (tR (rs ?_))))))))))
 have eQ:=aU.pk []
 obtain rfl:_=false:=hr.symm.trans (et (iN L) (fE (et (z) (et (congrArg (fun q=>bA d q b) C) (et (ip n) (et (ae (bJ T)) (et (iN y) (et (iN aj) (et (ae Y) (et (ip K) (ip aP)))))))))))
 exact⟨rfl,eQ⟩
 refine jF (dF aP) (sk (sr (Kz (.pointer (some ⟨h,4,none⟩)) (Lz (.slice a.af.A a.af.ls.length a.af.c) aU 0 Tryz.isAgg77 (Kz (.int .i64 ((a.af.ls.length:Nat):Int)) (Mn rfl (bo ?_)))))))
 have eT:=aU.pk [0,1]
 obtain⟨di,dm⟩:∃ q:Nat→World→Prop,q=fun(i:Nat) w'=>Own w D w' [blk h (ak.cells a) 79,blk r [.int .i64 d.af, .int .u64 ((d.au:Nat):Int), .int .u64 ((d.aY:Nat):Int), .int .u64 ((d.aK:Nat):Int), .slice E d.ag.ls.length F, .slice f d.ai.ls.length l, .slice G d.aG.ls.length I] 35]∧(i≤a.af.ls.length∧bz d b (zz a) a.af.ls 0=bz d b (zz a) (List.drop i a.af.ls) i):=⟨_,rfl⟩
 have aK:∀ {j:Nat} {w':World},di j w'↔Own w D w' [blk h (ak.cells a) 79,blk r [.int .i64 d.af, .int .u64 ((d.au:Nat):Int), .int .u64 ((d.aY:Nat):Int), .int .u64 ((d.aK:Nat):Int), .slice E d.ag.ls.length F, .slice f d.ai.ls.length l, .slice G d.aG.ls.length I] 35]∧j≤a.af.ls.length∧bz d b (zz a) a.af.ls 0=bz d b (zz a) (List.drop j a.af.ls) j:=by intros; subst dm; exact Iff.rfl
 refine Wp.loop (fun i:Nat=> [(2, .bool false),(55, .int .i64 ((i:Nat):Int)),(54, .int .i64 ((a.af.ls.length:Nat):Int)),(53, .slice a.af.A a.af.ls.length a.af.c),(52, .pointer (some ⟨h,4,none⟩)),(51, .bool (decide (((a.af.ls.length:Nat):Int)=0))),(50, .bool (decide (((a.af.ls.length:Nat):Int)=0))),(49, .int .i64 ((a.af.ls.length:Nat):Int)),(48, .slice a.af.A a.af.ls.length a.af.c),(47, .pointer (some ⟨h,4,none⟩)),(46, .bool (!af)),(45, .bool (!af)),(44, .bool af),(43, .int .i64 a.aC),(42, .pointer (some ⟨h,1,none⟩)),(41, .bool (decide (((a.aS:Nat):Int) ≥ ((fZ (Int.toNat (IntKind.u64.wrap (((d.au:Nat):Int)+1))) 32:Nat):Int)))),(40, .bool (decide (((a.aS:Nat):Int) ≥ ((fZ (Int.toNat (IntKind.u64.wrap (((d.au:Nat):Int)+1))) 32:Nat):Int)))),(39, .int .u64 ((fZ (Int.toNat (IntKind.u64.wrap (((d.au:Nat):Int)+1))) 32:Nat):Int)),(38, .int .u64 ((Int.toNat (IntKind.u64.wrap (((d.au:Nat):Int)+1)):Nat):Int)),(37, .int .u64 ((d.au:Nat):Int)),(36, .pointer (some ⟨r,1,none⟩)),(35, .int .u64 ((a.aS:Nat):Int)),(34, .pointer (some ⟨h,0,none⟩)),(33, .bool (decide (((a.aS:Nat):Int)≤((N.aS:Nat):Int)))),(32, .bool (decide (((a.aS:Nat):Int)≤((N.aS:Nat):Int)))),(31, .bool (decide (((a.aS:Nat):Int)≤((N.aS:Nat):Int)))),(30, .int .u64 ((N.aS:Nat):Int)),(29, .pointer (some ⟨ab f,ao f+(b - 1) *5,none⟩)),(28, .pointer (some ⟨ab f,ao f+(b - 1) *5,none⟩)),(27, .int .i64 ((b - 1:Nat):Int)),(26, .int .i64 ((b:Nat):Int)),(25, .slice f d.ai.ls.length l),(24, .pointer (some ⟨r,5,none⟩)),(23, .int .u64 ((a.aS:Nat):Int)),(22, .pointer (some ⟨h,0,none⟩)),(21, .bool (decide (((b:Nat):Int) > 0))),(20, .bool (decide (((b:Nat):Int) > 0))),(19, .int .i64 ((b:Nat):Int)),(3, .int .i64 ((b:Nat):Int)),(4, .pointer (some ⟨h,0,none⟩)),(18, .agg (ak.cells a).toArray),(17, .pointer (some ⟨ab f,ao f+b *5,none⟩)),(16, .int .i64 ((b:Nat):Int)),(15, .bool (decide (((b:Nat):Int) < ((d.ai.ls.length:Nat):Int)))),(14, .int .i64 ((b:Nat):Int)),(13, .int .i64 ((d.ai.ls.length:Nat):Int)),(12, .slice f d.ai.ls.length l),(1, .pointer (some ⟨r,0,none⟩))]) di (fun i=>a.af.ls.length - i) 0 ⟨rfl,rfl,rfl,rfl,rfl,rfl,rfl,rfl,rfl,rfl,rfl,rfl,rfl,rfl,rfl,rfl,rfl,rfl,rfl,rfl,rfl,rfl,rfl,rfl,rfl,rfl,rfl,rfl,rfl,rfl,rfl,rfl,rfl,rfl,rfl,rfl,rfl,rfl,rfl,rfl,rfl,rfl,rfl,rfl,rfl,rfl,rfl,rfl,trivial⟩ (aK.2 ⟨eT,by omega,rfl⟩) ?_
 rintro j gu dn
 show Wp _ _ _ [(2, .bool false),(55, .int .i64 ((j:Nat):Int)),(54, .int .i64 ((a.af.ls.length:Nat):Int)),(53, .slice a.af.A a.af.ls.length a.af.c),(52, .pointer (some ⟨h,4,none⟩)),(51, .bool (decide (((a.af.ls.length:Nat):Int)=0))),(50, .bool (decide (((a.af.ls.length:Nat):Int)=0))),(49, .int .i64 ((a.af.ls.length:Nat):Int)),(48, .slice a.af.A a.af.ls.length a.af.c),(47, .pointer (some ⟨h,4,none⟩)),(46, .bool (!af)),(45, .bool (!af)),(44, .bool af),(43, .int .i64 a.aC),(42, .pointer (some ⟨h,1,none⟩)),(41, .bool (decide (((a.aS:Nat):Int) ≥ ((fZ (Int.toNat (IntKind.u64.wrap (((d.au:Nat):Int)+1))) 32:Nat):Int)))),(40, .bool (decide (((a.aS:Nat):Int) ≥ ((fZ (Int.toNat (IntKind.u64.wrap (((d.au:Nat):Int)+1))) 32:Nat):Int)))),(39, .int .u64 ((fZ (Int.toNat (IntKind.u64.wrap (((d.au:Nat):Int)+1))) 32:Nat):Int)),(38, .int .u64 ((Int.toNat (IntKind.u64.wrap (((d.au:Nat):Int)+1)):Nat):Int)),(37, .int .u64 ((d.au:Nat):Int)),(36, .pointer (some ⟨r,1,none⟩)),(35, .int .u64 ((a.aS:Nat):Int)),(34, .pointer (some ⟨h,0,none⟩)),(33, .bool (decide (((a.aS:Nat):Int)≤((N.aS:Nat):Int)))),(32, .bool (decide (((a.aS:Nat):Int)≤((N.aS:Nat):Int)))),(31, .bool (decide (((a.aS:Nat):Int)≤((N.aS:Nat):Int)))),(30, .int .u64 ((N.aS:Nat):Int)),(29, .pointer (some ⟨ab f,ao f+(b - 1) *5,none⟩)),(28, .pointer (some ⟨ab f,ao f+(b - 1) *5,none⟩)),(27, .int .i64 ((b - 1:Nat):Int)),(26, .int .i64 ((b:Nat):Int)),(25, .slice f d.ai.ls.length l),(24, .pointer (some ⟨r,5,none⟩)),(23, .int .u64 ((a.aS:Nat):Int)),(22, .pointer (some ⟨h,0,none⟩)),(21, .bool (decide (((b:Nat):Int) > 0))),(20, .bool (decide (((b:Nat):Int) > 0))),(19, .int .i64 ((b:Nat):Int)),(3, .int .i64 ((b:Nat):Int)),(4, .pointer (some ⟨h,0,none⟩)),(18, .agg (ak.cells a).toArray),(17, .pointer (some ⟨ab f,ao f+b *5,none⟩)),(16, .int .i64 ((b:Nat):Int)),(15, .bool (decide (((b:Nat):Int) < ((d.ai.ls.length:Nat):Int)))),(14, .int .i64 ((b:Nat):Int)),(13, .int .i64 ((d.ai.ls.length:Nat):Int)),(12, .slice f d.ai.ls.length l),(1, .pointer (some ⟨r,0,none⟩))] _ _
 obtain⟨aQ,fG,au⟩:=aK.1 dn
 refine sr (Kz (.bool (decide (((j:Nat):Int) < ((a.af.ls.length:Nat):Int)))) (nt (ze ?_)))
 by_cases dw:((j:Nat):Int) < ((a.af.ls.length:Nat):Int)
 obtain⟨av,bi⟩:=eH (ls:=a.af.ls) (i:=j) jU (by decide) (aQ.ro (p _ (List.mem_of_getElem? u)).1) (by first | omega | (simp; done) | (simp; omega))
 have aL:=drop_at bi
 refine jT (dT dw) (sk (ze (bo (sr (Mz rfl (fw (.pointer (some ⟨ab a.af.A,ao a.af.A+j *1,none⟩)) (zn (oF) rfl rfl ((aQ.ro (p _ (List.mem_of_getElem? u)).1).addr (i:=j) (by omega)) (by omega)) (fw (.int .i64 av) (zi rfl (bf.one Tryz.isAgg3 (((aQ.ro (p _ (List.mem_of_getElem? u)).1).elem jU bi (by decide)).at_ (k:=0) rfl))) (Az rfl (Ar rfl (Mz rfl (Kz (.pointer (some ⟨r,0,none⟩)) (Lz (.int .i64 d.af) aQ 1 Tryz.isAgg3 ?_))))))))))))
 obtain⟨bF,ax⟩:∃ q,dh av d.af=q:=⟨_,rfl⟩
 obtain⟨gy,dx,fH,dz,fI⟩:=zt aQ
 refine cl Tryz.call38 (iD _ _ av d.af bF dx ax) ?_
 rintro _ gz ⟨rfl,dA⟩
 have ay:=dz _ _ dA
 refine Kz (.bool (!bF)) (Mz rfl ?_)
 rcases Cf (bF) with J | J
 refine gw (.int .i64 ((j:Nat):Int)) (cn J) (zo rfl) (Gz (.bool (decide (((j:Nat):Int) > 0))) (cn J) (gw (.bool (decide (((j:Nat):Int) > 0))) (cn J) (zo rfl) ?_))
 by_cases B:((j:Nat):Int) > 0
 refine gw (.int .i64 av) (dT B) (zo rfl) (Gz (.pointer (some ⟨h,4,none⟩)) (dT B) (Gl (.slice a.af.A a.af.ls.length a.af.c) (dT B) ay 0 Tryz.isAgg77 (gw (.int .i64 ((j:Nat):Int)) (dT B) (zo rfl) (gw (.int .i64 ((j - 1:Nat):Int)) (dT B) (zy (e:=IntKind.i64.wrap (((j:Nat):Int) - 1)) yk (by rw [Cb _ (by omega)]; omega)) ?_))))
 obtain⟨aA,aG⟩:=eH (ls:=a.af.ls) (i:=j - 1) jU (by decide) (ay.ro (p _ (List.mem_of_getElem? u)).1) (by first | omega | (simp; done) | (simp; omega))
 refine gw (.pointer (some ⟨ab a.af.A,ao a.af.A+(j - 1) *1,none⟩)) (dT B) (zn (oF) rfl rfl ((ay.ro (p _ (List.mem_of_getElem? u)).1).addr (i:=j - 1) (by omega)) (by omega)) (gw (.int .i64 aA) (dT B) (zi rfl (bf.one Tryz.isAgg3 (((ay.ro (p _ (List.mem_of_getElem? u)).1).elem jU aG (by decide)).at_ (k:=0) rfl))) (Gz (.bool (decide (av≤aA))) (dT B) (gw (.bool (decide (av≤aA))) (cn J) (zf rfl (dT B) rfl) (fw (.bool (decide (av≤aA))) (zh rfl (cn J) rfl) (nt ?_)))))
 by_cases aN:av≤aA
 refine jT (dT aN) (sr (An rfl (rt (bR (tR (tR (bR (bR (tR (tR (bR (tR (rs ?_)))))))))))))
 have dB:=ay.pk []
 obtain rfl:_=false:=hr.symm.trans (et (iN L) (fE (et (z) (et (congrArg (fun q=>bA d q b) C) (et (ip n) (et (ae (bJ T)) (et (iN y) (et (iN aj) (et (ae Y) (et (ip K) (et (iN aP) (mi (et (au) (et (congrArg (fun q=>bz d b (zz a) q j) aL) (et (ae ax) (et (ip J) (et (ip B) (et (ae (bJ aG)) (ip aN)))))))))))))))))))
 exact⟨rfl,dB⟩
 refine jF (dF aN) (zS (bN (zu (zb (fw (.int .i64 ((j+1:Nat):Int)) (zy (e:=IntKind.i64.wrap (((j:Nat):Int)+1)) yk (by rw [Cb _ (by omega)]; omega)) (Mz rfl (zq ?_)))))))
 have dD:=ay.pk [0,1]
 exact zH (j+1) ⟨rfl,rfl,rfl,rfl,rfl,rfl,rfl,rfl,rfl,rfl,rfl,rfl,rfl,rfl,rfl,rfl,rfl,rfl,rfl,rfl,rfl,rfl,rfl,rfl,rfl,rfl,rfl,rfl,rfl,rfl,rfl,rfl,rfl,rfl,rfl,rfl,rfl,rfl,rfl,rfl,rfl,rfl,rfl,rfl,rfl,rfl,rfl,rfl,trivial⟩ (aK.2 ⟨dD,by omega,et (au) (et (congrArg (fun q=>bz d b (zz a) q j) aL) (et (ae ax) (et (ip J) (et (ip B) (et (ae (bJ aG)) (iN aN))))))⟩) (by show a.af.ls.length - (j+1) < a.af.ls.length - j; omega)
 refine Sz (dF B) (Sz (dF B) (Sz (dF B) (Sz (dF B) (Sz (dF B) (Sz (dF B) (Sz (dF B) (Sz (dF B) (gw (.bool false) (cn J) (zh rfl (dF B) rfl) (fw (.bool false) (zh rfl (cn J) rfl) (nt (jf (zS (bN (zu (zb (fw (.int .i64 ((j+1:Nat):Int)) (zy (e:=IntKind.i64.wrap (((j:Nat):Int)+1)) yk (by rw [Cb _ (by omega)]; omega)) (Mz rfl (zq ?_))))))))))))))))))
 have dG:=ay.pk [0,1]
 exact zH (j+1) ⟨rfl,rfl,rfl,rfl,rfl,rfl,rfl,rfl,rfl,rfl,rfl,rfl,rfl,rfl,rfl,rfl,rfl,rfl,rfl,rfl,rfl,rfl,rfl,rfl,rfl,rfl,rfl,rfl,rfl,rfl,rfl,rfl,rfl,rfl,rfl,rfl,rfl,rfl,rfl,rfl,rfl,rfl,rfl,rfl,rfl,rfl,rfl,rfl,trivial⟩ (aK.2 ⟨dG,by omega,et (au) (et (congrArg (fun q=>bz d b (zz a) q j) aL) (et (ae ax) (et (ip J) (iN B))))⟩) (by show a.af.ls.length - (j+1) < a.af.ls.length - j; omega)
 refine Sz (cn J) (Sz (cn J) (Sz (cn J) (zP rfl rfl rfl (zP rfl rfl rfl (zP rfl rfl rfl (zP rfl rfl rfl (zP rfl rfl rfl (zP rfl rfl rfl (zP rfl rfl rfl (zP rfl rfl rfl (Sz (cn J) (fw (.bool true) (zf rfl (cn J) rfl) (nt (jt (sr (An rfl (rt (bR (tR (tR (bR (bR (tR (tR (bR (tR (rs ?_)))))))))))))))))))))))))))
 have dH:=ay.pk []
 obtain rfl:_=false:=hr.symm.trans (et (iN L) (fE (et (z) (et (congrArg (fun q=>bA d q b) C) (et (ip n) (et (ae (bJ T)) (et (iN y) (et (iN aj) (et (ae Y) (et (ip K) (et (iN aP) (mi (et (au) (et (congrArg (fun q=>bz d b (zz a) q j) aL) (et (ae ax) (jV J))))))))))))))))
 exact⟨rfl,dH⟩
 refine jF (dF dw) (Wp.exit (zk ?_))
 have bG:bz d b (zz a) a.af.ls 0=Sum.inl ():=et (au) (et (congrArg (fun q=>bz d b (zz a) q j) (eF (ls:=a.af.ls) (i:=j) (by omega))) rfl)
 refine zk (zA (bN (zu (zb (fw (.int .i64 ((b+1:Nat):Int)) (zy (e:=IntKind.i64.wrap (((b:Nat):Int)+1)) yk (by rw [Cb _ (by omega)]; omega)) (Mz rfl (zq ?_)))))))
 have dJ:=aQ.pk [1]
 exact zH (b+1) ⟨rfl,rfl,rfl,rfl,rfl,trivial⟩ (aJ.2 ⟨dJ,by omega,et (z) (et (congrArg (fun q=>bA d q b) C) (et (ip n) (et (ae (bJ T)) (et (iN y) (et (iN aj) (et (ae Y) (et (ip K) (et (iN aP) (nQ bG)))))))))⟩) (by show d.ai.ls.length - (b+1) < d.ai.ls.length - b; omega)
 refine Sz (cn K) (Sz (cn K) (Sz (cn K) (Sz (cn K) (fw (.bool true) (zf rfl (cn K) rfl) (nt (jt (sr (An rfl (rt (tR (bR (tR (tR (bR (tR (rs ?_))))))))))))))))
 have dK:=aU.pk []
 obtain rfl:_=false:=hr.symm.trans (et (iN L) (fE (et (z) (et (congrArg (fun q=>bA d q b) C) (et (ip n) (et (ae (bJ T)) (et (iN y) (et (iN aj) (et (ae Y) (jV K))))))))))
 exact⟨rfl,dK⟩
 refine zw (rs:= []) 3 rfl rfl rfl (dF n) (by kernel_rfl) (zw (rs:= []) 4 rfl rfl rfl (dF n) (by kernel_rfl) (zw (rs:= []) 5 rfl rfl rfl (dF n) (by kernel_rfl) (zw (rs:= []) 6 rfl rfl rfl (dF n) (by kernel_rfl) (zw (rs:= []) 7 rfl rfl rfl (dF n) (by kernel_rfl) (zw (rs:= []) 8 rfl rfl rfl (dF n) (by kernel_rfl) (zw (rs:= []) 9 rfl rfl rfl (dF n) (by kernel_rfl) (zw (rs:= []) 10 rfl rfl rfl (dF n) (by kernel_rfl) (zw (rs:= []) 11 rfl rfl rfl (dF n) (by kernel_rfl) (zw (rs:= []) 12 rfl rfl rfl (dF n) (by kernel_rfl) (GX.take (v:= .bool false) (rs:= []) 13 rfl (by kernel_rfl) (fun _ _=>zh rfl (dF n) rfl) (GX.take (v:= .bool false) (rs:= []) 14 rfl (by kernel_rfl) (fun _ _=>zo rfl) (zl (v:= .pointer (some ⟨h,0,none⟩)) (rs:= []) 15 rfl rfl rfl rfl (by kernel_rfl) (fun _ _=>yk) (zl (v:= .int .u64 ((a.aS:Nat):Int)) (rs:= []) 16 rfl rfl rfl rfl (by kernel_rfl) (fun _ ⟨_,H9⟩=>zi rfl (bf.one Tryz.isAgg22 (zJ (H9.cls (i:=0) rfl) rfl))) (zl (v:= .pointer (some ⟨r,1,none⟩)) (rs:= []) 17 rfl rfl rfl rfl (by kernel_rfl) (fun _ _=>yk) (zl (v:= .int .u64 ((d.au:Nat):Int)) (rs:= []) 18 rfl rfl rfl rfl (by kernel_rfl) (fun _ ⟨_,H9⟩=>zi rfl (bf.one Tryz.isAgg22 (zJ (H9.cls (i:=1) rfl) rfl))) (zl (v:= .int .u64 ((Int.toNat (IntKind.u64.wrap (((d.au:Nat):Int)+1)):Nat):Int)) (rs:= []) 19 rfl rfl rfl rfl (by kernel_rfl) (fun _ _=>zy (e:=IntKind.u64.wrap (((d.au:Nat):Int)+1)) yk (gI _)) ?_))))))))))))))))
 have eU:fZ (Int.toNat (IntKind.u64.wrap (((d.au:Nat):Int)+1))) 32≤18446744073709551615:=oz _ _
 refine zl (v:= .int .u64 ((fZ (Int.toNat (IntKind.u64.wrap (((d.au:Nat):Int)+1))) 32:Nat):Int)) (rs:= []) 20 rfl rfl rfl rfl (by kernel_rfl) (fun _ _=>zy (A7 (m:=32) rfl rfl) (gI _)) (zl (v:= .bool (decide (((a.aS:Nat):Int) ≥ ((fZ (Int.toNat (IntKind.u64.wrap (((d.au:Nat):Int)+1))) 32:Nat):Int)))) (rs:= []) 21 rfl rfl rfl rfl (by kernel_rfl) (fun _ _=>yk) (GX.take (v:= .bool (decide (((a.aS:Nat):Int) ≥ ((fZ (Int.toNat (IntKind.u64.wrap (((d.au:Nat):Int)+1))) 32:Nat):Int)))) (rs:= []) 22 rfl (by kernel_rfl) (fun _ _=>zh rfl rfl rfl) (zT (by kernel_rfl) (zu ?_))))
 by_cases P:((a.aS:Nat):Int) ≥ ((fZ (Int.toNat (IntKind.u64.wrap (((d.au:Nat):Int)+1))) 32:Nat):Int)
 refine jT (dT P) (sr (An rfl (rt (tR (bR (tR (tR (bR (tR (rs ?_))))))))))
 have dL:=X.pk []
 obtain rfl:_=false:=hr.symm.trans (et (iN L) (fE (et (z) (et (congrArg (fun q=>bA d q b) C) (et (iN n) (ip P))))))
 exact⟨rfl,dL⟩
 refine jF (dF P) (sk (ze (sr (Kz (.pointer (some ⟨h,1,none⟩)) (Lz (.int .i64 a.aC) X 0 Tryz.isAgg3 ?_)))))
 obtain⟨M,O⟩:∃ q,dh a.aC 4=q:=⟨_,rfl⟩
 obtain⟨fJ,bH,eX,bI,eY⟩:=zt X
 refine cl Tryz.call38 (iD _ _ a.aC 4 M bH O) ?_
 rintro _ fK ⟨rfl,bL⟩
 have aB:=bI _ _ bL
 refine Kz (.bool (!M)) (Mz rfl ?_)
 rcases Cf (M) with t | t
 refine Gz (.pointer (some ⟨h,4,none⟩)) (cn t) (Gl (.slice a.af.A a.af.ls.length a.af.c) (cn t) aB 0 Tryz.isAgg77 (Gz (.int .i64 ((a.af.ls.length:Nat):Int)) (cn t) (Gz (.bool (decide (((a.af.ls.length:Nat):Int)=0))) (cn t) (fw (.bool (decide (((a.af.ls.length:Nat):Int)=0))) (zh rfl (cn t) rfl) (nt ?_)))))
 by_cases Z:((a.af.ls.length:Nat):Int)=0
 refine jT (dT Z) (sr (An rfl (rt (tR (bR (tR (tR (bR (tR (rs ?_))))))))))
 have dM:=aB.pk []
 obtain rfl:_=false:=hr.symm.trans (et (iN L) (fE (et (z) (et (congrArg (fun q=>bA d q b) C) (et (iN n) (et (iN P) (et (ae O) (et (ip t) (ip Z)))))))))
 exact⟨rfl,dM⟩
 refine jF (dF Z) (sk (sr (Kz (.pointer (some ⟨h,4,none⟩)) (Lz (.slice a.af.A a.af.ls.length a.af.c) aB 0 Tryz.isAgg77 (Kz (.int .i64 ((a.af.ls.length:Nat):Int)) (Mn rfl (bo ?_)))))))
 have dN:=aB.pk [0,1]
 obtain⟨bq,bM⟩:∃ q:Nat→World→Prop,q=fun(i:Nat) w'=>Own w D w' [blk h (ak.cells a) 79,blk r [.int .i64 d.af, .int .u64 ((d.au:Nat):Int), .int .u64 ((d.aY:Nat):Int), .int .u64 ((d.aK:Nat):Int), .slice E d.ag.ls.length F, .slice f d.ai.ls.length l, .slice G d.aG.ls.length I] 35]∧(i≤a.af.ls.length∧dI d b (zz a) a.af.ls 0=dI d b (zz a) (List.drop i a.af.ls) i):=⟨_,rfl⟩
 have ag:∀ {g:Nat} {w':World},bq g w'↔Own w D w' [blk h (ak.cells a) 79,blk r [.int .i64 d.af, .int .u64 ((d.au:Nat):Int), .int .u64 ((d.aY:Nat):Int), .int .u64 ((d.aK:Nat):Int), .slice E d.ag.ls.length F, .slice f d.ai.ls.length l, .slice G d.aG.ls.length I] 35]∧g≤a.af.ls.length∧dI d b (zz a) a.af.ls 0=dI d b (zz a) (List.drop g a.af.ls) g:=by intros; subst bM; exact Iff.rfl
 refine Wp.loop (fun i:Nat=> [(2, .bool false),(55, .int .i64 ((i:Nat):Int)),(54, .int .i64 ((a.af.ls.length:Nat):Int)),(53, .slice a.af.A a.af.ls.length a.af.c),(52, .pointer (some ⟨h,4,none⟩)),(51, .bool (decide (((a.af.ls.length:Nat):Int)=0))),(50, .bool (decide (((a.af.ls.length:Nat):Int)=0))),(49, .int .i64 ((a.af.ls.length:Nat):Int)),(48, .slice a.af.A a.af.ls.length a.af.c),(47, .pointer (some ⟨h,4,none⟩)),(46, .bool (!M)),(45, .bool (!M)),(44, .bool M),(43, .int .i64 a.aC),(42, .pointer (some ⟨h,1,none⟩)),(41, .bool (decide (((a.aS:Nat):Int) ≥ ((fZ (Int.toNat (IntKind.u64.wrap (((d.au:Nat):Int)+1))) 32:Nat):Int)))),(40, .bool (decide (((a.aS:Nat):Int) ≥ ((fZ (Int.toNat (IntKind.u64.wrap (((d.au:Nat):Int)+1))) 32:Nat):Int)))),(39, .int .u64 ((fZ (Int.toNat (IntKind.u64.wrap (((d.au:Nat):Int)+1))) 32:Nat):Int)),(38, .int .u64 ((Int.toNat (IntKind.u64.wrap (((d.au:Nat):Int)+1)):Nat):Int)),(37, .int .u64 ((d.au:Nat):Int)),(36, .pointer (some ⟨r,1,none⟩)),(35, .int .u64 ((a.aS:Nat):Int)),(34, .pointer (some ⟨h,0,none⟩)),(33, .bool false),(32, .bool false),(31,undef),(30,undef),(29,undef),(28,undef),(27,undef),(26,undef),(25,undef),(24,undef),(23,undef),(22,undef),(21, .bool (decide (((b:Nat):Int) > 0))),(20, .bool (decide (((b:Nat):Int) > 0))),(19, .int .i64 ((b:Nat):Int)),(3, .int .i64 ((b:Nat):Int)),(4, .pointer (some ⟨h,0,none⟩)),(18, .agg (ak.cells a).toArray),(17, .pointer (some ⟨ab f,ao f+b *5,none⟩)),(16, .int .i64 ((b:Nat):Int)),(15, .bool (decide (((b:Nat):Int) < ((d.ai.ls.length:Nat):Int)))),(14, .int .i64 ((b:Nat):Int)),(13, .int .i64 ((d.ai.ls.length:Nat):Int)),(12, .slice f d.ai.ls.length l),(1, .pointer (some ⟨r,0,none⟩))]) bq (fun i=>a.af.ls.length - i) 0 ⟨rfl,rfl,rfl,rfl,rfl,rfl,rfl,rfl,rfl,rfl,rfl,rfl,rfl,rfl,rfl,rfl,rfl,rfl,rfl,rfl,rfl,rfl,rfl,rfl,rfl,rfl,rfl,rfl,rfl,rfl,rfl,rfl,rfl,rfl,rfl,rfl,rfl,rfl,rfl,rfl,rfl,rfl,rfl,rfl,rfl,rfl,rfl,rfl,trivial⟩ (ag.2 ⟨dN,by omega,rfl⟩) ?_
 rintro g fM bO
 show Wp _ _ _ [(2, .bool false),(55, .int .i64 ((g:Nat):Int)),(54, .int .i64 ((a.af.ls.length:Nat):Int)),(53, .slice a.af.A a.af.ls.length a.af.c),(52, .pointer (some ⟨h,4,none⟩)),(51, .bool (decide (((a.af.ls.length:Nat):Int)=0))),(50, .bool (decide (((a.af.ls.length:Nat):Int)=0))),(49, .int .i64 ((a.af.ls.length:Nat):Int)),(48, .slice a.af.A a.af.ls.length a.af.c),(47, .pointer (some ⟨h,4,none⟩)),(46, .bool (!M)),(45, .bool (!M)),(44, .bool M),(43, .int .i64 a.aC),(42, .pointer (some ⟨h,1,none⟩)),(41, .bool (decide (((a.aS:Nat):Int) ≥ ((fZ (Int.toNat (IntKind.u64.wrap (((d.au:Nat):Int)+1))) 32:Nat):Int)))),(40, .bool (decide (((a.aS:Nat):Int) ≥ ((fZ (Int.toNat (IntKind.u64.wrap (((d.au:Nat):Int)+1))) 32:Nat):Int)))),(39, .int .u64 ((fZ (Int.toNat (IntKind.u64.wrap (((d.au:Nat):Int)+1))) 32:Nat):Int)),(38, .int .u64 ((Int.toNat (IntKind.u64.wrap (((d.au:Nat):Int)+1)):Nat):Int)),(37, .int .u64 ((d.au:Nat):Int)),(36, .pointer (some ⟨r,1,none⟩)),(35, .int .u64 ((a.aS:Nat):Int)),(34, .pointer (some ⟨h,0,none⟩)),(33, .bool false),(32, .bool false),(31,undef),(30,undef),(29,undef),(28,undef),(27,undef),(26,undef),(25,undef),(24,undef),(23,undef),(22,undef),(21, .bool (decide (((b:Nat):Int) > 0))),(20, .bool (decide (((b:Nat):Int) > 0))),(19, .int .i64 ((b:Nat):Int)),(3, .int .i64 ((b:Nat):Int)),(4, .pointer (some ⟨h,0,none⟩)),(18, .agg (ak.cells a).toArray),(17, .pointer (some ⟨ab f,ao f+b *5,none⟩)),(16, .int .i64 ((b:Nat):Int)),(15, .bool (decide (((b:Nat):Int) < ((d.ai.ls.length:Nat):Int)))),(14, .int .i64 ((b:Nat):Int)),(13, .int .i64 ((d.ai.ls.length:Nat):Int)),(12, .slice f d.ai.ls.length l),(1, .pointer (some ⟨r,0,none⟩))] _ _
 obtain⟨aa,eZ,U⟩:=ag.1 bO
 refine sr (Kz (.bool (decide (((g:Nat):Int) < ((a.af.ls.length:Nat):Int)))) (nt (ze ?_)))
 by_cases bv:((g:Nat):Int) < ((a.af.ls.length:Nat):Int)
 obtain⟨Q,aV⟩:=eH (ls:=a.af.ls) (i:=g) jU (by decide) (aa.ro (p _ (List.mem_of_getElem? u)).1) (by first | omega | (simp; done) | (simp; omega))
 have ah:=drop_at aV
 refine jT (dT bv) (sk (ze (bo (sr (Mz rfl (fw (.pointer (some ⟨ab a.af.A,ao a.af.A+g *1,none⟩)) (zn (oF) rfl rfl ((aa.ro (p _ (List.mem_of_getElem? u)).1).addr (i:=g) (by omega)) (by omega)) (fw (.int .i64 Q) (zi rfl (bf.one Tryz.isAgg3 (((aa.ro (p _ (List.mem_of_getElem? u)).1).elem jU aV (by decide)).at_ (k:=0) rfl))) (Az rfl (Ar rfl (Mz rfl (Kz (.pointer (some ⟨r,0,none⟩)) (Lz (.int .i64 d.af) aa 1 Tryz.isAgg3 ?_))))))))))))
 obtain⟨aW,V⟩:∃ q,dh Q d.af=q:=⟨_,rfl⟩
 obtain⟨fO,bP,fe,bQ,fo⟩:=zt aa
 refine cl Tryz.call38 (iD _ _ Q d.af aW bP V) ?_
 rintro _ fP ⟨rfl,bT⟩
 have R:=bQ _ _ bT
 refine Kz (.bool (!aW)) (Mz rfl ?_)
 rcases Cf (aW) with s | s
 refine gw (.int .i64 ((g:Nat):Int)) (cn s) (zo rfl) (Gz (.bool (decide (((g:Nat):Int) > 0))) (cn s) (gw (.bool (decide (((g:Nat):Int) > 0))) (cn s) (zo rfl) ?_))
 by_cases o:((g:Nat):Int) > 0
 refine gw (.int .i64 Q) (dT o) (zo rfl) (Gz (.pointer (some ⟨h,4,none⟩)) (dT o) (Gl (.slice a.af.A a.af.ls.length a.af.c) (dT o) R 0 Tryz.isAgg77 (gw (.int .i64 ((g:Nat):Int)) (dT o) (zo rfl) (gw (.int .i64 ((g - 1:Nat):Int)) (dT o) (zy (e:=IntKind.i64.wrap (((g:Nat):Int) - 1)) yk (by rw [Cb _ (by omega)]; omega)) ?_))))
 obtain⟨aC,aI⟩:=eH (ls:=a.af.ls) (i:=g - 1) jU (by decide) (R.ro (p _ (List.mem_of_getElem? u)).1) (by first | omega | (simp; done) | (simp; omega))
 refine gw (.pointer (some ⟨ab a.af.A,ao a.af.A+(g - 1) *1,none⟩)) (dT o) (zn (oF) rfl rfl ((R.ro (p _ (List.mem_of_getElem? u)).1).addr (i:=g - 1) (by omega)) (by omega)) (gw (.int .i64 aC) (dT o) (zi rfl (bf.one Tryz.isAgg3 (((R.ro (p _ (List.mem_of_getElem? u)).1).elem jU aI (by decide)).at_ (k:=0) rfl))) (Gz (.bool (decide (Q≤aC))) (dT o) (gw (.bool (decide (Q≤aC))) (cn s) (zf rfl (dT o) rfl) (fw (.bool (decide (Q≤aC))) (zh rfl (cn s) rfl) (nt ?_)))))
 by_cases aO:Q≤aC
 refine jT (dT aO) (sr (An rfl (rt (bR (tR (tR (bR (bR (tR (tR (bR (tR (rs ?_)))))))))))))
 have dO:=R.pk []
 obtain rfl:_=false:=hr.symm.trans (et (iN L) (fE (et (z) (et (congrArg (fun q=>bA d q b) C) (et (iN n) (et (iN P) (et (ae O) (et (ip t) (et (iN Z) (mi (et (U) (et (congrArg (fun q=>dI d b (zz a) q g) ah) (et (ae V) (et (ip s) (et (ip o) (et (ae (bJ aI)) (ip aO)))))))))))))))))
 exact⟨rfl,dO⟩
 refine jF (dF aO) (zS (bN (zu (zb (fw (.int .i64 ((g+1:Nat):Int)) (zy (e:=IntKind.i64.wrap (((g:Nat):Int)+1)) yk (by rw [Cb _ (by omega)]; omega)) (Mz rfl (zq ?_)))))))
 have dP:=R.pk [0,1]
 exact zH (g+1) ⟨rfl,rfl,rfl,rfl,rfl,rfl,rfl,rfl,rfl,rfl,rfl,rfl,rfl,rfl,rfl,rfl,rfl,rfl,rfl,rfl,rfl,rfl,rfl,rfl,rfl,rfl,rfl,rfl,rfl,rfl,rfl,rfl,rfl,rfl,rfl,rfl,rfl,rfl,rfl,rfl,rfl,rfl,rfl,rfl,rfl,rfl,rfl,rfl,trivial⟩ (ag.2 ⟨dP,by omega,et (U) (et (congrArg (fun q=>dI d b (zz a) q g) ah) (et (ae V) (et (ip s) (et (ip o) (et (ae (bJ aI)) (iN aO))))))⟩) (by show a.af.ls.length - (g+1) < a.af.ls.length - g; omega)
 refine Sz (dF o) (Sz (dF o) (Sz (dF o) (Sz (dF o) (Sz (dF o) (Sz (dF o) (Sz (dF o) (Sz (dF o) (gw (.bool false) (cn s) (zh rfl (dF o) rfl) (fw (.bool false) (zh rfl (cn s) rfl) (nt (jf (zS (bN (zu (zb (fw (.int .i64 ((g+1:Nat):Int)) (zy (e:=IntKind.i64.wrap (((g:Nat):Int)+1)) yk (by rw [Cb _ (by omega)]; omega)) (Mz rfl (zq ?_))))))))))))))))))
 have dQ:=R.pk [0,1]
 exact zH (g+1) ⟨rfl,rfl,rfl,rfl,rfl,rfl,rfl,rfl,rfl,rfl,rfl,rfl,rfl,rfl,rfl,rfl,rfl,rfl,rfl,rfl,rfl,rfl,rfl,rfl,rfl,rfl,rfl,rfl,rfl,rfl,rfl,rfl,rfl,rfl,rfl,rfl,rfl,rfl,rfl,rfl,rfl,rfl,rfl,rfl,rfl,rfl,rfl,rfl,trivial⟩ (ag.2 ⟨dQ,by omega,et (U) (et (congrArg (fun q=>dI d b (zz a) q g) ah) (et (ae V) (et (ip s) (iN o))))⟩) (by show a.af.ls.length - (g+1) < a.af.ls.length - g; omega)
 refine Sz (cn s) (Sz (cn s) (Sz (cn s) (zP rfl rfl rfl (zP rfl rfl rfl (zP rfl rfl rfl (zP rfl rfl rfl (zP rfl rfl rfl (zP rfl rfl rfl (zP rfl rfl rfl (zP rfl rfl rfl (Sz (cn s) (fw (.bool true) (zf rfl (cn s) rfl) (nt (jt (sr (An rfl (rt (bR (tR (tR (bR (bR (tR (tR (bR (tR (rs ?_)))))))))))))))))))))))))))
 have dR:=R.pk []
 obtain rfl:_=false:=hr.symm.trans (et (iN L) (fE (et (z) (et (congrArg (fun q=>bA d q b) C) (et (iN n) (et (iN P) (et (ae O) (et (ip t) (et (iN Z) (mi (et (U) (et (congrArg (fun q=>dI d b (zz a) q g) ah) (et (ae V) (jV s))))))))))))))
 exact⟨rfl,dR⟩
 refine jF (dF bv) (Wp.exit (zk ?_))
 have bU:dI d b (zz a) a.af.ls 0=Sum.inl ():=et (U) (et (congrArg (fun q=>dI d b (zz a) q g) (eF (ls:=a.af.ls) (i:=g) (by omega))) rfl)
 refine zk (zA (bN (zu (zb (fw (.int .i64 ((b+1:Nat):Int)) (zy (e:=IntKind.i64.wrap (((b:Nat):Int)+1)) yk (by rw [Cb _ (by omega)]; omega)) (Mz rfl (zq ?_)))))))
 have dS:=aa.pk [1]
 exact zH (b+1) ⟨rfl,rfl,rfl,rfl,rfl,trivial⟩ (aJ.2 ⟨dS,by omega,et (z) (et (congrArg (fun q=>bA d q b) C) (et (iN n) (et (iN P) (et (ae O) (et (ip t) (et (iN Z) (nQ bU)))))))⟩) (by show d.ai.ls.length - (b+1) < d.ai.ls.length - b; omega)
 refine Sz (cn t) (Sz (cn t) (Sz (cn t) (Sz (cn t) (fw (.bool true) (zf rfl (cn t) rfl) (nt (jt (sr (An rfl (rt (tR (bR (tR (tR (bR (tR (rs ?_))))))))))))))))
 have dU:=aB.pk []
 obtain rfl:_=false:=hr.symm.trans (et (iN L) (fE (et (z) (et (congrArg (fun q=>bA d q b) C) (et (iN n) (et (iN P) (et (ae O) (jV t))))))))
 exact⟨rfl,dU⟩
 refine jF (dF cu) (Wp.exit (zk ?_))
 have bV:bA d d.ai.ls 0=Sum.inl ():=et (z) (et (congrArg (fun q=>bA d q b) (eF (ls:=d.ai.ls) (i:=b) (by omega))) rfl)
 refine zk (zA (zu (sr (An rfl (rt (rs ?_))))))
 have dV:=aS.pk []
 obtain rfl:_=true:=hr.symm.trans (et (iN L) (gL bV))
 exact⟨rfl,dV⟩
def dO:List bu→Unit ⊕ Bool
  | []=>Sum.inl ()
  | a::c=>bnd (dR a.aX) fun b=>if b=0 then if((a.aB.length:Nat):Int) > 16 then Sum.inr (false) else dO c else Sum.inr (false)
def iI (a:bX):Bool:=
 if((a.aB.length:Nat):Int) > 16 then false else if((a.ax.ls.length:Nat):Int) > 4 then false else lp (dO a.ax.ls) fun _=>true
theorem lK (w:World) (D:Nat→Prop) (a:bX) (b:Option Addr) (x f:Nat) (X:Bool) (H:Own w D w []) (A:x=a.ax.ls.length) (j:Ro w D fun w'=>bn w' 2 b a.ax.ls.length (List.flatMap bu.cells a.ax.ls)) (O:a.ax.ls.length≤f∧a.ax.ls.length≤9223372036854775807) (hr:iI a=X):
    Calls Tryz.prog 89 #[.agg #[.bool a.dm, .string ⟨List.toArray a.aB⟩, .slice b x f]] w (dE fun v w'=>v= .bool X∧Own w D w' []):=by
 subst A
 refine zg (args:= [.agg #[.bool a.dm, .string ⟨List.toArray a.aB⟩, .slice b a.ax.ls.length f]]) Tryz.func89 rfl rfl rfl ?_
 show Wp _ _ _ [(0, .agg #[.bool a.dm, .string ⟨List.toArray a.aB⟩, .slice b a.ax.ls.length f])] _ _
 refine sr ?_
 refine dC [.bool a.dm, .string ⟨List.toArray a.aB⟩, .slice b a.ax.ls.length f] 129 H ?_
 intro B af m
 refine An rfl (ze (sr (Kz (.pointer (some ⟨B,1,none⟩)) (Lz (.string ⟨List.toArray a.aB⟩) m 0 Tryz.isAgg9 (Kz (.int .i64 ((a.aB.length:Nat):Int)) (Kz (.bool (decide (((a.aB.length:Nat):Int) > 16))) (Mz rfl ?_)))))))
 by_cases d:((a.aB.length:Nat):Int) > 16
 refine Sz (dT d) (Sz (dT d) (Sz (dT d) (Sz (dT d) (fw (.bool true) (zf rfl (dT d) rfl) (nt (jt (sr (An rfl (rt (tR (rs ?_)))))))))))
 have P:=m.pk []
 obtain rfl:_=false:=hr.symm.trans (ip d)
 exact⟨rfl,P⟩
 refine Gz (.pointer (some ⟨B,2,none⟩)) (dF d) (Gl (.slice b a.ax.ls.length f) (dF d) m 0 Tryz.isAgg127 (Gz (.int .i64 ((a.ax.ls.length:Nat):Int)) (dF d) (Gz (.bool (decide (((a.ax.ls.length:Nat):Int) > 4))) (dF d) (fw (.bool (decide (((a.ax.ls.length:Nat):Int) > 4))) (zh rfl (dF d) rfl) (nt ?_)))))
 by_cases n:((a.ax.ls.length:Nat):Int) > 4
 refine jT (dT n) (sr (An rfl (rt (tR (rs ?_)))))
 have Q:=m.pk []
 obtain rfl:_=false:=hr.symm.trans (et (iN d) (ip n))
 exact⟨rfl,Q⟩
 refine jF (dF n) (sk (ze (sr (Kz (.pointer (some ⟨B,2,none⟩)) (Lz (.slice b a.ax.ls.length f) m 0 Tryz.isAgg127 (Kz (.int .i64 ((a.ax.ls.length:Nat):Int)) (Mn rfl (bo ?_))))))))
 have R:=m.pk []
 obtain⟨C,E⟩:∃ q:Nat→World→Prop,q=fun(i:Nat) w'=>Own w D w' []∧(i≤a.ax.ls.length∧dO a.ax.ls=dO (List.drop i a.ax.ls)):=⟨_,rfl⟩
 have o:∀ {c:Nat} {w':World},C c w'↔Own w D w' []∧c≤a.ax.ls.length∧dO a.ax.ls=dO (List.drop c a.ax.ls):=by intros; subst E; exact Iff.rfl
 refine Wp.loop (fun i:Nat=> [(2, .bool false),(18, .int .i64 ((i:Nat):Int)),(17, .int .i64 ((a.ax.ls.length:Nat):Int)),(16, .slice b a.ax.ls.length f)]) C (fun i=>a.ax.ls.length - i) 0 ⟨rfl,rfl,rfl,rfl,trivial⟩ (o.2 ⟨R,by omega,rfl⟩) ?_
 rintro c ag F
 show Wp _ _ _ [(2, .bool false),(18, .int .i64 ((c:Nat):Int)),(17, .int .i64 ((a.ax.ls.length:Nat):Int)),(16, .slice b a.ax.ls.length f)] _ _
 obtain⟨p,Y,k⟩:=o.1 F
 refine sr (Kz (.bool (decide (((c:Nat):Int) < ((a.ax.ls.length:Nat):Int)))) (nt (ze ?_)))
 by_cases G:((c:Nat):Int) < ((a.ax.ls.length:Nat):Int)
 obtain⟨g,y⟩:=eH (ls:=a.ax.ls) (i:=c) bu.len (by decide) (p.ro j) (by first | omega | (simp; done) | (simp; omega))
 have r:=drop_at y
 refine jT (dT G) (sk (ze (bo (sr (fw (.pointer (some ⟨ab b,ao b+c *2,none⟩)) (zn (oU) rfl rfl ((p.ro j).addr (i:=c) (by omega)) (by omega)) (fw (.agg (bu.cells g).toArray) (zi rfl (zD (cs:=(bu.cells g)) Tryz.isAgg133 Tryz.sizeOf133 ((p.ro j).elem bu.len y (by decide)))) ?_))))))
 refine dC [.string ⟨List.toArray ([])⟩, .string ⟨List.toArray ([])⟩] 133 p ?_
 intro I ah S
 refine df (bu.cells g) 0 S Tryz.sizeOf133 ?_
 intro ai J
 refine ns (Kz (.pointer (some ⟨I,0,none⟩)) (Lz (.string ⟨List.toArray g.aX⟩) J 0 Tryz.isAgg9 ?_))
 obtain⟨s,l⟩:∃ q,dR g.aX=q:=⟨_,rfl⟩
 obtain⟨aj,K,Z,L,aa⟩:=zt J
 refine cl Tryz.call83 (jh _ _ g.aX s K l) ?_
 rintro _ ak ⟨rfl,M,z⟩
 have t:=L _ _ M
 replace z: ¬ (s=0)∨(1≤g.aX.length∧g.aX.length≤12):=z
 refine fw (.bool (decide (¬ (s=0)))) (zF (e:= !(decide (s=0))) yk decide_not.symm) (Mz rfl ?_)
 by_cases h:s=0
 refine gw (.pointer (some ⟨I,1,none⟩)) (dF (Ce h)) yk (gw (.string ⟨List.toArray g.aB⟩) (dF (Ce h)) (zi rfl (bf.one Tryz.isAgg9 (zJ (t.cls (i:=0) rfl) rfl))) (gw (.int .i64 ((g.aB.length:Nat):Int)) (dF (Ce h)) yk (gw (.bool (decide (((g.aB.length:Nat):Int) > 16))) (dF (Ce h)) yk (fw (.bool (decide (((g.aB.length:Nat):Int) > 16))) (zh rfl (dF (Ce h)) rfl) (nt ?_)))))
 by_cases u:((g.aB.length:Nat):Int) > 16
 refine jT (dT u) (sr (An rfl (rt (bR (tR (tR (bR (tR (rs ?_)))))))))
 have T:=t.pk []
 obtain rfl:_=false:=hr.symm.trans (et (iN d) (et (iN n) (fE (et (k) (et (congrArg (fun q=>dO q) r) (et (ae l) (et (ip h) (ip u))))))))
 exact⟨rfl,T⟩
 refine jF (dF u) (zS (bN (zu (zb (fw (.int .i64 ((c+1:Nat):Int)) (zy (e:=IntKind.i64.wrap (((c:Nat):Int)+1)) yk (by rw [Cb _ (by omega)]; omega)) (Mz rfl (zq ?_)))))))
 have U:=t.pk []
 exact zH (c+1) ⟨rfl,rfl,rfl,rfl,trivial⟩ (o.2 ⟨U,by omega,et (k) (et (congrArg (fun q=>dO q) r) (et (ae l) (et (ip h) (iN u))))⟩) (by show a.ax.ls.length - (c+1) < a.ax.ls.length - c; omega)
 refine Sz (dT h) (Sz (dT h) (Sz (dT h) (Sz (dT h) (fw (.bool true) (zf rfl (dT h) rfl) (nt (jt (sr (An rfl (rt (bR (tR (tR (bR (tR (rs ?_)))))))))))))))
 have V:=t.pk []
 obtain rfl:_=false:=hr.symm.trans (et (iN d) (et (iN n) (fE (et (k) (et (congrArg (fun q=>dO q) r) (et (ae l) (iN h)))))))
 exact⟨rfl,V⟩
 refine jF (dF G) (Wp.exit (zk ?_))
 have N:dO a.ax.ls=Sum.inl ():=et (k) (et (congrArg (fun q=>dO q) (eF (ls:=a.ax.ls) (i:=c) (by omega))) rfl)
 refine zk (zA (zu (sr (An rfl (rt (rs ?_))))))
 have W:=p.pk []
 obtain rfl:_=true:=hr.symm.trans (et (iN d) (et (iN n) (gL N)))
 exact⟨rfl,W⟩
def dn (e:Nat) (c:eD):Nat→Nat→Unit ⊕ Bool
  | 0,b=>Sum.inl ()
  | f+1,b=>bnd (List.getD c.ah.ls b default) fun a=>bnd (iI (bX.mk a.dm a.aB (Ll.mk a.ax.ls))) fun d=>if d=true then dn e c f (b+1) else Sum.inr (false)
def fQ (f:Nat) (d:eD):Nat→Nat→Unit ⊕ Bool
  | 0,b=>Sum.inl ()
  | e+1,b=>bnd (List.getD d.ah.ls b default) fun a=>bnd (iI (bX.mk a.dm a.aB (Ll.mk a.ax.ls))) fun c=>if c=true then fQ f d e (b+1) else Sum.inr (false)
def bV (f:List eD):List eD→Nat→Unit ⊕ Bool
  | [],b=>Sum.inl ()
  | a::c,b=>bnd (dh a.aC 4) fun d=>if d=true then if((b:Nat):Int) > 0 then bnd (List.getD f (b - 1) default) fun e=>if a.aC≤e.aC then Sum.inr (false) else if((a.ah.ls.length:Nat):Int) > 4 then Sum.inr (false) else kQ (dn b a a.ah.ls.length 0) fun _=>bV f c (b+1) else if((a.ah.ls.length:Nat):Int) > 4 then Sum.inr (false) else kQ (fQ b a a.ah.ls.length 0) fun _=>bV f c (b+1) else Sum.inr (false)
def j5 (a:List eD):Bool:=
 if((a.length:Nat):Int) > 4 then false else lp (bV a a 0) fun _=>true
theorem o7 (w:World) (D:Nat→Prop) (o:Option Addr) (n0 I:Nat) (d0:List aM) (f:List eD) (r0:Bool) (H:Own w D w []) (aA:List.map zM d0=f) (T:Ro w D fun w'=>bn w' 4 o n0 (List.flatMap aM.cells d0)) (C:∀ x ∈ d0,Ro w D (fun w'=>bn w' 3 x.ah.A x.ah.ls.length (List.flatMap az.cells x.ah.ls))∧(x.ah.ls.length≤x.ah.c∧x.ah.ls.length≤9223372036854775807)∧(∀ y1 ∈ x.ah.ls,Ro w D (fun w'=>bn w' 2 y1.ax.A y1.ax.ls.length (List.flatMap bu.cells y1.ax.ls))∧(y1.ax.ls.length≤y1.ax.c∧y1.ax.ls.length≤9223372036854775807))) (bQ:n0=f.length) (dR:f.length≤9223372036854775807) (hr:j5 f=r0):
    Calls Tryz.prog 47 #[.slice o n0 I] w (dE fun v w'=>v= .bool r0∧Own w D w' []):=by
 subst bQ
 have hdl0:=bS aA
 refine zg (args:= [.slice o f.length I]) Tryz.func47 rfl rfl rfl ?_
 show Wp _ _ _ [(0, .slice o f.length I)] _ _
 refine sr (An rfl (ze (sr (Mz rfl (Kz (.int .i64 ((f.length:Nat):Int)) (Kz (.bool (decide (((f.length:Nat):Int) > 4))) (nt ?_)))))))
 by_cases E:((f.length:Nat):Int) > 4
 refine jT (dT E) (sr (An rfl (rt (tR (rs ?_)))))
 have bT:Own w D w []:=H.pk []
 obtain rfl:_=false:=hr.symm.trans (ip E)
 exact⟨rfl,bT⟩
 refine jF (dF E) (sk (ze (sr (Mz rfl (Kz (.int .i64 ((f.length:Nat):Int)) (Mn rfl (bo ?_)))))))
 have bU:Own w D w []:=H.pk []
 obtain⟨aP,aQ⟩:∃ q:Nat→World→Prop,q=fun(i:Nat) w'=>Own w D w' []∧(i≤f.length∧bV f f 0=bV f (List.drop i f) i):=⟨_,rfl⟩
 have Q:∀ {b:Nat} {w':World},aP b w'↔Own w D w' []∧b≤f.length∧bV f f 0=bV f (List.drop b f) b:=by intros; subst aQ; exact Iff.rfl
 refine Wp.loop (fun i:Nat=> [(2, .bool false),(12, .int .i64 ((i:Nat):Int)),(11, .int .i64 ((f.length:Nat):Int)),(10, .slice o f.length I),(0, .slice o f.length I)]) aP (fun i=>f.length - i) 0 ⟨rfl,rfl,rfl,rfl,rfl,trivial⟩ (Q.2 ⟨bU,by omega,rfl⟩) ?_
 rintro b dS aR
 show Wp _ _ _ [(2, .bool false),(12, .int .i64 ((b:Nat):Int)),(11, .int .i64 ((f.length:Nat):Int)),(10, .slice o f.length I),(0, .slice o f.length I)] _ _
 obtain⟨U,dx,u⟩:=Q.1 aR
 refine sr (Kz (.bool (decide (((b:Nat):Int) < ((f.length:Nat):Int)))) (nt (ze ?_)))
 by_cases aS:((b:Nat):Int) < ((f.length:Nat):Int)
 obtain⟨a,p⟩:=eH (ls:=d0) (i:=b) aM.len (by decide) (U.ro T) (by first | omega | (simp; done) | (simp; omega))
 have aT:=iY aA p
 have dz:=(C _ (List.mem_of_getElem? p)).2.1
 have dA:List.length (List.map zm a.ah.ls)=a.ah.ls.length:=List.length_map ..
 have B:=drop_at aT
 refine jT (dT aS) (sk (ze (bo (sr (Mz rfl (fw (.pointer (some ⟨ab o,ao o+b *4,none⟩)) (zn (qF) rfl rfl ((U.ro T).addr (i:=b) (by omega)) (by omega)) (fw (.agg (aM.cells a).toArray) (zi rfl (zD (cs:=(aM.cells a)) Tryz.isAgg84 Tryz.sizeOf84 ((U.ro T).elem aM.len p (by decide)))) ?_)))))))
 refine dC [.int .i64 0, .int .u64 0, .int .u64 0, .slice none 0 0] 84 U ?_
 intro g dU bW
 refine Az rfl ?_
 refine df (aM.cells a) 0 bW Tryz.sizeOf84 ?_
 intro bY bZ
 refine nt (ze (ze ?_))
 have aj:=bZ.drew
 refine zX [] (fun W=> ∃ L',Own w D W ([blk g (aM.cells a) 84]++L')) (by kernel_rfl) (by kernel_rfl) (zG (zG (cK.block (zG (zG (cK.block (zG z8))))))) ⟨_,aj⟩ ?_
 revert aj
 generalize World.drew bY=dV
 intro aj
 refine GX.take (v:= .pointer (some ⟨g,0,none⟩)) (rs:= []) 0 rfl (by kernel_rfl) (fun _ _=>yk) (GX.take (v:= .int .i64 a.aC) (rs:= []) 1 rfl (by kernel_rfl) (fun _ ⟨_,V⟩=>zi rfl (bf.one Tryz.isAgg3 (zJ (V.cls (i:=0) rfl) rfl))) ?_)
 obtain⟨s,y⟩:∃ q,dh a.aC 4=q:=⟨_,rfl⟩
 obtain⟨dW,aU,dB,aV,dD⟩:=zt aj
 refine GX.do 2 rfl (by kernel_rfl) (zI Tryz.call38 rfl (iD _ _ a.aC 4 s aU y) ?_)
 rintro _ dX ⟨rfl,aW⟩
 have F:=aV _ _ aW
 refine⟨.inr ⟨_,F⟩, ?_⟩
 refine GX.take (v:= .bool (!s)) (rs:= []) 3 rfl (by kernel_rfl) (fun _ _=>yk) (GX.take (v:= .bool (!s)) (rs:= []) 4 rfl (by kernel_rfl) (fun _ _=>zo rfl) ?_)
 rcases Cf (s) with m | m
 refine zl (v:= .int .i64 ((b:Nat):Int)) (rs:= []) 5 rfl rfl rfl (cn m) (by kernel_rfl) (fun _ _=>zo rfl) (zl (v:= .bool (decide (((b:Nat):Int) > 0))) (rs:= []) 6 rfl rfl rfl (cn m) (by kernel_rfl) (fun _ _=>yk) (zl (v:= .bool (decide (((b:Nat):Int) > 0))) (rs:= []) 7 rfl rfl rfl (cn m) (by kernel_rfl) (fun _ _=>zo rfl) ?_))
 by_cases h:((b:Nat):Int) > 0
 refine zl (v:= .pointer (some ⟨g,0,none⟩)) (rs:= []) 8 rfl rfl rfl (dT h) (by kernel_rfl) (fun _ _=>yk) (zl (v:= .int .i64 a.aC) (rs:= []) 9 rfl rfl rfl (dT h) (by kernel_rfl) (fun _ ⟨_,V⟩=>zi rfl (bf.one Tryz.isAgg3 (zJ (V.cls (i:=0) rfl) rfl))) (zl (v:= .slice o f.length I) (rs:= []) 10 rfl rfl rfl (dT h) (by kernel_rfl) (fun _ _=>zo rfl) (zl (v:= .int .i64 ((b:Nat):Int)) (rs:= []) 11 rfl rfl rfl (dT h) (by kernel_rfl) (fun _ _=>zo rfl) (zl (v:= .int .i64 ((b - 1:Nat):Int)) (rs:= []) 12 rfl rfl rfl (dT h) (by kernel_rfl) (fun _ _=>zy (e:=IntKind.i64.wrap (((b:Nat):Int) - 1)) yk (by rw [Cb _ (by omega)]; omega)) ?_))))
 obtain⟨r,X⟩:=lC (ls:=d0) (i:=b - 1) (by first | omega | (simp; done) | (simp; omega))
 have R:=iY aA X
 have dG:=(C _ (List.mem_of_getElem? X)).2.1
 have dH:List.length (List.map zm r.ah.ls)=r.ah.ls.length:=List.length_map ..
 refine zl (v:= .pointer (some ⟨ab o,ao o+(b - 1) *4,none⟩)) (rs:= []) 13 rfl rfl rfl (dT h) (by kernel_rfl) (fun _ ⟨_,V⟩=>zn (qF) rfl rfl ((V.ro T).addr (i:=b - 1) (by omega)) (by omega)) (zl (v:= .pointer (some ⟨ab o,ao o+(b - 1) *4,none⟩)) (rs:= []) 14 rfl rfl rfl (dT h) (by kernel_rfl) (fun _ _=>yk) (zl (v:= .int .i64 r.aC) (rs:= []) 15 rfl rfl rfl (dT h) (by kernel_rfl) (fun _ ⟨_,V⟩=>zi rfl (bf.one Tryz.isAgg3 (((V.ro T).elem aM.len X (by decide)).at_ (k:=0) rfl))) (zl (v:= .bool (decide (a.aC≤r.aC))) (rs:= []) 16 rfl rfl rfl (dT h) (by kernel_rfl) (fun _ _=>yk) (zl (v:= .bool (decide (a.aC≤r.aC))) (rs:= []) 17 rfl rfl rfl (cn m) (by kernel_rfl) (fun _ _=>zf rfl (dT h) rfl) (GX.take (v:= .bool (decide (a.aC≤r.aC))) (rs:= []) 18 rfl (by kernel_rfl) (fun _ _=>zh rfl (cn m) rfl) (GX.take (v:= .bool (decide (a.aC≤r.aC))) (rs:= []) 19 rfl (by kernel_rfl) (fun _ _=>zo rfl) ?_))))))
 by_cases z:a.aC≤r.aC
 refine zw (rs:= []) 20 rfl rfl rfl (dT z) (by kernel_rfl) (zw (rs:= []) 21 rfl rfl rfl (dT z) (by kernel_rfl) (zw (rs:= []) 22 rfl rfl rfl (dT z) (by kernel_rfl) (zw (rs:= []) 23 rfl rfl rfl (dT z) (by kernel_rfl) (GX.take (v:= .bool true) (rs:= []) 24 rfl (by kernel_rfl) (fun _ _=>zf rfl (dT z) rfl) (zT (by kernel_rfl) (zu (jt (sr (An rfl (rt (tR (bR (tR (tR (bR (tR (rs ?_)))))))))))))))))
 have cu:=F.pk []
 obtain rfl:_=false:=hr.symm.trans (et (iN E) (fE (et (u) (et (congrArg (fun q=>bV f q b) B) (et (ae y) (et (ip m) (et (ip h) (et (ae (bJ R)) (ip z)))))))))
 exact⟨rfl,cu⟩
 refine zl (v:= .pointer (some ⟨g,3,none⟩)) (rs:= []) 20 rfl rfl rfl (dF z) (by kernel_rfl) (fun _ _=>yk) (zl (v:= .slice a.ah.A a.ah.ls.length a.ah.c) (rs:= []) 21 rfl rfl rfl (dF z) (by kernel_rfl) (fun _ ⟨_,V⟩=>zi rfl (bf.one Tryz.isAgg82 (zJ (V.cls (i:=0) rfl) rfl))) (zl (v:= .int .i64 ((List.length (List.map zm a.ah.ls):Nat):Int)) (rs:= []) 22 rfl rfl rfl (dF z) (by kernel_rfl) (fun _ _=>zy (e:=((a.ah.ls.length:Nat):Int)) yk (by rw [List.length_map])) (zl (v:= .bool (decide (((List.length (List.map zm a.ah.ls):Nat):Int) > 4))) (rs:= []) 23 rfl rfl rfl (dF z) (by kernel_rfl) (fun _ _=>yk) (GX.take (v:= .bool (decide (((List.length (List.map zm a.ah.ls):Nat):Int) > 4))) (rs:= []) 24 rfl (by kernel_rfl) (fun _ _=>zh rfl (dF z) rfl) (zT (by kernel_rfl) (zu ?_))))))
 by_cases Y:((List.length (List.map zm a.ah.ls):Nat):Int) > 4
 refine jT (dT Y) (sr (An rfl (rt (tR (bR (tR (tR (bR (tR (rs ?_))))))))))
 have cz:=F.pk []
 obtain rfl:_=false:=hr.symm.trans (et (iN E) (fE (et (u) (et (congrArg (fun q=>bV f q b) B) (et (ae y) (et (ip m) (et (ip h) (et (ae (bJ R)) (et (iN z) (ip Y))))))))))
 exact⟨rfl,cz⟩
 refine jF (dF Y) (sk (sr (Kz (.pointer (some ⟨g,3,none⟩)) (Lz (.slice a.ah.A a.ah.ls.length a.ah.c) F 0 Tryz.isAgg82 (fw (.int .i64 ((List.length (List.map zm a.ah.ls):Nat):Int)) (zy (e:=((a.ah.ls.length:Nat):Int)) yk (by rw [List.length_map])) (Mn rfl (bo ?_)))))))
 have cB:=F.pk [0]
 obtain⟨aX,aY⟩:∃ q:Nat→World→Prop,q=fun(i:Nat) w'=>Own w D w' [blk g (aM.cells a) 84]∧(i≤List.length (List.map zm a.ah.ls)∧dn b (zM a) (List.length (List.map zm a.ah.ls)) 0=dn b (zM a) ((List.length (List.map zm a.ah.ls)) - i) i):=⟨_,rfl⟩
 have Z:∀ {l:Nat} {w':World},aX l w'↔Own w D w' [blk g (aM.cells a) 84]∧l≤List.length (List.map zm a.ah.ls)∧dn b (zM a) (List.length (List.map zm a.ah.ls)) 0=dn b (zM a) ((List.length (List.map zm a.ah.ls)) - l) l:=by intros; subst aY; exact Iff.rfl
 refine Wp.loop (fun i:Nat=> [(2, .bool false),(45, .int .i64 ((i:Nat):Int)),(44, .int .i64 ((List.length (List.map zm a.ah.ls):Nat):Int)),(43, .slice a.ah.A a.ah.ls.length a.ah.c),(42, .pointer (some ⟨g,3,none⟩)),(41, .bool (decide (((List.length (List.map zm a.ah.ls):Nat):Int) > 4))),(40, .bool (decide (((List.length (List.map zm a.ah.ls):Nat):Int) > 4))),(39, .int .i64 ((List.length (List.map zm a.ah.ls):Nat):Int)),(38, .slice a.ah.A a.ah.ls.length a.ah.c),(37, .pointer (some ⟨g,3,none⟩)),(36, .bool (decide (a.aC≤r.aC))),(35, .bool (decide (a.aC≤r.aC))),(34, .bool (decide (a.aC≤r.aC))),(33, .bool (decide (a.aC≤r.aC))),(32, .int .i64 r.aC),(31, .pointer (some ⟨ab o,ao o+(b - 1) *4,none⟩)),(30, .pointer (some ⟨ab o,ao o+(b - 1) *4,none⟩)),(29, .int .i64 ((b - 1:Nat):Int)),(28, .int .i64 ((b:Nat):Int)),(27, .slice o f.length I),(26, .int .i64 a.aC),(25, .pointer (some ⟨g,0,none⟩)),(24, .bool (decide (((b:Nat):Int) > 0))),(23, .bool (decide (((b:Nat):Int) > 0))),(22, .int .i64 ((b:Nat):Int)),(21, .bool (!s)),(20, .bool (!s)),(19, .bool s),(18, .int .i64 a.aC),(17, .pointer (some ⟨g,0,none⟩)),(3, .int .i64 ((b:Nat):Int)),(4, .pointer (some ⟨g,0,none⟩)),(16, .agg (aM.cells a).toArray),(15, .pointer (some ⟨ab o,ao o+b *4,none⟩)),(14, .int .i64 ((b:Nat):Int)),(13, .bool (decide (((b:Nat):Int) < ((f.length:Nat):Int)))),(12, .int .i64 ((b:Nat):Int)),(11, .int .i64 ((f.length:Nat):Int)),(10, .slice o f.length I),(0, .slice o f.length I)]) aX (fun i=>(List.length (List.map zm a.ah.ls)) - i) 0 ⟨rfl,rfl,rfl,rfl,rfl,rfl,rfl,rfl,rfl,rfl,rfl,rfl,rfl,rfl,rfl,rfl,rfl,rfl,rfl,rfl,rfl,rfl,rfl,rfl,rfl,rfl,rfl,rfl,rfl,rfl,rfl,rfl,rfl,rfl,rfl,rfl,rfl,rfl,rfl,rfl,trivial⟩ (Z.2 ⟨cB,by omega,rfl⟩) ?_
 rintro l dY aZ
 show Wp _ _ _ [(2, .bool false),(45, .int .i64 ((l:Nat):Int)),(44, .int .i64 ((List.length (List.map zm a.ah.ls):Nat):Int)),(43, .slice a.ah.A a.ah.ls.length a.ah.c),(42, .pointer (some ⟨g,3,none⟩)),(41, .bool (decide (((List.length (List.map zm a.ah.ls):Nat):Int) > 4))),(40, .bool (decide (((List.length (List.map zm a.ah.ls):Nat):Int) > 4))),(39, .int .i64 ((List.length (List.map zm a.ah.ls):Nat):Int)),(38, .slice a.ah.A a.ah.ls.length a.ah.c),(37, .pointer (some ⟨g,3,none⟩)),(36, .bool (decide (a.aC≤r.aC))),(35, .bool (decide (a.aC≤r.aC))),(34, .bool (decide (a.aC≤r.aC))),(33, .bool (decide (a.aC≤r.aC))),(32, .int .i64 r.aC),(31, .pointer (some ⟨ab o,ao o+(b - 1) *4,none⟩)),(30, .pointer (some ⟨ab o,ao o+(b - 1) *4,none⟩)),(29, .int .i64 ((b - 1:Nat):Int)),(28, .int .i64 ((b:Nat):Int)),(27, .slice o f.length I),(26, .int .i64 a.aC),(25, .pointer (some ⟨g,0,none⟩)),(24, .bool (decide (((b:Nat):Int) > 0))),(23, .bool (decide (((b:Nat):Int) > 0))),(22, .int .i64 ((b:Nat):Int)),(21, .bool (!s)),(20, .bool (!s)),(19, .bool s),(18, .int .i64 a.aC),(17, .pointer (some ⟨g,0,none⟩)),(3, .int .i64 ((b:Nat):Int)),(4, .pointer (some ⟨g,0,none⟩)),(16, .agg (aM.cells a).toArray),(15, .pointer (some ⟨ab o,ao o+b *4,none⟩)),(14, .int .i64 ((b:Nat):Int)),(13, .bool (decide (((b:Nat):Int) < ((f.length:Nat):Int)))),(12, .int .i64 ((b:Nat):Int)),(11, .int .i64 ((f.length:Nat):Int)),(10, .slice o f.length I),(0, .slice o f.length I)] _ _
 obtain⟨aa,dI,af⟩:=Z.1 aZ
 refine sr (Kz (.bool (decide (((l:Nat):Int) < ((List.length (List.map zm a.ah.ls):Nat):Int)))) (nt (ze ?_)))
 by_cases bg:((l:Nat):Int) < ((List.length (List.map zm a.ah.ls):Nat):Int)
 refine jT (dT bg) (sk (ze (bo (sr ?_))))
 obtain⟨t,S⟩:=eH (ls:=a.ah.ls) (i:=l) az.len (by decide) (aa.ro (C _ (List.mem_of_getElem? p)).1) (by first | omega | (simp; done) | (simp; omega))
 have ak:=iY (rfl:List.map zm a.ah.ls=List.map zm a.ah.ls) S
 have dJ:=((C _ (List.mem_of_getElem? p)).2.2 _ (List.mem_of_getElem? S)).2
 refine fw (.pointer (some ⟨ab a.ah.A,ao a.ah.A+l *3,none⟩)) (zn (nk) rfl rfl ((aa.ro (C _ (List.mem_of_getElem? p)).1).addr (i:=l) (by omega)) (by omega)) (fw (.agg (az.cells t).toArray) (zi rfl (zD (cs:=(az.cells t)) Tryz.isAgg129 Tryz.sizeOf129 ((aa.ro (C _ (List.mem_of_getElem? p)).1).elem az.len S (by decide)))) ?_)
 refine dC [.bool false, .string ⟨List.toArray ([])⟩, .slice none 0 0] 129 aa ?_
 intro dZ d9 cO
 refine df (az.cells t) 0 cO Tryz.sizeOf129 ?_
 intro ed bi
 refine ns (La (az.cells t) bi 0 Tryz.isAgg129 Tryz.sizeOf129 ?_)
 obtain⟨aB,ag⟩:∃ q,iI (bX.mk t.dm t.aB (Ll.mk t.ax.ls))=q:=⟨_,rfl⟩
 obtain⟨ek,bq,bv,bz,dK⟩:=zt bi
 refine cl Tryz.call89 (lK _ _ (bX.mk t.dm t.aB (Ll.mk t.ax.ls)) t.ax.A t.ax.ls.length t.ax.c aB bq rfl (bv _ ((C _ (List.mem_of_getElem? p)).2.2 _ (List.mem_of_getElem? S)).1) (show t.ax.ls.length≤t.ax.c∧t.ax.ls.length≤9223372036854775807 from by omega) ag) ?_
 rintro _ eu ⟨rfl,bA⟩
 have bB:=bz _ _ bA
 refine Kz (.bool (!aB)) (nt ?_)
 rcases Cf (aB) with J | J
 refine jF (cn J) (zS (bN (zu (zb (fw (.int .i64 ((l+1:Nat):Int)) (zy (e:=IntKind.i64.wrap (((l:Nat):Int)+1)) yk (by rw [Cb _ (by omega)]; omega)) (Mz rfl (zq ?_)))))))
 have bC:=bB.pk [1]
 exact zH (l+1) ⟨rfl,rfl,rfl,rfl,rfl,rfl,rfl,rfl,rfl,rfl,rfl,rfl,rfl,rfl,rfl,rfl,rfl,rfl,rfl,rfl,rfl,rfl,rfl,rfl,rfl,rfl,rfl,rfl,rfl,rfl,rfl,rfl,rfl,rfl,rfl,rfl,rfl,rfl,rfl,rfl,trivial⟩ (Z.2 ⟨bC,by omega,et (af) (et (congrArg (fun q=>dn b (zM a) q l) (ow (n:=List.length (List.map zm a.ah.ls)) (i:=l) (by omega))) (et (ae (bJ ak)) (et (ae ag) (ip J))))⟩) (by show (List.length (List.map zm a.ah.ls)) - (l+1) < (List.length (List.map zm a.ah.ls)) - l; omega)
 refine jT (cn J) (sr (An rfl (rt (bR (tR (tR (bR (bR (tR (tR (bR (tR (rs ?_)))))))))))))
 have bD:=bB.pk []
 obtain rfl:_=false:=hr.symm.trans (et (iN E) (fE (et (u) (et (congrArg (fun q=>bV f q b) B) (et (ae y) (et (ip m) (et (ip h) (et (ae (bJ R)) (et (iN z) (et (iN Y) (mi (et (af) (et (congrArg (fun q=>dn b (zM a) q l) (ow (n:=List.length (List.map zm a.ah.ls)) (i:=l) (by omega))) (et (ae (bJ ak)) (et (ae ag) (jV J))))))))))))))))
 exact⟨rfl,bD⟩
 refine jF (dF bg) (Wp.exit (zk ?_))
 have aC:dn b (zM a) (List.length (List.map zm a.ah.ls)) 0=Sum.inl ():=et (af) (et (congrArg (fun q=>dn b (zM a) q l) (qC (n:=List.length (List.map zm a.ah.ls)) (i:=l) (by omega))) rfl)
 refine zk (zA (bN (zu (zb (fw (.int .i64 ((b+1:Nat):Int)) (zy (e:=IntKind.i64.wrap (((b:Nat):Int)+1)) yk (by rw [Cb _ (by omega)]; omega)) (Mz rfl (zq ?_)))))))
 have bE:=aa.pk []
 exact zH (b+1) ⟨rfl,rfl,rfl,rfl,rfl,trivial⟩ (Q.2 ⟨bE,by omega,et (u) (et (congrArg (fun q=>bV f q b) B) (et (ae y) (et (ip m) (et (ip h) (et (ae (bJ R)) (et (iN z) (et (iN Y) (nQ aC))))))))⟩) (by show f.length - (b+1) < f.length - b; omega)
 refine zw (rs:= []) 8 rfl rfl rfl (dF h) (by kernel_rfl) (zw (rs:= []) 9 rfl rfl rfl (dF h) (by kernel_rfl) (zw (rs:= []) 10 rfl rfl rfl (dF h) (by kernel_rfl) (zw (rs:= []) 11 rfl rfl rfl (dF h) (by kernel_rfl) (zw (rs:= []) 12 rfl rfl rfl (dF h) (by kernel_rfl) (zw (rs:= []) 13 rfl rfl rfl (dF h) (by kernel_rfl) (zw (rs:= []) 14 rfl rfl rfl (dF h) (by kernel_rfl) (zw (rs:= []) 15 rfl rfl rfl (dF h) (by kernel_rfl) (zw (rs:= []) 16 rfl rfl rfl (dF h) (by kernel_rfl) (zl (v:= .bool false) (rs:= []) 17 rfl rfl rfl (cn m) (by kernel_rfl) (fun _ _=>zh rfl (dF h) rfl) (GX.take (v:= .bool false) (rs:= []) 18 rfl (by kernel_rfl) (fun _ _=>zh rfl (cn m) rfl) (GX.take (v:= .bool false) (rs:= []) 19 rfl (by kernel_rfl) (fun _ _=>zo rfl) (zl (v:= .pointer (some ⟨g,3,none⟩)) (rs:= []) 20 rfl rfl rfl rfl (by kernel_rfl) (fun _ _=>yk) (zl (v:= .slice a.ah.A a.ah.ls.length a.ah.c) (rs:= []) 21 rfl rfl rfl rfl (by kernel_rfl) (fun _ ⟨_,V⟩=>zi rfl (bf.one Tryz.isAgg82 (zJ (V.cls (i:=0) rfl) rfl))) (zl (v:= .int .i64 ((List.length (List.map zm a.ah.ls):Nat):Int)) (rs:= []) 22 rfl rfl rfl rfl (by kernel_rfl) (fun _ _=>zy (e:=((a.ah.ls.length:Nat):Int)) yk (by rw [List.length_map])) (zl (v:= .bool (decide (((List.length (List.map zm a.ah.ls):Nat):Int) > 4))) (rs:= []) 23 rfl rfl rfl rfl (by kernel_rfl) (fun _ _=>yk) (GX.take (v:= .bool (decide (((List.length (List.map zm a.ah.ls):Nat):Int) > 4))) (rs:= []) 24 rfl (by kernel_rfl) (fun _ _=>zh rfl rfl rfl) (zT (by kernel_rfl) (zu ?_))))))))))))))))))
 by_cases K:((List.length (List.map zm a.ah.ls):Nat):Int) > 4
 refine jT (dT K) (sr (An rfl (rt (tR (bR (tR (tR (bR (tR (rs ?_))))))))))
 have bF:=F.pk []
 obtain rfl:_=false:=hr.symm.trans (et (iN E) (fE (et (u) (et (congrArg (fun q=>bV f q b) B) (et (ae y) (et (ip m) (et (iN h) (ip K))))))))
 exact⟨rfl,bF⟩
 refine jF (dF K) (sk (sr (Kz (.pointer (some ⟨g,3,none⟩)) (Lz (.slice a.ah.A a.ah.ls.length a.ah.c) F 0 Tryz.isAgg82 (fw (.int .i64 ((List.length (List.map zm a.ah.ls):Nat):Int)) (zy (e:=((a.ah.ls.length:Nat):Int)) yk (by rw [List.length_map])) (Mn rfl (bo ?_)))))))
 have bG:=F.pk [0]
 obtain⟨au,aD⟩:∃ q:Nat→World→Prop,q=fun(i:Nat) w'=>Own w D w' [blk g (aM.cells a) 84]∧(i≤List.length (List.map zm a.ah.ls)∧fQ b (zM a) (List.length (List.map zm a.ah.ls)) 0=fQ b (zM a) ((List.length (List.map zm a.ah.ls)) - i) i):=⟨_,rfl⟩
 have N:∀ {d:Nat} {w':World},au d w'↔Own w D w' [blk g (aM.cells a) 84]∧d≤List.length (List.map zm a.ah.ls)∧fQ b (zM a) (List.length (List.map zm a.ah.ls)) 0=fQ b (zM a) ((List.length (List.map zm a.ah.ls)) - d) d:=by intros; subst aD; exact Iff.rfl
 refine Wp.loop (fun i:Nat=> [(2, .bool false),(45, .int .i64 ((i:Nat):Int)),(44, .int .i64 ((List.length (List.map zm a.ah.ls):Nat):Int)),(43, .slice a.ah.A a.ah.ls.length a.ah.c),(42, .pointer (some ⟨g,3,none⟩)),(41, .bool (decide (((List.length (List.map zm a.ah.ls):Nat):Int) > 4))),(40, .bool (decide (((List.length (List.map zm a.ah.ls):Nat):Int) > 4))),(39, .int .i64 ((List.length (List.map zm a.ah.ls):Nat):Int)),(38, .slice a.ah.A a.ah.ls.length a.ah.c),(37, .pointer (some ⟨g,3,none⟩)),(36, .bool false),(35, .bool false),(34, .bool false),(33,undef),(32,undef),(31,undef),(30,undef),(29,undef),(28,undef),(27,undef),(26,undef),(25,undef),(24, .bool (decide (((b:Nat):Int) > 0))),(23, .bool (decide (((b:Nat):Int) > 0))),(22, .int .i64 ((b:Nat):Int)),(21, .bool (!s)),(20, .bool (!s)),(19, .bool s),(18, .int .i64 a.aC),(17, .pointer (some ⟨g,0,none⟩)),(3, .int .i64 ((b:Nat):Int)),(4, .pointer (some ⟨g,0,none⟩)),(16, .agg (aM.cells a).toArray),(15, .pointer (some ⟨ab o,ao o+b *4,none⟩)),(14, .int .i64 ((b:Nat):Int)),(13, .bool (decide (((b:Nat):Int) < ((f.length:Nat):Int)))),(12, .int .i64 ((b:Nat):Int)),(11, .int .i64 ((f.length:Nat):Int)),(10, .slice o f.length I),(0, .slice o f.length I)]) au (fun i=>(List.length (List.map zm a.ah.ls)) - i) 0 ⟨rfl,rfl,rfl,rfl,rfl,rfl,rfl,rfl,rfl,rfl,rfl,rfl,rfl,rfl,rfl,rfl,rfl,rfl,rfl,rfl,rfl,rfl,rfl,rfl,rfl,rfl,rfl,rfl,rfl,rfl,rfl,rfl,rfl,rfl,rfl,rfl,rfl,rfl,rfl,rfl,trivial⟩ (N.2 ⟨bG,by omega,rfl⟩) ?_
 rintro d dL aF
 show Wp _ _ _ [(2, .bool false),(45, .int .i64 ((d:Nat):Int)),(44, .int .i64 ((List.length (List.map zm a.ah.ls):Nat):Int)),(43, .slice a.ah.A a.ah.ls.length a.ah.c),(42, .pointer (some ⟨g,3,none⟩)),(41, .bool (decide (((List.length (List.map zm a.ah.ls):Nat):Int) > 4))),(40, .bool (decide (((List.length (List.map zm a.ah.ls):Nat):Int) > 4))),(39, .int .i64 ((List.length (List.map zm a.ah.ls):Nat):Int)),(38, .slice a.ah.A a.ah.ls.length a.ah.c),(37, .pointer (some ⟨g,3,none⟩)),(36, .bool false),(35, .bool false),(34, .bool false),(33,undef),(32,undef),(31,undef),(30,undef),(29,undef),(28,undef),(27,undef),(26,undef),(25,undef),(24, .bool (decide (((b:Nat):Int) > 0))),(23, .bool (decide (((b:Nat):Int) > 0))),(22, .int .i64 ((b:Nat):Int)),(21, .bool (!s)),(20, .bool (!s)),(19, .bool s),(18, .int .i64 a.aC),(17, .pointer (some ⟨g,0,none⟩)),(3, .int .i64 ((b:Nat):Int)),(4, .pointer (some ⟨g,0,none⟩)),(16, .agg (aM.cells a).toArray),(15, .pointer (some ⟨ab o,ao o+b *4,none⟩)),(14, .int .i64 ((b:Nat):Int)),(13, .bool (decide (((b:Nat):Int) < ((f.length:Nat):Int)))),(12, .int .i64 ((b:Nat):Int)),(11, .int .i64 ((f.length:Nat):Int)),(10, .slice o f.length I),(0, .slice o f.length I)] _ _
 obtain⟨L,cZ,O⟩:=N.1 aF
 refine sr (Kz (.bool (decide (((d:Nat):Int) < ((List.length (List.map zm a.ah.ls):Nat):Int)))) (nt (ze ?_)))
 by_cases av:((d:Nat):Int) < ((List.length (List.map zm a.ah.ls):Nat):Int)
 refine jT (dT av) (sk (ze (bo (sr ?_))))
 obtain⟨j,G⟩:=eH (ls:=a.ah.ls) (i:=d) az.len (by decide) (L.ro (C _ (List.mem_of_getElem? p)).1) (by first | omega | (simp; done) | (simp; omega))
 have ah:=iY (rfl:List.map zm a.ah.ls=List.map zm a.ah.ls) G
 have di:=((C _ (List.mem_of_getElem? p)).2.2 _ (List.mem_of_getElem? G)).2
 refine fw (.pointer (some ⟨ab a.ah.A,ao a.ah.A+d *3,none⟩)) (zn (nk) rfl rfl ((L.ro (C _ (List.mem_of_getElem? p)).1).addr (i:=d) (by omega)) (by omega)) (fw (.agg (az.cells j).toArray) (zi rfl (zD (cs:=(az.cells j)) Tryz.isAgg129 Tryz.sizeOf129 ((L.ro (C _ (List.mem_of_getElem? p)).1).elem az.len G (by decide)))) ?_)
 refine dC [.bool false, .string ⟨List.toArray ([])⟩, .slice none 0 0] 129 L ?_
 intro dM dN bH
 refine df (az.cells j) 0 bH Tryz.sizeOf129 ?_
 intro dO ax
 refine ns (La (az.cells j) ax 0 Tryz.isAgg129 Tryz.sizeOf129 ?_)
 obtain⟨ai,P⟩:∃ q,iI (bX.mk j.dm j.aB (Ll.mk j.ax.ls))=q:=⟨_,rfl⟩
 obtain⟨dP,aG,aH,aI,dm⟩:=zt ax
 refine cl Tryz.call89 (lK _ _ (bX.mk j.dm j.aB (Ll.mk j.ax.ls)) j.ax.A j.ax.ls.length j.ax.c ai aG rfl (aH _ ((C _ (List.mem_of_getElem? p)).2.2 _ (List.mem_of_getElem? G)).1) (show j.ax.ls.length≤j.ax.c∧j.ax.ls.length≤9223372036854775807 from by omega) P) ?_
 rintro _ dQ ⟨rfl,aJ⟩
 have ay:=aI _ _ aJ
 refine Kz (.bool (!ai)) (nt ?_)
 rcases Cf (ai) with M | M
 refine jF (cn M) (zS (bN (zu (zb (fw (.int .i64 ((d+1:Nat):Int)) (zy (e:=IntKind.i64.wrap (((d:Nat):Int)+1)) yk (by rw [Cb _ (by omega)]; omega)) (Mz rfl (zq ?_)))))))
 have bI:=ay.pk [1]
 exact zH (d+1) ⟨rfl,rfl,rfl,rfl,rfl,rfl,rfl,rfl,rfl,rfl,rfl,rfl,rfl,rfl,rfl,rfl,rfl,rfl,rfl,rfl,rfl,rfl,rfl,rfl,rfl,rfl,rfl,rfl,rfl,rfl,rfl,rfl,rfl,rfl,rfl,rfl,rfl,rfl,rfl,rfl,trivial⟩ (N.2 ⟨bI,by omega,et (O) (et (congrArg (fun q=>fQ b (zM a) q d) (ow (n:=List.length (List.map zm a.ah.ls)) (i:=d) (by omega))) (et (ae (bJ ah)) (et (ae P) (ip M))))⟩) (by show (List.length (List.map zm a.ah.ls)) - (d+1) < (List.length (List.map zm a.ah.ls)) - d; omega)
 refine jT (cn M) (sr (An rfl (rt (bR (tR (tR (bR (bR (tR (tR (bR (tR (rs ?_)))))))))))))
 have bK:=ay.pk []
 obtain rfl:_=false:=hr.symm.trans (et (iN E) (fE (et (u) (et (congrArg (fun q=>bV f q b) B) (et (ae y) (et (ip m) (et (iN h) (et (iN K) (mi (et (O) (et (congrArg (fun q=>fQ b (zM a) q d) (ow (n:=List.length (List.map zm a.ah.ls)) (i:=d) (by omega))) (et (ae (bJ ah)) (et (ae P) (jV M))))))))))))))
 exact⟨rfl,bK⟩
 refine jF (dF av) (Wp.exit (zk ?_))
 have aK:fQ b (zM a) (List.length (List.map zm a.ah.ls)) 0=Sum.inl ():=et (O) (et (congrArg (fun q=>fQ b (zM a) q d) (qC (n:=List.length (List.map zm a.ah.ls)) (i:=d) (by omega))) rfl)
 refine zk (zA (bN (zu (zb (fw (.int .i64 ((b+1:Nat):Int)) (zy (e:=IntKind.i64.wrap (((b:Nat):Int)+1)) yk (by rw [Cb _ (by omega)]; omega)) (Mz rfl (zq ?_)))))))
 have bL:=L.pk []
 exact zH (b+1) ⟨rfl,rfl,rfl,rfl,rfl,trivial⟩ (Q.2 ⟨bL,by omega,et (u) (et (congrArg (fun q=>bV f q b) B) (et (ae y) (et (ip m) (et (iN h) (et (iN K) (nQ aK))))))⟩) (by show f.length - (b+1) < f.length - b; omega)
 refine zw (rs:= []) 5 rfl rfl rfl (cn m) (by kernel_rfl) (zw (rs:= []) 6 rfl rfl rfl (cn m) (by kernel_rfl) (zw (rs:= []) 7 rfl rfl rfl (cn m) (by kernel_rfl) (zW (rs:= []) 8 rfl rfl rfl (by kernel_rfl) (zW (rs:= []) 9 rfl rfl rfl (by kernel_rfl) (zW (rs:= []) 10 rfl rfl rfl (by kernel_rfl) (zW (rs:= []) 11 rfl rfl rfl (by kernel_rfl) (zW (rs:= []) 12 rfl rfl rfl (by kernel_rfl) (zW (rs:= []) 13 rfl rfl rfl (by kernel_rfl) (zW (rs:= []) 14 rfl rfl rfl (by kernel_rfl) (zW (rs:= []) 15 rfl rfl rfl (by kernel_rfl) (zW (rs:= []) 16 rfl rfl rfl (by kernel_rfl) (zw (rs:= []) 17 rfl rfl rfl (cn m) (by kernel_rfl) (GX.take (v:= .bool true) (rs:= []) 18 rfl (by kernel_rfl) (fun _ _=>zf rfl (cn m) rfl) (GX.take (v:= .bool true) (rs:= []) 19 rfl (by kernel_rfl) (fun _ _=>zo rfl) (zw (rs:= []) 20 rfl rfl rfl rfl (by kernel_rfl) (zw (rs:= []) 21 rfl rfl rfl rfl (by kernel_rfl) (zw (rs:= []) 22 rfl rfl rfl rfl (by kernel_rfl) (zw (rs:= []) 23 rfl rfl rfl rfl (by kernel_rfl) (GX.take (v:= .bool true) (rs:= []) 24 rfl (by kernel_rfl) (fun _ _=>zf rfl rfl rfl) (zT (by kernel_rfl) (zu (jt (sr (An rfl (rt (tR (bR (tR (tR (bR (tR (rs ?_))))))))))))))))))))))))))))))))
 have bM:=F.pk []
 obtain rfl:_=false:=hr.symm.trans (et (iN E) (fE (et (u) (et (congrArg (fun q=>bV f q b) B) (et (ae y) (jV m))))))
 exact⟨rfl,bM⟩
 refine jF (dF aS) (Wp.exit (zk ?_))
 have aL:bV f f 0=Sum.inl ():=et (u) (et (congrArg (fun q=>bV f q b) (eF (ls:=f) (i:=b) (by omega))) rfl)
 refine zk (zA (zu (sr (An rfl (rt (rs ?_))))))
 have bO:=U.pk []
 obtain rfl:_=true:=hr.symm.trans (et (iN E) (gL aL))
 exact⟨rfl,bO⟩
def bH (c:bK):Int:=
 bnd (dh c.af 4) fun d=>if d=true then if((c.au:Nat):Int) < 2147483648 then bnd (jO c) fun e=>if e=true then bnd (jM c) fun f=>if f=true then bnd (j5 c.aG.ls) fun g=>bnd (bY g) fun h=>h else bnd (bY false) fun i=>i else bnd (bY false) fun j=>j else bnd (bY false) fun a=>a else bnd (bY false) fun b=>b
set_option maxHeartbeats 1000000 in
theorem kw (w:World) (D:Nat→Prop) (a:bK) (h:Option Addr) (P e:Nat) (i:Option Addr) (Q f:Nat) (z:List ak) (g:Option Addr) (R d:Nat) (n:List aM) (r0:Int) (H:Own w D w []) (Z:P=a.ag.ls.length) (G:Ro w D fun w'=>bn w' 2 h a.ag.ls.length (List.flatMap aH.cells a.ag.ls)) (bF:a.ag.ls.length≤e∧a.ag.ls.length≤9223372036854775807) (B:List.map zz z=a.ai.ls) (aa:Q=a.ai.ls.length) (I:Ro w D fun w'=>bn w' 5 i a.ai.ls.length (List.flatMap ak.cells z)) (bG:a.ai.ls.length≤f∧a.ai.ls.length≤9223372036854775807) (u:∀ x ∈ z,Ro w D (fun w'=>bn w' 1 x.af.A x.af.ls.length (List.flatMap (eI .i64) x.af.ls))∧(x.af.ls.length≤x.af.c∧x.af.ls.length≤9223372036854775807)) (y:List.map zM n=a.aG.ls) (af:R=a.aG.ls.length) (C:Ro w D fun w'=>bn w' 4 g a.aG.ls.length (List.flatMap aM.cells n)) (bI:a.aG.ls.length≤d∧a.aG.ls.length≤9223372036854775807) (b:∀ x ∈ n,Ro w D (fun w'=>bn w' 3 x.ah.A x.ah.ls.length (List.flatMap az.cells x.ah.ls))∧(x.ah.ls.length≤x.ah.c∧x.ah.ls.length≤9223372036854775807)∧(∀ E ∈ x.ah.ls,Ro w D (fun w'=>bn w' 2 E.ax.A E.ax.ls.length (List.flatMap bu.cells E.ax.ls))∧(E.ax.ls.length≤E.ax.c∧E.ax.ls.length≤9223372036854775807))) (dz:a.ag.ls.length≤140737488355328∧a.ai.ls.length≤140737488355328∧a.aG.ls.length≤140737488355328) (hr:bH a=r0):
    Calls Tryz.prog 13 #[.agg #[.int .i64 a.af, .int .u64 ((a.au:Nat):Int), .int .u64 ((a.aY:Nat):Int), .int .u64 ((a.aK:Nat):Int), .slice h P e, .slice i Q f, .slice g R d]] w (dE fun v w'=>v= .int .i64 r0∧Own w D w' []):=by
 subst Z aa af
 have hdl0x1:=bS B
 have hdl0x2:=bS y
 refine zg (args:= [.agg #[.int .i64 a.af, .int .u64 ((a.au:Nat):Int), .int .u64 ((a.aY:Nat):Int), .int .u64 ((a.aK:Nat):Int), .slice h a.ag.ls.length e, .slice i a.ai.ls.length f, .slice g a.aG.ls.length d]]) Tryz.func13 rfl rfl rfl ?_
 show Wp _ _ _ [(0, .agg #[.int .i64 a.af, .int .u64 ((a.au:Nat):Int), .int .u64 ((a.aY:Nat):Int), .int .u64 ((a.aK:Nat):Int), .slice h a.ag.ls.length e, .slice i a.ai.ls.length f, .slice g a.aG.ls.length d])] _ _
 refine sr ?_
 refine dC [.int .i64 a.af, .int .u64 ((a.au:Nat):Int), .int .u64 ((a.aY:Nat):Int), .int .u64 ((a.aK:Nat):Int), .slice h a.ag.ls.length e, .slice i a.ai.ls.length f, .slice g a.aG.ls.length d] 35 H ?_
 intro ag dA aD
 refine Ar rfl (Kz (.pointer (some ⟨ag,0,none⟩)) (Lz (.int .i64 a.af) aD 0 Tryz.isAgg3 ?_))
 obtain⟨aF,o⟩:∃ q,dh a.af 4=q:=⟨_,rfl⟩
 obtain⟨dB,aG,bW,aI,bX⟩:=zt aD
 refine cl Tryz.call38 (iD _ _ a.af 4 aF aG o) ?_
 rintro _ dD ⟨rfl,aJ⟩
 have J:=aI _ _ aJ
 refine Mz rfl ?_
 rcases Cf (aF) with j | j
 refine Gz (.pointer (some ⟨ag,1,none⟩)) j (Gl (.int .u64 ((a.au:Nat):Int)) j J 0 Tryz.isAgg22 (Gz (.bool (decide (((a.au:Nat):Int) < 2147483648))) j (fw (.bool (decide (((a.au:Nat):Int) < 2147483648))) (zf rfl j rfl) (Mz rfl ?_))))
 by_cases l:((a.au:Nat):Int) < 2147483648
 refine Ga ([.int .i64 a.af, .int .u64 ((a.au:Nat):Int), .int .u64 ((a.aY:Nat):Int), .int .u64 ((a.aK:Nat):Int), .slice h a.ag.ls.length e, .slice i a.ai.ls.length f, .slice g a.aG.ls.length d]) (dT l) J 0 Tryz.isAgg35 Tryz.sizeOf35 ?_
 obtain⟨ah,F⟩:∃ q,jO a=q:=⟨_,rfl⟩
 obtain⟨dG,aK,p,aL,bZ⟩:=zt J
 refine mg (decide_eq_true l) Tryz.call45 (og _ _ a h a.ag.ls.length e i a.ai.ls.length f z g a.aG.ls.length d n ah aK rfl (p _ G) (show a.ag.ls.length≤e∧a.ag.ls.length≤9223372036854775807 from by omega) B rfl (p _ I) (show a.ai.ls.length≤f∧a.ai.ls.length≤9223372036854775807 from by omega) (fun r s=>⟨p _ (u r s).1,(u r s).2⟩) y rfl (p _ C) (show a.aG.ls.length≤d∧a.aG.ls.length≤9223372036854775807 from by omega) (fun r s=>⟨p _ (b r s).1,(b r s).2.1,(fun E S=>⟨p _ ((b r s).2.2 E S).1,((b r s).2.2 E S).2⟩)⟩) (by first | omega | (dsimp only; omega) | (simp only [List.length_nil]; omega) | decide) F) ?_
 rintro _ dH ⟨rfl,aN⟩
 have ai:=aL _ _ aN
 refine fw (.bool ah) (zf rfl (dT l) rfl) (Mz rfl ?_)
 rcases Cf (ah) with m | m
 refine Ga ([.int .i64 a.af, .int .u64 ((a.au:Nat):Int), .int .u64 ((a.aY:Nat):Int), .int .u64 ((a.aK:Nat):Int), .slice h a.ag.ls.length e, .slice i a.ai.ls.length f, .slice g a.aG.ls.length d]) m ai 0 Tryz.isAgg35 Tryz.sizeOf35 ?_
 obtain⟨aj,K⟩:∃ q,jM a=q:=⟨_,rfl⟩
 obtain⟨dI,aO,t,aP,cu⟩:=zt ai
 refine Ap rfl rfl m rfl (zI Tryz.call46 rfl (nS _ _ a h a.ag.ls.length e i a.ai.ls.length f z g a.aG.ls.length d n aj aO rfl (t _ G) (show a.ag.ls.length≤e∧a.ag.ls.length≤9223372036854775807 from by omega) B rfl (t _ I) (show a.ai.ls.length≤f∧a.ai.ls.length≤9223372036854775807 from by omega) (fun r s=>⟨t _ (u r s).1,(u r s).2⟩) y rfl (t _ C) (show a.aG.ls.length≤d∧a.aG.ls.length≤9223372036854775807 from by omega) (fun r s=>⟨t _ (b r s).1,(b r s).2.1,(fun E S=>⟨t _ ((b r s).2.2 E S).1,((b r s).2.2 E S).2⟩)⟩) (by first | omega | (dsimp only; omega) | (simp only [List.length_nil]; omega) | decide) K) ?_)
 rintro _ dJ ⟨rfl,aQ⟩
 have au:=aP _ _ aQ
 refine fw (.bool aj) (zf rfl m rfl) (Mz rfl ?_)
 rcases Cf (aj) with k | k
 refine Gz (.pointer (some ⟨ag,6,none⟩)) k (Gl (.slice g a.aG.ls.length d) k au 0 Tryz.isAgg33 ?_)
 obtain⟨O,T⟩:∃ q,j5 a.aG.ls=q:=⟨_,rfl⟩
 obtain⟨dK,aR,L,aS,cz⟩:=zt au
 refine Ap rfl rfl k rfl (zI Tryz.call47 rfl (o7 _ _ g a.aG.ls.length d n a.aG.ls O aR y (L _ C) (fun r s=>⟨L _ (b r s).1,(b r s).2.1,(fun E S=>⟨L _ ((b r s).2.2 E S).1,((b r s).2.2 E S).2⟩)⟩) rfl (by omega) T) ?_)
 rintro _ dL ⟨rfl,aT⟩
 have bJ:=aS _ _ aT
 refine fw (.bool O) (zf rfl k rfl) ?_
 obtain⟨aU,U⟩:∃ q,bY O=q:=⟨_,rfl⟩
 obtain⟨dM,aV,cB,aW,cK⟩:=zt bJ
 refine cl Tryz.call37 (gW _ _ O aU aV U) ?_
 rintro _ dN ⟨rfl,aX⟩
 have bL:=aW _ _ aX
 refine An rfl (rt (rs ?_))
 have bM:=bL.pk []
 obtain rfl:_=aU:=hr.symm.trans (et (ae o) (et (ip j) (et (ip l) (et (ae F) (et (ip m) (et (ae K) (et (ip k) (et (ae T) (ae U)))))))))
 exact⟨rfl,bM⟩
 refine Sz k (Sz k (Sz k (fw (.bool false) (zh rfl k rfl) ?_)))
 obtain⟨aY,V⟩:∃ q,bY false=q:=⟨_,rfl⟩
 obtain⟨dO,aZ,cO,bf,cZ⟩:=zt au
 refine cl Tryz.call37 (gW _ _ false aY aZ V) ?_
 rintro _ dP ⟨rfl,bg⟩
 have bN:=bf _ _ bg
 refine An rfl (rt (rs ?_))
 have bO:=bN.pk []
 obtain rfl:_=aY:=hr.symm.trans (et (ae o) (et (ip j) (et (ip l) (et (ae F) (et (ip m) (et (ae K) (et (jV k) (ae V))))))))
 exact⟨rfl,bO⟩
 refine Sz m (Sz m (fw (.bool false) (zh rfl m rfl) (Mz rfl (Sz rfl (Sz rfl (Sz rfl (fw (.bool false) (zh rfl rfl rfl) ?_)))))))
 obtain⟨bi,W⟩:∃ q,bY false=q:=⟨_,rfl⟩
 obtain⟨dQ,bq,df,bv,di⟩:=zt ai
 refine cl Tryz.call37 (gW _ _ false bi bq W) ?_
 rintro _ dR ⟨rfl,bz⟩
 have bP:=bv _ _ bz
 refine An rfl (rt (rs ?_))
 have bA:=bP.pk []
 obtain rfl:_=bi:=hr.symm.trans (et (ae o) (et (ip j) (et (ip l) (et (ae F) (et (jV m) (ae W))))))
 exact⟨rfl,bA⟩
 refine Sz (dF l) (Sz (dF l) (fw (.bool false) (zh rfl (dF l) rfl) (Mz rfl (Sz rfl (Sz rfl (fw (.bool false) (zh rfl rfl rfl) (Mz rfl (Sz rfl (Sz rfl (Sz rfl (fw (.bool false) (zh rfl rfl rfl) ?_)))))))))))
 obtain⟨X,M⟩:∃ q,bY false=q:=⟨_,rfl⟩
 obtain⟨dm,av,bQ,ax,bR⟩:=zt J
 refine cl Tryz.call37 (gW _ _ false X av M) ?_
 rintro _ dn ⟨rfl,ay⟩
 have bB:=ax _ _ ay
 refine An rfl (rt (rs ?_))
 have bC:=bB.pk []
 obtain rfl:_=X:=hr.symm.trans (et (ae o) (et (ip j) (et (iN l) (ae M))))
 exact⟨rfl,bC⟩
 refine Sz j (Sz j (Sz j (fw (.bool false) (zh rfl j rfl) (Mz rfl (Sz rfl (Sz rfl (fw (.bool false) (zh rfl rfl rfl) (Mz rfl (Sz rfl (Sz rfl (fw (.bool false) (zh rfl rfl rfl) (Mz rfl (Sz rfl (Sz rfl (Sz rfl (fw (.bool false) (zh rfl rfl rfl) ?_))))))))))))))))
 obtain⟨Y,N⟩:∃ q,bY false=q:=⟨_,rfl⟩
 obtain⟨dw,aA,bT,aB,bU⟩:=zt J
 refine cl Tryz.call37 (gW _ _ false Y aA N) ?_
 rintro _ dx ⟨rfl,aC⟩
 have bD:=aB _ _ aC
 refine An rfl (rt (rs ?_))
 have bE:=bD.pk []
 obtain rfl:_=Y:=hr.symm.trans (et (ae o) (et (jV j) (ae N)))
 exact⟨rfl,bE⟩
end Go.Proofs.YtcnkpjheifkgnaaGreat
