/-
 record: the layers below; which states may be.
-/
import Derived.Test.YtcnkpjheifkgnaaGreatKq
import Derived.Test.YtcnkpjheifkgnaaGreatKx
import Derived.Test.YtcnkpjheifkgnaaGreatKy
import Derived.Test.YtcnkpjheifkgnaaGreatKs
namespace Go.Proofs.YtcnkpjheifkgnaaGreat
set_option maxRecDepth 100000
open Go.RowKit
set_option linter.unusedVariables false
set_option linter.unusedSectionVars false
set_option linter.unusedSimpArgs false
theorem mX:Elem Tryz.prog 23 54 2 24:=jJ (z:= .agg #[.string ⟨List.toArray ([])⟩, .int .i64 0]) Tryz.underlying23 (by kernel_rfl) rfl (by decide)
structure aC where
 aJ:List UInt8
 gm:Int
def aC.cells (x:aC):List Value:= [.string ⟨List.toArray x.aJ⟩, .int .i64 x.gm]
instance:Bk aC:=⟨fun x _=>bk x.aJ+(bk x.gm+(0))⟩
theorem aC.len:∀ x,(aC.cells x).length=2:=fun _=>rfl
theorem aC.one:∀ x, ∀ u ∈ aC.cells x,u.oneCell'=true:=fun x u hu=>by
 simp only [aC.cells,List.mem_cons,List.not_mem_nil,or_false] at hu
 rcases hu with rfl | rfl <;> rfl
def zu (w:World) (x:aC):Prop:=(x.aJ.length≤140737488351232)∧((-9223372036854775808)≤x.gm∧x.gm≤9223372036854775807)
theorem nL (w:World):gq Tryz.prog w 54 2 aC.cells (zu w):=
 (gX (sz:=2) Tryz.underlying54 (by kernel_rfl) (bO.cons (i:=0) (off:=0) (s:=1) rfl rfl (iA Tryz.underlying9 (by kernel_rfl)) (bO.cons (i:=1) (off:=1) (s:=1) rfl rfl (jE (k:= .i64) (lo:= -9223372036854775808) (hi:=9223372036854775807) Tryz.underlying3 (by kernel_rfl) (by decide) (by decide)) bO.nil))).map (fun p=>⟨p.1,p.2.1⟩) aC.len (fun _=>rfl) (fun _ h=>⟨h.1,h.2.1⟩) fun _=>Nat.le_refl _
instance:Inhabited aC:=⟨⟨default,default⟩⟩
theorem qF:Elem Tryz.prog 24 66 2 32:=jJ (z:= .agg #[.int .u64 0, .slice none 0 0]) Tryz.underlying24 (by kernel_rfl) rfl (by decide)
theorem rF:Elem Tryz.prog 64 74 6 80:=jJ (z:= .agg #[.int .i64 0, .string ⟨List.toArray ([])⟩, .string ⟨List.toArray ([])⟩, .string ⟨List.toArray ([])⟩, .string ⟨List.toArray ([])⟩, .int .i64 0]) Tryz.underlying64 (by kernel_rfl) rfl (by decide)
structure aW where
 aT:Int
 aY:List UInt8
 aB:List UInt8
 aJ:List UInt8
 aO:List UInt8
 bD:Int
def aW.cells (x:aW):List Value:= [.int .i64 x.aT, .string ⟨List.toArray x.aY⟩, .string ⟨List.toArray x.aB⟩, .string ⟨List.toArray x.aJ⟩, .string ⟨List.toArray x.aO⟩, .int .i64 x.bD]
instance:Bk aW:=⟨fun x _=>bk x.aT+(bk x.aY+(bk x.aB+(bk x.aJ+(bk x.aO+(bk x.bD+(0))))))⟩
theorem aW.len:∀ x,(aW.cells x).length=6:=fun _=>rfl
theorem aW.one:∀ x, ∀ u ∈ aW.cells x,u.oneCell'=true:=fun x u hu=>by
 simp only [aW.cells,List.mem_cons,List.not_mem_nil,or_false] at hu
 rcases hu with rfl | rfl | rfl | rfl | rfl | rfl <;> rfl
def Aa (w:World) (x:aW):Prop:=((-9223372036854775808)≤x.aT∧x.aT≤9223372036854775807)∧(x.aY.length≤140737488351232)∧(x.aB.length≤140737488351232)∧(x.aJ.length≤140737488351232)∧(x.aO.length≤140737488351232)∧((-9223372036854775808)≤x.bD∧x.bD≤9223372036854775807)
theorem si (w:World):gq Tryz.prog w 74 6 aW.cells (Aa w):=
 (gX (sz:=6) Tryz.underlying74 (by kernel_rfl) (bO.cons (i:=0) (off:=0) (s:=1) rfl rfl (jE (k:= .i64) (lo:= -9223372036854775808) (hi:=9223372036854775807) Tryz.underlying3 (by kernel_rfl) (by decide) (by decide)) (bO.cons (i:=1) (off:=1) (s:=1) rfl rfl (iA Tryz.underlying9 (by kernel_rfl)) (bO.cons (i:=2) (off:=2) (s:=1) rfl rfl (iA Tryz.underlying9 (by kernel_rfl)) (bO.cons (i:=3) (off:=3) (s:=1) rfl rfl (iA Tryz.underlying9 (by kernel_rfl)) (bO.cons (i:=4) (off:=4) (s:=1) rfl rfl (iA Tryz.underlying9 (by kernel_rfl)) (bO.cons (i:=5) (off:=5) (s:=1) rfl rfl (jE (k:= .i64) (lo:= -9223372036854775808) (hi:=9223372036854775807) Tryz.underlying3 (by kernel_rfl) (by decide) (by decide)) bO.nil))))))).map (fun p=>⟨p.1,p.2.1,p.2.2.1,p.2.2.2.1,p.2.2.2.2.1,p.2.2.2.2.2.1⟩) aW.len (fun _=>rfl) (fun _ h=>⟨h.1,h.2.1,h.2.2.1,h.2.2.2.1,h.2.2.2.2.1,h.2.2.2.2.2.1⟩) fun _=>Nat.le_refl _
instance:Inhabited aW:=⟨⟨default,default,default,default,default,default⟩⟩
structure aL where
 aV:Nat
 aI:Sv aW
def aL.cells (x:aL):List Value:= [.int .u64 ((x.aV:Nat):Int), .slice x.aI.A x.aI.ls.length x.aI.c]
instance:Bk aL:=⟨fun x _=>bk x.aV+(bk x.aI+(0))⟩
theorem aL.len:∀ x,(aL.cells x).length=2:=fun _=>rfl
theorem aL.one:∀ x, ∀ u ∈ aL.cells x,u.oneCell'=true:=fun x u hu=>by
 simp only [aL.cells,List.mem_cons,List.not_mem_nil,or_false] at hu
 rcases hu with rfl | rfl <;> rfl
def zP (w:World) (x:aL):Prop:=(x.aV≤18446744073709551615)∧(kZ w 6 80 aW.cells (Aa w) x.aI)
theorem qU (w:World):gq Tryz.prog w 66 2 aL.cells (zP w):=
 (gX (sz:=2) Tryz.underlying66 (by kernel_rfl) (bO.cons (i:=0) (off:=0) (s:=1) rfl rfl (fP (k:= .u64) (hi:=18446744073709551615) Tryz.underlying22 (by kernel_rfl) (by decide) (by decide)) (bO.cons (i:=1) (off:=1) (s:=1) rfl rfl (iR (bytes:=80) Tryz.underlying64 (by kernel_rfl) (by kernel_rfl) (by decide) (si w)) bO.nil))).map (fun p=>⟨p.1,p.2.1⟩) aL.len (fun _=>rfl) (fun _ h=>⟨h.1,h.2.1⟩) fun _=>Nat.le_refl _
instance:Inhabited aL:=⟨⟨default,default⟩⟩
structure fo where
 aV:Nat
 aI:Ll aW
instance:Inhabited fo:=⟨⟨default,default⟩⟩
def yS (x:aL):fo:=⟨x.aV,⟨x.aI.ls⟩⟩
def yH (x:aL):List HP:= [row x.aI.A x.aI.ls.length x.aI.c (List.flatMap aW.cells x.aI.ls) 74 6]
theorem jL:Elem Tryz.prog 25 22 1 8:=jJ (z:= .int .u64 0) Tryz.underlying25 (by kernel_rfl) rfl (by decide)
structure bE where
 aJ:List UInt8
 aO:List UInt8
def bE.cells (x:bE):List Value:= [.string ⟨List.toArray x.aJ⟩, .string ⟨List.toArray x.aO⟩]
instance:Bk bE:=⟨fun x _=>bk x.aJ+(bk x.aO+(0))⟩
theorem bE.len:∀ x,(bE.cells x).length=2:=fun _=>rfl
theorem bE.one:∀ x, ∀ u ∈ bE.cells x,u.oneCell'=true:=fun x u hu=>by
 simp only [bE.cells,List.mem_cons,List.not_mem_nil,or_false] at hu
 rcases hu with rfl | rfl <;> rfl
def zw (w:World) (x:bE):Prop:=(x.aJ.length≤140737488351232)∧(x.aO.length≤140737488351232)
theorem nM (w:World):gq Tryz.prog w 27 2 bE.cells (zw w):=
 (gX (sz:=2) Tryz.underlying27 (by kernel_rfl) (bO.cons (i:=0) (off:=0) (s:=1) rfl rfl (iA Tryz.underlying9 (by kernel_rfl)) (bO.cons (i:=1) (off:=1) (s:=1) rfl rfl (iA Tryz.underlying9 (by kernel_rfl)) bO.nil))).map (fun p=>⟨p.1,p.2.1⟩) bE.len (fun _=>rfl) (fun _ h=>⟨h.1,h.2.1⟩) fun _=>Nat.le_refl _
instance:Inhabited bE:=⟨⟨default,default⟩⟩
structure eU where
 bA:Nat
 bG:Nat
 dR:Nat
 aR:bE
def eU.cells (x:eU):List Value:= [.int .u64 ((x.bA:Nat):Int), .int .u64 ((x.bG:Nat):Int), .int .u64 ((x.dR:Nat):Int), .string ⟨List.toArray x.aR.aJ⟩, .string ⟨List.toArray x.aR.aO⟩]
instance:Bk eU:=⟨fun x _=>bk x.bA+(bk x.bG+(bk x.dR+(bk x.aR+(0))))⟩
theorem eU.len:∀ x,(eU.cells x).length=5:=fun _=>rfl
theorem eU.one:∀ x, ∀ u ∈ eU.cells x,u.oneCell'=true:=fun x u hu=>by
 simp only [eU.cells,List.mem_cons,List.not_mem_nil,or_false] at hu
 rcases hu with rfl | rfl | rfl | rfl | rfl <;> rfl
def zK (w:World) (x:eU):Prop:=(x.bA≤18446744073709551615)∧(x.bG≤18446744073709551615)∧(x.dR≤18446744073709551615)∧(zw w x.aR)
theorem qG (w:World):gq Tryz.prog w 29 5 eU.cells (zK w):=
 (gX (sz:=5) Tryz.underlying29 (by kernel_rfl) (bO.cons (i:=0) (off:=0) (s:=1) rfl rfl (fP (k:= .u64) (hi:=18446744073709551615) Tryz.underlying22 (by kernel_rfl) (by decide) (by decide)) (bO.cons (i:=1) (off:=1) (s:=1) rfl rfl (fP (k:= .u64) (hi:=18446744073709551615) Tryz.underlying22 (by kernel_rfl) (by decide) (by decide)) (bO.cons (i:=2) (off:=2) (s:=1) rfl rfl (fP (k:= .u64) (hi:=18446744073709551615) Tryz.underlying22 (by kernel_rfl) (by decide) (by decide)) (bO.cons (i:=3) (off:=3) (s:=2) rfl rfl (nM w) bO.nil))))).map (fun p=>⟨p.1,p.2.1,p.2.2.1,p.2.2.2.1⟩) eU.len (fun _=>rfl) (fun _ h=>⟨h.1,h.2.1,h.2.2.1,h.2.2.2.1⟩) fun _=>Nat.le_refl _
instance:Inhabited eU:=⟨⟨default,default,default,default⟩⟩
structure gL where
 iZ:Int
 az:Nat
 bC:Nat
 aS:Nat
 bA:Nat
 ag:Sv aC
 aH:Sv aL
 ax:Sv Nat
 iQ:Nat
 dM:Nat
 bz:bE
 bg:eU
def gL.cells (x:gL):List Value:= [.int .i64 x.iZ, .int .u64 ((x.az:Nat):Int), .int .u64 ((x.bC:Nat):Int), .int .u64 ((x.aS:Nat):Int), .int .u64 ((x.bA:Nat):Int), .slice x.ag.A x.ag.ls.length x.ag.c, .slice x.aH.A x.aH.ls.length x.aH.c, .slice x.ax.A x.ax.ls.length x.ax.c, .int .u64 ((x.iQ:Nat):Int), .int .u64 ((x.dM:Nat):Int), .string ⟨List.toArray x.bz.aJ⟩, .string ⟨List.toArray x.bz.aO⟩, .int .u64 ((x.bg.bA:Nat):Int), .int .u64 ((x.bg.bG:Nat):Int), .int .u64 ((x.bg.dR:Nat):Int), .string ⟨List.toArray x.bg.aR.aJ⟩, .string ⟨List.toArray x.bg.aR.aO⟩]
instance:Bk gL:=⟨fun x _=>bk x.iZ+(bk x.az+(bk x.bC+(bk x.aS+(bk x.bA+(bk x.ag+(bk x.aH+(bk x.ax+(bk x.iQ+(bk x.dM+(bk x.bz+(bk x.bg+(0))))))))))))⟩
theorem gL.len:∀ x,(gL.cells x).length=17:=fun _=>rfl
theorem gL.one:∀ x, ∀ u ∈ gL.cells x,u.oneCell'=true:=fun x u hu=>by
 simp only [gL.cells,List.mem_cons,List.not_mem_nil,or_false] at hu
 rcases hu with rfl | rfl | rfl | rfl | rfl | rfl | rfl | rfl | rfl | rfl | rfl | rfl | rfl | rfl | rfl | rfl | rfl <;> rfl
def zx (w:World) (x:gL):Prop:=((-9223372036854775808)≤x.iZ∧x.iZ≤9223372036854775807)∧(x.az≤18446744073709551615)∧(x.bC≤18446744073709551615)∧(x.aS≤18446744073709551615)∧(x.bA≤18446744073709551615)∧(kZ w 2 24 aC.cells (zu w) x.ag)∧(kZ w 2 32 aL.cells (zP w) x.aH)∧(kZ w 1 8 (eN .u64) (fun n=>n≤18446744073709551615) x.ax)∧(x.iQ≤18446744073709551615)∧(x.dM≤18446744073709551615)∧(zw w x.bz)∧(zK w x.bg)
theorem qH (w:World):gq Tryz.prog w 31 17 gL.cells (zx w):=
 (gX (sz:=17) Tryz.underlying31 (by kernel_rfl) (bO.cons (i:=0) (off:=0) (s:=1) rfl rfl (jE (k:= .i64) (lo:= -9223372036854775808) (hi:=9223372036854775807) Tryz.underlying3 (by kernel_rfl) (by decide) (by decide)) (bO.cons (i:=1) (off:=1) (s:=1) rfl rfl (fP (k:= .u64) (hi:=18446744073709551615) Tryz.underlying22 (by kernel_rfl) (by decide) (by decide)) (bO.cons (i:=2) (off:=2) (s:=1) rfl rfl (fP (k:= .u64) (hi:=18446744073709551615) Tryz.underlying22 (by kernel_rfl) (by decide) (by decide)) (bO.cons (i:=3) (off:=3) (s:=1) rfl rfl (fP (k:= .u64) (hi:=18446744073709551615) Tryz.underlying22 (by kernel_rfl) (by decide) (by decide)) (bO.cons (i:=4) (off:=4) (s:=1) rfl rfl (fP (k:= .u64) (hi:=18446744073709551615) Tryz.underlying22 (by kernel_rfl) (by decide) (by decide)) (bO.cons (i:=5) (off:=5) (s:=1) rfl rfl (iR (bytes:=24) Tryz.underlying23 (by kernel_rfl) (by kernel_rfl) (by decide) (nL w)) (bO.cons (i:=6) (off:=6) (s:=1) rfl rfl (iR (bytes:=32) Tryz.underlying24 (by kernel_rfl) (by kernel_rfl) (by decide) (qU w)) (bO.cons (i:=7) (off:=7) (s:=1) rfl rfl (iR (bytes:=8) Tryz.underlying25 (by kernel_rfl) (by kernel_rfl) (by decide) (fP (k:= .u64) (hi:=18446744073709551615) Tryz.underlying22 (by kernel_rfl) (by decide) (by decide))) (bO.cons (i:=8) (off:=8) (s:=1) rfl rfl (fP (k:= .u64) (hi:=18446744073709551615) Tryz.underlying22 (by kernel_rfl) (by decide) (by decide)) (bO.cons (i:=9) (off:=9) (s:=1) rfl rfl (fP (k:= .u64) (hi:=18446744073709551615) Tryz.underlying22 (by kernel_rfl) (by decide) (by decide)) (bO.cons (i:=10) (off:=10) (s:=2) rfl rfl (nM w) (bO.cons (i:=11) (off:=12) (s:=5) rfl rfl (qG w) bO.nil))))))))))))).map (fun p=>⟨p.1,p.2.1,p.2.2.1,p.2.2.2.1,p.2.2.2.2.1,p.2.2.2.2.2.1,p.2.2.2.2.2.2.1,p.2.2.2.2.2.2.2.1,p.2.2.2.2.2.2.2.2.1,p.2.2.2.2.2.2.2.2.2.1,p.2.2.2.2.2.2.2.2.2.2.1,p.2.2.2.2.2.2.2.2.2.2.2.1⟩) gL.len (fun _=>rfl) (fun _ h=>⟨h.1,h.2.1,h.2.2.1,h.2.2.2.1,h.2.2.2.2.1,h.2.2.2.2.2.1,h.2.2.2.2.2.2.1,h.2.2.2.2.2.2.2.1,h.2.2.2.2.2.2.2.2.1,h.2.2.2.2.2.2.2.2.2.1,h.2.2.2.2.2.2.2.2.2.2.1,h.2.2.2.2.2.2.2.2.2.2.2.1⟩) fun _=>Nat.le_refl _
instance:Inhabited gL:=⟨⟨default,default,default,default,default,default,default,default,default,default,default,default⟩⟩
structure bP where
 iZ:Int
 az:Nat
 bC:Nat
 aS:Nat
 bA:Nat
 ag:Ll aC
 aH:Ll fo
 ax:Ll Nat
 iQ:Nat
 dM:Nat
 bz:bE
 bg:eU
instance:Inhabited bP:=⟨⟨default,default,default,default,default,default,default,default,default,default,default,default⟩⟩
def zF (x:gL):bP:=⟨x.iZ,x.az,x.bC,x.aS,x.bA,⟨x.ag.ls⟩,⟨List.map yS x.aH.ls⟩,⟨x.ax.ls⟩,x.iQ,x.dM,x.bz,x.bg⟩
def AC (x:gL):List HP:= [row x.ag.A x.ag.ls.length x.ag.c (List.flatMap aC.cells x.ag.ls) 54 2,row x.aH.A x.aH.ls.length x.aH.c (List.flatMap aL.cells x.aH.ls) 66 2,row x.ax.A x.ax.ls.length x.ax.c (List.flatMap (eN .u64) x.ax.ls) 22 1,sepL (List.flatMap yH x.aH.ls)]
abbrev bF (n:Int) (o:Nat) (p:Nat) (q:Nat) (r:Nat) (s:Option Addr) (a b:Nat) (t:Option Addr) (c d:Nat) (u:Option Addr) (e f:Nat) (v:Nat) (w:Nat) (g:List UInt8) (h:List UInt8) (i:Nat) (j:Nat) (k:Nat) (l:List UInt8) (m:List UInt8):List Value:= [.int .i64 n, .int .u64 ((o:Nat):Int), .int .u64 ((p:Nat):Int), .int .u64 ((q:Nat):Int), .int .u64 ((r:Nat):Int), .slice s a b, .slice t c d, .slice u e f, .int .u64 ((v:Nat):Int), .int .u64 ((w:Nat):Int), .string ⟨List.toArray g⟩, .string ⟨List.toArray h⟩, .int .u64 ((i:Nat):Int), .int .u64 ((j:Nat):Int), .int .u64 ((k:Nat):Int), .string ⟨List.toArray l⟩, .string ⟨List.toArray m⟩]
abbrev dL (x:bP) (a:Option Addr) (b:Nat) (c:Option Addr) (c1:Nat) (d:Option Addr) (e:Nat):List Value:= [.int .i64 x.iZ, .int .u64 ((x.az:Nat):Int), .int .u64 ((x.bC:Nat):Int), .int .u64 ((x.aS:Nat):Int), .int .u64 ((x.bA:Nat):Int), .slice a x.ag.ls.length b, .slice c x.aH.ls.length c1, .slice d x.ax.ls.length e, .int .u64 ((x.iQ:Nat):Int), .int .u64 ((x.dM:Nat):Int), .string ⟨List.toArray x.bz.aJ⟩, .string ⟨List.toArray x.bz.aO⟩, .int .u64 ((x.bg.bA:Nat):Int), .int .u64 ((x.bg.bG:Nat):Int), .int .u64 ((x.bg.dR:Nat):Int), .string ⟨List.toArray x.bg.aR.aJ⟩, .string ⟨List.toArray x.bg.aR.aO⟩]
theorem rG:Elem Tryz.prog 32 79 5 56:=jJ (z:= .agg #[.int .u64 0, .int .i64 0, .int .u64 0, .int .u64 0, .slice none 0 0]) Tryz.underlying32 (by kernel_rfl) rfl (by decide)
theorem pU:Elem Tryz.prog 77 3 1 8:=jJ (z:= .int .i64 0) Tryz.underlying77 (by kernel_rfl) rfl (by decide)
structure au where
 aV:Nat
 aG:Int
 az:Nat
 bU:Nat
 af:Sv Int
def au.cells (x:au):List Value:= [.int .u64 ((x.aV:Nat):Int), .int .i64 x.aG, .int .u64 ((x.az:Nat):Int), .int .u64 ((x.bU:Nat):Int), .slice x.af.A x.af.ls.length x.af.c]
instance:Bk au:=⟨fun x _=>bk x.aV+(bk x.aG+(bk x.az+(bk x.bU+(bk x.af+(0)))))⟩
theorem au.len:∀ x,(au.cells x).length=5:=fun _=>rfl
theorem au.one:∀ x, ∀ u ∈ au.cells x,u.oneCell'=true:=fun x u hu=>by
 simp only [au.cells,List.mem_cons,List.not_mem_nil,or_false] at hu
 rcases hu with rfl | rfl | rfl | rfl | rfl <;> rfl
def zy (w:World) (x:au):Prop:=(x.aV≤18446744073709551615)∧((-9223372036854775808)≤x.aG∧x.aG≤9223372036854775807)∧(x.az≤18446744073709551615)∧(x.bU≤18446744073709551615)∧(kZ w 1 8 (eI .i64) (fun n=>(-9223372036854775808)≤n∧n≤9223372036854775807) x.af)
theorem oW (w:World):gq Tryz.prog w 79 5 au.cells (zy w):=
 (gX (sz:=5) Tryz.underlying79 (by kernel_rfl) (bO.cons (i:=0) (off:=0) (s:=1) rfl rfl (fP (k:= .u64) (hi:=18446744073709551615) Tryz.underlying22 (by kernel_rfl) (by decide) (by decide)) (bO.cons (i:=1) (off:=1) (s:=1) rfl rfl (jE (k:= .i64) (lo:= -9223372036854775808) (hi:=9223372036854775807) Tryz.underlying3 (by kernel_rfl) (by decide) (by decide)) (bO.cons (i:=2) (off:=2) (s:=1) rfl rfl (fP (k:= .u64) (hi:=18446744073709551615) Tryz.underlying22 (by kernel_rfl) (by decide) (by decide)) (bO.cons (i:=3) (off:=3) (s:=1) rfl rfl (fP (k:= .u64) (hi:=18446744073709551615) Tryz.underlying22 (by kernel_rfl) (by decide) (by decide)) (bO.cons (i:=4) (off:=4) (s:=1) rfl rfl (iR (bytes:=8) Tryz.underlying77 (by kernel_rfl) (by kernel_rfl) (by decide) (jE (k:= .i64) (lo:= -9223372036854775808) (hi:=9223372036854775807) Tryz.underlying3 (by kernel_rfl) (by decide) (by decide))) bO.nil)))))).map (fun p=>⟨p.1,p.2.1,p.2.2.1,p.2.2.2.1,p.2.2.2.2.1⟩) au.len (fun _=>rfl) (fun _ h=>⟨h.1,h.2.1,h.2.2.1,h.2.2.2.1,h.2.2.2.2.1⟩) fun _=>Nat.le_refl _
instance:Inhabited au:=⟨⟨default,default,default,default,default⟩⟩
structure bJ where
 aV:Nat
 aG:Int
 az:Nat
 bU:Nat
 af:Ll Int
instance:Inhabited bJ:=⟨⟨default,default,default,default,default⟩⟩
def yz (x:au):bJ:=⟨x.aV,x.aG,x.az,x.bU,⟨x.af.ls⟩⟩
def yF (x:au):List HP:= [row x.af.A x.af.ls.length x.af.c (List.flatMap (eI .i64) x.af.ls) 3 1]
theorem rH:Elem Tryz.prog 33 84 4 48:=jJ (z:= .agg #[.int .i64 0, .int .u64 0, .int .u64 0, .slice none 0 0]) Tryz.underlying33 (by kernel_rfl) rfl (by decide)
theorem rJ:Elem Tryz.prog 82 129 3 48:=jJ (z:= .agg #[.bool false, .string ⟨List.toArray ([])⟩, .slice none 0 0]) Tryz.underlying82 (by kernel_rfl) rfl (by decide)
theorem qx:Elem Tryz.prog 127 133 2 32:=jJ (z:= .agg #[.string ⟨List.toArray ([])⟩, .string ⟨List.toArray ([])⟩]) Tryz.underlying127 (by kernel_rfl) rfl (by decide)
structure bB where
 aY:List UInt8
 aB:List UInt8
def bB.cells (x:bB):List Value:= [.string ⟨List.toArray x.aY⟩, .string ⟨List.toArray x.aB⟩]
instance:Bk bB:=⟨fun x _=>bk x.aY+(bk x.aB+(0))⟩
theorem bB.len:∀ x,(bB.cells x).length=2:=fun _=>rfl
theorem bB.one:∀ x, ∀ u ∈ bB.cells x,u.oneCell'=true:=fun x u hu=>by
 simp only [bB.cells,List.mem_cons,List.not_mem_nil,or_false] at hu
 rcases hu with rfl | rfl <;> rfl
def zQ (w:World) (x:bB):Prop:=(x.aY.length≤140737488351232)∧(x.aB.length≤140737488351232)
theorem qV (w:World):gq Tryz.prog w 133 2 bB.cells (zQ w):=
 (gX (sz:=2) Tryz.underlying133 (by kernel_rfl) (bO.cons (i:=0) (off:=0) (s:=1) rfl rfl (iA Tryz.underlying9 (by kernel_rfl)) (bO.cons (i:=1) (off:=1) (s:=1) rfl rfl (iA Tryz.underlying9 (by kernel_rfl)) bO.nil))).map (fun p=>⟨p.1,p.2.1⟩) bB.len (fun _=>rfl) (fun _ h=>⟨h.1,h.2.1⟩) fun _=>Nat.le_refl _
instance:Inhabited bB:=⟨⟨default,default⟩⟩
structure aA where
 dZ:Bool
 aB:List UInt8
 ay:Sv bB
def aA.cells (x:aA):List Value:= [.bool x.dZ, .string ⟨List.toArray x.aB⟩, .slice x.ay.A x.ay.ls.length x.ay.c]
instance:Bk aA:=⟨fun x _=>bk x.dZ+(bk x.aB+(bk x.ay+(0)))⟩
theorem aA.len:∀ x,(aA.cells x).length=3:=fun _=>rfl
theorem aA.one:∀ x, ∀ u ∈ aA.cells x,u.oneCell'=true:=fun x u hu=>by
 simp only [aA.cells,List.mem_cons,List.not_mem_nil,or_false] at hu
 rcases hu with rfl | rfl | rfl <;> rfl
def zG (w:World) (x:aA):Prop:=(True)∧(x.aB.length≤140737488351232)∧(kZ w 2 32 bB.cells (zQ w) x.ay)
theorem qj (w:World):gq Tryz.prog w 129 3 aA.cells (zG w):=
 (gX (sz:=3) Tryz.underlying129 (by kernel_rfl) (bO.cons (i:=0) (off:=0) (s:=1) rfl rfl (rE Tryz.underlying4 (by kernel_rfl)) (bO.cons (i:=1) (off:=1) (s:=1) rfl rfl (iA Tryz.underlying9 (by kernel_rfl)) (bO.cons (i:=2) (off:=2) (s:=1) rfl rfl (iR (bytes:=32) Tryz.underlying127 (by kernel_rfl) (by kernel_rfl) (by decide) (qV w)) bO.nil)))).map (fun p=>⟨p.1,p.2.1,p.2.2.1⟩) aA.len (fun _=>rfl) (fun _ h=>⟨h.1,h.2.1,h.2.2.1⟩) fun _=>Nat.le_refl _
instance:Inhabited aA:=⟨⟨default,default,default⟩⟩
structure df where
 dZ:Bool
 aB:List UInt8
 ay:Ll bB
instance:Inhabited df:=⟨⟨default,default,default⟩⟩
def xZ (x:aA):df:=⟨x.dZ,x.aB,⟨x.ay.ls⟩⟩
def yU (x:aA):List HP:= [row x.ay.A x.ay.ls.length x.ay.c (List.flatMap bB.cells x.ay.ls) 133 2]
structure aM where
 aG:Int
 az:Nat
 bU:Nat
 ah:Sv aA
def aM.cells (x:aM):List Value:= [.int .i64 x.aG, .int .u64 ((x.az:Nat):Int), .int .u64 ((x.bU:Nat):Int), .slice x.ah.A x.ah.ls.length x.ah.c]
instance:Bk aM:=⟨fun x _=>bk x.aG+(bk x.az+(bk x.bU+(bk x.ah+(0))))⟩
theorem aM.len:∀ x,(aM.cells x).length=4:=fun _=>rfl
theorem aM.one:∀ x, ∀ u ∈ aM.cells x,u.oneCell'=true:=fun x u hu=>by
 simp only [aM.cells,List.mem_cons,List.not_mem_nil,or_false] at hu
 rcases hu with rfl | rfl | rfl | rfl <;> rfl
def zR (w:World) (x:aM):Prop:=((-9223372036854775808)≤x.aG∧x.aG≤9223372036854775807)∧(x.az≤18446744073709551615)∧(x.bU≤18446744073709551615)∧(kZ w 3 48 aA.cells (zG w) x.ah)
theorem qW (w:World):gq Tryz.prog w 84 4 aM.cells (zR w):=
 (gX (sz:=4) Tryz.underlying84 (by kernel_rfl) (bO.cons (i:=0) (off:=0) (s:=1) rfl rfl (jE (k:= .i64) (lo:= -9223372036854775808) (hi:=9223372036854775807) Tryz.underlying3 (by kernel_rfl) (by decide) (by decide)) (bO.cons (i:=1) (off:=1) (s:=1) rfl rfl (fP (k:= .u64) (hi:=18446744073709551615) Tryz.underlying22 (by kernel_rfl) (by decide) (by decide)) (bO.cons (i:=2) (off:=2) (s:=1) rfl rfl (fP (k:= .u64) (hi:=18446744073709551615) Tryz.underlying22 (by kernel_rfl) (by decide) (by decide)) (bO.cons (i:=3) (off:=3) (s:=1) rfl rfl (iR (bytes:=48) Tryz.underlying82 (by kernel_rfl) (by kernel_rfl) (by decide) (qj w)) bO.nil))))).map (fun p=>⟨p.1,p.2.1,p.2.2.1,p.2.2.2.1⟩) aM.len (fun _=>rfl) (fun _ h=>⟨h.1,h.2.1,h.2.2.1,h.2.2.2.1⟩) fun _=>Nat.le_refl _
instance:Inhabited aM:=⟨⟨default,default,default,default⟩⟩
structure dX where
 aG:Int
 az:Nat
 bU:Nat
 ah:Ll df
instance:Inhabited dX:=⟨⟨default,default,default,default⟩⟩
def yG (x:aM):dX:=⟨x.aG,x.az,x.bU,⟨List.map xZ x.ah.ls⟩⟩
def yM (x:aM):List HP:= [row x.ah.A x.ah.ls.length x.ah.c (List.flatMap aA.cells x.ah.ls) 129 3,sepL (List.flatMap yU x.ah.ls)]
structure gM where
 af:Int
 az:Nat
 bC:Nat
 aS:Nat
 ag:Sv aC
 ak:Sv au
 aP:Sv aM
def gM.cells (x:gM):List Value:= [.int .i64 x.af, .int .u64 ((x.az:Nat):Int), .int .u64 ((x.bC:Nat):Int), .int .u64 ((x.aS:Nat):Int), .slice x.ag.A x.ag.ls.length x.ag.c, .slice x.ak.A x.ak.ls.length x.ak.c, .slice x.aP.A x.aP.ls.length x.aP.c]
instance:Bk gM:=⟨fun x _=>bk x.af+(bk x.az+(bk x.bC+(bk x.aS+(bk x.ag+(bk x.ak+(bk x.aP+(0)))))))⟩
theorem gM.len:∀ x,(gM.cells x).length=7:=fun _=>rfl
theorem gM.one:∀ x, ∀ u ∈ gM.cells x,u.oneCell'=true:=fun x u hu=>by
 simp only [gM.cells,List.mem_cons,List.not_mem_nil,or_false] at hu
 rcases hu with rfl | rfl | rfl | rfl | rfl | rfl | rfl <;> rfl
def zz (w:World) (x:gM):Prop:=((-9223372036854775808)≤x.af∧x.af≤9223372036854775807)∧(x.az≤18446744073709551615)∧(x.bC≤18446744073709551615)∧(x.aS≤18446744073709551615)∧(kZ w 2 24 aC.cells (zu w) x.ag)∧(kZ w 5 56 au.cells (zy w) x.ak)∧(kZ w 4 48 aM.cells (zR w) x.aP)
theorem qI (w:World):gq Tryz.prog w 35 7 gM.cells (zz w):=
 (gX (sz:=7) Tryz.underlying35 (by kernel_rfl) (bO.cons (i:=0) (off:=0) (s:=1) rfl rfl (jE (k:= .i64) (lo:= -9223372036854775808) (hi:=9223372036854775807) Tryz.underlying3 (by kernel_rfl) (by decide) (by decide)) (bO.cons (i:=1) (off:=1) (s:=1) rfl rfl (fP (k:= .u64) (hi:=18446744073709551615) Tryz.underlying22 (by kernel_rfl) (by decide) (by decide)) (bO.cons (i:=2) (off:=2) (s:=1) rfl rfl (fP (k:= .u64) (hi:=18446744073709551615) Tryz.underlying22 (by kernel_rfl) (by decide) (by decide)) (bO.cons (i:=3) (off:=3) (s:=1) rfl rfl (fP (k:= .u64) (hi:=18446744073709551615) Tryz.underlying22 (by kernel_rfl) (by decide) (by decide)) (bO.cons (i:=4) (off:=4) (s:=1) rfl rfl (iR (bytes:=24) Tryz.underlying23 (by kernel_rfl) (by kernel_rfl) (by decide) (nL w)) (bO.cons (i:=5) (off:=5) (s:=1) rfl rfl (iR (bytes:=56) Tryz.underlying32 (by kernel_rfl) (by kernel_rfl) (by decide) (oW w)) (bO.cons (i:=6) (off:=6) (s:=1) rfl rfl (iR (bytes:=48) Tryz.underlying33 (by kernel_rfl) (by kernel_rfl) (by decide) (qW w)) bO.nil)))))))).map (fun p=>⟨p.1,p.2.1,p.2.2.1,p.2.2.2.1,p.2.2.2.2.1,p.2.2.2.2.2.1,p.2.2.2.2.2.2.1⟩) gM.len (fun _=>rfl) (fun _ h=>⟨h.1,h.2.1,h.2.2.1,h.2.2.2.1,h.2.2.2.2.1,h.2.2.2.2.2.1,h.2.2.2.2.2.2.1⟩) fun _=>Nat.le_refl _
instance:Inhabited gM:=⟨⟨default,default,default,default,default,default,default⟩⟩
structure bL where
 af:Int
 az:Nat
 bC:Nat
 aS:Nat
 ag:Ll aC
 ak:Ll bJ
 aP:Ll dX
instance:Inhabited bL:=⟨⟨default,default,default,default,default,default,default⟩⟩
def zH (x:gM):bL:=⟨x.af,x.az,x.bC,x.aS,⟨x.ag.ls⟩,⟨List.map yz x.ak.ls⟩,⟨List.map yG x.aP.ls⟩⟩
def AJ (x:gM):List HP:= [row x.ag.A x.ag.ls.length x.ag.c (List.flatMap aC.cells x.ag.ls) 54 2,row x.ak.A x.ak.ls.length x.ak.c (List.flatMap au.cells x.ak.ls) 79 5,row x.aP.A x.aP.ls.length x.aP.c (List.flatMap aM.cells x.aP.ls) 84 4,sepL (List.flatMap yF x.ak.ls),sepL (List.flatMap yM x.aP.ls)]
theorem jM:Elem Tryz.prog 37 5 1 1:=jJ (z:= .int .u8 0) Tryz.underlying37 (by kernel_rfl) rfl (by decide)
structure jc where
 xb:Sv UInt8
def jc.cells (x:jc):List Value:= [.slice x.xb.A x.xb.ls.length x.xb.c]
instance:Bk jc:=⟨fun x _=>bk x.xb+(0)⟩
theorem jc.len:∀ x,(jc.cells x).length=1:=fun _=>rfl
theorem jc.one:∀ x, ∀ u ∈ jc.cells x,u.oneCell'=true:=fun x u hu=>by
 simp only [jc.cells,List.mem_cons,List.not_mem_nil,or_false] at hu
 rcases hu with rfl <;> rfl
def AL (w:World) (x:jc):Prop:=(kZ w 1 1 eB (fun _=>True) x.xb)
instance:Inhabited jc:=⟨⟨default⟩⟩
structure aK where
 xb:Ll UInt8
instance:Inhabited aK:=⟨⟨default⟩⟩
def Aw (x:jc):aK:=⟨⟨x.xb.ls⟩⟩
def Ay (x:jc):List HP:= [row x.xb.A x.xb.ls.length x.xb.c (List.flatMap eB x.xb.ls) 5 1]
theorem lv:Elem Tryz.prog 121 9 1 16:=jJ (z:= .string ⟨List.toArray ([])⟩) Tryz.underlying121 (by kernel_rfl) rfl (by decide)
structure jd where
 aa:Sv UInt8
 ai:Int
def jd.cells (x:jd):List Value:= [.slice x.aa.A x.aa.ls.length x.aa.c, .int .i64 x.ai]
instance:Bk jd:=⟨fun x _=>bk x.aa+(bk x.ai+(0))⟩
theorem jd.len:∀ x,(jd.cells x).length=2:=fun _=>rfl
theorem jd.one:∀ x, ∀ u ∈ jd.cells x,u.oneCell'=true:=fun x u hu=>by
 simp only [jd.cells,List.mem_cons,List.not_mem_nil,or_false] at hu
 rcases hu with rfl | rfl <;> rfl
def AO (w:World) (x:jd):Prop:=(kZ w 1 1 eB (fun _=>True) x.aa)∧((-9223372036854775808)≤x.ai∧x.ai≤9223372036854775807)
instance:Inhabited jd:=⟨⟨default,default⟩⟩
structure ReaderT where
 aa:Ll UInt8
 ai:Int
instance:Inhabited ReaderT:=⟨⟨default,default⟩⟩
def AA (x:jd):ReaderT:=⟨⟨x.aa.ls⟩,x.ai⟩
def AB (x:jd):List HP:= [row x.aa.A x.aa.ls.length x.aa.c (List.flatMap eB x.aa.ls) 5 1]
def cu (a:Int) (p1:Int):Bool:=
 if a ≥ 1 then decide (a≤p1) else false
theorem gP (w:World) (D:Nat→Prop) (b:Int) (p1:Int) (e:Bool) (H:Own w D w []) (hr:cu b p1=e):
    Calls Tryz.prog 38 #[.int .i64 b, .int .i64 p1] w (dC fun v w'=>v= .bool e∧Own w D w' []):=by
 refine xU (args:= [.int .i64 b, .int .i64 p1]) Tryz.func38 rfl rfl rfl ?_
 show Wp _ _ _ [(0, .int .i64 b),(1, .int .i64 p1)] _ _
 refine sr (Ar rfl (Mz rfl (Kz (.bool (decide (b ≥ 1))) (Mz rfl ?_))))
 by_cases a:b ≥ 1
 refine gw (.int .i64 b) (dT a) (yj rfl) (gw (.int .i64 p1) (dT a) (yj rfl) (Gz (.bool (decide (b≤p1))) (dT a) (fw (.bool (decide (b≤p1))) (yw rfl (dT a) rfl) (An rfl (rt (rs ?_))))))
 have c:Own w D w []:=H.pk []
 obtain rfl:_=decide (b≤p1):=hr.symm.trans (ip a)
 exact⟨rfl,c⟩
 refine Sz (dF a) (Sz (dF a) (Sz (dF a) (fw (.bool false) (xW rfl (dF a) rfl) (An rfl (rt (rs ?_))))))
 have d:Own w D w []:=H.pk []
 obtain rfl:_=false:=hr.symm.trans (iN a)
 exact⟨rfl,d⟩
def jW (a:Int):Bool:=
 if a ≥ 1 then decide (a≤4) else false
theorem oL (w:World) (D:Nat→Prop) (b:Int) (e:Bool) (H:Own w D w []) (hr:jW b=e):
    Calls Tryz.prog 82 #[.int .i64 b] w (dC fun v w'=>v= .bool e∧Own w D w' []):=by
 refine xU (args:= [.int .i64 b]) Tryz.func82 rfl rfl rfl ?_
 show Wp _ _ _ [(0, .int .i64 b)] _ _
 refine sr (Ar rfl (Mz rfl (Kz (.bool (decide (b ≥ 1))) (Mz rfl ?_))))
 by_cases a:b ≥ 1
 refine gw (.int .i64 b) (dT a) (yj rfl) (Gz (.bool (decide (b≤4))) (dT a) (fw (.bool (decide (b≤4))) (yw rfl (dT a) rfl) (An rfl (rt (rs ?_)))))
 have c:Own w D w []:=H.pk []
 obtain rfl:_=decide (b≤4):=hr.symm.trans (ip a)
 exact⟨rfl,c⟩
 refine Sz (dF a) (Sz (dF a) (fw (.bool false) (xW rfl (dF a) rfl) (An rfl (rt (rs ?_)))))
 have d:Own w D w []:=H.pk []
 obtain rfl:_=false:=hr.symm.trans (iN a)
 exact⟨rfl,d⟩
def dI (a:List UInt8):Int:=
 if((a.length:Nat):Int) < 1 then 20 else if((a.length:Nat):Int) > 12 then 20 else 0
theorem iG (w:World) (D:Nat→Prop) (b:List UInt8) (d:Int) (H:Own w D w []) (hr:dI b=d):
    Calls Tryz.prog 83 #[.string ⟨List.toArray b⟩] w (dC fun v w'=>v= .int .i64 d∧Own w D w' []∧(¬ (d=0)∨(1≤b.length∧b.length≤12))):=by
 refine xU (args:= [.string ⟨List.toArray b⟩]) Tryz.func83 rfl rfl rfl ?_
 show Wp _ _ _ [(0, .string ⟨List.toArray b⟩)] _ _
 refine sr (An rfl (xV (sr (Mz rfl (Kz (.int .i64 ((b.length:Nat):Int)) (Kz (.bool (decide (((b.length:Nat):Int) < 1))) (Mz rfl ?_)))))))
 by_cases a:((b.length:Nat):Int) < 1
 refine Sz (dT a) (Sz (dT a) (Sz (dT a) (fw (.bool true) (yw rfl (dT a) rfl) (nt (jt (sr (An rfl (rt (tR (rs ?_))))))))))
 have e:Own w D w []:=H.pk []
 obtain rfl:_=20:=hr.symm.trans (ip a)
 exact⟨rfl,e,(by omega)⟩
 refine gw (.string ⟨List.toArray b⟩) (dF a) (yj rfl) (Gz (.int .i64 ((b.length:Nat):Int)) (dF a) (Gz (.bool (decide (((b.length:Nat):Int) > 12))) (dF a) (fw (.bool (decide (((b.length:Nat):Int) > 12))) (xW rfl (dF a) rfl) (nt ?_))))
 by_cases c:((b.length:Nat):Int) > 12
 refine jT (dT c) (sr (An rfl (rt (tR (rs ?_)))))
 have f:Own w D w []:=H.pk []
 obtain rfl:_=20:=hr.symm.trans (et (iN a) (ip c))
 exact⟨rfl,f,(by omega)⟩
 refine jF (dF c) (sk (sr (An rfl (rt (rs ?_)))))
 have g:Own w D w []:=H.pk []
 obtain rfl:_=0:=hr.symm.trans (et (iN a) (iN c))
 exact⟨rfl,g,(by omega)⟩
def dJ (g:List aC):List aC→Nat→Unit ⊕ Int
  | [],a=>Sum.inl ()
  | b::c,a=>bnd (jW b.gm) fun d=>if d=true then if((a:Nat):Int) > 0 then bnd (dI b.aJ) fun e=>if e=0 then bnd (List.getD g (a - 1) default) fun f=>if b.aJ≤f.aJ then Sum.inr (170) else dJ g c (a+1) else Sum.inr (170) else dJ g c (a+1) else Sum.inr (170)
def ic (a:List aC):Int:=
 if((a.length:Nat):Int) < 1 then 170 else if((a.length:Nat):Int) > 6 then 170 else bnd (List.getD a 0 default) fun b=>if b.aJ≠([]) then 170 else lp (dJ a a 0) fun _=>0
theorem mI (w:World) (D:Nat→Prop) (g:Option Addr) (Z F:Nat) (d:List aC) (r0:Int) (H:Own w D w []) (l:Ro w D fun w'=>bu w' 2 g Z (List.flatMap aC.cells d)) (aa:Z=d.length) (aI:d.length≤9223372036854775807) (hr:ic d=r0):
    Calls Tryz.prog 39 #[.slice g Z F] w (dC fun v w'=>v= .int .i64 r0∧Own w D w' []):=by
 subst aa
 refine xU (args:= [.slice g d.length F]) Tryz.func39 rfl rfl rfl ?_
 show Wp _ _ _ [(0, .slice g d.length F)] _ _
 refine sr (An rfl (xV (sr (Mz rfl (Kz (.int .i64 ((d.length:Nat):Int)) (Kz (.bool (decide (((d.length:Nat):Int) < 1))) (Mz rfl ?_)))))))
 by_cases h:((d.length:Nat):Int) < 1
 refine Sz (dT h) (Sz (dT h) (Sz (dT h) (fw (.bool true) (yw rfl (dT h) rfl) (Mz rfl (Sz rfl (Sz rfl (Sz rfl (Sz rfl (Sz rfl (fw (.bool true) (yw rfl rfl rfl) (nt (jt (sr (An rfl (rt (tR (rs ?_)))))))))))))))))
 have af:Own w D w []:=H.pk []
 obtain rfl:_=170:=hr.symm.trans (ip h)
 exact⟨rfl,af⟩
 refine gw (.slice g d.length F) (dF h) (yj rfl) (Gz (.int .i64 ((d.length:Nat):Int)) (dF h) (Gz (.bool (decide (((d.length:Nat):Int) > 6))) (dF h) (fw (.bool (decide (((d.length:Nat):Int) > 6))) (xW rfl (dF h) rfl) (Mz rfl ?_))))
 by_cases f:((d.length:Nat):Int) > 6
 refine Sz (dT f) (Sz (dT f) (Sz (dT f) (Sz (dT f) (Sz (dT f) (fw (.bool true) (yw rfl (dT f) rfl) (nt (jt (sr (An rfl (rt (tR (rs ?_))))))))))))
 have ag:Own w D w []:=H.pk []
 obtain rfl:_=170:=hr.symm.trans (et (iN h) (ip f))
 exact⟨rfl,ag⟩
 refine gw (.slice g d.length F) (dF f) (yj rfl) ?_
 obtain⟨G,m⟩:=fE (ls:=d) (i:=0) aC.len (by decide) (H.ro l) (by first | omega | (simp; done) | (simp; omega))
 refine gw (.pointer (some ⟨ab g,ao g+0 *2,none⟩)) (dF f) (yh (mX) rfl rfl ((H.ro l).addr (i:=0) (by omega)) (by omega)) (Gz (.pointer (some ⟨ab g,ao g+0 *2,none⟩)) (dF f) (gw (.string ⟨List.toArray G.aJ⟩) (dF f) (yl rfl (bH.one Tryz.isAgg9 (((H.ro l).elem aC.len m (by decide)).at_ (k:=0) rfl))) (gw (.bool (decide (G.aJ≠([])))) (dF f) (zq rfl rfl) (fw (.bool (decide (G.aJ≠([])))) (xW rfl (dF f) rfl) (nt ?_)))))
 by_cases s:G.aJ≠([])
 refine jT (dT s) (sr (An rfl (rt (tR (rs ?_)))))
 have ah:Own w D w []:=H.pk []
 obtain rfl:_=170:=hr.symm.trans (et (iN h) (et (iN f) (et (ae (dV m)) (ip s))))
 exact⟨rfl,ah⟩
 refine jF (dF s) (sk (xV (sr (Mz rfl (Kz (.int .i64 ((d.length:Nat):Int)) (Mn rfl (bo ?_)))))))
 have ai:Own w D w []:=H.pk []
 obtain⟨M,N⟩:∃ q:Nat→World→Prop,q=fun(i:Nat) w'=>Own w D w' []∧(i≤d.length∧dJ d d 0=dJ d (List.drop i d) i):=⟨_,rfl⟩
 have u:∀ {a:Nat} {w':World},M a w'↔Own w D w' []∧a≤d.length∧dJ d d 0=dJ d (List.drop a d) a:=by intros; subst N; exact Iff.rfl
 refine Wp.loop (fun i:Nat=> [(2, .int .i64 0),(21, .int .i64 ((i:Nat):Int)),(20, .int .i64 ((d.length:Nat):Int)),(0, .slice g d.length F)]) M (fun i=>d.length - i) 0 ⟨rfl,rfl,rfl,rfl,trivial⟩ (u.2 ⟨ai,by omega,rfl⟩) ?_
 rintro a aJ O
 show Wp _ _ _ [(2, .int .i64 0),(21, .int .i64 ((a:Nat):Int)),(20, .int .i64 ((d.length:Nat):Int)),(0, .slice g d.length F)] _ _
 obtain⟨A,aB,n⟩:=u.1 O
 refine sr (Kz (.bool (decide (((a:Nat):Int) < ((d.length:Nat):Int)))) (nt (xV ?_)))
 by_cases P:((a:Nat):Int) < ((d.length:Nat):Int)
 obtain⟨j,x⟩:=fE (ls:=d) (i:=a) aC.len (by decide) (A.ro l) (by first | omega | (simp; done) | (simp; omega))
 have p:=drop_at x
 refine jT (dT P) (sk (xV (bo (sr (Mz rfl (An rfl (xV (sr (Mz rfl (Mz rfl (fw (.pointer (some ⟨ab g,ao g+a *2,none⟩)) (yh (mX) rfl rfl ((A.ro l).addr (i:=a) (by omega)) (by omega)) (Kz (.pointer (some ⟨ab g,ao g+a *2+1,none⟩)) (fw (.int .i64 j.gm) (yl rfl (bH.one Tryz.isAgg3 (((A.ro l).elem aC.len x (by decide)).at_ (k:=1) rfl))) ?_)))))))))))))
 obtain⟨L,o⟩:∃ q,jW j.gm=q:=⟨_,rfl⟩
 obtain⟨aK,Q,aD,R,aF⟩:=yc A
 refine cl Tryz.call82 (oL _ _ j.gm L Q o) ?_
 rintro _ aj ⟨rfl,S⟩
 have T:=R _ _ S
 refine Kz (.bool (!L)) (nt ?_)
 rcases Bb (L) with r | r
 refine jF (cn r) (sk (xV ?_))
 have B:=T.drew
 refine yY [] (fun W=> ∃ L',Own w D W ([]++L')) (by kernel_rfl) (by kernel_rfl) (yL (fD.block (yL (yL (fD.block (yL yZ)))))) ⟨_,B⟩ ?_
 revert B
 generalize World.drew aj=aL
 intro B
 refine GX.take (v:= .int .i64 ((a:Nat):Int)) (rs:= []) 0 rfl (by kernel_rfl) (fun _ _=>yj rfl) (GX.take (v:= .bool (decide (((a:Nat):Int) > 0))) (rs:= []) 1 rfl (by kernel_rfl) (fun _ _=>yk) (GX.take (v:= .bool (decide (((a:Nat):Int) > 0))) (rs:= []) 2 rfl (by kernel_rfl) (fun _ _=>yj rfl) ?_))
 by_cases c:((a:Nat):Int) > 0
 refine yf (v:= .slice g d.length F) (rs:= []) 3 rfl rfl rfl (dT c) (by kernel_rfl) (fun _ _=>yj rfl) (yf (v:= .int .i64 ((a:Nat):Int)) (rs:= []) 4 rfl rfl rfl (dT c) (by kernel_rfl) (fun _ _=>yj rfl) (yf (v:= .pointer (some ⟨ab g,ao g+a *2,none⟩)) (rs:= []) 5 rfl rfl rfl (dT c) (by kernel_rfl) (fun _ ⟨_,C⟩=>yh (mX) rfl rfl ((C.ro l).addr (i:=a) (by omega)) (by omega)) (yf (v:= .pointer (some ⟨ab g,ao g+a *2,none⟩)) (rs:= []) 6 rfl rfl rfl (dT c) (by kernel_rfl) (fun _ _=>yk) (yf (v:= .string ⟨List.toArray j.aJ⟩) (rs:= []) 7 rfl rfl rfl (dT c) (by kernel_rfl) (fun _ ⟨_,C⟩=>yl rfl (bH.one Tryz.isAgg9 (((C.ro l).elem aC.len x (by decide)).at_ (k:=0) rfl))) ?_))))
 obtain⟨z,y⟩:∃ q,dI j.aJ=q:=⟨_,rfl⟩
 obtain⟨aM,U,aG,V,aH⟩:=yc B
 refine zi 8 rfl rfl rfl (dT c) (by kernel_rfl) (yC Tryz.call83 rfl (iG _ _ j.aJ z U y) ?_)
 rintro _ aN ⟨rfl,X,K⟩
 have I:=V _ _ X
 replace K: ¬ (z=0)∨(1≤j.aJ.length∧j.aJ.length≤12):=K
 refine⟨.inr ⟨_,I⟩, ?_⟩
 refine yf (v:= .bool (decide (¬ (z=0)))) (rs:= []) 9 rfl rfl rfl (dT c) (by kernel_rfl) (fun _ _=>yJ (e:= !(decide (z=0))) yk decide_not.symm) (yf (v:= .bool (decide (¬ (z=0)))) (rs:= []) 10 rfl rfl rfl (dT c) (by kernel_rfl) (fun _ _=>yj rfl) ?_)
 by_cases b:z=0
 refine yf (v:= .slice g d.length F) (rs:= []) 11 rfl rfl rfl (dF (Ba b)) (by kernel_rfl) (fun _ _=>yj rfl) (yf (v:= .int .i64 ((a:Nat):Int)) (rs:= []) 12 rfl rfl rfl (dF (Ba b)) (by kernel_rfl) (fun _ _=>yj rfl) (yf (v:= .pointer (some ⟨ab g,ao g+a *2,none⟩)) (rs:= []) 13 rfl rfl rfl (dF (Ba b)) (by kernel_rfl) (fun _ ⟨_,C⟩=>yh (mX) rfl rfl ((C.ro l).addr (i:=a) (by omega)) (by omega)) (yf (v:= .pointer (some ⟨ab g,ao g+a *2,none⟩)) (rs:= []) 14 rfl rfl rfl (dF (Ba b)) (by kernel_rfl) (fun _ _=>yk) (yf (v:= .string ⟨List.toArray j.aJ⟩) (rs:= []) 15 rfl rfl rfl (dF (Ba b)) (by kernel_rfl) (fun _ ⟨_,C⟩=>yl rfl (bH.one Tryz.isAgg9 (((C.ro l).elem aC.len x (by decide)).at_ (k:=0) rfl))) (yf (v:= .slice g d.length F) (rs:= []) 16 rfl rfl rfl (dF (Ba b)) (by kernel_rfl) (fun _ _=>yj rfl) (yf (v:= .int .i64 ((a:Nat):Int)) (rs:= []) 17 rfl rfl rfl (dF (Ba b)) (by kernel_rfl) (fun _ _=>yj rfl) (yf (v:= .int .i64 ((a - 1:Nat):Int)) (rs:= []) 18 rfl rfl rfl (dF (Ba b)) (by kernel_rfl) (fun _ _=>ym (e:=IntKind.i64.wrap (((a:Nat):Int) - 1)) yk (by rw [A8 _ (by omega)]; omega)) ?_)))))))
 obtain⟨t,E⟩:=qw (ls:=d) (i:=a - 1) (by first | omega | (simp; done) | (simp; omega))
 refine yf (v:= .pointer (some ⟨ab g,ao g+(a - 1) *2,none⟩)) (rs:= []) 19 rfl rfl rfl (dF (Ba b)) (by kernel_rfl) (fun _ ⟨_,C⟩=>yh (mX) rfl rfl ((C.ro l).addr (i:=a - 1) (by omega)) (by omega)) (yf (v:= .pointer (some ⟨ab g,ao g+(a - 1) *2,none⟩)) (rs:= []) 20 rfl rfl rfl (dF (Ba b)) (by kernel_rfl) (fun _ _=>yk) (yf (v:= .string ⟨List.toArray t.aJ⟩) (rs:= []) 21 rfl rfl rfl (dF (Ba b)) (by kernel_rfl) (fun _ ⟨_,C⟩=>yl rfl (bH.one Tryz.isAgg9 (((C.ro l).elem aC.len E (by decide)).at_ (k:=0) rfl))) (yf (v:= .bool (decide (j.aJ≤t.aJ))) (rs:= []) 22 rfl rfl rfl (dF (Ba b)) (by kernel_rfl) (fun _ _=>yJ (e:=Op.bytesLess j.aJ t.aJ || decide (j.aJ=t.aJ)) (zB rfl rfl) (rC _ _)) (yf (v:= .bool (decide (j.aJ≤t.aJ))) (rs:= []) 23 rfl rfl rfl (dT c) (by kernel_rfl) (fun _ _=>xW rfl (dF (Ba b)) rfl) (GX.take (v:= .bool (decide (j.aJ≤t.aJ))) (rs:= []) 24 rfl (by kernel_rfl) (fun _ _=>yw rfl (dT c) rfl) (yX (by kernel_rfl) (yg ?_)))))))
 by_cases J:j.aJ≤t.aJ
 refine jT (dT J) (sr (An rfl (rt (bR (tR (tR (bR (tR (rs ?_)))))))))
 have ak:=I.pk []
 obtain rfl:_=170:=hr.symm.trans (et (iN h) (et (iN f) (et (ae (dV m)) (et (iN s) (gI (et (n) (et (congrArg (fun q=>dJ d q a) p) (et (ae o) (et (ip r) (et (ip c) (et (ae y) (et (ip b) (et (ae (dV E)) (ip J))))))))))))))
 exact⟨rfl,ak⟩
 refine jF (dF J) (yV (bN (yg (xS (fw (.int .i64 ((a+1:Nat):Int)) (ym (e:=IntKind.i64.wrap (((a:Nat):Int)+1)) yk (by rw [A8 _ (by omega)]; omega)) (Mz rfl (xY ?_)))))))
 have au:=I.pk []
 exact yE (a+1) ⟨rfl,rfl,rfl,rfl,trivial⟩ (u.2 ⟨au,by omega,et (n) (et (congrArg (fun q=>dJ d q a) p) (et (ae o) (et (ip r) (et (ip c) (et (ae y) (et (ip b) (et (ae (dV E)) (iN J))))))))⟩) (by show d.length - (a+1) < d.length - a; omega)
 refine yn (rs:= []) 11 rfl rfl rfl (dT b) (by kernel_rfl) (yn (rs:= []) 12 rfl rfl rfl (dT b) (by kernel_rfl) (yn (rs:= []) 13 rfl rfl rfl (dT b) (by kernel_rfl) (yn (rs:= []) 14 rfl rfl rfl (dT b) (by kernel_rfl) (yn (rs:= []) 15 rfl rfl rfl (dT b) (by kernel_rfl) (yn (rs:= []) 16 rfl rfl rfl (dT b) (by kernel_rfl) (yn (rs:= []) 17 rfl rfl rfl (dT b) (by kernel_rfl) (yn (rs:= []) 18 rfl rfl rfl (dT b) (by kernel_rfl) (yn (rs:= []) 19 rfl rfl rfl (dT b) (by kernel_rfl) (yn (rs:= []) 20 rfl rfl rfl (dT b) (by kernel_rfl) (yn (rs:= []) 21 rfl rfl rfl (dT b) (by kernel_rfl) (yn (rs:= []) 22 rfl rfl rfl (dT b) (by kernel_rfl) (yf (v:= .bool true) (rs:= []) 23 rfl rfl rfl (dT c) (by kernel_rfl) (fun _ _=>yw rfl (dT b) rfl) (GX.take (v:= .bool true) (rs:= []) 24 rfl (by kernel_rfl) (fun _ _=>yw rfl (dT c) rfl) (yX (by kernel_rfl) (yg (jt (sr (An rfl (rt (bR (tR (tR (bR (tR (rs ?_)))))))))))))))))))))))))
 have av:=I.pk []
 obtain rfl:_=170:=hr.symm.trans (et (iN h) (et (iN f) (et (ae (dV m)) (et (iN s) (gI (et (n) (et (congrArg (fun q=>dJ d q a) p) (et (ae o) (et (ip r) (et (ip c) (et (ae y) (iN b))))))))))))
 exact⟨rfl,av⟩
 refine yn (rs:= []) 3 rfl rfl rfl (dF c) (by kernel_rfl) (yn (rs:= []) 4 rfl rfl rfl (dF c) (by kernel_rfl) (yn (rs:= []) 5 rfl rfl rfl (dF c) (by kernel_rfl) (yn (rs:= []) 6 rfl rfl rfl (dF c) (by kernel_rfl) (yn (rs:= []) 7 rfl rfl rfl (dF c) (by kernel_rfl) (yn (rs:= []) 8 rfl rfl rfl (dF c) (by kernel_rfl) (yn (rs:= []) 9 rfl rfl rfl (dF c) (by kernel_rfl) (yn (rs:= []) 10 rfl rfl rfl (dF c) (by kernel_rfl) (yP (rs:= []) 11 rfl rfl rfl (by kernel_rfl) (yP (rs:= []) 12 rfl rfl rfl (by kernel_rfl) (yP (rs:= []) 13 rfl rfl rfl (by kernel_rfl) (yP (rs:= []) 14 rfl rfl rfl (by kernel_rfl) (yP (rs:= []) 15 rfl rfl rfl (by kernel_rfl) (yP (rs:= []) 16 rfl rfl rfl (by kernel_rfl) (yP (rs:= []) 17 rfl rfl rfl (by kernel_rfl) (yP (rs:= []) 18 rfl rfl rfl (by kernel_rfl) (yP (rs:= []) 19 rfl rfl rfl (by kernel_rfl) (yP (rs:= []) 20 rfl rfl rfl (by kernel_rfl) (yP (rs:= []) 21 rfl rfl rfl (by kernel_rfl) (yP (rs:= []) 22 rfl rfl rfl (by kernel_rfl) (yn (rs:= []) 23 rfl rfl rfl (dF c) (by kernel_rfl) (GX.take (v:= .bool false) (rs:= []) 24 rfl (by kernel_rfl) (fun _ _=>xW rfl (dF c) rfl) (yX (by kernel_rfl) (yg (jf (yV (bN (yg (xS (fw (.int .i64 ((a+1:Nat):Int)) (ym (e:=IntKind.i64.wrap (((a:Nat):Int)+1)) yk (by rw [A8 _ (by omega)]; omega)) (Mz rfl (xY ?_)))))))))))))))))))))))))))))))
 have ax:=B.pk []
 exact yE (a+1) ⟨rfl,rfl,rfl,rfl,trivial⟩ (u.2 ⟨ax,by omega,et (n) (et (congrArg (fun q=>dJ d q a) p) (et (ae o) (et (ip r) (iN c))))⟩) (by show d.length - (a+1) < d.length - a; omega)
 refine jT (cn r) (sr (An rfl (rt (tR (bR (tR (tR (bR (tR (rs ?_))))))))))
 have ay:=T.pk []
 obtain rfl:_=170:=hr.symm.trans (et (iN h) (et (iN f) (et (ae (dV m)) (et (iN s) (gI (et (n) (et (congrArg (fun q=>dJ d q a) p) (et (ae o) (kG r)))))))))
 exact⟨rfl,ay⟩
 refine jF (dF P) (Wp.exit (xX ?_))
 have Y:dJ d d 0=Sum.inl ():=et (n) (et (congrArg (fun q=>dJ d q a) (fG (ls:=d) (i:=a) (by omega))) rfl)
 refine xX (yx (yg (sr (An rfl (rt (rs ?_))))))
 have az:=A.pk []
 obtain rfl:_=0:=hr.symm.trans (et (iN h) (et (iN f) (et (ae (dV m)) (et (iN s) (j3 Y)))))
 exact⟨rfl,az⟩
theorem pV (w:World) (D:Nat→Prop) (j:Int) (H:Own w D w []) (c:j=1):
    Calls Tryz.prog 111 #[.int .i64 j] w (dC fun v w'=>v= .tuple #[.agg #[.bool false, .func (.func 120) #[] #[], .func (.func 121) #[] #[], .func (.func 122) #[] #[], .func (.func 123) #[] #[]], .bool true]∧Own w D w' []):=by
 subst c
 refine xU (args:= [.int .i64 1]) Tryz.func111 rfl rfl rfl ?_
 show Wp _ _ _ [(0, .int .i64 1)] _ _
 refine sr ?_
 refine dG [.bool false, .nilFunc, .nilFunc, .nilFunc, .nilFunc] 166 H ?_
 intro l n d
 refine Ar rfl (Kz (.agg #[.bool false, .func (.func 120) #[] #[], .func (.func 121) #[] #[], .func (.func 122) #[] #[], .func (.func 123) #[] #[]]) (Kz (.agg #[.bool true, .func (.func 124) #[] #[], .func (.func 125) #[] #[], .func (.func 122) #[] #[], .func (.func 126) #[] #[]]) (Kz (.agg #[.bool true, .func (.func 120) #[] #[], .func (.func 121) #[] #[], .func (.func 122) #[] #[], .func (.func 127) #[] #[]]) (Kz (.agg #[.bool false, .func (.func 128) #[] #[], .func (.func 129) #[] #[], .func (.func 130) #[] #[], .func (.func 131) #[] #[]]) (Kz (.agg #[.bool true, .func (.func 132) #[] #[], .func (.func 133) #[] #[], .func (.func 130) #[] #[], .func (.func 134) #[] #[]]) (Kz (.agg #[.bool false, .nilFunc, .nilFunc, .nilFunc, .nilFunc, .bool false, .func (.func 120) #[] #[], .func (.func 121) #[] #[], .func (.func 122) #[] #[], .func (.func 123) #[] #[], .bool true, .func (.func 124) #[] #[], .func (.func 125) #[] #[], .func (.func 122) #[] #[], .func (.func 126) #[] #[], .bool true, .func (.func 120) #[] #[], .func (.func 121) #[] #[], .func (.func 122) #[] #[], .func (.func 127) #[] #[], .bool false, .func (.func 128) #[] #[], .func (.func 129) #[] #[], .func (.func 130) #[] #[], .func (.func 131) #[] #[], .bool true, .func (.func 132) #[] #[], .func (.func 133) #[] #[], .func (.func 130) #[] #[], .func (.func 134) #[] #[]]) ?_))))))
 refine dG [.bool false, .nilFunc, .nilFunc, .nilFunc, .nilFunc, .bool false, .nilFunc, .nilFunc, .nilFunc, .nilFunc, .bool false, .nilFunc, .nilFunc, .nilFunc, .nilFunc, .bool false, .nilFunc, .nilFunc, .nilFunc, .nilFunc, .bool false, .nilFunc, .nilFunc, .nilFunc, .nilFunc, .bool false, .nilFunc, .nilFunc, .nilFunc, .nilFunc] 178 d ?_
 intro e o f
 refine cZ [.bool false, .nilFunc, .nilFunc, .nilFunc, .nilFunc, .bool false, .func (.func 120) #[] #[], .func (.func 121) #[] #[], .func (.func 122) #[] #[], .func (.func 123) #[] #[], .bool true, .func (.func 124) #[] #[], .func (.func 125) #[] #[], .func (.func 122) #[] #[], .func (.func 126) #[] #[], .bool true, .func (.func 120) #[] #[], .func (.func 121) #[] #[], .func (.func 122) #[] #[], .func (.func 127) #[] #[], .bool false, .func (.func 128) #[] #[], .func (.func 129) #[] #[], .func (.func 130) #[] #[], .func (.func 131) #[] #[], .bool true, .func (.func 132) #[] #[], .func (.func 133) #[] #[], .func (.func 130) #[] #[], .func (.func 134) #[] #[]] 0 f Tryz.sizeOf178 ?_
 intro p a
 refine nt (xV (sr (Mz rfl (Kz (.bool false) (Mz rfl (gw (.int .i64 1) rfl (yj rfl) (Gz (.bool false) rfl (fw (.bool false) (xW rfl rfl rfl) (nt (jf (sk (sr (Mz rfl (Kz (.pointer (some ⟨e,5,none⟩)) (La ([.bool false, .func (.func 120) #[] #[], .func (.func 121) #[] #[], .func (.func 122) #[] #[], .func (.func 123) #[] #[]]) a 0 Tryz.isAgg166 Tryz.sizeOf166 ?_)))))))))))))))
 have g:=a.pk [1,0]
 refine cZ [.bool false, .func (.func 120) #[] #[], .func (.func 121) #[] #[], .func (.func 122) #[] #[], .func (.func 123) #[] #[]] 0 g Tryz.sizeOf166 ?_
 intro q b
 refine An rfl (rt (yI (kX (vs:= [.agg #[.bool false, .func (.func 120) #[] #[], .func (.func 121) #[] #[], .func (.func 122) #[] #[], .func (.func 123) #[] #[]], .bool true]) rfl (fF.cell rfl (yD (cs:= [.bool false, .func (.func 120) #[] #[], .func (.func 121) #[] #[], .func (.func 122) #[] #[], .func (.func 123) #[] #[]]) Tryz.isAgg166 Tryz.sizeOf166 ((b.cls (i:=0) rfl).lit (k:=0) (m:=5) rfl)) (fF.tmp rfl fF.nil)) (A7 rfl)) ?_))
 have h:=b.pk []
 exact⟨rfl,h⟩
def j4 (a:aW):aW:=
 aW.mk a.aT a.aY ([]) ([]) ([]) 0
theorem nN (w:World) (D:Nat→Prop) (a:aW) (g:aW) (H:Own w D w []) (hr:j4 a=g):
    Calls Tryz.prog 120 #[.agg (aW.cells a).toArray] w (dC fun v w'=>v= .agg (aW.cells g).toArray∧Own w D w' []):=by
 refine xU (args:= [.agg (aW.cells a).toArray]) Tryz.func120 rfl rfl rfl ?_
 show Wp _ _ _ [(0, .agg (aW.cells a).toArray)] _ _
 refine sr ?_
 refine dG (aW.cells a) 74 H ?_
 intro c h e
 refine dG [.int .i64 0, .string ⟨List.toArray ([])⟩, .string ⟨List.toArray ([])⟩, .string ⟨List.toArray ([])⟩, .string ⟨List.toArray ([])⟩, .int .i64 0] 74 e ?_
 intro j l b
 refine ns (Kz (.pointer (some ⟨c,0,none⟩)) (Lz (.int .i64 a.aT) b 1 Tryz.isAgg3 (Kz (.pointer (some ⟨c,1,none⟩)) (Lz (.string ⟨List.toArray a.aY⟩) b 1 Tryz.isAgg9 (Kz (.agg #[.int .i64 a.aT, .string ⟨List.toArray a.aY⟩, .string ⟨List.toArray ([])⟩, .string ⟨List.toArray ([])⟩, .string ⟨List.toArray ([])⟩, .int .i64 0]) ?_)))))
 refine cZ [.int .i64 a.aT, .string ⟨List.toArray a.aY⟩, .string ⟨List.toArray ([])⟩, .string ⟨List.toArray ([])⟩, .string ⟨List.toArray ([])⟩, .int .i64 0] 0 b Tryz.sizeOf74 ?_
 intro n d
 refine nt (rt (yI (kL rfl rfl (yD (cs:= [.int .i64 a.aT, .string ⟨List.toArray a.aY⟩, .string ⟨List.toArray ([])⟩, .string ⟨List.toArray ([])⟩, .string ⟨List.toArray ([])⟩, .int .i64 0]) Tryz.isAgg74 Tryz.sizeOf74 ((d.cls (i:=0) rfl).lit (k:=0) (m:=6) rfl))) ?_))
 have f:=d.pk []
 obtain rfl:_=aW.mk a.aT a.aY ([]) ([]) ([]) 0:=hr.symm.trans rfl
 exact⟨rfl,f⟩
def kw (b:aW):Int:=
 bnd (dI b.aY) fun a=>a
theorem mJ (w:World) (D:Nat→Prop) (a:aW) (l:Int) (H:Own w D w []) (hr:kw a=l):
    Calls Tryz.prog 121 #[.agg (aW.cells a).toArray] w (dC fun v w'=>v= .int .i64 l∧Own w D w' []):=by
 refine xU (args:= [.agg (aW.cells a).toArray]) Tryz.func121 rfl rfl rfl ?_
 show Wp _ _ _ [(0, .agg (aW.cells a).toArray)] _ _
 refine sr ?_
 refine dG (aW.cells a) 74 H ?_
 intro i o e
 refine Ar rfl (Kz (.pointer (some ⟨i,1,none⟩)) (Lz (.string ⟨List.toArray a.aY⟩) e 0 Tryz.isAgg9 ?_))
 obtain⟨d,b⟩:∃ q,dI a.aY=q:=⟨_,rfl⟩
 obtain⟨p,f,m,g,n⟩:=yc e
 refine cl Tryz.call83 (iG _ _ a.aY d f b) ?_
 rintro _ r ⟨rfl,h,c⟩
 have j:=g _ _ h
 replace c: ¬ (d=0)∨(1≤a.aY.length∧a.aY.length≤12):=c
 refine An rfl (rt (rs ?_))
 have k:=j.pk []
 obtain rfl:_=d:=hr.symm.trans (ae b)
 exact⟨rfl,k⟩
theorem pW (w:World) (D:Nat→Prop) (j:Int) (H:Own w D w []) (c:j=2):
    Calls Tryz.prog 111 #[.int .i64 j] w (dC fun v w'=>v= .tuple #[.agg #[.bool true, .func (.func 124) #[] #[], .func (.func 125) #[] #[], .func (.func 122) #[] #[], .func (.func 126) #[] #[]], .bool true]∧Own w D w' []):=by
 subst c
 refine xU (args:= [.int .i64 2]) Tryz.func111 rfl rfl rfl ?_
 show Wp _ _ _ [(0, .int .i64 2)] _ _
 refine sr ?_
 refine dG [.bool false, .nilFunc, .nilFunc, .nilFunc, .nilFunc] 166 H ?_
 intro l n d
 refine Ar rfl (Kz (.agg #[.bool false, .func (.func 120) #[] #[], .func (.func 121) #[] #[], .func (.func 122) #[] #[], .func (.func 123) #[] #[]]) (Kz (.agg #[.bool true, .func (.func 124) #[] #[], .func (.func 125) #[] #[], .func (.func 122) #[] #[], .func (.func 126) #[] #[]]) (Kz (.agg #[.bool true, .func (.func 120) #[] #[], .func (.func 121) #[] #[], .func (.func 122) #[] #[], .func (.func 127) #[] #[]]) (Kz (.agg #[.bool false, .func (.func 128) #[] #[], .func (.func 129) #[] #[], .func (.func 130) #[] #[], .func (.func 131) #[] #[]]) (Kz (.agg #[.bool true, .func (.func 132) #[] #[], .func (.func 133) #[] #[], .func (.func 130) #[] #[], .func (.func 134) #[] #[]]) (Kz (.agg #[.bool false, .nilFunc, .nilFunc, .nilFunc, .nilFunc, .bool false, .func (.func 120) #[] #[], .func (.func 121) #[] #[], .func (.func 122) #[] #[], .func (.func 123) #[] #[], .bool true, .func (.func 124) #[] #[], .func (.func 125) #[] #[], .func (.func 122) #[] #[], .func (.func 126) #[] #[], .bool true, .func (.func 120) #[] #[], .func (.func 121) #[] #[], .func (.func 122) #[] #[], .func (.func 127) #[] #[], .bool false, .func (.func 128) #[] #[], .func (.func 129) #[] #[], .func (.func 130) #[] #[], .func (.func 131) #[] #[], .bool true, .func (.func 132) #[] #[], .func (.func 133) #[] #[], .func (.func 130) #[] #[], .func (.func 134) #[] #[]]) ?_))))))
 refine dG [.bool false, .nilFunc, .nilFunc, .nilFunc, .nilFunc, .bool false, .nilFunc, .nilFunc, .nilFunc, .nilFunc, .bool false, .nilFunc, .nilFunc, .nilFunc, .nilFunc, .bool false, .nilFunc, .nilFunc, .nilFunc, .nilFunc, .bool false, .nilFunc, .nilFunc, .nilFunc, .nilFunc, .bool false, .nilFunc, .nilFunc, .nilFunc, .nilFunc] 178 d ?_
 intro e o f
 refine cZ [.bool false, .nilFunc, .nilFunc, .nilFunc, .nilFunc, .bool false, .func (.func 120) #[] #[], .func (.func 121) #[] #[], .func (.func 122) #[] #[], .func (.func 123) #[] #[], .bool true, .func (.func 124) #[] #[], .func (.func 125) #[] #[], .func (.func 122) #[] #[], .func (.func 126) #[] #[], .bool true, .func (.func 120) #[] #[], .func (.func 121) #[] #[], .func (.func 122) #[] #[], .func (.func 127) #[] #[], .bool false, .func (.func 128) #[] #[], .func (.func 129) #[] #[], .func (.func 130) #[] #[], .func (.func 131) #[] #[], .bool true, .func (.func 132) #[] #[], .func (.func 133) #[] #[], .func (.func 130) #[] #[], .func (.func 134) #[] #[]] 0 f Tryz.sizeOf178 ?_
 intro p a
 refine nt (xV (sr (Mz rfl (Kz (.bool false) (Mz rfl (gw (.int .i64 2) rfl (yj rfl) (Gz (.bool false) rfl (fw (.bool false) (xW rfl rfl rfl) (nt (jf (sk (sr (Mz rfl (Kz (.pointer (some ⟨e,10,none⟩)) (La ([.bool true, .func (.func 124) #[] #[], .func (.func 125) #[] #[], .func (.func 122) #[] #[], .func (.func 126) #[] #[]]) a 0 Tryz.isAgg166 Tryz.sizeOf166 ?_)))))))))))))))
 have g:=a.pk [1,0]
 refine cZ [.bool true, .func (.func 124) #[] #[], .func (.func 125) #[] #[], .func (.func 122) #[] #[], .func (.func 126) #[] #[]] 0 g Tryz.sizeOf166 ?_
 intro q b
 refine An rfl (rt (yI (kX (vs:= [.agg #[.bool true, .func (.func 124) #[] #[], .func (.func 125) #[] #[], .func (.func 122) #[] #[], .func (.func 126) #[] #[]], .bool true]) rfl (fF.cell rfl (yD (cs:= [.bool true, .func (.func 124) #[] #[], .func (.func 125) #[] #[], .func (.func 122) #[] #[], .func (.func 126) #[] #[]]) Tryz.isAgg166 Tryz.sizeOf166 ((b.cls (i:=0) rfl).lit (k:=0) (m:=5) rfl)) (fF.tmp rfl fF.nil)) (A7 rfl)) ?_))
 have h:=b.pk []
 exact⟨rfl,h⟩
def kP (a:aW):aW:=
 aW.mk a.aT a.aY a.aB ([]) ([]) 0
theorem ql (w:World) (D:Nat→Prop) (a:aW) (g:aW) (H:Own w D w []) (hr:kP a=g):
    Calls Tryz.prog 124 #[.agg (aW.cells a).toArray] w (dC fun v w'=>v= .agg (aW.cells g).toArray∧Own w D w' []):=by
 refine xU (args:= [.agg (aW.cells a).toArray]) Tryz.func124 rfl rfl rfl ?_
 show Wp _ _ _ [(0, .agg (aW.cells a).toArray)] _ _
 refine sr ?_
 refine dG (aW.cells a) 74 H ?_
 intro c h e
 refine dG [.int .i64 0, .string ⟨List.toArray ([])⟩, .string ⟨List.toArray ([])⟩, .string ⟨List.toArray ([])⟩, .string ⟨List.toArray ([])⟩, .int .i64 0] 74 e ?_
 intro j l b
 refine ns (Kz (.pointer (some ⟨c,0,none⟩)) (Lz (.int .i64 a.aT) b 1 Tryz.isAgg3 (Kz (.pointer (some ⟨c,1,none⟩)) (Lz (.string ⟨List.toArray a.aY⟩) b 1 Tryz.isAgg9 (Kz (.pointer (some ⟨c,2,none⟩)) (Lz (.string ⟨List.toArray a.aB⟩) b 1 Tryz.isAgg9 (Kz (.agg #[.int .i64 a.aT, .string ⟨List.toArray a.aY⟩, .string ⟨List.toArray a.aB⟩, .string ⟨List.toArray ([])⟩, .string ⟨List.toArray ([])⟩, .int .i64 0]) ?_)))))))
 refine cZ [.int .i64 a.aT, .string ⟨List.toArray a.aY⟩, .string ⟨List.toArray a.aB⟩, .string ⟨List.toArray ([])⟩, .string ⟨List.toArray ([])⟩, .int .i64 0] 0 b Tryz.sizeOf74 ?_
 intro n d
 refine nt (rt (yI (kL rfl rfl (yD (cs:= [.int .i64 a.aT, .string ⟨List.toArray a.aY⟩, .string ⟨List.toArray a.aB⟩, .string ⟨List.toArray ([])⟩, .string ⟨List.toArray ([])⟩, .int .i64 0]) Tryz.isAgg74 Tryz.sizeOf74 ((d.cls (i:=0) rfl).lit (k:=0) (m:=6) rfl))) ?_))
 have f:=d.pk []
 obtain rfl:_=aW.mk a.aT a.aY a.aB ([]) ([]) 0:=hr.symm.trans rfl
 exact⟨rfl,f⟩
def jX (a:List UInt8):Int:=
 if((a.length:Nat):Int) > 16 then 2 else 0
theorem oM (w:World) (D:Nat→Prop) (b:List UInt8) (e:Int) (H:Own w D w []) (hr:jX b=e):
    Calls Tryz.prog 140 #[.string ⟨List.toArray b⟩] w (dC fun v w'=>v= .int .i64 e∧Own w D w' []):=by
 refine xU (args:= [.string ⟨List.toArray b⟩]) Tryz.func140 rfl rfl rfl ?_
 show Wp _ _ _ [(0, .string ⟨List.toArray b⟩)] _ _
 refine sr (An rfl (xV (sr (Mz rfl (Kz (.int .i64 ((b.length:Nat):Int)) (Kz (.bool (decide (((b.length:Nat):Int) > 16))) (nt ?_)))))))
 by_cases a:((b.length:Nat):Int) > 16
 refine jT (dT a) (sr (An rfl (rt (tR (rs ?_)))))
 have c:Own w D w []:=H.pk []
 obtain rfl:_=2:=hr.symm.trans (ip a)
 exact⟨rfl,c⟩
 refine jF (dF a) (sk (sr (An rfl (rt (rs ?_)))))
 have d:Own w D w []:=H.pk []
 obtain rfl:_=0:=hr.symm.trans (iN a)
 exact⟨rfl,d⟩
def j5 (c:aW):Int:=
 bnd (dI c.aY) fun a=>if a=0 then bnd (jX c.aB) fun b=>b else a
theorem oZ (w:World) (D:Nat→Prop) (a:aW) (x:Int) (H:Own w D w []) (hr:j5 a=x):
    Calls Tryz.prog 125 #[.agg (aW.cells a).toArray] w (dC fun v w'=>v= .int .i64 x∧Own w D w' []):=by
 refine xU (args:= [.agg (aW.cells a).toArray]) Tryz.func125 rfl rfl rfl ?_
 show Wp _ _ _ [(0, .agg (aW.cells a).toArray)] _ _
 refine sr ?_
 refine dG (aW.cells a) 74 H ?_
 intro i C j
 refine An rfl (xV (sr (Kz (.pointer (some ⟨i,1,none⟩)) (Lz (.string ⟨List.toArray a.aY⟩) j 0 Tryz.isAgg9 ?_))))
 obtain⟨b,c⟩:∃ q,dI a.aY=q:=⟨_,rfl⟩
 obtain⟨E,k,y,l,z⟩:=yc j
 refine cl Tryz.call83 (iG _ _ a.aY b k c) ?_
 rintro _ F ⟨rfl,m,f⟩
 have h:=l _ _ m
 replace f: ¬ (b=0)∨(1≤a.aY.length∧a.aY.length≤12):=f
 refine Ar rfl (Mz rfl (fw (.bool (decide (¬ (b=0)))) (yJ (e:= !(decide (b=0))) yk decide_not.symm) (nt ?_)))
 by_cases d:b=0
 refine jF (dF (Ba d)) (sk (sr (Kz (.pointer (some ⟨i,2,none⟩)) (Lz (.string ⟨List.toArray a.aB⟩) h 0 Tryz.isAgg9 ?_))))
 obtain⟨n,g⟩:∃ q,jX a.aB=q:=⟨_,rfl⟩
 obtain⟨G,o,A,p,B⟩:=yc h
 refine cl Tryz.call140 (oM _ _ a.aB n o g) ?_
 rintro _ I ⟨rfl,r⟩
 have s:=p _ _ r
 refine An rfl (rt (rs ?_))
 have t:=s.pk []
 obtain rfl:_=n:=hr.symm.trans (et (ae c) (et (ip d) (ae g)))
 exact⟨rfl,t⟩
 refine jT (dT d) (sr (Mz rfl (An rfl (rt (tR (rs ?_))))))
 have u:=h.pk []
 obtain rfl:_=b:=hr.symm.trans (et (ae c) (iN d))
 exact⟨rfl,u⟩
theorem pX (w:World) (D:Nat→Prop) (j:Int) (H:Own w D w []) (c:j=3):
    Calls Tryz.prog 111 #[.int .i64 j] w (dC fun v w'=>v= .tuple #[.agg #[.bool true, .func (.func 120) #[] #[], .func (.func 121) #[] #[], .func (.func 122) #[] #[], .func (.func 127) #[] #[]], .bool true]∧Own w D w' []):=by
 subst c
 refine xU (args:= [.int .i64 3]) Tryz.func111 rfl rfl rfl ?_
 show Wp _ _ _ [(0, .int .i64 3)] _ _
 refine sr ?_
 refine dG [.bool false, .nilFunc, .nilFunc, .nilFunc, .nilFunc] 166 H ?_
 intro l n d
 refine Ar rfl (Kz (.agg #[.bool false, .func (.func 120) #[] #[], .func (.func 121) #[] #[], .func (.func 122) #[] #[], .func (.func 123) #[] #[]]) (Kz (.agg #[.bool true, .func (.func 124) #[] #[], .func (.func 125) #[] #[], .func (.func 122) #[] #[], .func (.func 126) #[] #[]]) (Kz (.agg #[.bool true, .func (.func 120) #[] #[], .func (.func 121) #[] #[], .func (.func 122) #[] #[], .func (.func 127) #[] #[]]) (Kz (.agg #[.bool false, .func (.func 128) #[] #[], .func (.func 129) #[] #[], .func (.func 130) #[] #[], .func (.func 131) #[] #[]]) (Kz (.agg #[.bool true, .func (.func 132) #[] #[], .func (.func 133) #[] #[], .func (.func 130) #[] #[], .func (.func 134) #[] #[]]) (Kz (.agg #[.bool false, .nilFunc, .nilFunc, .nilFunc, .nilFunc, .bool false, .func (.func 120) #[] #[], .func (.func 121) #[] #[], .func (.func 122) #[] #[], .func (.func 123) #[] #[], .bool true, .func (.func 124) #[] #[], .func (.func 125) #[] #[], .func (.func 122) #[] #[], .func (.func 126) #[] #[], .bool true, .func (.func 120) #[] #[], .func (.func 121) #[] #[], .func (.func 122) #[] #[], .func (.func 127) #[] #[], .bool false, .func (.func 128) #[] #[], .func (.func 129) #[] #[], .func (.func 130) #[] #[], .func (.func 131) #[] #[], .bool true, .func (.func 132) #[] #[], .func (.func 133) #[] #[], .func (.func 130) #[] #[], .func (.func 134) #[] #[]]) ?_))))))
 refine dG [.bool false, .nilFunc, .nilFunc, .nilFunc, .nilFunc, .bool false, .nilFunc, .nilFunc, .nilFunc, .nilFunc, .bool false, .nilFunc, .nilFunc, .nilFunc, .nilFunc, .bool false, .nilFunc, .nilFunc, .nilFunc, .nilFunc, .bool false, .nilFunc, .nilFunc, .nilFunc, .nilFunc, .bool false, .nilFunc, .nilFunc, .nilFunc, .nilFunc] 178 d ?_
 intro e o f
 refine cZ [.bool false, .nilFunc, .nilFunc, .nilFunc, .nilFunc, .bool false, .func (.func 120) #[] #[], .func (.func 121) #[] #[], .func (.func 122) #[] #[], .func (.func 123) #[] #[], .bool true, .func (.func 124) #[] #[], .func (.func 125) #[] #[], .func (.func 122) #[] #[], .func (.func 126) #[] #[], .bool true, .func (.func 120) #[] #[], .func (.func 121) #[] #[], .func (.func 122) #[] #[], .func (.func 127) #[] #[], .bool false, .func (.func 128) #[] #[], .func (.func 129) #[] #[], .func (.func 130) #[] #[], .func (.func 131) #[] #[], .bool true, .func (.func 132) #[] #[], .func (.func 133) #[] #[], .func (.func 130) #[] #[], .func (.func 134) #[] #[]] 0 f Tryz.sizeOf178 ?_
 intro p a
 refine nt (xV (sr (Mz rfl (Kz (.bool false) (Mz rfl (gw (.int .i64 3) rfl (yj rfl) (Gz (.bool false) rfl (fw (.bool false) (xW rfl rfl rfl) (nt (jf (sk (sr (Mz rfl (Kz (.pointer (some ⟨e,15,none⟩)) (La ([.bool true, .func (.func 120) #[] #[], .func (.func 121) #[] #[], .func (.func 122) #[] #[], .func (.func 127) #[] #[]]) a 0 Tryz.isAgg166 Tryz.sizeOf166 ?_)))))))))))))))
 have g:=a.pk [1,0]
 refine cZ [.bool true, .func (.func 120) #[] #[], .func (.func 121) #[] #[], .func (.func 122) #[] #[], .func (.func 127) #[] #[]] 0 g Tryz.sizeOf166 ?_
 intro q b
 refine An rfl (rt (yI (kX (vs:= [.agg #[.bool true, .func (.func 120) #[] #[], .func (.func 121) #[] #[], .func (.func 122) #[] #[], .func (.func 127) #[] #[]], .bool true]) rfl (fF.cell rfl (yD (cs:= [.bool true, .func (.func 120) #[] #[], .func (.func 121) #[] #[], .func (.func 122) #[] #[], .func (.func 127) #[] #[]]) Tryz.isAgg166 Tryz.sizeOf166 ((b.cls (i:=0) rfl).lit (k:=0) (m:=5) rfl)) (fF.tmp rfl fF.nil)) (A7 rfl)) ?_))
 have h:=b.pk []
 exact⟨rfl,h⟩
theorem pY (w:World) (D:Nat→Prop) (j:Int) (H:Own w D w []) (c:j=4):
    Calls Tryz.prog 111 #[.int .i64 j] w (dC fun v w'=>v= .tuple #[.agg #[.bool false, .func (.func 128) #[] #[], .func (.func 129) #[] #[], .func (.func 130) #[] #[], .func (.func 131) #[] #[]], .bool true]∧Own w D w' []):=by
 subst c
 refine xU (args:= [.int .i64 4]) Tryz.func111 rfl rfl rfl ?_
 show Wp _ _ _ [(0, .int .i64 4)] _ _
 refine sr ?_
 refine dG [.bool false, .nilFunc, .nilFunc, .nilFunc, .nilFunc] 166 H ?_
 intro l n d
 refine Ar rfl (Kz (.agg #[.bool false, .func (.func 120) #[] #[], .func (.func 121) #[] #[], .func (.func 122) #[] #[], .func (.func 123) #[] #[]]) (Kz (.agg #[.bool true, .func (.func 124) #[] #[], .func (.func 125) #[] #[], .func (.func 122) #[] #[], .func (.func 126) #[] #[]]) (Kz (.agg #[.bool true, .func (.func 120) #[] #[], .func (.func 121) #[] #[], .func (.func 122) #[] #[], .func (.func 127) #[] #[]]) (Kz (.agg #[.bool false, .func (.func 128) #[] #[], .func (.func 129) #[] #[], .func (.func 130) #[] #[], .func (.func 131) #[] #[]]) (Kz (.agg #[.bool true, .func (.func 132) #[] #[], .func (.func 133) #[] #[], .func (.func 130) #[] #[], .func (.func 134) #[] #[]]) (Kz (.agg #[.bool false, .nilFunc, .nilFunc, .nilFunc, .nilFunc, .bool false, .func (.func 120) #[] #[], .func (.func 121) #[] #[], .func (.func 122) #[] #[], .func (.func 123) #[] #[], .bool true, .func (.func 124) #[] #[], .func (.func 125) #[] #[], .func (.func 122) #[] #[], .func (.func 126) #[] #[], .bool true, .func (.func 120) #[] #[], .func (.func 121) #[] #[], .func (.func 122) #[] #[], .func (.func 127) #[] #[], .bool false, .func (.func 128) #[] #[], .func (.func 129) #[] #[], .func (.func 130) #[] #[], .func (.func 131) #[] #[], .bool true, .func (.func 132) #[] #[], .func (.func 133) #[] #[], .func (.func 130) #[] #[], .func (.func 134) #[] #[]]) ?_))))))
 refine dG [.bool false, .nilFunc, .nilFunc, .nilFunc, .nilFunc, .bool false, .nilFunc, .nilFunc, .nilFunc, .nilFunc, .bool false, .nilFunc, .nilFunc, .nilFunc, .nilFunc, .bool false, .nilFunc, .nilFunc, .nilFunc, .nilFunc, .bool false, .nilFunc, .nilFunc, .nilFunc, .nilFunc, .bool false, .nilFunc, .nilFunc, .nilFunc, .nilFunc] 178 d ?_
 intro e o f
 refine cZ [.bool false, .nilFunc, .nilFunc, .nilFunc, .nilFunc, .bool false, .func (.func 120) #[] #[], .func (.func 121) #[] #[], .func (.func 122) #[] #[], .func (.func 123) #[] #[], .bool true, .func (.func 124) #[] #[], .func (.func 125) #[] #[], .func (.func 122) #[] #[], .func (.func 126) #[] #[], .bool true, .func (.func 120) #[] #[], .func (.func 121) #[] #[], .func (.func 122) #[] #[], .func (.func 127) #[] #[], .bool false, .func (.func 128) #[] #[], .func (.func 129) #[] #[], .func (.func 130) #[] #[], .func (.func 131) #[] #[], .bool true, .func (.func 132) #[] #[], .func (.func 133) #[] #[], .func (.func 130) #[] #[], .func (.func 134) #[] #[]] 0 f Tryz.sizeOf178 ?_
 intro p a
 refine nt (xV (sr (Mz rfl (Kz (.bool false) (Mz rfl (gw (.int .i64 4) rfl (yj rfl) (Gz (.bool false) rfl (fw (.bool false) (xW rfl rfl rfl) (nt (jf (sk (sr (Mz rfl (Kz (.pointer (some ⟨e,20,none⟩)) (La ([.bool false, .func (.func 128) #[] #[], .func (.func 129) #[] #[], .func (.func 130) #[] #[], .func (.func 131) #[] #[]]) a 0 Tryz.isAgg166 Tryz.sizeOf166 ?_)))))))))))))))
 have g:=a.pk [1,0]
 refine cZ [.bool false, .func (.func 128) #[] #[], .func (.func 129) #[] #[], .func (.func 130) #[] #[], .func (.func 131) #[] #[]] 0 g Tryz.sizeOf166 ?_
 intro q b
 refine An rfl (rt (yI (kX (vs:= [.agg #[.bool false, .func (.func 128) #[] #[], .func (.func 129) #[] #[], .func (.func 130) #[] #[], .func (.func 131) #[] #[]], .bool true]) rfl (fF.cell rfl (yD (cs:= [.bool false, .func (.func 128) #[] #[], .func (.func 129) #[] #[], .func (.func 130) #[] #[], .func (.func 131) #[] #[]]) Tryz.isAgg166 Tryz.sizeOf166 ((b.cls (i:=0) rfl).lit (k:=0) (m:=5) rfl)) (fF.tmp rfl fF.nil)) (A7 rfl)) ?_))
 have h:=b.pk []
 exact⟨rfl,h⟩
def kQ (a:aW):aW:=
 aW.mk a.aT ([]) ([]) a.aJ a.aO a.bD
theorem qm (w:World) (D:Nat→Prop) (a:aW) (g:aW) (H:Own w D w []) (hr:kQ a=g):
    Calls Tryz.prog 128 #[.agg (aW.cells a).toArray] w (dC fun v w'=>v= .agg (aW.cells g).toArray∧Own w D w' []):=by
 refine xU (args:= [.agg (aW.cells a).toArray]) Tryz.func128 rfl rfl rfl ?_
 show Wp _ _ _ [(0, .agg (aW.cells a).toArray)] _ _
 refine sr ?_
 refine dG (aW.cells a) 74 H ?_
 intro c h e
 refine dG [.int .i64 0, .string ⟨List.toArray ([])⟩, .string ⟨List.toArray ([])⟩, .string ⟨List.toArray ([])⟩, .string ⟨List.toArray ([])⟩, .int .i64 0] 74 e ?_
 intro j l b
 refine ns (Kz (.pointer (some ⟨c,0,none⟩)) (Lz (.int .i64 a.aT) b 1 Tryz.isAgg3 (Kz (.pointer (some ⟨c,3,none⟩)) (Lz (.string ⟨List.toArray a.aJ⟩) b 1 Tryz.isAgg9 (Kz (.pointer (some ⟨c,4,none⟩)) (Lz (.string ⟨List.toArray a.aO⟩) b 1 Tryz.isAgg9 (Kz (.pointer (some ⟨c,5,none⟩)) (Lz (.int .i64 a.bD) b 1 Tryz.isAgg3 (Kz (.agg #[.int .i64 a.aT, .string ⟨List.toArray ([])⟩, .string ⟨List.toArray ([])⟩, .string ⟨List.toArray a.aJ⟩, .string ⟨List.toArray a.aO⟩, .int .i64 a.bD]) ?_)))))))))
 refine cZ [.int .i64 a.aT, .string ⟨List.toArray ([])⟩, .string ⟨List.toArray ([])⟩, .string ⟨List.toArray a.aJ⟩, .string ⟨List.toArray a.aO⟩, .int .i64 a.bD] 0 b Tryz.sizeOf74 ?_
 intro n d
 refine nt (rt (yI (kL rfl rfl (yD (cs:= [.int .i64 a.aT, .string ⟨List.toArray ([])⟩, .string ⟨List.toArray ([])⟩, .string ⟨List.toArray a.aJ⟩, .string ⟨List.toArray a.aO⟩, .int .i64 a.bD]) Tryz.isAgg74 Tryz.sizeOf74 ((d.cls (i:=0) rfl).lit (k:=0) (m:=6) rfl))) ?_))
 have f:=d.pk []
 obtain rfl:_=aW.mk a.aT ([]) ([]) a.aJ a.aO a.bD:=hr.symm.trans rfl
 exact⟨rfl,f⟩
def jw (a:aW):bE:=
 bE.mk a.aJ a.aO
theorem o5 (w:World) (D:Nat→Prop) (a:aW) (g:bE) (H:Own w D w []) (hr:jw a=g):
    Calls Tryz.prog 130 #[.agg (aW.cells a).toArray] w (dC fun v w'=>v= .agg (bE.cells g).toArray∧Own w D w' []):=by
 refine xU (args:= [.agg (aW.cells a).toArray]) Tryz.func130 rfl rfl rfl ?_
 show Wp _ _ _ [(0, .agg (aW.cells a).toArray)] _ _
 refine sr ?_
 refine dG (aW.cells a) 74 H ?_
 intro c h e
 refine dG [.string ⟨List.toArray ([])⟩, .string ⟨List.toArray ([])⟩] 27 e ?_
 intro j l b
 refine ns (Kz (.pointer (some ⟨c,3,none⟩)) (Lz (.string ⟨List.toArray a.aJ⟩) b 1 Tryz.isAgg9 (Kz (.pointer (some ⟨c,4,none⟩)) (Lz (.string ⟨List.toArray a.aO⟩) b 1 Tryz.isAgg9 (Kz (.agg #[.string ⟨List.toArray a.aJ⟩, .string ⟨List.toArray a.aO⟩]) ?_)))))
 refine cZ [.string ⟨List.toArray a.aJ⟩, .string ⟨List.toArray a.aO⟩] 0 b Tryz.sizeOf27 ?_
 intro n d
 refine nt (rt (yI (kL rfl rfl (yD (cs:= [.string ⟨List.toArray a.aJ⟩, .string ⟨List.toArray a.aO⟩]) Tryz.isAgg27 Tryz.sizeOf27 ((d.cls (i:=0) rfl).lit (k:=0) (m:=2) rfl))) ?_))
 have f:=d.pk []
 obtain rfl:_=bE.mk a.aJ a.aO:=hr.symm.trans rfl
 exact⟨rfl,f⟩
def eT (a:bE):Int:=
 if a.aJ≠([]) then bnd (dI a.aJ) fun b=>if b=0 then if a.aO≠([]) then bnd (dI a.aO) fun c=>if c=0 then if a.aO≤a.aJ then 21 else 0 else 21 else 0 else 21 else if a.aO≠([]) then bnd (dI a.aO) fun d=>if d=0 then if a.aO≤a.aJ then 21 else 0 else 21 else 0
theorem iE (w:World) (D:Nat→Prop) (a:bE) (W:Int) (H:Own w D w []) (hr:eT a=W):
    Calls Tryz.prog 86 #[.agg (bE.cells a).toArray] w (dC fun v w'=>v= .int .i64 W∧Own w D w' []):=by
 refine xU (args:= [.agg (bE.cells a).toArray]) Tryz.func86 rfl rfl rfl ?_
 show Wp _ _ _ [(0, .agg (bE.cells a).toArray)] _ _
 refine sr ?_
 refine dG (bE.cells a) 27 H ?_
 intro h ah k
 refine An rfl (xV (sr (Kz (.pointer (some ⟨h,0,none⟩)) (Lz (.string ⟨List.toArray a.aJ⟩) k 0 Tryz.isAgg9 (fw (.bool (decide (a.aJ≠([])))) (zq rfl rfl) (Mz rfl ?_))))))
 by_cases d:a.aJ≠([])
 refine Gz (.pointer (some ⟨h,0,none⟩)) (dT d) (Gl (.string ⟨List.toArray a.aJ⟩) (dT d) k 0 Tryz.isAgg9 ?_)
 obtain⟨o,j⟩:∃ q,dI a.aJ=q:=⟨_,rfl⟩
 obtain⟨ai,C,X,E,Y⟩:=yc k
 refine nK (dT d) Tryz.call83 (iG _ _ a.aJ o C j) ?_
 rintro _ aj ⟨rfl,F,z⟩
 have s:=E _ _ F
 replace z: ¬ (o=0)∨(1≤a.aJ.length∧a.aJ.length≤12):=z
 refine gw (.bool (decide (¬ (o=0)))) (dT d) (yJ (e:= !(decide (o=0))) yk decide_not.symm) (fw (.bool (decide (¬ (o=0)))) (yw rfl (dT d) rfl) (nt ?_))
 by_cases l:o=0
 refine jF (dF (Ba l)) (sk (xV (sr (Kz (.pointer (some ⟨h,1,none⟩)) (Lz (.string ⟨List.toArray a.aO⟩) s 0 Tryz.isAgg9 (fw (.bool (decide (a.aO≠([])))) (zq rfl rfl) (Mz rfl ?_)))))))
 by_cases b:a.aO≠([])
 refine Gz (.pointer (some ⟨h,1,none⟩)) (dT b) (Gl (.string ⟨List.toArray a.aO⟩) (dT b) s 0 Tryz.isAgg9 ?_)
 obtain⟨p,m⟩:∃ q,dI a.aO=q:=⟨_,rfl⟩
 obtain⟨ak,G,Z,I,aa⟩:=yc s
 refine nK (dT b) Tryz.call83 (iG _ _ a.aO p G m) ?_
 rintro _ au ⟨rfl,J,A⟩
 have t:=I _ _ J
 replace A: ¬ (p=0)∨(1≤a.aO.length∧a.aO.length≤12):=A
 refine gw (.bool (decide (¬ (p=0)))) (dT b) (yJ (e:= !(decide (p=0))) yk decide_not.symm) (gw (.bool (decide (¬ (p=0)))) (dT b) (yj rfl) ?_)
 by_cases f:p=0
 refine gw (.pointer (some ⟨h,1,none⟩)) (dF (Ba f)) yk (gw (.string ⟨List.toArray a.aO⟩) (dF (Ba f)) (yl rfl (bH.one Tryz.isAgg9 (yT (t.cls (i:=0) rfl) rfl))) (gw (.pointer (some ⟨h,0,none⟩)) (dF (Ba f)) yk (gw (.string ⟨List.toArray a.aJ⟩) (dF (Ba f)) (yl rfl (bH.one Tryz.isAgg9 (yT (t.cls (i:=0) rfl) rfl))) (gw (.bool (decide (a.aO≤a.aJ))) (dF (Ba f)) (yJ (e:=Op.bytesLess a.aO a.aJ || decide (a.aO=a.aJ)) (zB rfl rfl) (rC _ _)) (gw (.bool (decide (a.aO≤a.aJ))) (dT b) (xW rfl (dF (Ba f)) rfl) (fw (.bool (decide (a.aO≤a.aJ))) (yw rfl (dT b) rfl) (nt ?_)))))))
 by_cases x:a.aO≤a.aJ
 refine jT (dT x) (sr (An rfl (rt (tR (rs ?_)))))
 have N:=t.pk []
 obtain rfl:_=21:=hr.symm.trans (et (ip d) (et (ae j) (et (ip l) (et (ip b) (et (ae m) (et (ip f) (ip x)))))))
 exact⟨rfl,N⟩
 refine jF (dF x) (sk (sr (An rfl (rt (rs ?_)))))
 have O:=t.pk []
 obtain rfl:_=0:=hr.symm.trans (et (ip d) (et (ae j) (et (ip l) (et (ip b) (et (ae m) (et (ip f) (iN x)))))))
 exact⟨rfl,O⟩
 refine Sz (dT f) (Sz (dT f) (Sz (dT f) (Sz (dT f) (Sz (dT f) (gw (.bool true) (dT b) (yw rfl (dT f) rfl) (fw (.bool true) (yw rfl (dT b) rfl) (nt (jt (sr (An rfl (rt (tR (rs ?_)))))))))))))
 have P:=t.pk []
 obtain rfl:_=21:=hr.symm.trans (et (ip d) (et (ae j) (et (ip l) (et (ip b) (et (ae m) (iN f))))))
 exact⟨rfl,P⟩
 refine Sz (dF b) (Sz (dF b) (Sz (dF b) (Sz (dF b) (Sz (dF b) (yK rfl rfl rfl (yK rfl rfl rfl (yK rfl rfl rfl (yK rfl rfl rfl (yK rfl rfl rfl (Sz (dF b) (fw (.bool false) (xW rfl (dF b) rfl) (nt (jf (sk (sr (An rfl (rt (rs ?_))))))))))))))))))
 have Q:=s.pk []
 obtain rfl:_=0:=hr.symm.trans (et (ip d) (et (ae j) (et (ip l) (iN b))))
 exact⟨rfl,Q⟩
 refine jT (dT l) (sr (An rfl (rt (tR (rs ?_)))))
 have R:=s.pk []
 obtain rfl:_=21:=hr.symm.trans (et (ip d) (et (ae j) (iN l)))
 exact⟨rfl,R⟩
 refine Sz (dF d) (Sz (dF d) (Sz (dF d) (Sz (dF d) (fw (.bool false) (xW rfl (dF d) rfl) (nt (jf (sk (xV (sr (Kz (.pointer (some ⟨h,1,none⟩)) (Lz (.string ⟨List.toArray a.aO⟩) k 0 Tryz.isAgg9 (fw (.bool (decide (a.aO≠([])))) (zq rfl rfl) (Mz rfl ?_)))))))))))))
 by_cases c:a.aO≠([])
 refine Gz (.pointer (some ⟨h,1,none⟩)) (dT c) (Gl (.string ⟨List.toArray a.aO⟩) (dT c) k 0 Tryz.isAgg9 ?_)
 obtain⟨r,n⟩:∃ q,dI a.aO=q:=⟨_,rfl⟩
 obtain⟨av,K,af,L,ag⟩:=yc k
 refine nK (dT c) Tryz.call83 (iG _ _ a.aO r K n) ?_
 rintro _ ax ⟨rfl,M,B⟩
 have u:=L _ _ M
 replace B: ¬ (r=0)∨(1≤a.aO.length∧a.aO.length≤12):=B
 refine gw (.bool (decide (¬ (r=0)))) (dT c) (yJ (e:= !(decide (r=0))) yk decide_not.symm) (gw (.bool (decide (¬ (r=0)))) (dT c) (yj rfl) ?_)
 by_cases g:r=0
 refine gw (.pointer (some ⟨h,1,none⟩)) (dF (Ba g)) yk (gw (.string ⟨List.toArray a.aO⟩) (dF (Ba g)) (yl rfl (bH.one Tryz.isAgg9 (yT (u.cls (i:=0) rfl) rfl))) (gw (.pointer (some ⟨h,0,none⟩)) (dF (Ba g)) yk (gw (.string ⟨List.toArray a.aJ⟩) (dF (Ba g)) (yl rfl (bH.one Tryz.isAgg9 (yT (u.cls (i:=0) rfl) rfl))) (gw (.bool (decide (a.aO≤a.aJ))) (dF (Ba g)) (yJ (e:=Op.bytesLess a.aO a.aJ || decide (a.aO=a.aJ)) (zB rfl rfl) (rC _ _)) (gw (.bool (decide (a.aO≤a.aJ))) (dT c) (xW rfl (dF (Ba g)) rfl) (fw (.bool (decide (a.aO≤a.aJ))) (yw rfl (dT c) rfl) (nt ?_)))))))
 by_cases y:a.aO≤a.aJ
 refine jT (dT y) (sr (An rfl (rt (tR (rs ?_)))))
 have S:=u.pk []
 obtain rfl:_=21:=hr.symm.trans (et (iN d) (et (ip c) (et (ae n) (et (ip g) (ip y)))))
 exact⟨rfl,S⟩
 refine jF (dF y) (sk (sr (An rfl (rt (rs ?_)))))
 have T:=u.pk []
 obtain rfl:_=0:=hr.symm.trans (et (iN d) (et (ip c) (et (ae n) (et (ip g) (iN y)))))
 exact⟨rfl,T⟩
 refine Sz (dT g) (Sz (dT g) (Sz (dT g) (Sz (dT g) (Sz (dT g) (gw (.bool true) (dT c) (yw rfl (dT g) rfl) (fw (.bool true) (yw rfl (dT c) rfl) (nt (jt (sr (An rfl (rt (tR (rs ?_)))))))))))))
 have U:=u.pk []
 obtain rfl:_=21:=hr.symm.trans (et (iN d) (et (ip c) (et (ae n) (iN g))))
 exact⟨rfl,U⟩
 refine Sz (dF c) (Sz (dF c) (Sz (dF c) (Sz (dF c) (Sz (dF c) (yK rfl rfl rfl (yK rfl rfl rfl (yK rfl rfl rfl (yK rfl rfl rfl (yK rfl rfl rfl (Sz (dF c) (fw (.bool false) (xW rfl (dF c) rfl) (nt (jf (sk (sr (An rfl (rt (rs ?_))))))))))))))))))
 have V:=k.pk []
 obtain rfl:_=0:=hr.symm.trans (et (iN d) (iN c))
 exact⟨rfl,V⟩
def iF (c:aW):Int:=
 bnd (jw c) fun a=>bnd (eT a) fun b=>b
theorem lQ (w:World) (D:Nat→Prop) (a:aW) (p:Int) (H:Own w D w []) (hr:iF a=p):
    Calls Tryz.prog 133 #[.agg (aW.cells a).toArray] w (dC fun v w'=>v= .int .i64 p∧Own w D w' []):=by
 refine xU (args:= [.agg (aW.cells a).toArray]) Tryz.func133 rfl rfl rfl ?_
 show Wp _ _ _ [(0, .agg (aW.cells a).toArray)] _ _
 refine sr ?_
 refine dG (aW.cells a) 74 H ?_
 intro x y e
 refine Ar rfl (La (aW.cells a) e 0 Tryz.isAgg74 Tryz.sizeOf74 ?_)
 obtain⟨d,b⟩:∃ q,jw a=q:=⟨_,rfl⟩
 obtain⟨z,f,r,g,s⟩:=yc e
 refine cl Tryz.call130 (o5 _ _ a d f b) ?_
 rintro _ A ⟨rfl,h⟩
 have m:=g _ _ h
 obtain⟨i,c⟩:∃ q,eT d=q:=⟨_,rfl⟩
 obtain⟨B,j,t,k,u⟩:=yc m
 refine cl Tryz.call86 (iE _ _ d i j c) ?_
 rintro _ C ⟨rfl,l⟩
 have n:=k _ _ l
 refine An rfl (rt (rs ?_))
 have o:=n.pk []
 obtain rfl:_=i:=hr.symm.trans (et (ae b) (ae c))
 exact⟨rfl,o⟩
def j6 (b:aW):Int:=
 bnd (iF b) fun a=>if a=0 then if b.bD < 1 then 1 else if b.bD > 4 then 1 else 0 else a
theorem o6 (w:World) (D:Nat→Prop) (c:aW) (s:Int) (H:Own w D w []) (hr:j6 c=s):
    Calls Tryz.prog 129 #[.agg (aW.cells c).toArray] w (dC fun v w'=>v= .int .i64 s∧Own w D w' []):=by
 refine xU (args:= [.agg (aW.cells c).toArray]) Tryz.func129 rfl rfl rfl ?_
 show Wp _ _ _ [(0, .agg (aW.cells c).toArray)] _ _
 refine sr ?_
 refine dG (aW.cells c) 74 H ?_
 intro i x j
 refine An rfl (xV (sr (La (aW.cells c) j 0 Tryz.isAgg74 Tryz.sizeOf74 ?_)))
 obtain⟨g,b⟩:∃ q,iF c=q:=⟨_,rfl⟩
 obtain⟨y,k,t,l,u⟩:=yc j
 refine cl Tryz.call133 (lQ _ _ c g k b) ?_
 rintro _ z ⟨rfl,m⟩
 have d:=l _ _ m
 refine Ar rfl (Mz rfl (fw (.bool (decide (¬ (g=0)))) (yJ (e:= !(decide (g=0))) yk decide_not.symm) (nt ?_)))
 by_cases f:g=0
 refine jF (dF (Ba f)) (sk (xV (sr (Kz (.pointer (some ⟨i,5,none⟩)) (Lz (.int .i64 c.bD) d 0 Tryz.isAgg3 (Kz (.bool (decide (c.bD < 1))) (Mz rfl ?_)))))))
 by_cases a:c.bD < 1
 refine Sz (dT a) (Sz (dT a) (Sz (dT a) (fw (.bool true) (yw rfl (dT a) rfl) (nt (jt (sr (An rfl (rt (tR (rs ?_))))))))))
 have n:=d.pk []
 obtain rfl:_=1:=hr.symm.trans (et (ae b) (et (ip f) (ip a)))
 exact⟨rfl,n⟩
 refine Gz (.pointer (some ⟨i,5,none⟩)) (dF a) (Gl (.int .i64 c.bD) (dF a) d 0 Tryz.isAgg3 (Gz (.bool (decide (c.bD > 4))) (dF a) (fw (.bool (decide (c.bD > 4))) (xW rfl (dF a) rfl) (nt ?_))))
 by_cases h:c.bD > 4
 refine jT (dT h) (sr (An rfl (rt (tR (rs ?_)))))
 have o:=d.pk []
 obtain rfl:_=1:=hr.symm.trans (et (ae b) (et (ip f) (et (iN a) (ip h))))
 exact⟨rfl,o⟩
 refine jF (dF h) (sk (sr (An rfl (rt (rs ?_)))))
 have p:=d.pk []
 obtain rfl:_=0:=hr.symm.trans (et (ae b) (et (ip f) (et (iN a) (iN h))))
 exact⟨rfl,p⟩
 refine jT (dT f) (sr (Mz rfl (An rfl (rt (tR (rs ?_))))))
 have r:=d.pk []
 obtain rfl:_=g:=hr.symm.trans (et (ae b) (iN f))
 exact⟨rfl,r⟩
theorem p8 (w:World) (D:Nat→Prop) (j:Int) (H:Own w D w []) (c:j=5):
    Calls Tryz.prog 111 #[.int .i64 j] w (dC fun v w'=>v= .tuple #[.agg #[.bool true, .func (.func 132) #[] #[], .func (.func 133) #[] #[], .func (.func 130) #[] #[], .func (.func 134) #[] #[]], .bool true]∧Own w D w' []):=by
 subst c
 refine xU (args:= [.int .i64 5]) Tryz.func111 rfl rfl rfl ?_
 show Wp _ _ _ [(0, .int .i64 5)] _ _
 refine sr ?_
 refine dG [.bool false, .nilFunc, .nilFunc, .nilFunc, .nilFunc] 166 H ?_
 intro l n d
 refine Ar rfl (Kz (.agg #[.bool false, .func (.func 120) #[] #[], .func (.func 121) #[] #[], .func (.func 122) #[] #[], .func (.func 123) #[] #[]]) (Kz (.agg #[.bool true, .func (.func 124) #[] #[], .func (.func 125) #[] #[], .func (.func 122) #[] #[], .func (.func 126) #[] #[]]) (Kz (.agg #[.bool true, .func (.func 120) #[] #[], .func (.func 121) #[] #[], .func (.func 122) #[] #[], .func (.func 127) #[] #[]]) (Kz (.agg #[.bool false, .func (.func 128) #[] #[], .func (.func 129) #[] #[], .func (.func 130) #[] #[], .func (.func 131) #[] #[]]) (Kz (.agg #[.bool true, .func (.func 132) #[] #[], .func (.func 133) #[] #[], .func (.func 130) #[] #[], .func (.func 134) #[] #[]]) (Kz (.agg #[.bool false, .nilFunc, .nilFunc, .nilFunc, .nilFunc, .bool false, .func (.func 120) #[] #[], .func (.func 121) #[] #[], .func (.func 122) #[] #[], .func (.func 123) #[] #[], .bool true, .func (.func 124) #[] #[], .func (.func 125) #[] #[], .func (.func 122) #[] #[], .func (.func 126) #[] #[], .bool true, .func (.func 120) #[] #[], .func (.func 121) #[] #[], .func (.func 122) #[] #[], .func (.func 127) #[] #[], .bool false, .func (.func 128) #[] #[], .func (.func 129) #[] #[], .func (.func 130) #[] #[], .func (.func 131) #[] #[], .bool true, .func (.func 132) #[] #[], .func (.func 133) #[] #[], .func (.func 130) #[] #[], .func (.func 134) #[] #[]]) ?_))))))
 refine dG [.bool false, .nilFunc, .nilFunc, .nilFunc, .nilFunc, .bool false, .nilFunc, .nilFunc, .nilFunc, .nilFunc, .bool false, .nilFunc, .nilFunc, .nilFunc, .nilFunc, .bool false, .nilFunc, .nilFunc, .nilFunc, .nilFunc, .bool false, .nilFunc, .nilFunc, .nilFunc, .nilFunc, .bool false, .nilFunc, .nilFunc, .nilFunc, .nilFunc] 178 d ?_
 intro e o f
 refine cZ [.bool false, .nilFunc, .nilFunc, .nilFunc, .nilFunc, .bool false, .func (.func 120) #[] #[], .func (.func 121) #[] #[], .func (.func 122) #[] #[], .func (.func 123) #[] #[], .bool true, .func (.func 124) #[] #[], .func (.func 125) #[] #[], .func (.func 122) #[] #[], .func (.func 126) #[] #[], .bool true, .func (.func 120) #[] #[], .func (.func 121) #[] #[], .func (.func 122) #[] #[], .func (.func 127) #[] #[], .bool false, .func (.func 128) #[] #[], .func (.func 129) #[] #[], .func (.func 130) #[] #[], .func (.func 131) #[] #[], .bool true, .func (.func 132) #[] #[], .func (.func 133) #[] #[], .func (.func 130) #[] #[], .func (.func 134) #[] #[]] 0 f Tryz.sizeOf178 ?_
 intro p a
 refine nt (xV (sr (Mz rfl (Kz (.bool false) (Mz rfl (gw (.int .i64 5) rfl (yj rfl) (Gz (.bool false) rfl (fw (.bool false) (xW rfl rfl rfl) (nt (jf (sk (sr (Mz rfl (Kz (.pointer (some ⟨e,25,none⟩)) (La ([.bool true, .func (.func 132) #[] #[], .func (.func 133) #[] #[], .func (.func 130) #[] #[], .func (.func 134) #[] #[]]) a 0 Tryz.isAgg166 Tryz.sizeOf166 ?_)))))))))))))))
 have g:=a.pk [1,0]
 refine cZ [.bool true, .func (.func 132) #[] #[], .func (.func 133) #[] #[], .func (.func 130) #[] #[], .func (.func 134) #[] #[]] 0 g Tryz.sizeOf166 ?_
 intro q b
 refine An rfl (rt (yI (kX (vs:= [.agg #[.bool true, .func (.func 132) #[] #[], .func (.func 133) #[] #[], .func (.func 130) #[] #[], .func (.func 134) #[] #[]], .bool true]) rfl (fF.cell rfl (yD (cs:= [.bool true, .func (.func 132) #[] #[], .func (.func 133) #[] #[], .func (.func 130) #[] #[], .func (.func 134) #[] #[]]) Tryz.isAgg166 Tryz.sizeOf166 ((b.cls (i:=0) rfl).lit (k:=0) (m:=5) rfl)) (fF.tmp rfl fF.nil)) (A7 rfl)) ?_))
 have h:=b.pk []
 exact⟨rfl,h⟩
def ky (a:aW):aW:=
 aW.mk a.aT ([]) ([]) a.aJ a.aO 0
theorem p9 (w:World) (D:Nat→Prop) (a:aW) (g:aW) (H:Own w D w []) (hr:ky a=g):
    Calls Tryz.prog 132 #[.agg (aW.cells a).toArray] w (dC fun v w'=>v= .agg (aW.cells g).toArray∧Own w D w' []):=by
 refine xU (args:= [.agg (aW.cells a).toArray]) Tryz.func132 rfl rfl rfl ?_
 show Wp _ _ _ [(0, .agg (aW.cells a).toArray)] _ _
 refine sr ?_
 refine dG (aW.cells a) 74 H ?_
 intro c h e
 refine dG [.int .i64 0, .string ⟨List.toArray ([])⟩, .string ⟨List.toArray ([])⟩, .string ⟨List.toArray ([])⟩, .string ⟨List.toArray ([])⟩, .int .i64 0] 74 e ?_
 intro j l b
 refine ns (Kz (.pointer (some ⟨c,0,none⟩)) (Lz (.int .i64 a.aT) b 1 Tryz.isAgg3 (Kz (.pointer (some ⟨c,3,none⟩)) (Lz (.string ⟨List.toArray a.aJ⟩) b 1 Tryz.isAgg9 (Kz (.pointer (some ⟨c,4,none⟩)) (Lz (.string ⟨List.toArray a.aO⟩) b 1 Tryz.isAgg9 (Kz (.agg #[.int .i64 a.aT, .string ⟨List.toArray ([])⟩, .string ⟨List.toArray ([])⟩, .string ⟨List.toArray a.aJ⟩, .string ⟨List.toArray a.aO⟩, .int .i64 0]) ?_)))))))
 refine cZ [.int .i64 a.aT, .string ⟨List.toArray ([])⟩, .string ⟨List.toArray ([])⟩, .string ⟨List.toArray a.aJ⟩, .string ⟨List.toArray a.aO⟩, .int .i64 0] 0 b Tryz.sizeOf74 ?_
 intro n d
 refine nt (rt (yI (kL rfl rfl (yD (cs:= [.int .i64 a.aT, .string ⟨List.toArray ([])⟩, .string ⟨List.toArray ([])⟩, .string ⟨List.toArray a.aJ⟩, .string ⟨List.toArray a.aO⟩, .int .i64 0]) Tryz.isAgg74 Tryz.sizeOf74 ((d.cls (i:=0) rfl).lit (k:=0) (m:=6) rfl))) ?_))
 have f:=d.pk []
 obtain rfl:_=aW.mk a.aT ([]) ([]) a.aJ a.aO 0:=hr.symm.trans rfl
 exact⟨rfl,f⟩
theorem o7 (w:World) (D:Nat→Prop) (a:Int) (H:Own w D w []) (p: ¬ (a=1)) (q: ¬ (a=2)) (r: ¬ (a=3)) (s: ¬ (a=4)) (t: ¬ (a=5)):
    Calls Tryz.prog 111 #[.int .i64 a] w (dC fun v w'=>v= .tuple #[.agg #[.bool false, .nilFunc, .nilFunc, .nilFunc, .nilFunc], .bool false]∧Own w D w' []):=by
 refine xU (args:= [.int .i64 a]) Tryz.func111 rfl rfl rfl ?_
 show Wp _ _ _ [(0, .int .i64 a)] _ _
 refine sr ?_
 refine dG [.bool false, .nilFunc, .nilFunc, .nilFunc, .nilFunc] 166 H ?_
 intro u x g
 refine Ar rfl (Kz (.agg #[.bool false, .func (.func 120) #[] #[], .func (.func 121) #[] #[], .func (.func 122) #[] #[], .func (.func 123) #[] #[]]) (Kz (.agg #[.bool true, .func (.func 124) #[] #[], .func (.func 125) #[] #[], .func (.func 122) #[] #[], .func (.func 126) #[] #[]]) (Kz (.agg #[.bool true, .func (.func 120) #[] #[], .func (.func 121) #[] #[], .func (.func 122) #[] #[], .func (.func 127) #[] #[]]) (Kz (.agg #[.bool false, .func (.func 128) #[] #[], .func (.func 129) #[] #[], .func (.func 130) #[] #[], .func (.func 131) #[] #[]]) (Kz (.agg #[.bool true, .func (.func 132) #[] #[], .func (.func 133) #[] #[], .func (.func 130) #[] #[], .func (.func 134) #[] #[]]) (Kz (.agg #[.bool false, .nilFunc, .nilFunc, .nilFunc, .nilFunc, .bool false, .func (.func 120) #[] #[], .func (.func 121) #[] #[], .func (.func 122) #[] #[], .func (.func 123) #[] #[], .bool true, .func (.func 124) #[] #[], .func (.func 125) #[] #[], .func (.func 122) #[] #[], .func (.func 126) #[] #[], .bool true, .func (.func 120) #[] #[], .func (.func 121) #[] #[], .func (.func 122) #[] #[], .func (.func 127) #[] #[], .bool false, .func (.func 128) #[] #[], .func (.func 129) #[] #[], .func (.func 130) #[] #[], .func (.func 131) #[] #[], .bool true, .func (.func 132) #[] #[], .func (.func 133) #[] #[], .func (.func 130) #[] #[], .func (.func 134) #[] #[]]) ?_))))))
 refine dG [.bool false, .nilFunc, .nilFunc, .nilFunc, .nilFunc, .bool false, .nilFunc, .nilFunc, .nilFunc, .nilFunc, .bool false, .nilFunc, .nilFunc, .nilFunc, .nilFunc, .bool false, .nilFunc, .nilFunc, .nilFunc, .nilFunc, .bool false, .nilFunc, .nilFunc, .nilFunc, .nilFunc, .bool false, .nilFunc, .nilFunc, .nilFunc, .nilFunc] 178 g ?_
 intro y z h
 refine cZ [.bool false, .nilFunc, .nilFunc, .nilFunc, .nilFunc, .bool false, .func (.func 120) #[] #[], .func (.func 121) #[] #[], .func (.func 122) #[] #[], .func (.func 123) #[] #[], .bool true, .func (.func 124) #[] #[], .func (.func 125) #[] #[], .func (.func 122) #[] #[], .func (.func 126) #[] #[], .bool true, .func (.func 120) #[] #[], .func (.func 121) #[] #[], .func (.func 122) #[] #[], .func (.func 127) #[] #[], .bool false, .func (.func 128) #[] #[], .func (.func 129) #[] #[], .func (.func 130) #[] #[], .func (.func 131) #[] #[], .bool true, .func (.func 132) #[] #[], .func (.func 133) #[] #[], .func (.func 130) #[] #[], .func (.func 134) #[] #[]] 0 h Tryz.sizeOf178 ?_
 intro A c
 refine nt (xV (sr (Mz rfl (Kz (.bool (decide (a≤0))) (Mz rfl ?_)))))
 by_cases b:a≤0
 refine Sz (dT b) (Sz (dT b) (fw (.bool true) (yw rfl (dT b) rfl) (nt (jt (sr (Kz (.agg #[.bool false, .nilFunc, .nilFunc, .nilFunc, .nilFunc]) ?_))))))
 have j:=c.pk [1,0]
 refine cZ [.bool false, .nilFunc, .nilFunc, .nilFunc, .nilFunc] 0 j Tryz.sizeOf166 ?_
 intro B d
 refine An rfl (rt (tR (yI (kX (vs:= [.agg #[.bool false, .nilFunc, .nilFunc, .nilFunc, .nilFunc], .bool false]) rfl (fF.cell rfl (yD (cs:= [.bool false, .nilFunc, .nilFunc, .nilFunc, .nilFunc]) Tryz.isAgg166 Tryz.sizeOf166 ((d.cls (i:=0) rfl).lit (k:=0) (m:=5) rfl)) (fF.tmp rfl fF.nil)) (A7 rfl)) ?_)))
 have l:=d.pk []
 exact⟨rfl,l⟩
 refine gw (.int .i64 a) (dF b) (yj rfl) (Gz (.bool (decide (a ≥ 6))) (dF b) (fw (.bool (decide (a ≥ 6))) (xW rfl (dF b) rfl) (nt ?_)))
 have e:(decide (a ≥ 6))=true:=(dT (by omega))
 refine jT e (sr (Kz (.agg #[.bool false, .nilFunc, .nilFunc, .nilFunc, .nilFunc]) ?_))
 have n:=c.pk [1,0]
 refine cZ [.bool false, .nilFunc, .nilFunc, .nilFunc, .nilFunc] 0 n Tryz.sizeOf166 ?_
 intro C f
 refine An rfl (rt (tR (yI (kX (vs:= [.agg #[.bool false, .nilFunc, .nilFunc, .nilFunc, .nilFunc], .bool false]) rfl (fF.cell rfl (yD (cs:= [.bool false, .nilFunc, .nilFunc, .nilFunc, .nilFunc]) Tryz.isAgg166 Tryz.sizeOf166 ((f.cls (i:=0) rfl).lit (k:=0) (m:=5) rfl)) (fF.tmp rfl fF.nil)) (A7 rfl)) ?_)))
 have o:=f.pk []
 exact⟨rfl,o⟩
def iU (a:aW):Int:=
 if a.aT=1 then bnd (j4 a) fun e=>if(e.aT=a.aT)∧(e.aY=a.aY)∧(e.aB=a.aB)∧(e.aJ=a.aJ)∧(e.aO=a.aO)∧(e.bD=a.bD) then bnd (kw a) fun j=>j else 40 else if a.aT=2 then bnd (kP a) fun f=>if(f.aT=a.aT)∧(f.aY=a.aY)∧(f.aB=a.aB)∧(f.aJ=a.aJ)∧(f.aO=a.aO)∧(f.bD=a.bD) then bnd (j5 a) fun k=>k else 40 else if a.aT=3 then bnd (j4 a) fun b=>if(b.aT=a.aT)∧(b.aY=a.aY)∧(b.aB=a.aB)∧(b.aJ=a.aJ)∧(b.aO=a.aO)∧(b.bD=a.bD) then bnd (kw a) fun g=>g else 40 else if a.aT=4 then bnd (kQ a) fun c=>if(c.aT=a.aT)∧(c.aY=a.aY)∧(c.aB=a.aB)∧(c.aJ=a.aJ)∧(c.aO=a.aO)∧(c.bD=a.bD) then bnd (j6 a) fun h=>h else 40 else if a.aT=5 then bnd (ky a) fun d=>if(d.aT=a.aT)∧(d.aY=a.aY)∧(d.aB=a.aB)∧(d.aJ=a.aJ)∧(d.aO=a.aO)∧(d.bD=a.bD) then bnd (iF a) fun i=>i else 40 else 40
theorem nu (w:World) (D:Nat→Prop) (a:aW) (r0:Int) (H:Own w D w []) (hr:iU a=r0):
    Calls Tryz.prog 84 #[.agg (aW.cells a).toArray] w (dC fun v w'=>v= .int .i64 r0∧Own w D w' []∧(¬ (r0=0)∨(1≤a.aT∧a.aT≤5))):=by
 refine xU (args:= [.agg (aW.cells a).toArray]) Tryz.func84 rfl rfl rfl ?_
 show Wp _ _ _ [(0, .agg (aW.cells a).toArray)] _ _
 refine sr ?_
 refine dG (aW.cells a) 74 H ?_
 intro t gP x
 refine Ar rfl (Kz (.pointer (some ⟨t,0,none⟩)) (Lz (.int .i64 a.aT) x 0 Tryz.isAgg3 ?_))
 by_cases l:a.aT=1
 obtain⟨gQ,bi,eZ,bn,fe⟩:=yc x
 refine cl Tryz.call111 (pV _ _ a.aT bi (of_decide_eq_true (dT l))) ?_
 rintro _ gT ⟨rfl,bq⟩
 have dJ:=bn _ _ bq
 refine Mz rfl (Kz (.agg #[.bool false, .func (.func 120) #[] #[], .func (.func 121) #[] #[], .func (.func 122) #[] #[], .func (.func 123) #[] #[]]) (Kz (.bool true) ?_))
 refine dG [.bool false, .nilFunc, .nilFunc, .nilFunc, .nilFunc] 166 dJ ?_
 intro aj gU dK
 refine cZ [.bool false, .func (.func 120) #[] #[], .func (.func 121) #[] #[], .func (.func 122) #[] #[], .func (.func 123) #[] #[]] 0 dK Tryz.sizeOf166 ?_
 intro dL dM
 refine An rfl (xV (xV ?_))
 have V:=dM.drew
 refine yY [] (fun W=> ∃ L',Own w D W ([blk aj [.bool false, .func (.func 120) #[] #[], .func (.func 121) #[] #[], .func (.func 122) #[] #[], .func (.func 123) #[] #[]] 166,blk t (aW.cells a) 74]++L')) (by kernel_rfl) (by kernel_rfl) (yL (yL yZ)) ⟨_,V⟩ ?_
 revert V
 generalize World.drew dL=gV
 intro V
 refine GX.take (v:= .bool true) (rs:= []) 0 rfl (by kernel_rfl) (fun _ _=>yj rfl) (GX.take (v:= .bool false) (rs:= []) 1 rfl (by kernel_rfl) (fun _ _=>yk) (GX.take (v:= .bool false) (rs:= []) 2 rfl (by kernel_rfl) (fun _ _=>yj rfl) (yf (v:= .pointer (some ⟨aj,1,none⟩)) (rs:= []) 3 rfl rfl rfl rfl (by kernel_rfl) (fun _ _=>yk) (yf (v:= .func (.func 120) #[] #[]) (rs:= []) 4 rfl rfl rfl rfl (by kernel_rfl) (fun _ ⟨_,h⟩=>yl rfl (bH.one Tryz.isAgg162 (yT (h.cls (i:=0) rfl) rfl))) (yf (v:= .agg (aW.cells a).toArray) (rs:= []) 5 rfl rfl rfl rfl (by kernel_rfl) (fun _ ⟨_,h⟩=>yl rfl (yD (cs:=(aW.cells a)) Tryz.isAgg74 Tryz.sizeOf74 ((h.cls (i:=1) rfl).lit (k:=0) (m:=6) rfl))) (yf (v:= .agg (aW.cells a).toArray) (rs:= []) 7 rfl rfl rfl rfl (by kernel_rfl) (fun _ ⟨_,h⟩=>yl rfl (yD (cs:=(aW.cells a)) Tryz.isAgg74 Tryz.sizeOf74 ((h.cls (i:=1) rfl).lit (k:=0) (m:=6) rfl))) ?_))))))
 obtain⟨f,L⟩:∃ q,j4 a=q:=⟨_,rfl⟩
 obtain⟨gW,bu,fo,bv,fq⟩:=yc V
 refine zi 6 rfl rfl rfl rfl (by kernel_rfl) (yB Tryz.call120 rfl rfl (nN _ _ a f bu L) ?_)
 rintro _ gX ⟨rfl,bz⟩
 have M:=bv _ _ bz
 refine⟨.inr ⟨_,M⟩, ?_⟩
 refine yf (v:= .bool (decide (¬ ((f.aT=a.aT)∧(f.aY=a.aY)∧(f.aB=a.aB)∧(f.aJ=a.aJ)∧(f.aO=a.aO)∧(f.bD=a.bD))))) (rs:= []) 8 rfl rfl rfl rfl (by kernel_rfl) (fun _ _=>yJ (e:= !(decide ((f.aT=a.aT)∧(f.aY=a.aY)∧(f.aB=a.aB)∧(f.aJ=a.aJ)∧(f.aO=a.aO)∧(f.bD=a.bD)))) (zf rfl rfl (by kernel_rfl) rfl (fQ.struct Tryz.underlying74 (by kernel_rfl) (zg (fu.cons (u:= .int .i64 f.aT) (v:= .int .i64 a.aT) (by decide) (fun _=>by kernel_rfl) (fun _=>by kernel_rfl) (fQ.int Tryz.underlying3) (fu.cons (u:= .string ⟨List.toArray f.aY⟩) (v:= .string ⟨List.toArray a.aY⟩) (by decide) (fun _=>by kernel_rfl) (fun _=>by kernel_rfl) (fQ.string Tryz.underlying9) (fu.cons (u:= .string ⟨List.toArray f.aB⟩) (v:= .string ⟨List.toArray a.aB⟩) (by decide) (fun _=>by kernel_rfl) (fun _=>by kernel_rfl) (fQ.string Tryz.underlying9) (fu.cons (u:= .string ⟨List.toArray f.aJ⟩) (v:= .string ⟨List.toArray a.aJ⟩) (by decide) (fun _=>by kernel_rfl) (fun _=>by kernel_rfl) (fQ.string Tryz.underlying9) (fu.cons (u:= .string ⟨List.toArray f.aO⟩) (v:= .string ⟨List.toArray a.aO⟩) (by decide) (fun _=>by kernel_rfl) (fun _=>by kernel_rfl) (fQ.string Tryz.underlying9) (fu.cons (u:= .int .i64 f.bD) (v:= .int .i64 a.bD) (by decide) (fun _=>by kernel_rfl) (fun _=>by kernel_rfl) (fQ.int Tryz.underlying3) (fu.nil.up (A9 _)))))))) ((congrArg (decide (f.aT=a.aT) && ·) ((congrArg (decide (f.aY=a.aY) && ·) ((congrArg (decide (f.aB=a.aB) && ·) ((congrArg (decide (f.aJ=a.aJ) && ·) ((congrArg (decide (f.aO=a.aO) && ·) jS).trans eY)).trans eY)).trans eY)).trans eY)).trans eY)))) decide_not.symm) (GX.take (v:= .bool (decide (¬ ((f.aT=a.aT)∧(f.aY=a.aY)∧(f.aB=a.aB)∧(f.aJ=a.aJ)∧(f.aO=a.aO)∧(f.bD=a.bD))))) (rs:= []) 9 rfl (by kernel_rfl) (fun _ _=>xW rfl rfl rfl) (yX (by kernel_rfl) (yg ?_)))
 by_cases X:(f.aT=a.aT)∧(f.aY=a.aY)∧(f.aB=a.aB)∧(f.aJ=a.aJ)∧(f.aO=a.aO)∧(f.bD=a.bD)
 refine jF (dF (Ba X)) (sk (sr (Kz (.pointer (some ⟨aj,2,none⟩)) (Lz (.func (.func 121) #[] #[]) M 0 Tryz.isAgg136 (La (aW.cells a) M 1 Tryz.isAgg74 Tryz.sizeOf74 ?_)))))
 obtain⟨bA,aa⟩:∃ q,kw a=q:=⟨_,rfl⟩
 obtain⟨gY,bB,fw,bC,fA⟩:=yc M
 refine WL.do rfl (yB Tryz.call121 rfl rfl (mJ _ _ a bA bB aa) ?_)
 rintro _ gZ ⟨rfl,bD⟩
 have dN:=bC _ _ bD
 refine An rfl (rt (rs ?_))
 have dO:=dN.pk []
 obtain rfl:_=bA:=hr.symm.trans (et (ip l) (et (ae L) (et (ip X) (ae aa))))
 exact⟨rfl,dO,(by omega)⟩
 refine jT (dT X) (sr (An rfl (rt (tR (rs ?_)))))
 have dP:=M.pk []
 obtain rfl:_=40:=hr.symm.trans (et (ip l) (et (ae L) (iN X)))
 exact⟨rfl,dP,(by omega)⟩
 by_cases n:a.aT=2
 obtain⟨ib,bE,fB,bF,fC⟩:=yc x
 refine cl Tryz.call111 (pW _ _ a.aT bE (of_decide_eq_true (dT n))) ?_
 rintro _ ic ⟨rfl,bG⟩
 have dQ:=bF _ _ bG
 refine Mz rfl (Kz (.agg #[.bool true, .func (.func 124) #[] #[], .func (.func 125) #[] #[], .func (.func 122) #[] #[], .func (.func 126) #[] #[]]) (Kz (.bool true) ?_))
 refine dG [.bool false, .nilFunc, .nilFunc, .nilFunc, .nilFunc] 166 dQ ?_
 intro ak ig dR
 refine cZ [.bool true, .func (.func 124) #[] #[], .func (.func 125) #[] #[], .func (.func 122) #[] #[], .func (.func 126) #[] #[]] 0 dR Tryz.sizeOf166 ?_
 intro dS dU
 refine An rfl (xV (xV ?_))
 have Y:=dU.drew
 refine yY [] (fun W=> ∃ L',Own w D W ([blk ak [.bool true, .func (.func 124) #[] #[], .func (.func 125) #[] #[], .func (.func 122) #[] #[], .func (.func 126) #[] #[]] 166,blk t (aW.cells a) 74]++L')) (by kernel_rfl) (by kernel_rfl) (yL (yL yZ)) ⟨_,Y⟩ ?_
 revert Y
 generalize World.drew dS=ik
 intro Y
 refine GX.take (v:= .bool true) (rs:= []) 0 rfl (by kernel_rfl) (fun _ _=>yj rfl) (GX.take (v:= .bool false) (rs:= []) 1 rfl (by kernel_rfl) (fun _ _=>yk) (GX.take (v:= .bool false) (rs:= []) 2 rfl (by kernel_rfl) (fun _ _=>yj rfl) (yf (v:= .pointer (some ⟨ak,1,none⟩)) (rs:= []) 3 rfl rfl rfl rfl (by kernel_rfl) (fun _ _=>yk) (yf (v:= .func (.func 124) #[] #[]) (rs:= []) 4 rfl rfl rfl rfl (by kernel_rfl) (fun _ ⟨_,h⟩=>yl rfl (bH.one Tryz.isAgg162 (yT (h.cls (i:=0) rfl) rfl))) (yf (v:= .agg (aW.cells a).toArray) (rs:= []) 5 rfl rfl rfl rfl (by kernel_rfl) (fun _ ⟨_,h⟩=>yl rfl (yD (cs:=(aW.cells a)) Tryz.isAgg74 Tryz.sizeOf74 ((h.cls (i:=1) rfl).lit (k:=0) (m:=6) rfl))) (yf (v:= .agg (aW.cells a).toArray) (rs:= []) 7 rfl rfl rfl rfl (by kernel_rfl) (fun _ ⟨_,h⟩=>yl rfl (yD (cs:=(aW.cells a)) Tryz.isAgg74 Tryz.sizeOf74 ((h.cls (i:=1) rfl).lit (k:=0) (m:=6) rfl))) ?_))))))
 obtain⟨g,N⟩:∃ q,kP a=q:=⟨_,rfl⟩
 obtain⟨il,bI,fD,bJ,fE⟩:=yc Y
 refine zi 6 rfl rfl rfl rfl (by kernel_rfl) (yB Tryz.call124 rfl rfl (ql _ _ a g bI N) ?_)
 rintro _ iq ⟨rfl,bK⟩
 have O:=bJ _ _ bK
 refine⟨.inr ⟨_,O⟩, ?_⟩
 refine yf (v:= .bool (decide (¬ ((g.aT=a.aT)∧(g.aY=a.aY)∧(g.aB=a.aB)∧(g.aJ=a.aJ)∧(g.aO=a.aO)∧(g.bD=a.bD))))) (rs:= []) 8 rfl rfl rfl rfl (by kernel_rfl) (fun _ _=>yJ (e:= !(decide ((g.aT=a.aT)∧(g.aY=a.aY)∧(g.aB=a.aB)∧(g.aJ=a.aJ)∧(g.aO=a.aO)∧(g.bD=a.bD)))) (zf rfl rfl (by kernel_rfl) rfl (fQ.struct Tryz.underlying74 (by kernel_rfl) (zg (fu.cons (u:= .int .i64 g.aT) (v:= .int .i64 a.aT) (by decide) (fun _=>by kernel_rfl) (fun _=>by kernel_rfl) (fQ.int Tryz.underlying3) (fu.cons (u:= .string ⟨List.toArray g.aY⟩) (v:= .string ⟨List.toArray a.aY⟩) (by decide) (fun _=>by kernel_rfl) (fun _=>by kernel_rfl) (fQ.string Tryz.underlying9) (fu.cons (u:= .string ⟨List.toArray g.aB⟩) (v:= .string ⟨List.toArray a.aB⟩) (by decide) (fun _=>by kernel_rfl) (fun _=>by kernel_rfl) (fQ.string Tryz.underlying9) (fu.cons (u:= .string ⟨List.toArray g.aJ⟩) (v:= .string ⟨List.toArray a.aJ⟩) (by decide) (fun _=>by kernel_rfl) (fun _=>by kernel_rfl) (fQ.string Tryz.underlying9) (fu.cons (u:= .string ⟨List.toArray g.aO⟩) (v:= .string ⟨List.toArray a.aO⟩) (by decide) (fun _=>by kernel_rfl) (fun _=>by kernel_rfl) (fQ.string Tryz.underlying9) (fu.cons (u:= .int .i64 g.bD) (v:= .int .i64 a.bD) (by decide) (fun _=>by kernel_rfl) (fun _=>by kernel_rfl) (fQ.int Tryz.underlying3) (fu.nil.up (A9 _)))))))) ((congrArg (decide (g.aT=a.aT) && ·) ((congrArg (decide (g.aY=a.aY) && ·) ((congrArg (decide (g.aB=a.aB) && ·) ((congrArg (decide (g.aJ=a.aJ) && ·) ((congrArg (decide (g.aO=a.aO) && ·) jS).trans eY)).trans eY)).trans eY)).trans eY)).trans eY)))) decide_not.symm) (GX.take (v:= .bool (decide (¬ ((g.aT=a.aT)∧(g.aY=a.aY)∧(g.aB=a.aB)∧(g.aJ=a.aJ)∧(g.aO=a.aO)∧(g.bD=a.bD))))) (rs:= []) 9 rfl (by kernel_rfl) (fun _ _=>xW rfl rfl rfl) (yX (by kernel_rfl) (yg ?_)))
 by_cases Z:(g.aT=a.aT)∧(g.aY=a.aY)∧(g.aB=a.aB)∧(g.aJ=a.aJ)∧(g.aO=a.aO)∧(g.bD=a.bD)
 refine jF (dF (Ba Z)) (sk (sr (Kz (.pointer (some ⟨ak,2,none⟩)) (Lz (.func (.func 125) #[] #[]) O 0 Tryz.isAgg136 (La (aW.cells a) O 1 Tryz.isAgg74 Tryz.sizeOf74 ?_)))))
 obtain⟨bL,af⟩:∃ q,j5 a=q:=⟨_,rfl⟩
 obtain⟨iw,bM,fF,bN,fG⟩:=yc O
 refine WL.do rfl (yB Tryz.call125 rfl rfl (oZ _ _ a bL bM af) ?_)
 rintro _ iy ⟨rfl,au⟩
 have bO:=bN _ _ au
 refine An rfl (rt (rs ?_))
 have bP:=bO.pk []
 obtain rfl:_=bL:=hr.symm.trans (et (iN l) (et (ip n) (et (ae N) (et (ip Z) (ae af)))))
 exact⟨rfl,bP,(by omega)⟩
 refine jT (dT Z) (sr (An rfl (rt (tR (rs ?_)))))
 have bQ:=O.pk []
 obtain rfl:_=40:=hr.symm.trans (et (iN l) (et (ip n) (et (ae N) (iN Z))))
 exact⟨rfl,bQ,(by omega)⟩
 by_cases j:a.aT=3
 obtain⟨fH,av,dV,ax,dW⟩:=yc x
 refine cl Tryz.call111 (pX _ _ a.aT av (of_decide_eq_true (dT j))) ?_
 rintro _ fI ⟨rfl,ay⟩
 have bR:=ax _ _ ay
 refine Mz rfl (Kz (.agg #[.bool true, .func (.func 120) #[] #[], .func (.func 121) #[] #[], .func (.func 122) #[] #[], .func (.func 127) #[] #[]]) (Kz (.bool true) ?_))
 refine dG [.bool false, .nilFunc, .nilFunc, .nilFunc, .nilFunc] 166 bR ?_
 intro P fJ bS
 refine cZ [.bool true, .func (.func 120) #[] #[], .func (.func 121) #[] #[], .func (.func 122) #[] #[], .func (.func 127) #[] #[]] 0 bS Tryz.sizeOf166 ?_
 intro bT bU
 refine An rfl (xV (xV ?_))
 have B:=bU.drew
 refine yY [] (fun W=> ∃ L',Own w D W ([blk P [.bool true, .func (.func 120) #[] #[], .func (.func 121) #[] #[], .func (.func 122) #[] #[], .func (.func 127) #[] #[]] 166,blk t (aW.cells a) 74]++L')) (by kernel_rfl) (by kernel_rfl) (yL (yL yZ)) ⟨_,B⟩ ?_
 revert B
 generalize World.drew bT=fK
 intro B
 refine GX.take (v:= .bool true) (rs:= []) 0 rfl (by kernel_rfl) (fun _ _=>yj rfl) (GX.take (v:= .bool false) (rs:= []) 1 rfl (by kernel_rfl) (fun _ _=>yk) (GX.take (v:= .bool false) (rs:= []) 2 rfl (by kernel_rfl) (fun _ _=>yj rfl) (yf (v:= .pointer (some ⟨P,1,none⟩)) (rs:= []) 3 rfl rfl rfl rfl (by kernel_rfl) (fun _ _=>yk) (yf (v:= .func (.func 120) #[] #[]) (rs:= []) 4 rfl rfl rfl rfl (by kernel_rfl) (fun _ ⟨_,h⟩=>yl rfl (bH.one Tryz.isAgg162 (yT (h.cls (i:=0) rfl) rfl))) (yf (v:= .agg (aW.cells a).toArray) (rs:= []) 5 rfl rfl rfl rfl (by kernel_rfl) (fun _ ⟨_,h⟩=>yl rfl (yD (cs:=(aW.cells a)) Tryz.isAgg74 Tryz.sizeOf74 ((h.cls (i:=1) rfl).lit (k:=0) (m:=6) rfl))) (yf (v:= .agg (aW.cells a).toArray) (rs:= []) 7 rfl rfl rfl rfl (by kernel_rfl) (fun _ ⟨_,h⟩=>yl rfl (yD (cs:=(aW.cells a)) Tryz.isAgg74 Tryz.sizeOf74 ((h.cls (i:=1) rfl).lit (k:=0) (m:=6) rfl))) ?_))))))
 obtain⟨b,y⟩:∃ q,j4 a=q:=⟨_,rfl⟩
 obtain⟨fM,az,dX,aA,dY⟩:=yc B
 refine zi 6 rfl rfl rfl rfl (by kernel_rfl) (yB Tryz.call120 rfl rfl (nN _ _ a b az y) ?_)
 rintro _ fO ⟨rfl,aB⟩
 have p:=aA _ _ aB
 refine⟨.inr ⟨_,p⟩, ?_⟩
 refine yf (v:= .bool (decide (¬ ((b.aT=a.aT)∧(b.aY=a.aY)∧(b.aB=a.aB)∧(b.aJ=a.aJ)∧(b.aO=a.aO)∧(b.bD=a.bD))))) (rs:= []) 8 rfl rfl rfl rfl (by kernel_rfl) (fun _ _=>yJ (e:= !(decide ((b.aT=a.aT)∧(b.aY=a.aY)∧(b.aB=a.aB)∧(b.aJ=a.aJ)∧(b.aO=a.aO)∧(b.bD=a.bD)))) (zf rfl rfl (by kernel_rfl) rfl (fQ.struct Tryz.underlying74 (by kernel_rfl) (zg (fu.cons (u:= .int .i64 b.aT) (v:= .int .i64 a.aT) (by decide) (fun _=>by kernel_rfl) (fun _=>by kernel_rfl) (fQ.int Tryz.underlying3) (fu.cons (u:= .string ⟨List.toArray b.aY⟩) (v:= .string ⟨List.toArray a.aY⟩) (by decide) (fun _=>by kernel_rfl) (fun _=>by kernel_rfl) (fQ.string Tryz.underlying9) (fu.cons (u:= .string ⟨List.toArray b.aB⟩) (v:= .string ⟨List.toArray a.aB⟩) (by decide) (fun _=>by kernel_rfl) (fun _=>by kernel_rfl) (fQ.string Tryz.underlying9) (fu.cons (u:= .string ⟨List.toArray b.aJ⟩) (v:= .string ⟨List.toArray a.aJ⟩) (by decide) (fun _=>by kernel_rfl) (fun _=>by kernel_rfl) (fQ.string Tryz.underlying9) (fu.cons (u:= .string ⟨List.toArray b.aO⟩) (v:= .string ⟨List.toArray a.aO⟩) (by decide) (fun _=>by kernel_rfl) (fun _=>by kernel_rfl) (fQ.string Tryz.underlying9) (fu.cons (u:= .int .i64 b.bD) (v:= .int .i64 a.bD) (by decide) (fun _=>by kernel_rfl) (fun _=>by kernel_rfl) (fQ.int Tryz.underlying3) (fu.nil.up (A9 _)))))))) ((congrArg (decide (b.aT=a.aT) && ·) ((congrArg (decide (b.aY=a.aY) && ·) ((congrArg (decide (b.aB=a.aB) && ·) ((congrArg (decide (b.aJ=a.aJ) && ·) ((congrArg (decide (b.aO=a.aO) && ·) jS).trans eY)).trans eY)).trans eY)).trans eY)).trans eY)))) decide_not.symm) (GX.take (v:= .bool (decide (¬ ((b.aT=a.aT)∧(b.aY=a.aY)∧(b.aB=a.aB)∧(b.aJ=a.aJ)∧(b.aO=a.aO)∧(b.bD=a.bD))))) (rs:= []) 9 rfl (by kernel_rfl) (fun _ _=>xW rfl rfl rfl) (yX (by kernel_rfl) (yg ?_)))
 by_cases C:(b.aT=a.aT)∧(b.aY=a.aY)∧(b.aB=a.aB)∧(b.aJ=a.aJ)∧(b.aO=a.aO)∧(b.bD=a.bD)
 refine jF (dF (Ba C)) (sk (sr (Kz (.pointer (some ⟨P,2,none⟩)) (Lz (.func (.func 121) #[] #[]) p 0 Tryz.isAgg136 (La (aW.cells a) p 1 Tryz.isAgg74 Tryz.sizeOf74 ?_)))))
 obtain⟨ag,Q⟩:∃ q,kw a=q:=⟨_,rfl⟩
 obtain⟨fP,aC,dZ,aD,d9⟩:=yc p
 refine WL.do rfl (yB Tryz.call121 rfl rfl (mJ _ _ a ag aC Q) ?_)
 rintro _ fT ⟨rfl,aF⟩
 have bV:=aD _ _ aF
 refine An rfl (rt (rs ?_))
 have bW:=bV.pk []
 obtain rfl:_=ag:=hr.symm.trans (et (iN l) (et (iN n) (et (ip j) (et (ae y) (et (ip C) (ae Q))))))
 exact⟨rfl,bW,(by omega)⟩
 refine jT (dT C) (sr (An rfl (rt (tR (rs ?_)))))
 have bX:=p.pk []
 obtain rfl:_=40:=hr.symm.trans (et (iN l) (et (iN n) (et (ip j) (et (ae y) (iN C)))))
 exact⟨rfl,bX,(by omega)⟩
 by_cases o:a.aT=4
 obtain⟨fU,aG,ed,aH,ek⟩:=yc x
 refine cl Tryz.call111 (pY _ _ a.aT aG (of_decide_eq_true (dT o))) ?_
 rintro _ fV ⟨rfl,aI⟩
 have bY:=aH _ _ aI
 refine Mz rfl (Kz (.agg #[.bool false, .func (.func 128) #[] #[], .func (.func 129) #[] #[], .func (.func 130) #[] #[], .func (.func 131) #[] #[]]) (Kz (.bool true) ?_))
 refine dG [.bool false, .nilFunc, .nilFunc, .nilFunc, .nilFunc] 166 bY ?_
 intro R fZ bZ
 refine cZ [.bool false, .func (.func 128) #[] #[], .func (.func 129) #[] #[], .func (.func 130) #[] #[], .func (.func 131) #[] #[]] 0 bZ Tryz.sizeOf166 ?_
 intro cu cz
 refine An rfl (xV (xV ?_))
 have E:=cz.drew
 refine yY [] (fun W=> ∃ L',Own w D W ([blk R [.bool false, .func (.func 128) #[] #[], .func (.func 129) #[] #[], .func (.func 130) #[] #[], .func (.func 131) #[] #[]] 166,blk t (aW.cells a) 74]++L')) (by kernel_rfl) (by kernel_rfl) (yL (yL yZ)) ⟨_,E⟩ ?_
 revert E
 generalize World.drew cu=gm
 intro E
 refine GX.take (v:= .bool true) (rs:= []) 0 rfl (by kernel_rfl) (fun _ _=>yj rfl) (GX.take (v:= .bool false) (rs:= []) 1 rfl (by kernel_rfl) (fun _ _=>yk) (GX.take (v:= .bool false) (rs:= []) 2 rfl (by kernel_rfl) (fun _ _=>yj rfl) (yf (v:= .pointer (some ⟨R,1,none⟩)) (rs:= []) 3 rfl rfl rfl rfl (by kernel_rfl) (fun _ _=>yk) (yf (v:= .func (.func 128) #[] #[]) (rs:= []) 4 rfl rfl rfl rfl (by kernel_rfl) (fun _ ⟨_,h⟩=>yl rfl (bH.one Tryz.isAgg162 (yT (h.cls (i:=0) rfl) rfl))) (yf (v:= .agg (aW.cells a).toArray) (rs:= []) 5 rfl rfl rfl rfl (by kernel_rfl) (fun _ ⟨_,h⟩=>yl rfl (yD (cs:=(aW.cells a)) Tryz.isAgg74 Tryz.sizeOf74 ((h.cls (i:=1) rfl).lit (k:=0) (m:=6) rfl))) (yf (v:= .agg (aW.cells a).toArray) (rs:= []) 7 rfl rfl rfl rfl (by kernel_rfl) (fun _ ⟨_,h⟩=>yl rfl (yD (cs:=(aW.cells a)) Tryz.isAgg74 Tryz.sizeOf74 ((h.cls (i:=1) rfl).lit (k:=0) (m:=6) rfl))) ?_))))))
 obtain⟨c,z⟩:∃ q,kQ a=q:=⟨_,rfl⟩
 obtain⟨gp,aJ,eu,aK,eB⟩:=yc E
 refine zi 6 rfl rfl rfl rfl (by kernel_rfl) (yB Tryz.call128 rfl rfl (qm _ _ a c aJ z) ?_)
 rintro _ gq ⟨rfl,aL⟩
 have r:=aK _ _ aL
 refine⟨.inr ⟨_,r⟩, ?_⟩
 refine yf (v:= .bool (decide (¬ ((c.aT=a.aT)∧(c.aY=a.aY)∧(c.aB=a.aB)∧(c.aJ=a.aJ)∧(c.aO=a.aO)∧(c.bD=a.bD))))) (rs:= []) 8 rfl rfl rfl rfl (by kernel_rfl) (fun _ _=>yJ (e:= !(decide ((c.aT=a.aT)∧(c.aY=a.aY)∧(c.aB=a.aB)∧(c.aJ=a.aJ)∧(c.aO=a.aO)∧(c.bD=a.bD)))) (zf rfl rfl (by kernel_rfl) rfl (fQ.struct Tryz.underlying74 (by kernel_rfl) (zg (fu.cons (u:= .int .i64 c.aT) (v:= .int .i64 a.aT) (by decide) (fun _=>by kernel_rfl) (fun _=>by kernel_rfl) (fQ.int Tryz.underlying3) (fu.cons (u:= .string ⟨List.toArray c.aY⟩) (v:= .string ⟨List.toArray a.aY⟩) (by decide) (fun _=>by kernel_rfl) (fun _=>by kernel_rfl) (fQ.string Tryz.underlying9) (fu.cons (u:= .string ⟨List.toArray c.aB⟩) (v:= .string ⟨List.toArray a.aB⟩) (by decide) (fun _=>by kernel_rfl) (fun _=>by kernel_rfl) (fQ.string Tryz.underlying9) (fu.cons (u:= .string ⟨List.toArray c.aJ⟩) (v:= .string ⟨List.toArray a.aJ⟩) (by decide) (fun _=>by kernel_rfl) (fun _=>by kernel_rfl) (fQ.string Tryz.underlying9) (fu.cons (u:= .string ⟨List.toArray c.aO⟩) (v:= .string ⟨List.toArray a.aO⟩) (by decide) (fun _=>by kernel_rfl) (fun _=>by kernel_rfl) (fQ.string Tryz.underlying9) (fu.cons (u:= .int .i64 c.bD) (v:= .int .i64 a.bD) (by decide) (fun _=>by kernel_rfl) (fun _=>by kernel_rfl) (fQ.int Tryz.underlying3) (fu.nil.up (A9 _)))))))) ((congrArg (decide (c.aT=a.aT) && ·) ((congrArg (decide (c.aY=a.aY) && ·) ((congrArg (decide (c.aB=a.aB) && ·) ((congrArg (decide (c.aJ=a.aJ) && ·) ((congrArg (decide (c.aO=a.aO) && ·) jS).trans eY)).trans eY)).trans eY)).trans eY)).trans eY)))) decide_not.symm) (GX.take (v:= .bool (decide (¬ ((c.aT=a.aT)∧(c.aY=a.aY)∧(c.aB=a.aB)∧(c.aJ=a.aJ)∧(c.aO=a.aO)∧(c.bD=a.bD))))) (rs:= []) 9 rfl (by kernel_rfl) (fun _ _=>xW rfl rfl rfl) (yX (by kernel_rfl) (yg ?_)))
 by_cases F:(c.aT=a.aT)∧(c.aY=a.aY)∧(c.aB=a.aB)∧(c.aJ=a.aJ)∧(c.aO=a.aO)∧(c.bD=a.bD)
 refine jF (dF (Ba F)) (sk (sr (Kz (.pointer (some ⟨R,2,none⟩)) (Lz (.func (.func 129) #[] #[]) r 0 Tryz.isAgg136 (La (aW.cells a) r 1 Tryz.isAgg74 Tryz.sizeOf74 ?_)))))
 obtain⟨ah,S⟩:∃ q,j6 a=q:=⟨_,rfl⟩
 obtain⟨gu,aM,eD,aN,eF⟩:=yc r
 refine WL.do rfl (yB Tryz.call129 rfl rfl (o6 _ _ a ah aM S) ?_)
 rintro _ gy ⟨rfl,aO⟩
 have cB:=aN _ _ aO
 refine An rfl (rt (rs ?_))
 have cK:=cB.pk []
 obtain rfl:_=ah:=hr.symm.trans (et (iN l) (et (iN n) (et (iN j) (et (ip o) (et (ae z) (et (ip F) (ae S)))))))
 exact⟨rfl,cK,(by omega)⟩
 refine jT (dT F) (sr (An rfl (rt (tR (rs ?_)))))
 have cO:=r.pk []
 obtain rfl:_=40:=hr.symm.trans (et (iN l) (et (iN n) (et (iN j) (et (ip o) (et (ae z) (iN F))))))
 exact⟨rfl,cO,(by omega)⟩
 by_cases G:a.aT=5
 obtain⟨gz,aP,eG,aQ,eH⟩:=yc x
 refine cl Tryz.call111 (p8 _ _ a.aT aP (of_decide_eq_true (dT G))) ?_
 rintro _ gB ⟨rfl,aR⟩
 have df:=aQ _ _ aR
 refine Mz rfl (Kz (.agg #[.bool true, .func (.func 132) #[] #[], .func (.func 133) #[] #[], .func (.func 130) #[] #[], .func (.func 134) #[] #[]]) (Kz (.bool true) ?_))
 refine dG [.bool false, .nilFunc, .nilFunc, .nilFunc, .nilFunc] 166 df ?_
 intro T gD dh
 refine cZ [.bool true, .func (.func 132) #[] #[], .func (.func 133) #[] #[], .func (.func 130) #[] #[], .func (.func 134) #[] #[]] 0 dh Tryz.sizeOf166 ?_
 intro di dm
 refine An rfl (xV (xV ?_))
 have I:=dm.drew
 refine yY [] (fun W=> ∃ L',Own w D W ([blk T [.bool true, .func (.func 132) #[] #[], .func (.func 133) #[] #[], .func (.func 130) #[] #[], .func (.func 134) #[] #[]] 166,blk t (aW.cells a) 74]++L')) (by kernel_rfl) (by kernel_rfl) (yL (yL yZ)) ⟨_,I⟩ ?_
 revert I
 generalize World.drew di=gF
 intro I
 refine GX.take (v:= .bool true) (rs:= []) 0 rfl (by kernel_rfl) (fun _ _=>yj rfl) (GX.take (v:= .bool false) (rs:= []) 1 rfl (by kernel_rfl) (fun _ _=>yk) (GX.take (v:= .bool false) (rs:= []) 2 rfl (by kernel_rfl) (fun _ _=>yj rfl) (yf (v:= .pointer (some ⟨T,1,none⟩)) (rs:= []) 3 rfl rfl rfl rfl (by kernel_rfl) (fun _ _=>yk) (yf (v:= .func (.func 132) #[] #[]) (rs:= []) 4 rfl rfl rfl rfl (by kernel_rfl) (fun _ ⟨_,h⟩=>yl rfl (bH.one Tryz.isAgg162 (yT (h.cls (i:=0) rfl) rfl))) (yf (v:= .agg (aW.cells a).toArray) (rs:= []) 5 rfl rfl rfl rfl (by kernel_rfl) (fun _ ⟨_,h⟩=>yl rfl (yD (cs:=(aW.cells a)) Tryz.isAgg74 Tryz.sizeOf74 ((h.cls (i:=1) rfl).lit (k:=0) (m:=6) rfl))) (yf (v:= .agg (aW.cells a).toArray) (rs:= []) 7 rfl rfl rfl rfl (by kernel_rfl) (fun _ ⟨_,h⟩=>yl rfl (yD (cs:=(aW.cells a)) Tryz.isAgg74 Tryz.sizeOf74 ((h.cls (i:=1) rfl).lit (k:=0) (m:=6) rfl))) ?_))))))
 obtain⟨d,A⟩:∃ q,ky a=q:=⟨_,rfl⟩
 obtain⟨gG,aS,eO,aT,eP⟩:=yc I
 refine zi 6 rfl rfl rfl rfl (by kernel_rfl) (yB Tryz.call132 rfl rfl (p9 _ _ a d aS A) ?_)
 rintro _ gH ⟨rfl,aU⟩
 have s:=aT _ _ aU
 refine⟨.inr ⟨_,s⟩, ?_⟩
 refine yf (v:= .bool (decide (¬ ((d.aT=a.aT)∧(d.aY=a.aY)∧(d.aB=a.aB)∧(d.aJ=a.aJ)∧(d.aO=a.aO)∧(d.bD=a.bD))))) (rs:= []) 8 rfl rfl rfl rfl (by kernel_rfl) (fun _ _=>yJ (e:= !(decide ((d.aT=a.aT)∧(d.aY=a.aY)∧(d.aB=a.aB)∧(d.aJ=a.aJ)∧(d.aO=a.aO)∧(d.bD=a.bD)))) (zf rfl rfl (by kernel_rfl) rfl (fQ.struct Tryz.underlying74 (by kernel_rfl) (zg (fu.cons (u:= .int .i64 d.aT) (v:= .int .i64 a.aT) (by decide) (fun _=>by kernel_rfl) (fun _=>by kernel_rfl) (fQ.int Tryz.underlying3) (fu.cons (u:= .string ⟨List.toArray d.aY⟩) (v:= .string ⟨List.toArray a.aY⟩) (by decide) (fun _=>by kernel_rfl) (fun _=>by kernel_rfl) (fQ.string Tryz.underlying9) (fu.cons (u:= .string ⟨List.toArray d.aB⟩) (v:= .string ⟨List.toArray a.aB⟩) (by decide) (fun _=>by kernel_rfl) (fun _=>by kernel_rfl) (fQ.string Tryz.underlying9) (fu.cons (u:= .string ⟨List.toArray d.aJ⟩) (v:= .string ⟨List.toArray a.aJ⟩) (by decide) (fun _=>by kernel_rfl) (fun _=>by kernel_rfl) (fQ.string Tryz.underlying9) (fu.cons (u:= .string ⟨List.toArray d.aO⟩) (v:= .string ⟨List.toArray a.aO⟩) (by decide) (fun _=>by kernel_rfl) (fun _=>by kernel_rfl) (fQ.string Tryz.underlying9) (fu.cons (u:= .int .i64 d.bD) (v:= .int .i64 a.bD) (by decide) (fun _=>by kernel_rfl) (fun _=>by kernel_rfl) (fQ.int Tryz.underlying3) (fu.nil.up (A9 _)))))))) ((congrArg (decide (d.aT=a.aT) && ·) ((congrArg (decide (d.aY=a.aY) && ·) ((congrArg (decide (d.aB=a.aB) && ·) ((congrArg (decide (d.aJ=a.aJ) && ·) ((congrArg (decide (d.aO=a.aO) && ·) jS).trans eY)).trans eY)).trans eY)).trans eY)).trans eY)))) decide_not.symm) (GX.take (v:= .bool (decide (¬ ((d.aT=a.aT)∧(d.aY=a.aY)∧(d.aB=a.aB)∧(d.aJ=a.aJ)∧(d.aO=a.aO)∧(d.bD=a.bD))))) (rs:= []) 9 rfl (by kernel_rfl) (fun _ _=>xW rfl rfl rfl) (yX (by kernel_rfl) (yg ?_)))
 by_cases J:(d.aT=a.aT)∧(d.aY=a.aY)∧(d.aB=a.aB)∧(d.aJ=a.aJ)∧(d.aO=a.aO)∧(d.bD=a.bD)
 refine jF (dF (Ba J)) (sk (sr (Kz (.pointer (some ⟨T,2,none⟩)) (Lz (.func (.func 133) #[] #[]) s 0 Tryz.isAgg136 (La (aW.cells a) s 1 Tryz.isAgg74 Tryz.sizeOf74 ?_)))))
 obtain⟨ai,U⟩:∃ q,iF a=q:=⟨_,rfl⟩
 obtain⟨gI,aV,eQ,aX,eT⟩:=yc s
 refine WL.do rfl (yB Tryz.call133 rfl rfl (lQ _ _ a ai aV U) ?_)
 rintro _ gJ ⟨rfl,aY⟩
 have dn:=aX _ _ aY
 refine An rfl (rt (rs ?_))
 have dw:=dn.pk []
 obtain rfl:_=ai:=hr.symm.trans (et (iN l) (et (iN n) (et (iN j) (et (iN o) (et (ip G) (et (ae A) (et (ip J) (ae U))))))))
 exact⟨rfl,dw,(by omega)⟩
 refine jT (dT J) (sr (An rfl (rt (tR (rs ?_)))))
 have dx:=s.pk []
 obtain rfl:_=40:=hr.symm.trans (et (iN l) (et (iN n) (et (iN j) (et (iN o) (et (ip G) (et (ae A) (iN J)))))))
 exact⟨rfl,dx,(by omega)⟩
 obtain⟨gK,aZ,eU,bf,eX⟩:=yc x
 refine cl Tryz.call111 (o7 _ _ a.aT aZ (by omega) (by omega) (by omega) (by omega) (by omega)) ?_
 rintro _ gL ⟨rfl,bg⟩
 have dz:=bf _ _ bg
 refine Mz rfl (Kz (.agg #[.bool false, .nilFunc, .nilFunc, .nilFunc, .nilFunc]) (Kz (.bool false) ?_))
 refine dG [.bool false, .nilFunc, .nilFunc, .nilFunc, .nilFunc] 166 dz ?_
 intro dA gM dB
 refine cZ [.bool false, .nilFunc, .nilFunc, .nilFunc, .nilFunc] 0 dB Tryz.sizeOf166 ?_
 intro dD dE
 refine An rfl (xV (xV ?_))
 have K:=dE.drew
 refine yY [] (fun W=> ∃ L',Own w D W ([blk dA [.bool false, .nilFunc, .nilFunc, .nilFunc, .nilFunc] 166,blk t (aW.cells a) 74]++L')) (by kernel_rfl) (by kernel_rfl) (yL (yL yZ)) ⟨_,K⟩ ?_
 revert K
 generalize World.drew dD=gN
 intro K
 refine GX.take (v:= .bool false) (rs:= []) 0 rfl (by kernel_rfl) (fun _ _=>yj rfl) (GX.take (v:= .bool true) (rs:= []) 1 rfl (by kernel_rfl) (fun _ _=>yk) (GX.take (v:= .bool true) (rs:= []) 2 rfl (by kernel_rfl) (fun _ _=>yj rfl) (yn (rs:= []) 3 rfl rfl rfl rfl (by kernel_rfl) (yn (rs:= []) 4 rfl rfl rfl rfl (by kernel_rfl) (yn (rs:= []) 5 rfl rfl rfl rfl (by kernel_rfl) (yn (rs:= []) 6 rfl rfl rfl rfl (by kernel_rfl) (yn (rs:= []) 7 rfl rfl rfl rfl (by kernel_rfl) (yn (rs:= []) 8 rfl rfl rfl rfl (by kernel_rfl) (GX.take (v:= .bool true) (rs:= []) 9 rfl (by kernel_rfl) (fun _ _=>yw rfl rfl rfl) (yX (by kernel_rfl) (yg (jt (sr (An rfl (rt (tR (rs ?_)))))))))))))))))
 have dH:=K.pk []
 obtain rfl:_=40:=hr.symm.trans (et (iN l) (et (iN n) (et (iN j) (et (iN o) (iN G)))))
 exact⟨rfl,dH,(by omega)⟩
def gu (p1:Nat):List fo→Unit ⊕ Bool
  | []=>Sum.inl ()
  | a::b=>if((a.aV:Nat):Int)=((p1:Nat):Int) then Sum.inr (true) else gu p1 b
def kg (a:bP) (p1:Nat):Bool:=
 lp (gu p1 a.aH.ls) fun _=>false
theorem mq (w:World) (D:Nat→Prop) (a:bP) (g:Option Addr) (y h:Nat) (d:Option Addr) (z f:Nat) (m:List aL) (j:Option Addr) (B k:Nat) (p1:Nat) (r0:Bool) (H:Own w D w []) (E:y=a.ag.ls.length) (R:Ro w D fun w'=>bu w' 2 g a.ag.ls.length (List.flatMap aC.cells a.ag.ls)) (S:a.ag.ls.length≤h∧a.ag.ls.length≤9223372036854775807) (o:List.map yS m=a.aH.ls) (F:z=a.aH.ls.length) (l:Ro w D fun w'=>bu w' 2 d a.aH.ls.length (List.flatMap aL.cells m)) (T:a.aH.ls.length≤f∧a.aH.ls.length≤9223372036854775807) (G:∀ x ∈ m,Ro w D (fun w'=>bu w' 6 x.aI.A x.aI.ls.length (List.flatMap aW.cells x.aI.ls))∧(x.aI.ls.length≤x.aI.c∧x.aI.ls.length≤9223372036854775807)) (I:B=a.ax.ls.length) (U:Ro w D fun w'=>bu w' 1 j a.ax.ls.length (List.flatMap (eN .u64) a.ax.ls)) (V:a.ax.ls.length≤k∧a.ax.ls.length≤9223372036854775807) (hr:kg a p1=r0):
    Calls Tryz.prog 85 #[.agg (bF a.iZ a.az a.bC a.aS a.bA g y h d z f j B k a.iQ a.dM a.bz.aJ a.bz.aO a.bg.bA a.bg.bG a.bg.dR a.bg.aR.aJ a.bg.aR.aO).toArray, .int .u64 ((p1:Nat):Int)] w (dC fun v w'=>v= .bool r0∧Own w D w' []):=by
 subst E F I
 have hdl0x1:=bV o
 refine xU (args:= [.agg (dL a g h d f j k).toArray, .int .u64 ((p1:Nat):Int)]) Tryz.func85 rfl rfl rfl ?_
 show Wp _ _ _ [(0, .agg (dL a g h d f j k).toArray),(1, .int .u64 ((p1:Nat):Int))] _ _
 refine sr ?_
 refine dG (dL a g h d f j k) 31 H ?_
 intro W aj K
 refine An rfl (xV (sr (Kz (.pointer (some ⟨W,6,none⟩)) (Lz (.slice d a.aH.ls.length f) K 0 Tryz.isAgg24 (Kz (.int .i64 ((a.aH.ls.length:Nat):Int)) (Mn rfl (bo ?_)))))))
 have X:=K.pk []
 obtain⟨L,M⟩:∃ q:Nat→World→Prop,q=fun(i:Nat) w'=>Own w D w' []∧(i≤a.aH.ls.length∧gu p1 a.aH.ls=gu p1 (List.drop i a.aH.ls)):=⟨_,rfl⟩
 have p:∀ {b:Nat} {w':World},L b w'↔Own w D w' []∧b≤a.aH.ls.length∧gu p1 a.aH.ls=gu p1 (List.drop b a.aH.ls):=by intros; subst M; exact Iff.rfl
 refine Wp.loop (fun i:Nat=> [(4, .bool false),(10, .int .i64 ((i:Nat):Int)),(9, .int .i64 ((a.aH.ls.length:Nat):Int)),(8, .slice d a.aH.ls.length f),(1, .int .u64 ((p1:Nat):Int))]) L (fun i=>a.aH.ls.length - i) 0 ⟨rfl,rfl,rfl,rfl,rfl,trivial⟩ (p.2 ⟨X,by omega,rfl⟩) ?_
 rintro b ak N
 show Wp _ _ _ [(4, .bool false),(10, .int .i64 ((b:Nat):Int)),(9, .int .i64 ((a.aH.ls.length:Nat):Int)),(8, .slice d a.aH.ls.length f),(1, .int .u64 ((p1:Nat):Int))] _ _
 obtain⟨r,ah,s⟩:=p.1 N
 refine sr (Kz (.bool (decide (((b:Nat):Int) < ((a.aH.ls.length:Nat):Int)))) (nt (xV ?_)))
 by_cases O:((b:Nat):Int) < ((a.aH.ls.length:Nat):Int)
 obtain⟨n,t⟩:=fE (ls:=m) (i:=b) aL.len (by decide) (r.ro l) (by first | omega | (simp; done) | (simp; omega))
 have P:=jK o t
 have ai:=(G _ (List.mem_of_getElem? t)).2
 have C:=drop_at P
 refine jT (dT O) (sk (xV (bo (sr (fw (.pointer (some ⟨ab d,ao d+b *2,none⟩)) (yh (qF) rfl rfl ((r.ro l).addr (i:=b) (by omega)) (by omega)) (fw (.agg (aL.cells n).toArray) (yl rfl (yD (cs:=(aL.cells n)) Tryz.isAgg66 Tryz.sizeOf66 ((r.ro l).elem aL.len t (by decide)))) ?_))))))
 refine dG [.int .u64 0, .slice none 0 0] 66 r ?_
 intro Y au Z
 refine cZ (aL.cells n) 0 Z Tryz.sizeOf66 ?_
 intro av J
 refine ns (Kz (.pointer (some ⟨Y,0,none⟩)) (Lz (.int .u64 ((n.aV:Nat):Int)) J 0 Tryz.isAgg22 (Mz rfl (Kz (.bool (decide (((n.aV:Nat):Int)=((p1:Nat):Int)))) (nt ?_)))))
 by_cases u:((n.aV:Nat):Int)=((p1:Nat):Int)
 refine jT (dT u) (sr (An rfl (rt (bR (tR (tR (bR (tR (rs ?_)))))))))
 have aa:=J.pk []
 obtain rfl:_=true:=hr.symm.trans (gI (et (s) (et (congrArg (fun q=>gu p1 q) C) (ip u))))
 exact⟨rfl,aa⟩
 refine jF (dF u) (yV (bN (yg (xS (fw (.int .i64 ((b+1:Nat):Int)) (ym (e:=IntKind.i64.wrap (((b:Nat):Int)+1)) yk (by rw [A8 _ (by omega)]; omega)) (Mz rfl (xY ?_)))))))
 have ae:=J.pk []
 exact yE (b+1) ⟨rfl,rfl,rfl,rfl,rfl,trivial⟩ (p.2 ⟨ae,by omega,et (s) (et (congrArg (fun q=>gu p1 q) C) (iN u))⟩) (by show a.aH.ls.length - (b+1) < a.aH.ls.length - b; omega)
 refine jF (dF O) (Wp.exit (xX ?_))
 have Q:gu p1 a.aH.ls=Sum.inl ():=et (s) (et (congrArg (fun q=>gu p1 q) (fG (ls:=a.aH.ls) (i:=b) (by omega))) rfl)
 refine xX (yx (yg (sr (An rfl (rt (rs ?_))))))
 have af:=r.pk []
 obtain rfl:_=false:=hr.symm.trans (j3 Q)
 exact⟨rfl,af⟩
def bI (b:Nat):List aW→Unit ⊕ Bool
  | []=>Sum.inl ()
  | c::d=>bnd (iU c) fun a=>if a=0 then bI b d else Sum.inr (false)
def eZ (d:Nat):List aW→Unit ⊕ Bool
  | []=>Sum.inl ()
  | b::c=>bnd (iU b) fun a=>if a=0 then eZ d c else Sum.inr (false)
def bT (g:bP):List fo→Nat→Unit ⊕ Bool
  | [],a=>Sum.inl ()
  | b::d,a=>if((a:Nat):Int) > 0 then bnd (List.getD g.aH.ls (a - 1) default) fun e=>if((b.aV:Nat):Int)≤((e.aV:Nat):Int) then Sum.inr (false) else bnd (cu ((b.aI.ls.length:Nat):Int) 24) fun f=>if f=true then kN (bI a b.aI.ls) fun _=>bT g d (a+1) else Sum.inr (false) else bnd (cu ((b.aI.ls.length:Nat):Int) 24) fun c=>if c=true then kN (eZ a b.aI.ls) fun _=>bT g d (a+1) else Sum.inr (false)
def d9 (g:bP):List Nat→Nat→Unit ⊕ Bool
  | [],a=>Sum.inl ()
  | b::c,a=>if((a:Nat):Int) > 0 then bnd (List.getD g.ax.ls (a - 1) default) fun d=>if((b:Nat):Int)≤((d:Nat):Int) then Sum.inr (false) else bnd (kg g b) fun e=>if e=true then Sum.inr (false) else d9 g c (a+1) else bnd (kg g b) fun f=>if f=true then Sum.inr (false) else d9 g c (a+1)
def jN (a:bP):Bool:=
 if((a.aH.ls.length:Nat):Int) > 6 then false else if((a.aH.ls.length+a.ax.ls.length:Nat):Int) > 64 then false else lp (bT a a.aH.ls 0) fun _=>lp (d9 a a.ax.ls 0) fun _=>true
set_option maxHeartbeats 1000000 in
theorem ol (w:World) (D:Nat→Prop) (d:bP) (r:Option Addr) (bz n:Nat) (f:Option Addr) (bA h:Nat) (Q:List aL) (j:Option Addr) (bB l:Nat) (r0:Bool) (H:Own w D w []) (bS:bz=d.ag.ls.length) (aP:Ro w D fun w'=>bu w' 2 r d.ag.ls.length (List.flatMap aC.cells d.ag.ls)) (fB:d.ag.ls.length≤n∧d.ag.ls.length≤9223372036854775807) (R:List.map yS Q=d.aH.ls) (bU:bA=d.aH.ls.length) (J:Ro w D fun w'=>bu w' 2 f d.aH.ls.length (List.flatMap aL.cells Q)) (fC:d.aH.ls.length≤h∧d.aH.ls.length≤9223372036854775807) (t:∀ x ∈ Q,Ro w D (fun w'=>bu w' 6 x.aI.A x.aI.ls.length (List.flatMap aW.cells x.aI.ls))∧(x.aI.ls.length≤x.aI.c∧x.aI.ls.length≤9223372036854775807)) (bW:bB=d.ax.ls.length) (B:Ro w D fun w'=>bu w' 1 j d.ax.ls.length (List.flatMap (eN .u64) d.ax.ls)) (fF:d.ax.ls.length≤l∧d.ax.ls.length≤9223372036854775807) (il:d.ag.ls.length≤140737488355328∧d.aH.ls.length≤140737488355328∧d.ax.ls.length≤140737488355328) (hr:jN d=r0):
    Calls Tryz.prog 40 #[.agg (bF d.iZ d.az d.bC d.aS d.bA r bz n f bA h j bB l d.iQ d.dM d.bz.aJ d.bz.aO d.bg.bA d.bg.bG d.bg.dR d.bg.aR.aJ d.bg.aR.aO).toArray] w (dC fun v w'=>v= .bool r0∧Own w D w' []):=by
 subst bS bU bW
 have hdl0x1:=bV R
 refine xU (args:= [.agg (dL d r n f h j l).toArray]) Tryz.func40 rfl rfl rfl ?_
 show Wp _ _ _ [(0, .agg (dL d r n f h j l).toArray)] _ _
 refine sr ?_
 refine dG (dL d r n f h j l) 31 H ?_
 intro s iq av
 refine An rfl (xV (sr (Kz (.pointer (some ⟨s,6,none⟩)) (Lz (.slice f d.aH.ls.length h) av 0 Tryz.isAgg24 (Kz (.int .i64 ((d.aH.ls.length:Nat):Int)) (Kz (.bool (decide (((d.aH.ls.length:Nat):Int) > 6))) (Mz rfl ?_)))))))
 by_cases o:((d.aH.ls.length:Nat):Int) > 6
 refine Sz (dT o) (Sz (dT o) (Sz (dT o) (Sz (dT o) (Sz (dT o) (Sz (dT o) (Sz (dT o) (Sz (dT o) (fw (.bool true) (yw rfl (dT o) rfl) (nt (jt (sr (An rfl (rt (tR (rs ?_)))))))))))))))
 have fH:=av.pk []
 obtain rfl:_=false:=hr.symm.trans (ip o)
 exact⟨rfl,fH⟩
 refine Gz (.pointer (some ⟨s,6,none⟩)) (dF o) (Gl (.slice f d.aH.ls.length h) (dF o) av 0 Tryz.isAgg24 (Gz (.int .i64 ((d.aH.ls.length:Nat):Int)) (dF o) (Gz (.pointer (some ⟨s,7,none⟩)) (dF o) (Gl (.slice j d.ax.ls.length l) (dF o) av 0 Tryz.isAgg25 (Gz (.int .i64 ((d.ax.ls.length:Nat):Int)) (dF o) (gw (.int .i64 ((d.aH.ls.length+d.ax.ls.length:Nat):Int)) (dF o) (ym (e:=IntKind.i64.wrap (((d.aH.ls.length:Nat):Int)+((d.ax.ls.length:Nat):Int))) yk (by rw [A8 _ (by omega)]; omega)) (Gz (.bool (decide (((d.aH.ls.length+d.ax.ls.length:Nat):Int) > 64))) (dF o) (fw (.bool (decide (((d.aH.ls.length+d.ax.ls.length:Nat):Int) > 64))) (xW rfl (dF o) rfl) (nt ?_)))))))))
 by_cases P:((d.aH.ls.length+d.ax.ls.length:Nat):Int) > 64
 refine jT (dT P) (sr (An rfl (rt (tR (rs ?_)))))
 have fI:=av.pk []
 obtain rfl:_=false:=hr.symm.trans (et (iN o) (ip P))
 exact⟨rfl,fI⟩
 refine jF (dF P) (sk (xV (sr (Kz (.pointer (some ⟨s,6,none⟩)) (Lz (.slice f d.aH.ls.length h) av 0 Tryz.isAgg24 (Kz (.int .i64 ((d.aH.ls.length:Nat):Int)) (Mn rfl (bo ?_))))))))
 have fJ:=av.pk [0]
 obtain⟨dH,dI⟩:∃ q:Nat→World→Prop,q=fun(i:Nat) w'=>Own w D w' [blk s (dL d r n f h j l) 31]∧(i≤d.aH.ls.length∧bT d d.aH.ls 0=bT d (List.drop i d.aH.ls) i):=⟨_,rfl⟩
 have aD:∀ {b:Nat} {w':World},dH b w'↔Own w D w' [blk s (dL d r n f h j l) 31]∧b≤d.aH.ls.length∧bT d d.aH.ls 0=bT d (List.drop b d.aH.ls) b:=by intros; subst dI; exact Iff.rfl
 refine Wp.loop (fun i:Nat=> [(2, .bool false),(26, .int .i64 ((i:Nat):Int)),(25, .int .i64 ((d.aH.ls.length:Nat):Int)),(24, .slice f d.aH.ls.length h),(1, .pointer (some ⟨s,0,none⟩))]) dH (fun i=>d.aH.ls.length - i) 0 ⟨rfl,rfl,rfl,rfl,rfl,trivial⟩ (aD.2 ⟨fJ,by omega,rfl⟩) ?_
 rintro b iw dJ
 show Wp _ _ _ [(2, .bool false),(26, .int .i64 ((b:Nat):Int)),(25, .int .i64 ((d.aH.ls.length:Nat):Int)),(24, .slice f d.aH.ls.length h),(1, .pointer (some ⟨s,0,none⟩))] _ _
 obtain⟨aM,gB,N⟩:=aD.1 dJ
 refine sr (Kz (.bool (decide (((b:Nat):Int) < ((d.aH.ls.length:Nat):Int)))) (nt (xV ?_)))
 by_cases dK:((b:Nat):Int) < ((d.aH.ls.length:Nat):Int)
 obtain⟨a,K⟩:=fE (ls:=Q) (i:=b) aL.len (by decide) (aM.ro J) (by first | omega | (simp; done) | (simp; omega))
 have dM:=jK R K
 have gD:=(t _ (List.mem_of_getElem? K)).2
 have S:=drop_at dM
 refine jT (dT dK) (sk (xV (bo (sr (Mz rfl (fw (.pointer (some ⟨ab f,ao f+b *2,none⟩)) (yh (qF) rfl rfl ((aM.ro J).addr (i:=b) (by omega)) (by omega)) (fw (.agg (aL.cells a).toArray) (yl rfl (yD (cs:=(aL.cells a)) Tryz.isAgg66 Tryz.sizeOf66 ((aM.ro J).elem aL.len K (by decide)))) ?_)))))))
 refine dG [.int .u64 0, .slice none 0 0] 66 aM ?_
 intro y iy fK
 refine Az rfl ?_
 refine cZ (aL.cells a) 0 fK Tryz.sizeOf66 ?_
 intro fM fO
 refine nt (xV (xV ?_))
 have aN:=fO.drew
 refine yY [] (fun W=> ∃ L',Own w D W ([blk y (aL.cells a) 66,blk s (dL d r n f h j l) 31]++L')) (by kernel_rfl) (by kernel_rfl) (yL (yL (fD.block (yL (yL (fD.block (yL yZ))))))) ⟨_,aN⟩ ?_
 revert aN
 generalize World.drew fM=iA
 intro aN
 refine GX.take (v:= .int .i64 ((b:Nat):Int)) (rs:= []) 0 rfl (by kernel_rfl) (fun _ _=>yj rfl) (GX.take (v:= .bool (decide (((b:Nat):Int) > 0))) (rs:= []) 1 rfl (by kernel_rfl) (fun _ _=>yk) (GX.take (v:= .bool (decide (((b:Nat):Int) > 0))) (rs:= []) 2 rfl (by kernel_rfl) (fun _ _=>yj rfl) ?_))
 by_cases p:((b:Nat):Int) > 0
 refine yf (v:= .pointer (some ⟨y,0,none⟩)) (rs:= []) 3 rfl rfl rfl (dT p) (by kernel_rfl) (fun _ _=>yk) (yf (v:= .int .u64 ((a.aV:Nat):Int)) (rs:= []) 4 rfl rfl rfl (dT p) (by kernel_rfl) (fun _ ⟨_,H9⟩=>yl rfl (bH.one Tryz.isAgg22 (yT (H9.cls (i:=0) rfl) rfl))) (yf (v:= .pointer (some ⟨s,6,none⟩)) (rs:= []) 5 rfl rfl rfl (dT p) (by kernel_rfl) (fun _ _=>yk) (yf (v:= .slice f d.aH.ls.length h) (rs:= []) 6 rfl rfl rfl (dT p) (by kernel_rfl) (fun _ ⟨_,H9⟩=>yl rfl (bH.one Tryz.isAgg24 (yT (H9.cls (i:=1) rfl) rfl))) (yf (v:= .int .i64 ((b:Nat):Int)) (rs:= []) 7 rfl rfl rfl (dT p) (by kernel_rfl) (fun _ _=>yj rfl) (yf (v:= .int .i64 ((b - 1:Nat):Int)) (rs:= []) 8 rfl rfl rfl (dT p) (by kernel_rfl) (fun _ _=>ym (e:=IntKind.i64.wrap (((b:Nat):Int) - 1)) yk (by rw [A8 _ (by omega)]; omega)) ?_)))))
 obtain⟨L,aR⟩:=qw (ls:=Q) (i:=b - 1) (by first | omega | (simp; done) | (simp; omega))
 have aF:=jK R aR
 have gF:=(t _ (List.mem_of_getElem? aR)).2
 refine yf (v:= .pointer (some ⟨ab f,ao f+(b - 1) *2,none⟩)) (rs:= []) 9 rfl rfl rfl (dT p) (by kernel_rfl) (fun _ ⟨_,H9⟩=>yh (qF) rfl rfl ((H9.ro J).addr (i:=b - 1) (by omega)) (by omega)) (yf (v:= .pointer (some ⟨ab f,ao f+(b - 1) *2,none⟩)) (rs:= []) 10 rfl rfl rfl (dT p) (by kernel_rfl) (fun _ _=>yk) (yf (v:= .int .u64 ((L.aV:Nat):Int)) (rs:= []) 11 rfl rfl rfl (dT p) (by kernel_rfl) (fun _ ⟨_,H9⟩=>yl rfl (bH.one Tryz.isAgg22 (((H9.ro J).elem aL.len aR (by decide)).at_ (k:=0) rfl))) (yf (v:= .bool (decide (((a.aV:Nat):Int)≤((L.aV:Nat):Int)))) (rs:= []) 12 rfl rfl rfl (dT p) (by kernel_rfl) (fun _ _=>yk) (GX.take (v:= .bool (decide (((a.aV:Nat):Int)≤((L.aV:Nat):Int)))) (rs:= []) 13 rfl (by kernel_rfl) (fun _ _=>yw rfl (dT p) rfl) (GX.take (v:= .bool (decide (((a.aV:Nat):Int)≤((L.aV:Nat):Int)))) (rs:= []) 14 rfl (by kernel_rfl) (fun _ _=>yj rfl) ?_)))))
 by_cases F:((a.aV:Nat):Int)≤((L.aV:Nat):Int)
 refine yn (rs:= []) 15 rfl rfl rfl (dT F) (by kernel_rfl) (yn (rs:= []) 16 rfl rfl rfl (dT F) (by kernel_rfl) (yn (rs:= []) 17 rfl rfl rfl (dT F) (by kernel_rfl) (yn (rs:= []) 18 rfl rfl rfl (dT F) (by kernel_rfl) (yn (rs:= []) 19 rfl rfl rfl (dT F) (by kernel_rfl) (GX.take (v:= .bool true) (rs:= []) 20 rfl (by kernel_rfl) (fun _ _=>yw rfl (dT F) rfl) (yX (by kernel_rfl) (yg (jt (sr (An rfl (rt (tR (bR (tR (tR (bR (tR (rs ?_))))))))))))))))))
 have fP:=aN.pk []
 obtain rfl:_=false:=hr.symm.trans (et (iN o) (et (iN P) (gI (et (N) (et (congrArg (fun q=>bT d q b) S) (et (ip p) (et (ae (dV aF)) (ip F))))))))
 exact⟨rfl,fP⟩
 refine yf (v:= .pointer (some ⟨y,1,none⟩)) (rs:= []) 15 rfl rfl rfl (dF F) (by kernel_rfl) (fun _ _=>yk) (yf (v:= .slice a.aI.A a.aI.ls.length a.aI.c) (rs:= []) 16 rfl rfl rfl (dF F) (by kernel_rfl) (fun _ ⟨_,H9⟩=>yl rfl (bH.one Tryz.isAgg64 (yT (H9.cls (i:=0) rfl) rfl))) (yf (v:= .int .i64 ((a.aI.ls.length:Nat):Int)) (rs:= []) 17 rfl rfl rfl (dF F) (by kernel_rfl) (fun _ _=>yk) ?_))
 obtain⟨U,aG⟩:∃ q,cu ((a.aI.ls.length:Nat):Int) 24=q:=⟨_,rfl⟩
 obtain⟨iB,dN,gG,dO,gH⟩:=yc aN
 refine zi 18 rfl rfl rfl (dF F) (by kernel_rfl) (yC Tryz.call38 rfl (gP _ _ ((a.aI.ls.length:Nat):Int) 24 U dN aG) ?_)
 rintro _ iC ⟨rfl,dP⟩
 have bv:=dO _ _ dP
 refine⟨.inr ⟨_,bv⟩, ?_⟩
 refine yf (v:= .bool (!U)) (rs:= []) 19 rfl rfl rfl (dF F) (by kernel_rfl) (fun _ _=>yk) (GX.take (v:= .bool (!U)) (rs:= []) 20 rfl (by kernel_rfl) (fun _ _=>xW rfl (dF F) rfl) (yX (by kernel_rfl) (yg ?_)))
 rcases Bb (U) with aO | aO
 refine jF (cn aO) (sk (sr (Kz (.pointer (some ⟨y,1,none⟩)) (Lz (.slice a.aI.A a.aI.ls.length a.aI.c) bv 0 Tryz.isAgg64 (Kz (.int .i64 ((a.aI.ls.length:Nat):Int)) (Mn rfl (bo ?_)))))))
 have fQ:=bv.pk [0,1]
 obtain⟨dQ,dR⟩:∃ q:Nat→World→Prop,q=fun(i:Nat) w'=>Own w D w' [blk y (aL.cells a) 66,blk s (dL d r n f h j l) 31]∧(i≤a.aI.ls.length∧bI b a.aI.ls=bI b (List.drop i a.aI.ls)):=⟨_,rfl⟩
 have aS:∀ {G:Nat} {w':World},dQ G w'↔Own w D w' [blk y (aL.cells a) 66,blk s (dL d r n f h j l) 31]∧G≤a.aI.ls.length∧bI b a.aI.ls=bI b (List.drop G a.aI.ls):=by intros; subst dR; exact Iff.rfl
 refine Wp.loop (fun i:Nat=> [(2, .bool false),(55, .int .i64 ((i:Nat):Int)),(54, .int .i64 ((a.aI.ls.length:Nat):Int)),(53, .slice a.aI.A a.aI.ls.length a.aI.c),(52, .pointer (some ⟨y,1,none⟩)),(51, .bool (!U)),(50, .bool (!U)),(49, .bool U),(48, .int .i64 ((a.aI.ls.length:Nat):Int)),(47, .slice a.aI.A a.aI.ls.length a.aI.c),(46, .pointer (some ⟨y,1,none⟩)),(45, .bool (decide (((a.aV:Nat):Int)≤((L.aV:Nat):Int)))),(44, .bool (decide (((a.aV:Nat):Int)≤((L.aV:Nat):Int)))),(43, .bool (decide (((a.aV:Nat):Int)≤((L.aV:Nat):Int)))),(42, .int .u64 ((L.aV:Nat):Int)),(41, .pointer (some ⟨ab f,ao f+(b - 1) *2,none⟩)),(40, .pointer (some ⟨ab f,ao f+(b - 1) *2,none⟩)),(39, .int .i64 ((b - 1:Nat):Int)),(38, .int .i64 ((b:Nat):Int)),(37, .slice f d.aH.ls.length h),(36, .pointer (some ⟨s,6,none⟩)),(35, .int .u64 ((a.aV:Nat):Int)),(34, .pointer (some ⟨y,0,none⟩)),(33, .bool (decide (((b:Nat):Int) > 0))),(32, .bool (decide (((b:Nat):Int) > 0))),(31, .int .i64 ((b:Nat):Int)),(3, .int .i64 ((b:Nat):Int)),(4, .pointer (some ⟨y,0,none⟩)),(30, .agg (aL.cells a).toArray),(29, .pointer (some ⟨ab f,ao f+b *2,none⟩)),(28, .int .i64 ((b:Nat):Int)),(27, .bool (decide (((b:Nat):Int) < ((d.aH.ls.length:Nat):Int)))),(26, .int .i64 ((b:Nat):Int)),(25, .int .i64 ((d.aH.ls.length:Nat):Int)),(24, .slice f d.aH.ls.length h),(1, .pointer (some ⟨s,0,none⟩))]) dQ (fun i=>a.aI.ls.length - i) 0 ⟨rfl,rfl,rfl,rfl,rfl,rfl,rfl,rfl,rfl,rfl,rfl,rfl,rfl,rfl,rfl,rfl,rfl,rfl,rfl,rfl,rfl,rfl,rfl,rfl,rfl,rfl,rfl,rfl,rfl,rfl,rfl,rfl,rfl,rfl,rfl,rfl,trivial⟩ (aS.2 ⟨fQ,by omega,rfl⟩) ?_
 rintro G iD dS
 show Wp _ _ _ [(2, .bool false),(55, .int .i64 ((G:Nat):Int)),(54, .int .i64 ((a.aI.ls.length:Nat):Int)),(53, .slice a.aI.A a.aI.ls.length a.aI.c),(52, .pointer (some ⟨y,1,none⟩)),(51, .bool (!U)),(50, .bool (!U)),(49, .bool U),(48, .int .i64 ((a.aI.ls.length:Nat):Int)),(47, .slice a.aI.A a.aI.ls.length a.aI.c),(46, .pointer (some ⟨y,1,none⟩)),(45, .bool (decide (((a.aV:Nat):Int)≤((L.aV:Nat):Int)))),(44, .bool (decide (((a.aV:Nat):Int)≤((L.aV:Nat):Int)))),(43, .bool (decide (((a.aV:Nat):Int)≤((L.aV:Nat):Int)))),(42, .int .u64 ((L.aV:Nat):Int)),(41, .pointer (some ⟨ab f,ao f+(b - 1) *2,none⟩)),(40, .pointer (some ⟨ab f,ao f+(b - 1) *2,none⟩)),(39, .int .i64 ((b - 1:Nat):Int)),(38, .int .i64 ((b:Nat):Int)),(37, .slice f d.aH.ls.length h),(36, .pointer (some ⟨s,6,none⟩)),(35, .int .u64 ((a.aV:Nat):Int)),(34, .pointer (some ⟨y,0,none⟩)),(33, .bool (decide (((b:Nat):Int) > 0))),(32, .bool (decide (((b:Nat):Int) > 0))),(31, .int .i64 ((b:Nat):Int)),(3, .int .i64 ((b:Nat):Int)),(4, .pointer (some ⟨y,0,none⟩)),(30, .agg (aL.cells a).toArray),(29, .pointer (some ⟨ab f,ao f+b *2,none⟩)),(28, .int .i64 ((b:Nat):Int)),(27, .bool (decide (((b:Nat):Int) < ((d.aH.ls.length:Nat):Int)))),(26, .int .i64 ((b:Nat):Int)),(25, .int .i64 ((d.aH.ls.length:Nat):Int)),(24, .slice f d.aH.ls.length h),(1, .pointer (some ⟨s,0,none⟩))] _ _
 obtain⟨aT,gJ,aU⟩:=aS.1 dS
 refine sr (Kz (.bool (decide (((G:Nat):Int) < ((a.aI.ls.length:Nat):Int)))) (nt (xV ?_)))
 by_cases dU:((G:Nat):Int) < ((a.aI.ls.length:Nat):Int)
 obtain⟨ah,bC⟩:=fE (ls:=a.aI.ls) (i:=G) aW.len (by decide) (aT.ro (t _ (List.mem_of_getElem? K)).1) (by first | omega | (simp; done) | (simp; omega))
 have bD:=drop_at bC
 refine jT (dT dU) (sk (xV (bo (sr (fw (.pointer (some ⟨ab a.aI.A,ao a.aI.A+G *6,none⟩)) (yh (rF) rfl rfl ((aT.ro (t _ (List.mem_of_getElem? K)).1).addr (i:=G) (by omega)) (by omega)) (fw (.agg (aW.cells ah).toArray) (yl rfl (yD (cs:=(aW.cells ah)) Tryz.isAgg74 Tryz.sizeOf74 ((aT.ro (t _ (List.mem_of_getElem? K)).1).elem aW.len bC (by decide)))) ?_))))))
 refine dG [.int .i64 0, .string ⟨List.toArray ([])⟩, .string ⟨List.toArray ([])⟩, .string ⟨List.toArray ([])⟩, .string ⟨List.toArray ([])⟩, .int .i64 0] 74 aT ?_
 intro iE iF fT
 refine cZ (aW.cells ah) 0 fT Tryz.sizeOf74 ?_
 intro iG dW
 refine ns (La (aW.cells ah) dW 0 Tryz.isAgg74 Tryz.sizeOf74 ?_)
 obtain⟨aV,aX⟩:∃ q,iU ah=q:=⟨_,rfl⟩
 obtain⟨iH,dX,gK,dY,gL⟩:=yc dW
 refine cl Tryz.call84 (nu _ _ ah aV dX aX) ?_
 rintro _ iI ⟨rfl,dZ,aY⟩
 have ed:=dY _ _ dZ
 replace aY: ¬ (aV=0)∨(1≤ah.aT∧ah.aT≤5):=aY
 refine fw (.bool (decide (¬ (aV=0)))) (yJ (e:= !(decide (aV=0))) yk decide_not.symm) (nt ?_)
 by_cases aH:aV=0
 refine jF (dF (Ba aH)) (yV (bN (yg (xS (fw (.int .i64 ((G+1:Nat):Int)) (ym (e:=IntKind.i64.wrap (((G:Nat):Int)+1)) yk (by rw [A8 _ (by omega)]; omega)) (Mz rfl (xY ?_)))))))
 have ek:=ed.pk [1,2]
 exact yE (G+1) ⟨rfl,rfl,rfl,rfl,rfl,rfl,rfl,rfl,rfl,rfl,rfl,rfl,rfl,rfl,rfl,rfl,rfl,rfl,rfl,rfl,rfl,rfl,rfl,rfl,rfl,rfl,rfl,rfl,rfl,rfl,rfl,rfl,rfl,rfl,rfl,rfl,trivial⟩ (aS.2 ⟨ek,by omega,et (aU) (et (congrArg (fun q=>bI b q) bD) (et (ae aX) (ip aH)))⟩) (by show a.aI.ls.length - (G+1) < a.aI.ls.length - G; omega)
 refine jT (dT aH) (sr (An rfl (rt (bR (tR (tR (bR (bR (tR (tR (bR (tR (rs ?_)))))))))))))
 have eu:=ed.pk []
 obtain rfl:_=false:=hr.symm.trans (et (iN o) (et (iN P) (gI (et (N) (et (congrArg (fun q=>bT d q b) S) (et (ip p) (et (ae (dV aF)) (et (iN F) (et (ae aG) (et (ip aO) (mh (et (aU) (et (congrArg (fun q=>bI b q) bD) (et (ae aX) (iN aH)))))))))))))))
 exact⟨rfl,eu⟩
 refine jF (dF dU) (Wp.exit (xX ?_))
 have bX:bI b a.aI.ls=Sum.inl ():=et (aU) (et (congrArg (fun q=>bI b q) (fG (ls:=a.aI.ls) (i:=G) (by omega))) rfl)
 refine xX (yx (bN (yg (xS (fw (.int .i64 ((b+1:Nat):Int)) (ym (e:=IntKind.i64.wrap (((b:Nat):Int)+1)) yk (by rw [A8 _ (by omega)]; omega)) (Mz rfl (xY ?_)))))))
 have eB:=aT.pk [1]
 exact yE (b+1) ⟨rfl,rfl,rfl,rfl,rfl,trivial⟩ (aD.2 ⟨eB,by omega,et (N) (et (congrArg (fun q=>bT d q b) S) (et (ip p) (et (ae (dV aF)) (et (iN F) (et (ae aG) (et (ip aO) (nX bX)))))))⟩) (by show d.aH.ls.length - (b+1) < d.aH.ls.length - b; omega)
 refine jT (cn aO) (sr (An rfl (rt (tR (bR (tR (tR (bR (tR (rs ?_))))))))))
 have eD:=bv.pk []
 obtain rfl:_=false:=hr.symm.trans (et (iN o) (et (iN P) (gI (et (N) (et (congrArg (fun q=>bT d q b) S) (et (ip p) (et (ae (dV aF)) (et (iN F) (et (ae aG) (kG aO))))))))))
 exact⟨rfl,eD⟩
 refine yn (rs:= []) 3 rfl rfl rfl (dF p) (by kernel_rfl) (yn (rs:= []) 4 rfl rfl rfl (dF p) (by kernel_rfl) (yn (rs:= []) 5 rfl rfl rfl (dF p) (by kernel_rfl) (yn (rs:= []) 6 rfl rfl rfl (dF p) (by kernel_rfl) (yn (rs:= []) 7 rfl rfl rfl (dF p) (by kernel_rfl) (yn (rs:= []) 8 rfl rfl rfl (dF p) (by kernel_rfl) (yn (rs:= []) 9 rfl rfl rfl (dF p) (by kernel_rfl) (yn (rs:= []) 10 rfl rfl rfl (dF p) (by kernel_rfl) (yn (rs:= []) 11 rfl rfl rfl (dF p) (by kernel_rfl) (yn (rs:= []) 12 rfl rfl rfl (dF p) (by kernel_rfl) (GX.take (v:= .bool false) (rs:= []) 13 rfl (by kernel_rfl) (fun _ _=>xW rfl (dF p) rfl) (GX.take (v:= .bool false) (rs:= []) 14 rfl (by kernel_rfl) (fun _ _=>yj rfl) (yf (v:= .pointer (some ⟨y,1,none⟩)) (rs:= []) 15 rfl rfl rfl rfl (by kernel_rfl) (fun _ _=>yk) (yf (v:= .slice a.aI.A a.aI.ls.length a.aI.c) (rs:= []) 16 rfl rfl rfl rfl (by kernel_rfl) (fun _ ⟨_,H9⟩=>yl rfl (bH.one Tryz.isAgg64 (yT (H9.cls (i:=0) rfl) rfl))) (yf (v:= .int .i64 ((a.aI.ls.length:Nat):Int)) (rs:= []) 17 rfl rfl rfl rfl (by kernel_rfl) (fun _ _=>yk) ?_))))))))))))))
 obtain⟨I,X⟩:∃ q,cu ((a.aI.ls.length:Nat):Int) 24=q:=⟨_,rfl⟩
 obtain⟨gM,bY,fU,bZ,fV⟩:=yc aN
 refine zi 18 rfl rfl rfl rfl (by kernel_rfl) (yC Tryz.call38 rfl (gP _ _ ((a.aI.ls.length:Nat):Int) 24 I bY X) ?_)
 rintro _ gN ⟨rfl,cz⟩
 have aI:=bZ _ _ cz
 refine⟨.inr ⟨_,aI⟩, ?_⟩
 refine yf (v:= .bool (!I)) (rs:= []) 19 rfl rfl rfl rfl (by kernel_rfl) (fun _ _=>yk) (GX.take (v:= .bool (!I)) (rs:= []) 20 rfl (by kernel_rfl) (fun _ _=>xW rfl rfl rfl) (yX (by kernel_rfl) (yg ?_)))
 rcases Bb (I) with V | V
 refine jF (cn V) (sk (sr (Kz (.pointer (some ⟨y,1,none⟩)) (Lz (.slice a.aI.A a.aI.ls.length a.aI.c) aI 0 Tryz.isAgg64 (Kz (.int .i64 ((a.aI.ls.length:Nat):Int)) (Mn rfl (bo ?_)))))))
 have eF:=aI.pk [0,1]
 obtain⟨bE,cB⟩:∃ q:Nat→World→Prop,q=fun(i:Nat) w'=>Own w D w' [blk y (aL.cells a) 66,blk s (dL d r n f h j l) 31]∧(i≤a.aI.ls.length∧eZ b a.aI.ls=eZ b (List.drop i a.aI.ls)):=⟨_,rfl⟩
 have ax:∀ {u:Nat} {w':World},bE u w'↔Own w D w' [blk y (aL.cells a) 66,blk s (dL d r n f h j l) 31]∧u≤a.aI.ls.length∧eZ b a.aI.ls=eZ b (List.drop u a.aI.ls):=by intros; subst cB; exact Iff.rfl
 refine Wp.loop (fun i:Nat=> [(2, .bool false),(55, .int .i64 ((i:Nat):Int)),(54, .int .i64 ((a.aI.ls.length:Nat):Int)),(53, .slice a.aI.A a.aI.ls.length a.aI.c),(52, .pointer (some ⟨y,1,none⟩)),(51, .bool (!I)),(50, .bool (!I)),(49, .bool I),(48, .int .i64 ((a.aI.ls.length:Nat):Int)),(47, .slice a.aI.A a.aI.ls.length a.aI.c),(46, .pointer (some ⟨y,1,none⟩)),(45, .bool false),(44, .bool false),(43,undef),(42,undef),(41,undef),(40,undef),(39,undef),(38,undef),(37,undef),(36,undef),(35,undef),(34,undef),(33, .bool (decide (((b:Nat):Int) > 0))),(32, .bool (decide (((b:Nat):Int) > 0))),(31, .int .i64 ((b:Nat):Int)),(3, .int .i64 ((b:Nat):Int)),(4, .pointer (some ⟨y,0,none⟩)),(30, .agg (aL.cells a).toArray),(29, .pointer (some ⟨ab f,ao f+b *2,none⟩)),(28, .int .i64 ((b:Nat):Int)),(27, .bool (decide (((b:Nat):Int) < ((d.aH.ls.length:Nat):Int)))),(26, .int .i64 ((b:Nat):Int)),(25, .int .i64 ((d.aH.ls.length:Nat):Int)),(24, .slice f d.aH.ls.length h),(1, .pointer (some ⟨s,0,none⟩))]) bE (fun i=>a.aI.ls.length - i) 0 ⟨rfl,rfl,rfl,rfl,rfl,rfl,rfl,rfl,rfl,rfl,rfl,rfl,rfl,rfl,rfl,rfl,rfl,rfl,rfl,rfl,rfl,rfl,rfl,rfl,rfl,rfl,rfl,rfl,rfl,rfl,rfl,rfl,rfl,rfl,rfl,rfl,trivial⟩ (ax.2 ⟨eF,by omega,rfl⟩) ?_
 rintro u gQ cK
 show Wp _ _ _ [(2, .bool false),(55, .int .i64 ((u:Nat):Int)),(54, .int .i64 ((a.aI.ls.length:Nat):Int)),(53, .slice a.aI.A a.aI.ls.length a.aI.c),(52, .pointer (some ⟨y,1,none⟩)),(51, .bool (!I)),(50, .bool (!I)),(49, .bool I),(48, .int .i64 ((a.aI.ls.length:Nat):Int)),(47, .slice a.aI.A a.aI.ls.length a.aI.c),(46, .pointer (some ⟨y,1,none⟩)),(45, .bool false),(44, .bool false),(43,undef),(42,undef),(41,undef),(40,undef),(39,undef),(38,undef),(37,undef),(36,undef),(35,undef),(34,undef),(33, .bool (decide (((b:Nat):Int) > 0))),(32, .bool (decide (((b:Nat):Int) > 0))),(31, .int .i64 ((b:Nat):Int)),(3, .int .i64 ((b:Nat):Int)),(4, .pointer (some ⟨y,0,none⟩)),(30, .agg (aL.cells a).toArray),(29, .pointer (some ⟨ab f,ao f+b *2,none⟩)),(28, .int .i64 ((b:Nat):Int)),(27, .bool (decide (((b:Nat):Int) < ((d.aH.ls.length:Nat):Int)))),(26, .int .i64 ((b:Nat):Int)),(25, .int .i64 ((d.aH.ls.length:Nat):Int)),(24, .slice f d.aH.ls.length h),(1, .pointer (some ⟨s,0,none⟩))] _ _
 obtain⟨ai,fZ,ay⟩:=ax.1 cK
 refine sr (Kz (.bool (decide (((u:Nat):Int) < ((a.aI.ls.length:Nat):Int)))) (nt (xV ?_)))
 by_cases bG:((u:Nat):Int) < ((a.aI.ls.length:Nat):Int)
 obtain⟨O,aZ⟩:=fE (ls:=a.aI.ls) (i:=u) aW.len (by decide) (ai.ro (t _ (List.mem_of_getElem? K)).1) (by first | omega | (simp; done) | (simp; omega))
 have bf:=drop_at aZ
 refine jT (dT bG) (sk (xV (bo (sr (fw (.pointer (some ⟨ab a.aI.A,ao a.aI.A+u *6,none⟩)) (yh (rF) rfl rfl ((ai.ro (t _ (List.mem_of_getElem? K)).1).addr (i:=u) (by omega)) (by omega)) (fw (.agg (aW.cells O).toArray) (yl rfl (yD (cs:=(aW.cells O)) Tryz.isAgg74 Tryz.sizeOf74 ((ai.ro (t _ (List.mem_of_getElem? K)).1).elem aW.len aZ (by decide)))) ?_))))))
 refine dG [.int .i64 0, .string ⟨List.toArray ([])⟩, .string ⟨List.toArray ([])⟩, .string ⟨List.toArray ([])⟩, .string ⟨List.toArray ([])⟩, .int .i64 0] 74 ai ?_
 intro gT gU eG
 refine cZ (aW.cells O) 0 eG Tryz.sizeOf74 ?_
 intro gV bJ
 refine ns (La (aW.cells O) bJ 0 Tryz.isAgg74 Tryz.sizeOf74 ?_)
 obtain⟨aj,az⟩:∃ q,iU O=q:=⟨_,rfl⟩
 obtain⟨gX,cO,gm,df,gp⟩:=yc bJ
 refine cl Tryz.call84 (nu _ _ O aj cO az) ?_
 rintro _ gY ⟨rfl,dh,bg⟩
 have bK:=df _ _ dh
 replace bg: ¬ (aj=0)∨(1≤O.aT∧O.aT≤5):=bg
 refine fw (.bool (decide (¬ (aj=0)))) (yJ (e:= !(decide (aj=0))) yk decide_not.symm) (nt ?_)
 by_cases aJ:aj=0
 refine jF (dF (Ba aJ)) (yV (bN (yg (xS (fw (.int .i64 ((u+1:Nat):Int)) (ym (e:=IntKind.i64.wrap (((u:Nat):Int)+1)) yk (by rw [A8 _ (by omega)]; omega)) (Mz rfl (xY ?_)))))))
 have eH:=bK.pk [1,2]
 exact yE (u+1) ⟨rfl,rfl,rfl,rfl,rfl,rfl,rfl,rfl,rfl,rfl,rfl,rfl,rfl,rfl,rfl,rfl,rfl,rfl,rfl,rfl,rfl,rfl,rfl,rfl,rfl,rfl,rfl,rfl,rfl,rfl,rfl,rfl,rfl,rfl,rfl,rfl,trivial⟩ (ax.2 ⟨eH,by omega,et (ay) (et (congrArg (fun q=>eZ b q) bf) (et (ae az) (ip aJ)))⟩) (by show a.aI.ls.length - (u+1) < a.aI.ls.length - u; omega)
 refine jT (dT aJ) (sr (An rfl (rt (bR (tR (tR (bR (bR (tR (tR (bR (tR (rs ?_)))))))))))))
 have eO:=bK.pk []
 obtain rfl:_=false:=hr.symm.trans (et (iN o) (et (iN P) (gI (et (N) (et (congrArg (fun q=>bT d q b) S) (et (iN p) (et (ae X) (et (ip V) (mh (et (ay) (et (congrArg (fun q=>eZ b q) bf) (et (ae az) (iN aJ)))))))))))))
 exact⟨rfl,eO⟩
 refine jF (dF bG) (Wp.exit (xX ?_))
 have di:eZ b a.aI.ls=Sum.inl ():=et (ay) (et (congrArg (fun q=>eZ b q) (fG (ls:=a.aI.ls) (i:=u) (by omega))) rfl)
 refine xX (yx (bN (yg (xS (fw (.int .i64 ((b+1:Nat):Int)) (ym (e:=IntKind.i64.wrap (((b:Nat):Int)+1)) yk (by rw [A8 _ (by omega)]; omega)) (Mz rfl (xY ?_)))))))
 have eP:=ai.pk [1]
 exact yE (b+1) ⟨rfl,rfl,rfl,rfl,rfl,trivial⟩ (aD.2 ⟨eP,by omega,et (N) (et (congrArg (fun q=>bT d q b) S) (et (iN p) (et (ae X) (et (ip V) (nX di)))))⟩) (by show d.aH.ls.length - (b+1) < d.aH.ls.length - b; omega)
 refine jT (cn V) (sr (An rfl (rt (tR (bR (tR (tR (bR (tR (rs ?_))))))))))
 have eQ:=aI.pk []
 obtain rfl:_=false:=hr.symm.trans (et (iN o) (et (iN P) (gI (et (N) (et (congrArg (fun q=>bT d q b) S) (et (iN p) (et (ae X) (kG V))))))))
 exact⟨rfl,eQ⟩
 refine jF (dF dK) (Wp.exit (xX ?_))
 have Y:bT d d.aH.ls 0=Sum.inl ():=et (N) (et (congrArg (fun q=>bT d q b) (fG (ls:=d.aH.ls) (i:=b) (by omega))) rfl)
 refine xX (yx (yg (xV (sr (Kz (.pointer (some ⟨s,7,none⟩)) (Lz (.slice j d.ax.ls.length l) aM 0 Tryz.isAgg25 (Kz (.int .i64 ((d.ax.ls.length:Nat):Int)) (Mn rfl (bo ?_)))))))))
 have eT:=aM.pk [0]
 obtain⟨bL,dm⟩:∃ q:Nat→World→Prop,q=fun(i:Nat) w'=>Own w D w' [blk s (dL d r n f h j l) 31]∧(i≤d.ax.ls.length∧d9 d d.ax.ls 0=d9 d (List.drop i d.ax.ls) i):=⟨_,rfl⟩
 have Z:∀ {g:Nat} {w':World},bL g w'↔Own w D w' [blk s (dL d r n f h j l) 31]∧g≤d.ax.ls.length∧d9 d d.ax.ls 0=d9 d (List.drop g d.ax.ls) g:=by intros; subst dm; exact Iff.rfl
 refine Wp.loop (fun i:Nat=> [(2, .bool false),(67, .int .i64 ((i:Nat):Int)),(66, .int .i64 ((d.ax.ls.length:Nat):Int)),(65, .slice j d.ax.ls.length l),(1, .pointer (some ⟨s,0,none⟩))]) bL (fun i=>d.ax.ls.length - i) 0 ⟨rfl,rfl,rfl,rfl,rfl,trivial⟩ (Z.2 ⟨eT,by omega,rfl⟩) ?_
 rintro g gZ dn
 show Wp _ _ _ [(2, .bool false),(67, .int .i64 ((g:Nat):Int)),(66, .int .i64 ((d.ax.ls.length:Nat):Int)),(65, .slice j d.ax.ls.length l),(1, .pointer (some ⟨s,0,none⟩))] _ _
 obtain⟨z,gq,M⟩:=Z.1 dn
 refine sr (Kz (.bool (decide (((g:Nat):Int) < ((d.ax.ls.length:Nat):Int)))) (nt (xV ?_)))
 by_cases bM:((g:Nat):Int) < ((d.ax.ls.length:Nat):Int)
 obtain⟨C,bi⟩:=fE (ls:=d.ax.ls) (i:=g) gW (by decide) (z.ro B) (by first | omega | (simp; done) | (simp; omega))
 have T:=drop_at bi
 refine jT (dT bM) (sk (xV (bo (sr (Mz rfl (fw (.pointer (some ⟨ab j,ao j+g *1,none⟩)) (yh (jL) rfl rfl ((z.ro B).addr (i:=g) (by omega)) (by omega)) (fw (.int .u64 ((C:Nat):Int)) (yl rfl (bH.one Tryz.isAgg22 (((z.ro B).elem gW bi (by decide)).at_ (k:=0) rfl))) (Az rfl (Ar rfl (Mz rfl (Kz (.bool (decide (((g:Nat):Int) > 0))) (Mz rfl ?_))))))))))))
 by_cases m:((g:Nat):Int) > 0
 refine gw (.int .u64 ((C:Nat):Int)) (dT m) (yj rfl) (Gz (.pointer (some ⟨s,7,none⟩)) (dT m) (Gl (.slice j d.ax.ls.length l) (dT m) z 0 Tryz.isAgg25 (gw (.int .i64 ((g:Nat):Int)) (dT m) (yj rfl) (gw (.int .i64 ((g - 1:Nat):Int)) (dT m) (ym (e:=IntKind.i64.wrap (((g:Nat):Int) - 1)) yk (by rw [A8 _ (by omega)]; omega)) ?_))))
 obtain⟨aK,aa⟩:=fE (ls:=d.ax.ls) (i:=g - 1) gW (by decide) (z.ro B) (by first | omega | (simp; done) | (simp; omega))
 refine gw (.pointer (some ⟨ab j,ao j+(g - 1) *1,none⟩)) (dT m) (yh (jL) rfl rfl ((z.ro B).addr (i:=g - 1) (by omega)) (by omega)) (gw (.int .u64 ((aK:Nat):Int)) (dT m) (yl rfl (bH.one Tryz.isAgg22 (((z.ro B).elem gW aa (by decide)).at_ (k:=0) rfl))) (Gz (.bool (decide (((C:Nat):Int)≤((aK:Nat):Int)))) (dT m) (fw (.bool (decide (((C:Nat):Int)≤((aK:Nat):Int)))) (yw rfl (dT m) rfl) (Mz rfl ?_))))
 by_cases E:((C:Nat):Int)≤((aK:Nat):Int)
 refine Sz (dT E) (Sz (dT E) (Sz (dT E) (fw (.bool true) (yw rfl (dT E) rfl) (nt (jt (sr (An rfl (rt (bR (tR (tR (bR (tR (rs ?_))))))))))))))
 have eU:=z.pk []
 obtain rfl:_=false:=hr.symm.trans (et (iN o) (et (iN P) (et (j3 Y) (gI (et (M) (et (congrArg (fun q=>d9 d q g) T) (et (ip m) (et (ae (dV aa)) (ip E)))))))))
 exact⟨rfl,eU⟩
 refine Ga (dL d r n f h j l) (dF E) z 0 Tryz.isAgg31 Tryz.sizeOf31 (gw (.int .u64 ((C:Nat):Int)) (dF E) (yj rfl) ?_)
 obtain⟨bn,aA⟩:∃ q,kg d C=q:=⟨_,rfl⟩
 obtain⟨ib,dw,af,dx,gu⟩:=yc z
 refine nK (dF E) Tryz.call85 (mq _ _ d r d.ag.ls.length n f d.aH.ls.length h Q j d.ax.ls.length l C bn dw rfl (af _ aP) (show d.ag.ls.length≤n∧d.ag.ls.length≤9223372036854775807 from by omega) R rfl (af _ J) (show d.aH.ls.length≤h∧d.aH.ls.length≤9223372036854775807 from by omega) (fun x9 h9=>⟨af _ (t x9 h9).1,(t x9 h9).2⟩) rfl (af _ B) (show d.ax.ls.length≤l∧d.ax.ls.length≤9223372036854775807 from by omega) aA) ?_
 rintro _ ic ⟨rfl,dz⟩
 have bO:=dx _ _ dz
 refine fw (.bool bn) (xW rfl (dF E) rfl) (nt ?_)
 rcases Bb (bn) with ak | ak
 refine jT ak (sr (An rfl (rt (bR (tR (tR (bR (tR (rs ?_)))))))))
 have fe:=bO.pk []
 obtain rfl:_=false:=hr.symm.trans (et (iN o) (et (iN P) (et (j3 Y) (gI (et (M) (et (congrArg (fun q=>d9 d q g) T) (et (ip m) (et (ae (dV aa)) (et (iN E) (et (ae aA) (ip ak)))))))))))
 exact⟨rfl,fe⟩
 refine jF ak (yV (bN (yg (xS (fw (.int .i64 ((g+1:Nat):Int)) (ym (e:=IntKind.i64.wrap (((g:Nat):Int)+1)) yk (by rw [A8 _ (by omega)]; omega)) (Mz rfl (xY ?_)))))))
 have fo:=bO.pk [0]
 exact yE (g+1) ⟨rfl,rfl,rfl,rfl,rfl,trivial⟩ (Z.2 ⟨fo,by omega,et (M) (et (congrArg (fun q=>d9 d q g) T) (et (ip m) (et (ae (dV aa)) (et (iN E) (et (ae aA) (kG ak))))))⟩) (by show d.ax.ls.length - (g+1) < d.ax.ls.length - g; omega)
 refine Sz (dF m) (Sz (dF m) (Sz (dF m) (Sz (dF m) (Sz (dF m) (Sz (dF m) (Sz (dF m) (Sz (dF m) (fw (.bool false) (xW rfl (dF m) rfl) (Mz rfl (Ga (dL d r n f h j l) rfl z 0 Tryz.isAgg31 Tryz.sizeOf31 (gw (.int .u64 ((C:Nat):Int)) rfl (yj rfl) ?_)))))))))))
 obtain⟨bq,aB⟩:∃ q,kg d C=q:=⟨_,rfl⟩
 obtain⟨ig,dA,ag,dB,gy⟩:=yc z
 refine nK rfl Tryz.call85 (mq _ _ d r d.ag.ls.length n f d.aH.ls.length h Q j d.ax.ls.length l C bq dA rfl (ag _ aP) (show d.ag.ls.length≤n∧d.ag.ls.length≤9223372036854775807 from by omega) R rfl (ag _ J) (show d.aH.ls.length≤h∧d.aH.ls.length≤9223372036854775807 from by omega) (fun x9 h9=>⟨ag _ (t x9 h9).1,(t x9 h9).2⟩) rfl (ag _ B) (show d.ax.ls.length≤l∧d.ax.ls.length≤9223372036854775807 from by omega) aB) ?_
 rintro _ ik ⟨rfl,dD⟩
 have bQ:=dB _ _ dD
 refine fw (.bool bq) (xW rfl rfl rfl) (nt ?_)
 rcases Bb (bq) with au | au
 refine jT au (sr (An rfl (rt (bR (tR (tR (bR (tR (rs ?_)))))))))
 have fq:=bQ.pk []
 obtain rfl:_=false:=hr.symm.trans (et (iN o) (et (iN P) (et (j3 Y) (gI (et (M) (et (congrArg (fun q=>d9 d q g) T) (et (iN m) (et (ae aB) (ip au)))))))))
 exact⟨rfl,fq⟩
 refine jF au (yV (bN (yg (xS (fw (.int .i64 ((g+1:Nat):Int)) (ym (e:=IntKind.i64.wrap (((g:Nat):Int)+1)) yk (by rw [A8 _ (by omega)]; omega)) (Mz rfl (xY ?_)))))))
 have fu:=bQ.pk [0]
 exact yE (g+1) ⟨rfl,rfl,rfl,rfl,rfl,trivial⟩ (Z.2 ⟨fu,by omega,et (M) (et (congrArg (fun q=>d9 d q g) T) (et (iN m) (et (ae aB) (kG au))))⟩) (by show d.ax.ls.length - (g+1) < d.ax.ls.length - g; omega)
 refine jF (dF bM) (Wp.exit (xX ?_))
 have dE:d9 d d.ax.ls 0=Sum.inl ():=et (M) (et (congrArg (fun q=>d9 d q g) (fG (ls:=d.ax.ls) (i:=g) (by omega))) rfl)
 refine xX (yx (yg (sr (An rfl (rt (rs ?_))))))
 have fA:=z.pk []
 obtain rfl:_=true:=hr.symm.trans (et (iN o) (et (iN P) (et (j3 Y) (j3 dE))))
 exact⟨rfl,fA⟩
def ku (a:bP):Bool:=
 if((a.bg.bA:Nat):Int)=0 then if(((a.bg.bA:Nat):Int)=0)∧(((a.bg.bG:Nat):Int)=0)∧(((a.bg.dR:Nat):Int)=0)∧((a.bg.aR.aJ=([]))∧(a.bg.aR.aO=([]))) then if((a.dM:Nat):Int)=0 then if(a.bz.aJ=([]))∧(a.bz.aO=([])) then bnd (eT a.bg.aR) fun d=>if d=0 then bnd (eT a.bz) fun e=>decide (e=0) else false else false else bnd (eT a.bg.aR) fun f=>if f=0 then bnd (eT a.bz) fun g=>decide (g=0) else false else false else if((a.dM:Nat):Int)=0 then if(a.bz.aJ=([]))∧(a.bz.aO=([])) then bnd (eT a.bg.aR) fun h=>if h=0 then bnd (eT a.bz) fun i=>decide (i=0) else false else false else bnd (eT a.bg.aR) fun b=>if b=0 then bnd (eT a.bz) fun c=>decide (c=0) else false
set_option maxHeartbeats 1000000 in
theorem om (w:World) (D:Nat→Prop) (a:bP) (o:Option Addr) (Q p:Nat) (r:Option Addr) (R s:Nat) (C:List aL) (t:Option Addr) (S y:Nat) (r0:Bool) (H:Own w D w []) (W:Q=a.ag.ls.length) (bg:Ro w D fun w'=>bu w' 2 o a.ag.ls.length (List.flatMap aC.cells a.ag.ls)) (bi:a.ag.ls.length≤p∧a.ag.ls.length≤9223372036854775807) (X:List.map yS C=a.aH.ls) (Y:R=a.aH.ls.length) (bn:Ro w D fun w'=>bu w' 2 r a.aH.ls.length (List.flatMap aL.cells C)) (bq:a.aH.ls.length≤s∧a.aH.ls.length≤9223372036854775807) (bv:∀ x ∈ C,Ro w D (fun w'=>bu w' 6 x.aI.A x.aI.ls.length (List.flatMap aW.cells x.aI.ls))∧(x.aI.ls.length≤x.aI.c∧x.aI.ls.length≤9223372036854775807)) (Z:S=a.ax.ls.length) (bz:Ro w D fun w'=>bu w' 1 t a.ax.ls.length (List.flatMap (eN .u64) a.ax.ls)) (bA:a.ax.ls.length≤y∧a.ax.ls.length≤9223372036854775807) (dw:a.ag.ls.length≤140737488355328∧a.aH.ls.length≤140737488355328∧a.ax.ls.length≤140737488355328) (hr:ku a=r0):
    Calls Tryz.prog 41 #[.agg (bF a.iZ a.az a.bC a.aS a.bA o Q p r R s t S y a.iQ a.dM a.bz.aJ a.bz.aO a.bg.bA a.bg.bG a.bg.dR a.bg.aR.aJ a.bg.aR.aO).toArray] w (dC fun v w'=>v= .bool r0∧Own w D w' []):=by
 subst W Y Z
 have hdl0x1:=bV X
 refine xU (args:= [.agg (dL a o p r s t y).toArray]) Tryz.func41 rfl rfl rfl ?_
 show Wp _ _ _ [(0, .agg (dL a o p r s t y).toArray)] _ _
 refine sr ?_
 refine dG (dL a o p r s t y) 31 H ?_
 intro f dx h
 refine An rfl (xV (sr (Kz (.pointer (some ⟨f,12,none⟩)) (Kz (.pointer (some ⟨f,12,none⟩)) (Lz (.int .u64 ((a.bg.bA:Nat):Int)) h 0 Tryz.isAgg22 (Kz (.bool (decide (((a.bg.bA:Nat):Int)=0))) (Mz rfl ?_)))))))
 by_cases b:((a.bg.bA:Nat):Int)=0
 refine Gz (.pointer (some ⟨f,12,none⟩)) (dT b) (Ga (eU.cells a.bg) (dT b) h 0 Tryz.isAgg29 Tryz.sizeOf29 (Gz (.agg #[.int .u64 0, .int .u64 0, .int .u64 0, .string ⟨List.toArray ([])⟩, .string ⟨List.toArray ([])⟩]) (dT b) (gw (.bool (decide (¬ ((((a.bg.bA:Nat):Int)=0)∧(((a.bg.bG:Nat):Int)=0)∧(((a.bg.dR:Nat):Int)=0)∧((a.bg.aR.aJ=([]))∧(a.bg.aR.aO=([]))))))) (dT b) (yJ (e:= !(decide ((((a.bg.bA:Nat):Int)=0)∧(((a.bg.bG:Nat):Int)=0)∧(((a.bg.dR:Nat):Int)=0)∧((a.bg.aR.aJ=([]))∧(a.bg.aR.aO=([])))))) (zf rfl rfl (by kernel_rfl) rfl (fQ.struct Tryz.underlying29 (by kernel_rfl) (zg (fu.cons (u:= .int .u64 ((a.bg.bA:Nat):Int)) (v:= .int .u64 0) (by decide) (fun _=>by kernel_rfl) (fun _=>by kernel_rfl) ((fQ.int Tryz.underlying22).up (by decide)) (fu.cons (u:= .int .u64 ((a.bg.bG:Nat):Int)) (v:= .int .u64 0) (by decide) (fun _=>by kernel_rfl) (fun _=>by kernel_rfl) ((fQ.int Tryz.underlying22).up (by decide)) (fu.cons (u:= .int .u64 ((a.bg.dR:Nat):Int)) (v:= .int .u64 0) (by decide) (fun _=>by kernel_rfl) (fun _=>by kernel_rfl) ((fQ.int Tryz.underlying22).up (by decide)) (fu.cons (u:= .agg (bE.cells a.bg.aR).toArray) (v:= .agg #[.string ⟨List.toArray ([])⟩, .string ⟨List.toArray ([])⟩]) (by decide) (fun _=>by kernel_rfl) (fun _=>by kernel_rfl) (fQ.struct Tryz.underlying27 (by kernel_rfl) (zg (fu.cons (u:= .string ⟨List.toArray a.bg.aR.aJ⟩) (v:= .string ⟨List.toArray ([])⟩) (by decide) (fun _=>by kernel_rfl) (fun _=>by kernel_rfl) (fQ.string Tryz.underlying9) (fu.cons (u:= .string ⟨List.toArray a.bg.aR.aO⟩) (v:= .string ⟨List.toArray ([])⟩) (by decide) (fun _=>by kernel_rfl) (fun _=>by kernel_rfl) (fQ.string Tryz.underlying9) (fu.nil.up (A9 _)))) ((congrArg (decide (a.bg.aR.aJ=([])) && ·) jS).trans eY))) (fu.nil.up (A9 _)))))) ((congrArg (decide (((a.bg.bA:Nat):Int)=0) && ·) ((congrArg (decide (((a.bg.bG:Nat):Int)=0) && ·) ((congrArg (decide (((a.bg.dR:Nat):Int)=0) && ·) jS).trans eY)).trans eY)).trans eY)))) decide_not.symm) (fw (.bool (decide (¬ ((((a.bg.bA:Nat):Int)=0)∧(((a.bg.bG:Nat):Int)=0)∧(((a.bg.dR:Nat):Int)=0)∧((a.bg.aR.aJ=([]))∧(a.bg.aR.aO=([]))))))) (yw rfl (dT b) rfl) (Mz rfl ?_)))))
 by_cases d:(((a.bg.bA:Nat):Int)=0)∧(((a.bg.bG:Nat):Int)=0)∧(((a.bg.dR:Nat):Int)=0)∧((a.bg.aR.aJ=([]))∧(a.bg.aR.aO=([])))
 refine gw (.pointer (some ⟨f,9,none⟩)) (dF (Ba d)) yk (gw (.int .u64 ((a.dM:Nat):Int)) (dF (Ba d)) (yl rfl (bH.one Tryz.isAgg22 (yT (h.cls (i:=0) rfl) rfl))) (gw (.bool (decide (((a.dM:Nat):Int)=0))) (dF (Ba d)) yk (gw (.bool (decide (((a.dM:Nat):Int)=0))) (dF (Ba d)) (yj rfl) ?_)))
 by_cases j:((a.dM:Nat):Int)=0
 refine Gz (.pointer (some ⟨f,10,none⟩)) (dT j) (Ga (bE.cells a.bz) (dT j) h 0 Tryz.isAgg27 Tryz.sizeOf27 (Gz (.agg #[.string ⟨List.toArray ([])⟩, .string ⟨List.toArray ([])⟩]) (dT j) (gw (.bool (decide (¬ ((a.bz.aJ=([]))∧(a.bz.aO=([])))))) (dT j) (yJ (e:= !(decide ((a.bz.aJ=([]))∧(a.bz.aO=([]))))) (zf rfl rfl (by kernel_rfl) rfl (fQ.struct Tryz.underlying27 (by kernel_rfl) (zg (fu.cons (u:= .string ⟨List.toArray a.bz.aJ⟩) (v:= .string ⟨List.toArray ([])⟩) (by decide) (fun _=>by kernel_rfl) (fun _=>by kernel_rfl) (fQ.string Tryz.underlying9) (fu.cons (u:= .string ⟨List.toArray a.bz.aO⟩) (v:= .string ⟨List.toArray ([])⟩) (by decide) (fun _=>by kernel_rfl) (fun _=>by kernel_rfl) (fQ.string Tryz.underlying9) (fu.nil.up (A9 _)))) ((congrArg (decide (a.bz.aJ=([])) && ·) jS).trans eY)))) decide_not.symm) (gw (.bool (decide (¬ ((a.bz.aJ=([]))∧(a.bz.aO=([])))))) (dF (Ba d)) (yw rfl (dT j) rfl) (fw (.bool (decide (¬ ((a.bz.aJ=([]))∧(a.bz.aO=([])))))) (xW rfl (dF (Ba d)) rfl) (nt ?_))))))
 by_cases E:(a.bz.aJ=([]))∧(a.bz.aO=([]))
 refine jF (dF (Ba E)) (sk (sr (Kz (.pointer (some ⟨f,12,none⟩)) (Kz (.pointer (some ⟨f,15,none⟩)) (La (bE.cells a.bg.aR) h 0 Tryz.isAgg27 Tryz.sizeOf27 ?_)))))
 obtain⟨aa,F⟩:∃ q,eT a.bg.aR=q:=⟨_,rfl⟩
 obtain⟨dz,aA,bU,aB,bW⟩:=yc h
 refine cl Tryz.call86 (iE _ _ a.bg.aR aa aA F) ?_
 rintro _ dA ⟨rfl,aD⟩
 have af:=aB _ _ aD
 refine Kz (.bool (decide (aa=0))) (Mz rfl ?_)
 by_cases l:aa=0
 refine Gz (.pointer (some ⟨f,10,none⟩)) (dT l) (Ga (bE.cells a.bz) (dT l) af 0 Tryz.isAgg27 Tryz.sizeOf27 ?_)
 obtain⟨N,T⟩:∃ q,eT a.bz=q:=⟨_,rfl⟩
 obtain⟨dB,aF,bX,aG,bY⟩:=yc af
 refine nK (dT l) Tryz.call86 (iE _ _ a.bz N aF T) ?_
 rintro _ dD ⟨rfl,aH⟩
 have bB:=aG _ _ aH
 refine Gz (.bool (decide (N=0))) (dT l) (fw (.bool (decide (N=0))) (yw rfl (dT l) rfl) (An rfl (rt (rs ?_))))
 have bC:=bB.pk []
 obtain rfl:_=decide (N=0):=hr.symm.trans (et (ip b) (et (ip d) (et (ip j) (et (ip E) (et (ae F) (et (ip l) (ae T)))))))
 exact⟨rfl,bC⟩
 refine Sz (dF l) (Sz (dF l) (Sz (dF l) (Sz (dF l) (fw (.bool false) (xW rfl (dF l) rfl) (An rfl (rt (rs ?_)))))))
 have bD:=af.pk []
 obtain rfl:_=false:=hr.symm.trans (et (ip b) (et (ip d) (et (ip j) (et (ip E) (et (ae F) (iN l))))))
 exact⟨rfl,bD⟩
 refine jT (dT E) (sr (An rfl (rt (tR (rs ?_)))))
 have bG:=h.pk []
 obtain rfl:_=false:=hr.symm.trans (et (ip b) (et (ip d) (et (ip j) (iN E))))
 exact⟨rfl,bG⟩
 refine Sz (dF j) (Sz (dF j) (Sz (dF j) (Sz (dF j) (gw (.bool false) (dF (Ba d)) (xW rfl (dF j) rfl) (fw (.bool false) (xW rfl (dF (Ba d)) rfl) (nt (jf (sk (sr (Kz (.pointer (some ⟨f,12,none⟩)) (Kz (.pointer (some ⟨f,15,none⟩)) (La (bE.cells a.bg.aR) h 0 Tryz.isAgg27 Tryz.sizeOf27 ?_))))))))))))
 obtain⟨ag,G⟩:∃ q,eT a.bg.aR=q:=⟨_,rfl⟩
 obtain⟨dE,aI,bZ,aJ,cu⟩:=yc h
 refine cl Tryz.call86 (iE _ _ a.bg.aR ag aI G) ?_
 rintro _ dH ⟨rfl,aK⟩
 have ah:=aJ _ _ aK
 refine Kz (.bool (decide (ag=0))) (Mz rfl ?_)
 by_cases m:ag=0
 refine Gz (.pointer (some ⟨f,10,none⟩)) (dT m) (Ga (bE.cells a.bz) (dT m) ah 0 Tryz.isAgg27 Tryz.sizeOf27 ?_)
 obtain⟨O,U⟩:∃ q,eT a.bz=q:=⟨_,rfl⟩
 obtain⟨dI,aM,cz,aN,cB⟩:=yc ah
 refine nK (dT m) Tryz.call86 (iE _ _ a.bz O aM U) ?_
 rintro _ dJ ⟨rfl,aO⟩
 have bI:=aN _ _ aO
 refine Gz (.bool (decide (O=0))) (dT m) (fw (.bool (decide (O=0))) (yw rfl (dT m) rfl) (An rfl (rt (rs ?_))))
 have bJ:=bI.pk []
 obtain rfl:_=decide (O=0):=hr.symm.trans (et (ip b) (et (ip d) (et (iN j) (et (ae G) (et (ip m) (ae U))))))
 exact⟨rfl,bJ⟩
 refine Sz (dF m) (Sz (dF m) (Sz (dF m) (Sz (dF m) (fw (.bool false) (xW rfl (dF m) rfl) (An rfl (rt (rs ?_)))))))
 have bK:=ah.pk []
 obtain rfl:_=false:=hr.symm.trans (et (ip b) (et (ip d) (et (iN j) (et (ae G) (iN m)))))
 exact⟨rfl,bK⟩
 refine Sz (dT d) (Sz (dT d) (Sz (dT d) (Sz (dT d) (yK rfl rfl rfl (yK rfl rfl rfl (yK rfl rfl rfl (yK rfl rfl rfl (Sz (dT d) (fw (.bool true) (yw rfl (dT d) rfl) (nt (jt (sr (An rfl (rt (tR (rs ?_))))))))))))))))
 have bL:=h.pk []
 obtain rfl:_=false:=hr.symm.trans (et (ip b) (iN d))
 exact⟨rfl,bL⟩
 refine Sz (dF b) (Sz (dF b) (Sz (dF b) (Sz (dF b) (fw (.bool false) (xW rfl (dF b) rfl) (Mz rfl (Gz (.pointer (some ⟨f,9,none⟩)) rfl (Gl (.int .u64 ((a.dM:Nat):Int)) rfl h 0 Tryz.isAgg22 (Gz (.bool (decide (((a.dM:Nat):Int)=0))) rfl (gw (.bool (decide (((a.dM:Nat):Int)=0))) rfl (yj rfl) ?_)))))))))
 by_cases k:((a.dM:Nat):Int)=0
 refine Gz (.pointer (some ⟨f,10,none⟩)) (dT k) (Ga (bE.cells a.bz) (dT k) h 0 Tryz.isAgg27 Tryz.sizeOf27 (Gz (.agg #[.string ⟨List.toArray ([])⟩, .string ⟨List.toArray ([])⟩]) (dT k) (gw (.bool (decide (¬ ((a.bz.aJ=([]))∧(a.bz.aO=([])))))) (dT k) (yJ (e:= !(decide ((a.bz.aJ=([]))∧(a.bz.aO=([]))))) (zf rfl rfl (by kernel_rfl) rfl (fQ.struct Tryz.underlying27 (by kernel_rfl) (zg (fu.cons (u:= .string ⟨List.toArray a.bz.aJ⟩) (v:= .string ⟨List.toArray ([])⟩) (by decide) (fun _=>by kernel_rfl) (fun _=>by kernel_rfl) (fQ.string Tryz.underlying9) (fu.cons (u:= .string ⟨List.toArray a.bz.aO⟩) (v:= .string ⟨List.toArray ([])⟩) (by decide) (fun _=>by kernel_rfl) (fun _=>by kernel_rfl) (fQ.string Tryz.underlying9) (fu.nil.up (A9 _)))) ((congrArg (decide (a.bz.aJ=([])) && ·) jS).trans eY)))) decide_not.symm) (gw (.bool (decide (¬ ((a.bz.aJ=([]))∧(a.bz.aO=([])))))) rfl (yw rfl (dT k) rfl) (fw (.bool (decide (¬ ((a.bz.aJ=([]))∧(a.bz.aO=([])))))) (xW rfl rfl rfl) (nt ?_))))))
 by_cases I:(a.bz.aJ=([]))∧(a.bz.aO=([]))
 refine jF (dF (Ba I)) (sk (sr (Kz (.pointer (some ⟨f,12,none⟩)) (Kz (.pointer (some ⟨f,15,none⟩)) (La (bE.cells a.bg.aR) h 0 Tryz.isAgg27 Tryz.sizeOf27 ?_)))))
 obtain⟨ai,J⟩:∃ q,eT a.bg.aR=q:=⟨_,rfl⟩
 obtain⟨dK,aP,cK,aQ,cO⟩:=yc h
 refine cl Tryz.call86 (iE _ _ a.bg.aR ai aP J) ?_
 rintro _ dM ⟨rfl,aR⟩
 have aj:=aQ _ _ aR
 refine Kz (.bool (decide (ai=0))) (Mz rfl ?_)
 by_cases n:ai=0
 refine Gz (.pointer (some ⟨f,10,none⟩)) (dT n) (Ga (bE.cells a.bz) (dT n) aj 0 Tryz.isAgg27 Tryz.sizeOf27 ?_)
 obtain⟨P,V⟩:∃ q,eT a.bz=q:=⟨_,rfl⟩
 obtain⟨dN,aS,cZ,aT,df⟩:=yc aj
 refine nK (dT n) Tryz.call86 (iE _ _ a.bz P aS V) ?_
 rintro _ dO ⟨rfl,aU⟩
 have bM:=aT _ _ aU
 refine Gz (.bool (decide (P=0))) (dT n) (fw (.bool (decide (P=0))) (yw rfl (dT n) rfl) (An rfl (rt (rs ?_))))
 have bN:=bM.pk []
 obtain rfl:_=decide (P=0):=hr.symm.trans (et (iN b) (et (ip k) (et (ip I) (et (ae J) (et (ip n) (ae V))))))
 exact⟨rfl,bN⟩
 refine Sz (dF n) (Sz (dF n) (Sz (dF n) (Sz (dF n) (fw (.bool false) (xW rfl (dF n) rfl) (An rfl (rt (rs ?_)))))))
 have aV:=aj.pk []
 obtain rfl:_=false:=hr.symm.trans (et (iN b) (et (ip k) (et (ip I) (et (ae J) (iN n)))))
 exact⟨rfl,aV⟩
 refine jT (dT I) (sr (An rfl (rt (tR (rs ?_)))))
 have aX:=h.pk []
 obtain rfl:_=false:=hr.symm.trans (et (iN b) (et (ip k) (iN I)))
 exact⟨rfl,aX⟩
 refine Sz (dF k) (Sz (dF k) (Sz (dF k) (Sz (dF k) (gw (.bool false) rfl (xW rfl (dF k) rfl) (fw (.bool false) (xW rfl rfl rfl) (nt (jf (sk (sr (Kz (.pointer (some ⟨f,12,none⟩)) (Kz (.pointer (some ⟨f,15,none⟩)) (La (bE.cells a.bg.aR) h 0 Tryz.isAgg27 Tryz.sizeOf27 ?_))))))))))))
 obtain⟨K,z⟩:∃ q,eT a.bg.aR=q:=⟨_,rfl⟩
 obtain⟨dh,ak,bO,au,bQ⟩:=yc h
 refine cl Tryz.call86 (iE _ _ a.bg.aR K ak z) ?_
 rintro _ di ⟨rfl,av⟩
 have L:=au _ _ av
 refine Kz (.bool (decide (K=0))) (Mz rfl ?_)
 by_cases g:K=0
 refine Gz (.pointer (some ⟨f,10,none⟩)) (dT g) (Ga (bE.cells a.bz) (dT g) L 0 Tryz.isAgg27 Tryz.sizeOf27 ?_)
 obtain⟨B,M⟩:∃ q,eT a.bz=q:=⟨_,rfl⟩
 obtain⟨dm,ax,bR,ay,bS⟩:=yc L
 refine nK (dT g) Tryz.call86 (iE _ _ a.bz B ax M) ?_
 rintro _ dn ⟨rfl,az⟩
 have aY:=ay _ _ az
 refine Gz (.bool (decide (B=0))) (dT g) (fw (.bool (decide (B=0))) (yw rfl (dT g) rfl) (An rfl (rt (rs ?_))))
 have aZ:=aY.pk []
 obtain rfl:_=decide (B=0):=hr.symm.trans (et (iN b) (et (iN k) (et (ae z) (et (ip g) (ae M)))))
 exact⟨rfl,aZ⟩
 refine Sz (dF g) (Sz (dF g) (Sz (dF g) (Sz (dF g) (fw (.bool false) (xW rfl (dF g) rfl) (An rfl (rt (rs ?_)))))))
 have bf:=L.pk []
 obtain rfl:_=false:=hr.symm.trans (et (iN b) (et (iN k) (et (ae z) (iN g))))
 exact⟨rfl,bf⟩
def bS (a:Bool):Int:=
 if a=true then 0 else 1
theorem gp (w:World) (D:Nat→Prop) (b:Bool) (e:Int) (H:Own w D w []) (hr:bS b=e):
    Calls Tryz.prog 37 #[.bool b] w (dC fun v w'=>v= .int .i64 e∧Own w D w' []):=by
 refine xU (args:= [.bool b]) Tryz.func37 rfl rfl rfl ?_
 show Wp _ _ _ [(0, .bool b)] _ _
 refine sr (An rfl (xV (sr (Mz rfl (Kz (.bool (!b)) (nt ?_))))))
 rcases Bb (b) with a | a
 refine jF (cn a) (sk (sr (An rfl (rt (rs ?_)))))
 have c:Own w D w []:=H.pk []
 obtain rfl:_=0:=hr.symm.trans (ip a)
 exact⟨rfl,c⟩
 refine jT (cn a) (sr (An rfl (rt (tR (rs ?_)))))
 have d:Own w D w []:=H.pk []
 obtain rfl:_=1:=hr.symm.trans (kG a)
 exact⟨rfl,d⟩
def bi (i:bP):Int:=
 bnd (cu i.iZ 4) fun b=>if b=true then bnd (ic i.ag.ls) fun c=>if c=0 then bnd (jN i) fun d=>if d=true then bnd (ku i) fun e=>bnd (bS e) fun f=>f else bnd (bS false) fun g=>g else bnd (bS false) fun h=>h else bnd (bS false) fun a=>a
set_option maxHeartbeats 1000000 in
theorem kR (w:World) (D:Nat→Prop) (a:bP) (d:Option Addr) (F b:Nat) (h:Option Addr) (G e:Nat) (m:List aL) (i:Option Addr) (I f:Nat) (r0:Int) (H:Own w D w []) (O:F=a.ag.ls.length) (o:Ro w D fun w'=>bu w' 2 d a.ag.ls.length (List.flatMap aC.cells a.ag.ls)) (aV:a.ag.ls.length≤b∧a.ag.ls.length≤9223372036854775807) (p:List.map yS m=a.aH.ls) (P:G=a.aH.ls.length) (u:Ro w D fun w'=>bu w' 2 h a.aH.ls.length (List.flatMap aL.cells m)) (aX:a.aH.ls.length≤e∧a.aH.ls.length≤9223372036854775807) (j:∀ x ∈ m,Ro w D (fun w'=>bu w' 6 x.aI.A x.aI.ls.length (List.flatMap aW.cells x.aI.ls))∧(x.aI.ls.length≤x.aI.c∧x.aI.ls.length≤9223372036854775807)) (Q:I=a.ax.ls.length) (y:Ro w D fun w'=>bu w' 1 i a.ax.ls.length (List.flatMap (eN .u64) a.ax.ls)) (aY:a.ax.ls.length≤f∧a.ax.ls.length≤9223372036854775807) (bT:a.ag.ls.length≤140737488355328∧a.aH.ls.length≤140737488355328∧a.ax.ls.length≤140737488355328) (hr:bi a=r0):
    Calls Tryz.prog 11 #[.agg (bF a.iZ a.az a.bC a.aS a.bA d F b h G e i I f a.iQ a.dM a.bz.aJ a.bz.aO a.bg.bA a.bg.bG a.bg.dR a.bg.aR.aJ a.bg.aR.aO).toArray] w (dC fun v w'=>v= .int .i64 r0∧Own w D w' []):=by
 subst O P Q
 have hdl0x1:=bV p
 refine xU (args:= [.agg (dL a d b h e i f).toArray]) Tryz.func11 rfl rfl rfl ?_
 show Wp _ _ _ [(0, .agg (dL a d b h e i f).toArray)] _ _
 refine sr ?_
 refine dG (dL a d b h e i f) 31 H ?_
 intro Y bU Z
 refine Ar rfl (Kz (.pointer (some ⟨Y,0,none⟩)) (Lz (.int .i64 a.iZ) Z 0 Tryz.isAgg3 ?_))
 obtain⟨aa,n⟩:∃ q,cu a.iZ 4=q:=⟨_,rfl⟩
 obtain⟨bW,af,bD,ag,bE⟩:=yc Z
 refine cl Tryz.call38 (gP _ _ a.iZ 4 aa af n) ?_
 rintro _ bX ⟨rfl,ah⟩
 have R:=ag _ _ ah
 refine Mz rfl ?_
 rcases Bb (aa) with g | g
 refine Gz (.pointer (some ⟨Y,5,none⟩)) g (Gl (.slice d a.ag.ls.length b) g R 0 Tryz.isAgg23 ?_)
 obtain⟨C,r⟩:∃ q,ic a.ag.ls=q:=⟨_,rfl⟩
 obtain⟨bY,ai,aj,ak,bG⟩:=yc R
 refine zm rfl rfl g rfl (yC Tryz.call39 rfl (mI _ _ d a.ag.ls.length b a.ag.ls C ai (aj _ o) rfl (by omega) r) ?_)
 rintro _ bZ ⟨rfl,au⟩
 have S:=ak _ _ au
 refine Gz (.bool (decide (C=0))) g (fw (.bool (decide (C=0))) (yw rfl g rfl) (Mz rfl ?_))
 by_cases k:C=0
 refine Ga (dL a d b h e i f) (dT k) S 0 Tryz.isAgg31 Tryz.sizeOf31 ?_
 obtain⟨T,z⟩:∃ q,jN a=q:=⟨_,rfl⟩
 obtain⟨cz,av,s,ax,bH⟩:=yc S
 refine nK (decide_eq_true k) Tryz.call40 (ol _ _ a d a.ag.ls.length b h a.aH.ls.length e m i a.ax.ls.length f T av rfl (s _ o) (show a.ag.ls.length≤b∧a.ag.ls.length≤9223372036854775807 from by omega) p rfl (s _ u) (show a.aH.ls.length≤e∧a.aH.ls.length≤9223372036854775807 from by omega) (fun x9 h9=>⟨s _ (j x9 h9).1,(j x9 h9).2⟩) rfl (s _ y) (show a.ax.ls.length≤f∧a.ax.ls.length≤9223372036854775807 from by omega) (by first | omega | (dsimp only; omega) | (simp only [List.length_nil]; omega) | decide) z) ?_
 rintro _ cB ⟨rfl,aA⟩
 have U:=ax _ _ aA
 refine fw (.bool T) (yw rfl (dT k) rfl) (Mz rfl ?_)
 rcases Bb (T) with l | l
 refine Ga (dL a d b h e i f) l U 0 Tryz.isAgg31 Tryz.sizeOf31 ?_
 obtain⟨E,J⟩:∃ q,ku a=q:=⟨_,rfl⟩
 obtain⟨cK,aB,t,aD,bI⟩:=yc U
 refine zm rfl rfl l rfl (yC Tryz.call41 rfl (om _ _ a d a.ag.ls.length b h a.aH.ls.length e m i a.ax.ls.length f E aB rfl (t _ o) (show a.ag.ls.length≤b∧a.ag.ls.length≤9223372036854775807 from by omega) p rfl (t _ u) (show a.aH.ls.length≤e∧a.aH.ls.length≤9223372036854775807 from by omega) (fun x9 h9=>⟨t _ (j x9 h9).1,(j x9 h9).2⟩) rfl (t _ y) (show a.ax.ls.length≤f∧a.ax.ls.length≤9223372036854775807 from by omega) (by first | omega | (dsimp only; omega) | (simp only [List.length_nil]; omega) | decide) J) ?_)
 rintro _ cO ⟨rfl,aF⟩
 have aZ:=aD _ _ aF
 refine fw (.bool E) (yw rfl l rfl) ?_
 obtain⟨aG,K⟩:∃ q,bS E=q:=⟨_,rfl⟩
 obtain⟨cZ,aH,bJ,aI,bK⟩:=yc aZ
 refine cl Tryz.call37 (gp _ _ E aG aH K) ?_
 rintro _ df ⟨rfl,aJ⟩
 have bf:=aI _ _ aJ
 refine An rfl (rt (rs ?_))
 have bg:=bf.pk []
 obtain rfl:_=aG:=hr.symm.trans (et (ae n) (et (ip g) (et (ae r) (et (ip k) (et (ae z) (et (ip l) (et (ae J) (ae K))))))))
 exact⟨rfl,bg⟩
 refine Sz l (Sz l (fw (.bool false) (xW rfl l rfl) ?_))
 obtain⟨aK,L⟩:∃ q,bS false=q:=⟨_,rfl⟩
 obtain⟨dh,aM,bL,aN,bM⟩:=yc U
 refine cl Tryz.call37 (gp _ _ false aK aM L) ?_
 rintro _ di ⟨rfl,aO⟩
 have bn:=aN _ _ aO
 refine An rfl (rt (rs ?_))
 have bq:=bn.pk []
 obtain rfl:_=aK:=hr.symm.trans (et (ae n) (et (ip g) (et (ae r) (et (ip k) (et (ae z) (et (kG l) (ae L)))))))
 exact⟨rfl,bq⟩
 refine Sz (dF k) (Sz (dF k) (fw (.bool false) (xW rfl (dF k) rfl) (Mz rfl (Sz rfl (Sz rfl (fw (.bool false) (xW rfl rfl rfl) ?_))))))
 obtain⟨aP,M⟩:∃ q,bS false=q:=⟨_,rfl⟩
 obtain⟨dm,aQ,bN,aR,bO⟩:=yc S
 refine cl Tryz.call37 (gp _ _ false aP aQ M) ?_
 rintro _ dn ⟨rfl,aS⟩
 have bv:=aR _ _ aS
 refine An rfl (rt (rs ?_))
 have bz:=bv.pk []
 obtain rfl:_=aP:=hr.symm.trans (et (ae n) (et (ip g) (et (ae r) (et (iN k) (ae M)))))
 exact⟨rfl,bz⟩
 refine Sz g (Sz g (Sz g (Sz g (fw (.bool false) (xW rfl g rfl) (Mz rfl (Sz rfl (Sz rfl (fw (.bool false) (xW rfl rfl rfl) (Mz rfl (Sz rfl (Sz rfl (fw (.bool false) (xW rfl rfl rfl) ?_))))))))))))
 obtain⟨N,B⟩:∃ q,bS false=q:=⟨_,rfl⟩
 obtain⟨bQ,V,bA,W,bB⟩:=yc R
 refine cl Tryz.call37 (gp _ _ false N V B) ?_
 rintro _ bR ⟨rfl,X⟩
 have aT:=W _ _ X
 refine An rfl (rt (rs ?_))
 have aU:=aT.pk []
 obtain rfl:_=N:=hr.symm.trans (et (ae n) (et (kG g) (ae B)))
 exact⟨rfl,aU⟩
def fB (c:bL):List aC→Unit ⊕ Bool
  | []=>Sum.inl ()
  | a::b=>if a.gm > c.af then Sum.inr (false) else fB c b
def jy (b:bL):Bool:=
 bnd (ic b.ag.ls) fun a=>if a=0 then lp (fB b b.ag.ls) fun _=>true else false
set_option maxHeartbeats 1000000 in
theorem nz (w:World) (D:Nat→Prop) (a:bL) (b:Option Addr) (E d:Nat) (g:Option Addr) (F h:Nat) (p:List au) (j:Option Addr) (G k:Nat) (r:List aM) (r0:Bool) (H:Own w D w []) (K:E=a.ag.ls.length) (l:Ro w D fun w'=>bu w' 2 b a.ag.ls.length (List.flatMap aC.cells a.ag.ls)) (af:a.ag.ls.length≤d∧a.ag.ls.length≤9223372036854775807) (L:List.map yz p=a.ak.ls) (M:F=a.ak.ls.length) (ag:Ro w D fun w'=>bu w' 5 g a.ak.ls.length (List.flatMap au.cells p)) (ah:a.ak.ls.length≤h∧a.ak.ls.length≤9223372036854775807) (ai:∀ x ∈ p,Ro w D (fun w'=>bu w' 1 x.af.A x.af.ls.length (List.flatMap (eI .i64) x.af.ls))∧(x.af.ls.length≤x.af.c∧x.af.ls.length≤9223372036854775807)) (N:List.map yG r=a.aP.ls) (O:G=a.aP.ls.length) (aj:Ro w D fun w'=>bu w' 4 j a.aP.ls.length (List.flatMap aM.cells r)) (ak:a.aP.ls.length≤k∧a.aP.ls.length≤9223372036854775807) (av:∀ x ∈ r,Ro w D (fun w'=>bu w' 3 x.ah.A x.ah.ls.length (List.flatMap aA.cells x.ah.ls))∧(x.ah.ls.length≤x.ah.c∧x.ah.ls.length≤9223372036854775807)∧(∀ Q ∈ x.ah.ls,Ro w D (fun w'=>bu w' 2 Q.ay.A Q.ay.ls.length (List.flatMap bB.cells Q.ay.ls))∧(Q.ay.ls.length≤Q.ay.c∧Q.ay.ls.length≤9223372036854775807))) (aK:a.ag.ls.length≤140737488355328∧a.ak.ls.length≤140737488355328∧a.aP.ls.length≤140737488355328) (hr:jy a=r0):
    Calls Tryz.prog 45 #[.agg #[.int .i64 a.af, .int .u64 ((a.az:Nat):Int), .int .u64 ((a.bC:Nat):Int), .int .u64 ((a.aS:Nat):Int), .slice b E d, .slice g F h, .slice j G k]] w (dC fun v w'=>v= .bool r0∧Own w D w' []):=by
 subst K M O
 have hdl0x1:=bV L
 have hdl0x2:=bV N
 refine xU (args:= [.agg #[.int .i64 a.af, .int .u64 ((a.az:Nat):Int), .int .u64 ((a.bC:Nat):Int), .int .u64 ((a.aS:Nat):Int), .slice b a.ag.ls.length d, .slice g a.ak.ls.length h, .slice j a.aP.ls.length k]]) Tryz.func45 rfl rfl rfl ?_
 show Wp _ _ _ [(0, .agg #[.int .i64 a.af, .int .u64 ((a.az:Nat):Int), .int .u64 ((a.bC:Nat):Int), .int .u64 ((a.aS:Nat):Int), .slice b a.ag.ls.length d, .slice g a.ak.ls.length h, .slice j a.aP.ls.length k])] _ _
 refine sr ?_
 refine dG [.int .i64 a.af, .int .u64 ((a.az:Nat):Int), .int .u64 ((a.bC:Nat):Int), .int .u64 ((a.aS:Nat):Int), .slice b a.ag.ls.length d, .slice g a.ak.ls.length h, .slice j a.aP.ls.length k] 35 H ?_
 intro m aL R
 refine An rfl (xV (sr (Kz (.pointer (some ⟨m,4,none⟩)) (Lz (.slice b a.ag.ls.length d) R 0 Tryz.isAgg23 ?_))))
 obtain⟨z,n⟩:∃ q,ic a.ag.ls=q:=⟨_,rfl⟩
 obtain⟨aN,S,T,U,aI⟩:=yc R
 refine cl Tryz.call39 (mI _ _ b a.ag.ls.length d a.ag.ls z S (T _ l) rfl (by omega) n) ?_
 rintro _ aO ⟨rfl,V⟩
 have P:=U _ _ V
 refine fw (.bool (decide (¬ (z=0)))) (yJ (e:= !(decide (z=0))) yk decide_not.symm) (nt ?_)
 by_cases s:z=0
 refine jF (dF (Ba s)) (sk (xV (sr (Kz (.pointer (some ⟨m,4,none⟩)) (Lz (.slice b a.ag.ls.length d) P 0 Tryz.isAgg23 (Kz (.int .i64 ((a.ag.ls.length:Nat):Int)) (Mn rfl (bo ?_))))))))
 have ax:=P.pk [0]
 obtain⟨W,X⟩:∃ q:Nat→World→Prop,q=fun(i:Nat) w'=>Own w D w' [blk m [.int .i64 a.af, .int .u64 ((a.az:Nat):Int), .int .u64 ((a.bC:Nat):Int), .int .u64 ((a.aS:Nat):Int), .slice b a.ag.ls.length d, .slice g a.ak.ls.length h, .slice j a.aP.ls.length k] 35]∧(i≤a.ag.ls.length∧fB a a.ag.ls=fB a (List.drop i a.ag.ls)):=⟨_,rfl⟩
 have t:∀ {f:Nat} {w':World},W f w'↔Own w D w' [blk m [.int .i64 a.af, .int .u64 ((a.az:Nat):Int), .int .u64 ((a.bC:Nat):Int), .int .u64 ((a.aS:Nat):Int), .slice b a.ag.ls.length d, .slice g a.ak.ls.length h, .slice j a.aP.ls.length k] 35]∧f≤a.ag.ls.length∧fB a a.ag.ls=fB a (List.drop f a.ag.ls):=by intros; subst X; exact Iff.rfl
 refine Wp.loop (fun i:Nat=> [(2, .bool false),(12, .int .i64 ((i:Nat):Int)),(11, .int .i64 ((a.ag.ls.length:Nat):Int)),(10, .slice b a.ag.ls.length d),(1, .pointer (some ⟨m,0,none⟩))]) W (fun i=>a.ag.ls.length - i) 0 ⟨rfl,rfl,rfl,rfl,rfl,trivial⟩ (t.2 ⟨ax,by omega,rfl⟩) ?_
 rintro f aP Y
 show Wp _ _ _ [(2, .bool false),(12, .int .i64 ((f:Nat):Int)),(11, .int .i64 ((a.ag.ls.length:Nat):Int)),(10, .slice b a.ag.ls.length d),(1, .pointer (some ⟨m,0,none⟩))] _ _
 obtain⟨u,aJ,y⟩:=t.1 Y
 refine sr (Kz (.bool (decide (((f:Nat):Int) < ((a.ag.ls.length:Nat):Int)))) (nt (xV ?_)))
 by_cases Z:((f:Nat):Int) < ((a.ag.ls.length:Nat):Int)
 obtain⟨o,I⟩:=fE (ls:=a.ag.ls) (i:=f) aC.len (by decide) (u.ro l) (by first | omega | (simp; done) | (simp; omega))
 have J:=drop_at I
 refine jT (dT Z) (sk (xV (bo (sr (fw (.pointer (some ⟨ab b,ao b+f *2,none⟩)) (yh (mX) rfl rfl ((u.ro l).addr (i:=f) (by omega)) (by omega)) (fw (.agg (aC.cells o).toArray) (yl rfl (yD (cs:=(aC.cells o)) Tryz.isAgg54 Tryz.sizeOf54 ((u.ro l).elem aC.len I (by decide)))) ?_))))))
 refine dG [.string ⟨List.toArray ([])⟩, .int .i64 0] 54 u ?_
 intro ay aQ az
 refine cZ (aC.cells o) 0 az Tryz.sizeOf54 ?_
 intro aR B
 refine ns (Kz (.pointer (some ⟨ay,1,none⟩)) (Lz (.int .i64 o.gm) B 0 Tryz.isAgg3 (Kz (.pointer (some ⟨m,0,none⟩)) (Lz (.int .i64 a.af) B 1 Tryz.isAgg3 (Kz (.bool (decide (o.gm > a.af))) (nt ?_))))))
 by_cases C:o.gm > a.af
 refine jT (dT C) (sr (An rfl (rt (bR (tR (tR (bR (tR (rs ?_)))))))))
 have aB:=B.pk []
 obtain rfl:_=false:=hr.symm.trans (et (ae n) (et (ip s) (gI (et (y) (et (congrArg (fun q=>fB a q) J) (ip C))))))
 exact⟨rfl,aB⟩
 refine jF (dF C) (yV (bN (yg (xS (fw (.int .i64 ((f+1:Nat):Int)) (ym (e:=IntKind.i64.wrap (((f:Nat):Int)+1)) yk (by rw [A8 _ (by omega)]; omega)) (Mz rfl (xY ?_)))))))
 have aD:=B.pk [1]
 exact yE (f+1) ⟨rfl,rfl,rfl,rfl,rfl,trivial⟩ (t.2 ⟨aD,by omega,et (y) (et (congrArg (fun q=>fB a q) J) (iN C))⟩) (by show a.ag.ls.length - (f+1) < a.ag.ls.length - f; omega)
 refine jF (dF Z) (Wp.exit (xX ?_))
 have aa:fB a a.ag.ls=Sum.inl ():=et (y) (et (congrArg (fun q=>fB a q) (fG (ls:=a.ag.ls) (i:=f) (by omega))) rfl)
 refine xX (yx (yg (sr (An rfl (rt (rs ?_))))))
 have aF:=u.pk []
 obtain rfl:_=true:=hr.symm.trans (et (ae n) (et (ip s) (j3 aa)))
 exact⟨rfl,aF⟩
 refine jT (dT s) (sr (An rfl (rt (tR (rs ?_)))))
 have aG:=P.pk []
 obtain rfl:_=false:=hr.symm.trans (et (ae n) (iN s))
 exact⟨rfl,aG⟩
def aZ (h:bL) (d:Nat) (b:bJ):List Int→Nat→Unit ⊕ Bool
  | [],a=>Sum.inl ()
  | e::f,a=>bnd (cu e h.af) fun g=>if g=true then if((a:Nat):Int) > 0 then bnd (List.getD b.af.ls (a - 1) default) fun c=>if e≤c then Sum.inr (false) else aZ h d b f (a+1) else aZ h d b f (a+1) else Sum.inr (false)
def dw (h:bL) (g:Nat) (d:bJ):List Int→Nat→Unit ⊕ Bool
  | [],a=>Sum.inl ()
  | b::c,a=>bnd (cu b h.af) fun e=>if e=true then if((a:Nat):Int) > 0 then bnd (List.getD d.af.ls (a - 1) default) fun f=>if b≤f then Sum.inr (false) else dw h g d c (a+1) else dw h g d c (a+1) else Sum.inr (false)
def bf (c:bL):List bJ→Nat→Unit ⊕ Bool
  | [],b=>Sum.inl ()
  | a::e,b=>if((b:Nat):Int) > 0 then bnd (List.getD c.ak.ls (b - 1) default) fun f=>if((a.aV:Nat):Int)≤((f.aV:Nat):Int) then Sum.inr (false) else if((a.aV:Nat):Int) ≥ ((fq (Int.toNat (IntKind.u64.wrap (((c.az:Nat):Int)+1))) 32:Nat):Int) then Sum.inr (false) else bnd (cu a.aG 4) fun g=>if g=true then if((a.af.ls.length:Nat):Int)=0 then Sum.inr (false) else kN (aZ c b a a.af.ls 0) fun _=>bf c e (b+1) else Sum.inr (false) else if((a.aV:Nat):Int) ≥ ((fq (Int.toNat (IntKind.u64.wrap (((c.az:Nat):Int)+1))) 32:Nat):Int) then Sum.inr (false) else bnd (cu a.aG 4) fun d=>if d=true then if((a.af.ls.length:Nat):Int)=0 then Sum.inr (false) else kN (dw c b a a.af.ls 0) fun _=>bf c e (b+1) else Sum.inr (false)
def jr (a:bL):Bool:=
 if((a.ak.ls.length:Nat):Int) > 8 then false else lp (bf a a.ak.ls 0) fun _=>true
set_option maxHeartbeats 1000000 in
theorem mY (w:World) (D:Nat→Prop) (d:bL) (E:Option Addr) (aY F:Nat) (f:Option Addr) (bg l:Nat) (ai:List au) (G:Option Addr) (bi I:Nat) (aR:List aM) (r0:Bool) (H:Own w D w []) (bz:aY=d.ag.ls.length) (dU:Ro w D fun w'=>bu w' 2 E d.ag.ls.length (List.flatMap aC.cells d.ag.ls)) (dW:d.ag.ls.length≤F∧d.ag.ls.length≤9223372036854775807) (aF:List.map yz ai=d.ak.ls) (bA:bg=d.ak.ls.length) (S:Ro w D fun w'=>bu w' 5 f d.ak.ls.length (List.flatMap au.cells ai)) (dX:d.ak.ls.length≤l∧d.ak.ls.length≤9223372036854775807) (p:∀ x ∈ ai,Ro w D (fun w'=>bu w' 1 x.af.A x.af.ls.length (List.flatMap (eI .i64) x.af.ls))∧(x.af.ls.length≤x.af.c∧x.af.ls.length≤9223372036854775807)) (bC:List.map yG aR=d.aP.ls) (bD:bi=d.aP.ls.length) (dY:Ro w D fun w'=>bu w' 4 G d.aP.ls.length (List.flatMap aM.cells aR)) (dZ:d.aP.ls.length≤I∧d.aP.ls.length≤9223372036854775807) (d9:∀ x ∈ aR,Ro w D (fun w'=>bu w' 3 x.ah.A x.ah.ls.length (List.flatMap aA.cells x.ah.ls))∧(x.ah.ls.length≤x.ah.c∧x.ah.ls.length≤9223372036854775807)∧(∀ y1 ∈ x.ah.ls,Ro w D (fun w'=>bu w' 2 y1.ay.A y1.ay.ls.length (List.flatMap bB.cells y1.ay.ls))∧(y1.ay.ls.length≤y1.ay.c∧y1.ay.ls.length≤9223372036854775807))) (fT:d.ag.ls.length≤140737488355328∧d.ak.ls.length≤140737488355328∧d.aP.ls.length≤140737488355328) (hr:jr d=r0):
    Calls Tryz.prog 46 #[.agg #[.int .i64 d.af, .int .u64 ((d.az:Nat):Int), .int .u64 ((d.bC:Nat):Int), .int .u64 ((d.aS:Nat):Int), .slice E aY F, .slice f bg l, .slice G bi I]] w (dC fun v w'=>v= .bool r0∧Own w D w' []):=by
 subst bz bA bD
 have hdl0x1:=bV aF
 have hdl0x2:=bV bC
 refine xU (args:= [.agg #[.int .i64 d.af, .int .u64 ((d.az:Nat):Int), .int .u64 ((d.bC:Nat):Int), .int .u64 ((d.aS:Nat):Int), .slice E d.ag.ls.length F, .slice f d.ak.ls.length l, .slice G d.aP.ls.length I]]) Tryz.func46 rfl rfl rfl ?_
 show Wp _ _ _ [(0, .agg #[.int .i64 d.af, .int .u64 ((d.az:Nat):Int), .int .u64 ((d.bC:Nat):Int), .int .u64 ((d.aS:Nat):Int), .slice E d.ag.ls.length F, .slice f d.ak.ls.length l, .slice G d.aP.ls.length I])] _ _
 refine sr ?_
 refine dG [.int .i64 d.af, .int .u64 ((d.az:Nat):Int), .int .u64 ((d.bC:Nat):Int), .int .u64 ((d.aS:Nat):Int), .slice E d.ag.ls.length F, .slice f d.ak.ls.length l, .slice G d.aP.ls.length I] 35 H ?_
 intro r fU aX
 refine An rfl (xV (sr (Kz (.pointer (some ⟨r,5,none⟩)) (Lz (.slice f d.ak.ls.length l) aX 0 Tryz.isAgg32 (Kz (.int .i64 ((d.ak.ls.length:Nat):Int)) (Kz (.bool (decide (((d.ak.ls.length:Nat):Int) > 8))) (nt ?_)))))))
 by_cases L:((d.ak.ls.length:Nat):Int) > 8
 refine jT (dT L) (sr (An rfl (rt (tR (rs ?_)))))
 have ed:=aX.pk []
 obtain rfl:_=false:=hr.symm.trans (ip L)
 exact⟨rfl,ed⟩
 refine jF (dF L) (sk (xV (sr (Kz (.pointer (some ⟨r,5,none⟩)) (Lz (.slice f d.ak.ls.length l) aX 0 Tryz.isAgg32 (Kz (.int .i64 ((d.ak.ls.length:Nat):Int)) (Mn rfl (bo ?_))))))))
 have ek:=aX.pk [0]
 obtain⟨bW,bX⟩:∃ q:Nat→World→Prop,q=fun(i:Nat) w'=>Own w D w' [blk r [.int .i64 d.af, .int .u64 ((d.az:Nat):Int), .int .u64 ((d.bC:Nat):Int), .int .u64 ((d.aS:Nat):Int), .slice E d.ag.ls.length F, .slice f d.ak.ls.length l, .slice G d.aP.ls.length I] 35]∧(i≤d.ak.ls.length∧bf d d.ak.ls 0=bf d (List.drop i d.ak.ls) i):=⟨_,rfl⟩
 have aJ:∀ {b:Nat} {w':World},bW b w'↔Own w D w' [blk r [.int .i64 d.af, .int .u64 ((d.az:Nat):Int), .int .u64 ((d.bC:Nat):Int), .int .u64 ((d.aS:Nat):Int), .slice E d.ag.ls.length F, .slice f d.ak.ls.length l, .slice G d.aP.ls.length I] 35]∧b≤d.ak.ls.length∧bf d d.ak.ls 0=bf d (List.drop b d.ak.ls) b:=by intros; subst bX; exact Iff.rfl
 refine Wp.loop (fun i:Nat=> [(2, .bool false),(14, .int .i64 ((i:Nat):Int)),(13, .int .i64 ((d.ak.ls.length:Nat):Int)),(12, .slice f d.ak.ls.length l),(1, .pointer (some ⟨r,0,none⟩))]) bW (fun i=>d.ak.ls.length - i) 0 ⟨rfl,rfl,rfl,rfl,rfl,trivial⟩ (aJ.2 ⟨ek,by omega,rfl⟩) ?_
 rintro b fV bY
 show Wp _ _ _ [(2, .bool false),(14, .int .i64 ((b:Nat):Int)),(13, .int .i64 ((d.ak.ls.length:Nat):Int)),(12, .slice f d.ak.ls.length l),(1, .pointer (some ⟨r,0,none⟩))] _ _
 obtain⟨aS,fe,z⟩:=aJ.1 bY
 refine sr (Kz (.bool (decide (((b:Nat):Int) < ((d.ak.ls.length:Nat):Int)))) (nt (xV ?_)))
 by_cases bZ:((b:Nat):Int) < ((d.ak.ls.length:Nat):Int)
 obtain⟨a,u⟩:=fE (ls:=ai) (i:=b) au.len (by decide) (aS.ro S) (by first | omega | (simp; done) | (simp; omega))
 have cz:=jK aF u
 have fo:=(p _ (List.mem_of_getElem? u)).2
 have C:=drop_at cz
 refine jT (dT bZ) (sk (xV (bo (sr (Mz rfl (fw (.pointer (some ⟨ab f,ao f+b *5,none⟩)) (yh (rG) rfl rfl ((aS.ro S).addr (i:=b) (by omega)) (by omega)) (fw (.agg (au.cells a).toArray) (yl rfl (yD (cs:=(au.cells a)) Tryz.isAgg79 Tryz.sizeOf79 ((aS.ro S).elem au.len u (by decide)))) ?_)))))))
 refine dG [.int .u64 0, .int .i64 0, .int .u64 0, .int .u64 0, .slice none 0 0] 79 aS ?_
 intro h fZ eu
 refine Az rfl ?_
 refine cZ (au.cells a) 0 eu Tryz.sizeOf79 ?_
 intro eB eD
 refine nt (xV (xV ?_))
 have X:=eD.drew
 refine yY [] (fun W=> ∃ L',Own w D W ([blk h (au.cells a) 79,blk r [.int .i64 d.af, .int .u64 ((d.az:Nat):Int), .int .u64 ((d.bC:Nat):Int), .int .u64 ((d.aS:Nat):Int), .slice E d.ag.ls.length F, .slice f d.ak.ls.length l, .slice G d.aP.ls.length I] 35]++L')) (by kernel_rfl) (by kernel_rfl) (yL (yL (fD.block (yL (yL (fD.block (yL yZ))))))) ⟨_,X⟩ ?_
 revert X
 generalize World.drew eB=gm
 intro X
 refine GX.take (v:= .int .i64 ((b:Nat):Int)) (rs:= []) 0 rfl (by kernel_rfl) (fun _ _=>yj rfl) (GX.take (v:= .bool (decide (((b:Nat):Int) > 0))) (rs:= []) 1 rfl (by kernel_rfl) (fun _ _=>yk) (GX.take (v:= .bool (decide (((b:Nat):Int) > 0))) (rs:= []) 2 rfl (by kernel_rfl) (fun _ _=>yj rfl) ?_))
 by_cases n:((b:Nat):Int) > 0
 refine yf (v:= .pointer (some ⟨h,0,none⟩)) (rs:= []) 3 rfl rfl rfl (dT n) (by kernel_rfl) (fun _ _=>yk) (yf (v:= .int .u64 ((a.aV:Nat):Int)) (rs:= []) 4 rfl rfl rfl (dT n) (by kernel_rfl) (fun _ ⟨_,H9⟩=>yl rfl (bH.one Tryz.isAgg22 (yT (H9.cls (i:=0) rfl) rfl))) (yf (v:= .pointer (some ⟨r,5,none⟩)) (rs:= []) 5 rfl rfl rfl (dT n) (by kernel_rfl) (fun _ _=>yk) (yf (v:= .slice f d.ak.ls.length l) (rs:= []) 6 rfl rfl rfl (dT n) (by kernel_rfl) (fun _ ⟨_,H9⟩=>yl rfl (bH.one Tryz.isAgg32 (yT (H9.cls (i:=1) rfl) rfl))) (yf (v:= .int .i64 ((b:Nat):Int)) (rs:= []) 7 rfl rfl rfl (dT n) (by kernel_rfl) (fun _ _=>yj rfl) (yf (v:= .int .i64 ((b - 1:Nat):Int)) (rs:= []) 8 rfl rfl rfl (dT n) (by kernel_rfl) (fun _ _=>ym (e:=IntKind.i64.wrap (((b:Nat):Int) - 1)) yk (by rw [A8 _ (by omega)]; omega)) ?_)))))
 obtain⟨N,aT⟩:=qw (ls:=ai) (i:=b - 1) (by first | omega | (simp; done) | (simp; omega))
 have T:=jK aF aT
 have fu:=(p _ (List.mem_of_getElem? aT)).2
 refine yf (v:= .pointer (some ⟨ab f,ao f+(b - 1) *5,none⟩)) (rs:= []) 9 rfl rfl rfl (dT n) (by kernel_rfl) (fun _ ⟨_,H9⟩=>yh (rG) rfl rfl ((H9.ro S).addr (i:=b - 1) (by omega)) (by omega)) (yf (v:= .pointer (some ⟨ab f,ao f+(b - 1) *5,none⟩)) (rs:= []) 10 rfl rfl rfl (dT n) (by kernel_rfl) (fun _ _=>yk) (yf (v:= .int .u64 ((N.aV:Nat):Int)) (rs:= []) 11 rfl rfl rfl (dT n) (by kernel_rfl) (fun _ ⟨_,H9⟩=>yl rfl (bH.one Tryz.isAgg22 (((H9.ro S).elem au.len aT (by decide)).at_ (k:=0) rfl))) (yf (v:= .bool (decide (((a.aV:Nat):Int)≤((N.aV:Nat):Int)))) (rs:= []) 12 rfl rfl rfl (dT n) (by kernel_rfl) (fun _ _=>yk) (GX.take (v:= .bool (decide (((a.aV:Nat):Int)≤((N.aV:Nat):Int)))) (rs:= []) 13 rfl (by kernel_rfl) (fun _ _=>yw rfl (dT n) rfl) (GX.take (v:= .bool (decide (((a.aV:Nat):Int)≤((N.aV:Nat):Int)))) (rs:= []) 14 rfl (by kernel_rfl) (fun _ _=>yj rfl) ?_)))))
 by_cases y:((a.aV:Nat):Int)≤((N.aV:Nat):Int)
 refine yn (rs:= []) 15 rfl rfl rfl (dT y) (by kernel_rfl) (yn (rs:= []) 16 rfl rfl rfl (dT y) (by kernel_rfl) (yn (rs:= []) 17 rfl rfl rfl (dT y) (by kernel_rfl) (yn (rs:= []) 18 rfl rfl rfl (dT y) (by kernel_rfl) (yn (rs:= []) 19 rfl rfl rfl (dT y) (by kernel_rfl) (yn (rs:= []) 20 rfl rfl rfl (dT y) (by kernel_rfl) (yn (rs:= []) 21 rfl rfl rfl (dT y) (by kernel_rfl) (GX.take (v:= .bool true) (rs:= []) 22 rfl (by kernel_rfl) (fun _ _=>yw rfl (dT y) rfl) (yX (by kernel_rfl) (yg (jt (sr (An rfl (rt (tR (bR (tR (tR (bR (tR (rs ?_))))))))))))))))))))
 have eF:=X.pk []
 obtain rfl:_=false:=hr.symm.trans (et (iN L) (gI (et (z) (et (congrArg (fun q=>bf d q b) C) (et (ip n) (et (ae (dV T)) (ip y)))))))
 exact⟨rfl,eF⟩
 refine yf (v:= .pointer (some ⟨h,0,none⟩)) (rs:= []) 15 rfl rfl rfl (dF y) (by kernel_rfl) (fun _ _=>yk) (yf (v:= .int .u64 ((a.aV:Nat):Int)) (rs:= []) 16 rfl rfl rfl (dF y) (by kernel_rfl) (fun _ ⟨_,H9⟩=>yl rfl (bH.one Tryz.isAgg22 (yT (H9.cls (i:=0) rfl) rfl))) (yf (v:= .pointer (some ⟨r,1,none⟩)) (rs:= []) 17 rfl rfl rfl (dF y) (by kernel_rfl) (fun _ _=>yk) (yf (v:= .int .u64 ((d.az:Nat):Int)) (rs:= []) 18 rfl rfl rfl (dF y) (by kernel_rfl) (fun _ ⟨_,H9⟩=>yl rfl (bH.one Tryz.isAgg22 (yT (H9.cls (i:=1) rfl) rfl))) (yf (v:= .int .u64 ((Int.toNat (IntKind.u64.wrap (((d.az:Nat):Int)+1)):Nat):Int)) (rs:= []) 19 rfl rfl rfl (dF y) (by kernel_rfl) (fun _ _=>ym (e:=IntKind.u64.wrap (((d.az:Nat):Int)+1)) yk (fJ _)) ?_))))
 have fA:fq (Int.toNat (IntKind.u64.wrap (((d.az:Nat):Int)+1))) 32≤18446744073709551615:=nJ _ _
 refine yf (v:= .int .u64 ((fq (Int.toNat (IntKind.u64.wrap (((d.az:Nat):Int)+1))) 32:Nat):Int)) (rs:= []) 20 rfl rfl rfl (dF y) (by kernel_rfl) (fun _ _=>ym (zO (m:=32) rfl rfl) (fJ _)) (yf (v:= .bool (decide (((a.aV:Nat):Int) ≥ ((fq (Int.toNat (IntKind.u64.wrap (((d.az:Nat):Int)+1))) 32:Nat):Int)))) (rs:= []) 21 rfl rfl rfl (dF y) (by kernel_rfl) (fun _ _=>yk) (GX.take (v:= .bool (decide (((a.aV:Nat):Int) ≥ ((fq (Int.toNat (IntKind.u64.wrap (((d.az:Nat):Int)+1))) 32:Nat):Int)))) (rs:= []) 22 rfl (by kernel_rfl) (fun _ _=>xW rfl (dF y) rfl) (yX (by kernel_rfl) (yg ?_))))
 by_cases aj:((a.aV:Nat):Int) ≥ ((fq (Int.toNat (IntKind.u64.wrap (((d.az:Nat):Int)+1))) 32:Nat):Int)
 refine jT (dT aj) (sr (An rfl (rt (tR (bR (tR (tR (bR (tR (rs ?_))))))))))
 have eG:=X.pk []
 obtain rfl:_=false:=hr.symm.trans (et (iN L) (gI (et (z) (et (congrArg (fun q=>bf d q b) C) (et (ip n) (et (ae (dV T)) (et (iN y) (ip aj))))))))
 exact⟨rfl,eG⟩
 refine jF (dF aj) (sk (xV (sr (Kz (.pointer (some ⟨h,1,none⟩)) (Lz (.int .i64 a.aG) X 0 Tryz.isAgg3 ?_)))))
 obtain⟨af,Y⟩:∃ q,cu a.aG 4=q:=⟨_,rfl⟩
 obtain⟨gp,cB,fB,cK,fC⟩:=yc X
 refine cl Tryz.call38 (gP _ _ a.aG 4 af cB Y) ?_
 rintro _ gq ⟨rfl,cO⟩
 have aU:=cK _ _ cO
 refine Kz (.bool (!af)) (Mz rfl ?_)
 rcases Bb (af) with K | K
 refine Gz (.pointer (some ⟨h,4,none⟩)) (cn K) (Gl (.slice a.af.A a.af.ls.length a.af.c) (cn K) aU 0 Tryz.isAgg77 (Gz (.int .i64 ((a.af.ls.length:Nat):Int)) (cn K) (Gz (.bool (decide (((a.af.ls.length:Nat):Int)=0))) (cn K) (fw (.bool (decide (((a.af.ls.length:Nat):Int)=0))) (xW rfl (cn K) rfl) (nt ?_)))))
 by_cases aP:((a.af.ls.length:Nat):Int)=0
 refine jT (dT aP) (sr (An rfl (rt (tR (bR (tR (tR (bR (tR (rs ?_))))))))))
 have eH:=aU.pk []
 obtain rfl:_=false:=hr.symm.trans (et (iN L) (gI (et (z) (et (congrArg (fun q=>bf d q b) C) (et (ip n) (et (ae (dV T)) (et (iN y) (et (iN aj) (et (ae Y) (et (ip K) (ip aP)))))))))))
 exact⟨rfl,eH⟩
 refine jF (dF aP) (sk (sr (Kz (.pointer (some ⟨h,4,none⟩)) (Lz (.slice a.af.A a.af.ls.length a.af.c) aU 0 Tryz.isAgg77 (Kz (.int .i64 ((a.af.ls.length:Nat):Int)) (Mn rfl (bo ?_)))))))
 have eO:=aU.pk [0,1]
 obtain⟨df,dh⟩:∃ q:Nat→World→Prop,q=fun(i:Nat) w'=>Own w D w' [blk h (au.cells a) 79,blk r [.int .i64 d.af, .int .u64 ((d.az:Nat):Int), .int .u64 ((d.bC:Nat):Int), .int .u64 ((d.aS:Nat):Int), .slice E d.ag.ls.length F, .slice f d.ak.ls.length l, .slice G d.aP.ls.length I] 35]∧(i≤a.af.ls.length∧aZ d b (yz a) a.af.ls 0=aZ d b (yz a) (List.drop i a.af.ls) i):=⟨_,rfl⟩
 have aK:∀ {j:Nat} {w':World},df j w'↔Own w D w' [blk h (au.cells a) 79,blk r [.int .i64 d.af, .int .u64 ((d.az:Nat):Int), .int .u64 ((d.bC:Nat):Int), .int .u64 ((d.aS:Nat):Int), .slice E d.ag.ls.length F, .slice f d.ak.ls.length l, .slice G d.aP.ls.length I] 35]∧j≤a.af.ls.length∧aZ d b (yz a) a.af.ls 0=aZ d b (yz a) (List.drop j a.af.ls) j:=by intros; subst dh; exact Iff.rfl
 refine Wp.loop (fun i:Nat=> [(2, .bool false),(55, .int .i64 ((i:Nat):Int)),(54, .int .i64 ((a.af.ls.length:Nat):Int)),(53, .slice a.af.A a.af.ls.length a.af.c),(52, .pointer (some ⟨h,4,none⟩)),(51, .bool (decide (((a.af.ls.length:Nat):Int)=0))),(50, .bool (decide (((a.af.ls.length:Nat):Int)=0))),(49, .int .i64 ((a.af.ls.length:Nat):Int)),(48, .slice a.af.A a.af.ls.length a.af.c),(47, .pointer (some ⟨h,4,none⟩)),(46, .bool (!af)),(45, .bool (!af)),(44, .bool af),(43, .int .i64 a.aG),(42, .pointer (some ⟨h,1,none⟩)),(41, .bool (decide (((a.aV:Nat):Int) ≥ ((fq (Int.toNat (IntKind.u64.wrap (((d.az:Nat):Int)+1))) 32:Nat):Int)))),(40, .bool (decide (((a.aV:Nat):Int) ≥ ((fq (Int.toNat (IntKind.u64.wrap (((d.az:Nat):Int)+1))) 32:Nat):Int)))),(39, .int .u64 ((fq (Int.toNat (IntKind.u64.wrap (((d.az:Nat):Int)+1))) 32:Nat):Int)),(38, .int .u64 ((Int.toNat (IntKind.u64.wrap (((d.az:Nat):Int)+1)):Nat):Int)),(37, .int .u64 ((d.az:Nat):Int)),(36, .pointer (some ⟨r,1,none⟩)),(35, .int .u64 ((a.aV:Nat):Int)),(34, .pointer (some ⟨h,0,none⟩)),(33, .bool (decide (((a.aV:Nat):Int)≤((N.aV:Nat):Int)))),(32, .bool (decide (((a.aV:Nat):Int)≤((N.aV:Nat):Int)))),(31, .bool (decide (((a.aV:Nat):Int)≤((N.aV:Nat):Int)))),(30, .int .u64 ((N.aV:Nat):Int)),(29, .pointer (some ⟨ab f,ao f+(b - 1) *5,none⟩)),(28, .pointer (some ⟨ab f,ao f+(b - 1) *5,none⟩)),(27, .int .i64 ((b - 1:Nat):Int)),(26, .int .i64 ((b:Nat):Int)),(25, .slice f d.ak.ls.length l),(24, .pointer (some ⟨r,5,none⟩)),(23, .int .u64 ((a.aV:Nat):Int)),(22, .pointer (some ⟨h,0,none⟩)),(21, .bool (decide (((b:Nat):Int) > 0))),(20, .bool (decide (((b:Nat):Int) > 0))),(19, .int .i64 ((b:Nat):Int)),(3, .int .i64 ((b:Nat):Int)),(4, .pointer (some ⟨h,0,none⟩)),(18, .agg (au.cells a).toArray),(17, .pointer (some ⟨ab f,ao f+b *5,none⟩)),(16, .int .i64 ((b:Nat):Int)),(15, .bool (decide (((b:Nat):Int) < ((d.ak.ls.length:Nat):Int)))),(14, .int .i64 ((b:Nat):Int)),(13, .int .i64 ((d.ak.ls.length:Nat):Int)),(12, .slice f d.ak.ls.length l),(1, .pointer (some ⟨r,0,none⟩))]) df (fun i=>a.af.ls.length - i) 0 ⟨rfl,rfl,rfl,rfl,rfl,rfl,rfl,rfl,rfl,rfl,rfl,rfl,rfl,rfl,rfl,rfl,rfl,rfl,rfl,rfl,rfl,rfl,rfl,rfl,rfl,rfl,rfl,rfl,rfl,rfl,rfl,rfl,rfl,rfl,rfl,rfl,rfl,rfl,rfl,rfl,rfl,rfl,rfl,rfl,rfl,rfl,rfl,rfl,trivial⟩ (aK.2 ⟨eO,by omega,rfl⟩) ?_
 rintro j gu di
 show Wp _ _ _ [(2, .bool false),(55, .int .i64 ((j:Nat):Int)),(54, .int .i64 ((a.af.ls.length:Nat):Int)),(53, .slice a.af.A a.af.ls.length a.af.c),(52, .pointer (some ⟨h,4,none⟩)),(51, .bool (decide (((a.af.ls.length:Nat):Int)=0))),(50, .bool (decide (((a.af.ls.length:Nat):Int)=0))),(49, .int .i64 ((a.af.ls.length:Nat):Int)),(48, .slice a.af.A a.af.ls.length a.af.c),(47, .pointer (some ⟨h,4,none⟩)),(46, .bool (!af)),(45, .bool (!af)),(44, .bool af),(43, .int .i64 a.aG),(42, .pointer (some ⟨h,1,none⟩)),(41, .bool (decide (((a.aV:Nat):Int) ≥ ((fq (Int.toNat (IntKind.u64.wrap (((d.az:Nat):Int)+1))) 32:Nat):Int)))),(40, .bool (decide (((a.aV:Nat):Int) ≥ ((fq (Int.toNat (IntKind.u64.wrap (((d.az:Nat):Int)+1))) 32:Nat):Int)))),(39, .int .u64 ((fq (Int.toNat (IntKind.u64.wrap (((d.az:Nat):Int)+1))) 32:Nat):Int)),(38, .int .u64 ((Int.toNat (IntKind.u64.wrap (((d.az:Nat):Int)+1)):Nat):Int)),(37, .int .u64 ((d.az:Nat):Int)),(36, .pointer (some ⟨r,1,none⟩)),(35, .int .u64 ((a.aV:Nat):Int)),(34, .pointer (some ⟨h,0,none⟩)),(33, .bool (decide (((a.aV:Nat):Int)≤((N.aV:Nat):Int)))),(32, .bool (decide (((a.aV:Nat):Int)≤((N.aV:Nat):Int)))),(31, .bool (decide (((a.aV:Nat):Int)≤((N.aV:Nat):Int)))),(30, .int .u64 ((N.aV:Nat):Int)),(29, .pointer (some ⟨ab f,ao f+(b - 1) *5,none⟩)),(28, .pointer (some ⟨ab f,ao f+(b - 1) *5,none⟩)),(27, .int .i64 ((b - 1:Nat):Int)),(26, .int .i64 ((b:Nat):Int)),(25, .slice f d.ak.ls.length l),(24, .pointer (some ⟨r,5,none⟩)),(23, .int .u64 ((a.aV:Nat):Int)),(22, .pointer (some ⟨h,0,none⟩)),(21, .bool (decide (((b:Nat):Int) > 0))),(20, .bool (decide (((b:Nat):Int) > 0))),(19, .int .i64 ((b:Nat):Int)),(3, .int .i64 ((b:Nat):Int)),(4, .pointer (some ⟨h,0,none⟩)),(18, .agg (au.cells a).toArray),(17, .pointer (some ⟨ab f,ao f+b *5,none⟩)),(16, .int .i64 ((b:Nat):Int)),(15, .bool (decide (((b:Nat):Int) < ((d.ak.ls.length:Nat):Int)))),(14, .int .i64 ((b:Nat):Int)),(13, .int .i64 ((d.ak.ls.length:Nat):Int)),(12, .slice f d.ak.ls.length l),(1, .pointer (some ⟨r,0,none⟩))] _ _
 obtain⟨aQ,fF,ak⟩:=aK.1 di
 refine sr (Kz (.bool (decide (((j:Nat):Int) < ((a.af.ls.length:Nat):Int)))) (nt (xV ?_)))
 by_cases dm:((j:Nat):Int) < ((a.af.ls.length:Nat):Int)
 obtain⟨av,bn⟩:=fE (ls:=a.af.ls) (i:=j) jY (by decide) (aQ.ro (p _ (List.mem_of_getElem? u)).1) (by first | omega | (simp; done) | (simp; omega))
 have aL:=drop_at bn
 refine jT (dT dm) (sk (xV (bo (sr (Mz rfl (fw (.pointer (some ⟨ab a.af.A,ao a.af.A+j *1,none⟩)) (yh (pU) rfl rfl ((aQ.ro (p _ (List.mem_of_getElem? u)).1).addr (i:=j) (by omega)) (by omega)) (fw (.int .i64 av) (yl rfl (bH.one Tryz.isAgg3 (((aQ.ro (p _ (List.mem_of_getElem? u)).1).elem jY bn (by decide)).at_ (k:=0) rfl))) (Az rfl (Ar rfl (Mz rfl (Kz (.pointer (some ⟨r,0,none⟩)) (Lz (.int .i64 d.af) aQ 1 Tryz.isAgg3 ?_))))))))))))
 obtain⟨bE,ax⟩:∃ q,cu av d.af=q:=⟨_,rfl⟩
 obtain⟨gy,dn,fH,dx,fI⟩:=yc aQ
 refine cl Tryz.call38 (gP _ _ av d.af bE dn ax) ?_
 rintro _ gz ⟨rfl,dz⟩
 have ay:=dx _ _ dz
 refine Kz (.bool (!bE)) (Mz rfl ?_)
 rcases Bb (bE) with J | J
 refine gw (.int .i64 ((j:Nat):Int)) (cn J) (yj rfl) (Gz (.bool (decide (((j:Nat):Int) > 0))) (cn J) (gw (.bool (decide (((j:Nat):Int) > 0))) (cn J) (yj rfl) ?_))
 by_cases B:((j:Nat):Int) > 0
 refine gw (.int .i64 av) (dT B) (yj rfl) (Gz (.pointer (some ⟨h,4,none⟩)) (dT B) (Gl (.slice a.af.A a.af.ls.length a.af.c) (dT B) ay 0 Tryz.isAgg77 (gw (.int .i64 ((j:Nat):Int)) (dT B) (yj rfl) (gw (.int .i64 ((j - 1:Nat):Int)) (dT B) (ym (e:=IntKind.i64.wrap (((j:Nat):Int) - 1)) yk (by rw [A8 _ (by omega)]; omega)) ?_))))
 obtain⟨az,aH⟩:=fE (ls:=a.af.ls) (i:=j - 1) jY (by decide) (ay.ro (p _ (List.mem_of_getElem? u)).1) (by first | omega | (simp; done) | (simp; omega))
 refine gw (.pointer (some ⟨ab a.af.A,ao a.af.A+(j - 1) *1,none⟩)) (dT B) (yh (pU) rfl rfl ((ay.ro (p _ (List.mem_of_getElem? u)).1).addr (i:=j - 1) (by omega)) (by omega)) (gw (.int .i64 az) (dT B) (yl rfl (bH.one Tryz.isAgg3 (((ay.ro (p _ (List.mem_of_getElem? u)).1).elem jY aH (by decide)).at_ (k:=0) rfl))) (Gz (.bool (decide (av≤az))) (dT B) (gw (.bool (decide (av≤az))) (cn J) (yw rfl (dT B) rfl) (fw (.bool (decide (av≤az))) (xW rfl (cn J) rfl) (nt ?_)))))
 by_cases aN:av≤az
 refine jT (dT aN) (sr (An rfl (rt (bR (tR (tR (bR (bR (tR (tR (bR (tR (rs ?_)))))))))))))
 have dA:=ay.pk []
 obtain rfl:_=false:=hr.symm.trans (et (iN L) (gI (et (z) (et (congrArg (fun q=>bf d q b) C) (et (ip n) (et (ae (dV T)) (et (iN y) (et (iN aj) (et (ae Y) (et (ip K) (et (iN aP) (mh (et (ak) (et (congrArg (fun q=>aZ d b (yz a) q j) aL) (et (ae ax) (et (ip J) (et (ip B) (et (ae (dV aH)) (ip aN)))))))))))))))))))
 exact⟨rfl,dA⟩
 refine jF (dF aN) (yV (bN (yg (xS (fw (.int .i64 ((j+1:Nat):Int)) (ym (e:=IntKind.i64.wrap (((j:Nat):Int)+1)) yk (by rw [A8 _ (by omega)]; omega)) (Mz rfl (xY ?_)))))))
 have dB:=ay.pk [0,1]
 exact yE (j+1) ⟨rfl,rfl,rfl,rfl,rfl,rfl,rfl,rfl,rfl,rfl,rfl,rfl,rfl,rfl,rfl,rfl,rfl,rfl,rfl,rfl,rfl,rfl,rfl,rfl,rfl,rfl,rfl,rfl,rfl,rfl,rfl,rfl,rfl,rfl,rfl,rfl,rfl,rfl,rfl,rfl,rfl,rfl,rfl,rfl,rfl,rfl,rfl,rfl,trivial⟩ (aK.2 ⟨dB,by omega,et (ak) (et (congrArg (fun q=>aZ d b (yz a) q j) aL) (et (ae ax) (et (ip J) (et (ip B) (et (ae (dV aH)) (iN aN))))))⟩) (by show a.af.ls.length - (j+1) < a.af.ls.length - j; omega)
 refine Sz (dF B) (Sz (dF B) (Sz (dF B) (Sz (dF B) (Sz (dF B) (Sz (dF B) (Sz (dF B) (Sz (dF B) (gw (.bool false) (cn J) (xW rfl (dF B) rfl) (fw (.bool false) (xW rfl (cn J) rfl) (nt (jf (yV (bN (yg (xS (fw (.int .i64 ((j+1:Nat):Int)) (ym (e:=IntKind.i64.wrap (((j:Nat):Int)+1)) yk (by rw [A8 _ (by omega)]; omega)) (Mz rfl (xY ?_))))))))))))))))))
 have dD:=ay.pk [0,1]
 exact yE (j+1) ⟨rfl,rfl,rfl,rfl,rfl,rfl,rfl,rfl,rfl,rfl,rfl,rfl,rfl,rfl,rfl,rfl,rfl,rfl,rfl,rfl,rfl,rfl,rfl,rfl,rfl,rfl,rfl,rfl,rfl,rfl,rfl,rfl,rfl,rfl,rfl,rfl,rfl,rfl,rfl,rfl,rfl,rfl,rfl,rfl,rfl,rfl,rfl,rfl,trivial⟩ (aK.2 ⟨dD,by omega,et (ak) (et (congrArg (fun q=>aZ d b (yz a) q j) aL) (et (ae ax) (et (ip J) (iN B))))⟩) (by show a.af.ls.length - (j+1) < a.af.ls.length - j; omega)
 refine Sz (cn J) (Sz (cn J) (Sz (cn J) (yK rfl rfl rfl (yK rfl rfl rfl (yK rfl rfl rfl (yK rfl rfl rfl (yK rfl rfl rfl (yK rfl rfl rfl (yK rfl rfl rfl (yK rfl rfl rfl (Sz (cn J) (fw (.bool true) (yw rfl (cn J) rfl) (nt (jt (sr (An rfl (rt (bR (tR (tR (bR (bR (tR (tR (bR (tR (rs ?_)))))))))))))))))))))))))))
 have dE:=ay.pk []
 obtain rfl:_=false:=hr.symm.trans (et (iN L) (gI (et (z) (et (congrArg (fun q=>bf d q b) C) (et (ip n) (et (ae (dV T)) (et (iN y) (et (iN aj) (et (ae Y) (et (ip K) (et (iN aP) (mh (et (ak) (et (congrArg (fun q=>aZ d b (yz a) q j) aL) (et (ae ax) (kG J))))))))))))))))
 exact⟨rfl,dE⟩
 refine jF (dF dm) (Wp.exit (xX ?_))
 have bF:aZ d b (yz a) a.af.ls 0=Sum.inl ():=et (ak) (et (congrArg (fun q=>aZ d b (yz a) q j) (fG (ls:=a.af.ls) (i:=j) (by omega))) rfl)
 refine xX (yx (bN (yg (xS (fw (.int .i64 ((b+1:Nat):Int)) (ym (e:=IntKind.i64.wrap (((b:Nat):Int)+1)) yk (by rw [A8 _ (by omega)]; omega)) (Mz rfl (xY ?_)))))))
 have dH:=aQ.pk [1]
 exact yE (b+1) ⟨rfl,rfl,rfl,rfl,rfl,trivial⟩ (aJ.2 ⟨dH,by omega,et (z) (et (congrArg (fun q=>bf d q b) C) (et (ip n) (et (ae (dV T)) (et (iN y) (et (iN aj) (et (ae Y) (et (ip K) (et (iN aP) (nX bF)))))))))⟩) (by show d.ak.ls.length - (b+1) < d.ak.ls.length - b; omega)
 refine Sz (cn K) (Sz (cn K) (Sz (cn K) (Sz (cn K) (fw (.bool true) (yw rfl (cn K) rfl) (nt (jt (sr (An rfl (rt (tR (bR (tR (tR (bR (tR (rs ?_))))))))))))))))
 have dI:=aU.pk []
 obtain rfl:_=false:=hr.symm.trans (et (iN L) (gI (et (z) (et (congrArg (fun q=>bf d q b) C) (et (ip n) (et (ae (dV T)) (et (iN y) (et (iN aj) (et (ae Y) (kG K))))))))))
 exact⟨rfl,dI⟩
 refine yn (rs:= []) 3 rfl rfl rfl (dF n) (by kernel_rfl) (yn (rs:= []) 4 rfl rfl rfl (dF n) (by kernel_rfl) (yn (rs:= []) 5 rfl rfl rfl (dF n) (by kernel_rfl) (yn (rs:= []) 6 rfl rfl rfl (dF n) (by kernel_rfl) (yn (rs:= []) 7 rfl rfl rfl (dF n) (by kernel_rfl) (yn (rs:= []) 8 rfl rfl rfl (dF n) (by kernel_rfl) (yn (rs:= []) 9 rfl rfl rfl (dF n) (by kernel_rfl) (yn (rs:= []) 10 rfl rfl rfl (dF n) (by kernel_rfl) (yn (rs:= []) 11 rfl rfl rfl (dF n) (by kernel_rfl) (yn (rs:= []) 12 rfl rfl rfl (dF n) (by kernel_rfl) (GX.take (v:= .bool false) (rs:= []) 13 rfl (by kernel_rfl) (fun _ _=>xW rfl (dF n) rfl) (GX.take (v:= .bool false) (rs:= []) 14 rfl (by kernel_rfl) (fun _ _=>yj rfl) (yf (v:= .pointer (some ⟨h,0,none⟩)) (rs:= []) 15 rfl rfl rfl rfl (by kernel_rfl) (fun _ _=>yk) (yf (v:= .int .u64 ((a.aV:Nat):Int)) (rs:= []) 16 rfl rfl rfl rfl (by kernel_rfl) (fun _ ⟨_,H9⟩=>yl rfl (bH.one Tryz.isAgg22 (yT (H9.cls (i:=0) rfl) rfl))) (yf (v:= .pointer (some ⟨r,1,none⟩)) (rs:= []) 17 rfl rfl rfl rfl (by kernel_rfl) (fun _ _=>yk) (yf (v:= .int .u64 ((d.az:Nat):Int)) (rs:= []) 18 rfl rfl rfl rfl (by kernel_rfl) (fun _ ⟨_,H9⟩=>yl rfl (bH.one Tryz.isAgg22 (yT (H9.cls (i:=1) rfl) rfl))) (yf (v:= .int .u64 ((Int.toNat (IntKind.u64.wrap (((d.az:Nat):Int)+1)):Nat):Int)) (rs:= []) 19 rfl rfl rfl rfl (by kernel_rfl) (fun _ _=>ym (e:=IntKind.u64.wrap (((d.az:Nat):Int)+1)) yk (fJ _)) ?_))))))))))))))))
 have eP:fq (Int.toNat (IntKind.u64.wrap (((d.az:Nat):Int)+1))) 32≤18446744073709551615:=nJ _ _
 refine yf (v:= .int .u64 ((fq (Int.toNat (IntKind.u64.wrap (((d.az:Nat):Int)+1))) 32:Nat):Int)) (rs:= []) 20 rfl rfl rfl rfl (by kernel_rfl) (fun _ _=>ym (zO (m:=32) rfl rfl) (fJ _)) (yf (v:= .bool (decide (((a.aV:Nat):Int) ≥ ((fq (Int.toNat (IntKind.u64.wrap (((d.az:Nat):Int)+1))) 32:Nat):Int)))) (rs:= []) 21 rfl rfl rfl rfl (by kernel_rfl) (fun _ _=>yk) (GX.take (v:= .bool (decide (((a.aV:Nat):Int) ≥ ((fq (Int.toNat (IntKind.u64.wrap (((d.az:Nat):Int)+1))) 32:Nat):Int)))) (rs:= []) 22 rfl (by kernel_rfl) (fun _ _=>xW rfl rfl rfl) (yX (by kernel_rfl) (yg ?_))))
 by_cases P:((a.aV:Nat):Int) ≥ ((fq (Int.toNat (IntKind.u64.wrap (((d.az:Nat):Int)+1))) 32:Nat):Int)
 refine jT (dT P) (sr (An rfl (rt (tR (bR (tR (tR (bR (tR (rs ?_))))))))))
 have dJ:=X.pk []
 obtain rfl:_=false:=hr.symm.trans (et (iN L) (gI (et (z) (et (congrArg (fun q=>bf d q b) C) (et (iN n) (ip P))))))
 exact⟨rfl,dJ⟩
 refine jF (dF P) (sk (xV (sr (Kz (.pointer (some ⟨h,1,none⟩)) (Lz (.int .i64 a.aG) X 0 Tryz.isAgg3 ?_)))))
 obtain⟨M,O⟩:∃ q,cu a.aG 4=q:=⟨_,rfl⟩
 obtain⟨fK,bG,eQ,bI,eT⟩:=yc X
 refine cl Tryz.call38 (gP _ _ a.aG 4 M bG O) ?_
 rintro _ fM ⟨rfl,bJ⟩
 have aB:=bI _ _ bJ
 refine Kz (.bool (!M)) (Mz rfl ?_)
 rcases Bb (M) with t | t
 refine Gz (.pointer (some ⟨h,4,none⟩)) (cn t) (Gl (.slice a.af.A a.af.ls.length a.af.c) (cn t) aB 0 Tryz.isAgg77 (Gz (.int .i64 ((a.af.ls.length:Nat):Int)) (cn t) (Gz (.bool (decide (((a.af.ls.length:Nat):Int)=0))) (cn t) (fw (.bool (decide (((a.af.ls.length:Nat):Int)=0))) (xW rfl (cn t) rfl) (nt ?_)))))
 by_cases Z:((a.af.ls.length:Nat):Int)=0
 refine jT (dT Z) (sr (An rfl (rt (tR (bR (tR (tR (bR (tR (rs ?_))))))))))
 have dK:=aB.pk []
 obtain rfl:_=false:=hr.symm.trans (et (iN L) (gI (et (z) (et (congrArg (fun q=>bf d q b) C) (et (iN n) (et (iN P) (et (ae O) (et (ip t) (ip Z)))))))))
 exact⟨rfl,dK⟩
 refine jF (dF Z) (sk (sr (Kz (.pointer (some ⟨h,4,none⟩)) (Lz (.slice a.af.A a.af.ls.length a.af.c) aB 0 Tryz.isAgg77 (Kz (.int .i64 ((a.af.ls.length:Nat):Int)) (Mn rfl (bo ?_)))))))
 have dL:=aB.pk [0,1]
 obtain⟨bq,bK⟩:∃ q:Nat→World→Prop,q=fun(i:Nat) w'=>Own w D w' [blk h (au.cells a) 79,blk r [.int .i64 d.af, .int .u64 ((d.az:Nat):Int), .int .u64 ((d.bC:Nat):Int), .int .u64 ((d.aS:Nat):Int), .slice E d.ag.ls.length F, .slice f d.ak.ls.length l, .slice G d.aP.ls.length I] 35]∧(i≤a.af.ls.length∧dw d b (yz a) a.af.ls 0=dw d b (yz a) (List.drop i a.af.ls) i):=⟨_,rfl⟩
 have ag:∀ {g:Nat} {w':World},bq g w'↔Own w D w' [blk h (au.cells a) 79,blk r [.int .i64 d.af, .int .u64 ((d.az:Nat):Int), .int .u64 ((d.bC:Nat):Int), .int .u64 ((d.aS:Nat):Int), .slice E d.ag.ls.length F, .slice f d.ak.ls.length l, .slice G d.aP.ls.length I] 35]∧g≤a.af.ls.length∧dw d b (yz a) a.af.ls 0=dw d b (yz a) (List.drop g a.af.ls) g:=by intros; subst bK; exact Iff.rfl
 refine Wp.loop (fun i:Nat=> [(2, .bool false),(55, .int .i64 ((i:Nat):Int)),(54, .int .i64 ((a.af.ls.length:Nat):Int)),(53, .slice a.af.A a.af.ls.length a.af.c),(52, .pointer (some ⟨h,4,none⟩)),(51, .bool (decide (((a.af.ls.length:Nat):Int)=0))),(50, .bool (decide (((a.af.ls.length:Nat):Int)=0))),(49, .int .i64 ((a.af.ls.length:Nat):Int)),(48, .slice a.af.A a.af.ls.length a.af.c),(47, .pointer (some ⟨h,4,none⟩)),(46, .bool (!M)),(45, .bool (!M)),(44, .bool M),(43, .int .i64 a.aG),(42, .pointer (some ⟨h,1,none⟩)),(41, .bool (decide (((a.aV:Nat):Int) ≥ ((fq (Int.toNat (IntKind.u64.wrap (((d.az:Nat):Int)+1))) 32:Nat):Int)))),(40, .bool (decide (((a.aV:Nat):Int) ≥ ((fq (Int.toNat (IntKind.u64.wrap (((d.az:Nat):Int)+1))) 32:Nat):Int)))),(39, .int .u64 ((fq (Int.toNat (IntKind.u64.wrap (((d.az:Nat):Int)+1))) 32:Nat):Int)),(38, .int .u64 ((Int.toNat (IntKind.u64.wrap (((d.az:Nat):Int)+1)):Nat):Int)),(37, .int .u64 ((d.az:Nat):Int)),(36, .pointer (some ⟨r,1,none⟩)),(35, .int .u64 ((a.aV:Nat):Int)),(34, .pointer (some ⟨h,0,none⟩)),(33, .bool false),(32, .bool false),(31,undef),(30,undef),(29,undef),(28,undef),(27,undef),(26,undef),(25,undef),(24,undef),(23,undef),(22,undef),(21, .bool (decide (((b:Nat):Int) > 0))),(20, .bool (decide (((b:Nat):Int) > 0))),(19, .int .i64 ((b:Nat):Int)),(3, .int .i64 ((b:Nat):Int)),(4, .pointer (some ⟨h,0,none⟩)),(18, .agg (au.cells a).toArray),(17, .pointer (some ⟨ab f,ao f+b *5,none⟩)),(16, .int .i64 ((b:Nat):Int)),(15, .bool (decide (((b:Nat):Int) < ((d.ak.ls.length:Nat):Int)))),(14, .int .i64 ((b:Nat):Int)),(13, .int .i64 ((d.ak.ls.length:Nat):Int)),(12, .slice f d.ak.ls.length l),(1, .pointer (some ⟨r,0,none⟩))]) bq (fun i=>a.af.ls.length - i) 0 ⟨rfl,rfl,rfl,rfl,rfl,rfl,rfl,rfl,rfl,rfl,rfl,rfl,rfl,rfl,rfl,rfl,rfl,rfl,rfl,rfl,rfl,rfl,rfl,rfl,rfl,rfl,rfl,rfl,rfl,rfl,rfl,rfl,rfl,rfl,rfl,rfl,rfl,rfl,rfl,rfl,rfl,rfl,rfl,rfl,rfl,rfl,rfl,rfl,trivial⟩ (ag.2 ⟨dL,by omega,rfl⟩) ?_
 rintro g fO bM
 show Wp _ _ _ [(2, .bool false),(55, .int .i64 ((g:Nat):Int)),(54, .int .i64 ((a.af.ls.length:Nat):Int)),(53, .slice a.af.A a.af.ls.length a.af.c),(52, .pointer (some ⟨h,4,none⟩)),(51, .bool (decide (((a.af.ls.length:Nat):Int)=0))),(50, .bool (decide (((a.af.ls.length:Nat):Int)=0))),(49, .int .i64 ((a.af.ls.length:Nat):Int)),(48, .slice a.af.A a.af.ls.length a.af.c),(47, .pointer (some ⟨h,4,none⟩)),(46, .bool (!M)),(45, .bool (!M)),(44, .bool M),(43, .int .i64 a.aG),(42, .pointer (some ⟨h,1,none⟩)),(41, .bool (decide (((a.aV:Nat):Int) ≥ ((fq (Int.toNat (IntKind.u64.wrap (((d.az:Nat):Int)+1))) 32:Nat):Int)))),(40, .bool (decide (((a.aV:Nat):Int) ≥ ((fq (Int.toNat (IntKind.u64.wrap (((d.az:Nat):Int)+1))) 32:Nat):Int)))),(39, .int .u64 ((fq (Int.toNat (IntKind.u64.wrap (((d.az:Nat):Int)+1))) 32:Nat):Int)),(38, .int .u64 ((Int.toNat (IntKind.u64.wrap (((d.az:Nat):Int)+1)):Nat):Int)),(37, .int .u64 ((d.az:Nat):Int)),(36, .pointer (some ⟨r,1,none⟩)),(35, .int .u64 ((a.aV:Nat):Int)),(34, .pointer (some ⟨h,0,none⟩)),(33, .bool false),(32, .bool false),(31,undef),(30,undef),(29,undef),(28,undef),(27,undef),(26,undef),(25,undef),(24,undef),(23,undef),(22,undef),(21, .bool (decide (((b:Nat):Int) > 0))),(20, .bool (decide (((b:Nat):Int) > 0))),(19, .int .i64 ((b:Nat):Int)),(3, .int .i64 ((b:Nat):Int)),(4, .pointer (some ⟨h,0,none⟩)),(18, .agg (au.cells a).toArray),(17, .pointer (some ⟨ab f,ao f+b *5,none⟩)),(16, .int .i64 ((b:Nat):Int)),(15, .bool (decide (((b:Nat):Int) < ((d.ak.ls.length:Nat):Int)))),(14, .int .i64 ((b:Nat):Int)),(13, .int .i64 ((d.ak.ls.length:Nat):Int)),(12, .slice f d.ak.ls.length l),(1, .pointer (some ⟨r,0,none⟩))] _ _
 obtain⟨aa,eU,U⟩:=ag.1 bM
 refine sr (Kz (.bool (decide (((g:Nat):Int) < ((a.af.ls.length:Nat):Int)))) (nt (xV ?_)))
 by_cases bv:((g:Nat):Int) < ((a.af.ls.length:Nat):Int)
 obtain⟨Q,aV⟩:=fE (ls:=a.af.ls) (i:=g) jY (by decide) (aa.ro (p _ (List.mem_of_getElem? u)).1) (by first | omega | (simp; done) | (simp; omega))
 have ah:=drop_at aV
 refine jT (dT bv) (sk (xV (bo (sr (Mz rfl (fw (.pointer (some ⟨ab a.af.A,ao a.af.A+g *1,none⟩)) (yh (pU) rfl rfl ((aa.ro (p _ (List.mem_of_getElem? u)).1).addr (i:=g) (by omega)) (by omega)) (fw (.int .i64 Q) (yl rfl (bH.one Tryz.isAgg3 (((aa.ro (p _ (List.mem_of_getElem? u)).1).elem jY aV (by decide)).at_ (k:=0) rfl))) (Az rfl (Ar rfl (Mz rfl (Kz (.pointer (some ⟨r,0,none⟩)) (Lz (.int .i64 d.af) aa 1 Tryz.isAgg3 ?_))))))))))))
 obtain⟨aW,V⟩:∃ q,cu Q d.af=q:=⟨_,rfl⟩
 obtain⟨fP,bO,eX,bP,eY⟩:=yc aa
 refine cl Tryz.call38 (gP _ _ Q d.af aW bO V) ?_
 rintro _ fQ ⟨rfl,bQ⟩
 have R:=bP _ _ bQ
 refine Kz (.bool (!aW)) (Mz rfl ?_)
 rcases Bb (aW) with s | s
 refine gw (.int .i64 ((g:Nat):Int)) (cn s) (yj rfl) (Gz (.bool (decide (((g:Nat):Int) > 0))) (cn s) (gw (.bool (decide (((g:Nat):Int) > 0))) (cn s) (yj rfl) ?_))
 by_cases o:((g:Nat):Int) > 0
 refine gw (.int .i64 Q) (dT o) (yj rfl) (Gz (.pointer (some ⟨h,4,none⟩)) (dT o) (Gl (.slice a.af.A a.af.ls.length a.af.c) (dT o) R 0 Tryz.isAgg77 (gw (.int .i64 ((g:Nat):Int)) (dT o) (yj rfl) (gw (.int .i64 ((g - 1:Nat):Int)) (dT o) (ym (e:=IntKind.i64.wrap (((g:Nat):Int) - 1)) yk (by rw [A8 _ (by omega)]; omega)) ?_))))
 obtain⟨aD,aI⟩:=fE (ls:=a.af.ls) (i:=g - 1) jY (by decide) (R.ro (p _ (List.mem_of_getElem? u)).1) (by first | omega | (simp; done) | (simp; omega))
 refine gw (.pointer (some ⟨ab a.af.A,ao a.af.A+(g - 1) *1,none⟩)) (dT o) (yh (pU) rfl rfl ((R.ro (p _ (List.mem_of_getElem? u)).1).addr (i:=g - 1) (by omega)) (by omega)) (gw (.int .i64 aD) (dT o) (yl rfl (bH.one Tryz.isAgg3 (((R.ro (p _ (List.mem_of_getElem? u)).1).elem jY aI (by decide)).at_ (k:=0) rfl))) (Gz (.bool (decide (Q≤aD))) (dT o) (gw (.bool (decide (Q≤aD))) (cn s) (yw rfl (dT o) rfl) (fw (.bool (decide (Q≤aD))) (xW rfl (cn s) rfl) (nt ?_)))))
 by_cases aO:Q≤aD
 refine jT (dT aO) (sr (An rfl (rt (bR (tR (tR (bR (bR (tR (tR (bR (tR (rs ?_)))))))))))))
 have dM:=R.pk []
 obtain rfl:_=false:=hr.symm.trans (et (iN L) (gI (et (z) (et (congrArg (fun q=>bf d q b) C) (et (iN n) (et (iN P) (et (ae O) (et (ip t) (et (iN Z) (mh (et (U) (et (congrArg (fun q=>dw d b (yz a) q g) ah) (et (ae V) (et (ip s) (et (ip o) (et (ae (dV aI)) (ip aO)))))))))))))))))
 exact⟨rfl,dM⟩
 refine jF (dF aO) (yV (bN (yg (xS (fw (.int .i64 ((g+1:Nat):Int)) (ym (e:=IntKind.i64.wrap (((g:Nat):Int)+1)) yk (by rw [A8 _ (by omega)]; omega)) (Mz rfl (xY ?_)))))))
 have dN:=R.pk [0,1]
 exact yE (g+1) ⟨rfl,rfl,rfl,rfl,rfl,rfl,rfl,rfl,rfl,rfl,rfl,rfl,rfl,rfl,rfl,rfl,rfl,rfl,rfl,rfl,rfl,rfl,rfl,rfl,rfl,rfl,rfl,rfl,rfl,rfl,rfl,rfl,rfl,rfl,rfl,rfl,rfl,rfl,rfl,rfl,rfl,rfl,rfl,rfl,rfl,rfl,rfl,rfl,trivial⟩ (ag.2 ⟨dN,by omega,et (U) (et (congrArg (fun q=>dw d b (yz a) q g) ah) (et (ae V) (et (ip s) (et (ip o) (et (ae (dV aI)) (iN aO))))))⟩) (by show a.af.ls.length - (g+1) < a.af.ls.length - g; omega)
 refine Sz (dF o) (Sz (dF o) (Sz (dF o) (Sz (dF o) (Sz (dF o) (Sz (dF o) (Sz (dF o) (Sz (dF o) (gw (.bool false) (cn s) (xW rfl (dF o) rfl) (fw (.bool false) (xW rfl (cn s) rfl) (nt (jf (yV (bN (yg (xS (fw (.int .i64 ((g+1:Nat):Int)) (ym (e:=IntKind.i64.wrap (((g:Nat):Int)+1)) yk (by rw [A8 _ (by omega)]; omega)) (Mz rfl (xY ?_))))))))))))))))))
 have dO:=R.pk [0,1]
 exact yE (g+1) ⟨rfl,rfl,rfl,rfl,rfl,rfl,rfl,rfl,rfl,rfl,rfl,rfl,rfl,rfl,rfl,rfl,rfl,rfl,rfl,rfl,rfl,rfl,rfl,rfl,rfl,rfl,rfl,rfl,rfl,rfl,rfl,rfl,rfl,rfl,rfl,rfl,rfl,rfl,rfl,rfl,rfl,rfl,rfl,rfl,rfl,rfl,rfl,rfl,trivial⟩ (ag.2 ⟨dO,by omega,et (U) (et (congrArg (fun q=>dw d b (yz a) q g) ah) (et (ae V) (et (ip s) (iN o))))⟩) (by show a.af.ls.length - (g+1) < a.af.ls.length - g; omega)
 refine Sz (cn s) (Sz (cn s) (Sz (cn s) (yK rfl rfl rfl (yK rfl rfl rfl (yK rfl rfl rfl (yK rfl rfl rfl (yK rfl rfl rfl (yK rfl rfl rfl (yK rfl rfl rfl (yK rfl rfl rfl (Sz (cn s) (fw (.bool true) (yw rfl (cn s) rfl) (nt (jt (sr (An rfl (rt (bR (tR (tR (bR (bR (tR (tR (bR (tR (rs ?_)))))))))))))))))))))))))))
 have dP:=R.pk []
 obtain rfl:_=false:=hr.symm.trans (et (iN L) (gI (et (z) (et (congrArg (fun q=>bf d q b) C) (et (iN n) (et (iN P) (et (ae O) (et (ip t) (et (iN Z) (mh (et (U) (et (congrArg (fun q=>dw d b (yz a) q g) ah) (et (ae V) (kG s))))))))))))))
 exact⟨rfl,dP⟩
 refine jF (dF bv) (Wp.exit (xX ?_))
 have bS:dw d b (yz a) a.af.ls 0=Sum.inl ():=et (U) (et (congrArg (fun q=>dw d b (yz a) q g) (fG (ls:=a.af.ls) (i:=g) (by omega))) rfl)
 refine xX (yx (bN (yg (xS (fw (.int .i64 ((b+1:Nat):Int)) (ym (e:=IntKind.i64.wrap (((b:Nat):Int)+1)) yk (by rw [A8 _ (by omega)]; omega)) (Mz rfl (xY ?_)))))))
 have dQ:=aa.pk [1]
 exact yE (b+1) ⟨rfl,rfl,rfl,rfl,rfl,trivial⟩ (aJ.2 ⟨dQ,by omega,et (z) (et (congrArg (fun q=>bf d q b) C) (et (iN n) (et (iN P) (et (ae O) (et (ip t) (et (iN Z) (nX bS)))))))⟩) (by show d.ak.ls.length - (b+1) < d.ak.ls.length - b; omega)
 refine Sz (cn t) (Sz (cn t) (Sz (cn t) (Sz (cn t) (fw (.bool true) (yw rfl (cn t) rfl) (nt (jt (sr (An rfl (rt (tR (bR (tR (tR (bR (tR (rs ?_))))))))))))))))
 have dR:=aB.pk []
 obtain rfl:_=false:=hr.symm.trans (et (iN L) (gI (et (z) (et (congrArg (fun q=>bf d q b) C) (et (iN n) (et (iN P) (et (ae O) (kG t))))))))
 exact⟨rfl,dR⟩
 refine jF (dF bZ) (Wp.exit (xX ?_))
 have bT:bf d d.ak.ls 0=Sum.inl ():=et (z) (et (congrArg (fun q=>bf d q b) (fG (ls:=d.ak.ls) (i:=b) (by omega))) rfl)
 refine xX (yx (yg (sr (An rfl (rt (rs ?_))))))
 have dS:=aS.pk []
 obtain rfl:_=true:=hr.symm.trans (et (iN L) (j3 bT))
 exact⟨rfl,dS⟩
def dE:List bB→Unit ⊕ Bool
  | []=>Sum.inl ()
  | a::c=>bnd (dI a.aY) fun b=>if b=0 then if((a.aB.length:Nat):Int) > 16 then Sum.inr (false) else dE c else Sum.inr (false)
def gY (a:df):Bool:=
 if((a.aB.length:Nat):Int) > 16 then false else if((a.ay.ls.length:Nat):Int) > 4 then false else lp (dE a.ay.ls) fun _=>true
theorem kV (w:World) (D:Nat→Prop) (a:df) (b:Option Addr) (x f:Nat) (X:Bool) (H:Own w D w []) (A:x=a.ay.ls.length) (j:Ro w D fun w'=>bu w' 2 b a.ay.ls.length (List.flatMap bB.cells a.ay.ls)) (O:a.ay.ls.length≤f∧a.ay.ls.length≤9223372036854775807) (hr:gY a=X):
    Calls Tryz.prog 89 #[.agg #[.bool a.dZ, .string ⟨List.toArray a.aB⟩, .slice b x f]] w (dC fun v w'=>v= .bool X∧Own w D w' []):=by
 subst A
 refine xU (args:= [.agg #[.bool a.dZ, .string ⟨List.toArray a.aB⟩, .slice b a.ay.ls.length f]]) Tryz.func89 rfl rfl rfl ?_
 show Wp _ _ _ [(0, .agg #[.bool a.dZ, .string ⟨List.toArray a.aB⟩, .slice b a.ay.ls.length f])] _ _
 refine sr ?_
 refine dG [.bool a.dZ, .string ⟨List.toArray a.aB⟩, .slice b a.ay.ls.length f] 129 H ?_
 intro B af m
 refine An rfl (xV (sr (Kz (.pointer (some ⟨B,1,none⟩)) (Lz (.string ⟨List.toArray a.aB⟩) m 0 Tryz.isAgg9 (Kz (.int .i64 ((a.aB.length:Nat):Int)) (Kz (.bool (decide (((a.aB.length:Nat):Int) > 16))) (Mz rfl ?_)))))))
 by_cases d:((a.aB.length:Nat):Int) > 16
 refine Sz (dT d) (Sz (dT d) (Sz (dT d) (Sz (dT d) (fw (.bool true) (yw rfl (dT d) rfl) (nt (jt (sr (An rfl (rt (tR (rs ?_)))))))))))
 have P:=m.pk []
 obtain rfl:_=false:=hr.symm.trans (ip d)
 exact⟨rfl,P⟩
 refine Gz (.pointer (some ⟨B,2,none⟩)) (dF d) (Gl (.slice b a.ay.ls.length f) (dF d) m 0 Tryz.isAgg127 (Gz (.int .i64 ((a.ay.ls.length:Nat):Int)) (dF d) (Gz (.bool (decide (((a.ay.ls.length:Nat):Int) > 4))) (dF d) (fw (.bool (decide (((a.ay.ls.length:Nat):Int) > 4))) (xW rfl (dF d) rfl) (nt ?_)))))
 by_cases n:((a.ay.ls.length:Nat):Int) > 4
 refine jT (dT n) (sr (An rfl (rt (tR (rs ?_)))))
 have Q:=m.pk []
 obtain rfl:_=false:=hr.symm.trans (et (iN d) (ip n))
 exact⟨rfl,Q⟩
 refine jF (dF n) (sk (xV (sr (Kz (.pointer (some ⟨B,2,none⟩)) (Lz (.slice b a.ay.ls.length f) m 0 Tryz.isAgg127 (Kz (.int .i64 ((a.ay.ls.length:Nat):Int)) (Mn rfl (bo ?_))))))))
 have R:=m.pk []
 obtain⟨C,E⟩:∃ q:Nat→World→Prop,q=fun(i:Nat) w'=>Own w D w' []∧(i≤a.ay.ls.length∧dE a.ay.ls=dE (List.drop i a.ay.ls)):=⟨_,rfl⟩
 have o:∀ {c:Nat} {w':World},C c w'↔Own w D w' []∧c≤a.ay.ls.length∧dE a.ay.ls=dE (List.drop c a.ay.ls):=by intros; subst E; exact Iff.rfl
 refine Wp.loop (fun i:Nat=> [(2, .bool false),(18, .int .i64 ((i:Nat):Int)),(17, .int .i64 ((a.ay.ls.length:Nat):Int)),(16, .slice b a.ay.ls.length f)]) C (fun i=>a.ay.ls.length - i) 0 ⟨rfl,rfl,rfl,rfl,trivial⟩ (o.2 ⟨R,by omega,rfl⟩) ?_
 rintro c ag F
 show Wp _ _ _ [(2, .bool false),(18, .int .i64 ((c:Nat):Int)),(17, .int .i64 ((a.ay.ls.length:Nat):Int)),(16, .slice b a.ay.ls.length f)] _ _
 obtain⟨p,Y,k⟩:=o.1 F
 refine sr (Kz (.bool (decide (((c:Nat):Int) < ((a.ay.ls.length:Nat):Int)))) (nt (xV ?_)))
 by_cases G:((c:Nat):Int) < ((a.ay.ls.length:Nat):Int)
 obtain⟨g,y⟩:=fE (ls:=a.ay.ls) (i:=c) bB.len (by decide) (p.ro j) (by first | omega | (simp; done) | (simp; omega))
 have r:=drop_at y
 refine jT (dT G) (sk (xV (bo (sr (fw (.pointer (some ⟨ab b,ao b+c *2,none⟩)) (yh (qx) rfl rfl ((p.ro j).addr (i:=c) (by omega)) (by omega)) (fw (.agg (bB.cells g).toArray) (yl rfl (yD (cs:=(bB.cells g)) Tryz.isAgg133 Tryz.sizeOf133 ((p.ro j).elem bB.len y (by decide)))) ?_))))))
 refine dG [.string ⟨List.toArray ([])⟩, .string ⟨List.toArray ([])⟩] 133 p ?_
 intro I ah S
 refine cZ (bB.cells g) 0 S Tryz.sizeOf133 ?_
 intro ai J
 refine ns (Kz (.pointer (some ⟨I,0,none⟩)) (Lz (.string ⟨List.toArray g.aY⟩) J 0 Tryz.isAgg9 ?_))
 obtain⟨s,l⟩:∃ q,dI g.aY=q:=⟨_,rfl⟩
 obtain⟨aj,K,Z,L,aa⟩:=yc J
 refine cl Tryz.call83 (iG _ _ g.aY s K l) ?_
 rintro _ ak ⟨rfl,M,z⟩
 have t:=L _ _ M
 replace z: ¬ (s=0)∨(1≤g.aY.length∧g.aY.length≤12):=z
 refine fw (.bool (decide (¬ (s=0)))) (yJ (e:= !(decide (s=0))) yk decide_not.symm) (Mz rfl ?_)
 by_cases h:s=0
 refine gw (.pointer (some ⟨I,1,none⟩)) (dF (Ba h)) yk (gw (.string ⟨List.toArray g.aB⟩) (dF (Ba h)) (yl rfl (bH.one Tryz.isAgg9 (yT (t.cls (i:=0) rfl) rfl))) (gw (.int .i64 ((g.aB.length:Nat):Int)) (dF (Ba h)) yk (gw (.bool (decide (((g.aB.length:Nat):Int) > 16))) (dF (Ba h)) yk (fw (.bool (decide (((g.aB.length:Nat):Int) > 16))) (xW rfl (dF (Ba h)) rfl) (nt ?_)))))
 by_cases u:((g.aB.length:Nat):Int) > 16
 refine jT (dT u) (sr (An rfl (rt (bR (tR (tR (bR (tR (rs ?_)))))))))
 have T:=t.pk []
 obtain rfl:_=false:=hr.symm.trans (et (iN d) (et (iN n) (gI (et (k) (et (congrArg (fun q=>dE q) r) (et (ae l) (et (ip h) (ip u))))))))
 exact⟨rfl,T⟩
 refine jF (dF u) (yV (bN (yg (xS (fw (.int .i64 ((c+1:Nat):Int)) (ym (e:=IntKind.i64.wrap (((c:Nat):Int)+1)) yk (by rw [A8 _ (by omega)]; omega)) (Mz rfl (xY ?_)))))))
 have U:=t.pk []
 exact yE (c+1) ⟨rfl,rfl,rfl,rfl,trivial⟩ (o.2 ⟨U,by omega,et (k) (et (congrArg (fun q=>dE q) r) (et (ae l) (et (ip h) (iN u))))⟩) (by show a.ay.ls.length - (c+1) < a.ay.ls.length - c; omega)
 refine Sz (dT h) (Sz (dT h) (Sz (dT h) (Sz (dT h) (fw (.bool true) (yw rfl (dT h) rfl) (nt (jt (sr (An rfl (rt (bR (tR (tR (bR (tR (rs ?_)))))))))))))))
 have V:=t.pk []
 obtain rfl:_=false:=hr.symm.trans (et (iN d) (et (iN n) (gI (et (k) (et (congrArg (fun q=>dE q) r) (et (ae l) (iN h)))))))
 exact⟨rfl,V⟩
 refine jF (dF G) (Wp.exit (xX ?_))
 have N:dE a.ay.ls=Sum.inl ():=et (k) (et (congrArg (fun q=>dE q) (fG (ls:=a.ay.ls) (i:=c) (by omega))) rfl)
 refine xX (yx (yg (sr (An rfl (rt (rs ?_))))))
 have W:=p.pk []
 obtain rfl:_=true:=hr.symm.trans (et (iN d) (et (iN n) (j3 N)))
 exact⟨rfl,W⟩
def cB (e:Nat) (c:dX):Nat→Nat→Unit ⊕ Bool
  | 0,b=>Sum.inl ()
  | f+1,b=>bnd (List.getD c.ah.ls b default) fun a=>bnd (gY (df.mk a.dZ a.aB (Ll.mk a.ay.ls))) fun d=>if d=true then cB e c f (b+1) else Sum.inr (false)
def fe (f:Nat) (d:dX):Nat→Nat→Unit ⊕ Bool
  | 0,b=>Sum.inl ()
  | e+1,b=>bnd (List.getD d.ah.ls b default) fun a=>bnd (gY (df.mk a.dZ a.aB (Ll.mk a.ay.ls))) fun c=>if c=true then fe f d e (b+1) else Sum.inr (false)
def bM (f:List dX):List dX→Nat→Unit ⊕ Bool
  | [],b=>Sum.inl ()
  | a::c,b=>bnd (cu a.aG 4) fun d=>if d=true then if((b:Nat):Int) > 0 then bnd (List.getD f (b - 1) default) fun e=>if a.aG≤e.aG then Sum.inr (false) else if((a.ah.ls.length:Nat):Int) > 4 then Sum.inr (false) else kN (cB b a a.ah.ls.length 0) fun _=>bM f c (b+1) else if((a.ah.ls.length:Nat):Int) > 4 then Sum.inr (false) else kN (fe b a a.ah.ls.length 0) fun _=>bM f c (b+1) else Sum.inr (false)
def jO (a:List dX):Bool:=
 if((a.length:Nat):Int) > 4 then false else lp (bM a a 0) fun _=>true
theorem oo (w:World) (D:Nat→Prop) (o:Option Addr) (n0 I:Nat) (d0:List aM) (f:List dX) (r0:Bool) (H:Own w D w []) (az:List.map yG d0=f) (T:Ro w D fun w'=>bu w' 4 o n0 (List.flatMap aM.cells d0)) (C:∀ x ∈ d0,Ro w D (fun w'=>bu w' 3 x.ah.A x.ah.ls.length (List.flatMap aA.cells x.ah.ls))∧(x.ah.ls.length≤x.ah.c∧x.ah.ls.length≤9223372036854775807)∧(∀ y1 ∈ x.ah.ls,Ro w D (fun w'=>bu w' 2 y1.ay.A y1.ay.ls.length (List.flatMap bB.cells y1.ay.ls))∧(y1.ay.ls.length≤y1.ay.c∧y1.ay.ls.length≤9223372036854775807))) (bQ:n0=f.length) (dP:f.length≤9223372036854775807) (hr:jO f=r0):
    Calls Tryz.prog 47 #[.slice o n0 I] w (dC fun v w'=>v= .bool r0∧Own w D w' []):=by
 subst bQ
 have hdl0:=bV az
 refine xU (args:= [.slice o f.length I]) Tryz.func47 rfl rfl rfl ?_
 show Wp _ _ _ [(0, .slice o f.length I)] _ _
 refine sr (An rfl (xV (sr (Mz rfl (Kz (.int .i64 ((f.length:Nat):Int)) (Kz (.bool (decide (((f.length:Nat):Int) > 4))) (nt ?_)))))))
 by_cases E:((f.length:Nat):Int) > 4
 refine jT (dT E) (sr (An rfl (rt (tR (rs ?_)))))
 have bS:Own w D w []:=H.pk []
 obtain rfl:_=false:=hr.symm.trans (ip E)
 exact⟨rfl,bS⟩
 refine jF (dF E) (sk (xV (sr (Mz rfl (Kz (.int .i64 ((f.length:Nat):Int)) (Mn rfl (bo ?_)))))))
 have bT:Own w D w []:=H.pk []
 obtain⟨aP,aQ⟩:∃ q:Nat→World→Prop,q=fun(i:Nat) w'=>Own w D w' []∧(i≤f.length∧bM f f 0=bM f (List.drop i f) i):=⟨_,rfl⟩
 have Q:∀ {b:Nat} {w':World},aP b w'↔Own w D w' []∧b≤f.length∧bM f f 0=bM f (List.drop b f) b:=by intros; subst aQ; exact Iff.rfl
 refine Wp.loop (fun i:Nat=> [(2, .bool false),(12, .int .i64 ((i:Nat):Int)),(11, .int .i64 ((f.length:Nat):Int)),(10, .slice o f.length I),(0, .slice o f.length I)]) aP (fun i=>f.length - i) 0 ⟨rfl,rfl,rfl,rfl,rfl,trivial⟩ (Q.2 ⟨bT,by omega,rfl⟩) ?_
 rintro b dQ aR
 show Wp _ _ _ [(2, .bool false),(12, .int .i64 ((b:Nat):Int)),(11, .int .i64 ((f.length:Nat):Int)),(10, .slice o f.length I),(0, .slice o f.length I)] _ _
 obtain⟨U,dn,u⟩:=Q.1 aR
 refine sr (Kz (.bool (decide (((b:Nat):Int) < ((f.length:Nat):Int)))) (nt (xV ?_)))
 by_cases aS:((b:Nat):Int) < ((f.length:Nat):Int)
 obtain⟨a,p⟩:=fE (ls:=d0) (i:=b) aM.len (by decide) (U.ro T) (by first | omega | (simp; done) | (simp; omega))
 have aT:=jK az p
 have dw:=(C _ (List.mem_of_getElem? p)).2.1
 have dx:List.length (List.map xZ a.ah.ls)=a.ah.ls.length:=List.length_map ..
 have B:=drop_at aT
 refine jT (dT aS) (sk (xV (bo (sr (Mz rfl (fw (.pointer (some ⟨ab o,ao o+b *4,none⟩)) (yh (rH) rfl rfl ((U.ro T).addr (i:=b) (by omega)) (by omega)) (fw (.agg (aM.cells a).toArray) (yl rfl (yD (cs:=(aM.cells a)) Tryz.isAgg84 Tryz.sizeOf84 ((U.ro T).elem aM.len p (by decide)))) ?_)))))))
 refine dG [.int .i64 0, .int .u64 0, .int .u64 0, .slice none 0 0] 84 U ?_
 intro g dR bU
 refine Az rfl ?_
 refine cZ (aM.cells a) 0 bU Tryz.sizeOf84 ?_
 intro bW bX
 refine nt (xV (xV ?_))
 have aj:=bX.drew
 refine yY [] (fun W=> ∃ L',Own w D W ([blk g (aM.cells a) 84]++L')) (by kernel_rfl) (by kernel_rfl) (yL (yL (fD.block (yL (yL (fD.block (yL yZ))))))) ⟨_,aj⟩ ?_
 revert aj
 generalize World.drew bW=dS
 intro aj
 refine GX.take (v:= .pointer (some ⟨g,0,none⟩)) (rs:= []) 0 rfl (by kernel_rfl) (fun _ _=>yk) (GX.take (v:= .int .i64 a.aG) (rs:= []) 1 rfl (by kernel_rfl) (fun _ ⟨_,V⟩=>yl rfl (bH.one Tryz.isAgg3 (yT (V.cls (i:=0) rfl) rfl))) ?_)
 obtain⟨s,y⟩:∃ q,cu a.aG 4=q:=⟨_,rfl⟩
 obtain⟨dU,aU,dz,aV,dA⟩:=yc aj
 refine GX.do 2 rfl (by kernel_rfl) (yC Tryz.call38 rfl (gP _ _ a.aG 4 s aU y) ?_)
 rintro _ dW ⟨rfl,aW⟩
 have F:=aV _ _ aW
 refine⟨.inr ⟨_,F⟩, ?_⟩
 refine GX.take (v:= .bool (!s)) (rs:= []) 3 rfl (by kernel_rfl) (fun _ _=>yk) (GX.take (v:= .bool (!s)) (rs:= []) 4 rfl (by kernel_rfl) (fun _ _=>yj rfl) ?_)
 rcases Bb (s) with m | m
 refine yf (v:= .int .i64 ((b:Nat):Int)) (rs:= []) 5 rfl rfl rfl (cn m) (by kernel_rfl) (fun _ _=>yj rfl) (yf (v:= .bool (decide (((b:Nat):Int) > 0))) (rs:= []) 6 rfl rfl rfl (cn m) (by kernel_rfl) (fun _ _=>yk) (yf (v:= .bool (decide (((b:Nat):Int) > 0))) (rs:= []) 7 rfl rfl rfl (cn m) (by kernel_rfl) (fun _ _=>yj rfl) ?_))
 by_cases h:((b:Nat):Int) > 0
 refine yf (v:= .pointer (some ⟨g,0,none⟩)) (rs:= []) 8 rfl rfl rfl (dT h) (by kernel_rfl) (fun _ _=>yk) (yf (v:= .int .i64 a.aG) (rs:= []) 9 rfl rfl rfl (dT h) (by kernel_rfl) (fun _ ⟨_,V⟩=>yl rfl (bH.one Tryz.isAgg3 (yT (V.cls (i:=0) rfl) rfl))) (yf (v:= .slice o f.length I) (rs:= []) 10 rfl rfl rfl (dT h) (by kernel_rfl) (fun _ _=>yj rfl) (yf (v:= .int .i64 ((b:Nat):Int)) (rs:= []) 11 rfl rfl rfl (dT h) (by kernel_rfl) (fun _ _=>yj rfl) (yf (v:= .int .i64 ((b - 1:Nat):Int)) (rs:= []) 12 rfl rfl rfl (dT h) (by kernel_rfl) (fun _ _=>ym (e:=IntKind.i64.wrap (((b:Nat):Int) - 1)) yk (by rw [A8 _ (by omega)]; omega)) ?_))))
 obtain⟨r,X⟩:=qw (ls:=d0) (i:=b - 1) (by first | omega | (simp; done) | (simp; omega))
 have R:=jK az X
 have dB:=(C _ (List.mem_of_getElem? X)).2.1
 have dD:List.length (List.map xZ r.ah.ls)=r.ah.ls.length:=List.length_map ..
 refine yf (v:= .pointer (some ⟨ab o,ao o+(b - 1) *4,none⟩)) (rs:= []) 13 rfl rfl rfl (dT h) (by kernel_rfl) (fun _ ⟨_,V⟩=>yh (rH) rfl rfl ((V.ro T).addr (i:=b - 1) (by omega)) (by omega)) (yf (v:= .pointer (some ⟨ab o,ao o+(b - 1) *4,none⟩)) (rs:= []) 14 rfl rfl rfl (dT h) (by kernel_rfl) (fun _ _=>yk) (yf (v:= .int .i64 r.aG) (rs:= []) 15 rfl rfl rfl (dT h) (by kernel_rfl) (fun _ ⟨_,V⟩=>yl rfl (bH.one Tryz.isAgg3 (((V.ro T).elem aM.len X (by decide)).at_ (k:=0) rfl))) (yf (v:= .bool (decide (a.aG≤r.aG))) (rs:= []) 16 rfl rfl rfl (dT h) (by kernel_rfl) (fun _ _=>yk) (yf (v:= .bool (decide (a.aG≤r.aG))) (rs:= []) 17 rfl rfl rfl (cn m) (by kernel_rfl) (fun _ _=>yw rfl (dT h) rfl) (GX.take (v:= .bool (decide (a.aG≤r.aG))) (rs:= []) 18 rfl (by kernel_rfl) (fun _ _=>xW rfl (cn m) rfl) (GX.take (v:= .bool (decide (a.aG≤r.aG))) (rs:= []) 19 rfl (by kernel_rfl) (fun _ _=>yj rfl) ?_))))))
 by_cases z:a.aG≤r.aG
 refine yn (rs:= []) 20 rfl rfl rfl (dT z) (by kernel_rfl) (yn (rs:= []) 21 rfl rfl rfl (dT z) (by kernel_rfl) (yn (rs:= []) 22 rfl rfl rfl (dT z) (by kernel_rfl) (yn (rs:= []) 23 rfl rfl rfl (dT z) (by kernel_rfl) (GX.take (v:= .bool true) (rs:= []) 24 rfl (by kernel_rfl) (fun _ _=>yw rfl (dT z) rfl) (yX (by kernel_rfl) (yg (jt (sr (An rfl (rt (tR (bR (tR (tR (bR (tR (rs ?_)))))))))))))))))
 have bY:=F.pk []
 obtain rfl:_=false:=hr.symm.trans (et (iN E) (gI (et (u) (et (congrArg (fun q=>bM f q b) B) (et (ae y) (et (ip m) (et (ip h) (et (ae (dV R)) (ip z)))))))))
 exact⟨rfl,bY⟩
 refine yf (v:= .pointer (some ⟨g,3,none⟩)) (rs:= []) 20 rfl rfl rfl (dF z) (by kernel_rfl) (fun _ _=>yk) (yf (v:= .slice a.ah.A a.ah.ls.length a.ah.c) (rs:= []) 21 rfl rfl rfl (dF z) (by kernel_rfl) (fun _ ⟨_,V⟩=>yl rfl (bH.one Tryz.isAgg82 (yT (V.cls (i:=0) rfl) rfl))) (yf (v:= .int .i64 ((List.length (List.map xZ a.ah.ls):Nat):Int)) (rs:= []) 22 rfl rfl rfl (dF z) (by kernel_rfl) (fun _ _=>ym (e:=((a.ah.ls.length:Nat):Int)) yk (by rw [List.length_map])) (yf (v:= .bool (decide (((List.length (List.map xZ a.ah.ls):Nat):Int) > 4))) (rs:= []) 23 rfl rfl rfl (dF z) (by kernel_rfl) (fun _ _=>yk) (GX.take (v:= .bool (decide (((List.length (List.map xZ a.ah.ls):Nat):Int) > 4))) (rs:= []) 24 rfl (by kernel_rfl) (fun _ _=>xW rfl (dF z) rfl) (yX (by kernel_rfl) (yg ?_))))))
 by_cases Y:((List.length (List.map xZ a.ah.ls):Nat):Int) > 4
 refine jT (dT Y) (sr (An rfl (rt (tR (bR (tR (tR (bR (tR (rs ?_))))))))))
 have bZ:=F.pk []
 obtain rfl:_=false:=hr.symm.trans (et (iN E) (gI (et (u) (et (congrArg (fun q=>bM f q b) B) (et (ae y) (et (ip m) (et (ip h) (et (ae (dV R)) (et (iN z) (ip Y))))))))))
 exact⟨rfl,bZ⟩
 refine jF (dF Y) (sk (sr (Kz (.pointer (some ⟨g,3,none⟩)) (Lz (.slice a.ah.A a.ah.ls.length a.ah.c) F 0 Tryz.isAgg82 (fw (.int .i64 ((List.length (List.map xZ a.ah.ls):Nat):Int)) (ym (e:=((a.ah.ls.length:Nat):Int)) yk (by rw [List.length_map])) (Mn rfl (bo ?_)))))))
 have cz:=F.pk [0]
 obtain⟨aX,aY⟩:∃ q:Nat→World→Prop,q=fun(i:Nat) w'=>Own w D w' [blk g (aM.cells a) 84]∧(i≤List.length (List.map xZ a.ah.ls)∧cB b (yG a) (List.length (List.map xZ a.ah.ls)) 0=cB b (yG a) ((List.length (List.map xZ a.ah.ls)) - i) i):=⟨_,rfl⟩
 have Z:∀ {l:Nat} {w':World},aX l w'↔Own w D w' [blk g (aM.cells a) 84]∧l≤List.length (List.map xZ a.ah.ls)∧cB b (yG a) (List.length (List.map xZ a.ah.ls)) 0=cB b (yG a) ((List.length (List.map xZ a.ah.ls)) - l) l:=by intros; subst aY; exact Iff.rfl
 refine Wp.loop (fun i:Nat=> [(2, .bool false),(45, .int .i64 ((i:Nat):Int)),(44, .int .i64 ((List.length (List.map xZ a.ah.ls):Nat):Int)),(43, .slice a.ah.A a.ah.ls.length a.ah.c),(42, .pointer (some ⟨g,3,none⟩)),(41, .bool (decide (((List.length (List.map xZ a.ah.ls):Nat):Int) > 4))),(40, .bool (decide (((List.length (List.map xZ a.ah.ls):Nat):Int) > 4))),(39, .int .i64 ((List.length (List.map xZ a.ah.ls):Nat):Int)),(38, .slice a.ah.A a.ah.ls.length a.ah.c),(37, .pointer (some ⟨g,3,none⟩)),(36, .bool (decide (a.aG≤r.aG))),(35, .bool (decide (a.aG≤r.aG))),(34, .bool (decide (a.aG≤r.aG))),(33, .bool (decide (a.aG≤r.aG))),(32, .int .i64 r.aG),(31, .pointer (some ⟨ab o,ao o+(b - 1) *4,none⟩)),(30, .pointer (some ⟨ab o,ao o+(b - 1) *4,none⟩)),(29, .int .i64 ((b - 1:Nat):Int)),(28, .int .i64 ((b:Nat):Int)),(27, .slice o f.length I),(26, .int .i64 a.aG),(25, .pointer (some ⟨g,0,none⟩)),(24, .bool (decide (((b:Nat):Int) > 0))),(23, .bool (decide (((b:Nat):Int) > 0))),(22, .int .i64 ((b:Nat):Int)),(21, .bool (!s)),(20, .bool (!s)),(19, .bool s),(18, .int .i64 a.aG),(17, .pointer (some ⟨g,0,none⟩)),(3, .int .i64 ((b:Nat):Int)),(4, .pointer (some ⟨g,0,none⟩)),(16, .agg (aM.cells a).toArray),(15, .pointer (some ⟨ab o,ao o+b *4,none⟩)),(14, .int .i64 ((b:Nat):Int)),(13, .bool (decide (((b:Nat):Int) < ((f.length:Nat):Int)))),(12, .int .i64 ((b:Nat):Int)),(11, .int .i64 ((f.length:Nat):Int)),(10, .slice o f.length I),(0, .slice o f.length I)]) aX (fun i=>(List.length (List.map xZ a.ah.ls)) - i) 0 ⟨rfl,rfl,rfl,rfl,rfl,rfl,rfl,rfl,rfl,rfl,rfl,rfl,rfl,rfl,rfl,rfl,rfl,rfl,rfl,rfl,rfl,rfl,rfl,rfl,rfl,rfl,rfl,rfl,rfl,rfl,rfl,rfl,rfl,rfl,rfl,rfl,rfl,rfl,rfl,rfl,trivial⟩ (Z.2 ⟨cz,by omega,rfl⟩) ?_
 rintro l dY aZ
 show Wp _ _ _ [(2, .bool false),(45, .int .i64 ((l:Nat):Int)),(44, .int .i64 ((List.length (List.map xZ a.ah.ls):Nat):Int)),(43, .slice a.ah.A a.ah.ls.length a.ah.c),(42, .pointer (some ⟨g,3,none⟩)),(41, .bool (decide (((List.length (List.map xZ a.ah.ls):Nat):Int) > 4))),(40, .bool (decide (((List.length (List.map xZ a.ah.ls):Nat):Int) > 4))),(39, .int .i64 ((List.length (List.map xZ a.ah.ls):Nat):Int)),(38, .slice a.ah.A a.ah.ls.length a.ah.c),(37, .pointer (some ⟨g,3,none⟩)),(36, .bool (decide (a.aG≤r.aG))),(35, .bool (decide (a.aG≤r.aG))),(34, .bool (decide (a.aG≤r.aG))),(33, .bool (decide (a.aG≤r.aG))),(32, .int .i64 r.aG),(31, .pointer (some ⟨ab o,ao o+(b - 1) *4,none⟩)),(30, .pointer (some ⟨ab o,ao o+(b - 1) *4,none⟩)),(29, .int .i64 ((b - 1:Nat):Int)),(28, .int .i64 ((b:Nat):Int)),(27, .slice o f.length I),(26, .int .i64 a.aG),(25, .pointer (some ⟨g,0,none⟩)),(24, .bool (decide (((b:Nat):Int) > 0))),(23, .bool (decide (((b:Nat):Int) > 0))),(22, .int .i64 ((b:Nat):Int)),(21, .bool (!s)),(20, .bool (!s)),(19, .bool s),(18, .int .i64 a.aG),(17, .pointer (some ⟨g,0,none⟩)),(3, .int .i64 ((b:Nat):Int)),(4, .pointer (some ⟨g,0,none⟩)),(16, .agg (aM.cells a).toArray),(15, .pointer (some ⟨ab o,ao o+b *4,none⟩)),(14, .int .i64 ((b:Nat):Int)),(13, .bool (decide (((b:Nat):Int) < ((f.length:Nat):Int)))),(12, .int .i64 ((b:Nat):Int)),(11, .int .i64 ((f.length:Nat):Int)),(10, .slice o f.length I),(0, .slice o f.length I)] _ _
 obtain⟨aa,dE,af⟩:=Z.1 aZ
 refine sr (Kz (.bool (decide (((l:Nat):Int) < ((List.length (List.map xZ a.ah.ls):Nat):Int)))) (nt (xV ?_)))
 by_cases bf:((l:Nat):Int) < ((List.length (List.map xZ a.ah.ls):Nat):Int)
 refine jT (dT bf) (sk (xV (bo (sr ?_))))
 obtain⟨t,S⟩:=fE (ls:=a.ah.ls) (i:=l) aA.len (by decide) (aa.ro (C _ (List.mem_of_getElem? p)).1) (by first | omega | (simp; done) | (simp; omega))
 have ak:=jK (rfl:List.map xZ a.ah.ls=List.map xZ a.ah.ls) S
 have dH:=((C _ (List.mem_of_getElem? p)).2.2 _ (List.mem_of_getElem? S)).2
 refine fw (.pointer (some ⟨ab a.ah.A,ao a.ah.A+l *3,none⟩)) (yh (rJ) rfl rfl ((aa.ro (C _ (List.mem_of_getElem? p)).1).addr (i:=l) (by omega)) (by omega)) (fw (.agg (aA.cells t).toArray) (yl rfl (yD (cs:=(aA.cells t)) Tryz.isAgg129 Tryz.sizeOf129 ((aa.ro (C _ (List.mem_of_getElem? p)).1).elem aA.len S (by decide)))) ?_)
 refine dG [.bool false, .string ⟨List.toArray ([])⟩, .slice none 0 0] 129 aa ?_
 intro dZ d9 cK
 refine cZ (aA.cells t) 0 cK Tryz.sizeOf129 ?_
 intro ed bg
 refine ns (La (aA.cells t) bg 0 Tryz.isAgg129 Tryz.sizeOf129 ?_)
 obtain⟨aB,ag⟩:∃ q,gY (df.mk t.dZ t.aB (Ll.mk t.ay.ls))=q:=⟨_,rfl⟩
 obtain⟨ek,bi,bn,bq,dI⟩:=yc bg
 refine cl Tryz.call89 (kV _ _ (df.mk t.dZ t.aB (Ll.mk t.ay.ls)) t.ay.A t.ay.ls.length t.ay.c aB bi rfl (bn _ ((C _ (List.mem_of_getElem? p)).2.2 _ (List.mem_of_getElem? S)).1) (show t.ay.ls.length≤t.ay.c∧t.ay.ls.length≤9223372036854775807 from by omega) ag) ?_
 rintro _ eu ⟨rfl,bv⟩
 have bz:=bq _ _ bv
 refine Kz (.bool (!aB)) (nt ?_)
 rcases Bb (aB) with J | J
 refine jF (cn J) (yV (bN (yg (xS (fw (.int .i64 ((l+1:Nat):Int)) (ym (e:=IntKind.i64.wrap (((l:Nat):Int)+1)) yk (by rw [A8 _ (by omega)]; omega)) (Mz rfl (xY ?_)))))))
 have bA:=bz.pk [1]
 exact yE (l+1) ⟨rfl,rfl,rfl,rfl,rfl,rfl,rfl,rfl,rfl,rfl,rfl,rfl,rfl,rfl,rfl,rfl,rfl,rfl,rfl,rfl,rfl,rfl,rfl,rfl,rfl,rfl,rfl,rfl,rfl,rfl,rfl,rfl,rfl,rfl,rfl,rfl,rfl,rfl,rfl,rfl,trivial⟩ (Z.2 ⟨bA,by omega,et (af) (et (congrArg (fun q=>cB b (yG a) q l) (nI (n:=List.length (List.map xZ a.ah.ls)) (i:=l) (by omega))) (et (ae (dV ak)) (et (ae ag) (ip J))))⟩) (by show (List.length (List.map xZ a.ah.ls)) - (l+1) < (List.length (List.map xZ a.ah.ls)) - l; omega)
 refine jT (cn J) (sr (An rfl (rt (bR (tR (tR (bR (bR (tR (tR (bR (tR (rs ?_)))))))))))))
 have bC:=bz.pk []
 obtain rfl:_=false:=hr.symm.trans (et (iN E) (gI (et (u) (et (congrArg (fun q=>bM f q b) B) (et (ae y) (et (ip m) (et (ip h) (et (ae (dV R)) (et (iN z) (et (iN Y) (mh (et (af) (et (congrArg (fun q=>cB b (yG a) q l) (nI (n:=List.length (List.map xZ a.ah.ls)) (i:=l) (by omega))) (et (ae (dV ak)) (et (ae ag) (kG J))))))))))))))))
 exact⟨rfl,bC⟩
 refine jF (dF bf) (Wp.exit (xX ?_))
 have aC:cB b (yG a) (List.length (List.map xZ a.ah.ls)) 0=Sum.inl ():=et (af) (et (congrArg (fun q=>cB b (yG a) q l) (pQ (n:=List.length (List.map xZ a.ah.ls)) (i:=l) (by omega))) rfl)
 refine xX (yx (bN (yg (xS (fw (.int .i64 ((b+1:Nat):Int)) (ym (e:=IntKind.i64.wrap (((b:Nat):Int)+1)) yk (by rw [A8 _ (by omega)]; omega)) (Mz rfl (xY ?_)))))))
 have bD:=aa.pk []
 exact yE (b+1) ⟨rfl,rfl,rfl,rfl,rfl,trivial⟩ (Q.2 ⟨bD,by omega,et (u) (et (congrArg (fun q=>bM f q b) B) (et (ae y) (et (ip m) (et (ip h) (et (ae (dV R)) (et (iN z) (et (iN Y) (nX aC))))))))⟩) (by show f.length - (b+1) < f.length - b; omega)
 refine yn (rs:= []) 8 rfl rfl rfl (dF h) (by kernel_rfl) (yn (rs:= []) 9 rfl rfl rfl (dF h) (by kernel_rfl) (yn (rs:= []) 10 rfl rfl rfl (dF h) (by kernel_rfl) (yn (rs:= []) 11 rfl rfl rfl (dF h) (by kernel_rfl) (yn (rs:= []) 12 rfl rfl rfl (dF h) (by kernel_rfl) (yn (rs:= []) 13 rfl rfl rfl (dF h) (by kernel_rfl) (yn (rs:= []) 14 rfl rfl rfl (dF h) (by kernel_rfl) (yn (rs:= []) 15 rfl rfl rfl (dF h) (by kernel_rfl) (yn (rs:= []) 16 rfl rfl rfl (dF h) (by kernel_rfl) (yf (v:= .bool false) (rs:= []) 17 rfl rfl rfl (cn m) (by kernel_rfl) (fun _ _=>xW rfl (dF h) rfl) (GX.take (v:= .bool false) (rs:= []) 18 rfl (by kernel_rfl) (fun _ _=>xW rfl (cn m) rfl) (GX.take (v:= .bool false) (rs:= []) 19 rfl (by kernel_rfl) (fun _ _=>yj rfl) (yf (v:= .pointer (some ⟨g,3,none⟩)) (rs:= []) 20 rfl rfl rfl rfl (by kernel_rfl) (fun _ _=>yk) (yf (v:= .slice a.ah.A a.ah.ls.length a.ah.c) (rs:= []) 21 rfl rfl rfl rfl (by kernel_rfl) (fun _ ⟨_,V⟩=>yl rfl (bH.one Tryz.isAgg82 (yT (V.cls (i:=0) rfl) rfl))) (yf (v:= .int .i64 ((List.length (List.map xZ a.ah.ls):Nat):Int)) (rs:= []) 22 rfl rfl rfl rfl (by kernel_rfl) (fun _ _=>ym (e:=((a.ah.ls.length:Nat):Int)) yk (by rw [List.length_map])) (yf (v:= .bool (decide (((List.length (List.map xZ a.ah.ls):Nat):Int) > 4))) (rs:= []) 23 rfl rfl rfl rfl (by kernel_rfl) (fun _ _=>yk) (GX.take (v:= .bool (decide (((List.length (List.map xZ a.ah.ls):Nat):Int) > 4))) (rs:= []) 24 rfl (by kernel_rfl) (fun _ _=>xW rfl rfl rfl) (yX (by kernel_rfl) (yg ?_))))))))))))))))))
 by_cases K:((List.length (List.map xZ a.ah.ls):Nat):Int) > 4
 refine jT (dT K) (sr (An rfl (rt (tR (bR (tR (tR (bR (tR (rs ?_))))))))))
 have bE:=F.pk []
 obtain rfl:_=false:=hr.symm.trans (et (iN E) (gI (et (u) (et (congrArg (fun q=>bM f q b) B) (et (ae y) (et (ip m) (et (iN h) (ip K))))))))
 exact⟨rfl,bE⟩
 refine jF (dF K) (sk (sr (Kz (.pointer (some ⟨g,3,none⟩)) (Lz (.slice a.ah.A a.ah.ls.length a.ah.c) F 0 Tryz.isAgg82 (fw (.int .i64 ((List.length (List.map xZ a.ah.ls):Nat):Int)) (ym (e:=((a.ah.ls.length:Nat):Int)) yk (by rw [List.length_map])) (Mn rfl (bo ?_)))))))
 have bF:=F.pk [0]
 obtain⟨au,aD⟩:∃ q:Nat→World→Prop,q=fun(i:Nat) w'=>Own w D w' [blk g (aM.cells a) 84]∧(i≤List.length (List.map xZ a.ah.ls)∧fe b (yG a) (List.length (List.map xZ a.ah.ls)) 0=fe b (yG a) ((List.length (List.map xZ a.ah.ls)) - i) i):=⟨_,rfl⟩
 have N:∀ {d:Nat} {w':World},au d w'↔Own w D w' [blk g (aM.cells a) 84]∧d≤List.length (List.map xZ a.ah.ls)∧fe b (yG a) (List.length (List.map xZ a.ah.ls)) 0=fe b (yG a) ((List.length (List.map xZ a.ah.ls)) - d) d:=by intros; subst aD; exact Iff.rfl
 refine Wp.loop (fun i:Nat=> [(2, .bool false),(45, .int .i64 ((i:Nat):Int)),(44, .int .i64 ((List.length (List.map xZ a.ah.ls):Nat):Int)),(43, .slice a.ah.A a.ah.ls.length a.ah.c),(42, .pointer (some ⟨g,3,none⟩)),(41, .bool (decide (((List.length (List.map xZ a.ah.ls):Nat):Int) > 4))),(40, .bool (decide (((List.length (List.map xZ a.ah.ls):Nat):Int) > 4))),(39, .int .i64 ((List.length (List.map xZ a.ah.ls):Nat):Int)),(38, .slice a.ah.A a.ah.ls.length a.ah.c),(37, .pointer (some ⟨g,3,none⟩)),(36, .bool false),(35, .bool false),(34, .bool false),(33,undef),(32,undef),(31,undef),(30,undef),(29,undef),(28,undef),(27,undef),(26,undef),(25,undef),(24, .bool (decide (((b:Nat):Int) > 0))),(23, .bool (decide (((b:Nat):Int) > 0))),(22, .int .i64 ((b:Nat):Int)),(21, .bool (!s)),(20, .bool (!s)),(19, .bool s),(18, .int .i64 a.aG),(17, .pointer (some ⟨g,0,none⟩)),(3, .int .i64 ((b:Nat):Int)),(4, .pointer (some ⟨g,0,none⟩)),(16, .agg (aM.cells a).toArray),(15, .pointer (some ⟨ab o,ao o+b *4,none⟩)),(14, .int .i64 ((b:Nat):Int)),(13, .bool (decide (((b:Nat):Int) < ((f.length:Nat):Int)))),(12, .int .i64 ((b:Nat):Int)),(11, .int .i64 ((f.length:Nat):Int)),(10, .slice o f.length I),(0, .slice o f.length I)]) au (fun i=>(List.length (List.map xZ a.ah.ls)) - i) 0 ⟨rfl,rfl,rfl,rfl,rfl,rfl,rfl,rfl,rfl,rfl,rfl,rfl,rfl,rfl,rfl,rfl,rfl,rfl,rfl,rfl,rfl,rfl,rfl,rfl,rfl,rfl,rfl,rfl,rfl,rfl,rfl,rfl,rfl,rfl,rfl,rfl,rfl,rfl,rfl,rfl,trivial⟩ (N.2 ⟨bF,by omega,rfl⟩) ?_
 rintro d dJ aF
 show Wp _ _ _ [(2, .bool false),(45, .int .i64 ((d:Nat):Int)),(44, .int .i64 ((List.length (List.map xZ a.ah.ls):Nat):Int)),(43, .slice a.ah.A a.ah.ls.length a.ah.c),(42, .pointer (some ⟨g,3,none⟩)),(41, .bool (decide (((List.length (List.map xZ a.ah.ls):Nat):Int) > 4))),(40, .bool (decide (((List.length (List.map xZ a.ah.ls):Nat):Int) > 4))),(39, .int .i64 ((List.length (List.map xZ a.ah.ls):Nat):Int)),(38, .slice a.ah.A a.ah.ls.length a.ah.c),(37, .pointer (some ⟨g,3,none⟩)),(36, .bool false),(35, .bool false),(34, .bool false),(33,undef),(32,undef),(31,undef),(30,undef),(29,undef),(28,undef),(27,undef),(26,undef),(25,undef),(24, .bool (decide (((b:Nat):Int) > 0))),(23, .bool (decide (((b:Nat):Int) > 0))),(22, .int .i64 ((b:Nat):Int)),(21, .bool (!s)),(20, .bool (!s)),(19, .bool s),(18, .int .i64 a.aG),(17, .pointer (some ⟨g,0,none⟩)),(3, .int .i64 ((b:Nat):Int)),(4, .pointer (some ⟨g,0,none⟩)),(16, .agg (aM.cells a).toArray),(15, .pointer (some ⟨ab o,ao o+b *4,none⟩)),(14, .int .i64 ((b:Nat):Int)),(13, .bool (decide (((b:Nat):Int) < ((f.length:Nat):Int)))),(12, .int .i64 ((b:Nat):Int)),(11, .int .i64 ((f.length:Nat):Int)),(10, .slice o f.length I),(0, .slice o f.length I)] _ _
 obtain⟨L,cO,O⟩:=N.1 aF
 refine sr (Kz (.bool (decide (((d:Nat):Int) < ((List.length (List.map xZ a.ah.ls):Nat):Int)))) (nt (xV ?_)))
 by_cases av:((d:Nat):Int) < ((List.length (List.map xZ a.ah.ls):Nat):Int)
 refine jT (dT av) (sk (xV (bo (sr ?_))))
 obtain⟨j,G⟩:=fE (ls:=a.ah.ls) (i:=d) aA.len (by decide) (L.ro (C _ (List.mem_of_getElem? p)).1) (by first | omega | (simp; done) | (simp; omega))
 have ah:=jK (rfl:List.map xZ a.ah.ls=List.map xZ a.ah.ls) G
 have dh:=((C _ (List.mem_of_getElem? p)).2.2 _ (List.mem_of_getElem? G)).2
 refine fw (.pointer (some ⟨ab a.ah.A,ao a.ah.A+d *3,none⟩)) (yh (rJ) rfl rfl ((L.ro (C _ (List.mem_of_getElem? p)).1).addr (i:=d) (by omega)) (by omega)) (fw (.agg (aA.cells j).toArray) (yl rfl (yD (cs:=(aA.cells j)) Tryz.isAgg129 Tryz.sizeOf129 ((L.ro (C _ (List.mem_of_getElem? p)).1).elem aA.len G (by decide)))) ?_)
 refine dG [.bool false, .string ⟨List.toArray ([])⟩, .slice none 0 0] 129 L ?_
 intro dK dL bG
 refine cZ (aA.cells j) 0 bG Tryz.sizeOf129 ?_
 intro dM ax
 refine ns (La (aA.cells j) ax 0 Tryz.isAgg129 Tryz.sizeOf129 ?_)
 obtain⟨ai,P⟩:∃ q,gY (df.mk j.dZ j.aB (Ll.mk j.ay.ls))=q:=⟨_,rfl⟩
 obtain⟨dN,aG,aH,aI,di⟩:=yc ax
 refine cl Tryz.call89 (kV _ _ (df.mk j.dZ j.aB (Ll.mk j.ay.ls)) j.ay.A j.ay.ls.length j.ay.c ai aG rfl (aH _ ((C _ (List.mem_of_getElem? p)).2.2 _ (List.mem_of_getElem? G)).1) (show j.ay.ls.length≤j.ay.c∧j.ay.ls.length≤9223372036854775807 from by omega) P) ?_
 rintro _ dO ⟨rfl,aJ⟩
 have ay:=aI _ _ aJ
 refine Kz (.bool (!ai)) (nt ?_)
 rcases Bb (ai) with M | M
 refine jF (cn M) (yV (bN (yg (xS (fw (.int .i64 ((d+1:Nat):Int)) (ym (e:=IntKind.i64.wrap (((d:Nat):Int)+1)) yk (by rw [A8 _ (by omega)]; omega)) (Mz rfl (xY ?_)))))))
 have bI:=ay.pk [1]
 exact yE (d+1) ⟨rfl,rfl,rfl,rfl,rfl,rfl,rfl,rfl,rfl,rfl,rfl,rfl,rfl,rfl,rfl,rfl,rfl,rfl,rfl,rfl,rfl,rfl,rfl,rfl,rfl,rfl,rfl,rfl,rfl,rfl,rfl,rfl,rfl,rfl,rfl,rfl,rfl,rfl,rfl,rfl,trivial⟩ (N.2 ⟨bI,by omega,et (O) (et (congrArg (fun q=>fe b (yG a) q d) (nI (n:=List.length (List.map xZ a.ah.ls)) (i:=d) (by omega))) (et (ae (dV ah)) (et (ae P) (ip M))))⟩) (by show (List.length (List.map xZ a.ah.ls)) - (d+1) < (List.length (List.map xZ a.ah.ls)) - d; omega)
 refine jT (cn M) (sr (An rfl (rt (bR (tR (tR (bR (bR (tR (tR (bR (tR (rs ?_)))))))))))))
 have bJ:=ay.pk []
 obtain rfl:_=false:=hr.symm.trans (et (iN E) (gI (et (u) (et (congrArg (fun q=>bM f q b) B) (et (ae y) (et (ip m) (et (iN h) (et (iN K) (mh (et (O) (et (congrArg (fun q=>fe b (yG a) q d) (nI (n:=List.length (List.map xZ a.ah.ls)) (i:=d) (by omega))) (et (ae (dV ah)) (et (ae P) (kG M))))))))))))))
 exact⟨rfl,bJ⟩
 refine jF (dF av) (Wp.exit (xX ?_))
 have aK:fe b (yG a) (List.length (List.map xZ a.ah.ls)) 0=Sum.inl ():=et (O) (et (congrArg (fun q=>fe b (yG a) q d) (pQ (n:=List.length (List.map xZ a.ah.ls)) (i:=d) (by omega))) rfl)
 refine xX (yx (bN (yg (xS (fw (.int .i64 ((b+1:Nat):Int)) (ym (e:=IntKind.i64.wrap (((b:Nat):Int)+1)) yk (by rw [A8 _ (by omega)]; omega)) (Mz rfl (xY ?_)))))))
 have bK:=L.pk []
 exact yE (b+1) ⟨rfl,rfl,rfl,rfl,rfl,trivial⟩ (Q.2 ⟨bK,by omega,et (u) (et (congrArg (fun q=>bM f q b) B) (et (ae y) (et (ip m) (et (iN h) (et (iN K) (nX aK))))))⟩) (by show f.length - (b+1) < f.length - b; omega)
 refine yn (rs:= []) 5 rfl rfl rfl (cn m) (by kernel_rfl) (yn (rs:= []) 6 rfl rfl rfl (cn m) (by kernel_rfl) (yn (rs:= []) 7 rfl rfl rfl (cn m) (by kernel_rfl) (yP (rs:= []) 8 rfl rfl rfl (by kernel_rfl) (yP (rs:= []) 9 rfl rfl rfl (by kernel_rfl) (yP (rs:= []) 10 rfl rfl rfl (by kernel_rfl) (yP (rs:= []) 11 rfl rfl rfl (by kernel_rfl) (yP (rs:= []) 12 rfl rfl rfl (by kernel_rfl) (yP (rs:= []) 13 rfl rfl rfl (by kernel_rfl) (yP (rs:= []) 14 rfl rfl rfl (by kernel_rfl) (yP (rs:= []) 15 rfl rfl rfl (by kernel_rfl) (yP (rs:= []) 16 rfl rfl rfl (by kernel_rfl) (yn (rs:= []) 17 rfl rfl rfl (cn m) (by kernel_rfl) (GX.take (v:= .bool true) (rs:= []) 18 rfl (by kernel_rfl) (fun _ _=>yw rfl (cn m) rfl) (GX.take (v:= .bool true) (rs:= []) 19 rfl (by kernel_rfl) (fun _ _=>yj rfl) (yn (rs:= []) 20 rfl rfl rfl rfl (by kernel_rfl) (yn (rs:= []) 21 rfl rfl rfl rfl (by kernel_rfl) (yn (rs:= []) 22 rfl rfl rfl rfl (by kernel_rfl) (yn (rs:= []) 23 rfl rfl rfl rfl (by kernel_rfl) (GX.take (v:= .bool true) (rs:= []) 24 rfl (by kernel_rfl) (fun _ _=>yw rfl rfl rfl) (yX (by kernel_rfl) (yg (jt (sr (An rfl (rt (tR (bR (tR (tR (bR (tR (rs ?_))))))))))))))))))))))))))))))))
 have bL:=F.pk []
 obtain rfl:_=false:=hr.symm.trans (et (iN E) (gI (et (u) (et (congrArg (fun q=>bM f q b) B) (et (ae y) (kG m))))))
 exact⟨rfl,bL⟩
 refine jF (dF aS) (Wp.exit (xX ?_))
 have aL:bM f f 0=Sum.inl ():=et (u) (et (congrArg (fun q=>bM f q b) (fG (ls:=f) (i:=b) (by omega))) rfl)
 refine xX (yx (yg (sr (An rfl (rt (rs ?_))))))
 have bO:=U.pk []
 obtain rfl:_=true:=hr.symm.trans (et (iN E) (j3 aL))
 exact⟨rfl,bO⟩
def bn (c:bL):Int:=
 bnd (cu c.af 4) fun d=>if d=true then if((c.az:Nat):Int) < 2147483648 then bnd (jy c) fun e=>if e=true then bnd (jr c) fun f=>if f=true then bnd (jO c.aP.ls) fun g=>bnd (bS g) fun h=>h else bnd (bS false) fun i=>i else bnd (bS false) fun j=>j else bnd (bS false) fun a=>a else bnd (bS false) fun b=>b
set_option maxHeartbeats 1000000 in
theorem kS (w:World) (D:Nat→Prop) (a:bL) (h:Option Addr) (P e:Nat) (i:Option Addr) (Q f:Nat) (z:List au) (g:Option Addr) (R d:Nat) (n:List aM) (r0:Int) (H:Own w D w []) (Z:P=a.ag.ls.length) (G:Ro w D fun w'=>bu w' 2 h a.ag.ls.length (List.flatMap aC.cells a.ag.ls)) (bG:a.ag.ls.length≤e∧a.ag.ls.length≤9223372036854775807) (B:List.map yz z=a.ak.ls) (aa:Q=a.ak.ls.length) (I:Ro w D fun w'=>bu w' 5 i a.ak.ls.length (List.flatMap au.cells z)) (bH:a.ak.ls.length≤f∧a.ak.ls.length≤9223372036854775807) (u:∀ x ∈ z,Ro w D (fun w'=>bu w' 1 x.af.A x.af.ls.length (List.flatMap (eI .i64) x.af.ls))∧(x.af.ls.length≤x.af.c∧x.af.ls.length≤9223372036854775807)) (y:List.map yG n=a.aP.ls) (af:R=a.aP.ls.length) (C:Ro w D fun w'=>bu w' 4 g a.aP.ls.length (List.flatMap aM.cells n)) (bI:a.aP.ls.length≤d∧a.aP.ls.length≤9223372036854775807) (b:∀ x ∈ n,Ro w D (fun w'=>bu w' 3 x.ah.A x.ah.ls.length (List.flatMap aA.cells x.ah.ls))∧(x.ah.ls.length≤x.ah.c∧x.ah.ls.length≤9223372036854775807)∧(∀ E ∈ x.ah.ls,Ro w D (fun w'=>bu w' 2 E.ay.A E.ay.ls.length (List.flatMap bB.cells E.ay.ls))∧(E.ay.ls.length≤E.ay.c∧E.ay.ls.length≤9223372036854775807))) (dz:a.ag.ls.length≤140737488355328∧a.ak.ls.length≤140737488355328∧a.aP.ls.length≤140737488355328) (hr:bn a=r0):
    Calls Tryz.prog 13 #[.agg #[.int .i64 a.af, .int .u64 ((a.az:Nat):Int), .int .u64 ((a.bC:Nat):Int), .int .u64 ((a.aS:Nat):Int), .slice h P e, .slice i Q f, .slice g R d]] w (dC fun v w'=>v= .int .i64 r0∧Own w D w' []):=by
 subst Z aa af
 have hdl0x1:=bV B
 have hdl0x2:=bV y
 refine xU (args:= [.agg #[.int .i64 a.af, .int .u64 ((a.az:Nat):Int), .int .u64 ((a.bC:Nat):Int), .int .u64 ((a.aS:Nat):Int), .slice h a.ag.ls.length e, .slice i a.ak.ls.length f, .slice g a.aP.ls.length d]]) Tryz.func13 rfl rfl rfl ?_
 show Wp _ _ _ [(0, .agg #[.int .i64 a.af, .int .u64 ((a.az:Nat):Int), .int .u64 ((a.bC:Nat):Int), .int .u64 ((a.aS:Nat):Int), .slice h a.ag.ls.length e, .slice i a.ak.ls.length f, .slice g a.aP.ls.length d])] _ _
 refine sr ?_
 refine dG [.int .i64 a.af, .int .u64 ((a.az:Nat):Int), .int .u64 ((a.bC:Nat):Int), .int .u64 ((a.aS:Nat):Int), .slice h a.ag.ls.length e, .slice i a.ak.ls.length f, .slice g a.aP.ls.length d] 35 H ?_
 intro ag dA aF
 refine Ar rfl (Kz (.pointer (some ⟨ag,0,none⟩)) (Lz (.int .i64 a.af) aF 0 Tryz.isAgg3 ?_))
 obtain⟨aG,o⟩:∃ q,cu a.af 4=q:=⟨_,rfl⟩
 obtain⟨dB,aH,bX,aI,bY⟩:=yc aF
 refine cl Tryz.call38 (gP _ _ a.af 4 aG aH o) ?_
 rintro _ dD ⟨rfl,aJ⟩
 have J:=aI _ _ aJ
 refine Mz rfl ?_
 rcases Bb (aG) with j | j
 refine Gz (.pointer (some ⟨ag,1,none⟩)) j (Gl (.int .u64 ((a.az:Nat):Int)) j J 0 Tryz.isAgg22 (Gz (.bool (decide (((a.az:Nat):Int) < 2147483648))) j (fw (.bool (decide (((a.az:Nat):Int) < 2147483648))) (yw rfl j rfl) (Mz rfl ?_))))
 by_cases l:((a.az:Nat):Int) < 2147483648
 refine Ga ([.int .i64 a.af, .int .u64 ((a.az:Nat):Int), .int .u64 ((a.bC:Nat):Int), .int .u64 ((a.aS:Nat):Int), .slice h a.ag.ls.length e, .slice i a.ak.ls.length f, .slice g a.aP.ls.length d]) (dT l) J 0 Tryz.isAgg35 Tryz.sizeOf35 ?_
 obtain⟨ah,F⟩:∃ q,jy a=q:=⟨_,rfl⟩
 obtain⟨dE,aK,p,aL,bZ⟩:=yc J
 refine nK (decide_eq_true l) Tryz.call45 (nz _ _ a h a.ag.ls.length e i a.ak.ls.length f z g a.aP.ls.length d n ah aK rfl (p _ G) (show a.ag.ls.length≤e∧a.ag.ls.length≤9223372036854775807 from by omega) B rfl (p _ I) (show a.ak.ls.length≤f∧a.ak.ls.length≤9223372036854775807 from by omega) (fun r s=>⟨p _ (u r s).1,(u r s).2⟩) y rfl (p _ C) (show a.aP.ls.length≤d∧a.aP.ls.length≤9223372036854775807 from by omega) (fun r s=>⟨p _ (b r s).1,(b r s).2.1,(fun E S=>⟨p _ ((b r s).2.2 E S).1,((b r s).2.2 E S).2⟩)⟩) (by first | omega | (dsimp only; omega) | (simp only [List.length_nil]; omega) | decide) F) ?_
 rintro _ dH ⟨rfl,aN⟩
 have ai:=aL _ _ aN
 refine fw (.bool ah) (yw rfl (dT l) rfl) (Mz rfl ?_)
 rcases Bb (ah) with m | m
 refine Ga ([.int .i64 a.af, .int .u64 ((a.az:Nat):Int), .int .u64 ((a.bC:Nat):Int), .int .u64 ((a.aS:Nat):Int), .slice h a.ag.ls.length e, .slice i a.ak.ls.length f, .slice g a.aP.ls.length d]) m ai 0 Tryz.isAgg35 Tryz.sizeOf35 ?_
 obtain⟨aj,K⟩:∃ q,jr a=q:=⟨_,rfl⟩
 obtain⟨dI,aO,t,aP,cz⟩:=yc ai
 refine zm rfl rfl m rfl (yC Tryz.call46 rfl (mY _ _ a h a.ag.ls.length e i a.ak.ls.length f z g a.aP.ls.length d n aj aO rfl (t _ G) (show a.ag.ls.length≤e∧a.ag.ls.length≤9223372036854775807 from by omega) B rfl (t _ I) (show a.ak.ls.length≤f∧a.ak.ls.length≤9223372036854775807 from by omega) (fun r s=>⟨t _ (u r s).1,(u r s).2⟩) y rfl (t _ C) (show a.aP.ls.length≤d∧a.aP.ls.length≤9223372036854775807 from by omega) (fun r s=>⟨t _ (b r s).1,(b r s).2.1,(fun E S=>⟨t _ ((b r s).2.2 E S).1,((b r s).2.2 E S).2⟩)⟩) (by first | omega | (dsimp only; omega) | (simp only [List.length_nil]; omega) | decide) K) ?_)
 rintro _ dJ ⟨rfl,aQ⟩
 have ak:=aP _ _ aQ
 refine fw (.bool aj) (yw rfl m rfl) (Mz rfl ?_)
 rcases Bb (aj) with k | k
 refine Gz (.pointer (some ⟨ag,6,none⟩)) k (Gl (.slice g a.aP.ls.length d) k ak 0 Tryz.isAgg33 ?_)
 obtain⟨O,T⟩:∃ q,jO a.aP.ls=q:=⟨_,rfl⟩
 obtain⟨dK,aR,L,aS,cB⟩:=yc ak
 refine zm rfl rfl k rfl (yC Tryz.call47 rfl (oo _ _ g a.aP.ls.length d n a.aP.ls O aR y (L _ C) (fun r s=>⟨L _ (b r s).1,(b r s).2.1,(fun E S=>⟨L _ ((b r s).2.2 E S).1,((b r s).2.2 E S).2⟩)⟩) rfl (by omega) T) ?_)
 rintro _ dL ⟨rfl,aT⟩
 have bJ:=aS _ _ aT
 refine fw (.bool O) (yw rfl k rfl) ?_
 obtain⟨aU,U⟩:∃ q,bS O=q:=⟨_,rfl⟩
 obtain⟨dM,aV,cK,aW,cO⟩:=yc bJ
 refine cl Tryz.call37 (gp _ _ O aU aV U) ?_
 rintro _ dN ⟨rfl,aX⟩
 have bK:=aW _ _ aX
 refine An rfl (rt (rs ?_))
 have bM:=bK.pk []
 obtain rfl:_=aU:=hr.symm.trans (et (ae o) (et (ip j) (et (ip l) (et (ae F) (et (ip m) (et (ae K) (et (ip k) (et (ae T) (ae U)))))))))
 exact⟨rfl,bM⟩
 refine Sz k (Sz k (Sz k (fw (.bool false) (xW rfl k rfl) ?_)))
 obtain⟨aY,V⟩:∃ q,bS false=q:=⟨_,rfl⟩
 obtain⟨dO,aZ,cZ,bf,df⟩:=yc ak
 refine cl Tryz.call37 (gp _ _ false aY aZ V) ?_
 rintro _ dP ⟨rfl,bg⟩
 have bN:=bf _ _ bg
 refine An rfl (rt (rs ?_))
 have bO:=bN.pk []
 obtain rfl:_=aY:=hr.symm.trans (et (ae o) (et (ip j) (et (ip l) (et (ae F) (et (ip m) (et (ae K) (et (kG k) (ae V))))))))
 exact⟨rfl,bO⟩
 refine Sz m (Sz m (fw (.bool false) (xW rfl m rfl) (Mz rfl (Sz rfl (Sz rfl (Sz rfl (fw (.bool false) (xW rfl rfl rfl) ?_)))))))
 obtain⟨bi,W⟩:∃ q,bS false=q:=⟨_,rfl⟩
 obtain⟨dQ,bq,dh,bv,di⟩:=yc ai
 refine cl Tryz.call37 (gp _ _ false bi bq W) ?_
 rintro _ dR ⟨rfl,bz⟩
 have bP:=bv _ _ bz
 refine An rfl (rt (rs ?_))
 have bA:=bP.pk []
 obtain rfl:_=bi:=hr.symm.trans (et (ae o) (et (ip j) (et (ip l) (et (ae F) (et (kG m) (ae W))))))
 exact⟨rfl,bA⟩
 refine Sz (dF l) (Sz (dF l) (fw (.bool false) (xW rfl (dF l) rfl) (Mz rfl (Sz rfl (Sz rfl (fw (.bool false) (xW rfl rfl rfl) (Mz rfl (Sz rfl (Sz rfl (Sz rfl (fw (.bool false) (xW rfl rfl rfl) ?_)))))))))))
 obtain⟨X,M⟩:∃ q,bS false=q:=⟨_,rfl⟩
 obtain⟨dm,av,bQ,ax,bR⟩:=yc J
 refine cl Tryz.call37 (gp _ _ false X av M) ?_
 rintro _ dn ⟨rfl,ay⟩
 have bC:=ax _ _ ay
 refine An rfl (rt (rs ?_))
 have bD:=bC.pk []
 obtain rfl:_=X:=hr.symm.trans (et (ae o) (et (ip j) (et (iN l) (ae M))))
 exact⟨rfl,bD⟩
 refine Sz j (Sz j (Sz j (fw (.bool false) (xW rfl j rfl) (Mz rfl (Sz rfl (Sz rfl (fw (.bool false) (xW rfl rfl rfl) (Mz rfl (Sz rfl (Sz rfl (fw (.bool false) (xW rfl rfl rfl) (Mz rfl (Sz rfl (Sz rfl (Sz rfl (fw (.bool false) (xW rfl rfl rfl) ?_))))))))))))))))
 obtain⟨Y,N⟩:∃ q,bS false=q:=⟨_,rfl⟩
 obtain⟨dw,az,bT,aB,bU⟩:=yc J
 refine cl Tryz.call37 (gp _ _ false Y az N) ?_
 rintro _ dx ⟨rfl,aD⟩
 have bE:=aB _ _ aD
 refine An rfl (rt (rs ?_))
 have bF:=bE.pk []
 obtain rfl:_=Y:=hr.symm.trans (et (ae o) (et (kG j) (ae N)))
 exact⟨rfl,bF⟩
end Go.Proofs.YtcnkpjheifkgnaaGreat
