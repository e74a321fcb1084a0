/-
 record: the layers below; which states may be.
-/
import Derived.Test.YtcnkpjheifkgnaaGreatKq
import Derived.Test.YtcnkpjheifkgnaaGreatKx
import Derived.Test.YtcnkpjheifkgnaaGreatKy
import Derived.Test.YtcnkpjheifkgnaaGreatKs
namespace Go.Proofs.YtcnkpjheifkgnaaGreat
set_option maxRecDepth 100000
open Go.RowKit
set_option linter.unusedVariables false
set_option linter.unusedSectionVars false
set_option linter.unusedSimpArgs false
theorem ng:Elem Tryz.prog 23 54 2 24:=lT (z:= .agg #[.string ⟨List.toArray ([])⟩, .int .i64 0]) Tryz.underlying23 (by kernel_rfl) rfl (by decide)
structure aL where
 aK:List UInt8
 bV:Int
def aL.cells (x:aL):List Value:= [.string ⟨List.toArray x.aK⟩, .int .i64 x.bV]
instance:Bk aL:=⟨fun x _=>bk x.aK+(bk x.bV+(0))⟩
theorem aL.len:∀ x,(aL.cells x).length=2:=fun _=>rfl
theorem aL.one:∀ x, ∀ u ∈ aL.cells x,u.oneCell'=true:=fun x u hu=>by
 simp only [aL.cells,List.mem_cons,List.not_mem_nil,or_false] at hu
 rcases hu with rfl | rfl <;> rfl
def Dq (w:World) (x:aL):Prop:=(x.aK.length≤140737488351232)∧((-9223372036854775808)≤x.bV∧x.bV≤9223372036854775807)
theorem qo (w:World):jP Tryz.prog w 54 2 aL.cells (Dq w):=
 (jD (sz:=2) Tryz.underlying54 (by kernel_rfl) (dh.cons (i:=0) (off:=0) (s:=1) rfl rfl (jS Tryz.underlying9 (by kernel_rfl)) (dh.cons (i:=1) (off:=1) (s:=1) rfl rfl (lX (k:= .i64) (lo:= -9223372036854775808) (hi:=9223372036854775807) Tryz.underlying3 (by kernel_rfl) (by decide) (by decide)) dh.nil))).map (fun p=>⟨p.1,p.2.1⟩) aL.len (fun _=>rfl) (fun _ h=>⟨h.1,h.2.1⟩) fun _=>Nat.le_refl _
instance:Inhabited aL:=⟨⟨default,default⟩⟩
theorem pQ:Elem Tryz.prog 24 66 2 32:=lT (z:= .agg #[.int .u64 0, .slice none 0 0]) Tryz.underlying24 (by kernel_rfl) rfl (by decide)
theorem rF:Elem Tryz.prog 64 74 6 80:=lT (z:= .agg #[.int .i64 0, .string ⟨List.toArray ([])⟩, .string ⟨List.toArray ([])⟩, .string ⟨List.toArray ([])⟩, .string ⟨List.toArray ([])⟩, .int .i64 0]) Tryz.underlying64 (by kernel_rfl) rfl (by decide)
structure bq where
 aI:Int
 aV:List UInt8
 aC:List UInt8
 aK:List UInt8
 aO:List UInt8
 bn:Int
def bq.cells (x:bq):List Value:= [.int .i64 x.aI, .string ⟨List.toArray x.aV⟩, .string ⟨List.toArray x.aC⟩, .string ⟨List.toArray x.aK⟩, .string ⟨List.toArray x.aO⟩, .int .i64 x.bn]
instance:Bk bq:=⟨fun x _=>bk x.aI+(bk x.aV+(bk x.aC+(bk x.aK+(bk x.aO+(bk x.bn+(0))))))⟩
theorem bq.len:∀ x,(bq.cells x).length=6:=fun _=>rfl
theorem bq.one:∀ x, ∀ u ∈ bq.cells x,u.oneCell'=true:=fun x u hu=>by
 simp only [bq.cells,List.mem_cons,List.not_mem_nil,or_false] at hu
 rcases hu with rfl | rfl | rfl | rfl | rfl | rfl <;> rfl
def Ed (w:World) (x:bq):Prop:=((-9223372036854775808)≤x.aI∧x.aI≤9223372036854775807)∧(x.aV.length≤140737488351232)∧(x.aC.length≤140737488351232)∧(x.aK.length≤140737488351232)∧(x.aO.length≤140737488351232)∧((-9223372036854775808)≤x.bn∧x.bn≤9223372036854775807)
theorem vJ (w:World):jP Tryz.prog w 74 6 bq.cells (Ed w):=
 (jD (sz:=6) Tryz.underlying74 (by kernel_rfl) (dh.cons (i:=0) (off:=0) (s:=1) rfl rfl (lX (k:= .i64) (lo:= -9223372036854775808) (hi:=9223372036854775807) Tryz.underlying3 (by kernel_rfl) (by decide) (by decide)) (dh.cons (i:=1) (off:=1) (s:=1) rfl rfl (jS Tryz.underlying9 (by kernel_rfl)) (dh.cons (i:=2) (off:=2) (s:=1) rfl rfl (jS Tryz.underlying9 (by kernel_rfl)) (dh.cons (i:=3) (off:=3) (s:=1) rfl rfl (jS Tryz.underlying9 (by kernel_rfl)) (dh.cons (i:=4) (off:=4) (s:=1) rfl rfl (jS Tryz.underlying9 (by kernel_rfl)) (dh.cons (i:=5) (off:=5) (s:=1) rfl rfl (lX (k:= .i64) (lo:= -9223372036854775808) (hi:=9223372036854775807) Tryz.underlying3 (by kernel_rfl) (by decide) (by decide)) dh.nil))))))).map (fun p=>⟨p.1,p.2.1,p.2.2.1,p.2.2.2.1,p.2.2.2.2.1,p.2.2.2.2.2.1⟩) bq.len (fun _=>rfl) (fun _ h=>⟨h.1,h.2.1,h.2.2.1,h.2.2.2.1,h.2.2.2.2.1,h.2.2.2.2.2.1⟩) fun _=>Nat.le_refl _
instance:Inhabited bq:=⟨⟨default,default,default,default,default,default⟩⟩
structure aM where
 av:Nat
 ay:Sv bq
def aM.cells (x:aM):List Value:= [.int .u64 ((x.av:Nat):Int), .slice x.ay.A x.ay.ls.length x.ay.c]
instance:Bk aM:=⟨fun x _=>bk x.av+(bk x.ay+(0))⟩
theorem aM.len:∀ x,(aM.cells x).length=2:=fun _=>rfl
theorem aM.one:∀ x, ∀ u ∈ aM.cells x,u.oneCell'=true:=fun x u hu=>by
 simp only [aM.cells,List.mem_cons,List.not_mem_nil,or_false] at hu
 rcases hu with rfl | rfl <;> rfl
def DY (w:World) (x:aM):Prop:=(x.av≤18446744073709551615)∧(nE w 6 80 bq.cells (Ed w) x.ay)
theorem uF (w:World):jP Tryz.prog w 66 2 aM.cells (DY w):=
 (jD (sz:=2) Tryz.underlying66 (by kernel_rfl) (dh.cons (i:=0) (off:=0) (s:=1) rfl rfl (iE (k:= .u64) (hi:=18446744073709551615) Tryz.underlying22 (by kernel_rfl) (by decide) (by decide)) (dh.cons (i:=1) (off:=1) (s:=1) rfl rfl (ky (bytes:=80) Tryz.underlying64 (by kernel_rfl) (by kernel_rfl) (by decide) (vJ w)) dh.nil))).map (fun p=>⟨p.1,p.2.1⟩) aM.len (fun _=>rfl) (fun _ h=>⟨h.1,h.2.1⟩) fun _=>Nat.le_refl _
instance:Inhabited aM:=⟨⟨default,default⟩⟩
structure eZ where
 av:Nat
 ay:Ll bq
instance:Inhabited eZ:=⟨⟨default,default⟩⟩
def CE (x:aM):eZ:=⟨x.av,⟨x.ay.ls⟩⟩
def CL (x:aM):List HP:= [row x.ay.A x.ay.ls.length x.ay.c (List.flatMap bq.cells x.ay.ls) 74 6]
theorem jY:Elem Tryz.prog 25 22 1 8:=lT (z:= .int .u64 0) Tryz.underlying25 (by kernel_rfl) rfl (by decide)
structure bF where
 aK:List UInt8
 aO:List UInt8
def bF.cells (x:bF):List Value:= [.string ⟨List.toArray x.aK⟩, .string ⟨List.toArray x.aO⟩]
instance:Bk bF:=⟨fun x _=>bk x.aK+(bk x.aO+(0))⟩
theorem bF.len:∀ x,(bF.cells x).length=2:=fun _=>rfl
theorem bF.one:∀ x, ∀ u ∈ bF.cells x,u.oneCell'=true:=fun x u hu=>by
 simp only [bF.cells,List.mem_cons,List.not_mem_nil,or_false] at hu
 rcases hu with rfl | rfl <;> rfl
def Dr (w:World) (x:bF):Prop:=(x.aK.length≤140737488351232)∧(x.aO.length≤140737488351232)
theorem qp (w:World):jP Tryz.prog w 27 2 bF.cells (Dr w):=
 (jD (sz:=2) Tryz.underlying27 (by kernel_rfl) (dh.cons (i:=0) (off:=0) (s:=1) rfl rfl (jS Tryz.underlying9 (by kernel_rfl)) (dh.cons (i:=1) (off:=1) (s:=1) rfl rfl (jS Tryz.underlying9 (by kernel_rfl)) dh.nil))).map (fun p=>⟨p.1,p.2.1⟩) bF.len (fun _=>rfl) (fun _ h=>⟨h.1,h.2.1⟩) fun _=>Nat.le_refl _
instance:Inhabited bF:=⟨⟨default,default⟩⟩
structure gp where
 aZ:Nat
 bB:Nat
 cz:Nat
 aP:bF
def gp.cells (x:gp):List Value:= [.int .u64 ((x.aZ:Nat):Int), .int .u64 ((x.bB:Nat):Int), .int .u64 ((x.cz:Nat):Int), .string ⟨List.toArray x.aP.aK⟩, .string ⟨List.toArray x.aP.aO⟩]
instance:Bk gp:=⟨fun x _=>bk x.aZ+(bk x.bB+(bk x.cz+(bk x.aP+(0))))⟩
theorem gp.len:∀ x,(gp.cells x).length=5:=fun _=>rfl
theorem gp.one:∀ x, ∀ u ∈ gp.cells x,u.oneCell'=true:=fun x u hu=>by
 simp only [gp.cells,List.mem_cons,List.not_mem_nil,or_false] at hu
 rcases hu with rfl | rfl | rfl | rfl | rfl <;> rfl
def DL (w:World) (x:gp):Prop:=(x.aZ≤18446744073709551615)∧(x.bB≤18446744073709551615)∧(x.cz≤18446744073709551615)∧(Dr w x.aP)
theorem uj (w:World):jP Tryz.prog w 29 5 gp.cells (DL w):=
 (jD (sz:=5) Tryz.underlying29 (by kernel_rfl) (dh.cons (i:=0) (off:=0) (s:=1) rfl rfl (iE (k:= .u64) (hi:=18446744073709551615) Tryz.underlying22 (by kernel_rfl) (by decide) (by decide)) (dh.cons (i:=1) (off:=1) (s:=1) rfl rfl (iE (k:= .u64) (hi:=18446744073709551615) Tryz.underlying22 (by kernel_rfl) (by decide) (by decide)) (dh.cons (i:=2) (off:=2) (s:=1) rfl rfl (iE (k:= .u64) (hi:=18446744073709551615) Tryz.underlying22 (by kernel_rfl) (by decide) (by decide)) (dh.cons (i:=3) (off:=3) (s:=2) rfl rfl (qp w) dh.nil))))).map (fun p=>⟨p.1,p.2.1,p.2.2.1,p.2.2.2.1⟩) gp.len (fun _=>rfl) (fun _ h=>⟨h.1,h.2.1,h.2.2.1,h.2.2.2.1⟩) fun _=>Nat.le_refl _
instance:Inhabited gp:=⟨⟨default,default,default,default⟩⟩
structure jy where
 cO:Int
 aj:Nat
 aR:Nat
 aH:Nat
 aZ:Nat
 ai:Sv aL
 az:Sv aM
 ah:Sv Nat
 iq:Nat
 bS:Nat
 bf:bF
 aS:gp
def jy.cells (x:jy):List Value:= [.int .i64 x.cO, .int .u64 ((x.aj:Nat):Int), .int .u64 ((x.aR:Nat):Int), .int .u64 ((x.aH:Nat):Int), .int .u64 ((x.aZ:Nat):Int), .slice x.ai.A x.ai.ls.length x.ai.c, .slice x.az.A x.az.ls.length x.az.c, .slice x.ah.A x.ah.ls.length x.ah.c, .int .u64 ((x.iq:Nat):Int), .int .u64 ((x.bS:Nat):Int), .string ⟨List.toArray x.bf.aK⟩, .string ⟨List.toArray x.bf.aO⟩, .int .u64 ((x.aS.aZ:Nat):Int), .int .u64 ((x.aS.bB:Nat):Int), .int .u64 ((x.aS.cz:Nat):Int), .string ⟨List.toArray x.aS.aP.aK⟩, .string ⟨List.toArray x.aS.aP.aO⟩]
instance:Bk jy:=⟨fun x _=>bk x.cO+(bk x.aj+(bk x.aR+(bk x.aH+(bk x.aZ+(bk x.ai+(bk x.az+(bk x.ah+(bk x.iq+(bk x.bS+(bk x.bf+(bk x.aS+(0))))))))))))⟩
theorem jy.len:∀ x,(jy.cells x).length=17:=fun _=>rfl
theorem jy.one:∀ x, ∀ u ∈ jy.cells x,u.oneCell'=true:=fun x u hu=>by
 simp only [jy.cells,List.mem_cons,List.not_mem_nil,or_false] at hu
 rcases hu with rfl | rfl | rfl | rfl | rfl | rfl | rfl | rfl | rfl | rfl | rfl | rfl | rfl | rfl | rfl | rfl | rfl <;> rfl
def Dt (w:World) (x:jy):Prop:=((-9223372036854775808)≤x.cO∧x.cO≤9223372036854775807)∧(x.aj≤18446744073709551615)∧(x.aR≤18446744073709551615)∧(x.aH≤18446744073709551615)∧(x.aZ≤18446744073709551615)∧(nE w 2 24 aL.cells (Dq w) x.ai)∧(nE w 2 32 aM.cells (DY w) x.az)∧(nE w 1 8 (eN .u64) (fun n=>n≤18446744073709551615) x.ah)∧(x.iq≤18446744073709551615)∧(x.bS≤18446744073709551615)∧(Dr w x.bf)∧(DL w x.aS)
theorem uk (w:World):jP Tryz.prog w 31 17 jy.cells (Dt w):=
 (jD (sz:=17) Tryz.underlying31 (by kernel_rfl) (dh.cons (i:=0) (off:=0) (s:=1) rfl rfl (lX (k:= .i64) (lo:= -9223372036854775808) (hi:=9223372036854775807) Tryz.underlying3 (by kernel_rfl) (by decide) (by decide)) (dh.cons (i:=1) (off:=1) (s:=1) rfl rfl (iE (k:= .u64) (hi:=18446744073709551615) Tryz.underlying22 (by kernel_rfl) (by decide) (by decide)) (dh.cons (i:=2) (off:=2) (s:=1) rfl rfl (iE (k:= .u64) (hi:=18446744073709551615) Tryz.underlying22 (by kernel_rfl) (by decide) (by decide)) (dh.cons (i:=3) (off:=3) (s:=1) rfl rfl (iE (k:= .u64) (hi:=18446744073709551615) Tryz.underlying22 (by kernel_rfl) (by decide) (by decide)) (dh.cons (i:=4) (off:=4) (s:=1) rfl rfl (iE (k:= .u64) (hi:=18446744073709551615) Tryz.underlying22 (by kernel_rfl) (by decide) (by decide)) (dh.cons (i:=5) (off:=5) (s:=1) rfl rfl (ky (bytes:=24) Tryz.underlying23 (by kernel_rfl) (by kernel_rfl) (by decide) (qo w)) (dh.cons (i:=6) (off:=6) (s:=1) rfl rfl (ky (bytes:=32) Tryz.underlying24 (by kernel_rfl) (by kernel_rfl) (by decide) (uF w)) (dh.cons (i:=7) (off:=7) (s:=1) rfl rfl (ky (bytes:=8) Tryz.underlying25 (by kernel_rfl) (by kernel_rfl) (by decide) (iE (k:= .u64) (hi:=18446744073709551615) Tryz.underlying22 (by kernel_rfl) (by decide) (by decide))) (dh.cons (i:=8) (off:=8) (s:=1) rfl rfl (iE (k:= .u64) (hi:=18446744073709551615) Tryz.underlying22 (by kernel_rfl) (by decide) (by decide)) (dh.cons (i:=9) (off:=9) (s:=1) rfl rfl (iE (k:= .u64) (hi:=18446744073709551615) Tryz.underlying22 (by kernel_rfl) (by decide) (by decide)) (dh.cons (i:=10) (off:=10) (s:=2) rfl rfl (qp w) (dh.cons (i:=11) (off:=12) (s:=5) rfl rfl (uj w) dh.nil))))))))))))).map (fun p=>⟨p.1,p.2.1,p.2.2.1,p.2.2.2.1,p.2.2.2.2.1,p.2.2.2.2.2.1,p.2.2.2.2.2.2.1,p.2.2.2.2.2.2.2.1,p.2.2.2.2.2.2.2.2.1,p.2.2.2.2.2.2.2.2.2.1,p.2.2.2.2.2.2.2.2.2.2.1,p.2.2.2.2.2.2.2.2.2.2.2.1⟩) jy.len (fun _=>rfl) (fun _ h=>⟨h.1,h.2.1,h.2.2.1,h.2.2.2.1,h.2.2.2.2.1,h.2.2.2.2.2.1,h.2.2.2.2.2.2.1,h.2.2.2.2.2.2.2.1,h.2.2.2.2.2.2.2.2.1,h.2.2.2.2.2.2.2.2.2.1,h.2.2.2.2.2.2.2.2.2.2.1,h.2.2.2.2.2.2.2.2.2.2.2.1⟩) fun _=>Nat.le_refl _
instance:Inhabited jy:=⟨⟨default,default,default,default,default,default,default,default,default,default,default,default⟩⟩
structure bQ where
 cO:Int
 aj:Nat
 aR:Nat
 aH:Nat
 aZ:Nat
 ai:Ll aL
 az:Ll eZ
 ah:Ll Nat
 iq:Nat
 bS:Nat
 bf:bF
 aS:gp
instance:Inhabited bQ:=⟨⟨default,default,default,default,default,default,default,default,default,default,default,default⟩⟩
def Dy (x:jy):bQ:=⟨x.cO,x.aj,x.aR,x.aH,x.aZ,⟨x.ai.ls⟩,⟨List.map CE x.az.ls⟩,⟨x.ah.ls⟩,x.iq,x.bS,x.bf,x.aS⟩
def Ey (x:jy):List HP:= [row x.ai.A x.ai.ls.length x.ai.c (List.flatMap aL.cells x.ai.ls) 54 2,row x.az.A x.az.ls.length x.az.c (List.flatMap aM.cells x.az.ls) 66 2,row x.ah.A x.ah.ls.length x.ah.c (List.flatMap (eN .u64) x.ah.ls) 22 1,sepL (List.flatMap CL x.az.ls)]
abbrev bZ (n:Int) (o:Nat) (p:Nat) (q:Nat) (r:Nat) (s:Option Addr) (a b:Nat) (t:Option Addr) (c d:Nat) (u:Option Addr) (e f:Nat) (v:Nat) (w:Nat) (g:List UInt8) (h:List UInt8) (i:Nat) (j:Nat) (k:Nat) (l:List UInt8) (m:List UInt8):List Value:= [.int .i64 n, .int .u64 ((o:Nat):Int), .int .u64 ((p:Nat):Int), .int .u64 ((q:Nat):Int), .int .u64 ((r:Nat):Int), .slice s a b, .slice t c d, .slice u e f, .int .u64 ((v:Nat):Int), .int .u64 ((w:Nat):Int), .string ⟨List.toArray g⟩, .string ⟨List.toArray h⟩, .int .u64 ((i:Nat):Int), .int .u64 ((j:Nat):Int), .int .u64 ((k:Nat):Int), .string ⟨List.toArray l⟩, .string ⟨List.toArray m⟩]
abbrev aX (x:bQ) (a:Option Addr) (b:Nat) (c:Option Addr) (c1:Nat) (d:Option Addr) (e:Nat):List Value:= [.int .i64 x.cO, .int .u64 ((x.aj:Nat):Int), .int .u64 ((x.aR:Nat):Int), .int .u64 ((x.aH:Nat):Int), .int .u64 ((x.aZ:Nat):Int), .slice a x.ai.ls.length b, .slice c x.az.ls.length c1, .slice d x.ah.ls.length e, .int .u64 ((x.iq:Nat):Int), .int .u64 ((x.bS:Nat):Int), .string ⟨List.toArray x.bf.aK⟩, .string ⟨List.toArray x.bf.aO⟩, .int .u64 ((x.aS.aZ:Nat):Int), .int .u64 ((x.aS.bB:Nat):Int), .int .u64 ((x.aS.cz:Nat):Int), .string ⟨List.toArray x.aS.aP.aK⟩, .string ⟨List.toArray x.aS.aP.aO⟩]
theorem qw:Elem Tryz.prog 32 79 5 56:=lT (z:= .agg #[.int .u64 0, .int .i64 0, .int .u64 0, .int .u64 0, .slice none 0 0]) Tryz.underlying32 (by kernel_rfl) rfl (by decide)
theorem lU:Elem Tryz.prog 77 3 1 8:=lT (z:= .int .i64 0) Tryz.underlying77 (by kernel_rfl) rfl (by decide)
structure ax where
 av:Nat
 ak:Int
 aj:Nat
 bJ:Nat
 aa:Sv Int
def ax.cells (x:ax):List Value:= [.int .u64 ((x.av:Nat):Int), .int .i64 x.ak, .int .u64 ((x.aj:Nat):Int), .int .u64 ((x.bJ:Nat):Int), .slice x.aa.A x.aa.ls.length x.aa.c]
instance:Bk ax:=⟨fun x _=>bk x.av+(bk x.ak+(bk x.aj+(bk x.bJ+(bk x.aa+(0)))))⟩
theorem ax.len:∀ x,(ax.cells x).length=5:=fun _=>rfl
theorem ax.one:∀ x, ∀ u ∈ ax.cells x,u.oneCell'=true:=fun x u hu=>by
 simp only [ax.cells,List.mem_cons,List.not_mem_nil,or_false] at hu
 rcases hu with rfl | rfl | rfl | rfl | rfl <;> rfl
def Du (w:World) (x:ax):Prop:=(x.av≤18446744073709551615)∧((-9223372036854775808)≤x.ak∧x.ak≤9223372036854775807)∧(x.aj≤18446744073709551615)∧(x.bJ≤18446744073709551615)∧(nE w 1 8 (eI .i64) (fun n=>(-9223372036854775808)≤n∧n≤9223372036854775807) x.aa)
theorem rU (w:World):jP Tryz.prog w 79 5 ax.cells (Du w):=
 (jD (sz:=5) Tryz.underlying79 (by kernel_rfl) (dh.cons (i:=0) (off:=0) (s:=1) rfl rfl (iE (k:= .u64) (hi:=18446744073709551615) Tryz.underlying22 (by kernel_rfl) (by decide) (by decide)) (dh.cons (i:=1) (off:=1) (s:=1) rfl rfl (lX (k:= .i64) (lo:= -9223372036854775808) (hi:=9223372036854775807) Tryz.underlying3 (by kernel_rfl) (by decide) (by decide)) (dh.cons (i:=2) (off:=2) (s:=1) rfl rfl (iE (k:= .u64) (hi:=18446744073709551615) Tryz.underlying22 (by kernel_rfl) (by decide) (by decide)) (dh.cons (i:=3) (off:=3) (s:=1) rfl rfl (iE (k:= .u64) (hi:=18446744073709551615) Tryz.underlying22 (by kernel_rfl) (by decide) (by decide)) (dh.cons (i:=4) (off:=4) (s:=1) rfl rfl (ky (bytes:=8) Tryz.underlying77 (by kernel_rfl) (by kernel_rfl) (by decide) (lX (k:= .i64) (lo:= -9223372036854775808) (hi:=9223372036854775807) Tryz.underlying3 (by kernel_rfl) (by decide) (by decide))) dh.nil)))))).map (fun p=>⟨p.1,p.2.1,p.2.2.1,p.2.2.2.1,p.2.2.2.2.1⟩) ax.len (fun _=>rfl) (fun _ h=>⟨h.1,h.2.1,h.2.2.1,h.2.2.2.1,h.2.2.2.2.1⟩) fun _=>Nat.le_refl _
instance:Inhabited ax:=⟨⟨default,default,default,default,default⟩⟩
structure bK where
 av:Nat
 ak:Int
 aj:Nat
 bJ:Nat
 aa:Ll Int
instance:Inhabited bK:=⟨⟨default,default,default,default,default⟩⟩
def Co (x:ax):bK:=⟨x.av,x.ak,x.aj,x.bJ,⟨x.aa.ls⟩⟩
def CJ (x:ax):List HP:= [row x.aa.A x.aa.ls.length x.aa.c (List.flatMap (eI .i64) x.aa.ls) 3 1]
theorem qx:Elem Tryz.prog 33 84 4 48:=lT (z:= .agg #[.int .i64 0, .int .u64 0, .int .u64 0, .slice none 0 0]) Tryz.underlying33 (by kernel_rfl) rfl (by decide)
theorem sI:Elem Tryz.prog 82 129 3 48:=lT (z:= .agg #[.bool false, .string ⟨List.toArray ([])⟩, .slice none 0 0]) Tryz.underlying82 (by kernel_rfl) rfl (by decide)
theorem qR:Elem Tryz.prog 127 133 2 32:=lT (z:= .agg #[.string ⟨List.toArray ([])⟩, .string ⟨List.toArray ([])⟩]) Tryz.underlying127 (by kernel_rfl) rfl (by decide)
structure bH where
 aV:List UInt8
 aC:List UInt8
def bH.cells (x:bH):List Value:= [.string ⟨List.toArray x.aV⟩, .string ⟨List.toArray x.aC⟩]
instance:Bk bH:=⟨fun x _=>bk x.aV+(bk x.aC+(0))⟩
theorem bH.len:∀ x,(bH.cells x).length=2:=fun _=>rfl
theorem bH.one:∀ x, ∀ u ∈ bH.cells x,u.oneCell'=true:=fun x u hu=>by
 simp only [bH.cells,List.mem_cons,List.not_mem_nil,or_false] at hu
 rcases hu with rfl | rfl <;> rfl
def DZ (w:World) (x:bH):Prop:=(x.aV.length≤140737488351232)∧(x.aC.length≤140737488351232)
theorem uG (w:World):jP Tryz.prog w 133 2 bH.cells (DZ w):=
 (jD (sz:=2) Tryz.underlying133 (by kernel_rfl) (dh.cons (i:=0) (off:=0) (s:=1) rfl rfl (jS Tryz.underlying9 (by kernel_rfl)) (dh.cons (i:=1) (off:=1) (s:=1) rfl rfl (jS Tryz.underlying9 (by kernel_rfl)) dh.nil))).map (fun p=>⟨p.1,p.2.1⟩) bH.len (fun _=>rfl) (fun _ h=>⟨h.1,h.2.1⟩) fun _=>Nat.le_refl _
instance:Inhabited bH:=⟨⟨default,default⟩⟩
structure aD where
 eT:Bool
 aC:List UInt8
 aA:Sv bH
def aD.cells (x:aD):List Value:= [.bool x.eT, .string ⟨List.toArray x.aC⟩, .slice x.aA.A x.aA.ls.length x.aA.c]
instance:Bk aD:=⟨fun x _=>bk x.eT+(bk x.aC+(bk x.aA+(0)))⟩
theorem aD.len:∀ x,(aD.cells x).length=3:=fun _=>rfl
theorem aD.one:∀ x, ∀ u ∈ aD.cells x,u.oneCell'=true:=fun x u hu=>by
 simp only [aD.cells,List.mem_cons,List.not_mem_nil,or_false] at hu
 rcases hu with rfl | rfl | rfl <;> rfl
def Dz (w:World) (x:aD):Prop:=(True)∧(x.aC.length≤140737488351232)∧(nE w 2 32 bH.cells (DZ w) x.aA)
theorem tH (w:World):jP Tryz.prog w 129 3 aD.cells (Dz w):=
 (jD (sz:=3) Tryz.underlying129 (by kernel_rfl) (dh.cons (i:=0) (off:=0) (s:=1) rfl rfl (uX Tryz.underlying4 (by kernel_rfl)) (dh.cons (i:=1) (off:=1) (s:=1) rfl rfl (jS Tryz.underlying9 (by kernel_rfl)) (dh.cons (i:=2) (off:=2) (s:=1) rfl rfl (ky (bytes:=32) Tryz.underlying127 (by kernel_rfl) (by kernel_rfl) (by decide) (uG w)) dh.nil)))).map (fun p=>⟨p.1,p.2.1,p.2.2.1⟩) aD.len (fun _=>rfl) (fun _ h=>⟨h.1,h.2.1,h.2.2.1⟩) fun _=>Nat.le_refl _
instance:Inhabited aD:=⟨⟨default,default,default⟩⟩
structure cK where
 eT:Bool
 aC:List UInt8
 aA:Ll bH
instance:Inhabited cK:=⟨⟨default,default,default⟩⟩
def Cj (x:aD):cK:=⟨x.eT,x.aC,⟨x.aA.ls⟩⟩
def CZ (x:aD):List HP:= [row x.aA.A x.aA.ls.length x.aA.c (List.flatMap bH.cells x.aA.ls) 133 2]
structure aT where
 ak:Int
 aj:Nat
 bJ:Nat
 au:Sv aD
def aT.cells (x:aT):List Value:= [.int .i64 x.ak, .int .u64 ((x.aj:Nat):Int), .int .u64 ((x.bJ:Nat):Int), .slice x.au.A x.au.ls.length x.au.c]
instance:Bk aT:=⟨fun x _=>bk x.ak+(bk x.aj+(bk x.bJ+(bk x.au+(0))))⟩
theorem aT.len:∀ x,(aT.cells x).length=4:=fun _=>rfl
theorem aT.one:∀ x, ∀ u ∈ aT.cells x,u.oneCell'=true:=fun x u hu=>by
 simp only [aT.cells,List.mem_cons,List.not_mem_nil,or_false] at hu
 rcases hu with rfl | rfl | rfl | rfl <;> rfl
def D5 (w:World) (x:aT):Prop:=((-9223372036854775808)≤x.ak∧x.ak≤9223372036854775807)∧(x.aj≤18446744073709551615)∧(x.bJ≤18446744073709551615)∧(nE w 3 48 aD.cells (Dz w) x.au)
theorem uH (w:World):jP Tryz.prog w 84 4 aT.cells (D5 w):=
 (jD (sz:=4) Tryz.underlying84 (by kernel_rfl) (dh.cons (i:=0) (off:=0) (s:=1) rfl rfl (lX (k:= .i64) (lo:= -9223372036854775808) (hi:=9223372036854775807) Tryz.underlying3 (by kernel_rfl) (by decide) (by decide)) (dh.cons (i:=1) (off:=1) (s:=1) rfl rfl (iE (k:= .u64) (hi:=18446744073709551615) Tryz.underlying22 (by kernel_rfl) (by decide) (by decide)) (dh.cons (i:=2) (off:=2) (s:=1) rfl rfl (iE (k:= .u64) (hi:=18446744073709551615) Tryz.underlying22 (by kernel_rfl) (by decide) (by decide)) (dh.cons (i:=3) (off:=3) (s:=1) rfl rfl (ky (bytes:=48) Tryz.underlying82 (by kernel_rfl) (by kernel_rfl) (by decide) (tH w)) dh.nil))))).map (fun p=>⟨p.1,p.2.1,p.2.2.1,p.2.2.2.1⟩) aT.len (fun _=>rfl) (fun _ h=>⟨h.1,h.2.1,h.2.2.1,h.2.2.2.1⟩) fun _=>Nat.le_refl _
instance:Inhabited aT:=⟨⟨default,default,default,default⟩⟩
structure eD where
 ak:Int
 aj:Nat
 bJ:Nat
 au:Ll cK
instance:Inhabited eD:=⟨⟨default,default,default,default⟩⟩
def Cz (x:aT):eD:=⟨x.ak,x.aj,x.bJ,⟨List.map Cj x.au.ls⟩⟩
def CQ (x:aT):List HP:= [row x.au.A x.au.ls.length x.au.c (List.flatMap aD.cells x.au.ls) 129 3,sepL (List.flatMap CZ x.au.ls)]
structure jA where
 aa:Int
 aj:Nat
 aR:Nat
 aH:Nat
 ai:Sv aL
 af:Sv ax
 aB:Sv aT
def jA.cells (x:jA):List Value:= [.int .i64 x.aa, .int .u64 ((x.aj:Nat):Int), .int .u64 ((x.aR:Nat):Int), .int .u64 ((x.aH:Nat):Int), .slice x.ai.A x.ai.ls.length x.ai.c, .slice x.af.A x.af.ls.length x.af.c, .slice x.aB.A x.aB.ls.length x.aB.c]
instance:Bk jA:=⟨fun x _=>bk x.aa+(bk x.aj+(bk x.aR+(bk x.aH+(bk x.ai+(bk x.af+(bk x.aB+(0)))))))⟩
theorem jA.len:∀ x,(jA.cells x).length=7:=fun _=>rfl
theorem jA.one:∀ x, ∀ u ∈ jA.cells x,u.oneCell'=true:=fun x u hu=>by
 simp only [jA.cells,List.mem_cons,List.not_mem_nil,or_false] at hu
 rcases hu with rfl | rfl | rfl | rfl | rfl | rfl | rfl <;> rfl
def Dv (w:World) (x:jA):Prop:=((-9223372036854775808)≤x.aa∧x.aa≤9223372036854775807)∧(x.aj≤18446744073709551615)∧(x.aR≤18446744073709551615)∧(x.aH≤18446744073709551615)∧(nE w 2 24 aL.cells (Dq w) x.ai)∧(nE w 5 56 ax.cells (Du w) x.af)∧(nE w 4 48 aT.cells (D5 w) x.aB)
theorem ul (w:World):jP Tryz.prog w 35 7 jA.cells (Dv w):=
 (jD (sz:=7) Tryz.underlying35 (by kernel_rfl) (dh.cons (i:=0) (off:=0) (s:=1) rfl rfl (lX (k:= .i64) (lo:= -9223372036854775808) (hi:=9223372036854775807) Tryz.underlying3 (by kernel_rfl) (by decide) (by decide)) (dh.cons (i:=1) (off:=1) (s:=1) rfl rfl (iE (k:= .u64) (hi:=18446744073709551615) Tryz.underlying22 (by kernel_rfl) (by decide) (by decide)) (dh.cons (i:=2) (off:=2) (s:=1) rfl rfl (iE (k:= .u64) (hi:=18446744073709551615) Tryz.underlying22 (by kernel_rfl) (by decide) (by decide)) (dh.cons (i:=3) (off:=3) (s:=1) rfl rfl (iE (k:= .u64) (hi:=18446744073709551615) Tryz.underlying22 (by kernel_rfl) (by decide) (by decide)) (dh.cons (i:=4) (off:=4) (s:=1) rfl rfl (ky (bytes:=24) Tryz.underlying23 (by kernel_rfl) (by kernel_rfl) (by decide) (qo w)) (dh.cons (i:=5) (off:=5) (s:=1) rfl rfl (ky (bytes:=56) Tryz.underlying32 (by kernel_rfl) (by kernel_rfl) (by decide) (rU w)) (dh.cons (i:=6) (off:=6) (s:=1) rfl rfl (ky (bytes:=48) Tryz.underlying33 (by kernel_rfl) (by kernel_rfl) (by decide) (uH w)) dh.nil)))))))).map (fun p=>⟨p.1,p.2.1,p.2.2.1,p.2.2.2.1,p.2.2.2.2.1,p.2.2.2.2.2.1,p.2.2.2.2.2.2.1⟩) jA.len (fun _=>rfl) (fun _ h=>⟨h.1,h.2.1,h.2.2.1,h.2.2.2.1,h.2.2.2.2.1,h.2.2.2.2.2.1,h.2.2.2.2.2.2.1⟩) fun _=>Nat.le_refl _
instance:Inhabited jA:=⟨⟨default,default,default,default,default,default,default⟩⟩
structure bI where
 aa:Int
 aj:Nat
 aR:Nat
 aH:Nat
 ai:Ll aL
 af:Ll bK
 aB:Ll eD
instance:Inhabited bI:=⟨⟨default,default,default,default,default,default,default⟩⟩
def DC (x:jA):bI:=⟨x.aa,x.aj,x.aR,x.aH,⟨x.ai.ls⟩,⟨List.map Co x.af.ls⟩,⟨List.map Cz x.aB.ls⟩⟩
def Ez (x:jA):List HP:= [row x.ai.A x.ai.ls.length x.ai.c (List.flatMap aL.cells x.ai.ls) 54 2,row x.af.A x.af.ls.length x.af.c (List.flatMap ax.cells x.af.ls) 79 5,row x.aB.A x.aB.ls.length x.aB.c (List.flatMap aT.cells x.aB.ls) 84 4,sepL (List.flatMap CJ x.af.ls),sepL (List.flatMap CQ x.aB.ls)]
theorem kV:Elem Tryz.prog 37 5 1 1:=lT (z:= .int .u8 0) Tryz.underlying37 (by kernel_rfl) rfl (by decide)
structure kN where
 xb:Sv UInt8
def kN.cells (x:kN):List Value:= [.slice x.xb.A x.xb.ls.length x.xb.c]
instance:Bk kN:=⟨fun x _=>bk x.xb+(0)⟩
theorem kN.len:∀ x,(kN.cells x).length=1:=fun _=>rfl
theorem kN.one:∀ x, ∀ u ∈ kN.cells x,u.oneCell'=true:=fun x u hu=>by
 simp only [kN.cells,List.mem_cons,List.not_mem_nil,or_false] at hu
 rcases hu with rfl <;> rfl
def EA (w:World) (x:kN):Prop:=(nE w 1 1 eB (fun _=>True) x.xb)
instance:Inhabited kN:=⟨⟨default⟩⟩
structure aW where
 xb:Ll UInt8
instance:Inhabited aW:=⟨⟨default⟩⟩
def Eu (x:kN):aW:=⟨⟨x.xb.ls⟩⟩
def Ev (x:kN):List HP:= [row x.xb.A x.xb.ls.length x.xb.c (List.flatMap eB x.xb.ls) 5 1]
theorem nL:Elem Tryz.prog 121 9 1 16:=lT (z:= .string ⟨List.toArray ([])⟩) Tryz.underlying121 (by kernel_rfl) rfl (by decide)
structure kP where
 ae:Sv UInt8
 aG:Int
def kP.cells (x:kP):List Value:= [.slice x.ae.A x.ae.ls.length x.ae.c, .int .i64 x.aG]
instance:Bk kP:=⟨fun x _=>bk x.ae+(bk x.aG+(0))⟩
theorem kP.len:∀ x,(kP.cells x).length=2:=fun _=>rfl
theorem kP.one:∀ x, ∀ u ∈ kP.cells x,u.oneCell'=true:=fun x u hu=>by
 simp only [kP.cells,List.mem_cons,List.not_mem_nil,or_false] at hu
 rcases hu with rfl | rfl <;> rfl
def EB (w:World) (x:kP):Prop:=(nE w 1 1 eB (fun _=>True) x.ae)∧((-9223372036854775808)≤x.aG∧x.aG≤9223372036854775807)
instance:Inhabited kP:=⟨⟨default,default⟩⟩
structure ReaderT where
 ae:Ll UInt8
 aG:Int
instance:Inhabited ReaderT:=⟨⟨default,default⟩⟩
def Ew (x:kP):ReaderT:=⟨⟨x.ae.ls⟩,x.aG⟩
def Ex (x:kP):List HP:= [row x.ae.A x.ae.ls.length x.ae.c (List.flatMap eB x.ae.ls) 5 1]
def cZ (a:Int) (p1:Int):Bool:=
 if a ≥ 1 then decide (a≤p1) else false
theorem jB (w:World) (D:Nat→Prop) (b:Int) (p1:Int) (e:Bool) (H:Own w D w []) (hr:cZ b p1=e):
    Calls Tryz.prog 38 #[.int .i64 b, .int .i64 p1] w (dE fun v w'=>v= .bool e∧Own w D w' []):=by
 refine Ce (args:= [.int .i64 b, .int .i64 p1]) Tryz.func38 rfl rfl rfl ?_
 show Wp _ _ _ [(0, .int .i64 b),(1, .int .i64 p1)] _ _
 refine sr (Ar rfl (Mz rfl (Kz (.bool (decide (b ≥ 1))) (Mz rfl ?_))))
 by_cases a:b ≥ 1
 refine gw (.int .i64 b) (dT a) (BX rfl) (gw (.int .i64 p1) (dT a) (BX rfl) (Gz (.bool (decide (b≤p1))) (dT a) (fw (.bool (decide (b≤p1))) (BZ rfl (dT a) rfl) (An rfl (rt (rs ?_))))))
 have c:Own w D w []:=H.pk []
 obtain rfl:_=decide (b≤p1):=hr.symm.trans (ip a)
 exact⟨rfl,c⟩
 refine Sz (dF a) (Sz (dF a) (Sz (dF a) (fw (.bool false) (BQ rfl (dF a) rfl) (An rfl (rt (rs ?_))))))
 have d:Own w D w []:=H.pk []
 obtain rfl:_=false:=hr.symm.trans (iN a)
 exact⟨rfl,d⟩
def kJ (a:Int):Bool:=
 if a ≥ 1 then decide (a≤4) else false
theorem rG (w:World) (D:Nat→Prop) (b:Int) (e:Bool) (H:Own w D w []) (hr:kJ b=e):
    Calls Tryz.prog 82 #[.int .i64 b] w (dE fun v w'=>v= .bool e∧Own w D w' []):=by
 refine Ce (args:= [.int .i64 b]) Tryz.func82 rfl rfl rfl ?_
 show Wp _ _ _ [(0, .int .i64 b)] _ _
 refine sr (Ar rfl (Mz rfl (Kz (.bool (decide (b ≥ 1))) (Mz rfl ?_))))
 by_cases a:b ≥ 1
 refine gw (.int .i64 b) (dT a) (BX rfl) (Gz (.bool (decide (b≤4))) (dT a) (fw (.bool (decide (b≤4))) (BZ rfl (dT a) rfl) (An rfl (rt (rs ?_)))))
 have c:Own w D w []:=H.pk []
 obtain rfl:_=decide (b≤4):=hr.symm.trans (ip a)
 exact⟨rfl,c⟩
 refine Sz (dF a) (Sz (dF a) (fw (.bool false) (BQ rfl (dF a) rfl) (An rfl (rt (rs ?_)))))
 have d:Own w D w []:=H.pk []
 obtain rfl:_=false:=hr.symm.trans (iN a)
 exact⟨rfl,d⟩
def bY (a:List UInt8):Int:=
 if((a.length:Nat):Int) < 1 then 20 else if((a.length:Nat):Int) > 12 then 20 else 0
theorem jZ (w:World) (D:Nat→Prop) (b:List UInt8) (d:Int) (H:Own w D w []) (hr:bY b=d):
    Calls Tryz.prog 83 #[.string ⟨List.toArray b⟩] w (dE fun v w'=>v= .int .i64 d∧Own w D w' []∧(¬ (d=0)∨(1≤b.length∧b.length≤12))):=by
 refine Ce (args:= [.string ⟨List.toArray b⟩]) Tryz.func83 rfl rfl rfl ?_
 show Wp _ _ _ [(0, .string ⟨List.toArray b⟩)] _ _
 refine sr (An rfl (BS (sr (Mz rfl (Kz (.int .i64 ((b.length:Nat):Int)) (Kz (.bool (decide (((b.length:Nat):Int) < 1))) (Mz rfl ?_)))))))
 by_cases a:((b.length:Nat):Int) < 1
 refine Sz (dT a) (Sz (dT a) (Sz (dT a) (fw (.bool true) (BZ rfl (dT a) rfl) (nt (jt (sr (An rfl (rt (tR (rs ?_))))))))))
 have e:Own w D w []:=H.pk []
 obtain rfl:_=20:=hr.symm.trans (ip a)
 exact⟨rfl,e,(by omega)⟩
 refine gw (.string ⟨List.toArray b⟩) (dF a) (BX rfl) (Gz (.int .i64 ((b.length:Nat):Int)) (dF a) (Gz (.bool (decide (((b.length:Nat):Int) > 12))) (dF a) (fw (.bool (decide (((b.length:Nat):Int) > 12))) (BQ rfl (dF a) rfl) (nt ?_))))
 by_cases c:((b.length:Nat):Int) > 12
 refine jT (dT c) (sr (An rfl (rt (tR (rs ?_)))))
 have f:Own w D w []:=H.pk []
 obtain rfl:_=20:=hr.symm.trans (et (iN a) (ip c))
 exact⟨rfl,f,(by omega)⟩
 refine jF (dF c) (sk (sr (An rfl (rt (rs ?_)))))
 have g:Own w D w []:=H.pk []
 obtain rfl:_=0:=hr.symm.trans (et (iN a) (iN c))
 exact⟨rfl,g,(by omega)⟩
def ek (g:List aL):List aL→Nat→Unit ⊕ Int
  | [],a=>Sum.inl ()
  | b::c,a=>bnd (kJ b.bV) fun d=>if d=true then if((a:Nat):Int) > 0 then bnd (bY b.aK) fun e=>if e=0 then bnd (List.getD g (a - 1) default) fun f=>if b.aK≤f.aK then Sum.inr (170) else ek g c (a+1) else Sum.inr (170) else ek g c (a+1) else Sum.inr (170)
def gU (a:List aL):Int:=
 if((a.length:Nat):Int) < 1 then 170 else if((a.length:Nat):Int) > 6 then 170 else bnd (List.getD a 0 default) fun b=>if b.aK≠([]) then 170 else lp (ek a a 0) fun _=>0
theorem o7 (w:World) (D:Nat→Prop) (g:Option Addr) (Z F:Nat) (d:List aL) (r0:Int) (H:Own w D w []) (l:Ro w D fun w'=>bG w' 2 g Z (List.flatMap aL.cells d)) (aa:Z=d.length) (aH:d.length≤9223372036854775807) (hr:gU d=r0):
    Calls Tryz.prog 39 #[.slice g Z F] w (dE fun v w'=>v= .int .i64 r0∧Own w D w' []):=by
 subst aa
 refine Ce (args:= [.slice g d.length F]) Tryz.func39 rfl rfl rfl ?_
 show Wp _ _ _ [(0, .slice g d.length F)] _ _
 refine sr (An rfl (BS (sr (Mz rfl (Kz (.int .i64 ((d.length:Nat):Int)) (Kz (.bool (decide (((d.length:Nat):Int) < 1))) (Mz rfl ?_)))))))
 by_cases h:((d.length:Nat):Int) < 1
 refine Sz (dT h) (Sz (dT h) (Sz (dT h) (fw (.bool true) (BZ rfl (dT h) rfl) (Mz rfl (Sz rfl (Sz rfl (Sz rfl (Sz rfl (Sz rfl (fw (.bool true) (BZ rfl rfl rfl) (nt (jt (sr (An rfl (rt (tR (rs ?_)))))))))))))))))
 have ae:Own w D w []:=H.pk []
 obtain rfl:_=170:=hr.symm.trans (ip h)
 exact⟨rfl,ae⟩
 refine gw (.slice g d.length F) (dF h) (BX rfl) (Gz (.int .i64 ((d.length:Nat):Int)) (dF h) (Gz (.bool (decide (((d.length:Nat):Int) > 6))) (dF h) (fw (.bool (decide (((d.length:Nat):Int) > 6))) (BQ rfl (dF h) rfl) (Mz rfl ?_))))
 by_cases f:((d.length:Nat):Int) > 6
 refine Sz (dT f) (Sz (dT f) (Sz (dT f) (Sz (dT f) (Sz (dT f) (fw (.bool true) (BZ rfl (dT f) rfl) (nt (jt (sr (An rfl (rt (tR (rs ?_))))))))))))
 have af:Own w D w []:=H.pk []
 obtain rfl:_=170:=hr.symm.trans (et (iN h) (ip f))
 exact⟨rfl,af⟩
 refine gw (.slice g d.length F) (dF f) (BX rfl) ?_
 obtain⟨G,m⟩:=bU (ls:=d) (i:=0) aL.len (by decide) (H.ro l) (by first | omega | (simp; done) | (simp; omega))
 refine gw (.pointer (some ⟨ab g,ao g+0 *2,none⟩)) (dF f) (Ch (ng) rfl rfl ((H.ro l).addr (i:=0) (by omega)) (by omega)) (Gz (.pointer (some ⟨ab g,ao g+0 *2,none⟩)) (dF f) (gw (.string ⟨List.toArray G.aK⟩) (dF f) (Cc rfl (bi.one Tryz.isAgg9 (((H.ro l).elem aL.len m (by decide)).at_ (k:=0) rfl))) (gw (.bool (decide (G.aK≠([])))) (dF f) (CX rfl rfl) (fw (.bool (decide (G.aK≠([])))) (BQ rfl (dF f) rfl) (nt ?_)))))
 by_cases s:G.aK≠([])
 refine jT (dT s) (sr (An rfl (rt (tR (rs ?_)))))
 have ah:Own w D w []:=H.pk []
 obtain rfl:_=170:=hr.symm.trans (et (iN h) (et (iN f) (et (ag (cu m)) (ip s))))
 exact⟨rfl,ah⟩
 refine jF (dF s) (sk (BS (sr (Mz rfl (Kz (.int .i64 ((d.length:Nat):Int)) (Mn rfl (bo ?_)))))))
 have ai:Own w D w []:=H.pk []
 obtain⟨M,N⟩:∃ q:Nat→World→Prop,q=fun(i:Nat) w'=>Own w D w' []∧(i≤d.length∧ek d d 0=ek d (List.drop i d) i):=⟨_,rfl⟩
 have u:∀ {a:Nat} {w':World},M a w'↔Own w D w' []∧a≤d.length∧ek d d 0=ek d (List.drop a d) a:=by intros; subst N; exact Iff.rfl
 refine Wp.loop (fun i:Nat=> [(2, .int .i64 0),(21, .int .i64 ((i:Nat):Int)),(20, .int .i64 ((d.length:Nat):Int)),(0, .slice g d.length F)]) M (fun i=>d.length - i) 0 ⟨rfl,rfl,rfl,rfl,trivial⟩ (u.2 ⟨ai,by omega,rfl⟩) ?_
 rintro a aI O
 show Wp _ _ _ [(2, .int .i64 0),(21, .int .i64 ((a:Nat):Int)),(20, .int .i64 ((d.length:Nat):Int)),(0, .slice g d.length F)] _ _
 obtain⟨A,aB,n⟩:=u.1 O
 refine sr (Kz (.bool (decide (((a:Nat):Int) < ((d.length:Nat):Int)))) (nt (BS ?_)))
 by_cases P:((a:Nat):Int) < ((d.length:Nat):Int)
 obtain⟨j,x⟩:=bU (ls:=d) (i:=a) aL.len (by decide) (A.ro l) (by first | omega | (simp; done) | (simp; omega))
 have p:=drop_at x
 refine jT (dT P) (sk (BS (bo (sr (Mz rfl (An rfl (BS (sr (Mz rfl (Mz rfl (fw (.pointer (some ⟨ab g,ao g+a *2,none⟩)) (Ch (ng) rfl rfl ((A.ro l).addr (i:=a) (by omega)) (by omega)) (Kz (.pointer (some ⟨ab g,ao g+a *2+1,none⟩)) (fw (.int .i64 j.bV) (Cc rfl (bi.one Tryz.isAgg3 (((A.ro l).elem aL.len x (by decide)).at_ (k:=1) rfl))) ?_)))))))))))))
 obtain⟨L,o⟩:∃ q,kJ j.bV=q:=⟨_,rfl⟩
 obtain⟨aJ,Q,aC,R,aD⟩:=Ck A
 refine cl Tryz.call82 (rG _ _ j.bV L Q o) ?_
 rintro _ aj ⟨rfl,S⟩
 have T:=R _ _ S
 refine Kz (.bool (!L)) (nt ?_)
 rcases EO (L) with r | r
 refine jF (cn r) (sk (BS ?_))
 have B:=T.drew
 refine CP [] (fun W=> ∃ L',Own w D W ([]++L')) (by kernel_rfl) (by kernel_rfl) (Cs (bP.block (Cs (Cs (bP.block (Cs CR)))))) ⟨_,B⟩ ?_
 revert B
 generalize World.drew aj=aK
 intro B
 refine GX.take (v:= .int .i64 ((a:Nat):Int)) (rs:= []) 0 rfl (by kernel_rfl) (fun _ _=>BX rfl) (GX.take (v:= .bool (decide (((a:Nat):Int) > 0))) (rs:= []) 1 rfl (by kernel_rfl) (fun _ _=>yk) (GX.take (v:= .bool (decide (((a:Nat):Int) > 0))) (rs:= []) 2 rfl (by kernel_rfl) (fun _ _=>BX rfl) ?_))
 by_cases c:((a:Nat):Int) > 0
 refine BU (v:= .slice g d.length F) (rs:= []) 3 rfl rfl rfl (dT c) (by kernel_rfl) (fun _ _=>BX rfl) (BU (v:= .int .i64 ((a:Nat):Int)) (rs:= []) 4 rfl rfl rfl (dT c) (by kernel_rfl) (fun _ _=>BX rfl) (BU (v:= .pointer (some ⟨ab g,ao g+a *2,none⟩)) (rs:= []) 5 rfl rfl rfl (dT c) (by kernel_rfl) (fun _ ⟨_,C⟩=>Ch (ng) rfl rfl ((C.ro l).addr (i:=a) (by omega)) (by omega)) (BU (v:= .pointer (some ⟨ab g,ao g+a *2,none⟩)) (rs:= []) 6 rfl rfl rfl (dT c) (by kernel_rfl) (fun _ _=>yk) (BU (v:= .string ⟨List.toArray j.aK⟩) (rs:= []) 7 rfl rfl rfl (dT c) (by kernel_rfl) (fun _ ⟨_,C⟩=>Cc rfl (bi.one Tryz.isAgg9 (((C.ro l).elem aL.len x (by decide)).at_ (k:=0) rfl))) ?_))))
 obtain⟨z,y⟩:∃ q,bY j.aK=q:=⟨_,rfl⟩
 obtain⟨aM,U,aF,V,aG⟩:=Ck B
 refine C8 8 rfl rfl rfl (dT c) (by kernel_rfl) (Cq Tryz.call83 rfl (jZ _ _ j.aK z U y) ?_)
 rintro _ aN ⟨rfl,X,K⟩
 have I:=V _ _ X
 replace K: ¬ (z=0)∨(1≤j.aK.length∧j.aK.length≤12):=K
 refine⟨.inr ⟨_,I⟩, ?_⟩
 refine BU (v:= .bool (decide (¬ (z=0)))) (rs:= []) 9 rfl rfl rfl (dT c) (by kernel_rfl) (fun _ _=>Cy (e:= !(decide (z=0))) yk decide_not.symm) (BU (v:= .bool (decide (¬ (z=0)))) (rs:= []) 10 rfl rfl rfl (dT c) (by kernel_rfl) (fun _ _=>BX rfl) ?_)
 by_cases b:z=0
 refine BU (v:= .slice g d.length F) (rs:= []) 11 rfl rfl rfl (dF (EN b)) (by kernel_rfl) (fun _ _=>BX rfl) (BU (v:= .int .i64 ((a:Nat):Int)) (rs:= []) 12 rfl rfl rfl (dF (EN b)) (by kernel_rfl) (fun _ _=>BX rfl) (BU (v:= .pointer (some ⟨ab g,ao g+a *2,none⟩)) (rs:= []) 13 rfl rfl rfl (dF (EN b)) (by kernel_rfl) (fun _ ⟨_,C⟩=>Ch (ng) rfl rfl ((C.ro l).addr (i:=a) (by omega)) (by omega)) (BU (v:= .pointer (some ⟨ab g,ao g+a *2,none⟩)) (rs:= []) 14 rfl rfl rfl (dF (EN b)) (by kernel_rfl) (fun _ _=>yk) (BU (v:= .string ⟨List.toArray j.aK⟩) (rs:= []) 15 rfl rfl rfl (dF (EN b)) (by kernel_rfl) (fun _ ⟨_,C⟩=>Cc rfl (bi.one Tryz.isAgg9 (((C.ro l).elem aL.len x (by decide)).at_ (k:=0) rfl))) (BU (v:= .slice g d.length F) (rs:= []) 16 rfl rfl rfl (dF (EN b)) (by kernel_rfl) (fun _ _=>BX rfl) (BU (v:= .int .i64 ((a:Nat):Int)) (rs:= []) 17 rfl rfl rfl (dF (EN b)) (by kernel_rfl) (fun _ _=>BX rfl) (BU (v:= .int .i64 ((a - 1:Nat):Int)) (rs:= []) 18 rfl rfl rfl (dF (EN b)) (by kernel_rfl) (fun _ _=>Ci (e:=IntKind.i64.wrap (((a:Nat):Int) - 1)) yk (by rw [EL _ (by omega)]; omega)) ?_)))))))
 obtain⟨t,E⟩:=oN (ls:=d) (i:=a - 1) (by first | omega | (simp; done) | (simp; omega))
 refine BU (v:= .pointer (some ⟨ab g,ao g+(a - 1) *2,none⟩)) (rs:= []) 19 rfl rfl rfl (dF (EN b)) (by kernel_rfl) (fun _ ⟨_,C⟩=>Ch (ng) rfl rfl ((C.ro l).addr (i:=a - 1) (by omega)) (by omega)) (BU (v:= .pointer (some ⟨ab g,ao g+(a - 1) *2,none⟩)) (rs:= []) 20 rfl rfl rfl (dF (EN b)) (by kernel_rfl) (fun _ _=>yk) (BU (v:= .string ⟨List.toArray t.aK⟩) (rs:= []) 21 rfl rfl rfl (dF (EN b)) (by kernel_rfl) (fun _ ⟨_,C⟩=>Cc rfl (bi.one Tryz.isAgg9 (((C.ro l).elem aL.len E (by decide)).at_ (k:=0) rfl))) (BU (v:= .bool (decide (j.aK≤t.aK))) (rs:= []) 22 rfl rfl rfl (dF (EN b)) (by kernel_rfl) (fun _ _=>Cy (e:=Op.bytesLess j.aK t.aK || decide (j.aK=t.aK)) (Dw rfl rfl) (uV _ _)) (BU (v:= .bool (decide (j.aK≤t.aK))) (rs:= []) 23 rfl rfl rfl (dT c) (by kernel_rfl) (fun _ _=>BQ rfl (dF (EN b)) rfl) (GX.take (v:= .bool (decide (j.aK≤t.aK))) (rs:= []) 24 rfl (by kernel_rfl) (fun _ _=>BZ rfl (dT c) rfl) (Cx (by kernel_rfl) (Ca ?_)))))))
 by_cases J:j.aK≤t.aK
 refine jT (dT J) (sr (An rfl (rt (bR (tR (tR (bR (tR (rs ?_)))))))))
 have ak:=I.pk []
 obtain rfl:_=170:=hr.symm.trans (et (iN h) (et (iN f) (et (ag (cu m)) (et (iN s) (ic (et (n) (et (congrArg (fun q=>ek d q a) p) (et (ag o) (et (ip r) (et (ip c) (et (ag y) (et (ip b) (et (ag (cu E)) (ip J))))))))))))))
 exact⟨rfl,ak⟩
 refine jF (dF J) (CW (bN (Ca (BR (fw (.int .i64 ((a+1:Nat):Int)) (Ci (e:=IntKind.i64.wrap (((a:Nat):Int)+1)) yk (by rw [EL _ (by omega)]; omega)) (Mz rfl (Cf ?_)))))))
 have au:=I.pk []
 exact Cm (a+1) ⟨rfl,rfl,rfl,rfl,trivial⟩ (u.2 ⟨au,by omega,et (n) (et (congrArg (fun q=>ek d q a) p) (et (ag o) (et (ip r) (et (ip c) (et (ag y) (et (ip b) (et (ag (cu E)) (iN J))))))))⟩) (by show d.length - (a+1) < d.length - a; omega)
 refine BP (rs:= []) 11 rfl rfl rfl (dT b) (by kernel_rfl) (BP (rs:= []) 12 rfl rfl rfl (dT b) (by kernel_rfl) (BP (rs:= []) 13 rfl rfl rfl (dT b) (by kernel_rfl) (BP (rs:= []) 14 rfl rfl rfl (dT b) (by kernel_rfl) (BP (rs:= []) 15 rfl rfl rfl (dT b) (by kernel_rfl) (BP (rs:= []) 16 rfl rfl rfl (dT b) (by kernel_rfl) (BP (rs:= []) 17 rfl rfl rfl (dT b) (by kernel_rfl) (BP (rs:= []) 18 rfl rfl rfl (dT b) (by kernel_rfl) (BP (rs:= []) 19 rfl rfl rfl (dT b) (by kernel_rfl) (BP (rs:= []) 20 rfl rfl rfl (dT b) (by kernel_rfl) (BP (rs:= []) 21 rfl rfl rfl (dT b) (by kernel_rfl) (BP (rs:= []) 22 rfl rfl rfl (dT b) (by kernel_rfl) (BU (v:= .bool true) (rs:= []) 23 rfl rfl rfl (dT c) (by kernel_rfl) (fun _ _=>BZ rfl (dT b) rfl) (GX.take (v:= .bool true) (rs:= []) 24 rfl (by kernel_rfl) (fun _ _=>BZ rfl (dT c) rfl) (Cx (by kernel_rfl) (Ca (jt (sr (An rfl (rt (bR (tR (tR (bR (tR (rs ?_)))))))))))))))))))))))))
 have av:=I.pk []
 obtain rfl:_=170:=hr.symm.trans (et (iN h) (et (iN f) (et (ag (cu m)) (et (iN s) (ic (et (n) (et (congrArg (fun q=>ek d q a) p) (et (ag o) (et (ip r) (et (ip c) (et (ag y) (iN b))))))))))))
 exact⟨rfl,av⟩
 refine BP (rs:= []) 3 rfl rfl rfl (dF c) (by kernel_rfl) (BP (rs:= []) 4 rfl rfl rfl (dF c) (by kernel_rfl) (BP (rs:= []) 5 rfl rfl rfl (dF c) (by kernel_rfl) (BP (rs:= []) 6 rfl rfl rfl (dF c) (by kernel_rfl) (BP (rs:= []) 7 rfl rfl rfl (dF c) (by kernel_rfl) (BP (rs:= []) 8 rfl rfl rfl (dF c) (by kernel_rfl) (BP (rs:= []) 9 rfl rfl rfl (dF c) (by kernel_rfl) (BP (rs:= []) 10 rfl rfl rfl (dF c) (by kernel_rfl) (Cr (rs:= []) 11 rfl rfl rfl (by kernel_rfl) (Cr (rs:= []) 12 rfl rfl rfl (by kernel_rfl) (Cr (rs:= []) 13 rfl rfl rfl (by kernel_rfl) (Cr (rs:= []) 14 rfl rfl rfl (by kernel_rfl) (Cr (rs:= []) 15 rfl rfl rfl (by kernel_rfl) (Cr (rs:= []) 16 rfl rfl rfl (by kernel_rfl) (Cr (rs:= []) 17 rfl rfl rfl (by kernel_rfl) (Cr (rs:= []) 18 rfl rfl rfl (by kernel_rfl) (Cr (rs:= []) 19 rfl rfl rfl (by kernel_rfl) (Cr (rs:= []) 20 rfl rfl rfl (by kernel_rfl) (Cr (rs:= []) 21 rfl rfl rfl (by kernel_rfl) (Cr (rs:= []) 22 rfl rfl rfl (by kernel_rfl) (BP (rs:= []) 23 rfl rfl rfl (dF c) (by kernel_rfl) (GX.take (v:= .bool false) (rs:= []) 24 rfl (by kernel_rfl) (fun _ _=>BQ rfl (dF c) rfl) (Cx (by kernel_rfl) (Ca (jf (CW (bN (Ca (BR (fw (.int .i64 ((a+1:Nat):Int)) (Ci (e:=IntKind.i64.wrap (((a:Nat):Int)+1)) yk (by rw [EL _ (by omega)]; omega)) (Mz rfl (Cf ?_)))))))))))))))))))))))))))))))
 have ax:=B.pk []
 exact Cm (a+1) ⟨rfl,rfl,rfl,rfl,trivial⟩ (u.2 ⟨ax,by omega,et (n) (et (congrArg (fun q=>ek d q a) p) (et (ag o) (et (ip r) (iN c))))⟩) (by show d.length - (a+1) < d.length - a; omega)
 refine jT (cn r) (sr (An rfl (rt (tR (bR (tR (tR (bR (tR (rs ?_))))))))))
 have ay:=T.pk []
 obtain rfl:_=170:=hr.symm.trans (et (iN h) (et (iN f) (et (ag (cu m)) (et (iN s) (ic (et (n) (et (congrArg (fun q=>ek d q a) p) (et (ag o) (jE r)))))))))
 exact⟨rfl,ay⟩
 refine jF (dF P) (Wp.exit (Cb ?_))
 have Y:ek d d 0=Sum.inl ():=et (n) (et (congrArg (fun q=>ek d q a) (bM (ls:=d) (i:=a) (by omega))) rfl)
 refine Cb (Cn (Ca (sr (An rfl (rt (rs ?_))))))
 have az:=A.pk []
 obtain rfl:_=0:=hr.symm.trans (et (iN h) (et (iN f) (et (ag (cu m)) (et (iN s) (mF Y)))))
 exact⟨rfl,az⟩
theorem sJ (w:World) (D:Nat→Prop) (j:Int) (H:Own w D w []) (c:j=1):
    Calls Tryz.prog 111 #[.int .i64 j] w (dE fun v w'=>v= .tuple #[.agg #[.bool false, .func (.func 120) #[] #[], .func (.func 121) #[] #[], .func (.func 122) #[] #[], .func (.func 123) #[] #[]], .bool true]∧Own w D w' []):=by
 subst c
 refine Ce (args:= [.int .i64 1]) Tryz.func111 rfl rfl rfl ?_
 show Wp _ _ _ [(0, .int .i64 1)] _ _
 refine sr ?_
 refine dB [.bool false, .nilFunc, .nilFunc, .nilFunc, .nilFunc] 166 H ?_
 intro l n d
 refine Ar rfl (Kz (.agg #[.bool false, .func (.func 120) #[] #[], .func (.func 121) #[] #[], .func (.func 122) #[] #[], .func (.func 123) #[] #[]]) (Kz (.agg #[.bool true, .func (.func 124) #[] #[], .func (.func 125) #[] #[], .func (.func 122) #[] #[], .func (.func 126) #[] #[]]) (Kz (.agg #[.bool true, .func (.func 120) #[] #[], .func (.func 121) #[] #[], .func (.func 122) #[] #[], .func (.func 127) #[] #[]]) (Kz (.agg #[.bool false, .func (.func 128) #[] #[], .func (.func 129) #[] #[], .func (.func 130) #[] #[], .func (.func 131) #[] #[]]) (Kz (.agg #[.bool true, .func (.func 132) #[] #[], .func (.func 133) #[] #[], .func (.func 130) #[] #[], .func (.func 134) #[] #[]]) (Kz (.agg #[.bool false, .nilFunc, .nilFunc, .nilFunc, .nilFunc, .bool false, .func (.func 120) #[] #[], .func (.func 121) #[] #[], .func (.func 122) #[] #[], .func (.func 123) #[] #[], .bool true, .func (.func 124) #[] #[], .func (.func 125) #[] #[], .func (.func 122) #[] #[], .func (.func 126) #[] #[], .bool true, .func (.func 120) #[] #[], .func (.func 121) #[] #[], .func (.func 122) #[] #[], .func (.func 127) #[] #[], .bool false, .func (.func 128) #[] #[], .func (.func 129) #[] #[], .func (.func 130) #[] #[], .func (.func 131) #[] #[], .bool true, .func (.func 132) #[] #[], .func (.func 133) #[] #[], .func (.func 130) #[] #[], .func (.func 134) #[] #[]]) ?_))))))
 refine dB [.bool false, .nilFunc, .nilFunc, .nilFunc, .nilFunc, .bool false, .nilFunc, .nilFunc, .nilFunc, .nilFunc, .bool false, .nilFunc, .nilFunc, .nilFunc, .nilFunc, .bool false, .nilFunc, .nilFunc, .nilFunc, .nilFunc, .bool false, .nilFunc, .nilFunc, .nilFunc, .nilFunc, .bool false, .nilFunc, .nilFunc, .nilFunc, .nilFunc] 178 d ?_
 intro e o f
 refine dw [.bool false, .nilFunc, .nilFunc, .nilFunc, .nilFunc, .bool false, .func (.func 120) #[] #[], .func (.func 121) #[] #[], .func (.func 122) #[] #[], .func (.func 123) #[] #[], .bool true, .func (.func 124) #[] #[], .func (.func 125) #[] #[], .func (.func 122) #[] #[], .func (.func 126) #[] #[], .bool true, .func (.func 120) #[] #[], .func (.func 121) #[] #[], .func (.func 122) #[] #[], .func (.func 127) #[] #[], .bool false, .func (.func 128) #[] #[], .func (.func 129) #[] #[], .func (.func 130) #[] #[], .func (.func 131) #[] #[], .bool true, .func (.func 132) #[] #[], .func (.func 133) #[] #[], .func (.func 130) #[] #[], .func (.func 134) #[] #[]] 0 f Tryz.sizeOf178 ?_
 intro p a
 refine nt (BS (sr (Mz rfl (Kz (.bool false) (Mz rfl (gw (.int .i64 1) rfl (BX rfl) (Gz (.bool false) rfl (fw (.bool false) (BQ rfl rfl rfl) (nt (jf (sk (sr (Mz rfl (Kz (.pointer (some ⟨e,5,none⟩)) (La ([.bool false, .func (.func 120) #[] #[], .func (.func 121) #[] #[], .func (.func 122) #[] #[], .func (.func 123) #[] #[]]) a 0 Tryz.isAgg166 Tryz.sizeOf166 ?_)))))))))))))))
 have g:=a.pk [1,0]
 refine dw [.bool false, .func (.func 120) #[] #[], .func (.func 121) #[] #[], .func (.func 122) #[] #[], .func (.func 123) #[] #[]] 0 g Tryz.sizeOf166 ?_
 intro q b
 refine An rfl (rt (CK (nD (vs:= [.agg #[.bool false, .func (.func 120) #[] #[], .func (.func 121) #[] #[], .func (.func 122) #[] #[], .func (.func 123) #[] #[]], .bool true]) rfl (ib.cell rfl (Cu (cs:= [.bool false, .func (.func 120) #[] #[], .func (.func 121) #[] #[], .func (.func 122) #[] #[], .func (.func 123) #[] #[]]) Tryz.isAgg166 Tryz.sizeOf166 ((b.cls (i:=0) rfl).lit (k:=0) (m:=5) rfl)) (ib.tmp rfl ib.nil)) (EK rfl)) ?_))
 have h:=b.pk []
 exact⟨rfl,h⟩
def lJ (a:bq):bq:=
 bq.mk a.aI a.aV ([]) ([]) ([]) 0
theorem qy (w:World) (D:Nat→Prop) (a:bq) (g:bq) (H:Own w D w []) (hr:lJ a=g):
    Calls Tryz.prog 120 #[.agg (bq.cells a).toArray] w (dE fun v w'=>v= .agg (bq.cells g).toArray∧Own w D w' []):=by
 refine Ce (args:= [.agg (bq.cells a).toArray]) Tryz.func120 rfl rfl rfl ?_
 show Wp _ _ _ [(0, .agg (bq.cells a).toArray)] _ _
 refine sr ?_
 refine dB (bq.cells a) 74 H ?_
 intro c h e
 refine dB [.int .i64 0, .string ⟨List.toArray ([])⟩, .string ⟨List.toArray ([])⟩, .string ⟨List.toArray ([])⟩, .string ⟨List.toArray ([])⟩, .int .i64 0] 74 e ?_
 intro j l b
 refine ns (Kz (.pointer (some ⟨c,0,none⟩)) (Lz (.int .i64 a.aI) b 1 Tryz.isAgg3 (Kz (.pointer (some ⟨c,1,none⟩)) (Lz (.string ⟨List.toArray a.aV⟩) b 1 Tryz.isAgg9 (Kz (.agg #[.int .i64 a.aI, .string ⟨List.toArray a.aV⟩, .string ⟨List.toArray ([])⟩, .string ⟨List.toArray ([])⟩, .string ⟨List.toArray ([])⟩, .int .i64 0]) ?_)))))
 refine dw [.int .i64 a.aI, .string ⟨List.toArray a.aV⟩, .string ⟨List.toArray ([])⟩, .string ⟨List.toArray ([])⟩, .string ⟨List.toArray ([])⟩, .int .i64 0] 0 b Tryz.sizeOf74 ?_
 intro n d
 refine nt (rt (CK (mY rfl rfl (Cu (cs:= [.int .i64 a.aI, .string ⟨List.toArray a.aV⟩, .string ⟨List.toArray ([])⟩, .string ⟨List.toArray ([])⟩, .string ⟨List.toArray ([])⟩, .int .i64 0]) Tryz.isAgg74 Tryz.sizeOf74 ((d.cls (i:=0) rfl).lit (k:=0) (m:=6) rfl))) ?_))
 have f:=d.pk []
 obtain rfl:_=bq.mk a.aI a.aV ([]) ([]) ([]) 0:=hr.symm.trans rfl
 exact⟨rfl,f⟩
def lN (b:bq):Int:=
 bnd (bY b.aV) fun a=>a
theorem o8 (w:World) (D:Nat→Prop) (a:bq) (l:Int) (H:Own w D w []) (hr:lN a=l):
    Calls Tryz.prog 121 #[.agg (bq.cells a).toArray] w (dE fun v w'=>v= .int .i64 l∧Own w D w' []):=by
 refine Ce (args:= [.agg (bq.cells a).toArray]) Tryz.func121 rfl rfl rfl ?_
 show Wp _ _ _ [(0, .agg (bq.cells a).toArray)] _ _
 refine sr ?_
 refine dB (bq.cells a) 74 H ?_
 intro i o e
 refine Ar rfl (Kz (.pointer (some ⟨i,1,none⟩)) (Lz (.string ⟨List.toArray a.aV⟩) e 0 Tryz.isAgg9 ?_))
 obtain⟨d,b⟩:∃ q,bY a.aV=q:=⟨_,rfl⟩
 obtain⟨p,f,m,g,n⟩:=Ck e
 refine cl Tryz.call83 (jZ _ _ a.aV d f b) ?_
 rintro _ r ⟨rfl,h,c⟩
 have j:=g _ _ h
 replace c: ¬ (d=0)∨(1≤a.aV.length∧a.aV.length≤12):=c
 refine An rfl (rt (rs ?_))
 have k:=j.pk []
 obtain rfl:_=d:=hr.symm.trans (ag b)
 exact⟨rfl,k⟩
theorem sK (w:World) (D:Nat→Prop) (j:Int) (H:Own w D w []) (c:j=2):
    Calls Tryz.prog 111 #[.int .i64 j] w (dE fun v w'=>v= .tuple #[.agg #[.bool true, .func (.func 124) #[] #[], .func (.func 125) #[] #[], .func (.func 122) #[] #[], .func (.func 126) #[] #[]], .bool true]∧Own w D w' []):=by
 subst c
 refine Ce (args:= [.int .i64 2]) Tryz.func111 rfl rfl rfl ?_
 show Wp _ _ _ [(0, .int .i64 2)] _ _
 refine sr ?_
 refine dB [.bool false, .nilFunc, .nilFunc, .nilFunc, .nilFunc] 166 H ?_
 intro l n d
 refine Ar rfl (Kz (.agg #[.bool false, .func (.func 120) #[] #[], .func (.func 121) #[] #[], .func (.func 122) #[] #[], .func (.func 123) #[] #[]]) (Kz (.agg #[.bool true, .func (.func 124) #[] #[], .func (.func 125) #[] #[], .func (.func 122) #[] #[], .func (.func 126) #[] #[]]) (Kz (.agg #[.bool true, .func (.func 120) #[] #[], .func (.func 121) #[] #[], .func (.func 122) #[] #[], .func (.func 127) #[] #[]]) (Kz (.agg #[.bool false, .func (.func 128) #[] #[], .func (.func 129) #[] #[], .func (.func 130) #[] #[], .func (.func 131) #[] #[]]) (Kz (.agg #[.bool true, .func (.func 132) #[] #[], .func (.func 133) #[] #[], .func (.func 130) #[] #[], .func (.func 134) #[] #[]]) (Kz (.agg #[.bool false, .nilFunc, .nilFunc, .nilFunc, .nilFunc, .bool false, .func (.func 120) #[] #[], .func (.func 121) #[] #[], .func (.func 122) #[] #[], .func (.func 123) #[] #[], .bool true, .func (.func 124) #[] #[], .func (.func 125) #[] #[], .func (.func 122) #[] #[], .func (.func 126) #[] #[], .bool true, .func (.func 120) #[] #[], .func (.func 121) #[] #[], .func (.func 122) #[] #[], .func (.func 127) #[] #[], .bool false, .func (.func 128) #[] #[], .func (.func 129) #[] #[], .func (.func 130) #[] #[], .func (.func 131) #[] #[], .bool true, .func (.func 132) #[] #[], .func (.func 133) #[] #[], .func (.func 130) #[] #[], .func (.func 134) #[] #[]]) ?_))))))
 refine dB [.bool false, .nilFunc, .nilFunc, .nilFunc, .nilFunc, .bool false, .nilFunc, .nilFunc, .nilFunc, .nilFunc, .bool false, .nilFunc, .nilFunc, .nilFunc, .nilFunc, .bool false, .nilFunc, .nilFunc, .nilFunc, .nilFunc, .bool false, .nilFunc, .nilFunc, .nilFunc, .nilFunc, .bool false, .nilFunc, .nilFunc, .nilFunc, .nilFunc] 178 d ?_
 intro e o f
 refine dw [.bool false, .nilFunc, .nilFunc, .nilFunc, .nilFunc, .bool false, .func (.func 120) #[] #[], .func (.func 121) #[] #[], .func (.func 122) #[] #[], .func (.func 123) #[] #[], .bool true, .func (.func 124) #[] #[], .func (.func 125) #[] #[], .func (.func 122) #[] #[], .func (.func 126) #[] #[], .bool true, .func (.func 120) #[] #[], .func (.func 121) #[] #[], .func (.func 122) #[] #[], .func (.func 127) #[] #[], .bool false, .func (.func 128) #[] #[], .func (.func 129) #[] #[], .func (.func 130) #[] #[], .func (.func 131) #[] #[], .bool true, .func (.func 132) #[] #[], .func (.func 133) #[] #[], .func (.func 130) #[] #[], .func (.func 134) #[] #[]] 0 f Tryz.sizeOf178 ?_
 intro p a
 refine nt (BS (sr (Mz rfl (Kz (.bool false) (Mz rfl (gw (.int .i64 2) rfl (BX rfl) (Gz (.bool false) rfl (fw (.bool false) (BQ rfl rfl rfl) (nt (jf (sk (sr (Mz rfl (Kz (.pointer (some ⟨e,10,none⟩)) (La ([.bool true, .func (.func 124) #[] #[], .func (.func 125) #[] #[], .func (.func 122) #[] #[], .func (.func 126) #[] #[]]) a 0 Tryz.isAgg166 Tryz.sizeOf166 ?_)))))))))))))))
 have g:=a.pk [1,0]
 refine dw [.bool true, .func (.func 124) #[] #[], .func (.func 125) #[] #[], .func (.func 122) #[] #[], .func (.func 126) #[] #[]] 0 g Tryz.sizeOf166 ?_
 intro q b
 refine An rfl (rt (CK (nD (vs:= [.agg #[.bool true, .func (.func 124) #[] #[], .func (.func 125) #[] #[], .func (.func 122) #[] #[], .func (.func 126) #[] #[]], .bool true]) rfl (ib.cell rfl (Cu (cs:= [.bool true, .func (.func 124) #[] #[], .func (.func 125) #[] #[], .func (.func 122) #[] #[], .func (.func 126) #[] #[]]) Tryz.isAgg166 Tryz.sizeOf166 ((b.cls (i:=0) rfl).lit (k:=0) (m:=5) rfl)) (ib.tmp rfl ib.nil)) (EK rfl)) ?_))
 have h:=b.pk []
 exact⟨rfl,h⟩
def mD (a:bq):bq:=
 bq.mk a.aI a.aV a.aC ([]) ([]) 0
theorem tJ (w:World) (D:Nat→Prop) (a:bq) (g:bq) (H:Own w D w []) (hr:mD a=g):
    Calls Tryz.prog 124 #[.agg (bq.cells a).toArray] w (dE fun v w'=>v= .agg (bq.cells g).toArray∧Own w D w' []):=by
 refine Ce (args:= [.agg (bq.cells a).toArray]) Tryz.func124 rfl rfl rfl ?_
 show Wp _ _ _ [(0, .agg (bq.cells a).toArray)] _ _
 refine sr ?_
 refine dB (bq.cells a) 74 H ?_
 intro c h e
 refine dB [.int .i64 0, .string ⟨List.toArray ([])⟩, .string ⟨List.toArray ([])⟩, .string ⟨List.toArray ([])⟩, .string ⟨List.toArray ([])⟩, .int .i64 0] 74 e ?_
 intro j l b
 refine ns (Kz (.pointer (some ⟨c,0,none⟩)) (Lz (.int .i64 a.aI) b 1 Tryz.isAgg3 (Kz (.pointer (some ⟨c,1,none⟩)) (Lz (.string ⟨List.toArray a.aV⟩) b 1 Tryz.isAgg9 (Kz (.pointer (some ⟨c,2,none⟩)) (Lz (.string ⟨List.toArray a.aC⟩) b 1 Tryz.isAgg9 (Kz (.agg #[.int .i64 a.aI, .string ⟨List.toArray a.aV⟩, .string ⟨List.toArray a.aC⟩, .string ⟨List.toArray ([])⟩, .string ⟨List.toArray ([])⟩, .int .i64 0]) ?_)))))))
 refine dw [.int .i64 a.aI, .string ⟨List.toArray a.aV⟩, .string ⟨List.toArray a.aC⟩, .string ⟨List.toArray ([])⟩, .string ⟨List.toArray ([])⟩, .int .i64 0] 0 b Tryz.sizeOf74 ?_
 intro n d
 refine nt (rt (CK (mY rfl rfl (Cu (cs:= [.int .i64 a.aI, .string ⟨List.toArray a.aV⟩, .string ⟨List.toArray a.aC⟩, .string ⟨List.toArray ([])⟩, .string ⟨List.toArray ([])⟩, .int .i64 0]) Tryz.isAgg74 Tryz.sizeOf74 ((d.cls (i:=0) rfl).lit (k:=0) (m:=6) rfl))) ?_))
 have f:=d.pk []
 obtain rfl:_=bq.mk a.aI a.aV a.aC ([]) ([]) 0:=hr.symm.trans rfl
 exact⟨rfl,f⟩
def mg (a:List UInt8):Int:=
 if((a.length:Nat):Int) > 16 then 2 else 0
theorem rH (w:World) (D:Nat→Prop) (b:List UInt8) (e:Int) (H:Own w D w []) (hr:mg b=e):
    Calls Tryz.prog 140 #[.string ⟨List.toArray b⟩] w (dE fun v w'=>v= .int .i64 e∧Own w D w' []):=by
 refine Ce (args:= [.string ⟨List.toArray b⟩]) Tryz.func140 rfl rfl rfl ?_
 show Wp _ _ _ [(0, .string ⟨List.toArray b⟩)] _ _
 refine sr (An rfl (BS (sr (Mz rfl (Kz (.int .i64 ((b.length:Nat):Int)) (Kz (.bool (decide (((b.length:Nat):Int) > 16))) (nt ?_)))))))
 by_cases a:((b.length:Nat):Int) > 16
 refine jT (dT a) (sr (An rfl (rt (tR (rs ?_)))))
 have c:Own w D w []:=H.pk []
 obtain rfl:_=2:=hr.symm.trans (ip a)
 exact⟨rfl,c⟩
 refine jF (dF a) (sk (sr (An rfl (rt (rs ?_)))))
 have d:Own w D w []:=H.pk []
 obtain rfl:_=0:=hr.symm.trans (iN a)
 exact⟨rfl,d⟩
def lw (c:bq):Int:=
 bnd (bY c.aV) fun a=>if a=0 then bnd (mg c.aC) fun b=>b else a
theorem rV (w:World) (D:Nat→Prop) (a:bq) (x:Int) (H:Own w D w []) (hr:lw a=x):
    Calls Tryz.prog 125 #[.agg (bq.cells a).toArray] w (dE fun v w'=>v= .int .i64 x∧Own w D w' []):=by
 refine Ce (args:= [.agg (bq.cells a).toArray]) Tryz.func125 rfl rfl rfl ?_
 show Wp _ _ _ [(0, .agg (bq.cells a).toArray)] _ _
 refine sr ?_
 refine dB (bq.cells a) 74 H ?_
 intro i C j
 refine An rfl (BS (sr (Kz (.pointer (some ⟨i,1,none⟩)) (Lz (.string ⟨List.toArray a.aV⟩) j 0 Tryz.isAgg9 ?_))))
 obtain⟨b,c⟩:∃ q,bY a.aV=q:=⟨_,rfl⟩
 obtain⟨E,k,y,l,z⟩:=Ck j
 refine cl Tryz.call83 (jZ _ _ a.aV b k c) ?_
 rintro _ F ⟨rfl,m,f⟩
 have h:=l _ _ m
 replace f: ¬ (b=0)∨(1≤a.aV.length∧a.aV.length≤12):=f
 refine Ar rfl (Mz rfl (fw (.bool (decide (¬ (b=0)))) (Cy (e:= !(decide (b=0))) yk decide_not.symm) (nt ?_)))
 by_cases d:b=0
 refine jF (dF (EN d)) (sk (sr (Kz (.pointer (some ⟨i,2,none⟩)) (Lz (.string ⟨List.toArray a.aC⟩) h 0 Tryz.isAgg9 ?_))))
 obtain⟨n,g⟩:∃ q,mg a.aC=q:=⟨_,rfl⟩
 obtain⟨G,o,A,p,B⟩:=Ck h
 refine cl Tryz.call140 (rH _ _ a.aC n o g) ?_
 rintro _ I ⟨rfl,r⟩
 have s:=p _ _ r
 refine An rfl (rt (rs ?_))
 have t:=s.pk []
 obtain rfl:_=n:=hr.symm.trans (et (ag c) (et (ip d) (ag g)))
 exact⟨rfl,t⟩
 refine jT (dT d) (sr (Mz rfl (An rfl (rt (tR (rs ?_))))))
 have u:=h.pk []
 obtain rfl:_=b:=hr.symm.trans (et (ag c) (iN d))
 exact⟨rfl,u⟩
theorem sM (w:World) (D:Nat→Prop) (j:Int) (H:Own w D w []) (c:j=3):
    Calls Tryz.prog 111 #[.int .i64 j] w (dE fun v w'=>v= .tuple #[.agg #[.bool true, .func (.func 120) #[] #[], .func (.func 121) #[] #[], .func (.func 122) #[] #[], .func (.func 127) #[] #[]], .bool true]∧Own w D w' []):=by
 subst c
 refine Ce (args:= [.int .i64 3]) Tryz.func111 rfl rfl rfl ?_
 show Wp _ _ _ [(0, .int .i64 3)] _ _
 refine sr ?_
 refine dB [.bool false, .nilFunc, .nilFunc, .nilFunc, .nilFunc] 166 H ?_
 intro l n d
 refine Ar rfl (Kz (.agg #[.bool false, .func (.func 120) #[] #[], .func (.func 121) #[] #[], .func (.func 122) #[] #[], .func (.func 123) #[] #[]]) (Kz (.agg #[.bool true, .func (.func 124) #[] #[], .func (.func 125) #[] #[], .func (.func 122) #[] #[], .func (.func 126) #[] #[]]) (Kz (.agg #[.bool true, .func (.func 120) #[] #[], .func (.func 121) #[] #[], .func (.func 122) #[] #[], .func (.func 127) #[] #[]]) (Kz (.agg #[.bool false, .func (.func 128) #[] #[], .func (.func 129) #[] #[], .func (.func 130) #[] #[], .func (.func 131) #[] #[]]) (Kz (.agg #[.bool true, .func (.func 132) #[] #[], .func (.func 133) #[] #[], .func (.func 130) #[] #[], .func (.func 134) #[] #[]]) (Kz (.agg #[.bool false, .nilFunc, .nilFunc, .nilFunc, .nilFunc, .bool false, .func (.func 120) #[] #[], .func (.func 121) #[] #[], .func (.func 122) #[] #[], .func (.func 123) #[] #[], .bool true, .func (.func 124) #[] #[], .func (.func 125) #[] #[], .func (.func 122) #[] #[], .func (.func 126) #[] #[], .bool true, .func (.func 120) #[] #[], .func (.func 121) #[] #[], .func (.func 122) #[] #[], .func (.func 127) #[] #[], .bool false, .func (.func 128) #[] #[], .func (.func 129) #[] #[], .func (.func 130) #[] #[], .func (.func 131) #[] #[], .bool true, .func (.func 132) #[] #[], .func (.func 133) #[] #[], .func (.func 130) #[] #[], .func (.func 134) #[] #[]]) ?_))))))
 refine dB [.bool false, .nilFunc, .nilFunc, .nilFunc, .nilFunc, .bool false, .nilFunc, .nilFunc, .nilFunc, .nilFunc, .bool false, .nilFunc, .nilFunc, .nilFunc, .nilFunc, .bool false, .nilFunc, .nilFunc, .nilFunc, .nilFunc, .bool false, .nilFunc, .nilFunc, .nilFunc, .nilFunc, .bool false, .nilFunc, .nilFunc, .nilFunc, .nilFunc] 178 d ?_
 intro e o f
 refine dw [.bool false, .nilFunc, .nilFunc, .nilFunc, .nilFunc, .bool false, .func (.func 120) #[] #[], .func (.func 121) #[] #[], .func (.func 122) #[] #[], .func (.func 123) #[] #[], .bool true, .func (.func 124) #[] #[], .func (.func 125) #[] #[], .func (.func 122) #[] #[], .func (.func 126) #[] #[], .bool true, .func (.func 120) #[] #[], .func (.func 121) #[] #[], .func (.func 122) #[] #[], .func (.func 127) #[] #[], .bool false, .func (.func 128) #[] #[], .func (.func 129) #[] #[], .func (.func 130) #[] #[], .func (.func 131) #[] #[], .bool true, .func (.func 132) #[] #[], .func (.func 133) #[] #[], .func (.func 130) #[] #[], .func (.func 134) #[] #[]] 0 f Tryz.sizeOf178 ?_
 intro p a
 refine nt (BS (sr (Mz rfl (Kz (.bool false) (Mz rfl (gw (.int .i64 3) rfl (BX rfl) (Gz (.bool false) rfl (fw (.bool false) (BQ rfl rfl rfl) (nt (jf (sk (sr (Mz rfl (Kz (.pointer (some ⟨e,15,none⟩)) (La ([.bool true, .func (.func 120) #[] #[], .func (.func 121) #[] #[], .func (.func 122) #[] #[], .func (.func 127) #[] #[]]) a 0 Tryz.isAgg166 Tryz.sizeOf166 ?_)))))))))))))))
 have g:=a.pk [1,0]
 refine dw [.bool true, .func (.func 120) #[] #[], .func (.func 121) #[] #[], .func (.func 122) #[] #[], .func (.func 127) #[] #[]] 0 g Tryz.sizeOf166 ?_
 intro q b
 refine An rfl (rt (CK (nD (vs:= [.agg #[.bool true, .func (.func 120) #[] #[], .func (.func 121) #[] #[], .func (.func 122) #[] #[], .func (.func 127) #[] #[]], .bool true]) rfl (ib.cell rfl (Cu (cs:= [.bool true, .func (.func 120) #[] #[], .func (.func 121) #[] #[], .func (.func 122) #[] #[], .func (.func 127) #[] #[]]) Tryz.isAgg166 Tryz.sizeOf166 ((b.cls (i:=0) rfl).lit (k:=0) (m:=5) rfl)) (ib.tmp rfl ib.nil)) (EK rfl)) ?_))
 have h:=b.pk []
 exact⟨rfl,h⟩
theorem sN (w:World) (D:Nat→Prop) (j:Int) (H:Own w D w []) (c:j=4):
    Calls Tryz.prog 111 #[.int .i64 j] w (dE fun v w'=>v= .tuple #[.agg #[.bool false, .func (.func 128) #[] #[], .func (.func 129) #[] #[], .func (.func 130) #[] #[], .func (.func 131) #[] #[]], .bool true]∧Own w D w' []):=by
 subst c
 refine Ce (args:= [.int .i64 4]) Tryz.func111 rfl rfl rfl ?_
 show Wp _ _ _ [(0, .int .i64 4)] _ _
 refine sr ?_
 refine dB [.bool false, .nilFunc, .nilFunc, .nilFunc, .nilFunc] 166 H ?_
 intro l n d
 refine Ar rfl (Kz (.agg #[.bool false, .func (.func 120) #[] #[], .func (.func 121) #[] #[], .func (.func 122) #[] #[], .func (.func 123) #[] #[]]) (Kz (.agg #[.bool true, .func (.func 124) #[] #[], .func (.func 125) #[] #[], .func (.func 122) #[] #[], .func (.func 126) #[] #[]]) (Kz (.agg #[.bool true, .func (.func 120) #[] #[], .func (.func 121) #[] #[], .func (.func 122) #[] #[], .func (.func 127) #[] #[]]) (Kz (.agg #[.bool false, .func (.func 128) #[] #[], .func (.func 129) #[] #[], .func (.func 130) #[] #[], .func (.func 131) #[] #[]]) (Kz (.agg #[.bool true, .func (.func 132) #[] #[], .func (.func 133) #[] #[], .func (.func 130) #[] #[], .func (.func 134) #[] #[]]) (Kz (.agg #[.bool false, .nilFunc, .nilFunc, .nilFunc, .nilFunc, .bool false, .func (.func 120) #[] #[], .func (.func 121) #[] #[], .func (.func 122) #[] #[], .func (.func 123) #[] #[], .bool true, .func (.func 124) #[] #[], .func (.func 125) #[] #[], .func (.func 122) #[] #[], .func (.func 126) #[] #[], .bool true, .func (.func 120) #[] #[], .func (.func 121) #[] #[], .func (.func 122) #[] #[], .func (.func 127) #[] #[], .bool false, .func (.func 128) #[] #[], .func (.func 129) #[] #[], .func (.func 130) #[] #[], .func (.func 131) #[] #[], .bool true, .func (.func 132) #[] #[], .func (.func 133) #[] #[], .func (.func 130) #[] #[], .func (.func 134) #[] #[]]) ?_))))))
 refine dB [.bool false, .nilFunc, .nilFunc, .nilFunc, .nilFunc, .bool false, .nilFunc, .nilFunc, .nilFunc, .nilFunc, .bool false, .nilFunc, .nilFunc, .nilFunc, .nilFunc, .bool false, .nilFunc, .nilFunc, .nilFunc, .nilFunc, .bool false, .nilFunc, .nilFunc, .nilFunc, .nilFunc, .bool false, .nilFunc, .nilFunc, .nilFunc, .nilFunc] 178 d ?_
 intro e o f
 refine dw [.bool false, .nilFunc, .nilFunc, .nilFunc, .nilFunc, .bool false, .func (.func 120) #[] #[], .func (.func 121) #[] #[], .func (.func 122) #[] #[], .func (.func 123) #[] #[], .bool true, .func (.func 124) #[] #[], .func (.func 125) #[] #[], .func (.func 122) #[] #[], .func (.func 126) #[] #[], .bool true, .func (.func 120) #[] #[], .func (.func 121) #[] #[], .func (.func 122) #[] #[], .func (.func 127) #[] #[], .bool false, .func (.func 128) #[] #[], .func (.func 129) #[] #[], .func (.func 130) #[] #[], .func (.func 131) #[] #[], .bool true, .func (.func 132) #[] #[], .func (.func 133) #[] #[], .func (.func 130) #[] #[], .func (.func 134) #[] #[]] 0 f Tryz.sizeOf178 ?_
 intro p a
 refine nt (BS (sr (Mz rfl (Kz (.bool false) (Mz rfl (gw (.int .i64 4) rfl (BX rfl) (Gz (.bool false) rfl (fw (.bool false) (BQ rfl rfl rfl) (nt (jf (sk (sr (Mz rfl (Kz (.pointer (some ⟨e,20,none⟩)) (La ([.bool false, .func (.func 128) #[] #[], .func (.func 129) #[] #[], .func (.func 130) #[] #[], .func (.func 131) #[] #[]]) a 0 Tryz.isAgg166 Tryz.sizeOf166 ?_)))))))))))))))
 have g:=a.pk [1,0]
 refine dw [.bool false, .func (.func 128) #[] #[], .func (.func 129) #[] #[], .func (.func 130) #[] #[], .func (.func 131) #[] #[]] 0 g Tryz.sizeOf166 ?_
 intro q b
 refine An rfl (rt (CK (nD (vs:= [.agg #[.bool false, .func (.func 128) #[] #[], .func (.func 129) #[] #[], .func (.func 130) #[] #[], .func (.func 131) #[] #[]], .bool true]) rfl (ib.cell rfl (Cu (cs:= [.bool false, .func (.func 128) #[] #[], .func (.func 129) #[] #[], .func (.func 130) #[] #[], .func (.func 131) #[] #[]]) Tryz.isAgg166 Tryz.sizeOf166 ((b.cls (i:=0) rfl).lit (k:=0) (m:=5) rfl)) (ib.tmp rfl ib.nil)) (EK rfl)) ?_))
 have h:=b.pk []
 exact⟨rfl,h⟩
def mE (a:bq):bq:=
 bq.mk a.aI ([]) ([]) a.aK a.aO a.bn
theorem tK (w:World) (D:Nat→Prop) (a:bq) (g:bq) (H:Own w D w []) (hr:mE a=g):
    Calls Tryz.prog 128 #[.agg (bq.cells a).toArray] w (dE fun v w'=>v= .agg (bq.cells g).toArray∧Own w D w' []):=by
 refine Ce (args:= [.agg (bq.cells a).toArray]) Tryz.func128 rfl rfl rfl ?_
 show Wp _ _ _ [(0, .agg (bq.cells a).toArray)] _ _
 refine sr ?_
 refine dB (bq.cells a) 74 H ?_
 intro c h e
 refine dB [.int .i64 0, .string ⟨List.toArray ([])⟩, .string ⟨List.toArray ([])⟩, .string ⟨List.toArray ([])⟩, .string ⟨List.toArray ([])⟩, .int .i64 0] 74 e ?_
 intro j l b
 refine ns (Kz (.pointer (some ⟨c,0,none⟩)) (Lz (.int .i64 a.aI) b 1 Tryz.isAgg3 (Kz (.pointer (some ⟨c,3,none⟩)) (Lz (.string ⟨List.toArray a.aK⟩) b 1 Tryz.isAgg9 (Kz (.pointer (some ⟨c,4,none⟩)) (Lz (.string ⟨List.toArray a.aO⟩) b 1 Tryz.isAgg9 (Kz (.pointer (some ⟨c,5,none⟩)) (Lz (.int .i64 a.bn) b 1 Tryz.isAgg3 (Kz (.agg #[.int .i64 a.aI, .string ⟨List.toArray ([])⟩, .string ⟨List.toArray ([])⟩, .string ⟨List.toArray a.aK⟩, .string ⟨List.toArray a.aO⟩, .int .i64 a.bn]) ?_)))))))))
 refine dw [.int .i64 a.aI, .string ⟨List.toArray ([])⟩, .string ⟨List.toArray ([])⟩, .string ⟨List.toArray a.aK⟩, .string ⟨List.toArray a.aO⟩, .int .i64 a.bn] 0 b Tryz.sizeOf74 ?_
 intro n d
 refine nt (rt (CK (mY rfl rfl (Cu (cs:= [.int .i64 a.aI, .string ⟨List.toArray ([])⟩, .string ⟨List.toArray ([])⟩, .string ⟨List.toArray a.aK⟩, .string ⟨List.toArray a.aO⟩, .int .i64 a.bn]) Tryz.isAgg74 Tryz.sizeOf74 ((d.cls (i:=0) rfl).lit (k:=0) (m:=6) rfl))) ?_))
 have f:=d.pk []
 obtain rfl:_=bq.mk a.aI ([]) ([]) a.aK a.aO a.bn:=hr.symm.trans rfl
 exact⟨rfl,f⟩
def lC (a:bq):bF:=
 bF.mk a.aK a.aO
theorem rW (w:World) (D:Nat→Prop) (a:bq) (g:bF) (H:Own w D w []) (hr:lC a=g):
    Calls Tryz.prog 130 #[.agg (bq.cells a).toArray] w (dE fun v w'=>v= .agg (bF.cells g).toArray∧Own w D w' []):=by
 refine Ce (args:= [.agg (bq.cells a).toArray]) Tryz.func130 rfl rfl rfl ?_
 show Wp _ _ _ [(0, .agg (bq.cells a).toArray)] _ _
 refine sr ?_
 refine dB (bq.cells a) 74 H ?_
 intro c h e
 refine dB [.string ⟨List.toArray ([])⟩, .string ⟨List.toArray ([])⟩] 27 e ?_
 intro j l b
 refine ns (Kz (.pointer (some ⟨c,3,none⟩)) (Lz (.string ⟨List.toArray a.aK⟩) b 1 Tryz.isAgg9 (Kz (.pointer (some ⟨c,4,none⟩)) (Lz (.string ⟨List.toArray a.aO⟩) b 1 Tryz.isAgg9 (Kz (.agg #[.string ⟨List.toArray a.aK⟩, .string ⟨List.toArray a.aO⟩]) ?_)))))
 refine dw [.string ⟨List.toArray a.aK⟩, .string ⟨List.toArray a.aO⟩] 0 b Tryz.sizeOf27 ?_
 intro n d
 refine nt (rt (CK (mY rfl rfl (Cu (cs:= [.string ⟨List.toArray a.aK⟩, .string ⟨List.toArray a.aO⟩]) Tryz.isAgg27 Tryz.sizeOf27 ((d.cls (i:=0) rfl).lit (k:=0) (m:=2) rfl))) ?_))
 have f:=d.pk []
 obtain rfl:_=bF.mk a.aK a.aO:=hr.symm.trans rfl
 exact⟨rfl,f⟩
def dK (a:bF):Int:=
 if a.aK≠([]) then bnd (bY a.aK) fun b=>if b=0 then if a.aO≠([]) then bnd (bY a.aO) fun c=>if c=0 then if a.aO≤a.aK then 21 else 0 else 21 else 0 else 21 else if a.aO≠([]) then bnd (bY a.aO) fun d=>if d=0 then if a.aO≤a.aK then 21 else 0 else 21 else 0
theorem jW (w:World) (D:Nat→Prop) (a:bF) (W:Int) (H:Own w D w []) (hr:dK a=W):
    Calls Tryz.prog 86 #[.agg (bF.cells a).toArray] w (dE fun v w'=>v= .int .i64 W∧Own w D w' []):=by
 refine Ce (args:= [.agg (bF.cells a).toArray]) Tryz.func86 rfl rfl rfl ?_
 show Wp _ _ _ [(0, .agg (bF.cells a).toArray)] _ _
 refine sr ?_
 refine dB (bF.cells a) 27 H ?_
 intro h ah k
 refine An rfl (BS (sr (Kz (.pointer (some ⟨h,0,none⟩)) (Lz (.string ⟨List.toArray a.aK⟩) k 0 Tryz.isAgg9 (fw (.bool (decide (a.aK≠([])))) (CX rfl rfl) (Mz rfl ?_))))))
 by_cases d:a.aK≠([])
 refine Gz (.pointer (some ⟨h,0,none⟩)) (dT d) (Gl (.string ⟨List.toArray a.aK⟩) (dT d) k 0 Tryz.isAgg9 ?_)
 obtain⟨o,j⟩:∃ q,bY a.aK=q:=⟨_,rfl⟩
 obtain⟨ai,C,X,E,Y⟩:=Ck k
 refine nT (dT d) Tryz.call83 (jZ _ _ a.aK o C j) ?_
 rintro _ aj ⟨rfl,F,z⟩
 have s:=E _ _ F
 replace z: ¬ (o=0)∨(1≤a.aK.length∧a.aK.length≤12):=z
 refine gw (.bool (decide (¬ (o=0)))) (dT d) (Cy (e:= !(decide (o=0))) yk decide_not.symm) (fw (.bool (decide (¬ (o=0)))) (BZ rfl (dT d) rfl) (nt ?_))
 by_cases l:o=0
 refine jF (dF (EN l)) (sk (BS (sr (Kz (.pointer (some ⟨h,1,none⟩)) (Lz (.string ⟨List.toArray a.aO⟩) s 0 Tryz.isAgg9 (fw (.bool (decide (a.aO≠([])))) (CX rfl rfl) (Mz rfl ?_)))))))
 by_cases b:a.aO≠([])
 refine Gz (.pointer (some ⟨h,1,none⟩)) (dT b) (Gl (.string ⟨List.toArray a.aO⟩) (dT b) s 0 Tryz.isAgg9 ?_)
 obtain⟨p,m⟩:∃ q,bY a.aO=q:=⟨_,rfl⟩
 obtain⟨ak,G,Z,I,aa⟩:=Ck s
 refine nT (dT b) Tryz.call83 (jZ _ _ a.aO p G m) ?_
 rintro _ au ⟨rfl,J,A⟩
 have t:=I _ _ J
 replace A: ¬ (p=0)∨(1≤a.aO.length∧a.aO.length≤12):=A
 refine gw (.bool (decide (¬ (p=0)))) (dT b) (Cy (e:= !(decide (p=0))) yk decide_not.symm) (gw (.bool (decide (¬ (p=0)))) (dT b) (BX rfl) ?_)
 by_cases f:p=0
 refine gw (.pointer (some ⟨h,1,none⟩)) (dF (EN f)) yk (gw (.string ⟨List.toArray a.aO⟩) (dF (EN f)) (Cc rfl (bi.one Tryz.isAgg9 (Cv (t.cls (i:=0) rfl) rfl))) (gw (.pointer (some ⟨h,0,none⟩)) (dF (EN f)) yk (gw (.string ⟨List.toArray a.aK⟩) (dF (EN f)) (Cc rfl (bi.one Tryz.isAgg9 (Cv (t.cls (i:=0) rfl) rfl))) (gw (.bool (decide (a.aO≤a.aK))) (dF (EN f)) (Cy (e:=Op.bytesLess a.aO a.aK || decide (a.aO=a.aK)) (Dw rfl rfl) (uV _ _)) (gw (.bool (decide (a.aO≤a.aK))) (dT b) (BQ rfl (dF (EN f)) rfl) (fw (.bool (decide (a.aO≤a.aK))) (BZ rfl (dT b) rfl) (nt ?_)))))))
 by_cases x:a.aO≤a.aK
 refine jT (dT x) (sr (An rfl (rt (tR (rs ?_)))))
 have N:=t.pk []
 obtain rfl:_=21:=hr.symm.trans (et (ip d) (et (ag j) (et (ip l) (et (ip b) (et (ag m) (et (ip f) (ip x)))))))
 exact⟨rfl,N⟩
 refine jF (dF x) (sk (sr (An rfl (rt (rs ?_)))))
 have O:=t.pk []
 obtain rfl:_=0:=hr.symm.trans (et (ip d) (et (ag j) (et (ip l) (et (ip b) (et (ag m) (et (ip f) (iN x)))))))
 exact⟨rfl,O⟩
 refine Sz (dT f) (Sz (dT f) (Sz (dT f) (Sz (dT f) (Sz (dT f) (gw (.bool true) (dT b) (BZ rfl (dT f) rfl) (fw (.bool true) (BZ rfl (dT b) rfl) (nt (jt (sr (An rfl (rt (tR (rs ?_)))))))))))))
 have P:=t.pk []
 obtain rfl:_=21:=hr.symm.trans (et (ip d) (et (ag j) (et (ip l) (et (ip b) (et (ag m) (iN f))))))
 exact⟨rfl,P⟩
 refine Sz (dF b) (Sz (dF b) (Sz (dF b) (Sz (dF b) (Sz (dF b) (BV rfl rfl rfl (BV rfl rfl rfl (BV rfl rfl rfl (BV rfl rfl rfl (BV rfl rfl rfl (Sz (dF b) (fw (.bool false) (BQ rfl (dF b) rfl) (nt (jf (sk (sr (An rfl (rt (rs ?_))))))))))))))))))
 have Q:=s.pk []
 obtain rfl:_=0:=hr.symm.trans (et (ip d) (et (ag j) (et (ip l) (iN b))))
 exact⟨rfl,Q⟩
 refine jT (dT l) (sr (An rfl (rt (tR (rs ?_)))))
 have R:=s.pk []
 obtain rfl:_=21:=hr.symm.trans (et (ip d) (et (ag j) (iN l)))
 exact⟨rfl,R⟩
 refine Sz (dF d) (Sz (dF d) (Sz (dF d) (Sz (dF d) (fw (.bool false) (BQ rfl (dF d) rfl) (nt (jf (sk (BS (sr (Kz (.pointer (some ⟨h,1,none⟩)) (Lz (.string ⟨List.toArray a.aO⟩) k 0 Tryz.isAgg9 (fw (.bool (decide (a.aO≠([])))) (CX rfl rfl) (Mz rfl ?_)))))))))))))
 by_cases c:a.aO≠([])
 refine Gz (.pointer (some ⟨h,1,none⟩)) (dT c) (Gl (.string ⟨List.toArray a.aO⟩) (dT c) k 0 Tryz.isAgg9 ?_)
 obtain⟨r,n⟩:∃ q,bY a.aO=q:=⟨_,rfl⟩
 obtain⟨av,K,ae,L,af⟩:=Ck k
 refine nT (dT c) Tryz.call83 (jZ _ _ a.aO r K n) ?_
 rintro _ ax ⟨rfl,M,B⟩
 have u:=L _ _ M
 replace B: ¬ (r=0)∨(1≤a.aO.length∧a.aO.length≤12):=B
 refine gw (.bool (decide (¬ (r=0)))) (dT c) (Cy (e:= !(decide (r=0))) yk decide_not.symm) (gw (.bool (decide (¬ (r=0)))) (dT c) (BX rfl) ?_)
 by_cases g:r=0
 refine gw (.pointer (some ⟨h,1,none⟩)) (dF (EN g)) yk (gw (.string ⟨List.toArray a.aO⟩) (dF (EN g)) (Cc rfl (bi.one Tryz.isAgg9 (Cv (u.cls (i:=0) rfl) rfl))) (gw (.pointer (some ⟨h,0,none⟩)) (dF (EN g)) yk (gw (.string ⟨List.toArray a.aK⟩) (dF (EN g)) (Cc rfl (bi.one Tryz.isAgg9 (Cv (u.cls (i:=0) rfl) rfl))) (gw (.bool (decide (a.aO≤a.aK))) (dF (EN g)) (Cy (e:=Op.bytesLess a.aO a.aK || decide (a.aO=a.aK)) (Dw rfl rfl) (uV _ _)) (gw (.bool (decide (a.aO≤a.aK))) (dT c) (BQ rfl (dF (EN g)) rfl) (fw (.bool (decide (a.aO≤a.aK))) (BZ rfl (dT c) rfl) (nt ?_)))))))
 by_cases y:a.aO≤a.aK
 refine jT (dT y) (sr (An rfl (rt (tR (rs ?_)))))
 have S:=u.pk []
 obtain rfl:_=21:=hr.symm.trans (et (iN d) (et (ip c) (et (ag n) (et (ip g) (ip y)))))
 exact⟨rfl,S⟩
 refine jF (dF y) (sk (sr (An rfl (rt (rs ?_)))))
 have T:=u.pk []
 obtain rfl:_=0:=hr.symm.trans (et (iN d) (et (ip c) (et (ag n) (et (ip g) (iN y)))))
 exact⟨rfl,T⟩
 refine Sz (dT g) (Sz (dT g) (Sz (dT g) (Sz (dT g) (Sz (dT g) (gw (.bool true) (dT c) (BZ rfl (dT g) rfl) (fw (.bool true) (BZ rfl (dT c) rfl) (nt (jt (sr (An rfl (rt (tR (rs ?_)))))))))))))
 have U:=u.pk []
 obtain rfl:_=21:=hr.symm.trans (et (iN d) (et (ip c) (et (ag n) (iN g))))
 exact⟨rfl,U⟩
 refine Sz (dF c) (Sz (dF c) (Sz (dF c) (Sz (dF c) (Sz (dF c) (BV rfl rfl rfl (BV rfl rfl rfl (BV rfl rfl rfl (BV rfl rfl rfl (BV rfl rfl rfl (Sz (dF c) (fw (.bool false) (BQ rfl (dF c) rfl) (nt (jf (sk (sr (An rfl (rt (rs ?_))))))))))))))))))
 have V:=k.pk []
 obtain rfl:_=0:=hr.symm.trans (et (iN d) (iN c))
 exact⟨rfl,V⟩
def jk (c:bq):Int:=
 bnd (lC c) fun a=>bnd (dK a) fun b=>b
theorem ou (w:World) (D:Nat→Prop) (a:bq) (p:Int) (H:Own w D w []) (hr:jk a=p):
    Calls Tryz.prog 133 #[.agg (bq.cells a).toArray] w (dE fun v w'=>v= .int .i64 p∧Own w D w' []):=by
 refine Ce (args:= [.agg (bq.cells a).toArray]) Tryz.func133 rfl rfl rfl ?_
 show Wp _ _ _ [(0, .agg (bq.cells a).toArray)] _ _
 refine sr ?_
 refine dB (bq.cells a) 74 H ?_
 intro x y e
 refine Ar rfl (La (bq.cells a) e 0 Tryz.isAgg74 Tryz.sizeOf74 ?_)
 obtain⟨d,b⟩:∃ q,lC a=q:=⟨_,rfl⟩
 obtain⟨z,f,r,g,s⟩:=Ck e
 refine cl Tryz.call130 (rW _ _ a d f b) ?_
 rintro _ A ⟨rfl,h⟩
 have m:=g _ _ h
 obtain⟨i,c⟩:∃ q,dK d=q:=⟨_,rfl⟩
 obtain⟨B,j,t,k,u⟩:=Ck m
 refine cl Tryz.call86 (jW _ _ d i j c) ?_
 rintro _ C ⟨rfl,l⟩
 have n:=k _ _ l
 refine An rfl (rt (rs ?_))
 have o:=n.pk []
 obtain rfl:_=i:=hr.symm.trans (et (ag b) (ag c))
 exact⟨rfl,o⟩
def lD (b:bq):Int:=
 bnd (jk b) fun a=>if a=0 then if b.bn < 1 then 1 else if b.bn > 4 then 1 else 0 else a
theorem rX (w:World) (D:Nat→Prop) (c:bq) (s:Int) (H:Own w D w []) (hr:lD c=s):
    Calls Tryz.prog 129 #[.agg (bq.cells c).toArray] w (dE fun v w'=>v= .int .i64 s∧Own w D w' []):=by
 refine Ce (args:= [.agg (bq.cells c).toArray]) Tryz.func129 rfl rfl rfl ?_
 show Wp _ _ _ [(0, .agg (bq.cells c).toArray)] _ _
 refine sr ?_
 refine dB (bq.cells c) 74 H ?_
 intro i x j
 refine An rfl (BS (sr (La (bq.cells c) j 0 Tryz.isAgg74 Tryz.sizeOf74 ?_)))
 obtain⟨g,b⟩:∃ q,jk c=q:=⟨_,rfl⟩
 obtain⟨y,k,t,l,u⟩:=Ck j
 refine cl Tryz.call133 (ou _ _ c g k b) ?_
 rintro _ z ⟨rfl,m⟩
 have d:=l _ _ m
 refine Ar rfl (Mz rfl (fw (.bool (decide (¬ (g=0)))) (Cy (e:= !(decide (g=0))) yk decide_not.symm) (nt ?_)))
 by_cases f:g=0
 refine jF (dF (EN f)) (sk (BS (sr (Kz (.pointer (some ⟨i,5,none⟩)) (Lz (.int .i64 c.bn) d 0 Tryz.isAgg3 (Kz (.bool (decide (c.bn < 1))) (Mz rfl ?_)))))))
 by_cases a:c.bn < 1
 refine Sz (dT a) (Sz (dT a) (Sz (dT a) (fw (.bool true) (BZ rfl (dT a) rfl) (nt (jt (sr (An rfl (rt (tR (rs ?_))))))))))
 have n:=d.pk []
 obtain rfl:_=1:=hr.symm.trans (et (ag b) (et (ip f) (ip a)))
 exact⟨rfl,n⟩
 refine Gz (.pointer (some ⟨i,5,none⟩)) (dF a) (Gl (.int .i64 c.bn) (dF a) d 0 Tryz.isAgg3 (Gz (.bool (decide (c.bn > 4))) (dF a) (fw (.bool (decide (c.bn > 4))) (BQ rfl (dF a) rfl) (nt ?_))))
 by_cases h:c.bn > 4
 refine jT (dT h) (sr (An rfl (rt (tR (rs ?_)))))
 have o:=d.pk []
 obtain rfl:_=1:=hr.symm.trans (et (ag b) (et (ip f) (et (iN a) (ip h))))
 exact⟨rfl,o⟩
 refine jF (dF h) (sk (sr (An rfl (rt (rs ?_)))))
 have p:=d.pk []
 obtain rfl:_=0:=hr.symm.trans (et (ag b) (et (ip f) (et (iN a) (iN h))))
 exact⟨rfl,p⟩
 refine jT (dT f) (sr (Mz rfl (An rfl (rt (tR (rs ?_))))))
 have r:=d.pk []
 obtain rfl:_=g:=hr.symm.trans (et (ag b) (iN f))
 exact⟨rfl,r⟩
theorem sO (w:World) (D:Nat→Prop) (j:Int) (H:Own w D w []) (c:j=5):
    Calls Tryz.prog 111 #[.int .i64 j] w (dE fun v w'=>v= .tuple #[.agg #[.bool true, .func (.func 132) #[] #[], .func (.func 133) #[] #[], .func (.func 130) #[] #[], .func (.func 134) #[] #[]], .bool true]∧Own w D w' []):=by
 subst c
 refine Ce (args:= [.int .i64 5]) Tryz.func111 rfl rfl rfl ?_
 show Wp _ _ _ [(0, .int .i64 5)] _ _
 refine sr ?_
 refine dB [.bool false, .nilFunc, .nilFunc, .nilFunc, .nilFunc] 166 H ?_
 intro l n d
 refine Ar rfl (Kz (.agg #[.bool false, .func (.func 120) #[] #[], .func (.func 121) #[] #[], .func (.func 122) #[] #[], .func (.func 123) #[] #[]]) (Kz (.agg #[.bool true, .func (.func 124) #[] #[], .func (.func 125) #[] #[], .func (.func 122) #[] #[], .func (.func 126) #[] #[]]) (Kz (.agg #[.bool true, .func (.func 120) #[] #[], .func (.func 121) #[] #[], .func (.func 122) #[] #[], .func (.func 127) #[] #[]]) (Kz (.agg #[.bool false, .func (.func 128) #[] #[], .func (.func 129) #[] #[], .func (.func 130) #[] #[], .func (.func 131) #[] #[]]) (Kz (.agg #[.bool true, .func (.func 132) #[] #[], .func (.func 133) #[] #[], .func (.func 130) #[] #[], .func (.func 134) #[] #[]]) (Kz (.agg #[.bool false, .nilFunc, .nilFunc, .nilFunc, .nilFunc, .bool false, .func (.func 120) #[] #[], .func (.func 121) #[] #[], .func (.func 122) #[] #[], .func (.func 123) #[] #[], .bool true, .func (.func 124) #[] #[], .func (.func 125) #[] #[], .func (.func 122) #[] #[], .func (.func 126) #[] #[], .bool true, .func (.func 120) #[] #[], .func (.func 121) #[] #[], .func (.func 122) #[] #[], .func (.func 127) #[] #[], .bool false, .func (.func 128) #[] #[], .func (.func 129) #[] #[], .func (.func 130) #[] #[], .func (.func 131) #[] #[], .bool true, .func (.func 132) #[] #[], .func (.func 133) #[] #[], .func (.func 130) #[] #[], .func (.func 134) #[] #[]]) ?_))))))
 refine dB [.bool false, .nilFunc, .nilFunc, .nilFunc, .nilFunc, .bool false, .nilFunc, .nilFunc, .nilFunc, .nilFunc, .bool false, .nilFunc, .nilFunc, .nilFunc, .nilFunc, .bool false, .nilFunc, .nilFunc, .nilFunc, .nilFunc, .bool false, .nilFunc, .nilFunc, .nilFunc, .nilFunc, .bool false, .nilFunc, .nilFunc, .nilFunc, .nilFunc] 178 d ?_
 intro e o f
 refine dw [.bool false, .nilFunc, .nilFunc, .nilFunc, .nilFunc, .bool false, .func (.func 120) #[] #[], .func (.func 121) #[] #[], .func (.func 122) #[] #[], .func (.func 123) #[] #[], .bool true, .func (.func 124) #[] #[], .func (.func 125) #[] #[], .func (.func 122) #[] #[], .func (.func 126) #[] #[], .bool true, .func (.func 120) #[] #[], .func (.func 121) #[] #[], .func (.func 122) #[] #[], .func (.func 127) #[] #[], .bool false, .func (.func 128) #[] #[], .func (.func 129) #[] #[], .func (.func 130) #[] #[], .func (.func 131) #[] #[], .bool true, .func (.func 132) #[] #[], .func (.func 133) #[] #[], .func (.func 130) #[] #[], .func (.func 134) #[] #[]] 0 f Tryz.sizeOf178 ?_
 intro p a
 refine nt (BS (sr (Mz rfl (Kz (.bool false) (Mz rfl (gw (.int .i64 5) rfl (BX rfl) (Gz (.bool false) rfl (fw (.bool false) (BQ rfl rfl rfl) (nt (jf (sk (sr (Mz rfl (Kz (.pointer (some ⟨e,25,none⟩)) (La ([.bool true, .func (.func 132) #[] #[], .func (.func 133) #[] #[], .func (.func 130) #[] #[], .func (.func 134) #[] #[]]) a 0 Tryz.isAgg166 Tryz.sizeOf166 ?_)))))))))))))))
 have g:=a.pk [1,0]
 refine dw [.bool true, .func (.func 132) #[] #[], .func (.func 133) #[] #[], .func (.func 130) #[] #[], .func (.func 134) #[] #[]] 0 g Tryz.sizeOf166 ?_
 intro q b
 refine An rfl (rt (CK (nD (vs:= [.agg #[.bool true, .func (.func 132) #[] #[], .func (.func 133) #[] #[], .func (.func 130) #[] #[], .func (.func 134) #[] #[]], .bool true]) rfl (ib.cell rfl (Cu (cs:= [.bool true, .func (.func 132) #[] #[], .func (.func 133) #[] #[], .func (.func 130) #[] #[], .func (.func 134) #[] #[]]) Tryz.isAgg166 Tryz.sizeOf166 ((b.cls (i:=0) rfl).lit (k:=0) (m:=5) rfl)) (ib.tmp rfl ib.nil)) (EK rfl)) ?_))
 have h:=b.pk []
 exact⟨rfl,h⟩
def mh (a:bq):bq:=
 bq.mk a.aI ([]) ([]) a.aK a.aO 0
theorem sP (w:World) (D:Nat→Prop) (a:bq) (g:bq) (H:Own w D w []) (hr:mh a=g):
    Calls Tryz.prog 132 #[.agg (bq.cells a).toArray] w (dE fun v w'=>v= .agg (bq.cells g).toArray∧Own w D w' []):=by
 refine Ce (args:= [.agg (bq.cells a).toArray]) Tryz.func132 rfl rfl rfl ?_
 show Wp _ _ _ [(0, .agg (bq.cells a).toArray)] _ _
 refine sr ?_
 refine dB (bq.cells a) 74 H ?_
 intro c h e
 refine dB [.int .i64 0, .string ⟨List.toArray ([])⟩, .string ⟨List.toArray ([])⟩, .string ⟨List.toArray ([])⟩, .string ⟨List.toArray ([])⟩, .int .i64 0] 74 e ?_
 intro j l b
 refine ns (Kz (.pointer (some ⟨c,0,none⟩)) (Lz (.int .i64 a.aI) b 1 Tryz.isAgg3 (Kz (.pointer (some ⟨c,3,none⟩)) (Lz (.string ⟨List.toArray a.aK⟩) b 1 Tryz.isAgg9 (Kz (.pointer (some ⟨c,4,none⟩)) (Lz (.string ⟨List.toArray a.aO⟩) b 1 Tryz.isAgg9 (Kz (.agg #[.int .i64 a.aI, .string ⟨List.toArray ([])⟩, .string ⟨List.toArray ([])⟩, .string ⟨List.toArray a.aK⟩, .string ⟨List.toArray a.aO⟩, .int .i64 0]) ?_)))))))
 refine dw [.int .i64 a.aI, .string ⟨List.toArray ([])⟩, .string ⟨List.toArray ([])⟩, .string ⟨List.toArray a.aK⟩, .string ⟨List.toArray a.aO⟩, .int .i64 0] 0 b Tryz.sizeOf74 ?_
 intro n d
 refine nt (rt (CK (mY rfl rfl (Cu (cs:= [.int .i64 a.aI, .string ⟨List.toArray ([])⟩, .string ⟨List.toArray ([])⟩, .string ⟨List.toArray a.aK⟩, .string ⟨List.toArray a.aO⟩, .int .i64 0]) Tryz.isAgg74 Tryz.sizeOf74 ((d.cls (i:=0) rfl).lit (k:=0) (m:=6) rfl))) ?_))
 have f:=d.pk []
 obtain rfl:_=bq.mk a.aI ([]) ([]) a.aK a.aO 0:=hr.symm.trans rfl
 exact⟨rfl,f⟩
theorem rY (w:World) (D:Nat→Prop) (a:Int) (H:Own w D w []) (p: ¬ (a=1)) (q: ¬ (a=2)) (r: ¬ (a=3)) (s: ¬ (a=4)) (t: ¬ (a=5)):
    Calls Tryz.prog 111 #[.int .i64 a] w (dE fun v w'=>v= .tuple #[.agg #[.bool false, .nilFunc, .nilFunc, .nilFunc, .nilFunc], .bool false]∧Own w D w' []):=by
 refine Ce (args:= [.int .i64 a]) Tryz.func111 rfl rfl rfl ?_
 show Wp _ _ _ [(0, .int .i64 a)] _ _
 refine sr ?_
 refine dB [.bool false, .nilFunc, .nilFunc, .nilFunc, .nilFunc] 166 H ?_
 intro u x g
 refine Ar rfl (Kz (.agg #[.bool false, .func (.func 120) #[] #[], .func (.func 121) #[] #[], .func (.func 122) #[] #[], .func (.func 123) #[] #[]]) (Kz (.agg #[.bool true, .func (.func 124) #[] #[], .func (.func 125) #[] #[], .func (.func 122) #[] #[], .func (.func 126) #[] #[]]) (Kz (.agg #[.bool true, .func (.func 120) #[] #[], .func (.func 121) #[] #[], .func (.func 122) #[] #[], .func (.func 127) #[] #[]]) (Kz (.agg #[.bool false, .func (.func 128) #[] #[], .func (.func 129) #[] #[], .func (.func 130) #[] #[], .func (.func 131) #[] #[]]) (Kz (.agg #[.bool true, .func (.func 132) #[] #[], .func (.func 133) #[] #[], .func (.func 130) #[] #[], .func (.func 134) #[] #[]]) (Kz (.agg #[.bool false, .nilFunc, .nilFunc, .nilFunc, .nilFunc, .bool false, .func (.func 120) #[] #[], .func (.func 121) #[] #[], .func (.func 122) #[] #[], .func (.func 123) #[] #[], .bool true, .func (.func 124) #[] #[], .func (.func 125) #[] #[], .func (.func 122) #[] #[], .func (.func 126) #[] #[], .bool true, .func (.func 120) #[] #[], .func (.func 121) #[] #[], .func (.func 122) #[] #[], .func (.func 127) #[] #[], .bool false, .func (.func 128) #[] #[], .func (.func 129) #[] #[], .func (.func 130) #[] #[], .func (.func 131) #[] #[], .bool true, .func (.func 132) #[] #[], .func (.func 133) #[] #[], .func (.func 130) #[] #[], .func (.func 134) #[] #[]]) ?_))))))
 refine dB [.bool false, .nilFunc, .nilFunc, .nilFunc, .nilFunc, .bool false, .nilFunc, .nilFunc, .nilFunc, .nilFunc, .bool false, .nilFunc, .nilFunc, .nilFunc, .nilFunc, .bool false, .nilFunc, .nilFunc, .nilFunc, .nilFunc, .bool false, .nilFunc, .nilFunc, .nilFunc, .nilFunc, .bool false, .nilFunc, .nilFunc, .nilFunc, .nilFunc] 178 g ?_
 intro y z h
 refine dw [.bool false, .nilFunc, .nilFunc, .nilFunc, .nilFunc, .bool false, .func (.func 120) #[] #[], .func (.func 121) #[] #[], .func (.func 122) #[] #[], .func (.func 123) #[] #[], .bool true, .func (.func 124) #[] #[], .func (.func 125) #[] #[], .func (.func 122) #[] #[], .func (.func 126) #[] #[], .bool true, .func (.func 120) #[] #[], .func (.func 121) #[] #[], .func (.func 122) #[] #[], .func (.func 127) #[] #[], .bool false, .func (.func 128) #[] #[], .func (.func 129) #[] #[], .func (.func 130) #[] #[], .func (.func 131) #[] #[], .bool true, .func (.func 132) #[] #[], .func (.func 133) #[] #[], .func (.func 130) #[] #[], .func (.func 134) #[] #[]] 0 h Tryz.sizeOf178 ?_
 intro A c
 refine nt (BS (sr (Mz rfl (Kz (.bool (decide (a≤0))) (Mz rfl ?_)))))
 by_cases b:a≤0
 refine Sz (dT b) (Sz (dT b) (fw (.bool true) (BZ rfl (dT b) rfl) (nt (jt (sr (Kz (.agg #[.bool false, .nilFunc, .nilFunc, .nilFunc, .nilFunc]) ?_))))))
 have j:=c.pk [1,0]
 refine dw [.bool false, .nilFunc, .nilFunc, .nilFunc, .nilFunc] 0 j Tryz.sizeOf166 ?_
 intro B d
 refine An rfl (rt (tR (CK (nD (vs:= [.agg #[.bool false, .nilFunc, .nilFunc, .nilFunc, .nilFunc], .bool false]) rfl (ib.cell rfl (Cu (cs:= [.bool false, .nilFunc, .nilFunc, .nilFunc, .nilFunc]) Tryz.isAgg166 Tryz.sizeOf166 ((d.cls (i:=0) rfl).lit (k:=0) (m:=5) rfl)) (ib.tmp rfl ib.nil)) (EK rfl)) ?_)))
 have l:=d.pk []
 exact⟨rfl,l⟩
 refine gw (.int .i64 a) (dF b) (BX rfl) (Gz (.bool (decide (a ≥ 6))) (dF b) (fw (.bool (decide (a ≥ 6))) (BQ rfl (dF b) rfl) (nt ?_)))
 have e:(decide (a ≥ 6))=true:=(dT (by omega))
 refine jT e (sr (Kz (.agg #[.bool false, .nilFunc, .nilFunc, .nilFunc, .nilFunc]) ?_))
 have n:=c.pk [1,0]
 refine dw [.bool false, .nilFunc, .nilFunc, .nilFunc, .nilFunc] 0 n Tryz.sizeOf166 ?_
 intro C f
 refine An rfl (rt (tR (CK (nD (vs:= [.agg #[.bool false, .nilFunc, .nilFunc, .nilFunc, .nilFunc], .bool false]) rfl (ib.cell rfl (Cu (cs:= [.bool false, .nilFunc, .nilFunc, .nilFunc, .nilFunc]) Tryz.isAgg166 Tryz.sizeOf166 ((f.cls (i:=0) rfl).lit (k:=0) (m:=5) rfl)) (ib.tmp rfl ib.nil)) (EK rfl)) ?_)))
 have o:=f.pk []
 exact⟨rfl,o⟩
def fC (a:bq):Int:=
 if a.aI=1 then bnd (lJ a) fun e=>if(e.aI=a.aI)∧(e.aV=a.aV)∧(e.aC=a.aC)∧(e.aK=a.aK)∧(e.aO=a.aO)∧(e.bn=a.bn) then bnd (lN a) fun j=>j else 40 else if a.aI=2 then bnd (mD a) fun f=>if(f.aI=a.aI)∧(f.aV=a.aV)∧(f.aC=a.aC)∧(f.aK=a.aK)∧(f.aO=a.aO)∧(f.bn=a.bn) then bnd (lw a) fun k=>k else 40 else if a.aI=3 then bnd (lJ a) fun b=>if(b.aI=a.aI)∧(b.aV=a.aV)∧(b.aC=a.aC)∧(b.aK=a.aK)∧(b.aO=a.aO)∧(b.bn=a.bn) then bnd (lN a) fun g=>g else 40 else if a.aI=4 then bnd (mE a) fun c=>if(c.aI=a.aI)∧(c.aV=a.aV)∧(c.aC=a.aC)∧(c.aK=a.aK)∧(c.aO=a.aO)∧(c.bn=a.bn) then bnd (lD a) fun h=>h else 40 else if a.aI=5 then bnd (mh a) fun d=>if(d.aI=a.aI)∧(d.aV=a.aV)∧(d.aC=a.aC)∧(d.aK=a.aK)∧(d.aO=a.aO)∧(d.bn=a.bn) then bnd (jk a) fun i=>i else 40 else 40
theorem p9 (w:World) (D:Nat→Prop) (a:bq) (r0:Int) (H:Own w D w []) (hr:fC a=r0):
    Calls Tryz.prog 84 #[.agg (bq.cells a).toArray] w (dE fun v w'=>v= .int .i64 r0∧Own w D w' []∧(¬ (r0=0)∨(1≤a.aI∧a.aI≤5))):=by
 refine Ce (args:= [.agg (bq.cells a).toArray]) Tryz.func84 rfl rfl rfl ?_
 show Wp _ _ _ [(0, .agg (bq.cells a).toArray)] _ _
 refine sr ?_
 refine dB (bq.cells a) 74 H ?_
 intro t gQ x
 refine Ar rfl (Kz (.pointer (some ⟨t,0,none⟩)) (Lz (.int .i64 a.aI) x 0 Tryz.isAgg3 ?_))
 by_cases l:a.aI=1
 obtain⟨gT,bg,eY,bn,eZ⟩:=Ck x
 refine cl Tryz.call111 (sJ _ _ a.aI bg (of_decide_eq_true (dT l))) ?_
 rintro _ gU ⟨rfl,bu⟩
 have dJ:=bn _ _ bu
 refine Mz rfl (Kz (.agg #[.bool false, .func (.func 120) #[] #[], .func (.func 121) #[] #[], .func (.func 122) #[] #[], .func (.func 123) #[] #[]]) (Kz (.bool true) ?_))
 refine dB [.bool false, .nilFunc, .nilFunc, .nilFunc, .nilFunc] 166 dJ ?_
 intro aj gV dK
 refine dw [.bool false, .func (.func 120) #[] #[], .func (.func 121) #[] #[], .func (.func 122) #[] #[], .func (.func 123) #[] #[]] 0 dK Tryz.sizeOf166 ?_
 intro dL dM
 refine An rfl (BS (BS ?_))
 have V:=dM.drew
 refine CP [] (fun W=> ∃ L',Own w D W ([blk aj [.bool false, .func (.func 120) #[] #[], .func (.func 121) #[] #[], .func (.func 122) #[] #[], .func (.func 123) #[] #[]] 166,blk t (bq.cells a) 74]++L')) (by kernel_rfl) (by kernel_rfl) (Cs (Cs CR)) ⟨_,V⟩ ?_
 revert V
 generalize World.drew dL=gW
 intro V
 refine GX.take (v:= .bool true) (rs:= []) 0 rfl (by kernel_rfl) (fun _ _=>BX rfl) (GX.take (v:= .bool false) (rs:= []) 1 rfl (by kernel_rfl) (fun _ _=>yk) (GX.take (v:= .bool false) (rs:= []) 2 rfl (by kernel_rfl) (fun _ _=>BX rfl) (BU (v:= .pointer (some ⟨aj,1,none⟩)) (rs:= []) 3 rfl rfl rfl rfl (by kernel_rfl) (fun _ _=>yk) (BU (v:= .func (.func 120) #[] #[]) (rs:= []) 4 rfl rfl rfl rfl (by kernel_rfl) (fun _ ⟨_,h⟩=>Cc rfl (bi.one Tryz.isAgg162 (Cv (h.cls (i:=0) rfl) rfl))) (BU (v:= .agg (bq.cells a).toArray) (rs:= []) 5 rfl rfl rfl rfl (by kernel_rfl) (fun _ ⟨_,h⟩=>Cc rfl (Cu (cs:=(bq.cells a)) Tryz.isAgg74 Tryz.sizeOf74 ((h.cls (i:=1) rfl).lit (k:=0) (m:=6) rfl))) (BU (v:= .agg (bq.cells a).toArray) (rs:= []) 7 rfl rfl rfl rfl (by kernel_rfl) (fun _ ⟨_,h⟩=>Cc rfl (Cu (cs:=(bq.cells a)) Tryz.isAgg74 Tryz.sizeOf74 ((h.cls (i:=1) rfl).lit (k:=0) (m:=6) rfl))) ?_))))))
 obtain⟨f,L⟩:∃ q,lJ a=q:=⟨_,rfl⟩
 obtain⟨gX,bv,fe,bz,fo⟩:=Ck V
 refine C8 6 rfl rfl rfl rfl (by kernel_rfl) (CB Tryz.call120 rfl rfl (qy _ _ a f bv L) ?_)
 rintro _ gY ⟨rfl,bA⟩
 have M:=bz _ _ bA
 refine⟨.inr ⟨_,M⟩, ?_⟩
 refine BU (v:= .bool (decide (¬ ((f.aI=a.aI)∧(f.aV=a.aV)∧(f.aC=a.aC)∧(f.aK=a.aK)∧(f.aO=a.aO)∧(f.bn=a.bn))))) (rs:= []) 8 rfl rfl rfl rfl (by kernel_rfl) (fun _ _=>Cy (e:= !(decide ((f.aI=a.aI)∧(f.aV=a.aV)∧(f.aC=a.aC)∧(f.aK=a.aK)∧(f.aO=a.aO)∧(f.bn=a.bn)))) (Dh rfl rfl (by kernel_rfl) rfl (gL.struct Tryz.underlying74 (by kernel_rfl) (Dc (fF.cons (u:= .int .i64 f.aI) (v:= .int .i64 a.aI) (by decide) (fun _=>by kernel_rfl) (fun _=>by kernel_rfl) (gL.int Tryz.underlying3) (fF.cons (u:= .string ⟨List.toArray f.aV⟩) (v:= .string ⟨List.toArray a.aV⟩) (by decide) (fun _=>by kernel_rfl) (fun _=>by kernel_rfl) (gL.string Tryz.underlying9) (fF.cons (u:= .string ⟨List.toArray f.aC⟩) (v:= .string ⟨List.toArray a.aC⟩) (by decide) (fun _=>by kernel_rfl) (fun _=>by kernel_rfl) (gL.string Tryz.underlying9) (fF.cons (u:= .string ⟨List.toArray f.aK⟩) (v:= .string ⟨List.toArray a.aK⟩) (by decide) (fun _=>by kernel_rfl) (fun _=>by kernel_rfl) (gL.string Tryz.underlying9) (fF.cons (u:= .string ⟨List.toArray f.aO⟩) (v:= .string ⟨List.toArray a.aO⟩) (by decide) (fun _=>by kernel_rfl) (fun _=>by kernel_rfl) (gL.string Tryz.underlying9) (fF.cons (u:= .int .i64 f.bn) (v:= .int .i64 a.bn) (by decide) (fun _=>by kernel_rfl) (fun _=>by kernel_rfl) (gL.int Tryz.underlying3) (fF.nil.up (EM _)))))))) ((congrArg (decide (f.aI=a.aI) && ·) ((congrArg (decide (f.aV=a.aV) && ·) ((congrArg (decide (f.aC=a.aC) && ·) ((congrArg (decide (f.aK=a.aK) && ·) ((congrArg (decide (f.aO=a.aO) && ·) lm).trans fE)).trans fE)).trans fE)).trans fE)).trans fE)))) decide_not.symm) (GX.take (v:= .bool (decide (¬ ((f.aI=a.aI)∧(f.aV=a.aV)∧(f.aC=a.aC)∧(f.aK=a.aK)∧(f.aO=a.aO)∧(f.bn=a.bn))))) (rs:= []) 9 rfl (by kernel_rfl) (fun _ _=>BQ rfl rfl rfl) (Cx (by kernel_rfl) (Ca ?_)))
 by_cases X:(f.aI=a.aI)∧(f.aV=a.aV)∧(f.aC=a.aC)∧(f.aK=a.aK)∧(f.aO=a.aO)∧(f.bn=a.bn)
 refine jF (dF (EN X)) (sk (sr (Kz (.pointer (some ⟨aj,2,none⟩)) (Lz (.func (.func 121) #[] #[]) M 0 Tryz.isAgg136 (La (bq.cells a) M 1 Tryz.isAgg74 Tryz.sizeOf74 ?_)))))
 obtain⟨bB,aa⟩:∃ q,lN a=q:=⟨_,rfl⟩
 obtain⟨gZ,bC,fq,bD,fu⟩:=Ck M
 refine WL.do rfl (CB Tryz.call121 rfl rfl (o8 _ _ a bB bC aa) ?_)
 rintro _ ib ⟨rfl,bE⟩
 have dN:=bD _ _ bE
 refine An rfl (rt (rs ?_))
 have dO:=dN.pk []
 obtain rfl:_=bB:=hr.symm.trans (et (ip l) (et (ag L) (et (ip X) (ag aa))))
 exact⟨rfl,dO,(by omega)⟩
 refine jT (dT X) (sr (An rfl (rt (tR (rs ?_)))))
 have dP:=M.pk []
 obtain rfl:_=40:=hr.symm.trans (et (ip l) (et (ag L) (iN X)))
 exact⟨rfl,dP,(by omega)⟩
 by_cases n:a.aI=2
 obtain⟨ic,bF,fw,bG,fA⟩:=Ck x
 refine cl Tryz.call111 (sK _ _ a.aI bF (of_decide_eq_true (dT n))) ?_
 rintro _ ig ⟨rfl,bH⟩
 have dQ:=bG _ _ bH
 refine Mz rfl (Kz (.agg #[.bool true, .func (.func 124) #[] #[], .func (.func 125) #[] #[], .func (.func 122) #[] #[], .func (.func 126) #[] #[]]) (Kz (.bool true) ?_))
 refine dB [.bool false, .nilFunc, .nilFunc, .nilFunc, .nilFunc] 166 dQ ?_
 intro ak ik dR
 refine dw [.bool true, .func (.func 124) #[] #[], .func (.func 125) #[] #[], .func (.func 122) #[] #[], .func (.func 126) #[] #[]] 0 dR Tryz.sizeOf166 ?_
 intro dS dU
 refine An rfl (BS (BS ?_))
 have Y:=dU.drew
 refine CP [] (fun W=> ∃ L',Own w D W ([blk ak [.bool true, .func (.func 124) #[] #[], .func (.func 125) #[] #[], .func (.func 122) #[] #[], .func (.func 126) #[] #[]] 166,blk t (bq.cells a) 74]++L')) (by kernel_rfl) (by kernel_rfl) (Cs (Cs CR)) ⟨_,Y⟩ ?_
 revert Y
 generalize World.drew dS=il
 intro Y
 refine GX.take (v:= .bool true) (rs:= []) 0 rfl (by kernel_rfl) (fun _ _=>BX rfl) (GX.take (v:= .bool false) (rs:= []) 1 rfl (by kernel_rfl) (fun _ _=>yk) (GX.take (v:= .bool false) (rs:= []) 2 rfl (by kernel_rfl) (fun _ _=>BX rfl) (BU (v:= .pointer (some ⟨ak,1,none⟩)) (rs:= []) 3 rfl rfl rfl rfl (by kernel_rfl) (fun _ _=>yk) (BU (v:= .func (.func 124) #[] #[]) (rs:= []) 4 rfl rfl rfl rfl (by kernel_rfl) (fun _ ⟨_,h⟩=>Cc rfl (bi.one Tryz.isAgg162 (Cv (h.cls (i:=0) rfl) rfl))) (BU (v:= .agg (bq.cells a).toArray) (rs:= []) 5 rfl rfl rfl rfl (by kernel_rfl) (fun _ ⟨_,h⟩=>Cc rfl (Cu (cs:=(bq.cells a)) Tryz.isAgg74 Tryz.sizeOf74 ((h.cls (i:=1) rfl).lit (k:=0) (m:=6) rfl))) (BU (v:= .agg (bq.cells a).toArray) (rs:= []) 7 rfl rfl rfl rfl (by kernel_rfl) (fun _ ⟨_,h⟩=>Cc rfl (Cu (cs:=(bq.cells a)) Tryz.isAgg74 Tryz.sizeOf74 ((h.cls (i:=1) rfl).lit (k:=0) (m:=6) rfl))) ?_))))))
 obtain⟨g,N⟩:∃ q,mD a=q:=⟨_,rfl⟩
 obtain⟨iq,bI,fB,bJ,fD⟩:=Ck Y
 refine C8 6 rfl rfl rfl rfl (by kernel_rfl) (CB Tryz.call124 rfl rfl (tJ _ _ a g bI N) ?_)
 rintro _ iw ⟨rfl,bK⟩
 have O:=bJ _ _ bK
 refine⟨.inr ⟨_,O⟩, ?_⟩
 refine BU (v:= .bool (decide (¬ ((g.aI=a.aI)∧(g.aV=a.aV)∧(g.aC=a.aC)∧(g.aK=a.aK)∧(g.aO=a.aO)∧(g.bn=a.bn))))) (rs:= []) 8 rfl rfl rfl rfl (by kernel_rfl) (fun _ _=>Cy (e:= !(decide ((g.aI=a.aI)∧(g.aV=a.aV)∧(g.aC=a.aC)∧(g.aK=a.aK)∧(g.aO=a.aO)∧(g.bn=a.bn)))) (Dh rfl rfl (by kernel_rfl) rfl (gL.struct Tryz.underlying74 (by kernel_rfl) (Dc (fF.cons (u:= .int .i64 g.aI) (v:= .int .i64 a.aI) (by decide) (fun _=>by kernel_rfl) (fun _=>by kernel_rfl) (gL.int Tryz.underlying3) (fF.cons (u:= .string ⟨List.toArray g.aV⟩) (v:= .string ⟨List.toArray a.aV⟩) (by decide) (fun _=>by kernel_rfl) (fun _=>by kernel_rfl) (gL.string Tryz.underlying9) (fF.cons (u:= .string ⟨List.toArray g.aC⟩) (v:= .string ⟨List.toArray a.aC⟩) (by decide) (fun _=>by kernel_rfl) (fun _=>by kernel_rfl) (gL.string Tryz.underlying9) (fF.cons (u:= .string ⟨List.toArray g.aK⟩) (v:= .string ⟨List.toArray a.aK⟩) (by decide) (fun _=>by kernel_rfl) (fun _=>by kernel_rfl) (gL.string Tryz.underlying9) (fF.cons (u:= .string ⟨List.toArray g.aO⟩) (v:= .string ⟨List.toArray a.aO⟩) (by decide) (fun _=>by kernel_rfl) (fun _=>by kernel_rfl) (gL.string Tryz.underlying9) (fF.cons (u:= .int .i64 g.bn) (v:= .int .i64 a.bn) (by decide) (fun _=>by kernel_rfl) (fun _=>by kernel_rfl) (gL.int Tryz.underlying3) (fF.nil.up (EM _)))))))) ((congrArg (decide (g.aI=a.aI) && ·) ((congrArg (decide (g.aV=a.aV) && ·) ((congrArg (decide (g.aC=a.aC) && ·) ((congrArg (decide (g.aK=a.aK) && ·) ((congrArg (decide (g.aO=a.aO) && ·) lm).trans fE)).trans fE)).trans fE)).trans fE)).trans fE)))) decide_not.symm) (GX.take (v:= .bool (decide (¬ ((g.aI=a.aI)∧(g.aV=a.aV)∧(g.aC=a.aC)∧(g.aK=a.aK)∧(g.aO=a.aO)∧(g.bn=a.bn))))) (rs:= []) 9 rfl (by kernel_rfl) (fun _ _=>BQ rfl rfl rfl) (Cx (by kernel_rfl) (Ca ?_)))
 by_cases Z:(g.aI=a.aI)∧(g.aV=a.aV)∧(g.aC=a.aC)∧(g.aK=a.aK)∧(g.aO=a.aO)∧(g.bn=a.bn)
 refine jF (dF (EN Z)) (sk (sr (Kz (.pointer (some ⟨ak,2,none⟩)) (Lz (.func (.func 125) #[] #[]) O 0 Tryz.isAgg136 (La (bq.cells a) O 1 Tryz.isAgg74 Tryz.sizeOf74 ?_)))))
 obtain⟨bL,ae⟩:∃ q,lw a=q:=⟨_,rfl⟩
 obtain⟨iy,bM,fG,bN,fH⟩:=Ck O
 refine WL.do rfl (CB Tryz.call125 rfl rfl (rV _ _ a bL bM ae) ?_)
 rintro _ iA ⟨rfl,au⟩
 have bO:=bN _ _ au
 refine An rfl (rt (rs ?_))
 have bP:=bO.pk []
 obtain rfl:_=bL:=hr.symm.trans (et (iN l) (et (ip n) (et (ag N) (et (ip Z) (ag ae)))))
 exact⟨rfl,bP,(by omega)⟩
 refine jT (dT Z) (sr (An rfl (rt (tR (rs ?_)))))
 have bQ:=O.pk []
 obtain rfl:_=40:=hr.symm.trans (et (iN l) (et (ip n) (et (ag N) (iN Z))))
 exact⟨rfl,bQ,(by omega)⟩
 by_cases j:a.aI=3
 obtain⟨fI,av,dV,ax,dW⟩:=Ck x
 refine cl Tryz.call111 (sM _ _ a.aI av (of_decide_eq_true (dT j))) ?_
 rintro _ fJ ⟨rfl,ay⟩
 have bR:=ax _ _ ay
 refine Mz rfl (Kz (.agg #[.bool true, .func (.func 120) #[] #[], .func (.func 121) #[] #[], .func (.func 122) #[] #[], .func (.func 127) #[] #[]]) (Kz (.bool true) ?_))
 refine dB [.bool false, .nilFunc, .nilFunc, .nilFunc, .nilFunc] 166 bR ?_
 intro P fK bS
 refine dw [.bool true, .func (.func 120) #[] #[], .func (.func 121) #[] #[], .func (.func 122) #[] #[], .func (.func 127) #[] #[]] 0 bS Tryz.sizeOf166 ?_
 intro bT bU
 refine An rfl (BS (BS ?_))
 have B:=bU.drew
 refine CP [] (fun W=> ∃ L',Own w D W ([blk P [.bool true, .func (.func 120) #[] #[], .func (.func 121) #[] #[], .func (.func 122) #[] #[], .func (.func 127) #[] #[]] 166,blk t (bq.cells a) 74]++L')) (by kernel_rfl) (by kernel_rfl) (Cs (Cs CR)) ⟨_,B⟩ ?_
 revert B
 generalize World.drew bT=fM
 intro B
 refine GX.take (v:= .bool true) (rs:= []) 0 rfl (by kernel_rfl) (fun _ _=>BX rfl) (GX.take (v:= .bool false) (rs:= []) 1 rfl (by kernel_rfl) (fun _ _=>yk) (GX.take (v:= .bool false) (rs:= []) 2 rfl (by kernel_rfl) (fun _ _=>BX rfl) (BU (v:= .pointer (some ⟨P,1,none⟩)) (rs:= []) 3 rfl rfl rfl rfl (by kernel_rfl) (fun _ _=>yk) (BU (v:= .func (.func 120) #[] #[]) (rs:= []) 4 rfl rfl rfl rfl (by kernel_rfl) (fun _ ⟨_,h⟩=>Cc rfl (bi.one Tryz.isAgg162 (Cv (h.cls (i:=0) rfl) rfl))) (BU (v:= .agg (bq.cells a).toArray) (rs:= []) 5 rfl rfl rfl rfl (by kernel_rfl) (fun _ ⟨_,h⟩=>Cc rfl (Cu (cs:=(bq.cells a)) Tryz.isAgg74 Tryz.sizeOf74 ((h.cls (i:=1) rfl).lit (k:=0) (m:=6) rfl))) (BU (v:= .agg (bq.cells a).toArray) (rs:= []) 7 rfl rfl rfl rfl (by kernel_rfl) (fun _ ⟨_,h⟩=>Cc rfl (Cu (cs:=(bq.cells a)) Tryz.isAgg74 Tryz.sizeOf74 ((h.cls (i:=1) rfl).lit (k:=0) (m:=6) rfl))) ?_))))))
 obtain⟨b,y⟩:∃ q,lJ a=q:=⟨_,rfl⟩
 obtain⟨fO,az,dX,aA,dY⟩:=Ck B
 refine C8 6 rfl rfl rfl rfl (by kernel_rfl) (CB Tryz.call120 rfl rfl (qy _ _ a b az y) ?_)
 rintro _ fP ⟨rfl,aB⟩
 have p:=aA _ _ aB
 refine⟨.inr ⟨_,p⟩, ?_⟩
 refine BU (v:= .bool (decide (¬ ((b.aI=a.aI)∧(b.aV=a.aV)∧(b.aC=a.aC)∧(b.aK=a.aK)∧(b.aO=a.aO)∧(b.bn=a.bn))))) (rs:= []) 8 rfl rfl rfl rfl (by kernel_rfl) (fun _ _=>Cy (e:= !(decide ((b.aI=a.aI)∧(b.aV=a.aV)∧(b.aC=a.aC)∧(b.aK=a.aK)∧(b.aO=a.aO)∧(b.bn=a.bn)))) (Dh rfl rfl (by kernel_rfl) rfl (gL.struct Tryz.underlying74 (by kernel_rfl) (Dc (fF.cons (u:= .int .i64 b.aI) (v:= .int .i64 a.aI) (by decide) (fun _=>by kernel_rfl) (fun _=>by kernel_rfl) (gL.int Tryz.underlying3) (fF.cons (u:= .string ⟨List.toArray b.aV⟩) (v:= .string ⟨List.toArray a.aV⟩) (by decide) (fun _=>by kernel_rfl) (fun _=>by kernel_rfl) (gL.string Tryz.underlying9) (fF.cons (u:= .string ⟨List.toArray b.aC⟩) (v:= .string ⟨List.toArray a.aC⟩) (by decide) (fun _=>by kernel_rfl) (fun _=>by kernel_rfl) (gL.string Tryz.underlying9) (fF.cons (u:= .string ⟨List.toArray b.aK⟩) (v:= .string ⟨List.toArray a.aK⟩) (by decide) (fun _=>by kernel_rfl) (fun _=>by kernel_rfl) (gL.string Tryz.underlying9) (fF.cons (u:= .string ⟨List.toArray b.aO⟩) (v:= .string ⟨List.toArray a.aO⟩) (by decide) (fun _=>by kernel_rfl) (fun _=>by kernel_rfl) (gL.string Tryz.underlying9) (fF.cons (u:= .int .i64 b.bn) (v:= .int .i64 a.bn) (by decide) (fun _=>by kernel_rfl) (fun _=>by kernel_rfl) (gL.int Tryz.underlying3) (fF.nil.up (EM _)))))))) ((congrArg (decide (b.aI=a.aI) && ·) ((congrArg (decide (b.aV=a.aV) && ·) ((congrArg (decide (b.aC=a.aC) && ·) ((congrArg (decide (b.aK=a.aK) && ·) ((congrArg (decide (b.aO=a.aO) && ·) lm).trans fE)).trans fE)).trans fE)).trans fE)).trans fE)))) decide_not.symm) (GX.take (v:= .bool (decide (¬ ((b.aI=a.aI)∧(b.aV=a.aV)∧(b.aC=a.aC)∧(b.aK=a.aK)∧(b.aO=a.aO)∧(b.bn=a.bn))))) (rs:= []) 9 rfl (by kernel_rfl) (fun _ _=>BQ rfl rfl rfl) (Cx (by kernel_rfl) (Ca ?_)))
 by_cases C:(b.aI=a.aI)∧(b.aV=a.aV)∧(b.aC=a.aC)∧(b.aK=a.aK)∧(b.aO=a.aO)∧(b.bn=a.bn)
 refine jF (dF (EN C)) (sk (sr (Kz (.pointer (some ⟨P,2,none⟩)) (Lz (.func (.func 121) #[] #[]) p 0 Tryz.isAgg136 (La (bq.cells a) p 1 Tryz.isAgg74 Tryz.sizeOf74 ?_)))))
 obtain⟨af,Q⟩:∃ q,lN a=q:=⟨_,rfl⟩
 obtain⟨fQ,aC,dZ,aD,d9⟩:=Ck p
 refine WL.do rfl (CB Tryz.call121 rfl rfl (o8 _ _ a af aC Q) ?_)
 rintro _ fT ⟨rfl,aF⟩
 have bV:=aD _ _ aF
 refine An rfl (rt (rs ?_))
 have bW:=bV.pk []
 obtain rfl:_=af:=hr.symm.trans (et (iN l) (et (iN n) (et (ip j) (et (ag y) (et (ip C) (ag Q))))))
 exact⟨rfl,bW,(by omega)⟩
 refine jT (dT C) (sr (An rfl (rt (tR (rs ?_)))))
 have bX:=p.pk []
 obtain rfl:_=40:=hr.symm.trans (et (iN l) (et (iN n) (et (ip j) (et (ag y) (iN C)))))
 exact⟨rfl,bX,(by omega)⟩
 by_cases o:a.aI=4
 obtain⟨fU,aG,ed,aH,ek⟩:=Ck x
 refine cl Tryz.call111 (sN _ _ a.aI aG (of_decide_eq_true (dT o))) ?_
 rintro _ fV ⟨rfl,aI⟩
 have bY:=aH _ _ aI
 refine Mz rfl (Kz (.agg #[.bool false, .func (.func 128) #[] #[], .func (.func 129) #[] #[], .func (.func 130) #[] #[], .func (.func 131) #[] #[]]) (Kz (.bool true) ?_))
 refine dB [.bool false, .nilFunc, .nilFunc, .nilFunc, .nilFunc] 166 bY ?_
 intro R fZ bZ
 refine dw [.bool false, .func (.func 128) #[] #[], .func (.func 129) #[] #[], .func (.func 130) #[] #[], .func (.func 131) #[] #[]] 0 bZ Tryz.sizeOf166 ?_
 intro cu cz
 refine An rfl (BS (BS ?_))
 have E:=cz.drew
 refine CP [] (fun W=> ∃ L',Own w D W ([blk R [.bool false, .func (.func 128) #[] #[], .func (.func 129) #[] #[], .func (.func 130) #[] #[], .func (.func 131) #[] #[]] 166,blk t (bq.cells a) 74]++L')) (by kernel_rfl) (by kernel_rfl) (Cs (Cs CR)) ⟨_,E⟩ ?_
 revert E
 generalize World.drew cu=gm
 intro E
 refine GX.take (v:= .bool true) (rs:= []) 0 rfl (by kernel_rfl) (fun _ _=>BX rfl) (GX.take (v:= .bool false) (rs:= []) 1 rfl (by kernel_rfl) (fun _ _=>yk) (GX.take (v:= .bool false) (rs:= []) 2 rfl (by kernel_rfl) (fun _ _=>BX rfl) (BU (v:= .pointer (some ⟨R,1,none⟩)) (rs:= []) 3 rfl rfl rfl rfl (by kernel_rfl) (fun _ _=>yk) (BU (v:= .func (.func 128) #[] #[]) (rs:= []) 4 rfl rfl rfl rfl (by kernel_rfl) (fun _ ⟨_,h⟩=>Cc rfl (bi.one Tryz.isAgg162 (Cv (h.cls (i:=0) rfl) rfl))) (BU (v:= .agg (bq.cells a).toArray) (rs:= []) 5 rfl rfl rfl rfl (by kernel_rfl) (fun _ ⟨_,h⟩=>Cc rfl (Cu (cs:=(bq.cells a)) Tryz.isAgg74 Tryz.sizeOf74 ((h.cls (i:=1) rfl).lit (k:=0) (m:=6) rfl))) (BU (v:= .agg (bq.cells a).toArray) (rs:= []) 7 rfl rfl rfl rfl (by kernel_rfl) (fun _ ⟨_,h⟩=>Cc rfl (Cu (cs:=(bq.cells a)) Tryz.isAgg74 Tryz.sizeOf74 ((h.cls (i:=1) rfl).lit (k:=0) (m:=6) rfl))) ?_))))))
 obtain⟨c,z⟩:∃ q,mE a=q:=⟨_,rfl⟩
 obtain⟨gp,aJ,eu,aK,eB⟩:=Ck E
 refine C8 6 rfl rfl rfl rfl (by kernel_rfl) (CB Tryz.call128 rfl rfl (tK _ _ a c aJ z) ?_)
 rintro _ gq ⟨rfl,aL⟩
 have r:=aK _ _ aL
 refine⟨.inr ⟨_,r⟩, ?_⟩
 refine BU (v:= .bool (decide (¬ ((c.aI=a.aI)∧(c.aV=a.aV)∧(c.aC=a.aC)∧(c.aK=a.aK)∧(c.aO=a.aO)∧(c.bn=a.bn))))) (rs:= []) 8 rfl rfl rfl rfl (by kernel_rfl) (fun _ _=>Cy (e:= !(decide ((c.aI=a.aI)∧(c.aV=a.aV)∧(c.aC=a.aC)∧(c.aK=a.aK)∧(c.aO=a.aO)∧(c.bn=a.bn)))) (Dh rfl rfl (by kernel_rfl) rfl (gL.struct Tryz.underlying74 (by kernel_rfl) (Dc (fF.cons (u:= .int .i64 c.aI) (v:= .int .i64 a.aI) (by decide) (fun _=>by kernel_rfl) (fun _=>by kernel_rfl) (gL.int Tryz.underlying3) (fF.cons (u:= .string ⟨List.toArray c.aV⟩) (v:= .string ⟨List.toArray a.aV⟩) (by decide) (fun _=>by kernel_rfl) (fun _=>by kernel_rfl) (gL.string Tryz.underlying9) (fF.cons (u:= .string ⟨List.toArray c.aC⟩) (v:= .string ⟨List.toArray a.aC⟩) (by decide) (fun _=>by kernel_rfl) (fun _=>by kernel_rfl) (gL.string Tryz.underlying9) (fF.cons (u:= .string ⟨List.toArray c.aK⟩) (v:= .string ⟨List.toArray a.aK⟩) (by decide) (fun _=>by kernel_rfl) (fun _=>by kernel_rfl) (gL.string Tryz.underlying9) (fF.cons (u:= .string ⟨List.toArray c.aO⟩) (v:= .string ⟨List.toArray a.aO⟩) (by decide) (fun _=>by kernel_rfl) (fun _=>by kernel_rfl) (gL.string Tryz.underlying9) (fF.cons (u:= .int .i64 c.bn) (v:= .int .i64 a.bn) (by decide) (fun _=>by kernel_rfl) (fun _=>by kernel_rfl) (gL.int Tryz.underlying3) (fF.nil.up (EM _)))))))) ((congrArg (decide (c.aI=a.aI) && ·) ((congrArg (decide (c.aV=a.aV) && ·) ((congrArg (decide (c.aC=a.aC) && ·) ((congrArg (decide (c.aK=a.aK) && ·) ((congrArg (decide (c.aO=a.aO) && ·) lm).trans fE)).trans fE)).trans fE)).trans fE)).trans fE)))) decide_not.symm) (GX.take (v:= .bool (decide (¬ ((c.aI=a.aI)∧(c.aV=a.aV)∧(c.aC=a.aC)∧(c.aK=a.aK)∧(c.aO=a.aO)∧(c.bn=a.bn))))) (rs:= []) 9 rfl (by kernel_rfl) (fun _ _=>BQ rfl rfl rfl) (Cx (by kernel_rfl) (Ca ?_)))
 by_cases F:(c.aI=a.aI)∧(c.aV=a.aV)∧(c.aC=a.aC)∧(c.aK=a.aK)∧(c.aO=a.aO)∧(c.bn=a.bn)
 refine jF (dF (EN F)) (sk (sr (Kz (.pointer (some ⟨R,2,none⟩)) (Lz (.func (.func 129) #[] #[]) r 0 Tryz.isAgg136 (La (bq.cells a) r 1 Tryz.isAgg74 Tryz.sizeOf74 ?_)))))
 obtain⟨ah,S⟩:∃ q,lD a=q:=⟨_,rfl⟩
 obtain⟨gu,aM,eD,aN,eF⟩:=Ck r
 refine WL.do rfl (CB Tryz.call129 rfl rfl (rX _ _ a ah aM S) ?_)
 rintro _ gy ⟨rfl,aO⟩
 have cB:=aN _ _ aO
 refine An rfl (rt (rs ?_))
 have cK:=cB.pk []
 obtain rfl:_=ah:=hr.symm.trans (et (iN l) (et (iN n) (et (iN j) (et (ip o) (et (ag z) (et (ip F) (ag S)))))))
 exact⟨rfl,cK,(by omega)⟩
 refine jT (dT F) (sr (An rfl (rt (tR (rs ?_)))))
 have cO:=r.pk []
 obtain rfl:_=40:=hr.symm.trans (et (iN l) (et (iN n) (et (iN j) (et (ip o) (et (ag z) (iN F))))))
 exact⟨rfl,cO,(by omega)⟩
 by_cases G:a.aI=5
 obtain⟨gz,aP,eG,aQ,eH⟩:=Ck x
 refine cl Tryz.call111 (sO _ _ a.aI aP (of_decide_eq_true (dT G))) ?_
 rintro _ gB ⟨rfl,aR⟩
 have cZ:=aQ _ _ aR
 refine Mz rfl (Kz (.agg #[.bool true, .func (.func 132) #[] #[], .func (.func 133) #[] #[], .func (.func 130) #[] #[], .func (.func 134) #[] #[]]) (Kz (.bool true) ?_))
 refine dB [.bool false, .nilFunc, .nilFunc, .nilFunc, .nilFunc] 166 cZ ?_
 intro T gD df
 refine dw [.bool true, .func (.func 132) #[] #[], .func (.func 133) #[] #[], .func (.func 130) #[] #[], .func (.func 134) #[] #[]] 0 df Tryz.sizeOf166 ?_
 intro dh di
 refine An rfl (BS (BS ?_))
 have I:=di.drew
 refine CP [] (fun W=> ∃ L',Own w D W ([blk T [.bool true, .func (.func 132) #[] #[], .func (.func 133) #[] #[], .func (.func 130) #[] #[], .func (.func 134) #[] #[]] 166,blk t (bq.cells a) 74]++L')) (by kernel_rfl) (by kernel_rfl) (Cs (Cs CR)) ⟨_,I⟩ ?_
 revert I
 generalize World.drew dh=gF
 intro I
 refine GX.take (v:= .bool true) (rs:= []) 0 rfl (by kernel_rfl) (fun _ _=>BX rfl) (GX.take (v:= .bool false) (rs:= []) 1 rfl (by kernel_rfl) (fun _ _=>yk) (GX.take (v:= .bool false) (rs:= []) 2 rfl (by kernel_rfl) (fun _ _=>BX rfl) (BU (v:= .pointer (some ⟨T,1,none⟩)) (rs:= []) 3 rfl rfl rfl rfl (by kernel_rfl) (fun _ _=>yk) (BU (v:= .func (.func 132) #[] #[]) (rs:= []) 4 rfl rfl rfl rfl (by kernel_rfl) (fun _ ⟨_,h⟩=>Cc rfl (bi.one Tryz.isAgg162 (Cv (h.cls (i:=0) rfl) rfl))) (BU (v:= .agg (bq.cells a).toArray) (rs:= []) 5 rfl rfl rfl rfl (by kernel_rfl) (fun _ ⟨_,h⟩=>Cc rfl (Cu (cs:=(bq.cells a)) Tryz.isAgg74 Tryz.sizeOf74 ((h.cls (i:=1) rfl).lit (k:=0) (m:=6) rfl))) (BU (v:= .agg (bq.cells a).toArray) (rs:= []) 7 rfl rfl rfl rfl (by kernel_rfl) (fun _ ⟨_,h⟩=>Cc rfl (Cu (cs:=(bq.cells a)) Tryz.isAgg74 Tryz.sizeOf74 ((h.cls (i:=1) rfl).lit (k:=0) (m:=6) rfl))) ?_))))))
 obtain⟨d,A⟩:∃ q,mh a=q:=⟨_,rfl⟩
 obtain⟨gG,aS,eO,aT,eP⟩:=Ck I
 refine C8 6 rfl rfl rfl rfl (by kernel_rfl) (CB Tryz.call132 rfl rfl (sP _ _ a d aS A) ?_)
 rintro _ gH ⟨rfl,aU⟩
 have s:=aT _ _ aU
 refine⟨.inr ⟨_,s⟩, ?_⟩
 refine BU (v:= .bool (decide (¬ ((d.aI=a.aI)∧(d.aV=a.aV)∧(d.aC=a.aC)∧(d.aK=a.aK)∧(d.aO=a.aO)∧(d.bn=a.bn))))) (rs:= []) 8 rfl rfl rfl rfl (by kernel_rfl) (fun _ _=>Cy (e:= !(decide ((d.aI=a.aI)∧(d.aV=a.aV)∧(d.aC=a.aC)∧(d.aK=a.aK)∧(d.aO=a.aO)∧(d.bn=a.bn)))) (Dh rfl rfl (by kernel_rfl) rfl (gL.struct Tryz.underlying74 (by kernel_rfl) (Dc (fF.cons (u:= .int .i64 d.aI) (v:= .int .i64 a.aI) (by decide) (fun _=>by kernel_rfl) (fun _=>by kernel_rfl) (gL.int Tryz.underlying3) (fF.cons (u:= .string ⟨List.toArray d.aV⟩) (v:= .string ⟨List.toArray a.aV⟩) (by decide) (fun _=>by kernel_rfl) (fun _=>by kernel_rfl) (gL.string Tryz.underlying9) (fF.cons (u:= .string ⟨List.toArray d.aC⟩) (v:= .string ⟨List.toArray a.aC⟩) (by decide) (fun _=>by kernel_rfl) (fun _=>by kernel_rfl) (gL.string Tryz.underlying9) (fF.cons (u:= .string ⟨List.toArray d.aK⟩) (v:= .string ⟨List.toArray a.aK⟩) (by decide) (fun _=>by kernel_rfl) (fun _=>by kernel_rfl) (gL.string Tryz.underlying9) (fF.cons (u:= .string ⟨List.toArray d.aO⟩) (v:= .string ⟨List.toArray a.aO⟩) (by decide) (fun _=>by kernel_rfl) (fun _=>by kernel_rfl) (gL.string Tryz.underlying9) (fF.cons (u:= .int .i64 d.bn) (v:= .int .i64 a.bn) (by decide) (fun _=>by kernel_rfl) (fun _=>by kernel_rfl) (gL.int Tryz.underlying3) (fF.nil.up (EM _)))))))) ((congrArg (decide (d.aI=a.aI) && ·) ((congrArg (decide (d.aV=a.aV) && ·) ((congrArg (decide (d.aC=a.aC) && ·) ((congrArg (decide (d.aK=a.aK) && ·) ((congrArg (decide (d.aO=a.aO) && ·) lm).trans fE)).trans fE)).trans fE)).trans fE)).trans fE)))) decide_not.symm) (GX.take (v:= .bool (decide (¬ ((d.aI=a.aI)∧(d.aV=a.aV)∧(d.aC=a.aC)∧(d.aK=a.aK)∧(d.aO=a.aO)∧(d.bn=a.bn))))) (rs:= []) 9 rfl (by kernel_rfl) (fun _ _=>BQ rfl rfl rfl) (Cx (by kernel_rfl) (Ca ?_)))
 by_cases J:(d.aI=a.aI)∧(d.aV=a.aV)∧(d.aC=a.aC)∧(d.aK=a.aK)∧(d.aO=a.aO)∧(d.bn=a.bn)
 refine jF (dF (EN J)) (sk (sr (Kz (.pointer (some ⟨T,2,none⟩)) (Lz (.func (.func 133) #[] #[]) s 0 Tryz.isAgg136 (La (bq.cells a) s 1 Tryz.isAgg74 Tryz.sizeOf74 ?_)))))
 obtain⟨ai,U⟩:∃ q,jk a=q:=⟨_,rfl⟩
 obtain⟨gI,aV,eQ,aW,eT⟩:=Ck s
 refine WL.do rfl (CB Tryz.call133 rfl rfl (ou _ _ a ai aV U) ?_)
 rintro _ gJ ⟨rfl,aX⟩
 have dm:=aW _ _ aX
 refine An rfl (rt (rs ?_))
 have dn:=dm.pk []
 obtain rfl:_=ai:=hr.symm.trans (et (iN l) (et (iN n) (et (iN j) (et (iN o) (et (ip G) (et (ag A) (et (ip J) (ag U))))))))
 exact⟨rfl,dn,(by omega)⟩
 refine jT (dT J) (sr (An rfl (rt (tR (rs ?_)))))
 have dx:=s.pk []
 obtain rfl:_=40:=hr.symm.trans (et (iN l) (et (iN n) (et (iN j) (et (iN o) (et (ip G) (et (ag A) (iN J)))))))
 exact⟨rfl,dx,(by omega)⟩
 obtain⟨gK,aY,eU,aZ,eX⟩:=Ck x
 refine cl Tryz.call111 (rY _ _ a.aI aY (by omega) (by omega) (by omega) (by omega) (by omega)) ?_
 rintro _ gM ⟨rfl,bf⟩
 have dz:=aZ _ _ bf
 refine Mz rfl (Kz (.agg #[.bool false, .nilFunc, .nilFunc, .nilFunc, .nilFunc]) (Kz (.bool false) ?_))
 refine dB [.bool false, .nilFunc, .nilFunc, .nilFunc, .nilFunc] 166 dz ?_
 intro dA gN dC
 refine dw [.bool false, .nilFunc, .nilFunc, .nilFunc, .nilFunc] 0 dC Tryz.sizeOf166 ?_
 intro dD dG
 refine An rfl (BS (BS ?_))
 have K:=dG.drew
 refine CP [] (fun W=> ∃ L',Own w D W ([blk dA [.bool false, .nilFunc, .nilFunc, .nilFunc, .nilFunc] 166,blk t (bq.cells a) 74]++L')) (by kernel_rfl) (by kernel_rfl) (Cs (Cs CR)) ⟨_,K⟩ ?_
 revert K
 generalize World.drew dD=gP
 intro K
 refine GX.take (v:= .bool false) (rs:= []) 0 rfl (by kernel_rfl) (fun _ _=>BX rfl) (GX.take (v:= .bool true) (rs:= []) 1 rfl (by kernel_rfl) (fun _ _=>yk) (GX.take (v:= .bool true) (rs:= []) 2 rfl (by kernel_rfl) (fun _ _=>BX rfl) (BP (rs:= []) 3 rfl rfl rfl rfl (by kernel_rfl) (BP (rs:= []) 4 rfl rfl rfl rfl (by kernel_rfl) (BP (rs:= []) 5 rfl rfl rfl rfl (by kernel_rfl) (BP (rs:= []) 6 rfl rfl rfl rfl (by kernel_rfl) (BP (rs:= []) 7 rfl rfl rfl rfl (by kernel_rfl) (BP (rs:= []) 8 rfl rfl rfl rfl (by kernel_rfl) (GX.take (v:= .bool true) (rs:= []) 9 rfl (by kernel_rfl) (fun _ _=>BZ rfl rfl rfl) (Cx (by kernel_rfl) (Ca (jt (sr (An rfl (rt (tR (rs ?_)))))))))))))))))
 have dH:=K.pk []
 obtain rfl:_=40:=hr.symm.trans (et (iN l) (et (iN n) (et (iN j) (et (iN o) (iN G)))))
 exact⟨rfl,dH,(by omega)⟩
def gP (p1:Nat):List eZ→Unit ⊕ Bool
  | []=>Sum.inl ()
  | a::b=>if((a.av:Nat):Int)=((p1:Nat):Int) then Sum.inr (true) else gP p1 b
def lV (a:bQ) (p1:Nat):Bool:=
 lp (gP p1 a.az.ls) fun _=>false
theorem oP (w:World) (D:Nat→Prop) (a:bQ) (g:Option Addr) (y h:Nat) (d:Option Addr) (z f:Nat) (m:List aM) (j:Option Addr) (B k:Nat) (p1:Nat) (r0:Bool) (H:Own w D w []) (E:y=a.ai.ls.length) (R:Ro w D fun w'=>bG w' 2 g a.ai.ls.length (List.flatMap aL.cells a.ai.ls)) (S:a.ai.ls.length≤h∧a.ai.ls.length≤9223372036854775807) (o:List.map CE m=a.az.ls) (F:z=a.az.ls.length) (l:Ro w D fun w'=>bG w' 2 d a.az.ls.length (List.flatMap aM.cells m)) (T:a.az.ls.length≤f∧a.az.ls.length≤9223372036854775807) (G:∀ x ∈ m,Ro w D (fun w'=>bG w' 6 x.ay.A x.ay.ls.length (List.flatMap bq.cells x.ay.ls))∧(x.ay.ls.length≤x.ay.c∧x.ay.ls.length≤9223372036854775807)) (I:B=a.ah.ls.length) (U:Ro w D fun w'=>bG w' 1 j a.ah.ls.length (List.flatMap (eN .u64) a.ah.ls)) (V:a.ah.ls.length≤k∧a.ah.ls.length≤9223372036854775807) (hr:lV a p1=r0):
    Calls Tryz.prog 85 #[.agg (bZ a.cO a.aj a.aR a.aH a.aZ g y h d z f j B k a.iq a.bS a.bf.aK a.bf.aO a.aS.aZ a.aS.bB a.aS.cz a.aS.aP.aK a.aS.aP.aO).toArray, .int .u64 ((p1:Nat):Int)] w (dE fun v w'=>v= .bool r0∧Own w D w' []):=by
 subst E F I
 have hdl0x1:=dm o
 refine Ce (args:= [.agg (aX a g h d f j k).toArray, .int .u64 ((p1:Nat):Int)]) Tryz.func85 rfl rfl rfl ?_
 show Wp _ _ _ [(0, .agg (aX a g h d f j k).toArray),(1, .int .u64 ((p1:Nat):Int))] _ _
 refine sr ?_
 refine dB (aX a g h d f j k) 31 H ?_
 intro W aj K
 refine An rfl (BS (sr (Kz (.pointer (some ⟨W,6,none⟩)) (Lz (.slice d a.az.ls.length f) K 0 Tryz.isAgg24 (Kz (.int .i64 ((a.az.ls.length:Nat):Int)) (Mn rfl (bo ?_)))))))
 have X:=K.pk []
 obtain⟨L,M⟩:∃ q:Nat→World→Prop,q=fun(i:Nat) w'=>Own w D w' []∧(i≤a.az.ls.length∧gP p1 a.az.ls=gP p1 (List.drop i a.az.ls)):=⟨_,rfl⟩
 have p:∀ {b:Nat} {w':World},L b w'↔Own w D w' []∧b≤a.az.ls.length∧gP p1 a.az.ls=gP p1 (List.drop b a.az.ls):=by intros; subst M; exact Iff.rfl
 refine Wp.loop (fun i:Nat=> [(4, .bool false),(10, .int .i64 ((i:Nat):Int)),(9, .int .i64 ((a.az.ls.length:Nat):Int)),(8, .slice d a.az.ls.length f),(1, .int .u64 ((p1:Nat):Int))]) L (fun i=>a.az.ls.length - i) 0 ⟨rfl,rfl,rfl,rfl,rfl,trivial⟩ (p.2 ⟨X,by omega,rfl⟩) ?_
 rintro b ak N
 show Wp _ _ _ [(4, .bool false),(10, .int .i64 ((b:Nat):Int)),(9, .int .i64 ((a.az.ls.length:Nat):Int)),(8, .slice d a.az.ls.length f),(1, .int .u64 ((p1:Nat):Int))] _ _
 obtain⟨r,ah,s⟩:=p.1 N
 refine sr (Kz (.bool (decide (((b:Nat):Int) < ((a.az.ls.length:Nat):Int)))) (nt (BS ?_)))
 by_cases O:((b:Nat):Int) < ((a.az.ls.length:Nat):Int)
 obtain⟨n,t⟩:=bU (ls:=m) (i:=b) aM.len (by decide) (r.ro l) (by first | omega | (simp; done) | (simp; omega))
 have P:=jb o t
 have ai:=(G _ (List.mem_of_getElem? t)).2
 have C:=drop_at P
 refine jT (dT O) (sk (BS (bo (sr (fw (.pointer (some ⟨ab d,ao d+b *2,none⟩)) (Ch (pQ) rfl rfl ((r.ro l).addr (i:=b) (by omega)) (by omega)) (fw (.agg (aM.cells n).toArray) (Cc rfl (Cu (cs:=(aM.cells n)) Tryz.isAgg66 Tryz.sizeOf66 ((r.ro l).elem aM.len t (by decide)))) ?_))))))
 refine dB [.int .u64 0, .slice none 0 0] 66 r ?_
 intro Y au Z
 refine dw (aM.cells n) 0 Z Tryz.sizeOf66 ?_
 intro av J
 refine ns (Kz (.pointer (some ⟨Y,0,none⟩)) (Lz (.int .u64 ((n.av:Nat):Int)) J 0 Tryz.isAgg22 (Mz rfl (Kz (.bool (decide (((n.av:Nat):Int)=((p1:Nat):Int)))) (nt ?_)))))
 by_cases u:((n.av:Nat):Int)=((p1:Nat):Int)
 refine jT (dT u) (sr (An rfl (rt (bR (tR (tR (bR (tR (rs ?_)))))))))
 have aa:=J.pk []
 obtain rfl:_=true:=hr.symm.trans (ic (et (s) (et (congrArg (fun q=>gP p1 q) C) (ip u))))
 exact⟨rfl,aa⟩
 refine jF (dF u) (CW (bN (Ca (BR (fw (.int .i64 ((b+1:Nat):Int)) (Ci (e:=IntKind.i64.wrap (((b:Nat):Int)+1)) yk (by rw [EL _ (by omega)]; omega)) (Mz rfl (Cf ?_)))))))
 have ae:=J.pk []
 exact Cm (b+1) ⟨rfl,rfl,rfl,rfl,rfl,trivial⟩ (p.2 ⟨ae,by omega,et (s) (et (congrArg (fun q=>gP p1 q) C) (iN u))⟩) (by show a.az.ls.length - (b+1) < a.az.ls.length - b; omega)
 refine jF (dF O) (Wp.exit (Cb ?_))
 have Q:gP p1 a.az.ls=Sum.inl ():=et (s) (et (congrArg (fun q=>gP p1 q) (bM (ls:=a.az.ls) (i:=b) (by omega))) rfl)
 refine Cb (Cn (Ca (sr (An rfl (rt (rs ?_))))))
 have af:=r.pk []
 obtain rfl:_=false:=hr.symm.trans (mF Q)
 exact⟨rfl,af⟩
def bT (b:Nat):List bq→Unit ⊕ Bool
  | []=>Sum.inl ()
  | c::d=>bnd (fC c) fun a=>if a=0 then bT b d else Sum.inr (false)
def gH (d:Nat):List bq→Unit ⊕ Bool
  | []=>Sum.inl ()
  | b::c=>bnd (fC b) fun a=>if a=0 then gH d c else Sum.inr (false)
def bW (g:bQ):List eZ→Nat→Unit ⊕ Bool
  | [],a=>Sum.inl ()
  | b::d,a=>if((a:Nat):Int) > 0 then bnd (List.getD g.az.ls (a - 1) default) fun e=>if((b.av:Nat):Int)≤((e.av:Nat):Int) then Sum.inr (false) else bnd (cZ ((b.ay.ls.length:Nat):Int) 24) fun f=>if f=true then lv (bT a b.ay.ls) fun _=>bW g d (a+1) else Sum.inr (false) else bnd (cZ ((b.ay.ls.length:Nat):Int) 24) fun c=>if c=true then lv (gH a b.ay.ls) fun _=>bW g d (a+1) else Sum.inr (false)
def fe (g:bQ):List Nat→Nat→Unit ⊕ Bool
  | [],a=>Sum.inl ()
  | b::c,a=>if((a:Nat):Int) > 0 then bnd (List.getD g.ah.ls (a - 1) default) fun d=>if((b:Nat):Int)≤((d:Nat):Int) then Sum.inr (false) else bnd (lV g b) fun e=>if e=true then Sum.inr (false) else fe g c (a+1) else bnd (lV g b) fun f=>if f=true then Sum.inr (false) else fe g c (a+1)
def jJ (a:bQ):Bool:=
 if((a.az.ls.length:Nat):Int) > 6 then false else if((a.az.ls.length+a.ah.ls.length:Nat):Int) > 64 then false else lp (bW a a.az.ls 0) fun _=>lp (fe a a.ah.ls 0) fun _=>true
set_option maxHeartbeats 1000000 in
theorem qW (w:World) (D:Nat→Prop) (d:bQ) (r:Option Addr) (bA n:Nat) (f:Option Addr) (bB h:Nat) (Q:List aM) (j:Option Addr) (bC l:Nat) (r0:Bool) (H:Own w D w []) (bV:bA=d.ai.ls.length) (aP:Ro w D fun w'=>bG w' 2 r d.ai.ls.length (List.flatMap aL.cells d.ai.ls)) (fF:d.ai.ls.length≤n∧d.ai.ls.length≤9223372036854775807) (R:List.map CE Q=d.az.ls) (bX:bB=d.az.ls.length) (J:Ro w D fun w'=>bG w' 2 f d.az.ls.length (List.flatMap aM.cells Q)) (fG:d.az.ls.length≤h∧d.az.ls.length≤9223372036854775807) (t:∀ x ∈ Q,Ro w D (fun w'=>bG w' 6 x.ay.A x.ay.ls.length (List.flatMap bq.cells x.ay.ls))∧(x.ay.ls.length≤x.ay.c∧x.ay.ls.length≤9223372036854775807)) (bY:bC=d.ah.ls.length) (B:Ro w D fun w'=>bG w' 1 j d.ah.ls.length (List.flatMap (eN .u64) d.ah.ls)) (fH:d.ah.ls.length≤l∧d.ah.ls.length≤9223372036854775807) (il:d.ai.ls.length≤140737488355328∧d.az.ls.length≤140737488355328∧d.ah.ls.length≤140737488355328) (hr:jJ d=r0):
    Calls Tryz.prog 40 #[.agg (bZ d.cO d.aj d.aR d.aH d.aZ r bA n f bB h j bC l d.iq d.bS d.bf.aK d.bf.aO d.aS.aZ d.aS.bB d.aS.cz d.aS.aP.aK d.aS.aP.aO).toArray] w (dE fun v w'=>v= .bool r0∧Own w D w' []):=by
 subst bV bX bY
 have hdl0x1:=dm R
 refine Ce (args:= [.agg (aX d r n f h j l).toArray]) Tryz.func40 rfl rfl rfl ?_
 show Wp _ _ _ [(0, .agg (aX d r n f h j l).toArray)] _ _
 refine sr ?_
 refine dB (aX d r n f h j l) 31 H ?_
 intro s iq av
 refine An rfl (BS (sr (Kz (.pointer (some ⟨s,6,none⟩)) (Lz (.slice f d.az.ls.length h) av 0 Tryz.isAgg24 (Kz (.int .i64 ((d.az.ls.length:Nat):Int)) (Kz (.bool (decide (((d.az.ls.length:Nat):Int) > 6))) (Mz rfl ?_)))))))
 by_cases o:((d.az.ls.length:Nat):Int) > 6
 refine Sz (dT o) (Sz (dT o) (Sz (dT o) (Sz (dT o) (Sz (dT o) (Sz (dT o) (Sz (dT o) (Sz (dT o) (fw (.bool true) (BZ rfl (dT o) rfl) (nt (jt (sr (An rfl (rt (tR (rs ?_)))))))))))))))
 have fI:=av.pk []
 obtain rfl:_=false:=hr.symm.trans (ip o)
 exact⟨rfl,fI⟩
 refine Gz (.pointer (some ⟨s,6,none⟩)) (dF o) (Gl (.slice f d.az.ls.length h) (dF o) av 0 Tryz.isAgg24 (Gz (.int .i64 ((d.az.ls.length:Nat):Int)) (dF o) (Gz (.pointer (some ⟨s,7,none⟩)) (dF o) (Gl (.slice j d.ah.ls.length l) (dF o) av 0 Tryz.isAgg25 (Gz (.int .i64 ((d.ah.ls.length:Nat):Int)) (dF o) (gw (.int .i64 ((d.az.ls.length+d.ah.ls.length:Nat):Int)) (dF o) (Ci (e:=IntKind.i64.wrap (((d.az.ls.length:Nat):Int)+((d.ah.ls.length:Nat):Int))) yk (by rw [EL _ (by omega)]; omega)) (Gz (.bool (decide (((d.az.ls.length+d.ah.ls.length:Nat):Int) > 64))) (dF o) (fw (.bool (decide (((d.az.ls.length+d.ah.ls.length:Nat):Int) > 64))) (BQ rfl (dF o) rfl) (nt ?_)))))))))
 by_cases P:((d.az.ls.length+d.ah.ls.length:Nat):Int) > 64
 refine jT (dT P) (sr (An rfl (rt (tR (rs ?_)))))
 have fJ:=av.pk []
 obtain rfl:_=false:=hr.symm.trans (et (iN o) (ip P))
 exact⟨rfl,fJ⟩
 refine jF (dF P) (sk (BS (sr (Kz (.pointer (some ⟨s,6,none⟩)) (Lz (.slice f d.az.ls.length h) av 0 Tryz.isAgg24 (Kz (.int .i64 ((d.az.ls.length:Nat):Int)) (Mn rfl (bo ?_))))))))
 have fK:=av.pk [0]
 obtain⟨dM,dN⟩:∃ q:Nat→World→Prop,q=fun(i:Nat) w'=>Own w D w' [blk s (aX d r n f h j l) 31]∧(i≤d.az.ls.length∧bW d d.az.ls 0=bW d (List.drop i d.az.ls) i):=⟨_,rfl⟩
 have aC:∀ {b:Nat} {w':World},dM b w'↔Own w D w' [blk s (aX d r n f h j l) 31]∧b≤d.az.ls.length∧bW d d.az.ls 0=bW d (List.drop b d.az.ls) b:=by intros; subst dN; exact Iff.rfl
 refine Wp.loop (fun i:Nat=> [(2, .bool false),(26, .int .i64 ((i:Nat):Int)),(25, .int .i64 ((d.az.ls.length:Nat):Int)),(24, .slice f d.az.ls.length h),(1, .pointer (some ⟨s,0,none⟩))]) dM (fun i=>d.az.ls.length - i) 0 ⟨rfl,rfl,rfl,rfl,rfl,trivial⟩ (aC.2 ⟨fK,by omega,rfl⟩) ?_
 rintro b iw dO
 show Wp _ _ _ [(2, .bool false),(26, .int .i64 ((b:Nat):Int)),(25, .int .i64 ((d.az.ls.length:Nat):Int)),(24, .slice f d.az.ls.length h),(1, .pointer (some ⟨s,0,none⟩))] _ _
 obtain⟨aK,gD,N⟩:=aC.1 dO
 refine sr (Kz (.bool (decide (((b:Nat):Int) < ((d.az.ls.length:Nat):Int)))) (nt (BS ?_)))
 by_cases dP:((b:Nat):Int) < ((d.az.ls.length:Nat):Int)
 obtain⟨a,K⟩:=bU (ls:=Q) (i:=b) aM.len (by decide) (aK.ro J) (by first | omega | (simp; done) | (simp; omega))
 have dQ:=jb R K
 have gF:=(t _ (List.mem_of_getElem? K)).2
 have S:=drop_at dQ
 refine jT (dT dP) (sk (BS (bo (sr (Mz rfl (fw (.pointer (some ⟨ab f,ao f+b *2,none⟩)) (Ch (pQ) rfl rfl ((aK.ro J).addr (i:=b) (by omega)) (by omega)) (fw (.agg (aM.cells a).toArray) (Cc rfl (Cu (cs:=(aM.cells a)) Tryz.isAgg66 Tryz.sizeOf66 ((aK.ro J).elem aM.len K (by decide)))) ?_)))))))
 refine dB [.int .u64 0, .slice none 0 0] 66 aK ?_
 intro y iy fM
 refine Az rfl ?_
 refine dw (aM.cells a) 0 fM Tryz.sizeOf66 ?_
 intro fO fP
 refine nt (BS (BS ?_))
 have aN:=fP.drew
 refine CP [] (fun W=> ∃ L',Own w D W ([blk y (aM.cells a) 66,blk s (aX d r n f h j l) 31]++L')) (by kernel_rfl) (by kernel_rfl) (Cs (Cs (bP.block (Cs (Cs (bP.block (Cs CR))))))) ⟨_,aN⟩ ?_
 revert aN
 generalize World.drew fO=iA
 intro aN
 refine GX.take (v:= .int .i64 ((b:Nat):Int)) (rs:= []) 0 rfl (by kernel_rfl) (fun _ _=>BX rfl) (GX.take (v:= .bool (decide (((b:Nat):Int) > 0))) (rs:= []) 1 rfl (by kernel_rfl) (fun _ _=>yk) (GX.take (v:= .bool (decide (((b:Nat):Int) > 0))) (rs:= []) 2 rfl (by kernel_rfl) (fun _ _=>BX rfl) ?_))
 by_cases p:((b:Nat):Int) > 0
 refine BU (v:= .pointer (some ⟨y,0,none⟩)) (rs:= []) 3 rfl rfl rfl (dT p) (by kernel_rfl) (fun _ _=>yk) (BU (v:= .int .u64 ((a.av:Nat):Int)) (rs:= []) 4 rfl rfl rfl (dT p) (by kernel_rfl) (fun _ ⟨_,H9⟩=>Cc rfl (bi.one Tryz.isAgg22 (Cv (H9.cls (i:=0) rfl) rfl))) (BU (v:= .pointer (some ⟨s,6,none⟩)) (rs:= []) 5 rfl rfl rfl (dT p) (by kernel_rfl) (fun _ _=>yk) (BU (v:= .slice f d.az.ls.length h) (rs:= []) 6 rfl rfl rfl (dT p) (by kernel_rfl) (fun _ ⟨_,H9⟩=>Cc rfl (bi.one Tryz.isAgg24 (Cv (H9.cls (i:=1) rfl) rfl))) (BU (v:= .int .i64 ((b:Nat):Int)) (rs:= []) 7 rfl rfl rfl (dT p) (by kernel_rfl) (fun _ _=>BX rfl) (BU (v:= .int .i64 ((b - 1:Nat):Int)) (rs:= []) 8 rfl rfl rfl (dT p) (by kernel_rfl) (fun _ _=>Ci (e:=IntKind.i64.wrap (((b:Nat):Int) - 1)) yk (by rw [EL _ (by omega)]; omega)) ?_)))))
 obtain⟨L,aR⟩:=oN (ls:=Q) (i:=b - 1) (by first | omega | (simp; done) | (simp; omega))
 have aD:=jb R aR
 have gG:=(t _ (List.mem_of_getElem? aR)).2
 refine BU (v:= .pointer (some ⟨ab f,ao f+(b - 1) *2,none⟩)) (rs:= []) 9 rfl rfl rfl (dT p) (by kernel_rfl) (fun _ ⟨_,H9⟩=>Ch (pQ) rfl rfl ((H9.ro J).addr (i:=b - 1) (by omega)) (by omega)) (BU (v:= .pointer (some ⟨ab f,ao f+(b - 1) *2,none⟩)) (rs:= []) 10 rfl rfl rfl (dT p) (by kernel_rfl) (fun _ _=>yk) (BU (v:= .int .u64 ((L.av:Nat):Int)) (rs:= []) 11 rfl rfl rfl (dT p) (by kernel_rfl) (fun _ ⟨_,H9⟩=>Cc rfl (bi.one Tryz.isAgg22 (((H9.ro J).elem aM.len aR (by decide)).at_ (k:=0) rfl))) (BU (v:= .bool (decide (((a.av:Nat):Int)≤((L.av:Nat):Int)))) (rs:= []) 12 rfl rfl rfl (dT p) (by kernel_rfl) (fun _ _=>yk) (GX.take (v:= .bool (decide (((a.av:Nat):Int)≤((L.av:Nat):Int)))) (rs:= []) 13 rfl (by kernel_rfl) (fun _ _=>BZ rfl (dT p) rfl) (GX.take (v:= .bool (decide (((a.av:Nat):Int)≤((L.av:Nat):Int)))) (rs:= []) 14 rfl (by kernel_rfl) (fun _ _=>BX rfl) ?_)))))
 by_cases F:((a.av:Nat):Int)≤((L.av:Nat):Int)
 refine BP (rs:= []) 15 rfl rfl rfl (dT F) (by kernel_rfl) (BP (rs:= []) 16 rfl rfl rfl (dT F) (by kernel_rfl) (BP (rs:= []) 17 rfl rfl rfl (dT F) (by kernel_rfl) (BP (rs:= []) 18 rfl rfl rfl (dT F) (by kernel_rfl) (BP (rs:= []) 19 rfl rfl rfl (dT F) (by kernel_rfl) (GX.take (v:= .bool true) (rs:= []) 20 rfl (by kernel_rfl) (fun _ _=>BZ rfl (dT F) rfl) (Cx (by kernel_rfl) (Ca (jt (sr (An rfl (rt (tR (bR (tR (tR (bR (tR (rs ?_))))))))))))))))))
 have fQ:=aN.pk []
 obtain rfl:_=false:=hr.symm.trans (et (iN o) (et (iN P) (ic (et (N) (et (congrArg (fun q=>bW d q b) S) (et (ip p) (et (ag (cu aD)) (ip F))))))))
 exact⟨rfl,fQ⟩
 refine BU (v:= .pointer (some ⟨y,1,none⟩)) (rs:= []) 15 rfl rfl rfl (dF F) (by kernel_rfl) (fun _ _=>yk) (BU (v:= .slice a.ay.A a.ay.ls.length a.ay.c) (rs:= []) 16 rfl rfl rfl (dF F) (by kernel_rfl) (fun _ ⟨_,H9⟩=>Cc rfl (bi.one Tryz.isAgg64 (Cv (H9.cls (i:=0) rfl) rfl))) (BU (v:= .int .i64 ((a.ay.ls.length:Nat):Int)) (rs:= []) 17 rfl rfl rfl (dF F) (by kernel_rfl) (fun _ _=>yk) ?_))
 obtain⟨U,aF⟩:∃ q,cZ ((a.ay.ls.length:Nat):Int) 24=q:=⟨_,rfl⟩
 obtain⟨iB,dR,gI,dS,gJ⟩:=Ck aN
 refine C8 18 rfl rfl rfl (dF F) (by kernel_rfl) (Cq Tryz.call38 rfl (jB _ _ ((a.ay.ls.length:Nat):Int) 24 U dR aF) ?_)
 rintro _ iC ⟨rfl,dU⟩
 have bz:=dS _ _ dU
 refine⟨.inr ⟨_,bz⟩, ?_⟩
 refine BU (v:= .bool (!U)) (rs:= []) 19 rfl rfl rfl (dF F) (by kernel_rfl) (fun _ _=>yk) (GX.take (v:= .bool (!U)) (rs:= []) 20 rfl (by kernel_rfl) (fun _ _=>BQ rfl (dF F) rfl) (Cx (by kernel_rfl) (Ca ?_)))
 rcases EO (U) with aO | aO
 refine jF (cn aO) (sk (sr (Kz (.pointer (some ⟨y,1,none⟩)) (Lz (.slice a.ay.A a.ay.ls.length a.ay.c) bz 0 Tryz.isAgg64 (Kz (.int .i64 ((a.ay.ls.length:Nat):Int)) (Mn rfl (bo ?_)))))))
 have fT:=bz.pk [0,1]
 obtain⟨dV,dW⟩:∃ q:Nat→World→Prop,q=fun(i:Nat) w'=>Own w D w' [blk y (aM.cells a) 66,blk s (aX d r n f h j l) 31]∧(i≤a.ay.ls.length∧bT b a.ay.ls=bT b (List.drop i a.ay.ls)):=⟨_,rfl⟩
 have aS:∀ {G:Nat} {w':World},dV G w'↔Own w D w' [blk y (aM.cells a) 66,blk s (aX d r n f h j l) 31]∧G≤a.ay.ls.length∧bT b a.ay.ls=bT b (List.drop G a.ay.ls):=by intros; subst dW; exact Iff.rfl
 refine Wp.loop (fun i:Nat=> [(2, .bool false),(55, .int .i64 ((i:Nat):Int)),(54, .int .i64 ((a.ay.ls.length:Nat):Int)),(53, .slice a.ay.A a.ay.ls.length a.ay.c),(52, .pointer (some ⟨y,1,none⟩)),(51, .bool (!U)),(50, .bool (!U)),(49, .bool U),(48, .int .i64 ((a.ay.ls.length:Nat):Int)),(47, .slice a.ay.A a.ay.ls.length a.ay.c),(46, .pointer (some ⟨y,1,none⟩)),(45, .bool (decide (((a.av:Nat):Int)≤((L.av:Nat):Int)))),(44, .bool (decide (((a.av:Nat):Int)≤((L.av:Nat):Int)))),(43, .bool (decide (((a.av:Nat):Int)≤((L.av:Nat):Int)))),(42, .int .u64 ((L.av:Nat):Int)),(41, .pointer (some ⟨ab f,ao f+(b - 1) *2,none⟩)),(40, .pointer (some ⟨ab f,ao f+(b - 1) *2,none⟩)),(39, .int .i64 ((b - 1:Nat):Int)),(38, .int .i64 ((b:Nat):Int)),(37, .slice f d.az.ls.length h),(36, .pointer (some ⟨s,6,none⟩)),(35, .int .u64 ((a.av:Nat):Int)),(34, .pointer (some ⟨y,0,none⟩)),(33, .bool (decide (((b:Nat):Int) > 0))),(32, .bool (decide (((b:Nat):Int) > 0))),(31, .int .i64 ((b:Nat):Int)),(3, .int .i64 ((b:Nat):Int)),(4, .pointer (some ⟨y,0,none⟩)),(30, .agg (aM.cells a).toArray),(29, .pointer (some ⟨ab f,ao f+b *2,none⟩)),(28, .int .i64 ((b:Nat):Int)),(27, .bool (decide (((b:Nat):Int) < ((d.az.ls.length:Nat):Int)))),(26, .int .i64 ((b:Nat):Int)),(25, .int .i64 ((d.az.ls.length:Nat):Int)),(24, .slice f d.az.ls.length h),(1, .pointer (some ⟨s,0,none⟩))]) dV (fun i=>a.ay.ls.length - i) 0 ⟨rfl,rfl,rfl,rfl,rfl,rfl,rfl,rfl,rfl,rfl,rfl,rfl,rfl,rfl,rfl,rfl,rfl,rfl,rfl,rfl,rfl,rfl,rfl,rfl,rfl,rfl,rfl,rfl,rfl,rfl,rfl,rfl,rfl,rfl,rfl,rfl,trivial⟩ (aS.2 ⟨fT,by omega,rfl⟩) ?_
 rintro G iD dX
 show Wp _ _ _ [(2, .bool false),(55, .int .i64 ((G:Nat):Int)),(54, .int .i64 ((a.ay.ls.length:Nat):Int)),(53, .slice a.ay.A a.ay.ls.length a.ay.c),(52, .pointer (some ⟨y,1,none⟩)),(51, .bool (!U)),(50, .bool (!U)),(49, .bool U),(48, .int .i64 ((a.ay.ls.length:Nat):Int)),(47, .slice a.ay.A a.ay.ls.length a.ay.c),(46, .pointer (some ⟨y,1,none⟩)),(45, .bool (decide (((a.av:Nat):Int)≤((L.av:Nat):Int)))),(44, .bool (decide (((a.av:Nat):Int)≤((L.av:Nat):Int)))),(43, .bool (decide (((a.av:Nat):Int)≤((L.av:Nat):Int)))),(42, .int .u64 ((L.av:Nat):Int)),(41, .pointer (some ⟨ab f,ao f+(b - 1) *2,none⟩)),(40, .pointer (some ⟨ab f,ao f+(b - 1) *2,none⟩)),(39, .int .i64 ((b - 1:Nat):Int)),(38, .int .i64 ((b:Nat):Int)),(37, .slice f d.az.ls.length h),(36, .pointer (some ⟨s,6,none⟩)),(35, .int .u64 ((a.av:Nat):Int)),(34, .pointer (some ⟨y,0,none⟩)),(33, .bool (decide (((b:Nat):Int) > 0))),(32, .bool (decide (((b:Nat):Int) > 0))),(31, .int .i64 ((b:Nat):Int)),(3, .int .i64 ((b:Nat):Int)),(4, .pointer (some ⟨y,0,none⟩)),(30, .agg (aM.cells a).toArray),(29, .pointer (some ⟨ab f,ao f+b *2,none⟩)),(28, .int .i64 ((b:Nat):Int)),(27, .bool (decide (((b:Nat):Int) < ((d.az.ls.length:Nat):Int)))),(26, .int .i64 ((b:Nat):Int)),(25, .int .i64 ((d.az.ls.length:Nat):Int)),(24, .slice f d.az.ls.length h),(1, .pointer (some ⟨s,0,none⟩))] _ _
 obtain⟨aT,gK,aU⟩:=aS.1 dX
 refine sr (Kz (.bool (decide (((G:Nat):Int) < ((a.ay.ls.length:Nat):Int)))) (nt (BS ?_)))
 by_cases dY:((G:Nat):Int) < ((a.ay.ls.length:Nat):Int)
 obtain⟨ah,bD⟩:=bU (ls:=a.ay.ls) (i:=G) bq.len (by decide) (aT.ro (t _ (List.mem_of_getElem? K)).1) (by first | omega | (simp; done) | (simp; omega))
 have bE:=drop_at bD
 refine jT (dT dY) (sk (BS (bo (sr (fw (.pointer (some ⟨ab a.ay.A,ao a.ay.A+G *6,none⟩)) (Ch (rF) rfl rfl ((aT.ro (t _ (List.mem_of_getElem? K)).1).addr (i:=G) (by omega)) (by omega)) (fw (.agg (bq.cells ah).toArray) (Cc rfl (Cu (cs:=(bq.cells ah)) Tryz.isAgg74 Tryz.sizeOf74 ((aT.ro (t _ (List.mem_of_getElem? K)).1).elem bq.len bD (by decide)))) ?_))))))
 refine dB [.int .i64 0, .string ⟨List.toArray ([])⟩, .string ⟨List.toArray ([])⟩, .string ⟨List.toArray ([])⟩, .string ⟨List.toArray ([])⟩, .int .i64 0] 74 aT ?_
 intro iE iF fU
 refine dw (bq.cells ah) 0 fU Tryz.sizeOf74 ?_
 intro iG dZ
 refine ns (La (bq.cells ah) dZ 0 Tryz.isAgg74 Tryz.sizeOf74 ?_)
 obtain⟨aV,aW⟩:∃ q,fC ah=q:=⟨_,rfl⟩
 obtain⟨iH,d9,gL,ed,gM⟩:=Ck dZ
 refine cl Tryz.call84 (p9 _ _ ah aV d9 aW) ?_
 rintro _ iI ⟨rfl,ek,aY⟩
 have eu:=ed _ _ ek
 replace aY: ¬ (aV=0)∨(1≤ah.aI∧ah.aI≤5):=aY
 refine fw (.bool (decide (¬ (aV=0)))) (Cy (e:= !(decide (aV=0))) yk decide_not.symm) (nt ?_)
 by_cases aG:aV=0
 refine jF (dF (EN aG)) (CW (bN (Ca (BR (fw (.int .i64 ((G+1:Nat):Int)) (Ci (e:=IntKind.i64.wrap (((G:Nat):Int)+1)) yk (by rw [EL _ (by omega)]; omega)) (Mz rfl (Cf ?_)))))))
 have eB:=eu.pk [1,2]
 exact Cm (G+1) ⟨rfl,rfl,rfl,rfl,rfl,rfl,rfl,rfl,rfl,rfl,rfl,rfl,rfl,rfl,rfl,rfl,rfl,rfl,rfl,rfl,rfl,rfl,rfl,rfl,rfl,rfl,rfl,rfl,rfl,rfl,rfl,rfl,rfl,rfl,rfl,rfl,trivial⟩ (aS.2 ⟨eB,by omega,et (aU) (et (congrArg (fun q=>bT b q) bE) (et (ag aW) (ip aG)))⟩) (by show a.ay.ls.length - (G+1) < a.ay.ls.length - G; omega)
 refine jT (dT aG) (sr (An rfl (rt (bR (tR (tR (bR (bR (tR (tR (bR (tR (rs ?_)))))))))))))
 have eD:=eu.pk []
 obtain rfl:_=false:=hr.symm.trans (et (iN o) (et (iN P) (ic (et (N) (et (congrArg (fun q=>bW d q b) S) (et (ip p) (et (ag (cu aD)) (et (iN F) (et (ag aF) (et (ip aO) (nK (et (aU) (et (congrArg (fun q=>bT b q) bE) (et (ag aW) (iN aG)))))))))))))))
 exact⟨rfl,eD⟩
 refine jF (dF dY) (Wp.exit (Cb ?_))
 have cz:bT b a.ay.ls=Sum.inl ():=et (aU) (et (congrArg (fun q=>bT b q) (bM (ls:=a.ay.ls) (i:=G) (by omega))) rfl)
 refine Cb (Cn (bN (Ca (BR (fw (.int .i64 ((b+1:Nat):Int)) (Ci (e:=IntKind.i64.wrap (((b:Nat):Int)+1)) yk (by rw [EL _ (by omega)]; omega)) (Mz rfl (Cf ?_)))))))
 have eF:=aT.pk [1]
 exact Cm (b+1) ⟨rfl,rfl,rfl,rfl,rfl,trivial⟩ (aC.2 ⟨eF,by omega,et (N) (et (congrArg (fun q=>bW d q b) S) (et (ip p) (et (ag (cu aD)) (et (iN F) (et (ag aF) (et (ip aO) (pO cz)))))))⟩) (by show d.az.ls.length - (b+1) < d.az.ls.length - b; omega)
 refine jT (cn aO) (sr (An rfl (rt (tR (bR (tR (tR (bR (tR (rs ?_))))))))))
 have eG:=bz.pk []
 obtain rfl:_=false:=hr.symm.trans (et (iN o) (et (iN P) (ic (et (N) (et (congrArg (fun q=>bW d q b) S) (et (ip p) (et (ag (cu aD)) (et (iN F) (et (ag aF) (jE aO))))))))))
 exact⟨rfl,eG⟩
 refine BP (rs:= []) 3 rfl rfl rfl (dF p) (by kernel_rfl) (BP (rs:= []) 4 rfl rfl rfl (dF p) (by kernel_rfl) (BP (rs:= []) 5 rfl rfl rfl (dF p) (by kernel_rfl) (BP (rs:= []) 6 rfl rfl rfl (dF p) (by kernel_rfl) (BP (rs:= []) 7 rfl rfl rfl (dF p) (by kernel_rfl) (BP (rs:= []) 8 rfl rfl rfl (dF p) (by kernel_rfl) (BP (rs:= []) 9 rfl rfl rfl (dF p) (by kernel_rfl) (BP (rs:= []) 10 rfl rfl rfl (dF p) (by kernel_rfl) (BP (rs:= []) 11 rfl rfl rfl (dF p) (by kernel_rfl) (BP (rs:= []) 12 rfl rfl rfl (dF p) (by kernel_rfl) (GX.take (v:= .bool false) (rs:= []) 13 rfl (by kernel_rfl) (fun _ _=>BQ rfl (dF p) rfl) (GX.take (v:= .bool false) (rs:= []) 14 rfl (by kernel_rfl) (fun _ _=>BX rfl) (BU (v:= .pointer (some ⟨y,1,none⟩)) (rs:= []) 15 rfl rfl rfl rfl (by kernel_rfl) (fun _ _=>yk) (BU (v:= .slice a.ay.A a.ay.ls.length a.ay.c) (rs:= []) 16 rfl rfl rfl rfl (by kernel_rfl) (fun _ ⟨_,H9⟩=>Cc rfl (bi.one Tryz.isAgg64 (Cv (H9.cls (i:=0) rfl) rfl))) (BU (v:= .int .i64 ((a.ay.ls.length:Nat):Int)) (rs:= []) 17 rfl rfl rfl rfl (by kernel_rfl) (fun _ _=>yk) ?_))))))))))))))
 obtain⟨I,X⟩:∃ q,cZ ((a.ay.ls.length:Nat):Int) 24=q:=⟨_,rfl⟩
 obtain⟨gN,cB,fV,cK,fZ⟩:=Ck aN
 refine C8 18 rfl rfl rfl rfl (by kernel_rfl) (Cq Tryz.call38 rfl (jB _ _ ((a.ay.ls.length:Nat):Int) 24 I cB X) ?_)
 rintro _ gP ⟨rfl,cO⟩
 have aH:=cK _ _ cO
 refine⟨.inr ⟨_,aH⟩, ?_⟩
 refine BU (v:= .bool (!I)) (rs:= []) 19 rfl rfl rfl rfl (by kernel_rfl) (fun _ _=>yk) (GX.take (v:= .bool (!I)) (rs:= []) 20 rfl (by kernel_rfl) (fun _ _=>BQ rfl rfl rfl) (Cx (by kernel_rfl) (Ca ?_)))
 rcases EO (I) with V | V
 refine jF (cn V) (sk (sr (Kz (.pointer (some ⟨y,1,none⟩)) (Lz (.slice a.ay.A a.ay.ls.length a.ay.c) aH 0 Tryz.isAgg64 (Kz (.int .i64 ((a.ay.ls.length:Nat):Int)) (Mn rfl (bo ?_)))))))
 have eH:=aH.pk [0,1]
 obtain⟨bF,df⟩:∃ q:Nat→World→Prop,q=fun(i:Nat) w'=>Own w D w' [blk y (aM.cells a) 66,blk s (aX d r n f h j l) 31]∧(i≤a.ay.ls.length∧gH b a.ay.ls=gH b (List.drop i a.ay.ls)):=⟨_,rfl⟩
 have ax:∀ {u:Nat} {w':World},bF u w'↔Own w D w' [blk y (aM.cells a) 66,blk s (aX d r n f h j l) 31]∧u≤a.ay.ls.length∧gH b a.ay.ls=gH b (List.drop u a.ay.ls):=by intros; subst df; exact Iff.rfl
 refine Wp.loop (fun i:Nat=> [(2, .bool false),(55, .int .i64 ((i:Nat):Int)),(54, .int .i64 ((a.ay.ls.length:Nat):Int)),(53, .slice a.ay.A a.ay.ls.length a.ay.c),(52, .pointer (some ⟨y,1,none⟩)),(51, .bool (!I)),(50, .bool (!I)),(49, .bool I),(48, .int .i64 ((a.ay.ls.length:Nat):Int)),(47, .slice a.ay.A a.ay.ls.length a.ay.c),(46, .pointer (some ⟨y,1,none⟩)),(45, .bool false),(44, .bool false),(43,undef),(42,undef),(41,undef),(40,undef),(39,undef),(38,undef),(37,undef),(36,undef),(35,undef),(34,undef),(33, .bool (decide (((b:Nat):Int) > 0))),(32, .bool (decide (((b:Nat):Int) > 0))),(31, .int .i64 ((b:Nat):Int)),(3, .int .i64 ((b:Nat):Int)),(4, .pointer (some ⟨y,0,none⟩)),(30, .agg (aM.cells a).toArray),(29, .pointer (some ⟨ab f,ao f+b *2,none⟩)),(28, .int .i64 ((b:Nat):Int)),(27, .bool (decide (((b:Nat):Int) < ((d.az.ls.length:Nat):Int)))),(26, .int .i64 ((b:Nat):Int)),(25, .int .i64 ((d.az.ls.length:Nat):Int)),(24, .slice f d.az.ls.length h),(1, .pointer (some ⟨s,0,none⟩))]) bF (fun i=>a.ay.ls.length - i) 0 ⟨rfl,rfl,rfl,rfl,rfl,rfl,rfl,rfl,rfl,rfl,rfl,rfl,rfl,rfl,rfl,rfl,rfl,rfl,rfl,rfl,rfl,rfl,rfl,rfl,rfl,rfl,rfl,rfl,rfl,rfl,rfl,rfl,rfl,rfl,rfl,rfl,trivial⟩ (ax.2 ⟨eH,by omega,rfl⟩) ?_
 rintro u gQ dh
 show Wp _ _ _ [(2, .bool false),(55, .int .i64 ((u:Nat):Int)),(54, .int .i64 ((a.ay.ls.length:Nat):Int)),(53, .slice a.ay.A a.ay.ls.length a.ay.c),(52, .pointer (some ⟨y,1,none⟩)),(51, .bool (!I)),(50, .bool (!I)),(49, .bool I),(48, .int .i64 ((a.ay.ls.length:Nat):Int)),(47, .slice a.ay.A a.ay.ls.length a.ay.c),(46, .pointer (some ⟨y,1,none⟩)),(45, .bool false),(44, .bool false),(43,undef),(42,undef),(41,undef),(40,undef),(39,undef),(38,undef),(37,undef),(36,undef),(35,undef),(34,undef),(33, .bool (decide (((b:Nat):Int) > 0))),(32, .bool (decide (((b:Nat):Int) > 0))),(31, .int .i64 ((b:Nat):Int)),(3, .int .i64 ((b:Nat):Int)),(4, .pointer (some ⟨y,0,none⟩)),(30, .agg (aM.cells a).toArray),(29, .pointer (some ⟨ab f,ao f+b *2,none⟩)),(28, .int .i64 ((b:Nat):Int)),(27, .bool (decide (((b:Nat):Int) < ((d.az.ls.length:Nat):Int)))),(26, .int .i64 ((b:Nat):Int)),(25, .int .i64 ((d.az.ls.length:Nat):Int)),(24, .slice f d.az.ls.length h),(1, .pointer (some ⟨s,0,none⟩))] _ _
 obtain⟨ai,gm,ay⟩:=ax.1 dh
 refine sr (Kz (.bool (decide (((u:Nat):Int) < ((a.ay.ls.length:Nat):Int)))) (nt (BS ?_)))
 by_cases bH:((u:Nat):Int) < ((a.ay.ls.length:Nat):Int)
 obtain⟨O,aZ⟩:=bU (ls:=a.ay.ls) (i:=u) bq.len (by decide) (ai.ro (t _ (List.mem_of_getElem? K)).1) (by first | omega | (simp; done) | (simp; omega))
 have bf:=drop_at aZ
 refine jT (dT bH) (sk (BS (bo (sr (fw (.pointer (some ⟨ab a.ay.A,ao a.ay.A+u *6,none⟩)) (Ch (rF) rfl rfl ((ai.ro (t _ (List.mem_of_getElem? K)).1).addr (i:=u) (by omega)) (by omega)) (fw (.agg (bq.cells O).toArray) (Cc rfl (Cu (cs:=(bq.cells O)) Tryz.isAgg74 Tryz.sizeOf74 ((ai.ro (t _ (List.mem_of_getElem? K)).1).elem bq.len aZ (by decide)))) ?_))))))
 refine dB [.int .i64 0, .string ⟨List.toArray ([])⟩, .string ⟨List.toArray ([])⟩, .string ⟨List.toArray ([])⟩, .string ⟨List.toArray ([])⟩, .int .i64 0] 74 ai ?_
 intro gT gU eO
 refine dw (bq.cells O) 0 eO Tryz.sizeOf74 ?_
 intro gV bI
 refine ns (La (bq.cells O) bI 0 Tryz.isAgg74 Tryz.sizeOf74 ?_)
 obtain⟨aj,az⟩:∃ q,fC O=q:=⟨_,rfl⟩
 obtain⟨gW,di,gp,dn,gq⟩:=Ck bI
 refine cl Tryz.call84 (p9 _ _ O aj di az) ?_
 rintro _ gX ⟨rfl,dx,bg⟩
 have bJ:=dn _ _ dx
 replace bg: ¬ (aj=0)∨(1≤O.aI∧O.aI≤5):=bg
 refine fw (.bool (decide (¬ (aj=0)))) (Cy (e:= !(decide (aj=0))) yk decide_not.symm) (nt ?_)
 by_cases aI:aj=0
 refine jF (dF (EN aI)) (CW (bN (Ca (BR (fw (.int .i64 ((u+1:Nat):Int)) (Ci (e:=IntKind.i64.wrap (((u:Nat):Int)+1)) yk (by rw [EL _ (by omega)]; omega)) (Mz rfl (Cf ?_)))))))
 have eP:=bJ.pk [1,2]
 exact Cm (u+1) ⟨rfl,rfl,rfl,rfl,rfl,rfl,rfl,rfl,rfl,rfl,rfl,rfl,rfl,rfl,rfl,rfl,rfl,rfl,rfl,rfl,rfl,rfl,rfl,rfl,rfl,rfl,rfl,rfl,rfl,rfl,rfl,rfl,rfl,rfl,rfl,rfl,trivial⟩ (ax.2 ⟨eP,by omega,et (ay) (et (congrArg (fun q=>gH b q) bf) (et (ag az) (ip aI)))⟩) (by show a.ay.ls.length - (u+1) < a.ay.ls.length - u; omega)
 refine jT (dT aI) (sr (An rfl (rt (bR (tR (tR (bR (bR (tR (tR (bR (tR (rs ?_)))))))))))))
 have eQ:=bJ.pk []
 obtain rfl:_=false:=hr.symm.trans (et (iN o) (et (iN P) (ic (et (N) (et (congrArg (fun q=>bW d q b) S) (et (iN p) (et (ag X) (et (ip V) (nK (et (ay) (et (congrArg (fun q=>gH b q) bf) (et (ag az) (iN aI)))))))))))))
 exact⟨rfl,eQ⟩
 refine jF (dF bH) (Wp.exit (Cb ?_))
 have dz:gH b a.ay.ls=Sum.inl ():=et (ay) (et (congrArg (fun q=>gH b q) (bM (ls:=a.ay.ls) (i:=u) (by omega))) rfl)
 refine Cb (Cn (bN (Ca (BR (fw (.int .i64 ((b+1:Nat):Int)) (Ci (e:=IntKind.i64.wrap (((b:Nat):Int)+1)) yk (by rw [EL _ (by omega)]; omega)) (Mz rfl (Cf ?_)))))))
 have eT:=ai.pk [1]
 exact Cm (b+1) ⟨rfl,rfl,rfl,rfl,rfl,trivial⟩ (aC.2 ⟨eT,by omega,et (N) (et (congrArg (fun q=>bW d q b) S) (et (iN p) (et (ag X) (et (ip V) (pO dz)))))⟩) (by show d.az.ls.length - (b+1) < d.az.ls.length - b; omega)
 refine jT (cn V) (sr (An rfl (rt (tR (bR (tR (tR (bR (tR (rs ?_))))))))))
 have eU:=aH.pk []
 obtain rfl:_=false:=hr.symm.trans (et (iN o) (et (iN P) (ic (et (N) (et (congrArg (fun q=>bW d q b) S) (et (iN p) (et (ag X) (jE V))))))))
 exact⟨rfl,eU⟩
 refine jF (dF dP) (Wp.exit (Cb ?_))
 have Y:bW d d.az.ls 0=Sum.inl ():=et (N) (et (congrArg (fun q=>bW d q b) (bM (ls:=d.az.ls) (i:=b) (by omega))) rfl)
 refine Cb (Cn (Ca (BS (sr (Kz (.pointer (some ⟨s,7,none⟩)) (Lz (.slice j d.ah.ls.length l) aK 0 Tryz.isAgg25 (Kz (.int .i64 ((d.ah.ls.length:Nat):Int)) (Mn rfl (bo ?_)))))))))
 have eX:=aK.pk [0]
 obtain⟨bK,dA⟩:∃ q:Nat→World→Prop,q=fun(i:Nat) w'=>Own w D w' [blk s (aX d r n f h j l) 31]∧(i≤d.ah.ls.length∧fe d d.ah.ls 0=fe d (List.drop i d.ah.ls) i):=⟨_,rfl⟩
 have Z:∀ {g:Nat} {w':World},bK g w'↔Own w D w' [blk s (aX d r n f h j l) 31]∧g≤d.ah.ls.length∧fe d d.ah.ls 0=fe d (List.drop g d.ah.ls) g:=by intros; subst dA; exact Iff.rfl
 refine Wp.loop (fun i:Nat=> [(2, .bool false),(67, .int .i64 ((i:Nat):Int)),(66, .int .i64 ((d.ah.ls.length:Nat):Int)),(65, .slice j d.ah.ls.length l),(1, .pointer (some ⟨s,0,none⟩))]) bK (fun i=>d.ah.ls.length - i) 0 ⟨rfl,rfl,rfl,rfl,rfl,trivial⟩ (Z.2 ⟨eX,by omega,rfl⟩) ?_
 rintro g gY dC
 show Wp _ _ _ [(2, .bool false),(67, .int .i64 ((g:Nat):Int)),(66, .int .i64 ((d.ah.ls.length:Nat):Int)),(65, .slice j d.ah.ls.length l),(1, .pointer (some ⟨s,0,none⟩))] _ _
 obtain⟨z,gu,M⟩:=Z.1 dC
 refine sr (Kz (.bool (decide (((g:Nat):Int) < ((d.ah.ls.length:Nat):Int)))) (nt (BS ?_)))
 by_cases bL:((g:Nat):Int) < ((d.ah.ls.length:Nat):Int)
 obtain⟨C,bn⟩:=bU (ls:=d.ah.ls) (i:=g) fu (by decide) (z.ro B) (by first | omega | (simp; done) | (simp; omega))
 have T:=drop_at bn
 refine jT (dT bL) (sk (BS (bo (sr (Mz rfl (fw (.pointer (some ⟨ab j,ao j+g *1,none⟩)) (Ch (jY) rfl rfl ((z.ro B).addr (i:=g) (by omega)) (by omega)) (fw (.int .u64 ((C:Nat):Int)) (Cc rfl (bi.one Tryz.isAgg22 (((z.ro B).elem fu bn (by decide)).at_ (k:=0) rfl))) (Az rfl (Ar rfl (Mz rfl (Kz (.bool (decide (((g:Nat):Int) > 0))) (Mz rfl ?_))))))))))))
 by_cases m:((g:Nat):Int) > 0
 refine gw (.int .u64 ((C:Nat):Int)) (dT m) (BX rfl) (Gz (.pointer (some ⟨s,7,none⟩)) (dT m) (Gl (.slice j d.ah.ls.length l) (dT m) z 0 Tryz.isAgg25 (gw (.int .i64 ((g:Nat):Int)) (dT m) (BX rfl) (gw (.int .i64 ((g - 1:Nat):Int)) (dT m) (Ci (e:=IntKind.i64.wrap (((g:Nat):Int) - 1)) yk (by rw [EL _ (by omega)]; omega)) ?_))))
 obtain⟨aJ,aa⟩:=bU (ls:=d.ah.ls) (i:=g - 1) fu (by decide) (z.ro B) (by first | omega | (simp; done) | (simp; omega))
 refine gw (.pointer (some ⟨ab j,ao j+(g - 1) *1,none⟩)) (dT m) (Ch (jY) rfl rfl ((z.ro B).addr (i:=g - 1) (by omega)) (by omega)) (gw (.int .u64 ((aJ:Nat):Int)) (dT m) (Cc rfl (bi.one Tryz.isAgg22 (((z.ro B).elem fu aa (by decide)).at_ (k:=0) rfl))) (Gz (.bool (decide (((C:Nat):Int)≤((aJ:Nat):Int)))) (dT m) (fw (.bool (decide (((C:Nat):Int)≤((aJ:Nat):Int)))) (BZ rfl (dT m) rfl) (Mz rfl ?_))))
 by_cases E:((C:Nat):Int)≤((aJ:Nat):Int)
 refine Sz (dT E) (Sz (dT E) (Sz (dT E) (fw (.bool true) (BZ rfl (dT E) rfl) (nt (jt (sr (An rfl (rt (bR (tR (tR (bR (tR (rs ?_))))))))))))))
 have eY:=z.pk []
 obtain rfl:_=false:=hr.symm.trans (et (iN o) (et (iN P) (et (mF Y) (ic (et (M) (et (congrArg (fun q=>fe d q g) T) (et (ip m) (et (ag (cu aa)) (ip E)))))))))
 exact⟨rfl,eY⟩
 refine Ga (aX d r n f h j l) (dF E) z 0 Tryz.isAgg31 Tryz.sizeOf31 (gw (.int .u64 ((C:Nat):Int)) (dF E) (BX rfl) ?_)
 obtain⟨bu,aA⟩:∃ q,lV d C=q:=⟨_,rfl⟩
 obtain⟨gZ,dD,ae,dG,gy⟩:=Ck z
 refine nT (dF E) Tryz.call85 (oP _ _ d r d.ai.ls.length n f d.az.ls.length h Q j d.ah.ls.length l C bu dD rfl (ae _ aP) (show d.ai.ls.length≤n∧d.ai.ls.length≤9223372036854775807 from by omega) R rfl (ae _ J) (show d.az.ls.length≤h∧d.az.ls.length≤9223372036854775807 from by omega) (fun x9 h9=>⟨ae _ (t x9 h9).1,(t x9 h9).2⟩) rfl (ae _ B) (show d.ah.ls.length≤l∧d.ah.ls.length≤9223372036854775807 from by omega) aA) ?_
 rintro _ ib ⟨rfl,dH⟩
 have bO:=dG _ _ dH
 refine fw (.bool bu) (BQ rfl (dF E) rfl) (nt ?_)
 rcases EO (bu) with ak | ak
 refine jT ak (sr (An rfl (rt (bR (tR (tR (bR (tR (rs ?_)))))))))
 have fq:=bO.pk []
 obtain rfl:_=false:=hr.symm.trans (et (iN o) (et (iN P) (et (mF Y) (ic (et (M) (et (congrArg (fun q=>fe d q g) T) (et (ip m) (et (ag (cu aa)) (et (iN E) (et (ag aA) (ip ak)))))))))))
 exact⟨rfl,fq⟩
 refine jF ak (CW (bN (Ca (BR (fw (.int .i64 ((g+1:Nat):Int)) (Ci (e:=IntKind.i64.wrap (((g:Nat):Int)+1)) yk (by rw [EL _ (by omega)]; omega)) (Mz rfl (Cf ?_)))))))
 have fA:=bO.pk [0]
 exact Cm (g+1) ⟨rfl,rfl,rfl,rfl,rfl,trivial⟩ (Z.2 ⟨fA,by omega,et (M) (et (congrArg (fun q=>fe d q g) T) (et (ip m) (et (ag (cu aa)) (et (iN E) (et (ag aA) (jE ak))))))⟩) (by show d.ah.ls.length - (g+1) < d.ah.ls.length - g; omega)
 refine Sz (dF m) (Sz (dF m) (Sz (dF m) (Sz (dF m) (Sz (dF m) (Sz (dF m) (Sz (dF m) (Sz (dF m) (fw (.bool false) (BQ rfl (dF m) rfl) (Mz rfl (Ga (aX d r n f h j l) rfl z 0 Tryz.isAgg31 Tryz.sizeOf31 (gw (.int .u64 ((C:Nat):Int)) rfl (BX rfl) ?_)))))))))))
 obtain⟨bv,aB⟩:∃ q,lV d C=q:=⟨_,rfl⟩
 obtain⟨ig,dI,af,dJ,gz⟩:=Ck z
 refine nT rfl Tryz.call85 (oP _ _ d r d.ai.ls.length n f d.az.ls.length h Q j d.ah.ls.length l C bv dI rfl (af _ aP) (show d.ai.ls.length≤n∧d.ai.ls.length≤9223372036854775807 from by omega) R rfl (af _ J) (show d.az.ls.length≤h∧d.az.ls.length≤9223372036854775807 from by omega) (fun x9 h9=>⟨af _ (t x9 h9).1,(t x9 h9).2⟩) rfl (af _ B) (show d.ah.ls.length≤l∧d.ah.ls.length≤9223372036854775807 from by omega) aB) ?_
 rintro _ ik ⟨rfl,dK⟩
 have bS:=dJ _ _ dK
 refine fw (.bool bv) (BQ rfl rfl rfl) (nt ?_)
 rcases EO (bv) with au | au
 refine jT au (sr (An rfl (rt (bR (tR (tR (bR (tR (rs ?_)))))))))
 have fB:=bS.pk []
 obtain rfl:_=false:=hr.symm.trans (et (iN o) (et (iN P) (et (mF Y) (ic (et (M) (et (congrArg (fun q=>fe d q g) T) (et (iN m) (et (ag aB) (ip au)))))))))
 exact⟨rfl,fB⟩
 refine jF au (CW (bN (Ca (BR (fw (.int .i64 ((g+1:Nat):Int)) (Ci (e:=IntKind.i64.wrap (((g:Nat):Int)+1)) yk (by rw [EL _ (by omega)]; omega)) (Mz rfl (Cf ?_)))))))
 have fD:=bS.pk [0]
 exact Cm (g+1) ⟨rfl,rfl,rfl,rfl,rfl,trivial⟩ (Z.2 ⟨fD,by omega,et (M) (et (congrArg (fun q=>fe d q g) T) (et (iN m) (et (ag aB) (jE au))))⟩) (by show d.ah.ls.length - (g+1) < d.ah.ls.length - g; omega)
 refine jF (dF bL) (Wp.exit (Cb ?_))
 have dL:fe d d.ah.ls 0=Sum.inl ():=et (M) (et (congrArg (fun q=>fe d q g) (bM (ls:=d.ah.ls) (i:=g) (by omega))) rfl)
 refine Cb (Cn (Ca (sr (An rfl (rt (rs ?_))))))
 have fE:=z.pk []
 obtain rfl:_=true:=hr.symm.trans (et (iN o) (et (iN P) (et (mF Y) (mF dL))))
 exact⟨rfl,fE⟩
def j6 (a:bQ):Bool:=
 if((a.aS.aZ:Nat):Int)=0 then if(((a.aS.aZ:Nat):Int)=0)∧(((a.aS.bB:Nat):Int)=0)∧(((a.aS.cz:Nat):Int)=0)∧((a.aS.aP.aK=([]))∧(a.aS.aP.aO=([]))) then if((a.bS:Nat):Int)=0 then if(a.bf.aK=([]))∧(a.bf.aO=([])) then bnd (dK a.aS.aP) fun d=>if d=0 then bnd (dK a.bf) fun e=>decide (e=0) else false else false else bnd (dK a.aS.aP) fun f=>if f=0 then bnd (dK a.bf) fun g=>decide (g=0) else false else false else if((a.bS:Nat):Int)=0 then if(a.bf.aK=([]))∧(a.bf.aO=([])) then bnd (dK a.aS.aP) fun h=>if h=0 then bnd (dK a.bf) fun i=>decide (i=0) else false else false else bnd (dK a.aS.aP) fun b=>if b=0 then bnd (dK a.bf) fun c=>decide (c=0) else false
set_option maxHeartbeats 1000000 in
theorem qX (w:World) (D:Nat→Prop) (a:bQ) (o:Option Addr) (Q p:Nat) (r:Option Addr) (R s:Nat) (C:List aM) (t:Option Addr) (S y:Nat) (r0:Bool) (H:Own w D w []) (W:Q=a.ai.ls.length) (bg:Ro w D fun w'=>bG w' 2 o a.ai.ls.length (List.flatMap aL.cells a.ai.ls)) (bn:a.ai.ls.length≤p∧a.ai.ls.length≤9223372036854775807) (X:List.map CE C=a.az.ls) (Y:R=a.az.ls.length) (bu:Ro w D fun w'=>bG w' 2 r a.az.ls.length (List.flatMap aM.cells C)) (bv:a.az.ls.length≤s∧a.az.ls.length≤9223372036854775807) (bz:∀ x ∈ C,Ro w D (fun w'=>bG w' 6 x.ay.A x.ay.ls.length (List.flatMap bq.cells x.ay.ls))∧(x.ay.ls.length≤x.ay.c∧x.ay.ls.length≤9223372036854775807)) (Z:S=a.ah.ls.length) (bA:Ro w D fun w'=>bG w' 1 t a.ah.ls.length (List.flatMap (eN .u64) a.ah.ls)) (bB:a.ah.ls.length≤y∧a.ah.ls.length≤9223372036854775807) (dx:a.ai.ls.length≤140737488355328∧a.az.ls.length≤140737488355328∧a.ah.ls.length≤140737488355328) (hr:j6 a=r0):
    Calls Tryz.prog 41 #[.agg (bZ a.cO a.aj a.aR a.aH a.aZ o Q p r R s t S y a.iq a.bS a.bf.aK a.bf.aO a.aS.aZ a.aS.bB a.aS.cz a.aS.aP.aK a.aS.aP.aO).toArray] w (dE fun v w'=>v= .bool r0∧Own w D w' []):=by
 subst W Y Z
 have hdl0x1:=dm X
 refine Ce (args:= [.agg (aX a o p r s t y).toArray]) Tryz.func41 rfl rfl rfl ?_
 show Wp _ _ _ [(0, .agg (aX a o p r s t y).toArray)] _ _
 refine sr ?_
 refine dB (aX a o p r s t y) 31 H ?_
 intro f dz h
 refine An rfl (BS (sr (Kz (.pointer (some ⟨f,12,none⟩)) (Kz (.pointer (some ⟨f,12,none⟩)) (Lz (.int .u64 ((a.aS.aZ:Nat):Int)) h 0 Tryz.isAgg22 (Kz (.bool (decide (((a.aS.aZ:Nat):Int)=0))) (Mz rfl ?_)))))))
 by_cases b:((a.aS.aZ:Nat):Int)=0
 refine Gz (.pointer (some ⟨f,12,none⟩)) (dT b) (Ga (gp.cells a.aS) (dT b) h 0 Tryz.isAgg29 Tryz.sizeOf29 (Gz (.agg #[.int .u64 0, .int .u64 0, .int .u64 0, .string ⟨List.toArray ([])⟩, .string ⟨List.toArray ([])⟩]) (dT b) (gw (.bool (decide (¬ ((((a.aS.aZ:Nat):Int)=0)∧(((a.aS.bB:Nat):Int)=0)∧(((a.aS.cz:Nat):Int)=0)∧((a.aS.aP.aK=([]))∧(a.aS.aP.aO=([]))))))) (dT b) (Cy (e:= !(decide ((((a.aS.aZ:Nat):Int)=0)∧(((a.aS.bB:Nat):Int)=0)∧(((a.aS.cz:Nat):Int)=0)∧((a.aS.aP.aK=([]))∧(a.aS.aP.aO=([])))))) (Dh rfl rfl (by kernel_rfl) rfl (gL.struct Tryz.underlying29 (by kernel_rfl) (Dc (fF.cons (u:= .int .u64 ((a.aS.aZ:Nat):Int)) (v:= .int .u64 0) (by decide) (fun _=>by kernel_rfl) (fun _=>by kernel_rfl) ((gL.int Tryz.underlying22).up (by decide)) (fF.cons (u:= .int .u64 ((a.aS.bB:Nat):Int)) (v:= .int .u64 0) (by decide) (fun _=>by kernel_rfl) (fun _=>by kernel_rfl) ((gL.int Tryz.underlying22).up (by decide)) (fF.cons (u:= .int .u64 ((a.aS.cz:Nat):Int)) (v:= .int .u64 0) (by decide) (fun _=>by kernel_rfl) (fun _=>by kernel_rfl) ((gL.int Tryz.underlying22).up (by decide)) (fF.cons (u:= .agg (bF.cells a.aS.aP).toArray) (v:= .agg #[.string ⟨List.toArray ([])⟩, .string ⟨List.toArray ([])⟩]) (by decide) (fun _=>by kernel_rfl) (fun _=>by kernel_rfl) (gL.struct Tryz.underlying27 (by kernel_rfl) (Dc (fF.cons (u:= .string ⟨List.toArray a.aS.aP.aK⟩) (v:= .string ⟨List.toArray ([])⟩) (by decide) (fun _=>by kernel_rfl) (fun _=>by kernel_rfl) (gL.string Tryz.underlying9) (fF.cons (u:= .string ⟨List.toArray a.aS.aP.aO⟩) (v:= .string ⟨List.toArray ([])⟩) (by decide) (fun _=>by kernel_rfl) (fun _=>by kernel_rfl) (gL.string Tryz.underlying9) (fF.nil.up (EM _)))) ((congrArg (decide (a.aS.aP.aK=([])) && ·) lm).trans fE))) (fF.nil.up (EM _)))))) ((congrArg (decide (((a.aS.aZ:Nat):Int)=0) && ·) ((congrArg (decide (((a.aS.bB:Nat):Int)=0) && ·) ((congrArg (decide (((a.aS.cz:Nat):Int)=0) && ·) lm).trans fE)).trans fE)).trans fE)))) decide_not.symm) (fw (.bool (decide (¬ ((((a.aS.aZ:Nat):Int)=0)∧(((a.aS.bB:Nat):Int)=0)∧(((a.aS.cz:Nat):Int)=0)∧((a.aS.aP.aK=([]))∧(a.aS.aP.aO=([]))))))) (BZ rfl (dT b) rfl) (Mz rfl ?_)))))
 by_cases d:(((a.aS.aZ:Nat):Int)=0)∧(((a.aS.bB:Nat):Int)=0)∧(((a.aS.cz:Nat):Int)=0)∧((a.aS.aP.aK=([]))∧(a.aS.aP.aO=([])))
 refine gw (.pointer (some ⟨f,9,none⟩)) (dF (EN d)) yk (gw (.int .u64 ((a.bS:Nat):Int)) (dF (EN d)) (Cc rfl (bi.one Tryz.isAgg22 (Cv (h.cls (i:=0) rfl) rfl))) (gw (.bool (decide (((a.bS:Nat):Int)=0))) (dF (EN d)) yk (gw (.bool (decide (((a.bS:Nat):Int)=0))) (dF (EN d)) (BX rfl) ?_)))
 by_cases j:((a.bS:Nat):Int)=0
 refine Gz (.pointer (some ⟨f,10,none⟩)) (dT j) (Ga (bF.cells a.bf) (dT j) h 0 Tryz.isAgg27 Tryz.sizeOf27 (Gz (.agg #[.string ⟨List.toArray ([])⟩, .string ⟨List.toArray ([])⟩]) (dT j) (gw (.bool (decide (¬ ((a.bf.aK=([]))∧(a.bf.aO=([])))))) (dT j) (Cy (e:= !(decide ((a.bf.aK=([]))∧(a.bf.aO=([]))))) (Dh rfl rfl (by kernel_rfl) rfl (gL.struct Tryz.underlying27 (by kernel_rfl) (Dc (fF.cons (u:= .string ⟨List.toArray a.bf.aK⟩) (v:= .string ⟨List.toArray ([])⟩) (by decide) (fun _=>by kernel_rfl) (fun _=>by kernel_rfl) (gL.string Tryz.underlying9) (fF.cons (u:= .string ⟨List.toArray a.bf.aO⟩) (v:= .string ⟨List.toArray ([])⟩) (by decide) (fun _=>by kernel_rfl) (fun _=>by kernel_rfl) (gL.string Tryz.underlying9) (fF.nil.up (EM _)))) ((congrArg (decide (a.bf.aK=([])) && ·) lm).trans fE)))) decide_not.symm) (gw (.bool (decide (¬ ((a.bf.aK=([]))∧(a.bf.aO=([])))))) (dF (EN d)) (BZ rfl (dT j) rfl) (fw (.bool (decide (¬ ((a.bf.aK=([]))∧(a.bf.aO=([])))))) (BQ rfl (dF (EN d)) rfl) (nt ?_))))))
 by_cases E:(a.bf.aK=([]))∧(a.bf.aO=([]))
 refine jF (dF (EN E)) (sk (sr (Kz (.pointer (some ⟨f,12,none⟩)) (Kz (.pointer (some ⟨f,15,none⟩)) (La (bF.cells a.aS.aP) h 0 Tryz.isAgg27 Tryz.sizeOf27 ?_)))))
 obtain⟨aa,F⟩:∃ q,dK a.aS.aP=q:=⟨_,rfl⟩
 obtain⟨dA,aA,bU,aB,bV⟩:=Ck h
 refine cl Tryz.call86 (jW _ _ a.aS.aP aa aA F) ?_
 rintro _ dC ⟨rfl,aC⟩
 have ae:=aB _ _ aC
 refine Kz (.bool (decide (aa=0))) (Mz rfl ?_)
 by_cases l:aa=0
 refine Gz (.pointer (some ⟨f,10,none⟩)) (dT l) (Ga (bF.cells a.bf) (dT l) ae 0 Tryz.isAgg27 Tryz.sizeOf27 ?_)
 obtain⟨N,T⟩:∃ q,dK a.bf=q:=⟨_,rfl⟩
 obtain⟨dD,aD,bW,aF,bX⟩:=Ck ae
 refine nT (dT l) Tryz.call86 (jW _ _ a.bf N aD T) ?_
 rintro _ dG ⟨rfl,aG⟩
 have bC:=aF _ _ aG
 refine Gz (.bool (decide (N=0))) (dT l) (fw (.bool (decide (N=0))) (BZ rfl (dT l) rfl) (An rfl (rt (rs ?_))))
 have bD:=bC.pk []
 obtain rfl:_=decide (N=0):=hr.symm.trans (et (ip b) (et (ip d) (et (ip j) (et (ip E) (et (ag F) (et (ip l) (ag T)))))))
 exact⟨rfl,bD⟩
 refine Sz (dF l) (Sz (dF l) (Sz (dF l) (Sz (dF l) (fw (.bool false) (BQ rfl (dF l) rfl) (An rfl (rt (rs ?_)))))))
 have bE:=ae.pk []
 obtain rfl:_=false:=hr.symm.trans (et (ip b) (et (ip d) (et (ip j) (et (ip E) (et (ag F) (iN l))))))
 exact⟨rfl,bE⟩
 refine jT (dT E) (sr (An rfl (rt (tR (rs ?_)))))
 have bH:=h.pk []
 obtain rfl:_=false:=hr.symm.trans (et (ip b) (et (ip d) (et (ip j) (iN E))))
 exact⟨rfl,bH⟩
 refine Sz (dF j) (Sz (dF j) (Sz (dF j) (Sz (dF j) (gw (.bool false) (dF (EN d)) (BQ rfl (dF j) rfl) (fw (.bool false) (BQ rfl (dF (EN d)) rfl) (nt (jf (sk (sr (Kz (.pointer (some ⟨f,12,none⟩)) (Kz (.pointer (some ⟨f,15,none⟩)) (La (bF.cells a.aS.aP) h 0 Tryz.isAgg27 Tryz.sizeOf27 ?_))))))))))))
 obtain⟨af,G⟩:∃ q,dK a.aS.aP=q:=⟨_,rfl⟩
 obtain⟨dH,aH,bY,aI,cu⟩:=Ck h
 refine cl Tryz.call86 (jW _ _ a.aS.aP af aH G) ?_
 rintro _ dI ⟨rfl,aJ⟩
 have ah:=aI _ _ aJ
 refine Kz (.bool (decide (af=0))) (Mz rfl ?_)
 by_cases m:af=0
 refine Gz (.pointer (some ⟨f,10,none⟩)) (dT m) (Ga (bF.cells a.bf) (dT m) ah 0 Tryz.isAgg27 Tryz.sizeOf27 ?_)
 obtain⟨O,U⟩:∃ q,dK a.bf=q:=⟨_,rfl⟩
 obtain⟨dJ,aK,cz,aN,cB⟩:=Ck ah
 refine nT (dT m) Tryz.call86 (jW _ _ a.bf O aK U) ?_
 rintro _ dL ⟨rfl,aO⟩
 have bI:=aN _ _ aO
 refine Gz (.bool (decide (O=0))) (dT m) (fw (.bool (decide (O=0))) (BZ rfl (dT m) rfl) (An rfl (rt (rs ?_))))
 have bJ:=bI.pk []
 obtain rfl:_=decide (O=0):=hr.symm.trans (et (ip b) (et (ip d) (et (iN j) (et (ag G) (et (ip m) (ag U))))))
 exact⟨rfl,bJ⟩
 refine Sz (dF m) (Sz (dF m) (Sz (dF m) (Sz (dF m) (fw (.bool false) (BQ rfl (dF m) rfl) (An rfl (rt (rs ?_)))))))
 have bK:=ah.pk []
 obtain rfl:_=false:=hr.symm.trans (et (ip b) (et (ip d) (et (iN j) (et (ag G) (iN m)))))
 exact⟨rfl,bK⟩
 refine Sz (dT d) (Sz (dT d) (Sz (dT d) (Sz (dT d) (BV rfl rfl rfl (BV rfl rfl rfl (BV rfl rfl rfl (BV rfl rfl rfl (Sz (dT d) (fw (.bool true) (BZ rfl (dT d) rfl) (nt (jt (sr (An rfl (rt (tR (rs ?_))))))))))))))))
 have bL:=h.pk []
 obtain rfl:_=false:=hr.symm.trans (et (ip b) (iN d))
 exact⟨rfl,bL⟩
 refine Sz (dF b) (Sz (dF b) (Sz (dF b) (Sz (dF b) (fw (.bool false) (BQ rfl (dF b) rfl) (Mz rfl (Gz (.pointer (some ⟨f,9,none⟩)) rfl (Gl (.int .u64 ((a.bS:Nat):Int)) rfl h 0 Tryz.isAgg22 (Gz (.bool (decide (((a.bS:Nat):Int)=0))) rfl (gw (.bool (decide (((a.bS:Nat):Int)=0))) rfl (BX rfl) ?_)))))))))
 by_cases k:((a.bS:Nat):Int)=0
 refine Gz (.pointer (some ⟨f,10,none⟩)) (dT k) (Ga (bF.cells a.bf) (dT k) h 0 Tryz.isAgg27 Tryz.sizeOf27 (Gz (.agg #[.string ⟨List.toArray ([])⟩, .string ⟨List.toArray ([])⟩]) (dT k) (gw (.bool (decide (¬ ((a.bf.aK=([]))∧(a.bf.aO=([])))))) (dT k) (Cy (e:= !(decide ((a.bf.aK=([]))∧(a.bf.aO=([]))))) (Dh rfl rfl (by kernel_rfl) rfl (gL.struct Tryz.underlying27 (by kernel_rfl) (Dc (fF.cons (u:= .string ⟨List.toArray a.bf.aK⟩) (v:= .string ⟨List.toArray ([])⟩) (by decide) (fun _=>by kernel_rfl) (fun _=>by kernel_rfl) (gL.string Tryz.underlying9) (fF.cons (u:= .string ⟨List.toArray a.bf.aO⟩) (v:= .string ⟨List.toArray ([])⟩) (by decide) (fun _=>by kernel_rfl) (fun _=>by kernel_rfl) (gL.string Tryz.underlying9) (fF.nil.up (EM _)))) ((congrArg (decide (a.bf.aK=([])) && ·) lm).trans fE)))) decide_not.symm) (gw (.bool (decide (¬ ((a.bf.aK=([]))∧(a.bf.aO=([])))))) rfl (BZ rfl (dT k) rfl) (fw (.bool (decide (¬ ((a.bf.aK=([]))∧(a.bf.aO=([])))))) (BQ rfl rfl rfl) (nt ?_))))))
 by_cases I:(a.bf.aK=([]))∧(a.bf.aO=([]))
 refine jF (dF (EN I)) (sk (sr (Kz (.pointer (some ⟨f,12,none⟩)) (Kz (.pointer (some ⟨f,15,none⟩)) (La (bF.cells a.aS.aP) h 0 Tryz.isAgg27 Tryz.sizeOf27 ?_)))))
 obtain⟨ai,J⟩:∃ q,dK a.aS.aP=q:=⟨_,rfl⟩
 obtain⟨dM,aP,cK,aQ,cO⟩:=Ck h
 refine cl Tryz.call86 (jW _ _ a.aS.aP ai aP J) ?_
 rintro _ dN ⟨rfl,aR⟩
 have aj:=aQ _ _ aR
 refine Kz (.bool (decide (ai=0))) (Mz rfl ?_)
 by_cases n:ai=0
 refine Gz (.pointer (some ⟨f,10,none⟩)) (dT n) (Ga (bF.cells a.bf) (dT n) aj 0 Tryz.isAgg27 Tryz.sizeOf27 ?_)
 obtain⟨P,V⟩:∃ q,dK a.bf=q:=⟨_,rfl⟩
 obtain⟨dO,aS,cZ,aT,df⟩:=Ck aj
 refine nT (dT n) Tryz.call86 (jW _ _ a.bf P aS V) ?_
 rintro _ dP ⟨rfl,aU⟩
 have bM:=aT _ _ aU
 refine Gz (.bool (decide (P=0))) (dT n) (fw (.bool (decide (P=0))) (BZ rfl (dT n) rfl) (An rfl (rt (rs ?_))))
 have bN:=bM.pk []
 obtain rfl:_=decide (P=0):=hr.symm.trans (et (iN b) (et (ip k) (et (ip I) (et (ag J) (et (ip n) (ag V))))))
 exact⟨rfl,bN⟩
 refine Sz (dF n) (Sz (dF n) (Sz (dF n) (Sz (dF n) (fw (.bool false) (BQ rfl (dF n) rfl) (An rfl (rt (rs ?_)))))))
 have aV:=aj.pk []
 obtain rfl:_=false:=hr.symm.trans (et (iN b) (et (ip k) (et (ip I) (et (ag J) (iN n)))))
 exact⟨rfl,aV⟩
 refine jT (dT I) (sr (An rfl (rt (tR (rs ?_)))))
 have aW:=h.pk []
 obtain rfl:_=false:=hr.symm.trans (et (iN b) (et (ip k) (iN I)))
 exact⟨rfl,aW⟩
 refine Sz (dF k) (Sz (dF k) (Sz (dF k) (Sz (dF k) (gw (.bool false) rfl (BQ rfl (dF k) rfl) (fw (.bool false) (BQ rfl rfl rfl) (nt (jf (sk (sr (Kz (.pointer (some ⟨f,12,none⟩)) (Kz (.pointer (some ⟨f,15,none⟩)) (La (bF.cells a.aS.aP) h 0 Tryz.isAgg27 Tryz.sizeOf27 ?_))))))))))))
 obtain⟨K,z⟩:∃ q,dK a.aS.aP=q:=⟨_,rfl⟩
 obtain⟨dh,ak,bO,au,bP⟩:=Ck h
 refine cl Tryz.call86 (jW _ _ a.aS.aP K ak z) ?_
 rintro _ di ⟨rfl,av⟩
 have L:=au _ _ av
 refine Kz (.bool (decide (K=0))) (Mz rfl ?_)
 by_cases g:K=0
 refine Gz (.pointer (some ⟨f,10,none⟩)) (dT g) (Ga (bF.cells a.bf) (dT g) L 0 Tryz.isAgg27 Tryz.sizeOf27 ?_)
 obtain⟨B,M⟩:∃ q,dK a.bf=q:=⟨_,rfl⟩
 obtain⟨dn,ax,bR,ay,bS⟩:=Ck L
 refine nT (dT g) Tryz.call86 (jW _ _ a.bf B ax M) ?_
 rintro _ dw ⟨rfl,az⟩
 have aY:=ay _ _ az
 refine Gz (.bool (decide (B=0))) (dT g) (fw (.bool (decide (B=0))) (BZ rfl (dT g) rfl) (An rfl (rt (rs ?_))))
 have aZ:=aY.pk []
 obtain rfl:_=decide (B=0):=hr.symm.trans (et (iN b) (et (iN k) (et (ag z) (et (ip g) (ag M)))))
 exact⟨rfl,aZ⟩
 refine Sz (dF g) (Sz (dF g) (Sz (dF g) (Sz (dF g) (fw (.bool false) (BQ rfl (dF g) rfl) (An rfl (rt (rs ?_)))))))
 have bf:=L.pk []
 obtain rfl:_=false:=hr.symm.trans (et (iN b) (et (iN k) (et (ag z) (iN g))))
 exact⟨rfl,bf⟩
def df (a:Bool):Int:=
 if a=true then 0 else 1
theorem iJ (w:World) (D:Nat→Prop) (b:Bool) (e:Int) (H:Own w D w []) (hr:df b=e):
    Calls Tryz.prog 37 #[.bool b] w (dE fun v w'=>v= .int .i64 e∧Own w D w' []):=by
 refine Ce (args:= [.bool b]) Tryz.func37 rfl rfl rfl ?_
 show Wp _ _ _ [(0, .bool b)] _ _
 refine sr (An rfl (BS (sr (Mz rfl (Kz (.bool (!b)) (nt ?_))))))
 rcases EO (b) with a | a
 refine jF (cn a) (sk (sr (An rfl (rt (rs ?_)))))
 have c:Own w D w []:=H.pk []
 obtain rfl:_=0:=hr.symm.trans (ip a)
 exact⟨rfl,c⟩
 refine jT (cn a) (sr (An rfl (rt (tR (rs ?_)))))
 have d:Own w D w []:=H.pk []
 obtain rfl:_=1:=hr.symm.trans (jE a)
 exact⟨rfl,d⟩
def dz (i:bQ):Int:=
 bnd (cZ i.cO 4) fun b=>if b=true then bnd (gU i.ai.ls) fun c=>if c=0 then bnd (jJ i) fun d=>if d=true then bnd (j6 i) fun e=>bnd (df e) fun f=>f else bnd (df false) fun g=>g else bnd (df false) fun h=>h else bnd (df false) fun a=>a
set_option maxHeartbeats 1000000 in
theorem lY (w:World) (D:Nat→Prop) (a:bQ) (d:Option Addr) (F b:Nat) (h:Option Addr) (G e:Nat) (m:List aM) (i:Option Addr) (I f:Nat) (r0:Int) (H:Own w D w []) (O:F=a.ai.ls.length) (o:Ro w D fun w'=>bG w' 2 d a.ai.ls.length (List.flatMap aL.cells a.ai.ls)) (aV:a.ai.ls.length≤b∧a.ai.ls.length≤9223372036854775807) (p:List.map CE m=a.az.ls) (P:G=a.az.ls.length) (u:Ro w D fun w'=>bG w' 2 h a.az.ls.length (List.flatMap aM.cells m)) (aW:a.az.ls.length≤e∧a.az.ls.length≤9223372036854775807) (j:∀ x ∈ m,Ro w D (fun w'=>bG w' 6 x.ay.A x.ay.ls.length (List.flatMap bq.cells x.ay.ls))∧(x.ay.ls.length≤x.ay.c∧x.ay.ls.length≤9223372036854775807)) (Q:I=a.ah.ls.length) (y:Ro w D fun w'=>bG w' 1 i a.ah.ls.length (List.flatMap (eN .u64) a.ah.ls)) (aY:a.ah.ls.length≤f∧a.ah.ls.length≤9223372036854775807) (bR:a.ai.ls.length≤140737488355328∧a.az.ls.length≤140737488355328∧a.ah.ls.length≤140737488355328) (hr:dz a=r0):
    Calls Tryz.prog 11 #[.agg (bZ a.cO a.aj a.aR a.aH a.aZ d F b h G e i I f a.iq a.bS a.bf.aK a.bf.aO a.aS.aZ a.aS.bB a.aS.cz a.aS.aP.aK a.aS.aP.aO).toArray] w (dE fun v w'=>v= .int .i64 r0∧Own w D w' []):=by
 subst O P Q
 have hdl0x1:=dm p
 refine Ce (args:= [.agg (aX a d b h e i f).toArray]) Tryz.func11 rfl rfl rfl ?_
 show Wp _ _ _ [(0, .agg (aX a d b h e i f).toArray)] _ _
 refine sr ?_
 refine dB (aX a d b h e i f) 31 H ?_
 intro Y bS Z
 refine Ar rfl (Kz (.pointer (some ⟨Y,0,none⟩)) (Lz (.int .i64 a.cO) Z 0 Tryz.isAgg3 ?_))
 obtain⟨aa,n⟩:∃ q,cZ a.cO 4=q:=⟨_,rfl⟩
 obtain⟨bT,ae,bC,af,bD⟩:=Ck Z
 refine cl Tryz.call38 (jB _ _ a.cO 4 aa ae n) ?_
 rintro _ bU ⟨rfl,ah⟩
 have R:=af _ _ ah
 refine Mz rfl ?_
 rcases EO (aa) with g | g
 refine Gz (.pointer (some ⟨Y,5,none⟩)) g (Gl (.slice d a.ai.ls.length b) g R 0 Tryz.isAgg23 ?_)
 obtain⟨C,r⟩:∃ q,gU a.ai.ls=q:=⟨_,rfl⟩
 obtain⟨bV,ai,aj,ak,bE⟩:=Ck R
 refine Di rfl rfl g rfl (Cq Tryz.call39 rfl (o7 _ _ d a.ai.ls.length b a.ai.ls C ai (aj _ o) rfl (by omega) r) ?_)
 rintro _ bW ⟨rfl,au⟩
 have S:=ak _ _ au
 refine Gz (.bool (decide (C=0))) g (fw (.bool (decide (C=0))) (BZ rfl g rfl) (Mz rfl ?_))
 by_cases k:C=0
 refine Ga (aX a d b h e i f) (dT k) S 0 Tryz.isAgg31 Tryz.sizeOf31 ?_
 obtain⟨T,z⟩:∃ q,jJ a=q:=⟨_,rfl⟩
 obtain⟨bX,av,s,ax,bF⟩:=Ck S
 refine nT (decide_eq_true k) Tryz.call40 (qW _ _ a d a.ai.ls.length b h a.az.ls.length e m i a.ah.ls.length f T av rfl (s _ o) (show a.ai.ls.length≤b∧a.ai.ls.length≤9223372036854775807 from by omega) p rfl (s _ u) (show a.az.ls.length≤e∧a.az.ls.length≤9223372036854775807 from by omega) (fun x9 h9=>⟨s _ (j x9 h9).1,(j x9 h9).2⟩) rfl (s _ y) (show a.ah.ls.length≤f∧a.ah.ls.length≤9223372036854775807 from by omega) (by first | omega | (dsimp only; omega) | (simp only [List.length_nil]; omega) | decide) z) ?_
 rintro _ bY ⟨rfl,aA⟩
 have U:=ax _ _ aA
 refine fw (.bool T) (BZ rfl (dT k) rfl) (Mz rfl ?_)
 rcases EO (T) with l | l
 refine Ga (aX a d b h e i f) l U 0 Tryz.isAgg31 Tryz.sizeOf31 ?_
 obtain⟨E,J⟩:∃ q,j6 a=q:=⟨_,rfl⟩
 obtain⟨cu,aB,t,aC,bH⟩:=Ck U
 refine Di rfl rfl l rfl (Cq Tryz.call41 rfl (qX _ _ a d a.ai.ls.length b h a.az.ls.length e m i a.ah.ls.length f E aB rfl (t _ o) (show a.ai.ls.length≤b∧a.ai.ls.length≤9223372036854775807 from by omega) p rfl (t _ u) (show a.az.ls.length≤e∧a.az.ls.length≤9223372036854775807 from by omega) (fun x9 h9=>⟨t _ (j x9 h9).1,(j x9 h9).2⟩) rfl (t _ y) (show a.ah.ls.length≤f∧a.ah.ls.length≤9223372036854775807 from by omega) (by first | omega | (dsimp only; omega) | (simp only [List.length_nil]; omega) | decide) J) ?_)
 rintro _ cz ⟨rfl,aD⟩
 have aZ:=aC _ _ aD
 refine fw (.bool E) (BZ rfl l rfl) ?_
 obtain⟨aF,K⟩:∃ q,df E=q:=⟨_,rfl⟩
 obtain⟨cB,aG,bI,aH,bJ⟩:=Ck aZ
 refine cl Tryz.call37 (iJ _ _ E aF aG K) ?_
 rintro _ cK ⟨rfl,aI⟩
 have bf:=aH _ _ aI
 refine An rfl (rt (rs ?_))
 have bg:=bf.pk []
 obtain rfl:_=aF:=hr.symm.trans (et (ag n) (et (ip g) (et (ag r) (et (ip k) (et (ag z) (et (ip l) (et (ag J) (ag K))))))))
 exact⟨rfl,bg⟩
 refine Sz l (Sz l (fw (.bool false) (BQ rfl l rfl) ?_))
 obtain⟨aJ,L⟩:∃ q,df false=q:=⟨_,rfl⟩
 obtain⟨cO,aK,bK,aN,bL⟩:=Ck U
 refine cl Tryz.call37 (iJ _ _ false aJ aK L) ?_
 rintro _ dh ⟨rfl,aO⟩
 have bi:=aN _ _ aO
 refine An rfl (rt (rs ?_))
 have bn:=bi.pk []
 obtain rfl:_=aJ:=hr.symm.trans (et (ag n) (et (ip g) (et (ag r) (et (ip k) (et (ag z) (et (jE l) (ag L)))))))
 exact⟨rfl,bn⟩
 refine Sz (dF k) (Sz (dF k) (fw (.bool false) (BQ rfl (dF k) rfl) (Mz rfl (Sz rfl (Sz rfl (fw (.bool false) (BQ rfl rfl rfl) ?_))))))
 obtain⟨aP,M⟩:∃ q,df false=q:=⟨_,rfl⟩
 obtain⟨di,aQ,bM,aR,bN⟩:=Ck S
 refine cl Tryz.call37 (iJ _ _ false aP aQ M) ?_
 rintro _ dn ⟨rfl,aS⟩
 have bu:=aR _ _ aS
 refine An rfl (rt (rs ?_))
 have bv:=bu.pk []
 obtain rfl:_=aP:=hr.symm.trans (et (ag n) (et (ip g) (et (ag r) (et (iN k) (ag M)))))
 exact⟨rfl,bv⟩
 refine Sz g (Sz g (Sz g (Sz g (fw (.bool false) (BQ rfl g rfl) (Mz rfl (Sz rfl (Sz rfl (fw (.bool false) (BQ rfl rfl rfl) (Mz rfl (Sz rfl (Sz rfl (fw (.bool false) (BQ rfl rfl rfl) ?_))))))))))))
 obtain⟨N,B⟩:∃ q,df false=q:=⟨_,rfl⟩
 obtain⟨bO,V,bz,W,bA⟩:=Ck R
 refine cl Tryz.call37 (iJ _ _ false N V B) ?_
 rintro _ bP ⟨rfl,X⟩
 have aT:=W _ _ X
 refine An rfl (rt (rs ?_))
 have aU:=aT.pk []
 obtain rfl:_=N:=hr.symm.trans (et (ag n) (et (jE g) (ag B)))
 exact⟨rfl,aU⟩
def fZ (c:bI):List aL→Unit ⊕ Bool
  | []=>Sum.inl ()
  | a::b=>if a.bV > c.aa then Sum.inr (false) else fZ c b
def jG (b:bI):Bool:=
 bnd (gU b.ai.ls) fun a=>if a=0 then lp (fZ b b.ai.ls) fun _=>true else false
set_option maxHeartbeats 1000000 in
theorem qc (w:World) (D:Nat→Prop) (a:bI) (b:Option Addr) (E d:Nat) (g:Option Addr) (F h:Nat) (p:List ax) (j:Option Addr) (G k:Nat) (r:List aT) (r0:Bool) (H:Own w D w []) (K:E=a.ai.ls.length) (l:Ro w D fun w'=>bG w' 2 b a.ai.ls.length (List.flatMap aL.cells a.ai.ls)) (ae:a.ai.ls.length≤d∧a.ai.ls.length≤9223372036854775807) (L:List.map Co p=a.af.ls) (M:F=a.af.ls.length) (af:Ro w D fun w'=>bG w' 5 g a.af.ls.length (List.flatMap ax.cells p)) (ah:a.af.ls.length≤h∧a.af.ls.length≤9223372036854775807) (ai:∀ x ∈ p,Ro w D (fun w'=>bG w' 1 x.aa.A x.aa.ls.length (List.flatMap (eI .i64) x.aa.ls))∧(x.aa.ls.length≤x.aa.c∧x.aa.ls.length≤9223372036854775807)) (N:List.map Cz r=a.aB.ls) (O:G=a.aB.ls.length) (aj:Ro w D fun w'=>bG w' 4 j a.aB.ls.length (List.flatMap aT.cells r)) (ak:a.aB.ls.length≤k∧a.aB.ls.length≤9223372036854775807) (au:∀ x ∈ r,Ro w D (fun w'=>bG w' 3 x.au.A x.au.ls.length (List.flatMap aD.cells x.au.ls))∧(x.au.ls.length≤x.au.c∧x.au.ls.length≤9223372036854775807)∧(∀ Q ∈ x.au.ls,Ro w D (fun w'=>bG w' 2 Q.aA.A Q.aA.ls.length (List.flatMap bH.cells Q.aA.ls))∧(Q.aA.ls.length≤Q.aA.c∧Q.aA.ls.length≤9223372036854775807))) (aJ:a.ai.ls.length≤140737488355328∧a.af.ls.length≤140737488355328∧a.aB.ls.length≤140737488355328) (hr:jG a=r0):
    Calls Tryz.prog 45 #[.agg #[.int .i64 a.aa, .int .u64 ((a.aj:Nat):Int), .int .u64 ((a.aR:Nat):Int), .int .u64 ((a.aH:Nat):Int), .slice b E d, .slice g F h, .slice j G k]] w (dE fun v w'=>v= .bool r0∧Own w D w' []):=by
 subst K M O
 have hdl0x1:=dm L
 have hdl0x2:=dm N
 refine Ce (args:= [.agg #[.int .i64 a.aa, .int .u64 ((a.aj:Nat):Int), .int .u64 ((a.aR:Nat):Int), .int .u64 ((a.aH:Nat):Int), .slice b a.ai.ls.length d, .slice g a.af.ls.length h, .slice j a.aB.ls.length k]]) Tryz.func45 rfl rfl rfl ?_
 show Wp _ _ _ [(0, .agg #[.int .i64 a.aa, .int .u64 ((a.aj:Nat):Int), .int .u64 ((a.aR:Nat):Int), .int .u64 ((a.aH:Nat):Int), .slice b a.ai.ls.length d, .slice g a.af.ls.length h, .slice j a.aB.ls.length k])] _ _
 refine sr ?_
 refine dB [.int .i64 a.aa, .int .u64 ((a.aj:Nat):Int), .int .u64 ((a.aR:Nat):Int), .int .u64 ((a.aH:Nat):Int), .slice b a.ai.ls.length d, .slice g a.af.ls.length h, .slice j a.aB.ls.length k] 35 H ?_
 intro m aK R
 refine An rfl (BS (sr (Kz (.pointer (some ⟨m,4,none⟩)) (Lz (.slice b a.ai.ls.length d) R 0 Tryz.isAgg23 ?_))))
 obtain⟨z,n⟩:∃ q,gU a.ai.ls=q:=⟨_,rfl⟩
 obtain⟨aM,S,T,U,aH⟩:=Ck R
 refine cl Tryz.call39 (o7 _ _ b a.ai.ls.length d a.ai.ls z S (T _ l) rfl (by omega) n) ?_
 rintro _ aN ⟨rfl,V⟩
 have P:=U _ _ V
 refine fw (.bool (decide (¬ (z=0)))) (Cy (e:= !(decide (z=0))) yk decide_not.symm) (nt ?_)
 by_cases s:z=0
 refine jF (dF (EN s)) (sk (BS (sr (Kz (.pointer (some ⟨m,4,none⟩)) (Lz (.slice b a.ai.ls.length d) P 0 Tryz.isAgg23 (Kz (.int .i64 ((a.ai.ls.length:Nat):Int)) (Mn rfl (bo ?_))))))))
 have av:=P.pk [0]
 obtain⟨W,X⟩:∃ q:Nat→World→Prop,q=fun(i:Nat) w'=>Own w D w' [blk m [.int .i64 a.aa, .int .u64 ((a.aj:Nat):Int), .int .u64 ((a.aR:Nat):Int), .int .u64 ((a.aH:Nat):Int), .slice b a.ai.ls.length d, .slice g a.af.ls.length h, .slice j a.aB.ls.length k] 35]∧(i≤a.ai.ls.length∧fZ a a.ai.ls=fZ a (List.drop i a.ai.ls)):=⟨_,rfl⟩
 have t:∀ {f:Nat} {w':World},W f w'↔Own w D w' [blk m [.int .i64 a.aa, .int .u64 ((a.aj:Nat):Int), .int .u64 ((a.aR:Nat):Int), .int .u64 ((a.aH:Nat):Int), .slice b a.ai.ls.length d, .slice g a.af.ls.length h, .slice j a.aB.ls.length k] 35]∧f≤a.ai.ls.length∧fZ a a.ai.ls=fZ a (List.drop f a.ai.ls):=by intros; subst X; exact Iff.rfl
 refine Wp.loop (fun i:Nat=> [(2, .bool false),(12, .int .i64 ((i:Nat):Int)),(11, .int .i64 ((a.ai.ls.length:Nat):Int)),(10, .slice b a.ai.ls.length d),(1, .pointer (some ⟨m,0,none⟩))]) W (fun i=>a.ai.ls.length - i) 0 ⟨rfl,rfl,rfl,rfl,rfl,trivial⟩ (t.2 ⟨av,by omega,rfl⟩) ?_
 rintro f aO Y
 show Wp _ _ _ [(2, .bool false),(12, .int .i64 ((f:Nat):Int)),(11, .int .i64 ((a.ai.ls.length:Nat):Int)),(10, .slice b a.ai.ls.length d),(1, .pointer (some ⟨m,0,none⟩))] _ _
 obtain⟨u,aI,y⟩:=t.1 Y
 refine sr (Kz (.bool (decide (((f:Nat):Int) < ((a.ai.ls.length:Nat):Int)))) (nt (BS ?_)))
 by_cases Z:((f:Nat):Int) < ((a.ai.ls.length:Nat):Int)
 obtain⟨o,I⟩:=bU (ls:=a.ai.ls) (i:=f) aL.len (by decide) (u.ro l) (by first | omega | (simp; done) | (simp; omega))
 have J:=drop_at I
 refine jT (dT Z) (sk (BS (bo (sr (fw (.pointer (some ⟨ab b,ao b+f *2,none⟩)) (Ch (ng) rfl rfl ((u.ro l).addr (i:=f) (by omega)) (by omega)) (fw (.agg (aL.cells o).toArray) (Cc rfl (Cu (cs:=(aL.cells o)) Tryz.isAgg54 Tryz.sizeOf54 ((u.ro l).elem aL.len I (by decide)))) ?_))))))
 refine dB [.string ⟨List.toArray ([])⟩, .int .i64 0] 54 u ?_
 intro ay aP az
 refine dw (aL.cells o) 0 az Tryz.sizeOf54 ?_
 intro aQ B
 refine ns (Kz (.pointer (some ⟨ay,1,none⟩)) (Lz (.int .i64 o.bV) B 0 Tryz.isAgg3 (Kz (.pointer (some ⟨m,0,none⟩)) (Lz (.int .i64 a.aa) B 1 Tryz.isAgg3 (Kz (.bool (decide (o.bV > a.aa))) (nt ?_))))))
 by_cases C:o.bV > a.aa
 refine jT (dT C) (sr (An rfl (rt (bR (tR (tR (bR (tR (rs ?_)))))))))
 have aA:=B.pk []
 obtain rfl:_=false:=hr.symm.trans (et (ag n) (et (ip s) (ic (et (y) (et (congrArg (fun q=>fZ a q) J) (ip C))))))
 exact⟨rfl,aA⟩
 refine jF (dF C) (CW (bN (Ca (BR (fw (.int .i64 ((f+1:Nat):Int)) (Ci (e:=IntKind.i64.wrap (((f:Nat):Int)+1)) yk (by rw [EL _ (by omega)]; omega)) (Mz rfl (Cf ?_)))))))
 have aB:=B.pk [1]
 exact Cm (f+1) ⟨rfl,rfl,rfl,rfl,rfl,trivial⟩ (t.2 ⟨aB,by omega,et (y) (et (congrArg (fun q=>fZ a q) J) (iN C))⟩) (by show a.ai.ls.length - (f+1) < a.ai.ls.length - f; omega)
 refine jF (dF Z) (Wp.exit (Cb ?_))
 have aa:fZ a a.ai.ls=Sum.inl ():=et (y) (et (congrArg (fun q=>fZ a q) (bM (ls:=a.ai.ls) (i:=f) (by omega))) rfl)
 refine Cb (Cn (Ca (sr (An rfl (rt (rs ?_))))))
 have aC:=u.pk []
 obtain rfl:_=true:=hr.symm.trans (et (ag n) (et (ip s) (mF aa)))
 exact⟨rfl,aC⟩
 refine jT (dT s) (sr (An rfl (rt (tR (rs ?_)))))
 have aF:=P.pk []
 obtain rfl:_=false:=hr.symm.trans (et (ag n) (iN s))
 exact⟨rfl,aF⟩
def bC (h:bI) (d:Nat) (b:bK):List Int→Nat→Unit ⊕ Bool
  | [],a=>Sum.inl ()
  | e::f,a=>bnd (cZ e h.aa) fun g=>if g=true then if((a:Nat):Int) > 0 then bnd (List.getD b.aa.ls (a - 1) default) fun c=>if e≤c then Sum.inr (false) else bC h d b f (a+1) else bC h d b f (a+1) else Sum.inr (false)
def eF (h:bI) (g:Nat) (d:bK):List Int→Nat→Unit ⊕ Bool
  | [],a=>Sum.inl ()
  | b::c,a=>bnd (cZ b h.aa) fun e=>if e=true then if((a:Nat):Int) > 0 then bnd (List.getD d.aa.ls (a - 1) default) fun f=>if b≤f then Sum.inr (false) else eF h g d c (a+1) else eF h g d c (a+1) else Sum.inr (false)
def bD (c:bI):List bK→Nat→Unit ⊕ Bool
  | [],b=>Sum.inl ()
  | a::e,b=>if((b:Nat):Int) > 0 then bnd (List.getD c.af.ls (b - 1) default) fun f=>if((a.av:Nat):Int)≤((f.av:Nat):Int) then Sum.inr (false) else if((a.av:Nat):Int) ≥ ((aU (Int.toNat (IntKind.u64.wrap (((c.aj:Nat):Int)+1))) 32:Nat):Int) then Sum.inr (false) else bnd (cZ a.ak 4) fun g=>if g=true then if((a.aa.ls.length:Nat):Int)=0 then Sum.inr (false) else lv (bC c b a a.aa.ls 0) fun _=>bD c e (b+1) else Sum.inr (false) else if((a.av:Nat):Int) ≥ ((aU (Int.toNat (IntKind.u64.wrap (((c.aj:Nat):Int)+1))) 32:Nat):Int) then Sum.inr (false) else bnd (cZ a.ak 4) fun d=>if d=true then if((a.aa.ls.length:Nat):Int)=0 then Sum.inr (false) else lv (eF c b a a.aa.ls 0) fun _=>bD c e (b+1) else Sum.inr (false)
def jq (a:bI):Bool:=
 if((a.af.ls.length:Nat):Int) > 8 then false else lp (bD a a.af.ls 0) fun _=>true
set_option maxHeartbeats 1000000 in
theorem pR (w:World) (D:Nat→Prop) (d:bI) (E:Option Addr) (aZ F:Nat) (f:Option Addr) (bf l:Nat) (ai:List ax) (G:Option Addr) (bg I:Nat) (aQ:List aT) (r0:Bool) (H:Own w D w []) (bv:aZ=d.ai.ls.length) (dZ:Ro w D fun w'=>bG w' 2 E d.ai.ls.length (List.flatMap aL.cells d.ai.ls)) (d9:d.ai.ls.length≤F∧d.ai.ls.length≤9223372036854775807) (aC:List.map Co ai=d.af.ls) (bz:bf=d.af.ls.length) (S:Ro w D fun w'=>bG w' 5 f d.af.ls.length (List.flatMap ax.cells ai)) (ed:d.af.ls.length≤l∧d.af.ls.length≤9223372036854775807) (p:∀ x ∈ ai,Ro w D (fun w'=>bG w' 1 x.aa.A x.aa.ls.length (List.flatMap (eI .i64) x.aa.ls))∧(x.aa.ls.length≤x.aa.c∧x.aa.ls.length≤9223372036854775807)) (bA:List.map Cz aQ=d.aB.ls) (bB:bg=d.aB.ls.length) (ek:Ro w D fun w'=>bG w' 4 G d.aB.ls.length (List.flatMap aT.cells aQ)) (eu:d.aB.ls.length≤I∧d.aB.ls.length≤9223372036854775807) (eB:∀ x ∈ aQ,Ro w D (fun w'=>bG w' 3 x.au.A x.au.ls.length (List.flatMap aD.cells x.au.ls))∧(x.au.ls.length≤x.au.c∧x.au.ls.length≤9223372036854775807)∧(∀ y1 ∈ x.au.ls,Ro w D (fun w'=>bG w' 2 y1.aA.A y1.aA.ls.length (List.flatMap bH.cells y1.aA.ls))∧(y1.aA.ls.length≤y1.aA.c∧y1.aA.ls.length≤9223372036854775807))) (fT:d.ai.ls.length≤140737488355328∧d.af.ls.length≤140737488355328∧d.aB.ls.length≤140737488355328) (hr:jq d=r0):
    Calls Tryz.prog 46 #[.agg #[.int .i64 d.aa, .int .u64 ((d.aj:Nat):Int), .int .u64 ((d.aR:Nat):Int), .int .u64 ((d.aH:Nat):Int), .slice E aZ F, .slice f bf l, .slice G bg I]] w (dE fun v w'=>v= .bool r0∧Own w D w' []):=by
 subst bv bz bB
 have hdl0x1:=dm aC
 have hdl0x2:=dm bA
 refine Ce (args:= [.agg #[.int .i64 d.aa, .int .u64 ((d.aj:Nat):Int), .int .u64 ((d.aR:Nat):Int), .int .u64 ((d.aH:Nat):Int), .slice E d.ai.ls.length F, .slice f d.af.ls.length l, .slice G d.aB.ls.length I]]) Tryz.func46 rfl rfl rfl ?_
 show Wp _ _ _ [(0, .agg #[.int .i64 d.aa, .int .u64 ((d.aj:Nat):Int), .int .u64 ((d.aR:Nat):Int), .int .u64 ((d.aH:Nat):Int), .slice E d.ai.ls.length F, .slice f d.af.ls.length l, .slice G d.aB.ls.length I])] _ _
 refine sr ?_
 refine dB [.int .i64 d.aa, .int .u64 ((d.aj:Nat):Int), .int .u64 ((d.aR:Nat):Int), .int .u64 ((d.aH:Nat):Int), .slice E d.ai.ls.length F, .slice f d.af.ls.length l, .slice G d.aB.ls.length I] 35 H ?_
 intro r fU aY
 refine An rfl (BS (sr (Kz (.pointer (some ⟨r,5,none⟩)) (Lz (.slice f d.af.ls.length l) aY 0 Tryz.isAgg32 (Kz (.int .i64 ((d.af.ls.length:Nat):Int)) (Kz (.bool (decide (((d.af.ls.length:Nat):Int) > 8))) (nt ?_)))))))
 by_cases L:((d.af.ls.length:Nat):Int) > 8
 refine jT (dT L) (sr (An rfl (rt (tR (rs ?_)))))
 have eD:=aY.pk []
 obtain rfl:_=false:=hr.symm.trans (ip L)
 exact⟨rfl,eD⟩
 refine jF (dF L) (sk (BS (sr (Kz (.pointer (some ⟨r,5,none⟩)) (Lz (.slice f d.af.ls.length l) aY 0 Tryz.isAgg32 (Kz (.int .i64 ((d.af.ls.length:Nat):Int)) (Mn rfl (bo ?_))))))))
 have eG:=aY.pk [0]
 obtain⟨bZ,cz⟩:∃ q:Nat→World→Prop,q=fun(i:Nat) w'=>Own w D w' [blk r [.int .i64 d.aa, .int .u64 ((d.aj:Nat):Int), .int .u64 ((d.aR:Nat):Int), .int .u64 ((d.aH:Nat):Int), .slice E d.ai.ls.length F, .slice f d.af.ls.length l, .slice G d.aB.ls.length I] 35]∧(i≤d.af.ls.length∧bD d d.af.ls 0=bD d (List.drop i d.af.ls) i):=⟨_,rfl⟩
 have aI:∀ {b:Nat} {w':World},bZ b w'↔Own w D w' [blk r [.int .i64 d.aa, .int .u64 ((d.aj:Nat):Int), .int .u64 ((d.aR:Nat):Int), .int .u64 ((d.aH:Nat):Int), .slice E d.ai.ls.length F, .slice f d.af.ls.length l, .slice G d.aB.ls.length I] 35]∧b≤d.af.ls.length∧bD d d.af.ls 0=bD d (List.drop b d.af.ls) b:=by intros; subst cz; exact Iff.rfl
 refine Wp.loop (fun i:Nat=> [(2, .bool false),(14, .int .i64 ((i:Nat):Int)),(13, .int .i64 ((d.af.ls.length:Nat):Int)),(12, .slice f d.af.ls.length l),(1, .pointer (some ⟨r,0,none⟩))]) bZ (fun i=>d.af.ls.length - i) 0 ⟨rfl,rfl,rfl,rfl,rfl,trivial⟩ (aI.2 ⟨eG,by omega,rfl⟩) ?_
 rintro b fV cB
 show Wp _ _ _ [(2, .bool false),(14, .int .i64 ((b:Nat):Int)),(13, .int .i64 ((d.af.ls.length:Nat):Int)),(12, .slice f d.af.ls.length l),(1, .pointer (some ⟨r,0,none⟩))] _ _
 obtain⟨aR,fB,z⟩:=aI.1 cB
 refine sr (Kz (.bool (decide (((b:Nat):Int) < ((d.af.ls.length:Nat):Int)))) (nt (BS ?_)))
 by_cases cK:((b:Nat):Int) < ((d.af.ls.length:Nat):Int)
 obtain⟨a,u⟩:=bU (ls:=ai) (i:=b) ax.len (by decide) (aR.ro S) (by first | omega | (simp; done) | (simp; omega))
 have cO:=jb aC u
 have fC:=(p _ (List.mem_of_getElem? u)).2
 have C:=drop_at cO
 refine jT (dT cK) (sk (BS (bo (sr (Mz rfl (fw (.pointer (some ⟨ab f,ao f+b *5,none⟩)) (Ch (qw) rfl rfl ((aR.ro S).addr (i:=b) (by omega)) (by omega)) (fw (.agg (ax.cells a).toArray) (Cc rfl (Cu (cs:=(ax.cells a)) Tryz.isAgg79 Tryz.sizeOf79 ((aR.ro S).elem ax.len u (by decide)))) ?_)))))))
 refine dB [.int .u64 0, .int .i64 0, .int .u64 0, .int .u64 0, .slice none 0 0] 79 aR ?_
 intro h fZ eH
 refine Az rfl ?_
 refine dw (ax.cells a) 0 eH Tryz.sizeOf79 ?_
 intro eO eP
 refine nt (BS (BS ?_))
 have X:=eP.drew
 refine CP [] (fun W=> ∃ L',Own w D W ([blk h (ax.cells a) 79,blk r [.int .i64 d.aa, .int .u64 ((d.aj:Nat):Int), .int .u64 ((d.aR:Nat):Int), .int .u64 ((d.aH:Nat):Int), .slice E d.ai.ls.length F, .slice f d.af.ls.length l, .slice G d.aB.ls.length I] 35]++L')) (by kernel_rfl) (by kernel_rfl) (Cs (Cs (bP.block (Cs (Cs (bP.block (Cs CR))))))) ⟨_,X⟩ ?_
 revert X
 generalize World.drew eO=gm
 intro X
 refine GX.take (v:= .int .i64 ((b:Nat):Int)) (rs:= []) 0 rfl (by kernel_rfl) (fun _ _=>BX rfl) (GX.take (v:= .bool (decide (((b:Nat):Int) > 0))) (rs:= []) 1 rfl (by kernel_rfl) (fun _ _=>yk) (GX.take (v:= .bool (decide (((b:Nat):Int) > 0))) (rs:= []) 2 rfl (by kernel_rfl) (fun _ _=>BX rfl) ?_))
 by_cases n:((b:Nat):Int) > 0
 refine BU (v:= .pointer (some ⟨h,0,none⟩)) (rs:= []) 3 rfl rfl rfl (dT n) (by kernel_rfl) (fun _ _=>yk) (BU (v:= .int .u64 ((a.av:Nat):Int)) (rs:= []) 4 rfl rfl rfl (dT n) (by kernel_rfl) (fun _ ⟨_,H9⟩=>Cc rfl (bi.one Tryz.isAgg22 (Cv (H9.cls (i:=0) rfl) rfl))) (BU (v:= .pointer (some ⟨r,5,none⟩)) (rs:= []) 5 rfl rfl rfl (dT n) (by kernel_rfl) (fun _ _=>yk) (BU (v:= .slice f d.af.ls.length l) (rs:= []) 6 rfl rfl rfl (dT n) (by kernel_rfl) (fun _ ⟨_,H9⟩=>Cc rfl (bi.one Tryz.isAgg32 (Cv (H9.cls (i:=1) rfl) rfl))) (BU (v:= .int .i64 ((b:Nat):Int)) (rs:= []) 7 rfl rfl rfl (dT n) (by kernel_rfl) (fun _ _=>BX rfl) (BU (v:= .int .i64 ((b - 1:Nat):Int)) (rs:= []) 8 rfl rfl rfl (dT n) (by kernel_rfl) (fun _ _=>Ci (e:=IntKind.i64.wrap (((b:Nat):Int) - 1)) yk (by rw [EL _ (by omega)]; omega)) ?_)))))
 obtain⟨N,aS⟩:=oN (ls:=ai) (i:=b - 1) (by first | omega | (simp; done) | (simp; omega))
 have T:=jb aC aS
 have fD:=(p _ (List.mem_of_getElem? aS)).2
 refine BU (v:= .pointer (some ⟨ab f,ao f+(b - 1) *5,none⟩)) (rs:= []) 9 rfl rfl rfl (dT n) (by kernel_rfl) (fun _ ⟨_,H9⟩=>Ch (qw) rfl rfl ((H9.ro S).addr (i:=b - 1) (by omega)) (by omega)) (BU (v:= .pointer (some ⟨ab f,ao f+(b - 1) *5,none⟩)) (rs:= []) 10 rfl rfl rfl (dT n) (by kernel_rfl) (fun _ _=>yk) (BU (v:= .int .u64 ((N.av:Nat):Int)) (rs:= []) 11 rfl rfl rfl (dT n) (by kernel_rfl) (fun _ ⟨_,H9⟩=>Cc rfl (bi.one Tryz.isAgg22 (((H9.ro S).elem ax.len aS (by decide)).at_ (k:=0) rfl))) (BU (v:= .bool (decide (((a.av:Nat):Int)≤((N.av:Nat):Int)))) (rs:= []) 12 rfl rfl rfl (dT n) (by kernel_rfl) (fun _ _=>yk) (GX.take (v:= .bool (decide (((a.av:Nat):Int)≤((N.av:Nat):Int)))) (rs:= []) 13 rfl (by kernel_rfl) (fun _ _=>BZ rfl (dT n) rfl) (GX.take (v:= .bool (decide (((a.av:Nat):Int)≤((N.av:Nat):Int)))) (rs:= []) 14 rfl (by kernel_rfl) (fun _ _=>BX rfl) ?_)))))
 by_cases y:((a.av:Nat):Int)≤((N.av:Nat):Int)
 refine BP (rs:= []) 15 rfl rfl rfl (dT y) (by kernel_rfl) (BP (rs:= []) 16 rfl rfl rfl (dT y) (by kernel_rfl) (BP (rs:= []) 17 rfl rfl rfl (dT y) (by kernel_rfl) (BP (rs:= []) 18 rfl rfl rfl (dT y) (by kernel_rfl) (BP (rs:= []) 19 rfl rfl rfl (dT y) (by kernel_rfl) (BP (rs:= []) 20 rfl rfl rfl (dT y) (by kernel_rfl) (BP (rs:= []) 21 rfl rfl rfl (dT y) (by kernel_rfl) (GX.take (v:= .bool true) (rs:= []) 22 rfl (by kernel_rfl) (fun _ _=>BZ rfl (dT y) rfl) (Cx (by kernel_rfl) (Ca (jt (sr (An rfl (rt (tR (bR (tR (tR (bR (tR (rs ?_))))))))))))))))))))
 have eQ:=X.pk []
 obtain rfl:_=false:=hr.symm.trans (et (iN L) (ic (et (z) (et (congrArg (fun q=>bD d q b) C) (et (ip n) (et (ag (cu T)) (ip y)))))))
 exact⟨rfl,eQ⟩
 refine BU (v:= .pointer (some ⟨h,0,none⟩)) (rs:= []) 15 rfl rfl rfl (dF y) (by kernel_rfl) (fun _ _=>yk) (BU (v:= .int .u64 ((a.av:Nat):Int)) (rs:= []) 16 rfl rfl rfl (dF y) (by kernel_rfl) (fun _ ⟨_,H9⟩=>Cc rfl (bi.one Tryz.isAgg22 (Cv (H9.cls (i:=0) rfl) rfl))) (BU (v:= .pointer (some ⟨r,1,none⟩)) (rs:= []) 17 rfl rfl rfl (dF y) (by kernel_rfl) (fun _ _=>yk) (BU (v:= .int .u64 ((d.aj:Nat):Int)) (rs:= []) 18 rfl rfl rfl (dF y) (by kernel_rfl) (fun _ ⟨_,H9⟩=>Cc rfl (bi.one Tryz.isAgg22 (Cv (H9.cls (i:=1) rfl) rfl))) (BU (v:= .int .u64 ((Int.toNat (IntKind.u64.wrap (((d.aj:Nat):Int)+1)):Nat):Int)) (rs:= []) 19 rfl rfl rfl (dF y) (by kernel_rfl) (fun _ _=>Ci (e:=IntKind.u64.wrap (((d.aj:Nat):Int)+1)) yk (di _)) ?_))))
 have fE:aU (Int.toNat (IntKind.u64.wrap (((d.aj:Nat):Int)+1))) 32≤18446744073709551615:=nQ _ _
 refine BU (v:= .int .u64 ((aU (Int.toNat (IntKind.u64.wrap (((d.aj:Nat):Int)+1))) 32:Nat):Int)) (rs:= []) 20 rfl rfl rfl (dF y) (by kernel_rfl) (fun _ _=>Ci (Dp (m:=32) rfl rfl) (di _)) (BU (v:= .bool (decide (((a.av:Nat):Int) ≥ ((aU (Int.toNat (IntKind.u64.wrap (((d.aj:Nat):Int)+1))) 32:Nat):Int)))) (rs:= []) 21 rfl rfl rfl (dF y) (by kernel_rfl) (fun _ _=>yk) (GX.take (v:= .bool (decide (((a.av:Nat):Int) ≥ ((aU (Int.toNat (IntKind.u64.wrap (((d.aj:Nat):Int)+1))) 32:Nat):Int)))) (rs:= []) 22 rfl (by kernel_rfl) (fun _ _=>BQ rfl (dF y) rfl) (Cx (by kernel_rfl) (Ca ?_))))
 by_cases aj:((a.av:Nat):Int) ≥ ((aU (Int.toNat (IntKind.u64.wrap (((d.aj:Nat):Int)+1))) 32:Nat):Int)
 refine jT (dT aj) (sr (An rfl (rt (tR (bR (tR (tR (bR (tR (rs ?_))))))))))
 have eT:=X.pk []
 obtain rfl:_=false:=hr.symm.trans (et (iN L) (ic (et (z) (et (congrArg (fun q=>bD d q b) C) (et (ip n) (et (ag (cu T)) (et (iN y) (ip aj))))))))
 exact⟨rfl,eT⟩
 refine jF (dF aj) (sk (BS (sr (Kz (.pointer (some ⟨h,1,none⟩)) (Lz (.int .i64 a.ak) X 0 Tryz.isAgg3 ?_)))))
 obtain⟨ae,Y⟩:∃ q,cZ a.ak 4=q:=⟨_,rfl⟩
 obtain⟨gp,df,fF,dh,fG⟩:=Ck X
 refine cl Tryz.call38 (jB _ _ a.ak 4 ae df Y) ?_
 rintro _ gq ⟨rfl,dn⟩
 have aV:=dh _ _ dn
 refine Kz (.bool (!ae)) (Mz rfl ?_)
 rcases EO (ae) with K | K
 refine Gz (.pointer (some ⟨h,4,none⟩)) (cn K) (Gl (.slice a.aa.A a.aa.ls.length a.aa.c) (cn K) aV 0 Tryz.isAgg77 (Gz (.int .i64 ((a.aa.ls.length:Nat):Int)) (cn K) (Gz (.bool (decide (((a.aa.ls.length:Nat):Int)=0))) (cn K) (fw (.bool (decide (((a.aa.ls.length:Nat):Int)=0))) (BQ rfl (cn K) rfl) (nt ?_)))))
 by_cases aO:((a.aa.ls.length:Nat):Int)=0
 refine jT (dT aO) (sr (An rfl (rt (tR (bR (tR (tR (bR (tR (rs ?_))))))))))
 have eU:=aV.pk []
 obtain rfl:_=false:=hr.symm.trans (et (iN L) (ic (et (z) (et (congrArg (fun q=>bD d q b) C) (et (ip n) (et (ag (cu T)) (et (iN y) (et (iN aj) (et (ag Y) (et (ip K) (ip aO)))))))))))
 exact⟨rfl,eU⟩
 refine jF (dF aO) (sk (sr (Kz (.pointer (some ⟨h,4,none⟩)) (Lz (.slice a.aa.A a.aa.ls.length a.aa.c) aV 0 Tryz.isAgg77 (Kz (.int .i64 ((a.aa.ls.length:Nat):Int)) (Mn rfl (bo ?_)))))))
 have eX:=aV.pk [0,1]
 obtain⟨dx,dz⟩:∃ q:Nat→World→Prop,q=fun(i:Nat) w'=>Own w D w' [blk h (ax.cells a) 79,blk r [.int .i64 d.aa, .int .u64 ((d.aj:Nat):Int), .int .u64 ((d.aR:Nat):Int), .int .u64 ((d.aH:Nat):Int), .slice E d.ai.ls.length F, .slice f d.af.ls.length l, .slice G d.aB.ls.length I] 35]∧(i≤a.aa.ls.length∧bC d b (Co a) a.aa.ls 0=bC d b (Co a) (List.drop i a.aa.ls) i):=⟨_,rfl⟩
 have aJ:∀ {j:Nat} {w':World},dx j w'↔Own w D w' [blk h (ax.cells a) 79,blk r [.int .i64 d.aa, .int .u64 ((d.aj:Nat):Int), .int .u64 ((d.aR:Nat):Int), .int .u64 ((d.aH:Nat):Int), .slice E d.ai.ls.length F, .slice f d.af.ls.length l, .slice G d.aB.ls.length I] 35]∧j≤a.aa.ls.length∧bC d b (Co a) a.aa.ls 0=bC d b (Co a) (List.drop j a.aa.ls) j:=by intros; subst dz; exact Iff.rfl
 refine Wp.loop (fun i:Nat=> [(2, .bool false),(55, .int .i64 ((i:Nat):Int)),(54, .int .i64 ((a.aa.ls.length:Nat):Int)),(53, .slice a.aa.A a.aa.ls.length a.aa.c),(52, .pointer (some ⟨h,4,none⟩)),(51, .bool (decide (((a.aa.ls.length:Nat):Int)=0))),(50, .bool (decide (((a.aa.ls.length:Nat):Int)=0))),(49, .int .i64 ((a.aa.ls.length:Nat):Int)),(48, .slice a.aa.A a.aa.ls.length a.aa.c),(47, .pointer (some ⟨h,4,none⟩)),(46, .bool (!ae)),(45, .bool (!ae)),(44, .bool ae),(43, .int .i64 a.ak),(42, .pointer (some ⟨h,1,none⟩)),(41, .bool (decide (((a.av:Nat):Int) ≥ ((aU (Int.toNat (IntKind.u64.wrap (((d.aj:Nat):Int)+1))) 32:Nat):Int)))),(40, .bool (decide (((a.av:Nat):Int) ≥ ((aU (Int.toNat (IntKind.u64.wrap (((d.aj:Nat):Int)+1))) 32:Nat):Int)))),(39, .int .u64 ((aU (Int.toNat (IntKind.u64.wrap (((d.aj:Nat):Int)+1))) 32:Nat):Int)),(38, .int .u64 ((Int.toNat (IntKind.u64.wrap (((d.aj:Nat):Int)+1)):Nat):Int)),(37, .int .u64 ((d.aj:Nat):Int)),(36, .pointer (some ⟨r,1,none⟩)),(35, .int .u64 ((a.av:Nat):Int)),(34, .pointer (some ⟨h,0,none⟩)),(33, .bool (decide (((a.av:Nat):Int)≤((N.av:Nat):Int)))),(32, .bool (decide (((a.av:Nat):Int)≤((N.av:Nat):Int)))),(31, .bool (decide (((a.av:Nat):Int)≤((N.av:Nat):Int)))),(30, .int .u64 ((N.av:Nat):Int)),(29, .pointer (some ⟨ab f,ao f+(b - 1) *5,none⟩)),(28, .pointer (some ⟨ab f,ao f+(b - 1) *5,none⟩)),(27, .int .i64 ((b - 1:Nat):Int)),(26, .int .i64 ((b:Nat):Int)),(25, .slice f d.af.ls.length l),(24, .pointer (some ⟨r,5,none⟩)),(23, .int .u64 ((a.av:Nat):Int)),(22, .pointer (some ⟨h,0,none⟩)),(21, .bool (decide (((b:Nat):Int) > 0))),(20, .bool (decide (((b:Nat):Int) > 0))),(19, .int .i64 ((b:Nat):Int)),(3, .int .i64 ((b:Nat):Int)),(4, .pointer (some ⟨h,0,none⟩)),(18, .agg (ax.cells a).toArray),(17, .pointer (some ⟨ab f,ao f+b *5,none⟩)),(16, .int .i64 ((b:Nat):Int)),(15, .bool (decide (((b:Nat):Int) < ((d.af.ls.length:Nat):Int)))),(14, .int .i64 ((b:Nat):Int)),(13, .int .i64 ((d.af.ls.length:Nat):Int)),(12, .slice f d.af.ls.length l),(1, .pointer (some ⟨r,0,none⟩))]) dx (fun i=>a.aa.ls.length - i) 0 ⟨rfl,rfl,rfl,rfl,rfl,rfl,rfl,rfl,rfl,rfl,rfl,rfl,rfl,rfl,rfl,rfl,rfl,rfl,rfl,rfl,rfl,rfl,rfl,rfl,rfl,rfl,rfl,rfl,rfl,rfl,rfl,rfl,rfl,rfl,rfl,rfl,rfl,rfl,rfl,rfl,rfl,rfl,rfl,rfl,rfl,rfl,rfl,rfl,trivial⟩ (aJ.2 ⟨eX,by omega,rfl⟩) ?_
 rintro j gy dA
 show Wp _ _ _ [(2, .bool false),(55, .int .i64 ((j:Nat):Int)),(54, .int .i64 ((a.aa.ls.length:Nat):Int)),(53, .slice a.aa.A a.aa.ls.length a.aa.c),(52, .pointer (some ⟨h,4,none⟩)),(51, .bool (decide (((a.aa.ls.length:Nat):Int)=0))),(50, .bool (decide (((a.aa.ls.length:Nat):Int)=0))),(49, .int .i64 ((a.aa.ls.length:Nat):Int)),(48, .slice a.aa.A a.aa.ls.length a.aa.c),(47, .pointer (some ⟨h,4,none⟩)),(46, .bool (!ae)),(45, .bool (!ae)),(44, .bool ae),(43, .int .i64 a.ak),(42, .pointer (some ⟨h,1,none⟩)),(41, .bool (decide (((a.av:Nat):Int) ≥ ((aU (Int.toNat (IntKind.u64.wrap (((d.aj:Nat):Int)+1))) 32:Nat):Int)))),(40, .bool (decide (((a.av:Nat):Int) ≥ ((aU (Int.toNat (IntKind.u64.wrap (((d.aj:Nat):Int)+1))) 32:Nat):Int)))),(39, .int .u64 ((aU (Int.toNat (IntKind.u64.wrap (((d.aj:Nat):Int)+1))) 32:Nat):Int)),(38, .int .u64 ((Int.toNat (IntKind.u64.wrap (((d.aj:Nat):Int)+1)):Nat):Int)),(37, .int .u64 ((d.aj:Nat):Int)),(36, .pointer (some ⟨r,1,none⟩)),(35, .int .u64 ((a.av:Nat):Int)),(34, .pointer (some ⟨h,0,none⟩)),(33, .bool (decide (((a.av:Nat):Int)≤((N.av:Nat):Int)))),(32, .bool (decide (((a.av:Nat):Int)≤((N.av:Nat):Int)))),(31, .bool (decide (((a.av:Nat):Int)≤((N.av:Nat):Int)))),(30, .int .u64 ((N.av:Nat):Int)),(29, .pointer (some ⟨ab f,ao f+(b - 1) *5,none⟩)),(28, .pointer (some ⟨ab f,ao f+(b - 1) *5,none⟩)),(27, .int .i64 ((b - 1:Nat):Int)),(26, .int .i64 ((b:Nat):Int)),(25, .slice f d.af.ls.length l),(24, .pointer (some ⟨r,5,none⟩)),(23, .int .u64 ((a.av:Nat):Int)),(22, .pointer (some ⟨h,0,none⟩)),(21, .bool (decide (((b:Nat):Int) > 0))),(20, .bool (decide (((b:Nat):Int) > 0))),(19, .int .i64 ((b:Nat):Int)),(3, .int .i64 ((b:Nat):Int)),(4, .pointer (some ⟨h,0,none⟩)),(18, .agg (ax.cells a).toArray),(17, .pointer (some ⟨ab f,ao f+b *5,none⟩)),(16, .int .i64 ((b:Nat):Int)),(15, .bool (decide (((b:Nat):Int) < ((d.af.ls.length:Nat):Int)))),(14, .int .i64 ((b:Nat):Int)),(13, .int .i64 ((d.af.ls.length:Nat):Int)),(12, .slice f d.af.ls.length l),(1, .pointer (some ⟨r,0,none⟩))] _ _
 obtain⟨aP,fH,ak⟩:=aJ.1 dA
 refine sr (Kz (.bool (decide (((j:Nat):Int) < ((a.aa.ls.length:Nat):Int)))) (nt (BS ?_)))
 by_cases dC:((j:Nat):Int) < ((a.aa.ls.length:Nat):Int)
 obtain⟨au,bn⟩:=bU (ls:=a.aa.ls) (i:=j) gu (by decide) (aP.ro (p _ (List.mem_of_getElem? u)).1) (by first | omega | (simp; done) | (simp; omega))
 have aK:=drop_at bn
 refine jT (dT dC) (sk (BS (bo (sr (Mz rfl (fw (.pointer (some ⟨ab a.aa.A,ao a.aa.A+j *1,none⟩)) (Ch (lU) rfl rfl ((aP.ro (p _ (List.mem_of_getElem? u)).1).addr (i:=j) (by omega)) (by omega)) (fw (.int .i64 au) (Cc rfl (bi.one Tryz.isAgg3 (((aP.ro (p _ (List.mem_of_getElem? u)).1).elem gu bn (by decide)).at_ (k:=0) rfl))) (Az rfl (Ar rfl (Mz rfl (Kz (.pointer (some ⟨r,0,none⟩)) (Lz (.int .i64 d.aa) aP 1 Tryz.isAgg3 ?_))))))))))))
 obtain⟨bE,av⟩:∃ q,cZ au d.aa=q:=⟨_,rfl⟩
 obtain⟨gz,dD,fI,dG,fJ⟩:=Ck aP
 refine cl Tryz.call38 (jB _ _ au d.aa bE dD av) ?_
 rintro _ gB ⟨rfl,dH⟩
 have ay:=dG _ _ dH
 refine Kz (.bool (!bE)) (Mz rfl ?_)
 rcases EO (bE) with J | J
 refine gw (.int .i64 ((j:Nat):Int)) (cn J) (BX rfl) (Gz (.bool (decide (((j:Nat):Int) > 0))) (cn J) (gw (.bool (decide (((j:Nat):Int) > 0))) (cn J) (BX rfl) ?_))
 by_cases B:((j:Nat):Int) > 0
 refine gw (.int .i64 au) (dT B) (BX rfl) (Gz (.pointer (some ⟨h,4,none⟩)) (dT B) (Gl (.slice a.aa.A a.aa.ls.length a.aa.c) (dT B) ay 0 Tryz.isAgg77 (gw (.int .i64 ((j:Nat):Int)) (dT B) (BX rfl) (gw (.int .i64 ((j - 1:Nat):Int)) (dT B) (Ci (e:=IntKind.i64.wrap (((j:Nat):Int) - 1)) yk (by rw [EL _ (by omega)]; omega)) ?_))))
 obtain⟨az,aG⟩:=bU (ls:=a.aa.ls) (i:=j - 1) gu (by decide) (ay.ro (p _ (List.mem_of_getElem? u)).1) (by first | omega | (simp; done) | (simp; omega))
 refine gw (.pointer (some ⟨ab a.aa.A,ao a.aa.A+(j - 1) *1,none⟩)) (dT B) (Ch (lU) rfl rfl ((ay.ro (p _ (List.mem_of_getElem? u)).1).addr (i:=j - 1) (by omega)) (by omega)) (gw (.int .i64 az) (dT B) (Cc rfl (bi.one Tryz.isAgg3 (((ay.ro (p _ (List.mem_of_getElem? u)).1).elem gu aG (by decide)).at_ (k:=0) rfl))) (Gz (.bool (decide (au≤az))) (dT B) (gw (.bool (decide (au≤az))) (cn J) (BZ rfl (dT B) rfl) (fw (.bool (decide (au≤az))) (BQ rfl (cn J) rfl) (nt ?_)))))
 by_cases aM:au≤az
 refine jT (dT aM) (sr (An rfl (rt (bR (tR (tR (bR (bR (tR (tR (bR (tR (rs ?_)))))))))))))
 have dI:=ay.pk []
 obtain rfl:_=false:=hr.symm.trans (et (iN L) (ic (et (z) (et (congrArg (fun q=>bD d q b) C) (et (ip n) (et (ag (cu T)) (et (iN y) (et (iN aj) (et (ag Y) (et (ip K) (et (iN aO) (nK (et (ak) (et (congrArg (fun q=>bC d b (Co a) q j) aK) (et (ag av) (et (ip J) (et (ip B) (et (ag (cu aG)) (ip aM)))))))))))))))))))
 exact⟨rfl,dI⟩
 refine jF (dF aM) (CW (bN (Ca (BR (fw (.int .i64 ((j+1:Nat):Int)) (Ci (e:=IntKind.i64.wrap (((j:Nat):Int)+1)) yk (by rw [EL _ (by omega)]; omega)) (Mz rfl (Cf ?_)))))))
 have dJ:=ay.pk [0,1]
 exact Cm (j+1) ⟨rfl,rfl,rfl,rfl,rfl,rfl,rfl,rfl,rfl,rfl,rfl,rfl,rfl,rfl,rfl,rfl,rfl,rfl,rfl,rfl,rfl,rfl,rfl,rfl,rfl,rfl,rfl,rfl,rfl,rfl,rfl,rfl,rfl,rfl,rfl,rfl,rfl,rfl,rfl,rfl,rfl,rfl,rfl,rfl,rfl,rfl,rfl,rfl,trivial⟩ (aJ.2 ⟨dJ,by omega,et (ak) (et (congrArg (fun q=>bC d b (Co a) q j) aK) (et (ag av) (et (ip J) (et (ip B) (et (ag (cu aG)) (iN aM))))))⟩) (by show a.aa.ls.length - (j+1) < a.aa.ls.length - j; omega)
 refine Sz (dF B) (Sz (dF B) (Sz (dF B) (Sz (dF B) (Sz (dF B) (Sz (dF B) (Sz (dF B) (Sz (dF B) (gw (.bool false) (cn J) (BQ rfl (dF B) rfl) (fw (.bool false) (BQ rfl (cn J) rfl) (nt (jf (CW (bN (Ca (BR (fw (.int .i64 ((j+1:Nat):Int)) (Ci (e:=IntKind.i64.wrap (((j:Nat):Int)+1)) yk (by rw [EL _ (by omega)]; omega)) (Mz rfl (Cf ?_))))))))))))))))))
 have dK:=ay.pk [0,1]
 exact Cm (j+1) ⟨rfl,rfl,rfl,rfl,rfl,rfl,rfl,rfl,rfl,rfl,rfl,rfl,rfl,rfl,rfl,rfl,rfl,rfl,rfl,rfl,rfl,rfl,rfl,rfl,rfl,rfl,rfl,rfl,rfl,rfl,rfl,rfl,rfl,rfl,rfl,rfl,rfl,rfl,rfl,rfl,rfl,rfl,rfl,rfl,rfl,rfl,rfl,rfl,trivial⟩ (aJ.2 ⟨dK,by omega,et (ak) (et (congrArg (fun q=>bC d b (Co a) q j) aK) (et (ag av) (et (ip J) (iN B))))⟩) (by show a.aa.ls.length - (j+1) < a.aa.ls.length - j; omega)
 refine Sz (cn J) (Sz (cn J) (Sz (cn J) (BV rfl rfl rfl (BV rfl rfl rfl (BV rfl rfl rfl (BV rfl rfl rfl (BV rfl rfl rfl (BV rfl rfl rfl (BV rfl rfl rfl (BV rfl rfl rfl (Sz (cn J) (fw (.bool true) (BZ rfl (cn J) rfl) (nt (jt (sr (An rfl (rt (bR (tR (tR (bR (bR (tR (tR (bR (tR (rs ?_)))))))))))))))))))))))))))
 have dL:=ay.pk []
 obtain rfl:_=false:=hr.symm.trans (et (iN L) (ic (et (z) (et (congrArg (fun q=>bD d q b) C) (et (ip n) (et (ag (cu T)) (et (iN y) (et (iN aj) (et (ag Y) (et (ip K) (et (iN aO) (nK (et (ak) (et (congrArg (fun q=>bC d b (Co a) q j) aK) (et (ag av) (jE J))))))))))))))))
 exact⟨rfl,dL⟩
 refine jF (dF dC) (Wp.exit (Cb ?_))
 have bF:bC d b (Co a) a.aa.ls 0=Sum.inl ():=et (ak) (et (congrArg (fun q=>bC d b (Co a) q j) (bM (ls:=a.aa.ls) (i:=j) (by omega))) rfl)
 refine Cb (Cn (bN (Ca (BR (fw (.int .i64 ((b+1:Nat):Int)) (Ci (e:=IntKind.i64.wrap (((b:Nat):Int)+1)) yk (by rw [EL _ (by omega)]; omega)) (Mz rfl (Cf ?_)))))))
 have dM:=aP.pk [1]
 exact Cm (b+1) ⟨rfl,rfl,rfl,rfl,rfl,trivial⟩ (aI.2 ⟨dM,by omega,et (z) (et (congrArg (fun q=>bD d q b) C) (et (ip n) (et (ag (cu T)) (et (iN y) (et (iN aj) (et (ag Y) (et (ip K) (et (iN aO) (pO bF)))))))))⟩) (by show d.af.ls.length - (b+1) < d.af.ls.length - b; omega)
 refine Sz (cn K) (Sz (cn K) (Sz (cn K) (Sz (cn K) (fw (.bool true) (BZ rfl (cn K) rfl) (nt (jt (sr (An rfl (rt (tR (bR (tR (tR (bR (tR (rs ?_))))))))))))))))
 have dN:=aV.pk []
 obtain rfl:_=false:=hr.symm.trans (et (iN L) (ic (et (z) (et (congrArg (fun q=>bD d q b) C) (et (ip n) (et (ag (cu T)) (et (iN y) (et (iN aj) (et (ag Y) (jE K))))))))))
 exact⟨rfl,dN⟩
 refine BP (rs:= []) 3 rfl rfl rfl (dF n) (by kernel_rfl) (BP (rs:= []) 4 rfl rfl rfl (dF n) (by kernel_rfl) (BP (rs:= []) 5 rfl rfl rfl (dF n) (by kernel_rfl) (BP (rs:= []) 6 rfl rfl rfl (dF n) (by kernel_rfl) (BP (rs:= []) 7 rfl rfl rfl (dF n) (by kernel_rfl) (BP (rs:= []) 8 rfl rfl rfl (dF n) (by kernel_rfl) (BP (rs:= []) 9 rfl rfl rfl (dF n) (by kernel_rfl) (BP (rs:= []) 10 rfl rfl rfl (dF n) (by kernel_rfl) (BP (rs:= []) 11 rfl rfl rfl (dF n) (by kernel_rfl) (BP (rs:= []) 12 rfl rfl rfl (dF n) (by kernel_rfl) (GX.take (v:= .bool false) (rs:= []) 13 rfl (by kernel_rfl) (fun _ _=>BQ rfl (dF n) rfl) (GX.take (v:= .bool false) (rs:= []) 14 rfl (by kernel_rfl) (fun _ _=>BX rfl) (BU (v:= .pointer (some ⟨h,0,none⟩)) (rs:= []) 15 rfl rfl rfl rfl (by kernel_rfl) (fun _ _=>yk) (BU (v:= .int .u64 ((a.av:Nat):Int)) (rs:= []) 16 rfl rfl rfl rfl (by kernel_rfl) (fun _ ⟨_,H9⟩=>Cc rfl (bi.one Tryz.isAgg22 (Cv (H9.cls (i:=0) rfl) rfl))) (BU (v:= .pointer (some ⟨r,1,none⟩)) (rs:= []) 17 rfl rfl rfl rfl (by kernel_rfl) (fun _ _=>yk) (BU (v:= .int .u64 ((d.aj:Nat):Int)) (rs:= []) 18 rfl rfl rfl rfl (by kernel_rfl) (fun _ ⟨_,H9⟩=>Cc rfl (bi.one Tryz.isAgg22 (Cv (H9.cls (i:=1) rfl) rfl))) (BU (v:= .int .u64 ((Int.toNat (IntKind.u64.wrap (((d.aj:Nat):Int)+1)):Nat):Int)) (rs:= []) 19 rfl rfl rfl rfl (by kernel_rfl) (fun _ _=>Ci (e:=IntKind.u64.wrap (((d.aj:Nat):Int)+1)) yk (di _)) ?_))))))))))))))))
 have eY:aU (Int.toNat (IntKind.u64.wrap (((d.aj:Nat):Int)+1))) 32≤18446744073709551615:=nQ _ _
 refine BU (v:= .int .u64 ((aU (Int.toNat (IntKind.u64.wrap (((d.aj:Nat):Int)+1))) 32:Nat):Int)) (rs:= []) 20 rfl rfl rfl rfl (by kernel_rfl) (fun _ _=>Ci (Dp (m:=32) rfl rfl) (di _)) (BU (v:= .bool (decide (((a.av:Nat):Int) ≥ ((aU (Int.toNat (IntKind.u64.wrap (((d.aj:Nat):Int)+1))) 32:Nat):Int)))) (rs:= []) 21 rfl rfl rfl rfl (by kernel_rfl) (fun _ _=>yk) (GX.take (v:= .bool (decide (((a.av:Nat):Int) ≥ ((aU (Int.toNat (IntKind.u64.wrap (((d.aj:Nat):Int)+1))) 32:Nat):Int)))) (rs:= []) 22 rfl (by kernel_rfl) (fun _ _=>BQ rfl rfl rfl) (Cx (by kernel_rfl) (Ca ?_))))
 by_cases P:((a.av:Nat):Int) ≥ ((aU (Int.toNat (IntKind.u64.wrap (((d.aj:Nat):Int)+1))) 32:Nat):Int)
 refine jT (dT P) (sr (An rfl (rt (tR (bR (tR (tR (bR (tR (rs ?_))))))))))
 have dO:=X.pk []
 obtain rfl:_=false:=hr.symm.trans (et (iN L) (ic (et (z) (et (congrArg (fun q=>bD d q b) C) (et (iN n) (ip P))))))
 exact⟨rfl,dO⟩
 refine jF (dF P) (sk (BS (sr (Kz (.pointer (some ⟨h,1,none⟩)) (Lz (.int .i64 a.ak) X 0 Tryz.isAgg3 ?_)))))
 obtain⟨M,O⟩:∃ q,cZ a.ak 4=q:=⟨_,rfl⟩
 obtain⟨fK,bJ,eZ,bK,fe⟩:=Ck X
 refine cl Tryz.call38 (jB _ _ a.ak 4 M bJ O) ?_
 rintro _ fM ⟨rfl,bL⟩
 have aA:=bK _ _ bL
 refine Kz (.bool (!M)) (Mz rfl ?_)
 rcases EO (M) with t | t
 refine Gz (.pointer (some ⟨h,4,none⟩)) (cn t) (Gl (.slice a.aa.A a.aa.ls.length a.aa.c) (cn t) aA 0 Tryz.isAgg77 (Gz (.int .i64 ((a.aa.ls.length:Nat):Int)) (cn t) (Gz (.bool (decide (((a.aa.ls.length:Nat):Int)=0))) (cn t) (fw (.bool (decide (((a.aa.ls.length:Nat):Int)=0))) (BQ rfl (cn t) rfl) (nt ?_)))))
 by_cases Z:((a.aa.ls.length:Nat):Int)=0
 refine jT (dT Z) (sr (An rfl (rt (tR (bR (tR (tR (bR (tR (rs ?_))))))))))
 have dP:=aA.pk []
 obtain rfl:_=false:=hr.symm.trans (et (iN L) (ic (et (z) (et (congrArg (fun q=>bD d q b) C) (et (iN n) (et (iN P) (et (ag O) (et (ip t) (ip Z)))))))))
 exact⟨rfl,dP⟩
 refine jF (dF Z) (sk (sr (Kz (.pointer (some ⟨h,4,none⟩)) (Lz (.slice a.aa.A a.aa.ls.length a.aa.c) aA 0 Tryz.isAgg77 (Kz (.int .i64 ((a.aa.ls.length:Nat):Int)) (Mn rfl (bo ?_)))))))
 have dQ:=aA.pk [0,1]
 obtain⟨bq,bO⟩:∃ q:Nat→World→Prop,q=fun(i:Nat) w'=>Own w D w' [blk h (ax.cells a) 79,blk r [.int .i64 d.aa, .int .u64 ((d.aj:Nat):Int), .int .u64 ((d.aR:Nat):Int), .int .u64 ((d.aH:Nat):Int), .slice E d.ai.ls.length F, .slice f d.af.ls.length l, .slice G d.aB.ls.length I] 35]∧(i≤a.aa.ls.length∧eF d b (Co a) a.aa.ls 0=eF d b (Co a) (List.drop i a.aa.ls) i):=⟨_,rfl⟩
 have af:∀ {g:Nat} {w':World},bq g w'↔Own w D w' [blk h (ax.cells a) 79,blk r [.int .i64 d.aa, .int .u64 ((d.aj:Nat):Int), .int .u64 ((d.aR:Nat):Int), .int .u64 ((d.aH:Nat):Int), .slice E d.ai.ls.length F, .slice f d.af.ls.length l, .slice G d.aB.ls.length I] 35]∧g≤a.aa.ls.length∧eF d b (Co a) a.aa.ls 0=eF d b (Co a) (List.drop g a.aa.ls) g:=by intros; subst bO; exact Iff.rfl
 refine Wp.loop (fun i:Nat=> [(2, .bool false),(55, .int .i64 ((i:Nat):Int)),(54, .int .i64 ((a.aa.ls.length:Nat):Int)),(53, .slice a.aa.A a.aa.ls.length a.aa.c),(52, .pointer (some ⟨h,4,none⟩)),(51, .bool (decide (((a.aa.ls.length:Nat):Int)=0))),(50, .bool (decide (((a.aa.ls.length:Nat):Int)=0))),(49, .int .i64 ((a.aa.ls.length:Nat):Int)),(48, .slice a.aa.A a.aa.ls.length a.aa.c),(47, .pointer (some ⟨h,4,none⟩)),(46, .bool (!M)),(45, .bool (!M)),(44, .bool M),(43, .int .i64 a.ak),(42, .pointer (some ⟨h,1,none⟩)),(41, .bool (decide (((a.av:Nat):Int) ≥ ((aU (Int.toNat (IntKind.u64.wrap (((d.aj:Nat):Int)+1))) 32:Nat):Int)))),(40, .bool (decide (((a.av:Nat):Int) ≥ ((aU (Int.toNat (IntKind.u64.wrap (((d.aj:Nat):Int)+1))) 32:Nat):Int)))),(39, .int .u64 ((aU (Int.toNat (IntKind.u64.wrap (((d.aj:Nat):Int)+1))) 32:Nat):Int)),(38, .int .u64 ((Int.toNat (IntKind.u64.wrap (((d.aj:Nat):Int)+1)):Nat):Int)),(37, .int .u64 ((d.aj:Nat):Int)),(36, .pointer (some ⟨r,1,none⟩)),(35, .int .u64 ((a.av:Nat):Int)),(34, .pointer (some ⟨h,0,none⟩)),(33, .bool false),(32, .bool false),(31,undef),(30,undef),(29,undef),(28,undef),(27,undef),(26,undef),(25,undef),(24,undef),(23,undef),(22,undef),(21, .bool (decide (((b:Nat):Int) > 0))),(20, .bool (decide (((b:Nat):Int) > 0))),(19, .int .i64 ((b:Nat):Int)),(3, .int .i64 ((b:Nat):Int)),(4, .pointer (some ⟨h,0,none⟩)),(18, .agg (ax.cells a).toArray),(17, .pointer (some ⟨ab f,ao f+b *5,none⟩)),(16, .int .i64 ((b:Nat):Int)),(15, .bool (decide (((b:Nat):Int) < ((d.af.ls.length:Nat):Int)))),(14, .int .i64 ((b:Nat):Int)),(13, .int .i64 ((d.af.ls.length:Nat):Int)),(12, .slice f d.af.ls.length l),(1, .pointer (some ⟨r,0,none⟩))]) bq (fun i=>a.aa.ls.length - i) 0 ⟨rfl,rfl,rfl,rfl,rfl,rfl,rfl,rfl,rfl,rfl,rfl,rfl,rfl,rfl,rfl,rfl,rfl,rfl,rfl,rfl,rfl,rfl,rfl,rfl,rfl,rfl,rfl,rfl,rfl,rfl,rfl,rfl,rfl,rfl,rfl,rfl,rfl,rfl,rfl,rfl,rfl,rfl,rfl,rfl,rfl,rfl,rfl,rfl,trivial⟩ (af.2 ⟨dQ,by omega,rfl⟩) ?_
 rintro g fO bQ
 show Wp _ _ _ [(2, .bool false),(55, .int .i64 ((g:Nat):Int)),(54, .int .i64 ((a.aa.ls.length:Nat):Int)),(53, .slice a.aa.A a.aa.ls.length a.aa.c),(52, .pointer (some ⟨h,4,none⟩)),(51, .bool (decide (((a.aa.ls.length:Nat):Int)=0))),(50, .bool (decide (((a.aa.ls.length:Nat):Int)=0))),(49, .int .i64 ((a.aa.ls.length:Nat):Int)),(48, .slice a.aa.A a.aa.ls.length a.aa.c),(47, .pointer (some ⟨h,4,none⟩)),(46, .bool (!M)),(45, .bool (!M)),(44, .bool M),(43, .int .i64 a.ak),(42, .pointer (some ⟨h,1,none⟩)),(41, .bool (decide (((a.av:Nat):Int) ≥ ((aU (Int.toNat (IntKind.u64.wrap (((d.aj:Nat):Int)+1))) 32:Nat):Int)))),(40, .bool (decide (((a.av:Nat):Int) ≥ ((aU (Int.toNat (IntKind.u64.wrap (((d.aj:Nat):Int)+1))) 32:Nat):Int)))),(39, .int .u64 ((aU (Int.toNat (IntKind.u64.wrap (((d.aj:Nat):Int)+1))) 32:Nat):Int)),(38, .int .u64 ((Int.toNat (IntKind.u64.wrap (((d.aj:Nat):Int)+1)):Nat):Int)),(37, .int .u64 ((d.aj:Nat):Int)),(36, .pointer (some ⟨r,1,none⟩)),(35, .int .u64 ((a.av:Nat):Int)),(34, .pointer (some ⟨h,0,none⟩)),(33, .bool false),(32, .bool false),(31,undef),(30,undef),(29,undef),(28,undef),(27,undef),(26,undef),(25,undef),(24,undef),(23,undef),(22,undef),(21, .bool (decide (((b:Nat):Int) > 0))),(20, .bool (decide (((b:Nat):Int) > 0))),(19, .int .i64 ((b:Nat):Int)),(3, .int .i64 ((b:Nat):Int)),(4, .pointer (some ⟨h,0,none⟩)),(18, .agg (ax.cells a).toArray),(17, .pointer (some ⟨ab f,ao f+b *5,none⟩)),(16, .int .i64 ((b:Nat):Int)),(15, .bool (decide (((b:Nat):Int) < ((d.af.ls.length:Nat):Int)))),(14, .int .i64 ((b:Nat):Int)),(13, .int .i64 ((d.af.ls.length:Nat):Int)),(12, .slice f d.af.ls.length l),(1, .pointer (some ⟨r,0,none⟩))] _ _
 obtain⟨aa,fo,U⟩:=af.1 bQ
 refine sr (Kz (.bool (decide (((g:Nat):Int) < ((a.aa.ls.length:Nat):Int)))) (nt (BS ?_)))
 by_cases bu:((g:Nat):Int) < ((a.aa.ls.length:Nat):Int)
 obtain⟨Q,aW⟩:=bU (ls:=a.aa.ls) (i:=g) gu (by decide) (aa.ro (p _ (List.mem_of_getElem? u)).1) (by first | omega | (simp; done) | (simp; omega))
 have ah:=drop_at aW
 refine jT (dT bu) (sk (BS (bo (sr (Mz rfl (fw (.pointer (some ⟨ab a.aa.A,ao a.aa.A+g *1,none⟩)) (Ch (lU) rfl rfl ((aa.ro (p _ (List.mem_of_getElem? u)).1).addr (i:=g) (by omega)) (by omega)) (fw (.int .i64 Q) (Cc rfl (bi.one Tryz.isAgg3 (((aa.ro (p _ (List.mem_of_getElem? u)).1).elem gu aW (by decide)).at_ (k:=0) rfl))) (Az rfl (Ar rfl (Mz rfl (Kz (.pointer (some ⟨r,0,none⟩)) (Lz (.int .i64 d.aa) aa 1 Tryz.isAgg3 ?_))))))))))))
 obtain⟨aX,V⟩:∃ q,cZ Q d.aa=q:=⟨_,rfl⟩
 obtain⟨fP,bS,fq,bT,fu⟩:=Ck aa
 refine cl Tryz.call38 (jB _ _ Q d.aa aX bS V) ?_
 rintro _ fQ ⟨rfl,bV⟩
 have R:=bT _ _ bV
 refine Kz (.bool (!aX)) (Mz rfl ?_)
 rcases EO (aX) with s | s
 refine gw (.int .i64 ((g:Nat):Int)) (cn s) (BX rfl) (Gz (.bool (decide (((g:Nat):Int) > 0))) (cn s) (gw (.bool (decide (((g:Nat):Int) > 0))) (cn s) (BX rfl) ?_))
 by_cases o:((g:Nat):Int) > 0
 refine gw (.int .i64 Q) (dT o) (BX rfl) (Gz (.pointer (some ⟨h,4,none⟩)) (dT o) (Gl (.slice a.aa.A a.aa.ls.length a.aa.c) (dT o) R 0 Tryz.isAgg77 (gw (.int .i64 ((g:Nat):Int)) (dT o) (BX rfl) (gw (.int .i64 ((g - 1:Nat):Int)) (dT o) (Ci (e:=IntKind.i64.wrap (((g:Nat):Int) - 1)) yk (by rw [EL _ (by omega)]; omega)) ?_))))
 obtain⟨aB,aH⟩:=bU (ls:=a.aa.ls) (i:=g - 1) gu (by decide) (R.ro (p _ (List.mem_of_getElem? u)).1) (by first | omega | (simp; done) | (simp; omega))
 refine gw (.pointer (some ⟨ab a.aa.A,ao a.aa.A+(g - 1) *1,none⟩)) (dT o) (Ch (lU) rfl rfl ((R.ro (p _ (List.mem_of_getElem? u)).1).addr (i:=g - 1) (by omega)) (by omega)) (gw (.int .i64 aB) (dT o) (Cc rfl (bi.one Tryz.isAgg3 (((R.ro (p _ (List.mem_of_getElem? u)).1).elem gu aH (by decide)).at_ (k:=0) rfl))) (Gz (.bool (decide (Q≤aB))) (dT o) (gw (.bool (decide (Q≤aB))) (cn s) (BZ rfl (dT o) rfl) (fw (.bool (decide (Q≤aB))) (BQ rfl (cn s) rfl) (nt ?_)))))
 by_cases aN:Q≤aB
 refine jT (dT aN) (sr (An rfl (rt (bR (tR (tR (bR (bR (tR (tR (bR (tR (rs ?_)))))))))))))
 have dR:=R.pk []
 obtain rfl:_=false:=hr.symm.trans (et (iN L) (ic (et (z) (et (congrArg (fun q=>bD d q b) C) (et (iN n) (et (iN P) (et (ag O) (et (ip t) (et (iN Z) (nK (et (U) (et (congrArg (fun q=>eF d b (Co a) q g) ah) (et (ag V) (et (ip s) (et (ip o) (et (ag (cu aH)) (ip aN)))))))))))))))))
 exact⟨rfl,dR⟩
 refine jF (dF aN) (CW (bN (Ca (BR (fw (.int .i64 ((g+1:Nat):Int)) (Ci (e:=IntKind.i64.wrap (((g:Nat):Int)+1)) yk (by rw [EL _ (by omega)]; omega)) (Mz rfl (Cf ?_)))))))
 have dS:=R.pk [0,1]
 exact Cm (g+1) ⟨rfl,rfl,rfl,rfl,rfl,rfl,rfl,rfl,rfl,rfl,rfl,rfl,rfl,rfl,rfl,rfl,rfl,rfl,rfl,rfl,rfl,rfl,rfl,rfl,rfl,rfl,rfl,rfl,rfl,rfl,rfl,rfl,rfl,rfl,rfl,rfl,rfl,rfl,rfl,rfl,rfl,rfl,rfl,rfl,rfl,rfl,rfl,rfl,trivial⟩ (af.2 ⟨dS,by omega,et (U) (et (congrArg (fun q=>eF d b (Co a) q g) ah) (et (ag V) (et (ip s) (et (ip o) (et (ag (cu aH)) (iN aN))))))⟩) (by show a.aa.ls.length - (g+1) < a.aa.ls.length - g; omega)
 refine Sz (dF o) (Sz (dF o) (Sz (dF o) (Sz (dF o) (Sz (dF o) (Sz (dF o) (Sz (dF o) (Sz (dF o) (gw (.bool false) (cn s) (BQ rfl (dF o) rfl) (fw (.bool false) (BQ rfl (cn s) rfl) (nt (jf (CW (bN (Ca (BR (fw (.int .i64 ((g+1:Nat):Int)) (Ci (e:=IntKind.i64.wrap (((g:Nat):Int)+1)) yk (by rw [EL _ (by omega)]; omega)) (Mz rfl (Cf ?_))))))))))))))))))
 have dU:=R.pk [0,1]
 exact Cm (g+1) ⟨rfl,rfl,rfl,rfl,rfl,rfl,rfl,rfl,rfl,rfl,rfl,rfl,rfl,rfl,rfl,rfl,rfl,rfl,rfl,rfl,rfl,rfl,rfl,rfl,rfl,rfl,rfl,rfl,rfl,rfl,rfl,rfl,rfl,rfl,rfl,rfl,rfl,rfl,rfl,rfl,rfl,rfl,rfl,rfl,rfl,rfl,rfl,rfl,trivial⟩ (af.2 ⟨dU,by omega,et (U) (et (congrArg (fun q=>eF d b (Co a) q g) ah) (et (ag V) (et (ip s) (iN o))))⟩) (by show a.aa.ls.length - (g+1) < a.aa.ls.length - g; omega)
 refine Sz (cn s) (Sz (cn s) (Sz (cn s) (BV rfl rfl rfl (BV rfl rfl rfl (BV rfl rfl rfl (BV rfl rfl rfl (BV rfl rfl rfl (BV rfl rfl rfl (BV rfl rfl rfl (BV rfl rfl rfl (Sz (cn s) (fw (.bool true) (BZ rfl (cn s) rfl) (nt (jt (sr (An rfl (rt (bR (tR (tR (bR (bR (tR (tR (bR (tR (rs ?_)))))))))))))))))))))))))))
 have dV:=R.pk []
 obtain rfl:_=false:=hr.symm.trans (et (iN L) (ic (et (z) (et (congrArg (fun q=>bD d q b) C) (et (iN n) (et (iN P) (et (ag O) (et (ip t) (et (iN Z) (nK (et (U) (et (congrArg (fun q=>eF d b (Co a) q g) ah) (et (ag V) (jE s))))))))))))))
 exact⟨rfl,dV⟩
 refine jF (dF bu) (Wp.exit (Cb ?_))
 have bW:eF d b (Co a) a.aa.ls 0=Sum.inl ():=et (U) (et (congrArg (fun q=>eF d b (Co a) q g) (bM (ls:=a.aa.ls) (i:=g) (by omega))) rfl)
 refine Cb (Cn (bN (Ca (BR (fw (.int .i64 ((b+1:Nat):Int)) (Ci (e:=IntKind.i64.wrap (((b:Nat):Int)+1)) yk (by rw [EL _ (by omega)]; omega)) (Mz rfl (Cf ?_)))))))
 have dW:=aa.pk [1]
 exact Cm (b+1) ⟨rfl,rfl,rfl,rfl,rfl,trivial⟩ (aI.2 ⟨dW,by omega,et (z) (et (congrArg (fun q=>bD d q b) C) (et (iN n) (et (iN P) (et (ag O) (et (ip t) (et (iN Z) (pO bW)))))))⟩) (by show d.af.ls.length - (b+1) < d.af.ls.length - b; omega)
 refine Sz (cn t) (Sz (cn t) (Sz (cn t) (Sz (cn t) (fw (.bool true) (BZ rfl (cn t) rfl) (nt (jt (sr (An rfl (rt (tR (bR (tR (tR (bR (tR (rs ?_))))))))))))))))
 have dX:=aA.pk []
 obtain rfl:_=false:=hr.symm.trans (et (iN L) (ic (et (z) (et (congrArg (fun q=>bD d q b) C) (et (iN n) (et (iN P) (et (ag O) (jE t))))))))
 exact⟨rfl,dX⟩
 refine jF (dF cK) (Wp.exit (Cb ?_))
 have bX:bD d d.af.ls 0=Sum.inl ():=et (z) (et (congrArg (fun q=>bD d q b) (bM (ls:=d.af.ls) (i:=b) (by omega))) rfl)
 refine Cb (Cn (Ca (sr (An rfl (rt (rs ?_))))))
 have dY:=aR.pk []
 obtain rfl:_=true:=hr.symm.trans (et (iN L) (mF bX))
 exact⟨rfl,dY⟩
def dO:List bH→Unit ⊕ Bool
  | []=>Sum.inl ()
  | a::c=>bnd (bY a.aV) fun b=>if b=0 then if((a.aC.length:Nat):Int) > 16 then Sum.inr (false) else dO c else Sum.inr (false)
def dY (a:cK):Bool:=
 if((a.aC.length:Nat):Int) > 16 then false else if((a.aA.ls.length:Nat):Int) > 4 then false else lp (dO a.aA.ls) fun _=>true
theorem nA (w:World) (D:Nat→Prop) (a:cK) (b:Option Addr) (x f:Nat) (X:Bool) (H:Own w D w []) (A:x=a.aA.ls.length) (j:Ro w D fun w'=>bG w' 2 b a.aA.ls.length (List.flatMap bH.cells a.aA.ls)) (O:a.aA.ls.length≤f∧a.aA.ls.length≤9223372036854775807) (hr:dY a=X):
    Calls Tryz.prog 89 #[.agg #[.bool a.eT, .string ⟨List.toArray a.aC⟩, .slice b x f]] w (dE fun v w'=>v= .bool X∧Own w D w' []):=by
 subst A
 refine Ce (args:= [.agg #[.bool a.eT, .string ⟨List.toArray a.aC⟩, .slice b a.aA.ls.length f]]) Tryz.func89 rfl rfl rfl ?_
 show Wp _ _ _ [(0, .agg #[.bool a.eT, .string ⟨List.toArray a.aC⟩, .slice b a.aA.ls.length f])] _ _
 refine sr ?_
 refine dB [.bool a.eT, .string ⟨List.toArray a.aC⟩, .slice b a.aA.ls.length f] 129 H ?_
 intro B ae m
 refine An rfl (BS (sr (Kz (.pointer (some ⟨B,1,none⟩)) (Lz (.string ⟨List.toArray a.aC⟩) m 0 Tryz.isAgg9 (Kz (.int .i64 ((a.aC.length:Nat):Int)) (Kz (.bool (decide (((a.aC.length:Nat):Int) > 16))) (Mz rfl ?_)))))))
 by_cases d:((a.aC.length:Nat):Int) > 16
 refine Sz (dT d) (Sz (dT d) (Sz (dT d) (Sz (dT d) (fw (.bool true) (BZ rfl (dT d) rfl) (nt (jt (sr (An rfl (rt (tR (rs ?_)))))))))))
 have P:=m.pk []
 obtain rfl:_=false:=hr.symm.trans (ip d)
 exact⟨rfl,P⟩
 refine Gz (.pointer (some ⟨B,2,none⟩)) (dF d) (Gl (.slice b a.aA.ls.length f) (dF d) m 0 Tryz.isAgg127 (Gz (.int .i64 ((a.aA.ls.length:Nat):Int)) (dF d) (Gz (.bool (decide (((a.aA.ls.length:Nat):Int) > 4))) (dF d) (fw (.bool (decide (((a.aA.ls.length:Nat):Int) > 4))) (BQ rfl (dF d) rfl) (nt ?_)))))
 by_cases n:((a.aA.ls.length:Nat):Int) > 4
 refine jT (dT n) (sr (An rfl (rt (tR (rs ?_)))))
 have Q:=m.pk []
 obtain rfl:_=false:=hr.symm.trans (et (iN d) (ip n))
 exact⟨rfl,Q⟩
 refine jF (dF n) (sk (BS (sr (Kz (.pointer (some ⟨B,2,none⟩)) (Lz (.slice b a.aA.ls.length f) m 0 Tryz.isAgg127 (Kz (.int .i64 ((a.aA.ls.length:Nat):Int)) (Mn rfl (bo ?_))))))))
 have R:=m.pk []
 obtain⟨C,E⟩:∃ q:Nat→World→Prop,q=fun(i:Nat) w'=>Own w D w' []∧(i≤a.aA.ls.length∧dO a.aA.ls=dO (List.drop i a.aA.ls)):=⟨_,rfl⟩
 have o:∀ {c:Nat} {w':World},C c w'↔Own w D w' []∧c≤a.aA.ls.length∧dO a.aA.ls=dO (List.drop c a.aA.ls):=by intros; subst E; exact Iff.rfl
 refine Wp.loop (fun i:Nat=> [(2, .bool false),(18, .int .i64 ((i:Nat):Int)),(17, .int .i64 ((a.aA.ls.length:Nat):Int)),(16, .slice b a.aA.ls.length f)]) C (fun i=>a.aA.ls.length - i) 0 ⟨rfl,rfl,rfl,rfl,trivial⟩ (o.2 ⟨R,by omega,rfl⟩) ?_
 rintro c af F
 show Wp _ _ _ [(2, .bool false),(18, .int .i64 ((c:Nat):Int)),(17, .int .i64 ((a.aA.ls.length:Nat):Int)),(16, .slice b a.aA.ls.length f)] _ _
 obtain⟨p,Y,k⟩:=o.1 F
 refine sr (Kz (.bool (decide (((c:Nat):Int) < ((a.aA.ls.length:Nat):Int)))) (nt (BS ?_)))
 by_cases G:((c:Nat):Int) < ((a.aA.ls.length:Nat):Int)
 obtain⟨g,y⟩:=bU (ls:=a.aA.ls) (i:=c) bH.len (by decide) (p.ro j) (by first | omega | (simp; done) | (simp; omega))
 have r:=drop_at y
 refine jT (dT G) (sk (BS (bo (sr (fw (.pointer (some ⟨ab b,ao b+c *2,none⟩)) (Ch (qR) rfl rfl ((p.ro j).addr (i:=c) (by omega)) (by omega)) (fw (.agg (bH.cells g).toArray) (Cc rfl (Cu (cs:=(bH.cells g)) Tryz.isAgg133 Tryz.sizeOf133 ((p.ro j).elem bH.len y (by decide)))) ?_))))))
 refine dB [.string ⟨List.toArray ([])⟩, .string ⟨List.toArray ([])⟩] 133 p ?_
 intro I ah S
 refine dw (bH.cells g) 0 S Tryz.sizeOf133 ?_
 intro ai J
 refine ns (Kz (.pointer (some ⟨I,0,none⟩)) (Lz (.string ⟨List.toArray g.aV⟩) J 0 Tryz.isAgg9 ?_))
 obtain⟨s,l⟩:∃ q,bY g.aV=q:=⟨_,rfl⟩
 obtain⟨aj,K,Z,L,aa⟩:=Ck J
 refine cl Tryz.call83 (jZ _ _ g.aV s K l) ?_
 rintro _ ak ⟨rfl,M,z⟩
 have t:=L _ _ M
 replace z: ¬ (s=0)∨(1≤g.aV.length∧g.aV.length≤12):=z
 refine fw (.bool (decide (¬ (s=0)))) (Cy (e:= !(decide (s=0))) yk decide_not.symm) (Mz rfl ?_)
 by_cases h:s=0
 refine gw (.pointer (some ⟨I,1,none⟩)) (dF (EN h)) yk (gw (.string ⟨List.toArray g.aC⟩) (dF (EN h)) (Cc rfl (bi.one Tryz.isAgg9 (Cv (t.cls (i:=0) rfl) rfl))) (gw (.int .i64 ((g.aC.length:Nat):Int)) (dF (EN h)) yk (gw (.bool (decide (((g.aC.length:Nat):Int) > 16))) (dF (EN h)) yk (fw (.bool (decide (((g.aC.length:Nat):Int) > 16))) (BQ rfl (dF (EN h)) rfl) (nt ?_)))))
 by_cases u:((g.aC.length:Nat):Int) > 16
 refine jT (dT u) (sr (An rfl (rt (bR (tR (tR (bR (tR (rs ?_)))))))))
 have T:=t.pk []
 obtain rfl:_=false:=hr.symm.trans (et (iN d) (et (iN n) (ic (et (k) (et (congrArg (fun q=>dO q) r) (et (ag l) (et (ip h) (ip u))))))))
 exact⟨rfl,T⟩
 refine jF (dF u) (CW (bN (Ca (BR (fw (.int .i64 ((c+1:Nat):Int)) (Ci (e:=IntKind.i64.wrap (((c:Nat):Int)+1)) yk (by rw [EL _ (by omega)]; omega)) (Mz rfl (Cf ?_)))))))
 have U:=t.pk []
 exact Cm (c+1) ⟨rfl,rfl,rfl,rfl,trivial⟩ (o.2 ⟨U,by omega,et (k) (et (congrArg (fun q=>dO q) r) (et (ag l) (et (ip h) (iN u))))⟩) (by show a.aA.ls.length - (c+1) < a.aA.ls.length - c; omega)
 refine Sz (dT h) (Sz (dT h) (Sz (dT h) (Sz (dT h) (fw (.bool true) (BZ rfl (dT h) rfl) (nt (jt (sr (An rfl (rt (bR (tR (tR (bR (tR (rs ?_)))))))))))))))
 have V:=t.pk []
 obtain rfl:_=false:=hr.symm.trans (et (iN d) (et (iN n) (ic (et (k) (et (congrArg (fun q=>dO q) r) (et (ag l) (iN h)))))))
 exact⟨rfl,V⟩
 refine jF (dF G) (Wp.exit (Cb ?_))
 have N:dO a.aA.ls=Sum.inl ():=et (k) (et (congrArg (fun q=>dO q) (bM (ls:=a.aA.ls) (i:=c) (by omega))) rfl)
 refine Cb (Cn (Ca (sr (An rfl (rt (rs ?_))))))
 have W:=p.pk []
 obtain rfl:_=true:=hr.symm.trans (et (iN d) (et (iN n) (mF N)))
 exact⟨rfl,W⟩
def dn (e:Nat) (c:eD):Nat→Nat→Unit ⊕ Bool
  | 0,b=>Sum.inl ()
  | f+1,b=>bnd (List.getD c.au.ls b default) fun a=>bnd (dY (cK.mk a.eT a.aC (Ll.mk a.aA.ls))) fun d=>if d=true then dn e c f (b+1) else Sum.inr (false)
def gI (f:Nat) (d:eD):Nat→Nat→Unit ⊕ Bool
  | 0,b=>Sum.inl ()
  | e+1,b=>bnd (List.getD d.au.ls b default) fun a=>bnd (dY (cK.mk a.eT a.aC (Ll.mk a.aA.ls))) fun c=>if c=true then gI f d e (b+1) else Sum.inr (false)
def bX (f:List eD):List eD→Nat→Unit ⊕ Bool
  | [],b=>Sum.inl ()
  | a::c,b=>bnd (cZ a.ak 4) fun d=>if d=true then if((b:Nat):Int) > 0 then bnd (List.getD f (b - 1) default) fun e=>if a.ak≤e.ak then Sum.inr (false) else if((a.au.ls.length:Nat):Int) > 4 then Sum.inr (false) else lv (dn b a a.au.ls.length 0) fun _=>bX f c (b+1) else if((a.au.ls.length:Nat):Int) > 4 then Sum.inr (false) else lv (gI b a a.au.ls.length 0) fun _=>bX f c (b+1) else Sum.inr (false)
def kg (a:List eD):Bool:=
 if((a.length:Nat):Int) > 4 then false else lp (bX a a 0) fun _=>true
theorem qY (w:World) (D:Nat→Prop) (o:Option Addr) (n0 I:Nat) (d0:List aT) (f:List eD) (r0:Bool) (H:Own w D w []) (az:List.map Cz d0=f) (T:Ro w D fun w'=>bG w' 4 o n0 (List.flatMap aT.cells d0)) (C:∀ x ∈ d0,Ro w D (fun w'=>bG w' 3 x.au.A x.au.ls.length (List.flatMap aD.cells x.au.ls))∧(x.au.ls.length≤x.au.c∧x.au.ls.length≤9223372036854775807)∧(∀ y1 ∈ x.au.ls,Ro w D (fun w'=>bG w' 2 y1.aA.A y1.aA.ls.length (List.flatMap bH.cells y1.aA.ls))∧(y1.aA.ls.length≤y1.aA.c∧y1.aA.ls.length≤9223372036854775807))) (bS:n0=f.length) (dU:f.length≤9223372036854775807) (hr:kg f=r0):
    Calls Tryz.prog 47 #[.slice o n0 I] w (dE fun v w'=>v= .bool r0∧Own w D w' []):=by
 subst bS
 have hdl0:=dm az
 refine Ce (args:= [.slice o f.length I]) Tryz.func47 rfl rfl rfl ?_
 show Wp _ _ _ [(0, .slice o f.length I)] _ _
 refine sr (An rfl (BS (sr (Mz rfl (Kz (.int .i64 ((f.length:Nat):Int)) (Kz (.bool (decide (((f.length:Nat):Int) > 4))) (nt ?_)))))))
 by_cases E:((f.length:Nat):Int) > 4
 refine jT (dT E) (sr (An rfl (rt (tR (rs ?_)))))
 have bT:Own w D w []:=H.pk []
 obtain rfl:_=false:=hr.symm.trans (ip E)
 exact⟨rfl,bT⟩
 refine jF (dF E) (sk (BS (sr (Mz rfl (Kz (.int .i64 ((f.length:Nat):Int)) (Mn rfl (bo ?_)))))))
 have bV:Own w D w []:=H.pk []
 obtain⟨aO,aP⟩:∃ q:Nat→World→Prop,q=fun(i:Nat) w'=>Own w D w' []∧(i≤f.length∧bX f f 0=bX f (List.drop i f) i):=⟨_,rfl⟩
 have Q:∀ {b:Nat} {w':World},aO b w'↔Own w D w' []∧b≤f.length∧bX f f 0=bX f (List.drop b f) b:=by intros; subst aP; exact Iff.rfl
 refine Wp.loop (fun i:Nat=> [(2, .bool false),(12, .int .i64 ((i:Nat):Int)),(11, .int .i64 ((f.length:Nat):Int)),(10, .slice o f.length I),(0, .slice o f.length I)]) aO (fun i=>f.length - i) 0 ⟨rfl,rfl,rfl,rfl,rfl,trivial⟩ (Q.2 ⟨bV,by omega,rfl⟩) ?_
 rintro b dV aQ
 show Wp _ _ _ [(2, .bool false),(12, .int .i64 ((b:Nat):Int)),(11, .int .i64 ((f.length:Nat):Int)),(10, .slice o f.length I),(0, .slice o f.length I)] _ _
 obtain⟨U,dA,u⟩:=Q.1 aQ
 refine sr (Kz (.bool (decide (((b:Nat):Int) < ((f.length:Nat):Int)))) (nt (BS ?_)))
 by_cases aR:((b:Nat):Int) < ((f.length:Nat):Int)
 obtain⟨a,p⟩:=bU (ls:=d0) (i:=b) aT.len (by decide) (U.ro T) (by first | omega | (simp; done) | (simp; omega))
 have aS:=jb az p
 have dC:=(C _ (List.mem_of_getElem? p)).2.1
 have dD:List.length (List.map Cj a.au.ls)=a.au.ls.length:=List.length_map ..
 have B:=drop_at aS
 refine jT (dT aR) (sk (BS (bo (sr (Mz rfl (fw (.pointer (some ⟨ab o,ao o+b *4,none⟩)) (Ch (qx) rfl rfl ((U.ro T).addr (i:=b) (by omega)) (by omega)) (fw (.agg (aT.cells a).toArray) (Cc rfl (Cu (cs:=(aT.cells a)) Tryz.isAgg84 Tryz.sizeOf84 ((U.ro T).elem aT.len p (by decide)))) ?_)))))))
 refine dB [.int .i64 0, .int .u64 0, .int .u64 0, .slice none 0 0] 84 U ?_
 intro g dW bW
 refine Az rfl ?_
 refine dw (aT.cells a) 0 bW Tryz.sizeOf84 ?_
 intro bY bZ
 refine nt (BS (BS ?_))
 have aj:=bZ.drew
 refine CP [] (fun W=> ∃ L',Own w D W ([blk g (aT.cells a) 84]++L')) (by kernel_rfl) (by kernel_rfl) (Cs (Cs (bP.block (Cs (Cs (bP.block (Cs CR))))))) ⟨_,aj⟩ ?_
 revert aj
 generalize World.drew bY=dX
 intro aj
 refine GX.take (v:= .pointer (some ⟨g,0,none⟩)) (rs:= []) 0 rfl (by kernel_rfl) (fun _ _=>yk) (GX.take (v:= .int .i64 a.ak) (rs:= []) 1 rfl (by kernel_rfl) (fun _ ⟨_,V⟩=>Cc rfl (bi.one Tryz.isAgg3 (Cv (V.cls (i:=0) rfl) rfl))) ?_)
 obtain⟨s,y⟩:∃ q,cZ a.ak 4=q:=⟨_,rfl⟩
 obtain⟨dZ,aU,dG,aV,dH⟩:=Ck aj
 refine GX.do 2 rfl (by kernel_rfl) (Cq Tryz.call38 rfl (jB _ _ a.ak 4 s aU y) ?_)
 rintro _ d9 ⟨rfl,aW⟩
 have F:=aV _ _ aW
 refine⟨.inr ⟨_,F⟩, ?_⟩
 refine GX.take (v:= .bool (!s)) (rs:= []) 3 rfl (by kernel_rfl) (fun _ _=>yk) (GX.take (v:= .bool (!s)) (rs:= []) 4 rfl (by kernel_rfl) (fun _ _=>BX rfl) ?_)
 rcases EO (s) with m | m
 refine BU (v:= .int .i64 ((b:Nat):Int)) (rs:= []) 5 rfl rfl rfl (cn m) (by kernel_rfl) (fun _ _=>BX rfl) (BU (v:= .bool (decide (((b:Nat):Int) > 0))) (rs:= []) 6 rfl rfl rfl (cn m) (by kernel_rfl) (fun _ _=>yk) (BU (v:= .bool (decide (((b:Nat):Int) > 0))) (rs:= []) 7 rfl rfl rfl (cn m) (by kernel_rfl) (fun _ _=>BX rfl) ?_))
 by_cases h:((b:Nat):Int) > 0
 refine BU (v:= .pointer (some ⟨g,0,none⟩)) (rs:= []) 8 rfl rfl rfl (dT h) (by kernel_rfl) (fun _ _=>yk) (BU (v:= .int .i64 a.ak) (rs:= []) 9 rfl rfl rfl (dT h) (by kernel_rfl) (fun _ ⟨_,V⟩=>Cc rfl (bi.one Tryz.isAgg3 (Cv (V.cls (i:=0) rfl) rfl))) (BU (v:= .slice o f.length I) (rs:= []) 10 rfl rfl rfl (dT h) (by kernel_rfl) (fun _ _=>BX rfl) (BU (v:= .int .i64 ((b:Nat):Int)) (rs:= []) 11 rfl rfl rfl (dT h) (by kernel_rfl) (fun _ _=>BX rfl) (BU (v:= .int .i64 ((b - 1:Nat):Int)) (rs:= []) 12 rfl rfl rfl (dT h) (by kernel_rfl) (fun _ _=>Ci (e:=IntKind.i64.wrap (((b:Nat):Int) - 1)) yk (by rw [EL _ (by omega)]; omega)) ?_))))
 obtain⟨r,X⟩:=oN (ls:=d0) (i:=b - 1) (by first | omega | (simp; done) | (simp; omega))
 have R:=jb az X
 have dI:=(C _ (List.mem_of_getElem? X)).2.1
 have dJ:List.length (List.map Cj r.au.ls)=r.au.ls.length:=List.length_map ..
 refine BU (v:= .pointer (some ⟨ab o,ao o+(b - 1) *4,none⟩)) (rs:= []) 13 rfl rfl rfl (dT h) (by kernel_rfl) (fun _ ⟨_,V⟩=>Ch (qx) rfl rfl ((V.ro T).addr (i:=b - 1) (by omega)) (by omega)) (BU (v:= .pointer (some ⟨ab o,ao o+(b - 1) *4,none⟩)) (rs:= []) 14 rfl rfl rfl (dT h) (by kernel_rfl) (fun _ _=>yk) (BU (v:= .int .i64 r.ak) (rs:= []) 15 rfl rfl rfl (dT h) (by kernel_rfl) (fun _ ⟨_,V⟩=>Cc rfl (bi.one Tryz.isAgg3 (((V.ro T).elem aT.len X (by decide)).at_ (k:=0) rfl))) (BU (v:= .bool (decide (a.ak≤r.ak))) (rs:= []) 16 rfl rfl rfl (dT h) (by kernel_rfl) (fun _ _=>yk) (BU (v:= .bool (decide (a.ak≤r.ak))) (rs:= []) 17 rfl rfl rfl (cn m) (by kernel_rfl) (fun _ _=>BZ rfl (dT h) rfl) (GX.take (v:= .bool (decide (a.ak≤r.ak))) (rs:= []) 18 rfl (by kernel_rfl) (fun _ _=>BQ rfl (cn m) rfl) (GX.take (v:= .bool (decide (a.ak≤r.ak))) (rs:= []) 19 rfl (by kernel_rfl) (fun _ _=>BX rfl) ?_))))))
 by_cases z:a.ak≤r.ak
 refine BP (rs:= []) 20 rfl rfl rfl (dT z) (by kernel_rfl) (BP (rs:= []) 21 rfl rfl rfl (dT z) (by kernel_rfl) (BP (rs:= []) 22 rfl rfl rfl (dT z) (by kernel_rfl) (BP (rs:= []) 23 rfl rfl rfl (dT z) (by kernel_rfl) (GX.take (v:= .bool true) (rs:= []) 24 rfl (by kernel_rfl) (fun _ _=>BZ rfl (dT z) rfl) (Cx (by kernel_rfl) (Ca (jt (sr (An rfl (rt (tR (bR (tR (tR (bR (tR (rs ?_)))))))))))))))))
 have cz:=F.pk []
 obtain rfl:_=false:=hr.symm.trans (et (iN E) (ic (et (u) (et (congrArg (fun q=>bX f q b) B) (et (ag y) (et (ip m) (et (ip h) (et (ag (cu R)) (ip z)))))))))
 exact⟨rfl,cz⟩
 refine BU (v:= .pointer (some ⟨g,3,none⟩)) (rs:= []) 20 rfl rfl rfl (dF z) (by kernel_rfl) (fun _ _=>yk) (BU (v:= .slice a.au.A a.au.ls.length a.au.c) (rs:= []) 21 rfl rfl rfl (dF z) (by kernel_rfl) (fun _ ⟨_,V⟩=>Cc rfl (bi.one Tryz.isAgg82 (Cv (V.cls (i:=0) rfl) rfl))) (BU (v:= .int .i64 ((List.length (List.map Cj a.au.ls):Nat):Int)) (rs:= []) 22 rfl rfl rfl (dF z) (by kernel_rfl) (fun _ _=>Ci (e:=((a.au.ls.length:Nat):Int)) yk (by rw [List.length_map])) (BU (v:= .bool (decide (((List.length (List.map Cj a.au.ls):Nat):Int) > 4))) (rs:= []) 23 rfl rfl rfl (dF z) (by kernel_rfl) (fun _ _=>yk) (GX.take (v:= .bool (decide (((List.length (List.map Cj a.au.ls):Nat):Int) > 4))) (rs:= []) 24 rfl (by kernel_rfl) (fun _ _=>BQ rfl (dF z) rfl) (Cx (by kernel_rfl) (Ca ?_))))))
 by_cases Y:((List.length (List.map Cj a.au.ls):Nat):Int) > 4
 refine jT (dT Y) (sr (An rfl (rt (tR (bR (tR (tR (bR (tR (rs ?_))))))))))
 have cB:=F.pk []
 obtain rfl:_=false:=hr.symm.trans (et (iN E) (ic (et (u) (et (congrArg (fun q=>bX f q b) B) (et (ag y) (et (ip m) (et (ip h) (et (ag (cu R)) (et (iN z) (ip Y))))))))))
 exact⟨rfl,cB⟩
 refine jF (dF Y) (sk (sr (Kz (.pointer (some ⟨g,3,none⟩)) (Lz (.slice a.au.A a.au.ls.length a.au.c) F 0 Tryz.isAgg82 (fw (.int .i64 ((List.length (List.map Cj a.au.ls):Nat):Int)) (Ci (e:=((a.au.ls.length:Nat):Int)) yk (by rw [List.length_map])) (Mn rfl (bo ?_)))))))
 have cO:=F.pk [0]
 obtain⟨aX,aY⟩:∃ q:Nat→World→Prop,q=fun(i:Nat) w'=>Own w D w' [blk g (aT.cells a) 84]∧(i≤List.length (List.map Cj a.au.ls)∧dn b (Cz a) (List.length (List.map Cj a.au.ls)) 0=dn b (Cz a) ((List.length (List.map Cj a.au.ls)) - i) i):=⟨_,rfl⟩
 have Z:∀ {l:Nat} {w':World},aX l w'↔Own w D w' [blk g (aT.cells a) 84]∧l≤List.length (List.map Cj a.au.ls)∧dn b (Cz a) (List.length (List.map Cj a.au.ls)) 0=dn b (Cz a) ((List.length (List.map Cj a.au.ls)) - l) l:=by intros; subst aY; exact Iff.rfl
 refine Wp.loop (fun i:Nat=> [(2, .bool false),(45, .int .i64 ((i:Nat):Int)),(44, .int .i64 ((List.length (List.map Cj a.au.ls):Nat):Int)),(43, .slice a.au.A a.au.ls.length a.au.c),(42, .pointer (some ⟨g,3,none⟩)),(41, .bool (decide (((List.length (List.map Cj a.au.ls):Nat):Int) > 4))),(40, .bool (decide (((List.length (List.map Cj a.au.ls):Nat):Int) > 4))),(39, .int .i64 ((List.length (List.map Cj a.au.ls):Nat):Int)),(38, .slice a.au.A a.au.ls.length a.au.c),(37, .pointer (some ⟨g,3,none⟩)),(36, .bool (decide (a.ak≤r.ak))),(35, .bool (decide (a.ak≤r.ak))),(34, .bool (decide (a.ak≤r.ak))),(33, .bool (decide (a.ak≤r.ak))),(32, .int .i64 r.ak),(31, .pointer (some ⟨ab o,ao o+(b - 1) *4,none⟩)),(30, .pointer (some ⟨ab o,ao o+(b - 1) *4,none⟩)),(29, .int .i64 ((b - 1:Nat):Int)),(28, .int .i64 ((b:Nat):Int)),(27, .slice o f.length I),(26, .int .i64 a.ak),(25, .pointer (some ⟨g,0,none⟩)),(24, .bool (decide (((b:Nat):Int) > 0))),(23, .bool (decide (((b:Nat):Int) > 0))),(22, .int .i64 ((b:Nat):Int)),(21, .bool (!s)),(20, .bool (!s)),(19, .bool s),(18, .int .i64 a.ak),(17, .pointer (some ⟨g,0,none⟩)),(3, .int .i64 ((b:Nat):Int)),(4, .pointer (some ⟨g,0,none⟩)),(16, .agg (aT.cells a).toArray),(15, .pointer (some ⟨ab o,ao o+b *4,none⟩)),(14, .int .i64 ((b:Nat):Int)),(13, .bool (decide (((b:Nat):Int) < ((f.length:Nat):Int)))),(12, .int .i64 ((b:Nat):Int)),(11, .int .i64 ((f.length:Nat):Int)),(10, .slice o f.length I),(0, .slice o f.length I)]) aX (fun i=>(List.length (List.map Cj a.au.ls)) - i) 0 ⟨rfl,rfl,rfl,rfl,rfl,rfl,rfl,rfl,rfl,rfl,rfl,rfl,rfl,rfl,rfl,rfl,rfl,rfl,rfl,rfl,rfl,rfl,rfl,rfl,rfl,rfl,rfl,rfl,rfl,rfl,rfl,rfl,rfl,rfl,rfl,rfl,rfl,rfl,rfl,rfl,trivial⟩ (Z.2 ⟨cO,by omega,rfl⟩) ?_
 rintro l ed aZ
 show Wp _ _ _ [(2, .bool false),(45, .int .i64 ((l:Nat):Int)),(44, .int .i64 ((List.length (List.map Cj a.au.ls):Nat):Int)),(43, .slice a.au.A a.au.ls.length a.au.c),(42, .pointer (some ⟨g,3,none⟩)),(41, .bool (decide (((List.length (List.map Cj a.au.ls):Nat):Int) > 4))),(40, .bool (decide (((List.length (List.map Cj a.au.ls):Nat):Int) > 4))),(39, .int .i64 ((List.length (List.map Cj a.au.ls):Nat):Int)),(38, .slice a.au.A a.au.ls.length a.au.c),(37, .pointer (some ⟨g,3,none⟩)),(36, .bool (decide (a.ak≤r.ak))),(35, .bool (decide (a.ak≤r.ak))),(34, .bool (decide (a.ak≤r.ak))),(33, .bool (decide (a.ak≤r.ak))),(32, .int .i64 r.ak),(31, .pointer (some ⟨ab o,ao o+(b - 1) *4,none⟩)),(30, .pointer (some ⟨ab o,ao o+(b - 1) *4,none⟩)),(29, .int .i64 ((b - 1:Nat):Int)),(28, .int .i64 ((b:Nat):Int)),(27, .slice o f.length I),(26, .int .i64 a.ak),(25, .pointer (some ⟨g,0,none⟩)),(24, .bool (decide (((b:Nat):Int) > 0))),(23, .bool (decide (((b:Nat):Int) > 0))),(22, .int .i64 ((b:Nat):Int)),(21, .bool (!s)),(20, .bool (!s)),(19, .bool s),(18, .int .i64 a.ak),(17, .pointer (some ⟨g,0,none⟩)),(3, .int .i64 ((b:Nat):Int)),(4, .pointer (some ⟨g,0,none⟩)),(16, .agg (aT.cells a).toArray),(15, .pointer (some ⟨ab o,ao o+b *4,none⟩)),(14, .int .i64 ((b:Nat):Int)),(13, .bool (decide (((b:Nat):Int) < ((f.length:Nat):Int)))),(12, .int .i64 ((b:Nat):Int)),(11, .int .i64 ((f.length:Nat):Int)),(10, .slice o f.length I),(0, .slice o f.length I)] _ _
 obtain⟨aa,dK,ae⟩:=Z.1 aZ
 refine sr (Kz (.bool (decide (((l:Nat):Int) < ((List.length (List.map Cj a.au.ls):Nat):Int)))) (nt (BS ?_)))
 by_cases bf:((l:Nat):Int) < ((List.length (List.map Cj a.au.ls):Nat):Int)
 refine jT (dT bf) (sk (BS (bo (sr ?_))))
 obtain⟨t,S⟩:=bU (ls:=a.au.ls) (i:=l) aD.len (by decide) (aa.ro (C _ (List.mem_of_getElem? p)).1) (by first | omega | (simp; done) | (simp; omega))
 have ak:=jb (rfl:List.map Cj a.au.ls=List.map Cj a.au.ls) S
 have dL:=((C _ (List.mem_of_getElem? p)).2.2 _ (List.mem_of_getElem? S)).2
 refine fw (.pointer (some ⟨ab a.au.A,ao a.au.A+l *3,none⟩)) (Ch (sI) rfl rfl ((aa.ro (C _ (List.mem_of_getElem? p)).1).addr (i:=l) (by omega)) (by omega)) (fw (.agg (aD.cells t).toArray) (Cc rfl (Cu (cs:=(aD.cells t)) Tryz.isAgg129 Tryz.sizeOf129 ((aa.ro (C _ (List.mem_of_getElem? p)).1).elem aD.len S (by decide)))) ?_)
 refine dB [.bool false, .string ⟨List.toArray ([])⟩, .slice none 0 0] 129 aa ?_
 intro ek eu df
 refine dw (aD.cells t) 0 df Tryz.sizeOf129 ?_
 intro eB bg
 refine ns (La (aD.cells t) bg 0 Tryz.isAgg129 Tryz.sizeOf129 ?_)
 obtain⟨aA,af⟩:∃ q,dY (cK.mk t.eT t.aC (Ll.mk t.aA.ls))=q:=⟨_,rfl⟩
 obtain⟨eF,bn,bq,bu,dM⟩:=Ck bg
 refine cl Tryz.call89 (nA _ _ (cK.mk t.eT t.aC (Ll.mk t.aA.ls)) t.aA.A t.aA.ls.length t.aA.c aA bn rfl (bq _ ((C _ (List.mem_of_getElem? p)).2.2 _ (List.mem_of_getElem? S)).1) (show t.aA.ls.length≤t.aA.c∧t.aA.ls.length≤9223372036854775807 from by omega) af) ?_
 rintro _ eG ⟨rfl,bv⟩
 have bz:=bu _ _ bv
 refine Kz (.bool (!aA)) (nt ?_)
 rcases EO (aA) with J | J
 refine jF (cn J) (CW (bN (Ca (BR (fw (.int .i64 ((l+1:Nat):Int)) (Ci (e:=IntKind.i64.wrap (((l:Nat):Int)+1)) yk (by rw [EL _ (by omega)]; omega)) (Mz rfl (Cf ?_)))))))
 have bA:=bz.pk [1]
 exact Cm (l+1) ⟨rfl,rfl,rfl,rfl,rfl,rfl,rfl,rfl,rfl,rfl,rfl,rfl,rfl,rfl,rfl,rfl,rfl,rfl,rfl,rfl,rfl,rfl,rfl,rfl,rfl,rfl,rfl,rfl,rfl,rfl,rfl,rfl,rfl,rfl,rfl,rfl,rfl,rfl,rfl,rfl,trivial⟩ (Z.2 ⟨bA,by omega,et (ae) (et (congrArg (fun q=>dn b (Cz a) q l) (lI (n:=List.length (List.map Cj a.au.ls)) (i:=l) (by omega))) (et (ag (cu ak)) (et (ag af) (ip J))))⟩) (by show (List.length (List.map Cj a.au.ls)) - (l+1) < (List.length (List.map Cj a.au.ls)) - l; omega)
 refine jT (cn J) (sr (An rfl (rt (bR (tR (tR (bR (bR (tR (tR (bR (tR (rs ?_)))))))))))))
 have bB:=bz.pk []
 obtain rfl:_=false:=hr.symm.trans (et (iN E) (ic (et (u) (et (congrArg (fun q=>bX f q b) B) (et (ag y) (et (ip m) (et (ip h) (et (ag (cu R)) (et (iN z) (et (iN Y) (nK (et (ae) (et (congrArg (fun q=>dn b (Cz a) q l) (lI (n:=List.length (List.map Cj a.au.ls)) (i:=l) (by omega))) (et (ag (cu ak)) (et (ag af) (jE J))))))))))))))))
 exact⟨rfl,bB⟩
 refine jF (dF bf) (Wp.exit (Cb ?_))
 have aB:dn b (Cz a) (List.length (List.map Cj a.au.ls)) 0=Sum.inl ():=et (ae) (et (congrArg (fun q=>dn b (Cz a) q l) (oh (n:=List.length (List.map Cj a.au.ls)) (i:=l) (by omega))) rfl)
 refine Cb (Cn (bN (Ca (BR (fw (.int .i64 ((b+1:Nat):Int)) (Ci (e:=IntKind.i64.wrap (((b:Nat):Int)+1)) yk (by rw [EL _ (by omega)]; omega)) (Mz rfl (Cf ?_)))))))
 have bC:=aa.pk []
 exact Cm (b+1) ⟨rfl,rfl,rfl,rfl,rfl,trivial⟩ (Q.2 ⟨bC,by omega,et (u) (et (congrArg (fun q=>bX f q b) B) (et (ag y) (et (ip m) (et (ip h) (et (ag (cu R)) (et (iN z) (et (iN Y) (pO aB))))))))⟩) (by show f.length - (b+1) < f.length - b; omega)
 refine BP (rs:= []) 8 rfl rfl rfl (dF h) (by kernel_rfl) (BP (rs:= []) 9 rfl rfl rfl (dF h) (by kernel_rfl) (BP (rs:= []) 10 rfl rfl rfl (dF h) (by kernel_rfl) (BP (rs:= []) 11 rfl rfl rfl (dF h) (by kernel_rfl) (BP (rs:= []) 12 rfl rfl rfl (dF h) (by kernel_rfl) (BP (rs:= []) 13 rfl rfl rfl (dF h) (by kernel_rfl) (BP (rs:= []) 14 rfl rfl rfl (dF h) (by kernel_rfl) (BP (rs:= []) 15 rfl rfl rfl (dF h) (by kernel_rfl) (BP (rs:= []) 16 rfl rfl rfl (dF h) (by kernel_rfl) (BU (v:= .bool false) (rs:= []) 17 rfl rfl rfl (cn m) (by kernel_rfl) (fun _ _=>BQ rfl (dF h) rfl) (GX.take (v:= .bool false) (rs:= []) 18 rfl (by kernel_rfl) (fun _ _=>BQ rfl (cn m) rfl) (GX.take (v:= .bool false) (rs:= []) 19 rfl (by kernel_rfl) (fun _ _=>BX rfl) (BU (v:= .pointer (some ⟨g,3,none⟩)) (rs:= []) 20 rfl rfl rfl rfl (by kernel_rfl) (fun _ _=>yk) (BU (v:= .slice a.au.A a.au.ls.length a.au.c) (rs:= []) 21 rfl rfl rfl rfl (by kernel_rfl) (fun _ ⟨_,V⟩=>Cc rfl (bi.one Tryz.isAgg82 (Cv (V.cls (i:=0) rfl) rfl))) (BU (v:= .int .i64 ((List.length (List.map Cj a.au.ls):Nat):Int)) (rs:= []) 22 rfl rfl rfl rfl (by kernel_rfl) (fun _ _=>Ci (e:=((a.au.ls.length:Nat):Int)) yk (by rw [List.length_map])) (BU (v:= .bool (decide (((List.length (List.map Cj a.au.ls):Nat):Int) > 4))) (rs:= []) 23 rfl rfl rfl rfl (by kernel_rfl) (fun _ _=>yk) (GX.take (v:= .bool (decide (((List.length (List.map Cj a.au.ls):Nat):Int) > 4))) (rs:= []) 24 rfl (by kernel_rfl) (fun _ _=>BQ rfl rfl rfl) (Cx (by kernel_rfl) (Ca ?_))))))))))))))))))
 by_cases K:((List.length (List.map Cj a.au.ls):Nat):Int) > 4
 refine jT (dT K) (sr (An rfl (rt (tR (bR (tR (tR (bR (tR (rs ?_))))))))))
 have bD:=F.pk []
 obtain rfl:_=false:=hr.symm.trans (et (iN E) (ic (et (u) (et (congrArg (fun q=>bX f q b) B) (et (ag y) (et (ip m) (et (iN h) (ip K))))))))
 exact⟨rfl,bD⟩
 refine jF (dF K) (sk (sr (Kz (.pointer (some ⟨g,3,none⟩)) (Lz (.slice a.au.A a.au.ls.length a.au.c) F 0 Tryz.isAgg82 (fw (.int .i64 ((List.length (List.map Cj a.au.ls):Nat):Int)) (Ci (e:=((a.au.ls.length:Nat):Int)) yk (by rw [List.length_map])) (Mn rfl (bo ?_)))))))
 have bE:=F.pk [0]
 obtain⟨au,aC⟩:∃ q:Nat→World→Prop,q=fun(i:Nat) w'=>Own w D w' [blk g (aT.cells a) 84]∧(i≤List.length (List.map Cj a.au.ls)∧gI b (Cz a) (List.length (List.map Cj a.au.ls)) 0=gI b (Cz a) ((List.length (List.map Cj a.au.ls)) - i) i):=⟨_,rfl⟩
 have N:∀ {d:Nat} {w':World},au d w'↔Own w D w' [blk g (aT.cells a) 84]∧d≤List.length (List.map Cj a.au.ls)∧gI b (Cz a) (List.length (List.map Cj a.au.ls)) 0=gI b (Cz a) ((List.length (List.map Cj a.au.ls)) - d) d:=by intros; subst aC; exact Iff.rfl
 refine Wp.loop (fun i:Nat=> [(2, .bool false),(45, .int .i64 ((i:Nat):Int)),(44, .int .i64 ((List.length (List.map Cj a.au.ls):Nat):Int)),(43, .slice a.au.A a.au.ls.length a.au.c),(42, .pointer (some ⟨g,3,none⟩)),(41, .bool (decide (((List.length (List.map Cj a.au.ls):Nat):Int) > 4))),(40, .bool (decide (((List.length (List.map Cj a.au.ls):Nat):Int) > 4))),(39, .int .i64 ((List.length (List.map Cj a.au.ls):Nat):Int)),(38, .slice a.au.A a.au.ls.length a.au.c),(37, .pointer (some ⟨g,3,none⟩)),(36, .bool false),(35, .bool false),(34, .bool false),(33,undef),(32,undef),(31,undef),(30,undef),(29,undef),(28,undef),(27,undef),(26,undef),(25,undef),(24, .bool (decide (((b:Nat):Int) > 0))),(23, .bool (decide (((b:Nat):Int) > 0))),(22, .int .i64 ((b:Nat):Int)),(21, .bool (!s)),(20, .bool (!s)),(19, .bool s),(18, .int .i64 a.ak),(17, .pointer (some ⟨g,0,none⟩)),(3, .int .i64 ((b:Nat):Int)),(4, .pointer (some ⟨g,0,none⟩)),(16, .agg (aT.cells a).toArray),(15, .pointer (some ⟨ab o,ao o+b *4,none⟩)),(14, .int .i64 ((b:Nat):Int)),(13, .bool (decide (((b:Nat):Int) < ((f.length:Nat):Int)))),(12, .int .i64 ((b:Nat):Int)),(11, .int .i64 ((f.length:Nat):Int)),(10, .slice o f.length I),(0, .slice o f.length I)]) au (fun i=>(List.length (List.map Cj a.au.ls)) - i) 0 ⟨rfl,rfl,rfl,rfl,rfl,rfl,rfl,rfl,rfl,rfl,rfl,rfl,rfl,rfl,rfl,rfl,rfl,rfl,rfl,rfl,rfl,rfl,rfl,rfl,rfl,rfl,rfl,rfl,rfl,rfl,rfl,rfl,rfl,rfl,rfl,rfl,rfl,rfl,rfl,rfl,trivial⟩ (N.2 ⟨bE,by omega,rfl⟩) ?_
 rintro d dN aF
 show Wp _ _ _ [(2, .bool false),(45, .int .i64 ((d:Nat):Int)),(44, .int .i64 ((List.length (List.map Cj a.au.ls):Nat):Int)),(43, .slice a.au.A a.au.ls.length a.au.c),(42, .pointer (some ⟨g,3,none⟩)),(41, .bool (decide (((List.length (List.map Cj a.au.ls):Nat):Int) > 4))),(40, .bool (decide (((List.length (List.map Cj a.au.ls):Nat):Int) > 4))),(39, .int .i64 ((List.length (List.map Cj a.au.ls):Nat):Int)),(38, .slice a.au.A a.au.ls.length a.au.c),(37, .pointer (some ⟨g,3,none⟩)),(36, .bool false),(35, .bool false),(34, .bool false),(33,undef),(32,undef),(31,undef),(30,undef),(29,undef),(28,undef),(27,undef),(26,undef),(25,undef),(24, .bool (decide (((b:Nat):Int) > 0))),(23, .bool (decide (((b:Nat):Int) > 0))),(22, .int .i64 ((b:Nat):Int)),(21, .bool (!s)),(20, .bool (!s)),(19, .bool s),(18, .int .i64 a.ak),(17, .pointer (some ⟨g,0,none⟩)),(3, .int .i64 ((b:Nat):Int)),(4, .pointer (some ⟨g,0,none⟩)),(16, .agg (aT.cells a).toArray),(15, .pointer (some ⟨ab o,ao o+b *4,none⟩)),(14, .int .i64 ((b:Nat):Int)),(13, .bool (decide (((b:Nat):Int) < ((f.length:Nat):Int)))),(12, .int .i64 ((b:Nat):Int)),(11, .int .i64 ((f.length:Nat):Int)),(10, .slice o f.length I),(0, .slice o f.length I)] _ _
 obtain⟨L,dh,O⟩:=N.1 aF
 refine sr (Kz (.bool (decide (((d:Nat):Int) < ((List.length (List.map Cj a.au.ls):Nat):Int)))) (nt (BS ?_)))
 by_cases av:((d:Nat):Int) < ((List.length (List.map Cj a.au.ls):Nat):Int)
 refine jT (dT av) (sk (BS (bo (sr ?_))))
 obtain⟨j,G⟩:=bU (ls:=a.au.ls) (i:=d) aD.len (by decide) (L.ro (C _ (List.mem_of_getElem? p)).1) (by first | omega | (simp; done) | (simp; omega))
 have ah:=jb (rfl:List.map Cj a.au.ls=List.map Cj a.au.ls) G
 have di:=((C _ (List.mem_of_getElem? p)).2.2 _ (List.mem_of_getElem? G)).2
 refine fw (.pointer (some ⟨ab a.au.A,ao a.au.A+d *3,none⟩)) (Ch (sI) rfl rfl ((L.ro (C _ (List.mem_of_getElem? p)).1).addr (i:=d) (by omega)) (by omega)) (fw (.agg (aD.cells j).toArray) (Cc rfl (Cu (cs:=(aD.cells j)) Tryz.isAgg129 Tryz.sizeOf129 ((L.ro (C _ (List.mem_of_getElem? p)).1).elem aD.len G (by decide)))) ?_)
 refine dB [.bool false, .string ⟨List.toArray ([])⟩, .slice none 0 0] 129 L ?_
 intro dO dP bF
 refine dw (aD.cells j) 0 bF Tryz.sizeOf129 ?_
 intro dQ ax
 refine ns (La (aD.cells j) ax 0 Tryz.isAgg129 Tryz.sizeOf129 ?_)
 obtain⟨ai,P⟩:∃ q,dY (cK.mk j.eT j.aC (Ll.mk j.aA.ls))=q:=⟨_,rfl⟩
 obtain⟨dR,aG,aH,aI,dx⟩:=Ck ax
 refine cl Tryz.call89 (nA _ _ (cK.mk j.eT j.aC (Ll.mk j.aA.ls)) j.aA.A j.aA.ls.length j.aA.c ai aG rfl (aH _ ((C _ (List.mem_of_getElem? p)).2.2 _ (List.mem_of_getElem? G)).1) (show j.aA.ls.length≤j.aA.c∧j.aA.ls.length≤9223372036854775807 from by omega) P) ?_
 rintro _ dS ⟨rfl,aJ⟩
 have ay:=aI _ _ aJ
 refine Kz (.bool (!ai)) (nt ?_)
 rcases EO (ai) with M | M
 refine jF (cn M) (CW (bN (Ca (BR (fw (.int .i64 ((d+1:Nat):Int)) (Ci (e:=IntKind.i64.wrap (((d:Nat):Int)+1)) yk (by rw [EL _ (by omega)]; omega)) (Mz rfl (Cf ?_)))))))
 have bI:=ay.pk [1]
 exact Cm (d+1) ⟨rfl,rfl,rfl,rfl,rfl,rfl,rfl,rfl,rfl,rfl,rfl,rfl,rfl,rfl,rfl,rfl,rfl,rfl,rfl,rfl,rfl,rfl,rfl,rfl,rfl,rfl,rfl,rfl,rfl,rfl,rfl,rfl,rfl,rfl,rfl,rfl,rfl,rfl,rfl,rfl,trivial⟩ (N.2 ⟨bI,by omega,et (O) (et (congrArg (fun q=>gI b (Cz a) q d) (lI (n:=List.length (List.map Cj a.au.ls)) (i:=d) (by omega))) (et (ag (cu ah)) (et (ag P) (ip M))))⟩) (by show (List.length (List.map Cj a.au.ls)) - (d+1) < (List.length (List.map Cj a.au.ls)) - d; omega)
 refine jT (cn M) (sr (An rfl (rt (bR (tR (tR (bR (bR (tR (tR (bR (tR (rs ?_)))))))))))))
 have bJ:=ay.pk []
 obtain rfl:_=false:=hr.symm.trans (et (iN E) (ic (et (u) (et (congrArg (fun q=>bX f q b) B) (et (ag y) (et (ip m) (et (iN h) (et (iN K) (nK (et (O) (et (congrArg (fun q=>gI b (Cz a) q d) (lI (n:=List.length (List.map Cj a.au.ls)) (i:=d) (by omega))) (et (ag (cu ah)) (et (ag P) (jE M))))))))))))))
 exact⟨rfl,bJ⟩
 refine jF (dF av) (Wp.exit (Cb ?_))
 have aK:gI b (Cz a) (List.length (List.map Cj a.au.ls)) 0=Sum.inl ():=et (O) (et (congrArg (fun q=>gI b (Cz a) q d) (oh (n:=List.length (List.map Cj a.au.ls)) (i:=d) (by omega))) rfl)
 refine Cb (Cn (bN (Ca (BR (fw (.int .i64 ((b+1:Nat):Int)) (Ci (e:=IntKind.i64.wrap (((b:Nat):Int)+1)) yk (by rw [EL _ (by omega)]; omega)) (Mz rfl (Cf ?_)))))))
 have bK:=L.pk []
 exact Cm (b+1) ⟨rfl,rfl,rfl,rfl,rfl,trivial⟩ (Q.2 ⟨bK,by omega,et (u) (et (congrArg (fun q=>bX f q b) B) (et (ag y) (et (ip m) (et (iN h) (et (iN K) (pO aK))))))⟩) (by show f.length - (b+1) < f.length - b; omega)
 refine BP (rs:= []) 5 rfl rfl rfl (cn m) (by kernel_rfl) (BP (rs:= []) 6 rfl rfl rfl (cn m) (by kernel_rfl) (BP (rs:= []) 7 rfl rfl rfl (cn m) (by kernel_rfl) (Cr (rs:= []) 8 rfl rfl rfl (by kernel_rfl) (Cr (rs:= []) 9 rfl rfl rfl (by kernel_rfl) (Cr (rs:= []) 10 rfl rfl rfl (by kernel_rfl) (Cr (rs:= []) 11 rfl rfl rfl (by kernel_rfl) (Cr (rs:= []) 12 rfl rfl rfl (by kernel_rfl) (Cr (rs:= []) 13 rfl rfl rfl (by kernel_rfl) (Cr (rs:= []) 14 rfl rfl rfl (by kernel_rfl) (Cr (rs:= []) 15 rfl rfl rfl (by kernel_rfl) (Cr (rs:= []) 16 rfl rfl rfl (by kernel_rfl) (BP (rs:= []) 17 rfl rfl rfl (cn m) (by kernel_rfl) (GX.take (v:= .bool true) (rs:= []) 18 rfl (by kernel_rfl) (fun _ _=>BZ rfl (cn m) rfl) (GX.take (v:= .bool true) (rs:= []) 19 rfl (by kernel_rfl) (fun _ _=>BX rfl) (BP (rs:= []) 20 rfl rfl rfl rfl (by kernel_rfl) (BP (rs:= []) 21 rfl rfl rfl rfl (by kernel_rfl) (BP (rs:= []) 22 rfl rfl rfl rfl (by kernel_rfl) (BP (rs:= []) 23 rfl rfl rfl rfl (by kernel_rfl) (GX.take (v:= .bool true) (rs:= []) 24 rfl (by kernel_rfl) (fun _ _=>BZ rfl rfl rfl) (Cx (by kernel_rfl) (Ca (jt (sr (An rfl (rt (tR (bR (tR (tR (bR (tR (rs ?_))))))))))))))))))))))))))))))))
 have bL:=F.pk []
 obtain rfl:_=false:=hr.symm.trans (et (iN E) (ic (et (u) (et (congrArg (fun q=>bX f q b) B) (et (ag y) (jE m))))))
 exact⟨rfl,bL⟩
 refine jF (dF aR) (Wp.exit (Cb ?_))
 have aL:bX f f 0=Sum.inl ():=et (u) (et (congrArg (fun q=>bX f q b) (bM (ls:=f) (i:=b) (by omega))) rfl)
 refine Cb (Cn (Ca (sr (An rfl (rt (rs ?_))))))
 have bO:=U.pk []
 obtain rfl:_=true:=hr.symm.trans (et (iN E) (mF aL))
 exact⟨rfl,bO⟩
def dA (c:bI):Int:=
 bnd (cZ c.aa 4) fun d=>if d=true then if((c.aj:Nat):Int) < 2147483648 then bnd (jG c) fun e=>if e=true then bnd (jq c) fun f=>if f=true then bnd (kg c.aB.ls) fun g=>bnd (df g) fun h=>h else bnd (df false) fun i=>i else bnd (df false) fun j=>j else bnd (df false) fun a=>a else bnd (df false) fun b=>b
set_option maxHeartbeats 1000000 in
theorem lZ (w:World) (D:Nat→Prop) (a:bI) (h:Option Addr) (P e:Nat) (i:Option Addr) (Q f:Nat) (z:List ax) (g:Option Addr) (R d:Nat) (n:List aT) (r0:Int) (H:Own w D w []) (Z:P=a.ai.ls.length) (G:Ro w D fun w'=>bG w' 2 h a.ai.ls.length (List.flatMap aL.cells a.ai.ls)) (bD:a.ai.ls.length≤e∧a.ai.ls.length≤9223372036854775807) (B:List.map Co z=a.af.ls) (aa:Q=a.af.ls.length) (I:Ro w D fun w'=>bG w' 5 i a.af.ls.length (List.flatMap ax.cells z)) (bE:a.af.ls.length≤f∧a.af.ls.length≤9223372036854775807) (u:∀ x ∈ z,Ro w D (fun w'=>bG w' 1 x.aa.A x.aa.ls.length (List.flatMap (eI .i64) x.aa.ls))∧(x.aa.ls.length≤x.aa.c∧x.aa.ls.length≤9223372036854775807)) (y:List.map Cz n=a.aB.ls) (ae:R=a.aB.ls.length) (C:Ro w D fun w'=>bG w' 4 g a.aB.ls.length (List.flatMap aT.cells n)) (bF:a.aB.ls.length≤d∧a.aB.ls.length≤9223372036854775807) (b:∀ x ∈ n,Ro w D (fun w'=>bG w' 3 x.au.A x.au.ls.length (List.flatMap aD.cells x.au.ls))∧(x.au.ls.length≤x.au.c∧x.au.ls.length≤9223372036854775807)∧(∀ E ∈ x.au.ls,Ro w D (fun w'=>bG w' 2 E.aA.A E.aA.ls.length (List.flatMap bH.cells E.aA.ls))∧(E.aA.ls.length≤E.aA.c∧E.aA.ls.length≤9223372036854775807))) (dx:a.ai.ls.length≤140737488355328∧a.af.ls.length≤140737488355328∧a.aB.ls.length≤140737488355328) (hr:dA a=r0):
    Calls Tryz.prog 13 #[.agg #[.int .i64 a.aa, .int .u64 ((a.aj:Nat):Int), .int .u64 ((a.aR:Nat):Int), .int .u64 ((a.aH:Nat):Int), .slice h P e, .slice i Q f, .slice g R d]] w (dE fun v w'=>v= .int .i64 r0∧Own w D w' []):=by
 subst Z aa ae
 have hdl0x1:=dm B
 have hdl0x2:=dm y
 refine Ce (args:= [.agg #[.int .i64 a.aa, .int .u64 ((a.aj:Nat):Int), .int .u64 ((a.aR:Nat):Int), .int .u64 ((a.aH:Nat):Int), .slice h a.ai.ls.length e, .slice i a.af.ls.length f, .slice g a.aB.ls.length d]]) Tryz.func13 rfl rfl rfl ?_
 show Wp _ _ _ [(0, .agg #[.int .i64 a.aa, .int .u64 ((a.aj:Nat):Int), .int .u64 ((a.aR:Nat):Int), .int .u64 ((a.aH:Nat):Int), .slice h a.ai.ls.length e, .slice i a.af.ls.length f, .slice g a.aB.ls.length d])] _ _
 refine sr ?_
 refine dB [.int .i64 a.aa, .int .u64 ((a.aj:Nat):Int), .int .u64 ((a.aR:Nat):Int), .int .u64 ((a.aH:Nat):Int), .slice h a.ai.ls.length e, .slice i a.af.ls.length f, .slice g a.aB.ls.length d] 35 H ?_
 intro af dz aC
 refine Ar rfl (Kz (.pointer (some ⟨af,0,none⟩)) (Lz (.int .i64 a.aa) aC 0 Tryz.isAgg3 ?_))
 obtain⟨aF,o⟩:∃ q,cZ a.aa 4=q:=⟨_,rfl⟩
 obtain⟨dC,aG,bU,aH,bV⟩:=Ck aC
 refine cl Tryz.call38 (jB _ _ a.aa 4 aF aG o) ?_
 rintro _ dD ⟨rfl,aI⟩
 have J:=aH _ _ aI
 refine Mz rfl ?_
 rcases EO (aF) with j | j
 refine Gz (.pointer (some ⟨af,1,none⟩)) j (Gl (.int .u64 ((a.aj:Nat):Int)) j J 0 Tryz.isAgg22 (Gz (.bool (decide (((a.aj:Nat):Int) < 2147483648))) j (fw (.bool (decide (((a.aj:Nat):Int) < 2147483648))) (BZ rfl j rfl) (Mz rfl ?_))))
 by_cases l:((a.aj:Nat):Int) < 2147483648
 refine Ga ([.int .i64 a.aa, .int .u64 ((a.aj:Nat):Int), .int .u64 ((a.aR:Nat):Int), .int .u64 ((a.aH:Nat):Int), .slice h a.ai.ls.length e, .slice i a.af.ls.length f, .slice g a.aB.ls.length d]) (dT l) J 0 Tryz.isAgg35 Tryz.sizeOf35 ?_
 obtain⟨ah,F⟩:∃ q,jG a=q:=⟨_,rfl⟩
 obtain⟨dG,aJ,p,aK,bW⟩:=Ck J
 refine nT (decide_eq_true l) Tryz.call45 (qc _ _ a h a.ai.ls.length e i a.af.ls.length f z g a.aB.ls.length d n ah aJ rfl (p _ G) (show a.ai.ls.length≤e∧a.ai.ls.length≤9223372036854775807 from by omega) B rfl (p _ I) (show a.af.ls.length≤f∧a.af.ls.length≤9223372036854775807 from by omega) (fun r s=>⟨p _ (u r s).1,(u r s).2⟩) y rfl (p _ C) (show a.aB.ls.length≤d∧a.aB.ls.length≤9223372036854775807 from by omega) (fun r s=>⟨p _ (b r s).1,(b r s).2.1,(fun E S=>⟨p _ ((b r s).2.2 E S).1,((b r s).2.2 E S).2⟩)⟩) (by first | omega | (dsimp only; omega) | (simp only [List.length_nil]; omega) | decide) F) ?_
 rintro _ dH ⟨rfl,aM⟩
 have ai:=aK _ _ aM
 refine fw (.bool ah) (BZ rfl (dT l) rfl) (Mz rfl ?_)
 rcases EO (ah) with m | m
 refine Ga ([.int .i64 a.aa, .int .u64 ((a.aj:Nat):Int), .int .u64 ((a.aR:Nat):Int), .int .u64 ((a.aH:Nat):Int), .slice h a.ai.ls.length e, .slice i a.af.ls.length f, .slice g a.aB.ls.length d]) m ai 0 Tryz.isAgg35 Tryz.sizeOf35 ?_
 obtain⟨aj,K⟩:∃ q,jq a=q:=⟨_,rfl⟩
 obtain⟨dI,aN,t,aO,bX⟩:=Ck ai
 refine Di rfl rfl m rfl (Cq Tryz.call46 rfl (pR _ _ a h a.ai.ls.length e i a.af.ls.length f z g a.aB.ls.length d n aj aN rfl (t _ G) (show a.ai.ls.length≤e∧a.ai.ls.length≤9223372036854775807 from by omega) B rfl (t _ I) (show a.af.ls.length≤f∧a.af.ls.length≤9223372036854775807 from by omega) (fun r s=>⟨t _ (u r s).1,(u r s).2⟩) y rfl (t _ C) (show a.aB.ls.length≤d∧a.aB.ls.length≤9223372036854775807 from by omega) (fun r s=>⟨t _ (b r s).1,(b r s).2.1,(fun E S=>⟨t _ ((b r s).2.2 E S).1,((b r s).2.2 E S).2⟩)⟩) (by first | omega | (dsimp only; omega) | (simp only [List.length_nil]; omega) | decide) K) ?_)
 rintro _ dJ ⟨rfl,aP⟩
 have ak:=aO _ _ aP
 refine fw (.bool aj) (BZ rfl m rfl) (Mz rfl ?_)
 rcases EO (aj) with k | k
 refine Gz (.pointer (some ⟨af,6,none⟩)) k (Gl (.slice g a.aB.ls.length d) k ak 0 Tryz.isAgg33 ?_)
 obtain⟨O,T⟩:∃ q,kg a.aB.ls=q:=⟨_,rfl⟩
 obtain⟨dK,aQ,L,aR,bY⟩:=Ck ak
 refine Di rfl rfl k rfl (Cq Tryz.call47 rfl (qY _ _ g a.aB.ls.length d n a.aB.ls O aQ y (L _ C) (fun r s=>⟨L _ (b r s).1,(b r s).2.1,(fun E S=>⟨L _ ((b r s).2.2 E S).1,((b r s).2.2 E S).2⟩)⟩) rfl (by omega) T) ?_)
 rintro _ dL ⟨rfl,aS⟩
 have bJ:=aR _ _ aS
 refine fw (.bool O) (BZ rfl k rfl) ?_
 obtain⟨aU,U⟩:∃ q,df O=q:=⟨_,rfl⟩
 obtain⟨dM,aV,bZ,aW,cu⟩:=Ck bJ
 refine cl Tryz.call37 (iJ _ _ O aU aV U) ?_
 rintro _ dN ⟨rfl,aX⟩
 have bK:=aW _ _ aX
 refine An rfl (rt (rs ?_))
 have bL:=bK.pk []
 obtain rfl:_=aU:=hr.symm.trans (et (ag o) (et (ip j) (et (ip l) (et (ag F) (et (ip m) (et (ag K) (et (ip k) (et (ag T) (ag U)))))))))
 exact⟨rfl,bL⟩
 refine Sz k (Sz k (Sz k (fw (.bool false) (BQ rfl k rfl) ?_)))
 obtain⟨aY,V⟩:∃ q,df false=q:=⟨_,rfl⟩
 obtain⟨dO,aZ,cz,bf,cB⟩:=Ck ak
 refine cl Tryz.call37 (iJ _ _ false aY aZ V) ?_
 rintro _ dP ⟨rfl,bg⟩
 have bM:=bf _ _ bg
 refine An rfl (rt (rs ?_))
 have bN:=bM.pk []
 obtain rfl:_=aY:=hr.symm.trans (et (ag o) (et (ip j) (et (ip l) (et (ag F) (et (ip m) (et (ag K) (et (jE k) (ag V))))))))
 exact⟨rfl,bN⟩
 refine Sz m (Sz m (fw (.bool false) (BQ rfl m rfl) (Mz rfl (Sz rfl (Sz rfl (Sz rfl (fw (.bool false) (BQ rfl rfl rfl) ?_)))))))
 obtain⟨bi,W⟩:∃ q,df false=q:=⟨_,rfl⟩
 obtain⟨dQ,bn,cK,bq,cO⟩:=Ck ai
 refine cl Tryz.call37 (iJ _ _ false bi bn W) ?_
 rintro _ dR ⟨rfl,bu⟩
 have bO:=bq _ _ bu
 refine An rfl (rt (rs ?_))
 have bv:=bO.pk []
 obtain rfl:_=bi:=hr.symm.trans (et (ag o) (et (ip j) (et (ip l) (et (ag F) (et (jE m) (ag W))))))
 exact⟨rfl,bv⟩
 refine Sz (dF l) (Sz (dF l) (fw (.bool false) (BQ rfl (dF l) rfl) (Mz rfl (Sz rfl (Sz rfl (fw (.bool false) (BQ rfl rfl rfl) (Mz rfl (Sz rfl (Sz rfl (Sz rfl (fw (.bool false) (BQ rfl rfl rfl) ?_)))))))))))
 obtain⟨X,M⟩:∃ q,df false=q:=⟨_,rfl⟩
 obtain⟨dh,au,bP,av,bQ⟩:=Ck J
 refine cl Tryz.call37 (iJ _ _ false X au M) ?_
 rintro _ di ⟨rfl,ay⟩
 have bz:=av _ _ ay
 refine An rfl (rt (rs ?_))
 have bA:=bz.pk []
 obtain rfl:_=X:=hr.symm.trans (et (ag o) (et (ip j) (et (iN l) (ag M))))
 exact⟨rfl,bA⟩
 refine Sz j (Sz j (Sz j (fw (.bool false) (BQ rfl j rfl) (Mz rfl (Sz rfl (Sz rfl (fw (.bool false) (BQ rfl rfl rfl) (Mz rfl (Sz rfl (Sz rfl (fw (.bool false) (BQ rfl rfl rfl) (Mz rfl (Sz rfl (Sz rfl (Sz rfl (fw (.bool false) (BQ rfl rfl rfl) ?_))))))))))))))))
 obtain⟨Y,N⟩:∃ q,df false=q:=⟨_,rfl⟩
 obtain⟨dn,az,bR,aA,bS⟩:=Ck J
 refine cl Tryz.call37 (iJ _ _ false Y az N) ?_
 rintro _ dw ⟨rfl,aB⟩
 have bB:=aA _ _ aB
 refine An rfl (rt (rs ?_))
 have bC:=bB.pk []
 obtain rfl:_=Y:=hr.symm.trans (et (ag o) (et (jE j) (ag N)))
 exact⟨rfl,bC⟩
end Go.Proofs.YtcnkpjheifkgnaaGreat
