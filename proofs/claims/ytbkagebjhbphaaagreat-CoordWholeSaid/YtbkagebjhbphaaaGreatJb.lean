/- The layers told, part 2. Conditions: none beyond each law's own. -/
import Derived.Test.YtbkagebjhbphaaaGreatJa
namespace Go.Proofs.YtbkagebjhbphaaaGreat
set_option maxHeartbeats 4000000
set_option maxRecDepth 100000
set_option linter.unusedVariables false
set_option linter.unusedSimpArgs false
set_option linter.unusedSectionVars false
open Int renaming toNat->C6
open IntKind renaming i64->C3,u64->C7
open List renaming drop->r4,flatMap->q4,getD->B8,length->s0,length_map->s3,map->s5,mem_cons->u2,mem_of_getElem?->D1,not_mem_nil->v7,toArray->v6
open Ll renaming mk->E0
open Nat renaming le_refl->o4
open Sum renaming inl->B7,inr->B9
open _root_.Go.Proofs.Tryz renaming call39->E4,call40->D3,isAgg149->E2,isAgg28->D2,isAgg3->C2,isAgg30->D0,isAgg40->E1,isAgg58->D4,isAgg9->C0,prog->v5,sizeOf149->E3,underlying147->B1,underlying28->B5,underlying29->B3,underlying3->v8,underlying30->B6,underlying31->B4,underlying40->y6,underlying58->y4,underlying9->v9
open WL renaming nil->C4
open Wp renaming exit->C5,loop->C1
section
open Go.RowKit
theorem mG:Elem v5 39 72 6 80:=kT (z:= .agg #[.int .i64 0, .string ⟨v6 []⟩, .string ⟨v6 []⟩, .string ⟨v6 []⟩, .string ⟨v6 []⟩, .int .i64 0]) Tryz.underlying39 e7 rfl f2
structure aN where
 av:Int
 aZ:List UInt8
 aG:List UInt8
 aJ:List UInt8
 aR:List UInt8
 aV:Int
def aN.cells (x:aN):List Value:= [.int .i64 x.av, .string ⟨v6 x.aZ⟩, .string ⟨v6 x.aG⟩, .string ⟨v6 x.aJ⟩, .string ⟨v6 x.aR⟩, .int .i64 x.aV]
instance:Bk aN:=⟨λ x _=>bk x.av+(bk x.aZ+(bk x.aG+(bk x.aJ+(bk x.aR+(bk x.aV+(0))))))⟩
theorem aN.len:∀ x,(aN.cells x).length=6:=λ _=>rfl
theorem aN.one:∀ x, ∀ u ∈ aN.cells x,u.oneCell'=true:=λ x u hu=>by
 simp only [aN.cells,u2,v7,or_false] at hu
 rcases hu with rfl | rfl | rfl | rfl | rfl | rfl <;> rfl
def JF (w:World) (x:aN):Prop:=((-9223372036854775808)<=x.av/\x.av<=9223372036854775807)/\(x.aZ.length<=140737488351232)/\(x.aG.length<=140737488351232)/\(x.aJ.length<=140737488351232)/\(x.aR.length<=140737488351232)/\((-9223372036854775808)<=x.aV/\x.aV<=9223372036854775807)
theorem Dh (w:World):ky v5 w 72 6 aN.cells (JF w):=
 (mQ (sz:=6) Tryz.underlying72 e7 (gH.cons (i:=0) (off:=0) (s:=1) rfl rfl (o8 (k:= .i64) (lo:= -9223372036854775808) (hi:=9223372036854775807) v8 e7 f2 f2) (gH.cons (i:=1) (off:=1) (s:=1) rfl rfl (lU v9 e7) (gH.cons (i:=2) (off:=2) (s:=1) rfl rfl (lU v9 e7) (gH.cons (i:=3) (off:=3) (s:=1) rfl rfl (lU v9 e7) (gH.cons (i:=4) (off:=4) (s:=1) rfl rfl (lU v9 e7) (gH.cons (i:=5) (off:=5) (s:=1) rfl rfl (o8 (k:= .i64) (lo:= -9223372036854775808) (hi:=9223372036854775807) v8 e7 f2 f2) gH.nil))))))).map (λ p=>⟨p.1,p.2.1,p.2.2.1,p.2.2.2.1,p.2.2.2.2.1,p.2.2.2.2.2.1⟩) aN.len (λ _=>rfl) (λ _ h=>⟨h.1,h.2.1,h.2.2.1,h.2.2.2.1,h.2.2.2.2.1,h.2.2.2.2.2.1⟩) λ _=>o4 _
instance:Inhabited aN:=⟨⟨default,default,default,default,default,default⟩⟩
theorem mq:Elem v5 58 3 1 8:=kT (z:= .int .i64 0) y4 e7 rfl f2
structure bO where
 bE:Int
 aB:Sv aN
 aI:Sv Int
def bO.cells (x:bO):List Value:= [.int .i64 x.bE, .slice x.aB.A x.aB.ls.length x.aB.c, .slice x.aI.A x.aI.ls.length x.aI.c]
instance:Bk bO:=⟨λ x _=>bk x.bE+(bk x.aB+(bk x.aI+(0)))⟩
theorem bO.len:∀ x,(bO.cells x).length=3:=λ _=>rfl
theorem bO.one:∀ x, ∀ u ∈ bO.cells x,u.oneCell'=true:=λ x u hu=>by
 simp only [bO.cells,u2,v7,or_false] at hu
 rcases hu with rfl | rfl | rfl <;> rfl
def KS (w:World) (x:bO):Prop:=((-9223372036854775808)<=x.bE/\x.bE<=9223372036854775807)/\(mo w 6 80 aN.cells (JF w) x.aB)/\(mo w 1 8 (eI .i64) (λ n=>(-9223372036854775808)<=n/\n<=9223372036854775807) x.aI)
instance:Inhabited bO:=⟨⟨default,default,default⟩⟩
structure fu where
 bE:Int
 aB:Ll aN
 aI:Ll Int
instance:Inhabited fu:=⟨⟨default,default,default⟩⟩
def bO.abs (x:bO):fu:=⟨x.bE,⟨x.aB.ls⟩,⟨x.aI.ls⟩⟩
def bO.own (x:bO):List HP:= [row x.aB.A x.aB.ls.length x.aB.c (q4 aN.cells x.aB.ls) 72 6,row x.aI.A x.aI.ls.length x.aI.c (q4 (eI .i64) x.aI.ls) 3 1]
structure aL where
 aJ:List UInt8
 aR:List UInt8
def aL.cells (x:aL):List Value:= [.string ⟨v6 x.aJ⟩, .string ⟨v6 x.aR⟩]
instance:Bk aL:=⟨λ x _=>bk x.aJ+(bk x.aR+(0))⟩
theorem aL.len:∀ x,(aL.cells x).length=2:=λ _=>rfl
theorem aL.one:∀ x, ∀ u ∈ aL.cells x,u.oneCell'=true:=λ x u hu=>by
 simp only [aL.cells,u2,v7,or_false] at hu
 rcases hu with rfl | rfl <;> rfl
def KH (w:World) (x:aL):Prop:=(x.aJ.length<=140737488351232)/\(x.aR.length<=140737488351232)
instance:Inhabited aL:=⟨⟨default,default⟩⟩
theorem rX:Elem v5 40 149 3 48:=kT (z:= .agg #[.bool false, .string ⟨v6 []⟩, .slice none 0 0]) y6 e7 rfl f2
theorem jL:Elem v5 147 153 2 32:=kT (z:= .agg #[.string ⟨v6 []⟩, .string ⟨v6 []⟩]) B1 e7 rfl f2
structure aH where
 aZ:List UInt8
 aG:List UInt8
def aH.cells (x:aH):List Value:= [.string ⟨v6 x.aZ⟩, .string ⟨v6 x.aG⟩]
instance:Bk aH:=⟨λ x _=>bk x.aZ+(bk x.aG+(0))⟩
theorem aH.len:∀ x,(aH.cells x).length=2:=λ _=>rfl
theorem aH.one:∀ x, ∀ u ∈ aH.cells x,u.oneCell'=true:=λ x u hu=>by
 simp only [aH.cells,u2,v7,or_false] at hu
 rcases hu with rfl | rfl <;> rfl
def Kg (w:World) (x:aH):Prop:=(x.aZ.length<=140737488351232)/\(x.aG.length<=140737488351232)
theorem Bj (w:World):ky v5 w 153 2 aH.cells (Kg w):=
 (mQ (sz:=2) Tryz.underlying153 e7 (gH.cons (i:=0) (off:=0) (s:=1) rfl rfl (lU v9 e7) (gH.cons (i:=1) (off:=1) (s:=1) rfl rfl (lU v9 e7) gH.nil))).map (λ p=>⟨p.1,p.2.1⟩) aH.len (λ _=>rfl) (λ _ h=>⟨h.1,h.2.1⟩) λ _=>o4 _
instance:Inhabited aH:=⟨⟨default,default⟩⟩
structure af where
 dV:Bool
 aG:List UInt8
 aj:Sv aH
def af.cells (x:af):List Value:= [.bool x.dV, .string ⟨v6 x.aG⟩, .slice x.aj.A x.aj.ls.length x.aj.c]
instance:Bk af:=⟨λ x _=>bk x.dV+(bk x.aG+(bk x.aj+(0)))⟩
theorem af.len:∀ x,(af.cells x).length=3:=λ _=>rfl
theorem af.one:∀ x, ∀ u ∈ af.cells x,u.oneCell'=true:=λ x u hu=>by
 simp only [af.cells,u2,v7,or_false] at hu
 rcases hu with rfl | rfl | rfl <;> rfl
def Js (w:World) (x:af):Prop:=(True)/\(x.aG.length<=140737488351232)/\(mo w 2 32 aH.cells (Kg w) x.aj)
theorem zn (w:World):ky v5 w 149 3 af.cells (Js w):=
 (mQ (sz:=3) Tryz.underlying149 e7 (gH.cons (i:=0) (off:=0) (s:=1) rfl rfl (Co Tryz.underlying4 e7) (gH.cons (i:=1) (off:=1) (s:=1) rfl rfl (lU v9 e7) (gH.cons (i:=2) (off:=2) (s:=1) rfl rfl (nC (bytes:=32) B1 e7 e7 f2 (Bj w)) gH.nil)))).map (λ p=>⟨p.1,p.2.1,p.2.2.1⟩) af.len (λ _=>rfl) (λ _ h=>⟨h.1,h.2.1,h.2.2.1⟩) λ _=>o4 _
instance:Inhabited af:=⟨⟨default,default,default⟩⟩
structure aQ where
 dV:Bool
 aG:List UInt8
 aj:Ll aH
instance:Inhabited aQ:=⟨⟨default,default,default⟩⟩
def af.abs (x:af):aQ:=⟨x.dV,x.aG,⟨x.aj.ls⟩⟩
def af.own (x:af):List HP:= [row x.aj.A x.aj.ls.length x.aj.c (q4 aH.cells x.aj.ls) 153 2]
theorem nE:Elem v5 29 89 2 24:=kT (z:= .agg #[.string ⟨v6 []⟩, .int .i64 0]) B3 e7 rfl f2
structure aM where
 aJ:List UInt8
 bE:Int
def aM.cells (x:aM):List Value:= [.string ⟨v6 x.aJ⟩, .int .i64 x.bE]
instance:Bk aM:=⟨λ x _=>bk x.aJ+(bk x.bE+(0))⟩
theorem aM.len:∀ x,(aM.cells x).length=2:=λ _=>rfl
theorem aM.one:∀ x, ∀ u ∈ aM.cells x,u.oneCell'=true:=λ x u hu=>by
 simp only [aM.cells,u2,v7,or_false] at hu
 rcases hu with rfl | rfl <;> rfl
def JP (w:World) (x:aM):Prop:=(x.aJ.length<=140737488351232)/\((-9223372036854775808)<=x.bE/\x.bE<=9223372036854775807)
theorem Af (w:World):ky v5 w 89 2 aM.cells (JP w):=
 (mQ (sz:=2) Tryz.underlying89 e7 (gH.cons (i:=0) (off:=0) (s:=1) rfl rfl (lU v9 e7) (gH.cons (i:=1) (off:=1) (s:=1) rfl rfl (o8 (k:= .i64) (lo:= -9223372036854775808) (hi:=9223372036854775807) v8 e7 f2 f2) gH.nil))).map (λ p=>⟨p.1,p.2.1⟩) aM.len (λ _=>rfl) (λ _ h=>⟨h.1,h.2.1⟩) λ _=>o4 _
instance:Inhabited aM:=⟨⟨default,default⟩⟩
structure bz where
 av:Int
 aI:Int
 eO:Int
 aP:Int
 dK:Int
 fA:Int
 aU:Nat
 ax:Nat
 aX:Nat
 eQ:Nat
 bG:Nat
 aF:Nat
 eG:Nat
 cZ:Nat
 xN:Nat
 fe:Bool
 cu:aL
 aB:Sv aN
 ah:Sv af
 ag:Sv aM
def bz.cells (x:bz):List Value:= [.int .i64 x.av, .int .i64 x.aI, .int .i64 x.eO, .int .i64 x.aP, .int .i64 x.dK, .int .i64 x.fA, .int .u64 ((x.aU:Nat):Int), .int .u64 ((x.ax:Nat):Int), .int .u64 ((x.aX:Nat):Int), .int .u64 ((x.eQ:Nat):Int), .int .u64 ((x.bG:Nat):Int), .int .u64 ((x.aF:Nat):Int), .int .u64 ((x.eG:Nat):Int), .int .u64 ((x.cZ:Nat):Int), .int .u64 ((x.xN:Nat):Int), .bool x.fe, .string ⟨v6 x.cu.aJ⟩, .string ⟨v6 x.cu.aR⟩, .slice x.aB.A x.aB.ls.length x.aB.c, .slice x.ah.A x.ah.ls.length x.ah.c, .slice x.ag.A x.ag.ls.length x.ag.c]
instance:Bk bz:=⟨λ x _=>bk x.av+(bk x.aI+(bk x.eO+(bk x.aP+(bk x.dK+(bk x.fA+(bk x.aU+(bk x.ax+(bk x.aX+(bk x.eQ+(bk x.bG+(bk x.aF+(bk x.eG+(bk x.cZ+(bk x.xN+(bk x.fe+(bk x.cu+(bk x.aB+(bk x.ah+(bk x.ag+(0))))))))))))))))))))⟩
theorem bz.len:∀ x,(bz.cells x).length=21:=λ _=>rfl
theorem bz.one:∀ x, ∀ u ∈ bz.cells x,u.oneCell'=true:=λ x u hu=>by
 simp only [bz.cells,u2,v7,or_false] at hu
 rcases hu with rfl | rfl | rfl | rfl | rfl | rfl | rfl | rfl | rfl | rfl | rfl | rfl | rfl | rfl | rfl | rfl | rfl | rfl | rfl | rfl | rfl <;> rfl
def Kq (w:World) (x:bz):Prop:=((-9223372036854775808)<=x.av/\x.av<=9223372036854775807)/\((-9223372036854775808)<=x.aI/\x.aI<=9223372036854775807)/\((-9223372036854775808)<=x.eO/\x.eO<=9223372036854775807)/\((-9223372036854775808)<=x.aP/\x.aP<=9223372036854775807)/\((-9223372036854775808)<=x.dK/\x.dK<=9223372036854775807)/\((-9223372036854775808)<=x.fA/\x.fA<=9223372036854775807)/\(x.aU<=18446744073709551615)/\(x.ax<=18446744073709551615)/\(x.aX<=18446744073709551615)/\(x.eQ<=18446744073709551615)/\(x.bG<=18446744073709551615)/\(x.aF<=18446744073709551615)/\(x.eG<=18446744073709551615)/\(x.cZ<=18446744073709551615)/\(x.xN<=18446744073709551615)/\(True)/\(KH w x.cu)/\(mo w 6 80 aN.cells (JF w) x.aB)/\(mo w 3 48 af.cells (Js w) x.ah)/\(mo w 2 24 aM.cells (JP w) x.ag)
instance:Inhabited bz:=⟨⟨default,default,default,default,default,default,default,default,default,default,default,default,default,default,default,default,default,default,default,default⟩⟩
structure bW where
 av:Int
 aI:Int
 eO:Int
 aP:Int
 dK:Int
 fA:Int
 aU:Nat
 ax:Nat
 aX:Nat
 eQ:Nat
 bG:Nat
 aF:Nat
 eG:Nat
 cZ:Nat
 xN:Nat
 fe:Bool
 cu:aL
 aB:Ll aN
 ah:Ll aQ
 ag:Ll aM
instance:Inhabited bW:=⟨⟨default,default,default,default,default,default,default,default,default,default,default,default,default,default,default,default,default,default,default,default⟩⟩
def bz.abs (x:bz):bW:=⟨x.av,x.aI,x.eO,x.aP,x.dK,x.fA,x.aU,x.ax,x.aX,x.eQ,x.bG,x.aF,x.eG,x.cZ,x.xN,x.fe,x.cu,⟨x.aB.ls⟩,⟨s5 af.abs x.ah.ls⟩,⟨x.ag.ls⟩⟩
def bz.own (x:bz):List HP:= [row x.aB.A x.aB.ls.length x.aB.c (q4 aN.cells x.aB.ls) 72 6,row x.ah.A x.ah.ls.length x.ah.c (q4 af.cells x.ah.ls) 149 3,row x.ag.A x.ag.ls.length x.ag.c (q4 aM.cells x.ag.ls) 89 2,sepL (q4 af.own x.ah.ls)]
abbrev iA (r:Int) (s:Int) (t:Int) (u:Int) (v:Int) (w:Int) (x:Nat) (y:Nat) (z:Nat) (A:Nat) (g:Nat) (h:Nat) (i:Nat) (j:Nat) (k:Nat) (l:Bool) (m:List UInt8) (n:List UInt8) (o:Option Addr) (a b:Nat) (p:Option Addr) (c d:Nat) (q:Option Addr) (e f:Nat):List Value:= [.int .i64 r, .int .i64 s, .int .i64 t, .int .i64 u, .int .i64 v, .int .i64 w, .int .u64 ((x:Nat):Int), .int .u64 ((y:Nat):Int), .int .u64 ((z:Nat):Int), .int .u64 ((A:Nat):Int), .int .u64 ((g:Nat):Int), .int .u64 ((h:Nat):Int), .int .u64 ((i:Nat):Int), .int .u64 ((j:Nat):Int), .int .u64 ((k:Nat):Int), .bool l, .string ⟨v6 m⟩, .string ⟨v6 n⟩, .slice o a b, .slice p c d, .slice q e f]
abbrev gK (x:bW) (a:Option Addr) (b:Nat) (c:Option Addr) (d:Nat) (e:Option Addr) (f:Nat):List Value:= [.int .i64 x.av, .int .i64 x.aI, .int .i64 x.eO, .int .i64 x.aP, .int .i64 x.dK, .int .i64 x.fA, .int .u64 ((x.aU:Nat):Int), .int .u64 ((x.ax:Nat):Int), .int .u64 ((x.aX:Nat):Int), .int .u64 ((x.eQ:Nat):Int), .int .u64 ((x.bG:Nat):Int), .int .u64 ((x.aF:Nat):Int), .int .u64 ((x.eG:Nat):Int), .int .u64 ((x.cZ:Nat):Int), .int .u64 ((x.xN:Nat):Int), .bool x.fe, .string ⟨v6 x.cu.aJ⟩, .string ⟨v6 x.cu.aR⟩, .slice a x.aB.ls.length b, .slice c x.ah.ls.length d, .slice e x.ag.ls.length f]
structure ow where
 Cj:Int
 eO:Int
 jk:bz
 CR:Bool
 aZ:List UInt8
def ow.cells (x:ow):List Value:= [.int .i64 x.Cj, .int .i64 x.eO, .int .i64 x.jk.av, .int .i64 x.jk.aI, .int .i64 x.jk.eO, .int .i64 x.jk.aP, .int .i64 x.jk.dK, .int .i64 x.jk.fA, .int .u64 ((x.jk.aU:Nat):Int), .int .u64 ((x.jk.ax:Nat):Int), .int .u64 ((x.jk.aX:Nat):Int), .int .u64 ((x.jk.eQ:Nat):Int), .int .u64 ((x.jk.bG:Nat):Int), .int .u64 ((x.jk.aF:Nat):Int), .int .u64 ((x.jk.eG:Nat):Int), .int .u64 ((x.jk.cZ:Nat):Int), .int .u64 ((x.jk.xN:Nat):Int), .bool x.jk.fe, .string ⟨v6 x.jk.cu.aJ⟩, .string ⟨v6 x.jk.cu.aR⟩, .slice x.jk.aB.A x.jk.aB.ls.length x.jk.aB.c, .slice x.jk.ah.A x.jk.ah.ls.length x.jk.ah.c, .slice x.jk.ag.A x.jk.ag.ls.length x.jk.ag.c, .bool x.CR, .string ⟨v6 x.aZ⟩]
instance:Bk ow:=⟨λ x _=>bk x.Cj+(bk x.eO+(bk x.jk+(bk x.CR+(bk x.aZ+(0)))))⟩
theorem ow.len:∀ x,(ow.cells x).length=25:=λ _=>rfl
theorem ow.one:∀ x, ∀ u ∈ ow.cells x,u.oneCell'=true:=λ x u hu=>by
 simp only [ow.cells,u2,v7,or_false] at hu
 rcases hu with rfl | rfl | rfl | rfl | rfl | rfl | rfl | rfl | rfl | rfl | rfl | rfl | rfl | rfl | rfl | rfl | rfl | rfl | rfl | rfl | rfl | rfl | rfl | rfl | rfl <;> rfl
def K9 (w:World) (x:ow):Prop:=((-9223372036854775808)<=x.Cj/\x.Cj<=9223372036854775807)/\((-9223372036854775808)<=x.eO/\x.eO<=9223372036854775807)/\(Kq w x.jk)/\(True)/\(x.aZ.length<=140737488351232)
instance:Inhabited ow:=⟨⟨default,default,default,default,default⟩⟩
structure StepT where
 Cj:Int
 eO:Int
 jk:bW
 CR:Bool
 aZ:List UInt8
instance:Inhabited StepT:=⟨⟨default,default,default,default,default⟩⟩
def ow.abs (x:ow):StepT:=⟨x.Cj,x.eO,x.jk.abs,x.CR,x.aZ⟩
def ow.own (x:ow):List HP:= [row x.jk.aB.A x.jk.aB.ls.length x.jk.aB.c (q4 aN.cells x.jk.aB.ls) 72 6,row x.jk.ah.A x.jk.ah.ls.length x.jk.ah.c (q4 af.cells x.jk.ah.ls) 149 3,row x.jk.ag.A x.jk.ag.ls.length x.jk.ag.c (q4 aM.cells x.jk.ag.ls) 89 2,sepL (q4 af.own x.jk.ah.ls)]
theorem lW:Elem v5 31 56 4 48:=kT (z:= .agg #[.int .i64 0, .int .u64 0, .int .u64 0, .slice none 0 0]) B4 e7 rfl f2
structure aS where
 aP:Int
 ax:Nat
 aU:Nat
 ah:Sv af
def aS.cells (x:aS):List Value:= [.int .i64 x.aP, .int .u64 ((x.ax:Nat):Int), .int .u64 ((x.aU:Nat):Int), .slice x.ah.A x.ah.ls.length x.ah.c]
instance:Bk aS:=⟨λ x _=>bk x.aP+(bk x.ax+(bk x.aU+(bk x.ah+(0))))⟩
theorem aS.len:∀ x,(aS.cells x).length=4:=λ _=>rfl
theorem aS.one:∀ x, ∀ u ∈ aS.cells x,u.oneCell'=true:=λ x u hu=>by
 simp only [aS.cells,u2,v7,or_false] at hu
 rcases hu with rfl | rfl | rfl | rfl <;> rfl
def Kh (w:World) (x:aS):Prop:=((-9223372036854775808)<=x.aP/\x.aP<=9223372036854775807)/\(x.ax<=18446744073709551615)/\(x.aU<=18446744073709551615)/\(mo w 3 48 af.cells (Js w) x.ah)
theorem Bl (w:World):ky v5 w 56 4 aS.cells (Kh w):=
 (mQ (sz:=4) Tryz.underlying56 e7 (gH.cons (i:=0) (off:=0) (s:=1) rfl rfl (o8 (k:= .i64) (lo:= -9223372036854775808) (hi:=9223372036854775807) v8 e7 f2 f2) (gH.cons (i:=1) (off:=1) (s:=1) rfl rfl (ol (k:= .u64) (hi:=18446744073709551615) B5 e7 f2 f2) (gH.cons (i:=2) (off:=2) (s:=1) rfl rfl (ol (k:= .u64) (hi:=18446744073709551615) B5 e7 f2 f2) (gH.cons (i:=3) (off:=3) (s:=1) rfl rfl (nC (bytes:=48) y6 e7 e7 f2 (zn w)) gH.nil))))).map (λ p=>⟨p.1,p.2.1,p.2.2.1,p.2.2.2.1⟩) aS.len (λ _=>rfl) (λ _ h=>⟨h.1,h.2.1,h.2.2.1,h.2.2.2.1⟩) λ _=>o4 _
instance:Inhabited aS:=⟨⟨default,default,default,default⟩⟩
structure fF where
 aP:Int
 ax:Nat
 aU:Nat
 ah:Ll aQ
instance:Inhabited fF:=⟨⟨default,default,default,default⟩⟩
def aS.abs (x:aS):fF:=⟨x.aP,x.ax,x.aU,⟨s5 af.abs x.ah.ls⟩⟩
def aS.own (x:aS):List HP:= [row x.ah.A x.ah.ls.length x.ah.c (q4 af.cells x.ah.ls) 149 3,sepL (q4 af.own x.ah.ls)]
theorem kM:Elem v5 30 60 5 56:=kT (z:= .agg #[.int .u64 0, .int .i64 0, .int .u64 0, .int .u64 0, .slice none 0 0]) B6 e7 rfl f2
structure ay where
 aX:Nat
 aP:Int
 ax:Nat
 aU:Nat
 au:Sv Int
def ay.cells (x:ay):List Value:= [.int .u64 ((x.aX:Nat):Int), .int .i64 x.aP, .int .u64 ((x.ax:Nat):Int), .int .u64 ((x.aU:Nat):Int), .slice x.au.A x.au.ls.length x.au.c]
instance:Bk ay:=⟨λ x _=>bk x.aX+(bk x.aP+(bk x.ax+(bk x.aU+(bk x.au+(0)))))⟩
theorem ay.len:∀ x,(ay.cells x).length=5:=λ _=>rfl
theorem ay.one:∀ x, ∀ u ∈ ay.cells x,u.oneCell'=true:=λ x u hu=>by
 simp only [ay.cells,u2,v7,or_false] at hu
 rcases hu with rfl | rfl | rfl | rfl | rfl <;> rfl
def JQ (w:World) (x:ay):Prop:=(x.aX<=18446744073709551615)/\((-9223372036854775808)<=x.aP/\x.aP<=9223372036854775807)/\(x.ax<=18446744073709551615)/\(x.aU<=18446744073709551615)/\(mo w 1 8 (eI .i64) (λ n=>(-9223372036854775808)<=n/\n<=9223372036854775807) x.au)
theorem xP (w:World):ky v5 w 60 5 ay.cells (JQ w):=
 (mQ (sz:=5) Tryz.underlying60 e7 (gH.cons (i:=0) (off:=0) (s:=1) rfl rfl (ol (k:= .u64) (hi:=18446744073709551615) B5 e7 f2 f2) (gH.cons (i:=1) (off:=1) (s:=1) rfl rfl (o8 (k:= .i64) (lo:= -9223372036854775808) (hi:=9223372036854775807) v8 e7 f2 f2) (gH.cons (i:=2) (off:=2) (s:=1) rfl rfl (ol (k:= .u64) (hi:=18446744073709551615) B5 e7 f2 f2) (gH.cons (i:=3) (off:=3) (s:=1) rfl rfl (ol (k:= .u64) (hi:=18446744073709551615) B5 e7 f2 f2) (gH.cons (i:=4) (off:=4) (s:=1) rfl rfl (nC (bytes:=8) y4 e7 e7 f2 (o8 (k:= .i64) (lo:= -9223372036854775808) (hi:=9223372036854775807) v8 e7 f2 f2)) gH.nil)))))).map (λ p=>⟨p.1,p.2.1,p.2.2.1,p.2.2.2.1,p.2.2.2.2.1⟩) ay.len (λ _=>rfl) (λ _ h=>⟨h.1,h.2.1,h.2.2.1,h.2.2.2.1,h.2.2.2.2.1⟩) λ _=>o4 _
instance:Inhabited ay:=⟨⟨default,default,default,default,default⟩⟩
structure bH where
 aX:Nat
 aP:Int
 ax:Nat
 aU:Nat
 au:Ll Int
instance:Inhabited bH:=⟨⟨default,default,default,default,default⟩⟩
def ay.abs (x:ay):bH:=⟨x.aX,x.aP,x.ax,x.aU,⟨x.au.ls⟩⟩
def ay.own (x:ay):List HP:= [row x.au.A x.au.ls.length x.au.c (q4 (eI .i64) x.au.ls) 3 1]
structure jW where
 au:Int
 ax:Nat
 bG:Nat
 aF:Nat
 ag:Sv aM
 ak:Sv ay
 aK:Sv aS
def jW.cells (x:jW):List Value:= [.int .i64 x.au, .int .u64 ((x.ax:Nat):Int), .int .u64 ((x.bG:Nat):Int), .int .u64 ((x.aF:Nat):Int), .slice x.ag.A x.ag.ls.length x.ag.c, .slice x.ak.A x.ak.ls.length x.ak.c, .slice x.aK.A x.aK.ls.length x.aK.c]
instance:Bk jW:=⟨λ x _=>bk x.au+(bk x.ax+(bk x.bG+(bk x.aF+(bk x.ag+(bk x.ak+(bk x.aK+(0)))))))⟩
theorem jW.len:∀ x,(jW.cells x).length=7:=λ _=>rfl
theorem jW.one:∀ x, ∀ u ∈ jW.cells x,u.oneCell'=true:=λ x u hu=>by
 simp only [jW.cells,u2,v7,or_false] at hu
 rcases hu with rfl | rfl | rfl | rfl | rfl | rfl | rfl <;> rfl
def JR (w:World) (x:jW):Prop:=((-9223372036854775808)<=x.au/\x.au<=9223372036854775807)/\(x.ax<=18446744073709551615)/\(x.bG<=18446744073709551615)/\(x.aF<=18446744073709551615)/\(mo w 2 24 aM.cells (JP w) x.ag)/\(mo w 5 56 ay.cells (JQ w) x.ak)/\(mo w 4 48 aS.cells (Kh w) x.aK)
theorem Ah (w:World):ky v5 w 33 7 jW.cells (JR w):=
 (mQ (sz:=7) Tryz.underlying33 e7 (gH.cons (i:=0) (off:=0) (s:=1) rfl rfl (o8 (k:= .i64) (lo:= -9223372036854775808) (hi:=9223372036854775807) v8 e7 f2 f2) (gH.cons (i:=1) (off:=1) (s:=1) rfl rfl (ol (k:= .u64) (hi:=18446744073709551615) B5 e7 f2 f2) (gH.cons (i:=2) (off:=2) (s:=1) rfl rfl (ol (k:= .u64) (hi:=18446744073709551615) B5 e7 f2 f2) (gH.cons (i:=3) (off:=3) (s:=1) rfl rfl (ol (k:= .u64) (hi:=18446744073709551615) B5 e7 f2 f2) (gH.cons (i:=4) (off:=4) (s:=1) rfl rfl (nC (bytes:=24) B3 e7 e7 f2 (Af w)) (gH.cons (i:=5) (off:=5) (s:=1) rfl rfl (nC (bytes:=56) B6 e7 e7 f2 (xP w)) (gH.cons (i:=6) (off:=6) (s:=1) rfl rfl (nC (bytes:=48) B4 e7 e7 f2 (Bl w)) gH.nil)))))))).map (λ p=>⟨p.1,p.2.1,p.2.2.1,p.2.2.2.1,p.2.2.2.2.1,p.2.2.2.2.2.1,p.2.2.2.2.2.2.1⟩) jW.len (λ _=>rfl) (λ _ h=>⟨h.1,h.2.1,h.2.2.1,h.2.2.2.1,h.2.2.2.2.1,h.2.2.2.2.2.1,h.2.2.2.2.2.2.1⟩) λ _=>o4 _
instance:Inhabited jW:=⟨⟨default,default,default,default,default,default,default⟩⟩
structure bZ where
 au:Int
 ax:Nat
 bG:Nat
 aF:Nat
 ag:Ll aM
 ak:Ll bH
 aK:Ll fF
instance:Inhabited bZ:=⟨⟨default,default,default,default,default,default,default⟩⟩
def jW.abs (x:jW):bZ:=⟨x.au,x.ax,x.bG,x.aF,⟨x.ag.ls⟩,⟨s5 ay.abs x.ak.ls⟩,⟨s5 aS.abs x.aK.ls⟩⟩
def jW.own (x:jW):List HP:= [row x.ag.A x.ag.ls.length x.ag.c (q4 aM.cells x.ag.ls) 89 2,row x.ak.A x.ak.ls.length x.ak.c (q4 ay.cells x.ak.ls) 60 5,row x.aK.A x.aK.ls.length x.aK.c (q4 aS.cells x.aK.ls) 56 4,sepL (q4 ay.own x.ak.ls),sepL (q4 aS.own x.aK.ls)]
theorem rY:Elem v5 45 42 21 232:=kT (z:= .agg (iA 0 0 0 0 0 0 0 0 0 0 0 0 0 0 0 false [] [] none 0 0 none 0 0 none 0 0).toArray) Tryz.underlying45 e7 rfl f2
structure oz where
 cz:Sv bz
 jo:Bool
def oz.cells (x:oz):List Value:= [.slice x.cz.A x.cz.ls.length x.cz.c, .bool x.jo]
instance:Bk oz:=⟨λ x _=>bk x.cz+(bk x.jo+(0))⟩
theorem oz.len:∀ x,(oz.cells x).length=2:=λ _=>rfl
theorem oz.one:∀ x, ∀ u ∈ oz.cells x,u.oneCell'=true:=λ x u hu=>by
 simp only [oz.cells,u2,v7,or_false] at hu
 rcases hu with rfl | rfl <;> rfl
def Lb (w:World) (x:oz):Prop:=(mo w 21 232 bz.cells (Kq w) x.cz)/\(True)
instance:Inhabited oz:=⟨⟨default,default⟩⟩
structure kG where
 cz:Ll bW
 jo:Bool
instance:Inhabited kG:=⟨⟨default,default⟩⟩
def oz.abs (x:oz):kG:=⟨⟨s5 bz.abs x.cz.ls⟩,x.jo⟩
def oz.own (x:oz):List HP:= [row x.cz.A x.cz.ls.length x.cz.c (q4 bz.cells x.cz.ls) 42 21,sepL (q4 bz.own x.cz.ls)]
structure qE where
 bL:Bool
 Hr:Bool
def qE.cells (x:qE):List Value:= [.bool x.bL, .bool x.Hr]
instance:Bk qE:=⟨λ x _=>bk x.bL+(bk x.Hr+(0))⟩
theorem qE.len:∀ x,(qE.cells x).length=2:=λ _=>rfl
theorem qE.one:∀ x, ∀ u ∈ qE.cells x,u.oneCell'=true:=λ x u hu=>by
 simp only [qE.cells,u2,v7,or_false] at hu
 rcases hu with rfl | rfl <;> rfl
def Lc (w:World) (x:qE):Prop:=(True)/\(True)
instance:Inhabited qE:=⟨⟨default,default⟩⟩
theorem xc:Elem v5 61 28 1 8:=kT (z:= .int .u64 0) Tryz.underlying61 e7 rfl f2
structure tH where
 o5:Int
 bi:Nat
def tH.cells (x:tH):List Value:= [.int .i64 x.o5, .int .u64 ((x.bi:Nat):Int)]
instance:Bk tH:=⟨λ x _=>bk x.o5+(bk x.bi+(0))⟩
theorem tH.len:∀ x,(tH.cells x).length=2:=λ _=>rfl
theorem tH.one:∀ x, ∀ u ∈ tH.cells x,u.oneCell'=true:=λ x u hu=>by
 simp only [tH.cells,u2,v7,or_false] at hu
 rcases hu with rfl | rfl <;> rfl
def Ld (w:World) (x:tH):Prop:=((-9223372036854775808)<=x.o5/\x.o5<=9223372036854775807)/\(x.bi<=18446744073709551615)
instance:Inhabited tH:=⟨⟨default,default⟩⟩
theorem xe:Elem v5 66 70 3 56:=kT (z:= .agg #[.int .i64 0, .slice none 0 0, .slice none 0 0]) Tryz.underlying66 e7 rfl f2
structure dQ where
 bE:Int
 aB:Sv aN
 aI:Sv Int
def dQ.cells (x:dQ):List Value:= [.int .i64 x.bE, .slice x.aB.A x.aB.ls.length x.aB.c, .slice x.aI.A x.aI.ls.length x.aI.c]
instance:Bk dQ:=⟨λ x _=>bk x.bE+(bk x.aB+(bk x.aI+(0)))⟩
theorem dQ.len:∀ x,(dQ.cells x).length=3:=λ _=>rfl
theorem dQ.one:∀ x, ∀ u ∈ dQ.cells x,u.oneCell'=true:=λ x u hu=>by
 simp only [dQ.cells,u2,v7,or_false] at hu
 rcases hu with rfl | rfl | rfl <;> rfl
def K8 (w:World) (x:dQ):Prop:=((-9223372036854775808)<=x.bE/\x.bE<=9223372036854775807)/\(mo w 6 80 aN.cells (JF w) x.aB)/\(mo w 1 8 (eI .i64) (λ n=>(-9223372036854775808)<=n/\n<=9223372036854775807) x.aI)
instance:Inhabited dQ:=⟨⟨default,default,default⟩⟩
structure jA where
 bE:Int
 aB:Ll aN
 aI:Ll Int
instance:Inhabited jA:=⟨⟨default,default,default⟩⟩
def dQ.abs (x:dQ):jA:=⟨x.bE,⟨x.aB.ls⟩,⟨x.aI.ls⟩⟩
def dQ.own (x:dQ):List HP:= [row x.aB.A x.aB.ls.length x.aB.c (q4 aN.cells x.aB.ls) 72 6,row x.aI.A x.aI.ls.length x.aI.c (q4 (eI .i64) x.aI.ls) 3 1]
theorem qF:Elem v5 79 107 9 136:=kT (z:= .agg #[.int .u64 0, .int .i64 0, .int .u64 0, .int .u64 0, .slice none 0 0, .slice none 0 0, .slice none 0 0, .slice none 0 0, .int .i64 0]) Tryz.underlying79 e7 rfl f2
theorem uR:Elem v5 103 172 3 56:=kT (z:= .agg #[.int .i64 0, .slice none 0 0, .slice none 0 0]) Tryz.underlying103 e7 rfl f2
theorem zA:Elem v5 104 4 1 1:=kT (z:= .bool false) Tryz.underlying104 e7 rfl f2
theorem wE:Elem v5 105 40 1 24:=kT (z:= .slice none 0 0) Tryz.underlying105 e7 rfl f2
structure bK where
 bI:Nat
 bf:Int
 bi:Nat
 fE:Nat
 cB:Sv aN
 aO:Sv bO
 bL:Sv Bool
 ai:Sv (Sv af)
 iI:Int
def bK.cells (x:bK):List Value:= [.int .u64 ((x.bI:Nat):Int), .int .i64 x.bf, .int .u64 ((x.bi:Nat):Int), .int .u64 ((x.fE:Nat):Int), .slice x.cB.A x.cB.ls.length x.cB.c, .slice x.aO.A x.aO.ls.length x.aO.c, .slice x.bL.A x.bL.ls.length x.bL.c, .slice x.ai.A x.ai.ls.length x.ai.c, .int .i64 x.iI]
instance:Bk bK:=⟨λ x _=>bk x.bI+(bk x.bf+(bk x.bi+(bk x.fE+(bk x.cB+(bk x.aO+(bk x.bL+(bk x.ai+(bk x.iI+(0)))))))))⟩
theorem bK.len:∀ x,(bK.cells x).length=9:=λ _=>rfl
theorem bK.one:∀ x, ∀ u ∈ bK.cells x,u.oneCell'=true:=λ x u hu=>by
 simp only [bK.cells,u2,v7,or_false] at hu
 rcases hu with rfl | rfl | rfl | rfl | rfl | rfl | rfl | rfl | rfl <;> rfl
def Le (w:World) (x:bK):Prop:=(x.bI<=18446744073709551615)/\((-9223372036854775808)<=x.bf/\x.bf<=9223372036854775807)/\(x.bi<=18446744073709551615)/\(x.fE<=18446744073709551615)/\(mo w 6 80 aN.cells (JF w) x.cB)/\(mo w 3 56 bO.cells (KS w) x.aO)/\(mo w 1 1 eL (λ _=>True) x.bL)/\(mo w 1 24 (I9 (β:=af)) (mo w 3 48 af.cells (Js w)) x.ai)/\((-9223372036854775808)<=x.iI/\x.iI<=9223372036854775807)
instance:Inhabited bK:=⟨⟨default,default,default,default,default,default,default,default,default⟩⟩
abbrev bP:=Sv af
def bP.abs (x:bP):Ll aQ:=⟨s5 af.abs x.ls⟩
def bP.own (x:bP):List HP:= [row x.A x.ls.length x.c (q4 af.cells x.ls) 149 3,sepL (q4 af.own x.ls)]
structure ed where
 bI:Nat
 bf:Int
 bi:Nat
 fE:Nat
 cB:Ll aN
 aO:Ll fu
 bL:Ll Bool
 ai:Ll (Ll aQ)
 iI:Int
instance:Inhabited ed:=⟨⟨default,default,default,default,default,default,default,default,default⟩⟩
def bK.abs (x:bK):ed:=⟨x.bI,x.bf,x.bi,x.fE,⟨x.cB.ls⟩,⟨s5 bO.abs x.aO.ls⟩,⟨x.bL.ls⟩,⟨s5 bP.abs x.ai.ls⟩,x.iI⟩
def bK.own (x:bK):List HP:= [row x.cB.A x.cB.ls.length x.cB.c (q4 aN.cells x.cB.ls) 72 6,row x.aO.A x.aO.ls.length x.aO.c (q4 bO.cells x.aO.ls) 172 3,row x.bL.A x.bL.ls.length x.bL.c (q4 eL x.bL.ls) 4 1,row x.ai.A x.ai.ls.length x.ai.c (q4 (I9 (β:=af)) x.ai.ls) 40 1,sepL (q4 bO.own x.aO.ls),sepL (q4 bP.own x.ai.ls)]
abbrev rZ (i:Nat) (j:Int) (k:Nat) (l:Nat) (m:Option Addr) (a b:Nat) (n:Option Addr) (c d:Nat) (o:Option Addr) (e f:Nat) (p:Option Addr) (g h:Nat) (q:Int):List Value:= [.int .u64 ((i:Nat):Int), .int .i64 j, .int .u64 ((k:Nat):Int), .int .u64 ((l:Nat):Int), .slice m a b, .slice n c d, .slice o e f, .slice p g h, .int .i64 q]
abbrev Cs (x:ed) (a:Option Addr) (b:Nat) (c:Option Addr) (d:Nat) (e:Option Addr) (f:Nat) (g:Option Addr) (h:Nat):List Value:= [.int .u64 ((x.bI:Nat):Int), .int .i64 x.bf, .int .u64 ((x.bi:Nat):Int), .int .u64 ((x.fE:Nat):Int), .slice a x.cB.ls.length b, .slice c x.aO.ls.length d, .slice e x.bL.ls.length f, .slice g x.ai.ls.length h, .int .i64 x.iI]
structure lM where
 dB:Bool
 bi:Nat
 dP:Int
 ai:Sv af
def lM.cells (x:lM):List Value:= [.bool x.dB, .int .u64 ((x.bi:Nat):Int), .int .i64 x.dP, .slice x.ai.A x.ai.ls.length x.ai.c]
instance:Bk lM:=⟨λ x _=>bk x.dB+(bk x.bi+(bk x.dP+(bk x.ai+(0))))⟩
theorem lM.len:∀ x,(lM.cells x).length=4:=λ _=>rfl
theorem lM.one:∀ x, ∀ u ∈ lM.cells x,u.oneCell'=true:=λ x u hu=>by
 simp only [lM.cells,u2,v7,or_false] at hu
 rcases hu with rfl | rfl | rfl | rfl <;> rfl
def K3 (w:World) (x:lM):Prop:=(True)/\(x.bi<=18446744073709551615)/\((-9223372036854775808)<=x.dP/\x.dP<=9223372036854775807)/\(mo w 3 48 af.cells (Js w) x.ai)
instance:Inhabited lM:=⟨⟨default,default,default,default⟩⟩
structure dU where
 dB:Bool
 bi:Nat
 dP:Int
 ai:Ll aQ
instance:Inhabited dU:=⟨⟨default,default,default,default⟩⟩
def lM.abs (x:lM):dU:=⟨x.dB,x.bi,x.dP,⟨s5 af.abs x.ai.ls⟩⟩
def lM.own (x:lM):List HP:= [row x.ai.A x.ai.ls.length x.ai.c (q4 af.cells x.ai.ls) 149 3,sepL (q4 af.own x.ai.ls)]
structure aD where
 aa:bZ
 bT:Nat
 aC:Ll ed
 bM:dU
 bD:dU
 bA:dU
 bC:dU
 bB:dU
 dO:Nat
 dG:Nat
 dH:Nat
 dD:Nat
 dE:Nat
instance:Inhabited aD:=⟨⟨default,default,default,default,default,default,default,default,default,default,default,default,default⟩⟩
theorem EH:Elem v5 126 154 1 8:=kT (z:= .int .i64 0) Tryz.underlying126 e7 rfl f2
structure lN where
 mi:Int
 o5:Int
 bX:Sv Int
def lN.cells (x:lN):List Value:= [.int .i64 x.mi, .int .i64 x.o5, .slice x.bX.A x.bX.ls.length x.bX.c]
instance:Bk lN:=⟨λ x _=>bk x.mi+(bk x.o5+(bk x.bX+(0)))⟩
theorem lN.len:∀ x,(lN.cells x).length=3:=λ _=>rfl
theorem lN.one:∀ x, ∀ u ∈ lN.cells x,u.oneCell'=true:=λ x u hu=>by
 simp only [lN.cells,u2,v7,or_false] at hu
 rcases hu with rfl | rfl | rfl <;> rfl
def K4 (w:World) (x:lN):Prop:=((-9223372036854775808)<=x.mi/\x.mi<=9223372036854775807)/\((-9223372036854775808)<=x.o5/\x.o5<=9223372036854775807)/\(mo w 1 8 (eI .i64) (λ n=>(-9223372036854775808)<=n/\n<=9223372036854775807) x.bX)
instance:Inhabited lN:=⟨⟨default,default,default⟩⟩
structure fT where
 mi:Int
 o5:Int
 bX:Ll Int
instance:Inhabited fT:=⟨⟨default,default,default⟩⟩
def lN.abs (x:lN):fT:=⟨x.mi,x.o5,⟨x.bX.ls⟩⟩
def lN.own (x:lN):List HP:= [row x.bX.A x.bX.ls.length x.bX.c (q4 (eI .i64) x.bX.ls) 154 1]
structure bU where
 bF:Ll bW
instance:Inhabited bU:=⟨⟨default⟩⟩
theorem xQ:Elem v5 134 5 1 1:=kT (z:= .int .u8 0) Tryz.underlying134 e7 rfl f2
structure lQ where
 xb:Sv UInt8
def lQ.cells (x:lQ):List Value:= [.slice x.xb.A x.xb.ls.length x.xb.c]
instance:Bk lQ:=⟨λ x _=>bk x.xb+(0)⟩
theorem lQ.len:∀ x,(lQ.cells x).length=1:=λ _=>rfl
theorem lQ.one:∀ x, ∀ u ∈ lQ.cells x,u.oneCell'=true:=λ x u hu=>by
 simp only [lQ.cells,u2,v7,or_false] at hu
 rcases hu with rfl <;> rfl
def K5 (w:World) (x:lQ):Prop:=(mo w 1 1 eB (λ _=>True) x.xb)
instance:Inhabited lQ:=⟨⟨default⟩⟩
structure dz where
 xb:Ll UInt8
instance:Inhabited dz:=⟨⟨default⟩⟩
def lQ.abs (x:lQ):dz:=⟨⟨x.xb.ls⟩⟩
def lQ.own (x:lQ):List HP:= [row x.xb.A x.xb.ls.length x.xb.c (q4 eB x.xb.ls) 5 1]
theorem EI:Elem v5 245 9 1 16:=kT (z:= .string ⟨v6 []⟩) Tryz.underlying245 e7 rfl f2
def iM (a:Int) (b:Int):Bool:=
 if a >= 1 then decide (a<=b) else false
theorem l6 (w D b c f) (H:Own w D w []) (hr:iM b c=f):
    Calls v5 40 #[vI b,vI c] w (dA λ v w'=>v= .bool f/\Own w D w' []):=by
 unfold iM at hr
 refine cb Tryz.func40 ?_
 refine sr (Ar rfl (Mz rfl (Kz (.bool (decide (b >= 1))) (Mz rfl ?_))))
 by_cases a:b >= 1
 refine gw (vI b) (dT a) (IA rfl) (gw (vI c) (dT a) (IA rfl) (Gz (.bool (decide (b<=c))) (dT a) (fw (.bool (decide (b<=c))) (Iw rfl (dT a) rfl) (An rfl (rt (rs ?_))))))
 have d:=H.pk []
 obtain rfl:=zj hr zq1
 exact⟨rfl,d⟩
 refine Sz (dF a) (Sz (dF a) (Sz (dF a) (fw (.bool false) (Io rfl (dF a) rfl) (An rfl (rt (rs ?_))))))
 have e:=H.pk []
 obtain rfl:=zj hr zq1
 exact⟨rfl,e⟩
def mr (a:Int):Bool:=
 if a >= 1 then decide (a<=4) else false
theorem xg (w D b e) (H:Own w D w []) (hr:mr b=e):
    Calls v5 111 #[vI b] w (dA λ v w'=>v= .bool e/\Own w D w' []):=by
 unfold mr at hr
 refine cb Tryz.func111 ?_
 refine sr (Ar rfl (Mz rfl (Kz (.bool (decide (b >= 1))) (Mz rfl ?_))))
 by_cases a:b >= 1
 refine gw (vI b) (dT a) (IA rfl) (Gz (.bool (decide (b<=4))) (dT a) (fw (.bool (decide (b<=4))) (Iw rfl (dT a) rfl) (An rfl (rt (rs ?_)))))
 have c:=H.pk []
 obtain rfl:=zj hr zq1
 exact⟨rfl,c⟩
 refine Sz (dF a) (Sz (dF a) (fw (.bool false) (Io rfl (dF a) rfl) (An rfl (rt (rs ?_)))))
 have d:=H.pk []
 obtain rfl:=zj hr zq1
 exact⟨rfl,d⟩
def dR (a:List UInt8):Int:=
 if(a.length:Int) < 1 then 20 else if(a.length:Int) > 12 then 20 else 0
theorem j4 (w D b d) (H:Own w D w []) (hr:dR b=d):
    Calls v5 112 #[.string ⟨v6 b⟩] w (dA λ v w'=>v=vI d/\Own w D w' []/\(¬ (d=0)\/(1<=b.length/\b.length<=12))/\(b.length < 1\/b.length > 12\/d=0)):=by
 unfold dR at hr
 refine cb Tryz.func112 ?_
 refine sr (An rfl (Ik (sr (Mz rfl (Kz (vJ b.length) (Kz (.bool (decide ((b.length:Int) < 1))) (Mz rfl ?_)))))))
 by_cases a:(b.length:Int) < 1
 refine Sz (dT a) (Sz (dT a) (Sz (dT a) (fw (.bool true) (Iw rfl (dT a) rfl) (nt (jt (sr (An rfl (rt (tR (rs ?_))))))))))
 have e:=H.pk []
 obtain rfl:=zj hr zq1
 exact⟨rfl,e,e6,e6⟩
 refine gw (.string ⟨v6 b⟩) (dF a) (IA rfl) (Gz (vJ b.length) (dF a) (Gz (.bool (decide ((b.length:Int) > 12))) (dF a) (fw (.bool (decide ((b.length:Int) > 12))) (Io rfl (dF a) rfl) (nt ?_))))
 by_cases c:(b.length:Int) > 12
 refine jT (dT c) (sr (An rfl (rt (tR (rs ?_)))))
 have f:=H.pk []
 obtain rfl:=zj hr zq2
 exact⟨rfl,f,e6,e6⟩
 refine jF (dF c) (sk (sr (An rfl (rt (rs ?_)))))
 have g:=H.pk []
 obtain rfl:=zj hr zq2
 exact⟨rfl,g,e6,e6⟩
def fo (l0:List aM):List aM->Nat->Unit ⊕ Int
  | [],a=>B7 ()
  | b::c,a=>bnd (mr b.bE) λ d=>if d=true then if(a:Int) > 0 then bnd (dR b.aJ) λ e=>if e=0 then bnd (B8 l0 (a - 1) default) λ f=>if b.aJ<=f.aJ then B9 (170) else fo l0 c (a+1) else B9 (170) else fo l0 c (a+1) else B9 (170)
def jc (l0:List aM):Int:=
 if(l0.length:Int) < 1 then 170 else if(l0.length:Int) > 6 then 170 else bnd (B8 l0 0 default) λ a=>if a.aJ≠[] then 170 else lp (fo l0 l0 0) λ _=>0
theorem qY (w D h W G l0 X) (H:Own w D w []) (j:Ro w D λ w'=>aY w' 2 h W (q4 aM.cells l0)) (Y:W=l0.length) (aD:l0.length<=9223372036854775807) (hr:jc l0=X):
    Calls v5 72 #[.slice h W G] w (dA λ v w'=>v=vI X/\Own w D w' []/\(¬ (X=0)\/(1<=l0.length/\l0.length<=6))):=by
 unfold jc at hr
 subst Y
 refine cb Tryz.func72 ?_
 refine sr (An rfl (Ik (sr (Mz rfl (Kz (vJ l0.length) (Kz (.bool (decide ((l0.length:Int) < 1))) (Mz rfl ?_)))))))
 by_cases g:(l0.length:Int) < 1
 refine Sz (dT g) (Sz (dT g) (Sz (dT g) (fw (.bool true) (Iw rfl (dT g) rfl) (Mz rfl (Sz rfl (Sz rfl (Sz rfl (Sz rfl (Sz rfl (fw (.bool true) (Iw rfl rfl rfl) (nt (jt (sr (An rfl (rt (tR (rs ?_)))))))))))))))))
 have Z:=H.pk []
 obtain rfl:=zj hr zq1
 exact⟨rfl,Z,e6⟩
 refine gw (.slice h l0.length G) (dF g) (IA rfl) (Gz (vJ l0.length) (dF g) (Gz (.bool (decide ((l0.length:Int) > 6))) (dF g) (fw (.bool (decide ((l0.length:Int) > 6))) (Io rfl (dF g) rfl) (Mz rfl ?_))))
 by_cases d:(l0.length:Int) > 6
 refine Sz (dT d) (Sz (dT d) (Sz (dT d) (Sz (dT d) (Sz (dT d) (fw (.bool true) (Iw rfl (dT d) rfl) (nt (jt (sr (An rfl (rt (tR (rs ?_))))))))))))
 have aa:=H.pk []
 obtain rfl:=zj hr zq2
 exact⟨rfl,aa,e6⟩
 refine gw (.slice h l0.length G) (dF d) (IA rfl) ?_
 obtain⟨C,l⟩:=dh (ls:=l0) (i:=0) aM.len f2 (H.ro j) e9
 refine gw (.pointer (some ⟨ab h,ao h+0 *2,none⟩)) (dF d) (Iz (nE) rfl rfl ((H.ro j).addr (i:=0) e6) e6) (Gz (.pointer (some ⟨ab h,ao h+0 *2,none⟩)) (dF d) (gw (.string ⟨v6 C.aJ⟩) (dF d) (IB rfl (bJ.one C0 (((H.ro j).elem aM.len l f2).at_ (k:=0) rfl))) (gw (.bool (decide (C.aJ≠[]))) (dF d) (I6 rfl rfl) (fw (.bool (decide (C.aJ≠[]))) (Io rfl (dF d) rfl) (nt ?_)))))
 by_cases r:C.aJ≠[]
 refine jT (dT r) (sr (An rfl (rt (tR (rs ?_)))))
 have af:=H.pk []
 obtain rfl:=zj hr zq4
 exact⟨rfl,af,e6⟩
 refine jF (dF r) (sk (Ik (sr (Mz rfl (Kz (vJ l0.length) (Mn rfl (bo ?_)))))))
 have ag:=H.pk []
 obtain⟨ah,u⟩:=lF λ (a:Nat) w'=>Own w D w' []/\a<=l0.length/\fo l0 l0 0=fo l0 (r4 a l0) a
 refine C1 (λ i:Nat=> [(2,vI 0),(21,vJ i),(20,vJ l0.length),(0, .slice h l0.length G)]) ah (λ i=>l0.length - i) 0 ⟨rfl,rfl,rfl,rfl,trivial⟩ (u.2 ⟨ag,e6,rfl⟩) ?_
 rintro a aF L
 obtain⟨z,ay,m⟩:=u.1 L
 refine sr (Kz (.bool (decide ((a:Int) < (l0.length:Int)))) (nt (Ik ?_)))
 by_cases M:(a:Int) < (l0.length:Int)
 obtain⟨f,x⟩:=dh (ls:=l0) (i:=a) aM.len f2 (z.ro j) e9
 have o:=drop_at x
 refine jT (dT M) (sk (Ik (bo (sr (Mz rfl (An rfl (Ik (sr (Mz rfl (Mz rfl (fw (.pointer (some ⟨ab h,ao h+a *2,none⟩)) (Iz (nE) rfl rfl ((z.ro j).addr (i:=a) e6) e6) (Kz (.pointer (some ⟨ab h,ao h+a *2+1,none⟩)) (fw (vI f.bE) (IB rfl (bJ.one C2 (((z.ro j).elem aM.len x f2).at_ (k:=1) rfl))) ?_)))))))))))))
 obtain⟨K,n⟩:∃ q,mr f.bE=q:=⟨_,rfl⟩
 obtain⟨aG,N,az,O,aA⟩:=Iu z
 refine cl Tryz.call111 (xg _ _ f.bE K N n) ?_
 rintro _ aH ⟨rfl,P⟩
 have Q:=O _ _ P
 refine Kz (.bool (!K)) (nt ?_)
 rcases Ls (K) with p | p
 refine jF (cn p) (sk (Ik ?_))
 refine G9 [] (IE (bv.block (IE (IE (bv.block (IE IQ)))))) Q ?_
 intro aI R
 refine qv 0 rfl rfl (qk (.bool (decide ((a:Int) > 0))) 1 rfl (qv 2 rfl rfl ?_))
 by_cases c:(a:Int) > 0
 refine Iy (v:= .slice h l0.length G) (rs:= []) 3 rfl rfl rfl (dT c) e7 (λ _ _=>IA rfl) (Iy (v:=vJ a) (rs:= []) 4 rfl rfl rfl (dT c) e7 (λ _ _=>IA rfl) (Iy (v:= .pointer (some ⟨ab h,ao h+a *2,none⟩)) (rs:= []) 5 rfl rfl rfl (dT c) e7 (λ _ ⟨_,A⟩=>Iz (nE) rfl rfl ((A.ro j).addr (i:=a) e6) e6) (Iy (v:= .pointer (some ⟨ab h,ao h+a *2,none⟩)) (rs:= []) 6 rfl rfl rfl (dT c) e7 (λ _ _=>yk) (Iy (v:= .string ⟨v6 f.aJ⟩) (rs:= []) 7 rfl rfl rfl (dT c) e7 (λ _ ⟨_,A⟩=>IB rfl (bJ.one C0 (((A.ro j).elem aM.len x f2).at_ (k:=0) rfl))) ?_))))
 obtain⟨s,y⟩:∃ q,dR f.aJ=q:=⟨_,rfl⟩
 obtain⟨aJ,S,aB,T,aC⟩:=Iu R
 refine Jl 8 rfl rfl rfl (dT c) e7 (IP Tryz.call112 rfl (j4 _ _ f.aJ s S y) ?_)
 rintro _ aK ⟨rfl,U,I,J⟩
 have E:=T _ _ U
 replace I: ¬ (s=0)\/(1<=f.aJ.length/\f.aJ.length<=12):=I
 replace J:f.aJ.length < 1\/f.aJ.length > 12\/s=0:=J
 refine⟨.inr ⟨_,E⟩, ?_⟩
 refine Iy (v:= .bool (decide (¬ (s=0)))) (rs:= []) 9 rfl rfl rfl (dT c) e7 (λ _ _=>IM (e:= !(decide (s=0))) yk decide_not.symm) (Iy (v:= .bool (decide (¬ (s=0)))) (rs:= []) 10 rfl rfl rfl (dT c) e7 (λ _ _=>IA rfl) ?_)
 by_cases b:s=0
 refine Iy (v:= .slice h l0.length G) (rs:= []) 11 rfl rfl rfl (dF (Lr b)) e7 (λ _ _=>IA rfl) (Iy (v:=vJ a) (rs:= []) 12 rfl rfl rfl (dF (Lr b)) e7 (λ _ _=>IA rfl) (Iy (v:= .pointer (some ⟨ab h,ao h+a *2,none⟩)) (rs:= []) 13 rfl rfl rfl (dF (Lr b)) e7 (λ _ ⟨_,A⟩=>Iz (nE) rfl rfl ((A.ro j).addr (i:=a) e6) e6) (Iy (v:= .pointer (some ⟨ab h,ao h+a *2,none⟩)) (rs:= []) 14 rfl rfl rfl (dF (Lr b)) e7 (λ _ _=>yk) (Iy (v:= .string ⟨v6 f.aJ⟩) (rs:= []) 15 rfl rfl rfl (dF (Lr b)) e7 (λ _ ⟨_,A⟩=>IB rfl (bJ.one C0 (((A.ro j).elem aM.len x f2).at_ (k:=0) rfl))) (Iy (v:= .slice h l0.length G) (rs:= []) 16 rfl rfl rfl (dF (Lr b)) e7 (λ _ _=>IA rfl) (Iy (v:=vJ a) (rs:= []) 17 rfl rfl rfl (dF (Lr b)) e7 (λ _ _=>IA rfl) (Iy (v:=vJ (a - 1)) (rs:= []) 18 rfl rfl rfl (dF (Lr b)) e7 (λ _ _=>Ir (e:=C3.wrap ((a:Int) - 1)) yk f0) ?_)))))))
 obtain⟨t,B⟩:=iG (ls:=l0) (i:=a - 1) e9
 refine Iy (v:= .pointer (some ⟨ab h,ao h+(a - 1) *2,none⟩)) (rs:= []) 19 rfl rfl rfl (dF (Lr b)) e7 (λ _ ⟨_,A⟩=>Iz (nE) rfl rfl ((A.ro j).addr (i:=a - 1) e6) e6) (Iy (v:= .pointer (some ⟨ab h,ao h+(a - 1) *2,none⟩)) (rs:= []) 20 rfl rfl rfl (dF (Lr b)) e7 (λ _ _=>yk) (Iy (v:= .string ⟨v6 t.aJ⟩) (rs:= []) 21 rfl rfl rfl (dF (Lr b)) e7 (λ _ ⟨_,A⟩=>IB rfl (bJ.one C0 (((A.ro j).elem aM.len B f2).at_ (k:=0) rfl))) (Iy (v:= .bool (decide (f.aJ<=t.aJ))) (rs:= []) 22 rfl rfl rfl (dF (Lr b)) e7 (λ _ _=>IM (e:=Op.bytesLess f.aJ t.aJ || decide (f.aJ=t.aJ)) (JD rfl rfl) (xI _ _)) (Iy (v:= .bool (decide (f.aJ<=t.aJ))) (rs:= []) 23 rfl rfl rfl (dT c) e7 (λ _ _=>Io rfl (dF (Lr b)) rfl) (qt (v:= .bool (decide (f.aJ<=t.aJ))) 24 rfl (λ _ _=>Iw rfl (dT c) rfl) (qn (Iq ?_)))))))
 by_cases F:f.aJ<=t.aJ
 refine jT (dT F) (sr (An rfl (rt (bR (tR (tR (bR (tR (rs ?_)))))))))
 have ai:=E.pk []
 obtain rfl:_=170:=zj hr (et (iN g) (et (iN d) (et (ae (aT l)) (et (iN r) (gL (et (m) (et (congrArg (λ q=>fo l0 q a) o) (et (ae n) (et (ip p) (et (ip c) (et (ae y) (et (ip b) (et (ae (aT B)) (ip F))))))))))))))
 exact⟨rfl,ai,e6⟩
 refine jF (dF F) (IU (bN (Iq (Il (fw (vJ (a+1)) (Ir (e:=C3.wrap ((a:Int)+1)) yk f0) (Mz rfl (C4 ?_)))))))
 have aj:=E.pk []
 exact II (a+1) ⟨rfl,rfl,rfl,rfl,trivial⟩ (u.2 ⟨aj,e6,et (m) (et (congrArg (λ q=>fo l0 q a) o) (et (ae n) (et (ip p) (et (ip c) (et (ae y) (et (ip b) (et (ae (aT B)) (iN F))))))))⟩) (by show l0.length - (a+1) < l0.length - a; omega)
 refine Ip (rs:= []) 11 rfl rfl rfl (dT b) e7 (Ip (rs:= []) 12 rfl rfl rfl (dT b) e7 (Ip (rs:= []) 13 rfl rfl rfl (dT b) e7 (Ip (rs:= []) 14 rfl rfl rfl (dT b) e7 (Ip (rs:= []) 15 rfl rfl rfl (dT b) e7 (Ip (rs:= []) 16 rfl rfl rfl (dT b) e7 (Ip (rs:= []) 17 rfl rfl rfl (dT b) e7 (Ip (rs:= []) 18 rfl rfl rfl (dT b) e7 (Ip (rs:= []) 19 rfl rfl rfl (dT b) e7 (Ip (rs:= []) 20 rfl rfl rfl (dT b) e7 (Ip (rs:= []) 21 rfl rfl rfl (dT b) e7 (Ip (rs:= []) 22 rfl rfl rfl (dT b) e7 (Iy (v:= .bool true) (rs:= []) 23 rfl rfl rfl (dT c) e7 (λ _ _=>Iw rfl (dT b) rfl) (qt (v:= .bool true) 24 rfl (λ _ _=>Iw rfl (dT c) rfl) (qn (Iq (jt (sr (An rfl (rt (bR (tR (tR (bR (tR (rs ?_)))))))))))))))))))))))))
 have ak:=E.pk []
 obtain rfl:_=170:=zj hr (et (iN g) (et (iN d) (et (ae (aT l)) (et (iN r) (gL (et (m) (et (congrArg (λ q=>fo l0 q a) o) (et (ae n) (et (ip p) (et (ip c) (et (ae y) (iN b))))))))))))
 exact⟨rfl,ak,e6⟩
 refine Ip (rs:= []) 3 rfl rfl rfl (dF c) e7 (Ip (rs:= []) 4 rfl rfl rfl (dF c) e7 (Ip (rs:= []) 5 rfl rfl rfl (dF c) e7 (Ip (rs:= []) 6 rfl rfl rfl (dF c) e7 (Ip (rs:= []) 7 rfl rfl rfl (dF c) e7 (Ip (rs:= []) 8 rfl rfl rfl (dF c) e7 (Ip (rs:= []) 9 rfl rfl rfl (dF c) e7 (Ip (rs:= []) 10 rfl rfl rfl (dF c) e7 (IR (rs:= []) 11 rfl rfl rfl e7 (IR (rs:= []) 12 rfl rfl rfl e7 (IR (rs:= []) 13 rfl rfl rfl e7 (IR (rs:= []) 14 rfl rfl rfl e7 (IR (rs:= []) 15 rfl rfl rfl e7 (IR (rs:= []) 16 rfl rfl rfl e7 (IR (rs:= []) 17 rfl rfl rfl e7 (IR (rs:= []) 18 rfl rfl rfl e7 (IR (rs:= []) 19 rfl rfl rfl e7 (IR (rs:= []) 20 rfl rfl rfl e7 (IR (rs:= []) 21 rfl rfl rfl e7 (IR (rs:= []) 22 rfl rfl rfl e7 (Ip (rs:= []) 23 rfl rfl rfl (dF c) e7 (qt (v:= .bool false) 24 rfl (λ _ _=>Io rfl (dF c) rfl) (qn (Iq (jf (IU (bN (Iq (Il (fw (vJ (a+1)) (Ir (e:=C3.wrap ((a:Int)+1)) yk f0) (Mz rfl (C4 ?_)))))))))))))))))))))))))))))))
 have au:=R.pk []
 exact II (a+1) ⟨rfl,rfl,rfl,rfl,trivial⟩ (u.2 ⟨au,e6,et (m) (et (congrArg (λ q=>fo l0 q a) o) (et (ae n) (et (ip p) (iN c))))⟩) (by show l0.length - (a+1) < l0.length - a; omega)
 refine jT (cn p) (sr (An rfl (rt (tR (bR (tR (tR (bR (tR (rs ?_))))))))))
 have av:=Q.pk []
 obtain rfl:_=170:=zj hr (et (iN g) (et (iN d) (et (ae (aT l)) (et (iN r) (gL (et (m) (et (congrArg (λ q=>fo l0 q a) o) (et (ae n) (fP p)))))))))
 exact⟨rfl,av,e6⟩
 refine jF (dF M) (C5 (IC ?_))
 have V:fo l0 l0 0=B7 ():=et (m) (et (congrArg (λ q=>fo l0 q a) (dZ (ls:=l0) (i:=a) e6)) rfl)
 refine IC (IK (Iq (sr (An rfl (rt (rs ?_))))))
 have ax:=z.pk []
 obtain rfl:_=0:=zj hr (et (iN g) (et (iN d) (et (ae (aT l)) (et (iN r) (mF V)))))
 exact⟨rfl,ax,e6⟩
def jq (c:bZ):List aM->Unit ⊕ Bool
  | []=>B7 ()
  | a::b=>if a.bE > c.au then B9 (false) else jq c b
def mR (b:bZ):Bool:=
 bnd (jc b.ag.ls) λ a=>if a=0 then lp (jq b b.ag.ls) λ _=>true else false
theorem vC (w D) (a:bZ) (b E f h F j p k G l r r0) (H:Own w D w []) (L:E=a.ag.ls.length) (g:Ro w D λ w'=>aY w' 2 b a.ag.ls.length (q4 aM.cells a.ag.ls)) (ah:a.ag.ls.length<=f/\a.ag.ls.length<=9223372036854775807) (M:s5 ay.abs p=a.ak.ls) (N:F=a.ak.ls.length) (ai:Ro w D λ w'=>aY w' 5 h a.ak.ls.length (q4 ay.cells p)) (aj:a.ak.ls.length<=j/\a.ak.ls.length<=9223372036854775807) (ak:∀ x ∈ p,Ro w D (λ w'=>aY w' 1 x.au.A x.au.ls.length (q4 (eI .i64) x.au.ls))/\(x.au.ls.length<=x.au.c/\x.au.ls.length<=9223372036854775807)) (O:s5 aS.abs r=a.aK.ls) (P:G=a.aK.ls.length) (au:Ro w D λ w'=>aY w' 4 k a.aK.ls.length (q4 aS.cells r)) (av:a.aK.ls.length<=l/\a.aK.ls.length<=9223372036854775807) (ax:∀ x ∈ r,Ro w D (λ w'=>aY w' 3 x.ah.A x.ah.ls.length (q4 af.cells x.ah.ls))/\(x.ah.ls.length<=x.ah.c/\x.ah.ls.length<=9223372036854775807)/\(∀ R ∈ x.ah.ls,Ro w D (λ w'=>aY w' 2 R.aj.A R.aj.ls.length (q4 aH.cells R.aj.ls))/\(R.aj.ls.length<=R.aj.c/\R.aj.ls.length<=9223372036854775807))) (aO:a.ag.ls.length<=140737488355328/\a.ak.ls.length<=140737488355328/\a.aK.ls.length<=140737488355328) (hr:mR a=r0):
    Calls v5 41 #[.agg #[vI a.au,vU a.ax,vU a.bG,vU a.aF, .slice b E f, .slice h F j, .slice k G l]] w (dA λ v w'=>v= .bool r0/\Own w D w' []):=by
 unfold mR at hr
 subst L N P
 have aa:=aA M
 have ag:=aA O
 refine cb Tryz.func41 ?_
 refine sr ?_
 refine dn [vI a.au,vU a.ax,vU a.bG,vU a.aF, .slice b a.ag.ls.length f, .slice h a.ak.ls.length j, .slice k a.aK.ls.length l] 33 H ?_
 intro n aP S
 refine An rfl (Ik (sr (Kz (vP n 4) (Lz (.slice b a.ag.ls.length f) S 0 Tryz.isAgg29 ?_))))
 obtain⟨s,m⟩:∃ q,jc a.ag.ls=q:=⟨_,rfl⟩
 obtain⟨aQ,T,U,V,aL⟩:=Iu S
 refine cl Tryz.call72 (qY _ _ b a.ag.ls.length f a.ag.ls s T (U _ g) rfl e6 m) ?_
 rintro _ aR ⟨rfl,W,I⟩
 have Q:=V _ _ W
 replace I: ¬ (s=0)\/(1<=a.ag.ls.length/\a.ag.ls.length<=6):=I
 refine fw (.bool (decide (¬ (s=0)))) (IM (e:= !(decide (s=0))) yk decide_not.symm) (nt ?_)
 by_cases t:s=0
 refine jF (dF (Lr t)) (sk (Ik (sr (Kz (vP n 4) (Lz (.slice b a.ag.ls.length f) Q 0 Tryz.isAgg29 (Kz (vJ a.ag.ls.length) (Mn rfl (bo ?_))))))))
 have az:=Q.pf []
 obtain⟨aB,u⟩:=lF λ (d:Nat) w'=>Own w D w' [blk n [vI a.au,vU a.ax,vU a.bG,vU a.aF, .slice b a.ag.ls.length f, .slice h a.ak.ls.length j, .slice k a.aK.ls.length l] 33]/\d<=a.ag.ls.length/\jq a a.ag.ls=jq a (r4 d a.ag.ls)
 refine C1 (λ i:Nat=> [(2, .bool false),(12,vJ i),(11,vJ a.ag.ls.length),(10, .slice b a.ag.ls.length f),(1,vP n 0)]) aB (λ i=>a.ag.ls.length - i) 0 ⟨rfl,rfl,rfl,rfl,rfl,trivial⟩ (u.2 ⟨az,e6,rfl⟩) ?_
 rintro d aT X
 obtain⟨y,aN,z⟩:=u.1 X
 refine sr (Kz (.bool (decide ((d:Int) < (a.ag.ls.length:Int)))) (nt (Ik ?_)))
 by_cases Y:(d:Int) < (a.ag.ls.length:Int)
 obtain⟨o,J⟩:=dh (ls:=a.ag.ls) (i:=d) aM.len f2 (y.ro g) e9
 have K:=drop_at J
 refine jT (dT Y) (sk (Ik (bo (sr (fw (.pointer (some ⟨ab b,ao b+d *2,none⟩)) (Iz (nE) rfl rfl ((y.ro g).addr (i:=d) e6) e6) (fw (.agg (aM.cells o).toArray) (IB rfl (IJ (cs:=(aM.cells o)) Tryz.isAgg89 Tryz.sizeOf89 ((y.ro g).elem aM.len J f2))) ?_))))))
 refine dn [.string ⟨v6 []⟩,vI 0] 89 y ?_
 intro aC aU aD
 refine df (aM.cells o) 0 aD Tryz.sizeOf89 ?_
 intro aV B
 refine ns (Kz (vP aC 1) (Lz (vI o.bE) B 0 C2 (Kz (vP n 0) (Lz (vI a.au) B 1 C2 (Kz (.bool (decide (o.bE > a.au))) (nt ?_))))))
 by_cases C:o.bE > a.au
 refine jT (dT C) (sr (An rfl (rt (bR (tR (tR (bR (tR (rs ?_)))))))))
 have aF:=B.pk []
 obtain rfl:_=false:=zj hr (et (ae m) (et (ip t) (gL (et (z) (et (congrArg (λ q=>jq a q) K) (ip C))))))
 exact⟨rfl,aF⟩
 refine jF (dF C) (IU (bN (Iq (Il (fw (vJ (d+1)) (Ir (e:=C3.wrap ((d:Int)+1)) yk f0) (Mz rfl (C4 ?_)))))))
 have aG:=B.pk [1]
 exact II (d+1) ⟨rfl,rfl,rfl,rfl,rfl,trivial⟩ (u.2 ⟨aG,e6,et (z) (et (congrArg (λ q=>jq a q) K) (iN C))⟩) (by show a.ag.ls.length - (d+1) < a.ag.ls.length - d; omega)
 refine jF (dF Y) (C5 (IC ?_))
 have Z:jq a a.ag.ls=B7 ():=et (z) (et (congrArg (λ q=>jq a q) (dZ (ls:=a.ag.ls) (i:=d) e6)) rfl)
 refine IC (IK (Iq (sr (An rfl (rt (rs ?_))))))
 have aI:=y.pk []
 obtain rfl:_=true:=zj hr (et (ae m) (et (ip t) (mF Z)))
 exact⟨rfl,aI⟩
 refine jT (dT t) (sr (An rfl (rt (tR (rs ?_)))))
 have aJ:=Q.pk []
 obtain rfl:=zj hr zq2
 exact⟨rfl,aJ⟩
def dI (h:bZ) (c:Nat) (b:bH):List Int->Nat->Unit ⊕ Bool
  | [],a=>B7 ()
  | d::e,a=>bnd (iM d h.au) λ f=>if f=true then if(a:Int) > 0 then bnd (B8 b.au.ls (a - 1) default) λ g=>if d<=g then B9 (false) else dI h c b e (a+1) else dI h c b e (a+1) else B9 (false)
def gm (h:bZ) (g:Nat) (d:bH):List Int->Nat->Unit ⊕ Bool
  | [],a=>B7 ()
  | b::c,a=>bnd (iM b h.au) λ e=>if e=true then if(a:Int) > 0 then bnd (B8 d.au.ls (a - 1) default) λ f=>if b<=f then B9 (false) else gm h g d c (a+1) else gm h g d c (a+1) else B9 (false)
def dC (c:bZ):List bH->Nat->Unit ⊕ Bool
  | [],b=>B7 ()
  | a::e,b=>if(b:Int) > 0 then bnd (B8 c.ak.ls (b - 1) default) λ f=>if(a.aX:Int)<=(f.aX:Int) then B9 (false) else if(a.aX:Int) >= ((fQ (C6 (C7.wrap ((c.ax:Int)+1))) 32:Nat):Int) then B9 (false) else bnd (iM a.aP 4) λ g=>if g=true then if(a.au.ls.length:Int)=0 then B9 (false) else sW (dI c b a a.au.ls 0) λ _=>dC c e (b+1) else B9 (false) else if(a.aX:Int) >= ((fQ (C6 (C7.wrap ((c.ax:Int)+1))) 32:Nat):Int) then B9 (false) else bnd (iM a.aP 4) λ d=>if d=true then if(a.au.ls.length:Int)=0 then B9 (false) else sW (gm c b a a.au.ls 0) λ _=>dC c e (b+1) else B9 (false)
def nM (a:bZ):Bool:=
 if(a.ak.ls.length:Int) > 8 then false else lp (dC a a.ak.ls 0) λ _=>true
theorem uS (w D) (d:bZ) (S bg T f bi p ah U bn V aP r0) (H:Own w D w []) (bz:bg=d.ag.ls.length) (dQ:Ro w D λ w'=>aY w' 2 S d.ag.ls.length (q4 aM.cells d.ag.ls)) (dR:d.ag.ls.length<=T/\d.ag.ls.length<=9223372036854775807) (aB:s5 ay.abs ah=d.ak.ls) (bA:bi=d.ak.ls.length) (O:Ro w D λ w'=>aY w' 5 f d.ak.ls.length (q4 ay.cells ah)) (dS:d.ak.ls.length<=p/\d.ak.ls.length<=9223372036854775807) (o:∀ x ∈ ah,Ro w D (λ w'=>aY w' 1 x.au.A x.au.ls.length (q4 (eI .i64) x.au.ls))/\(x.au.ls.length<=x.au.c/\x.au.ls.length<=9223372036854775807)) (bB:s5 aS.abs aP=d.aK.ls) (bC:bn=d.aK.ls.length) (dU:Ro w D λ w'=>aY w' 4 U d.aK.ls.length (q4 aS.cells aP)) (dV:d.aK.ls.length<=V/\d.aK.ls.length<=9223372036854775807) (dW:∀ x ∈ aP,Ro w D (λ w'=>aY w' 3 x.ah.A x.ah.ls.length (q4 af.cells x.ah.ls))/\(x.ah.ls.length<=x.ah.c/\x.ah.ls.length<=9223372036854775807)/\(∀ y1 ∈ x.ah.ls,Ro w D (λ w'=>aY w' 2 y1.aj.A y1.aj.ls.length (q4 aH.cells y1.aj.ls))/\(y1.aj.ls.length<=y1.aj.c/\y1.aj.ls.length<=9223372036854775807))) (fK:d.ag.ls.length<=140737488355328/\d.ak.ls.length<=140737488355328/\d.aK.ls.length<=140737488355328) (hr:nM d=r0):
    Calls v5 42 #[.agg #[vI d.au,vU d.ax,vU d.bG,vU d.aF, .slice S bg T, .slice f bi p, .slice U bn V]] w (dA λ v w'=>v= .bool r0/\Own w D w' []):=by
 unfold nM at hr
 subst bz bA bC
 have dO:=aA aB
 have dP:=aA bB
 refine cb Tryz.func42 ?_
 refine sr ?_
 refine dn [vI d.au,vU d.ax,vU d.bG,vU d.aF, .slice S d.ag.ls.length T, .slice f d.ak.ls.length p, .slice U d.aK.ls.length V] 33 H ?_
 intro y fM bf
 refine An rfl (Ik (sr (Kz (vP y 5) (Lz (.slice f d.ak.ls.length p) bf 0 D0 (Kz (vJ d.ak.ls.length) (Kz (.bool (decide ((d.ak.ls.length:Int) > 8))) (nt ?_)))))))
 by_cases G:(d.ak.ls.length:Int) > 8
 refine jT (dT G) (sr (An rfl (rt (tR (rs ?_)))))
 have dX:=bf.pk []
 obtain rfl:=zj hr zq1
 exact⟨rfl,dX⟩
 refine jF (dF G) (sk (Ik (sr (Kz (vP y 5) (Lz (.slice f d.ak.ls.length p) bf 0 D0 (Kz (vJ d.ak.ls.length) (Mn rfl (bo ?_))))))))
 have dY:=bf.pf []
 obtain⟨d9,aG⟩:=lF λ (b:Nat) w'=>Own w D w' [blk y [vI d.au,vU d.ax,vU d.bG,vU d.aF, .slice S d.ag.ls.length T, .slice f d.ak.ls.length p, .slice U d.aK.ls.length V] 33]/\b<=d.ak.ls.length/\dC d d.ak.ls 0=dC d (r4 b d.ak.ls) b
 refine C1 (λ i:Nat=> [(2, .bool false),(14,vJ i),(13,vJ d.ak.ls.length),(12, .slice f d.ak.ls.length p),(1,vP y 0)]) d9 (λ i=>d.ak.ls.length - i) 0 ⟨rfl,rfl,rfl,rfl,rfl,trivial⟩ (aG.2 ⟨dY,e6,rfl⟩) ?_
 rintro b fO bS
 obtain⟨aQ,eZ,z⟩:=aG.1 bS
 refine sr (Kz (.bool (decide ((b:Int) < (d.ak.ls.length:Int)))) (nt (Ik ?_)))
 by_cases bT:(b:Int) < (d.ak.ls.length:Int)
 obtain⟨a,t⟩:=dh (ls:=ah) (i:=b) ay.len f2 (aQ.ro O) e9
 have bU:=eY aB t
 have fe:=(o _ (D1 t)).2
 have C:=drop_at bU
 refine jT (dT bT) (sk (Ik (bo (sr (Mz rfl (fw (.pointer (some ⟨ab f,ao f+b *5,none⟩)) (Iz (kM) rfl rfl ((aQ.ro O).addr (i:=b) e6) e6) (fw (.agg (ay.cells a).toArray) (IB rfl (IJ (cs:=(ay.cells a)) Tryz.isAgg60 Tryz.sizeOf60 ((aQ.ro O).elem ay.len t f2))) ?_)))))))
 refine dn [.int .u64 0,vI 0, .int .u64 0, .int .u64 0, .slice none 0 0] 60 aQ ?_
 intro j fT ed
 refine Az rfl ?_
 refine df (ay.cells a) 0 ed Tryz.sizeOf60 ?_
 intro fU ek
 refine nt (Ik (Ik ?_))
 refine pM [] (IE (IE (bv.block (IE (IE (bv.block (IE IQ))))))) ek ?_
 intro fV aC
 refine qv 0 rfl rfl (qk (.bool (decide ((b:Int) > 0))) 1 rfl (qv 2 rfl rfl ?_))
 by_cases l:(b:Int) > 0
 refine Iy (v:=vP j 0) (rs:= []) 3 rfl rfl rfl (dT l) e7 (λ _ _=>yk) (Iy (v:=vU a.aX) (rs:= []) 4 rfl rfl rfl (dT l) e7 (λ _ ⟨_,H9⟩=>IB rfl (bJ.one D2 (I1 (H9.cls (i:=0) rfl) rfl))) (Iy (v:=vP y 5) (rs:= []) 5 rfl rfl rfl (dT l) e7 (λ _ _=>yk) (Iy (v:= .slice f d.ak.ls.length p) (rs:= []) 6 rfl rfl rfl (dT l) e7 (λ _ ⟨_,H9⟩=>IB rfl (bJ.one D0 (I1 (H9.cls (i:=1) rfl) rfl))) (Iy (v:=vJ b) (rs:= []) 7 rfl rfl rfl (dT l) e7 (λ _ _=>IA rfl) (Iy (v:=vJ (b - 1)) (rs:= []) 8 rfl rfl rfl (dT l) e7 (λ _ _=>Ir (e:=C3.wrap ((b:Int) - 1)) yk f0) ?_)))))
 obtain⟨N,aR⟩:=iG (ls:=ah) (i:=b - 1) e9
 have P:=eY aB aR
 have fo:=(o _ (D1 aR)).2
 refine Iy (v:= .pointer (some ⟨ab f,ao f+(b - 1) *5,none⟩)) (rs:= []) 9 rfl rfl rfl (dT l) e7 (λ _ ⟨_,H9⟩=>Iz (kM) rfl rfl ((H9.ro O).addr (i:=b - 1) e6) e6) (Iy (v:= .pointer (some ⟨ab f,ao f+(b - 1) *5,none⟩)) (rs:= []) 10 rfl rfl rfl (dT l) e7 (λ _ _=>yk) (Iy (v:=vU N.aX) (rs:= []) 11 rfl rfl rfl (dT l) e7 (λ _ ⟨_,H9⟩=>IB rfl (bJ.one D2 (((H9.ro O).elem ay.len aR f2).at_ (k:=0) rfl))) (Iy (v:= .bool (decide ((a.aX:Int)<=(N.aX:Int)))) (rs:= []) 12 rfl rfl rfl (dT l) e7 (λ _ _=>yk) (qt (v:= .bool (decide ((a.aX:Int)<=(N.aX:Int)))) 13 rfl (λ _ _=>Iw rfl (dT l) rfl) (qv 14 rfl rfl ?_)))))
 by_cases u:(a.aX:Int)<=(N.aX:Int)
 refine Ip (rs:= []) 15 rfl rfl rfl (dT u) e7 (Ip (rs:= []) 16 rfl rfl rfl (dT u) e7 (Ip (rs:= []) 17 rfl rfl rfl (dT u) e7 (Ip (rs:= []) 18 rfl rfl rfl (dT u) e7 (Ip (rs:= []) 19 rfl rfl rfl (dT u) e7 (Ip (rs:= []) 20 rfl rfl rfl (dT u) e7 (Ip (rs:= []) 21 rfl rfl rfl (dT u) e7 (qt (v:= .bool true) 22 rfl (λ _ _=>Iw rfl (dT u) rfl) (qn (Iq (jt (sr (An rfl (rt (tR (bR (tR (tR (bR (tR (rs ?_))))))))))))))))))))
 have eu:=aC.pk []
 obtain rfl:_=false:=zj hr (et (iN G) (gL (et (z) (et (congrArg (λ q=>dC d q b) C) (et (ip l) (et (ae (aT P)) (ip u)))))))
 exact⟨rfl,eu⟩
 refine Iy (v:=vP j 0) (rs:= []) 15 rfl rfl rfl (dF u) e7 (λ _ _=>yk) (Iy (v:=vU a.aX) (rs:= []) 16 rfl rfl rfl (dF u) e7 (λ _ ⟨_,H9⟩=>IB rfl (bJ.one D2 (I1 (H9.cls (i:=0) rfl) rfl))) (Iy (v:=vP y 1) (rs:= []) 17 rfl rfl rfl (dF u) e7 (λ _ _=>yk) (Iy (v:=vU d.ax) (rs:= []) 18 rfl rfl rfl (dF u) e7 (λ _ ⟨_,H9⟩=>IB rfl (bJ.one D2 (I1 (H9.cls (i:=1) rfl) rfl))) (Iy (v:= .int .u64 ((C6 (C7.wrap ((d.ax:Int)+1)):Nat):Int)) (rs:= []) 19 rfl rfl rfl (dF u) e7 (λ _ _=>Ir (e:=C7.wrap ((d.ax:Int)+1)) yk (fB _)) ?_))))
 have fq:fQ (C6 (C7.wrap ((d.ax:Int)+1))) 32<=18446744073709551615:=pq _ _
 refine Iy (v:= .int .u64 ((fQ (C6 (C7.wrap ((d.ax:Int)+1))) 32:Nat):Int)) (rs:= []) 20 rfl rfl rfl (dF u) e7 (λ _ _=>Ir (JO (m:=32) rfl rfl) (fB _)) (Iy (v:= .bool (decide ((a.aX:Int) >= ((fQ (C6 (C7.wrap ((d.ax:Int)+1))) 32:Nat):Int)))) (rs:= []) 21 rfl rfl rfl (dF u) e7 (λ _ _=>yk) (qt (v:= .bool (decide ((a.aX:Int) >= ((fQ (C6 (C7.wrap ((d.ax:Int)+1))) 32:Nat):Int)))) 22 rfl (λ _ _=>Io rfl (dF u) rfl) (qn (Iq ?_))))
 by_cases ai:(a.aX:Int) >= ((fQ (C6 (C7.wrap ((d.ax:Int)+1))) 32:Nat):Int)
 refine jT (dT ai) (sr (An rfl (rt (tR (bR (tR (tR (bR (tR (rs ?_))))))))))
 have eB:=aC.pk []
 obtain rfl:_=false:=zj hr (et (iN G) (gL (et (z) (et (congrArg (λ q=>dC d q b) C) (et (ip l) (et (ae (aT P)) (et (iN u) (ip ai))))))))
 exact⟨rfl,eB⟩
 refine jF (dF ai) (sk (Ik (sr (Kz (vP j 1) (Lz (vI a.aP) aC 0 C2 ?_)))))
 obtain⟨Z,W⟩:∃ q,iM a.aP 4=q:=⟨_,rfl⟩
 obtain⟨fZ,bV,fu,bW,fA⟩:=Iu aC
 refine cl D3 (l6 _ _ a.aP 4 Z bV W) ?_
 rintro _ gp ⟨rfl,bX⟩
 have aU:=bW _ _ bX
 refine Kz (.bool (!Z)) (Mz rfl ?_)
 rcases Ls (Z) with F | F
 refine Gz (vP j 4) (cn F) (Gl (.slice a.au.A a.au.ls.length a.au.c) (cn F) aU 0 D4 (Gz (vJ a.au.ls.length) (cn F) (Gz (.bool (decide ((a.au.ls.length:Int)=0))) (cn F) (fw (.bool (decide ((a.au.ls.length:Int)=0))) (Io rfl (cn F) rfl) (nt ?_)))))
 by_cases aN:(a.au.ls.length:Int)=0
 refine jT (dT aN) (sr (An rfl (rt (tR (bR (tR (tR (bR (tR (rs ?_))))))))))
 have eD:=aU.pk []
 obtain rfl:_=false:=zj hr (et (iN G) (gL (et (z) (et (congrArg (λ q=>dC d q b) C) (et (ip l) (et (ae (aT P)) (et (iN u) (et (iN ai) (et (ae W) (et (ip F) (ip aN)))))))))))
 exact⟨rfl,eD⟩
 refine jF (dF aN) (sk (sr (Kz (vP j 4) (Lz (.slice a.au.A a.au.ls.length a.au.c) aU 0 D4 (Kz (vJ a.au.ls.length) (Mn rfl (bo ?_)))))))
 have eF:=aU.pf []
 obtain⟨eG,aI⟩:=lF λ (h:Nat) w'=>Own w D w' [blk j (ay.cells a) 60,blk y [vI d.au,vU d.ax,vU d.bG,vU d.aF, .slice S d.ag.ls.length T, .slice f d.ak.ls.length p, .slice U d.aK.ls.length V] 33]/\h<=a.au.ls.length/\dI d b (ay.abs a) a.au.ls 0=dI d b (ay.abs a) (r4 h a.au.ls) h
 refine C1 (λ i:Nat=> [(2, .bool false),(55,vJ i),(54,vJ a.au.ls.length),(53, .slice a.au.A a.au.ls.length a.au.c),(52,vP j 4),(51, .bool (decide ((a.au.ls.length:Int)=0))),(50, .bool (decide ((a.au.ls.length:Int)=0))),(49,vJ a.au.ls.length),(48, .slice a.au.A a.au.ls.length a.au.c),(47,vP j 4),(46, .bool (!Z)),(45, .bool (!Z)),(44, .bool Z),(43,vI a.aP),(42,vP j 1),(41, .bool (decide ((a.aX:Int) >= ((fQ (C6 (C7.wrap ((d.ax:Int)+1))) 32:Nat):Int)))),(40, .bool (decide ((a.aX:Int) >= ((fQ (C6 (C7.wrap ((d.ax:Int)+1))) 32:Nat):Int)))),(39, .int .u64 ((fQ (C6 (C7.wrap ((d.ax:Int)+1))) 32:Nat):Int)),(38, .int .u64 ((C6 (C7.wrap ((d.ax:Int)+1)):Nat):Int)),(37,vU d.ax),(36,vP y 1),(35,vU a.aX),(34,vP j 0),(33, .bool (decide ((a.aX:Int)<=(N.aX:Int)))),(32, .bool (decide ((a.aX:Int)<=(N.aX:Int)))),(31, .bool (decide ((a.aX:Int)<=(N.aX:Int)))),(30,vU N.aX),(29, .pointer (some ⟨ab f,ao f+(b - 1) *5,none⟩)),(28, .pointer (some ⟨ab f,ao f+(b - 1) *5,none⟩)),(27,vJ (b - 1)),(26,vJ b),(25, .slice f d.ak.ls.length p),(24,vP y 5),(23,vU a.aX),(22,vP j 0),(21, .bool (decide ((b:Int) > 0))),(20, .bool (decide ((b:Int) > 0))),(19,vJ b),(3,vJ b),(4,vP j 0),(18, .agg (ay.cells a).toArray),(17, .pointer (some ⟨ab f,ao f+b *5,none⟩)),(16,vJ b),(15, .bool (decide ((b:Int) < (d.ak.ls.length:Int)))),(14,vJ b),(13,vJ d.ak.ls.length),(12, .slice f d.ak.ls.length p),(1,vP y 0)]) eG (λ i=>a.au.ls.length - i) 0 ⟨rfl,rfl,rfl,rfl,rfl,rfl,rfl,rfl,rfl,rfl,rfl,rfl,rfl,rfl,rfl,rfl,rfl,rfl,rfl,rfl,rfl,rfl,rfl,rfl,rfl,rfl,rfl,rfl,rfl,rfl,rfl,rfl,rfl,rfl,rfl,rfl,rfl,rfl,rfl,rfl,rfl,rfl,rfl,rfl,rfl,rfl,rfl,rfl,trivial⟩ (aI.2 ⟨eF,e6,rfl⟩) ?_
 rintro h gq bY
 obtain⟨aO,fC,aj⟩:=aI.1 bY
 refine sr (Kz (.bool (decide ((h:Int) < (a.au.ls.length:Int)))) (nt (Ik ?_)))
 by_cases cu:(h:Int) < (a.au.ls.length:Int)
 obtain⟨ak,bq⟩:=dh (ls:=a.au.ls) (i:=h) iL f2 (aO.ro (o _ (D1 t)).1) e9
 have aJ:=drop_at bq
 refine jT (dT cu) (sk (Ik (bo (sr (Mz rfl (fw (.pointer (some ⟨ab a.au.A,ao a.au.A+h *1,none⟩)) (Iz (mq) rfl rfl ((aO.ro (o _ (D1 t)).1).addr (i:=h) e6) e6) (fw (vI ak) (IB rfl (bJ.one C2 (((aO.ro (o _ (D1 t)).1).elem iL bq f2).at_ (k:=0) rfl))) (Az rfl (Ar rfl (Mz rfl (Kz (vP y 0) (Lz (vI d.au) aO 1 C2 ?_))))))))))))
 obtain⟨bD,au⟩:∃ q,iM ak d.au=q:=⟨_,rfl⟩
 obtain⟨gu,cz,fD,cB,fE⟩:=Iu aO
 refine cl D3 (l6 _ _ ak d.au bD cz au) ?_
 rintro _ gy ⟨rfl,cK⟩
 have av:=cB _ _ cK
 refine Kz (.bool (!bD)) (Mz rfl ?_)
 rcases Ls (bD) with E | E
 refine gw (vJ h) (cn E) (IA rfl) (Gz (.bool (decide ((h:Int) > 0))) (cn E) (gw (.bool (decide ((h:Int) > 0))) (cn E) (IA rfl) ?_))
 by_cases B:(h:Int) > 0
 refine gw (vI ak) (dT B) (IA rfl) (Gz (vP j 4) (dT B) (Gl (.slice a.au.A a.au.ls.length a.au.c) (dT B) av 0 D4 (gw (vJ h) (dT B) (IA rfl) (gw (vJ (h - 1)) (dT B) (Ir (e:=C3.wrap ((h:Int) - 1)) yk f0) ?_))))
 obtain⟨aV,aW⟩:=dh (ls:=a.au.ls) (i:=h - 1) iL f2 (av.ro (o _ (D1 t)).1) e9
 refine gw (.pointer (some ⟨ab a.au.A,ao a.au.A+(h - 1) *1,none⟩)) (dT B) (Iz (mq) rfl rfl ((av.ro (o _ (D1 t)).1).addr (i:=h - 1) e6) e6) (gw (vI aV) (dT B) (IB rfl (bJ.one C2 (((av.ro (o _ (D1 t)).1).elem iL aW f2).at_ (k:=0) rfl))) (Gz (.bool (decide (ak<=aV))) (dT B) (gw (.bool (decide (ak<=aV))) (cn E) (Iw rfl (dT B) rfl) (fw (.bool (decide (ak<=aV))) (Io rfl (cn E) rfl) (nt ?_)))))
 by_cases aK:ak<=aV
 refine jT (dT aK) (sr (An rfl (rt (bR (tR (tR (bR (bR (tR (tR (bR (tR (rs ?_)))))))))))))
 have cO:=av.pk []
 obtain rfl:_=false:=zj hr (et (iN G) (gL (et (z) (et (congrArg (λ q=>dC d q b) C) (et (ip l) (et (ae (aT P)) (et (iN u) (et (iN ai) (et (ae W) (et (ip F) (et (iN aN) (oU (et (aj) (et (congrArg (λ q=>dI d b (ay.abs a) q h) aJ) (et (ae au) (et (ip E) (et (ip B) (et (ae (aT aW)) (ip aK)))))))))))))))))))
 exact⟨rfl,cO⟩
 refine jF (dF aK) (IU (bN (Iq (Il (fw (vJ (h+1)) (Ir (e:=C3.wrap ((h:Int)+1)) yk f0) (Mz rfl (C4 ?_)))))))
 have cZ:=av.pf []
 exact II (h+1) ⟨rfl,rfl,rfl,rfl,rfl,rfl,rfl,rfl,rfl,rfl,rfl,rfl,rfl,rfl,rfl,rfl,rfl,rfl,rfl,rfl,rfl,rfl,rfl,rfl,rfl,rfl,rfl,rfl,rfl,rfl,rfl,rfl,rfl,rfl,rfl,rfl,rfl,rfl,rfl,rfl,rfl,rfl,rfl,rfl,rfl,rfl,rfl,rfl,trivial⟩ (aI.2 ⟨cZ,e6,et (aj) (et (congrArg (λ q=>dI d b (ay.abs a) q h) aJ) (et (ae au) (et (ip E) (et (ip B) (et (ae (aT aW)) (iN aK))))))⟩) (by show a.au.ls.length - (h+1) < a.au.ls.length - h; omega)
 refine Sz (dF B) (Sz (dF B) (Sz (dF B) (Sz (dF B) (Sz (dF B) (Sz (dF B) (Sz (dF B) (Sz (dF B) (gw (.bool false) (cn E) (Io rfl (dF B) rfl) (fw (.bool false) (Io rfl (cn E) rfl) (nt (jf (IU (bN (Iq (Il (fw (vJ (h+1)) (Ir (e:=C3.wrap ((h:Int)+1)) yk f0) (Mz rfl (C4 ?_))))))))))))))))))
 have di:=av.pf []
 exact II (h+1) ⟨rfl,rfl,rfl,rfl,rfl,rfl,rfl,rfl,rfl,rfl,rfl,rfl,rfl,rfl,rfl,rfl,rfl,rfl,rfl,rfl,rfl,rfl,rfl,rfl,rfl,rfl,rfl,rfl,rfl,rfl,rfl,rfl,rfl,rfl,rfl,rfl,rfl,rfl,rfl,rfl,rfl,rfl,rfl,rfl,rfl,rfl,rfl,rfl,trivial⟩ (aI.2 ⟨di,e6,et (aj) (et (congrArg (λ q=>dI d b (ay.abs a) q h) aJ) (et (ae au) (et (ip E) (iN B))))⟩) (by show a.au.ls.length - (h+1) < a.au.ls.length - h; omega)
 refine Sz (cn E) (Sz (cn E) (Sz (cn E) (IG rfl rfl rfl (IG rfl rfl rfl (IG rfl rfl rfl (IG rfl rfl rfl (IG rfl rfl rfl (IG rfl rfl rfl (IG rfl rfl rfl (IG rfl rfl rfl (Sz (cn E) (fw (.bool true) (Iw rfl (cn E) rfl) (nt (jt (sr (An rfl (rt (bR (tR (tR (bR (bR (tR (tR (bR (tR (rs ?_)))))))))))))))))))))))))))
 have dm:=av.pk []
 obtain rfl:_=false:=zj hr (et (iN G) (gL (et (z) (et (congrArg (λ q=>dC d q b) C) (et (ip l) (et (ae (aT P)) (et (iN u) (et (iN ai) (et (ae W) (et (ip F) (et (iN aN) (oU (et (aj) (et (congrArg (λ q=>dI d b (ay.abs a) q h) aJ) (et (ae au) (fP E))))))))))))))))
 exact⟨rfl,dm⟩
 refine jF (dF cu) (C5 (IC ?_))
 have bE:dI d b (ay.abs a) a.au.ls 0=B7 ():=et (aj) (et (congrArg (λ q=>dI d b (ay.abs a) q h) (dZ (ls:=a.au.ls) (i:=h) e6)) rfl)
 refine IC (IK (bN (Iq (Il (fw (vJ (b+1)) (Ir (e:=C3.wrap ((b:Int)+1)) yk f0) (Mz rfl (C4 ?_)))))))
 have dw:=aO.pk [1]
 exact II (b+1) ⟨rfl,rfl,rfl,rfl,rfl,trivial⟩ (aG.2 ⟨dw,e6,et (z) (et (congrArg (λ q=>dC d q b) C) (et (ip l) (et (ae (aT P)) (et (iN u) (et (iN ai) (et (ae W) (et (ip F) (et (iN aN) (sH bE)))))))))⟩) (by show d.ak.ls.length - (b+1) < d.ak.ls.length - b; omega)
 refine Sz (cn F) (Sz (cn F) (Sz (cn F) (Sz (cn F) (fw (.bool true) (Iw rfl (cn F) rfl) (nt (jt (sr (An rfl (rt (tR (bR (tR (tR (bR (tR (rs ?_))))))))))))))))
 have dx:=aU.pk []
 obtain rfl:_=false:=zj hr (et (iN G) (gL (et (z) (et (congrArg (λ q=>dC d q b) C) (et (ip l) (et (ae (aT P)) (et (iN u) (et (iN ai) (et (ae W) (fP F))))))))))
 exact⟨rfl,dx⟩
 refine Ip (rs:= []) 3 rfl rfl rfl (dF l) e7 (Ip (rs:= []) 4 rfl rfl rfl (dF l) e7 (Ip (rs:= []) 5 rfl rfl rfl (dF l) e7 (Ip (rs:= []) 6 rfl rfl rfl (dF l) e7 (Ip (rs:= []) 7 rfl rfl rfl (dF l) e7 (Ip (rs:= []) 8 rfl rfl rfl (dF l) e7 (Ip (rs:= []) 9 rfl rfl rfl (dF l) e7 (Ip (rs:= []) 10 rfl rfl rfl (dF l) e7 (Ip (rs:= []) 11 rfl rfl rfl (dF l) e7 (Ip (rs:= []) 12 rfl rfl rfl (dF l) e7 (qt (v:= .bool false) 13 rfl (λ _ _=>Io rfl (dF l) rfl) (qv 14 rfl rfl (Iy (v:=vP j 0) (rs:= []) 15 rfl rfl rfl rfl e7 (λ _ _=>yk) (Iy (v:=vU a.aX) (rs:= []) 16 rfl rfl rfl rfl e7 (λ _ ⟨_,H9⟩=>IB rfl (bJ.one D2 (I1 (H9.cls (i:=0) rfl) rfl))) (Iy (v:=vP y 1) (rs:= []) 17 rfl rfl rfl rfl e7 (λ _ _=>yk) (Iy (v:=vU d.ax) (rs:= []) 18 rfl rfl rfl rfl e7 (λ _ ⟨_,H9⟩=>IB rfl (bJ.one D2 (I1 (H9.cls (i:=1) rfl) rfl))) (Iy (v:= .int .u64 ((C6 (C7.wrap ((d.ax:Int)+1)):Nat):Int)) (rs:= []) 19 rfl rfl rfl rfl e7 (λ _ _=>Ir (e:=C7.wrap ((d.ax:Int)+1)) yk (fB _)) ?_))))))))))))))))
 have eH:fQ (C6 (C7.wrap ((d.ax:Int)+1))) 32<=18446744073709551615:=pq _ _
 refine Iy (v:= .int .u64 ((fQ (C6 (C7.wrap ((d.ax:Int)+1))) 32:Nat):Int)) (rs:= []) 20 rfl rfl rfl rfl e7 (λ _ _=>Ir (JO (m:=32) rfl rfl) (fB _)) (Iy (v:= .bool (decide ((a.aX:Int) >= ((fQ (C6 (C7.wrap ((d.ax:Int)+1))) 32:Nat):Int)))) (rs:= []) 21 rfl rfl rfl rfl e7 (λ _ _=>yk) (qt (v:= .bool (decide ((a.aX:Int) >= ((fQ (C6 (C7.wrap ((d.ax:Int)+1))) 32:Nat):Int)))) 22 rfl (λ _ _=>Io rfl rfl rfl) (qn (Iq ?_))))
 by_cases K:(a.aX:Int) >= ((fQ (C6 (C7.wrap ((d.ax:Int)+1))) 32:Nat):Int)
 refine jT (dT K) (sr (An rfl (rt (tR (bR (tR (tR (bR (tR (rs ?_))))))))))
 have dz:=aC.pk []
 obtain rfl:_=false:=zj hr (et (iN G) (gL (et (z) (et (congrArg (λ q=>dC d q b) C) (et (iN l) (ip K))))))
 exact⟨rfl,dz⟩
 refine jF (dF K) (sk (Ik (sr (Kz (vP j 1) (Lz (vI a.aP) aC 0 C2 ?_)))))
 obtain⟨I,J⟩:∃ q,iM a.aP 4=q:=⟨_,rfl⟩
 obtain⟨fF,bF,eO,bG,eP⟩:=Iu aC
 refine cl D3 (l6 _ _ a.aP 4 I bF J) ?_
 rintro _ fG ⟨rfl,bH⟩
 have ax:=bG _ _ bH
 refine Kz (.bool (!I)) (Mz rfl ?_)
 rcases Ls (I) with s | s
 refine Gz (vP j 4) (cn s) (Gl (.slice a.au.A a.au.ls.length a.au.c) (cn s) ax 0 D4 (Gz (vJ a.au.ls.length) (cn s) (Gz (.bool (decide ((a.au.ls.length:Int)=0))) (cn s) (fw (.bool (decide ((a.au.ls.length:Int)=0))) (Io rfl (cn s) rfl) (nt ?_)))))
 by_cases X:(a.au.ls.length:Int)=0
 refine jT (dT X) (sr (An rfl (rt (tR (bR (tR (tR (bR (tR (rs ?_))))))))))
 have dB:=ax.pk []
 obtain rfl:_=false:=zj hr (et (iN G) (gL (et (z) (et (congrArg (λ q=>dC d q b) C) (et (iN l) (et (iN K) (et (ae J) (et (ip s) (ip X)))))))))
 exact⟨rfl,dB⟩
 refine jF (dF X) (sk (sr (Kz (vP j 4) (Lz (.slice a.au.A a.au.ls.length a.au.c) ax 0 D4 (Kz (vJ a.au.ls.length) (Mn rfl (bo ?_)))))))
 have dD:=ax.pf []
 obtain⟨dE,aa⟩:=lF λ (g:Nat) w'=>Own w D w' [blk j (ay.cells a) 60,blk y [vI d.au,vU d.ax,vU d.bG,vU d.aF, .slice S d.ag.ls.length T, .slice f d.ak.ls.length p, .slice U d.aK.ls.length V] 33]/\g<=a.au.ls.length/\gm d b (ay.abs a) a.au.ls 0=gm d b (ay.abs a) (r4 g a.au.ls) g
 refine C1 (λ i:Nat=> [(2, .bool false),(55,vJ i),(54,vJ a.au.ls.length),(53, .slice a.au.A a.au.ls.length a.au.c),(52,vP j 4),(51, .bool (decide ((a.au.ls.length:Int)=0))),(50, .bool (decide ((a.au.ls.length:Int)=0))),(49,vJ a.au.ls.length),(48, .slice a.au.A a.au.ls.length a.au.c),(47,vP j 4),(46, .bool (!I)),(45, .bool (!I)),(44, .bool I),(43,vI a.aP),(42,vP j 1),(41, .bool (decide ((a.aX:Int) >= ((fQ (C6 (C7.wrap ((d.ax:Int)+1))) 32:Nat):Int)))),(40, .bool (decide ((a.aX:Int) >= ((fQ (C6 (C7.wrap ((d.ax:Int)+1))) 32:Nat):Int)))),(39, .int .u64 ((fQ (C6 (C7.wrap ((d.ax:Int)+1))) 32:Nat):Int)),(38, .int .u64 ((C6 (C7.wrap ((d.ax:Int)+1)):Nat):Int)),(37,vU d.ax),(36,vP y 1),(35,vU a.aX),(34,vP j 0),(33, .bool false),(32, .bool false),(31,undef),(30,undef),(29,undef),(28,undef),(27,undef),(26,undef),(25,undef),(24,undef),(23,undef),(22,undef),(21, .bool (decide ((b:Int) > 0))),(20, .bool (decide ((b:Int) > 0))),(19,vJ b),(3,vJ b),(4,vP j 0),(18, .agg (ay.cells a).toArray),(17, .pointer (some ⟨ab f,ao f+b *5,none⟩)),(16,vJ b),(15, .bool (decide ((b:Int) < (d.ak.ls.length:Int)))),(14,vJ b),(13,vJ d.ak.ls.length),(12, .slice f d.ak.ls.length p),(1,vP y 0)]) dE (λ i=>a.au.ls.length - i) 0 ⟨rfl,rfl,rfl,rfl,rfl,rfl,rfl,rfl,rfl,rfl,rfl,rfl,rfl,rfl,rfl,rfl,rfl,rfl,rfl,rfl,rfl,rfl,rfl,rfl,rfl,rfl,rfl,rfl,rfl,rfl,rfl,rfl,rfl,rfl,rfl,rfl,rfl,rfl,rfl,rfl,rfl,rfl,rfl,rfl,rfl,rfl,rfl,rfl,trivial⟩ (aa.2 ⟨dD,e6,rfl⟩) ?_
 rintro g fH bI
 obtain⟨Y,eQ,Q⟩:=aa.1 bI
 refine sr (Kz (.bool (decide ((g:Int) < (a.au.ls.length:Int)))) (nt (Ik ?_)))
 by_cases bu:(g:Int) < (a.au.ls.length:Int)
 obtain⟨L,aX⟩:=dh (ls:=a.au.ls) (i:=g) iL f2 (Y.ro (o _ (D1 t)).1) e9
 have ag:=drop_at aX
 refine jT (dT bu) (sk (Ik (bo (sr (Mz rfl (fw (.pointer (some ⟨ab a.au.A,ao a.au.A+g *1,none⟩)) (Iz (mq) rfl rfl ((Y.ro (o _ (D1 t)).1).addr (i:=g) e6) e6) (fw (vI L) (IB rfl (bJ.one C2 (((Y.ro (o _ (D1 t)).1).elem iL aX f2).at_ (k:=0) rfl))) (Az rfl (Ar rfl (Mz rfl (Kz (vP y 0) (Lz (vI d.au) Y 1 C2 ?_))))))))))))
 obtain⟨aZ,R⟩:∃ q,iM L d.au=q:=⟨_,rfl⟩
 obtain⟨fI,bK,eT,bL,eU⟩:=Iu Y
 refine cl D3 (l6 _ _ L d.au aZ bK R) ?_
 rintro _ fJ ⟨rfl,bM⟩
 have M:=bL _ _ bM
 refine Kz (.bool (!aZ)) (Mz rfl ?_)
 rcases Ls (aZ) with r | r
 refine gw (vJ g) (cn r) (IA rfl) (Gz (.bool (decide ((g:Int) > 0))) (cn r) (gw (.bool (decide ((g:Int) > 0))) (cn r) (IA rfl) ?_))
 by_cases n:(g:Int) > 0
 refine gw (vI L) (dT n) (IA rfl) (Gz (vP j 4) (dT n) (Gl (.slice a.au.A a.au.ls.length a.au.c) (dT n) M 0 D4 (gw (vJ g) (dT n) (IA rfl) (gw (vJ (g - 1)) (dT n) (Ir (e:=C3.wrap ((g:Int) - 1)) yk f0) ?_))))
 obtain⟨az,aF⟩:=dh (ls:=a.au.ls) (i:=g - 1) iL f2 (M.ro (o _ (D1 t)).1) e9
 refine gw (.pointer (some ⟨ab a.au.A,ao a.au.A+(g - 1) *1,none⟩)) (dT n) (Iz (mq) rfl rfl ((M.ro (o _ (D1 t)).1).addr (i:=g - 1) e6) e6) (gw (vI az) (dT n) (IB rfl (bJ.one C2 (((M.ro (o _ (D1 t)).1).elem iL aF f2).at_ (k:=0) rfl))) (Gz (.bool (decide (L<=az))) (dT n) (gw (.bool (decide (L<=az))) (cn r) (Iw rfl (dT n) rfl) (fw (.bool (decide (L<=az))) (Io rfl (cn r) rfl) (nt ?_)))))
 by_cases aL:L<=az
 refine jT (dT aL) (sr (An rfl (rt (bR (tR (tR (bR (bR (tR (tR (bR (tR (rs ?_)))))))))))))
 have dG:=M.pk []
 obtain rfl:_=false:=zj hr (et (iN G) (gL (et (z) (et (congrArg (λ q=>dC d q b) C) (et (iN l) (et (iN K) (et (ae J) (et (ip s) (et (iN X) (oU (et (Q) (et (congrArg (λ q=>gm d b (ay.abs a) q g) ag) (et (ae R) (et (ip r) (et (ip n) (et (ae (aT aF)) (ip aL)))))))))))))))))
 exact⟨rfl,dG⟩
 refine jF (dF aL) (IU (bN (Iq (Il (fw (vJ (g+1)) (Ir (e:=C3.wrap ((g:Int)+1)) yk f0) (Mz rfl (C4 ?_)))))))
 have dH:=M.pf []
 exact II (g+1) ⟨rfl,rfl,rfl,rfl,rfl,rfl,rfl,rfl,rfl,rfl,rfl,rfl,rfl,rfl,rfl,rfl,rfl,rfl,rfl,rfl,rfl,rfl,rfl,rfl,rfl,rfl,rfl,rfl,rfl,rfl,rfl,rfl,rfl,rfl,rfl,rfl,rfl,rfl,rfl,rfl,rfl,rfl,rfl,rfl,rfl,rfl,rfl,rfl,trivial⟩ (aa.2 ⟨dH,e6,et (Q) (et (congrArg (λ q=>gm d b (ay.abs a) q g) ag) (et (ae R) (et (ip r) (et (ip n) (et (ae (aT aF)) (iN aL))))))⟩) (by show a.au.ls.length - (g+1) < a.au.ls.length - g; omega)
 refine Sz (dF n) (Sz (dF n) (Sz (dF n) (Sz (dF n) (Sz (dF n) (Sz (dF n) (Sz (dF n) (Sz (dF n) (gw (.bool false) (cn r) (Io rfl (dF n) rfl) (fw (.bool false) (Io rfl (cn r) rfl) (nt (jf (IU (bN (Iq (Il (fw (vJ (g+1)) (Ir (e:=C3.wrap ((g:Int)+1)) yk f0) (Mz rfl (C4 ?_))))))))))))))))))
 have dJ:=M.pf []
 exact II (g+1) ⟨rfl,rfl,rfl,rfl,rfl,rfl,rfl,rfl,rfl,rfl,rfl,rfl,rfl,rfl,rfl,rfl,rfl,rfl,rfl,rfl,rfl,rfl,rfl,rfl,rfl,rfl,rfl,rfl,rfl,rfl,rfl,rfl,rfl,rfl,rfl,rfl,rfl,rfl,rfl,rfl,rfl,rfl,rfl,rfl,rfl,rfl,rfl,rfl,trivial⟩ (aa.2 ⟨dJ,e6,et (Q) (et (congrArg (λ q=>gm d b (ay.abs a) q g) ag) (et (ae R) (et (ip r) (iN n))))⟩) (by show a.au.ls.length - (g+1) < a.au.ls.length - g; omega)
 refine Sz (cn r) (Sz (cn r) (Sz (cn r) (IG rfl rfl rfl (IG rfl rfl rfl (IG rfl rfl rfl (IG rfl rfl rfl (IG rfl rfl rfl (IG rfl rfl rfl (IG rfl rfl rfl (IG rfl rfl rfl (Sz (cn r) (fw (.bool true) (Iw rfl (cn r) rfl) (nt (jt (sr (An rfl (rt (bR (tR (tR (bR (bR (tR (tR (bR (tR (rs ?_)))))))))))))))))))))))))))
 have dK:=M.pk []
 obtain rfl:_=false:=zj hr (et (iN G) (gL (et (z) (et (congrArg (λ q=>dC d q b) C) (et (iN l) (et (iN K) (et (ae J) (et (ip s) (et (iN X) (oU (et (Q) (et (congrArg (λ q=>gm d b (ay.abs a) q g) ag) (et (ae R) (fP r))))))))))))))
 exact⟨rfl,dK⟩
 refine jF (dF bu) (C5 (IC ?_))
 have bO:gm d b (ay.abs a) a.au.ls 0=B7 ():=et (Q) (et (congrArg (λ q=>gm d b (ay.abs a) q g) (dZ (ls:=a.au.ls) (i:=g) e6)) rfl)
 refine IC (IK (bN (Iq (Il (fw (vJ (b+1)) (Ir (e:=C3.wrap ((b:Int)+1)) yk f0) (Mz rfl (C4 ?_)))))))
 have dL:=Y.pk [1]
 exact II (b+1) ⟨rfl,rfl,rfl,rfl,rfl,trivial⟩ (aG.2 ⟨dL,e6,et (z) (et (congrArg (λ q=>dC d q b) C) (et (iN l) (et (iN K) (et (ae J) (et (ip s) (et (iN X) (sH bO)))))))⟩) (by show d.ak.ls.length - (b+1) < d.ak.ls.length - b; omega)
 refine Sz (cn s) (Sz (cn s) (Sz (cn s) (Sz (cn s) (fw (.bool true) (Iw rfl (cn s) rfl) (nt (jt (sr (An rfl (rt (tR (bR (tR (tR (bR (tR (rs ?_))))))))))))))))
 have dM:=ax.pk []
 obtain rfl:_=false:=zj hr (et (iN G) (gL (et (z) (et (congrArg (λ q=>dC d q b) C) (et (iN l) (et (iN K) (et (ae J) (fP s))))))))
 exact⟨rfl,dM⟩
 refine jF (dF bT) (C5 (IC ?_))
 have bP:dC d d.ak.ls 0=B7 ():=et (z) (et (congrArg (λ q=>dC d q b) (dZ (ls:=d.ak.ls) (i:=b) e6)) rfl)
 refine IC (IK (Iq (sr (An rfl (rt (rs ?_))))))
 have dN:=aQ.pk []
 obtain rfl:_=true:=zj hr (et (iN G) (mF bP))
 exact⟨rfl,dN⟩
def gy:List aH->Unit ⊕ Bool
  | []=>B7 ()
  | a::c=>bnd (dR a.aZ) λ b=>if b=0 then if(a.aG.length:Int) > 16 then B9 (false) else gy c else B9 (false)
def j5 (a:aQ):Bool:=
 if(a.aG.length:Int) > 16 then false else if(a.aj.ls.length:Int) > 4 then false else lp (gy a.aj.ls) λ _=>true
theorem qR (w D) (a:aQ) (f x h X) (H:Own w D w []) (B:x=a.aj.ls.length) (j:Ro w D λ w'=>aY w' 2 f a.aj.ls.length (q4 aH.cells a.aj.ls)) (N:a.aj.ls.length<=h/\a.aj.ls.length<=9223372036854775807) (hr:j5 a=X):
    Calls v5 73 #[.agg #[.bool a.dV, .string ⟨v6 a.aG⟩, .slice f x h]] w (dA λ v w'=>v= .bool X/\Own w D w' []):=by
 unfold j5 at hr
 subst B
 refine cb Tryz.func73 ?_
 refine sr ?_
 refine dn [.bool a.dV, .string ⟨v6 a.aG⟩, .slice f a.aj.ls.length h] 149 H ?_
 intro C af m
 refine An rfl (Ik (sr (Kz (vP C 1) (Lz (.string ⟨v6 a.aG⟩) m 0 C0 (Kz (vJ a.aG.length) (Kz (.bool (decide ((a.aG.length:Int) > 16))) (Mz rfl ?_)))))))
 by_cases b:(a.aG.length:Int) > 16
 refine Sz (dT b) (Sz (dT b) (Sz (dT b) (Sz (dT b) (fw (.bool true) (Iw rfl (dT b) rfl) (nt (jt (sr (An rfl (rt (tR (rs ?_)))))))))))
 have O:=m.pk []
 obtain rfl:=zj hr zq1
 exact⟨rfl,O⟩
 refine Gz (vP C 2) (dF b) (Gl (.slice f a.aj.ls.length h) (dF b) m 0 Tryz.isAgg147 (Gz (vJ a.aj.ls.length) (dF b) (Gz (.bool (decide ((a.aj.ls.length:Int) > 4))) (dF b) (fw (.bool (decide ((a.aj.ls.length:Int) > 4))) (Io rfl (dF b) rfl) (nt ?_)))))
 by_cases n:(a.aj.ls.length:Int) > 4
 refine jT (dT n) (sr (An rfl (rt (tR (rs ?_)))))
 have P:=m.pk []
 obtain rfl:=zj hr zq2
 exact⟨rfl,P⟩
 refine jF (dF n) (sk (Ik (sr (Kz (vP C 2) (Lz (.slice f a.aj.ls.length h) m 0 Tryz.isAgg147 (Kz (vJ a.aj.ls.length) (Mn rfl (bo ?_))))))))
 have Q:=m.pk []
 obtain⟨R,p⟩:=lF λ (c:Nat) w'=>Own w D w' []/\c<=a.aj.ls.length/\gy a.aj.ls=gy (r4 c a.aj.ls)
 refine C1 (λ i:Nat=> [(2, .bool false),(18,vJ i),(17,vJ a.aj.ls.length),(16, .slice f a.aj.ls.length h)]) R (λ i=>a.aj.ls.length - i) 0 ⟨rfl,rfl,rfl,rfl,trivial⟩ (p.2 ⟨Q,e6,rfl⟩) ?_
 rintro c ag E
 obtain⟨r,Y,k⟩:=p.1 E
 refine sr (Kz (.bool (decide ((c:Int) < (a.aj.ls.length:Int)))) (nt (Ik ?_)))
 by_cases F:(c:Int) < (a.aj.ls.length:Int)
 obtain⟨d,y⟩:=dh (ls:=a.aj.ls) (i:=c) aH.len f2 (r.ro j) e9
 have s:=drop_at y
 refine jT (dT F) (sk (Ik (bo (sr (fw (.pointer (some ⟨ab f,ao f+c *2,none⟩)) (Iz (jL) rfl rfl ((r.ro j).addr (i:=c) e6) e6) (fw (.agg (aH.cells d).toArray) (IB rfl (IJ (cs:=(aH.cells d)) Tryz.isAgg153 Tryz.sizeOf153 ((r.ro j).elem aH.len y f2))) ?_))))))
 refine dn [.string ⟨v6 []⟩, .string ⟨v6 []⟩] 153 r ?_
 intro G ah S
 refine df (aH.cells d) 0 S Tryz.sizeOf153 ?_
 intro ai I
 refine ns (Kz (vP G 0) (Lz (.string ⟨v6 d.aZ⟩) I 0 C0 ?_))
 obtain⟨o,l⟩:∃ q,dR d.aZ=q:=⟨_,rfl⟩
 obtain⟨aj,J,Z,K,aa⟩:=Iu I
 refine cl Tryz.call112 (j4 _ _ d.aZ o J l) ?_
 rintro _ ak ⟨rfl,L,z,A⟩
 have t:=K _ _ L
 replace z: ¬ (o=0)\/(1<=d.aZ.length/\d.aZ.length<=12):=z
 replace A:d.aZ.length < 1\/d.aZ.length > 12\/o=0:=A
 refine fw (.bool (decide (¬ (o=0)))) (IM (e:= !(decide (o=0))) yk decide_not.symm) (Mz rfl ?_)
 by_cases g:o=0
 refine gw (vP G 1) (dF (Lr g)) yk (gw (.string ⟨v6 d.aG⟩) (dF (Lr g)) (IB rfl (bJ.one C0 (I1 (t.cls (i:=0) rfl) rfl))) (gw (vJ d.aG.length) (dF (Lr g)) yk (gw (.bool (decide ((d.aG.length:Int) > 16))) (dF (Lr g)) yk (fw (.bool (decide ((d.aG.length:Int) > 16))) (Io rfl (dF (Lr g)) rfl) (nt ?_)))))
 by_cases u:(d.aG.length:Int) > 16
 refine jT (dT u) (sr (An rfl (rt (bR (tR (tR (bR (tR (rs ?_)))))))))
 have T:=t.pk []
 obtain rfl:_=false:=zj hr (et (iN b) (et (iN n) (gL (et (k) (et (congrArg (λ q=>gy q) s) (et (ae l) (et (ip g) (ip u))))))))
 exact⟨rfl,T⟩
 refine jF (dF u) (IU (bN (Iq (Il (fw (vJ (c+1)) (Ir (e:=C3.wrap ((c:Int)+1)) yk f0) (Mz rfl (C4 ?_)))))))
 have U:=t.pk []
 exact II (c+1) ⟨rfl,rfl,rfl,rfl,trivial⟩ (p.2 ⟨U,e6,et (k) (et (congrArg (λ q=>gy q) s) (et (ae l) (et (ip g) (iN u))))⟩) (by show a.aj.ls.length - (c+1) < a.aj.ls.length - c; omega)
 refine Sz (dT g) (Sz (dT g) (Sz (dT g) (Sz (dT g) (fw (.bool true) (Iw rfl (dT g) rfl) (nt (jt (sr (An rfl (rt (bR (tR (tR (bR (tR (rs ?_)))))))))))))))
 have V:=t.pk []
 obtain rfl:_=false:=zj hr (et (iN b) (et (iN n) (gL (et (k) (et (congrArg (λ q=>gy q) s) (et (ae l) (iN g)))))))
 exact⟨rfl,V⟩
 refine jF (dF F) (C5 (IC ?_))
 have M:gy a.aj.ls=B7 ():=et (k) (et (congrArg (λ q=>gy q) (dZ (ls:=a.aj.ls) (i:=c) e6)) rfl)
 refine IC (IK (Iq (sr (An rfl (rt (rs ?_))))))
 have W:=r.pk []
 obtain rfl:_=true:=zj hr (et (iN b) (et (iN n) (mF M)))
 exact⟨rfl,W⟩
def fU (e:Nat) (c:fF):Nat->Nat->Unit ⊕ Bool
  | 0,b=>B7 ()
  | f+1,b=>bnd (B8 c.ah.ls b default) λ a=>bnd (j5 (aQ.mk a.dV a.aG (E0 a.aj.ls))) λ d=>if d=true then fU e c f (b+1) else B9 (false)
def jd (f:Nat) (d:fF):Nat->Nat->Unit ⊕ Bool
  | 0,b=>B7 ()
  | e+1,b=>bnd (B8 d.ah.ls b default) λ a=>bnd (j5 (aQ.mk a.dV a.aG (E0 a.aj.ls))) λ c=>if c=true then jd f d e (b+1) else B9 (false)
def fC (l0:List fF):List fF->Nat->Unit ⊕ Bool
  | [],b=>B7 ()
  | a::c,b=>bnd (iM a.aP 4) λ d=>if d=true then if(b:Int) > 0 then bnd (B8 l0 (b - 1) default) λ e=>if a.aP<=e.aP then B9 (false) else if(a.ah.ls.length:Int) > 4 then B9 (false) else sW (fU b a a.ah.ls.length 0) λ _=>fC l0 c (b+1) else if(a.ah.ls.length:Int) > 4 then B9 (false) else sW (jd b a a.ah.ls.length 0) λ _=>fC l0 c (b+1) else B9 (false)
def pJ (l0:List fF):Bool:=
 if(l0.length:Int) > 4 then false else lp (fC l0 l0 0) λ _=>true
theorem wK (w D o n0 K d0 l0 r0) (H:Own w D w []) (av:s5 aS.abs d0=l0) (R:Ro w D λ w'=>aY w' 4 o n0 (q4 aS.cells d0)) (B:∀ x ∈ d0,Ro w D (λ w'=>aY w' 3 x.ah.A x.ah.ls.length (q4 af.cells x.ah.ls))/\(x.ah.ls.length<=x.ah.c/\x.ah.ls.length<=9223372036854775807)/\(∀ y1 ∈ x.ah.ls,Ro w D (λ w'=>aY w' 2 y1.aj.A y1.aj.ls.length (q4 aH.cells y1.aj.ls))/\(y1.aj.ls.length<=y1.aj.c/\y1.aj.ls.length<=9223372036854775807))) (bI:n0=l0.length) (dK:l0.length<=9223372036854775807) (hr:pJ l0=r0):
    Calls v5 43 #[.slice o n0 K] w (dA λ v w'=>v= .bool r0/\Own w D w' []):=by
 unfold pJ at hr
 subst bI
 have cB:=aA av
 refine cb Tryz.func43 ?_
 refine sr (An rfl (Ik (sr (Mz rfl (Kz (vJ l0.length) (Kz (.bool (decide ((l0.length:Int) > 4))) (nt ?_)))))))
 by_cases C:(l0.length:Int) > 4
 refine jT (dT C) (sr (An rfl (rt (tR (rs ?_)))))
 have bK:=H.pk []
 obtain rfl:=zj hr zq1
 exact⟨rfl,bK⟩
 refine jF (dF C) (sk (Ik (sr (Mz rfl (Kz (vJ l0.length) (Mn rfl (bo ?_)))))))
 have bL:=H.pk []
 obtain⟨bM,O⟩:=lF λ (b:Nat) w'=>Own w D w' []/\b<=l0.length/\fC l0 l0 0=fC l0 (r4 b l0) b
 refine C1 (λ i:Nat=> [(2, .bool false),(12,vJ i),(11,vJ l0.length),(10, .slice o l0.length K),(0, .slice o l0.length K)]) bM (λ i=>l0.length - i) 0 ⟨rfl,rfl,rfl,rfl,rfl,trivial⟩ (O.2 ⟨bL,e6,rfl⟩) ?_
 rintro b dL aL
 obtain⟨S,cK,t⟩:=O.1 aL
 refine sr (Kz (.bool (decide ((b:Int) < (l0.length:Int)))) (nt (Ik ?_)))
 by_cases aM:(b:Int) < (l0.length:Int)
 obtain⟨a,m⟩:=dh (ls:=d0) (i:=b) aS.len f2 (S.ro R) e9
 have aN:=eY av m
 have cO:=(B _ (D1 m)).2.1
 have cZ:s0 (s5 af.abs a.ah.ls)=a.ah.ls.length:=s3 ..
 have z:=drop_at aN
 refine jT (dT aM) (sk (Ik (bo (sr (Mz rfl (fw (.pointer (some ⟨ab o,ao o+b *4,none⟩)) (Iz (lW) rfl rfl ((S.ro R).addr (i:=b) e6) e6) (fw (.agg (aS.cells a).toArray) (IB rfl (IJ (cs:=(aS.cells a)) Tryz.isAgg56 Tryz.sizeOf56 ((S.ro R).elem aS.len m f2))) ?_)))))))
 refine dn [vI 0, .int .u64 0, .int .u64 0, .slice none 0 0] 56 S ?_
 intro g dM bO
 refine Az rfl ?_
 refine df (aS.cells a) 0 bO Tryz.sizeOf56 ?_
 intro dN bP
 refine nt (Ik (Ik ?_))
 refine vo [] (IE (IE (bv.block (IE (IE (bv.block (IE IQ))))))) bP ?_
 intro dO bQ
 refine qp g 0 0 rfl (ql 1 rfl 0 C2 rfl rfl rfl ?_)
 obtain⟨s,u⟩:∃ q,iM a.aP 4=q:=⟨_,rfl⟩
 obtain⟨dP,aO,di,aP,dm⟩:=Iu bQ
 refine qd 2 rfl (IP D3 rfl (l6 _ _ a.aP 4 s aO u) ?_)
 rintro _ dQ ⟨rfl,aR⟩
 have E:=aP _ _ aR
 refine⟨.inr ⟨_,E⟩, ?_⟩
 refine qk (.bool (!s)) 3 rfl (qv 4 rfl rfl ?_)
 rcases Ls (s) with j | j
 refine Iy (v:=vJ b) (rs:= []) 5 rfl rfl rfl (cn j) e7 (λ _ _=>IA rfl) (Iy (v:= .bool (decide ((b:Int) > 0))) (rs:= []) 6 rfl rfl rfl (cn j) e7 (λ _ _=>yk) (Iy (v:= .bool (decide ((b:Int) > 0))) (rs:= []) 7 rfl rfl rfl (cn j) e7 (λ _ _=>IA rfl) ?_))
 by_cases f:(b:Int) > 0
 refine Iy (v:=vP g 0) (rs:= []) 8 rfl rfl rfl (dT f) e7 (λ _ _=>yk) (Iy (v:=vI a.aP) (rs:= []) 9 rfl rfl rfl (dT f) e7 (λ _ ⟨_,H9⟩=>IB rfl (bJ.one C2 (I1 (H9.cls (i:=0) rfl) rfl))) (Iy (v:= .slice o l0.length K) (rs:= []) 10 rfl rfl rfl (dT f) e7 (λ _ _=>IA rfl) (Iy (v:=vJ b) (rs:= []) 11 rfl rfl rfl (dT f) e7 (λ _ _=>IA rfl) (Iy (v:=vJ (b - 1)) (rs:= []) 12 rfl rfl rfl (dT f) e7 (λ _ _=>Ir (e:=C3.wrap ((b:Int) - 1)) yk f0) ?_))))
 obtain⟨p,T⟩:=iG (ls:=d0) (i:=b - 1) e9
 have P:=eY av T
 have dw:=(B _ (D1 T)).2.1
 have dx:s0 (s5 af.abs p.ah.ls)=p.ah.ls.length:=s3 ..
 refine Iy (v:= .pointer (some ⟨ab o,ao o+(b - 1) *4,none⟩)) (rs:= []) 13 rfl rfl rfl (dT f) e7 (λ _ ⟨_,H9⟩=>Iz (lW) rfl rfl ((H9.ro R).addr (i:=b - 1) e6) e6) (Iy (v:= .pointer (some ⟨ab o,ao o+(b - 1) *4,none⟩)) (rs:= []) 14 rfl rfl rfl (dT f) e7 (λ _ _=>yk) (Iy (v:=vI p.aP) (rs:= []) 15 rfl rfl rfl (dT f) e7 (λ _ ⟨_,H9⟩=>IB rfl (bJ.one C2 (((H9.ro R).elem aS.len T f2).at_ (k:=0) rfl))) (Iy (v:= .bool (decide (a.aP<=p.aP))) (rs:= []) 16 rfl rfl rfl (dT f) e7 (λ _ _=>yk) (Iy (v:= .bool (decide (a.aP<=p.aP))) (rs:= []) 17 rfl rfl rfl (cn j) e7 (λ _ _=>Iw rfl (dT f) rfl) (qt (v:= .bool (decide (a.aP<=p.aP))) 18 rfl (λ _ _=>Io rfl (cn j) rfl) (qv 19 rfl rfl ?_))))))
 by_cases y:a.aP<=p.aP
 refine Ip (rs:= []) 20 rfl rfl rfl (dT y) e7 (Ip (rs:= []) 21 rfl rfl rfl (dT y) e7 (Ip (rs:= []) 22 rfl rfl rfl (dT y) e7 (Ip (rs:= []) 23 rfl rfl rfl (dT y) e7 (qt (v:= .bool true) 24 rfl (λ _ _=>Iw rfl (dT y) rfl) (qn (Iq (jt (sr (An rfl (rt (tR (bR (tR (tR (bR (tR (rs ?_)))))))))))))))))
 have bS:=E.pk []
 obtain rfl:_=false:=zj hr (et (iN C) (gL (et (t) (et (congrArg (λ q=>fC l0 q b) z) (et (ae u) (et (ip j) (et (ip f) (et (ae (aT P)) (ip y)))))))))
 exact⟨rfl,bS⟩
 refine Iy (v:=vP g 3) (rs:= []) 20 rfl rfl rfl (dF y) e7 (λ _ _=>yk) (Iy (v:= .slice a.ah.A a.ah.ls.length a.ah.c) (rs:= []) 21 rfl rfl rfl (dF y) e7 (λ _ ⟨_,H9⟩=>IB rfl (bJ.one E1 (I1 (H9.cls (i:=0) rfl) rfl))) (Iy (v:=vJ (s0 (s5 af.abs a.ah.ls))) (rs:= []) 22 rfl rfl rfl (dF y) e7 (λ _ _=>Ir (e:=(a.ah.ls.length:Int)) yk j7) (Iy (v:= .bool (decide (((s0 (s5 af.abs a.ah.ls):Nat):Int) > 4))) (rs:= []) 23 rfl rfl rfl (dF y) e7 (λ _ _=>yk) (qt (v:= .bool (decide (((s0 (s5 af.abs a.ah.ls):Nat):Int) > 4))) 24 rfl (λ _ _=>Io rfl (dF y) rfl) (qn (Iq ?_))))))
 by_cases U:((s0 (s5 af.abs a.ah.ls):Nat):Int) > 4
 refine jT (dT U) (sr (An rfl (rt (tR (bR (tR (tR (bR (tR (rs ?_))))))))))
 have bT:=E.pk []
 obtain rfl:_=false:=zj hr (et (iN C) (gL (et (t) (et (congrArg (λ q=>fC l0 q b) z) (et (ae u) (et (ip j) (et (ip f) (et (ae (aT P)) (et (iN y) (ip U))))))))))
 exact⟨rfl,bT⟩
 refine jF (dF U) (sk (sr (Kz (vP g 3) (Lz (.slice a.ah.A a.ah.ls.length a.ah.c) E 0 E1 (fw (vJ (s0 (s5 af.abs a.ah.ls))) (Ir (e:=(a.ah.ls.length:Int)) yk j7) (Mn rfl (bo ?_)))))))
 have bU:=E.pf []
 obtain⟨bV,V⟩:=lF λ (l:Nat) w'=>Own w D w' [blk g (aS.cells a) 56]/\l<=s0 (s5 af.abs a.ah.ls)/\fU b (aS.abs a) (s0 (s5 af.abs a.ah.ls)) 0=fU b (aS.abs a) ((s0 (s5 af.abs a.ah.ls)) - l) l
 refine C1 (λ i:Nat=> [(2, .bool false),(45,vJ i),(44,vJ (s0 (s5 af.abs a.ah.ls))),(43, .slice a.ah.A a.ah.ls.length a.ah.c),(42,vP g 3),(41, .bool (decide (((s0 (s5 af.abs a.ah.ls):Nat):Int) > 4))),(40, .bool (decide (((s0 (s5 af.abs a.ah.ls):Nat):Int) > 4))),(39,vJ (s0 (s5 af.abs a.ah.ls))),(38, .slice a.ah.A a.ah.ls.length a.ah.c),(37,vP g 3),(36, .bool (decide (a.aP<=p.aP))),(35, .bool (decide (a.aP<=p.aP))),(34, .bool (decide (a.aP<=p.aP))),(33, .bool (decide (a.aP<=p.aP))),(32,vI p.aP),(31, .pointer (some ⟨ab o,ao o+(b - 1) *4,none⟩)),(30, .pointer (some ⟨ab o,ao o+(b - 1) *4,none⟩)),(29,vJ (b - 1)),(28,vJ b),(27, .slice o l0.length K),(26,vI a.aP),(25,vP g 0),(24, .bool (decide ((b:Int) > 0))),(23, .bool (decide ((b:Int) > 0))),(22,vJ b),(21, .bool (!s)),(20, .bool (!s)),(19, .bool s),(18,vI a.aP),(17,vP g 0),(3,vJ b),(4,vP g 0),(16, .agg (aS.cells a).toArray),(15, .pointer (some ⟨ab o,ao o+b *4,none⟩)),(14,vJ b),(13, .bool (decide ((b:Int) < (l0.length:Int)))),(12,vJ b),(11,vJ l0.length),(10, .slice o l0.length K),(0, .slice o l0.length K)]) bV (λ i=>(s0 (s5 af.abs a.ah.ls)) - i) 0 ⟨rfl,rfl,rfl,rfl,rfl,rfl,rfl,rfl,rfl,rfl,rfl,rfl,rfl,rfl,rfl,rfl,rfl,rfl,rfl,rfl,rfl,rfl,rfl,rfl,rfl,rfl,rfl,rfl,rfl,rfl,rfl,rfl,rfl,rfl,rfl,rfl,rfl,rfl,rfl,rfl,trivial⟩ (V.2 ⟨bU,e6,rfl⟩) ?_
 rintro l dR aU
 obtain⟨W,dz,X⟩:=V.1 aU
 refine sr (Kz (.bool (decide ((l:Int) < ((s0 (s5 af.abs a.ah.ls):Nat):Int)))) (nt (Ik ?_)))
 by_cases aV:(l:Int) < ((s0 (s5 af.abs a.ah.ls):Nat):Int)
 refine jT (dT aV) (sk (Ik (bo (sr ?_))))
 obtain⟨r,Q⟩:=dh (ls:=a.ah.ls) (i:=l) af.len f2 (W.ro (B _ (D1 m)).1) e9
 have ai:=eY (rfl:s5 af.abs a.ah.ls=s5 af.abs a.ah.ls) Q
 have dB:=((B _ (D1 m)).2.2 _ (D1 Q)).2
 refine fw (.pointer (some ⟨ab a.ah.A,ao a.ah.A+l *3,none⟩)) (Iz (rX) rfl rfl ((W.ro (B _ (D1 m)).1).addr (i:=l) e6) e6) (fw (.agg (af.cells r).toArray) (IB rfl (IJ (cs:=(af.cells r)) E2 E3 ((W.ro (B _ (D1 m)).1).elem af.len Q f2))) ?_)
 refine dn [.bool false, .string ⟨v6 []⟩, .slice none 0 0] 149 W ?_
 intro dS dU bW
 refine df (af.cells r) 0 bW E3 ?_
 intro dV aW
 refine ns (La (af.cells r) aW 0 E2 E3 ?_)
 obtain⟨ax,Y⟩:∃ q,j5 (aQ.mk r.dV r.aG (E0 r.aj.ls))=q:=⟨_,rfl⟩
 obtain⟨dW,aX,aZ,bf,dC⟩:=Iu aW
 refine cl Tryz.call73 (qR _ _ (aQ.mk r.dV r.aG (E0 r.aj.ls)) r.aj.A r.aj.ls.length r.aj.c ax aX rfl (aZ _ ((B _ (D1 m)).2.2 _ (D1 Q)).1) e6 Y) ?_
 rintro _ dX ⟨rfl,bg⟩
 have bi:=bf _ _ bg
 refine Kz (.bool (!ax)) (nt ?_)
 rcases Ls (ax) with Z | Z
 refine jF (cn Z) (IU (bN (Iq (Il (fw (vJ (l+1)) (Ir (e:=C3.wrap ((l:Int)+1)) yk f0) (Mz rfl (C4 ?_)))))))
 have bX:=bi.pk [1]
 exact II (l+1) ⟨rfl,rfl,rfl,rfl,rfl,rfl,rfl,rfl,rfl,rfl,rfl,rfl,rfl,rfl,rfl,rfl,rfl,rfl,rfl,rfl,rfl,rfl,rfl,rfl,rfl,rfl,rfl,rfl,rfl,rfl,rfl,rfl,rfl,rfl,rfl,rfl,rfl,rfl,rfl,rfl,trivial⟩ (V.2 ⟨bX,e6,et (X) (et (congrArg (λ q=>fU b (aS.abs a) q l) (rH (n:=s0 (s5 af.abs a.ah.ls)) (i:=l) e6)) (et (ae (aT ai)) (et (ae Y) (ip Z))))⟩) (by show (s0 (s5 af.abs a.ah.ls)) - (l+1) < (s0 (s5 af.abs a.ah.ls)) - l; omega)
 refine jT (cn Z) (sr (An rfl (rt (bR (tR (tR (bR (bR (tR (tR (bR (tR (rs ?_)))))))))))))
 have bn:=bi.pk []
 obtain rfl:_=false:=zj hr (et (iN C) (gL (et (t) (et (congrArg (λ q=>fC l0 q b) z) (et (ae u) (et (ip j) (et (ip f) (et (ae (aT P)) (et (iN y) (et (iN U) (oU (et (X) (et (congrArg (λ q=>fU b (aS.abs a) q l) (rH (n:=s0 (s5 af.abs a.ah.ls)) (i:=l) e6)) (et (ae (aT ai)) (et (ae Y) (fP Z))))))))))))))))
 exact⟨rfl,bn⟩
 refine jF (dF aV) (C5 (IC ?_))
 have ay:fU b (aS.abs a) (s0 (s5 af.abs a.ah.ls)) 0=B7 ():=et (X) (et (congrArg (λ q=>fU b (aS.abs a) q l) (wC (n:=s0 (s5 af.abs a.ah.ls)) (i:=l) e6)) rfl)
 refine IC (IK (bN (Iq (Il (fw (vJ (b+1)) (Ir (e:=C3.wrap ((b:Int)+1)) yk f0) (Mz rfl (C4 ?_)))))))
 have bq:=W.pk []
 exact II (b+1) ⟨rfl,rfl,rfl,rfl,rfl,trivial⟩ (O.2 ⟨bq,e6,et (t) (et (congrArg (λ q=>fC l0 q b) z) (et (ae u) (et (ip j) (et (ip f) (et (ae (aT P)) (et (iN y) (et (iN U) (sH ay))))))))⟩) (by show l0.length - (b+1) < l0.length - b; omega)
 refine Ip (rs:= []) 8 rfl rfl rfl (dF f) e7 (Ip (rs:= []) 9 rfl rfl rfl (dF f) e7 (Ip (rs:= []) 10 rfl rfl rfl (dF f) e7 (Ip (rs:= []) 11 rfl rfl rfl (dF f) e7 (Ip (rs:= []) 12 rfl rfl rfl (dF f) e7 (Ip (rs:= []) 13 rfl rfl rfl (dF f) e7 (Ip (rs:= []) 14 rfl rfl rfl (dF f) e7 (Ip (rs:= []) 15 rfl rfl rfl (dF f) e7 (Ip (rs:= []) 16 rfl rfl rfl (dF f) e7 (Iy (v:= .bool false) (rs:= []) 17 rfl rfl rfl (cn j) e7 (λ _ _=>Io rfl (dF f) rfl) (qt (v:= .bool false) 18 rfl (λ _ _=>Io rfl (cn j) rfl) (qv 19 rfl rfl (Iy (v:=vP g 3) (rs:= []) 20 rfl rfl rfl rfl e7 (λ _ _=>yk) (Iy (v:= .slice a.ah.A a.ah.ls.length a.ah.c) (rs:= []) 21 rfl rfl rfl rfl e7 (λ _ ⟨_,H9⟩=>IB rfl (bJ.one E1 (I1 (H9.cls (i:=0) rfl) rfl))) (Iy (v:=vJ (s0 (s5 af.abs a.ah.ls))) (rs:= []) 22 rfl rfl rfl rfl e7 (λ _ _=>Ir (e:=(a.ah.ls.length:Int)) yk j7) (Iy (v:= .bool (decide (((s0 (s5 af.abs a.ah.ls):Nat):Int) > 4))) (rs:= []) 23 rfl rfl rfl rfl e7 (λ _ _=>yk) (qt (v:= .bool (decide (((s0 (s5 af.abs a.ah.ls):Nat):Int) > 4))) 24 rfl (λ _ _=>Io rfl rfl rfl) (qn (Iq ?_))))))))))))))))))
 by_cases G:((s0 (s5 af.abs a.ah.ls):Nat):Int) > 4
 refine jT (dT G) (sr (An rfl (rt (tR (bR (tR (tR (bR (tR (rs ?_))))))))))
 have bu:=E.pk []
 obtain rfl:_=false:=zj hr (et (iN C) (gL (et (t) (et (congrArg (λ q=>fC l0 q b) z) (et (ae u) (et (ip j) (et (iN f) (ip G))))))))
 exact⟨rfl,bu⟩
 refine jF (dF G) (sk (sr (Kz (vP g 3) (Lz (.slice a.ah.A a.ah.ls.length a.ah.c) E 0 E1 (fw (vJ (s0 (s5 af.abs a.ah.ls))) (Ir (e:=(a.ah.ls.length:Int)) yk j7) (Mn rfl (bo ?_)))))))
 have bz:=E.pf []
 obtain⟨bA,L⟩:=lF λ (d:Nat) w'=>Own w D w' [blk g (aS.cells a) 56]/\d<=s0 (s5 af.abs a.ah.ls)/\jd b (aS.abs a) (s0 (s5 af.abs a.ah.ls)) 0=jd b (aS.abs a) ((s0 (s5 af.abs a.ah.ls)) - d) d
 refine C1 (λ i:Nat=> [(2, .bool false),(45,vJ i),(44,vJ (s0 (s5 af.abs a.ah.ls))),(43, .slice a.ah.A a.ah.ls.length a.ah.c),(42,vP g 3),(41, .bool (decide (((s0 (s5 af.abs a.ah.ls):Nat):Int) > 4))),(40, .bool (decide (((s0 (s5 af.abs a.ah.ls):Nat):Int) > 4))),(39,vJ (s0 (s5 af.abs a.ah.ls))),(38, .slice a.ah.A a.ah.ls.length a.ah.c),(37,vP g 3),(36, .bool false),(35, .bool false),(34, .bool false),(33,undef),(32,undef),(31,undef),(30,undef),(29,undef),(28,undef),(27,undef),(26,undef),(25,undef),(24, .bool (decide ((b:Int) > 0))),(23, .bool (decide ((b:Int) > 0))),(22,vJ b),(21, .bool (!s)),(20, .bool (!s)),(19, .bool s),(18,vI a.aP),(17,vP g 0),(3,vJ b),(4,vP g 0),(16, .agg (aS.cells a).toArray),(15, .pointer (some ⟨ab o,ao o+b *4,none⟩)),(14,vJ b),(13, .bool (decide ((b:Int) < (l0.length:Int)))),(12,vJ b),(11,vJ l0.length),(10, .slice o l0.length K),(0, .slice o l0.length K)]) bA (λ i=>(s0 (s5 af.abs a.ah.ls)) - i) 0 ⟨rfl,rfl,rfl,rfl,rfl,rfl,rfl,rfl,rfl,rfl,rfl,rfl,rfl,rfl,rfl,rfl,rfl,rfl,rfl,rfl,rfl,rfl,rfl,rfl,rfl,rfl,rfl,rfl,rfl,rfl,rfl,rfl,rfl,rfl,rfl,rfl,rfl,rfl,rfl,rfl,trivial⟩ (L.2 ⟨bz,e6,rfl⟩) ?_
 rintro d dD az
 obtain⟨I,bY,M⟩:=L.1 az
 refine sr (Kz (.bool (decide ((d:Int) < ((s0 (s5 af.abs a.ah.ls):Nat):Int)))) (nt (Ik ?_)))
 by_cases aj:(d:Int) < ((s0 (s5 af.abs a.ah.ls):Nat):Int)
 refine jT (dT aj) (sk (Ik (bo (sr ?_))))
 obtain⟨h,F⟩:=dh (ls:=a.ah.ls) (i:=d) af.len f2 (I.ro (B _ (D1 m)).1) e9
 have aa:=eY (rfl:s5 af.abs a.ah.ls=s5 af.abs a.ah.ls) F
 have bZ:=((B _ (D1 m)).2.2 _ (D1 F)).2
 refine fw (.pointer (some ⟨ab a.ah.A,ao a.ah.A+d *3,none⟩)) (Iz (rX) rfl rfl ((I.ro (B _ (D1 m)).1).addr (i:=d) e6) e6) (fw (.agg (af.cells h).toArray) (IB rfl (IJ (cs:=(af.cells h)) E2 E3 ((I.ro (B _ (D1 m)).1).elem af.len F f2))) ?_)
 refine dn [.bool false, .string ⟨v6 []⟩, .slice none 0 0] 149 I ?_
 intro dE dG bB
 refine df (af.cells h) 0 bB E3 ?_
 intro dH ak
 refine ns (La (af.cells h) ak 0 E2 E3 ?_)
 obtain⟨ag,N⟩:∃ q,j5 (aQ.mk h.dV h.aG (E0 h.aj.ls))=q:=⟨_,rfl⟩
 obtain⟨dI,aB,aC,aD,cu⟩:=Iu ak
 refine cl Tryz.call73 (qR _ _ (aQ.mk h.dV h.aG (E0 h.aj.ls)) h.aj.A h.aj.ls.length h.aj.c ag aB rfl (aC _ ((B _ (D1 m)).2.2 _ (D1 F)).1) e6 N) ?_
 rintro _ dJ ⟨rfl,aF⟩
 have au:=aD _ _ aF
 refine Kz (.bool (!ag)) (nt ?_)
 rcases Ls (ag) with J | J
 refine jF (cn J) (IU (bN (Iq (Il (fw (vJ (d+1)) (Ir (e:=C3.wrap ((d:Int)+1)) yk f0) (Mz rfl (C4 ?_)))))))
 have bC:=au.pk [1]
 exact II (d+1) ⟨rfl,rfl,rfl,rfl,rfl,rfl,rfl,rfl,rfl,rfl,rfl,rfl,rfl,rfl,rfl,rfl,rfl,rfl,rfl,rfl,rfl,rfl,rfl,rfl,rfl,rfl,rfl,rfl,rfl,rfl,rfl,rfl,rfl,rfl,rfl,rfl,rfl,rfl,rfl,rfl,trivial⟩ (L.2 ⟨bC,e6,et (M) (et (congrArg (λ q=>jd b (aS.abs a) q d) (rH (n:=s0 (s5 af.abs a.ah.ls)) (i:=d) e6)) (et (ae (aT aa)) (et (ae N) (ip J))))⟩) (by show (s0 (s5 af.abs a.ah.ls)) - (d+1) < (s0 (s5 af.abs a.ah.ls)) - d; omega)
 refine jT (cn J) (sr (An rfl (rt (bR (tR (tR (bR (bR (tR (tR (bR (tR (rs ?_)))))))))))))
 have bD:=au.pk []
 obtain rfl:_=false:=zj hr (et (iN C) (gL (et (t) (et (congrArg (λ q=>fC l0 q b) z) (et (ae u) (et (ip j) (et (iN f) (et (iN G) (oU (et (M) (et (congrArg (λ q=>jd b (aS.abs a) q d) (rH (n:=s0 (s5 af.abs a.ah.ls)) (i:=d) e6)) (et (ae (aT aa)) (et (ae N) (fP J))))))))))))))
 exact⟨rfl,bD⟩
 refine jF (dF aj) (C5 (IC ?_))
 have aG:jd b (aS.abs a) (s0 (s5 af.abs a.ah.ls)) 0=B7 ():=et (M) (et (congrArg (λ q=>jd b (aS.abs a) q d) (wC (n:=s0 (s5 af.abs a.ah.ls)) (i:=d) e6)) rfl)
 refine IC (IK (bN (Iq (Il (fw (vJ (b+1)) (Ir (e:=C3.wrap ((b:Int)+1)) yk f0) (Mz rfl (C4 ?_)))))))
 have bE:=I.pk []
 exact II (b+1) ⟨rfl,rfl,rfl,rfl,rfl,trivial⟩ (O.2 ⟨bE,e6,et (t) (et (congrArg (λ q=>fC l0 q b) z) (et (ae u) (et (ip j) (et (iN f) (et (iN G) (sH aG))))))⟩) (by show l0.length - (b+1) < l0.length - b; omega)
 refine Ip (rs:= []) 5 rfl rfl rfl (cn j) e7 (Ip (rs:= []) 6 rfl rfl rfl (cn j) e7 (Ip (rs:= []) 7 rfl rfl rfl (cn j) e7 (IR (rs:= []) 8 rfl rfl rfl e7 (IR (rs:= []) 9 rfl rfl rfl e7 (IR (rs:= []) 10 rfl rfl rfl e7 (IR (rs:= []) 11 rfl rfl rfl e7 (IR (rs:= []) 12 rfl rfl rfl e7 (IR (rs:= []) 13 rfl rfl rfl e7 (IR (rs:= []) 14 rfl rfl rfl e7 (IR (rs:= []) 15 rfl rfl rfl e7 (IR (rs:= []) 16 rfl rfl rfl e7 (Ip (rs:= []) 17 rfl rfl rfl (cn j) e7 (qt (v:= .bool true) 18 rfl (λ _ _=>Iw rfl (cn j) rfl) (qv 19 rfl rfl (Ip (rs:= []) 20 rfl rfl rfl rfl e7 (Ip (rs:= []) 21 rfl rfl rfl rfl e7 (Ip (rs:= []) 22 rfl rfl rfl rfl e7 (Ip (rs:= []) 23 rfl rfl rfl rfl e7 (qt (v:= .bool true) 24 rfl (λ _ _=>Iw rfl rfl rfl) (qn (Iq (jt (sr (An rfl (rt (tR (bR (tR (tR (bR (tR (rs ?_))))))))))))))))))))))))))))))))
 have bF:=E.pk []
 obtain rfl:_=false:=zj hr (et (iN C) (gL (et (t) (et (congrArg (λ q=>fC l0 q b) z) (et (ae u) (fP j))))))
 exact⟨rfl,bF⟩
 refine jF (dF aM) (C5 (IC ?_))
 have aI:fC l0 l0 0=B7 ():=et (t) (et (congrArg (λ q=>fC l0 q b) (dZ (ls:=l0) (i:=b) e6)) rfl)
 refine IC (IK (Iq (sr (An rfl (rt (rs ?_))))))
 have bG:=S.pk []
 obtain rfl:_=true:=zj hr (et (iN C) (mF aI))
 exact⟨rfl,bG⟩
def iV (a:Bool):Int:=
 if a=true then 0 else 1
theorem mE (w D b e) (H:Own w D w []) (hr:iV b=e):
    Calls v5 39 #[.bool b] w (dA λ v w'=>v=vI e/\Own w D w' []):=by
 unfold iV at hr
 refine cb Tryz.func39 ?_
 refine sr (An rfl (Ik (sr (Mz rfl (Kz (.bool (!b)) (nt ?_))))))
 rcases Ls (b) with a | a
 refine jF (cn a) (sk (sr (An rfl (rt (rs ?_)))))
 have c:=H.pk []
 obtain rfl:=zj hr zq1
 exact⟨rfl,c⟩
 refine jT (cn a) (sr (An rfl (rt (tR (rs ?_)))))
 have d:=H.pk []
 obtain rfl:=zj hr zq1
 exact⟨rfl,d⟩
def gq (c:bZ):Int:=
 bnd (iM c.au 4) λ d=>if d=true then if(c.ax:Int) < 2147483648 then bnd (mR c) λ e=>if e=true then bnd (nM c) λ f=>if f=true then bnd (pJ c.aK.ls) λ g=>bnd (iV g) λ h=>h else bnd (iV false) λ i=>i else bnd (iV false) λ j=>j else bnd (iV false) λ a=>a else bnd (iV false) λ b=>b
theorem oC (w D) (a:bZ) (i P e j Q f z g R d n r0) (H:Own w D w []) (Z:P=a.ag.ls.length) (G:Ro w D λ w'=>aY w' 2 i a.ag.ls.length (q4 aM.cells a.ag.ls)) (bI:a.ag.ls.length<=e/\a.ag.ls.length<=9223372036854775807) (B:s5 ay.abs z=a.ak.ls) (aa:Q=a.ak.ls.length) (I:Ro w D λ w'=>aY w' 5 j a.ak.ls.length (q4 ay.cells z)) (bJ:a.ak.ls.length<=f/\a.ak.ls.length<=9223372036854775807) (u:∀ x ∈ z,Ro w D (λ w'=>aY w' 1 x.au.A x.au.ls.length (q4 (eI .i64) x.au.ls))/\(x.au.ls.length<=x.au.c/\x.au.ls.length<=9223372036854775807)) (y:s5 aS.abs n=a.aK.ls) (ag:R=a.aK.ls.length) (C:Ro w D λ w'=>aY w' 4 g a.aK.ls.length (q4 aS.cells n)) (bK:a.aK.ls.length<=d/\a.aK.ls.length<=9223372036854775807) (b:∀ x ∈ n,Ro w D (λ w'=>aY w' 3 x.ah.A x.ah.ls.length (q4 af.cells x.ah.ls))/\(x.ah.ls.length<=x.ah.c/\x.ah.ls.length<=9223372036854775807)/\(∀ E ∈ x.ah.ls,Ro w D (λ w'=>aY w' 2 E.aj.A E.aj.ls.length (q4 aH.cells E.aj.ls))/\(E.aj.ls.length<=E.aj.c/\E.aj.ls.length<=9223372036854775807))) (dz:a.ag.ls.length<=140737488355328/\a.ak.ls.length<=140737488355328/\a.aK.ls.length<=140737488355328) (hr:gq a=r0):
    Calls v5 19 #[.agg #[vI a.au,vU a.ax,vU a.bG,vU a.aF, .slice i P e, .slice j Q f, .slice g R d]] w (dA λ v w'=>v=vI r0/\Own w D w' []):=by
 unfold gq at hr
 subst Z aa ag
 have bG:=aA B
 have bH:=aA y
 refine cb Tryz.func19 ?_
 refine sr ?_
 refine dn [vI a.au,vU a.ax,vU a.bG,vU a.aF, .slice i a.ag.ls.length e, .slice j a.ak.ls.length f, .slice g a.aK.ls.length d] 33 H ?_
 intro ah dB aF
 refine Ar rfl (Kz (vP ah 0) (Lz (vI a.au) aF 0 C2 ?_))
 obtain⟨aG,o⟩:∃ q,iM a.au 4=q:=⟨_,rfl⟩
 obtain⟨dC,aI,bW,aJ,bX⟩:=Iu aF
 refine cl D3 (l6 _ _ a.au 4 aG aI o) ?_
 rintro _ dD ⟨rfl,aK⟩
 have J:=aJ _ _ aK
 refine Mz rfl ?_
 rcases Ls (aG) with h | h
 refine Gz (vP ah 1) h (Gl (vU a.ax) h J 0 D2 (Gz (.bool (decide ((a.ax:Int) < 2147483648))) h (fw (.bool (decide ((a.ax:Int) < 2147483648))) (Iw rfl h rfl) (Mz rfl ?_))))
 by_cases l:(a.ax:Int) < 2147483648
 refine Ga ([vI a.au,vU a.ax,vU a.bG,vU a.aF, .slice i a.ag.ls.length e, .slice j a.ak.ls.length f, .slice g a.aK.ls.length d]) (dT l) J 0 Tryz.isAgg33 Tryz.sizeOf33 ?_
 obtain⟨ai,F⟩:∃ q,mR a=q:=⟨_,rfl⟩
 obtain⟨dE,aL,p,aN,bY⟩:=Iu J
 refine pW (decide_eq_true l) Tryz.call41 (vC _ _ a i a.ag.ls.length e j a.ak.ls.length f z g a.aK.ls.length d n ai aL rfl (p _ G) e6 B rfl (p _ I) e6 (λ r s=>⟨p _ (u r s).1,(u r s).2⟩) y rfl (p _ C) e6 (λ r s=>⟨p _ (b r s).1,(b r s).2.1,(λ E S=>⟨p _ ((b r s).2.2 E S).1,((b r s).2.2 E S).2⟩)⟩) e8 F) ?_
 rintro _ dG ⟨rfl,aO⟩
 have aj:=aN _ _ aO
 refine fw (.bool ai) (Iw rfl (dT l) rfl) (Mz rfl ?_)
 rcases Ls (ai) with m | m
 refine Ga ([vI a.au,vU a.ax,vU a.bG,vU a.aF, .slice i a.ag.ls.length e, .slice j a.ak.ls.length f, .slice g a.aK.ls.length d]) m aj 0 Tryz.isAgg33 Tryz.sizeOf33 ?_
 obtain⟨ak,K⟩:∃ q,nM a=q:=⟨_,rfl⟩
 obtain⟨dH,aP,t,aQ,cu⟩:=Iu aj
 refine Ju rfl rfl m rfl (IP Tryz.call42 rfl (uS _ _ a i a.ag.ls.length e j a.ak.ls.length f z g a.aK.ls.length d n ak aP rfl (t _ G) e6 B rfl (t _ I) e6 (λ r s=>⟨t _ (u r s).1,(u r s).2⟩) y rfl (t _ C) e6 (λ r s=>⟨t _ (b r s).1,(b r s).2.1,(λ E S=>⟨t _ ((b r s).2.2 E S).1,((b r s).2.2 E S).2⟩)⟩) e8 K) ?_)
 rintro _ dI ⟨rfl,aR⟩
 have au:=aQ _ _ aR
 refine fw (.bool ak) (Iw rfl m rfl) (Mz rfl ?_)
 rcases Ls (ak) with k | k
 refine Gz (vP ah 6) k (Gl (.slice g a.aK.ls.length d) k au 0 Tryz.isAgg31 ?_)
 obtain⟨O,T⟩:∃ q,pJ a.aK.ls=q:=⟨_,rfl⟩
 obtain⟨dJ,aT,L,aU,cz⟩:=Iu au
 refine Ju rfl rfl k rfl (IP Tryz.call43 rfl (wK _ _ g a.aK.ls.length d n a.aK.ls O aT y (L _ C) (λ r s=>⟨L _ (b r s).1,(b r s).2.1,(λ E S=>⟨L _ ((b r s).2.2 E S).1,((b r s).2.2 E S).2⟩)⟩) rfl e6 T) ?_)
 rintro _ dK ⟨rfl,aV⟩
 have bL:=aU _ _ aV
 refine fw (.bool O) (Iw rfl k rfl) ?_
 obtain⟨aW,U⟩:∃ q,iV O=q:=⟨_,rfl⟩
 obtain⟨dL,aX,cB,aZ,cK⟩:=Iu bL
 refine cl E4 (mE _ _ O aW aX U) ?_
 rintro _ dM ⟨rfl,bf⟩
 have bM:=aZ _ _ bf
 refine An rfl (rt (rs ?_))
 have bN:=bM.pk []
 obtain rfl:=zj hr zq9
 exact⟨rfl,bN⟩
 refine Sz k (Sz k (Sz k (fw (.bool false) (Io rfl k rfl) ?_)))
 obtain⟨bg,V⟩:∃ q,iV false=q:=⟨_,rfl⟩
 obtain⟨dN,bi,cO,bn,cZ⟩:=Iu au
 refine cl E4 (mE _ _ false bg bi V) ?_
 rintro _ dO ⟨rfl,bq⟩
 have bO:=bn _ _ bq
 refine An rfl (rt (rs ?_))
 have bP:=bO.pk []
 obtain rfl:=zj hr zq8
 exact⟨rfl,bP⟩
 refine Sz m (Sz m (fw (.bool false) (Io rfl m rfl) (Mz rfl (Sz rfl (Sz rfl (Sz rfl (fw (.bool false) (Io rfl rfl rfl) ?_)))))))
 obtain⟨bu,W⟩:∃ q,iV false=q:=⟨_,rfl⟩
 obtain⟨dP,bv,df,bz,dh⟩:=Iu aj
 refine cl E4 (mE _ _ false bu bv W) ?_
 rintro _ dQ ⟨rfl,bA⟩
 have bQ:=bz _ _ bA
 refine An rfl (rt (rs ?_))
 have bB:=bQ.pk []
 obtain rfl:=zj hr zq6
 exact⟨rfl,bB⟩
 refine Sz (dF l) (Sz (dF l) (fw (.bool false) (Io rfl (dF l) rfl) (Mz rfl (Sz rfl (Sz rfl (fw (.bool false) (Io rfl rfl rfl) (Mz rfl (Sz rfl (Sz rfl (Sz rfl (fw (.bool false) (Io rfl rfl rfl) ?_)))))))))))
 obtain⟨X,M⟩:∃ q,iV false=q:=⟨_,rfl⟩
 obtain⟨di,av,bR,ax,bS⟩:=Iu J
 refine cl E4 (mE _ _ false X av M) ?_
 rintro _ dm ⟨rfl,az⟩
 have bC:=ax _ _ az
 refine An rfl (rt (rs ?_))
 have bD:=bC.pk []
 obtain rfl:=zj hr zq4
 exact⟨rfl,bD⟩
 refine Sz h (Sz h (Sz h (fw (.bool false) (Io rfl h rfl) (Mz rfl (Sz rfl (Sz rfl (fw (.bool false) (Io rfl rfl rfl) (Mz rfl (Sz rfl (Sz rfl (fw (.bool false) (Io rfl rfl rfl) (Mz rfl (Sz rfl (Sz rfl (Sz rfl (fw (.bool false) (Io rfl rfl rfl) ?_))))))))))))))))
 obtain⟨Y,N⟩:∃ q,iV false=q:=⟨_,rfl⟩
 obtain⟨dw,aB,bT,aC,bU⟩:=Iu J
 refine cl E4 (mE _ _ false Y aB N) ?_
 rintro _ dx ⟨rfl,aD⟩
 have bE:=aC _ _ aD
 refine An rfl (rt (rs ?_))
 have bF:=bE.pk []
 obtain rfl:=zj hr zq3
 exact⟨rfl,bF⟩
end
section
variable {α:Type} {w0 w:World} {D:Nat->Prop} {L:List HP} {f:α->List HP}
theorem Own.sepIns {ds:List α} {i:Nat} {y:α} (H:Own w0 D w (f y++(sepL (List.flatMap f ds)::L))):Own w0 D w (sepL (List.flatMap f (List.take i ds++(y::List.drop i ds)))::L):=by
  have a:Own w0 D w (sepL (List.flatMap f ds)::(f y++L)):=H.perm List.perm_middle
  have b:=a.flat
  have e:(List.flatMap f ds++(f y++L)).Perm ((List.flatMap f (List.take i ds)++(f y++List.flatMap f (List.drop i ds)))++L):=by
    conv=>lhs; rw [<- List.take_append_drop i ds,List.flatMap_append]
    rw [<- List.append_assoc]
    refine List.Perm.append_right L ?_
    rw [List.append_assoc]
    exact List.Perm.append_left _ List.perm_append_comm
  rw [List.flatMap_append,List.flatMap_cons]
  exact(b.perm e).pack
theorem pK {β:Type} {g:α->β} {ds:List α} {ls:List β} {i j:Nat} (h:List.map g ds=ls):List.map g (List.take i ds++List.drop j ds)=List.take i ls++List.drop j ls:=by rw [List.map_append,List.map_take,List.map_drop,h]
theorem qZ {β:Type} {g:α->β} {ds:List α} {ls:List β} {i:Nat} {y:α} {z:β} (h:List.map g ds=ls) (hy:g y=z):List.map g (List.take i ds++(y::List.drop i ds))=List.take i ls++(z::List.drop i ls):=by rw [List.map_append,List.map_cons,List.map_take,List.map_drop,h,hy]
end
open List renaming map_append->v2,perm_middle->E6,take->r3
section
section
variable {α β:Type} {w0 w:World} {D:Nat->Prop} {L:List HP} {f:α->List HP}
theorem xh {es:List α} {y:α} (H:Own w0 D w (f y++(sepL (q4 f es)::L))):Own w0 D w (sepL (q4 f (es++ [y]))::L):=by
  have h:=H.sepIns (i:=es.length)
  rw [List.take_length,List.drop_length] at h
  exact h
theorem xk {d:List α} {k:Nat} {es:List α} (y:α) (he:es.length=k) (hk:k < d.length):List.set (es++r4 k d) k y=(es++ [y])++r4 (k+1) d:=by
  subst he
  rw [List.set_append_right _ _ (Nat.le_refl _),Nat.sub_self,List.drop_eq_getElem_cons hk,List.set_cons_zero,List.append_assoc]
  rfl
theorem yB {d es:List α} {k:Nat} {x:α} (he:es.length=k) (hx:d[k]? =some x):(es++r4 k d)[k]? =some x:=by
  subst he
  rw [List.getElem?_append_right (Nat.le_refl _),Nat.sub_self,List.getElem?_drop,Nat.add_zero,hx]
theorem xm {f:α->β} {d es:List α} {k:Nat} {x y:α} (h:s5 f es=s5 f (r3 k d)) (hx:d[k]? =some x) (hy:f y=f x):s5 f (es++ [y])=s5 f (r3 (k+1) d):=by
  obtain⟨hk,rfl⟩:=List.getElem?_eq_some_iff.1 hx
  rw [List.take_succ_eq_append_getElem hk,v2,v2,h,List.map_cons,List.map_nil,hy,List.map_cons,List.map_nil]
end
open Go.RowKit
section
variable {P:Program} {n:Nat} {F:List (Nat × Value)} {w:World} {ty T e sz bytes m c:Nat} {A:Option Addr} {x:Operand}
theorem Ec (el:Elem P T e sz bytes) {i j q:Nat} {k k' k2:IntKind} (a:i<=j) (b:j<=q) (d:q<=c):(Instr.slice T (.slice A m c) (some (.int k (i:Int))) (some (.int k' (j:Int))) (some (.int k2 (q:Int)))).run P w= .ok (.slice (jw A i sz q) (j - i) (q - i)) w:=by
  obtain⟨i',_,ht,hi,_,rfl,_⟩:=el
  have ht':P.underlying T=some (.slice (P.elem T)):=by rw [oM ht]; exact ht
  rw [run_slice_any w T A m c ht']
  simp [Instr.sliceBounds,Instr.sliceBound,asIntOf,a,b,d,Result.andThen,sizeOf,typeInfo,oM ht,hi,sliced,jw]
theorem Kr {lx hx' mx:Operand} {i j q:Nat} {k k' k2:IntKind} (el:Elem P T e sz bytes) (hx:ev F x=some (.slice A m c)) (hl:ev F lx=some (.int k (i:Int))) (hh:ev F hx'=some (.int k' (j:Int))) (hm:ev F mx=some (.int k2 (q:Int))) (a:i<=j) (b:j<=q) (d:q<=c):
    Yl P n F w (.slice T x (some lx) (some hx') (some mx)) ty (.slice (jw A i sz q) (j - i) (q - i)):=
  J7 (lo:=some lx) (hi:=some hx') (mx:=some mx) (lo':=some (.int k (i:Int))) (hi':=some (.int k' (j:Int))) (mx':=some (.int k2 (q:Int))) el hx (by simp [hl]) (by simp [hh]) (by simp [hm]) (Ec el a b d)
end
section
variable {α:Type} {w0 w:World} {D:Nat->Prop} {L:List HP} {f:α->List HP}
theorem Ai {ds:List α} {i:Nat} {x:α} (hx:ds[i]? =some x) (H:Own w0 D w (sepL (q4 f ds)::L)):Own w0 D w (sepL (q4 f (r3 i ds++r4 (i+1) ds))::(f x++L)):=by
  have h:=Jm (f:=f) (i:=i) hx H
  rw [List.flatMap_append]
  exact h.perm E6
theorem Aj {ds:List α} {i:Nat} {y:α} (H:Own w0 D w (sepL (q4 f ds)::(f y++L))):Own w0 D w (sepL (q4 f (r3 i ds++(y::r4 i ds)))::L):=Own.sepIns (H.perm E6.symm)
end
end
open List renaming flatMap_append->r5,length_append->o2,length_cons->s1,length_drop->o1,length_nil->E7,length_take->o0,mem_of_mem_take->F0
open Nat renaming le_mul_of_pos_left->F1
open _root_.Go.Proofs.Tryz renaming underlying39->F2
section
open Go.RowKit
def pQ (l0:List af):(List af):=
 l0
theorem o6 (w D d f u l0 e) (H:Own w D w []) (c:Ro w D λ w'=>aY w' 3 d f (q4 af.cells l0)) (g:f=l0.length) (x:l0.length *48<=211106232532992) (hr:pQ l0=e):
    Calls v5 74 #[.slice d f u] w (dA λ v w'=> ∃ r t,v= .slice r e.length t/\Own w D w' [row r e.length t (q4 af.cells e) 149 3]):=by
 subst g
 refine cb Tryz.func74 ?_
 refine sr (An rfl (Ik (sr (Mz rfl (fw (.bool (Option.isNone d)) (Ji y6 rfl rfl) (nt ?_))))))
 rcases Ls (Option.isNone d) with a | a
 obtain rfl:l0= []:=qi (enc:=af.cells) (H.ro c) a
 refine jT a (sr (An rfl (rt (tR (rs ?_)))))
 have h:Own w D w [row none 0 0 (q4 af.cells []) 149 3]:=H.free (eP 149 3)
 have i:=h.pf []
 obtain rfl:_=[]:=zj hr rfl
 exact⟨none,0,rfl,i⟩
 refine jF a (sk (sr ?_))
 refine jV [] 149 3 0 H ?_
 intro j l b
 replace b:Own w D l [row j 0 0 (q4 af.cells []) 149 3]:=b
 refine Mz rfl ?_
 refine WL.do rfl (IW (k:=0) (m:=l0.length) (rX) b rfl rfl (gN y6 (b.ro c) (dX af.one l0)) rfl e6 (s:=l0.length) e6 rfl ?_)
 intro n o y p
 refine An rfl (rt (rs ?_))
 have q:=p.pf []
 obtain rfl:_=l0:=zj hr rfl
 exact⟨n,o,rfl,q⟩
def oN (l0:List ay):(List ay):=
 l0
theorem nY (w D d f u l0 e) (H:Own w D w []) (c:Ro w D λ w'=>aY w' 5 d f (q4 ay.cells l0)) (g:f=l0.length) (x:l0.length *56<=211106232532992) (hr:oN l0=e):
    Calls v5 45 #[.slice d f u] w (dA λ v w'=> ∃ r t,v= .slice r e.length t/\Own w D w' [row r e.length t (q4 ay.cells e) 60 5]):=by
 subst g
 refine cb Tryz.func45 ?_
 refine sr (An rfl (Ik (sr (Mz rfl (fw (.bool (Option.isNone d)) (Ji B6 rfl rfl) (nt ?_))))))
 rcases Ls (Option.isNone d) with a | a
 obtain rfl:l0= []:=qi (enc:=ay.cells) (H.ro c) a
 refine jT a (sr (An rfl (rt (tR (rs ?_)))))
 have h:Own w D w [row none 0 0 (q4 ay.cells []) 60 5]:=H.free (eP 60 5)
 have i:=h.pf []
 obtain rfl:_=[]:=zj hr rfl
 exact⟨none,0,rfl,i⟩
 refine jF a (sk (sr ?_))
 refine jV [] 60 5 0 H ?_
 intro j l b
 replace b:Own w D l [row j 0 0 (q4 ay.cells []) 60 5]:=b
 refine Mz rfl ?_
 refine WL.do rfl (IW (k:=0) (m:=l0.length) (kM) b rfl rfl (gN B6 (b.ro c) (dX ay.one l0)) rfl e6 (s:=l0.length) e6 rfl ?_)
 intro n o y p
 refine An rfl (rt (rs ?_))
 have q:=p.pf []
 obtain rfl:_=l0:=zj hr rfl
 exact⟨n,o,rfl,q⟩
def qG (l0:List aS):(List aS):=
 l0
theorem pX (w D d f u l0 e) (H:Own w D w []) (c:Ro w D λ w'=>aY w' 4 d f (q4 aS.cells l0)) (g:f=l0.length) (x:l0.length *48<=211106232532992) (hr:qG l0=e):
    Calls v5 47 #[.slice d f u] w (dA λ v w'=> ∃ r t,v= .slice r e.length t/\Own w D w' [row r e.length t (q4 aS.cells e) 56 4]):=by
 subst g
 refine cb Tryz.func47 ?_
 refine sr (An rfl (Ik (sr (Mz rfl (fw (.bool (Option.isNone d)) (Ji B4 rfl rfl) (nt ?_))))))
 rcases Ls (Option.isNone d) with a | a
 obtain rfl:l0= []:=qi (enc:=aS.cells) (H.ro c) a
 refine jT a (sr (An rfl (rt (tR (rs ?_)))))
 have h:Own w D w [row none 0 0 (q4 aS.cells []) 56 4]:=H.free (eP 56 4)
 have i:=h.pf []
 obtain rfl:_=[]:=zj hr rfl
 exact⟨none,0,rfl,i⟩
 refine jF a (sk (sr ?_))
 refine jV [] 56 4 0 H ?_
 intro j l b
 replace b:Own w D l [row j 0 0 (q4 aS.cells []) 56 4]:=b
 refine Mz rfl ?_
 refine WL.do rfl (IW (k:=0) (m:=l0.length) (lW) b rfl rfl (gN B4 (b.ro c) (dX aS.one l0)) rfl e6 (s:=l0.length) e6 rfl ?_)
 intro n o y p
 refine An rfl (rt (rs ?_))
 have q:=p.pf []
 obtain rfl:_=l0:=zj hr rfl
 exact⟨n,o,rfl,q⟩
def jO (l0:List ay) (a:Int) (b:Int):(List ay):=
 if a=b then l0 else(r3 (C6 a) l0++r4 (C6 b) l0)
theorem nN (w D d n c l0 b a h) (H:Own w D w [row d n c (q4 ay.cells l0) 60 5]) (o:n=l0.length) (I:l0.length *56<=211106232532992) (J:0<=b/\b<=a/\a<=((l0.length:Nat):Int)) (hr:jO l0 b a=h):
    Calls v5 98 #[.slice d n c,vI b,vI a] w (dA λ v w'=> ∃ A B,v= .slice A h.length B/\Own w D w' [row A h.length B (q4 ay.cells h) 60 5]/\(h.length<=l0.length)):=by
 unfold jO at hr
 subst o
 have K:=zr 0 H
 refine cb Tryz.func98 ?_
 refine sr (Ar rfl (Mz rfl (fw (vJ (C6 b)) (Ir (e:=b) (IA rfl) e6) (fw (vJ (C6 a)) (Ir (e:=a) (IA rfl) e6) (Mz rfl (Kz (vJ l0.length) (fw (.slice (jw d (C6 b) 5 l0.length) ((C6 a) - (C6 b)) (l0.length - (C6 b))) (Kr (kM) rfl rfl rfl rfl e6 e6 e6) (nt (Ik (sr (Mz rfl (Mz rfl (Kz (.bool (decide (b=a))) (nt ?_))))))))))))))
 by_cases g:b=a
 refine jT (dT g) (sr (Mz rfl (An rfl (rt (tR (rs ?_))))))
 have p:=H.pf []
 obtain rfl:=zj hr zq1
 exact⟨d,c,rfl,p,e6⟩
 refine jF (dF g) (sk (sr (Mz rfl (Kz (vJ l0.length) (An rfl (Ik ?_))))))
 have f:=H.drew
 refine Jr [6] (λ W=> ∃ L',Own w D W ([row d l0.length c (q4 ay.cells l0) 60 5]++L')) e7 e7 (IE IQ) ⟨_,f⟩ ?_
 revert f
 generalize World.drew w=q
 intro f
 refine qv 0 rfl rfl (qt (v:=vJ (C6 b)) 1 rfl (λ _ _=>Ir (e:=b) (IA rfl) e6) (qt (v:= .slice d (C6 b) c) 2 rfl (λ _ _=>Jk (kM) rfl rfl e6) (qv 3 rfl rfl (qt (v:=vJ (C6 a)) 4 rfl (λ _ _=>Ir (e:=a) (IA rfl) e6) (qt (v:= .slice (jw d (C6 a) 5 c) (l0.length - (C6 a)) (c - (C6 a))) 5 rfl (λ _ _=>I5 (kM) rfl rfl e6) ?_)))))
 have C:s0 (r3 (C6 b) l0++r4 (C6 a) l0)=C6 b+(l0.length - C6 a):=by simp only [o2,o0,o1]; omega
 have j:Src v5 5 30 (.slice (jw d (C6 a) 5 c) (l0.length - (C6 a)) (c - (C6 a))) (l0.length - C6 a) (q4 ay.cells (r4 (C6 a) l0)) q:=gN B6 (Jw (lo:=C6 a) ay.len (f.rds (i:=0) rfl) e6 e6 f2) (dX ay.one (r4 (C6 a) l0))
 obtain⟨E,r,t⟩:=f.rowFull
 refine qd 6 rfl (JM (k:=C6 b) (m:=l0.length - C6 a) (kM) t rfl rfl j e6 (s:=s0 (r3 (C6 b) l0++r4 (C6 a) l0)) e6 ?_)
 intro L l
 refine⟨.inl e7, ?_⟩
 refine I4 (v:= .slice d (s0 (r3 (C6 b) l0++r4 (C6 a) l0)) c) 7 rfl e7 (λ _=>Jv rfl) (qn (Iq (sr (Mz rfl (Mz rfl (Kz (vI ((s0 (r3 (C6 b) l0++r4 (C6 a) l0):Nat):Int)) (Mz rfl (fw (.slice (jw d (s0 (r3 (C6 b) l0++r4 (C6 a) l0)) 5 c) (l0.length - (s0 (r3 (C6 b) l0++r4 (C6 a) l0))) (c - (s0 (r3 (C6 b) l0++r4 (C6 a) l0)))) (Yl.cut (kM) rfl rfl rfl e6 e6) ?_))))))))
 refine Jz (JV (z0:=(.agg #[.int .u64 0,vI 0, .int .u64 0, .int .u64 0, .slice none 0 0])) (lo:=s0 (r3 (C6 b) l0++r4 (C6 a) l0)) (nd:=(l0.length - (s0 (r3 (C6 b) l0++r4 (C6 a) l0)))) e7 rfl (kM) l rfl (λ _=>kS ((l.rds (i:=0) rfl).isSome e6) e6) e6 ?_)
 intro u F G x
 refine ns (Mz rfl (An rfl (rt (rs ?_))))
 have y:Own w D u [row d (s0 (r3 (C6 b) l0++r4 (C6 a) l0)) c (q4 ay.cells (r3 (C6 b) l0++r4 (C6 a) l0)) 60 5]:=x.rowPart e6 (yS ay.len e6 e6 rfl)
 have z:=y.pf []
 obtain rfl:=zj hr zq1
 exact⟨d,c,rfl,z,e6⟩
def kN (l0:List bK) (a:Int) (b:Int):(List bK):=
 if a=b then l0 else(r3 (C6 a) l0++r4 (C6 b) l0)
theorem pu (w D d n c l0 b a h) (H:Own w D w [row d n c (q4 bK.cells l0) 107 9]) (o:n=l0.length) (I:l0.length *136<=211106232532992) (J:0<=b/\b<=a/\a<=((l0.length:Nat):Int)) (hr:kN l0 b a=h):
    Calls v5 105 #[.slice d n c,vI b,vI a] w (dA λ v w'=> ∃ A B,v= .slice A h.length B/\Own w D w' [row A h.length B (q4 bK.cells h) 107 9]/\(h.length<=l0.length)):=by
 unfold kN at hr
 subst o
 have K:=zr 0 H
 refine cb Tryz.func105 ?_
 refine sr (Ar rfl (Mz rfl (fw (vJ (C6 b)) (Ir (e:=b) (IA rfl) e6) (fw (vJ (C6 a)) (Ir (e:=a) (IA rfl) e6) (Mz rfl (Kz (vJ l0.length) (fw (.slice (jw d (C6 b) 9 l0.length) ((C6 a) - (C6 b)) (l0.length - (C6 b))) (Kr (qF) rfl rfl rfl rfl e6 e6 e6) (nt (Ik (sr (Mz rfl (Mz rfl (Kz (.bool (decide (b=a))) (nt ?_))))))))))))))
 by_cases g:b=a
 refine jT (dT g) (sr (Mz rfl (An rfl (rt (tR (rs ?_))))))
 have p:=H.pf []
 obtain rfl:=zj hr zq1
 exact⟨d,c,rfl,p,e6⟩
 refine jF (dF g) (sk (sr (Mz rfl (Kz (vJ l0.length) (An rfl (Ik ?_))))))
 have f:=H.drew
 refine Jr [6] (λ W=> ∃ L',Own w D W ([row d l0.length c (q4 bK.cells l0) 107 9]++L')) e7 e7 (IE IQ) ⟨_,f⟩ ?_
 revert f
 generalize World.drew w=q
 intro f
 refine qv 0 rfl rfl (qt (v:=vJ (C6 b)) 1 rfl (λ _ _=>Ir (e:=b) (IA rfl) e6) (qt (v:= .slice d (C6 b) c) 2 rfl (λ _ _=>Jk (qF) rfl rfl e6) (qv 3 rfl rfl (qt (v:=vJ (C6 a)) 4 rfl (λ _ _=>Ir (e:=a) (IA rfl) e6) (qt (v:= .slice (jw d (C6 a) 9 c) (l0.length - (C6 a)) (c - (C6 a))) 5 rfl (λ _ _=>I5 (qF) rfl rfl e6) ?_)))))
 have C:s0 (r3 (C6 b) l0++r4 (C6 a) l0)=C6 b+(l0.length - C6 a):=by simp only [o2,o0,o1]; omega
 have j:Src v5 9 79 (.slice (jw d (C6 a) 9 c) (l0.length - (C6 a)) (c - (C6 a))) (l0.length - C6 a) (q4 bK.cells (r4 (C6 a) l0)) q:=gN Tryz.underlying79 (Jw (lo:=C6 a) bK.len (f.rds (i:=0) rfl) e6 e6 f2) (dX bK.one (r4 (C6 a) l0))
 obtain⟨E,r,t⟩:=f.rowFull
 refine qd 6 rfl (JM (k:=C6 b) (m:=l0.length - C6 a) (qF) t rfl rfl j e6 (s:=s0 (r3 (C6 b) l0++r4 (C6 a) l0)) e6 ?_)
 intro L l
 refine⟨.inl e7, ?_⟩
 refine I4 (v:= .slice d (s0 (r3 (C6 b) l0++r4 (C6 a) l0)) c) 7 rfl e7 (λ _=>Jv rfl) (qn (Iq (sr (Mz rfl (Mz rfl (Kz (vI ((s0 (r3 (C6 b) l0++r4 (C6 a) l0):Nat):Int)) (Mz rfl (fw (.slice (jw d (s0 (r3 (C6 b) l0++r4 (C6 a) l0)) 9 c) (l0.length - (s0 (r3 (C6 b) l0++r4 (C6 a) l0))) (c - (s0 (r3 (C6 b) l0++r4 (C6 a) l0)))) (Yl.cut (qF) rfl rfl rfl e6 e6) ?_))))))))
 refine Jz (JV (z0:=(.agg (rZ 0 0 0 0 none 0 0 none 0 0 none 0 0 none 0 0 0).toArray)) (lo:=s0 (r3 (C6 b) l0++r4 (C6 a) l0)) (nd:=(l0.length - (s0 (r3 (C6 b) l0++r4 (C6 a) l0)))) e7 rfl (qF) l rfl (λ _=>kS ((l.rds (i:=0) rfl).isSome e6) e6) e6 ?_)
 intro u F G x
 refine ns (Mz rfl (An rfl (rt (rs ?_))))
 have y:Own w D u [row d (s0 (r3 (C6 b) l0++r4 (C6 a) l0)) c (q4 bK.cells (r3 (C6 b) l0++r4 (C6 a) l0)) 107 9]:=x.rowPart e6 (yS bK.len e6 e6 rfl)
 have z:=y.pf []
 obtain rfl:=zj hr zq1
 exact⟨d,c,rfl,z,e6⟩
def jP (l0:List ay) (a:Int) (b:ay):(List ay):=
 if((C6 a:Nat):Int)=(l0.length:Int) then(l0++ [b]) else(r3 (C6 a) l0++(b::r4 (C6 a) l0))
theorem nO (w D d C c l0 a B) (b:ay) (x) (H:Own w D w [row d C c (q4 ay.cells l0) 60 5,qC B 1 (q4 ay.cells ([b])) 60 5]) (E:C=l0.length) (af:l0.length *56<=211106232532992) (ag:0<=a/\a<=((l0.length:Nat):Int)/\(l0.length+1) *56<=211106232532992) (hr:jP l0 a b=x):
    Calls v5 130 #[.slice d C c,vI a, .slice B 1 1] w (dA λ v w'=> ∃ W X,v= .slice W x.length X/\Own w D w' [row W x.length X (q4 ay.cells x) 60 5]/\(x.length=l0.length+1)):=by
 unfold jP at hr
 subst E
 have ah:=zr 0 H
 refine cb Tryz.func130 ?_
 refine sr (Ar rfl (Mz rfl (fw (vJ (C6 a)) (Ir (e:=a) (IA rfl) e6) (fw (.slice (jw d (C6 a) 5 c) (l0.length - (C6 a)) (c - (C6 a))) (I5 (kM) rfl rfl e6) (ns (Mz rfl (Kz (vI 1) (An rfl (Ik (sr (Mz rfl (Kz (.bool false) (nt (jf (sk (sr (Mz rfl (Kz (vJ l0.length) (An rfl (Ik (sr (fw (vJ (C6 a)) (Ir (e:=a) (IA rfl) e6) ?_))))))))))))))))))))))
 refine Mz rfl (Kz (.bool (decide (((C6 a:Nat):Int)=(l0.length:Int)))) (nt ?_))
 by_cases g:((C6 a:Nat):Int)=(l0.length:Int)
 refine jT (dT g) (sr (Mz rfl (Mz rfl ?_)))
 refine WL.do rfl (IW (k:=l0.length) (m:=1) (kM) H rfl rfl (gN B6 (bq H (i:=1) rfl qW) (dX ay.one ([b]))) rfl e6 (s:=s0 (l0++ [b])) f7 (r5).symm ?_)
 intro F G ai I
 have Y:s0 (l0++ [b])=l0.length+1:=by simp only [o2,s1,E7]
 refine An rfl (rt (tR (rs ?_)))
 have J:=I.pk [0]
 obtain rfl:=zj hr zq1
 exact⟨F,G,rfl,J,e6⟩
 refine jF (dF g) (sk (Ik (sr (Mz rfl (Mz rfl (fw (vJ (l0.length+1)) (Ir (e:=C3.wrap ((l0.length:Int)+1)) yk f0) (Mz rfl (Kz (vJ c) (Kz (.bool (decide (((l0.length+1:Nat):Int) > (c:Int)))) (nt ?_))))))))))
 by_cases y:((l0.length+1:Nat):Int) > (c:Int)
 refine jT (dT y) (sr (Mz rfl (fw (vJ (C6 a)) (Ir (e:=a) (IA rfl) e6) (fw (.slice d (C6 a) c) (Jk (kM) rfl rfl e6) (Mz rfl (Mz rfl (fw (vJ (l0.length+1)) (Ir (e:=C3.wrap ((l0.length:Int)+1)) yk f0) (fw (vJ (C6 a)) (Ir (e:=a) (IA rfl) e6) (fw (vJ ((l0.length+1) - (C6 a))) (Ir (e:=C3.wrap (((l0.length+1:Nat):Int) - ((C6 a:Nat):Int))) yk f0) ?_)))))))))
 have Z:s0 (r3 (C6 a) l0++(b::r4 (C6 a) l0))=l0.length+1:=by simp only [o2,o0,s1,o1]; omega
 refine WL.do rfl (JJ (k:=C6 a) (m:=(l0.length+1) - (C6 a)) (kM) v8 H rfl rfl e6 e6 e6 rfl e6 (s:=s0 (r3 (C6 a) l0++(b::r4 (C6 a) l0))) e6 ?_)
 intro h f aa aj z j
 have K:=j.rowLe (i:=0) rfl
 refine Ar rfl (Mz rfl (fw (vJ (C6 a)) (Ir (e:=a) (IA rfl) e6) (fw (.slice (jw h (C6 a) 5 f) ((s0 (r3 (C6 a) l0++(b::r4 (C6 a) l0))) - (C6 a)) (f - (C6 a))) (I5 (kM) rfl rfl e6) (Mz rfl ?_))))
 refine WL.do rfl (Jn (lo:=C6 a) (k:=1) (kM) j rfl (λ _=>kS ((j.rds (i:=0) rfl).isSome e6) e6) e6 rfl (bq j (i:=2) rfl qW) e6 (λ u hu=>dX ay.one _ u (F0 hu)) rfl ?_)
 intro ak L
 refine nt (Ik ?_)
 refine EF [8] (IE (IE IQ)) L ?_
 intro au n
 refine qv 0 rfl rfl (qt (v:=vJ (C6 a)) 1 rfl (λ _ _=>Ir (e:=a) (IA rfl) e6) (qv 2 rfl rfl (qt (v:=vJ (C6 a+1)) 3 rfl (λ _ _=>Ir (e:=C3.wrap (((C6 a:Nat):Int)+1)) yk f0) (qt (v:= .slice (jw h (C6 a+1) 5 f) ((s0 (r3 (C6 a) l0++(b::r4 (C6 a) l0))) - (C6 a+1)) (f - (C6 a+1))) 4 rfl (λ _ _=>I5 (kM) rfl rfl e6) (qv 5 rfl rfl (qt (v:=vJ (C6 a)) 6 rfl (λ _ _=>Ir (e:=a) (IA rfl) e6) (qt (v:= .slice (jw d (C6 a) 5 c) (l0.length - (C6 a)) (c - (C6 a))) 7 rfl (λ _ _=>I5 (kM) rfl rfl e6) ?_)))))))
 refine qd 8 rfl (Jn (lo:=C6 a+1) (k:=l0.length - C6 a) (kM) n rfl (λ _=>kS ((n.rds (i:=0) rfl).isSome e6) e6) e6 rfl (Jw (lo:=C6 a) ay.len (n.rds (i:=1) rfl) e6 e6 f2) e6 (λ u hu=>dX ay.one _ u (F0 hu)) rfl ?_)
 intro M N
 refine⟨.inl e7, ?_⟩
 refine qn (Iq (sr (Mz rfl (An rfl (rt (tR (rs ?_)))))))
 have O:Own w D M [row h (s0 (r3 (C6 a) l0++(b::r4 (C6 a) l0))) f (q4 ay.cells (r3 (C6 a) l0++(b::r4 (C6 a) l0))) 60 5,row d l0.length c (q4 ay.cells l0) 60 5,qC B 1 (q4 ay.cells ([b])) 60 5]:=N.rowPart e6 (zS (l:=l0) (k2:=l0.length - C6 a) ay.len e6 z rfl rfl e6)
 have P:=O.pk [0]
 obtain rfl:=zj hr zq1
 exact⟨h,f,rfl,P,e6⟩
 refine jF (dF y) (sk (sr ?_))
 have A:s0 (r3 (C6 a) l0++(b::r4 (C6 a) l0))=l0.length+1:=by simp only [o2,o0,s1,o1]; omega
 obtain⟨ae,o,Q⟩:=H.rowFull
 refine Mz rfl (Mz rfl (Mz rfl (fw (vJ (l0.length+1)) (Ir (e:=C3.wrap ((l0.length:Int)+1)) yk f0) (fw (.slice d (s0 (r3 (C6 a) l0++(b::r4 (C6 a) l0))) c) (Yl.to (Jk (kM) rfl rfl e6) (congrArg (λ q=>Value.slice d q c) A.symm)) (An rfl (Ik (sr (Mz rfl (Mz rfl (fw (vJ (C6 a)) (Ir (e:=a) (IA rfl) e6) (Mz rfl (fw (vJ (C6 a+1)) (Ir (e:=C3.wrap (((C6 a:Nat):Int)+1)) yk f0) (fw (.slice (jw d (C6 a+1) 5 c) ((s0 (r3 (C6 a) l0++(b::r4 (C6 a) l0))) - (C6 a+1)) (c - (C6 a+1))) (I5 (kM) rfl rfl e6) ?_)))))))))))))
 have p:=Q.pb [0]
 refine fw (.bool false) (JN (lo:=C6 a+1) (run_callFunc_extern Tryz.func150 e7 e7 e7 (e:=Extern.SlicesOverlaps.overlaps #[30,30] #[4]) e7) B6 Tryz.sizeOf60 p f2 e6 rfl (kS ((p.rds (i:=1) rfl).isSome e6) e6)) (Kz (.bool true) (nt (jt (Ik ?_))))
 refine pM [8] (IE (IE IQ)) p ?_
 intro av R
 refine qv 0 rfl rfl (qt (v:=vJ (C6 a)) 1 rfl (λ _ _=>Ir (e:=a) (IA rfl) e6) (qv 2 rfl rfl (qt (v:=vJ (C6 a+1)) 3 rfl (λ _ _=>Ir (e:=C3.wrap (((C6 a:Nat):Int)+1)) yk f0) (qt (v:= .slice (jw d (C6 a+1) 5 c) ((s0 (r3 (C6 a) l0++(b::r4 (C6 a) l0))) - (C6 a+1)) (c - (C6 a+1))) 4 rfl (λ _ _=>I5 (kM) rfl rfl e6) (qv 5 rfl rfl (qt (v:=vJ (C6 a)) 6 rfl (λ _ _=>Ir (e:=a) (IA rfl) e6) (qt (v:= .slice (jw d (C6 a) 5 c) ((s0 (r3 (C6 a) l0++(b::r4 (C6 a) l0))) - (C6 a)) (c - (C6 a))) 7 rfl (λ _ _=>I5 (kM) rfl rfl e6) ?_)))))))
 have r:=R.pb [0]
 refine qd 8 rfl (Jn (lo:=C6 a+1) (k:=l0.length - C6 a) (kM) r rfl (λ _=>kS ((r.rds (i:=0) rfl).isSome e6) e6) e6 rfl (aY.cut (lo:=C6 a) (hi:=s0 (r3 (C6 a) l0++(b::r4 (C6 a) l0))) (r.rds (i:=0) rfl) e6 e6 e6) e6 (λ u hu=>dX ay.one _ u (by rw [zT ay.len e6 rfl e6] at hu; exact hu)) rfl ?_)
 intro ax t
 refine⟨.inl e7, ?_⟩
 refine qn (Iq (sr (Mz rfl (fw (vJ (C6 a)) (Ir (e:=a) (IA rfl) e6) (fw (.slice (jw d (C6 a) 5 c) ((s0 (r3 (C6 a) l0++(b::r4 (C6 a) l0))) - (C6 a)) (c - (C6 a))) (I5 (kM) rfl rfl e6) (Mz rfl ?_))))))
 refine WL.do rfl (Jn (lo:=C6 a) (k:=1) (kM) t rfl (λ _=>kS ((t.rds (i:=0) rfl).isSome e6) e6) e6 rfl (bq t (i:=1) rfl qW) e6 (λ u hu=>dX ay.one _ u (F0 hu)) rfl ?_)
 intro S T
 refine ns (Mz rfl (An rfl (rt (tR (rs ?_)))))
 have U:Own w D S [row d (s0 (r3 (C6 a) l0++(b::r4 (C6 a) l0))) c (q4 ay.cells (r3 (C6 a) l0++(b::r4 (C6 a) l0))) 60 5,qC B 1 (q4 ay.cells ([b])) 60 5]:=T.rowPart e6 (zU (l:=l0) (m:=(s0 (r3 (C6 a) l0++(b::r4 (C6 a) l0))) - C6 a) (k2:=l0.length - C6 a) ay.len e6 (by rw [o]; exact F1 5 e6) rfl rfl e6 e6)
 have V:=U.pk [0]
 obtain rfl:=zj hr zq1
 exact⟨d,c,rfl,V,e6⟩
def kZ (l0:List aS) (a:Int) (b:aS):(List aS):=
 if((C6 a:Nat):Int)=(l0.length:Int) then(l0++ [b]) else(r3 (C6 a) l0++(b::r4 (C6 a) l0))
theorem pR (w D d C c l0 a B) (b:aS) (x) (H:Own w D w [row d C c (q4 aS.cells l0) 56 4,qC B 1 (q4 aS.cells ([b])) 56 4]) (E:C=l0.length) (af:l0.length *48<=211106232532992) (ag:0<=a/\a<=((l0.length:Nat):Int)/\(l0.length+1) *48<=211106232532992) (hr:kZ l0 a b=x):
    Calls v5 155 #[.slice d C c,vI a, .slice B 1 1] w (dA λ v w'=> ∃ W X,v= .slice W x.length X/\Own w D w' [row W x.length X (q4 aS.cells x) 56 4]/\(x.length=l0.length+1)):=by
 unfold kZ at hr
 subst E
 have ah:=zr 0 H
 refine cb Tryz.func155 ?_
 refine sr (Ar rfl (Mz rfl (fw (vJ (C6 a)) (Ir (e:=a) (IA rfl) e6) (fw (.slice (jw d (C6 a) 4 c) (l0.length - (C6 a)) (c - (C6 a))) (I5 (lW) rfl rfl e6) (ns (Mz rfl (Kz (vI 1) (An rfl (Ik (sr (Mz rfl (Kz (.bool false) (nt (jf (sk (sr (Mz rfl (Kz (vJ l0.length) (An rfl (Ik (sr (fw (vJ (C6 a)) (Ir (e:=a) (IA rfl) e6) ?_))))))))))))))))))))))
 refine Mz rfl (Kz (.bool (decide (((C6 a:Nat):Int)=(l0.length:Int)))) (nt ?_))
 by_cases g:((C6 a:Nat):Int)=(l0.length:Int)
 refine jT (dT g) (sr (Mz rfl (Mz rfl ?_)))
 refine WL.do rfl (IW (k:=l0.length) (m:=1) (lW) H rfl rfl (gN B4 (bq H (i:=1) rfl qW) (dX aS.one ([b]))) rfl e6 (s:=s0 (l0++ [b])) f7 (r5).symm ?_)
 intro F G ai I
 have Y:s0 (l0++ [b])=l0.length+1:=by simp only [o2,s1,E7]
 refine An rfl (rt (tR (rs ?_)))
 have J:=I.pk [0]
 obtain rfl:=zj hr zq1
 exact⟨F,G,rfl,J,e6⟩
 refine jF (dF g) (sk (Ik (sr (Mz rfl (Mz rfl (fw (vJ (l0.length+1)) (Ir (e:=C3.wrap ((l0.length:Int)+1)) yk f0) (Mz rfl (Kz (vJ c) (Kz (.bool (decide (((l0.length+1:Nat):Int) > (c:Int)))) (nt ?_))))))))))
 by_cases y:((l0.length+1:Nat):Int) > (c:Int)
 refine jT (dT y) (sr (Mz rfl (fw (vJ (C6 a)) (Ir (e:=a) (IA rfl) e6) (fw (.slice d (C6 a) c) (Jk (lW) rfl rfl e6) (Mz rfl (Mz rfl (fw (vJ (l0.length+1)) (Ir (e:=C3.wrap ((l0.length:Int)+1)) yk f0) (fw (vJ (C6 a)) (Ir (e:=a) (IA rfl) e6) (fw (vJ ((l0.length+1) - (C6 a))) (Ir (e:=C3.wrap (((l0.length+1:Nat):Int) - ((C6 a:Nat):Int))) yk f0) ?_)))))))))
 have Z:s0 (r3 (C6 a) l0++(b::r4 (C6 a) l0))=l0.length+1:=by simp only [o2,o0,s1,o1]; omega
 refine WL.do rfl (JJ (k:=C6 a) (m:=(l0.length+1) - (C6 a)) (lW) v8 H rfl rfl e6 e6 e6 rfl e6 (s:=s0 (r3 (C6 a) l0++(b::r4 (C6 a) l0))) e6 ?_)
 intro h f aa aj z j
 have K:=j.rowLe (i:=0) rfl
 refine Ar rfl (Mz rfl (fw (vJ (C6 a)) (Ir (e:=a) (IA rfl) e6) (fw (.slice (jw h (C6 a) 4 f) ((s0 (r3 (C6 a) l0++(b::r4 (C6 a) l0))) - (C6 a)) (f - (C6 a))) (I5 (lW) rfl rfl e6) (Mz rfl ?_))))
 refine WL.do rfl (Jn (lo:=C6 a) (k:=1) (lW) j rfl (λ _=>kS ((j.rds (i:=0) rfl).isSome e6) e6) e6 rfl (bq j (i:=2) rfl qW) e6 (λ u hu=>dX aS.one _ u (F0 hu)) rfl ?_)
 intro ak L
 refine nt (Ik ?_)
 refine EF [8] (IE (IE IQ)) L ?_
 intro au n
 refine qv 0 rfl rfl (qt (v:=vJ (C6 a)) 1 rfl (λ _ _=>Ir (e:=a) (IA rfl) e6) (qv 2 rfl rfl (qt (v:=vJ (C6 a+1)) 3 rfl (λ _ _=>Ir (e:=C3.wrap (((C6 a:Nat):Int)+1)) yk f0) (qt (v:= .slice (jw h (C6 a+1) 4 f) ((s0 (r3 (C6 a) l0++(b::r4 (C6 a) l0))) - (C6 a+1)) (f - (C6 a+1))) 4 rfl (λ _ _=>I5 (lW) rfl rfl e6) (qv 5 rfl rfl (qt (v:=vJ (C6 a)) 6 rfl (λ _ _=>Ir (e:=a) (IA rfl) e6) (qt (v:= .slice (jw d (C6 a) 4 c) (l0.length - (C6 a)) (c - (C6 a))) 7 rfl (λ _ _=>I5 (lW) rfl rfl e6) ?_)))))))
 refine qd 8 rfl (Jn (lo:=C6 a+1) (k:=l0.length - C6 a) (lW) n rfl (λ _=>kS ((n.rds (i:=0) rfl).isSome e6) e6) e6 rfl (Jw (lo:=C6 a) aS.len (n.rds (i:=1) rfl) e6 e6 f2) e6 (λ u hu=>dX aS.one _ u (F0 hu)) rfl ?_)
 intro M N
 refine⟨.inl e7, ?_⟩
 refine qn (Iq (sr (Mz rfl (An rfl (rt (tR (rs ?_)))))))
 have O:Own w D M [row h (s0 (r3 (C6 a) l0++(b::r4 (C6 a) l0))) f (q4 aS.cells (r3 (C6 a) l0++(b::r4 (C6 a) l0))) 56 4,row d l0.length c (q4 aS.cells l0) 56 4,qC B 1 (q4 aS.cells ([b])) 56 4]:=N.rowPart e6 (zS (l:=l0) (k2:=l0.length - C6 a) aS.len e6 z rfl rfl e6)
 have P:=O.pk [0]
 obtain rfl:=zj hr zq1
 exact⟨h,f,rfl,P,e6⟩
 refine jF (dF y) (sk (sr ?_))
 have A:s0 (r3 (C6 a) l0++(b::r4 (C6 a) l0))=l0.length+1:=by simp only [o2,o0,s1,o1]; omega
 obtain⟨ae,o,Q⟩:=H.rowFull
 refine Mz rfl (Mz rfl (Mz rfl (fw (vJ (l0.length+1)) (Ir (e:=C3.wrap ((l0.length:Int)+1)) yk f0) (fw (.slice d (s0 (r3 (C6 a) l0++(b::r4 (C6 a) l0))) c) (Yl.to (Jk (lW) rfl rfl e6) (congrArg (λ q=>Value.slice d q c) A.symm)) (An rfl (Ik (sr (Mz rfl (Mz rfl (fw (vJ (C6 a)) (Ir (e:=a) (IA rfl) e6) (Mz rfl (fw (vJ (C6 a+1)) (Ir (e:=C3.wrap (((C6 a:Nat):Int)+1)) yk f0) (fw (.slice (jw d (C6 a+1) 4 c) ((s0 (r3 (C6 a) l0++(b::r4 (C6 a) l0))) - (C6 a+1)) (c - (C6 a+1))) (I5 (lW) rfl rfl e6) ?_)))))))))))))
 have p:=Q.pb [0]
 refine fw (.bool false) (JN (lo:=C6 a+1) (run_callFunc_extern Tryz.func170 e7 e7 e7 (e:=Extern.SlicesOverlaps.overlaps #[31,31] #[4]) e7) B4 Tryz.sizeOf56 p f2 e6 rfl (kS ((p.rds (i:=1) rfl).isSome e6) e6)) (Kz (.bool true) (nt (jt (Ik ?_))))
 refine pM [8] (IE (IE IQ)) p ?_
 intro av R
 refine qv 0 rfl rfl (qt (v:=vJ (C6 a)) 1 rfl (λ _ _=>Ir (e:=a) (IA rfl) e6) (qv 2 rfl rfl (qt (v:=vJ (C6 a+1)) 3 rfl (λ _ _=>Ir (e:=C3.wrap (((C6 a:Nat):Int)+1)) yk f0) (qt (v:= .slice (jw d (C6 a+1) 4 c) ((s0 (r3 (C6 a) l0++(b::r4 (C6 a) l0))) - (C6 a+1)) (c - (C6 a+1))) 4 rfl (λ _ _=>I5 (lW) rfl rfl e6) (qv 5 rfl rfl (qt (v:=vJ (C6 a)) 6 rfl (λ _ _=>Ir (e:=a) (IA rfl) e6) (qt (v:= .slice (jw d (C6 a) 4 c) ((s0 (r3 (C6 a) l0++(b::r4 (C6 a) l0))) - (C6 a)) (c - (C6 a))) 7 rfl (λ _ _=>I5 (lW) rfl rfl e6) ?_)))))))
 have r:=R.pb [0]
 refine qd 8 rfl (Jn (lo:=C6 a+1) (k:=l0.length - C6 a) (lW) r rfl (λ _=>kS ((r.rds (i:=0) rfl).isSome e6) e6) e6 rfl (aY.cut (lo:=C6 a) (hi:=s0 (r3 (C6 a) l0++(b::r4 (C6 a) l0))) (r.rds (i:=0) rfl) e6 e6 e6) e6 (λ u hu=>dX aS.one _ u (by rw [zT aS.len e6 rfl e6] at hu; exact hu)) rfl ?_)
 intro ax t
 refine⟨.inl e7, ?_⟩
 refine qn (Iq (sr (Mz rfl (fw (vJ (C6 a)) (Ir (e:=a) (IA rfl) e6) (fw (.slice (jw d (C6 a) 4 c) ((s0 (r3 (C6 a) l0++(b::r4 (C6 a) l0))) - (C6 a)) (c - (C6 a))) (I5 (lW) rfl rfl e6) (Mz rfl ?_))))))
 refine WL.do rfl (Jn (lo:=C6 a) (k:=1) (lW) t rfl (λ _=>kS ((t.rds (i:=0) rfl).isSome e6) e6) e6 rfl (bq t (i:=1) rfl qW) e6 (λ u hu=>dX aS.one _ u (F0 hu)) rfl ?_)
 intro S T
 refine ns (Mz rfl (An rfl (rt (tR (rs ?_)))))
 have U:Own w D S [row d (s0 (r3 (C6 a) l0++(b::r4 (C6 a) l0))) c (q4 aS.cells (r3 (C6 a) l0++(b::r4 (C6 a) l0))) 56 4,qC B 1 (q4 aS.cells ([b])) 56 4]:=T.rowPart e6 (zU (l:=l0) (m:=(s0 (r3 (C6 a) l0++(b::r4 (C6 a) l0))) - C6 a) (k2:=l0.length - C6 a) aS.len e6 (by rw [o]; exact F1 4 e6) rfl rfl e6 e6)
 have V:=U.pk [0]
 obtain rfl:=zj hr zq1
 exact⟨d,c,rfl,V,e6⟩
def qH (l0:List aH):(List aH):=
 l0
theorem kP (w D d f u l0 e) (H:Own w D w []) (c:Ro w D λ w'=>aY w' 2 d f (q4 aH.cells l0)) (g:f=l0.length) (x:l0.length *32<=211106232532992) (hr:qH l0=e):
    Calls v5 75 #[.slice d f u] w (dA λ v w'=> ∃ r t,v= .slice r e.length t/\Own w D w' [row r e.length t (q4 aH.cells e) 153 2]):=by
 subst g
 refine cb Tryz.func75 ?_
 refine sr (An rfl (Ik (sr (Mz rfl (fw (.bool (Option.isNone d)) (Ji B1 rfl rfl) (nt ?_))))))
 rcases Ls (Option.isNone d) with a | a
 obtain rfl:l0= []:=qi (enc:=aH.cells) (H.ro c) a
 refine jT a (sr (An rfl (rt (tR (rs ?_)))))
 have h:Own w D w [row none 0 0 (q4 aH.cells []) 153 2]:=H.free (eP 153 2)
 have i:=h.pf []
 obtain rfl:_=[]:=zj hr rfl
 exact⟨none,0,rfl,i⟩
 refine jF a (sk (sr ?_))
 refine jV [] 153 2 0 H ?_
 intro j l b
 replace b:Own w D l [row j 0 0 (q4 aH.cells []) 153 2]:=b
 refine Mz rfl ?_
 refine WL.do rfl (IW (k:=0) (m:=l0.length) (jL) b rfl rfl (gN B1 (b.ro c) (dX aH.one l0)) rfl e6 (s:=l0.length) e6 rfl ?_)
 intro n o y p
 refine An rfl (rt (rs ?_))
 have q:=p.pf []
 obtain rfl:_=l0:=zj hr rfl
 exact⟨n,o,rfl,q⟩
def uT (l0:List Int):(List Int):=
 l0
theorem tZ (w D d f u l0 e) (H:Own w D w []) (c:Ro w D λ w'=>aY w' 1 d f (q4 (eI .i64) l0)) (g:f=l0.length) (x:l0.length *8<=211106232532992) (hr:uT l0=e):
    Calls v5 46 #[.slice d f u] w (dA λ v w'=> ∃ r t,v= .slice r e.length t/\Own w D w' [row r e.length t (q4 (eI .i64) e) 3 1]):=by
 subst g
 refine cb Tryz.func46 ?_
 refine sr (An rfl (Ik (sr (Mz rfl (fw (.bool (Option.isNone d)) (Ji y4 rfl rfl) (nt ?_))))))
 rcases Ls (Option.isNone d) with a | a
 obtain rfl:l0= []:=qi (enc:=(eI .i64)) (H.ro c) a
 refine jT a (sr (An rfl (rt (tR (rs ?_)))))
 have h:Own w D w [row none 0 0 (q4 (eI .i64) []) 3 1]:=H.free (eP 3 1)
 have i:=h.pf []
 obtain rfl:_=[]:=zj hr rfl
 exact⟨none,0,rfl,i⟩
 refine jF a (sk (sr ?_))
 refine jV [] 3 1 0 H ?_
 intro j l b
 replace b:Own w D l [row j 0 0 (q4 (eI .i64) []) 3 1]:=b
 refine Mz rfl ?_
 refine WL.do rfl (IW (k:=0) (m:=l0.length) (mq) b rfl rfl (gN y4 (b.ro c) (dX qB l0)) rfl e6 (s:=l0.length) e6 rfl ?_)
 intro n o y p
 refine An rfl (rt (rs ?_))
 have q:=p.pf []
 obtain rfl:_=l0:=zj hr rfl
 exact⟨n,o,rfl,q⟩
def qj (l0:List aM):(List aM):=
 l0
theorem l7 (w D d f u l0 e) (H:Own w D w []) (c:Ro w D λ w'=>aY w' 2 d f (q4 aM.cells l0)) (g:f=l0.length) (x:l0.length *24<=211106232532992) (hr:qj l0=e):
    Calls v5 44 #[.slice d f u] w (dA λ v w'=> ∃ r t,v= .slice r e.length t/\Own w D w' [row r e.length t (q4 aM.cells e) 89 2]):=by
 subst g
 refine cb Tryz.func44 ?_
 refine sr (An rfl (Ik (sr (Mz rfl (fw (.bool (Option.isNone d)) (Ji B3 rfl rfl) (nt ?_))))))
 rcases Ls (Option.isNone d) with a | a
 obtain rfl:l0= []:=qi (enc:=aM.cells) (H.ro c) a
 refine jT a (sr (An rfl (rt (tR (rs ?_)))))
 have h:Own w D w [row none 0 0 (q4 aM.cells []) 89 2]:=H.free (eP 89 2)
 have i:=h.pf []
 obtain rfl:_=[]:=zj hr rfl
 exact⟨none,0,rfl,i⟩
 refine jF a (sk (sr ?_))
 refine jV [] 89 2 0 H ?_
 intro j l b
 replace b:Own w D l [row j 0 0 (q4 aM.cells []) 89 2]:=b
 refine Mz rfl ?_
 refine WL.do rfl (IW (k:=0) (m:=l0.length) (nE) b rfl rfl (gN B3 (b.ro c) (dX aM.one l0)) rfl e6 (s:=l0.length) e6 rfl ?_)
 intro n o y p
 refine An rfl (rt (rs ?_))
 have q:=p.pf []
 obtain rfl:_=l0:=zj hr rfl
 exact⟨n,o,rfl,q⟩
def r9 (l0:List aN):(List aN):=
 l0
theorem nJ (w D d f u l0 e) (H:Own w D w []) (c:Ro w D λ w'=>aY w' 6 d f (q4 aN.cells l0)) (g:f=l0.length) (x:l0.length *80<=211106232532992) (hr:r9 l0=e):
    Calls v5 109 #[.slice d f u] w (dA λ v w'=> ∃ r t,v= .slice r e.length t/\Own w D w' [row r e.length t (q4 aN.cells e) 72 6]):=by
 subst g
 refine cb Tryz.func109 ?_
 refine sr (An rfl (Ik (sr (Mz rfl (fw (.bool (Option.isNone d)) (Ji F2 rfl rfl) (nt ?_))))))
 rcases Ls (Option.isNone d) with a | a
 obtain rfl:l0= []:=qi (enc:=aN.cells) (H.ro c) a
 refine jT a (sr (An rfl (rt (tR (rs ?_)))))
 have h:Own w D w [row none 0 0 (q4 aN.cells []) 72 6]:=H.free (eP 72 6)
 have i:=h.pf []
 obtain rfl:_=[]:=zj hr rfl
 exact⟨none,0,rfl,i⟩
 refine jF a (sk (sr ?_))
 refine jV [] 72 6 0 H ?_
 intro j l b
 replace b:Own w D l [row j 0 0 (q4 aN.cells []) 72 6]:=b
 refine Mz rfl ?_
 refine WL.do rfl (IW (k:=0) (m:=l0.length) (mG) b rfl rfl (gN F2 (b.ro c) (dX aN.one l0)) rfl e6 (s:=l0.length) e6 rfl ?_)
 intro n o y p
 refine An rfl (rt (rs ?_))
 have q:=p.pf []
 obtain rfl:_=l0:=zj hr rfl
 exact⟨n,o,rfl,q⟩
end
open List renaming Perm->G0,drop_eq_nil_of_le->G2,getElem?_eq_some_iff->p6,perm_append_comm->v0,take_append_drop->s7,take_of_length_le->G1
section
open Go.RowKit
theorem vK (d:List ay) (i j:Int) (h:0<=i/\i<=j):jO d i j=r3 (C6 i) d++r4 (C6 j) d:=by
 unfold jO
 by_cases c:i=j
 . rw [ip c,c,s7]
 . rw [iN c]
theorem vL (w D A n c d l i j k) (x:ay) (H:Own w D w [row A n c (q4 ay.cells d) 60 5,sepL (q4 ay.own d)]) (hn:n=l.length) (hd:s5 ay.abs d=l) (hl:l.length<=1000000) (hk:i=((k:Nat):Int)) (hj:j=i+1) (hx:d[k]? =some x):
    Calls v5 98 #[.slice A n c,vI i,vI j] w (dA λ v w'=> ∃ B b,v= .slice B (s0 (r3 k l++r4 (k+1) l)) b/\
      Own w D w' (row B (s0 (r3 k l++r4 (k+1) l)) b (q4 ay.cells (r3 k d++r4 (k+1) d)) 60 5::sepL (q4 ay.own (r3 k d++r4 (k+1) d))::ay.own x)):=by
 obtain⟨a,e,ro,bk,rr⟩:=IZ H
 have hdl:d.length=l.length:=by rw [<- hd,s3]
 have hkl:=(p6.1 hx).1
 have f:C6 i=k:=e6
 have g:C6 j=k+1:=e6
 refine(nN w a A n c d i j _ e e6 e6 e6 (vK d i j e6)).mono ?_
 rintro _ w' ⟨v,rfl,B,b,rfl,HQ,_⟩
 rw [f,g,aA (pK (i:=k) (j:=k+1) hd)] at HQ ⊢
 have h:=(bk _ _ HQ).perm (G0.swap _ _ _)
 have m:=Ai hx h
 exact⟨_,rfl,B,b,rfl,m.perm (v0 (l₁:=sepL (q4 ay.own (r3 k d++r4 (k+1) d))::ay.own x) (l₂:= [_]))⟩
theorem vM (d:List ay) (i:Int) (x:ay) (h:0<=i/\i<=(d.length:Int)):jP d i x=r3 (C6 i) d++(x::r4 (C6 i) d):=by
 unfold jP
 by_cases c:((C6 i:Nat):Int)=(d.length:Int)
 . rw [ip c,G1 e6,G2 e6]
 . rw [iN c]
theorem vN (w D A n c d l i k a) (y:ay) (z:bH) (H:Own w D w (row A n c (q4 ay.cells d) 60 5::qC a 1 (q4 ay.cells [y]) 60 5::sepL (q4 ay.own d)::ay.own y)) (hn:n=l.length) (hd:s5 ay.abs d=l) (hz:ay.abs y=z) (hl:l.length<=1000000) (hk:i=((k:Nat):Int)) (hi:k<=l.length):
    Calls v5 130 #[.slice A n c,vI i, .slice a 1 1] w (dA λ v w'=> ∃ B b,v= .slice B (s0 (r3 k l++(z::r4 k l))) b/\
      Own w D w' [row B (s0 (r3 k l++(z::r4 k l))) b (q4 ay.cells (r3 k d++(y::r4 k d))) 60 5,sepL (q4 ay.own (r3 k d++(y::r4 k d)))]):=by
 obtain⟨e,f,ro,bk,rr⟩:=IV H
 have hdl:d.length=l.length:=by rw [<- hd,s3]
 have g:C6 i=k:=e6
 refine(nO w e A n c d i a y _ f e6 e6 e6 (vM d i y e6)).mono ?_
 rintro _ w' ⟨v,rfl,B,b,rfl,HQ,_⟩
 rw [g,aA (qZ (i:=k) hd hz)] at HQ ⊢
 have h:=bk _ _ HQ
 have j:Own w D w' (sepL (q4 ay.own d)::(ay.own y++ [row B (s0 (r3 k l++(z::r4 k l))) b (q4 ay.cells (r3 k d++(y::r4 k d))) 60 5])):=h.perm (v0 (l₁:= [_]) (l₂:=sepL (q4 ay.own d)::ay.own y))
 exact⟨_,rfl,B,b,rfl,(Aj j).perm (G0.swap _ _ _)⟩
theorem zo (d:List bK) (i j:Int) (h:0<=i/\i<=j):kN d i j=r3 (C6 i) d++r4 (C6 j) d:=by
 unfold kN
 by_cases c:i=j
 . rw [ip c,c,s7]
 . rw [iN c]
theorem vw (w D A n c d l i j k) (x:bK) (H:Own w D w [row A n c (q4 bK.cells d) 107 9,sepL (q4 bK.own d)]) (hn:n=l.length) (hd:s5 bK.abs d=l) (hl:l.length<=1000000) (hk:i=((k:Nat):Int)) (hj:j=i+1) (hx:d[k]? =some x):
    Calls v5 105 #[.slice A n c,vI i,vI j] w (dA λ v w'=> ∃ B b,v= .slice B (s0 (r3 k l++r4 (k+1) l)) b/\
      Own w D w' (row B (s0 (r3 k l++r4 (k+1) l)) b (q4 bK.cells (r3 k d++r4 (k+1) d)) 107 9::sepL (q4 bK.own (r3 k d++r4 (k+1) d))::bK.own x)):=by
 obtain⟨a,e,ro,bk,rr⟩:=IZ H
 have hdl:d.length=l.length:=by rw [<- hd,s3]
 have hkl:=(p6.1 hx).1
 have f:C6 i=k:=e6
 have g:C6 j=k+1:=e6
 refine(pu w a A n c d i j _ e e6 e6 e6 (zo d i j e6)).mono ?_
 rintro _ w' ⟨v,rfl,B,b,rfl,HQ,_⟩
 rw [f,g,aA (pK (i:=k) (j:=k+1) hd)] at HQ ⊢
 have h:=(bk _ _ HQ).perm (G0.swap _ _ _)
 have m:=Ai hx h
 exact⟨_,rfl,B,b,rfl,m.perm (v0 (l₁:=sepL (q4 bK.own (r3 k d++r4 (k+1) d))::bK.own x) (l₂:= [_]))⟩
theorem yC (d:List aS) (i:Int) (x:aS) (h:0<=i/\i<=(d.length:Int)):kZ d i x=r3 (C6 i) d++(x::r4 (C6 i) d):=by
 unfold kZ
 by_cases c:((C6 i:Nat):Int)=(d.length:Int)
 . rw [ip c,G1 e6,G2 e6]
 . rw [iN c]
theorem yD (w D A n c d l i k a) (y:aS) (z:fF) (H:Own w D w (row A n c (q4 aS.cells d) 56 4::qC a 1 (q4 aS.cells [y]) 56 4::sepL (q4 aS.own d)::aS.own y)) (hn:n=l.length) (hd:s5 aS.abs d=l) (hz:aS.abs y=z) (hl:l.length<=1000000) (hk:i=((k:Nat):Int)) (hi:k<=l.length):
    Calls v5 155 #[.slice A n c,vI i, .slice a 1 1] w (dA λ v w'=> ∃ B b,v= .slice B (s0 (r3 k l++(z::r4 k l))) b/\
      Own w D w' [row B (s0 (r3 k l++(z::r4 k l))) b (q4 aS.cells (r3 k d++(y::r4 k d))) 56 4,sepL (q4 aS.own (r3 k d++(y::r4 k d)))]):=by
 obtain⟨e,f,ro,bk,rr⟩:=IV H
 have hdl:d.length=l.length:=by rw [<- hd,s3]
 have g:C6 i=k:=e6
 refine(pR w e A n c d i a y _ f e6 e6 e6 (yC d i y e6)).mono ?_
 rintro _ w' ⟨v,rfl,B,b,rfl,HQ,_⟩
 rw [g,aA (qZ (i:=k) hd hz)] at HQ ⊢
 have h:=bk _ _ HQ
 have j:Own w D w' (sepL (q4 aS.own d)::(aS.own y++ [row B (s0 (r3 k l++(z::r4 k l))) b (q4 aS.cells (r3 k d++(y::r4 k d))) 56 4])):=h.perm (v0 (l₁:= [_]) (l₂:=sepL (q4 aS.own d)::aS.own y))
 exact⟨_,rfl,B,b,rfl,(Aj j).perm (G0.swap _ _ _)⟩
end
open List renaming append_nil->s6,getElem?_eq_getElem->p7,length_replicate->H0,length_set->G4
open Sv renaming mk->G3
open _root_.Go.Proofs.Tryz renaming isAgg31->H1,sizeOf33->H2
section
open Go.RowKit
def iT (l0:List aQ):(List aQ):=
 l0
theorem l8 (w D E V T h l0 U) (H:Own w D w []) (B:s5 af.abs h=l0) (W:Ro w D λ w'=>aY w' 3 E V (q4 af.cells h)) (F:∀ x ∈ h,Ro w D (λ w'=>aY w' 2 x.aj.A x.aj.ls.length (q4 aH.cells x.aj.ls))/\(x.aj.ls.length<=x.aj.c/\x.aj.ls.length<=9223372036854775807)) (X:V=l0.length) (aL:l0.length *48<=211106232532992) (Y:(∀ x ∈ l0,x.aj.ls.length<=1000000)) (hr:iT l0=U):
    Calls v5 48 #[.slice E V T] w (dA λ v w'=> ∃ B0 b0 Z,v= .slice B0 U.length b0/\Own w D w' [row B0 U.length b0 (q4 af.cells Z) 149 3,sepL (q4 af.own Z)]/\(s5 af.abs Z=U)):=by
 subst X
 have aC:=aA B
 refine cb Tryz.func48 ?_
 refine sr (Ar rfl (Mz rfl ?_))
 obtain⟨aM,G,I,J,aD⟩:=Iu H
 refine cl Tryz.call74 (o6 _ _ E _ T h h G (I _ W) e6 e6 rfl) ?_
 rintro _ aN ⟨g,j,rfl,K⟩
 have aa:=J _ _ K
 refine An rfl (Ik (sr (Mz rfl (Kz (vJ h.length) (Mn rfl (bo ?_))))))
 have ae:=aa.pf []
 have ag:=(ae.sepNil).pick [1,0] f2 rfl
 refine Wp.loop (ι:=Nat × (List af)) (λ i=> [(8,vJ i.1),(7,vJ h.length),(6, .slice g h.length j),(0, .slice g h.length j),(5, .slice g h.length j),(4, .slice E l0.length T),(2, .slice none 0 0)]) (fun(i:Nat × (List af)) w'=>Own w D w' [row g h.length j (q4 af.cells (i.2++r4 i.1 h)) 149 3,sepL (q4 af.own i.2)]/\(i.1<=h.length/\i.2.length=i.1/\s5 af.abs i.2=s5 af.abs (r3 i.1 h))) (λ i=>h.length - i.1) (0, []) ⟨rfl,rfl,rfl,rfl,rfl,rfl,rfl,trivial⟩ ⟨ag,(show 0<=h.length/\s0 []=0/\s5 af.abs []=s5 af.abs (r3 0 h) from ⟨e6,rfl,rfl⟩)⟩ ?_
 rintro ⟨b,d⟩ ah ⟨u,p⟩
 replace p:b<=h.length/\d.length=b/\s5 af.abs d=s5 af.abs (r3 b h):=p
 obtain⟨aF,C,r⟩:=p
 refine sr (Kz (.bool (decide ((b:Int) < (h.length:Int)))) (nt (Ik ?_)))
 by_cases L:(b:Int) < (h.length:Int)
 refine jT (dT L) (sk (Ik (bo (sr (Mz rfl (An rfl (Il ?_)))))))
 obtain⟨a,l⟩:∃ q,h[b]? =some q:=⟨_,p7 e6⟩
 have s:(d++r4 b h)[b]? =some a:=yB e6 l
 have aG:=(F _ (D1 l)).2
 have aI:a.aj.ls.length<=1000000:=by have q9:=Y _ (D1 (eY B l)); exact q9
 refine Mz rfl (Mz rfl (Mz rfl (Mz rfl (fw (.pointer (some ⟨ab g,ao g+b *3,none⟩)) (Iz (rX) rfl rfl ((u.rds (i:=0) rfl).addr (i:=b) e6) e6) (Kz (.pointer (some ⟨ab g,ao g+b *3+2,none⟩)) (fw (.slice a.aj.A a.aj.ls.length a.aj.c) (IB rfl (bJ.one Tryz.isAgg147 (((u.rds (i:=0) rfl).elem af.len s f2).at_ (k:=2) rfl))) ?_))))))
 obtain⟨aP,M,N,O,aJ⟩:=Iu u
 refine cl Tryz.call75 (kP _ _ a.aj.A a.aj.ls.length a.aj.c a.aj.ls a.aj.ls M (N _ (F _ (D1 l)).1) rfl e6 rfl) ?_
 rintro _ aR ⟨m,n,rfl,P⟩
 have Q:=O _ _ P
 refine fw (.pointer (some ⟨ab g,ao g+b *3,none⟩)) (Iz (rX) rfl rfl ((Q.rds (i:=1) rfl).addr (i:=b) e6) e6) (Kz (.pointer (some ⟨ab g,ao g+b *3+2,none⟩)) ?_)
 have ai:=Q.pf [1]
 refine Jz (Do.storeRow (vs:= [.slice m a.aj.ls.length n]) (o:=b *3+2) (q:=ao g+b *3+2) ai rfl e6 rfl Tryz.sizeOf147 rfl rfl (Lj rfl) (ja af.len s (Lj rfl)) (jJ (y:=(af.mk a.dV a.aG (G3 m n a.aj.ls))) af.len rfl (Lj rfl) s) ?_)
 intro aj ak
 refine WL.nil (bN (Iq (Il (fw (vJ (b+1)) (Ir (e:=C3.wrap ((b:Int)+1)) yk f0) (Mz rfl (WL.nil ?_))))))
 have au:=ak.pb [0]
 have av:Own w D aj [sepL (q4 af.own (d++ [(af.mk a.dV a.aG (G3 m n a.aj.ls))])),row g h.length j (q4 af.cells (List.set (d++r4 b h) b (af.mk a.dV a.aG (G3 m n a.aj.ls)))) 149 3]:=xh (f:=af.own) (es:=d) (y:=(af.mk a.dV a.aG (G3 m n a.aj.ls))) au
 have R:=av.pk [1,0]
 rw [xk _ e6 e6] at R
 exact II (b+1,d++ [(af.mk a.dV a.aG (G3 m n a.aj.ls))]) ⟨rfl,rfl,rfl,rfl,rfl,rfl,rfl,trivial⟩ ⟨R,(show (b+1)<=h.length/\s0 (d++ [(af.mk a.dV a.aG (G3 m n a.aj.ls))])=(b+1)/\s5 af.abs (d++ [(af.mk a.dV a.aG (G3 m n a.aj.ls))])=s5 af.abs (r3 (b+1) h) from ⟨e6,by simp [C],xm (f:=af.abs) r l rfl⟩)⟩ (by show h.length - (b+1) < h.length - b; omega)
 refine jF (dF L) (Wp.exit (IC (IC (IK (Iq (sr ?_))))))
 have z:s5 af.abs d=l0:=by rw [r,G1 e6]; exact B
 have S:=u
 rw [G2 e6,s6] at S
 have aK:=aA z
 refine Mz rfl (An rfl (rt (rs ?_)))
 have t:h.length=l0.length:=by first | omega | (simp only [G4]; done) | (simp only [G4,o2,s1,E7,o0,o1,H0]; omega)
 have ax:Own w D ah [row g l0.length j (q4 af.cells d) 149 3,sepL (q4 af.own d)]:=by rw [<- t]; exact S
 have ay:=ax.pf []
 obtain rfl:_=l0:=zj hr rfl
 exact⟨g,j,d,(by first | rfl | (rw [<- t]; done) | (rw [<- t]; rfl)),ay,z⟩
theorem Ct (w D A n c d l) (H:Own w D w []) (hd:s5 af.abs d=l) (hx:Ro w D λ w'=>aY w' 3 A n (q4 af.cells d)) (hm:∀ x ∈ d,Ro w D (λ w'=>aY w' 2 x.aj.A x.aj.ls.length (q4 aH.cells x.aj.ls))/\(x.aj.ls.length<=x.aj.c/\x.aj.ls.length<=9223372036854775807)) (hn:n=l.length) (hl:l.length *48<=211106232532992) (hh:∀ x ∈ l,x.aj.ls.length<=1000000):
    Calls v5 48 #[.slice A n c] w (dA λ v w'=> ∃ B b e,v= .slice B e.length b/\Own w D w' [row B e.length b (q4 af.cells e) 149 3,sepL (q4 af.own e)]/\(s5 af.abs e=l)):=by
 refine(l8 w D A n c d l l H hd hx hm hn hl hh rfl).mono ?_
 rintro _ w' ⟨v,rfl,B,b,e,rfl,HQ,he⟩
 have hle:l.length=e.length:=by rw [<- he,s3]
 rw [hle] at HQ ⊢
 exact⟨_,rfl,B,b,e,rfl,HQ,he⟩
def iq (a:bZ):bZ:=
 a
theorem oO (w D) (a:bZ) (B aD C E aF F b J aG K d) (Y:bZ) (H:Own w D w []) (aZ:aD=a.ag.ls.length) (bf:Ro w D λ w'=>aY w' 2 B a.ag.ls.length (q4 aM.cells a.ag.ls)) (dP:a.ag.ls.length<=C/\a.ag.ls.length<=9223372036854775807) (T:s5 ay.abs b=a.ak.ls) (bg:aF=a.ak.ls.length) (bi:Ro w D λ w'=>aY w' 5 E a.ak.ls.length (q4 ay.cells b)) (dQ:a.ak.ls.length<=F/\a.ak.ls.length<=9223372036854775807) (aa:∀ x ∈ b,Ro w D (λ w'=>aY w' 1 x.au.A x.au.ls.length (q4 (eI .i64) x.au.ls))/\(x.au.ls.length<=x.au.c/\x.au.ls.length<=9223372036854775807)) (P:s5 aS.abs d=a.aK.ls) (bn:aG=a.aK.ls.length) (bq:Ro w D λ w'=>aY w' 4 J a.aK.ls.length (q4 aS.cells d)) (dR:a.aK.ls.length<=K/\a.aK.ls.length<=9223372036854775807) (Q:∀ x ∈ d,Ro w D (λ w'=>aY w' 3 x.ah.A x.ah.ls.length (q4 af.cells x.ah.ls))/\(x.ah.ls.length<=x.ah.c/\x.ah.ls.length<=9223372036854775807)/\(∀ y1 ∈ x.ah.ls,Ro w D (λ w'=>aY w' 2 y1.aj.A y1.aj.ls.length (q4 aH.cells y1.aj.ls))/\(y1.aj.ls.length<=y1.aj.c/\y1.aj.ls.length<=9223372036854775807))) (fI:a.ag.ls.length<=1000000/\a.ak.ls.length<=1000000/\a.aK.ls.length<=1000000) (dS:(∀ x ∈ a.ak.ls,x.au.ls.length<=1000000)) (bG:(∀ x ∈ a.aK.ls,x.ah.ls.length<=1000000/\∀ y ∈ x.ah.ls,y.aj.ls.length<=1000000)) (hr:iq a=Y):
    Calls v5 20 #[.agg #[vI a.au,vU a.ax,vU a.bG,vU a.aF, .slice B aD C, .slice E aF F, .slice J aG K]] w (dA λ v w'=> ∃ aI aJ aK aL aN aO ae ag,v= .agg #[vI Y.au,vU Y.ax,vU Y.bG,vU Y.aF, .slice aI Y.ag.ls.length aJ, .slice aK Y.ak.ls.length aL, .slice aN Y.aK.ls.length aO]/\Own w D w' [row aI Y.ag.ls.length aJ (q4 aM.cells Y.ag.ls) 89 2,row aK Y.ak.ls.length aL (q4 ay.cells ae) 60 5,sepL (q4 ay.own ae),row aN Y.aK.ls.length aO (q4 aS.cells ag) 56 4,sepL (q4 aS.own ag)]/\(s5 ay.abs ae=Y.ak.ls)/\(s5 aS.abs ag=Y.aK.ls)):=by
 subst aZ bg bn
 have dN:=aA T
 have dO:=aA P
 refine cb Tryz.func20 ?_
 refine sr ?_
 refine dn [vI a.au,vU a.ax,vU a.bG,vU a.aF, .slice B a.ag.ls.length C, .slice E a.ak.ls.length F, .slice J a.aK.ls.length K] 33 H ?_
 intro g fJ dU
 refine dn [vI 0, .int .u64 0, .int .u64 0, .int .u64 0, .slice none 0 0, .slice none 0 0, .slice none 0 0] 33 dU ?_
 intro R fK bH
 refine ns (Kz (vP g 4) (Lz (.slice B a.ag.ls.length C) bH 1 Tryz.isAgg29 ?_))
 obtain⟨fM,bI,bK,bL,eT⟩:=Iu bH
 refine cl Tryz.call44 (l7 _ _ B a.ag.ls.length C a.ag.ls a.ag.ls bI (bK _ bf) rfl e6 rfl) ?_
 rintro _ fO ⟨G,I,rfl,bM⟩
 have bO:=bL _ _ bM
 have eU:=zr 0 bO
 refine Kz (vP g 4) ?_
 have dV:=bO.pf [2]
 refine df [.slice G a.ag.ls.length I] 4 dV Tryz.sizeOf29 ?_
 intro fP bP
 refine ns (Kz (vP g 5) (Lz (.slice E a.ak.ls.length F) bP 0 D0 ?_))
 obtain⟨fQ,bQ,bR,bS,eX⟩:=Iu bP
 refine cl Tryz.call45 (nY _ _ E _ F b b bQ (bR _ bi) e6 e6 rfl) ?_
 rintro _ fT ⟨n,z,rfl,bT⟩
 have dW:=bS _ _ bT
 refine Kz (vP g 5) ?_
 have dX:=dW.pf [1]
 refine df [.slice n b.length z] 5 dX Tryz.sizeOf30 ?_
 intro fU bU
 refine nt (Ik (sr (Kz (vP g 5) (Lz (.slice n b.length z) bU 0 D0 (Kz (vJ b.length) (Mn rfl (bo ?_)))))))
 have dY:=bU.pb [1]
 have dZ:=(dY.sepNil).pick [1,2,3,4,0] f2 rfl
 refine Wp.loop (ι:=Nat × (List ay)) (λ i=> [(16,vJ i.1),(15,vJ b.length),(14, .slice n b.length z),(13,vP g 5),(12,vP g 5),(11, .slice n b.length z),(10, .slice E a.ak.ls.length F),(9,vP g 5),(8,vP g 4),(7, .slice G a.ag.ls.length I),(6, .slice B a.ag.ls.length C),(5,vP g 4),(2,vP R 0),(1,vP g 0),(0, .agg #[vI a.au,vU a.ax,vU a.bG,vU a.aF, .slice B a.ag.ls.length C, .slice E a.ak.ls.length F, .slice J a.aK.ls.length K])]) (fun(i:Nat × (List ay)) w'=>Own w D w' [blk g [vI a.au,vU a.ax,vU a.bG,vU a.aF, .slice G a.ag.ls.length I, .slice n b.length z, .slice J a.aK.ls.length K] 33,row G a.ag.ls.length I (q4 aM.cells a.ag.ls) 89 2,blk R [vI 0, .int .u64 0, .int .u64 0, .int .u64 0, .slice none 0 0, .slice none 0 0, .slice none 0 0] 33,row n b.length z (q4 ay.cells (i.2++r4 i.1 b)) 60 5,sepL (q4 ay.own i.2)]/\(i.1<=b.length/\i.2.length=i.1/\s5 ay.abs i.2=s5 ay.abs (r3 i.1 b))) (λ i=>b.length - i.1) (0, []) ⟨rfl,rfl,rfl,rfl,rfl,rfl,rfl,rfl,rfl,rfl,rfl,rfl,rfl,rfl,rfl,trivial⟩ ⟨dZ,(show 0<=b.length/\s0 []=0/\s5 ay.abs []=s5 ay.abs (r3 0 b) from ⟨e6,rfl,rfl⟩)⟩ ?_
 rintro ⟨p,u⟩ fV ⟨bV,ah⟩
 replace ah:p<=b.length/\u.length=p/\s5 ay.abs u=s5 ay.abs (r3 p b):=ah
 obtain⟨eZ,bu,ai⟩:=ah
 refine sr (Kz (.bool (decide ((p:Int) < (b.length:Int)))) (nt (Ik ?_)))
 by_cases bW:(p:Int) < (b.length:Int)
 refine jT (dT bW) (sk (Ik (bo (sr (Mz rfl (An rfl ?_))))))
 obtain⟨j,S⟩:∃ q,b[p]? =some q:=⟨_,p7 e6⟩
 have aj:(u++r4 p b)[p]? =some j:=yB e6 S
 have fe:=(aa _ (D1 S)).2
 have fo:j.au.ls.length<=1000000:=by have q9:=dS _ (D1 (eY T S)); exact q9
 refine Ia [12] (bv.block (IE (IE (bv.block (IE IQ))))) bV ?_
 intro fZ d9
 refine qp g 5 0 rfl (ql 1 rfl 0 D0 rfl rfl rfl (qv 2 rfl rfl (qp g 5 3 rfl (ql 4 rfl 0 D0 rfl rfl rfl (qv 5 rfl rfl (qt (v:= .pointer (some ⟨ab n,ao n+p *5,none⟩)) 6 rfl (λ _ ⟨_,H9⟩=>Iz (kM) rfl rfl ((H9.rds (i:=3) rfl).addr (i:=p) e6) e6) (qk (.pointer (some ⟨ab n,ao n+p *5+4,none⟩)) 7 rfl (qt (v:= .slice j.au.A j.au.ls.length j.au.c) 8 rfl (λ _ ⟨_,H9⟩=>IB rfl (bJ.one Tryz.isAgg58 (((H9.rds (i:=3) rfl).elem ay.len aj f2).at_ (k:=4) rfl))) ?_))))))))
 obtain⟨gm,bX,bY,cu,fq⟩:=Iu d9
 refine qd 9 rfl (IP Tryz.call46 rfl (tZ _ _ j.au.A j.au.ls.length j.au.c j.au.ls j.au.ls bX (bY _ (aa _ (D1 S)).1) rfl e6 rfl) ?_)
 rintro _ gp ⟨U,V,rfl,cz⟩
 have ed:=cu _ _ cz
 have cB:=ed.pb [0]
 refine⟨.inr ⟨_,cB⟩, ?_⟩
 refine qt (v:= .pointer (some ⟨ab n,ao n+p *5,none⟩)) 10 rfl (λ _ ⟨_,H9⟩=>Iz (kM) rfl rfl ((H9.rds (i:=3) rfl).addr (i:=p) e6) e6) (qk (.pointer (some ⟨ab n,ao n+p *5+4,none⟩)) 11 rfl ?_)
 have ek:=cB.pf [3]
 refine qe 12 rfl (Do.storeRow (vs:= [.slice U j.au.ls.length V]) (o:=p *5+4) (q:=ao n+p *5+4) ek rfl e6 rfl Tryz.sizeOf58 rfl rfl (Lj rfl) (ja ay.len aj (Lj rfl)) (jJ (y:=(ay.mk j.aX j.aP j.ax j.aU (G3 U V j.au.ls))) ay.len rfl (Lj rfl) aj) ?_)
 intro eu eB
 refine⟨.inl e7, ?_⟩
 refine qn (bN (Iq (Il (fw (vJ (p+1)) (Ir (e:=C3.wrap ((p:Int)+1)) yk f0) (Mz rfl (WL.nil ?_))))))
 have eD:=eB.px [5,4] [] [0]
 have eF:Own w D eu (sepL (q4 ay.own (u++ [(ay.mk j.aX j.aP j.ax j.aU (G3 U V j.au.ls))]))::_):=xh (f:=ay.own) (es:=u) (y:=(ay.mk j.aX j.aP j.ax j.aU (G3 U V j.au.ls))) eD
 have cK:=eF.pk [1,2,3,4,0]
 rw [xk _ e6 e6] at cK
 exact II (p+1,u++ [(ay.mk j.aX j.aP j.ax j.aU (G3 U V j.au.ls))]) ⟨rfl,rfl,rfl,rfl,rfl,rfl,rfl,rfl,rfl,rfl,rfl,rfl,rfl,rfl,rfl,trivial⟩ ⟨cK,(show (p+1)<=b.length/\s0 (u++ [(ay.mk j.aX j.aP j.ax j.aU (G3 U V j.au.ls))])=(p+1)/\s5 ay.abs (u++ [(ay.mk j.aX j.aP j.ax j.aU (G3 U V j.au.ls))])=s5 ay.abs (r3 (p+1) b) from ⟨e6,by simp [bu],xm (f:=ay.abs) ai S rfl⟩)⟩ (by show b.length - (p+1) < b.length - p; omega)
 refine jF (dF bW) (Wp.exit (IC (IC (IK (Iq (sr ?_))))))
 have aP:s5 ay.abs u=a.ak.ls:=by rw [ai,G1 e6]; exact T
 have bA:=bV
 rw [G2 e6,s6] at bA
 have fu:=aA aP
 refine Kz (vP g 6) (Lz (.slice J a.aK.ls.length K) bA 0 H1 ?_)
 obtain⟨gq,cO,cZ,dh,fA⟩:=Iu bA
 refine cl Tryz.call47 (pX _ _ J _ K d d cO (cZ _ bq) e6 e6 rfl) ?_
 rintro _ gu ⟨t,s,rfl,di⟩
 have dm:=dh _ _ di
 refine Kz (vP g 6) ?_
 have dw:=dm.pf [1]
 refine df [.slice t d.length s] 6 dw Tryz.sizeOf31 ?_
 intro fB aQ
 refine nt (Ik (sr (Kz (vP g 6) (Lz (.slice t d.length s) aQ 0 H1 (Kz (vJ d.length) (Mn rfl (bo ?_)))))))
 have dx:=aQ.pb [1]
 have dz:=(dx.sepNil).pick [1,2,3,4,5,6,0] f2 rfl
 refine Wp.loop (ι:=Nat × (List aS)) (λ i=> [(39,vJ i.1),(38,vJ d.length),(37, .slice t d.length s),(36,vP g 6),(35,vP g 6),(34, .slice t d.length s),(33, .slice J a.aK.ls.length K),(32,vP g 6),(17, .bool (decide ((p:Int) < (b.length:Int)))),(16,vJ p),(15,vJ b.length),(14, .slice n b.length z),(13,vP g 5),(12,vP g 5),(11, .slice n b.length z),(10, .slice E a.ak.ls.length F),(9,vP g 5),(8,vP g 4),(7, .slice G a.ag.ls.length I),(6, .slice B a.ag.ls.length C),(5,vP g 4),(2,vP R 0),(1,vP g 0),(0, .agg #[vI a.au,vU a.ax,vU a.bG,vU a.aF, .slice B a.ag.ls.length C, .slice E a.ak.ls.length F, .slice J a.aK.ls.length K])]) (fun(i:Nat × (List aS)) w'=>Own w D w' [blk g [vI a.au,vU a.ax,vU a.bG,vU a.aF, .slice G a.ag.ls.length I, .slice n b.length z, .slice t d.length s] 33,row G a.ag.ls.length I (q4 aM.cells a.ag.ls) 89 2,blk R [vI 0, .int .u64 0, .int .u64 0, .int .u64 0, .slice none 0 0, .slice none 0 0, .slice none 0 0] 33,row n b.length z (q4 ay.cells u) 60 5,sepL (q4 ay.own u),row t d.length s (q4 aS.cells (i.2++r4 i.1 d)) 56 4,sepL (q4 aS.own i.2)]/\(i.1<=d.length/\i.2.length=i.1/\s5 aS.abs i.2=s5 aS.abs (r3 i.1 d))) (λ i=>d.length - i.1) (0, []) ⟨rfl,rfl,rfl,rfl,rfl,rfl,rfl,rfl,rfl,rfl,rfl,rfl,rfl,rfl,rfl,rfl,rfl,rfl,rfl,rfl,rfl,rfl,rfl,rfl,trivial⟩ ⟨dz,(show 0<=d.length/\s0 []=0/\s5 aS.abs []=s5 aS.abs (r3 0 d) from ⟨e6,rfl,rfl⟩)⟩ ?_
 rintro ⟨l,r⟩ fC ⟨aR,W⟩
 replace W:l<=d.length/\r.length=l/\s5 aS.abs r=s5 aS.abs (r3 l d):=W
 obtain⟨eG,aC,Z⟩:=W
 refine sr (Kz (.bool (decide ((l:Int) < (d.length:Int)))) (nt (Ik ?_)))
 by_cases aT:(l:Int) < (d.length:Int)
 refine jT (dT aT) (sk (Ik (bo (sr (Mz rfl (An rfl ?_))))))
 obtain⟨h,L⟩:∃ q,d[l]? =some q:=⟨_,p7 e6⟩
 have X:(r++r4 l d)[l]? =some h:=yB e6 L
 have eH:=(Q _ (D1 L)).2.1
 have eO:h.ah.ls.length<=1000000:=by have q9:=(bG _ (D1 (eY P L))).1; simp only [aS.abs,s3] at q9; exact q9
 refine oV 7 [12] (bv.block (IE (IE (bv.block (IE IQ))))) aR ?_
 intro fD dB
 refine qp g 6 0 rfl (ql 1 rfl 0 H1 rfl rfl rfl (qv 2 rfl rfl (qp g 6 3 rfl (ql 4 rfl 0 H1 rfl rfl rfl (qv 5 rfl rfl (qt (v:= .pointer (some ⟨ab t,ao t+l *4,none⟩)) 6 rfl (λ _ ⟨_,H9⟩=>Iz (lW) rfl rfl ((H9.rds (i:=5) rfl).addr (i:=l) e6) e6) (qk (.pointer (some ⟨ab t,ao t+l *4+3,none⟩)) 7 rfl (qt (v:= .slice h.ah.A h.ah.ls.length h.ah.c) 8 rfl (λ _ ⟨_,H9⟩=>IB rfl (bJ.one Tryz.isAgg40 (((H9.rds (i:=5) rfl).elem aS.len X f2).at_ (k:=3) rfl))) ?_))))))))
 obtain⟨fE,bB,au,bC,eP⟩:=Iu dB
 refine qd 9 rfl (IP Tryz.call48 rfl (Ct _ _ h.ah.A h.ah.ls.length h.ah.c h.ah.ls (s5 af.abs h.ah.ls) bB rfl (au _ (Q _ (D1 L)).1) (λ x9 h9=>⟨au _ ((Q _ (D1 L)).2.2 x9 h9).1,((Q _ (D1 L)).2.2 x9 h9).2⟩) (by simp only [s3]) (by simp only [s3]; omega) (by have q9:=(bG _ (D1 (eY P L))).2; simp only [aS.abs] at q9; exact q9)) ?_)
 rintro _ fH ⟨M,N,O,rfl,bD,bE⟩
 have dC:=bC _ _ bD
 have aU:=dC.pb [0,1]
 refine⟨.inr ⟨_,aU⟩, ?_⟩
 refine qt (v:= .pointer (some ⟨ab t,ao t+l *4,none⟩)) 10 rfl (λ _ ⟨_,H9⟩=>Iz (lW) rfl rfl ((H9.rds (i:=5) rfl).addr (i:=l) e6) e6) (qk (.pointer (some ⟨ab t,ao t+l *4+3,none⟩)) 11 rfl ?_)
 have dD:=aU.pf [5]
 refine qe 12 rfl (Do.storeRow (vs:= [.slice M O.length N]) (o:=l *4+3) (q:=ao t+l *4+3) dD rfl e6 rfl Tryz.sizeOf40 rfl rfl (Lj rfl) (ja aS.len X (Lj rfl)) (jJ (y:=(aS.mk h.aP h.ax h.aU (G3 M N O))) aS.len rfl (Lj rfl) X) ?_)
 intro dE dG
 refine⟨.inl e7, ?_⟩
 refine qn (bN (Iq (Il (fw (vJ (l+1)) (Ir (e:=C3.wrap ((l:Int)+1)) yk f0) (Mz rfl (WL.nil ?_))))))
 have dH:=dG.px [7,8,6] [] [0]
 have dI:Own w D dE (sepL (q4 aS.own (r++ [(aS.mk h.aP h.ax h.aU (G3 M N O))]))::_):=xh (f:=aS.own) (es:=r) (y:=(aS.mk h.aP h.ax h.aU (G3 M N O))) dH
 have aV:=dI.pk [1,2,3,4,5,6,0]
 rw [xk _ e6 e6] at aV
 exact II (l+1,r++ [(aS.mk h.aP h.ax h.aU (G3 M N O))]) ⟨rfl,rfl,rfl,rfl,rfl,rfl,rfl,rfl,rfl,rfl,rfl,rfl,rfl,rfl,rfl,rfl,rfl,rfl,rfl,rfl,rfl,rfl,rfl,rfl,trivial⟩ ⟨aV,(show (l+1)<=d.length/\s0 (r++ [(aS.mk h.aP h.ax h.aU (G3 M N O))])=(l+1)/\s5 aS.abs (r++ [(aS.mk h.aP h.ax h.aU (G3 M N O))])=s5 aS.abs (r3 (l+1) d) from ⟨e6,by simp [aC],xm (f:=aS.abs) Z L (by simp only [aS.abs]; rw [bE])⟩)⟩ (by show d.length - (l+1) < d.length - l; omega)
 refine jF (dF aT) (Wp.exit (IC (IC (IK (Iq (sr ?_))))))
 have av:s5 aS.abs r=a.aK.ls:=by rw [Z,G1 e6]; exact P
 have ax:=aR
 rw [G2 e6,s6] at ax
 have eQ:=aA av
 refine La ([vI a.au,vU a.ax,vU a.bG,vU a.aF, .slice G a.ag.ls.length I, .slice n b.length z, .slice t d.length s]) ax 0 Tryz.isAgg33 H2 ?_
 have dJ:=ax.pf [2]
 refine df [vI a.au,vU a.ax,vU a.bG,vU a.aF, .slice G a.ag.ls.length I, .slice n b.length z, .slice t d.length s] 0 dJ H2 ?_
 intro aW aX
 refine nt (rt (Fin.res (oo rfl rfl (IJ (cs:= [vI a.au,vU a.ax,vU a.bG,vU a.aF, .slice G a.ag.ls.length I, .slice n b.length z, .slice t d.length s]) Tryz.isAgg33 H2 ((aX.cls (i:=0) rfl).lit (k:=0) (m:=7) rfl))) ?_))
 have az:b.length=a.ak.ls.length:=by first | omega | (simp only [G4]; done) | (simp only [G4,o2,s1,E7,o0,o1,H0]; omega)
 have dK:Own w D aW [blk R [vI a.au,vU a.ax,vU a.bG,vU a.aF, .slice G a.ag.ls.length I, .slice n a.ak.ls.length z, .slice t d.length s] 33,blk g [vI a.au,vU a.ax,vU a.bG,vU a.aF, .slice G a.ag.ls.length I, .slice n a.ak.ls.length z, .slice t d.length s] 33,row G a.ag.ls.length I (q4 aM.cells a.ag.ls) 89 2,row n a.ak.ls.length z (q4 ay.cells u) 60 5,sepL (q4 ay.own u),row t d.length s (q4 aS.cells r) 56 4,sepL (q4 aS.own r)]:=by rw [<- az]; exact aX
 have aB:d.length=a.aK.ls.length:=by first | omega | (simp only [G4]; done) | (simp only [G4,o2,s1,E7,o0,o1,H0]; omega)
 have dL:Own w D aW [blk R [vI a.au,vU a.ax,vU a.bG,vU a.aF, .slice G a.ag.ls.length I, .slice n a.ak.ls.length z, .slice t a.aK.ls.length s] 33,blk g [vI a.au,vU a.ax,vU a.bG,vU a.aF, .slice G a.ag.ls.length I, .slice n a.ak.ls.length z, .slice t a.aK.ls.length s] 33,row G a.ag.ls.length I (q4 aM.cells a.ag.ls) 89 2,row n a.ak.ls.length z (q4 ay.cells u) 60 5,sepL (q4 ay.own u),row t a.aK.ls.length s (q4 aS.cells r) 56 4,sepL (q4 aS.own r)]:=by rw [<- aB]; exact dK
 have dM:=dL.px [] [0,1] []
 obtain rfl:_=a:=zj hr rfl
 exact⟨G,I,n,z,t,s,u,r,(by(first | rw [<- az] | skip); (first | rw [<- aB] | skip); first | done | rfl),dM,aP,av⟩
end
section
open Go.RowKit
def dM (c:bU) (a:bW):bU:=
 bnd (iT a.ah.ls) λ b=>bU.mk (Ll.mk (c.bF.ls++ [(bW.mk a.av a.aI a.eO a.aP a.dK a.fA a.aU a.ax a.aX a.eQ a.bG a.aF a.eG a.cZ a.xN a.fe a.cu (Ll.mk a.aB.ls) (Ll.mk b) (Ll.mk a.ag.ls))]))
theorem gV (w D Q) (L:bU) (R S p T) (a:bW) (r U u z V B J C W E) (r0:bU) (H:Own w D w [blk Q [.pointer (some ⟨T,0,none⟩), .slice R L.bF.ls.length S] 98,row R L.bF.ls.length S (List.flatMap bz.cells p) 42 21,sepL (List.flatMap bz.own p)]) (G:List.map bz.abs p=L.bF.ls) (Z:U=a.aB.ls.length) (aa:Ro w D λ w'=>aY w' 6 r a.aB.ls.length (List.flatMap aN.cells a.aB.ls)) (bg:a.aB.ls.length<=u/\a.aB.ls.length<=9223372036854775807) (M:List.map af.abs J=a.ah.ls) (ag:V=a.ah.ls.length) (ah:Ro w D λ w'=>aY w' 3 z a.ah.ls.length (List.flatMap af.cells J)) (bi:a.ah.ls.length<=B/\a.ah.ls.length<=9223372036854775807) (N:∀ x ∈ J,Ro w D (λ w'=>aY w' 2 x.aj.A x.aj.ls.length (List.flatMap aH.cells x.aj.ls))/\(x.aj.ls.length<=x.aj.c/\x.aj.ls.length<=9223372036854775807)) (ai:W=a.ag.ls.length) (aj:Ro w D λ w'=>aY w' 2 C a.ag.ls.length (List.flatMap aM.cells a.ag.ls)) (bn:a.ag.ls.length<=E/\a.ag.ls.length<=9223372036854775807) (bZ:L.bF.ls.length<=1000000/\a.aB.ls.length<=1000000/\a.ag.ls.length<=1000000/\a.ah.ls.length<=1000000) (cu:(∀ x ∈ a.ah.ls,x.aj.ls.length<=1000000)) (hr:dM L a=r0):
    Calls Tryz.prog 65 #[vP Q 0, .agg (iA a.av a.aI a.eO a.aP a.dK a.fA a.aU a.ax a.aX a.eQ a.bG a.aF a.eG a.cZ a.xN a.fe a.cu.aJ a.cu.aR r U u z V B C W E).toArray] w (dA λ v w'=> ∃ O P I,v= .tuple #[]/\Own w D w' [blk Q [vP T 0, .slice O r0.bF.ls.length P] 98,row O r0.bF.ls.length P (List.flatMap bz.cells I) 42 21,sepL (List.flatMap bz.own I)]/\(List.map bz.abs I=r0.bF.ls)/\(r0.bF.ls.length=L.bF.ls.length+1)):=by
 unfold dM at hr
 subst Z ag ai
 have aZ:=aA G
 have bf:=aA M
 have bq:=zr 1 H
 refine cb Tryz.func65 ?_
 refine sr ?_
 refine dn (gK a r u z B C E) 42 H ?_
 intro K cz av
 refine ns (Kz (vP K 18) (Lz (.slice r a.aB.ls.length u) av 0 Tryz.isAgg39 ?_))
 obtain⟨cB,ax,ay,az,bM⟩:=Iu av
 refine cl Tryz.call109 (nJ _ _ r a.aB.ls.length u a.aB.ls a.aB.ls ax (ay _ aa) rfl e6 rfl) ?_
 rintro _ cK ⟨b,d,rfl,aB⟩
 have aC:=az _ _ aB
 have bN:=zr 0 aC
 refine Kz (vP K 18) ?_
 have bu:=aC.pf [1]
 refine df [.slice b a.aB.ls.length d] 18 bu Tryz.sizeOf39 ?_
 intro cO aD
 refine ns (Kz (vP K 20) (Lz (.slice C a.ag.ls.length E) aD 0 Tryz.isAgg29 ?_))
 obtain⟨cZ,aF,aG,aI,bO⟩:=Iu aD
 refine cl Tryz.call44 (l7 _ _ C a.ag.ls.length E a.ag.ls a.ag.ls aF (aG _ aj) rfl e6 rfl) ?_
 rintro _ dh ⟨e,g,rfl,aJ⟩
 have aK:=aI _ _ aJ
 have bP:=zr 0 aK
 refine Kz (vP K 20) ?_
 have bv:=aK.pf [1]
 refine df [.slice e a.ag.ls.length g] 20 bv Tryz.sizeOf29 ?_
 intro di aL
 refine ns (Kz (vP K 19) (Lz (.slice z a.ah.ls.length B) aL 0 Tryz.isAgg40 ?_))
 obtain⟨l,X⟩:∃ q,iT a.ah.ls=q:=⟨_,rfl⟩
 obtain⟨dm,aO,Y,aP,bQ⟩:=Iu aL
 refine cl Tryz.call48 (l8 _ _ z a.ah.ls.length B J a.ah.ls l aO M (Y _ ah) (λ x9 h9=>⟨Y _ (N x9 h9).1,(N x9 h9).2⟩) rfl e6 (by first | assumption | exact d9 f5 | (intro x hx; exact absurd hx List.not_mem_nil)) X) ?_
 rintro _ dw ⟨h,j,n,rfl,aQ,F⟩
 have aR:=aP _ _ aQ
 have bT:=aA F
 have bV:=zr 0 aR
 refine Kz (vP K 19) ?_
 have bA:=aR.pf [2]
 refine df [.slice h l.length j] 19 bA Tryz.sizeOf40 ?_
 intro dx bB
 refine nt ?_
 refine oV 8 [7,10] IQ bB ?_
 intro dz bC
 refine I4 (v:=vP Q 0) 0 rfl e7 (λ _=>IA rfl) (qv 1 rfl rfl (qp Q 0 2 rfl (qp Q 1 3 rfl (ql 4 rfl 5 Tryz.isAgg45 rfl rfl rfl (qt (v:= .agg (iA a.av a.aI a.eO a.aP a.dK a.fA a.aU a.ax a.aX a.eQ a.bG a.aF a.eG a.cZ a.xN a.fe a.cu.aJ a.cu.aR b a.aB.ls.length d h l.length j e a.ag.ls.length g).toArray) 5 rfl (λ _ ⟨_,H9⟩=>IB rfl (IJ (cs:=(iA a.av a.aI a.eO a.aP a.dK a.fA a.aU a.ax a.aX a.eQ a.bG a.aF a.eG a.cZ a.xN a.fe a.cu.aJ a.cu.aR b a.aB.ls.length d h l.length j e a.ag.ls.length g)) Tryz.isAgg42 Tryz.sizeOf42 ((H9.cls (i:=0) rfl).lit (k:=0) (m:=21) rfl))) ?_)))))
 refine qd 6 rfl (Jq (cs:=(iA a.av a.aI a.eO a.aP a.dK a.fA a.aU a.ax a.aX a.eQ a.bG a.aF a.eG a.cZ a.xN a.fe a.cu.aJ a.cu.aR b a.aB.ls.length d h l.length j e a.ag.ls.length g)) (t:=42) (sz:=21) (m:=1) bC rfl rfl (λ _=>by kernel_rfl) rfl f2 ?_)
 intro aS dC ak
 replace ak:=IX (y:=row aS 1 1 (List.flatMap bz.cells ([(bz.mk a.av a.aI a.eO a.aP a.dK a.fA a.aU a.ax a.aX a.eQ a.bG a.aF a.eG a.cZ a.xN a.fe a.cu (Sv.mk b d a.aB.ls) (Sv.mk h j n) (Sv.mk e g a.ag.ls))])) 42 21) (congrArg (λ z9=>row aS 1 1 [vI a.av,vI a.aI,vI a.eO,vI a.aP,vI a.dK,vI a.fA,vU a.aU,vU a.ax,vU a.aX,vU a.eQ,vU a.bG,vU a.aF,vU a.eG,vU a.cZ,vU a.xN, .bool a.fe, .string ⟨List.toArray a.cu.aJ⟩, .string ⟨List.toArray a.cu.aR⟩, .slice b a.aB.ls.length d, .slice h z9 j, .slice e a.ag.ls.length g] 42 21) (aA F).symm) ak
 have aU:=ak.pb [0]
 refine⟨.inr ⟨_,aU⟩, ?_⟩
 have aV:=aU.pf [6,7,4,1,3,2]
 refine qd 7 rfl (IW (k:=L.bF.ls.length) (m:=1) (rY) aV rfl rfl (gN Tryz.underlying45 (aV.rds (i:=8) rfl) (dX bz.one ([(bz.mk a.av a.aI a.eO a.aP a.dK a.fA a.aU a.ax a.aX a.eQ a.bG a.aF a.eG a.cZ a.xN a.fe a.cu (Sv.mk b d a.aB.ls) (Sv.mk h j n) (Sv.mk e g a.ag.ls))]))) rfl e6 (s:=List.length (L.bF.ls++ [(bW.mk a.av a.aI a.eO a.aP a.dK a.fA a.aU a.ax a.aX a.eQ a.bG a.aF a.eG a.cZ a.xN a.fe a.cu (Ll.mk a.aB.ls) (Ll.mk l) (Ll.mk a.ag.ls))])) f7 (List.flatMap_append).symm ?_)
 intro aW aX bD bE
 have bF:=bE.pf [3]
 have bG:=Jc (aA F).symm bF
 have bH:=bG.pf [2,3,0,4,5]
 have bI:Own w D bD (sepL (List.flatMap bz.own (p++ [(bz.mk a.av a.aI a.eO a.aP a.dK a.fA a.aU a.ax a.aX a.eQ a.bG a.aF a.eG a.cZ a.xN a.fe a.cu (Sv.mk b d a.aB.ls) (Sv.mk h j n) (Sv.mk e g a.ag.ls))]))::_):=bH.sepAdd (L2:= [row b a.aB.ls.length d (List.flatMap aN.cells a.aB.ls) 72 6,row h n.length j (List.flatMap af.cells n) 149 3,row e a.ag.ls.length g (List.flatMap aM.cells a.ag.ls) 89 2,sepL (List.flatMap af.own n)]) (List.flatMap_append (f:=bz.own) (xs:=p) (ys:= [(bz.mk a.av a.aI a.eO a.aP a.dK a.fA a.aU a.ax a.aX a.eQ a.bG a.aF a.eG a.cZ a.xN a.fe a.cu (Sv.mk b d a.aB.ls) (Sv.mk h j n) (Sv.mk e g a.ag.ls))])).symm
 have bX:List.length (L.bF.ls++ [(bW.mk a.av a.aI a.eO a.aP a.dK a.fA a.aU a.ax a.aX a.eQ a.bG a.aF a.eG a.cZ a.xN a.fe a.cu (Ll.mk a.aB.ls) (Ll.mk l) (Ll.mk a.ag.ls))])=L.bF.ls.length+1:=by simp only [List.length_append,List.length_cons,List.length_nil]
 have bY:=aA (nu (es:= [(bz.mk a.av a.aI a.eO a.aP a.dK a.fA a.aU a.ax a.aX a.eQ a.bG a.aF a.eG a.cZ a.xN a.fe a.cu (Sv.mk b d a.aB.ls) (Sv.mk h j n) (Sv.mk e g a.ag.ls))]) (ms:= [(bW.mk a.av a.aI a.eO a.aP a.dK a.fA a.aU a.ax a.aX a.eQ a.bG a.aF a.eG a.cZ a.xN a.fe a.cu (Ll.mk a.aB.ls) (Ll.mk l) (Ll.mk a.ag.ls))]) G (congrArg (λ z9=> [bW.mk a.av a.aI a.eO a.aP a.dK a.fA a.aU a.ax a.aX a.eQ a.bG a.aF a.eG a.cZ a.xN a.fe a.cu (Ll.mk a.aB.ls) (Ll.mk z9) (Ll.mk a.ag.ls)]) F))
 refine⟨.inl e7, ?_⟩
 refine I4 (v:=vP Q 0) 8 rfl e7 (λ _=>yk) (I4 (v:=vP Q 1) 9 rfl e7 (λ _=>yk) ?_)
 have bJ:=bI.pf [3]
 refine qe 10 rfl (Do.store (vs:= [.slice aW (List.length (L.bF.ls++ [(bW.mk a.av a.aI a.eO a.aP a.dK a.fA a.aU a.ax a.aX a.eQ a.bG a.aF a.eG a.cZ a.xN a.fe a.cu (Ll.mk a.aB.ls) (Ll.mk l) (Ll.mk a.ag.ls))])) aX]) (o:=1) bJ rfl rfl Tryz.sizeOf45 rfl rfl rfl rfl ?_)
 intro dD bK
 refine⟨.inl e7, ?_⟩
 refine qn (IL (res0 rfl) ?_)
 have bL:=bK.pk [0,2,1]
 obtain rfl:=zj hr zq1
 exact⟨aW,aX,(p++ [(bz.mk a.av a.aI a.eO a.aP a.dK a.fA a.aU a.ax a.aX a.eQ a.bG a.aF a.eG a.cZ a.xN a.fe a.cu (Sv.mk b d a.aB.ls) (Sv.mk h j n) (Sv.mk e g a.ag.ls))]),rfl,bL,(nu (es:= [(bz.mk a.av a.aI a.eO a.aP a.dK a.fA a.aU a.ax a.aX a.eQ a.bG a.aF a.eG a.cZ a.xN a.fe a.cu (Sv.mk b d a.aB.ls) (Sv.mk h j n) (Sv.mk e g a.ag.ls))]) (ms:= [(bW.mk a.av a.aI a.eO a.aP a.dK a.fA a.aU a.ax a.aX a.eQ a.bG a.aF a.eG a.cZ a.xN a.fe a.cu (Ll.mk a.aB.ls) (Ll.mk l) (Ll.mk a.ag.ls))]) G (congrArg (λ z9=> [bW.mk a.av a.aI a.eO a.aP a.dK a.fA a.aU a.ax a.aX a.eQ a.bG a.aF a.eG a.cZ a.xN a.fe a.cu (Ll.mk a.aB.ls) (Ll.mk z9) (Ll.mk a.ag.ls)]) F)),(by first | omega | (simp only [List.length_append,List.length_cons,List.length_nil]))⟩
end
open List renaming exists_mem_of_ne_nil->I2,filter_append->H3,mem_filter->H4,nil_append->I0
section
variable {α:Type} (lt:α->α->Bool)
structure xR:Prop where
  D6:∀ x,lt x x=false
  tr:∀ x y z,lt x y=true->lt y z=true->lt x z=true
  nt:∀ x y z,lt x y=false->lt y z=false->lt x z=false
def alike (x y:α):Bool:= !lt x y && !lt y x
def rM (l m:List α):Prop:=∀ x,l.filter (alike lt x)=m.filter (alike lt x)
def Hd (l:List α):Prop:=l.Pairwise (λ x y=>lt y x=false)
variable {lt}
theorem uy {x y:α}:alike lt x y=true↔lt x y=false/\lt y x=false:=by
  unfold alike
  cases lt x y <;> cases lt y x <;> simp
theorem xR.self (h:xR lt) (x:α):alike lt x x=true:=uy.2 ⟨h.D6 x,h.D6 x⟩
theorem xR.to (h:xR lt) {x y z:α} (a:alike lt x y=true) (b:alike lt x z=true):alike lt y z=true:=by
  obtain⟨c,d⟩:=uy.1 a
  obtain⟨e,f⟩:=uy.1 b
  exact uy.2 ⟨h.nt y x z d e,h.nt z x y f c⟩
theorem Li (h:xR lt) {x y:α} (a:lt x y=true):lt y x=false:=by
  cases b:lt y x with
  | false=>rfl
  | true=>have:=h.tr x y x a b; rw [h.D6 x] at this; cases this
theorem rM.refl (l:List α):rM lt l l:=λ _=>rfl
theorem rM.symm {l m:List α} (h:rM lt l m):rM lt m l:=λ x=>(h x).symm
theorem rM.trans {l m n:List α} (h:rM lt l m) (a:rM lt m n):rM lt l n:=λ x=>(h x).trans (a x)
theorem rM.app {l m a b:List α} (h:rM lt l m) (c:rM lt a b):rM lt (l++a) (m++b):=λ x=>by
  rw [H3,H3,h x,c x]
theorem Lf (ho:xR lt) {l m:List α} (h:rM lt l m) {x:α} (hx:x ∈ m):x ∈ l:=by
  have:x ∈ m.filter (alike lt x):=H4.2 ⟨hx,ho.self x⟩
  rw [<- h x] at this
  exact(H4.1 this).1
theorem rM.swap (ho:xR lt) {b c:List α} (h:∀ x ∈ b, ∀ y ∈ c,lt y x=true):rM lt (b++c) (c++b):=λ z=>by
  rw [H3,H3]
  by_cases hb:b.filter (alike lt z)= []
  . rw [hb,I0,s6]
  . have hc:c.filter (alike lt z)= []:=by
      apply Classical.byContradiction
      intro hc
      obtain⟨x,hx⟩:=I2 _ hb
      obtain⟨y,hy⟩:=I2 _ hc
      obtain⟨a,d⟩:=H4.1 hx
      obtain⟨e,f⟩:=H4.1 hy
      have:=(uy.1 (ho.to d f)).2
      rw [h x a y e] at this; cases this
    rw [hc,I0,s6]
end
open List renaming set->I3
open _root_.Go.Proofs.Tryz renaming call211->K0,isAgg153->J0,sizeOf153->J1
section
open Go.RowKit
def lh (a:List UInt8) (b:List UInt8):Int:=
 Lib.compareBytes a b
theorem pY (w D a b d) (H:Own w D w []) (hr:lh a b=d):
    Calls v5 192 #[.string ⟨v6 a⟩, .string ⟨v6 b⟩] w (dA λ v w'=>v=vI d/\Own w D w' []):=by
 refine cb Tryz.func192 ?_
 refine sr (Ar rfl (Mz rfl (Mz rfl (fw (vI (Lib.compareBytes a b)) (KF (run_callFunc_extern Tryz.func203 e7 e7 e7 (e:=Extern.BytealgCompare.compare) e7) rfl) (An rfl (rt (rs ?_)))))))
 have c:=H.pk []
 obtain rfl:_=Lib.compareBytes a b:=zj hr rfl
 exact⟨rfl,c⟩
def strings_Compare (b:List UInt8) (c:List UInt8):Int:=
 bnd (lh b c) λ a=>a
theorem vO (w D f g j) (H:Own w D w []) (hr:strings_Compare f g=j):
    Calls v5 167 #[.string ⟨v6 f⟩, .string ⟨v6 g⟩] w (dA λ v w'=>v=vI j/\Own w D w' []):=by
 unfold strings_Compare at hr
 refine cb Tryz.func167 ?_
 refine sr (Ar rfl (Mz rfl (Mz rfl ?_)))
 obtain⟨b,a⟩:∃ q,lh f g=q:=⟨_,rfl⟩
 obtain⟨m,c,k,d,l⟩:=Iu H
 refine cl Tryz.call192 (pY _ _ f g b c a) ?_
 rintro _ n ⟨rfl,e⟩
 have h:=d _ _ e
 refine An rfl (rt (rs ?_))
 have i:=h.pk []
 obtain rfl:=zj hr zq1
 exact⟨rfl,i⟩
def iW (b:aH) (c:aH):Int:=
 bnd (strings_Compare b.aZ c.aZ) λ a=>a
theorem nk (w D) (c:aH) (d:aH) (n) (H:Own w D w []) (hr:iW c d=n):
    Calls v5 166 #[.agg (aH.cells c).toArray, .agg (aH.cells d).toArray] w (dA λ v w'=>v=vI n/\Own w D w' []):=by
 unfold iW at hr
 refine cb Tryz.func166 ?_
 refine sr ?_
 refine dn (aH.cells c) 153 H ?_
 intro i r j
 refine dn (aH.cells d) 153 j ?_
 intro k s b
 refine Ar rfl (Kz (vP i 0) (Lz (.string ⟨v6 c.aZ⟩) b 1 Tryz.isAgg9 (Kz (vP k 0) (Lz (.string ⟨v6 d.aZ⟩) b 0 Tryz.isAgg9 ?_))))
 obtain⟨e,a⟩:∃ q,strings_Compare c.aZ d.aZ=q:=⟨_,rfl⟩
 obtain⟨t,f,o,g,p⟩:=Iu b
 refine cl Tryz.call167 (vO _ _ c.aZ d.aZ e f a) ?_
 rintro _ u ⟨rfl,h⟩
 have l:=g _ _ h
 refine An rfl (rt (rs ?_))
 have m:=l.pk []
 obtain rfl:=zj hr zq1
 exact⟨rfl,m⟩
def gW (g:Int):Nat->Int->List aH->(List aH)
  | 0,a,b=>default
  | f+1,a,b=>if a > g then bnd (B8 b (C6 a) default) λ c=>bnd (B8 b (C6 (a - 1)) default) λ d=>bnd (iW c d) λ e=>if e < 0 then gW g f (a - 1) (I3 (I3 b (C6 a) (aH.mk d.aZ d.aG)) (C6 (a - 1)) (aH.mk c.aZ c.aG)) else b else b
def gX (c:Int) (e:Int):Nat->Int->List aH->(List aH)
  | 0,a,b=>default
  | d+1,a,b=>if a < e then bnd (bnd (gW c ((C6 (a - c))+1) a b) λ sLrLstJjL=>sLrLstJjL) λ sJrLstJ=>gX c e d (a+1) sJrLstJ else b
def iD (l0:List aH) (a:Int) (b:Int):(List aH):=
 bnd (gX a b ((C6 (b - (a+1)))+1) (a+1) l0) λ sLrL=>sLrL
theorem lG (w D g n0 p l0 d k r0) (H:Own w D w [row g n0 p (q4 aH.cells l0) 153 2]) (ag:n0=l0.length) (aS:l0.length *32<=211106232532992) (aU:0<=d/\d<=k/\k<=((l0.length:Nat):Int)) (hr:iD l0 d k=r0):
    Calls v5 201 #[.slice g n0 p,vI d,vI k, .func (.func 166) #[] #[]] w (dA λ v w'=>v= .tuple #[]/\Own w D w' [row g n0 p (q4 aH.cells r0) 153 2]/\(r0.length=l0.length)):=by
 unfold iD at hr
 subst ag
 have aV:=zr 0 H
 refine cb Tryz.func201 ?_
 refine sr (Mz rfl (fw (vI (d+1)) (Ir (e:=C3.wrap (d+1)) yk g1) (An rfl (bo ?_))))
 have ah:=H.pf []
 obtain⟨ai,s⟩:=rJ λ (c:Int) m (t:Nat) w'=>Own w D w' [row g l0.length p (q4 aH.cells m) 153 2]/\m.length=l0.length/\d+1<=c/\C6 (k - c) < t/\gX d k ((C6 (k - (d+1)))+1) (d+1) l0=gX d k t c m
 refine C1 (λ i:Int × (List aH) × Nat=> [(8,vI i.1),(0, .slice g l0.length p),(1,vI d),(2,vI k),(3, .func (.func 166) #[] #[])]) ai (λ i=>i.2.2) (d+1,l0,(C6 (k - (d+1)))+1) ⟨rfl,rfl,rfl,rfl,rfl,trivial⟩ (s.2 ⟨ah,by first | omega | (simp only [G4] <;> omega) | (simp only [H0]),e6,e6,rfl⟩) ?_
 rintro ⟨c,m,t⟩ aW O
 obtain⟨P,aG,aI,aJ,I⟩:=s.1 O
 obtain⟨K,Q⟩:∃ q,t=q+1:=⟨t - 1,e6⟩
 subst Q
 refine Ik (sr (Mz rfl (Mz rfl (Kz (.bool (decide (c < k))) (nt ?_)))))
 by_cases E:c < k
 refine jT (dT E) (sk (Ik ?_))
 obtain⟨aj,u⟩:=lF λ x w'=>Own w D w' [row g l0.length p (q4 aH.cells x) 153 2]/\x.length=l0.length/\(bnd (gW d ((C6 (c - d))+1) c m) λ sLrLstJjL=>sLrLstJjL)=x
 refine Jg (λ i:(List aH)=> [(8,vI c),(0, .slice g l0.length p),(1,vI d),(2,vI k),(3, .func (.func 166) #[] #[])]) aj ?_ ?_
 refine bo (sr (Mz rfl (An rfl (bo ?_))))
 have ak:=P.pf []
 obtain⟨au,z⟩:=rJ λ (a:Int) h (A:Nat) w'=>Own w D w' [row g l0.length p (q4 aH.cells h) 153 2]/\h.length=l0.length/\(d<=a/\a < k)/\C6 (a - d) < A/\gW d ((C6 (c - d))+1) c m=gW d A a h
 refine C1 (λ i:Int × (List aH) × Nat=> [(9,vI i.1),(8,vI c),(0, .slice g l0.length p),(1,vI d),(2,vI k),(3, .func (.func 166) #[] #[])]) au (λ i=>i.2.2) (c,m,(C6 (c - d))+1) ⟨rfl,rfl,rfl,rfl,rfl,rfl,trivial⟩ (z.2 ⟨ak,by first | omega | (simp only [G4] <;> omega) | (simp only [H0]),e6,e6,rfl⟩) ?_
 rintro ⟨a,h,A⟩ aX R
 obtain⟨av,aK,aL,aM,B⟩:=z.1 R
 obtain⟨L,S⟩:∃ q,A=q+1:=⟨A - 1,e6⟩
 subst S
 refine Ik (Ik ?_)
 refine vo [] (IE (IE (IE (bv.block (bv.block (IE (IE (bv.block IQ)))))))) av ?_
 intro aY T
 refine qv 0 rfl rfl (qv 1 rfl rfl (qk (.bool (decide (a > d))) 2 rfl (qv 3 rfl rfl ?_)))
 by_cases b:a > d
 refine Iy (v:= .func (.func 166) #[] #[]) (rs:= []) 4 rfl rfl rfl (dT b) e7 (λ _ _=>IA rfl) (Iy (v:= .slice g l0.length p) (rs:= []) 5 rfl rfl rfl (dT b) e7 (λ _ _=>IA rfl) (Iy (v:=vJ (C6 a)) (rs:= []) 6 rfl rfl rfl (dT b) e7 (λ _ _=>Ir (e:=a) (IA rfl) e6) ?_))
 obtain⟨j,l⟩:=iG (ls:=h) (i:=C6 a) e9
 refine Iy (v:= .pointer (some ⟨ab g,ao g+(C6 a) *2,none⟩)) (rs:= []) 7 rfl rfl rfl (dT b) e7 (λ _ ⟨_,n⟩=>Iz (jL) rfl rfl ((n.rds (i:=0) rfl).addr (i:=C6 a) e6) e6) (Iy (v:= .agg (aH.cells j).toArray) (rs:= []) 8 rfl rfl rfl (dT b) e7 (λ _ ⟨_,n⟩=>IB rfl (IJ (cs:=(aH.cells j)) J0 J1 ((n.rds (i:=0) rfl).elem aH.len l f2))) (Iy (v:= .slice g l0.length p) (rs:= []) 9 rfl rfl rfl (dT b) e7 (λ _ _=>IA rfl) (Iy (v:=vI a) (rs:= []) 10 rfl rfl rfl (dT b) e7 (λ _ _=>IA rfl) (Iy (v:=vJ (C6 (a - 1))) (rs:= []) 11 rfl rfl rfl (dT b) e7 (λ _ _=>Ir (e:=C3.wrap (a - 1)) yk f0) ?_))))
 obtain⟨f,r⟩:=iG (ls:=h) (i:=C6 (a - 1)) e9
 refine Iy (v:= .pointer (some ⟨ab g,ao g+(C6 (a - 1)) *2,none⟩)) (rs:= []) 12 rfl rfl rfl (dT b) e7 (λ _ ⟨_,n⟩=>Iz (jL) rfl rfl ((n.rds (i:=0) rfl).addr (i:=C6 (a - 1)) e6) e6) (Iy (v:= .agg (aH.cells f).toArray) (rs:= []) 13 rfl rfl rfl (dT b) e7 (λ _ ⟨_,n⟩=>IB rfl (IJ (cs:=(aH.cells f)) J0 J1 ((n.rds (i:=0) rfl).elem aH.len r f2))) ?_)
 obtain⟨F,C⟩:∃ q,iW j f=q:=⟨_,rfl⟩
 obtain⟨aZ,U,aN,V,aO⟩:=Iu T
 refine Jl 14 rfl rfl rfl (dT b) e7 (IY Tryz.call166 rfl rfl (nk _ _ j f F U C) ?_)
 rintro _ bf ⟨rfl,W⟩
 have M:=V _ _ W
 refine⟨.inr ⟨_,M⟩, ?_⟩
 refine Iy (v:= .bool (decide (F < 0))) (rs:= []) 15 rfl rfl rfl (dT b) e7 (λ _ _=>yk) (qt (v:= .bool (decide (F < 0))) 16 rfl (λ _ _=>Iw rfl (dT b) rfl) (qn (Iq ?_)))
 by_cases G:F < 0
 refine jT (dT G) (sk (Ik (bo ?_)))
 refine vo [15,17] (bv.block (IE (IE (bv.block (bv.block (IE (IE (bv.block IQ)))))))) M ?_
 intro bg ax
 refine qv 0 rfl rfl (qt (v:=vJ (C6 a)) 1 rfl (λ _ _=>Ir (e:=a) (IA rfl) e6) (I4 (v:= .slice g l0.length p) 2 rfl e7 (λ _=>IA rfl) (I4 (v:=vI a) 3 rfl e7 (λ _=>IA rfl) (I4 (v:=vJ (C6 (a - 1))) 4 rfl e7 (λ _=>Ir (e:=C3.wrap (a - 1)) yk f0) (qv 5 rfl rfl (qv 6 rfl rfl (qt (v:=vJ (C6 (a - 1))) 7 rfl (λ _ _=>Ir (e:=C3.wrap (a - 1)) yk f0) (qt (v:= .pointer (some ⟨ab g,ao g+(C6 (a - 1)) *2,none⟩)) 8 rfl (λ _ ⟨_,n⟩=>Iz (jL) rfl rfl ((n.rds (i:=0) rfl).addr (i:=C6 (a - 1)) e6) e6) (qt (v:= .agg (aH.cells f).toArray) 9 rfl (λ _ ⟨_,n⟩=>IB rfl (IJ (cs:=(aH.cells f)) J0 J1 ((n.rds (i:=0) rfl).elem aH.len r f2))) (qv 10 rfl rfl (qt (v:=vJ (C6 a)) 11 rfl (λ _ _=>Ir (e:=a) (IA rfl) e6) (qt (v:= .pointer (some ⟨ab g,ao g+(C6 a) *2,none⟩)) 12 rfl (λ _ ⟨_,n⟩=>Iz (jL) rfl rfl ((n.rds (i:=0) rfl).addr (i:=C6 a) e6) e6) (qt (v:= .agg (aH.cells j).toArray) 13 rfl (λ _ ⟨_,n⟩=>IB rfl (IJ (cs:=(aH.cells j)) J0 J1 ((n.rds (i:=0) rfl).elem aH.len l f2))) (qt (v:= .pointer (some ⟨ab g,ao g+(C6 a) *2,none⟩)) 14 rfl (λ _ ⟨_,n⟩=>Iz (jL) rfl rfl ((n.rds (i:=0) rfl).addr (i:=C6 a) e6) e6) ?_))))))))))))))
 refine qe 15 rfl (Do.storeRow (vs:=(aH.cells f)) (o:=(C6 a) *2+0) (q:=ao g+(C6 a) *2) ax rfl e6 rfl J1 rfl rfl (Lj rfl) (ja aH.len l (Lj rfl)) (jJ (y:=(aH.mk f.aZ f.aG)) aH.len rfl (Lj rfl) l) ?_)
 intro bi N
 refine⟨.inl e7, ?_⟩
 obtain⟨bn,aP⟩:=iG (ls:=h) (i:=C6 (a - 1)) e9
 obtain⟨bq,aQ⟩:=dh (ls:=(I3 h (C6 a) (aH.mk f.aZ f.aG))) (i:=C6 (a - 1)) aH.len f2 (N.rds (i:=0) rfl) e9
 refine I4 (v:= .pointer (some ⟨ab g,ao g+(C6 (a - 1)) *2,none⟩)) 16 rfl e7 (λ _=>Iz (jL) rfl rfl ((N.rds (i:=0) rfl).addr (i:=C6 (a - 1)) e6) e6) ?_
 obtain⟨bu,J⟩:=iG (ls:=(I3 h (C6 a) (aH.mk f.aZ f.aG))) (i:=C6 (a - 1)) e9
 refine qe 17 rfl (Do.storeRow (vs:=(aH.cells j)) (o:=(C6 (a - 1)) *2+0) (q:=ao g+(C6 (a - 1)) *2) N rfl e6 rfl J1 rfl rfl (Lj rfl) (ja aH.len J (Lj rfl)) (jJ (y:=(aH.mk j.aZ j.aG)) aH.len rfl (Lj rfl) J) ?_)
 intro bz ay
 refine⟨.inl e7, ?_⟩
 refine qn (bN (Iq (Il (Mz rfl (fw (vI (a - 1)) (Ir (e:=C3.wrap (a - 1)) yk g1) (Az rfl (C4 ?_)))))))
 have az:=ay.pf []
 exact II (a - 1,(I3 (I3 h (C6 a) (aH.mk f.aZ f.aG)) (C6 (a - 1)) (aH.mk j.aZ j.aG)),L) ⟨rfl,rfl,rfl,rfl,rfl,rfl,trivial⟩ (z.2 ⟨az,by first | omega | (simp only [G4] <;> omega) | (simp only [H0]),e6,e6,Eq.trans (B) (Eq.trans (if_pos b) (Eq.trans (ae (aT l)) (Eq.trans (ae (aT r)) (Eq.trans (ae C) (if_pos G)))))⟩) (by show L < L+1; omega)
 refine jF (dF G) (C5 (IC (IC (IK (bN ?_)))))
 have aA:=M.pf []
 exact I8 h ⟨rfl,rfl,rfl,rfl,rfl,trivial⟩ (u.2 ⟨aA,by first | omega | (simp only [G4] <;> omega) | (simp only [H0]),ae (Eq.trans (B) (Eq.trans (if_pos b) (Eq.trans (ae (aT l)) (Eq.trans (ae (aT r)) (Eq.trans (ae C) (if_neg G))))))⟩)
 refine Ip (rs:= []) 4 rfl rfl rfl (dF b) e7 (Ip (rs:= []) 5 rfl rfl rfl (dF b) e7 (Ip (rs:= []) 6 rfl rfl rfl (dF b) e7 (Ip (rs:= []) 7 rfl rfl rfl (dF b) e7 (Ip (rs:= []) 8 rfl rfl rfl (dF b) e7 (Ip (rs:= []) 9 rfl rfl rfl (dF b) e7 (Ip (rs:= []) 10 rfl rfl rfl (dF b) e7 (Ip (rs:= []) 11 rfl rfl rfl (dF b) e7 (Ip (rs:= []) 12 rfl rfl rfl (dF b) e7 (Ip (rs:= []) 13 rfl rfl rfl (dF b) e7 (Ip (rs:= []) 14 rfl rfl rfl (dF b) e7 (Ip (rs:= []) 15 rfl rfl rfl (dF b) e7 (qt (v:= .bool false) 16 rfl (λ _ _=>Io rfl (dF b) rfl) (qn (Iq (jf (C5 (IC (IC (IK (bN ?_))))))))))))))))))))
 have aB:=T.pf []
 exact I8 h ⟨rfl,rfl,rfl,rfl,rfl,trivial⟩ (u.2 ⟨aB,by first | omega | (simp only [G4] <;> omega) | (simp only [H0]),ae (Eq.trans (B) (if_neg b))⟩)
 rintro x bA X
 obtain⟨aC,aR,Y⟩:=u.1 X
 refine Il (Mz rfl (fw (vI (c+1)) (Ir (e:=C3.wrap (c+1)) yk g1) (Az rfl (C4 ?_))))
 have aD:=aC.pf []
 exact II (c+1,x,K) ⟨rfl,rfl,rfl,rfl,rfl,trivial⟩ (s.2 ⟨aD,by first | omega | (simp only [G4] <;> omega) | (simp only [H0]),e6,e6,Eq.trans (I) (Eq.trans (if_pos E) (ae Y))⟩) (by show K < K+1; omega)
 refine jF (dF E) (C5 (IC ?_))
 have Z:gX d k ((C6 (k - (d+1)))+1) (d+1) l0=m:=et (I) (iN E)
 refine IC (IK (IL (res0 rfl) ?_))
 have aF:=P.pf []
 obtain rfl:=zj hr zq1
 exact⟨rfl,aF,g4⟩
def fG (e:Int) (f:Int) (h:Int):Nat->Nat->List aH->(List aH)
  | 0,a,b=>default
  | g+1,a,b=>if(a:Int) < h then bnd (B8 b (C6 (f+(a:Int))) default) λ c=>bnd (B8 b (C6 (e+(a:Int))) default) λ d=>fG e f h g (a+1) (I3 (I3 b (C6 (e+(a:Int))) (aH.mk c.aZ c.aG)) (C6 (f+(a:Int))) (aH.mk d.aZ d.aG)) else b
def eT (l0:List aH) (b:Int) (c:Int) (a:Int):(List aH):=
 bnd (fG b c a ((C6 (a - 0))+1) 0 l0) λ sLrL=>sLrL
theorem kz (w D g F u l0 d b h G) (H:Own w D w [row g F u (q4 aH.cells l0) 153 2]) (I:F=l0.length) (U:l0.length *32<=211106232532992) (V:0<=d/\0<=b/\0<=h/\d+h<=((l0.length:Nat):Int)/\b+h<=((l0.length:Nat):Int)) (hr:eT l0 d b h=G):
    Calls v5 211 #[.slice g F u,vI d,vI b,vI h, .func (.func 166) #[] #[]] w (dA λ v w'=>v= .tuple #[]/\Own w D w' [row g F u (q4 aH.cells G) 153 2]/\(G.length=l0.length)):=by
 unfold eT at hr
 subst I
 have W:=zr 0 H
 refine cb Tryz.func211 ?_
 refine sr (An rfl (bo ?_))
 have J:=H.pf []
 obtain⟨K,l⟩:=rJ λ (a:Nat) c (m:Nat) w'=>Own w D w' [row g l0.length u (q4 aH.cells c) 153 2]/\c.length=l0.length/\0<=a/\C6 (h - a) < m/\fG d b h ((C6 (h - 0))+1) 0 l0=fG d b h m a c
 refine C1 (λ i:Nat × (List aH) × Nat=> [(10,vJ i.1),(0, .slice g l0.length u),(1,vI d),(2,vI b),(3,vI h)]) K (λ i=>i.2.2) (0,l0,(C6 (h - 0))+1) ⟨rfl,rfl,rfl,rfl,rfl,trivial⟩ (l.2 ⟨J,by first | omega | (simp only [G4] <;> omega) | (simp only [H0]),e6,e6,rfl⟩) ?_
 rintro ⟨a,c,m⟩ X A
 obtain⟨B,P,Q,R,r⟩:=l.1 A
 obtain⟨x,C⟩:∃ q,m=q+1:=⟨m - 1,e6⟩
 subst C
 refine Ik (sr (Mz rfl (Mz rfl (Kz (.bool (decide ((a:Int) < h))) (nt ?_)))))
 by_cases n:(a:Int) < h
 refine jT (dT n) (sk (Ik (bo ?_)))
 refine vo [21,23] (bv.block (IE (IE (bv.block IQ)))) B ?_
 intro Y L
 refine qv 0 rfl rfl (qv 1 rfl rfl (qv 2 rfl rfl (qt (v:=vI ((C6 (d+(a:Int)):Nat):Int)) 3 rfl (λ _ _=>Ir (e:=C3.wrap (d+(a:Int))) yk f0) (I4 (v:= .slice g l0.length u) 4 rfl e7 (λ _=>IA rfl) (I4 (v:=vI b) 5 rfl e7 (λ _=>IA rfl) (I4 (v:=vJ a) 6 rfl e7 (λ _=>IA rfl) (I4 (v:=vI ((C6 (b+(a:Int)):Nat):Int)) 7 rfl e7 (λ _=>Ir (e:=C3.wrap (b+(a:Int))) yk f0) (qv 8 rfl rfl (qv 9 rfl rfl (qv 10 rfl rfl (qt (v:=vI ((C6 (b+(a:Int)):Nat):Int)) 11 rfl (λ _ _=>Ir (e:=C3.wrap (b+(a:Int))) yk f0) ?_)))))))))))
 obtain⟨f,s⟩:=iG (ls:=c) (i:=C6 (b+(a:Int))) e9
 refine qt (v:= .pointer (some ⟨ab g,ao g+(C6 (b+(a:Int))) *2,none⟩)) 12 rfl (λ _ ⟨_,p⟩=>Iz (jL) rfl rfl ((p.rds (i:=0) rfl).addr (i:=C6 (b+(a:Int))) e6) e6) (qt (v:= .agg (aH.cells f).toArray) 13 rfl (λ _ ⟨_,p⟩=>IB rfl (IJ (cs:=(aH.cells f)) J0 J1 ((p.rds (i:=0) rfl).elem aH.len s f2))) (qv 14 rfl rfl (qv 15 rfl rfl (qv 16 rfl rfl (qt (v:=vI ((C6 (d+(a:Int)):Nat):Int)) 17 rfl (λ _ _=>Ir (e:=C3.wrap (d+(a:Int))) yk f0) ?_)))))
 obtain⟨j,k⟩:=iG (ls:=c) (i:=C6 (d+(a:Int))) e9
 refine qt (v:= .pointer (some ⟨ab g,ao g+(C6 (d+(a:Int))) *2,none⟩)) 18 rfl (λ _ ⟨_,p⟩=>Iz (jL) rfl rfl ((p.rds (i:=0) rfl).addr (i:=C6 (d+(a:Int))) e6) e6) (qt (v:= .agg (aH.cells j).toArray) 19 rfl (λ _ ⟨_,p⟩=>IB rfl (IJ (cs:=(aH.cells j)) J0 J1 ((p.rds (i:=0) rfl).elem aH.len k f2))) (qt (v:= .pointer (some ⟨ab g,ao g+(C6 (d+(a:Int))) *2,none⟩)) 20 rfl (λ _ ⟨_,p⟩=>Iz (jL) rfl rfl ((p.rds (i:=0) rfl).addr (i:=C6 (d+(a:Int))) e6) e6) ?_))
 refine qe 21 rfl (Do.storeRow (vs:=(aH.cells f)) (o:=(C6 (d+(a:Int))) *2+0) (q:=ao g+(C6 (d+(a:Int))) *2) L rfl e6 rfl J1 rfl rfl (Lj rfl) (ja aH.len k (Lj rfl)) (jJ (y:=(aH.mk f.aZ f.aG)) aH.len rfl (Lj rfl) k) ?_)
 intro Z z
 refine⟨.inl e7, ?_⟩
 obtain⟨aa,S⟩:=iG (ls:=c) (i:=C6 (b+(a:Int))) e9
 obtain⟨af,T⟩:=dh (ls:=(I3 c (C6 (d+(a:Int))) (aH.mk f.aZ f.aG))) (i:=C6 (b+(a:Int))) aH.len f2 (z.rds (i:=0) rfl) e9
 refine I4 (v:= .pointer (some ⟨ab g,ao g+(C6 (b+(a:Int))) *2,none⟩)) 22 rfl e7 (λ _=>Iz (jL) rfl rfl ((z.rds (i:=0) rfl).addr (i:=C6 (b+(a:Int))) e6) e6) ?_
 obtain⟨ag,t⟩:=iG (ls:=(I3 c (C6 (d+(a:Int))) (aH.mk f.aZ f.aG))) (i:=C6 (b+(a:Int))) e9
 refine qe 23 rfl (Do.storeRow (vs:=(aH.cells j)) (o:=(C6 (b+(a:Int))) *2+0) (q:=ao g+(C6 (b+(a:Int))) *2) z rfl e6 rfl J1 rfl rfl (Lj rfl) (ja aH.len t (Lj rfl)) (jJ (y:=(aH.mk j.aZ j.aG)) aH.len rfl (Lj rfl) t) ?_)
 intro ah M
 refine⟨.inl e7, ?_⟩
 refine qn (bN (Iq (Il (Mz rfl (fw (vJ (a+1)) (Ir (e:=C3.wrap ((a:Int)+1)) yk f0) (Az rfl (C4 ?_)))))))
 have N:=M.pf []
 exact II (a+1,(I3 (I3 c (C6 (d+(a:Int))) (aH.mk f.aZ f.aG)) (C6 (b+(a:Int))) (aH.mk j.aZ j.aG)),x) ⟨rfl,rfl,rfl,rfl,rfl,trivial⟩ (l.2 ⟨N,by first | omega | (simp only [G4] <;> omega) | (simp only [H0]),e6,e6,Eq.trans (r) (Eq.trans (if_pos n) (Eq.trans (ae (aT s)) (ae (aT k))))⟩) (by show x < x+1; omega)
 refine jF (dF n) (C5 (IC ?_))
 have E:fG d b h ((C6 (h - 0))+1) 0 l0=c:=et (r) (iN n)
 refine IC (IK (IL (res0 rfl) ?_))
 have O:=B.pf []
 obtain rfl:=zj hr zq1
 exact⟨rfl,O,g4⟩
def cO (d:Int):Nat->Int->Int->List aH->Int × (List aH)
  | 0,a,b,c=>default
  | e+1,a,b,c=>if a=b then(a,c) else if a > b then bnd (eT c (d - a) d b) λ f=>cO d e (a - b) b f else bnd (eT c (d - a) ((d+b) - a) a) λ g=>cO d e a (b - a) g
def ib (l0:List aH) (c:Int) (a:Int) (d:Int):(List aH):=
 bnd (cO a ((C6 ((a - c)+(d - a)))+1) (a - c) (d - a) l0) λ sLrL=>bnd (eT sLrL.2 (a - sLrL.1) a sLrL.1) λ b=>b
theorem qm (w D n U o l0 g c h V) (H:Own w D w [row n U o (q4 aH.cells l0) 153 2]) (W:U=l0.length) (aC:l0.length *32<=211106232532992) (aD:0<=g/\g < c/\c < h/\h<=((l0.length:Nat):Int)) (hr:ib l0 g c h=V):
    Calls v5 209 #[.slice n U o,vI g,vI c,vI h, .func (.func 166) #[] #[]] w (dA λ v w'=>v= .tuple #[]/\Own w D w' [row n U o (q4 aH.cells V) 153 2]/\(V.length=l0.length)):=by
 unfold ib at hr
 subst W
 have aF:=zr 0 H
 refine cb Tryz.func209 ?_
 refine sr (Mz rfl (Mz rfl (fw (vI (c - g)) (Ir (e:=C3.wrap (c - g)) yk g1) (Ar rfl (Mz rfl (Mz rfl (fw (vI (h - c)) (Ir (e:=C3.wrap (h - c)) yk g1) (An rfl (Ik (bo ?_))))))))))
 have X:=H.pf []
 obtain⟨Y,f⟩:=tq λ (a:Int) (b:Int) d (k:Nat) w'=>Own w D w' [row n l0.length o (q4 aH.cells d) 153 2]/\d.length=l0.length/\(1<=a/\1<=b/\a<=c - g/\b<=h - c)/\C6 (a+b) < k/\cO c ((C6 ((c - g)+(h - c)))+1) (c - g) (h - c) l0=cO c k a b d
 refine C1 (λ i:Int × Int × (List aH) × Nat=> [(10,vI i.1),(11,vI i.2.1),(0, .slice n l0.length o),(2,vI c),(4, .func (.func 166) #[] #[])]) Y (λ i=>i.2.2.2) (c - g,h - c,l0,(C6 ((c - g)+(h - c)))+1) ⟨rfl,rfl,rfl,rfl,rfl,trivial⟩ (f.2 ⟨X,by first | omega | (simp only [G4] <;> omega) | (simp only [H0]),e6,e6,rfl⟩) ?_
 rintro ⟨a,b,d,k⟩ aG E
 obtain⟨z,ag,ah,ai,l⟩:=f.1 E
 obtain⟨j,F⟩:∃ q,k=q+1:=⟨k - 1,e6⟩
 subst F
 refine Ik (sr (Mz rfl (Mz rfl (fw (.bool (decide (¬ (a=b)))) (IM (e:= !(decide (a=b))) yk decide_not.symm) (nt ?_)))))
 by_cases m:a=b
 refine jF (dF (Lr m)) (C5 (IC ?_))
 have G:cO c ((C6 ((c - g)+(h - c)))+1) (c - g) (h - c) l0=(a,d):=et (l) (ip m)
 refine IC (IK (Iq (Il (Mz rfl (Mz rfl (Mz rfl (fw (vI (c - a)) (Ir (e:=C3.wrap (c - a)) yk g1) (Mz rfl (Mz rfl (Mz rfl ?_))))))))))
 obtain⟨A,r⟩:∃ q,eT d (c - a) c a=q:=⟨_,rfl⟩
 obtain⟨aI,I,aj,J,ak⟩:=IZ z
 refine cl K0 (kz _ _ n l0.length o d (c - a) c a A I f1 e6 e6 r) ?_
 rintro _ aJ ⟨rfl,K,s⟩
 have L:=J _ _ K
 have au:=zr 0 L
 replace s:A.length=d.length:=s
 refine C4 (IL (res0 rfl) ?_)
 have Z:=L.pf []
 obtain rfl:=zj hr zq2
 exact⟨rfl,Z,g4⟩
 refine jT (dT m) (sk (bo (sr (Mz rfl (Mz rfl (Kz (.bool (decide (a > b))) (nt ?_)))))))
 by_cases p:a > b
 refine jT (dT p) (sr (Mz rfl (Mz rfl (Mz rfl (fw (vI (c - a)) (Ir (e:=C3.wrap (c - a)) yk g1) (Mz rfl (Mz rfl (Mz rfl ?_))))))))
 obtain⟨B,t⟩:∃ q,eT d (c - a) c b=q:=⟨_,rfl⟩
 obtain⟨aK,M,av,N,ax⟩:=IZ z
 refine cl K0 (kz _ _ n l0.length o d (c - a) c b B M f1 e6 e6 t) ?_
 rintro _ aL ⟨rfl,O,u⟩
 have P:=N _ _ O
 have ay:=zr 0 P
 replace u:B.length=d.length:=u
 refine nt (Il (Mz rfl (Mz rfl (fw (vI (a - b)) (Ir (e:=C3.wrap (a - b)) yk g1) (Az rfl (C4 (bN ?_)))))))
 have aa:=P.pf []
 exact II (a - b,b,B,j) ⟨rfl,rfl,rfl,rfl,rfl,trivial⟩ (f.2 ⟨aa,by first | omega | (simp only [G4] <;> omega) | (simp only [H0]),e6,e6,Eq.trans (l) (Eq.trans (if_neg m) (Eq.trans (if_pos p) (ae t)))⟩) (by show j < j+1; omega)
 refine jF (dF p) (sr (Mz rfl (Mz rfl (Mz rfl (fw (vI (c - a)) (Ir (e:=C3.wrap (c - a)) yk g1) (Mz rfl (Mz rfl (fw (vI (c+b)) (Ir (e:=C3.wrap (c+b)) yk g1) (Mz rfl (fw (vI ((c+b) - a)) (Ir (e:=C3.wrap ((c+b) - a)) yk g1) (Mz rfl (Mz rfl ?_))))))))))))
 obtain⟨C,x⟩:∃ q,eT d (c - a) ((c+b) - a) a=q:=⟨_,rfl⟩
 obtain⟨aM,Q,az,R,aA⟩:=IZ z
 refine cl K0 (kz _ _ n l0.length o d (c - a) ((c+b) - a) a C Q f1 e6 e6 x) ?_
 rintro _ aN ⟨rfl,S,y⟩
 have T:=R _ _ S
 have aB:=zr 0 T
 replace y:C.length=d.length:=y
 refine nt (Il (Mz rfl (Mz rfl (fw (vI (b - a)) (Ir (e:=C3.wrap (b - a)) yk g1) (Az rfl (C4 (bN ?_)))))))
 have af:=T.pf []
 exact II (a,b - a,C,j) ⟨rfl,rfl,rfl,rfl,rfl,trivial⟩ (f.2 ⟨af,by first | omega | (simp only [G4] <;> omega) | (simp only [H0]),e6,e6,Eq.trans (l) (Eq.trans (if_neg m) (Eq.trans (if_neg p) (ae x)))⟩) (by show j < j+1; omega)
end
def mM (x y:aH):Bool:=decide (iW x y < 0)
def bs (P:Nat->Bool):Nat->Nat->Nat->Nat
  | 0,i,_=>i
  | f+1,i,j=>if i < j then(if P ((i+j) / 2)=true then bs P f ((i+j) / 2+1) j else bs P f i ((i+j) / 2)) else i
def yY (l:List aH) (a m b:Nat):List aH:=r3 a l++(r4 m (r3 b l)++(r4 a (r3 m l)++r4 b l))
def at_ (l:List aH) (i:Nat):aH:=List.getD l i default
def qo:Nat->List aH->Nat->Nat->Nat->List aH
  | 0,l,_,_,_=>l
  | f+1,l,a,m,b=>
    if m - a=1 then yY l a m (bs (λ h=>mM (at_ l h) (at_ l a)) (b - m+1) m b)
    else if b - m=1 then yY l (bs (λ h=> !mM (at_ l m) (at_ l h)) (m - a+1) a m) m b
    else
      let mid:=(a+b) / 2
      let n:=mid+m
      let s:=if m > mid then bs (λ c=> !mM (at_ l (n - 1 - c)) (at_ l c)) (mid - (n - b)+1) (n - b) mid else bs (λ c=> !mM (at_ l (n - 1 - c)) (at_ l c)) (m - a+1) a m
      let l1:=if s < m/\m < n - s then yY l s m (n - s) else l
      let d:=if a < s/\s < mid then qo f l1 a s mid else l1
      if mid < n - s/\n - s < b then qo f d mid (n - s) b else d
def mH (l:List aH) (a m b:Int):List aH:=qo (C6 (b - a)) l (C6 a) (C6 m) (C6 b)
open Int renaming fdiv->K1
open _root_.Go.Proofs.Tryz renaming call166->K2,call202->L0
section
open Go.RowKit
def fI (l0:List aH) (g:Int) (h:Int):Nat->Int->Int->Int
  | 0,a,b=>default
  | c+1,a,b=>if a < b then bnd (B8 l0 ((C6 (a+b)) / 2) default) λ d=>bnd (B8 l0 (C6 g) default) λ e=>bnd (iW d e) λ f=>if f < 0 then fI l0 g h c ((((C6 (a+b)) / 2)+1:Nat):Int) b else fI l0 g h c a (((C6 (a+b)) / 2:Nat):Int) else a
def fJ (e:Int):Nat->Int->List aH->(List aH)
  | 0,a,b=>default
  | f+1,a,b=>if a < e - 1 then bnd (B8 b (C6 (a+1)) default) λ c=>bnd (B8 b (C6 a) default) λ d=>fJ e f (a+1) (I3 (I3 b (C6 a) (aH.mk c.aZ c.aG)) (C6 (a+1)) (aH.mk d.aZ d.aG)) else b
def fK (l0:List aH) (h:Int) (g:Int):Nat->Int->Int->Int
  | 0,a,b=>default
  | f+1,a,b=>if a < b then bnd (B8 l0 (C6 g) default) λ c=>bnd (B8 l0 ((C6 (a+b)) / 2) default) λ d=>bnd (iW c d) λ e=>if e < 0 then fK l0 h g f a (((C6 (a+b)) / 2:Nat):Int) else fK l0 h g f ((((C6 (a+b)) / 2)+1:Nat):Int) b else a
def fM (e:Int):Nat->Int->List aH->(List aH)
  | 0,a,b=>default
  | f+1,a,b=>if a > e then bnd (B8 b (C6 (a - 1)) default) λ c=>bnd (B8 b (C6 a) default) λ d=>fM e f (a - 1) (I3 (I3 b (C6 a) (aH.mk c.aZ c.aG)) (C6 (a - 1)) (aH.mk d.aZ d.aG)) else b
def eD (l0:List aH) (g:Int) (h:Int) (i:Int):Nat->Int->Int->Int
  | 0,a,b=>default
  | c+1,a,b=>if a < b then bnd (B8 l0 (C6 ((((((C6 (g+i)) / 2:Nat):Int)+h) - 1) - (((C6 (a+b)) / 2:Nat):Int))) default) λ d=>bnd (B8 l0 ((C6 (a+b)) / 2) default) λ e=>bnd (iW d e) λ f=>if f < 0 then eD l0 g h i c a (((C6 (a+b)) / 2:Nat):Int) else eD l0 g h i c ((((C6 (a+b)) / 2)+1:Nat):Int) b else a
def lg (l0:List aH) (a:Int) (c:Int) (b:Int):(List aH):=
 if c - a=1 then bnd (fI l0 a b ((C6 (b - c))+1) c b) λ sLrtL=>bnd (fJ sLrtL ((C6 (b - a))+1) a l0) λ sLrtLaL=>sLrtLaL else if b - c=1 then bnd (fK l0 a c ((C6 (c - a))+1) a c) λ sLrftL=>bnd (fM sLrftL ((C6 (c - a))+1) c l0) λ sLrftLaL=>sLrftLaL else bnd (if c > (((C6 (a+b)) / 2:Nat):Int) then(((((C6 (a+b)) / 2:Nat):Int)+c) - b,(((C6 (a+b)) / 2:Nat):Int)) else(a,c)) λ sJrffJ=>bnd (eD l0 a c b ((C6 (sJrffJ.2 - sJrffJ.1))+1) sJrffJ.1 sJrffJ.2) λ sLrffJaL=>if sLrffJaL < c then bnd (if c < ((((C6 (a+b)) / 2:Nat):Int)+c) - sLrffJaL then bnd (ib l0 sLrffJaL c (((((C6 (a+b)) / 2:Nat):Int)+c) - sLrffJaL)) λ d=>d else l0) λ sJrffJaLatJ=>if a < sLrffJaL then bnd (if sLrffJaL < (((C6 (a+b)) / 2:Nat):Int) then bnd (mH sJrffJaLatJ a sLrffJaL (((C6 (a+b)) / 2:Nat):Int)) λ e=>e else sJrffJaLatJ) λ sJrffJaLatJatJ=>if((((C6 (a+b)) / 2:Nat):Int)+c) - sLrffJaL < b then bnd (mH sJrffJaLatJatJ (((C6 (a+b)) / 2:Nat):Int) (((((C6 (a+b)) / 2:Nat):Int)+c) - sLrffJaL) b) λ f=>f else sJrffJaLatJatJ else if((((C6 (a+b)) / 2:Nat):Int)+c) - sLrffJaL < b then bnd (mH sJrffJaLatJ (((C6 (a+b)) / 2:Nat):Int) (((((C6 (a+b)) / 2:Nat):Int)+c) - sLrffJaL) b) λ g=>g else sJrffJaLatJ else bnd (if sLrffJaL < (((C6 (a+b)) / 2:Nat):Int) then bnd (mH l0 a sLrffJaL (((C6 (a+b)) / 2:Nat):Int)) λ h=>h else l0) λ sJrffJaLafJ=>sJrffJaLafJ
theorem pU (w:World) (D:Nat->Prop) (j:Option Addr) (n0 u:Nat) (l0:List aH) (b:Int) (d:Int) (c:Int) (r0:List aH) (H:Own w D w [row j n0 u (q4 aH.cells l0) 153 2]) (fC:n0=l0.length) (iA:l0.length *32<=211106232532992) (iB:0<=b/\b < d/\d < c/\c<=((l0.length:Nat):Int)) (hr:lg l0 b d c=r0) (pm:Nat) (hpm:pm=C6 (c - b))
    (self_:∀ (w:World) (D:Nat->Prop) (j:Option Addr) (n0 u:Nat) (l0:List aH) (b:Int) (d:Int) (c:Int) (r0:List aH) (H:Own w D w [row j n0 u (q4 aH.cells l0) 153 2]) (fC:n0=l0.length) (iA:l0.length *32<=211106232532992) (iB:0<=b/\b < d/\d < c/\c<=(l0.length:Int)) (hh_:C6 (c - b) < pm) (hr:mH l0 b d c=r0),Calls Tryz.prog 202 #[.slice j n0 u,vI b,vI d,vI c, .func (.func 166) #[] #[]] w (dA λ v w'=>v= .tuple #[]/\Own w D w' [row j n0 u (q4 aH.cells r0) 153 2]/\(r0.length=l0.length))):
    Calls Tryz.prog 202 #[.slice j n0 u,vI b,vI d,vI c, .func (.func 166) #[] #[]] w (dA λ v w'=>v= .tuple #[]/\Own w D w' [row j n0 u (q4 aH.cells r0) 153 2]/\(r0.length=l0.length)):=by
 unfold lg at hr
 subst fC
 have kR:=zr 0 H
 refine cb Tryz.func202 ?_
 refine Ik (sr (Mz rfl (Mz rfl (fw (vI (d - b)) (Ir (e:=C3.wrap (d - b)) yk g1) (Kz (.bool (decide (d - b=1))) (nt ?_))))))
 by_cases K:d - b=1
 refine jT (dT K) (sr (Mz rfl (Ar rfl (Mz rfl (An rfl (Ik (bo ?_)))))))
 have iC:=H.pf []
 obtain⟨iD,aG⟩:=rJ λ (k:Int) (m:Int) (aZ:Nat) w'=>Own w D w' [row j l0.length u (q4 aH.cells l0) 153 2]/\(d<=k/\k<=m/\m<=c)/\C6 (m - k) < aZ/\fI l0 b c ((C6 (c - d))+1) d c=fI l0 b c aZ k m
 refine C1 (λ i:Int × Int × Nat=> [(10,vI i.1),(11,vI i.2.1),(0, .slice j l0.length u),(1,vI b),(2,vI d),(3,vI c),(4, .func (.func 166) #[] #[])]) iD (λ i=>i.2.2) (d,c,(C6 (c - d))+1) ⟨rfl,rfl,rfl,rfl,rfl,rfl,rfl,trivial⟩ (aG.2 ⟨iC,e6,e6,rfl⟩) ?_
 rintro ⟨k,m,aZ⟩ kS fD
 obtain⟨fE,jN,jO,bf⟩:=aG.1 fD
 obtain⟨aY,fF⟩:∃ q,aZ=q+1:=⟨aZ - 1,e6⟩
 subst fF
 refine Ik (sr (Mz rfl (Mz rfl (Kz (.bool (decide (k < m))) (nt ?_)))))
 by_cases bg:k < m
 refine jT (dT bg) (sk (bo (sr (Mz rfl (Mz rfl (fw (vI (k+m)) (Ir (e:=C3.wrap (k+m)) yk g1) (fw (vU (C6 (k+m))) (Ir (e:=C7.wrap (k+m)) yk g7) (fw (.int .u64 (((C6 (k+m)) / 2:Nat):Int)) (Ir (e:=K1 ((C6 (k+m):Nat):Int) 2) yk (ny _ 1 _ f2)) (fw (vI (((C6 (k+m)) / 2:Nat):Int)) (Ir (e:=C3.wrap (((C6 (k+m)) / 2:Nat):Int)) yk (Lm _ e6)) (An rfl (Ik ?_)))))))))))
 refine vo [] (IE (bv.block (IE (bv.block (IE (IE IQ)))))) fE ?_
 intro kT iE
 refine qv 0 rfl rfl (qv 1 rfl rfl (qv 2 rfl rfl ?_))
 obtain⟨cz,bi⟩:=iG (ls:=l0) (i:=(C6 (k+m)) / 2) e9
 refine qt (v:= .pointer (some ⟨ab j,ao j+((C6 (k+m)) / 2) *2,none⟩)) 3 rfl (λ _ ⟨_,t⟩=>Iz (jL) rfl rfl ((t.rds (i:=0) rfl).addr (i:=(C6 (k+m)) / 2) e6) e6) (qt (v:= .agg (aH.cells cz).toArray) 4 rfl (λ _ ⟨_,t⟩=>IB rfl (IJ (cs:=(aH.cells cz)) J0 J1 ((t.rds (i:=0) rfl).elem aH.len bi f2))) (qv 5 rfl rfl (qt (v:=vJ (C6 b)) 6 rfl (λ _ _=>Ir (e:=b) (IA rfl) e6) ?_)))
 obtain⟨cB,bn⟩:=iG (ls:=l0) (i:=C6 b) e9
 refine qt (v:= .pointer (some ⟨ab j,ao j+(C6 b) *2,none⟩)) 7 rfl (λ _ ⟨_,t⟩=>Iz (jL) rfl rfl ((t.rds (i:=0) rfl).addr (i:=C6 b) e6) e6) (qt (v:= .agg (aH.cells cB).toArray) 8 rfl (λ _ ⟨_,t⟩=>IB rfl (IJ (cs:=(aH.cells cB)) J0 J1 ((t.rds (i:=0) rfl).elem aH.len bn f2))) ?_)
 obtain⟨dG,bq⟩:∃ q,iW cz cB=q:=⟨_,rfl⟩
 obtain⟨kU,fG,jP,fH,jQ⟩:=Iu iE
 refine qd 9 rfl (IY K2 rfl rfl (nk _ _ cz cB dG fG bq) ?_)
 rintro _ kV ⟨rfl,fO⟩
 have dH:=fH _ _ fO
 refine⟨.inr ⟨_,dH⟩, ?_⟩
 refine qk (.bool (decide (dG < 0))) 10 rfl (qn (Iq ?_))
 by_cases cK:dG < 0
 refine jT (dT cK) (Il (Mz rfl (fw (vI ((((C6 (k+m)) / 2)+1:Nat):Int)) (Ir (e:=C3.wrap ((((C6 (k+m)) / 2:Nat):Int)+1)) yk f0) (Az rfl (C4 (bN ?_))))))
 have iF:=dH.pf []
 exact II (((((C6 (k+m)) / 2)+1:Nat):Int),m,aY) ⟨rfl,rfl,rfl,rfl,rfl,rfl,rfl,trivial⟩ (aG.2 ⟨iF,e6,e6,et (bf) (et (ip bg) (et (ae (aT bi)) (et (ae (aT bn)) (et (ae bq) (ip cK)))))⟩) (by show aY < aY+1; omega)
 refine jF (dF cK) (Il (Mz rfl (Az rfl (C4 (bN ?_)))))
 have iH:=dH.pf []
 exact II (k,(((C6 (k+m)) / 2:Nat):Int),aY) ⟨rfl,rfl,rfl,rfl,rfl,rfl,rfl,trivial⟩ (aG.2 ⟨iH,e6,e6,et (bf) (et (ip bg) (et (ae (aT bi)) (et (ae (aT bn)) (et (ae bq) (iN cK)))))⟩) (by show aY < aY+1; omega)
 refine jF (dF bg) (C5 (IC ?_))
 have fP:fI l0 b c ((C6 (c - d))+1) d c=k:=et (bf) (iN bg)
 refine IC (IK (Iq (Ik (sr (Mz rfl (An rfl (bo ?_)))))))
 have iI:=fE.pf []
 obtain⟨iJ,bu⟩:=rJ λ (h:Int) C (bz:Nat) w'=>Own w D w' [row j l0.length u (q4 aH.cells C) 153 2]/\C.length=l0.length/\b<=h/\C6 (c - h) < bz/\fJ k ((C6 (c - b))+1) b l0=fJ k bz h C
 refine C1 (λ i:Int × (List aH) × Nat=> [(13,vI i.1),(10,vI k),(0, .slice j l0.length u),(1,vI b),(2,vI d),(3,vI c),(4, .func (.func 166) #[] #[])]) iJ (λ i=>i.2.2) (b,l0,(C6 (c - b))+1) ⟨rfl,rfl,rfl,rfl,rfl,rfl,rfl,trivial⟩ (bu.2 ⟨iI,by first | omega | (simp only [G4] <;> omega) | (simp only [H0]),e6,e6,rfl⟩) ?_
 rintro ⟨h,C,bz⟩ kW fQ
 obtain⟨fT,jR,jS,jU,cZ⟩:=bu.1 fQ
 obtain⟨dI,fU⟩:∃ q,bz=q+1:=⟨bz - 1,e6⟩
 subst fU
 refine Ik (sr (Mz rfl (Mz rfl (fw (vI (k - 1)) (Ir (e:=C3.wrap (k - 1)) yk g1) (Kz (.bool (decide (h < k - 1))) (nt ?_))))))
 by_cases cO:h < k - 1
 refine jT (dT cO) (sk (Ik (bo ?_)))
 refine vo [15,17] (bv.block (IE (IE (bv.block (IE (IE IQ)))))) fT ?_
 intro kX iK
 refine qv 0 rfl rfl (qt (v:=vJ (C6 h)) 1 rfl (λ _ _=>Ir (e:=h) (IA rfl) e6) (I4 (v:= .slice j l0.length u) 2 rfl e7 (λ _=>IA rfl) (I4 (v:=vI h) 3 rfl e7 (λ _=>IA rfl) (I4 (v:=vJ (C6 (h+1))) 4 rfl e7 (λ _=>Ir (e:=C3.wrap (h+1)) yk f0) (qv 5 rfl rfl (qv 6 rfl rfl (qt (v:=vJ (C6 (h+1))) 7 rfl (λ _ _=>Ir (e:=C3.wrap (h+1)) yk f0) ?_)))))))
 obtain⟨ah,df⟩:=iG (ls:=C) (i:=C6 (h+1)) e9
 refine qt (v:= .pointer (some ⟨ab j,ao j+(C6 (h+1)) *2,none⟩)) 8 rfl (λ _ ⟨_,t⟩=>Iz (jL) rfl rfl ((t.rds (i:=0) rfl).addr (i:=C6 (h+1)) e6) e6) (qt (v:= .agg (aH.cells ah).toArray) 9 rfl (λ _ ⟨_,t⟩=>IB rfl (IJ (cs:=(aH.cells ah)) J0 J1 ((t.rds (i:=0) rfl).elem aH.len df f2))) (qv 10 rfl rfl (qt (v:=vJ (C6 h)) 11 rfl (λ _ _=>Ir (e:=h) (IA rfl) e6) ?_)))
 obtain⟨bA,aI⟩:=iG (ls:=C) (i:=C6 h) e9
 refine qt (v:= .pointer (some ⟨ab j,ao j+(C6 h) *2,none⟩)) 12 rfl (λ _ ⟨_,t⟩=>Iz (jL) rfl rfl ((t.rds (i:=0) rfl).addr (i:=C6 h) e6) e6) (qt (v:= .agg (aH.cells bA).toArray) 13 rfl (λ _ ⟨_,t⟩=>IB rfl (IJ (cs:=(aH.cells bA)) J0 J1 ((t.rds (i:=0) rfl).elem aH.len aI f2))) (qt (v:= .pointer (some ⟨ab j,ao j+(C6 h) *2,none⟩)) 14 rfl (λ _ ⟨_,t⟩=>Iz (jL) rfl rfl ((t.rds (i:=0) rfl).addr (i:=C6 h) e6) e6) ?_))
 refine qe 15 rfl (Do.storeRow (vs:=(aH.cells ah)) (o:=(C6 h) *2+0) (q:=ao j+(C6 h) *2) iK rfl e6 rfl J1 rfl rfl (Lj rfl) (ja aH.len aI (Lj rfl)) (jJ (y:=ah) aH.len rfl (Lj rfl) aI) ?_)
 intro kY dJ
 refine⟨.inl e7, ?_⟩
 obtain⟨kZ,jV⟩:=iG (ls:=C) (i:=C6 (h+1)) e9
 obtain⟨lc,jW⟩:=dh (ls:=(I3 C (C6 h) ah)) (i:=C6 (h+1)) aH.len f2 (dJ.rds (i:=0) rfl) e9
 refine I4 (v:= .pointer (some ⟨ab j,ao j+(C6 (h+1)) *2,none⟩)) 16 rfl e7 (λ _=>Iz (jL) rfl rfl ((dJ.rds (i:=0) rfl).addr (i:=C6 (h+1)) e6) e6) ?_
 obtain⟨lh,di⟩:=iG (ls:=(I3 C (C6 h) ah)) (i:=C6 (h+1)) e9
 refine qe 17 rfl (Do.storeRow (vs:=(aH.cells bA)) (o:=(C6 (h+1)) *2+0) (q:=ao j+(C6 (h+1)) *2) dJ rfl e6 rfl J1 rfl rfl (Lj rfl) (ja aH.len di (Lj rfl)) (jJ (y:=bA) aH.len rfl (Lj rfl) di) ?_)
 intro ll iL
 refine⟨.inl e7, ?_⟩
 refine qn (bN (Iq (Il (Mz rfl (fw (vI (h+1)) (Ir (e:=C3.wrap (h+1)) yk g1) (Az rfl (C4 ?_)))))))
 have iM:=iL.pf []
 exact II (h+1,(I3 (I3 C (C6 h) ah) (C6 (h+1)) bA),dI) ⟨rfl,rfl,rfl,rfl,rfl,rfl,rfl,trivial⟩ (bu.2 ⟨iM,by first | omega | (simp only [G4] <;> omega) | (simp only [H0]),e6,e6,Eq.trans (cZ) (Eq.trans (if_pos cO) (Eq.trans (ae (aT df)) (ae (aT aI))))⟩) (by show dI < dI+1; omega)
 refine jF (dF cO) (C5 (IC ?_))
 have fV:fJ k ((C6 (c - b))+1) b l0=C:=et (cZ) (iN cO)
 refine IC (IK (Iq (rt (tR (Fin.res (res0 rfl) ?_)))))
 have iO:=fT.pf []
 obtain rfl:=zj hr zq3
 exact⟨rfl,iO,g4⟩
 refine jF (dF K) (sk (Ik (sr (Mz rfl (Mz rfl (fw (vI (c - d)) (Ir (e:=C3.wrap (c - d)) yk g1) (Kz (.bool (decide (c - d=1))) (nt ?_))))))))
 by_cases T:c - d=1
 refine jT (dT T) (sr (Mz rfl (Ar rfl (Mz rfl (An rfl (Ik (bo ?_)))))))
 have iP:=H.pf []
 obtain⟨fZ,L⟩:=rJ λ (l:Int) (n:Int) (bB:Nat) w'=>Own w D w' [row j l0.length u (q4 aH.cells l0) 153 2]/\(b<=l/\l<=n/\n<=d)/\C6 (n - l) < bB/\fK l0 b d ((C6 (d - b))+1) b d=fK l0 b d bB l n
 refine C1 (λ i:Int × Int × Nat=> [(14,vI i.1),(15,vI i.2.1),(0, .slice j l0.length u),(1,vI b),(2,vI d),(3,vI c),(4, .func (.func 166) #[] #[])]) fZ (λ i=>i.2.2) (b,d,(C6 (d - b))+1) ⟨rfl,rfl,rfl,rfl,rfl,rfl,rfl,trivial⟩ (L.2 ⟨iP,e6,e6,rfl⟩) ?_
 rintro ⟨l,n,bB⟩ jX dK
 obtain⟨dm,iQ,iR,ai⟩:=L.1 dK
 obtain⟨I,dL⟩:∃ q,bB=q+1:=⟨bB - 1,e6⟩
 subst dL
 refine Ik (sr (Mz rfl (Mz rfl (Kz (.bool (decide (l < n))) (nt ?_)))))
 by_cases U:l < n
 refine jT (dT U) (sk (bo (sr (Mz rfl (Mz rfl (fw (vI (l+n)) (Ir (e:=C3.wrap (l+n)) yk g1) (fw (vU (C6 (l+n))) (Ir (e:=C7.wrap (l+n)) yk g7) (fw (.int .u64 (((C6 (l+n)) / 2:Nat):Int)) (Ir (e:=K1 ((C6 (l+n):Nat):Int) 2) yk (ny _ 1 _ f2)) (fw (vI (((C6 (l+n)) / 2:Nat):Int)) (Ir (e:=C3.wrap (((C6 (l+n)) / 2:Nat):Int)) yk (Lm _ e6)) (An rfl (Ik ?_)))))))))))
 refine vo [] (IE (bv.block (IE (bv.block (IE (IE IQ)))))) dm ?_
 intro jY gm
 refine qv 0 rfl rfl (qv 1 rfl rfl (qt (v:=vJ (C6 d)) 2 rfl (λ _ _=>Ir (e:=d) (IA rfl) e6) ?_))
 obtain⟨aJ,aj⟩:=iG (ls:=l0) (i:=C6 d) e9
 refine qt (v:= .pointer (some ⟨ab j,ao j+(C6 d) *2,none⟩)) 3 rfl (λ _ ⟨_,t⟩=>Iz (jL) rfl rfl ((t.rds (i:=0) rfl).addr (i:=C6 d) e6) e6) (qt (v:= .agg (aH.cells aJ).toArray) 4 rfl (λ _ ⟨_,t⟩=>IB rfl (IJ (cs:=(aH.cells aJ)) J0 J1 ((t.rds (i:=0) rfl).elem aH.len aj f2))) (qv 5 rfl rfl (qv 6 rfl rfl ?_)))
 obtain⟨aK,ak⟩:=iG (ls:=l0) (i:=(C6 (l+n)) / 2) e9
 refine qt (v:= .pointer (some ⟨ab j,ao j+((C6 (l+n)) / 2) *2,none⟩)) 7 rfl (λ _ ⟨_,t⟩=>Iz (jL) rfl rfl ((t.rds (i:=0) rfl).addr (i:=(C6 (l+n)) / 2) e6) e6) (qt (v:= .agg (aH.cells aK).toArray) 8 rfl (λ _ ⟨_,t⟩=>IB rfl (IJ (cs:=(aH.cells aK)) J0 J1 ((t.rds (i:=0) rfl).elem aH.len ak f2))) ?_)
 obtain⟨V,au⟩:∃ q,iW aJ aK=q:=⟨_,rfl⟩
 obtain⟨jZ,dM,iT,dN,iU⟩:=Iu gm
 refine qd 9 rfl (IY K2 rfl rfl (nk _ _ aJ aK V dM au) ?_)
 rintro _ j3 ⟨rfl,dO⟩
 have bC:=dN _ _ dO
 refine⟨.inr ⟨_,bC⟩, ?_⟩
 refine qk (.bool (decide (V < 0))) 10 rfl (qt (v:= .bool (decide (¬ (V < 0)))) 11 rfl (λ _ _=>IM (e:= !(decide (V < 0))) yk decide_not.symm) (qn (Iq ?_)))
 by_cases aL:V < 0
 refine jF (dF (Lr aL)) (Il (Mz rfl (Az rfl (C4 (bN ?_)))))
 have gp:=bC.pf []
 exact II (l,(((C6 (l+n)) / 2:Nat):Int),I) ⟨rfl,rfl,rfl,rfl,rfl,rfl,rfl,trivial⟩ (L.2 ⟨gp,e6,e6,et (ai) (et (ip U) (et (ae (aT aj)) (et (ae (aT ak)) (et (ae au) (ip aL)))))⟩) (by show I < I+1; omega)
 refine jT (dT aL) (Il (Mz rfl (fw (vI ((((C6 (l+n)) / 2)+1:Nat):Int)) (Ir (e:=C3.wrap ((((C6 (l+n)) / 2:Nat):Int)+1)) yk f0) (Az rfl (C4 (bN ?_))))))
 have gq:=bC.pf []
 exact II (((((C6 (l+n)) / 2)+1:Nat):Int),n,I) ⟨rfl,rfl,rfl,rfl,rfl,rfl,rfl,trivial⟩ (L.2 ⟨gq,e6,e6,et (ai) (et (ip U) (et (ae (aT aj)) (et (ae (aT ak)) (et (ae au) (iN aL)))))⟩) (by show I < I+1; omega)
 refine jF (dF U) (C5 (IC ?_))
 have dP:fK l0 b d ((C6 (d - b))+1) b d=l:=et (ai) (iN U)
 refine IC (IK (Iq (Ik (sr (Mz rfl (An rfl (bo ?_)))))))
 have gu:=dm.pf []
 obtain⟨gy,av⟩:=rJ λ (f:Int) z (W:Nat) w'=>Own w D w' [row j l0.length u (q4 aH.cells z) 153 2]/\z.length=l0.length/\f<=d/\C6 (f - b) < W/\fM l ((C6 (d - b))+1) d l0=fM l W f z
 refine C1 (λ i:Int × (List aH) × Nat=> [(17,vI i.1),(14,vI l),(0, .slice j l0.length u),(1,vI b),(2,vI d),(3,vI c),(4, .func (.func 166) #[] #[])]) gy (λ i=>i.2.2) (d,l0,(C6 (d - b))+1) ⟨rfl,rfl,rfl,rfl,rfl,rfl,rfl,trivial⟩ (av.2 ⟨gu,by first | omega | (simp only [G4] <;> omega) | (simp only [H0]),e6,e6,rfl⟩) ?_
 rintro ⟨f,z,W⟩ j4 dQ
 obtain⟨dn,iV,iX,iY,bD⟩:=av.1 dQ
 obtain⟨bE,dR⟩:∃ q,W=q+1:=⟨W - 1,e6⟩
 subst dR
 refine Ik (sr (Mz rfl (Mz rfl (Kz (.bool (decide (f > l))) (nt ?_)))))
 by_cases aM:f > l
 refine jT (dT aM) (sk (Ik (bo ?_)))
 refine vo [15,17] (bv.block (IE (IE (bv.block (IE (IE IQ)))))) dn ?_
 intro j5 gz
 refine qv 0 rfl rfl (qt (v:=vJ (C6 f)) 1 rfl (λ _ _=>Ir (e:=f) (IA rfl) e6) (I4 (v:= .slice j l0.length u) 2 rfl e7 (λ _=>IA rfl) (I4 (v:=vI f) 3 rfl e7 (λ _=>IA rfl) (I4 (v:=vJ (C6 (f - 1))) 4 rfl e7 (λ _=>Ir (e:=C3.wrap (f - 1)) yk f0) (qv 5 rfl rfl (qv 6 rfl rfl (qt (v:=vJ (C6 (f - 1))) 7 rfl (λ _ _=>Ir (e:=C3.wrap (f - 1)) yk f0) ?_)))))))
 obtain⟨E,bF⟩:=iG (ls:=z) (i:=C6 (f - 1)) e9
 refine qt (v:= .pointer (some ⟨ab j,ao j+(C6 (f - 1)) *2,none⟩)) 8 rfl (λ _ ⟨_,t⟩=>Iz (jL) rfl rfl ((t.rds (i:=0) rfl).addr (i:=C6 (f - 1)) e6) e6) (qt (v:= .agg (aH.cells E).toArray) 9 rfl (λ _ ⟨_,t⟩=>IB rfl (IJ (cs:=(aH.cells E)) J0 J1 ((t.rds (i:=0) rfl).elem aH.len bF f2))) (qv 10 rfl rfl (qt (v:=vJ (C6 f)) 11 rfl (λ _ _=>Ir (e:=f) (IA rfl) e6) ?_)))
 obtain⟨X,M⟩:=iG (ls:=z) (i:=C6 f) e9
 refine qt (v:= .pointer (some ⟨ab j,ao j+(C6 f) *2,none⟩)) 12 rfl (λ _ ⟨_,t⟩=>Iz (jL) rfl rfl ((t.rds (i:=0) rfl).addr (i:=C6 f) e6) e6) (qt (v:= .agg (aH.cells X).toArray) 13 rfl (λ _ ⟨_,t⟩=>IB rfl (IJ (cs:=(aH.cells X)) J0 J1 ((t.rds (i:=0) rfl).elem aH.len M f2))) (qt (v:= .pointer (some ⟨ab j,ao j+(C6 f) *2,none⟩)) 14 rfl (λ _ ⟨_,t⟩=>Iz (jL) rfl rfl ((t.rds (i:=0) rfl).addr (i:=C6 f) e6) e6) ?_))
 refine qe 15 rfl (Do.storeRow (vs:=(aH.cells E)) (o:=(C6 f) *2+0) (q:=ao j+(C6 f) *2) gz rfl e6 rfl J1 rfl rfl (Lj rfl) (ja aH.len M (Lj rfl)) (jJ (y:=E) aH.len rfl (Lj rfl) M) ?_)
 intro j6 bG
 refine⟨.inl e7, ?_⟩
 obtain⟨kg,iZ⟩:=iG (ls:=z) (i:=C6 (f - 1)) e9
 obtain⟨ko,jb⟩:=dh (ls:=(I3 z (C6 f) E)) (i:=C6 (f - 1)) aH.len f2 (bG.rds (i:=0) rfl) e9
 refine I4 (v:= .pointer (some ⟨ab j,ao j+(C6 (f - 1)) *2,none⟩)) 16 rfl e7 (λ _=>Iz (jL) rfl rfl ((bG.rds (i:=0) rfl).addr (i:=C6 (f - 1)) e6) e6) ?_
 obtain⟨kr,bH⟩:=iG (ls:=(I3 z (C6 f) E)) (i:=C6 (f - 1)) e9
 refine qe 17 rfl (Do.storeRow (vs:=(aH.cells X)) (o:=(C6 (f - 1)) *2+0) (q:=ao j+(C6 (f - 1)) *2) bG rfl e6 rfl J1 rfl rfl (Lj rfl) (ja aH.len bH (Lj rfl)) (jJ (y:=X) aH.len rfl (Lj rfl) bH) ?_)
 intro ku gB
 refine⟨.inl e7, ?_⟩
 refine qn (bN (Iq (Il (Mz rfl (fw (vI (f - 1)) (Ir (e:=C3.wrap (f - 1)) yk g1) (Az rfl (C4 ?_)))))))
 have gD:=gB.pf []
 exact II (f - 1,(I3 (I3 z (C6 f) E) (C6 (f - 1)) X),bE) ⟨rfl,rfl,rfl,rfl,rfl,rfl,rfl,trivial⟩ (av.2 ⟨gD,by first | omega | (simp only [G4] <;> omega) | (simp only [H0]),e6,e6,Eq.trans (bD) (Eq.trans (if_pos aM) (Eq.trans (ae (aT bF)) (ae (aT M))))⟩) (by show bE < bE+1; omega)
 refine jF (dF aM) (C5 (IC ?_))
 have dS:fM l ((C6 (d - b))+1) d l0=z:=et (bD) (iN aM)
 refine IC (IK (Iq (rt (tR (Fin.res (res0 rfl) ?_)))))
 have gF:=dn.pf []
 obtain rfl:=zj hr zq4
 exact⟨rfl,gF,g4⟩
 refine jF (dF T) (sk (sr (Mz rfl (Mz rfl (fw (vI (b+c)) (Ir (e:=C3.wrap (b+c)) yk g1) (fw (vU (C6 (b+c))) (Ir (e:=C7.wrap (b+c)) yk g7) (fw (.int .u64 (((C6 (b+c)) / 2:Nat):Int)) (Ir (e:=K1 ((C6 (b+c):Nat):Int) 2) yk (ny _ 1 _ f2)) (fw (vI (((C6 (b+c)) / 2:Nat):Int)) (Ir (e:=C3.wrap (((C6 (b+c)) / 2:Nat):Int)) yk (Lm _ e6)) (Ar rfl (Mz rfl (Mz rfl (fw (vI ((((C6 (b+c)) / 2:Nat):Int)+d)) (Ir (e:=C3.wrap ((((C6 (b+c)) / 2:Nat):Int)+d)) yk g1) (Ar rfl (Az rfl (An rfl (Ik (sr (Mz rfl (Mz rfl (Kz (.bool (decide (d > (((C6 (b+c)) / 2:Nat):Int)))) (nt ?_)))))))))))))))))))))
 obtain⟨gG,ax⟩:=FI λ (p:Int) (r:Int) w'=>Own w D w' [row j l0.length u (q4 aH.cells l0) 153 2]/\(-9223372036854775808<=p/\p<=9223372036854775807)/\(-9223372036854775808<=r/\r<=9223372036854775807)/\(b<=p/\(((C6 (b+c)) / 2:Nat):Int)+d - c<=p/\p<=r/\r<=(((C6 (b+c)) / 2:Nat):Int)/\r<=d)/\(if d > (((C6 (b+c)) / 2:Nat):Int) then(((((C6 (b+c)) / 2:Nat):Int)+d) - c,(((C6 (b+c)) / 2:Nat):Int)) else(b,d))=(p,r)
 refine Jg (λ i:Int × Int=> [(20,vI i.1),(21,vI i.2),(19,vI ((((C6 (b+c)) / 2:Nat):Int)+d)),(18,vI (((C6 (b+c)) / 2:Nat):Int)),(0, .slice j l0.length u),(1,vI b),(2,vI d),(3,vI c),(4, .func (.func 166) #[] #[])]) gG ?_ ?_
 by_cases aN:d > (((C6 (b+c)) / 2:Nat):Int)
 refine jT (dT aN) (sr (Mz rfl (Mz rfl (fw (vI (((((C6 (b+c)) / 2:Nat):Int)+d) - c)) (Ir (e:=C3.wrap (((((C6 (b+c)) / 2:Nat):Int)+d) - c)) yk g1) (An rfl (Il (Mz rfl (Az rfl (C4 ?_)))))))))
 have gH:=H.pf []
 exact I8 (((((C6 (b+c)) / 2:Nat):Int)+d) - c,(((C6 (b+c)) / 2:Nat):Int)) ⟨rfl,rfl,rfl,rfl,rfl,rfl,rfl,rfl,rfl,trivial⟩ (ax.2 ⟨gH,e6,e6,e6,ip aN⟩)
 refine jF (dF aN) (sr (Mz rfl (An rfl (Il (Mz rfl (Az rfl (C4 ?_)))))))
 have gI:=H.pf []
 exact I8 (b,d) ⟨rfl,rfl,rfl,rfl,rfl,rfl,rfl,rfl,rfl,trivial⟩ (ax.2 ⟨gI,e6,e6,e6,iN aN⟩)
 rintro ⟨p,r⟩ kv dU
 obtain⟨gJ,jc,jd,je,F⟩:=ax.1 dU
 refine sr (Mz rfl (fw (vI (((((C6 (b+c)) / 2:Nat):Int)+d) - 1)) (Ir (e:=C3.wrap (((((C6 (b+c)) / 2:Nat):Int)+d) - 1)) yk g1) (An rfl (Ik (bo ?_)))))
 have gK:=gJ.pf []
 obtain⟨gL,N⟩:=rJ λ (a:Int) (g:Int) (Y:Nat) w'=>Own w D w' [row j l0.length u (q4 aH.cells l0) 153 2]/\(b<=a/\(((C6 (b+c)) / 2:Nat):Int)+d - c<=a/\a<=g/\g<=(((C6 (b+c)) / 2:Nat):Int)/\g<=d)/\C6 (g - a) < Y/\eD l0 b d c ((C6 (r - p))+1) p r=eD l0 b d c Y a g
 refine C1 (λ i:Int × Int × Nat=> [(20,vI i.1),(21,vI i.2.1),(22,vI (((((C6 (b+c)) / 2:Nat):Int)+d) - 1)),(19,vI ((((C6 (b+c)) / 2:Nat):Int)+d)),(18,vI (((C6 (b+c)) / 2:Nat):Int)),(0, .slice j l0.length u),(1,vI b),(2,vI d),(3,vI c),(4, .func (.func 166) #[] #[])]) gL (λ i=>i.2.2) (p,r,(C6 (r - p))+1) ⟨rfl,rfl,rfl,rfl,rfl,rfl,rfl,rfl,rfl,rfl,trivial⟩ (N.2 ⟨gK,e6,e6,rfl⟩) ?_
 rintro ⟨a,g,Y⟩ kw dV
 obtain⟨Z,jg,jh,ay⟩:=N.1 dV
 obtain⟨J,dW⟩:∃ q,Y=q+1:=⟨Y - 1,e6⟩
 subst dW
 refine Ik (sr (Mz rfl (Mz rfl (Kz (.bool (decide (a < g))) (nt ?_)))))
 by_cases aa:a < g
 refine jT (dT aa) (sk (bo (sr (Mz rfl (Mz rfl (fw (vI (a+g)) (Ir (e:=C3.wrap (a+g)) yk g1) (fw (vU (C6 (a+g))) (Ir (e:=C7.wrap (a+g)) yk g7) (fw (.int .u64 (((C6 (a+g)) / 2:Nat):Int)) (Ir (e:=K1 ((C6 (a+g):Nat):Int) 2) yk (ny _ 1 _ f2)) (fw (vI (((C6 (a+g)) / 2:Nat):Int)) (Ir (e:=C3.wrap (((C6 (a+g)) / 2:Nat):Int)) yk (Lm _ e6)) (An rfl (Ik ?_)))))))))))
 refine vo [] (IE (bv.block (IE (bv.block (IE IQ))))) Z ?_
 intro ky gM
 refine qv 0 rfl rfl (qv 1 rfl rfl (qv 2 rfl rfl (qv 3 rfl rfl (qt (v:=vI ((C6 ((((((C6 (b+c)) / 2:Nat):Int)+d) - 1) - (((C6 (a+g)) / 2:Nat):Int)):Nat):Int)) 4 rfl (λ _ _=>Ir (e:=C3.wrap ((((((C6 (b+c)) / 2:Nat):Int)+d) - 1) - (((C6 (a+g)) / 2:Nat):Int))) yk f0) ?_))))
 obtain⟨aO,az⟩:=iG (ls:=l0) (i:=C6 ((((((C6 (b+c)) / 2:Nat):Int)+d) - 1) - (((C6 (a+g)) / 2:Nat):Int))) e9
 refine qt (v:= .pointer (some ⟨ab j,ao j+(C6 ((((((C6 (b+c)) / 2:Nat):Int)+d) - 1) - (((C6 (a+g)) / 2:Nat):Int))) *2,none⟩)) 5 rfl (λ _ ⟨_,t⟩=>Iz (jL) rfl rfl ((t.rds (i:=0) rfl).addr (i:=C6 ((((((C6 (b+c)) / 2:Nat):Int)+d) - 1) - (((C6 (a+g)) / 2:Nat):Int))) e6) e6) (qt (v:= .agg (aH.cells aO).toArray) 6 rfl (λ _ ⟨_,t⟩=>IB rfl (IJ (cs:=(aH.cells aO)) J0 J1 ((t.rds (i:=0) rfl).elem aH.len az f2))) (qv 7 rfl rfl (qv 8 rfl rfl ?_)))
 obtain⟨aP,aA⟩:=iG (ls:=l0) (i:=(C6 (a+g)) / 2) e9
 refine qt (v:= .pointer (some ⟨ab j,ao j+((C6 (a+g)) / 2) *2,none⟩)) 9 rfl (λ _ ⟨_,t⟩=>Iz (jL) rfl rfl ((t.rds (i:=0) rfl).addr (i:=(C6 (a+g)) / 2) e6) e6) (qt (v:= .agg (aH.cells aP).toArray) 10 rfl (λ _ ⟨_,t⟩=>IB rfl (IJ (cs:=(aH.cells aP)) J0 J1 ((t.rds (i:=0) rfl).elem aH.len aA f2))) ?_)
 obtain⟨af,aB⟩:∃ q,iW aO aP=q:=⟨_,rfl⟩
 obtain⟨kz,dX,ji,dY,jk⟩:=Iu gM
 refine qd 11 rfl (IY K2 rfl rfl (nk _ _ aO aP af dX aB) ?_)
 rintro _ kC ⟨rfl,dZ⟩
 have bI:=dY _ _ dZ
 refine⟨.inr ⟨_,bI⟩, ?_⟩
 refine qk (.bool (decide (af < 0))) 12 rfl (qt (v:= .bool (decide (¬ (af < 0)))) 13 rfl (λ _ _=>IM (e:= !(decide (af < 0))) yk decide_not.symm) (qn (Iq ?_)))
 by_cases aQ:af < 0
 refine jF (dF (Lr aQ)) (Il (Mz rfl (Az rfl (C4 (bN ?_)))))
 have gN:=bI.pf []
 exact II (a,(((C6 (a+g)) / 2:Nat):Int),J) ⟨rfl,rfl,rfl,rfl,rfl,rfl,rfl,rfl,rfl,rfl,trivial⟩ (N.2 ⟨gN,e6,e6,et (ay) (et (ip aa) (et (ae (aT az)) (et (ae (aT aA)) (et (ae aB) (ip aQ)))))⟩) (by show J < J+1; omega)
 refine jT (dT aQ) (Il (Mz rfl (fw (vI ((((C6 (a+g)) / 2)+1:Nat):Int)) (Ir (e:=C3.wrap ((((C6 (a+g)) / 2:Nat):Int)+1)) yk f0) (Az rfl (C4 (bN ?_))))))
 have gP:=bI.pf []
 exact II (((((C6 (a+g)) / 2)+1:Nat):Int),g,J) ⟨rfl,rfl,rfl,rfl,rfl,rfl,rfl,rfl,rfl,rfl,trivial⟩ (N.2 ⟨gP,e6,e6,et (ay) (et (ip aa) (et (ae (aT az)) (et (ae (aT aA)) (et (ae aB) (iN aQ)))))⟩) (by show J < J+1; omega)
 refine jF (dF aa) (C5 (IC ?_))
 have G:eD l0 b d c ((C6 (r - p))+1) p r=a:=et (ay) (iN aa)
 refine IC (IK (Iq (sr (Mz rfl (Mz rfl (fw (vI (((((C6 (b+c)) / 2:Nat):Int)+d) - a)) (Ir (e:=C3.wrap (((((C6 (b+c)) / 2:Nat):Int)+d) - a)) yk g1) (An rfl (Ik (sr (Mz rfl (Mz rfl (Kz (.bool (decide (a < d))) (Mz rfl ?_)))))))))))))
 by_cases x:a < d
 refine gw (vI d) (dT x) (IA rfl) (gw (vI (((((C6 (b+c)) / 2:Nat):Int)+d) - a)) (dT x) (IA rfl) (Gz (.bool (decide (d < ((((C6 (b+c)) / 2:Nat):Int)+d) - a))) (dT x) (fw (.bool (decide (d < ((((C6 (b+c)) / 2:Nat):Int)+d) - a))) (Iw rfl (dT x) rfl) (nt ?_))))
 obtain⟨gQ,aC⟩:=lF λ s w'=>Own w D w' [row j l0.length u (q4 aH.cells s) 153 2]/\s.length=l0.length/\(if d < ((((C6 (b+c)) / 2:Nat):Int)+d) - a then bnd (ib l0 a d (((((C6 (b+c)) / 2:Nat):Int)+d) - a)) λ d9=>d9 else l0)=s
 refine Jg (λ i:(List aH)=> [(24,vI (((((C6 (b+c)) / 2:Nat):Int)+d) - a)),(20,vI a),(18,vI (((C6 (b+c)) / 2:Nat):Int)),(0, .slice j l0.length u),(1,vI b),(3,vI c),(4, .func (.func 166) #[] #[])]) gQ ?_ ?_
 by_cases aR:d < ((((C6 (b+c)) / 2:Nat):Int)+d) - a
 refine jT (dT aR) (Il (Mz rfl (Mz rfl (Mz rfl (Mz rfl (Mz rfl ?_))))))
 obtain⟨bJ,bK⟩:∃ q,ib l0 a d (((((C6 (b+c)) / 2:Nat):Int)+d) - a)=q:=⟨_,rfl⟩
 obtain⟨kD,ed,jl,ek,jm⟩:=IZ Z
 refine cl Tryz.call209 (qm _ _ j l0.length u l0 a d (((((C6 (b+c)) / 2:Nat):Int)+d) - a) bJ ed rfl e6 e6 bK) ?_
 rintro _ kE ⟨rfl,eu,bL⟩
 have dw:=ek _ _ eu
 have jo:=zr 0 dw
 replace bL:bJ.length=l0.length:=bL
 refine C4 ?_
 have gT:=dw.pf []
 exact I8 bJ ⟨rfl,rfl,rfl,rfl,rfl,rfl,rfl,trivial⟩ (aC.2 ⟨gT,by first | omega | (simp only [G4] <;> omega) | (simp only [H0]),Eq.trans (if_pos aR) (ae bK)⟩)
 refine jF (dF aR) (IU ?_)
 have gU:=Z.pf []
 exact I8 l0 ⟨rfl,rfl,rfl,rfl,rfl,rfl,rfl,trivial⟩ (aC.2 ⟨gU,by first | omega | (simp only [G4] <;> omega) | (simp only [H0]),if_neg aR⟩)
 rintro s kF eB
 obtain⟨aS,jq,O⟩:=aC.1 eB
 refine Ik (sr (Mz rfl (Mz rfl (Kz (.bool (decide (b < a))) (Mz rfl ?_)))))
 by_cases A:b < a
 refine gw (vI a) (dT A) (IA rfl) (gw (vI (((C6 (b+c)) / 2:Nat):Int)) (dT A) (IA rfl) (Gz (.bool (decide (a < (((C6 (b+c)) / 2:Nat):Int)))) (dT A) (fw (.bool (decide (a < (((C6 (b+c)) / 2:Nat):Int)))) (Iw rfl (dT A) rfl) (nt ?_))))
 obtain⟨gV,aD⟩:=lF λ B w'=>Own w D w' [row j l0.length u (q4 aH.cells B) 153 2]/\B.length=l0.length/\(if a < (((C6 (b+c)) / 2:Nat):Int) then bnd (mH s b a (((C6 (b+c)) / 2:Nat):Int)) λ eF=>eF else s)=B
 refine Jg (λ i:(List aH)=> [(24,vI (((((C6 (b+c)) / 2:Nat):Int)+d) - a)),(18,vI (((C6 (b+c)) / 2:Nat):Int)),(0, .slice j l0.length u),(3,vI c),(4, .func (.func 166) #[] #[])]) gV ?_ ?_
 by_cases aU:a < (((C6 (b+c)) / 2:Nat):Int)
 refine jT (dT aU) (Il (Mz rfl (Mz rfl (Mz rfl (Mz rfl (Mz rfl ?_))))))
 obtain⟨bM,bO⟩:∃ q,mH s b a (((C6 (b+c)) / 2:Nat):Int)=q:=⟨_,rfl⟩
 obtain⟨kG,eG,jr,eH,jv⟩:=IZ aS
 refine cl L0 (self_ _ _ j l0.length u s b a (((C6 (b+c)) / 2:Nat):Int) bM eG f1 e6 e6 e6 bO) ?_
 rintro _ kH ⟨rfl,eO,bP⟩
 have dx:=eH _ _ eO
 have jw:=zr 0 dx
 replace bP:bM.length=s.length:=bP
 refine C4 ?_
 have gW:=dx.pf []
 exact I8 bM ⟨rfl,rfl,rfl,rfl,rfl,trivial⟩ (aD.2 ⟨gW,by first | omega | (simp only [G4] <;> omega) | (simp only [H0]),Eq.trans (if_pos aU) (ae bO)⟩)
 refine jF (dF aU) (IU ?_)
 have gX:=aS.pf []
 exact I8 s ⟨rfl,rfl,rfl,rfl,rfl,trivial⟩ (aD.2 ⟨gX,by first | omega | (simp only [G4] <;> omega) | (simp only [H0]),if_neg aU⟩)
 rintro B kI eP
 obtain⟨dz,jy,bQ⟩:=aD.1 eP
 refine sr (Mz rfl (Mz rfl (Kz (.bool (decide ((((C6 (b+c)) / 2:Nat):Int) < ((((C6 (b+c)) / 2:Nat):Int)+d) - a))) (Mz rfl ?_))))
 have P:(decide ((((C6 (b+c)) / 2:Nat):Int) < ((((C6 (b+c)) / 2:Nat):Int)+d) - a))=true:=(dT e6)
 refine I7 (v:=vI (((((C6 (b+c)) / 2:Nat):Int)+d) - a)) rfl rfl P rfl (IA rfl) (I7 (v:=vI c) rfl rfl P rfl (IA rfl) (Gz (.bool (decide (((((C6 (b+c)) / 2:Nat):Int)+d) - a < c))) P (fw (.bool (decide (((((C6 (b+c)) / 2:Nat):Int)+d) - a < c))) (Iw rfl P rfl) (nt ?_))))
 by_cases aV:((((C6 (b+c)) / 2:Nat):Int)+d) - a < c
 refine jT (dT aV) (Il (Mz rfl (Mz rfl (Mz rfl (Mz rfl (Mz rfl ?_))))))
 obtain⟨bR,bS⟩:∃ q,mH B (((C6 (b+c)) / 2:Nat):Int) (((((C6 (b+c)) / 2:Nat):Int)+d) - a) c=q:=⟨_,rfl⟩
 obtain⟨kJ,eQ,jA,eT,jB⟩:=IZ dz
 refine cl L0 (self_ _ _ j l0.length u B (((C6 (b+c)) / 2:Nat):Int) (((((C6 (b+c)) / 2:Nat):Int)+d) - a) c bR eQ f1 e6 e6 e6 bS) ?_
 rintro _ kK ⟨rfl,eU,bT⟩
 have dB:=eT _ _ eU
 have jC:=zr 0 dB
 replace bT:bR.length=B.length:=bT
 refine C4 (IL (res0 rfl) ?_)
 have gY:=dB.pf []
 obtain rfl:=zj hr zq10
 exact⟨rfl,gY,g4⟩
 refine jF (dF aV) (IU (IL (res0 rfl) ?_))
 have gZ:=dz.pf []
 obtain rfl:=zj hr zq9
 exact⟨rfl,gZ,g4⟩
 refine Sz (dF A) (Sz (dF A) (Sz (dF A) (fw (.bool false) (Io rfl (dF A) rfl) (nt (jf (sk (sr (Mz rfl (Mz rfl (Kz (.bool (decide ((((C6 (b+c)) / 2:Nat):Int) < ((((C6 (b+c)) / 2:Nat):Int)+d) - a))) (Mz rfl ?_)))))))))))
 have Q:(decide ((((C6 (b+c)) / 2:Nat):Int) < ((((C6 (b+c)) / 2:Nat):Int)+d) - a))=true:=(dT e6)
 refine I7 (v:=vI (((((C6 (b+c)) / 2:Nat):Int)+d) - a)) rfl rfl Q rfl (IA rfl) (I7 (v:=vI c) rfl rfl Q rfl (IA rfl) (Gz (.bool (decide (((((C6 (b+c)) / 2:Nat):Int)+d) - a < c))) Q (fw (.bool (decide (((((C6 (b+c)) / 2:Nat):Int)+d) - a < c))) (Iw rfl Q rfl) (nt ?_))))
 by_cases aW:((((C6 (b+c)) / 2:Nat):Int)+d) - a < c
 refine jT (dT aW) (Il (Mz rfl (Mz rfl (Mz rfl (Mz rfl (Mz rfl ?_))))))
 obtain⟨bU,bV⟩:∃ q,mH s (((C6 (b+c)) / 2:Nat):Int) (((((C6 (b+c)) / 2:Nat):Int)+d) - a) c=q:=⟨_,rfl⟩
 obtain⟨kL,eX,jD,eY,jE⟩:=IZ aS
 refine cl L0 (self_ _ _ j l0.length u s (((C6 (b+c)) / 2:Nat):Int) (((((C6 (b+c)) / 2:Nat):Int)+d) - a) c bU eX f1 e6 e6 e6 bV) ?_
 rintro _ kM ⟨rfl,eZ,bW⟩
 have dC:=eY _ _ eZ
 have jG:=zr 0 dC
 replace bW:bU.length=s.length:=bW
 refine C4 (IL (res0 rfl) ?_)
 have ic:=dC.pf []
 obtain rfl:=zj hr zq9
 exact⟨rfl,ic,g4⟩
 refine jF (dF aW) (IU (IL (res0 rfl) ?_))
 have ig:=aS.pf []
 obtain rfl:=zj hr zq8
 exact⟨rfl,ig,g4⟩
 refine Sz (dF x) (Sz (dF x) (Sz (dF x) (fw (.bool false) (Io rfl (dF x) rfl) (nt (jf (sk (Ik (sr (Mz rfl (Mz rfl (Kz (.bool (decide (b < a))) (Mz rfl ?_))))))))))))
 have R:(decide (b < a))=true:=(dT e6)
 refine I7 (v:=vI a) rfl rfl R rfl (IA rfl) (I7 (v:=vI (((C6 (b+c)) / 2:Nat):Int)) rfl rfl R rfl (IA rfl) (Gz (.bool (decide (a < (((C6 (b+c)) / 2:Nat):Int)))) R (fw (.bool (decide (a < (((C6 (b+c)) / 2:Nat):Int)))) (Iw rfl R rfl) (nt ?_))))
 obtain⟨ik,aF⟩:=lF λ ag w'=>Own w D w' [row j l0.length u (q4 aH.cells ag) 153 2]/\ag.length=l0.length/\(if a < (((C6 (b+c)) / 2:Nat):Int) then bnd (mH l0 b a (((C6 (b+c)) / 2:Nat):Int)) λ fe=>fe else l0)=ag
 refine Jg (λ i:(List aH)=> [(24,vI (((((C6 (b+c)) / 2:Nat):Int)+d) - a)),(18,vI (((C6 (b+c)) / 2:Nat):Int)),(0, .slice j l0.length u),(3,vI c),(4, .func (.func 166) #[] #[])]) ik ?_ ?_
 by_cases aX:a < (((C6 (b+c)) / 2:Nat):Int)
 refine jT (dT aX) (Il (Mz rfl (Mz rfl (Mz rfl (Mz rfl (Mz rfl ?_))))))
 obtain⟨bX,bY⟩:∃ q,mH l0 b a (((C6 (b+c)) / 2:Nat):Int)=q:=⟨_,rfl⟩
 obtain⟨kN,fo,jH,fq,jI⟩:=IZ Z
 refine cl L0 (self_ _ _ j l0.length u l0 b a (((C6 (b+c)) / 2:Nat):Int) bX fo rfl e6 e6 e6 bY) ?_
 rintro _ kP ⟨rfl,fu,bZ⟩
 have dD:=fq _ _ fu
 have jK:=zr 0 dD
 replace bZ:bX.length=l0.length:=bZ
 refine C4 ?_
 have il:=dD.pf []
 exact I8 bX ⟨rfl,rfl,rfl,rfl,rfl,trivial⟩ (aF.2 ⟨il,by first | omega | (simp only [G4] <;> omega) | (simp only [H0]),Eq.trans (if_pos aX) (ae bY)⟩)
 refine jF (dF aX) (IU ?_)
 have iq:=Z.pf []
 exact I8 l0 ⟨rfl,rfl,rfl,rfl,rfl,trivial⟩ (aF.2 ⟨iq,by first | omega | (simp only [G4] <;> omega) | (simp only [H0]),if_neg aX⟩)
 rintro ag kQ fA
 obtain⟨iw,jM,fB⟩:=aF.1 fA
 refine sr (Mz rfl (Mz rfl (Kz (.bool (decide ((((C6 (b+c)) / 2:Nat):Int) < ((((C6 (b+c)) / 2:Nat):Int)+d) - a))) (Mz rfl ?_))))
 have S:(decide ((((C6 (b+c)) / 2:Nat):Int) < ((((C6 (b+c)) / 2:Nat):Int)+d) - a))=false:=(dF e6)
 refine Sz S (Sz S (Sz S (fw (.bool false) (Io rfl S rfl) (nt (jf (IU (IL (res0 rfl) ?_)))))))
 have iy:=iw.pf []
 obtain rfl:=zj hr zq6
 exact⟨rfl,iy,g4⟩
end
open Int renaming eq_ofNat_of_zero_le->L5,toNat_natCast->L4
open List renaming append_assoc->q5,drop_left->L3,length_eq_one_iff->L6,take_left->t5
theorem vQ {α β:Type} (x:α) (f:α->β):bnd x f=f x:=rfl
theorem BD (a q:List aH) (p:aH):B8 (a++p::q) a.length default=p:=by simp
theorem BF (a q:List aH) (p y:aH):List.set (a++p::q) a.length y=a++y::q:=by simp
theorem Al (P X Y Q:List aH) {a m b:Nat} (ha:a=P.length) (hm:m=a+X.length) (hb:b=m+Y.length):yY (P++(X++(Y++Q))) a m b=P++(Y++(X++Q)):=by
  subst hb; subst hm; subst ha
  have c:r3 P.length (P++(X++(Y++Q)))=P:=t5
  have d:r3 (P.length+X.length) (P++(X++(Y++Q)))=P++X:=by
    rw [<- q5, <- o2]; exact t5
  have e:r3 (P.length+X.length+Y.length) (P++(X++(Y++Q)))=P++(X++Y):=by
    have:P++(X++(Y++Q))=(P++(X++Y))++Q:=by simp
    rw [this,show P.length+X.length+Y.length=(P++(X++Y)).length by simp; omega]; exact t5
  have f:r4 (P.length+X.length+Y.length) (P++(X++(Y++Q)))=Q:=by
    have:P++(X++(Y++Q))=(P++(X++Y))++Q:=by simp
    rw [this,show P.length+X.length+Y.length=(P++(X++Y)).length by simp; omega]; exact L3
  have g:r4 (P.length+X.length) (P++(X++Y))=Y:=by
    rw [<- q5, <- o2]; exact L3
  have h:r4 P.length (P++X)=X:=L3
  unfold yY
  rw [c,e,g,d,h,f]
theorem FO (l:List aH) {a m b:Nat} (e:a<=m) (f:m<=b) (g:b<=l.length):∃ P X Y Q,l=P++(X++(Y++Q))/\P.length=a/\X.length=m - a/\Y.length=b - m:=by
  refine⟨r3 a l,r3 (m - a) (r4 a l),r3 (b - m) (r4 m l),r4 b l, ?_, ?_, ?_, ?_⟩
  . have c:r3 (b - m) (r4 m l)++r4 b l=r4 m l:=by
      have:=s7 (b - m) (r4 m l)
      rw [List.drop_drop,show m+(b - m)=b by omega] at this
      exact this
    have d:r3 (m - a) (r4 a l)++r4 m l=r4 a l:=by
      have:=s7 (m - a) (r4 a l)
      rw [List.drop_drop,show a+(m - a)=m by omega] at this
      exact this
    rw [c,d,s7]
  . rw [o0]; omega
  . rw [o0,o1]; omega
  . rw [o0,o1]; omega
theorem EJ (b c d:Int):∀ (X Z P Y Q:List aH) (k q:Nat),X.length=Z.length->X.length < q->b+(k:Int)=(P.length:Int)->c+(k:Int)=((P.length+X.length+Y.length:Nat):Int)->d=((k+X.length:Nat):Int)->
    fG b c d q k (P++(X++(Y++(Z++Q))))=P++(Z++(Y++(X++Q)))
  | _,_,_,_,_,_,0,_,h,_,_,_=>e6
  | [], [],P,Y,Q,k,q+1,_,_,_,_,a=>by
    rw [fG,if_neg (by rw [a]; simp)]
  | [],z::Z,_,_,_,_,q+1,h,_,_,_,_=>by simp at h
  | x::X, [],_,_,_,_,q+1,h,_,_,_,_=>by simp at h
  | x::X,z::Z,P,Y,Q,k,q+1,g,i,j,f,a=>by
    simp only [s1] at g i f a
    rw [fG,if_pos (by rw [a]; omega)]
    simp only [vQ]
    rw [j,f,L4,L4]
    have l:P++(x::X++(Y++(z::Z++Q)))=(P++(x::X++Y))++z::(Z++Q):=by simp
    have m:(P++(x::X++Y)).length=P.length+(X.length+1)+Y.length:=by simp; omega
    have n:B8 (P++(x::X++(Y++(z::Z++Q)))) (P.length+(X.length+1)+Y.length) default=z:=by rw [l, <- m]; exact BD _ _ _
    have o:B8 (P++(x::X++(Y++(z::Z++Q)))) P.length default=x:=BD P (X++(Y++(z::Z++Q))) x
    have p:List.set (P++(x::X++(Y++(z::Z++Q)))) P.length z=(P++(z::X++Y))++z::(Z++Q):=by
      rw [show P++(x::X++(Y++(z::Z++Q)))=P++x::(X++(Y++(z::Z++Q))) from rfl,BF]; simp
    have r:(P++(z::X++Y)).length=P.length+(X.length+1)+Y.length:=by simp; omega
    rw [n,o,show (aH.mk z.aZ z.aG)=z from rfl,show (aH.mk x.aZ x.aG)=x from rfl,p, <- r,BF]
    have e:(P++(z::X++Y))++x::(Z++Q)=(P++ [z])++(X++((Y++ [x])++(Z++Q))):=by simp
    rw [e,EJ b c d X Z (P++ [z]) (Y++ [x]) Q (k+1) q e6 e6 l3 l3 e6]
    simp
theorem yE (P X Y Z Q:List aH) (h:X.length=Z.length) {a b c:Int} (d:a=(P.length:Int)) (e:b=((P.length+X.length+Y.length:Nat):Int)) (f:c=(X.length:Int)):eT (P++(X++(Y++(Z++Q)))) a b c=P++(Z++(Y++(X++Q))):=by
  unfold eT
  rw [vQ]
  exact EJ a b c X Z P Y Q 0 _ h e6 e6 e6 e6
theorem Ed (m:Nat):∀ (q:Nat) (P X Y Q:List aH),X.length+Y.length < q->1<=X.length->1<=Y.length->P.length+X.length=m->
    eT (cO (m:Int) q (X.length:Int) (Y.length:Int) (P++(X++(Y++Q)))).2 ((m:Int) - (cO (m:Int) q (X.length:Int) (Y.length:Int) (P++(X++(Y++Q)))).1) (m:Int) (cO (m:Int) q (X.length:Int) (Y.length:Int) (P++(X++(Y++Q)))).1=P++(Y++(X++Q))
  | 0,_,_,_,_,h,_,_,_=>e6
  | q+1,P,X,Y,Q,h,hx,hy,hm=>by
    by_cases g:X.length=Y.length
    . have e:cO (m:Int) (q+1) (X.length:Int) (Y.length:Int) (P++(X++(Y++Q)))=((X.length:Int),P++(X++(Y++Q))):=by
        rw [cO,if_pos e6]
      rw [e]
      exact yE P X [] Y Q g e6 l3 rfl
    . by_cases i:X.length > Y.length
      . obtain⟨a,b,rfl,f⟩:∃ a b,X=a++b/\a.length=Y.length:=⟨r3 Y.length X,r4 Y.length X,(s7 _ _).symm,by rw [o0]; omega⟩
        rw [o2] at h hx hm g i
        have e:cO (m:Int) (q+1) ((a++b).length:Int) (Y.length:Int) (P++((a++b)++(Y++Q)))=cO (m:Int) q (b.length:Int) (a.length:Int) ((P++Y)++(b++(a++Q))):=by
          rw [cO,if_neg i6,if_pos i6,vQ]
          rw [show P++((a++b)++(Y++Q))=P++(a++(b++(Y++Q))) by simp,yE P a b Y Q f i6 e6 e6]
          rw [show (((a++b).length:Nat):Int) - (Y.length:Int)=(b.length:Int) by rw [o2]; omega,f]
          simp
        rw [e,Ed m q (P++Y) b a Q e6 e6 e6 i6]
        simp
      . obtain⟨c,d,rfl,f⟩:∃ c d,Y=c++d/\d.length=X.length:=⟨r3 (Y.length - X.length) Y,r4 (Y.length - X.length) Y,(s7 _ _).symm,by rw [o1]; omega⟩
        rw [o2] at h hy g i
        have e:cO (m:Int) (q+1) (X.length:Int) ((c++d).length:Int) (P++(X++((c++d)++Q)))=cO (m:Int) q (d.length:Int) (c.length:Int) (P++(d++(c++(X++Q)))):=by
          rw [cO,if_neg i6,if_neg i6,vQ]
          rw [show P++(X++((c++d)++Q))=P++(X++(c++(d++Q))) by simp,yE P X c d Q f.symm e6 i6 rfl]
          rw [show (((c++d).length:Nat):Int) - (X.length:Int)=(c.length:Int) by rw [o2]; omega,f]
        rw [e,Ed m q P d c (X++Q) e6 e6 e6 e6]
        simp
theorem Di (l:List aH) {a m b:Nat} (c:a < m) (d:m < b) (e:b<=l.length):ib l (a:Int) (m:Int) (b:Int)=yY l a m b:=by
  obtain⟨P,X,Y,Q,rfl,f,g,h⟩:=FO l (Nat.le_of_lt c) (Nat.le_of_lt d) e
  rw [Al P X Y Q f.symm e6 e6]
  unfold ib
  simp only [vQ]
  have:=Ed m ((C6 (((m:Int) - (a:Int))+((b:Int) - (m:Int))))+1) P X Y Q e6 e6 e6 e6
  rw [show (X.length:Int)=(m:Int) - (a:Int) by omega,show (Y.length:Int)=(b:Int) - (m:Int) by omega] at this
  exact this
theorem He (i:Int):∀ (Y P Q:List aH) (x:aH) (q:Nat) (k:Int),Y.length < q->k=(P.length:Int)->i=((P.length+Y.length+1:Nat):Int)->fJ i q k (P++x::(Y++Q))=P++(Y++x::Q)
  | _,_,_,_,0,_,h,_,_=>e6
  | [],P,Q,x,q+1,k,_,hk,hi=>by
    rw [fJ,if_neg (by rw [hk,hi]; simp)]; rfl
  | y::Y,P,Q,x,q+1,k,h,hk,hi=>by
    simp only [s1] at h hi
    rw [fJ,if_pos e6]
    simp only [vQ]
    rw [show C6 (k+1)=(P++ [x]).length by simp; omega,show C6 k=P.length by omega]
    have a:P++x::(y::Y++Q)=(P++ [x])++y::(Y++Q):=by simp
    rw [show B8 (P++x::(y::Y++Q)) (P++ [x]).length default=y by rw [a]; exact BD _ _ _,BD,show (aH.mk y.aZ y.aG)=y from rfl,show (aH.mk x.aZ x.aG)=x from rfl,BF]
    rw [show P++y::(y::Y++Q)=(P++ [y])++y::(Y++Q) by simp,show (P++ [x]).length=(P++ [y]).length by simp,BF]
    rw [He i Y (P++ [y]) Q x q (k+1) e6 l3 l3]
    simp
theorem Hf (i:Int):∀ (n:Nat) (X P Q:List aH) (x:aH) (q:Nat) (k:Int),X.length=n->X.length < q->i=(P.length:Int)->k=((P.length+X.length:Nat):Int)->fM i q k (P++(X++x::Q))=P++x::(X++Q)
  | _,_,_,_,_,0,_,_,h,_,_=>e6
  | 0,X,P,Q,x,q+1,k,hn,_,hi,hk=>by
    have e:X= []:=List.eq_nil_of_length_eq_zero hn
    subst e
    rw [fM,if_neg (by rw [hk,hi]; simp)]; rfl
  | n+1,X,P,Q,x,q+1,k,hn,h,hi,hk=>by
    obtain⟨X',y,rfl⟩:∃ X' y,X=X'++ [y]:=⟨X.dropLast,X.getLast (λ e=>by rw [e] at hn; cases hn),(List.dropLast_concat_getLast _).symm⟩
    rw [o2,List.length_singleton] at hn h hk
    rw [fM,if_pos e6]
    simp only [vQ]
    rw [show C6 (k - 1)=(P++X').length by simp; omega,show C6 k=((P++X')++ [y]).length by simp; omega]
    have b:P++((X'++ [y])++x::Q)=(P++X')++y::(x::Q):=by simp
    have a:P++((X'++ [y])++x::Q)=((P++X')++ [y])++x::Q:=by simp
    rw [show B8 (P++((X'++ [y])++x::Q)) (P++X').length default=y by rw [b]; exact BD _ _ _,show B8 (P++((X'++ [y])++x::Q)) ((P++X')++ [y]).length default=x by rw [a]; exact BD _ _ _]
    rw [show (aH.mk y.aZ y.aG)=y from rfl,show (aH.mk x.aZ x.aG)=x from rfl,a,BF]
    rw [show ((P++X')++ [y])++y::Q=(P++X')++y::(y::Q) by simp,BF]
    rw [show (P++X')++x::(y::Q)=P++(X'++x::(y::Q)) by simp,Hf i n X' P (y::Q) x q (k - 1) e6 e6 hi e6]
    simp
theorem uU {x y:aH}:iW x y < 0↔mM x y=true:=by unfold mM; rw [decide_eq_true_eq]
theorem wF (P:Nat->Bool):∀ (f i j:Nat),i<=j->i<=bs P f i j/\bs P f i j<=j
  | 0,i,j,h=>⟨Nat.le_refl _,h⟩
  | f+1,i,j,h=>by
    unfold bs
    by_cases c:i < j
    . rw [if_pos c]
      split
      . have:=wF P f ((i+j) / 2+1) j e6; omega
      . have:=wF P f i ((i+j) / 2) e6; omega
    . rw [if_neg c]; omega
theorem FP (l:List aH) (i:Nat):B8 l i default=at_ l i:=rfl
theorem FQ (l:List aH) (a:Nat) (b:Int):∀ (q i j:Nat),j - i < q->fI l (a:Int) b q (i:Int) (j:Int)=((bs (λ h=>mM (at_ l h) (at_ l a)) q i j:Nat):Int)
  | 0,_,_,h=>e6
  | q+1,i,j,h=>by
    rw [fI,bs]
    simp only [vQ,FP]
    rw [show C6 ((i:Int)+(j:Int))=i+j by omega,L4]
    by_cases c:i < j
    . rw [if_pos e6,if_pos c]
      by_cases t:mM (at_ l ((i+j) / 2)) (at_ l a)=true
      . rw [if_pos (uU.2 t),if_pos t,FQ l a b q _ j e6]
      . rw [if_neg (λ e=>t (uU.1 e)),if_neg t,FQ l a b q i _ e6]
    . rw [if_neg e6,if_neg c]
theorem FR (l:List aH) (m:Nat) (a:Int):∀ (q i j:Nat),j - i < q->fK l a (m:Int) q (i:Int) (j:Int)=((bs (λ h=> !mM (at_ l m) (at_ l h)) q i j:Nat):Int)
  | 0,_,_,h=>e6
  | q+1,i,j,h=>by
    rw [fK,bs]
    simp only [vQ,FP]
    rw [show C6 ((i:Int)+(j:Int))=i+j by omega,L4]
    by_cases c:i < j
    . rw [if_pos e6,if_pos c]
      by_cases t:mM (at_ l m) (at_ l ((i+j) / 2))=true
      . rw [if_pos (uU.2 t),if_neg (by rw [t]; decide),FR l m a q i _ e6]
      . rw [if_neg (λ e=>t (uU.1 e)),if_pos (by rw [Bool.eq_false_iff.2 t]; rfl),FR l m a q _ j e6]
    . rw [if_neg e6,if_neg c]
theorem FT (l:List aH) (a m b:Nat) (hb:m < b):∀ (q i j:Nat),j - i < q->j<=(a+b) / 2->eD l (a:Int) (m:Int) (b:Int) q (i:Int) (j:Int)=((bs (λ c=> !mM (at_ l ((a+b) / 2+m - 1 - c)) (at_ l c)) q i j:Nat):Int)
  | 0,_,_,h,_=>e6
  | q+1,i,j,h,hj=>by
    rw [eD,bs]
    simp only [vQ,FP]
    rw [show C6 ((i:Int)+(j:Int))=i+j by omega,show C6 ((a:Int)+(b:Int))=a+b by omega]
    by_cases c:i < j
    . rw [if_pos e6,if_pos c]
      rw [show C6 ((((((a+b) / 2:Nat):Int)+(m:Int)) - 1) - (((i+j) / 2:Nat):Int))=(a+b) / 2+m - 1 - (i+j) / 2 by omega]
      by_cases t:mM (at_ l ((a+b) / 2+m - 1 - (i+j) / 2)) (at_ l ((i+j) / 2))=true
      . rw [if_pos (uU.2 t),if_neg (by rw [t]; decide),FT l a m b hb q i _ e6 e6]
      . rw [if_neg (λ e=>t (uU.1 e)),if_pos (by rw [Bool.eq_false_iff.2 t]; rfl),FT l a m b hb q _ j e6 hj]
    . rw [if_neg e6,if_neg c]
theorem xn:∀ (f:Nat) (l:List aH) (a m b:Nat),a < m->m < b->b - a<=f->qo (f+1) l a m b=qo f l a m b
  | 0,_,_,_,_,_,_,_=>e6
  | f+1,l,a,m,b,h,i,j=>by
    rw [qo]
    conv=>rhs; rw [qo]
    by_cases d:m - a=1
    . rw [if_pos d,if_pos d]
    . rw [if_neg d,if_neg d]
      by_cases e:b - m=1
      . rw [if_pos e,if_pos e]
      . rw [if_neg e,if_neg e]
        dsimp only
        generalize (if m > (a+b) / 2 then bs (λ c=> !mM (at_ l ((a+b) / 2+m - 1 - c)) (at_ l c)) ((a+b) / 2 - ((a+b) / 2+m - b)+1) ((a+b) / 2+m - b) ((a+b) / 2) else bs (λ c=> !mM (at_ l ((a+b) / 2+m - 1 - c)) (at_ l c)) (m - a+1) a m)=s
        have g:∀ l1,(if a < s/\s < (a+b) / 2 then qo (f+1) l1 a s ((a+b) / 2) else l1)=if a < s/\s < (a+b) / 2 then qo f l1 a s ((a+b) / 2) else l1:=λ l1=>by
          by_cases c:a < s/\s < (a+b) / 2
          . rw [if_pos c,if_pos c,xn f l1 a s _ c.1 c.2 e6]
          . rw [if_neg c,if_neg c]
        rw [g]
        split
        . next c=>rw [xn f _ _ _ b c.1 c.2 e6]
        . rfl
theorem xq (l:List aH) (a m b:Nat) (d:a < m) (e:m < b):∀ f,b - a<=f->qo f l a m b=qo (b - a) l a m b
  | 0,h=>by rw [show b - a=0 by omega]
  | f+1,h=>by
    by_cases c:b - a=f+1
    . rw [c]
    . rw [xn f l a m b d e e6,xq l a m b d e f e6]
theorem Ee (l:List aH) (g k n:Int) (h:0<=g/\g < k/\k < n/\n<=((l.length:Nat):Int)):lg l g k n=mH l g k n:=by
  obtain⟨a,rfl⟩:=L5 h.1
  obtain⟨m,rfl⟩:=L5 (Int.le_trans h.1 (Int.le_of_lt h.2.1))
  obtain⟨b,rfl⟩:=L5 (Int.le_trans h.1 (Int.le_of_lt (Int.lt_trans h.2.1 h.2.2.1)))
  have G:a < m:=e6
  have z:m < b:=e6
  have H:b<=l.length:=e6
  unfold mH
  rw [L4,L4,L4,show C6 ((b:Int) - (a:Int))=b - a by omega,show b - a=(b - a - 1)+1 by omega,qo]
  unfold lg
  simp only [vQ]
  by_cases w:m - a=1
  . rw [if_pos e6,if_pos w]
    rw [FQ l a (b:Int) _ m b e6,show C6 ((b:Int) - (m:Int))=b - m by omega]
    have hb:=wF (λ h=>mM (at_ l h) (at_ l a)) (b - m+1) m b e6
    generalize bs (λ h=>mM (at_ l h) (at_ l a)) (b - m+1) m b=i at hb
    obtain⟨P,X,Y,Q,rfl,o,A,B⟩:=FO l (a:=a) (m:=m) (b:=i) e6 e6 e6
    rw [Al P X Y Q o.symm e6 e6]
    obtain⟨x,rfl⟩:∃ x,X= [x]:=L6.1 e6
    exact He (i:Int) Y P Q x _ (a:Int) e6 e6 e6
  . rw [if_neg e6,if_neg w]
    by_cases y:b - m=1
    . rw [if_pos e6,if_pos y]
      rw [FR l m (a:Int) _ a m e6,show C6 ((m:Int) - (a:Int))=m - a by omega]
      have hb:=wF (λ h=> !mM (at_ l m) (at_ l h)) (m - a+1) a m e6
      generalize bs (λ h=> !mM (at_ l m) (at_ l h)) (m - a+1) a m=i at hb
      obtain⟨P,X,Y,Q,rfl,o,A,B⟩:=FO l (a:=i) (m:=m) (b:=b) e6 e6 e6
      rw [Al P X Y Q o.symm e6 e6]
      obtain⟨x,rfl⟩:∃ x,Y= [x]:=L6.1 e6
      exact Hf (i:Int) X.length X P Q x _ (m:Int) rfl e6 e6 e6
    . rw [if_neg e6,if_neg y]
      rw [show C6 ((a:Int)+(b:Int))=a+b by omega]
      have hd:(a+b) / 2 < b/\a < (a+b) / 2:=e6
      generalize hmid:(a+b) / 2=mid at hd
      have hL:∀ q i j:Nat,j - i < q->j<=mid->eD l (a:Int) (m:Int) (b:Int) q (i:Int) (j:Int)=((bs (λ c=> !mM (at_ l (mid+m - 1 - c)) (at_ l c)) q i j:Nat):Int):=λ q i j hq hj=>by
        have:=FT l a m b z q i j hq e6
        rw [hmid] at this; exact this
      have hs:∃ s:Nat,a<=s/\mid+m - b<=s/\s<=mid/\s<=m/\(if m > mid then bs (λ c=> !mM (at_ l (mid+m - 1 - c)) (at_ l c)) (mid - (mid+m - b)+1) (mid+m - b) mid else bs (λ c=> !mM (at_ l (mid+m - 1 - c)) (at_ l c)) (m - a+1) a m)=s/\
          eD l (a:Int) (m:Int) (b:Int) ((C6 ((if(m:Int) > (mid:Int) then(((mid:Int)+(m:Int)) - (b:Int),(mid:Int)) else((a:Int),(m:Int))).2 - (if(m:Int) > (mid:Int) then(((mid:Int)+(m:Int)) - (b:Int),(mid:Int)) else((a:Int),(m:Int))).1))+1) (if(m:Int) > (mid:Int) then(((mid:Int)+(m:Int)) - (b:Int),(mid:Int)) else((a:Int),(m:Int))).1 (if(m:Int) > (mid:Int) then(((mid:Int)+(m:Int)) - (b:Int),(mid:Int)) else((a:Int),(m:Int))).2=(s:Int):=by
        by_cases c:m > mid
        . have hb:=wF (λ c=> !mM (at_ l (mid+m - 1 - c)) (at_ l c)) (mid - (mid+m - b)+1) (mid+m - b) mid e6
          refine⟨bs (λ c=> !mM (at_ l (mid+m - 1 - c)) (at_ l c)) (mid - (mid+m - b)+1) (mid+m - b) mid,e6,hb.1,hb.2,e6,by rw [if_pos c], ?_⟩
          rw [if_pos e6]
          dsimp only
          rw [show ((mid:Int)+(m:Int)) - (b:Int)=((mid+m - b:Nat):Int) by omega,show C6 ((mid:Int) - ((mid+m - b:Nat):Int))=mid - (mid+m - b) by omega]
          exact hL _ _ _ e6 (Nat.le_refl _)
        . have hb:=wF (λ c=> !mM (at_ l (mid+m - 1 - c)) (at_ l c)) (m - a+1) a m e6
          refine⟨bs (λ c=> !mM (at_ l (mid+m - 1 - c)) (at_ l c)) (m - a+1) a m,hb.1,e6,e6,hb.2,by rw [if_neg c], ?_⟩
          rw [if_neg e6]
          dsimp only
          rw [show C6 ((m:Int) - (a:Int))=m - a by omega]
          exact hL _ _ _ e6 e6
      obtain⟨s,I,J,K,L,C,D⟩:=hs
      rw [C,D]
      have hr:∀ l1:List aH,a < s->s < mid->mH l1 (a:Int) (s:Int) (mid:Int)=qo (b - a - 1) l1 a s mid:=λ l1 p r=>by
        unfold mH
        rw [L4,L4,L4,show C6 ((mid:Int) - (a:Int))=mid - a by omega,xq l1 a s mid p r (b - a - 1) e6]
      have he:((mid:Int)+(m:Int)) - (s:Int)=((mid+m - s:Nat):Int):=e6
      have f:∀ l1:List aH,mid < mid+m - s->mid+m - s < b->mH l1 (mid:Int) ((mid+m - s:Nat):Int) (b:Int)=qo (b - a - 1) l1 mid (mid+m - s) b:=λ l1 p r=>by
        unfold mH
        rw [L4,L4,L4,show C6 ((b:Int) - (mid:Int))=b - mid by omega,xq l1 mid _ b p r (b - a - 1) e6]
      rw [he]
      by_cases t:s < m
      . have E:(if(m:Int) < ((mid+m - s:Nat):Int) then ib l (s:Int) (m:Int) ((mid+m - s:Nat):Int) else l)=if s < m/\m < mid+m - s then yY l s m (mid+m - s) else l:=by
          by_cases u:m < mid+m - s
          . rw [if_pos e6,if_pos ⟨t,u⟩,Di l t u e6]
          . rw [if_neg e6,if_neg (λ q=>u q.2)]
        rw [if_pos e6,E]
        generalize (if s < m/\m < mid+m - s then yY l s m (mid+m - s) else l)=l1
        by_cases v:a < s
        . have F:(if(s:Int) < (mid:Int) then mH l1 (a:Int) (s:Int) (mid:Int) else l1)=if a < s/\s < mid then qo (b - a - 1) l1 a s mid else l1:=by
            by_cases d:s < mid
            . rw [if_pos e6,if_pos ⟨v,d⟩,hr l1 v d]
            . rw [if_neg e6,if_neg (λ q=>d q.2)]
          rw [if_pos e6,F]
          by_cases e:mid+m - s < b
          . rw [if_pos (show ((mid+m - s:Nat):Int) < (b:Int) by omega),if_pos (show mid < mid+m - s/\mid+m - s < b from ⟨e6,e⟩),f _ e6 e]
          . rw [if_neg (show ¬ ((mid+m - s:Nat):Int) < (b:Int) by omega),if_neg (show ¬ (mid < mid+m - s/\mid+m - s < b) from λ q=>e q.2)]
        . rw [if_neg (show ¬ (a:Int) < (s:Int) by omega),if_neg (show ¬ (a < s/\s < mid) from λ q=>v q.1)]
          by_cases e:mid+m - s < b
          . rw [if_pos (show ((mid+m - s:Nat):Int) < (b:Int) by omega),if_pos (show mid < mid+m - s/\mid+m - s < b from ⟨e6,e⟩),f _ e6 e]
          . rw [if_neg (show ¬ ((mid+m - s:Nat):Int) < (b:Int) by omega),if_neg (show ¬ (mid < mid+m - s/\mid+m - s < b) from λ q=>e q.2)]
      . rw [if_neg (show ¬ (s:Int) < (m:Int) by omega),if_neg (show ¬ (s < m/\m < mid+m - s) from λ q=>t q.1),if_neg (show ¬ (mid < mid+m - s/\mid+m - s < b) from λ q=>absurd q.1 e6)]
        by_cases d:s < mid
        . rw [if_pos e6,if_pos ⟨e6,d⟩,hr l e6 d]
        . rw [if_neg e6,if_neg (λ q=>d q.2)]
theorem FU (n):∀ (w:World) (D:Nat->Prop) (h:Option Addr) (g i:Nat) (l0:List aH) (b:Int) (f:Int) (c:Int) (j:List aH) (H:Own w D w [row h g i (q4 aH.cells l0) 153 2]) (d:g=l0.length) (e:l0.length *32<=211106232532992) (a:0<=b/\b < f/\f < c/\c<=((l0.length:Nat):Int)) (hh_:C6 (c - b) < n) (hr:mH l0 b f c=j),
    Calls Tryz.prog 202 #[.slice h g i, .int .i64 b, .int .i64 f, .int .i64 c, .func (.func 166) #[] #[]] w (dA λ v w'=>v= .tuple #[]/\Own w D w' [row h g i (q4 aH.cells j) 153 2]/\(j.length=l0.length)):=by
  induction n with
  | zero=>intro w D h g i l0 b f c j H d e a hh_; omega
  | succ n ih=>
    intro w D h g i l0 b f c j H d e a hh_ hr
    exact pU w D h g i l0 b f c j H d e a ((Ee l0 b f c a).trans hr) _ rfl
      (λ w D h g i l0 b f c j H d e a hs hr=>ih w D h g i l0 b f c j H d e a e6 hr)
theorem BG (w D e a f l0 b c d g) (H:Own w D w [row e a f (q4 aH.cells l0) 153 2]) (h:a=l0.length) (i:l0.length *32<=211106232532992) (j:0<=b/\b < c/\c < d/\d<=((l0.length:Nat):Int)) (hr:mH l0 b c d=g):
    Calls Tryz.prog 202 #[.slice e a f, .int .i64 b, .int .i64 c, .int .i64 d, .func (.func 166) #[] #[]] w (dA λ v w'=>v= .tuple #[]/\Own w D w' [row e a f (q4 aH.cells g) 153 2]/\(g.length=l0.length)):=
  FU _ w D e a f l0 b c d g H h i j (Nat.lt_succ_self _) hr
section
open Go.RowKit
def iX (f:Int):Nat->Nat->Nat->List aH->Nat × (List aH)
  | 0,b,a,c=>default
  | e+1,b,a,c=>if(a:Int)<=f then bnd (iD c (b:Int) (a:Int)) λ d=>iX f e a (a+20) d else(b,c)
def iY (g:Int) (c:Nat):Nat->Nat->Nat->List aH->Nat × (List aH)
  | 0,b,a,d=>default
  | f+1,b,a,d=>if(a:Int)<=g then bnd (mH d (b:Int) ((b+c:Nat):Int) (a:Int)) λ e=>iY g c f a (a+(2 *c)) e else(b,d)
def iw (b:Int):Nat->Nat->List aH->(List aH)
  | 0,a,c=>default
  | e+1,a,c=>if(a:Int) < b then bnd (iY b a ((C6 (b+1 - (2 *a)))+1) 0 (2 *a) c) λ sLrLabLstL=>if((sLrLabLstL.1+a:Nat):Int) < b then bnd (mH sLrLabLstL.2 (sLrLabLstL.1:Int) ((sLrLabLstL.1+a:Nat):Int) b) λ d=>iw b e (a *2) d else iw b e (a *2) sLrLabLstL.2 else c
def lI (l0:List aH) (a:Int):(List aH):=
 bnd (iX a ((C6 (a+1 - 20))+1) 0 20 l0) λ sLrL=>bnd (iD sLrL.2 (sLrL.1:Int) a) λ b=>bnd (iw a ((C6 (a - 20))+1) 20 b) λ sLrLabL=>sLrLabL
theorem qw (w D l n0 m l0 b r0) (H:Own w D w [row l n0 m (q4 aH.cells l0) 153 2]) (aS:n0=l0.length) (bS:l0.length *32<=211106232532992) (bT:b=((l0.length:Nat):Int)) (hr:lI l0 b=r0):
    Calls Tryz.prog 191 #[.slice l n0 m,vI b, .func (.func 166) #[] #[]] w (dA λ v w'=>v= .tuple #[]/\Own w D w' [row l n0 m (q4 aH.cells r0) 153 2]/\(r0.length=l0.length)):=by
 unfold lI at hr
 subst aS
 have bU:=zr 0 H
 refine cb Tryz.func191 ?_
 refine sr (Ar rfl (Mz rfl (Az rfl (An rfl (Ik (bo ?_))))))
 have aT:=H.pf []
 obtain⟨aU,r⟩:=tq λ (h:Nat) (d:Nat) j (s:Nat) w'=>Own w D w' [row l l0.length m (q4 aH.cells j) 153 2]/\j.length=l0.length/\(0<=h/\d=h+20/\h<=b)/\C6 (b+1 - d) < s/\iX b ((C6 (b+1 - 20))+1) 0 20 l0=iX b s h d j
 refine Wp.loop (λ i:Nat × Nat × (List aH) × Nat=> [(7,vJ i.1),(8,vJ i.2.1),(6,vI 20),(0, .slice l l0.length m),(1,vI b),(2, .func (.func 166) #[] #[])]) aU (λ i=>i.2.2.2) (0,20,l0,(C6 (b+1 - 20))+1) ⟨rfl,rfl,rfl,rfl,rfl,rfl,trivial⟩ (r.2 ⟨aT,by first | omega | (simp only [G4] <;> omega) | (simp only [H0]),e6,e6,rfl⟩) ?_
 rintro ⟨h,d,j,s⟩ bV aj
 obtain⟨ak,bv,bz,bA,M⟩:=r.1 aj
 obtain⟨U,au⟩:∃ q,s=q+1:=⟨s - 1,e6⟩
 subst au
 refine Ik (sr (Mz rfl (Mz rfl (Kz (.bool (decide ((d:Int)<=b))) (nt ?_)))))
 by_cases K:(d:Int)<=b
 refine jT (dT K) (sk (bo (sr (Mz rfl (Mz rfl (Mz rfl (Mz rfl ?_)))))))
 obtain⟨V,N⟩:∃ q,iD j (h:Int) (d:Int)=q:=⟨_,rfl⟩
 obtain⟨bW,av,bB,ax,bC⟩:=IZ ak
 refine cl Tryz.call201 (lG _ _ l l0.length m j (h:Int) (d:Int) V av f1 e6 e6 N) ?_
 rintro _ bX ⟨rfl,ay,O⟩
 have az:=ax _ _ ay
 have bD:=zr 0 az
 replace O:V.length=j.length:=O
 refine ns (Mz rfl (An rfl (Il (Mz rfl (Mz rfl (fw (vJ (d+20)) (Ir (e:=C3.wrap ((d:Int)+20)) yk f0) (Az rfl (C4 (bN ?_)))))))))
 have aV:=az.pf []
 exact II (d,d+20,V,U) ⟨rfl,rfl,rfl,rfl,rfl,rfl,trivial⟩ (r.2 ⟨aV,by first | omega | (simp only [G4] <;> omega) | (simp only [H0]),e6,e6,Eq.trans (M) (Eq.trans (if_pos K) (ae N))⟩) (by show U < U+1; omega)
 refine jF (dF K) (Wp.exit (IC ?_))
 have aA:iX b ((C6 (b+1 - 20))+1) 0 20 l0=(h,j):=et (M) (iN K)
 refine IC (IK (Iq (sr (Mz rfl (Mz rfl (Mz rfl (Mz rfl ?_)))))))
 obtain⟨t,P⟩:∃ q,iD j (h:Int) b=q:=⟨_,rfl⟩
 obtain⟨bY,aB,bE,aC,bF⟩:=IZ ak
 refine cl Tryz.call201 (lG _ _ l l0.length m j (h:Int) b t aB f1 e6 e6 P) ?_
 rintro _ bZ ⟨rfl,aD,Q⟩
 have aF:=aC _ _ aD
 have bG:=zr 0 aF
 replace Q:t.length=j.length:=Q
 refine nt (bo ?_)
 have aW:=aF.pf []
 obtain⟨aX,n⟩:=rJ λ (a:Nat) k (u:Nat) w'=>Own w D w' [row l l0.length m (q4 aH.cells k) 153 2]/\k.length=l0.length/\(20<=a/\a<=20000000000000)/\C6 (b - a) < u/\iw b ((C6 (b - 20))+1) 20 t=iw b u a k
 refine Wp.loop (λ i:Nat × (List aH) × Nat=> [(6,vJ i.1),(0, .slice l l0.length m),(1,vI b),(2, .func (.func 166) #[] #[])]) aX (λ i=>i.2.2) (20,t,(C6 (b - 20))+1) ⟨rfl,rfl,rfl,rfl,trivial⟩ (n.2 ⟨aW,by first | omega | (simp only [G4] <;> omega) | (simp only [H0]),e6,e6,rfl⟩) ?_
 rintro ⟨a,k,u⟩ cu aG
 obtain⟨aI,bH,bI,bJ,x⟩:=n.1 aG
 obtain⟨p,aJ⟩:∃ q,u=q+1:=⟨u - 1,e6⟩
 subst aJ
 refine Ik (sr (Mz rfl (Mz rfl (Kz (.bool (decide ((a:Int) < b))) (nt ?_)))))
 by_cases y:(a:Int) < b
 refine jT (dT y) (sk (bo (sr (Mz rfl (fw (vJ (2 *a)) (Ir (e:=C3.wrap (2 *(a:Int))) yk f0) (Az rfl (An rfl (Ik (bo ?_)))))))))
 have aY:=aI.pf []
 obtain⟨aZ,z⟩:=tq λ (c:Nat) (f:Nat) g (A:Nat) w'=>Own w D w' [row l l0.length m (q4 aH.cells g) 153 2]/\g.length=l0.length/\(0<=c/\f=c+2 *(a:Int)/\c<=b)/\C6 (b+1 - f) < A/\iY b a ((C6 (b+1 - (2 *a)))+1) 0 (2 *a) k=iY b a A c f g
 refine Wp.loop (λ i:Nat × Nat × (List aH) × Nat=> [(7,vJ i.1),(8,vJ i.2.1),(6,vJ a),(0, .slice l l0.length m),(1,vI b),(2, .func (.func 166) #[] #[])]) aZ (λ i=>i.2.2.2) (0,2 *a,k,(C6 (b+1 - (2 *a)))+1) ⟨rfl,rfl,rfl,rfl,rfl,rfl,trivial⟩ (z.2 ⟨aY,by first | omega | (simp only [G4] <;> omega) | (simp only [H0]),e6,e6,rfl⟩) ?_
 rintro ⟨c,f,g,A⟩ cz aK
 obtain⟨W,bK,bL,bM,R⟩:=z.1 aK
 obtain⟨X,aL⟩:∃ q,A=q+1:=⟨A - 1,e6⟩
 subst aL
 refine Ik (sr (Mz rfl (Mz rfl (Kz (.bool (decide ((f:Int)<=b))) (nt ?_)))))
 by_cases L:(f:Int)<=b
 refine jT (dT L) (sk (bo (sr (Mz rfl (Mz rfl (Mz rfl (Mz rfl (fw (vJ (c+a)) (Ir (e:=C3.wrap ((c:Int)+(a:Int))) yk f0) (Mz rfl (Mz rfl ?_))))))))))
 obtain⟨B,C⟩:∃ q,mH g (c:Int) ((c+a:Nat):Int) (f:Int)=q:=⟨_,rfl⟩
 obtain⟨bO,Y,bf,Z,bg⟩:=IZ W
 refine cl Tryz.call202 (BG _ _ l l0.length m g (c:Int) ((c+a:Nat):Int) (f:Int) B Y f1 e6 e6 C) ?_
 rintro _ bP ⟨rfl,aa,E⟩
 have S:=Z _ _ aa
 have bi:=zr 0 S
 replace E:B.length=g.length:=E
 refine ns (Mz rfl (An rfl (Il (Mz rfl (Mz rfl (fw (vJ (2 *a)) (Ir (e:=C3.wrap (2 *(a:Int))) yk f0) (fw (vJ (f+(2 *a))) (Ir (e:=C3.wrap ((f:Int)+((2 *a:Nat):Int))) yk f0) (Az rfl (C4 (bN ?_))))))))))
 have aM:=S.pf []
 exact II (f,f+(2 *a),B,X) ⟨rfl,rfl,rfl,rfl,rfl,rfl,trivial⟩ (z.2 ⟨aM,by first | omega | (simp only [G4] <;> omega) | (simp only [H0]),e6,e6,Eq.trans (R) (Eq.trans (if_pos L) (ae C))⟩) (by show X < X+1; omega)
 refine jF (dF L) (Wp.exit (IC ?_))
 have F:iY b a ((C6 (b+1 - (2 *a)))+1) 0 (2 *a) k=(c,g):=et (R) (iN L)
 refine IC (IK (Iq (Ik (sr (Mz rfl (Mz rfl (fw (vJ (c+a)) (Ir (e:=C3.wrap ((c:Int)+(a:Int))) yk f0) (Ar rfl (Mz rfl (Mz rfl (Kz (.bool (decide (((c+a:Nat):Int) < b))) (nt ?_))))))))))))
 by_cases o:((c+a:Nat):Int) < b
 refine jT (dT o) (Il (Mz rfl (Mz rfl (Mz rfl (Mz rfl (Mz rfl ?_))))))
 obtain⟨G,I⟩:∃ q,mH g (c:Int) ((c+a:Nat):Int) b=q:=⟨_,rfl⟩
 obtain⟨bQ,af,bn,ag,bq⟩:=IZ W
 refine cl Tryz.call202 (BG _ _ l l0.length m g (c:Int) ((c+a:Nat):Int) b G af f1 e6 e6 I) ?_
 rintro _ bR ⟨rfl,ah,J⟩
 have T:=ag _ _ ah
 have bu:=zr 0 T
 replace J:G.length=g.length:=J
 refine nt (Il (Mz rfl (fw (vJ (a *2)) (Ir (e:=C3.wrap ((a:Int) *2)) yk f0) (Az rfl (C4 (bN ?_))))))
 have aN:=T.pf []
 exact II (a *2,G,p) ⟨rfl,rfl,rfl,rfl,trivial⟩ (n.2 ⟨aN,by first | omega | (simp only [G4] <;> omega) | (simp only [H0]),e6,e6,Eq.trans (x) (Eq.trans (if_pos y) (Eq.trans (ae F) (Eq.trans (if_pos o) (ae I))))⟩) (by show p < p+1; omega)
 refine jF (dF o) (sk (Il (Mz rfl (fw (vJ (a *2)) (Ir (e:=C3.wrap ((a:Int) *2)) yk f0) (Az rfl (C4 (bN ?_)))))))
 have aO:=W.pf []
 exact II (a *2,g,p) ⟨rfl,rfl,rfl,rfl,trivial⟩ (n.2 ⟨aO,by first | omega | (simp only [G4] <;> omega) | (simp only [H0]),e6,e6,Eq.trans (x) (Eq.trans (if_pos y) (Eq.trans (ae F) (if_neg o)))⟩) (by show p < p+1; omega)
 refine jF (dF y) (Wp.exit (IC ?_))
 have ai:iw b ((C6 (b - 20))+1) 20 t=k:=et (x) (iN y)
 refine IC (IK (IL (res0 rfl) ?_))
 have aP:=aI.pf []
 obtain rfl:=zj hr zq3
 exact⟨rfl,aP,g4⟩
def jQ (l0:List aH):(List aH):=
 bnd (lI l0 (l0.length:Int)) λ a=>a
theorem nP (w D h j k l0 l) (H:Own w D w [row h j k (q4 aH.cells l0) 153 2]) (m:j=l0.length) (s:l0.length *32<=211106232532992) (hr:jQ l0=l):
    Calls Tryz.prog 165 #[.slice h j k, .func (.func 166) #[] #[]] w (dA λ v w'=>v= .tuple #[]/\Own w D w' [row h j k (q4 aH.cells l) 153 2]/\(l.length=l0.length)):=by
 unfold jQ at hr
 subst m
 have t:=zr 0 H
 refine cb Tryz.func165 ?_
 refine Il (Mz rfl (Mz rfl (Kz (vJ l0.length) (Mz rfl ?_))))
 obtain⟨c,a⟩:∃ q,lI l0 (l0.length:Int)=q:=⟨_,rfl⟩
 obtain⟨u,d,o,e,p⟩:=IZ H
 refine cl Tryz.call191 (qw _ _ h l0.length k l0 (l0.length:Int) c d rfl e6 e6 a) ?_
 rintro _ x ⟨rfl,f,b⟩
 have g:=e _ _ f
 have r:=zr 0 g
 replace b:c.length=l0.length:=b
 refine C4 (IL (res0 rfl) ?_)
 have n:=g.pf []
 obtain rfl:=zj hr zq1
 exact⟨rfl,n,g4⟩
end
theorem BH:∀ (a b:List UInt8),Lib.compareBytes a b < 0↔a < b
  | [], []=>by simp [Lib.compareBytes]
  | [],_::_=>by simp [Lib.compareBytes]
  | _::_, []=>by simp [Lib.compareBytes]
  | x::a,y::b=>by
    unfold Lib.compareBytes
    rw [List.cons_lt_cons_iff]
    by_cases d:x < y
    . simp [d]
    . by_cases c:y < x
      . have:x≠y:=by intro e; rw [e] at c; exact absurd c i7
        simp [d,c,this]
      . have e:x=y:=by
          apply UInt8.le_antisymm
          . exact UInt8.not_lt.1 c
          . exact UInt8.not_lt.1 d
        subst e
        simp [BH a b]
theorem wG {x y:aH}:mM x y=true↔x.aZ < y.aZ:=by
  rw [<- uU, <- BH]; exact Iff.rfl
theorem zB {x y:aH}:mM x y=false↔y.aZ<=x.aZ:=by
  rw [<- Bool.not_eq_true,wG]; exact List.not_lt
theorem Hw:xR mM where
  D6 x:=zB.2 (List.le_refl _)
  tr x y z a b:=wG.2 (List.lt_trans (wG.1 a) (wG.1 b))
  nt x y z a b:=zB.2 (List.le_trans (zB.1 b) (zB.1 a))
theorem Am {P R:List aH} {i:Nat} (h:i < P.length):at_ (P++R) i=at_ P i:=by
  unfold at_; rw [List.getD_eq_getElem?_getD,List.getD_eq_getElem?_getD,List.getElem?_append_left h]
theorem Hy {P R:List aH} {i:Nat} (h:P.length<=i):at_ (P++R) i=at_ R (i - P.length):=by
  unfold at_; rw [List.getD_eq_getElem?_getD,List.getD_eq_getElem?_getD,List.getElem?_append_right h]
theorem FV {Z:List aH} (h:Hd mM Z) {i j:Nat} (b:i<=j) (a:j < Z.length):mM (at_ Z j) (at_ Z i)=false:=by
  unfold at_
  rw [List.getD_eq_getElem?_getD,List.getD_eq_getElem?_getD,List.getElem?_eq_getElem a,List.getElem?_eq_getElem e6]
  by_cases e:i=j
  . subst e; exact Hw.D6 _
  . exact List.pairwise_iff_getElem.1 h i j e6 a e6
theorem Dj {P Z Q:List aH} {i:Nat} (a:P.length<=i) (b:i < P.length+Z.length):at_ (P++(Z++Q)) i=at_ Z (i - P.length):=by
  rw [Hy a,Am e6]
def Bs (B k:Nat) (l:List aH):Prop:=∀ i j,i<=j->j < k->i / B=j / B->mM (at_ l j) (at_ l i)=false
theorem Dl {i a B:Nat} (hB:1<=B) (h:i < a *B):i / B < a:=Nat.div_lt_of_lt_mul (by rw [Nat.mul_comm]; exact h)
theorem Dm {i a B:Nat} (hB:1<=B) (h:a *B<=i):a<=i / B:=(Nat.le_div_iff_mul_le e6).2 h
theorem Bs.step {B a k:Nat} {P Z Q:List aH} (hB:1<=B) (hP:P.length=a *B) (hZ:Z.length<=B) (hk:k<=P.length+Z.length) (h:Bs B P.length P) (hs:Hd mM Z):Bs B k (P++(Z++Q)):=λ i j b e d=>by
  by_cases c:j < P.length
  . rw [Am c,Am e6]; exact h i j b c d
  . have hj:=Dm (i:=j) (a:=a) hB e6
    have hi:P.length<=i:=by
      apply Classical.byContradiction
      intro q
      have:=Dl (i:=i) (a:=a) hB e6
      omega
    rw [Dj hi e6,Dj e6 e6]
    exact FV hs e6 e6
theorem Lg {B k:Nat} {P R:List aH} (h:Bs B k (P++R)) (hk:P.length<=k):Bs B P.length P:=λ i j a b c=>by
  have:=h i j a e6 c
  rw [Am b,Am e6] at this
  exact this
section
open Go.RowKit
def gz (l0:List aN) (b:Nat):List Int->Unit ⊕ Int
  | []=>B7 ()
  | a::c=>if a < 0 then B9 (1) else if a >= (l0.length:Int) then B9 (1) else gz l0 b c
def fO (l0:List aN) (e:List (Ll aQ)):List fu->Nat->Unit ⊕ Int
  | [],a=>B7 ()
  | b::d,a=>if(b.aB.ls.length:Int)=(b.aI.ls.length:Int) then bnd (List.getD e a default) λ c=>if(b.aB.ls.length:Int)=(c.ls.length:Int) then sW (gz l0 a b.aI.ls) λ _=>fO l0 e d (a+1) else B9 (1) else B9 (1)
def j6 (l0:List aN) (l1:List fu) (a:List (Ll aQ)):Int:=
 if(a.length:Int)=(l1.length:Int) then lp (fO l0 a l1 0) λ _=>0 else 1
theorem vD (w D N n0 P l0 L n1 S d1 l1 I n2 Q d2 l r0) (H:Own w D w []) (bz:Ro w D λ w'=>aY w' 6 N n0 (q4 aN.cells l0)) (ay:n0=l0.length) (bA:l0.length *80<=211106232532992) (T:s5 bO.abs d1=l1) (O:Ro w D λ w'=>aY w' 3 L n1 (q4 bO.cells d1)) (y:∀ x ∈ d1,Ro w D (λ w'=>aY w' 6 x.aB.A x.aB.ls.length (q4 aN.cells x.aB.ls))/\(x.aB.ls.length<=x.aB.c/\x.aB.ls.length<=9223372036854775807)/\Ro w D (λ w'=>aY w' 1 x.aI.A x.aI.ls.length (q4 (eI .i64) x.aI.ls))/\(x.aI.ls.length<=x.aI.c/\x.aI.ls.length<=9223372036854775807)) (az:n1=l1.length) (bB:l1.length *56<=211106232532992) (U:s5 bP.abs d2=l) (V:Ro w D λ w'=>aY w' 1 I n2 (q4 (I9 (β:=af)) d2)) (aB:∀ x ∈ d2,Ro w D (λ w'=>aY w' 3 x.A x.ls.length (q4 af.cells x.ls))/\(x.ls.length<=x.c/\x.ls.length<=9223372036854775807)/\(∀ R ∈ x.ls,Ro w D (λ w'=>aY w' 2 R.aj.A R.aj.ls.length (q4 aH.cells R.aj.ls))/\(R.aj.ls.length<=R.aj.c/\R.aj.ls.length<=9223372036854775807))) (aC:n2=l.length) (bC:l.length *24<=211106232532992) (hr:j6 l0 l1 l=r0):
    Calls Tryz.prog 148 #[.slice N n0 P, .slice L n1 S, .slice I n2 Q] w (dA λ v w'=>v=vI r0/\Own w D w' []):=by
 unfold j6 at hr
 subst ay az aC
 have aX:=aA T
 have aZ:=aA U
 refine cb Tryz.func148 ?_
 refine sr (An rfl (Ik (sr (Mz rfl (Kz (vJ l.length) (Mz rfl (Kz (vJ l1.length) (fw (.bool (decide (¬ ((l.length:Int)=(l1.length:Int))))) (IM (e:= !(decide ((l.length:Int)=(l1.length:Int)))) yk decide_not.symm) (nt ?_)))))))))
 by_cases n:(l.length:Int)=(l1.length:Int)
 refine jF (dF (Lr n)) (sk (Ik (sr (Mz rfl (Kz (vJ l1.length) (Mn rfl (bo ?_)))))))
 have aD:=H.pk []
 obtain⟨aF,z⟩:=lF λ (b:Nat) w'=>Own w D w' []/\b<=l1.length/\fO l0 l l1 0=fO l0 l (List.drop b l1) b
 refine Wp.loop (λ i:Nat=> [(6,vI 0),(18,vJ i),(17,vJ l1.length),(16, .slice L l1.length S),(0, .slice N l0.length P),(2, .slice I l.length Q)]) aF (λ i=>l1.length - i) 0 ⟨rfl,rfl,rfl,rfl,rfl,rfl,trivial⟩ (z.2 ⟨aD,e6,rfl⟩) ?_
 rintro b bD W
 obtain⟨B,bf,m⟩:=z.1 W
 refine sr (Kz (.bool (decide ((b:Int) < (l1.length:Int)))) (nt (Ik ?_)))
 by_cases X:(b:Int) < (l1.length:Int)
 obtain⟨a,h⟩:=dh (ls:=d1) (i:=b) bO.len f2 (B.ro O) e9
 have Y:=eY T h
 have bg:=(y _ (D1 h)).2.1
 have bi:=(y _ (D1 h)).2.2.2
 have o:=drop_at Y
 refine jT (dT X) (sk (Ik (bo (sr (Mz rfl (fw (.pointer (some ⟨ab L,ao L+b *3,none⟩)) (Iz (uR) rfl rfl ((B.ro O).addr (i:=b) e6) e6) (fw (.agg (bO.cells a).toArray) (IB rfl (IJ (cs:=(bO.cells a)) Tryz.isAgg172 Tryz.sizeOf172 ((B.ro O).elem bO.len h f2))) ?_)))))))
 refine dn [vI 0, .slice none 0 0, .slice none 0 0] 172 B ?_
 intro C bE aG
 refine Az rfl ?_
 refine df (bO.cells a) 0 aG Tryz.sizeOf172 ?_
 intro bF aI
 refine nt (Ik (Ik ?_))
 refine vo [] (IE (IE (bv.block (IE (IE (bv.block (IE IQ))))))) aI ?_
 intro bG J
 refine qp C 1 0 rfl (ql 1 rfl 0 Tryz.isAgg39 rfl rfl rfl (qk (vJ a.aB.ls.length) 2 rfl (qp C 2 3 rfl (ql 4 rfl 0 Tryz.isAgg58 rfl rfl rfl (qk (vJ a.aI.ls.length) 5 rfl (qt (v:= .bool (decide (¬ ((a.aB.ls.length:Int)=(a.aI.ls.length:Int))))) 6 rfl (λ _ _=>IM (e:= !(decide ((a.aB.ls.length:Int)=(a.aI.ls.length:Int)))) yk decide_not.symm) (qv 7 rfl rfl ?_)))))))
 by_cases d:(a.aB.ls.length:Int)=(a.aI.ls.length:Int)
 refine Iy (v:=vP C 1) (rs:= []) 8 rfl rfl rfl (dF (Lr d)) e7 (λ _ _=>yk) (Iy (v:= .slice a.aB.A a.aB.ls.length a.aB.c) (rs:= []) 9 rfl rfl rfl (dF (Lr d)) e7 (λ _ ⟨_,Z⟩=>IB rfl (bJ.one Tryz.isAgg39 (I1 (Z.cls (i:=0) rfl) rfl))) (Iy (v:=vJ a.aB.ls.length) (rs:= []) 10 rfl rfl rfl (dF (Lr d)) e7 (λ _ _=>yk) (Iy (v:= .slice I l.length Q) (rs:= []) 11 rfl rfl rfl (dF (Lr d)) e7 (λ _ _=>IA rfl) (Iy (v:=vJ b) (rs:= []) 12 rfl rfl rfl (dF (Lr d)) e7 (λ _ _=>IA rfl) ?_))))
 obtain⟨j,E⟩:=iG (ls:=d2) (i:=b) e9
 have s:=eY U E
 have bn:=(aB _ (D1 E)).2.1
 have bq:s0 (s5 af.abs j.ls)=j.ls.length:=List.length_map ..
 refine Iy (v:= .pointer (some ⟨ab I,ao I+b *1,none⟩)) (rs:= []) 13 rfl rfl rfl (dF (Lr d)) e7 (λ _ ⟨_,Z⟩=>Iz (wE) rfl rfl ((Z.ro V).addr (i:=b) e6) e6) (Iy (v:= .slice j.A j.ls.length j.c) (rs:= []) 14 rfl rfl rfl (dF (Lr d)) e7 (λ _ ⟨_,Z⟩=>IB rfl (bJ.one Tryz.isAgg40 (((Z.ro V).elem rC E f2).at_ (k:=0) rfl))) (Iy (v:=vJ (s0 (s5 af.abs j.ls))) (rs:= []) 15 rfl rfl rfl (dF (Lr d)) e7 (λ _ _=>Ir (e:=(j.ls.length:Int)) yk j7) (Iy (v:= .bool (decide (¬ ((a.aB.ls.length:Int)=((s0 (s5 af.abs j.ls):Nat):Int))))) (rs:= []) 16 rfl rfl rfl (dF (Lr d)) e7 (λ _ _=>IM (e:= !(decide ((a.aB.ls.length:Int)=((s0 (s5 af.abs j.ls):Nat):Int)))) yk decide_not.symm) (qt (v:= .bool (decide (¬ ((a.aB.ls.length:Int)=((s0 (s5 af.abs j.ls):Nat):Int))))) 17 rfl (λ _ _=>Io rfl (dF (Lr d)) rfl) (qn (Iq ?_))))))
 by_cases u:(a.aB.ls.length:Int)=((s0 (s5 af.abs j.ls):Nat):Int)
 refine jF (dF (Lr u)) (sk (sr (Kz (vP C 2) (Lz (.slice a.aI.A a.aI.ls.length a.aI.c) J 0 Tryz.isAgg58 (Kz (vJ a.aI.ls.length) (Mn rfl (bo ?_)))))))
 have aJ:=J.pf []
 obtain⟨aK,F⟩:=lF λ (f:Nat) w'=>Own w D w' [blk C (bO.cells a) 172]/\f<=a.aI.ls.length/\gz l0 b a.aI.ls=gz l0 b (List.drop f a.aI.ls)
 refine Wp.loop (λ i:Nat=> [(6,vI 0),(44,vJ i),(43,vJ a.aI.ls.length),(42, .slice a.aI.A a.aI.ls.length a.aI.c),(18,vJ b),(17,vJ l1.length),(16, .slice L l1.length S),(0, .slice N l0.length P),(2, .slice I l.length Q)]) aK (λ i=>a.aI.ls.length - i) 0 ⟨rfl,rfl,rfl,rfl,rfl,rfl,rfl,rfl,rfl,trivial⟩ (F.2 ⟨aJ,e6,rfl⟩) ?_
 rintro f bH aa
 obtain⟨p,bu,t⟩:=F.1 aa
 refine sr (Kz (.bool (decide ((f:Int) < (a.aI.ls.length:Int)))) (nt (Ik ?_)))
 by_cases ag:(f:Int) < (a.aI.ls.length:Int)
 obtain⟨r,M⟩:=dh (ls:=a.aI.ls) (i:=f) iL f2 (p.ro (y _ (D1 h)).2.2.1) e9
 have G:=drop_at M
 refine jT (dT ag) (sk (Ik (bo (sr (fw (.pointer (some ⟨ab a.aI.A,ao a.aI.A+f *1,none⟩)) (Iz (mq) rfl rfl ((p.ro (y _ (D1 h)).2.2.1).addr (i:=f) e6) e6) (fw (vI r) (IB rfl (bJ.one Tryz.isAgg3 (((p.ro (y _ (D1 h)).2.2.1).elem iL M f2).at_ (k:=0) rfl))) (Ar rfl (Mz rfl (Kz (.bool (decide (r < 0))) (Mz rfl ?_))))))))))
 by_cases g:r < 0
 refine Sz (dT g) (Sz (dT g) (Sz (dT g) (Sz (dT g) (fw (.bool true) (Iw rfl (dT g) rfl) (nt (jt (sr (An rfl (rt (bR (tR (tR (bR (bR (tR (tR (bR (tR (rs ?_)))))))))))))))))))
 have aL:=p.pk []
 obtain rfl:_=1:=zj hr (et (ip n) (gL (et (m) (et (congrArg (λ q=>fO l0 l q b) o) (et (ip d) (et (ae (aT s)) (et (ip u) (oU (et (t) (et (congrArg (λ q=>gz l0 b q) G) (ip g)))))))))))
 exact⟨rfl,aL⟩
 refine gw (vI r) (dF g) (IA rfl) (gw (.slice N l0.length P) (dF g) (IA rfl) (Gz (vJ l0.length) (dF g) (Gz (.bool (decide (r >= (l0.length:Int)))) (dF g) (fw (.bool (decide (r >= (l0.length:Int)))) (Io rfl (dF g) rfl) (nt ?_)))))
 by_cases K:r >= (l0.length:Int)
 refine jT (dT K) (sr (An rfl (rt (bR (tR (tR (bR (bR (tR (tR (bR (tR (rs ?_)))))))))))))
 have aM:=p.pk []
 obtain rfl:_=1:=zj hr (et (ip n) (gL (et (m) (et (congrArg (λ q=>fO l0 l q b) o) (et (ip d) (et (ae (aT s)) (et (ip u) (oU (et (t) (et (congrArg (λ q=>gz l0 b q) G) (et (iN g) (ip K))))))))))))
 exact⟨rfl,aM⟩
 refine jF (dF K) (IU (bN (Iq (Il (fw (vJ (f+1)) (Ir (e:=IntKind.i64.wrap ((f:Int)+1)) yk f0) (Mz rfl (WL.nil ?_)))))))
 have aO:=p.pf []
 exact II (f+1) ⟨rfl,rfl,rfl,rfl,rfl,rfl,rfl,rfl,rfl,trivial⟩ (F.2 ⟨aO,e6,et (t) (et (congrArg (λ q=>gz l0 b q) G) (et (iN g) (iN K)))⟩) (by show a.aI.ls.length - (f+1) < a.aI.ls.length - f; omega)
 refine jF (dF ag) (Wp.exit (IC ?_))
 have ah:gz l0 b a.aI.ls=B7 ():=et (t) (et (congrArg (λ q=>gz l0 b q) (dZ (ls:=a.aI.ls) (i:=f) e6)) rfl)
 refine IC (IK (bN (Iq (Il (fw (vJ (b+1)) (Ir (e:=IntKind.i64.wrap ((b:Int)+1)) yk f0) (Mz rfl (WL.nil ?_)))))))
 have aP:=p.pk []
 exact II (b+1) ⟨rfl,rfl,rfl,rfl,rfl,rfl,trivial⟩ (z.2 ⟨aP,e6,et (m) (et (congrArg (λ q=>fO l0 l q b) o) (et (ip d) (et (ae (aT s)) (et (ip u) (sH ah)))))⟩) (by show l1.length - (b+1) < l1.length - b; omega)
 refine jT (dT u) (sr (An rfl (rt (tR (bR (tR (tR (bR (tR (rs ?_))))))))))
 have aR:=J.pk []
 obtain rfl:_=1:=zj hr (et (ip n) (gL (et (m) (et (congrArg (λ q=>fO l0 l q b) o) (et (ip d) (et (ae (aT s)) (iN u)))))))
 exact⟨rfl,aR⟩
 refine Ip (rs:= []) 8 rfl rfl rfl (dT d) e7 (Ip (rs:= []) 9 rfl rfl rfl (dT d) e7 (Ip (rs:= []) 10 rfl rfl rfl (dT d) e7 (Ip (rs:= []) 11 rfl rfl rfl (dT d) e7 (Ip (rs:= []) 12 rfl rfl rfl (dT d) e7 (Ip (rs:= []) 13 rfl rfl rfl (dT d) e7 (Ip (rs:= []) 14 rfl rfl rfl (dT d) e7 (Ip (rs:= []) 15 rfl rfl rfl (dT d) e7 (Ip (rs:= []) 16 rfl rfl rfl (dT d) e7 (qt (v:= .bool true) 17 rfl (λ _ _=>Iw rfl (dT d) rfl) (qn (Iq (jt (sr (An rfl (rt (tR (bR (tR (tR (bR (tR (rs ?_))))))))))))))))))))))
 have aS:=J.pk []
 obtain rfl:_=1:=zj hr (et (ip n) (gL (et (m) (et (congrArg (λ q=>fO l0 l q b) o) (iN d)))))
 exact⟨rfl,aS⟩
 refine jF (dF X) (Wp.exit (IC ?_))
 have ai:fO l0 l l1 0=B7 ():=et (m) (et (congrArg (λ q=>fO l0 l q b) (dZ (ls:=l1) (i:=b) e6)) rfl)
 refine IC (IK (Iq (sr (An rfl (rt (rs ?_))))))
 have aU:=B.pk []
 obtain rfl:_=0:=zj hr (et (ip n) (mF ai))
 exact⟨rfl,aU⟩
 refine jT (dT n) (sr (An rfl (rt (tR (rs ?_)))))
 have aV:=H.pk []
 obtain rfl:=zj hr zq1
 exact⟨rfl,aV⟩
end
end Go.Proofs.YtbkagebjhbphaaaGreat
