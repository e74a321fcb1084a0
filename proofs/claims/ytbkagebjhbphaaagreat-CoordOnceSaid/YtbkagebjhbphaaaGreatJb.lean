/- The layers told, part 2. Conditions: none beyond each law's own. -/
import Derived.Test.YtbkagebjhbphaaaGreatJa
namespace Go.Proofs.YtbkagebjhbphaaaGreat
set_option maxHeartbeats 4000000
set_option maxRecDepth 100000
set_option linter.unusedVariables false
set_option linter.unusedSimpArgs false
set_option linter.unusedSectionVars false
open Int renaming toNat->D0
open IntKind renaming i64->C5,u64->D1
open List renaming drop->r3,flatMap->q3,getD->C0,length->r8,length_map->s3,map->s5,mem_cons->u9,mem_of_getElem?->D3,not_mem_nil->y6,toArray->v9
open Ll renaming mk->E2
open Nat renaming le_refl->o3
open Sum renaming inl->B9,inr->C1
open _root_.Go.Proofs.Tryz renaming call39->E7,call40->E0,isAgg149->E4,isAgg28->D4,isAgg3->C4,isAgg30->D2,isAgg40->E3,isAgg58->E1,isAgg9->C2,prog->v8,sizeOf149->E6,underlying147->B5,underlying28->B8,underlying29->B7,underlying3->B1,underlying39->y4,underlying4->B6,underlying40->B4,underlying9->B3
open WL renaming nil->C6
open Wp renaming exit->C7,loop->C3
section
open Go.RowKit
theorem qX:Elem v8 39 72 6 80:=lv (z:= .agg #[.int .i64 0, .string ⟨v9 []⟩, .string ⟨v9 []⟩, .string ⟨v9 []⟩, .string ⟨v9 []⟩, .int .i64 0]) y4 e7 rfl f4
structure bi where
 aD:Int
 bY:List UInt8
 aT:List UInt8
 bF:List UInt8
 bT:List UInt8
 bS:Int
def bi.cells (x:bi):List Value:= [.int .i64 x.aD, .string ⟨v9 x.bY⟩, .string ⟨v9 x.aT⟩, .string ⟨v9 x.bF⟩, .string ⟨v9 x.bT⟩, .int .i64 x.bS]
instance:Bk bi:=⟨λ x _=>bk x.aD+(bk x.bY+(bk x.aT+(bk x.bF+(bk x.bT+(bk x.bS+(0))))))⟩
theorem bi.len:∀ x,(bi.cells x).length=6:=λ _=>rfl
theorem bi.one:∀ x, ∀ u ∈ bi.cells x,u.oneCell'=true:=λ x u hu=>by
 simp only [bi.cells,u9,y6,or_false] at hu
 rcases hu with rfl | rfl | rfl | rfl | rfl | rfl <;> rfl
def JG (w:World) (x:bi):Prop:=((-9223372036854775808)<=x.aD/\x.aD<=9223372036854775807)/\(x.bY.length<=140737488351232)/\(x.aT.length<=140737488351232)/\(x.bF.length<=140737488351232)/\(x.bT.length<=140737488351232)/\((-9223372036854775808)<=x.bS/\x.bS<=9223372036854775807)
theorem Df (w:World):lm v8 w 72 6 bi.cells (JG w):=
 (nE (sz:=6) Tryz.underlying72 e7 (fZ.cons (i:=0) (off:=0) (s:=1) rfl rfl (mg (k:= .i64) (lo:= -9223372036854775808) (hi:=9223372036854775807) B1 e7 f4 f4) (fZ.cons (i:=1) (off:=1) (s:=1) rfl rfl (kK B3 e7) (fZ.cons (i:=2) (off:=2) (s:=1) rfl rfl (kK B3 e7) (fZ.cons (i:=3) (off:=3) (s:=1) rfl rfl (kK B3 e7) (fZ.cons (i:=4) (off:=4) (s:=1) rfl rfl (kK B3 e7) (fZ.cons (i:=5) (off:=5) (s:=1) rfl rfl (mg (k:= .i64) (lo:= -9223372036854775808) (hi:=9223372036854775807) B1 e7 f4 f4) fZ.nil))))))).map (λ p=>⟨p.1,p.2.1,p.2.2.1,p.2.2.2.1,p.2.2.2.2.1,p.2.2.2.2.2.1⟩) bi.len (λ _=>rfl) (λ _ h=>⟨h.1,h.2.1,h.2.2.1,h.2.2.2.1,h.2.2.2.2.1,h.2.2.2.2.2.1⟩) λ _=>o3 _
instance:Inhabited bi:=⟨⟨default,default,default,default,default,default⟩⟩
theorem om:Elem v8 58 3 1 8:=lv (z:= .int .i64 0) Tryz.underlying58 e7 rfl f4
structure bG where
 eG:Int
 aH:Sv bi
 aJ:Sv Int
def bG.cells (x:bG):List Value:= [.int .i64 x.eG, .slice x.aH.A x.aH.ls.length x.aH.c, .slice x.aJ.A x.aJ.ls.length x.aJ.c]
instance:Bk bG:=⟨λ x _=>bk x.eG+(bk x.aH+(bk x.aJ+(0)))⟩
theorem bG.len:∀ x,(bG.cells x).length=3:=λ _=>rfl
theorem bG.one:∀ x, ∀ u ∈ bG.cells x,u.oneCell'=true:=λ x u hu=>by
 simp only [bG.cells,u9,y6,or_false] at hu
 rcases hu with rfl | rfl | rfl <;> rfl
def KJ (w:World) (x:bG):Prop:=((-9223372036854775808)<=x.eG/\x.eG<=9223372036854775807)/\(mI w 6 80 bi.cells (JG w) x.aH)/\(mI w 1 8 (eI .i64) (λ n=>(-9223372036854775808)<=n/\n<=9223372036854775807) x.aJ)
instance:Inhabited bG:=⟨⟨default,default,default⟩⟩
structure gF where
 eG:Int
 aH:Ll bi
 aJ:Ll Int
instance:Inhabited gF:=⟨⟨default,default,default⟩⟩
def bG.abs (x:bG):gF:=⟨x.eG,⟨x.aH.ls⟩,⟨x.aJ.ls⟩⟩
def bG.own (x:bG):List HP:= [row x.aH.A x.aH.ls.length x.aH.c (q3 bi.cells x.aH.ls) 72 6,row x.aJ.A x.aJ.ls.length x.aJ.c (q3 (eI .i64) x.aJ.ls) 3 1]
theorem G7:Elem v8 22 44 25 272:=lv (z:= .agg #[.int .i64 0, .int .i64 0, .int .i64 0, .int .i64 0, .int .i64 0, .int .i64 0, .int .i64 0, .int .i64 0, .int .u64 0, .int .u64 0, .int .u64 0, .int .u64 0, .int .u64 0, .int .u64 0, .int .u64 0, .int .u64 0, .int .u64 0, .bool false, .string ⟨v9 []⟩, .string ⟨v9 []⟩, .slice none 0 0, .slice none 0 0, .slice none 0 0, .bool false, .string ⟨v9 []⟩]) Tryz.underlying22 e7 rfl f4
structure bC where
 bF:List UInt8
 bT:List UInt8
def bC.cells (x:bC):List Value:= [.string ⟨v9 x.bF⟩, .string ⟨v9 x.bT⟩]
instance:Bk bC:=⟨λ x _=>bk x.bF+(bk x.bT+(0))⟩
theorem bC.len:∀ x,(bC.cells x).length=2:=λ _=>rfl
theorem bC.one:∀ x, ∀ u ∈ bC.cells x,u.oneCell'=true:=λ x u hu=>by
 simp only [bC.cells,u9,y6,or_false] at hu
 rcases hu with rfl | rfl <;> rfl
def JW (w:World) (x:bC):Prop:=(x.bF.length<=140737488351232)/\(x.bT.length<=140737488351232)
theorem AB (w:World):lm v8 w 38 2 bC.cells (JW w):=
 (nE (sz:=2) Tryz.underlying38 e7 (fZ.cons (i:=0) (off:=0) (s:=1) rfl rfl (kK B3 e7) (fZ.cons (i:=1) (off:=1) (s:=1) rfl rfl (kK B3 e7) fZ.nil))).map (λ p=>⟨p.1,p.2.1⟩) bC.len (λ _=>rfl) (λ _ h=>⟨h.1,h.2.1⟩) λ _=>o3 _
instance:Inhabited bC:=⟨⟨default,default⟩⟩
theorem sI:Elem v8 40 149 3 48:=lv (z:= .agg #[.bool false, .string ⟨v9 []⟩, .slice none 0 0]) B4 e7 rfl f4
theorem ko:Elem v8 147 153 2 32:=lv (z:= .agg #[.string ⟨v9 []⟩, .string ⟨v9 []⟩]) B5 e7 rfl f4
structure aI where
 bY:List UInt8
 aT:List UInt8
def aI.cells (x:aI):List Value:= [.string ⟨v9 x.bY⟩, .string ⟨v9 x.aT⟩]
instance:Bk aI:=⟨λ x _=>bk x.bY+(bk x.aT+(0))⟩
theorem aI.len:∀ x,(aI.cells x).length=2:=λ _=>rfl
theorem aI.one:∀ x, ∀ u ∈ aI.cells x,u.oneCell'=true:=λ x u hu=>by
 simp only [aI.cells,u9,y6,or_false] at hu
 rcases hu with rfl | rfl <;> rfl
def J7 (w:World) (x:aI):Prop:=(x.bY.length<=140737488351232)/\(x.aT.length<=140737488351232)
theorem Bw (w:World):lm v8 w 153 2 aI.cells (J7 w):=
 (nE (sz:=2) Tryz.underlying153 e7 (fZ.cons (i:=0) (off:=0) (s:=1) rfl rfl (kK B3 e7) (fZ.cons (i:=1) (off:=1) (s:=1) rfl rfl (kK B3 e7) fZ.nil))).map (λ p=>⟨p.1,p.2.1⟩) aI.len (λ _=>rfl) (λ _ h=>⟨h.1,h.2.1⟩) λ _=>o3 _
instance:Inhabited aI:=⟨⟨default,default⟩⟩
structure ae where
 eF:Bool
 aT:List UInt8
 ak:Sv aI
def ae.cells (x:ae):List Value:= [.bool x.eF, .string ⟨v9 x.aT⟩, .slice x.ak.A x.ak.ls.length x.ak.c]
instance:Bk ae:=⟨λ x _=>bk x.eF+(bk x.aT+(bk x.ak+(0)))⟩
theorem ae.len:∀ x,(ae.cells x).length=3:=λ _=>rfl
theorem ae.one:∀ x, ∀ u ∈ ae.cells x,u.oneCell'=true:=λ x u hu=>by
 simp only [ae.cells,u9,y6,or_false] at hu
 rcases hu with rfl | rfl | rfl <;> rfl
def Jk (w:World) (x:ae):Prop:=(True)/\(x.aT.length<=140737488351232)/\(mI w 2 32 aI.cells (J7 w) x.ak)
theorem zG (w:World):lm v8 w 149 3 ae.cells (Jk w):=
 (nE (sz:=3) Tryz.underlying149 e7 (fZ.cons (i:=0) (off:=0) (s:=1) rfl rfl (uW B6 e7) (fZ.cons (i:=1) (off:=1) (s:=1) rfl rfl (kK B3 e7) (fZ.cons (i:=2) (off:=2) (s:=1) rfl rfl (qx (bytes:=32) B5 e7 e7 f4 (Bw w)) fZ.nil)))).map (λ p=>⟨p.1,p.2.1,p.2.2.1⟩) ae.len (λ _=>rfl) (λ _ h=>⟨h.1,h.2.1,h.2.2.1⟩) λ _=>o3 _
instance:Inhabited ae:=⟨⟨default,default,default⟩⟩
structure aQ where
 eF:Bool
 aT:List UInt8
 ak:Ll aI
instance:Inhabited aQ:=⟨⟨default,default,default⟩⟩
def ae.abs (x:ae):aQ:=⟨x.eF,x.aT,⟨x.ak.ls⟩⟩
def ae.own (x:ae):List HP:= [row x.ak.A x.ak.ls.length x.ak.c (q3 aI.cells x.ak.ls) 153 2]
theorem qY:Elem v8 29 89 2 24:=lv (z:= .agg #[.string ⟨v9 []⟩, .int .i64 0]) B7 e7 rfl f4
structure aY where
 bF:List UInt8
 eG:Int
def aY.cells (x:aY):List Value:= [.string ⟨v9 x.bF⟩, .int .i64 x.eG]
instance:Bk aY:=⟨λ x _=>bk x.bF+(bk x.eG+(0))⟩
theorem aY.len:∀ x,(aY.cells x).length=2:=λ _=>rfl
theorem aY.one:∀ x, ∀ u ∈ aY.cells x,u.oneCell'=true:=λ x u hu=>by
 simp only [aY.cells,u9,y6,or_false] at hu
 rcases hu with rfl | rfl <;> rfl
def JH (w:World) (x:aY):Prop:=(x.bF.length<=140737488351232)/\((-9223372036854775808)<=x.eG/\x.eG<=9223372036854775807)
theorem AC (w:World):lm v8 w 89 2 aY.cells (JH w):=
 (nE (sz:=2) Tryz.underlying89 e7 (fZ.cons (i:=0) (off:=0) (s:=1) rfl rfl (kK B3 e7) (fZ.cons (i:=1) (off:=1) (s:=1) rfl rfl (mg (k:= .i64) (lo:= -9223372036854775808) (hi:=9223372036854775807) B1 e7 f4 f4) fZ.nil))).map (λ p=>⟨p.1,p.2.1⟩) aY.len (λ _=>rfl) (λ _ h=>⟨h.1,h.2.1⟩) λ _=>o3 _
instance:Inhabited aY:=⟨⟨default,default⟩⟩
structure bf where
 aD:Int
 aJ:Int
 fI:Int
 aK:Int
 dz:Int
 eH:Int
 aP:Nat
 av:Nat
 aN:Nat
 dY:Nat
 aV:Nat
 aL:Nat
 dL:Nat
 cu:Nat
 xN:Nat
 cz:Bool
 bU:bC
 aH:Sv bi
 ai:Sv ae
 ag:Sv aY
def bf.cells (x:bf):List Value:= [.int .i64 x.aD, .int .i64 x.aJ, .int .i64 x.fI, .int .i64 x.aK, .int .i64 x.dz, .int .i64 x.eH, .int .u64 ((x.aP:Nat):Int), .int .u64 ((x.av:Nat):Int), .int .u64 ((x.aN:Nat):Int), .int .u64 ((x.dY:Nat):Int), .int .u64 ((x.aV:Nat):Int), .int .u64 ((x.aL:Nat):Int), .int .u64 ((x.dL:Nat):Int), .int .u64 ((x.cu:Nat):Int), .int .u64 ((x.xN:Nat):Int), .bool x.cz, .string ⟨v9 x.bU.bF⟩, .string ⟨v9 x.bU.bT⟩, .slice x.aH.A x.aH.ls.length x.aH.c, .slice x.ai.A x.ai.ls.length x.ai.c, .slice x.ag.A x.ag.ls.length x.ag.c]
instance:Bk bf:=⟨λ x _=>bk x.aD+(bk x.aJ+(bk x.fI+(bk x.aK+(bk x.dz+(bk x.eH+(bk x.aP+(bk x.av+(bk x.aN+(bk x.dY+(bk x.aV+(bk x.aL+(bk x.dL+(bk x.cu+(bk x.xN+(bk x.cz+(bk x.bU+(bk x.aH+(bk x.ai+(bk x.ag+(0))))))))))))))))))))⟩
theorem bf.len:∀ x,(bf.cells x).length=21:=λ _=>rfl
theorem bf.one:∀ x, ∀ u ∈ bf.cells x,u.oneCell'=true:=λ x u hu=>by
 simp only [bf.cells,u9,y6,or_false] at hu
 rcases hu with rfl | rfl | rfl | rfl | rfl | rfl | rfl | rfl | rfl | rfl | rfl | rfl | rfl | rfl | rfl | rfl | rfl | rfl | rfl | rfl | rfl <;> rfl
def JO (w:World) (x:bf):Prop:=((-9223372036854775808)<=x.aD/\x.aD<=9223372036854775807)/\((-9223372036854775808)<=x.aJ/\x.aJ<=9223372036854775807)/\((-9223372036854775808)<=x.fI/\x.fI<=9223372036854775807)/\((-9223372036854775808)<=x.aK/\x.aK<=9223372036854775807)/\((-9223372036854775808)<=x.dz/\x.dz<=9223372036854775807)/\((-9223372036854775808)<=x.eH/\x.eH<=9223372036854775807)/\(x.aP<=18446744073709551615)/\(x.av<=18446744073709551615)/\(x.aN<=18446744073709551615)/\(x.dY<=18446744073709551615)/\(x.aV<=18446744073709551615)/\(x.aL<=18446744073709551615)/\(x.dL<=18446744073709551615)/\(x.cu<=18446744073709551615)/\(x.xN<=18446744073709551615)/\(True)/\(JW w x.bU)/\(mI w 6 80 bi.cells (JG w) x.aH)/\(mI w 3 48 ae.cells (Jk w) x.ai)/\(mI w 2 24 aY.cells (JH w) x.ag)
theorem Cy (w:World):lm v8 w 42 21 bf.cells (JO w):=
 (nE (sz:=21) Tryz.underlying42 e7 (fZ.cons (i:=0) (off:=0) (s:=1) rfl rfl (mg (k:= .i64) (lo:= -9223372036854775808) (hi:=9223372036854775807) B1 e7 f4 f4) (fZ.cons (i:=1) (off:=1) (s:=1) rfl rfl (mg (k:= .i64) (lo:= -9223372036854775808) (hi:=9223372036854775807) B1 e7 f4 f4) (fZ.cons (i:=2) (off:=2) (s:=1) rfl rfl (mg (k:= .i64) (lo:= -9223372036854775808) (hi:=9223372036854775807) B1 e7 f4 f4) (fZ.cons (i:=3) (off:=3) (s:=1) rfl rfl (mg (k:= .i64) (lo:= -9223372036854775808) (hi:=9223372036854775807) B1 e7 f4 f4) (fZ.cons (i:=4) (off:=4) (s:=1) rfl rfl (mg (k:= .i64) (lo:= -9223372036854775808) (hi:=9223372036854775807) B1 e7 f4 f4) (fZ.cons (i:=5) (off:=5) (s:=1) rfl rfl (mg (k:= .i64) (lo:= -9223372036854775808) (hi:=9223372036854775807) B1 e7 f4 f4) (fZ.cons (i:=6) (off:=6) (s:=1) rfl rfl (nX (k:= .u64) (hi:=18446744073709551615) B8 e7 f4 f4) (fZ.cons (i:=7) (off:=7) (s:=1) rfl rfl (nX (k:= .u64) (hi:=18446744073709551615) B8 e7 f4 f4) (fZ.cons (i:=8) (off:=8) (s:=1) rfl rfl (nX (k:= .u64) (hi:=18446744073709551615) B8 e7 f4 f4) (fZ.cons (i:=9) (off:=9) (s:=1) rfl rfl (nX (k:= .u64) (hi:=18446744073709551615) B8 e7 f4 f4) (fZ.cons (i:=10) (off:=10) (s:=1) rfl rfl (nX (k:= .u64) (hi:=18446744073709551615) B8 e7 f4 f4) (fZ.cons (i:=11) (off:=11) (s:=1) rfl rfl (nX (k:= .u64) (hi:=18446744073709551615) B8 e7 f4 f4) (fZ.cons (i:=12) (off:=12) (s:=1) rfl rfl (nX (k:= .u64) (hi:=18446744073709551615) B8 e7 f4 f4) (fZ.cons (i:=13) (off:=13) (s:=1) rfl rfl (nX (k:= .u64) (hi:=18446744073709551615) B8 e7 f4 f4) (fZ.cons (i:=14) (off:=14) (s:=1) rfl rfl (nX (k:= .u64) (hi:=18446744073709551615) B8 e7 f4 f4) (fZ.cons (i:=15) (off:=15) (s:=1) rfl rfl (uW B6 e7) (fZ.cons (i:=16) (off:=16) (s:=2) rfl rfl (AB w) (fZ.cons (i:=17) (off:=18) (s:=1) rfl rfl (qx (bytes:=80) y4 e7 e7 f4 (Df w)) (fZ.cons (i:=18) (off:=19) (s:=1) rfl rfl (qx (bytes:=48) B4 e7 e7 f4 (zG w)) (fZ.cons (i:=19) (off:=20) (s:=1) rfl rfl (qx (bytes:=24) B7 e7 e7 f4 (AC w)) fZ.nil))))))))))))))))))))).map (λ p=>⟨p.1,p.2.1,p.2.2.1,p.2.2.2.1,p.2.2.2.2.1,p.2.2.2.2.2.1,p.2.2.2.2.2.2.1,p.2.2.2.2.2.2.2.1,p.2.2.2.2.2.2.2.2.1,p.2.2.2.2.2.2.2.2.2.1,p.2.2.2.2.2.2.2.2.2.2.1,p.2.2.2.2.2.2.2.2.2.2.2.1,p.2.2.2.2.2.2.2.2.2.2.2.2.1,p.2.2.2.2.2.2.2.2.2.2.2.2.2.1,p.2.2.2.2.2.2.2.2.2.2.2.2.2.2.1,p.2.2.2.2.2.2.2.2.2.2.2.2.2.2.2.1,p.2.2.2.2.2.2.2.2.2.2.2.2.2.2.2.2.1,p.2.2.2.2.2.2.2.2.2.2.2.2.2.2.2.2.2.1,p.2.2.2.2.2.2.2.2.2.2.2.2.2.2.2.2.2.2.1,p.2.2.2.2.2.2.2.2.2.2.2.2.2.2.2.2.2.2.2.1⟩) bf.len (λ _=>rfl) (λ _ h=>⟨h.1,h.2.1,h.2.2.1,h.2.2.2.1,h.2.2.2.2.1,h.2.2.2.2.2.1,h.2.2.2.2.2.2.1,h.2.2.2.2.2.2.2.1,h.2.2.2.2.2.2.2.2.1,h.2.2.2.2.2.2.2.2.2.1,h.2.2.2.2.2.2.2.2.2.2.1,h.2.2.2.2.2.2.2.2.2.2.2.1,h.2.2.2.2.2.2.2.2.2.2.2.2.1,h.2.2.2.2.2.2.2.2.2.2.2.2.2.1,h.2.2.2.2.2.2.2.2.2.2.2.2.2.2.1,h.2.2.2.2.2.2.2.2.2.2.2.2.2.2.2.1,h.2.2.2.2.2.2.2.2.2.2.2.2.2.2.2.2.1,h.2.2.2.2.2.2.2.2.2.2.2.2.2.2.2.2.2.1,h.2.2.2.2.2.2.2.2.2.2.2.2.2.2.2.2.2.2.1,h.2.2.2.2.2.2.2.2.2.2.2.2.2.2.2.2.2.2.2.1⟩) λ _=>o3 _
instance:Inhabited bf:=⟨⟨default,default,default,default,default,default,default,default,default,default,default,default,default,default,default,default,default,default,default,default⟩⟩
structure bL where
 aD:Int
 aJ:Int
 fI:Int
 aK:Int
 dz:Int
 eH:Int
 aP:Nat
 av:Nat
 aN:Nat
 dY:Nat
 aV:Nat
 aL:Nat
 dL:Nat
 cu:Nat
 xN:Nat
 cz:Bool
 bU:bC
 aH:Ll bi
 ai:Ll aQ
 ag:Ll aY
instance:Inhabited bL:=⟨⟨default,default,default,default,default,default,default,default,default,default,default,default,default,default,default,default,default,default,default,default⟩⟩
def bf.abs (x:bf):bL:=⟨x.aD,x.aJ,x.fI,x.aK,x.dz,x.eH,x.aP,x.av,x.aN,x.dY,x.aV,x.aL,x.dL,x.cu,x.xN,x.cz,x.bU,⟨x.aH.ls⟩,⟨s5 ae.abs x.ai.ls⟩,⟨x.ag.ls⟩⟩
def bf.own (x:bf):List HP:= [row x.aH.A x.aH.ls.length x.aH.c (q3 bi.cells x.aH.ls) 72 6,row x.ai.A x.ai.ls.length x.ai.c (q3 ae.cells x.ai.ls) 149 3,row x.ag.A x.ag.ls.length x.ag.c (q3 aY.cells x.ag.ls) 89 2,sepL (q3 ae.own x.ai.ls)]
abbrev gU (r:Int) (s:Int) (t:Int) (u:Int) (v:Int) (w:Int) (x:Nat) (y:Nat) (z:Nat) (A:Nat) (g:Nat) (h:Nat) (i:Nat) (j:Nat) (k:Nat) (l:Bool) (m:List UInt8) (n:List UInt8) (o:Option Addr) (a b:Nat) (p:Option Addr) (c d:Nat) (q:Option Addr) (e f:Nat):List Value:= [.int .i64 r, .int .i64 s, .int .i64 t, .int .i64 u, .int .i64 v, .int .i64 w, .int .u64 ((x:Nat):Int), .int .u64 ((y:Nat):Int), .int .u64 ((z:Nat):Int), .int .u64 ((A:Nat):Int), .int .u64 ((g:Nat):Int), .int .u64 ((h:Nat):Int), .int .u64 ((i:Nat):Int), .int .u64 ((j:Nat):Int), .int .u64 ((k:Nat):Int), .bool l, .string ⟨v9 m⟩, .string ⟨v9 n⟩, .slice o a b, .slice p c d, .slice q e f]
abbrev iH (x:bL) (a:Option Addr) (b:Nat) (c:Option Addr) (c1:Nat) (d:Option Addr) (c2:Nat):List Value:= [.int .i64 x.aD, .int .i64 x.aJ, .int .i64 x.fI, .int .i64 x.aK, .int .i64 x.dz, .int .i64 x.eH, .int .u64 ((x.aP:Nat):Int), .int .u64 ((x.av:Nat):Int), .int .u64 ((x.aN:Nat):Int), .int .u64 ((x.dY:Nat):Int), .int .u64 ((x.aV:Nat):Int), .int .u64 ((x.aL:Nat):Int), .int .u64 ((x.dL:Nat):Int), .int .u64 ((x.cu:Nat):Int), .int .u64 ((x.xN:Nat):Int), .bool x.cz, .string ⟨v9 x.bU.bF⟩, .string ⟨v9 x.bU.bT⟩, .slice a x.aH.ls.length b, .slice c x.ai.ls.length c1, .slice d x.ag.ls.length c2]
structure fM where
 iU:Int
 fI:Int
 az:bf
 dE:Bool
 bY:List UInt8
def fM.cells (x:fM):List Value:= [.int .i64 x.iU, .int .i64 x.fI, .int .i64 x.az.aD, .int .i64 x.az.aJ, .int .i64 x.az.fI, .int .i64 x.az.aK, .int .i64 x.az.dz, .int .i64 x.az.eH, .int .u64 ((x.az.aP:Nat):Int), .int .u64 ((x.az.av:Nat):Int), .int .u64 ((x.az.aN:Nat):Int), .int .u64 ((x.az.dY:Nat):Int), .int .u64 ((x.az.aV:Nat):Int), .int .u64 ((x.az.aL:Nat):Int), .int .u64 ((x.az.dL:Nat):Int), .int .u64 ((x.az.cu:Nat):Int), .int .u64 ((x.az.xN:Nat):Int), .bool x.az.cz, .string ⟨v9 x.az.bU.bF⟩, .string ⟨v9 x.az.bU.bT⟩, .slice x.az.aH.A x.az.aH.ls.length x.az.aH.c, .slice x.az.ai.A x.az.ai.ls.length x.az.ai.c, .slice x.az.ag.A x.az.ag.ls.length x.az.ag.c, .bool x.dE, .string ⟨v9 x.bY⟩]
instance:Bk fM:=⟨λ x _=>bk x.iU+(bk x.fI+(bk x.az+(bk x.dE+(bk x.bY+(0)))))⟩
theorem fM.len:∀ x,(fM.cells x).length=25:=λ _=>rfl
theorem fM.one:∀ x, ∀ u ∈ fM.cells x,u.oneCell'=true:=λ x u hu=>by
 simp only [fM.cells,u9,y6,or_false] at hu
 rcases hu with rfl | rfl | rfl | rfl | rfl | rfl | rfl | rfl | rfl | rfl | rfl | rfl | rfl | rfl | rfl | rfl | rfl | rfl | rfl | rfl | rfl | rfl | rfl | rfl | rfl <;> rfl
def JB (w:World) (x:fM):Prop:=((-9223372036854775808)<=x.iU/\x.iU<=9223372036854775807)/\((-9223372036854775808)<=x.fI/\x.fI<=9223372036854775807)/\(JO w x.az)/\(True)/\(x.bY.length<=140737488351232)
theorem Bz (w:World):lm v8 w 44 25 fM.cells (JB w):=
 (nE (sz:=25) Tryz.underlying44 e7 (fZ.cons (i:=0) (off:=0) (s:=1) rfl rfl (mg (k:= .i64) (lo:= -9223372036854775808) (hi:=9223372036854775807) B1 e7 f4 f4) (fZ.cons (i:=1) (off:=1) (s:=1) rfl rfl (mg (k:= .i64) (lo:= -9223372036854775808) (hi:=9223372036854775807) B1 e7 f4 f4) (fZ.cons (i:=2) (off:=2) (s:=21) rfl rfl (Cy w) (fZ.cons (i:=3) (off:=23) (s:=1) rfl rfl (uW B6 e7) (fZ.cons (i:=4) (off:=24) (s:=1) rfl rfl (kK B3 e7) fZ.nil)))))).map (λ p=>⟨p.1,p.2.1,p.2.2.1,p.2.2.2.1,p.2.2.2.2.1⟩) fM.len (λ _=>rfl) (λ _ h=>⟨h.1,h.2.1,h.2.2.1,h.2.2.2.1,h.2.2.2.2.1⟩) λ _=>o3 _
instance:Inhabited fM:=⟨⟨default,default,default,default,default⟩⟩
structure StepT where
 iU:Int
 fI:Int
 az:bL
 dE:Bool
 bY:List UInt8
instance:Inhabited StepT:=⟨⟨default,default,default,default,default⟩⟩
def fM.abs (x:fM):StepT:=⟨x.iU,x.fI,x.az.abs,x.dE,x.bY⟩
def fM.own (x:fM):List HP:= [row x.az.aH.A x.az.aH.ls.length x.az.aH.c (q3 bi.cells x.az.aH.ls) 72 6,row x.az.ai.A x.az.ai.ls.length x.az.ai.c (q3 ae.cells x.az.ai.ls) 149 3,row x.az.ag.A x.az.ag.ls.length x.az.ag.c (q3 aY.cells x.az.ag.ls) 89 2,sepL (q3 ae.own x.az.ai.ls)]
abbrev Gy (v:Int) (w:Int) (x:Int) (y:Int) (z:Int) (A:Int) (B:Int) (C:Int) (D:Nat) (E:Nat) (g:Nat) (h:Nat) (i:Nat) (j:Nat) (k:Nat) (l:Nat) (m:Nat) (n:Bool) (o:List UInt8) (p:List UInt8) (q:Option Addr) (a b:Nat) (r:Option Addr) (c d:Nat) (s:Option Addr) (e f:Nat) (t:Bool) (u:List UInt8):List Value:= [.int .i64 v, .int .i64 w, .int .i64 x, .int .i64 y, .int .i64 z, .int .i64 A, .int .i64 B, .int .i64 C, .int .u64 ((D:Nat):Int), .int .u64 ((E:Nat):Int), .int .u64 ((g:Nat):Int), .int .u64 ((h:Nat):Int), .int .u64 ((i:Nat):Int), .int .u64 ((j:Nat):Int), .int .u64 ((k:Nat):Int), .int .u64 ((l:Nat):Int), .int .u64 ((m:Nat):Int), .bool n, .string ⟨v9 o⟩, .string ⟨v9 p⟩, .slice q a b, .slice r c d, .slice s e f, .bool t, .string ⟨v9 u⟩]
theorem l6:Elem v8 31 56 4 48:=lv (z:= .agg #[.int .i64 0, .int .u64 0, .int .u64 0, .slice none 0 0]) Tryz.underlying31 e7 rfl f4
structure aU where
 aK:Int
 av:Nat
 aP:Nat
 ai:Sv ae
def aU.cells (x:aU):List Value:= [.int .i64 x.aK, .int .u64 ((x.av:Nat):Int), .int .u64 ((x.aP:Nat):Int), .slice x.ai.A x.ai.ls.length x.ai.c]
instance:Bk aU:=⟨λ x _=>bk x.aK+(bk x.av+(bk x.aP+(bk x.ai+(0))))⟩
theorem aU.len:∀ x,(aU.cells x).length=4:=λ _=>rfl
theorem aU.one:∀ x, ∀ u ∈ aU.cells x,u.oneCell'=true:=λ x u hu=>by
 simp only [aU.cells,u9,y6,or_false] at hu
 rcases hu with rfl | rfl | rfl | rfl <;> rfl
def KL (w:World) (x:aU):Prop:=((-9223372036854775808)<=x.aK/\x.aK<=9223372036854775807)/\(x.av<=18446744073709551615)/\(x.aP<=18446744073709551615)/\(mI w 3 48 ae.cells (Jk w) x.ai)
instance:Inhabited aU:=⟨⟨default,default,default,default⟩⟩
structure eD where
 aK:Int
 av:Nat
 aP:Nat
 ai:Ll aQ
instance:Inhabited eD:=⟨⟨default,default,default,default⟩⟩
def aU.abs (x:aU):eD:=⟨x.aK,x.av,x.aP,⟨s5 ae.abs x.ai.ls⟩⟩
def aU.own (x:aU):List HP:= [row x.ai.A x.ai.ls.length x.ai.c (q3 ae.cells x.ai.ls) 149 3,sepL (q3 ae.own x.ai.ls)]
theorem kW:Elem v8 30 60 5 56:=lv (z:= .agg #[.int .u64 0, .int .i64 0, .int .u64 0, .int .u64 0, .slice none 0 0]) Tryz.underlying30 e7 rfl f4
structure aC where
 aN:Nat
 aK:Int
 av:Nat
 aP:Nat
 au:Sv Int
def aC.cells (x:aC):List Value:= [.int .u64 ((x.aN:Nat):Int), .int .i64 x.aK, .int .u64 ((x.av:Nat):Int), .int .u64 ((x.aP:Nat):Int), .slice x.au.A x.au.ls.length x.au.c]
instance:Bk aC:=⟨λ x _=>bk x.aN+(bk x.aK+(bk x.av+(bk x.aP+(bk x.au+(0)))))⟩
theorem aC.len:∀ x,(aC.cells x).length=5:=λ _=>rfl
theorem aC.one:∀ x, ∀ u ∈ aC.cells x,u.oneCell'=true:=λ x u hu=>by
 simp only [aC.cells,u9,y6,or_false] at hu
 rcases hu with rfl | rfl | rfl | rfl | rfl <;> rfl
def J8 (w:World) (x:aC):Prop:=(x.aN<=18446744073709551615)/\((-9223372036854775808)<=x.aK/\x.aK<=9223372036854775807)/\(x.av<=18446744073709551615)/\(x.aP<=18446744073709551615)/\(mI w 1 8 (eI .i64) (λ n=>(-9223372036854775808)<=n/\n<=9223372036854775807) x.au)
instance:Inhabited aC:=⟨⟨default,default,default,default,default⟩⟩
structure bH where
 aN:Nat
 aK:Int
 av:Nat
 aP:Nat
 au:Ll Int
instance:Inhabited bH:=⟨⟨default,default,default,default,default⟩⟩
def aC.abs (x:aC):bH:=⟨x.aN,x.aK,x.av,x.aP,⟨x.au.ls⟩⟩
def aC.own (x:aC):List HP:= [row x.au.A x.au.ls.length x.au.c (q3 (eI .i64) x.au.ls) 3 1]
structure nG where
 au:Int
 av:Nat
 aV:Nat
 aL:Nat
 ag:Sv aY
 aj:Sv aC
 aF:Sv aU
def nG.cells (x:nG):List Value:= [.int .i64 x.au, .int .u64 ((x.av:Nat):Int), .int .u64 ((x.aV:Nat):Int), .int .u64 ((x.aL:Nat):Int), .slice x.ag.A x.ag.ls.length x.ag.c, .slice x.aj.A x.aj.ls.length x.aj.c, .slice x.aF.A x.aF.ls.length x.aF.c]
instance:Bk nG:=⟨λ x _=>bk x.au+(bk x.av+(bk x.aV+(bk x.aL+(bk x.ag+(bk x.aj+(bk x.aF+(0)))))))⟩
theorem nG.len:∀ x,(nG.cells x).length=7:=λ _=>rfl
theorem nG.one:∀ x, ∀ u ∈ nG.cells x,u.oneCell'=true:=λ x u hu=>by
 simp only [nG.cells,u9,y6,or_false] at hu
 rcases hu with rfl | rfl | rfl | rfl | rfl | rfl | rfl <;> rfl
def KY (w:World) (x:nG):Prop:=((-9223372036854775808)<=x.au/\x.au<=9223372036854775807)/\(x.av<=18446744073709551615)/\(x.aV<=18446744073709551615)/\(x.aL<=18446744073709551615)/\(mI w 2 24 aY.cells (JH w) x.ag)/\(mI w 5 56 aC.cells (J8 w) x.aj)/\(mI w 4 48 aU.cells (KL w) x.aF)
instance:Inhabited nG:=⟨⟨default,default,default,default,default,default,default⟩⟩
structure cZ where
 au:Int
 av:Nat
 aV:Nat
 aL:Nat
 ag:Ll aY
 aj:Ll bH
 aF:Ll eD
instance:Inhabited cZ:=⟨⟨default,default,default,default,default,default,default⟩⟩
def nG.abs (x:nG):cZ:=⟨x.au,x.av,x.aV,x.aL,⟨x.ag.ls⟩,⟨s5 aC.abs x.aj.ls⟩,⟨s5 aU.abs x.aF.ls⟩⟩
def nG.own (x:nG):List HP:= [row x.ag.A x.ag.ls.length x.ag.c (q3 aY.cells x.ag.ls) 89 2,row x.aj.A x.aj.ls.length x.aj.c (q3 aC.cells x.aj.ls) 60 5,row x.aF.A x.aF.ls.length x.aF.c (q3 aU.cells x.aF.ls) 56 4,sepL (q3 aC.own x.aj.ls),sepL (q3 aU.own x.aF.ls)]
theorem uu:Elem v8 45 42 21 232:=lv (z:= .agg (gU 0 0 0 0 0 0 0 0 0 0 0 0 0 0 0 false [] [] none 0 0 none 0 0 none 0 0).toArray) Tryz.underlying45 e7 rfl f4
structure oW where
 fo:Sv bf
 jl:Bool
def oW.cells (x:oW):List Value:= [.slice x.fo.A x.fo.ls.length x.fo.c, .bool x.jl]
instance:Bk oW:=⟨λ x _=>bk x.fo+(bk x.jl+(0))⟩
theorem oW.len:∀ x,(oW.cells x).length=2:=λ _=>rfl
theorem oW.one:∀ x, ∀ u ∈ oW.cells x,u.oneCell'=true:=λ x u hu=>by
 simp only [oW.cells,u9,y6,or_false] at hu
 rcases hu with rfl | rfl <;> rfl
def K4 (w:World) (x:oW):Prop:=(mI w 21 232 bf.cells (JO w) x.fo)/\(True)
instance:Inhabited oW:=⟨⟨default,default⟩⟩
structure kC where
 fo:Ll bL
 jl:Bool
instance:Inhabited kC:=⟨⟨default,default⟩⟩
def oW.abs (x:oW):kC:=⟨⟨s5 bf.abs x.fo.ls⟩,x.jl⟩
def oW.own (x:oW):List HP:= [row x.fo.A x.fo.ls.length x.fo.c (q3 bf.cells x.fo.ls) 42 21,sepL (q3 bf.own x.fo.ls)]
structure eX where
 bD:Bool
 oN:Bool
def eX.cells (x:eX):List Value:= [.bool x.bD, .bool x.oN]
instance:Bk eX:=⟨λ x _=>bk x.bD+(bk x.oN+(0))⟩
theorem eX.len:∀ x,(eX.cells x).length=2:=λ _=>rfl
theorem eX.one:∀ x, ∀ u ∈ eX.cells x,u.oneCell'=true:=λ x u hu=>by
 simp only [eX.cells,u9,y6,or_false] at hu
 rcases hu with rfl | rfl <;> rfl
def K5 (w:World) (x:eX):Prop:=(True)/\(True)
instance:Inhabited eX:=⟨⟨default,default⟩⟩
theorem uY:Elem v8 61 28 1 8:=lv (z:= .int .u64 0) Tryz.underlying61 e7 rfl f4
structure tK where
 pM:Int
 aS:Nat
def tK.cells (x:tK):List Value:= [.int .i64 x.pM, .int .u64 ((x.aS:Nat):Int)]
instance:Bk tK:=⟨λ x _=>bk x.pM+(bk x.aS+(0))⟩
theorem tK.len:∀ x,(tK.cells x).length=2:=λ _=>rfl
theorem tK.one:∀ x, ∀ u ∈ tK.cells x,u.oneCell'=true:=λ x u hu=>by
 simp only [tK.cells,u9,y6,or_false] at hu
 rcases hu with rfl | rfl <;> rfl
def K6 (w:World) (x:tK):Prop:=((-9223372036854775808)<=x.pM/\x.pM<=9223372036854775807)/\(x.aS<=18446744073709551615)
instance:Inhabited tK:=⟨⟨default,default⟩⟩
structure nH where
 eG:Int
 aH:Sv bi
 aJ:Sv Int
def nH.cells (x:nH):List Value:= [.int .i64 x.eG, .slice x.aH.A x.aH.ls.length x.aH.c, .slice x.aJ.A x.aJ.ls.length x.aJ.c]
instance:Bk nH:=⟨λ x _=>bk x.eG+(bk x.aH+(bk x.aJ+(0)))⟩
theorem nH.len:∀ x,(nH.cells x).length=3:=λ _=>rfl
theorem nH.one:∀ x, ∀ u ∈ nH.cells x,u.oneCell'=true:=λ x u hu=>by
 simp only [nH.cells,u9,y6,or_false] at hu
 rcases hu with rfl | rfl | rfl <;> rfl
def KZ (w:World) (x:nH):Prop:=((-9223372036854775808)<=x.eG/\x.eG<=9223372036854775807)/\(mI w 6 80 bi.cells (JG w) x.aH)/\(mI w 1 8 (eI .i64) (λ n=>(-9223372036854775808)<=n/\n<=9223372036854775807) x.aJ)
instance:Inhabited nH:=⟨⟨default,default,default⟩⟩
structure Dh where
 eG:Int
 aH:Ll bi
 aJ:Ll Int
instance:Inhabited Dh:=⟨⟨default,default,default⟩⟩
def nH.abs (x:nH):Dh:=⟨x.eG,⟨x.aH.ls⟩,⟨x.aJ.ls⟩⟩
def nH.own (x:nH):List HP:= [row x.aH.A x.aH.ls.length x.aH.c (q3 bi.cells x.aH.ls) 72 6,row x.aJ.A x.aJ.ls.length x.aJ.c (q3 (eI .i64) x.aJ.ls) 3 1]
theorem qh:Elem v8 79 107 9 136:=lv (z:= .agg #[.int .u64 0, .int .i64 0, .int .u64 0, .int .u64 0, .slice none 0 0, .slice none 0 0, .slice none 0 0, .slice none 0 0, .int .i64 0]) Tryz.underlying79 e7 rfl f4
theorem um:Elem v8 103 172 3 56:=lv (z:= .agg #[.int .i64 0, .slice none 0 0, .slice none 0 0]) Tryz.underlying103 e7 rfl f4
theorem yc:Elem v8 104 4 1 1:=lv (z:= .bool false) Tryz.underlying104 e7 rfl f4
theorem wV:Elem v8 105 40 1 24:=lv (z:= .slice none 0 0) Tryz.underlying105 e7 rfl f4
structure bB where
 aR:Nat
 aM:Int
 aS:Nat
 dh:Nat
 bV:Sv bi
 aG:Sv bG
 bD:Sv Bool
 af:Sv (Sv ae)
 eO:Int
def bB.cells (x:bB):List Value:= [.int .u64 ((x.aR:Nat):Int), .int .i64 x.aM, .int .u64 ((x.aS:Nat):Int), .int .u64 ((x.dh:Nat):Int), .slice x.bV.A x.bV.ls.length x.bV.c, .slice x.aG.A x.aG.ls.length x.aG.c, .slice x.bD.A x.bD.ls.length x.bD.c, .slice x.af.A x.af.ls.length x.af.c, .int .i64 x.eO]
instance:Bk bB:=⟨λ x _=>bk x.aR+(bk x.aM+(bk x.aS+(bk x.dh+(bk x.bV+(bk x.aG+(bk x.bD+(bk x.af+(bk x.eO+(0)))))))))⟩
theorem bB.len:∀ x,(bB.cells x).length=9:=λ _=>rfl
theorem bB.one:∀ x, ∀ u ∈ bB.cells x,u.oneCell'=true:=λ x u hu=>by
 simp only [bB.cells,u9,y6,or_false] at hu
 rcases hu with rfl | rfl | rfl | rfl | rfl | rfl | rfl | rfl | rfl <;> rfl
def K7 (w:World) (x:bB):Prop:=(x.aR<=18446744073709551615)/\((-9223372036854775808)<=x.aM/\x.aM<=9223372036854775807)/\(x.aS<=18446744073709551615)/\(x.dh<=18446744073709551615)/\(mI w 6 80 bi.cells (JG w) x.bV)/\(mI w 3 56 bG.cells (KJ w) x.aG)/\(mI w 1 1 eL (λ _=>True) x.bD)/\(mI w 1 24 (IX (β:=ae)) (mI w 3 48 ae.cells (Jk w)) x.af)/\((-9223372036854775808)<=x.eO/\x.eO<=9223372036854775807)
instance:Inhabited bB:=⟨⟨default,default,default,default,default,default,default,default,default⟩⟩
abbrev bO:=Sv ae
def bO.abs (x:bO):Ll aQ:=⟨s5 ae.abs x.ls⟩
def bO.own (x:bO):List HP:= [row x.A x.ls.length x.c (q3 ae.cells x.ls) 149 3,sepL (q3 ae.own x.ls)]
structure dK where
 aR:Nat
 aM:Int
 aS:Nat
 dh:Nat
 bV:Ll bi
 aG:Ll gF
 bD:Ll Bool
 af:Ll (Ll aQ)
 eO:Int
instance:Inhabited dK:=⟨⟨default,default,default,default,default,default,default,default,default⟩⟩
def bB.abs (x:bB):dK:=⟨x.aR,x.aM,x.aS,x.dh,⟨x.bV.ls⟩,⟨s5 bG.abs x.aG.ls⟩,⟨x.bD.ls⟩,⟨s5 bO.abs x.af.ls⟩,x.eO⟩
def bB.own (x:bB):List HP:= [row x.bV.A x.bV.ls.length x.bV.c (q3 bi.cells x.bV.ls) 72 6,row x.aG.A x.aG.ls.length x.aG.c (q3 bG.cells x.aG.ls) 172 3,row x.bD.A x.bD.ls.length x.bD.c (q3 eL x.bD.ls) 4 1,row x.af.A x.af.ls.length x.af.c (q3 (IX (β:=ae)) x.af.ls) 40 1,sepL (q3 bG.own x.aG.ls),sepL (q3 bO.own x.af.ls)]
abbrev rJ (i:Nat) (j:Int) (k:Nat) (l:Nat) (m:Option Addr) (a b:Nat) (n:Option Addr) (c d:Nat) (o:Option Addr) (e f:Nat) (p:Option Addr) (g h:Nat) (q:Int):List Value:= [.int .u64 ((i:Nat):Int), .int .i64 j, .int .u64 ((k:Nat):Int), .int .u64 ((l:Nat):Int), .slice m a b, .slice n c d, .slice o e f, .slice p g h, .int .i64 q]
abbrev Cz (x:dK) (a:Option Addr) (b:Nat) (c:Option Addr) (c1:Nat) (d:Option Addr) (c2:Nat) (e:Option Addr) (c3:Nat):List Value:= [.int .u64 ((x.aR:Nat):Int), .int .i64 x.aM, .int .u64 ((x.aS:Nat):Int), .int .u64 ((x.dh:Nat):Int), .slice a x.bV.ls.length b, .slice c x.aG.ls.length c1, .slice d x.bD.ls.length c2, .slice e x.af.ls.length c3, .int .i64 x.eO]
structure l7 where
 cO:Bool
 aS:Nat
 dA:Int
 af:Sv ae
def l7.cells (x:l7):List Value:= [.bool x.cO, .int .u64 ((x.aS:Nat):Int), .int .i64 x.dA, .slice x.af.A x.af.ls.length x.af.c]
instance:Bk l7:=⟨λ x _=>bk x.cO+(bk x.aS+(bk x.dA+(bk x.af+(0))))⟩
theorem l7.len:∀ x,(l7.cells x).length=4:=λ _=>rfl
theorem l7.one:∀ x, ∀ u ∈ l7.cells x,u.oneCell'=true:=λ x u hu=>by
 simp only [l7.cells,u9,y6,or_false] at hu
 rcases hu with rfl | rfl | rfl | rfl <;> rfl
def KT (w:World) (x:l7):Prop:=(True)/\(x.aS<=18446744073709551615)/\((-9223372036854775808)<=x.dA/\x.dA<=9223372036854775807)/\(mI w 3 48 ae.cells (Jk w) x.af)
instance:Inhabited l7:=⟨⟨default,default,default,default⟩⟩
structure df where
 cO:Bool
 aS:Nat
 dA:Int
 af:Ll aQ
instance:Inhabited df:=⟨⟨default,default,default,default⟩⟩
def l7.abs (x:l7):df:=⟨x.cO,x.aS,x.dA,⟨s5 ae.abs x.af.ls⟩⟩
def l7.own (x:l7):List HP:= [row x.af.A x.af.ls.length x.af.c (q3 ae.cells x.af.ls) 149 3,sepL (q3 ae.own x.af.ls)]
structure aA where
 aa:cZ
 bP:Nat
 ay:Ll dK
 bK:df
 bA:df
 bz:df
 bv:df
 bq:df
 dP:Nat
 dH:Nat
 dI:Nat
 dG:Nat
 dJ:Nat
instance:Inhabited aA:=⟨⟨default,default,default,default,default,default,default,default,default,default,default,default,default⟩⟩
theorem Ev:Elem v8 126 154 1 8:=lv (z:= .int .i64 0) Tryz.underlying126 e7 rfl f4
structure l8 where
 mG:Int
 pM:Int
 cK:Sv Int
def l8.cells (x:l8):List Value:= [.int .i64 x.mG, .int .i64 x.pM, .slice x.cK.A x.cK.ls.length x.cK.c]
instance:Bk l8:=⟨λ x _=>bk x.mG+(bk x.pM+(bk x.cK+(0)))⟩
theorem l8.len:∀ x,(l8.cells x).length=3:=λ _=>rfl
theorem l8.one:∀ x, ∀ u ∈ l8.cells x,u.oneCell'=true:=λ x u hu=>by
 simp only [l8.cells,u9,y6,or_false] at hu
 rcases hu with rfl | rfl | rfl <;> rfl
def KU (w:World) (x:l8):Prop:=((-9223372036854775808)<=x.mG/\x.mG<=9223372036854775807)/\((-9223372036854775808)<=x.pM/\x.pM<=9223372036854775807)/\(mI w 1 8 (eI .i64) (λ n=>(-9223372036854775808)<=n/\n<=9223372036854775807) x.cK)
instance:Inhabited l8:=⟨⟨default,default,default⟩⟩
structure gZ where
 mG:Int
 pM:Int
 cK:Ll Int
instance:Inhabited gZ:=⟨⟨default,default,default⟩⟩
def l8.abs (x:l8):gZ:=⟨x.mG,x.pM,⟨x.cK.ls⟩⟩
def l8.own (x:l8):List HP:= [row x.cK.A x.cK.ls.length x.cK.c (q3 (eI .i64) x.cK.ls) 154 1]
structure bI where
 aX:Ll bL
instance:Inhabited bI:=⟨⟨default⟩⟩
theorem yf:Elem v8 134 5 1 1:=lv (z:= .int .u8 0) Tryz.underlying134 e7 rfl f4
structure l9 where
 xb:Sv UInt8
def l9.cells (x:l9):List Value:= [.slice x.xb.A x.xb.ls.length x.xb.c]
instance:Bk l9:=⟨λ x _=>bk x.xb+(0)⟩
theorem l9.len:∀ x,(l9.cells x).length=1:=λ _=>rfl
theorem l9.one:∀ x, ∀ u ∈ l9.cells x,u.oneCell'=true:=λ x u hu=>by
 simp only [l9.cells,u9,y6,or_false] at hu
 rcases hu with rfl <;> rfl
def KV (w:World) (x:l9):Prop:=(mI w 1 1 eB (λ _=>True) x.xb)
instance:Inhabited l9:=⟨⟨default⟩⟩
structure dR where
 xb:Ll UInt8
instance:Inhabited dR:=⟨⟨default⟩⟩
def l9.abs (x:l9):dR:=⟨⟨x.xb.ls⟩⟩
def l9.own (x:l9):List HP:= [row x.xb.A x.xb.ls.length x.xb.c (q3 eB x.xb.ls) 5 1]
theorem Ew:Elem v8 245 9 1 16:=lv (z:= .string ⟨v9 []⟩) Tryz.underlying245 e7 rfl f4
def gV (a:Int) (b:Int):Bool:=
 if a >= 1 then decide (a<=b) else false
theorem mq (w D b c f) (H:Own w D w []) (hr:gV b c=f):
    Calls v8 40 #[vI b,vI c] w (d9 λ v w'=>v= .bool f/\Own w D w' []):=by
 unfold gV at hr
 refine cb Tryz.func40 ?_
 refine sr (Ar rfl (Mz rfl (Kz (.bool (decide (b >= 1))) (Mz rfl ?_))))
 by_cases a:b >= 1
 refine gw (vI b) (dT a) (Iq rfl) (gw (vI c) (dT a) (Iq rfl) (Gz (.bool (decide (b<=c))) (dT a) (fw (.bool (decide (b<=c))) (Iw rfl (dT a) rfl) (An rfl (rt (rs ?_))))))
 have d:=H.pk []
 obtain rfl:=zj hr zq1
 exact⟨rfl,d⟩
 refine Sz (dF a) (Sz (dF a) (Sz (dF a) (fw (.bool false) (Ih rfl (dF a) rfl) (An rfl (rt (rs ?_))))))
 have e:=H.pk []
 obtain rfl:=zj hr zq1
 exact⟨rfl,e⟩
def sJ (a:Int):Bool:=
 if a >= 1 then decide (a<=4) else false
theorem xD (w D b e) (H:Own w D w []) (hr:sJ b=e):
    Calls v8 111 #[vI b] w (d9 λ v w'=>v= .bool e/\Own w D w' []):=by
 unfold sJ at hr
 refine cb Tryz.func111 ?_
 refine sr (Ar rfl (Mz rfl (Kz (.bool (decide (b >= 1))) (Mz rfl ?_))))
 by_cases a:b >= 1
 refine gw (vI b) (dT a) (Iq rfl) (Gz (.bool (decide (b<=4))) (dT a) (fw (.bool (decide (b<=4))) (Iw rfl (dT a) rfl) (An rfl (rt (rs ?_)))))
 have c:=H.pk []
 obtain rfl:=zj hr zq1
 exact⟨rfl,c⟩
 refine Sz (dF a) (Sz (dF a) (fw (.bool false) (Ih rfl (dF a) rfl) (An rfl (rt (rs ?_)))))
 have d:=H.pk []
 obtain rfl:=zj hr zq1
 exact⟨rfl,d⟩
def ib (a:List UInt8):Int:=
 if(a.length:Int) < 1 then 20 else if(a.length:Int) > 12 then 20 else 0
theorem kM (w D b d) (H:Own w D w []) (hr:ib b=d):
    Calls v8 112 #[.string ⟨v9 b⟩] w (d9 λ v w'=>v=vI d/\Own w D w' []/\(¬ (d=0)\/(1<=b.length/\b.length<=12))/\(b.length < 1\/b.length > 12\/d=0)):=by
 unfold ib at hr
 refine cb Tryz.func112 ?_
 refine sr (An rfl (Ic (sr (Mz rfl (Kz (vJ b.length) (Kz (.bool (decide ((b.length:Int) < 1))) (Mz rfl ?_)))))))
 by_cases a:(b.length:Int) < 1
 refine Sz (dT a) (Sz (dT a) (Sz (dT a) (fw (.bool true) (Iw rfl (dT a) rfl) (nt (jt (sr (An rfl (rt (tR (rs ?_))))))))))
 have e:=H.pk []
 obtain rfl:=zj hr zq1
 exact⟨rfl,e,e6,e6⟩
 refine gw (.string ⟨v9 b⟩) (dF a) (Iq rfl) (Gz (vJ b.length) (dF a) (Gz (.bool (decide ((b.length:Int) > 12))) (dF a) (fw (.bool (decide ((b.length:Int) > 12))) (Ih rfl (dF a) rfl) (nt ?_))))
 by_cases c:(b.length:Int) > 12
 refine jT (dT c) (sr (An rfl (rt (tR (rs ?_)))))
 have f:=H.pk []
 obtain rfl:=zj hr zq2
 exact⟨rfl,f,e6,e6⟩
 refine jF (dF c) (sk (sr (An rfl (rt (rs ?_)))))
 have g:=H.pk []
 obtain rfl:=zj hr zq2
 exact⟨rfl,g,e6,e6⟩
def iT (l0:List aY):List aY->Nat->Unit ⊕ Int
  | [],a=>B9 ()
  | b::c,a=>bnd (sJ b.eG) λ d=>if d=true then if(a:Int) > 0 then bnd (ib b.bF) λ e=>if e=0 then bnd (C0 l0 (a - 1) default) λ f=>if b.bF<=f.bF then C1 (170) else iT l0 c (a+1) else C1 (170) else iT l0 c (a+1) else C1 (170)
def kR (l0:List aY):Int:=
 if(l0.length:Int) < 1 then 170 else if(l0.length:Int) > 6 then 170 else bnd (C0 l0 0 default) λ a=>if a.bF≠[] then 170 else lp (iT l0 l0 0) λ _=>0
theorem rM (w D h W G l0 X) (H:Own w D w []) (j:Ro w D λ w'=>bE w' 2 h W (q3 aY.cells l0)) (Y:W=l0.length) (aD:l0.length<=9223372036854775807) (hr:kR l0=X):
    Calls v8 72 #[.slice h W G] w (d9 λ v w'=>v=vI X/\Own w D w' []/\(¬ (X=0)\/(1<=l0.length/\l0.length<=6))):=by
 unfold kR at hr
 subst Y
 refine cb Tryz.func72 ?_
 refine sr (An rfl (Ic (sr (Mz rfl (Kz (vJ l0.length) (Kz (.bool (decide ((l0.length:Int) < 1))) (Mz rfl ?_)))))))
 by_cases g:(l0.length:Int) < 1
 refine Sz (dT g) (Sz (dT g) (Sz (dT g) (fw (.bool true) (Iw rfl (dT g) rfl) (Mz rfl (Sz rfl (Sz rfl (Sz rfl (Sz rfl (Sz rfl (fw (.bool true) (Iw rfl rfl rfl) (nt (jt (sr (An rfl (rt (tR (rs ?_)))))))))))))))))
 have Z:=H.pk []
 obtain rfl:=zj hr zq1
 exact⟨rfl,Z,e6⟩
 refine gw (.slice h l0.length G) (dF g) (Iq rfl) (Gz (vJ l0.length) (dF g) (Gz (.bool (decide ((l0.length:Int) > 6))) (dF g) (fw (.bool (decide ((l0.length:Int) > 6))) (Ih rfl (dF g) rfl) (Mz rfl ?_))))
 by_cases d:(l0.length:Int) > 6
 refine Sz (dT d) (Sz (dT d) (Sz (dT d) (Sz (dT d) (Sz (dT d) (fw (.bool true) (Iw rfl (dT d) rfl) (nt (jt (sr (An rfl (rt (tR (rs ?_))))))))))))
 have aa:=H.pk []
 obtain rfl:=zj hr zq2
 exact⟨rfl,aa,e6⟩
 refine gw (.slice h l0.length G) (dF d) (Iq rfl) ?_
 obtain⟨C,l⟩:=dN (ls:=l0) (i:=0) aY.len f4 (H.ro j) e9
 refine gw (.pointer (some ⟨ab h,ao h+0 *2,none⟩)) (dF d) (Ij (qY) rfl rfl ((H.ro j).addr (i:=0) e6) e6) (Gz (.pointer (some ⟨ab h,ao h+0 *2,none⟩)) (dF d) (gw (.string ⟨v9 C.bF⟩) (dF d) (Io rfl (bZ.one C2 (((H.ro j).elem aY.len l f4).at_ (k:=0) rfl))) (gw (.bool (decide (C.bF≠[]))) (dF d) (Js rfl rfl) (fw (.bool (decide (C.bF≠[]))) (Ih rfl (dF d) rfl) (nt ?_)))))
 by_cases r:C.bF≠[]
 refine jT (dT r) (sr (An rfl (rt (tR (rs ?_)))))
 have ae:=H.pk []
 obtain rfl:=zj hr zq4
 exact⟨rfl,ae,e6⟩
 refine jF (dF r) (sk (Ic (sr (Mz rfl (Kz (vJ l0.length) (Mn rfl (bo ?_)))))))
 have af:=H.pk []
 obtain⟨ag,u⟩:=nQ λ (a:Nat) w'=>Own w D w' []/\a<=l0.length/\iT l0 l0 0=iT l0 (r3 a l0) a
 refine C3 (λ i:Nat=> [(2,vI 0),(21,vJ i),(20,vJ l0.length),(0, .slice h l0.length G)]) ag (λ i=>l0.length - i) 0 ⟨rfl,rfl,rfl,rfl,trivial⟩ (u.2 ⟨af,e6,rfl⟩) ?_
 rintro a aF L
 obtain⟨z,ay,m⟩:=u.1 L
 refine sr (Kz (.bool (decide ((a:Int) < (l0.length:Int)))) (nt (Ic ?_)))
 by_cases M:(a:Int) < (l0.length:Int)
 obtain⟨f,x⟩:=dN (ls:=l0) (i:=a) aY.len f4 (z.ro j) e9
 have o:=drop_at x
 refine jT (dT M) (sk (Ic (bo (sr (Mz rfl (An rfl (Ic (sr (Mz rfl (Mz rfl (fw (.pointer (some ⟨ab h,ao h+a *2,none⟩)) (Ij (qY) rfl rfl ((z.ro j).addr (i:=a) e6) e6) (Kz (.pointer (some ⟨ab h,ao h+a *2+1,none⟩)) (fw (vI f.eG) (Io rfl (bZ.one C4 (((z.ro j).elem aY.len x f4).at_ (k:=1) rfl))) ?_)))))))))))))
 obtain⟨K,n⟩:∃ q,sJ f.eG=q:=⟨_,rfl⟩
 obtain⟨aG,N,az,O,aA⟩:=Ii z
 refine cl Tryz.call111 (xD _ _ f.eG K N n) ?_
 rintro _ aH ⟨rfl,P⟩
 have Q:=O _ _ P
 refine Kz (.bool (!K)) (nt ?_)
 rcases Li (K) with p | p
 refine jF (cn p) (sk (Ic ?_))
 refine Hm [] (Iu (bQ.block (Iu (Iu (bQ.block (Iu IC)))))) Q ?_
 intro aI R
 refine qv 0 rfl rfl (qk (.bool (decide ((a:Int) > 0))) 1 rfl (qv 2 rfl rfl ?_))
 by_cases c:(a:Int) > 0
 refine Ip (v:= .slice h l0.length G) (rs:= []) 3 rfl rfl rfl (dT c) e7 (λ _ _=>Iq rfl) (Ip (v:=vJ a) (rs:= []) 4 rfl rfl rfl (dT c) e7 (λ _ _=>Iq rfl) (Ip (v:= .pointer (some ⟨ab h,ao h+a *2,none⟩)) (rs:= []) 5 rfl rfl rfl (dT c) e7 (λ _ ⟨_,A⟩=>Ij (qY) rfl rfl ((A.ro j).addr (i:=a) e6) e6) (Ip (v:= .pointer (some ⟨ab h,ao h+a *2,none⟩)) (rs:= []) 6 rfl rfl rfl (dT c) e7 (λ _ _=>yk) (Ip (v:= .string ⟨v9 f.bF⟩) (rs:= []) 7 rfl rfl rfl (dT c) e7 (λ _ ⟨_,A⟩=>Io rfl (bZ.one C2 (((A.ro j).elem aY.len x f4).at_ (k:=0) rfl))) ?_))))
 obtain⟨s,y⟩:∃ q,ib f.bF=q:=⟨_,rfl⟩
 obtain⟨aJ,S,aB,T,aC⟩:=Ii R
 refine Ju 8 rfl rfl rfl (dT c) e7 (Iz Tryz.call112 rfl (kM _ _ f.bF s S y) ?_)
 rintro _ aK ⟨rfl,U,I,J⟩
 have E:=T _ _ U
 replace I: ¬ (s=0)\/(1<=f.bF.length/\f.bF.length<=12):=I
 replace J:f.bF.length < 1\/f.bF.length > 12\/s=0:=J
 refine⟨.inr ⟨_,E⟩, ?_⟩
 refine Ip (v:= .bool (decide (¬ (s=0)))) (rs:= []) 9 rfl rfl rfl (dT c) e7 (λ _ _=>IG (e:= !(decide (s=0))) yk decide_not.symm) (Ip (v:= .bool (decide (¬ (s=0)))) (rs:= []) 10 rfl rfl rfl (dT c) e7 (λ _ _=>Iq rfl) ?_)
 by_cases b:s=0
 refine Ip (v:= .slice h l0.length G) (rs:= []) 11 rfl rfl rfl (dF (Lh b)) e7 (λ _ _=>Iq rfl) (Ip (v:=vJ a) (rs:= []) 12 rfl rfl rfl (dF (Lh b)) e7 (λ _ _=>Iq rfl) (Ip (v:= .pointer (some ⟨ab h,ao h+a *2,none⟩)) (rs:= []) 13 rfl rfl rfl (dF (Lh b)) e7 (λ _ ⟨_,A⟩=>Ij (qY) rfl rfl ((A.ro j).addr (i:=a) e6) e6) (Ip (v:= .pointer (some ⟨ab h,ao h+a *2,none⟩)) (rs:= []) 14 rfl rfl rfl (dF (Lh b)) e7 (λ _ _=>yk) (Ip (v:= .string ⟨v9 f.bF⟩) (rs:= []) 15 rfl rfl rfl (dF (Lh b)) e7 (λ _ ⟨_,A⟩=>Io rfl (bZ.one C2 (((A.ro j).elem aY.len x f4).at_ (k:=0) rfl))) (Ip (v:= .slice h l0.length G) (rs:= []) 16 rfl rfl rfl (dF (Lh b)) e7 (λ _ _=>Iq rfl) (Ip (v:=vJ a) (rs:= []) 17 rfl rfl rfl (dF (Lh b)) e7 (λ _ _=>Iq rfl) (Ip (v:=vJ (a - 1)) (rs:= []) 18 rfl rfl rfl (dF (Lh b)) e7 (λ _ _=>Ie (e:=C5.wrap ((a:Int) - 1)) yk f0) ?_)))))))
 obtain⟨t,B⟩:=jN (ls:=l0) (i:=a - 1) e9
 refine Ip (v:= .pointer (some ⟨ab h,ao h+(a - 1) *2,none⟩)) (rs:= []) 19 rfl rfl rfl (dF (Lh b)) e7 (λ _ ⟨_,A⟩=>Ij (qY) rfl rfl ((A.ro j).addr (i:=a - 1) e6) e6) (Ip (v:= .pointer (some ⟨ab h,ao h+(a - 1) *2,none⟩)) (rs:= []) 20 rfl rfl rfl (dF (Lh b)) e7 (λ _ _=>yk) (Ip (v:= .string ⟨v9 t.bF⟩) (rs:= []) 21 rfl rfl rfl (dF (Lh b)) e7 (λ _ ⟨_,A⟩=>Io rfl (bZ.one C2 (((A.ro j).elem aY.len B f4).at_ (k:=0) rfl))) (Ip (v:= .bool (decide (f.bF<=t.bF))) (rs:= []) 22 rfl rfl rfl (dF (Lh b)) e7 (λ _ _=>IG (e:=Op.bytesLess f.bF t.bF || decide (f.bF=t.bF)) (JA rfl rfl) (zN _ _)) (Ip (v:= .bool (decide (f.bF<=t.bF))) (rs:= []) 23 rfl rfl rfl (dT c) e7 (λ _ _=>Ih rfl (dF (Lh b)) rfl) (qt (v:= .bool (decide (f.bF<=t.bF))) 24 rfl (λ _ _=>Iw rfl (dT c) rfl) (qn (Ig ?_)))))))
 by_cases F:f.bF<=t.bF
 refine jT (dT F) (sr (An rfl (rt (bR (tR (tR (bR (tR (rs ?_)))))))))
 have ai:=E.pk []
 obtain rfl:_=170:=zj hr (et (iN g) (et (iN d) (et (ah (bJ l)) (et (iN r) (jm (et (m) (et (congrArg (λ q=>iT l0 q a) o) (et (ah n) (et (ip p) (et (ip c) (et (ah y) (et (ip b) (et (ah (bJ B)) (ip F))))))))))))))
 exact⟨rfl,ai,e6⟩
 refine jF (dF F) (IE (bN (Ig (Ib (fw (vJ (a+1)) (Ie (e:=C5.wrap ((a:Int)+1)) yk f0) (Mz rfl (C6 ?_)))))))
 have aj:=E.pk []
 exact Ir (a+1) ⟨rfl,rfl,rfl,rfl,trivial⟩ (u.2 ⟨aj,e6,et (m) (et (congrArg (λ q=>iT l0 q a) o) (et (ah n) (et (ip p) (et (ip c) (et (ah y) (et (ip b) (et (ah (bJ B)) (iN F))))))))⟩) (by show l0.length - (a+1) < l0.length - a; omega)
 refine Ik (rs:= []) 11 rfl rfl rfl (dT b) e7 (Ik (rs:= []) 12 rfl rfl rfl (dT b) e7 (Ik (rs:= []) 13 rfl rfl rfl (dT b) e7 (Ik (rs:= []) 14 rfl rfl rfl (dT b) e7 (Ik (rs:= []) 15 rfl rfl rfl (dT b) e7 (Ik (rs:= []) 16 rfl rfl rfl (dT b) e7 (Ik (rs:= []) 17 rfl rfl rfl (dT b) e7 (Ik (rs:= []) 18 rfl rfl rfl (dT b) e7 (Ik (rs:= []) 19 rfl rfl rfl (dT b) e7 (Ik (rs:= []) 20 rfl rfl rfl (dT b) e7 (Ik (rs:= []) 21 rfl rfl rfl (dT b) e7 (Ik (rs:= []) 22 rfl rfl rfl (dT b) e7 (Ip (v:= .bool true) (rs:= []) 23 rfl rfl rfl (dT c) e7 (λ _ _=>Iw rfl (dT b) rfl) (qt (v:= .bool true) 24 rfl (λ _ _=>Iw rfl (dT c) rfl) (qn (Ig (jt (sr (An rfl (rt (bR (tR (tR (bR (tR (rs ?_)))))))))))))))))))))))))
 have ak:=E.pk []
 obtain rfl:_=170:=zj hr (et (iN g) (et (iN d) (et (ah (bJ l)) (et (iN r) (jm (et (m) (et (congrArg (λ q=>iT l0 q a) o) (et (ah n) (et (ip p) (et (ip c) (et (ah y) (iN b))))))))))))
 exact⟨rfl,ak,e6⟩
 refine Ik (rs:= []) 3 rfl rfl rfl (dF c) e7 (Ik (rs:= []) 4 rfl rfl rfl (dF c) e7 (Ik (rs:= []) 5 rfl rfl rfl (dF c) e7 (Ik (rs:= []) 6 rfl rfl rfl (dF c) e7 (Ik (rs:= []) 7 rfl rfl rfl (dF c) e7 (Ik (rs:= []) 8 rfl rfl rfl (dF c) e7 (Ik (rs:= []) 9 rfl rfl rfl (dF c) e7 (Ik (rs:= []) 10 rfl rfl rfl (dF c) e7 (IW (rs:= []) 11 rfl rfl rfl e7 (IW (rs:= []) 12 rfl rfl rfl e7 (IW (rs:= []) 13 rfl rfl rfl e7 (IW (rs:= []) 14 rfl rfl rfl e7 (IW (rs:= []) 15 rfl rfl rfl e7 (IW (rs:= []) 16 rfl rfl rfl e7 (IW (rs:= []) 17 rfl rfl rfl e7 (IW (rs:= []) 18 rfl rfl rfl e7 (IW (rs:= []) 19 rfl rfl rfl e7 (IW (rs:= []) 20 rfl rfl rfl e7 (IW (rs:= []) 21 rfl rfl rfl e7 (IW (rs:= []) 22 rfl rfl rfl e7 (Ik (rs:= []) 23 rfl rfl rfl (dF c) e7 (qt (v:= .bool false) 24 rfl (λ _ _=>Ih rfl (dF c) rfl) (qn (Ig (jf (IE (bN (Ig (Ib (fw (vJ (a+1)) (Ie (e:=C5.wrap ((a:Int)+1)) yk f0) (Mz rfl (C6 ?_)))))))))))))))))))))))))))))))
 have au:=R.pk []
 exact Ir (a+1) ⟨rfl,rfl,rfl,rfl,trivial⟩ (u.2 ⟨au,e6,et (m) (et (congrArg (λ q=>iT l0 q a) o) (et (ah n) (et (ip p) (iN c))))⟩) (by show l0.length - (a+1) < l0.length - a; omega)
 refine jT (cn p) (sr (An rfl (rt (tR (bR (tR (tR (bR (tR (rs ?_))))))))))
 have av:=Q.pk []
 obtain rfl:_=170:=zj hr (et (iN g) (et (iN d) (et (ah (bJ l)) (et (iN r) (jm (et (m) (et (congrArg (λ q=>iT l0 q a) o) (et (ah n) (gm p)))))))))
 exact⟨rfl,av,e6⟩
 refine jF (dF M) (C7 (Il ?_))
 have V:iT l0 l0 0=B9 ():=et (m) (et (congrArg (λ q=>iT l0 q a) (fB (ls:=l0) (i:=a) e6)) rfl)
 refine Il (IB (Ig (sr (An rfl (rt (rs ?_))))))
 have ax:=z.pk []
 obtain rfl:_=0:=zj hr (et (iN g) (et (iN d) (et (ah (bJ l)) (et (iN r) (nT V)))))
 exact⟨rfl,ax,e6⟩
def jy (c:cZ):List aY->Unit ⊕ Bool
  | []=>B9 ()
  | a::b=>if a.eG > c.au then C1 (false) else jy c b
def ma (b:cZ):Bool:=
 bnd (kR b.ag.ls) λ a=>if a=0 then lp (jy b b.ag.ls) λ _=>true else false
theorem vL (w D) (a:cZ) (b E f h F j p k G l r r0) (H:Own w D w []) (L:E=a.ag.ls.length) (g:Ro w D λ w'=>bE w' 2 b a.ag.ls.length (q3 aY.cells a.ag.ls)) (ag:a.ag.ls.length<=f/\a.ag.ls.length<=9223372036854775807) (M:s5 aC.abs p=a.aj.ls) (N:F=a.aj.ls.length) (ai:Ro w D λ w'=>bE w' 5 h a.aj.ls.length (q3 aC.cells p)) (aj:a.aj.ls.length<=j/\a.aj.ls.length<=9223372036854775807) (ak:∀ x ∈ p,Ro w D (λ w'=>bE w' 1 x.au.A x.au.ls.length (q3 (eI .i64) x.au.ls))/\(x.au.ls.length<=x.au.c/\x.au.ls.length<=9223372036854775807)) (O:s5 aU.abs r=a.aF.ls) (P:G=a.aF.ls.length) (au:Ro w D λ w'=>bE w' 4 k a.aF.ls.length (q3 aU.cells r)) (av:a.aF.ls.length<=l/\a.aF.ls.length<=9223372036854775807) (ax:∀ x ∈ r,Ro w D (λ w'=>bE w' 3 x.ai.A x.ai.ls.length (q3 ae.cells x.ai.ls))/\(x.ai.ls.length<=x.ai.c/\x.ai.ls.length<=9223372036854775807)/\(∀ R ∈ x.ai.ls,Ro w D (λ w'=>bE w' 2 R.ak.A R.ak.ls.length (q3 aI.cells R.ak.ls))/\(R.ak.ls.length<=R.ak.c/\R.ak.ls.length<=9223372036854775807))) (aN:a.ag.ls.length<=140737488355328/\a.aj.ls.length<=140737488355328/\a.aF.ls.length<=140737488355328) (hr:ma a=r0):
    Calls v8 41 #[.agg #[vI a.au,vU a.av,vU a.aV,vU a.aL, .slice b E f, .slice h F j, .slice k G l]] w (d9 λ v w'=>v= .bool r0/\Own w D w' []):=by
 unfold ma at hr
 subst L N P
 have aa:=aB M
 have af:=aB O
 refine cb Tryz.func41 ?_
 refine sr ?_
 refine dV [vI a.au,vU a.av,vU a.aV,vU a.aL, .slice b a.ag.ls.length f, .slice h a.aj.ls.length j, .slice k a.aF.ls.length l] 33 H ?_
 intro n aO S
 refine An rfl (Ic (sr (Kz (vP n 4) (Lz (.slice b a.ag.ls.length f) S 0 Tryz.isAgg29 ?_))))
 obtain⟨s,m⟩:∃ q,kR a.ag.ls=q:=⟨_,rfl⟩
 obtain⟨aP,T,U,V,aL⟩:=Ii S
 refine cl Tryz.call72 (rM _ _ b a.ag.ls.length f a.ag.ls s T (U _ g) rfl e6 m) ?_
 rintro _ aQ ⟨rfl,W,I⟩
 have Q:=V _ _ W
 replace I: ¬ (s=0)\/(1<=a.ag.ls.length/\a.ag.ls.length<=6):=I
 refine fw (.bool (decide (¬ (s=0)))) (IG (e:= !(decide (s=0))) yk decide_not.symm) (nt ?_)
 by_cases t:s=0
 refine jF (dF (Lh t)) (sk (Ic (sr (Kz (vP n 4) (Lz (.slice b a.ag.ls.length f) Q 0 Tryz.isAgg29 (Kz (vJ a.ag.ls.length) (Mn rfl (bo ?_))))))))
 have ay:=Q.pf []
 obtain⟨az,u⟩:=nQ λ (d:Nat) w'=>Own w D w' [blk n [vI a.au,vU a.av,vU a.aV,vU a.aL, .slice b a.ag.ls.length f, .slice h a.aj.ls.length j, .slice k a.aF.ls.length l] 33]/\d<=a.ag.ls.length/\jy a a.ag.ls=jy a (r3 d a.ag.ls)
 refine C3 (λ i:Nat=> [(2, .bool false),(12,vJ i),(11,vJ a.ag.ls.length),(10, .slice b a.ag.ls.length f),(1,vP n 0)]) az (λ i=>a.ag.ls.length - i) 0 ⟨rfl,rfl,rfl,rfl,rfl,trivial⟩ (u.2 ⟨ay,e6,rfl⟩) ?_
 rintro d aR X
 obtain⟨y,aM,z⟩:=u.1 X
 refine sr (Kz (.bool (decide ((d:Int) < (a.ag.ls.length:Int)))) (nt (Ic ?_)))
 by_cases Y:(d:Int) < (a.ag.ls.length:Int)
 obtain⟨o,J⟩:=dN (ls:=a.ag.ls) (i:=d) aY.len f4 (y.ro g) e9
 have K:=drop_at J
 refine jT (dT Y) (sk (Ic (bo (sr (fw (.pointer (some ⟨ab b,ao b+d *2,none⟩)) (Ij (qY) rfl rfl ((y.ro g).addr (i:=d) e6) e6) (fw (.agg (aY.cells o).toArray) (Io rfl (Iy (cs:=(aY.cells o)) Tryz.isAgg89 Tryz.sizeOf89 ((y.ro g).elem aY.len J f4))) ?_))))))
 refine dV [.string ⟨v9 []⟩,vI 0] 89 y ?_
 intro aA aS aD
 refine dS (aY.cells o) 0 aD Tryz.sizeOf89 ?_
 intro aT B
 refine ns (Kz (vP aA 1) (Lz (vI o.eG) B 0 C4 (Kz (vP n 0) (Lz (vI a.au) B 1 C4 (Kz (.bool (decide (o.eG > a.au))) (nt ?_))))))
 by_cases C:o.eG > a.au
 refine jT (dT C) (sr (An rfl (rt (bR (tR (tR (bR (tR (rs ?_)))))))))
 have aF:=B.pk []
 obtain rfl:_=false:=zj hr (et (ah m) (et (ip t) (jm (et (z) (et (congrArg (λ q=>jy a q) K) (ip C))))))
 exact⟨rfl,aF⟩
 refine jF (dF C) (IE (bN (Ig (Ib (fw (vJ (d+1)) (Ie (e:=C5.wrap ((d:Int)+1)) yk f0) (Mz rfl (C6 ?_)))))))
 have aG:=B.pk [1]
 exact Ir (d+1) ⟨rfl,rfl,rfl,rfl,rfl,trivial⟩ (u.2 ⟨aG,e6,et (z) (et (congrArg (λ q=>jy a q) K) (iN C))⟩) (by show a.ag.ls.length - (d+1) < a.ag.ls.length - d; omega)
 refine jF (dF Y) (C7 (Il ?_))
 have Z:jy a a.ag.ls=B9 ():=et (z) (et (congrArg (λ q=>jy a q) (fB (ls:=a.ag.ls) (i:=d) e6)) rfl)
 refine Il (IB (Ig (sr (An rfl (rt (rs ?_))))))
 have aH:=y.pk []
 obtain rfl:_=true:=zj hr (et (ah m) (et (ip t) (nT Z)))
 exact⟨rfl,aH⟩
 refine jT (dT t) (sr (An rfl (rt (tR (rs ?_)))))
 have aJ:=Q.pk []
 obtain rfl:=zj hr zq2
 exact⟨rfl,aJ⟩
def dU (h:cZ) (c:Nat) (b:bH):List Int->Nat->Unit ⊕ Bool
  | [],a=>B9 ()
  | d::e,a=>bnd (gV d h.au) λ f=>if f=true then if(a:Int) > 0 then bnd (C0 b.au.ls (a - 1) default) λ g=>if d<=g then C1 (false) else dU h c b e (a+1) else dU h c b e (a+1) else C1 (false)
def gB (h:cZ) (g:Nat) (d:bH):List Int->Nat->Unit ⊕ Bool
  | [],a=>B9 ()
  | b::c,a=>bnd (gV b h.au) λ e=>if e=true then if(a:Int) > 0 then bnd (C0 d.au.ls (a - 1) default) λ f=>if b<=f then C1 (false) else gB h g d c (a+1) else gB h g d c (a+1) else C1 (false)
def dO (c:cZ):List bH->Nat->Unit ⊕ Bool
  | [],b=>B9 ()
  | a::e,b=>if(b:Int) > 0 then bnd (C0 c.aj.ls (b - 1) default) λ f=>if(a.aN:Int)<=(f.aN:Int) then C1 (false) else if(a.aN:Int) >= ((eU (D0 (D1.wrap ((c.av:Int)+1))) 32:Nat):Int) then C1 (false) else bnd (gV a.aK 4) λ g=>if g=true then if(a.au.ls.length:Int)=0 then C1 (false) else qU (dU c b a a.au.ls 0) λ _=>dO c e (b+1) else C1 (false) else if(a.aN:Int) >= ((eU (D0 (D1.wrap ((c.av:Int)+1))) 32:Nat):Int) then C1 (false) else bnd (gV a.aK 4) λ d=>if d=true then if(a.au.ls.length:Int)=0 then C1 (false) else qU (gB c b a a.au.ls 0) λ _=>dO c e (b+1) else C1 (false)
def lU (a:cZ):Bool:=
 if(a.aj.ls.length:Int) > 8 then false else lp (dO a a.aj.ls 0) λ _=>true
theorem uZ (w D) (d:cZ) (S aZ T f bf p ag U bg V aO r0) (H:Own w D w []) (bq:aZ=d.ag.ls.length) (dK:Ro w D λ w'=>bE w' 2 S d.ag.ls.length (q3 aY.cells d.ag.ls)) (dL:d.ag.ls.length<=T/\d.ag.ls.length<=9223372036854775807) (az:s5 aC.abs ag=d.aj.ls) (bu:bf=d.aj.ls.length) (O:Ro w D λ w'=>bE w' 5 f d.aj.ls.length (q3 aC.cells ag)) (dM:d.aj.ls.length<=p/\d.aj.ls.length<=9223372036854775807) (o:∀ x ∈ ag,Ro w D (λ w'=>bE w' 1 x.au.A x.au.ls.length (q3 (eI .i64) x.au.ls))/\(x.au.ls.length<=x.au.c/\x.au.ls.length<=9223372036854775807)) (bv:s5 aU.abs aO=d.aF.ls) (bz:bg=d.aF.ls.length) (dP:Ro w D λ w'=>bE w' 4 U d.aF.ls.length (q3 aU.cells aO)) (dQ:d.aF.ls.length<=V/\d.aF.ls.length<=9223372036854775807) (dR:∀ x ∈ aO,Ro w D (λ w'=>bE w' 3 x.ai.A x.ai.ls.length (q3 ae.cells x.ai.ls))/\(x.ai.ls.length<=x.ai.c/\x.ai.ls.length<=9223372036854775807)/\(∀ y1 ∈ x.ai.ls,Ro w D (λ w'=>bE w' 2 y1.ak.A y1.ak.ls.length (q3 aI.cells y1.ak.ls))/\(y1.ak.ls.length<=y1.ak.c/\y1.ak.ls.length<=9223372036854775807))) (fM:d.ag.ls.length<=140737488355328/\d.aj.ls.length<=140737488355328/\d.aF.ls.length<=140737488355328) (hr:lU d=r0):
    Calls v8 42 #[.agg #[vI d.au,vU d.av,vU d.aV,vU d.aL, .slice S aZ T, .slice f bf p, .slice U bg V]] w (d9 λ v w'=>v= .bool r0/\Own w D w' []):=by
 unfold lU at hr
 subst bq bu bz
 have dI:=aB az
 have dJ:=aB bv
 refine cb Tryz.func42 ?_
 refine sr ?_
 refine dV [vI d.au,vU d.av,vU d.aV,vU d.aL, .slice S d.ag.ls.length T, .slice f d.aj.ls.length p, .slice U d.aF.ls.length V] 33 H ?_
 intro y fO aX
 refine An rfl (Ic (sr (Kz (vP y 5) (Lz (.slice f d.aj.ls.length p) aX 0 D2 (Kz (vJ d.aj.ls.length) (Kz (.bool (decide ((d.aj.ls.length:Int) > 8))) (nt ?_)))))))
 by_cases G:(d.aj.ls.length:Int) > 8
 refine jT (dT G) (sr (An rfl (rt (tR (rs ?_)))))
 have dW:=aX.pk []
 obtain rfl:=zj hr zq1
 exact⟨rfl,dW⟩
 refine jF (dF G) (sk (Ic (sr (Kz (vP y 5) (Lz (.slice f d.aj.ls.length p) aX 0 D2 (Kz (vJ d.aj.ls.length) (Mn rfl (bo ?_))))))))
 have dX:=aX.pf []
 obtain⟨dY,aG⟩:=nQ λ (b:Nat) w'=>Own w D w' [blk y [vI d.au,vU d.av,vU d.aV,vU d.aL, .slice S d.ag.ls.length T, .slice f d.aj.ls.length p, .slice U d.aF.ls.length V] 33]/\b<=d.aj.ls.length/\dO d d.aj.ls 0=dO d (r3 b d.aj.ls) b
 refine C3 (λ i:Nat=> [(2, .bool false),(14,vJ i),(13,vJ d.aj.ls.length),(12, .slice f d.aj.ls.length p),(1,vP y 0)]) dY (λ i=>d.aj.ls.length - i) 0 ⟨rfl,rfl,rfl,rfl,rfl,trivial⟩ (aG.2 ⟨dX,e6,rfl⟩) ?_
 rintro b fP bP
 obtain⟨aP,eY,z⟩:=aG.1 bP
 refine sr (Kz (.bool (decide ((b:Int) < (d.aj.ls.length:Int)))) (nt (Ic ?_)))
 by_cases bS:(b:Int) < (d.aj.ls.length:Int)
 obtain⟨a,t⟩:=dN (ls:=ag) (i:=b) aC.len f4 (aP.ro O) e9
 have bT:=fF az t
 have eZ:=(o _ (D3 t)).2
 have C:=drop_at bT
 refine jT (dT bS) (sk (Ic (bo (sr (Mz rfl (fw (.pointer (some ⟨ab f,ao f+b *5,none⟩)) (Ij (kW) rfl rfl ((aP.ro O).addr (i:=b) e6) e6) (fw (.agg (aC.cells a).toArray) (Io rfl (Iy (cs:=(aC.cells a)) Tryz.isAgg60 Tryz.sizeOf60 ((aP.ro O).elem aC.len t f4))) ?_)))))))
 refine dV [.int .u64 0,vI 0, .int .u64 0, .int .u64 0, .slice none 0 0] 60 aP ?_
 intro j fQ dZ
 refine Az rfl ?_
 refine dS (aC.cells a) 0 dZ Tryz.sizeOf60 ?_
 intro fT ed
 refine nt (Ic (Ic ?_))
 refine qy [] (Iu (Iu (bQ.block (Iu (Iu (bQ.block (Iu IC))))))) ed ?_
 intro fU aA
 refine qv 0 rfl rfl (qk (.bool (decide ((b:Int) > 0))) 1 rfl (qv 2 rfl rfl ?_))
 by_cases l:(b:Int) > 0
 refine Ip (v:=vP j 0) (rs:= []) 3 rfl rfl rfl (dT l) e7 (λ _ _=>yk) (Ip (v:=vU a.aN) (rs:= []) 4 rfl rfl rfl (dT l) e7 (λ _ ⟨_,H9⟩=>Io rfl (bZ.one D4 (jR.of (H9.cls (i:=0) rfl) rfl))) (Ip (v:=vP y 5) (rs:= []) 5 rfl rfl rfl (dT l) e7 (λ _ _=>yk) (Ip (v:= .slice f d.aj.ls.length p) (rs:= []) 6 rfl rfl rfl (dT l) e7 (λ _ ⟨_,H9⟩=>Io rfl (bZ.one D2 (jR.of (H9.cls (i:=1) rfl) rfl))) (Ip (v:=vJ b) (rs:= []) 7 rfl rfl rfl (dT l) e7 (λ _ _=>Iq rfl) (Ip (v:=vJ (b - 1)) (rs:= []) 8 rfl rfl rfl (dT l) e7 (λ _ _=>Ie (e:=C5.wrap ((b:Int) - 1)) yk f0) ?_)))))
 obtain⟨N,aQ⟩:=jN (ls:=ag) (i:=b - 1) e9
 have P:=fF az aQ
 have fe:=(o _ (D3 aQ)).2
 refine Ip (v:= .pointer (some ⟨ab f,ao f+(b - 1) *5,none⟩)) (rs:= []) 9 rfl rfl rfl (dT l) e7 (λ _ ⟨_,H9⟩=>Ij (kW) rfl rfl ((H9.ro O).addr (i:=b - 1) e6) e6) (Ip (v:= .pointer (some ⟨ab f,ao f+(b - 1) *5,none⟩)) (rs:= []) 10 rfl rfl rfl (dT l) e7 (λ _ _=>yk) (Ip (v:=vU N.aN) (rs:= []) 11 rfl rfl rfl (dT l) e7 (λ _ ⟨_,H9⟩=>Io rfl (bZ.one D4 (((H9.ro O).elem aC.len aQ f4).at_ (k:=0) rfl))) (Ip (v:= .bool (decide ((a.aN:Int)<=(N.aN:Int)))) (rs:= []) 12 rfl rfl rfl (dT l) e7 (λ _ _=>yk) (qt (v:= .bool (decide ((a.aN:Int)<=(N.aN:Int)))) 13 rfl (λ _ _=>Iw rfl (dT l) rfl) (qv 14 rfl rfl ?_)))))
 by_cases u:(a.aN:Int)<=(N.aN:Int)
 refine Ik (rs:= []) 15 rfl rfl rfl (dT u) e7 (Ik (rs:= []) 16 rfl rfl rfl (dT u) e7 (Ik (rs:= []) 17 rfl rfl rfl (dT u) e7 (Ik (rs:= []) 18 rfl rfl rfl (dT u) e7 (Ik (rs:= []) 19 rfl rfl rfl (dT u) e7 (Ik (rs:= []) 20 rfl rfl rfl (dT u) e7 (Ik (rs:= []) 21 rfl rfl rfl (dT u) e7 (qt (v:= .bool true) 22 rfl (λ _ _=>Iw rfl (dT u) rfl) (qn (Ig (jt (sr (An rfl (rt (tR (bR (tR (tR (bR (tR (rs ?_))))))))))))))))))))
 have ek:=aA.pk []
 obtain rfl:_=false:=zj hr (et (iN G) (jm (et (z) (et (congrArg (λ q=>dO d q b) C) (et (ip l) (et (ah (bJ P)) (ip u)))))))
 exact⟨rfl,ek⟩
 refine Ip (v:=vP j 0) (rs:= []) 15 rfl rfl rfl (dF u) e7 (λ _ _=>yk) (Ip (v:=vU a.aN) (rs:= []) 16 rfl rfl rfl (dF u) e7 (λ _ ⟨_,H9⟩=>Io rfl (bZ.one D4 (jR.of (H9.cls (i:=0) rfl) rfl))) (Ip (v:=vP y 1) (rs:= []) 17 rfl rfl rfl (dF u) e7 (λ _ _=>yk) (Ip (v:=vU d.av) (rs:= []) 18 rfl rfl rfl (dF u) e7 (λ _ ⟨_,H9⟩=>Io rfl (bZ.one D4 (jR.of (H9.cls (i:=1) rfl) rfl))) (Ip (v:= .int .u64 ((D0 (D1.wrap ((d.av:Int)+1)):Nat):Int)) (rs:= []) 19 rfl rfl rfl (dF u) e7 (λ _ _=>Ie (e:=D1.wrap ((d.av:Int)+1)) yk (fD _)) ?_))))
 have fo:eU (D0 (D1.wrap ((d.av:Int)+1))) 32<=18446744073709551615:=nZ _ _
 refine Ip (v:= .int .u64 ((eU (D0 (D1.wrap ((d.av:Int)+1))) 32:Nat):Int)) (rs:= []) 20 rfl rfl rfl (dF u) e7 (λ _ _=>Ie (Jv (m:=32) rfl rfl) (fD _)) (Ip (v:= .bool (decide ((a.aN:Int) >= ((eU (D0 (D1.wrap ((d.av:Int)+1))) 32:Nat):Int)))) (rs:= []) 21 rfl rfl rfl (dF u) e7 (λ _ _=>yk) (qt (v:= .bool (decide ((a.aN:Int) >= ((eU (D0 (D1.wrap ((d.av:Int)+1))) 32:Nat):Int)))) 22 rfl (λ _ _=>Ih rfl (dF u) rfl) (qn (Ig ?_))))
 by_cases ai:(a.aN:Int) >= ((eU (D0 (D1.wrap ((d.av:Int)+1))) 32:Nat):Int)
 refine jT (dT ai) (sr (An rfl (rt (tR (bR (tR (tR (bR (tR (rs ?_))))))))))
 have eu:=aA.pk []
 obtain rfl:_=false:=zj hr (et (iN G) (jm (et (z) (et (congrArg (λ q=>dO d q b) C) (et (ip l) (et (ah (bJ P)) (et (iN u) (ip ai))))))))
 exact⟨rfl,eu⟩
 refine jF (dF ai) (sk (Ic (sr (Kz (vP j 1) (Lz (vI a.aK) aA 0 C4 ?_)))))
 obtain⟨Z,W⟩:∃ q,gV a.aK 4=q:=⟨_,rfl⟩
 obtain⟨fV,bU,fq,bV,fu⟩:=Ii aA
 refine cl E0 (mq _ _ a.aK 4 Z bU W) ?_
 rintro _ fZ ⟨rfl,bW⟩
 have aR:=bV _ _ bW
 refine Kz (.bool (!Z)) (Mz rfl ?_)
 rcases Li (Z) with F | F
 refine Gz (vP j 4) (cn F) (Gl (.slice a.au.A a.au.ls.length a.au.c) (cn F) aR 0 E1 (Gz (vJ a.au.ls.length) (cn F) (Gz (.bool (decide ((a.au.ls.length:Int)=0))) (cn F) (fw (.bool (decide ((a.au.ls.length:Int)=0))) (Ih rfl (cn F) rfl) (nt ?_)))))
 by_cases aM:(a.au.ls.length:Int)=0
 refine jT (dT aM) (sr (An rfl (rt (tR (bR (tR (tR (bR (tR (rs ?_))))))))))
 have eB:=aR.pk []
 obtain rfl:_=false:=zj hr (et (iN G) (jm (et (z) (et (congrArg (λ q=>dO d q b) C) (et (ip l) (et (ah (bJ P)) (et (iN u) (et (iN ai) (et (ah W) (et (ip F) (ip aM)))))))))))
 exact⟨rfl,eB⟩
 refine jF (dF aM) (sk (sr (Kz (vP j 4) (Lz (.slice a.au.A a.au.ls.length a.au.c) aR 0 E1 (Kz (vJ a.au.ls.length) (Mn rfl (bo ?_)))))))
 have eD:=aR.pf []
 obtain⟨eF,aH⟩:=nQ λ (h:Nat) w'=>Own w D w' [blk j (aC.cells a) 60,blk y [vI d.au,vU d.av,vU d.aV,vU d.aL, .slice S d.ag.ls.length T, .slice f d.aj.ls.length p, .slice U d.aF.ls.length V] 33]/\h<=a.au.ls.length/\dU d b (aC.abs a) a.au.ls 0=dU d b (aC.abs a) (r3 h a.au.ls) h
 refine C3 (λ i:Nat=> [(2, .bool false),(55,vJ i),(54,vJ a.au.ls.length),(53, .slice a.au.A a.au.ls.length a.au.c),(52,vP j 4),(51, .bool (decide ((a.au.ls.length:Int)=0))),(50, .bool (decide ((a.au.ls.length:Int)=0))),(49,vJ a.au.ls.length),(48, .slice a.au.A a.au.ls.length a.au.c),(47,vP j 4),(46, .bool (!Z)),(45, .bool (!Z)),(44, .bool Z),(43,vI a.aK),(42,vP j 1),(41, .bool (decide ((a.aN:Int) >= ((eU (D0 (D1.wrap ((d.av:Int)+1))) 32:Nat):Int)))),(40, .bool (decide ((a.aN:Int) >= ((eU (D0 (D1.wrap ((d.av:Int)+1))) 32:Nat):Int)))),(39, .int .u64 ((eU (D0 (D1.wrap ((d.av:Int)+1))) 32:Nat):Int)),(38, .int .u64 ((D0 (D1.wrap ((d.av:Int)+1)):Nat):Int)),(37,vU d.av),(36,vP y 1),(35,vU a.aN),(34,vP j 0),(33, .bool (decide ((a.aN:Int)<=(N.aN:Int)))),(32, .bool (decide ((a.aN:Int)<=(N.aN:Int)))),(31, .bool (decide ((a.aN:Int)<=(N.aN:Int)))),(30,vU N.aN),(29, .pointer (some ⟨ab f,ao f+(b - 1) *5,none⟩)),(28, .pointer (some ⟨ab f,ao f+(b - 1) *5,none⟩)),(27,vJ (b - 1)),(26,vJ b),(25, .slice f d.aj.ls.length p),(24,vP y 5),(23,vU a.aN),(22,vP j 0),(21, .bool (decide ((b:Int) > 0))),(20, .bool (decide ((b:Int) > 0))),(19,vJ b),(3,vJ b),(4,vP j 0),(18, .agg (aC.cells a).toArray),(17, .pointer (some ⟨ab f,ao f+b *5,none⟩)),(16,vJ b),(15, .bool (decide ((b:Int) < (d.aj.ls.length:Int)))),(14,vJ b),(13,vJ d.aj.ls.length),(12, .slice f d.aj.ls.length p),(1,vP y 0)]) eF (λ i=>a.au.ls.length - i) 0 ⟨rfl,rfl,rfl,rfl,rfl,rfl,rfl,rfl,rfl,rfl,rfl,rfl,rfl,rfl,rfl,rfl,rfl,rfl,rfl,rfl,rfl,rfl,rfl,rfl,rfl,rfl,rfl,rfl,rfl,rfl,rfl,rfl,rfl,rfl,rfl,rfl,rfl,rfl,rfl,rfl,rfl,rfl,rfl,rfl,rfl,rfl,rfl,rfl,trivial⟩ (aH.2 ⟨eD,e6,rfl⟩) ?_
 rintro h gp bX
 obtain⟨aN,fA,aj⟩:=aH.1 bX
 refine sr (Kz (.bool (decide ((h:Int) < (a.au.ls.length:Int)))) (nt (Ic ?_)))
 by_cases bY:(h:Int) < (a.au.ls.length:Int)
 obtain⟨ak,bi⟩:=dN (ls:=a.au.ls) (i:=h) jd f4 (aN.ro (o _ (D3 t)).1) e9
 have aJ:=drop_at bi
 refine jT (dT bY) (sk (Ic (bo (sr (Mz rfl (fw (.pointer (some ⟨ab a.au.A,ao a.au.A+h *1,none⟩)) (Ij (om) rfl rfl ((aN.ro (o _ (D3 t)).1).addr (i:=h) e6) e6) (fw (vI ak) (Io rfl (bZ.one C4 (((aN.ro (o _ (D3 t)).1).elem jd bi f4).at_ (k:=0) rfl))) (Az rfl (Ar rfl (Mz rfl (Kz (vP y 0) (Lz (vI d.au) aN 1 C4 ?_))))))))))))
 obtain⟨bA,au⟩:∃ q,gV ak d.au=q:=⟨_,rfl⟩
 obtain⟨gq,cu,fC,cz,fE⟩:=Ii aN
 refine cl E0 (mq _ _ ak d.au bA cu au) ?_
 rintro _ gu ⟨rfl,cB⟩
 have av:=cz _ _ cB
 refine Kz (.bool (!bA)) (Mz rfl ?_)
 rcases Li (bA) with E | E
 refine gw (vJ h) (cn E) (Iq rfl) (Gz (.bool (decide ((h:Int) > 0))) (cn E) (gw (.bool (decide ((h:Int) > 0))) (cn E) (Iq rfl) ?_))
 by_cases B:(h:Int) > 0
 refine gw (vI ak) (dT B) (Iq rfl) (Gz (vP j 4) (dT B) (Gl (.slice a.au.A a.au.ls.length a.au.c) (dT B) av 0 E1 (gw (vJ h) (dT B) (Iq rfl) (gw (vJ (h - 1)) (dT B) (Ie (e:=C5.wrap ((h:Int) - 1)) yk f0) ?_))))
 obtain⟨aS,aT⟩:=dN (ls:=a.au.ls) (i:=h - 1) jd f4 (av.ro (o _ (D3 t)).1) e9
 refine gw (.pointer (some ⟨ab a.au.A,ao a.au.A+(h - 1) *1,none⟩)) (dT B) (Ij (om) rfl rfl ((av.ro (o _ (D3 t)).1).addr (i:=h - 1) e6) e6) (gw (vI aS) (dT B) (Io rfl (bZ.one C4 (((av.ro (o _ (D3 t)).1).elem jd aT f4).at_ (k:=0) rfl))) (Gz (.bool (decide (ak<=aS))) (dT B) (gw (.bool (decide (ak<=aS))) (cn E) (Iw rfl (dT B) rfl) (fw (.bool (decide (ak<=aS))) (Ih rfl (cn E) rfl) (nt ?_)))))
 by_cases aK:ak<=aS
 refine jT (dT aK) (sr (An rfl (rt (bR (tR (tR (bR (bR (tR (tR (bR (tR (rs ?_)))))))))))))
 have cK:=av.pk []
 obtain rfl:_=false:=zj hr (et (iN G) (jm (et (z) (et (congrArg (λ q=>dO d q b) C) (et (ip l) (et (ah (bJ P)) (et (iN u) (et (iN ai) (et (ah W) (et (ip F) (et (iN aM) (oF (et (aj) (et (congrArg (λ q=>dU d b (aC.abs a) q h) aJ) (et (ah au) (et (ip E) (et (ip B) (et (ah (bJ aT)) (ip aK)))))))))))))))))))
 exact⟨rfl,cK⟩
 refine jF (dF aK) (IE (bN (Ig (Ib (fw (vJ (h+1)) (Ie (e:=C5.wrap ((h:Int)+1)) yk f0) (Mz rfl (C6 ?_)))))))
 have cO:=av.pf []
 exact Ir (h+1) ⟨rfl,rfl,rfl,rfl,rfl,rfl,rfl,rfl,rfl,rfl,rfl,rfl,rfl,rfl,rfl,rfl,rfl,rfl,rfl,rfl,rfl,rfl,rfl,rfl,rfl,rfl,rfl,rfl,rfl,rfl,rfl,rfl,rfl,rfl,rfl,rfl,rfl,rfl,rfl,rfl,rfl,rfl,rfl,rfl,rfl,rfl,rfl,rfl,trivial⟩ (aH.2 ⟨cO,e6,et (aj) (et (congrArg (λ q=>dU d b (aC.abs a) q h) aJ) (et (ah au) (et (ip E) (et (ip B) (et (ah (bJ aT)) (iN aK))))))⟩) (by show a.au.ls.length - (h+1) < a.au.ls.length - h; omega)
 refine Sz (dF B) (Sz (dF B) (Sz (dF B) (Sz (dF B) (Sz (dF B) (Sz (dF B) (Sz (dF B) (Sz (dF B) (gw (.bool false) (cn E) (Ih rfl (dF B) rfl) (fw (.bool false) (Ih rfl (cn E) rfl) (nt (jf (IE (bN (Ig (Ib (fw (vJ (h+1)) (Ie (e:=C5.wrap ((h:Int)+1)) yk f0) (Mz rfl (C6 ?_))))))))))))))))))
 have df:=av.pf []
 exact Ir (h+1) ⟨rfl,rfl,rfl,rfl,rfl,rfl,rfl,rfl,rfl,rfl,rfl,rfl,rfl,rfl,rfl,rfl,rfl,rfl,rfl,rfl,rfl,rfl,rfl,rfl,rfl,rfl,rfl,rfl,rfl,rfl,rfl,rfl,rfl,rfl,rfl,rfl,rfl,rfl,rfl,rfl,rfl,rfl,rfl,rfl,rfl,rfl,rfl,rfl,trivial⟩ (aH.2 ⟨df,e6,et (aj) (et (congrArg (λ q=>dU d b (aC.abs a) q h) aJ) (et (ah au) (et (ip E) (iN B))))⟩) (by show a.au.ls.length - (h+1) < a.au.ls.length - h; omega)
 refine Sz (cn E) (Sz (cn E) (Sz (cn E) (IR rfl rfl rfl (IR rfl rfl rfl (IR rfl rfl rfl (IR rfl rfl rfl (IR rfl rfl rfl (IR rfl rfl rfl (IR rfl rfl rfl (IR rfl rfl rfl (Sz (cn E) (fw (.bool true) (Iw rfl (cn E) rfl) (nt (jt (sr (An rfl (rt (bR (tR (tR (bR (bR (tR (tR (bR (tR (rs ?_)))))))))))))))))))))))))))
 have dh:=av.pk []
 obtain rfl:_=false:=zj hr (et (iN G) (jm (et (z) (et (congrArg (λ q=>dO d q b) C) (et (ip l) (et (ah (bJ P)) (et (iN u) (et (iN ai) (et (ah W) (et (ip F) (et (iN aM) (oF (et (aj) (et (congrArg (λ q=>dU d b (aC.abs a) q h) aJ) (et (ah au) (gm E))))))))))))))))
 exact⟨rfl,dh⟩
 refine jF (dF bY) (C7 (Il ?_))
 have bB:dU d b (aC.abs a) a.au.ls 0=B9 ():=et (aj) (et (congrArg (λ q=>dU d b (aC.abs a) q h) (fB (ls:=a.au.ls) (i:=h) e6)) rfl)
 refine Il (IB (bN (Ig (Ib (fw (vJ (b+1)) (Ie (e:=C5.wrap ((b:Int)+1)) yk f0) (Mz rfl (C6 ?_)))))))
 have di:=aN.pk [1]
 exact Ir (b+1) ⟨rfl,rfl,rfl,rfl,rfl,trivial⟩ (aG.2 ⟨di,e6,et (z) (et (congrArg (λ q=>dO d q b) C) (et (ip l) (et (ah (bJ P)) (et (iN u) (et (iN ai) (et (ah W) (et (ip F) (et (iN aM) (nY bB)))))))))⟩) (by show d.aj.ls.length - (b+1) < d.aj.ls.length - b; omega)
 refine Sz (cn F) (Sz (cn F) (Sz (cn F) (Sz (cn F) (fw (.bool true) (Iw rfl (cn F) rfl) (nt (jt (sr (An rfl (rt (tR (bR (tR (tR (bR (tR (rs ?_))))))))))))))))
 have dm:=aR.pk []
 obtain rfl:_=false:=zj hr (et (iN G) (jm (et (z) (et (congrArg (λ q=>dO d q b) C) (et (ip l) (et (ah (bJ P)) (et (iN u) (et (iN ai) (et (ah W) (gm F))))))))))
 exact⟨rfl,dm⟩
 refine Ik (rs:= []) 3 rfl rfl rfl (dF l) e7 (Ik (rs:= []) 4 rfl rfl rfl (dF l) e7 (Ik (rs:= []) 5 rfl rfl rfl (dF l) e7 (Ik (rs:= []) 6 rfl rfl rfl (dF l) e7 (Ik (rs:= []) 7 rfl rfl rfl (dF l) e7 (Ik (rs:= []) 8 rfl rfl rfl (dF l) e7 (Ik (rs:= []) 9 rfl rfl rfl (dF l) e7 (Ik (rs:= []) 10 rfl rfl rfl (dF l) e7 (Ik (rs:= []) 11 rfl rfl rfl (dF l) e7 (Ik (rs:= []) 12 rfl rfl rfl (dF l) e7 (qt (v:= .bool false) 13 rfl (λ _ _=>Ih rfl (dF l) rfl) (qv 14 rfl rfl (Ip (v:=vP j 0) (rs:= []) 15 rfl rfl rfl rfl e7 (λ _ _=>yk) (Ip (v:=vU a.aN) (rs:= []) 16 rfl rfl rfl rfl e7 (λ _ ⟨_,H9⟩=>Io rfl (bZ.one D4 (jR.of (H9.cls (i:=0) rfl) rfl))) (Ip (v:=vP y 1) (rs:= []) 17 rfl rfl rfl rfl e7 (λ _ _=>yk) (Ip (v:=vU d.av) (rs:= []) 18 rfl rfl rfl rfl e7 (λ _ ⟨_,H9⟩=>Io rfl (bZ.one D4 (jR.of (H9.cls (i:=1) rfl) rfl))) (Ip (v:= .int .u64 ((D0 (D1.wrap ((d.av:Int)+1)):Nat):Int)) (rs:= []) 19 rfl rfl rfl rfl e7 (λ _ _=>Ie (e:=D1.wrap ((d.av:Int)+1)) yk (fD _)) ?_))))))))))))))))
 have eG:eU (D0 (D1.wrap ((d.av:Int)+1))) 32<=18446744073709551615:=nZ _ _
 refine Ip (v:= .int .u64 ((eU (D0 (D1.wrap ((d.av:Int)+1))) 32:Nat):Int)) (rs:= []) 20 rfl rfl rfl rfl e7 (λ _ _=>Ie (Jv (m:=32) rfl rfl) (fD _)) (Ip (v:= .bool (decide ((a.aN:Int) >= ((eU (D0 (D1.wrap ((d.av:Int)+1))) 32:Nat):Int)))) (rs:= []) 21 rfl rfl rfl rfl e7 (λ _ _=>yk) (qt (v:= .bool (decide ((a.aN:Int) >= ((eU (D0 (D1.wrap ((d.av:Int)+1))) 32:Nat):Int)))) 22 rfl (λ _ _=>Ih rfl rfl rfl) (qn (Ig ?_))))
 by_cases K:(a.aN:Int) >= ((eU (D0 (D1.wrap ((d.av:Int)+1))) 32:Nat):Int)
 refine jT (dT K) (sr (An rfl (rt (tR (bR (tR (tR (bR (tR (rs ?_))))))))))
 have dn:=aA.pk []
 obtain rfl:_=false:=zj hr (et (iN G) (jm (et (z) (et (congrArg (λ q=>dO d q b) C) (et (iN l) (ip K))))))
 exact⟨rfl,dn⟩
 refine jF (dF K) (sk (Ic (sr (Kz (vP j 1) (Lz (vI a.aK) aA 0 C4 ?_)))))
 obtain⟨I,J⟩:∃ q,gV a.aK 4=q:=⟨_,rfl⟩
 obtain⟨fG,bC,eH,bD,eO⟩:=Ii aA
 refine cl E0 (mq _ _ a.aK 4 I bC J) ?_
 rintro _ fH ⟨rfl,bF⟩
 have ax:=bD _ _ bF
 refine Kz (.bool (!I)) (Mz rfl ?_)
 rcases Li (I) with s | s
 refine Gz (vP j 4) (cn s) (Gl (.slice a.au.A a.au.ls.length a.au.c) (cn s) ax 0 E1 (Gz (vJ a.au.ls.length) (cn s) (Gz (.bool (decide ((a.au.ls.length:Int)=0))) (cn s) (fw (.bool (decide ((a.au.ls.length:Int)=0))) (Ih rfl (cn s) rfl) (nt ?_)))))
 by_cases X:(a.au.ls.length:Int)=0
 refine jT (dT X) (sr (An rfl (rt (tR (bR (tR (tR (bR (tR (rs ?_))))))))))
 have dw:=ax.pk []
 obtain rfl:_=false:=zj hr (et (iN G) (jm (et (z) (et (congrArg (λ q=>dO d q b) C) (et (iN l) (et (iN K) (et (ah J) (et (ip s) (ip X)))))))))
 exact⟨rfl,dw⟩
 refine jF (dF X) (sk (sr (Kz (vP j 4) (Lz (.slice a.au.A a.au.ls.length a.au.c) ax 0 E1 (Kz (vJ a.au.ls.length) (Mn rfl (bo ?_)))))))
 have dx:=ax.pf []
 obtain⟨dz,aa⟩:=nQ λ (g:Nat) w'=>Own w D w' [blk j (aC.cells a) 60,blk y [vI d.au,vU d.av,vU d.aV,vU d.aL, .slice S d.ag.ls.length T, .slice f d.aj.ls.length p, .slice U d.aF.ls.length V] 33]/\g<=a.au.ls.length/\gB d b (aC.abs a) a.au.ls 0=gB d b (aC.abs a) (r3 g a.au.ls) g
 refine C3 (λ i:Nat=> [(2, .bool false),(55,vJ i),(54,vJ a.au.ls.length),(53, .slice a.au.A a.au.ls.length a.au.c),(52,vP j 4),(51, .bool (decide ((a.au.ls.length:Int)=0))),(50, .bool (decide ((a.au.ls.length:Int)=0))),(49,vJ a.au.ls.length),(48, .slice a.au.A a.au.ls.length a.au.c),(47,vP j 4),(46, .bool (!I)),(45, .bool (!I)),(44, .bool I),(43,vI a.aK),(42,vP j 1),(41, .bool (decide ((a.aN:Int) >= ((eU (D0 (D1.wrap ((d.av:Int)+1))) 32:Nat):Int)))),(40, .bool (decide ((a.aN:Int) >= ((eU (D0 (D1.wrap ((d.av:Int)+1))) 32:Nat):Int)))),(39, .int .u64 ((eU (D0 (D1.wrap ((d.av:Int)+1))) 32:Nat):Int)),(38, .int .u64 ((D0 (D1.wrap ((d.av:Int)+1)):Nat):Int)),(37,vU d.av),(36,vP y 1),(35,vU a.aN),(34,vP j 0),(33, .bool false),(32, .bool false),(31,undef),(30,undef),(29,undef),(28,undef),(27,undef),(26,undef),(25,undef),(24,undef),(23,undef),(22,undef),(21, .bool (decide ((b:Int) > 0))),(20, .bool (decide ((b:Int) > 0))),(19,vJ b),(3,vJ b),(4,vP j 0),(18, .agg (aC.cells a).toArray),(17, .pointer (some ⟨ab f,ao f+b *5,none⟩)),(16,vJ b),(15, .bool (decide ((b:Int) < (d.aj.ls.length:Int)))),(14,vJ b),(13,vJ d.aj.ls.length),(12, .slice f d.aj.ls.length p),(1,vP y 0)]) dz (λ i=>a.au.ls.length - i) 0 ⟨rfl,rfl,rfl,rfl,rfl,rfl,rfl,rfl,rfl,rfl,rfl,rfl,rfl,rfl,rfl,rfl,rfl,rfl,rfl,rfl,rfl,rfl,rfl,rfl,rfl,rfl,rfl,rfl,rfl,rfl,rfl,rfl,rfl,rfl,rfl,rfl,rfl,rfl,rfl,rfl,rfl,rfl,rfl,rfl,rfl,rfl,rfl,rfl,trivial⟩ (aa.2 ⟨dx,e6,rfl⟩) ?_
 rintro g fI bG
 obtain⟨Y,eP,Q⟩:=aa.1 bG
 refine sr (Kz (.bool (decide ((g:Int) < (a.au.ls.length:Int)))) (nt (Ic ?_)))
 by_cases bn:(g:Int) < (a.au.ls.length:Int)
 obtain⟨L,aV⟩:=dN (ls:=a.au.ls) (i:=g) jd f4 (Y.ro (o _ (D3 t)).1) e9
 have af:=drop_at aV
 refine jT (dT bn) (sk (Ic (bo (sr (Mz rfl (fw (.pointer (some ⟨ab a.au.A,ao a.au.A+g *1,none⟩)) (Ij (om) rfl rfl ((Y.ro (o _ (D3 t)).1).addr (i:=g) e6) e6) (fw (vI L) (Io rfl (bZ.one C4 (((Y.ro (o _ (D3 t)).1).elem jd aV f4).at_ (k:=0) rfl))) (Az rfl (Ar rfl (Mz rfl (Kz (vP y 0) (Lz (vI d.au) Y 1 C4 ?_))))))))))))
 obtain⟨aW,R⟩:∃ q,gV L d.au=q:=⟨_,rfl⟩
 obtain⟨fJ,bH,eQ,bI,eT⟩:=Ii Y
 refine cl E0 (mq _ _ L d.au aW bH R) ?_
 rintro _ fK ⟨rfl,bK⟩
 have M:=bI _ _ bK
 refine Kz (.bool (!aW)) (Mz rfl ?_)
 rcases Li (aW) with r | r
 refine gw (vJ g) (cn r) (Iq rfl) (Gz (.bool (decide ((g:Int) > 0))) (cn r) (gw (.bool (decide ((g:Int) > 0))) (cn r) (Iq rfl) ?_))
 by_cases n:(g:Int) > 0
 refine gw (vI L) (dT n) (Iq rfl) (Gz (vP j 4) (dT n) (Gl (.slice a.au.A a.au.ls.length a.au.c) (dT n) M 0 E1 (gw (vJ g) (dT n) (Iq rfl) (gw (vJ (g - 1)) (dT n) (Ie (e:=C5.wrap ((g:Int) - 1)) yk f0) ?_))))
 obtain⟨ay,aF⟩:=dN (ls:=a.au.ls) (i:=g - 1) jd f4 (M.ro (o _ (D3 t)).1) e9
 refine gw (.pointer (some ⟨ab a.au.A,ao a.au.A+(g - 1) *1,none⟩)) (dT n) (Ij (om) rfl rfl ((M.ro (o _ (D3 t)).1).addr (i:=g - 1) e6) e6) (gw (vI ay) (dT n) (Io rfl (bZ.one C4 (((M.ro (o _ (D3 t)).1).elem jd aF f4).at_ (k:=0) rfl))) (Gz (.bool (decide (L<=ay))) (dT n) (gw (.bool (decide (L<=ay))) (cn r) (Iw rfl (dT n) rfl) (fw (.bool (decide (L<=ay))) (Ih rfl (cn r) rfl) (nt ?_)))))
 by_cases aL:L<=ay
 refine jT (dT aL) (sr (An rfl (rt (bR (tR (tR (bR (bR (tR (tR (bR (tR (rs ?_)))))))))))))
 have dA:=M.pk []
 obtain rfl:_=false:=zj hr (et (iN G) (jm (et (z) (et (congrArg (λ q=>dO d q b) C) (et (iN l) (et (iN K) (et (ah J) (et (ip s) (et (iN X) (oF (et (Q) (et (congrArg (λ q=>gB d b (aC.abs a) q g) af) (et (ah R) (et (ip r) (et (ip n) (et (ah (bJ aF)) (ip aL)))))))))))))))))
 exact⟨rfl,dA⟩
 refine jF (dF aL) (IE (bN (Ig (Ib (fw (vJ (g+1)) (Ie (e:=C5.wrap ((g:Int)+1)) yk f0) (Mz rfl (C6 ?_)))))))
 have dB:=M.pf []
 exact Ir (g+1) ⟨rfl,rfl,rfl,rfl,rfl,rfl,rfl,rfl,rfl,rfl,rfl,rfl,rfl,rfl,rfl,rfl,rfl,rfl,rfl,rfl,rfl,rfl,rfl,rfl,rfl,rfl,rfl,rfl,rfl,rfl,rfl,rfl,rfl,rfl,rfl,rfl,rfl,rfl,rfl,rfl,rfl,rfl,rfl,rfl,rfl,rfl,rfl,rfl,trivial⟩ (aa.2 ⟨dB,e6,et (Q) (et (congrArg (λ q=>gB d b (aC.abs a) q g) af) (et (ah R) (et (ip r) (et (ip n) (et (ah (bJ aF)) (iN aL))))))⟩) (by show a.au.ls.length - (g+1) < a.au.ls.length - g; omega)
 refine Sz (dF n) (Sz (dF n) (Sz (dF n) (Sz (dF n) (Sz (dF n) (Sz (dF n) (Sz (dF n) (Sz (dF n) (gw (.bool false) (cn r) (Ih rfl (dF n) rfl) (fw (.bool false) (Ih rfl (cn r) rfl) (nt (jf (IE (bN (Ig (Ib (fw (vJ (g+1)) (Ie (e:=C5.wrap ((g:Int)+1)) yk f0) (Mz rfl (C6 ?_))))))))))))))))))
 have dC:=M.pf []
 exact Ir (g+1) ⟨rfl,rfl,rfl,rfl,rfl,rfl,rfl,rfl,rfl,rfl,rfl,rfl,rfl,rfl,rfl,rfl,rfl,rfl,rfl,rfl,rfl,rfl,rfl,rfl,rfl,rfl,rfl,rfl,rfl,rfl,rfl,rfl,rfl,rfl,rfl,rfl,rfl,rfl,rfl,rfl,rfl,rfl,rfl,rfl,rfl,rfl,rfl,rfl,trivial⟩ (aa.2 ⟨dC,e6,et (Q) (et (congrArg (λ q=>gB d b (aC.abs a) q g) af) (et (ah R) (et (ip r) (iN n))))⟩) (by show a.au.ls.length - (g+1) < a.au.ls.length - g; omega)
 refine Sz (cn r) (Sz (cn r) (Sz (cn r) (IR rfl rfl rfl (IR rfl rfl rfl (IR rfl rfl rfl (IR rfl rfl rfl (IR rfl rfl rfl (IR rfl rfl rfl (IR rfl rfl rfl (IR rfl rfl rfl (Sz (cn r) (fw (.bool true) (Iw rfl (cn r) rfl) (nt (jt (sr (An rfl (rt (bR (tR (tR (bR (bR (tR (tR (bR (tR (rs ?_)))))))))))))))))))))))))))
 have dD:=M.pk []
 obtain rfl:_=false:=zj hr (et (iN G) (jm (et (z) (et (congrArg (λ q=>dO d q b) C) (et (iN l) (et (iN K) (et (ah J) (et (ip s) (et (iN X) (oF (et (Q) (et (congrArg (λ q=>gB d b (aC.abs a) q g) af) (et (ah R) (gm r))))))))))))))
 exact⟨rfl,dD⟩
 refine jF (dF bn) (C7 (Il ?_))
 have bL:gB d b (aC.abs a) a.au.ls 0=B9 ():=et (Q) (et (congrArg (λ q=>gB d b (aC.abs a) q g) (fB (ls:=a.au.ls) (i:=g) e6)) rfl)
 refine Il (IB (bN (Ig (Ib (fw (vJ (b+1)) (Ie (e:=C5.wrap ((b:Int)+1)) yk f0) (Mz rfl (C6 ?_)))))))
 have dE:=Y.pk [1]
 exact Ir (b+1) ⟨rfl,rfl,rfl,rfl,rfl,trivial⟩ (aG.2 ⟨dE,e6,et (z) (et (congrArg (λ q=>dO d q b) C) (et (iN l) (et (iN K) (et (ah J) (et (ip s) (et (iN X) (nY bL)))))))⟩) (by show d.aj.ls.length - (b+1) < d.aj.ls.length - b; omega)
 refine Sz (cn s) (Sz (cn s) (Sz (cn s) (Sz (cn s) (fw (.bool true) (Iw rfl (cn s) rfl) (nt (jt (sr (An rfl (rt (tR (bR (tR (tR (bR (tR (rs ?_))))))))))))))))
 have dG:=ax.pk []
 obtain rfl:_=false:=zj hr (et (iN G) (jm (et (z) (et (congrArg (λ q=>dO d q b) C) (et (iN l) (et (iN K) (et (ah J) (gm s))))))))
 exact⟨rfl,dG⟩
 refine jF (dF bS) (C7 (Il ?_))
 have bM:dO d d.aj.ls 0=B9 ():=et (z) (et (congrArg (λ q=>dO d q b) (fB (ls:=d.aj.ls) (i:=b) e6)) rfl)
 refine Il (IB (Ig (sr (An rfl (rt (rs ?_))))))
 have dH:=aP.pk []
 obtain rfl:_=true:=zj hr (et (iN G) (nT bM))
 exact⟨rfl,dH⟩
def fG:List aI->Unit ⊕ Bool
  | []=>B9 ()
  | a::c=>bnd (ib a.bY) λ b=>if b=0 then if(a.aT.length:Int) > 16 then C1 (false) else fG c else C1 (false)
def iA (a:aQ):Bool:=
 if(a.aT.length:Int) > 16 then false else if(a.ak.ls.length:Int) > 4 then false else lp (fG a.ak.ls) λ _=>true
theorem rA (w D) (a:aQ) (f x h X) (H:Own w D w []) (B:x=a.ak.ls.length) (j:Ro w D λ w'=>bE w' 2 f a.ak.ls.length (q3 aI.cells a.ak.ls)) (N:a.ak.ls.length<=h/\a.ak.ls.length<=9223372036854775807) (hr:iA a=X):
    Calls v8 73 #[.agg #[.bool a.eF, .string ⟨v9 a.aT⟩, .slice f x h]] w (d9 λ v w'=>v= .bool X/\Own w D w' []):=by
 unfold iA at hr
 subst B
 refine cb Tryz.func73 ?_
 refine sr ?_
 refine dV [.bool a.eF, .string ⟨v9 a.aT⟩, .slice f a.ak.ls.length h] 149 H ?_
 intro C ae m
 refine An rfl (Ic (sr (Kz (vP C 1) (Lz (.string ⟨v9 a.aT⟩) m 0 C2 (Kz (vJ a.aT.length) (Kz (.bool (decide ((a.aT.length:Int) > 16))) (Mz rfl ?_)))))))
 by_cases b:(a.aT.length:Int) > 16
 refine Sz (dT b) (Sz (dT b) (Sz (dT b) (Sz (dT b) (fw (.bool true) (Iw rfl (dT b) rfl) (nt (jt (sr (An rfl (rt (tR (rs ?_)))))))))))
 have O:=m.pk []
 obtain rfl:=zj hr zq1
 exact⟨rfl,O⟩
 refine Gz (vP C 2) (dF b) (Gl (.slice f a.ak.ls.length h) (dF b) m 0 Tryz.isAgg147 (Gz (vJ a.ak.ls.length) (dF b) (Gz (.bool (decide ((a.ak.ls.length:Int) > 4))) (dF b) (fw (.bool (decide ((a.ak.ls.length:Int) > 4))) (Ih rfl (dF b) rfl) (nt ?_)))))
 by_cases n:(a.ak.ls.length:Int) > 4
 refine jT (dT n) (sr (An rfl (rt (tR (rs ?_)))))
 have P:=m.pk []
 obtain rfl:=zj hr zq2
 exact⟨rfl,P⟩
 refine jF (dF n) (sk (Ic (sr (Kz (vP C 2) (Lz (.slice f a.ak.ls.length h) m 0 Tryz.isAgg147 (Kz (vJ a.ak.ls.length) (Mn rfl (bo ?_))))))))
 have Q:=m.pk []
 obtain⟨R,p⟩:=nQ λ (c:Nat) w'=>Own w D w' []/\c<=a.ak.ls.length/\fG a.ak.ls=fG (r3 c a.ak.ls)
 refine C3 (λ i:Nat=> [(2, .bool false),(18,vJ i),(17,vJ a.ak.ls.length),(16, .slice f a.ak.ls.length h)]) R (λ i=>a.ak.ls.length - i) 0 ⟨rfl,rfl,rfl,rfl,trivial⟩ (p.2 ⟨Q,e6,rfl⟩) ?_
 rintro c af E
 obtain⟨r,Y,k⟩:=p.1 E
 refine sr (Kz (.bool (decide ((c:Int) < (a.ak.ls.length:Int)))) (nt (Ic ?_)))
 by_cases F:(c:Int) < (a.ak.ls.length:Int)
 obtain⟨d,y⟩:=dN (ls:=a.ak.ls) (i:=c) aI.len f4 (r.ro j) e9
 have s:=drop_at y
 refine jT (dT F) (sk (Ic (bo (sr (fw (.pointer (some ⟨ab f,ao f+c *2,none⟩)) (Ij (ko) rfl rfl ((r.ro j).addr (i:=c) e6) e6) (fw (.agg (aI.cells d).toArray) (Io rfl (Iy (cs:=(aI.cells d)) Tryz.isAgg153 Tryz.sizeOf153 ((r.ro j).elem aI.len y f4))) ?_))))))
 refine dV [.string ⟨v9 []⟩, .string ⟨v9 []⟩] 153 r ?_
 intro G ag S
 refine dS (aI.cells d) 0 S Tryz.sizeOf153 ?_
 intro ai I
 refine ns (Kz (vP G 0) (Lz (.string ⟨v9 d.bY⟩) I 0 C2 ?_))
 obtain⟨o,l⟩:∃ q,ib d.bY=q:=⟨_,rfl⟩
 obtain⟨aj,J,Z,K,aa⟩:=Ii I
 refine cl Tryz.call112 (kM _ _ d.bY o J l) ?_
 rintro _ ak ⟨rfl,L,z,A⟩
 have t:=K _ _ L
 replace z: ¬ (o=0)\/(1<=d.bY.length/\d.bY.length<=12):=z
 replace A:d.bY.length < 1\/d.bY.length > 12\/o=0:=A
 refine fw (.bool (decide (¬ (o=0)))) (IG (e:= !(decide (o=0))) yk decide_not.symm) (Mz rfl ?_)
 by_cases g:o=0
 refine gw (vP G 1) (dF (Lh g)) yk (gw (.string ⟨v9 d.aT⟩) (dF (Lh g)) (Io rfl (bZ.one C2 (jR.of (t.cls (i:=0) rfl) rfl))) (gw (vJ d.aT.length) (dF (Lh g)) yk (gw (.bool (decide ((d.aT.length:Int) > 16))) (dF (Lh g)) yk (fw (.bool (decide ((d.aT.length:Int) > 16))) (Ih rfl (dF (Lh g)) rfl) (nt ?_)))))
 by_cases u:(d.aT.length:Int) > 16
 refine jT (dT u) (sr (An rfl (rt (bR (tR (tR (bR (tR (rs ?_)))))))))
 have T:=t.pk []
 obtain rfl:_=false:=zj hr (et (iN b) (et (iN n) (jm (et (k) (et (congrArg (λ q=>fG q) s) (et (ah l) (et (ip g) (ip u))))))))
 exact⟨rfl,T⟩
 refine jF (dF u) (IE (bN (Ig (Ib (fw (vJ (c+1)) (Ie (e:=C5.wrap ((c:Int)+1)) yk f0) (Mz rfl (C6 ?_)))))))
 have U:=t.pk []
 exact Ir (c+1) ⟨rfl,rfl,rfl,rfl,trivial⟩ (p.2 ⟨U,e6,et (k) (et (congrArg (λ q=>fG q) s) (et (ah l) (et (ip g) (iN u))))⟩) (by show a.ak.ls.length - (c+1) < a.ak.ls.length - c; omega)
 refine Sz (dT g) (Sz (dT g) (Sz (dT g) (Sz (dT g) (fw (.bool true) (Iw rfl (dT g) rfl) (nt (jt (sr (An rfl (rt (bR (tR (tR (bR (tR (rs ?_)))))))))))))))
 have V:=t.pk []
 obtain rfl:_=false:=zj hr (et (iN b) (et (iN n) (jm (et (k) (et (congrArg (λ q=>fG q) s) (et (ah l) (iN g)))))))
 exact⟨rfl,V⟩
 refine jF (dF F) (C7 (Il ?_))
 have M:fG a.ak.ls=B9 ():=et (k) (et (congrArg (λ q=>fG q) (fB (ls:=a.ak.ls) (i:=c) e6)) rfl)
 refine Il (IB (Ig (sr (An rfl (rt (rs ?_))))))
 have W:=r.pk []
 obtain rfl:_=true:=zj hr (et (iN b) (et (iN n) (nT M)))
 exact⟨rfl,W⟩
def gq (e:Nat) (c:eD):Nat->Nat->Unit ⊕ Bool
  | 0,b=>B9 ()
  | f+1,b=>bnd (C0 c.ai.ls b default) λ a=>bnd (iA (aQ.mk a.eF a.aT (E2 a.ak.ls))) λ d=>if d=true then gq e c f (b+1) else C1 (false)
def iV (f:Nat) (d:eD):Nat->Nat->Unit ⊕ Bool
  | 0,b=>B9 ()
  | e+1,b=>bnd (C0 d.ai.ls b default) λ a=>bnd (iA (aQ.mk a.eF a.aT (E2 a.ak.ls))) λ c=>if c=true then iV f d e (b+1) else C1 (false)
def fJ (l0:List eD):List eD->Nat->Unit ⊕ Bool
  | [],b=>B9 ()
  | a::c,b=>bnd (gV a.aK 4) λ d=>if d=true then if(b:Int) > 0 then bnd (C0 l0 (b - 1) default) λ e=>if a.aK<=e.aK then C1 (false) else if(a.ai.ls.length:Int) > 4 then C1 (false) else qU (gq b a a.ai.ls.length 0) λ _=>fJ l0 c (b+1) else if(a.ai.ls.length:Int) > 4 then C1 (false) else qU (iV b a a.ai.ls.length 0) λ _=>fJ l0 c (b+1) else C1 (false)
def nC (l0:List eD):Bool:=
 if(l0.length:Int) > 4 then false else lp (fJ l0 l0 0) λ _=>true
theorem xc (w D o n0 K d0 l0 r0) (H:Own w D w []) (av:s5 aU.abs d0=l0) (R:Ro w D λ w'=>bE w' 4 o n0 (q3 aU.cells d0)) (B:∀ x ∈ d0,Ro w D (λ w'=>bE w' 3 x.ai.A x.ai.ls.length (q3 ae.cells x.ai.ls))/\(x.ai.ls.length<=x.ai.c/\x.ai.ls.length<=9223372036854775807)/\(∀ y1 ∈ x.ai.ls,Ro w D (λ w'=>bE w' 2 y1.ak.A y1.ak.ls.length (q3 aI.cells y1.ak.ls))/\(y1.ak.ls.length<=y1.ak.c/\y1.ak.ls.length<=9223372036854775807))) (bF:n0=l0.length) (dE:l0.length<=9223372036854775807) (hr:nC l0=r0):
    Calls v8 43 #[.slice o n0 K] w (d9 λ v w'=>v= .bool r0/\Own w D w' []):=by
 unfold nC at hr
 subst bF
 have cz:=aB av
 refine cb Tryz.func43 ?_
 refine sr (An rfl (Ic (sr (Mz rfl (Kz (vJ l0.length) (Kz (.bool (decide ((l0.length:Int) > 4))) (nt ?_)))))))
 by_cases C:(l0.length:Int) > 4
 refine jT (dT C) (sr (An rfl (rt (tR (rs ?_)))))
 have bG:=H.pk []
 obtain rfl:=zj hr zq1
 exact⟨rfl,bG⟩
 refine jF (dF C) (sk (Ic (sr (Mz rfl (Kz (vJ l0.length) (Mn rfl (bo ?_)))))))
 have bH:=H.pk []
 obtain⟨bI,O⟩:=nQ λ (b:Nat) w'=>Own w D w' []/\b<=l0.length/\fJ l0 l0 0=fJ l0 (r3 b l0) b
 refine C3 (λ i:Nat=> [(2, .bool false),(12,vJ i),(11,vJ l0.length),(10, .slice o l0.length K),(0, .slice o l0.length K)]) bI (λ i=>l0.length - i) 0 ⟨rfl,rfl,rfl,rfl,rfl,trivial⟩ (O.2 ⟨bH,e6,rfl⟩) ?_
 rintro b dG aK
 obtain⟨S,cB,t⟩:=O.1 aK
 refine sr (Kz (.bool (decide ((b:Int) < (l0.length:Int)))) (nt (Ic ?_)))
 by_cases aL:(b:Int) < (l0.length:Int)
 obtain⟨a,m⟩:=dN (ls:=d0) (i:=b) aU.len f4 (S.ro R) e9
 have aM:=fF av m
 have cK:=(B _ (D3 m)).2.1
 have cO:r8 (s5 ae.abs a.ai.ls)=a.ai.ls.length:=s3 ..
 have z:=drop_at aM
 refine jT (dT aL) (sk (Ic (bo (sr (Mz rfl (fw (.pointer (some ⟨ab o,ao o+b *4,none⟩)) (Ij (l6) rfl rfl ((S.ro R).addr (i:=b) e6) e6) (fw (.agg (aU.cells a).toArray) (Io rfl (Iy (cs:=(aU.cells a)) Tryz.isAgg56 Tryz.sizeOf56 ((S.ro R).elem aU.len m f4))) ?_)))))))
 refine dV [vI 0, .int .u64 0, .int .u64 0, .slice none 0 0] 56 S ?_
 intro g dH bK
 refine Az rfl ?_
 refine dS (aU.cells a) 0 bK Tryz.sizeOf56 ?_
 intro dI bL
 refine nt (Ic (Ic ?_))
 refine vW [] (Iu (Iu (bQ.block (Iu (Iu (bQ.block (Iu IC))))))) bL ?_
 intro dJ bM
 refine qp g 0 0 rfl (ql 1 rfl 0 C4 rfl rfl rfl ?_)
 obtain⟨s,u⟩:∃ q,gV a.aK 4=q:=⟨_,rfl⟩
 obtain⟨dK,aN,cZ,aO,df⟩:=Ii bM
 refine qd 2 rfl (Iz E0 rfl (mq _ _ a.aK 4 s aN u) ?_)
 rintro _ dL ⟨rfl,aP⟩
 have E:=aO _ _ aP
 refine⟨.inr ⟨_,E⟩, ?_⟩
 refine qk (.bool (!s)) 3 rfl (qv 4 rfl rfl ?_)
 rcases Li (s) with j | j
 refine Ip (v:=vJ b) (rs:= []) 5 rfl rfl rfl (cn j) e7 (λ _ _=>Iq rfl) (Ip (v:= .bool (decide ((b:Int) > 0))) (rs:= []) 6 rfl rfl rfl (cn j) e7 (λ _ _=>yk) (Ip (v:= .bool (decide ((b:Int) > 0))) (rs:= []) 7 rfl rfl rfl (cn j) e7 (λ _ _=>Iq rfl) ?_))
 by_cases f:(b:Int) > 0
 refine Ip (v:=vP g 0) (rs:= []) 8 rfl rfl rfl (dT f) e7 (λ _ _=>yk) (Ip (v:=vI a.aK) (rs:= []) 9 rfl rfl rfl (dT f) e7 (λ _ ⟨_,H9⟩=>Io rfl (bZ.one C4 (jR.of (H9.cls (i:=0) rfl) rfl))) (Ip (v:= .slice o l0.length K) (rs:= []) 10 rfl rfl rfl (dT f) e7 (λ _ _=>Iq rfl) (Ip (v:=vJ b) (rs:= []) 11 rfl rfl rfl (dT f) e7 (λ _ _=>Iq rfl) (Ip (v:=vJ (b - 1)) (rs:= []) 12 rfl rfl rfl (dT f) e7 (λ _ _=>Ie (e:=C5.wrap ((b:Int) - 1)) yk f0) ?_))))
 obtain⟨p,T⟩:=jN (ls:=d0) (i:=b - 1) e9
 have P:=fF av T
 have dh:=(B _ (D3 T)).2.1
 have di:r8 (s5 ae.abs p.ai.ls)=p.ai.ls.length:=s3 ..
 refine Ip (v:= .pointer (some ⟨ab o,ao o+(b - 1) *4,none⟩)) (rs:= []) 13 rfl rfl rfl (dT f) e7 (λ _ ⟨_,H9⟩=>Ij (l6) rfl rfl ((H9.ro R).addr (i:=b - 1) e6) e6) (Ip (v:= .pointer (some ⟨ab o,ao o+(b - 1) *4,none⟩)) (rs:= []) 14 rfl rfl rfl (dT f) e7 (λ _ _=>yk) (Ip (v:=vI p.aK) (rs:= []) 15 rfl rfl rfl (dT f) e7 (λ _ ⟨_,H9⟩=>Io rfl (bZ.one C4 (((H9.ro R).elem aU.len T f4).at_ (k:=0) rfl))) (Ip (v:= .bool (decide (a.aK<=p.aK))) (rs:= []) 16 rfl rfl rfl (dT f) e7 (λ _ _=>yk) (Ip (v:= .bool (decide (a.aK<=p.aK))) (rs:= []) 17 rfl rfl rfl (cn j) e7 (λ _ _=>Iw rfl (dT f) rfl) (qt (v:= .bool (decide (a.aK<=p.aK))) 18 rfl (λ _ _=>Ih rfl (cn j) rfl) (qv 19 rfl rfl ?_))))))
 by_cases y:a.aK<=p.aK
 refine Ik (rs:= []) 20 rfl rfl rfl (dT y) e7 (Ik (rs:= []) 21 rfl rfl rfl (dT y) e7 (Ik (rs:= []) 22 rfl rfl rfl (dT y) e7 (Ik (rs:= []) 23 rfl rfl rfl (dT y) e7 (qt (v:= .bool true) 24 rfl (λ _ _=>Iw rfl (dT y) rfl) (qn (Ig (jt (sr (An rfl (rt (tR (bR (tR (tR (bR (tR (rs ?_)))))))))))))))))
 have bO:=E.pk []
 obtain rfl:_=false:=zj hr (et (iN C) (jm (et (t) (et (congrArg (λ q=>fJ l0 q b) z) (et (ah u) (et (ip j) (et (ip f) (et (ah (bJ P)) (ip y)))))))))
 exact⟨rfl,bO⟩
 refine Ip (v:=vP g 3) (rs:= []) 20 rfl rfl rfl (dF y) e7 (λ _ _=>yk) (Ip (v:= .slice a.ai.A a.ai.ls.length a.ai.c) (rs:= []) 21 rfl rfl rfl (dF y) e7 (λ _ ⟨_,H9⟩=>Io rfl (bZ.one E3 (jR.of (H9.cls (i:=0) rfl) rfl))) (Ip (v:=vJ (r8 (s5 ae.abs a.ai.ls))) (rs:= []) 22 rfl rfl rfl (dF y) e7 (λ _ _=>Ie (e:=(a.ai.ls.length:Int)) yk j0) (Ip (v:= .bool (decide (((r8 (s5 ae.abs a.ai.ls):Nat):Int) > 4))) (rs:= []) 23 rfl rfl rfl (dF y) e7 (λ _ _=>yk) (qt (v:= .bool (decide (((r8 (s5 ae.abs a.ai.ls):Nat):Int) > 4))) 24 rfl (λ _ _=>Ih rfl (dF y) rfl) (qn (Ig ?_))))))
 by_cases U:((r8 (s5 ae.abs a.ai.ls):Nat):Int) > 4
 refine jT (dT U) (sr (An rfl (rt (tR (bR (tR (tR (bR (tR (rs ?_))))))))))
 have bP:=E.pk []
 obtain rfl:_=false:=zj hr (et (iN C) (jm (et (t) (et (congrArg (λ q=>fJ l0 q b) z) (et (ah u) (et (ip j) (et (ip f) (et (ah (bJ P)) (et (iN y) (ip U))))))))))
 exact⟨rfl,bP⟩
 refine jF (dF U) (sk (sr (Kz (vP g 3) (Lz (.slice a.ai.A a.ai.ls.length a.ai.c) E 0 E3 (fw (vJ (r8 (s5 ae.abs a.ai.ls))) (Ie (e:=(a.ai.ls.length:Int)) yk j0) (Mn rfl (bo ?_)))))))
 have bS:=E.pf []
 obtain⟨bT,V⟩:=nQ λ (l:Nat) w'=>Own w D w' [blk g (aU.cells a) 56]/\l<=r8 (s5 ae.abs a.ai.ls)/\gq b (aU.abs a) (r8 (s5 ae.abs a.ai.ls)) 0=gq b (aU.abs a) ((r8 (s5 ae.abs a.ai.ls)) - l) l
 refine C3 (λ i:Nat=> [(2, .bool false),(45,vJ i),(44,vJ (r8 (s5 ae.abs a.ai.ls))),(43, .slice a.ai.A a.ai.ls.length a.ai.c),(42,vP g 3),(41, .bool (decide (((r8 (s5 ae.abs a.ai.ls):Nat):Int) > 4))),(40, .bool (decide (((r8 (s5 ae.abs a.ai.ls):Nat):Int) > 4))),(39,vJ (r8 (s5 ae.abs a.ai.ls))),(38, .slice a.ai.A a.ai.ls.length a.ai.c),(37,vP g 3),(36, .bool (decide (a.aK<=p.aK))),(35, .bool (decide (a.aK<=p.aK))),(34, .bool (decide (a.aK<=p.aK))),(33, .bool (decide (a.aK<=p.aK))),(32,vI p.aK),(31, .pointer (some ⟨ab o,ao o+(b - 1) *4,none⟩)),(30, .pointer (some ⟨ab o,ao o+(b - 1) *4,none⟩)),(29,vJ (b - 1)),(28,vJ b),(27, .slice o l0.length K),(26,vI a.aK),(25,vP g 0),(24, .bool (decide ((b:Int) > 0))),(23, .bool (decide ((b:Int) > 0))),(22,vJ b),(21, .bool (!s)),(20, .bool (!s)),(19, .bool s),(18,vI a.aK),(17,vP g 0),(3,vJ b),(4,vP g 0),(16, .agg (aU.cells a).toArray),(15, .pointer (some ⟨ab o,ao o+b *4,none⟩)),(14,vJ b),(13, .bool (decide ((b:Int) < (l0.length:Int)))),(12,vJ b),(11,vJ l0.length),(10, .slice o l0.length K),(0, .slice o l0.length K)]) bT (λ i=>(r8 (s5 ae.abs a.ai.ls)) - i) 0 ⟨rfl,rfl,rfl,rfl,rfl,rfl,rfl,rfl,rfl,rfl,rfl,rfl,rfl,rfl,rfl,rfl,rfl,rfl,rfl,rfl,rfl,rfl,rfl,rfl,rfl,rfl,rfl,rfl,rfl,rfl,rfl,rfl,rfl,rfl,rfl,rfl,rfl,rfl,rfl,rfl,trivial⟩ (V.2 ⟨bS,e6,rfl⟩) ?_
 rintro l dM aR
 obtain⟨W,dm,X⟩:=V.1 aR
 refine sr (Kz (.bool (decide ((l:Int) < ((r8 (s5 ae.abs a.ai.ls):Nat):Int)))) (nt (Ic ?_)))
 by_cases aS:(l:Int) < ((r8 (s5 ae.abs a.ai.ls):Nat):Int)
 refine jT (dT aS) (sk (Ic (bo (sr ?_))))
 obtain⟨r,Q⟩:=dN (ls:=a.ai.ls) (i:=l) ae.len f4 (W.ro (B _ (D3 m)).1) e9
 have ai:=fF (rfl:s5 ae.abs a.ai.ls=s5 ae.abs a.ai.ls) Q
 have dn:=((B _ (D3 m)).2.2 _ (D3 Q)).2
 refine fw (.pointer (some ⟨ab a.ai.A,ao a.ai.A+l *3,none⟩)) (Ij (sI) rfl rfl ((W.ro (B _ (D3 m)).1).addr (i:=l) e6) e6) (fw (.agg (ae.cells r).toArray) (Io rfl (Iy (cs:=(ae.cells r)) E4 E6 ((W.ro (B _ (D3 m)).1).elem ae.len Q f4))) ?_)
 refine dV [.bool false, .string ⟨v9 []⟩, .slice none 0 0] 149 W ?_
 intro dO dP bU
 refine dS (ae.cells r) 0 bU E6 ?_
 intro dQ aT
 refine ns (La (ae.cells r) aT 0 E4 E6 ?_)
 obtain⟨ax,Y⟩:∃ q,iA (aQ.mk r.eF r.aT (E2 r.ak.ls))=q:=⟨_,rfl⟩
 obtain⟨dR,aV,aW,aX,dw⟩:=Ii aT
 refine cl Tryz.call73 (rA _ _ (aQ.mk r.eF r.aT (E2 r.ak.ls)) r.ak.A r.ak.ls.length r.ak.c ax aV rfl (aW _ ((B _ (D3 m)).2.2 _ (D3 Q)).1) e6 Y) ?_
 rintro _ dU ⟨rfl,aY⟩
 have aZ:=aX _ _ aY
 refine Kz (.bool (!ax)) (nt ?_)
 rcases Li (ax) with Z | Z
 refine jF (cn Z) (IE (bN (Ig (Ib (fw (vJ (l+1)) (Ie (e:=C5.wrap ((l:Int)+1)) yk f0) (Mz rfl (C6 ?_)))))))
 have bV:=aZ.pk [1]
 exact Ir (l+1) ⟨rfl,rfl,rfl,rfl,rfl,rfl,rfl,rfl,rfl,rfl,rfl,rfl,rfl,rfl,rfl,rfl,rfl,rfl,rfl,rfl,rfl,rfl,rfl,rfl,rfl,rfl,rfl,rfl,rfl,rfl,rfl,rfl,rfl,rfl,rfl,rfl,rfl,rfl,rfl,rfl,trivial⟩ (V.2 ⟨bV,e6,et (X) (et (congrArg (λ q=>gq b (aU.abs a) q l) (rY (n:=r8 (s5 ae.abs a.ai.ls)) (i:=l) e6)) (et (ah (bJ ai)) (et (ah Y) (ip Z))))⟩) (by show (r8 (s5 ae.abs a.ai.ls)) - (l+1) < (r8 (s5 ae.abs a.ai.ls)) - l; omega)
 refine jT (cn Z) (sr (An rfl (rt (bR (tR (tR (bR (bR (tR (tR (bR (tR (rs ?_)))))))))))))
 have bf:=aZ.pk []
 obtain rfl:_=false:=zj hr (et (iN C) (jm (et (t) (et (congrArg (λ q=>fJ l0 q b) z) (et (ah u) (et (ip j) (et (ip f) (et (ah (bJ P)) (et (iN y) (et (iN U) (oF (et (X) (et (congrArg (λ q=>gq b (aU.abs a) q l) (rY (n:=r8 (s5 ae.abs a.ai.ls)) (i:=l) e6)) (et (ah (bJ ai)) (et (ah Y) (gm Z))))))))))))))))
 exact⟨rfl,bf⟩
 refine jF (dF aS) (C7 (Il ?_))
 have ay:gq b (aU.abs a) (r8 (s5 ae.abs a.ai.ls)) 0=B9 ():=et (X) (et (congrArg (λ q=>gq b (aU.abs a) q l) (wT (n:=r8 (s5 ae.abs a.ai.ls)) (i:=l) e6)) rfl)
 refine Il (IB (bN (Ig (Ib (fw (vJ (b+1)) (Ie (e:=C5.wrap ((b:Int)+1)) yk f0) (Mz rfl (C6 ?_)))))))
 have bg:=W.pk []
 exact Ir (b+1) ⟨rfl,rfl,rfl,rfl,rfl,trivial⟩ (O.2 ⟨bg,e6,et (t) (et (congrArg (λ q=>fJ l0 q b) z) (et (ah u) (et (ip j) (et (ip f) (et (ah (bJ P)) (et (iN y) (et (iN U) (nY ay))))))))⟩) (by show l0.length - (b+1) < l0.length - b; omega)
 refine Ik (rs:= []) 8 rfl rfl rfl (dF f) e7 (Ik (rs:= []) 9 rfl rfl rfl (dF f) e7 (Ik (rs:= []) 10 rfl rfl rfl (dF f) e7 (Ik (rs:= []) 11 rfl rfl rfl (dF f) e7 (Ik (rs:= []) 12 rfl rfl rfl (dF f) e7 (Ik (rs:= []) 13 rfl rfl rfl (dF f) e7 (Ik (rs:= []) 14 rfl rfl rfl (dF f) e7 (Ik (rs:= []) 15 rfl rfl rfl (dF f) e7 (Ik (rs:= []) 16 rfl rfl rfl (dF f) e7 (Ip (v:= .bool false) (rs:= []) 17 rfl rfl rfl (cn j) e7 (λ _ _=>Ih rfl (dF f) rfl) (qt (v:= .bool false) 18 rfl (λ _ _=>Ih rfl (cn j) rfl) (qv 19 rfl rfl (Ip (v:=vP g 3) (rs:= []) 20 rfl rfl rfl rfl e7 (λ _ _=>yk) (Ip (v:= .slice a.ai.A a.ai.ls.length a.ai.c) (rs:= []) 21 rfl rfl rfl rfl e7 (λ _ ⟨_,H9⟩=>Io rfl (bZ.one E3 (jR.of (H9.cls (i:=0) rfl) rfl))) (Ip (v:=vJ (r8 (s5 ae.abs a.ai.ls))) (rs:= []) 22 rfl rfl rfl rfl e7 (λ _ _=>Ie (e:=(a.ai.ls.length:Int)) yk j0) (Ip (v:= .bool (decide (((r8 (s5 ae.abs a.ai.ls):Nat):Int) > 4))) (rs:= []) 23 rfl rfl rfl rfl e7 (λ _ _=>yk) (qt (v:= .bool (decide (((r8 (s5 ae.abs a.ai.ls):Nat):Int) > 4))) 24 rfl (λ _ _=>Ih rfl rfl rfl) (qn (Ig ?_))))))))))))))))))
 by_cases G:((r8 (s5 ae.abs a.ai.ls):Nat):Int) > 4
 refine jT (dT G) (sr (An rfl (rt (tR (bR (tR (tR (bR (tR (rs ?_))))))))))
 have bi:=E.pk []
 obtain rfl:_=false:=zj hr (et (iN C) (jm (et (t) (et (congrArg (λ q=>fJ l0 q b) z) (et (ah u) (et (ip j) (et (iN f) (ip G))))))))
 exact⟨rfl,bi⟩
 refine jF (dF G) (sk (sr (Kz (vP g 3) (Lz (.slice a.ai.A a.ai.ls.length a.ai.c) E 0 E3 (fw (vJ (r8 (s5 ae.abs a.ai.ls))) (Ie (e:=(a.ai.ls.length:Int)) yk j0) (Mn rfl (bo ?_)))))))
 have bn:=E.pf []
 obtain⟨bq,L⟩:=nQ λ (d:Nat) w'=>Own w D w' [blk g (aU.cells a) 56]/\d<=r8 (s5 ae.abs a.ai.ls)/\iV b (aU.abs a) (r8 (s5 ae.abs a.ai.ls)) 0=iV b (aU.abs a) ((r8 (s5 ae.abs a.ai.ls)) - d) d
 refine C3 (λ i:Nat=> [(2, .bool false),(45,vJ i),(44,vJ (r8 (s5 ae.abs a.ai.ls))),(43, .slice a.ai.A a.ai.ls.length a.ai.c),(42,vP g 3),(41, .bool (decide (((r8 (s5 ae.abs a.ai.ls):Nat):Int) > 4))),(40, .bool (decide (((r8 (s5 ae.abs a.ai.ls):Nat):Int) > 4))),(39,vJ (r8 (s5 ae.abs a.ai.ls))),(38, .slice a.ai.A a.ai.ls.length a.ai.c),(37,vP g 3),(36, .bool false),(35, .bool false),(34, .bool false),(33,undef),(32,undef),(31,undef),(30,undef),(29,undef),(28,undef),(27,undef),(26,undef),(25,undef),(24, .bool (decide ((b:Int) > 0))),(23, .bool (decide ((b:Int) > 0))),(22,vJ b),(21, .bool (!s)),(20, .bool (!s)),(19, .bool s),(18,vI a.aK),(17,vP g 0),(3,vJ b),(4,vP g 0),(16, .agg (aU.cells a).toArray),(15, .pointer (some ⟨ab o,ao o+b *4,none⟩)),(14,vJ b),(13, .bool (decide ((b:Int) < (l0.length:Int)))),(12,vJ b),(11,vJ l0.length),(10, .slice o l0.length K),(0, .slice o l0.length K)]) bq (λ i=>(r8 (s5 ae.abs a.ai.ls)) - i) 0 ⟨rfl,rfl,rfl,rfl,rfl,rfl,rfl,rfl,rfl,rfl,rfl,rfl,rfl,rfl,rfl,rfl,rfl,rfl,rfl,rfl,rfl,rfl,rfl,rfl,rfl,rfl,rfl,rfl,rfl,rfl,rfl,rfl,rfl,rfl,rfl,rfl,rfl,rfl,rfl,rfl,trivial⟩ (L.2 ⟨bn,e6,rfl⟩) ?_
 rintro d dx az
 obtain⟨I,bW,M⟩:=L.1 az
 refine sr (Kz (.bool (decide ((d:Int) < ((r8 (s5 ae.abs a.ai.ls):Nat):Int)))) (nt (Ic ?_)))
 by_cases aj:(d:Int) < ((r8 (s5 ae.abs a.ai.ls):Nat):Int)
 refine jT (dT aj) (sk (Ic (bo (sr ?_))))
 obtain⟨h,F⟩:=dN (ls:=a.ai.ls) (i:=d) ae.len f4 (I.ro (B _ (D3 m)).1) e9
 have aa:=fF (rfl:s5 ae.abs a.ai.ls=s5 ae.abs a.ai.ls) F
 have bX:=((B _ (D3 m)).2.2 _ (D3 F)).2
 refine fw (.pointer (some ⟨ab a.ai.A,ao a.ai.A+d *3,none⟩)) (Ij (sI) rfl rfl ((I.ro (B _ (D3 m)).1).addr (i:=d) e6) e6) (fw (.agg (ae.cells h).toArray) (Io rfl (Iy (cs:=(ae.cells h)) E4 E6 ((I.ro (B _ (D3 m)).1).elem ae.len F f4))) ?_)
 refine dV [.bool false, .string ⟨v9 []⟩, .slice none 0 0] 149 I ?_
 intro dz dA bu
 refine dS (ae.cells h) 0 bu E6 ?_
 intro dB ak
 refine ns (La (ae.cells h) ak 0 E4 E6 ?_)
 obtain⟨af,N⟩:∃ q,iA (aQ.mk h.eF h.aT (E2 h.ak.ls))=q:=⟨_,rfl⟩
 obtain⟨dC,aA,aC,aD,bY⟩:=Ii ak
 refine cl Tryz.call73 (rA _ _ (aQ.mk h.eF h.aT (E2 h.ak.ls)) h.ak.A h.ak.ls.length h.ak.c af aA rfl (aC _ ((B _ (D3 m)).2.2 _ (D3 F)).1) e6 N) ?_
 rintro _ dD ⟨rfl,aF⟩
 have au:=aD _ _ aF
 refine Kz (.bool (!af)) (nt ?_)
 rcases Li (af) with J | J
 refine jF (cn J) (IE (bN (Ig (Ib (fw (vJ (d+1)) (Ie (e:=C5.wrap ((d:Int)+1)) yk f0) (Mz rfl (C6 ?_)))))))
 have bv:=au.pk [1]
 exact Ir (d+1) ⟨rfl,rfl,rfl,rfl,rfl,rfl,rfl,rfl,rfl,rfl,rfl,rfl,rfl,rfl,rfl,rfl,rfl,rfl,rfl,rfl,rfl,rfl,rfl,rfl,rfl,rfl,rfl,rfl,rfl,rfl,rfl,rfl,rfl,rfl,rfl,rfl,rfl,rfl,rfl,rfl,trivial⟩ (L.2 ⟨bv,e6,et (M) (et (congrArg (λ q=>iV b (aU.abs a) q d) (rY (n:=r8 (s5 ae.abs a.ai.ls)) (i:=d) e6)) (et (ah (bJ aa)) (et (ah N) (ip J))))⟩) (by show (r8 (s5 ae.abs a.ai.ls)) - (d+1) < (r8 (s5 ae.abs a.ai.ls)) - d; omega)
 refine jT (cn J) (sr (An rfl (rt (bR (tR (tR (bR (bR (tR (tR (bR (tR (rs ?_)))))))))))))
 have bz:=au.pk []
 obtain rfl:_=false:=zj hr (et (iN C) (jm (et (t) (et (congrArg (λ q=>fJ l0 q b) z) (et (ah u) (et (ip j) (et (iN f) (et (iN G) (oF (et (M) (et (congrArg (λ q=>iV b (aU.abs a) q d) (rY (n:=r8 (s5 ae.abs a.ai.ls)) (i:=d) e6)) (et (ah (bJ aa)) (et (ah N) (gm J))))))))))))))
 exact⟨rfl,bz⟩
 refine jF (dF aj) (C7 (Il ?_))
 have aG:iV b (aU.abs a) (r8 (s5 ae.abs a.ai.ls)) 0=B9 ():=et (M) (et (congrArg (λ q=>iV b (aU.abs a) q d) (wT (n:=r8 (s5 ae.abs a.ai.ls)) (i:=d) e6)) rfl)
 refine Il (IB (bN (Ig (Ib (fw (vJ (b+1)) (Ie (e:=C5.wrap ((b:Int)+1)) yk f0) (Mz rfl (C6 ?_)))))))
 have bA:=I.pk []
 exact Ir (b+1) ⟨rfl,rfl,rfl,rfl,rfl,trivial⟩ (O.2 ⟨bA,e6,et (t) (et (congrArg (λ q=>fJ l0 q b) z) (et (ah u) (et (ip j) (et (iN f) (et (iN G) (nY aG))))))⟩) (by show l0.length - (b+1) < l0.length - b; omega)
 refine Ik (rs:= []) 5 rfl rfl rfl (cn j) e7 (Ik (rs:= []) 6 rfl rfl rfl (cn j) e7 (Ik (rs:= []) 7 rfl rfl rfl (cn j) e7 (IW (rs:= []) 8 rfl rfl rfl e7 (IW (rs:= []) 9 rfl rfl rfl e7 (IW (rs:= []) 10 rfl rfl rfl e7 (IW (rs:= []) 11 rfl rfl rfl e7 (IW (rs:= []) 12 rfl rfl rfl e7 (IW (rs:= []) 13 rfl rfl rfl e7 (IW (rs:= []) 14 rfl rfl rfl e7 (IW (rs:= []) 15 rfl rfl rfl e7 (IW (rs:= []) 16 rfl rfl rfl e7 (Ik (rs:= []) 17 rfl rfl rfl (cn j) e7 (qt (v:= .bool true) 18 rfl (λ _ _=>Iw rfl (cn j) rfl) (qv 19 rfl rfl (Ik (rs:= []) 20 rfl rfl rfl rfl e7 (Ik (rs:= []) 21 rfl rfl rfl rfl e7 (Ik (rs:= []) 22 rfl rfl rfl rfl e7 (Ik (rs:= []) 23 rfl rfl rfl rfl e7 (qt (v:= .bool true) 24 rfl (λ _ _=>Iw rfl rfl rfl) (qn (Ig (jt (sr (An rfl (rt (tR (bR (tR (tR (bR (tR (rs ?_))))))))))))))))))))))))))))))))
 have bB:=E.pk []
 obtain rfl:_=false:=zj hr (et (iN C) (jm (et (t) (et (congrArg (λ q=>fJ l0 q b) z) (et (ah u) (gm j))))))
 exact⟨rfl,bB⟩
 refine jF (dF aL) (C7 (Il ?_))
 have aH:fJ l0 l0 0=B9 ():=et (t) (et (congrArg (λ q=>fJ l0 q b) (fB (ls:=l0) (i:=b) e6)) rfl)
 refine Il (IB (Ig (sr (An rfl (rt (rs ?_))))))
 have bC:=S.pk []
 obtain rfl:_=true:=zj hr (et (iN C) (nT aH))
 exact⟨rfl,bC⟩
def jo (a:Bool):Int:=
 if a=true then 0 else 1
theorem mQ (w D b e) (H:Own w D w []) (hr:jo b=e):
    Calls v8 39 #[.bool b] w (d9 λ v w'=>v=vI e/\Own w D w' []):=by
 unfold jo at hr
 refine cb Tryz.func39 ?_
 refine sr (An rfl (Ic (sr (Mz rfl (Kz (.bool (!b)) (nt ?_))))))
 rcases Li (b) with a | a
 refine jF (cn a) (sk (sr (An rfl (rt (rs ?_)))))
 have c:=H.pk []
 obtain rfl:=zj hr zq1
 exact⟨rfl,c⟩
 refine jT (cn a) (sr (An rfl (rt (tR (rs ?_)))))
 have d:=H.pk []
 obtain rfl:=zj hr zq1
 exact⟨rfl,d⟩
def gJ (c:cZ):Int:=
 bnd (gV c.au 4) λ d=>if d=true then if(c.av:Int) < 2147483648 then bnd (ma c) λ e=>if e=true then bnd (lU c) λ f=>if f=true then bnd (nC c.aF.ls) λ g=>bnd (jo g) λ h=>h else bnd (jo false) λ i=>i else bnd (jo false) λ j=>j else bnd (jo false) λ a=>a else bnd (jo false) λ b=>b
theorem mV (w D) (a:cZ) (i P e j Q f z g R d n r0) (H:Own w D w []) (Z:P=a.ag.ls.length) (G:Ro w D λ w'=>bE w' 2 i a.ag.ls.length (q3 aY.cells a.ag.ls)) (bI:a.ag.ls.length<=e/\a.ag.ls.length<=9223372036854775807) (B:s5 aC.abs z=a.aj.ls) (aa:Q=a.aj.ls.length) (I:Ro w D λ w'=>bE w' 5 j a.aj.ls.length (q3 aC.cells z)) (bJ:a.aj.ls.length<=f/\a.aj.ls.length<=9223372036854775807) (u:∀ x ∈ z,Ro w D (λ w'=>bE w' 1 x.au.A x.au.ls.length (q3 (eI .i64) x.au.ls))/\(x.au.ls.length<=x.au.c/\x.au.ls.length<=9223372036854775807)) (y:s5 aU.abs n=a.aF.ls) (af:R=a.aF.ls.length) (C:Ro w D λ w'=>bE w' 4 g a.aF.ls.length (q3 aU.cells n)) (bK:a.aF.ls.length<=d/\a.aF.ls.length<=9223372036854775807) (b:∀ x ∈ n,Ro w D (λ w'=>bE w' 3 x.ai.A x.ai.ls.length (q3 ae.cells x.ai.ls))/\(x.ai.ls.length<=x.ai.c/\x.ai.ls.length<=9223372036854775807)/\(∀ E ∈ x.ai.ls,Ro w D (λ w'=>bE w' 2 E.ak.A E.ak.ls.length (q3 aI.cells E.ak.ls))/\(E.ak.ls.length<=E.ak.c/\E.ak.ls.length<=9223372036854775807))) (dx:a.ag.ls.length<=140737488355328/\a.aj.ls.length<=140737488355328/\a.aF.ls.length<=140737488355328) (hr:gJ a=r0):
    Calls v8 19 #[.agg #[vI a.au,vU a.av,vU a.aV,vU a.aL, .slice i P e, .slice j Q f, .slice g R d]] w (d9 λ v w'=>v=vI r0/\Own w D w' []):=by
 unfold gJ at hr
 subst Z aa af
 have bG:=aB B
 have bH:=aB y
 refine cb Tryz.func19 ?_
 refine sr ?_
 refine dV [vI a.au,vU a.av,vU a.aV,vU a.aL, .slice i a.ag.ls.length e, .slice j a.aj.ls.length f, .slice g a.aF.ls.length d] 33 H ?_
 intro ag dz aF
 refine Ar rfl (Kz (vP ag 0) (Lz (vI a.au) aF 0 C4 ?_))
 obtain⟨aG,o⟩:∃ q,gV a.au 4=q:=⟨_,rfl⟩
 obtain⟨dA,aH,bW,aJ,bX⟩:=Ii aF
 refine cl E0 (mq _ _ a.au 4 aG aH o) ?_
 rintro _ dB ⟨rfl,aK⟩
 have J:=aJ _ _ aK
 refine Mz rfl ?_
 rcases Li (aG) with h | h
 refine Gz (vP ag 1) h (Gl (vU a.av) h J 0 D4 (Gz (.bool (decide ((a.av:Int) < 2147483648))) h (fw (.bool (decide ((a.av:Int) < 2147483648))) (Iw rfl h rfl) (Mz rfl ?_))))
 by_cases l:(a.av:Int) < 2147483648
 refine Ga ([vI a.au,vU a.av,vU a.aV,vU a.aL, .slice i a.ag.ls.length e, .slice j a.aj.ls.length f, .slice g a.aF.ls.length d]) (dT l) J 0 Tryz.isAgg33 Tryz.sizeOf33 ?_
 obtain⟨ai,F⟩:∃ q,ma a=q:=⟨_,rfl⟩
 obtain⟨dC,aL,p,aM,bY⟩:=Ii J
 refine vR (decide_eq_true l) Tryz.call41 (vL _ _ a i a.ag.ls.length e j a.aj.ls.length f z g a.aF.ls.length d n ai aL rfl (p _ G) e6 B rfl (p _ I) e6 (λ r s=>⟨p _ (u r s).1,(u r s).2⟩) y rfl (p _ C) e6 (λ r s=>⟨p _ (b r s).1,(b r s).2.1,(λ E S=>⟨p _ ((b r s).2.2 E S).1,((b r s).2.2 E S).2⟩)⟩) e8 F) ?_
 rintro _ dD ⟨rfl,aN⟩
 have aj:=aM _ _ aN
 refine fw (.bool ai) (Iw rfl (dT l) rfl) (Mz rfl ?_)
 rcases Li (ai) with m | m
 refine Ga ([vI a.au,vU a.av,vU a.aV,vU a.aL, .slice i a.ag.ls.length e, .slice j a.aj.ls.length f, .slice g a.aF.ls.length d]) m aj 0 Tryz.isAgg33 Tryz.sizeOf33 ?_
 obtain⟨ak,K⟩:∃ q,lU a=q:=⟨_,rfl⟩
 obtain⟨dE,aO,t,aP,bZ⟩:=Ii aj
 refine Jm rfl rfl m rfl (Iz Tryz.call42 rfl (uZ _ _ a i a.ag.ls.length e j a.aj.ls.length f z g a.aF.ls.length d n ak aO rfl (t _ G) e6 B rfl (t _ I) e6 (λ r s=>⟨t _ (u r s).1,(u r s).2⟩) y rfl (t _ C) e6 (λ r s=>⟨t _ (b r s).1,(b r s).2.1,(λ E S=>⟨t _ ((b r s).2.2 E S).1,((b r s).2.2 E S).2⟩)⟩) e8 K) ?_)
 rintro _ dG ⟨rfl,aQ⟩
 have au:=aP _ _ aQ
 refine fw (.bool ak) (Iw rfl m rfl) (Mz rfl ?_)
 rcases Li (ak) with k | k
 refine Gz (vP ag 6) k (Gl (.slice g a.aF.ls.length d) k au 0 Tryz.isAgg31 ?_)
 obtain⟨O,T⟩:∃ q,nC a.aF.ls=q:=⟨_,rfl⟩
 obtain⟨dH,aR,L,aS,cu⟩:=Ii au
 refine Jm rfl rfl k rfl (Iz Tryz.call43 rfl (xc _ _ g a.aF.ls.length d n a.aF.ls O aR y (L _ C) (λ r s=>⟨L _ (b r s).1,(b r s).2.1,(λ E S=>⟨L _ ((b r s).2.2 E S).1,((b r s).2.2 E S).2⟩)⟩) rfl e6 T) ?_)
 rintro _ dI ⟨rfl,aT⟩
 have bL:=aS _ _ aT
 refine fw (.bool O) (Iw rfl k rfl) ?_
 obtain⟨aV,U⟩:∃ q,jo O=q:=⟨_,rfl⟩
 obtain⟨dJ,aW,cz,aX,cB⟩:=Ii bL
 refine cl E7 (mQ _ _ O aV aW U) ?_
 rintro _ dK ⟨rfl,aZ⟩
 have bM:=aX _ _ aZ
 refine An rfl (rt (rs ?_))
 have bN:=bM.pk []
 obtain rfl:=zj hr zq9
 exact⟨rfl,bN⟩
 refine Sz k (Sz k (Sz k (fw (.bool false) (Ih rfl k rfl) ?_)))
 obtain⟨bf,V⟩:∃ q,jo false=q:=⟨_,rfl⟩
 obtain⟨dL,bg,cK,bi,cO⟩:=Ii au
 refine cl E7 (mQ _ _ false bf bg V) ?_
 rintro _ dM ⟨rfl,bn⟩
 have bO:=bi _ _ bn
 refine An rfl (rt (rs ?_))
 have bP:=bO.pk []
 obtain rfl:=zj hr zq8
 exact⟨rfl,bP⟩
 refine Sz m (Sz m (fw (.bool false) (Ih rfl m rfl) (Mz rfl (Sz rfl (Sz rfl (Sz rfl (fw (.bool false) (Ih rfl rfl rfl) ?_)))))))
 obtain⟨bq,W⟩:∃ q,jo false=q:=⟨_,rfl⟩
 obtain⟨dN,bu,df,bv,dh⟩:=Ii aj
 refine cl E7 (mQ _ _ false bq bu W) ?_
 rintro _ dO ⟨rfl,bz⟩
 have bQ:=bv _ _ bz
 refine An rfl (rt (rs ?_))
 have bA:=bQ.pk []
 obtain rfl:=zj hr zq6
 exact⟨rfl,bA⟩
 refine Sz (dF l) (Sz (dF l) (fw (.bool false) (Ih rfl (dF l) rfl) (Mz rfl (Sz rfl (Sz rfl (fw (.bool false) (Ih rfl rfl rfl) (Mz rfl (Sz rfl (Sz rfl (Sz rfl (fw (.bool false) (Ih rfl rfl rfl) ?_)))))))))))
 obtain⟨X,M⟩:∃ q,jo false=q:=⟨_,rfl⟩
 obtain⟨di,av,bR,ax,bS⟩:=Ii J
 refine cl E7 (mQ _ _ false X av M) ?_
 rintro _ dm ⟨rfl,ay⟩
 have bB:=ax _ _ ay
 refine An rfl (rt (rs ?_))
 have bC:=bB.pk []
 obtain rfl:=zj hr zq4
 exact⟨rfl,bC⟩
 refine Sz h (Sz h (Sz h (fw (.bool false) (Ih rfl h rfl) (Mz rfl (Sz rfl (Sz rfl (fw (.bool false) (Ih rfl rfl rfl) (Mz rfl (Sz rfl (Sz rfl (fw (.bool false) (Ih rfl rfl rfl) (Mz rfl (Sz rfl (Sz rfl (Sz rfl (fw (.bool false) (Ih rfl rfl rfl) ?_))))))))))))))))
 obtain⟨Y,N⟩:∃ q,jo false=q:=⟨_,rfl⟩
 obtain⟨dn,az,bT,aA,bU⟩:=Ii J
 refine cl E7 (mQ _ _ false Y az N) ?_
 rintro _ dw ⟨rfl,aD⟩
 have bD:=aA _ _ aD
 refine An rfl (rt (rs ?_))
 have bF:=bD.pk []
 obtain rfl:=zj hr zq3
 exact⟨rfl,bF⟩
end
section
variable {α:Type} {w0 w:World} {D:Nat->Prop} {L:List HP} {f:α->List HP}
theorem Own.sepIns {ds:List α} {i:Nat} {y:α} (H:Own w0 D w (f y++(sepL (List.flatMap f ds)::L))):Own w0 D w (sepL (List.flatMap f (List.take i ds++(y::List.drop i ds)))::L):=by
  have a:Own w0 D w (sepL (List.flatMap f ds)::(f y++L)):=H.perm List.perm_middle
  have b:=a.flat
  have e:(List.flatMap f ds++(f y++L)).Perm ((List.flatMap f (List.take i ds)++(f y++List.flatMap f (List.drop i ds)))++L):=by
    conv=>lhs; rw [<- List.take_append_drop i ds,List.flatMap_append]
    rw [<- List.append_assoc]
    refine List.Perm.append_right L ?_
    rw [List.append_assoc]
    exact List.Perm.append_left _ List.perm_append_comm
  rw [List.flatMap_append,List.flatMap_cons]
  exact(b.perm e).pack
theorem qc {β:Type} {g:α->β} {ds:List α} {ls:List β} {i j:Nat} (h:List.map g ds=ls):List.map g (List.take i ds++List.drop j ds)=List.take i ls++List.drop j ls:=by rw [List.map_append,List.map_take,List.map_drop,h]
theorem rO {β:Type} {g:α->β} {ds:List α} {ls:List β} {i:Nat} {y:α} {z:β} (h:List.map g ds=ls) (hy:g y=z):List.map g (List.take i ds++(y::List.drop i ds))=List.take i ls++(z::List.drop i ls):=by rw [List.map_append,List.map_cons,List.map_take,List.map_drop,h,hy]
end
open List renaming map_append->v5,perm_middle->u5,take->q7
section
section
variable {α β:Type} {w0 w:World} {D:Nat->Prop} {L:List HP} {f:α->List HP}
theorem xE {es:List α} {y:α} (H:Own w0 D w (f y++(sepL (q3 f es)::L))):Own w0 D w (sepL (q3 f (es++ [y]))::L):=by
  have h:=H.sepIns (i:=es.length)
  rw [List.take_length,List.drop_length] at h
  exact h
theorem xG {d:List α} {k:Nat} {es:List α} (y:α) (he:es.length=k) (hk:k < d.length):List.set (es++r3 k d) k y=(es++ [y])++r3 (k+1) d:=by
  subst he
  rw [List.set_append_right _ _ (Nat.le_refl _),Nat.sub_self,List.drop_eq_getElem_cons hk,List.set_cons_zero,List.append_assoc]
  rfl
theorem yP {d es:List α} {k:Nat} {x:α} (he:es.length=k) (hx:d[k]? =some x):(es++r3 k d)[k]? =some x:=by
  subst he
  rw [List.getElem?_append_right (Nat.le_refl _),Nat.sub_self,List.getElem?_drop,Nat.add_zero,hx]
theorem xH {f:α->β} {d es:List α} {k:Nat} {x y:α} (h:s5 f es=s5 f (q7 k d)) (hx:d[k]? =some x) (hy:f y=f x):s5 f (es++ [y])=s5 f (q7 (k+1) d):=by
  obtain⟨hk,rfl⟩:=List.getElem?_eq_some_iff.1 hx
  rw [List.take_succ_eq_append_getElem hk,v5,v5,h,List.map_cons,List.map_nil,hy,List.map_cons,List.map_nil]
end
open Go.RowKit
section
variable {P:Program} {n:Nat} {F:List (Nat × Value)} {w:World} {ty T e sz bytes m c:Nat} {A:Option Addr} {x:Operand}
theorem D5 (el:Elem P T e sz bytes) {i j q:Nat} {k k' k2:IntKind} (a:i<=j) (b:j<=q) (d:q<=c):(Instr.slice T (.slice A m c) (some (.int k (i:Int))) (some (.int k' (j:Int))) (some (.int k2 (q:Int)))).run P w= .ok (.slice (jS A i sz q) (j - i) (q - i)) w:=by
  obtain⟨i',_,ht,hi,_,rfl,_⟩:=el
  have ht':P.underlying T=some (.slice (P.elem T)):=by rw [pE ht]; exact ht
  rw [run_slice_any w T A m c ht']
  simp [Instr.sliceBounds,Instr.sliceBound,asIntOf,a,b,d,Result.andThen,sizeOf,typeInfo,pE ht,hi,sliced,jS]
theorem Kj {lx hx' mx:Operand} {i j q:Nat} {k k' k2:IntKind} (el:Elem P T e sz bytes) (hx:ev F x=some (.slice A m c)) (hl:ev F lx=some (.int k (i:Int))) (hh:ev F hx'=some (.int k' (j:Int))) (hm:ev F mx=some (.int k2 (q:Int))) (a:i<=j) (b:j<=q) (d:q<=c):
    Yl P n F w (.slice T x (some lx) (some hx') (some mx)) ty (.slice (jS A i sz q) (j - i) (q - i)):=
  JX (lo:=some lx) (hi:=some hx') (mx:=some mx) (lo':=some (.int k (i:Int))) (hi':=some (.int k' (j:Int))) (mx':=some (.int k2 (q:Int))) el hx (by simp [hl]) (by simp [hh]) (by simp [hm]) (D5 el a b d)
end
section
variable {α:Type} {w0 w:World} {D:Nat->Prop} {L:List HP} {f:α->List HP}
theorem AJ {ds:List α} {i:Nat} {x:α} (hx:ds[i]? =some x) (H:Own w0 D w (sepL (q3 f ds)::L)):Own w0 D w (sepL (q3 f (q7 i ds++r3 (i+1) ds))::(f x++L)):=by
  have h:=Jd (f:=f) (i:=i) hx H
  rw [List.flatMap_append]
  exact h.perm u5
theorem AL {ds:List α} {i:Nat} {y:α} (H:Own w0 D w (sepL (q3 f ds)::(f y++L))):Own w0 D w (sepL (q3 f (q7 i ds++(y::r3 i ds)))::L):=Own.sepIns (H.perm u5.symm)
end
end
open List renaming flatMap_append->r4,length_append->o1,length_cons->s0,length_drop->o0,length_nil->F2,length_take->m9,mem_of_mem_take->G0
open Nat renaming le_mul_of_pos_left->G1
open _root_.Go.Proofs.Tryz renaming underlying30->F0,underlying31->F1,underlying58->G2
section
open Go.RowKit
def qi (l0:List ae):(List ae):=
 l0
theorem pO (w D d f u l0 e) (H:Own w D w []) (c:Ro w D λ w'=>bE w' 3 d f (q3 ae.cells l0)) (g:f=l0.length) (x:l0.length *48<=211106232532992) (hr:qi l0=e):
    Calls v8 74 #[.slice d f u] w (d9 λ v w'=> ∃ r t,v= .slice r e.length t/\Own w D w' [row r e.length t (q3 ae.cells e) 149 3]):=by
 subst g
 refine cb Tryz.func74 ?_
 refine sr (An rfl (Ic (sr (Mz rfl (fw (.bool (Option.isNone d)) (I9 B4 rfl rfl) (nt ?_))))))
 rcases Li (Option.isNone d) with a | a
 obtain rfl:l0= []:=qJ (enc:=ae.cells) (H.ro c) a
 refine jT a (sr (An rfl (rt (tR (rs ?_)))))
 have h:Own w D w [row none 0 0 (q3 ae.cells []) 149 3]:=H.free (eZ 149 3)
 have i:=h.pf []
 obtain rfl:_=[]:=zj hr rfl
 exact⟨none,0,rfl,i⟩
 refine jF a (sk (sr ?_))
 refine lg [] 149 3 0 H ?_
 intro j l b
 replace b:Own w D l [row j 0 0 (q3 ae.cells []) 149 3]:=b
 refine Mz rfl ?_
 refine WL.do rfl (IM (k:=0) (m:=l0.length) (sI) b rfl rfl (jv B4 (b.ro c) (fU ae.one l0)) rfl e6 (s:=l0.length) e6 rfl ?_)
 intro n o y p
 refine An rfl (rt (rs ?_))
 have q:=p.pf []
 obtain rfl:_=l0:=zj hr rfl
 exact⟨n,o,rfl,q⟩
def pI (l0:List aC):(List aC):=
 l0
theorem oO (w D d f u l0 e) (H:Own w D w []) (c:Ro w D λ w'=>bE w' 5 d f (q3 aC.cells l0)) (g:f=l0.length) (x:l0.length *56<=211106232532992) (hr:pI l0=e):
    Calls v8 45 #[.slice d f u] w (d9 λ v w'=> ∃ r t,v= .slice r e.length t/\Own w D w' [row r e.length t (q3 aC.cells e) 60 5]):=by
 subst g
 refine cb Tryz.func45 ?_
 refine sr (An rfl (Ic (sr (Mz rfl (fw (.bool (Option.isNone d)) (I9 F0 rfl rfl) (nt ?_))))))
 rcases Li (Option.isNone d) with a | a
 obtain rfl:l0= []:=qJ (enc:=aC.cells) (H.ro c) a
 refine jT a (sr (An rfl (rt (tR (rs ?_)))))
 have h:Own w D w [row none 0 0 (q3 aC.cells []) 60 5]:=H.free (eZ 60 5)
 have i:=h.pf []
 obtain rfl:_=[]:=zj hr rfl
 exact⟨none,0,rfl,i⟩
 refine jF a (sk (sr ?_))
 refine lg [] 60 5 0 H ?_
 intro j l b
 replace b:Own w D l [row j 0 0 (q3 aC.cells []) 60 5]:=b
 refine Mz rfl ?_
 refine WL.do rfl (IM (k:=0) (m:=l0.length) (kW) b rfl rfl (jv F0 (b.ro c) (fU aC.one l0)) rfl e6 (s:=l0.length) e6 rfl ?_)
 intro n o y p
 refine An rfl (rt (rs ?_))
 have q:=p.pf []
 obtain rfl:_=l0:=zj hr rfl
 exact⟨n,o,rfl,q⟩
def qZ (l0:List aU):(List aU):=
 l0
theorem qz (w D d f u l0 e) (H:Own w D w []) (c:Ro w D λ w'=>bE w' 4 d f (q3 aU.cells l0)) (g:f=l0.length) (x:l0.length *48<=211106232532992) (hr:qZ l0=e):
    Calls v8 47 #[.slice d f u] w (d9 λ v w'=> ∃ r t,v= .slice r e.length t/\Own w D w' [row r e.length t (q3 aU.cells e) 56 4]):=by
 subst g
 refine cb Tryz.func47 ?_
 refine sr (An rfl (Ic (sr (Mz rfl (fw (.bool (Option.isNone d)) (I9 F1 rfl rfl) (nt ?_))))))
 rcases Li (Option.isNone d) with a | a
 obtain rfl:l0= []:=qJ (enc:=aU.cells) (H.ro c) a
 refine jT a (sr (An rfl (rt (tR (rs ?_)))))
 have h:Own w D w [row none 0 0 (q3 aU.cells []) 56 4]:=H.free (eZ 56 4)
 have i:=h.pf []
 obtain rfl:_=[]:=zj hr rfl
 exact⟨none,0,rfl,i⟩
 refine jF a (sk (sr ?_))
 refine lg [] 56 4 0 H ?_
 intro j l b
 replace b:Own w D l [row j 0 0 (q3 aU.cells []) 56 4]:=b
 refine Mz rfl ?_
 refine WL.do rfl (IM (k:=0) (m:=l0.length) (l6) b rfl rfl (jv F1 (b.ro c) (fU aU.one l0)) rfl e6 (s:=l0.length) e6 rfl ?_)
 intro n o y p
 refine An rfl (rt (rs ?_))
 have q:=p.pf []
 obtain rfl:_=l0:=zj hr rfl
 exact⟨n,o,rfl,q⟩
def kv (l0:List aC) (a:Int) (p2:Int):(List aC):=
 if a=p2 then l0 else(q7 (D0 a) l0++r3 (D0 p2) l0)
theorem oH (w D c l b l0 a p2 g) (H:Own w D w [row c l b (q3 aC.cells l0) 60 5]) (n:l=l0.length) (G:l0.length *56<=211106232532992) (I:0<=a/\a<=p2/\p2<=((l0.length:Nat):Int)) (hr:kv l0 a p2=g):
    Calls v8 98 #[.slice c l b,vI a,vI p2] w (d9 λ v w'=> ∃ z A,v= .slice z g.length A/\Own w D w' [row z g.length A (q3 aC.cells g) 60 5]/\(g.length<=l0.length)):=by
 unfold kv at hr
 subst n
 have J:=zr 0 H
 refine cb Tryz.func98 ?_
 refine sr (Ar rfl (Mz rfl (fw (vJ (D0 a)) (Ie (e:=a) (Iq rfl) e6) (fw (vJ (D0 p2)) (Ie (e:=p2) (Iq rfl) e6) (Mz rfl (Kz (vJ l0.length) (fw (.slice (jS c (D0 a) 5 l0.length) ((D0 p2) - (D0 a)) (l0.length - (D0 a))) (Kj (kW) rfl rfl rfl rfl e6 e6 e6) (nt (Ic (sr (Mz rfl (Mz rfl (Kz (.bool (decide (a=p2))) (nt ?_))))))))))))))
 by_cases f:a=p2
 refine jT (dT f) (sr (Mz rfl (An rfl (rt (tR (rs ?_))))))
 have o:=H.pf []
 obtain rfl:=zj hr zq1
 exact⟨c,b,rfl,o,e6⟩
 refine jF (dF f) (sk (sr (Mz rfl (Kz (vJ l0.length) (An rfl (Ic ?_))))))
 have d:=H.drew
 refine Ji [6] (λ W=> ∃ L',Own w D W ([row c l0.length b (q3 aC.cells l0) 60 5]++L')) e7 e7 (Iu IC) ⟨_,d⟩ ?_
 revert d
 generalize World.drew w=p
 intro d
 refine qv 0 rfl rfl (qt (v:=vJ (D0 a)) 1 rfl (λ _ _=>Ie (e:=a) (Iq rfl) e6) (qt (v:= .slice c (D0 a) b) 2 rfl (λ _ _=>Jc (kW) rfl rfl e6) (qv 3 rfl rfl (qt (v:=vJ (D0 p2)) 4 rfl (λ _ _=>Ie (e:=p2) (Iq rfl) e6) (qt (v:= .slice (jS c (D0 p2) 5 b) (l0.length - (D0 p2)) (b - (D0 p2))) 5 rfl (λ _ _=>IV (kW) rfl rfl e6) ?_)))))
 have B:r8 (q7 (D0 a) l0++r3 (D0 p2) l0)=D0 a+(l0.length - D0 p2):=by simp only [o1,m9,o0]; omega
 have h:Src v8 5 30 (.slice (jS c (D0 p2) 5 b) (l0.length - (D0 p2)) (b - (D0 p2))) (l0.length - D0 p2) (q3 aC.cells (r3 (D0 p2) l0)) p:=jv F0 (Jq (lo:=D0 p2) aC.len (d.rds (i:=0) rfl) e6 e6 f4) (fU aC.one (r3 (D0 p2) l0))
 obtain⟨C,q,r⟩:=d.rowFull
 refine qd 6 rfl (JC (k:=D0 a) (m:=l0.length - D0 p2) (kW) r rfl rfl h e6 (s:=r8 (q7 (D0 a) l0++r3 (D0 p2) l0)) e6 ?_)
 intro K j
 refine⟨.inl e7, ?_⟩
 refine IP (v:= .slice c (r8 (q7 (D0 a) l0++r3 (D0 p2) l0)) b) 7 rfl e7 (λ _=>Jo rfl) (qn (Ig (sr (Mz rfl (Mz rfl (Kz (vI ((r8 (q7 (D0 a) l0++r3 (D0 p2) l0):Nat):Int)) (Mz rfl (fw (.slice (jS c (r8 (q7 (D0 a) l0++r3 (D0 p2) l0)) 5 b) (l0.length - (r8 (q7 (D0 a) l0++r3 (D0 p2) l0))) (b - (r8 (q7 (D0 a) l0++r3 (D0 p2) l0)))) (Yl.cut (kW) rfl rfl rfl e6 e6) ?_))))))))
 refine Jb (JK (z0:=(.agg #[.int .u64 0,vI 0, .int .u64 0, .int .u64 0, .slice none 0 0])) (lo:=r8 (q7 (D0 a) l0++r3 (D0 p2) l0)) (nd:=(l0.length - (r8 (q7 (D0 a) l0++r3 (D0 p2) l0)))) e7 rfl (kW) j rfl (λ _=>lq ((j.rds (i:=0) rfl).isSome e6) e6) e6 ?_)
 intro t E F u
 refine ns (Mz rfl (An rfl (rt (rs ?_))))
 have x:Own w D t [row c (r8 (q7 (D0 a) l0++r3 (D0 p2) l0)) b (q3 aC.cells (q7 (D0 a) l0++r3 (D0 p2) l0)) 60 5]:=u.rowPart e6 (zo aC.len e6 e6 rfl)
 have y:=x.pf []
 obtain rfl:=zj hr zq1
 exact⟨c,b,rfl,y,e6⟩
def lh (l0:List bB) (a:Int) (p2:Int):(List bB):=
 if a=p2 then l0 else(q7 (D0 a) l0++r3 (D0 p2) l0)
theorem pV (w D c l b l0 a p2 g) (H:Own w D w [row c l b (q3 bB.cells l0) 107 9]) (n:l=l0.length) (G:l0.length *136<=211106232532992) (I:0<=a/\a<=p2/\p2<=((l0.length:Nat):Int)) (hr:lh l0 a p2=g):
    Calls v8 105 #[.slice c l b,vI a,vI p2] w (d9 λ v w'=> ∃ z A,v= .slice z g.length A/\Own w D w' [row z g.length A (q3 bB.cells g) 107 9]/\(g.length<=l0.length)):=by
 unfold lh at hr
 subst n
 have J:=zr 0 H
 refine cb Tryz.func105 ?_
 refine sr (Ar rfl (Mz rfl (fw (vJ (D0 a)) (Ie (e:=a) (Iq rfl) e6) (fw (vJ (D0 p2)) (Ie (e:=p2) (Iq rfl) e6) (Mz rfl (Kz (vJ l0.length) (fw (.slice (jS c (D0 a) 9 l0.length) ((D0 p2) - (D0 a)) (l0.length - (D0 a))) (Kj (qh) rfl rfl rfl rfl e6 e6 e6) (nt (Ic (sr (Mz rfl (Mz rfl (Kz (.bool (decide (a=p2))) (nt ?_))))))))))))))
 by_cases f:a=p2
 refine jT (dT f) (sr (Mz rfl (An rfl (rt (tR (rs ?_))))))
 have o:=H.pf []
 obtain rfl:=zj hr zq1
 exact⟨c,b,rfl,o,e6⟩
 refine jF (dF f) (sk (sr (Mz rfl (Kz (vJ l0.length) (An rfl (Ic ?_))))))
 have d:=H.drew
 refine Ji [6] (λ W=> ∃ L',Own w D W ([row c l0.length b (q3 bB.cells l0) 107 9]++L')) e7 e7 (Iu IC) ⟨_,d⟩ ?_
 revert d
 generalize World.drew w=p
 intro d
 refine qv 0 rfl rfl (qt (v:=vJ (D0 a)) 1 rfl (λ _ _=>Ie (e:=a) (Iq rfl) e6) (qt (v:= .slice c (D0 a) b) 2 rfl (λ _ _=>Jc (qh) rfl rfl e6) (qv 3 rfl rfl (qt (v:=vJ (D0 p2)) 4 rfl (λ _ _=>Ie (e:=p2) (Iq rfl) e6) (qt (v:= .slice (jS c (D0 p2) 9 b) (l0.length - (D0 p2)) (b - (D0 p2))) 5 rfl (λ _ _=>IV (qh) rfl rfl e6) ?_)))))
 have B:r8 (q7 (D0 a) l0++r3 (D0 p2) l0)=D0 a+(l0.length - D0 p2):=by simp only [o1,m9,o0]; omega
 have h:Src v8 9 79 (.slice (jS c (D0 p2) 9 b) (l0.length - (D0 p2)) (b - (D0 p2))) (l0.length - D0 p2) (q3 bB.cells (r3 (D0 p2) l0)) p:=jv Tryz.underlying79 (Jq (lo:=D0 p2) bB.len (d.rds (i:=0) rfl) e6 e6 f4) (fU bB.one (r3 (D0 p2) l0))
 obtain⟨C,q,r⟩:=d.rowFull
 refine qd 6 rfl (JC (k:=D0 a) (m:=l0.length - D0 p2) (qh) r rfl rfl h e6 (s:=r8 (q7 (D0 a) l0++r3 (D0 p2) l0)) e6 ?_)
 intro K j
 refine⟨.inl e7, ?_⟩
 refine IP (v:= .slice c (r8 (q7 (D0 a) l0++r3 (D0 p2) l0)) b) 7 rfl e7 (λ _=>Jo rfl) (qn (Ig (sr (Mz rfl (Mz rfl (Kz (vI ((r8 (q7 (D0 a) l0++r3 (D0 p2) l0):Nat):Int)) (Mz rfl (fw (.slice (jS c (r8 (q7 (D0 a) l0++r3 (D0 p2) l0)) 9 b) (l0.length - (r8 (q7 (D0 a) l0++r3 (D0 p2) l0))) (b - (r8 (q7 (D0 a) l0++r3 (D0 p2) l0)))) (Yl.cut (qh) rfl rfl rfl e6 e6) ?_))))))))
 refine Jb (JK (z0:=(.agg (rJ 0 0 0 0 none 0 0 none 0 0 none 0 0 none 0 0 0).toArray)) (lo:=r8 (q7 (D0 a) l0++r3 (D0 p2) l0)) (nd:=(l0.length - (r8 (q7 (D0 a) l0++r3 (D0 p2) l0)))) e7 rfl (qh) j rfl (λ _=>lq ((j.rds (i:=0) rfl).isSome e6) e6) e6 ?_)
 intro t E F u
 refine ns (Mz rfl (An rfl (rt (rs ?_))))
 have x:Own w D t [row c (r8 (q7 (D0 a) l0++r3 (D0 p2) l0)) b (q3 bB.cells (q7 (D0 a) l0++r3 (D0 p2) l0)) 107 9]:=u.rowPart e6 (zo bB.len e6 e6 rfl)
 have y:=x.pf []
 obtain rfl:=zj hr zq1
 exact⟨c,b,rfl,y,e6⟩
def kw (l0:List aC) (a:Int) (b:aC):(List aC):=
 if((D0 a:Nat):Int)=(l0.length:Int) then(l0++ [b]) else(q7 (D0 a) l0++(b::r3 (D0 a) l0))
theorem oI (w D d C c l0 a B) (b:aC) (x) (H:Own w D w [row d C c (q3 aC.cells l0) 60 5,qV B 1 (q3 aC.cells ([b])) 60 5]) (E:C=l0.length) (af:l0.length *56<=211106232532992) (ag:0<=a/\a<=((l0.length:Nat):Int)/\(l0.length+1) *56<=211106232532992) (hr:kw l0 a b=x):
    Calls v8 130 #[.slice d C c,vI a, .slice B 1 1] w (d9 λ v w'=> ∃ W X,v= .slice W x.length X/\Own w D w' [row W x.length X (q3 aC.cells x) 60 5]/\(x.length=l0.length+1)):=by
 unfold kw at hr
 subst E
 have ah:=zr 0 H
 refine cb Tryz.func130 ?_
 refine sr (Ar rfl (Mz rfl (fw (vJ (D0 a)) (Ie (e:=a) (Iq rfl) e6) (fw (.slice (jS d (D0 a) 5 c) (l0.length - (D0 a)) (c - (D0 a))) (IV (kW) rfl rfl e6) (ns (Mz rfl (Kz (vI 1) (An rfl (Ic (sr (Mz rfl (Kz (.bool false) (nt (jf (sk (sr (Mz rfl (Kz (vJ l0.length) (An rfl (Ic (sr (fw (vJ (D0 a)) (Ie (e:=a) (Iq rfl) e6) ?_))))))))))))))))))))))
 refine Mz rfl (Kz (.bool (decide (((D0 a:Nat):Int)=(l0.length:Int)))) (nt ?_))
 by_cases g:((D0 a:Nat):Int)=(l0.length:Int)
 refine jT (dT g) (sr (Mz rfl (Mz rfl ?_)))
 refine WL.do rfl (IM (k:=l0.length) (m:=1) (kW) H rfl rfl (jv F0 (aZ H (i:=1) rfl rG) (fU aC.one ([b]))) rfl e6 (s:=r8 (l0++ [b])) f7 (r4).symm ?_)
 intro F G ai I
 have Y:r8 (l0++ [b])=l0.length+1:=by simp only [o1,s0,F2]
 refine An rfl (rt (tR (rs ?_)))
 have J:=I.pk [0]
 obtain rfl:=zj hr zq1
 exact⟨F,G,rfl,J,e6⟩
 refine jF (dF g) (sk (Ic (sr (Mz rfl (Mz rfl (fw (vJ (l0.length+1)) (Ie (e:=C5.wrap ((l0.length:Int)+1)) yk f0) (Mz rfl (Kz (vJ c) (Kz (.bool (decide (((l0.length+1:Nat):Int) > (c:Int)))) (nt ?_))))))))))
 by_cases y:((l0.length+1:Nat):Int) > (c:Int)
 refine jT (dT y) (sr (Mz rfl (fw (vJ (D0 a)) (Ie (e:=a) (Iq rfl) e6) (fw (.slice d (D0 a) c) (Jc (kW) rfl rfl e6) (Mz rfl (Mz rfl (fw (vJ (l0.length+1)) (Ie (e:=C5.wrap ((l0.length:Int)+1)) yk f0) (fw (vJ (D0 a)) (Ie (e:=a) (Iq rfl) e6) (fw (vJ ((l0.length+1) - (D0 a))) (Ie (e:=C5.wrap (((l0.length+1:Nat):Int) - ((D0 a:Nat):Int))) yk f0) ?_)))))))))
 have Z:r8 (q7 (D0 a) l0++(b::r3 (D0 a) l0))=l0.length+1:=by simp only [o1,m9,s0,o0]; omega
 refine WL.do rfl (Jz (k:=D0 a) (m:=(l0.length+1) - (D0 a)) (kW) B1 H rfl rfl e6 e6 e6 rfl e6 (s:=r8 (q7 (D0 a) l0++(b::r3 (D0 a) l0))) e6 ?_)
 intro h f aa aj z j
 have K:=j.rowLe (i:=0) rfl
 refine Ar rfl (Mz rfl (fw (vJ (D0 a)) (Ie (e:=a) (Iq rfl) e6) (fw (.slice (jS h (D0 a) 5 f) ((r8 (q7 (D0 a) l0++(b::r3 (D0 a) l0))) - (D0 a)) (f - (D0 a))) (IV (kW) rfl rfl e6) (Mz rfl ?_))))
 refine WL.do rfl (Je (lo:=D0 a) (k:=1) (kW) j rfl (λ _=>lq ((j.rds (i:=0) rfl).isSome e6) e6) e6 rfl (aZ j (i:=2) rfl rG) e6 (λ u hu=>fU aC.one _ u (G0 hu)) rfl ?_)
 intro ak L
 refine nt (Ic ?_)
 refine Es [8] (Iu (Iu IC)) L ?_
 intro au n
 refine qv 0 rfl rfl (qt (v:=vJ (D0 a)) 1 rfl (λ _ _=>Ie (e:=a) (Iq rfl) e6) (qv 2 rfl rfl (qt (v:=vJ (D0 a+1)) 3 rfl (λ _ _=>Ie (e:=C5.wrap (((D0 a:Nat):Int)+1)) yk f0) (qt (v:= .slice (jS h (D0 a+1) 5 f) ((r8 (q7 (D0 a) l0++(b::r3 (D0 a) l0))) - (D0 a+1)) (f - (D0 a+1))) 4 rfl (λ _ _=>IV (kW) rfl rfl e6) (qv 5 rfl rfl (qt (v:=vJ (D0 a)) 6 rfl (λ _ _=>Ie (e:=a) (Iq rfl) e6) (qt (v:= .slice (jS d (D0 a) 5 c) (l0.length - (D0 a)) (c - (D0 a))) 7 rfl (λ _ _=>IV (kW) rfl rfl e6) ?_)))))))
 refine qd 8 rfl (Je (lo:=D0 a+1) (k:=l0.length - D0 a) (kW) n rfl (λ _=>lq ((n.rds (i:=0) rfl).isSome e6) e6) e6 rfl (Jq (lo:=D0 a) aC.len (n.rds (i:=1) rfl) e6 e6 f4) e6 (λ u hu=>fU aC.one _ u (G0 hu)) rfl ?_)
 intro M N
 refine⟨.inl e7, ?_⟩
 refine qn (Ig (sr (Mz rfl (An rfl (rt (tR (rs ?_)))))))
 have O:Own w D M [row h (r8 (q7 (D0 a) l0++(b::r3 (D0 a) l0))) f (q3 aC.cells (q7 (D0 a) l0++(b::r3 (D0 a) l0))) 60 5,row d l0.length c (q3 aC.cells l0) 60 5,qV B 1 (q3 aC.cells ([b])) 60 5]:=N.rowPart e6 (Af (l:=l0) (k2:=l0.length - D0 a) aC.len e6 z rfl rfl e6)
 have P:=O.pk [0]
 obtain rfl:=zj hr zq1
 exact⟨h,f,rfl,P,e6⟩
 refine jF (dF y) (sk (sr ?_))
 have A:r8 (q7 (D0 a) l0++(b::r3 (D0 a) l0))=l0.length+1:=by simp only [o1,m9,s0,o0]; omega
 obtain⟨ae,o,Q⟩:=H.rowFull
 refine Mz rfl (Mz rfl (Mz rfl (fw (vJ (l0.length+1)) (Ie (e:=C5.wrap ((l0.length:Int)+1)) yk f0) (fw (.slice d (r8 (q7 (D0 a) l0++(b::r3 (D0 a) l0))) c) (Yl.to (Jc (kW) rfl rfl e6) (congrArg (λ q=>Value.slice d q c) A.symm)) (An rfl (Ic (sr (Mz rfl (Mz rfl (fw (vJ (D0 a)) (Ie (e:=a) (Iq rfl) e6) (Mz rfl (fw (vJ (D0 a+1)) (Ie (e:=C5.wrap (((D0 a:Nat):Int)+1)) yk f0) (fw (.slice (jS d (D0 a+1) 5 c) ((r8 (q7 (D0 a) l0++(b::r3 (D0 a) l0))) - (D0 a+1)) (c - (D0 a+1))) (IV (kW) rfl rfl e6) ?_)))))))))))))
 have p:=Q.pb [0]
 refine fw (.bool false) (JD (lo:=D0 a+1) (run_callFunc_extern Tryz.func150 e7 e7 e7 (e:=Extern.SlicesOverlaps.overlaps #[30,30] #[4]) e7) F0 Tryz.sizeOf60 p f4 e6 rfl (lq ((p.rds (i:=1) rfl).isSome e6) e6)) (Kz (.bool true) (nt (jt (Ic ?_))))
 refine qy [8] (Iu (Iu IC)) p ?_
 intro av R
 refine qv 0 rfl rfl (qt (v:=vJ (D0 a)) 1 rfl (λ _ _=>Ie (e:=a) (Iq rfl) e6) (qv 2 rfl rfl (qt (v:=vJ (D0 a+1)) 3 rfl (λ _ _=>Ie (e:=C5.wrap (((D0 a:Nat):Int)+1)) yk f0) (qt (v:= .slice (jS d (D0 a+1) 5 c) ((r8 (q7 (D0 a) l0++(b::r3 (D0 a) l0))) - (D0 a+1)) (c - (D0 a+1))) 4 rfl (λ _ _=>IV (kW) rfl rfl e6) (qv 5 rfl rfl (qt (v:=vJ (D0 a)) 6 rfl (λ _ _=>Ie (e:=a) (Iq rfl) e6) (qt (v:= .slice (jS d (D0 a) 5 c) ((r8 (q7 (D0 a) l0++(b::r3 (D0 a) l0))) - (D0 a)) (c - (D0 a))) 7 rfl (λ _ _=>IV (kW) rfl rfl e6) ?_)))))))
 have r:=R.pb [0]
 refine qd 8 rfl (Je (lo:=D0 a+1) (k:=l0.length - D0 a) (kW) r rfl (λ _=>lq ((r.rds (i:=0) rfl).isSome e6) e6) e6 rfl (bE.cut (lo:=D0 a) (hi:=r8 (q7 (D0 a) l0++(b::r3 (D0 a) l0))) (r.rds (i:=0) rfl) e6 e6 e6) e6 (λ u hu=>fU aC.one _ u (by rw [Ah aC.len e6 rfl e6] at hu; exact hu)) rfl ?_)
 intro ax t
 refine⟨.inl e7, ?_⟩
 refine qn (Ig (sr (Mz rfl (fw (vJ (D0 a)) (Ie (e:=a) (Iq rfl) e6) (fw (.slice (jS d (D0 a) 5 c) ((r8 (q7 (D0 a) l0++(b::r3 (D0 a) l0))) - (D0 a)) (c - (D0 a))) (IV (kW) rfl rfl e6) (Mz rfl ?_))))))
 refine WL.do rfl (Je (lo:=D0 a) (k:=1) (kW) t rfl (λ _=>lq ((t.rds (i:=0) rfl).isSome e6) e6) e6 rfl (aZ t (i:=1) rfl rG) e6 (λ u hu=>fU aC.one _ u (G0 hu)) rfl ?_)
 intro S T
 refine ns (Mz rfl (An rfl (rt (tR (rs ?_)))))
 have U:Own w D S [row d (r8 (q7 (D0 a) l0++(b::r3 (D0 a) l0))) c (q3 aC.cells (q7 (D0 a) l0++(b::r3 (D0 a) l0))) 60 5,qV B 1 (q3 aC.cells ([b])) 60 5]:=T.rowPart e6 (Ai (l:=l0) (m:=(r8 (q7 (D0 a) l0++(b::r3 (D0 a) l0))) - D0 a) (k2:=l0.length - D0 a) aC.len e6 (by rw [o]; exact G1 5 e6) rfl rfl e6 e6)
 have V:=U.pk [0]
 obtain rfl:=zj hr zq1
 exact⟨d,c,rfl,V,e6⟩
def lJ (l0:List aU) (a:Int) (b:aU):(List aU):=
 if((D0 a:Nat):Int)=(l0.length:Int) then(l0++ [b]) else(q7 (D0 a) l0++(b::r3 (D0 a) l0))
theorem qj (w D d C c l0 a B) (b:aU) (x) (H:Own w D w [row d C c (q3 aU.cells l0) 56 4,qV B 1 (q3 aU.cells ([b])) 56 4]) (E:C=l0.length) (af:l0.length *48<=211106232532992) (ag:0<=a/\a<=((l0.length:Nat):Int)/\(l0.length+1) *48<=211106232532992) (hr:lJ l0 a b=x):
    Calls v8 155 #[.slice d C c,vI a, .slice B 1 1] w (d9 λ v w'=> ∃ W X,v= .slice W x.length X/\Own w D w' [row W x.length X (q3 aU.cells x) 56 4]/\(x.length=l0.length+1)):=by
 unfold lJ at hr
 subst E
 have ah:=zr 0 H
 refine cb Tryz.func155 ?_
 refine sr (Ar rfl (Mz rfl (fw (vJ (D0 a)) (Ie (e:=a) (Iq rfl) e6) (fw (.slice (jS d (D0 a) 4 c) (l0.length - (D0 a)) (c - (D0 a))) (IV (l6) rfl rfl e6) (ns (Mz rfl (Kz (vI 1) (An rfl (Ic (sr (Mz rfl (Kz (.bool false) (nt (jf (sk (sr (Mz rfl (Kz (vJ l0.length) (An rfl (Ic (sr (fw (vJ (D0 a)) (Ie (e:=a) (Iq rfl) e6) ?_))))))))))))))))))))))
 refine Mz rfl (Kz (.bool (decide (((D0 a:Nat):Int)=(l0.length:Int)))) (nt ?_))
 by_cases g:((D0 a:Nat):Int)=(l0.length:Int)
 refine jT (dT g) (sr (Mz rfl (Mz rfl ?_)))
 refine WL.do rfl (IM (k:=l0.length) (m:=1) (l6) H rfl rfl (jv F1 (aZ H (i:=1) rfl rG) (fU aU.one ([b]))) rfl e6 (s:=r8 (l0++ [b])) f7 (r4).symm ?_)
 intro F G ai I
 have Y:r8 (l0++ [b])=l0.length+1:=by simp only [o1,s0,F2]
 refine An rfl (rt (tR (rs ?_)))
 have J:=I.pk [0]
 obtain rfl:=zj hr zq1
 exact⟨F,G,rfl,J,e6⟩
 refine jF (dF g) (sk (Ic (sr (Mz rfl (Mz rfl (fw (vJ (l0.length+1)) (Ie (e:=C5.wrap ((l0.length:Int)+1)) yk f0) (Mz rfl (Kz (vJ c) (Kz (.bool (decide (((l0.length+1:Nat):Int) > (c:Int)))) (nt ?_))))))))))
 by_cases y:((l0.length+1:Nat):Int) > (c:Int)
 refine jT (dT y) (sr (Mz rfl (fw (vJ (D0 a)) (Ie (e:=a) (Iq rfl) e6) (fw (.slice d (D0 a) c) (Jc (l6) rfl rfl e6) (Mz rfl (Mz rfl (fw (vJ (l0.length+1)) (Ie (e:=C5.wrap ((l0.length:Int)+1)) yk f0) (fw (vJ (D0 a)) (Ie (e:=a) (Iq rfl) e6) (fw (vJ ((l0.length+1) - (D0 a))) (Ie (e:=C5.wrap (((l0.length+1:Nat):Int) - ((D0 a:Nat):Int))) yk f0) ?_)))))))))
 have Z:r8 (q7 (D0 a) l0++(b::r3 (D0 a) l0))=l0.length+1:=by simp only [o1,m9,s0,o0]; omega
 refine WL.do rfl (Jz (k:=D0 a) (m:=(l0.length+1) - (D0 a)) (l6) B1 H rfl rfl e6 e6 e6 rfl e6 (s:=r8 (q7 (D0 a) l0++(b::r3 (D0 a) l0))) e6 ?_)
 intro h f aa aj z j
 have K:=j.rowLe (i:=0) rfl
 refine Ar rfl (Mz rfl (fw (vJ (D0 a)) (Ie (e:=a) (Iq rfl) e6) (fw (.slice (jS h (D0 a) 4 f) ((r8 (q7 (D0 a) l0++(b::r3 (D0 a) l0))) - (D0 a)) (f - (D0 a))) (IV (l6) rfl rfl e6) (Mz rfl ?_))))
 refine WL.do rfl (Je (lo:=D0 a) (k:=1) (l6) j rfl (λ _=>lq ((j.rds (i:=0) rfl).isSome e6) e6) e6 rfl (aZ j (i:=2) rfl rG) e6 (λ u hu=>fU aU.one _ u (G0 hu)) rfl ?_)
 intro ak L
 refine nt (Ic ?_)
 refine Es [8] (Iu (Iu IC)) L ?_
 intro au n
 refine qv 0 rfl rfl (qt (v:=vJ (D0 a)) 1 rfl (λ _ _=>Ie (e:=a) (Iq rfl) e6) (qv 2 rfl rfl (qt (v:=vJ (D0 a+1)) 3 rfl (λ _ _=>Ie (e:=C5.wrap (((D0 a:Nat):Int)+1)) yk f0) (qt (v:= .slice (jS h (D0 a+1) 4 f) ((r8 (q7 (D0 a) l0++(b::r3 (D0 a) l0))) - (D0 a+1)) (f - (D0 a+1))) 4 rfl (λ _ _=>IV (l6) rfl rfl e6) (qv 5 rfl rfl (qt (v:=vJ (D0 a)) 6 rfl (λ _ _=>Ie (e:=a) (Iq rfl) e6) (qt (v:= .slice (jS d (D0 a) 4 c) (l0.length - (D0 a)) (c - (D0 a))) 7 rfl (λ _ _=>IV (l6) rfl rfl e6) ?_)))))))
 refine qd 8 rfl (Je (lo:=D0 a+1) (k:=l0.length - D0 a) (l6) n rfl (λ _=>lq ((n.rds (i:=0) rfl).isSome e6) e6) e6 rfl (Jq (lo:=D0 a) aU.len (n.rds (i:=1) rfl) e6 e6 f4) e6 (λ u hu=>fU aU.one _ u (G0 hu)) rfl ?_)
 intro M N
 refine⟨.inl e7, ?_⟩
 refine qn (Ig (sr (Mz rfl (An rfl (rt (tR (rs ?_)))))))
 have O:Own w D M [row h (r8 (q7 (D0 a) l0++(b::r3 (D0 a) l0))) f (q3 aU.cells (q7 (D0 a) l0++(b::r3 (D0 a) l0))) 56 4,row d l0.length c (q3 aU.cells l0) 56 4,qV B 1 (q3 aU.cells ([b])) 56 4]:=N.rowPart e6 (Af (l:=l0) (k2:=l0.length - D0 a) aU.len e6 z rfl rfl e6)
 have P:=O.pk [0]
 obtain rfl:=zj hr zq1
 exact⟨h,f,rfl,P,e6⟩
 refine jF (dF y) (sk (sr ?_))
 have A:r8 (q7 (D0 a) l0++(b::r3 (D0 a) l0))=l0.length+1:=by simp only [o1,m9,s0,o0]; omega
 obtain⟨ae,o,Q⟩:=H.rowFull
 refine Mz rfl (Mz rfl (Mz rfl (fw (vJ (l0.length+1)) (Ie (e:=C5.wrap ((l0.length:Int)+1)) yk f0) (fw (.slice d (r8 (q7 (D0 a) l0++(b::r3 (D0 a) l0))) c) (Yl.to (Jc (l6) rfl rfl e6) (congrArg (λ q=>Value.slice d q c) A.symm)) (An rfl (Ic (sr (Mz rfl (Mz rfl (fw (vJ (D0 a)) (Ie (e:=a) (Iq rfl) e6) (Mz rfl (fw (vJ (D0 a+1)) (Ie (e:=C5.wrap (((D0 a:Nat):Int)+1)) yk f0) (fw (.slice (jS d (D0 a+1) 4 c) ((r8 (q7 (D0 a) l0++(b::r3 (D0 a) l0))) - (D0 a+1)) (c - (D0 a+1))) (IV (l6) rfl rfl e6) ?_)))))))))))))
 have p:=Q.pb [0]
 refine fw (.bool false) (JD (lo:=D0 a+1) (run_callFunc_extern Tryz.func170 e7 e7 e7 (e:=Extern.SlicesOverlaps.overlaps #[31,31] #[4]) e7) F1 Tryz.sizeOf56 p f4 e6 rfl (lq ((p.rds (i:=1) rfl).isSome e6) e6)) (Kz (.bool true) (nt (jt (Ic ?_))))
 refine qy [8] (Iu (Iu IC)) p ?_
 intro av R
 refine qv 0 rfl rfl (qt (v:=vJ (D0 a)) 1 rfl (λ _ _=>Ie (e:=a) (Iq rfl) e6) (qv 2 rfl rfl (qt (v:=vJ (D0 a+1)) 3 rfl (λ _ _=>Ie (e:=C5.wrap (((D0 a:Nat):Int)+1)) yk f0) (qt (v:= .slice (jS d (D0 a+1) 4 c) ((r8 (q7 (D0 a) l0++(b::r3 (D0 a) l0))) - (D0 a+1)) (c - (D0 a+1))) 4 rfl (λ _ _=>IV (l6) rfl rfl e6) (qv 5 rfl rfl (qt (v:=vJ (D0 a)) 6 rfl (λ _ _=>Ie (e:=a) (Iq rfl) e6) (qt (v:= .slice (jS d (D0 a) 4 c) ((r8 (q7 (D0 a) l0++(b::r3 (D0 a) l0))) - (D0 a)) (c - (D0 a))) 7 rfl (λ _ _=>IV (l6) rfl rfl e6) ?_)))))))
 have r:=R.pb [0]
 refine qd 8 rfl (Je (lo:=D0 a+1) (k:=l0.length - D0 a) (l6) r rfl (λ _=>lq ((r.rds (i:=0) rfl).isSome e6) e6) e6 rfl (bE.cut (lo:=D0 a) (hi:=r8 (q7 (D0 a) l0++(b::r3 (D0 a) l0))) (r.rds (i:=0) rfl) e6 e6 e6) e6 (λ u hu=>fU aU.one _ u (by rw [Ah aU.len e6 rfl e6] at hu; exact hu)) rfl ?_)
 intro ax t
 refine⟨.inl e7, ?_⟩
 refine qn (Ig (sr (Mz rfl (fw (vJ (D0 a)) (Ie (e:=a) (Iq rfl) e6) (fw (.slice (jS d (D0 a) 4 c) ((r8 (q7 (D0 a) l0++(b::r3 (D0 a) l0))) - (D0 a)) (c - (D0 a))) (IV (l6) rfl rfl e6) (Mz rfl ?_))))))
 refine WL.do rfl (Je (lo:=D0 a) (k:=1) (l6) t rfl (λ _=>lq ((t.rds (i:=0) rfl).isSome e6) e6) e6 rfl (aZ t (i:=1) rfl rG) e6 (λ u hu=>fU aU.one _ u (G0 hu)) rfl ?_)
 intro S T
 refine ns (Mz rfl (An rfl (rt (tR (rs ?_)))))
 have U:Own w D S [row d (r8 (q7 (D0 a) l0++(b::r3 (D0 a) l0))) c (q3 aU.cells (q7 (D0 a) l0++(b::r3 (D0 a) l0))) 56 4,qV B 1 (q3 aU.cells ([b])) 56 4]:=T.rowPart e6 (Ai (l:=l0) (m:=(r8 (q7 (D0 a) l0++(b::r3 (D0 a) l0))) - D0 a) (k2:=l0.length - D0 a) aU.len e6 (by rw [o]; exact G1 4 e6) rfl rfl e6 e6)
 have V:=U.pk [0]
 obtain rfl:=zj hr zq1
 exact⟨d,c,rfl,V,e6⟩
def q8 (l0:List aI):(List aI):=
 l0
theorem ll (w D d f u l0 e) (H:Own w D w []) (c:Ro w D λ w'=>bE w' 2 d f (q3 aI.cells l0)) (g:f=l0.length) (x:l0.length *32<=211106232532992) (hr:q8 l0=e):
    Calls v8 75 #[.slice d f u] w (d9 λ v w'=> ∃ r t,v= .slice r e.length t/\Own w D w' [row r e.length t (q3 aI.cells e) 153 2]):=by
 subst g
 refine cb Tryz.func75 ?_
 refine sr (An rfl (Ic (sr (Mz rfl (fw (.bool (Option.isNone d)) (I9 B5 rfl rfl) (nt ?_))))))
 rcases Li (Option.isNone d) with a | a
 obtain rfl:l0= []:=qJ (enc:=aI.cells) (H.ro c) a
 refine jT a (sr (An rfl (rt (tR (rs ?_)))))
 have h:Own w D w [row none 0 0 (q3 aI.cells []) 153 2]:=H.free (eZ 153 2)
 have i:=h.pf []
 obtain rfl:_=[]:=zj hr rfl
 exact⟨none,0,rfl,i⟩
 refine jF a (sk (sr ?_))
 refine lg [] 153 2 0 H ?_
 intro j l b
 replace b:Own w D l [row j 0 0 (q3 aI.cells []) 153 2]:=b
 refine Mz rfl ?_
 refine WL.do rfl (IM (k:=0) (m:=l0.length) (ko) b rfl rfl (jv B5 (b.ro c) (fU aI.one l0)) rfl e6 (s:=l0.length) e6 rfl ?_)
 intro n o y p
 refine An rfl (rt (rs ?_))
 have q:=p.pf []
 obtain rfl:_=l0:=zj hr rfl
 exact⟨n,o,rfl,q⟩
def ve (l0:List Int):(List Int):=
 l0
theorem ui (w D d f u l0 e) (H:Own w D w []) (c:Ro w D λ w'=>bE w' 1 d f (q3 (eI .i64) l0)) (g:f=l0.length) (x:l0.length *8<=211106232532992) (hr:ve l0=e):
    Calls v8 46 #[.slice d f u] w (d9 λ v w'=> ∃ r t,v= .slice r e.length t/\Own w D w' [row r e.length t (q3 (eI .i64) e) 3 1]):=by
 subst g
 refine cb Tryz.func46 ?_
 refine sr (An rfl (Ic (sr (Mz rfl (fw (.bool (Option.isNone d)) (I9 G2 rfl rfl) (nt ?_))))))
 rcases Li (Option.isNone d) with a | a
 obtain rfl:l0= []:=qJ (enc:=(eI .i64)) (H.ro c) a
 refine jT a (sr (An rfl (rt (tR (rs ?_)))))
 have h:Own w D w [row none 0 0 (q3 (eI .i64) []) 3 1]:=H.free (eZ 3 1)
 have i:=h.pf []
 obtain rfl:_=[]:=zj hr rfl
 exact⟨none,0,rfl,i⟩
 refine jF a (sk (sr ?_))
 refine lg [] 3 1 0 H ?_
 intro j l b
 replace b:Own w D l [row j 0 0 (q3 (eI .i64) []) 3 1]:=b
 refine Mz rfl ?_
 refine WL.do rfl (IM (k:=0) (m:=l0.length) (om) b rfl rfl (jv G2 (b.ro c) (fU vO l0)) rfl e6 (s:=l0.length) e6 rfl ?_)
 intro n o y p
 refine An rfl (rt (rs ?_))
 have q:=p.pf []
 obtain rfl:_=l0:=zj hr rfl
 exact⟨n,o,rfl,q⟩
def qK (l0:List aY):(List aY):=
 l0
theorem mr (w D d f u l0 e) (H:Own w D w []) (c:Ro w D λ w'=>bE w' 2 d f (q3 aY.cells l0)) (g:f=l0.length) (x:l0.length *24<=211106232532992) (hr:qK l0=e):
    Calls v8 44 #[.slice d f u] w (d9 λ v w'=> ∃ r t,v= .slice r e.length t/\Own w D w' [row r e.length t (q3 aY.cells e) 89 2]):=by
 subst g
 refine cb Tryz.func44 ?_
 refine sr (An rfl (Ic (sr (Mz rfl (fw (.bool (Option.isNone d)) (I9 B7 rfl rfl) (nt ?_))))))
 rcases Li (Option.isNone d) with a | a
 obtain rfl:l0= []:=qJ (enc:=aY.cells) (H.ro c) a
 refine jT a (sr (An rfl (rt (tR (rs ?_)))))
 have h:Own w D w [row none 0 0 (q3 aY.cells []) 89 2]:=H.free (eZ 89 2)
 have i:=h.pf []
 obtain rfl:_=[]:=zj hr rfl
 exact⟨none,0,rfl,i⟩
 refine jF a (sk (sr ?_))
 refine lg [] 89 2 0 H ?_
 intro j l b
 replace b:Own w D l [row j 0 0 (q3 aY.cells []) 89 2]:=b
 refine Mz rfl ?_
 refine WL.do rfl (IM (k:=0) (m:=l0.length) (qY) b rfl rfl (jv B7 (b.ro c) (fU aY.one l0)) rfl e6 (s:=l0.length) e6 rfl ?_)
 intro n o y p
 refine An rfl (rt (rs ?_))
 have q:=p.pf []
 obtain rfl:_=l0:=zj hr rfl
 exact⟨n,o,rfl,q⟩
def sK (l0:List bi):(List bi):=
 l0
theorem oC (w D d f u l0 e) (H:Own w D w []) (c:Ro w D λ w'=>bE w' 6 d f (q3 bi.cells l0)) (g:f=l0.length) (x:l0.length *80<=211106232532992) (hr:sK l0=e):
    Calls v8 109 #[.slice d f u] w (d9 λ v w'=> ∃ r t,v= .slice r e.length t/\Own w D w' [row r e.length t (q3 bi.cells e) 72 6]):=by
 subst g
 refine cb Tryz.func109 ?_
 refine sr (An rfl (Ic (sr (Mz rfl (fw (.bool (Option.isNone d)) (I9 y4 rfl rfl) (nt ?_))))))
 rcases Li (Option.isNone d) with a | a
 obtain rfl:l0= []:=qJ (enc:=bi.cells) (H.ro c) a
 refine jT a (sr (An rfl (rt (tR (rs ?_)))))
 have h:Own w D w [row none 0 0 (q3 bi.cells []) 72 6]:=H.free (eZ 72 6)
 have i:=h.pf []
 obtain rfl:_=[]:=zj hr rfl
 exact⟨none,0,rfl,i⟩
 refine jF a (sk (sr ?_))
 refine lg [] 72 6 0 H ?_
 intro j l b
 replace b:Own w D l [row j 0 0 (q3 bi.cells []) 72 6]:=b
 refine Mz rfl ?_
 refine WL.do rfl (IM (k:=0) (m:=l0.length) (qX) b rfl rfl (jv y4 (b.ro c) (fU bi.one l0)) rfl e6 (s:=l0.length) e6 rfl ?_)
 intro n o y p
 refine An rfl (rt (rs ?_))
 have q:=p.pf []
 obtain rfl:_=l0:=zj hr rfl
 exact⟨n,o,rfl,q⟩
end
open List renaming Perm->u3,drop_eq_nil_of_le->G4,getElem?_eq_some_iff->p7,perm_append_comm->u4,take_append_drop->s7,take_of_length_le->G3
section
open Go.RowKit
theorem vZ (d:List aC) (i j:Int) (h:0<=i/\i<=j):kv d i j=q7 (D0 i) d++r3 (D0 j) d:=by
 unfold kv
 by_cases c:i=j
 . rw [ip c,c,s7]
 . rw [iN c]
theorem wh (w D A n c d l i j k) (x:aC) (H:Own w D w [row A n c (q3 aC.cells d) 60 5,sepL (q3 aC.own d)]) (hn:n=l.length) (hd:s5 aC.abs d=l) (hl:l.length<=1000000) (hk:i=((k:Nat):Int)) (hj:j=i+1) (hx:d[k]? =some x):
    Calls v8 98 #[.slice A n c,vI i,vI j] w (d9 λ v w'=> ∃ B b,v= .slice B (r8 (q7 k l++r3 (k+1) l)) b/\
      Own w D w' (row B (r8 (q7 k l++r3 (k+1) l)) b (q3 aC.cells (q7 k d++r3 (k+1) d)) 60 5::sepL (q3 aC.own (q7 k d++r3 (k+1) d))::aC.own x)):=by
 obtain⟨a,e,ro,bk,rr⟩:=II H
 have hdl:d.length=l.length:=by rw [<- hd,s3]
 have hkl:=(p7.1 hx).1
 have f:D0 i=k:=e6
 have g:D0 j=k+1:=e6
 refine(oH w a A n c d i j _ e e6 e6 e6 (vZ d i j e6)).mono ?_
 rintro _ w' ⟨v,rfl,B,b,rfl,HQ,_⟩
 rw [f,g,aB (qc (i:=k) (j:=k+1) hd)] at HQ ⊢
 have h:=(bk _ _ HQ).perm (u3.swap _ _ _)
 have m:=AJ hx h
 exact⟨_,rfl,B,b,rfl,m.perm (u4 (l₁:=sepL (q3 aC.own (q7 k d++r3 (k+1) d))::aC.own x) (l₂:= [_]))⟩
theorem wm (d:List aC) (i:Int) (x:aC) (h:0<=i/\i<=(d.length:Int)):kw d i x=q7 (D0 i) d++(x::r3 (D0 i) d):=by
 unfold kw
 by_cases c:((D0 i:Nat):Int)=(d.length:Int)
 . rw [ip c,G3 e6,G4 e6]
 . rw [iN c]
theorem wo (w D A n c d l i k a) (y:aC) (z:bH) (H:Own w D w (row A n c (q3 aC.cells d) 60 5::qV a 1 (q3 aC.cells [y]) 60 5::sepL (q3 aC.own d)::aC.own y)) (hn:n=l.length) (hd:s5 aC.abs d=l) (hz:aC.abs y=z) (hl:l.length<=1000000) (hk:i=((k:Nat):Int)) (hi:k<=l.length):
    Calls v8 130 #[.slice A n c,vI i, .slice a 1 1] w (d9 λ v w'=> ∃ B b,v= .slice B (r8 (q7 k l++(z::r3 k l))) b/\
      Own w D w' [row B (r8 (q7 k l++(z::r3 k l))) b (q3 aC.cells (q7 k d++(y::r3 k d))) 60 5,sepL (q3 aC.own (q7 k d++(y::r3 k d)))]):=by
 obtain⟨e,f,ro,bk,rr⟩:=IJ H
 have hdl:d.length=l.length:=by rw [<- hd,s3]
 have g:D0 i=k:=e6
 refine(oI w e A n c d i a y _ f e6 e6 e6 (wm d i y e6)).mono ?_
 rintro _ w' ⟨v,rfl,B,b,rfl,HQ,_⟩
 rw [g,aB (rO (i:=k) hd hz)] at HQ ⊢
 have h:=bk _ _ HQ
 have j:Own w D w' (sepL (q3 aC.own d)::(aC.own y++ [row B (r8 (q7 k l++(z::r3 k l))) b (q3 aC.cells (q7 k d++(y::r3 k d))) 60 5])):=h.perm (u4 (l₁:= [_]) (l₂:=sepL (q3 aC.own d)::aC.own y))
 exact⟨_,rfl,B,b,rfl,(AL j).perm (u3.swap _ _ _)⟩
theorem zH (d:List bB) (i j:Int) (h:0<=i/\i<=j):lh d i j=q7 (D0 i) d++r3 (D0 j) d:=by
 unfold lh
 by_cases c:i=j
 . rw [ip c,c,s7]
 . rw [iN c]
theorem vH (w D A n c d l i j k) (x:bB) (H:Own w D w [row A n c (q3 bB.cells d) 107 9,sepL (q3 bB.own d)]) (hn:n=l.length) (hd:s5 bB.abs d=l) (hl:l.length<=1000000) (hk:i=((k:Nat):Int)) (hj:j=i+1) (hx:d[k]? =some x):
    Calls v8 105 #[.slice A n c,vI i,vI j] w (d9 λ v w'=> ∃ B b,v= .slice B (r8 (q7 k l++r3 (k+1) l)) b/\
      Own w D w' (row B (r8 (q7 k l++r3 (k+1) l)) b (q3 bB.cells (q7 k d++r3 (k+1) d)) 107 9::sepL (q3 bB.own (q7 k d++r3 (k+1) d))::bB.own x)):=by
 obtain⟨a,e,ro,bk,rr⟩:=II H
 have hdl:d.length=l.length:=by rw [<- hd,s3]
 have hkl:=(p7.1 hx).1
 have f:D0 i=k:=e6
 have g:D0 j=k+1:=e6
 refine(pV w a A n c d i j _ e e6 e6 e6 (zH d i j e6)).mono ?_
 rintro _ w' ⟨v,rfl,B,b,rfl,HQ,_⟩
 rw [f,g,aB (qc (i:=k) (j:=k+1) hd)] at HQ ⊢
 have h:=(bk _ _ HQ).perm (u3.swap _ _ _)
 have m:=AJ hx h
 exact⟨_,rfl,B,b,rfl,m.perm (u4 (l₁:=sepL (q3 bB.own (q7 k d++r3 (k+1) d))::bB.own x) (l₂:= [_]))⟩
theorem yQ (d:List aU) (i:Int) (x:aU) (h:0<=i/\i<=(d.length:Int)):lJ d i x=q7 (D0 i) d++(x::r3 (D0 i) d):=by
 unfold lJ
 by_cases c:((D0 i:Nat):Int)=(d.length:Int)
 . rw [ip c,G3 e6,G4 e6]
 . rw [iN c]
theorem yR (w D A n c d l i k a) (y:aU) (z:eD) (H:Own w D w (row A n c (q3 aU.cells d) 56 4::qV a 1 (q3 aU.cells [y]) 56 4::sepL (q3 aU.own d)::aU.own y)) (hn:n=l.length) (hd:s5 aU.abs d=l) (hz:aU.abs y=z) (hl:l.length<=1000000) (hk:i=((k:Nat):Int)) (hi:k<=l.length):
    Calls v8 155 #[.slice A n c,vI i, .slice a 1 1] w (d9 λ v w'=> ∃ B b,v= .slice B (r8 (q7 k l++(z::r3 k l))) b/\
      Own w D w' [row B (r8 (q7 k l++(z::r3 k l))) b (q3 aU.cells (q7 k d++(y::r3 k d))) 56 4,sepL (q3 aU.own (q7 k d++(y::r3 k d)))]):=by
 obtain⟨e,f,ro,bk,rr⟩:=IJ H
 have hdl:d.length=l.length:=by rw [<- hd,s3]
 have g:D0 i=k:=e6
 refine(qj w e A n c d i a y _ f e6 e6 e6 (yQ d i y e6)).mono ?_
 rintro _ w' ⟨v,rfl,B,b,rfl,HQ,_⟩
 rw [g,aB (rO (i:=k) hd hz)] at HQ ⊢
 have h:=bk _ _ HQ
 have j:Own w D w' (sepL (q3 aU.own d)::(aU.own y++ [row B (r8 (q7 k l++(z::r3 k l))) b (q3 aU.cells (q7 k d++(y::r3 k d))) 56 4])):=h.perm (u4 (l₁:= [_]) (l₂:=sepL (q3 aU.own d)::aU.own y))
 exact⟨_,rfl,B,b,rfl,(AL j).perm (u3.swap _ _ _)⟩
end
open List renaming append_nil->s6,getElem?_eq_getElem->s2,length_replicate->H2,length_set->H1
open Sv renaming mk->H0
open _root_.Go.Proofs.Tryz renaming isAgg31->H3,sizeOf33->H4
section
open Go.RowKit
def jh (l0:List aQ):(List aQ):=
 l0
theorem mD (w D C U S d0 l0 T) (H:Own w D w []) (z:s5 ae.abs d0=l0) (V:Ro w D λ w'=>bE w' 3 C U (q3 ae.cells d0)) (E:∀ x ∈ d0,Ro w D (λ w'=>bE w' 2 x.ak.A x.ak.ls.length (q3 aI.cells x.ak.ls))/\(x.ak.ls.length<=x.ak.c/\x.ak.ls.length<=9223372036854775807)) (W:U=l0.length) (aK:l0.length *48<=211106232532992) (X:(∀ x ∈ l0,x.ak.ls.length<=1000000)) (hr:jh l0=T):
    Calls v8 48 #[.slice C U S] w (d9 λ v w'=> ∃ B0 b0 Y,v= .slice B0 T.length b0/\Own w D w' [row B0 T.length b0 (q3 ae.cells Y) 149 3,sepL (q3 ae.own Y)]/\(s5 ae.abs Y=T)):=by
 subst W
 have aA:=aB z
 refine cb Tryz.func48 ?_
 refine sr (Ar rfl (Mz rfl ?_))
 obtain⟨aL,F,G,I,aC⟩:=Ii H
 refine cl Tryz.call74 (pO _ _ C _ S d0 d0 F (G _ V) e6 e6 rfl) ?_
 rintro _ aM ⟨g,h,rfl,J⟩
 have Z:=I _ _ J
 refine An rfl (Ic (sr (Mz rfl (Kz (vJ d0.length) (Mn rfl (bo ?_))))))
 have aa:=Z.pf []
 have af:=(aa.sepNil).pick [1,0] f4 rfl
 refine Wp.loop (ι:=Nat × (List ae)) (λ i=> [(8,vJ i.1),(7,vJ d0.length),(6, .slice g d0.length h),(0, .slice g d0.length h),(5, .slice g d0.length h),(4, .slice C l0.length S),(2, .slice none 0 0)]) (fun(i:Nat × (List ae)) w'=>Own w D w' [row g d0.length h (q3 ae.cells (i.2++r3 i.1 d0)) 149 3,sepL (q3 ae.own i.2)]/\(i.1<=d0.length/\i.2.length=i.1/\s5 ae.abs i.2=s5 ae.abs (q7 i.1 d0))) (λ i=>d0.length - i.1) (0, []) ⟨rfl,rfl,rfl,rfl,rfl,rfl,rfl,trivial⟩ ⟨af,(show 0<=d0.length/\r8 []=0/\s5 ae.abs []=s5 ae.abs (q7 0 d0) from ⟨e6,rfl,rfl⟩)⟩ ?_
 rintro ⟨b,d⟩ ag ⟨t,n⟩
 replace n:b<=d0.length/\d.length=b/\s5 ae.abs d=s5 ae.abs (q7 b d0):=n
 obtain⟨aD,B,p⟩:=n
 refine sr (Kz (.bool (decide ((b:Int) < (d0.length:Int)))) (nt (Ic ?_)))
 by_cases K:(b:Int) < (d0.length:Int)
 refine jT (dT K) (sk (Ic (bo (sr (Mz rfl (An rfl (Ib ?_)))))))
 obtain⟨a,j⟩:∃ q,d0[b]? =some q:=⟨_,s2 e6⟩
 have r:(d++r3 b d0)[b]? =some a:=yP e6 j
 have aF:=(E _ (D3 j)).2
 have aG:a.ak.ls.length<=1000000:=by have q9:=X _ (D3 (fF z j)); exact q9
 refine Mz rfl (Mz rfl (Mz rfl (Mz rfl (fw (.pointer (some ⟨ab g,ao g+b *3,none⟩)) (Ij (sI) rfl rfl ((t.rds (i:=0) rfl).addr (i:=b) e6) e6) (Kz (.pointer (some ⟨ab g,ao g+b *3+2,none⟩)) (fw (.slice a.ak.A a.ak.ls.length a.ak.c) (Io rfl (bZ.one Tryz.isAgg147 (((t.rds (i:=0) rfl).elem ae.len r f4).at_ (k:=2) rfl))) ?_))))))
 obtain⟨aO,L,M,N,aH⟩:=Ii t
 refine cl Tryz.call75 (ll _ _ a.ak.A a.ak.ls.length a.ak.c a.ak.ls a.ak.ls L (M _ (E _ (D3 j)).1) rfl e6 rfl) ?_
 rintro _ aP ⟨l,m,rfl,O⟩
 have P:=N _ _ O
 refine fw (.pointer (some ⟨ab g,ao g+b *3,none⟩)) (Ij (sI) rfl rfl ((P.rds (i:=1) rfl).addr (i:=b) e6) e6) (Kz (.pointer (some ⟨ab g,ao g+b *3+2,none⟩)) ?_)
 have ah:=P.pf [1]
 refine Jb (Do.storeRow (vs:= [.slice l a.ak.ls.length m]) (o:=b *3+2) (q:=ao g+b *3+2) ah rfl e6 rfl Tryz.sizeOf147 rfl rfl (Le rfl) (je ae.len r (Le rfl)) (jV (y:=(ae.mk a.eF a.aT (H0 l m a.ak.ls))) ae.len rfl (Le rfl) r) ?_)
 intro ai aj
 refine WL.nil (bN (Ig (Ib (fw (vJ (b+1)) (Ie (e:=C5.wrap ((b:Int)+1)) yk f0) (Mz rfl (WL.nil ?_))))))
 have ak:=aj.pb [0]
 have au:Own w D ai [sepL (q3 ae.own (d++ [(ae.mk a.eF a.aT (H0 l m a.ak.ls))])),row g d0.length h (q3 ae.cells (List.set (d++r3 b d0) b (ae.mk a.eF a.aT (H0 l m a.ak.ls)))) 149 3]:=xE (f:=ae.own) (es:=d) (y:=(ae.mk a.eF a.aT (H0 l m a.ak.ls))) ak
 have Q:=au.pk [1,0]
 rw [xG _ e6 e6] at Q
 exact Ir (b+1,d++ [(ae.mk a.eF a.aT (H0 l m a.ak.ls))]) ⟨rfl,rfl,rfl,rfl,rfl,rfl,rfl,trivial⟩ ⟨Q,(show (b+1)<=d0.length/\r8 (d++ [(ae.mk a.eF a.aT (H0 l m a.ak.ls))])=(b+1)/\s5 ae.abs (d++ [(ae.mk a.eF a.aT (H0 l m a.ak.ls))])=s5 ae.abs (q7 (b+1) d0) from ⟨e6,by simp [B],xH (f:=ae.abs) p j rfl⟩)⟩ (by show d0.length - (b+1) < d0.length - b; omega)
 refine jF (dF K) (Wp.exit (Il (Il (IB (Ig (sr ?_))))))
 have u:s5 ae.abs d=l0:=by rw [p,G3 e6]; exact z
 have R:=t
 rw [G4 e6,s6] at R
 have aJ:=aB u
 refine Mz rfl (An rfl (rt (rs ?_)))
 have s:d0.length=l0.length:=by first | omega | (simp only [H1]; done) | (simp only [H1,o1,s0,F2,m9,o0,H2]; omega)
 have av:Own w D ag [row g l0.length h (q3 ae.cells d) 149 3,sepL (q3 ae.own d)]:=by rw [<- s]; exact R
 have ax:=av.pf []
 obtain rfl:_=l0:=zj hr rfl
 exact⟨g,h,d,(by first | rfl | (rw [<- s]; done) | (rw [<- s]; rfl)),ax,u⟩
theorem CB (w D A n c d l) (H:Own w D w []) (hd:s5 ae.abs d=l) (hx:Ro w D λ w'=>bE w' 3 A n (q3 ae.cells d)) (hm:∀ x ∈ d,Ro w D (λ w'=>bE w' 2 x.ak.A x.ak.ls.length (q3 aI.cells x.ak.ls))/\(x.ak.ls.length<=x.ak.c/\x.ak.ls.length<=9223372036854775807)) (hn:n=l.length) (hl:l.length *48<=211106232532992) (hh:∀ x ∈ l,x.ak.ls.length<=1000000):
    Calls v8 48 #[.slice A n c] w (d9 λ v w'=> ∃ B b e,v= .slice B e.length b/\Own w D w' [row B e.length b (q3 ae.cells e) 149 3,sepL (q3 ae.own e)]/\(s5 ae.abs e=l)):=by
 refine(mD w D A n c d l l H hd hx hm hn hl hh rfl).mono ?_
 rintro _ w' ⟨v,rfl,B,b,e,rfl,HQ,he⟩
 have hle:l.length=e.length:=by rw [<- he,s3]
 rw [hle] at HQ ⊢
 exact⟨_,rfl,B,b,e,rfl,HQ,he⟩
def gW (a:cZ):cZ:=
 a
theorem nN (w D) (a:cZ) (B aD C E aF F b J aG K d) (Y:cZ) (H:Own w D w []) (aX:aD=a.ag.ls.length) (aZ:Ro w D λ w'=>bE w' 2 B a.ag.ls.length (q3 aY.cells a.ag.ls)) (dM:a.ag.ls.length<=C/\a.ag.ls.length<=9223372036854775807) (T:s5 aC.abs b=a.aj.ls) (bf:aF=a.aj.ls.length) (bg:Ro w D λ w'=>bE w' 5 E a.aj.ls.length (q3 aC.cells b)) (dN:a.aj.ls.length<=F/\a.aj.ls.length<=9223372036854775807) (aa:∀ x ∈ b,Ro w D (λ w'=>bE w' 1 x.au.A x.au.ls.length (q3 (eI .i64) x.au.ls))/\(x.au.ls.length<=x.au.c/\x.au.ls.length<=9223372036854775807)) (P:s5 aU.abs d=a.aF.ls) (bi:aG=a.aF.ls.length) (bn:Ro w D λ w'=>bE w' 4 J a.aF.ls.length (q3 aU.cells d)) (dO:a.aF.ls.length<=K/\a.aF.ls.length<=9223372036854775807) (Q:∀ x ∈ d,Ro w D (λ w'=>bE w' 3 x.ai.A x.ai.ls.length (q3 ae.cells x.ai.ls))/\(x.ai.ls.length<=x.ai.c/\x.ai.ls.length<=9223372036854775807)/\(∀ y1 ∈ x.ai.ls,Ro w D (λ w'=>bE w' 2 y1.ak.A y1.ak.ls.length (q3 aI.cells y1.ak.ls))/\(y1.ak.ls.length<=y1.ak.c/\y1.ak.ls.length<=9223372036854775807))) (fI:a.ag.ls.length<=1000000/\a.aj.ls.length<=1000000/\a.aF.ls.length<=1000000) (dP:(∀ x ∈ a.aj.ls,x.au.ls.length<=1000000)) (bF:(∀ x ∈ a.aF.ls,x.ai.ls.length<=1000000/\∀ y ∈ x.ai.ls,y.ak.ls.length<=1000000)) (hr:gW a=Y):
    Calls v8 20 #[.agg #[vI a.au,vU a.av,vU a.aV,vU a.aL, .slice B aD C, .slice E aF F, .slice J aG K]] w (d9 λ v w'=> ∃ aH aJ aK aL aM aN af ag,v= .agg #[vI Y.au,vU Y.av,vU Y.aV,vU Y.aL, .slice aH Y.ag.ls.length aJ, .slice aK Y.aj.ls.length aL, .slice aM Y.aF.ls.length aN]/\Own w D w' [row aH Y.ag.ls.length aJ (q3 aY.cells Y.ag.ls) 89 2,row aK Y.aj.ls.length aL (q3 aC.cells af) 60 5,sepL (q3 aC.own af),row aM Y.aF.ls.length aN (q3 aU.cells ag) 56 4,sepL (q3 aU.own ag)]/\(s5 aC.abs af=Y.aj.ls)/\(s5 aU.abs ag=Y.aF.ls)):=by
 subst aX bf bi
 have dK:=aB T
 have dL:=aB P
 refine cb Tryz.func20 ?_
 refine sr ?_
 refine dV [vI a.au,vU a.av,vU a.aV,vU a.aL, .slice B a.ag.ls.length C, .slice E a.aj.ls.length F, .slice J a.aF.ls.length K] 33 H ?_
 intro g fJ dQ
 refine dV [vI 0, .int .u64 0, .int .u64 0, .int .u64 0, .slice none 0 0, .slice none 0 0, .slice none 0 0] 33 dQ ?_
 intro R fK bG
 refine ns (Kz (vP g 4) (Lz (.slice B a.ag.ls.length C) bG 1 Tryz.isAgg29 ?_))
 obtain⟨fM,bH,bI,bJ,eT⟩:=Ii bG
 refine cl Tryz.call44 (mr _ _ B a.ag.ls.length C a.ag.ls a.ag.ls bH (bI _ aZ) rfl e6 rfl) ?_
 rintro _ fO ⟨G,I,rfl,bK⟩
 have bL:=bJ _ _ bK
 have eU:=zr 0 bL
 refine Kz (vP g 4) ?_
 have dR:=bL.pf [2]
 refine dS [.slice G a.ag.ls.length I] 4 dR Tryz.sizeOf29 ?_
 intro fP bM
 refine ns (Kz (vP g 5) (Lz (.slice E a.aj.ls.length F) bM 0 D2 ?_))
 obtain⟨fQ,bO,bP,bR,eX⟩:=Ii bM
 refine cl Tryz.call45 (oO _ _ E _ F b b bO (bP _ bg) e6 e6 rfl) ?_
 rintro _ fT ⟨n,z,rfl,bS⟩
 have dU:=bR _ _ bS
 refine Kz (vP g 5) ?_
 have dW:=dU.pf [1]
 refine dS [.slice n b.length z] 5 dW Tryz.sizeOf30 ?_
 intro fU bT
 refine nt (Ic (sr (Kz (vP g 5) (Lz (.slice n b.length z) bT 0 D2 (Kz (vJ b.length) (Mn rfl (bo ?_)))))))
 have dX:=bT.pb [1]
 have dY:=(dX.sepNil).pick [1,2,3,4,0] f4 rfl
 refine Wp.loop (ι:=Nat × (List aC)) (λ i=> [(16,vJ i.1),(15,vJ b.length),(14, .slice n b.length z),(13,vP g 5),(12,vP g 5),(11, .slice n b.length z),(10, .slice E a.aj.ls.length F),(9,vP g 5),(8,vP g 4),(7, .slice G a.ag.ls.length I),(6, .slice B a.ag.ls.length C),(5,vP g 4),(2,vP R 0),(1,vP g 0),(0, .agg #[vI a.au,vU a.av,vU a.aV,vU a.aL, .slice B a.ag.ls.length C, .slice E a.aj.ls.length F, .slice J a.aF.ls.length K])]) (fun(i:Nat × (List aC)) w'=>Own w D w' [blk g [vI a.au,vU a.av,vU a.aV,vU a.aL, .slice G a.ag.ls.length I, .slice n b.length z, .slice J a.aF.ls.length K] 33,row G a.ag.ls.length I (q3 aY.cells a.ag.ls) 89 2,blk R [vI 0, .int .u64 0, .int .u64 0, .int .u64 0, .slice none 0 0, .slice none 0 0, .slice none 0 0] 33,row n b.length z (q3 aC.cells (i.2++r3 i.1 b)) 60 5,sepL (q3 aC.own i.2)]/\(i.1<=b.length/\i.2.length=i.1/\s5 aC.abs i.2=s5 aC.abs (q7 i.1 b))) (λ i=>b.length - i.1) (0, []) ⟨rfl,rfl,rfl,rfl,rfl,rfl,rfl,rfl,rfl,rfl,rfl,rfl,rfl,rfl,rfl,trivial⟩ ⟨dY,(show 0<=b.length/\r8 []=0/\s5 aC.abs []=s5 aC.abs (q7 0 b) from ⟨e6,rfl,rfl⟩)⟩ ?_
 rintro ⟨p,u⟩ fV ⟨bU,ah⟩
 replace ah:p<=b.length/\u.length=p/\s5 aC.abs u=s5 aC.abs (q7 p b):=ah
 obtain⟨eY,bq,ai⟩:=ah
 refine sr (Kz (.bool (decide ((p:Int) < (b.length:Int)))) (nt (Ic ?_)))
 by_cases bV:(p:Int) < (b.length:Int)
 refine jT (dT bV) (sk (Ic (bo (sr (Mz rfl (An rfl ?_))))))
 obtain⟨j,S⟩:∃ q,b[p]? =some q:=⟨_,s2 e6⟩
 have aj:(u++r3 p b)[p]? =some j:=yP e6 S
 have eZ:=(aa _ (D3 S)).2
 have fe:j.au.ls.length<=1000000:=by have q9:=dP _ (D3 (fF T S)); exact q9
 refine Ho [12] (bQ.block (Iu (Iu (bQ.block (Iu IC))))) bU ?_
 intro fZ dZ
 refine qp g 5 0 rfl (ql 1 rfl 0 D2 rfl rfl rfl (qv 2 rfl rfl (qp g 5 3 rfl (ql 4 rfl 0 D2 rfl rfl rfl (qv 5 rfl rfl (qt (v:= .pointer (some ⟨ab n,ao n+p *5,none⟩)) 6 rfl (λ _ ⟨_,H9⟩=>Ij (kW) rfl rfl ((H9.rds (i:=3) rfl).addr (i:=p) e6) e6) (qk (.pointer (some ⟨ab n,ao n+p *5+4,none⟩)) 7 rfl (qt (v:= .slice j.au.A j.au.ls.length j.au.c) 8 rfl (λ _ ⟨_,H9⟩=>Io rfl (bZ.one Tryz.isAgg58 (((H9.rds (i:=3) rfl).elem aC.len aj f4).at_ (k:=4) rfl))) ?_))))))))
 obtain⟨gm,bW,bX,bY,fo⟩:=Ii dZ
 refine qd 9 rfl (Iz Tryz.call46 rfl (ui _ _ j.au.A j.au.ls.length j.au.c j.au.ls j.au.ls bW (bX _ (aa _ (D3 S)).1) rfl e6 rfl) ?_)
 rintro _ gp ⟨U,V,rfl,cu⟩
 have ed:=bY _ _ cu
 have cz:=ed.pb [0]
 refine⟨.inr ⟨_,cz⟩, ?_⟩
 refine qt (v:= .pointer (some ⟨ab n,ao n+p *5,none⟩)) 10 rfl (λ _ ⟨_,H9⟩=>Ij (kW) rfl rfl ((H9.rds (i:=3) rfl).addr (i:=p) e6) e6) (qk (.pointer (some ⟨ab n,ao n+p *5+4,none⟩)) 11 rfl ?_)
 have ek:=cz.pf [3]
 refine qe 12 rfl (Do.storeRow (vs:= [.slice U j.au.ls.length V]) (o:=p *5+4) (q:=ao n+p *5+4) ek rfl e6 rfl Tryz.sizeOf58 rfl rfl (Le rfl) (je aC.len aj (Le rfl)) (jV (y:=(aC.mk j.aN j.aK j.av j.aP (H0 U V j.au.ls))) aC.len rfl (Le rfl) aj) ?_)
 intro eu eB
 refine⟨.inl e7, ?_⟩
 refine qn (bN (Ig (Ib (fw (vJ (p+1)) (Ie (e:=C5.wrap ((p:Int)+1)) yk f0) (Mz rfl (WL.nil ?_))))))
 have eD:=eB.px [5,4] [] [0]
 have eF:Own w D eu (sepL (q3 aC.own (u++ [(aC.mk j.aN j.aK j.av j.aP (H0 U V j.au.ls))]))::_):=xE (f:=aC.own) (es:=u) (y:=(aC.mk j.aN j.aK j.av j.aP (H0 U V j.au.ls))) eD
 have cB:=eF.pk [1,2,3,4,0]
 rw [xG _ e6 e6] at cB
 exact Ir (p+1,u++ [(aC.mk j.aN j.aK j.av j.aP (H0 U V j.au.ls))]) ⟨rfl,rfl,rfl,rfl,rfl,rfl,rfl,rfl,rfl,rfl,rfl,rfl,rfl,rfl,rfl,trivial⟩ ⟨cB,(show (p+1)<=b.length/\r8 (u++ [(aC.mk j.aN j.aK j.av j.aP (H0 U V j.au.ls))])=(p+1)/\s5 aC.abs (u++ [(aC.mk j.aN j.aK j.av j.aP (H0 U V j.au.ls))])=s5 aC.abs (q7 (p+1) b) from ⟨e6,by simp [bq],xH (f:=aC.abs) ai S rfl⟩)⟩ (by show b.length - (p+1) < b.length - p; omega)
 refine jF (dF bV) (Wp.exit (Il (Il (IB (Ig (sr ?_))))))
 have aO:s5 aC.abs u=a.aj.ls:=by rw [ai,G3 e6]; exact T
 have bv:=bU
 rw [G4 e6,s6] at bv
 have fq:=aB aO
 refine Kz (vP g 6) (Lz (.slice J a.aF.ls.length K) bv 0 H3 ?_)
 obtain⟨gq,cK,cO,df,fu⟩:=Ii bv
 refine cl Tryz.call47 (qz _ _ J _ K d d cK (cO _ bn) e6 e6 rfl) ?_
 rintro _ gu ⟨t,s,rfl,dh⟩
 have di:=df _ _ dh
 refine Kz (vP g 6) ?_
 have dm:=di.pf [1]
 refine dS [.slice t d.length s] 6 dm Tryz.sizeOf31 ?_
 intro fA aP
 refine nt (Ic (sr (Kz (vP g 6) (Lz (.slice t d.length s) aP 0 H3 (Kz (vJ d.length) (Mn rfl (bo ?_)))))))
 have dn:=aP.pb [1]
 have dw:=(dn.sepNil).pick [1,2,3,4,5,6,0] f4 rfl
 refine Wp.loop (ι:=Nat × (List aU)) (λ i=> [(39,vJ i.1),(38,vJ d.length),(37, .slice t d.length s),(36,vP g 6),(35,vP g 6),(34, .slice t d.length s),(33, .slice J a.aF.ls.length K),(32,vP g 6),(17, .bool (decide ((p:Int) < (b.length:Int)))),(16,vJ p),(15,vJ b.length),(14, .slice n b.length z),(13,vP g 5),(12,vP g 5),(11, .slice n b.length z),(10, .slice E a.aj.ls.length F),(9,vP g 5),(8,vP g 4),(7, .slice G a.ag.ls.length I),(6, .slice B a.ag.ls.length C),(5,vP g 4),(2,vP R 0),(1,vP g 0),(0, .agg #[vI a.au,vU a.av,vU a.aV,vU a.aL, .slice B a.ag.ls.length C, .slice E a.aj.ls.length F, .slice J a.aF.ls.length K])]) (fun(i:Nat × (List aU)) w'=>Own w D w' [blk g [vI a.au,vU a.av,vU a.aV,vU a.aL, .slice G a.ag.ls.length I, .slice n b.length z, .slice t d.length s] 33,row G a.ag.ls.length I (q3 aY.cells a.ag.ls) 89 2,blk R [vI 0, .int .u64 0, .int .u64 0, .int .u64 0, .slice none 0 0, .slice none 0 0, .slice none 0 0] 33,row n b.length z (q3 aC.cells u) 60 5,sepL (q3 aC.own u),row t d.length s (q3 aU.cells (i.2++r3 i.1 d)) 56 4,sepL (q3 aU.own i.2)]/\(i.1<=d.length/\i.2.length=i.1/\s5 aU.abs i.2=s5 aU.abs (q7 i.1 d))) (λ i=>d.length - i.1) (0, []) ⟨rfl,rfl,rfl,rfl,rfl,rfl,rfl,rfl,rfl,rfl,rfl,rfl,rfl,rfl,rfl,rfl,rfl,rfl,rfl,rfl,rfl,rfl,rfl,rfl,trivial⟩ ⟨dw,(show 0<=d.length/\r8 []=0/\s5 aU.abs []=s5 aU.abs (q7 0 d) from ⟨e6,rfl,rfl⟩)⟩ ?_
 rintro ⟨l,r⟩ fB ⟨aQ,W⟩
 replace W:l<=d.length/\r.length=l/\s5 aU.abs r=s5 aU.abs (q7 l d):=W
 obtain⟨eG,aA,Z⟩:=W
 refine sr (Kz (.bool (decide ((l:Int) < (d.length:Int)))) (nt (Ic ?_)))
 by_cases aR:(l:Int) < (d.length:Int)
 refine jT (dT aR) (sk (Ic (bo (sr (Mz rfl (An rfl ?_))))))
 obtain⟨h,L⟩:∃ q,d[l]? =some q:=⟨_,s2 e6⟩
 have X:(r++r3 l d)[l]? =some h:=yP e6 L
 have eH:=(Q _ (D3 L)).2.1
 have eO:h.ai.ls.length<=1000000:=by have q9:=(bF _ (D3 (fF P L))).1; simp only [aU.abs,s3] at q9; exact q9
 refine pU 7 [12] (bQ.block (Iu (Iu (bQ.block (Iu IC))))) aQ ?_
 intro fC dx
 refine qp g 6 0 rfl (ql 1 rfl 0 H3 rfl rfl rfl (qv 2 rfl rfl (qp g 6 3 rfl (ql 4 rfl 0 H3 rfl rfl rfl (qv 5 rfl rfl (qt (v:= .pointer (some ⟨ab t,ao t+l *4,none⟩)) 6 rfl (λ _ ⟨_,H9⟩=>Ij (l6) rfl rfl ((H9.rds (i:=5) rfl).addr (i:=l) e6) e6) (qk (.pointer (some ⟨ab t,ao t+l *4+3,none⟩)) 7 rfl (qt (v:= .slice h.ai.A h.ai.ls.length h.ai.c) 8 rfl (λ _ ⟨_,H9⟩=>Io rfl (bZ.one Tryz.isAgg40 (((H9.rds (i:=5) rfl).elem aU.len X f4).at_ (k:=3) rfl))) ?_))))))))
 obtain⟨fD,bz,au,bA,eP⟩:=Ii dx
 refine qd 9 rfl (Iz Tryz.call48 rfl (CB _ _ h.ai.A h.ai.ls.length h.ai.c h.ai.ls (s5 ae.abs h.ai.ls) bz rfl (au _ (Q _ (D3 L)).1) (λ x9 h9=>⟨au _ ((Q _ (D3 L)).2.2 x9 h9).1,((Q _ (D3 L)).2.2 x9 h9).2⟩) (by simp only [s3]) (by simp only [s3]; omega) (by have q9:=(bF _ (D3 (fF P L))).2; simp only [aU.abs] at q9; exact q9)) ?_)
 rintro _ fH ⟨M,N,O,rfl,bB,bC⟩
 have dz:=bA _ _ bB
 have aS:=dz.pb [0,1]
 refine⟨.inr ⟨_,aS⟩, ?_⟩
 refine qt (v:= .pointer (some ⟨ab t,ao t+l *4,none⟩)) 10 rfl (λ _ ⟨_,H9⟩=>Ij (l6) rfl rfl ((H9.rds (i:=5) rfl).addr (i:=l) e6) e6) (qk (.pointer (some ⟨ab t,ao t+l *4+3,none⟩)) 11 rfl ?_)
 have dA:=aS.pf [5]
 refine qe 12 rfl (Do.storeRow (vs:= [.slice M O.length N]) (o:=l *4+3) (q:=ao t+l *4+3) dA rfl e6 rfl Tryz.sizeOf40 rfl rfl (Le rfl) (je aU.len X (Le rfl)) (jV (y:=(aU.mk h.aK h.av h.aP (H0 M N O))) aU.len rfl (Le rfl) X) ?_)
 intro dB dC
 refine⟨.inl e7, ?_⟩
 refine qn (bN (Ig (Ib (fw (vJ (l+1)) (Ie (e:=C5.wrap ((l:Int)+1)) yk f0) (Mz rfl (WL.nil ?_))))))
 have dD:=dC.px [7,8,6] [] [0]
 have dE:Own w D dB (sepL (q3 aU.own (r++ [(aU.mk h.aK h.av h.aP (H0 M N O))]))::_):=xE (f:=aU.own) (es:=r) (y:=(aU.mk h.aK h.av h.aP (H0 M N O))) dD
 have aT:=dE.pk [1,2,3,4,5,6,0]
 rw [xG _ e6 e6] at aT
 exact Ir (l+1,r++ [(aU.mk h.aK h.av h.aP (H0 M N O))]) ⟨rfl,rfl,rfl,rfl,rfl,rfl,rfl,rfl,rfl,rfl,rfl,rfl,rfl,rfl,rfl,rfl,rfl,rfl,rfl,rfl,rfl,rfl,rfl,rfl,trivial⟩ ⟨aT,(show (l+1)<=d.length/\r8 (r++ [(aU.mk h.aK h.av h.aP (H0 M N O))])=(l+1)/\s5 aU.abs (r++ [(aU.mk h.aK h.av h.aP (H0 M N O))])=s5 aU.abs (q7 (l+1) d) from ⟨e6,by simp [aA],xH (f:=aU.abs) Z L (by simp only [aU.abs]; rw [bC])⟩)⟩ (by show d.length - (l+1) < d.length - l; omega)
 refine jF (dF aR) (Wp.exit (Il (Il (IB (Ig (sr ?_))))))
 have av:s5 aU.abs r=a.aF.ls:=by rw [Z,G3 e6]; exact P
 have ax:=aQ
 rw [G4 e6,s6] at ax
 have eQ:=aB av
 refine La ([vI a.au,vU a.av,vU a.aV,vU a.aL, .slice G a.ag.ls.length I, .slice n b.length z, .slice t d.length s]) ax 0 Tryz.isAgg33 H4 ?_
 have dG:=ax.pf [2]
 refine dS [vI a.au,vU a.av,vU a.aV,vU a.aL, .slice G a.ag.ls.length I, .slice n b.length z, .slice t d.length s] 0 dG H4 ?_
 intro aV aW
 refine nt (rt (Fin.res (ol rfl rfl (Iy (cs:= [vI a.au,vU a.av,vU a.aV,vU a.aL, .slice G a.ag.ls.length I, .slice n b.length z, .slice t d.length s]) Tryz.isAgg33 H4 ((aW.cls (i:=0) rfl).lit (k:=0) (m:=7) rfl))) ?_))
 have ay:b.length=a.aj.ls.length:=by first | omega | (simp only [H1]; done) | (simp only [H1,o1,s0,F2,m9,o0,H2]; omega)
 have dH:Own w D aV [blk R [vI a.au,vU a.av,vU a.aV,vU a.aL, .slice G a.ag.ls.length I, .slice n a.aj.ls.length z, .slice t d.length s] 33,blk g [vI a.au,vU a.av,vU a.aV,vU a.aL, .slice G a.ag.ls.length I, .slice n a.aj.ls.length z, .slice t d.length s] 33,row G a.ag.ls.length I (q3 aY.cells a.ag.ls) 89 2,row n a.aj.ls.length z (q3 aC.cells u) 60 5,sepL (q3 aC.own u),row t d.length s (q3 aU.cells r) 56 4,sepL (q3 aU.own r)]:=by rw [<- ay]; exact aW
 have az:d.length=a.aF.ls.length:=by first | omega | (simp only [H1]; done) | (simp only [H1,o1,s0,F2,m9,o0,H2]; omega)
 have dI:Own w D aV [blk R [vI a.au,vU a.av,vU a.aV,vU a.aL, .slice G a.ag.ls.length I, .slice n a.aj.ls.length z, .slice t a.aF.ls.length s] 33,blk g [vI a.au,vU a.av,vU a.aV,vU a.aL, .slice G a.ag.ls.length I, .slice n a.aj.ls.length z, .slice t a.aF.ls.length s] 33,row G a.ag.ls.length I (q3 aY.cells a.ag.ls) 89 2,row n a.aj.ls.length z (q3 aC.cells u) 60 5,sepL (q3 aC.own u),row t a.aF.ls.length s (q3 aU.cells r) 56 4,sepL (q3 aU.own r)]:=by rw [<- az]; exact dH
 have dJ:=dI.px [] [0,1] []
 obtain rfl:_=a:=zj hr rfl
 exact⟨G,I,n,z,t,s,u,r,(by(first | rw [<- ay] | skip); (first | rw [<- az] | skip); first | done | rfl),dJ,aO,av⟩
end
section
open Go.RowKit
def dw (c:bI) (a:bL):bI:=
 bnd (jh a.ai.ls) λ b=>bI.mk (Ll.mk (c.aX.ls++ [(bL.mk a.aD a.aJ a.fI a.aK a.dz a.eH a.aP a.av a.aN a.dY a.aV a.aL a.dL a.cu a.xN a.cz a.bU (Ll.mk a.aH.ls) (Ll.mk b) (Ll.mk a.ag.ls))]))
theorem gp (w D Q) (L:bI) (R S p T) (a:bL) (r U u z V B J C W E) (r0:bI) (H:Own w D w [blk Q [.pointer (some ⟨T,0,none⟩), .slice R L.aX.ls.length S] 98,row R L.aX.ls.length S (List.flatMap bf.cells p) 42 21,sepL (List.flatMap bf.own p)]) (G:List.map bf.abs p=L.aX.ls) (Z:U=a.aH.ls.length) (aa:Ro w D λ w'=>bE w' 6 r a.aH.ls.length (List.flatMap bi.cells a.aH.ls)) (aZ:a.aH.ls.length<=u/\a.aH.ls.length<=9223372036854775807) (M:List.map ae.abs J=a.ai.ls) (af:V=a.ai.ls.length) (ag:Ro w D λ w'=>bE w' 3 z a.ai.ls.length (List.flatMap ae.cells J)) (bg:a.ai.ls.length<=B/\a.ai.ls.length<=9223372036854775807) (N:∀ x ∈ J,Ro w D (λ w'=>bE w' 2 x.ak.A x.ak.ls.length (List.flatMap aI.cells x.ak.ls))/\(x.ak.ls.length<=x.ak.c/\x.ak.ls.length<=9223372036854775807)) (ai:W=a.ag.ls.length) (aj:Ro w D λ w'=>bE w' 2 C a.ag.ls.length (List.flatMap aY.cells a.ag.ls)) (bn:a.ag.ls.length<=E/\a.ag.ls.length<=9223372036854775807) (bZ:L.aX.ls.length<=1000000/\a.aH.ls.length<=1000000/\a.ag.ls.length<=1000000/\a.ai.ls.length<=1000000) (cu:(∀ x ∈ a.ai.ls,x.ak.ls.length<=1000000)) (hr:dw L a=r0):
    Calls Tryz.prog 65 #[vP Q 0, .agg (gU a.aD a.aJ a.fI a.aK a.dz a.eH a.aP a.av a.aN a.dY a.aV a.aL a.dL a.cu a.xN a.cz a.bU.bF a.bU.bT r U u z V B C W E).toArray] w (d9 λ v w'=> ∃ O P I,v= .tuple #[]/\Own w D w' [blk Q [vP T 0, .slice O r0.aX.ls.length P] 98,row O r0.aX.ls.length P (List.flatMap bf.cells I) 42 21,sepL (List.flatMap bf.own I)]/\(List.map bf.abs I=r0.aX.ls)/\(r0.aX.ls.length=L.aX.ls.length+1)):=by
 unfold dw at hr
 subst Z af ai
 have aW:=aB G
 have aX:=aB M
 have bq:=zr 1 H
 refine cb Tryz.func65 ?_
 refine sr ?_
 refine dV (iH a r u z B C E) 42 H ?_
 intro K cz av
 refine ns (Kz (vP K 18) (Lz (.slice r a.aH.ls.length u) av 0 Tryz.isAgg39 ?_))
 obtain⟨cB,ax,ay,az,bO⟩:=Ii av
 refine cl Tryz.call109 (oC _ _ r a.aH.ls.length u a.aH.ls a.aH.ls ax (ay _ aa) rfl e6 rfl) ?_
 rintro _ cK ⟨b,d,rfl,aA⟩
 have aC:=az _ _ aA
 have bP:=zr 0 aC
 refine Kz (vP K 18) ?_
 have bu:=aC.pf [1]
 refine dS [.slice b a.aH.ls.length d] 18 bu Tryz.sizeOf39 ?_
 intro cO aD
 refine ns (Kz (vP K 20) (Lz (.slice C a.ag.ls.length E) aD 0 Tryz.isAgg29 ?_))
 obtain⟨cZ,aF,aG,aH,bQ⟩:=Ii aD
 refine cl Tryz.call44 (mr _ _ C a.ag.ls.length E a.ag.ls a.ag.ls aF (aG _ aj) rfl e6 rfl) ?_
 rintro _ df ⟨e,g,rfl,aJ⟩
 have aK:=aH _ _ aJ
 have bR:=zr 0 aK
 refine Kz (vP K 20) ?_
 have bv:=aK.pf [1]
 refine dS [.slice e a.ag.ls.length g] 20 bv Tryz.sizeOf29 ?_
 intro dh aL
 refine ns (Kz (vP K 19) (Lz (.slice z a.ai.ls.length B) aL 0 Tryz.isAgg40 ?_))
 obtain⟨l,X⟩:∃ q,jh a.ai.ls=q:=⟨_,rfl⟩
 obtain⟨di,aM,Y,aN,bS⟩:=Ii aL
 refine cl Tryz.call48 (mD _ _ z a.ai.ls.length B J a.ai.ls l aM M (Y _ ag) (λ x9 h9=>⟨Y _ (N x9 h9).1,(N x9 h9).2⟩) rfl e6 (by first | assumption | exact dM f5 | (intro x hx; exact absurd hx List.not_mem_nil)) X) ?_
 rintro _ dm ⟨h,j,n,rfl,aO,F⟩
 have aP:=aN _ _ aO
 have bV:=aB F
 have bW:=zr 0 aP
 refine Kz (vP K 19) ?_
 have bz:=aP.pf [2]
 refine dS [.slice h l.length j] 19 bz Tryz.sizeOf40 ?_
 intro dn bA
 refine nt ?_
 refine pU 8 [7,10] IC bA ?_
 intro dx bB
 refine IP (v:=vP Q 0) 0 rfl e7 (λ _=>Iq rfl) (qv 1 rfl rfl (qp Q 0 2 rfl (qp Q 1 3 rfl (ql 4 rfl 5 Tryz.isAgg45 rfl rfl rfl (qt (v:= .agg (gU a.aD a.aJ a.fI a.aK a.dz a.eH a.aP a.av a.aN a.dY a.aV a.aL a.dL a.cu a.xN a.cz a.bU.bF a.bU.bT b a.aH.ls.length d h l.length j e a.ag.ls.length g).toArray) 5 rfl (λ _ ⟨_,H9⟩=>Io rfl (Iy (cs:=(gU a.aD a.aJ a.fI a.aK a.dz a.eH a.aP a.av a.aN a.dY a.aV a.aL a.dL a.cu a.xN a.cz a.bU.bF a.bU.bT b a.aH.ls.length d h l.length j e a.ag.ls.length g)) Tryz.isAgg42 Tryz.sizeOf42 ((H9.cls (i:=0) rfl).lit (k:=0) (m:=21) rfl))) ?_)))))
 refine qd 6 rfl (Jp (cs:=(gU a.aD a.aJ a.fI a.aK a.dz a.eH a.aP a.av a.aN a.dY a.aV a.aL a.dL a.cu a.xN a.cz a.bU.bF a.bU.bT b a.aH.ls.length d h l.length j e a.ag.ls.length g)) (t:=42) (sz:=21) (m:=1) bB rfl rfl (λ _=>by kernel_rfl) rfl f4 ?_)
 intro aQ dA ak
 replace ak:=IL (y:=row aQ 1 1 (List.flatMap bf.cells ([(bf.mk a.aD a.aJ a.fI a.aK a.dz a.eH a.aP a.av a.aN a.dY a.aV a.aL a.dL a.cu a.xN a.cz a.bU (Sv.mk b d a.aH.ls) (Sv.mk h j n) (Sv.mk e g a.ag.ls))])) 42 21) (congrArg (λ z9=>row aQ 1 1 [vI a.aD,vI a.aJ,vI a.fI,vI a.aK,vI a.dz,vI a.eH,vU a.aP,vU a.av,vU a.aN,vU a.dY,vU a.aV,vU a.aL,vU a.dL,vU a.cu,vU a.xN, .bool a.cz, .string ⟨List.toArray a.bU.bF⟩, .string ⟨List.toArray a.bU.bT⟩, .slice b a.aH.ls.length d, .slice h z9 j, .slice e a.ag.ls.length g] 42 21) (aB F).symm) ak
 have aS:=ak.pb [0]
 refine⟨.inr ⟨_,aS⟩, ?_⟩
 have aT:=aS.pf [6,7,4,1,3,2]
 refine qd 7 rfl (IM (k:=L.aX.ls.length) (m:=1) (uu) aT rfl rfl (jv Tryz.underlying45 (aT.rds (i:=8) rfl) (fU bf.one ([(bf.mk a.aD a.aJ a.fI a.aK a.dz a.eH a.aP a.av a.aN a.dY a.aV a.aL a.dL a.cu a.xN a.cz a.bU (Sv.mk b d a.aH.ls) (Sv.mk h j n) (Sv.mk e g a.ag.ls))]))) rfl e6 (s:=List.length (L.aX.ls++ [(bL.mk a.aD a.aJ a.fI a.aK a.dz a.eH a.aP a.av a.aN a.dY a.aV a.aL a.dL a.cu a.xN a.cz a.bU (Ll.mk a.aH.ls) (Ll.mk l) (Ll.mk a.ag.ls))])) f7 (List.flatMap_append).symm ?_)
 intro aU aV bC bD
 have bF:=bD.pf [3]
 have bG:=I4 (aB F).symm bF
 have bH:=bG.pf [2,3,0,4,5]
 have bJ:Own w D bC (sepL (List.flatMap bf.own (p++ [(bf.mk a.aD a.aJ a.fI a.aK a.dz a.eH a.aP a.av a.aN a.dY a.aV a.aL a.dL a.cu a.xN a.cz a.bU (Sv.mk b d a.aH.ls) (Sv.mk h j n) (Sv.mk e g a.ag.ls))]))::_):=bH.sepAdd (L2:= [row b a.aH.ls.length d (List.flatMap bi.cells a.aH.ls) 72 6,row h n.length j (List.flatMap ae.cells n) 149 3,row e a.ag.ls.length g (List.flatMap aY.cells a.ag.ls) 89 2,sepL (List.flatMap ae.own n)]) (List.flatMap_append (f:=bf.own) (xs:=p) (ys:= [(bf.mk a.aD a.aJ a.fI a.aK a.dz a.eH a.aP a.av a.aN a.dY a.aV a.aL a.dL a.cu a.xN a.cz a.bU (Sv.mk b d a.aH.ls) (Sv.mk h j n) (Sv.mk e g a.ag.ls))])).symm
 have bX:List.length (L.aX.ls++ [(bL.mk a.aD a.aJ a.fI a.aK a.dz a.eH a.aP a.av a.aN a.dY a.aV a.aL a.dL a.cu a.xN a.cz a.bU (Ll.mk a.aH.ls) (Ll.mk l) (Ll.mk a.ag.ls))])=L.aX.ls.length+1:=by simp only [List.length_append,List.length_cons,List.length_nil]
 have bY:=aB (pF (es:= [(bf.mk a.aD a.aJ a.fI a.aK a.dz a.eH a.aP a.av a.aN a.dY a.aV a.aL a.dL a.cu a.xN a.cz a.bU (Sv.mk b d a.aH.ls) (Sv.mk h j n) (Sv.mk e g a.ag.ls))]) (ms:= [(bL.mk a.aD a.aJ a.fI a.aK a.dz a.eH a.aP a.av a.aN a.dY a.aV a.aL a.dL a.cu a.xN a.cz a.bU (Ll.mk a.aH.ls) (Ll.mk l) (Ll.mk a.ag.ls))]) G (congrArg (λ z9=> [bL.mk a.aD a.aJ a.fI a.aK a.dz a.eH a.aP a.av a.aN a.dY a.aV a.aL a.dL a.cu a.xN a.cz a.bU (Ll.mk a.aH.ls) (Ll.mk z9) (Ll.mk a.ag.ls)]) F))
 refine⟨.inl e7, ?_⟩
 refine IP (v:=vP Q 0) 8 rfl e7 (λ _=>yk) (IP (v:=vP Q 1) 9 rfl e7 (λ _=>yk) ?_)
 have bK:=bJ.pf [3]
 refine qe 10 rfl (Do.store (vs:= [.slice aU (List.length (L.aX.ls++ [(bL.mk a.aD a.aJ a.fI a.aK a.dz a.eH a.aP a.av a.aN a.dY a.aV a.aL a.dL a.cu a.xN a.cz a.bU (Ll.mk a.aH.ls) (Ll.mk l) (Ll.mk a.ag.ls))])) aV]) (o:=1) bK rfl rfl Tryz.sizeOf45 rfl rfl rfl rfl ?_)
 intro dB bM
 refine⟨.inl e7, ?_⟩
 refine qn (IA (res0 rfl) ?_)
 have bN:=bM.pk [0,2,1]
 obtain rfl:=zj hr zq1
 exact⟨aU,aV,(p++ [(bf.mk a.aD a.aJ a.fI a.aK a.dz a.eH a.aP a.av a.aN a.dY a.aV a.aL a.dL a.cu a.xN a.cz a.bU (Sv.mk b d a.aH.ls) (Sv.mk h j n) (Sv.mk e g a.ag.ls))]),rfl,bN,(pF (es:= [(bf.mk a.aD a.aJ a.fI a.aK a.dz a.eH a.aP a.av a.aN a.dY a.aV a.aL a.dL a.cu a.xN a.cz a.bU (Sv.mk b d a.aH.ls) (Sv.mk h j n) (Sv.mk e g a.ag.ls))]) (ms:= [(bL.mk a.aD a.aJ a.fI a.aK a.dz a.eH a.aP a.av a.aN a.dY a.aV a.aL a.dL a.cu a.xN a.cz a.bU (Ll.mk a.aH.ls) (Ll.mk l) (Ll.mk a.ag.ls))]) G (congrArg (λ z9=> [bL.mk a.aD a.aJ a.fI a.aK a.dz a.eH a.aP a.av a.aN a.dY a.aV a.aL a.dL a.cu a.xN a.cz a.bU (Ll.mk a.aH.ls) (Ll.mk z9) (Ll.mk a.ag.ls)]) F)),(by first | omega | (simp only [List.length_append,List.length_cons,List.length_nil]))⟩
end
open List renaming exists_mem_of_ne_nil->H8,filter_append->H5,mem_filter->H6,nil_append->H7
section
variable {α:Type} (lt:α->α->Bool)
structure yg:Prop where
  DR:∀ x,lt x x=false
  tr:∀ x y z,lt x y=true->lt y z=true->lt x z=true
  nt:∀ x y z,lt x y=false->lt y z=false->lt x z=false
def alike (x y:α):Bool:= !lt x y && !lt y x
def r9 (l m:List α):Prop:=∀ x,l.filter (alike lt x)=m.filter (alike lt x)
def GN (l:List α):Prop:=l.Pairwise (λ x y=>lt y x=false)
variable {lt}
theorem uE {x y:α}:alike lt x y=true↔lt x y=false/\lt y x=false:=by
  unfold alike
  cases lt x y <;> cases lt y x <;> simp
theorem yg.self (h:yg lt) (x:α):alike lt x x=true:=uE.2 ⟨h.DR x,h.DR x⟩
theorem yg.to (h:yg lt) {x y z:α} (a:alike lt x y=true) (b:alike lt x z=true):alike lt y z=true:=by
  obtain⟨c,d⟩:=uE.1 a
  obtain⟨e,f⟩:=uE.1 b
  exact uE.2 ⟨h.nt y x z d e,h.nt z x y f c⟩
theorem Lc (h:yg lt) {x y:α} (a:lt x y=true):lt y x=false:=by
  cases b:lt y x with
  | false=>rfl
  | true=>have:=h.tr x y x a b; rw [h.DR x] at this; cases this
theorem r9.refl (l:List α):r9 lt l l:=λ _=>rfl
theorem r9.symm {l m:List α} (h:r9 lt l m):r9 lt m l:=λ x=>(h x).symm
theorem r9.trans {l m n:List α} (h:r9 lt l m) (a:r9 lt m n):r9 lt l n:=λ x=>(h x).trans (a x)
theorem r9.app {l m a b:List α} (h:r9 lt l m) (c:r9 lt a b):r9 lt (l++a) (m++b):=λ x=>by
  rw [H5,H5,h x,c x]
theorem K8 (ho:yg lt) {l m:List α} (h:r9 lt l m) {x:α} (hx:x ∈ m):x ∈ l:=by
  have:x ∈ m.filter (alike lt x):=H6.2 ⟨hx,ho.self x⟩
  rw [<- h x] at this
  exact(H6.1 this).1
theorem r9.swap (ho:yg lt) {b c:List α} (h:∀ x ∈ b, ∀ y ∈ c,lt y x=true):r9 lt (b++c) (c++b):=λ z=>by
  rw [H5,H5]
  by_cases hb:b.filter (alike lt z)= []
  . rw [hb,H7,s6]
  . have hc:c.filter (alike lt z)= []:=by
      apply Classical.byContradiction
      intro hc
      obtain⟨x,hx⟩:=H8 _ hb
      obtain⟨y,hy⟩:=H8 _ hc
      obtain⟨a,d⟩:=H6.1 hx
      obtain⟨e,f⟩:=H6.1 hy
      have:=(uE.1 (ho.to d f)).2
      rw [h x a y e] at this; cases this
    rw [hc,H7,s6]
end
open List renaming set->u2
open _root_.Go.Proofs.Tryz renaming call211->I3,isAgg153->I0,sizeOf153->I2
section
open Go.RowKit
def lL (a:List UInt8) (b:List UInt8):Int:=
 Lib.compareBytes a b
theorem qA (w D a b d) (H:Own w D w []) (hr:lL a b=d):
    Calls v8 192 #[.string ⟨v9 a⟩, .string ⟨v9 b⟩] w (d9 λ v w'=>v=vI d/\Own w D w' []):=by
 refine cb Tryz.func192 ?_
 refine sr (Ar rfl (Mz rfl (Mz rfl (fw (vI (Lib.compareBytes a b)) (Kv (run_callFunc_extern Tryz.func203 e7 e7 e7 (e:=Extern.BytealgCompare.compare) e7) rfl) (An rfl (rt (rs ?_)))))))
 have c:=H.pk []
 obtain rfl:_=Lib.compareBytes a b:=zj hr rfl
 exact⟨rfl,c⟩
def strings_Compare (b:List UInt8) (c:List UInt8):Int:=
 bnd (lL b c) λ a=>a
theorem wu (w D f g j) (H:Own w D w []) (hr:strings_Compare f g=j):
    Calls v8 167 #[.string ⟨v9 f⟩, .string ⟨v9 g⟩] w (d9 λ v w'=>v=vI j/\Own w D w' []):=by
 unfold strings_Compare at hr
 refine cb Tryz.func167 ?_
 refine sr (Ar rfl (Mz rfl (Mz rfl ?_)))
 obtain⟨b,a⟩:∃ q,lL f g=q:=⟨_,rfl⟩
 obtain⟨m,c,k,d,l⟩:=Ii H
 refine cl Tryz.call192 (qA _ _ f g b c a) ?_
 rintro _ n ⟨rfl,e⟩
 have h:=d _ _ e
 refine An rfl (rt (rs ?_))
 have i:=h.pk []
 obtain rfl:=zj hr zq1
 exact⟨rfl,i⟩
def jw (b:aI) (c:aI):Int:=
 bnd (strings_Compare b.bY c.bY) λ a=>a
theorem nO (w D) (c:aI) (d:aI) (n) (H:Own w D w []) (hr:jw c d=n):
    Calls v8 166 #[.agg (aI.cells c).toArray, .agg (aI.cells d).toArray] w (d9 λ v w'=>v=vI n/\Own w D w' []):=by
 unfold jw at hr
 refine cb Tryz.func166 ?_
 refine sr ?_
 refine dV (aI.cells c) 153 H ?_
 intro i r j
 refine dV (aI.cells d) 153 j ?_
 intro k s b
 refine Ar rfl (Kz (vP i 0) (Lz (.string ⟨v9 c.bY⟩) b 1 Tryz.isAgg9 (Kz (vP k 0) (Lz (.string ⟨v9 d.bY⟩) b 0 Tryz.isAgg9 ?_))))
 obtain⟨e,a⟩:∃ q,strings_Compare c.bY d.bY=q:=⟨_,rfl⟩
 obtain⟨t,f,o,g,p⟩:=Ii b
 refine cl Tryz.call167 (wu _ _ c.bY d.bY e f a) ?_
 rintro _ u ⟨rfl,h⟩
 have l:=g _ _ h
 refine An rfl (rt (rs ?_))
 have m:=l.pk []
 obtain rfl:=zj hr zq1
 exact⟨rfl,m⟩
def gH (g:Int):Nat->Int->List aI->(List aI)
  | 0,a,b=>default
  | f+1,a,b=>if a > g then bnd (C0 b (D0 a) default) λ c=>bnd (C0 b (D0 (a - 1)) default) λ d=>bnd (jw c d) λ e=>if e < 0 then gH g f (a - 1) (u2 (u2 b (D0 a) (aI.mk d.bY d.aT)) (D0 (a - 1)) (aI.mk c.bY c.aT)) else b else b
def gI (c:Int) (p2:Int):Nat->Int->List aI->(List aI)
  | 0,a,b=>default
  | d+1,a,b=>if a < p2 then bnd (bnd (gH c ((D0 (a - c))+1) a b) λ sLrLstJjL=>sLrLstJjL) λ sJrLstJ=>gI c p2 d (a+1) sJrLstJ else b
def iX (l0:List aI) (a:Int) (p2:Int):(List aI):=
 bnd (gI a p2 ((D0 (p2 - (a+1)))+1) (a+1) l0) λ sLrL=>sLrL
theorem lV (w D g Z n l0 d p2 r0) (H:Own w D w [row g Z n (q3 aI.cells l0) 153 2]) (ae:Z=l0.length) (aR:l0.length *32<=211106232532992) (aS:0<=d/\d<=p2/\p2<=((l0.length:Nat):Int)) (hr:iX l0 d p2=r0):
    Calls v8 201 #[.slice g Z n,vI d,vI p2, .func (.func 166) #[] #[]] w (d9 λ v w'=>v= .tuple #[]/\Own w D w' [row g Z n (q3 aI.cells r0) 153 2]/\(r0.length=l0.length)):=by
 unfold iX at hr
 subst ae
 have aT:=zr 0 H
 refine cb Tryz.func201 ?_
 refine sr (Mz rfl (fw (vI (d+1)) (Ie (e:=C5.wrap (d+1)) yk g2) (An rfl (bo ?_))))
 have af:=H.pf []
 obtain⟨ag,r⟩:=rz λ (c:Int) l (s:Nat) w'=>Own w D w' [row g l0.length n (q3 aI.cells l) 153 2]/\l.length=l0.length/\d+1<=c/\D0 (p2 - c) < s/\gI d p2 ((D0 (p2 - (d+1)))+1) (d+1) l0=gI d p2 s c l
 refine C3 (λ i:Int × (List aI) × Nat=> [(8,vI i.1),(0, .slice g l0.length n),(1,vI d),(2,vI p2),(3, .func (.func 166) #[] #[])]) ag (λ i=>i.2.2) (d+1,l0,(D0 (p2 - (d+1)))+1) ⟨rfl,rfl,rfl,rfl,rfl,trivial⟩ (r.2 ⟨af,by first | omega | (simp only [H1] <;> omega) | (simp only [H2]),e6,e6,rfl⟩) ?_
 rintro ⟨c,l,s⟩ aU N
 obtain⟨O,aF,aG,aH,G⟩:=r.1 N
 obtain⟨J,P⟩:∃ q,s=q+1:=⟨s - 1,e6⟩
 subst P
 refine Ic (sr (Mz rfl (Mz rfl (Kz (.bool (decide (c < p2))) (nt ?_)))))
 by_cases C:c < p2
 refine jT (dT C) (sk (Ic ?_))
 obtain⟨ai,t⟩:=nQ λ u w'=>Own w D w' [row g l0.length n (q3 aI.cells u) 153 2]/\u.length=l0.length/\(bnd (gH d ((D0 (c - d))+1) c l) λ sLrLstJjL=>sLrLstJjL)=u
 refine IZ (λ i:(List aI)=> [(8,vI c),(0, .slice g l0.length n),(1,vI d),(2,vI p2),(3, .func (.func 166) #[] #[])]) ai ?_ ?_
 refine bo (sr (Mz rfl (An rfl (bo ?_))))
 have aj:=O.pf []
 obtain⟨ak,x⟩:=rz λ (a:Int) h (z:Nat) w'=>Own w D w' [row g l0.length n (q3 aI.cells h) 153 2]/\h.length=l0.length/\(d<=a/\a < p2)/\D0 (a - d) < z/\gH d ((D0 (c - d))+1) c l=gH d z a h
 refine C3 (λ i:Int × (List aI) × Nat=> [(9,vI i.1),(8,vI c),(0, .slice g l0.length n),(1,vI d),(2,vI p2),(3, .func (.func 166) #[] #[])]) ak (λ i=>i.2.2) (c,l,(D0 (c - d))+1) ⟨rfl,rfl,rfl,rfl,rfl,rfl,trivial⟩ (x.2 ⟨aj,by first | omega | (simp only [H1] <;> omega) | (simp only [H2]),e6,e6,rfl⟩) ?_
 rintro ⟨a,h,z⟩ aV Q
 obtain⟨au,aJ,aK,aL,A⟩:=x.1 Q
 obtain⟨K,R⟩:∃ q,z=q+1:=⟨z - 1,e6⟩
 subst R
 refine Ic (Ic ?_)
 refine vW [] (Iu (Iu (Iu (bQ.block (bQ.block (Iu (Iu (bQ.block IC)))))))) au ?_
 intro aW S
 refine qv 0 rfl rfl (qv 1 rfl rfl (qk (.bool (decide (a > d))) 2 rfl (qv 3 rfl rfl ?_)))
 by_cases b:a > d
 refine Ip (v:= .func (.func 166) #[] #[]) (rs:= []) 4 rfl rfl rfl (dT b) e7 (λ _ _=>Iq rfl) (Ip (v:= .slice g l0.length n) (rs:= []) 5 rfl rfl rfl (dT b) e7 (λ _ _=>Iq rfl) (Ip (v:=vJ (D0 a)) (rs:= []) 6 rfl rfl rfl (dT b) e7 (λ _ _=>Ie (e:=a) (Iq rfl) e6) ?_))
 obtain⟨j,k⟩:=jN (ls:=h) (i:=D0 a) e9
 refine Ip (v:= .pointer (some ⟨ab g,ao g+(D0 a) *2,none⟩)) (rs:= []) 7 rfl rfl rfl (dT b) e7 (λ _ ⟨_,m⟩=>Ij (ko) rfl rfl ((m.rds (i:=0) rfl).addr (i:=D0 a) e6) e6) (Ip (v:= .agg (aI.cells j).toArray) (rs:= []) 8 rfl rfl rfl (dT b) e7 (λ _ ⟨_,m⟩=>Io rfl (Iy (cs:=(aI.cells j)) I0 I2 ((m.rds (i:=0) rfl).elem aI.len k f4))) (Ip (v:= .slice g l0.length n) (rs:= []) 9 rfl rfl rfl (dT b) e7 (λ _ _=>Iq rfl) (Ip (v:=vI a) (rs:= []) 10 rfl rfl rfl (dT b) e7 (λ _ _=>Iq rfl) (Ip (v:=vJ (D0 (a - 1))) (rs:= []) 11 rfl rfl rfl (dT b) e7 (λ _ _=>Ie (e:=C5.wrap (a - 1)) yk f0) ?_))))
 obtain⟨f,p⟩:=jN (ls:=h) (i:=D0 (a - 1)) e9
 refine Ip (v:= .pointer (some ⟨ab g,ao g+(D0 (a - 1)) *2,none⟩)) (rs:= []) 12 rfl rfl rfl (dT b) e7 (λ _ ⟨_,m⟩=>Ij (ko) rfl rfl ((m.rds (i:=0) rfl).addr (i:=D0 (a - 1)) e6) e6) (Ip (v:= .agg (aI.cells f).toArray) (rs:= []) 13 rfl rfl rfl (dT b) e7 (λ _ ⟨_,m⟩=>Io rfl (Iy (cs:=(aI.cells f)) I0 I2 ((m.rds (i:=0) rfl).elem aI.len p f4))) ?_)
 obtain⟨E,B⟩:∃ q,jw j f=q:=⟨_,rfl⟩
 obtain⟨aX,T,aM,U,aN⟩:=Ii S
 refine Ju 14 rfl rfl rfl (dT b) e7 (IK Tryz.call166 rfl rfl (nO _ _ j f E T B) ?_)
 rintro _ aY ⟨rfl,V⟩
 have L:=U _ _ V
 refine⟨.inr ⟨_,L⟩, ?_⟩
 refine Ip (v:= .bool (decide (E < 0))) (rs:= []) 15 rfl rfl rfl (dT b) e7 (λ _ _=>yk) (qt (v:= .bool (decide (E < 0))) 16 rfl (λ _ _=>Iw rfl (dT b) rfl) (qn (Ig ?_)))
 by_cases F:E < 0
 refine jT (dT F) (sk (Ic (bo ?_)))
 refine vW [15,17] (bQ.block (Iu (Iu (bQ.block (bQ.block (Iu (Iu (bQ.block IC)))))))) L ?_
 intro aZ av
 refine qv 0 rfl rfl (qt (v:=vJ (D0 a)) 1 rfl (λ _ _=>Ie (e:=a) (Iq rfl) e6) (IP (v:= .slice g l0.length n) 2 rfl e7 (λ _=>Iq rfl) (IP (v:=vI a) 3 rfl e7 (λ _=>Iq rfl) (IP (v:=vJ (D0 (a - 1))) 4 rfl e7 (λ _=>Ie (e:=C5.wrap (a - 1)) yk f0) (qv 5 rfl rfl (qv 6 rfl rfl (qt (v:=vJ (D0 (a - 1))) 7 rfl (λ _ _=>Ie (e:=C5.wrap (a - 1)) yk f0) (qt (v:= .pointer (some ⟨ab g,ao g+(D0 (a - 1)) *2,none⟩)) 8 rfl (λ _ ⟨_,m⟩=>Ij (ko) rfl rfl ((m.rds (i:=0) rfl).addr (i:=D0 (a - 1)) e6) e6) (qt (v:= .agg (aI.cells f).toArray) 9 rfl (λ _ ⟨_,m⟩=>Io rfl (Iy (cs:=(aI.cells f)) I0 I2 ((m.rds (i:=0) rfl).elem aI.len p f4))) (qv 10 rfl rfl (qt (v:=vJ (D0 a)) 11 rfl (λ _ _=>Ie (e:=a) (Iq rfl) e6) (qt (v:= .pointer (some ⟨ab g,ao g+(D0 a) *2,none⟩)) 12 rfl (λ _ ⟨_,m⟩=>Ij (ko) rfl rfl ((m.rds (i:=0) rfl).addr (i:=D0 a) e6) e6) (qt (v:= .agg (aI.cells j).toArray) 13 rfl (λ _ ⟨_,m⟩=>Io rfl (Iy (cs:=(aI.cells j)) I0 I2 ((m.rds (i:=0) rfl).elem aI.len k f4))) (qt (v:= .pointer (some ⟨ab g,ao g+(D0 a) *2,none⟩)) 14 rfl (λ _ ⟨_,m⟩=>Ij (ko) rfl rfl ((m.rds (i:=0) rfl).addr (i:=D0 a) e6) e6) ?_))))))))))))))
 refine qe 15 rfl (Do.storeRow (vs:=(aI.cells f)) (o:=(D0 a) *2+0) (q:=ao g+(D0 a) *2) av rfl e6 rfl I2 rfl rfl (Le rfl) (je aI.len k (Le rfl)) (jV (y:=(aI.mk f.bY f.aT)) aI.len rfl (Le rfl) k) ?_)
 intro bf M
 refine⟨.inl e7, ?_⟩
 obtain⟨bg,aO⟩:=jN (ls:=h) (i:=D0 (a - 1)) e9
 obtain⟨bi,aP⟩:=dN (ls:=(u2 h (D0 a) (aI.mk f.bY f.aT))) (i:=D0 (a - 1)) aI.len f4 (M.rds (i:=0) rfl) e9
 refine IP (v:= .pointer (some ⟨ab g,ao g+(D0 (a - 1)) *2,none⟩)) 16 rfl e7 (λ _=>Ij (ko) rfl rfl ((M.rds (i:=0) rfl).addr (i:=D0 (a - 1)) e6) e6) ?_
 obtain⟨bn,I⟩:=jN (ls:=(u2 h (D0 a) (aI.mk f.bY f.aT))) (i:=D0 (a - 1)) e9
 refine qe 17 rfl (Do.storeRow (vs:=(aI.cells j)) (o:=(D0 (a - 1)) *2+0) (q:=ao g+(D0 (a - 1)) *2) M rfl e6 rfl I2 rfl rfl (Le rfl) (je aI.len I (Le rfl)) (jV (y:=(aI.mk j.bY j.aT)) aI.len rfl (Le rfl) I) ?_)
 intro bq ax
 refine⟨.inl e7, ?_⟩
 refine qn (bN (Ig (Ib (Mz rfl (fw (vI (a - 1)) (Ie (e:=C5.wrap (a - 1)) yk g2) (Az rfl (C6 ?_)))))))
 have ay:=ax.pf []
 exact Ir (a - 1,(u2 (u2 h (D0 a) (aI.mk f.bY f.aT)) (D0 (a - 1)) (aI.mk j.bY j.aT)),K) ⟨rfl,rfl,rfl,rfl,rfl,rfl,trivial⟩ (x.2 ⟨ay,by first | omega | (simp only [H1] <;> omega) | (simp only [H2]),e6,e6,Eq.trans (A) (Eq.trans (if_pos b) (Eq.trans (ah (bJ k)) (Eq.trans (ah (bJ p)) (Eq.trans (ah B) (if_pos F)))))⟩) (by show K < K+1; omega)
 refine jF (dF F) (C7 (Il (Il (IB (bN ?_)))))
 have az:=L.pf []
 exact IQ h ⟨rfl,rfl,rfl,rfl,rfl,trivial⟩ (t.2 ⟨az,by first | omega | (simp only [H1] <;> omega) | (simp only [H2]),ah (Eq.trans (A) (Eq.trans (if_pos b) (Eq.trans (ah (bJ k)) (Eq.trans (ah (bJ p)) (Eq.trans (ah B) (if_neg F))))))⟩)
 refine Ik (rs:= []) 4 rfl rfl rfl (dF b) e7 (Ik (rs:= []) 5 rfl rfl rfl (dF b) e7 (Ik (rs:= []) 6 rfl rfl rfl (dF b) e7 (Ik (rs:= []) 7 rfl rfl rfl (dF b) e7 (Ik (rs:= []) 8 rfl rfl rfl (dF b) e7 (Ik (rs:= []) 9 rfl rfl rfl (dF b) e7 (Ik (rs:= []) 10 rfl rfl rfl (dF b) e7 (Ik (rs:= []) 11 rfl rfl rfl (dF b) e7 (Ik (rs:= []) 12 rfl rfl rfl (dF b) e7 (Ik (rs:= []) 13 rfl rfl rfl (dF b) e7 (Ik (rs:= []) 14 rfl rfl rfl (dF b) e7 (Ik (rs:= []) 15 rfl rfl rfl (dF b) e7 (qt (v:= .bool false) 16 rfl (λ _ _=>Ih rfl (dF b) rfl) (qn (Ig (jf (C7 (Il (Il (IB (bN ?_))))))))))))))))))))
 have aA:=S.pf []
 exact IQ h ⟨rfl,rfl,rfl,rfl,rfl,trivial⟩ (t.2 ⟨aA,by first | omega | (simp only [H1] <;> omega) | (simp only [H2]),ah (Eq.trans (A) (if_neg b))⟩)
 rintro u bu W
 obtain⟨aB,aQ,X⟩:=t.1 W
 refine Ib (Mz rfl (fw (vI (c+1)) (Ie (e:=C5.wrap (c+1)) yk g2) (Az rfl (C6 ?_))))
 have aC:=aB.pf []
 exact Ir (c+1,u,J) ⟨rfl,rfl,rfl,rfl,rfl,trivial⟩ (r.2 ⟨aC,by first | omega | (simp only [H1] <;> omega) | (simp only [H2]),e6,e6,Eq.trans (G) (Eq.trans (if_pos C) (ah X))⟩) (by show J < J+1; omega)
 refine jF (dF C) (C7 (Il ?_))
 have Y:gI d p2 ((D0 (p2 - (d+1)))+1) (d+1) l0=l:=et (G) (iN C)
 refine Il (IB (IA (res0 rfl) ?_))
 have aD:=O.pf []
 obtain rfl:=zj hr zq1
 exact⟨rfl,aD,g5⟩
def gG (e:Int) (p2:Int) (g:Int):Nat->Nat->List aI->(List aI)
  | 0,a,b=>default
  | f+1,a,b=>if(a:Int) < g then bnd (C0 b (D0 (p2+(a:Int))) default) λ c=>bnd (C0 b (D0 (e+(a:Int))) default) λ d=>gG e p2 g f (a+1) (u2 (u2 b (D0 (e+(a:Int))) (aI.mk c.bY c.aT)) (D0 (p2+(a:Int))) (aI.mk d.bY d.aT)) else b
def fO (l0:List aI) (b:Int) (p2:Int) (a:Int):(List aI):=
 bnd (gG b p2 a ((D0 (a - 0))+1) 0 l0) λ sLrL=>sLrL
theorem kT (w D f E t l0 c p2 g F) (H:Own w D w [row f E t (q3 aI.cells l0) 153 2]) (G:E=l0.length) (T:l0.length *32<=211106232532992) (U:0<=c/\0<=p2/\0<=g/\c+g<=((l0.length:Nat):Int)/\p2+g<=((l0.length:Nat):Int)) (hr:fO l0 c p2 g=F):
    Calls v8 211 #[.slice f E t,vI c,vI p2,vI g, .func (.func 166) #[] #[]] w (d9 λ v w'=>v= .tuple #[]/\Own w D w' [row f E t (q3 aI.cells F) 153 2]/\(F.length=l0.length)):=by
 unfold fO at hr
 subst G
 have V:=zr 0 H
 refine cb Tryz.func211 ?_
 refine sr (An rfl (bo ?_))
 have I:=H.pf []
 obtain⟨J,k⟩:=rz λ (a:Nat) b (l:Nat) w'=>Own w D w' [row f l0.length t (q3 aI.cells b) 153 2]/\b.length=l0.length/\0<=a/\D0 (g - a) < l/\gG c p2 g ((D0 (g - 0))+1) 0 l0=gG c p2 g l a b
 refine C3 (λ i:Nat × (List aI) × Nat=> [(10,vJ i.1),(0, .slice f l0.length t),(1,vI c),(2,vI p2),(3,vI g)]) J (λ i=>i.2.2) (0,l0,(D0 (g - 0))+1) ⟨rfl,rfl,rfl,rfl,rfl,trivial⟩ (k.2 ⟨I,by first | omega | (simp only [H1] <;> omega) | (simp only [H2]),e6,e6,rfl⟩) ?_
 rintro ⟨a,b,l⟩ W z
 obtain⟨A,O,P,Q,p⟩:=k.1 z
 obtain⟨u,B⟩:∃ q,l=q+1:=⟨l - 1,e6⟩
 subst B
 refine Ic (sr (Mz rfl (Mz rfl (Kz (.bool (decide ((a:Int) < g))) (nt ?_)))))
 by_cases m:(a:Int) < g
 refine jT (dT m) (sk (Ic (bo ?_)))
 refine vW [21,23] (bQ.block (Iu (Iu (bQ.block IC)))) A ?_
 intro X K
 refine qv 0 rfl rfl (qv 1 rfl rfl (qv 2 rfl rfl (qt (v:=vI ((D0 (c+(a:Int)):Nat):Int)) 3 rfl (λ _ _=>Ie (e:=C5.wrap (c+(a:Int))) yk f0) (IP (v:= .slice f l0.length t) 4 rfl e7 (λ _=>Iq rfl) (IP (v:=vI p2) 5 rfl e7 (λ _=>Iq rfl) (IP (v:=vJ a) 6 rfl e7 (λ _=>Iq rfl) (IP (v:=vI ((D0 (p2+(a:Int)):Nat):Int)) 7 rfl e7 (λ _=>Ie (e:=C5.wrap (p2+(a:Int))) yk f0) (qv 8 rfl rfl (qv 9 rfl rfl (qv 10 rfl rfl (qt (v:=vI ((D0 (p2+(a:Int)):Nat):Int)) 11 rfl (λ _ _=>Ie (e:=C5.wrap (p2+(a:Int))) yk f0) ?_)))))))))))
 obtain⟨d,r⟩:=jN (ls:=b) (i:=D0 (p2+(a:Int))) e9
 refine qt (v:= .pointer (some ⟨ab f,ao f+(D0 (p2+(a:Int))) *2,none⟩)) 12 rfl (λ _ ⟨_,n⟩=>Ij (ko) rfl rfl ((n.rds (i:=0) rfl).addr (i:=D0 (p2+(a:Int))) e6) e6) (qt (v:= .agg (aI.cells d).toArray) 13 rfl (λ _ ⟨_,n⟩=>Io rfl (Iy (cs:=(aI.cells d)) I0 I2 ((n.rds (i:=0) rfl).elem aI.len r f4))) (qv 14 rfl rfl (qv 15 rfl rfl (qv 16 rfl rfl (qt (v:=vI ((D0 (c+(a:Int)):Nat):Int)) 17 rfl (λ _ _=>Ie (e:=C5.wrap (c+(a:Int))) yk f0) ?_)))))
 obtain⟨h,j⟩:=jN (ls:=b) (i:=D0 (c+(a:Int))) e9
 refine qt (v:= .pointer (some ⟨ab f,ao f+(D0 (c+(a:Int))) *2,none⟩)) 18 rfl (λ _ ⟨_,n⟩=>Ij (ko) rfl rfl ((n.rds (i:=0) rfl).addr (i:=D0 (c+(a:Int))) e6) e6) (qt (v:= .agg (aI.cells h).toArray) 19 rfl (λ _ ⟨_,n⟩=>Io rfl (Iy (cs:=(aI.cells h)) I0 I2 ((n.rds (i:=0) rfl).elem aI.len j f4))) (qt (v:= .pointer (some ⟨ab f,ao f+(D0 (c+(a:Int))) *2,none⟩)) 20 rfl (λ _ ⟨_,n⟩=>Ij (ko) rfl rfl ((n.rds (i:=0) rfl).addr (i:=D0 (c+(a:Int))) e6) e6) ?_))
 refine qe 21 rfl (Do.storeRow (vs:=(aI.cells d)) (o:=(D0 (c+(a:Int))) *2+0) (q:=ao f+(D0 (c+(a:Int))) *2) K rfl e6 rfl I2 rfl rfl (Le rfl) (je aI.len j (Le rfl)) (jV (y:=(aI.mk d.bY d.aT)) aI.len rfl (Le rfl) j) ?_)
 intro Y x
 refine⟨.inl e7, ?_⟩
 obtain⟨Z,R⟩:=jN (ls:=b) (i:=D0 (p2+(a:Int))) e9
 obtain⟨aa,S⟩:=dN (ls:=(u2 b (D0 (c+(a:Int))) (aI.mk d.bY d.aT))) (i:=D0 (p2+(a:Int))) aI.len f4 (x.rds (i:=0) rfl) e9
 refine IP (v:= .pointer (some ⟨ab f,ao f+(D0 (p2+(a:Int))) *2,none⟩)) 22 rfl e7 (λ _=>Ij (ko) rfl rfl ((x.rds (i:=0) rfl).addr (i:=D0 (p2+(a:Int))) e6) e6) ?_
 obtain⟨ae,s⟩:=jN (ls:=(u2 b (D0 (c+(a:Int))) (aI.mk d.bY d.aT))) (i:=D0 (p2+(a:Int))) e9
 refine qe 23 rfl (Do.storeRow (vs:=(aI.cells h)) (o:=(D0 (p2+(a:Int))) *2+0) (q:=ao f+(D0 (p2+(a:Int))) *2) x rfl e6 rfl I2 rfl rfl (Le rfl) (je aI.len s (Le rfl)) (jV (y:=(aI.mk h.bY h.aT)) aI.len rfl (Le rfl) s) ?_)
 intro af L
 refine⟨.inl e7, ?_⟩
 refine qn (bN (Ig (Ib (Mz rfl (fw (vJ (a+1)) (Ie (e:=C5.wrap ((a:Int)+1)) yk f0) (Az rfl (C6 ?_)))))))
 have M:=L.pf []
 exact Ir (a+1,(u2 (u2 b (D0 (c+(a:Int))) (aI.mk d.bY d.aT)) (D0 (p2+(a:Int))) (aI.mk h.bY h.aT)),u) ⟨rfl,rfl,rfl,rfl,rfl,trivial⟩ (k.2 ⟨M,by first | omega | (simp only [H1] <;> omega) | (simp only [H2]),e6,e6,Eq.trans (p) (Eq.trans (if_pos m) (Eq.trans (ah (bJ r)) (ah (bJ j))))⟩) (by show u < u+1; omega)
 refine jF (dF m) (C7 (Il ?_))
 have C:gG c p2 g ((D0 (g - 0))+1) 0 l0=b:=et (p) (iN m)
 refine Il (IB (IA (res0 rfl) ?_))
 have N:=A.pf []
 obtain rfl:=zj hr zq1
 exact⟨rfl,N,g5⟩
def dD (p2:Int):Nat->Int->Int->List aI->Int × (List aI)
  | 0,a,b,c=>default
  | d+1,a,b,c=>if a=b then(a,c) else if a > b then bnd (fO c (p2 - a) p2 b) λ e=>dD p2 d (a - b) b e else bnd (fO c (p2 - a) ((p2+b) - a) a) λ f=>dD p2 d a (b - a) f
def iL (l0:List aI) (b:Int) (p2:Int) (c:Int):(List aI):=
 bnd (dD p2 ((D0 ((p2 - b)+(c - p2)))+1) (p2 - b) (c - p2) l0) λ sLrL=>bnd (fO sLrL.2 (p2 - sLrL.1) p2 sLrL.1) λ a=>a
theorem qL (w D m T n l0 f p2 g U) (H:Own w D w [row m T n (q3 aI.cells l0) 153 2]) (V:T=l0.length) (aB:l0.length *32<=211106232532992) (aC:0<=f/\f < p2/\p2 < g/\g<=((l0.length:Nat):Int)) (hr:iL l0 f p2 g=U):
    Calls v8 209 #[.slice m T n,vI f,vI p2,vI g, .func (.func 166) #[] #[]] w (d9 λ v w'=>v= .tuple #[]/\Own w D w' [row m T n (q3 aI.cells U) 153 2]/\(U.length=l0.length)):=by
 unfold iL at hr
 subst V
 have aD:=zr 0 H
 refine cb Tryz.func209 ?_
 refine sr (Mz rfl (Mz rfl (fw (vI (p2 - f)) (Ie (e:=C5.wrap (p2 - f)) yk g2) (Ar rfl (Mz rfl (Mz rfl (fw (vI (g - p2)) (Ie (e:=C5.wrap (g - p2)) yk g2) (An rfl (Ic (bo ?_))))))))))
 have W:=H.pf []
 obtain⟨X,d⟩:=sQ λ (a:Int) (b:Int) c (j:Nat) w'=>Own w D w' [row m l0.length n (q3 aI.cells c) 153 2]/\c.length=l0.length/\(1<=a/\1<=b/\a<=p2 - f/\b<=g - p2)/\D0 (a+b) < j/\dD p2 ((D0 ((p2 - f)+(g - p2)))+1) (p2 - f) (g - p2) l0=dD p2 j a b c
 refine C3 (λ i:Int × Int × (List aI) × Nat=> [(10,vI i.1),(11,vI i.2.1),(0, .slice m l0.length n),(2,vI p2),(4, .func (.func 166) #[] #[])]) X (λ i=>i.2.2.2) (p2 - f,g - p2,l0,(D0 ((p2 - f)+(g - p2)))+1) ⟨rfl,rfl,rfl,rfl,rfl,trivial⟩ (d.2 ⟨W,by first | omega | (simp only [H1] <;> omega) | (simp only [H2]),e6,e6,rfl⟩) ?_
 rintro ⟨a,b,c,j⟩ aF C
 obtain⟨y,ae,af,ag,k⟩:=d.1 C
 obtain⟨h,E⟩:∃ q,j=q+1:=⟨j - 1,e6⟩
 subst E
 refine Ic (sr (Mz rfl (Mz rfl (fw (.bool (decide (¬ (a=b)))) (IG (e:= !(decide (a=b))) yk decide_not.symm) (nt ?_)))))
 by_cases l:a=b
 refine jF (dF (Lh l)) (C7 (Il ?_))
 have F:dD p2 ((D0 ((p2 - f)+(g - p2)))+1) (p2 - f) (g - p2) l0=(a,c):=et (k) (ip l)
 refine Il (IB (Ig (Ib (Mz rfl (Mz rfl (Mz rfl (fw (vI (p2 - a)) (Ie (e:=C5.wrap (p2 - a)) yk g2) (Mz rfl (Mz rfl (Mz rfl ?_))))))))))
 obtain⟨z,p⟩:∃ q,fO c (p2 - a) p2 a=q:=⟨_,rfl⟩
 obtain⟨aG,G,ai,I,aj⟩:=II y
 refine cl I3 (kT _ _ m l0.length n c (p2 - a) p2 a z G f1 e6 e6 p) ?_
 rintro _ aH ⟨rfl,J,r⟩
 have K:=I _ _ J
 have ak:=zr 0 K
 replace r:z.length=c.length:=r
 refine C6 (IA (res0 rfl) ?_)
 have Y:=K.pf []
 obtain rfl:=zj hr zq2
 exact⟨rfl,Y,g5⟩
 refine jT (dT l) (sk (bo (sr (Mz rfl (Mz rfl (Kz (.bool (decide (a > b))) (nt ?_)))))))
 by_cases o:a > b
 refine jT (dT o) (sr (Mz rfl (Mz rfl (Mz rfl (fw (vI (p2 - a)) (Ie (e:=C5.wrap (p2 - a)) yk g2) (Mz rfl (Mz rfl (Mz rfl ?_))))))))
 obtain⟨A,s⟩:∃ q,fO c (p2 - a) p2 b=q:=⟨_,rfl⟩
 obtain⟨aJ,L,au,M,av⟩:=II y
 refine cl I3 (kT _ _ m l0.length n c (p2 - a) p2 b A L f1 e6 e6 s) ?_
 rintro _ aK ⟨rfl,N,t⟩
 have O:=M _ _ N
 have ax:=zr 0 O
 replace t:A.length=c.length:=t
 refine nt (Ib (Mz rfl (Mz rfl (fw (vI (a - b)) (Ie (e:=C5.wrap (a - b)) yk g2) (Az rfl (C6 (bN ?_)))))))
 have Z:=O.pf []
 exact Ir (a - b,b,A,h) ⟨rfl,rfl,rfl,rfl,rfl,trivial⟩ (d.2 ⟨Z,by first | omega | (simp only [H1] <;> omega) | (simp only [H2]),e6,e6,Eq.trans (k) (Eq.trans (if_neg l) (Eq.trans (if_pos o) (ah s)))⟩) (by show h < h+1; omega)
 refine jF (dF o) (sr (Mz rfl (Mz rfl (Mz rfl (fw (vI (p2 - a)) (Ie (e:=C5.wrap (p2 - a)) yk g2) (Mz rfl (Mz rfl (fw (vI (p2+b)) (Ie (e:=C5.wrap (p2+b)) yk g2) (Mz rfl (fw (vI ((p2+b) - a)) (Ie (e:=C5.wrap ((p2+b) - a)) yk g2) (Mz rfl (Mz rfl ?_))))))))))))
 obtain⟨B,u⟩:∃ q,fO c (p2 - a) ((p2+b) - a) a=q:=⟨_,rfl⟩
 obtain⟨aL,P,ay,Q,az⟩:=II y
 refine cl I3 (kT _ _ m l0.length n c (p2 - a) ((p2+b) - a) a B P f1 e6 e6 u) ?_
 rintro _ aM ⟨rfl,R,x⟩
 have S:=Q _ _ R
 have aA:=zr 0 S
 replace x:B.length=c.length:=x
 refine nt (Ib (Mz rfl (Mz rfl (fw (vI (b - a)) (Ie (e:=C5.wrap (b - a)) yk g2) (Az rfl (C6 (bN ?_)))))))
 have aa:=S.pf []
 exact Ir (a,b - a,B,h) ⟨rfl,rfl,rfl,rfl,rfl,trivial⟩ (d.2 ⟨aa,by first | omega | (simp only [H1] <;> omega) | (simp only [H2]),e6,e6,Eq.trans (k) (Eq.trans (if_neg l) (Eq.trans (if_neg o) (ah u)))⟩) (by show h < h+1; omega)
end
def ng (x y:aI):Bool:=decide (jw x y < 0)
def bs (P:Nat->Bool):Nat->Nat->Nat->Nat
  | 0,i,_=>i
  | f+1,i,j=>if i < j then(if P ((i+j) / 2)=true then bs P f ((i+j) / 2+1) j else bs P f i ((i+j) / 2)) else i
def uF (l:List aI) (a m b:Nat):List aI:=q7 a l++(r3 m (q7 b l)++(r3 a (q7 m l)++r3 b l))
def at_ (l:List aI) (i:Nat):aI:=List.getD l i default
def pJ:Nat->List aI->Nat->Nat->Nat->List aI
  | 0,l,_,_,_=>l
  | f+1,l,a,m,b=>
    if m - a=1 then uF l a m (bs (λ h=>ng (at_ l h) (at_ l a)) (b - m+1) m b)
    else if b - m=1 then uF l (bs (λ h=> !ng (at_ l m) (at_ l h)) (m - a+1) a m) m b
    else
      let mid:=(a+b) / 2
      let n:=mid+m
      let s:=if m > mid then bs (λ c=> !ng (at_ l (n - 1 - c)) (at_ l c)) (mid - (n - b)+1) (n - b) mid else bs (λ c=> !ng (at_ l (n - 1 - c)) (at_ l c)) (m - a+1) a m
      let l1:=if s < m/\m < n - s then uF l s m (n - s) else l
      let d:=if a < s/\s < mid then pJ f l1 a s mid else l1
      if mid < n - s/\n - s < b then pJ f d mid (n - s) b else d
def mW (l:List aI) (a m b:Int):List aI:=pJ (D0 (b - a)) l (D0 a) (D0 m) (D0 b)
open Int renaming fdiv->J0
open _root_.Go.Proofs.Tryz renaming call166->J1,call202->K0
section
open Go.RowKit
def gK (l0:List aI) (g:Int) (h:Int):Nat->Int->Int->Int
  | 0,a,b=>default
  | c+1,a,b=>if a < b then bnd (C0 l0 ((D0 (a+b)) / 2) default) λ d=>bnd (C0 l0 (D0 g) default) λ e=>bnd (jw d e) λ f=>if f < 0 then gK l0 g h c ((((D0 (a+b)) / 2)+1:Nat):Int) b else gK l0 g h c a (((D0 (a+b)) / 2:Nat):Int) else a
def gL (e:Int):Nat->Int->List aI->(List aI)
  | 0,a,b=>default
  | f+1,a,b=>if a < e - 1 then bnd (C0 b (D0 (a+1)) default) λ c=>bnd (C0 b (D0 a) default) λ d=>gL e f (a+1) (u2 (u2 b (D0 a) (aI.mk c.bY c.aT)) (D0 (a+1)) (aI.mk d.bY d.aT)) else b
def gM (l0:List aI) (g:Int) (p2:Int):Nat->Int->Int->Int
  | 0,a,b=>default
  | f+1,a,b=>if a < b then bnd (C0 l0 (D0 p2) default) λ c=>bnd (C0 l0 ((D0 (a+b)) / 2) default) λ d=>bnd (jw c d) λ e=>if e < 0 then gM l0 g p2 f a (((D0 (a+b)) / 2:Nat):Int) else gM l0 g p2 f ((((D0 (a+b)) / 2)+1:Nat):Int) b else a
def gN (e:Int):Nat->Int->List aI->(List aI)
  | 0,a,b=>default
  | f+1,a,b=>if a > e then bnd (C0 b (D0 (a - 1)) default) λ c=>bnd (C0 b (D0 a) default) λ d=>gN e f (a - 1) (u2 (u2 b (D0 a) (aI.mk c.bY c.aT)) (D0 (a - 1)) (aI.mk d.bY d.aT)) else b
def fC (l0:List aI) (g:Int) (p2:Int) (h:Int):Nat->Int->Int->Int
  | 0,a,b=>default
  | c+1,a,b=>if a < b then bnd (C0 l0 (D0 ((((((D0 (g+h)) / 2:Nat):Int)+p2) - 1) - (((D0 (a+b)) / 2:Nat):Int))) default) λ d=>bnd (C0 l0 ((D0 (a+b)) / 2) default) λ e=>bnd (jw d e) λ f=>if f < 0 then fC l0 g p2 h c a (((D0 (a+b)) / 2:Nat):Int) else fC l0 g p2 h c ((((D0 (a+b)) / 2)+1:Nat):Int) b else a
def lK (l0:List aI) (a:Int) (p2:Int) (b:Int):(List aI):=
 if p2 - a=1 then bnd (gK l0 a b ((D0 (b - p2))+1) p2 b) λ sLrtL=>bnd (gL sLrtL ((D0 (b - a))+1) a l0) λ sLrtLaL=>sLrtLaL else if b - p2=1 then bnd (gM l0 a p2 ((D0 (p2 - a))+1) a p2) λ sLrftL=>bnd (gN sLrftL ((D0 (p2 - a))+1) p2 l0) λ sLrftLaL=>sLrftLaL else bnd (if p2 > (((D0 (a+b)) / 2:Nat):Int) then(((((D0 (a+b)) / 2:Nat):Int)+p2) - b,(((D0 (a+b)) / 2:Nat):Int)) else(a,p2)) λ sJrffJ=>bnd (fC l0 a p2 b ((D0 (sJrffJ.2 - sJrffJ.1))+1) sJrffJ.1 sJrffJ.2) λ sLrffJaL=>if sLrffJaL < p2 then bnd (if p2 < ((((D0 (a+b)) / 2:Nat):Int)+p2) - sLrffJaL then bnd (iL l0 sLrffJaL p2 (((((D0 (a+b)) / 2:Nat):Int)+p2) - sLrffJaL)) λ c=>c else l0) λ sJrffJaLatJ=>if a < sLrffJaL then bnd (if sLrffJaL < (((D0 (a+b)) / 2:Nat):Int) then bnd (mW sJrffJaLatJ a sLrffJaL (((D0 (a+b)) / 2:Nat):Int)) λ d=>d else sJrffJaLatJ) λ sJrffJaLatJatJ=>if((((D0 (a+b)) / 2:Nat):Int)+p2) - sLrffJaL < b then bnd (mW sJrffJaLatJatJ (((D0 (a+b)) / 2:Nat):Int) (((((D0 (a+b)) / 2:Nat):Int)+p2) - sLrffJaL) b) λ e=>e else sJrffJaLatJatJ else if((((D0 (a+b)) / 2:Nat):Int)+p2) - sLrffJaL < b then bnd (mW sJrffJaLatJ (((D0 (a+b)) / 2:Nat):Int) (((((D0 (a+b)) / 2:Nat):Int)+p2) - sLrffJaL) b) λ f=>f else sJrffJaLatJ else bnd (if sLrffJaL < (((D0 (a+b)) / 2:Nat):Int) then bnd (mW l0 a sLrffJaL (((D0 (a+b)) / 2:Nat):Int)) λ g=>g else l0) λ sJrffJaLafJ=>sJrffJaLafJ
theorem qm (w:World) (D:Nat->Prop) (h:Option Addr) (n0 t:Nat) (l0:List aI) (b:Int) (p2:Int) (c:Int) (r0:List aI) (H:Own w D w [row h n0 t (q3 aI.cells l0) 153 2]) (fA:n0=l0.length) (iw:l0.length *32<=211106232532992) (iy:0<=b/\b < p2/\p2 < c/\c<=((l0.length:Nat):Int)) (hr:lK l0 b p2 c=r0) (pm:Nat) (hpm:pm=D0 (c - b))
    (self_:∀ (w:World) (D:Nat->Prop) (h:Option Addr) (n0 t:Nat) (l0:List aI) (b:Int) (p2:Int) (c:Int) (r0:List aI) (H:Own w D w [row h n0 t (q3 aI.cells l0) 153 2]) (fA:n0=l0.length) (iw:l0.length *32<=211106232532992) (iy:0<=b/\b < p2/\p2 < c/\c<=(l0.length:Int)) (hh_:D0 (c - b) < pm) (hr:mW l0 b p2 c=r0),Calls Tryz.prog 202 #[.slice h n0 t,vI b,vI p2,vI c, .func (.func 166) #[] #[]] w (d9 λ v w'=>v= .tuple #[]/\Own w D w' [row h n0 t (q3 aI.cells r0) 153 2]/\(r0.length=l0.length))):
    Calls Tryz.prog 202 #[.slice h n0 t,vI b,vI p2,vI c, .func (.func 166) #[] #[]] w (d9 λ v w'=>v= .tuple #[]/\Own w D w' [row h n0 t (q3 aI.cells r0) 153 2]/\(r0.length=l0.length)):=by
 unfold lK at hr
 subst fA
 have kQ:=zr 0 H
 refine cb Tryz.func202 ?_
 refine Ic (sr (Mz rfl (Mz rfl (fw (vI (p2 - b)) (Ie (e:=C5.wrap (p2 - b)) yk g2) (Kz (.bool (decide (p2 - b=1))) (nt ?_))))))
 by_cases J:p2 - b=1
 refine jT (dT J) (sr (Mz rfl (Ar rfl (Mz rfl (An rfl (Ic (bo ?_)))))))
 have iA:=H.pf []
 obtain⟨iB,aF⟩:=rz λ (j:Int) (l:Int) (aX:Nat) w'=>Own w D w' [row h l0.length t (q3 aI.cells l0) 153 2]/\(p2<=j/\j<=l/\l<=c)/\D0 (l - j) < aX/\gK l0 b c ((D0 (c - p2))+1) p2 c=gK l0 b c aX j l
 refine C3 (λ i:Int × Int × Nat=> [(10,vI i.1),(11,vI i.2.1),(0, .slice h l0.length t),(1,vI b),(2,vI p2),(3,vI c),(4, .func (.func 166) #[] #[])]) iB (λ i=>i.2.2) (p2,c,(D0 (c - p2))+1) ⟨rfl,rfl,rfl,rfl,rfl,rfl,rfl,trivial⟩ (aF.2 ⟨iA,e6,e6,rfl⟩) ?_
 rintro ⟨j,l,aX⟩ kR fB
 obtain⟨fD,jJ,jK,aY⟩:=aF.1 fB
 obtain⟨aW,fE⟩:∃ q,aX=q+1:=⟨aX - 1,e6⟩
 subst fE
 refine Ic (sr (Mz rfl (Mz rfl (Kz (.bool (decide (j < l))) (nt ?_)))))
 by_cases aZ:j < l
 refine jT (dT aZ) (sk (bo (sr (Mz rfl (Mz rfl (fw (vI (j+l)) (Ie (e:=C5.wrap (j+l)) yk g2) (fw (vU (D0 (j+l))) (Ie (e:=D1.wrap (j+l)) yk g8) (fw (.int .u64 (((D0 (j+l)) / 2:Nat):Int)) (Ie (e:=J0 ((D0 (j+l):Nat):Int) 2) yk (nV _ 1 _ f4)) (fw (vI (((D0 (j+l)) / 2:Nat):Int)) (Ie (e:=C5.wrap (((D0 (j+l)) / 2:Nat):Int)) yk (Lf _ e6)) (An rfl (Ic ?_)))))))))))
 refine vW [] (Iu (bQ.block (Iu (bQ.block (Iu (Iu IC)))))) fD ?_
 intro kS iC
 refine qv 0 rfl rfl (qv 1 rfl rfl (qv 2 rfl rfl ?_))
 obtain⟨cu,bf⟩:=jN (ls:=l0) (i:=(D0 (j+l)) / 2) e9
 refine qt (v:= .pointer (some ⟨ab h,ao h+((D0 (j+l)) / 2) *2,none⟩)) 3 rfl (λ _ ⟨_,s⟩=>Ij (ko) rfl rfl ((s.rds (i:=0) rfl).addr (i:=(D0 (j+l)) / 2) e6) e6) (qt (v:= .agg (aI.cells cu).toArray) 4 rfl (λ _ ⟨_,s⟩=>Io rfl (Iy (cs:=(aI.cells cu)) I0 I2 ((s.rds (i:=0) rfl).elem aI.len bf f4))) (qv 5 rfl rfl (qt (v:=vJ (D0 b)) 6 rfl (λ _ _=>Ie (e:=b) (Iq rfl) e6) ?_)))
 obtain⟨cz,bg⟩:=jN (ls:=l0) (i:=D0 b) e9
 refine qt (v:= .pointer (some ⟨ab h,ao h+(D0 b) *2,none⟩)) 7 rfl (λ _ ⟨_,s⟩=>Ij (ko) rfl rfl ((s.rds (i:=0) rfl).addr (i:=D0 b) e6) e6) (qt (v:= .agg (aI.cells cz).toArray) 8 rfl (λ _ ⟨_,s⟩=>Io rfl (Iy (cs:=(aI.cells cz)) I0 I2 ((s.rds (i:=0) rfl).elem aI.len bg f4))) ?_)
 obtain⟨dC,bi⟩:∃ q,jw cu cz=q:=⟨_,rfl⟩
 obtain⟨kT,fF,jL,fG,jM⟩:=Ii iC
 refine qd 9 rfl (IK J1 rfl rfl (nO _ _ cu cz dC fF bi) ?_)
 rintro _ kU ⟨rfl,fH⟩
 have dD:=fG _ _ fH
 refine⟨.inr ⟨_,dD⟩, ?_⟩
 refine qk (.bool (decide (dC < 0))) 10 rfl (qn (Ig ?_))
 by_cases cB:dC < 0
 refine jT (dT cB) (Ib (Mz rfl (fw (vI ((((D0 (j+l)) / 2)+1:Nat):Int)) (Ie (e:=C5.wrap ((((D0 (j+l)) / 2:Nat):Int)+1)) yk f0) (Az rfl (C6 (bN ?_))))))
 have iD:=dD.pf []
 exact Ir (((((D0 (j+l)) / 2)+1:Nat):Int),l,aW) ⟨rfl,rfl,rfl,rfl,rfl,rfl,rfl,trivial⟩ (aF.2 ⟨iD,e6,e6,et (aY) (et (ip aZ) (et (ah (bJ bf)) (et (ah (bJ bg)) (et (ah bi) (ip cB)))))⟩) (by show aW < aW+1; omega)
 refine jF (dF cB) (Ib (Mz rfl (Az rfl (C6 (bN ?_)))))
 have iE:=dD.pf []
 exact Ir (j,(((D0 (j+l)) / 2:Nat):Int),aW) ⟨rfl,rfl,rfl,rfl,rfl,rfl,rfl,trivial⟩ (aF.2 ⟨iE,e6,e6,et (aY) (et (ip aZ) (et (ah (bJ bf)) (et (ah (bJ bg)) (et (ah bi) (iN cB)))))⟩) (by show aW < aW+1; omega)
 refine jF (dF aZ) (C7 (Il ?_))
 have fI:gK l0 b c ((D0 (c - p2))+1) p2 c=j:=et (aY) (iN aZ)
 refine Il (IB (Ig (Ic (sr (Mz rfl (An rfl (bo ?_)))))))
 have iF:=fD.pf []
 obtain⟨iG,bn⟩:=rz λ (g:Int) B (bq:Nat) w'=>Own w D w' [row h l0.length t (q3 aI.cells B) 153 2]/\B.length=l0.length/\b<=g/\D0 (c - g) < bq/\gL j ((D0 (c - b))+1) b l0=gL j bq g B
 refine C3 (λ i:Int × (List aI) × Nat=> [(13,vI i.1),(10,vI j),(0, .slice h l0.length t),(1,vI b),(2,vI p2),(3,vI c),(4, .func (.func 166) #[] #[])]) iG (λ i=>i.2.2) (b,l0,(D0 (c - b))+1) ⟨rfl,rfl,rfl,rfl,rfl,rfl,rfl,trivial⟩ (bn.2 ⟨iF,by first | omega | (simp only [H1] <;> omega) | (simp only [H2]),e6,e6,rfl⟩) ?_
 rintro ⟨g,B,bq⟩ kV fJ
 obtain⟨fK,jO,jP,jQ,cO⟩:=bn.1 fJ
 obtain⟨dE,fM⟩:∃ q,bq=q+1:=⟨bq - 1,e6⟩
 subst fM
 refine Ic (sr (Mz rfl (Mz rfl (fw (vI (j - 1)) (Ie (e:=C5.wrap (j - 1)) yk g2) (Kz (.bool (decide (g < j - 1))) (nt ?_))))))
 by_cases cK:g < j - 1
 refine jT (dT cK) (sk (Ic (bo ?_)))
 refine vW [15,17] (bQ.block (Iu (Iu (bQ.block (Iu (Iu IC)))))) fK ?_
 intro kW iH
 refine qv 0 rfl rfl (qt (v:=vJ (D0 g)) 1 rfl (λ _ _=>Ie (e:=g) (Iq rfl) e6) (IP (v:= .slice h l0.length t) 2 rfl e7 (λ _=>Iq rfl) (IP (v:=vI g) 3 rfl e7 (λ _=>Iq rfl) (IP (v:=vJ (D0 (g+1))) 4 rfl e7 (λ _=>Ie (e:=C5.wrap (g+1)) yk f0) (qv 5 rfl rfl (qv 6 rfl rfl (qt (v:=vJ (D0 (g+1))) 7 rfl (λ _ _=>Ie (e:=C5.wrap (g+1)) yk f0) ?_)))))))
 obtain⟨af,cZ⟩:=jN (ls:=B) (i:=D0 (g+1)) e9
 refine qt (v:= .pointer (some ⟨ab h,ao h+(D0 (g+1)) *2,none⟩)) 8 rfl (λ _ ⟨_,s⟩=>Ij (ko) rfl rfl ((s.rds (i:=0) rfl).addr (i:=D0 (g+1)) e6) e6) (qt (v:= .agg (aI.cells af).toArray) 9 rfl (λ _ ⟨_,s⟩=>Io rfl (Iy (cs:=(aI.cells af)) I0 I2 ((s.rds (i:=0) rfl).elem aI.len cZ f4))) (qv 10 rfl rfl (qt (v:=vJ (D0 g)) 11 rfl (λ _ _=>Ie (e:=g) (Iq rfl) e6) ?_)))
 obtain⟨bu,aG⟩:=jN (ls:=B) (i:=D0 g) e9
 refine qt (v:= .pointer (some ⟨ab h,ao h+(D0 g) *2,none⟩)) 12 rfl (λ _ ⟨_,s⟩=>Ij (ko) rfl rfl ((s.rds (i:=0) rfl).addr (i:=D0 g) e6) e6) (qt (v:= .agg (aI.cells bu).toArray) 13 rfl (λ _ ⟨_,s⟩=>Io rfl (Iy (cs:=(aI.cells bu)) I0 I2 ((s.rds (i:=0) rfl).elem aI.len aG f4))) (qt (v:= .pointer (some ⟨ab h,ao h+(D0 g) *2,none⟩)) 14 rfl (λ _ ⟨_,s⟩=>Ij (ko) rfl rfl ((s.rds (i:=0) rfl).addr (i:=D0 g) e6) e6) ?_))
 refine qe 15 rfl (Do.storeRow (vs:=(aI.cells af)) (o:=(D0 g) *2+0) (q:=ao h+(D0 g) *2) iH rfl e6 rfl I2 rfl rfl (Le rfl) (je aI.len aG (Le rfl)) (jV (y:=af) aI.len rfl (Le rfl) aG) ?_)
 intro kX dG
 refine⟨.inl e7, ?_⟩
 obtain⟨kY,jR⟩:=jN (ls:=B) (i:=D0 (g+1)) e9
 obtain⟨kZ,jS⟩:=dN (ls:=(u2 B (D0 g) af)) (i:=D0 (g+1)) aI.len f4 (dG.rds (i:=0) rfl) e9
 refine IP (v:= .pointer (some ⟨ab h,ao h+(D0 (g+1)) *2,none⟩)) 16 rfl e7 (λ _=>Ij (ko) rfl rfl ((dG.rds (i:=0) rfl).addr (i:=D0 (g+1)) e6) e6) ?_
 obtain⟨lc,df⟩:=jN (ls:=(u2 B (D0 g) af)) (i:=D0 (g+1)) e9
 refine qe 17 rfl (Do.storeRow (vs:=(aI.cells bu)) (o:=(D0 (g+1)) *2+0) (q:=ao h+(D0 (g+1)) *2) dG rfl e6 rfl I2 rfl rfl (Le rfl) (je aI.len df (Le rfl)) (jV (y:=bu) aI.len rfl (Le rfl) df) ?_)
 intro lg iI
 refine⟨.inl e7, ?_⟩
 refine qn (bN (Ig (Ib (Mz rfl (fw (vI (g+1)) (Ie (e:=C5.wrap (g+1)) yk g2) (Az rfl (C6 ?_)))))))
 have iJ:=iI.pf []
 exact Ir (g+1,(u2 (u2 B (D0 g) af) (D0 (g+1)) bu),dE) ⟨rfl,rfl,rfl,rfl,rfl,rfl,rfl,trivial⟩ (bn.2 ⟨iJ,by first | omega | (simp only [H1] <;> omega) | (simp only [H2]),e6,e6,Eq.trans (cO) (Eq.trans (if_pos cK) (Eq.trans (ah (bJ cZ)) (ah (bJ aG))))⟩) (by show dE < dE+1; omega)
 refine jF (dF cK) (C7 (Il ?_))
 have fO:gL j ((D0 (c - b))+1) b l0=B:=et (cO) (iN cK)
 refine Il (IB (Ig (rt (tR (Fin.res (res0 rfl) ?_)))))
 have iK:=fK.pf []
 obtain rfl:=zj hr zq3
 exact⟨rfl,iK,g5⟩
 refine jF (dF J) (sk (Ic (sr (Mz rfl (Mz rfl (fw (vI (c - p2)) (Ie (e:=C5.wrap (c - p2)) yk g2) (Kz (.bool (decide (c - p2=1))) (nt ?_))))))))
 by_cases S:c - p2=1
 refine jT (dT S) (sr (Mz rfl (Ar rfl (Mz rfl (An rfl (Ic (bo ?_)))))))
 have iM:=H.pf []
 obtain⟨fP,K⟩:=rz λ (k:Int) (m:Int) (bv:Nat) w'=>Own w D w' [row h l0.length t (q3 aI.cells l0) 153 2]/\(b<=k/\k<=m/\m<=p2)/\D0 (m - k) < bv/\gM l0 b p2 ((D0 (p2 - b))+1) b p2=gM l0 b p2 bv k m
 refine C3 (λ i:Int × Int × Nat=> [(14,vI i.1),(15,vI i.2.1),(0, .slice h l0.length t),(1,vI b),(2,vI p2),(3,vI c),(4, .func (.func 166) #[] #[])]) fP (λ i=>i.2.2) (b,p2,(D0 (p2 - b))+1) ⟨rfl,rfl,rfl,rfl,rfl,rfl,rfl,trivial⟩ (K.2 ⟨iM,e6,e6,rfl⟩) ?_
 rintro ⟨k,m,bv⟩ jU dH
 obtain⟨dh,iO,iP,ag⟩:=K.1 dH
 obtain⟨G,dI⟩:∃ q,bv=q+1:=⟨bv - 1,e6⟩
 subst dI
 refine Ic (sr (Mz rfl (Mz rfl (Kz (.bool (decide (k < m))) (nt ?_)))))
 by_cases T:k < m
 refine jT (dT T) (sk (bo (sr (Mz rfl (Mz rfl (fw (vI (k+m)) (Ie (e:=C5.wrap (k+m)) yk g2) (fw (vU (D0 (k+m))) (Ie (e:=D1.wrap (k+m)) yk g8) (fw (.int .u64 (((D0 (k+m)) / 2:Nat):Int)) (Ie (e:=J0 ((D0 (k+m):Nat):Int) 2) yk (nV _ 1 _ f4)) (fw (vI (((D0 (k+m)) / 2:Nat):Int)) (Ie (e:=C5.wrap (((D0 (k+m)) / 2:Nat):Int)) yk (Lf _ e6)) (An rfl (Ic ?_)))))))))))
 refine vW [] (Iu (bQ.block (Iu (bQ.block (Iu (Iu IC)))))) dh ?_
 intro jW fQ
 refine qv 0 rfl rfl (qv 1 rfl rfl (qt (v:=vJ (D0 p2)) 2 rfl (λ _ _=>Ie (e:=p2) (Iq rfl) e6) ?_))
 obtain⟨aH,ai⟩:=jN (ls:=l0) (i:=D0 p2) e9
 refine qt (v:= .pointer (some ⟨ab h,ao h+(D0 p2) *2,none⟩)) 3 rfl (λ _ ⟨_,s⟩=>Ij (ko) rfl rfl ((s.rds (i:=0) rfl).addr (i:=D0 p2) e6) e6) (qt (v:= .agg (aI.cells aH).toArray) 4 rfl (λ _ ⟨_,s⟩=>Io rfl (Iy (cs:=(aI.cells aH)) I0 I2 ((s.rds (i:=0) rfl).elem aI.len ai f4))) (qv 5 rfl rfl (qv 6 rfl rfl ?_)))
 obtain⟨aJ,aj⟩:=jN (ls:=l0) (i:=(D0 (k+m)) / 2) e9
 refine qt (v:= .pointer (some ⟨ab h,ao h+((D0 (k+m)) / 2) *2,none⟩)) 7 rfl (λ _ ⟨_,s⟩=>Ij (ko) rfl rfl ((s.rds (i:=0) rfl).addr (i:=(D0 (k+m)) / 2) e6) e6) (qt (v:= .agg (aI.cells aJ).toArray) 8 rfl (λ _ ⟨_,s⟩=>Io rfl (Iy (cs:=(aI.cells aJ)) I0 I2 ((s.rds (i:=0) rfl).elem aI.len aj f4))) ?_)
 obtain⟨U,ak⟩:∃ q,jw aH aJ=q:=⟨_,rfl⟩
 obtain⟨jX,dJ,iQ,dK,iR⟩:=Ii fQ
 refine qd 9 rfl (IK J1 rfl rfl (nO _ _ aH aJ U dJ ak) ?_)
 rintro _ jY ⟨rfl,dL⟩
 have bz:=dK _ _ dL
 refine⟨.inr ⟨_,bz⟩, ?_⟩
 refine qk (.bool (decide (U < 0))) 10 rfl (qt (v:= .bool (decide (¬ (U < 0)))) 11 rfl (λ _ _=>IG (e:= !(decide (U < 0))) yk decide_not.symm) (qn (Ig ?_)))
 by_cases aK:U < 0
 refine jF (dF (Lh aK)) (Ib (Mz rfl (Az rfl (C6 (bN ?_)))))
 have fT:=bz.pf []
 exact Ir (k,(((D0 (k+m)) / 2:Nat):Int),G) ⟨rfl,rfl,rfl,rfl,rfl,rfl,rfl,trivial⟩ (K.2 ⟨fT,e6,e6,et (ag) (et (ip T) (et (ah (bJ ai)) (et (ah (bJ aj)) (et (ah ak) (ip aK)))))⟩) (by show G < G+1; omega)
 refine jT (dT aK) (Ib (Mz rfl (fw (vI ((((D0 (k+m)) / 2)+1:Nat):Int)) (Ie (e:=C5.wrap ((((D0 (k+m)) / 2:Nat):Int)+1)) yk f0) (Az rfl (C6 (bN ?_))))))
 have fU:=bz.pf []
 exact Ir (((((D0 (k+m)) / 2)+1:Nat):Int),m,G) ⟨rfl,rfl,rfl,rfl,rfl,rfl,rfl,trivial⟩ (K.2 ⟨fU,e6,e6,et (ag) (et (ip T) (et (ah (bJ ai)) (et (ah (bJ aj)) (et (ah ak) (iN aK)))))⟩) (by show G < G+1; omega)
 refine jF (dF T) (C7 (Il ?_))
 have dM:gM l0 b p2 ((D0 (p2 - b))+1) b p2=k:=et (ag) (iN T)
 refine Il (IB (Ig (Ic (sr (Mz rfl (An rfl (bo ?_)))))))
 have fV:=dh.pf []
 obtain⟨fZ,au⟩:=rz λ (d:Int) x (V:Nat) w'=>Own w D w' [row h l0.length t (q3 aI.cells x) 153 2]/\x.length=l0.length/\d<=p2/\D0 (d - b) < V/\gN k ((D0 (p2 - b))+1) p2 l0=gN k V d x
 refine C3 (λ i:Int × (List aI) × Nat=> [(17,vI i.1),(14,vI k),(0, .slice h l0.length t),(1,vI b),(2,vI p2),(3,vI c),(4, .func (.func 166) #[] #[])]) fZ (λ i=>i.2.2) (p2,l0,(D0 (p2 - b))+1) ⟨rfl,rfl,rfl,rfl,rfl,rfl,rfl,trivial⟩ (au.2 ⟨fV,by first | omega | (simp only [H1] <;> omega) | (simp only [H2]),e6,e6,rfl⟩) ?_
 rintro ⟨d,x,V⟩ jZ dO
 obtain⟨di,iT,iU,iV,bA⟩:=au.1 dO
 obtain⟨bB,dP⟩:∃ q,V=q+1:=⟨V - 1,e6⟩
 subst dP
 refine Ic (sr (Mz rfl (Mz rfl (Kz (.bool (decide (d > k))) (nt ?_)))))
 by_cases aL:d > k
 refine jT (dT aL) (sk (Ic (bo ?_)))
 refine vW [15,17] (bQ.block (Iu (Iu (bQ.block (Iu (Iu IC)))))) di ?_
 intro j3 gm
 refine qv 0 rfl rfl (qt (v:=vJ (D0 d)) 1 rfl (λ _ _=>Ie (e:=d) (Iq rfl) e6) (IP (v:= .slice h l0.length t) 2 rfl e7 (λ _=>Iq rfl) (IP (v:=vI d) 3 rfl e7 (λ _=>Iq rfl) (IP (v:=vJ (D0 (d - 1))) 4 rfl e7 (λ _=>Ie (e:=C5.wrap (d - 1)) yk f0) (qv 5 rfl rfl (qv 6 rfl rfl (qt (v:=vJ (D0 (d - 1))) 7 rfl (λ _ _=>Ie (e:=C5.wrap (d - 1)) yk f0) ?_)))))))
 obtain⟨C,bC⟩:=jN (ls:=x) (i:=D0 (d - 1)) e9
 refine qt (v:= .pointer (some ⟨ab h,ao h+(D0 (d - 1)) *2,none⟩)) 8 rfl (λ _ ⟨_,s⟩=>Ij (ko) rfl rfl ((s.rds (i:=0) rfl).addr (i:=D0 (d - 1)) e6) e6) (qt (v:= .agg (aI.cells C).toArray) 9 rfl (λ _ ⟨_,s⟩=>Io rfl (Iy (cs:=(aI.cells C)) I0 I2 ((s.rds (i:=0) rfl).elem aI.len bC f4))) (qv 10 rfl rfl (qt (v:=vJ (D0 d)) 11 rfl (λ _ _=>Ie (e:=d) (Iq rfl) e6) ?_)))
 obtain⟨W,L⟩:=jN (ls:=x) (i:=D0 d) e9
 refine qt (v:= .pointer (some ⟨ab h,ao h+(D0 d) *2,none⟩)) 12 rfl (λ _ ⟨_,s⟩=>Ij (ko) rfl rfl ((s.rds (i:=0) rfl).addr (i:=D0 d) e6) e6) (qt (v:= .agg (aI.cells W).toArray) 13 rfl (λ _ ⟨_,s⟩=>Io rfl (Iy (cs:=(aI.cells W)) I0 I2 ((s.rds (i:=0) rfl).elem aI.len L f4))) (qt (v:= .pointer (some ⟨ab h,ao h+(D0 d) *2,none⟩)) 14 rfl (λ _ ⟨_,s⟩=>Ij (ko) rfl rfl ((s.rds (i:=0) rfl).addr (i:=D0 d) e6) e6) ?_))
 refine qe 15 rfl (Do.storeRow (vs:=(aI.cells C)) (o:=(D0 d) *2+0) (q:=ao h+(D0 d) *2) gm rfl e6 rfl I2 rfl rfl (Le rfl) (je aI.len L (Le rfl)) (jV (y:=C) aI.len rfl (Le rfl) L) ?_)
 intro j4 bD
 refine⟨.inl e7, ?_⟩
 obtain⟨j5,iW⟩:=jN (ls:=x) (i:=D0 (d - 1)) e9
 obtain⟨j6,iX⟩:=dN (ls:=(u2 x (D0 d) C)) (i:=D0 (d - 1)) aI.len f4 (bD.rds (i:=0) rfl) e9
 refine IP (v:= .pointer (some ⟨ab h,ao h+(D0 (d - 1)) *2,none⟩)) 16 rfl e7 (λ _=>Ij (ko) rfl rfl ((bD.rds (i:=0) rfl).addr (i:=D0 (d - 1)) e6) e6) ?_
 obtain⟨kg,bE⟩:=jN (ls:=(u2 x (D0 d) C)) (i:=D0 (d - 1)) e9
 refine qe 17 rfl (Do.storeRow (vs:=(aI.cells W)) (o:=(D0 (d - 1)) *2+0) (q:=ao h+(D0 (d - 1)) *2) bD rfl e6 rfl I2 rfl rfl (Le rfl) (je aI.len bE (Le rfl)) (jV (y:=W) aI.len rfl (Le rfl) bE) ?_)
 intro kr gp
 refine⟨.inl e7, ?_⟩
 refine qn (bN (Ig (Ib (Mz rfl (fw (vI (d - 1)) (Ie (e:=C5.wrap (d - 1)) yk g2) (Az rfl (C6 ?_)))))))
 have gq:=gp.pf []
 exact Ir (d - 1,(u2 (u2 x (D0 d) C) (D0 (d - 1)) W),bB) ⟨rfl,rfl,rfl,rfl,rfl,rfl,rfl,trivial⟩ (au.2 ⟨gq,by first | omega | (simp only [H1] <;> omega) | (simp only [H2]),e6,e6,Eq.trans (bA) (Eq.trans (if_pos aL) (Eq.trans (ah (bJ bC)) (ah (bJ L))))⟩) (by show bB < bB+1; omega)
 refine jF (dF aL) (C7 (Il ?_))
 have dQ:gN k ((D0 (p2 - b))+1) p2 l0=x:=et (bA) (iN aL)
 refine Il (IB (Ig (rt (tR (Fin.res (res0 rfl) ?_)))))
 have gu:=di.pf []
 obtain rfl:=zj hr zq4
 exact⟨rfl,gu,g5⟩
 refine jF (dF S) (sk (sr (Mz rfl (Mz rfl (fw (vI (b+c)) (Ie (e:=C5.wrap (b+c)) yk g2) (fw (vU (D0 (b+c))) (Ie (e:=D1.wrap (b+c)) yk g8) (fw (.int .u64 (((D0 (b+c)) / 2:Nat):Int)) (Ie (e:=J0 ((D0 (b+c):Nat):Int) 2) yk (nV _ 1 _ f4)) (fw (vI (((D0 (b+c)) / 2:Nat):Int)) (Ie (e:=C5.wrap (((D0 (b+c)) / 2:Nat):Int)) yk (Lf _ e6)) (Ar rfl (Mz rfl (Mz rfl (fw (vI ((((D0 (b+c)) / 2:Nat):Int)+p2)) (Ie (e:=C5.wrap ((((D0 (b+c)) / 2:Nat):Int)+p2)) yk g2) (Ar rfl (Az rfl (An rfl (Ic (sr (Mz rfl (Mz rfl (Kz (.bool (decide (p2 > (((D0 (b+c)) / 2:Nat):Int)))) (nt ?_)))))))))))))))))))))
 obtain⟨gy,av⟩:=Fz λ (n:Int) (p:Int) w'=>Own w D w' [row h l0.length t (q3 aI.cells l0) 153 2]/\(-9223372036854775808<=n/\n<=9223372036854775807)/\(-9223372036854775808<=p/\p<=9223372036854775807)/\(b<=n/\(((D0 (b+c)) / 2:Nat):Int)+p2 - c<=n/\n<=p/\p<=(((D0 (b+c)) / 2:Nat):Int)/\p<=p2)/\(if p2 > (((D0 (b+c)) / 2:Nat):Int) then(((((D0 (b+c)) / 2:Nat):Int)+p2) - c,(((D0 (b+c)) / 2:Nat):Int)) else(b,p2))=(n,p)
 refine IZ (λ i:Int × Int=> [(20,vI i.1),(21,vI i.2),(19,vI ((((D0 (b+c)) / 2:Nat):Int)+p2)),(18,vI (((D0 (b+c)) / 2:Nat):Int)),(0, .slice h l0.length t),(1,vI b),(2,vI p2),(3,vI c),(4, .func (.func 166) #[] #[])]) gy ?_ ?_
 by_cases aM:p2 > (((D0 (b+c)) / 2:Nat):Int)
 refine jT (dT aM) (sr (Mz rfl (Mz rfl (fw (vI (((((D0 (b+c)) / 2:Nat):Int)+p2) - c)) (Ie (e:=C5.wrap (((((D0 (b+c)) / 2:Nat):Int)+p2) - c)) yk g2) (An rfl (Ib (Mz rfl (Az rfl (C6 ?_)))))))))
 have gz:=H.pf []
 exact IQ (((((D0 (b+c)) / 2:Nat):Int)+p2) - c,(((D0 (b+c)) / 2:Nat):Int)) ⟨rfl,rfl,rfl,rfl,rfl,rfl,rfl,rfl,rfl,trivial⟩ (av.2 ⟨gz,e6,e6,e6,ip aM⟩)
 refine jF (dF aM) (sr (Mz rfl (An rfl (Ib (Mz rfl (Az rfl (C6 ?_)))))))
 have gB:=H.pf []
 exact IQ (b,p2) ⟨rfl,rfl,rfl,rfl,rfl,rfl,rfl,rfl,rfl,trivial⟩ (av.2 ⟨gB,e6,e6,e6,iN aM⟩)
 rintro ⟨n,p⟩ ku dR
 obtain⟨gD,iY,iZ,ja,E⟩:=av.1 dR
 refine sr (Mz rfl (fw (vI (((((D0 (b+c)) / 2:Nat):Int)+p2) - 1)) (Ie (e:=C5.wrap (((((D0 (b+c)) / 2:Nat):Int)+p2) - 1)) yk g2) (An rfl (Ic (bo ?_)))))
 have gF:=gD.pf []
 obtain⟨gG,M⟩:=rz λ (a:Int) (f:Int) (X:Nat) w'=>Own w D w' [row h l0.length t (q3 aI.cells l0) 153 2]/\(b<=a/\(((D0 (b+c)) / 2:Nat):Int)+p2 - c<=a/\a<=f/\f<=(((D0 (b+c)) / 2:Nat):Int)/\f<=p2)/\D0 (f - a) < X/\fC l0 b p2 c ((D0 (p - n))+1) n p=fC l0 b p2 c X a f
 refine C3 (λ i:Int × Int × Nat=> [(20,vI i.1),(21,vI i.2.1),(22,vI (((((D0 (b+c)) / 2:Nat):Int)+p2) - 1)),(19,vI ((((D0 (b+c)) / 2:Nat):Int)+p2)),(18,vI (((D0 (b+c)) / 2:Nat):Int)),(0, .slice h l0.length t),(1,vI b),(2,vI p2),(3,vI c),(4, .func (.func 166) #[] #[])]) gG (λ i=>i.2.2) (n,p,(D0 (p - n))+1) ⟨rfl,rfl,rfl,rfl,rfl,rfl,rfl,rfl,rfl,rfl,trivial⟩ (M.2 ⟨gF,e6,e6,rfl⟩) ?_
 rintro ⟨a,f,X⟩ kv dS
 obtain⟨Y,jb,jc,ax⟩:=M.1 dS
 obtain⟨I,dU⟩:∃ q,X=q+1:=⟨X - 1,e6⟩
 subst dU
 refine Ic (sr (Mz rfl (Mz rfl (Kz (.bool (decide (a < f))) (nt ?_)))))
 by_cases Z:a < f
 refine jT (dT Z) (sk (bo (sr (Mz rfl (Mz rfl (fw (vI (a+f)) (Ie (e:=C5.wrap (a+f)) yk g2) (fw (vU (D0 (a+f))) (Ie (e:=D1.wrap (a+f)) yk g8) (fw (.int .u64 (((D0 (a+f)) / 2:Nat):Int)) (Ie (e:=J0 ((D0 (a+f):Nat):Int) 2) yk (nV _ 1 _ f4)) (fw (vI (((D0 (a+f)) / 2:Nat):Int)) (Ie (e:=C5.wrap (((D0 (a+f)) / 2:Nat):Int)) yk (Lf _ e6)) (An rfl (Ic ?_)))))))))))
 refine vW [] (Iu (bQ.block (Iu (bQ.block (Iu IC))))) Y ?_
 intro kw gH
 refine qv 0 rfl rfl (qv 1 rfl rfl (qv 2 rfl rfl (qv 3 rfl rfl (qt (v:=vI ((D0 ((((((D0 (b+c)) / 2:Nat):Int)+p2) - 1) - (((D0 (a+f)) / 2:Nat):Int)):Nat):Int)) 4 rfl (λ _ _=>Ie (e:=C5.wrap ((((((D0 (b+c)) / 2:Nat):Int)+p2) - 1) - (((D0 (a+f)) / 2:Nat):Int))) yk f0) ?_))))
 obtain⟨aN,ay⟩:=jN (ls:=l0) (i:=D0 ((((((D0 (b+c)) / 2:Nat):Int)+p2) - 1) - (((D0 (a+f)) / 2:Nat):Int))) e9
 refine qt (v:= .pointer (some ⟨ab h,ao h+(D0 ((((((D0 (b+c)) / 2:Nat):Int)+p2) - 1) - (((D0 (a+f)) / 2:Nat):Int))) *2,none⟩)) 5 rfl (λ _ ⟨_,s⟩=>Ij (ko) rfl rfl ((s.rds (i:=0) rfl).addr (i:=D0 ((((((D0 (b+c)) / 2:Nat):Int)+p2) - 1) - (((D0 (a+f)) / 2:Nat):Int))) e6) e6) (qt (v:= .agg (aI.cells aN).toArray) 6 rfl (λ _ ⟨_,s⟩=>Io rfl (Iy (cs:=(aI.cells aN)) I0 I2 ((s.rds (i:=0) rfl).elem aI.len ay f4))) (qv 7 rfl rfl (qv 8 rfl rfl ?_)))
 obtain⟨aO,az⟩:=jN (ls:=l0) (i:=(D0 (a+f)) / 2) e9
 refine qt (v:= .pointer (some ⟨ab h,ao h+((D0 (a+f)) / 2) *2,none⟩)) 9 rfl (λ _ ⟨_,s⟩=>Ij (ko) rfl rfl ((s.rds (i:=0) rfl).addr (i:=(D0 (a+f)) / 2) e6) e6) (qt (v:= .agg (aI.cells aO).toArray) 10 rfl (λ _ ⟨_,s⟩=>Io rfl (Iy (cs:=(aI.cells aO)) I0 I2 ((s.rds (i:=0) rfl).elem aI.len az f4))) ?_)
 obtain⟨aa,aA⟩:∃ q,jw aN aO=q:=⟨_,rfl⟩
 obtain⟨ky,dV,jd,dW,jg⟩:=Ii gH
 refine qd 11 rfl (IK J1 rfl rfl (nO _ _ aN aO aa dV aA) ?_)
 rintro _ kz ⟨rfl,dX⟩
 have bF:=dW _ _ dX
 refine⟨.inr ⟨_,bF⟩, ?_⟩
 refine qk (.bool (decide (aa < 0))) 12 rfl (qt (v:= .bool (decide (¬ (aa < 0)))) 13 rfl (λ _ _=>IG (e:= !(decide (aa < 0))) yk decide_not.symm) (qn (Ig ?_)))
 by_cases aP:aa < 0
 refine jF (dF (Lh aP)) (Ib (Mz rfl (Az rfl (C6 (bN ?_)))))
 have gI:=bF.pf []
 exact Ir (a,(((D0 (a+f)) / 2:Nat):Int),I) ⟨rfl,rfl,rfl,rfl,rfl,rfl,rfl,rfl,rfl,rfl,trivial⟩ (M.2 ⟨gI,e6,e6,et (ax) (et (ip Z) (et (ah (bJ ay)) (et (ah (bJ az)) (et (ah aA) (ip aP)))))⟩) (by show I < I+1; omega)
 refine jT (dT aP) (Ib (Mz rfl (fw (vI ((((D0 (a+f)) / 2)+1:Nat):Int)) (Ie (e:=C5.wrap ((((D0 (a+f)) / 2:Nat):Int)+1)) yk f0) (Az rfl (C6 (bN ?_))))))
 have gJ:=bF.pf []
 exact Ir (((((D0 (a+f)) / 2)+1:Nat):Int),f,I) ⟨rfl,rfl,rfl,rfl,rfl,rfl,rfl,rfl,rfl,rfl,trivial⟩ (M.2 ⟨gJ,e6,e6,et (ax) (et (ip Z) (et (ah (bJ ay)) (et (ah (bJ az)) (et (ah aA) (iN aP)))))⟩) (by show I < I+1; omega)
 refine jF (dF Z) (C7 (Il ?_))
 have F:fC l0 b p2 c ((D0 (p - n))+1) n p=a:=et (ax) (iN Z)
 refine Il (IB (Ig (sr (Mz rfl (Mz rfl (fw (vI (((((D0 (b+c)) / 2:Nat):Int)+p2) - a)) (Ie (e:=C5.wrap (((((D0 (b+c)) / 2:Nat):Int)+p2) - a)) yk g2) (An rfl (Ic (sr (Mz rfl (Mz rfl (Kz (.bool (decide (a < p2))) (Mz rfl ?_)))))))))))))
 by_cases u:a < p2
 refine gw (vI p2) (dT u) (Iq rfl) (gw (vI (((((D0 (b+c)) / 2:Nat):Int)+p2) - a)) (dT u) (Iq rfl) (Gz (.bool (decide (p2 < ((((D0 (b+c)) / 2:Nat):Int)+p2) - a))) (dT u) (fw (.bool (decide (p2 < ((((D0 (b+c)) / 2:Nat):Int)+p2) - a))) (Iw rfl (dT u) rfl) (nt ?_))))
 obtain⟨gP,aB⟩:=nQ λ r w'=>Own w D w' [row h l0.length t (q3 aI.cells r) 153 2]/\r.length=l0.length/\(if p2 < ((((D0 (b+c)) / 2:Nat):Int)+p2) - a then bnd (iL l0 a p2 (((((D0 (b+c)) / 2:Nat):Int)+p2) - a)) λ dY=>dY else l0)=r
 refine IZ (λ i:(List aI)=> [(24,vI (((((D0 (b+c)) / 2:Nat):Int)+p2) - a)),(20,vI a),(18,vI (((D0 (b+c)) / 2:Nat):Int)),(0, .slice h l0.length t),(1,vI b),(3,vI c),(4, .func (.func 166) #[] #[])]) gP ?_ ?_
 by_cases aQ:p2 < ((((D0 (b+c)) / 2:Nat):Int)+p2) - a
 refine jT (dT aQ) (Ib (Mz rfl (Mz rfl (Mz rfl (Mz rfl (Mz rfl ?_))))))
 obtain⟨bG,bH⟩:∃ q,iL l0 a p2 (((((D0 (b+c)) / 2:Nat):Int)+p2) - a)=q:=⟨_,rfl⟩
 obtain⟨kC,dZ,jh,ed,ji⟩:=II Y
 refine cl Tryz.call209 (qL _ _ h l0.length t l0 a p2 (((((D0 (b+c)) / 2:Nat):Int)+p2) - a) bG dZ rfl e6 e6 bH) ?_
 rintro _ kD ⟨rfl,ek,bI⟩
 have dm:=ed _ _ ek
 have jk:=zr 0 dm
 replace bI:bG.length=l0.length:=bI
 refine C6 ?_
 have gQ:=dm.pf []
 exact IQ bG ⟨rfl,rfl,rfl,rfl,rfl,rfl,rfl,trivial⟩ (aB.2 ⟨gQ,by first | omega | (simp only [H1] <;> omega) | (simp only [H2]),Eq.trans (if_pos aQ) (ah bH)⟩)
 refine jF (dF aQ) (IE ?_)
 have gT:=Y.pf []
 exact IQ l0 ⟨rfl,rfl,rfl,rfl,rfl,rfl,rfl,trivial⟩ (aB.2 ⟨gT,by first | omega | (simp only [H1] <;> omega) | (simp only [H2]),if_neg aQ⟩)
 rintro r kE eu
 obtain⟨aR,jl,N⟩:=aB.1 eu
 refine Ic (sr (Mz rfl (Mz rfl (Kz (.bool (decide (b < a))) (Mz rfl ?_)))))
 by_cases z:b < a
 refine gw (vI a) (dT z) (Iq rfl) (gw (vI (((D0 (b+c)) / 2:Nat):Int)) (dT z) (Iq rfl) (Gz (.bool (decide (a < (((D0 (b+c)) / 2:Nat):Int)))) (dT z) (fw (.bool (decide (a < (((D0 (b+c)) / 2:Nat):Int)))) (Iw rfl (dT z) rfl) (nt ?_))))
 obtain⟨gU,aC⟩:=nQ λ A w'=>Own w D w' [row h l0.length t (q3 aI.cells A) 153 2]/\A.length=l0.length/\(if a < (((D0 (b+c)) / 2:Nat):Int) then bnd (mW r b a (((D0 (b+c)) / 2:Nat):Int)) λ eB=>eB else r)=A
 refine IZ (λ i:(List aI)=> [(24,vI (((((D0 (b+c)) / 2:Nat):Int)+p2) - a)),(18,vI (((D0 (b+c)) / 2:Nat):Int)),(0, .slice h l0.length t),(3,vI c),(4, .func (.func 166) #[] #[])]) gU ?_ ?_
 by_cases aS:a < (((D0 (b+c)) / 2:Nat):Int)
 refine jT (dT aS) (Ib (Mz rfl (Mz rfl (Mz rfl (Mz rfl (Mz rfl ?_))))))
 obtain⟨bK,bL⟩:∃ q,mW r b a (((D0 (b+c)) / 2:Nat):Int)=q:=⟨_,rfl⟩
 obtain⟨kF,eD,jm,eF,jo⟩:=II aR
 refine cl K0 (self_ _ _ h l0.length t r b a (((D0 (b+c)) / 2:Nat):Int) bK eD f1 e6 e6 e6 bL) ?_
 rintro _ kG ⟨rfl,eG,bM⟩
 have dn:=eF _ _ eG
 have jq:=zr 0 dn
 replace bM:bK.length=r.length:=bM
 refine C6 ?_
 have gV:=dn.pf []
 exact IQ bK ⟨rfl,rfl,rfl,rfl,rfl,trivial⟩ (aC.2 ⟨gV,by first | omega | (simp only [H1] <;> omega) | (simp only [H2]),Eq.trans (if_pos aS) (ah bL)⟩)
 refine jF (dF aS) (IE ?_)
 have gW:=aR.pf []
 exact IQ r ⟨rfl,rfl,rfl,rfl,rfl,trivial⟩ (aC.2 ⟨gW,by first | omega | (simp only [H1] <;> omega) | (simp only [H2]),if_neg aS⟩)
 rintro A kH eH
 obtain⟨dw,jr,bO⟩:=aC.1 eH
 refine sr (Mz rfl (Mz rfl (Kz (.bool (decide ((((D0 (b+c)) / 2:Nat):Int) < ((((D0 (b+c)) / 2:Nat):Int)+p2) - a))) (Mz rfl ?_))))
 have O:(decide ((((D0 (b+c)) / 2:Nat):Int) < ((((D0 (b+c)) / 2:Nat):Int)+p2) - a))=true:=(dT e6)
 refine I1 (v:=vI (((((D0 (b+c)) / 2:Nat):Int)+p2) - a)) rfl rfl O rfl (Iq rfl) (I1 (v:=vI c) rfl rfl O rfl (Iq rfl) (Gz (.bool (decide (((((D0 (b+c)) / 2:Nat):Int)+p2) - a < c))) O (fw (.bool (decide (((((D0 (b+c)) / 2:Nat):Int)+p2) - a < c))) (Iw rfl O rfl) (nt ?_))))
 by_cases aT:((((D0 (b+c)) / 2:Nat):Int)+p2) - a < c
 refine jT (dT aT) (Ib (Mz rfl (Mz rfl (Mz rfl (Mz rfl (Mz rfl ?_))))))
 obtain⟨bP,bR⟩:∃ q,mW A (((D0 (b+c)) / 2:Nat):Int) (((((D0 (b+c)) / 2:Nat):Int)+p2) - a) c=q:=⟨_,rfl⟩
 obtain⟨kI,eO,jv,eP,jy⟩:=II dw
 refine cl K0 (self_ _ _ h l0.length t A (((D0 (b+c)) / 2:Nat):Int) (((((D0 (b+c)) / 2:Nat):Int)+p2) - a) c bP eO f1 e6 e6 e6 bR) ?_
 rintro _ kJ ⟨rfl,eQ,bS⟩
 have dx:=eP _ _ eQ
 have jA:=zr 0 dx
 replace bS:bP.length=A.length:=bS
 refine C6 (IA (res0 rfl) ?_)
 have gX:=dx.pf []
 obtain rfl:=zj hr zq10
 exact⟨rfl,gX,g5⟩
 refine jF (dF aT) (IE (IA (res0 rfl) ?_))
 have gY:=dw.pf []
 obtain rfl:=zj hr zq9
 exact⟨rfl,gY,g5⟩
 refine Sz (dF z) (Sz (dF z) (Sz (dF z) (fw (.bool false) (Ih rfl (dF z) rfl) (nt (jf (sk (sr (Mz rfl (Mz rfl (Kz (.bool (decide ((((D0 (b+c)) / 2:Nat):Int) < ((((D0 (b+c)) / 2:Nat):Int)+p2) - a))) (Mz rfl ?_)))))))))))
 have P:(decide ((((D0 (b+c)) / 2:Nat):Int) < ((((D0 (b+c)) / 2:Nat):Int)+p2) - a))=true:=(dT e6)
 refine I1 (v:=vI (((((D0 (b+c)) / 2:Nat):Int)+p2) - a)) rfl rfl P rfl (Iq rfl) (I1 (v:=vI c) rfl rfl P rfl (Iq rfl) (Gz (.bool (decide (((((D0 (b+c)) / 2:Nat):Int)+p2) - a < c))) P (fw (.bool (decide (((((D0 (b+c)) / 2:Nat):Int)+p2) - a < c))) (Iw rfl P rfl) (nt ?_))))
 by_cases aU:((((D0 (b+c)) / 2:Nat):Int)+p2) - a < c
 refine jT (dT aU) (Ib (Mz rfl (Mz rfl (Mz rfl (Mz rfl (Mz rfl ?_))))))
 obtain⟨bT,bU⟩:∃ q,mW r (((D0 (b+c)) / 2:Nat):Int) (((((D0 (b+c)) / 2:Nat):Int)+p2) - a) c=q:=⟨_,rfl⟩
 obtain⟨kK,eT,jB,eU,jC⟩:=II aR
 refine cl K0 (self_ _ _ h l0.length t r (((D0 (b+c)) / 2:Nat):Int) (((((D0 (b+c)) / 2:Nat):Int)+p2) - a) c bT eT f1 e6 e6 e6 bU) ?_
 rintro _ kL ⟨rfl,eX,bV⟩
 have dz:=eU _ _ eX
 have jD:=zr 0 dz
 replace bV:bT.length=r.length:=bV
 refine C6 (IA (res0 rfl) ?_)
 have gZ:=dz.pf []
 obtain rfl:=zj hr zq9
 exact⟨rfl,gZ,g5⟩
 refine jF (dF aU) (IE (IA (res0 rfl) ?_))
 have ib:=aR.pf []
 obtain rfl:=zj hr zq8
 exact⟨rfl,ib,g5⟩
 refine Sz (dF u) (Sz (dF u) (Sz (dF u) (fw (.bool false) (Ih rfl (dF u) rfl) (nt (jf (sk (Ic (sr (Mz rfl (Mz rfl (Kz (.bool (decide (b < a))) (Mz rfl ?_))))))))))))
 have Q:(decide (b < a))=true:=(dT e6)
 refine I1 (v:=vI a) rfl rfl Q rfl (Iq rfl) (I1 (v:=vI (((D0 (b+c)) / 2:Nat):Int)) rfl rfl Q rfl (Iq rfl) (Gz (.bool (decide (a < (((D0 (b+c)) / 2:Nat):Int)))) Q (fw (.bool (decide (a < (((D0 (b+c)) / 2:Nat):Int)))) (Iw rfl Q rfl) (nt ?_))))
 obtain⟨ic,aD⟩:=nQ λ ae w'=>Own w D w' [row h l0.length t (q3 aI.cells ae) 153 2]/\ae.length=l0.length/\(if a < (((D0 (b+c)) / 2:Nat):Int) then bnd (mW l0 b a (((D0 (b+c)) / 2:Nat):Int)) λ eY=>eY else l0)=ae
 refine IZ (λ i:(List aI)=> [(24,vI (((((D0 (b+c)) / 2:Nat):Int)+p2) - a)),(18,vI (((D0 (b+c)) / 2:Nat):Int)),(0, .slice h l0.length t),(3,vI c),(4, .func (.func 166) #[] #[])]) ic ?_ ?_
 by_cases aV:a < (((D0 (b+c)) / 2:Nat):Int)
 refine jT (dT aV) (Ib (Mz rfl (Mz rfl (Mz rfl (Mz rfl (Mz rfl ?_))))))
 obtain⟨bW,bX⟩:∃ q,mW l0 b a (((D0 (b+c)) / 2:Nat):Int)=q:=⟨_,rfl⟩
 obtain⟨kM,eZ,jE,fe,jG⟩:=II Y
 refine cl K0 (self_ _ _ h l0.length t l0 b a (((D0 (b+c)) / 2:Nat):Int) bW eZ rfl e6 e6 e6 bX) ?_
 rintro _ kN ⟨rfl,fo,bY⟩
 have dA:=fe _ _ fo
 have jH:=zr 0 dA
 replace bY:bW.length=l0.length:=bY
 refine C6 ?_
 have ig:=dA.pf []
 exact IQ bW ⟨rfl,rfl,rfl,rfl,rfl,trivial⟩ (aD.2 ⟨ig,by first | omega | (simp only [H1] <;> omega) | (simp only [H2]),Eq.trans (if_pos aV) (ah bX)⟩)
 refine jF (dF aV) (IE ?_)
 have ik:=Y.pf []
 exact IQ l0 ⟨rfl,rfl,rfl,rfl,rfl,trivial⟩ (aD.2 ⟨ik,by first | omega | (simp only [H1] <;> omega) | (simp only [H2]),if_neg aV⟩)
 rintro ae kP fq
 obtain⟨il,jI,fu⟩:=aD.1 fq
 refine sr (Mz rfl (Mz rfl (Kz (.bool (decide ((((D0 (b+c)) / 2:Nat):Int) < ((((D0 (b+c)) / 2:Nat):Int)+p2) - a))) (Mz rfl ?_))))
 have R:(decide ((((D0 (b+c)) / 2:Nat):Int) < ((((D0 (b+c)) / 2:Nat):Int)+p2) - a))=false:=(dF e6)
 refine Sz R (Sz R (Sz R (fw (.bool false) (Ih rfl R rfl) (nt (jf (IE (IA (res0 rfl) ?_)))))))
 have iq:=il.pf []
 obtain rfl:=zj hr zq6
 exact⟨rfl,iq,g5⟩
end
open Int renaming eq_ofNat_of_zero_le->K3,toNat_natCast->K2
open List renaming append_assoc->q4,drop_left->K1,length_eq_one_iff->L3,take_left->t5
theorem ww {α β:Type} (x:α) (f:α->β):bnd x f=f x:=rfl
theorem BQ (a q:List aI) (p:aI):C0 (a++p::q) a.length default=p:=by simp
theorem BR (a q:List aI) (p y:aI):List.set (a++p::q) a.length y=a++y::q:=by simp
theorem AO (P X Y Q:List aI) {a m b:Nat} (ha:a=P.length) (hm:m=a+X.length) (hb:b=m+Y.length):uF (P++(X++(Y++Q))) a m b=P++(Y++(X++Q)):=by
  subst hb; subst hm; subst ha
  have c:q7 P.length (P++(X++(Y++Q)))=P:=t5
  have d:q7 (P.length+X.length) (P++(X++(Y++Q)))=P++X:=by
    rw [<- q4, <- o1]; exact t5
  have e:q7 (P.length+X.length+Y.length) (P++(X++(Y++Q)))=P++(X++Y):=by
    have:P++(X++(Y++Q))=(P++(X++Y))++Q:=by simp
    rw [this,show P.length+X.length+Y.length=(P++(X++Y)).length by simp; omega]; exact t5
  have f:r3 (P.length+X.length+Y.length) (P++(X++(Y++Q)))=Q:=by
    have:P++(X++(Y++Q))=(P++(X++Y))++Q:=by simp
    rw [this,show P.length+X.length+Y.length=(P++(X++Y)).length by simp; omega]; exact K1
  have g:r3 (P.length+X.length) (P++(X++Y))=Y:=by
    rw [<- q4, <- o1]; exact K1
  have h:r3 P.length (P++X)=X:=K1
  unfold uF
  rw [c,e,g,d,h,f]
theorem FH (l:List aI) {a m b:Nat} (e:a<=m) (f:m<=b) (g:b<=l.length):∃ P X Y Q,l=P++(X++(Y++Q))/\P.length=a/\X.length=m - a/\Y.length=b - m:=by
  refine⟨q7 a l,q7 (m - a) (r3 a l),q7 (b - m) (r3 m l),r3 b l, ?_, ?_, ?_, ?_⟩
  . have c:q7 (b - m) (r3 m l)++r3 b l=r3 m l:=by
      have:=s7 (b - m) (r3 m l)
      rw [List.drop_drop,show m+(b - m)=b by omega] at this
      exact this
    have d:q7 (m - a) (r3 a l)++r3 m l=r3 a l:=by
      have:=s7 (m - a) (r3 a l)
      rw [List.drop_drop,show a+(m - a)=m by omega] at this
      exact this
    rw [c,d,s7]
  . rw [m9]; omega
  . rw [m9,o0]; omega
  . rw [m9,o0]; omega
theorem Ex (b p2 c:Int):∀ (X Z P Y Q:List aI) (k q:Nat),X.length=Z.length->X.length < q->b+(k:Int)=(P.length:Int)->p2+(k:Int)=((P.length+X.length+Y.length:Nat):Int)->c=((k+X.length:Nat):Int)->
    gG b p2 c q k (P++(X++(Y++(Z++Q))))=P++(Z++(Y++(X++Q)))
  | _,_,_,_,_,_,0,_,h,_,_,_=>e6
  | [], [],P,Y,Q,k,q+1,_,_,_,_,a=>by
    rw [gG,if_neg (by rw [a]; simp)]
  | [],z::Z,_,_,_,_,q+1,h,_,_,_,_=>by simp at h
  | x::X, [],_,_,_,_,q+1,h,_,_,_,_=>by simp at h
  | x::X,z::Z,P,Y,Q,k,q+1,f,g,i,d,a=>by
    simp only [s0] at f g d a
    rw [gG,if_pos (by rw [a]; omega)]
    simp only [ww]
    rw [i,d,K2,K2]
    have j:P++(x::X++(Y++(z::Z++Q)))=(P++(x::X++Y))++z::(Z++Q):=by simp
    have l:(P++(x::X++Y)).length=P.length+(X.length+1)+Y.length:=by simp; omega
    have m:C0 (P++(x::X++(Y++(z::Z++Q)))) (P.length+(X.length+1)+Y.length) default=z:=by rw [j, <- l]; exact BQ _ _ _
    have n:C0 (P++(x::X++(Y++(z::Z++Q)))) P.length default=x:=BQ P (X++(Y++(z::Z++Q))) x
    have o:List.set (P++(x::X++(Y++(z::Z++Q)))) P.length z=(P++(z::X++Y))++z::(Z++Q):=by
      rw [show P++(x::X++(Y++(z::Z++Q)))=P++x::(X++(Y++(z::Z++Q))) from rfl,BR]; simp
    have p:(P++(z::X++Y)).length=P.length+(X.length+1)+Y.length:=by simp; omega
    rw [m,n,show (aI.mk z.bY z.aT)=z from rfl,show (aI.mk x.bY x.aT)=x from rfl,o, <- p,BR]
    have e:(P++(z::X++Y))++x::(Z++Q)=(P++ [z])++(X++((Y++ [x])++(Z++Q))):=by simp
    rw [e,Ex b p2 c X Z (P++ [z]) (Y++ [x]) Q (k+1) q e6 e6 l2 l2 e6]
    simp
theorem yS (P X Y Z Q:List aI) (h:X.length=Z.length) {a p2 b:Int} (c:a=(P.length:Int)) (d:p2=((P.length+X.length+Y.length:Nat):Int)) (e:b=(X.length:Int)):fO (P++(X++(Y++(Z++Q)))) a p2 b=P++(Z++(Y++(X++Q))):=by
  unfold fO
  rw [ww]
  exact Ex a p2 b X Z P Y Q 0 _ h e6 e6 e6 e6
theorem D6 (m:Nat):∀ (q:Nat) (P X Y Q:List aI),X.length+Y.length < q->1<=X.length->1<=Y.length->P.length+X.length=m->
    fO (dD (m:Int) q (X.length:Int) (Y.length:Int) (P++(X++(Y++Q)))).2 ((m:Int) - (dD (m:Int) q (X.length:Int) (Y.length:Int) (P++(X++(Y++Q)))).1) (m:Int) (dD (m:Int) q (X.length:Int) (Y.length:Int) (P++(X++(Y++Q)))).1=P++(Y++(X++Q))
  | 0,_,_,_,_,h,_,_,_=>e6
  | q+1,P,X,Y,Q,h,hx,hy,hm=>by
    by_cases c1:X.length=Y.length
    . have e:dD (m:Int) (q+1) (X.length:Int) (Y.length:Int) (P++(X++(Y++Q)))=((X.length:Int),P++(X++(Y++Q))):=by
        rw [dD,if_pos e6]
      rw [e]
      exact yS P X [] Y Q c1 e6 l2 rfl
    . by_cases c2:X.length > Y.length
      . obtain⟨a,b,rfl,f⟩:∃ a b,X=a++b/\a.length=Y.length:=⟨q7 Y.length X,r3 Y.length X,(s7 _ _).symm,by rw [m9]; omega⟩
        rw [o1] at h hx hm c1 c2
        have e:dD (m:Int) (q+1) ((a++b).length:Int) (Y.length:Int) (P++((a++b)++(Y++Q)))=dD (m:Int) q (b.length:Int) (a.length:Int) ((P++Y)++(b++(a++Q))):=by
          rw [dD,if_neg i6,if_pos i6,ww]
          rw [show P++((a++b)++(Y++Q))=P++(a++(b++(Y++Q))) by simp,yS P a b Y Q f i6 e6 e6]
          rw [show (((a++b).length:Nat):Int) - (Y.length:Int)=(b.length:Int) by rw [o1]; omega,f]
          simp
        rw [e,D6 m q (P++Y) b a Q e6 e6 e6 i6]
        simp
      . obtain⟨c,d,rfl,f⟩:∃ c d,Y=c++d/\d.length=X.length:=⟨q7 (Y.length - X.length) Y,r3 (Y.length - X.length) Y,(s7 _ _).symm,by rw [o0]; omega⟩
        rw [o1] at h hy c1 c2
        have e:dD (m:Int) (q+1) (X.length:Int) ((c++d).length:Int) (P++(X++((c++d)++Q)))=dD (m:Int) q (d.length:Int) (c.length:Int) (P++(d++(c++(X++Q)))):=by
          rw [dD,if_neg i6,if_neg i6,ww]
          rw [show P++(X++((c++d)++Q))=P++(X++(c++(d++Q))) by simp,yS P X c d Q f.symm e6 i6 rfl]
          rw [show (((c++d).length:Nat):Int) - (X.length:Int)=(c.length:Int) by rw [o1]; omega,f]
        rw [e,D6 m q P d c (X++Q) e6 e6 e6 e6]
        simp
theorem Di (l:List aI) {a m b:Nat} (c:a < m) (d:m < b) (e:b<=l.length):iL l (a:Int) (m:Int) (b:Int)=uF l a m b:=by
  obtain⟨P,X,Y,Q,rfl,f,g,h⟩:=FH l (Nat.le_of_lt c) (Nat.le_of_lt d) e
  rw [AO P X Y Q f.symm e6 e6]
  unfold iL
  simp only [ww]
  have:=D6 m ((D0 (((m:Int) - (a:Int))+((b:Int) - (m:Int))))+1) P X Y Q e6 e6 e6 e6
  rw [show (X.length:Int)=(m:Int) - (a:Int) by omega,show (Y.length:Int)=(b:Int) - (m:Int) by omega] at this
  exact this
theorem GQ (i:Int):∀ (Y P Q:List aI) (x:aI) (q:Nat) (k:Int),Y.length < q->k=(P.length:Int)->i=((P.length+Y.length+1:Nat):Int)->gL i q k (P++x::(Y++Q))=P++(Y++x::Q)
  | _,_,_,_,0,_,h,_,_=>e6
  | [],P,Q,x,q+1,k,_,hk,hi=>by
    rw [gL,if_neg (by rw [hk,hi]; simp)]; rfl
  | y::Y,P,Q,x,q+1,k,h,hk,hi=>by
    simp only [s0] at h hi
    rw [gL,if_pos e6]
    simp only [ww]
    rw [show D0 (k+1)=(P++ [x]).length by simp; omega,show D0 k=P.length by omega]
    have a:P++x::(y::Y++Q)=(P++ [x])++y::(Y++Q):=by simp
    rw [show C0 (P++x::(y::Y++Q)) (P++ [x]).length default=y by rw [a]; exact BQ _ _ _,BQ,show (aI.mk y.bY y.aT)=y from rfl,show (aI.mk x.bY x.aT)=x from rfl,BR]
    rw [show P++y::(y::Y++Q)=(P++ [y])++y::(Y++Q) by simp,show (P++ [x]).length=(P++ [y]).length by simp,BR]
    rw [GQ i Y (P++ [y]) Q x q (k+1) e6 l2 l2]
    simp
theorem GR (i:Int):∀ (n:Nat) (X P Q:List aI) (x:aI) (q:Nat) (k:Int),X.length=n->X.length < q->i=(P.length:Int)->k=((P.length+X.length:Nat):Int)->gN i q k (P++(X++x::Q))=P++x::(X++Q)
  | _,_,_,_,_,0,_,_,h,_,_=>e6
  | 0,X,P,Q,x,q+1,k,hn,_,hi,hk=>by
    have e:X= []:=List.eq_nil_of_length_eq_zero hn
    subst e
    rw [gN,if_neg (by rw [hk,hi]; simp)]; rfl
  | n+1,X,P,Q,x,q+1,k,hn,h,hi,hk=>by
    obtain⟨X',y,rfl⟩:∃ X' y,X=X'++ [y]:=⟨X.dropLast,X.getLast (λ e=>by rw [e] at hn; cases hn),(List.dropLast_concat_getLast _).symm⟩
    rw [o1,List.length_singleton] at hn h hk
    rw [gN,if_pos e6]
    simp only [ww]
    rw [show D0 (k - 1)=(P++X').length by simp; omega,show D0 k=((P++X')++ [y]).length by simp; omega]
    have b:P++((X'++ [y])++x::Q)=(P++X')++y::(x::Q):=by simp
    have a:P++((X'++ [y])++x::Q)=((P++X')++ [y])++x::Q:=by simp
    rw [show C0 (P++((X'++ [y])++x::Q)) (P++X').length default=y by rw [b]; exact BQ _ _ _,show C0 (P++((X'++ [y])++x::Q)) ((P++X')++ [y]).length default=x by rw [a]; exact BQ _ _ _]
    rw [show (aI.mk y.bY y.aT)=y from rfl,show (aI.mk x.bY x.aT)=x from rfl,a,BR]
    rw [show ((P++X')++ [y])++y::Q=(P++X')++y::(y::Q) by simp,BR]
    rw [show (P++X')++x::(y::Q)=P++(X'++x::(y::Q)) by simp,GR i n X' P (y::Q) x q (k - 1) e6 e6 hi e6]
    simp
theorem vg {x y:aI}:jw x y < 0↔ng x y=true:=by unfold ng; rw [decide_eq_true_eq]
theorem wW (P:Nat->Bool):∀ (f i j:Nat),i<=j->i<=bs P f i j/\bs P f i j<=j
  | 0,i,j,h=>⟨Nat.le_refl _,h⟩
  | f+1,i,j,h=>by
    unfold bs
    by_cases c:i < j
    . rw [if_pos c]
      split
      . have:=wW P f ((i+j) / 2+1) j e6; omega
      . have:=wW P f i ((i+j) / 2) e6; omega
    . rw [if_neg c]; omega
theorem FI (l:List aI) (i:Nat):C0 l i default=at_ l i:=rfl
theorem FJ (l:List aI) (a:Nat) (b:Int):∀ (q i j:Nat),j - i < q->gK l (a:Int) b q (i:Int) (j:Int)=((bs (λ h=>ng (at_ l h) (at_ l a)) q i j:Nat):Int)
  | 0,_,_,h=>e6
  | q+1,i,j,h=>by
    rw [gK,bs]
    simp only [ww,FI]
    rw [show D0 ((i:Int)+(j:Int))=i+j by omega,K2]
    by_cases c:i < j
    . rw [if_pos e6,if_pos c]
      by_cases t:ng (at_ l ((i+j) / 2)) (at_ l a)=true
      . rw [if_pos (vg.2 t),if_pos t,FJ l a b q _ j e6]
      . rw [if_neg (λ e=>t (vg.1 e)),if_neg t,FJ l a b q i _ e6]
    . rw [if_neg e6,if_neg c]
theorem FK (l:List aI) (m:Nat) (a:Int):∀ (q i j:Nat),j - i < q->gM l a (m:Int) q (i:Int) (j:Int)=((bs (λ h=> !ng (at_ l m) (at_ l h)) q i j:Nat):Int)
  | 0,_,_,h=>e6
  | q+1,i,j,h=>by
    rw [gM,bs]
    simp only [ww,FI]
    rw [show D0 ((i:Int)+(j:Int))=i+j by omega,K2]
    by_cases c:i < j
    . rw [if_pos e6,if_pos c]
      by_cases t:ng (at_ l m) (at_ l ((i+j) / 2))=true
      . rw [if_pos (vg.2 t),if_neg (by rw [t]; decide),FK l m a q i _ e6]
      . rw [if_neg (λ e=>t (vg.1 e)),if_pos (by rw [Bool.eq_false_iff.2 t]; rfl),FK l m a q _ j e6]
    . rw [if_neg e6,if_neg c]
theorem FL (l:List aI) (a m b:Nat) (hb:m < b):∀ (q i j:Nat),j - i < q->j<=(a+b) / 2->fC l (a:Int) (m:Int) (b:Int) q (i:Int) (j:Int)=((bs (λ c=> !ng (at_ l ((a+b) / 2+m - 1 - c)) (at_ l c)) q i j:Nat):Int)
  | 0,_,_,h,_=>e6
  | q+1,i,j,h,hj=>by
    rw [fC,bs]
    simp only [ww,FI]
    rw [show D0 ((i:Int)+(j:Int))=i+j by omega,show D0 ((a:Int)+(b:Int))=a+b by omega]
    by_cases c:i < j
    . rw [if_pos e6,if_pos c]
      rw [show D0 ((((((a+b) / 2:Nat):Int)+(m:Int)) - 1) - (((i+j) / 2:Nat):Int))=(a+b) / 2+m - 1 - (i+j) / 2 by omega]
      by_cases t:ng (at_ l ((a+b) / 2+m - 1 - (i+j) / 2)) (at_ l ((i+j) / 2))=true
      . rw [if_pos (vg.2 t),if_neg (by rw [t]; decide),FL l a m b hb q i _ e6 e6]
      . rw [if_neg (λ e=>t (vg.1 e)),if_pos (by rw [Bool.eq_false_iff.2 t]; rfl),FL l a m b hb q _ j e6 hj]
    . rw [if_neg e6,if_neg c]
theorem xI:∀ (f:Nat) (l:List aI) (a m b:Nat),a < m->m < b->b - a<=f->pJ (f+1) l a m b=pJ f l a m b
  | 0,_,_,_,_,_,_,_=>e6
  | f+1,l,a,m,b,e,g,h=>by
    rw [pJ]
    conv=>rhs; rw [pJ]
    by_cases c1:m - a=1
    . rw [if_pos c1,if_pos c1]
    . rw [if_neg c1,if_neg c1]
      by_cases c2:b - m=1
      . rw [if_pos c2,if_pos c2]
      . rw [if_neg c2,if_neg c2]
        dsimp only
        generalize (if m > (a+b) / 2 then bs (λ c=> !ng (at_ l ((a+b) / 2+m - 1 - c)) (at_ l c)) ((a+b) / 2 - ((a+b) / 2+m - b)+1) ((a+b) / 2+m - b) ((a+b) / 2) else bs (λ c=> !ng (at_ l ((a+b) / 2+m - 1 - c)) (at_ l c)) (m - a+1) a m)=s
        have d:∀ l1,(if a < s/\s < (a+b) / 2 then pJ (f+1) l1 a s ((a+b) / 2) else l1)=if a < s/\s < (a+b) / 2 then pJ f l1 a s ((a+b) / 2) else l1:=λ l1=>by
          by_cases c:a < s/\s < (a+b) / 2
          . rw [if_pos c,if_pos c,xI f l1 a s _ c.1 c.2 e6]
          . rw [if_neg c,if_neg c]
        rw [d]
        split
        . next c=>rw [xI f _ _ _ b c.1 c.2 e6]
        . rfl
theorem xJ (l:List aI) (a m b:Nat) (d:a < m) (e:m < b):∀ f,b - a<=f->pJ f l a m b=pJ (b - a) l a m b
  | 0,h=>by rw [show b - a=0 by omega]
  | f+1,h=>by
    by_cases c:b - a=f+1
    . rw [c]
    . rw [xI f l a m b d e e6,xJ l a m b d e f e6]
theorem D7 (l:List aI) (g p2 k:Int) (h:0<=g/\g < p2/\p2 < k/\k<=((l.length:Nat):Int)):lK l g p2 k=mW l g p2 k:=by
  obtain⟨a,rfl⟩:=K3 h.1
  obtain⟨m,rfl⟩:=K3 (Int.le_trans h.1 (Int.le_of_lt h.2.1))
  obtain⟨b,rfl⟩:=K3 (Int.le_trans h.1 (Int.le_of_lt (Int.lt_trans h.2.1 h.2.2.1)))
  have D:a < m:=e6
  have v:m < b:=e6
  have E:b<=l.length:=e6
  unfold mW
  rw [K2,K2,K2,show D0 ((b:Int) - (a:Int))=b - a by omega,show b - a=(b - a - 1)+1 by omega,pJ]
  unfold lK
  simp only [ww]
  by_cases c1:m - a=1
  . rw [if_pos e6,if_pos c1]
    rw [FJ l a (b:Int) _ m b e6,show D0 ((b:Int) - (m:Int))=b - m by omega]
    have hb:=wW (λ h=>ng (at_ l h) (at_ l a)) (b - m+1) m b e6
    generalize bs (λ h=>ng (at_ l h) (at_ l a)) (b - m+1) m b=i at hb
    obtain⟨P,X,Y,Q,rfl,n,w,y⟩:=FH l (a:=a) (m:=m) (b:=i) e6 e6 e6
    rw [AO P X Y Q n.symm e6 e6]
    obtain⟨x,rfl⟩:∃ x,X= [x]:=L3.1 e6
    exact GQ (i:Int) Y P Q x _ (a:Int) e6 e6 e6
  . rw [if_neg e6,if_neg c1]
    by_cases c2:b - m=1
    . rw [if_pos e6,if_pos c2]
      rw [FK l m (a:Int) _ a m e6,show D0 ((m:Int) - (a:Int))=m - a by omega]
      have hb:=wW (λ h=> !ng (at_ l m) (at_ l h)) (m - a+1) a m e6
      generalize bs (λ h=> !ng (at_ l m) (at_ l h)) (m - a+1) a m=i at hb
      obtain⟨P,X,Y,Q,rfl,n,w,y⟩:=FH l (a:=i) (m:=m) (b:=b) e6 e6 e6
      rw [AO P X Y Q n.symm e6 e6]
      obtain⟨x,rfl⟩:∃ x,Y= [x]:=L3.1 e6
      exact GR (i:Int) X.length X P Q x _ (m:Int) rfl e6 e6 e6
    . rw [if_neg e6,if_neg c2]
      rw [show D0 ((a:Int)+(b:Int))=a+b by omega]
      have hd:(a+b) / 2 < b/\a < (a+b) / 2:=e6
      generalize hmid:(a+b) / 2=mid at hd
      have hL:∀ q i j:Nat,j - i < q->j<=mid->fC l (a:Int) (m:Int) (b:Int) q (i:Int) (j:Int)=((bs (λ c=> !ng (at_ l (mid+m - 1 - c)) (at_ l c)) q i j:Nat):Int):=λ q i j hq hj=>by
        have:=FL l a m b v q i j hq e6
        rw [hmid] at this; exact this
      have hs:∃ s:Nat,a<=s/\mid+m - b<=s/\s<=mid/\s<=m/\(if m > mid then bs (λ c=> !ng (at_ l (mid+m - 1 - c)) (at_ l c)) (mid - (mid+m - b)+1) (mid+m - b) mid else bs (λ c=> !ng (at_ l (mid+m - 1 - c)) (at_ l c)) (m - a+1) a m)=s/\
          fC l (a:Int) (m:Int) (b:Int) ((D0 ((if(m:Int) > (mid:Int) then(((mid:Int)+(m:Int)) - (b:Int),(mid:Int)) else((a:Int),(m:Int))).2 - (if(m:Int) > (mid:Int) then(((mid:Int)+(m:Int)) - (b:Int),(mid:Int)) else((a:Int),(m:Int))).1))+1) (if(m:Int) > (mid:Int) then(((mid:Int)+(m:Int)) - (b:Int),(mid:Int)) else((a:Int),(m:Int))).1 (if(m:Int) > (mid:Int) then(((mid:Int)+(m:Int)) - (b:Int),(mid:Int)) else((a:Int),(m:Int))).2=(s:Int):=by
        by_cases c:m > mid
        . have hb:=wW (λ c=> !ng (at_ l (mid+m - 1 - c)) (at_ l c)) (mid - (mid+m - b)+1) (mid+m - b) mid e6
          refine⟨bs (λ c=> !ng (at_ l (mid+m - 1 - c)) (at_ l c)) (mid - (mid+m - b)+1) (mid+m - b) mid,e6,hb.1,hb.2,e6,by rw [if_pos c], ?_⟩
          rw [if_pos e6]
          dsimp only
          rw [show ((mid:Int)+(m:Int)) - (b:Int)=((mid+m - b:Nat):Int) by omega,show D0 ((mid:Int) - ((mid+m - b:Nat):Int))=mid - (mid+m - b) by omega]
          exact hL _ _ _ e6 (Nat.le_refl _)
        . have hb:=wW (λ c=> !ng (at_ l (mid+m - 1 - c)) (at_ l c)) (m - a+1) a m e6
          refine⟨bs (λ c=> !ng (at_ l (mid+m - 1 - c)) (at_ l c)) (m - a+1) a m,hb.1,e6,e6,hb.2,by rw [if_neg c], ?_⟩
          rw [if_neg e6]
          dsimp only
          rw [show D0 ((m:Int) - (a:Int))=m - a by omega]
          exact hL _ _ _ e6 e6
      obtain⟨s,F,G,H,I,z,A⟩:=hs
      rw [z,A]
      have hr:∀ l1:List aI,a < s->s < mid->mW l1 (a:Int) (s:Int) (mid:Int)=pJ (b - a - 1) l1 a s mid:=λ l1 o p=>by
        unfold mW
        rw [K2,K2,K2,show D0 ((mid:Int) - (a:Int))=mid - a by omega,xJ l1 a s mid o p (b - a - 1) e6]
      have he:((mid:Int)+(m:Int)) - (s:Int)=((mid+m - s:Nat):Int):=e6
      have f:∀ l1:List aI,mid < mid+m - s->mid+m - s < b->mW l1 (mid:Int) ((mid+m - s:Nat):Int) (b:Int)=pJ (b - a - 1) l1 mid (mid+m - s) b:=λ l1 o p=>by
        unfold mW
        rw [K2,K2,K2,show D0 ((b:Int) - (mid:Int))=b - mid by omega,xJ l1 mid _ b o p (b - a - 1) e6]
      rw [he]
      by_cases r:s < m
      . have B:(if(m:Int) < ((mid+m - s:Nat):Int) then iL l (s:Int) (m:Int) ((mid+m - s:Nat):Int) else l)=if s < m/\m < mid+m - s then uF l s m (mid+m - s) else l:=by
          by_cases t:m < mid+m - s
          . rw [if_pos e6,if_pos ⟨r,t⟩,Di l r t e6]
          . rw [if_neg e6,if_neg (λ q=>t q.2)]
        rw [if_pos e6,B]
        generalize (if s < m/\m < mid+m - s then uF l s m (mid+m - s) else l)=l1
        by_cases u:a < s
        . have C:(if(s:Int) < (mid:Int) then mW l1 (a:Int) (s:Int) (mid:Int) else l1)=if a < s/\s < mid then pJ (b - a - 1) l1 a s mid else l1:=by
            by_cases d:s < mid
            . rw [if_pos e6,if_pos ⟨u,d⟩,hr l1 u d]
            . rw [if_neg e6,if_neg (λ q=>d q.2)]
          rw [if_pos e6,C]
          by_cases e:mid+m - s < b
          . rw [if_pos (show ((mid+m - s:Nat):Int) < (b:Int) by omega),if_pos (show mid < mid+m - s/\mid+m - s < b from ⟨e6,e⟩),f _ e6 e]
          . rw [if_neg (show ¬ ((mid+m - s:Nat):Int) < (b:Int) by omega),if_neg (show ¬ (mid < mid+m - s/\mid+m - s < b) from λ q=>e q.2)]
        . rw [if_neg (show ¬ (a:Int) < (s:Int) by omega),if_neg (show ¬ (a < s/\s < mid) from λ q=>u q.1)]
          by_cases e:mid+m - s < b
          . rw [if_pos (show ((mid+m - s:Nat):Int) < (b:Int) by omega),if_pos (show mid < mid+m - s/\mid+m - s < b from ⟨e6,e⟩),f _ e6 e]
          . rw [if_neg (show ¬ ((mid+m - s:Nat):Int) < (b:Int) by omega),if_neg (show ¬ (mid < mid+m - s/\mid+m - s < b) from λ q=>e q.2)]
      . rw [if_neg (show ¬ (s:Int) < (m:Int) by omega),if_neg (show ¬ (s < m/\m < mid+m - s) from λ q=>r q.1),if_neg (show ¬ (mid < mid+m - s/\mid+m - s < b) from λ q=>absurd q.1 e6)]
        by_cases d:s < mid
        . rw [if_pos e6,if_pos ⟨e6,d⟩,hr l e6 d]
        . rw [if_neg e6,if_neg (λ q=>d q.2)]
theorem FM (n):∀ (w:World) (D:Nat->Prop) (g:Option Addr) (f h:Nat) (l0:List aI) (b:Int) (p2:Int) (c:Int) (i:List aI) (H:Own w D w [row g f h (q3 aI.cells l0) 153 2]) (d:f=l0.length) (e:l0.length *32<=211106232532992) (a:0<=b/\b < p2/\p2 < c/\c<=((l0.length:Nat):Int)) (hh_:D0 (c - b) < n) (hr:mW l0 b p2 c=i),
    Calls Tryz.prog 202 #[.slice g f h, .int .i64 b, .int .i64 p2, .int .i64 c, .func (.func 166) #[] #[]] w (d9 λ v w'=>v= .tuple #[]/\Own w D w' [row g f h (q3 aI.cells i) 153 2]/\(i.length=l0.length)):=by
  induction n with
  | zero=>intro w D g f h l0 b p2 c i H d e a hh_; omega
  | succ n ih=>
    intro w D g f h l0 b p2 c i H d e a hh_ hr
    exact qm w D g f h l0 b p2 c i H d e a ((D7 l0 b p2 c a).trans hr) _ rfl
      (λ w D g f h l0 b p2 c i H d e a hs hr=>ih w D g f h l0 b p2 c i H d e a e6 hr)
theorem BS (w D d a e l0 b p2 c f) (H:Own w D w [row d a e (q3 aI.cells l0) 153 2]) (g:a=l0.length) (h:l0.length *32<=211106232532992) (i:0<=b/\b < p2/\p2 < c/\c<=((l0.length:Nat):Int)) (hr:mW l0 b p2 c=f):
    Calls Tryz.prog 202 #[.slice d a e, .int .i64 b, .int .i64 p2, .int .i64 c, .func (.func 166) #[] #[]] w (d9 λ v w'=>v= .tuple #[]/\Own w D w' [row d a e (q3 aI.cells f) 153 2]/\(f.length=l0.length)):=
  FM _ w D d a e l0 b p2 c f H g h i (Nat.lt_succ_self _) hr
section
open Go.RowKit
def iB (f:Int):Nat->Nat->Nat->List aI->Nat × (List aI)
  | 0,b,a,c=>default
  | e+1,b,a,c=>if(a:Int)<=f then bnd (iX c (b:Int) (a:Int)) λ d=>iB f e a (a+20) d else(b,c)
def iC (g:Int) (c:Nat):Nat->Nat->Nat->List aI->Nat × (List aI)
  | 0,b,a,d=>default
  | f+1,b,a,d=>if(a:Int)<=g then bnd (mW d (b:Int) ((b+c:Nat):Int) (a:Int)) λ e=>iC g c f a (a+(2 *c)) e else(b,d)
def gX (b:Int):Nat->Nat->List aI->(List aI)
  | 0,a,c=>default
  | e+1,a,c=>if(a:Int) < b then bnd (iC b a ((D0 (b+1 - (2 *a)))+1) 0 (2 *a) c) λ sLrLabLstL=>if((sLrLabLstL.1+a:Nat):Int) < b then bnd (mW sLrLabLstL.2 (sLrLabLstL.1:Int) ((sLrLabLstL.1+a:Nat):Int) b) λ d=>gX b e (a *2) d else gX b e (a *2) sLrLabLstL.2 else c
def lX (l0:List aI) (a:Int):(List aI):=
 bnd (iB a ((D0 (a+1 - 20))+1) 0 20 l0) λ sLrL=>bnd (iX sLrL.2 (sLrL.1:Int) a) λ b=>bnd (gX a ((D0 (a - 20))+1) 20 b) λ sLrLabL=>sLrLabL
theorem qM (w D l n0 m l0 b r0) (H:Own w D w [row l n0 m (q3 aI.cells l0) 153 2]) (aS:n0=l0.length) (bS:l0.length *32<=211106232532992) (bT:b=((l0.length:Nat):Int)) (hr:lX l0 b=r0):
    Calls Tryz.prog 191 #[.slice l n0 m,vI b, .func (.func 166) #[] #[]] w (d9 λ v w'=>v= .tuple #[]/\Own w D w' [row l n0 m (q3 aI.cells r0) 153 2]/\(r0.length=l0.length)):=by
 unfold lX at hr
 subst aS
 have bU:=zr 0 H
 refine cb Tryz.func191 ?_
 refine sr (Ar rfl (Mz rfl (Az rfl (An rfl (Ic (bo ?_))))))
 have aT:=H.pf []
 obtain⟨aU,r⟩:=sQ λ (h:Nat) (d:Nat) j (s:Nat) w'=>Own w D w' [row l l0.length m (q3 aI.cells j) 153 2]/\j.length=l0.length/\(0<=h/\d=h+20/\h<=b)/\D0 (b+1 - d) < s/\iB b ((D0 (b+1 - 20))+1) 0 20 l0=iB b s h d j
 refine Wp.loop (λ i:Nat × Nat × (List aI) × Nat=> [(7,vJ i.1),(8,vJ i.2.1),(6,vI 20),(0, .slice l l0.length m),(1,vI b),(2, .func (.func 166) #[] #[])]) aU (λ i=>i.2.2.2) (0,20,l0,(D0 (b+1 - 20))+1) ⟨rfl,rfl,rfl,rfl,rfl,rfl,trivial⟩ (r.2 ⟨aT,by first | omega | (simp only [H1] <;> omega) | (simp only [H2]),e6,e6,rfl⟩) ?_
 rintro ⟨h,d,j,s⟩ bV aj
 obtain⟨ak,bv,bz,bA,M⟩:=r.1 aj
 obtain⟨U,au⟩:∃ q,s=q+1:=⟨s - 1,e6⟩
 subst au
 refine Ic (sr (Mz rfl (Mz rfl (Kz (.bool (decide ((d:Int)<=b))) (nt ?_)))))
 by_cases K:(d:Int)<=b
 refine jT (dT K) (sk (bo (sr (Mz rfl (Mz rfl (Mz rfl (Mz rfl ?_)))))))
 obtain⟨V,N⟩:∃ q,iX j (h:Int) (d:Int)=q:=⟨_,rfl⟩
 obtain⟨bW,av,bB,ax,bC⟩:=II ak
 refine cl Tryz.call201 (lV _ _ l l0.length m j (h:Int) (d:Int) V av f1 e6 e6 N) ?_
 rintro _ bX ⟨rfl,ay,O⟩
 have az:=ax _ _ ay
 have bD:=zr 0 az
 replace O:V.length=j.length:=O
 refine ns (Mz rfl (An rfl (Ib (Mz rfl (Mz rfl (fw (vJ (d+20)) (Ie (e:=C5.wrap ((d:Int)+20)) yk f0) (Az rfl (C6 (bN ?_)))))))))
 have aV:=az.pf []
 exact Ir (d,d+20,V,U) ⟨rfl,rfl,rfl,rfl,rfl,rfl,trivial⟩ (r.2 ⟨aV,by first | omega | (simp only [H1] <;> omega) | (simp only [H2]),e6,e6,Eq.trans (M) (Eq.trans (if_pos K) (ah N))⟩) (by show U < U+1; omega)
 refine jF (dF K) (Wp.exit (Il ?_))
 have aA:iB b ((D0 (b+1 - 20))+1) 0 20 l0=(h,j):=et (M) (iN K)
 refine Il (IB (Ig (sr (Mz rfl (Mz rfl (Mz rfl (Mz rfl ?_)))))))
 obtain⟨t,P⟩:∃ q,iX j (h:Int) b=q:=⟨_,rfl⟩
 obtain⟨bY,aB,bE,aC,bF⟩:=II ak
 refine cl Tryz.call201 (lV _ _ l l0.length m j (h:Int) b t aB f1 e6 e6 P) ?_
 rintro _ bZ ⟨rfl,aD,Q⟩
 have aF:=aC _ _ aD
 have bG:=zr 0 aF
 replace Q:t.length=j.length:=Q
 refine nt (bo ?_)
 have aW:=aF.pf []
 obtain⟨aX,n⟩:=rz λ (a:Nat) k (u:Nat) w'=>Own w D w' [row l l0.length m (q3 aI.cells k) 153 2]/\k.length=l0.length/\(20<=a/\a<=20000000000000)/\D0 (b - a) < u/\gX b ((D0 (b - 20))+1) 20 t=gX b u a k
 refine Wp.loop (λ i:Nat × (List aI) × Nat=> [(6,vJ i.1),(0, .slice l l0.length m),(1,vI b),(2, .func (.func 166) #[] #[])]) aX (λ i=>i.2.2) (20,t,(D0 (b - 20))+1) ⟨rfl,rfl,rfl,rfl,trivial⟩ (n.2 ⟨aW,by first | omega | (simp only [H1] <;> omega) | (simp only [H2]),e6,e6,rfl⟩) ?_
 rintro ⟨a,k,u⟩ cu aG
 obtain⟨aH,bH,bI,bJ,x⟩:=n.1 aG
 obtain⟨p,aJ⟩:∃ q,u=q+1:=⟨u - 1,e6⟩
 subst aJ
 refine Ic (sr (Mz rfl (Mz rfl (Kz (.bool (decide ((a:Int) < b))) (nt ?_)))))
 by_cases y:(a:Int) < b
 refine jT (dT y) (sk (bo (sr (Mz rfl (fw (vJ (2 *a)) (Ie (e:=C5.wrap (2 *(a:Int))) yk f0) (Az rfl (An rfl (Ic (bo ?_)))))))))
 have aY:=aH.pf []
 obtain⟨aZ,z⟩:=sQ λ (c:Nat) (f:Nat) g (A:Nat) w'=>Own w D w' [row l l0.length m (q3 aI.cells g) 153 2]/\g.length=l0.length/\(0<=c/\f=c+2 *(a:Int)/\c<=b)/\D0 (b+1 - f) < A/\iC b a ((D0 (b+1 - (2 *a)))+1) 0 (2 *a) k=iC b a A c f g
 refine Wp.loop (λ i:Nat × Nat × (List aI) × Nat=> [(7,vJ i.1),(8,vJ i.2.1),(6,vJ a),(0, .slice l l0.length m),(1,vI b),(2, .func (.func 166) #[] #[])]) aZ (λ i=>i.2.2.2) (0,2 *a,k,(D0 (b+1 - (2 *a)))+1) ⟨rfl,rfl,rfl,rfl,rfl,rfl,trivial⟩ (z.2 ⟨aY,by first | omega | (simp only [H1] <;> omega) | (simp only [H2]),e6,e6,rfl⟩) ?_
 rintro ⟨c,f,g,A⟩ cz aK
 obtain⟨W,bK,bL,bM,R⟩:=z.1 aK
 obtain⟨X,aL⟩:∃ q,A=q+1:=⟨A - 1,e6⟩
 subst aL
 refine Ic (sr (Mz rfl (Mz rfl (Kz (.bool (decide ((f:Int)<=b))) (nt ?_)))))
 by_cases L:(f:Int)<=b
 refine jT (dT L) (sk (bo (sr (Mz rfl (Mz rfl (Mz rfl (Mz rfl (fw (vJ (c+a)) (Ie (e:=C5.wrap ((c:Int)+(a:Int))) yk f0) (Mz rfl (Mz rfl ?_))))))))))
 obtain⟨B,C⟩:∃ q,mW g (c:Int) ((c+a:Nat):Int) (f:Int)=q:=⟨_,rfl⟩
 obtain⟨bO,Y,bf,Z,bg⟩:=II W
 refine cl Tryz.call202 (BS _ _ l l0.length m g (c:Int) ((c+a:Nat):Int) (f:Int) B Y f1 e6 e6 C) ?_
 rintro _ bP ⟨rfl,aa,E⟩
 have S:=Z _ _ aa
 have bi:=zr 0 S
 replace E:B.length=g.length:=E
 refine ns (Mz rfl (An rfl (Ib (Mz rfl (Mz rfl (fw (vJ (2 *a)) (Ie (e:=C5.wrap (2 *(a:Int))) yk f0) (fw (vJ (f+(2 *a))) (Ie (e:=C5.wrap ((f:Int)+((2 *a:Nat):Int))) yk f0) (Az rfl (C6 (bN ?_))))))))))
 have aM:=S.pf []
 exact Ir (f,f+(2 *a),B,X) ⟨rfl,rfl,rfl,rfl,rfl,rfl,trivial⟩ (z.2 ⟨aM,by first | omega | (simp only [H1] <;> omega) | (simp only [H2]),e6,e6,Eq.trans (R) (Eq.trans (if_pos L) (ah C))⟩) (by show X < X+1; omega)
 refine jF (dF L) (Wp.exit (Il ?_))
 have F:iC b a ((D0 (b+1 - (2 *a)))+1) 0 (2 *a) k=(c,g):=et (R) (iN L)
 refine Il (IB (Ig (Ic (sr (Mz rfl (Mz rfl (fw (vJ (c+a)) (Ie (e:=C5.wrap ((c:Int)+(a:Int))) yk f0) (Ar rfl (Mz rfl (Mz rfl (Kz (.bool (decide (((c+a:Nat):Int) < b))) (nt ?_))))))))))))
 by_cases o:((c+a:Nat):Int) < b
 refine jT (dT o) (Ib (Mz rfl (Mz rfl (Mz rfl (Mz rfl (Mz rfl ?_))))))
 obtain⟨G,I⟩:∃ q,mW g (c:Int) ((c+a:Nat):Int) b=q:=⟨_,rfl⟩
 obtain⟨bQ,ae,bn,af,bq⟩:=II W
 refine cl Tryz.call202 (BS _ _ l l0.length m g (c:Int) ((c+a:Nat):Int) b G ae f1 e6 e6 I) ?_
 rintro _ bR ⟨rfl,ag,J⟩
 have T:=af _ _ ag
 have bu:=zr 0 T
 replace J:G.length=g.length:=J
 refine nt (Ib (Mz rfl (fw (vJ (a *2)) (Ie (e:=C5.wrap ((a:Int) *2)) yk f0) (Az rfl (C6 (bN ?_))))))
 have aN:=T.pf []
 exact Ir (a *2,G,p) ⟨rfl,rfl,rfl,rfl,trivial⟩ (n.2 ⟨aN,by first | omega | (simp only [H1] <;> omega) | (simp only [H2]),e6,e6,Eq.trans (x) (Eq.trans (if_pos y) (Eq.trans (ah F) (Eq.trans (if_pos o) (ah I))))⟩) (by show p < p+1; omega)
 refine jF (dF o) (sk (Ib (Mz rfl (fw (vJ (a *2)) (Ie (e:=C5.wrap ((a:Int) *2)) yk f0) (Az rfl (C6 (bN ?_)))))))
 have aO:=W.pf []
 exact Ir (a *2,g,p) ⟨rfl,rfl,rfl,rfl,trivial⟩ (n.2 ⟨aO,by first | omega | (simp only [H1] <;> omega) | (simp only [H2]),e6,e6,Eq.trans (x) (Eq.trans (if_pos y) (Eq.trans (ah F) (if_neg o)))⟩) (by show p < p+1; omega)
 refine jF (dF y) (Wp.exit (Il ?_))
 have ai:gX b ((D0 (b - 20))+1) 20 t=k:=et (x) (iN y)
 refine Il (IB (IA (res0 rfl) ?_))
 have aP:=aH.pf []
 obtain rfl:=zj hr zq3
 exact⟨rfl,aP,g5⟩
def jr (l0:List aI):(List aI):=
 bnd (lX l0 (l0.length:Int)) λ a=>a
theorem oJ (w D h j k l0 l) (H:Own w D w [row h j k (q3 aI.cells l0) 153 2]) (m:j=l0.length) (s:l0.length *32<=211106232532992) (hr:jr l0=l):
    Calls Tryz.prog 165 #[.slice h j k, .func (.func 166) #[] #[]] w (d9 λ v w'=>v= .tuple #[]/\Own w D w' [row h j k (q3 aI.cells l) 153 2]/\(l.length=l0.length)):=by
 unfold jr at hr
 subst m
 have t:=zr 0 H
 refine cb Tryz.func165 ?_
 refine Ib (Mz rfl (Mz rfl (Kz (vJ l0.length) (Mz rfl ?_))))
 obtain⟨c,a⟩:∃ q,lX l0 (l0.length:Int)=q:=⟨_,rfl⟩
 obtain⟨u,d,o,e,p⟩:=II H
 refine cl Tryz.call191 (qM _ _ h l0.length k l0 (l0.length:Int) c d rfl e6 e6 a) ?_
 rintro _ x ⟨rfl,f,b⟩
 have g:=e _ _ f
 have r:=zr 0 g
 replace b:c.length=l0.length:=b
 refine C6 (IA (res0 rfl) ?_)
 have n:=g.pf []
 obtain rfl:=zj hr zq1
 exact⟨rfl,n,g5⟩
end
theorem BU:∀ (a b:List UInt8),Lib.compareBytes a b < 0↔a < b
  | [], []=>by simp [Lib.compareBytes]
  | [],_::_=>by simp [Lib.compareBytes]
  | _::_, []=>by simp [Lib.compareBytes]
  | x::a,y::b=>by
    unfold Lib.compareBytes
    rw [List.cons_lt_cons_iff]
    by_cases d:x < y
    . simp [d]
    . by_cases c:y < x
      . have:x≠y:=by intro e; rw [e] at c; exact absurd c i8
        simp [d,c,this]
      . have e:x=y:=by
          apply UInt8.le_antisymm
          . exact UInt8.not_lt.1 c
          . exact UInt8.not_lt.1 d
        subst e
        simp [BU a b]
theorem wX {x y:aI}:ng x y=true↔x.bY < y.bY:=by
  rw [<- vg, <- BU]; exact Iff.rfl
theorem zP {x y:aI}:ng x y=false↔y.bY<=x.bY:=by
  rw [<- Bool.not_eq_true,wX]; exact List.not_lt
theorem G8:yg ng where
  DR x:=zP.2 (List.le_refl _)
  tr x y z a b:=wX.2 (List.lt_trans (wX.1 a) (wX.1 b))
  nt x y z a b:=zP.2 (List.le_trans (zP.1 b) (zP.1 a))
theorem AP {P R:List aI} {i:Nat} (h:i < P.length):at_ (P++R) i=at_ P i:=by
  unfold at_; rw [List.getD_eq_getElem?_getD,List.getD_eq_getElem?_getD,List.getElem?_append_left h]
theorem G9 {P R:List aI} {i:Nat} (h:P.length<=i):at_ (P++R) i=at_ R (i - P.length):=by
  unfold at_; rw [List.getD_eq_getElem?_getD,List.getD_eq_getElem?_getD,List.getElem?_append_right h]
theorem FN {Z:List aI} (h:GN ng Z) {i j:Nat} (b:i<=j) (a:j < Z.length):ng (at_ Z j) (at_ Z i)=false:=by
  unfold at_
  rw [List.getD_eq_getElem?_getD,List.getD_eq_getElem?_getD,List.getElem?_eq_getElem a,List.getElem?_eq_getElem e6]
  by_cases e:i=j
  . subst e; exact G8.DR _
  . exact List.pairwise_iff_getElem.1 h i j e6 a e6
theorem Dj {P Z Q:List aI} {i:Nat} (a:P.length<=i) (b:i < P.length+Z.length):at_ (P++(Z++Q)) i=at_ Z (i - P.length):=by
  rw [G9 a,AP e6]
def Bs (B k:Nat) (l:List aI):Prop:=∀ i j,i<=j->j < k->i / B=j / B->ng (at_ l j) (at_ l i)=false
theorem Dl {i a B:Nat} (hB:1<=B) (h:i < a *B):i / B < a:=Nat.div_lt_of_lt_mul (by rw [Nat.mul_comm]; exact h)
theorem Dm {i a B:Nat} (hB:1<=B) (h:a *B<=i):a<=i / B:=(Nat.le_div_iff_mul_le e6).2 h
theorem Bs.step {B a k:Nat} {P Z Q:List aI} (hB:1<=B) (hP:P.length=a *B) (hZ:Z.length<=B) (hk:k<=P.length+Z.length) (h:Bs B P.length P) (hs:GN ng Z):Bs B k (P++(Z++Q)):=λ i j b e d=>by
  by_cases c:j < P.length
  . rw [AP c,AP e6]; exact h i j b c d
  . have hj:=Dm (i:=j) (a:=a) hB e6
    have hi:P.length<=i:=by
      apply Classical.byContradiction
      intro q
      have:=Dl (i:=i) (a:=a) hB e6
      omega
    rw [Dj hi e6,Dj e6 e6]
    exact FN hs e6 e6
theorem K9 {B k:Nat} {P R:List aI} (h:Bs B k (P++R)) (hk:P.length<=k):Bs B P.length P:=λ i j a b c=>by
  have:=h i j a e6 c
  rw [AP b,AP e6] at this
  exact this
section
open Go.RowKit
def iy (l0:List bi) (b:Nat):List Int->Unit ⊕ Int
  | []=>B9 ()
  | a::c=>if a < 0 then C1 (1) else if a >= (l0.length:Int) then C1 (1) else iy l0 b c
def gQ (l0:List bi) (e:List (Ll aQ)):List gF->Nat->Unit ⊕ Int
  | [],a=>B9 ()
  | b::d,a=>if(b.aH.ls.length:Int)=(b.aJ.ls.length:Int) then bnd (List.getD e a default) λ c=>if(b.aH.ls.length:Int)=(c.ls.length:Int) then qU (iy l0 a b.aJ.ls) λ _=>gQ l0 e d (a+1) else C1 (1) else C1 (1)
def kN (l0:List bi) (l1:List gF) (a:List (Ll aQ)):Int:=
 if(a.length:Int)=(l1.length:Int) then lp (gQ l0 a l1 0) λ _=>0 else 1
theorem vM (w D N n0 P l0 L n1 c1 d1 l1 I n2 c2 d2 l r0) (H:Own w D w []) (bg:Ro w D λ w'=>bE w' 6 N n0 (q3 bi.cells l0)) (av:n0=l0.length) (bn:l0.length *80<=211106232532992) (R:s5 bG.abs d1=l1) (O:Ro w D λ w'=>bE w' 3 L n1 (q3 bG.cells d1)) (y:∀ x ∈ d1,Ro w D (λ w'=>bE w' 6 x.aH.A x.aH.ls.length (q3 bi.cells x.aH.ls))/\(x.aH.ls.length<=x.aH.c/\x.aH.ls.length<=9223372036854775807)/\Ro w D (λ w'=>bE w' 1 x.aJ.A x.aJ.ls.length (q3 (eI .i64) x.aJ.ls))/\(x.aJ.ls.length<=x.aJ.c/\x.aJ.ls.length<=9223372036854775807)) (ax:n1=l1.length) (bq:l1.length *56<=211106232532992) (S:s5 bO.abs d2=l) (T:Ro w D λ w'=>bE w' 1 I n2 (q3 (IX (β:=ae)) d2)) (ay:∀ x ∈ d2,Ro w D (λ w'=>bE w' 3 x.A x.ls.length (q3 ae.cells x.ls))/\(x.ls.length<=x.c/\x.ls.length<=9223372036854775807)/\(∀ Q ∈ x.ls,Ro w D (λ w'=>bE w' 2 Q.ak.A Q.ak.ls.length (q3 aI.cells Q.ak.ls))/\(Q.ak.ls.length<=Q.ak.c/\Q.ak.ls.length<=9223372036854775807))) (az:n2=l.length) (bu:l.length *24<=211106232532992) (hr:kN l0 l1 l=r0):
    Calls Tryz.prog 148 #[.slice N n0 P, .slice L n1 c1, .slice I n2 c2] w (d9 λ v w'=>v=vI r0/\Own w D w' []):=by
 unfold kN at hr
 subst av ax az
 have aT:=aB R
 have aU:=aB S
 refine cb Tryz.func148 ?_
 refine sr (An rfl (Ic (sr (Mz rfl (Kz (vJ l.length) (Mz rfl (Kz (vJ l1.length) (fw (.bool (decide (¬ ((l.length:Int)=(l1.length:Int))))) (IG (e:= !(decide ((l.length:Int)=(l1.length:Int)))) yk decide_not.symm) (nt ?_)))))))))
 by_cases n:(l.length:Int)=(l1.length:Int)
 refine jF (dF (Lh n)) (sk (Ic (sr (Mz rfl (Kz (vJ l1.length) (Mn rfl (bo ?_)))))))
 have aA:=H.pk []
 obtain⟨aC,z⟩:=nQ λ (b:Nat) w'=>Own w D w' []/\b<=l1.length/\gQ l0 l l1 0=gQ l0 l (List.drop b l1) b
 refine Wp.loop (λ i:Nat=> [(6,vI 0),(18,vJ i),(17,vJ l1.length),(16, .slice L l1.length c1),(0, .slice N l0.length P),(2, .slice I l.length c2)]) aC (λ i=>l1.length - i) 0 ⟨rfl,rfl,rfl,rfl,rfl,rfl,trivial⟩ (z.2 ⟨aA,e6,rfl⟩) ?_
 rintro b bv U
 obtain⟨B,aV,m⟩:=z.1 U
 refine sr (Kz (.bool (decide ((b:Int) < (l1.length:Int)))) (nt (Ic ?_)))
 by_cases V:(b:Int) < (l1.length:Int)
 obtain⟨a,h⟩:=dN (ls:=d1) (i:=b) bG.len f4 (B.ro O) e9
 have W:=fF R h
 have aW:=(y _ (D3 h)).2.1
 have aX:=(y _ (D3 h)).2.2.2
 have o:=drop_at W
 refine jT (dT V) (sk (Ic (bo (sr (Mz rfl (fw (.pointer (some ⟨ab L,ao L+b *3,none⟩)) (Ij (um) rfl rfl ((B.ro O).addr (i:=b) e6) e6) (fw (.agg (bG.cells a).toArray) (Io rfl (Iy (cs:=(bG.cells a)) Tryz.isAgg172 Tryz.sizeOf172 ((B.ro O).elem bG.len h f4))) ?_)))))))
 refine dV [vI 0, .slice none 0 0, .slice none 0 0] 172 B ?_
 intro C bz aD
 refine Az rfl ?_
 refine dS (bG.cells a) 0 aD Tryz.sizeOf172 ?_
 intro bA aF
 refine nt (Ic (Ic ?_))
 refine vW [] (Iu (Iu (bQ.block (Iu (Iu (bQ.block (Iu IC))))))) aF ?_
 intro bB J
 refine qp C 1 0 rfl (ql 1 rfl 0 Tryz.isAgg39 rfl rfl rfl (qk (vJ a.aH.ls.length) 2 rfl (qp C 2 3 rfl (ql 4 rfl 0 Tryz.isAgg58 rfl rfl rfl (qk (vJ a.aJ.ls.length) 5 rfl (qt (v:= .bool (decide (¬ ((a.aH.ls.length:Int)=(a.aJ.ls.length:Int))))) 6 rfl (λ _ _=>IG (e:= !(decide ((a.aH.ls.length:Int)=(a.aJ.ls.length:Int)))) yk decide_not.symm) (qv 7 rfl rfl ?_)))))))
 by_cases d:(a.aH.ls.length:Int)=(a.aJ.ls.length:Int)
 refine Ip (v:=vP C 1) (rs:= []) 8 rfl rfl rfl (dF (Lh d)) e7 (λ _ _=>yk) (Ip (v:= .slice a.aH.A a.aH.ls.length a.aH.c) (rs:= []) 9 rfl rfl rfl (dF (Lh d)) e7 (λ _ ⟨_,X⟩=>Io rfl (bZ.one Tryz.isAgg39 (jR.of (X.cls (i:=0) rfl) rfl))) (Ip (v:=vJ a.aH.ls.length) (rs:= []) 10 rfl rfl rfl (dF (Lh d)) e7 (λ _ _=>yk) (Ip (v:= .slice I l.length c2) (rs:= []) 11 rfl rfl rfl (dF (Lh d)) e7 (λ _ _=>Iq rfl) (Ip (v:=vJ b) (rs:= []) 12 rfl rfl rfl (dF (Lh d)) e7 (λ _ _=>Iq rfl) ?_))))
 obtain⟨j,E⟩:=jN (ls:=d2) (i:=b) e9
 have s:=fF S E
 have aY:=(ay _ (D3 E)).2.1
 have aZ:r8 (s5 ae.abs j.ls)=j.ls.length:=List.length_map ..
 refine Ip (v:= .pointer (some ⟨ab I,ao I+b *1,none⟩)) (rs:= []) 13 rfl rfl rfl (dF (Lh d)) e7 (λ _ ⟨_,X⟩=>Ij (wV) rfl rfl ((X.ro T).addr (i:=b) e6) e6) (Ip (v:= .slice j.A j.ls.length j.c) (rs:= []) 14 rfl rfl rfl (dF (Lh d)) e7 (λ _ ⟨_,X⟩=>Io rfl (bZ.one Tryz.isAgg40 (((X.ro T).elem rU E f4).at_ (k:=0) rfl))) (Ip (v:=vJ (r8 (s5 ae.abs j.ls))) (rs:= []) 15 rfl rfl rfl (dF (Lh d)) e7 (λ _ _=>Ie (e:=(j.ls.length:Int)) yk j0) (Ip (v:= .bool (decide (¬ ((a.aH.ls.length:Int)=((r8 (s5 ae.abs j.ls):Nat):Int))))) (rs:= []) 16 rfl rfl rfl (dF (Lh d)) e7 (λ _ _=>IG (e:= !(decide ((a.aH.ls.length:Int)=((r8 (s5 ae.abs j.ls):Nat):Int)))) yk decide_not.symm) (qt (v:= .bool (decide (¬ ((a.aH.ls.length:Int)=((r8 (s5 ae.abs j.ls):Nat):Int))))) 17 rfl (λ _ _=>Ih rfl (dF (Lh d)) rfl) (qn (Ig ?_))))))
 by_cases u:(a.aH.ls.length:Int)=((r8 (s5 ae.abs j.ls):Nat):Int)
 refine jF (dF (Lh u)) (sk (sr (Kz (vP C 2) (Lz (.slice a.aJ.A a.aJ.ls.length a.aJ.c) J 0 Tryz.isAgg58 (Kz (vJ a.aJ.ls.length) (Mn rfl (bo ?_)))))))
 have aG:=J.pf []
 obtain⟨aH,F⟩:=nQ λ (f:Nat) w'=>Own w D w' [blk C (bG.cells a) 172]/\f<=a.aJ.ls.length/\iy l0 b a.aJ.ls=iy l0 b (List.drop f a.aJ.ls)
 refine Wp.loop (λ i:Nat=> [(6,vI 0),(44,vJ i),(43,vJ a.aJ.ls.length),(42, .slice a.aJ.A a.aJ.ls.length a.aJ.c),(18,vJ b),(17,vJ l1.length),(16, .slice L l1.length c1),(0, .slice N l0.length P),(2, .slice I l.length c2)]) aH (λ i=>a.aJ.ls.length - i) 0 ⟨rfl,rfl,rfl,rfl,rfl,rfl,rfl,rfl,rfl,trivial⟩ (F.2 ⟨aG,e6,rfl⟩) ?_
 rintro f bC Y
 obtain⟨p,bf,t⟩:=F.1 Y
 refine sr (Kz (.bool (decide ((f:Int) < (a.aJ.ls.length:Int)))) (nt (Ic ?_)))
 by_cases Z:(f:Int) < (a.aJ.ls.length:Int)
 obtain⟨r,M⟩:=dN (ls:=a.aJ.ls) (i:=f) jd f4 (p.ro (y _ (D3 h)).2.2.1) e9
 have G:=drop_at M
 refine jT (dT Z) (sk (Ic (bo (sr (fw (.pointer (some ⟨ab a.aJ.A,ao a.aJ.A+f *1,none⟩)) (Ij (om) rfl rfl ((p.ro (y _ (D3 h)).2.2.1).addr (i:=f) e6) e6) (fw (vI r) (Io rfl (bZ.one Tryz.isAgg3 (((p.ro (y _ (D3 h)).2.2.1).elem jd M f4).at_ (k:=0) rfl))) (Ar rfl (Mz rfl (Kz (.bool (decide (r < 0))) (Mz rfl ?_))))))))))
 by_cases g:r < 0
 refine Sz (dT g) (Sz (dT g) (Sz (dT g) (Sz (dT g) (fw (.bool true) (Iw rfl (dT g) rfl) (nt (jt (sr (An rfl (rt (bR (tR (tR (bR (bR (tR (tR (bR (tR (rs ?_)))))))))))))))))))
 have aJ:=p.pk []
 obtain rfl:_=1:=zj hr (et (ip n) (jm (et (m) (et (congrArg (λ q=>gQ l0 l q b) o) (et (ip d) (et (ah (bJ s)) (et (ip u) (oF (et (t) (et (congrArg (λ q=>iy l0 b q) G) (ip g)))))))))))
 exact⟨rfl,aJ⟩
 refine gw (vI r) (dF g) (Iq rfl) (gw (.slice N l0.length P) (dF g) (Iq rfl) (Gz (vJ l0.length) (dF g) (Gz (.bool (decide (r >= (l0.length:Int)))) (dF g) (fw (.bool (decide (r >= (l0.length:Int)))) (Ih rfl (dF g) rfl) (nt ?_)))))
 by_cases K:r >= (l0.length:Int)
 refine jT (dT K) (sr (An rfl (rt (bR (tR (tR (bR (bR (tR (tR (bR (tR (rs ?_)))))))))))))
 have aK:=p.pk []
 obtain rfl:_=1:=zj hr (et (ip n) (jm (et (m) (et (congrArg (λ q=>gQ l0 l q b) o) (et (ip d) (et (ah (bJ s)) (et (ip u) (oF (et (t) (et (congrArg (λ q=>iy l0 b q) G) (et (iN g) (ip K))))))))))))
 exact⟨rfl,aK⟩
 refine jF (dF K) (IE (bN (Ig (Ib (fw (vJ (f+1)) (Ie (e:=IntKind.i64.wrap ((f:Int)+1)) yk f0) (Mz rfl (WL.nil ?_)))))))
 have aL:=p.pf []
 exact Ir (f+1) ⟨rfl,rfl,rfl,rfl,rfl,rfl,rfl,rfl,rfl,trivial⟩ (F.2 ⟨aL,e6,et (t) (et (congrArg (λ q=>iy l0 b q) G) (et (iN g) (iN K)))⟩) (by show a.aJ.ls.length - (f+1) < a.aJ.ls.length - f; omega)
 refine jF (dF Z) (Wp.exit (Il ?_))
 have aa:iy l0 b a.aJ.ls=B9 ():=et (t) (et (congrArg (λ q=>iy l0 b q) (fB (ls:=a.aJ.ls) (i:=f) e6)) rfl)
 refine Il (IB (bN (Ig (Ib (fw (vJ (b+1)) (Ie (e:=IntKind.i64.wrap ((b:Int)+1)) yk f0) (Mz rfl (WL.nil ?_)))))))
 have aM:=p.pk []
 exact Ir (b+1) ⟨rfl,rfl,rfl,rfl,rfl,rfl,trivial⟩ (z.2 ⟨aM,e6,et (m) (et (congrArg (λ q=>gQ l0 l q b) o) (et (ip d) (et (ah (bJ s)) (et (ip u) (nY aa)))))⟩) (by show l1.length - (b+1) < l1.length - b; omega)
 refine jT (dT u) (sr (An rfl (rt (tR (bR (tR (tR (bR (tR (rs ?_))))))))))
 have aN:=J.pk []
 obtain rfl:_=1:=zj hr (et (ip n) (jm (et (m) (et (congrArg (λ q=>gQ l0 l q b) o) (et (ip d) (et (ah (bJ s)) (iN u)))))))
 exact⟨rfl,aN⟩
 refine Ik (rs:= []) 8 rfl rfl rfl (dT d) e7 (Ik (rs:= []) 9 rfl rfl rfl (dT d) e7 (Ik (rs:= []) 10 rfl rfl rfl (dT d) e7 (Ik (rs:= []) 11 rfl rfl rfl (dT d) e7 (Ik (rs:= []) 12 rfl rfl rfl (dT d) e7 (Ik (rs:= []) 13 rfl rfl rfl (dT d) e7 (Ik (rs:= []) 14 rfl rfl rfl (dT d) e7 (Ik (rs:= []) 15 rfl rfl rfl (dT d) e7 (Ik (rs:= []) 16 rfl rfl rfl (dT d) e7 (qt (v:= .bool true) 17 rfl (λ _ _=>Iw rfl (dT d) rfl) (qn (Ig (jt (sr (An rfl (rt (tR (bR (tR (tR (bR (tR (rs ?_))))))))))))))))))))))
 have aO:=J.pk []
 obtain rfl:_=1:=zj hr (et (ip n) (jm (et (m) (et (congrArg (λ q=>gQ l0 l q b) o) (iN d)))))
 exact⟨rfl,aO⟩
 refine jF (dF V) (Wp.exit (Il ?_))
 have af:gQ l0 l l1 0=B9 ():=et (m) (et (congrArg (λ q=>gQ l0 l q b) (fB (ls:=l1) (i:=b) e6)) rfl)
 refine Il (IB (Ig (sr (An rfl (rt (rs ?_))))))
 have aP:=B.pk []
 obtain rfl:_=0:=zj hr (et (ip n) (nT af))
 exact⟨rfl,aP⟩
 refine jT (dT n) (sr (An rfl (rt (tR (rs ?_)))))
 have aR:=H.pk []
 obtain rfl:=zj hr zq1
 exact⟨rfl,aR⟩
end
end Go.Proofs.YtbkagebjhbphaaaGreat
