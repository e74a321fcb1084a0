/- The layers told, part 2. Conditions: none beyond each law's own. -/
import Derived.Test.YtndamapfnpihpaaGreatJa
namespace Go.Proofs.YtndamapfnpihpaaGreat
set_option maxHeartbeats 8000000
set_option maxRecDepth 100000
set_option linter.unusedVariables false
set_option linter.unusedSimpArgs false
set_option linter.unusedSectionVars false
open IntKind renaming i64->v7
open List renaming drop->r7,flatMap->q0,getD->v1,map->r8,mem_cons->t7,mem_of_getElem?->C1,not_mem_nil->u4,toArray->u3
open Nat renaming le_refl->s1
open Sum renaming inl->v0,inr->v2
open _root_.Go.Proofs.Tryz renaming call28->D3,call29->C7,call62->v6,call65->B6,call67->B7,func67->y0,isAgg136->B9,isAgg146->B8,isAgg149->y3,isAgg3->v5,isAgg32->C4,isAgg34->C0,isAgg35->C5,isAgg37->B5,isAgg41->D0,isAgg44->C6,isAgg68->B3,isAgg9->v3,prog->u2,sizeOf149->y4,sizeOf188->y2,sizeOf37->B4,sizeOf41->D1,sizeOf60->C2,sizeOf68->y6,underlying3->u6,underlying32->D2,underlying37->u9,underlying68->u7,underlying9->u5
open WL renaming nil->v8
open Wp renaming exit->v9,loop->v4
section
open Go.RowKit
theorem sS:Elem u2 33 83 2 24:=mh (z:= .agg #[.string ⟨u3 []⟩, .int .i64 0]) Tryz.underlying33 e9 rfl f5
structure bL where
 aO:List UInt8
 ky:Int
def bL.cells (x:bL):List Value:= [.string ⟨u3 x.aO⟩, .int .i64 x.ky]
instance:Bk bL:=⟨λ x _=>bk x.aO+(bk x.ky+(0))⟩
theorem bL.len:∀ x,(bL.cells x).length=2:=λ _=>rfl
theorem bL.one:∀ x, ∀ u ∈ bL.cells x,u.oneCell'=true:=λ x u hu=>by
 simp only [bL.cells,t7,u4,or_false] at hu
 rcases hu with rfl | rfl <;> rfl
def IX (w:World) (x:bL):Prop:=(x.aO.length<=140737488351232)/\((-9223372036854775808)<=x.ky/\x.ky<=9223372036854775807)
theorem zW (w:World):kR u2 w 83 2 bL.cells (IX w):=
 (mo (sz:=2) Tryz.underlying83 e9 (fB.cons (i:=0) (off:=0) (s:=1) rfl rfl (kL u5 e9) (fB.cons (i:=1) (off:=1) (s:=1) rfl rfl (mW (k:= .i64) (lo:= -9223372036854775808) (hi:=9223372036854775807) u6 e9 f5 f5) fB.nil))).map (λ p=>⟨p.1,p.2.1⟩) bL.len (λ _=>rfl) (λ _ h=>⟨h.1,h.2.1⟩) λ _=>s1 _
instance:Inhabited bL:=⟨⟨default,default⟩⟩
theorem kg:Elem u2 34 60 2 32:=mh (z:= .agg #[.int .u64 0, .slice none 0 0]) Tryz.underlying34 e9 rfl f5
theorem nD:Elem u2 44 68 6 80:=mh (z:= .agg #[.int .i64 0, .string ⟨u3 []⟩, .string ⟨u3 []⟩, .string ⟨u3 []⟩, .string ⟨u3 []⟩, .int .i64 0]) Tryz.underlying44 e9 rfl f5
structure aY where
 az:Int
 aX:List UInt8
 aN:List UInt8
 aO:List UInt8
 aS:List UInt8
 bO:Int
def aY.cells (x:aY):List Value:= [.int .i64 x.az, .string ⟨u3 x.aX⟩, .string ⟨u3 x.aN⟩, .string ⟨u3 x.aO⟩, .string ⟨u3 x.aS⟩, .int .i64 x.bO]
instance:Bk aY:=⟨λ x _=>bk x.az+(bk x.aX+(bk x.aN+(bk x.aO+(bk x.aS+(bk x.bO+(0))))))⟩
theorem aY.len:∀ x,(aY.cells x).length=6:=λ _=>rfl
theorem aY.one:∀ x, ∀ u ∈ aY.cells x,u.oneCell'=true:=λ x u hu=>by
 simp only [aY.cells,t7,u4,or_false] at hu
 rcases hu with rfl | rfl | rfl | rfl | rfl | rfl <;> rfl
def IY (w:World) (x:aY):Prop:=((-9223372036854775808)<=x.az/\x.az<=9223372036854775807)/\(x.aX.length<=140737488351232)/\(x.aN.length<=140737488351232)/\(x.aO.length<=140737488351232)/\(x.aS.length<=140737488351232)/\((-9223372036854775808)<=x.bO/\x.bO<=9223372036854775807)
theorem CF (w:World):kR u2 w 68 6 aY.cells (IY w):=
 (mo (sz:=6) u7 e9 (fB.cons (i:=0) (off:=0) (s:=1) rfl rfl (mW (k:= .i64) (lo:= -9223372036854775808) (hi:=9223372036854775807) u6 e9 f5 f5) (fB.cons (i:=1) (off:=1) (s:=1) rfl rfl (kL u5 e9) (fB.cons (i:=2) (off:=2) (s:=1) rfl rfl (kL u5 e9) (fB.cons (i:=3) (off:=3) (s:=1) rfl rfl (kL u5 e9) (fB.cons (i:=4) (off:=4) (s:=1) rfl rfl (kL u5 e9) (fB.cons (i:=5) (off:=5) (s:=1) rfl rfl (mW (k:= .i64) (lo:= -9223372036854775808) (hi:=9223372036854775807) u6 e9 f5 f5) fB.nil))))))).map (λ p=>⟨p.1,p.2.1,p.2.2.1,p.2.2.2.1,p.2.2.2.2.1,p.2.2.2.2.2.1⟩) aY.len (λ _=>rfl) (λ _ h=>⟨h.1,h.2.1,h.2.2.1,h.2.2.2.1,h.2.2.2.2.1,h.2.2.2.2.2.1⟩) λ _=>s1 _
instance:Inhabited aY:=⟨⟨default,default,default,default,default,default⟩⟩
structure bg where
 aV:Nat
 aJ:Sv aY
def bg.cells (x:bg):List Value:= [.int .u64 ((x.aV:Nat):Int), .slice x.aJ.A x.aJ.ls.length x.aJ.c]
instance:Bk bg:=⟨λ x _=>bk x.aV+(bk x.aJ+(0))⟩
theorem bg.len:∀ x,(bg.cells x).length=2:=λ _=>rfl
theorem bg.one:∀ x, ∀ u ∈ bg.cells x,u.oneCell'=true:=λ x u hu=>by
 simp only [bg.cells,t7,u4,or_false] at hu
 rcases hu with rfl | rfl <;> rfl
def JK (w:World) (x:bg):Prop:=(x.aV<=18446744073709551615)/\(mZ w 6 80 aY.cells (IY w) x.aJ)
instance:Inhabited bg:=⟨⟨default,default⟩⟩
structure dD where
 aV:Nat
 aJ:Ll aY
instance:Inhabited dD:=⟨⟨default,default⟩⟩
def bg.abs (x:bg):dD:=⟨x.aV,⟨x.aJ.ls⟩⟩
def He (x:bg):List HP:= [row x.aJ.A x.aJ.ls.length x.aJ.c (q0 aY.cells x.aJ.ls) 68 6]
theorem iC:Elem u2 35 32 1 8:=mh (z:= .int .u64 0) Tryz.underlying35 e9 rfl f5
structure aj where
 aO:List UInt8
 aS:List UInt8
def aj.cells (x:aj):List Value:= [.string ⟨u3 x.aO⟩, .string ⟨u3 x.aS⟩]
instance:Bk aj:=⟨λ x _=>bk x.aO+(bk x.aS+(0))⟩
theorem aj.len:∀ x,(aj.cells x).length=2:=λ _=>rfl
theorem aj.one:∀ x, ∀ u ∈ aj.cells x,u.oneCell'=true:=λ x u hu=>by
 simp only [aj.cells,t7,u4,or_false] at hu
 rcases hu with rfl | rfl <;> rfl
def Iw (w:World) (x:aj):Prop:=(x.aO.length<=140737488351232)/\(x.aS.length<=140737488351232)
theorem zX (w:World):kR u2 w 37 2 aj.cells (Iw w):=
 (mo (sz:=2) u9 e9 (fB.cons (i:=0) (off:=0) (s:=1) rfl rfl (kL u5 e9) (fB.cons (i:=1) (off:=1) (s:=1) rfl rfl (kL u5 e9) fB.nil))).map (λ p=>⟨p.1,p.2.1⟩) aj.len (λ _=>rfl) (λ _ h=>⟨h.1,h.2.1⟩) λ _=>s1 _
instance:Inhabited aj:=⟨⟨default,default⟩⟩
structure iJ where
 aG:Nat
 bu:Nat
 dA:Nat
 aB:aj
def iJ.cells (x:iJ):List Value:= [.int .u64 ((x.aG:Nat):Int), .int .u64 ((x.bu:Nat):Int), .int .u64 ((x.dA:Nat):Int), .string ⟨u3 x.aB.aO⟩, .string ⟨u3 x.aB.aS⟩]
instance:Bk iJ:=⟨λ x _=>bk x.aG+(bk x.bu+(bk x.dA+(bk x.aB+(0))))⟩
theorem iJ.len:∀ x,(iJ.cells x).length=5:=λ _=>rfl
theorem iJ.one:∀ x, ∀ u ∈ iJ.cells x,u.oneCell'=true:=λ x u hu=>by
 simp only [iJ.cells,t7,u4,or_false] at hu
 rcases hu with rfl | rfl | rfl | rfl | rfl <;> rfl
def JB (w:World) (x:iJ):Prop:=(x.aG<=18446744073709551615)/\(x.bu<=18446744073709551615)/\(x.dA<=18446744073709551615)/\(Iw w x.aB)
instance:Inhabited iJ:=⟨⟨default,default,default,default⟩⟩
structure mq where
 bC:Int
 aT:Nat
 bv:Nat
 aL:Nat
 aG:Nat
 ah:Sv bL
 ak:Sv bg
 af:Sv Nat
 bi:Nat
 aM:Nat
 aH:aj
 aF:iJ
def mq.cells (x:mq):List Value:= [.int .i64 x.bC, .int .u64 ((x.aT:Nat):Int), .int .u64 ((x.bv:Nat):Int), .int .u64 ((x.aL:Nat):Int), .int .u64 ((x.aG:Nat):Int), .slice x.ah.A x.ah.ls.length x.ah.c, .slice x.ak.A x.ak.ls.length x.ak.c, .slice x.af.A x.af.ls.length x.af.c, .int .u64 ((x.bi:Nat):Int), .int .u64 ((x.aM:Nat):Int), .string ⟨u3 x.aH.aO⟩, .string ⟨u3 x.aH.aS⟩, .int .u64 ((x.aF.aG:Nat):Int), .int .u64 ((x.aF.bu:Nat):Int), .int .u64 ((x.aF.dA:Nat):Int), .string ⟨u3 x.aF.aB.aO⟩, .string ⟨u3 x.aF.aB.aS⟩]
instance:Bk mq:=⟨λ x _=>bk x.bC+(bk x.aT+(bk x.bv+(bk x.aL+(bk x.aG+(bk x.ah+(bk x.ak+(bk x.af+(bk x.bi+(bk x.aM+(bk x.aH+(bk x.aF+(0))))))))))))⟩
theorem mq.len:∀ x,(mq.cells x).length=17:=λ _=>rfl
theorem mq.one:∀ x, ∀ u ∈ mq.cells x,u.oneCell'=true:=λ x u hu=>by
 simp only [mq.cells,t7,u4,or_false] at hu
 rcases hu with rfl | rfl | rfl | rfl | rfl | rfl | rfl | rfl | rfl | rfl | rfl | rfl | rfl | rfl | rfl | rfl | rfl <;> rfl
def J8 (w:World) (x:mq):Prop:=((-9223372036854775808)<=x.bC/\x.bC<=9223372036854775807)/\(x.aT<=18446744073709551615)/\(x.bv<=18446744073709551615)/\(x.aL<=18446744073709551615)/\(x.aG<=18446744073709551615)/\(mZ w 2 24 bL.cells (IX w) x.ah)/\(mZ w 2 32 bg.cells (JK w) x.ak)/\(mZ w 1 8 (eN .u64) (λ n=>n<=18446744073709551615) x.af)/\(x.bi<=18446744073709551615)/\(x.aM<=18446744073709551615)/\(Iw w x.aH)/\(JB w x.aF)
instance:Inhabited mq:=⟨⟨default,default,default,default,default,default,default,default,default,default,default,default⟩⟩
structure bA where
 bC:Int
 aT:Nat
 bv:Nat
 aL:Nat
 aG:Nat
 ah:Ll bL
 ak:Ll dD
 af:Ll Nat
 bi:Nat
 aM:Nat
 aH:aj
 aF:iJ
instance:Inhabited bA:=⟨⟨default,default,default,default,default,default,default,default,default,default,default,default⟩⟩
def mq.abs (x:mq):bA:=⟨x.bC,x.aT,x.bv,x.aL,x.aG,⟨x.ah.ls⟩,⟨r8 bg.abs x.ak.ls⟩,⟨x.af.ls⟩,x.bi,x.aM,x.aH,x.aF⟩
def JX (x:mq):List HP:= [row x.ah.A x.ah.ls.length x.ah.c (q0 bL.cells x.ah.ls) 83 2,row x.ak.A x.ak.ls.length x.ak.c (q0 bg.cells x.ak.ls) 60 2,row x.af.A x.af.ls.length x.af.c (q0 (eN .u64) x.af.ls) 32 1,sepL (q0 He x.ak.ls)]
abbrev gU (n:Int) (o:Nat) (p:Nat) (q:Nat) (r:Nat) (s:Option Addr) (a b:Nat) (t:Option Addr) (c d:Nat) (u:Option Addr) (e f:Nat) (v:Nat) (w:Nat) (g:List UInt8) (h:List UInt8) (i:Nat) (j:Nat) (k:Nat) (l:List UInt8) (m:List UInt8):List Value:= [.int .i64 n, .int .u64 ((o:Nat):Int), .int .u64 ((p:Nat):Int), .int .u64 ((q:Nat):Int), .int .u64 ((r:Nat):Int), .slice s a b, .slice t c d, .slice u e f, .int .u64 ((v:Nat):Int), .int .u64 ((w:Nat):Int), .string ⟨u3 g⟩, .string ⟨u3 h⟩, .int .u64 ((i:Nat):Int), .int .u64 ((j:Nat):Int), .int .u64 ((k:Nat):Int), .string ⟨u3 l⟩, .string ⟨u3 m⟩]
abbrev iU (x:bA) (a:Option Addr) (b:Nat) (c:Option Addr) (d:Nat) (e:Option Addr) (f:Nat):List Value:= [.int .i64 x.bC, .int .u64 ((x.aT:Nat):Int), .int .u64 ((x.bv:Nat):Int), .int .u64 ((x.aL:Nat):Int), .int .u64 ((x.aG:Nat):Int), .slice a x.ah.ls.length b, .slice c x.ak.ls.length d, .slice e x.af.ls.length f, .int .u64 ((x.bi:Nat):Int), .int .u64 ((x.aM:Nat):Int), .string ⟨u3 x.aH.aO⟩, .string ⟨u3 x.aH.aS⟩, .int .u64 ((x.aF.aG:Nat):Int), .int .u64 ((x.aF.bu:Nat):Int), .int .u64 ((x.aF.dA:Nat):Int), .string ⟨u3 x.aF.aB.aO⟩, .string ⟨u3 x.aF.aB.aS⟩]
def mD (a:Int) (b:Int):Bool:=
 if a >= 1 then decide (a<=b) else false
theorem qA (w D b c f) (H:Own w D w []) (hr:mD b c=f):
    Calls u2 29 #[vI b,vI c] w (dG λ v w'=>v= .bool f/\Own w D w' []):=by
 unfold mD at hr
 refine cb Tryz.func29 ?_
 refine sr (Ar rfl (Mz rfl (Kz (.bool (decide (b >= 1))) (Mz rfl ?_))))
 by_cases a:b >= 1
 refine gw (vI b) (dT a) (Gv rfl) (gw (vI c) (dT a) (Gv rfl) (Gz (.bool (decide (b<=c))) (dT a) (fw (.bool (decide (b<=c))) (Gu rfl (dT a) rfl) (An rfl (rt (rs ?_))))))
 have d:=H.pk []
 obtain rfl:=zj hr zq1
 exact⟨rfl,d⟩
 refine Sz (dF a) (Sz (dF a) (Sz (dF a) (fw (.bool false) (Gm rfl (dF a) rfl) (An rfl (rt (rs ?_))))))
 have e:=H.pk []
 obtain rfl:=zj hr zq1
 exact⟨rfl,e⟩
def rV (a:Int):Bool:=
 if a >= 1 then decide (a<=4) else false
theorem xk (w D b e) (H:Own w D w []) (hr:rV b=e):
    Calls u2 61 #[vI b] w (dG λ v w'=>v= .bool e/\Own w D w' []):=by
 unfold rV at hr
 refine cb Tryz.func61 ?_
 refine sr (Ar rfl (Mz rfl (Kz (.bool (decide (b >= 1))) (Mz rfl ?_))))
 by_cases a:b >= 1
 refine gw (vI b) (dT a) (Gv rfl) (Gz (.bool (decide (b<=4))) (dT a) (fw (.bool (decide (b<=4))) (Gu rfl (dT a) rfl) (An rfl (rt (rs ?_)))))
 have c:=H.pk []
 obtain rfl:=zj hr zq1
 exact⟨rfl,c⟩
 refine Sz (dF a) (Sz (dF a) (fw (.bool false) (Gm rfl (dF a) rfl) (An rfl (rt (rs ?_)))))
 have d:=H.pk []
 obtain rfl:=zj hr zq1
 exact⟨rfl,d⟩
def dV (a:List UInt8):Int:=
 if(a.length:Int) < 1 then 20 else if(a.length:Int) > 12 then 20 else 0
theorem jB (w D b d) (H:Own w D w []) (hr:dV b=d):
    Calls u2 62 #[.string ⟨u3 b⟩] w (dG λ v w'=>v=vI d/\Own w D w' []/\(¬ (d=0)\/(1<=b.length/\b.length<=12))/\(b.length < 1\/b.length > 12\/d=0)):=by
 unfold dV at hr
 refine cb Tryz.func62 ?_
 refine sr (An rfl (Gp (sr (Mz rfl (Kz (vJ b.length) (Kz (.bool (decide ((b.length:Int) < 1))) (Mz rfl ?_)))))))
 by_cases a:(b.length:Int) < 1
 refine Sz (dT a) (Sz (dT a) (Sz (dT a) (fw (.bool true) (Gu rfl (dT a) rfl) (nt (jt (sr (An rfl (rt (tR (rs ?_))))))))))
 have e:=H.pk []
 obtain rfl:=zj hr zq1
 exact⟨rfl,e,e8,e8⟩
 refine gw (.string ⟨u3 b⟩) (dF a) (Gv rfl) (Gz (vJ b.length) (dF a) (Gz (.bool (decide ((b.length:Int) > 12))) (dF a) (fw (.bool (decide ((b.length:Int) > 12))) (Gm rfl (dF a) rfl) (nt ?_))))
 by_cases c:(b.length:Int) > 12
 refine jT (dT c) (sr (An rfl (rt (tR (rs ?_)))))
 have f:=H.pk []
 obtain rfl:=zj hr zq2
 exact⟨rfl,f,e8,e8⟩
 refine jF (dF c) (sk (sr (An rfl (rt (rs ?_)))))
 have g:=H.pk []
 obtain rfl:=zj hr zq2
 exact⟨rfl,g,e8,e8⟩
def iW (g:List bL):List bL->Nat->Unit ⊕ Int
  | [],a=>v0 ()
  | b::c,a=>bnd (rV b.ky) λ d=>if d=true then if(a:Int) > 0 then bnd (dV b.aO) λ e=>if e=0 then bnd (v1 g (a - 1) default) λ f=>if b.aO<=f.aO then v2 (170) else iW g c (a+1) else v2 (170) else iW g c (a+1) else v2 (170)
def ng (a:List bL):Int:=
 if(a.length:Int) < 1 then 170 else if(a.length:Int) > 6 then 170 else bnd (v1 a 0 default) λ b=>if b.aO≠[] then 170 else lp (iW a a 0) λ _=>0
theorem qZ (w D j X I d Y) (H:Own w D w []) (l:Ro w D λ w'=>bM w' 2 j X (q0 bL.cells d)) (Z:X=d.length) (aF:d.length<=9223372036854775807) (hr:ng d=Y):
    Calls u2 30 #[.slice j X I] w (dG λ v w'=>v=vI Y/\Own w D w' []/\(¬ (Y=0)\/(1<=d.length/\d.length<=6))):=by
 unfold ng at hr
 subst Z
 refine cb Tryz.func30 ?_
 refine sr (An rfl (Gp (sr (Mz rfl (Kz (vJ d.length) (Kz (.bool (decide ((d.length:Int) < 1))) (Mz rfl ?_)))))))
 by_cases h:(d.length:Int) < 1
 refine Sz (dT h) (Sz (dT h) (Sz (dT h) (fw (.bool true) (Gu rfl (dT h) rfl) (Mz rfl (Sz rfl (Sz rfl (Sz rfl (Sz rfl (Sz rfl (fw (.bool true) (Gu rfl rfl rfl) (nt (jt (sr (An rfl (rt (tR (rs ?_)))))))))))))))))
 have aa:=H.pk []
 obtain rfl:=zj hr zq1
 exact⟨rfl,aa,e8⟩
 refine gw (.slice j d.length I) (dF h) (Gv rfl) (Gz (vJ d.length) (dF h) (Gz (.bool (decide ((d.length:Int) > 6))) (dF h) (fw (.bool (decide ((d.length:Int) > 6))) (Gm rfl (dF h) rfl) (Mz rfl ?_))))
 by_cases f:(d.length:Int) > 6
 refine Sz (dT f) (Sz (dT f) (Sz (dT f) (Sz (dT f) (Sz (dT f) (fw (.bool true) (Gu rfl (dT f) rfl) (nt (jt (sr (An rfl (rt (tR (rs ?_))))))))))))
 have af:=H.pk []
 obtain rfl:=zj hr zq2
 exact⟨rfl,af,e8⟩
 refine gw (.slice j d.length I) (dF f) (Gv rfl) ?_
 obtain⟨E,m⟩:=dI (ls:=d) (i:=0) bL.len f5 (H.ro l) f2
 refine gw (.pointer (some ⟨ab j,ao j+0 *2,none⟩)) (dF f) (GI (sS) rfl rfl ((H.ro l).addr (i:=0) e8) e8) (Gz (.pointer (some ⟨ab j,ao j+0 *2,none⟩)) (dF f) (gw (.string ⟨u3 E.aO⟩) (dF f) (GH rfl (bS.one v3 (((H.ro l).elem bL.len m f5).at_ (k:=0) rfl))) (gw (.bool (decide (E.aO≠[]))) (dF f) (Hr rfl rfl) (fw (.bool (decide (E.aO≠[]))) (Gm rfl (dF f) rfl) (nt ?_)))))
 by_cases s:E.aO≠[]
 refine jT (dT s) (sr (An rfl (rt (tR (rs ?_)))))
 have ag:=H.pk []
 obtain rfl:=zj hr zq4
 exact⟨rfl,ag,e8⟩
 refine jF (dF s) (sk (Gp (sr (Mz rfl (Kz (vJ d.length) (Mn rfl (bo ?_)))))))
 have ah:=H.pk []
 obtain⟨ai,x⟩:=mP λ (a:Nat) w'=>Own w D w' []/\a<=d.length/\iW d d 0=iW d (r7 a d) a
 refine v4 (λ i:Nat=> [(2,vI 0),(21,vJ i),(20,vJ d.length),(0, .slice j d.length I)]) ai (λ i=>d.length - i) 0 ⟨rfl,rfl,rfl,rfl,trivial⟩ (x.2 ⟨ah,e8,rfl⟩) ?_
 rintro a aG M
 show Wp _ _ _ [(2,vI 0),(21,vJ a),(20,vJ d.length),(0, .slice j d.length I)] _ _
 obtain⟨A,az,n⟩:=x.1 M
 refine sr (Kz (.bool (decide ((a:Int) < (d.length:Int)))) (nt (Gp ?_)))
 by_cases N:(a:Int) < (d.length:Int)
 obtain⟨g,y⟩:=dI (ls:=d) (i:=a) bL.len f5 (A.ro l) f2
 have p:=drop_at y
 refine jT (dT N) (sk (Gp (bo (sr (Mz rfl (An rfl (Gp (sr (Mz rfl (Mz rfl (fw (.pointer (some ⟨ab j,ao j+a *2,none⟩)) (GI (sS) rfl rfl ((A.ro l).addr (i:=a) e8) e8) (Kz (.pointer (some ⟨ab j,ao j+a *2+1,none⟩)) (fw (vI g.ky) (GH rfl (bS.one v5 (((A.ro l).elem bL.len y f5).at_ (k:=1) rfl))) ?_)))))))))))))
 obtain⟨L,o⟩:∃ q,rV g.ky=q:=⟨_,rfl⟩
 obtain⟨aH,O,aA,P,aB⟩:=Gr A
 refine cl Tryz.call61 (xk _ _ g.ky L O o) ?_
 rintro _ aI ⟨rfl,Q⟩
 have R:=P _ _ Q
 refine Kz (.bool (!L)) (nt ?_)
 rcases Kq (L) with r | r
 refine jF (cn r) (sk (Gp ?_))
 refine Bq [] (GD (bH.block (GD (GD (bH.block (GD GQ)))))) R ?_
 intro aJ S
 refine qv 0 rfl rfl (qk (.bool (decide ((a:Int) > 0))) 1 rfl (qv 2 rfl rfl ?_))
 by_cases c:(a:Int) > 0
 refine GG (v:= .slice j d.length I) (rs:= []) 3 rfl rfl rfl (dT c) e9 (λ _ _=>Gv rfl) (GG (v:=vJ a) (rs:= []) 4 rfl rfl rfl (dT c) e9 (λ _ _=>Gv rfl) (GG (v:= .pointer (some ⟨ab j,ao j+a *2,none⟩)) (rs:= []) 5 rfl rfl rfl (dT c) e9 (λ _ ⟨_,B⟩=>GI (sS) rfl rfl ((B.ro l).addr (i:=a) e8) e8) (GG (v:= .pointer (some ⟨ab j,ao j+a *2,none⟩)) (rs:= []) 6 rfl rfl rfl (dT c) e9 (λ _ _=>yk) (GG (v:= .string ⟨u3 g.aO⟩) (rs:= []) 7 rfl rfl rfl (dT c) e9 (λ _ ⟨_,B⟩=>GH rfl (bS.one v3 (((B.ro l).elem bL.len y f5).at_ (k:=0) rfl))) ?_))))
 obtain⟨t,z⟩:∃ q,dV g.aO=q:=⟨_,rfl⟩
 obtain⟨aK,T,aC,U,aD⟩:=Gr S
 refine H5 8 rfl rfl rfl (dT c) e9 (GV v6 rfl (jB _ _ g.aO t T z) ?_)
 rintro _ aL ⟨rfl,V,J,K⟩
 have F:=U _ _ V
 replace J: ¬ (t=0)\/(1<=g.aO.length/\g.aO.length<=12):=J
 replace K:g.aO.length < 1\/g.aO.length > 12\/t=0:=K
 refine⟨.inr ⟨_,F⟩, ?_⟩
 refine GG (v:= .bool (decide (¬ (t=0)))) (rs:= []) 9 rfl rfl rfl (dT c) e9 (λ _ _=>GN (e:= !(decide (t=0))) yk decide_not.symm) (GG (v:= .bool (decide (¬ (t=0)))) (rs:= []) 10 rfl rfl rfl (dT c) e9 (λ _ _=>Gv rfl) ?_)
 by_cases b:t=0
 refine GG (v:= .slice j d.length I) (rs:= []) 11 rfl rfl rfl (dF (Ko b)) e9 (λ _ _=>Gv rfl) (GG (v:=vJ a) (rs:= []) 12 rfl rfl rfl (dF (Ko b)) e9 (λ _ _=>Gv rfl) (GG (v:= .pointer (some ⟨ab j,ao j+a *2,none⟩)) (rs:= []) 13 rfl rfl rfl (dF (Ko b)) e9 (λ _ ⟨_,B⟩=>GI (sS) rfl rfl ((B.ro l).addr (i:=a) e8) e8) (GG (v:= .pointer (some ⟨ab j,ao j+a *2,none⟩)) (rs:= []) 14 rfl rfl rfl (dF (Ko b)) e9 (λ _ _=>yk) (GG (v:= .string ⟨u3 g.aO⟩) (rs:= []) 15 rfl rfl rfl (dF (Ko b)) e9 (λ _ ⟨_,B⟩=>GH rfl (bS.one v3 (((B.ro l).elem bL.len y f5).at_ (k:=0) rfl))) (GG (v:= .slice j d.length I) (rs:= []) 16 rfl rfl rfl (dF (Ko b)) e9 (λ _ _=>Gv rfl) (GG (v:=vJ a) (rs:= []) 17 rfl rfl rfl (dF (Ko b)) e9 (λ _ _=>Gv rfl) (GG (v:=vJ (a - 1)) (rs:= []) 18 rfl rfl rfl (dF (Ko b)) e9 (λ _ _=>Gw (e:=v7.wrap ((a:Int) - 1)) yk f1) ?_)))))))
 obtain⟨u,C⟩:=mK (ls:=d) (i:=a - 1) f2
 refine GG (v:= .pointer (some ⟨ab j,ao j+(a - 1) *2,none⟩)) (rs:= []) 19 rfl rfl rfl (dF (Ko b)) e9 (λ _ ⟨_,B⟩=>GI (sS) rfl rfl ((B.ro l).addr (i:=a - 1) e8) e8) (GG (v:= .pointer (some ⟨ab j,ao j+(a - 1) *2,none⟩)) (rs:= []) 20 rfl rfl rfl (dF (Ko b)) e9 (λ _ _=>yk) (GG (v:= .string ⟨u3 u.aO⟩) (rs:= []) 21 rfl rfl rfl (dF (Ko b)) e9 (λ _ ⟨_,B⟩=>GH rfl (bS.one v3 (((B.ro l).elem bL.len C f5).at_ (k:=0) rfl))) (GG (v:= .bool (decide (g.aO<=u.aO))) (rs:= []) 22 rfl rfl rfl (dF (Ko b)) e9 (λ _ _=>GN (e:=Op.bytesLess g.aO u.aO || decide (g.aO=u.aO)) (IJ rfl rfl) (zB _ _)) (GG (v:= .bool (decide (g.aO<=u.aO))) (rs:= []) 23 rfl rfl rfl (dT c) e9 (λ _ _=>Gm rfl (dF (Ko b)) rfl) (qt (v:= .bool (decide (g.aO<=u.aO))) 24 rfl (λ _ _=>Gu rfl (dT c) rfl) (qn (Gs ?_)))))))
 by_cases G:g.aO<=u.aO
 refine jT (dT G) (sr (An rfl (rt (bR (tR (tR (bR (tR (rs ?_)))))))))
 have aj:=F.pk []
 obtain rfl:_=170:=zj hr (et (iN h) (et (iN f) (et (ae (bz m)) (et (iN s) (iG (et (n) (et (congrArg (λ q=>iW d q a) p) (et (ae o) (et (ip r) (et (ip c) (et (ae z) (et (ip b) (et (ae (bz C)) (ip G))))))))))))))
 exact⟨rfl,aj,e8⟩
 refine jF (dF G) (G7 (bN (Gs (Gq (fw (vJ (a+1)) (Gw (e:=v7.wrap ((a:Int)+1)) yk f1) (Mz rfl (v8 ?_)))))))
 have ak:=F.pk []
 exact GL (a+1) ⟨rfl,rfl,rfl,rfl,trivial⟩ (x.2 ⟨ak,e8,et (n) (et (congrArg (λ q=>iW d q a) p) (et (ae o) (et (ip r) (et (ip c) (et (ae z) (et (ip b) (et (ae (bz C)) (iN G))))))))⟩) (by show d.length - (a+1) < d.length - a; omega)
 refine Gy (rs:= []) 11 rfl rfl rfl (dT b) e9 (Gy (rs:= []) 12 rfl rfl rfl (dT b) e9 (Gy (rs:= []) 13 rfl rfl rfl (dT b) e9 (Gy (rs:= []) 14 rfl rfl rfl (dT b) e9 (Gy (rs:= []) 15 rfl rfl rfl (dT b) e9 (Gy (rs:= []) 16 rfl rfl rfl (dT b) e9 (Gy (rs:= []) 17 rfl rfl rfl (dT b) e9 (Gy (rs:= []) 18 rfl rfl rfl (dT b) e9 (Gy (rs:= []) 19 rfl rfl rfl (dT b) e9 (Gy (rs:= []) 20 rfl rfl rfl (dT b) e9 (Gy (rs:= []) 21 rfl rfl rfl (dT b) e9 (Gy (rs:= []) 22 rfl rfl rfl (dT b) e9 (GG (v:= .bool true) (rs:= []) 23 rfl rfl rfl (dT c) e9 (λ _ _=>Gu rfl (dT b) rfl) (qt (v:= .bool true) 24 rfl (λ _ _=>Gu rfl (dT c) rfl) (qn (Gs (jt (sr (An rfl (rt (bR (tR (tR (bR (tR (rs ?_)))))))))))))))))))))))))
 have au:=F.pk []
 obtain rfl:_=170:=zj hr (et (iN h) (et (iN f) (et (ae (bz m)) (et (iN s) (iG (et (n) (et (congrArg (λ q=>iW d q a) p) (et (ae o) (et (ip r) (et (ip c) (et (ae z) (iN b))))))))))))
 exact⟨rfl,au,e8⟩
 refine Gy (rs:= []) 3 rfl rfl rfl (dF c) e9 (Gy (rs:= []) 4 rfl rfl rfl (dF c) e9 (Gy (rs:= []) 5 rfl rfl rfl (dF c) e9 (Gy (rs:= []) 6 rfl rfl rfl (dF c) e9 (Gy (rs:= []) 7 rfl rfl rfl (dF c) e9 (Gy (rs:= []) 8 rfl rfl rfl (dF c) e9 (Gy (rs:= []) 9 rfl rfl rfl (dF c) e9 (Gy (rs:= []) 10 rfl rfl rfl (dF c) e9 (HZ (rs:= []) 11 rfl rfl rfl e9 (HZ (rs:= []) 12 rfl rfl rfl e9 (HZ (rs:= []) 13 rfl rfl rfl e9 (HZ (rs:= []) 14 rfl rfl rfl e9 (HZ (rs:= []) 15 rfl rfl rfl e9 (HZ (rs:= []) 16 rfl rfl rfl e9 (HZ (rs:= []) 17 rfl rfl rfl e9 (HZ (rs:= []) 18 rfl rfl rfl e9 (HZ (rs:= []) 19 rfl rfl rfl e9 (HZ (rs:= []) 20 rfl rfl rfl e9 (HZ (rs:= []) 21 rfl rfl rfl e9 (HZ (rs:= []) 22 rfl rfl rfl e9 (Gy (rs:= []) 23 rfl rfl rfl (dF c) e9 (qt (v:= .bool false) 24 rfl (λ _ _=>Gm rfl (dF c) rfl) (qn (Gs (jf (G7 (bN (Gs (Gq (fw (vJ (a+1)) (Gw (e:=v7.wrap ((a:Int)+1)) yk f1) (Mz rfl (v8 ?_)))))))))))))))))))))))))))))))
 have av:=S.pk []
 exact GL (a+1) ⟨rfl,rfl,rfl,rfl,trivial⟩ (x.2 ⟨av,e8,et (n) (et (congrArg (λ q=>iW d q a) p) (et (ae o) (et (ip r) (iN c))))⟩) (by show d.length - (a+1) < d.length - a; omega)
 refine jT (cn r) (sr (An rfl (rt (tR (bR (tR (tR (bR (tR (rs ?_))))))))))
 have ax:=R.pk []
 obtain rfl:_=170:=zj hr (et (iN h) (et (iN f) (et (ae (bz m)) (et (iN s) (iG (et (n) (et (congrArg (λ q=>iW d q a) p) (et (ae o) (dY r)))))))))
 exact⟨rfl,ax,e8⟩
 refine jF (dF N) (v9 (GK ?_))
 have W:iW d d 0=v0 ():=et (n) (et (congrArg (λ q=>iW d q a) (eP (ls:=d) (i:=a) e8)) rfl)
 refine GK (GR (Gs (sr (An rfl (rt (rs ?_))))))
 have ay:=A.pk []
 obtain rfl:_=0:=zj hr (et (iN h) (et (iN f) (et (ae (bz m)) (et (iN s) (kZ W)))))
 exact⟨rfl,ay,e8⟩
theorem nE (w D j) (H:Own w D w []) (c:j=1):
    Calls u2 67 #[vI j] w (dG λ v w'=>v= .tuple #[.agg #[.bool false, .func (.func 99) #[] #[], .func (.func 100) #[] #[], .func (.func 101) #[] #[], .func (.func 102) #[] #[]], .bool true]/\Own w D w' []):=by
 subst c
 refine cb y0 ?_
 refine sr ?_
 refine bW [.bool false, .nilFunc, .nilFunc, .nilFunc, .nilFunc] 149 H ?_
 intro l n d
 refine Ar rfl (Kz (.agg #[.bool false, .func (.func 99) #[] #[], .func (.func 100) #[] #[], .func (.func 101) #[] #[], .func (.func 102) #[] #[]]) (Kz (.agg #[.bool true, .func (.func 103) #[] #[], .func (.func 104) #[] #[], .func (.func 101) #[] #[], .func (.func 105) #[] #[]]) (Kz (.agg #[.bool true, .func (.func 99) #[] #[], .func (.func 100) #[] #[], .func (.func 101) #[] #[], .func (.func 106) #[] #[]]) (Kz (.agg #[.bool false, .func (.func 107) #[] #[], .func (.func 108) #[] #[], .func (.func 109) #[] #[], .func (.func 110) #[] #[]]) (Kz (.agg #[.bool true, .func (.func 111) #[] #[], .func (.func 112) #[] #[], .func (.func 109) #[] #[], .func (.func 113) #[] #[]]) (Kz (.agg #[.bool false, .nilFunc, .nilFunc, .nilFunc, .nilFunc, .bool false, .func (.func 99) #[] #[], .func (.func 100) #[] #[], .func (.func 101) #[] #[], .func (.func 102) #[] #[], .bool true, .func (.func 103) #[] #[], .func (.func 104) #[] #[], .func (.func 101) #[] #[], .func (.func 105) #[] #[], .bool true, .func (.func 99) #[] #[], .func (.func 100) #[] #[], .func (.func 101) #[] #[], .func (.func 106) #[] #[], .bool false, .func (.func 107) #[] #[], .func (.func 108) #[] #[], .func (.func 109) #[] #[], .func (.func 110) #[] #[], .bool true, .func (.func 111) #[] #[], .func (.func 112) #[] #[], .func (.func 109) #[] #[], .func (.func 113) #[] #[]]) ?_))))))
 refine bW [.bool false, .nilFunc, .nilFunc, .nilFunc, .nilFunc, .bool false, .nilFunc, .nilFunc, .nilFunc, .nilFunc, .bool false, .nilFunc, .nilFunc, .nilFunc, .nilFunc, .bool false, .nilFunc, .nilFunc, .nilFunc, .nilFunc, .bool false, .nilFunc, .nilFunc, .nilFunc, .nilFunc, .bool false, .nilFunc, .nilFunc, .nilFunc, .nilFunc] 188 d ?_
 intro e o f
 refine bY [.bool false, .nilFunc, .nilFunc, .nilFunc, .nilFunc, .bool false, .func (.func 99) #[] #[], .func (.func 100) #[] #[], .func (.func 101) #[] #[], .func (.func 102) #[] #[], .bool true, .func (.func 103) #[] #[], .func (.func 104) #[] #[], .func (.func 101) #[] #[], .func (.func 105) #[] #[], .bool true, .func (.func 99) #[] #[], .func (.func 100) #[] #[], .func (.func 101) #[] #[], .func (.func 106) #[] #[], .bool false, .func (.func 107) #[] #[], .func (.func 108) #[] #[], .func (.func 109) #[] #[], .func (.func 110) #[] #[], .bool true, .func (.func 111) #[] #[], .func (.func 112) #[] #[], .func (.func 109) #[] #[], .func (.func 113) #[] #[]] 0 f y2 ?_
 intro p a
 refine nt (Gp (sr (Mz rfl (Kz (.bool false) (Mz rfl (gw (vI 1) rfl (Gv rfl) (Gz (.bool false) rfl (fw (.bool false) (Gm rfl rfl rfl) (nt (jf (sk (sr (Mz rfl (Kz (vP e 5) (La ([.bool false, .func (.func 99) #[] #[], .func (.func 100) #[] #[], .func (.func 101) #[] #[], .func (.func 102) #[] #[]]) a 0 y3 y4 ?_)))))))))))))))
 have g:=a.pb [0]
 refine bY [.bool false, .func (.func 99) #[] #[], .func (.func 100) #[] #[], .func (.func 101) #[] #[], .func (.func 102) #[] #[]] 0 g y4 ?_
 intro q b
 refine An rfl (rt (GM (fK (vs:= [.agg #[.bool false, .func (.func 99) #[] #[], .func (.func 100) #[] #[], .func (.func 101) #[] #[], .func (.func 102) #[] #[]], .bool true]) rfl (bT.cell rfl (GJ (cs:= [.bool false, .func (.func 99) #[] #[], .func (.func 100) #[] #[], .func (.func 101) #[] #[], .func (.func 102) #[] #[]]) y3 y4 ((b.cls (i:=0) rfl).lit (k:=0) (m:=5) rfl)) (bT.tmp rfl bT.nil)) (Kk rfl)) ?_))
 have h:=b.pk []
 exact⟨rfl,h⟩
def oN (a:aY):aY:=
 aY.mk a.az a.aX [] [] [] 0
theorem vW (w D) (a:aY) (g:aY) (H:Own w D w []) (hr:oN a=g):
    Calls u2 99 #[.agg (aY.cells a).toArray] w (dG λ v w'=>v= .agg (aY.cells g).toArray/\Own w D w' []):=by
 refine cb Tryz.func99 ?_
 refine sr ?_
 refine bW (aY.cells a) 68 H ?_
 intro c h e
 refine bW [vI 0, .string ⟨u3 []⟩, .string ⟨u3 []⟩, .string ⟨u3 []⟩, .string ⟨u3 []⟩,vI 0] 68 e ?_
 intro j l b
 refine ns (Kz (vP c 0) (Lz (vI a.az) b 1 v5 (Kz (vP c 1) (Lz (.string ⟨u3 a.aX⟩) b 1 v3 (Kz (.agg #[vI a.az, .string ⟨u3 a.aX⟩, .string ⟨u3 []⟩, .string ⟨u3 []⟩, .string ⟨u3 []⟩,vI 0]) ?_)))))
 refine bY [vI a.az, .string ⟨u3 a.aX⟩, .string ⟨u3 []⟩, .string ⟨u3 []⟩, .string ⟨u3 []⟩,vI 0] 0 b y6 ?_
 intro n d
 refine nt (rt (GM (oK rfl rfl (GJ (cs:= [vI a.az, .string ⟨u3 a.aX⟩, .string ⟨u3 []⟩, .string ⟨u3 []⟩, .string ⟨u3 []⟩,vI 0]) B3 y6 ((d.cls (i:=0) rfl).lit (k:=0) (m:=6) rfl))) ?_))
 have f:=d.pk []
 obtain rfl:_=aY.mk a.az a.aX [] [] [] 0:=zj hr rfl
 exact⟨rfl,f⟩
def ni (b:aY):Int:=
 bnd (dV b.aX) λ a=>a
theorem uz (w D) (a:aY) (m) (H:Own w D w []) (hr:ni a=m):
    Calls u2 100 #[.agg (aY.cells a).toArray] w (dG λ v w'=>v=vI m/\Own w D w' []):=by
 unfold ni at hr
 refine cb Tryz.func100 ?_
 refine sr ?_
 refine bW (aY.cells a) 68 H ?_
 intro j p f
 refine Ar rfl (Kz (vP j 1) (Lz (.string ⟨u3 a.aX⟩) f 0 v3 ?_))
 obtain⟨b,c⟩:∃ q,dV a.aX=q:=⟨_,rfl⟩
 obtain⟨r,g,n,h,o⟩:=Gr f
 refine cl v6 (jB _ _ a.aX b g c) ?_
 rintro _ s ⟨rfl,i,d,e⟩
 have k:=h _ _ i
 replace d: ¬ (b=0)\/(1<=a.aX.length/\a.aX.length<=12):=d
 replace e:a.aX.length < 1\/a.aX.length > 12\/b=0:=e
 refine An rfl (rt (rs ?_))
 have l:=k.pk []
 obtain rfl:=zj hr zq1
 exact⟨rfl,l⟩
theorem nG (w D j) (H:Own w D w []) (c:j=2):
    Calls u2 67 #[vI j] w (dG λ v w'=>v= .tuple #[.agg #[.bool true, .func (.func 103) #[] #[], .func (.func 104) #[] #[], .func (.func 101) #[] #[], .func (.func 105) #[] #[]], .bool true]/\Own w D w' []):=by
 subst c
 refine cb y0 ?_
 refine sr ?_
 refine bW [.bool false, .nilFunc, .nilFunc, .nilFunc, .nilFunc] 149 H ?_
 intro l n d
 refine Ar rfl (Kz (.agg #[.bool false, .func (.func 99) #[] #[], .func (.func 100) #[] #[], .func (.func 101) #[] #[], .func (.func 102) #[] #[]]) (Kz (.agg #[.bool true, .func (.func 103) #[] #[], .func (.func 104) #[] #[], .func (.func 101) #[] #[], .func (.func 105) #[] #[]]) (Kz (.agg #[.bool true, .func (.func 99) #[] #[], .func (.func 100) #[] #[], .func (.func 101) #[] #[], .func (.func 106) #[] #[]]) (Kz (.agg #[.bool false, .func (.func 107) #[] #[], .func (.func 108) #[] #[], .func (.func 109) #[] #[], .func (.func 110) #[] #[]]) (Kz (.agg #[.bool true, .func (.func 111) #[] #[], .func (.func 112) #[] #[], .func (.func 109) #[] #[], .func (.func 113) #[] #[]]) (Kz (.agg #[.bool false, .nilFunc, .nilFunc, .nilFunc, .nilFunc, .bool false, .func (.func 99) #[] #[], .func (.func 100) #[] #[], .func (.func 101) #[] #[], .func (.func 102) #[] #[], .bool true, .func (.func 103) #[] #[], .func (.func 104) #[] #[], .func (.func 101) #[] #[], .func (.func 105) #[] #[], .bool true, .func (.func 99) #[] #[], .func (.func 100) #[] #[], .func (.func 101) #[] #[], .func (.func 106) #[] #[], .bool false, .func (.func 107) #[] #[], .func (.func 108) #[] #[], .func (.func 109) #[] #[], .func (.func 110) #[] #[], .bool true, .func (.func 111) #[] #[], .func (.func 112) #[] #[], .func (.func 109) #[] #[], .func (.func 113) #[] #[]]) ?_))))))
 refine bW [.bool false, .nilFunc, .nilFunc, .nilFunc, .nilFunc, .bool false, .nilFunc, .nilFunc, .nilFunc, .nilFunc, .bool false, .nilFunc, .nilFunc, .nilFunc, .nilFunc, .bool false, .nilFunc, .nilFunc, .nilFunc, .nilFunc, .bool false, .nilFunc, .nilFunc, .nilFunc, .nilFunc, .bool false, .nilFunc, .nilFunc, .nilFunc, .nilFunc] 188 d ?_
 intro e o f
 refine bY [.bool false, .nilFunc, .nilFunc, .nilFunc, .nilFunc, .bool false, .func (.func 99) #[] #[], .func (.func 100) #[] #[], .func (.func 101) #[] #[], .func (.func 102) #[] #[], .bool true, .func (.func 103) #[] #[], .func (.func 104) #[] #[], .func (.func 101) #[] #[], .func (.func 105) #[] #[], .bool true, .func (.func 99) #[] #[], .func (.func 100) #[] #[], .func (.func 101) #[] #[], .func (.func 106) #[] #[], .bool false, .func (.func 107) #[] #[], .func (.func 108) #[] #[], .func (.func 109) #[] #[], .func (.func 110) #[] #[], .bool true, .func (.func 111) #[] #[], .func (.func 112) #[] #[], .func (.func 109) #[] #[], .func (.func 113) #[] #[]] 0 f y2 ?_
 intro p a
 refine nt (Gp (sr (Mz rfl (Kz (.bool false) (Mz rfl (gw (vI 2) rfl (Gv rfl) (Gz (.bool false) rfl (fw (.bool false) (Gm rfl rfl rfl) (nt (jf (sk (sr (Mz rfl (Kz (vP e 10) (La ([.bool true, .func (.func 103) #[] #[], .func (.func 104) #[] #[], .func (.func 101) #[] #[], .func (.func 105) #[] #[]]) a 0 y3 y4 ?_)))))))))))))))
 have g:=a.pb [0]
 refine bY [.bool true, .func (.func 103) #[] #[], .func (.func 104) #[] #[], .func (.func 101) #[] #[], .func (.func 105) #[] #[]] 0 g y4 ?_
 intro q b
 refine An rfl (rt (GM (fK (vs:= [.agg #[.bool true, .func (.func 103) #[] #[], .func (.func 104) #[] #[], .func (.func 101) #[] #[], .func (.func 105) #[] #[]], .bool true]) rfl (bT.cell rfl (GJ (cs:= [.bool true, .func (.func 103) #[] #[], .func (.func 104) #[] #[], .func (.func 101) #[] #[], .func (.func 105) #[] #[]]) y3 y4 ((b.cls (i:=0) rfl).lit (k:=0) (m:=5) rfl)) (bT.tmp rfl bT.nil)) (Kk rfl)) ?_))
 have h:=b.pk []
 exact⟨rfl,h⟩
def su (a:aY):aY:=
 aY.mk a.az a.aX a.aN [] [] 0
theorem zq (w D) (a:aY) (g:aY) (H:Own w D w []) (hr:su a=g):
    Calls u2 103 #[.agg (aY.cells a).toArray] w (dG λ v w'=>v= .agg (aY.cells g).toArray/\Own w D w' []):=by
 refine cb Tryz.func103 ?_
 refine sr ?_
 refine bW (aY.cells a) 68 H ?_
 intro c h e
 refine bW [vI 0, .string ⟨u3 []⟩, .string ⟨u3 []⟩, .string ⟨u3 []⟩, .string ⟨u3 []⟩,vI 0] 68 e ?_
 intro j l b
 refine ns (Kz (vP c 0) (Lz (vI a.az) b 1 v5 (Kz (vP c 1) (Lz (.string ⟨u3 a.aX⟩) b 1 v3 (Kz (vP c 2) (Lz (.string ⟨u3 a.aN⟩) b 1 v3 (Kz (.agg #[vI a.az, .string ⟨u3 a.aX⟩, .string ⟨u3 a.aN⟩, .string ⟨u3 []⟩, .string ⟨u3 []⟩,vI 0]) ?_)))))))
 refine bY [vI a.az, .string ⟨u3 a.aX⟩, .string ⟨u3 a.aN⟩, .string ⟨u3 []⟩, .string ⟨u3 []⟩,vI 0] 0 b y6 ?_
 intro n d
 refine nt (rt (GM (oK rfl rfl (GJ (cs:= [vI a.az, .string ⟨u3 a.aX⟩, .string ⟨u3 a.aN⟩, .string ⟨u3 []⟩, .string ⟨u3 []⟩,vI 0]) B3 y6 ((d.cls (i:=0) rfl).lit (k:=0) (m:=6) rfl))) ?_))
 have f:=d.pk []
 obtain rfl:_=aY.mk a.az a.aX a.aN [] [] 0:=zj hr rfl
 exact⟨rfl,f⟩
def mQ (a:List UInt8):Int:=
 if(a.length:Int) > 16 then 2 else 0
theorem sU (w D b e) (H:Own w D w []) (hr:mQ b=e):
    Calls u2 161 #[.string ⟨u3 b⟩] w (dG λ v w'=>v=vI e/\Own w D w' []):=by
 unfold mQ at hr
 refine cb Tryz.func161 ?_
 refine sr (An rfl (Gp (sr (Mz rfl (Kz (vJ b.length) (Kz (.bool (decide ((b.length:Int) > 16))) (nt ?_)))))))
 by_cases a:(b.length:Int) > 16
 refine jT (dT a) (sr (An rfl (rt (tR (rs ?_)))))
 have c:=H.pk []
 obtain rfl:=zj hr zq1
 exact⟨rfl,c⟩
 refine jF (dF a) (sk (sr (An rfl (rt (rs ?_)))))
 have d:=H.pk []
 obtain rfl:=zj hr zq1
 exact⟨rfl,d⟩
def oO (c:aY):Int:=
 bnd (dV c.aX) λ a=>if a=0 then bnd (mQ c.aN) λ b=>b else a
theorem xZ (w D) (b:aY) (y) (H:Own w D w []) (hr:oO b=y):
    Calls u2 104 #[.agg (aY.cells b).toArray] w (dG λ v w'=>v=vI y/\Own w D w' []):=by
 unfold oO at hr
 refine cb Tryz.func104 ?_
 refine sr ?_
 refine bW (aY.cells b) 68 H ?_
 intro j E k
 refine An rfl (Gp (sr (Kz (vP j 1) (Lz (.string ⟨u3 b.aX⟩) k 0 v3 ?_))))
 obtain⟨a,c⟩:∃ q,dV b.aX=q:=⟨_,rfl⟩
 obtain⟨F,l,z,m,A⟩:=Gr k
 refine cl v6 (jB _ _ b.aX a l c) ?_
 rintro _ G ⟨rfl,n,f,g⟩
 have i:=m _ _ n
 replace f: ¬ (a=0)\/(1<=b.aX.length/\b.aX.length<=12):=f
 replace g:b.aX.length < 1\/b.aX.length > 12\/a=0:=g
 refine Ar rfl (Mz rfl (fw (.bool (decide (¬ (a=0)))) (GN (e:= !(decide (a=0))) yk decide_not.symm) (nt ?_)))
 by_cases d:a=0
 refine jF (dF (Ko d)) (sk (sr (Kz (vP j 2) (Lz (.string ⟨u3 b.aN⟩) i 0 v3 ?_))))
 obtain⟨o,h⟩:∃ q,mQ b.aN=q:=⟨_,rfl⟩
 obtain⟨I,p,B,r,C⟩:=Gr i
 refine cl Tryz.call161 (sU _ _ b.aN o p h) ?_
 rintro _ J ⟨rfl,s⟩
 have t:=r _ _ s
 refine An rfl (rt (rs ?_))
 have u:=t.pk []
 obtain rfl:=zj hr zq3
 exact⟨rfl,u⟩
 refine jT (dT d) (sr (Mz rfl (An rfl (rt (tR (rs ?_))))))
 have x:=i.pk []
 obtain rfl:=zj hr zq2
 exact⟨rfl,x⟩
theorem nH (w D j) (H:Own w D w []) (c:j=3):
    Calls u2 67 #[vI j] w (dG λ v w'=>v= .tuple #[.agg #[.bool true, .func (.func 99) #[] #[], .func (.func 100) #[] #[], .func (.func 101) #[] #[], .func (.func 106) #[] #[]], .bool true]/\Own w D w' []):=by
 subst c
 refine cb y0 ?_
 refine sr ?_
 refine bW [.bool false, .nilFunc, .nilFunc, .nilFunc, .nilFunc] 149 H ?_
 intro l n d
 refine Ar rfl (Kz (.agg #[.bool false, .func (.func 99) #[] #[], .func (.func 100) #[] #[], .func (.func 101) #[] #[], .func (.func 102) #[] #[]]) (Kz (.agg #[.bool true, .func (.func 103) #[] #[], .func (.func 104) #[] #[], .func (.func 101) #[] #[], .func (.func 105) #[] #[]]) (Kz (.agg #[.bool true, .func (.func 99) #[] #[], .func (.func 100) #[] #[], .func (.func 101) #[] #[], .func (.func 106) #[] #[]]) (Kz (.agg #[.bool false, .func (.func 107) #[] #[], .func (.func 108) #[] #[], .func (.func 109) #[] #[], .func (.func 110) #[] #[]]) (Kz (.agg #[.bool true, .func (.func 111) #[] #[], .func (.func 112) #[] #[], .func (.func 109) #[] #[], .func (.func 113) #[] #[]]) (Kz (.agg #[.bool false, .nilFunc, .nilFunc, .nilFunc, .nilFunc, .bool false, .func (.func 99) #[] #[], .func (.func 100) #[] #[], .func (.func 101) #[] #[], .func (.func 102) #[] #[], .bool true, .func (.func 103) #[] #[], .func (.func 104) #[] #[], .func (.func 101) #[] #[], .func (.func 105) #[] #[], .bool true, .func (.func 99) #[] #[], .func (.func 100) #[] #[], .func (.func 101) #[] #[], .func (.func 106) #[] #[], .bool false, .func (.func 107) #[] #[], .func (.func 108) #[] #[], .func (.func 109) #[] #[], .func (.func 110) #[] #[], .bool true, .func (.func 111) #[] #[], .func (.func 112) #[] #[], .func (.func 109) #[] #[], .func (.func 113) #[] #[]]) ?_))))))
 refine bW [.bool false, .nilFunc, .nilFunc, .nilFunc, .nilFunc, .bool false, .nilFunc, .nilFunc, .nilFunc, .nilFunc, .bool false, .nilFunc, .nilFunc, .nilFunc, .nilFunc, .bool false, .nilFunc, .nilFunc, .nilFunc, .nilFunc, .bool false, .nilFunc, .nilFunc, .nilFunc, .nilFunc, .bool false, .nilFunc, .nilFunc, .nilFunc, .nilFunc] 188 d ?_
 intro e o f
 refine bY [.bool false, .nilFunc, .nilFunc, .nilFunc, .nilFunc, .bool false, .func (.func 99) #[] #[], .func (.func 100) #[] #[], .func (.func 101) #[] #[], .func (.func 102) #[] #[], .bool true, .func (.func 103) #[] #[], .func (.func 104) #[] #[], .func (.func 101) #[] #[], .func (.func 105) #[] #[], .bool true, .func (.func 99) #[] #[], .func (.func 100) #[] #[], .func (.func 101) #[] #[], .func (.func 106) #[] #[], .bool false, .func (.func 107) #[] #[], .func (.func 108) #[] #[], .func (.func 109) #[] #[], .func (.func 110) #[] #[], .bool true, .func (.func 111) #[] #[], .func (.func 112) #[] #[], .func (.func 109) #[] #[], .func (.func 113) #[] #[]] 0 f y2 ?_
 intro p a
 refine nt (Gp (sr (Mz rfl (Kz (.bool false) (Mz rfl (gw (vI 3) rfl (Gv rfl) (Gz (.bool false) rfl (fw (.bool false) (Gm rfl rfl rfl) (nt (jf (sk (sr (Mz rfl (Kz (vP e 15) (La ([.bool true, .func (.func 99) #[] #[], .func (.func 100) #[] #[], .func (.func 101) #[] #[], .func (.func 106) #[] #[]]) a 0 y3 y4 ?_)))))))))))))))
 have g:=a.pb [0]
 refine bY [.bool true, .func (.func 99) #[] #[], .func (.func 100) #[] #[], .func (.func 101) #[] #[], .func (.func 106) #[] #[]] 0 g y4 ?_
 intro q b
 refine An rfl (rt (GM (fK (vs:= [.agg #[.bool true, .func (.func 99) #[] #[], .func (.func 100) #[] #[], .func (.func 101) #[] #[], .func (.func 106) #[] #[]], .bool true]) rfl (bT.cell rfl (GJ (cs:= [.bool true, .func (.func 99) #[] #[], .func (.func 100) #[] #[], .func (.func 101) #[] #[], .func (.func 106) #[] #[]]) y3 y4 ((b.cls (i:=0) rfl).lit (k:=0) (m:=5) rfl)) (bT.tmp rfl bT.nil)) (Kk rfl)) ?_))
 have h:=b.pk []
 exact⟨rfl,h⟩
theorem nI (w D j) (H:Own w D w []) (c:j=4):
    Calls u2 67 #[vI j] w (dG λ v w'=>v= .tuple #[.agg #[.bool false, .func (.func 107) #[] #[], .func (.func 108) #[] #[], .func (.func 109) #[] #[], .func (.func 110) #[] #[]], .bool true]/\Own w D w' []):=by
 subst c
 refine cb y0 ?_
 refine sr ?_
 refine bW [.bool false, .nilFunc, .nilFunc, .nilFunc, .nilFunc] 149 H ?_
 intro l n d
 refine Ar rfl (Kz (.agg #[.bool false, .func (.func 99) #[] #[], .func (.func 100) #[] #[], .func (.func 101) #[] #[], .func (.func 102) #[] #[]]) (Kz (.agg #[.bool true, .func (.func 103) #[] #[], .func (.func 104) #[] #[], .func (.func 101) #[] #[], .func (.func 105) #[] #[]]) (Kz (.agg #[.bool true, .func (.func 99) #[] #[], .func (.func 100) #[] #[], .func (.func 101) #[] #[], .func (.func 106) #[] #[]]) (Kz (.agg #[.bool false, .func (.func 107) #[] #[], .func (.func 108) #[] #[], .func (.func 109) #[] #[], .func (.func 110) #[] #[]]) (Kz (.agg #[.bool true, .func (.func 111) #[] #[], .func (.func 112) #[] #[], .func (.func 109) #[] #[], .func (.func 113) #[] #[]]) (Kz (.agg #[.bool false, .nilFunc, .nilFunc, .nilFunc, .nilFunc, .bool false, .func (.func 99) #[] #[], .func (.func 100) #[] #[], .func (.func 101) #[] #[], .func (.func 102) #[] #[], .bool true, .func (.func 103) #[] #[], .func (.func 104) #[] #[], .func (.func 101) #[] #[], .func (.func 105) #[] #[], .bool true, .func (.func 99) #[] #[], .func (.func 100) #[] #[], .func (.func 101) #[] #[], .func (.func 106) #[] #[], .bool false, .func (.func 107) #[] #[], .func (.func 108) #[] #[], .func (.func 109) #[] #[], .func (.func 110) #[] #[], .bool true, .func (.func 111) #[] #[], .func (.func 112) #[] #[], .func (.func 109) #[] #[], .func (.func 113) #[] #[]]) ?_))))))
 refine bW [.bool false, .nilFunc, .nilFunc, .nilFunc, .nilFunc, .bool false, .nilFunc, .nilFunc, .nilFunc, .nilFunc, .bool false, .nilFunc, .nilFunc, .nilFunc, .nilFunc, .bool false, .nilFunc, .nilFunc, .nilFunc, .nilFunc, .bool false, .nilFunc, .nilFunc, .nilFunc, .nilFunc, .bool false, .nilFunc, .nilFunc, .nilFunc, .nilFunc] 188 d ?_
 intro e o f
 refine bY [.bool false, .nilFunc, .nilFunc, .nilFunc, .nilFunc, .bool false, .func (.func 99) #[] #[], .func (.func 100) #[] #[], .func (.func 101) #[] #[], .func (.func 102) #[] #[], .bool true, .func (.func 103) #[] #[], .func (.func 104) #[] #[], .func (.func 101) #[] #[], .func (.func 105) #[] #[], .bool true, .func (.func 99) #[] #[], .func (.func 100) #[] #[], .func (.func 101) #[] #[], .func (.func 106) #[] #[], .bool false, .func (.func 107) #[] #[], .func (.func 108) #[] #[], .func (.func 109) #[] #[], .func (.func 110) #[] #[], .bool true, .func (.func 111) #[] #[], .func (.func 112) #[] #[], .func (.func 109) #[] #[], .func (.func 113) #[] #[]] 0 f y2 ?_
 intro p a
 refine nt (Gp (sr (Mz rfl (Kz (.bool false) (Mz rfl (gw (vI 4) rfl (Gv rfl) (Gz (.bool false) rfl (fw (.bool false) (Gm rfl rfl rfl) (nt (jf (sk (sr (Mz rfl (Kz (vP e 20) (La ([.bool false, .func (.func 107) #[] #[], .func (.func 108) #[] #[], .func (.func 109) #[] #[], .func (.func 110) #[] #[]]) a 0 y3 y4 ?_)))))))))))))))
 have g:=a.pb [0]
 refine bY [.bool false, .func (.func 107) #[] #[], .func (.func 108) #[] #[], .func (.func 109) #[] #[], .func (.func 110) #[] #[]] 0 g y4 ?_
 intro q b
 refine An rfl (rt (GM (fK (vs:= [.agg #[.bool false, .func (.func 107) #[] #[], .func (.func 108) #[] #[], .func (.func 109) #[] #[], .func (.func 110) #[] #[]], .bool true]) rfl (bT.cell rfl (GJ (cs:= [.bool false, .func (.func 107) #[] #[], .func (.func 108) #[] #[], .func (.func 109) #[] #[], .func (.func 110) #[] #[]]) y3 y4 ((b.cls (i:=0) rfl).lit (k:=0) (m:=5) rfl)) (bT.tmp rfl bT.nil)) (Kk rfl)) ?_))
 have h:=b.pk []
 exact⟨rfl,h⟩
def sw (a:aY):aY:=
 aY.mk a.az [] [] a.aO a.aS a.bO
theorem zt (w D) (a:aY) (g:aY) (H:Own w D w []) (hr:sw a=g):
    Calls u2 107 #[.agg (aY.cells a).toArray] w (dG λ v w'=>v= .agg (aY.cells g).toArray/\Own w D w' []):=by
 refine cb Tryz.func107 ?_
 refine sr ?_
 refine bW (aY.cells a) 68 H ?_
 intro c h e
 refine bW [vI 0, .string ⟨u3 []⟩, .string ⟨u3 []⟩, .string ⟨u3 []⟩, .string ⟨u3 []⟩,vI 0] 68 e ?_
 intro j l b
 refine ns (Kz (vP c 0) (Lz (vI a.az) b 1 v5 (Kz (vP c 3) (Lz (.string ⟨u3 a.aO⟩) b 1 v3 (Kz (vP c 4) (Lz (.string ⟨u3 a.aS⟩) b 1 v3 (Kz (vP c 5) (Lz (vI a.bO) b 1 v5 (Kz (.agg #[vI a.az, .string ⟨u3 []⟩, .string ⟨u3 []⟩, .string ⟨u3 a.aO⟩, .string ⟨u3 a.aS⟩,vI a.bO]) ?_)))))))))
 refine bY [vI a.az, .string ⟨u3 []⟩, .string ⟨u3 []⟩, .string ⟨u3 a.aO⟩, .string ⟨u3 a.aS⟩,vI a.bO] 0 b y6 ?_
 intro n d
 refine nt (rt (GM (oK rfl rfl (GJ (cs:= [vI a.az, .string ⟨u3 []⟩, .string ⟨u3 []⟩, .string ⟨u3 a.aO⟩, .string ⟨u3 a.aS⟩,vI a.bO]) B3 y6 ((d.cls (i:=0) rfl).lit (k:=0) (m:=6) rfl))) ?_))
 have f:=d.pk []
 obtain rfl:_=aY.mk a.az [] [] a.aO a.aS a.bO:=zj hr rfl
 exact⟨rfl,f⟩
def fD (a:aY):aj:=
 aj.mk a.aO a.aS
theorem ll (w D) (a:aY) (g:aj) (H:Own w D w []) (hr:fD a=g):
    Calls u2 109 #[.agg (aY.cells a).toArray] w (dG λ v w'=>v= .agg (aj.cells g).toArray/\Own w D w' []):=by
 refine cb Tryz.func109 ?_
 refine sr ?_
 refine bW (aY.cells a) 68 H ?_
 intro c h e
 refine bW [.string ⟨u3 []⟩, .string ⟨u3 []⟩] 37 e ?_
 intro j l b
 refine ns (Kz (vP c 3) (Lz (.string ⟨u3 a.aO⟩) b 1 v3 (Kz (vP c 4) (Lz (.string ⟨u3 a.aS⟩) b 1 v3 (Kz (.agg #[.string ⟨u3 a.aO⟩, .string ⟨u3 a.aS⟩]) ?_)))))
 refine bY [.string ⟨u3 a.aO⟩, .string ⟨u3 a.aS⟩] 0 b B4 ?_
 intro n d
 refine nt (rt (GM (oK rfl rfl (GJ (cs:= [.string ⟨u3 a.aO⟩, .string ⟨u3 a.aS⟩]) B5 B4 ((d.cls (i:=0) rfl).lit (k:=0) (m:=2) rfl))) ?_))
 have f:=d.pk []
 obtain rfl:_=aj.mk a.aO a.aS:=zj hr rfl
 exact⟨rfl,f⟩
def dW (a:aj):Int:=
 if a.aO≠[] then bnd (dV a.aO) λ b=>if b=0 then if a.aS≠[] then bnd (dV a.aS) λ c=>if c=0 then if a.aS<=a.aO then 21 else 0 else 21 else 0 else 21 else if a.aS≠[] then bnd (dV a.aS) λ d=>if d=0 then if a.aS<=a.aO then 21 else 0 else 21 else 0
theorem iX (w D) (a:aj) (Z) (H:Own w D w []) (hr:dW a=Z):
    Calls u2 65 #[.agg (aj.cells a).toArray] w (dG λ v w'=>v=vI Z/\Own w D w' []):=by
 unfold dW at hr
 refine cb Tryz.func65 ?_
 refine sr ?_
 refine bW (aj.cells a) 37 H ?_
 intro h au k
 refine An rfl (Gp (sr (Kz (vP h 0) (Lz (.string ⟨u3 a.aO⟩) k 0 v3 (fw (.bool (decide (a.aO≠[]))) (Hr rfl rfl) (Mz rfl ?_))))))
 by_cases d:a.aO≠[]
 refine Gz (vP h 0) (dT d) (Gl (.string ⟨u3 a.aO⟩) (dT d) k 0 v3 ?_)
 obtain⟨l,j⟩:∃ q,dV a.aO=q:=⟨_,rfl⟩
 obtain⟨av,G,aa,I,af⟩:=Gr k
 refine nQ (dT d) v6 (jB _ _ a.aO l G j) ?_
 rintro _ ax ⟨rfl,J,z,A⟩
 have s:=I _ _ J
 replace z: ¬ (l=0)\/(1<=a.aO.length/\a.aO.length<=12):=z
 replace A:a.aO.length < 1\/a.aO.length > 12\/l=0:=A
 refine gw (.bool (decide (¬ (l=0)))) (dT d) (GN (e:= !(decide (l=0))) yk decide_not.symm) (fw (.bool (decide (¬ (l=0)))) (Gu rfl (dT d) rfl) (nt ?_))
 by_cases m:l=0
 refine jF (dF (Ko m)) (sk (Gp (sr (Kz (vP h 1) (Lz (.string ⟨u3 a.aS⟩) s 0 v3 (fw (.bool (decide (a.aS≠[]))) (Hr rfl rfl) (Mz rfl ?_)))))))
 by_cases b:a.aS≠[]
 refine Gz (vP h 1) (dT b) (Gl (.string ⟨u3 a.aS⟩) (dT b) s 0 v3 ?_)
 obtain⟨n,p⟩:∃ q,dV a.aS=q:=⟨_,rfl⟩
 obtain⟨ay,K,ag,L,ah⟩:=Gr s
 refine nQ (dT b) v6 (jB _ _ a.aS n K p) ?_
 rintro _ az ⟨rfl,M,B,C⟩
 have t:=L _ _ M
 replace B: ¬ (n=0)\/(1<=a.aS.length/\a.aS.length<=12):=B
 replace C:a.aS.length < 1\/a.aS.length > 12\/n=0:=C
 refine gw (.bool (decide (¬ (n=0)))) (dT b) (GN (e:= !(decide (n=0))) yk decide_not.symm) (gw (.bool (decide (¬ (n=0)))) (dT b) (Gv rfl) ?_)
 by_cases f:n=0
 refine gw (vP h 1) (dF (Ko f)) yk (gw (.string ⟨u3 a.aS⟩) (dF (Ko f)) (GH rfl (bS.one v3 (Ho (t.cls (i:=0) rfl) rfl))) (gw (vP h 0) (dF (Ko f)) yk (gw (.string ⟨u3 a.aO⟩) (dF (Ko f)) (GH rfl (bS.one v3 (Ho (t.cls (i:=0) rfl) rfl))) (gw (.bool (decide (a.aS<=a.aO))) (dF (Ko f)) (GN (e:=Op.bytesLess a.aS a.aO || decide (a.aS=a.aO)) (IJ rfl rfl) (zB _ _)) (gw (.bool (decide (a.aS<=a.aO))) (dT b) (Gm rfl (dF (Ko f)) rfl) (fw (.bool (decide (a.aS<=a.aO))) (Gu rfl (dT b) rfl) (nt ?_)))))))
 by_cases x:a.aS<=a.aO
 refine jT (dT x) (sr (An rfl (rt (tR (rs ?_)))))
 have Q:=t.pk []
 obtain rfl:=zj hr zq7
 exact⟨rfl,Q⟩
 refine jF (dF x) (sk (sr (An rfl (rt (rs ?_)))))
 have R:=t.pk []
 obtain rfl:=zj hr zq7
 exact⟨rfl,R⟩
 refine Sz (dT f) (Sz (dT f) (Sz (dT f) (Sz (dT f) (Sz (dT f) (gw (.bool true) (dT b) (Gu rfl (dT f) rfl) (fw (.bool true) (Gu rfl (dT b) rfl) (nt (jt (sr (An rfl (rt (tR (rs ?_)))))))))))))
 have S:=t.pk []
 obtain rfl:=zj hr zq6
 exact⟨rfl,S⟩
 refine Sz (dF b) (Sz (dF b) (Sz (dF b) (Sz (dF b) (Sz (dF b) (GA rfl rfl rfl (GA rfl rfl rfl (GA rfl rfl rfl (GA rfl rfl rfl (GA rfl rfl rfl (Sz (dF b) (fw (.bool false) (Gm rfl (dF b) rfl) (nt (jf (sk (sr (An rfl (rt (rs ?_))))))))))))))))))
 have T:=s.pk []
 obtain rfl:=zj hr zq4
 exact⟨rfl,T⟩
 refine jT (dT m) (sr (An rfl (rt (tR (rs ?_)))))
 have U:=s.pk []
 obtain rfl:=zj hr zq3
 exact⟨rfl,U⟩
 refine Sz (dF d) (Sz (dF d) (Sz (dF d) (Sz (dF d) (fw (.bool false) (Gm rfl (dF d) rfl) (nt (jf (sk (Gp (sr (Kz (vP h 1) (Lz (.string ⟨u3 a.aS⟩) k 0 v3 (fw (.bool (decide (a.aS≠[]))) (Hr rfl rfl) (Mz rfl ?_)))))))))))))
 by_cases c:a.aS≠[]
 refine Gz (vP h 1) (dT c) (Gl (.string ⟨u3 a.aS⟩) (dT c) k 0 v3 ?_)
 obtain⟨o,r⟩:∃ q,dV a.aS=q:=⟨_,rfl⟩
 obtain⟨aA,N,ai,O,ak⟩:=Gr k
 refine nQ (dT c) v6 (jB _ _ a.aS o N r) ?_
 rintro _ aB ⟨rfl,P,E,F⟩
 have u:=O _ _ P
 replace E: ¬ (o=0)\/(1<=a.aS.length/\a.aS.length<=12):=E
 replace F:a.aS.length < 1\/a.aS.length > 12\/o=0:=F
 refine gw (.bool (decide (¬ (o=0)))) (dT c) (GN (e:= !(decide (o=0))) yk decide_not.symm) (gw (.bool (decide (¬ (o=0)))) (dT c) (Gv rfl) ?_)
 by_cases g:o=0
 refine gw (vP h 1) (dF (Ko g)) yk (gw (.string ⟨u3 a.aS⟩) (dF (Ko g)) (GH rfl (bS.one v3 (Ho (u.cls (i:=0) rfl) rfl))) (gw (vP h 0) (dF (Ko g)) yk (gw (.string ⟨u3 a.aO⟩) (dF (Ko g)) (GH rfl (bS.one v3 (Ho (u.cls (i:=0) rfl) rfl))) (gw (.bool (decide (a.aS<=a.aO))) (dF (Ko g)) (GN (e:=Op.bytesLess a.aS a.aO || decide (a.aS=a.aO)) (IJ rfl rfl) (zB _ _)) (gw (.bool (decide (a.aS<=a.aO))) (dT c) (Gm rfl (dF (Ko g)) rfl) (fw (.bool (decide (a.aS<=a.aO))) (Gu rfl (dT c) rfl) (nt ?_)))))))
 by_cases y:a.aS<=a.aO
 refine jT (dT y) (sr (An rfl (rt (tR (rs ?_)))))
 have V:=u.pk []
 obtain rfl:=zj hr zq5
 exact⟨rfl,V⟩
 refine jF (dF y) (sk (sr (An rfl (rt (rs ?_)))))
 have W:=u.pk []
 obtain rfl:=zj hr zq5
 exact⟨rfl,W⟩
 refine Sz (dT g) (Sz (dT g) (Sz (dT g) (Sz (dT g) (Sz (dT g) (gw (.bool true) (dT c) (Gu rfl (dT g) rfl) (fw (.bool true) (Gu rfl (dT c) rfl) (nt (jt (sr (An rfl (rt (tR (rs ?_)))))))))))))
 have X:=u.pk []
 obtain rfl:=zj hr zq4
 exact⟨rfl,X⟩
 refine Sz (dF c) (Sz (dF c) (Sz (dF c) (Sz (dF c) (Sz (dF c) (GA rfl rfl rfl (GA rfl rfl rfl (GA rfl rfl rfl (GA rfl rfl rfl (GA rfl rfl rfl (Sz (dF c) (fw (.bool false) (Gm rfl (dF c) rfl) (nt (jf (sk (sr (An rfl (rt (rs ?_))))))))))))))))))
 have Y:=k.pk []
 obtain rfl:=zj hr zq2
 exact⟨rfl,Y⟩
def lV (c:aY):Int:=
 bnd (fD c) λ a=>bnd (dW a) λ b=>b
theorem sV (w D) (d:aY) (p) (H:Own w D w []) (hr:lV d=p):
    Calls u2 112 #[.agg (aY.cells d).toArray] w (dG λ v w'=>v=vI p/\Own w D w' []):=by
 unfold lV at hr
 refine cb Tryz.func112 ?_
 refine sr ?_
 refine bW (aY.cells d) 68 H ?_
 intro x y e
 refine Ar rfl (La (aY.cells d) e 0 B3 y6 ?_)
 obtain⟨c,a⟩:∃ q,fD d=q:=⟨_,rfl⟩
 obtain⟨z,f,r,g,s⟩:=Gr e
 refine cl Tryz.call109 (ll _ _ d c f a) ?_
 rintro _ A ⟨rfl,h⟩
 have m:=g _ _ h
 obtain⟨i,b⟩:∃ q,dW c=q:=⟨_,rfl⟩
 obtain⟨B,j,t,k,u⟩:=Gr m
 refine cl B6 (iX _ _ c i j b) ?_
 rintro _ C ⟨rfl,l⟩
 have n:=k _ _ l
 refine An rfl (rt (rs ?_))
 have o:=n.pk []
 obtain rfl:=zj hr zq2
 exact⟨rfl,o⟩
def oP (b:aY):Int:=
 bnd (lV b) λ a=>if a=0 then if b.bO < 1 then 1 else if b.bO > 4 then 1 else 0 else a
theorem x8 (w D) (c:aY) (s) (H:Own w D w []) (hr:oP c=s):
    Calls u2 108 #[.agg (aY.cells c).toArray] w (dG λ v w'=>v=vI s/\Own w D w' []):=by
 unfold oP at hr
 refine cb Tryz.func108 ?_
 refine sr ?_
 refine bW (aY.cells c) 68 H ?_
 intro i x j
 refine An rfl (Gp (sr (La (aY.cells c) j 0 B3 y6 ?_)))
 obtain⟨g,b⟩:∃ q,lV c=q:=⟨_,rfl⟩
 obtain⟨y,k,t,l,u⟩:=Gr j
 refine cl Tryz.call112 (sV _ _ c g k b) ?_
 rintro _ z ⟨rfl,m⟩
 have d:=l _ _ m
 refine Ar rfl (Mz rfl (fw (.bool (decide (¬ (g=0)))) (GN (e:= !(decide (g=0))) yk decide_not.symm) (nt ?_)))
 by_cases f:g=0
 refine jF (dF (Ko f)) (sk (Gp (sr (Kz (vP i 5) (Lz (vI c.bO) d 0 v5 (Kz (.bool (decide (c.bO < 1))) (Mz rfl ?_)))))))
 by_cases a:c.bO < 1
 refine Sz (dT a) (Sz (dT a) (Sz (dT a) (fw (.bool true) (Gu rfl (dT a) rfl) (nt (jt (sr (An rfl (rt (tR (rs ?_))))))))))
 have n:=d.pk []
 obtain rfl:=zj hr zq3
 exact⟨rfl,n⟩
 refine Gz (vP i 5) (dF a) (Gl (vI c.bO) (dF a) d 0 v5 (Gz (.bool (decide (c.bO > 4))) (dF a) (fw (.bool (decide (c.bO > 4))) (Gm rfl (dF a) rfl) (nt ?_))))
 by_cases h:c.bO > 4
 refine jT (dT h) (sr (An rfl (rt (tR (rs ?_)))))
 have o:=d.pk []
 obtain rfl:=zj hr zq4
 exact⟨rfl,o⟩
 refine jF (dF h) (sk (sr (An rfl (rt (rs ?_)))))
 have p:=d.pk []
 obtain rfl:=zj hr zq4
 exact⟨rfl,p⟩
 refine jT (dT f) (sr (Mz rfl (An rfl (rt (tR (rs ?_))))))
 have r:=d.pk []
 obtain rfl:=zj hr zq2
 exact⟨rfl,r⟩
theorem nJ (w D j) (H:Own w D w []) (c:j=5):
    Calls u2 67 #[vI j] w (dG λ v w'=>v= .tuple #[.agg #[.bool true, .func (.func 111) #[] #[], .func (.func 112) #[] #[], .func (.func 109) #[] #[], .func (.func 113) #[] #[]], .bool true]/\Own w D w' []):=by
 subst c
 refine cb y0 ?_
 refine sr ?_
 refine bW [.bool false, .nilFunc, .nilFunc, .nilFunc, .nilFunc] 149 H ?_
 intro l n d
 refine Ar rfl (Kz (.agg #[.bool false, .func (.func 99) #[] #[], .func (.func 100) #[] #[], .func (.func 101) #[] #[], .func (.func 102) #[] #[]]) (Kz (.agg #[.bool true, .func (.func 103) #[] #[], .func (.func 104) #[] #[], .func (.func 101) #[] #[], .func (.func 105) #[] #[]]) (Kz (.agg #[.bool true, .func (.func 99) #[] #[], .func (.func 100) #[] #[], .func (.func 101) #[] #[], .func (.func 106) #[] #[]]) (Kz (.agg #[.bool false, .func (.func 107) #[] #[], .func (.func 108) #[] #[], .func (.func 109) #[] #[], .func (.func 110) #[] #[]]) (Kz (.agg #[.bool true, .func (.func 111) #[] #[], .func (.func 112) #[] #[], .func (.func 109) #[] #[], .func (.func 113) #[] #[]]) (Kz (.agg #[.bool false, .nilFunc, .nilFunc, .nilFunc, .nilFunc, .bool false, .func (.func 99) #[] #[], .func (.func 100) #[] #[], .func (.func 101) #[] #[], .func (.func 102) #[] #[], .bool true, .func (.func 103) #[] #[], .func (.func 104) #[] #[], .func (.func 101) #[] #[], .func (.func 105) #[] #[], .bool true, .func (.func 99) #[] #[], .func (.func 100) #[] #[], .func (.func 101) #[] #[], .func (.func 106) #[] #[], .bool false, .func (.func 107) #[] #[], .func (.func 108) #[] #[], .func (.func 109) #[] #[], .func (.func 110) #[] #[], .bool true, .func (.func 111) #[] #[], .func (.func 112) #[] #[], .func (.func 109) #[] #[], .func (.func 113) #[] #[]]) ?_))))))
 refine bW [.bool false, .nilFunc, .nilFunc, .nilFunc, .nilFunc, .bool false, .nilFunc, .nilFunc, .nilFunc, .nilFunc, .bool false, .nilFunc, .nilFunc, .nilFunc, .nilFunc, .bool false, .nilFunc, .nilFunc, .nilFunc, .nilFunc, .bool false, .nilFunc, .nilFunc, .nilFunc, .nilFunc, .bool false, .nilFunc, .nilFunc, .nilFunc, .nilFunc] 188 d ?_
 intro e o f
 refine bY [.bool false, .nilFunc, .nilFunc, .nilFunc, .nilFunc, .bool false, .func (.func 99) #[] #[], .func (.func 100) #[] #[], .func (.func 101) #[] #[], .func (.func 102) #[] #[], .bool true, .func (.func 103) #[] #[], .func (.func 104) #[] #[], .func (.func 101) #[] #[], .func (.func 105) #[] #[], .bool true, .func (.func 99) #[] #[], .func (.func 100) #[] #[], .func (.func 101) #[] #[], .func (.func 106) #[] #[], .bool false, .func (.func 107) #[] #[], .func (.func 108) #[] #[], .func (.func 109) #[] #[], .func (.func 110) #[] #[], .bool true, .func (.func 111) #[] #[], .func (.func 112) #[] #[], .func (.func 109) #[] #[], .func (.func 113) #[] #[]] 0 f y2 ?_
 intro p a
 refine nt (Gp (sr (Mz rfl (Kz (.bool false) (Mz rfl (gw (vI 5) rfl (Gv rfl) (Gz (.bool false) rfl (fw (.bool false) (Gm rfl rfl rfl) (nt (jf (sk (sr (Mz rfl (Kz (vP e 25) (La ([.bool true, .func (.func 111) #[] #[], .func (.func 112) #[] #[], .func (.func 109) #[] #[], .func (.func 113) #[] #[]]) a 0 y3 y4 ?_)))))))))))))))
 have g:=a.pb [0]
 refine bY [.bool true, .func (.func 111) #[] #[], .func (.func 112) #[] #[], .func (.func 109) #[] #[], .func (.func 113) #[] #[]] 0 g y4 ?_
 intro q b
 refine An rfl (rt (GM (fK (vs:= [.agg #[.bool true, .func (.func 111) #[] #[], .func (.func 112) #[] #[], .func (.func 109) #[] #[], .func (.func 113) #[] #[]], .bool true]) rfl (bT.cell rfl (GJ (cs:= [.bool true, .func (.func 111) #[] #[], .func (.func 112) #[] #[], .func (.func 109) #[] #[], .func (.func 113) #[] #[]]) y3 y4 ((b.cls (i:=0) rfl).lit (k:=0) (m:=5) rfl)) (bT.tmp rfl bT.nil)) (Kk rfl)) ?_))
 have h:=b.pk []
 exact⟨rfl,h⟩
def rA (a:aY):aY:=
 aY.mk a.az [] [] a.aO a.aS 0
theorem yJ (w D) (a:aY) (g:aY) (H:Own w D w []) (hr:rA a=g):
    Calls u2 111 #[.agg (aY.cells a).toArray] w (dG λ v w'=>v= .agg (aY.cells g).toArray/\Own w D w' []):=by
 refine cb Tryz.func111 ?_
 refine sr ?_
 refine bW (aY.cells a) 68 H ?_
 intro c h e
 refine bW [vI 0, .string ⟨u3 []⟩, .string ⟨u3 []⟩, .string ⟨u3 []⟩, .string ⟨u3 []⟩,vI 0] 68 e ?_
 intro j l b
 refine ns (Kz (vP c 0) (Lz (vI a.az) b 1 v5 (Kz (vP c 3) (Lz (.string ⟨u3 a.aO⟩) b 1 v3 (Kz (vP c 4) (Lz (.string ⟨u3 a.aS⟩) b 1 v3 (Kz (.agg #[vI a.az, .string ⟨u3 []⟩, .string ⟨u3 []⟩, .string ⟨u3 a.aO⟩, .string ⟨u3 a.aS⟩,vI 0]) ?_)))))))
 refine bY [vI a.az, .string ⟨u3 []⟩, .string ⟨u3 []⟩, .string ⟨u3 a.aO⟩, .string ⟨u3 a.aS⟩,vI 0] 0 b y6 ?_
 intro n d
 refine nt (rt (GM (oK rfl rfl (GJ (cs:= [vI a.az, .string ⟨u3 []⟩, .string ⟨u3 []⟩, .string ⟨u3 a.aO⟩, .string ⟨u3 a.aS⟩,vI 0]) B3 y6 ((d.cls (i:=0) rfl).lit (k:=0) (m:=6) rfl))) ?_))
 have f:=d.pk []
 obtain rfl:_=aY.mk a.az [] [] a.aO a.aS 0:=zj hr rfl
 exact⟨rfl,f⟩
theorem tZ (w D b) (H:Own w D w []) (p: ¬ (b=1)) (q: ¬ (b=2)) (r: ¬ (b=3)) (s: ¬ (b=4)) (t: ¬ (b=5)):
    Calls u2 67 #[vI b] w (dG λ v w'=>v= .tuple #[.agg #[.bool false, .nilFunc, .nilFunc, .nilFunc, .nilFunc], .bool false]/\Own w D w' []):=by
 refine cb y0 ?_
 refine sr ?_
 refine bW [.bool false, .nilFunc, .nilFunc, .nilFunc, .nilFunc] 149 H ?_
 intro u x g
 refine Ar rfl (Kz (.agg #[.bool false, .func (.func 99) #[] #[], .func (.func 100) #[] #[], .func (.func 101) #[] #[], .func (.func 102) #[] #[]]) (Kz (.agg #[.bool true, .func (.func 103) #[] #[], .func (.func 104) #[] #[], .func (.func 101) #[] #[], .func (.func 105) #[] #[]]) (Kz (.agg #[.bool true, .func (.func 99) #[] #[], .func (.func 100) #[] #[], .func (.func 101) #[] #[], .func (.func 106) #[] #[]]) (Kz (.agg #[.bool false, .func (.func 107) #[] #[], .func (.func 108) #[] #[], .func (.func 109) #[] #[], .func (.func 110) #[] #[]]) (Kz (.agg #[.bool true, .func (.func 111) #[] #[], .func (.func 112) #[] #[], .func (.func 109) #[] #[], .func (.func 113) #[] #[]]) (Kz (.agg #[.bool false, .nilFunc, .nilFunc, .nilFunc, .nilFunc, .bool false, .func (.func 99) #[] #[], .func (.func 100) #[] #[], .func (.func 101) #[] #[], .func (.func 102) #[] #[], .bool true, .func (.func 103) #[] #[], .func (.func 104) #[] #[], .func (.func 101) #[] #[], .func (.func 105) #[] #[], .bool true, .func (.func 99) #[] #[], .func (.func 100) #[] #[], .func (.func 101) #[] #[], .func (.func 106) #[] #[], .bool false, .func (.func 107) #[] #[], .func (.func 108) #[] #[], .func (.func 109) #[] #[], .func (.func 110) #[] #[], .bool true, .func (.func 111) #[] #[], .func (.func 112) #[] #[], .func (.func 109) #[] #[], .func (.func 113) #[] #[]]) ?_))))))
 refine bW [.bool false, .nilFunc, .nilFunc, .nilFunc, .nilFunc, .bool false, .nilFunc, .nilFunc, .nilFunc, .nilFunc, .bool false, .nilFunc, .nilFunc, .nilFunc, .nilFunc, .bool false, .nilFunc, .nilFunc, .nilFunc, .nilFunc, .bool false, .nilFunc, .nilFunc, .nilFunc, .nilFunc, .bool false, .nilFunc, .nilFunc, .nilFunc, .nilFunc] 188 g ?_
 intro y z h
 refine bY [.bool false, .nilFunc, .nilFunc, .nilFunc, .nilFunc, .bool false, .func (.func 99) #[] #[], .func (.func 100) #[] #[], .func (.func 101) #[] #[], .func (.func 102) #[] #[], .bool true, .func (.func 103) #[] #[], .func (.func 104) #[] #[], .func (.func 101) #[] #[], .func (.func 105) #[] #[], .bool true, .func (.func 99) #[] #[], .func (.func 100) #[] #[], .func (.func 101) #[] #[], .func (.func 106) #[] #[], .bool false, .func (.func 107) #[] #[], .func (.func 108) #[] #[], .func (.func 109) #[] #[], .func (.func 110) #[] #[], .bool true, .func (.func 111) #[] #[], .func (.func 112) #[] #[], .func (.func 109) #[] #[], .func (.func 113) #[] #[]] 0 h y2 ?_
 intro A c
 refine nt (Gp (sr (Mz rfl (Kz (.bool (decide (b<=0))) (Mz rfl ?_)))))
 by_cases a:b<=0
 refine Sz (dT a) (Sz (dT a) (fw (.bool true) (Gu rfl (dT a) rfl) (nt (jt (sr (Kz (.agg #[.bool false, .nilFunc, .nilFunc, .nilFunc, .nilFunc]) ?_))))))
 have j:=c.pb [0]
 refine bY [.bool false, .nilFunc, .nilFunc, .nilFunc, .nilFunc] 0 j y4 ?_
 intro B d
 refine An rfl (rt (tR (GM (fK (vs:= [.agg #[.bool false, .nilFunc, .nilFunc, .nilFunc, .nilFunc], .bool false]) rfl (bT.cell rfl (GJ (cs:= [.bool false, .nilFunc, .nilFunc, .nilFunc, .nilFunc]) y3 y4 ((d.cls (i:=0) rfl).lit (k:=0) (m:=5) rfl)) (bT.tmp rfl bT.nil)) (Kk rfl)) ?_)))
 have l:=d.pk []
 exact⟨rfl,l⟩
 refine gw (vI b) (dF a) (Gv rfl) (Gz (.bool (decide (b >= 6))) (dF a) (fw (.bool (decide (b >= 6))) (Gm rfl (dF a) rfl) (nt ?_)))
 have e:(decide (b >= 6))=true:=(dT e8)
 refine jT e (sr (Kz (.agg #[.bool false, .nilFunc, .nilFunc, .nilFunc, .nilFunc]) ?_))
 have n:=c.pb [0]
 refine bY [.bool false, .nilFunc, .nilFunc, .nilFunc, .nilFunc] 0 n y4 ?_
 intro C f
 refine An rfl (rt (tR (GM (fK (vs:= [.agg #[.bool false, .nilFunc, .nilFunc, .nilFunc, .nilFunc], .bool false]) rfl (bT.cell rfl (GJ (cs:= [.bool false, .nilFunc, .nilFunc, .nilFunc, .nilFunc]) y3 y4 ((f.cls (i:=0) rfl).lit (k:=0) (m:=5) rfl)) (bT.tmp rfl bT.nil)) (Kk rfl)) ?_)))
 have o:=f.pk []
 exact⟨rfl,o⟩
def eQ (a:aY):Int:=
 if a.az=1 then bnd (oN a) λ e=>if(e.az=a.az)/\(e.aX=a.aX)/\(e.aN=a.aN)/\(e.aO=a.aO)/\(e.aS=a.aS)/\(e.bO=a.bO) then bnd (ni a) λ j=>j else 40 else if a.az=2 then bnd (su a) λ f=>if(f.az=a.az)/\(f.aX=a.aX)/\(f.aN=a.aN)/\(f.aO=a.aO)/\(f.aS=a.aS)/\(f.bO=a.bO) then bnd (oO a) λ k=>k else 40 else if a.az=3 then bnd (oN a) λ b=>if(b.az=a.az)/\(b.aX=a.aX)/\(b.aN=a.aN)/\(b.aO=a.aO)/\(b.aS=a.aS)/\(b.bO=a.bO) then bnd (ni a) λ g=>g else 40 else if a.az=4 then bnd (sw a) λ c=>if(c.az=a.az)/\(c.aX=a.aX)/\(c.aN=a.aN)/\(c.aO=a.aO)/\(c.aS=a.aS)/\(c.bO=a.bO) then bnd (oP a) λ h=>h else 40 else if a.az=5 then bnd (rA a) λ d=>if(d.az=a.az)/\(d.aX=a.aX)/\(d.aN=a.aN)/\(d.aO=a.aO)/\(d.aS=a.aS)/\(d.bO=a.bO) then bnd (lV a) λ i=>i else 40 else 40
theorem mR (w D) (a:aY) (r0) (H:Own w D w []) (hr:eQ a=r0):
    Calls u2 63 #[.agg (aY.cells a).toArray] w (dG λ v w'=>v=vI r0/\Own w D w' []/\(¬ (r0=0)\/(1<=a.az/\a.az<=5))):=by
 unfold eQ at hr
 refine cb Tryz.func63 ?_
 refine sr ?_
 refine bW (aY.cells a) 68 H ?_
 intro dx gM t
 refine Ar rfl (Kz (vP dx 0) (Lz (vI a.az) t 0 v5 ?_))
 by_cases l:a.az=1
 obtain⟨gN,aR,eG,aS,eH⟩:=Gr t
 refine cl B7 (nE _ _ a.az aR (of_decide_eq_true (dT l))) ?_
 rintro _ gP ⟨rfl,aT⟩
 have dz:=aS _ _ aT
 refine Mz rfl (Kz (.agg #[.bool false, .func (.func 99) #[] #[], .func (.func 100) #[] #[], .func (.func 101) #[] #[], .func (.func 102) #[] #[]]) (Kz (.bool true) ?_))
 refine bW [.bool false, .nilFunc, .nilFunc, .nilFunc, .nilFunc] 149 dz ?_
 intro aU gQ dA
 refine bY [.bool false, .func (.func 99) #[] #[], .func (.func 100) #[] #[], .func (.func 101) #[] #[], .func (.func 102) #[] #[]] 0 dA y4 ?_
 intro gT dB
 refine An rfl (Gp (Gp ?_))
 refine oD [] (GD (GD GQ)) dB ?_
 intro gU dC
 refine qv 0 rfl rfl (qk (.bool false) 1 rfl (qv 2 rfl rfl (GG (v:=vP aU 1) (rs:= []) 3 rfl rfl rfl rfl e9 (λ _ _=>yk) (GG (v:= .func (.func 99) #[] #[]) (rs:= []) 4 rfl rfl rfl rfl e9 (λ _ ⟨_,h⟩=>GH rfl (bS.one B8 (Ho (h.cls (i:=0) rfl) rfl))) (GG (v:= .agg (aY.cells a).toArray) (rs:= []) 5 rfl rfl rfl rfl e9 (λ _ ⟨_,h⟩=>GH rfl (GJ (cs:=(aY.cells a)) B3 y6 ((h.cls (i:=1) rfl).lit (k:=0) (m:=6) rfl))) (GG (v:= .agg (aY.cells a).toArray) (rs:= []) 7 rfl rfl rfl rfl e9 (λ _ ⟨_,h⟩=>GH rfl (GJ (cs:=(aY.cells a)) B3 y6 ((h.cls (i:=1) rfl).lit (k:=0) (m:=6) rfl))) ?_))))))
 obtain⟨f,F⟩:∃ q,oN a=q:=⟨_,rfl⟩
 obtain⟨gV,aV,eO,aW,eP⟩:=Gr dC
 refine H5 6 rfl rfl rfl rfl e9 (Hg Tryz.call99 rfl rfl (vW _ _ a f aV F) ?_)
 rintro _ gW ⟨rfl,aX⟩
 have G:=aW _ _ aX
 refine⟨.inr ⟨_,G⟩, ?_⟩
 refine GG (v:= .bool (decide (¬ ((f.az=a.az)/\(f.aX=a.aX)/\(f.aN=a.aN)/\(f.aO=a.aO)/\(f.aS=a.aS)/\(f.bO=a.bO))))) (rs:= []) 8 rfl rfl rfl rfl e9 (λ _ _=>GN (e:= !(decide ((f.az=a.az)/\(f.aX=a.aX)/\(f.aN=a.aN)/\(f.aO=a.aO)/\(f.aS=a.aS)/\(f.bO=a.bO)))) (Ib rfl rfl e9 rfl (fI.struct u7 e9 (HV (fe.cons (u:=vI f.az) (v:=vI a.az) f5 (λ _=>by kernel_rfl) (λ _=>by kernel_rfl) (fI.int u6) (fe.cons (u:= .string ⟨u3 f.aX⟩) (v:= .string ⟨u3 a.aX⟩) f5 (λ _=>by kernel_rfl) (λ _=>by kernel_rfl) (fI.string u5) (fe.cons (u:= .string ⟨u3 f.aN⟩) (v:= .string ⟨u3 a.aN⟩) f5 (λ _=>by kernel_rfl) (λ _=>by kernel_rfl) (fI.string u5) (fe.cons (u:= .string ⟨u3 f.aO⟩) (v:= .string ⟨u3 a.aO⟩) f5 (λ _=>by kernel_rfl) (λ _=>by kernel_rfl) (fI.string u5) (fe.cons (u:= .string ⟨u3 f.aS⟩) (v:= .string ⟨u3 a.aS⟩) f5 (λ _=>by kernel_rfl) (λ _=>by kernel_rfl) (fI.string u5) (fe.cons (u:=vI f.bO) (v:=vI a.bO) f5 (λ _=>by kernel_rfl) (λ _=>by kernel_rfl) (fI.int u6) (fe.nil.up (Km _)))))))) ((congrArg (decide (f.az=a.az) && ·) ((congrArg (decide (f.aX=a.aX) && ·) ((congrArg (decide (f.aN=a.aN) && ·) ((congrArg (decide (f.aO=a.aO) && ·) ((congrArg (decide (f.aS=a.aS) && ·) kz).trans fo)).trans fo)).trans fo)).trans fo)).trans fo)))) decide_not.symm) (qt (v:= .bool (decide (¬ ((f.az=a.az)/\(f.aX=a.aX)/\(f.aN=a.aN)/\(f.aO=a.aO)/\(f.aS=a.aS)/\(f.bO=a.bO))))) 9 rfl (λ _ _=>Gm rfl rfl rfl) (qn (Gs ?_)))
 by_cases N:(f.az=a.az)/\(f.aX=a.aX)/\(f.aN=a.aN)/\(f.aO=a.aO)/\(f.aS=a.aS)/\(f.bO=a.bO)
 refine jF (dF (Ko N)) (sk (sr (Kz (vP aU 2) (Lz (.func (.func 100) #[] #[]) G 0 B9 (La (aY.cells a) G 1 B3 y6 ?_)))))
 obtain⟨aZ,P⟩:∃ q,ni a=q:=⟨_,rfl⟩
 obtain⟨gX,bf,eT,bg,eU⟩:=Gr G
 refine WL.do rfl (Hg Tryz.call100 rfl rfl (uz _ _ a aZ bf P) ?_)
 rintro _ gY ⟨rfl,bi⟩
 have dD:=bg _ _ bi
 refine An rfl (rt (rs ?_))
 have dE:=dD.pk []
 obtain rfl:=zj hr zq4
 exact⟨rfl,dE,e8⟩
 refine jT (dT N) (sr (An rfl (rt (tR (rs ?_)))))
 have dH:=G.pk []
 obtain rfl:=zj hr zq3
 exact⟨rfl,dH,e8⟩
 by_cases n:a.az=2
 obtain⟨gZ,bn,eX,bq,eY⟩:=Gr t
 refine cl B7 (nG _ _ a.az bn (of_decide_eq_true (dT n))) ?_
 rintro _ ib ⟨rfl,bu⟩
 have dI:=bq _ _ bu
 refine Mz rfl (Kz (.agg #[.bool true, .func (.func 103) #[] #[], .func (.func 104) #[] #[], .func (.func 101) #[] #[], .func (.func 105) #[] #[]]) (Kz (.bool true) ?_))
 refine bW [.bool false, .nilFunc, .nilFunc, .nilFunc, .nilFunc] 149 dI ?_
 intro bv ic dJ
 refine bY [.bool true, .func (.func 103) #[] #[], .func (.func 104) #[] #[], .func (.func 101) #[] #[], .func (.func 105) #[] #[]] 0 dJ y4 ?_
 intro ig dK
 refine An rfl (Gp (Gp ?_))
 refine oD [] (GD (GD GQ)) dK ?_
 intro ik dL
 refine qv 0 rfl rfl (qk (.bool false) 1 rfl (qv 2 rfl rfl (GG (v:=vP bv 1) (rs:= []) 3 rfl rfl rfl rfl e9 (λ _ _=>yk) (GG (v:= .func (.func 103) #[] #[]) (rs:= []) 4 rfl rfl rfl rfl e9 (λ _ ⟨_,h⟩=>GH rfl (bS.one B8 (Ho (h.cls (i:=0) rfl) rfl))) (GG (v:= .agg (aY.cells a).toArray) (rs:= []) 5 rfl rfl rfl rfl e9 (λ _ ⟨_,h⟩=>GH rfl (GJ (cs:=(aY.cells a)) B3 y6 ((h.cls (i:=1) rfl).lit (k:=0) (m:=6) rfl))) (GG (v:= .agg (aY.cells a).toArray) (rs:= []) 7 rfl rfl rfl rfl e9 (λ _ ⟨_,h⟩=>GH rfl (GJ (cs:=(aY.cells a)) B3 y6 ((h.cls (i:=1) rfl).lit (k:=0) (m:=6) rfl))) ?_))))))
 obtain⟨g,I⟩:∃ q,su a=q:=⟨_,rfl⟩
 obtain⟨il,bz,eZ,bA,fq⟩:=Gr dL
 refine H5 6 rfl rfl rfl rfl e9 (Hg Tryz.call103 rfl rfl (zq _ _ a g bz I) ?_)
 rintro _ iq ⟨rfl,bB⟩
 have J:=bA _ _ bB
 refine⟨.inr ⟨_,J⟩, ?_⟩
 refine GG (v:= .bool (decide (¬ ((g.az=a.az)/\(g.aX=a.aX)/\(g.aN=a.aN)/\(g.aO=a.aO)/\(g.aS=a.aS)/\(g.bO=a.bO))))) (rs:= []) 8 rfl rfl rfl rfl e9 (λ _ _=>GN (e:= !(decide ((g.az=a.az)/\(g.aX=a.aX)/\(g.aN=a.aN)/\(g.aO=a.aO)/\(g.aS=a.aS)/\(g.bO=a.bO)))) (Ib rfl rfl e9 rfl (fI.struct u7 e9 (HV (fe.cons (u:=vI g.az) (v:=vI a.az) f5 (λ _=>by kernel_rfl) (λ _=>by kernel_rfl) (fI.int u6) (fe.cons (u:= .string ⟨u3 g.aX⟩) (v:= .string ⟨u3 a.aX⟩) f5 (λ _=>by kernel_rfl) (λ _=>by kernel_rfl) (fI.string u5) (fe.cons (u:= .string ⟨u3 g.aN⟩) (v:= .string ⟨u3 a.aN⟩) f5 (λ _=>by kernel_rfl) (λ _=>by kernel_rfl) (fI.string u5) (fe.cons (u:= .string ⟨u3 g.aO⟩) (v:= .string ⟨u3 a.aO⟩) f5 (λ _=>by kernel_rfl) (λ _=>by kernel_rfl) (fI.string u5) (fe.cons (u:= .string ⟨u3 g.aS⟩) (v:= .string ⟨u3 a.aS⟩) f5 (λ _=>by kernel_rfl) (λ _=>by kernel_rfl) (fI.string u5) (fe.cons (u:=vI g.bO) (v:=vI a.bO) f5 (λ _=>by kernel_rfl) (λ _=>by kernel_rfl) (fI.int u6) (fe.nil.up (Km _)))))))) ((congrArg (decide (g.az=a.az) && ·) ((congrArg (decide (g.aX=a.aX) && ·) ((congrArg (decide (g.aN=a.aN) && ·) ((congrArg (decide (g.aO=a.aO) && ·) ((congrArg (decide (g.aS=a.aS) && ·) kz).trans fo)).trans fo)).trans fo)).trans fo)).trans fo)))) decide_not.symm) (qt (v:= .bool (decide (¬ ((g.az=a.az)/\(g.aX=a.aX)/\(g.aN=a.aN)/\(g.aO=a.aO)/\(g.aS=a.aS)/\(g.bO=a.bO))))) 9 rfl (λ _ _=>Gm rfl rfl rfl) (qn (Gs ?_)))
 by_cases O:(g.az=a.az)/\(g.aX=a.aX)/\(g.aN=a.aN)/\(g.aO=a.aO)/\(g.aS=a.aS)/\(g.bO=a.bO)
 refine jF (dF (Ko O)) (sk (sr (Kz (vP bv 2) (Lz (.func (.func 104) #[] #[]) J 0 B9 (La (aY.cells a) J 1 B3 y6 ?_)))))
 obtain⟨bC,Q⟩:∃ q,oO a=q:=⟨_,rfl⟩
 obtain⟨iw,bD,fu,bE,fw⟩:=Gr J
 refine WL.do rfl (Hg Tryz.call104 rfl rfl (xZ _ _ a bC bD Q) ?_)
 rintro _ iy ⟨rfl,X⟩
 have bF:=bE _ _ X
 refine An rfl (rt (rs ?_))
 have bG:=bF.pk []
 obtain rfl:=zj hr zq5
 exact⟨rfl,bG,e8⟩
 refine jT (dT O) (sr (An rfl (rt (tR (rs ?_)))))
 have bH:=J.pk []
 obtain rfl:=zj hr zq4
 exact⟨rfl,bH,e8⟩
 by_cases j:a.az=3
 obtain⟨fA,Y,dM,Z,dN⟩:=Gr t
 refine cl B7 (nH _ _ a.az Y (of_decide_eq_true (dT j))) ?_
 rintro _ fB ⟨rfl,aa⟩
 have bI:=Z _ _ aa
 refine Mz rfl (Kz (.agg #[.bool true, .func (.func 99) #[] #[], .func (.func 100) #[] #[], .func (.func 101) #[] #[], .func (.func 106) #[] #[]]) (Kz (.bool true) ?_))
 refine bW [.bool false, .nilFunc, .nilFunc, .nilFunc, .nilFunc] 149 bI ?_
 intro R fC bJ
 refine bY [.bool true, .func (.func 99) #[] #[], .func (.func 100) #[] #[], .func (.func 101) #[] #[], .func (.func 106) #[] #[]] 0 bJ y4 ?_
 intro fD bK
 refine An rfl (Gp (Gp ?_))
 refine oD [] (GD (GD GQ)) bK ?_
 intro fE bL
 refine qv 0 rfl rfl (qk (.bool false) 1 rfl (qv 2 rfl rfl (GG (v:=vP R 1) (rs:= []) 3 rfl rfl rfl rfl e9 (λ _ _=>yk) (GG (v:= .func (.func 99) #[] #[]) (rs:= []) 4 rfl rfl rfl rfl e9 (λ _ ⟨_,h⟩=>GH rfl (bS.one B8 (Ho (h.cls (i:=0) rfl) rfl))) (GG (v:= .agg (aY.cells a).toArray) (rs:= []) 5 rfl rfl rfl rfl e9 (λ _ ⟨_,h⟩=>GH rfl (GJ (cs:=(aY.cells a)) B3 y6 ((h.cls (i:=1) rfl).lit (k:=0) (m:=6) rfl))) (GG (v:= .agg (aY.cells a).toArray) (rs:= []) 7 rfl rfl rfl rfl e9 (λ _ ⟨_,h⟩=>GH rfl (GJ (cs:=(aY.cells a)) B3 y6 ((h.cls (i:=1) rfl).lit (k:=0) (m:=6) rfl))) ?_))))))
 obtain⟨b,x⟩:∃ q,oN a=q:=⟨_,rfl⟩
 obtain⟨fF,af,dO,ag,dP⟩:=Gr bL
 refine H5 6 rfl rfl rfl rfl e9 (Hg Tryz.call99 rfl rfl (vW _ _ a b af x) ?_)
 rintro _ fG ⟨rfl,ah⟩
 have p:=ag _ _ ah
 refine⟨.inr ⟨_,p⟩, ?_⟩
 refine GG (v:= .bool (decide (¬ ((b.az=a.az)/\(b.aX=a.aX)/\(b.aN=a.aN)/\(b.aO=a.aO)/\(b.aS=a.aS)/\(b.bO=a.bO))))) (rs:= []) 8 rfl rfl rfl rfl e9 (λ _ _=>GN (e:= !(decide ((b.az=a.az)/\(b.aX=a.aX)/\(b.aN=a.aN)/\(b.aO=a.aO)/\(b.aS=a.aS)/\(b.bO=a.bO)))) (Ib rfl rfl e9 rfl (fI.struct u7 e9 (HV (fe.cons (u:=vI b.az) (v:=vI a.az) f5 (λ _=>by kernel_rfl) (λ _=>by kernel_rfl) (fI.int u6) (fe.cons (u:= .string ⟨u3 b.aX⟩) (v:= .string ⟨u3 a.aX⟩) f5 (λ _=>by kernel_rfl) (λ _=>by kernel_rfl) (fI.string u5) (fe.cons (u:= .string ⟨u3 b.aN⟩) (v:= .string ⟨u3 a.aN⟩) f5 (λ _=>by kernel_rfl) (λ _=>by kernel_rfl) (fI.string u5) (fe.cons (u:= .string ⟨u3 b.aO⟩) (v:= .string ⟨u3 a.aO⟩) f5 (λ _=>by kernel_rfl) (λ _=>by kernel_rfl) (fI.string u5) (fe.cons (u:= .string ⟨u3 b.aS⟩) (v:= .string ⟨u3 a.aS⟩) f5 (λ _=>by kernel_rfl) (λ _=>by kernel_rfl) (fI.string u5) (fe.cons (u:=vI b.bO) (v:=vI a.bO) f5 (λ _=>by kernel_rfl) (λ _=>by kernel_rfl) (fI.int u6) (fe.nil.up (Km _)))))))) ((congrArg (decide (b.az=a.az) && ·) ((congrArg (decide (b.aX=a.aX) && ·) ((congrArg (decide (b.aN=a.aN) && ·) ((congrArg (decide (b.aO=a.aO) && ·) ((congrArg (decide (b.aS=a.aS) && ·) kz).trans fo)).trans fo)).trans fo)).trans fo)).trans fo)))) decide_not.symm) (qt (v:= .bool (decide (¬ ((b.az=a.az)/\(b.aX=a.aX)/\(b.aN=a.aN)/\(b.aO=a.aO)/\(b.aS=a.aS)/\(b.bO=a.bO))))) 9 rfl (λ _ _=>Gm rfl rfl rfl) (qn (Gs ?_)))
 by_cases A:(b.az=a.az)/\(b.aX=a.aX)/\(b.aN=a.aN)/\(b.aO=a.aO)/\(b.aS=a.aS)/\(b.bO=a.bO)
 refine jF (dF (Ko A)) (sk (sr (Kz (vP R 2) (Lz (.func (.func 100) #[] #[]) p 0 B9 (La (aY.cells a) p 1 B3 y6 ?_)))))
 obtain⟨S,K⟩:∃ q,ni a=q:=⟨_,rfl⟩
 obtain⟨fH,ai,dQ,aj,dR⟩:=Gr p
 refine WL.do rfl (Hg Tryz.call100 rfl rfl (uz _ _ a S ai K) ?_)
 rintro _ fJ ⟨rfl,ak⟩
 have bM:=aj _ _ ak
 refine An rfl (rt (rs ?_))
 have bN:=bM.pk []
 obtain rfl:=zj hr zq6
 exact⟨rfl,bN,e8⟩
 refine jT (dT A) (sr (An rfl (rt (tR (rs ?_)))))
 have bO:=p.pk []
 obtain rfl:=zj hr zq5
 exact⟨rfl,bO,e8⟩
 by_cases o:a.az=4
 obtain⟨fK,au,dS,av,dU⟩:=Gr t
 refine cl B7 (nI _ _ a.az au (of_decide_eq_true (dT o))) ?_
 rintro _ fM ⟨rfl,ax⟩
 have bP:=av _ _ ax
 refine Mz rfl (Kz (.agg #[.bool false, .func (.func 107) #[] #[], .func (.func 108) #[] #[], .func (.func 109) #[] #[], .func (.func 110) #[] #[]]) (Kz (.bool true) ?_))
 refine bW [.bool false, .nilFunc, .nilFunc, .nilFunc, .nilFunc] 149 bP ?_
 intro T fO bQ
 refine bY [.bool false, .func (.func 107) #[] #[], .func (.func 108) #[] #[], .func (.func 109) #[] #[], .func (.func 110) #[] #[]] 0 bQ y4 ?_
 intro fP bR
 refine An rfl (Gp (Gp ?_))
 refine oD [] (GD (GD GQ)) bR ?_
 intro fQ bT
 refine qv 0 rfl rfl (qk (.bool false) 1 rfl (qv 2 rfl rfl (GG (v:=vP T 1) (rs:= []) 3 rfl rfl rfl rfl e9 (λ _ _=>yk) (GG (v:= .func (.func 107) #[] #[]) (rs:= []) 4 rfl rfl rfl rfl e9 (λ _ ⟨_,h⟩=>GH rfl (bS.one B8 (Ho (h.cls (i:=0) rfl) rfl))) (GG (v:= .agg (aY.cells a).toArray) (rs:= []) 5 rfl rfl rfl rfl e9 (λ _ ⟨_,h⟩=>GH rfl (GJ (cs:=(aY.cells a)) B3 y6 ((h.cls (i:=1) rfl).lit (k:=0) (m:=6) rfl))) (GG (v:= .agg (aY.cells a).toArray) (rs:= []) 7 rfl rfl rfl rfl e9 (λ _ ⟨_,h⟩=>GH rfl (GJ (cs:=(aY.cells a)) B3 y6 ((h.cls (i:=1) rfl).lit (k:=0) (m:=6) rfl))) ?_))))))
 obtain⟨c,y⟩:∃ q,sw a=q:=⟨_,rfl⟩
 obtain⟨fT,ay,dV,az,dW⟩:=Gr bT
 refine H5 6 rfl rfl rfl rfl e9 (Hg Tryz.call107 rfl rfl (zt _ _ a c ay y) ?_)
 rintro _ fU ⟨rfl,aA⟩
 have r:=az _ _ aA
 refine⟨.inr ⟨_,r⟩, ?_⟩
 refine GG (v:= .bool (decide (¬ ((c.az=a.az)/\(c.aX=a.aX)/\(c.aN=a.aN)/\(c.aO=a.aO)/\(c.aS=a.aS)/\(c.bO=a.bO))))) (rs:= []) 8 rfl rfl rfl rfl e9 (λ _ _=>GN (e:= !(decide ((c.az=a.az)/\(c.aX=a.aX)/\(c.aN=a.aN)/\(c.aO=a.aO)/\(c.aS=a.aS)/\(c.bO=a.bO)))) (Ib rfl rfl e9 rfl (fI.struct u7 e9 (HV (fe.cons (u:=vI c.az) (v:=vI a.az) f5 (λ _=>by kernel_rfl) (λ _=>by kernel_rfl) (fI.int u6) (fe.cons (u:= .string ⟨u3 c.aX⟩) (v:= .string ⟨u3 a.aX⟩) f5 (λ _=>by kernel_rfl) (λ _=>by kernel_rfl) (fI.string u5) (fe.cons (u:= .string ⟨u3 c.aN⟩) (v:= .string ⟨u3 a.aN⟩) f5 (λ _=>by kernel_rfl) (λ _=>by kernel_rfl) (fI.string u5) (fe.cons (u:= .string ⟨u3 c.aO⟩) (v:= .string ⟨u3 a.aO⟩) f5 (λ _=>by kernel_rfl) (λ _=>by kernel_rfl) (fI.string u5) (fe.cons (u:= .string ⟨u3 c.aS⟩) (v:= .string ⟨u3 a.aS⟩) f5 (λ _=>by kernel_rfl) (λ _=>by kernel_rfl) (fI.string u5) (fe.cons (u:=vI c.bO) (v:=vI a.bO) f5 (λ _=>by kernel_rfl) (λ _=>by kernel_rfl) (fI.int u6) (fe.nil.up (Km _)))))))) ((congrArg (decide (c.az=a.az) && ·) ((congrArg (decide (c.aX=a.aX) && ·) ((congrArg (decide (c.aN=a.aN) && ·) ((congrArg (decide (c.aO=a.aO) && ·) ((congrArg (decide (c.aS=a.aS) && ·) kz).trans fo)).trans fo)).trans fo)).trans fo)).trans fo)))) decide_not.symm) (qt (v:= .bool (decide (¬ ((c.az=a.az)/\(c.aX=a.aX)/\(c.aN=a.aN)/\(c.aO=a.aO)/\(c.aS=a.aS)/\(c.bO=a.bO))))) 9 rfl (λ _ _=>Gm rfl rfl rfl) (qn (Gs ?_)))
 by_cases B:(c.az=a.az)/\(c.aX=a.aX)/\(c.aN=a.aN)/\(c.aO=a.aO)/\(c.aS=a.aS)/\(c.bO=a.bO)
 refine jF (dF (Ko B)) (sk (sr (Kz (vP T 2) (Lz (.func (.func 108) #[] #[]) r 0 B9 (La (aY.cells a) r 1 B3 y6 ?_)))))
 obtain⟨U,L⟩:∃ q,oP a=q:=⟨_,rfl⟩
 obtain⟨fV,aB,dX,aC,dY⟩:=Gr r
 refine WL.do rfl (Hg Tryz.call108 rfl rfl (x8 _ _ a U aB L) ?_)
 rintro _ fZ ⟨rfl,aD⟩
 have bU:=aC _ _ aD
 refine An rfl (rt (rs ?_))
 have bV:=bU.pk []
 obtain rfl:=zj hr zq7
 exact⟨rfl,bV,e8⟩
 refine jT (dT B) (sr (An rfl (rt (tR (rs ?_)))))
 have bX:=r.pk []
 obtain rfl:=zj hr zq6
 exact⟨rfl,bX,e8⟩
 by_cases C:a.az=5
 obtain⟨gm,aF,dZ,aG,d9⟩:=Gr t
 refine cl B7 (nJ _ _ a.az aF (of_decide_eq_true (dT C))) ?_
 rintro _ gp ⟨rfl,aH⟩
 have bZ:=aG _ _ aH
 refine Mz rfl (Kz (.agg #[.bool true, .func (.func 111) #[] #[], .func (.func 112) #[] #[], .func (.func 109) #[] #[], .func (.func 113) #[] #[]]) (Kz (.bool true) ?_))
 refine bW [.bool false, .nilFunc, .nilFunc, .nilFunc, .nilFunc] 149 bZ ?_
 intro V gq cu
 refine bY [.bool true, .func (.func 111) #[] #[], .func (.func 112) #[] #[], .func (.func 109) #[] #[], .func (.func 113) #[] #[]] 0 cu y4 ?_
 intro gu cz
 refine An rfl (Gp (Gp ?_))
 refine oD [] (GD (GD GQ)) cz ?_
 intro gy cB
 refine qv 0 rfl rfl (qk (.bool false) 1 rfl (qv 2 rfl rfl (GG (v:=vP V 1) (rs:= []) 3 rfl rfl rfl rfl e9 (λ _ _=>yk) (GG (v:= .func (.func 111) #[] #[]) (rs:= []) 4 rfl rfl rfl rfl e9 (λ _ ⟨_,h⟩=>GH rfl (bS.one B8 (Ho (h.cls (i:=0) rfl) rfl))) (GG (v:= .agg (aY.cells a).toArray) (rs:= []) 5 rfl rfl rfl rfl e9 (λ _ ⟨_,h⟩=>GH rfl (GJ (cs:=(aY.cells a)) B3 y6 ((h.cls (i:=1) rfl).lit (k:=0) (m:=6) rfl))) (GG (v:= .agg (aY.cells a).toArray) (rs:= []) 7 rfl rfl rfl rfl e9 (λ _ ⟨_,h⟩=>GH rfl (GJ (cs:=(aY.cells a)) B3 y6 ((h.cls (i:=1) rfl).lit (k:=0) (m:=6) rfl))) ?_))))))
 obtain⟨d,z⟩:∃ q,rA a=q:=⟨_,rfl⟩
 obtain⟨gz,aI,ed,aJ,ek⟩:=Gr cB
 refine H5 6 rfl rfl rfl rfl e9 (Hg Tryz.call111 rfl rfl (yJ _ _ a d aI z) ?_)
 rintro _ gB ⟨rfl,aK⟩
 have s:=aJ _ _ aK
 refine⟨.inr ⟨_,s⟩, ?_⟩
 refine GG (v:= .bool (decide (¬ ((d.az=a.az)/\(d.aX=a.aX)/\(d.aN=a.aN)/\(d.aO=a.aO)/\(d.aS=a.aS)/\(d.bO=a.bO))))) (rs:= []) 8 rfl rfl rfl rfl e9 (λ _ _=>GN (e:= !(decide ((d.az=a.az)/\(d.aX=a.aX)/\(d.aN=a.aN)/\(d.aO=a.aO)/\(d.aS=a.aS)/\(d.bO=a.bO)))) (Ib rfl rfl e9 rfl (fI.struct u7 e9 (HV (fe.cons (u:=vI d.az) (v:=vI a.az) f5 (λ _=>by kernel_rfl) (λ _=>by kernel_rfl) (fI.int u6) (fe.cons (u:= .string ⟨u3 d.aX⟩) (v:= .string ⟨u3 a.aX⟩) f5 (λ _=>by kernel_rfl) (λ _=>by kernel_rfl) (fI.string u5) (fe.cons (u:= .string ⟨u3 d.aN⟩) (v:= .string ⟨u3 a.aN⟩) f5 (λ _=>by kernel_rfl) (λ _=>by kernel_rfl) (fI.string u5) (fe.cons (u:= .string ⟨u3 d.aO⟩) (v:= .string ⟨u3 a.aO⟩) f5 (λ _=>by kernel_rfl) (λ _=>by kernel_rfl) (fI.string u5) (fe.cons (u:= .string ⟨u3 d.aS⟩) (v:= .string ⟨u3 a.aS⟩) f5 (λ _=>by kernel_rfl) (λ _=>by kernel_rfl) (fI.string u5) (fe.cons (u:=vI d.bO) (v:=vI a.bO) f5 (λ _=>by kernel_rfl) (λ _=>by kernel_rfl) (fI.int u6) (fe.nil.up (Km _)))))))) ((congrArg (decide (d.az=a.az) && ·) ((congrArg (decide (d.aX=a.aX) && ·) ((congrArg (decide (d.aN=a.aN) && ·) ((congrArg (decide (d.aO=a.aO) && ·) ((congrArg (decide (d.aS=a.aS) && ·) kz).trans fo)).trans fo)).trans fo)).trans fo)).trans fo)))) decide_not.symm) (qt (v:= .bool (decide (¬ ((d.az=a.az)/\(d.aX=a.aX)/\(d.aN=a.aN)/\(d.aO=a.aO)/\(d.aS=a.aS)/\(d.bO=a.bO))))) 9 rfl (λ _ _=>Gm rfl rfl rfl) (qn (Gs ?_)))
 by_cases E:(d.az=a.az)/\(d.aX=a.aX)/\(d.aN=a.aN)/\(d.aO=a.aO)/\(d.aS=a.aS)/\(d.bO=a.bO)
 refine jF (dF (Ko E)) (sk (sr (Kz (vP V 2) (Lz (.func (.func 112) #[] #[]) s 0 B9 (La (aY.cells a) s 1 B3 y6 ?_)))))
 obtain⟨W,M⟩:∃ q,lV a=q:=⟨_,rfl⟩
 obtain⟨gD,aL,eu,aM,eB⟩:=Gr s
 refine WL.do rfl (Hg Tryz.call112 rfl rfl (sV _ _ a W aL M) ?_)
 rintro _ gF ⟨rfl,aN⟩
 have cK:=aM _ _ aN
 refine An rfl (rt (rs ?_))
 have cO:=cK.pk []
 obtain rfl:=zj hr zq8
 exact⟨rfl,cO,e8⟩
 refine jT (dT E) (sr (An rfl (rt (tR (rs ?_)))))
 have cZ:=s.pk []
 obtain rfl:=zj hr zq7
 exact⟨rfl,cZ,e8⟩
 obtain⟨gG,aO,eD,aP,eF⟩:=Gr t
 refine cl B7 (tZ _ _ a.az aO e8 e8 e8 e8 e8) ?_
 rintro _ gH ⟨rfl,aQ⟩
 have df:=aP _ _ aQ
 refine Mz rfl (Kz (.agg #[.bool false, .nilFunc, .nilFunc, .nilFunc, .nilFunc]) (Kz (.bool false) ?_))
 refine bW [.bool false, .nilFunc, .nilFunc, .nilFunc, .nilFunc] 149 df ?_
 intro gI gJ dh
 refine bY [.bool false, .nilFunc, .nilFunc, .nilFunc, .nilFunc] 0 dh y4 ?_
 intro gK di
 refine An rfl (Gp (Gp ?_))
 refine oD [] (GD (GD GQ)) di ?_
 intro gL dm
 refine qv 0 rfl rfl (qk (.bool true) 1 rfl (qv 2 rfl rfl (Gy (rs:= []) 3 rfl rfl rfl rfl e9 (Gy (rs:= []) 4 rfl rfl rfl rfl e9 (Gy (rs:= []) 5 rfl rfl rfl rfl e9 (Gy (rs:= []) 6 rfl rfl rfl rfl e9 (Gy (rs:= []) 7 rfl rfl rfl rfl e9 (Gy (rs:= []) 8 rfl rfl rfl rfl e9 (qt (v:= .bool true) 9 rfl (λ _ _=>Gu rfl rfl rfl) (qn (Gs (jt (sr (An rfl (rt (tR (rs ?_)))))))))))))))))
 have dn:=dm.pk []
 obtain rfl:=zj hr zq5
 exact⟨rfl,dn,e8⟩
def kD (c:Nat):List dD->Unit ⊕ Bool
  | []=>v0 ()
  | a::b=>if(a.aV:Int)=(c:Int) then v2 (true) else kD c b
def oQ (a:bA) (b:Nat):Bool:=
 lp (kD b a.ak.ls) λ _=>false
theorem uf (w D) (a:bA) (l z m d B f h n C o k r0) (H:Own w D w []) (F:z=a.ah.ls.length) (R:Ro w D λ w'=>bM w' 2 l a.ah.ls.length (q0 bL.cells a.ah.ls)) (S:a.ah.ls.length<=m/\a.ah.ls.length<=9223372036854775807) (p:r8 bg.abs h=a.ak.ls) (G:B=a.ak.ls.length) (g:Ro w D λ w'=>bM w' 2 d a.ak.ls.length (q0 bg.cells h)) (T:a.ak.ls.length<=f/\a.ak.ls.length<=9223372036854775807) (I:∀ x ∈ h,Ro w D (λ w'=>bM w' 6 x.aJ.A x.aJ.ls.length (q0 aY.cells x.aJ.ls))/\(x.aJ.ls.length<=x.aJ.c/\x.aJ.ls.length<=9223372036854775807)) (J:C=a.af.ls.length) (U:Ro w D λ w'=>bM w' 1 n a.af.ls.length (q0 (eN .u64) a.af.ls)) (V:a.af.ls.length<=o/\a.af.ls.length<=9223372036854775807) (hr:oQ a k=r0):
    Calls u2 64 #[.agg (gU a.bC a.aT a.bv a.aL a.aG l z m d B f n C o a.bi a.aM a.aH.aO a.aH.aS a.aF.aG a.aF.bu a.aF.dA a.aF.aB.aO a.aF.aB.aS).toArray,vU k] w (dG λ v w'=>v= .bool r0/\Own w D w' []):=by
 subst F G J
 have Q:=aW p
 refine cb Tryz.func64 ?_
 refine sr ?_
 refine bW (iU a l m d f n o) 41 H ?_
 intro W ak L
 refine An rfl (Gp (sr (Kz (vP W 6) (Lz (.slice d a.ak.ls.length f) L 0 C0 (Kz (vJ a.ak.ls.length) (Mn rfl (bo ?_)))))))
 have X:=L.pk []
 obtain⟨Y,r⟩:=mP λ (b:Nat) w'=>Own w D w' []/\b<=a.ak.ls.length/\kD k a.ak.ls=kD k (r7 b a.ak.ls)
 refine v4 (λ i:Nat=> [(4, .bool false),(10,vJ i),(9,vJ a.ak.ls.length),(8, .slice d a.ak.ls.length f),(1,vU k)]) Y (λ i=>a.ak.ls.length - i) 0 ⟨rfl,rfl,rfl,rfl,rfl,trivial⟩ (r.2 ⟨X,e8,rfl⟩) ?_
 rintro b au M
 show Wp _ _ _ [(4, .bool false),(10,vJ b),(9,vJ a.ak.ls.length),(8, .slice d a.ak.ls.length f),(1,vU k)] _ _
 obtain⟨s,ai,t⟩:=r.1 M
 refine sr (Kz (.bool (decide ((b:Int) < (a.ak.ls.length:Int)))) (nt (Gp ?_)))
 by_cases N:(b:Int) < (a.ak.ls.length:Int)
 obtain⟨j,u⟩:=dI (ls:=h) (i:=b) bg.len f5 (s.ro g) f2
 have O:=fO p u
 have aj:=(I _ (C1 u)).2
 have E:=drop_at O
 refine jT (dT N) (sk (Gp (bo (sr (fw (.pointer (some ⟨ab d,ao d+b *2,none⟩)) (GI (kg) rfl rfl ((s.ro g).addr (i:=b) e8) e8) (fw (.agg (bg.cells j).toArray) (GH rfl (GJ (cs:=(bg.cells j)) Tryz.isAgg60 C2 ((s.ro g).elem bg.len u f5))) ?_))))))
 refine bW [.int .u64 0, .slice none 0 0] 60 s ?_
 intro Z av aa
 refine bY (bg.cells j) 0 aa C2 ?_
 intro ax K
 refine ns (Kz (vP Z 0) (Lz (vU j.aV) K 0 C4 (Mz rfl (Kz (.bool (decide ((j.aV:Int)=(k:Int)))) (nt ?_)))))
 by_cases y:(j.aV:Int)=(k:Int)
 refine jT (dT y) (sr (An rfl (rt (bR (tR (tR (bR (tR (rs ?_)))))))))
 have ae:=K.pk []
 obtain rfl:_=true:=zj hr (iG (et (t) (et (congrArg (λ q=>kD k q) E) (ip y))))
 exact⟨rfl,ae⟩
 refine jF (dF y) (G7 (bN (Gs (Gq (fw (vJ (b+1)) (Gw (e:=v7.wrap ((b:Int)+1)) yk f1) (Mz rfl (v8 ?_)))))))
 have af:=K.pk []
 exact GL (b+1) ⟨rfl,rfl,rfl,rfl,rfl,trivial⟩ (r.2 ⟨af,e8,et (t) (et (congrArg (λ q=>kD k q) E) (iN y))⟩) (by show a.ak.ls.length - (b+1) < a.ak.ls.length - b; omega)
 refine jF (dF N) (v9 (GK ?_))
 have P:kD k a.ak.ls=v0 ():=et (t) (et (congrArg (λ q=>kD k q) (eP (ls:=a.ak.ls) (i:=b) e8)) rfl)
 refine GK (GR (Gs (sr (An rfl (rt (rs ?_))))))
 have ag:=s.pk []
 obtain rfl:_=false:=zj hr (kZ P)
 exact⟨rfl,ag⟩
def jH (b:Nat):List aY->Unit ⊕ Bool
  | []=>v0 ()
  | c::d=>bnd (eQ c) λ a=>if a=0 then jH b d else v2 (false)
def jI (d:Nat):List aY->Unit ⊕ Bool
  | []=>v0 ()
  | b::c=>bnd (eQ b) λ a=>if a=0 then jI d c else v2 (false)
def gq (g:bA):List dD->Nat->Unit ⊕ Bool
  | [],a=>v0 ()
  | b::d,a=>if(a:Int) > 0 then bnd (v1 g.ak.ls (a - 1) default) λ e=>if(b.aV:Int)<=(e.aV:Int) then v2 (false) else bnd (mD (b.aJ.ls.length:Int) 24) λ f=>if f=true then Cs (jH a b.aJ.ls) λ _=>gq g d (a+1) else v2 (false) else bnd (mD (b.aJ.ls.length:Int) 24) λ c=>if c=true then Cs (jI a b.aJ.ls) λ _=>gq g d (a+1) else v2 (false)
def gY (g:bA):List Nat->Nat->Unit ⊕ Bool
  | [],a=>v0 ()
  | b::c,a=>if(a:Int) > 0 then bnd (v1 g.af.ls (a - 1) default) λ d=>if(b:Int)<=(d:Int) then v2 (false) else bnd (oQ g b) λ e=>if e=true then v2 (false) else gY g c (a+1) else bnd (oQ g b) λ f=>if f=true then v2 (false) else gY g c (a+1)
def q8 (a:bA):Bool:=
 if(a.ak.ls.length:Int) > 6 then false else if((a.ak.ls.length+a.af.ls.length:Nat):Int) > 64 then false else lp (gq a a.ak.ls 0) λ _=>lp (gY a a.af.ls 0) λ _=>true
theorem wQ (w D) (d:bA) (z bn u f bq h Q l bu o r0) (H:Own w D w []) (bK:bn=d.ah.ls.length) (aK:Ro w D λ w'=>bM w' 2 z d.ah.ls.length (q0 bL.cells d.ah.ls)) (eX:d.ah.ls.length<=u/\d.ah.ls.length<=9223372036854775807) (R:r8 bg.abs Q=d.ak.ls) (bO:bq=d.ak.ls.length) (I:Ro w D λ w'=>bM w' 2 f d.ak.ls.length (q0 bg.cells Q)) (eY:d.ak.ls.length<=h/\d.ak.ls.length<=9223372036854775807) (p:∀ x ∈ Q,Ro w D (λ w'=>bM w' 6 x.aJ.A x.aJ.ls.length (q0 aY.cells x.aJ.ls))/\(x.aJ.ls.length<=x.aJ.c/\x.aJ.ls.length<=9223372036854775807)) (bP:bu=d.af.ls.length) (B:Ro w D λ w'=>bM w' 1 l d.af.ls.length (q0 (eN .u64) d.af.ls)) (eZ:d.af.ls.length<=o/\d.af.ls.length<=9223372036854775807) (gV:d.ah.ls.length<=140737488355328/\d.ak.ls.length<=140737488355328/\d.af.ls.length<=140737488355328) (hr:q8 d=r0):
    Calls u2 31 #[.agg (gU d.bC d.aT d.bv d.aL d.aG z bn u f bq h l bu o d.bi d.aM d.aH.aO d.aH.aS d.aF.aG d.aF.bu d.aF.dA d.aF.aB.aO d.aF.aB.aS).toArray] w (dG λ v w'=>v= .bool r0/\Own w D w' []):=by
 unfold q8 at hr
 subst bK bO bP
 have eU:=aW R
 refine cb Tryz.func31 ?_
 refine sr ?_
 refine bW (iU d z u f h l o) 41 H ?_
 intro s gW au
 refine An rfl (Gp (sr (Kz (vP s 6) (Lz (.slice f d.ak.ls.length h) au 0 C0 (Kz (vJ d.ak.ls.length) (Kz (.bool (decide ((d.ak.ls.length:Int) > 6))) (Mz rfl ?_)))))))
 by_cases m:(d.ak.ls.length:Int) > 6
 refine Sz (dT m) (Sz (dT m) (Sz (dT m) (Sz (dT m) (Sz (dT m) (Sz (dT m) (Sz (dT m) (Sz (dT m) (fw (.bool true) (Gu rfl (dT m) rfl) (nt (jt (sr (An rfl (rt (tR (rs ?_)))))))))))))))
 have fe:=au.pk []
 obtain rfl:=zj hr zq1
 exact⟨rfl,fe⟩
 refine Gz (vP s 6) (dF m) (Gl (.slice f d.ak.ls.length h) (dF m) au 0 C0 (Gz (vJ d.ak.ls.length) (dF m) (Gz (vP s 7) (dF m) (Gl (.slice l d.af.ls.length o) (dF m) au 0 C5 (Gz (vJ d.af.ls.length) (dF m) (gw (vJ (d.ak.ls.length+d.af.ls.length)) (dF m) (Gw (e:=v7.wrap ((d.ak.ls.length:Int)+(d.af.ls.length:Int))) yk f1) (Gz (.bool (decide (((d.ak.ls.length+d.af.ls.length:Nat):Int) > 64))) (dF m) (fw (.bool (decide (((d.ak.ls.length+d.af.ls.length:Nat):Int) > 64))) (Gm rfl (dF m) rfl) (nt ?_)))))))))
 by_cases O:((d.ak.ls.length+d.af.ls.length:Nat):Int) > 64
 refine jT (dT O) (sr (An rfl (rt (tR (rs ?_)))))
 have fo:=au.pk []
 obtain rfl:=zj hr zq2
 exact⟨rfl,fo⟩
 refine jF (dF O) (sk (Gp (sr (Kz (vP s 6) (Lz (.slice f d.ak.ls.length h) au 0 C0 (Kz (vJ d.ak.ls.length) (Mn rfl (bo ?_))))))))
 have fq:=au.pf []
 obtain⟨fu,aB⟩:=mP λ (b:Nat) w'=>Own w D w' [blk s (iU d z u f h l o) 41]/\b<=d.ak.ls.length/\gq d d.ak.ls 0=gq d (r7 b d.ak.ls) b
 refine v4 (λ i:Nat=> [(2, .bool false),(26,vJ i),(25,vJ d.ak.ls.length),(24, .slice f d.ak.ls.length h),(1,vP s 0)]) fu (λ i=>d.ak.ls.length - i) 0 ⟨rfl,rfl,rfl,rfl,rfl,trivial⟩ (aB.2 ⟨fq,e8,rfl⟩) ?_
 rintro b gX dx
 show Wp _ _ _ [(2, .bool false),(26,vJ b),(25,vJ d.ak.ls.length),(24, .slice f d.ak.ls.length h),(1,vP s 0)] _ _
 obtain⟨aI,fU,M⟩:=aB.1 dx
 refine sr (Kz (.bool (decide ((b:Int) < (d.ak.ls.length:Int)))) (nt (Gp ?_)))
 by_cases dz:(b:Int) < (d.ak.ls.length:Int)
 obtain⟨a,K⟩:=dI (ls:=Q) (i:=b) bg.len f5 (aI.ro I) f2
 have dA:=fO R K
 have fV:=(p _ (C1 K)).2
 have S:=drop_at dA
 refine jT (dT dz) (sk (Gp (bo (sr (Mz rfl (fw (.pointer (some ⟨ab f,ao f+b *2,none⟩)) (GI (kg) rfl rfl ((aI.ro I).addr (i:=b) e8) e8) (fw (.agg (bg.cells a).toArray) (GH rfl (GJ (cs:=(bg.cells a)) Tryz.isAgg60 C2 ((aI.ro I).elem bg.len K f5))) ?_)))))))
 refine bW [.int .u64 0, .slice none 0 0] 60 aI ?_
 intro t gZ fA
 refine Az rfl ?_
 refine bY (bg.cells a) 0 fA C2 ?_
 intro ib fB
 refine nt (Gp (Gp ?_))
 refine oD [] (GD (GD (bH.block (GD (GD (bH.block (GD GQ))))))) fB ?_
 intro ic bQ
 refine qv 0 rfl rfl (qk (.bool (decide ((b:Int) > 0))) 1 rfl (qv 2 rfl rfl ?_))
 by_cases n:(b:Int) > 0
 refine GG (v:=vP t 0) (rs:= []) 3 rfl rfl rfl (dT n) e9 (λ _ _=>yk) (GG (v:=vU a.aV) (rs:= []) 4 rfl rfl rfl (dT n) e9 (λ _ ⟨_,H9⟩=>GH rfl (bS.one C4 (Ho (H9.cls (i:=0) rfl) rfl))) (GG (v:=vP s 6) (rs:= []) 5 rfl rfl rfl (dT n) e9 (λ _ _=>yk) (GG (v:= .slice f d.ak.ls.length h) (rs:= []) 6 rfl rfl rfl (dT n) e9 (λ _ ⟨_,H9⟩=>GH rfl (bS.one C0 (Ho (H9.cls (i:=1) rfl) rfl))) (GG (v:=vJ b) (rs:= []) 7 rfl rfl rfl (dT n) e9 (λ _ _=>Gv rfl) (GG (v:=vJ (b - 1)) (rs:= []) 8 rfl rfl rfl (dT n) e9 (λ _ _=>Gw (e:=v7.wrap ((b:Int) - 1)) yk f1) ?_)))))
 obtain⟨P,aM⟩:=mK (ls:=Q) (i:=b - 1) f2
 have aC:=fO R aM
 have fZ:=(p _ (C1 aM)).2
 refine GG (v:= .pointer (some ⟨ab f,ao f+(b - 1) *2,none⟩)) (rs:= []) 9 rfl rfl rfl (dT n) e9 (λ _ ⟨_,H9⟩=>GI (kg) rfl rfl ((H9.ro I).addr (i:=b - 1) e8) e8) (GG (v:= .pointer (some ⟨ab f,ao f+(b - 1) *2,none⟩)) (rs:= []) 10 rfl rfl rfl (dT n) e9 (λ _ _=>yk) (GG (v:=vU P.aV) (rs:= []) 11 rfl rfl rfl (dT n) e9 (λ _ ⟨_,H9⟩=>GH rfl (bS.one C4 (((H9.ro I).elem bg.len aM f5).at_ (k:=0) rfl))) (GG (v:= .bool (decide ((a.aV:Int)<=(P.aV:Int)))) (rs:= []) 12 rfl rfl rfl (dT n) e9 (λ _ _=>yk) (qt (v:= .bool (decide ((a.aV:Int)<=(P.aV:Int)))) 13 rfl (λ _ _=>Gu rfl (dT n) rfl) (qv 14 rfl rfl ?_)))))
 by_cases F:(a.aV:Int)<=(P.aV:Int)
 refine Gy (rs:= []) 15 rfl rfl rfl (dT F) e9 (Gy (rs:= []) 16 rfl rfl rfl (dT F) e9 (Gy (rs:= []) 17 rfl rfl rfl (dT F) e9 (Gy (rs:= []) 18 rfl rfl rfl (dT F) e9 (Gy (rs:= []) 19 rfl rfl rfl (dT F) e9 (qt (v:= .bool true) 20 rfl (λ _ _=>Gu rfl (dT F) rfl) (qn (Gs (jt (sr (An rfl (rt (tR (bR (tR (tR (bR (tR (rs ?_))))))))))))))))))
 have fC:=bQ.pk []
 obtain rfl:_=false:=zj hr (et (iN m) (et (iN O) (iG (et (M) (et (congrArg (λ q=>gq d q b) S) (et (ip n) (et (ae (bz aC)) (ip F))))))))
 exact⟨rfl,fC⟩
 refine GG (v:=vP t 1) (rs:= []) 15 rfl rfl rfl (dF F) e9 (λ _ _=>yk) (GG (v:= .slice a.aJ.A a.aJ.ls.length a.aJ.c) (rs:= []) 16 rfl rfl rfl (dF F) e9 (λ _ ⟨_,H9⟩=>GH rfl (bS.one C6 (Ho (H9.cls (i:=0) rfl) rfl))) (GG (v:=vJ a.aJ.ls.length) (rs:= []) 17 rfl rfl rfl (dF F) e9 (λ _ _=>yk) ?_))
 obtain⟨U,aD⟩:∃ q,mD (a.aJ.ls.length:Int) 24=q:=⟨_,rfl⟩
 obtain⟨ig,dB,gm,dC,gp⟩:=Gr bQ
 refine H5 18 rfl rfl rfl (dF F) e9 (GV C7 rfl (qA _ _ (a.aJ.ls.length:Int) 24 U dB aD) ?_)
 rintro _ ik ⟨rfl,dD⟩
 have bf:=dC _ _ dD
 refine⟨.inr ⟨_,bf⟩, ?_⟩
 refine GG (v:= .bool (!U)) (rs:= []) 19 rfl rfl rfl (dF F) e9 (λ _ _=>yk) (qt (v:= .bool (!U)) 20 rfl (λ _ _=>Gm rfl (dF F) rfl) (qn (Gs ?_)))
 rcases Kq (U) with aJ | aJ
 refine jF (cn aJ) (sk (sr (Kz (vP t 1) (Lz (.slice a.aJ.A a.aJ.ls.length a.aJ.c) bf 0 C6 (Kz (vJ a.aJ.ls.length) (Mn rfl (bo ?_)))))))
 have fD:=bf.pf []
 obtain⟨fE,aN⟩:=mP λ (J:Nat) w'=>Own w D w' [blk t (bg.cells a) 60,blk s (iU d z u f h l o) 41]/\J<=a.aJ.ls.length/\jH b a.aJ.ls=jH b (r7 J a.aJ.ls)
 refine v4 (λ i:Nat=> [(2, .bool false),(55,vJ i),(54,vJ a.aJ.ls.length),(53, .slice a.aJ.A a.aJ.ls.length a.aJ.c),(52,vP t 1),(51, .bool (!U)),(50, .bool (!U)),(49, .bool U),(48,vJ a.aJ.ls.length),(47, .slice a.aJ.A a.aJ.ls.length a.aJ.c),(46,vP t 1),(45, .bool (decide ((a.aV:Int)<=(P.aV:Int)))),(44, .bool (decide ((a.aV:Int)<=(P.aV:Int)))),(43, .bool (decide ((a.aV:Int)<=(P.aV:Int)))),(42,vU P.aV),(41, .pointer (some ⟨ab f,ao f+(b - 1) *2,none⟩)),(40, .pointer (some ⟨ab f,ao f+(b - 1) *2,none⟩)),(39,vJ (b - 1)),(38,vJ b),(37, .slice f d.ak.ls.length h),(36,vP s 6),(35,vU a.aV),(34,vP t 0),(33, .bool (decide ((b:Int) > 0))),(32, .bool (decide ((b:Int) > 0))),(31,vJ b),(3,vJ b),(4,vP t 0),(30, .agg (bg.cells a).toArray),(29, .pointer (some ⟨ab f,ao f+b *2,none⟩)),(28,vJ b),(27, .bool (decide ((b:Int) < (d.ak.ls.length:Int)))),(26,vJ b),(25,vJ d.ak.ls.length),(24, .slice f d.ak.ls.length h),(1,vP s 0)]) fE (λ i=>a.aJ.ls.length - i) 0 ⟨rfl,rfl,rfl,rfl,rfl,rfl,rfl,rfl,rfl,rfl,rfl,rfl,rfl,rfl,rfl,rfl,rfl,rfl,rfl,rfl,rfl,rfl,rfl,rfl,rfl,rfl,rfl,rfl,rfl,rfl,rfl,rfl,rfl,rfl,rfl,rfl,trivial⟩ (aN.2 ⟨fD,e8,rfl⟩) ?_
 rintro J il dE
 show Wp _ _ _ [(2, .bool false),(55,vJ J),(54,vJ a.aJ.ls.length),(53, .slice a.aJ.A a.aJ.ls.length a.aJ.c),(52,vP t 1),(51, .bool (!U)),(50, .bool (!U)),(49, .bool U),(48,vJ a.aJ.ls.length),(47, .slice a.aJ.A a.aJ.ls.length a.aJ.c),(46,vP t 1),(45, .bool (decide ((a.aV:Int)<=(P.aV:Int)))),(44, .bool (decide ((a.aV:Int)<=(P.aV:Int)))),(43, .bool (decide ((a.aV:Int)<=(P.aV:Int)))),(42,vU P.aV),(41, .pointer (some ⟨ab f,ao f+(b - 1) *2,none⟩)),(40, .pointer (some ⟨ab f,ao f+(b - 1) *2,none⟩)),(39,vJ (b - 1)),(38,vJ b),(37, .slice f d.ak.ls.length h),(36,vP s 6),(35,vU a.aV),(34,vP t 0),(33, .bool (decide ((b:Int) > 0))),(32, .bool (decide ((b:Int) > 0))),(31,vJ b),(3,vJ b),(4,vP t 0),(30, .agg (bg.cells a).toArray),(29, .pointer (some ⟨ab f,ao f+b *2,none⟩)),(28,vJ b),(27, .bool (decide ((b:Int) < (d.ak.ls.length:Int)))),(26,vJ b),(25,vJ d.ak.ls.length),(24, .slice f d.ak.ls.length h),(1,vP s 0)] _ _
 obtain⟨aO,gu,aP⟩:=aN.1 dE
 refine sr (Kz (.bool (decide ((J:Int) < (a.aJ.ls.length:Int)))) (nt (Gp ?_)))
 by_cases dH:(J:Int) < (a.aJ.ls.length:Int)
 obtain⟨ag,bv⟩:=dI (ls:=a.aJ.ls) (i:=J) aY.len f5 (aO.ro (p _ (C1 K)).1) f2
 have bB:=drop_at bv
 refine jT (dT dH) (sk (Gp (bo (sr (fw (.pointer (some ⟨ab a.aJ.A,ao a.aJ.A+J *6,none⟩)) (GI (nD) rfl rfl ((aO.ro (p _ (C1 K)).1).addr (i:=J) e8) e8) (fw (.agg (aY.cells ag).toArray) (GH rfl (GJ (cs:=(aY.cells ag)) B3 y6 ((aO.ro (p _ (C1 K)).1).elem aY.len bv f5))) ?_))))))
 refine bW [vI 0, .string ⟨u3 []⟩, .string ⟨u3 []⟩, .string ⟨u3 []⟩, .string ⟨u3 []⟩,vI 0] 68 aO ?_
 intro iq iw fF
 refine bY (aY.cells ag) 0 fF y6 ?_
 intro iy dJ
 refine ns (La (aY.cells ag) dJ 0 B3 y6 ?_)
 obtain⟨aQ,aR⟩:∃ q,eQ ag=q:=⟨_,rfl⟩
 obtain⟨iA,dK,gy,dL,gz⟩:=Gr dJ
 refine cl Tryz.call63 (mR _ _ ag aQ dK aR) ?_
 rintro _ iB ⟨rfl,dM,bC⟩
 have dN:=dL _ _ dM
 replace bC: ¬ (aQ=0)\/(1<=ag.az/\ag.az<=5):=bC
 refine fw (.bool (decide (¬ (aQ=0)))) (GN (e:= !(decide (aQ=0))) yk decide_not.symm) (nt ?_)
 by_cases bi:aQ=0
 refine jF (dF (Ko bi)) (G7 (bN (Gs (Gq (fw (vJ (J+1)) (Gw (e:=v7.wrap ((J:Int)+1)) yk f1) (Mz rfl (v8 ?_)))))))
 have dO:=dN.pk [1,2]
 exact GL (J+1) ⟨rfl,rfl,rfl,rfl,rfl,rfl,rfl,rfl,rfl,rfl,rfl,rfl,rfl,rfl,rfl,rfl,rfl,rfl,rfl,rfl,rfl,rfl,rfl,rfl,rfl,rfl,rfl,rfl,rfl,rfl,rfl,rfl,rfl,rfl,rfl,rfl,trivial⟩ (aN.2 ⟨dO,e8,et (aP) (et (congrArg (λ q=>jH b q) bB) (et (ae aR) (ip bi)))⟩) (by show a.aJ.ls.length - (J+1) < a.aJ.ls.length - J; omega)
 refine jT (dT bi) (sr (An rfl (rt (bR (tR (tR (bR (bR (tR (tR (bR (tR (rs ?_)))))))))))))
 have dP:=dN.pk []
 obtain rfl:_=false:=zj hr (et (iN m) (et (iN O) (iG (et (M) (et (congrArg (λ q=>gq d q b) S) (et (ip n) (et (ae (bz aC)) (et (iN F) (et (ae aD) (et (ip aJ) (zD (et (aP) (et (congrArg (λ q=>jH b q) bB) (et (ae aR) (iN bi)))))))))))))))
 exact⟨rfl,dP⟩
 refine jF (dF dH) (v9 (GK ?_))
 have bT:jH b a.aJ.ls=v0 ():=et (aP) (et (congrArg (λ q=>jH b q) (eP (ls:=a.aJ.ls) (i:=J) e8)) rfl)
 refine GK (GR (bN (Gs (Gq (fw (vJ (b+1)) (Gw (e:=v7.wrap ((b:Int)+1)) yk f1) (Mz rfl (v8 ?_)))))))
 have dQ:=aO.pk [1]
 exact GL (b+1) ⟨rfl,rfl,rfl,rfl,rfl,trivial⟩ (aB.2 ⟨dQ,e8,et (M) (et (congrArg (λ q=>gq d q b) S) (et (ip n) (et (ae (bz aC)) (et (iN F) (et (ae aD) (et (ip aJ) (BO bT)))))))⟩) (by show d.ak.ls.length - (b+1) < d.ak.ls.length - b; omega)
 refine jT (cn aJ) (sr (An rfl (rt (tR (bR (tR (tR (bR (tR (rs ?_))))))))))
 have dR:=bf.pk []
 obtain rfl:_=false:=zj hr (et (iN m) (et (iN O) (iG (et (M) (et (congrArg (λ q=>gq d q b) S) (et (ip n) (et (ae (bz aC)) (et (iN F) (et (ae aD) (dY aJ))))))))))
 exact⟨rfl,dR⟩
 refine Gy (rs:= []) 3 rfl rfl rfl (dF n) e9 (Gy (rs:= []) 4 rfl rfl rfl (dF n) e9 (Gy (rs:= []) 5 rfl rfl rfl (dF n) e9 (Gy (rs:= []) 6 rfl rfl rfl (dF n) e9 (Gy (rs:= []) 7 rfl rfl rfl (dF n) e9 (Gy (rs:= []) 8 rfl rfl rfl (dF n) e9 (Gy (rs:= []) 9 rfl rfl rfl (dF n) e9 (Gy (rs:= []) 10 rfl rfl rfl (dF n) e9 (Gy (rs:= []) 11 rfl rfl rfl (dF n) e9 (Gy (rs:= []) 12 rfl rfl rfl (dF n) e9 (qt (v:= .bool false) 13 rfl (λ _ _=>Gm rfl (dF n) rfl) (qv 14 rfl rfl (GG (v:=vP t 1) (rs:= []) 15 rfl rfl rfl rfl e9 (λ _ _=>yk) (GG (v:= .slice a.aJ.A a.aJ.ls.length a.aJ.c) (rs:= []) 16 rfl rfl rfl rfl e9 (λ _ ⟨_,H9⟩=>GH rfl (bS.one C6 (Ho (H9.cls (i:=0) rfl) rfl))) (GG (v:=vJ a.aJ.ls.length) (rs:= []) 17 rfl rfl rfl rfl e9 (λ _ _=>yk) ?_))))))))))))))
 obtain⟨G,W⟩:∃ q,mD (a.aJ.ls.length:Int) 24=q:=⟨_,rfl⟩
 obtain⟨gB,bU,fG,bV,fH⟩:=Gr bQ
 refine H5 18 rfl rfl rfl rfl e9 (GV C7 rfl (qA _ _ (a.aJ.ls.length:Int) 24 G bU W) ?_)
 rintro _ gD ⟨rfl,bX⟩
 have aF:=bV _ _ bX
 refine⟨.inr ⟨_,aF⟩, ?_⟩
 refine GG (v:= .bool (!G)) (rs:= []) 19 rfl rfl rfl rfl e9 (λ _ _=>yk) (qt (v:= .bool (!G)) 20 rfl (λ _ _=>Gm rfl rfl rfl) (qn (Gs ?_)))
 rcases Kq (G) with V | V
 refine jF (cn V) (sk (sr (Kz (vP t 1) (Lz (.slice a.aJ.A a.aJ.ls.length a.aJ.c) aF 0 C6 (Kz (vJ a.aJ.ls.length) (Mn rfl (bo ?_)))))))
 have dS:=aF.pf []
 obtain⟨dU,av⟩:=mP λ (r:Nat) w'=>Own w D w' [blk t (bg.cells a) 60,blk s (iU d z u f h l o) 41]/\r<=a.aJ.ls.length/\jI b a.aJ.ls=jI b (r7 r a.aJ.ls)
 refine v4 (λ i:Nat=> [(2, .bool false),(55,vJ i),(54,vJ a.aJ.ls.length),(53, .slice a.aJ.A a.aJ.ls.length a.aJ.c),(52,vP t 1),(51, .bool (!G)),(50, .bool (!G)),(49, .bool G),(48,vJ a.aJ.ls.length),(47, .slice a.aJ.A a.aJ.ls.length a.aJ.c),(46,vP t 1),(45, .bool false),(44, .bool false),(43,undef),(42,undef),(41,undef),(40,undef),(39,undef),(38,undef),(37,undef),(36,undef),(35,undef),(34,undef),(33, .bool (decide ((b:Int) > 0))),(32, .bool (decide ((b:Int) > 0))),(31,vJ b),(3,vJ b),(4,vP t 0),(30, .agg (bg.cells a).toArray),(29, .pointer (some ⟨ab f,ao f+b *2,none⟩)),(28,vJ b),(27, .bool (decide ((b:Int) < (d.ak.ls.length:Int)))),(26,vJ b),(25,vJ d.ak.ls.length),(24, .slice f d.ak.ls.length h),(1,vP s 0)]) dU (λ i=>a.aJ.ls.length - i) 0 ⟨rfl,rfl,rfl,rfl,rfl,rfl,rfl,rfl,rfl,rfl,rfl,rfl,rfl,rfl,rfl,rfl,rfl,rfl,rfl,rfl,rfl,rfl,rfl,rfl,rfl,rfl,rfl,rfl,rfl,rfl,rfl,rfl,rfl,rfl,rfl,rfl,trivial⟩ (av.2 ⟨dS,e8,rfl⟩) ?_
 rintro r gF bZ
 show Wp _ _ _ [(2, .bool false),(55,vJ r),(54,vJ a.aJ.ls.length),(53, .slice a.aJ.A a.aJ.ls.length a.aJ.c),(52,vP t 1),(51, .bool (!G)),(50, .bool (!G)),(49, .bool G),(48,vJ a.aJ.ls.length),(47, .slice a.aJ.A a.aJ.ls.length a.aJ.c),(46,vP t 1),(45, .bool false),(44, .bool false),(43,undef),(42,undef),(41,undef),(40,undef),(39,undef),(38,undef),(37,undef),(36,undef),(35,undef),(34,undef),(33, .bool (decide ((b:Int) > 0))),(32, .bool (decide ((b:Int) > 0))),(31,vJ b),(3,vJ b),(4,vP t 0),(30, .agg (bg.cells a).toArray),(29, .pointer (some ⟨ab f,ao f+b *2,none⟩)),(28,vJ b),(27, .bool (decide ((b:Int) < (d.ak.ls.length:Int)))),(26,vJ b),(25,vJ d.ak.ls.length),(24, .slice f d.ak.ls.length h),(1,vP s 0)] _ _
 obtain⟨ah,fI,ax⟩:=av.1 bZ
 refine sr (Kz (.bool (decide ((r:Int) < (a.aJ.ls.length:Int)))) (nt (Gp ?_)))
 by_cases bD:(r:Int) < (a.aJ.ls.length:Int)
 obtain⟨N,aS⟩:=dI (ls:=a.aJ.ls) (i:=r) aY.len f5 (ah.ro (p _ (C1 K)).1) f2
 have aT:=drop_at aS
 refine jT (dT bD) (sk (Gp (bo (sr (fw (.pointer (some ⟨ab a.aJ.A,ao a.aJ.A+r *6,none⟩)) (GI (nD) rfl rfl ((ah.ro (p _ (C1 K)).1).addr (i:=r) e8) e8) (fw (.agg (aY.cells N).toArray) (GH rfl (GJ (cs:=(aY.cells N)) B3 y6 ((ah.ro (p _ (C1 K)).1).elem aY.len aS f5))) ?_))))))
 refine bW [vI 0, .string ⟨u3 []⟩, .string ⟨u3 []⟩, .string ⟨u3 []⟩, .string ⟨u3 []⟩,vI 0] 68 ah ?_
 intro gG gH dV
 refine bY (aY.cells N) 0 dV y6 ?_
 intro gI bE
 refine ns (La (aY.cells N) bE 0 B3 y6 ?_)
 obtain⟨ai,ay⟩:∃ q,eQ N=q:=⟨_,rfl⟩
 obtain⟨gJ,cu,fJ,cz,fK⟩:=Gr bE
 refine cl Tryz.call63 (mR _ _ N ai cu ay) ?_
 rintro _ gK ⟨rfl,cB,aU⟩
 have bF:=cz _ _ cB
 replace aU: ¬ (ai=0)\/(1<=N.az/\N.az<=5):=aU
 refine fw (.bool (decide (¬ (ai=0)))) (GN (e:= !(decide (ai=0))) yk decide_not.symm) (nt ?_)
 by_cases aG:ai=0
 refine jF (dF (Ko aG)) (G7 (bN (Gs (Gq (fw (vJ (r+1)) (Gw (e:=v7.wrap ((r:Int)+1)) yk f1) (Mz rfl (v8 ?_)))))))
 have dW:=bF.pk [1,2]
 exact GL (r+1) ⟨rfl,rfl,rfl,rfl,rfl,rfl,rfl,rfl,rfl,rfl,rfl,rfl,rfl,rfl,rfl,rfl,rfl,rfl,rfl,rfl,rfl,rfl,rfl,rfl,rfl,rfl,rfl,rfl,rfl,rfl,rfl,rfl,rfl,rfl,rfl,rfl,trivial⟩ (av.2 ⟨dW,e8,et (ax) (et (congrArg (λ q=>jI b q) aT) (et (ae ay) (ip aG)))⟩) (by show a.aJ.ls.length - (r+1) < a.aJ.ls.length - r; omega)
 refine jT (dT aG) (sr (An rfl (rt (bR (tR (tR (bR (bR (tR (tR (bR (tR (rs ?_)))))))))))))
 have dX:=bF.pk []
 obtain rfl:_=false:=zj hr (et (iN m) (et (iN O) (iG (et (M) (et (congrArg (λ q=>gq d q b) S) (et (iN n) (et (ae W) (et (ip V) (zD (et (ax) (et (congrArg (λ q=>jI b q) aT) (et (ae ay) (iN aG)))))))))))))
 exact⟨rfl,dX⟩
 refine jF (dF bD) (v9 (GK ?_))
 have cK:jI b a.aJ.ls=v0 ():=et (ax) (et (congrArg (λ q=>jI b q) (eP (ls:=a.aJ.ls) (i:=r) e8)) rfl)
 refine GK (GR (bN (Gs (Gq (fw (vJ (b+1)) (Gw (e:=v7.wrap ((b:Int)+1)) yk f1) (Mz rfl (v8 ?_)))))))
 have dZ:=ah.pk [1]
 exact GL (b+1) ⟨rfl,rfl,rfl,rfl,rfl,trivial⟩ (aB.2 ⟨dZ,e8,et (M) (et (congrArg (λ q=>gq d q b) S) (et (iN n) (et (ae W) (et (ip V) (BO cK)))))⟩) (by show d.ak.ls.length - (b+1) < d.ak.ls.length - b; omega)
 refine jT (cn V) (sr (An rfl (rt (tR (bR (tR (tR (bR (tR (rs ?_))))))))))
 have d9:=aF.pk []
 obtain rfl:_=false:=zj hr (et (iN m) (et (iN O) (iG (et (M) (et (congrArg (λ q=>gq d q b) S) (et (iN n) (et (ae W) (dY V))))))))
 exact⟨rfl,d9⟩
 refine jF (dF dz) (v9 (GK ?_))
 have X:gq d d.ak.ls 0=v0 ():=et (M) (et (congrArg (λ q=>gq d q b) (eP (ls:=d.ak.ls) (i:=b) e8)) rfl)
 refine GK (GR (Gs (Gp (sr (Kz (vP s 7) (Lz (.slice l d.af.ls.length o) aI 0 C5 (Kz (vJ d.af.ls.length) (Mn rfl (bo ?_)))))))))
 have ed:=aI.pf []
 obtain⟨ek,Y⟩:=mP λ (g:Nat) w'=>Own w D w' [blk s (iU d z u f h l o) 41]/\g<=d.af.ls.length/\gY d d.af.ls 0=gY d (r7 g d.af.ls) g
 refine v4 (λ i:Nat=> [(2, .bool false),(67,vJ i),(66,vJ d.af.ls.length),(65, .slice l d.af.ls.length o),(1,vP s 0)]) ek (λ i=>d.af.ls.length - i) 0 ⟨rfl,rfl,rfl,rfl,rfl,trivial⟩ (Y.2 ⟨ed,e8,rfl⟩) ?_
 rintro g gL cO
 show Wp _ _ _ [(2, .bool false),(67,vJ g),(66,vJ d.af.ls.length),(65, .slice l d.af.ls.length o),(1,vP s 0)] _ _
 obtain⟨y,fM,L⟩:=Y.1 cO
 refine sr (Kz (.bool (decide ((g:Int) < (d.af.ls.length:Int)))) (nt (Gp ?_)))
 by_cases bG:(g:Int) < (d.af.ls.length:Int)
 obtain⟨C,aV⟩:=dI (ls:=d.af.ls) (i:=g) gT f5 (y.ro B) f2
 have T:=drop_at aV
 refine jT (dT bG) (sk (Gp (bo (sr (Mz rfl (fw (.pointer (some ⟨ab l,ao l+g *1,none⟩)) (GI (iC) rfl rfl ((y.ro B).addr (i:=g) e8) e8) (fw (vU C) (GH rfl (bS.one C4 (((y.ro B).elem gT aV f5).at_ (k:=0) rfl))) (Az rfl (Ar rfl (Mz rfl (Kz (.bool (decide ((g:Int) > 0))) (Mz rfl ?_))))))))))))
 by_cases j:(g:Int) > 0
 refine gw (vU C) (dT j) (Gv rfl) (Gz (vP s 7) (dT j) (Gl (.slice l d.af.ls.length o) (dT j) y 0 C5 (gw (vJ g) (dT j) (Gv rfl) (gw (vJ (g - 1)) (dT j) (Gw (e:=v7.wrap ((g:Int) - 1)) yk f1) ?_))))
 obtain⟨aH,Z⟩:=dI (ls:=d.af.ls) (i:=g - 1) gT f5 (y.ro B) f2
 refine gw (.pointer (some ⟨ab l,ao l+(g - 1) *1,none⟩)) (dT j) (GI (iC) rfl rfl ((y.ro B).addr (i:=g - 1) e8) e8) (gw (vU aH) (dT j) (GH rfl (bS.one C4 (((y.ro B).elem gT Z f5).at_ (k:=0) rfl))) (Gz (.bool (decide ((C:Int)<=(aH:Int)))) (dT j) (fw (.bool (decide ((C:Int)<=(aH:Int)))) (Gu rfl (dT j) rfl) (Mz rfl ?_))))
 by_cases E:(C:Int)<=(aH:Int)
 refine Sz (dT E) (Sz (dT E) (Sz (dT E) (fw (.bool true) (Gu rfl (dT E) rfl) (nt (jt (sr (An rfl (rt (bR (tR (tR (bR (tR (rs ?_))))))))))))))
 have eu:=y.pk []
 obtain rfl:_=false:=zj hr (et (iN m) (et (iN O) (et (kZ X) (iG (et (L) (et (congrArg (λ q=>gY d q g) T) (et (ip j) (et (ae (bz Z)) (ip E)))))))))
 exact⟨rfl,eu⟩
 refine Ga (iU d z u f h l o) (dF E) y 0 D0 D1 (gw (vU C) (dF E) (Gv rfl) ?_)
 obtain⟨aX,az⟩:∃ q,oQ d C=q:=⟨_,rfl⟩
 obtain⟨gM,cZ,aa,df,fP⟩:=Gr y
 refine nQ (dF E) Tryz.call64 (uf _ _ d z d.ah.ls.length u f d.ak.ls.length h Q l d.af.ls.length o C aX cZ rfl (aa _ aK) e8 R rfl (aa _ I) e8 (λ x9 h9=>⟨aa _ (p x9 h9).1,(p x9 h9).2⟩) rfl (aa _ B) e8 az) ?_
 rintro _ gN ⟨rfl,dh⟩
 have bI:=df _ _ dh
 refine fw (.bool aX) (Gm rfl (dF E) rfl) (nt ?_)
 rcases Kq (aX) with aj | aj
 refine jT aj (sr (An rfl (rt (bR (tR (tR (bR (tR (rs ?_)))))))))
 have eF:=bI.pk []
 obtain rfl:_=false:=zj hr (et (iN m) (et (iN O) (et (kZ X) (iG (et (L) (et (congrArg (λ q=>gY d q g) T) (et (ip j) (et (ae (bz Z)) (et (iN E) (et (ae az) (ip aj)))))))))))
 exact⟨rfl,eF⟩
 refine jF aj (G7 (bN (Gs (Gq (fw (vJ (g+1)) (Gw (e:=v7.wrap ((g:Int)+1)) yk f1) (Mz rfl (v8 ?_)))))))
 have eG:=bI.pf []
 exact GL (g+1) ⟨rfl,rfl,rfl,rfl,rfl,trivial⟩ (Y.2 ⟨eG,e8,et (L) (et (congrArg (λ q=>gY d q g) T) (et (ip j) (et (ae (bz Z)) (et (iN E) (et (ae az) (dY aj))))))⟩) (by show d.af.ls.length - (g+1) < d.af.ls.length - g; omega)
 refine Sz (dF j) (Sz (dF j) (Sz (dF j) (Sz (dF j) (Sz (dF j) (Sz (dF j) (Sz (dF j) (Sz (dF j) (fw (.bool false) (Gm rfl (dF j) rfl) (Mz rfl (Ga (iU d z u f h l o) rfl y 0 D0 D1 (gw (vU C) rfl (Gv rfl) ?_)))))))))))
 obtain⟨aZ,aA⟩:∃ q,oQ d C=q:=⟨_,rfl⟩
 obtain⟨gP,di,af,dm,fQ⟩:=Gr y
 refine nQ rfl Tryz.call64 (uf _ _ d z d.ah.ls.length u f d.ak.ls.length h Q l d.af.ls.length o C aZ di rfl (af _ aK) e8 R rfl (af _ I) e8 (λ x9 h9=>⟨af _ (p x9 h9).1,(p x9 h9).2⟩) rfl (af _ B) e8 aA) ?_
 rintro _ gQ ⟨rfl,dn⟩
 have bJ:=dm _ _ dn
 refine fw (.bool aZ) (Gm rfl rfl rfl) (nt ?_)
 rcases Kq (aZ) with ak | ak
 refine jT ak (sr (An rfl (rt (bR (tR (tR (bR (tR (rs ?_)))))))))
 have eH:=bJ.pk []
 obtain rfl:_=false:=zj hr (et (iN m) (et (iN O) (et (kZ X) (iG (et (L) (et (congrArg (λ q=>gY d q g) T) (et (iN j) (et (ae aA) (ip ak)))))))))
 exact⟨rfl,eH⟩
 refine jF ak (G7 (bN (Gs (Gq (fw (vJ (g+1)) (Gw (e:=v7.wrap ((g:Int)+1)) yk f1) (Mz rfl (v8 ?_)))))))
 have eO:=bJ.pf []
 exact GL (g+1) ⟨rfl,rfl,rfl,rfl,rfl,trivial⟩ (Y.2 ⟨eO,e8,et (L) (et (congrArg (λ q=>gY d q g) T) (et (iN j) (et (ae aA) (dY ak))))⟩) (by show d.af.ls.length - (g+1) < d.af.ls.length - g; omega)
 refine jF (dF bG) (v9 (GK ?_))
 have dw:gY d d.af.ls 0=v0 ():=et (L) (et (congrArg (λ q=>gY d q g) (eP (ls:=d.af.ls) (i:=g) e8)) rfl)
 refine GK (GR (Gs (sr (An rfl (rt (rs ?_))))))
 have eT:=y.pk []
 obtain rfl:_=true:=zj hr (et (iN m) (et (iN O) (et (kZ X) (kZ dw))))
 exact⟨rfl,eT⟩
def rq (a:bA):Bool:=
 if(a.aF.aG:Int)=0 then if((a.aF.aG:Int)=0)/\((a.aF.bu:Int)=0)/\((a.aF.dA:Int)=0)/\((a.aF.aB.aO=[])/\(a.aF.aB.aS=[])) then if(a.aM:Int)=0 then if(a.aH.aO=[])/\(a.aH.aS=[]) then bnd (dW a.aF.aB) λ d=>if d=0 then bnd (dW a.aH) λ e=>decide (e=0) else false else false else bnd (dW a.aF.aB) λ f=>if f=0 then bnd (dW a.aH) λ g=>decide (g=0) else false else false else if(a.aM:Int)=0 then if(a.aH.aO=[])/\(a.aH.aS=[]) then bnd (dW a.aF.aB) λ h=>if h=0 then bnd (dW a.aH) λ i=>decide (i=0) else false else false else bnd (dW a.aF.aB) λ b=>if b=0 then bnd (dW a.aH) λ c=>decide (c=0) else false
theorem wR (w D) (a:bA) (r Q s t R y z B S C r0) (H:Own w D w []) (W:Q=a.ah.ls.length) (bn:Ro w D λ w'=>bM w' 2 r a.ah.ls.length (q0 bL.cells a.ah.ls)) (bq:a.ah.ls.length<=s/\a.ah.ls.length<=9223372036854775807) (X:r8 bg.abs z=a.ak.ls) (Y:R=a.ak.ls.length) (bu:Ro w D λ w'=>bM w' 2 t a.ak.ls.length (q0 bg.cells z)) (bv:a.ak.ls.length<=y/\a.ak.ls.length<=9223372036854775807) (bz:∀ x ∈ z,Ro w D (λ w'=>bM w' 6 x.aJ.A x.aJ.ls.length (q0 aY.cells x.aJ.ls))/\(x.aJ.ls.length<=x.aJ.c/\x.aJ.ls.length<=9223372036854775807)) (Z:S=a.af.ls.length) (bB:Ro w D λ w'=>bM w' 1 B a.af.ls.length (q0 (eN .u64) a.af.ls)) (bC:a.af.ls.length<=C/\a.af.ls.length<=9223372036854775807) (dx:a.ah.ls.length<=140737488355328/\a.ak.ls.length<=140737488355328/\a.af.ls.length<=140737488355328) (hr:rq a=r0):
    Calls u2 32 #[.agg (gU a.bC a.aT a.bv a.aL a.aG r Q s t R y B S C a.bi a.aM a.aH.aO a.aH.aS a.aF.aG a.aF.bu a.aF.dA a.aF.aB.aO a.aF.aB.aS).toArray] w (dG λ v w'=>v= .bool r0/\Own w D w' []):=by
 unfold rq at hr
 subst W Y Z
 have bi:=aW X
 refine cb Tryz.func32 ?_
 refine sr ?_
 refine bW (iU a r s t y B C) 41 H ?_
 intro f dz h
 refine An rfl (Gp (sr (Kz (vP f 12) (Kz (vP f 12) (Lz (vU a.aF.aG) h 0 C4 (Kz (.bool (decide ((a.aF.aG:Int)=0))) (Mz rfl ?_)))))))
 by_cases b:(a.aF.aG:Int)=0
 refine Gz (vP f 12) (dT b) (Ga (iJ.cells a.aF) (dT b) h 0 Tryz.isAgg39 Tryz.sizeOf39 (Gz (.agg #[.int .u64 0, .int .u64 0, .int .u64 0, .string ⟨u3 []⟩, .string ⟨u3 []⟩]) (dT b) (gw (.bool (decide (¬ (((a.aF.aG:Int)=0)/\((a.aF.bu:Int)=0)/\((a.aF.dA:Int)=0)/\((a.aF.aB.aO=[])/\(a.aF.aB.aS=[])))))) (dT b) (GN (e:= !(decide (((a.aF.aG:Int)=0)/\((a.aF.bu:Int)=0)/\((a.aF.dA:Int)=0)/\((a.aF.aB.aO=[])/\(a.aF.aB.aS=[]))))) (Ib rfl rfl e9 rfl (fI.struct Tryz.underlying39 e9 (HV (fe.cons (u:=vU a.aF.aG) (v:= .int .u64 0) f5 (λ _=>by kernel_rfl) (λ _=>by kernel_rfl) ((fI.int D2).up f5) (fe.cons (u:=vU a.aF.bu) (v:= .int .u64 0) f5 (λ _=>by kernel_rfl) (λ _=>by kernel_rfl) ((fI.int D2).up f5) (fe.cons (u:=vU a.aF.dA) (v:= .int .u64 0) f5 (λ _=>by kernel_rfl) (λ _=>by kernel_rfl) ((fI.int D2).up f5) (fe.cons (u:= .agg (aj.cells a.aF.aB).toArray) (v:= .agg #[.string ⟨u3 []⟩, .string ⟨u3 []⟩]) f5 (λ _=>by kernel_rfl) (λ _=>by kernel_rfl) (fI.struct u9 e9 (HV (fe.cons (u:= .string ⟨u3 a.aF.aB.aO⟩) (v:= .string ⟨u3 []⟩) f5 (λ _=>by kernel_rfl) (λ _=>by kernel_rfl) (fI.string u5) (fe.cons (u:= .string ⟨u3 a.aF.aB.aS⟩) (v:= .string ⟨u3 []⟩) f5 (λ _=>by kernel_rfl) (λ _=>by kernel_rfl) (fI.string u5) (fe.nil.up (Km _)))) ((congrArg (decide (a.aF.aB.aO=[]) && ·) kz).trans fo))) (fe.nil.up (Km _)))))) ((congrArg (decide ((a.aF.aG:Int)=0) && ·) ((congrArg (decide ((a.aF.bu:Int)=0) && ·) ((congrArg (decide ((a.aF.dA:Int)=0) && ·) kz).trans fo)).trans fo)).trans fo)))) decide_not.symm) (fw (.bool (decide (¬ (((a.aF.aG:Int)=0)/\((a.aF.bu:Int)=0)/\((a.aF.dA:Int)=0)/\((a.aF.aB.aO=[])/\(a.aF.aB.aS=[])))))) (Gu rfl (dT b) rfl) (Mz rfl ?_)))))
 by_cases d:((a.aF.aG:Int)=0)/\((a.aF.bu:Int)=0)/\((a.aF.dA:Int)=0)/\((a.aF.aB.aO=[])/\(a.aF.aB.aS=[]))
 refine gw (vP f 9) (dF (Ko d)) yk (gw (vU a.aM) (dF (Ko d)) (GH rfl (bS.one C4 (Ho (h.cls (i:=0) rfl) rfl))) (gw (.bool (decide ((a.aM:Int)=0))) (dF (Ko d)) yk (gw (.bool (decide ((a.aM:Int)=0))) (dF (Ko d)) (Gv rfl) ?_)))
 by_cases j:(a.aM:Int)=0
 refine Gz (vP f 10) (dT j) (Ga (aj.cells a.aH) (dT j) h 0 B5 B4 (Gz (.agg #[.string ⟨u3 []⟩, .string ⟨u3 []⟩]) (dT j) (gw (.bool (decide (¬ ((a.aH.aO=[])/\(a.aH.aS=[]))))) (dT j) (GN (e:= !(decide ((a.aH.aO=[])/\(a.aH.aS=[])))) (Ib rfl rfl e9 rfl (fI.struct u9 e9 (HV (fe.cons (u:= .string ⟨u3 a.aH.aO⟩) (v:= .string ⟨u3 []⟩) f5 (λ _=>by kernel_rfl) (λ _=>by kernel_rfl) (fI.string u5) (fe.cons (u:= .string ⟨u3 a.aH.aS⟩) (v:= .string ⟨u3 []⟩) f5 (λ _=>by kernel_rfl) (λ _=>by kernel_rfl) (fI.string u5) (fe.nil.up (Km _)))) ((congrArg (decide (a.aH.aO=[]) && ·) kz).trans fo)))) decide_not.symm) (gw (.bool (decide (¬ ((a.aH.aO=[])/\(a.aH.aS=[]))))) (dF (Ko d)) (Gu rfl (dT j) rfl) (fw (.bool (decide (¬ ((a.aH.aO=[])/\(a.aH.aS=[]))))) (Gm rfl (dF (Ko d)) rfl) (nt ?_))))))
 by_cases E:(a.aH.aO=[])/\(a.aH.aS=[])
 refine jF (dF (Ko E)) (sk (sr (Kz (vP f 12) (Kz (vP f 15) (La (aj.cells a.aF.aB) h 0 B5 B4 ?_)))))
 obtain⟨aa,F⟩:∃ q,dW a.aF.aB=q:=⟨_,rfl⟩
 obtain⟨dA,aB,bV,aC,bX⟩:=Gr h
 refine cl B6 (iX _ _ a.aF.aB aa aB F) ?_
 rintro _ dB ⟨rfl,aD⟩
 have af:=aC _ _ aD
 refine Kz (.bool (decide (aa=0))) (Mz rfl ?_)
 by_cases l:aa=0
 refine Gz (vP f 10) (dT l) (Ga (aj.cells a.aH) (dT l) af 0 B5 B4 ?_)
 obtain⟨N,T⟩:∃ q,dW a.aH=q:=⟨_,rfl⟩
 obtain⟨dC,aF,bY,aG,bZ⟩:=Gr af
 refine nQ (dT l) B6 (iX _ _ a.aH N aF T) ?_
 rintro _ dD ⟨rfl,aH⟩
 have bD:=aG _ _ aH
 refine Gz (.bool (decide (N=0))) (dT l) (fw (.bool (decide (N=0))) (Gu rfl (dT l) rfl) (An rfl (rt (rs ?_))))
 have bE:=bD.pk []
 obtain rfl:=zj hr zq7
 exact⟨rfl,bE⟩
 refine Sz (dF l) (Sz (dF l) (Sz (dF l) (Sz (dF l) (fw (.bool false) (Gm rfl (dF l) rfl) (An rfl (rt (rs ?_)))))))
 have bF:=af.pk []
 obtain rfl:=zj hr zq6
 exact⟨rfl,bF⟩
 refine jT (dT E) (sr (An rfl (rt (tR (rs ?_)))))
 have bG:=h.pk []
 obtain rfl:=zj hr zq4
 exact⟨rfl,bG⟩
 refine Sz (dF j) (Sz (dF j) (Sz (dF j) (Sz (dF j) (gw (.bool false) (dF (Ko d)) (Gm rfl (dF j) rfl) (fw (.bool false) (Gm rfl (dF (Ko d)) rfl) (nt (jf (sk (sr (Kz (vP f 12) (Kz (vP f 15) (La (aj.cells a.aF.aB) h 0 B5 B4 ?_))))))))))))
 obtain⟨ag,G⟩:∃ q,dW a.aF.aB=q:=⟨_,rfl⟩
 obtain⟨dE,aI,cu,aJ,cz⟩:=Gr h
 refine cl B6 (iX _ _ a.aF.aB ag aI G) ?_
 rintro _ dH ⟨rfl,aK⟩
 have ah:=aJ _ _ aK
 refine Kz (.bool (decide (ag=0))) (Mz rfl ?_)
 by_cases m:ag=0
 refine Gz (vP f 10) (dT m) (Ga (aj.cells a.aH) (dT m) ah 0 B5 B4 ?_)
 obtain⟨O,U⟩:∃ q,dW a.aH=q:=⟨_,rfl⟩
 obtain⟨dI,aL,cB,aM,cK⟩:=Gr ah
 refine nQ (dT m) B6 (iX _ _ a.aH O aL U) ?_
 rintro _ dJ ⟨rfl,aN⟩
 have bH:=aM _ _ aN
 refine Gz (.bool (decide (O=0))) (dT m) (fw (.bool (decide (O=0))) (Gu rfl (dT m) rfl) (An rfl (rt (rs ?_))))
 have bI:=bH.pk []
 obtain rfl:=zj hr zq6
 exact⟨rfl,bI⟩
 refine Sz (dF m) (Sz (dF m) (Sz (dF m) (Sz (dF m) (fw (.bool false) (Gm rfl (dF m) rfl) (An rfl (rt (rs ?_)))))))
 have bJ:=ah.pk []
 obtain rfl:=zj hr zq5
 exact⟨rfl,bJ⟩
 refine Sz (dT d) (Sz (dT d) (Sz (dT d) (Sz (dT d) (GA rfl rfl rfl (GA rfl rfl rfl (GA rfl rfl rfl (GA rfl rfl rfl (Sz (dT d) (fw (.bool true) (Gu rfl (dT d) rfl) (nt (jt (sr (An rfl (rt (tR (rs ?_))))))))))))))))
 have bK:=h.pk []
 obtain rfl:=zj hr zq2
 exact⟨rfl,bK⟩
 refine Sz (dF b) (Sz (dF b) (Sz (dF b) (Sz (dF b) (fw (.bool false) (Gm rfl (dF b) rfl) (Mz rfl (Gz (vP f 9) rfl (Gl (vU a.aM) rfl h 0 C4 (Gz (.bool (decide ((a.aM:Int)=0))) rfl (gw (.bool (decide ((a.aM:Int)=0))) rfl (Gv rfl) ?_)))))))))
 by_cases k:(a.aM:Int)=0
 refine Gz (vP f 10) (dT k) (Ga (aj.cells a.aH) (dT k) h 0 B5 B4 (Gz (.agg #[.string ⟨u3 []⟩, .string ⟨u3 []⟩]) (dT k) (gw (.bool (decide (¬ ((a.aH.aO=[])/\(a.aH.aS=[]))))) (dT k) (GN (e:= !(decide ((a.aH.aO=[])/\(a.aH.aS=[])))) (Ib rfl rfl e9 rfl (fI.struct u9 e9 (HV (fe.cons (u:= .string ⟨u3 a.aH.aO⟩) (v:= .string ⟨u3 []⟩) f5 (λ _=>by kernel_rfl) (λ _=>by kernel_rfl) (fI.string u5) (fe.cons (u:= .string ⟨u3 a.aH.aS⟩) (v:= .string ⟨u3 []⟩) f5 (λ _=>by kernel_rfl) (λ _=>by kernel_rfl) (fI.string u5) (fe.nil.up (Km _)))) ((congrArg (decide (a.aH.aO=[]) && ·) kz).trans fo)))) decide_not.symm) (gw (.bool (decide (¬ ((a.aH.aO=[])/\(a.aH.aS=[]))))) rfl (Gu rfl (dT k) rfl) (fw (.bool (decide (¬ ((a.aH.aO=[])/\(a.aH.aS=[]))))) (Gm rfl rfl rfl) (nt ?_))))))
 by_cases I:(a.aH.aO=[])/\(a.aH.aS=[])
 refine jF (dF (Ko I)) (sk (sr (Kz (vP f 12) (Kz (vP f 15) (La (aj.cells a.aF.aB) h 0 B5 B4 ?_)))))
 obtain⟨ai,J⟩:∃ q,dW a.aF.aB=q:=⟨_,rfl⟩
 obtain⟨dK,aO,cO,aP,cZ⟩:=Gr h
 refine cl B6 (iX _ _ a.aF.aB ai aO J) ?_
 rintro _ dL ⟨rfl,aQ⟩
 have ak:=aP _ _ aQ
 refine Kz (.bool (decide (ai=0))) (Mz rfl ?_)
 by_cases n:ai=0
 refine Gz (vP f 10) (dT n) (Ga (aj.cells a.aH) (dT n) ak 0 B5 B4 ?_)
 obtain⟨P,V⟩:∃ q,dW a.aH=q:=⟨_,rfl⟩
 obtain⟨dM,aR,df,aS,dh⟩:=Gr ak
 refine nQ (dT n) B6 (iX _ _ a.aH P aR V) ?_
 rintro _ dN ⟨rfl,aT⟩
 have bN:=aS _ _ aT
 refine Gz (.bool (decide (P=0))) (dT n) (fw (.bool (decide (P=0))) (Gu rfl (dT n) rfl) (An rfl (rt (rs ?_))))
 have bO:=bN.pk []
 obtain rfl:=zj hr zq6
 exact⟨rfl,bO⟩
 refine Sz (dF n) (Sz (dF n) (Sz (dF n) (Sz (dF n) (fw (.bool false) (Gm rfl (dF n) rfl) (An rfl (rt (rs ?_)))))))
 have aU:=ak.pk []
 obtain rfl:=zj hr zq5
 exact⟨rfl,aU⟩
 refine jT (dT I) (sr (An rfl (rt (tR (rs ?_)))))
 have aV:=h.pk []
 obtain rfl:=zj hr zq3
 exact⟨rfl,aV⟩
 refine Sz (dF k) (Sz (dF k) (Sz (dF k) (Sz (dF k) (gw (.bool false) rfl (Gm rfl (dF k) rfl) (fw (.bool false) (Gm rfl rfl rfl) (nt (jf (sk (sr (Kz (vP f 12) (Kz (vP f 15) (La (aj.cells a.aF.aB) h 0 B5 B4 ?_))))))))))))
 obtain⟨K,o⟩:∃ q,dW a.aF.aB=q:=⟨_,rfl⟩
 obtain⟨di,au,bP,av,bQ⟩:=Gr h
 refine cl B6 (iX _ _ a.aF.aB K au o) ?_
 rintro _ dm ⟨rfl,ax⟩
 have L:=av _ _ ax
 refine Kz (.bool (decide (K=0))) (Mz rfl ?_)
 by_cases g:K=0
 refine Gz (vP f 10) (dT g) (Ga (aj.cells a.aH) (dT g) L 0 B5 B4 ?_)
 obtain⟨p,M⟩:∃ q,dW a.aH=q:=⟨_,rfl⟩
 obtain⟨dn,ay,bR,az,bT⟩:=Gr L
 refine nQ (dT g) B6 (iX _ _ a.aH p ay M) ?_
 rintro _ dw ⟨rfl,aA⟩
 have aX:=az _ _ aA
 refine Gz (.bool (decide (p=0))) (dT g) (fw (.bool (decide (p=0))) (Gu rfl (dT g) rfl) (An rfl (rt (rs ?_))))
 have aZ:=aX.pk []
 obtain rfl:=zj hr zq5
 exact⟨rfl,aZ⟩
 refine Sz (dF g) (Sz (dF g) (Sz (dF g) (Sz (dF g) (fw (.bool false) (Gm rfl (dF g) rfl) (An rfl (rt (rs ?_)))))))
 have bf:=L.pk []
 obtain rfl:=zj hr zq4
 exact⟨rfl,bf⟩
def ko (a:Bool):Int:=
 if a=true then 0 else 1
theorem nz (w D b e) (H:Own w D w []) (hr:ko b=e):
    Calls u2 28 #[.bool b] w (dG λ v w'=>v=vI e/\Own w D w' []):=by
 unfold ko at hr
 refine cb Tryz.func28 ?_
 refine sr (An rfl (Gp (sr (Mz rfl (Kz (.bool (!b)) (nt ?_))))))
 rcases Kq (b) with a | a
 refine jF (cn a) (sk (sr (An rfl (rt (rs ?_)))))
 have c:=H.pk []
 obtain rfl:=zj hr zq1
 exact⟨rfl,c⟩
 refine jT (cn a) (sr (An rfl (rt (tR (rs ?_)))))
 have d:=H.pk []
 obtain rfl:=zj hr zq1
 exact⟨rfl,d⟩
def lv (i:bA):Int:=
 bnd (mD i.bC 4) λ b=>if b=true then bnd (ng i.ah.ls) λ c=>if c=0 then bnd (q8 i) λ d=>if d=true then bnd (rq i) λ e=>bnd (ko e) λ f=>f else bnd (ko false) λ g=>g else bnd (ko false) λ h=>h else bnd (ko false) λ a=>a
theorem qB (w D) (a:bA) (e F b h G f m i I g r0) (H:Own w D w []) (P:F=a.ah.ls.length) (o:Ro w D λ w'=>bM w' 2 e a.ah.ls.length (q0 bL.cells a.ah.ls)) (aX:a.ah.ls.length<=b/\a.ah.ls.length<=9223372036854775807) (p:r8 bg.abs m=a.ak.ls) (Q:G=a.ak.ls.length) (u:Ro w D λ w'=>bM w' 2 h a.ak.ls.length (q0 bg.cells m)) (aZ:a.ak.ls.length<=f/\a.ak.ls.length<=9223372036854775807) (j:∀ x ∈ m,Ro w D (λ w'=>bM w' 6 x.aJ.A x.aJ.ls.length (q0 aY.cells x.aJ.ls))/\(x.aJ.ls.length<=x.aJ.c/\x.aJ.ls.length<=9223372036854775807)) (R:I=a.af.ls.length) (y:Ro w D λ w'=>bM w' 1 i a.af.ls.length (q0 (eN .u64) a.af.ls)) (bf:a.af.ls.length<=g/\a.af.ls.length<=9223372036854775807) (bT:a.ah.ls.length<=140737488355328/\a.ak.ls.length<=140737488355328/\a.af.ls.length<=140737488355328) (hr:lv a=r0):
    Calls u2 17 #[.agg (gU a.bC a.aT a.bv a.aL a.aG e F b h G f i I g a.bi a.aM a.aH.aO a.aH.aS a.aF.aG a.aF.bu a.aF.dA a.aF.aB.aO a.aF.aB.aS).toArray] w (dG λ v w'=>v=vI r0/\Own w D w' []):=by
 unfold lv at hr
 subst P Q R
 have aV:=aW p
 refine cb Tryz.func17 ?_
 refine sr ?_
 refine bW (iU a e b h f i g) 41 H ?_
 intro Z bU aa
 refine Ar rfl (Kz (vP Z 0) (Lz (vI a.bC) aa 0 v5 ?_))
 obtain⟨af,n⟩:∃ q,mD a.bC 4=q:=⟨_,rfl⟩
 obtain⟨bV,ag,bE,ah,bF⟩:=Gr aa
 refine cl C7 (qA _ _ a.bC 4 af ag n) ?_
 rintro _ bX ⟨rfl,ai⟩
 have S:=ah _ _ ai
 refine Mz rfl ?_
 rcases Kq (af) with d | d
 refine Gz (vP Z 5) d (Gl (.slice e a.ah.ls.length b) d S 0 Tryz.isAgg33 ?_)
 obtain⟨z,r⟩:∃ q,ng a.ah.ls=q:=⟨_,rfl⟩
 obtain⟨bY,aj,ak,au,bG⟩:=Gr S
 refine H7 rfl rfl d rfl (GV Tryz.call30 rfl (qZ _ _ e a.ah.ls.length b a.ah.ls z aj (ak _ o) rfl e8 r) ?_)
 rintro _ bZ ⟨rfl,av,J⟩
 have T:=au _ _ av
 replace J: ¬ (z=0)\/(1<=a.ah.ls.length/\a.ah.ls.length<=6):=J
 refine Gz (.bool (decide (z=0))) d (fw (.bool (decide (z=0))) (Gu rfl d rfl) (Mz rfl ?_))
 by_cases k:z=0
 refine Ga (iU a e b h f i g) (dT k) T 0 D0 D1 ?_
 obtain⟨U,B⟩:∃ q,q8 a=q:=⟨_,rfl⟩
 obtain⟨cu,ax,s,ay,bH⟩:=Gr T
 refine nQ (decide_eq_true k) Tryz.call31 (wQ _ _ a e a.ah.ls.length b h a.ak.ls.length f m i a.af.ls.length g U ax rfl (s _ o) e8 p rfl (s _ u) e8 (λ x9 h9=>⟨s _ (j x9 h9).1,(j x9 h9).2⟩) rfl (s _ y) e8 g4 B) ?_
 rintro _ cz ⟨rfl,aB⟩
 have V:=ay _ _ aB
 refine fw (.bool U) (Gu rfl (dT k) rfl) (Mz rfl ?_)
 rcases Kq (U) with l | l
 refine Ga (iU a e b h f i g) l V 0 D0 D1 ?_
 obtain⟨E,K⟩:∃ q,rq a=q:=⟨_,rfl⟩
 obtain⟨cB,aC,t,aD,bI⟩:=Gr V
 refine H7 rfl rfl l rfl (GV Tryz.call32 rfl (wR _ _ a e a.ah.ls.length b h a.ak.ls.length f m i a.af.ls.length g E aC rfl (t _ o) e8 p rfl (t _ u) e8 (λ x9 h9=>⟨t _ (j x9 h9).1,(j x9 h9).2⟩) rfl (t _ y) e8 g4 K) ?_)
 rintro _ cK ⟨rfl,aF⟩
 have bi:=aD _ _ aF
 refine fw (.bool E) (Gu rfl l rfl) ?_
 obtain⟨aG,L⟩:∃ q,ko E=q:=⟨_,rfl⟩
 obtain⟨cO,aH,bJ,aI,bK⟩:=Gr bi
 refine cl D3 (nz _ _ E aG aH L) ?_
 rintro _ cZ ⟨rfl,aJ⟩
 have bn:=aI _ _ aJ
 refine An rfl (rt (rs ?_))
 have bq:=bn.pk []
 obtain rfl:=zj hr zq8
 exact⟨rfl,bq⟩
 refine Sz l (Sz l (fw (.bool false) (Gm rfl l rfl) ?_))
 obtain⟨aK,M⟩:∃ q,ko false=q:=⟨_,rfl⟩
 obtain⟨df,aL,bN,aM,bO⟩:=Gr V
 refine cl D3 (nz _ _ false aK aL M) ?_
 rintro _ dh ⟨rfl,aN⟩
 have bu:=aM _ _ aN
 refine An rfl (rt (rs ?_))
 have bv:=bu.pk []
 obtain rfl:=zj hr zq7
 exact⟨rfl,bv⟩
 refine Sz (dF k) (Sz (dF k) (fw (.bool false) (Gm rfl (dF k) rfl) (Mz rfl (Sz rfl (Sz rfl (fw (.bool false) (Gm rfl rfl rfl) ?_))))))
 obtain⟨aO,N⟩:∃ q,ko false=q:=⟨_,rfl⟩
 obtain⟨di,aP,bP,aQ,bQ⟩:=Gr T
 refine cl D3 (nz _ _ false aO aP N) ?_
 rintro _ dm ⟨rfl,aR⟩
 have bz:=aQ _ _ aR
 refine An rfl (rt (rs ?_))
 have aS:=bz.pk []
 obtain rfl:=zj hr zq5
 exact⟨rfl,aS⟩
 refine Sz d (Sz d (Sz d (Sz d (fw (.bool false) (Gm rfl d rfl) (Mz rfl (Sz rfl (Sz rfl (fw (.bool false) (Gm rfl rfl rfl) (Mz rfl (Sz rfl (Sz rfl (fw (.bool false) (Gm rfl rfl rfl) ?_))))))))))))
 obtain⟨O,C⟩:∃ q,ko false=q:=⟨_,rfl⟩
 obtain⟨bR,W,bB,X,bC⟩:=Gr S
 refine cl D3 (nz _ _ false O W C) ?_
 rintro _ bS ⟨rfl,Y⟩
 have aT:=X _ _ Y
 refine An rfl (rt (rs ?_))
 have aU:=aT.pk []
 obtain rfl:=zj hr zq3
 exact⟨rfl,aU⟩
end
open Int renaming toNat->E0
open IntKind renaming u64->F1
open Ll renaming mk->D4
open _root_.Go.Proofs.Tryz renaming call63->E7,isAgg124->E2,isAgg4->F0,sizeOf124->E1,underlying25->E3,underlying4->E6,underlying45->E4
section
open Go.RowKit
theorem Ee:Elem u2 122 183 1 8:=mh (z:= .int .i64 0) Tryz.underlying122 e9 rfl f5
structure lH where
 mO:Int
 qQ:Int
 bZ:Sv Int
def lH.cells (x:lH):List Value:= [.int .i64 x.mO, .int .i64 x.qQ, .slice x.bZ.A x.bZ.ls.length x.bZ.c]
instance:Bk lH:=⟨λ x _=>bk x.mO+(bk x.qQ+(bk x.bZ+(0)))⟩
theorem lH.len:∀ x,(lH.cells x).length=3:=λ _=>rfl
theorem lH.one:∀ x, ∀ u ∈ lH.cells x,u.oneCell'=true:=λ x u hu=>by
 simp only [lH.cells,t7,u4,or_false] at hu
 rcases hu with rfl | rfl | rfl <;> rfl
def JY (w:World) (x:lH):Prop:=((-9223372036854775808)<=x.mO/\x.mO<=9223372036854775807)/\((-9223372036854775808)<=x.qQ/\x.qQ<=9223372036854775807)/\(mZ w 1 8 (eI .i64) (λ n=>(-9223372036854775808)<=n/\n<=9223372036854775807) x.bZ)
instance:Inhabited lH:=⟨⟨default,default,default⟩⟩
structure fF where
 mO:Int
 qQ:Int
 bZ:Ll Int
instance:Inhabited fF:=⟨⟨default,default,default⟩⟩
def lH.abs (x:lH):fF:=⟨x.mO,x.qQ,⟨x.bZ.ls⟩⟩
def JV (x:lH):List HP:= [row x.bZ.A x.bZ.ls.length x.bZ.c (q0 (eI .i64) x.bZ.ls) 183 1]
def qc (a:Int):fF × Bool:=
 if a<=0 then(fF.mk 0 0 (D4 ([])),false) else if a >= 15 then(fF.mk 0 0 (D4 ([])),false) else if((E0 a:Nat):Int)=1 then(fF.mk 2 0 (D4 ([0,1,7])),true) else if((E0 a:Nat):Int)=2 then(fF.mk 0 2 (D4 ([0,1,2,3])),true) else if((E0 a:Nat):Int)=3 then(fF.mk 0 1 (D4 ([4,5,6,7])),true) else if((E0 a:Nat):Int)=4 then(fF.mk 1 0 (D4 ([4,2,3])),true) else if((E0 a:Nat):Int)=5 then(fF.mk 0 1 (D4 ([4,8])),true) else if((E0 a:Nat):Int)=6 then(fF.mk 1 0 (D4 ([4])),true) else if((E0 a:Nat):Int)=7 then(fF.mk 1 0 (D4 ([4])),true) else if((E0 a:Nat):Int)=8 then(fF.mk 0 1 (D4 ([9,6,10,11])),true) else if((E0 a:Nat):Int)=9 then(fF.mk 1 0 (D4 ([9])),true) else if((E0 a:Nat):Int)=10 then(fF.mk 0 1 (D4 ([9,10,12,8,13])),true) else if((E0 a:Nat):Int)=11 then(fF.mk 1 1 (D4 ([10,14,15,13,7])),true) else if((E0 a:Nat):Int)=12 then(fF.mk 1 1 (D4 ([10,14,15])),true) else if((E0 a:Nat):Int)=13 then(fF.mk 1 0 (D4 ([10])),true) else(fF.mk 1 0 (D4 ([10])),true)
theorem xm (w D c) (r0:fF) (r1) (H:Own w D w []) (hr:qc c=(r0,r1)):
    Calls u2 45 #[vI c] w (dG λ v w'=> ∃ O P,v= .tuple #[.agg #[vI r0.mO,vI r0.qQ, .slice O r0.bZ.ls.length P], .bool r1]/\Own w D w' [row O r0.bZ.ls.length P (q0 (eI .i64) r0.bZ.ls) 183 1]/\(r0.bZ.ls.length<=5)):=by
 refine cb Tryz.func45 ?_
 refine sr ?_
 refine bW [vI 0,vI 0, .slice none 0 0] 124 H ?_
 intro cO cZ bu
 refine Ar rfl ?_
 refine jE [vI 0,vI 1,vI 7] 183 1 3 bu ?_
 intro s df ag
 replace ag:=Ha (y:=row s 3 3 (q0 (eI .i64) ([0,1,7])) 183 1) rfl ag
 refine Kz (.agg #[vI 2,vI 0, .slice s 3 3]) ?_
 refine jE [vI 0,vI 1,vI 2,vI 3] 183 1 4 ag ?_
 intro t dh ah
 replace ah:=Ha (y:=row t 4 4 (q0 (eI .i64) ([0,1,2,3])) 183 1) rfl ah
 refine Kz (.agg #[vI 0,vI 2, .slice t 4 4]) ?_
 refine jE [vI 4,vI 5,vI 6,vI 7] 183 1 4 ah ?_
 intro u di ai
 replace ai:=Ha (y:=row u 4 4 (q0 (eI .i64) ([4,5,6,7])) 183 1) rfl ai
 refine Kz (.agg #[vI 0,vI 1, .slice u 4 4]) ?_
 refine jE [vI 4,vI 2,vI 3] 183 1 3 ai ?_
 intro x dm aj
 replace aj:=Ha (y:=row x 3 3 (q0 (eI .i64) ([4,2,3])) 183 1) rfl aj
 refine Kz (.agg #[vI 1,vI 0, .slice x 3 3]) ?_
 refine jE [vI 4,vI 8] 183 1 2 aj ?_
 intro z dn ak
 replace ak:=Ha (y:=row z 2 2 (q0 (eI .i64) ([4,8])) 183 1) rfl ak
 refine Kz (.agg #[vI 0,vI 1, .slice z 2 2]) ?_
 refine jE [vI 4] 183 1 1 ak ?_
 intro A dw au
 replace au:=Ha (y:=row A 1 1 (q0 (eI .i64) ([4])) 183 1) rfl au
 refine Kz (.agg #[vI 1,vI 0, .slice A 1 1]) ?_
 refine jE [vI 4] 183 1 1 au ?_
 intro B dx av
 replace av:=Ha (y:=row B 1 1 (q0 (eI .i64) ([4])) 183 1) rfl av
 refine Kz (.agg #[vI 1,vI 0, .slice B 1 1]) ?_
 refine jE [vI 9,vI 6,vI 10,vI 11] 183 1 4 av ?_
 intro C dz ax
 replace ax:=Ha (y:=row C 4 4 (q0 (eI .i64) ([9,6,10,11])) 183 1) rfl ax
 refine Kz (.agg #[vI 0,vI 1, .slice C 4 4]) ?_
 refine jE [vI 9] 183 1 1 ax ?_
 intro E dA ay
 replace ay:=Ha (y:=row E 1 1 (q0 (eI .i64) ([9])) 183 1) rfl ay
 refine Kz (.agg #[vI 1,vI 0, .slice E 1 1]) ?_
 refine jE [vI 9,vI 10,vI 12,vI 8,vI 13] 183 1 5 ay ?_
 intro F dB az
 replace az:=Ha (y:=row F 5 5 (q0 (eI .i64) ([9,10,12,8,13])) 183 1) rfl az
 refine Kz (.agg #[vI 0,vI 1, .slice F 5 5]) ?_
 refine jE [vI 10,vI 14,vI 15,vI 13,vI 7] 183 1 5 az ?_
 intro G dC aA
 replace aA:=Ha (y:=row G 5 5 (q0 (eI .i64) ([10,14,15,13,7])) 183 1) rfl aA
 refine Kz (.agg #[vI 1,vI 1, .slice G 5 5]) ?_
 refine jE [vI 10,vI 14,vI 15] 183 1 3 aA ?_
 intro I dD aB
 replace aB:=Ha (y:=row I 3 3 (q0 (eI .i64) ([10,14,15])) 183 1) rfl aB
 refine Kz (.agg #[vI 1,vI 1, .slice I 3 3]) ?_
 refine jE [vI 10] 183 1 1 aB ?_
 intro J dE aC
 replace aC:=Ha (y:=row J 1 1 (q0 (eI .i64) ([10])) 183 1) rfl aC
 refine Kz (.agg #[vI 1,vI 0, .slice J 1 1]) ?_
 refine jE [vI 10] 183 1 1 aC ?_
 intro K dH aD
 replace aD:=Ha (y:=row K 1 1 (q0 (eI .i64) ([10])) 183 1) rfl aD
 refine Kz (.agg #[vI 1,vI 0, .slice K 1 1]) (Kz (.agg #[vI 0,vI 0, .slice none 0 0,vI 2,vI 0, .slice s 3 3,vI 0,vI 2, .slice t 4 4,vI 0,vI 1, .slice u 4 4,vI 1,vI 0, .slice x 3 3,vI 0,vI 1, .slice z 2 2,vI 1,vI 0, .slice A 1 1,vI 1,vI 0, .slice B 1 1,vI 0,vI 1, .slice C 4 4,vI 1,vI 0, .slice E 1 1,vI 0,vI 1, .slice F 5 5,vI 1,vI 1, .slice G 5 5,vI 1,vI 1, .slice I 3 3,vI 1,vI 0, .slice J 1 1,vI 1,vI 0, .slice K 1 1]) ?_)
 refine bW [vI 0,vI 0, .slice none 0 0,vI 0,vI 0, .slice none 0 0,vI 0,vI 0, .slice none 0 0,vI 0,vI 0, .slice none 0 0,vI 0,vI 0, .slice none 0 0,vI 0,vI 0, .slice none 0 0,vI 0,vI 0, .slice none 0 0,vI 0,vI 0, .slice none 0 0,vI 0,vI 0, .slice none 0 0,vI 0,vI 0, .slice none 0 0,vI 0,vI 0, .slice none 0 0,vI 0,vI 0, .slice none 0 0,vI 0,vI 0, .slice none 0 0,vI 0,vI 0, .slice none 0 0,vI 0,vI 0, .slice none 0 0] 184 aD ?_
 intro g dI bv
 refine bY [vI 0,vI 0, .slice none 0 0,vI 2,vI 0, .slice s 3 3,vI 0,vI 2, .slice t 4 4,vI 0,vI 1, .slice u 4 4,vI 1,vI 0, .slice x 3 3,vI 0,vI 1, .slice z 2 2,vI 1,vI 0, .slice A 1 1,vI 1,vI 0, .slice B 1 1,vI 0,vI 1, .slice C 4 4,vI 1,vI 0, .slice E 1 1,vI 0,vI 1, .slice F 5 5,vI 1,vI 1, .slice G 5 5,vI 1,vI 1, .slice I 3 3,vI 1,vI 0, .slice J 1 1,vI 1,vI 0, .slice K 1 1] 0 bv Tryz.sizeOf184 ?_
 intro dJ a
 refine nt (Gp (sr (Mz rfl (Kz (.bool (decide (c<=0))) (Mz rfl ?_)))))
 by_cases b:c<=0
 refine Sz (dT b) (Sz (dT b) (fw (.bool true) (Gu rfl (dT b) rfl) (nt (jt (sr (Kz (.agg #[vI 0,vI 0, .slice none 0 0]) ?_))))))
 have bz:=a.pf [15]
 refine bY [vI 0,vI 0, .slice none 0 0] 0 bz E1 ?_
 intro bA aF
 refine An rfl (rt (tR (GM (fK (vs:= [.agg #[vI 0,vI 0, .slice none 0 0], .bool false]) rfl (bT.cell rfl (GJ (cs:= [vI 0,vI 0, .slice none 0 0]) E2 E1 ((aF.cls (i:=0) rfl).lit (k:=0) (m:=3) rfl)) (bT.tmp rfl bT.nil)) (Kk rfl)) ?_)))
 have bB:Own w D bA (row none 0 0 (q0 (eI .i64) ([])) 183 1::_):=aF.free (bX 183 1)
 have bC:=bB.pk [0]
 obtain⟨rfl,rfl⟩:=fC (zj hr (show _=(fF.mk 0 0 (D4 ([])),false) from ip b))
 exact⟨none,0,rfl,bC,g7⟩
 refine gw (vI c) (dF b) (Gv rfl) (Gz (.bool (decide (c >= 15))) (dF b) (fw (.bool (decide (c >= 15))) (Gm rfl (dF b) rfl) (nt ?_)))
 by_cases d:c >= 15
 refine jT (dT d) (sr (Kz (.agg #[vI 0,vI 0, .slice none 0 0]) ?_))
 have bD:=a.pf [15]
 refine bY [vI 0,vI 0, .slice none 0 0] 0 bD E1 ?_
 intro bE aG
 refine An rfl (rt (tR (GM (fK (vs:= [.agg #[vI 0,vI 0, .slice none 0 0], .bool false]) rfl (bT.cell rfl (GJ (cs:= [vI 0,vI 0, .slice none 0 0]) E2 E1 ((aG.cls (i:=0) rfl).lit (k:=0) (m:=3) rfl)) (bT.tmp rfl bT.nil)) (Kk rfl)) ?_)))
 have bF:Own w D bE (row none 0 0 (q0 (eI .i64) ([])) 183 1::_):=aG.free (bX 183 1)
 have bG:=bF.pk [0]
 obtain⟨rfl,rfl⟩:=fC (zj hr (show _=(fF.mk 0 0 (D4 ([])),false) from et (iN b) (ip d)))
 exact⟨none,0,rfl,bG,g7⟩
 refine jF (dF d) (sk (sr (fw (vJ (E0 c)) (Gw (e:=c) (Gv rfl) e8) ?_)))
 by_cases h:((E0 c:Nat):Int)=1
 refine fw (vP g 3) (by(try unfold vJ); rw [show ((E0 c:Nat):Int)=1 from by omega]; exact yk) (La ([vI 2,vI 0, .slice s 3 3]) a 0 E2 E1 ?_)
 have bH:=a.pf [15]
 refine bY [vI 2,vI 0, .slice s 3 3] 0 bH E1 ?_
 intro dK aH
 refine An rfl (rt (GM (fK (vs:= [.agg #[vI 2,vI 0, .slice s 3 3], .bool true]) rfl (bT.cell rfl (GJ (cs:= [vI 2,vI 0, .slice s 3 3]) E2 E1 ((aH.cls (i:=0) rfl).lit (k:=0) (m:=3) rfl)) (bT.tmp rfl bT.nil)) (Kk rfl)) ?_))
 have bI:=aH.pk [15]
 obtain⟨rfl,rfl⟩:=fC (zj hr (show _=(fF.mk 2 0 (D4 ([0,1,7])),true) from et (iN b) (et (iN d) (ip h))))
 exact⟨s,3,rfl,bI,g7⟩
 by_cases l:((E0 c:Nat):Int)=2
 refine fw (vP g 6) (by(try unfold vJ); rw [show ((E0 c:Nat):Int)=2 from by omega]; exact yk) (La ([vI 0,vI 2, .slice t 4 4]) a 0 E2 E1 ?_)
 have bJ:=a.pf [15]
 refine bY [vI 0,vI 2, .slice t 4 4] 0 bJ E1 ?_
 intro dL aI
 refine An rfl (rt (GM (fK (vs:= [.agg #[vI 0,vI 2, .slice t 4 4], .bool true]) rfl (bT.cell rfl (GJ (cs:= [vI 0,vI 2, .slice t 4 4]) E2 E1 ((aI.cls (i:=0) rfl).lit (k:=0) (m:=3) rfl)) (bT.tmp rfl bT.nil)) (Kk rfl)) ?_))
 have bK:=aI.pk [14]
 obtain⟨rfl,rfl⟩:=fC (zj hr (show _=(fF.mk 0 2 (D4 ([0,1,2,3])),true) from et (iN b) (et (iN d) (et (iN h) (ip l)))))
 exact⟨t,4,rfl,bK,g7⟩
 by_cases o:((E0 c:Nat):Int)=3
 refine fw (vP g 9) (by(try unfold vJ); rw [show ((E0 c:Nat):Int)=3 from by omega]; exact yk) (La ([vI 0,vI 1, .slice u 4 4]) a 0 E2 E1 ?_)
 have bL:=a.pf [15]
 refine bY [vI 0,vI 1, .slice u 4 4] 0 bL E1 ?_
 intro dM aJ
 refine An rfl (rt (GM (fK (vs:= [.agg #[vI 0,vI 1, .slice u 4 4], .bool true]) rfl (bT.cell rfl (GJ (cs:= [vI 0,vI 1, .slice u 4 4]) E2 E1 ((aJ.cls (i:=0) rfl).lit (k:=0) (m:=3) rfl)) (bT.tmp rfl bT.nil)) (Kk rfl)) ?_))
 have bM:=aJ.pk [13]
 obtain⟨rfl,rfl⟩:=fC (zj hr (show _=(fF.mk 0 1 (D4 ([4,5,6,7])),true) from et (iN b) (et (iN d) (et (iN h) (et (iN l) (ip o))))))
 exact⟨u,4,rfl,bM,g7⟩
 by_cases p:((E0 c:Nat):Int)=4
 refine fw (vP g 12) (by(try unfold vJ); rw [show ((E0 c:Nat):Int)=4 from by omega]; exact yk) (La ([vI 1,vI 0, .slice x 3 3]) a 0 E2 E1 ?_)
 have bN:=a.pf [15]
 refine bY [vI 1,vI 0, .slice x 3 3] 0 bN E1 ?_
 intro bP Q
 refine An rfl (rt (GM (fK (vs:= [.agg #[vI 1,vI 0, .slice x 3 3], .bool true]) rfl (bT.cell rfl (GJ (cs:= [vI 1,vI 0, .slice x 3 3]) E2 E1 ((Q.cls (i:=0) rfl).lit (k:=0) (m:=3) rfl)) (bT.tmp rfl bT.nil)) (Kk rfl)) ?_))
 have aK:=Q.pk [12]
 obtain⟨rfl,rfl⟩:=fC (zj hr (show _=(fF.mk 1 0 (D4 ([4,2,3])),true) from et (iN b) (et (iN d) (et (iN h) (et (iN l) (et (iN o) (ip p)))))))
 exact⟨x,3,rfl,aK,g7⟩
 by_cases f:((E0 c:Nat):Int)=5
 refine fw (vP g 15) (by(try unfold vJ); rw [show ((E0 c:Nat):Int)=5 from by omega]; exact yk) (La ([vI 0,vI 1, .slice z 2 2]) a 0 E2 E1 ?_)
 have aL:=a.pf [15]
 refine bY [vI 0,vI 1, .slice z 2 2] 0 aL E1 ?_
 intro bQ R
 refine An rfl (rt (GM (fK (vs:= [.agg #[vI 0,vI 1, .slice z 2 2], .bool true]) rfl (bT.cell rfl (GJ (cs:= [vI 0,vI 1, .slice z 2 2]) E2 E1 ((R.cls (i:=0) rfl).lit (k:=0) (m:=3) rfl)) (bT.tmp rfl bT.nil)) (Kk rfl)) ?_))
 have aM:=R.pk [11]
 obtain⟨rfl,rfl⟩:=fC (zj hr (show _=(fF.mk 0 1 (D4 ([4,8])),true) from et (iN b) (et (iN d) (et (iN h) (et (iN l) (et (iN o) (et (iN p) (ip f))))))))
 exact⟨z,2,rfl,aM,g7⟩
 by_cases j:((E0 c:Nat):Int)=6
 refine fw (vP g 18) (by(try unfold vJ); rw [show ((E0 c:Nat):Int)=6 from by omega]; exact yk) (La ([vI 1,vI 0, .slice A 1 1]) a 0 E2 E1 ?_)
 have aN:=a.pf [15]
 refine bY [vI 1,vI 0, .slice A 1 1] 0 aN E1 ?_
 intro bR S
 refine An rfl (rt (GM (fK (vs:= [.agg #[vI 1,vI 0, .slice A 1 1], .bool true]) rfl (bT.cell rfl (GJ (cs:= [vI 1,vI 0, .slice A 1 1]) E2 E1 ((S.cls (i:=0) rfl).lit (k:=0) (m:=3) rfl)) (bT.tmp rfl bT.nil)) (Kk rfl)) ?_))
 have aO:=S.pk [10]
 obtain⟨rfl,rfl⟩:=fC (zj hr (show _=(fF.mk 1 0 (D4 ([4])),true) from et (iN b) (et (iN d) (et (iN h) (et (iN l) (et (iN o) (et (iN p) (et (iN f) (ip j)))))))))
 exact⟨A,1,rfl,aO,g7⟩
 by_cases n:((E0 c:Nat):Int)=7
 refine fw (vP g 21) (by(try unfold vJ); rw [show ((E0 c:Nat):Int)=7 from by omega]; exact yk) (La ([vI 1,vI 0, .slice B 1 1]) a 0 E2 E1 ?_)
 have aP:=a.pf [15]
 refine bY [vI 1,vI 0, .slice B 1 1] 0 aP E1 ?_
 intro bS T
 refine An rfl (rt (GM (fK (vs:= [.agg #[vI 1,vI 0, .slice B 1 1], .bool true]) rfl (bT.cell rfl (GJ (cs:= [vI 1,vI 0, .slice B 1 1]) E2 E1 ((T.cls (i:=0) rfl).lit (k:=0) (m:=3) rfl)) (bT.tmp rfl bT.nil)) (Kk rfl)) ?_))
 have aQ:=T.pk [9]
 obtain⟨rfl,rfl⟩:=fC (zj hr (show _=(fF.mk 1 0 (D4 ([4])),true) from et (iN b) (et (iN d) (et (iN h) (et (iN l) (et (iN o) (et (iN p) (et (iN f) (et (iN j) (ip n))))))))))
 exact⟨B,1,rfl,aQ,g7⟩
 by_cases q:((E0 c:Nat):Int)=8
 refine fw (vP g 24) (by(try unfold vJ); rw [show ((E0 c:Nat):Int)=8 from by omega]; exact yk) (La ([vI 0,vI 1, .slice C 4 4]) a 0 E2 E1 ?_)
 have aR:=a.pf [15]
 refine bY [vI 0,vI 1, .slice C 4 4] 0 aR E1 ?_
 intro bU U
 refine An rfl (rt (GM (fK (vs:= [.agg #[vI 0,vI 1, .slice C 4 4], .bool true]) rfl (bT.cell rfl (GJ (cs:= [vI 0,vI 1, .slice C 4 4]) E2 E1 ((U.cls (i:=0) rfl).lit (k:=0) (m:=3) rfl)) (bT.tmp rfl bT.nil)) (Kk rfl)) ?_))
 have aS:=U.pk [8]
 obtain⟨rfl,rfl⟩:=fC (zj hr (show _=(fF.mk 0 1 (D4 ([9,6,10,11])),true) from et (iN b) (et (iN d) (et (iN h) (et (iN l) (et (iN o) (et (iN p) (et (iN f) (et (iN j) (et (iN n) (ip q)))))))))))
 exact⟨C,4,rfl,aS,g7⟩
 by_cases r:((E0 c:Nat):Int)=9
 refine fw (vP g 27) (by(try unfold vJ); rw [show ((E0 c:Nat):Int)=9 from by omega]; exact yk) (La ([vI 1,vI 0, .slice E 1 1]) a 0 E2 E1 ?_)
 have aT:=a.pf [15]
 refine bY [vI 1,vI 0, .slice E 1 1] 0 aT E1 ?_
 intro bV V
 refine An rfl (rt (GM (fK (vs:= [.agg #[vI 1,vI 0, .slice E 1 1], .bool true]) rfl (bT.cell rfl (GJ (cs:= [vI 1,vI 0, .slice E 1 1]) E2 E1 ((V.cls (i:=0) rfl).lit (k:=0) (m:=3) rfl)) (bT.tmp rfl bT.nil)) (Kk rfl)) ?_))
 have aU:=V.pk [7]
 obtain⟨rfl,rfl⟩:=fC (zj hr (show _=(fF.mk 1 0 (D4 ([9])),true) from et (iN b) (et (iN d) (et (iN h) (et (iN l) (et (iN o) (et (iN p) (et (iN f) (et (iN j) (et (iN n) (et (iN q) (ip r))))))))))))
 exact⟨E,1,rfl,aU,g7⟩
 by_cases L:((E0 c:Nat):Int)=10
 refine fw (vP g 30) (by(try unfold vJ); rw [show ((E0 c:Nat):Int)=10 from by omega]; exact yk) (La ([vI 0,vI 1, .slice F 5 5]) a 0 E2 E1 ?_)
 have aV:=a.pf [15]
 refine bY [vI 0,vI 1, .slice F 5 5] 0 aV E1 ?_
 intro bZ W
 refine An rfl (rt (GM (fK (vs:= [.agg #[vI 0,vI 1, .slice F 5 5], .bool true]) rfl (bT.cell rfl (GJ (cs:= [vI 0,vI 1, .slice F 5 5]) E2 E1 ((W.cls (i:=0) rfl).lit (k:=0) (m:=3) rfl)) (bT.tmp rfl bT.nil)) (Kk rfl)) ?_))
 have aW:=W.pk [6]
 obtain⟨rfl,rfl⟩:=fC (zj hr (show _=(fF.mk 0 1 (D4 ([9,10,12,8,13])),true) from et (iN b) (et (iN d) (et (iN h) (et (iN l) (et (iN o) (et (iN p) (et (iN f) (et (iN j) (et (iN n) (et (iN q) (et (iN r) (ip L)))))))))))))
 exact⟨F,5,rfl,aW,g7⟩
 by_cases M:((E0 c:Nat):Int)=11
 refine fw (vP g 33) (by(try unfold vJ); rw [show ((E0 c:Nat):Int)=11 from by omega]; exact yk) (La ([vI 1,vI 1, .slice G 5 5]) a 0 E2 E1 ?_)
 have aX:=a.pf [15]
 refine bY [vI 1,vI 1, .slice G 5 5] 0 aX E1 ?_
 intro cu X
 refine An rfl (rt (GM (fK (vs:= [.agg #[vI 1,vI 1, .slice G 5 5], .bool true]) rfl (bT.cell rfl (GJ (cs:= [vI 1,vI 1, .slice G 5 5]) E2 E1 ((X.cls (i:=0) rfl).lit (k:=0) (m:=3) rfl)) (bT.tmp rfl bT.nil)) (Kk rfl)) ?_))
 have aY:=X.pk [5]
 obtain⟨rfl,rfl⟩:=fC (zj hr (show _=(fF.mk 1 1 (D4 ([10,14,15,13,7])),true) from et (iN b) (et (iN d) (et (iN h) (et (iN l) (et (iN o) (et (iN p) (et (iN f) (et (iN j) (et (iN n) (et (iN q) (et (iN r) (et (iN L) (ip M))))))))))))))
 exact⟨G,5,rfl,aY,g7⟩
 by_cases N:((E0 c:Nat):Int)=12
 refine fw (vP g 36) (by(try unfold vJ); rw [show ((E0 c:Nat):Int)=12 from by omega]; exact yk) (La ([vI 1,vI 1, .slice I 3 3]) a 0 E2 E1 ?_)
 have aZ:=a.pf [15]
 refine bY [vI 1,vI 1, .slice I 3 3] 0 aZ E1 ?_
 intro cz Y
 refine An rfl (rt (GM (fK (vs:= [.agg #[vI 1,vI 1, .slice I 3 3], .bool true]) rfl (bT.cell rfl (GJ (cs:= [vI 1,vI 1, .slice I 3 3]) E2 E1 ((Y.cls (i:=0) rfl).lit (k:=0) (m:=3) rfl)) (bT.tmp rfl bT.nil)) (Kk rfl)) ?_))
 have bf:=Y.pk [4]
 obtain⟨rfl,rfl⟩:=fC (zj hr (show _=(fF.mk 1 1 (D4 ([10,14,15])),true) from et (iN b) (et (iN d) (et (iN h) (et (iN l) (et (iN o) (et (iN p) (et (iN f) (et (iN j) (et (iN n) (et (iN q) (et (iN r) (et (iN L) (et (iN M) (ip N)))))))))))))))
 exact⟨I,3,rfl,bf,g7⟩
 by_cases Z:((E0 c:Nat):Int)=13
 refine fw (vP g 39) (by(try unfold vJ); rw [show ((E0 c:Nat):Int)=13 from by omega]; exact yk) (La ([vI 1,vI 0, .slice J 1 1]) a 0 E2 E1 ?_)
 have bg:=a.pf [15]
 refine bY [vI 1,vI 0, .slice J 1 1] 0 bg E1 ?_
 intro cB aa
 refine An rfl (rt (GM (fK (vs:= [.agg #[vI 1,vI 0, .slice J 1 1], .bool true]) rfl (bT.cell rfl (GJ (cs:= [vI 1,vI 0, .slice J 1 1]) E2 E1 ((aa.cls (i:=0) rfl).lit (k:=0) (m:=3) rfl)) (bT.tmp rfl bT.nil)) (Kk rfl)) ?_))
 have bi:=aa.pk [3]
 obtain⟨rfl,rfl⟩:=fC (zj hr (show _=(fF.mk 1 0 (D4 ([10])),true) from et (iN b) (et (iN d) (et (iN h) (et (iN l) (et (iN o) (et (iN p) (et (iN f) (et (iN j) (et (iN n) (et (iN q) (et (iN r) (et (iN L) (et (iN M) (et (iN N) (ip Z))))))))))))))))
 exact⟨J,1,rfl,bi,g7⟩
 refine fw (vP g 42) (by(try unfold vJ); rw [show ((E0 c:Nat):Int)=14 from by omega]; exact yk) (La ([vI 1,vI 0, .slice K 1 1]) a 0 E2 E1 ?_)
 have bn:=a.pf [15]
 refine bY [vI 1,vI 0, .slice K 1 1] 0 bn E1 ?_
 intro cK ae
 refine An rfl (rt (GM (fK (vs:= [.agg #[vI 1,vI 0, .slice K 1 1], .bool true]) rfl (bT.cell rfl (GJ (cs:= [vI 1,vI 0, .slice K 1 1]) E2 E1 ((ae.cls (i:=0) rfl).lit (k:=0) (m:=3) rfl)) (bT.tmp rfl bT.nil)) (Kk rfl)) ?_))
 have bq:=ae.pk [2]
 obtain⟨rfl,rfl⟩:=fC (zj hr (show _=(fF.mk 1 0 (D4 ([10])),true) from et (iN b) (et (iN d) (et (iN h) (et (iN l) (et (iN o) (et (iN p) (et (iN f) (et (iN j) (et (iN n) (et (iN q) (et (iN r) (et (iN L) (et (iN M) (et (iN N) (iN Z))))))))))))))))
 exact⟨K,1,rfl,bq,g7⟩
def sW (b:Int) (a:Int):Bool:=
 if b=2 then if a=1 then true else decide (a=2) else if a=3 then true else if a=4 then true else decide (a=5)
theorem yc (w D f b l) (H:Own w D w []) (hr:sW f b=l):
    Calls u2 156 #[vI f,vI b] w (dG λ v w'=>v= .bool l/\Own w D w' []):=by
 refine cb Tryz.func156 ?_
 refine sr (An rfl (Gp (sr (Mz rfl (Kz (.bool (decide (f=2))) (nt ?_))))))
 by_cases e:f=2
 refine jT (dT e) (sr (Mz rfl (Kz (.bool (decide (b=1))) (Mz rfl ?_))))
 by_cases c:b=1
 refine Sz (dT c) (Sz (dT c) (fw (.bool true) (Gu rfl (dT c) rfl) (An rfl (rt (tR (rs ?_))))))
 have g:=H.pk []
 obtain rfl:_=true:=zj hr (et (ip e) (ip c))
 exact⟨rfl,g⟩
 refine gw (vI b) (dF c) (Gv rfl) (Gz (.bool (decide (b=2))) (dF c) (fw (.bool (decide (b=2))) (Gm rfl (dF c) rfl) (An rfl (rt (tR (rs ?_))))))
 have h:=H.pk []
 obtain rfl:_=decide (b=2):=zj hr (et (ip e) (iN c))
 exact⟨rfl,h⟩
 refine jF (dF e) (sk (sr (Mz rfl (Kz (.bool (decide (b=3))) (Mz rfl ?_)))))
 by_cases a:b=3
 refine Sz (dT a) (Sz (dT a) (fw (.bool true) (Gu rfl (dT a) rfl) (Mz rfl (Sz rfl (Sz rfl (fw (.bool true) (Gu rfl rfl rfl) (An rfl (rt (rs ?_)))))))))
 have i:=H.pk []
 obtain rfl:_=true:=zj hr (et (iN e) (ip a))
 exact⟨rfl,i⟩
 refine gw (vI b) (dF a) (Gv rfl) (Gz (.bool (decide (b=4))) (dF a) (fw (.bool (decide (b=4))) (Gm rfl (dF a) rfl) (Mz rfl ?_)))
 by_cases d:b=4
 refine Sz (dT d) (Sz (dT d) (fw (.bool true) (Gu rfl (dT d) rfl) (An rfl (rt (rs ?_)))))
 have j:=H.pk []
 obtain rfl:_=true:=zj hr (et (iN e) (et (iN a) (ip d)))
 exact⟨rfl,j⟩
 refine gw (vI b) (dF d) (Gv rfl) (Gz (.bool (decide (b=5))) (dF d) (fw (.bool (decide (b=5))) (Gm rfl (dF d) rfl) (An rfl (rt (rs ?_)))))
 have k:=H.pk []
 obtain rfl:_=decide (b=5):=zj hr (et (iN e) (et (iN a) (iN d)))
 exact⟨rfl,k⟩
theorem iK:Elem u2 25 101 2 32:=mh (z:= .agg #[.string ⟨u3 ([])⟩, .string ⟨u3 ([])⟩]) E3 e9 rfl f5
structure aA where
 aX:List UInt8
 aN:List UInt8
def aA.cells (x:aA):List Value:= [.string ⟨u3 x.aX⟩, .string ⟨u3 x.aN⟩]
instance:Bk aA:=⟨λ x _=>bk x.aX+(bk x.aN+(0))⟩
theorem aA.len:∀ x,(aA.cells x).length=2:=λ _=>rfl
theorem aA.one:∀ x, ∀ u ∈ aA.cells x,u.oneCell'=true:=λ x u hu=>by
 simp only [aA.cells,t7,u4,or_false] at hu
 rcases hu with rfl | rfl <;> rfl
def I6 (w:World) (x:aA):Prop:=(x.aX.length<=140737488351232)/\(x.aN.length<=140737488351232)
theorem AP (w:World):kR u2 w 101 2 aA.cells (I6 w):=
 (mo (sz:=2) Tryz.underlying101 e9 (fB.cons (i:=0) (off:=0) (s:=1) rfl rfl (kL u5 e9) (fB.cons (i:=1) (off:=1) (s:=1) rfl rfl (kL u5 e9) fB.nil))).map (λ p=>⟨p.1,p.2.1⟩) aA.len (λ _=>rfl) (λ _ h=>⟨h.1,h.2.1⟩) λ _=>s1 _
instance:Inhabited aA:=⟨⟨default,default⟩⟩
theorem ui:Elem u2 45 70 3 48:=mh (z:= .agg #[.bool false, .string ⟨u3 ([])⟩, .slice none 0 0]) E4 e9 rfl f5
structure aP where
 dO:Bool
 aN:List UInt8
 bq:Sv aA
def aP.cells (x:aP):List Value:= [.bool x.dO, .string ⟨u3 x.aN⟩, .slice x.bq.A x.bq.ls.length x.bq.c]
instance:Bk aP:=⟨λ x _=>bk x.dO+(bk x.aN+(bk x.bq+(0)))⟩
theorem aP.len:∀ x,(aP.cells x).length=3:=λ _=>rfl
theorem aP.one:∀ x, ∀ u ∈ aP.cells x,u.oneCell'=true:=λ x u hu=>by
 simp only [aP.cells,t7,u4,or_false] at hu
 rcases hu with rfl | rfl | rfl <;> rfl
def I9 (w:World) (x:aP):Prop:=(True)/\(x.aN.length<=140737488351232)/\(mZ w 2 32 aA.cells (I6 w) x.bq)
theorem zu (w:World):kR u2 w 70 3 aP.cells (I9 w):=
 (mo (sz:=3) Tryz.underlying70 e9 (fB.cons (i:=0) (off:=0) (s:=1) rfl rfl (uM E6 e9) (fB.cons (i:=1) (off:=1) (s:=1) rfl rfl (kL u5 e9) (fB.cons (i:=2) (off:=2) (s:=1) rfl rfl (pO (bytes:=32) E3 e9 e9 f5 (AP w)) fB.nil)))).map (λ p=>⟨p.1,p.2.1,p.2.2.1⟩) aP.len (λ _=>rfl) (λ _ h=>⟨h.1,h.2.1,h.2.2.1⟩) λ _=>s1 _
instance:Inhabited aP:=⟨⟨default,default,default⟩⟩
structure cZ where
 dO:Bool
 aN:List UInt8
 bq:Ll aA
instance:Inhabited cZ:=⟨⟨default,default,default⟩⟩
def aP.abs (x:aP):cZ:=⟨x.dO,x.aN,⟨x.bq.ls⟩⟩
def G8 (x:aP):List HP:= [row x.bq.A x.bq.ls.length x.bq.c (q0 aA.cells x.bq.ls) 101 2]
def iZ:List aA->Unit ⊕ Bool
  | []=>v0 ()
  | a::c=>bnd (dV a.aX) λ b=>if b=0 then if((a.aN.length:Nat):Int) > 16 then v2 (false) else iZ c else v2 (false)
def ib:List cZ->Unit ⊕ Bool
  | []=>v0 ()
  | a::b=>if((a.aN.length:Nat):Int) > 16 then v2 (false) else if((a.bq.ls.length:Nat):Int) > 4 then v2 (false) else Cs (iZ a.bq.ls) λ _=>ib b
def qC (a:Int) (l1:List cZ):Bool:=
 bnd (if a=2 then 4 else 24) λ sJrJ=>if((l1.length:Nat):Int) > ((sJrJ:Nat):Int) then false else lp (ib l1) λ _=>true
theorem vX (w D S r n1 Q d1 l1 r0) (H:Own w D w []) (T:r8 aP.abs d1=l1) (R:Ro w D λ w'=>bM w' 3 r n1 (q0 aP.cells d1)) (J:∀ x ∈ d1,Ro w D (λ w'=>bM w' 2 x.bq.A x.bq.ls.length (q0 aA.cells x.bq.ls))/\(x.bq.ls.length<=x.bq.c/\x.bq.ls.length<=9223372036854775807)) (az:n1=l1.length) (bq:l1.length<=9223372036854775807) (hr:qC S l1=r0):
    Calls u2 157 #[vI S, .slice r n1 Q] w (dG λ v w'=>v= .bool r0/\Own w D w' []):=by
 subst az
 have aU:=aW T
 refine cb Tryz.func157 ?_
 refine sr (Ar rfl (An rfl (Gp (sr (Mz rfl (Kz (.bool (decide (S=2))) (nt ?_)))))))
 obtain⟨aB,B⟩:=mP λ (n:Nat) w'=>Own w D w' []/\n<=9223372036854775807/\n >= 4/\n<=24/\(if S=2 then 4 else 24)=n
 refine Iq (λ i:Nat=> [(5,vJ i),(4, .bool false),(1, .slice r l1.length Q)]) aB ?_ ?_
 by_cases K:S=2
 refine jT (dT K) (Gq (Az rfl (v8 ?_)))
 have aC:=H.pk []
 exact Ia 4 ⟨rfl,rfl,rfl,trivial⟩ (B.2 ⟨aC,e8,e8,e8,ip K⟩)
 refine jF (dF K) (G7 ?_)
 have aD:=H.pk []
 exact Ia 24 ⟨rfl,rfl,rfl,trivial⟩ (B.2 ⟨aD,e8,e8,e8,iN K⟩)
 rintro n bu U
 show Wp _ _ _ [(5,vJ n),(4, .bool false),(1, .slice r l1.length Q)] _ _
 obtain⟨V,aV,aX,aY,k⟩:=B.1 U
 refine Gp (sr (Mz rfl (Kz (vJ l1.length) (Mz rfl (Kz (.bool (decide (((l1.length:Nat):Int) > ((n:Nat):Int)))) (nt ?_))))))
 by_cases o:((l1.length:Nat):Int) > ((n:Nat):Int)
 refine jT (dT o) (sr (An rfl (rt (tR (rs ?_)))))
 have aF:=V.pk []
 obtain rfl:_=false:=zj hr (et (ae k) (ip o))
 exact⟨rfl,aF⟩
 refine jF (dF o) (sk (Gp (sr (Mz rfl (Kz (vJ l1.length) (Mn rfl (bo ?_)))))))
 have aG:=V.pk []
 obtain⟨aH,C⟩:=mP λ (b:Nat) w'=>Own w D w' []/\b<=l1.length/\ib l1=ib (r7 b l1)
 refine v4 (λ i:Nat=> [(4, .bool false),(18,vJ i),(17,vJ l1.length),(16, .slice r l1.length Q)]) aH (λ i=>l1.length - i) 0 ⟨rfl,rfl,rfl,rfl,trivial⟩ (C.2 ⟨aG,e8,rfl⟩) ?_
 rintro b bv W
 show Wp _ _ _ [(4, .bool false),(18,vJ b),(17,vJ l1.length),(16, .slice r l1.length Q)] _ _
 obtain⟨E,aZ,l⟩:=C.1 W
 refine sr (Kz (.bool (decide (((b:Nat):Int) < ((l1.length:Nat):Int)))) (nt (Gp ?_)))
 by_cases X:((b:Nat):Int) < ((l1.length:Nat):Int)
 obtain⟨a,m⟩:=dI (ls:=d1) (i:=b) aP.len f5 (E.ro R) f2
 have Y:=fO T m
 have bf:=(J _ (C1 m)).2
 have p:=drop_at Y
 refine jT (dT X) (sk (Gp (bo (sr (fw (.pointer (some ⟨ab r,ao r+b *3,none⟩)) (GI (ui) rfl rfl ((E.ro R).addr (i:=b) e8) e8) (fw (.agg (aP.cells a).toArray) (GH rfl (GJ (cs:=(aP.cells a)) Tryz.isAgg70 Tryz.sizeOf70 ((E.ro R).elem aP.len m f5))) ?_))))))
 refine bW [.bool false, .string ⟨u3 ([])⟩, .slice none 0 0] 70 E ?_
 intro j bz aI
 refine bY (aP.cells a) 0 aI Tryz.sizeOf70 ?_
 intro bA u
 refine nt (Gp (sr (Kz (vP j 1) (Lz (.string ⟨u3 a.aN⟩) u 0 v3 (Kz (vJ a.aN.length) (Kz (.bool (decide (((a.aN.length:Nat):Int) > 16))) (Mz rfl ?_)))))))
 by_cases d:((a.aN.length:Nat):Int) > 16
 refine Sz (dT d) (Sz (dT d) (Sz (dT d) (Sz (dT d) (fw (.bool true) (Gu rfl (dT d) rfl) (nt (jt (sr (An rfl (rt (tR (bR (tR (tR (bR (tR (rs ?_))))))))))))))))
 have aJ:=u.pk []
 obtain rfl:_=false:=zj hr (et (ae k) (et (iN o) (iG (et (l) (et (congrArg (λ q=>ib q) p) (ip d))))))
 exact⟨rfl,aJ⟩
 refine Gz (vP j 2) (dF d) (Gl (.slice a.bq.A a.bq.ls.length a.bq.c) (dF d) u 0 Tryz.isAgg25 (Gz (vJ a.bq.ls.length) (dF d) (Gz (.bool (decide (((a.bq.ls.length:Nat):Int) > 4))) (dF d) (fw (.bool (decide (((a.bq.ls.length:Nat):Int) > 4))) (Gm rfl (dF d) rfl) (nt ?_)))))
 by_cases y:((a.bq.ls.length:Nat):Int) > 4
 refine jT (dT y) (sr (An rfl (rt (tR (bR (tR (tR (bR (tR (rs ?_))))))))))
 have aK:=u.pk []
 obtain rfl:_=false:=zj hr (et (ae k) (et (iN o) (iG (et (l) (et (congrArg (λ q=>ib q) p) (et (iN d) (ip y)))))))
 exact⟨rfl,aK⟩
 refine jF (dF y) (sk (sr (Kz (vP j 2) (Lz (.slice a.bq.A a.bq.ls.length a.bq.c) u 0 Tryz.isAgg25 (Kz (vJ a.bq.ls.length) (Mn rfl (bo ?_)))))))
 have aL:=u.pf []
 obtain⟨aM,F⟩:=mP λ (f:Nat) w'=>Own w D w' [blk j (aP.cells a) 70]/\f<=a.bq.ls.length/\iZ a.bq.ls=iZ (r7 f a.bq.ls)
 refine v4 (λ i:Nat=> [(4, .bool false),(35,vJ i),(34,vJ a.bq.ls.length),(33, .slice a.bq.A a.bq.ls.length a.bq.c),(32,vP j 2),(31, .bool (decide (((a.bq.ls.length:Nat):Int) > 4))),(30, .bool (decide (((a.bq.ls.length:Nat):Int) > 4))),(29,vJ a.bq.ls.length),(28, .slice a.bq.A a.bq.ls.length a.bq.c),(27,vP j 2),(26, .bool (decide (((a.aN.length:Nat):Int) > 16))),(25, .bool (decide (((a.aN.length:Nat):Int) > 16))),(24,vJ a.aN.length),(23, .string ⟨u3 a.aN⟩),(22,vP j 1),(7,vP j 0),(21, .agg (aP.cells a).toArray),(20, .pointer (some ⟨ab r,ao r+b *3,none⟩)),(19, .bool (decide (((b:Nat):Int) < ((l1.length:Nat):Int)))),(18,vJ b),(17,vJ l1.length),(16, .slice r l1.length Q)]) aM (λ i=>a.bq.ls.length - i) 0 ⟨rfl,rfl,rfl,rfl,rfl,rfl,rfl,rfl,rfl,rfl,rfl,rfl,rfl,rfl,rfl,rfl,rfl,rfl,rfl,rfl,rfl,rfl,trivial⟩ (F.2 ⟨aL,e8,rfl⟩) ?_
 rintro f bB Z
 show Wp _ _ _ [(4, .bool false),(35,vJ f),(34,vJ a.bq.ls.length),(33, .slice a.bq.A a.bq.ls.length a.bq.c),(32,vP j 2),(31, .bool (decide (((a.bq.ls.length:Nat):Int) > 4))),(30, .bool (decide (((a.bq.ls.length:Nat):Int) > 4))),(29,vJ a.bq.ls.length),(28, .slice a.bq.A a.bq.ls.length a.bq.c),(27,vP j 2),(26, .bool (decide (((a.aN.length:Nat):Int) > 16))),(25, .bool (decide (((a.aN.length:Nat):Int) > 16))),(24,vJ a.aN.length),(23, .string ⟨u3 a.aN⟩),(22,vP j 1),(7,vP j 0),(21, .agg (aP.cells a).toArray),(20, .pointer (some ⟨ab r,ao r+b *3,none⟩)),(19, .bool (decide (((b:Nat):Int) < ((l1.length:Nat):Int)))),(18,vJ b),(17,vJ l1.length),(16, .slice r l1.length Q)] _ _
 obtain⟨G,bg,s⟩:=F.1 Z
 refine sr (Kz (.bool (decide (((f:Nat):Int) < ((a.bq.ls.length:Nat):Int)))) (nt (Gp ?_)))
 by_cases aa:((f:Nat):Int) < ((a.bq.ls.length:Nat):Int)
 obtain⟨g,N⟩:=dI (ls:=a.bq.ls) (i:=f) aA.len f5 (G.ro (J _ (C1 m)).1) f2
 have I:=drop_at N
 refine jT (dT aa) (sk (Gp (bo (sr (fw (.pointer (some ⟨ab a.bq.A,ao a.bq.A+f *2,none⟩)) (GI (iK) rfl rfl ((G.ro (J _ (C1 m)).1).addr (i:=f) e8) e8) (fw (.agg (aA.cells g).toArray) (GH rfl (GJ (cs:=(aA.cells g)) Tryz.isAgg101 Tryz.sizeOf101 ((G.ro (J _ (C1 m)).1).elem aA.len N f5))) ?_))))))
 refine bW [.string ⟨u3 ([])⟩, .string ⟨u3 ([])⟩] 101 G ?_
 intro af bC aN
 refine bY (aA.cells g) 0 aN Tryz.sizeOf101 ?_
 intro bD ag
 refine ns (Kz (vP af 0) (Lz (.string ⟨u3 g.aX⟩) ag 0 v3 ?_))
 obtain⟨z,t⟩:∃ q,dV g.aX=q:=⟨_,rfl⟩
 obtain⟨bE,ah,bi,ai,bn⟩:=Gr ag
 refine cl Tryz.call62 (jB _ _ g.aX z ah t) ?_
 rintro _ bF ⟨rfl,aj,O,P⟩
 have L:=ai _ _ aj
 replace O: ¬ (z=0)\/(1<=g.aX.length/\g.aX.length<=12):=O
 replace P:g.aX.length < 1\/g.aX.length > 12\/z=0:=P
 refine fw (.bool (decide (¬ (z=0)))) (GN (e:= !(decide (z=0))) yk decide_not.symm) (Mz rfl ?_)
 by_cases h:z=0
 refine gw (vP af 1) (dF (Ko h)) yk (gw (.string ⟨u3 g.aN⟩) (dF (Ko h)) (GH rfl (bS.one v3 (Ho (L.cls (i:=0) rfl) rfl))) (gw (vJ g.aN.length) (dF (Ko h)) yk (gw (.bool (decide (((g.aN.length:Nat):Int) > 16))) (dF (Ko h)) yk (fw (.bool (decide (((g.aN.length:Nat):Int) > 16))) (Gm rfl (dF (Ko h)) rfl) (nt ?_)))))
 by_cases M:((g.aN.length:Nat):Int) > 16
 refine jT (dT M) (sr (An rfl (rt (bR (tR (tR (bR (bR (tR (tR (bR (tR (rs ?_)))))))))))))
 have aO:=L.pk []
 obtain rfl:_=false:=zj hr (et (ae k) (et (iN o) (iG (et (l) (et (congrArg (λ q=>ib q) p) (et (iN d) (et (iN y) (zD (et (s) (et (congrArg (λ q=>iZ q) I) (et (ae t) (et (ip h) (ip M)))))))))))))
 exact⟨rfl,aO⟩
 refine jF (dF M) (G7 (bN (Gs (Gq (fw (vJ (f+1)) (Gw (e:=v7.wrap (((f:Nat):Int)+1)) yk f1) (Mz rfl (v8 ?_)))))))
 have aQ:=L.pk [1]
 exact GL (f+1) ⟨rfl,rfl,rfl,rfl,rfl,rfl,rfl,rfl,rfl,rfl,rfl,rfl,rfl,rfl,rfl,rfl,rfl,rfl,rfl,rfl,rfl,rfl,trivial⟩ (F.2 ⟨aQ,e8,et (s) (et (congrArg (λ q=>iZ q) I) (et (ae t) (et (ip h) (iN M))))⟩) (by show a.bq.ls.length - (f+1) < a.bq.ls.length - f; omega)
 refine Sz (dT h) (Sz (dT h) (Sz (dT h) (Sz (dT h) (fw (.bool true) (Gu rfl (dT h) rfl) (nt (jt (sr (An rfl (rt (bR (tR (tR (bR (bR (tR (tR (bR (tR (rs ?_)))))))))))))))))))
 have aR:=L.pk []
 obtain rfl:_=false:=zj hr (et (ae k) (et (iN o) (iG (et (l) (et (congrArg (λ q=>ib q) p) (et (iN d) (et (iN y) (zD (et (s) (et (congrArg (λ q=>iZ q) I) (et (ae t) (iN h))))))))))))
 exact⟨rfl,aR⟩
 refine jF (dF aa) (v9 (GK ?_))
 have ak:iZ a.bq.ls=v0 ():=et (s) (et (congrArg (λ q=>iZ q) (eP (ls:=a.bq.ls) (i:=f) e8)) rfl)
 refine GK (GR (bN (Gs (Gq (fw (vJ (b+1)) (Gw (e:=v7.wrap (((b:Nat):Int)+1)) yk f1) (Mz rfl (v8 ?_)))))))
 have aS:=G.pk []
 exact GL (b+1) ⟨rfl,rfl,rfl,rfl,trivial⟩ (C.2 ⟨aS,e8,et (l) (et (congrArg (λ q=>ib q) p) (et (iN d) (et (iN y) (BO ak))))⟩) (by show l1.length - (b+1) < l1.length - b; omega)
 refine jF (dF X) (v9 (GK ?_))
 have au:ib l1=v0 ():=et (l) (et (congrArg (λ q=>ib q) (eP (ls:=l1) (i:=b) e8)) rfl)
 refine GK (GR (Gs (sr (An rfl (rt (rs ?_))))))
 have av:=E.pk []
 obtain rfl:_=true:=zj hr (et (ae k) (et (iN o) (kZ au)))
 exact⟨rfl,av⟩
def jq:List aY->Unit ⊕ Int
  | []=>v0 ()
  | b::c=>bnd (eQ b) λ a=>if a=0 then jq c else v2 (a)
def jW (a:List aY):Int:=
 lp (jq a) λ _=>0
theorem qD (w D p B C b M) (H:Own w D w []) (o:Ro w D λ w'=>bM w' 6 p B (q0 aY.cells b)) (E:B=b.length) (Q:b.length<=9223372036854775807) (hr:jW b=M):
    Calls u2 66 #[.slice p B C] w (dG λ v w'=>v=vI M/\Own w D w' []):=by
 subst E
 refine cb Tryz.func66 ?_
 refine sr (An rfl (Gp (sr (Mz rfl (Kz (vJ b.length) (Mn rfl (bo ?_)))))))
 have F:=H.pk []
 obtain⟨G,f⟩:=mP λ (a:Nat) w'=>Own w D w' []/\a<=b.length/\jq b=jq (r7 a b)
 refine v4 (λ i:Nat=> [(2,vI 0),(8,vJ i),(7,vJ b.length),(6, .slice p b.length C)]) G (λ i=>b.length - i) 0 ⟨rfl,rfl,rfl,rfl,trivial⟩ (f.2 ⟨F,e8,rfl⟩) ?_
 rintro a R r
 show Wp _ _ _ [(2,vI 0),(8,vJ a),(7,vJ b.length),(6, .slice p b.length C)] _ _
 obtain⟨g,N,h⟩:=f.1 r
 refine sr (Kz (.bool (decide (((a:Nat):Int) < ((b.length:Nat):Int)))) (nt (Gp ?_)))
 by_cases s:((a:Nat):Int) < ((b.length:Nat):Int)
 obtain⟨c,l⟩:=dI (ls:=b) (i:=a) aY.len f5 (g.ro o) f2
 have m:=drop_at l
 refine jT (dT s) (sk (Gp (bo (sr (fw (.pointer (some ⟨ab p,ao p+a *6,none⟩)) (GI (nD) rfl rfl ((g.ro o).addr (i:=a) e8) e8) (fw (.agg (aY.cells c).toArray) (GH rfl (GJ (cs:=(aY.cells c)) B3 y6 ((g.ro o).elem aY.len l f5))) ?_))))))
 refine bW [vI 0, .string ⟨u3 ([])⟩, .string ⟨u3 ([])⟩, .string ⟨u3 ([])⟩, .string ⟨u3 ([])⟩,vI 0] 68 g ?_
 intro S T I
 refine bY (aY.cells c) 0 I y6 ?_
 intro U t
 refine ns (La (aY.cells c) t 0 B3 y6 ?_)
 obtain⟨d,j⟩:∃ q,eQ c=q:=⟨_,rfl⟩
 obtain⟨V,u,O,x,P⟩:=Gr t
 refine cl E7 (mR _ _ c d u j) ?_
 rintro _ W ⟨rfl,y,n⟩
 have z:=x _ _ y
 replace n: ¬ (d=0)\/(1<=c.az/\c.az<=5):=n
 refine Ar rfl (Mz rfl (fw (.bool (decide (¬ (d=0)))) (GN (e:= !(decide (d=0))) yk decide_not.symm) (nt ?_)))
 by_cases k:d=0
 refine jF (dF (Ko k)) (G7 (bN (Gs (Gq (fw (vJ (a+1)) (Gw (e:=v7.wrap (((a:Nat):Int)+1)) yk f1) (Mz rfl (v8 ?_)))))))
 have J:=z.pk []
 exact GL (a+1) ⟨rfl,rfl,rfl,rfl,trivial⟩ (f.2 ⟨J,e8,et (h) (et (congrArg (λ q=>jq q) m) (et (ae j) (ip k)))⟩) (by show b.length - (a+1) < b.length - a; omega)
 refine jT (dT k) (sr (Mz rfl (An rfl (rt (bR (tR (tR (bR (tR (rs ?_))))))))))
 have K:=z.pk []
 obtain rfl:_=d:=zj hr (iG (et (h) (et (congrArg (λ q=>jq q) m) (et (ae j) (iN k)))))
 exact⟨rfl,K⟩
 refine jF (dF s) (v9 (GK ?_))
 have A:jq b=v0 ():=et (h) (et (congrArg (λ q=>jq q) (eP (ls:=b) (i:=a) e8)) rfl)
 refine GK (GR (Gs (sr (An rfl (rt (rs ?_))))))
 have L:=g.pk []
 obtain rfl:_=0:=zj hr (kZ A)
 exact⟨rfl,L⟩
def xn (b:List aY):Int:=
 if((b.length:Nat):Int) < 1 then 3 else if((b.length:Nat):Int) > 4 then 3 else bnd (jW b) λ a=>a
theorem AQ (w D j k l b m) (H:Own w D w []) (n:Ro w D λ w'=>bM w' 6 j k (q0 aY.cells b)) (o:k=b.length) (x:b.length<=9223372036854775807) (hr:xn b=m):
    Calls u2 196 #[.slice j k l] w (dG λ v w'=>v=vI m/\Own w D w' []/\(¬ (m=0)\/(1<=b.length/\b.length<=4))):=by
 subst o
 refine cb Tryz.func196 ?_
 refine sr (An rfl (Gp (sr (Mz rfl (Kz (vJ b.length) (Kz (.bool (decide (((b.length:Nat):Int) < 1))) (Mz rfl ?_)))))))
 by_cases a:((b.length:Nat):Int) < 1
 refine Sz (dT a) (Sz (dT a) (Sz (dT a) (fw (.bool true) (Gu rfl (dT a) rfl) (nt (jt (sr (An rfl (rt (tR (rs ?_))))))))))
 have p:=H.pk []
 obtain rfl:_=3:=zj hr (ip a)
 exact⟨rfl,p,e8⟩
 refine gw (.slice j b.length l) (dF a) (Gv rfl) (Gz (vJ b.length) (dF a) (Gz (.bool (decide (((b.length:Nat):Int) > 4))) (dF a) (fw (.bool (decide (((b.length:Nat):Int) > 4))) (Gm rfl (dF a) rfl) (nt ?_))))
 by_cases c:((b.length:Nat):Int) > 4
 refine jT (dT c) (sr (An rfl (rt (tR (rs ?_)))))
 have r:=H.pk []
 obtain rfl:_=3:=zj hr (et (iN a) (ip c))
 exact⟨rfl,r,e8⟩
 refine jF (dF c) (sk (sr (Mz rfl ?_)))
 obtain⟨e,d⟩:∃ q,jW b=q:=⟨_,rfl⟩
 obtain⟨y,f,g,h,u⟩:=Gr H
 refine cl Tryz.call66 (qD _ _ j b.length l b e f (g _ n) rfl e8 d) ?_
 rintro _ z ⟨rfl,i⟩
 have s:=h _ _ i
 refine An rfl (rt (rs ?_))
 have t:=s.pk []
 obtain rfl:_=e:=zj hr (et (iN a) (et (iN c) (ae d)))
 exact⟨rfl,t,e8⟩
def kX:List aY->Unit ⊕ Bool
  | []=>v0 ()
  | b::c=>bnd (eQ b) λ a=>if a=0 then kX c else v2 (false)
def uj (a:List aY):Bool:=
 lp (kX a) λ _=>true
theorem yK (w D p B C b M) (H:Own w D w []) (o:Ro w D λ w'=>bM w' 6 p B (q0 aY.cells b)) (E:B=b.length) (Q:b.length<=9223372036854775807) (hr:uj b=M):
    Calls u2 197 #[.slice p B C, .func (.func 63) #[] #[]] w (dG λ v w'=>v= .bool M/\Own w D w' []):=by
 subst E
 refine cb Tryz.func197 ?_
 refine sr (An rfl (Gp (sr (Mz rfl (Kz (vJ b.length) (Mn rfl (bo ?_)))))))
 have F:=H.pk []
 obtain⟨G,d⟩:=mP λ (a:Nat) w'=>Own w D w' []/\a<=b.length/\kX b=kX (r7 a b)
 refine v4 (λ i:Nat=> [(4, .bool false),(9,vJ i),(8,vJ b.length),(7, .slice p b.length C),(1, .func (.func 63) #[] #[])]) G (λ i=>b.length - i) 0 ⟨rfl,rfl,rfl,rfl,rfl,trivial⟩ (d.2 ⟨F,e8,rfl⟩) ?_
 rintro a R r
 show Wp _ _ _ [(4, .bool false),(9,vJ a),(8,vJ b.length),(7, .slice p b.length C),(1, .func (.func 63) #[] #[])] _ _
 obtain⟨f,N,g⟩:=d.1 r
 refine sr (Kz (.bool (decide (((a:Nat):Int) < ((b.length:Nat):Int)))) (nt (Gp ?_)))
 by_cases s:((a:Nat):Int) < ((b.length:Nat):Int)
 obtain⟨c,l⟩:=dI (ls:=b) (i:=a) aY.len f5 (f.ro o) f2
 have m:=drop_at l
 refine jT (dT s) (sk (Gp (bo (sr (fw (.pointer (some ⟨ab p,ao p+a *6,none⟩)) (GI (nD) rfl rfl ((f.ro o).addr (i:=a) e8) e8) (fw (.agg (aY.cells c).toArray) (GH rfl (GJ (cs:=(aY.cells c)) B3 y6 ((f.ro o).elem aY.len l f5))) ?_))))))
 refine bW [vI 0, .string ⟨u3 ([])⟩, .string ⟨u3 ([])⟩, .string ⟨u3 ([])⟩, .string ⟨u3 ([])⟩,vI 0] 68 f ?_
 intro S T I
 refine bY (aY.cells c) 0 I y6 ?_
 intro U t
 refine ns (Mz rfl (La (aY.cells c) t 0 B3 y6 ?_))
 obtain⟨h,j⟩:∃ q,eQ c=q:=⟨_,rfl⟩
 obtain⟨V,u,O,x,P⟩:=Gr t
 refine WL.do rfl (Hg E7 rfl rfl (mR _ _ c h u j) ?_)
 rintro _ W ⟨rfl,y,n⟩
 have z:=x _ _ y
 replace n: ¬ (h=0)\/(1<=c.az/\c.az<=5):=n
 refine fw (.bool (decide (¬ (h=0)))) (GN (e:= !(decide (h=0))) yk decide_not.symm) (nt ?_)
 by_cases k:h=0
 refine jF (dF (Ko k)) (G7 (bN (Gs (Gq (fw (vJ (a+1)) (Gw (e:=v7.wrap (((a:Nat):Int)+1)) yk f1) (Mz rfl (v8 ?_)))))))
 have J:=z.pk []
 exact GL (a+1) ⟨rfl,rfl,rfl,rfl,rfl,trivial⟩ (d.2 ⟨J,e8,et (g) (et (congrArg (λ q=>kX q) m) (et (ae j) (ip k)))⟩) (by show b.length - (a+1) < b.length - a; omega)
 refine jT (dT k) (sr (An rfl (rt (bR (tR (tR (bR (tR (rs ?_)))))))))
 have K:=z.pk []
 obtain rfl:_=false:=zj hr (iG (et (g) (et (congrArg (λ q=>kX q) m) (et (ae j) (iN k)))))
 exact⟨rfl,K⟩
 refine jF (dF s) (v9 (GK ?_))
 have A:kX b=v0 ():=et (g) (et (congrArg (λ q=>kX q) (eP (ls:=b) (i:=a) e8)) rfl)
 refine GK (GR (Gs (sr (An rfl (rt (rs ?_))))))
 have L:=f.pk []
 obtain rfl:_=true:=zj hr (kZ A)
 exact⟨rfl,L⟩
def qi (a:aY):Bool:=
 if a.az=1 then false else if a.az=2 then true else if a.az=3 then true else if a.az=4 then false else if a.az=5 then true else false
theorem vY (w D) (a:aY) (r0) (H:Own w D w []) (hr:qi a=r0):
    Calls u2 140 #[.agg (aY.cells a).toArray] w (dG λ v w'=>v= .bool r0/\Own w D w' []):=by
 refine cb Tryz.func140 ?_
 refine sr ?_
 refine bW (aY.cells a) 68 H ?_
 intro S aV b
 refine Ar rfl (Kz (vP S 0) (Lz (vI a.az) b 0 v5 ?_))
 by_cases c:a.az=1
 obtain⟨aW,m,aD,n,aF⟩:=Gr b
 refine cl B7 (nE _ _ a.az m (of_decide_eq_true (dT c))) ?_
 rintro _ aX ⟨rfl,o⟩
 have T:=n _ _ o
 refine Mz rfl (Kz (.agg #[.bool false, .func (.func 99) #[] #[], .func (.func 100) #[] #[], .func (.func 101) #[] #[], .func (.func 102) #[] #[]]) (Kz (.bool true) ?_))
 refine bW [.bool false, .nilFunc, .nilFunc, .nilFunc, .nilFunc] 149 T ?_
 intro U aZ V
 refine bY [.bool false, .func (.func 99) #[] #[], .func (.func 100) #[] #[], .func (.func 101) #[] #[], .func (.func 102) #[] #[]] 0 V y4 ?_
 intro bf W
 refine An rfl (Gp ?_)
 have p:=W.pk [0]
 refine Gq (Mz rfl (Mz rfl (Gz (vP U 0) rfl (Gl (.bool false) rfl p 0 F0 (fw (.bool false) (Gu rfl rfl rfl) (An rfl (rt (rs ?_))))))))
 have X:=p.pk []
 obtain rfl:_=false:=zj hr (ip c)
 exact⟨rfl,X⟩
 by_cases d:a.az=2
 obtain⟨bg,q,aG,r,aH⟩:=Gr b
 refine cl B7 (nG _ _ a.az q (of_decide_eq_true (dT d))) ?_
 rintro _ bi ⟨rfl,s⟩
 have Y:=r _ _ s
 refine Mz rfl (Kz (.agg #[.bool true, .func (.func 103) #[] #[], .func (.func 104) #[] #[], .func (.func 101) #[] #[], .func (.func 105) #[] #[]]) (Kz (.bool true) ?_))
 refine bW [.bool false, .nilFunc, .nilFunc, .nilFunc, .nilFunc] 149 Y ?_
 intro Z bn aa
 refine bY [.bool true, .func (.func 103) #[] #[], .func (.func 104) #[] #[], .func (.func 101) #[] #[], .func (.func 105) #[] #[]] 0 aa y4 ?_
 intro bq ae
 refine An rfl (Gp ?_)
 have t:=ae.pk [0]
 refine Gq (Mz rfl (Mz rfl (Gz (vP Z 0) rfl (Gl (.bool true) rfl t 0 F0 (fw (.bool true) (Gu rfl rfl rfl) (An rfl (rt (rs ?_))))))))
 have af:=t.pk []
 obtain rfl:_=true:=zj hr (et (iN c) (ip d))
 exact⟨rfl,af⟩
 by_cases e:a.az=3
 obtain⟨bu,u,aI,x,aJ⟩:=Gr b
 refine cl B7 (nH _ _ a.az u (of_decide_eq_true (dT e))) ?_
 rintro _ bv ⟨rfl,y⟩
 have ag:=x _ _ y
 refine Mz rfl (Kz (.agg #[.bool true, .func (.func 99) #[] #[], .func (.func 100) #[] #[], .func (.func 101) #[] #[], .func (.func 106) #[] #[]]) (Kz (.bool true) ?_))
 refine bW [.bool false, .nilFunc, .nilFunc, .nilFunc, .nilFunc] 149 ag ?_
 intro ah bz ai
 refine bY [.bool true, .func (.func 99) #[] #[], .func (.func 100) #[] #[], .func (.func 101) #[] #[], .func (.func 106) #[] #[]] 0 ai y4 ?_
 intro bA aj
 refine An rfl (Gp ?_)
 have z:=aj.pk [0]
 refine Gq (Mz rfl (Mz rfl (Gz (vP ah 0) rfl (Gl (.bool true) rfl z 0 F0 (fw (.bool true) (Gu rfl rfl rfl) (An rfl (rt (rs ?_))))))))
 have ak:=z.pk []
 obtain rfl:_=true:=zj hr (et (iN c) (et (iN d) (ip e)))
 exact⟨rfl,ak⟩
 by_cases f:a.az=4
 obtain⟨bB,A,aK,B,aL⟩:=Gr b
 refine cl B7 (nI _ _ a.az A (of_decide_eq_true (dT f))) ?_
 rintro _ bC ⟨rfl,C⟩
 have au:=B _ _ C
 refine Mz rfl (Kz (.agg #[.bool false, .func (.func 107) #[] #[], .func (.func 108) #[] #[], .func (.func 109) #[] #[], .func (.func 110) #[] #[]]) (Kz (.bool true) ?_))
 refine bW [.bool false, .nilFunc, .nilFunc, .nilFunc, .nilFunc] 149 au ?_
 intro av bD ax
 refine bY [.bool false, .func (.func 107) #[] #[], .func (.func 108) #[] #[], .func (.func 109) #[] #[], .func (.func 110) #[] #[]] 0 ax y4 ?_
 intro bE ay
 refine An rfl (Gp ?_)
 have E:=ay.pk [0]
 refine Gq (Mz rfl (Mz rfl (Gz (vP av 0) rfl (Gl (.bool false) rfl E 0 F0 (fw (.bool false) (Gu rfl rfl rfl) (An rfl (rt (rs ?_))))))))
 have az:=E.pk []
 obtain rfl:_=false:=zj hr (et (iN c) (et (iN d) (et (iN e) (ip f))))
 exact⟨rfl,az⟩
 by_cases h:a.az=5
 obtain⟨bF,F,aM,G,aN⟩:=Gr b
 refine cl B7 (nJ _ _ a.az F (of_decide_eq_true (dT h))) ?_
 rintro _ bG ⟨rfl,i⟩
 have I:=G _ _ i
 refine Mz rfl (Kz (.agg #[.bool true, .func (.func 111) #[] #[], .func (.func 112) #[] #[], .func (.func 109) #[] #[], .func (.func 113) #[] #[]]) (Kz (.bool true) ?_))
 refine bW [.bool false, .nilFunc, .nilFunc, .nilFunc, .nilFunc] 149 I ?_
 intro J aO K
 refine bY [.bool true, .func (.func 111) #[] #[], .func (.func 112) #[] #[], .func (.func 109) #[] #[], .func (.func 113) #[] #[]] 0 K y4 ?_
 intro aP L
 refine An rfl (Gp ?_)
 have g:=L.pk [0]
 refine Gq (Mz rfl (Mz rfl (Gz (vP J 0) rfl (Gl (.bool true) rfl g 0 F0 (fw (.bool true) (Gu rfl rfl rfl) (An rfl (rt (rs ?_))))))))
 have M:=g.pk []
 obtain rfl:_=true:=zj hr (et (iN c) (et (iN d) (et (iN e) (et (iN f) (ip h)))))
 exact⟨rfl,M⟩
 obtain⟨aQ,j,aA,k,aB⟩:=Gr b
 refine cl B7 (tZ _ _ a.az j e8 e8 e8 e8 e8) ?_
 rintro _ aR ⟨rfl,l⟩
 have N:=k _ _ l
 refine Mz rfl (Kz (.agg #[.bool false, .nilFunc, .nilFunc, .nilFunc, .nilFunc]) (Kz (.bool false) ?_))
 refine bW [.bool false, .nilFunc, .nilFunc, .nilFunc, .nilFunc] 149 N ?_
 intro aS aT O
 refine bY [.bool false, .nilFunc, .nilFunc, .nilFunc, .nilFunc] 0 O y4 ?_
 intro aU P
 refine An rfl (Gp ?_)
 have Q:=P.pk [0]
 refine Gq (Mz rfl (Mz rfl (Sz rfl (Sz rfl (fw (.bool false) (Gm rfl rfl rfl) (An rfl (rt (rs ?_))))))))
 have R:=Q.pk []
 obtain rfl:_=false:=zj hr (et (iN c) (et (iN d) (et (iN e) (et (iN f) (iN h)))))
 exact⟨rfl,R⟩
def qE (c:aY):Int:=
 bnd (qi c) λ a=>if a=true then bnd (eQ c) λ b=>b else 40
theorem vZ (w D) (a:aY) (t) (H:Own w D w []) (hr:qE a=t):
    Calls u2 198 #[.agg (aY.cells a).toArray] w (dG λ v w'=>v=vI t/\Own w D w' []):=by
 refine cb Tryz.func198 ?_
 refine sr ?_
 refine bW (aY.cells a) 68 H ?_
 intro A B i
 refine An rfl (Gp (sr (La (aY.cells a) i 0 B3 y6 ?_)))
 obtain⟨f,b⟩:∃ q,qi a=q:=⟨_,rfl⟩
 obtain⟨C,j,u,k,x⟩:=Gr i
 refine cl Tryz.call140 (vY _ _ a f j b) ?_
 rintro _ E ⟨rfl,l⟩
 have g:=k _ _ l
 refine Kz (.bool (!f)) (nt ?_)
 rcases Kq (f) with c | c
 refine jF (cn c) (sk (sr (La (aY.cells a) g 0 B3 y6 ?_)))
 obtain⟨h,d⟩:∃ q,eQ a=q:=⟨_,rfl⟩
 obtain⟨F,m,y,n,z⟩:=Gr g
 refine cl E7 (mR _ _ a h m d) ?_
 rintro _ G ⟨rfl,o,e⟩
 have p:=n _ _ o
 replace e: ¬ (h=0)\/(1<=a.az/\a.az<=5):=e
 refine An rfl (rt (rs ?_))
 have r:=p.pk []
 obtain rfl:_=h:=zj hr (et (ae b) (et (ip c) (ae d)))
 exact⟨rfl,r⟩
 refine jT (cn c) (sr (An rfl (rt (tR (rs ?_)))))
 have s:=g.pk []
 obtain rfl:_=40:=zj hr (et (ae b) (dY c))
 exact⟨rfl,s⟩
def kE:List aY->Unit ⊕ Bool
  | []=>v0 ()
  | b::c=>bnd (qE b) λ a=>if a=0 then kE c else v2 (false)
def sZ (a:List aY):Bool:=
 lp (kE a) λ _=>true
theorem yf (w D o A B b L) (H:Own w D w []) (n:Ro w D λ w'=>bM w' 6 o A (q0 aY.cells b)) (C:A=b.length) (P:b.length<=9223372036854775807) (hr:sZ b=L):
    Calls u2 197 #[.slice o A B, .func (.func 198) #[] #[]] w (dG λ v w'=>v= .bool L/\Own w D w' []):=by
 subst C
 refine cb Tryz.func197 ?_
 refine sr (An rfl (Gp (sr (Mz rfl (Kz (vJ b.length) (Mn rfl (bo ?_)))))))
 have E:=H.pk []
 obtain⟨F,d⟩:=mP λ (a:Nat) w'=>Own w D w' []/\a<=b.length/\kE b=kE (r7 a b)
 refine v4 (λ i:Nat=> [(4, .bool false),(9,vJ i),(8,vJ b.length),(7, .slice o b.length B),(1, .func (.func 198) #[] #[])]) F (λ i=>b.length - i) 0 ⟨rfl,rfl,rfl,rfl,rfl,trivial⟩ (d.2 ⟨E,e8,rfl⟩) ?_
 rintro a Q p
 show Wp _ _ _ [(4, .bool false),(9,vJ a),(8,vJ b.length),(7, .slice o b.length B),(1, .func (.func 198) #[] #[])] _ _
 obtain⟨f,M,g⟩:=d.1 p
 refine sr (Kz (.bool (decide (((a:Nat):Int) < ((b.length:Nat):Int)))) (nt (Gp ?_)))
 by_cases r:((a:Nat):Int) < ((b.length:Nat):Int)
 obtain⟨c,l⟩:=dI (ls:=b) (i:=a) aY.len f5 (f.ro n) f2
 have m:=drop_at l
 refine jT (dT r) (sk (Gp (bo (sr (fw (.pointer (some ⟨ab o,ao o+a *6,none⟩)) (GI (nD) rfl rfl ((f.ro n).addr (i:=a) e8) e8) (fw (.agg (aY.cells c).toArray) (GH rfl (GJ (cs:=(aY.cells c)) B3 y6 ((f.ro n).elem aY.len l f5))) ?_))))))
 refine bW [vI 0, .string ⟨u3 ([])⟩, .string ⟨u3 ([])⟩, .string ⟨u3 ([])⟩, .string ⟨u3 ([])⟩,vI 0] 68 f ?_
 intro R S G
 refine bY (aY.cells c) 0 G y6 ?_
 intro T s
 refine ns (Mz rfl (La (aY.cells c) s 0 B3 y6 ?_))
 obtain⟨j,h⟩:∃ q,qE c=q:=⟨_,rfl⟩
 obtain⟨U,t,N,u,O⟩:=Gr s
 refine WL.do rfl (Hg Tryz.call198 rfl rfl (vZ _ _ c j t h) ?_)
 rintro _ V ⟨rfl,x⟩
 have y:=u _ _ x
 refine fw (.bool (decide (¬ (j=0)))) (GN (e:= !(decide (j=0))) yk decide_not.symm) (nt ?_)
 by_cases k:j=0
 refine jF (dF (Ko k)) (G7 (bN (Gs (Gq (fw (vJ (a+1)) (Gw (e:=v7.wrap (((a:Nat):Int)+1)) yk f1) (Mz rfl (v8 ?_)))))))
 have I:=y.pk []
 exact GL (a+1) ⟨rfl,rfl,rfl,rfl,rfl,trivial⟩ (d.2 ⟨I,e8,et (g) (et (congrArg (λ q=>kE q) m) (et (ae h) (ip k)))⟩) (by show b.length - (a+1) < b.length - a; omega)
 refine jT (dT k) (sr (An rfl (rt (bR (tR (tR (bR (tR (rs ?_)))))))))
 have J:=y.pk []
 obtain rfl:_=false:=zj hr (iG (et (g) (et (congrArg (λ q=>kE q) m) (et (ae h) (iN k)))))
 exact⟨rfl,J⟩
 refine jF (dF r) (v9 (GK ?_))
 have z:kE b=v0 ():=et (g) (et (congrArg (λ q=>kE q) (eP (ls:=b) (i:=a) e8)) rfl)
 refine GK (GR (Gs (sr (An rfl (rt (rs ?_))))))
 have K:=f.pk []
 obtain rfl:_=true:=zj hr (kZ z)
 exact⟨rfl,K⟩
def pR (d:Int) (l1:List aY):Bool:=
 if d=1 then bnd (xn l1) λ a=>decide (a=0) else if d=3 then if((l1.length:Nat):Int) >= 1 then if((l1.length:Nat):Int)<=24 then bnd (uj l1) λ b=>b else false else false else if((l1.length:Nat):Int)<=6 then bnd (sZ l1) λ c=>c else false
theorem yL (w D p g G l l1 S) (H:Own w D w []) (m:Ro w D λ w'=>bM w' 6 g G (q0 aY.cells l1)) (I:G=l1.length) (W:l1.length<=9223372036854775807) (hr:pR p l1=S):
    Calls u2 158 #[vI p, .slice g G l] w (dG λ v w'=>v= .bool S/\Own w D w' []):=by
 subst I
 refine cb Tryz.func158 ?_
 refine sr (An rfl (Gp (sr (Mn rfl (bo (sr (Kz (.bool (decide (p=1))) (An rfl ?_))))))))
 by_cases b:p=1
 refine jT (dT b) (sr (Mz rfl ?_))
 obtain⟨f,h⟩:∃ q,xn l1=q:=⟨_,rfl⟩
 obtain⟨X,r,s,t,T⟩:=Gr H
 refine cl Tryz.call196 (AQ _ _ g l1.length l l1 f r (s _ m) rfl e8 h) ?_
 rintro _ Y ⟨rfl,u,i⟩
 have J:=t _ _ u
 replace i: ¬ (f=0)\/(1<=l1.length/\l1.length<=4):=i
 refine Kz (.bool (decide (f=0))) (An rfl (rt (bR (tR (rs ?_)))))
 have K:=J.pk []
 obtain rfl:_=decide (f=0):=zj hr (et (ip b) (ae h))
 exact⟨rfl,K⟩
 refine jF (dF b) (sr (Kz (.bool (decide (p=3))) (An rfl ?_)))
 by_cases e:p=3
 refine jT (dT e) (sr (Mz rfl (Kz (vJ l1.length) (Kz (.bool (decide (((l1.length:Nat):Int) >= 1))) (Mz rfl ?_)))))
 by_cases a:((l1.length:Nat):Int) >= 1
 refine gw (.slice g l1.length l) (dT a) (Gv rfl) (Gz (vJ l1.length) (dT a) (Gz (.bool (decide (((l1.length:Nat):Int)<=24))) (dT a) (fw (.bool (decide (((l1.length:Nat):Int)<=24))) (Gu rfl (dT a) rfl) (Mz rfl ?_))))
 by_cases c:((l1.length:Nat):Int)<=24
 refine gw (.slice g l1.length l) (dT c) (Gv rfl) ?_
 obtain⟨n,j⟩:∃ q,uj l1=q:=⟨_,rfl⟩
 obtain⟨Z,x,y,z,U⟩:=Gr H
 refine nQ (dT c) Tryz.call197 (yK _ _ g l1.length l l1 n x (y _ m) rfl e8 j) ?_
 rintro _ aa ⟨rfl,A⟩
 have L:=z _ _ A
 refine fw (.bool n) (Gu rfl (dT c) rfl) (An rfl (rt (bR (tR (rs ?_)))))
 have M:=L.pk []
 obtain rfl:_=n:=zj hr (et (iN b) (et (ip e) (et (ip a) (et (ip c) (ae j)))))
 exact⟨rfl,M⟩
 refine Sz (dF c) (Sz (dF c) (fw (.bool false) (Gm rfl (dF c) rfl) (An rfl (rt (bR (tR (rs ?_)))))))
 have N:=H.pk []
 obtain rfl:_=false:=zj hr (et (iN b) (et (ip e) (et (ip a) (iN c))))
 exact⟨rfl,N⟩
 refine Sz (dF a) (Sz (dF a) (Sz (dF a) (fw (.bool false) (Gm rfl (dF a) rfl) (Mz rfl (Sz rfl (Sz rfl (fw (.bool false) (Gm rfl rfl rfl) (An rfl (rt (bR (tR (rs ?_))))))))))))
 have O:=H.pk []
 obtain rfl:_=false:=zj hr (et (iN b) (et (ip e) (iN a)))
 exact⟨rfl,O⟩
 refine jF (dF e) (G7 (bN (Gs (sr (Mz rfl (Kz (vJ l1.length) (Kz (.bool (decide (((l1.length:Nat):Int)<=6))) (Mz rfl ?_))))))))
 by_cases d:((l1.length:Nat):Int)<=6
 refine gw (.slice g l1.length l) (dT d) (Gv rfl) ?_
 obtain⟨o,k⟩:∃ q,sZ l1=q:=⟨_,rfl⟩
 obtain⟨af,B,C,E,V⟩:=Gr H
 refine nQ (dT d) Tryz.call197 (yf _ _ g l1.length l l1 o B (C _ m) rfl e8 k) ?_
 rintro _ ag ⟨rfl,F⟩
 have P:=E _ _ F
 refine fw (.bool o) (Gu rfl (dT d) rfl) (An rfl (rt (rs ?_)))
 have Q:=P.pk []
 obtain rfl:_=o:=zj hr (et (iN b) (et (iN e) (et (ip d) (ae k))))
 exact⟨rfl,Q⟩
 refine Sz (dF d) (Sz (dF d) (fw (.bool false) (Gm rfl (dF d) rfl) (An rfl (rt (rs ?_)))))
 have R:=H.pk []
 obtain rfl:_=false:=zj hr (et (iN b) (et (iN e) (iN d)))
 exact⟨rfl,R⟩
structure bV where
 az:Int
 iO:Int
 jD:Int
 gJ:Int
 fG:Int
 iB:Int
 gp:Nat
 aT:Nat
 aV:Nat
 bi:Nat
 bv:Nat
 aL:Nat
 aG:Nat
 bu:Nat
 xN:Nat
 fZ:Bool
 aB:aj
 aJ:Sv aY
 aQ:Sv aP
 ah:Sv bL
def bV.cells (x:bV):List Value:= [.int .i64 x.az, .int .i64 x.iO, .int .i64 x.jD, .int .i64 x.gJ, .int .i64 x.fG, .int .i64 x.iB, .int .u64 ((x.gp:Nat):Int), .int .u64 ((x.aT:Nat):Int), .int .u64 ((x.aV:Nat):Int), .int .u64 ((x.bi:Nat):Int), .int .u64 ((x.bv:Nat):Int), .int .u64 ((x.aL:Nat):Int), .int .u64 ((x.aG:Nat):Int), .int .u64 ((x.bu:Nat):Int), .int .u64 ((x.xN:Nat):Int), .bool x.fZ, .string ⟨u3 x.aB.aO⟩, .string ⟨u3 x.aB.aS⟩, .slice x.aJ.A x.aJ.ls.length x.aJ.c, .slice x.aQ.A x.aQ.ls.length x.aQ.c, .slice x.ah.A x.ah.ls.length x.ah.c]
instance:Bk bV:=⟨λ x _=>bk x.az+(bk x.iO+(bk x.jD+(bk x.gJ+(bk x.fG+(bk x.iB+(bk x.gp+(bk x.aT+(bk x.aV+(bk x.bi+(bk x.bv+(bk x.aL+(bk x.aG+(bk x.bu+(bk x.xN+(bk x.fZ+(bk x.aB+(bk x.aJ+(bk x.aQ+(bk x.ah+(0))))))))))))))))))))⟩
theorem bV.len:∀ x,(bV.cells x).length=21:=λ _=>rfl
theorem bV.one:∀ x, ∀ u ∈ bV.cells x,u.oneCell'=true:=λ x u hu=>by
 simp only [bV.cells,t7,u4,or_false] at hu
 rcases hu with rfl | rfl | rfl | rfl | rfl | rfl | rfl | rfl | rfl | rfl | rfl | rfl | rfl | rfl | rfl | rfl | rfl | rfl | rfl | rfl | rfl <;> rfl
def Ja (w:World) (x:bV):Prop:=((-9223372036854775808)<=x.az/\x.az<=9223372036854775807)/\((-9223372036854775808)<=x.iO/\x.iO<=9223372036854775807)/\((-9223372036854775808)<=x.jD/\x.jD<=9223372036854775807)/\((-9223372036854775808)<=x.gJ/\x.gJ<=9223372036854775807)/\((-9223372036854775808)<=x.fG/\x.fG<=9223372036854775807)/\((-9223372036854775808)<=x.iB/\x.iB<=9223372036854775807)/\(x.gp<=18446744073709551615)/\(x.aT<=18446744073709551615)/\(x.aV<=18446744073709551615)/\(x.bi<=18446744073709551615)/\(x.bv<=18446744073709551615)/\(x.aL<=18446744073709551615)/\(x.aG<=18446744073709551615)/\(x.bu<=18446744073709551615)/\(x.xN<=18446744073709551615)/\(True)/\(Iw w x.aB)/\(mZ w 6 80 aY.cells (IY w) x.aJ)/\(mZ w 3 48 aP.cells (I9 w) x.aQ)/\(mZ w 2 24 bL.cells (IX w) x.ah)
theorem BS (w:World):kR u2 w 47 21 bV.cells (Ja w):=
 (mo (sz:=21) Tryz.underlying47 e9 (fB.cons (i:=0) (off:=0) (s:=1) rfl rfl (mW (k:= .i64) (lo:= -9223372036854775808) (hi:=9223372036854775807) u6 e9 f5 f5) (fB.cons (i:=1) (off:=1) (s:=1) rfl rfl (mW (k:= .i64) (lo:= -9223372036854775808) (hi:=9223372036854775807) u6 e9 f5 f5) (fB.cons (i:=2) (off:=2) (s:=1) rfl rfl (mW (k:= .i64) (lo:= -9223372036854775808) (hi:=9223372036854775807) u6 e9 f5 f5) (fB.cons (i:=3) (off:=3) (s:=1) rfl rfl (mW (k:= .i64) (lo:= -9223372036854775808) (hi:=9223372036854775807) u6 e9 f5 f5) (fB.cons (i:=4) (off:=4) (s:=1) rfl rfl (mW (k:= .i64) (lo:= -9223372036854775808) (hi:=9223372036854775807) u6 e9 f5 f5) (fB.cons (i:=5) (off:=5) (s:=1) rfl rfl (mW (k:= .i64) (lo:= -9223372036854775808) (hi:=9223372036854775807) u6 e9 f5 f5) (fB.cons (i:=6) (off:=6) (s:=1) rfl rfl (mX (k:= .u64) (hi:=18446744073709551615) D2 e9 f5 f5) (fB.cons (i:=7) (off:=7) (s:=1) rfl rfl (mX (k:= .u64) (hi:=18446744073709551615) D2 e9 f5 f5) (fB.cons (i:=8) (off:=8) (s:=1) rfl rfl (mX (k:= .u64) (hi:=18446744073709551615) D2 e9 f5 f5) (fB.cons (i:=9) (off:=9) (s:=1) rfl rfl (mX (k:= .u64) (hi:=18446744073709551615) D2 e9 f5 f5) (fB.cons (i:=10) (off:=10) (s:=1) rfl rfl (mX (k:= .u64) (hi:=18446744073709551615) D2 e9 f5 f5) (fB.cons (i:=11) (off:=11) (s:=1) rfl rfl (mX (k:= .u64) (hi:=18446744073709551615) D2 e9 f5 f5) (fB.cons (i:=12) (off:=12) (s:=1) rfl rfl (mX (k:= .u64) (hi:=18446744073709551615) D2 e9 f5 f5) (fB.cons (i:=13) (off:=13) (s:=1) rfl rfl (mX (k:= .u64) (hi:=18446744073709551615) D2 e9 f5 f5) (fB.cons (i:=14) (off:=14) (s:=1) rfl rfl (mX (k:= .u64) (hi:=18446744073709551615) D2 e9 f5 f5) (fB.cons (i:=15) (off:=15) (s:=1) rfl rfl (uM E6 e9) (fB.cons (i:=16) (off:=16) (s:=2) rfl rfl (zX w) (fB.cons (i:=17) (off:=18) (s:=1) rfl rfl (pO (bytes:=80) Tryz.underlying44 e9 e9 f5 (CF w)) (fB.cons (i:=18) (off:=19) (s:=1) rfl rfl (pO (bytes:=48) E4 e9 e9 f5 (zu w)) (fB.cons (i:=19) (off:=20) (s:=1) rfl rfl (pO (bytes:=24) Tryz.underlying33 e9 e9 f5 (zW w)) fB.nil))))))))))))))))))))).map (λ p=>⟨p.1,p.2.1,p.2.2.1,p.2.2.2.1,p.2.2.2.2.1,p.2.2.2.2.2.1,p.2.2.2.2.2.2.1,p.2.2.2.2.2.2.2.1,p.2.2.2.2.2.2.2.2.1,p.2.2.2.2.2.2.2.2.2.1,p.2.2.2.2.2.2.2.2.2.2.1,p.2.2.2.2.2.2.2.2.2.2.2.1,p.2.2.2.2.2.2.2.2.2.2.2.2.1,p.2.2.2.2.2.2.2.2.2.2.2.2.2.1,p.2.2.2.2.2.2.2.2.2.2.2.2.2.2.1,p.2.2.2.2.2.2.2.2.2.2.2.2.2.2.2.1,p.2.2.2.2.2.2.2.2.2.2.2.2.2.2.2.2.1,p.2.2.2.2.2.2.2.2.2.2.2.2.2.2.2.2.2.1,p.2.2.2.2.2.2.2.2.2.2.2.2.2.2.2.2.2.2.1,p.2.2.2.2.2.2.2.2.2.2.2.2.2.2.2.2.2.2.2.1⟩) bV.len (λ _=>rfl) (λ _ h=>⟨h.1,h.2.1,h.2.2.1,h.2.2.2.1,h.2.2.2.2.1,h.2.2.2.2.2.1,h.2.2.2.2.2.2.1,h.2.2.2.2.2.2.2.1,h.2.2.2.2.2.2.2.2.1,h.2.2.2.2.2.2.2.2.2.1,h.2.2.2.2.2.2.2.2.2.2.1,h.2.2.2.2.2.2.2.2.2.2.2.1,h.2.2.2.2.2.2.2.2.2.2.2.2.1,h.2.2.2.2.2.2.2.2.2.2.2.2.2.1,h.2.2.2.2.2.2.2.2.2.2.2.2.2.2.1,h.2.2.2.2.2.2.2.2.2.2.2.2.2.2.2.1,h.2.2.2.2.2.2.2.2.2.2.2.2.2.2.2.2.1,h.2.2.2.2.2.2.2.2.2.2.2.2.2.2.2.2.2.1,h.2.2.2.2.2.2.2.2.2.2.2.2.2.2.2.2.2.2.1,h.2.2.2.2.2.2.2.2.2.2.2.2.2.2.2.2.2.2.2.1⟩) λ _=>s1 _
instance:Inhabited bV:=⟨⟨default,default,default,default,default,default,default,default,default,default,default,default,default,default,default,default,default,default,default,default⟩⟩
structure dM where
 az:Int
 iO:Int
 jD:Int
 gJ:Int
 fG:Int
 iB:Int
 gp:Nat
 aT:Nat
 aV:Nat
 bi:Nat
 bv:Nat
 aL:Nat
 aG:Nat
 bu:Nat
 xN:Nat
 fZ:Bool
 aB:aj
 aJ:Ll aY
 aQ:Ll cZ
 ah:Ll bL
instance:Inhabited dM:=⟨⟨default,default,default,default,default,default,default,default,default,default,default,default,default,default,default,default,default,default,default,default⟩⟩
def bV.abs (x:bV):dM:=⟨x.az,x.iO,x.jD,x.gJ,x.fG,x.iB,x.gp,x.aT,x.aV,x.bi,x.bv,x.aL,x.aG,x.bu,x.xN,x.fZ,x.aB,⟨x.aJ.ls⟩,⟨r8 aP.abs x.aQ.ls⟩,⟨x.ah.ls⟩⟩
def Hl (x:bV):List HP:= [row x.aJ.A x.aJ.ls.length x.aJ.c (q0 aY.cells x.aJ.ls) 68 6,row x.aQ.A x.aQ.ls.length x.aQ.c (q0 aP.cells x.aQ.ls) 70 3,row x.ah.A x.ah.ls.length x.ah.c (q0 bL.cells x.ah.ls) 83 2,sepL (q0 G8 x.aQ.ls)]
abbrev ic (r:Int) (s:Int) (t:Int) (u:Int) (v:Int) (w:Int) (x:Nat) (y:Nat) (z:Nat) (A:Nat) (g:Nat) (h:Nat) (i:Nat) (j:Nat) (k:Nat) (l:Bool) (m:List UInt8) (n:List UInt8) (o:Option Addr) (a b:Nat) (p:Option Addr) (c d:Nat) (q:Option Addr) (e f:Nat):List Value:= [.int .i64 r, .int .i64 s, .int .i64 t, .int .i64 u, .int .i64 v, .int .i64 w, .int .u64 ((x:Nat):Int), .int .u64 ((y:Nat):Int), .int .u64 ((z:Nat):Int), .int .u64 ((A:Nat):Int), .int .u64 ((g:Nat):Int), .int .u64 ((h:Nat):Int), .int .u64 ((i:Nat):Int), .int .u64 ((j:Nat):Int), .int .u64 ((k:Nat):Int), .bool l, .string ⟨u3 m⟩, .string ⟨u3 n⟩, .slice o a b, .slice p c d, .slice q e f]
abbrev lN (x:dM) (a:Option Addr) (b:Nat) (c:Option Addr) (d:Nat) (e:Option Addr) (f:Nat):List Value:= [.int .i64 x.az, .int .i64 x.iO, .int .i64 x.jD, .int .i64 x.gJ, .int .i64 x.fG, .int .i64 x.iB, .int .u64 ((x.gp:Nat):Int), .int .u64 ((x.aT:Nat):Int), .int .u64 ((x.aV:Nat):Int), .int .u64 ((x.bi:Nat):Int), .int .u64 ((x.bv:Nat):Int), .int .u64 ((x.aL:Nat):Int), .int .u64 ((x.aG:Nat):Int), .int .u64 ((x.bu:Nat):Int), .int .u64 ((x.xN:Nat):Int), .bool x.fZ, .string ⟨u3 x.aB.aO⟩, .string ⟨u3 x.aB.aS⟩, .slice a x.aJ.ls.length b, .slice c x.aQ.ls.length d, .slice e x.ah.ls.length f]
def mE (b:Int) (a:Int):Bool:=
 if b=1 then if a >= 1 then decide (a<=4) else false else if b=2 then if a >= 11 then decide (a < 15) else false else decide (a=0)
theorem qF (w D f c l) (H:Own w D w []) (hr:mE f c=l):
    Calls u2 46 #[vI f,vI c] w (dG λ v w'=>v= .bool l/\Own w D w' []):=by
 refine cb Tryz.func46 ?_
 refine sr (An rfl (Gp (sr (Mn rfl (bo (sr (Kz (.bool (decide (f=1))) (An rfl ?_))))))))
 by_cases d:f=1
 refine jT (dT d) (sr (Mz rfl (Kz (.bool (decide (c >= 1))) (Mz rfl ?_))))
 by_cases a:c >= 1
 refine gw (vI c) (dT a) (Gv rfl) (Gz (.bool (decide (c<=4))) (dT a) (fw (.bool (decide (c<=4))) (Gu rfl (dT a) rfl) (An rfl (rt (bR (tR (rs ?_)))))))
 have g:=H.pk []
 obtain rfl:_=decide (c<=4):=zj hr (et (ip d) (ip a))
 exact⟨rfl,g⟩
 refine Sz (dF a) (Sz (dF a) (fw (.bool false) (Gm rfl (dF a) rfl) (An rfl (rt (bR (tR (rs ?_)))))))
 have h:=H.pk []
 obtain rfl:_=false:=zj hr (et (ip d) (iN a))
 exact⟨rfl,h⟩
 refine jF (dF d) (sr (Kz (.bool (decide (f=2))) (An rfl ?_)))
 by_cases e:f=2
 refine jT (dT e) (sr (Mz rfl (Kz (.bool (decide (c >= 11))) (Mz rfl ?_))))
 by_cases b:c >= 11
 refine gw (vI c) (dT b) (Gv rfl) (Gz (.bool (decide (c < 15))) (dT b) (fw (.bool (decide (c < 15))) (Gu rfl (dT b) rfl) (An rfl (rt (bR (tR (rs ?_)))))))
 have i:=H.pk []
 obtain rfl:_=decide (c < 15):=zj hr (et (iN d) (et (ip e) (ip b)))
 exact⟨rfl,i⟩
 refine Sz (dF b) (Sz (dF b) (fw (.bool false) (Gm rfl (dF b) rfl) (An rfl (rt (bR (tR (rs ?_)))))))
 have j:=H.pk []
 obtain rfl:_=false:=zj hr (et (iN d) (et (ip e) (iN b)))
 exact⟨rfl,j⟩
 refine jF (dF e) (G7 (bN (Gs (sr (Mz rfl (Kz (.bool (decide (c=0))) (An rfl (rt (rs ?_)))))))))
 have k:=H.pk []
 obtain rfl:_=decide (c=0):=zj hr (et (iN d) (iN e))
 exact⟨rfl,k⟩
def ru (a:dM) (b:Int):Bool:=
 if b=2 then bnd (sW a.az a.fG) λ c=>c else if b=3 then bnd (qC a.az a.aQ.ls) λ d=>d else if b=7 then bnd (pR a.az a.aJ.ls) λ e=>e else if b=11 then bnd (ng a.ah.ls) λ f=>decide (f=0) else if b=12 then bnd (mE 1 a.iB) λ g=>g else if b=13 then bnd (dW a.aB) λ h=>decide (h=0) else true
theorem AR (w D) (a:dM) (f z g h B i n j C k o r0) (H:Own w D w []) (N:z=a.aJ.ls.length) (O:Ro w D λ w'=>bM w' 6 f a.aJ.ls.length (q0 aY.cells a.aJ.ls)) (aK:a.aJ.ls.length<=g/\a.aJ.ls.length<=9223372036854775807) (r:r8 aP.abs n=a.aQ.ls) (P:B=a.aQ.ls.length) (Q:Ro w D λ w'=>bM w' 3 h a.aQ.ls.length (q0 aP.cells n)) (aL:a.aQ.ls.length<=i/\a.aQ.ls.length<=9223372036854775807) (s:∀ x ∈ n,Ro w D (λ w'=>bM w' 2 x.bq.A x.bq.ls.length (q0 aA.cells x.bq.ls))/\(x.bq.ls.length<=x.bq.c/\x.bq.ls.length<=9223372036854775807)) (R:C=a.ah.ls.length) (S:Ro w D λ w'=>bM w' 2 j a.ah.ls.length (q0 bL.cells a.ah.ls)) (aM:a.ah.ls.length<=k/\a.ah.ls.length<=9223372036854775807) (bH:a.aJ.ls.length<=140737488355328/\a.aQ.ls.length<=140737488355328/\a.ah.ls.length<=140737488355328) (hr:ru a o=r0):
    Calls u2 96 #[.agg (ic a.az a.iO a.jD a.gJ a.fG a.iB a.gp a.aT a.aV a.bi a.bv a.aL a.aG a.bu a.xN a.fZ a.aB.aO a.aB.aS f z g h B i j C k).toArray,vI o] w (dG λ v w'=>v= .bool r0/\Own w D w' []):=by
 subst N P R
 have aJ:=aW r
 refine cb Tryz.func96 ?_
 refine sr ?_
 refine bW (lN a f g h i j k) 47 H ?_
 intro d bI b
 refine An rfl (Gp (sr (Mn rfl (bo (sr (Kz (.bool (decide (o=2))) (An rfl ?_)))))))
 by_cases e:o=2
 refine jT (dT e) (sr (Kz (vP d 0) (Lz (vI a.az) b 0 v5 (Kz (vP d 4) (Lz (vI a.fG) b 0 v5 ?_)))))
 obtain⟨U,E⟩:∃ q,sW a.az a.fG=q:=⟨_,rfl⟩
 obtain⟨bJ,V,bq,W,bu⟩:=Gr b
 refine cl Tryz.call156 (yc _ _ a.az a.fG U V E) ?_
 rintro _ bK ⟨rfl,X⟩
 have aN:=W _ _ X
 refine An rfl (rt (bR (tR (rs ?_))))
 have aO:=aN.pk []
 obtain rfl:_=U:=zj hr (et (ip e) (ae E))
 exact⟨rfl,aO⟩
 refine jF (dF e) (sr (Kz (.bool (decide (o=3))) (An rfl ?_)))
 by_cases l:o=3
 refine jT (dT l) (sr (Kz (vP d 0) (Lz (vI a.az) b 0 v5 (Kz (vP d 19) (Lz (.slice h a.aQ.ls.length i) b 0 Tryz.isAgg45 ?_)))))
 obtain⟨Y,F⟩:∃ q,qC a.az a.aQ.ls=q:=⟨_,rfl⟩
 obtain⟨bO,Z,G,aa,bv⟩:=Gr b
 refine cl Tryz.call157 (vX _ _ a.az h a.aQ.ls.length i n a.aQ.ls Y Z r (G _ Q) (λ x9 h9=>⟨G _ (s x9 h9).1,(s x9 h9).2⟩) rfl e8 F) ?_
 rintro _ bP ⟨rfl,af⟩
 have aQ:=aa _ _ af
 refine An rfl (rt (bR (tR (rs ?_))))
 have aR:=aQ.pk []
 obtain rfl:_=Y:=zj hr (et (iN e) (et (ip l) (ae F)))
 exact⟨rfl,aR⟩
 refine jF (dF l) (sr (Kz (.bool (decide (o=7))) (An rfl ?_)))
 by_cases m:o=7
 refine jT (dT m) (sr (Kz (vP d 0) (Lz (vI a.az) b 0 v5 (Kz (vP d 18) (Lz (.slice f a.aJ.ls.length g) b 0 Tryz.isAgg44 ?_)))))
 obtain⟨ag,I⟩:∃ q,pR a.az a.aJ.ls=q:=⟨_,rfl⟩
 obtain⟨bQ,ah,ai,ak,bB⟩:=Gr b
 refine cl Tryz.call158 (yL _ _ a.az f a.aJ.ls.length g a.aJ.ls ag ah (ai _ O) rfl e8 I) ?_
 rintro _ bS ⟨rfl,au⟩
 have aS:=ak _ _ au
 refine An rfl (rt (bR (tR (rs ?_))))
 have aT:=aS.pk []
 obtain rfl:_=ag:=zj hr (et (iN e) (et (iN l) (et (ip m) (ae I))))
 exact⟨rfl,aT⟩
 refine jF (dF m) (sr (Kz (.bool (decide (o=11))) (An rfl ?_)))
 by_cases p:o=11
 refine jT (dT p) (sr (Kz (vP d 20) (Lz (.slice j a.ah.ls.length k) b 0 Tryz.isAgg33 ?_)))
 obtain⟨u,J⟩:∃ q,ng a.ah.ls=q:=⟨_,rfl⟩
 obtain⟨bT,av,ax,ay,bC⟩:=Gr b
 refine cl Tryz.call30 (qZ _ _ j a.ah.ls.length k a.ah.ls u av (ax _ S) rfl e8 J) ?_
 rintro _ bU ⟨rfl,az,K⟩
 have aU:=ay _ _ az
 replace K: ¬ (u=0)\/(1<=a.ah.ls.length/\a.ah.ls.length<=6):=K
 refine Kz (.bool (decide (u=0))) (An rfl (rt (bR (tR (rs ?_)))))
 have aV:=aU.pk []
 obtain rfl:_=decide (u=0):=zj hr (et (iN e) (et (iN l) (et (iN m) (et (ip p) (ae J)))))
 exact⟨rfl,aV⟩
 refine jF (dF p) (sr (Kz (.bool (decide (o=12))) (An rfl ?_)))
 by_cases t:o=12
 refine jT (dT t) (sr (Kz (vP d 5) (Lz (vI a.iB) b 0 v5 ?_)))
 obtain⟨aB,L⟩:∃ q,mE 1 a.iB=q:=⟨_,rfl⟩
 obtain⟨bV,aC,bD,aD,bE⟩:=Gr b
 refine cl Tryz.call46 (qF _ _ 1 a.iB aB aC L) ?_
 rintro _ bX ⟨rfl,aF⟩
 have aX:=aD _ _ aF
 refine An rfl (rt (bR (tR (rs ?_))))
 have aZ:=aX.pk []
 obtain rfl:_=aB:=zj hr (et (iN e) (et (iN l) (et (iN m) (et (iN p) (et (ip t) (ae L))))))
 exact⟨rfl,aZ⟩
 refine jF (dF t) (sr (Kz (.bool (decide (o=13))) (An rfl ?_)))
 by_cases y:o=13
 refine jT (dT y) (sr (Kz (vP d 16) (La (aj.cells a.aB) b 0 Tryz.isAgg37 Tryz.sizeOf37 ?_)))
 obtain⟨T,M⟩:∃ q,dW a.aB=q:=⟨_,rfl⟩
 obtain⟨bY,aG,bF,aH,bG⟩:=Gr b
 refine cl Tryz.call65 (iX _ _ a.aB T aG M) ?_
 rintro _ bZ ⟨rfl,aI⟩
 have bf:=aH _ _ aI
 refine Kz (.bool (decide (T=0))) (An rfl (rt (bR (tR (rs ?_)))))
 have bg:=bf.pk []
 obtain rfl:_=decide (T=0):=zj hr (et (iN e) (et (iN l) (et (iN m) (et (iN p) (et (iN t) (et (ip y) (ae M)))))))
 exact⟨rfl,bg⟩
 refine jF (dF y) (G7 (bN (Gs (sr (An rfl (rt (rs ?_)))))))
 have bi:=b.pk []
 obtain rfl:_=true:=zj hr (et (iN e) (et (iN l) (et (iN m) (et (iN p) (et (iN t) (iN y))))))
 exact⟨rfl,bi⟩
def jG (d:dM):List Int->Unit ⊕ Bool
  | []=>v0 ()
  | b::c=>bnd (ru d b) λ a=>if a=true then jG d c else v2 (false)
def rC (a:dM) (l1:List Int):Bool:=
 lp (jG a l1) λ _=>true
theorem yM (w D) (a:dM) (h z d j B f m l C g R n1 c1 l1 r0) (H:Own w D w []) (G:z=a.aJ.ls.length) (I:Ro w D λ w'=>bM w' 6 h a.aJ.ls.length (q0 aY.cells a.aJ.ls)) (ag:a.aJ.ls.length<=d/\a.aJ.ls.length<=9223372036854775807) (p:r8 aP.abs m=a.aQ.ls) (J:B=a.aQ.ls.length) (K:Ro w D λ w'=>bM w' 3 j a.aQ.ls.length (q0 aP.cells m)) (ah:a.aQ.ls.length<=f/\a.aQ.ls.length<=9223372036854775807) (r:∀ x ∈ m,Ro w D (λ w'=>bM w' 2 x.bq.A x.bq.ls.length (q0 aA.cells x.bq.ls))/\(x.bq.ls.length<=x.bq.c/\x.bq.ls.length<=9223372036854775807)) (L:C=a.ah.ls.length) (M:Ro w D λ w'=>bM w' 2 l a.ah.ls.length (q0 bL.cells a.ah.ls)) (ai:a.ah.ls.length<=g/\a.ah.ls.length<=9223372036854775807) (N:Ro w D λ w'=>bM w' 1 R n1 (q0 (eI .i64) l1)) (aj:n1=l1.length) (aH:l1.length *8<=211106232532992) (aI:a.aJ.ls.length<=140737488355328/\a.aQ.ls.length<=140737488355328/\a.ah.ls.length<=140737488355328) (hr:rC a l1=r0):
    Calls u2 49 #[.agg (ic a.az a.iO a.jD a.gJ a.fG a.iB a.gp a.aT a.aV a.bi a.bv a.aL a.aG a.bu a.xN a.fZ a.aB.aO a.aB.aS h z d j B f l C g).toArray, .slice R n1 c1] w (dG λ v w'=>v= .bool r0/\Own w D w' []):=by
 subst aj G J L
 have Z:=aW p
 refine cb Tryz.func49 ?_
 refine sr ?_
 refine bW (lN a h d j f l g) 47 H ?_
 intro O aJ ak
 refine An rfl (Gp (sr (Mz rfl (Kz (vJ l1.length) (Mn rfl (bo ?_))))))
 have au:=ak.pf []
 obtain⟨av,s⟩:=mP λ (b:Nat) w'=>Own w D w' [blk O (lN a h d j f l g) 47]/\b<=l1.length/\jG a l1=jG a (r7 b l1)
 refine v4 (λ i:Nat=> [(4, .bool false),(9,vJ i),(8,vJ l1.length),(7, .slice R l1.length c1),(2,vP O 0)]) av (λ i=>l1.length - i) 0 ⟨rfl,rfl,rfl,rfl,rfl,trivial⟩ (s.2 ⟨au,e8,rfl⟩) ?_
 rintro b aK S
 show Wp _ _ _ [(4, .bool false),(9,vJ b),(8,vJ l1.length),(7, .slice R l1.length c1),(2,vP O 0)] _ _
 obtain⟨o,aC,t⟩:=s.1 S
 refine sr (Kz (.bool (decide (((b:Nat):Int) < ((l1.length:Nat):Int)))) (nt (Gp ?_)))
 by_cases T:((b:Nat):Int) < ((l1.length:Nat):Int)
 obtain⟨P,E⟩:=dI (ls:=l1) (i:=b) vM f5 (o.ro N) f2
 have F:=drop_at E
 refine jT (dT T) (sk (Gp (bo (sr (fw (.pointer (some ⟨ab R,ao R+b *1,none⟩)) (GI (Ee) rfl rfl ((o.ro N).addr (i:=b) e8) e8) (fw (vI P) (GH rfl (bS.one Tryz.isAgg183 (((o.ro N).elem vM E f5).at_ (k:=0) rfl))) (Ar rfl (La (lN a h d j f l g) o 0 Tryz.isAgg47 Tryz.sizeOf47 (Mz rfl ?_)))))))))
 obtain⟨Q,u⟩:∃ q,ru a P=q:=⟨_,rfl⟩
 obtain⟨aL,U,n,V,aD⟩:=Gr o
 refine cl Tryz.call96 (AR _ _ a h a.aJ.ls.length d j a.aQ.ls.length f m l a.ah.ls.length g P Q U rfl (n _ I) e8 p rfl (n _ K) e8 (λ x9 h9=>⟨n _ (r x9 h9).1,(r x9 h9).2⟩) rfl (n _ M) e8 f8 u) ?_
 rintro _ aM ⟨rfl,W⟩
 have X:=V _ _ W
 refine Kz (.bool (!Q)) (nt ?_)
 rcases Kq (Q) with y | y
 refine jF (cn y) (G7 (bN (Gs (Gq (fw (vJ (b+1)) (Gw (e:=v7.wrap (((b:Nat):Int)+1)) yk f1) (Mz rfl (v8 ?_)))))))
 have ax:=X.pf []
 exact GL (b+1) ⟨rfl,rfl,rfl,rfl,rfl,trivial⟩ (s.2 ⟨ax,e8,et (t) (et (congrArg (λ q=>jG a q) F) (et (ae u) (ip y)))⟩) (by show l1.length - (b+1) < l1.length - b; omega)
 refine jT (cn y) (sr (An rfl (rt (bR (tR (tR (bR (tR (rs ?_)))))))))
 have ay:=X.pk []
 obtain rfl:_=false:=zj hr (iG (et (t) (et (congrArg (λ q=>jG a q) F) (et (ae u) (dY y)))))
 exact⟨rfl,ay⟩
 refine jF (dF T) (v9 (GK ?_))
 have Y:jG a l1=v0 ():=et (t) (et (congrArg (λ q=>jG a q) (eP (ls:=l1) (i:=b) e8)) rfl)
 refine GK (GR (Gs (sr (An rfl (rt (rs ?_))))))
 have az:=o.pk []
 obtain rfl:_=true:=zj hr (kZ Y)
 exact⟨rfl,az⟩
def uN (a:dM):Bool:=
 if((cz (cz (cz (cz (cz (cz (cz (cz a.gp a.aT) a.aV) a.bi) a.bv) a.aL) a.aG) a.bu) a.xN:Nat):Int)=0 then if(((a.aJ.ls.length+a.aQ.ls.length)+a.ah.ls.length:Nat):Int)=0 then if a.gJ=0 then if a.fG=0 then if a.iB=0 then if a.fZ=true then false else decide ((a.aB.aO=([]))/\(a.aB.aS=([]))) else false else false else false else false else false
theorem zw (w D) (a:dM) (l s m n t o r p y q V) (H:Own w D w []) (z:s=a.aJ.ls.length) (G:Ro w D λ w'=>bM w' 6 l a.aJ.ls.length (q0 aY.cells a.aJ.ls)) (I:a.aJ.ls.length<=m/\a.aJ.ls.length<=9223372036854775807) (B:r8 aP.abs r=a.aQ.ls) (C:t=a.aQ.ls.length) (J:Ro w D λ w'=>bM w' 3 n a.aQ.ls.length (q0 aP.cells r)) (K:a.aQ.ls.length<=o/\a.aQ.ls.length<=9223372036854775807) (L:∀ x ∈ r,Ro w D (λ w'=>bM w' 2 x.bq.A x.bq.ls.length (q0 aA.cells x.bq.ls))/\(x.bq.ls.length<=x.bq.c/\x.bq.ls.length<=9223372036854775807)) (E:y=a.ah.ls.length) (M:Ro w D λ w'=>bM w' 2 p a.ah.ls.length (q0 bL.cells a.ah.ls)) (N:a.ah.ls.length<=q/\a.ah.ls.length<=9223372036854775807) (ah:a.aJ.ls.length<=140737488355328/\a.aQ.ls.length<=140737488355328/\a.ah.ls.length<=140737488355328) (hr:uN a=V):
    Calls u2 47 #[.agg (ic a.az a.iO a.jD a.gJ a.fG a.iB a.gp a.aT a.aV a.bi a.bv a.aL a.aG a.bu a.xN a.fZ a.aB.aO a.aB.aS l s m n t o p y q).toArray] w (dG λ v w'=>v= .bool V/\Own w D w' []):=by
 subst z C E
 have F:=aW B
 refine cb Tryz.func47 ?_
 refine sr ?_
 refine bW (lN a l m n o p q) 47 H ?_
 intro d ai b
 refine Ar rfl (Kz (vP d 6) (Lz (vU a.gp) b 0 C4 (Kz (vP d 7) (Lz (vU a.aT) b 0 C4 ?_))))
 have W:cz a.gp a.aT<=18446744073709551615:=oL _ _
 refine fw (vU (cz a.gp a.aT)) (Gw (e:=F1.wrap (((BitVec.ofInt 64 ((a.gp:Nat):Int) ||| BitVec.ofInt 64 ((a.aT:Nat):Int)).toNat:Nat):Int)) yk (kM _)) (Kz (vP d 8) (Lz (vU a.aV) b 0 C4 ?_))
 have X:cz (cz a.gp a.aT) a.aV<=18446744073709551615:=oL _ _
 refine fw (vU (cz (cz a.gp a.aT) a.aV)) (Gw (e:=F1.wrap (((BitVec.ofInt 64 ((cz a.gp a.aT:Nat):Int) ||| BitVec.ofInt 64 ((a.aV:Nat):Int)).toNat:Nat):Int)) yk (kM _)) (Kz (vP d 9) (Lz (vU a.bi) b 0 C4 ?_))
 have Y:cz (cz (cz a.gp a.aT) a.aV) a.bi<=18446744073709551615:=oL _ _
 refine fw (.int .u64 ((cz (cz (cz a.gp a.aT) a.aV) a.bi:Nat):Int)) (Gw (e:=F1.wrap (((BitVec.ofInt 64 ((cz (cz a.gp a.aT) a.aV:Nat):Int) ||| BitVec.ofInt 64 ((a.bi:Nat):Int)).toNat:Nat):Int)) yk (kM _)) (Kz (vP d 10) (Lz (vU a.bv) b 0 C4 ?_))
 have Z:cz (cz (cz (cz a.gp a.aT) a.aV) a.bi) a.bv<=18446744073709551615:=oL _ _
 refine fw (.int .u64 ((cz (cz (cz (cz a.gp a.aT) a.aV) a.bi) a.bv:Nat):Int)) (Gw (e:=F1.wrap (((BitVec.ofInt 64 ((cz (cz (cz a.gp a.aT) a.aV) a.bi:Nat):Int) ||| BitVec.ofInt 64 ((a.bv:Nat):Int)).toNat:Nat):Int)) yk (kM _)) (Kz (vP d 11) (Lz (vU a.aL) b 0 C4 ?_))
 have aa:cz (cz (cz (cz (cz a.gp a.aT) a.aV) a.bi) a.bv) a.aL<=18446744073709551615:=oL _ _
 refine fw (.int .u64 ((cz (cz (cz (cz (cz a.gp a.aT) a.aV) a.bi) a.bv) a.aL:Nat):Int)) (Gw (e:=F1.wrap (((BitVec.ofInt 64 ((cz (cz (cz (cz a.gp a.aT) a.aV) a.bi) a.bv:Nat):Int) ||| BitVec.ofInt 64 ((a.aL:Nat):Int)).toNat:Nat):Int)) yk (kM _)) (Kz (vP d 12) (Lz (vU a.aG) b 0 C4 ?_))
 have ae:cz (cz (cz (cz (cz (cz a.gp a.aT) a.aV) a.bi) a.bv) a.aL) a.aG<=18446744073709551615:=oL _ _
 refine fw (.int .u64 ((cz (cz (cz (cz (cz (cz a.gp a.aT) a.aV) a.bi) a.bv) a.aL) a.aG:Nat):Int)) (Gw (e:=F1.wrap (((BitVec.ofInt 64 ((cz (cz (cz (cz (cz a.gp a.aT) a.aV) a.bi) a.bv) a.aL:Nat):Int) ||| BitVec.ofInt 64 ((a.aG:Nat):Int)).toNat:Nat):Int)) yk (kM _)) (Kz (vP d 13) (Lz (vU a.bu) b 0 C4 ?_))
 have af:cz (cz (cz (cz (cz (cz (cz a.gp a.aT) a.aV) a.bi) a.bv) a.aL) a.aG) a.bu<=18446744073709551615:=oL _ _
 refine fw (.int .u64 ((cz (cz (cz (cz (cz (cz (cz a.gp a.aT) a.aV) a.bi) a.bv) a.aL) a.aG) a.bu:Nat):Int)) (Gw (e:=F1.wrap (((BitVec.ofInt 64 ((cz (cz (cz (cz (cz (cz a.gp a.aT) a.aV) a.bi) a.bv) a.aL) a.aG:Nat):Int) ||| BitVec.ofInt 64 ((a.bu:Nat):Int)).toNat:Nat):Int)) yk (kM _)) (Kz (vP d 14) (Lz (vU a.xN) b 0 C4 ?_))
 have ag:cz (cz (cz (cz (cz (cz (cz (cz a.gp a.aT) a.aV) a.bi) a.bv) a.aL) a.aG) a.bu) a.xN<=18446744073709551615:=oL _ _
 refine fw (.int .u64 ((cz (cz (cz (cz (cz (cz (cz (cz a.gp a.aT) a.aV) a.bi) a.bv) a.aL) a.aG) a.bu) a.xN:Nat):Int)) (Gw (e:=F1.wrap (((BitVec.ofInt 64 ((cz (cz (cz (cz (cz (cz (cz a.gp a.aT) a.aV) a.bi) a.bv) a.aL) a.aG) a.bu:Nat):Int) ||| BitVec.ofInt 64 ((a.xN:Nat):Int)).toNat:Nat):Int)) yk (kM _)) (Ar rfl (Kz (vP d 18) (Lz (.slice l a.aJ.ls.length m) b 0 Tryz.isAgg44 (Kz (vJ a.aJ.ls.length) (Kz (vP d 19) (Lz (.slice n a.aQ.ls.length o) b 0 Tryz.isAgg45 (Kz (vJ a.aQ.ls.length) (fw (vJ (a.aJ.ls.length+a.aQ.ls.length)) (Gw (e:=v7.wrap (((a.aJ.ls.length:Nat):Int)+((a.aQ.ls.length:Nat):Int))) yk f1) (Kz (vP d 20) (Lz (.slice p a.ah.ls.length q) b 0 Tryz.isAgg33 (Kz (vJ a.ah.ls.length) (fw (vJ ((a.aJ.ls.length+a.aQ.ls.length)+a.ah.ls.length)) (Gw (e:=v7.wrap (((a.aJ.ls.length+a.aQ.ls.length:Nat):Int)+((a.ah.ls.length:Nat):Int))) yk f1) (Ar rfl (Mz rfl (Kz (.bool (decide (((cz (cz (cz (cz (cz (cz (cz (cz a.gp a.aT) a.aV) a.bi) a.bv) a.aL) a.aG) a.bu) a.xN:Nat):Int)=0))) (Mz rfl ?_))))))))))))))))
 by_cases g:((cz (cz (cz (cz (cz (cz (cz (cz a.gp a.aT) a.aV) a.bi) a.bv) a.aL) a.aG) a.bu) a.xN:Nat):Int)=0
 refine gw (vJ ((a.aJ.ls.length+a.aQ.ls.length)+a.ah.ls.length)) (dT g) (Gv rfl) (Gz (.bool (decide ((((a.aJ.ls.length+a.aQ.ls.length)+a.ah.ls.length:Nat):Int)=0))) (dT g) (fw (.bool (decide ((((a.aJ.ls.length+a.aQ.ls.length)+a.ah.ls.length:Nat):Int)=0))) (Gu rfl (dT g) rfl) (Mz rfl ?_)))
 by_cases f:(((a.aJ.ls.length+a.aQ.ls.length)+a.ah.ls.length:Nat):Int)=0
 refine Gz (vP d 3) (dT f) (Gl (vI a.gJ) (dT f) b 0 v5 (Gz (.bool (decide (a.gJ=0))) (dT f) (fw (.bool (decide (a.gJ=0))) (Gu rfl (dT f) rfl) (Mz rfl ?_))))
 by_cases h:a.gJ=0
 refine Gz (vP d 4) (dT h) (Gl (vI a.fG) (dT h) b 0 v5 (Gz (.bool (decide (a.fG=0))) (dT h) (fw (.bool (decide (a.fG=0))) (Gu rfl (dT h) rfl) (Mz rfl ?_))))
 by_cases j:a.fG=0
 refine Gz (vP d 5) (dT j) (Gl (vI a.iB) (dT j) b 0 v5 (Gz (.bool (decide (a.iB=0))) (dT j) (fw (.bool (decide (a.iB=0))) (Gu rfl (dT j) rfl) (Mz rfl ?_))))
 by_cases k:a.iB=0
 refine Gz (vP d 15) (dT k) (Gl (.bool a.fZ) (dT k) b 0 F0 (Gz (.bool (!a.fZ)) (dT k) (fw (.bool (!a.fZ)) (Gu rfl (dT k) rfl) (Mz rfl ?_))))
 rcases Kq (a.fZ) with i | i
 refine Sz (cn i) (Sz (cn i) (Sz (cn i) (Sz (cn i) (fw (.bool false) (Gm rfl (cn i) rfl) (An rfl (rt (rs ?_)))))))
 have O:=b.pk []
 obtain rfl:_=false:=zj hr (et (ip g) (et (ip f) (et (ip h) (et (ip j) (et (ip k) (ip i))))))
 exact⟨rfl,O⟩
 refine Gz (vP d 16) (cn i) (Ga (aj.cells a.aB) (cn i) b 0 Tryz.isAgg37 Tryz.sizeOf37 (Gz (.agg #[.string ⟨u3 ([])⟩, .string ⟨u3 ([])⟩]) (cn i) (gw (.bool (decide ((a.aB.aO=([]))/\(a.aB.aS=([]))))) (cn i) (Ji rfl rfl e9 rfl (fI.struct Tryz.underlying37 e9 (HV (fe.cons (u:= .string ⟨u3 a.aB.aO⟩) (v:= .string ⟨u3 ([])⟩) f5 (λ _=>by kernel_rfl) (λ _=>by kernel_rfl) (fI.string u5) (fe.cons (u:= .string ⟨u3 a.aB.aS⟩) (v:= .string ⟨u3 ([])⟩) f5 (λ _=>by kernel_rfl) (λ _=>by kernel_rfl) (fI.string u5) (fe.nil.up (Km _)))) ((congrArg (decide (a.aB.aO=([])) && ·) kz).trans fo)))) (fw (.bool (decide ((a.aB.aO=([]))/\(a.aB.aS=([]))))) (Gu rfl (cn i) rfl) (An rfl (rt (rs ?_)))))))
 have P:=b.pk []
 obtain rfl:_=decide ((a.aB.aO=([]))/\(a.aB.aS=([]))):=zj hr (et (ip g) (et (ip f) (et (ip h) (et (ip j) (et (ip k) (dY i))))))
 exact⟨rfl,P⟩
 refine Sz (dF k) (Sz (dF k) (Sz (dF k) (fw (.bool false) (Gm rfl (dF k) rfl) (Mz rfl (Sz rfl (Sz rfl (Sz rfl (Sz rfl (fw (.bool false) (Gm rfl rfl rfl) (An rfl (rt (rs ?_))))))))))))
 have Q:=b.pk []
 obtain rfl:_=false:=zj hr (et (ip g) (et (ip f) (et (ip h) (et (ip j) (iN k)))))
 exact⟨rfl,Q⟩
 refine Sz (dF j) (Sz (dF j) (Sz (dF j) (fw (.bool false) (Gm rfl (dF j) rfl) (Mz rfl (Sz rfl (Sz rfl (Sz rfl (fw (.bool false) (Gm rfl rfl rfl) (Mz rfl (Sz rfl (Sz rfl (Sz rfl (Sz rfl (fw (.bool false) (Gm rfl rfl rfl) (An rfl (rt (rs ?_)))))))))))))))))
 have R:=b.pk []
 obtain rfl:_=false:=zj hr (et (ip g) (et (ip f) (et (ip h) (iN j))))
 exact⟨rfl,R⟩
 refine Sz (dF h) (Sz (dF h) (Sz (dF h) (fw (.bool false) (Gm rfl (dF h) rfl) (Mz rfl (Sz rfl (Sz rfl (Sz rfl (fw (.bool false) (Gm rfl rfl rfl) (Mz rfl (Sz rfl (Sz rfl (Sz rfl (fw (.bool false) (Gm rfl rfl rfl) (Mz rfl (Sz rfl (Sz rfl (Sz rfl (Sz rfl (fw (.bool false) (Gm rfl rfl rfl) (An rfl (rt (rs ?_))))))))))))))))))))))
 have S:=b.pk []
 obtain rfl:_=false:=zj hr (et (ip g) (et (ip f) (iN h)))
 exact⟨rfl,S⟩
 refine Sz (dF f) (Sz (dF f) (Sz (dF f) (fw (.bool false) (Gm rfl (dF f) rfl) (Mz rfl (Sz rfl (Sz rfl (Sz rfl (fw (.bool false) (Gm rfl rfl rfl) (Mz rfl (Sz rfl (Sz rfl (Sz rfl (fw (.bool false) (Gm rfl rfl rfl) (Mz rfl (Sz rfl (Sz rfl (Sz rfl (fw (.bool false) (Gm rfl rfl rfl) (Mz rfl (Sz rfl (Sz rfl (Sz rfl (Sz rfl (fw (.bool false) (Gm rfl rfl rfl) (An rfl (rt (rs ?_)))))))))))))))))))))))))))
 have T:=b.pk []
 obtain rfl:_=false:=zj hr (et (ip g) (iN f))
 exact⟨rfl,T⟩
 refine Sz (dF g) (Sz (dF g) (fw (.bool false) (Gm rfl (dF g) rfl) (Mz rfl (Sz rfl (Sz rfl (Sz rfl (fw (.bool false) (Gm rfl rfl rfl) (Mz rfl (Sz rfl (Sz rfl (Sz rfl (fw (.bool false) (Gm rfl rfl rfl) (Mz rfl (Sz rfl (Sz rfl (Sz rfl (fw (.bool false) (Gm rfl rfl rfl) (Mz rfl (Sz rfl (Sz rfl (Sz rfl (fw (.bool false) (Gm rfl rfl rfl) (Mz rfl (Sz rfl (Sz rfl (Sz rfl (Sz rfl (fw (.bool false) (Gm rfl rfl rfl) (An rfl (rt (rs ?_)))))))))))))))))))))))))))))))
 have U:=b.pk []
 obtain rfl:_=false:=zj hr (iN g)
 exact⟨rfl,U⟩
end
open _root_.Go.Proofs.Tryz renaming isAgg121->F2,isAgg47->G0,sizeOf32->G2,sizeOf47->G1
section
open Go.RowKit
def cu (u:dM) (s:fF):List Int->Int->Int->Nat->Nat->Nat->Nat->Nat->Nat->Nat->Nat->Nat->Bool->List UInt8->List UInt8->List aY->List cZ->List bL->Int × Int × Nat × Nat × Nat × Nat × Nat × Nat × Nat × Nat × Nat × Bool × (List UInt8) × (List UInt8) × (List aY) × (List cZ) × (List bL)
  | [],b,c,d,e,f,g,h,i,j,k,l,m,n,o,p,q,r=>(b,c,d,e,f,g,h,i,j,k,l,m,n,o,p,q,r)
  | a::t,b,c,d,e,f,g,h,i,j,k,l,m,n,o,p,q,r=>if a=0 then cu u s t b c 0 e f g h i j k l m n o p q r else if a=1 then cu u s t b c d 0 f g h i j k l m n o p q r else if a=2 then cu u s t 0 c d e f g h i j k l m n o p q r else if a=3 then cu u s t b c d e f g h i j k l m n o p [] r else if a=4 then cu u s t b c d e 0 g h i j k l m n o p q r else if a=5 then cu u s t b c d e f 0 h i j k l m n o p q r else if a=6 then cu u s t b c d e f g h 0 j k l m n o p q r else if a=7 then cu u s t b c d e f g h i j k l m n o [] q r else if a=8 then cu u s t b c d e f g h i j k l false n o p q r else if a=9 then cu u s t b c d e f g 0 i j k l m n o p q r else if a=10 then cu u s t b c d e f g h i 0 k l m n o p q r else if a=11 then cu u s t b c d e f g h i j k l m n o p q [] else if a=12 then cu u s t b 0 d e f g h i j k l m n o p q r else if a=13 then cu u s t b c d e f g h i j k l m [] [] p q r else if a=14 then cu u s t b c d e f g h i j 0 l m n o p q r else if a=15 then cu u s t b c d e f g h i j k 0 m n o p q r else cu u s t b c d e f g h i j k l m n o p q r
def lL (a:dM):Int:=
 bnd (qc a.az) λ b=>if b.2=true then bnd (mE b.1.mO a.iO) λ e=>if e=true then bnd (mE b.1.qQ a.jD) λ f=>if f=true then bnd (cu a b.1 b.1.bZ.ls a.fG a.iB a.gp a.aT a.aV a.bi a.bv a.aL a.aG a.bu a.xN a.fZ a.aB.aO a.aB.aS a.aJ.ls a.aQ.ls a.ah.ls) λ sLrbtbtbtL=>bnd (uN (dM.mk a.az a.iO a.jD a.gJ sLrbtbtbtL.1 sLrbtbtbtL.2.1 sLrbtbtbtL.2.2.1 sLrbtbtbtL.2.2.2.1 sLrbtbtbtL.2.2.2.2.1 sLrbtbtbtL.2.2.2.2.2.1 sLrbtbtbtL.2.2.2.2.2.2.1 sLrbtbtbtL.2.2.2.2.2.2.2.1 sLrbtbtbtL.2.2.2.2.2.2.2.2.1 sLrbtbtbtL.2.2.2.2.2.2.2.2.2.1 sLrbtbtbtL.2.2.2.2.2.2.2.2.2.2.1 sLrbtbtbtL.2.2.2.2.2.2.2.2.2.2.2.1 (aj.mk sLrbtbtbtL.2.2.2.2.2.2.2.2.2.2.2.2.1 sLrbtbtbtL.2.2.2.2.2.2.2.2.2.2.2.2.2.1) (D4 sLrbtbtbtL.2.2.2.2.2.2.2.2.2.2.2.2.2.2.1) (D4 sLrbtbtbtL.2.2.2.2.2.2.2.2.2.2.2.2.2.2.2.1) (D4 sLrbtbtbtL.2.2.2.2.2.2.2.2.2.2.2.2.2.2.2.2))) λ c=>if c=true then bnd (rC a b.1.bZ.ls) λ d=>if d=true then if b.1.mO=1 then if b.1.qQ=1 then if a.iO=a.jD then 180 else 0 else 0 else 0 else 180 else 180 else 180 else 180 else 180
theorem vo (w D) (a:dM) (ak bZ aa au cz af aI av cB ag r0) (H:Own w D w []) (di:bZ=a.aJ.ls.length) (bH:Ro w D λ w'=>bM w' 6 ak a.aJ.ls.length (q0 aY.cells a.aJ.ls)) (ib:a.aJ.ls.length<=aa/\a.aJ.ls.length<=9223372036854775807) (bg:r8 aP.abs aI=a.aQ.ls) (dm:cz=a.aQ.ls.length) (bI:Ro w D λ w'=>bM w' 3 au a.aQ.ls.length (q0 aP.cells aI)) (ig:a.aQ.ls.length<=af/\a.aQ.ls.length<=9223372036854775807) (bi:∀ x ∈ aI,Ro w D (λ w'=>bM w' 2 x.bq.A x.bq.ls.length (q0 aA.cells x.bq.ls))/\(x.bq.ls.length<=x.bq.c/\x.bq.ls.length<=9223372036854775807)) (dn:cB=a.ah.ls.length) (bJ:Ro w D λ w'=>bM w' 2 av a.ah.ls.length (q0 bL.cells a.ah.ls)) (ik:a.ah.ls.length<=ag/\a.ah.ls.length<=9223372036854775807) (jG:a.aJ.ls.length<=140737488355328/\a.aQ.ls.length<=140737488355328/\a.ah.ls.length<=140737488355328) (hr:lL a=r0):
    Calls Tryz.prog 22 #[.agg (ic a.az a.iO a.jD a.gJ a.fG a.iB a.gp a.aT a.aV a.bi a.bv a.aL a.aG a.bu a.xN a.fZ a.aB.aO a.aB.aS ak bZ aa au cz af av cB ag).toArray] w (dG λ v w'=>v=vI r0/\Own w D w' []):=by
 unfold lL at hr
 subst di dm dn
 have gZ:=aW bg
 refine cb Tryz.func22 ?_
 refine sr ?_
 refine bW (lN a ak aa au af av ag) 47 H ?_
 intro bG jH dJ
 refine Ar rfl (Kz (vP bG 0) (Lz (vI a.az) dJ 0 v5 ?_))
 obtain⟨⟨d,bO⟩,aK⟩:∃ q:fF × Bool,qc a.az=q:=⟨_,rfl⟩
 obtain⟨jI,dK,iR,dL,iT⟩:=Gr dJ
 refine cl Tryz.call45 (xm _ _ a.az d bO dK aK) ?_
 rintro _ jJ ⟨aX,bn,rfl,dN,cK⟩
 have dO:=dL _ _ dN
 have iU:=dO.rowC (i:=0) rfl
 replace cK:d.bZ.ls.length<=5:=cK
 refine Mz rfl (Kz (.agg #[vI d.mO,vI d.qQ, .slice aX d.bZ.ls.length bn]) (Kz (.bool bO) ?_))
 refine bW [vI 0,vI 0, .slice none 0 0] 124 dO ?_
 intro bz jK il
 refine bY [vI d.mO,vI d.qQ, .slice aX d.bZ.ls.length bn] 0 il Tryz.sizeOf124 ?_
 intro jL bP
 refine An rfl (Gp (sr (Mz rfl (Kz (.bool (!bO)) (Mz rfl ?_)))))
 rcases Kq (bO) with ai | ai
 refine Gz (vP bz 0) (cn ai) (Gl (vI d.mO) (cn ai) bP 0 F2 (Gz (vP bG 1) (cn ai) (Gl (vI a.iO) (cn ai) bP 2 v5 ?_)))
 obtain⟨bR,aN⟩:∃ q,mE d.mO a.iO=q:=⟨_,rfl⟩
 obtain⟨jM,dP,iV,dQ,iW⟩:=Gr bP
 refine nQ (cn ai) Tryz.call46 (qF _ _ d.mO a.iO bR dP aN) ?_
 rintro _ jN ⟨rfl,dR⟩
 have bT:=dQ _ _ dR
 refine Gz (.bool (!bR)) (cn ai) (fw (.bool (!bR)) (Gm rfl (cn ai) rfl) (Mz rfl ?_))
 rcases Kq (bR) with ax | ax
 refine Gz (vP bz 1) (cn ax) (Gl (vI d.qQ) (cn ax) bT 0 F2 (Gz (vP bG 2) (cn ax) (Gl (vI a.jD) (cn ax) bT 2 v5 ?_)))
 obtain⟨bU,aS⟩:∃ q,mE d.qQ a.jD=q:=⟨_,rfl⟩
 obtain⟨jO,dS,iX,dU,iY⟩:=Gr bT
 refine nQ (cn ax) Tryz.call46 (qF _ _ d.qQ a.jD bU dS aS) ?_
 rintro _ jP ⟨rfl,dV⟩
 have bV:=dU _ _ dV
 refine Gz (.bool (!bU)) (cn ax) (fw (.bool (!bU)) (Gm rfl (cn ax) rfl) (Mz rfl ?_))
 rcases Kq (bU) with aB | aB
 refine Ga (lN a ak aa au af av ag) (cn aB) bV 2 G0 G1 (Gz (vP bz 2) (cn aB) (Gl (.slice aX d.bZ.ls.length bn) (cn aB) bV 0 Tryz.isAgg122 ?_))
 refine H7 rfl rfl (cn aB) rfl (GV Tryz.call48 rfl ?_ (λ _ _ k=>k))
 refine cb Tryz.func48 ?_
 refine sr ?_
 refine bW (lN a ak aa au af av ag) 47 bV ?_
 intro aF jQ iq
 refine bW (ic 0 0 0 0 0 0 0 0 0 0 0 0 0 0 0 false [] [] none 0 0 none 0 0 none 0 0) 47 iq ?_
 intro dw jR iw
 refine nt (Gp (sr (Mz rfl (Kz (vJ d.bZ.ls.length) (Mn rfl (bo ?_))))))
 have iy:=iw.pf []
 obtain⟨dW,I⟩:=FZ λ (b:Nat) (z:Int) (B:Int) (j:Nat) (l:Nat) (n:Nat) (o:Nat) (p:Nat) (r:Nat) (s:Nat) (t:Nat) (u:Nat) C E F W (R:Nat) f X (S:Nat) T g Y (U:Nat) h w'=>Own w D w' [blk dw (ic 0 0 0 0 0 0 0 0 0 0 0 0 0 0 0 false [] [] none 0 0 none 0 0 none 0 0) 47,blk aF (ic a.az a.iO a.jD a.gJ z B j l n o p r s t u C E F W f.length R X g.length S Y h.length U) 47,blk bz [vI d.mO,vI d.qQ, .slice aX d.bZ.ls.length bn] 124,row aX d.bZ.ls.length bn (q0 (eI .i64) d.bZ.ls) 183 1,blk bG (lN a ak aa au af av ag) 47]/\jc 6 ak aa a.aJ.ls W R f/\jc 3 au af aI X S T/\r8 aP.abs T=g/\jc 2 av ag a.ah.ls Y U h/\b<=d.bZ.ls.length/\j<=a.gp+b/\l<=a.aT+b/\n<=a.aV+b/\o<=a.bi+b/\p<=a.bv+b/\r<=a.aL+b/\s<=a.aG+b/\t<=a.bu+b/\u<=a.xN+b/\cu a d d.bZ.ls a.fG a.iB a.gp a.aT a.aV a.bi a.bv a.aL a.aG a.bu a.xN a.fZ a.aB.aO a.aB.aS a.aJ.ls a.aQ.ls a.ah.ls=cu a d (r7 b d.bZ.ls) z B j l n o p r s t u C E F f g h
 refine Wp.loop (λ i:Nat × Int × Int × Nat × Nat × Nat × Nat × Nat × Nat × Nat × Nat × Nat × Bool × (List UInt8) × (List UInt8) × (Option Addr) × Nat × (List aY) × (Option Addr) × Nat × (List aP) × (List cZ) × (Option Addr) × Nat × (List bL)=> [(9,vJ i.1),(8,vJ d.bZ.ls.length),(7, .slice aX d.bZ.ls.length bn),(4,vP dw 0),(2,vP aF 0)]) dW (λ i=>d.bZ.ls.length - i.1) (0,a.fG,a.iB,a.gp,a.aT,a.aV,a.bi,a.bv,a.aL,a.aG,a.bu,a.xN,a.fZ,a.aB.aO,a.aB.aS,ak,aa,a.aJ.ls,au,af,aI,a.aQ.ls,av,ag,a.ah.ls) ⟨rfl,rfl,rfl,rfl,rfl,trivial⟩ (I.2 ⟨iy,by exact(jc.refl e8),by exact(jc.refl e8),by exact bg,by exact(jc.refl e8),e8,e8,e8,e8,e8,e8,e8,e8,e8,e8,rfl⟩) ?_
 rintro ⟨b,z,B,j,l,n,o,p,r,s,t,u,C,E,F,W,R,f,X,S,T,g,Y,U,h⟩ iZ dx
 show Wp _ _ _ [(9,vJ b),(8,vJ d.bZ.ls.length),(7, .slice aX d.bZ.ls.length bn),(4,vP dw 0),(2,vP aF 0)] _ _
 obtain⟨O,K,G,J,L,iA,iB,iC,iD,iE,iF,iG,iH,iI,iJ,M⟩:=I.1 dx
 have iK:=(K).le
 have iL:=(G).le
 have iM:=aW J
 have iO:=(L).le
 refine sr (Kz (.bool (decide ((b:Int) < (d.bZ.ls.length:Int)))) (nt (Gp ?_)))
 by_cases cO:(b:Int) < (d.bZ.ls.length:Int)
 obtain⟨y,bK⟩:=dI (ls:=d.bZ.ls) (i:=b) vM f5 (O.rds (i:=3) rfl) f2
 have N:=drop_at bK
 refine jT (dT cO) (sk (Gp (bo (sr (fw (.pointer (some ⟨ab aX,ao aX+b *1,none⟩)) (GI (Ee) rfl rfl ((O.rds (i:=3) rfl).addr (i:=b) e8) e8) (fw (vI y) (GH rfl (bS.one Tryz.isAgg183 (((O.rds (i:=3) rfl).elem vM bK f5).at_ (k:=0) rfl))) (Ar rfl (Mn rfl (bo (sr (Kz (.bool (decide (y=0))) (An rfl ?_))))))))))))
 by_cases P:y=0
 refine jT (dT P) (Gq (Kz (vP aF 6) ?_))
 have dX:=O.pf [1]
 refine bY [.int .u64 0] 6 dX G2 ?_
 intro ja dZ
 refine v8 (bN (bN (Gs (Gq (fw (vJ (b+1)) (Gw (e:=v7.wrap ((b:Int)+1)) yk f1) (Mz rfl (v8 ?_)))))))
 have d9:=dZ.pf [1]
 exact GL (b+1,z,B,0,l,n,o,p,r,s,t,u,C,E,F,W,R,f,X,S,T,g,Y,U,h) ⟨rfl,rfl,rfl,rfl,rfl,trivial⟩ (I.2 ⟨d9,by exact K,by exact G,by exact J,by exact L,e8,e8,e8,e8,e8,e8,e8,e8,e8,e8,et (M) (et (congrArg (λ q=>cu a d q z B j l n o p r s t u C E F f g h) N) (ip P))⟩) (by show d.bZ.ls.length - (b+1) < d.bZ.ls.length - b; omega)
 refine jF (dF P) (sr (Kz (.bool (decide (y=1))) (An rfl ?_)))
 by_cases V:y=1
 refine jT (dT V) (Gq (Kz (vP aF 7) ?_))
 have ed:=O.pf [1]
 refine bY [.int .u64 0] 7 ed G2 ?_
 intro jb ek
 refine v8 (bN (bN (Gs (Gq (fw (vJ (b+1)) (Gw (e:=v7.wrap ((b:Int)+1)) yk f1) (Mz rfl (v8 ?_)))))))
 have eu:=ek.pf [1]
 exact GL (b+1,z,B,j,0,n,o,p,r,s,t,u,C,E,F,W,R,f,X,S,T,g,Y,U,h) ⟨rfl,rfl,rfl,rfl,rfl,trivial⟩ (I.2 ⟨eu,by exact K,by exact G,by exact J,by exact L,e8,e8,e8,e8,e8,e8,e8,e8,e8,e8,et (M) (et (congrArg (λ q=>cu a d q z B j l n o p r s t u C E F f g h) N) (et (iN P) (ip V)))⟩) (by show d.bZ.ls.length - (b+1) < d.bZ.ls.length - b; omega)
 refine jF (dF V) (sr (Kz (.bool (decide (y=2))) (An rfl ?_)))
 by_cases Z:y=2
 refine jT (dT Z) (Gq (Kz (vP aF 4) ?_))
 have eB:=O.pf [1]
 refine bY [vI 0] 4 eB Tryz.sizeOf3 ?_
 intro jd eD
 refine v8 (bN (bN (Gs (Gq (fw (vJ (b+1)) (Gw (e:=v7.wrap ((b:Int)+1)) yk f1) (Mz rfl (v8 ?_)))))))
 have eF:=eD.pf [1]
 exact GL (b+1,0,B,j,l,n,o,p,r,s,t,u,C,E,F,W,R,f,X,S,T,g,Y,U,h) ⟨rfl,rfl,rfl,rfl,rfl,trivial⟩ (I.2 ⟨eF,by exact K,by exact G,by exact J,by exact L,e8,e8,e8,e8,e8,e8,e8,e8,e8,e8,et (M) (et (congrArg (λ q=>cu a d q z B j l n o p r s t u C E F f g h) N) (et (iN P) (et (iN V) (ip Z))))⟩) (by show d.bZ.ls.length - (b+1) < d.bZ.ls.length - b; omega)
 refine jF (dF Z) (sr (Kz (.bool (decide (y=3))) (An rfl ?_)))
 by_cases ah:y=3
 refine jT (dT ah) (Gq (Kz (vP aF 19) ?_))
 have eG:=O.pf [1]
 refine bY [.slice none 0 0] 19 eG Tryz.sizeOf45 ?_
 intro je eH
 refine v8 (bN (bN (Gs (Gq (fw (vJ (b+1)) (Gw (e:=v7.wrap ((b:Int)+1)) yk f1) (Mz rfl (v8 ?_)))))))
 have eO:=eH.pf [1]
 exact GL (b+1,z,B,j,l,n,o,p,r,s,t,u,C,E,F,W,R,f,none,0, [], [],Y,U,h) ⟨rfl,rfl,rfl,rfl,rfl,trivial⟩ (I.2 ⟨eO,(show jc 6 ak aa a.aJ.ls W R f/\jc 3 au af aI none 0 []/\r8 aP.abs []=[]/\jc 2 av ag a.ah.ls Y U h/\(b+1)<=d.bZ.ls.length/\j<=a.gp+(b+1)/\l<=a.aT+(b+1)/\n<=a.aV+(b+1)/\o<=a.bi+(b+1)/\p<=a.bv+(b+1)/\r<=a.aL+(b+1)/\s<=a.aG+(b+1)/\t<=a.bu+(b+1)/\u<=a.xN+(b+1)/\cu a d d.bZ.ls a.fG a.iB a.gp a.aT a.aV a.bi a.bv a.aL a.aG a.bu a.xN a.fZ a.aB.aO a.aB.aS a.aJ.ls a.aQ.ls a.ah.ls=cu a d (r7 (b+1) d.bZ.ls) z B j l n o p r s t u C E F f [] h from ⟨by exact K,by exact jc.nil,by exact rfl,by exact L,e8,e8,e8,e8,e8,e8,e8,e8,e8,e8,et (M) (et (congrArg (λ q=>cu a d q z B j l n o p r s t u C E F f g h) N) (et (iN P) (et (iN V) (et (iN Z) (ip ah)))))⟩)⟩) (by show d.bZ.ls.length - (b+1) < d.bZ.ls.length - b; omega)
 refine jF (dF ah) (sr (Kz (.bool (decide (y=4))) (An rfl ?_)))
 by_cases ay:y=4
 refine jT (dT ay) (Gq (Kz (vP aF 8) ?_))
 have eQ:=O.pf [1]
 refine bY [.int .u64 0] 8 eQ G2 ?_
 intro jg eT
 refine v8 (bN (bN (Gs (Gq (fw (vJ (b+1)) (Gw (e:=v7.wrap ((b:Int)+1)) yk f1) (Mz rfl (v8 ?_)))))))
 have eU:=eT.pf [1]
 exact GL (b+1,z,B,j,l,0,o,p,r,s,t,u,C,E,F,W,R,f,X,S,T,g,Y,U,h) ⟨rfl,rfl,rfl,rfl,rfl,trivial⟩ (I.2 ⟨eU,by exact K,by exact G,by exact J,by exact L,e8,e8,e8,e8,e8,e8,e8,e8,e8,e8,et (M) (et (congrArg (λ q=>cu a d q z B j l n o p r s t u C E F f g h) N) (et (iN P) (et (iN V) (et (iN Z) (et (iN ah) (ip ay))))))⟩) (by show d.bZ.ls.length - (b+1) < d.bZ.ls.length - b; omega)
 refine jF (dF ay) (sr (Kz (.bool (decide (y=5))) (An rfl ?_)))
 by_cases aC:y=5
 refine jT (dT aC) (Gq (Kz (vP aF 9) ?_))
 have eX:=O.pf [1]
 refine bY [.int .u64 0] 9 eX G2 ?_
 intro jh eY
 refine v8 (bN (bN (Gs (Gq (fw (vJ (b+1)) (Gw (e:=v7.wrap ((b:Int)+1)) yk f1) (Mz rfl (v8 ?_)))))))
 have eZ:=eY.pf [1]
 exact GL (b+1,z,B,j,l,n,0,p,r,s,t,u,C,E,F,W,R,f,X,S,T,g,Y,U,h) ⟨rfl,rfl,rfl,rfl,rfl,trivial⟩ (I.2 ⟨eZ,by exact K,by exact G,by exact J,by exact L,e8,e8,e8,e8,e8,e8,e8,e8,e8,e8,et (M) (et (congrArg (λ q=>cu a d q z B j l n o p r s t u C E F f g h) N) (et (iN P) (et (iN V) (et (iN Z) (et (iN ah) (et (iN ay) (ip aC)))))))⟩) (by show d.bZ.ls.length - (b+1) < d.bZ.ls.length - b; omega)
 refine jF (dF aC) (sr (Kz (.bool (decide (y=6))) (An rfl ?_)))
 by_cases aD:y=6
 refine jT (dT aD) (Gq (Kz (vP aF 11) ?_))
 have fe:=O.pf [1]
 refine bY [.int .u64 0] 11 fe G2 ?_
 intro ji fo
 refine v8 (bN (bN (Gs (Gq (fw (vJ (b+1)) (Gw (e:=v7.wrap ((b:Int)+1)) yk f1) (Mz rfl (v8 ?_)))))))
 have fq:=fo.pf [1]
 exact GL (b+1,z,B,j,l,n,o,p,0,s,t,u,C,E,F,W,R,f,X,S,T,g,Y,U,h) ⟨rfl,rfl,rfl,rfl,rfl,trivial⟩ (I.2 ⟨fq,by exact K,by exact G,by exact J,by exact L,e8,e8,e8,e8,e8,e8,e8,e8,e8,e8,et (M) (et (congrArg (λ q=>cu a d q z B j l n o p r s t u C E F f g h) N) (et (iN P) (et (iN V) (et (iN Z) (et (iN ah) (et (iN ay) (et (iN aC) (ip aD))))))))⟩) (by show d.bZ.ls.length - (b+1) < d.bZ.ls.length - b; omega)
 refine jF (dF aD) (sr (Kz (.bool (decide (y=7))) (An rfl ?_)))
 by_cases aG:y=7
 refine jT (dT aG) (Gq (Kz (vP aF 18) ?_))
 have fu:=O.pf [1]
 refine bY [.slice none 0 0] 18 fu Tryz.sizeOf44 ?_
 intro jk fA
 refine v8 (bN (bN (Gs (Gq (fw (vJ (b+1)) (Gw (e:=v7.wrap ((b:Int)+1)) yk f1) (Mz rfl (v8 ?_)))))))
 have fB:=fA.pf [1]
 exact GL (b+1,z,B,j,l,n,o,p,r,s,t,u,C,E,F,none,0, [],X,S,T,g,Y,U,h) ⟨rfl,rfl,rfl,rfl,rfl,trivial⟩ (I.2 ⟨fB,(show jc 6 ak aa a.aJ.ls none 0 []/\jc 3 au af aI X S T/\r8 aP.abs T=g/\jc 2 av ag a.ah.ls Y U h/\(b+1)<=d.bZ.ls.length/\j<=a.gp+(b+1)/\l<=a.aT+(b+1)/\n<=a.aV+(b+1)/\o<=a.bi+(b+1)/\p<=a.bv+(b+1)/\r<=a.aL+(b+1)/\s<=a.aG+(b+1)/\t<=a.bu+(b+1)/\u<=a.xN+(b+1)/\cu a d d.bZ.ls a.fG a.iB a.gp a.aT a.aV a.bi a.bv a.aL a.aG a.bu a.xN a.fZ a.aB.aO a.aB.aS a.aJ.ls a.aQ.ls a.ah.ls=cu a d (r7 (b+1) d.bZ.ls) z B j l n o p r s t u C E F [] g h from ⟨by exact jc.nil,by exact G,by exact J,by exact L,e8,e8,e8,e8,e8,e8,e8,e8,e8,e8,et (M) (et (congrArg (λ q=>cu a d q z B j l n o p r s t u C E F f g h) N) (et (iN P) (et (iN V) (et (iN Z) (et (iN ah) (et (iN ay) (et (iN aC) (et (iN aD) (ip aG)))))))))⟩)⟩) (by show d.bZ.ls.length - (b+1) < d.bZ.ls.length - b; omega)
 refine jF (dF aG) (sr (Kz (.bool (decide (y=8))) (An rfl ?_)))
 by_cases aJ:y=8
 refine jT (dT aJ) (Gq (Kz (vP aF 15) ?_))
 have fC:=O.pf [1]
 refine bY [.bool false] 15 fC Tryz.sizeOf4 ?_
 intro jl fD
 refine v8 (bN (bN (Gs (Gq (fw (vJ (b+1)) (Gw (e:=v7.wrap ((b:Int)+1)) yk f1) (Mz rfl (v8 ?_)))))))
 have fE:=fD.pf [1]
 exact GL (b+1,z,B,j,l,n,o,p,r,s,t,u,false,E,F,W,R,f,X,S,T,g,Y,U,h) ⟨rfl,rfl,rfl,rfl,rfl,trivial⟩ (I.2 ⟨fE,(show jc 6 ak aa a.aJ.ls W R f/\jc 3 au af aI X S T/\r8 aP.abs T=g/\jc 2 av ag a.ah.ls Y U h/\(b+1)<=d.bZ.ls.length/\j<=a.gp+(b+1)/\l<=a.aT+(b+1)/\n<=a.aV+(b+1)/\o<=a.bi+(b+1)/\p<=a.bv+(b+1)/\r<=a.aL+(b+1)/\s<=a.aG+(b+1)/\t<=a.bu+(b+1)/\u<=a.xN+(b+1)/\cu a d d.bZ.ls a.fG a.iB a.gp a.aT a.aV a.bi a.bv a.aL a.aG a.bu a.xN a.fZ a.aB.aO a.aB.aS a.aJ.ls a.aQ.ls a.ah.ls=cu a d (r7 (b+1) d.bZ.ls) z B j l n o p r s t u false E F f g h from ⟨by exact K,by exact G,by exact J,by exact L,e8,e8,e8,e8,e8,e8,e8,e8,e8,e8,et (M) (et (congrArg (λ q=>cu a d q z B j l n o p r s t u C E F f g h) N) (et (iN P) (et (iN V) (et (iN Z) (et (iN ah) (et (iN ay) (et (iN aC) (et (iN aD) (et (iN aG) (ip aJ))))))))))⟩)⟩) (by show d.bZ.ls.length - (b+1) < d.bZ.ls.length - b; omega)
 refine jF (dF aJ) (sr (Kz (.bool (decide (y=9))) (An rfl ?_)))
 by_cases aL:y=9
 refine jT (dT aL) (Gq (Kz (vP aF 10) ?_))
 have fG:=O.pf [1]
 refine bY [.int .u64 0] 10 fG G2 ?_
 intro jm fH
 refine v8 (bN (bN (Gs (Gq (fw (vJ (b+1)) (Gw (e:=v7.wrap ((b:Int)+1)) yk f1) (Mz rfl (v8 ?_)))))))
 have fI:=fH.pf [1]
 exact GL (b+1,z,B,j,l,n,o,0,r,s,t,u,C,E,F,W,R,f,X,S,T,g,Y,U,h) ⟨rfl,rfl,rfl,rfl,rfl,trivial⟩ (I.2 ⟨fI,by exact K,by exact G,by exact J,by exact L,e8,e8,e8,e8,e8,e8,e8,e8,e8,e8,et (M) (et (congrArg (λ q=>cu a d q z B j l n o p r s t u C E F f g h) N) (et (iN P) (et (iN V) (et (iN Z) (et (iN ah) (et (iN ay) (et (iN aC) (et (iN aD) (et (iN aG) (et (iN aJ) (ip aL)))))))))))⟩) (by show d.bZ.ls.length - (b+1) < d.bZ.ls.length - b; omega)
 refine jF (dF aL) (sr (Kz (.bool (decide (y=10))) (An rfl ?_)))
 by_cases aO:y=10
 refine jT (dT aO) (Gq (Kz (vP aF 12) ?_))
 have fJ:=O.pf [1]
 refine bY [.int .u64 0] 12 fJ G2 ?_
 intro jo fK
 refine v8 (bN (bN (Gs (Gq (fw (vJ (b+1)) (Gw (e:=v7.wrap ((b:Int)+1)) yk f1) (Mz rfl (v8 ?_)))))))
 have fM:=fK.pf [1]
 exact GL (b+1,z,B,j,l,n,o,p,r,0,t,u,C,E,F,W,R,f,X,S,T,g,Y,U,h) ⟨rfl,rfl,rfl,rfl,rfl,trivial⟩ (I.2 ⟨fM,by exact K,by exact G,by exact J,by exact L,e8,e8,e8,e8,e8,e8,e8,e8,e8,e8,et (M) (et (congrArg (λ q=>cu a d q z B j l n o p r s t u C E F f g h) N) (et (iN P) (et (iN V) (et (iN Z) (et (iN ah) (et (iN ay) (et (iN aC) (et (iN aD) (et (iN aG) (et (iN aJ) (et (iN aL) (ip aO))))))))))))⟩) (by show d.bZ.ls.length - (b+1) < d.bZ.ls.length - b; omega)
 refine jF (dF aO) (sr (Kz (.bool (decide (y=11))) (An rfl ?_)))
 by_cases aT:y=11
 refine jT (dT aT) (Gq (Kz (vP aF 20) ?_))
 have fO:=O.pf [1]
 refine bY [.slice none 0 0] 20 fO Tryz.sizeOf33 ?_
 intro jq fP
 refine v8 (bN (bN (Gs (Gq (fw (vJ (b+1)) (Gw (e:=v7.wrap ((b:Int)+1)) yk f1) (Mz rfl (v8 ?_)))))))
 have fQ:=fP.pf [1]
 exact GL (b+1,z,B,j,l,n,o,p,r,s,t,u,C,E,F,W,R,f,X,S,T,g,none,0, []) ⟨rfl,rfl,rfl,rfl,rfl,trivial⟩ (I.2 ⟨fQ,(show jc 6 ak aa a.aJ.ls W R f/\jc 3 au af aI X S T/\r8 aP.abs T=g/\jc 2 av ag a.ah.ls none 0 []/\(b+1)<=d.bZ.ls.length/\j<=a.gp+(b+1)/\l<=a.aT+(b+1)/\n<=a.aV+(b+1)/\o<=a.bi+(b+1)/\p<=a.bv+(b+1)/\r<=a.aL+(b+1)/\s<=a.aG+(b+1)/\t<=a.bu+(b+1)/\u<=a.xN+(b+1)/\cu a d d.bZ.ls a.fG a.iB a.gp a.aT a.aV a.bi a.bv a.aL a.aG a.bu a.xN a.fZ a.aB.aO a.aB.aS a.aJ.ls a.aQ.ls a.ah.ls=cu a d (r7 (b+1) d.bZ.ls) z B j l n o p r s t u C E F f g [] from ⟨by exact K,by exact G,by exact J,by exact jc.nil,e8,e8,e8,e8,e8,e8,e8,e8,e8,e8,et (M) (et (congrArg (λ q=>cu a d q z B j l n o p r s t u C E F f g h) N) (et (iN P) (et (iN V) (et (iN Z) (et (iN ah) (et (iN ay) (et (iN aC) (et (iN aD) (et (iN aG) (et (iN aJ) (et (iN aL) (et (iN aO) (ip aT)))))))))))))⟩)⟩) (by show d.bZ.ls.length - (b+1) < d.bZ.ls.length - b; omega)
 refine jF (dF aT) (sr (Kz (.bool (decide (y=12))) (An rfl ?_)))
 by_cases aZ:y=12
 refine jT (dT aZ) (Gq (Kz (vP aF 5) ?_))
 have fT:=O.pf [1]
 refine bY [vI 0] 5 fT Tryz.sizeOf3 ?_
 intro jr fU
 refine v8 (bN (bN (Gs (Gq (fw (vJ (b+1)) (Gw (e:=v7.wrap ((b:Int)+1)) yk f1) (Mz rfl (v8 ?_)))))))
 have fV:=fU.pf [1]
 exact GL (b+1,z,0,j,l,n,o,p,r,s,t,u,C,E,F,W,R,f,X,S,T,g,Y,U,h) ⟨rfl,rfl,rfl,rfl,rfl,trivial⟩ (I.2 ⟨fV,by exact K,by exact G,by exact J,by exact L,e8,e8,e8,e8,e8,e8,e8,e8,e8,e8,et (M) (et (congrArg (λ q=>cu a d q z B j l n o p r s t u C E F f g h) N) (et (iN P) (et (iN V) (et (iN Z) (et (iN ah) (et (iN ay) (et (iN aC) (et (iN aD) (et (iN aG) (et (iN aJ) (et (iN aL) (et (iN aO) (et (iN aT) (ip aZ))))))))))))))⟩) (by show d.bZ.ls.length - (b+1) < d.bZ.ls.length - b; omega)
 refine jF (dF aZ) (sr (Kz (.bool (decide (y=13))) (An rfl ?_)))
 by_cases bf:y=13
 refine jT (dT bf) (Gq (Kz (.agg #[.string ⟨u3 []⟩, .string ⟨u3 []⟩]) (Kz (vP aF 16) ?_)))
 have fZ:=O.pf [1]
 refine bY [.string ⟨u3 []⟩, .string ⟨u3 []⟩] 16 fZ Tryz.sizeOf37 ?_
 intro jv gm
 refine v8 (bN (bN (Gs (Gq (fw (vJ (b+1)) (Gw (e:=v7.wrap ((b:Int)+1)) yk f1) (Mz rfl (v8 ?_)))))))
 have gp:=gm.pf [1]
 exact GL (b+1,z,B,j,l,n,o,p,r,s,t,u,C, [], [],W,R,f,X,S,T,g,Y,U,h) ⟨rfl,rfl,rfl,rfl,rfl,trivial⟩ (I.2 ⟨gp,(show jc 6 ak aa a.aJ.ls W R f/\jc 3 au af aI X S T/\r8 aP.abs T=g/\jc 2 av ag a.ah.ls Y U h/\(b+1)<=d.bZ.ls.length/\j<=a.gp+(b+1)/\l<=a.aT+(b+1)/\n<=a.aV+(b+1)/\o<=a.bi+(b+1)/\p<=a.bv+(b+1)/\r<=a.aL+(b+1)/\s<=a.aG+(b+1)/\t<=a.bu+(b+1)/\u<=a.xN+(b+1)/\cu a d d.bZ.ls a.fG a.iB a.gp a.aT a.aV a.bi a.bv a.aL a.aG a.bu a.xN a.fZ a.aB.aO a.aB.aS a.aJ.ls a.aQ.ls a.ah.ls=cu a d (r7 (b+1) d.bZ.ls) z B j l n o p r s t u C [] [] f g h from ⟨by exact K,by exact G,by exact J,by exact L,e8,e8,e8,e8,e8,e8,e8,e8,e8,e8,et (M) (et (congrArg (λ q=>cu a d q z B j l n o p r s t u C E F f g h) N) (et (iN P) (et (iN V) (et (iN Z) (et (iN ah) (et (iN ay) (et (iN aC) (et (iN aD) (et (iN aG) (et (iN aJ) (et (iN aL) (et (iN aO) (et (iN aT) (et (iN aZ) (ip bf)))))))))))))))⟩)⟩) (by show d.bZ.ls.length - (b+1) < d.bZ.ls.length - b; omega)
 refine jF (dF bf) (sr (Kz (.bool (decide (y=14))) (An rfl ?_)))
 by_cases bv:y=14
 refine jT (dT bv) (Gq (Kz (vP aF 13) ?_))
 have gq:=O.pf [1]
 refine bY [.int .u64 0] 13 gq G2 ?_
 intro jw gu
 refine v8 (bN (bN (Gs (Gq (fw (vJ (b+1)) (Gw (e:=v7.wrap ((b:Int)+1)) yk f1) (Mz rfl (v8 ?_)))))))
 have gy:=gu.pf [1]
 exact GL (b+1,z,B,j,l,n,o,p,r,s,0,u,C,E,F,W,R,f,X,S,T,g,Y,U,h) ⟨rfl,rfl,rfl,rfl,rfl,trivial⟩ (I.2 ⟨gy,by exact K,by exact G,by exact J,by exact L,e8,e8,e8,e8,e8,e8,e8,e8,e8,e8,et (M) (et (congrArg (λ q=>cu a d q z B j l n o p r s t u C E F f g h) N) (et (iN P) (et (iN V) (et (iN Z) (et (iN ah) (et (iN ay) (et (iN aC) (et (iN aD) (et (iN aG) (et (iN aJ) (et (iN aL) (et (iN aO) (et (iN aT) (et (iN aZ) (et (iN bf) (ip bv))))))))))))))))⟩) (by show d.bZ.ls.length - (b+1) < d.bZ.ls.length - b; omega)
 refine jF (dF bv) (sr (Kz (.bool (decide (y=15))) (An rfl ?_)))
 by_cases bB:y=15
 refine jT (dT bB) (Gq (Kz (vP aF 14) ?_))
 have gz:=O.pf [1]
 refine bY [.int .u64 0] 14 gz G2 ?_
 intro jy gB
 refine v8 (bN (bN (Gs (Gq (fw (vJ (b+1)) (Gw (e:=v7.wrap ((b:Int)+1)) yk f1) (Mz rfl (v8 ?_)))))))
 have gD:=gB.pf [1]
 exact GL (b+1,z,B,j,l,n,o,p,r,s,t,0,C,E,F,W,R,f,X,S,T,g,Y,U,h) ⟨rfl,rfl,rfl,rfl,rfl,trivial⟩ (I.2 ⟨gD,by exact K,by exact G,by exact J,by exact L,e8,e8,e8,e8,e8,e8,e8,e8,e8,e8,et (M) (et (congrArg (λ q=>cu a d q z B j l n o p r s t u C E F f g h) N) (et (iN P) (et (iN V) (et (iN Z) (et (iN ah) (et (iN ay) (et (iN aC) (et (iN aD) (et (iN aG) (et (iN aJ) (et (iN aL) (et (iN aO) (et (iN aT) (et (iN aZ) (et (iN bf) (et (iN bv) (ip bB)))))))))))))))))⟩) (by show d.bZ.ls.length - (b+1) < d.bZ.ls.length - b; omega)
 refine jF (dF bB) (G7 (bN (bN (Gs (Gq (fw (vJ (b+1)) (Gw (e:=v7.wrap ((b:Int)+1)) yk f1) (Mz rfl (v8 ?_))))))))
 have gF:=O.pf []
 exact GL (b+1,z,B,j,l,n,o,p,r,s,t,u,C,E,F,W,R,f,X,S,T,g,Y,U,h) ⟨rfl,rfl,rfl,rfl,rfl,trivial⟩ (I.2 ⟨gF,by exact K,by exact G,by exact J,by exact L,e8,e8,e8,e8,e8,e8,e8,e8,e8,e8,et (M) (et (congrArg (λ q=>cu a d q z B j l n o p r s t u C E F f g h) N) (et (iN P) (et (iN V) (et (iN Z) (et (iN ah) (et (iN ay) (et (iN aC) (et (iN aD) (et (iN aG) (et (iN aJ) (et (iN aL) (et (iN aO) (et (iN aT) (et (iN aZ) (et (iN bf) (et (iN bv) (iN bB)))))))))))))))))⟩) (by show d.bZ.ls.length - (b+1) < d.bZ.ls.length - b; omega)
 refine jF (dF cO) (Wp.exit (GK ?_))
 have aQ:cu a d d.bZ.ls a.fG a.iB a.gp a.aT a.aV a.bi a.bv a.aL a.aG a.bu a.xN a.fZ a.aB.aO a.aB.aS a.aJ.ls a.aQ.ls a.ah.ls=(z,B,j,l,n,o,p,r,s,t,u,C,E,F,f,g,h):=et (M) (et (congrArg (λ q=>cu a d q z B j l n o p r s t u C E F f g h) (eP (ls:=d.bZ.ls) (i:=b) e8)) rfl)
 refine GK (GR (Gs (sr (La (ic a.az a.iO a.jD a.gJ z B j l n o p r s t u C E F W f.length R X g.length S Y h.length U) O 1 G0 G1 ?_))))
 refine bY (ic a.az a.iO a.jD a.gJ z B j l n o p r s t u C E F W f.length R X g.length S Y h.length U) 0 O G1 ?_
 intro jA df
 refine nt (rt (GM (oK rfl rfl (GJ (cs:=(ic a.az a.iO a.jD a.gJ z B j l n o p r s t u C E F W f.length R X g.length S Y h.length U)) G0 G1 ((df.cls (i:=0) rfl).lit (k:=0) (m:=21) rfl))) ?_))
 obtain⟨bC,aM⟩:∃ q,uN (dM.mk a.az a.iO a.jD a.gJ z B j l n o p r s t u C (aj.mk E F) (D4 f) (D4 g) (D4 h))=q:=⟨_,rfl⟩
 obtain⟨jB,dz,bq,dA,iP⟩:=Gr df
 refine nQ (cn aB) Tryz.call47 (zw _ _ (dM.mk a.az a.iO a.jD a.gJ z B j l n o p r s t u C (aj.mk E F) (D4 f) (D4 g) (D4 h)) W f.length R X g.length S T Y h.length U bC dz rfl (λ w9 h9=>jc.rds aY.len f5 K ((bq _ bH) w9 h9)) e8 J rfl (λ w9 h9=>BP (aW J) (jc.rds aP.len f5 G (BP (aW bg).symm ((bq _ bI) w9 h9)))) e8 (λ x9 h9=>⟨bq _ ((λ x9 h9=>bi x9 (Jj G h9)) x9 h9).1,((λ x9 h9=>bi x9 (Jj G h9)) x9 h9).2⟩) rfl (λ w9 h9=>jc.rds bL.len f5 L ((bq _ bJ) w9 h9)) e8 f8 aM) ?_
 rintro _ jC ⟨rfl,dB⟩
 have bD:=dA _ _ dB
 refine Gz (.bool (!bC)) (cn aB) (fw (.bool (!bC)) (Gm rfl (cn aB) rfl) (Mz rfl ?_))
 rcases Kq (bC) with Q | Q
 refine Ga (lN a ak aa au af av ag) (cn Q) bD 4 G0 G1 (Gz (vP bz 2) (cn Q) (Gl (.slice aX d.bZ.ls.length bn) (cn Q) bD 2 Tryz.isAgg122 ?_))
 obtain⟨bE,aR⟩:∃ q,rC a d.bZ.ls=q:=⟨_,rfl⟩
 obtain⟨jD,dC,bu,dD,dE⟩:=Gr bD
 refine nQ (cn Q) Tryz.call49 (yM _ _ a ak a.aJ.ls.length aa au a.aQ.ls.length af aI av a.ah.ls.length ag aX d.bZ.ls.length bn d.bZ.ls bE dC rfl (bu _ bH) e8 bg rfl (bu _ bI) e8 (λ x9 h9=>⟨bu _ (bi x9 h9).1,(bi x9 h9).2⟩) rfl (bu _ bJ) e8 (dE _ 3 _ rfl bQ) rfl e8 f8 aR) ?_
 rintro _ jE ⟨rfl,dH⟩
 have dh:=dD _ _ dH
 refine Gz (.bool (!bE)) (cn Q) (fw (.bool (!bE)) (Gm rfl (cn Q) rfl) (nt ?_))
 rcases Kq (bE) with aU | aU
 refine jF (cn aU) (sk (Gp (Gp ?_)))
 have aV:=dh.pk [2,3,4]
 refine Gq (Kz (vP bz 0) (Lz (vI d.mO) aV 0 F2 (Kz (.bool (decide (d.mO=1))) (Mz rfl ?_))))
 by_cases aH:d.mO=1
 refine Gz (vP bz 1) (dT aH) (Gl (vI d.qQ) (dT aH) aV 0 F2 (Gz (.bool (decide (d.qQ=1))) (dT aH) (fw (.bool (decide (d.qQ=1))) (Gu rfl (dT aH) rfl) (Mz rfl ?_))))
 by_cases az:d.qQ=1
 refine Gz (vP bG 1) (dT az) (Gl (vI a.iO) (dT az) aV 2 v5 (Gz (vP bG 2) (dT az) (Gl (vI a.jD) (dT az) aV 2 v5 (Gz (.bool (decide (a.iO=a.jD))) (dT az) (fw (.bool (decide (a.iO=a.jD))) (Gu rfl (dT az) rfl) (nt ?_))))))
 by_cases bF:a.iO=a.jD
 refine jT (dT bF) (Gp ?_)
 have gH:=aV.pk []
 refine Gq (An rfl (rt (tR (rs ?_))))
 have gI:=gH.pk []
 obtain rfl:=zj hr zq14
 exact⟨rfl,gI⟩
 refine jF (dF bF) (sk (Gp ?_))
 have gJ:=aV.pk []
 refine Gq (An rfl (rt (rs ?_)))
 have gK:=gJ.pk []
 obtain rfl:=zj hr zq14
 exact⟨rfl,gK⟩
 refine Sz (dF az) (Sz (dF az) (Sz (dF az) (Sz (dF az) (Sz (dF az) (fw (.bool false) (Gm rfl (dF az) rfl) (nt (jf (sk (Gp ?_)))))))))
 have gL:=aV.pk []
 refine Gq (An rfl (rt (rs ?_)))
 have gM:=gL.pk []
 obtain rfl:=zj hr zq13
 exact⟨rfl,gM⟩
 refine Sz (dF aH) (Sz (dF aH) (Sz (dF aH) (fw (.bool false) (Gm rfl (dF aH) rfl) (Mz rfl (Sz rfl (Sz rfl (Sz rfl (Sz rfl (Sz rfl (fw (.bool false) (Gm rfl rfl rfl) (nt (jf (sk (Gp ?_))))))))))))))
 have gN:=aV.pk []
 refine Gq (An rfl (rt (rs ?_)))
 have gP:=gN.pk []
 obtain rfl:=zj hr zq12
 exact⟨rfl,gP⟩
 refine jT (cn aU) (Gp ?_)
 have gQ:=dh.pk [2,3,4]
 refine Gq (An rfl (rt (tR (rs ?_))))
 have gT:=gQ.pk []
 obtain rfl:=zj hr zq11
 exact⟨rfl,gT⟩
 refine Sz (cn Q) (Sz (cn Q) (Sz (cn Q) (Sz (cn Q) (Sz (cn Q) (fw (.bool true) (Gu rfl (cn Q) rfl) (nt (jt (Gp ?_))))))))
 have gU:=bD.pk [2,3,4]
 refine Gq (An rfl (rt (tR (rs ?_))))
 have gV:=gU.pk []
 obtain rfl:=zj hr zq9
 exact⟨rfl,gV⟩
 refine Sz (cn aB) (Sz (cn aB) (Sz (cn aB) (Sz (cn aB) (Sz (cn aB) (Sz (cn aB) (fw (.bool true) (Gu rfl (cn aB) rfl) (Mz rfl (Sz rfl (Sz rfl (Sz rfl (Sz rfl (Sz rfl (fw (.bool true) (Gu rfl rfl rfl) (nt (jt (sr (An rfl (rt (tR (rs ?_))))))))))))))))))))
 have gW:=bV.pk []
 obtain rfl:=zj hr zq6
 exact⟨rfl,gW⟩
 refine Sz (cn ax) (Sz (cn ax) (Sz (cn ax) (Sz (cn ax) (Sz (cn ax) (Sz (cn ax) (fw (.bool true) (Gu rfl (cn ax) rfl) (Mz rfl (Sz rfl (Sz rfl (Sz rfl (Sz rfl (Sz rfl (Sz rfl (fw (.bool true) (Gu rfl rfl rfl) (Mz rfl (Sz rfl (Sz rfl (Sz rfl (Sz rfl (Sz rfl (fw (.bool true) (Gu rfl rfl rfl) (nt (jt (sr (An rfl (rt (tR (rs ?_))))))))))))))))))))))))))))
 have gX:=bT.pk []
 obtain rfl:=zj hr zq4
 exact⟨rfl,gX⟩
 refine Sz (cn ai) (Sz (cn ai) (Sz (cn ai) (Sz (cn ai) (Sz (cn ai) (Sz (cn ai) (fw (.bool true) (Gu rfl (cn ai) rfl) (Mz rfl (Sz rfl (Sz rfl (Sz rfl (Sz rfl (Sz rfl (Sz rfl (fw (.bool true) (Gu rfl rfl rfl) (Mz rfl (Sz rfl (Sz rfl (Sz rfl (Sz rfl (Sz rfl (Sz rfl (fw (.bool true) (Gu rfl rfl rfl) (Mz rfl (Sz rfl (Sz rfl (Sz rfl (Sz rfl (Sz rfl (fw (.bool true) (Gu rfl rfl rfl) (nt (jt (sr (An rfl (rt (tR ?_)))))))))))))))))))))))))))))))))))
 refine rs ?_
 have gY:=bP.pk []
 obtain rfl:=zj hr zq2
 exact⟨rfl,gY⟩
end
section
open Go.RowKit
def rW (c:List bL) (d:Int):aj:=
 bnd (List.getD c (E0 d) default) λ a=>if d+1 < (c.length:Int) then bnd (List.getD c (E0 (d+1)) default) λ b=>aj.mk a.aO b.aO else aj.mk a.aO []
theorem xq (w D h s E j b) (C:aj) (H:Own w D w []) (c:Ro w D λ w'=>bM w' 2 h s (List.flatMap bL.cells j)) (t:s=j.length) (F:j.length *24<=211106232532992) (G:0<=b/\b < ((j.length:Nat):Int)) (hr:rW j b=C):
    Calls u2 147 #[.slice h s E,vI b] w (dG λ v w'=>v= .agg (aj.cells C).toArray/\Own w D w' []):=by
 unfold rW at hr
 subst t
 refine cb Tryz.func147 ?_
 refine sr ?_
 refine bW [.string ⟨u3 []⟩, .string ⟨u3 []⟩] 37 H ?_
 intro I J l
 refine ns (Mz rfl (fw (vJ (E0 b)) (Gw (e:=b) (Gv rfl) e8) ?_))
 obtain⟨a,g⟩:=dI (ls:=j) (i:=E0 b) bL.len f5 (l.ro c) f2
 refine fw (.pointer (some ⟨ab h,ao h+(E0 b) *2,none⟩)) (GI (sS) rfl rfl ((l.ro c).addr (i:=E0 b) e8) e8) (Kz (.pointer (some ⟨ab h,ao h+(E0 b) *2,none⟩)) (fw (.string ⟨u3 a.aO⟩) (GH rfl (bS.one v3 (((l.ro c).elem bL.len g f5).at_ (k:=0) rfl))) (Kz (.agg #[.string ⟨u3 a.aO⟩, .string ⟨u3 []⟩]) ?_)))
 refine bW [.string ⟨u3 []⟩, .string ⟨u3 []⟩] 37 l ?_
 intro u K x
 refine bY [.string ⟨u3 a.aO⟩, .string ⟨u3 []⟩] 0 x B4 ?_
 intro L d
 refine nt (Gp (sr (Mz rfl (fw (vI (b+1)) (Gw (e:=v7.wrap (b+1)) yk i4) (Mz rfl (Kz (vJ j.length) (Kz (.bool (decide (b+1 < (j.length:Int)))) (nt ?_))))))))
 by_cases n:b+1 < (j.length:Int)
 refine jT (dT n) (Gq (Mz rfl (Mz rfl (fw (vJ (E0 (b+1))) (Gw (e:=v7.wrap (b+1)) yk f1) ?_))))
 obtain⟨f,o⟩:=dI (ls:=j) (i:=E0 (b+1)) bL.len f5 (d.ro c) f2
 refine fw (.pointer (some ⟨ab h,ao h+(E0 (b+1)) *2,none⟩)) (GI (sS) rfl rfl ((d.ro c).addr (i:=E0 (b+1)) e8) e8) (Kz (.pointer (some ⟨ab h,ao h+(E0 (b+1)) *2,none⟩)) (fw (.string ⟨u3 f.aO⟩) (GH rfl (bS.one v3 (((d.ro c).elem bL.len o f5).at_ (k:=0) rfl))) (Kz (vP u 1) ?_)))
 refine bY [.string ⟨u3 f.aO⟩] 1 d Tryz.sizeOf9 ?_
 intro M p
 refine ns (La ([.string ⟨u3 a.aO⟩, .string ⟨u3 f.aO⟩]) p 0 B5 B4 ?_)
 have y:=p.pb [0]
 refine bY [.string ⟨u3 a.aO⟩, .string ⟨u3 f.aO⟩] 0 y B4 ?_
 intro N q
 refine nt (rt (GM (oK rfl rfl (GJ (cs:= [.string ⟨u3 a.aO⟩, .string ⟨u3 f.aO⟩]) B5 B4 ((q.cls (i:=0) rfl).lit (k:=0) (m:=2) rfl))) ?_))
 have z:=q.pk []
 obtain rfl:=zj hr zq3
 exact⟨rfl,z⟩
 refine jF (dF n) (sk (sr (La ([.string ⟨u3 a.aO⟩, .string ⟨u3 []⟩]) d 0 B5 B4 ?_)))
 have A:=d.pb [0]
 refine bY [.string ⟨u3 a.aO⟩, .string ⟨u3 []⟩] 0 A B4 ?_
 intro O r
 refine nt (rt (GM (oK rfl rfl (GJ (cs:= [.string ⟨u3 a.aO⟩, .string ⟨u3 []⟩]) B5 B4 ((r.cls (i:=0) rfl).lit (k:=0) (m:=2) rfl))) ?_))
 have B:=r.pk []
 obtain rfl:=zj hr zq2
 exact⟨rfl,B⟩
def rX (a:List UInt8) (b:List UInt8):(List UInt8):=
 if a=[] then b else if b≠[] then if b < a then b else a else a
theorem xu (w D d c k) (H:Own w D w []) (hr:rX d c=k):
    Calls u2 193 #[.string ⟨u3 d⟩, .string ⟨u3 c⟩] w (dG λ v w'=>v= .string ⟨u3 k⟩/\Own w D w' []):=by
 unfold rX at hr
 refine cb Tryz.func193 ?_
 refine sr (An rfl (Gp (sr (Mz rfl (fw (.bool (decide (d=[]))) (Ir rfl rfl) (Mz rfl ?_))))))
 by_cases a:d=[]
 refine Sz (dT a) (Sz (dT a) (Sz (dT a) (GA rfl rfl rfl (GA rfl rfl rfl (GA rfl rfl rfl (Sz (dT a) (fw (.bool true) (Gu rfl (dT a) rfl) (nt (jt (sr (Mz rfl (An rfl (rt (tR (rs ?_)))))))))))))))
 have g:=H.pk []
 obtain rfl:=zj hr zq1
 exact⟨rfl,g⟩
 refine gw (.string ⟨u3 c⟩) (dF a) (Gv rfl) (gw (.bool (decide (c≠[]))) (dF a) (Hr rfl rfl) (gw (.bool (decide (c≠[]))) (dF a) (Gv rfl) ?_))
 by_cases b:c≠[]
 refine gw (.string ⟨u3 c⟩) (dT b) (Gv rfl) (gw (.string ⟨u3 d⟩) (dT b) (Gv rfl) (gw (.bool (decide (c < d))) (dT b) (GN (e:=Op.bytesLess c d) (I4 rfl rfl) (xS _ _)) (gw (.bool (decide (c < d))) (dF a) (Gu rfl (dT b) rfl) (fw (.bool (decide (c < d))) (Gm rfl (dF a) rfl) (nt ?_)))))
 by_cases f:c < d
 refine jT (dT f) (sr (Mz rfl (An rfl (rt (tR (rs ?_))))))
 have h:=H.pk []
 obtain rfl:=zj hr zq3
 exact⟨rfl,h⟩
 refine jF (dF f) (sk (sr (Mz rfl (An rfl (rt (rs ?_))))))
 have i:=H.pk []
 obtain rfl:=zj hr zq3
 exact⟨rfl,i⟩
 refine Sz (dF b) (Sz (dF b) (Sz (dF b) (gw (.bool false) (dF a) (Gm rfl (dF b) rfl) (fw (.bool false) (Gm rfl (dF a) rfl) (nt (jf (sk (sr (Mz rfl (An rfl (rt (rs ?_))))))))))))
 have j:=H.pk []
 obtain rfl:=zj hr zq2
 exact⟨rfl,j⟩
def uO (b:List UInt8) (a:List UInt8):Bool:=
 if a=[] then true else decide (b < a)
theorem zx (w D c b g) (H:Own w D w []) (hr:uO c b=g):
    Calls u2 194 #[.string ⟨u3 c⟩, .string ⟨u3 b⟩] w (dG λ v w'=>v= .bool g/\Own w D w' []):=by
 unfold uO at hr
 refine cb Tryz.func194 ?_
 refine sr (Ar rfl (Mz rfl (fw (.bool (decide (b=[]))) (Ir rfl rfl) (Mz rfl ?_))))
 by_cases a:b=[]
 refine Sz (dT a) (Sz (dT a) (Sz (dT a) (fw (.bool true) (Gu rfl (dT a) rfl) (An rfl (rt (rs ?_))))))
 have d:=H.pk []
 obtain rfl:=zj hr zq1
 exact⟨rfl,d⟩
 refine gw (.string ⟨u3 c⟩) (dF a) (Gv rfl) (gw (.string ⟨u3 b⟩) (dF a) (Gv rfl) (gw (.bool (decide (c < b))) (dF a) (GN (e:=Op.bytesLess c b) (I4 rfl rfl) (xS _ _)) (fw (.bool (decide (c < b))) (Gm rfl (dF a) rfl) (An rfl (rt (rs ?_))))))
 have f:=H.pk []
 obtain rfl:=zj hr zq1
 exact⟨rfl,f⟩
def kF (e:aj) (f:aj):aj × Bool:=
 bnd (dW e) λ b=>if b=0 then bnd (dW f) λ c=>if c=0 then bnd (rX e.aS f.aS) λ a=>bnd (uO (pu e.aO f.aO) a) λ d=>if d=true then(aj.mk (pu e.aO f.aO) a,true) else(aj.mk [] [],false) else(aj.mk [] [],false) else(aj.mk [] [],false)
theorem oU (w D) (d:aj) (c:aj) (r0:aj) (r1) (H:Own w D w []) (hr:kF d c=(r0,r1)):
    Calls u2 152 #[.agg (aj.cells d).toArray, .agg (aj.cells c).toArray] w (dG λ v w'=>v= .tuple #[.agg (aj.cells r0).toArray, .bool r1]/\Own w D w' []):=by
 unfold kF at hr
 refine cb Tryz.func152 ?_
 refine sr ?_
 refine bW (aj.cells d) 37 H ?_
 intro B aQ Z
 refine bW (aj.cells c) 37 Z ?_
 intro C aR aa
 refine bW [.string ⟨u3 []⟩, .string ⟨u3 []⟩] 37 aa ?_
 intro aS aT E
 refine An rfl (Gp (sr (La (aj.cells d) E 2 B5 B4 ?_)))
 obtain⟨s,f⟩:∃ q,dW d=q:=⟨_,rfl⟩
 obtain⟨aU,F,aH,G,aI⟩:=Gr E
 refine cl Tryz.call65 (iX _ _ d s F f) ?_
 rintro _ aV ⟨rfl,I⟩
 have x:=G _ _ I
 refine fw (.bool (decide (¬ (s=0)))) (GN (e:= !(decide (s=0))) yk decide_not.symm) (Mz rfl ?_)
 by_cases a:s=0
 refine gw (.agg (aj.cells c).toArray) (dF (Ko a)) (GH rfl (GJ (cs:=(aj.cells c)) B5 B4 ((x.cls (i:=1) rfl).lit (k:=0) (m:=2) rfl))) ?_
 obtain⟨h,g⟩:∃ q,dW c=q:=⟨_,rfl⟩
 obtain⟨aW,J,aJ,K,aK⟩:=Gr x
 refine nQ (dF (Ko a)) Tryz.call65 (iX _ _ c h J g) ?_
 rintro _ aX ⟨rfl,L⟩
 have M:=K _ _ L
 refine gw (.bool (decide (¬ (h=0)))) (dF (Ko a)) (GN (e:= !(decide (h=0))) yk decide_not.symm) (fw (.bool (decide (¬ (h=0)))) (Gm rfl (dF (Ko a)) rfl) (nt ?_))
 by_cases j:h=0
 refine jF (dF (Ko j)) (sk (Gp ?_))
 refine xX [] (GD GQ) M ?_
 intro aY af
 refine qp B 0 0 rfl (ql 1 rfl 2 v3 rfl rfl rfl (qp C 0 2 rfl (ql 3 rfl 1 v3 rfl rfl rfl (qt (v:= .string ⟨u3 (pu d.aO c.aO)⟩) 4 rfl (λ _ _=>Jy rfl) (qp B 1 5 rfl (ql 6 rfl 2 v3 rfl rfl rfl (qp C 1 7 rfl (ql 8 rfl 1 v3 rfl rfl rfl ?_))))))))
 obtain⟨b,l⟩:∃ q,rX d.aS c.aS=q:=⟨_,rfl⟩
 refine Fw ⟨9,_,_,_,_,_,Unit,λ N=> .string ⟨u3 b⟩,λ _=>True,λ N=> []⟩ ⟨11,_,_,_,_,_,Nat,λ N=>vP N 0,λ _=>True,λ N=> [blk N [.string ⟨u3 []⟩, .string ⟨u3 []⟩] 37]⟩ 10 3 af ⟨⟨rfl,rfl,rfl, ?_⟩,⟨rfl,rfl,rfl, ?_⟩,trivial⟩ rfl ?_
 intro aZ L' ag
 refine(Jp (cs:= [.string ⟨u3 []⟩, .string ⟨u3 []⟩]) (t:=37) ag rfl rfl (λ _=>by kernel_rfl) ?_)
 intro n bf ah
 exact⟨n,rfl,trivial,ah⟩
 intro bg L' ai
 obtain⟨bi,O,aL,P,aM⟩:=Gr ai
 refine(GV Tryz.call193 rfl (xu _ _ d.aS c.aS b O l) ?_)
 rintro _ bn ⟨rfl,Q⟩
 have ak:=P _ _ Q
 exact⟨(),rfl,trivial,ak⟩
 rintro ⟨⟩ _
 refine⟨.agg #[.string ⟨u3 (pu d.aO c.aO)⟩, .string ⟨u3 b⟩],λ _=>yk, ?_⟩
 rintro n _
 intro au av
 have ax:Own w D au (blk n [.string ⟨u3 []⟩, .string ⟨u3 []⟩] 37::_):=av.flat.pf []
 have ay:=ax.pb [0]
 have az:=ay.pf [3]
 refine qe 12 rfl (Do.store (vs:= [.string ⟨u3 (pu d.aO c.aO)⟩, .string ⟨u3 b⟩]) (o:=0) az rfl rfl B4 rfl rfl rfl rfl ?_)
 intro bq aA
 have R:=aA.pb [0]
 refine⟨.inr ⟨_,R⟩, ?_⟩
 refine qn (Gs (Gp (Gp ?_)))
 have y:=R.pk [0,3]
 refine Gq (Kz (vP n 0) (Lz (.string ⟨u3 (pu d.aO c.aO)⟩) y 1 v3 (Kz (vP n 1) (Lz (.string ⟨u3 b⟩) y 1 v3 ?_))))
 obtain⟨z,p⟩:∃ q,uO (pu d.aO c.aO) b=q:=⟨_,rfl⟩
 obtain⟨bu,S,aN,T,aO⟩:=Gr y
 refine cl Tryz.call194 (zx _ _ (pu d.aO c.aO) b z S p) ?_
 rintro _ bv ⟨rfl,U⟩
 have A:=T _ _ U
 refine Kz (.bool (!z)) (nt ?_)
 rcases Kq (z) with r | r
 refine jF (cn r) (sk (sr (La ([.string ⟨u3 (pu d.aO c.aO)⟩, .string ⟨u3 b⟩]) A 1 B5 B4 ?_)))
 refine bY [.string ⟨u3 (pu d.aO c.aO)⟩, .string ⟨u3 b⟩] 0 A B4 ?_
 intro bz V
 refine An rfl (rt (GM (fK (vs:= [.agg #[.string ⟨u3 (pu d.aO c.aO)⟩, .string ⟨u3 b⟩], .bool true]) rfl (bT.cell rfl (GJ (cs:= [.string ⟨u3 (pu d.aO c.aO)⟩, .string ⟨u3 b⟩]) B5 B4 ((V.cls (i:=0) rfl).lit (k:=0) (m:=2) rfl)) (bT.tmp rfl bT.nil)) (Kk rfl)) ?_))
 have aB:=V.pk []
 obtain⟨rfl,rfl⟩:=fC (zj hr zq7)
 exact⟨rfl,aB⟩
 refine jT (cn r) (sr (Kz (.agg #[.string ⟨u3 []⟩, .string ⟨u3 []⟩]) ?_))
 refine bY [.string ⟨u3 []⟩, .string ⟨u3 []⟩] 0 A B4 ?_
 intro bA W
 refine An rfl (rt (tR (GM (fK (vs:= [.agg #[.string ⟨u3 []⟩, .string ⟨u3 []⟩], .bool false]) rfl (bT.cell rfl (GJ (cs:= [.string ⟨u3 []⟩, .string ⟨u3 []⟩]) B5 B4 ((W.cls (i:=0) rfl).lit (k:=0) (m:=2) rfl)) (bT.tmp rfl bT.nil)) (Kk rfl)) ?_)))
 have aC:=W.pk []
 obtain⟨rfl,rfl⟩:=fC (zj hr zq7)
 exact⟨rfl,aC⟩
 refine jT (dT j) (sr (Kz (.agg #[.string ⟨u3 []⟩, .string ⟨u3 []⟩]) ?_))
 refine bY [.string ⟨u3 []⟩, .string ⟨u3 []⟩] 0 M B4 ?_
 intro bB X
 refine An rfl (rt (tR (GM (fK (vs:= [.agg #[.string ⟨u3 []⟩, .string ⟨u3 []⟩], .bool false]) rfl (bT.cell rfl (GJ (cs:= [.string ⟨u3 []⟩, .string ⟨u3 []⟩]) B5 B4 ((X.cls (i:=0) rfl).lit (k:=0) (m:=2) rfl)) (bT.tmp rfl bT.nil)) (Kk rfl)) ?_)))
 have aD:=X.pk []
 obtain⟨rfl,rfl⟩:=fC (zj hr zq4)
 exact⟨rfl,aD⟩
 refine Sz (dT a) (Sz (dT a) (Sz (dT a) (fw (.bool true) (Gu rfl (dT a) rfl) (nt (jt (sr (Kz (.agg #[.string ⟨u3 []⟩, .string ⟨u3 []⟩]) ?_)))))))
 refine bY [.string ⟨u3 []⟩, .string ⟨u3 []⟩] 0 x B4 ?_
 intro aP u
 refine An rfl (rt (tR (GM (fK (vs:= [.agg #[.string ⟨u3 []⟩, .string ⟨u3 []⟩], .bool false]) rfl (bT.cell rfl (GJ (cs:= [.string ⟨u3 []⟩, .string ⟨u3 []⟩]) B5 B4 ((u.cls (i:=0) rfl).lit (k:=0) (m:=2) rfl)) (bT.tmp rfl bT.nil)) (Kk rfl)) ?_)))
 have Y:=u.pk []
 obtain⟨rfl,rfl⟩:=fC (zj hr zq2)
 exact⟨rfl,Y⟩
def pU (c:aj) (b:aj):Bool:=
 bnd (kF c b) λ a=>if a.2=true then decide ((a.1.aO=b.aO)/\(a.1.aS=b.aS)) else false
theorem uA (w D) (h:aj) (c:aj) (s) (H:Own w D w []) (hr:pU h c=s):
    Calls u2 117 #[.agg (aj.cells h).toArray, .agg (aj.cells c).toArray] w (dG λ v w'=>v= .bool s/\Own w D w' []):=by
 unfold pU at hr
 refine cb Tryz.func117 ?_
 refine sr ?_
 refine bW (aj.cells h) 37 H ?_
 intro y z l
 refine bW (aj.cells c) 37 l ?_
 intro A B f
 refine Ar rfl (La (aj.cells h) f 1 B5 B4 (La (aj.cells c) f 0 B5 B4 ?_))
 obtain⟨⟨a,g⟩,d⟩:∃ q:aj × Bool,kF h c=q:=⟨_,rfl⟩
 obtain⟨C,i,t,j,x⟩:=Gr f
 refine cl Tryz.call152 (oU _ _ h c a g i d) ?_
 rintro _ E ⟨rfl,k⟩
 have m:=j _ _ k
 refine Mz rfl (Kz (.agg (aj.cells a).toArray) (Kz (.bool g) ?_))
 refine bW [.string ⟨u3 []⟩, .string ⟨u3 []⟩] 37 m ?_
 intro F G n
 refine bY (aj.cells a) 0 n B4 ?_
 intro I o
 refine An rfl (Gp ?_)
 have e:=o.pk [0,1]
 refine Gq (Mz rfl (Mz rfl ?_))
 rcases Kq (g) with b | b
 refine Ga (aj.cells a) b e 0 B5 B4 (Ga (aj.cells c) b e 1 B5 B4 (Hm (v:= .bool (decide ((a.aO=c.aO)/\(a.aS=c.aS)))) rfl rfl b rfl (Ji rfl rfl e9 rfl (fI.struct Tryz.underlying37 e9 (HV (fe.cons (u:= .string ⟨u3 a.aO⟩) (v:= .string ⟨u3 c.aO⟩) f5 (λ _=>by kernel_rfl) (λ _=>by kernel_rfl) (fI.string u5) (fe.cons (u:= .string ⟨u3 a.aS⟩) (v:= .string ⟨u3 c.aS⟩) f5 (λ _=>by kernel_rfl) (λ _=>by kernel_rfl) (fI.string u5) (fe.nil.up (Km _)))) ((congrArg (decide (a.aO=c.aO) && ·) kz).trans fo)))) (fw (.bool (decide ((a.aO=c.aO)/\(a.aS=c.aS)))) (Gu rfl b rfl) (An rfl (rt (rs ?_))))))
 have p:=e.pk []
 obtain rfl:=zj hr zq2
 exact⟨rfl,p⟩
 refine Sz b (Sz b (Sz b (fw (.bool false) (Gm rfl b rfl) (An rfl (rt (rs ?_))))))
 have r:=e.pk []
 obtain rfl:=zj hr zq2
 exact⟨rfl,r⟩
def j4 (e:List bL) (f:Int) (g:aj):List bL->Nat->Unit ⊕ Bool
  | [],a=>Sum.inl ()
  | h::b,a=>if h.ky=f then bnd (rW e (a:Int)) λ c=>bnd (pU c g) λ d=>if d=true then Sum.inr (true) else j4 e f g b (a+1) else j4 e f g b (a+1)
def uP (b:List bL) (c:Int) (d:aj):Bool:=
 bnd (ng b) λ a=>if a=0 then lp (j4 b c d b 0) λ _=>false else false
theorem zy (w D l n0 G b j) (d:aj) (r0) (H:Own w D w []) (n:Ro w D λ w'=>bM w' 2 l n0 (List.flatMap bL.cells b)) (af:n0=b.length) (aG:b.length *24<=211106232532992) (hr:uP b j d=r0):
    Calls u2 91 #[.slice l n0 G,vI j, .agg (aj.cells d).toArray] w (dG λ v w'=>v= .bool r0/\Own w D w' []):=by
 unfold uP at hr
 subst af
 refine cb Tryz.func91 ?_
 refine sr ?_
 refine bW (aj.cells d) 37 H ?_
 intro z aH ag
 refine An rfl (Gp (sr (Mz rfl ?_)))
 obtain⟨o,f⟩:∃ q,ng b=q:=⟨_,rfl⟩
 obtain⟨aI,I,J,K,aA⟩:=Gr ag
 refine cl Tryz.call30 (qZ _ _ l b.length G b o I (J _ n) rfl e8 f) ?_
 rintro _ aJ ⟨rfl,L,x⟩
 have M:=K _ _ L
 replace x: ¬ (o=0)\/(1<=b.length/\b.length<=6):=x
 refine fw (.bool (decide (¬ (o=0)))) (GN (e:= !(decide (o=0))) yk decide_not.symm) (nt ?_)
 by_cases p:o=0
 refine jF (dF (Ko p)) (sk (Gp (sr (Mz rfl (Kz (vJ b.length) (Mn rfl (bo ?_)))))))
 have ah:=M.pf []
 obtain⟨ai,g⟩:=mP λ (a:Nat) w'=>Own w D w' [blk z (aj.cells d) 37]/\a<=b.length/\j4 b j d b 0=j4 b j d (List.drop a b) a
 refine Wp.loop (λ i:Nat=> [(6, .bool false),(13,vJ i),(12,vJ b.length),(5,vP z 0),(0, .slice l b.length G),(1,vI j)]) ai (λ i=>b.length - i) 0 ⟨rfl,rfl,rfl,rfl,rfl,rfl,trivial⟩ (g.2 ⟨ah,e8,rfl⟩) ?_
 rintro a aK N
 show Wp _ _ _ [(6, .bool false),(13,vJ a),(12,vJ b.length),(5,vP z 0),(0, .slice l b.length G),(1,vI j)] _ _
 obtain⟨A,aB,h⟩:=g.1 N
 refine sr (Kz (.bool (decide ((a:Int) < (b.length:Int)))) (nt (Gp ?_)))
 by_cases O:(a:Int) < (b.length:Int)
 obtain⟨B,y⟩:=dI (ls:=b) (i:=a) bL.len f5 (A.ro n) f2
 have r:=drop_at y
 refine jT (dT O) (sk (Gp (bo (sr (Mz rfl (An rfl (Gp ?_)))))))
 refine Br [] (GD (bH.block (GD (GD (bH.block (GD GQ)))))) A ?_
 intro aL P
 refine qv 0 rfl rfl (qv 1 rfl rfl (qt (v:= .pointer (some ⟨ab l,ao l+a *2,none⟩)) 2 rfl (λ _ ⟨_,Q⟩=>GI (sS) rfl rfl ((Q.ro n).addr (i:=a) e8) e8) (qk (.pointer (some ⟨ab l,ao l+a *2+1,none⟩)) 3 rfl (qt (v:=vI B.ky) 4 rfl (λ _ ⟨_,Q⟩=>GH rfl (bS.one Tryz.isAgg3 (((Q.ro n).elem bL.len y f5).at_ (k:=1) rfl))) (qv 5 rfl rfl (qk (.bool (decide (B.ky=j))) 6 rfl (qv 7 rfl rfl ?_)))))))
 by_cases c:B.ky=j
 refine GG (v:= .slice l b.length G) (rs:= []) 8 rfl rfl rfl (dT c) e9 (λ _ _=>Gv rfl) (GG (v:=vJ a) (rs:= []) 9 rfl rfl rfl (dT c) e9 (λ _ _=>Gv rfl) (GG (v:= .agg (aj.cells d).toArray) (rs:= []) 11 rfl rfl rfl (dT c) e9 (λ _ ⟨_,Q⟩=>GH rfl (GJ (cs:=(aj.cells d)) B5 B4 ((Q.cls (i:=0) rfl).lit (k:=0) (m:=2) rfl))) ?_))
 obtain⟨C,s⟩:∃ q,rW b (a:Int)=q:=⟨_,rfl⟩
 obtain⟨aM,R,S,T,aC⟩:=Gr P
 refine H5 10 rfl rfl rfl (dT c) e9 (GV Tryz.call147 rfl (xq _ _ l b.length G b (a:Int) C R (S _ n) rfl e8 e8 s) ?_)
 rintro _ aN ⟨rfl,U⟩
 have V:=T _ _ U
 refine⟨.inr ⟨_,V⟩, ?_⟩
 obtain⟨E,t⟩:∃ q,pU C d=q:=⟨_,rfl⟩
 obtain⟨aO,W,aD,X,aF⟩:=Gr V
 refine H5 12 rfl rfl rfl (dT c) e9 (GV Tryz.call117 rfl (uA _ _ C d E W t) ?_)
 rintro _ aP ⟨rfl,Y⟩
 have F:=X _ _ Y
 refine⟨.inr ⟨_,F⟩, ?_⟩
 refine qt (v:= .bool E) 13 rfl (λ _ _=>Gu rfl (dT c) rfl) (qn (Gs ?_))
 rcases Kq (E) with u | u
 refine jT u (sr (An rfl (rt (bR (tR (tR (bR (tR (rs ?_)))))))))
 have ak:=F.pk []
 obtain rfl:_=true:=zj hr (et (ae f) (et (ip p) (iG (et (h) (et (congrArg (λ q=>j4 b j d q a) r) (et (ip c) (et (ae s) (et (ae t) (ip u)))))))))
 exact⟨rfl,ak⟩
 refine jF u (G7 (bN (Gs (Gq (fw (vJ (a+1)) (Gw (e:=v7.wrap ((a:Int)+1)) yk f1) (Mz rfl (WL.nil ?_)))))))
 have au:=F.pf []
 exact GL (a+1) ⟨rfl,rfl,rfl,rfl,rfl,rfl,trivial⟩ (g.2 ⟨au,e8,et (h) (et (congrArg (λ q=>j4 b j d q a) r) (et (ip c) (et (ae s) (et (ae t) (dY u)))))⟩) (by show b.length - (a+1) < b.length - a; omega)
 refine Gy (rs:= []) 8 rfl rfl rfl (dF c) e9 (Gy (rs:= []) 9 rfl rfl rfl (dF c) e9 (Gy (rs:= []) 10 rfl rfl rfl (dF c) e9 (Gy (rs:= []) 11 rfl rfl rfl (dF c) e9 (Gy (rs:= []) 12 rfl rfl rfl (dF c) e9 (qt (v:= .bool false) 13 rfl (λ _ _=>Gm rfl (dF c) rfl) (qn (Gs (jf (G7 (bN (Gs (Gq (fw (vJ (a+1)) (Gw (e:=v7.wrap ((a:Int)+1)) yk f1) (Mz rfl (WL.nil ?_)))))))))))))))
 have av:=P.pf []
 exact GL (a+1) ⟨rfl,rfl,rfl,rfl,rfl,rfl,trivial⟩ (g.2 ⟨av,e8,et (h) (et (congrArg (λ q=>j4 b j d q a) r) (iN c))⟩) (by show b.length - (a+1) < b.length - a; omega)
 refine jF (dF O) (Wp.exit (GK ?_))
 have Z:j4 b j d b 0=Sum.inl ():=et (h) (et (congrArg (λ q=>j4 b j d q a) (eP (ls:=b) (i:=a) e8)) rfl)
 refine GK (GR (Gs (sr (An rfl (rt (rs ?_))))))
 have ax:=A.pk []
 obtain rfl:_=false:=zj hr (et (ae f) (et (ip p) (kZ Z)))
 exact⟨rfl,ax⟩
 refine jT (dT p) (sr (An rfl (rt (tR (rs ?_)))))
 have ay:=M.pk []
 obtain rfl:=zj hr zq2
 exact⟨rfl,ay⟩
end
end Go.Proofs.YtndamapfnpihpaaGreat
