/- The layers told, part 2. Conditions: none beyond each law's own. -/
import Derived.Test.YtndamapfnpihpaaGreatJa
namespace Go.Proofs.YtndamapfnpihpaaGreat
set_option maxHeartbeats 8000000
set_option maxRecDepth 100000
set_option linter.unusedVariables false
set_option linter.unusedSimpArgs false
set_option linter.unusedSectionVars false
open IntKind renaming i64->B5
open List renaming drop->s0,flatMap->q2,getD->y2,map->s1,mem_cons->u3,mem_of_getElem?->D4,not_mem_nil->v1,toArray->v0
open Nat renaming le_refl->s3
open Sum renaming inl->y0,inr->y3
open _root_.Go.Proofs.Tryz renaming call28->F1,call29->E4,call62->B4,call65->C7,call67->D0,func67->B8,isAgg136->D2,isAgg146->D1,isAgg149->C0,isAgg3->B3,isAgg32->E1,isAgg34->D3,isAgg35->E2,isAgg37->C6,isAgg41->E6,isAgg44->E3,isAgg68->C4,isAgg9->y4,prog->u9,sizeOf149->C1,sizeOf188->B9,sizeOf37->C5,sizeOf41->E7,sizeOf60->E0,sizeOf68->C2,underlying3->v6,underlying32->F0,underlying37->v8,underlying68->v7,underlying9->v2
open WL renaming nil->B6
open Wp renaming exit->B7,loop->y6
section
open Go.RowKit
abbrev o1k:List Value:=[.bool false, .nilFunc, .nilFunc, .nilFunc, .nilFunc, .bool false, .func (.func 99) #[] #[], .func (.func 100) #[] #[], .func (.func 101) #[] #[], .func (.func 102) #[] #[], .bool true, .func (.func 103) #[] #[], .func (.func 104) #[] #[], .func (.func 101) #[] #[], .func (.func 105) #[] #[], .bool true, .func (.func 99) #[] #[], .func (.func 100) #[] #[], .func (.func 101) #[] #[], .func (.func 106) #[] #[], .bool false, .func (.func 107) #[] #[], .func (.func 108) #[] #[], .func (.func 109) #[] #[], .func (.func 110) #[] #[], .bool true, .func (.func 111) #[] #[], .func (.func 112) #[] #[], .func (.func 109) #[] #[], .func (.func 113) #[] #[]]
abbrev o2k:List Value:=[.bool false, .func (.func 99) #[] #[], .func (.func 100) #[] #[], .func (.func 101) #[] #[], .func (.func 102) #[] #[]]
abbrev o3k:List Value:=[.bool true, .func (.func 103) #[] #[], .func (.func 104) #[] #[], .func (.func 101) #[] #[], .func (.func 105) #[] #[]]
abbrev o4k:List Value:=[.bool true, .func (.func 99) #[] #[], .func (.func 100) #[] #[], .func (.func 101) #[] #[], .func (.func 106) #[] #[]]
abbrev o5k:List Value:=[.bool false, .func (.func 107) #[] #[], .func (.func 108) #[] #[], .func (.func 109) #[] #[], .func (.func 110) #[] #[]]
abbrev o6k:List Value:=[.bool true, .func (.func 111) #[] #[], .func (.func 112) #[] #[], .func (.func 109) #[] #[], .func (.func 113) #[] #[]]
theorem tL:Elem u9 33 83 2 24:=l6 (z:= .agg #[.string ⟨v0 []⟩, .int .i64 0]) Tryz.underlying33 e9 rfl f5
structure bM where
 aN:List UInt8
 kM:Int
def bM.cells (x:bM):List Value:= [.string ⟨v0 x.aN⟩, .int .i64 x.kM]
instance:Bk bM:=⟨λ x _=>bk x.aN+(bk x.kM+(0))⟩
theorem bM.len:∀ x,(bM.cells x).length=2:=λ _=>rfl
theorem bM.one:∀ x, ∀ u ∈ bM.cells x,u.oneCell'=true:=λ x u hu=>by
 simp only [bM.cells,u3,v1,or_false] at hu
 rcases hu with rfl | rfl <;> rfl
def JL (w:World) (x:bM):Prop:=(x.aN.length<=140737488351232)/\((-9223372036854775808)<=x.kM/\x.kM<=9223372036854775807)
theorem AJ (w:World):kQ u9 w 83 2 bM.cells (JL w):=
 (mO (sz:=2) Tryz.underlying83 e9 (fF.cons (i:=0) (off:=0) (s:=1) rfl rfl (kW v2 e9) (fF.cons (i:=1) (off:=1) (s:=1) rfl rfl (nA (k:= .i64) (lo:= -9223372036854775808) (hi:=9223372036854775807) v6 e9 f5 f5) fF.nil))).map (λ p=>⟨p.1,p.2.1⟩) bM.len (λ _=>rfl) (λ _ h=>⟨h.1,h.2.1⟩) λ _=>s3 _
instance:Inhabited bM:=⟨⟨default,default⟩⟩
theorem ko:Elem u9 34 60 2 32:=l6 (z:= .agg #[.int .u64 0, .slice none 0 0]) Tryz.underlying34 e9 rfl f5
theorem nN:Elem u9 44 68 6 80:=l6 (z:= .agg #[.int .i64 0, .string ⟨v0 []⟩, .string ⟨v0 []⟩, .string ⟨v0 []⟩, .string ⟨v0 []⟩, .int .i64 0]) Tryz.underlying44 e9 rfl f5
structure aX where
 aB:Int
 aZ:List UInt8
 aO:List UInt8
 aN:List UInt8
 aT:List UInt8
 bS:Int
def aX.cells (x:aX):List Value:= [.int .i64 x.aB, .string ⟨v0 x.aZ⟩, .string ⟨v0 x.aO⟩, .string ⟨v0 x.aN⟩, .string ⟨v0 x.aT⟩, .int .i64 x.bS]
instance:Bk aX:=⟨λ x _=>bk x.aB+(bk x.aZ+(bk x.aO+(bk x.aN+(bk x.aT+(bk x.bS+(0))))))⟩
theorem aX.len:∀ x,(aX.cells x).length=6:=λ _=>rfl
theorem aX.one:∀ x, ∀ u ∈ aX.cells x,u.oneCell'=true:=λ x u hu=>by
 simp only [aX.cells,u3,v1,or_false] at hu
 rcases hu with rfl | rfl | rfl | rfl | rfl | rfl <;> rfl
def JM (w:World) (x:aX):Prop:=((-9223372036854775808)<=x.aB/\x.aB<=9223372036854775807)/\(x.aZ.length<=140737488351232)/\(x.aO.length<=140737488351232)/\(x.aN.length<=140737488351232)/\(x.aT.length<=140737488351232)/\((-9223372036854775808)<=x.bS/\x.bS<=9223372036854775807)
theorem Dq (w:World):kQ u9 w 68 6 aX.cells (JM w):=
 (mO (sz:=6) v7 e9 (fF.cons (i:=0) (off:=0) (s:=1) rfl rfl (nA (k:= .i64) (lo:= -9223372036854775808) (hi:=9223372036854775807) v6 e9 f5 f5) (fF.cons (i:=1) (off:=1) (s:=1) rfl rfl (kW v2 e9) (fF.cons (i:=2) (off:=2) (s:=1) rfl rfl (kW v2 e9) (fF.cons (i:=3) (off:=3) (s:=1) rfl rfl (kW v2 e9) (fF.cons (i:=4) (off:=4) (s:=1) rfl rfl (kW v2 e9) (fF.cons (i:=5) (off:=5) (s:=1) rfl rfl (nA (k:= .i64) (lo:= -9223372036854775808) (hi:=9223372036854775807) v6 e9 f5 f5) fF.nil))))))).map (λ p=>⟨p.1,p.2.1,p.2.2.1,p.2.2.2.1,p.2.2.2.2.1,p.2.2.2.2.2.1⟩) aX.len (λ _=>rfl) (λ _ h=>⟨h.1,h.2.1,h.2.2.1,h.2.2.2.1,h.2.2.2.2.1,h.2.2.2.2.2.1⟩) λ _=>s3 _
instance:Inhabited aX:=⟨⟨default,default,default,default,default,default⟩⟩
structure bf where
 aU:Nat
 aK:Sv aX
def bf.cells (x:bf):List Value:= [.int .u64 ((x.aU:Nat):Int), .slice x.aK.A x.aK.ls.length x.aK.c]
instance:Bk bf:=⟨λ x _=>bk x.aU+(bk x.aK+(0))⟩
theorem bf.len:∀ x,(bf.cells x).length=2:=λ _=>rfl
theorem bf.one:∀ x, ∀ u ∈ bf.cells x,u.oneCell'=true:=λ x u hu=>by
 simp only [bf.cells,u3,v1,or_false] at hu
 rcases hu with rfl | rfl <;> rfl
def KF (w:World) (x:bf):Prop:=(x.aU<=18446744073709551615)/\(mM w 6 80 aX.cells (JM w) x.aK)
instance:Inhabited bf:=⟨⟨default,default⟩⟩
structure dA where
 aU:Nat
 aK:Ll aX
instance:Inhabited dA:=⟨⟨default,default⟩⟩
def bf.abs (x:bf):dA:=⟨x.aU,⟨x.aK.ls⟩⟩
def IK (x:bf):List HP:= [row x.aK.A x.aK.ls.length x.aK.c (q2 aX.cells x.aK.ls) 68 6]
theorem iH:Elem u9 35 32 1 8:=l6 (z:= .int .u64 0) Tryz.underlying35 e9 rfl f5
structure aj where
 aN:List UInt8
 aT:List UInt8
def aj.cells (x:aj):List Value:= [.string ⟨v0 x.aN⟩, .string ⟨v0 x.aT⟩]
instance:Bk aj:=⟨λ x _=>bk x.aN+(bk x.aT+(0))⟩
theorem aj.len:∀ x,(aj.cells x).length=2:=λ _=>rfl
theorem aj.one:∀ x, ∀ u ∈ aj.cells x,u.oneCell'=true:=λ x u hu=>by
 simp only [aj.cells,u3,v1,or_false] at hu
 rcases hu with rfl | rfl <;> rfl
def Jt (w:World) (x:aj):Prop:=(x.aN.length<=140737488351232)/\(x.aT.length<=140737488351232)
theorem AL (w:World):kQ u9 w 37 2 aj.cells (Jt w):=
 (mO (sz:=2) v8 e9 (fF.cons (i:=0) (off:=0) (s:=1) rfl rfl (kW v2 e9) (fF.cons (i:=1) (off:=1) (s:=1) rfl rfl (kW v2 e9) fF.nil))).map (λ p=>⟨p.1,p.2.1⟩) aj.len (λ _=>rfl) (λ _ h=>⟨h.1,h.2.1⟩) λ _=>s3 _
instance:Inhabited aj:=⟨⟨default,default⟩⟩
structure iO where
 aD:Nat
 bv:Nat
 di:Nat
 aA:aj
def iO.cells (x:iO):List Value:= [.int .u64 ((x.aD:Nat):Int), .int .u64 ((x.bv:Nat):Int), .int .u64 ((x.di:Nat):Int), .string ⟨v0 x.aA.aN⟩, .string ⟨v0 x.aA.aT⟩]
instance:Bk iO:=⟨λ x _=>bk x.aD+(bk x.bv+(bk x.di+(bk x.aA+(0))))⟩
theorem iO.len:∀ x,(iO.cells x).length=5:=λ _=>rfl
theorem iO.one:∀ x, ∀ u ∈ iO.cells x,u.oneCell'=true:=λ x u hu=>by
 simp only [iO.cells,u3,v1,or_false] at hu
 rcases hu with rfl | rfl | rfl | rfl | rfl <;> rfl
def Kt (w:World) (x:iO):Prop:=(x.aD<=18446744073709551615)/\(x.bv<=18446744073709551615)/\(x.di<=18446744073709551615)/\(Jt w x.aA)
instance:Inhabited iO:=⟨⟨default,default,default,default⟩⟩
structure mP where
 bC:Int
 aQ:Nat
 bq:Nat
 aJ:Nat
 aD:Nat
 ah:Sv bM
 ak:Sv bf
 af:Sv Nat
 bi:Nat
 aI:Nat
 aH:aj
 aC:iO
def mP.cells (x:mP):List Value:= [.int .i64 x.bC, .int .u64 ((x.aQ:Nat):Int), .int .u64 ((x.bq:Nat):Int), .int .u64 ((x.aJ:Nat):Int), .int .u64 ((x.aD:Nat):Int), .slice x.ah.A x.ah.ls.length x.ah.c, .slice x.ak.A x.ak.ls.length x.ak.c, .slice x.af.A x.af.ls.length x.af.c, .int .u64 ((x.bi:Nat):Int), .int .u64 ((x.aI:Nat):Int), .string ⟨v0 x.aH.aN⟩, .string ⟨v0 x.aH.aT⟩, .int .u64 ((x.aC.aD:Nat):Int), .int .u64 ((x.aC.bv:Nat):Int), .int .u64 ((x.aC.di:Nat):Int), .string ⟨v0 x.aC.aA.aN⟩, .string ⟨v0 x.aC.aA.aT⟩]
instance:Bk mP:=⟨λ x _=>bk x.bC+(bk x.aQ+(bk x.bq+(bk x.aJ+(bk x.aD+(bk x.ah+(bk x.ak+(bk x.af+(bk x.bi+(bk x.aI+(bk x.aH+(bk x.aC+(0))))))))))))⟩
theorem mP.len:∀ x,(mP.cells x).length=17:=λ _=>rfl
theorem mP.one:∀ x, ∀ u ∈ mP.cells x,u.oneCell'=true:=λ x u hu=>by
 simp only [mP.cells,u3,v1,or_false] at hu
 rcases hu with rfl | rfl | rfl | rfl | rfl | rfl | rfl | rfl | rfl | rfl | rfl | rfl | rfl | rfl | rfl | rfl | rfl <;> rfl
def K6 (w:World) (x:mP):Prop:=((-9223372036854775808)<=x.bC/\x.bC<=9223372036854775807)/\(x.aQ<=18446744073709551615)/\(x.bq<=18446744073709551615)/\(x.aJ<=18446744073709551615)/\(x.aD<=18446744073709551615)/\(mM w 2 24 bM.cells (JL w) x.ah)/\(mM w 2 32 bf.cells (KF w) x.ak)/\(mM w 1 8 (eN .u64) (λ n=>n<=18446744073709551615) x.af)/\(x.bi<=18446744073709551615)/\(x.aI<=18446744073709551615)/\(Jt w x.aH)/\(Kt w x.aC)
instance:Inhabited mP:=⟨⟨default,default,default,default,default,default,default,default,default,default,default,default⟩⟩
structure bA where
 bC:Int
 aQ:Nat
 bq:Nat
 aJ:Nat
 aD:Nat
 ah:Ll bM
 ak:Ll dA
 af:Ll Nat
 bi:Nat
 aI:Nat
 aH:aj
 aC:iO
instance:Inhabited bA:=⟨⟨default,default,default,default,default,default,default,default,default,default,default,default⟩⟩
def mP.abs (x:mP):bA:=⟨x.bC,x.aQ,x.bq,x.aJ,x.aD,⟨x.ah.ls⟩,⟨s1 bf.abs x.ak.ls⟩,⟨x.af.ls⟩,x.bi,x.aI,x.aH,x.aC⟩
def KT (x:mP):List HP:= [row x.ah.A x.ah.ls.length x.ah.c (q2 bM.cells x.ah.ls) 83 2,row x.ak.A x.ak.ls.length x.ak.c (q2 bf.cells x.ak.ls) 60 2,row x.af.A x.af.ls.length x.af.c (q2 (eN .u64) x.af.ls) 32 1,sepL (q2 IK x.ak.ls)]
abbrev gV (n:Int) (o:Nat) (p:Nat) (q:Nat) (r:Nat) (s:Option Addr) (a b:Nat) (t:Option Addr) (c d:Nat) (u:Option Addr) (e f:Nat) (v:Nat) (w:Nat) (g:List UInt8) (h:List UInt8) (i:Nat) (j:Nat) (k:Nat) (l:List UInt8) (m:List UInt8):List Value:= [.int .i64 n, .int .u64 ((o:Nat):Int), .int .u64 ((p:Nat):Int), .int .u64 ((q:Nat):Int), .int .u64 ((r:Nat):Int), .slice s a b, .slice t c d, .slice u e f, .int .u64 ((v:Nat):Int), .int .u64 ((w:Nat):Int), .string ⟨v0 g⟩, .string ⟨v0 h⟩, .int .u64 ((i:Nat):Int), .int .u64 ((j:Nat):Int), .int .u64 ((k:Nat):Int), .string ⟨v0 l⟩, .string ⟨v0 m⟩]
abbrev iV (x:bA) (a:Option Addr) (b:Nat) (c:Option Addr) (d:Nat) (e:Option Addr) (f:Nat):List Value:= [.int .i64 x.bC, .int .u64 ((x.aQ:Nat):Int), .int .u64 ((x.bq:Nat):Int), .int .u64 ((x.aJ:Nat):Int), .int .u64 ((x.aD:Nat):Int), .slice a x.ah.ls.length b, .slice c x.ak.ls.length d, .slice e x.af.ls.length f, .int .u64 ((x.bi:Nat):Int), .int .u64 ((x.aI:Nat):Int), .string ⟨v0 x.aH.aN⟩, .string ⟨v0 x.aH.aT⟩, .int .u64 ((x.aC.aD:Nat):Int), .int .u64 ((x.aC.bv:Nat):Int), .int .u64 ((x.aC.di:Nat):Int), .string ⟨v0 x.aC.aA.aN⟩, .string ⟨v0 x.aC.aA.aT⟩]
def mQ (a:Int) (b:Int):Bool:=
 if a >= 1 then decide (a<=b) else false
theorem qP (w D b c f) (H:Own w D w []) (hr:mQ b c=f):
    Calls u9 29 #[vI b,vI c] w (dI λ v w'=>v= .bool f/\Own w D w' []):=by
 unfold mQ at hr
 refine cb Tryz.func29 ?_
 refine sr (Ar rfl (Mz rfl (Kz (.bool (decide (b >= 1))) (Mz rfl ?_))))
 by_cases a:b >= 1
 refine gw (vI b) (dT a) (Ie rfl) (gw (vI c) (dT a) (Ie rfl) (Gz (.bool (decide (b<=c))) (dT a) (fw (.bool (decide (b<=c))) (Ic rfl (dT a) rfl) (An rfl (rt (rs ?_))))))
 have d:=H.pk []
 obtain rfl:=zj hr zq1
 exact⟨rfl,d⟩
 refine Sz (dF a) (Sz (dF a) (Sz (dF a) (fw (.bool false) (H6 rfl (dF a) rfl) (An rfl (rt (rs ?_))))))
 have e:=H.pk []
 obtain rfl:=zj hr zq1
 exact⟨rfl,e⟩
def sF (a:Int):Bool:=
 if a >= 1 then decide (a<=4) else false
theorem xG (w D b e) (H:Own w D w []) (hr:sF b=e):
    Calls u9 61 #[vI b] w (dI λ v w'=>v= .bool e/\Own w D w' []):=by
 unfold sF at hr
 refine cb Tryz.func61 ?_
 refine sr (Ar rfl (Mz rfl (Kz (.bool (decide (b >= 1))) (Mz rfl ?_))))
 by_cases a:b >= 1
 refine gw (vI b) (dT a) (Ie rfl) (Gz (.bool (decide (b<=4))) (dT a) (fw (.bool (decide (b<=4))) (Ic rfl (dT a) rfl) (An rfl (rt (rs ?_)))))
 have c:=H.pk []
 obtain rfl:=zj hr zq1
 exact⟨rfl,c⟩
 refine Sz (dF a) (Sz (dF a) (fw (.bool false) (H6 rfl (dF a) rfl) (An rfl (rt (rs ?_)))))
 have d:=H.pk []
 obtain rfl:=zj hr zq1
 exact⟨rfl,d⟩
def dY (a:List UInt8):Int:=
 if(a.length:Int) < 1 then 20 else if(a.length:Int) > 12 then 20 else 0
theorem jK (w D b d) (H:Own w D w []) (hr:dY b=d):
    Calls u9 62 #[.string ⟨v0 b⟩] w (dI λ v w'=>v=vI d/\Own w D w' []/\(¬ (d=0)\/(1<=b.length/\b.length<=12))/\(b.length < 1\/b.length > 12\/d=0)):=by
 unfold dY at hr
 refine cb Tryz.func62 ?_
 refine sr (An rfl (H7 (sr (Mz rfl (Kz (vJ b.length) (Kz (.bool (decide ((b.length:Int) < 1))) (Mz rfl ?_)))))))
 by_cases a:(b.length:Int) < 1
 refine Sz (dT a) (Sz (dT a) (Sz (dT a) (fw (.bool true) (Ic rfl (dT a) rfl) (nt (jt (sr (An rfl (rt (tR (rs ?_))))))))))
 have e:=H.pk []
 obtain rfl:=zj hr zq1
 exact⟨rfl,e,e8,e8⟩
 refine gw (.string ⟨v0 b⟩) (dF a) (Ie rfl) (Gz (vJ b.length) (dF a) (Gz (.bool (decide ((b.length:Int) > 12))) (dF a) (fw (.bool (decide ((b.length:Int) > 12))) (H6 rfl (dF a) rfl) (nt ?_))))
 by_cases c:(b.length:Int) > 12
 refine jT (dT c) (sr (An rfl (rt (tR (rs ?_)))))
 have f:=H.pk []
 obtain rfl:=zj hr zq2
 exact⟨rfl,f,e8,e8⟩
 refine jF (dF c) (sk (sr (An rfl (rt (rs ?_)))))
 have g:=H.pk []
 obtain rfl:=zj hr zq2
 exact⟨rfl,g,e8,e8⟩
def jc (g:List bM):List bM->Nat->Unit ⊕ Int
  | [],a=>y0 ()
  | b::c,a=>bnd (sF b.kM) λ d=>if d=true then if(a:Int) > 0 then bnd (dY b.aN) λ e=>if e=0 then bnd (y2 g (a - 1) default) λ f=>if b.aN<=f.aN then y3 (170) else jc g c (a+1) else y3 (170) else jc g c (a+1) else y3 (170)
def nE (a:List bM):Int:=
 if(a.length:Int) < 1 then 170 else if(a.length:Int) > 6 then 170 else bnd (y2 a 0 default) λ b=>if b.aN≠[] then 170 else lp (jc a a 0) λ _=>0
theorem rJ (w D j X I d Y) (H:Own w D w []) (l:Ro w D λ w'=>bO w' 2 j X (q2 bM.cells d)) (Z:X=d.length) (aF:d.length<=9223372036854775807) (hr:nE d=Y):
    Calls u9 30 #[.slice j X I] w (dI λ v w'=>v=vI Y/\Own w D w' []/\(¬ (Y=0)\/(1<=d.length/\d.length<=6))):=by
 unfold nE at hr
 subst Z
 refine cb Tryz.func30 ?_
 refine sr (An rfl (H7 (sr (Mz rfl (Kz (vJ d.length) (Kz (.bool (decide ((d.length:Int) < 1))) (Mz rfl ?_)))))))
 by_cases h:(d.length:Int) < 1
 refine Sz (dT h) (Sz (dT h) (Sz (dT h) (fw (.bool true) (Ic rfl (dT h) rfl) (Mz rfl (Sz rfl (Sz rfl (Sz rfl (Sz rfl (Sz rfl (fw (.bool true) (Ic rfl rfl rfl) (nt (jt (sr (An rfl (rt (tR (rs ?_)))))))))))))))))
 have aa:=H.pk []
 obtain rfl:=zj hr zq1
 exact⟨rfl,aa,e8⟩
 refine gw (.slice j d.length I) (dF h) (Ie rfl) (Gz (vJ d.length) (dF h) (Gz (.bool (decide ((d.length:Int) > 6))) (dF h) (fw (.bool (decide ((d.length:Int) > 6))) (H6 rfl (dF h) rfl) (Mz rfl ?_))))
 by_cases f:(d.length:Int) > 6
 refine Sz (dT f) (Sz (dT f) (Sz (dT f) (Sz (dT f) (Sz (dT f) (fw (.bool true) (Ic rfl (dT f) rfl) (nt (jt (sr (An rfl (rt (tR (rs ?_))))))))))))
 have af:=H.pk []
 obtain rfl:=zj hr zq2
 exact⟨rfl,af,e8⟩
 refine gw (.slice j d.length I) (dF f) (Ie rfl) ?_
 obtain⟨E,m⟩:=dG (ls:=d) (i:=0) bM.len f5 (H.ro l) f2
 refine gw (.pointer (some ⟨ab j,ao j+0 *2,none⟩)) (dF f) (Im (tL) rfl rfl ((H.ro l).addr (i:=0) e8) e8) (Gz (.pointer (some ⟨ab j,ao j+0 *2,none⟩)) (dF f) (gw (.string ⟨v0 E.aN⟩) (dF f) (Il rfl (bQ.one y4 (((H.ro l).elem bM.len m f5).at_ (k:=0) rfl))) (gw (.bool (decide (E.aN≠[]))) (dF f) (IW rfl rfl) (fw (.bool (decide (E.aN≠[]))) (H6 rfl (dF f) rfl) (nt ?_)))))
 by_cases s:E.aN≠[]
 refine jT (dT s) (sr (An rfl (rt (tR (rs ?_)))))
 have ag:=H.pk []
 obtain rfl:=zj hr zq4
 exact⟨rfl,ag,e8⟩
 refine jF (dF s) (sk (H7 (sr (Mz rfl (Kz (vJ d.length) (Mn rfl (bo ?_)))))))
 have ah:=H.pk []
 obtain⟨ai,x⟩:=mI λ (a:Nat) w'=>Own w D w' []/\a<=d.length/\jc d d 0=jc d (s0 a d) a
 refine y6 (λ i:Nat=> [(2,vI 0),(21,vJ i),(20,vJ d.length),(0, .slice j d.length I)]) ai (λ i=>d.length - i) 0 ⟨rfl,rfl,rfl,rfl,trivial⟩ (x.2 ⟨ah,e8,rfl⟩) ?_
 rintro a aG M
 show Wp _ _ _ [(2,vI 0),(21,vJ a),(20,vJ d.length),(0, .slice j d.length I)] _ _
 obtain⟨A,az,n⟩:=x.1 M
 refine sr (Kz (.bool (decide ((a:Int) < (d.length:Int)))) (nt (H7 ?_)))
 by_cases N:(a:Int) < (d.length:Int)
 obtain⟨g,y⟩:=dG (ls:=d) (i:=a) bM.len f5 (A.ro l) f2
 have p:=drop_at y
 refine jT (dT N) (sk (H7 (bo (sr (Mz rfl (An rfl (H7 (sr (Mz rfl (Mz rfl (fw (.pointer (some ⟨ab j,ao j+a *2,none⟩)) (Im (tL) rfl rfl ((A.ro l).addr (i:=a) e8) e8) (Kz (.pointer (some ⟨ab j,ao j+a *2+1,none⟩)) (fw (vI g.kM) (Il rfl (bQ.one B3 (((A.ro l).elem bM.len y f5).at_ (k:=1) rfl))) ?_)))))))))))))
 obtain⟨L,o⟩:∃ q,sF g.kM=q:=⟨_,rfl⟩
 obtain⟨aH,O,aA,P,aB⟩:=Ia A
 refine cl Tryz.call61 (xG _ _ g.kM L O o) ?_
 rintro _ aI ⟨rfl,Q⟩
 have R:=P _ _ Q
 refine Kz (.bool (!L)) (nt ?_)
 rcases Lr (L) with r | r
 refine jF (cn r) (sk (H7 ?_))
 refine Ce [] (Ik (bH.block (Ik (Ik (bH.block (Ik Iw)))))) R ?_
 intro aJ S
 refine qv 0 rfl rfl (qk (.bool (decide ((a:Int) > 0))) 1 rfl (qv 2 rfl rfl ?_))
 by_cases c:(a:Int) > 0
 refine Ii (v:= .slice j d.length I) (rs:= []) 3 rfl rfl rfl (dT c) e9 (λ _ _=>Ie rfl) (Ii (v:=vJ a) (rs:= []) 4 rfl rfl rfl (dT c) e9 (λ _ _=>Ie rfl) (Ii (v:= .pointer (some ⟨ab j,ao j+a *2,none⟩)) (rs:= []) 5 rfl rfl rfl (dT c) e9 (λ _ ⟨_,B⟩=>Im (tL) rfl rfl ((B.ro l).addr (i:=a) e8) e8) (Ii (v:= .pointer (some ⟨ab j,ao j+a *2,none⟩)) (rs:= []) 6 rfl rfl rfl (dT c) e9 (λ _ _=>yk) (Ii (v:= .string ⟨v0 g.aN⟩) (rs:= []) 7 rfl rfl rfl (dT c) e9 (λ _ ⟨_,B⟩=>Il rfl (bQ.one y4 (((B.ro l).elem bM.len y f5).at_ (k:=0) rfl))) ?_))))
 obtain⟨t,z⟩:∃ q,dY g.aN=q:=⟨_,rfl⟩
 obtain⟨aK,T,aC,U,aD⟩:=Ia S
 refine Ja 8 rfl rfl rfl (dT c) e9 (IB B4 rfl (jK _ _ g.aN t T z) ?_)
 rintro _ aL ⟨rfl,V,J,K⟩
 have F:=U _ _ V
 replace J: ¬ (t=0)\/(1<=g.aN.length/\g.aN.length<=12):=J
 replace K:g.aN.length < 1\/g.aN.length > 12\/t=0:=K
 refine⟨.inr ⟨_,F⟩, ?_⟩
 refine Ii (v:= .bool (decide (¬ (t=0)))) (rs:= []) 9 rfl rfl rfl (dT c) e9 (λ _ _=>Iu (e:= !(decide (t=0))) yk decide_not.symm) (Ii (v:= .bool (decide (¬ (t=0)))) (rs:= []) 10 rfl rfl rfl (dT c) e9 (λ _ _=>Ie rfl) ?_)
 by_cases b:t=0
 refine Ii (v:= .slice j d.length I) (rs:= []) 11 rfl rfl rfl (dF (Lp b)) e9 (λ _ _=>Ie rfl) (Ii (v:=vJ a) (rs:= []) 12 rfl rfl rfl (dF (Lp b)) e9 (λ _ _=>Ie rfl) (Ii (v:= .pointer (some ⟨ab j,ao j+a *2,none⟩)) (rs:= []) 13 rfl rfl rfl (dF (Lp b)) e9 (λ _ ⟨_,B⟩=>Im (tL) rfl rfl ((B.ro l).addr (i:=a) e8) e8) (Ii (v:= .pointer (some ⟨ab j,ao j+a *2,none⟩)) (rs:= []) 14 rfl rfl rfl (dF (Lp b)) e9 (λ _ _=>yk) (Ii (v:= .string ⟨v0 g.aN⟩) (rs:= []) 15 rfl rfl rfl (dF (Lp b)) e9 (λ _ ⟨_,B⟩=>Il rfl (bQ.one y4 (((B.ro l).elem bM.len y f5).at_ (k:=0) rfl))) (Ii (v:= .slice j d.length I) (rs:= []) 16 rfl rfl rfl (dF (Lp b)) e9 (λ _ _=>Ie rfl) (Ii (v:=vJ a) (rs:= []) 17 rfl rfl rfl (dF (Lp b)) e9 (λ _ _=>Ie rfl) (Ii (v:=vJ (a - 1)) (rs:= []) 18 rfl rfl rfl (dF (Lp b)) e9 (λ _ _=>Ig (e:=B5.wrap ((a:Int) - 1)) yk f1) ?_)))))))
 obtain⟨u,C⟩:=mY (ls:=d) (i:=a - 1) f2
 refine Ii (v:= .pointer (some ⟨ab j,ao j+(a - 1) *2,none⟩)) (rs:= []) 19 rfl rfl rfl (dF (Lp b)) e9 (λ _ ⟨_,B⟩=>Im (tL) rfl rfl ((B.ro l).addr (i:=a - 1) e8) e8) (Ii (v:= .pointer (some ⟨ab j,ao j+(a - 1) *2,none⟩)) (rs:= []) 20 rfl rfl rfl (dF (Lp b)) e9 (λ _ _=>yk) (Ii (v:= .string ⟨v0 u.aN⟩) (rs:= []) 21 rfl rfl rfl (dF (Lp b)) e9 (λ _ ⟨_,B⟩=>Il rfl (bQ.one y4 (((B.ro l).elem bM.len C f5).at_ (k:=0) rfl))) (Ii (v:= .bool (decide (g.aN<=u.aN))) (rs:= []) 22 rfl rfl rfl (dF (Lp b)) e9 (λ _ _=>Iu (e:=Op.bytesLess g.aN u.aN || decide (g.aN=u.aN)) (JC rfl rfl) (z8 _ _)) (Ii (v:= .bool (decide (g.aN<=u.aN))) (rs:= []) 23 rfl rfl rfl (dT c) e9 (λ _ _=>H6 rfl (dF (Lp b)) rfl) (qt (v:= .bool (decide (g.aN<=u.aN))) 24 rfl (λ _ _=>Ic rfl (dT c) rfl) (qn (Ib ?_)))))))
 by_cases G:g.aN<=u.aN
 refine jT (dT G) (sr (An rfl (rt (bR (tR (tR (bR (tR (rs ?_)))))))))
 have aj:=F.pk []
 obtain rfl:_=170:=zj hr (et (iN h) (et (iN f) (et (ae (bu m)) (et (iN s) (iG (et (n) (et (congrArg (λ q=>jc d q a) p) (et (ae o) (et (ip r) (et (ip c) (et (ae z) (et (ip b) (et (ae (bu C)) (ip G))))))))))))))
 exact⟨rfl,aj,e8⟩
 refine jF (dF G) (IG (bN (Ib (H8 (fw (vJ (a+1)) (Ig (e:=B5.wrap ((a:Int)+1)) yk f1) (Mz rfl (B6 ?_)))))))
 have ak:=F.pk []
 exact Iq (a+1) ⟨rfl,rfl,rfl,rfl,trivial⟩ (x.2 ⟨ak,e8,et (n) (et (congrArg (λ q=>jc d q a) p) (et (ae o) (et (ip r) (et (ip c) (et (ae z) (et (ip b) (et (ae (bu C)) (iN G))))))))⟩) (by show d.length - (a+1) < d.length - a; omega)
 refine Ih (rs:= []) 11 rfl rfl rfl (dT b) e9 (Ih (rs:= []) 12 rfl rfl rfl (dT b) e9 (Ih (rs:= []) 13 rfl rfl rfl (dT b) e9 (Ih (rs:= []) 14 rfl rfl rfl (dT b) e9 (Ih (rs:= []) 15 rfl rfl rfl (dT b) e9 (Ih (rs:= []) 16 rfl rfl rfl (dT b) e9 (Ih (rs:= []) 17 rfl rfl rfl (dT b) e9 (Ih (rs:= []) 18 rfl rfl rfl (dT b) e9 (Ih (rs:= []) 19 rfl rfl rfl (dT b) e9 (Ih (rs:= []) 20 rfl rfl rfl (dT b) e9 (Ih (rs:= []) 21 rfl rfl rfl (dT b) e9 (Ih (rs:= []) 22 rfl rfl rfl (dT b) e9 (Ii (v:= .bool true) (rs:= []) 23 rfl rfl rfl (dT c) e9 (λ _ _=>Ic rfl (dT b) rfl) (qt (v:= .bool true) 24 rfl (λ _ _=>Ic rfl (dT c) rfl) (qn (Ib (jt (sr (An rfl (rt (bR (tR (tR (bR (tR (rs ?_)))))))))))))))))))))))))
 have au:=F.pk []
 obtain rfl:_=170:=zj hr (et (iN h) (et (iN f) (et (ae (bu m)) (et (iN s) (iG (et (n) (et (congrArg (λ q=>jc d q a) p) (et (ae o) (et (ip r) (et (ip c) (et (ae z) (iN b))))))))))))
 exact⟨rfl,au,e8⟩
 refine Ih (rs:= []) 3 rfl rfl rfl (dF c) e9 (Ih (rs:= []) 4 rfl rfl rfl (dF c) e9 (Ih (rs:= []) 5 rfl rfl rfl (dF c) e9 (Ih (rs:= []) 6 rfl rfl rfl (dF c) e9 (Ih (rs:= []) 7 rfl rfl rfl (dF c) e9 (Ih (rs:= []) 8 rfl rfl rfl (dF c) e9 (Ih (rs:= []) 9 rfl rfl rfl (dF c) e9 (Ih (rs:= []) 10 rfl rfl rfl (dF c) e9 (I8 (rs:= []) 11 rfl rfl rfl e9 (I8 (rs:= []) 12 rfl rfl rfl e9 (I8 (rs:= []) 13 rfl rfl rfl e9 (I8 (rs:= []) 14 rfl rfl rfl e9 (I8 (rs:= []) 15 rfl rfl rfl e9 (I8 (rs:= []) 16 rfl rfl rfl e9 (I8 (rs:= []) 17 rfl rfl rfl e9 (I8 (rs:= []) 18 rfl rfl rfl e9 (I8 (rs:= []) 19 rfl rfl rfl e9 (I8 (rs:= []) 20 rfl rfl rfl e9 (I8 (rs:= []) 21 rfl rfl rfl e9 (I8 (rs:= []) 22 rfl rfl rfl e9 (Ih (rs:= []) 23 rfl rfl rfl (dF c) e9 (qt (v:= .bool false) 24 rfl (λ _ _=>H6 rfl (dF c) rfl) (qn (Ib (jf (IG (bN (Ib (H8 (fw (vJ (a+1)) (Ig (e:=B5.wrap ((a:Int)+1)) yk f1) (Mz rfl (B6 ?_)))))))))))))))))))))))))))))))
 have av:=S.pk []
 exact Iq (a+1) ⟨rfl,rfl,rfl,rfl,trivial⟩ (x.2 ⟨av,e8,et (n) (et (congrArg (λ q=>jc d q a) p) (et (ae o) (et (ip r) (iN c))))⟩) (by show d.length - (a+1) < d.length - a; omega)
 refine jT (cn r) (sr (An rfl (rt (tR (bR (tR (tR (bR (tR (rs ?_))))))))))
 have ax:=R.pk []
 obtain rfl:_=170:=zj hr (et (iN h) (et (iN f) (et (ae (bu m)) (et (iN s) (iG (et (n) (et (congrArg (λ q=>jc d q a) p) (et (ae o) (eF r)))))))))
 exact⟨rfl,ax,e8⟩
 refine jF (dF N) (B7 (Ip ?_))
 have W:jc d d 0=y0 ():=et (n) (et (congrArg (λ q=>jc d q a) (eX (ls:=d) (i:=a) e8)) rfl)
 refine Ip (Iz (Ib (sr (An rfl (rt (rs ?_))))))
 have ay:=A.pk []
 obtain rfl:_=0:=zj hr (et (iN h) (et (iN f) (et (ae (bu m)) (et (iN s) (lw W)))))
 exact⟨rfl,ay,e8⟩
theorem nO (w D j) (H:Own w D w []) (c:j=1):
    Calls u9 67 #[vI j] w (dI λ v w'=>v= .tuple #[.agg o2k.toArray, .bool true]/\Own w D w' []):=by
 subst c
 refine cb B8 ?_
 refine sr ?_
 refine bW [.bool false, .nilFunc, .nilFunc, .nilFunc, .nilFunc] 149 H ?_
 intro l n d
 refine Ar rfl (Kz (.agg o2k.toArray) (Kz (.agg o3k.toArray) (Kz (.agg o4k.toArray) (Kz (.agg o5k.toArray) (Kz (.agg o6k.toArray) (Kz (.agg o1k.toArray) ?_))))))
 refine bW [.bool false, .nilFunc, .nilFunc, .nilFunc, .nilFunc, .bool false, .nilFunc, .nilFunc, .nilFunc, .nilFunc, .bool false, .nilFunc, .nilFunc, .nilFunc, .nilFunc, .bool false, .nilFunc, .nilFunc, .nilFunc, .nilFunc, .bool false, .nilFunc, .nilFunc, .nilFunc, .nilFunc, .bool false, .nilFunc, .nilFunc, .nilFunc, .nilFunc] 188 d ?_
 intro e o f
 refine cu o1k 0 f B9 ?_
 intro p a
 refine nt (H7 (sr (Mz rfl (Kz (.bool false) (Mz rfl (gw (vI 1) rfl (Ie rfl) (Gz (.bool false) rfl (fw (.bool false) (H6 rfl rfl rfl) (nt (jf (sk (sr (Mz rfl (Kz (vP e 5) (La o2k a 0 C0 C1 ?_)))))))))))))))
 have g:=a.pb [0]
 refine cu o2k 0 g C1 ?_
 intro q b
 refine An rfl (rt (Ir (gq (vs:= [.agg o2k.toArray, .bool true]) rfl (bT.cell rfl (Io (cs:= o2k) C0 C1 ((b.cls (i:=0) rfl).lit (k:=0) (m:=5) rfl)) (bT.tmp rfl bT.nil)) (Lh rfl)) ?_))
 have h:=b.pk []
 exact⟨rfl,h⟩
def o6 (a:aX):aX:=
 aX.mk a.aB a.aZ [] [] [] 0
theorem wF (w D) (a:aX) (g:aX) (H:Own w D w []) (hr:o6 a=g):
    Calls u9 99 #[.agg (aX.cells a).toArray] w (dI λ v w'=>v= .agg (aX.cells g).toArray/\Own w D w' []):=by
 refine cb Tryz.func99 ?_
 refine sr ?_
 refine bW (aX.cells a) 68 H ?_
 intro c h e
 refine bW [vI 0, .string ⟨v0 []⟩, .string ⟨v0 []⟩, .string ⟨v0 []⟩, .string ⟨v0 []⟩,vI 0] 68 e ?_
 intro j l b
 refine ns (Kz (vP c 0) (Lz (vI a.aB) b 1 B3 (Kz (vP c 1) (Lz (.string ⟨v0 a.aZ⟩) b 1 y4 (Kz (.agg #[vI a.aB, .string ⟨v0 a.aZ⟩, .string ⟨v0 []⟩, .string ⟨v0 []⟩, .string ⟨v0 []⟩,vI 0]) ?_)))))
 refine cu [vI a.aB, .string ⟨v0 a.aZ⟩, .string ⟨v0 []⟩, .string ⟨v0 []⟩, .string ⟨v0 []⟩,vI 0] 0 b C2 ?_
 intro n d
 refine nt (rt (Ir (oZ rfl rfl (Io (cs:= [vI a.aB, .string ⟨v0 a.aZ⟩, .string ⟨v0 []⟩, .string ⟨v0 []⟩, .string ⟨v0 []⟩,vI 0]) C4 C2 ((d.cls (i:=0) rfl).lit (k:=0) (m:=6) rfl))) ?_))
 have f:=d.pk []
 obtain rfl:_=aX.mk a.aB a.aZ [] [] [] 0:=zj hr rfl
 exact⟨rfl,f⟩
def nG (b:aX):Int:=
 bnd (dY b.aZ) λ a=>a
theorem uI (w D) (a:aX) (m) (H:Own w D w []) (hr:nG a=m):
    Calls u9 100 #[.agg (aX.cells a).toArray] w (dI λ v w'=>v=vI m/\Own w D w' []):=by
 unfold nG at hr
 refine cb Tryz.func100 ?_
 refine sr ?_
 refine bW (aX.cells a) 68 H ?_
 intro j p f
 refine Ar rfl (Kz (vP j 1) (Lz (.string ⟨v0 a.aZ⟩) f 0 y4 ?_))
 obtain⟨b,c⟩:∃ q,dY a.aZ=q:=⟨_,rfl⟩
 obtain⟨r,g,n,h,o⟩:=Ia f
 refine cl B4 (jK _ _ a.aZ b g c) ?_
 rintro _ s ⟨rfl,i,d,e⟩
 have k:=h _ _ i
 replace d: ¬ (b=0)\/(1<=a.aZ.length/\a.aZ.length<=12):=d
 replace e:a.aZ.length < 1\/a.aZ.length > 12\/b=0:=e
 refine An rfl (rt (rs ?_))
 have l:=k.pk []
 obtain rfl:=zj hr zq1
 exact⟨rfl,l⟩
theorem nP (w D j) (H:Own w D w []) (c:j=2):
    Calls u9 67 #[vI j] w (dI λ v w'=>v= .tuple #[.agg o3k.toArray, .bool true]/\Own w D w' []):=by
 subst c
 refine cb B8 ?_
 refine sr ?_
 refine bW [.bool false, .nilFunc, .nilFunc, .nilFunc, .nilFunc] 149 H ?_
 intro l n d
 refine Ar rfl (Kz (.agg o2k.toArray) (Kz (.agg o3k.toArray) (Kz (.agg o4k.toArray) (Kz (.agg o5k.toArray) (Kz (.agg o6k.toArray) (Kz (.agg o1k.toArray) ?_))))))
 refine bW [.bool false, .nilFunc, .nilFunc, .nilFunc, .nilFunc, .bool false, .nilFunc, .nilFunc, .nilFunc, .nilFunc, .bool false, .nilFunc, .nilFunc, .nilFunc, .nilFunc, .bool false, .nilFunc, .nilFunc, .nilFunc, .nilFunc, .bool false, .nilFunc, .nilFunc, .nilFunc, .nilFunc, .bool false, .nilFunc, .nilFunc, .nilFunc, .nilFunc] 188 d ?_
 intro e o f
 refine cu o1k 0 f B9 ?_
 intro p a
 refine nt (H7 (sr (Mz rfl (Kz (.bool false) (Mz rfl (gw (vI 2) rfl (Ie rfl) (Gz (.bool false) rfl (fw (.bool false) (H6 rfl rfl rfl) (nt (jf (sk (sr (Mz rfl (Kz (vP e 10) (La o3k a 0 C0 C1 ?_)))))))))))))))
 have g:=a.pb [0]
 refine cu o3k 0 g C1 ?_
 intro q b
 refine An rfl (rt (Ir (gq (vs:= [.agg o3k.toArray, .bool true]) rfl (bT.cell rfl (Io (cs:= o3k) C0 C1 ((b.cls (i:=0) rfl).lit (k:=0) (m:=5) rfl)) (bT.tmp rfl bT.nil)) (Lh rfl)) ?_))
 have h:=b.pk []
 exact⟨rfl,h⟩
def sQ (a:aX):aX:=
 aX.mk a.aB a.aZ a.aO [] [] 0
theorem zS (w D) (a:aX) (g:aX) (H:Own w D w []) (hr:sQ a=g):
    Calls u9 103 #[.agg (aX.cells a).toArray] w (dI λ v w'=>v= .agg (aX.cells g).toArray/\Own w D w' []):=by
 refine cb Tryz.func103 ?_
 refine sr ?_
 refine bW (aX.cells a) 68 H ?_
 intro c h e
 refine bW [vI 0, .string ⟨v0 []⟩, .string ⟨v0 []⟩, .string ⟨v0 []⟩, .string ⟨v0 []⟩,vI 0] 68 e ?_
 intro j l b
 refine ns (Kz (vP c 0) (Lz (vI a.aB) b 1 B3 (Kz (vP c 1) (Lz (.string ⟨v0 a.aZ⟩) b 1 y4 (Kz (vP c 2) (Lz (.string ⟨v0 a.aO⟩) b 1 y4 (Kz (.agg #[vI a.aB, .string ⟨v0 a.aZ⟩, .string ⟨v0 a.aO⟩, .string ⟨v0 []⟩, .string ⟨v0 []⟩,vI 0]) ?_)))))))
 refine cu [vI a.aB, .string ⟨v0 a.aZ⟩, .string ⟨v0 a.aO⟩, .string ⟨v0 []⟩, .string ⟨v0 []⟩,vI 0] 0 b C2 ?_
 intro n d
 refine nt (rt (Ir (oZ rfl rfl (Io (cs:= [vI a.aB, .string ⟨v0 a.aZ⟩, .string ⟨v0 a.aO⟩, .string ⟨v0 []⟩, .string ⟨v0 []⟩,vI 0]) C4 C2 ((d.cls (i:=0) rfl).lit (k:=0) (m:=6) rfl))) ?_))
 have f:=d.pk []
 obtain rfl:_=aX.mk a.aB a.aZ a.aO [] [] 0:=zj hr rfl
 exact⟨rfl,f⟩
def ni (a:List UInt8):Int:=
 if(a.length:Int) > 16 then 2 else 0
theorem tN (w D b e) (H:Own w D w []) (hr:ni b=e):
    Calls u9 161 #[.string ⟨v0 b⟩] w (dI λ v w'=>v=vI e/\Own w D w' []):=by
 unfold ni at hr
 refine cb Tryz.func161 ?_
 refine sr (An rfl (H7 (sr (Mz rfl (Kz (vJ b.length) (Kz (.bool (decide ((b.length:Int) > 16))) (nt ?_)))))))
 by_cases a:(b.length:Int) > 16
 refine jT (dT a) (sr (An rfl (rt (tR (rs ?_)))))
 have c:=H.pk []
 obtain rfl:=zj hr zq1
 exact⟨rfl,c⟩
 refine jF (dF a) (sk (sr (An rfl (rt (rs ?_)))))
 have d:=H.pk []
 obtain rfl:=zj hr zq1
 exact⟨rfl,d⟩
def o7 (c:aX):Int:=
 bnd (dY c.aZ) λ a=>if a=0 then bnd (ni c.aO) λ b=>b else a
theorem yz (w D) (b:aX) (y) (H:Own w D w []) (hr:o7 b=y):
    Calls u9 104 #[.agg (aX.cells b).toArray] w (dI λ v w'=>v=vI y/\Own w D w' []):=by
 unfold o7 at hr
 refine cb Tryz.func104 ?_
 refine sr ?_
 refine bW (aX.cells b) 68 H ?_
 intro j E k
 refine An rfl (H7 (sr (Kz (vP j 1) (Lz (.string ⟨v0 b.aZ⟩) k 0 y4 ?_))))
 obtain⟨a,c⟩:∃ q,dY b.aZ=q:=⟨_,rfl⟩
 obtain⟨F,l,z,m,A⟩:=Ia k
 refine cl B4 (jK _ _ b.aZ a l c) ?_
 rintro _ G ⟨rfl,n,f,g⟩
 have i:=m _ _ n
 replace f: ¬ (a=0)\/(1<=b.aZ.length/\b.aZ.length<=12):=f
 replace g:b.aZ.length < 1\/b.aZ.length > 12\/a=0:=g
 refine Ar rfl (Mz rfl (fw (.bool (decide (¬ (a=0)))) (Iu (e:= !(decide (a=0))) yk decide_not.symm) (nt ?_)))
 by_cases d:a=0
 refine jF (dF (Lp d)) (sk (sr (Kz (vP j 2) (Lz (.string ⟨v0 b.aO⟩) i 0 y4 ?_))))
 obtain⟨o,h⟩:∃ q,ni b.aO=q:=⟨_,rfl⟩
 obtain⟨I,p,B,r,C⟩:=Ia i
 refine cl Tryz.call161 (tN _ _ b.aO o p h) ?_
 rintro _ J ⟨rfl,s⟩
 have t:=r _ _ s
 refine An rfl (rt (rs ?_))
 have u:=t.pk []
 obtain rfl:=zj hr zq3
 exact⟨rfl,u⟩
 refine jT (dT d) (sr (Mz rfl (An rfl (rt (tR (rs ?_))))))
 have x:=i.pk []
 obtain rfl:=zj hr zq2
 exact⟨rfl,x⟩
theorem nQ (w D j) (H:Own w D w []) (c:j=3):
    Calls u9 67 #[vI j] w (dI λ v w'=>v= .tuple #[.agg o4k.toArray, .bool true]/\Own w D w' []):=by
 subst c
 refine cb B8 ?_
 refine sr ?_
 refine bW [.bool false, .nilFunc, .nilFunc, .nilFunc, .nilFunc] 149 H ?_
 intro l n d
 refine Ar rfl (Kz (.agg o2k.toArray) (Kz (.agg o3k.toArray) (Kz (.agg o4k.toArray) (Kz (.agg o5k.toArray) (Kz (.agg o6k.toArray) (Kz (.agg o1k.toArray) ?_))))))
 refine bW [.bool false, .nilFunc, .nilFunc, .nilFunc, .nilFunc, .bool false, .nilFunc, .nilFunc, .nilFunc, .nilFunc, .bool false, .nilFunc, .nilFunc, .nilFunc, .nilFunc, .bool false, .nilFunc, .nilFunc, .nilFunc, .nilFunc, .bool false, .nilFunc, .nilFunc, .nilFunc, .nilFunc, .bool false, .nilFunc, .nilFunc, .nilFunc, .nilFunc] 188 d ?_
 intro e o f
 refine cu o1k 0 f B9 ?_
 intro p a
 refine nt (H7 (sr (Mz rfl (Kz (.bool false) (Mz rfl (gw (vI 3) rfl (Ie rfl) (Gz (.bool false) rfl (fw (.bool false) (H6 rfl rfl rfl) (nt (jf (sk (sr (Mz rfl (Kz (vP e 15) (La o4k a 0 C0 C1 ?_)))))))))))))))
 have g:=a.pb [0]
 refine cu o4k 0 g C1 ?_
 intro q b
 refine An rfl (rt (Ir (gq (vs:= [.agg o4k.toArray, .bool true]) rfl (bT.cell rfl (Io (cs:= o4k) C0 C1 ((b.cls (i:=0) rfl).lit (k:=0) (m:=5) rfl)) (bT.tmp rfl bT.nil)) (Lh rfl)) ?_))
 have h:=b.pk []
 exact⟨rfl,h⟩
theorem nR (w D j) (H:Own w D w []) (c:j=4):
    Calls u9 67 #[vI j] w (dI λ v w'=>v= .tuple #[.agg o5k.toArray, .bool true]/\Own w D w' []):=by
 subst c
 refine cb B8 ?_
 refine sr ?_
 refine bW [.bool false, .nilFunc, .nilFunc, .nilFunc, .nilFunc] 149 H ?_
 intro l n d
 refine Ar rfl (Kz (.agg o2k.toArray) (Kz (.agg o3k.toArray) (Kz (.agg o4k.toArray) (Kz (.agg o5k.toArray) (Kz (.agg o6k.toArray) (Kz (.agg o1k.toArray) ?_))))))
 refine bW [.bool false, .nilFunc, .nilFunc, .nilFunc, .nilFunc, .bool false, .nilFunc, .nilFunc, .nilFunc, .nilFunc, .bool false, .nilFunc, .nilFunc, .nilFunc, .nilFunc, .bool false, .nilFunc, .nilFunc, .nilFunc, .nilFunc, .bool false, .nilFunc, .nilFunc, .nilFunc, .nilFunc, .bool false, .nilFunc, .nilFunc, .nilFunc, .nilFunc] 188 d ?_
 intro e o f
 refine cu o1k 0 f B9 ?_
 intro p a
 refine nt (H7 (sr (Mz rfl (Kz (.bool false) (Mz rfl (gw (vI 4) rfl (Ie rfl) (Gz (.bool false) rfl (fw (.bool false) (H6 rfl rfl rfl) (nt (jf (sk (sr (Mz rfl (Kz (vP e 20) (La o5k a 0 C0 C1 ?_)))))))))))))))
 have g:=a.pb [0]
 refine cu o5k 0 g C1 ?_
 intro q b
 refine An rfl (rt (Ir (gq (vs:= [.agg o5k.toArray, .bool true]) rfl (bT.cell rfl (Io (cs:= o5k) C0 C1 ((b.cls (i:=0) rfl).lit (k:=0) (m:=5) rfl)) (bT.tmp rfl bT.nil)) (Lh rfl)) ?_))
 have h:=b.pk []
 exact⟨rfl,h⟩
def sS (a:aX):aX:=
 aX.mk a.aB [] [] a.aN a.aT a.bS
theorem zT (w D) (a:aX) (g:aX) (H:Own w D w []) (hr:sS a=g):
    Calls u9 107 #[.agg (aX.cells a).toArray] w (dI λ v w'=>v= .agg (aX.cells g).toArray/\Own w D w' []):=by
 refine cb Tryz.func107 ?_
 refine sr ?_
 refine bW (aX.cells a) 68 H ?_
 intro c h e
 refine bW [vI 0, .string ⟨v0 []⟩, .string ⟨v0 []⟩, .string ⟨v0 []⟩, .string ⟨v0 []⟩,vI 0] 68 e ?_
 intro j l b
 refine ns (Kz (vP c 0) (Lz (vI a.aB) b 1 B3 (Kz (vP c 3) (Lz (.string ⟨v0 a.aN⟩) b 1 y4 (Kz (vP c 4) (Lz (.string ⟨v0 a.aT⟩) b 1 y4 (Kz (vP c 5) (Lz (vI a.bS) b 1 B3 (Kz (.agg #[vI a.aB, .string ⟨v0 []⟩, .string ⟨v0 []⟩, .string ⟨v0 a.aN⟩, .string ⟨v0 a.aT⟩,vI a.bS]) ?_)))))))))
 refine cu [vI a.aB, .string ⟨v0 []⟩, .string ⟨v0 []⟩, .string ⟨v0 a.aN⟩, .string ⟨v0 a.aT⟩,vI a.bS] 0 b C2 ?_
 intro n d
 refine nt (rt (Ir (oZ rfl rfl (Io (cs:= [vI a.aB, .string ⟨v0 []⟩, .string ⟨v0 []⟩, .string ⟨v0 a.aN⟩, .string ⟨v0 a.aT⟩,vI a.bS]) C4 C2 ((d.cls (i:=0) rfl).lit (k:=0) (m:=6) rfl))) ?_))
 have f:=d.pk []
 obtain rfl:_=aX.mk a.aB [] [] a.aN a.aT a.bS:=zj hr rfl
 exact⟨rfl,f⟩
def fD (a:aX):aj:=
 aj.mk a.aN a.aT
theorem lC (w D) (a:aX) (g:aj) (H:Own w D w []) (hr:fD a=g):
    Calls u9 109 #[.agg (aX.cells a).toArray] w (dI λ v w'=>v= .agg (aj.cells g).toArray/\Own w D w' []):=by
 refine cb Tryz.func109 ?_
 refine sr ?_
 refine bW (aX.cells a) 68 H ?_
 intro c h e
 refine bW [.string ⟨v0 []⟩, .string ⟨v0 []⟩] 37 e ?_
 intro j l b
 refine ns (Kz (vP c 3) (Lz (.string ⟨v0 a.aN⟩) b 1 y4 (Kz (vP c 4) (Lz (.string ⟨v0 a.aT⟩) b 1 y4 (Kz (.agg #[.string ⟨v0 a.aN⟩, .string ⟨v0 a.aT⟩]) ?_)))))
 refine cu [.string ⟨v0 a.aN⟩, .string ⟨v0 a.aT⟩] 0 b C5 ?_
 intro n d
 refine nt (rt (Ir (oZ rfl rfl (Io (cs:= [.string ⟨v0 a.aN⟩, .string ⟨v0 a.aT⟩]) C6 C5 ((d.cls (i:=0) rfl).lit (k:=0) (m:=2) rfl))) ?_))
 have f:=d.pk []
 obtain rfl:_=aj.mk a.aN a.aT:=zj hr rfl
 exact⟨rfl,f⟩
def dU (a:aj):Int:=
 if a.aN≠[] then bnd (dY a.aN) λ b=>if b=0 then if a.aT≠[] then bnd (dY a.aT) λ c=>if c=0 then if a.aT<=a.aN then 21 else 0 else 21 else 0 else 21 else if a.aT≠[] then bnd (dY a.aT) λ d=>if d=0 then if a.aT<=a.aN then 21 else 0 else 21 else 0
theorem jd (w D) (a:aj) (Z) (H:Own w D w []) (hr:dU a=Z):
    Calls u9 65 #[.agg (aj.cells a).toArray] w (dI λ v w'=>v=vI Z/\Own w D w' []):=by
 unfold dU at hr
 refine cb Tryz.func65 ?_
 refine sr ?_
 refine bW (aj.cells a) 37 H ?_
 intro h au k
 refine An rfl (H7 (sr (Kz (vP h 0) (Lz (.string ⟨v0 a.aN⟩) k 0 y4 (fw (.bool (decide (a.aN≠[]))) (IW rfl rfl) (Mz rfl ?_))))))
 by_cases d:a.aN≠[]
 refine Gz (vP h 0) (dT d) (Gl (.string ⟨v0 a.aN⟩) (dT d) k 0 y4 ?_)
 obtain⟨l,j⟩:∃ q,dY a.aN=q:=⟨_,rfl⟩
 obtain⟨av,G,aa,I,af⟩:=Ia k
 refine oh (dT d) B4 (jK _ _ a.aN l G j) ?_
 rintro _ ax ⟨rfl,J,z,A⟩
 have s:=I _ _ J
 replace z: ¬ (l=0)\/(1<=a.aN.length/\a.aN.length<=12):=z
 replace A:a.aN.length < 1\/a.aN.length > 12\/l=0:=A
 refine gw (.bool (decide (¬ (l=0)))) (dT d) (Iu (e:= !(decide (l=0))) yk decide_not.symm) (fw (.bool (decide (¬ (l=0)))) (Ic rfl (dT d) rfl) (nt ?_))
 by_cases m:l=0
 refine jF (dF (Lp m)) (sk (H7 (sr (Kz (vP h 1) (Lz (.string ⟨v0 a.aT⟩) s 0 y4 (fw (.bool (decide (a.aT≠[]))) (IW rfl rfl) (Mz rfl ?_)))))))
 by_cases b:a.aT≠[]
 refine Gz (vP h 1) (dT b) (Gl (.string ⟨v0 a.aT⟩) (dT b) s 0 y4 ?_)
 obtain⟨n,p⟩:∃ q,dY a.aT=q:=⟨_,rfl⟩
 obtain⟨ay,K,ag,L,ah⟩:=Ia s
 refine oh (dT b) B4 (jK _ _ a.aT n K p) ?_
 rintro _ az ⟨rfl,M,B,C⟩
 have t:=L _ _ M
 replace B: ¬ (n=0)\/(1<=a.aT.length/\a.aT.length<=12):=B
 replace C:a.aT.length < 1\/a.aT.length > 12\/n=0:=C
 refine gw (.bool (decide (¬ (n=0)))) (dT b) (Iu (e:= !(decide (n=0))) yk decide_not.symm) (gw (.bool (decide (¬ (n=0)))) (dT b) (Ie rfl) ?_)
 by_cases f:n=0
 refine gw (vP h 1) (dF (Lp f)) yk (gw (.string ⟨v0 a.aT⟩) (dF (Lp f)) (Il rfl (bQ.one y4 (IU (t.cls (i:=0) rfl) rfl))) (gw (vP h 0) (dF (Lp f)) yk (gw (.string ⟨v0 a.aN⟩) (dF (Lp f)) (Il rfl (bQ.one y4 (IU (t.cls (i:=0) rfl) rfl))) (gw (.bool (decide (a.aT<=a.aN))) (dF (Lp f)) (Iu (e:=Op.bytesLess a.aT a.aN || decide (a.aT=a.aN)) (JC rfl rfl) (z8 _ _)) (gw (.bool (decide (a.aT<=a.aN))) (dT b) (H6 rfl (dF (Lp f)) rfl) (fw (.bool (decide (a.aT<=a.aN))) (Ic rfl (dT b) rfl) (nt ?_)))))))
 by_cases x:a.aT<=a.aN
 refine jT (dT x) (sr (An rfl (rt (tR (rs ?_)))))
 have Q:=t.pk []
 obtain rfl:=zj hr zq7
 exact⟨rfl,Q⟩
 refine jF (dF x) (sk (sr (An rfl (rt (rs ?_)))))
 have R:=t.pk []
 obtain rfl:=zj hr zq7
 exact⟨rfl,R⟩
 refine Sz (dT f) (Sz (dT f) (Sz (dT f) (Sz (dT f) (Sz (dT f) (gw (.bool true) (dT b) (Ic rfl (dT f) rfl) (fw (.bool true) (Ic rfl (dT b) rfl) (nt (jt (sr (An rfl (rt (tR (rs ?_)))))))))))))
 have S:=t.pk []
 obtain rfl:=zj hr zq6
 exact⟨rfl,S⟩
 refine Sz (dF b) (Sz (dF b) (Sz (dF b) (Sz (dF b) (Sz (dF b) (Ij rfl rfl rfl (Ij rfl rfl rfl (Ij rfl rfl rfl (Ij rfl rfl rfl (Ij rfl rfl rfl (Sz (dF b) (fw (.bool false) (H6 rfl (dF b) rfl) (nt (jf (sk (sr (An rfl (rt (rs ?_))))))))))))))))))
 have T:=s.pk []
 obtain rfl:=zj hr zq4
 exact⟨rfl,T⟩
 refine jT (dT m) (sr (An rfl (rt (tR (rs ?_)))))
 have U:=s.pk []
 obtain rfl:=zj hr zq3
 exact⟨rfl,U⟩
 refine Sz (dF d) (Sz (dF d) (Sz (dF d) (Sz (dF d) (fw (.bool false) (H6 rfl (dF d) rfl) (nt (jf (sk (H7 (sr (Kz (vP h 1) (Lz (.string ⟨v0 a.aT⟩) k 0 y4 (fw (.bool (decide (a.aT≠[]))) (IW rfl rfl) (Mz rfl ?_)))))))))))))
 by_cases c:a.aT≠[]
 refine Gz (vP h 1) (dT c) (Gl (.string ⟨v0 a.aT⟩) (dT c) k 0 y4 ?_)
 obtain⟨o,r⟩:∃ q,dY a.aT=q:=⟨_,rfl⟩
 obtain⟨aA,N,ai,O,ak⟩:=Ia k
 refine oh (dT c) B4 (jK _ _ a.aT o N r) ?_
 rintro _ aB ⟨rfl,P,E,F⟩
 have u:=O _ _ P
 replace E: ¬ (o=0)\/(1<=a.aT.length/\a.aT.length<=12):=E
 replace F:a.aT.length < 1\/a.aT.length > 12\/o=0:=F
 refine gw (.bool (decide (¬ (o=0)))) (dT c) (Iu (e:= !(decide (o=0))) yk decide_not.symm) (gw (.bool (decide (¬ (o=0)))) (dT c) (Ie rfl) ?_)
 by_cases g:o=0
 refine gw (vP h 1) (dF (Lp g)) yk (gw (.string ⟨v0 a.aT⟩) (dF (Lp g)) (Il rfl (bQ.one y4 (IU (u.cls (i:=0) rfl) rfl))) (gw (vP h 0) (dF (Lp g)) yk (gw (.string ⟨v0 a.aN⟩) (dF (Lp g)) (Il rfl (bQ.one y4 (IU (u.cls (i:=0) rfl) rfl))) (gw (.bool (decide (a.aT<=a.aN))) (dF (Lp g)) (Iu (e:=Op.bytesLess a.aT a.aN || decide (a.aT=a.aN)) (JC rfl rfl) (z8 _ _)) (gw (.bool (decide (a.aT<=a.aN))) (dT c) (H6 rfl (dF (Lp g)) rfl) (fw (.bool (decide (a.aT<=a.aN))) (Ic rfl (dT c) rfl) (nt ?_)))))))
 by_cases y:a.aT<=a.aN
 refine jT (dT y) (sr (An rfl (rt (tR (rs ?_)))))
 have V:=u.pk []
 obtain rfl:=zj hr zq5
 exact⟨rfl,V⟩
 refine jF (dF y) (sk (sr (An rfl (rt (rs ?_)))))
 have W:=u.pk []
 obtain rfl:=zj hr zq5
 exact⟨rfl,W⟩
 refine Sz (dT g) (Sz (dT g) (Sz (dT g) (Sz (dT g) (Sz (dT g) (gw (.bool true) (dT c) (Ic rfl (dT g) rfl) (fw (.bool true) (Ic rfl (dT c) rfl) (nt (jt (sr (An rfl (rt (tR (rs ?_)))))))))))))
 have X:=u.pk []
 obtain rfl:=zj hr zq4
 exact⟨rfl,X⟩
 refine Sz (dF c) (Sz (dF c) (Sz (dF c) (Sz (dF c) (Sz (dF c) (Ij rfl rfl rfl (Ij rfl rfl rfl (Ij rfl rfl rfl (Ij rfl rfl rfl (Ij rfl rfl rfl (Sz (dF c) (fw (.bool false) (H6 rfl (dF c) rfl) (nt (jf (sk (sr (An rfl (rt (rs ?_))))))))))))))))))
 have Y:=k.pk []
 obtain rfl:=zj hr zq2
 exact⟨rfl,Y⟩
def l9 (c:aX):Int:=
 bnd (fD c) λ a=>bnd (dU a) λ b=>b
theorem tO (w D) (d:aX) (p) (H:Own w D w []) (hr:l9 d=p):
    Calls u9 112 #[.agg (aX.cells d).toArray] w (dI λ v w'=>v=vI p/\Own w D w' []):=by
 unfold l9 at hr
 refine cb Tryz.func112 ?_
 refine sr ?_
 refine bW (aX.cells d) 68 H ?_
 intro x y e
 refine Ar rfl (La (aX.cells d) e 0 C4 C2 ?_)
 obtain⟨c,a⟩:∃ q,fD d=q:=⟨_,rfl⟩
 obtain⟨z,f,r,g,s⟩:=Ia e
 refine cl Tryz.call109 (lC _ _ d c f a) ?_
 rintro _ A ⟨rfl,h⟩
 have m:=g _ _ h
 obtain⟨i,b⟩:∃ q,dU c=q:=⟨_,rfl⟩
 obtain⟨B,j,t,k,u⟩:=Ia m
 refine cl C7 (jd _ _ c i j b) ?_
 rintro _ C ⟨rfl,l⟩
 have n:=k _ _ l
 refine An rfl (rt (rs ?_))
 have o:=n.pk []
 obtain rfl:=zj hr zq2
 exact⟨rfl,o⟩
def o8 (b:aX):Int:=
 bnd (l9 b) λ a=>if a=0 then if b.bS < 1 then 1 else if b.bS > 4 then 1 else 0 else a
theorem yA (w D) (c:aX) (s) (H:Own w D w []) (hr:o8 c=s):
    Calls u9 108 #[.agg (aX.cells c).toArray] w (dI λ v w'=>v=vI s/\Own w D w' []):=by
 unfold o8 at hr
 refine cb Tryz.func108 ?_
 refine sr ?_
 refine bW (aX.cells c) 68 H ?_
 intro i x j
 refine An rfl (H7 (sr (La (aX.cells c) j 0 C4 C2 ?_)))
 obtain⟨g,b⟩:∃ q,l9 c=q:=⟨_,rfl⟩
 obtain⟨y,k,t,l,u⟩:=Ia j
 refine cl Tryz.call112 (tO _ _ c g k b) ?_
 rintro _ z ⟨rfl,m⟩
 have d:=l _ _ m
 refine Ar rfl (Mz rfl (fw (.bool (decide (¬ (g=0)))) (Iu (e:= !(decide (g=0))) yk decide_not.symm) (nt ?_)))
 by_cases f:g=0
 refine jF (dF (Lp f)) (sk (H7 (sr (Kz (vP i 5) (Lz (vI c.bS) d 0 B3 (Kz (.bool (decide (c.bS < 1))) (Mz rfl ?_)))))))
 by_cases a:c.bS < 1
 refine Sz (dT a) (Sz (dT a) (Sz (dT a) (fw (.bool true) (Ic rfl (dT a) rfl) (nt (jt (sr (An rfl (rt (tR (rs ?_))))))))))
 have n:=d.pk []
 obtain rfl:=zj hr zq3
 exact⟨rfl,n⟩
 refine Gz (vP i 5) (dF a) (Gl (vI c.bS) (dF a) d 0 B3 (Gz (.bool (decide (c.bS > 4))) (dF a) (fw (.bool (decide (c.bS > 4))) (H6 rfl (dF a) rfl) (nt ?_))))
 by_cases h:c.bS > 4
 refine jT (dT h) (sr (An rfl (rt (tR (rs ?_)))))
 have o:=d.pk []
 obtain rfl:=zj hr zq4
 exact⟨rfl,o⟩
 refine jF (dF h) (sk (sr (An rfl (rt (rs ?_)))))
 have p:=d.pk []
 obtain rfl:=zj hr zq4
 exact⟨rfl,p⟩
 refine jT (dT f) (sr (Mz rfl (An rfl (rt (tR (rs ?_))))))
 have r:=d.pk []
 obtain rfl:=zj hr zq2
 exact⟨rfl,r⟩
theorem nS (w D j) (H:Own w D w []) (c:j=5):
    Calls u9 67 #[vI j] w (dI λ v w'=>v= .tuple #[.agg o6k.toArray, .bool true]/\Own w D w' []):=by
 subst c
 refine cb B8 ?_
 refine sr ?_
 refine bW [.bool false, .nilFunc, .nilFunc, .nilFunc, .nilFunc] 149 H ?_
 intro l n d
 refine Ar rfl (Kz (.agg o2k.toArray) (Kz (.agg o3k.toArray) (Kz (.agg o4k.toArray) (Kz (.agg o5k.toArray) (Kz (.agg o6k.toArray) (Kz (.agg o1k.toArray) ?_))))))
 refine bW [.bool false, .nilFunc, .nilFunc, .nilFunc, .nilFunc, .bool false, .nilFunc, .nilFunc, .nilFunc, .nilFunc, .bool false, .nilFunc, .nilFunc, .nilFunc, .nilFunc, .bool false, .nilFunc, .nilFunc, .nilFunc, .nilFunc, .bool false, .nilFunc, .nilFunc, .nilFunc, .nilFunc, .bool false, .nilFunc, .nilFunc, .nilFunc, .nilFunc] 188 d ?_
 intro e o f
 refine cu o1k 0 f B9 ?_
 intro p a
 refine nt (H7 (sr (Mz rfl (Kz (.bool false) (Mz rfl (gw (vI 5) rfl (Ie rfl) (Gz (.bool false) rfl (fw (.bool false) (H6 rfl rfl rfl) (nt (jf (sk (sr (Mz rfl (Kz (vP e 25) (La o6k a 0 C0 C1 ?_)))))))))))))))
 have g:=a.pb [0]
 refine cu o6k 0 g C1 ?_
 intro q b
 refine An rfl (rt (Ir (gq (vs:= [.agg o6k.toArray, .bool true]) rfl (bT.cell rfl (Io (cs:= o6k) C0 C1 ((b.cls (i:=0) rfl).lit (k:=0) (m:=5) rfl)) (bT.tmp rfl bT.nil)) (Lh rfl)) ?_))
 have h:=b.pk []
 exact⟨rfl,h⟩
def rR (a:aX):aX:=
 aX.mk a.aB [] [] a.aN a.aT 0
theorem zb (w D) (a:aX) (g:aX) (H:Own w D w []) (hr:rR a=g):
    Calls u9 111 #[.agg (aX.cells a).toArray] w (dI λ v w'=>v= .agg (aX.cells g).toArray/\Own w D w' []):=by
 refine cb Tryz.func111 ?_
 refine sr ?_
 refine bW (aX.cells a) 68 H ?_
 intro c h e
 refine bW [vI 0, .string ⟨v0 []⟩, .string ⟨v0 []⟩, .string ⟨v0 []⟩, .string ⟨v0 []⟩,vI 0] 68 e ?_
 intro j l b
 refine ns (Kz (vP c 0) (Lz (vI a.aB) b 1 B3 (Kz (vP c 3) (Lz (.string ⟨v0 a.aN⟩) b 1 y4 (Kz (vP c 4) (Lz (.string ⟨v0 a.aT⟩) b 1 y4 (Kz (.agg #[vI a.aB, .string ⟨v0 []⟩, .string ⟨v0 []⟩, .string ⟨v0 a.aN⟩, .string ⟨v0 a.aT⟩,vI 0]) ?_)))))))
 refine cu [vI a.aB, .string ⟨v0 []⟩, .string ⟨v0 []⟩, .string ⟨v0 a.aN⟩, .string ⟨v0 a.aT⟩,vI 0] 0 b C2 ?_
 intro n d
 refine nt (rt (Ir (oZ rfl rfl (Io (cs:= [vI a.aB, .string ⟨v0 []⟩, .string ⟨v0 []⟩, .string ⟨v0 a.aN⟩, .string ⟨v0 a.aT⟩,vI 0]) C4 C2 ((d.cls (i:=0) rfl).lit (k:=0) (m:=6) rfl))) ?_))
 have f:=d.pk []
 obtain rfl:_=aX.mk a.aB [] [] a.aN a.aT 0:=zj hr rfl
 exact⟨rfl,f⟩
theorem uo (w D b) (H:Own w D w []) (p: ¬ (b=1)) (q: ¬ (b=2)) (r: ¬ (b=3)) (s: ¬ (b=4)) (t: ¬ (b=5)):
    Calls u9 67 #[vI b] w (dI λ v w'=>v= .tuple #[.agg #[.bool false, .nilFunc, .nilFunc, .nilFunc, .nilFunc], .bool false]/\Own w D w' []):=by
 refine cb B8 ?_
 refine sr ?_
 refine bW [.bool false, .nilFunc, .nilFunc, .nilFunc, .nilFunc] 149 H ?_
 intro u x g
 refine Ar rfl (Kz (.agg o2k.toArray) (Kz (.agg o3k.toArray) (Kz (.agg o4k.toArray) (Kz (.agg o5k.toArray) (Kz (.agg o6k.toArray) (Kz (.agg o1k.toArray) ?_))))))
 refine bW [.bool false, .nilFunc, .nilFunc, .nilFunc, .nilFunc, .bool false, .nilFunc, .nilFunc, .nilFunc, .nilFunc, .bool false, .nilFunc, .nilFunc, .nilFunc, .nilFunc, .bool false, .nilFunc, .nilFunc, .nilFunc, .nilFunc, .bool false, .nilFunc, .nilFunc, .nilFunc, .nilFunc, .bool false, .nilFunc, .nilFunc, .nilFunc, .nilFunc] 188 g ?_
 intro y z h
 refine cu o1k 0 h B9 ?_
 intro A c
 refine nt (H7 (sr (Mz rfl (Kz (.bool (decide (b<=0))) (Mz rfl ?_)))))
 by_cases a:b<=0
 refine Sz (dT a) (Sz (dT a) (fw (.bool true) (Ic rfl (dT a) rfl) (nt (jt (sr (Kz (.agg #[.bool false, .nilFunc, .nilFunc, .nilFunc, .nilFunc]) ?_))))))
 have j:=c.pb [0]
 refine cu [.bool false, .nilFunc, .nilFunc, .nilFunc, .nilFunc] 0 j C1 ?_
 intro B d
 refine An rfl (rt (tR (Ir (gq (vs:= [.agg #[.bool false, .nilFunc, .nilFunc, .nilFunc, .nilFunc], .bool false]) rfl (bT.cell rfl (Io (cs:= [.bool false, .nilFunc, .nilFunc, .nilFunc, .nilFunc]) C0 C1 ((d.cls (i:=0) rfl).lit (k:=0) (m:=5) rfl)) (bT.tmp rfl bT.nil)) (Lh rfl)) ?_)))
 have l:=d.pk []
 exact⟨rfl,l⟩
 refine gw (vI b) (dF a) (Ie rfl) (Gz (.bool (decide (b >= 6))) (dF a) (fw (.bool (decide (b >= 6))) (H6 rfl (dF a) rfl) (nt ?_)))
 have e:(decide (b >= 6))=true:=(dT e8)
 refine jT e (sr (Kz (.agg #[.bool false, .nilFunc, .nilFunc, .nilFunc, .nilFunc]) ?_))
 have n:=c.pb [0]
 refine cu [.bool false, .nilFunc, .nilFunc, .nilFunc, .nilFunc] 0 n C1 ?_
 intro C f
 refine An rfl (rt (tR (Ir (gq (vs:= [.agg #[.bool false, .nilFunc, .nilFunc, .nilFunc, .nilFunc], .bool false]) rfl (bT.cell rfl (Io (cs:= [.bool false, .nilFunc, .nilFunc, .nilFunc, .nilFunc]) C0 C1 ((f.cls (i:=0) rfl).lit (k:=0) (m:=5) rfl)) (bT.tmp rfl bT.nil)) (Lh rfl)) ?_)))
 have o:=f.pk []
 exact⟨rfl,o⟩
def dW (a:aX):Int:=
 if a.aB=1 then bnd (o6 a) λ e=>if(e.aB=a.aB)/\(e.aZ=a.aZ)/\(e.aO=a.aO)/\(e.aN=a.aN)/\(e.aT=a.aT)/\(e.bS=a.bS) then bnd (nG a) λ j=>j else 40 else if a.aB=2 then bnd (sQ a) λ f=>if(f.aB=a.aB)/\(f.aZ=a.aZ)/\(f.aO=a.aO)/\(f.aN=a.aN)/\(f.aT=a.aT)/\(f.bS=a.bS) then bnd (o7 a) λ k=>k else 40 else if a.aB=3 then bnd (o6 a) λ b=>if(b.aB=a.aB)/\(b.aZ=a.aZ)/\(b.aO=a.aO)/\(b.aN=a.aN)/\(b.aT=a.aT)/\(b.bS=a.bS) then bnd (nG a) λ g=>g else 40 else if a.aB=4 then bnd (sS a) λ c=>if(c.aB=a.aB)/\(c.aZ=a.aZ)/\(c.aO=a.aO)/\(c.aN=a.aN)/\(c.aT=a.aT)/\(c.bS=a.bS) then bnd (o8 a) λ h=>h else 40 else if a.aB=5 then bnd (rR a) λ d=>if(d.aB=a.aB)/\(d.aZ=a.aZ)/\(d.aO=a.aO)/\(d.aN=a.aN)/\(d.aT=a.aT)/\(d.bS=a.bS) then bnd (l9 a) λ i=>i else 40 else 40
theorem nk (w D) (a:aX) (r0) (H:Own w D w []) (hr:dW a=r0):
    Calls u9 63 #[.agg (aX.cells a).toArray] w (dI λ v w'=>v=vI r0/\Own w D w' []/\(¬ (r0=0)\/(1<=a.aB/\a.aB<=5))):=by
 unfold dW at hr
 refine cb Tryz.func63 ?_
 refine sr ?_
 refine bW (aX.cells a) 68 H ?_
 intro dx gM t
 refine Ar rfl (Kz (vP dx 0) (Lz (vI a.aB) t 0 B3 ?_))
 by_cases l:a.aB=1
 obtain⟨gN,aR,eH,aS,eO⟩:=Ia t
 refine cl D0 (nO _ _ a.aB aR (of_decide_eq_true (dT l))) ?_
 rintro _ gP ⟨rfl,aT⟩
 have dz:=aS _ _ aT
 refine Mz rfl (Kz (.agg o2k.toArray) (Kz (.bool true) ?_))
 refine bW [.bool false, .nilFunc, .nilFunc, .nilFunc, .nilFunc] 149 dz ?_
 intro aU gQ dA
 refine cu o2k 0 dA C1 ?_
 intro gT dB
 refine An rfl (H7 (H7 ?_))
 refine oO [] (Ik (Ik Iw)) dB ?_
 intro gU dC
 refine qv 0 rfl rfl (qk (.bool false) 1 rfl (qv 2 rfl rfl (Ii (v:=vP aU 1) (rs:= []) 3 rfl rfl rfl rfl e9 (λ _ _=>yk) (Ii (v:= .func (.func 99) #[] #[]) (rs:= []) 4 rfl rfl rfl rfl e9 (λ _ ⟨_,h⟩=>Il rfl (bQ.one D1 (IU (h.cls (i:=0) rfl) rfl))) (Ii (v:= .agg (aX.cells a).toArray) (rs:= []) 5 rfl rfl rfl rfl e9 (λ _ ⟨_,h⟩=>Il rfl (Io (cs:=(aX.cells a)) C4 C2 ((h.cls (i:=1) rfl).lit (k:=0) (m:=6) rfl))) (Ii (v:= .agg (aX.cells a).toArray) (rs:= []) 7 rfl rfl rfl rfl e9 (λ _ ⟨_,h⟩=>Il rfl (Io (cs:=(aX.cells a)) C4 C2 ((h.cls (i:=1) rfl).lit (k:=0) (m:=6) rfl))) ?_))))))
 obtain⟨f,F⟩:∃ q,o6 a=q:=⟨_,rfl⟩
 obtain⟨gV,aV,eP,aW,eQ⟩:=Ia dC
 refine Ja 6 rfl rfl rfl rfl e9 (IM Tryz.call99 rfl rfl (wF _ _ a f aV F) ?_)
 rintro _ gW ⟨rfl,aY⟩
 have G:=aW _ _ aY
 refine⟨.inr ⟨_,G⟩, ?_⟩
 refine Ii (v:= .bool (decide (¬ ((f.aB=a.aB)/\(f.aZ=a.aZ)/\(f.aO=a.aO)/\(f.aN=a.aN)/\(f.aT=a.aT)/\(f.bS=a.bS))))) (rs:= []) 8 rfl rfl rfl rfl e9 (λ _ _=>Iu (e:= !(decide ((f.aB=a.aB)/\(f.aZ=a.aZ)/\(f.aO=a.aO)/\(f.aN=a.aN)/\(f.aT=a.aT)/\(f.bS=a.bS)))) (Jd rfl rfl e9 rfl (fU.struct v7 e9 (I6 (fq.cons (u:=vI f.aB) (v:=vI a.aB) f5 (λ _=>by kernel_rfl) (λ _=>by kernel_rfl) (fU.int v6) (fq.cons (u:= .string ⟨v0 f.aZ⟩) (v:= .string ⟨v0 a.aZ⟩) f5 (λ _=>by kernel_rfl) (λ _=>by kernel_rfl) (fU.string v2) (fq.cons (u:= .string ⟨v0 f.aO⟩) (v:= .string ⟨v0 a.aO⟩) f5 (λ _=>by kernel_rfl) (λ _=>by kernel_rfl) (fU.string v2) (fq.cons (u:= .string ⟨v0 f.aN⟩) (v:= .string ⟨v0 a.aN⟩) f5 (λ _=>by kernel_rfl) (λ _=>by kernel_rfl) (fU.string v2) (fq.cons (u:= .string ⟨v0 f.aT⟩) (v:= .string ⟨v0 a.aT⟩) f5 (λ _=>by kernel_rfl) (λ _=>by kernel_rfl) (fU.string v2) (fq.cons (u:=vI f.bS) (v:=vI a.bS) f5 (λ _=>by kernel_rfl) (λ _=>by kernel_rfl) (fU.int v6) (fq.nil.up (Lm _)))))))) ((congrArg (decide (f.aB=a.aB) && ·) ((congrArg (decide (f.aZ=a.aZ) && ·) ((congrArg (decide (f.aO=a.aO) && ·) ((congrArg (decide (f.aN=a.aN) && ·) ((congrArg (decide (f.aT=a.aT) && ·) kN).trans fA)).trans fA)).trans fA)).trans fA)).trans fA)))) decide_not.symm) (qt (v:= .bool (decide (¬ ((f.aB=a.aB)/\(f.aZ=a.aZ)/\(f.aO=a.aO)/\(f.aN=a.aN)/\(f.aT=a.aT)/\(f.bS=a.bS))))) 9 rfl (λ _ _=>H6 rfl rfl rfl) (qn (Ib ?_)))
 by_cases N:(f.aB=a.aB)/\(f.aZ=a.aZ)/\(f.aO=a.aO)/\(f.aN=a.aN)/\(f.aT=a.aT)/\(f.bS=a.bS)
 refine jF (dF (Lp N)) (sk (sr (Kz (vP aU 2) (Lz (.func (.func 100) #[] #[]) G 0 D2 (La (aX.cells a) G 1 C4 C2 ?_)))))
 obtain⟨aZ,P⟩:∃ q,nG a=q:=⟨_,rfl⟩
 obtain⟨gX,bf,eT,bg,eU⟩:=Ia G
 refine WL.do rfl (IM Tryz.call100 rfl rfl (uI _ _ a aZ bf P) ?_)
 rintro _ gY ⟨rfl,bi⟩
 have dD:=bg _ _ bi
 refine An rfl (rt (rs ?_))
 have dE:=dD.pk []
 obtain rfl:=zj hr zq4
 exact⟨rfl,dE,e8⟩
 refine jT (dT N) (sr (An rfl (rt (tR (rs ?_)))))
 have dG:=G.pk []
 obtain rfl:=zj hr zq3
 exact⟨rfl,dG,e8⟩
 by_cases n:a.aB=2
 obtain⟨gZ,bn,eX,bq,eY⟩:=Ia t
 refine cl D0 (nP _ _ a.aB bn (of_decide_eq_true (dT n))) ?_
 rintro _ ib ⟨rfl,bu⟩
 have dH:=bq _ _ bu
 refine Mz rfl (Kz (.agg o3k.toArray) (Kz (.bool true) ?_))
 refine bW [.bool false, .nilFunc, .nilFunc, .nilFunc, .nilFunc] 149 dH ?_
 intro bv ic dJ
 refine cu o3k 0 dJ C1 ?_
 intro ig dK
 refine An rfl (H7 (H7 ?_))
 refine oO [] (Ik (Ik Iw)) dK ?_
 intro ik dL
 refine qv 0 rfl rfl (qk (.bool false) 1 rfl (qv 2 rfl rfl (Ii (v:=vP bv 1) (rs:= []) 3 rfl rfl rfl rfl e9 (λ _ _=>yk) (Ii (v:= .func (.func 103) #[] #[]) (rs:= []) 4 rfl rfl rfl rfl e9 (λ _ ⟨_,h⟩=>Il rfl (bQ.one D1 (IU (h.cls (i:=0) rfl) rfl))) (Ii (v:= .agg (aX.cells a).toArray) (rs:= []) 5 rfl rfl rfl rfl e9 (λ _ ⟨_,h⟩=>Il rfl (Io (cs:=(aX.cells a)) C4 C2 ((h.cls (i:=1) rfl).lit (k:=0) (m:=6) rfl))) (Ii (v:= .agg (aX.cells a).toArray) (rs:= []) 7 rfl rfl rfl rfl e9 (λ _ ⟨_,h⟩=>Il rfl (Io (cs:=(aX.cells a)) C4 C2 ((h.cls (i:=1) rfl).lit (k:=0) (m:=6) rfl))) ?_))))))
 obtain⟨g,I⟩:∃ q,sQ a=q:=⟨_,rfl⟩
 obtain⟨il,bz,eZ,bA,fe⟩:=Ia dL
 refine Ja 6 rfl rfl rfl rfl e9 (IM Tryz.call103 rfl rfl (zS _ _ a g bz I) ?_)
 rintro _ iq ⟨rfl,bB⟩
 have J:=bA _ _ bB
 refine⟨.inr ⟨_,J⟩, ?_⟩
 refine Ii (v:= .bool (decide (¬ ((g.aB=a.aB)/\(g.aZ=a.aZ)/\(g.aO=a.aO)/\(g.aN=a.aN)/\(g.aT=a.aT)/\(g.bS=a.bS))))) (rs:= []) 8 rfl rfl rfl rfl e9 (λ _ _=>Iu (e:= !(decide ((g.aB=a.aB)/\(g.aZ=a.aZ)/\(g.aO=a.aO)/\(g.aN=a.aN)/\(g.aT=a.aT)/\(g.bS=a.bS)))) (Jd rfl rfl e9 rfl (fU.struct v7 e9 (I6 (fq.cons (u:=vI g.aB) (v:=vI a.aB) f5 (λ _=>by kernel_rfl) (λ _=>by kernel_rfl) (fU.int v6) (fq.cons (u:= .string ⟨v0 g.aZ⟩) (v:= .string ⟨v0 a.aZ⟩) f5 (λ _=>by kernel_rfl) (λ _=>by kernel_rfl) (fU.string v2) (fq.cons (u:= .string ⟨v0 g.aO⟩) (v:= .string ⟨v0 a.aO⟩) f5 (λ _=>by kernel_rfl) (λ _=>by kernel_rfl) (fU.string v2) (fq.cons (u:= .string ⟨v0 g.aN⟩) (v:= .string ⟨v0 a.aN⟩) f5 (λ _=>by kernel_rfl) (λ _=>by kernel_rfl) (fU.string v2) (fq.cons (u:= .string ⟨v0 g.aT⟩) (v:= .string ⟨v0 a.aT⟩) f5 (λ _=>by kernel_rfl) (λ _=>by kernel_rfl) (fU.string v2) (fq.cons (u:=vI g.bS) (v:=vI a.bS) f5 (λ _=>by kernel_rfl) (λ _=>by kernel_rfl) (fU.int v6) (fq.nil.up (Lm _)))))))) ((congrArg (decide (g.aB=a.aB) && ·) ((congrArg (decide (g.aZ=a.aZ) && ·) ((congrArg (decide (g.aO=a.aO) && ·) ((congrArg (decide (g.aN=a.aN) && ·) ((congrArg (decide (g.aT=a.aT) && ·) kN).trans fA)).trans fA)).trans fA)).trans fA)).trans fA)))) decide_not.symm) (qt (v:= .bool (decide (¬ ((g.aB=a.aB)/\(g.aZ=a.aZ)/\(g.aO=a.aO)/\(g.aN=a.aN)/\(g.aT=a.aT)/\(g.bS=a.bS))))) 9 rfl (λ _ _=>H6 rfl rfl rfl) (qn (Ib ?_)))
 by_cases O:(g.aB=a.aB)/\(g.aZ=a.aZ)/\(g.aO=a.aO)/\(g.aN=a.aN)/\(g.aT=a.aT)/\(g.bS=a.bS)
 refine jF (dF (Lp O)) (sk (sr (Kz (vP bv 2) (Lz (.func (.func 104) #[] #[]) J 0 D2 (La (aX.cells a) J 1 C4 C2 ?_)))))
 obtain⟨bC,Q⟩:∃ q,o7 a=q:=⟨_,rfl⟩
 obtain⟨iw,bD,fo,bE,fu⟩:=Ia J
 refine WL.do rfl (IM Tryz.call104 rfl rfl (yz _ _ a bC bD Q) ?_)
 rintro _ iy ⟨rfl,X⟩
 have bF:=bE _ _ X
 refine An rfl (rt (rs ?_))
 have bG:=bF.pk []
 obtain rfl:=zj hr zq5
 exact⟨rfl,bG,e8⟩
 refine jT (dT O) (sr (An rfl (rt (tR (rs ?_)))))
 have bH:=J.pk []
 obtain rfl:=zj hr zq4
 exact⟨rfl,bH,e8⟩
 by_cases j:a.aB=3
 obtain⟨fw,Y,dM,Z,dN⟩:=Ia t
 refine cl D0 (nQ _ _ a.aB Y (of_decide_eq_true (dT j))) ?_
 rintro _ fB ⟨rfl,aa⟩
 have bI:=Z _ _ aa
 refine Mz rfl (Kz (.agg o4k.toArray) (Kz (.bool true) ?_))
 refine bW [.bool false, .nilFunc, .nilFunc, .nilFunc, .nilFunc] 149 bI ?_
 intro R fC bJ
 refine cu o4k 0 bJ C1 ?_
 intro fD bK
 refine An rfl (H7 (H7 ?_))
 refine oO [] (Ik (Ik Iw)) bK ?_
 intro fE bL
 refine qv 0 rfl rfl (qk (.bool false) 1 rfl (qv 2 rfl rfl (Ii (v:=vP R 1) (rs:= []) 3 rfl rfl rfl rfl e9 (λ _ _=>yk) (Ii (v:= .func (.func 99) #[] #[]) (rs:= []) 4 rfl rfl rfl rfl e9 (λ _ ⟨_,h⟩=>Il rfl (bQ.one D1 (IU (h.cls (i:=0) rfl) rfl))) (Ii (v:= .agg (aX.cells a).toArray) (rs:= []) 5 rfl rfl rfl rfl e9 (λ _ ⟨_,h⟩=>Il rfl (Io (cs:=(aX.cells a)) C4 C2 ((h.cls (i:=1) rfl).lit (k:=0) (m:=6) rfl))) (Ii (v:= .agg (aX.cells a).toArray) (rs:= []) 7 rfl rfl rfl rfl e9 (λ _ ⟨_,h⟩=>Il rfl (Io (cs:=(aX.cells a)) C4 C2 ((h.cls (i:=1) rfl).lit (k:=0) (m:=6) rfl))) ?_))))))
 obtain⟨b,x⟩:∃ q,o6 a=q:=⟨_,rfl⟩
 obtain⟨fF,af,dO,ag,dP⟩:=Ia bL
 refine Ja 6 rfl rfl rfl rfl e9 (IM Tryz.call99 rfl rfl (wF _ _ a b af x) ?_)
 rintro _ fG ⟨rfl,ah⟩
 have p:=ag _ _ ah
 refine⟨.inr ⟨_,p⟩, ?_⟩
 refine Ii (v:= .bool (decide (¬ ((b.aB=a.aB)/\(b.aZ=a.aZ)/\(b.aO=a.aO)/\(b.aN=a.aN)/\(b.aT=a.aT)/\(b.bS=a.bS))))) (rs:= []) 8 rfl rfl rfl rfl e9 (λ _ _=>Iu (e:= !(decide ((b.aB=a.aB)/\(b.aZ=a.aZ)/\(b.aO=a.aO)/\(b.aN=a.aN)/\(b.aT=a.aT)/\(b.bS=a.bS)))) (Jd rfl rfl e9 rfl (fU.struct v7 e9 (I6 (fq.cons (u:=vI b.aB) (v:=vI a.aB) f5 (λ _=>by kernel_rfl) (λ _=>by kernel_rfl) (fU.int v6) (fq.cons (u:= .string ⟨v0 b.aZ⟩) (v:= .string ⟨v0 a.aZ⟩) f5 (λ _=>by kernel_rfl) (λ _=>by kernel_rfl) (fU.string v2) (fq.cons (u:= .string ⟨v0 b.aO⟩) (v:= .string ⟨v0 a.aO⟩) f5 (λ _=>by kernel_rfl) (λ _=>by kernel_rfl) (fU.string v2) (fq.cons (u:= .string ⟨v0 b.aN⟩) (v:= .string ⟨v0 a.aN⟩) f5 (λ _=>by kernel_rfl) (λ _=>by kernel_rfl) (fU.string v2) (fq.cons (u:= .string ⟨v0 b.aT⟩) (v:= .string ⟨v0 a.aT⟩) f5 (λ _=>by kernel_rfl) (λ _=>by kernel_rfl) (fU.string v2) (fq.cons (u:=vI b.bS) (v:=vI a.bS) f5 (λ _=>by kernel_rfl) (λ _=>by kernel_rfl) (fU.int v6) (fq.nil.up (Lm _)))))))) ((congrArg (decide (b.aB=a.aB) && ·) ((congrArg (decide (b.aZ=a.aZ) && ·) ((congrArg (decide (b.aO=a.aO) && ·) ((congrArg (decide (b.aN=a.aN) && ·) ((congrArg (decide (b.aT=a.aT) && ·) kN).trans fA)).trans fA)).trans fA)).trans fA)).trans fA)))) decide_not.symm) (qt (v:= .bool (decide (¬ ((b.aB=a.aB)/\(b.aZ=a.aZ)/\(b.aO=a.aO)/\(b.aN=a.aN)/\(b.aT=a.aT)/\(b.bS=a.bS))))) 9 rfl (λ _ _=>H6 rfl rfl rfl) (qn (Ib ?_)))
 by_cases A:(b.aB=a.aB)/\(b.aZ=a.aZ)/\(b.aO=a.aO)/\(b.aN=a.aN)/\(b.aT=a.aT)/\(b.bS=a.bS)
 refine jF (dF (Lp A)) (sk (sr (Kz (vP R 2) (Lz (.func (.func 100) #[] #[]) p 0 D2 (La (aX.cells a) p 1 C4 C2 ?_)))))
 obtain⟨S,K⟩:∃ q,nG a=q:=⟨_,rfl⟩
 obtain⟨fH,ai,dQ,aj,dR⟩:=Ia p
 refine WL.do rfl (IM Tryz.call100 rfl rfl (uI _ _ a S ai K) ?_)
 rintro _ fI ⟨rfl,ak⟩
 have bM:=aj _ _ ak
 refine An rfl (rt (rs ?_))
 have bN:=bM.pk []
 obtain rfl:=zj hr zq6
 exact⟨rfl,bN,e8⟩
 refine jT (dT A) (sr (An rfl (rt (tR (rs ?_)))))
 have bO:=p.pk []
 obtain rfl:=zj hr zq5
 exact⟨rfl,bO,e8⟩
 by_cases o:a.aB=4
 obtain⟨fJ,au,dS,av,dU⟩:=Ia t
 refine cl D0 (nR _ _ a.aB au (of_decide_eq_true (dT o))) ?_
 rintro _ fK ⟨rfl,ax⟩
 have bP:=av _ _ ax
 refine Mz rfl (Kz (.agg o5k.toArray) (Kz (.bool true) ?_))
 refine bW [.bool false, .nilFunc, .nilFunc, .nilFunc, .nilFunc] 149 bP ?_
 intro T fM bR
 refine cu o5k 0 bR C1 ?_
 intro fO bS
 refine An rfl (H7 (H7 ?_))
 refine oO [] (Ik (Ik Iw)) bS ?_
 intro fP bT
 refine qv 0 rfl rfl (qk (.bool false) 1 rfl (qv 2 rfl rfl (Ii (v:=vP T 1) (rs:= []) 3 rfl rfl rfl rfl e9 (λ _ _=>yk) (Ii (v:= .func (.func 107) #[] #[]) (rs:= []) 4 rfl rfl rfl rfl e9 (λ _ ⟨_,h⟩=>Il rfl (bQ.one D1 (IU (h.cls (i:=0) rfl) rfl))) (Ii (v:= .agg (aX.cells a).toArray) (rs:= []) 5 rfl rfl rfl rfl e9 (λ _ ⟨_,h⟩=>Il rfl (Io (cs:=(aX.cells a)) C4 C2 ((h.cls (i:=1) rfl).lit (k:=0) (m:=6) rfl))) (Ii (v:= .agg (aX.cells a).toArray) (rs:= []) 7 rfl rfl rfl rfl e9 (λ _ ⟨_,h⟩=>Il rfl (Io (cs:=(aX.cells a)) C4 C2 ((h.cls (i:=1) rfl).lit (k:=0) (m:=6) rfl))) ?_))))))
 obtain⟨c,y⟩:∃ q,sS a=q:=⟨_,rfl⟩
 obtain⟨fQ,ay,dV,az,dX⟩:=Ia bT
 refine Ja 6 rfl rfl rfl rfl e9 (IM Tryz.call107 rfl rfl (zT _ _ a c ay y) ?_)
 rintro _ fT ⟨rfl,aA⟩
 have r:=az _ _ aA
 refine⟨.inr ⟨_,r⟩, ?_⟩
 refine Ii (v:= .bool (decide (¬ ((c.aB=a.aB)/\(c.aZ=a.aZ)/\(c.aO=a.aO)/\(c.aN=a.aN)/\(c.aT=a.aT)/\(c.bS=a.bS))))) (rs:= []) 8 rfl rfl rfl rfl e9 (λ _ _=>Iu (e:= !(decide ((c.aB=a.aB)/\(c.aZ=a.aZ)/\(c.aO=a.aO)/\(c.aN=a.aN)/\(c.aT=a.aT)/\(c.bS=a.bS)))) (Jd rfl rfl e9 rfl (fU.struct v7 e9 (I6 (fq.cons (u:=vI c.aB) (v:=vI a.aB) f5 (λ _=>by kernel_rfl) (λ _=>by kernel_rfl) (fU.int v6) (fq.cons (u:= .string ⟨v0 c.aZ⟩) (v:= .string ⟨v0 a.aZ⟩) f5 (λ _=>by kernel_rfl) (λ _=>by kernel_rfl) (fU.string v2) (fq.cons (u:= .string ⟨v0 c.aO⟩) (v:= .string ⟨v0 a.aO⟩) f5 (λ _=>by kernel_rfl) (λ _=>by kernel_rfl) (fU.string v2) (fq.cons (u:= .string ⟨v0 c.aN⟩) (v:= .string ⟨v0 a.aN⟩) f5 (λ _=>by kernel_rfl) (λ _=>by kernel_rfl) (fU.string v2) (fq.cons (u:= .string ⟨v0 c.aT⟩) (v:= .string ⟨v0 a.aT⟩) f5 (λ _=>by kernel_rfl) (λ _=>by kernel_rfl) (fU.string v2) (fq.cons (u:=vI c.bS) (v:=vI a.bS) f5 (λ _=>by kernel_rfl) (λ _=>by kernel_rfl) (fU.int v6) (fq.nil.up (Lm _)))))))) ((congrArg (decide (c.aB=a.aB) && ·) ((congrArg (decide (c.aZ=a.aZ) && ·) ((congrArg (decide (c.aO=a.aO) && ·) ((congrArg (decide (c.aN=a.aN) && ·) ((congrArg (decide (c.aT=a.aT) && ·) kN).trans fA)).trans fA)).trans fA)).trans fA)).trans fA)))) decide_not.symm) (qt (v:= .bool (decide (¬ ((c.aB=a.aB)/\(c.aZ=a.aZ)/\(c.aO=a.aO)/\(c.aN=a.aN)/\(c.aT=a.aT)/\(c.bS=a.bS))))) 9 rfl (λ _ _=>H6 rfl rfl rfl) (qn (Ib ?_)))
 by_cases B:(c.aB=a.aB)/\(c.aZ=a.aZ)/\(c.aO=a.aO)/\(c.aN=a.aN)/\(c.aT=a.aT)/\(c.bS=a.bS)
 refine jF (dF (Lp B)) (sk (sr (Kz (vP T 2) (Lz (.func (.func 108) #[] #[]) r 0 D2 (La (aX.cells a) r 1 C4 C2 ?_)))))
 obtain⟨U,L⟩:∃ q,o8 a=q:=⟨_,rfl⟩
 obtain⟨fV,aB,dY,aC,dZ⟩:=Ia r
 refine WL.do rfl (IM Tryz.call108 rfl rfl (yA _ _ a U aB L) ?_)
 rintro _ fZ ⟨rfl,aD⟩
 have bU:=aC _ _ aD
 refine An rfl (rt (rs ?_))
 have bV:=bU.pk []
 obtain rfl:=zj hr zq7
 exact⟨rfl,bV,e8⟩
 refine jT (dT B) (sr (An rfl (rt (tR (rs ?_)))))
 have bX:=r.pk []
 obtain rfl:=zj hr zq6
 exact⟨rfl,bX,e8⟩
 by_cases C:a.aB=5
 obtain⟨gm,aF,d9,aG,ed⟩:=Ia t
 refine cl D0 (nS _ _ a.aB aF (of_decide_eq_true (dT C))) ?_
 rintro _ gp ⟨rfl,aH⟩
 have bY:=aG _ _ aH
 refine Mz rfl (Kz (.agg o6k.toArray) (Kz (.bool true) ?_))
 refine bW [.bool false, .nilFunc, .nilFunc, .nilFunc, .nilFunc] 149 bY ?_
 intro V gq bZ
 refine cu o6k 0 bZ C1 ?_
 intro gu cz
 refine An rfl (H7 (H7 ?_))
 refine oO [] (Ik (Ik Iw)) cz ?_
 intro gy cB
 refine qv 0 rfl rfl (qk (.bool false) 1 rfl (qv 2 rfl rfl (Ii (v:=vP V 1) (rs:= []) 3 rfl rfl rfl rfl e9 (λ _ _=>yk) (Ii (v:= .func (.func 111) #[] #[]) (rs:= []) 4 rfl rfl rfl rfl e9 (λ _ ⟨_,h⟩=>Il rfl (bQ.one D1 (IU (h.cls (i:=0) rfl) rfl))) (Ii (v:= .agg (aX.cells a).toArray) (rs:= []) 5 rfl rfl rfl rfl e9 (λ _ ⟨_,h⟩=>Il rfl (Io (cs:=(aX.cells a)) C4 C2 ((h.cls (i:=1) rfl).lit (k:=0) (m:=6) rfl))) (Ii (v:= .agg (aX.cells a).toArray) (rs:= []) 7 rfl rfl rfl rfl e9 (λ _ ⟨_,h⟩=>Il rfl (Io (cs:=(aX.cells a)) C4 C2 ((h.cls (i:=1) rfl).lit (k:=0) (m:=6) rfl))) ?_))))))
 obtain⟨d,z⟩:∃ q,rR a=q:=⟨_,rfl⟩
 obtain⟨gz,aI,ek,aJ,eu⟩:=Ia cB
 refine Ja 6 rfl rfl rfl rfl e9 (IM Tryz.call111 rfl rfl (zb _ _ a d aI z) ?_)
 rintro _ gB ⟨rfl,aK⟩
 have s:=aJ _ _ aK
 refine⟨.inr ⟨_,s⟩, ?_⟩
 refine Ii (v:= .bool (decide (¬ ((d.aB=a.aB)/\(d.aZ=a.aZ)/\(d.aO=a.aO)/\(d.aN=a.aN)/\(d.aT=a.aT)/\(d.bS=a.bS))))) (rs:= []) 8 rfl rfl rfl rfl e9 (λ _ _=>Iu (e:= !(decide ((d.aB=a.aB)/\(d.aZ=a.aZ)/\(d.aO=a.aO)/\(d.aN=a.aN)/\(d.aT=a.aT)/\(d.bS=a.bS)))) (Jd rfl rfl e9 rfl (fU.struct v7 e9 (I6 (fq.cons (u:=vI d.aB) (v:=vI a.aB) f5 (λ _=>by kernel_rfl) (λ _=>by kernel_rfl) (fU.int v6) (fq.cons (u:= .string ⟨v0 d.aZ⟩) (v:= .string ⟨v0 a.aZ⟩) f5 (λ _=>by kernel_rfl) (λ _=>by kernel_rfl) (fU.string v2) (fq.cons (u:= .string ⟨v0 d.aO⟩) (v:= .string ⟨v0 a.aO⟩) f5 (λ _=>by kernel_rfl) (λ _=>by kernel_rfl) (fU.string v2) (fq.cons (u:= .string ⟨v0 d.aN⟩) (v:= .string ⟨v0 a.aN⟩) f5 (λ _=>by kernel_rfl) (λ _=>by kernel_rfl) (fU.string v2) (fq.cons (u:= .string ⟨v0 d.aT⟩) (v:= .string ⟨v0 a.aT⟩) f5 (λ _=>by kernel_rfl) (λ _=>by kernel_rfl) (fU.string v2) (fq.cons (u:=vI d.bS) (v:=vI a.bS) f5 (λ _=>by kernel_rfl) (λ _=>by kernel_rfl) (fU.int v6) (fq.nil.up (Lm _)))))))) ((congrArg (decide (d.aB=a.aB) && ·) ((congrArg (decide (d.aZ=a.aZ) && ·) ((congrArg (decide (d.aO=a.aO) && ·) ((congrArg (decide (d.aN=a.aN) && ·) ((congrArg (decide (d.aT=a.aT) && ·) kN).trans fA)).trans fA)).trans fA)).trans fA)).trans fA)))) decide_not.symm) (qt (v:= .bool (decide (¬ ((d.aB=a.aB)/\(d.aZ=a.aZ)/\(d.aO=a.aO)/\(d.aN=a.aN)/\(d.aT=a.aT)/\(d.bS=a.bS))))) 9 rfl (λ _ _=>H6 rfl rfl rfl) (qn (Ib ?_)))
 by_cases E:(d.aB=a.aB)/\(d.aZ=a.aZ)/\(d.aO=a.aO)/\(d.aN=a.aN)/\(d.aT=a.aT)/\(d.bS=a.bS)
 refine jF (dF (Lp E)) (sk (sr (Kz (vP V 2) (Lz (.func (.func 112) #[] #[]) s 0 D2 (La (aX.cells a) s 1 C4 C2 ?_)))))
 obtain⟨W,M⟩:∃ q,l9 a=q:=⟨_,rfl⟩
 obtain⟨gD,aL,eB,aM,eD⟩:=Ia s
 refine WL.do rfl (IM Tryz.call112 rfl rfl (tO _ _ a W aL M) ?_)
 rintro _ gF ⟨rfl,aN⟩
 have cK:=aM _ _ aN
 refine An rfl (rt (rs ?_))
 have cO:=cK.pk []
 obtain rfl:=zj hr zq8
 exact⟨rfl,cO,e8⟩
 refine jT (dT E) (sr (An rfl (rt (tR (rs ?_)))))
 have cZ:=s.pk []
 obtain rfl:=zj hr zq7
 exact⟨rfl,cZ,e8⟩
 obtain⟨gG,aO,eF,aP,eG⟩:=Ia t
 refine cl D0 (uo _ _ a.aB aO e8 e8 e8 e8 e8) ?_
 rintro _ gH ⟨rfl,aQ⟩
 have df:=aP _ _ aQ
 refine Mz rfl (Kz (.agg #[.bool false, .nilFunc, .nilFunc, .nilFunc, .nilFunc]) (Kz (.bool false) ?_))
 refine bW [.bool false, .nilFunc, .nilFunc, .nilFunc, .nilFunc] 149 df ?_
 intro gI gJ dh
 refine cu [.bool false, .nilFunc, .nilFunc, .nilFunc, .nilFunc] 0 dh C1 ?_
 intro gK di
 refine An rfl (H7 (H7 ?_))
 refine oO [] (Ik (Ik Iw)) di ?_
 intro gL dm
 refine qv 0 rfl rfl (qk (.bool true) 1 rfl (qv 2 rfl rfl (Ih (rs:= []) 3 rfl rfl rfl rfl e9 (Ih (rs:= []) 4 rfl rfl rfl rfl e9 (Ih (rs:= []) 5 rfl rfl rfl rfl e9 (Ih (rs:= []) 6 rfl rfl rfl rfl e9 (Ih (rs:= []) 7 rfl rfl rfl rfl e9 (Ih (rs:= []) 8 rfl rfl rfl rfl e9 (qt (v:= .bool true) 9 rfl (λ _ _=>Ic rfl rfl rfl) (qn (Ib (jt (sr (An rfl (rt (tR (rs ?_)))))))))))))))))
 have dn:=dm.pk []
 obtain rfl:=zj hr zq5
 exact⟨rfl,dn,e8⟩
def kR (c:Nat):List dA->Unit ⊕ Bool
  | []=>y0 ()
  | a::b=>if(a.aU:Int)=(c:Int) then y3 (true) else kR c b
def o9 (a:bA) (b:Nat):Bool:=
 lp (kR b a.ak.ls) λ _=>false
theorem uq (w D) (a:bA) (l z m d B f h n C o k r0) (H:Own w D w []) (F:z=a.ah.ls.length) (R:Ro w D λ w'=>bO w' 2 l a.ah.ls.length (q2 bM.cells a.ah.ls)) (S:a.ah.ls.length<=m/\a.ah.ls.length<=9223372036854775807) (p:s1 bf.abs h=a.ak.ls) (G:B=a.ak.ls.length) (g:Ro w D λ w'=>bO w' 2 d a.ak.ls.length (q2 bf.cells h)) (T:a.ak.ls.length<=f/\a.ak.ls.length<=9223372036854775807) (I:∀ x ∈ h,Ro w D (λ w'=>bO w' 6 x.aK.A x.aK.ls.length (q2 aX.cells x.aK.ls))/\(x.aK.ls.length<=x.aK.c/\x.aK.ls.length<=9223372036854775807)) (J:C=a.af.ls.length) (U:Ro w D λ w'=>bO w' 1 n a.af.ls.length (q2 (eN .u64) a.af.ls)) (V:a.af.ls.length<=o/\a.af.ls.length<=9223372036854775807) (hr:o9 a k=r0):
    Calls u9 64 #[.agg (gV a.bC a.aQ a.bq a.aJ a.aD l z m d B f n C o a.bi a.aI a.aH.aN a.aH.aT a.aC.aD a.aC.bv a.aC.di a.aC.aA.aN a.aC.aA.aT).toArray,vU k] w (dI λ v w'=>v= .bool r0/\Own w D w' []):=by
 subst F G J
 have Q:=aY p
 refine cb Tryz.func64 ?_
 refine sr ?_
 refine bW (iV a l m d f n o) 41 H ?_
 intro W ak L
 refine An rfl (H7 (sr (Kz (vP W 6) (Lz (.slice d a.ak.ls.length f) L 0 D3 (Kz (vJ a.ak.ls.length) (Mn rfl (bo ?_)))))))
 have X:=L.pk []
 obtain⟨Y,r⟩:=mI λ (b:Nat) w'=>Own w D w' []/\b<=a.ak.ls.length/\kR k a.ak.ls=kR k (s0 b a.ak.ls)
 refine y6 (λ i:Nat=> [(4, .bool false),(10,vJ i),(9,vJ a.ak.ls.length),(8, .slice d a.ak.ls.length f),(1,vU k)]) Y (λ i=>a.ak.ls.length - i) 0 ⟨rfl,rfl,rfl,rfl,rfl,trivial⟩ (r.2 ⟨X,e8,rfl⟩) ?_
 rintro b au M
 show Wp _ _ _ [(4, .bool false),(10,vJ b),(9,vJ a.ak.ls.length),(8, .slice d a.ak.ls.length f),(1,vU k)] _ _
 obtain⟨s,ai,t⟩:=r.1 M
 refine sr (Kz (.bool (decide ((b:Int) < (a.ak.ls.length:Int)))) (nt (H7 ?_)))
 by_cases N:(b:Int) < (a.ak.ls.length:Int)
 obtain⟨j,u⟩:=dG (ls:=h) (i:=b) bf.len f5 (s.ro g) f2
 have O:=fO p u
 have aj:=(I _ (D4 u)).2
 have E:=drop_at O
 refine jT (dT N) (sk (H7 (bo (sr (fw (.pointer (some ⟨ab d,ao d+b *2,none⟩)) (Im (ko) rfl rfl ((s.ro g).addr (i:=b) e8) e8) (fw (.agg (bf.cells j).toArray) (Il rfl (Io (cs:=(bf.cells j)) Tryz.isAgg60 E0 ((s.ro g).elem bf.len u f5))) ?_))))))
 refine bW [.int .u64 0, .slice none 0 0] 60 s ?_
 intro Z av aa
 refine cu (bf.cells j) 0 aa E0 ?_
 intro ax K
 refine ns (Kz (vP Z 0) (Lz (vU j.aU) K 0 E1 (Mz rfl (Kz (.bool (decide ((j.aU:Int)=(k:Int)))) (nt ?_)))))
 by_cases y:(j.aU:Int)=(k:Int)
 refine jT (dT y) (sr (An rfl (rt (bR (tR (tR (bR (tR (rs ?_)))))))))
 have ae:=K.pk []
 obtain rfl:_=true:=zj hr (iG (et (t) (et (congrArg (λ q=>kR k q) E) (ip y))))
 exact⟨rfl,ae⟩
 refine jF (dF y) (IG (bN (Ib (H8 (fw (vJ (b+1)) (Ig (e:=B5.wrap ((b:Int)+1)) yk f1) (Mz rfl (B6 ?_)))))))
 have af:=K.pk []
 exact Iq (b+1) ⟨rfl,rfl,rfl,rfl,rfl,trivial⟩ (r.2 ⟨af,e8,et (t) (et (congrArg (λ q=>kR k q) E) (iN y))⟩) (by show a.ak.ls.length - (b+1) < a.ak.ls.length - b; omega)
 refine jF (dF N) (B7 (Ip ?_))
 have P:kR k a.ak.ls=y0 ():=et (t) (et (congrArg (λ q=>kR k q) (eX (ls:=a.ak.ls) (i:=b) e8)) rfl)
 refine Ip (Iz (Ib (sr (An rfl (rt (rs ?_))))))
 have ag:=s.pk []
 obtain rfl:_=false:=zj hr (lw P)
 exact⟨rfl,ag⟩
def jP (b:Nat):List aX->Unit ⊕ Bool
  | []=>y0 ()
  | c::d=>bnd (dW c) λ a=>if a=0 then jP b d else y3 (false)
def jQ (d:Nat):List aX->Unit ⊕ Bool
  | []=>y0 ()
  | b::c=>bnd (dW b) λ a=>if a=0 then jQ d c else y3 (false)
def gI (g:bA):List dA->Nat->Unit ⊕ Bool
  | [],a=>y0 ()
  | b::d,a=>if(a:Int) > 0 then bnd (y2 g.ak.ls (a - 1) default) λ e=>if(b.aU:Int)<=(e.aU:Int) then y3 (false) else bnd (mQ (b.aK.ls.length:Int) 24) λ f=>if f=true then BS (jP a b.aK.ls) λ _=>gI g d (a+1) else y3 (false) else bnd (mQ (b.aK.ls.length:Int) 24) λ c=>if c=true then BS (jQ a b.aK.ls) λ _=>gI g d (a+1) else y3 (false)
def iw (g:bA):List Nat->Nat->Unit ⊕ Bool
  | [],a=>y0 ()
  | b::c,a=>if(a:Int) > 0 then bnd (y2 g.af.ls (a - 1) default) λ d=>if(b:Int)<=(d:Int) then y3 (false) else bnd (o9 g b) λ e=>if e=true then y3 (false) else iw g c (a+1) else bnd (o9 g b) λ f=>if f=true then y3 (false) else iw g c (a+1)
def rM (a:bA):Bool:=
 if(a.ak.ls.length:Int) > 6 then false else if((a.ak.ls.length+a.af.ls.length:Nat):Int) > 64 then false else lp (gI a a.ak.ls 0) λ _=>lp (iw a a.af.ls 0) λ _=>true
theorem xn (w D) (d:bA) (z bn u f bq h Q l bv o r0) (H:Own w D w []) (bK:bn=d.ah.ls.length) (aK:Ro w D λ w'=>bO w' 2 z d.ah.ls.length (q2 bM.cells d.ah.ls)) (eU:d.ah.ls.length<=u/\d.ah.ls.length<=9223372036854775807) (R:s1 bf.abs Q=d.ak.ls) (bL:bq=d.ak.ls.length) (I:Ro w D λ w'=>bO w' 2 f d.ak.ls.length (q2 bf.cells Q)) (eY:d.ak.ls.length<=h/\d.ak.ls.length<=9223372036854775807) (p:∀ x ∈ Q,Ro w D (λ w'=>bO w' 6 x.aK.A x.aK.ls.length (q2 aX.cells x.aK.ls))/\(x.aK.ls.length<=x.aK.c/\x.aK.ls.length<=9223372036854775807)) (bP:bv=d.af.ls.length) (B:Ro w D λ w'=>bO w' 1 l d.af.ls.length (q2 (eN .u64) d.af.ls)) (eZ:d.af.ls.length<=o/\d.af.ls.length<=9223372036854775807) (gU:d.ah.ls.length<=140737488355328/\d.ak.ls.length<=140737488355328/\d.af.ls.length<=140737488355328) (hr:rM d=r0):
    Calls u9 31 #[.agg (gV d.bC d.aQ d.bq d.aJ d.aD z bn u f bq h l bv o d.bi d.aI d.aH.aN d.aH.aT d.aC.aD d.aC.bv d.aC.di d.aC.aA.aN d.aC.aA.aT).toArray] w (dI λ v w'=>v= .bool r0/\Own w D w' []):=by
 unfold rM at hr
 subst bK bL bP
 have eT:=aY R
 refine cb Tryz.func31 ?_
 refine sr ?_
 refine bW (iV d z u f h l o) 41 H ?_
 intro s gW au
 refine An rfl (H7 (sr (Kz (vP s 6) (Lz (.slice f d.ak.ls.length h) au 0 D3 (Kz (vJ d.ak.ls.length) (Kz (.bool (decide ((d.ak.ls.length:Int) > 6))) (Mz rfl ?_)))))))
 by_cases m:(d.ak.ls.length:Int) > 6
 refine Sz (dT m) (Sz (dT m) (Sz (dT m) (Sz (dT m) (Sz (dT m) (Sz (dT m) (Sz (dT m) (Sz (dT m) (fw (.bool true) (Ic rfl (dT m) rfl) (nt (jt (sr (An rfl (rt (tR (rs ?_)))))))))))))))
 have fe:=au.pk []
 obtain rfl:=zj hr zq1
 exact⟨rfl,fe⟩
 refine Gz (vP s 6) (dF m) (Gl (.slice f d.ak.ls.length h) (dF m) au 0 D3 (Gz (vJ d.ak.ls.length) (dF m) (Gz (vP s 7) (dF m) (Gl (.slice l d.af.ls.length o) (dF m) au 0 E2 (Gz (vJ d.af.ls.length) (dF m) (gw (vJ (d.ak.ls.length+d.af.ls.length)) (dF m) (Ig (e:=B5.wrap ((d.ak.ls.length:Int)+(d.af.ls.length:Int))) yk f1) (Gz (.bool (decide (((d.ak.ls.length+d.af.ls.length:Nat):Int) > 64))) (dF m) (fw (.bool (decide (((d.ak.ls.length+d.af.ls.length:Nat):Int) > 64))) (H6 rfl (dF m) rfl) (nt ?_)))))))))
 by_cases O:((d.ak.ls.length+d.af.ls.length:Nat):Int) > 64
 refine jT (dT O) (sr (An rfl (rt (tR (rs ?_)))))
 have fo:=au.pk []
 obtain rfl:=zj hr zq2
 exact⟨rfl,fo⟩
 refine jF (dF O) (sk (H7 (sr (Kz (vP s 6) (Lz (.slice f d.ak.ls.length h) au 0 D3 (Kz (vJ d.ak.ls.length) (Mn rfl (bo ?_))))))))
 have fq:=au.pf []
 obtain⟨fu,aB⟩:=mI λ (b:Nat) w'=>Own w D w' [blk s (iV d z u f h l o) 41]/\b<=d.ak.ls.length/\gI d d.ak.ls 0=gI d (s0 b d.ak.ls) b
 refine y6 (λ i:Nat=> [(2, .bool false),(26,vJ i),(25,vJ d.ak.ls.length),(24, .slice f d.ak.ls.length h),(1,vP s 0)]) fu (λ i=>d.ak.ls.length - i) 0 ⟨rfl,rfl,rfl,rfl,rfl,trivial⟩ (aB.2 ⟨fq,e8,rfl⟩) ?_
 rintro b gX dx
 show Wp _ _ _ [(2, .bool false),(26,vJ b),(25,vJ d.ak.ls.length),(24, .slice f d.ak.ls.length h),(1,vP s 0)] _ _
 obtain⟨aI,fU,M⟩:=aB.1 dx
 refine sr (Kz (.bool (decide ((b:Int) < (d.ak.ls.length:Int)))) (nt (H7 ?_)))
 by_cases dz:(b:Int) < (d.ak.ls.length:Int)
 obtain⟨a,K⟩:=dG (ls:=Q) (i:=b) bf.len f5 (aI.ro I) f2
 have dA:=fO R K
 have fV:=(p _ (D4 K)).2
 have S:=drop_at dA
 refine jT (dT dz) (sk (H7 (bo (sr (Mz rfl (fw (.pointer (some ⟨ab f,ao f+b *2,none⟩)) (Im (ko) rfl rfl ((aI.ro I).addr (i:=b) e8) e8) (fw (.agg (bf.cells a).toArray) (Il rfl (Io (cs:=(bf.cells a)) Tryz.isAgg60 E0 ((aI.ro I).elem bf.len K f5))) ?_)))))))
 refine bW [.int .u64 0, .slice none 0 0] 60 aI ?_
 intro t gY fA
 refine Az rfl ?_
 refine cu (bf.cells a) 0 fA E0 ?_
 intro gZ fB
 refine nt (H7 (H7 ?_))
 refine oO [] (Ik (Ik (bH.block (Ik (Ik (bH.block (Ik Iw))))))) fB ?_
 intro ib bS
 refine qv 0 rfl rfl (qk (.bool (decide ((b:Int) > 0))) 1 rfl (qv 2 rfl rfl ?_))
 by_cases n:(b:Int) > 0
 refine Ii (v:=vP t 0) (rs:= []) 3 rfl rfl rfl (dT n) e9 (λ _ _=>yk) (Ii (v:=vU a.aU) (rs:= []) 4 rfl rfl rfl (dT n) e9 (λ _ ⟨_,H9⟩=>Il rfl (bQ.one E1 (IU (H9.cls (i:=0) rfl) rfl))) (Ii (v:=vP s 6) (rs:= []) 5 rfl rfl rfl (dT n) e9 (λ _ _=>yk) (Ii (v:= .slice f d.ak.ls.length h) (rs:= []) 6 rfl rfl rfl (dT n) e9 (λ _ ⟨_,H9⟩=>Il rfl (bQ.one D3 (IU (H9.cls (i:=1) rfl) rfl))) (Ii (v:=vJ b) (rs:= []) 7 rfl rfl rfl (dT n) e9 (λ _ _=>Ie rfl) (Ii (v:=vJ (b - 1)) (rs:= []) 8 rfl rfl rfl (dT n) e9 (λ _ _=>Ig (e:=B5.wrap ((b:Int) - 1)) yk f1) ?_)))))
 obtain⟨P,aM⟩:=mY (ls:=Q) (i:=b - 1) f2
 have aC:=fO R aM
 have fZ:=(p _ (D4 aM)).2
 refine Ii (v:= .pointer (some ⟨ab f,ao f+(b - 1) *2,none⟩)) (rs:= []) 9 rfl rfl rfl (dT n) e9 (λ _ ⟨_,H9⟩=>Im (ko) rfl rfl ((H9.ro I).addr (i:=b - 1) e8) e8) (Ii (v:= .pointer (some ⟨ab f,ao f+(b - 1) *2,none⟩)) (rs:= []) 10 rfl rfl rfl (dT n) e9 (λ _ _=>yk) (Ii (v:=vU P.aU) (rs:= []) 11 rfl rfl rfl (dT n) e9 (λ _ ⟨_,H9⟩=>Il rfl (bQ.one E1 (((H9.ro I).elem bf.len aM f5).at_ (k:=0) rfl))) (Ii (v:= .bool (decide ((a.aU:Int)<=(P.aU:Int)))) (rs:= []) 12 rfl rfl rfl (dT n) e9 (λ _ _=>yk) (qt (v:= .bool (decide ((a.aU:Int)<=(P.aU:Int)))) 13 rfl (λ _ _=>Ic rfl (dT n) rfl) (qv 14 rfl rfl ?_)))))
 by_cases F:(a.aU:Int)<=(P.aU:Int)
 refine Ih (rs:= []) 15 rfl rfl rfl (dT F) e9 (Ih (rs:= []) 16 rfl rfl rfl (dT F) e9 (Ih (rs:= []) 17 rfl rfl rfl (dT F) e9 (Ih (rs:= []) 18 rfl rfl rfl (dT F) e9 (Ih (rs:= []) 19 rfl rfl rfl (dT F) e9 (qt (v:= .bool true) 20 rfl (λ _ _=>Ic rfl (dT F) rfl) (qn (Ib (jt (sr (An rfl (rt (tR (bR (tR (tR (bR (tR (rs ?_))))))))))))))))))
 have fC:=bS.pk []
 obtain rfl:_=false:=zj hr (et (iN m) (et (iN O) (iG (et (M) (et (congrArg (λ q=>gI d q b) S) (et (ip n) (et (ae (bu aC)) (ip F))))))))
 exact⟨rfl,fC⟩
 refine Ii (v:=vP t 1) (rs:= []) 15 rfl rfl rfl (dF F) e9 (λ _ _=>yk) (Ii (v:= .slice a.aK.A a.aK.ls.length a.aK.c) (rs:= []) 16 rfl rfl rfl (dF F) e9 (λ _ ⟨_,H9⟩=>Il rfl (bQ.one E3 (IU (H9.cls (i:=0) rfl) rfl))) (Ii (v:=vJ a.aK.ls.length) (rs:= []) 17 rfl rfl rfl (dF F) e9 (λ _ _=>yk) ?_))
 obtain⟨U,aD⟩:∃ q,mQ (a.aK.ls.length:Int) 24=q:=⟨_,rfl⟩
 obtain⟨ic,dB,gm,dC,gp⟩:=Ia bS
 refine Ja 18 rfl rfl rfl (dF F) e9 (IB E4 rfl (qP _ _ (a.aK.ls.length:Int) 24 U dB aD) ?_)
 rintro _ ig ⟨rfl,dD⟩
 have bg:=dC _ _ dD
 refine⟨.inr ⟨_,bg⟩, ?_⟩
 refine Ii (v:= .bool (!U)) (rs:= []) 19 rfl rfl rfl (dF F) e9 (λ _ _=>yk) (qt (v:= .bool (!U)) 20 rfl (λ _ _=>H6 rfl (dF F) rfl) (qn (Ib ?_)))
 rcases Lr (U) with aJ | aJ
 refine jF (cn aJ) (sk (sr (Kz (vP t 1) (Lz (.slice a.aK.A a.aK.ls.length a.aK.c) bg 0 E3 (Kz (vJ a.aK.ls.length) (Mn rfl (bo ?_)))))))
 have fD:=bg.pf []
 obtain⟨fE,aN⟩:=mI λ (J:Nat) w'=>Own w D w' [blk t (bf.cells a) 60,blk s (iV d z u f h l o) 41]/\J<=a.aK.ls.length/\jP b a.aK.ls=jP b (s0 J a.aK.ls)
 refine y6 (λ i:Nat=> [(2, .bool false),(55,vJ i),(54,vJ a.aK.ls.length),(53, .slice a.aK.A a.aK.ls.length a.aK.c),(52,vP t 1),(51, .bool (!U)),(50, .bool (!U)),(49, .bool U),(48,vJ a.aK.ls.length),(47, .slice a.aK.A a.aK.ls.length a.aK.c),(46,vP t 1),(45, .bool (decide ((a.aU:Int)<=(P.aU:Int)))),(44, .bool (decide ((a.aU:Int)<=(P.aU:Int)))),(43, .bool (decide ((a.aU:Int)<=(P.aU:Int)))),(42,vU P.aU),(41, .pointer (some ⟨ab f,ao f+(b - 1) *2,none⟩)),(40, .pointer (some ⟨ab f,ao f+(b - 1) *2,none⟩)),(39,vJ (b - 1)),(38,vJ b),(37, .slice f d.ak.ls.length h),(36,vP s 6),(35,vU a.aU),(34,vP t 0),(33, .bool (decide ((b:Int) > 0))),(32, .bool (decide ((b:Int) > 0))),(31,vJ b),(3,vJ b),(4,vP t 0),(30, .agg (bf.cells a).toArray),(29, .pointer (some ⟨ab f,ao f+b *2,none⟩)),(28,vJ b),(27, .bool (decide ((b:Int) < (d.ak.ls.length:Int)))),(26,vJ b),(25,vJ d.ak.ls.length),(24, .slice f d.ak.ls.length h),(1,vP s 0)]) fE (λ i=>a.aK.ls.length - i) 0 ⟨rfl,rfl,rfl,rfl,rfl,rfl,rfl,rfl,rfl,rfl,rfl,rfl,rfl,rfl,rfl,rfl,rfl,rfl,rfl,rfl,rfl,rfl,rfl,rfl,rfl,rfl,rfl,rfl,rfl,rfl,rfl,rfl,rfl,rfl,rfl,rfl,trivial⟩ (aN.2 ⟨fD,e8,rfl⟩) ?_
 rintro J ik dE
 show Wp _ _ _ [(2, .bool false),(55,vJ J),(54,vJ a.aK.ls.length),(53, .slice a.aK.A a.aK.ls.length a.aK.c),(52,vP t 1),(51, .bool (!U)),(50, .bool (!U)),(49, .bool U),(48,vJ a.aK.ls.length),(47, .slice a.aK.A a.aK.ls.length a.aK.c),(46,vP t 1),(45, .bool (decide ((a.aU:Int)<=(P.aU:Int)))),(44, .bool (decide ((a.aU:Int)<=(P.aU:Int)))),(43, .bool (decide ((a.aU:Int)<=(P.aU:Int)))),(42,vU P.aU),(41, .pointer (some ⟨ab f,ao f+(b - 1) *2,none⟩)),(40, .pointer (some ⟨ab f,ao f+(b - 1) *2,none⟩)),(39,vJ (b - 1)),(38,vJ b),(37, .slice f d.ak.ls.length h),(36,vP s 6),(35,vU a.aU),(34,vP t 0),(33, .bool (decide ((b:Int) > 0))),(32, .bool (decide ((b:Int) > 0))),(31,vJ b),(3,vJ b),(4,vP t 0),(30, .agg (bf.cells a).toArray),(29, .pointer (some ⟨ab f,ao f+b *2,none⟩)),(28,vJ b),(27, .bool (decide ((b:Int) < (d.ak.ls.length:Int)))),(26,vJ b),(25,vJ d.ak.ls.length),(24, .slice f d.ak.ls.length h),(1,vP s 0)] _ _
 obtain⟨aO,gq,aP⟩:=aN.1 dE
 refine sr (Kz (.bool (decide ((J:Int) < (a.aK.ls.length:Int)))) (nt (H7 ?_)))
 by_cases dH:(J:Int) < (a.aK.ls.length:Int)
 obtain⟨ag,bz⟩:=dG (ls:=a.aK.ls) (i:=J) aX.len f5 (aO.ro (p _ (D4 K)).1) f2
 have bB:=drop_at bz
 refine jT (dT dH) (sk (H7 (bo (sr (fw (.pointer (some ⟨ab a.aK.A,ao a.aK.A+J *6,none⟩)) (Im (nN) rfl rfl ((aO.ro (p _ (D4 K)).1).addr (i:=J) e8) e8) (fw (.agg (aX.cells ag).toArray) (Il rfl (Io (cs:=(aX.cells ag)) C4 C2 ((aO.ro (p _ (D4 K)).1).elem aX.len bz f5))) ?_))))))
 refine bW [vI 0, .string ⟨v0 []⟩, .string ⟨v0 []⟩, .string ⟨v0 []⟩, .string ⟨v0 []⟩,vI 0] 68 aO ?_
 intro il iq fF
 refine cu (aX.cells ag) 0 fF C2 ?_
 intro iy dJ
 refine ns (La (aX.cells ag) dJ 0 C4 C2 ?_)
 obtain⟨aQ,aR⟩:∃ q,dW ag=q:=⟨_,rfl⟩
 obtain⟨iA,dK,gu,dL,gy⟩:=Ia dJ
 refine cl Tryz.call63 (nk _ _ ag aQ dK aR) ?_
 rintro _ iB ⟨rfl,dM,bC⟩
 have dN:=dL _ _ dM
 replace bC: ¬ (aQ=0)\/(1<=ag.aB/\ag.aB<=5):=bC
 refine fw (.bool (decide (¬ (aQ=0)))) (Iu (e:= !(decide (aQ=0))) yk decide_not.symm) (nt ?_)
 by_cases bi:aQ=0
 refine jF (dF (Lp bi)) (IG (bN (Ib (H8 (fw (vJ (J+1)) (Ig (e:=B5.wrap ((J:Int)+1)) yk f1) (Mz rfl (B6 ?_)))))))
 have dO:=dN.pk [1,2]
 exact Iq (J+1) ⟨rfl,rfl,rfl,rfl,rfl,rfl,rfl,rfl,rfl,rfl,rfl,rfl,rfl,rfl,rfl,rfl,rfl,rfl,rfl,rfl,rfl,rfl,rfl,rfl,rfl,rfl,rfl,rfl,rfl,rfl,rfl,rfl,rfl,rfl,rfl,rfl,trivial⟩ (aN.2 ⟨dO,e8,et (aP) (et (congrArg (λ q=>jP b q) bB) (et (ae aR) (ip bi)))⟩) (by show a.aK.ls.length - (J+1) < a.aK.ls.length - J; omega)
 refine jT (dT bi) (sr (An rfl (rt (bR (tR (tR (bR (bR (tR (tR (bR (tR (rs ?_)))))))))))))
 have dP:=dN.pk []
 obtain rfl:_=false:=zj hr (et (iN m) (et (iN O) (iG (et (M) (et (congrArg (λ q=>gI d q b) S) (et (ip n) (et (ae (bu aC)) (et (iN F) (et (ae aD) (et (ip aJ) (uV (et (aP) (et (congrArg (λ q=>jP b q) bB) (et (ae aR) (iN bi)))))))))))))))
 exact⟨rfl,dP⟩
 refine jF (dF dH) (B7 (Ip ?_))
 have bT:jP b a.aK.ls=y0 ():=et (aP) (et (congrArg (λ q=>jP b q) (eX (ls:=a.aK.ls) (i:=J) e8)) rfl)
 refine Ip (Iz (bN (Ib (H8 (fw (vJ (b+1)) (Ig (e:=B5.wrap ((b:Int)+1)) yk f1) (Mz rfl (B6 ?_)))))))
 have dQ:=aO.pk [1]
 exact Iq (b+1) ⟨rfl,rfl,rfl,rfl,rfl,trivial⟩ (aB.2 ⟨dQ,e8,et (M) (et (congrArg (λ q=>gI d q b) S) (et (ip n) (et (ae (bu aC)) (et (iN F) (et (ae aD) (et (ip aJ) (sP bT)))))))⟩) (by show d.ak.ls.length - (b+1) < d.ak.ls.length - b; omega)
 refine jT (cn aJ) (sr (An rfl (rt (tR (bR (tR (tR (bR (tR (rs ?_))))))))))
 have dR:=bg.pk []
 obtain rfl:_=false:=zj hr (et (iN m) (et (iN O) (iG (et (M) (et (congrArg (λ q=>gI d q b) S) (et (ip n) (et (ae (bu aC)) (et (iN F) (et (ae aD) (eF aJ))))))))))
 exact⟨rfl,dR⟩
 refine Ih (rs:= []) 3 rfl rfl rfl (dF n) e9 (Ih (rs:= []) 4 rfl rfl rfl (dF n) e9 (Ih (rs:= []) 5 rfl rfl rfl (dF n) e9 (Ih (rs:= []) 6 rfl rfl rfl (dF n) e9 (Ih (rs:= []) 7 rfl rfl rfl (dF n) e9 (Ih (rs:= []) 8 rfl rfl rfl (dF n) e9 (Ih (rs:= []) 9 rfl rfl rfl (dF n) e9 (Ih (rs:= []) 10 rfl rfl rfl (dF n) e9 (Ih (rs:= []) 11 rfl rfl rfl (dF n) e9 (Ih (rs:= []) 12 rfl rfl rfl (dF n) e9 (qt (v:= .bool false) 13 rfl (λ _ _=>H6 rfl (dF n) rfl) (qv 14 rfl rfl (Ii (v:=vP t 1) (rs:= []) 15 rfl rfl rfl rfl e9 (λ _ _=>yk) (Ii (v:= .slice a.aK.A a.aK.ls.length a.aK.c) (rs:= []) 16 rfl rfl rfl rfl e9 (λ _ ⟨_,H9⟩=>Il rfl (bQ.one E3 (IU (H9.cls (i:=0) rfl) rfl))) (Ii (v:=vJ a.aK.ls.length) (rs:= []) 17 rfl rfl rfl rfl e9 (λ _ _=>yk) ?_))))))))))))))
 obtain⟨G,W⟩:∃ q,mQ (a.aK.ls.length:Int) 24=q:=⟨_,rfl⟩
 obtain⟨gz,bU,fG,bV,fH⟩:=Ia bS
 refine Ja 18 rfl rfl rfl rfl e9 (IB E4 rfl (qP _ _ (a.aK.ls.length:Int) 24 G bU W) ?_)
 rintro _ gB ⟨rfl,bX⟩
 have aF:=bV _ _ bX
 refine⟨.inr ⟨_,aF⟩, ?_⟩
 refine Ii (v:= .bool (!G)) (rs:= []) 19 rfl rfl rfl rfl e9 (λ _ _=>yk) (qt (v:= .bool (!G)) 20 rfl (λ _ _=>H6 rfl rfl rfl) (qn (Ib ?_)))
 rcases Lr (G) with V | V
 refine jF (cn V) (sk (sr (Kz (vP t 1) (Lz (.slice a.aK.A a.aK.ls.length a.aK.c) aF 0 E3 (Kz (vJ a.aK.ls.length) (Mn rfl (bo ?_)))))))
 have dS:=aF.pf []
 obtain⟨dU,av⟩:=mI λ (r:Nat) w'=>Own w D w' [blk t (bf.cells a) 60,blk s (iV d z u f h l o) 41]/\r<=a.aK.ls.length/\jQ b a.aK.ls=jQ b (s0 r a.aK.ls)
 refine y6 (λ i:Nat=> [(2, .bool false),(55,vJ i),(54,vJ a.aK.ls.length),(53, .slice a.aK.A a.aK.ls.length a.aK.c),(52,vP t 1),(51, .bool (!G)),(50, .bool (!G)),(49, .bool G),(48,vJ a.aK.ls.length),(47, .slice a.aK.A a.aK.ls.length a.aK.c),(46,vP t 1),(45, .bool false),(44, .bool false),(43,undef),(42,undef),(41,undef),(40,undef),(39,undef),(38,undef),(37,undef),(36,undef),(35,undef),(34,undef),(33, .bool (decide ((b:Int) > 0))),(32, .bool (decide ((b:Int) > 0))),(31,vJ b),(3,vJ b),(4,vP t 0),(30, .agg (bf.cells a).toArray),(29, .pointer (some ⟨ab f,ao f+b *2,none⟩)),(28,vJ b),(27, .bool (decide ((b:Int) < (d.ak.ls.length:Int)))),(26,vJ b),(25,vJ d.ak.ls.length),(24, .slice f d.ak.ls.length h),(1,vP s 0)]) dU (λ i=>a.aK.ls.length - i) 0 ⟨rfl,rfl,rfl,rfl,rfl,rfl,rfl,rfl,rfl,rfl,rfl,rfl,rfl,rfl,rfl,rfl,rfl,rfl,rfl,rfl,rfl,rfl,rfl,rfl,rfl,rfl,rfl,rfl,rfl,rfl,rfl,rfl,rfl,rfl,rfl,rfl,trivial⟩ (av.2 ⟨dS,e8,rfl⟩) ?_
 rintro r gD bY
 show Wp _ _ _ [(2, .bool false),(55,vJ r),(54,vJ a.aK.ls.length),(53, .slice a.aK.A a.aK.ls.length a.aK.c),(52,vP t 1),(51, .bool (!G)),(50, .bool (!G)),(49, .bool G),(48,vJ a.aK.ls.length),(47, .slice a.aK.A a.aK.ls.length a.aK.c),(46,vP t 1),(45, .bool false),(44, .bool false),(43,undef),(42,undef),(41,undef),(40,undef),(39,undef),(38,undef),(37,undef),(36,undef),(35,undef),(34,undef),(33, .bool (decide ((b:Int) > 0))),(32, .bool (decide ((b:Int) > 0))),(31,vJ b),(3,vJ b),(4,vP t 0),(30, .agg (bf.cells a).toArray),(29, .pointer (some ⟨ab f,ao f+b *2,none⟩)),(28,vJ b),(27, .bool (decide ((b:Int) < (d.ak.ls.length:Int)))),(26,vJ b),(25,vJ d.ak.ls.length),(24, .slice f d.ak.ls.length h),(1,vP s 0)] _ _
 obtain⟨ah,fI,ax⟩:=av.1 bY
 refine sr (Kz (.bool (decide ((r:Int) < (a.aK.ls.length:Int)))) (nt (H7 ?_)))
 by_cases bD:(r:Int) < (a.aK.ls.length:Int)
 obtain⟨N,aS⟩:=dG (ls:=a.aK.ls) (i:=r) aX.len f5 (ah.ro (p _ (D4 K)).1) f2
 have aT:=drop_at aS
 refine jT (dT bD) (sk (H7 (bo (sr (fw (.pointer (some ⟨ab a.aK.A,ao a.aK.A+r *6,none⟩)) (Im (nN) rfl rfl ((ah.ro (p _ (D4 K)).1).addr (i:=r) e8) e8) (fw (.agg (aX.cells N).toArray) (Il rfl (Io (cs:=(aX.cells N)) C4 C2 ((ah.ro (p _ (D4 K)).1).elem aX.len aS f5))) ?_))))))
 refine bW [vI 0, .string ⟨v0 []⟩, .string ⟨v0 []⟩, .string ⟨v0 []⟩, .string ⟨v0 []⟩,vI 0] 68 ah ?_
 intro gF gG dV
 refine cu (aX.cells N) 0 dV C2 ?_
 intro gH bE
 refine ns (La (aX.cells N) bE 0 C4 C2 ?_)
 obtain⟨ai,ay⟩:∃ q,dW N=q:=⟨_,rfl⟩
 obtain⟨gJ,bZ,fJ,cz,fK⟩:=Ia bE
 refine cl Tryz.call63 (nk _ _ N ai bZ ay) ?_
 rintro _ gK ⟨rfl,cB,aU⟩
 have bF:=cz _ _ cB
 replace aU: ¬ (ai=0)\/(1<=N.aB/\N.aB<=5):=aU
 refine fw (.bool (decide (¬ (ai=0)))) (Iu (e:= !(decide (ai=0))) yk decide_not.symm) (nt ?_)
 by_cases aG:ai=0
 refine jF (dF (Lp aG)) (IG (bN (Ib (H8 (fw (vJ (r+1)) (Ig (e:=B5.wrap ((r:Int)+1)) yk f1) (Mz rfl (B6 ?_)))))))
 have dX:=bF.pk [1,2]
 exact Iq (r+1) ⟨rfl,rfl,rfl,rfl,rfl,rfl,rfl,rfl,rfl,rfl,rfl,rfl,rfl,rfl,rfl,rfl,rfl,rfl,rfl,rfl,rfl,rfl,rfl,rfl,rfl,rfl,rfl,rfl,rfl,rfl,rfl,rfl,rfl,rfl,rfl,rfl,trivial⟩ (av.2 ⟨dX,e8,et (ax) (et (congrArg (λ q=>jQ b q) aT) (et (ae ay) (ip aG)))⟩) (by show a.aK.ls.length - (r+1) < a.aK.ls.length - r; omega)
 refine jT (dT aG) (sr (An rfl (rt (bR (tR (tR (bR (bR (tR (tR (bR (tR (rs ?_)))))))))))))
 have dY:=bF.pk []
 obtain rfl:_=false:=zj hr (et (iN m) (et (iN O) (iG (et (M) (et (congrArg (λ q=>gI d q b) S) (et (iN n) (et (ae W) (et (ip V) (uV (et (ax) (et (congrArg (λ q=>jQ b q) aT) (et (ae ay) (iN aG)))))))))))))
 exact⟨rfl,dY⟩
 refine jF (dF bD) (B7 (Ip ?_))
 have cK:jQ b a.aK.ls=y0 ():=et (ax) (et (congrArg (λ q=>jQ b q) (eX (ls:=a.aK.ls) (i:=r) e8)) rfl)
 refine Ip (Iz (bN (Ib (H8 (fw (vJ (b+1)) (Ig (e:=B5.wrap ((b:Int)+1)) yk f1) (Mz rfl (B6 ?_)))))))
 have dZ:=ah.pk [1]
 exact Iq (b+1) ⟨rfl,rfl,rfl,rfl,rfl,trivial⟩ (aB.2 ⟨dZ,e8,et (M) (et (congrArg (λ q=>gI d q b) S) (et (iN n) (et (ae W) (et (ip V) (sP cK)))))⟩) (by show d.ak.ls.length - (b+1) < d.ak.ls.length - b; omega)
 refine jT (cn V) (sr (An rfl (rt (tR (bR (tR (tR (bR (tR (rs ?_))))))))))
 have d9:=aF.pk []
 obtain rfl:_=false:=zj hr (et (iN m) (et (iN O) (iG (et (M) (et (congrArg (λ q=>gI d q b) S) (et (iN n) (et (ae W) (eF V))))))))
 exact⟨rfl,d9⟩
 refine jF (dF dz) (B7 (Ip ?_))
 have X:gI d d.ak.ls 0=y0 ():=et (M) (et (congrArg (λ q=>gI d q b) (eX (ls:=d.ak.ls) (i:=b) e8)) rfl)
 refine Ip (Iz (Ib (H7 (sr (Kz (vP s 7) (Lz (.slice l d.af.ls.length o) aI 0 E2 (Kz (vJ d.af.ls.length) (Mn rfl (bo ?_)))))))))
 have ed:=aI.pf []
 obtain⟨ek,Y⟩:=mI λ (g:Nat) w'=>Own w D w' [blk s (iV d z u f h l o) 41]/\g<=d.af.ls.length/\iw d d.af.ls 0=iw d (s0 g d.af.ls) g
 refine y6 (λ i:Nat=> [(2, .bool false),(67,vJ i),(66,vJ d.af.ls.length),(65, .slice l d.af.ls.length o),(1,vP s 0)]) ek (λ i=>d.af.ls.length - i) 0 ⟨rfl,rfl,rfl,rfl,rfl,trivial⟩ (Y.2 ⟨ed,e8,rfl⟩) ?_
 rintro g gL cO
 show Wp _ _ _ [(2, .bool false),(67,vJ g),(66,vJ d.af.ls.length),(65, .slice l d.af.ls.length o),(1,vP s 0)] _ _
 obtain⟨y,fM,L⟩:=Y.1 cO
 refine sr (Kz (.bool (decide ((g:Int) < (d.af.ls.length:Int)))) (nt (H7 ?_)))
 by_cases bG:(g:Int) < (d.af.ls.length:Int)
 obtain⟨C,aV⟩:=dG (ls:=d.af.ls) (i:=g) gT f5 (y.ro B) f2
 have T:=drop_at aV
 refine jT (dT bG) (sk (H7 (bo (sr (Mz rfl (fw (.pointer (some ⟨ab l,ao l+g *1,none⟩)) (Im (iH) rfl rfl ((y.ro B).addr (i:=g) e8) e8) (fw (vU C) (Il rfl (bQ.one E1 (((y.ro B).elem gT aV f5).at_ (k:=0) rfl))) (Az rfl (Ar rfl (Mz rfl (Kz (.bool (decide ((g:Int) > 0))) (Mz rfl ?_))))))))))))
 by_cases j:(g:Int) > 0
 refine gw (vU C) (dT j) (Ie rfl) (Gz (vP s 7) (dT j) (Gl (.slice l d.af.ls.length o) (dT j) y 0 E2 (gw (vJ g) (dT j) (Ie rfl) (gw (vJ (g - 1)) (dT j) (Ig (e:=B5.wrap ((g:Int) - 1)) yk f1) ?_))))
 obtain⟨aH,Z⟩:=dG (ls:=d.af.ls) (i:=g - 1) gT f5 (y.ro B) f2
 refine gw (.pointer (some ⟨ab l,ao l+(g - 1) *1,none⟩)) (dT j) (Im (iH) rfl rfl ((y.ro B).addr (i:=g - 1) e8) e8) (gw (vU aH) (dT j) (Il rfl (bQ.one E1 (((y.ro B).elem gT Z f5).at_ (k:=0) rfl))) (Gz (.bool (decide ((C:Int)<=(aH:Int)))) (dT j) (fw (.bool (decide ((C:Int)<=(aH:Int)))) (Ic rfl (dT j) rfl) (Mz rfl ?_))))
 by_cases E:(C:Int)<=(aH:Int)
 refine Sz (dT E) (Sz (dT E) (Sz (dT E) (fw (.bool true) (Ic rfl (dT E) rfl) (nt (jt (sr (An rfl (rt (bR (tR (tR (bR (tR (rs ?_))))))))))))))
 have eu:=y.pk []
 obtain rfl:_=false:=zj hr (et (iN m) (et (iN O) (et (lw X) (iG (et (L) (et (congrArg (λ q=>iw d q g) T) (et (ip j) (et (ae (bu Z)) (ip E)))))))))
 exact⟨rfl,eu⟩
 refine Ga (iV d z u f h l o) (dF E) y 0 E6 E7 (gw (vU C) (dF E) (Ie rfl) ?_)
 obtain⟨aW,az⟩:∃ q,o9 d C=q:=⟨_,rfl⟩
 obtain⟨gM,cZ,aa,df,fP⟩:=Ia y
 refine oh (dF E) Tryz.call64 (uq _ _ d z d.ah.ls.length u f d.ak.ls.length h Q l d.af.ls.length o C aW cZ rfl (aa _ aK) e8 R rfl (aa _ I) e8 (λ x9 h9=>⟨aa _ (p x9 h9).1,(p x9 h9).2⟩) rfl (aa _ B) e8 az) ?_
 rintro _ gN ⟨rfl,dh⟩
 have bI:=df _ _ dh
 refine fw (.bool aW) (H6 rfl (dF E) rfl) (nt ?_)
 rcases Lr (aW) with aj | aj
 refine jT aj (sr (An rfl (rt (bR (tR (tR (bR (tR (rs ?_)))))))))
 have eG:=bI.pk []
 obtain rfl:_=false:=zj hr (et (iN m) (et (iN O) (et (lw X) (iG (et (L) (et (congrArg (λ q=>iw d q g) T) (et (ip j) (et (ae (bu Z)) (et (iN E) (et (ae az) (ip aj)))))))))))
 exact⟨rfl,eG⟩
 refine jF aj (IG (bN (Ib (H8 (fw (vJ (g+1)) (Ig (e:=B5.wrap ((g:Int)+1)) yk f1) (Mz rfl (B6 ?_)))))))
 have eH:=bI.pf []
 exact Iq (g+1) ⟨rfl,rfl,rfl,rfl,rfl,trivial⟩ (Y.2 ⟨eH,e8,et (L) (et (congrArg (λ q=>iw d q g) T) (et (ip j) (et (ae (bu Z)) (et (iN E) (et (ae az) (eF aj))))))⟩) (by show d.af.ls.length - (g+1) < d.af.ls.length - g; omega)
 refine Sz (dF j) (Sz (dF j) (Sz (dF j) (Sz (dF j) (Sz (dF j) (Sz (dF j) (Sz (dF j) (Sz (dF j) (fw (.bool false) (H6 rfl (dF j) rfl) (Mz rfl (Ga (iV d z u f h l o) rfl y 0 E6 E7 (gw (vU C) rfl (Ie rfl) ?_)))))))))))
 obtain⟨aZ,aA⟩:∃ q,o9 d C=q:=⟨_,rfl⟩
 obtain⟨gP,di,af,dm,fQ⟩:=Ia y
 refine oh rfl Tryz.call64 (uq _ _ d z d.ah.ls.length u f d.ak.ls.length h Q l d.af.ls.length o C aZ di rfl (af _ aK) e8 R rfl (af _ I) e8 (λ x9 h9=>⟨af _ (p x9 h9).1,(p x9 h9).2⟩) rfl (af _ B) e8 aA) ?_
 rintro _ gQ ⟨rfl,dn⟩
 have bJ:=dm _ _ dn
 refine fw (.bool aZ) (H6 rfl rfl rfl) (nt ?_)
 rcases Lr (aZ) with ak | ak
 refine jT ak (sr (An rfl (rt (bR (tR (tR (bR (tR (rs ?_)))))))))
 have eO:=bJ.pk []
 obtain rfl:_=false:=zj hr (et (iN m) (et (iN O) (et (lw X) (iG (et (L) (et (congrArg (λ q=>iw d q g) T) (et (iN j) (et (ae aA) (ip ak)))))))))
 exact⟨rfl,eO⟩
 refine jF ak (IG (bN (Ib (H8 (fw (vJ (g+1)) (Ig (e:=B5.wrap ((g:Int)+1)) yk f1) (Mz rfl (B6 ?_)))))))
 have eP:=bJ.pf []
 exact Iq (g+1) ⟨rfl,rfl,rfl,rfl,rfl,trivial⟩ (Y.2 ⟨eP,e8,et (L) (et (congrArg (λ q=>iw d q g) T) (et (iN j) (et (ae aA) (eF ak))))⟩) (by show d.af.ls.length - (g+1) < d.af.ls.length - g; omega)
 refine jF (dF bG) (B7 (Ip ?_))
 have dw:iw d d.af.ls 0=y0 ():=et (L) (et (congrArg (λ q=>iw d q g) (eX (ls:=d.af.ls) (i:=g) e8)) rfl)
 refine Ip (Iz (Ib (sr (An rfl (rt (rs ?_))))))
 have eQ:=y.pk []
 obtain rfl:_=true:=zj hr (et (iN m) (et (iN O) (et (lw X) (lw dw))))
 exact⟨rfl,eQ⟩
def rO (a:bA):Bool:=
 if(a.aC.aD:Int)=0 then if((a.aC.aD:Int)=0)/\((a.aC.bv:Int)=0)/\((a.aC.di:Int)=0)/\((a.aC.aA.aN=[])/\(a.aC.aA.aT=[])) then if(a.aI:Int)=0 then if(a.aH.aN=[])/\(a.aH.aT=[]) then bnd (dU a.aC.aA) λ d=>if d=0 then bnd (dU a.aH) λ e=>decide (e=0) else false else false else bnd (dU a.aC.aA) λ f=>if f=0 then bnd (dU a.aH) λ g=>decide (g=0) else false else false else if(a.aI:Int)=0 then if(a.aH.aN=[])/\(a.aH.aT=[]) then bnd (dU a.aC.aA) λ h=>if h=0 then bnd (dU a.aH) λ i=>decide (i=0) else false else false else bnd (dU a.aC.aA) λ b=>if b=0 then bnd (dU a.aH) λ c=>decide (c=0) else false
theorem xq (w D) (a:bA) (r Q s t R y z B S C r0) (H:Own w D w []) (W:Q=a.ah.ls.length) (bn:Ro w D λ w'=>bO w' 2 r a.ah.ls.length (q2 bM.cells a.ah.ls)) (bq:a.ah.ls.length<=s/\a.ah.ls.length<=9223372036854775807) (X:s1 bf.abs z=a.ak.ls) (Y:R=a.ak.ls.length) (bu:Ro w D λ w'=>bO w' 2 t a.ak.ls.length (q2 bf.cells z)) (bv:a.ak.ls.length<=y/\a.ak.ls.length<=9223372036854775807) (bz:∀ x ∈ z,Ro w D (λ w'=>bO w' 6 x.aK.A x.aK.ls.length (q2 aX.cells x.aK.ls))/\(x.aK.ls.length<=x.aK.c/\x.aK.ls.length<=9223372036854775807)) (Z:S=a.af.ls.length) (bB:Ro w D λ w'=>bO w' 1 B a.af.ls.length (q2 (eN .u64) a.af.ls)) (bC:a.af.ls.length<=C/\a.af.ls.length<=9223372036854775807) (dx:a.ah.ls.length<=140737488355328/\a.ak.ls.length<=140737488355328/\a.af.ls.length<=140737488355328) (hr:rO a=r0):
    Calls u9 32 #[.agg (gV a.bC a.aQ a.bq a.aJ a.aD r Q s t R y B S C a.bi a.aI a.aH.aN a.aH.aT a.aC.aD a.aC.bv a.aC.di a.aC.aA.aN a.aC.aA.aT).toArray] w (dI λ v w'=>v= .bool r0/\Own w D w' []):=by
 unfold rO at hr
 subst W Y Z
 have bi:=aY X
 refine cb Tryz.func32 ?_
 refine sr ?_
 refine bW (iV a r s t y B C) 41 H ?_
 intro f dz h
 refine An rfl (H7 (sr (Kz (vP f 12) (Kz (vP f 12) (Lz (vU a.aC.aD) h 0 E1 (Kz (.bool (decide ((a.aC.aD:Int)=0))) (Mz rfl ?_)))))))
 by_cases b:(a.aC.aD:Int)=0
 refine Gz (vP f 12) (dT b) (Ga (iO.cells a.aC) (dT b) h 0 Tryz.isAgg39 Tryz.sizeOf39 (Gz (.agg #[.int .u64 0, .int .u64 0, .int .u64 0, .string ⟨v0 []⟩, .string ⟨v0 []⟩]) (dT b) (gw (.bool (decide (¬ (((a.aC.aD:Int)=0)/\((a.aC.bv:Int)=0)/\((a.aC.di:Int)=0)/\((a.aC.aA.aN=[])/\(a.aC.aA.aT=[])))))) (dT b) (Iu (e:= !(decide (((a.aC.aD:Int)=0)/\((a.aC.bv:Int)=0)/\((a.aC.di:Int)=0)/\((a.aC.aA.aN=[])/\(a.aC.aA.aT=[]))))) (Jd rfl rfl e9 rfl (fU.struct Tryz.underlying39 e9 (I6 (fq.cons (u:=vU a.aC.aD) (v:= .int .u64 0) f5 (λ _=>by kernel_rfl) (λ _=>by kernel_rfl) ((fU.int F0).up f5) (fq.cons (u:=vU a.aC.bv) (v:= .int .u64 0) f5 (λ _=>by kernel_rfl) (λ _=>by kernel_rfl) ((fU.int F0).up f5) (fq.cons (u:=vU a.aC.di) (v:= .int .u64 0) f5 (λ _=>by kernel_rfl) (λ _=>by kernel_rfl) ((fU.int F0).up f5) (fq.cons (u:= .agg (aj.cells a.aC.aA).toArray) (v:= .agg #[.string ⟨v0 []⟩, .string ⟨v0 []⟩]) f5 (λ _=>by kernel_rfl) (λ _=>by kernel_rfl) (fU.struct v8 e9 (I6 (fq.cons (u:= .string ⟨v0 a.aC.aA.aN⟩) (v:= .string ⟨v0 []⟩) f5 (λ _=>by kernel_rfl) (λ _=>by kernel_rfl) (fU.string v2) (fq.cons (u:= .string ⟨v0 a.aC.aA.aT⟩) (v:= .string ⟨v0 []⟩) f5 (λ _=>by kernel_rfl) (λ _=>by kernel_rfl) (fU.string v2) (fq.nil.up (Lm _)))) ((congrArg (decide (a.aC.aA.aN=[]) && ·) kN).trans fA))) (fq.nil.up (Lm _)))))) ((congrArg (decide ((a.aC.aD:Int)=0) && ·) ((congrArg (decide ((a.aC.bv:Int)=0) && ·) ((congrArg (decide ((a.aC.di:Int)=0) && ·) kN).trans fA)).trans fA)).trans fA)))) decide_not.symm) (fw (.bool (decide (¬ (((a.aC.aD:Int)=0)/\((a.aC.bv:Int)=0)/\((a.aC.di:Int)=0)/\((a.aC.aA.aN=[])/\(a.aC.aA.aT=[])))))) (Ic rfl (dT b) rfl) (Mz rfl ?_)))))
 by_cases d:((a.aC.aD:Int)=0)/\((a.aC.bv:Int)=0)/\((a.aC.di:Int)=0)/\((a.aC.aA.aN=[])/\(a.aC.aA.aT=[]))
 refine gw (vP f 9) (dF (Lp d)) yk (gw (vU a.aI) (dF (Lp d)) (Il rfl (bQ.one E1 (IU (h.cls (i:=0) rfl) rfl))) (gw (.bool (decide ((a.aI:Int)=0))) (dF (Lp d)) yk (gw (.bool (decide ((a.aI:Int)=0))) (dF (Lp d)) (Ie rfl) ?_)))
 by_cases j:(a.aI:Int)=0
 refine Gz (vP f 10) (dT j) (Ga (aj.cells a.aH) (dT j) h 0 C6 C5 (Gz (.agg #[.string ⟨v0 []⟩, .string ⟨v0 []⟩]) (dT j) (gw (.bool (decide (¬ ((a.aH.aN=[])/\(a.aH.aT=[]))))) (dT j) (Iu (e:= !(decide ((a.aH.aN=[])/\(a.aH.aT=[])))) (Jd rfl rfl e9 rfl (fU.struct v8 e9 (I6 (fq.cons (u:= .string ⟨v0 a.aH.aN⟩) (v:= .string ⟨v0 []⟩) f5 (λ _=>by kernel_rfl) (λ _=>by kernel_rfl) (fU.string v2) (fq.cons (u:= .string ⟨v0 a.aH.aT⟩) (v:= .string ⟨v0 []⟩) f5 (λ _=>by kernel_rfl) (λ _=>by kernel_rfl) (fU.string v2) (fq.nil.up (Lm _)))) ((congrArg (decide (a.aH.aN=[]) && ·) kN).trans fA)))) decide_not.symm) (gw (.bool (decide (¬ ((a.aH.aN=[])/\(a.aH.aT=[]))))) (dF (Lp d)) (Ic rfl (dT j) rfl) (fw (.bool (decide (¬ ((a.aH.aN=[])/\(a.aH.aT=[]))))) (H6 rfl (dF (Lp d)) rfl) (nt ?_))))))
 by_cases E:(a.aH.aN=[])/\(a.aH.aT=[])
 refine jF (dF (Lp E)) (sk (sr (Kz (vP f 12) (Kz (vP f 15) (La (aj.cells a.aC.aA) h 0 C6 C5 ?_)))))
 obtain⟨aa,F⟩:∃ q,dU a.aC.aA=q:=⟨_,rfl⟩
 obtain⟨dA,aB,bV,aC,bX⟩:=Ia h
 refine cl C7 (jd _ _ a.aC.aA aa aB F) ?_
 rintro _ dB ⟨rfl,aD⟩
 have af:=aC _ _ aD
 refine Kz (.bool (decide (aa=0))) (Mz rfl ?_)
 by_cases l:aa=0
 refine Gz (vP f 10) (dT l) (Ga (aj.cells a.aH) (dT l) af 0 C6 C5 ?_)
 obtain⟨N,T⟩:∃ q,dU a.aH=q:=⟨_,rfl⟩
 obtain⟨dC,aF,bY,aG,bZ⟩:=Ia af
 refine oh (dT l) C7 (jd _ _ a.aH N aF T) ?_
 rintro _ dD ⟨rfl,aH⟩
 have bD:=aG _ _ aH
 refine Gz (.bool (decide (N=0))) (dT l) (fw (.bool (decide (N=0))) (Ic rfl (dT l) rfl) (An rfl (rt (rs ?_))))
 have bE:=bD.pk []
 obtain rfl:=zj hr zq7
 exact⟨rfl,bE⟩
 refine Sz (dF l) (Sz (dF l) (Sz (dF l) (Sz (dF l) (fw (.bool false) (H6 rfl (dF l) rfl) (An rfl (rt (rs ?_)))))))
 have bF:=af.pk []
 obtain rfl:=zj hr zq6
 exact⟨rfl,bF⟩
 refine jT (dT E) (sr (An rfl (rt (tR (rs ?_)))))
 have bG:=h.pk []
 obtain rfl:=zj hr zq4
 exact⟨rfl,bG⟩
 refine Sz (dF j) (Sz (dF j) (Sz (dF j) (Sz (dF j) (gw (.bool false) (dF (Lp d)) (H6 rfl (dF j) rfl) (fw (.bool false) (H6 rfl (dF (Lp d)) rfl) (nt (jf (sk (sr (Kz (vP f 12) (Kz (vP f 15) (La (aj.cells a.aC.aA) h 0 C6 C5 ?_))))))))))))
 obtain⟨ag,G⟩:∃ q,dU a.aC.aA=q:=⟨_,rfl⟩
 obtain⟨dE,aI,cu,aJ,cz⟩:=Ia h
 refine cl C7 (jd _ _ a.aC.aA ag aI G) ?_
 rintro _ dG ⟨rfl,aK⟩
 have ah:=aJ _ _ aK
 refine Kz (.bool (decide (ag=0))) (Mz rfl ?_)
 by_cases m:ag=0
 refine Gz (vP f 10) (dT m) (Ga (aj.cells a.aH) (dT m) ah 0 C6 C5 ?_)
 obtain⟨O,U⟩:∃ q,dU a.aH=q:=⟨_,rfl⟩
 obtain⟨dH,aL,cB,aM,cK⟩:=Ia ah
 refine oh (dT m) C7 (jd _ _ a.aH O aL U) ?_
 rintro _ dJ ⟨rfl,aN⟩
 have bH:=aM _ _ aN
 refine Gz (.bool (decide (O=0))) (dT m) (fw (.bool (decide (O=0))) (Ic rfl (dT m) rfl) (An rfl (rt (rs ?_))))
 have bI:=bH.pk []
 obtain rfl:=zj hr zq6
 exact⟨rfl,bI⟩
 refine Sz (dF m) (Sz (dF m) (Sz (dF m) (Sz (dF m) (fw (.bool false) (H6 rfl (dF m) rfl) (An rfl (rt (rs ?_)))))))
 have bJ:=ah.pk []
 obtain rfl:=zj hr zq5
 exact⟨rfl,bJ⟩
 refine Sz (dT d) (Sz (dT d) (Sz (dT d) (Sz (dT d) (Ij rfl rfl rfl (Ij rfl rfl rfl (Ij rfl rfl rfl (Ij rfl rfl rfl (Sz (dT d) (fw (.bool true) (Ic rfl (dT d) rfl) (nt (jt (sr (An rfl (rt (tR (rs ?_))))))))))))))))
 have bK:=h.pk []
 obtain rfl:=zj hr zq2
 exact⟨rfl,bK⟩
 refine Sz (dF b) (Sz (dF b) (Sz (dF b) (Sz (dF b) (fw (.bool false) (H6 rfl (dF b) rfl) (Mz rfl (Gz (vP f 9) rfl (Gl (vU a.aI) rfl h 0 E1 (Gz (.bool (decide ((a.aI:Int)=0))) rfl (gw (.bool (decide ((a.aI:Int)=0))) rfl (Ie rfl) ?_)))))))))
 by_cases k:(a.aI:Int)=0
 refine Gz (vP f 10) (dT k) (Ga (aj.cells a.aH) (dT k) h 0 C6 C5 (Gz (.agg #[.string ⟨v0 []⟩, .string ⟨v0 []⟩]) (dT k) (gw (.bool (decide (¬ ((a.aH.aN=[])/\(a.aH.aT=[]))))) (dT k) (Iu (e:= !(decide ((a.aH.aN=[])/\(a.aH.aT=[])))) (Jd rfl rfl e9 rfl (fU.struct v8 e9 (I6 (fq.cons (u:= .string ⟨v0 a.aH.aN⟩) (v:= .string ⟨v0 []⟩) f5 (λ _=>by kernel_rfl) (λ _=>by kernel_rfl) (fU.string v2) (fq.cons (u:= .string ⟨v0 a.aH.aT⟩) (v:= .string ⟨v0 []⟩) f5 (λ _=>by kernel_rfl) (λ _=>by kernel_rfl) (fU.string v2) (fq.nil.up (Lm _)))) ((congrArg (decide (a.aH.aN=[]) && ·) kN).trans fA)))) decide_not.symm) (gw (.bool (decide (¬ ((a.aH.aN=[])/\(a.aH.aT=[]))))) rfl (Ic rfl (dT k) rfl) (fw (.bool (decide (¬ ((a.aH.aN=[])/\(a.aH.aT=[]))))) (H6 rfl rfl rfl) (nt ?_))))))
 by_cases I:(a.aH.aN=[])/\(a.aH.aT=[])
 refine jF (dF (Lp I)) (sk (sr (Kz (vP f 12) (Kz (vP f 15) (La (aj.cells a.aC.aA) h 0 C6 C5 ?_)))))
 obtain⟨ai,J⟩:∃ q,dU a.aC.aA=q:=⟨_,rfl⟩
 obtain⟨dK,aO,cO,aP,cZ⟩:=Ia h
 refine cl C7 (jd _ _ a.aC.aA ai aO J) ?_
 rintro _ dL ⟨rfl,aQ⟩
 have ak:=aP _ _ aQ
 refine Kz (.bool (decide (ai=0))) (Mz rfl ?_)
 by_cases n:ai=0
 refine Gz (vP f 10) (dT n) (Ga (aj.cells a.aH) (dT n) ak 0 C6 C5 ?_)
 obtain⟨P,V⟩:∃ q,dU a.aH=q:=⟨_,rfl⟩
 obtain⟨dM,aR,df,aS,dh⟩:=Ia ak
 refine oh (dT n) C7 (jd _ _ a.aH P aR V) ?_
 rintro _ dN ⟨rfl,aT⟩
 have bL:=aS _ _ aT
 refine Gz (.bool (decide (P=0))) (dT n) (fw (.bool (decide (P=0))) (Ic rfl (dT n) rfl) (An rfl (rt (rs ?_))))
 have bN:=bL.pk []
 obtain rfl:=zj hr zq6
 exact⟨rfl,bN⟩
 refine Sz (dF n) (Sz (dF n) (Sz (dF n) (Sz (dF n) (fw (.bool false) (H6 rfl (dF n) rfl) (An rfl (rt (rs ?_)))))))
 have aU:=ak.pk []
 obtain rfl:=zj hr zq5
 exact⟨rfl,aU⟩
 refine jT (dT I) (sr (An rfl (rt (tR (rs ?_)))))
 have aV:=h.pk []
 obtain rfl:=zj hr zq3
 exact⟨rfl,aV⟩
 refine Sz (dF k) (Sz (dF k) (Sz (dF k) (Sz (dF k) (gw (.bool false) rfl (H6 rfl (dF k) rfl) (fw (.bool false) (H6 rfl rfl rfl) (nt (jf (sk (sr (Kz (vP f 12) (Kz (vP f 15) (La (aj.cells a.aC.aA) h 0 C6 C5 ?_))))))))))))
 obtain⟨K,o⟩:∃ q,dU a.aC.aA=q:=⟨_,rfl⟩
 obtain⟨di,au,bP,av,bR⟩:=Ia h
 refine cl C7 (jd _ _ a.aC.aA K au o) ?_
 rintro _ dm ⟨rfl,ax⟩
 have L:=av _ _ ax
 refine Kz (.bool (decide (K=0))) (Mz rfl ?_)
 by_cases g:K=0
 refine Gz (vP f 10) (dT g) (Ga (aj.cells a.aH) (dT g) L 0 C6 C5 ?_)
 obtain⟨p,M⟩:∃ q,dU a.aH=q:=⟨_,rfl⟩
 obtain⟨dn,ay,bS,az,bT⟩:=Ia L
 refine oh (dT g) C7 (jd _ _ a.aH p ay M) ?_
 rintro _ dw ⟨rfl,aA⟩
 have aW:=az _ _ aA
 refine Gz (.bool (decide (p=0))) (dT g) (fw (.bool (decide (p=0))) (Ic rfl (dT g) rfl) (An rfl (rt (rs ?_))))
 have aZ:=aW.pk []
 obtain rfl:=zj hr zq5
 exact⟨rfl,aZ⟩
 refine Sz (dF g) (Sz (dF g) (Sz (dF g) (Sz (dF g) (fw (.bool false) (H6 rfl (dF g) rfl) (An rfl (rt (rs ?_)))))))
 have bg:=L.pk []
 obtain rfl:=zj hr zq4
 exact⟨rfl,bg⟩
def kE (a:Bool):Int:=
 if a=true then 0 else 1
theorem nK (w D b e) (H:Own w D w []) (hr:kE b=e):
    Calls u9 28 #[.bool b] w (dI λ v w'=>v=vI e/\Own w D w' []):=by
 unfold kE at hr
 refine cb Tryz.func28 ?_
 refine sr (An rfl (H7 (sr (Mz rfl (Kz (.bool (!b)) (nt ?_))))))
 rcases Lr (b) with a | a
 refine jF (cn a) (sk (sr (An rfl (rt (rs ?_)))))
 have c:=H.pk []
 obtain rfl:=zj hr zq1
 exact⟨rfl,c⟩
 refine jT (cn a) (sr (An rfl (rt (tR (rs ?_)))))
 have d:=H.pk []
 obtain rfl:=zj hr zq1
 exact⟨rfl,d⟩
def lG (i:bA):Int:=
 bnd (mQ i.bC 4) λ b=>if b=true then bnd (nE i.ah.ls) λ c=>if c=0 then bnd (rM i) λ d=>if d=true then bnd (rO i) λ e=>bnd (kE e) λ f=>f else bnd (kE false) λ g=>g else bnd (kE false) λ h=>h else bnd (kE false) λ a=>a
theorem qQ (w D) (a:bA) (e F b h G f m i I g r0) (H:Own w D w []) (P:F=a.ah.ls.length) (o:Ro w D λ w'=>bO w' 2 e a.ah.ls.length (q2 bM.cells a.ah.ls)) (aW:a.ah.ls.length<=b/\a.ah.ls.length<=9223372036854775807) (p:s1 bf.abs m=a.ak.ls) (Q:G=a.ak.ls.length) (u:Ro w D λ w'=>bO w' 2 h a.ak.ls.length (q2 bf.cells m)) (aZ:a.ak.ls.length<=f/\a.ak.ls.length<=9223372036854775807) (j:∀ x ∈ m,Ro w D (λ w'=>bO w' 6 x.aK.A x.aK.ls.length (q2 aX.cells x.aK.ls))/\(x.aK.ls.length<=x.aK.c/\x.aK.ls.length<=9223372036854775807)) (R:I=a.af.ls.length) (y:Ro w D λ w'=>bO w' 1 i a.af.ls.length (q2 (eN .u64) a.af.ls)) (bg:a.af.ls.length<=g/\a.af.ls.length<=9223372036854775807) (bT:a.ah.ls.length<=140737488355328/\a.ak.ls.length<=140737488355328/\a.af.ls.length<=140737488355328) (hr:lG a=r0):
    Calls u9 17 #[.agg (gV a.bC a.aQ a.bq a.aJ a.aD e F b h G f i I g a.bi a.aI a.aH.aN a.aH.aT a.aC.aD a.aC.bv a.aC.di a.aC.aA.aN a.aC.aA.aT).toArray] w (dI λ v w'=>v=vI r0/\Own w D w' []):=by
 unfold lG at hr
 subst P Q R
 have aV:=aY p
 refine cb Tryz.func17 ?_
 refine sr ?_
 refine bW (iV a e b h f i g) 41 H ?_
 intro Z bU aa
 refine Ar rfl (Kz (vP Z 0) (Lz (vI a.bC) aa 0 B3 ?_))
 obtain⟨af,n⟩:∃ q,mQ a.bC 4=q:=⟨_,rfl⟩
 obtain⟨bV,ag,bE,ah,bF⟩:=Ia aa
 refine cl E4 (qP _ _ a.bC 4 af ag n) ?_
 rintro _ bX ⟨rfl,ai⟩
 have S:=ah _ _ ai
 refine Mz rfl ?_
 rcases Lr (af) with d | d
 refine Gz (vP Z 5) d (Gl (.slice e a.ah.ls.length b) d S 0 Tryz.isAgg33 ?_)
 obtain⟨z,r⟩:∃ q,nE a.ah.ls=q:=⟨_,rfl⟩
 obtain⟨bY,aj,ak,au,bG⟩:=Ia S
 refine I9 rfl rfl d rfl (IB Tryz.call30 rfl (rJ _ _ e a.ah.ls.length b a.ah.ls z aj (ak _ o) rfl e8 r) ?_)
 rintro _ bZ ⟨rfl,av,J⟩
 have T:=au _ _ av
 replace J: ¬ (z=0)\/(1<=a.ah.ls.length/\a.ah.ls.length<=6):=J
 refine Gz (.bool (decide (z=0))) d (fw (.bool (decide (z=0))) (Ic rfl d rfl) (Mz rfl ?_))
 by_cases k:z=0
 refine Ga (iV a e b h f i g) (dT k) T 0 E6 E7 ?_
 obtain⟨U,B⟩:∃ q,rM a=q:=⟨_,rfl⟩
 obtain⟨cu,ax,s,ay,bH⟩:=Ia T
 refine oh (decide_eq_true k) Tryz.call31 (xn _ _ a e a.ah.ls.length b h a.ak.ls.length f m i a.af.ls.length g U ax rfl (s _ o) e8 p rfl (s _ u) e8 (λ x9 h9=>⟨s _ (j x9 h9).1,(j x9 h9).2⟩) rfl (s _ y) e8 g4 B) ?_
 rintro _ cz ⟨rfl,aB⟩
 have V:=ay _ _ aB
 refine fw (.bool U) (Ic rfl (dT k) rfl) (Mz rfl ?_)
 rcases Lr (U) with l | l
 refine Ga (iV a e b h f i g) l V 0 E6 E7 ?_
 obtain⟨E,K⟩:∃ q,rO a=q:=⟨_,rfl⟩
 obtain⟨cB,aC,t,aD,bI⟩:=Ia V
 refine I9 rfl rfl l rfl (IB Tryz.call32 rfl (xq _ _ a e a.ah.ls.length b h a.ak.ls.length f m i a.af.ls.length g E aC rfl (t _ o) e8 p rfl (t _ u) e8 (λ x9 h9=>⟨t _ (j x9 h9).1,(j x9 h9).2⟩) rfl (t _ y) e8 g4 K) ?_)
 rintro _ cK ⟨rfl,aF⟩
 have bi:=aD _ _ aF
 refine fw (.bool E) (Ic rfl l rfl) ?_
 obtain⟨aG,L⟩:∃ q,kE E=q:=⟨_,rfl⟩
 obtain⟨cO,aH,bJ,aI,bK⟩:=Ia bi
 refine cl F1 (nK _ _ E aG aH L) ?_
 rintro _ cZ ⟨rfl,aJ⟩
 have bn:=aI _ _ aJ
 refine An rfl (rt (rs ?_))
 have bq:=bn.pk []
 obtain rfl:=zj hr zq8
 exact⟨rfl,bq⟩
 refine Sz l (Sz l (fw (.bool false) (H6 rfl l rfl) ?_))
 obtain⟨aK,M⟩:∃ q,kE false=q:=⟨_,rfl⟩
 obtain⟨df,aL,bL,aM,bN⟩:=Ia V
 refine cl F1 (nK _ _ false aK aL M) ?_
 rintro _ dh ⟨rfl,aN⟩
 have bu:=aM _ _ aN
 refine An rfl (rt (rs ?_))
 have bv:=bu.pk []
 obtain rfl:=zj hr zq7
 exact⟨rfl,bv⟩
 refine Sz (dF k) (Sz (dF k) (fw (.bool false) (H6 rfl (dF k) rfl) (Mz rfl (Sz rfl (Sz rfl (fw (.bool false) (H6 rfl rfl rfl) ?_))))))
 obtain⟨aO,N⟩:∃ q,kE false=q:=⟨_,rfl⟩
 obtain⟨di,aP,bP,aQ,bQ⟩:=Ia T
 refine cl F1 (nK _ _ false aO aP N) ?_
 rintro _ dm ⟨rfl,aR⟩
 have bz:=aQ _ _ aR
 refine An rfl (rt (rs ?_))
 have aS:=bz.pk []
 obtain rfl:=zj hr zq5
 exact⟨rfl,aS⟩
 refine Sz d (Sz d (Sz d (Sz d (fw (.bool false) (H6 rfl d rfl) (Mz rfl (Sz rfl (Sz rfl (fw (.bool false) (H6 rfl rfl rfl) (Mz rfl (Sz rfl (Sz rfl (fw (.bool false) (H6 rfl rfl rfl) ?_))))))))))))
 obtain⟨O,C⟩:∃ q,kE false=q:=⟨_,rfl⟩
 obtain⟨bR,W,bB,X,bC⟩:=Ia S
 refine cl F1 (nK _ _ false O W C) ?_
 rintro _ bS ⟨rfl,Y⟩
 have aT:=X _ _ Y
 refine An rfl (rt (rs ?_))
 have aU:=aT.pk []
 obtain rfl:=zj hr zq3
 exact⟨rfl,aU⟩
end
open Int renaming toNat->G0
open IntKind renaming u64->H3
open Ll renaming mk->F2
open _root_.Go.Proofs.Tryz renaming call63->H1,isAgg124->G2,isAgg4->H2,sizeOf124->G1,underlying25->G3,underlying4->H0,underlying45->G4
section
open Go.RowKit
theorem ER:Elem u9 122 183 1 8:=l6 (z:= .int .i64 0) Tryz.underlying122 e9 rfl f5
structure lQ where
 ng:Int
 rC:Int
 cB:Sv Int
def lQ.cells (x:lQ):List Value:= [.int .i64 x.ng, .int .i64 x.rC, .slice x.cB.A x.cB.ls.length x.cB.c]
instance:Bk lQ:=⟨λ x _=>bk x.ng+(bk x.rC+(bk x.cB+(0)))⟩
theorem lQ.len:∀ x,(lQ.cells x).length=3:=λ _=>rfl
theorem lQ.one:∀ x, ∀ u ∈ lQ.cells x,u.oneCell'=true:=λ x u hu=>by
 simp only [lQ.cells,u3,v1,or_false] at hu
 rcases hu with rfl | rfl | rfl <;> rfl
def KU (w:World) (x:lQ):Prop:=((-9223372036854775808)<=x.ng/\x.ng<=9223372036854775807)/\((-9223372036854775808)<=x.rC/\x.rC<=9223372036854775807)/\(mM w 1 8 (eI .i64) (λ n=>(-9223372036854775808)<=n/\n<=9223372036854775807) x.cB)
instance:Inhabited lQ:=⟨⟨default,default,default⟩⟩
structure fJ where
 ng:Int
 rC:Int
 cB:Ll Int
instance:Inhabited fJ:=⟨⟨default,default,default⟩⟩
def lQ.abs (x:lQ):fJ:=⟨x.ng,x.rC,⟨x.cB.ls⟩⟩
def KR (x:lQ):List HP:= [row x.cB.A x.cB.ls.length x.cB.c (q2 (eI .i64) x.cB.ls) 183 1]
def qx (a:Int):fJ × Bool:=
 if a<=0 then(fJ.mk 0 0 (F2 ([])),false) else if a >= 15 then(fJ.mk 0 0 (F2 ([])),false) else if((G0 a:Nat):Int)=1 then(fJ.mk 2 0 (F2 ([0,1,7])),true) else if((G0 a:Nat):Int)=2 then(fJ.mk 0 2 (F2 ([0,1,2,3])),true) else if((G0 a:Nat):Int)=3 then(fJ.mk 0 1 (F2 ([4,5,6,7])),true) else if((G0 a:Nat):Int)=4 then(fJ.mk 1 0 (F2 ([4,2,3])),true) else if((G0 a:Nat):Int)=5 then(fJ.mk 0 1 (F2 ([4,8])),true) else if((G0 a:Nat):Int)=6 then(fJ.mk 1 0 (F2 ([4])),true) else if((G0 a:Nat):Int)=7 then(fJ.mk 1 0 (F2 ([4])),true) else if((G0 a:Nat):Int)=8 then(fJ.mk 0 1 (F2 ([9,6,10,11])),true) else if((G0 a:Nat):Int)=9 then(fJ.mk 1 0 (F2 ([9])),true) else if((G0 a:Nat):Int)=10 then(fJ.mk 0 1 (F2 ([9,10,12,8,13])),true) else if((G0 a:Nat):Int)=11 then(fJ.mk 1 1 (F2 ([10,14,15,13,7])),true) else if((G0 a:Nat):Int)=12 then(fJ.mk 1 1 (F2 ([10,14,15])),true) else if((G0 a:Nat):Int)=13 then(fJ.mk 1 0 (F2 ([10])),true) else(fJ.mk 1 0 (F2 ([10])),true)
theorem xH (w D c) (r0:fJ) (r1) (H:Own w D w []) (hr:qx c=(r0,r1)):
    Calls u9 45 #[vI c] w (dI λ v w'=> ∃ O P,v= .tuple #[.agg #[vI r0.ng,vI r0.rC, .slice O r0.cB.ls.length P], .bool r1]/\Own w D w' [row O r0.cB.ls.length P (q2 (eI .i64) r0.cB.ls) 183 1]/\(r0.cB.ls.length<=5)):=by
 refine cb Tryz.func45 ?_
 refine sr ?_
 refine bW [vI 0,vI 0, .slice none 0 0] 124 H ?_
 intro cO cZ bu
 refine Ar rfl ?_
 refine jN [vI 0,vI 1,vI 7] 183 1 3 bu ?_
 intro s df ag
 replace ag:=IL (y:=row s 3 3 (q2 (eI .i64) ([0,1,7])) 183 1) rfl ag
 refine Kz (.agg #[vI 2,vI 0, .slice s 3 3]) ?_
 refine jN [vI 0,vI 1,vI 2,vI 3] 183 1 4 ag ?_
 intro t dh ah
 replace ah:=IL (y:=row t 4 4 (q2 (eI .i64) ([0,1,2,3])) 183 1) rfl ah
 refine Kz (.agg #[vI 0,vI 2, .slice t 4 4]) ?_
 refine jN [vI 4,vI 5,vI 6,vI 7] 183 1 4 ah ?_
 intro u di ai
 replace ai:=IL (y:=row u 4 4 (q2 (eI .i64) ([4,5,6,7])) 183 1) rfl ai
 refine Kz (.agg #[vI 0,vI 1, .slice u 4 4]) ?_
 refine jN [vI 4,vI 2,vI 3] 183 1 3 ai ?_
 intro x dm aj
 replace aj:=IL (y:=row x 3 3 (q2 (eI .i64) ([4,2,3])) 183 1) rfl aj
 refine Kz (.agg #[vI 1,vI 0, .slice x 3 3]) ?_
 refine jN [vI 4,vI 8] 183 1 2 aj ?_
 intro z dn ak
 replace ak:=IL (y:=row z 2 2 (q2 (eI .i64) ([4,8])) 183 1) rfl ak
 refine Kz (.agg #[vI 0,vI 1, .slice z 2 2]) ?_
 refine jN [vI 4] 183 1 1 ak ?_
 intro A dw au
 replace au:=IL (y:=row A 1 1 (q2 (eI .i64) ([4])) 183 1) rfl au
 refine Kz (.agg #[vI 1,vI 0, .slice A 1 1]) ?_
 refine jN [vI 4] 183 1 1 au ?_
 intro B dx av
 replace av:=IL (y:=row B 1 1 (q2 (eI .i64) ([4])) 183 1) rfl av
 refine Kz (.agg #[vI 1,vI 0, .slice B 1 1]) ?_
 refine jN [vI 9,vI 6,vI 10,vI 11] 183 1 4 av ?_
 intro C dz ax
 replace ax:=IL (y:=row C 4 4 (q2 (eI .i64) ([9,6,10,11])) 183 1) rfl ax
 refine Kz (.agg #[vI 0,vI 1, .slice C 4 4]) ?_
 refine jN [vI 9] 183 1 1 ax ?_
 intro E dA ay
 replace ay:=IL (y:=row E 1 1 (q2 (eI .i64) ([9])) 183 1) rfl ay
 refine Kz (.agg #[vI 1,vI 0, .slice E 1 1]) ?_
 refine jN [vI 9,vI 10,vI 12,vI 8,vI 13] 183 1 5 ay ?_
 intro F dB az
 replace az:=IL (y:=row F 5 5 (q2 (eI .i64) ([9,10,12,8,13])) 183 1) rfl az
 refine Kz (.agg #[vI 0,vI 1, .slice F 5 5]) ?_
 refine jN [vI 10,vI 14,vI 15,vI 13,vI 7] 183 1 5 az ?_
 intro G dC aA
 replace aA:=IL (y:=row G 5 5 (q2 (eI .i64) ([10,14,15,13,7])) 183 1) rfl aA
 refine Kz (.agg #[vI 1,vI 1, .slice G 5 5]) ?_
 refine jN [vI 10,vI 14,vI 15] 183 1 3 aA ?_
 intro I dD aB
 replace aB:=IL (y:=row I 3 3 (q2 (eI .i64) ([10,14,15])) 183 1) rfl aB
 refine Kz (.agg #[vI 1,vI 1, .slice I 3 3]) ?_
 refine jN [vI 10] 183 1 1 aB ?_
 intro J dE aC
 replace aC:=IL (y:=row J 1 1 (q2 (eI .i64) ([10])) 183 1) rfl aC
 refine Kz (.agg #[vI 1,vI 0, .slice J 1 1]) ?_
 refine jN [vI 10] 183 1 1 aC ?_
 intro K dG aD
 replace aD:=IL (y:=row K 1 1 (q2 (eI .i64) ([10])) 183 1) rfl aD
 refine Kz (.agg #[vI 1,vI 0, .slice K 1 1]) (Kz (.agg #[vI 0,vI 0, .slice none 0 0,vI 2,vI 0, .slice s 3 3,vI 0,vI 2, .slice t 4 4,vI 0,vI 1, .slice u 4 4,vI 1,vI 0, .slice x 3 3,vI 0,vI 1, .slice z 2 2,vI 1,vI 0, .slice A 1 1,vI 1,vI 0, .slice B 1 1,vI 0,vI 1, .slice C 4 4,vI 1,vI 0, .slice E 1 1,vI 0,vI 1, .slice F 5 5,vI 1,vI 1, .slice G 5 5,vI 1,vI 1, .slice I 3 3,vI 1,vI 0, .slice J 1 1,vI 1,vI 0, .slice K 1 1]) ?_)
 refine bW [vI 0,vI 0, .slice none 0 0,vI 0,vI 0, .slice none 0 0,vI 0,vI 0, .slice none 0 0,vI 0,vI 0, .slice none 0 0,vI 0,vI 0, .slice none 0 0,vI 0,vI 0, .slice none 0 0,vI 0,vI 0, .slice none 0 0,vI 0,vI 0, .slice none 0 0,vI 0,vI 0, .slice none 0 0,vI 0,vI 0, .slice none 0 0,vI 0,vI 0, .slice none 0 0,vI 0,vI 0, .slice none 0 0,vI 0,vI 0, .slice none 0 0,vI 0,vI 0, .slice none 0 0,vI 0,vI 0, .slice none 0 0] 184 aD ?_
 intro g dH bv
 refine cu [vI 0,vI 0, .slice none 0 0,vI 2,vI 0, .slice s 3 3,vI 0,vI 2, .slice t 4 4,vI 0,vI 1, .slice u 4 4,vI 1,vI 0, .slice x 3 3,vI 0,vI 1, .slice z 2 2,vI 1,vI 0, .slice A 1 1,vI 1,vI 0, .slice B 1 1,vI 0,vI 1, .slice C 4 4,vI 1,vI 0, .slice E 1 1,vI 0,vI 1, .slice F 5 5,vI 1,vI 1, .slice G 5 5,vI 1,vI 1, .slice I 3 3,vI 1,vI 0, .slice J 1 1,vI 1,vI 0, .slice K 1 1] 0 bv Tryz.sizeOf184 ?_
 intro dJ a
 refine nt (H7 (sr (Mz rfl (Kz (.bool (decide (c<=0))) (Mz rfl ?_)))))
 by_cases b:c<=0
 refine Sz (dT b) (Sz (dT b) (fw (.bool true) (Ic rfl (dT b) rfl) (nt (jt (sr (Kz (.agg #[vI 0,vI 0, .slice none 0 0]) ?_))))))
 have bz:=a.pf [15]
 refine cu [vI 0,vI 0, .slice none 0 0] 0 bz G1 ?_
 intro bA aF
 refine An rfl (rt (tR (Ir (gq (vs:= [.agg #[vI 0,vI 0, .slice none 0 0], .bool false]) rfl (bT.cell rfl (Io (cs:= [vI 0,vI 0, .slice none 0 0]) G2 G1 ((aF.cls (i:=0) rfl).lit (k:=0) (m:=3) rfl)) (bT.tmp rfl bT.nil)) (Lh rfl)) ?_)))
 have bB:Own w D bA (row none 0 0 (q2 (eI .i64) ([])) 183 1::_):=aF.free (bZ 183 1)
 have bC:=bB.pk [0]
 obtain⟨rfl,rfl⟩:=fB (zj hr (show _=(fJ.mk 0 0 (F2 ([])),false) from ip b))
 exact⟨none,0,rfl,bC,g7⟩
 refine gw (vI c) (dF b) (Ie rfl) (Gz (.bool (decide (c >= 15))) (dF b) (fw (.bool (decide (c >= 15))) (H6 rfl (dF b) rfl) (nt ?_)))
 by_cases d:c >= 15
 refine jT (dT d) (sr (Kz (.agg #[vI 0,vI 0, .slice none 0 0]) ?_))
 have bD:=a.pf [15]
 refine cu [vI 0,vI 0, .slice none 0 0] 0 bD G1 ?_
 intro bE aG
 refine An rfl (rt (tR (Ir (gq (vs:= [.agg #[vI 0,vI 0, .slice none 0 0], .bool false]) rfl (bT.cell rfl (Io (cs:= [vI 0,vI 0, .slice none 0 0]) G2 G1 ((aG.cls (i:=0) rfl).lit (k:=0) (m:=3) rfl)) (bT.tmp rfl bT.nil)) (Lh rfl)) ?_)))
 have bF:Own w D bE (row none 0 0 (q2 (eI .i64) ([])) 183 1::_):=aG.free (bZ 183 1)
 have bG:=bF.pk [0]
 obtain⟨rfl,rfl⟩:=fB (zj hr (show _=(fJ.mk 0 0 (F2 ([])),false) from et (iN b) (ip d)))
 exact⟨none,0,rfl,bG,g7⟩
 refine jF (dF d) (sk (sr (fw (vJ (G0 c)) (Ig (e:=c) (Ie rfl) e8) ?_)))
 by_cases h:((G0 c:Nat):Int)=1
 refine fw (vP g 3) (by(try unfold vJ); rw [show ((G0 c:Nat):Int)=1 from by omega]; exact yk) (La ([vI 2,vI 0, .slice s 3 3]) a 0 G2 G1 ?_)
 have bH:=a.pf [15]
 refine cu [vI 2,vI 0, .slice s 3 3] 0 bH G1 ?_
 intro dK aH
 refine An rfl (rt (Ir (gq (vs:= [.agg #[vI 2,vI 0, .slice s 3 3], .bool true]) rfl (bT.cell rfl (Io (cs:= [vI 2,vI 0, .slice s 3 3]) G2 G1 ((aH.cls (i:=0) rfl).lit (k:=0) (m:=3) rfl)) (bT.tmp rfl bT.nil)) (Lh rfl)) ?_))
 have bI:=aH.pk [15]
 obtain⟨rfl,rfl⟩:=fB (zj hr (show _=(fJ.mk 2 0 (F2 ([0,1,7])),true) from et (iN b) (et (iN d) (ip h))))
 exact⟨s,3,rfl,bI,g7⟩
 by_cases l:((G0 c:Nat):Int)=2
 refine fw (vP g 6) (by(try unfold vJ); rw [show ((G0 c:Nat):Int)=2 from by omega]; exact yk) (La ([vI 0,vI 2, .slice t 4 4]) a 0 G2 G1 ?_)
 have bJ:=a.pf [15]
 refine cu [vI 0,vI 2, .slice t 4 4] 0 bJ G1 ?_
 intro dL aI
 refine An rfl (rt (Ir (gq (vs:= [.agg #[vI 0,vI 2, .slice t 4 4], .bool true]) rfl (bT.cell rfl (Io (cs:= [vI 0,vI 2, .slice t 4 4]) G2 G1 ((aI.cls (i:=0) rfl).lit (k:=0) (m:=3) rfl)) (bT.tmp rfl bT.nil)) (Lh rfl)) ?_))
 have bK:=aI.pk [14]
 obtain⟨rfl,rfl⟩:=fB (zj hr (show _=(fJ.mk 0 2 (F2 ([0,1,2,3])),true) from et (iN b) (et (iN d) (et (iN h) (ip l)))))
 exact⟨t,4,rfl,bK,g7⟩
 by_cases o:((G0 c:Nat):Int)=3
 refine fw (vP g 9) (by(try unfold vJ); rw [show ((G0 c:Nat):Int)=3 from by omega]; exact yk) (La ([vI 0,vI 1, .slice u 4 4]) a 0 G2 G1 ?_)
 have bL:=a.pf [15]
 refine cu [vI 0,vI 1, .slice u 4 4] 0 bL G1 ?_
 intro dM aJ
 refine An rfl (rt (Ir (gq (vs:= [.agg #[vI 0,vI 1, .slice u 4 4], .bool true]) rfl (bT.cell rfl (Io (cs:= [vI 0,vI 1, .slice u 4 4]) G2 G1 ((aJ.cls (i:=0) rfl).lit (k:=0) (m:=3) rfl)) (bT.tmp rfl bT.nil)) (Lh rfl)) ?_))
 have bM:=aJ.pk [13]
 obtain⟨rfl,rfl⟩:=fB (zj hr (show _=(fJ.mk 0 1 (F2 ([4,5,6,7])),true) from et (iN b) (et (iN d) (et (iN h) (et (iN l) (ip o))))))
 exact⟨u,4,rfl,bM,g7⟩
 by_cases p:((G0 c:Nat):Int)=4
 refine fw (vP g 12) (by(try unfold vJ); rw [show ((G0 c:Nat):Int)=4 from by omega]; exact yk) (La ([vI 1,vI 0, .slice x 3 3]) a 0 G2 G1 ?_)
 have bN:=a.pf [15]
 refine cu [vI 1,vI 0, .slice x 3 3] 0 bN G1 ?_
 intro bP Q
 refine An rfl (rt (Ir (gq (vs:= [.agg #[vI 1,vI 0, .slice x 3 3], .bool true]) rfl (bT.cell rfl (Io (cs:= [vI 1,vI 0, .slice x 3 3]) G2 G1 ((Q.cls (i:=0) rfl).lit (k:=0) (m:=3) rfl)) (bT.tmp rfl bT.nil)) (Lh rfl)) ?_))
 have aK:=Q.pk [12]
 obtain⟨rfl,rfl⟩:=fB (zj hr (show _=(fJ.mk 1 0 (F2 ([4,2,3])),true) from et (iN b) (et (iN d) (et (iN h) (et (iN l) (et (iN o) (ip p)))))))
 exact⟨x,3,rfl,aK,g7⟩
 by_cases f:((G0 c:Nat):Int)=5
 refine fw (vP g 15) (by(try unfold vJ); rw [show ((G0 c:Nat):Int)=5 from by omega]; exact yk) (La ([vI 0,vI 1, .slice z 2 2]) a 0 G2 G1 ?_)
 have aL:=a.pf [15]
 refine cu [vI 0,vI 1, .slice z 2 2] 0 aL G1 ?_
 intro bQ R
 refine An rfl (rt (Ir (gq (vs:= [.agg #[vI 0,vI 1, .slice z 2 2], .bool true]) rfl (bT.cell rfl (Io (cs:= [vI 0,vI 1, .slice z 2 2]) G2 G1 ((R.cls (i:=0) rfl).lit (k:=0) (m:=3) rfl)) (bT.tmp rfl bT.nil)) (Lh rfl)) ?_))
 have aM:=R.pk [11]
 obtain⟨rfl,rfl⟩:=fB (zj hr (show _=(fJ.mk 0 1 (F2 ([4,8])),true) from et (iN b) (et (iN d) (et (iN h) (et (iN l) (et (iN o) (et (iN p) (ip f))))))))
 exact⟨z,2,rfl,aM,g7⟩
 by_cases j:((G0 c:Nat):Int)=6
 refine fw (vP g 18) (by(try unfold vJ); rw [show ((G0 c:Nat):Int)=6 from by omega]; exact yk) (La ([vI 1,vI 0, .slice A 1 1]) a 0 G2 G1 ?_)
 have aN:=a.pf [15]
 refine cu [vI 1,vI 0, .slice A 1 1] 0 aN G1 ?_
 intro bR S
 refine An rfl (rt (Ir (gq (vs:= [.agg #[vI 1,vI 0, .slice A 1 1], .bool true]) rfl (bT.cell rfl (Io (cs:= [vI 1,vI 0, .slice A 1 1]) G2 G1 ((S.cls (i:=0) rfl).lit (k:=0) (m:=3) rfl)) (bT.tmp rfl bT.nil)) (Lh rfl)) ?_))
 have aO:=S.pk [10]
 obtain⟨rfl,rfl⟩:=fB (zj hr (show _=(fJ.mk 1 0 (F2 ([4])),true) from et (iN b) (et (iN d) (et (iN h) (et (iN l) (et (iN o) (et (iN p) (et (iN f) (ip j)))))))))
 exact⟨A,1,rfl,aO,g7⟩
 by_cases n:((G0 c:Nat):Int)=7
 refine fw (vP g 21) (by(try unfold vJ); rw [show ((G0 c:Nat):Int)=7 from by omega]; exact yk) (La ([vI 1,vI 0, .slice B 1 1]) a 0 G2 G1 ?_)
 have aP:=a.pf [15]
 refine cu [vI 1,vI 0, .slice B 1 1] 0 aP G1 ?_
 intro bS T
 refine An rfl (rt (Ir (gq (vs:= [.agg #[vI 1,vI 0, .slice B 1 1], .bool true]) rfl (bT.cell rfl (Io (cs:= [vI 1,vI 0, .slice B 1 1]) G2 G1 ((T.cls (i:=0) rfl).lit (k:=0) (m:=3) rfl)) (bT.tmp rfl bT.nil)) (Lh rfl)) ?_))
 have aQ:=T.pk [9]
 obtain⟨rfl,rfl⟩:=fB (zj hr (show _=(fJ.mk 1 0 (F2 ([4])),true) from et (iN b) (et (iN d) (et (iN h) (et (iN l) (et (iN o) (et (iN p) (et (iN f) (et (iN j) (ip n))))))))))
 exact⟨B,1,rfl,aQ,g7⟩
 by_cases q:((G0 c:Nat):Int)=8
 refine fw (vP g 24) (by(try unfold vJ); rw [show ((G0 c:Nat):Int)=8 from by omega]; exact yk) (La ([vI 0,vI 1, .slice C 4 4]) a 0 G2 G1 ?_)
 have aR:=a.pf [15]
 refine cu [vI 0,vI 1, .slice C 4 4] 0 aR G1 ?_
 intro bU U
 refine An rfl (rt (Ir (gq (vs:= [.agg #[vI 0,vI 1, .slice C 4 4], .bool true]) rfl (bT.cell rfl (Io (cs:= [vI 0,vI 1, .slice C 4 4]) G2 G1 ((U.cls (i:=0) rfl).lit (k:=0) (m:=3) rfl)) (bT.tmp rfl bT.nil)) (Lh rfl)) ?_))
 have aS:=U.pk [8]
 obtain⟨rfl,rfl⟩:=fB (zj hr (show _=(fJ.mk 0 1 (F2 ([9,6,10,11])),true) from et (iN b) (et (iN d) (et (iN h) (et (iN l) (et (iN o) (et (iN p) (et (iN f) (et (iN j) (et (iN n) (ip q)))))))))))
 exact⟨C,4,rfl,aS,g7⟩
 by_cases r:((G0 c:Nat):Int)=9
 refine fw (vP g 27) (by(try unfold vJ); rw [show ((G0 c:Nat):Int)=9 from by omega]; exact yk) (La ([vI 1,vI 0, .slice E 1 1]) a 0 G2 G1 ?_)
 have aT:=a.pf [15]
 refine cu [vI 1,vI 0, .slice E 1 1] 0 aT G1 ?_
 intro bV V
 refine An rfl (rt (Ir (gq (vs:= [.agg #[vI 1,vI 0, .slice E 1 1], .bool true]) rfl (bT.cell rfl (Io (cs:= [vI 1,vI 0, .slice E 1 1]) G2 G1 ((V.cls (i:=0) rfl).lit (k:=0) (m:=3) rfl)) (bT.tmp rfl bT.nil)) (Lh rfl)) ?_))
 have aU:=V.pk [7]
 obtain⟨rfl,rfl⟩:=fB (zj hr (show _=(fJ.mk 1 0 (F2 ([9])),true) from et (iN b) (et (iN d) (et (iN h) (et (iN l) (et (iN o) (et (iN p) (et (iN f) (et (iN j) (et (iN n) (et (iN q) (ip r))))))))))))
 exact⟨E,1,rfl,aU,g7⟩
 by_cases L:((G0 c:Nat):Int)=10
 refine fw (vP g 30) (by(try unfold vJ); rw [show ((G0 c:Nat):Int)=10 from by omega]; exact yk) (La ([vI 0,vI 1, .slice F 5 5]) a 0 G2 G1 ?_)
 have aV:=a.pf [15]
 refine cu [vI 0,vI 1, .slice F 5 5] 0 aV G1 ?_
 intro bX W
 refine An rfl (rt (Ir (gq (vs:= [.agg #[vI 0,vI 1, .slice F 5 5], .bool true]) rfl (bT.cell rfl (Io (cs:= [vI 0,vI 1, .slice F 5 5]) G2 G1 ((W.cls (i:=0) rfl).lit (k:=0) (m:=3) rfl)) (bT.tmp rfl bT.nil)) (Lh rfl)) ?_))
 have aW:=W.pk [6]
 obtain⟨rfl,rfl⟩:=fB (zj hr (show _=(fJ.mk 0 1 (F2 ([9,10,12,8,13])),true) from et (iN b) (et (iN d) (et (iN h) (et (iN l) (et (iN o) (et (iN p) (et (iN f) (et (iN j) (et (iN n) (et (iN q) (et (iN r) (ip L)))))))))))))
 exact⟨F,5,rfl,aW,g7⟩
 by_cases M:((G0 c:Nat):Int)=11
 refine fw (vP g 33) (by(try unfold vJ); rw [show ((G0 c:Nat):Int)=11 from by omega]; exact yk) (La ([vI 1,vI 1, .slice G 5 5]) a 0 G2 G1 ?_)
 have aX:=a.pf [15]
 refine cu [vI 1,vI 1, .slice G 5 5] 0 aX G1 ?_
 intro bY X
 refine An rfl (rt (Ir (gq (vs:= [.agg #[vI 1,vI 1, .slice G 5 5], .bool true]) rfl (bT.cell rfl (Io (cs:= [vI 1,vI 1, .slice G 5 5]) G2 G1 ((X.cls (i:=0) rfl).lit (k:=0) (m:=3) rfl)) (bT.tmp rfl bT.nil)) (Lh rfl)) ?_))
 have aY:=X.pk [5]
 obtain⟨rfl,rfl⟩:=fB (zj hr (show _=(fJ.mk 1 1 (F2 ([10,14,15,13,7])),true) from et (iN b) (et (iN d) (et (iN h) (et (iN l) (et (iN o) (et (iN p) (et (iN f) (et (iN j) (et (iN n) (et (iN q) (et (iN r) (et (iN L) (ip M))))))))))))))
 exact⟨G,5,rfl,aY,g7⟩
 by_cases N:((G0 c:Nat):Int)=12
 refine fw (vP g 36) (by(try unfold vJ); rw [show ((G0 c:Nat):Int)=12 from by omega]; exact yk) (La ([vI 1,vI 1, .slice I 3 3]) a 0 G2 G1 ?_)
 have aZ:=a.pf [15]
 refine cu [vI 1,vI 1, .slice I 3 3] 0 aZ G1 ?_
 intro cz Y
 refine An rfl (rt (Ir (gq (vs:= [.agg #[vI 1,vI 1, .slice I 3 3], .bool true]) rfl (bT.cell rfl (Io (cs:= [vI 1,vI 1, .slice I 3 3]) G2 G1 ((Y.cls (i:=0) rfl).lit (k:=0) (m:=3) rfl)) (bT.tmp rfl bT.nil)) (Lh rfl)) ?_))
 have bf:=Y.pk [4]
 obtain⟨rfl,rfl⟩:=fB (zj hr (show _=(fJ.mk 1 1 (F2 ([10,14,15])),true) from et (iN b) (et (iN d) (et (iN h) (et (iN l) (et (iN o) (et (iN p) (et (iN f) (et (iN j) (et (iN n) (et (iN q) (et (iN r) (et (iN L) (et (iN M) (ip N)))))))))))))))
 exact⟨I,3,rfl,bf,g7⟩
 by_cases Z:((G0 c:Nat):Int)=13
 refine fw (vP g 39) (by(try unfold vJ); rw [show ((G0 c:Nat):Int)=13 from by omega]; exact yk) (La ([vI 1,vI 0, .slice J 1 1]) a 0 G2 G1 ?_)
 have bg:=a.pf [15]
 refine cu [vI 1,vI 0, .slice J 1 1] 0 bg G1 ?_
 intro cB aa
 refine An rfl (rt (Ir (gq (vs:= [.agg #[vI 1,vI 0, .slice J 1 1], .bool true]) rfl (bT.cell rfl (Io (cs:= [vI 1,vI 0, .slice J 1 1]) G2 G1 ((aa.cls (i:=0) rfl).lit (k:=0) (m:=3) rfl)) (bT.tmp rfl bT.nil)) (Lh rfl)) ?_))
 have bi:=aa.pk [3]
 obtain⟨rfl,rfl⟩:=fB (zj hr (show _=(fJ.mk 1 0 (F2 ([10])),true) from et (iN b) (et (iN d) (et (iN h) (et (iN l) (et (iN o) (et (iN p) (et (iN f) (et (iN j) (et (iN n) (et (iN q) (et (iN r) (et (iN L) (et (iN M) (et (iN N) (ip Z))))))))))))))))
 exact⟨J,1,rfl,bi,g7⟩
 refine fw (vP g 42) (by(try unfold vJ); rw [show ((G0 c:Nat):Int)=14 from by omega]; exact yk) (La ([vI 1,vI 0, .slice K 1 1]) a 0 G2 G1 ?_)
 have bn:=a.pf [15]
 refine cu [vI 1,vI 0, .slice K 1 1] 0 bn G1 ?_
 intro cK ae
 refine An rfl (rt (Ir (gq (vs:= [.agg #[vI 1,vI 0, .slice K 1 1], .bool true]) rfl (bT.cell rfl (Io (cs:= [vI 1,vI 0, .slice K 1 1]) G2 G1 ((ae.cls (i:=0) rfl).lit (k:=0) (m:=3) rfl)) (bT.tmp rfl bT.nil)) (Lh rfl)) ?_))
 have bq:=ae.pk [2]
 obtain⟨rfl,rfl⟩:=fB (zj hr (show _=(fJ.mk 1 0 (F2 ([10])),true) from et (iN b) (et (iN d) (et (iN h) (et (iN l) (et (iN o) (et (iN p) (et (iN f) (et (iN j) (et (iN n) (et (iN q) (et (iN r) (et (iN L) (et (iN M) (et (iN N) (iN Z))))))))))))))))
 exact⟨K,1,rfl,bq,g7⟩
def tQ (b:Int) (a:Int):Bool:=
 if b=2 then if a=1 then true else decide (a=2) else if a=3 then true else if a=4 then true else decide (a=5)
theorem yB (w D f b l) (H:Own w D w []) (hr:tQ f b=l):
    Calls u9 156 #[vI f,vI b] w (dI λ v w'=>v= .bool l/\Own w D w' []):=by
 refine cb Tryz.func156 ?_
 refine sr (An rfl (H7 (sr (Mz rfl (Kz (.bool (decide (f=2))) (nt ?_))))))
 by_cases e:f=2
 refine jT (dT e) (sr (Mz rfl (Kz (.bool (decide (b=1))) (Mz rfl ?_))))
 by_cases c:b=1
 refine Sz (dT c) (Sz (dT c) (fw (.bool true) (Ic rfl (dT c) rfl) (An rfl (rt (tR (rs ?_))))))
 have g:=H.pk []
 obtain rfl:_=true:=zj hr (et (ip e) (ip c))
 exact⟨rfl,g⟩
 refine gw (vI b) (dF c) (Ie rfl) (Gz (.bool (decide (b=2))) (dF c) (fw (.bool (decide (b=2))) (H6 rfl (dF c) rfl) (An rfl (rt (tR (rs ?_))))))
 have h:=H.pk []
 obtain rfl:_=decide (b=2):=zj hr (et (ip e) (iN c))
 exact⟨rfl,h⟩
 refine jF (dF e) (sk (sr (Mz rfl (Kz (.bool (decide (b=3))) (Mz rfl ?_)))))
 by_cases a:b=3
 refine Sz (dT a) (Sz (dT a) (fw (.bool true) (Ic rfl (dT a) rfl) (Mz rfl (Sz rfl (Sz rfl (fw (.bool true) (Ic rfl rfl rfl) (An rfl (rt (rs ?_)))))))))
 have i:=H.pk []
 obtain rfl:_=true:=zj hr (et (iN e) (ip a))
 exact⟨rfl,i⟩
 refine gw (vI b) (dF a) (Ie rfl) (Gz (.bool (decide (b=4))) (dF a) (fw (.bool (decide (b=4))) (H6 rfl (dF a) rfl) (Mz rfl ?_)))
 by_cases d:b=4
 refine Sz (dT d) (Sz (dT d) (fw (.bool true) (Ic rfl (dT d) rfl) (An rfl (rt (rs ?_)))))
 have j:=H.pk []
 obtain rfl:_=true:=zj hr (et (iN e) (et (iN a) (ip d)))
 exact⟨rfl,j⟩
 refine gw (vI b) (dF d) (Ie rfl) (Gz (.bool (decide (b=5))) (dF d) (fw (.bool (decide (b=5))) (H6 rfl (dF d) rfl) (An rfl (rt (rs ?_)))))
 have k:=H.pk []
 obtain rfl:_=decide (b=5):=zj hr (et (iN e) (et (iN a) (iN d)))
 exact⟨rfl,k⟩
theorem iP:Elem u9 25 101 2 32:=l6 (z:= .agg #[.string ⟨v0 ([])⟩, .string ⟨v0 ([])⟩]) G3 e9 rfl f5
structure az where
 aZ:List UInt8
 aO:List UInt8
def az.cells (x:az):List Value:= [.string ⟨v0 x.aZ⟩, .string ⟨v0 x.aO⟩]
instance:Bk az:=⟨λ x _=>bk x.aZ+(bk x.aO+(0))⟩
theorem az.len:∀ x,(az.cells x).length=2:=λ _=>rfl
theorem az.one:∀ x, ∀ u ∈ az.cells x,u.oneCell'=true:=λ x u hu=>by
 simp only [az.cells,u3,v1,or_false] at hu
 rcases hu with rfl | rfl <;> rfl
def JR (w:World) (x:az):Prop:=(x.aZ.length<=140737488351232)/\(x.aO.length<=140737488351232)
theorem BB (w:World):kQ u9 w 101 2 az.cells (JR w):=
 (mO (sz:=2) Tryz.underlying101 e9 (fF.cons (i:=0) (off:=0) (s:=1) rfl rfl (kW v2 e9) (fF.cons (i:=1) (off:=1) (s:=1) rfl rfl (kW v2 e9) fF.nil))).map (λ p=>⟨p.1,p.2.1⟩) az.len (λ _=>rfl) (λ _ h=>⟨h.1,h.2.1⟩) λ _=>s3 _
instance:Inhabited az:=⟨⟨default,default⟩⟩
theorem uw:Elem u9 45 70 3 48:=l6 (z:= .agg #[.bool false, .string ⟨v0 ([])⟩, .slice none 0 0]) G4 e9 rfl f5
structure aR where
 dP:Bool
 aO:List UInt8
 bz:Sv az
def aR.cells (x:aR):List Value:= [.bool x.dP, .string ⟨v0 x.aO⟩, .slice x.bz.A x.bz.ls.length x.bz.c]
instance:Bk aR:=⟨λ x _=>bk x.dP+(bk x.aO+(bk x.bz+(0)))⟩
theorem aR.len:∀ x,(aR.cells x).length=3:=λ _=>rfl
theorem aR.one:∀ x, ∀ u ∈ aR.cells x,u.oneCell'=true:=λ x u hu=>by
 simp only [aR.cells,u3,v1,or_false] at hu
 rcases hu with rfl | rfl | rfl <;> rfl
def JU (w:World) (x:aR):Prop:=(True)/\(x.aO.length<=140737488351232)/\(mM w 2 32 az.cells (JR w) x.bz)
theorem zU (w:World):kQ u9 w 70 3 aR.cells (JU w):=
 (mO (sz:=3) Tryz.underlying70 e9 (fF.cons (i:=0) (off:=0) (s:=1) rfl rfl (sO H0 e9) (fF.cons (i:=1) (off:=1) (s:=1) rfl rfl (kW v2 e9) (fF.cons (i:=2) (off:=2) (s:=1) rfl rfl (oI (bytes:=32) G3 e9 e9 f5 (BB w)) fF.nil)))).map (λ p=>⟨p.1,p.2.1,p.2.2.1⟩) aR.len (λ _=>rfl) (λ _ h=>⟨h.1,h.2.1,h.2.2.1⟩) λ _=>s3 _
instance:Inhabited aR:=⟨⟨default,default,default⟩⟩
structure dh where
 dP:Bool
 aO:List UInt8
 bz:Ll az
instance:Inhabited dh:=⟨⟨default,default,default⟩⟩
def aR.abs (x:aR):dh:=⟨x.dP,x.aO,⟨x.bz.ls⟩⟩
def IJ (x:aR):List HP:= [row x.bz.A x.bz.ls.length x.bz.c (q2 az.cells x.bz.ls) 101 2]
def jh:List az->Unit ⊕ Bool
  | []=>y0 ()
  | a::c=>bnd (dY a.aZ) λ b=>if b=0 then if((a.aO.length:Nat):Int) > 16 then y3 (false) else jh c else y3 (false)
def iB:List dh->Unit ⊕ Bool
  | []=>y0 ()
  | a::b=>if((a.aO.length:Nat):Int) > 16 then y3 (false) else if((a.bz.ls.length:Nat):Int) > 4 then y3 (false) else BS (jh a.bz.ls) λ _=>iB b
def qR (a:Int) (l1:List dh):Bool:=
 bnd (if a=2 then 4 else 24) λ sJrJ=>if((l1.length:Nat):Int) > ((sJrJ:Nat):Int) then false else lp (iB l1) λ _=>true
theorem wG (w D S r n1 Q d1 l1 r0) (H:Own w D w []) (T:s1 aR.abs d1=l1) (R:Ro w D λ w'=>bO w' 3 r n1 (q2 aR.cells d1)) (J:∀ x ∈ d1,Ro w D (λ w'=>bO w' 2 x.bz.A x.bz.ls.length (q2 az.cells x.bz.ls))/\(x.bz.ls.length<=x.bz.c/\x.bz.ls.length<=9223372036854775807)) (aA:n1=l1.length) (bq:l1.length<=9223372036854775807) (hr:qR S l1=r0):
    Calls u9 157 #[vI S, .slice r n1 Q] w (dI λ v w'=>v= .bool r0/\Own w D w' []):=by
 subst aA
 have aU:=aY T
 refine cb Tryz.func157 ?_
 refine sr (Ar rfl (An rfl (H7 (sr (Mz rfl (Kz (.bool (decide (S=2))) (nt ?_)))))))
 obtain⟨aB,B⟩:=mI λ (n:Nat) w'=>Own w D w' []/\n<=9223372036854775807/\n >= 4/\n<=24/\(if S=2 then 4 else 24)=n
 refine Jl (λ i:Nat=> [(5,vJ i),(4, .bool false),(1, .slice r l1.length Q)]) aB ?_ ?_
 by_cases K:S=2
 refine jT (dT K) (H8 (Az rfl (B6 ?_)))
 have aC:=H.pk []
 exact I1 4 ⟨rfl,rfl,rfl,trivial⟩ (B.2 ⟨aC,e8,e8,e8,ip K⟩)
 refine jF (dF K) (IG ?_)
 have aD:=H.pk []
 exact I1 24 ⟨rfl,rfl,rfl,trivial⟩ (B.2 ⟨aD,e8,e8,e8,iN K⟩)
 rintro n bu U
 show Wp _ _ _ [(5,vJ n),(4, .bool false),(1, .slice r l1.length Q)] _ _
 obtain⟨V,aV,aW,aX,k⟩:=B.1 U
 refine H7 (sr (Mz rfl (Kz (vJ l1.length) (Mz rfl (Kz (.bool (decide (((l1.length:Nat):Int) > ((n:Nat):Int)))) (nt ?_))))))
 by_cases o:((l1.length:Nat):Int) > ((n:Nat):Int)
 refine jT (dT o) (sr (An rfl (rt (tR (rs ?_)))))
 have aF:=V.pk []
 obtain rfl:_=false:=zj hr (et (ae k) (ip o))
 exact⟨rfl,aF⟩
 refine jF (dF o) (sk (H7 (sr (Mz rfl (Kz (vJ l1.length) (Mn rfl (bo ?_)))))))
 have aG:=V.pk []
 obtain⟨aH,C⟩:=mI λ (b:Nat) w'=>Own w D w' []/\b<=l1.length/\iB l1=iB (s0 b l1)
 refine y6 (λ i:Nat=> [(4, .bool false),(18,vJ i),(17,vJ l1.length),(16, .slice r l1.length Q)]) aH (λ i=>l1.length - i) 0 ⟨rfl,rfl,rfl,rfl,trivial⟩ (C.2 ⟨aG,e8,rfl⟩) ?_
 rintro b bv W
 show Wp _ _ _ [(4, .bool false),(18,vJ b),(17,vJ l1.length),(16, .slice r l1.length Q)] _ _
 obtain⟨E,aZ,l⟩:=C.1 W
 refine sr (Kz (.bool (decide (((b:Nat):Int) < ((l1.length:Nat):Int)))) (nt (H7 ?_)))
 by_cases X:((b:Nat):Int) < ((l1.length:Nat):Int)
 obtain⟨a,m⟩:=dG (ls:=d1) (i:=b) aR.len f5 (E.ro R) f2
 have Y:=fO T m
 have bf:=(J _ (D4 m)).2
 have p:=drop_at Y
 refine jT (dT X) (sk (H7 (bo (sr (fw (.pointer (some ⟨ab r,ao r+b *3,none⟩)) (Im (uw) rfl rfl ((E.ro R).addr (i:=b) e8) e8) (fw (.agg (aR.cells a).toArray) (Il rfl (Io (cs:=(aR.cells a)) Tryz.isAgg70 Tryz.sizeOf70 ((E.ro R).elem aR.len m f5))) ?_))))))
 refine bW [.bool false, .string ⟨v0 ([])⟩, .slice none 0 0] 70 E ?_
 intro j bz aI
 refine cu (aR.cells a) 0 aI Tryz.sizeOf70 ?_
 intro bA u
 refine nt (H7 (sr (Kz (vP j 1) (Lz (.string ⟨v0 a.aO⟩) u 0 y4 (Kz (vJ a.aO.length) (Kz (.bool (decide (((a.aO.length:Nat):Int) > 16))) (Mz rfl ?_)))))))
 by_cases d:((a.aO.length:Nat):Int) > 16
 refine Sz (dT d) (Sz (dT d) (Sz (dT d) (Sz (dT d) (fw (.bool true) (Ic rfl (dT d) rfl) (nt (jt (sr (An rfl (rt (tR (bR (tR (tR (bR (tR (rs ?_))))))))))))))))
 have aJ:=u.pk []
 obtain rfl:_=false:=zj hr (et (ae k) (et (iN o) (iG (et (l) (et (congrArg (λ q=>iB q) p) (ip d))))))
 exact⟨rfl,aJ⟩
 refine Gz (vP j 2) (dF d) (Gl (.slice a.bz.A a.bz.ls.length a.bz.c) (dF d) u 0 Tryz.isAgg25 (Gz (vJ a.bz.ls.length) (dF d) (Gz (.bool (decide (((a.bz.ls.length:Nat):Int) > 4))) (dF d) (fw (.bool (decide (((a.bz.ls.length:Nat):Int) > 4))) (H6 rfl (dF d) rfl) (nt ?_)))))
 by_cases y:((a.bz.ls.length:Nat):Int) > 4
 refine jT (dT y) (sr (An rfl (rt (tR (bR (tR (tR (bR (tR (rs ?_))))))))))
 have aK:=u.pk []
 obtain rfl:_=false:=zj hr (et (ae k) (et (iN o) (iG (et (l) (et (congrArg (λ q=>iB q) p) (et (iN d) (ip y)))))))
 exact⟨rfl,aK⟩
 refine jF (dF y) (sk (sr (Kz (vP j 2) (Lz (.slice a.bz.A a.bz.ls.length a.bz.c) u 0 Tryz.isAgg25 (Kz (vJ a.bz.ls.length) (Mn rfl (bo ?_)))))))
 have aL:=u.pf []
 obtain⟨aM,F⟩:=mI λ (f:Nat) w'=>Own w D w' [blk j (aR.cells a) 70]/\f<=a.bz.ls.length/\jh a.bz.ls=jh (s0 f a.bz.ls)
 refine y6 (λ i:Nat=> [(4, .bool false),(35,vJ i),(34,vJ a.bz.ls.length),(33, .slice a.bz.A a.bz.ls.length a.bz.c),(32,vP j 2),(31, .bool (decide (((a.bz.ls.length:Nat):Int) > 4))),(30, .bool (decide (((a.bz.ls.length:Nat):Int) > 4))),(29,vJ a.bz.ls.length),(28, .slice a.bz.A a.bz.ls.length a.bz.c),(27,vP j 2),(26, .bool (decide (((a.aO.length:Nat):Int) > 16))),(25, .bool (decide (((a.aO.length:Nat):Int) > 16))),(24,vJ a.aO.length),(23, .string ⟨v0 a.aO⟩),(22,vP j 1),(7,vP j 0),(21, .agg (aR.cells a).toArray),(20, .pointer (some ⟨ab r,ao r+b *3,none⟩)),(19, .bool (decide (((b:Nat):Int) < ((l1.length:Nat):Int)))),(18,vJ b),(17,vJ l1.length),(16, .slice r l1.length Q)]) aM (λ i=>a.bz.ls.length - i) 0 ⟨rfl,rfl,rfl,rfl,rfl,rfl,rfl,rfl,rfl,rfl,rfl,rfl,rfl,rfl,rfl,rfl,rfl,rfl,rfl,rfl,rfl,rfl,trivial⟩ (F.2 ⟨aL,e8,rfl⟩) ?_
 rintro f bB Z
 show Wp _ _ _ [(4, .bool false),(35,vJ f),(34,vJ a.bz.ls.length),(33, .slice a.bz.A a.bz.ls.length a.bz.c),(32,vP j 2),(31, .bool (decide (((a.bz.ls.length:Nat):Int) > 4))),(30, .bool (decide (((a.bz.ls.length:Nat):Int) > 4))),(29,vJ a.bz.ls.length),(28, .slice a.bz.A a.bz.ls.length a.bz.c),(27,vP j 2),(26, .bool (decide (((a.aO.length:Nat):Int) > 16))),(25, .bool (decide (((a.aO.length:Nat):Int) > 16))),(24,vJ a.aO.length),(23, .string ⟨v0 a.aO⟩),(22,vP j 1),(7,vP j 0),(21, .agg (aR.cells a).toArray),(20, .pointer (some ⟨ab r,ao r+b *3,none⟩)),(19, .bool (decide (((b:Nat):Int) < ((l1.length:Nat):Int)))),(18,vJ b),(17,vJ l1.length),(16, .slice r l1.length Q)] _ _
 obtain⟨G,bg,s⟩:=F.1 Z
 refine sr (Kz (.bool (decide (((f:Nat):Int) < ((a.bz.ls.length:Nat):Int)))) (nt (H7 ?_)))
 by_cases aa:((f:Nat):Int) < ((a.bz.ls.length:Nat):Int)
 obtain⟨g,N⟩:=dG (ls:=a.bz.ls) (i:=f) az.len f5 (G.ro (J _ (D4 m)).1) f2
 have I:=drop_at N
 refine jT (dT aa) (sk (H7 (bo (sr (fw (.pointer (some ⟨ab a.bz.A,ao a.bz.A+f *2,none⟩)) (Im (iP) rfl rfl ((G.ro (J _ (D4 m)).1).addr (i:=f) e8) e8) (fw (.agg (az.cells g).toArray) (Il rfl (Io (cs:=(az.cells g)) Tryz.isAgg101 Tryz.sizeOf101 ((G.ro (J _ (D4 m)).1).elem az.len N f5))) ?_))))))
 refine bW [.string ⟨v0 ([])⟩, .string ⟨v0 ([])⟩] 101 G ?_
 intro af bC aN
 refine cu (az.cells g) 0 aN Tryz.sizeOf101 ?_
 intro bD ag
 refine ns (Kz (vP af 0) (Lz (.string ⟨v0 g.aZ⟩) ag 0 y4 ?_))
 obtain⟨z,t⟩:∃ q,dY g.aZ=q:=⟨_,rfl⟩
 obtain⟨bE,ah,bi,ai,bn⟩:=Ia ag
 refine cl Tryz.call62 (jK _ _ g.aZ z ah t) ?_
 rintro _ bF ⟨rfl,aj,O,P⟩
 have L:=ai _ _ aj
 replace O: ¬ (z=0)\/(1<=g.aZ.length/\g.aZ.length<=12):=O
 replace P:g.aZ.length < 1\/g.aZ.length > 12\/z=0:=P
 refine fw (.bool (decide (¬ (z=0)))) (Iu (e:= !(decide (z=0))) yk decide_not.symm) (Mz rfl ?_)
 by_cases h:z=0
 refine gw (vP af 1) (dF (Lp h)) yk (gw (.string ⟨v0 g.aO⟩) (dF (Lp h)) (Il rfl (bQ.one y4 (IU (L.cls (i:=0) rfl) rfl))) (gw (vJ g.aO.length) (dF (Lp h)) yk (gw (.bool (decide (((g.aO.length:Nat):Int) > 16))) (dF (Lp h)) yk (fw (.bool (decide (((g.aO.length:Nat):Int) > 16))) (H6 rfl (dF (Lp h)) rfl) (nt ?_)))))
 by_cases M:((g.aO.length:Nat):Int) > 16
 refine jT (dT M) (sr (An rfl (rt (bR (tR (tR (bR (bR (tR (tR (bR (tR (rs ?_)))))))))))))
 have aO:=L.pk []
 obtain rfl:_=false:=zj hr (et (ae k) (et (iN o) (iG (et (l) (et (congrArg (λ q=>iB q) p) (et (iN d) (et (iN y) (uV (et (s) (et (congrArg (λ q=>jh q) I) (et (ae t) (et (ip h) (ip M)))))))))))))
 exact⟨rfl,aO⟩
 refine jF (dF M) (IG (bN (Ib (H8 (fw (vJ (f+1)) (Ig (e:=B5.wrap (((f:Nat):Int)+1)) yk f1) (Mz rfl (B6 ?_)))))))
 have aP:=L.pk [1]
 exact Iq (f+1) ⟨rfl,rfl,rfl,rfl,rfl,rfl,rfl,rfl,rfl,rfl,rfl,rfl,rfl,rfl,rfl,rfl,rfl,rfl,rfl,rfl,rfl,rfl,trivial⟩ (F.2 ⟨aP,e8,et (s) (et (congrArg (λ q=>jh q) I) (et (ae t) (et (ip h) (iN M))))⟩) (by show a.bz.ls.length - (f+1) < a.bz.ls.length - f; omega)
 refine Sz (dT h) (Sz (dT h) (Sz (dT h) (Sz (dT h) (fw (.bool true) (Ic rfl (dT h) rfl) (nt (jt (sr (An rfl (rt (bR (tR (tR (bR (bR (tR (tR (bR (tR (rs ?_)))))))))))))))))))
 have aQ:=L.pk []
 obtain rfl:_=false:=zj hr (et (ae k) (et (iN o) (iG (et (l) (et (congrArg (λ q=>iB q) p) (et (iN d) (et (iN y) (uV (et (s) (et (congrArg (λ q=>jh q) I) (et (ae t) (iN h))))))))))))
 exact⟨rfl,aQ⟩
 refine jF (dF aa) (B7 (Ip ?_))
 have ak:jh a.bz.ls=y0 ():=et (s) (et (congrArg (λ q=>jh q) (eX (ls:=a.bz.ls) (i:=f) e8)) rfl)
 refine Ip (Iz (bN (Ib (H8 (fw (vJ (b+1)) (Ig (e:=B5.wrap (((b:Nat):Int)+1)) yk f1) (Mz rfl (B6 ?_)))))))
 have aS:=G.pk []
 exact Iq (b+1) ⟨rfl,rfl,rfl,rfl,trivial⟩ (C.2 ⟨aS,e8,et (l) (et (congrArg (λ q=>iB q) p) (et (iN d) (et (iN y) (sP ak))))⟩) (by show l1.length - (b+1) < l1.length - b; omega)
 refine jF (dF X) (B7 (Ip ?_))
 have au:iB l1=y0 ():=et (l) (et (congrArg (λ q=>iB q) (eX (ls:=l1) (i:=b) e8)) rfl)
 refine Ip (Iz (Ib (sr (An rfl (rt (rs ?_))))))
 have av:=E.pk []
 obtain rfl:_=true:=zj hr (et (ae k) (et (iN o) (lw au)))
 exact⟨rfl,av⟩
def ji:List aX->Unit ⊕ Int
  | []=>y0 ()
  | b::c=>bnd (dW b) λ a=>if a=0 then ji c else y3 (a)
def jB (a:List aX):Int:=
 lp (ji a) λ _=>0
theorem qU (w D p B C b M) (H:Own w D w []) (o:Ro w D λ w'=>bO w' 6 p B (q2 aX.cells b)) (E:B=b.length) (Q:b.length<=9223372036854775807) (hr:jB b=M):
    Calls u9 66 #[.slice p B C] w (dI λ v w'=>v=vI M/\Own w D w' []):=by
 subst E
 refine cb Tryz.func66 ?_
 refine sr (An rfl (H7 (sr (Mz rfl (Kz (vJ b.length) (Mn rfl (bo ?_)))))))
 have F:=H.pk []
 obtain⟨G,f⟩:=mI λ (a:Nat) w'=>Own w D w' []/\a<=b.length/\ji b=ji (s0 a b)
 refine y6 (λ i:Nat=> [(2,vI 0),(8,vJ i),(7,vJ b.length),(6, .slice p b.length C)]) G (λ i=>b.length - i) 0 ⟨rfl,rfl,rfl,rfl,trivial⟩ (f.2 ⟨F,e8,rfl⟩) ?_
 rintro a R r
 show Wp _ _ _ [(2,vI 0),(8,vJ a),(7,vJ b.length),(6, .slice p b.length C)] _ _
 obtain⟨g,N,h⟩:=f.1 r
 refine sr (Kz (.bool (decide (((a:Nat):Int) < ((b.length:Nat):Int)))) (nt (H7 ?_)))
 by_cases s:((a:Nat):Int) < ((b.length:Nat):Int)
 obtain⟨c,l⟩:=dG (ls:=b) (i:=a) aX.len f5 (g.ro o) f2
 have m:=drop_at l
 refine jT (dT s) (sk (H7 (bo (sr (fw (.pointer (some ⟨ab p,ao p+a *6,none⟩)) (Im (nN) rfl rfl ((g.ro o).addr (i:=a) e8) e8) (fw (.agg (aX.cells c).toArray) (Il rfl (Io (cs:=(aX.cells c)) C4 C2 ((g.ro o).elem aX.len l f5))) ?_))))))
 refine bW [vI 0, .string ⟨v0 ([])⟩, .string ⟨v0 ([])⟩, .string ⟨v0 ([])⟩, .string ⟨v0 ([])⟩,vI 0] 68 g ?_
 intro S T I
 refine cu (aX.cells c) 0 I C2 ?_
 intro U t
 refine ns (La (aX.cells c) t 0 C4 C2 ?_)
 obtain⟨d,j⟩:∃ q,dW c=q:=⟨_,rfl⟩
 obtain⟨V,u,O,x,P⟩:=Ia t
 refine cl H1 (nk _ _ c d u j) ?_
 rintro _ W ⟨rfl,y,n⟩
 have z:=x _ _ y
 replace n: ¬ (d=0)\/(1<=c.aB/\c.aB<=5):=n
 refine Ar rfl (Mz rfl (fw (.bool (decide (¬ (d=0)))) (Iu (e:= !(decide (d=0))) yk decide_not.symm) (nt ?_)))
 by_cases k:d=0
 refine jF (dF (Lp k)) (IG (bN (Ib (H8 (fw (vJ (a+1)) (Ig (e:=B5.wrap (((a:Nat):Int)+1)) yk f1) (Mz rfl (B6 ?_)))))))
 have J:=z.pk []
 exact Iq (a+1) ⟨rfl,rfl,rfl,rfl,trivial⟩ (f.2 ⟨J,e8,et (h) (et (congrArg (λ q=>ji q) m) (et (ae j) (ip k)))⟩) (by show b.length - (a+1) < b.length - a; omega)
 refine jT (dT k) (sr (Mz rfl (An rfl (rt (bR (tR (tR (bR (tR (rs ?_))))))))))
 have K:=z.pk []
 obtain rfl:_=d:=zj hr (iG (et (h) (et (congrArg (λ q=>ji q) m) (et (ae j) (iN k)))))
 exact⟨rfl,K⟩
 refine jF (dF s) (B7 (Ip ?_))
 have A:ji b=y0 ():=et (h) (et (congrArg (λ q=>ji q) (eX (ls:=b) (i:=a) e8)) rfl)
 refine Ip (Iz (Ib (sr (An rfl (rt (rs ?_))))))
 have L:=g.pk []
 obtain rfl:_=0:=zj hr (lw A)
 exact⟨rfl,L⟩
def xI (b:List aX):Int:=
 if((b.length:Nat):Int) < 1 then 3 else if((b.length:Nat):Int) > 4 then 3 else bnd (jB b) λ a=>a
theorem BC (w D j k l b m) (H:Own w D w []) (n:Ro w D λ w'=>bO w' 6 j k (q2 aX.cells b)) (o:k=b.length) (x:b.length<=9223372036854775807) (hr:xI b=m):
    Calls u9 196 #[.slice j k l] w (dI λ v w'=>v=vI m/\Own w D w' []/\(¬ (m=0)\/(1<=b.length/\b.length<=4))):=by
 subst o
 refine cb Tryz.func196 ?_
 refine sr (An rfl (H7 (sr (Mz rfl (Kz (vJ b.length) (Kz (.bool (decide (((b.length:Nat):Int) < 1))) (Mz rfl ?_)))))))
 by_cases a:((b.length:Nat):Int) < 1
 refine Sz (dT a) (Sz (dT a) (Sz (dT a) (fw (.bool true) (Ic rfl (dT a) rfl) (nt (jt (sr (An rfl (rt (tR (rs ?_))))))))))
 have p:=H.pk []
 obtain rfl:_=3:=zj hr (ip a)
 exact⟨rfl,p,e8⟩
 refine gw (.slice j b.length l) (dF a) (Ie rfl) (Gz (vJ b.length) (dF a) (Gz (.bool (decide (((b.length:Nat):Int) > 4))) (dF a) (fw (.bool (decide (((b.length:Nat):Int) > 4))) (H6 rfl (dF a) rfl) (nt ?_))))
 by_cases c:((b.length:Nat):Int) > 4
 refine jT (dT c) (sr (An rfl (rt (tR (rs ?_)))))
 have r:=H.pk []
 obtain rfl:_=3:=zj hr (et (iN a) (ip c))
 exact⟨rfl,r,e8⟩
 refine jF (dF c) (sk (sr (Mz rfl ?_)))
 obtain⟨e,d⟩:∃ q,jB b=q:=⟨_,rfl⟩
 obtain⟨y,f,g,h,u⟩:=Ia H
 refine cl Tryz.call66 (qU _ _ j b.length l b e f (g _ n) rfl e8 d) ?_
 rintro _ z ⟨rfl,i⟩
 have s:=h _ _ i
 refine An rfl (rt (rs ?_))
 have t:=s.pk []
 obtain rfl:_=e:=zj hr (et (iN a) (et (iN c) (ae d)))
 exact⟨rfl,t,e8⟩
def kF:List aX->Unit ⊕ Bool
  | []=>y0 ()
  | b::c=>bnd (dW b) λ a=>if a=0 then kF c else y3 (false)
def qg (a:List aX):Bool:=
 lp (kF a) λ _=>true
theorem ze (w D p B C b M) (H:Own w D w []) (o:Ro w D λ w'=>bO w' 6 p B (q2 aX.cells b)) (E:B=b.length) (Q:b.length<=9223372036854775807) (hr:qg b=M):
    Calls u9 197 #[.slice p B C, .func (.func 63) #[] #[]] w (dI λ v w'=>v= .bool M/\Own w D w' []):=by
 subst E
 refine cb Tryz.func197 ?_
 refine sr (An rfl (H7 (sr (Mz rfl (Kz (vJ b.length) (Mn rfl (bo ?_)))))))
 have F:=H.pk []
 obtain⟨G,d⟩:=mI λ (a:Nat) w'=>Own w D w' []/\a<=b.length/\kF b=kF (s0 a b)
 refine y6 (λ i:Nat=> [(4, .bool false),(9,vJ i),(8,vJ b.length),(7, .slice p b.length C),(1, .func (.func 63) #[] #[])]) G (λ i=>b.length - i) 0 ⟨rfl,rfl,rfl,rfl,rfl,trivial⟩ (d.2 ⟨F,e8,rfl⟩) ?_
 rintro a R r
 show Wp _ _ _ [(4, .bool false),(9,vJ a),(8,vJ b.length),(7, .slice p b.length C),(1, .func (.func 63) #[] #[])] _ _
 obtain⟨f,N,g⟩:=d.1 r
 refine sr (Kz (.bool (decide (((a:Nat):Int) < ((b.length:Nat):Int)))) (nt (H7 ?_)))
 by_cases s:((a:Nat):Int) < ((b.length:Nat):Int)
 obtain⟨c,l⟩:=dG (ls:=b) (i:=a) aX.len f5 (f.ro o) f2
 have m:=drop_at l
 refine jT (dT s) (sk (H7 (bo (sr (fw (.pointer (some ⟨ab p,ao p+a *6,none⟩)) (Im (nN) rfl rfl ((f.ro o).addr (i:=a) e8) e8) (fw (.agg (aX.cells c).toArray) (Il rfl (Io (cs:=(aX.cells c)) C4 C2 ((f.ro o).elem aX.len l f5))) ?_))))))
 refine bW [vI 0, .string ⟨v0 ([])⟩, .string ⟨v0 ([])⟩, .string ⟨v0 ([])⟩, .string ⟨v0 ([])⟩,vI 0] 68 f ?_
 intro S T I
 refine cu (aX.cells c) 0 I C2 ?_
 intro U t
 refine ns (Mz rfl (La (aX.cells c) t 0 C4 C2 ?_))
 obtain⟨h,j⟩:∃ q,dW c=q:=⟨_,rfl⟩
 obtain⟨V,u,O,x,P⟩:=Ia t
 refine WL.do rfl (IM H1 rfl rfl (nk _ _ c h u j) ?_)
 rintro _ W ⟨rfl,y,n⟩
 have z:=x _ _ y
 replace n: ¬ (h=0)\/(1<=c.aB/\c.aB<=5):=n
 refine fw (.bool (decide (¬ (h=0)))) (Iu (e:= !(decide (h=0))) yk decide_not.symm) (nt ?_)
 by_cases k:h=0
 refine jF (dF (Lp k)) (IG (bN (Ib (H8 (fw (vJ (a+1)) (Ig (e:=B5.wrap (((a:Nat):Int)+1)) yk f1) (Mz rfl (B6 ?_)))))))
 have J:=z.pk []
 exact Iq (a+1) ⟨rfl,rfl,rfl,rfl,rfl,trivial⟩ (d.2 ⟨J,e8,et (g) (et (congrArg (λ q=>kF q) m) (et (ae j) (ip k)))⟩) (by show b.length - (a+1) < b.length - a; omega)
 refine jT (dT k) (sr (An rfl (rt (bR (tR (tR (bR (tR (rs ?_)))))))))
 have K:=z.pk []
 obtain rfl:_=false:=zj hr (iG (et (g) (et (congrArg (λ q=>kF q) m) (et (ae j) (iN k)))))
 exact⟨rfl,K⟩
 refine jF (dF s) (B7 (Ip ?_))
 have A:kF b=y0 ():=et (g) (et (congrArg (λ q=>kF q) (eX (ls:=b) (i:=a) e8)) rfl)
 refine Ip (Iz (Ib (sr (An rfl (rt (rs ?_))))))
 have L:=f.pk []
 obtain rfl:_=true:=zj hr (lw A)
 exact⟨rfl,L⟩
def pg (a:aX):Bool:=
 if a.aB=1 then false else if a.aB=2 then true else if a.aB=3 then true else if a.aB=4 then false else if a.aB=5 then true else false
theorem wH (w D) (a:aX) (r0) (H:Own w D w []) (hr:pg a=r0):
    Calls u9 140 #[.agg (aX.cells a).toArray] w (dI λ v w'=>v= .bool r0/\Own w D w' []):=by
 refine cb Tryz.func140 ?_
 refine sr ?_
 refine bW (aX.cells a) 68 H ?_
 intro S aV b
 refine Ar rfl (Kz (vP S 0) (Lz (vI a.aB) b 0 B3 ?_))
 by_cases c:a.aB=1
 obtain⟨aW,m,aD,n,aF⟩:=Ia b
 refine cl D0 (nO _ _ a.aB m (of_decide_eq_true (dT c))) ?_
 rintro _ aY ⟨rfl,o⟩
 have T:=n _ _ o
 refine Mz rfl (Kz (.agg o2k.toArray) (Kz (.bool true) ?_))
 refine bW [.bool false, .nilFunc, .nilFunc, .nilFunc, .nilFunc] 149 T ?_
 intro U aZ V
 refine cu o2k 0 V C1 ?_
 intro bf W
 refine An rfl (H7 ?_)
 have p:=W.pk [0]
 refine H8 (Mz rfl (Mz rfl (Gz (vP U 0) rfl (Gl (.bool false) rfl p 0 H2 (fw (.bool false) (Ic rfl rfl rfl) (An rfl (rt (rs ?_))))))))
 have X:=p.pk []
 obtain rfl:_=false:=zj hr (ip c)
 exact⟨rfl,X⟩
 by_cases d:a.aB=2
 obtain⟨bg,q,aG,r,aH⟩:=Ia b
 refine cl D0 (nP _ _ a.aB q (of_decide_eq_true (dT d))) ?_
 rintro _ bi ⟨rfl,s⟩
 have Y:=r _ _ s
 refine Mz rfl (Kz (.agg o3k.toArray) (Kz (.bool true) ?_))
 refine bW [.bool false, .nilFunc, .nilFunc, .nilFunc, .nilFunc] 149 Y ?_
 intro Z bn aa
 refine cu o3k 0 aa C1 ?_
 intro bq ae
 refine An rfl (H7 ?_)
 have t:=ae.pk [0]
 refine H8 (Mz rfl (Mz rfl (Gz (vP Z 0) rfl (Gl (.bool true) rfl t 0 H2 (fw (.bool true) (Ic rfl rfl rfl) (An rfl (rt (rs ?_))))))))
 have af:=t.pk []
 obtain rfl:_=true:=zj hr (et (iN c) (ip d))
 exact⟨rfl,af⟩
 by_cases e:a.aB=3
 obtain⟨bu,u,aI,x,aJ⟩:=Ia b
 refine cl D0 (nQ _ _ a.aB u (of_decide_eq_true (dT e))) ?_
 rintro _ bv ⟨rfl,y⟩
 have ag:=x _ _ y
 refine Mz rfl (Kz (.agg o4k.toArray) (Kz (.bool true) ?_))
 refine bW [.bool false, .nilFunc, .nilFunc, .nilFunc, .nilFunc] 149 ag ?_
 intro ah bz ai
 refine cu o4k 0 ai C1 ?_
 intro bA aj
 refine An rfl (H7 ?_)
 have z:=aj.pk [0]
 refine H8 (Mz rfl (Mz rfl (Gz (vP ah 0) rfl (Gl (.bool true) rfl z 0 H2 (fw (.bool true) (Ic rfl rfl rfl) (An rfl (rt (rs ?_))))))))
 have ak:=z.pk []
 obtain rfl:_=true:=zj hr (et (iN c) (et (iN d) (ip e)))
 exact⟨rfl,ak⟩
 by_cases f:a.aB=4
 obtain⟨bB,A,aK,B,aL⟩:=Ia b
 refine cl D0 (nR _ _ a.aB A (of_decide_eq_true (dT f))) ?_
 rintro _ bC ⟨rfl,C⟩
 have au:=B _ _ C
 refine Mz rfl (Kz (.agg o5k.toArray) (Kz (.bool true) ?_))
 refine bW [.bool false, .nilFunc, .nilFunc, .nilFunc, .nilFunc] 149 au ?_
 intro av bD ax
 refine cu o5k 0 ax C1 ?_
 intro bE ay
 refine An rfl (H7 ?_)
 have E:=ay.pk [0]
 refine H8 (Mz rfl (Mz rfl (Gz (vP av 0) rfl (Gl (.bool false) rfl E 0 H2 (fw (.bool false) (Ic rfl rfl rfl) (An rfl (rt (rs ?_))))))))
 have az:=E.pk []
 obtain rfl:_=false:=zj hr (et (iN c) (et (iN d) (et (iN e) (ip f))))
 exact⟨rfl,az⟩
 by_cases h:a.aB=5
 obtain⟨bF,F,aM,G,aN⟩:=Ia b
 refine cl D0 (nS _ _ a.aB F (of_decide_eq_true (dT h))) ?_
 rintro _ bG ⟨rfl,i⟩
 have I:=G _ _ i
 refine Mz rfl (Kz (.agg o6k.toArray) (Kz (.bool true) ?_))
 refine bW [.bool false, .nilFunc, .nilFunc, .nilFunc, .nilFunc] 149 I ?_
 intro J aO K
 refine cu o6k 0 K C1 ?_
 intro aP L
 refine An rfl (H7 ?_)
 have g:=L.pk [0]
 refine H8 (Mz rfl (Mz rfl (Gz (vP J 0) rfl (Gl (.bool true) rfl g 0 H2 (fw (.bool true) (Ic rfl rfl rfl) (An rfl (rt (rs ?_))))))))
 have M:=g.pk []
 obtain rfl:_=true:=zj hr (et (iN c) (et (iN d) (et (iN e) (et (iN f) (ip h)))))
 exact⟨rfl,M⟩
 obtain⟨aQ,j,aA,k,aB⟩:=Ia b
 refine cl D0 (uo _ _ a.aB j e8 e8 e8 e8 e8) ?_
 rintro _ aR ⟨rfl,l⟩
 have N:=k _ _ l
 refine Mz rfl (Kz (.agg #[.bool false, .nilFunc, .nilFunc, .nilFunc, .nilFunc]) (Kz (.bool false) ?_))
 refine bW [.bool false, .nilFunc, .nilFunc, .nilFunc, .nilFunc] 149 N ?_
 intro aS aT O
 refine cu [.bool false, .nilFunc, .nilFunc, .nilFunc, .nilFunc] 0 O C1 ?_
 intro aU P
 refine An rfl (H7 ?_)
 have Q:=P.pk [0]
 refine H8 (Mz rfl (Mz rfl (Sz rfl (Sz rfl (fw (.bool false) (H6 rfl rfl rfl) (An rfl (rt (rs ?_))))))))
 have R:=Q.pk []
 obtain rfl:_=false:=zj hr (et (iN c) (et (iN d) (et (iN e) (et (iN f) (iN h)))))
 exact⟨rfl,R⟩
def qV (c:aX):Int:=
 bnd (pg c) λ a=>if a=true then bnd (dW c) λ b=>b else 40
theorem wI (w D) (a:aX) (t) (H:Own w D w []) (hr:qV a=t):
    Calls u9 198 #[.agg (aX.cells a).toArray] w (dI λ v w'=>v=vI t/\Own w D w' []):=by
 refine cb Tryz.func198 ?_
 refine sr ?_
 refine bW (aX.cells a) 68 H ?_
 intro A B i
 refine An rfl (H7 (sr (La (aX.cells a) i 0 C4 C2 ?_)))
 obtain⟨f,b⟩:∃ q,pg a=q:=⟨_,rfl⟩
 obtain⟨C,j,u,k,x⟩:=Ia i
 refine cl Tryz.call140 (wH _ _ a f j b) ?_
 rintro _ E ⟨rfl,l⟩
 have g:=k _ _ l
 refine Kz (.bool (!f)) (nt ?_)
 rcases Lr (f) with c | c
 refine jF (cn c) (sk (sr (La (aX.cells a) g 0 C4 C2 ?_)))
 obtain⟨h,d⟩:∃ q,dW a=q:=⟨_,rfl⟩
 obtain⟨F,m,y,n,z⟩:=Ia g
 refine cl H1 (nk _ _ a h m d) ?_
 rintro _ G ⟨rfl,o,e⟩
 have p:=n _ _ o
 replace e: ¬ (h=0)\/(1<=a.aB/\a.aB<=5):=e
 refine An rfl (rt (rs ?_))
 have r:=p.pk []
 obtain rfl:_=h:=zj hr (et (ae b) (et (ip c) (ae d)))
 exact⟨rfl,r⟩
 refine jT (cn c) (sr (An rfl (rt (tR (rs ?_)))))
 have s:=g.pk []
 obtain rfl:_=40:=zj hr (et (ae b) (eF c))
 exact⟨rfl,s⟩
def kS:List aX->Unit ⊕ Bool
  | []=>y0 ()
  | b::c=>bnd (qV b) λ a=>if a=0 then kS c else y3 (false)
def tT (a:List aX):Bool:=
 lp (kS a) λ _=>true
theorem yC (w D o A B b L) (H:Own w D w []) (n:Ro w D λ w'=>bO w' 6 o A (q2 aX.cells b)) (C:A=b.length) (P:b.length<=9223372036854775807) (hr:tT b=L):
    Calls u9 197 #[.slice o A B, .func (.func 198) #[] #[]] w (dI λ v w'=>v= .bool L/\Own w D w' []):=by
 subst C
 refine cb Tryz.func197 ?_
 refine sr (An rfl (H7 (sr (Mz rfl (Kz (vJ b.length) (Mn rfl (bo ?_)))))))
 have E:=H.pk []
 obtain⟨F,d⟩:=mI λ (a:Nat) w'=>Own w D w' []/\a<=b.length/\kS b=kS (s0 a b)
 refine y6 (λ i:Nat=> [(4, .bool false),(9,vJ i),(8,vJ b.length),(7, .slice o b.length B),(1, .func (.func 198) #[] #[])]) F (λ i=>b.length - i) 0 ⟨rfl,rfl,rfl,rfl,rfl,trivial⟩ (d.2 ⟨E,e8,rfl⟩) ?_
 rintro a Q p
 show Wp _ _ _ [(4, .bool false),(9,vJ a),(8,vJ b.length),(7, .slice o b.length B),(1, .func (.func 198) #[] #[])] _ _
 obtain⟨f,M,g⟩:=d.1 p
 refine sr (Kz (.bool (decide (((a:Nat):Int) < ((b.length:Nat):Int)))) (nt (H7 ?_)))
 by_cases r:((a:Nat):Int) < ((b.length:Nat):Int)
 obtain⟨c,l⟩:=dG (ls:=b) (i:=a) aX.len f5 (f.ro n) f2
 have m:=drop_at l
 refine jT (dT r) (sk (H7 (bo (sr (fw (.pointer (some ⟨ab o,ao o+a *6,none⟩)) (Im (nN) rfl rfl ((f.ro n).addr (i:=a) e8) e8) (fw (.agg (aX.cells c).toArray) (Il rfl (Io (cs:=(aX.cells c)) C4 C2 ((f.ro n).elem aX.len l f5))) ?_))))))
 refine bW [vI 0, .string ⟨v0 ([])⟩, .string ⟨v0 ([])⟩, .string ⟨v0 ([])⟩, .string ⟨v0 ([])⟩,vI 0] 68 f ?_
 intro R S G
 refine cu (aX.cells c) 0 G C2 ?_
 intro T s
 refine ns (Mz rfl (La (aX.cells c) s 0 C4 C2 ?_))
 obtain⟨j,h⟩:∃ q,qV c=q:=⟨_,rfl⟩
 obtain⟨U,t,N,u,O⟩:=Ia s
 refine WL.do rfl (IM Tryz.call198 rfl rfl (wI _ _ c j t h) ?_)
 rintro _ V ⟨rfl,x⟩
 have y:=u _ _ x
 refine fw (.bool (decide (¬ (j=0)))) (Iu (e:= !(decide (j=0))) yk decide_not.symm) (nt ?_)
 by_cases k:j=0
 refine jF (dF (Lp k)) (IG (bN (Ib (H8 (fw (vJ (a+1)) (Ig (e:=B5.wrap (((a:Nat):Int)+1)) yk f1) (Mz rfl (B6 ?_)))))))
 have I:=y.pk []
 exact Iq (a+1) ⟨rfl,rfl,rfl,rfl,rfl,trivial⟩ (d.2 ⟨I,e8,et (g) (et (congrArg (λ q=>kS q) m) (et (ae h) (ip k)))⟩) (by show b.length - (a+1) < b.length - a; omega)
 refine jT (dT k) (sr (An rfl (rt (bR (tR (tR (bR (tR (rs ?_)))))))))
 have J:=y.pk []
 obtain rfl:_=false:=zj hr (iG (et (g) (et (congrArg (λ q=>kS q) m) (et (ae h) (iN k)))))
 exact⟨rfl,J⟩
 refine jF (dF r) (B7 (Ip ?_))
 have z:kS b=y0 ():=et (g) (et (congrArg (λ q=>kS q) (eX (ls:=b) (i:=a) e8)) rfl)
 refine Ip (Iz (Ib (sr (An rfl (rt (rs ?_))))))
 have K:=f.pk []
 obtain rfl:_=true:=zj hr (lw z)
 exact⟨rfl,K⟩
def oJ (d:Int) (l1:List aX):Bool:=
 if d=1 then bnd (xI l1) λ a=>decide (a=0) else if d=3 then if((l1.length:Nat):Int) >= 1 then if((l1.length:Nat):Int)<=24 then bnd (qg l1) λ b=>b else false else false else if((l1.length:Nat):Int)<=6 then bnd (tT l1) λ c=>c else false
theorem zf (w D p g G l l1 S) (H:Own w D w []) (m:Ro w D λ w'=>bO w' 6 g G (q2 aX.cells l1)) (I:G=l1.length) (W:l1.length<=9223372036854775807) (hr:oJ p l1=S):
    Calls u9 158 #[vI p, .slice g G l] w (dI λ v w'=>v= .bool S/\Own w D w' []):=by
 subst I
 refine cb Tryz.func158 ?_
 refine sr (An rfl (H7 (sr (Mn rfl (bo (sr (Kz (.bool (decide (p=1))) (An rfl ?_))))))))
 by_cases b:p=1
 refine jT (dT b) (sr (Mz rfl ?_))
 obtain⟨f,h⟩:∃ q,xI l1=q:=⟨_,rfl⟩
 obtain⟨X,r,s,t,T⟩:=Ia H
 refine cl Tryz.call196 (BC _ _ g l1.length l l1 f r (s _ m) rfl e8 h) ?_
 rintro _ Y ⟨rfl,u,i⟩
 have J:=t _ _ u
 replace i: ¬ (f=0)\/(1<=l1.length/\l1.length<=4):=i
 refine Kz (.bool (decide (f=0))) (An rfl (rt (bR (tR (rs ?_)))))
 have K:=J.pk []
 obtain rfl:_=decide (f=0):=zj hr (et (ip b) (ae h))
 exact⟨rfl,K⟩
 refine jF (dF b) (sr (Kz (.bool (decide (p=3))) (An rfl ?_)))
 by_cases e:p=3
 refine jT (dT e) (sr (Mz rfl (Kz (vJ l1.length) (Kz (.bool (decide (((l1.length:Nat):Int) >= 1))) (Mz rfl ?_)))))
 by_cases a:((l1.length:Nat):Int) >= 1
 refine gw (.slice g l1.length l) (dT a) (Ie rfl) (Gz (vJ l1.length) (dT a) (Gz (.bool (decide (((l1.length:Nat):Int)<=24))) (dT a) (fw (.bool (decide (((l1.length:Nat):Int)<=24))) (Ic rfl (dT a) rfl) (Mz rfl ?_))))
 by_cases c:((l1.length:Nat):Int)<=24
 refine gw (.slice g l1.length l) (dT c) (Ie rfl) ?_
 obtain⟨n,j⟩:∃ q,qg l1=q:=⟨_,rfl⟩
 obtain⟨Z,x,y,z,U⟩:=Ia H
 refine oh (dT c) Tryz.call197 (ze _ _ g l1.length l l1 n x (y _ m) rfl e8 j) ?_
 rintro _ aa ⟨rfl,A⟩
 have L:=z _ _ A
 refine fw (.bool n) (Ic rfl (dT c) rfl) (An rfl (rt (bR (tR (rs ?_)))))
 have M:=L.pk []
 obtain rfl:_=n:=zj hr (et (iN b) (et (ip e) (et (ip a) (et (ip c) (ae j)))))
 exact⟨rfl,M⟩
 refine Sz (dF c) (Sz (dF c) (fw (.bool false) (H6 rfl (dF c) rfl) (An rfl (rt (bR (tR (rs ?_)))))))
 have N:=H.pk []
 obtain rfl:_=false:=zj hr (et (iN b) (et (ip e) (et (ip a) (iN c))))
 exact⟨rfl,N⟩
 refine Sz (dF a) (Sz (dF a) (Sz (dF a) (fw (.bool false) (H6 rfl (dF a) rfl) (Mz rfl (Sz rfl (Sz rfl (fw (.bool false) (H6 rfl rfl rfl) (An rfl (rt (bR (tR (rs ?_))))))))))))
 have O:=H.pk []
 obtain rfl:_=false:=zj hr (et (iN b) (et (ip e) (iN a)))
 exact⟨rfl,O⟩
 refine jF (dF e) (IG (bN (Ib (sr (Mz rfl (Kz (vJ l1.length) (Kz (.bool (decide (((l1.length:Nat):Int)<=6))) (Mz rfl ?_))))))))
 by_cases d:((l1.length:Nat):Int)<=6
 refine gw (.slice g l1.length l) (dT d) (Ie rfl) ?_
 obtain⟨o,k⟩:∃ q,tT l1=q:=⟨_,rfl⟩
 obtain⟨af,B,C,E,V⟩:=Ia H
 refine oh (dT d) Tryz.call197 (yC _ _ g l1.length l l1 o B (C _ m) rfl e8 k) ?_
 rintro _ ag ⟨rfl,F⟩
 have P:=E _ _ F
 refine fw (.bool o) (Ic rfl (dT d) rfl) (An rfl (rt (rs ?_)))
 have Q:=P.pk []
 obtain rfl:_=o:=zj hr (et (iN b) (et (iN e) (et (ip d) (ae k))))
 exact⟨rfl,Q⟩
 refine Sz (dF d) (Sz (dF d) (fw (.bool false) (H6 rfl (dF d) rfl) (An rfl (rt (rs ?_)))))
 have R:=H.pk []
 obtain rfl:_=false:=zj hr (et (iN b) (et (iN e) (iN d)))
 exact⟨rfl,R⟩
structure bV where
 aB:Int
 jo:Int
 jU:Int
 iq:Int
 gp:Int
 iZ:Int
 gN:Nat
 aQ:Nat
 aU:Nat
 bi:Nat
 bq:Nat
 aJ:Nat
 aD:Nat
 bv:Nat
 xN:Nat
 ik:Bool
 aA:aj
 aK:Sv aX
 aV:Sv aR
 ah:Sv bM
def bV.cells (x:bV):List Value:= [.int .i64 x.aB, .int .i64 x.jo, .int .i64 x.jU, .int .i64 x.iq, .int .i64 x.gp, .int .i64 x.iZ, .int .u64 ((x.gN:Nat):Int), .int .u64 ((x.aQ:Nat):Int), .int .u64 ((x.aU:Nat):Int), .int .u64 ((x.bi:Nat):Int), .int .u64 ((x.bq:Nat):Int), .int .u64 ((x.aJ:Nat):Int), .int .u64 ((x.aD:Nat):Int), .int .u64 ((x.bv:Nat):Int), .int .u64 ((x.xN:Nat):Int), .bool x.ik, .string ⟨v0 x.aA.aN⟩, .string ⟨v0 x.aA.aT⟩, .slice x.aK.A x.aK.ls.length x.aK.c, .slice x.aV.A x.aV.ls.length x.aV.c, .slice x.ah.A x.ah.ls.length x.ah.c]
instance:Bk bV:=⟨λ x _=>bk x.aB+(bk x.jo+(bk x.jU+(bk x.iq+(bk x.gp+(bk x.iZ+(bk x.gN+(bk x.aQ+(bk x.aU+(bk x.bi+(bk x.bq+(bk x.aJ+(bk x.aD+(bk x.bv+(bk x.xN+(bk x.ik+(bk x.aA+(bk x.aK+(bk x.aV+(bk x.ah+(0))))))))))))))))))))⟩
theorem bV.len:∀ x,(bV.cells x).length=21:=λ _=>rfl
theorem bV.one:∀ x, ∀ u ∈ bV.cells x,u.oneCell'=true:=λ x u hu=>by
 simp only [bV.cells,u3,v1,or_false] at hu
 rcases hu with rfl | rfl | rfl | rfl | rfl | rfl | rfl | rfl | rfl | rfl | rfl | rfl | rfl | rfl | rfl | rfl | rfl | rfl | rfl | rfl | rfl <;> rfl
def JV (w:World) (x:bV):Prop:=((-9223372036854775808)<=x.aB/\x.aB<=9223372036854775807)/\((-9223372036854775808)<=x.jo/\x.jo<=9223372036854775807)/\((-9223372036854775808)<=x.jU/\x.jU<=9223372036854775807)/\((-9223372036854775808)<=x.iq/\x.iq<=9223372036854775807)/\((-9223372036854775808)<=x.gp/\x.gp<=9223372036854775807)/\((-9223372036854775808)<=x.iZ/\x.iZ<=9223372036854775807)/\(x.gN<=18446744073709551615)/\(x.aQ<=18446744073709551615)/\(x.aU<=18446744073709551615)/\(x.bi<=18446744073709551615)/\(x.bq<=18446744073709551615)/\(x.aJ<=18446744073709551615)/\(x.aD<=18446744073709551615)/\(x.bv<=18446744073709551615)/\(x.xN<=18446744073709551615)/\(True)/\(Jt w x.aA)/\(mM w 6 80 aX.cells (JM w) x.aK)/\(mM w 3 48 aR.cells (JU w) x.aV)/\(mM w 2 24 bM.cells (JL w) x.ah)
theorem CF (w:World):kQ u9 w 47 21 bV.cells (JV w):=
 (mO (sz:=21) Tryz.underlying47 e9 (fF.cons (i:=0) (off:=0) (s:=1) rfl rfl (nA (k:= .i64) (lo:= -9223372036854775808) (hi:=9223372036854775807) v6 e9 f5 f5) (fF.cons (i:=1) (off:=1) (s:=1) rfl rfl (nA (k:= .i64) (lo:= -9223372036854775808) (hi:=9223372036854775807) v6 e9 f5 f5) (fF.cons (i:=2) (off:=2) (s:=1) rfl rfl (nA (k:= .i64) (lo:= -9223372036854775808) (hi:=9223372036854775807) v6 e9 f5 f5) (fF.cons (i:=3) (off:=3) (s:=1) rfl rfl (nA (k:= .i64) (lo:= -9223372036854775808) (hi:=9223372036854775807) v6 e9 f5 f5) (fF.cons (i:=4) (off:=4) (s:=1) rfl rfl (nA (k:= .i64) (lo:= -9223372036854775808) (hi:=9223372036854775807) v6 e9 f5 f5) (fF.cons (i:=5) (off:=5) (s:=1) rfl rfl (nA (k:= .i64) (lo:= -9223372036854775808) (hi:=9223372036854775807) v6 e9 f5 f5) (fF.cons (i:=6) (off:=6) (s:=1) rfl rfl (nC (k:= .u64) (hi:=18446744073709551615) F0 e9 f5 f5) (fF.cons (i:=7) (off:=7) (s:=1) rfl rfl (nC (k:= .u64) (hi:=18446744073709551615) F0 e9 f5 f5) (fF.cons (i:=8) (off:=8) (s:=1) rfl rfl (nC (k:= .u64) (hi:=18446744073709551615) F0 e9 f5 f5) (fF.cons (i:=9) (off:=9) (s:=1) rfl rfl (nC (k:= .u64) (hi:=18446744073709551615) F0 e9 f5 f5) (fF.cons (i:=10) (off:=10) (s:=1) rfl rfl (nC (k:= .u64) (hi:=18446744073709551615) F0 e9 f5 f5) (fF.cons (i:=11) (off:=11) (s:=1) rfl rfl (nC (k:= .u64) (hi:=18446744073709551615) F0 e9 f5 f5) (fF.cons (i:=12) (off:=12) (s:=1) rfl rfl (nC (k:= .u64) (hi:=18446744073709551615) F0 e9 f5 f5) (fF.cons (i:=13) (off:=13) (s:=1) rfl rfl (nC (k:= .u64) (hi:=18446744073709551615) F0 e9 f5 f5) (fF.cons (i:=14) (off:=14) (s:=1) rfl rfl (nC (k:= .u64) (hi:=18446744073709551615) F0 e9 f5 f5) (fF.cons (i:=15) (off:=15) (s:=1) rfl rfl (sO H0 e9) (fF.cons (i:=16) (off:=16) (s:=2) rfl rfl (AL w) (fF.cons (i:=17) (off:=18) (s:=1) rfl rfl (oI (bytes:=80) Tryz.underlying44 e9 e9 f5 (Dq w)) (fF.cons (i:=18) (off:=19) (s:=1) rfl rfl (oI (bytes:=48) G4 e9 e9 f5 (zU w)) (fF.cons (i:=19) (off:=20) (s:=1) rfl rfl (oI (bytes:=24) Tryz.underlying33 e9 e9 f5 (AJ w)) fF.nil))))))))))))))))))))).map (λ p=>⟨p.1,p.2.1,p.2.2.1,p.2.2.2.1,p.2.2.2.2.1,p.2.2.2.2.2.1,p.2.2.2.2.2.2.1,p.2.2.2.2.2.2.2.1,p.2.2.2.2.2.2.2.2.1,p.2.2.2.2.2.2.2.2.2.1,p.2.2.2.2.2.2.2.2.2.2.1,p.2.2.2.2.2.2.2.2.2.2.2.1,p.2.2.2.2.2.2.2.2.2.2.2.2.1,p.2.2.2.2.2.2.2.2.2.2.2.2.2.1,p.2.2.2.2.2.2.2.2.2.2.2.2.2.2.1,p.2.2.2.2.2.2.2.2.2.2.2.2.2.2.2.1,p.2.2.2.2.2.2.2.2.2.2.2.2.2.2.2.2.1,p.2.2.2.2.2.2.2.2.2.2.2.2.2.2.2.2.2.1,p.2.2.2.2.2.2.2.2.2.2.2.2.2.2.2.2.2.2.1,p.2.2.2.2.2.2.2.2.2.2.2.2.2.2.2.2.2.2.2.1⟩) bV.len (λ _=>rfl) (λ _ h=>⟨h.1,h.2.1,h.2.2.1,h.2.2.2.1,h.2.2.2.2.1,h.2.2.2.2.2.1,h.2.2.2.2.2.2.1,h.2.2.2.2.2.2.2.1,h.2.2.2.2.2.2.2.2.1,h.2.2.2.2.2.2.2.2.2.1,h.2.2.2.2.2.2.2.2.2.2.1,h.2.2.2.2.2.2.2.2.2.2.2.1,h.2.2.2.2.2.2.2.2.2.2.2.2.1,h.2.2.2.2.2.2.2.2.2.2.2.2.2.1,h.2.2.2.2.2.2.2.2.2.2.2.2.2.2.1,h.2.2.2.2.2.2.2.2.2.2.2.2.2.2.2.1,h.2.2.2.2.2.2.2.2.2.2.2.2.2.2.2.2.1,h.2.2.2.2.2.2.2.2.2.2.2.2.2.2.2.2.2.1,h.2.2.2.2.2.2.2.2.2.2.2.2.2.2.2.2.2.2.1,h.2.2.2.2.2.2.2.2.2.2.2.2.2.2.2.2.2.2.2.1⟩) λ _=>s3 _
instance:Inhabited bV:=⟨⟨default,default,default,default,default,default,default,default,default,default,default,default,default,default,default,default,default,default,default,default⟩⟩
structure dL where
 aB:Int
 jo:Int
 jU:Int
 iq:Int
 gp:Int
 iZ:Int
 gN:Nat
 aQ:Nat
 aU:Nat
 bi:Nat
 bq:Nat
 aJ:Nat
 aD:Nat
 bv:Nat
 xN:Nat
 ik:Bool
 aA:aj
 aK:Ll aX
 aV:Ll dh
 ah:Ll bM
instance:Inhabited dL:=⟨⟨default,default,default,default,default,default,default,default,default,default,default,default,default,default,default,default,default,default,default,default⟩⟩
def bV.abs (x:bV):dL:=⟨x.aB,x.jo,x.jU,x.iq,x.gp,x.iZ,x.gN,x.aQ,x.aU,x.bi,x.bq,x.aJ,x.aD,x.bv,x.xN,x.ik,x.aA,⟨x.aK.ls⟩,⟨s1 aR.abs x.aV.ls⟩,⟨x.ah.ls⟩⟩
def IR (x:bV):List HP:= [row x.aK.A x.aK.ls.length x.aK.c (q2 aX.cells x.aK.ls) 68 6,row x.aV.A x.aV.ls.length x.aV.c (q2 aR.cells x.aV.ls) 70 3,row x.ah.A x.ah.ls.length x.ah.c (q2 bM.cells x.ah.ls) 83 2,sepL (q2 IJ x.aV.ls)]
abbrev iy (r:Int) (s:Int) (t:Int) (u:Int) (v:Int) (w:Int) (x:Nat) (y:Nat) (z:Nat) (A:Nat) (g:Nat) (h:Nat) (i:Nat) (j:Nat) (k:Nat) (l:Bool) (m:List UInt8) (n:List UInt8) (o:Option Addr) (a b:Nat) (p:Option Addr) (c d:Nat) (q:Option Addr) (e f:Nat):List Value:= [.int .i64 r, .int .i64 s, .int .i64 t, .int .i64 u, .int .i64 v, .int .i64 w, .int .u64 ((x:Nat):Int), .int .u64 ((y:Nat):Int), .int .u64 ((z:Nat):Int), .int .u64 ((A:Nat):Int), .int .u64 ((g:Nat):Int), .int .u64 ((h:Nat):Int), .int .u64 ((i:Nat):Int), .int .u64 ((j:Nat):Int), .int .u64 ((k:Nat):Int), .bool l, .string ⟨v0 m⟩, .string ⟨v0 n⟩, .slice o a b, .slice p c d, .slice q e f]
abbrev lX (x:dL) (a:Option Addr) (b:Nat) (c:Option Addr) (d:Nat) (e:Option Addr) (f:Nat):List Value:= [.int .i64 x.aB, .int .i64 x.jo, .int .i64 x.jU, .int .i64 x.iq, .int .i64 x.gp, .int .i64 x.iZ, .int .u64 ((x.gN:Nat):Int), .int .u64 ((x.aQ:Nat):Int), .int .u64 ((x.aU:Nat):Int), .int .u64 ((x.bi:Nat):Int), .int .u64 ((x.bq:Nat):Int), .int .u64 ((x.aJ:Nat):Int), .int .u64 ((x.aD:Nat):Int), .int .u64 ((x.bv:Nat):Int), .int .u64 ((x.xN:Nat):Int), .bool x.ik, .string ⟨v0 x.aA.aN⟩, .string ⟨v0 x.aA.aT⟩, .slice a x.aK.ls.length b, .slice c x.aV.ls.length d, .slice e x.ah.ls.length f]
def mR (b:Int) (a:Int):Bool:=
 if b=1 then if a >= 1 then decide (a<=4) else false else if b=2 then if a >= 11 then decide (a < 15) else false else decide (a=0)
theorem qW (w D f c l) (H:Own w D w []) (hr:mR f c=l):
    Calls u9 46 #[vI f,vI c] w (dI λ v w'=>v= .bool l/\Own w D w' []):=by
 refine cb Tryz.func46 ?_
 refine sr (An rfl (H7 (sr (Mn rfl (bo (sr (Kz (.bool (decide (f=1))) (An rfl ?_))))))))
 by_cases d:f=1
 refine jT (dT d) (sr (Mz rfl (Kz (.bool (decide (c >= 1))) (Mz rfl ?_))))
 by_cases a:c >= 1
 refine gw (vI c) (dT a) (Ie rfl) (Gz (.bool (decide (c<=4))) (dT a) (fw (.bool (decide (c<=4))) (Ic rfl (dT a) rfl) (An rfl (rt (bR (tR (rs ?_)))))))
 have g:=H.pk []
 obtain rfl:_=decide (c<=4):=zj hr (et (ip d) (ip a))
 exact⟨rfl,g⟩
 refine Sz (dF a) (Sz (dF a) (fw (.bool false) (H6 rfl (dF a) rfl) (An rfl (rt (bR (tR (rs ?_)))))))
 have h:=H.pk []
 obtain rfl:_=false:=zj hr (et (ip d) (iN a))
 exact⟨rfl,h⟩
 refine jF (dF d) (sr (Kz (.bool (decide (f=2))) (An rfl ?_)))
 by_cases e:f=2
 refine jT (dT e) (sr (Mz rfl (Kz (.bool (decide (c >= 11))) (Mz rfl ?_))))
 by_cases b:c >= 11
 refine gw (vI c) (dT b) (Ie rfl) (Gz (.bool (decide (c < 15))) (dT b) (fw (.bool (decide (c < 15))) (Ic rfl (dT b) rfl) (An rfl (rt (bR (tR (rs ?_)))))))
 have i:=H.pk []
 obtain rfl:_=decide (c < 15):=zj hr (et (iN d) (et (ip e) (ip b)))
 exact⟨rfl,i⟩
 refine Sz (dF b) (Sz (dF b) (fw (.bool false) (H6 rfl (dF b) rfl) (An rfl (rt (bR (tR (rs ?_)))))))
 have j:=H.pk []
 obtain rfl:_=false:=zj hr (et (iN d) (et (ip e) (iN b)))
 exact⟨rfl,j⟩
 refine jF (dF e) (IG (bN (Ib (sr (Mz rfl (Kz (.bool (decide (c=0))) (An rfl (rt (rs ?_)))))))))
 have k:=H.pk []
 obtain rfl:_=decide (c=0):=zj hr (et (iN d) (iN e))
 exact⟨rfl,k⟩
def rP (a:dL) (b:Int):Bool:=
 if b=2 then bnd (tQ a.aB a.gp) λ c=>c else if b=3 then bnd (qR a.aB a.aV.ls) λ d=>d else if b=7 then bnd (oJ a.aB a.aK.ls) λ e=>e else if b=11 then bnd (nE a.ah.ls) λ f=>decide (f=0) else if b=12 then bnd (mR 1 a.iZ) λ g=>g else if b=13 then bnd (dU a.aA) λ h=>decide (h=0) else true
theorem BD (w D) (a:dL) (f z g h B i n j C k o r0) (H:Own w D w []) (N:z=a.aK.ls.length) (O:Ro w D λ w'=>bO w' 6 f a.aK.ls.length (q2 aX.cells a.aK.ls)) (aK:a.aK.ls.length<=g/\a.aK.ls.length<=9223372036854775807) (r:s1 aR.abs n=a.aV.ls) (P:B=a.aV.ls.length) (Q:Ro w D λ w'=>bO w' 3 h a.aV.ls.length (q2 aR.cells n)) (aL:a.aV.ls.length<=i/\a.aV.ls.length<=9223372036854775807) (s:∀ x ∈ n,Ro w D (λ w'=>bO w' 2 x.bz.A x.bz.ls.length (q2 az.cells x.bz.ls))/\(x.bz.ls.length<=x.bz.c/\x.bz.ls.length<=9223372036854775807)) (R:C=a.ah.ls.length) (S:Ro w D λ w'=>bO w' 2 j a.ah.ls.length (q2 bM.cells a.ah.ls)) (aM:a.ah.ls.length<=k/\a.ah.ls.length<=9223372036854775807) (bH:a.aK.ls.length<=140737488355328/\a.aV.ls.length<=140737488355328/\a.ah.ls.length<=140737488355328) (hr:rP a o=r0):
    Calls u9 96 #[.agg (iy a.aB a.jo a.jU a.iq a.gp a.iZ a.gN a.aQ a.aU a.bi a.bq a.aJ a.aD a.bv a.xN a.ik a.aA.aN a.aA.aT f z g h B i j C k).toArray,vI o] w (dI λ v w'=>v= .bool r0/\Own w D w' []):=by
 subst N P R
 have aJ:=aY r
 refine cb Tryz.func96 ?_
 refine sr ?_
 refine bW (lX a f g h i j k) 47 H ?_
 intro d bI b
 refine An rfl (H7 (sr (Mn rfl (bo (sr (Kz (.bool (decide (o=2))) (An rfl ?_)))))))
 by_cases e:o=2
 refine jT (dT e) (sr (Kz (vP d 0) (Lz (vI a.aB) b 0 B3 (Kz (vP d 4) (Lz (vI a.gp) b 0 B3 ?_)))))
 obtain⟨U,E⟩:∃ q,tQ a.aB a.gp=q:=⟨_,rfl⟩
 obtain⟨bJ,V,bq,W,bu⟩:=Ia b
 refine cl Tryz.call156 (yB _ _ a.aB a.gp U V E) ?_
 rintro _ bK ⟨rfl,X⟩
 have aN:=W _ _ X
 refine An rfl (rt (bR (tR (rs ?_))))
 have aO:=aN.pk []
 obtain rfl:_=U:=zj hr (et (ip e) (ae E))
 exact⟨rfl,aO⟩
 refine jF (dF e) (sr (Kz (.bool (decide (o=3))) (An rfl ?_)))
 by_cases l:o=3
 refine jT (dT l) (sr (Kz (vP d 0) (Lz (vI a.aB) b 0 B3 (Kz (vP d 19) (Lz (.slice h a.aV.ls.length i) b 0 Tryz.isAgg45 ?_)))))
 obtain⟨Y,F⟩:∃ q,qR a.aB a.aV.ls=q:=⟨_,rfl⟩
 obtain⟨bL,Z,G,aa,bv⟩:=Ia b
 refine cl Tryz.call157 (wG _ _ a.aB h a.aV.ls.length i n a.aV.ls Y Z r (G _ Q) (λ x9 h9=>⟨G _ (s x9 h9).1,(s x9 h9).2⟩) rfl e8 F) ?_
 rintro _ bP ⟨rfl,af⟩
 have aP:=aa _ _ af
 refine An rfl (rt (bR (tR (rs ?_))))
 have aQ:=aP.pk []
 obtain rfl:_=Y:=zj hr (et (iN e) (et (ip l) (ae F)))
 exact⟨rfl,aQ⟩
 refine jF (dF l) (sr (Kz (.bool (decide (o=7))) (An rfl ?_)))
 by_cases m:o=7
 refine jT (dT m) (sr (Kz (vP d 0) (Lz (vI a.aB) b 0 B3 (Kz (vP d 18) (Lz (.slice f a.aK.ls.length g) b 0 Tryz.isAgg44 ?_)))))
 obtain⟨ag,I⟩:∃ q,oJ a.aB a.aK.ls=q:=⟨_,rfl⟩
 obtain⟨bQ,ah,ai,ak,bB⟩:=Ia b
 refine cl Tryz.call158 (zf _ _ a.aB f a.aK.ls.length g a.aK.ls ag ah (ai _ O) rfl e8 I) ?_
 rintro _ bS ⟨rfl,au⟩
 have aS:=ak _ _ au
 refine An rfl (rt (bR (tR (rs ?_))))
 have aT:=aS.pk []
 obtain rfl:_=ag:=zj hr (et (iN e) (et (iN l) (et (ip m) (ae I))))
 exact⟨rfl,aT⟩
 refine jF (dF m) (sr (Kz (.bool (decide (o=11))) (An rfl ?_)))
 by_cases p:o=11
 refine jT (dT p) (sr (Kz (vP d 20) (Lz (.slice j a.ah.ls.length k) b 0 Tryz.isAgg33 ?_)))
 obtain⟨u,J⟩:∃ q,nE a.ah.ls=q:=⟨_,rfl⟩
 obtain⟨bT,av,ax,ay,bC⟩:=Ia b
 refine cl Tryz.call30 (rJ _ _ j a.ah.ls.length k a.ah.ls u av (ax _ S) rfl e8 J) ?_
 rintro _ bU ⟨rfl,aA,K⟩
 have aU:=ay _ _ aA
 replace K: ¬ (u=0)\/(1<=a.ah.ls.length/\a.ah.ls.length<=6):=K
 refine Kz (.bool (decide (u=0))) (An rfl (rt (bR (tR (rs ?_)))))
 have aV:=aU.pk []
 obtain rfl:_=decide (u=0):=zj hr (et (iN e) (et (iN l) (et (iN m) (et (ip p) (ae J)))))
 exact⟨rfl,aV⟩
 refine jF (dF p) (sr (Kz (.bool (decide (o=12))) (An rfl ?_)))
 by_cases t:o=12
 refine jT (dT t) (sr (Kz (vP d 5) (Lz (vI a.iZ) b 0 B3 ?_)))
 obtain⟨aB,L⟩:∃ q,mR 1 a.iZ=q:=⟨_,rfl⟩
 obtain⟨bV,aC,bD,aD,bE⟩:=Ia b
 refine cl Tryz.call46 (qW _ _ 1 a.iZ aB aC L) ?_
 rintro _ bX ⟨rfl,aF⟩
 have aW:=aD _ _ aF
 refine An rfl (rt (bR (tR (rs ?_))))
 have aZ:=aW.pk []
 obtain rfl:_=aB:=zj hr (et (iN e) (et (iN l) (et (iN m) (et (iN p) (et (ip t) (ae L))))))
 exact⟨rfl,aZ⟩
 refine jF (dF t) (sr (Kz (.bool (decide (o=13))) (An rfl ?_)))
 by_cases y:o=13
 refine jT (dT y) (sr (Kz (vP d 16) (La (aj.cells a.aA) b 0 Tryz.isAgg37 Tryz.sizeOf37 ?_)))
 obtain⟨T,M⟩:∃ q,dU a.aA=q:=⟨_,rfl⟩
 obtain⟨bY,aG,bF,aH,bG⟩:=Ia b
 refine cl Tryz.call65 (jd _ _ a.aA T aG M) ?_
 rintro _ bZ ⟨rfl,aI⟩
 have bf:=aH _ _ aI
 refine Kz (.bool (decide (T=0))) (An rfl (rt (bR (tR (rs ?_)))))
 have bg:=bf.pk []
 obtain rfl:_=decide (T=0):=zj hr (et (iN e) (et (iN l) (et (iN m) (et (iN p) (et (iN t) (et (ip y) (ae M)))))))
 exact⟨rfl,bg⟩
 refine jF (dF y) (IG (bN (Ib (sr (An rfl (rt (rs ?_)))))))
 have bi:=b.pk []
 obtain rfl:_=true:=zj hr (et (iN e) (et (iN l) (et (iN m) (et (iN p) (et (iN t) (iN y))))))
 exact⟨rfl,bi⟩
def jO (d:dL):List Int->Unit ⊕ Bool
  | []=>y0 ()
  | b::c=>bnd (rP d b) λ a=>if a=true then jO d c else y3 (false)
def rT (a:dL) (l1:List Int):Bool:=
 lp (jO a l1) λ _=>true
theorem zg (w D) (a:dL) (h z d j B f m l C g R n1 c1 l1 r0) (H:Own w D w []) (G:z=a.aK.ls.length) (I:Ro w D λ w'=>bO w' 6 h a.aK.ls.length (q2 aX.cells a.aK.ls)) (ag:a.aK.ls.length<=d/\a.aK.ls.length<=9223372036854775807) (p:s1 aR.abs m=a.aV.ls) (J:B=a.aV.ls.length) (K:Ro w D λ w'=>bO w' 3 j a.aV.ls.length (q2 aR.cells m)) (ah:a.aV.ls.length<=f/\a.aV.ls.length<=9223372036854775807) (r:∀ x ∈ m,Ro w D (λ w'=>bO w' 2 x.bz.A x.bz.ls.length (q2 az.cells x.bz.ls))/\(x.bz.ls.length<=x.bz.c/\x.bz.ls.length<=9223372036854775807)) (L:C=a.ah.ls.length) (M:Ro w D λ w'=>bO w' 2 l a.ah.ls.length (q2 bM.cells a.ah.ls)) (ai:a.ah.ls.length<=g/\a.ah.ls.length<=9223372036854775807) (N:Ro w D λ w'=>bO w' 1 R n1 (q2 (eI .i64) l1)) (aj:n1=l1.length) (aH:l1.length *8<=211106232532992) (aI:a.aK.ls.length<=140737488355328/\a.aV.ls.length<=140737488355328/\a.ah.ls.length<=140737488355328) (hr:rT a l1=r0):
    Calls u9 49 #[.agg (iy a.aB a.jo a.jU a.iq a.gp a.iZ a.gN a.aQ a.aU a.bi a.bq a.aJ a.aD a.bv a.xN a.ik a.aA.aN a.aA.aT h z d j B f l C g).toArray, .slice R n1 c1] w (dI λ v w'=>v= .bool r0/\Own w D w' []):=by
 subst aj G J L
 have Z:=aY p
 refine cb Tryz.func49 ?_
 refine sr ?_
 refine bW (lX a h d j f l g) 47 H ?_
 intro O aJ ak
 refine An rfl (H7 (sr (Mz rfl (Kz (vJ l1.length) (Mn rfl (bo ?_))))))
 have au:=ak.pf []
 obtain⟨av,s⟩:=mI λ (b:Nat) w'=>Own w D w' [blk O (lX a h d j f l g) 47]/\b<=l1.length/\jO a l1=jO a (s0 b l1)
 refine y6 (λ i:Nat=> [(4, .bool false),(9,vJ i),(8,vJ l1.length),(7, .slice R l1.length c1),(2,vP O 0)]) av (λ i=>l1.length - i) 0 ⟨rfl,rfl,rfl,rfl,rfl,trivial⟩ (s.2 ⟨au,e8,rfl⟩) ?_
 rintro b aK S
 show Wp _ _ _ [(4, .bool false),(9,vJ b),(8,vJ l1.length),(7, .slice R l1.length c1),(2,vP O 0)] _ _
 obtain⟨o,aC,t⟩:=s.1 S
 refine sr (Kz (.bool (decide (((b:Nat):Int) < ((l1.length:Nat):Int)))) (nt (H7 ?_)))
 by_cases T:((b:Nat):Int) < ((l1.length:Nat):Int)
 obtain⟨P,E⟩:=dG (ls:=l1) (i:=b) wo f5 (o.ro N) f2
 have F:=drop_at E
 refine jT (dT T) (sk (H7 (bo (sr (fw (.pointer (some ⟨ab R,ao R+b *1,none⟩)) (Im (ER) rfl rfl ((o.ro N).addr (i:=b) e8) e8) (fw (vI P) (Il rfl (bQ.one Tryz.isAgg183 (((o.ro N).elem wo E f5).at_ (k:=0) rfl))) (Ar rfl (La (lX a h d j f l g) o 0 Tryz.isAgg47 Tryz.sizeOf47 (Mz rfl ?_)))))))))
 obtain⟨Q,u⟩:∃ q,rP a P=q:=⟨_,rfl⟩
 obtain⟨aL,U,n,V,aD⟩:=Ia o
 refine cl Tryz.call96 (BD _ _ a h a.aK.ls.length d j a.aV.ls.length f m l a.ah.ls.length g P Q U rfl (n _ I) e8 p rfl (n _ K) e8 (λ x9 h9=>⟨n _ (r x9 h9).1,(r x9 h9).2⟩) rfl (n _ M) e8 f8 u) ?_
 rintro _ aM ⟨rfl,W⟩
 have X:=V _ _ W
 refine Kz (.bool (!Q)) (nt ?_)
 rcases Lr (Q) with y | y
 refine jF (cn y) (IG (bN (Ib (H8 (fw (vJ (b+1)) (Ig (e:=B5.wrap (((b:Nat):Int)+1)) yk f1) (Mz rfl (B6 ?_)))))))
 have ax:=X.pf []
 exact Iq (b+1) ⟨rfl,rfl,rfl,rfl,rfl,trivial⟩ (s.2 ⟨ax,e8,et (t) (et (congrArg (λ q=>jO a q) F) (et (ae u) (ip y)))⟩) (by show l1.length - (b+1) < l1.length - b; omega)
 refine jT (cn y) (sr (An rfl (rt (bR (tR (tR (bR (tR (rs ?_)))))))))
 have ay:=X.pk []
 obtain rfl:_=false:=zj hr (iG (et (t) (et (congrArg (λ q=>jO a q) F) (et (ae u) (eF y)))))
 exact⟨rfl,ay⟩
 refine jF (dF T) (B7 (Ip ?_))
 have Y:jO a l1=y0 ():=et (t) (et (congrArg (λ q=>jO a q) (eX (ls:=l1) (i:=b) e8)) rfl)
 refine Ip (Iz (Ib (sr (An rfl (rt (rs ?_))))))
 have aA:=o.pk []
 obtain rfl:_=true:=zj hr (lw Y)
 exact⟨rfl,aA⟩
def uW (a:dL):Bool:=
 if((cO (cO (cO (cO (cO (cO (cO (cO a.gN a.aQ) a.aU) a.bi) a.bq) a.aJ) a.aD) a.bv) a.xN:Nat):Int)=0 then if(((a.aK.ls.length+a.aV.ls.length)+a.ah.ls.length:Nat):Int)=0 then if a.iq=0 then if a.gp=0 then if a.iZ=0 then if a.ik=true then false else decide ((a.aA.aN=([]))/\(a.aA.aT=([]))) else false else false else false else false else false
theorem zV (w D) (a:dL) (l s m n t o r p y q V) (H:Own w D w []) (z:s=a.aK.ls.length) (G:Ro w D λ w'=>bO w' 6 l a.aK.ls.length (q2 aX.cells a.aK.ls)) (I:a.aK.ls.length<=m/\a.aK.ls.length<=9223372036854775807) (B:s1 aR.abs r=a.aV.ls) (C:t=a.aV.ls.length) (J:Ro w D λ w'=>bO w' 3 n a.aV.ls.length (q2 aR.cells r)) (K:a.aV.ls.length<=o/\a.aV.ls.length<=9223372036854775807) (L:∀ x ∈ r,Ro w D (λ w'=>bO w' 2 x.bz.A x.bz.ls.length (q2 az.cells x.bz.ls))/\(x.bz.ls.length<=x.bz.c/\x.bz.ls.length<=9223372036854775807)) (E:y=a.ah.ls.length) (M:Ro w D λ w'=>bO w' 2 p a.ah.ls.length (q2 bM.cells a.ah.ls)) (N:a.ah.ls.length<=q/\a.ah.ls.length<=9223372036854775807) (ah:a.aK.ls.length<=140737488355328/\a.aV.ls.length<=140737488355328/\a.ah.ls.length<=140737488355328) (hr:uW a=V):
    Calls u9 47 #[.agg (iy a.aB a.jo a.jU a.iq a.gp a.iZ a.gN a.aQ a.aU a.bi a.bq a.aJ a.aD a.bv a.xN a.ik a.aA.aN a.aA.aT l s m n t o p y q).toArray] w (dI λ v w'=>v= .bool V/\Own w D w' []):=by
 subst z C E
 have F:=aY B
 refine cb Tryz.func47 ?_
 refine sr ?_
 refine bW (lX a l m n o p q) 47 H ?_
 intro d ai b
 refine Ar rfl (Kz (vP d 6) (Lz (vU a.gN) b 0 E1 (Kz (vP d 7) (Lz (vU a.aQ) b 0 E1 ?_))))
 have W:cO a.gN a.aQ<=18446744073709551615:=o5 _ _
 refine fw (vU (cO a.gN a.aQ)) (Ig (e:=H3.wrap (((BitVec.ofInt 64 ((a.gN:Nat):Int) ||| BitVec.ofInt 64 ((a.aQ:Nat):Int)).toNat:Nat):Int)) yk (kX _)) (Kz (vP d 8) (Lz (vU a.aU) b 0 E1 ?_))
 have X:cO (cO a.gN a.aQ) a.aU<=18446744073709551615:=o5 _ _
 refine fw (vU (cO (cO a.gN a.aQ) a.aU)) (Ig (e:=H3.wrap (((BitVec.ofInt 64 ((cO a.gN a.aQ:Nat):Int) ||| BitVec.ofInt 64 ((a.aU:Nat):Int)).toNat:Nat):Int)) yk (kX _)) (Kz (vP d 9) (Lz (vU a.bi) b 0 E1 ?_))
 have Y:cO (cO (cO a.gN a.aQ) a.aU) a.bi<=18446744073709551615:=o5 _ _
 refine fw (.int .u64 ((cO (cO (cO a.gN a.aQ) a.aU) a.bi:Nat):Int)) (Ig (e:=H3.wrap (((BitVec.ofInt 64 ((cO (cO a.gN a.aQ) a.aU:Nat):Int) ||| BitVec.ofInt 64 ((a.bi:Nat):Int)).toNat:Nat):Int)) yk (kX _)) (Kz (vP d 10) (Lz (vU a.bq) b 0 E1 ?_))
 have Z:cO (cO (cO (cO a.gN a.aQ) a.aU) a.bi) a.bq<=18446744073709551615:=o5 _ _
 refine fw (.int .u64 ((cO (cO (cO (cO a.gN a.aQ) a.aU) a.bi) a.bq:Nat):Int)) (Ig (e:=H3.wrap (((BitVec.ofInt 64 ((cO (cO (cO a.gN a.aQ) a.aU) a.bi:Nat):Int) ||| BitVec.ofInt 64 ((a.bq:Nat):Int)).toNat:Nat):Int)) yk (kX _)) (Kz (vP d 11) (Lz (vU a.aJ) b 0 E1 ?_))
 have aa:cO (cO (cO (cO (cO a.gN a.aQ) a.aU) a.bi) a.bq) a.aJ<=18446744073709551615:=o5 _ _
 refine fw (.int .u64 ((cO (cO (cO (cO (cO a.gN a.aQ) a.aU) a.bi) a.bq) a.aJ:Nat):Int)) (Ig (e:=H3.wrap (((BitVec.ofInt 64 ((cO (cO (cO (cO a.gN a.aQ) a.aU) a.bi) a.bq:Nat):Int) ||| BitVec.ofInt 64 ((a.aJ:Nat):Int)).toNat:Nat):Int)) yk (kX _)) (Kz (vP d 12) (Lz (vU a.aD) b 0 E1 ?_))
 have ae:cO (cO (cO (cO (cO (cO a.gN a.aQ) a.aU) a.bi) a.bq) a.aJ) a.aD<=18446744073709551615:=o5 _ _
 refine fw (.int .u64 ((cO (cO (cO (cO (cO (cO a.gN a.aQ) a.aU) a.bi) a.bq) a.aJ) a.aD:Nat):Int)) (Ig (e:=H3.wrap (((BitVec.ofInt 64 ((cO (cO (cO (cO (cO a.gN a.aQ) a.aU) a.bi) a.bq) a.aJ:Nat):Int) ||| BitVec.ofInt 64 ((a.aD:Nat):Int)).toNat:Nat):Int)) yk (kX _)) (Kz (vP d 13) (Lz (vU a.bv) b 0 E1 ?_))
 have af:cO (cO (cO (cO (cO (cO (cO a.gN a.aQ) a.aU) a.bi) a.bq) a.aJ) a.aD) a.bv<=18446744073709551615:=o5 _ _
 refine fw (.int .u64 ((cO (cO (cO (cO (cO (cO (cO a.gN a.aQ) a.aU) a.bi) a.bq) a.aJ) a.aD) a.bv:Nat):Int)) (Ig (e:=H3.wrap (((BitVec.ofInt 64 ((cO (cO (cO (cO (cO (cO a.gN a.aQ) a.aU) a.bi) a.bq) a.aJ) a.aD:Nat):Int) ||| BitVec.ofInt 64 ((a.bv:Nat):Int)).toNat:Nat):Int)) yk (kX _)) (Kz (vP d 14) (Lz (vU a.xN) b 0 E1 ?_))
 have ag:cO (cO (cO (cO (cO (cO (cO (cO a.gN a.aQ) a.aU) a.bi) a.bq) a.aJ) a.aD) a.bv) a.xN<=18446744073709551615:=o5 _ _
 refine fw (.int .u64 ((cO (cO (cO (cO (cO (cO (cO (cO a.gN a.aQ) a.aU) a.bi) a.bq) a.aJ) a.aD) a.bv) a.xN:Nat):Int)) (Ig (e:=H3.wrap (((BitVec.ofInt 64 ((cO (cO (cO (cO (cO (cO (cO a.gN a.aQ) a.aU) a.bi) a.bq) a.aJ) a.aD) a.bv:Nat):Int) ||| BitVec.ofInt 64 ((a.xN:Nat):Int)).toNat:Nat):Int)) yk (kX _)) (Ar rfl (Kz (vP d 18) (Lz (.slice l a.aK.ls.length m) b 0 Tryz.isAgg44 (Kz (vJ a.aK.ls.length) (Kz (vP d 19) (Lz (.slice n a.aV.ls.length o) b 0 Tryz.isAgg45 (Kz (vJ a.aV.ls.length) (fw (vJ (a.aK.ls.length+a.aV.ls.length)) (Ig (e:=B5.wrap (((a.aK.ls.length:Nat):Int)+((a.aV.ls.length:Nat):Int))) yk f1) (Kz (vP d 20) (Lz (.slice p a.ah.ls.length q) b 0 Tryz.isAgg33 (Kz (vJ a.ah.ls.length) (fw (vJ ((a.aK.ls.length+a.aV.ls.length)+a.ah.ls.length)) (Ig (e:=B5.wrap (((a.aK.ls.length+a.aV.ls.length:Nat):Int)+((a.ah.ls.length:Nat):Int))) yk f1) (Ar rfl (Mz rfl (Kz (.bool (decide (((cO (cO (cO (cO (cO (cO (cO (cO a.gN a.aQ) a.aU) a.bi) a.bq) a.aJ) a.aD) a.bv) a.xN:Nat):Int)=0))) (Mz rfl ?_))))))))))))))))
 by_cases g:((cO (cO (cO (cO (cO (cO (cO (cO a.gN a.aQ) a.aU) a.bi) a.bq) a.aJ) a.aD) a.bv) a.xN:Nat):Int)=0
 refine gw (vJ ((a.aK.ls.length+a.aV.ls.length)+a.ah.ls.length)) (dT g) (Ie rfl) (Gz (.bool (decide ((((a.aK.ls.length+a.aV.ls.length)+a.ah.ls.length:Nat):Int)=0))) (dT g) (fw (.bool (decide ((((a.aK.ls.length+a.aV.ls.length)+a.ah.ls.length:Nat):Int)=0))) (Ic rfl (dT g) rfl) (Mz rfl ?_)))
 by_cases f:(((a.aK.ls.length+a.aV.ls.length)+a.ah.ls.length:Nat):Int)=0
 refine Gz (vP d 3) (dT f) (Gl (vI a.iq) (dT f) b 0 B3 (Gz (.bool (decide (a.iq=0))) (dT f) (fw (.bool (decide (a.iq=0))) (Ic rfl (dT f) rfl) (Mz rfl ?_))))
 by_cases h:a.iq=0
 refine Gz (vP d 4) (dT h) (Gl (vI a.gp) (dT h) b 0 B3 (Gz (.bool (decide (a.gp=0))) (dT h) (fw (.bool (decide (a.gp=0))) (Ic rfl (dT h) rfl) (Mz rfl ?_))))
 by_cases j:a.gp=0
 refine Gz (vP d 5) (dT j) (Gl (vI a.iZ) (dT j) b 0 B3 (Gz (.bool (decide (a.iZ=0))) (dT j) (fw (.bool (decide (a.iZ=0))) (Ic rfl (dT j) rfl) (Mz rfl ?_))))
 by_cases k:a.iZ=0
 refine Gz (vP d 15) (dT k) (Gl (.bool a.ik) (dT k) b 0 H2 (Gz (.bool (!a.ik)) (dT k) (fw (.bool (!a.ik)) (Ic rfl (dT k) rfl) (Mz rfl ?_))))
 rcases Lr (a.ik) with i | i
 refine Sz (cn i) (Sz (cn i) (Sz (cn i) (Sz (cn i) (fw (.bool false) (H6 rfl (cn i) rfl) (An rfl (rt (rs ?_)))))))
 have O:=b.pk []
 obtain rfl:_=false:=zj hr (et (ip g) (et (ip f) (et (ip h) (et (ip j) (et (ip k) (ip i))))))
 exact⟨rfl,O⟩
 refine Gz (vP d 16) (cn i) (Ga (aj.cells a.aA) (cn i) b 0 Tryz.isAgg37 Tryz.sizeOf37 (Gz (.agg #[.string ⟨v0 ([])⟩, .string ⟨v0 ([])⟩]) (cn i) (gw (.bool (decide ((a.aA.aN=([]))/\(a.aA.aT=([]))))) (cn i) (J6 rfl rfl e9 rfl (fU.struct Tryz.underlying37 e9 (I6 (fq.cons (u:= .string ⟨v0 a.aA.aN⟩) (v:= .string ⟨v0 ([])⟩) f5 (λ _=>by kernel_rfl) (λ _=>by kernel_rfl) (fU.string v2) (fq.cons (u:= .string ⟨v0 a.aA.aT⟩) (v:= .string ⟨v0 ([])⟩) f5 (λ _=>by kernel_rfl) (λ _=>by kernel_rfl) (fU.string v2) (fq.nil.up (Lm _)))) ((congrArg (decide (a.aA.aN=([])) && ·) kN).trans fA)))) (fw (.bool (decide ((a.aA.aN=([]))/\(a.aA.aT=([]))))) (Ic rfl (cn i) rfl) (An rfl (rt (rs ?_)))))))
 have P:=b.pk []
 obtain rfl:_=decide ((a.aA.aN=([]))/\(a.aA.aT=([]))):=zj hr (et (ip g) (et (ip f) (et (ip h) (et (ip j) (et (ip k) (eF i))))))
 exact⟨rfl,P⟩
 refine Sz (dF k) (Sz (dF k) (Sz (dF k) (fw (.bool false) (H6 rfl (dF k) rfl) (Mz rfl (Sz rfl (Sz rfl (Sz rfl (Sz rfl (fw (.bool false) (H6 rfl rfl rfl) (An rfl (rt (rs ?_))))))))))))
 have Q:=b.pk []
 obtain rfl:_=false:=zj hr (et (ip g) (et (ip f) (et (ip h) (et (ip j) (iN k)))))
 exact⟨rfl,Q⟩
 refine Sz (dF j) (Sz (dF j) (Sz (dF j) (fw (.bool false) (H6 rfl (dF j) rfl) (Mz rfl (Sz rfl (Sz rfl (Sz rfl (fw (.bool false) (H6 rfl rfl rfl) (Mz rfl (Sz rfl (Sz rfl (Sz rfl (Sz rfl (fw (.bool false) (H6 rfl rfl rfl) (An rfl (rt (rs ?_)))))))))))))))))
 have R:=b.pk []
 obtain rfl:_=false:=zj hr (et (ip g) (et (ip f) (et (ip h) (iN j))))
 exact⟨rfl,R⟩
 refine Sz (dF h) (Sz (dF h) (Sz (dF h) (fw (.bool false) (H6 rfl (dF h) rfl) (Mz rfl (Sz rfl (Sz rfl (Sz rfl (fw (.bool false) (H6 rfl rfl rfl) (Mz rfl (Sz rfl (Sz rfl (Sz rfl (fw (.bool false) (H6 rfl rfl rfl) (Mz rfl (Sz rfl (Sz rfl (Sz rfl (Sz rfl (fw (.bool false) (H6 rfl rfl rfl) (An rfl (rt (rs ?_))))))))))))))))))))))
 have S:=b.pk []
 obtain rfl:_=false:=zj hr (et (ip g) (et (ip f) (iN h)))
 exact⟨rfl,S⟩
 refine Sz (dF f) (Sz (dF f) (Sz (dF f) (fw (.bool false) (H6 rfl (dF f) rfl) (Mz rfl (Sz rfl (Sz rfl (Sz rfl (fw (.bool false) (H6 rfl rfl rfl) (Mz rfl (Sz rfl (Sz rfl (Sz rfl (fw (.bool false) (H6 rfl rfl rfl) (Mz rfl (Sz rfl (Sz rfl (Sz rfl (fw (.bool false) (H6 rfl rfl rfl) (Mz rfl (Sz rfl (Sz rfl (Sz rfl (Sz rfl (fw (.bool false) (H6 rfl rfl rfl) (An rfl (rt (rs ?_)))))))))))))))))))))))))))
 have T:=b.pk []
 obtain rfl:_=false:=zj hr (et (ip g) (iN f))
 exact⟨rfl,T⟩
 refine Sz (dF g) (Sz (dF g) (fw (.bool false) (H6 rfl (dF g) rfl) (Mz rfl (Sz rfl (Sz rfl (Sz rfl (fw (.bool false) (H6 rfl rfl rfl) (Mz rfl (Sz rfl (Sz rfl (Sz rfl (fw (.bool false) (H6 rfl rfl rfl) (Mz rfl (Sz rfl (Sz rfl (Sz rfl (fw (.bool false) (H6 rfl rfl rfl) (Mz rfl (Sz rfl (Sz rfl (Sz rfl (fw (.bool false) (H6 rfl rfl rfl) (Mz rfl (Sz rfl (Sz rfl (Sz rfl (Sz rfl (fw (.bool false) (H6 rfl rfl rfl) (An rfl (rt (rs ?_)))))))))))))))))))))))))))))))
 have U:=b.pk []
 obtain rfl:_=false:=zj hr (iN g)
 exact⟨rfl,U⟩
end
open _root_.Go.Proofs.Tryz renaming isAgg121->H4,isAgg47->H5,sizeOf32->I2,sizeOf47->I0
section
open Go.RowKit
def cK (u:dL) (s:fJ):List Int->Int->Int->Nat->Nat->Nat->Nat->Nat->Nat->Nat->Nat->Nat->Bool->List UInt8->List UInt8->List aX->List dh->List bM->Int × Int × Nat × Nat × Nat × Nat × Nat × Nat × Nat × Nat × Nat × Bool × (List UInt8) × (List UInt8) × (List aX) × (List dh) × (List bM)
  | [],b,c,d,e,f,g,h,i,j,k,l,m,n,o,p,q,r=>(b,c,d,e,f,g,h,i,j,k,l,m,n,o,p,q,r)
  | a::t,b,c,d,e,f,g,h,i,j,k,l,m,n,o,p,q,r=>if a=0 then cK u s t b c 0 e f g h i j k l m n o p q r else if a=1 then cK u s t b c d 0 f g h i j k l m n o p q r else if a=2 then cK u s t 0 c d e f g h i j k l m n o p q r else if a=3 then cK u s t b c d e f g h i j k l m n o p [] r else if a=4 then cK u s t b c d e 0 g h i j k l m n o p q r else if a=5 then cK u s t b c d e f 0 h i j k l m n o p q r else if a=6 then cK u s t b c d e f g h 0 j k l m n o p q r else if a=7 then cK u s t b c d e f g h i j k l m n o [] q r else if a=8 then cK u s t b c d e f g h i j k l false n o p q r else if a=9 then cK u s t b c d e f g 0 i j k l m n o p q r else if a=10 then cK u s t b c d e f g h i 0 k l m n o p q r else if a=11 then cK u s t b c d e f g h i j k l m n o p q [] else if a=12 then cK u s t b 0 d e f g h i j k l m n o p q r else if a=13 then cK u s t b c d e f g h i j k l m [] [] p q r else if a=14 then cK u s t b c d e f g h i j 0 l m n o p q r else if a=15 then cK u s t b c d e f g h i j k 0 m n o p q r else cK u s t b c d e f g h i j k l m n o p q r
def kG (a:dL):Int:=
 bnd (qx a.aB) λ b=>if b.2=true then bnd (mR b.1.ng a.jo) λ e=>if e=true then bnd (mR b.1.rC a.jU) λ f=>if f=true then bnd (cK a b.1 b.1.cB.ls a.gp a.iZ a.gN a.aQ a.aU a.bi a.bq a.aJ a.aD a.bv a.xN a.ik a.aA.aN a.aA.aT a.aK.ls a.aV.ls a.ah.ls) λ sLrbtbtbtL=>bnd (uW (dL.mk a.aB a.jo a.jU a.iq sLrbtbtbtL.1 sLrbtbtbtL.2.1 sLrbtbtbtL.2.2.1 sLrbtbtbtL.2.2.2.1 sLrbtbtbtL.2.2.2.2.1 sLrbtbtbtL.2.2.2.2.2.1 sLrbtbtbtL.2.2.2.2.2.2.1 sLrbtbtbtL.2.2.2.2.2.2.2.1 sLrbtbtbtL.2.2.2.2.2.2.2.2.1 sLrbtbtbtL.2.2.2.2.2.2.2.2.2.1 sLrbtbtbtL.2.2.2.2.2.2.2.2.2.2.1 sLrbtbtbtL.2.2.2.2.2.2.2.2.2.2.2.1 (aj.mk sLrbtbtbtL.2.2.2.2.2.2.2.2.2.2.2.2.1 sLrbtbtbtL.2.2.2.2.2.2.2.2.2.2.2.2.2.1) (F2 sLrbtbtbtL.2.2.2.2.2.2.2.2.2.2.2.2.2.2.1) (F2 sLrbtbtbtL.2.2.2.2.2.2.2.2.2.2.2.2.2.2.2.1) (F2 sLrbtbtbtL.2.2.2.2.2.2.2.2.2.2.2.2.2.2.2.2))) λ c=>if c=true then bnd (rT a b.1.cB.ls) λ d=>if d=true then if b.1.ng=1 then if b.1.rC=1 then if a.jo=a.jU then 180 else 0 else 0 else 0 else 180 else 180 else 180 else 180 else 180
theorem vR (w D) (a:dL) (ak bY aa au bZ af aI av cz ag r0) (H:Own w D w []) (di:bY=a.aK.ls.length) (bH:Ro w D λ w'=>bO w' 6 ak a.aK.ls.length (q2 aX.cells a.aK.ls)) (ib:a.aK.ls.length<=aa/\a.aK.ls.length<=9223372036854775807) (bg:s1 aR.abs aI=a.aV.ls) (dm:bZ=a.aV.ls.length) (bI:Ro w D λ w'=>bO w' 3 au a.aV.ls.length (q2 aR.cells aI)) (ic:a.aV.ls.length<=af/\a.aV.ls.length<=9223372036854775807) (bi:∀ x ∈ aI,Ro w D (λ w'=>bO w' 2 x.bz.A x.bz.ls.length (q2 az.cells x.bz.ls))/\(x.bz.ls.length<=x.bz.c/\x.bz.ls.length<=9223372036854775807)) (dn:cz=a.ah.ls.length) (bJ:Ro w D λ w'=>bO w' 2 av a.ah.ls.length (q2 bM.cells a.ah.ls)) (ig:a.ah.ls.length<=ag/\a.ah.ls.length<=9223372036854775807) (jG:a.aK.ls.length<=140737488355328/\a.aV.ls.length<=140737488355328/\a.ah.ls.length<=140737488355328) (hr:kG a=r0):
    Calls Tryz.prog 22 #[.agg (iy a.aB a.jo a.jU a.iq a.gp a.iZ a.gN a.aQ a.aU a.bi a.bq a.aJ a.aD a.bv a.xN a.ik a.aA.aN a.aA.aT ak bY aa au bZ af av cz ag).toArray] w (dI λ v w'=>v=vI r0/\Own w D w' []):=by
 unfold kG at hr
 subst di dm dn
 have gZ:=aY bg
 refine cb Tryz.func22 ?_
 refine sr ?_
 refine bW (lX a ak aa au af av ag) 47 H ?_
 intro bG jH dJ
 refine Ar rfl (Kz (vP bG 0) (Lz (vI a.aB) dJ 0 B3 ?_))
 obtain⟨⟨d,bL⟩,aK⟩:∃ q:fJ × Bool,qx a.aB=q:=⟨_,rfl⟩
 obtain⟨jI,dK,iR,dM,iT⟩:=Ia dJ
 refine cl Tryz.call45 (xH _ _ a.aB d bL dK aK) ?_
 rintro _ jJ ⟨aW,bn,rfl,dN,cB⟩
 have dO:=dM _ _ dN
 have iU:=dO.rowC (i:=0) rfl
 replace cB:d.cB.ls.length<=5:=cB
 refine Mz rfl (Kz (.agg #[vI d.ng,vI d.rC, .slice aW d.cB.ls.length bn]) (Kz (.bool bL) ?_))
 refine bW [vI 0,vI 0, .slice none 0 0] 124 dO ?_
 intro bz jK ik
 refine cu [vI d.ng,vI d.rC, .slice aW d.cB.ls.length bn] 0 ik Tryz.sizeOf124 ?_
 intro jL bR
 refine An rfl (H7 (sr (Mz rfl (Kz (.bool (!bL)) (Mz rfl ?_)))))
 rcases Lr (bL) with ai | ai
 refine Gz (vP bz 0) (cn ai) (Gl (vI d.ng) (cn ai) bR 0 H4 (Gz (vP bG 1) (cn ai) (Gl (vI a.jo) (cn ai) bR 2 B3 ?_)))
 obtain⟨bS,aN⟩:∃ q,mR d.ng a.jo=q:=⟨_,rfl⟩
 obtain⟨jM,dP,iV,dQ,iW⟩:=Ia bR
 refine oh (cn ai) Tryz.call46 (qW _ _ d.ng a.jo bS dP aN) ?_
 rintro _ jN ⟨rfl,dR⟩
 have bT:=dQ _ _ dR
 refine Gz (.bool (!bS)) (cn ai) (fw (.bool (!bS)) (H6 rfl (cn ai) rfl) (Mz rfl ?_))
 rcases Lr (bS) with ax | ax
 refine Gz (vP bz 1) (cn ax) (Gl (vI d.rC) (cn ax) bT 0 H4 (Gz (vP bG 2) (cn ax) (Gl (vI a.jU) (cn ax) bT 2 B3 ?_)))
 obtain⟨bU,aS⟩:∃ q,mR d.rC a.jU=q:=⟨_,rfl⟩
 obtain⟨jO,dS,iX,dU,iY⟩:=Ia bT
 refine oh (cn ax) Tryz.call46 (qW _ _ d.rC a.jU bU dS aS) ?_
 rintro _ jP ⟨rfl,dV⟩
 have bV:=dU _ _ dV
 refine Gz (.bool (!bU)) (cn ax) (fw (.bool (!bU)) (H6 rfl (cn ax) rfl) (Mz rfl ?_))
 rcases Lr (bU) with aB | aB
 refine Ga (lX a ak aa au af av ag) (cn aB) bV 2 H5 I0 (Gz (vP bz 2) (cn aB) (Gl (.slice aW d.cB.ls.length bn) (cn aB) bV 0 Tryz.isAgg122 ?_))
 refine I9 rfl rfl (cn aB) rfl (IB Tryz.call48 rfl ?_ (λ _ _ k=>k))
 refine cb Tryz.func48 ?_
 refine sr ?_
 refine bW (lX a ak aa au af av ag) 47 bV ?_
 intro aF jQ il
 refine bW (iy 0 0 0 0 0 0 0 0 0 0 0 0 0 0 0 false [] [] none 0 0 none 0 0 none 0 0) 47 il ?_
 intro dw jR iq
 refine nt (H7 (sr (Mz rfl (Kz (vJ d.cB.ls.length) (Mn rfl (bo ?_))))))
 have iw:=iq.pf []
 obtain⟨dW,I⟩:=Ha λ (b:Nat) (z:Int) (B:Int) (j:Nat) (l:Nat) (n:Nat) (o:Nat) (p:Nat) (r:Nat) (s:Nat) (t:Nat) (u:Nat) C E F W (R:Nat) f X (S:Nat) T g Y (U:Nat) h w'=>Own w D w' [blk dw (iy 0 0 0 0 0 0 0 0 0 0 0 0 0 0 0 false [] [] none 0 0 none 0 0 none 0 0) 47,blk aF (iy a.aB a.jo a.jU a.iq z B j l n o p r s t u C E F W f.length R X g.length S Y h.length U) 47,blk bz [vI d.ng,vI d.rC, .slice aW d.cB.ls.length bn] 124,row aW d.cB.ls.length bn (q2 (eI .i64) d.cB.ls) 183 1,blk bG (lX a ak aa au af av ag) 47]/\jq 6 ak aa a.aK.ls W R f/\jq 3 au af aI X S T/\s1 aR.abs T=g/\jq 2 av ag a.ah.ls Y U h/\b<=d.cB.ls.length/\j<=a.gN+b/\l<=a.aQ+b/\n<=a.aU+b/\o<=a.bi+b/\p<=a.bq+b/\r<=a.aJ+b/\s<=a.aD+b/\t<=a.bv+b/\u<=a.xN+b/\cK a d d.cB.ls a.gp a.iZ a.gN a.aQ a.aU a.bi a.bq a.aJ a.aD a.bv a.xN a.ik a.aA.aN a.aA.aT a.aK.ls a.aV.ls a.ah.ls=cK a d (s0 b d.cB.ls) z B j l n o p r s t u C E F f g h
 refine Wp.loop (λ i:Nat × Int × Int × Nat × Nat × Nat × Nat × Nat × Nat × Nat × Nat × Nat × Bool × (List UInt8) × (List UInt8) × (Option Addr) × Nat × (List aX) × (Option Addr) × Nat × (List aR) × (List dh) × (Option Addr) × Nat × (List bM)=> [(9,vJ i.1),(8,vJ d.cB.ls.length),(7, .slice aW d.cB.ls.length bn),(4,vP dw 0),(2,vP aF 0)]) dW (λ i=>d.cB.ls.length - i.1) (0,a.gp,a.iZ,a.gN,a.aQ,a.aU,a.bi,a.bq,a.aJ,a.aD,a.bv,a.xN,a.ik,a.aA.aN,a.aA.aT,ak,aa,a.aK.ls,au,af,aI,a.aV.ls,av,ag,a.ah.ls) ⟨rfl,rfl,rfl,rfl,rfl,trivial⟩ (I.2 ⟨iw,by exact(jq.refl e8),by exact(jq.refl e8),by exact bg,by exact(jq.refl e8),e8,e8,e8,e8,e8,e8,e8,e8,e8,e8,rfl⟩) ?_
 rintro ⟨b,z,B,j,l,n,o,p,r,s,t,u,C,E,F,W,R,f,X,S,T,g,Y,U,h⟩ iZ dx
 show Wp _ _ _ [(9,vJ b),(8,vJ d.cB.ls.length),(7, .slice aW d.cB.ls.length bn),(4,vP dw 0),(2,vP aF 0)] _ _
 obtain⟨O,K,G,J,L,iA,iB,iC,iD,iE,iF,iG,iH,iI,iJ,M⟩:=I.1 dx
 have iK:=(K).le
 have iL:=(G).le
 have iM:=aY J
 have iO:=(L).le
 refine sr (Kz (.bool (decide ((b:Int) < (d.cB.ls.length:Int)))) (nt (H7 ?_)))
 by_cases cO:(b:Int) < (d.cB.ls.length:Int)
 obtain⟨y,bK⟩:=dG (ls:=d.cB.ls) (i:=b) wo f5 (O.rds (i:=3) rfl) f2
 have N:=drop_at bK
 refine jT (dT cO) (sk (H7 (bo (sr (fw (.pointer (some ⟨ab aW,ao aW+b *1,none⟩)) (Im (ER) rfl rfl ((O.rds (i:=3) rfl).addr (i:=b) e8) e8) (fw (vI y) (Il rfl (bQ.one Tryz.isAgg183 (((O.rds (i:=3) rfl).elem wo bK f5).at_ (k:=0) rfl))) (Ar rfl (Mn rfl (bo (sr (Kz (.bool (decide (y=0))) (An rfl ?_))))))))))))
 by_cases P:y=0
 refine jT (dT P) (H8 (Kz (vP aF 6) ?_))
 have dX:=O.pf [1]
 refine cu [.int .u64 0] 6 dX I2 ?_
 intro ja dY
 refine B6 (bN (bN (Ib (H8 (fw (vJ (b+1)) (Ig (e:=B5.wrap ((b:Int)+1)) yk f1) (Mz rfl (B6 ?_)))))))
 have dZ:=dY.pf [1]
 exact Iq (b+1,z,B,0,l,n,o,p,r,s,t,u,C,E,F,W,R,f,X,S,T,g,Y,U,h) ⟨rfl,rfl,rfl,rfl,rfl,trivial⟩ (I.2 ⟨dZ,by exact K,by exact G,by exact J,by exact L,e8,e8,e8,e8,e8,e8,e8,e8,e8,e8,et (M) (et (congrArg (λ q=>cK a d q z B j l n o p r s t u C E F f g h) N) (ip P))⟩) (by show d.cB.ls.length - (b+1) < d.cB.ls.length - b; omega)
 refine jF (dF P) (sr (Kz (.bool (decide (y=1))) (An rfl ?_)))
 by_cases V:y=1
 refine jT (dT V) (H8 (Kz (vP aF 7) ?_))
 have d9:=O.pf [1]
 refine cu [.int .u64 0] 7 d9 I2 ?_
 intro jb ed
 refine B6 (bN (bN (Ib (H8 (fw (vJ (b+1)) (Ig (e:=B5.wrap ((b:Int)+1)) yk f1) (Mz rfl (B6 ?_)))))))
 have ek:=ed.pf [1]
 exact Iq (b+1,z,B,j,0,n,o,p,r,s,t,u,C,E,F,W,R,f,X,S,T,g,Y,U,h) ⟨rfl,rfl,rfl,rfl,rfl,trivial⟩ (I.2 ⟨ek,by exact K,by exact G,by exact J,by exact L,e8,e8,e8,e8,e8,e8,e8,e8,e8,e8,et (M) (et (congrArg (λ q=>cK a d q z B j l n o p r s t u C E F f g h) N) (et (iN P) (ip V)))⟩) (by show d.cB.ls.length - (b+1) < d.cB.ls.length - b; omega)
 refine jF (dF V) (sr (Kz (.bool (decide (y=2))) (An rfl ?_)))
 by_cases Z:y=2
 refine jT (dT Z) (H8 (Kz (vP aF 4) ?_))
 have eu:=O.pf [1]
 refine cu [vI 0] 4 eu Tryz.sizeOf3 ?_
 intro jc eB
 refine B6 (bN (bN (Ib (H8 (fw (vJ (b+1)) (Ig (e:=B5.wrap ((b:Int)+1)) yk f1) (Mz rfl (B6 ?_)))))))
 have eD:=eB.pf [1]
 exact Iq (b+1,0,B,j,l,n,o,p,r,s,t,u,C,E,F,W,R,f,X,S,T,g,Y,U,h) ⟨rfl,rfl,rfl,rfl,rfl,trivial⟩ (I.2 ⟨eD,by exact K,by exact G,by exact J,by exact L,e8,e8,e8,e8,e8,e8,e8,e8,e8,e8,et (M) (et (congrArg (λ q=>cK a d q z B j l n o p r s t u C E F f g h) N) (et (iN P) (et (iN V) (ip Z))))⟩) (by show d.cB.ls.length - (b+1) < d.cB.ls.length - b; omega)
 refine jF (dF Z) (sr (Kz (.bool (decide (y=3))) (An rfl ?_)))
 by_cases ah:y=3
 refine jT (dT ah) (H8 (Kz (vP aF 19) ?_))
 have eG:=O.pf [1]
 refine cu [.slice none 0 0] 19 eG Tryz.sizeOf45 ?_
 intro jd eH
 refine B6 (bN (bN (Ib (H8 (fw (vJ (b+1)) (Ig (e:=B5.wrap ((b:Int)+1)) yk f1) (Mz rfl (B6 ?_)))))))
 have eO:=eH.pf [1]
 exact Iq (b+1,z,B,j,l,n,o,p,r,s,t,u,C,E,F,W,R,f,none,0, [], [],Y,U,h) ⟨rfl,rfl,rfl,rfl,rfl,trivial⟩ (I.2 ⟨eO,(show jq 6 ak aa a.aK.ls W R f/\jq 3 au af aI none 0 []/\s1 aR.abs []=[]/\jq 2 av ag a.ah.ls Y U h/\(b+1)<=d.cB.ls.length/\j<=a.gN+(b+1)/\l<=a.aQ+(b+1)/\n<=a.aU+(b+1)/\o<=a.bi+(b+1)/\p<=a.bq+(b+1)/\r<=a.aJ+(b+1)/\s<=a.aD+(b+1)/\t<=a.bv+(b+1)/\u<=a.xN+(b+1)/\cK a d d.cB.ls a.gp a.iZ a.gN a.aQ a.aU a.bi a.bq a.aJ a.aD a.bv a.xN a.ik a.aA.aN a.aA.aT a.aK.ls a.aV.ls a.ah.ls=cK a d (s0 (b+1) d.cB.ls) z B j l n o p r s t u C E F f [] h from ⟨by exact K,by exact jq.nil,by exact rfl,by exact L,e8,e8,e8,e8,e8,e8,e8,e8,e8,e8,et (M) (et (congrArg (λ q=>cK a d q z B j l n o p r s t u C E F f g h) N) (et (iN P) (et (iN V) (et (iN Z) (ip ah)))))⟩)⟩) (by show d.cB.ls.length - (b+1) < d.cB.ls.length - b; omega)
 refine jF (dF ah) (sr (Kz (.bool (decide (y=4))) (An rfl ?_)))
 by_cases ay:y=4
 refine jT (dT ay) (H8 (Kz (vP aF 8) ?_))
 have eP:=O.pf [1]
 refine cu [.int .u64 0] 8 eP I2 ?_
 intro je eQ
 refine B6 (bN (bN (Ib (H8 (fw (vJ (b+1)) (Ig (e:=B5.wrap ((b:Int)+1)) yk f1) (Mz rfl (B6 ?_)))))))
 have eT:=eQ.pf [1]
 exact Iq (b+1,z,B,j,l,0,o,p,r,s,t,u,C,E,F,W,R,f,X,S,T,g,Y,U,h) ⟨rfl,rfl,rfl,rfl,rfl,trivial⟩ (I.2 ⟨eT,by exact K,by exact G,by exact J,by exact L,e8,e8,e8,e8,e8,e8,e8,e8,e8,e8,et (M) (et (congrArg (λ q=>cK a d q z B j l n o p r s t u C E F f g h) N) (et (iN P) (et (iN V) (et (iN Z) (et (iN ah) (ip ay))))))⟩) (by show d.cB.ls.length - (b+1) < d.cB.ls.length - b; omega)
 refine jF (dF ay) (sr (Kz (.bool (decide (y=5))) (An rfl ?_)))
 by_cases aC:y=5
 refine jT (dT aC) (H8 (Kz (vP aF 9) ?_))
 have eU:=O.pf [1]
 refine cu [.int .u64 0] 9 eU I2 ?_
 intro jg eY
 refine B6 (bN (bN (Ib (H8 (fw (vJ (b+1)) (Ig (e:=B5.wrap ((b:Int)+1)) yk f1) (Mz rfl (B6 ?_)))))))
 have eZ:=eY.pf [1]
 exact Iq (b+1,z,B,j,l,n,0,p,r,s,t,u,C,E,F,W,R,f,X,S,T,g,Y,U,h) ⟨rfl,rfl,rfl,rfl,rfl,trivial⟩ (I.2 ⟨eZ,by exact K,by exact G,by exact J,by exact L,e8,e8,e8,e8,e8,e8,e8,e8,e8,e8,et (M) (et (congrArg (λ q=>cK a d q z B j l n o p r s t u C E F f g h) N) (et (iN P) (et (iN V) (et (iN Z) (et (iN ah) (et (iN ay) (ip aC)))))))⟩) (by show d.cB.ls.length - (b+1) < d.cB.ls.length - b; omega)
 refine jF (dF aC) (sr (Kz (.bool (decide (y=6))) (An rfl ?_)))
 by_cases aD:y=6
 refine jT (dT aD) (H8 (Kz (vP aF 11) ?_))
 have fe:=O.pf [1]
 refine cu [.int .u64 0] 11 fe I2 ?_
 intro jh fo
 refine B6 (bN (bN (Ib (H8 (fw (vJ (b+1)) (Ig (e:=B5.wrap ((b:Int)+1)) yk f1) (Mz rfl (B6 ?_)))))))
 have fq:=fo.pf [1]
 exact Iq (b+1,z,B,j,l,n,o,p,0,s,t,u,C,E,F,W,R,f,X,S,T,g,Y,U,h) ⟨rfl,rfl,rfl,rfl,rfl,trivial⟩ (I.2 ⟨fq,by exact K,by exact G,by exact J,by exact L,e8,e8,e8,e8,e8,e8,e8,e8,e8,e8,et (M) (et (congrArg (λ q=>cK a d q z B j l n o p r s t u C E F f g h) N) (et (iN P) (et (iN V) (et (iN Z) (et (iN ah) (et (iN ay) (et (iN aC) (ip aD))))))))⟩) (by show d.cB.ls.length - (b+1) < d.cB.ls.length - b; omega)
 refine jF (dF aD) (sr (Kz (.bool (decide (y=7))) (An rfl ?_)))
 by_cases aG:y=7
 refine jT (dT aG) (H8 (Kz (vP aF 18) ?_))
 have fu:=O.pf [1]
 refine cu [.slice none 0 0] 18 fu Tryz.sizeOf44 ?_
 intro ji fA
 refine B6 (bN (bN (Ib (H8 (fw (vJ (b+1)) (Ig (e:=B5.wrap ((b:Int)+1)) yk f1) (Mz rfl (B6 ?_)))))))
 have fB:=fA.pf [1]
 exact Iq (b+1,z,B,j,l,n,o,p,r,s,t,u,C,E,F,none,0, [],X,S,T,g,Y,U,h) ⟨rfl,rfl,rfl,rfl,rfl,trivial⟩ (I.2 ⟨fB,(show jq 6 ak aa a.aK.ls none 0 []/\jq 3 au af aI X S T/\s1 aR.abs T=g/\jq 2 av ag a.ah.ls Y U h/\(b+1)<=d.cB.ls.length/\j<=a.gN+(b+1)/\l<=a.aQ+(b+1)/\n<=a.aU+(b+1)/\o<=a.bi+(b+1)/\p<=a.bq+(b+1)/\r<=a.aJ+(b+1)/\s<=a.aD+(b+1)/\t<=a.bv+(b+1)/\u<=a.xN+(b+1)/\cK a d d.cB.ls a.gp a.iZ a.gN a.aQ a.aU a.bi a.bq a.aJ a.aD a.bv a.xN a.ik a.aA.aN a.aA.aT a.aK.ls a.aV.ls a.ah.ls=cK a d (s0 (b+1) d.cB.ls) z B j l n o p r s t u C E F [] g h from ⟨by exact jq.nil,by exact G,by exact J,by exact L,e8,e8,e8,e8,e8,e8,e8,e8,e8,e8,et (M) (et (congrArg (λ q=>cK a d q z B j l n o p r s t u C E F f g h) N) (et (iN P) (et (iN V) (et (iN Z) (et (iN ah) (et (iN ay) (et (iN aC) (et (iN aD) (ip aG)))))))))⟩)⟩) (by show d.cB.ls.length - (b+1) < d.cB.ls.length - b; omega)
 refine jF (dF aG) (sr (Kz (.bool (decide (y=8))) (An rfl ?_)))
 by_cases aJ:y=8
 refine jT (dT aJ) (H8 (Kz (vP aF 15) ?_))
 have fC:=O.pf [1]
 refine cu [.bool false] 15 fC Tryz.sizeOf4 ?_
 intro jk fD
 refine B6 (bN (bN (Ib (H8 (fw (vJ (b+1)) (Ig (e:=B5.wrap ((b:Int)+1)) yk f1) (Mz rfl (B6 ?_)))))))
 have fE:=fD.pf [1]
 exact Iq (b+1,z,B,j,l,n,o,p,r,s,t,u,false,E,F,W,R,f,X,S,T,g,Y,U,h) ⟨rfl,rfl,rfl,rfl,rfl,trivial⟩ (I.2 ⟨fE,(show jq 6 ak aa a.aK.ls W R f/\jq 3 au af aI X S T/\s1 aR.abs T=g/\jq 2 av ag a.ah.ls Y U h/\(b+1)<=d.cB.ls.length/\j<=a.gN+(b+1)/\l<=a.aQ+(b+1)/\n<=a.aU+(b+1)/\o<=a.bi+(b+1)/\p<=a.bq+(b+1)/\r<=a.aJ+(b+1)/\s<=a.aD+(b+1)/\t<=a.bv+(b+1)/\u<=a.xN+(b+1)/\cK a d d.cB.ls a.gp a.iZ a.gN a.aQ a.aU a.bi a.bq a.aJ a.aD a.bv a.xN a.ik a.aA.aN a.aA.aT a.aK.ls a.aV.ls a.ah.ls=cK a d (s0 (b+1) d.cB.ls) z B j l n o p r s t u false E F f g h from ⟨by exact K,by exact G,by exact J,by exact L,e8,e8,e8,e8,e8,e8,e8,e8,e8,e8,et (M) (et (congrArg (λ q=>cK a d q z B j l n o p r s t u C E F f g h) N) (et (iN P) (et (iN V) (et (iN Z) (et (iN ah) (et (iN ay) (et (iN aC) (et (iN aD) (et (iN aG) (ip aJ))))))))))⟩)⟩) (by show d.cB.ls.length - (b+1) < d.cB.ls.length - b; omega)
 refine jF (dF aJ) (sr (Kz (.bool (decide (y=9))) (An rfl ?_)))
 by_cases aL:y=9
 refine jT (dT aL) (H8 (Kz (vP aF 10) ?_))
 have fF:=O.pf [1]
 refine cu [.int .u64 0] 10 fF I2 ?_
 intro jl fG
 refine B6 (bN (bN (Ib (H8 (fw (vJ (b+1)) (Ig (e:=B5.wrap ((b:Int)+1)) yk f1) (Mz rfl (B6 ?_)))))))
 have fH:=fG.pf [1]
 exact Iq (b+1,z,B,j,l,n,o,0,r,s,t,u,C,E,F,W,R,f,X,S,T,g,Y,U,h) ⟨rfl,rfl,rfl,rfl,rfl,trivial⟩ (I.2 ⟨fH,by exact K,by exact G,by exact J,by exact L,e8,e8,e8,e8,e8,e8,e8,e8,e8,e8,et (M) (et (congrArg (λ q=>cK a d q z B j l n o p r s t u C E F f g h) N) (et (iN P) (et (iN V) (et (iN Z) (et (iN ah) (et (iN ay) (et (iN aC) (et (iN aD) (et (iN aG) (et (iN aJ) (ip aL)))))))))))⟩) (by show d.cB.ls.length - (b+1) < d.cB.ls.length - b; omega)
 refine jF (dF aL) (sr (Kz (.bool (decide (y=10))) (An rfl ?_)))
 by_cases aO:y=10
 refine jT (dT aO) (H8 (Kz (vP aF 12) ?_))
 have fI:=O.pf [1]
 refine cu [.int .u64 0] 12 fI I2 ?_
 intro jm fK
 refine B6 (bN (bN (Ib (H8 (fw (vJ (b+1)) (Ig (e:=B5.wrap ((b:Int)+1)) yk f1) (Mz rfl (B6 ?_)))))))
 have fM:=fK.pf [1]
 exact Iq (b+1,z,B,j,l,n,o,p,r,0,t,u,C,E,F,W,R,f,X,S,T,g,Y,U,h) ⟨rfl,rfl,rfl,rfl,rfl,trivial⟩ (I.2 ⟨fM,by exact K,by exact G,by exact J,by exact L,e8,e8,e8,e8,e8,e8,e8,e8,e8,e8,et (M) (et (congrArg (λ q=>cK a d q z B j l n o p r s t u C E F f g h) N) (et (iN P) (et (iN V) (et (iN Z) (et (iN ah) (et (iN ay) (et (iN aC) (et (iN aD) (et (iN aG) (et (iN aJ) (et (iN aL) (ip aO))))))))))))⟩) (by show d.cB.ls.length - (b+1) < d.cB.ls.length - b; omega)
 refine jF (dF aO) (sr (Kz (.bool (decide (y=11))) (An rfl ?_)))
 by_cases aT:y=11
 refine jT (dT aT) (H8 (Kz (vP aF 20) ?_))
 have fO:=O.pf [1]
 refine cu [.slice none 0 0] 20 fO Tryz.sizeOf33 ?_
 intro jo fP
 refine B6 (bN (bN (Ib (H8 (fw (vJ (b+1)) (Ig (e:=B5.wrap ((b:Int)+1)) yk f1) (Mz rfl (B6 ?_)))))))
 have fQ:=fP.pf [1]
 exact Iq (b+1,z,B,j,l,n,o,p,r,s,t,u,C,E,F,W,R,f,X,S,T,g,none,0, []) ⟨rfl,rfl,rfl,rfl,rfl,trivial⟩ (I.2 ⟨fQ,(show jq 6 ak aa a.aK.ls W R f/\jq 3 au af aI X S T/\s1 aR.abs T=g/\jq 2 av ag a.ah.ls none 0 []/\(b+1)<=d.cB.ls.length/\j<=a.gN+(b+1)/\l<=a.aQ+(b+1)/\n<=a.aU+(b+1)/\o<=a.bi+(b+1)/\p<=a.bq+(b+1)/\r<=a.aJ+(b+1)/\s<=a.aD+(b+1)/\t<=a.bv+(b+1)/\u<=a.xN+(b+1)/\cK a d d.cB.ls a.gp a.iZ a.gN a.aQ a.aU a.bi a.bq a.aJ a.aD a.bv a.xN a.ik a.aA.aN a.aA.aT a.aK.ls a.aV.ls a.ah.ls=cK a d (s0 (b+1) d.cB.ls) z B j l n o p r s t u C E F f g [] from ⟨by exact K,by exact G,by exact J,by exact jq.nil,e8,e8,e8,e8,e8,e8,e8,e8,e8,e8,et (M) (et (congrArg (λ q=>cK a d q z B j l n o p r s t u C E F f g h) N) (et (iN P) (et (iN V) (et (iN Z) (et (iN ah) (et (iN ay) (et (iN aC) (et (iN aD) (et (iN aG) (et (iN aJ) (et (iN aL) (et (iN aO) (ip aT)))))))))))))⟩)⟩) (by show d.cB.ls.length - (b+1) < d.cB.ls.length - b; omega)
 refine jF (dF aT) (sr (Kz (.bool (decide (y=12))) (An rfl ?_)))
 by_cases aZ:y=12
 refine jT (dT aZ) (H8 (Kz (vP aF 5) ?_))
 have fT:=O.pf [1]
 refine cu [vI 0] 5 fT Tryz.sizeOf3 ?_
 intro jr fU
 refine B6 (bN (bN (Ib (H8 (fw (vJ (b+1)) (Ig (e:=B5.wrap ((b:Int)+1)) yk f1) (Mz rfl (B6 ?_)))))))
 have fV:=fU.pf [1]
 exact Iq (b+1,z,0,j,l,n,o,p,r,s,t,u,C,E,F,W,R,f,X,S,T,g,Y,U,h) ⟨rfl,rfl,rfl,rfl,rfl,trivial⟩ (I.2 ⟨fV,by exact K,by exact G,by exact J,by exact L,e8,e8,e8,e8,e8,e8,e8,e8,e8,e8,et (M) (et (congrArg (λ q=>cK a d q z B j l n o p r s t u C E F f g h) N) (et (iN P) (et (iN V) (et (iN Z) (et (iN ah) (et (iN ay) (et (iN aC) (et (iN aD) (et (iN aG) (et (iN aJ) (et (iN aL) (et (iN aO) (et (iN aT) (ip aZ))))))))))))))⟩) (by show d.cB.ls.length - (b+1) < d.cB.ls.length - b; omega)
 refine jF (dF aZ) (sr (Kz (.bool (decide (y=13))) (An rfl ?_)))
 by_cases bf:y=13
 refine jT (dT bf) (H8 (Kz (.agg #[.string ⟨v0 []⟩, .string ⟨v0 []⟩]) (Kz (vP aF 16) ?_)))
 have fZ:=O.pf [1]
 refine cu [.string ⟨v0 []⟩, .string ⟨v0 []⟩] 16 fZ Tryz.sizeOf37 ?_
 intro jv gm
 refine B6 (bN (bN (Ib (H8 (fw (vJ (b+1)) (Ig (e:=B5.wrap ((b:Int)+1)) yk f1) (Mz rfl (B6 ?_)))))))
 have gp:=gm.pf [1]
 exact Iq (b+1,z,B,j,l,n,o,p,r,s,t,u,C, [], [],W,R,f,X,S,T,g,Y,U,h) ⟨rfl,rfl,rfl,rfl,rfl,trivial⟩ (I.2 ⟨gp,(show jq 6 ak aa a.aK.ls W R f/\jq 3 au af aI X S T/\s1 aR.abs T=g/\jq 2 av ag a.ah.ls Y U h/\(b+1)<=d.cB.ls.length/\j<=a.gN+(b+1)/\l<=a.aQ+(b+1)/\n<=a.aU+(b+1)/\o<=a.bi+(b+1)/\p<=a.bq+(b+1)/\r<=a.aJ+(b+1)/\s<=a.aD+(b+1)/\t<=a.bv+(b+1)/\u<=a.xN+(b+1)/\cK a d d.cB.ls a.gp a.iZ a.gN a.aQ a.aU a.bi a.bq a.aJ a.aD a.bv a.xN a.ik a.aA.aN a.aA.aT a.aK.ls a.aV.ls a.ah.ls=cK a d (s0 (b+1) d.cB.ls) z B j l n o p r s t u C [] [] f g h from ⟨by exact K,by exact G,by exact J,by exact L,e8,e8,e8,e8,e8,e8,e8,e8,e8,e8,et (M) (et (congrArg (λ q=>cK a d q z B j l n o p r s t u C E F f g h) N) (et (iN P) (et (iN V) (et (iN Z) (et (iN ah) (et (iN ay) (et (iN aC) (et (iN aD) (et (iN aG) (et (iN aJ) (et (iN aL) (et (iN aO) (et (iN aT) (et (iN aZ) (ip bf)))))))))))))))⟩)⟩) (by show d.cB.ls.length - (b+1) < d.cB.ls.length - b; omega)
 refine jF (dF bf) (sr (Kz (.bool (decide (y=14))) (An rfl ?_)))
 by_cases bv:y=14
 refine jT (dT bv) (H8 (Kz (vP aF 13) ?_))
 have gq:=O.pf [1]
 refine cu [.int .u64 0] 13 gq I2 ?_
 intro jw gu
 refine B6 (bN (bN (Ib (H8 (fw (vJ (b+1)) (Ig (e:=B5.wrap ((b:Int)+1)) yk f1) (Mz rfl (B6 ?_)))))))
 have gy:=gu.pf [1]
 exact Iq (b+1,z,B,j,l,n,o,p,r,s,0,u,C,E,F,W,R,f,X,S,T,g,Y,U,h) ⟨rfl,rfl,rfl,rfl,rfl,trivial⟩ (I.2 ⟨gy,by exact K,by exact G,by exact J,by exact L,e8,e8,e8,e8,e8,e8,e8,e8,e8,e8,et (M) (et (congrArg (λ q=>cK a d q z B j l n o p r s t u C E F f g h) N) (et (iN P) (et (iN V) (et (iN Z) (et (iN ah) (et (iN ay) (et (iN aC) (et (iN aD) (et (iN aG) (et (iN aJ) (et (iN aL) (et (iN aO) (et (iN aT) (et (iN aZ) (et (iN bf) (ip bv))))))))))))))))⟩) (by show d.cB.ls.length - (b+1) < d.cB.ls.length - b; omega)
 refine jF (dF bv) (sr (Kz (.bool (decide (y=15))) (An rfl ?_)))
 by_cases bB:y=15
 refine jT (dT bB) (H8 (Kz (vP aF 14) ?_))
 have gz:=O.pf [1]
 refine cu [.int .u64 0] 14 gz I2 ?_
 intro jy gB
 refine B6 (bN (bN (Ib (H8 (fw (vJ (b+1)) (Ig (e:=B5.wrap ((b:Int)+1)) yk f1) (Mz rfl (B6 ?_)))))))
 have gD:=gB.pf [1]
 exact Iq (b+1,z,B,j,l,n,o,p,r,s,t,0,C,E,F,W,R,f,X,S,T,g,Y,U,h) ⟨rfl,rfl,rfl,rfl,rfl,trivial⟩ (I.2 ⟨gD,by exact K,by exact G,by exact J,by exact L,e8,e8,e8,e8,e8,e8,e8,e8,e8,e8,et (M) (et (congrArg (λ q=>cK a d q z B j l n o p r s t u C E F f g h) N) (et (iN P) (et (iN V) (et (iN Z) (et (iN ah) (et (iN ay) (et (iN aC) (et (iN aD) (et (iN aG) (et (iN aJ) (et (iN aL) (et (iN aO) (et (iN aT) (et (iN aZ) (et (iN bf) (et (iN bv) (ip bB)))))))))))))))))⟩) (by show d.cB.ls.length - (b+1) < d.cB.ls.length - b; omega)
 refine jF (dF bB) (IG (bN (bN (Ib (H8 (fw (vJ (b+1)) (Ig (e:=B5.wrap ((b:Int)+1)) yk f1) (Mz rfl (B6 ?_))))))))
 have gF:=O.pf []
 exact Iq (b+1,z,B,j,l,n,o,p,r,s,t,u,C,E,F,W,R,f,X,S,T,g,Y,U,h) ⟨rfl,rfl,rfl,rfl,rfl,trivial⟩ (I.2 ⟨gF,by exact K,by exact G,by exact J,by exact L,e8,e8,e8,e8,e8,e8,e8,e8,e8,e8,et (M) (et (congrArg (λ q=>cK a d q z B j l n o p r s t u C E F f g h) N) (et (iN P) (et (iN V) (et (iN Z) (et (iN ah) (et (iN ay) (et (iN aC) (et (iN aD) (et (iN aG) (et (iN aJ) (et (iN aL) (et (iN aO) (et (iN aT) (et (iN aZ) (et (iN bf) (et (iN bv) (iN bB)))))))))))))))))⟩) (by show d.cB.ls.length - (b+1) < d.cB.ls.length - b; omega)
 refine jF (dF cO) (Wp.exit (Ip ?_))
 have aP:cK a d d.cB.ls a.gp a.iZ a.gN a.aQ a.aU a.bi a.bq a.aJ a.aD a.bv a.xN a.ik a.aA.aN a.aA.aT a.aK.ls a.aV.ls a.ah.ls=(z,B,j,l,n,o,p,r,s,t,u,C,E,F,f,g,h):=et (M) (et (congrArg (λ q=>cK a d q z B j l n o p r s t u C E F f g h) (eX (ls:=d.cB.ls) (i:=b) e8)) rfl)
 refine Ip (Iz (Ib (sr (La (iy a.aB a.jo a.jU a.iq z B j l n o p r s t u C E F W f.length R X g.length S Y h.length U) O 1 H5 I0 ?_))))
 refine cu (iy a.aB a.jo a.jU a.iq z B j l n o p r s t u C E F W f.length R X g.length S Y h.length U) 0 O I0 ?_
 intro jA cZ
 refine nt (rt (Ir (oZ rfl rfl (Io (cs:=(iy a.aB a.jo a.jU a.iq z B j l n o p r s t u C E F W f.length R X g.length S Y h.length U)) H5 I0 ((cZ.cls (i:=0) rfl).lit (k:=0) (m:=21) rfl))) ?_))
 obtain⟨bC,aM⟩:∃ q,uW (dL.mk a.aB a.jo a.jU a.iq z B j l n o p r s t u C (aj.mk E F) (F2 f) (F2 g) (F2 h))=q:=⟨_,rfl⟩
 obtain⟨jB,dz,bq,dA,iP⟩:=Ia cZ
 refine oh (cn aB) Tryz.call47 (zV _ _ (dL.mk a.aB a.jo a.jU a.iq z B j l n o p r s t u C (aj.mk E F) (F2 f) (F2 g) (F2 h)) W f.length R X g.length S T Y h.length U bC dz rfl (λ w9 h9=>jq.rds aX.len f5 K ((bq _ bH) w9 h9)) e8 J rfl (λ w9 h9=>Eo (aY J) (jq.rds aR.len f5 G (Eo (aY bg).symm ((bq _ bI) w9 h9)))) e8 (λ x9 h9=>⟨bq _ ((λ x9 h9=>bi x9 (J7 G h9)) x9 h9).1,((λ x9 h9=>bi x9 (J7 G h9)) x9 h9).2⟩) rfl (λ w9 h9=>jq.rds bM.len f5 L ((bq _ bJ) w9 h9)) e8 f8 aM) ?_
 rintro _ jC ⟨rfl,dB⟩
 have bD:=dA _ _ dB
 refine Gz (.bool (!bC)) (cn aB) (fw (.bool (!bC)) (H6 rfl (cn aB) rfl) (Mz rfl ?_))
 rcases Lr (bC) with Q | Q
 refine Ga (lX a ak aa au af av ag) (cn Q) bD 4 H5 I0 (Gz (vP bz 2) (cn Q) (Gl (.slice aW d.cB.ls.length bn) (cn Q) bD 2 Tryz.isAgg122 ?_))
 obtain⟨bE,aQ⟩:∃ q,rT a d.cB.ls=q:=⟨_,rfl⟩
 obtain⟨jD,dC,bu,dD,dE⟩:=Ia bD
 refine oh (cn Q) Tryz.call49 (zg _ _ a ak a.aK.ls.length aa au a.aV.ls.length af aI av a.ah.ls.length ag aW d.cB.ls.length bn d.cB.ls bE dC rfl (bu _ bH) e8 bg rfl (bu _ bI) e8 (λ x9 h9=>⟨bu _ (bi x9 h9).1,(bi x9 h9).2⟩) rfl (bu _ bJ) e8 (dE _ 3 _ rfl bP) rfl e8 f8 aQ) ?_
 rintro _ jE ⟨rfl,dH⟩
 have df:=dD _ _ dH
 refine Gz (.bool (!bE)) (cn Q) (fw (.bool (!bE)) (H6 rfl (cn Q) rfl) (nt ?_))
 rcases Lr (bE) with aU | aU
 refine jF (cn aU) (sk (H7 (H7 ?_)))
 have aV:=df.pk [2,3,4]
 refine H8 (Kz (vP bz 0) (Lz (vI d.ng) aV 0 H4 (Kz (.bool (decide (d.ng=1))) (Mz rfl ?_))))
 by_cases aH:d.ng=1
 refine Gz (vP bz 1) (dT aH) (Gl (vI d.rC) (dT aH) aV 0 H4 (Gz (.bool (decide (d.rC=1))) (dT aH) (fw (.bool (decide (d.rC=1))) (Ic rfl (dT aH) rfl) (Mz rfl ?_))))
 by_cases aA:d.rC=1
 refine Gz (vP bG 1) (dT aA) (Gl (vI a.jo) (dT aA) aV 2 B3 (Gz (vP bG 2) (dT aA) (Gl (vI a.jU) (dT aA) aV 2 B3 (Gz (.bool (decide (a.jo=a.jU))) (dT aA) (fw (.bool (decide (a.jo=a.jU))) (Ic rfl (dT aA) rfl) (nt ?_))))))
 by_cases bF:a.jo=a.jU
 refine jT (dT bF) (H7 ?_)
 have gH:=aV.pk []
 refine H8 (An rfl (rt (tR (rs ?_))))
 have gI:=gH.pk []
 obtain rfl:=zj hr zq14
 exact⟨rfl,gI⟩
 refine jF (dF bF) (sk (H7 ?_))
 have gJ:=aV.pk []
 refine H8 (An rfl (rt (rs ?_)))
 have gK:=gJ.pk []
 obtain rfl:=zj hr zq14
 exact⟨rfl,gK⟩
 refine Sz (dF aA) (Sz (dF aA) (Sz (dF aA) (Sz (dF aA) (Sz (dF aA) (fw (.bool false) (H6 rfl (dF aA) rfl) (nt (jf (sk (H7 ?_)))))))))
 have gL:=aV.pk []
 refine H8 (An rfl (rt (rs ?_)))
 have gM:=gL.pk []
 obtain rfl:=zj hr zq13
 exact⟨rfl,gM⟩
 refine Sz (dF aH) (Sz (dF aH) (Sz (dF aH) (fw (.bool false) (H6 rfl (dF aH) rfl) (Mz rfl (Sz rfl (Sz rfl (Sz rfl (Sz rfl (Sz rfl (fw (.bool false) (H6 rfl rfl rfl) (nt (jf (sk (H7 ?_))))))))))))))
 have gN:=aV.pk []
 refine H8 (An rfl (rt (rs ?_)))
 have gP:=gN.pk []
 obtain rfl:=zj hr zq12
 exact⟨rfl,gP⟩
 refine jT (cn aU) (H7 ?_)
 have gQ:=df.pk [2,3,4]
 refine H8 (An rfl (rt (tR (rs ?_))))
 have gT:=gQ.pk []
 obtain rfl:=zj hr zq11
 exact⟨rfl,gT⟩
 refine Sz (cn Q) (Sz (cn Q) (Sz (cn Q) (Sz (cn Q) (Sz (cn Q) (fw (.bool true) (Ic rfl (cn Q) rfl) (nt (jt (H7 ?_))))))))
 have gU:=bD.pk [2,3,4]
 refine H8 (An rfl (rt (tR (rs ?_))))
 have gV:=gU.pk []
 obtain rfl:=zj hr zq9
 exact⟨rfl,gV⟩
 refine Sz (cn aB) (Sz (cn aB) (Sz (cn aB) (Sz (cn aB) (Sz (cn aB) (Sz (cn aB) (fw (.bool true) (Ic rfl (cn aB) rfl) (Mz rfl (Sz rfl (Sz rfl (Sz rfl (Sz rfl (Sz rfl (fw (.bool true) (Ic rfl rfl rfl) (nt (jt (sr (An rfl (rt (tR (rs ?_))))))))))))))))))))
 have gW:=bV.pk []
 obtain rfl:=zj hr zq6
 exact⟨rfl,gW⟩
 refine Sz (cn ax) (Sz (cn ax) (Sz (cn ax) (Sz (cn ax) (Sz (cn ax) (Sz (cn ax) (fw (.bool true) (Ic rfl (cn ax) rfl) (Mz rfl (Sz rfl (Sz rfl (Sz rfl (Sz rfl (Sz rfl (Sz rfl (fw (.bool true) (Ic rfl rfl rfl) (Mz rfl (Sz rfl (Sz rfl (Sz rfl (Sz rfl (Sz rfl (fw (.bool true) (Ic rfl rfl rfl) (nt (jt (sr (An rfl (rt (tR (rs ?_))))))))))))))))))))))))))))
 have gX:=bT.pk []
 obtain rfl:=zj hr zq4
 exact⟨rfl,gX⟩
 refine Sz (cn ai) (Sz (cn ai) (Sz (cn ai) (Sz (cn ai) (Sz (cn ai) (Sz (cn ai) (fw (.bool true) (Ic rfl (cn ai) rfl) (Mz rfl (Sz rfl (Sz rfl (Sz rfl (Sz rfl (Sz rfl (Sz rfl (fw (.bool true) (Ic rfl rfl rfl) (Mz rfl (Sz rfl (Sz rfl (Sz rfl (Sz rfl (Sz rfl (Sz rfl (fw (.bool true) (Ic rfl rfl rfl) (Mz rfl (Sz rfl (Sz rfl (Sz rfl (Sz rfl (Sz rfl (fw (.bool true) (Ic rfl rfl rfl) (nt (jt (sr (An rfl (rt (tR ?_)))))))))))))))))))))))))))))))))))
 refine rs ?_
 have gY:=bR.pk []
 obtain rfl:=zj hr zq2
 exact⟨rfl,gY⟩
end
section
open Go.RowKit
def sG (c:List bM) (d:Int):aj:=
 bnd (List.getD c (G0 d) default) λ a=>if d+1 < (c.length:Int) then bnd (List.getD c (G0 (d+1)) default) λ b=>aj.mk a.aN b.aN else aj.mk a.aN []
theorem xJ (w D h s E j b) (C:aj) (H:Own w D w []) (c:Ro w D λ w'=>bO w' 2 h s (List.flatMap bM.cells j)) (t:s=j.length) (F:j.length *24<=211106232532992) (G:0<=b/\b < ((j.length:Nat):Int)) (hr:sG j b=C):
    Calls u9 147 #[.slice h s E,vI b] w (dI λ v w'=>v= .agg (aj.cells C).toArray/\Own w D w' []):=by
 unfold sG at hr
 subst t
 refine cb Tryz.func147 ?_
 refine sr ?_
 refine bW [.string ⟨v0 []⟩, .string ⟨v0 []⟩] 37 H ?_
 intro I J l
 refine ns (Mz rfl (fw (vJ (G0 b)) (Ig (e:=b) (Ie rfl) e8) ?_))
 obtain⟨a,g⟩:=dG (ls:=j) (i:=G0 b) bM.len f5 (l.ro c) f2
 refine fw (.pointer (some ⟨ab h,ao h+(G0 b) *2,none⟩)) (Im (tL) rfl rfl ((l.ro c).addr (i:=G0 b) e8) e8) (Kz (.pointer (some ⟨ab h,ao h+(G0 b) *2,none⟩)) (fw (.string ⟨v0 a.aN⟩) (Il rfl (bQ.one y4 (((l.ro c).elem bM.len g f5).at_ (k:=0) rfl))) (Kz (.agg #[.string ⟨v0 a.aN⟩, .string ⟨v0 []⟩]) ?_)))
 refine bW [.string ⟨v0 []⟩, .string ⟨v0 []⟩] 37 l ?_
 intro u K x
 refine cu [.string ⟨v0 a.aN⟩, .string ⟨v0 []⟩] 0 x C5 ?_
 intro L d
 refine nt (H7 (sr (Mz rfl (fw (vI (b+1)) (Ig (e:=B5.wrap (b+1)) yk i5) (Mz rfl (Kz (vJ j.length) (Kz (.bool (decide (b+1 < (j.length:Int)))) (nt ?_))))))))
 by_cases n:b+1 < (j.length:Int)
 refine jT (dT n) (H8 (Mz rfl (Mz rfl (fw (vJ (G0 (b+1))) (Ig (e:=B5.wrap (b+1)) yk f1) ?_))))
 obtain⟨f,o⟩:=dG (ls:=j) (i:=G0 (b+1)) bM.len f5 (d.ro c) f2
 refine fw (.pointer (some ⟨ab h,ao h+(G0 (b+1)) *2,none⟩)) (Im (tL) rfl rfl ((d.ro c).addr (i:=G0 (b+1)) e8) e8) (Kz (.pointer (some ⟨ab h,ao h+(G0 (b+1)) *2,none⟩)) (fw (.string ⟨v0 f.aN⟩) (Il rfl (bQ.one y4 (((d.ro c).elem bM.len o f5).at_ (k:=0) rfl))) (Kz (vP u 1) ?_)))
 refine cu [.string ⟨v0 f.aN⟩] 1 d Tryz.sizeOf9 ?_
 intro M p
 refine ns (La ([.string ⟨v0 a.aN⟩, .string ⟨v0 f.aN⟩]) p 0 C6 C5 ?_)
 have y:=p.pb [0]
 refine cu [.string ⟨v0 a.aN⟩, .string ⟨v0 f.aN⟩] 0 y C5 ?_
 intro N q
 refine nt (rt (Ir (oZ rfl rfl (Io (cs:= [.string ⟨v0 a.aN⟩, .string ⟨v0 f.aN⟩]) C6 C5 ((q.cls (i:=0) rfl).lit (k:=0) (m:=2) rfl))) ?_))
 have z:=q.pk []
 obtain rfl:=zj hr zq3
 exact⟨rfl,z⟩
 refine jF (dF n) (sk (sr (La ([.string ⟨v0 a.aN⟩, .string ⟨v0 []⟩]) d 0 C6 C5 ?_)))
 have A:=d.pb [0]
 refine cu [.string ⟨v0 a.aN⟩, .string ⟨v0 []⟩] 0 A C5 ?_
 intro O r
 refine nt (rt (Ir (oZ rfl rfl (Io (cs:= [.string ⟨v0 a.aN⟩, .string ⟨v0 []⟩]) C6 C5 ((r.cls (i:=0) rfl).lit (k:=0) (m:=2) rfl))) ?_))
 have B:=r.pk []
 obtain rfl:=zj hr zq2
 exact⟨rfl,B⟩
def sH (a:List UInt8) (b:List UInt8):(List UInt8):=
 if a=[] then b else if b≠[] then if b < a then b else a else a
theorem xK (w D d c k) (H:Own w D w []) (hr:sH d c=k):
    Calls u9 193 #[.string ⟨v0 d⟩, .string ⟨v0 c⟩] w (dI λ v w'=>v= .string ⟨v0 k⟩/\Own w D w' []):=by
 unfold sH at hr
 refine cb Tryz.func193 ?_
 refine sr (An rfl (H7 (sr (Mz rfl (fw (.bool (decide (d=[]))) (Jq rfl rfl) (Mz rfl ?_))))))
 by_cases a:d=[]
 refine Sz (dT a) (Sz (dT a) (Sz (dT a) (Ij rfl rfl rfl (Ij rfl rfl rfl (Ij rfl rfl rfl (Sz (dT a) (fw (.bool true) (Ic rfl (dT a) rfl) (nt (jt (sr (Mz rfl (An rfl (rt (tR (rs ?_)))))))))))))))
 have g:=H.pk []
 obtain rfl:=zj hr zq1
 exact⟨rfl,g⟩
 refine gw (.string ⟨v0 c⟩) (dF a) (Ie rfl) (gw (.bool (decide (c≠[]))) (dF a) (IW rfl rfl) (gw (.bool (decide (c≠[]))) (dF a) (Ie rfl) ?_))
 by_cases b:c≠[]
 refine gw (.string ⟨v0 c⟩) (dT b) (Ie rfl) (gw (.string ⟨v0 d⟩) (dT b) (Ie rfl) (gw (.bool (decide (c < d))) (dT b) (Iu (e:=Op.bytesLess c d) (JP rfl rfl) (yl _ _)) (gw (.bool (decide (c < d))) (dF a) (Ic rfl (dT b) rfl) (fw (.bool (decide (c < d))) (H6 rfl (dF a) rfl) (nt ?_)))))
 by_cases f:c < d
 refine jT (dT f) (sr (Mz rfl (An rfl (rt (tR (rs ?_))))))
 have h:=H.pk []
 obtain rfl:=zj hr zq3
 exact⟨rfl,h⟩
 refine jF (dF f) (sk (sr (Mz rfl (An rfl (rt (rs ?_))))))
 have i:=H.pk []
 obtain rfl:=zj hr zq3
 exact⟨rfl,i⟩
 refine Sz (dF b) (Sz (dF b) (Sz (dF b) (gw (.bool false) (dF a) (H6 rfl (dF b) rfl) (fw (.bool false) (H6 rfl (dF a) rfl) (nt (jf (sk (sr (Mz rfl (An rfl (rt (rs ?_))))))))))))
 have j:=H.pk []
 obtain rfl:=zj hr zq2
 exact⟨rfl,j⟩
def uX (b:List UInt8) (a:List UInt8):Bool:=
 if a=[] then true else decide (b < a)
theorem zW (w D c b g) (H:Own w D w []) (hr:uX c b=g):
    Calls u9 194 #[.string ⟨v0 c⟩, .string ⟨v0 b⟩] w (dI λ v w'=>v= .bool g/\Own w D w' []):=by
 unfold uX at hr
 refine cb Tryz.func194 ?_
 refine sr (Ar rfl (Mz rfl (fw (.bool (decide (b=[]))) (Jq rfl rfl) (Mz rfl ?_))))
 by_cases a:b=[]
 refine Sz (dT a) (Sz (dT a) (Sz (dT a) (fw (.bool true) (Ic rfl (dT a) rfl) (An rfl (rt (rs ?_))))))
 have d:=H.pk []
 obtain rfl:=zj hr zq1
 exact⟨rfl,d⟩
 refine gw (.string ⟨v0 c⟩) (dF a) (Ie rfl) (gw (.string ⟨v0 b⟩) (dF a) (Ie rfl) (gw (.bool (decide (c < b))) (dF a) (Iu (e:=Op.bytesLess c b) (JP rfl rfl) (yl _ _)) (fw (.bool (decide (c < b))) (H6 rfl (dF a) rfl) (An rfl (rt (rs ?_))))))
 have f:=H.pk []
 obtain rfl:=zj hr zq1
 exact⟨rfl,f⟩
def kT (e:aj) (f:aj):aj × Bool:=
 bnd (dU e) λ b=>if b=0 then bnd (dU f) λ c=>if c=0 then bnd (sH e.aT f.aT) λ a=>bnd (uX (pU e.aN f.aN) a) λ d=>if d=true then(aj.mk (pU e.aN f.aN) a,true) else(aj.mk [] [],false) else(aj.mk [] [],false) else(aj.mk [] [],false)
theorem pq (w D) (d:aj) (c:aj) (r0:aj) (r1) (H:Own w D w []) (hr:kT d c=(r0,r1)):
    Calls u9 152 #[.agg (aj.cells d).toArray, .agg (aj.cells c).toArray] w (dI λ v w'=>v= .tuple #[.agg (aj.cells r0).toArray, .bool r1]/\Own w D w' []):=by
 unfold kT at hr
 refine cb Tryz.func152 ?_
 refine sr ?_
 refine bW (aj.cells d) 37 H ?_
 intro B aQ Z
 refine bW (aj.cells c) 37 Z ?_
 intro C aR aa
 refine bW [.string ⟨v0 []⟩, .string ⟨v0 []⟩] 37 aa ?_
 intro aS aT E
 refine An rfl (H7 (sr (La (aj.cells d) E 2 C6 C5 ?_)))
 obtain⟨s,f⟩:∃ q,dU d=q:=⟨_,rfl⟩
 obtain⟨aU,F,aH,G,aI⟩:=Ia E
 refine cl Tryz.call65 (jd _ _ d s F f) ?_
 rintro _ aV ⟨rfl,I⟩
 have x:=G _ _ I
 refine fw (.bool (decide (¬ (s=0)))) (Iu (e:= !(decide (s=0))) yk decide_not.symm) (Mz rfl ?_)
 by_cases a:s=0
 refine gw (.agg (aj.cells c).toArray) (dF (Lp a)) (Il rfl (Io (cs:=(aj.cells c)) C6 C5 ((x.cls (i:=1) rfl).lit (k:=0) (m:=2) rfl))) ?_
 obtain⟨h,g⟩:∃ q,dU c=q:=⟨_,rfl⟩
 obtain⟨aW,J,aJ,K,aK⟩:=Ia x
 refine oh (dF (Lp a)) Tryz.call65 (jd _ _ c h J g) ?_
 rintro _ aX ⟨rfl,L⟩
 have M:=K _ _ L
 refine gw (.bool (decide (¬ (h=0)))) (dF (Lp a)) (Iu (e:= !(decide (h=0))) yk decide_not.symm) (fw (.bool (decide (¬ (h=0)))) (H6 rfl (dF (Lp a)) rfl) (nt ?_))
 by_cases j:h=0
 refine jF (dF (Lp j)) (sk (H7 ?_))
 refine yw [] (Ik Iw) M ?_
 intro aY af
 refine qp B 0 0 rfl (ql 1 rfl 2 y4 rfl rfl rfl (qp C 0 2 rfl (ql 3 rfl 1 y4 rfl rfl rfl (qt (v:= .string ⟨v0 (pU d.aN c.aN)⟩) 4 rfl (λ _ _=>Kq rfl) (qp B 1 5 rfl (ql 6 rfl 2 y4 rfl rfl rfl (qp C 1 7 rfl (ql 8 rfl 1 y4 rfl rfl rfl ?_))))))))
 obtain⟨b,l⟩:∃ q,sH d.aT c.aT=q:=⟨_,rfl⟩
 refine Gr ⟨9,_,_,_,_,_,Unit,λ N=> .string ⟨v0 b⟩,λ _=>True,λ N=> []⟩ ⟨11,_,_,_,_,_,Nat,λ N=>vP N 0,λ _=>True,λ N=> [blk N [.string ⟨v0 []⟩, .string ⟨v0 []⟩] 37]⟩ 10 3 af ⟨⟨rfl,rfl,rfl, ?_⟩,⟨rfl,rfl,rfl, ?_⟩,trivial⟩ rfl ?_
 intro aZ L' ag
 refine(Kg (cs:= [.string ⟨v0 []⟩, .string ⟨v0 []⟩]) (t:=37) ag rfl rfl (λ _=>by kernel_rfl) ?_)
 intro n bf ah
 exact⟨n,rfl,trivial,ah⟩
 intro bg L' ai
 obtain⟨bi,O,aL,P,aM⟩:=Ia ai
 refine(IB Tryz.call193 rfl (xK _ _ d.aT c.aT b O l) ?_)
 rintro _ bn ⟨rfl,Q⟩
 have ak:=P _ _ Q
 exact⟨(),rfl,trivial,ak⟩
 rintro ⟨⟩ _
 refine⟨.agg #[.string ⟨v0 (pU d.aN c.aN)⟩, .string ⟨v0 b⟩],λ _=>yk, ?_⟩
 rintro n _
 intro au av
 have ax:Own w D au (blk n [.string ⟨v0 []⟩, .string ⟨v0 []⟩] 37::_):=av.flat.pf []
 have ay:=ax.pb [0]
 have az:=ay.pf [3]
 refine qe 12 rfl (Do.store (vs:= [.string ⟨v0 (pU d.aN c.aN)⟩, .string ⟨v0 b⟩]) (o:=0) az rfl rfl C5 rfl rfl rfl rfl ?_)
 intro bq aA
 have R:=aA.pb [0]
 refine⟨.inr ⟨_,R⟩, ?_⟩
 refine qn (Ib (H7 (H7 ?_)))
 have y:=R.pk [0,3]
 refine H8 (Kz (vP n 0) (Lz (.string ⟨v0 (pU d.aN c.aN)⟩) y 1 y4 (Kz (vP n 1) (Lz (.string ⟨v0 b⟩) y 1 y4 ?_))))
 obtain⟨z,p⟩:∃ q,uX (pU d.aN c.aN) b=q:=⟨_,rfl⟩
 obtain⟨bu,S,aN,T,aO⟩:=Ia y
 refine cl Tryz.call194 (zW _ _ (pU d.aN c.aN) b z S p) ?_
 rintro _ bv ⟨rfl,U⟩
 have A:=T _ _ U
 refine Kz (.bool (!z)) (nt ?_)
 rcases Lr (z) with r | r
 refine jF (cn r) (sk (sr (La ([.string ⟨v0 (pU d.aN c.aN)⟩, .string ⟨v0 b⟩]) A 1 C6 C5 ?_)))
 refine cu [.string ⟨v0 (pU d.aN c.aN)⟩, .string ⟨v0 b⟩] 0 A C5 ?_
 intro bz V
 refine An rfl (rt (Ir (gq (vs:= [.agg #[.string ⟨v0 (pU d.aN c.aN)⟩, .string ⟨v0 b⟩], .bool true]) rfl (bT.cell rfl (Io (cs:= [.string ⟨v0 (pU d.aN c.aN)⟩, .string ⟨v0 b⟩]) C6 C5 ((V.cls (i:=0) rfl).lit (k:=0) (m:=2) rfl)) (bT.tmp rfl bT.nil)) (Lh rfl)) ?_))
 have aB:=V.pk []
 obtain⟨rfl,rfl⟩:=fB (zj hr zq7)
 exact⟨rfl,aB⟩
 refine jT (cn r) (sr (Kz (.agg #[.string ⟨v0 []⟩, .string ⟨v0 []⟩]) ?_))
 refine cu [.string ⟨v0 []⟩, .string ⟨v0 []⟩] 0 A C5 ?_
 intro bA W
 refine An rfl (rt (tR (Ir (gq (vs:= [.agg #[.string ⟨v0 []⟩, .string ⟨v0 []⟩], .bool false]) rfl (bT.cell rfl (Io (cs:= [.string ⟨v0 []⟩, .string ⟨v0 []⟩]) C6 C5 ((W.cls (i:=0) rfl).lit (k:=0) (m:=2) rfl)) (bT.tmp rfl bT.nil)) (Lh rfl)) ?_)))
 have aC:=W.pk []
 obtain⟨rfl,rfl⟩:=fB (zj hr zq7)
 exact⟨rfl,aC⟩
 refine jT (dT j) (sr (Kz (.agg #[.string ⟨v0 []⟩, .string ⟨v0 []⟩]) ?_))
 refine cu [.string ⟨v0 []⟩, .string ⟨v0 []⟩] 0 M C5 ?_
 intro bB X
 refine An rfl (rt (tR (Ir (gq (vs:= [.agg #[.string ⟨v0 []⟩, .string ⟨v0 []⟩], .bool false]) rfl (bT.cell rfl (Io (cs:= [.string ⟨v0 []⟩, .string ⟨v0 []⟩]) C6 C5 ((X.cls (i:=0) rfl).lit (k:=0) (m:=2) rfl)) (bT.tmp rfl bT.nil)) (Lh rfl)) ?_)))
 have aD:=X.pk []
 obtain⟨rfl,rfl⟩:=fB (zj hr zq4)
 exact⟨rfl,aD⟩
 refine Sz (dT a) (Sz (dT a) (Sz (dT a) (fw (.bool true) (Ic rfl (dT a) rfl) (nt (jt (sr (Kz (.agg #[.string ⟨v0 []⟩, .string ⟨v0 []⟩]) ?_)))))))
 refine cu [.string ⟨v0 []⟩, .string ⟨v0 []⟩] 0 x C5 ?_
 intro aP u
 refine An rfl (rt (tR (Ir (gq (vs:= [.agg #[.string ⟨v0 []⟩, .string ⟨v0 []⟩], .bool false]) rfl (bT.cell rfl (Io (cs:= [.string ⟨v0 []⟩, .string ⟨v0 []⟩]) C6 C5 ((u.cls (i:=0) rfl).lit (k:=0) (m:=2) rfl)) (bT.tmp rfl bT.nil)) (Lh rfl)) ?_)))
 have Y:=u.pk []
 obtain⟨rfl,rfl⟩:=fB (zj hr zq2)
 exact⟨rfl,Y⟩
def qh (c:aj) (b:aj):Bool:=
 bnd (kT c b) λ a=>if a.2=true then decide ((a.1.aN=b.aN)/\(a.1.aT=b.aT)) else false
theorem uJ (w D) (h:aj) (c:aj) (s) (H:Own w D w []) (hr:qh h c=s):
    Calls u9 117 #[.agg (aj.cells h).toArray, .agg (aj.cells c).toArray] w (dI λ v w'=>v= .bool s/\Own w D w' []):=by
 unfold qh at hr
 refine cb Tryz.func117 ?_
 refine sr ?_
 refine bW (aj.cells h) 37 H ?_
 intro y z l
 refine bW (aj.cells c) 37 l ?_
 intro A B f
 refine Ar rfl (La (aj.cells h) f 1 C6 C5 (La (aj.cells c) f 0 C6 C5 ?_))
 obtain⟨⟨a,g⟩,d⟩:∃ q:aj × Bool,kT h c=q:=⟨_,rfl⟩
 obtain⟨C,i,t,j,x⟩:=Ia f
 refine cl Tryz.call152 (pq _ _ h c a g i d) ?_
 rintro _ E ⟨rfl,k⟩
 have m:=j _ _ k
 refine Mz rfl (Kz (.agg (aj.cells a).toArray) (Kz (.bool g) ?_))
 refine bW [.string ⟨v0 []⟩, .string ⟨v0 []⟩] 37 m ?_
 intro F G n
 refine cu (aj.cells a) 0 n C5 ?_
 intro I o
 refine An rfl (H7 ?_)
 have e:=o.pk [0,1]
 refine H8 (Mz rfl (Mz rfl ?_))
 rcases Lr (g) with b | b
 refine Ga (aj.cells a) b e 0 C6 C5 (Ga (aj.cells c) b e 1 C6 C5 (IQ (v:= .bool (decide ((a.aN=c.aN)/\(a.aT=c.aT)))) rfl rfl b rfl (J6 rfl rfl e9 rfl (fU.struct Tryz.underlying37 e9 (I6 (fq.cons (u:= .string ⟨v0 a.aN⟩) (v:= .string ⟨v0 c.aN⟩) f5 (λ _=>by kernel_rfl) (λ _=>by kernel_rfl) (fU.string v2) (fq.cons (u:= .string ⟨v0 a.aT⟩) (v:= .string ⟨v0 c.aT⟩) f5 (λ _=>by kernel_rfl) (λ _=>by kernel_rfl) (fU.string v2) (fq.nil.up (Lm _)))) ((congrArg (decide (a.aN=c.aN) && ·) kN).trans fA)))) (fw (.bool (decide ((a.aN=c.aN)/\(a.aT=c.aT)))) (Ic rfl b rfl) (An rfl (rt (rs ?_))))))
 have p:=e.pk []
 obtain rfl:=zj hr zq2
 exact⟨rfl,p⟩
 refine Sz b (Sz b (Sz b (fw (.bool false) (H6 rfl b rfl) (An rfl (rt (rs ?_))))))
 have r:=e.pk []
 obtain rfl:=zj hr zq2
 exact⟨rfl,r⟩
def kz (e:List bM) (f:Int) (g:aj):List bM->Nat->Unit ⊕ Bool
  | [],a=>Sum.inl ()
  | h::b,a=>if h.kM=f then bnd (sG e (a:Int)) λ c=>bnd (qh c g) λ d=>if d=true then Sum.inr (true) else kz e f g b (a+1) else kz e f g b (a+1)
def uY (b:List bM) (c:Int) (d:aj):Bool:=
 bnd (nE b) λ a=>if a=0 then lp (kz b c d b 0) λ _=>false else false
theorem zX (w D l n0 G b j) (d:aj) (r0) (H:Own w D w []) (n:Ro w D λ w'=>bO w' 2 l n0 (List.flatMap bM.cells b)) (af:n0=b.length) (aG:b.length *24<=211106232532992) (hr:uY b j d=r0):
    Calls u9 91 #[.slice l n0 G,vI j, .agg (aj.cells d).toArray] w (dI λ v w'=>v= .bool r0/\Own w D w' []):=by
 unfold uY at hr
 subst af
 refine cb Tryz.func91 ?_
 refine sr ?_
 refine bW (aj.cells d) 37 H ?_
 intro z aH ag
 refine An rfl (H7 (sr (Mz rfl ?_)))
 obtain⟨o,f⟩:∃ q,nE b=q:=⟨_,rfl⟩
 obtain⟨aI,I,J,K,aA⟩:=Ia ag
 refine cl Tryz.call30 (rJ _ _ l b.length G b o I (J _ n) rfl e8 f) ?_
 rintro _ aJ ⟨rfl,L,x⟩
 have M:=K _ _ L
 replace x: ¬ (o=0)\/(1<=b.length/\b.length<=6):=x
 refine fw (.bool (decide (¬ (o=0)))) (Iu (e:= !(decide (o=0))) yk decide_not.symm) (nt ?_)
 by_cases p:o=0
 refine jF (dF (Lp p)) (sk (H7 (sr (Mz rfl (Kz (vJ b.length) (Mn rfl (bo ?_)))))))
 have ah:=M.pf []
 obtain⟨ai,g⟩:=mI λ (a:Nat) w'=>Own w D w' [blk z (aj.cells d) 37]/\a<=b.length/\kz b j d b 0=kz b j d (List.drop a b) a
 refine Wp.loop (λ i:Nat=> [(6, .bool false),(13,vJ i),(12,vJ b.length),(5,vP z 0),(0, .slice l b.length G),(1,vI j)]) ai (λ i=>b.length - i) 0 ⟨rfl,rfl,rfl,rfl,rfl,rfl,trivial⟩ (g.2 ⟨ah,e8,rfl⟩) ?_
 rintro a aK N
 show Wp _ _ _ [(6, .bool false),(13,vJ a),(12,vJ b.length),(5,vP z 0),(0, .slice l b.length G),(1,vI j)] _ _
 obtain⟨A,aB,h⟩:=g.1 N
 refine sr (Kz (.bool (decide ((a:Int) < (b.length:Int)))) (nt (H7 ?_)))
 by_cases O:(a:Int) < (b.length:Int)
 obtain⟨B,y⟩:=dG (ls:=b) (i:=a) bM.len f5 (A.ro n) f2
 have r:=drop_at y
 refine jT (dT O) (sk (H7 (bo (sr (Mz rfl (An rfl (H7 ?_)))))))
 refine Cf [] (Ik (bH.block (Ik (Ik (bH.block (Ik Iw)))))) A ?_
 intro aL P
 refine qv 0 rfl rfl (qv 1 rfl rfl (qt (v:= .pointer (some ⟨ab l,ao l+a *2,none⟩)) 2 rfl (λ _ ⟨_,Q⟩=>Im (tL) rfl rfl ((Q.ro n).addr (i:=a) e8) e8) (qk (.pointer (some ⟨ab l,ao l+a *2+1,none⟩)) 3 rfl (qt (v:=vI B.kM) 4 rfl (λ _ ⟨_,Q⟩=>Il rfl (bQ.one Tryz.isAgg3 (((Q.ro n).elem bM.len y f5).at_ (k:=1) rfl))) (qv 5 rfl rfl (qk (.bool (decide (B.kM=j))) 6 rfl (qv 7 rfl rfl ?_)))))))
 by_cases c:B.kM=j
 refine Ii (v:= .slice l b.length G) (rs:= []) 8 rfl rfl rfl (dT c) e9 (λ _ _=>Ie rfl) (Ii (v:=vJ a) (rs:= []) 9 rfl rfl rfl (dT c) e9 (λ _ _=>Ie rfl) (Ii (v:= .agg (aj.cells d).toArray) (rs:= []) 11 rfl rfl rfl (dT c) e9 (λ _ ⟨_,Q⟩=>Il rfl (Io (cs:=(aj.cells d)) C6 C5 ((Q.cls (i:=0) rfl).lit (k:=0) (m:=2) rfl))) ?_))
 obtain⟨C,s⟩:∃ q,sG b (a:Int)=q:=⟨_,rfl⟩
 obtain⟨aM,R,S,T,aC⟩:=Ia P
 refine Ja 10 rfl rfl rfl (dT c) e9 (IB Tryz.call147 rfl (xJ _ _ l b.length G b (a:Int) C R (S _ n) rfl e8 e8 s) ?_)
 rintro _ aN ⟨rfl,U⟩
 have V:=T _ _ U
 refine⟨.inr ⟨_,V⟩, ?_⟩
 obtain⟨E,t⟩:∃ q,qh C d=q:=⟨_,rfl⟩
 obtain⟨aO,W,aD,X,aF⟩:=Ia V
 refine Ja 12 rfl rfl rfl (dT c) e9 (IB Tryz.call117 rfl (uJ _ _ C d E W t) ?_)
 rintro _ aP ⟨rfl,Y⟩
 have F:=X _ _ Y
 refine⟨.inr ⟨_,F⟩, ?_⟩
 refine qt (v:= .bool E) 13 rfl (λ _ _=>Ic rfl (dT c) rfl) (qn (Ib ?_))
 rcases Lr (E) with u | u
 refine jT u (sr (An rfl (rt (bR (tR (tR (bR (tR (rs ?_)))))))))
 have ak:=F.pk []
 obtain rfl:_=true:=zj hr (et (ae f) (et (ip p) (iG (et (h) (et (congrArg (λ q=>kz b j d q a) r) (et (ip c) (et (ae s) (et (ae t) (ip u)))))))))
 exact⟨rfl,ak⟩
 refine jF u (IG (bN (Ib (H8 (fw (vJ (a+1)) (Ig (e:=B5.wrap ((a:Int)+1)) yk f1) (Mz rfl (WL.nil ?_)))))))
 have au:=F.pf []
 exact Iq (a+1) ⟨rfl,rfl,rfl,rfl,rfl,rfl,trivial⟩ (g.2 ⟨au,e8,et (h) (et (congrArg (λ q=>kz b j d q a) r) (et (ip c) (et (ae s) (et (ae t) (eF u)))))⟩) (by show b.length - (a+1) < b.length - a; omega)
 refine Ih (rs:= []) 8 rfl rfl rfl (dF c) e9 (Ih (rs:= []) 9 rfl rfl rfl (dF c) e9 (Ih (rs:= []) 10 rfl rfl rfl (dF c) e9 (Ih (rs:= []) 11 rfl rfl rfl (dF c) e9 (Ih (rs:= []) 12 rfl rfl rfl (dF c) e9 (qt (v:= .bool false) 13 rfl (λ _ _=>H6 rfl (dF c) rfl) (qn (Ib (jf (IG (bN (Ib (H8 (fw (vJ (a+1)) (Ig (e:=B5.wrap ((a:Int)+1)) yk f1) (Mz rfl (WL.nil ?_)))))))))))))))
 have av:=P.pf []
 exact Iq (a+1) ⟨rfl,rfl,rfl,rfl,rfl,rfl,trivial⟩ (g.2 ⟨av,e8,et (h) (et (congrArg (λ q=>kz b j d q a) r) (iN c))⟩) (by show b.length - (a+1) < b.length - a; omega)
 refine jF (dF O) (Wp.exit (Ip ?_))
 have Z:kz b j d b 0=Sum.inl ():=et (h) (et (congrArg (λ q=>kz b j d q a) (eX (ls:=b) (i:=a) e8)) rfl)
 refine Ip (Iz (Ib (sr (An rfl (rt (rs ?_))))))
 have ax:=A.pk []
 obtain rfl:_=false:=zj hr (et (ae f) (et (ip p) (lw Z)))
 exact⟨rfl,ax⟩
 refine jT (dT p) (sr (An rfl (rt (tR (rs ?_)))))
 have ay:=M.pk []
 obtain rfl:=zj hr zq2
 exact⟨rfl,ay⟩
end
open List renaming flatMap_append->t7,length->q7,length_append->o0,length_cons->r5,length_nil->K1,take->t6
open _root_.Go.Proofs.Tryz renaming call101->J0,call109->J1,isAgg147->I3,underlying97->K0
section
open Go.RowKit
def lH (d:List UInt8):Nat->Int->Int
  | 0,a=>default
  | c+1,a=>if a >= 0 then bnd (y2 d (G0 a) default) λ b=>if(b.toNat:Int)=255 then lH d c (a - 1) else a else a
def pJ (a:List UInt8):aj × Int:=
 bnd (dY a) λ b=>if b=0 then if(a.length:Int) < 12 then(aj.mk a (a++([0])),0) else bnd (bnd (lH a ((G0 (((a.length - 1:Nat):Int)+1))+1) ((a.length - 1:Nat):Int)) λ sLrbtfJjL=>sLrbtfJjL) λ sJrbtfJ=>if sJrbtfJ < 0 then(aj.mk a [],0) else bnd (y2 a (G0 sJrbtfJ) default) λ c=>(aj.mk a ((t6 (G0 sJrbtfJ) a)++([(c+(1:UInt8))])),0) else(aj.mk [] [],b)
theorem zY (w D a) (r0:aj) (r1) (H:Own w D w []) (hr:pJ a=(r0,r1)):
    Calls u9 159 #[.string ⟨v0 a⟩] w (dI λ v w'=>v= .tuple #[.agg (aj.cells r0).toArray,vI r1]/\Own w D w' []):=by
 unfold pJ at hr
 refine cb Tryz.func159 ?_
 refine sr ?_
 refine bW [.string ⟨v0 []⟩, .string ⟨v0 []⟩] 37 H ?_
 intro j aM Y
 refine An rfl (H7 (sr (Mz rfl ?_)))
 obtain⟨g,h⟩:∃ q,dY a=q:=⟨_,rfl⟩
 obtain⟨aN,O,aF,P,aG⟩:=Ia Y
 refine cl Tryz.call62 (jK _ _ a g O h) ?_
 rintro _ aO ⟨rfl,Q,F,G⟩
 have K:=P _ _ Q
 replace F: ¬ (g=0)\/(1<=a.length/\a.length<=12):=F
 replace G:a.length < 1\/a.length > 12\/g=0:=G
 refine Ar rfl (Mz rfl (fw (.bool (decide (¬ (g=0)))) (Iu (e:= !(decide (g=0))) yk decide_not.symm) (nt ?_)))
 by_cases n:g=0
 refine jF (dF (Lp n)) (sk (H7 (sr (Mz rfl (Kz (vJ a.length) (Kz (.bool (decide ((a.length:Int) < 12))) (nt ?_)))))))
 by_cases p:(a.length:Int) < 12
 refine jT (decide_eq_true p) (sr (Mz rfl (Mz rfl (fw (.string ⟨v0 (a++([0]))⟩) (Jw rfl rfl g5) (Kz (.agg #[.string ⟨v0 a⟩, .string ⟨v0 (a++([0]))⟩]) ?_)))))
 refine cu [.string ⟨v0 a⟩, .string ⟨v0 (a++([0]))⟩] 0 K C5 ?_
 intro aP R
 refine An rfl (rt (tR (Ir (gq (vs:= [.agg #[.string ⟨v0 a⟩, .string ⟨v0 (a++([0]))⟩],vI 0]) rfl (bT.cell rfl (Io (cs:= [.string ⟨v0 a⟩, .string ⟨v0 (a++([0]))⟩]) C6 C5 ((R.cls (i:=0) rfl).lit (k:=0) (m:=2) rfl)) (bT.tmp rfl bT.nil)) (Lh rfl)) ?_)))
 have Z:=R.pk []
 obtain⟨rfl,rfl⟩:=fB (zj hr zq3)
 exact⟨rfl,Z⟩
 refine jF (dF p) (sk (sr (Mz rfl (Kz (vJ a.length) (fw (vJ (a.length - 1)) (Ig (e:=B5.wrap ((a.length:Int) - 1)) yk f1) (An rfl (H7 ?_)))))))
 obtain⟨aa,r⟩:=mI λ (b:Int) w'=>Own w D w' [blk j [.string ⟨v0 []⟩, .string ⟨v0 []⟩] 37]/\(-9223372036854775808<=b/\b<=9223372036854775807)/\b < a.length/\(bnd (lH a ((G0 (((a.length - 1:Nat):Int)+1))+1) ((a.length - 1:Nat):Int)) λ sLrbtfJjL=>sLrbtfJjL)=b
 refine Jl (λ i:Int=> [(5,vI i),(3,vI 0),(2,vP j 0),(0, .string ⟨v0 a⟩)]) aa ?_ ?_
 refine bo ?_
 have af:=K.pf []
 obtain⟨ag,s⟩:=FT λ (c:Int) (u:Nat) w'=>Own w D w' [blk j [.string ⟨v0 []⟩, .string ⟨v0 []⟩] 37]/\ -1<=c/\c < a.length/\G0 (c+1) < u/\lH a ((G0 (((a.length - 1:Nat):Int)+1))+1) ((a.length - 1:Nat):Int)=lH a u c
 refine Wp.loop (λ i:Int × Nat=> [(5,vI i.1),(3,vI 0),(2,vP j 0),(0, .string ⟨v0 a⟩)]) ag (λ i=>i.2) (((a.length - 1:Nat):Int),(G0 (((a.length - 1:Nat):Int)+1))+1) ⟨rfl,rfl,rfl,rfl,trivial⟩ (s.2 ⟨af,e8,e8,e8,rfl⟩) ?_
 rintro ⟨c,u⟩ aQ S
 show Wp _ _ _ [(5,vI c),(3,vI 0),(2,vP j 0),(0, .string ⟨v0 a⟩)] _ _
 obtain⟨L,aH,aI,aJ,x⟩:=s.1 S
 obtain⟨M,T⟩:∃ q,u=q+1:=⟨u - 1,e8⟩
 subst T
 refine H7 (sr (Mz rfl (Kz (.bool (decide (c >= 0))) (Mz rfl ?_))))
 by_cases f:c >= 0
 refine gw (.string ⟨v0 a⟩) (dT f) (Ie rfl) (gw (vJ (G0 c)) (dT f) (Ig (e:=c) (Ie rfl) e8) ?_)
 obtain⟨B,z⟩:=mY (ls:=a) (i:=G0 c) e8
 refine gw (.int .u8 (B.toNat:Int)) (dT f) (Jr v2 rfl rfl z) (Gz (.bool (decide ((B.toNat:Int)=255))) (dT f) (fw (.bool (decide ((B.toNat:Int)=255))) (Ic rfl (dT f) rfl) (nt ?_)))
 by_cases C:(B.toNat:Int)=255
 refine jT (dT C) (sk (bo (H8 (Mz rfl (fw (vI (c - 1)) (Ig (e:=B5.wrap (c - 1)) yk i5) (Az rfl (B6 (bN ?_))))))))
 have ah:=L.pf []
 exact Iq (c - 1,M) ⟨rfl,rfl,rfl,rfl,trivial⟩ (s.2 ⟨ah,e8,e8,e8,et (x) (et (ip f) (et (ae (bu z)) (ip C)))⟩) (by show M < M+1; omega)
 refine jF (dF C) (B7 (Ip (Ip (Iz ?_))))
 have ai:=L.pf []
 exact I1 c ⟨rfl,rfl,rfl,rfl,trivial⟩ (r.2 ⟨ai,e8,e8,ae (et (x) (et (ip f) (et (ae (bu z)) (iN C))))⟩)
 refine Sz (dF f) (Sz (dF f) (Sz (dF f) (Sz (dF f) (fw (.bool false) (H6 rfl (dF f) rfl) (nt (jf (B7 (Ip (Ip (Iz ?_))))))))))
 have ak:=L.pf []
 exact I1 c ⟨rfl,rfl,rfl,rfl,trivial⟩ (r.2 ⟨ak,e8,e8,ae (et (x) (iN f))⟩)
 rintro b aR U
 show Wp _ _ _ [(5,vI b),(3,vI 0),(2,vP j 0),(0, .string ⟨v0 a⟩)] _ _
 obtain⟨V,aK,aL,I⟩:=r.1 U
 refine H7 (sr (Mz rfl (Kz (.bool (decide (b < 0))) (nt ?_))))
 by_cases E:b < 0
 refine jT (dT E) (sr (Mz rfl (Kz (.agg #[.string ⟨v0 a⟩, .string ⟨v0 []⟩]) ?_)))
 refine cu [.string ⟨v0 a⟩, .string ⟨v0 []⟩] 0 V C5 ?_
 intro aS W
 refine An rfl (rt (tR (Ir (gq (vs:= [.agg #[.string ⟨v0 a⟩, .string ⟨v0 []⟩],vI 0]) rfl (bT.cell rfl (Io (cs:= [.string ⟨v0 a⟩, .string ⟨v0 []⟩]) C6 C5 ((W.cls (i:=0) rfl).lit (k:=0) (m:=2) rfl)) (bT.tmp rfl bT.nil)) (Lh rfl)) ?_)))
 have au:=W.pk []
 obtain⟨rfl,rfl⟩:=fB (zj hr zq5)
 exact⟨rfl,au⟩
 refine jF (dF E) (sk (H7 ?_))
 refine Ce [] (Ik Iw) V ?_
 intro aT av
 refine qv 0 rfl rfl (qv 1 rfl rfl (qt (v:=vJ (G0 b)) 2 rfl (λ _ _=>Ig (e:=b) (Ie rfl) e8) (qt (v:= .string ⟨v0 (t6 (G0 b) a)⟩) 3 rfl (λ _ _=>J4 v2 rfl rfl g5) (qv 4 rfl rfl (qt (v:=vJ (G0 b)) 5 rfl (λ _ _=>Ig (e:=b) (Ie rfl) e8) ?_)))))
 obtain⟨d,J⟩:=mY (ls:=a) (i:=G0 b) e8
 refine qt (v:= .int .u8 (d.toNat:Int)) 6 rfl (λ _ _=>Jr v2 rfl rfl J) (qt (v:= .int .u8 (((d+(1:UInt8)).toNat:Nat):Int)) 7 rfl (λ _ _=>Ig (e:=IntKind.u8.wrap ((d.toNat:Int)+1)) yk (Dc d (1:UInt8))) ?_)
 refine qd 8 rfl (IZ (cs:= [.int .u8 (((d+(1:UInt8)).toNat:Nat):Int)]) (t:=5) (sz:=1) (m:=1) av rfl rfl (λ _=>by kernel_rfl) rfl f5 ?_)
 intro ax aU A
 replace A:=IL (y:=row ax 1 1 (q2 eB ([(d+(1:UInt8))])) 5 1) rfl A
 refine⟨.inr ⟨_,A⟩, ?_⟩
 refine GR A (qt (v:= .string ⟨v0 ([(d+(1:UInt8))])⟩) 9 rfl (λ _ ⟨_,H9⟩=>JI (l:= [(d+(1:UInt8))]) Tryz.underlying186 Tryz.underlying5 v2 (H9.rds (i:=0) rfl) rfl) (qt (v:= .string ⟨v0 ((t6 (G0 b) a)++([(d+(1:UInt8))]))⟩) 10 rfl (λ _ _=>Jw rfl rfl g5) (qk (.agg #[.string ⟨v0 a⟩, .string ⟨v0 ((t6 (G0 b) a)++([(d+(1:UInt8))]))⟩]) 11 rfl ?_)))
 have ay:=A.pb [0]
 refine qe 12 rfl (Do.store (vs:= [.string ⟨v0 a⟩, .string ⟨v0 ((t6 (G0 b) a)++([(d+(1:UInt8))]))⟩]) (o:=0) ay rfl rfl C5 rfl rfl rfl rfl ?_)
 intro aW az
 have N:=az.pb [0]
 refine⟨.inr ⟨_,N⟩, ?_⟩
 refine qa 13 rfl rfl (qn (Ib (rt (Ir (gq (vs:= [.agg #[.string ⟨v0 a⟩, .string ⟨v0 ((t6 (G0 b) a)++([(d+(1:UInt8))]))⟩],vI 0]) rfl (bT.cell rfl (Io (cs:= [.string ⟨v0 a⟩, .string ⟨v0 ((t6 (G0 b) a)++([(d+(1:UInt8))]))⟩]) C6 C5 ((N.cls (i:=1) rfl).lit (k:=0) (m:=2) rfl)) (bT.tmp rfl bT.nil)) (Lh rfl)) ?_))))
 have aA:=N.pk []
 obtain⟨rfl,rfl⟩:=fB (zj hr zq6)
 exact⟨rfl,aA⟩
 refine jT (dT n) (sr (Kz (.agg #[.string ⟨v0 []⟩, .string ⟨v0 []⟩]) (Mz rfl ?_)))
 refine cu [.string ⟨v0 []⟩, .string ⟨v0 []⟩] 0 K C5 ?_
 intro aX X
 refine An rfl (rt (tR (Ir (gq (vs:= [.agg #[.string ⟨v0 []⟩, .string ⟨v0 []⟩],vI g]) rfl (bT.cell rfl (Io (cs:= [.string ⟨v0 []⟩, .string ⟨v0 []⟩]) C6 C5 ((X.cls (i:=0) rfl).lit (k:=0) (m:=2) rfl)) (bT.tmp rfl bT.nil)) (Lh rfl)) ?_)))
 have aB:=X.pk []
 obtain⟨rfl,rfl⟩:=fB (zj hr zq2)
 exact⟨rfl,aB⟩
def jL (b:aX):aj:=
 bnd (pJ b.aZ) λ a=>a.1
theorem nu (w D) (c:aX) (x:aj) (H:Own w D w []) (hr:jL c=x):
    Calls u9 101 #[.agg (aX.cells c).toArray] w (dI λ v w'=>v= .agg (aj.cells x).toArray/\Own w D w' []):=by
 unfold jL at hr
 refine cb Tryz.func101 ?_
 refine sr ?_
 refine bW (aX.cells c) 68 H ?_
 intro n A o
 refine bW [.string ⟨v0 []⟩, .string ⟨v0 []⟩] 37 o ?_
 intro B C d
 refine ns (Kz (vP n 1) (Lz (.string ⟨v0 c.aZ⟩) d 1 y4 ?_))
 obtain⟨⟨a,e⟩,b⟩:∃ q:aj × Int,pJ c.aZ=q:=⟨_,rfl⟩
 obtain⟨E,f,y,g,z⟩:=Ia d
 refine cl Tryz.call159 (zY _ _ c.aZ a e f b) ?_
 rintro _ F ⟨rfl,h⟩
 have p:=g _ _ h
 refine Mz rfl (Kz (.agg (aj.cells a).toArray) (Kz (vI e) ?_))
 refine bW [.string ⟨v0 []⟩, .string ⟨v0 []⟩] 37 p ?_
 intro G I r
 refine cu (aj.cells a) 0 r C5 ?_
 intro J s
 refine An rfl (H7 ?_)
 have j:=s.pk [0,1]
 refine H8 (La (aj.cells a) j 0 C6 C5 ?_)
 have t:=j.pb [0]
 refine cu (aj.cells a) 0 t C5 ?_
 intro K l
 refine nt (rt (Ir (oZ rfl rfl (Io (cs:=(aj.cells a)) C6 C5 ((l.cls (i:=0) rfl).lit (k:=0) (m:=2) rfl))) ?_))
 have u:=l.pk []
 obtain rfl:=zj hr zq1
 exact⟨rfl,u⟩
def uK (a:aX):aj × Int:=
 bnd (dW a) λ b=>if b=0 then if a.aB=1 then bnd (jL a) λ f=>(f,0) else if a.aB=2 then bnd (jL a) λ g=>(g,0) else if a.aB=3 then bnd (jL a) λ c=>(c,0) else if a.aB=4 then bnd (fD a) λ d=>(d,0) else bnd (fD a) λ e=>(e,0) else(aj.mk [] [],b)
theorem yD (w D) (a:aX) (r0:aj) (r1) (H:Own w D w []) (hr:uK a=(r0,r1)):
    Calls u9 155 #[.agg (aX.cells a).toArray] w (dI λ v w'=>v= .tuple #[.agg (aj.cells r0).toArray,vI r1]/\Own w D w' []):=by
 unfold uK at hr
 refine cb Tryz.func155 ?_
 refine sr ?_
 refine bW (aX.cells a) 68 H ?_
 intro bz dZ bA
 refine bW [.string ⟨v0 []⟩, .string ⟨v0 []⟩] 37 bA ?_
 intro d9 ed ai
 refine An rfl (H7 (sr (La (aX.cells a) ai 1 C4 C2 ?_)))
 obtain⟨h,b⟩:∃ q,dW a=q:=⟨_,rfl⟩
 obtain⟨ek,ak,cO,au,cZ⟩:=Ia ai
 refine cl Tryz.call63 (nk _ _ a h ak b) ?_
 rintro _ eu ⟨rfl,av,B⟩
 have j:=au _ _ av
 replace B: ¬ (h=0)\/(1<=a.aB/\a.aB<=5):=B
 refine Ar rfl (Mz rfl (fw (.bool (decide (¬ (h=0)))) (Iu (e:= !(decide (h=0))) yk decide_not.symm) (nt ?_)))
 by_cases c:h=0
 refine jF (dF (Lp c)) (sk (sr (Kz (vP bz 0) (Lz (vI a.aB) j 1 Tryz.isAgg3 ?_))))
 by_cases l:a.aB=1
 obtain⟨eB,ax,df,ay,dh⟩:=Ia j
 refine cl D0 (nO _ _ a.aB ax (of_decide_eq_true (dT l))) ?_
 rintro _ eD ⟨rfl,az⟩
 have bB:=ay _ _ az
 refine Mz rfl (Kz (.agg o2k.toArray) (Kz (.bool true) ?_))
 refine bW [.bool false, .nilFunc, .nilFunc, .nilFunc, .nilFunc] 149 bB ?_
 intro bC eF bD
 refine cu o2k 0 bD C1 ?_
 intro eG K
 refine Ar rfl (Kz (vP bC 3) (Lz (.func (.func 101) #[] #[]) K 0 I3 (La (aX.cells a) K 2 C4 C2 ?_)))
 obtain⟨n,C⟩:∃ q,jL a=q:=⟨_,rfl⟩
 obtain⟨eH,aA,di,aB,dm⟩:=Ia K
 refine WL.do rfl (IM J0 rfl rfl (nu _ _ a n aA C) ?_)
 rintro _ eO ⟨rfl,aC⟩
 have bE:=aB _ _ aC
 have bF:=bE.pf [1]
 refine cu (aj.cells n) 0 bF C5 ?_
 intro eP aD
 refine An rfl (rt (Ir (gq (vs:= [.agg (aj.cells n).toArray,vI 0]) rfl (bT.cell rfl (Io (cs:=(aj.cells n)) C6 C5 ((aD.cls (i:=0) rfl).lit (k:=0) (m:=2) rfl)) (bT.tmp rfl bT.nil)) (Lh rfl)) ?_))
 have bG:=aD.pk []
 obtain⟨rfl,rfl⟩:=fB (zj hr zq4)
 exact⟨rfl,bG⟩
 by_cases o:a.aB=2
 obtain⟨eQ,aF,dn,aG,dw⟩:=Ia j
 refine cl D0 (nP _ _ a.aB aF (of_decide_eq_true (dT o))) ?_
 rintro _ eT ⟨rfl,aH⟩
 have bH:=aG _ _ aH
 refine Mz rfl (Kz (.agg o3k.toArray) (Kz (.bool true) ?_))
 refine bW [.bool false, .nilFunc, .nilFunc, .nilFunc, .nilFunc] 149 bH ?_
 intro bI eU bJ
 refine cu o3k 0 bJ C1 ?_
 intro eX L
 refine Ar rfl (Kz (vP bI 3) (Lz (.func (.func 101) #[] #[]) L 0 I3 (La (aX.cells a) L 2 C4 C2 ?_)))
 obtain⟨p,E⟩:∃ q,jL a=q:=⟨_,rfl⟩
 obtain⟨eY,aI,dx,aJ,dz⟩:=Ia L
 refine WL.do rfl (IM J0 rfl rfl (nu _ _ a p aI E) ?_)
 rintro _ eZ ⟨rfl,aK⟩
 have bK:=aJ _ _ aK
 have bL:=bK.pf [1]
 refine cu (aj.cells p) 0 bL C5 ?_
 intro fe aL
 refine An rfl (rt (Ir (gq (vs:= [.agg (aj.cells p).toArray,vI 0]) rfl (bT.cell rfl (Io (cs:=(aj.cells p)) C6 C5 ((aL.cls (i:=0) rfl).lit (k:=0) (m:=2) rfl)) (bT.tmp rfl bT.nil)) (Lh rfl)) ?_))
 have bM:=aL.pk []
 obtain⟨rfl,rfl⟩:=fB (zj hr zq5)
 exact⟨rfl,bM⟩
 by_cases A:a.aB=3
 obtain⟨fo,aM,bN,M,bO⟩:=Ia j
 refine cl D0 (nQ _ _ a.aB aM (of_decide_eq_true (dT A))) ?_
 rintro _ dA ⟨rfl,N⟩
 have aN:=M _ _ N
 refine Mz rfl (Kz (.agg o4k.toArray) (Kz (.bool true) ?_))
 refine bW [.bool false, .nilFunc, .nilFunc, .nilFunc, .nilFunc] 149 aN ?_
 intro aO dB aP
 refine cu o4k 0 aP C1 ?_
 intro dC r
 refine Ar rfl (Kz (vP aO 3) (Lz (.func (.func 101) #[] #[]) r 0 I3 (La (aX.cells a) r 2 C4 C2 ?_)))
 obtain⟨d,s⟩:∃ q,jL a=q:=⟨_,rfl⟩
 obtain⟨dD,O,bP,P,bQ⟩:=Ia r
 refine WL.do rfl (IM J0 rfl rfl (nu _ _ a d O s) ?_)
 rintro _ dE ⟨rfl,Q⟩
 have aQ:=P _ _ Q
 have aR:=aQ.pf [1]
 refine cu (aj.cells d) 0 aR C5 ?_
 intro dG F
 refine An rfl (rt (Ir (gq (vs:= [.agg (aj.cells d).toArray,vI 0]) rfl (bT.cell rfl (Io (cs:=(aj.cells d)) C6 C5 ((F.cls (i:=0) rfl).lit (k:=0) (m:=2) rfl)) (bT.tmp rfl bT.nil)) (Lh rfl)) ?_))
 have aS:=F.pk []
 obtain⟨rfl,rfl⟩:=fB (zj hr zq6)
 exact⟨rfl,aS⟩
 by_cases t:a.aB=4
 obtain⟨dH,R,bR,S,bS⟩:=Ia j
 refine cl D0 (nR _ _ a.aB R (of_decide_eq_true (dT t))) ?_
 rintro _ dJ ⟨rfl,T⟩
 have aT:=S _ _ T
 refine Mz rfl (Kz (.agg o5k.toArray) (Kz (.bool true) ?_))
 refine bW [.bool false, .nilFunc, .nilFunc, .nilFunc, .nilFunc] 149 aT ?_
 intro aU dK aV
 refine cu o5k 0 aV C1 ?_
 intro dL u
 refine Ar rfl (Kz (vP aU 3) (Lz (.func (.func 109) #[] #[]) u 0 I3 (La (aX.cells a) u 2 C4 C2 ?_)))
 obtain⟨f,x⟩:∃ q,fD a=q:=⟨_,rfl⟩
 obtain⟨dM,U,bU,V,bV⟩:=Ia u
 refine WL.do rfl (IM J1 rfl rfl (lC _ _ a f U x) ?_)
 rintro _ dN ⟨rfl,W⟩
 have aW:=V _ _ W
 have aY:=aW.pf [1]
 refine cu (aj.cells f) 0 aY C5 ?_
 intro dO G
 refine An rfl (rt (Ir (gq (vs:= [.agg (aj.cells f).toArray,vI 0]) rfl (bT.cell rfl (Io (cs:=(aj.cells f)) C6 C5 ((G.cls (i:=0) rfl).lit (k:=0) (m:=2) rfl)) (bT.tmp rfl bT.nil)) (Lh rfl)) ?_))
 have aZ:=G.pk []
 obtain⟨rfl,rfl⟩:=fB (zj hr zq7)
 exact⟨rfl,aZ⟩
 have X:(decide (a.aB=5))=true:=(dT e8)
 obtain⟨dP,Y,bX,Z,bY⟩:=Ia j
 refine cl D0 (nS _ _ a.aB Y (of_decide_eq_true X)) ?_
 rintro _ dQ ⟨rfl,aa⟩
 have bf:=Z _ _ aa
 refine Mz rfl (Kz (.agg o6k.toArray) (Kz (.bool true) ?_))
 refine bW [.bool false, .nilFunc, .nilFunc, .nilFunc, .nilFunc] 149 bf ?_
 intro bg dR bi
 refine cu o6k 0 bi C1 ?_
 intro dS y
 refine Ar rfl (Kz (vP bg 3) (Lz (.func (.func 109) #[] #[]) y 0 I3 (La (aX.cells a) y 2 C4 C2 ?_)))
 obtain⟨g,z⟩:∃ q,fD a=q:=⟨_,rfl⟩
 obtain⟨dU,af,bZ,ag,cz⟩:=Ia y
 refine WL.do rfl (IM J1 rfl rfl (lC _ _ a g af z) ?_)
 rintro _ dV ⟨rfl,ah⟩
 have bn:=ag _ _ ah
 have bq:=bn.pf [1]
 refine cu (aj.cells g) 0 bq C5 ?_
 intro dX I
 refine An rfl (rt (Ir (gq (vs:= [.agg (aj.cells g).toArray,vI 0]) rfl (bT.cell rfl (Io (cs:=(aj.cells g)) C6 C5 ((I.cls (i:=0) rfl).lit (k:=0) (m:=2) rfl)) (bT.tmp rfl bT.nil)) (Lh rfl)) ?_))
 have bu:=I.pk []
 obtain⟨rfl,rfl⟩:=fB (zj hr zq7)
 exact⟨rfl,bu⟩
 refine jT (dT c) (sr (Kz (.agg #[.string ⟨v0 []⟩, .string ⟨v0 []⟩]) (Mz rfl ?_)))
 refine cu [.string ⟨v0 []⟩, .string ⟨v0 []⟩] 0 j C5 ?_
 intro dY J
 refine An rfl (rt (tR (Ir (gq (vs:= [.agg #[.string ⟨v0 []⟩, .string ⟨v0 []⟩],vI h]) rfl (bT.cell rfl (Io (cs:= [.string ⟨v0 []⟩, .string ⟨v0 []⟩]) C6 C5 ((J.cls (i:=0) rfl).lit (k:=0) (m:=2) rfl)) (bT.tmp rfl bT.nil)) (Lh rfl)) ?_)))
 have bv:=J.pk []
 obtain⟨rfl,rfl⟩:=fB (zj hr zq2)
 exact⟨rfl,bv⟩
theorem AO {x:aX} (h:dW x=0):1<=x.aB/\x.aB<=5:=by
 unfold dW at h
 repeat' (split at h <;> first | omega | skip)
theorem xz {l:List aX} (h:jB l=0):∀ x ∈ l,dW x=0:=by
 have key:∀ l:List aX,lp (ji l) (λ _=>0)=0->∀ x ∈ l,dW x=0:=by
    intro l
    induction l with
    | nil=>intro _ x hx; cases hx
    | cons y q ih=>
      intro h x hx
      simp only [ji,bnd] at h
      by_cases e:dW y=0
      . rw [ip e] at h
        rcases List.mem_cons.1 hx with rfl | hx
        . exact e
        . exact ih h x hx
      . rw [iN e] at h
        exact absurd h e
 exact key l h
theorem Cg {l:List aX} (h:jB l=0) {i:Nat} {x:aX} (hx:l[i]? =some x):1<=x.aB/\x.aB<=5:=
 AO (xz h x (List.mem_of_getElem? hx))
theorem uy:Elem u9 97 118 3 40:=l6 (z:= .agg #[.string ⟨v0 []⟩, .string ⟨v0 []⟩, .bool false]) K0 e9 rfl f5
structure aF where
 aA:aj
 eU:Bool
def aF.cells (x:aF):List Value:= [.string ⟨v0 x.aA.aN⟩, .string ⟨v0 x.aA.aT⟩, .bool x.eU]
instance:Bk aF:=⟨λ x _=>bk x.aA+(bk x.eU+(0))⟩
theorem aF.len:∀ x,(aF.cells x).length=3:=λ _=>rfl
theorem aF.one:∀ x, ∀ u ∈ aF.cells x,u.oneCell'=true:=λ x u hu=>by
 simp only [aF.cells,List.mem_cons,List.not_mem_nil,or_false] at hu
 rcases hu with rfl | rfl | rfl <;> rfl
def JG (w:World) (x:aF):Prop:=(Jt w x.aA)/\(True)
instance:Inhabited aF:=⟨⟨default,default⟩⟩
def fP:List aX->List aF->(List aF)
  | [],b=>b
  | a::c,b=>if a.aB=1 then bnd (jL a) λ h=>fP c (b++ [(aF.mk h false)]) else if a.aB=2 then bnd (jL a) λ d=>fP c (b++ [(aF.mk d true)]) else if a.aB=3 then bnd (jL a) λ e=>fP c (b++ [(aF.mk e true)]) else if a.aB=4 then bnd (fD a) λ f=>fP c (b++ [(aF.mk f false)]) else bnd (fD a) λ g=>fP c (b++ [(aF.mk g true)])
def oq (b:List aX):(List aF) × Int:=
 bnd (jB b) λ a=>if a=0 then bnd (fP b []) λ sLrbtL=>(sLrbtL,0) else(([]:List aF),a)
theorem BF (w D A0 n0 c0 d r0 r1) (H:Own w D w []) (Q:Ro w D λ w'=>bO w' 6 A0 n0 (q2 aX.cells d)) (eG:n0=d.length) (iX:d.length *80<=211106232532992) (hr:oq d=(r0,r1)):
    Calls u9 37 #[.slice A0 n0 c0] w (dI λ v w'=> ∃ B0 b0,v= .tuple #[.slice B0 r0.length b0,vI r1]/\Own w D w' [row B0 r0.length b0 (q2 aF.cells r0) 118 3]):=by
 unfold oq at hr
 subst eG
 refine cb Tryz.func37 ?_
 refine sr (Az rfl (An rfl (H7 (sr (Mz rfl ?_)))))
 obtain⟨B,u⟩:∃ q,jB d=q:=⟨_,rfl⟩
 obtain⟨iY,bA,bB,bC,gH⟩:=Ia H
 refine cl Tryz.call66 (qU _ _ A0 d.length c0 d B bA (bB _ Q) rfl e8 u) ?_
 rintro _ bD ⟨rfl,bE⟩
 have bF:=bC _ _ bE
 refine Ar rfl (Mz rfl (fw (.bool (decide (¬ (B=0)))) (Iu (e:= !(decide (B=0))) yk decide_not.symm) (nt ?_)))
 by_cases R:B=0
 refine jF (dF (Lp R)) (sk (sr (An rfl (H7 (sr (Mz rfl (Kz (vJ d.length) (Mn rfl (bo ?_)))))))))
 have eH:Own w D bD [row none 0 0 (q2 aF.cells []) 118 3]:=bF.free (bZ 118 3)
 have eO:=eH.pf []
 obtain⟨eP,n⟩:=vQ λ S (T:Nat) a (b:Nat) w'=>Own w D w' [row S a.length T (q2 aF.cells a) 118 3]/\b<=d.length/\a.length=b/\a.length<=b/\fP d []=fP (s0 b d) a
 refine Wp.loop (λ i:(Option Addr) × Nat × (List aF) × Nat=> [(5, .slice i.1 i.2.2.1.length i.2.1),(17,vJ i.2.2.2),(16,vJ d.length),(15, .slice A0 d.length c0),(3,vI 0),(2, .slice none 0 0)]) eP (λ i=>d.length - i.2.2.2) (none,0, [],0) ⟨rfl,rfl,rfl,rfl,rfl,rfl,trivial⟩ (n.2 ⟨eO,(show 0<=d.length/\0=0/\0<=0/\fP d []=fP (s0 0 d) [] from ⟨e8,e8,e8,rfl⟩)⟩) ?_
 rintro ⟨S,T,a,b⟩ iZ bG
 show Wp _ _ _ [(5, .slice S a.length T),(17,vJ b),(16,vJ d.length),(15, .slice A0 d.length c0),(3,vI 0),(2, .slice none 0 0)] _ _
 obtain⟨C,gI,gJ,gK,p⟩:=n.1 bG
 refine sr (Kz (.bool (decide ((b:Int) < (d.length:Int)))) (nt (H7 ?_)))
 by_cases bI:(b:Int) < (d.length:Int)
 obtain⟨c,E⟩:=dG (ls:=d) (i:=b) aX.len f5 (C.ro Q) f2
 have gL:=Cg (l:=d) (by rw [u]; omega) E
 have r:=drop_at E
 refine jT (dT bI) (sk (H7 (bo (sr (fw (.pointer (some ⟨ab A0,ao A0+b *6,none⟩)) (Im (nN) rfl rfl ((C.ro Q).addr (i:=b) e8) e8) (fw (.agg (aX.cells c).toArray) (Il rfl (Io (cs:=(aX.cells c)) C4 C2 ((C.ro Q).elem aX.len E f5))) ?_))))))
 refine bW [vI 0, .string ⟨v0 []⟩, .string ⟨v0 []⟩, .string ⟨v0 []⟩, .string ⟨v0 []⟩,vI 0] 68 C ?_
 intro eQ ja eT
 refine cu (aX.cells c) 0 eT C2 ?_
 intro jb z
 refine ns (Kz (vP eQ 0) (Lz (vI c.aB) z 0 Tryz.isAgg3 ?_))
 by_cases A:c.aB=1
 obtain⟨jc,bJ,gM,bK,gN⟩:=Ia z
 refine cl D0 (nO _ _ c.aB bJ (of_decide_eq_true (dT A))) ?_
 rintro _ jd ⟨rfl,bL⟩
 have eU:=bK _ _ bL
 refine Mz rfl (Kz (.agg o2k.toArray) (Kz (.bool true) ?_))
 refine bW [.bool false, .nilFunc, .nilFunc, .nilFunc, .nilFunc] 149 eU ?_
 intro bM je eZ
 refine cu o2k 0 eZ C1 ?_
 intro jf fe
 refine An rfl ?_
 refine oO [] (bH.block (Ik (Ik (bH.block (Ik Iw))))) fe ?_
 intro jg fo
 refine qv 0 rfl rfl (qp bM 3 1 rfl (ql 2 rfl 0 I3 rfl rfl rfl (qt (v:= .agg (aX.cells c).toArray) 3 rfl (λ _ ⟨_,U⟩=>Il rfl (Io (cs:=(aX.cells c)) C4 C2 ((U.cls (i:=1) rfl).lit (k:=0) (m:=6) rfl))) (qp bM 0 5 rfl (ql 6 rfl 0 H2 rfl rfl rfl ?_)))))
 obtain⟨o,V⟩:∃ q,jL c=q:=⟨_,rfl⟩
 obtain⟨jh,bP,gP,bQ,gQ⟩:=Ia fo
 refine qd 4 rfl (IM J0 rfl rfl (nu _ _ c o bP V) ?_)
 rintro _ ji ⟨rfl,bR⟩
 have bS:=bQ _ _ bR
 refine⟨.inr ⟨_,bS⟩, ?_⟩
 refine qk (.agg #[.string ⟨v0 o.aN⟩, .string ⟨v0 o.aT⟩, .bool false]) 7 rfl ?_
 refine qd 8 rfl (IZ (cs:= [.string ⟨v0 o.aN⟩, .string ⟨v0 o.aT⟩, .bool false]) (t:=118) (sz:=3) (m:=1) bS rfl rfl (λ _=>by kernel_rfl) rfl f5 ?_)
 intro fq jk aH
 replace aH:=IL (y:=row fq 1 1 (q2 aF.cells ([(aF.mk o false)])) 118 3) rfl aH
 have bT:=aH.pb [0,3]
 refine⟨.inr ⟨_,bT⟩, ?_⟩
 have bU:=bT.pf [3]
 refine qd 9 rfl (IC (k:=a.length) (m:=1) (uy) bU rfl rfl (eY K0 (bU.rds (i:=3) rfl) (cZ aF.one ([(aF.mk o false)]))) rfl e8 (s:=q7 (a++ [(aF.mk o false)])) f3 (t7).symm ?_)
 intro fu fA jl fC
 have gT:q7 (a++ [(aF.mk o false)])=a.length+1:=by simp only [o0,r5,K1]
 have bV:=fC.pb [0,3]
 refine⟨.inr ⟨_,bV⟩, ?_⟩
 refine qa 10 rfl rfl (qn (bN (Ib (H8 (fw (vJ (b+1)) (Ig (e:=B5.wrap ((b:Int)+1)) yk f1) (Mz rfl (B6 ?_)))))))
 have fE:=bV.pk [2]
 exact Iq (fu,fA,(a++ [(aF.mk o false)]),b+1) ⟨rfl,rfl,rfl,rfl,rfl,rfl,trivial⟩ (n.2 ⟨fE,e8,e8,e8,et (p) (et (congrArg (λ q=>fP q a) r) (et (ip A) (ae V)))⟩) (by show d.length - (b+1) < d.length - b; omega)
 by_cases F:c.aB=2
 obtain⟨jm,bX,fF,aI,fG⟩:=Ia z
 refine cl D0 (nP _ _ c.aB bX (of_decide_eq_true (dT F))) ?_
 rintro _ gU ⟨rfl,aJ⟩
 have bY:=aI _ _ aJ
 refine Mz rfl (Kz (.agg o3k.toArray) (Kz (.bool true) ?_))
 refine bW [.bool false, .nilFunc, .nilFunc, .nilFunc, .nilFunc] 149 bY ?_
 intro W gV cz
 refine cu o3k 0 cz C1 ?_
 intro gW cB
 refine An rfl ?_
 refine oO [] (bH.block (Ik (Ik (bH.block (Ik Iw))))) cB ?_
 intro gX cK
 refine qv 0 rfl rfl (qp W 3 1 rfl (ql 2 rfl 0 I3 rfl rfl rfl (qt (v:= .agg (aX.cells c).toArray) 3 rfl (λ _ ⟨_,U⟩=>Il rfl (Io (cs:=(aX.cells c)) C4 C2 ((U.cls (i:=1) rfl).lit (k:=0) (m:=6) rfl))) (qp W 0 5 rfl (ql 6 rfl 0 H2 rfl rfl rfl ?_)))))
 obtain⟨f,G⟩:∃ q,jL c=q:=⟨_,rfl⟩
 obtain⟨gY,aK,fH,aL,fI⟩:=Ia cK
 refine qd 4 rfl (IM J0 rfl rfl (nu _ _ c f aK G) ?_)
 rintro _ gZ ⟨rfl,aM⟩
 have X:=aL _ _ aM
 refine⟨.inr ⟨_,X⟩, ?_⟩
 refine qk (.agg #[.string ⟨v0 f.aN⟩, .string ⟨v0 f.aT⟩, .bool true]) 7 rfl ?_
 refine qd 8 rfl (IZ (cs:= [.string ⟨v0 f.aN⟩, .string ⟨v0 f.aT⟩, .bool true]) (t:=118) (sz:=3) (m:=1) X rfl rfl (λ _=>by kernel_rfl) rfl f5 ?_)
 intro cO ib I
 replace I:=IL (y:=row cO 1 1 (q2 aF.cells ([(aF.mk f true)])) 118 3) rfl I
 have Y:=I.pb [0,3]
 refine⟨.inr ⟨_,Y⟩, ?_⟩
 have Z:=Y.pf [3]
 refine qd 9 rfl (IC (k:=a.length) (m:=1) (uy) Z rfl rfl (eY K0 (Z.rds (i:=3) rfl) (cZ aF.one ([(aF.mk f true)]))) rfl e8 (s:=q7 (a++ [(aF.mk f true)])) f3 (t7).symm ?_)
 intro df dh ic di
 have fJ:q7 (a++ [(aF.mk f true)])=a.length+1:=by simp only [o0,r5,K1]
 have aa:=di.pb [0,3]
 refine⟨.inr ⟨_,aa⟩, ?_⟩
 refine qa 10 rfl rfl (qn (bN (Ib (H8 (fw (vJ (b+1)) (Ig (e:=B5.wrap ((b:Int)+1)) yk f1) (Mz rfl (B6 ?_)))))))
 have dm:=aa.pk [2]
 exact Iq (df,dh,(a++ [(aF.mk f true)]),b+1) ⟨rfl,rfl,rfl,rfl,rfl,rfl,trivial⟩ (n.2 ⟨dm,e8,e8,e8,et (p) (et (congrArg (λ q=>fP q a) r) (et (iN A) (et (ip F) (ae G))))⟩) (by show d.length - (b+1) < d.length - b; omega)
 by_cases x:c.aB=3
 obtain⟨ig,aN,fK,aO,fM⟩:=Ia z
 refine cl D0 (nQ _ _ c.aB aN (of_decide_eq_true (dT x))) ?_
 rintro _ ik ⟨rfl,aP⟩
 have dn:=aO _ _ aP
 refine Mz rfl (Kz (.agg o4k.toArray) (Kz (.bool true) ?_))
 refine bW [.bool false, .nilFunc, .nilFunc, .nilFunc, .nilFunc] 149 dn ?_
 intro af il dw
 refine cu o4k 0 dw C1 ?_
 intro iq dx
 refine An rfl ?_
 refine oO [] (bH.block (Ik (Ik (bH.block (Ik Iw))))) dx ?_
 intro iw dz
 refine qv 0 rfl rfl (qp af 3 1 rfl (ql 2 rfl 0 I3 rfl rfl rfl (qt (v:= .agg (aX.cells c).toArray) 3 rfl (λ _ ⟨_,U⟩=>Il rfl (Io (cs:=(aX.cells c)) C4 C2 ((U.cls (i:=1) rfl).lit (k:=0) (m:=6) rfl))) (qp af 0 5 rfl (ql 6 rfl 0 H2 rfl rfl rfl ?_)))))
 obtain⟨g,J⟩:∃ q,jL c=q:=⟨_,rfl⟩
 obtain⟨iy,aQ,fO,aR,fQ⟩:=Ia dz
 refine qd 4 rfl (IM J0 rfl rfl (nu _ _ c g aQ J) ?_)
 rintro _ iA ⟨rfl,aS⟩
 have ag:=aR _ _ aS
 refine⟨.inr ⟨_,ag⟩, ?_⟩
 refine qk (.agg #[.string ⟨v0 g.aN⟩, .string ⟨v0 g.aT⟩, .bool true]) 7 rfl ?_
 refine qd 8 rfl (IZ (cs:= [.string ⟨v0 g.aN⟩, .string ⟨v0 g.aT⟩, .bool true]) (t:=118) (sz:=3) (m:=1) ag rfl rfl (λ _=>by kernel_rfl) rfl f5 ?_)
 intro dA iB K
 replace K:=IL (y:=row dA 1 1 (q2 aF.cells ([(aF.mk g true)])) 118 3) rfl K
 have ah:=K.pb [0,3]
 refine⟨.inr ⟨_,ah⟩, ?_⟩
 have ai:=ah.pf [3]
 refine qd 9 rfl (IC (k:=a.length) (m:=1) (uy) ai rfl rfl (eY K0 (ai.rds (i:=3) rfl) (cZ aF.one ([(aF.mk g true)]))) rfl e8 (s:=q7 (a++ [(aF.mk g true)])) f3 (t7).symm ?_)
 intro dB dC iC dD
 have fT:q7 (a++ [(aF.mk g true)])=a.length+1:=by simp only [o0,r5,K1]
 have aj:=dD.pb [0,3]
 refine⟨.inr ⟨_,aj⟩, ?_⟩
 refine qa 10 rfl rfl (qn (bN (Ib (H8 (fw (vJ (b+1)) (Ig (e:=B5.wrap ((b:Int)+1)) yk f1) (Mz rfl (B6 ?_)))))))
 have dE:=aj.pk [2]
 exact Iq (dB,dC,(a++ [(aF.mk g true)]),b+1) ⟨rfl,rfl,rfl,rfl,rfl,rfl,trivial⟩ (n.2 ⟨dE,e8,e8,e8,et (p) (et (congrArg (λ q=>fP q a) r) (et (iN A) (et (iN F) (et (ip x) (ae J)))))⟩) (by show d.length - (b+1) < d.length - b; omega)
 by_cases L:c.aB=4
 obtain⟨iD,aT,fU,aU,fV⟩:=Ia z
 refine cl D0 (nR _ _ c.aB aT (of_decide_eq_true (dT L))) ?_
 rintro _ iE ⟨rfl,aV⟩
 have dH:=aU _ _ aV
 refine Mz rfl (Kz (.agg o5k.toArray) (Kz (.bool true) ?_))
 refine bW [.bool false, .nilFunc, .nilFunc, .nilFunc, .nilFunc] 149 dH ?_
 intro ak iF dJ
 refine cu o5k 0 dJ C1 ?_
 intro iG dK
 refine An rfl ?_
 refine oO [] (bH.block (Ik (Ik (bH.block (Ik Iw))))) dK ?_
 intro iH dL
 refine qv 0 rfl rfl (qp ak 3 1 rfl (ql 2 rfl 0 I3 rfl rfl rfl (qt (v:= .agg (aX.cells c).toArray) 3 rfl (λ _ ⟨_,U⟩=>Il rfl (Io (cs:=(aX.cells c)) C4 C2 ((U.cls (i:=1) rfl).lit (k:=0) (m:=6) rfl))) (qp ak 0 5 rfl (ql 6 rfl 0 H2 rfl rfl rfl ?_)))))
 obtain⟨h,M⟩:∃ q,fD c=q:=⟨_,rfl⟩
 obtain⟨iI,aW,fZ,aY,gm⟩:=Ia dL
 refine qd 4 rfl (IM J1 rfl rfl (lC _ _ c h aW M) ?_)
 rintro _ iJ ⟨rfl,aZ⟩
 have au:=aY _ _ aZ
 refine⟨.inr ⟨_,au⟩, ?_⟩
 refine qk (.agg #[.string ⟨v0 h.aN⟩, .string ⟨v0 h.aT⟩, .bool false]) 7 rfl ?_
 refine qd 8 rfl (IZ (cs:= [.string ⟨v0 h.aN⟩, .string ⟨v0 h.aT⟩, .bool false]) (t:=118) (sz:=3) (m:=1) au rfl rfl (λ _=>by kernel_rfl) rfl f5 ?_)
 intro dM iK N
 replace N:=IL (y:=row dM 1 1 (q2 aF.cells ([(aF.mk h false)])) 118 3) rfl N
 have av:=N.pb [0,3]
 refine⟨.inr ⟨_,av⟩, ?_⟩
 have ax:=av.pf [3]
 refine qd 9 rfl (IC (k:=a.length) (m:=1) (uy) ax rfl rfl (eY K0 (ax.rds (i:=3) rfl) (cZ aF.one ([(aF.mk h false)]))) rfl e8 (s:=q7 (a++ [(aF.mk h false)])) f3 (t7).symm ?_)
 intro dN dO iL dP
 have gp:q7 (a++ [(aF.mk h false)])=a.length+1:=by simp only [o0,r5,K1]
 have ay:=dP.pb [0,3]
 refine⟨.inr ⟨_,ay⟩, ?_⟩
 refine qa 10 rfl rfl (qn (bN (Ib (H8 (fw (vJ (b+1)) (Ig (e:=B5.wrap ((b:Int)+1)) yk f1) (Mz rfl (B6 ?_)))))))
 have dQ:=ay.pk [2]
 exact Iq (dN,dO,(a++ [(aF.mk h false)]),b+1) ⟨rfl,rfl,rfl,rfl,rfl,rfl,trivial⟩ (n.2 ⟨dQ,e8,e8,e8,et (p) (et (congrArg (λ q=>fP q a) r) (et (iN A) (et (iN F) (et (iN x) (et (ip L) (ae M))))))⟩) (by show d.length - (b+1) < d.length - b; omega)
 have bf:(decide (c.aB=5))=true:=(dT e8)
 obtain⟨iM,bg,gq,bi,gu⟩:=Ia z
 refine cl D0 (nS _ _ c.aB bg (of_decide_eq_true bf)) ?_
 rintro _ iO ⟨rfl,bn⟩
 have dR:=bi _ _ bn
 refine Mz rfl (Kz (.agg o6k.toArray) (Kz (.bool true) ?_))
 refine bW [.bool false, .nilFunc, .nilFunc, .nilFunc, .nilFunc] 149 dR ?_
 intro az iP dS
 refine cu o6k 0 dS C1 ?_
 intro iQ dU
 refine An rfl ?_
 refine oO [] (bH.block (Ik (Ik (bH.block (Ik Iw))))) dU ?_
 intro iR dV
 refine qv 0 rfl rfl (qp az 3 1 rfl (ql 2 rfl 0 I3 rfl rfl rfl (qt (v:= .agg (aX.cells c).toArray) 3 rfl (λ _ ⟨_,U⟩=>Il rfl (Io (cs:=(aX.cells c)) C4 C2 ((U.cls (i:=1) rfl).lit (k:=0) (m:=6) rfl))) (qp az 0 5 rfl (ql 6 rfl 0 H2 rfl rfl rfl ?_)))))
 obtain⟨j,O⟩:∃ q,fD c=q:=⟨_,rfl⟩
 obtain⟨iT,bq,gy,bu,gz⟩:=Ia dV
 refine qd 4 rfl (IM J1 rfl rfl (lC _ _ c j bq O) ?_)
 rintro _ iU ⟨rfl,bv⟩
 have aA:=bu _ _ bv
 refine⟨.inr ⟨_,aA⟩, ?_⟩
 refine qk (.agg #[.string ⟨v0 j.aN⟩, .string ⟨v0 j.aT⟩, .bool true]) 7 rfl ?_
 refine qd 8 rfl (IZ (cs:= [.string ⟨v0 j.aN⟩, .string ⟨v0 j.aT⟩, .bool true]) (t:=118) (sz:=3) (m:=1) aA rfl rfl (λ _=>by kernel_rfl) rfl f5 ?_)
 intro dW iV P
 replace P:=IL (y:=row dW 1 1 (q2 aF.cells ([(aF.mk j true)])) 118 3) rfl P
 have aB:=P.pb [0,3]
 refine⟨.inr ⟨_,aB⟩, ?_⟩
 have aC:=aB.pf [3]
 refine qd 9 rfl (IC (k:=a.length) (m:=1) (uy) aC rfl rfl (eY K0 (aC.rds (i:=3) rfl) (cZ aF.one ([(aF.mk j true)]))) rfl e8 (s:=q7 (a++ [(aF.mk j true)])) f3 (t7).symm ?_)
 intro dX dY iW dZ
 have gB:q7 (a++ [(aF.mk j true)])=a.length+1:=by simp only [o0,r5,K1]
 have aD:=dZ.pb [0,3]
 refine⟨.inr ⟨_,aD⟩, ?_⟩
 refine qa 10 rfl rfl (qn (bN (Ib (H8 (fw (vJ (b+1)) (Ig (e:=B5.wrap ((b:Int)+1)) yk f1) (Mz rfl (B6 ?_)))))))
 have d9:=aD.pk [2]
 exact Iq (dX,dY,(a++ [(aF.mk j true)]),b+1) ⟨rfl,rfl,rfl,rfl,rfl,rfl,trivial⟩ (n.2 ⟨d9,e8,e8,e8,et (p) (et (congrArg (λ q=>fP q a) r) (et (iN A) (et (iN F) (et (iN x) (et (iN L) (ae O))))))⟩) (by show d.length - (b+1) < d.length - b; omega)
 refine jF (dF bI) (B7 (Ip ?_))
 have bz:fP d []=a:=et (p) (et (congrArg (λ q=>fP q a) (eX (ls:=d) (i:=b) e8)) rfl)
 refine Ip (Iz (Ib (sr (Mz rfl (Az rfl (An rfl (rt (Ir (kD rfl rfl rfl) ?_))))))))
 have ed:=C.pf []
 obtain⟨rfl,rfl⟩:=fB (zj hr zq3)
 exact⟨S,T,rfl,ed⟩
 refine jT (dT R) (sr (Mz rfl (Az rfl (An rfl (rt (tR (Ir (kD rfl rfl rfl) ?_)))))))
 have ek:Own w D bD [row none 0 0 (q2 aF.cells []) 118 3]:=bF.free (bZ 118 3)
 have eu:=ek.pf []
 obtain⟨rfl,rfl⟩:=fB (zj hr zq2)
 exact⟨none,0,rfl,eu⟩
def fV (g:List az):List az->Nat->Unit ⊕ Int
  | [],a=>Sum.inl ()
  | d::e,a=>bnd (dY d.aZ) λ b=>if b=0 then bnd (ni d.aO) λ c=>if c=0 then if(a:Int) > 0 then bnd (y2 g (a - 1) default) λ f=>if d.aZ<=f.aZ then Sum.inr (1) else fV g e (a+1) else fV g e (a+1) else Sum.inr (c) else Sum.inr (b)
def gy (a:List az):Int:=
 lp (fV a a 0) λ _=>0
theorem zh (w D o U G d r0) (H:Own w D w []) (s:Ro w D λ w'=>bO w' 2 o U (q2 az.cells d)) (V:U=d.length) (aA:d.length *32<=211106232532992) (hr:gy d=r0):
    Calls u9 215 #[.slice o U G] w (dI λ v w'=>v=vI r0/\Own w D w' []):=by
 subst V
 refine cb Tryz.func215 ?_
 refine sr (An rfl (H7 (sr (Mz rfl (Kz (vJ d.length) (Mn rfl (bo ?_)))))))
 have W:=H.pk []
 obtain⟨X,n⟩:=mI λ (a:Nat) w'=>Own w D w' []/\a<=d.length/\fV d d 0=fV d (s0 a d) a
 refine Wp.loop (λ i:Nat=> [(2,vI 0),(9,vJ i),(8,vJ d.length),(7, .slice o d.length G),(0, .slice o d.length G)]) X (λ i=>d.length - i) 0 ⟨rfl,rfl,rfl,rfl,rfl,trivial⟩ (n.2 ⟨W,e8,rfl⟩) ?_
 rintro a aB I
 show Wp _ _ _ [(2,vI 0),(9,vJ a),(8,vJ d.length),(7, .slice o d.length G),(0, .slice o d.length G)] _ _
 obtain⟨t,ak,f⟩:=n.1 I
 refine sr (Kz (.bool (decide ((a:Int) < (d.length:Int)))) (nt (H7 ?_)))
 by_cases J:(a:Int) < (d.length:Int)
 obtain⟨c,z⟩:=dG (ls:=d) (i:=a) az.len f5 (t.ro s) f2
 have h:=drop_at z
 refine jT (dT J) (sk (H7 (bo (sr (Mz rfl (fw (.pointer (some ⟨ab o,ao o+a *2,none⟩)) (Im (iP) rfl rfl ((t.ro s).addr (i:=a) e8) e8) (fw (.agg (az.cells c).toArray) (Il rfl (Io (cs:=(az.cells c)) Tryz.isAgg101 Tryz.sizeOf101 ((t.ro s).elem az.len z f5))) ?_)))))))
 refine bW [.string ⟨v0 []⟩, .string ⟨v0 []⟩] 101 t ?_
 intro C aC Y
 refine Az rfl ?_
 refine cu (az.cells c) 0 Y Tryz.sizeOf101 ?_
 intro aD K
 refine nt (H7 (sr (Kz (vP C 0) (Lz (.string ⟨v0 c.aZ⟩) K 0 y4 ?_))))
 obtain⟨l,g⟩:∃ q,dY c.aZ=q:=⟨_,rfl⟩
 obtain⟨aF,L,au,M,av⟩:=Ia K
 refine cl Tryz.call62 (jK _ _ c.aZ l L g) ?_
 rintro _ aG ⟨rfl,N,A,B⟩
 have E:=M _ _ N
 replace A: ¬ (l=0)\/(1<=c.aZ.length/\c.aZ.length<=12):=A
 replace B:c.aZ.length < 1\/c.aZ.length > 12\/l=0:=B
 refine Ar rfl (Mz rfl (fw (.bool (decide (¬ (l=0)))) (Iu (e:= !(decide (l=0))) yk decide_not.symm) (nt ?_)))
 by_cases m:l=0
 refine jF (dF (Lp m)) (sk (H7 (sr (Kz (vP C 1) (Lz (.string ⟨v0 c.aO⟩) E 0 y4 ?_)))))
 obtain⟨u,j⟩:∃ q,ni c.aO=q:=⟨_,rfl⟩
 obtain⟨aH,O,ax,P,ay⟩:=Ia E
 refine cl Tryz.call161 (tN _ _ c.aO u O j) ?_
 rintro _ aI ⟨rfl,Q⟩
 have R:=P _ _ Q
 refine Ar rfl (Mz rfl (fw (.bool (decide (¬ (u=0)))) (Iu (e:= !(decide (u=0))) yk decide_not.symm) (nt ?_)))
 by_cases p:u=0
 refine jF (dF (Lp p)) (sk (H7 ?_))
 refine Cf [] (Ik (bH.block (Ik (Ik (bH.block (Ik Iw)))))) R ?_
 intro aJ F
 refine qv 0 rfl rfl (qk (.bool (decide ((a:Int) > 0))) 1 rfl (qv 2 rfl rfl ?_))
 by_cases b:(a:Int) > 0
 refine Ii (v:=vP C 0) (rs:= []) 3 rfl rfl rfl (dT b) e9 (λ _ _=>yk) (Ii (v:= .string ⟨v0 c.aZ⟩) (rs:= []) 4 rfl rfl rfl (dT b) e9 (λ _ ⟨_,S⟩=>Il rfl (bQ.one y4 (IU (S.cls (i:=0) rfl) rfl))) (Ii (v:= .slice o d.length G) (rs:= []) 5 rfl rfl rfl (dT b) e9 (λ _ _=>Ie rfl) (Ii (v:=vJ a) (rs:= []) 6 rfl rfl rfl (dT b) e9 (λ _ _=>Ie rfl) (Ii (v:=vJ (a - 1)) (rs:= []) 7 rfl rfl rfl (dT b) e9 (λ _ _=>Ig (e:=B5.wrap ((a:Int) - 1)) yk f1) ?_))))
 obtain⟨r,x⟩:=mY (ls:=d) (i:=a - 1) f2
 refine Ii (v:= .pointer (some ⟨ab o,ao o+(a - 1) *2,none⟩)) (rs:= []) 8 rfl rfl rfl (dT b) e9 (λ _ ⟨_,S⟩=>Im (iP) rfl rfl ((S.ro s).addr (i:=a - 1) e8) e8) (Ii (v:= .pointer (some ⟨ab o,ao o+(a - 1) *2,none⟩)) (rs:= []) 9 rfl rfl rfl (dT b) e9 (λ _ _=>yk) (Ii (v:= .string ⟨v0 r.aZ⟩) (rs:= []) 10 rfl rfl rfl (dT b) e9 (λ _ ⟨_,S⟩=>Il rfl (bQ.one y4 (((S.ro s).elem az.len x f5).at_ (k:=0) rfl))) (Ii (v:= .bool (decide (c.aZ<=r.aZ))) (rs:= []) 11 rfl rfl rfl (dT b) e9 (λ _ _=>Iu (e:=Op.bytesLess c.aZ r.aZ || decide (c.aZ=r.aZ)) (JC rfl rfl) (z8 _ _)) (qt (v:= .bool (decide (c.aZ<=r.aZ))) 12 rfl (λ _ _=>Ic rfl (dT b) rfl) (qn (Ib ?_))))))
 by_cases y:c.aZ<=r.aZ
 refine jT (dT y) (sr (An rfl (rt (bR (tR (tR (bR (tR (rs ?_)))))))))
 have Z:=F.pk []
 obtain rfl:_=1:=zj hr (iG (et (f) (et (congrArg (λ q=>fV d q a) h) (et (ae g) (et (ip m) (et (ae j) (et (ip p) (et (ip b) (et (ae (bu x)) (ip y))))))))))
 exact⟨rfl,Z⟩
 refine jF (dF y) (IG (bN (Ib (H8 (fw (vJ (a+1)) (Ig (e:=B5.wrap ((a:Int)+1)) yk f1) (Mz rfl (B6 ?_)))))))
 have aa:=F.pk []
 exact Iq (a+1) ⟨rfl,rfl,rfl,rfl,rfl,trivial⟩ (n.2 ⟨aa,e8,et (f) (et (congrArg (λ q=>fV d q a) h) (et (ae g) (et (ip m) (et (ae j) (et (ip p) (et (ip b) (et (ae (bu x)) (iN y))))))))⟩) (by show d.length - (a+1) < d.length - a; omega)
 refine Ih (rs:= []) 3 rfl rfl rfl (dF b) e9 (Ih (rs:= []) 4 rfl rfl rfl (dF b) e9 (Ih (rs:= []) 5 rfl rfl rfl (dF b) e9 (Ih (rs:= []) 6 rfl rfl rfl (dF b) e9 (Ih (rs:= []) 7 rfl rfl rfl (dF b) e9 (Ih (rs:= []) 8 rfl rfl rfl (dF b) e9 (Ih (rs:= []) 9 rfl rfl rfl (dF b) e9 (Ih (rs:= []) 10 rfl rfl rfl (dF b) e9 (Ih (rs:= []) 11 rfl rfl rfl (dF b) e9 (qt (v:= .bool false) 12 rfl (λ _ _=>H6 rfl (dF b) rfl) (qn (Ib (jf (IG (bN (Ib (H8 (fw (vJ (a+1)) (Ig (e:=B5.wrap ((a:Int)+1)) yk f1) (Mz rfl (B6 ?_)))))))))))))))))))
 have af:=F.pk []
 exact Iq (a+1) ⟨rfl,rfl,rfl,rfl,rfl,trivial⟩ (n.2 ⟨af,e8,et (f) (et (congrArg (λ q=>fV d q a) h) (et (ae g) (et (ip m) (et (ae j) (et (ip p) (iN b))))))⟩) (by show d.length - (a+1) < d.length - a; omega)
 refine jT (dT p) (sr (Mz rfl (An rfl (rt (tR (bR (tR (tR (bR (tR (rs ?_)))))))))))
 have ag:=R.pk []
 obtain rfl:_=u:=zj hr (iG (et (f) (et (congrArg (λ q=>fV d q a) h) (et (ae g) (et (ip m) (et (ae j) (iN p)))))))
 exact⟨rfl,ag⟩
 refine jT (dT m) (sr (Mz rfl (An rfl (rt (tR (bR (tR (tR (bR (tR (rs ?_)))))))))))
 have ah:=E.pk []
 obtain rfl:_=l:=zj hr (iG (et (f) (et (congrArg (λ q=>fV d q a) h) (et (ae g) (iN m)))))
 exact⟨rfl,ah⟩
 refine jF (dF J) (B7 (Ip ?_))
 have T:fV d d 0=Sum.inl ():=et (f) (et (congrArg (λ q=>fV d q a) (eX (ls:=d) (i:=a) e8)) rfl)
 refine Ip (Iz (Ib (sr (An rfl (rt (rs ?_))))))
 have ai:=t.pk []
 obtain rfl:_=0:=zj hr (lw T)
 exact⟨rfl,ai⟩
end
end Go.Proofs.YtndamapfnpihpaaGreat
