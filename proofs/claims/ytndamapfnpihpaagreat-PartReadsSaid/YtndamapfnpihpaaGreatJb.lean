/- The layers told, part 2. Conditions: none beyond each law's own. -/
import Derived.Test.YtndamapfnpihpaaGreatJa
namespace Go.Proofs.YtndamapfnpihpaaGreat
set_option maxHeartbeats 8000000
set_option maxRecDepth 100000
set_option linter.unusedVariables false
set_option linter.unusedSimpArgs false
set_option linter.unusedSectionVars false
open _root_.Go renaming World->ZQ,Value->ZX
open Value renaming bool->V,slice->W,string->Zz,pointer->Zq,agg->Zx,nilFunc->Zj
open Bool renaming true->Zk,false->J
open Option renaming none->Zv,some->Zw
open Decidable renaming decide->Zy
open Inhabited renaming default->ZZ
open List renaming length->X,toArray->Zc
open IntKind renaming i64->B7
open List renaming drop->r6,flatMap->q0,getD->y4,map->r7,mem_cons->u5,mem_of_getElem?->E1,not_mem_nil->v6
open Nat renaming le_refl->s0
open Sum renaming inl->y3,inr->y6
open _root_.Go.Proofs.Tryz renaming call28->G0,call29->E7,call62->B6,call65->D1,call67->D2,func67->C0,isAgg136->D4,isAgg146->D3,isAgg149->C2,isAgg3->B5,isAgg32->E3,isAgg34->E0,isAgg35->E4,isAgg37->D0,isAgg41->F0,isAgg44->E6,isAgg68->C6,isAgg9->B3,prog->v1,sizeOf149->C4,sizeOf188->C1,sizeOf37->C7,sizeOf41->F1,sizeOf60->E2,sizeOf68->C5,underlying3->v8,underlying32->F2,underlying37->y2,underlying68->y0,underlying9->v7
open WL renaming nil->B8
open Wp renaming exit->B9,loop->B4
section
open Go.RowKit
abbrev o1k:List ZX:=[V J, Zj, Zj, Zj, Zj, V J, .func (.func 99) #[] #[], .func (.func 100) #[] #[], .func (.func 101) #[] #[], .func (.func 102) #[] #[], V Zk, .func (.func 103) #[] #[], .func (.func 104) #[] #[], .func (.func 101) #[] #[], .func (.func 105) #[] #[], V Zk, .func (.func 99) #[] #[], .func (.func 100) #[] #[], .func (.func 101) #[] #[], .func (.func 106) #[] #[], V J, .func (.func 107) #[] #[], .func (.func 108) #[] #[], .func (.func 109) #[] #[], .func (.func 110) #[] #[], V Zk, .func (.func 111) #[] #[], .func (.func 112) #[] #[], .func (.func 109) #[] #[], .func (.func 113) #[] #[]]
abbrev o2k:List ZX:=[V J, .func (.func 99) #[] #[], .func (.func 100) #[] #[], .func (.func 101) #[] #[], .func (.func 102) #[] #[]]
abbrev o3k:List ZX:=[V Zk, .func (.func 103) #[] #[], .func (.func 104) #[] #[], .func (.func 101) #[] #[], .func (.func 105) #[] #[]]
abbrev o4k:List ZX:=[V Zk, .func (.func 99) #[] #[], .func (.func 100) #[] #[], .func (.func 101) #[] #[], .func (.func 106) #[] #[]]
abbrev o5k:List ZX:=[V J, .func (.func 107) #[] #[], .func (.func 108) #[] #[], .func (.func 109) #[] #[], .func (.func 110) #[] #[]]
abbrev o6k:List ZX:=[V Zk, .func (.func 111) #[] #[], .func (.func 112) #[] #[], .func (.func 109) #[] #[], .func (.func 113) #[] #[]]
theorem uE:Elem v1 33 83 2 24:=nz (z:= Zx #[Zz ⟨Zc []⟩, .int .i64 0]) Tryz.underlying33 f1 Z f6
structure bO where q::
 a:List UInt8
 b:Int
def bO.J (x:bO):List ZX:= [Zz ⟨Zc x.a⟩, .int .i64 x.b]
instance:Bk bO:=⟨λ x _=>bk x.a+(bk x.b+(0))⟩
theorem bO.len:∀ x,X (bO.J x)=2:=λ _=>rfl
theorem bO.one:∀ x, ∀ u ∈ bO.J x,u.oneCell'=Zk:=λ x u hu=>by
 simp only [bO.J,u5,v6,or_false] at hu
 rcases hu with rfl | rfl <;> rfl
def Lm (w:ZQ) (x:bO):Prop:=(X x.a<=140737488351232)/\((-9223372036854775808)<=x.b/\x.b<=9223372036854775807)
theorem BJ (w:ZQ):lh v1 w 83 2 bO.J (Lm w):=
 (nC (sz:=2) Tryz.underlying83 f1 (fU.cons (i:=0) (off:=0) (s:=1) Z Z (lC v7 f1) (fU.cons (i:=1) (off:=1) (s:=1) Z Z (nR (k:= .i64) (lo:= -9223372036854775808) (hi:=9223372036854775807) v8 f1 f6 f6) fU.nil))).map (λ p=>⟨p.1,p.2.1⟩) bO.len (λ _=>rfl) (λ _ h=>⟨h.1,h.2.1⟩) λ _=>s0 _
instance:Inhabited bO:=⟨⟨ZZ,ZZ⟩⟩
theorem kH:Elem v1 34 60 2 32:=nz (z:= Zx #[.int .u64 0, W Zv 0 0]) Tryz.underlying34 f1 Z f6
theorem oD:Elem v1 44 68 6 80:=nz (z:= Zx #[.int .i64 0, Zz ⟨Zc []⟩, Zz ⟨Zc []⟩, Zz ⟨Zc []⟩, Zz ⟨Zc []⟩, .int .i64 0]) Tryz.underlying44 f1 Z f6
structure aY where q::
 e:Int
 f:List UInt8
 g:List UInt8
 a:List UInt8
 b:List UInt8
 j:Int
def aY.J (x:aY):List ZX:= [.int .i64 x.e, Zz ⟨Zc x.f⟩, Zz ⟨Zc x.g⟩, Zz ⟨Zc x.a⟩, Zz ⟨Zc x.b⟩, .int .i64 x.j]
instance:Bk aY:=⟨λ x _=>bk x.e+(bk x.f+(bk x.g+(bk x.a+(bk x.b+(bk x.j+(0))))))⟩
theorem aY.len:∀ x,X (aY.J x)=6:=λ _=>rfl
theorem aY.one:∀ x, ∀ u ∈ aY.J x,u.oneCell'=Zk:=λ x u hu=>by
 simp only [aY.J,u5,v6,or_false] at hu
 rcases hu with rfl | rfl | rfl | rfl | rfl | rfl <;> rfl
def Lp (w:ZQ) (x:aY):Prop:=((-9223372036854775808)<=x.e/\x.e<=9223372036854775807)/\(X x.f<=140737488351232)/\(X x.g<=140737488351232)/\(X x.a<=140737488351232)/\(X x.b<=140737488351232)/\((-9223372036854775808)<=x.j/\x.j<=9223372036854775807)
theorem EC (w:ZQ):lh v1 w 68 6 aY.J (Lp w):=
 (nC (sz:=6) y0 f1 (fU.cons (i:=0) (off:=0) (s:=1) Z Z (nR (k:= .i64) (lo:= -9223372036854775808) (hi:=9223372036854775807) v8 f1 f6 f6) (fU.cons (i:=1) (off:=1) (s:=1) Z Z (lC v7 f1) (fU.cons (i:=2) (off:=2) (s:=1) Z Z (lC v7 f1) (fU.cons (i:=3) (off:=3) (s:=1) Z Z (lC v7 f1) (fU.cons (i:=4) (off:=4) (s:=1) Z Z (lC v7 f1) (fU.cons (i:=5) (off:=5) (s:=1) Z Z (nR (k:= .i64) (lo:= -9223372036854775808) (hi:=9223372036854775807) v8 f1 f6 f6) fU.nil))))))).map (λ p=>⟨p.1,p.2.1,p.2.2.1,p.2.2.2.1,p.2.2.2.2.1,p.2.2.2.2.2.1⟩) aY.len (λ _=>rfl) (λ _ h=>⟨h.1,h.2.1,h.2.2.1,h.2.2.2.1,h.2.2.2.2.1,h.2.2.2.2.2.1⟩) λ _=>s0 _
instance:Inhabited aY:=⟨⟨ZZ,ZZ,ZZ,ZZ,ZZ,ZZ⟩⟩
structure bf where q::
 f:Nat
 a:Sv aY
def bf.J (x:bf):List ZX:= [.int .u64 ((x.f:Nat):Int), W x.a.A (X x.a.a) x.a.c]
instance:Bk bf:=⟨λ x _=>bk x.f+(bk x.a+(0))⟩
theorem bf.len:∀ x,X (bf.J x)=2:=λ _=>rfl
theorem bf.one:∀ x, ∀ u ∈ bf.J x,u.oneCell'=Zk:=λ x u hu=>by
 simp only [bf.J,u5,v6,or_false] at hu
 rcases hu with rfl | rfl <;> rfl
def Mt (w:ZQ) (x:bf):Prop:=(x.f<=18446744073709551615)/\(nA w 6 80 aY.J (Lp w) x.a)
instance:Inhabited bf:=⟨⟨ZZ,ZZ⟩⟩
structure df where q::
 f:Nat
 a:Ll aY
instance:Inhabited df:=⟨⟨ZZ,ZZ⟩⟩
def bf.abs (x:bf):df:=⟨x.f,⟨x.a.a⟩⟩
def J9 (x:bf):List HP:= [row x.a.A (X x.a.a) x.a.c (q0 aY.J x.a.a) 68 6]
theorem iZ:Elem v1 35 32 1 8:=nz (z:= .int .u64 0) Tryz.underlying35 f1 Z f6
structure au where q::
 a:List UInt8
 b:List UInt8
def au.J (x:au):List ZX:= [Zz ⟨Zc x.a⟩, Zz ⟨Zc x.b⟩]
instance:Bk au:=⟨λ x _=>bk x.a+(bk x.b+(0))⟩
theorem au.len:∀ x,X (au.J x)=2:=λ _=>rfl
theorem au.one:∀ x, ∀ u ∈ au.J x,u.oneCell'=Zk:=λ x u hu=>by
 simp only [au.J,u5,v6,or_false] at hu
 rcases hu with rfl | rfl <;> rfl
def KW (w:ZQ) (x:au):Prop:=(X x.a<=140737488351232)/\(X x.b<=140737488351232)
theorem BK (w:ZQ):lh v1 w 37 2 au.J (KW w):=
 (nC (sz:=2) y2 f1 (fU.cons (i:=0) (off:=0) (s:=1) Z Z (lC v7 f1) (fU.cons (i:=1) (off:=1) (s:=1) Z Z (lC v7 f1) fU.nil))).map (λ p=>⟨p.1,p.2.1⟩) au.len (λ _=>rfl) (λ _ h=>⟨h.1,h.2.1⟩) λ _=>s0 _
instance:Inhabited au:=⟨⟨ZZ,ZZ⟩⟩
structure jd where q::
 g:Nat
 u:Nat
 a:Nat
 j:au
def jd.J (x:jd):List ZX:= [.int .u64 ((x.g:Nat):Int), .int .u64 ((x.u:Nat):Int), .int .u64 ((x.a:Nat):Int), Zz ⟨Zc x.j.a⟩, Zz ⟨Zc x.j.b⟩]
instance:Bk jd:=⟨λ x _=>bk x.g+(bk x.u+(bk x.a+(bk x.j+(0))))⟩
theorem jd.len:∀ x,X (jd.J x)=5:=λ _=>rfl
theorem jd.one:∀ x, ∀ u ∈ jd.J x,u.oneCell'=Zk:=λ x u hu=>by
 simp only [jd.J,u5,v6,or_false] at hu
 rcases hu with rfl | rfl | rfl | rfl | rfl <;> rfl
def Mj (w:ZQ) (x:jd):Prop:=(x.g<=18446744073709551615)/\(x.u<=18446744073709551615)/\(x.a<=18446744073709551615)/\(KW w x.j)
instance:Inhabited jd:=⟨⟨ZZ,ZZ,ZZ,ZZ⟩⟩
structure nD where q::
 l:Int
 r:Nat
 t:Nat
 s:Nat
 g:Nat
 b:Sv bO
 a:Sv bf
 f:Sv Nat
 k:Nat
 u:Nat
 j:au
 e:jd
def nD.J (x:nD):List ZX:= [.int .i64 x.l, .int .u64 ((x.r:Nat):Int), .int .u64 ((x.t:Nat):Int), .int .u64 ((x.s:Nat):Int), .int .u64 ((x.g:Nat):Int), W x.b.A (X x.b.a) x.b.c, W x.a.A (X x.a.a) x.a.c, W x.f.A (X x.f.a) x.f.c, .int .u64 ((x.k:Nat):Int), .int .u64 ((x.u:Nat):Int), Zz ⟨Zc x.j.a⟩, Zz ⟨Zc x.j.b⟩, .int .u64 ((x.e.g:Nat):Int), .int .u64 ((x.e.u:Nat):Int), .int .u64 ((x.e.a:Nat):Int), Zz ⟨Zc x.e.j.a⟩, Zz ⟨Zc x.e.j.b⟩]
instance:Bk nD:=⟨λ x _=>bk x.l+(bk x.r+(bk x.t+(bk x.s+(bk x.g+(bk x.b+(bk x.a+(bk x.f+(bk x.k+(bk x.u+(bk x.j+(bk x.e+(0))))))))))))⟩
theorem nD.len:∀ x,X (nD.J x)=17:=λ _=>rfl
theorem nD.one:∀ x, ∀ u ∈ nD.J x,u.oneCell'=Zk:=λ x u hu=>by
 simp only [nD.J,u5,v6,or_false] at hu
 rcases hu with rfl | rfl | rfl | rfl | rfl | rfl | rfl | rfl | rfl | rfl | rfl | rfl | rfl | rfl | rfl | rfl | rfl <;> rfl
def MW (w:ZQ) (x:nD):Prop:=((-9223372036854775808)<=x.l/\x.l<=9223372036854775807)/\(x.r<=18446744073709551615)/\(x.t<=18446744073709551615)/\(x.s<=18446744073709551615)/\(x.g<=18446744073709551615)/\(nA w 2 24 bO.J (Lm w) x.b)/\(nA w 2 32 bf.J (Mt w) x.a)/\(nA w 1 8 (eN .u64) (λ n=>n<=18446744073709551615) x.f)/\(x.k<=18446744073709551615)/\(x.u<=18446744073709551615)/\(KW w x.j)/\(Mj w x.e)
instance:Inhabited nD:=⟨⟨ZZ,ZZ,ZZ,ZZ,ZZ,ZZ,ZZ,ZZ,ZZ,ZZ,ZZ,ZZ⟩⟩
structure bD where q::
 l:Int
 r:Nat
 t:Nat
 s:Nat
 g:Nat
 b:Ll bO
 a:Ll df
 f:Ll Nat
 k:Nat
 u:Nat
 j:au
 e:jd
instance:Inhabited bD:=⟨⟨ZZ,ZZ,ZZ,ZZ,ZZ,ZZ,ZZ,ZZ,ZZ,ZZ,ZZ,ZZ⟩⟩
def nD.abs (x:nD):bD:=⟨x.l,x.r,x.t,x.s,x.g,⟨x.b.a⟩,⟨r7 bf.abs x.a.a⟩,⟨x.f.a⟩,x.k,x.u,x.j,x.e⟩
def ML (x:nD):List HP:= [row x.b.A (X x.b.a) x.b.c (q0 bO.J x.b.a) 83 2,row x.a.A (X x.a.a) x.a.c (q0 bf.J x.a.a) 60 2,row x.f.A (X x.f.a) x.f.c (q0 (eN .u64) x.f.a) 32 1,sepL (q0 J9 x.a.a)]
abbrev gX (n:Int) (o:Nat) (p:Nat) (q:Nat) (r:Nat) (s:Option Addr) (a b:Nat) (t:Option Addr) (c d:Nat) (u:Option Addr) (e f:Nat) (v:Nat) (w:Nat) (g:List UInt8) (h:List UInt8) (i:Nat) (j:Nat) (k:Nat) (l:List UInt8) (m:List UInt8):List ZX:= [.int .i64 n, .int .u64 ((o:Nat):Int), .int .u64 ((p:Nat):Int), .int .u64 ((q:Nat):Int), .int .u64 ((r:Nat):Int), W s a b, W t c d, W u e f, .int .u64 ((v:Nat):Int), .int .u64 ((w:Nat):Int), Zz ⟨Zc g⟩, Zz ⟨Zc h⟩, .int .u64 ((i:Nat):Int), .int .u64 ((j:Nat):Int), .int .u64 ((k:Nat):Int), Zz ⟨Zc l⟩, Zz ⟨Zc m⟩]
abbrev iL (x:bD) (a:Option Addr) (b:Nat) (c:Option Addr) (d:Nat) (e:Option Addr) (f:Nat):List ZX:= [.int .i64 x.l, .int .u64 ((x.r:Nat):Int), .int .u64 ((x.t:Nat):Int), .int .u64 ((x.s:Nat):Int), .int .u64 ((x.g:Nat):Int), W a (X x.b.a) b, W c (X x.a.a) d, W e (X x.f.a) f, .int .u64 ((x.k:Nat):Int), .int .u64 ((x.u:Nat):Int), Zz ⟨Zc x.j.a⟩, Zz ⟨Zc x.j.b⟩, .int .u64 ((x.e.g:Nat):Int), .int .u64 ((x.e.u:Nat):Int), .int .u64 ((x.e.a:Nat):Int), Zz ⟨Zc x.e.j.a⟩, Zz ⟨Zc x.e.j.b⟩]
def nE (a:Int) (b:Int):Bool:=
 if a >= 1 then Zy (a<=b) else J
theorem rQ (w D b c f) (H:Own w D w []) (hr:nE b c=f):
    Calls v1 29 #[vI b,vI c] w (dM λ v w'=>v= V f/\Own w D w' []):=by
 unfold nE at hr
 refine cb Tryz.func29 ?_
 refine sr (Ar Z (Mz Z (Kz (Zb (b >= 1)) (Mz Z ?_))))
 by_cases a:b >= 1
 refine gw (vI b) (dT a) (JM Z) (gw (vI c) (dT a) (JM Z) (Gz (Zb (b<=c)) (dT a) (fw (Zb (b<=c)) (JL Z (dT a) Z) (An Z (rt (rs ?_))))))
 have d:=H.pk []
 obtain rfl:=zj hr zq1
 exact⟨Z,d⟩
 refine T (dF a) (T (dF a) (T (dF a) (fw (V J) (JH Z (dF a) Z) (An Z (rt (rs ?_))))))
 have e:=H.pk []
 obtain rfl:=zj hr zq1
 exact⟨Z,e⟩
def tV (a:Int):Bool:=
 if a >= 1 then Zy (a<=4) else J
theorem yQ (w D b e) (H:Own w D w []) (hr:tV b=e):
    Calls v1 61 #[vI b] w (dM λ v w'=>v= V e/\Own w D w' []):=by
 unfold tV at hr
 refine cb Tryz.func61 ?_
 refine sr (Ar Z (Mz Z (Kz (Zb (b >= 1)) (Mz Z ?_))))
 by_cases a:b >= 1
 refine gw (vI b) (dT a) (JM Z) (Gz (Zb (b<=4)) (dT a) (fw (Zb (b<=4)) (JL Z (dT a) Z) (An Z (rt (rs ?_)))))
 have c:=H.pk []
 obtain rfl:=zj hr zq1
 exact⟨Z,c⟩
 refine T (dF a) (T (dF a) (fw (V J) (JH Z (dF a) Z) (An Z (rt (rs ?_)))))
 have d:=H.pk []
 obtain rfl:=zj hr zq1
 exact⟨Z,d⟩
def dW (a:List UInt8):Int:=
 if((X a:Nat):Int) < 1 then 20 else if((X a:Nat):Int) > 12 then 20 else 0
theorem jR (w D b d) (H:Own w D w []) (hr:dW b=d):
    Calls v1 62 #[Zz ⟨Zc b⟩] w (dM λ v w'=>v=vI d/\Own w D w' []/\(¬ (d=0)\/(1<=X b/\X b<=12))/\(X b < 1\/X b > 12\/d=0)):=by
 unfold dW at hr
 refine cb Tryz.func62 ?_
 refine sr (An Z (JG (sr (Mz Z (Kz (vJ (X b)) (Kz (Zb ((X b:Int) < 1)) (Mz Z ?_)))))))
 by_cases a:(X b:Int) < 1
 refine T (dT a) (T (dT a) (T (dT a) (fw (V Zk) (JL Z (dT a) Z) (nt (jt (sr (An Z (rt (tR (rs ?_))))))))))
 have e:=H.pk []
 obtain rfl:=zj hr zq1
 exact⟨Z,e,Y,Y⟩
 refine gw (Zz ⟨Zc b⟩) (dF a) (JM Z) (Gz (vJ (X b)) (dF a) (Gz (Zb ((X b:Int) > 12)) (dF a) (fw (Zb ((X b:Int) > 12)) (JH Z (dF a) Z) (nt ?_))))
 by_cases c:(X b:Int) > 12
 refine jT (dT c) (sr (An Z (rt (tR (rs ?_)))))
 have f:=H.pk []
 obtain rfl:=zj hr zq2
 exact⟨Z,f,Y,Y⟩
 refine jF (dF c) (sk (sr (An Z (rt (rs ?_)))))
 have g:=H.pk []
 obtain rfl:=zj hr zq2
 exact⟨Z,g,Y,Y⟩
def jq (g:List bO):List bO->Nat->Unit ⊕ Int
  | [],a=>y3 ()
  | b::c,a=>bnd (tV b.b) λ d=>if d=Zk then if((a:Nat):Int) > 0 then bnd (dW b.a) λ e=>if e=0 then bnd (y4 g (a - 1) ZZ) λ f=>if b.a<=f.a then y6 (170) else jq g c (a+1) else y6 (170) else jq g c (a+1) else y6 (170)
def nV (a:List bO):Int:=
 if((X a:Nat):Int) < 1 then 170 else if((X a:Nat):Int) > 6 then 170 else bnd (y4 a 0 ZZ) λ b=>if b.a≠[] then 170 else lp (jq a a 0) λ _=>0
theorem sN (w D j Z1 I d Z2) (H:Own w D w []) (l:Ro w D λ w'=>bP w' 2 j Z1 (q0 bO.J d)) (Z0:Z1=X d) (aF:X d<=9223372036854775807) (hr:nV d=Z2):
    Calls v1 30 #[W j Z1 I] w (dM λ v w'=>v=vI Z2/\Own w D w' []/\(¬ (Z2=0)\/(1<=X d/\X d<=6))):=by
 unfold nV at hr
 subst Z0
 refine cb Tryz.func30 ?_
 refine sr (An Z (JG (sr (Mz Z (Kz (vJ (X d)) (Kz (Zb ((X d:Int) < 1)) (Mz Z ?_)))))))
 by_cases h:(X d:Int) < 1
 refine T (dT h) (T (dT h) (T (dT h) (fw (V Zk) (JL Z (dT h) Z) (Mz Z (T Z (T Z (T Z (T Z (T Z (fw (V Zk) (JL Z Z Z) (nt (jt (sr (An Z (rt (tR (rs ?_)))))))))))))))))
 have aa:=H.pk []
 obtain rfl:=zj hr zq1
 exact⟨Z,aa,Y⟩
 refine gw (W j (X d) I) (dF h) (JM Z) (Gz (vJ (X d)) (dF h) (Gz (Zb ((X d:Int) > 6)) (dF h) (fw (Zb ((X d:Int) > 6)) (JH Z (dF h) Z) (Mz Z ?_))))
 by_cases f:(X d:Int) > 6
 refine T (dT f) (T (dT f) (T (dT f) (T (dT f) (T (dT f) (fw (V Zk) (JL Z (dT f) Z) (nt (jt (sr (An Z (rt (tR (rs ?_))))))))))))
 have af:=H.pk []
 obtain rfl:=zj hr zq2
 exact⟨Z,af,Y⟩
 refine gw (W j (X d) I) (dF f) (JM Z) ?_
 obtain⟨E,m⟩:=dJ (ls:=d) (i:=0) bO.len f6 (H.ro l) f4
 refine gw (Zq (Zw ⟨ab j,ao j+0 *2,Zv⟩)) (dF f) (JU (uE) Z Z ((H.ro l).addr (i:=0) Y) Y) (Gz (Zq (Zw ⟨ab j,ao j+0 *2,Zv⟩)) (dF f) (gw (Zz ⟨Zc E.a⟩) (dF f) (JS Z (bT.one B3 (((H.ro l).elem bO.len m f6).at_ (k:=0) Z))) (gw (Zb (E.a≠[])) (dF f) (Km Z Z) (fw (Zb (E.a≠[])) (JH Z (dF f) Z) (nt ?_)))))
 by_cases s:E.a≠[]
 refine jT (dT s) (sr (An Z (rt (tR (rs ?_)))))
 have ag:=H.pk []
 obtain rfl:=zj hr zq4
 exact⟨Z,ag,Y⟩
 refine jF (dF s) (sk (JG (sr (Mz Z (Kz (vJ (X d)) (Mn Z (bo ?_)))))))
 have ah:=H.pk []
 obtain⟨ai,x⟩:=mE λ (a:Nat) w'=>Own w D w' []/\a<=X d/\jq d d 0=jq d (r6 a d) a
 refine B4 (λ i:Nat=> [(2,vI 0),(21,vJ i),(20,vJ (X d)),(0, W j (X d) I)]) ai (λ i=>X d - i) 0 ⟨Z,Z,Z,Z,ZW⟩ (x.2 ⟨ah,Y,Z⟩) ?_
 rintro a aG M
 show Wp _ _ _ [(2,vI 0),(21,vJ a),(20,vJ (X d)),(0, W j (X d) I)] _ _
 obtain⟨A,az,n⟩:=x.1 M
 refine sr (Kz (Zb ((a:Int) < (X d:Int))) (nt (JG ?_)))
 by_cases Z5:(a:Int) < (X d:Int)
 obtain⟨g,y⟩:=dJ (ls:=d) (i:=a) bO.len f6 (A.ro l) f4
 have p:=drop_at y
 refine jT (dT Z5) (sk (JG (bo (sr (Mz Z (An Z (JG (sr (Mz Z (Mz Z (fw (Zq (Zw ⟨ab j,ao j+a *2,Zv⟩)) (JU (uE) Z Z ((A.ro l).addr (i:=a) Y) Y) (Kz (Zq (Zw ⟨ab j,ao j+a *2+1,Zv⟩)) (fw (vI g.b) (JS Z (bT.one B5 (((A.ro l).elem bO.len y f6).at_ (k:=1) Z))) ?_)))))))))))))
 obtain⟨L,o⟩:∃ q,tV g.b=q:=⟨_,Z⟩
 obtain⟨aH,Z6,aA,P,aB⟩:=JJ A
 refine cl Tryz.call61 (yQ _ _ g.b L Z6 o) ?_
 rintro _ aI ⟨rfl,Q⟩
 have R:=P _ _ Q
 refine Kz (V (!L)) (nt ?_)
 rcases Nf (L) with r | r
 refine jF (cn r) (sk (JG ?_))
 refine AQ [] (JP (bI.block (JP (JP (bI.block (JP J3)))))) R ?_
 intro aJ S
 refine qv 0 Z Z (qk (Zb ((a:Int) > 0)) 1 Z (qv 2 Z Z ?_))
 by_cases c:(a:Int) > 0
 refine JQ (v:= W j (X d) I) (rs:= []) 3 Z Z Z (dT c) f1 (λ _ _=>JM Z) (JQ (v:=vJ a) (rs:= []) 4 Z Z Z (dT c) f1 (λ _ _=>JM Z) (JQ (v:= Zq (Zw ⟨ab j,ao j+a *2,Zv⟩)) (rs:= []) 5 Z Z Z (dT c) f1 (λ _ ⟨_,B⟩=>JU (uE) Z Z ((B.ro l).addr (i:=a) Y) Y) (JQ (v:= Zq (Zw ⟨ab j,ao j+a *2,Zv⟩)) (rs:= []) 6 Z Z Z (dT c) f1 (λ _ _=>yk) (JQ (v:= Zz ⟨Zc g.a⟩) (rs:= []) 7 Z Z Z (dT c) f1 (λ _ ⟨_,B⟩=>JS Z (bT.one B3 (((B.ro l).elem bO.len y f6).at_ (k:=0) Z))) ?_))))
 obtain⟨t,z⟩:∃ q,dW g.a=q:=⟨_,Z⟩
 obtain⟨aK,Z8,aC,Z4,aD⟩:=JJ S
 refine Ky 8 Z Z Z (dT c) f1 (J6 B6 Z (jR _ _ g.a t Z8 z) ?_)
 rintro _ aL ⟨rfl,Z3,Z7,K⟩
 have F:=Z4 _ _ Z3
 replace Z7: ¬ (t=0)\/(1<=X g.a/\X g.a<=12):=Z7
 replace K:X g.a < 1\/X g.a > 12\/t=0:=K
 refine⟨.inr ⟨_,F⟩, ?_⟩
 refine JQ (v:= Zb (¬ (t=0))) (rs:= []) 9 Z Z Z (dT c) f1 (λ _ _=>JZ (e:= !(Zy (t=0))) yk ZY) (JQ (v:= Zb (¬ (t=0))) (rs:= []) 10 Z Z Z (dT c) f1 (λ _ _=>JM Z) ?_)
 by_cases b:t=0
 refine JQ (v:= W j (X d) I) (rs:= []) 11 Z Z Z (dF (Nc b)) f1 (λ _ _=>JM Z) (JQ (v:=vJ a) (rs:= []) 12 Z Z Z (dF (Nc b)) f1 (λ _ _=>JM Z) (JQ (v:= Zq (Zw ⟨ab j,ao j+a *2,Zv⟩)) (rs:= []) 13 Z Z Z (dF (Nc b)) f1 (λ _ ⟨_,B⟩=>JU (uE) Z Z ((B.ro l).addr (i:=a) Y) Y) (JQ (v:= Zq (Zw ⟨ab j,ao j+a *2,Zv⟩)) (rs:= []) 14 Z Z Z (dF (Nc b)) f1 (λ _ _=>yk) (JQ (v:= Zz ⟨Zc g.a⟩) (rs:= []) 15 Z Z Z (dF (Nc b)) f1 (λ _ ⟨_,B⟩=>JS Z (bT.one B3 (((B.ro l).elem bO.len y f6).at_ (k:=0) Z))) (JQ (v:= W j (X d) I) (rs:= []) 16 Z Z Z (dF (Nc b)) f1 (λ _ _=>JM Z) (JQ (v:=vJ a) (rs:= []) 17 Z Z Z (dF (Nc b)) f1 (λ _ _=>JM Z) (JQ (v:=vJ (a - 1)) (rs:= []) 18 Z Z Z (dF (Nc b)) f1 (λ _ _=>JN (e:=B7.wrap ((a:Int) - 1)) yk f3) ?_)))))))
 obtain⟨u,C⟩:=mI (ls:=d) (i:=a - 1) f4
 refine JQ (v:= Zq (Zw ⟨ab j,ao j+(a - 1) *2,Zv⟩)) (rs:= []) 19 Z Z Z (dF (Nc b)) f1 (λ _ ⟨_,B⟩=>JU (uE) Z Z ((B.ro l).addr (i:=a - 1) Y) Y) (JQ (v:= Zq (Zw ⟨ab j,ao j+(a - 1) *2,Zv⟩)) (rs:= []) 20 Z Z Z (dF (Nc b)) f1 (λ _ _=>yk) (JQ (v:= Zz ⟨Zc u.a⟩) (rs:= []) 21 Z Z Z (dF (Nc b)) f1 (λ _ ⟨_,B⟩=>JS Z (bT.one B3 (((B.ro l).elem bO.len C f6).at_ (k:=0) Z))) (JQ (v:= Zb (g.a<=u.a)) (rs:= []) 22 Z Z Z (dF (Nc b)) f1 (λ _ _=>JZ (e:=Op.bytesLess g.a u.a || decide (g.a=u.a)) (K9 Z Z) (Bl _ _)) (JQ (v:= Zb (g.a<=u.a)) (rs:= []) 23 Z Z Z (dT c) f1 (λ _ _=>JH Z (dF (Nc b)) Z) (qt (v:= Zb (g.a<=u.a)) 24 Z (λ _ _=>JL Z (dT c) Z) (qn (JK ?_)))))))
 by_cases G:g.a<=u.a
 refine jT (dT G) (sr (An Z (rt (bR (tR (tR (bR (tR (rs ?_)))))))))
 have aj:=F.pk []
 obtain rfl:_=170:=zj hr (N (iN h) (N (iN f) (N (ae (bu m)) (N (iN s) (iJ (N (n) (N (ZJ (λ q=>jq d q a) p) (N (ae o) (N (ip r) (N (ip c) (N (ae z) (N (ip b) (N (ae (bu C)) (ip G))))))))))))))
 exact⟨Z,aj,Y⟩
 refine jF (dF G) (J8 (bN (JK (JI (fw (vJ (a+1)) (JN (e:=B7.wrap ((a:Int)+1)) yk f3) (Mz Z (B8 ?_)))))))
 have ak:=F.pk []
 exact JX (a+1) ⟨Z,Z,Z,Z,ZW⟩ (x.2 ⟨ak,Y,N (n) (N (ZJ (λ q=>jq d q a) p) (N (ae o) (N (ip r) (N (ip c) (N (ae z) (N (ip b) (N (ae (bu C)) (iN G))))))))⟩) (by show X d - (a+1) < X d - a; omega)
 refine JO (rs:= []) 11 Z Z Z (dT b) f1 (JO (rs:= []) 12 Z Z Z (dT b) f1 (JO (rs:= []) 13 Z Z Z (dT b) f1 (JO (rs:= []) 14 Z Z Z (dT b) f1 (JO (rs:= []) 15 Z Z Z (dT b) f1 (JO (rs:= []) 16 Z Z Z (dT b) f1 (JO (rs:= []) 17 Z Z Z (dT b) f1 (JO (rs:= []) 18 Z Z Z (dT b) f1 (JO (rs:= []) 19 Z Z Z (dT b) f1 (JO (rs:= []) 20 Z Z Z (dT b) f1 (JO (rs:= []) 21 Z Z Z (dT b) f1 (JO (rs:= []) 22 Z Z Z (dT b) f1 (JQ (v:= V Zk) (rs:= []) 23 Z Z Z (dT c) f1 (λ _ _=>JL Z (dT b) Z) (qt (v:= V Zk) 24 Z (λ _ _=>JL Z (dT c) Z) (qn (JK (jt (sr (An Z (rt (bR (tR (tR (bR (tR (rs ?_)))))))))))))))))))))))))
 have au:=F.pk []
 obtain rfl:_=170:=zj hr (N (iN h) (N (iN f) (N (ae (bu m)) (N (iN s) (iJ (N (n) (N (ZJ (λ q=>jq d q a) p) (N (ae o) (N (ip r) (N (ip c) (N (ae z) (iN b))))))))))))
 exact⟨Z,au,Y⟩
 refine JO (rs:= []) 3 Z Z Z (dF c) f1 (JO (rs:= []) 4 Z Z Z (dF c) f1 (JO (rs:= []) 5 Z Z Z (dF c) f1 (JO (rs:= []) 6 Z Z Z (dF c) f1 (JO (rs:= []) 7 Z Z Z (dF c) f1 (JO (rs:= []) 8 Z Z Z (dF c) f1 (JO (rs:= []) 9 Z Z Z (dF c) f1 (JO (rs:= []) 10 Z Z Z (dF c) f1 (KC (rs:= []) 11 Z Z Z f1 (KC (rs:= []) 12 Z Z Z f1 (KC (rs:= []) 13 Z Z Z f1 (KC (rs:= []) 14 Z Z Z f1 (KC (rs:= []) 15 Z Z Z f1 (KC (rs:= []) 16 Z Z Z f1 (KC (rs:= []) 17 Z Z Z f1 (KC (rs:= []) 18 Z Z Z f1 (KC (rs:= []) 19 Z Z Z f1 (KC (rs:= []) 20 Z Z Z f1 (KC (rs:= []) 21 Z Z Z f1 (KC (rs:= []) 22 Z Z Z f1 (JO (rs:= []) 23 Z Z Z (dF c) f1 (qt (v:= V J) 24 Z (λ _ _=>JH Z (dF c) Z) (qn (JK (jf (J8 (bN (JK (JI (fw (vJ (a+1)) (JN (e:=B7.wrap ((a:Int)+1)) yk f3) (Mz Z (B8 ?_)))))))))))))))))))))))))))))))
 have av:=S.pk []
 exact JX (a+1) ⟨Z,Z,Z,Z,ZW⟩ (x.2 ⟨av,Y,N (n) (N (ZJ (λ q=>jq d q a) p) (N (ae o) (N (ip r) (iN c))))⟩) (by show X d - (a+1) < X d - a; omega)
 refine jT (cn r) (sr (An Z (rt (tR (bR (tR (tR (bR (tR (rs ?_))))))))))
 have ax:=R.pk []
 obtain rfl:_=170:=zj hr (N (iN h) (N (iN f) (N (ae (bu m)) (N (iN s) (iJ (N (n) (N (ZJ (λ q=>jq d q a) p) (N (ae o) (eP r)))))))))
 exact⟨Z,ax,Y⟩
 refine jF (dF Z5) (B9 (JV ?_))
 have Z9:jq d d 0=y3 ():=N (n) (N (ZJ (λ q=>jq d q a) (eH (ls:=d) (i:=a) Y)) Z)
 refine JV (J2 (JK (sr (An Z (rt (rs ?_))))))
 have ay:=A.pk []
 obtain rfl:_=0:=zj hr (N (iN h) (N (iN f) (N (ae (bu m)) (N (iN s) (lD Z9)))))
 exact⟨Z,ay,Y⟩
theorem oF (w D j) (H:Own w D w []) (c:j=1):
    Calls v1 67 #[vI j] w (dM λ v w'=>v= .tuple #[Zx o2k.toArray, V Zk]/\Own w D w' []):=by
 subst c
 refine cb C0 ?_
 refine sr ?_
 refine cu [V J, Zj, Zj, Zj, Zj] 149 H ?_
 intro l n d
 refine Ar Z (Kz (Zx o2k.toArray) (Kz (Zx o3k.toArray) (Kz (Zx o4k.toArray) (Kz (Zx o5k.toArray) (Kz (Zx o6k.toArray) (Kz (Zx o1k.toArray) ?_))))))
 refine cu [V J, Zj, Zj, Zj, Zj, V J, Zj, Zj, Zj, Zj, V J, Zj, Zj, Zj, Zj, V J, Zj, Zj, Zj, Zj, V J, Zj, Zj, Zj, Zj, V J, Zj, Zj, Zj, Zj] 188 d ?_
 intro e o f
 refine cO o1k 0 f C1 ?_
 intro p a
 refine nt (JG (sr (Mz Z (Kz (V J) (Mz Z (gw (vI 1) Z (JM Z) (Gz (V J) Z (fw (V J) (JH Z Z Z) (nt (jf (sk (sr (Mz Z (Kz (vP e 5) (La o2k a 0 C2 C4 ?_)))))))))))))))
 have g:=a.pb [0]
 refine cO o2k 0 g C4 ?_
 intro q b
 refine An Z (rt (JY (gH (vs:= [Zx o2k.toArray, V Zk]) Z (bW.cell Z (JW (cs:= o2k) C2 C4 ((b.cls (i:=0) Z).lit (k:=0) (m:=5) Z)) (bW.tmp Z bW.nil)) (M9 Z)) ?_))
 have h:=b.pk []
 exact⟨Z,h⟩
def pX (a:aY):aY:=
 aY.q a.e a.f [] [] [] 0
theorem xD (w D) (a:aY) (g:aY) (H:Own w D w []) (hr:pX a=g):
    Calls v1 99 #[Zx (Zc (aY.J a))] w (dM λ v w'=>v= Zx (Zc (aY.J g))/\Own w D w' []):=by
 refine cb Tryz.func99 ?_
 refine sr ?_
 refine cu (aY.J a) 68 H ?_
 intro c h e
 refine cu [vI 0, Zz ⟨Zc []⟩, Zz ⟨Zc []⟩, Zz ⟨Zc []⟩, Zz ⟨Zc []⟩,vI 0] 68 e ?_
 intro j l b
 refine ns (Kz (vP c 0) (Lz (vI a.e) b 1 B5 (Kz (vP c 1) (Lz (Zz ⟨Zc a.f⟩) b 1 B3 (Kz (Zx #[vI a.e, Zz ⟨Zc a.f⟩, Zz ⟨Zc []⟩, Zz ⟨Zc []⟩, Zz ⟨Zc []⟩,vI 0]) ?_)))))
 refine cO [vI a.e, Zz ⟨Zc a.f⟩, Zz ⟨Zc []⟩, Zz ⟨Zc []⟩, Zz ⟨Zc []⟩,vI 0] 0 b C5 ?_
 intro n d
 refine nt (rt (JY (pV Z Z (JW (cs:= [vI a.e, Zz ⟨Zc a.f⟩, Zz ⟨Zc []⟩, Zz ⟨Zc []⟩, Zz ⟨Zc []⟩,vI 0]) C6 C5 ((d.cls (i:=0) Z).lit (k:=0) (m:=6) Z))) ?_))
 have f:=d.pk []
 obtain rfl:_=aY.q a.e a.f [] [] [] 0:=zj hr Z
 exact⟨Z,f⟩
def nW (b:aY):Int:=
 bnd (dW b.f) λ a=>a
theorem vL (w D) (a:aY) (m) (H:Own w D w []) (hr:nW a=m):
    Calls v1 100 #[Zx (Zc (aY.J a))] w (dM λ v w'=>v=vI m/\Own w D w' []):=by
 unfold nW at hr
 refine cb Tryz.func100 ?_
 refine sr ?_
 refine cu (aY.J a) 68 H ?_
 intro j p f
 refine Ar Z (Kz (vP j 1) (Lz (Zz ⟨Zc a.f⟩) f 0 B3 ?_))
 obtain⟨b,c⟩:∃ q,dW a.f=q:=⟨_,Z⟩
 obtain⟨r,g,n,h,o⟩:=JJ f
 refine cl B6 (jR _ _ a.f b g c) ?_
 rintro _ s ⟨rfl,i,d,e⟩
 have k:=h _ _ i
 replace d: ¬ (b=0)\/(1<=X a.f/\X a.f<=12):=d
 replace e:X a.f < 1\/X a.f > 12\/b=0:=e
 refine An Z (rt (rs ?_))
 have l:=k.pk []
 obtain rfl:=zj hr zq1
 exact⟨Z,l⟩
theorem oG (w D j) (H:Own w D w []) (c:j=2):
    Calls v1 67 #[vI j] w (dM λ v w'=>v= .tuple #[Zx o3k.toArray, V Zk]/\Own w D w' []):=by
 subst c
 refine cb C0 ?_
 refine sr ?_
 refine cu [V J, Zj, Zj, Zj, Zj] 149 H ?_
 intro l n d
 refine Ar Z (Kz (Zx o2k.toArray) (Kz (Zx o3k.toArray) (Kz (Zx o4k.toArray) (Kz (Zx o5k.toArray) (Kz (Zx o6k.toArray) (Kz (Zx o1k.toArray) ?_))))))
 refine cu [V J, Zj, Zj, Zj, Zj, V J, Zj, Zj, Zj, Zj, V J, Zj, Zj, Zj, Zj, V J, Zj, Zj, Zj, Zj, V J, Zj, Zj, Zj, Zj, V J, Zj, Zj, Zj, Zj] 188 d ?_
 intro e o f
 refine cO o1k 0 f C1 ?_
 intro p a
 refine nt (JG (sr (Mz Z (Kz (V J) (Mz Z (gw (vI 2) Z (JM Z) (Gz (V J) Z (fw (V J) (JH Z Z Z) (nt (jf (sk (sr (Mz Z (Kz (vP e 10) (La o3k a 0 C2 C4 ?_)))))))))))))))
 have g:=a.pb [0]
 refine cO o3k 0 g C4 ?_
 intro q b
 refine An Z (rt (JY (gH (vs:= [Zx o3k.toArray, V Zk]) Z (bW.cell Z (JW (cs:= o3k) C2 C4 ((b.cls (i:=0) Z).lit (k:=0) (m:=5) Z)) (bW.tmp Z bW.nil)) (M9 Z)) ?_))
 have h:=b.pk []
 exact⟨Z,h⟩
def uk (a:aY):aY:=
 aY.q a.e a.f a.g [] [] 0
theorem Bb (w D) (a:aY) (g:aY) (H:Own w D w []) (hr:uk a=g):
    Calls v1 103 #[Zx (Zc (aY.J a))] w (dM λ v w'=>v= Zx (Zc (aY.J g))/\Own w D w' []):=by
 refine cb Tryz.func103 ?_
 refine sr ?_
 refine cu (aY.J a) 68 H ?_
 intro c h e
 refine cu [vI 0, Zz ⟨Zc []⟩, Zz ⟨Zc []⟩, Zz ⟨Zc []⟩, Zz ⟨Zc []⟩,vI 0] 68 e ?_
 intro j l b
 refine ns (Kz (vP c 0) (Lz (vI a.e) b 1 B5 (Kz (vP c 1) (Lz (Zz ⟨Zc a.f⟩) b 1 B3 (Kz (vP c 2) (Lz (Zz ⟨Zc a.g⟩) b 1 B3 (Kz (Zx #[vI a.e, Zz ⟨Zc a.f⟩, Zz ⟨Zc a.g⟩, Zz ⟨Zc []⟩, Zz ⟨Zc []⟩,vI 0]) ?_)))))))
 refine cO [vI a.e, Zz ⟨Zc a.f⟩, Zz ⟨Zc a.g⟩, Zz ⟨Zc []⟩, Zz ⟨Zc []⟩,vI 0] 0 b C5 ?_
 intro n d
 refine nt (rt (JY (pV Z Z (JW (cs:= [vI a.e, Zz ⟨Zc a.f⟩, Zz ⟨Zc a.g⟩, Zz ⟨Zc []⟩, Zz ⟨Zc []⟩,vI 0]) C6 C5 ((d.cls (i:=0) Z).lit (k:=0) (m:=6) Z))) ?_))
 have f:=d.pk []
 obtain rfl:_=aY.q a.e a.f a.g [] [] 0:=zj hr Z
 exact⟨Z,f⟩
def lI (a:List UInt8):Int:=
 if((X a:Nat):Int) > 16 then 2 else 0
theorem uF (w D b e) (H:Own w D w []) (hr:lI b=e):
    Calls v1 161 #[Zz ⟨Zc b⟩] w (dM λ v w'=>v=vI e/\Own w D w' []):=by
 unfold lI at hr
 refine cb Tryz.func161 ?_
 refine sr (An Z (JG (sr (Mz Z (Kz (vJ (X b)) (Kz (Zb ((X b:Int) > 16)) (nt ?_)))))))
 by_cases a:(X b:Int) > 16
 refine jT (dT a) (sr (An Z (rt (tR (rs ?_)))))
 have c:=H.pk []
 obtain rfl:=zj hr zq1
 exact⟨Z,c⟩
 refine jF (dF a) (sk (sr (An Z (rt (rs ?_)))))
 have d:=H.pk []
 obtain rfl:=zj hr zq1
 exact⟨Z,d⟩
def pY (c:aY):Int:=
 bnd (dW c.f) λ a=>if a=0 then bnd (lI c.g) λ b=>b else a
theorem zz (w D) (b:aY) (y) (H:Own w D w []) (hr:pY b=y):
    Calls v1 104 #[Zx (Zc (aY.J b))] w (dM λ v w'=>v=vI y/\Own w D w' []):=by
 unfold pY at hr
 refine cb Tryz.func104 ?_
 refine sr ?_
 refine cu (aY.J b) 68 H ?_
 intro j E k
 refine An Z (JG (sr (Kz (vP j 1) (Lz (Zz ⟨Zc b.f⟩) k 0 B3 ?_))))
 obtain⟨a,c⟩:∃ q,dW b.f=q:=⟨_,Z⟩
 obtain⟨F,l,z,m,A⟩:=JJ k
 refine cl B6 (jR _ _ b.f a l c) ?_
 rintro _ G ⟨rfl,n,f,g⟩
 have i:=m _ _ n
 replace f: ¬ (a=0)\/(1<=X b.f/\X b.f<=12):=f
 replace g:X b.f < 1\/X b.f > 12\/a=0:=g
 refine Ar Z (Mz Z (fw (Zb (¬ (a=0))) (JZ (e:= !(Zy (a=0))) yk ZY) (nt ?_)))
 by_cases d:a=0
 refine jF (dF (Nc d)) (sk (sr (Kz (vP j 2) (Lz (Zz ⟨Zc b.g⟩) i 0 B3 ?_))))
 obtain⟨o,h⟩:∃ q,lI b.g=q:=⟨_,Z⟩
 obtain⟨I,p,B,r,C⟩:=JJ i
 refine cl Tryz.call161 (uF _ _ b.g o p h) ?_
 rintro _ Z7 ⟨rfl,s⟩
 have t:=r _ _ s
 refine An Z (rt (rs ?_))
 have u:=t.pk []
 obtain rfl:=zj hr zq3
 exact⟨Z,u⟩
 refine jT (dT d) (sr (Mz Z (An Z (rt (tR (rs ?_))))))
 have x:=i.pk []
 obtain rfl:=zj hr zq2
 exact⟨Z,x⟩
theorem oH (w D j) (H:Own w D w []) (c:j=3):
    Calls v1 67 #[vI j] w (dM λ v w'=>v= .tuple #[Zx o4k.toArray, V Zk]/\Own w D w' []):=by
 subst c
 refine cb C0 ?_
 refine sr ?_
 refine cu [V J, Zj, Zj, Zj, Zj] 149 H ?_
 intro l n d
 refine Ar Z (Kz (Zx o2k.toArray) (Kz (Zx o3k.toArray) (Kz (Zx o4k.toArray) (Kz (Zx o5k.toArray) (Kz (Zx o6k.toArray) (Kz (Zx o1k.toArray) ?_))))))
 refine cu [V J, Zj, Zj, Zj, Zj, V J, Zj, Zj, Zj, Zj, V J, Zj, Zj, Zj, Zj, V J, Zj, Zj, Zj, Zj, V J, Zj, Zj, Zj, Zj, V J, Zj, Zj, Zj, Zj] 188 d ?_
 intro e o f
 refine cO o1k 0 f C1 ?_
 intro p a
 refine nt (JG (sr (Mz Z (Kz (V J) (Mz Z (gw (vI 3) Z (JM Z) (Gz (V J) Z (fw (V J) (JH Z Z Z) (nt (jf (sk (sr (Mz Z (Kz (vP e 15) (La o4k a 0 C2 C4 ?_)))))))))))))))
 have g:=a.pb [0]
 refine cO o4k 0 g C4 ?_
 intro q b
 refine An Z (rt (JY (gH (vs:= [Zx o4k.toArray, V Zk]) Z (bW.cell Z (JW (cs:= o4k) C2 C4 ((b.cls (i:=0) Z).lit (k:=0) (m:=5) Z)) (bW.tmp Z bW.nil)) (M9 Z)) ?_))
 have h:=b.pk []
 exact⟨Z,h⟩
theorem oI (w D j) (H:Own w D w []) (c:j=4):
    Calls v1 67 #[vI j] w (dM λ v w'=>v= .tuple #[Zx o5k.toArray, V Zk]/\Own w D w' []):=by
 subst c
 refine cb C0 ?_
 refine sr ?_
 refine cu [V J, Zj, Zj, Zj, Zj] 149 H ?_
 intro l n d
 refine Ar Z (Kz (Zx o2k.toArray) (Kz (Zx o3k.toArray) (Kz (Zx o4k.toArray) (Kz (Zx o5k.toArray) (Kz (Zx o6k.toArray) (Kz (Zx o1k.toArray) ?_))))))
 refine cu [V J, Zj, Zj, Zj, Zj, V J, Zj, Zj, Zj, Zj, V J, Zj, Zj, Zj, Zj, V J, Zj, Zj, Zj, Zj, V J, Zj, Zj, Zj, Zj, V J, Zj, Zj, Zj, Zj] 188 d ?_
 intro e o f
 refine cO o1k 0 f C1 ?_
 intro p a
 refine nt (JG (sr (Mz Z (Kz (V J) (Mz Z (gw (vI 4) Z (JM Z) (Gz (V J) Z (fw (V J) (JH Z Z Z) (nt (jf (sk (sr (Mz Z (Kz (vP e 20) (La o5k a 0 C2 C4 ?_)))))))))))))))
 have g:=a.pb [0]
 refine cO o5k 0 g C4 ?_
 intro q b
 refine An Z (rt (JY (gH (vs:= [Zx o5k.toArray, V Zk]) Z (bW.cell Z (JW (cs:= o5k) C2 C4 ((b.cls (i:=0) Z).lit (k:=0) (m:=5) Z)) (bW.tmp Z bW.nil)) (M9 Z)) ?_))
 have h:=b.pk []
 exact⟨Z,h⟩
def ul (a:aY):aY:=
 aY.q a.e [] [] a.a a.b a.j
theorem Bc (w D) (a:aY) (g:aY) (H:Own w D w []) (hr:ul a=g):
    Calls v1 107 #[Zx (Zc (aY.J a))] w (dM λ v w'=>v= Zx (Zc (aY.J g))/\Own w D w' []):=by
 refine cb Tryz.func107 ?_
 refine sr ?_
 refine cu (aY.J a) 68 H ?_
 intro c h e
 refine cu [vI 0, Zz ⟨Zc []⟩, Zz ⟨Zc []⟩, Zz ⟨Zc []⟩, Zz ⟨Zc []⟩,vI 0] 68 e ?_
 intro j l b
 refine ns (Kz (vP c 0) (Lz (vI a.e) b 1 B5 (Kz (vP c 3) (Lz (Zz ⟨Zc a.a⟩) b 1 B3 (Kz (vP c 4) (Lz (Zz ⟨Zc a.b⟩) b 1 B3 (Kz (vP c 5) (Lz (vI a.j) b 1 B5 (Kz (Zx #[vI a.e, Zz ⟨Zc []⟩, Zz ⟨Zc []⟩, Zz ⟨Zc a.a⟩, Zz ⟨Zc a.b⟩,vI a.j]) ?_)))))))))
 refine cO [vI a.e, Zz ⟨Zc []⟩, Zz ⟨Zc []⟩, Zz ⟨Zc a.a⟩, Zz ⟨Zc a.b⟩,vI a.j] 0 b C5 ?_
 intro n d
 refine nt (rt (JY (pV Z Z (JW (cs:= [vI a.e, Zz ⟨Zc []⟩, Zz ⟨Zc []⟩, Zz ⟨Zc a.a⟩, Zz ⟨Zc a.b⟩,vI a.j]) C6 C5 ((d.cls (i:=0) Z).lit (k:=0) (m:=6) Z))) ?_))
 have f:=d.pk []
 obtain rfl:_=aY.q a.e [] [] a.a a.b a.j:=zj hr Z
 exact⟨Z,f⟩
def fQ (a:aY):au:=
 au.q a.a a.b
theorem lS (w D) (a:aY) (g:au) (H:Own w D w []) (hr:fQ a=g):
    Calls v1 109 #[Zx (Zc (aY.J a))] w (dM λ v w'=>v= Zx (Zc (au.J g))/\Own w D w' []):=by
 refine cb Tryz.func109 ?_
 refine sr ?_
 refine cu (aY.J a) 68 H ?_
 intro c h e
 refine cu [Zz ⟨Zc []⟩, Zz ⟨Zc []⟩] 37 e ?_
 intro j l b
 refine ns (Kz (vP c 3) (Lz (Zz ⟨Zc a.a⟩) b 1 B3 (Kz (vP c 4) (Lz (Zz ⟨Zc a.b⟩) b 1 B3 (Kz (Zx #[Zz ⟨Zc a.a⟩, Zz ⟨Zc a.b⟩]) ?_)))))
 refine cO [Zz ⟨Zc a.a⟩, Zz ⟨Zc a.b⟩] 0 b C7 ?_
 intro n d
 refine nt (rt (JY (pV Z Z (JW (cs:= [Zz ⟨Zc a.a⟩, Zz ⟨Zc a.b⟩]) D0 C7 ((d.cls (i:=0) Z).lit (k:=0) (m:=2) Z))) ?_))
 have f:=d.pk []
 obtain rfl:_=au.q a.a a.b:=zj hr Z
 exact⟨Z,f⟩
def dR (a:au):Int:=
 if a.a≠[] then bnd (dW a.a) λ b=>if b=0 then if a.b≠[] then bnd (dW a.b) λ c=>if c=0 then if a.b<=a.a then 21 else 0 else 21 else 0 else 21 else if a.b≠[] then bnd (dW a.b) λ d=>if d=0 then if a.b<=a.a then 21 else 0 else 21 else 0
theorem jr (w D) (a:au) (Z0) (H:Own w D w []) (hr:dR a=Z0):
    Calls v1 65 #[Zx (Zc (au.J a))] w (dM λ v w'=>v=vI Z0/\Own w D w' []):=by
 unfold dR at hr
 refine cb Tryz.func65 ?_
 refine sr ?_
 refine cu (au.J a) 37 H ?_
 intro h ak k
 refine An Z (JG (sr (Kz (vP h 0) (Lz (Zz ⟨Zc a.a⟩) k 0 B3 (fw (Zb (a.a≠[])) (Km Z Z) (Mz Z ?_))))))
 by_cases d:a.a≠[]
 refine Gz (vP h 0) (dT d) (Gl (Zz ⟨Zc a.a⟩) (dT d) k 0 B3 ?_)
 obtain⟨l,j⟩:∃ q,dW a.a=q:=⟨_,Z⟩
 obtain⟨av,G,aa,I,af⟩:=JJ k
 refine oC (dT d) B6 (jR _ _ a.a l G j) ?_
 rintro _ ax ⟨rfl,Z7,z,A⟩
 have s:=I _ _ Z7
 replace z: ¬ (l=0)\/(1<=X a.a/\X a.a<=12):=z
 replace A:X a.a < 1\/X a.a > 12\/l=0:=A
 refine gw (Zb (¬ (l=0))) (dT d) (JZ (e:= !(Zy (l=0))) yk ZY) (fw (Zb (¬ (l=0))) (JL Z (dT d) Z) (nt ?_))
 by_cases m:l=0
 refine jF (dF (Nc m)) (sk (JG (sr (Kz (vP h 1) (Lz (Zz ⟨Zc a.b⟩) s 0 B3 (fw (Zb (a.b≠[])) (Km Z Z) (Mz Z ?_)))))))
 by_cases b:a.b≠[]
 refine Gz (vP h 1) (dT b) (Gl (Zz ⟨Zc a.b⟩) (dT b) s 0 B3 ?_)
 obtain⟨n,p⟩:∃ q,dW a.b=q:=⟨_,Z⟩
 obtain⟨ay,K,ag,L,ah⟩:=JJ s
 refine oC (dT b) B6 (jR _ _ a.b n K p) ?_
 rintro _ az ⟨rfl,M,B,C⟩
 have t:=L _ _ M
 replace B: ¬ (n=0)\/(1<=X a.b/\X a.b<=12):=B
 replace C:X a.b < 1\/X a.b > 12\/n=0:=C
 refine gw (Zb (¬ (n=0))) (dT b) (JZ (e:= !(Zy (n=0))) yk ZY) (gw (Zb (¬ (n=0))) (dT b) (JM Z) ?_)
 by_cases f:n=0
 refine gw (vP h 1) (dF (Nc f)) yk (gw (Zz ⟨Zc a.b⟩) (dF (Nc f)) (JS Z (bT.one B3 (Kk (t.cls (i:=0) Z) Z))) (gw (vP h 0) (dF (Nc f)) yk (gw (Zz ⟨Zc a.a⟩) (dF (Nc f)) (JS Z (bT.one B3 (Kk (t.cls (i:=0) Z) Z))) (gw (Zb (a.b<=a.a)) (dF (Nc f)) (JZ (e:=Op.bytesLess a.b a.a || decide (a.b=a.a)) (K9 Z Z) (Bl _ _)) (gw (Zb (a.b<=a.a)) (dT b) (JH Z (dF (Nc f)) Z) (fw (Zb (a.b<=a.a)) (JL Z (dT b) Z) (nt ?_)))))))
 by_cases x:a.b<=a.a
 refine jT (dT x) (sr (An Z (rt (tR (rs ?_)))))
 have Q:=t.pk []
 obtain rfl:=zj hr zq7
 exact⟨Z,Q⟩
 refine jF (dF x) (sk (sr (An Z (rt (rs ?_)))))
 have R:=t.pk []
 obtain rfl:=zj hr zq7
 exact⟨Z,R⟩
 refine T (dT f) (T (dT f) (T (dT f) (T (dT f) (T (dT f) (gw (V Zk) (dT b) (JL Z (dT f) Z) (fw (V Zk) (JL Z (dT b) Z) (nt (jt (sr (An Z (rt (tR (rs ?_)))))))))))))
 have S:=t.pk []
 obtain rfl:=zj hr zq6
 exact⟨Z,S⟩
 refine T (dF b) (T (dF b) (T (dF b) (T (dF b) (T (dF b) (JR Z Z Z (JR Z Z Z (JR Z Z Z (JR Z Z Z (JR Z Z Z (T (dF b) (fw (V J) (JH Z (dF b) Z) (nt (jf (sk (sr (An Z (rt (rs ?_))))))))))))))))))
 have Z8:=s.pk []
 obtain rfl:=zj hr zq4
 exact⟨Z,Z8⟩
 refine jT (dT m) (sr (An Z (rt (tR (rs ?_)))))
 have Z4:=s.pk []
 obtain rfl:=zj hr zq3
 exact⟨Z,Z4⟩
 refine T (dF d) (T (dF d) (T (dF d) (T (dF d) (fw (V J) (JH Z (dF d) Z) (nt (jf (sk (JG (sr (Kz (vP h 1) (Lz (Zz ⟨Zc a.b⟩) k 0 B3 (fw (Zb (a.b≠[])) (Km Z Z) (Mz Z ?_)))))))))))))
 by_cases c:a.b≠[]
 refine Gz (vP h 1) (dT c) (Gl (Zz ⟨Zc a.b⟩) (dT c) k 0 B3 ?_)
 obtain⟨o,r⟩:∃ q,dW a.b=q:=⟨_,Z⟩
 obtain⟨aA,Z5,ai,Z6,aj⟩:=JJ k
 refine oC (dT c) B6 (jR _ _ a.b o Z5 r) ?_
 rintro _ aB ⟨rfl,P,E,F⟩
 have u:=Z6 _ _ P
 replace E: ¬ (o=0)\/(1<=X a.b/\X a.b<=12):=E
 replace F:X a.b < 1\/X a.b > 12\/o=0:=F
 refine gw (Zb (¬ (o=0))) (dT c) (JZ (e:= !(Zy (o=0))) yk ZY) (gw (Zb (¬ (o=0))) (dT c) (JM Z) ?_)
 by_cases g:o=0
 refine gw (vP h 1) (dF (Nc g)) yk (gw (Zz ⟨Zc a.b⟩) (dF (Nc g)) (JS Z (bT.one B3 (Kk (u.cls (i:=0) Z) Z))) (gw (vP h 0) (dF (Nc g)) yk (gw (Zz ⟨Zc a.a⟩) (dF (Nc g)) (JS Z (bT.one B3 (Kk (u.cls (i:=0) Z) Z))) (gw (Zb (a.b<=a.a)) (dF (Nc g)) (JZ (e:=Op.bytesLess a.b a.a || decide (a.b=a.a)) (K9 Z Z) (Bl _ _)) (gw (Zb (a.b<=a.a)) (dT c) (JH Z (dF (Nc g)) Z) (fw (Zb (a.b<=a.a)) (JL Z (dT c) Z) (nt ?_)))))))
 by_cases y:a.b<=a.a
 refine jT (dT y) (sr (An Z (rt (tR (rs ?_)))))
 have Z3:=u.pk []
 obtain rfl:=zj hr zq5
 exact⟨Z,Z3⟩
 refine jF (dF y) (sk (sr (An Z (rt (rs ?_)))))
 have Z9:=u.pk []
 obtain rfl:=zj hr zq5
 exact⟨Z,Z9⟩
 refine T (dT g) (T (dT g) (T (dT g) (T (dT g) (T (dT g) (gw (V Zk) (dT c) (JL Z (dT g) Z) (fw (V Zk) (JL Z (dT c) Z) (nt (jt (sr (An Z (rt (tR (rs ?_)))))))))))))
 have Z1:=u.pk []
 obtain rfl:=zj hr zq4
 exact⟨Z,Z1⟩
 refine T (dF c) (T (dF c) (T (dF c) (T (dF c) (T (dF c) (JR Z Z Z (JR Z Z Z (JR Z Z Z (JR Z Z Z (JR Z Z Z (T (dF c) (fw (V J) (JH Z (dF c) Z) (nt (jf (sk (sr (An Z (rt (rs ?_))))))))))))))))))
 have Z2:=k.pk []
 obtain rfl:=zj hr zq2
 exact⟨Z,Z2⟩
def mM (c:aY):Int:=
 bnd (fQ c) λ a=>bnd (dR a) λ b=>b
theorem uG (w D) (d:aY) (p) (H:Own w D w []) (hr:mM d=p):
    Calls v1 112 #[Zx (Zc (aY.J d))] w (dM λ v w'=>v=vI p/\Own w D w' []):=by
 unfold mM at hr
 refine cb Tryz.func112 ?_
 refine sr ?_
 refine cu (aY.J d) 68 H ?_
 intro x y e
 refine Ar Z (La (aY.J d) e 0 C6 C5 ?_)
 obtain⟨c,a⟩:∃ q,fQ d=q:=⟨_,Z⟩
 obtain⟨z,f,r,g,s⟩:=JJ e
 refine cl Tryz.call109 (lS _ _ d c f a) ?_
 rintro _ A ⟨rfl,h⟩
 have m:=g _ _ h
 obtain⟨i,b⟩:∃ q,dR c=q:=⟨_,Z⟩
 obtain⟨B,j,t,k,u⟩:=JJ m
 refine cl D1 (jr _ _ c i j b) ?_
 rintro _ C ⟨rfl,l⟩
 have n:=k _ _ l
 refine An Z (rt (rs ?_))
 have o:=n.pk []
 obtain rfl:=zj hr zq2
 exact⟨Z,o⟩
def p8 (b:aY):Int:=
 bnd (mM b) λ a=>if a=0 then if b.j < 1 then 1 else if b.j > 4 then 1 else 0 else a
theorem zA (w D) (c:aY) (s) (H:Own w D w []) (hr:p8 c=s):
    Calls v1 108 #[Zx (Zc (aY.J c))] w (dM λ v w'=>v=vI s/\Own w D w' []):=by
 unfold p8 at hr
 refine cb Tryz.func108 ?_
 refine sr ?_
 refine cu (aY.J c) 68 H ?_
 intro i x j
 refine An Z (JG (sr (La (aY.J c) j 0 C6 C5 ?_)))
 obtain⟨g,b⟩:∃ q,mM c=q:=⟨_,Z⟩
 obtain⟨y,k,t,l,u⟩:=JJ j
 refine cl Tryz.call112 (uG _ _ c g k b) ?_
 rintro _ z ⟨rfl,m⟩
 have d:=l _ _ m
 refine Ar Z (Mz Z (fw (Zb (¬ (g=0))) (JZ (e:= !(Zy (g=0))) yk ZY) (nt ?_)))
 by_cases f:g=0
 refine jF (dF (Nc f)) (sk (JG (sr (Kz (vP i 5) (Lz (vI c.j) d 0 B5 (Kz (Zb (c.j < 1)) (Mz Z ?_)))))))
 by_cases a:c.j < 1
 refine T (dT a) (T (dT a) (T (dT a) (fw (V Zk) (JL Z (dT a) Z) (nt (jt (sr (An Z (rt (tR (rs ?_))))))))))
 have n:=d.pk []
 obtain rfl:=zj hr zq3
 exact⟨Z,n⟩
 refine Gz (vP i 5) (dF a) (Gl (vI c.j) (dF a) d 0 B5 (Gz (Zb (c.j > 4)) (dF a) (fw (Zb (c.j > 4)) (JH Z (dF a) Z) (nt ?_))))
 by_cases h:c.j > 4
 refine jT (dT h) (sr (An Z (rt (tR (rs ?_)))))
 have o:=d.pk []
 obtain rfl:=zj hr zq4
 exact⟨Z,o⟩
 refine jF (dF h) (sk (sr (An Z (rt (rs ?_)))))
 have p:=d.pk []
 obtain rfl:=zj hr zq4
 exact⟨Z,p⟩
 refine jT (dT f) (sr (Mz Z (An Z (rt (tR (rs ?_))))))
 have r:=d.pk []
 obtain rfl:=zj hr zq2
 exact⟨Z,r⟩
theorem oJ (w D j) (H:Own w D w []) (c:j=5):
    Calls v1 67 #[vI j] w (dM λ v w'=>v= .tuple #[Zx o6k.toArray, V Zk]/\Own w D w' []):=by
 subst c
 refine cb C0 ?_
 refine sr ?_
 refine cu [V J, Zj, Zj, Zj, Zj] 149 H ?_
 intro l n d
 refine Ar Z (Kz (Zx o2k.toArray) (Kz (Zx o3k.toArray) (Kz (Zx o4k.toArray) (Kz (Zx o5k.toArray) (Kz (Zx o6k.toArray) (Kz (Zx o1k.toArray) ?_))))))
 refine cu [V J, Zj, Zj, Zj, Zj, V J, Zj, Zj, Zj, Zj, V J, Zj, Zj, Zj, Zj, V J, Zj, Zj, Zj, Zj, V J, Zj, Zj, Zj, Zj, V J, Zj, Zj, Zj, Zj] 188 d ?_
 intro e o f
 refine cO o1k 0 f C1 ?_
 intro p a
 refine nt (JG (sr (Mz Z (Kz (V J) (Mz Z (gw (vI 5) Z (JM Z) (Gz (V J) Z (fw (V J) (JH Z Z Z) (nt (jf (sk (sr (Mz Z (Kz (vP e 25) (La o6k a 0 C2 C4 ?_)))))))))))))))
 have g:=a.pb [0]
 refine cO o6k 0 g C4 ?_
 intro q b
 refine An Z (rt (JY (gH (vs:= [Zx o6k.toArray, V Zk]) Z (bW.cell Z (JW (cs:= o6k) C2 C4 ((b.cls (i:=0) Z).lit (k:=0) (m:=5) Z)) (bW.tmp Z bW.nil)) (M9 Z)) ?_))
 have h:=b.pk []
 exact⟨Z,h⟩
def sW (a:aY):aY:=
 aY.q a.e [] [] a.a a.b 0
theorem Ah (w D) (a:aY) (g:aY) (H:Own w D w []) (hr:sW a=g):
    Calls v1 111 #[Zx (Zc (aY.J a))] w (dM λ v w'=>v= Zx (Zc (aY.J g))/\Own w D w' []):=by
 refine cb Tryz.func111 ?_
 refine sr ?_
 refine cu (aY.J a) 68 H ?_
 intro c h e
 refine cu [vI 0, Zz ⟨Zc []⟩, Zz ⟨Zc []⟩, Zz ⟨Zc []⟩, Zz ⟨Zc []⟩,vI 0] 68 e ?_
 intro j l b
 refine ns (Kz (vP c 0) (Lz (vI a.e) b 1 B5 (Kz (vP c 3) (Lz (Zz ⟨Zc a.a⟩) b 1 B3 (Kz (vP c 4) (Lz (Zz ⟨Zc a.b⟩) b 1 B3 (Kz (Zx #[vI a.e, Zz ⟨Zc []⟩, Zz ⟨Zc []⟩, Zz ⟨Zc a.a⟩, Zz ⟨Zc a.b⟩,vI 0]) ?_)))))))
 refine cO [vI a.e, Zz ⟨Zc []⟩, Zz ⟨Zc []⟩, Zz ⟨Zc a.a⟩, Zz ⟨Zc a.b⟩,vI 0] 0 b C5 ?_
 intro n d
 refine nt (rt (JY (pV Z Z (JW (cs:= [vI a.e, Zz ⟨Zc []⟩, Zz ⟨Zc []⟩, Zz ⟨Zc a.a⟩, Zz ⟨Zc a.b⟩,vI 0]) C6 C5 ((d.cls (i:=0) Z).lit (k:=0) (m:=6) Z))) ?_))
 have f:=d.pk []
 obtain rfl:_=aY.q a.e [] [] a.a a.b 0:=zj hr Z
 exact⟨Z,f⟩
theorem uU (w D b) (H:Own w D w []) (p: ¬ (b=1)) (q: ¬ (b=2)) (r: ¬ (b=3)) (s: ¬ (b=4)) (t: ¬ (b=5)):
    Calls v1 67 #[vI b] w (dM λ v w'=>v= .tuple #[Zx #[V J, Zj, Zj, Zj, Zj], V J]/\Own w D w' []):=by
 refine cb C0 ?_
 refine sr ?_
 refine cu [V J, Zj, Zj, Zj, Zj] 149 H ?_
 intro u x g
 refine Ar Z (Kz (Zx o2k.toArray) (Kz (Zx o3k.toArray) (Kz (Zx o4k.toArray) (Kz (Zx o5k.toArray) (Kz (Zx o6k.toArray) (Kz (Zx o1k.toArray) ?_))))))
 refine cu [V J, Zj, Zj, Zj, Zj, V J, Zj, Zj, Zj, Zj, V J, Zj, Zj, Zj, Zj, V J, Zj, Zj, Zj, Zj, V J, Zj, Zj, Zj, Zj, V J, Zj, Zj, Zj, Zj] 188 g ?_
 intro y z h
 refine cO o1k 0 h C1 ?_
 intro A c
 refine nt (JG (sr (Mz Z (Kz (Zb (b<=0)) (Mz Z ?_)))))
 by_cases a:b<=0
 refine T (dT a) (T (dT a) (fw (V Zk) (JL Z (dT a) Z) (nt (jt (sr (Kz (Zx #[V J, Zj, Zj, Zj, Zj]) ?_))))))
 have j:=c.pb [0]
 refine cO [V J, Zj, Zj, Zj, Zj] 0 j C4 ?_
 intro B d
 refine An Z (rt (tR (JY (gH (vs:= [Zx #[V J, Zj, Zj, Zj, Zj], V J]) Z (bW.cell Z (JW (cs:= [V J, Zj, Zj, Zj, Zj]) C2 C4 ((d.cls (i:=0) Z).lit (k:=0) (m:=5) Z)) (bW.tmp Z bW.nil)) (M9 Z)) ?_)))
 have l:=d.pk []
 exact⟨Z,l⟩
 refine gw (vI b) (dF a) (JM Z) (Gz (Zb (b >= 6)) (dF a) (fw (Zb (b >= 6)) (JH Z (dF a) Z) (nt ?_)))
 have e:(Zy (b >= 6))=Zk:=(dT Y)
 refine jT e (sr (Kz (Zx #[V J, Zj, Zj, Zj, Zj]) ?_))
 have n:=c.pb [0]
 refine cO [V J, Zj, Zj, Zj, Zj] 0 n C4 ?_
 intro C f
 refine An Z (rt (tR (JY (gH (vs:= [Zx #[V J, Zj, Zj, Zj, Zj], V J]) Z (bW.cell Z (JW (cs:= [V J, Zj, Zj, Zj, Zj]) C2 C4 ((f.cls (i:=0) Z).lit (k:=0) (m:=5) Z)) (bW.tmp Z bW.nil)) (M9 Z)) ?_)))
 have o:=f.pk []
 exact⟨Z,o⟩
def dA (a:aY):Int:=
 if a.e=1 then bnd (pX a) λ e=>if(e.e=a.e)/\(e.f=a.f)/\(e.g=a.g)/\(e.a=a.a)/\(e.b=a.b)/\(e.j=a.j) then bnd (nW a) λ j=>j else 40 else if a.e=2 then bnd (uk a) λ f=>if(f.e=a.e)/\(f.f=a.f)/\(f.g=a.g)/\(f.a=a.a)/\(f.b=a.b)/\(f.j=a.j) then bnd (pY a) λ k=>k else 40 else if a.e=3 then bnd (pX a) λ b=>if(b.e=a.e)/\(b.f=a.f)/\(b.g=a.g)/\(b.a=a.a)/\(b.b=a.b)/\(b.j=a.j) then bnd (nW a) λ g=>g else 40 else if a.e=4 then bnd (ul a) λ c=>if(c.e=a.e)/\(c.f=a.f)/\(c.g=a.g)/\(c.a=a.a)/\(c.b=a.b)/\(c.j=a.j) then bnd (p8 a) λ h=>h else 40 else if a.e=5 then bnd (sW a) λ d=>if(d.e=a.e)/\(d.f=a.f)/\(d.g=a.g)/\(d.a=a.a)/\(d.b=a.b)/\(d.j=a.j) then bnd (mM a) λ i=>i else 40 else 40
theorem nO (w D) (a:aY) (r0) (H:Own w D w []) (hr:dA a=r0):
    Calls v1 63 #[Zx (Zc (aY.J a))] w (dM λ v w'=>v=vI r0/\Own w D w' []/\(¬ (r0=0)\/(1<=a.e/\a.e<=5))):=by
 unfold dA at hr
 refine cb Tryz.func63 ?_
 refine sr ?_
 refine cu (aY.J a) 68 H ?_
 intro dx gM t
 refine Ar Z (Kz (vP dx 0) (Lz (vI a.e) t 0 B5 ?_))
 by_cases l:a.e=1
 obtain⟨gN,aR,eH,aS,eO⟩:=JJ t
 refine cl D2 (oF _ _ a.e aR (of_decide_eq_true (dT l))) ?_
 rintro _ gP ⟨rfl,aT⟩
 have dz:=aS _ _ aT
 refine Mz Z (Kz (Zx o2k.toArray) (Kz (V Zk) ?_))
 refine cu [V J, Zj, Zj, Zj, Zj] 149 dz ?_
 intro aU gQ dB
 refine cO o2k 0 dB C4 ?_
 intro gT dC
 refine An Z (JG (JG ?_))
 refine pK [] (JP (JP J3)) dC ?_
 intro gU dD
 refine qv 0 Z Z (qk (V J) 1 Z (qv 2 Z Z (JQ (v:=vP aU 1) (rs:= []) 3 Z Z Z Z f1 (λ _ _=>yk) (JQ (v:= .func (.func 99) #[] #[]) (rs:= []) 4 Z Z Z Z f1 (λ _ ⟨_,h⟩=>JS Z (bT.one D3 (Kk (h.cls (i:=0) Z) Z))) (JQ (v:= Zx (Zc (aY.J a))) (rs:= []) 5 Z Z Z Z f1 (λ _ ⟨_,h⟩=>JS Z (JW (cs:=(aY.J a)) C6 C5 ((h.cls (i:=1) Z).lit (k:=0) (m:=6) Z))) (JQ (v:= Zx (Zc (aY.J a))) (rs:= []) 7 Z Z Z Z f1 (λ _ ⟨_,h⟩=>JS Z (JW (cs:=(aY.J a)) C6 C5 ((h.cls (i:=1) Z).lit (k:=0) (m:=6) Z))) ?_))))))
 obtain⟨f,F⟩:∃ q,pX a=q:=⟨_,Z⟩
 obtain⟨gV,aV,eP,aW,eQ⟩:=JJ dD
 refine Ky 6 Z Z Z Z f1 (Kh Tryz.call99 Z Z (xD _ _ a f aV F) ?_)
 rintro _ gW ⟨rfl,aX⟩
 have G:=aW _ _ aX
 refine⟨.inr ⟨_,G⟩, ?_⟩
 refine JQ (v:= Zb (¬ ((f.e=a.e)/\(f.f=a.f)/\(f.g=a.g)/\(f.a=a.a)/\(f.b=a.b)/\(f.j=a.j)))) (rs:= []) 8 Z Z Z Z f1 (λ _ _=>JZ (e:= !(Zy ((f.e=a.e)/\(f.f=a.f)/\(f.g=a.g)/\(f.a=a.a)/\(f.b=a.b)/\(f.j=a.j)))) (KD Z Z f1 Z (gB.struct y0 f1 (Kv (fG.cons (u:=vI f.e) (v:=vI a.e) f6 Za Za (gB.int v8) (fG.cons (u:= Zz ⟨Zc f.f⟩) (v:= Zz ⟨Zc a.f⟩) f6 Za Za (gB.string v7) (fG.cons (u:= Zz ⟨Zc f.g⟩) (v:= Zz ⟨Zc a.g⟩) f6 Za Za (gB.string v7) (fG.cons (u:= Zz ⟨Zc f.a⟩) (v:= Zz ⟨Zc a.a⟩) f6 Za Za (gB.string v7) (fG.cons (u:= Zz ⟨Zc f.b⟩) (v:= Zz ⟨Zc a.b⟩) f6 Za Za (gB.string v7) (fG.cons (u:=vI f.j) (v:=vI a.j) f6 Za Za (gB.int v8) (fG.nil.up (Nb _)))))))) ((ZJ (Zy (f.e=a.e) && ·) ((ZJ (Zy (f.f=a.f) && ·) ((ZJ (Zy (f.g=a.g) && ·) ((ZJ (Zy (f.a=a.a) && ·) ((ZJ (Zy (f.b=a.b) && ·) kF).trans fI)).trans fI)).trans fI)).trans fI)).trans fI)))) ZY) (qt (v:= Zb (¬ ((f.e=a.e)/\(f.f=a.f)/\(f.g=a.g)/\(f.a=a.a)/\(f.b=a.b)/\(f.j=a.j)))) 9 Z (λ _ _=>JH Z Z Z) (qn (JK ?_)))
 by_cases Z5:(f.e=a.e)/\(f.f=a.f)/\(f.g=a.g)/\(f.a=a.a)/\(f.b=a.b)/\(f.j=a.j)
 refine jF (dF (Nc Z5)) (sk (sr (Kz (vP aU 2) (Lz (.func (.func 100) #[] #[]) G 0 D4 (La (aY.J a) G 1 C6 C5 ?_)))))
 obtain⟨aZ,P⟩:∃ q,nW a=q:=⟨_,Z⟩
 obtain⟨gX,bf,eT,bg,eU⟩:=JJ G
 refine WL.do Z (Kh Tryz.call100 Z Z (vL _ _ a aZ bf P) ?_)
 rintro _ gY ⟨rfl,bi⟩
 have dE:=bg _ _ bi
 refine An Z (rt (rs ?_))
 have dG:=dE.pk []
 obtain rfl:=zj hr zq4
 exact⟨Z,dG,Y⟩
 refine jT (dT Z5) (sr (An Z (rt (tR (rs ?_)))))
 have dH:=G.pk []
 obtain rfl:=zj hr zq3
 exact⟨Z,dH,Y⟩
 by_cases n:a.e=2
 obtain⟨gZ,bn,eX,bq,eY⟩:=JJ t
 refine cl D2 (oG _ _ a.e bn (of_decide_eq_true (dT n))) ?_
 rintro _ ib ⟨rfl,bu⟩
 have dI:=bq _ _ bu
 refine Mz Z (Kz (Zx o3k.toArray) (Kz (V Zk) ?_))
 refine cu [V J, Zj, Zj, Zj, Zj] 149 dI ?_
 intro bv ic dJ
 refine cO o3k 0 dJ C4 ?_
 intro ig dK
 refine An Z (JG (JG ?_))
 refine pK [] (JP (JP J3)) dK ?_
 intro ik dL
 refine qv 0 Z Z (qk (V J) 1 Z (qv 2 Z Z (JQ (v:=vP bv 1) (rs:= []) 3 Z Z Z Z f1 (λ _ _=>yk) (JQ (v:= .func (.func 103) #[] #[]) (rs:= []) 4 Z Z Z Z f1 (λ _ ⟨_,h⟩=>JS Z (bT.one D3 (Kk (h.cls (i:=0) Z) Z))) (JQ (v:= Zx (Zc (aY.J a))) (rs:= []) 5 Z Z Z Z f1 (λ _ ⟨_,h⟩=>JS Z (JW (cs:=(aY.J a)) C6 C5 ((h.cls (i:=1) Z).lit (k:=0) (m:=6) Z))) (JQ (v:= Zx (Zc (aY.J a))) (rs:= []) 7 Z Z Z Z f1 (λ _ ⟨_,h⟩=>JS Z (JW (cs:=(aY.J a)) C6 C5 ((h.cls (i:=1) Z).lit (k:=0) (m:=6) Z))) ?_))))))
 obtain⟨g,I⟩:∃ q,uk a=q:=⟨_,Z⟩
 obtain⟨il,bz,eZ,bA,fe⟩:=JJ dL
 refine Ky 6 Z Z Z Z f1 (Kh Tryz.call103 Z Z (Bb _ _ a g bz I) ?_)
 rintro _ iq ⟨rfl,bB⟩
 have Z7:=bA _ _ bB
 refine⟨.inr ⟨_,Z7⟩, ?_⟩
 refine JQ (v:= Zb (¬ ((g.e=a.e)/\(g.f=a.f)/\(g.g=a.g)/\(g.a=a.a)/\(g.b=a.b)/\(g.j=a.j)))) (rs:= []) 8 Z Z Z Z f1 (λ _ _=>JZ (e:= !(Zy ((g.e=a.e)/\(g.f=a.f)/\(g.g=a.g)/\(g.a=a.a)/\(g.b=a.b)/\(g.j=a.j)))) (KD Z Z f1 Z (gB.struct y0 f1 (Kv (fG.cons (u:=vI g.e) (v:=vI a.e) f6 Za Za (gB.int v8) (fG.cons (u:= Zz ⟨Zc g.f⟩) (v:= Zz ⟨Zc a.f⟩) f6 Za Za (gB.string v7) (fG.cons (u:= Zz ⟨Zc g.g⟩) (v:= Zz ⟨Zc a.g⟩) f6 Za Za (gB.string v7) (fG.cons (u:= Zz ⟨Zc g.a⟩) (v:= Zz ⟨Zc a.a⟩) f6 Za Za (gB.string v7) (fG.cons (u:= Zz ⟨Zc g.b⟩) (v:= Zz ⟨Zc a.b⟩) f6 Za Za (gB.string v7) (fG.cons (u:=vI g.j) (v:=vI a.j) f6 Za Za (gB.int v8) (fG.nil.up (Nb _)))))))) ((ZJ (Zy (g.e=a.e) && ·) ((ZJ (Zy (g.f=a.f) && ·) ((ZJ (Zy (g.g=a.g) && ·) ((ZJ (Zy (g.a=a.a) && ·) ((ZJ (Zy (g.b=a.b) && ·) kF).trans fI)).trans fI)).trans fI)).trans fI)).trans fI)))) ZY) (qt (v:= Zb (¬ ((g.e=a.e)/\(g.f=a.f)/\(g.g=a.g)/\(g.a=a.a)/\(g.b=a.b)/\(g.j=a.j)))) 9 Z (λ _ _=>JH Z Z Z) (qn (JK ?_)))
 by_cases Z6:(g.e=a.e)/\(g.f=a.f)/\(g.g=a.g)/\(g.a=a.a)/\(g.b=a.b)/\(g.j=a.j)
 refine jF (dF (Nc Z6)) (sk (sr (Kz (vP bv 2) (Lz (.func (.func 104) #[] #[]) Z7 0 D4 (La (aY.J a) Z7 1 C6 C5 ?_)))))
 obtain⟨bC,Q⟩:∃ q,pY a=q:=⟨_,Z⟩
 obtain⟨iw,bD,fo,bE,fq⟩:=JJ Z7
 refine WL.do Z (Kh Tryz.call104 Z Z (zz _ _ a bC bD Q) ?_)
 rintro _ iy ⟨rfl,Z1⟩
 have bF:=bE _ _ Z1
 refine An Z (rt (rs ?_))
 have bG:=bF.pk []
 obtain rfl:=zj hr zq5
 exact⟨Z,bG,Y⟩
 refine jT (dT Z6) (sr (An Z (rt (tR (rs ?_)))))
 have bH:=Z7.pk []
 obtain rfl:=zj hr zq4
 exact⟨Z,bH,Y⟩
 by_cases j:a.e=3
 obtain⟨fu,Z2,dN,Z0,dO⟩:=JJ t
 refine cl D2 (oH _ _ a.e Z2 (of_decide_eq_true (dT j))) ?_
 rintro _ fw ⟨rfl,aa⟩
 have bI:=Z0 _ _ aa
 refine Mz Z (Kz (Zx o4k.toArray) (Kz (V Zk) ?_))
 refine cu [V J, Zj, Zj, Zj, Zj] 149 bI ?_
 intro R fA bJ
 refine cO o4k 0 bJ C4 ?_
 intro fB bK
 refine An Z (JG (JG ?_))
 refine pK [] (JP (JP J3)) bK ?_
 intro fC bL
 refine qv 0 Z Z (qk (V J) 1 Z (qv 2 Z Z (JQ (v:=vP R 1) (rs:= []) 3 Z Z Z Z f1 (λ _ _=>yk) (JQ (v:= .func (.func 99) #[] #[]) (rs:= []) 4 Z Z Z Z f1 (λ _ ⟨_,h⟩=>JS Z (bT.one D3 (Kk (h.cls (i:=0) Z) Z))) (JQ (v:= Zx (Zc (aY.J a))) (rs:= []) 5 Z Z Z Z f1 (λ _ ⟨_,h⟩=>JS Z (JW (cs:=(aY.J a)) C6 C5 ((h.cls (i:=1) Z).lit (k:=0) (m:=6) Z))) (JQ (v:= Zx (Zc (aY.J a))) (rs:= []) 7 Z Z Z Z f1 (λ _ ⟨_,h⟩=>JS Z (JW (cs:=(aY.J a)) C6 C5 ((h.cls (i:=1) Z).lit (k:=0) (m:=6) Z))) ?_))))))
 obtain⟨b,x⟩:∃ q,pX a=q:=⟨_,Z⟩
 obtain⟨fD,af,dP,ag,dQ⟩:=JJ bL
 refine Ky 6 Z Z Z Z f1 (Kh Tryz.call99 Z Z (xD _ _ a b af x) ?_)
 rintro _ fE ⟨rfl,ah⟩
 have p:=ag _ _ ah
 refine⟨.inr ⟨_,p⟩, ?_⟩
 refine JQ (v:= Zb (¬ ((b.e=a.e)/\(b.f=a.f)/\(b.g=a.g)/\(b.a=a.a)/\(b.b=a.b)/\(b.j=a.j)))) (rs:= []) 8 Z Z Z Z f1 (λ _ _=>JZ (e:= !(Zy ((b.e=a.e)/\(b.f=a.f)/\(b.g=a.g)/\(b.a=a.a)/\(b.b=a.b)/\(b.j=a.j)))) (KD Z Z f1 Z (gB.struct y0 f1 (Kv (fG.cons (u:=vI b.e) (v:=vI a.e) f6 Za Za (gB.int v8) (fG.cons (u:= Zz ⟨Zc b.f⟩) (v:= Zz ⟨Zc a.f⟩) f6 Za Za (gB.string v7) (fG.cons (u:= Zz ⟨Zc b.g⟩) (v:= Zz ⟨Zc a.g⟩) f6 Za Za (gB.string v7) (fG.cons (u:= Zz ⟨Zc b.a⟩) (v:= Zz ⟨Zc a.a⟩) f6 Za Za (gB.string v7) (fG.cons (u:= Zz ⟨Zc b.b⟩) (v:= Zz ⟨Zc a.b⟩) f6 Za Za (gB.string v7) (fG.cons (u:=vI b.j) (v:=vI a.j) f6 Za Za (gB.int v8) (fG.nil.up (Nb _)))))))) ((ZJ (Zy (b.e=a.e) && ·) ((ZJ (Zy (b.f=a.f) && ·) ((ZJ (Zy (b.g=a.g) && ·) ((ZJ (Zy (b.a=a.a) && ·) ((ZJ (Zy (b.b=a.b) && ·) kF).trans fI)).trans fI)).trans fI)).trans fI)).trans fI)))) ZY) (qt (v:= Zb (¬ ((b.e=a.e)/\(b.f=a.f)/\(b.g=a.g)/\(b.a=a.a)/\(b.b=a.b)/\(b.j=a.j)))) 9 Z (λ _ _=>JH Z Z Z) (qn (JK ?_)))
 by_cases A:(b.e=a.e)/\(b.f=a.f)/\(b.g=a.g)/\(b.a=a.a)/\(b.b=a.b)/\(b.j=a.j)
 refine jF (dF (Nc A)) (sk (sr (Kz (vP R 2) (Lz (.func (.func 100) #[] #[]) p 0 D4 (La (aY.J a) p 1 C6 C5 ?_)))))
 obtain⟨S,K⟩:∃ q,nW a=q:=⟨_,Z⟩
 obtain⟨fF,ai,dR,aj,dS⟩:=JJ p
 refine WL.do Z (Kh Tryz.call100 Z Z (vL _ _ a S ai K) ?_)
 rintro _ fH ⟨rfl,ak⟩
 have bM:=aj _ _ ak
 refine An Z (rt (rs ?_))
 have bN:=bM.pk []
 obtain rfl:=zj hr zq6
 exact⟨Z,bN,Y⟩
 refine jT (dT A) (sr (An Z (rt (tR (rs ?_)))))
 have bO:=p.pk []
 obtain rfl:=zj hr zq5
 exact⟨Z,bO,Y⟩
 by_cases o:a.e=4
 obtain⟨fJ,au,dU,av,dV⟩:=JJ t
 refine cl D2 (oI _ _ a.e au (of_decide_eq_true (dT o))) ?_
 rintro _ fK ⟨rfl,ax⟩
 have bP:=av _ _ ax
 refine Mz Z (Kz (Zx o5k.toArray) (Kz (V Zk) ?_))
 refine cu [V J, Zj, Zj, Zj, Zj] 149 bP ?_
 intro Z8 fM bQ
 refine cO o5k 0 bQ C4 ?_
 intro fO bR
 refine An Z (JG (JG ?_))
 refine pK [] (JP (JP J3)) bR ?_
 intro fP bS
 refine qv 0 Z Z (qk (V J) 1 Z (qv 2 Z Z (JQ (v:=vP Z8 1) (rs:= []) 3 Z Z Z Z f1 (λ _ _=>yk) (JQ (v:= .func (.func 107) #[] #[]) (rs:= []) 4 Z Z Z Z f1 (λ _ ⟨_,h⟩=>JS Z (bT.one D3 (Kk (h.cls (i:=0) Z) Z))) (JQ (v:= Zx (Zc (aY.J a))) (rs:= []) 5 Z Z Z Z f1 (λ _ ⟨_,h⟩=>JS Z (JW (cs:=(aY.J a)) C6 C5 ((h.cls (i:=1) Z).lit (k:=0) (m:=6) Z))) (JQ (v:= Zx (Zc (aY.J a))) (rs:= []) 7 Z Z Z Z f1 (λ _ ⟨_,h⟩=>JS Z (JW (cs:=(aY.J a)) C6 C5 ((h.cls (i:=1) Z).lit (k:=0) (m:=6) Z))) ?_))))))
 obtain⟨c,y⟩:∃ q,ul a=q:=⟨_,Z⟩
 obtain⟨fQ,ay,dW,az,dX⟩:=JJ bS
 refine Ky 6 Z Z Z Z f1 (Kh Tryz.call107 Z Z (Bc _ _ a c ay y) ?_)
 rintro _ fT ⟨rfl,aA⟩
 have r:=az _ _ aA
 refine⟨.inr ⟨_,r⟩, ?_⟩
 refine JQ (v:= Zb (¬ ((c.e=a.e)/\(c.f=a.f)/\(c.g=a.g)/\(c.a=a.a)/\(c.b=a.b)/\(c.j=a.j)))) (rs:= []) 8 Z Z Z Z f1 (λ _ _=>JZ (e:= !(Zy ((c.e=a.e)/\(c.f=a.f)/\(c.g=a.g)/\(c.a=a.a)/\(c.b=a.b)/\(c.j=a.j)))) (KD Z Z f1 Z (gB.struct y0 f1 (Kv (fG.cons (u:=vI c.e) (v:=vI a.e) f6 Za Za (gB.int v8) (fG.cons (u:= Zz ⟨Zc c.f⟩) (v:= Zz ⟨Zc a.f⟩) f6 Za Za (gB.string v7) (fG.cons (u:= Zz ⟨Zc c.g⟩) (v:= Zz ⟨Zc a.g⟩) f6 Za Za (gB.string v7) (fG.cons (u:= Zz ⟨Zc c.a⟩) (v:= Zz ⟨Zc a.a⟩) f6 Za Za (gB.string v7) (fG.cons (u:= Zz ⟨Zc c.b⟩) (v:= Zz ⟨Zc a.b⟩) f6 Za Za (gB.string v7) (fG.cons (u:=vI c.j) (v:=vI a.j) f6 Za Za (gB.int v8) (fG.nil.up (Nb _)))))))) ((ZJ (Zy (c.e=a.e) && ·) ((ZJ (Zy (c.f=a.f) && ·) ((ZJ (Zy (c.g=a.g) && ·) ((ZJ (Zy (c.a=a.a) && ·) ((ZJ (Zy (c.b=a.b) && ·) kF).trans fI)).trans fI)).trans fI)).trans fI)).trans fI)))) ZY) (qt (v:= Zb (¬ ((c.e=a.e)/\(c.f=a.f)/\(c.g=a.g)/\(c.a=a.a)/\(c.b=a.b)/\(c.j=a.j)))) 9 Z (λ _ _=>JH Z Z Z) (qn (JK ?_)))
 by_cases B:(c.e=a.e)/\(c.f=a.f)/\(c.g=a.g)/\(c.a=a.a)/\(c.b=a.b)/\(c.j=a.j)
 refine jF (dF (Nc B)) (sk (sr (Kz (vP Z8 2) (Lz (.func (.func 108) #[] #[]) r 0 D4 (La (aY.J a) r 1 C6 C5 ?_)))))
 obtain⟨Z4,L⟩:∃ q,p8 a=q:=⟨_,Z⟩
 obtain⟨fU,aB,dY,aC,dZ⟩:=JJ r
 refine WL.do Z (Kh Tryz.call108 Z Z (zA _ _ a Z4 aB L) ?_)
 rintro _ fV ⟨rfl,aD⟩
 have bU:=aC _ _ aD
 refine An Z (rt (rs ?_))
 have bV:=bU.pk []
 obtain rfl:=zj hr zq7
 exact⟨Z,bV,Y⟩
 refine jT (dT B) (sr (An Z (rt (tR (rs ?_)))))
 have bW:=r.pk []
 obtain rfl:=zj hr zq6
 exact⟨Z,bW,Y⟩
 by_cases C:a.e=5
 obtain⟨fZ,aF,d9,aG,ed⟩:=JJ t
 refine cl D2 (oJ _ _ a.e aF (of_decide_eq_true (dT C))) ?_
 rintro _ gm ⟨rfl,aH⟩
 have bX:=aG _ _ aH
 refine Mz Z (Kz (Zx o6k.toArray) (Kz (V Zk) ?_))
 refine cu [V J, Zj, Zj, Zj, Zj] 149 bX ?_
 intro Z3 gp bY
 refine cO o6k 0 bY C4 ?_
 intro gq bZ
 refine An Z (JG (JG ?_))
 refine pK [] (JP (JP J3)) bZ ?_
 intro gu cz
 refine qv 0 Z Z (qk (V J) 1 Z (qv 2 Z Z (JQ (v:=vP Z3 1) (rs:= []) 3 Z Z Z Z f1 (λ _ _=>yk) (JQ (v:= .func (.func 111) #[] #[]) (rs:= []) 4 Z Z Z Z f1 (λ _ ⟨_,h⟩=>JS Z (bT.one D3 (Kk (h.cls (i:=0) Z) Z))) (JQ (v:= Zx (Zc (aY.J a))) (rs:= []) 5 Z Z Z Z f1 (λ _ ⟨_,h⟩=>JS Z (JW (cs:=(aY.J a)) C6 C5 ((h.cls (i:=1) Z).lit (k:=0) (m:=6) Z))) (JQ (v:= Zx (Zc (aY.J a))) (rs:= []) 7 Z Z Z Z f1 (λ _ ⟨_,h⟩=>JS Z (JW (cs:=(aY.J a)) C6 C5 ((h.cls (i:=1) Z).lit (k:=0) (m:=6) Z))) ?_))))))
 obtain⟨d,z⟩:∃ q,sW a=q:=⟨_,Z⟩
 obtain⟨gy,aI,ek,aJ,eu⟩:=JJ cz
 refine Ky 6 Z Z Z Z f1 (Kh Tryz.call111 Z Z (Ah _ _ a d aI z) ?_)
 rintro _ gz ⟨rfl,aK⟩
 have s:=aJ _ _ aK
 refine⟨.inr ⟨_,s⟩, ?_⟩
 refine JQ (v:= Zb (¬ ((d.e=a.e)/\(d.f=a.f)/\(d.g=a.g)/\(d.a=a.a)/\(d.b=a.b)/\(d.j=a.j)))) (rs:= []) 8 Z Z Z Z f1 (λ _ _=>JZ (e:= !(Zy ((d.e=a.e)/\(d.f=a.f)/\(d.g=a.g)/\(d.a=a.a)/\(d.b=a.b)/\(d.j=a.j)))) (KD Z Z f1 Z (gB.struct y0 f1 (Kv (fG.cons (u:=vI d.e) (v:=vI a.e) f6 Za Za (gB.int v8) (fG.cons (u:= Zz ⟨Zc d.f⟩) (v:= Zz ⟨Zc a.f⟩) f6 Za Za (gB.string v7) (fG.cons (u:= Zz ⟨Zc d.g⟩) (v:= Zz ⟨Zc a.g⟩) f6 Za Za (gB.string v7) (fG.cons (u:= Zz ⟨Zc d.a⟩) (v:= Zz ⟨Zc a.a⟩) f6 Za Za (gB.string v7) (fG.cons (u:= Zz ⟨Zc d.b⟩) (v:= Zz ⟨Zc a.b⟩) f6 Za Za (gB.string v7) (fG.cons (u:=vI d.j) (v:=vI a.j) f6 Za Za (gB.int v8) (fG.nil.up (Nb _)))))))) ((ZJ (Zy (d.e=a.e) && ·) ((ZJ (Zy (d.f=a.f) && ·) ((ZJ (Zy (d.g=a.g) && ·) ((ZJ (Zy (d.a=a.a) && ·) ((ZJ (Zy (d.b=a.b) && ·) kF).trans fI)).trans fI)).trans fI)).trans fI)).trans fI)))) ZY) (qt (v:= Zb (¬ ((d.e=a.e)/\(d.f=a.f)/\(d.g=a.g)/\(d.a=a.a)/\(d.b=a.b)/\(d.j=a.j)))) 9 Z (λ _ _=>JH Z Z Z) (qn (JK ?_)))
 by_cases E:(d.e=a.e)/\(d.f=a.f)/\(d.g=a.g)/\(d.a=a.a)/\(d.b=a.b)/\(d.j=a.j)
 refine jF (dF (Nc E)) (sk (sr (Kz (vP Z3 2) (Lz (.func (.func 112) #[] #[]) s 0 D4 (La (aY.J a) s 1 C6 C5 ?_)))))
 obtain⟨Z9,M⟩:∃ q,mM a=q:=⟨_,Z⟩
 obtain⟨gD,aL,eB,aM,eD⟩:=JJ s
 refine WL.do Z (Kh Tryz.call112 Z Z (uG _ _ a Z9 aL M) ?_)
 rintro _ gF ⟨rfl,aN⟩
 have cB:=aM _ _ aN
 refine An Z (rt (rs ?_))
 have cK:=cB.pk []
 obtain rfl:=zj hr zq8
 exact⟨Z,cK,Y⟩
 refine jT (dT E) (sr (An Z (rt (tR (rs ?_)))))
 have cZ:=s.pk []
 obtain rfl:=zj hr zq7
 exact⟨Z,cZ,Y⟩
 obtain⟨gG,aO,eF,aP,eG⟩:=JJ t
 refine cl D2 (uU _ _ a.e aO Y Y Y Y Y) ?_
 rintro _ gH ⟨rfl,aQ⟩
 have df:=aP _ _ aQ
 refine Mz Z (Kz (Zx #[V J, Zj, Zj, Zj, Zj]) (Kz (V J) ?_))
 refine cu [V J, Zj, Zj, Zj, Zj] 149 df ?_
 intro gI gJ dh
 refine cO [V J, Zj, Zj, Zj, Zj] 0 dh C4 ?_
 intro gK di
 refine An Z (JG (JG ?_))
 refine pK [] (JP (JP J3)) di ?_
 intro gL dm
 refine qv 0 Z Z (qk (V Zk) 1 Z (qv 2 Z Z (JO (rs:= []) 3 Z Z Z Z f1 (JO (rs:= []) 4 Z Z Z Z f1 (JO (rs:= []) 5 Z Z Z Z f1 (JO (rs:= []) 6 Z Z Z Z f1 (JO (rs:= []) 7 Z Z Z Z f1 (JO (rs:= []) 8 Z Z Z Z f1 (qt (v:= V Zk) 9 Z (λ _ _=>JL Z Z Z) (qn (JK (jt (sr (An Z (rt (tR (rs ?_)))))))))))))))))
 have dn:=dm.pk []
 obtain rfl:=zj hr zq5
 exact⟨Z,dn,Y⟩
def ll (c:Nat):List df->Unit ⊕ Bool
  | []=>y3 ()
  | a::b=>if((a.f:Nat):Int)=((c:Nat):Int) then y6 (Zk) else ll c b
def p9 (a:bD) (b:Nat):Bool:=
 lp (ll b a.a.a) λ _=>J
theorem uV (w D) (a:bD) (l z m d B f h n C o k r0) (H:Own w D w []) (F:z=X a.b.a) (R:Ro w D λ w'=>bP w' 2 l (X a.b.a) (q0 bO.J a.b.a)) (S:X a.b.a<=m/\X a.b.a<=9223372036854775807) (p:r7 bf.abs h=a.a.a) (G:B=X a.a.a) (g:Ro w D λ w'=>bP w' 2 d (X a.a.a) (q0 bf.J h)) (Z8:X a.a.a<=f/\X a.a.a<=9223372036854775807) (I:∀ x ∈ h,Ro w D (λ w'=>bP w' 6 x.a.A (X x.a.a) (q0 aY.J x.a.a))/\(X x.a.a<=x.a.c/\X x.a.a<=9223372036854775807)) (Z7:C=X a.f.a) (Z4:Ro w D λ w'=>bP w' 1 n (X a.f.a) (q0 (eN .u64) a.f.a)) (Z3:X a.f.a<=o/\X a.f.a<=9223372036854775807) (hr:p9 a k=r0):
    Calls v1 64 #[Zx (Zc (gX a.l a.r a.t a.s a.g l z m d B f n C o a.k a.u a.j.a a.j.b a.e.g a.e.u a.e.a a.e.j.a a.e.j.b)),vU k] w (dM λ v w'=>v= V r0/\Own w D w' []):=by
 subst F G Z7
 have Q:=bg p
 refine cb Tryz.func64 ?_
 refine sr ?_
 refine cu (iL a l m d f n o) 41 H ?_
 intro Z9 ak L
 refine An Z (JG (sr (Kz (vP Z9 6) (Lz (W d (X a.a.a) f) L 0 E0 (Kz (vJ (X a.a.a)) (Mn Z (bo ?_)))))))
 have Z1:=L.pk []
 obtain⟨Z2,r⟩:=mE λ (b:Nat) w'=>Own w D w' []/\b<=X a.a.a/\ll k a.a.a=ll k (r6 b a.a.a)
 refine B4 (λ i:Nat=> [(4, V J),(10,vJ i),(9,vJ (X a.a.a)),(8, W d (X a.a.a) f),(1,vU k)]) Z2 (λ i=>X a.a.a - i) 0 ⟨Z,Z,Z,Z,Z,ZW⟩ (r.2 ⟨Z1,Y,Z⟩) ?_
 rintro b au M
 show Wp _ _ _ [(4, V J),(10,vJ b),(9,vJ (X a.a.a)),(8, W d (X a.a.a) f),(1,vU k)] _ _
 obtain⟨s,ai,t⟩:=r.1 M
 refine sr (Kz (Zb ((b:Int) < (X a.a.a:Int))) (nt (JG ?_)))
 by_cases Z5:(b:Int) < (X a.a.a:Int)
 obtain⟨j,u⟩:=dJ (ls:=h) (i:=b) bf.len f6 (s.ro g) f4
 have Z6:=gq p u
 have aj:=(I _ (E1 u)).2
 have E:=drop_at Z6
 refine jT (dT Z5) (sk (JG (bo (sr (fw (Zq (Zw ⟨ab d,ao d+b *2,Zv⟩)) (JU (kH) Z Z ((s.ro g).addr (i:=b) Y) Y) (fw (Zx (Zc (bf.J j))) (JS Z (JW (cs:=(bf.J j)) Tryz.isAgg60 E2 ((s.ro g).elem bf.len u f6))) ?_))))))
 refine cu [.int .u64 0, W Zv 0 0] 60 s ?_
 intro Z0 av aa
 refine cO (bf.J j) 0 aa E2 ?_
 intro ax K
 refine ns (Kz (vP Z0 0) (Lz (vU j.f) K 0 E3 (Mz Z (Kz (Zb ((j.f:Int)=(k:Int))) (nt ?_)))))
 by_cases y:(j.f:Int)=(k:Int)
 refine jT (dT y) (sr (An Z (rt (bR (tR (tR (bR (tR (rs ?_)))))))))
 have ae:=K.pk []
 obtain rfl:_=Zk:=zj hr (iJ (N (t) (N (ZJ (λ q=>ll k q) E) (ip y))))
 exact⟨Z,ae⟩
 refine jF (dF y) (J8 (bN (JK (JI (fw (vJ (b+1)) (JN (e:=B7.wrap ((b:Int)+1)) yk f3) (Mz Z (B8 ?_)))))))
 have af:=K.pk []
 exact JX (b+1) ⟨Z,Z,Z,Z,Z,ZW⟩ (r.2 ⟨af,Y,N (t) (N (ZJ (λ q=>ll k q) E) (iN y))⟩) (by show X a.a.a - (b+1) < X a.a.a - b; omega)
 refine jF (dF Z5) (B9 (JV ?_))
 have P:ll k a.a.a=y3 ():=N (t) (N (ZJ (λ q=>ll k q) (eH (ls:=a.a.a) (i:=b) Y)) Z)
 refine JV (J2 (JK (sr (An Z (rt (rs ?_))))))
 have ag:=s.pk []
 obtain rfl:_=J:=zj hr (lD P)
 exact⟨Z,ag⟩
def j5 (b:Nat):List aY->Unit ⊕ Bool
  | []=>y3 ()
  | c::d=>bnd (dA c) λ a=>if a=0 then j5 b d else y6 (J)
def j6 (d:Nat):List aY->Unit ⊕ Bool
  | []=>y3 ()
  | b::c=>bnd (dA b) λ a=>if a=0 then j6 d c else y6 (J)
def gM (g:bD):List df->Nat->Unit ⊕ Bool
  | [],a=>y3 ()
  | b::d,a=>if((a:Nat):Int) > 0 then bnd (y4 g.a.a (a - 1) ZZ) λ e=>if((b.f:Nat):Int)<=((e.f:Nat):Int) then y6 (J) else bnd (nE ((X b.a.a:Nat):Int) 24) λ f=>if f=Zk then xu (j5 a b.a.a) λ _=>gM g d (a+1) else y6 (J) else bnd (nE ((X b.a.a:Nat):Int) 24) λ c=>if c=Zk then xu (j6 a b.a.a) λ _=>gM g d (a+1) else y6 (J)
def iD (g:bD):List Nat->Nat->Unit ⊕ Bool
  | [],a=>y3 ()
  | b::c,a=>if((a:Nat):Int) > 0 then bnd (y4 g.f.a (a - 1) ZZ) λ d=>if((b:Nat):Int)<=((d:Nat):Int) then y6 (J) else bnd (p9 g b) λ e=>if e=Zk then y6 (J) else iD g c (a+1) else bnd (p9 g b) λ f=>if f=Zk then y6 (J) else iD g c (a+1)
def sO (a:bD):Bool:=
 if((X a.a.a:Nat):Int) > 6 then J else if((X a.a.a+X a.f.a:Nat):Int) > 64 then J else lp (gM a a.a.a 0) λ _=>lp (iD a a.f.a 0) λ _=>Zk
theorem yE (w D) (d:bD) (z bn u f bq h Q l bv o r0) (H:Own w D w []) (bK:bn=X d.b.a) (aK:Ro w D λ w'=>bP w' 2 z (X d.b.a) (q0 bO.J d.b.a)) (eX:X d.b.a<=u/\X d.b.a<=9223372036854775807) (R:r7 bf.abs Q=d.a.a) (bL:bq=X d.a.a) (I:Ro w D λ w'=>bP w' 2 f (X d.a.a) (q0 bf.J Q)) (eY:X d.a.a<=h/\X d.a.a<=9223372036854775807) (p:∀ x ∈ Q,Ro w D (λ w'=>bP w' 6 x.a.A (X x.a.a) (q0 aY.J x.a.a))/\(X x.a.a<=x.a.c/\X x.a.a<=9223372036854775807)) (bM:bv=X d.f.a) (B:Ro w D λ w'=>bP w' 1 l (X d.f.a) (q0 (eN .u64) d.f.a)) (eZ:X d.f.a<=o/\X d.f.a<=9223372036854775807) (gT:X d.b.a<=140737488355328/\X d.a.a<=140737488355328/\X d.f.a<=140737488355328) (hr:sO d=r0):
    Calls v1 31 #[Zx (Zc (gX d.l d.r d.t d.s d.g z bn u f bq h l bv o d.k d.u d.j.a d.j.b d.e.g d.e.u d.e.a d.e.j.a d.e.j.b))] w (dM λ v w'=>v= V r0/\Own w D w' []):=by
 unfold sO at hr
 subst bK bL bM
 have eU:=bg R
 refine cb Tryz.func31 ?_
 refine sr ?_
 refine cu (iL d z u f h l o) 41 H ?_
 intro s gU au
 refine An Z (JG (sr (Kz (vP s 6) (Lz (W f (X d.a.a) h) au 0 E0 (Kz (vJ (X d.a.a)) (Kz (Zb ((X d.a.a:Int) > 6)) (Mz Z ?_)))))))
 by_cases m:(X d.a.a:Int) > 6
 refine T (dT m) (T (dT m) (T (dT m) (T (dT m) (T (dT m) (T (dT m) (T (dT m) (T (dT m) (fw (V Zk) (JL Z (dT m) Z) (nt (jt (sr (An Z (rt (tR (rs ?_)))))))))))))))
 have fe:=au.pk []
 obtain rfl:=zj hr zq1
 exact⟨Z,fe⟩
 refine Gz (vP s 6) (dF m) (Gl (W f (X d.a.a) h) (dF m) au 0 E0 (Gz (vJ (X d.a.a)) (dF m) (Gz (vP s 7) (dF m) (Gl (W l (X d.f.a) o) (dF m) au 0 E4 (Gz (vJ (X d.f.a)) (dF m) (gw (vJ (X d.a.a+X d.f.a)) (dF m) (JN (e:=B7.wrap ((X d.a.a:Int)+(X d.f.a:Int))) yk f3) (Gz (Zb (((X d.a.a+X d.f.a:Nat):Int) > 64)) (dF m) (fw (Zb (((X d.a.a+X d.f.a:Nat):Int) > 64)) (JH Z (dF m) Z) (nt ?_)))))))))
 by_cases Z6:((X d.a.a+X d.f.a:Nat):Int) > 64
 refine jT (dT Z6) (sr (An Z (rt (tR (rs ?_)))))
 have fo:=au.pk []
 obtain rfl:=zj hr zq2
 exact⟨Z,fo⟩
 refine jF (dF Z6) (sk (JG (sr (Kz (vP s 6) (Lz (W f (X d.a.a) h) au 0 E0 (Kz (vJ (X d.a.a)) (Mn Z (bo ?_))))))))
 have fq:=au.pf []
 obtain⟨fu,aB⟩:=mE λ (b:Nat) w'=>Own w D w' [blk s (iL d z u f h l o) 41]/\b<=X d.a.a/\gM d d.a.a 0=gM d (r6 b d.a.a) b
 refine B4 (λ i:Nat=> [(2, V J),(26,vJ i),(25,vJ (X d.a.a)),(24, W f (X d.a.a) h),(1,vP s 0)]) fu (λ i=>X d.a.a - i) 0 ⟨Z,Z,Z,Z,Z,ZW⟩ (aB.2 ⟨fq,Y,Z⟩) ?_
 rintro b gV dx
 show Wp _ _ _ [(2, V J),(26,vJ b),(25,vJ (X d.a.a)),(24, W f (X d.a.a) h),(1,vP s 0)] _ _
 obtain⟨aI,fT,M⟩:=aB.1 dx
 refine sr (Kz (Zb ((b:Int) < (X d.a.a:Int))) (nt (JG ?_)))
 by_cases dz:(b:Int) < (X d.a.a:Int)
 obtain⟨a,K⟩:=dJ (ls:=Q) (i:=b) bf.len f6 (aI.ro I) f4
 have dB:=gq R K
 have fU:=(p _ (E1 K)).2
 have S:=drop_at dB
 refine jT (dT dz) (sk (JG (bo (sr (Mz Z (fw (Zq (Zw ⟨ab f,ao f+b *2,Zv⟩)) (JU (kH) Z Z ((aI.ro I).addr (i:=b) Y) Y) (fw (Zx (Zc (bf.J a))) (JS Z (JW (cs:=(bf.J a)) Tryz.isAgg60 E2 ((aI.ro I).elem bf.len K f6))) ?_)))))))
 refine cu [.int .u64 0, W Zv 0 0] 60 aI ?_
 intro t gW fA
 refine Az Z ?_
 refine cO (bf.J a) 0 fA E2 ?_
 intro gY fB
 refine nt (JG (JG ?_))
 refine pK [] (JP (JP (bI.block (JP (JP (bI.block (JP J3))))))) fB ?_
 intro gZ bQ
 refine qv 0 Z Z (qk (Zb ((b:Int) > 0)) 1 Z (qv 2 Z Z ?_))
 by_cases n:(b:Int) > 0
 refine JQ (v:=vP t 0) (rs:= []) 3 Z Z Z (dT n) f1 (λ _ _=>yk) (JQ (v:=vU a.f) (rs:= []) 4 Z Z Z (dT n) f1 (λ _ ⟨_,H9⟩=>JS Z (bT.one E3 (Kk (H9.cls (i:=0) Z) Z))) (JQ (v:=vP s 6) (rs:= []) 5 Z Z Z (dT n) f1 (λ _ _=>yk) (JQ (v:= W f (X d.a.a) h) (rs:= []) 6 Z Z Z (dT n) f1 (λ _ ⟨_,H9⟩=>JS Z (bT.one E0 (Kk (H9.cls (i:=1) Z) Z))) (JQ (v:=vJ b) (rs:= []) 7 Z Z Z (dT n) f1 (λ _ _=>JM Z) (JQ (v:=vJ (b - 1)) (rs:= []) 8 Z Z Z (dT n) f1 (λ _ _=>JN (e:=B7.wrap ((b:Int) - 1)) yk f3) ?_)))))
 obtain⟨P,aM⟩:=mI (ls:=Q) (i:=b - 1) f4
 have aC:=gq R aM
 have fV:=(p _ (E1 aM)).2
 refine JQ (v:= Zq (Zw ⟨ab f,ao f+(b - 1) *2,Zv⟩)) (rs:= []) 9 Z Z Z (dT n) f1 (λ _ ⟨_,H9⟩=>JU (kH) Z Z ((H9.ro I).addr (i:=b - 1) Y) Y) (JQ (v:= Zq (Zw ⟨ab f,ao f+(b - 1) *2,Zv⟩)) (rs:= []) 10 Z Z Z (dT n) f1 (λ _ _=>yk) (JQ (v:=vU P.f) (rs:= []) 11 Z Z Z (dT n) f1 (λ _ ⟨_,H9⟩=>JS Z (bT.one E3 (((H9.ro I).elem bf.len aM f6).at_ (k:=0) Z))) (JQ (v:= Zb ((a.f:Int)<=(P.f:Int))) (rs:= []) 12 Z Z Z (dT n) f1 (λ _ _=>yk) (qt (v:= Zb ((a.f:Int)<=(P.f:Int))) 13 Z (λ _ _=>JL Z (dT n) Z) (qv 14 Z Z ?_)))))
 by_cases F:(a.f:Int)<=(P.f:Int)
 refine JO (rs:= []) 15 Z Z Z (dT F) f1 (JO (rs:= []) 16 Z Z Z (dT F) f1 (JO (rs:= []) 17 Z Z Z (dT F) f1 (JO (rs:= []) 18 Z Z Z (dT F) f1 (JO (rs:= []) 19 Z Z Z (dT F) f1 (qt (v:= V Zk) 20 Z (λ _ _=>JL Z (dT F) Z) (qn (JK (jt (sr (An Z (rt (tR (bR (tR (tR (bR (tR (rs ?_))))))))))))))))))
 have fC:=bQ.pk []
 obtain rfl:_=J:=zj hr (N (iN m) (N (iN Z6) (iJ (N (M) (N (ZJ (λ q=>gM d q b) S) (N (ip n) (N (ae (bu aC)) (ip F))))))))
 exact⟨Z,fC⟩
 refine JQ (v:=vP t 1) (rs:= []) 15 Z Z Z (dF F) f1 (λ _ _=>yk) (JQ (v:= W a.a.A (X a.a.a) a.a.c) (rs:= []) 16 Z Z Z (dF F) f1 (λ _ ⟨_,H9⟩=>JS Z (bT.one E6 (Kk (H9.cls (i:=0) Z) Z))) (JQ (v:=vJ (X a.a.a)) (rs:= []) 17 Z Z Z (dF F) f1 (λ _ _=>yk) ?_))
 obtain⟨Z4,aD⟩:∃ q,nE (X a.a.a:Int) 24=q:=⟨_,Z⟩
 obtain⟨ib,dC,fZ,dD,gm⟩:=JJ bQ
 refine Ky 18 Z Z Z (dF F) f1 (J6 E7 Z (rQ _ _ (X a.a.a:Int) 24 Z4 dC aD) ?_)
 rintro _ ic ⟨rfl,dE⟩
 have aZ:=dD _ _ dE
 refine⟨.inr ⟨_,aZ⟩, ?_⟩
 refine JQ (v:= V (!Z4)) (rs:= []) 19 Z Z Z (dF F) f1 (λ _ _=>yk) (qt (v:= V (!Z4)) 20 Z (λ _ _=>JH Z (dF F) Z) (qn (JK ?_)))
 rcases Nf (Z4) with aJ | aJ
 refine jF (cn aJ) (sk (sr (Kz (vP t 1) (Lz (W a.a.A (X a.a.a) a.a.c) aZ 0 E6 (Kz (vJ (X a.a.a)) (Mn Z (bo ?_)))))))
 have fD:=aZ.pf []
 obtain⟨fE,aN⟩:=mE λ (Z7:Nat) w'=>Own w D w' [blk t (bf.J a) 60,blk s (iL d z u f h l o) 41]/\Z7<=X a.a.a/\j5 b a.a.a=j5 b (r6 Z7 a.a.a)
 refine B4 (λ i:Nat=> [(2, V J),(55,vJ i),(54,vJ (X a.a.a)),(53, W a.a.A (X a.a.a) a.a.c),(52,vP t 1),(51, V (!Z4)),(50, V (!Z4)),(49, V Z4),(48,vJ (X a.a.a)),(47, W a.a.A (X a.a.a) a.a.c),(46,vP t 1),(45, Zb ((a.f:Int)<=(P.f:Int))),(44, Zb ((a.f:Int)<=(P.f:Int))),(43, Zb ((a.f:Int)<=(P.f:Int))),(42,vU P.f),(41, Zq (Zw ⟨ab f,ao f+(b - 1) *2,Zv⟩)),(40, Zq (Zw ⟨ab f,ao f+(b - 1) *2,Zv⟩)),(39,vJ (b - 1)),(38,vJ b),(37, W f (X d.a.a) h),(36,vP s 6),(35,vU a.f),(34,vP t 0),(33, Zb ((b:Int) > 0)),(32, Zb ((b:Int) > 0)),(31,vJ b),(3,vJ b),(4,vP t 0),(30, Zx (Zc (bf.J a))),(29, Zq (Zw ⟨ab f,ao f+b *2,Zv⟩)),(28,vJ b),(27, Zb ((b:Int) < (X d.a.a:Int))),(26,vJ b),(25,vJ (X d.a.a)),(24, W f (X d.a.a) h),(1,vP s 0)]) fE (λ i=>X a.a.a - i) 0 ⟨Z,Z,Z,Z,Z,Z,Z,Z,Z,Z,Z,Z,Z,Z,Z,Z,Z,Z,Z,Z,Z,Z,Z,Z,Z,Z,Z,Z,Z,Z,Z,Z,Z,Z,Z,Z,ZW⟩ (aN.2 ⟨fD,Y,Z⟩) ?_
 rintro Z7 ig dG
 show Wp _ _ _ [(2, V J),(55,vJ Z7),(54,vJ (X a.a.a)),(53, W a.a.A (X a.a.a) a.a.c),(52,vP t 1),(51, V (!Z4)),(50, V (!Z4)),(49, V Z4),(48,vJ (X a.a.a)),(47, W a.a.A (X a.a.a) a.a.c),(46,vP t 1),(45, Zb ((a.f:Int)<=(P.f:Int))),(44, Zb ((a.f:Int)<=(P.f:Int))),(43, Zb ((a.f:Int)<=(P.f:Int))),(42,vU P.f),(41, Zq (Zw ⟨ab f,ao f+(b - 1) *2,Zv⟩)),(40, Zq (Zw ⟨ab f,ao f+(b - 1) *2,Zv⟩)),(39,vJ (b - 1)),(38,vJ b),(37, W f (X d.a.a) h),(36,vP s 6),(35,vU a.f),(34,vP t 0),(33, Zb ((b:Int) > 0)),(32, Zb ((b:Int) > 0)),(31,vJ b),(3,vJ b),(4,vP t 0),(30, Zx (Zc (bf.J a))),(29, Zq (Zw ⟨ab f,ao f+b *2,Zv⟩)),(28,vJ b),(27, Zb ((b:Int) < (X d.a.a:Int))),(26,vJ b),(25,vJ (X d.a.a)),(24, W f (X d.a.a) h),(1,vP s 0)] _ _
 obtain⟨aO,gp,aP⟩:=aN.1 dG
 refine sr (Kz (Zb ((Z7:Int) < (X a.a.a:Int))) (nt (JG ?_)))
 by_cases dH:(Z7:Int) < (X a.a.a:Int)
 obtain⟨ag,bz⟩:=dJ (ls:=a.a.a) (i:=Z7) aY.len f6 (aO.ro (p _ (E1 K)).1) f4
 have bA:=drop_at bz
 refine jT (dT dH) (sk (JG (bo (sr (fw (Zq (Zw ⟨ab a.a.A,ao a.a.A+Z7 *6,Zv⟩)) (JU (oD) Z Z ((aO.ro (p _ (E1 K)).1).addr (i:=Z7) Y) Y) (fw (Zx (Zc (aY.J ag))) (JS Z (JW (cs:=(aY.J ag)) C6 C5 ((aO.ro (p _ (E1 K)).1).elem aY.len bz f6))) ?_))))))
 refine cu [vI 0, Zz ⟨Zc []⟩, Zz ⟨Zc []⟩, Zz ⟨Zc []⟩, Zz ⟨Zc []⟩,vI 0] 68 aO ?_
 intro ik il fF
 refine cO (aY.J ag) 0 fF C5 ?_
 intro iw dI
 refine ns (La (aY.J ag) dI 0 C6 C5 ?_)
 obtain⟨aQ,aR⟩:∃ q,dA ag=q:=⟨_,Z⟩
 obtain⟨iy,dK,gu,dL,gy⟩:=JJ dI
 refine cl Tryz.call63 (nO _ _ ag aQ dK aR) ?_
 rintro _ iA ⟨rfl,dN,bB⟩
 have dO:=dL _ _ dN
 replace bB: ¬ (aQ=0)\/(1<=ag.e/\ag.e<=5):=bB
 refine fw (Zb (¬ (aQ=0))) (JZ (e:= !(Zy (aQ=0))) yk ZY) (nt ?_)
 by_cases bi:aQ=0
 refine jF (dF (Nc bi)) (J8 (bN (JK (JI (fw (vJ (Z7+1)) (JN (e:=B7.wrap ((Z7:Int)+1)) yk f3) (Mz Z (B8 ?_)))))))
 have dP:=dO.pk [1,2]
 exact JX (Z7+1) ⟨Z,Z,Z,Z,Z,Z,Z,Z,Z,Z,Z,Z,Z,Z,Z,Z,Z,Z,Z,Z,Z,Z,Z,Z,Z,Z,Z,Z,Z,Z,Z,Z,Z,Z,Z,Z,ZW⟩ (aN.2 ⟨dP,Y,N (aP) (N (ZJ (λ q=>j5 b q) bA) (N (ae aR) (ip bi)))⟩) (by show X a.a.a - (Z7+1) < X a.a.a - Z7; omega)
 refine jT (dT bi) (sr (An Z (rt (bR (tR (tR (bR (bR (tR (tR (bR (tR (rs ?_)))))))))))))
 have dQ:=dO.pk []
 obtain rfl:_=J:=zj hr (N (iN m) (N (iN Z6) (iJ (N (M) (N (ZJ (λ q=>gM d q b) S) (N (ip n) (N (ae (bu aC)) (N (iN F) (N (ae aD) (N (ip aJ) (q8 (N (aP) (N (ZJ (λ q=>j5 b q) bA) (N (ae aR) (iN bi)))))))))))))))
 exact⟨Z,dQ⟩
 refine jF (dF dH) (B9 (JV ?_))
 have bS:j5 b a.a.a=y3 ():=N (aP) (N (ZJ (λ q=>j5 b q) (eH (ls:=a.a.a) (i:=Z7) Y)) Z)
 refine JV (J2 (bN (JK (JI (fw (vJ (b+1)) (JN (e:=B7.wrap ((b:Int)+1)) yk f3) (Mz Z (B8 ?_)))))))
 have dR:=aO.pk [1]
 exact JX (b+1) ⟨Z,Z,Z,Z,Z,ZW⟩ (aB.2 ⟨dR,Y,N (M) (N (ZJ (λ q=>gM d q b) S) (N (ip n) (N (ae (bu aC)) (N (iN F) (N (ae aD) (N (ip aJ) (qZ bS)))))))⟩) (by show X d.a.a - (b+1) < X d.a.a - b; omega)
 refine jT (cn aJ) (sr (An Z (rt (tR (bR (tR (tR (bR (tR (rs ?_))))))))))
 have dS:=aZ.pk []
 obtain rfl:_=J:=zj hr (N (iN m) (N (iN Z6) (iJ (N (M) (N (ZJ (λ q=>gM d q b) S) (N (ip n) (N (ae (bu aC)) (N (iN F) (N (ae aD) (eP aJ))))))))))
 exact⟨Z,dS⟩
 refine JO (rs:= []) 3 Z Z Z (dF n) f1 (JO (rs:= []) 4 Z Z Z (dF n) f1 (JO (rs:= []) 5 Z Z Z (dF n) f1 (JO (rs:= []) 6 Z Z Z (dF n) f1 (JO (rs:= []) 7 Z Z Z (dF n) f1 (JO (rs:= []) 8 Z Z Z (dF n) f1 (JO (rs:= []) 9 Z Z Z (dF n) f1 (JO (rs:= []) 10 Z Z Z (dF n) f1 (JO (rs:= []) 11 Z Z Z (dF n) f1 (JO (rs:= []) 12 Z Z Z (dF n) f1 (qt (v:= V J) 13 Z (λ _ _=>JH Z (dF n) Z) (qv 14 Z Z (JQ (v:=vP t 1) (rs:= []) 15 Z Z Z Z f1 (λ _ _=>yk) (JQ (v:= W a.a.A (X a.a.a) a.a.c) (rs:= []) 16 Z Z Z Z f1 (λ _ ⟨_,H9⟩=>JS Z (bT.one E6 (Kk (H9.cls (i:=0) Z) Z))) (JQ (v:=vJ (X a.a.a)) (rs:= []) 17 Z Z Z Z f1 (λ _ _=>yk) ?_))))))))))))))
 obtain⟨G,Z9⟩:∃ q,nE (X a.a.a:Int) 24=q:=⟨_,Z⟩
 obtain⟨gz,bU,fG,bV,fH⟩:=JJ bQ
 refine Ky 18 Z Z Z Z f1 (J6 E7 Z (rQ _ _ (X a.a.a:Int) 24 G bU Z9) ?_)
 rintro _ gB ⟨rfl,bW⟩
 have aF:=bV _ _ bW
 refine⟨.inr ⟨_,aF⟩, ?_⟩
 refine JQ (v:= V (!G)) (rs:= []) 19 Z Z Z Z f1 (λ _ _=>yk) (qt (v:= V (!G)) 20 Z (λ _ _=>JH Z Z Z) (qn (JK ?_)))
 rcases Nf (G) with Z3 | Z3
 refine jF (cn Z3) (sk (sr (Kz (vP t 1) (Lz (W a.a.A (X a.a.a) a.a.c) aF 0 E6 (Kz (vJ (X a.a.a)) (Mn Z (bo ?_)))))))
 have dU:=aF.pf []
 obtain⟨dV,av⟩:=mE λ (r:Nat) w'=>Own w D w' [blk t (bf.J a) 60,blk s (iL d z u f h l o) 41]/\r<=X a.a.a/\j6 b a.a.a=j6 b (r6 r a.a.a)
 refine B4 (λ i:Nat=> [(2, V J),(55,vJ i),(54,vJ (X a.a.a)),(53, W a.a.A (X a.a.a) a.a.c),(52,vP t 1),(51, V (!G)),(50, V (!G)),(49, V G),(48,vJ (X a.a.a)),(47, W a.a.A (X a.a.a) a.a.c),(46,vP t 1),(45, V J),(44, V J),(43,undef),(42,undef),(41,undef),(40,undef),(39,undef),(38,undef),(37,undef),(36,undef),(35,undef),(34,undef),(33, Zb ((b:Int) > 0)),(32, Zb ((b:Int) > 0)),(31,vJ b),(3,vJ b),(4,vP t 0),(30, Zx (Zc (bf.J a))),(29, Zq (Zw ⟨ab f,ao f+b *2,Zv⟩)),(28,vJ b),(27, Zb ((b:Int) < (X d.a.a:Int))),(26,vJ b),(25,vJ (X d.a.a)),(24, W f (X d.a.a) h),(1,vP s 0)]) dV (λ i=>X a.a.a - i) 0 ⟨Z,Z,Z,Z,Z,Z,Z,Z,Z,Z,Z,Z,Z,Z,Z,Z,Z,Z,Z,Z,Z,Z,Z,Z,Z,Z,Z,Z,Z,Z,Z,Z,Z,Z,Z,Z,ZW⟩ (av.2 ⟨dU,Y,Z⟩) ?_
 rintro r gD bX
 show Wp _ _ _ [(2, V J),(55,vJ r),(54,vJ (X a.a.a)),(53, W a.a.A (X a.a.a) a.a.c),(52,vP t 1),(51, V (!G)),(50, V (!G)),(49, V G),(48,vJ (X a.a.a)),(47, W a.a.A (X a.a.a) a.a.c),(46,vP t 1),(45, V J),(44, V J),(43,undef),(42,undef),(41,undef),(40,undef),(39,undef),(38,undef),(37,undef),(36,undef),(35,undef),(34,undef),(33, Zb ((b:Int) > 0)),(32, Zb ((b:Int) > 0)),(31,vJ b),(3,vJ b),(4,vP t 0),(30, Zx (Zc (bf.J a))),(29, Zq (Zw ⟨ab f,ao f+b *2,Zv⟩)),(28,vJ b),(27, Zb ((b:Int) < (X d.a.a:Int))),(26,vJ b),(25,vJ (X d.a.a)),(24, W f (X d.a.a) h),(1,vP s 0)] _ _
 obtain⟨ah,fI,ax⟩:=av.1 bX
 refine sr (Kz (Zb ((r:Int) < (X a.a.a:Int))) (nt (JG ?_)))
 by_cases bC:(r:Int) < (X a.a.a:Int)
 obtain⟨Z5,aS⟩:=dJ (ls:=a.a.a) (i:=r) aY.len f6 (ah.ro (p _ (E1 K)).1) f4
 have aT:=drop_at aS
 refine jT (dT bC) (sk (JG (bo (sr (fw (Zq (Zw ⟨ab a.a.A,ao a.a.A+r *6,Zv⟩)) (JU (oD) Z Z ((ah.ro (p _ (E1 K)).1).addr (i:=r) Y) Y) (fw (Zx (Zc (aY.J Z5))) (JS Z (JW (cs:=(aY.J Z5)) C6 C5 ((ah.ro (p _ (E1 K)).1).elem aY.len aS f6))) ?_))))))
 refine cu [vI 0, Zz ⟨Zc []⟩, Zz ⟨Zc []⟩, Zz ⟨Zc []⟩, Zz ⟨Zc []⟩,vI 0] 68 ah ?_
 intro gF gG dW
 refine cO (aY.J Z5) 0 dW C5 ?_
 intro gH bE
 refine ns (La (aY.J Z5) bE 0 C6 C5 ?_)
 obtain⟨ai,ay⟩:∃ q,dA Z5=q:=⟨_,Z⟩
 obtain⟨gI,bY,fJ,bZ,fK⟩:=JJ bE
 refine cl Tryz.call63 (nO _ _ Z5 ai bY ay) ?_
 rintro _ gJ ⟨rfl,cz,aU⟩
 have bF:=bZ _ _ cz
 replace aU: ¬ (ai=0)\/(1<=Z5.e/\Z5.e<=5):=aU
 refine fw (Zb (¬ (ai=0))) (JZ (e:= !(Zy (ai=0))) yk ZY) (nt ?_)
 by_cases aG:ai=0
 refine jF (dF (Nc aG)) (J8 (bN (JK (JI (fw (vJ (r+1)) (JN (e:=B7.wrap ((r:Int)+1)) yk f3) (Mz Z (B8 ?_)))))))
 have dX:=bF.pk [1,2]
 exact JX (r+1) ⟨Z,Z,Z,Z,Z,Z,Z,Z,Z,Z,Z,Z,Z,Z,Z,Z,Z,Z,Z,Z,Z,Z,Z,Z,Z,Z,Z,Z,Z,Z,Z,Z,Z,Z,Z,Z,ZW⟩ (av.2 ⟨dX,Y,N (ax) (N (ZJ (λ q=>j6 b q) aT) (N (ae ay) (ip aG)))⟩) (by show X a.a.a - (r+1) < X a.a.a - r; omega)
 refine jT (dT aG) (sr (An Z (rt (bR (tR (tR (bR (bR (tR (tR (bR (tR (rs ?_)))))))))))))
 have dY:=bF.pk []
 obtain rfl:_=J:=zj hr (N (iN m) (N (iN Z6) (iJ (N (M) (N (ZJ (λ q=>gM d q b) S) (N (iN n) (N (ae Z9) (N (ip Z3) (q8 (N (ax) (N (ZJ (λ q=>j6 b q) aT) (N (ae ay) (iN aG)))))))))))))
 exact⟨Z,dY⟩
 refine jF (dF bC) (B9 (JV ?_))
 have cB:j6 b a.a.a=y3 ():=N (ax) (N (ZJ (λ q=>j6 b q) (eH (ls:=a.a.a) (i:=r) Y)) Z)
 refine JV (J2 (bN (JK (JI (fw (vJ (b+1)) (JN (e:=B7.wrap ((b:Int)+1)) yk f3) (Mz Z (B8 ?_)))))))
 have dZ:=ah.pk [1]
 exact JX (b+1) ⟨Z,Z,Z,Z,Z,ZW⟩ (aB.2 ⟨dZ,Y,N (M) (N (ZJ (λ q=>gM d q b) S) (N (iN n) (N (ae Z9) (N (ip Z3) (qZ cB)))))⟩) (by show X d.a.a - (b+1) < X d.a.a - b; omega)
 refine jT (cn Z3) (sr (An Z (rt (tR (bR (tR (tR (bR (tR (rs ?_))))))))))
 have d9:=aF.pk []
 obtain rfl:_=J:=zj hr (N (iN m) (N (iN Z6) (iJ (N (M) (N (ZJ (λ q=>gM d q b) S) (N (iN n) (N (ae Z9) (eP Z3))))))))
 exact⟨Z,d9⟩
 refine jF (dF dz) (B9 (JV ?_))
 have Z1:gM d d.a.a 0=y3 ():=N (M) (N (ZJ (λ q=>gM d q b) (eH (ls:=d.a.a) (i:=b) Y)) Z)
 refine JV (J2 (JK (JG (sr (Kz (vP s 7) (Lz (W l (X d.f.a) o) aI 0 E4 (Kz (vJ (X d.f.a)) (Mn Z (bo ?_)))))))))
 have ed:=aI.pf []
 obtain⟨ek,Z2⟩:=mE λ (g:Nat) w'=>Own w D w' [blk s (iL d z u f h l o) 41]/\g<=X d.f.a/\iD d d.f.a 0=iD d (r6 g d.f.a) g
 refine B4 (λ i:Nat=> [(2, V J),(67,vJ i),(66,vJ (X d.f.a)),(65, W l (X d.f.a) o),(1,vP s 0)]) ek (λ i=>X d.f.a - i) 0 ⟨Z,Z,Z,Z,Z,ZW⟩ (Z2.2 ⟨ed,Y,Z⟩) ?_
 rintro g gK cK
 show Wp _ _ _ [(2, V J),(67,vJ g),(66,vJ (X d.f.a)),(65, W l (X d.f.a) o),(1,vP s 0)] _ _
 obtain⟨y,fM,L⟩:=Z2.1 cK
 refine sr (Kz (Zb ((g:Int) < (X d.f.a:Int))) (nt (JG ?_)))
 by_cases bG:(g:Int) < (X d.f.a:Int)
 obtain⟨C,aV⟩:=dJ (ls:=d.f.a) (i:=g) iq f6 (y.ro B) f4
 have Z8:=drop_at aV
 refine jT (dT bG) (sk (JG (bo (sr (Mz Z (fw (Zq (Zw ⟨ab l,ao l+g *1,Zv⟩)) (JU (iZ) Z Z ((y.ro B).addr (i:=g) Y) Y) (fw (vU C) (JS Z (bT.one E3 (((y.ro B).elem iq aV f6).at_ (k:=0) Z))) (Az Z (Ar Z (Mz Z (Kz (Zb ((g:Int) > 0)) (Mz Z ?_))))))))))))
 by_cases j:(g:Int) > 0
 refine gw (vU C) (dT j) (JM Z) (Gz (vP s 7) (dT j) (Gl (W l (X d.f.a) o) (dT j) y 0 E4 (gw (vJ g) (dT j) (JM Z) (gw (vJ (g - 1)) (dT j) (JN (e:=B7.wrap ((g:Int) - 1)) yk f3) ?_))))
 obtain⟨aH,Z0⟩:=dJ (ls:=d.f.a) (i:=g - 1) iq f6 (y.ro B) f4
 refine gw (Zq (Zw ⟨ab l,ao l+(g - 1) *1,Zv⟩)) (dT j) (JU (iZ) Z Z ((y.ro B).addr (i:=g - 1) Y) Y) (gw (vU aH) (dT j) (JS Z (bT.one E3 (((y.ro B).elem iq Z0 f6).at_ (k:=0) Z))) (Gz (Zb ((C:Int)<=(aH:Int))) (dT j) (fw (Zb ((C:Int)<=(aH:Int))) (JL Z (dT j) Z) (Mz Z ?_))))
 by_cases E:(C:Int)<=(aH:Int)
 refine T (dT E) (T (dT E) (T (dT E) (fw (V Zk) (JL Z (dT E) Z) (nt (jt (sr (An Z (rt (bR (tR (tR (bR (tR (rs ?_))))))))))))))
 have eu:=y.pk []
 obtain rfl:_=J:=zj hr (N (iN m) (N (iN Z6) (N (lD Z1) (iJ (N (L) (N (ZJ (λ q=>iD d q g) Z8) (N (ip j) (N (ae (bu Z0)) (ip E)))))))))
 exact⟨Z,eu⟩
 refine Ga (iL d z u f h l o) (dF E) y 0 F0 F1 (gw (vU C) (dF E) (JM Z) ?_)
 obtain⟨aW,az⟩:∃ q,p9 d C=q:=⟨_,Z⟩
 obtain⟨gL,cZ,aa,df,fO⟩:=JJ y
 refine oC (dF E) Tryz.call64 (uV _ _ d z (X d.b.a) u f (X d.a.a) h Q l (X d.f.a) o C aW cZ Z (aa _ aK) Y R Z (aa _ I) Y (λ x9 h9=>⟨aa _ (p x9 h9).1,(p x9 h9).2⟩) Z (aa _ B) Y az) ?_
 rintro _ gN ⟨rfl,dh⟩
 have bH:=df _ _ dh
 refine fw (V aW) (JH Z (dF E) Z) (nt ?_)
 rcases Nf (aW) with aj | aj
 refine jT aj (sr (An Z (rt (bR (tR (tR (bR (tR (rs ?_)))))))))
 have eF:=bH.pk []
 obtain rfl:_=J:=zj hr (N (iN m) (N (iN Z6) (N (lD Z1) (iJ (N (L) (N (ZJ (λ q=>iD d q g) Z8) (N (ip j) (N (ae (bu Z0)) (N (iN E) (N (ae az) (ip aj)))))))))))
 exact⟨Z,eF⟩
 refine jF aj (J8 (bN (JK (JI (fw (vJ (g+1)) (JN (e:=B7.wrap ((g:Int)+1)) yk f3) (Mz Z (B8 ?_)))))))
 have eG:=bH.pf []
 exact JX (g+1) ⟨Z,Z,Z,Z,Z,ZW⟩ (Z2.2 ⟨eG,Y,N (L) (N (ZJ (λ q=>iD d q g) Z8) (N (ip j) (N (ae (bu Z0)) (N (iN E) (N (ae az) (eP aj))))))⟩) (by show X d.f.a - (g+1) < X d.f.a - g; omega)
 refine T (dF j) (T (dF j) (T (dF j) (T (dF j) (T (dF j) (T (dF j) (T (dF j) (T (dF j) (fw (V J) (JH Z (dF j) Z) (Mz Z (Ga (iL d z u f h l o) Z y 0 F0 F1 (gw (vU C) Z (JM Z) ?_)))))))))))
 obtain⟨aX,aA⟩:∃ q,p9 d C=q:=⟨_,Z⟩
 obtain⟨gP,di,af,dm,fP⟩:=JJ y
 refine oC Z Tryz.call64 (uV _ _ d z (X d.b.a) u f (X d.a.a) h Q l (X d.f.a) o C aX di Z (af _ aK) Y R Z (af _ I) Y (λ x9 h9=>⟨af _ (p x9 h9).1,(p x9 h9).2⟩) Z (af _ B) Y aA) ?_
 rintro _ gQ ⟨rfl,dn⟩
 have bJ:=dm _ _ dn
 refine fw (V aX) (JH Z Z Z) (nt ?_)
 rcases Nf (aX) with ak | ak
 refine jT ak (sr (An Z (rt (bR (tR (tR (bR (tR (rs ?_)))))))))
 have eO:=bJ.pk []
 obtain rfl:_=J:=zj hr (N (iN m) (N (iN Z6) (N (lD Z1) (iJ (N (L) (N (ZJ (λ q=>iD d q g) Z8) (N (iN j) (N (ae aA) (ip ak)))))))))
 exact⟨Z,eO⟩
 refine jF ak (J8 (bN (JK (JI (fw (vJ (g+1)) (JN (e:=B7.wrap ((g:Int)+1)) yk f3) (Mz Z (B8 ?_)))))))
 have eQ:=bJ.pf []
 exact JX (g+1) ⟨Z,Z,Z,Z,Z,ZW⟩ (Z2.2 ⟨eQ,Y,N (L) (N (ZJ (λ q=>iD d q g) Z8) (N (iN j) (N (ae aA) (eP ak))))⟩) (by show X d.f.a - (g+1) < X d.f.a - g; omega)
 refine jF (dF bG) (B9 (JV ?_))
 have dw:iD d d.f.a 0=y3 ():=N (L) (N (ZJ (λ q=>iD d q g) (eH (ls:=d.f.a) (i:=g) Y)) Z)
 refine JV (J2 (JK (sr (An Z (rt (rs ?_))))))
 have eT:=y.pk []
 obtain rfl:_=Zk:=zj hr (N (iN m) (N (iN Z6) (N (lD Z1) (lD dw))))
 exact⟨Z,eT⟩
def sP (a:bD):Bool:=
 if((a.e.g:Nat):Int)=0 then if(((a.e.g:Nat):Int)=0)/\(((a.e.u:Nat):Int)=0)/\(((a.e.a:Nat):Int)=0)/\((a.e.j.a=[])/\(a.e.j.b=[])) then if((a.u:Nat):Int)=0 then if(a.j.a=[])/\(a.j.b=[]) then bnd (dR a.e.j) λ d=>if d=0 then bnd (dR a.j) λ e=>decide (e=0) else J else J else bnd (dR a.e.j) λ f=>if f=0 then bnd (dR a.j) λ g=>decide (g=0) else J else J else if((a.u:Nat):Int)=0 then if(a.j.a=[])/\(a.j.b=[]) then bnd (dR a.e.j) λ h=>if h=0 then bnd (dR a.j) λ i=>decide (i=0) else J else J else bnd (dR a.e.j) λ b=>if b=0 then bnd (dR a.j) λ c=>decide (c=0) else J
theorem yF (w D) (a:bD) (r Q s t R y z B S C r0) (H:Own w D w []) (Z9:Q=X a.b.a) (bn:Ro w D λ w'=>bP w' 2 r (X a.b.a) (q0 bO.J a.b.a)) (bq:X a.b.a<=s/\X a.b.a<=9223372036854775807) (Z1:r7 bf.abs z=a.a.a) (Z2:R=X a.a.a) (bu:Ro w D λ w'=>bP w' 2 t (X a.a.a) (q0 bf.J z)) (bv:X a.a.a<=y/\X a.a.a<=9223372036854775807) (bz:∀ x ∈ z,Ro w D (λ w'=>bP w' 6 x.a.A (X x.a.a) (q0 aY.J x.a.a))/\(X x.a.a<=x.a.c/\X x.a.a<=9223372036854775807)) (Z0:S=X a.f.a) (bA:Ro w D λ w'=>bP w' 1 B (X a.f.a) (q0 (eN .u64) a.f.a)) (bB:X a.f.a<=C/\X a.f.a<=9223372036854775807) (dx:X a.b.a<=140737488355328/\X a.a.a<=140737488355328/\X a.f.a<=140737488355328) (hr:sP a=r0):
    Calls v1 32 #[Zx (Zc (gX a.l a.r a.t a.s a.g r Q s t R y B S C a.k a.u a.j.a a.j.b a.e.g a.e.u a.e.a a.e.j.a a.e.j.b))] w (dM λ v w'=>v= V r0/\Own w D w' []):=by
 unfold sP at hr
 subst Z9 Z2 Z0
 have bi:=bg Z1
 refine cb Tryz.func32 ?_
 refine sr ?_
 refine cu (iL a r s t y B C) 41 H ?_
 intro f dz h
 refine An Z (JG (sr (Kz (vP f 12) (Kz (vP f 12) (Lz (vU a.e.g) h 0 E3 (Kz (Zb ((a.e.g:Int)=0)) (Mz Z ?_)))))))
 by_cases b:(a.e.g:Int)=0
 refine Gz (vP f 12) (dT b) (Ga (jd.J a.e) (dT b) h 0 Tryz.isAgg39 Tryz.sizeOf39 (Gz (Zx #[.int .u64 0, .int .u64 0, .int .u64 0, Zz ⟨Zc []⟩, Zz ⟨Zc []⟩]) (dT b) (gw (Zb (¬ (((a.e.g:Int)=0)/\((a.e.u:Int)=0)/\((a.e.a:Int)=0)/\((a.e.j.a=[])/\(a.e.j.b=[]))))) (dT b) (JZ (e:= !(Zy (((a.e.g:Int)=0)/\((a.e.u:Int)=0)/\((a.e.a:Int)=0)/\((a.e.j.a=[])/\(a.e.j.b=[]))))) (KD Z Z f1 Z (gB.struct Tryz.underlying39 f1 (Kv (fG.cons (u:=vU a.e.g) (v:= .int .u64 0) f6 Za Za ((gB.int F2).up f6) (fG.cons (u:=vU a.e.u) (v:= .int .u64 0) f6 Za Za ((gB.int F2).up f6) (fG.cons (u:=vU a.e.a) (v:= .int .u64 0) f6 Za Za ((gB.int F2).up f6) (fG.cons (u:= Zx (Zc (au.J a.e.j))) (v:= Zx #[Zz ⟨Zc []⟩, Zz ⟨Zc []⟩]) f6 Za Za (gB.struct y2 f1 (Kv (fG.cons (u:= Zz ⟨Zc a.e.j.a⟩) (v:= Zz ⟨Zc []⟩) f6 Za Za (gB.string v7) (fG.cons (u:= Zz ⟨Zc a.e.j.b⟩) (v:= Zz ⟨Zc []⟩) f6 Za Za (gB.string v7) (fG.nil.up (Nb _)))) ((ZJ (Zy (a.e.j.a=[]) && ·) kF).trans fI))) (fG.nil.up (Nb _)))))) ((ZJ (Zy ((a.e.g:Int)=0) && ·) ((ZJ (Zy ((a.e.u:Int)=0) && ·) ((ZJ (Zy ((a.e.a:Int)=0) && ·) kF).trans fI)).trans fI)).trans fI)))) ZY) (fw (Zb (¬ (((a.e.g:Int)=0)/\((a.e.u:Int)=0)/\((a.e.a:Int)=0)/\((a.e.j.a=[])/\(a.e.j.b=[]))))) (JL Z (dT b) Z) (Mz Z ?_)))))
 by_cases d:((a.e.g:Int)=0)/\((a.e.u:Int)=0)/\((a.e.a:Int)=0)/\((a.e.j.a=[])/\(a.e.j.b=[]))
 refine gw (vP f 9) (dF (Nc d)) yk (gw (vU a.u) (dF (Nc d)) (JS Z (bT.one E3 (Kk (h.cls (i:=0) Z) Z))) (gw (Zb ((a.u:Int)=0)) (dF (Nc d)) yk (gw (Zb ((a.u:Int)=0)) (dF (Nc d)) (JM Z) ?_)))
 by_cases j:(a.u:Int)=0
 refine Gz (vP f 10) (dT j) (Ga (au.J a.j) (dT j) h 0 D0 C7 (Gz (Zx #[Zz ⟨Zc []⟩, Zz ⟨Zc []⟩]) (dT j) (gw (Zb (¬ ((a.j.a=[])/\(a.j.b=[])))) (dT j) (JZ (e:= !(Zy ((a.j.a=[])/\(a.j.b=[])))) (KD Z Z f1 Z (gB.struct y2 f1 (Kv (fG.cons (u:= Zz ⟨Zc a.j.a⟩) (v:= Zz ⟨Zc []⟩) f6 Za Za (gB.string v7) (fG.cons (u:= Zz ⟨Zc a.j.b⟩) (v:= Zz ⟨Zc []⟩) f6 Za Za (gB.string v7) (fG.nil.up (Nb _)))) ((ZJ (Zy (a.j.a=[]) && ·) kF).trans fI)))) ZY) (gw (Zb (¬ ((a.j.a=[])/\(a.j.b=[])))) (dF (Nc d)) (JL Z (dT j) Z) (fw (Zb (¬ ((a.j.a=[])/\(a.j.b=[])))) (JH Z (dF (Nc d)) Z) (nt ?_))))))
 by_cases E:(a.j.a=[])/\(a.j.b=[])
 refine jF (dF (Nc E)) (sk (sr (Kz (vP f 12) (Kz (vP f 15) (La (au.J a.e.j) h 0 D0 C7 ?_)))))
 obtain⟨aa,F⟩:∃ q,dR a.e.j=q:=⟨_,Z⟩
 obtain⟨dA,aB,bV,aC,bW⟩:=JJ h
 refine cl D1 (jr _ _ a.e.j aa aB F) ?_
 rintro _ dB ⟨rfl,aD⟩
 have af:=aC _ _ aD
 refine Kz (Zb (aa=0)) (Mz Z ?_)
 by_cases l:aa=0
 refine Gz (vP f 10) (dT l) (Ga (au.J a.j) (dT l) af 0 D0 C7 ?_)
 obtain⟨Z5,Z8⟩:∃ q,dR a.j=q:=⟨_,Z⟩
 obtain⟨dC,aF,bX,aG,bY⟩:=JJ af
 refine oC (dT l) D1 (jr _ _ a.j Z5 aF Z8) ?_
 rintro _ dD ⟨rfl,aH⟩
 have bC:=aG _ _ aH
 refine Gz (Zb (Z5=0)) (dT l) (fw (Zb (Z5=0)) (JL Z (dT l) Z) (An Z (rt (rs ?_))))
 have bE:=bC.pk []
 obtain rfl:=zj hr zq7
 exact⟨Z,bE⟩
 refine T (dF l) (T (dF l) (T (dF l) (T (dF l) (fw (V J) (JH Z (dF l) Z) (An Z (rt (rs ?_)))))))
 have bF:=af.pk []
 obtain rfl:=zj hr zq6
 exact⟨Z,bF⟩
 refine jT (dT E) (sr (An Z (rt (tR (rs ?_)))))
 have bG:=h.pk []
 obtain rfl:=zj hr zq4
 exact⟨Z,bG⟩
 refine T (dF j) (T (dF j) (T (dF j) (T (dF j) (gw (V J) (dF (Nc d)) (JH Z (dF j) Z) (fw (V J) (JH Z (dF (Nc d)) Z) (nt (jf (sk (sr (Kz (vP f 12) (Kz (vP f 15) (La (au.J a.e.j) h 0 D0 C7 ?_))))))))))))
 obtain⟨ag,G⟩:∃ q,dR a.e.j=q:=⟨_,Z⟩
 obtain⟨dE,aI,bZ,aJ,cz⟩:=JJ h
 refine cl D1 (jr _ _ a.e.j ag aI G) ?_
 rintro _ dG ⟨rfl,aK⟩
 have ah:=aJ _ _ aK
 refine Kz (Zb (ag=0)) (Mz Z ?_)
 by_cases m:ag=0
 refine Gz (vP f 10) (dT m) (Ga (au.J a.j) (dT m) ah 0 D0 C7 ?_)
 obtain⟨Z6,Z4⟩:∃ q,dR a.j=q:=⟨_,Z⟩
 obtain⟨dH,aL,cB,aM,cK⟩:=JJ ah
 refine oC (dT m) D1 (jr _ _ a.j Z6 aL Z4) ?_
 rintro _ dI ⟨rfl,aN⟩
 have bH:=aM _ _ aN
 refine Gz (Zb (Z6=0)) (dT m) (fw (Zb (Z6=0)) (JL Z (dT m) Z) (An Z (rt (rs ?_))))
 have bI:=bH.pk []
 obtain rfl:=zj hr zq6
 exact⟨Z,bI⟩
 refine T (dF m) (T (dF m) (T (dF m) (T (dF m) (fw (V J) (JH Z (dF m) Z) (An Z (rt (rs ?_)))))))
 have bJ:=ah.pk []
 obtain rfl:=zj hr zq5
 exact⟨Z,bJ⟩
 refine T (dT d) (T (dT d) (T (dT d) (T (dT d) (JR Z Z Z (JR Z Z Z (JR Z Z Z (JR Z Z Z (T (dT d) (fw (V Zk) (JL Z (dT d) Z) (nt (jt (sr (An Z (rt (tR (rs ?_))))))))))))))))
 have bK:=h.pk []
 obtain rfl:=zj hr zq2
 exact⟨Z,bK⟩
 refine T (dF b) (T (dF b) (T (dF b) (T (dF b) (fw (V J) (JH Z (dF b) Z) (Mz Z (Gz (vP f 9) Z (Gl (vU a.u) Z h 0 E3 (Gz (Zb ((a.u:Int)=0)) Z (gw (Zb ((a.u:Int)=0)) Z (JM Z) ?_)))))))))
 by_cases k:(a.u:Int)=0
 refine Gz (vP f 10) (dT k) (Ga (au.J a.j) (dT k) h 0 D0 C7 (Gz (Zx #[Zz ⟨Zc []⟩, Zz ⟨Zc []⟩]) (dT k) (gw (Zb (¬ ((a.j.a=[])/\(a.j.b=[])))) (dT k) (JZ (e:= !(Zy ((a.j.a=[])/\(a.j.b=[])))) (KD Z Z f1 Z (gB.struct y2 f1 (Kv (fG.cons (u:= Zz ⟨Zc a.j.a⟩) (v:= Zz ⟨Zc []⟩) f6 Za Za (gB.string v7) (fG.cons (u:= Zz ⟨Zc a.j.b⟩) (v:= Zz ⟨Zc []⟩) f6 Za Za (gB.string v7) (fG.nil.up (Nb _)))) ((ZJ (Zy (a.j.a=[]) && ·) kF).trans fI)))) ZY) (gw (Zb (¬ ((a.j.a=[])/\(a.j.b=[])))) Z (JL Z (dT k) Z) (fw (Zb (¬ ((a.j.a=[])/\(a.j.b=[])))) (JH Z Z Z) (nt ?_))))))
 by_cases I:(a.j.a=[])/\(a.j.b=[])
 refine jF (dF (Nc I)) (sk (sr (Kz (vP f 12) (Kz (vP f 15) (La (au.J a.e.j) h 0 D0 C7 ?_)))))
 obtain⟨ai,Z7⟩:∃ q,dR a.e.j=q:=⟨_,Z⟩
 obtain⟨dJ,aO,cO,aP,cZ⟩:=JJ h
 refine cl D1 (jr _ _ a.e.j ai aO Z7) ?_
 rintro _ dK ⟨rfl,aQ⟩
 have aj:=aP _ _ aQ
 refine Kz (Zb (ai=0)) (Mz Z ?_)
 by_cases n:ai=0
 refine Gz (vP f 10) (dT n) (Ga (au.J a.j) (dT n) aj 0 D0 C7 ?_)
 obtain⟨P,Z3⟩:∃ q,dR a.j=q:=⟨_,Z⟩
 obtain⟨dL,aR,df,aS,dh⟩:=JJ aj
 refine oC (dT n) D1 (jr _ _ a.j P aR Z3) ?_
 rintro _ dN ⟨rfl,aT⟩
 have bL:=aS _ _ aT
 refine Gz (Zb (P=0)) (dT n) (fw (Zb (P=0)) (JL Z (dT n) Z) (An Z (rt (rs ?_))))
 have bM:=bL.pk []
 obtain rfl:=zj hr zq6
 exact⟨Z,bM⟩
 refine T (dF n) (T (dF n) (T (dF n) (T (dF n) (fw (V J) (JH Z (dF n) Z) (An Z (rt (rs ?_)))))))
 have aU:=aj.pk []
 obtain rfl:=zj hr zq5
 exact⟨Z,aU⟩
 refine jT (dT I) (sr (An Z (rt (tR (rs ?_)))))
 have aV:=h.pk []
 obtain rfl:=zj hr zq3
 exact⟨Z,aV⟩
 refine T (dF k) (T (dF k) (T (dF k) (T (dF k) (gw (V J) Z (JH Z (dF k) Z) (fw (V J) (JH Z Z Z) (nt (jf (sk (sr (Kz (vP f 12) (Kz (vP f 15) (La (au.J a.e.j) h 0 D0 C7 ?_))))))))))))
 obtain⟨K,o⟩:∃ q,dR a.e.j=q:=⟨_,Z⟩
 obtain⟨di,ak,bN,av,bQ⟩:=JJ h
 refine cl D1 (jr _ _ a.e.j K ak o) ?_
 rintro _ dm ⟨rfl,ax⟩
 have L:=av _ _ ax
 refine Kz (Zb (K=0)) (Mz Z ?_)
 by_cases g:K=0
 refine Gz (vP f 10) (dT g) (Ga (au.J a.j) (dT g) L 0 D0 C7 ?_)
 obtain⟨p,M⟩:∃ q,dR a.j=q:=⟨_,Z⟩
 obtain⟨dn,ay,bR,az,bS⟩:=JJ L
 refine oC (dT g) D1 (jr _ _ a.j p ay M) ?_
 rintro _ dw ⟨rfl,aA⟩
 have aW:=az _ _ aA
 refine Gz (Zb (p=0)) (dT g) (fw (Zb (p=0)) (JL Z (dT g) Z) (An Z (rt (rs ?_))))
 have aX:=aW.pk []
 obtain rfl:=zj hr zq5
 exact⟨Z,aX⟩
 refine T (dF g) (T (dF g) (T (dF g) (T (dF g) (fw (V J) (JH Z (dF g) Z) (An Z (rt (rs ?_)))))))
 have aZ:=L.pk []
 obtain rfl:=zj hr zq4
 exact⟨Z,aZ⟩
def kT (a:Bool):Int:=
 if a=Zk then 0 else 1
theorem oo (w D b e) (H:Own w D w []) (hr:kT b=e):
    Calls v1 28 #[V b] w (dM λ v w'=>v=vI e/\Own w D w' []):=by
 unfold kT at hr
 refine cb Tryz.func28 ?_
 refine sr (An Z (JG (sr (Mz Z (Kz (V (!b)) (nt ?_))))))
 rcases Nf (b) with a | a
 refine jF (cn a) (sk (sr (An Z (rt (rs ?_)))))
 have c:=H.pk []
 obtain rfl:=zj hr zq1
 exact⟨Z,c⟩
 refine jT (cn a) (sr (An Z (rt (tR (rs ?_)))))
 have d:=H.pk []
 obtain rfl:=zj hr zq1
 exact⟨Z,d⟩
def lW (i:bD):Int:=
 bnd (nE i.l 4) λ b=>if b=Zk then bnd (nV i.b.a) λ c=>if c=0 then bnd (sO i) λ d=>if d=Zk then bnd (sP i) λ e=>bnd (kT e) λ f=>f else bnd (kT J) λ g=>g else bnd (kT J) λ h=>h else bnd (kT J) λ a=>a
theorem rR (w D) (a:bD) (e F b h G f m i I g r0) (H:Own w D w []) (P:F=X a.b.a) (o:Ro w D λ w'=>bP w' 2 e (X a.b.a) (q0 bO.J a.b.a)) (aW:X a.b.a<=b/\X a.b.a<=9223372036854775807) (p:r7 bf.abs m=a.a.a) (Q:G=X a.a.a) (u:Ro w D λ w'=>bP w' 2 h (X a.a.a) (q0 bf.J m)) (aX:X a.a.a<=f/\X a.a.a<=9223372036854775807) (j:∀ x ∈ m,Ro w D (λ w'=>bP w' 6 x.a.A (X x.a.a) (q0 aY.J x.a.a))/\(X x.a.a<=x.a.c/\X x.a.a<=9223372036854775807)) (R:I=X a.f.a) (y:Ro w D λ w'=>bP w' 1 i (X a.f.a) (q0 (eN .u64) a.f.a)) (aZ:X a.f.a<=g/\X a.f.a<=9223372036854775807) (bT:X a.b.a<=140737488355328/\X a.a.a<=140737488355328/\X a.f.a<=140737488355328) (hr:lW a=r0):
    Calls v1 17 #[Zx (Zc (gX a.l a.r a.t a.s a.g e F b h G f i I g a.k a.u a.j.a a.j.b a.e.g a.e.u a.e.a a.e.j.a a.e.j.b))] w (dM λ v w'=>v=vI r0/\Own w D w' []):=by
 unfold lW at hr
 subst P Q R
 have aV:=bg p
 refine cb Tryz.func17 ?_
 refine sr ?_
 refine cu (iL a e b h f i g) 41 H ?_
 intro Z0 bU aa
 refine Ar Z (Kz (vP Z0 0) (Lz (vI a.l) aa 0 B5 ?_))
 obtain⟨af,n⟩:∃ q,nE a.l 4=q:=⟨_,Z⟩
 obtain⟨bV,ag,bE,ah,bF⟩:=JJ aa
 refine cl E7 (rQ _ _ a.l 4 af ag n) ?_
 rintro _ bW ⟨rfl,ai⟩
 have S:=ah _ _ ai
 refine Mz Z ?_
 rcases Nf (af) with d | d
 refine Gz (vP Z0 5) d (Gl (W e (X a.b.a) b) d S 0 Tryz.isAgg33 ?_)
 obtain⟨z,r⟩:∃ q,nV a.b.a=q:=⟨_,Z⟩
 obtain⟨bX,aj,ak,au,bG⟩:=JJ S
 refine KF Z Z d Z (J6 Tryz.call30 Z (sN _ _ e (X a.b.a) b a.b.a z aj (ak _ o) Z Y r) ?_)
 rintro _ bY ⟨rfl,av,Z7⟩
 have Z8:=au _ _ av
 replace Z7: ¬ (z=0)\/(1<=X a.b.a/\X a.b.a<=6):=Z7
 refine Gz (Zb (z=0)) d (fw (Zb (z=0)) (JL Z d Z) (Mz Z ?_))
 by_cases k:z=0
 refine Ga (iL a e b h f i g) (dT k) Z8 0 F0 F1 ?_
 obtain⟨Z4,B⟩:∃ q,sO a=q:=⟨_,Z⟩
 obtain⟨bZ,ax,s,ay,bH⟩:=JJ Z8
 refine oC (decide_eq_true k) Tryz.call31 (yE _ _ a e (X a.b.a) b h (X a.a.a) f m i (X a.f.a) g Z4 ax Z (s _ o) Y p Z (s _ u) Y (λ x9 h9=>⟨s _ (j x9 h9).1,(j x9 h9).2⟩) Z (s _ y) Y g6 B) ?_
 rintro _ cz ⟨rfl,aB⟩
 have Z3:=ay _ _ aB
 refine fw (V Z4) (JL Z (dT k) Z) (Mz Z ?_)
 rcases Nf (Z4) with l | l
 refine Ga (iL a e b h f i g) l Z3 0 F0 F1 ?_
 obtain⟨E,K⟩:∃ q,sP a=q:=⟨_,Z⟩
 obtain⟨cB,aC,t,aD,bI⟩:=JJ Z3
 refine KF Z Z l Z (J6 Tryz.call32 Z (yF _ _ a e (X a.b.a) b h (X a.a.a) f m i (X a.f.a) g E aC Z (t _ o) Y p Z (t _ u) Y (λ x9 h9=>⟨t _ (j x9 h9).1,(j x9 h9).2⟩) Z (t _ y) Y g6 K) ?_)
 rintro _ cK ⟨rfl,aF⟩
 have bi:=aD _ _ aF
 refine fw (V E) (JL Z l Z) ?_
 obtain⟨aG,L⟩:∃ q,kT E=q:=⟨_,Z⟩
 obtain⟨cO,aH,bJ,aI,bK⟩:=JJ bi
 refine cl G0 (oo _ _ E aG aH L) ?_
 rintro _ cZ ⟨rfl,aJ⟩
 have bn:=aI _ _ aJ
 refine An Z (rt (rs ?_))
 have bq:=bn.pk []
 obtain rfl:=zj hr zq8
 exact⟨Z,bq⟩
 refine T l (T l (fw (V J) (JH Z l Z) ?_))
 obtain⟨aK,M⟩:∃ q,kT J=q:=⟨_,Z⟩
 obtain⟨df,aL,bL,aM,bM⟩:=JJ Z3
 refine cl G0 (oo _ _ J aK aL M) ?_
 rintro _ dh ⟨rfl,aN⟩
 have bu:=aM _ _ aN
 refine An Z (rt (rs ?_))
 have bv:=bu.pk []
 obtain rfl:=zj hr zq7
 exact⟨Z,bv⟩
 refine T (dF k) (T (dF k) (fw (V J) (JH Z (dF k) Z) (Mz Z (T Z (T Z (fw (V J) (JH Z Z Z) ?_))))))
 obtain⟨aO,Z5⟩:∃ q,kT J=q:=⟨_,Z⟩
 obtain⟨di,aP,bN,aQ,bQ⟩:=JJ Z8
 refine cl G0 (oo _ _ J aO aP Z5) ?_
 rintro _ dm ⟨rfl,aR⟩
 have bz:=aQ _ _ aR
 refine An Z (rt (rs ?_))
 have aS:=bz.pk []
 obtain rfl:=zj hr zq5
 exact⟨Z,aS⟩
 refine T d (T d (T d (T d (fw (V J) (JH Z d Z) (Mz Z (T Z (T Z (fw (V J) (JH Z Z Z) (Mz Z (T Z (T Z (fw (V J) (JH Z Z Z) ?_))))))))))))
 obtain⟨Z6,C⟩:∃ q,kT J=q:=⟨_,Z⟩
 obtain⟨bR,Z9,bA,Z1,bB⟩:=JJ S
 refine cl G0 (oo _ _ J Z6 Z9 C) ?_
 rintro _ bS ⟨rfl,Z2⟩
 have aT:=Z1 _ _ Z2
 refine An Z (rt (rs ?_))
 have aU:=aT.pk []
 obtain rfl:=zj hr zq3
 exact⟨Z,aU⟩
end
open Int renaming toNat->U
open IntKind renaming u64->I0
open Ll renaming q->O
open _root_.Go.Proofs.Tryz renaming call63->H3,isAgg124->G4,isAgg4->H4,sizeOf124->G3,underlying25->H0,underlying4->H2,underlying45->H1
section
open Go.RowKit
theorem Gs:Elem v1 122 183 1 8:=nz (z:= .int .i64 0) Tryz.underlying122 f1 Z f6
structure mf where q::
 e:Int
 b:Int
 a:Sv Int
def mf.J (x:mf):List ZX:= [.int .i64 x.e, .int .i64 x.b, W x.a.A (X x.a.a) x.a.c]
instance:Bk mf:=⟨λ x _=>bk x.e+(bk x.b+(bk x.a+(0)))⟩
theorem mf.len:∀ x,X (mf.J x)=3:=λ _=>rfl
theorem mf.one:∀ x, ∀ u ∈ mf.J x,u.oneCell'=Zk:=λ x u hu=>by
 simp only [mf.J,u5,v6,or_false] at hu
 rcases hu with rfl | rfl | rfl <;> rfl
def MM (w:ZQ) (x:mf):Prop:=((-9223372036854775808)<=x.e/\x.e<=9223372036854775807)/\((-9223372036854775808)<=x.b/\x.b<=9223372036854775807)/\(nA w 1 8 (eI .i64) (λ n=>(-9223372036854775808)<=n/\n<=9223372036854775807) x.a)
instance:Inhabited mf:=⟨⟨ZZ,ZZ,ZZ⟩⟩
structure gz where q::
 e:Int
 b:Int
 a:Ll Int
instance:Inhabited gz:=⟨⟨ZZ,ZZ,ZZ⟩⟩
def mf.abs (x:mf):gz:=⟨x.e,x.b,⟨x.a.a⟩⟩
def MJ (x:mf):List HP:= [row x.a.A (X x.a.a) x.a.c (q0 (eI .i64) x.a.a) 183 1]
def rq (a:Int):gz × Bool:=
 if a<=0 then(gz.q 0 0 (O []),J) else if a >= 15 then(gz.q 0 0 (O []),J) else if((U a:Nat):Int)=1 then(gz.q 2 0 (O ([0,1,7])),Zk) else if((U a:Nat):Int)=2 then(gz.q 0 2 (O ([0,1,2,3])),Zk) else if((U a:Nat):Int)=3 then(gz.q 0 1 (O ([4,5,6,7])),Zk) else if((U a:Nat):Int)=4 then(gz.q 1 0 (O ([4,2,3])),Zk) else if((U a:Nat):Int)=5 then(gz.q 0 1 (O ([4,8])),Zk) else if((U a:Nat):Int)=6 then(gz.q 1 0 (O ([4])),Zk) else if((U a:Nat):Int)=7 then(gz.q 1 0 (O ([4])),Zk) else if((U a:Nat):Int)=8 then(gz.q 0 1 (O ([9,6,10,11])),Zk) else if((U a:Nat):Int)=9 then(gz.q 1 0 (O ([9])),Zk) else if((U a:Nat):Int)=10 then(gz.q 0 1 (O ([9,10,12,8,13])),Zk) else if((U a:Nat):Int)=11 then(gz.q 1 1 (O ([10,14,15,13,7])),Zk) else if((U a:Nat):Int)=12 then(gz.q 1 1 (O ([10,14,15])),Zk) else if((U a:Nat):Int)=13 then(gz.q 1 0 (O ([10])),Zk) else(gz.q 1 0 (O ([10])),Zk)
theorem yR (w D c) (r0:gz) (r1) (H:Own w D w []) (hr:rq c=(r0,r1)):
    Calls v1 45 #[vI c] w (dM λ v w'=> ∃ Z6 P,v= .tuple #[Zx #[vI r0.e,vI r0.b, W Z6 (X r0.a.a) P], V r1]/\Own w D w' [row Z6 (X r0.a.a) P (q0 (eI .i64) r0.a.a) 183 1]/\(X r0.a.a<=5)):=by
 unfold rq at hr
 refine cb Tryz.func45 ?_
 refine sr ?_
 refine cu [vI 0,vI 0, W Zv 0 0] 124 H ?_
 intro cB cZ bu
 refine Ar Z ?_
 refine jW [vI 0,vI 1,vI 7] 183 1 3 bu ?_
 intro s df ag
 replace ag:=Ke (y:=row s 3 3 (q0 (eI .i64) ([0,1,7])) 183 1) Z ag
 refine Kz (Zx #[vI 2,vI 0, W s 3 3]) ?_
 refine jW [vI 0,vI 1,vI 2,vI 3] 183 1 4 ag ?_
 intro t dh ah
 replace ah:=Ke (y:=row t 4 4 (q0 (eI .i64) ([0,1,2,3])) 183 1) Z ah
 refine Kz (Zx #[vI 0,vI 2, W t 4 4]) ?_
 refine jW [vI 4,vI 5,vI 6,vI 7] 183 1 4 ah ?_
 intro u di ai
 replace ai:=Ke (y:=row u 4 4 (q0 (eI .i64) ([4,5,6,7])) 183 1) Z ai
 refine Kz (Zx #[vI 0,vI 1, W u 4 4]) ?_
 refine jW [vI 4,vI 2,vI 3] 183 1 3 ai ?_
 intro x dm aj
 replace aj:=Ke (y:=row x 3 3 (q0 (eI .i64) ([4,2,3])) 183 1) Z aj
 refine Kz (Zx #[vI 1,vI 0, W x 3 3]) ?_
 refine jW [vI 4,vI 8] 183 1 2 aj ?_
 intro z dn ak
 replace ak:=Ke (y:=row z 2 2 (q0 (eI .i64) ([4,8])) 183 1) Z ak
 refine Kz (Zx #[vI 0,vI 1, W z 2 2]) ?_
 refine jW [vI 4] 183 1 1 ak ?_
 intro A dw au
 replace au:=Ke (y:=row A 1 1 (q0 (eI .i64) ([4])) 183 1) Z au
 refine Kz (Zx #[vI 1,vI 0, W A 1 1]) ?_
 refine jW [vI 4] 183 1 1 au ?_
 intro B dx av
 replace av:=Ke (y:=row B 1 1 (q0 (eI .i64) ([4])) 183 1) Z av
 refine Kz (Zx #[vI 1,vI 0, W B 1 1]) ?_
 refine jW [vI 9,vI 6,vI 10,vI 11] 183 1 4 av ?_
 intro C dz ax
 replace ax:=Ke (y:=row C 4 4 (q0 (eI .i64) ([9,6,10,11])) 183 1) Z ax
 refine Kz (Zx #[vI 0,vI 1, W C 4 4]) ?_
 refine jW [vI 9] 183 1 1 ax ?_
 intro E dA ay
 replace ay:=Ke (y:=row E 1 1 (q0 (eI .i64) ([9])) 183 1) Z ay
 refine Kz (Zx #[vI 1,vI 0, W E 1 1]) ?_
 refine jW [vI 9,vI 10,vI 12,vI 8,vI 13] 183 1 5 ay ?_
 intro F dB az
 replace az:=Ke (y:=row F 5 5 (q0 (eI .i64) ([9,10,12,8,13])) 183 1) Z az
 refine Kz (Zx #[vI 0,vI 1, W F 5 5]) ?_
 refine jW [vI 10,vI 14,vI 15,vI 13,vI 7] 183 1 5 az ?_
 intro G dC aA
 replace aA:=Ke (y:=row G 5 5 (q0 (eI .i64) ([10,14,15,13,7])) 183 1) Z aA
 refine Kz (Zx #[vI 1,vI 1, W G 5 5]) ?_
 refine jW [vI 10,vI 14,vI 15] 183 1 3 aA ?_
 intro I dD aB
 replace aB:=Ke (y:=row I 3 3 (q0 (eI .i64) ([10,14,15])) 183 1) Z aB
 refine Kz (Zx #[vI 1,vI 1, W I 3 3]) ?_
 refine jW [vI 10] 183 1 1 aB ?_
 intro Z7 dE aC
 replace aC:=Ke (y:=row Z7 1 1 (q0 (eI .i64) ([10])) 183 1) Z aC
 refine Kz (Zx #[vI 1,vI 0, W Z7 1 1]) ?_
 refine jW [vI 10] 183 1 1 aC ?_
 intro K dG aD
 replace aD:=Ke (y:=row K 1 1 (q0 (eI .i64) ([10])) 183 1) Z aD
 refine Kz (Zx #[vI 1,vI 0, W K 1 1]) (Kz (Zx #[vI 0,vI 0, W Zv 0 0,vI 2,vI 0, W s 3 3,vI 0,vI 2, W t 4 4,vI 0,vI 1, W u 4 4,vI 1,vI 0, W x 3 3,vI 0,vI 1, W z 2 2,vI 1,vI 0, W A 1 1,vI 1,vI 0, W B 1 1,vI 0,vI 1, W C 4 4,vI 1,vI 0, W E 1 1,vI 0,vI 1, W F 5 5,vI 1,vI 1, W G 5 5,vI 1,vI 1, W I 3 3,vI 1,vI 0, W Z7 1 1,vI 1,vI 0, W K 1 1]) ?_)
 refine cu [vI 0,vI 0, W Zv 0 0,vI 0,vI 0, W Zv 0 0,vI 0,vI 0, W Zv 0 0,vI 0,vI 0, W Zv 0 0,vI 0,vI 0, W Zv 0 0,vI 0,vI 0, W Zv 0 0,vI 0,vI 0, W Zv 0 0,vI 0,vI 0, W Zv 0 0,vI 0,vI 0, W Zv 0 0,vI 0,vI 0, W Zv 0 0,vI 0,vI 0, W Zv 0 0,vI 0,vI 0, W Zv 0 0,vI 0,vI 0, W Zv 0 0,vI 0,vI 0, W Zv 0 0,vI 0,vI 0, W Zv 0 0] 184 aD ?_
 intro g dH bv
 refine cO [vI 0,vI 0, W Zv 0 0,vI 2,vI 0, W s 3 3,vI 0,vI 2, W t 4 4,vI 0,vI 1, W u 4 4,vI 1,vI 0, W x 3 3,vI 0,vI 1, W z 2 2,vI 1,vI 0, W A 1 1,vI 1,vI 0, W B 1 1,vI 0,vI 1, W C 4 4,vI 1,vI 0, W E 1 1,vI 0,vI 1, W F 5 5,vI 1,vI 1, W G 5 5,vI 1,vI 1, W I 3 3,vI 1,vI 0, W Z7 1 1,vI 1,vI 0, W K 1 1] 0 bv Tryz.sizeOf184 ?_
 intro dI a
 refine nt (JG (sr (Mz Z (Kz (Zb (c<=0)) (Mz Z ?_)))))
 by_cases b:c<=0
 refine T (dT b) (T (dT b) (fw (V Zk) (JL Z (dT b) Z) (nt (jt (sr (Kz (Zx #[vI 0,vI 0, W Zv 0 0]) ?_))))))
 have bz:=a.pf [15]
 refine cO [vI 0,vI 0, W Zv 0 0] 0 bz G3 ?_
 intro bA aF
 refine An Z (rt (tR (JY (gH (vs:= [Zx #[vI 0,vI 0, W Zv 0 0], V J]) Z (bW.cell Z (JW (cs:= [vI 0,vI 0, W Zv 0 0]) G4 G3 ((aF.cls (i:=0) Z).lit (k:=0) (m:=3) Z)) (bW.tmp Z bW.nil)) (M9 Z)) ?_)))
 have bB:Own w D bA (row Zv 0 0 (q0 (eI .i64) []) 183 1::_):=aF.free (cK 183 1)
 have bC:=bB.pk [0]
 obtain⟨rfl,rfl⟩:=fK (zj hr zq1)
 exact⟨Zv,0,Z,bC,i0⟩
 refine gw (vI c) (dF b) (JM Z) (Gz (Zb (c >= 15)) (dF b) (fw (Zb (c >= 15)) (JH Z (dF b) Z) (nt ?_)))
 by_cases d:c >= 15
 refine jT (dT d) (sr (Kz (Zx #[vI 0,vI 0, W Zv 0 0]) ?_))
 have bD:=a.pf [15]
 refine cO [vI 0,vI 0, W Zv 0 0] 0 bD G3 ?_
 intro bE aG
 refine An Z (rt (tR (JY (gH (vs:= [Zx #[vI 0,vI 0, W Zv 0 0], V J]) Z (bW.cell Z (JW (cs:= [vI 0,vI 0, W Zv 0 0]) G4 G3 ((aG.cls (i:=0) Z).lit (k:=0) (m:=3) Z)) (bW.tmp Z bW.nil)) (M9 Z)) ?_)))
 have bF:Own w D bE (row Zv 0 0 (q0 (eI .i64) []) 183 1::_):=aG.free (cK 183 1)
 have bG:=bF.pk [0]
 obtain⟨rfl,rfl⟩:=fK (zj hr zq2)
 exact⟨Zv,0,Z,bG,i0⟩
 refine jF (dF d) (sk (sr (fw (vJ (U c)) (JN (e:=c) (JM Z) Y) ?_)))
 by_cases h:((U c:Nat):Int)=1
 refine fw (vP g 3) (by(try unfold vJ); rw [show ((U c:Nat):Int)=1 from by omega]; exact yk) (La ([vI 2,vI 0, W s 3 3]) a 0 G4 G3 ?_)
 have bH:=a.pf [15]
 refine cO [vI 2,vI 0, W s 3 3] 0 bH G3 ?_
 intro dJ aH
 refine An Z (rt (JY (gH (vs:= [Zx #[vI 2,vI 0, W s 3 3], V Zk]) Z (bW.cell Z (JW (cs:= [vI 2,vI 0, W s 3 3]) G4 G3 ((aH.cls (i:=0) Z).lit (k:=0) (m:=3) Z)) (bW.tmp Z bW.nil)) (M9 Z)) ?_))
 have bI:=aH.pk [15]
 obtain⟨rfl,rfl⟩:=fK (zj hr zq3)
 exact⟨s,3,Z,bI,i0⟩
 by_cases l:((U c:Nat):Int)=2
 refine fw (vP g 6) (by(try unfold vJ); rw [show ((U c:Nat):Int)=2 from by omega]; exact yk) (La ([vI 0,vI 2, W t 4 4]) a 0 G4 G3 ?_)
 have bJ:=a.pf [15]
 refine cO [vI 0,vI 2, W t 4 4] 0 bJ G3 ?_
 intro dK aI
 refine An Z (rt (JY (gH (vs:= [Zx #[vI 0,vI 2, W t 4 4], V Zk]) Z (bW.cell Z (JW (cs:= [vI 0,vI 2, W t 4 4]) G4 G3 ((aI.cls (i:=0) Z).lit (k:=0) (m:=3) Z)) (bW.tmp Z bW.nil)) (M9 Z)) ?_))
 have bK:=aI.pk [14]
 obtain⟨rfl,rfl⟩:=fK (zj hr zq4)
 exact⟨t,4,Z,bK,i0⟩
 by_cases o:((U c:Nat):Int)=3
 refine fw (vP g 9) (by(try unfold vJ); rw [show ((U c:Nat):Int)=3 from by omega]; exact yk) (La ([vI 0,vI 1, W u 4 4]) a 0 G4 G3 ?_)
 have bL:=a.pf [15]
 refine cO [vI 0,vI 1, W u 4 4] 0 bL G3 ?_
 intro dL aJ
 refine An Z (rt (JY (gH (vs:= [Zx #[vI 0,vI 1, W u 4 4], V Zk]) Z (bW.cell Z (JW (cs:= [vI 0,vI 1, W u 4 4]) G4 G3 ((aJ.cls (i:=0) Z).lit (k:=0) (m:=3) Z)) (bW.tmp Z bW.nil)) (M9 Z)) ?_))
 have bM:=aJ.pk [13]
 obtain⟨rfl,rfl⟩:=fK (zj hr zq5)
 exact⟨u,4,Z,bM,i0⟩
 by_cases p:((U c:Nat):Int)=4
 refine fw (vP g 12) (by(try unfold vJ); rw [show ((U c:Nat):Int)=4 from by omega]; exact yk) (La ([vI 1,vI 0, W x 3 3]) a 0 G4 G3 ?_)
 have bN:=a.pf [15]
 refine cO [vI 1,vI 0, W x 3 3] 0 bN G3 ?_
 intro bP Q
 refine An Z (rt (JY (gH (vs:= [Zx #[vI 1,vI 0, W x 3 3], V Zk]) Z (bW.cell Z (JW (cs:= [vI 1,vI 0, W x 3 3]) G4 G3 ((Q.cls (i:=0) Z).lit (k:=0) (m:=3) Z)) (bW.tmp Z bW.nil)) (M9 Z)) ?_))
 have aK:=Q.pk [12]
 obtain⟨rfl,rfl⟩:=fK (zj hr zq6)
 exact⟨x,3,Z,aK,i0⟩
 by_cases f:((U c:Nat):Int)=5
 refine fw (vP g 15) (by(try unfold vJ); rw [show ((U c:Nat):Int)=5 from by omega]; exact yk) (La ([vI 0,vI 1, W z 2 2]) a 0 G4 G3 ?_)
 have aL:=a.pf [15]
 refine cO [vI 0,vI 1, W z 2 2] 0 aL G3 ?_
 intro bQ R
 refine An Z (rt (JY (gH (vs:= [Zx #[vI 0,vI 1, W z 2 2], V Zk]) Z (bW.cell Z (JW (cs:= [vI 0,vI 1, W z 2 2]) G4 G3 ((R.cls (i:=0) Z).lit (k:=0) (m:=3) Z)) (bW.tmp Z bW.nil)) (M9 Z)) ?_))
 have aM:=R.pk [11]
 obtain⟨rfl,rfl⟩:=fK (zj hr zq7)
 exact⟨z,2,Z,aM,i0⟩
 by_cases j:((U c:Nat):Int)=6
 refine fw (vP g 18) (by(try unfold vJ); rw [show ((U c:Nat):Int)=6 from by omega]; exact yk) (La ([vI 1,vI 0, W A 1 1]) a 0 G4 G3 ?_)
 have aN:=a.pf [15]
 refine cO [vI 1,vI 0, W A 1 1] 0 aN G3 ?_
 intro bR S
 refine An Z (rt (JY (gH (vs:= [Zx #[vI 1,vI 0, W A 1 1], V Zk]) Z (bW.cell Z (JW (cs:= [vI 1,vI 0, W A 1 1]) G4 G3 ((S.cls (i:=0) Z).lit (k:=0) (m:=3) Z)) (bW.tmp Z bW.nil)) (M9 Z)) ?_))
 have aO:=S.pk [10]
 obtain⟨rfl,rfl⟩:=fK (zj hr zq8)
 exact⟨A,1,Z,aO,i0⟩
 by_cases n:((U c:Nat):Int)=7
 refine fw (vP g 21) (by(try unfold vJ); rw [show ((U c:Nat):Int)=7 from by omega]; exact yk) (La ([vI 1,vI 0, W B 1 1]) a 0 G4 G3 ?_)
 have aP:=a.pf [15]
 refine cO [vI 1,vI 0, W B 1 1] 0 aP G3 ?_
 intro bS Z8
 refine An Z (rt (JY (gH (vs:= [Zx #[vI 1,vI 0, W B 1 1], V Zk]) Z (bW.cell Z (JW (cs:= [vI 1,vI 0, W B 1 1]) G4 G3 ((Z8.cls (i:=0) Z).lit (k:=0) (m:=3) Z)) (bW.tmp Z bW.nil)) (M9 Z)) ?_))
 have aQ:=Z8.pk [9]
 obtain⟨rfl,rfl⟩:=fK (zj hr zq9)
 exact⟨B,1,Z,aQ,i0⟩
 by_cases q:((U c:Nat):Int)=8
 refine fw (vP g 24) (by(try unfold vJ); rw [show ((U c:Nat):Int)=8 from by omega]; exact yk) (La ([vI 0,vI 1, W C 4 4]) a 0 G4 G3 ?_)
 have aR:=a.pf [15]
 refine cO [vI 0,vI 1, W C 4 4] 0 aR G3 ?_
 intro bT Z4
 refine An Z (rt (JY (gH (vs:= [Zx #[vI 0,vI 1, W C 4 4], V Zk]) Z (bW.cell Z (JW (cs:= [vI 0,vI 1, W C 4 4]) G4 G3 ((Z4.cls (i:=0) Z).lit (k:=0) (m:=3) Z)) (bW.tmp Z bW.nil)) (M9 Z)) ?_))
 have aS:=Z4.pk [8]
 obtain⟨rfl,rfl⟩:=fK (zj hr zq10)
 exact⟨C,4,Z,aS,i0⟩
 by_cases r:((U c:Nat):Int)=9
 refine fw (vP g 27) (by(try unfold vJ); rw [show ((U c:Nat):Int)=9 from by omega]; exact yk) (La ([vI 1,vI 0, W E 1 1]) a 0 G4 G3 ?_)
 have aT:=a.pf [15]
 refine cO [vI 1,vI 0, W E 1 1] 0 aT G3 ?_
 intro bU Z3
 refine An Z (rt (JY (gH (vs:= [Zx #[vI 1,vI 0, W E 1 1], V Zk]) Z (bW.cell Z (JW (cs:= [vI 1,vI 0, W E 1 1]) G4 G3 ((Z3.cls (i:=0) Z).lit (k:=0) (m:=3) Z)) (bW.tmp Z bW.nil)) (M9 Z)) ?_))
 have aU:=Z3.pk [7]
 obtain⟨rfl,rfl⟩:=fK (zj hr zq11)
 exact⟨E,1,Z,aU,i0⟩
 by_cases L:((U c:Nat):Int)=10
 refine fw (vP g 30) (by(try unfold vJ); rw [show ((U c:Nat):Int)=10 from by omega]; exact yk) (La ([vI 0,vI 1, W F 5 5]) a 0 G4 G3 ?_)
 have aV:=a.pf [15]
 refine cO [vI 0,vI 1, W F 5 5] 0 aV G3 ?_
 intro bV Z9
 refine An Z (rt (JY (gH (vs:= [Zx #[vI 0,vI 1, W F 5 5], V Zk]) Z (bW.cell Z (JW (cs:= [vI 0,vI 1, W F 5 5]) G4 G3 ((Z9.cls (i:=0) Z).lit (k:=0) (m:=3) Z)) (bW.tmp Z bW.nil)) (M9 Z)) ?_))
 have aW:=Z9.pk [6]
 obtain⟨rfl,rfl⟩:=fK (zj hr zq12)
 exact⟨F,5,Z,aW,i0⟩
 by_cases M:((U c:Nat):Int)=11
 refine fw (vP g 33) (by(try unfold vJ); rw [show ((U c:Nat):Int)=11 from by omega]; exact yk) (La ([vI 1,vI 1, W G 5 5]) a 0 G4 G3 ?_)
 have aX:=a.pf [15]
 refine cO [vI 1,vI 1, W G 5 5] 0 aX G3 ?_
 intro bX Z1
 refine An Z (rt (JY (gH (vs:= [Zx #[vI 1,vI 1, W G 5 5], V Zk]) Z (bW.cell Z (JW (cs:= [vI 1,vI 1, W G 5 5]) G4 G3 ((Z1.cls (i:=0) Z).lit (k:=0) (m:=3) Z)) (bW.tmp Z bW.nil)) (M9 Z)) ?_))
 have aY:=Z1.pk [5]
 obtain⟨rfl,rfl⟩:=fK (zj hr zq13)
 exact⟨G,5,Z,aY,i0⟩
 by_cases Z5:((U c:Nat):Int)=12
 refine fw (vP g 36) (by(try unfold vJ); rw [show ((U c:Nat):Int)=12 from by omega]; exact yk) (La ([vI 1,vI 1, W I 3 3]) a 0 G4 G3 ?_)
 have aZ:=a.pf [15]
 refine cO [vI 1,vI 1, W I 3 3] 0 aZ G3 ?_
 intro bY Z2
 refine An Z (rt (JY (gH (vs:= [Zx #[vI 1,vI 1, W I 3 3], V Zk]) Z (bW.cell Z (JW (cs:= [vI 1,vI 1, W I 3 3]) G4 G3 ((Z2.cls (i:=0) Z).lit (k:=0) (m:=3) Z)) (bW.tmp Z bW.nil)) (M9 Z)) ?_))
 have bf:=Z2.pk [4]
 obtain⟨rfl,rfl⟩:=fK (zj hr zq14)
 exact⟨I,3,Z,bf,i0⟩
 by_cases Z0:((U c:Nat):Int)=13
 refine fw (vP g 39) (by(try unfold vJ); rw [show ((U c:Nat):Int)=13 from by omega]; exact yk) (La ([vI 1,vI 0, W Z7 1 1]) a 0 G4 G3 ?_)
 have bg:=a.pf [15]
 refine cO [vI 1,vI 0, W Z7 1 1] 0 bg G3 ?_
 intro bZ aa
 refine An Z (rt (JY (gH (vs:= [Zx #[vI 1,vI 0, W Z7 1 1], V Zk]) Z (bW.cell Z (JW (cs:= [vI 1,vI 0, W Z7 1 1]) G4 G3 ((aa.cls (i:=0) Z).lit (k:=0) (m:=3) Z)) (bW.tmp Z bW.nil)) (M9 Z)) ?_))
 have bi:=aa.pk [3]
 obtain⟨rfl,rfl⟩:=fK (zj hr zq15)
 exact⟨Z7,1,Z,bi,i0⟩
 refine fw (vP g 42) (by(try unfold vJ); rw [show ((U c:Nat):Int)=14 from by omega]; exact yk) (La ([vI 1,vI 0, W K 1 1]) a 0 G4 G3 ?_)
 have bn:=a.pf [15]
 refine cO [vI 1,vI 0, W K 1 1] 0 bn G3 ?_
 intro cz ae
 refine An Z (rt (JY (gH (vs:= [Zx #[vI 1,vI 0, W K 1 1], V Zk]) Z (bW.cell Z (JW (cs:= [vI 1,vI 0, W K 1 1]) G4 G3 ((ae.cls (i:=0) Z).lit (k:=0) (m:=3) Z)) (bW.tmp Z bW.nil)) (M9 Z)) ?_))
 have bq:=ae.pk [2]
 obtain⟨rfl,rfl⟩:=fK (zj hr zq15)
 exact⟨K,1,Z,bq,i0⟩
def uH (b:Int) (a:Int):Bool:=
 if b=2 then if a=1 then Zk else Zy (a=2) else if a=3 then Zk else if a=4 then Zk else Zy (a=5)
theorem zB (w D f b l) (H:Own w D w []) (hr:uH f b=l):
    Calls v1 156 #[vI f,vI b] w (dM λ v w'=>v= V l/\Own w D w' []):=by
 unfold uH at hr
 refine cb Tryz.func156 ?_
 refine sr (An Z (JG (sr (Mz Z (Kz (Zb (f=2)) (nt ?_))))))
 by_cases e:f=2
 refine jT (dT e) (sr (Mz Z (Kz (Zb (b=1)) (Mz Z ?_))))
 by_cases c:b=1
 refine T (dT c) (T (dT c) (fw (V Zk) (JL Z (dT c) Z) (An Z (rt (tR (rs ?_))))))
 have g:=H.pk []
 obtain rfl:=zj hr zq2
 exact⟨Z,g⟩
 refine gw (vI b) (dF c) (JM Z) (Gz (Zb (b=2)) (dF c) (fw (Zb (b=2)) (JH Z (dF c) Z) (An Z (rt (tR (rs ?_))))))
 have h:=H.pk []
 obtain rfl:=zj hr zq2
 exact⟨Z,h⟩
 refine jF (dF e) (sk (sr (Mz Z (Kz (Zb (b=3)) (Mz Z ?_)))))
 by_cases a:b=3
 refine T (dT a) (T (dT a) (fw (V Zk) (JL Z (dT a) Z) (Mz Z (T Z (T Z (fw (V Zk) (JL Z Z Z) (An Z (rt (rs ?_)))))))))
 have i:=H.pk []
 obtain rfl:=zj hr zq2
 exact⟨Z,i⟩
 refine gw (vI b) (dF a) (JM Z) (Gz (Zb (b=4)) (dF a) (fw (Zb (b=4)) (JH Z (dF a) Z) (Mz Z ?_)))
 by_cases d:b=4
 refine T (dT d) (T (dT d) (fw (V Zk) (JL Z (dT d) Z) (An Z (rt (rs ?_)))))
 have j:=H.pk []
 obtain rfl:=zj hr zq3
 exact⟨Z,j⟩
 refine gw (vI b) (dF d) (JM Z) (Gz (Zb (b=5)) (dF d) (fw (Zb (b=5)) (JH Z (dF d) Z) (An Z (rt (rs ?_)))))
 have k:=H.pk []
 obtain rfl:=zj hr zq3
 exact⟨Z,k⟩
theorem iW:Elem v1 25 101 2 32:=nz (z:= Zx #[Zz ⟨Zc []⟩, Zz ⟨Zc []⟩]) H0 f1 Z f6
structure ay where q::
 f:List UInt8
 g:List UInt8
def ay.J (x:ay):List ZX:= [Zz ⟨Zc x.f⟩, Zz ⟨Zc x.g⟩]
instance:Bk ay:=⟨λ x _=>bk x.f+(bk x.g+(0))⟩
theorem ay.len:∀ x,X (ay.J x)=2:=λ _=>rfl
theorem ay.one:∀ x, ∀ u ∈ ay.J x,u.oneCell'=Zk:=λ x u hu=>by
 simp only [ay.J,u5,v6,or_false] at hu
 rcases hu with rfl | rfl <;> rfl
def K3 (w:ZQ) (x:ay):Prop:=(X x.f<=140737488351232)/\(X x.g<=140737488351232)
theorem yK (w:ZQ):lh v1 w 101 2 ay.J (K3 w):=
 (nC (sz:=2) Tryz.underlying101 f1 (fU.cons (i:=0) (off:=0) (s:=1) Z Z (lC v7 f1) (fU.cons (i:=1) (off:=1) (s:=1) Z Z (lC v7 f1) fU.nil))).map (λ p=>⟨p.1,p.2.1⟩) ay.len (λ _=>rfl) (λ _ h=>⟨h.1,h.2.1⟩) λ _=>s0 _
instance:Inhabited ay:=⟨⟨ZZ,ZZ⟩⟩
theorem qF:Elem v1 45 70 3 48:=nz (z:= Zx #[V J, Zz ⟨Zc []⟩, W Zv 0 0]) H1 f1 Z f6
structure aR where q::
 b:Bool
 g:List UInt8
 a:Sv ay
def aR.J (x:aR):List ZX:= [V x.b, Zz ⟨Zc x.g⟩, W x.a.A (X x.a.a) x.a.c]
instance:Bk aR:=⟨λ x _=>bk x.b+(bk x.g+(bk x.a+(0)))⟩
theorem aR.len:∀ x,X (aR.J x)=3:=λ _=>rfl
theorem aR.one:∀ x, ∀ u ∈ aR.J x,u.oneCell'=Zk:=λ x u hu=>by
 simp only [aR.J,u5,v6,or_false] at hu
 rcases hu with rfl | rfl | rfl <;> rfl
def Lx (w:ZQ) (x:aR):Prop:=(True)/\(X x.g<=140737488351232)/\(nA w 2 32 ay.J (K3 w) x.a)
theorem Be (w:ZQ):lh v1 w 70 3 aR.J (Lx w):=
 (nC (sz:=3) Tryz.underlying70 f1 (fU.cons (i:=0) (off:=0) (s:=1) Z Z (wC H2 f1) (fU.cons (i:=1) (off:=1) (s:=1) Z Z (lC v7 f1) (fU.cons (i:=2) (off:=2) (s:=1) Z Z (pE (bytes:=32) H0 f1 f1 f6 (yK w)) fU.nil)))).map (λ p=>⟨p.1,p.2.1,p.2.2.1⟩) aR.len (λ _=>rfl) (λ _ h=>⟨h.1,h.2.1,h.2.2.1⟩) λ _=>s0 _
instance:Inhabited aR:=⟨⟨ZZ,ZZ,ZZ⟩⟩
structure bZ where q::
 b:Bool
 g:List UInt8
 a:Ll ay
instance:Inhabited bZ:=⟨⟨ZZ,ZZ,ZZ⟩⟩
def aR.abs (x:aR):bZ:=⟨x.b,x.g,⟨x.a.a⟩⟩
def Kc (x:aR):List HP:= [row x.a.A (X x.a.a) x.a.c (q0 ay.J x.a.a) 101 2]
def jw:List ay->Unit ⊕ Bool
  | []=>y3 ()
  | a::c=>bnd (dW a.f) λ b=>if b=0 then if((X a.g:Nat):Int) > 16 then y6 (J) else jw c else y6 (J)
def iH:List bZ->Unit ⊕ Bool
  | []=>y3 ()
  | a::b=>if((X a.g:Nat):Int) > 16 then y6 (J) else if((X a.a.a:Nat):Int) > 4 then y6 (J) else xu (jw a.a.a) λ _=>iH b
def rT (a:Int) (l1:List bZ):Bool:=
 bnd (if a=2 then 4 else 24) λ sJrJ=>if((X l1:Nat):Int) > ((sJrJ:Nat):Int) then J else lp (iH l1) λ _=>Zk
theorem xE (w D S r n1 Q d1 l1 r0) (H:Own w D w []) (Z8:r7 aR.abs d1=l1) (R:Ro w D λ w'=>bP w' 3 r n1 (q0 aR.J d1)) (Z7:∀ x ∈ d1,Ro w D (λ w'=>bP w' 2 x.a.A (X x.a.a) (q0 ay.J x.a.a))/\(X x.a.a<=x.a.c/\X x.a.a<=9223372036854775807)) (aA:n1=X l1) (bq:X l1<=9223372036854775807) (hr:rT S l1=r0):
    Calls v1 157 #[vI S, W r n1 Q] w (dM λ v w'=>v= V r0/\Own w D w' []):=by
 unfold rT at hr
 subst aA
 have aU:=bg Z8
 refine cb Tryz.func157 ?_
 refine sr (Ar Z (An Z (JG (sr (Mz Z (Kz (Zb (S=2)) (nt ?_)))))))
 obtain⟨aB,B⟩:=mE λ (n:Nat) w'=>Own w D w' []/\n<=9223372036854775807/\n >= 4/\n<=24/\(if S=2 then 4 else 24)=n
 refine KL (λ i:Nat=> [(5,vJ i),(4, V J),(1, W r (X l1) Q)]) aB ?_ ?_
 by_cases K:S=2
 refine jT (dT K) (JI (Az Z (B8 ?_)))
 have aC:=H.pk []
 exact Kr 4 ⟨Z,Z,Z,ZW⟩ (B.2 ⟨aC,Y,Y,Y,ip K⟩)
 refine jF (dF K) (J8 ?_)
 have aD:=H.pk []
 exact Kr 24 ⟨Z,Z,Z,ZW⟩ (B.2 ⟨aD,Y,Y,Y,iN K⟩)
 rintro n bu Z4
 show Wp _ _ _ [(5,vJ n),(4, V J),(1, W r (X l1) Q)] _ _
 obtain⟨Z3,aV,aW,aX,k⟩:=B.1 Z4
 refine JG (sr (Mz Z (Kz (vJ (X l1)) (Mz Z (Kz (Zb ((X l1:Int) > (n:Int))) (nt ?_))))))
 by_cases o:(X l1:Int) > (n:Int)
 refine jT (dT o) (sr (An Z (rt (tR (rs ?_)))))
 have aF:=Z3.pk []
 obtain rfl:=zj hr zq2
 exact⟨Z,aF⟩
 refine jF (dF o) (sk (JG (sr (Mz Z (Kz (vJ (X l1)) (Mn Z (bo ?_)))))))
 have aG:=Z3.pk []
 obtain⟨aH,C⟩:=mE λ (b:Nat) w'=>Own w D w' []/\b<=X l1/\iH l1=iH (r6 b l1)
 refine B4 (λ i:Nat=> [(4, V J),(18,vJ i),(17,vJ (X l1)),(16, W r (X l1) Q)]) aH (λ i=>X l1 - i) 0 ⟨Z,Z,Z,Z,ZW⟩ (C.2 ⟨aG,Y,Z⟩) ?_
 rintro b bv Z9
 show Wp _ _ _ [(4, V J),(18,vJ b),(17,vJ (X l1)),(16, W r (X l1) Q)] _ _
 obtain⟨E,aY,l⟩:=C.1 Z9
 refine sr (Kz (Zb ((b:Int) < (X l1:Int))) (nt (JG ?_)))
 by_cases Z1:(b:Int) < (X l1:Int)
 obtain⟨a,m⟩:=dJ (ls:=d1) (i:=b) aR.len f6 (E.ro R) f4
 have Z2:=gq Z8 m
 have aZ:=(Z7 _ (E1 m)).2
 have p:=drop_at Z2
 refine jT (dT Z1) (sk (JG (bo (sr (fw (Zq (Zw ⟨ab r,ao r+b *3,Zv⟩)) (JU (qF) Z Z ((E.ro R).addr (i:=b) Y) Y) (fw (Zx (Zc (aR.J a))) (JS Z (JW (cs:=(aR.J a)) Tryz.isAgg70 Tryz.sizeOf70 ((E.ro R).elem aR.len m f6))) ?_))))))
 refine cu [V J, Zz ⟨Zc []⟩, W Zv 0 0] 70 E ?_
 intro j bz aI
 refine cO (aR.J a) 0 aI Tryz.sizeOf70 ?_
 intro bA u
 refine nt (JG (sr (Kz (vP j 1) (Lz (Zz ⟨Zc a.g⟩) u 0 B3 (Kz (vJ (X a.g)) (Kz (Zb ((X a.g:Int) > 16)) (Mz Z ?_)))))))
 by_cases d:(X a.g:Int) > 16
 refine T (dT d) (T (dT d) (T (dT d) (T (dT d) (fw (V Zk) (JL Z (dT d) Z) (nt (jt (sr (An Z (rt (tR (bR (tR (tR (bR (tR (rs ?_))))))))))))))))
 have aJ:=u.pk []
 obtain rfl:_=J:=zj hr (N (ae k) (N (iN o) (iJ (N (l) (N (ZJ (λ q=>iH q) p) (ip d))))))
 exact⟨Z,aJ⟩
 refine Gz (vP j 2) (dF d) (Gl (W a.a.A (X a.a.a) a.a.c) (dF d) u 0 Tryz.isAgg25 (Gz (vJ (X a.a.a)) (dF d) (Gz (Zb ((X a.a.a:Int) > 4)) (dF d) (fw (Zb ((X a.a.a:Int) > 4)) (JH Z (dF d) Z) (nt ?_)))))
 by_cases y:(X a.a.a:Int) > 4
 refine jT (dT y) (sr (An Z (rt (tR (bR (tR (tR (bR (tR (rs ?_))))))))))
 have aK:=u.pk []
 obtain rfl:_=J:=zj hr (N (ae k) (N (iN o) (iJ (N (l) (N (ZJ (λ q=>iH q) p) (N (iN d) (ip y)))))))
 exact⟨Z,aK⟩
 refine jF (dF y) (sk (sr (Kz (vP j 2) (Lz (W a.a.A (X a.a.a) a.a.c) u 0 Tryz.isAgg25 (Kz (vJ (X a.a.a)) (Mn Z (bo ?_)))))))
 have aL:=u.pf []
 obtain⟨aM,F⟩:=mE λ (f:Nat) w'=>Own w D w' [blk j (aR.J a) 70]/\f<=X a.a.a/\jw a.a.a=jw (r6 f a.a.a)
 refine B4 (λ i:Nat=> [(4, V J),(35,vJ i),(34,vJ (X a.a.a)),(33, W a.a.A (X a.a.a) a.a.c),(32,vP j 2),(31, Zb ((X a.a.a:Int) > 4)),(30, Zb ((X a.a.a:Int) > 4)),(29,vJ (X a.a.a)),(28, W a.a.A (X a.a.a) a.a.c),(27,vP j 2),(26, Zb ((X a.g:Int) > 16)),(25, Zb ((X a.g:Int) > 16)),(24,vJ (X a.g)),(23, Zz ⟨Zc a.g⟩),(22,vP j 1),(7,vP j 0),(21, Zx (Zc (aR.J a))),(20, Zq (Zw ⟨ab r,ao r+b *3,Zv⟩)),(19, Zb ((b:Int) < (X l1:Int))),(18,vJ b),(17,vJ (X l1)),(16, W r (X l1) Q)]) aM (λ i=>X a.a.a - i) 0 ⟨Z,Z,Z,Z,Z,Z,Z,Z,Z,Z,Z,Z,Z,Z,Z,Z,Z,Z,Z,Z,Z,Z,ZW⟩ (F.2 ⟨aL,Y,Z⟩) ?_
 rintro f bB Z0
 show Wp _ _ _ [(4, V J),(35,vJ f),(34,vJ (X a.a.a)),(33, W a.a.A (X a.a.a) a.a.c),(32,vP j 2),(31, Zb ((X a.a.a:Int) > 4)),(30, Zb ((X a.a.a:Int) > 4)),(29,vJ (X a.a.a)),(28, W a.a.A (X a.a.a) a.a.c),(27,vP j 2),(26, Zb ((X a.g:Int) > 16)),(25, Zb ((X a.g:Int) > 16)),(24,vJ (X a.g)),(23, Zz ⟨Zc a.g⟩),(22,vP j 1),(7,vP j 0),(21, Zx (Zc (aR.J a))),(20, Zq (Zw ⟨ab r,ao r+b *3,Zv⟩)),(19, Zb ((b:Int) < (X l1:Int))),(18,vJ b),(17,vJ (X l1)),(16, W r (X l1) Q)] _ _
 obtain⟨G,bf,s⟩:=F.1 Z0
 refine sr (Kz (Zb ((f:Int) < (X a.a.a:Int))) (nt (JG ?_)))
 by_cases aa:(f:Int) < (X a.a.a:Int)
 obtain⟨g,Z5⟩:=dJ (ls:=a.a.a) (i:=f) ay.len f6 (G.ro (Z7 _ (E1 m)).1) f4
 have I:=drop_at Z5
 refine jT (dT aa) (sk (JG (bo (sr (fw (Zq (Zw ⟨ab a.a.A,ao a.a.A+f *2,Zv⟩)) (JU (iW) Z Z ((G.ro (Z7 _ (E1 m)).1).addr (i:=f) Y) Y) (fw (Zx (Zc (ay.J g))) (JS Z (JW (cs:=(ay.J g)) Tryz.isAgg101 Tryz.sizeOf101 ((G.ro (Z7 _ (E1 m)).1).elem ay.len Z5 f6))) ?_))))))
 refine cu [Zz ⟨Zc []⟩, Zz ⟨Zc []⟩] 101 G ?_
 intro af bC aN
 refine cO (ay.J g) 0 aN Tryz.sizeOf101 ?_
 intro bD ag
 refine ns (Kz (vP af 0) (Lz (Zz ⟨Zc g.f⟩) ag 0 B3 ?_))
 obtain⟨z,t⟩:∃ q,dW g.f=q:=⟨_,Z⟩
 obtain⟨bE,ah,bi,ai,bn⟩:=JJ ag
 refine cl Tryz.call62 (jR _ _ g.f z ah t) ?_
 rintro _ bF ⟨rfl,aj,Z6,P⟩
 have L:=ai _ _ aj
 replace Z6: ¬ (z=0)\/(1<=X g.f/\X g.f<=12):=Z6
 replace P:X g.f < 1\/X g.f > 12\/z=0:=P
 refine fw (Zb (¬ (z=0))) (JZ (e:= !(Zy (z=0))) yk ZY) (Mz Z ?_)
 by_cases h:z=0
 refine gw (vP af 1) (dF (Nc h)) yk (gw (Zz ⟨Zc g.g⟩) (dF (Nc h)) (JS Z (bT.one B3 (Kk (L.cls (i:=0) Z) Z))) (gw (vJ (X g.g)) (dF (Nc h)) yk (gw (Zb ((X g.g:Int) > 16)) (dF (Nc h)) yk (fw (Zb ((X g.g:Int) > 16)) (JH Z (dF (Nc h)) Z) (nt ?_)))))
 by_cases M:(X g.g:Int) > 16
 refine jT (dT M) (sr (An Z (rt (bR (tR (tR (bR (bR (tR (tR (bR (tR (rs ?_)))))))))))))
 have aO:=L.pk []
 obtain rfl:_=J:=zj hr (N (ae k) (N (iN o) (iJ (N (l) (N (ZJ (λ q=>iH q) p) (N (iN d) (N (iN y) (q8 (N (s) (N (ZJ (λ q=>jw q) I) (N (ae t) (N (ip h) (ip M)))))))))))))
 exact⟨Z,aO⟩
 refine jF (dF M) (J8 (bN (JK (JI (fw (vJ (f+1)) (JN (e:=B7.wrap ((f:Int)+1)) yk f3) (Mz Z (B8 ?_)))))))
 have aP:=L.pk [1]
 exact JX (f+1) ⟨Z,Z,Z,Z,Z,Z,Z,Z,Z,Z,Z,Z,Z,Z,Z,Z,Z,Z,Z,Z,Z,Z,ZW⟩ (F.2 ⟨aP,Y,N (s) (N (ZJ (λ q=>jw q) I) (N (ae t) (N (ip h) (iN M))))⟩) (by show X a.a.a - (f+1) < X a.a.a - f; omega)
 refine T (dT h) (T (dT h) (T (dT h) (T (dT h) (fw (V Zk) (JL Z (dT h) Z) (nt (jt (sr (An Z (rt (bR (tR (tR (bR (bR (tR (tR (bR (tR (rs ?_)))))))))))))))))))
 have aQ:=L.pk []
 obtain rfl:_=J:=zj hr (N (ae k) (N (iN o) (iJ (N (l) (N (ZJ (λ q=>iH q) p) (N (iN d) (N (iN y) (q8 (N (s) (N (ZJ (λ q=>jw q) I) (N (ae t) (iN h))))))))))))
 exact⟨Z,aQ⟩
 refine jF (dF aa) (B9 (JV ?_))
 have ak:jw a.a.a=y3 ():=N (s) (N (ZJ (λ q=>jw q) (eH (ls:=a.a.a) (i:=f) Y)) Z)
 refine JV (J2 (bN (JK (JI (fw (vJ (b+1)) (JN (e:=B7.wrap ((b:Int)+1)) yk f3) (Mz Z (B8 ?_)))))))
 have aS:=G.pk []
 exact JX (b+1) ⟨Z,Z,Z,Z,ZW⟩ (C.2 ⟨aS,Y,N (l) (N (ZJ (λ q=>iH q) p) (N (iN d) (N (iN y) (qZ ak))))⟩) (by show X l1 - (b+1) < X l1 - b; omega)
 refine jF (dF Z1) (B9 (JV ?_))
 have au:iH l1=y3 ():=N (l) (N (ZJ (λ q=>iH q) (eH (ls:=l1) (i:=b) Y)) Z)
 refine JV (J2 (JK (sr (An Z (rt (rs ?_))))))
 have av:=E.pk []
 obtain rfl:_=Zk:=zj hr (N (ae k) (N (iN o) (lD au)))
 exact⟨Z,av⟩
def iM:List aY->Unit ⊕ Int
  | []=>y3 ()
  | b::c=>bnd (dA b) λ a=>if a=0 then iM c else y6 (a)
def fF (a:List aY):Int:=
 lp (iM a) λ _=>0
theorem rU (w D p B C b M) (H:Own w D w []) (o:Ro w D λ w'=>bP w' 6 p B (q0 aY.J b)) (E:B=X b) (Q:X b<=9223372036854775807) (hr:fF b=M):
    Calls v1 66 #[W p B C] w (dM λ v w'=>v=vI M/\Own w D w' []):=by
 subst E
 refine cb Tryz.func66 ?_
 refine sr (An Z (JG (sr (Mz Z (Kz (vJ (X b)) (Mn Z (bo ?_)))))))
 have F:=H.pk []
 obtain⟨G,f⟩:=mE λ (a:Nat) w'=>Own w D w' []/\a<=X b/\iM b=iM (r6 a b)
 refine B4 (λ i:Nat=> [(2,vI 0),(8,vJ i),(7,vJ (X b)),(6, W p (X b) C)]) G (λ i=>X b - i) 0 ⟨Z,Z,Z,Z,ZW⟩ (f.2 ⟨F,Y,Z⟩) ?_
 rintro a R r
 show Wp _ _ _ [(2,vI 0),(8,vJ a),(7,vJ (X b)),(6, W p (X b) C)] _ _
 obtain⟨g,Z5,h⟩:=f.1 r
 refine sr (Kz (Zb ((a:Int) < (X b:Int))) (nt (JG ?_)))
 by_cases s:(a:Int) < (X b:Int)
 obtain⟨c,l⟩:=dJ (ls:=b) (i:=a) aY.len f6 (g.ro o) f4
 have m:=drop_at l
 refine jT (dT s) (sk (JG (bo (sr (fw (Zq (Zw ⟨ab p,ao p+a *6,Zv⟩)) (JU (oD) Z Z ((g.ro o).addr (i:=a) Y) Y) (fw (Zx (Zc (aY.J c))) (JS Z (JW (cs:=(aY.J c)) C6 C5 ((g.ro o).elem aY.len l f6))) ?_))))))
 refine cu [vI 0, Zz ⟨Zc []⟩, Zz ⟨Zc []⟩, Zz ⟨Zc []⟩, Zz ⟨Zc []⟩,vI 0] 68 g ?_
 intro S Z8 I
 refine cO (aY.J c) 0 I C5 ?_
 intro Z4 t
 refine ns (La (aY.J c) t 0 C6 C5 ?_)
 obtain⟨d,j⟩:∃ q,dA c=q:=⟨_,Z⟩
 obtain⟨Z3,u,Z6,x,P⟩:=JJ t
 refine cl H3 (nO _ _ c d u j) ?_
 rintro _ Z9 ⟨rfl,y,n⟩
 have z:=x _ _ y
 replace n: ¬ (d=0)\/(1<=c.e/\c.e<=5):=n
 refine Ar Z (Mz Z (fw (Zb (¬ (d=0))) (JZ (e:= !(Zy (d=0))) yk ZY) (nt ?_)))
 by_cases k:d=0
 refine jF (dF (Nc k)) (J8 (bN (JK (JI (fw (vJ (a+1)) (JN (e:=B7.wrap ((a:Int)+1)) yk f3) (Mz Z (B8 ?_)))))))
 have Z7:=z.pk []
 exact JX (a+1) ⟨Z,Z,Z,Z,ZW⟩ (f.2 ⟨Z7,Y,N (h) (N (ZJ (λ q=>iM q) m) (N (ae j) (ip k)))⟩) (by show X b - (a+1) < X b - a; omega)
 refine jT (dT k) (sr (Mz Z (An Z (rt (bR (tR (tR (bR (tR (rs ?_))))))))))
 have K:=z.pk []
 obtain rfl:_=d:=zj hr (iJ (N (h) (N (ZJ (λ q=>iM q) m) (N (ae j) (iN k)))))
 exact⟨Z,K⟩
 refine jF (dF s) (B9 (JV ?_))
 have A:iM b=y3 ():=N (h) (N (ZJ (λ q=>iM q) (eH (ls:=b) (i:=a) Y)) Z)
 refine JV (J2 (JK (sr (An Z (rt (rs ?_))))))
 have L:=g.pk []
 obtain rfl:_=0:=zj hr (lD A)
 exact⟨Z,L⟩
def yS (b:List aY):Int:=
 if((X b:Nat):Int) < 1 then 3 else if((X b:Nat):Int) > 4 then 3 else bnd (fF b) λ a=>a
theorem CF (w D j k l b m) (H:Own w D w []) (n:Ro w D λ w'=>bP w' 6 j k (q0 aY.J b)) (o:k=X b) (x:X b<=9223372036854775807) (hr:yS b=m):
    Calls v1 196 #[W j k l] w (dM λ v w'=>v=vI m/\Own w D w' []/\(¬ (m=0)\/(1<=X b/\X b<=4))):=by
 unfold yS at hr
 subst o
 refine cb Tryz.func196 ?_
 refine sr (An Z (JG (sr (Mz Z (Kz (vJ (X b)) (Kz (Zb ((X b:Int) < 1)) (Mz Z ?_)))))))
 by_cases a:(X b:Int) < 1
 refine T (dT a) (T (dT a) (T (dT a) (fw (V Zk) (JL Z (dT a) Z) (nt (jt (sr (An Z (rt (tR (rs ?_))))))))))
 have p:=H.pk []
 obtain rfl:=zj hr zq1
 exact⟨Z,p,Y⟩
 refine gw (W j (X b) l) (dF a) (JM Z) (Gz (vJ (X b)) (dF a) (Gz (Zb ((X b:Int) > 4)) (dF a) (fw (Zb ((X b:Int) > 4)) (JH Z (dF a) Z) (nt ?_))))
 by_cases c:(X b:Int) > 4
 refine jT (dT c) (sr (An Z (rt (tR (rs ?_)))))
 have r:=H.pk []
 obtain rfl:=zj hr zq2
 exact⟨Z,r,Y⟩
 refine jF (dF c) (sk (sr (Mz Z ?_)))
 obtain⟨e,d⟩:∃ q,fF b=q:=⟨_,Z⟩
 obtain⟨y,f,g,h,u⟩:=JJ H
 refine cl Tryz.call66 (rU _ _ j (X b) l b e f (g _ n) Z Y d) ?_
 rintro _ z ⟨rfl,i⟩
 have s:=h _ _ i
 refine An Z (rt (rs ?_))
 have t:=s.pk []
 obtain rfl:=zj hr zq3
 exact⟨Z,t,Y⟩
def kU:List aY->Unit ⊕ Bool
  | []=>y3 ()
  | b::c=>bnd (dA b) λ a=>if a=0 then kU c else y6 (J)
def qO (a:List aY):Bool:=
 lp (kU a) λ _=>Zk
theorem Ai (w D p B C b M) (H:Own w D w []) (o:Ro w D λ w'=>bP w' 6 p B (q0 aY.J b)) (E:B=X b) (Q:X b<=9223372036854775807) (hr:qO b=M):
    Calls v1 197 #[W p B C, .func (.func 63) #[] #[]] w (dM λ v w'=>v= V M/\Own w D w' []):=by
 subst E
 refine cb Tryz.func197 ?_
 refine sr (An Z (JG (sr (Mz Z (Kz (vJ (X b)) (Mn Z (bo ?_)))))))
 have F:=H.pk []
 obtain⟨G,d⟩:=mE λ (a:Nat) w'=>Own w D w' []/\a<=X b/\kU b=kU (r6 a b)
 refine B4 (λ i:Nat=> [(4, V J),(9,vJ i),(8,vJ (X b)),(7, W p (X b) C),(1, .func (.func 63) #[] #[])]) G (λ i=>X b - i) 0 ⟨Z,Z,Z,Z,Z,ZW⟩ (d.2 ⟨F,Y,Z⟩) ?_
 rintro a R r
 show Wp _ _ _ [(4, V J),(9,vJ a),(8,vJ (X b)),(7, W p (X b) C),(1, .func (.func 63) #[] #[])] _ _
 obtain⟨f,Z5,g⟩:=d.1 r
 refine sr (Kz (Zb ((a:Int) < (X b:Int))) (nt (JG ?_)))
 by_cases s:(a:Int) < (X b:Int)
 obtain⟨c,l⟩:=dJ (ls:=b) (i:=a) aY.len f6 (f.ro o) f4
 have m:=drop_at l
 refine jT (dT s) (sk (JG (bo (sr (fw (Zq (Zw ⟨ab p,ao p+a *6,Zv⟩)) (JU (oD) Z Z ((f.ro o).addr (i:=a) Y) Y) (fw (Zx (Zc (aY.J c))) (JS Z (JW (cs:=(aY.J c)) C6 C5 ((f.ro o).elem aY.len l f6))) ?_))))))
 refine cu [vI 0, Zz ⟨Zc []⟩, Zz ⟨Zc []⟩, Zz ⟨Zc []⟩, Zz ⟨Zc []⟩,vI 0] 68 f ?_
 intro S Z8 I
 refine cO (aY.J c) 0 I C5 ?_
 intro Z4 t
 refine ns (Mz Z (La (aY.J c) t 0 C6 C5 ?_))
 obtain⟨h,j⟩:∃ q,dA c=q:=⟨_,Z⟩
 obtain⟨Z3,u,Z6,x,P⟩:=JJ t
 refine WL.do Z (Kh H3 Z Z (nO _ _ c h u j) ?_)
 rintro _ Z9 ⟨rfl,y,n⟩
 have z:=x _ _ y
 replace n: ¬ (h=0)\/(1<=c.e/\c.e<=5):=n
 refine fw (Zb (¬ (h=0))) (JZ (e:= !(Zy (h=0))) yk ZY) (nt ?_)
 by_cases k:h=0
 refine jF (dF (Nc k)) (J8 (bN (JK (JI (fw (vJ (a+1)) (JN (e:=B7.wrap ((a:Int)+1)) yk f3) (Mz Z (B8 ?_)))))))
 have Z7:=z.pk []
 exact JX (a+1) ⟨Z,Z,Z,Z,Z,ZW⟩ (d.2 ⟨Z7,Y,N (g) (N (ZJ (λ q=>kU q) m) (N (ae j) (ip k)))⟩) (by show X b - (a+1) < X b - a; omega)
 refine jT (dT k) (sr (An Z (rt (bR (tR (tR (bR (tR (rs ?_)))))))))
 have K:=z.pk []
 obtain rfl:_=J:=zj hr (iJ (N (g) (N (ZJ (λ q=>kU q) m) (N (ae j) (iN k)))))
 exact⟨Z,K⟩
 refine jF (dF s) (B9 (JV ?_))
 have A:kU b=y3 ():=N (g) (N (ZJ (λ q=>kU q) (eH (ls:=b) (i:=a) Y)) Z)
 refine JV (J2 (JK (sr (An Z (rt (rs ?_))))))
 have L:=f.pk []
 obtain rfl:_=Zk:=zj hr (lD A)
 exact⟨Z,L⟩
def qc (a:aY):Bool:=
 if a.e=1 then J else if a.e=2 then Zk else if a.e=3 then Zk else if a.e=4 then J else if a.e=5 then Zk else J
theorem xG (w D) (a:aY) (r0) (H:Own w D w []) (hr:qc a=r0):
    Calls v1 140 #[Zx (Zc (aY.J a))] w (dM λ v w'=>v= V r0/\Own w D w' []):=by
 unfold qc at hr
 refine cb Tryz.func140 ?_
 refine sr ?_
 refine cu (aY.J a) 68 H ?_
 intro S aV b
 refine Ar Z (Kz (vP S 0) (Lz (vI a.e) b 0 B5 ?_))
 by_cases c:a.e=1
 obtain⟨aW,m,aD,n,aF⟩:=JJ b
 refine cl D2 (oF _ _ a.e m (of_decide_eq_true (dT c))) ?_
 rintro _ aX ⟨rfl,o⟩
 have Z8:=n _ _ o
 refine Mz Z (Kz (Zx o2k.toArray) (Kz (V Zk) ?_))
 refine cu [V J, Zj, Zj, Zj, Zj] 149 Z8 ?_
 intro Z4 aZ Z3
 refine cO o2k 0 Z3 C4 ?_
 intro bf Z9
 refine An Z (JG ?_)
 have p:=Z9.pk [0]
 refine JI (Mz Z (Mz Z (Gz (vP Z4 0) Z (Gl (V J) Z p 0 H4 (fw (V J) (JL Z Z Z) (An Z (rt (rs ?_))))))))
 have Z1:=p.pk []
 obtain rfl:=zj hr zq1
 exact⟨Z,Z1⟩
 by_cases d:a.e=2
 obtain⟨bg,q,aG,r,aH⟩:=JJ b
 refine cl D2 (oG _ _ a.e q (of_decide_eq_true (dT d))) ?_
 rintro _ bi ⟨rfl,s⟩
 have Z2:=r _ _ s
 refine Mz Z (Kz (Zx o3k.toArray) (Kz (V Zk) ?_))
 refine cu [V J, Zj, Zj, Zj, Zj] 149 Z2 ?_
 intro Z0 bn aa
 refine cO o3k 0 aa C4 ?_
 intro bq ae
 refine An Z (JG ?_)
 have t:=ae.pk [0]
 refine JI (Mz Z (Mz Z (Gz (vP Z0 0) Z (Gl (V Zk) Z t 0 H4 (fw (V Zk) (JL Z Z Z) (An Z (rt (rs ?_))))))))
 have af:=t.pk []
 obtain rfl:=zj hr zq2
 exact⟨Z,af⟩
 by_cases e:a.e=3
 obtain⟨bu,u,aI,x,aJ⟩:=JJ b
 refine cl D2 (oH _ _ a.e u (of_decide_eq_true (dT e))) ?_
 rintro _ bv ⟨rfl,y⟩
 have ag:=x _ _ y
 refine Mz Z (Kz (Zx o4k.toArray) (Kz (V Zk) ?_))
 refine cu [V J, Zj, Zj, Zj, Zj] 149 ag ?_
 intro ah bz ai
 refine cO o4k 0 ai C4 ?_
 intro bA aj
 refine An Z (JG ?_)
 have z:=aj.pk [0]
 refine JI (Mz Z (Mz Z (Gz (vP ah 0) Z (Gl (V Zk) Z z 0 H4 (fw (V Zk) (JL Z Z Z) (An Z (rt (rs ?_))))))))
 have ak:=z.pk []
 obtain rfl:=zj hr zq3
 exact⟨Z,ak⟩
 by_cases f:a.e=4
 obtain⟨bB,A,aK,B,aL⟩:=JJ b
 refine cl D2 (oI _ _ a.e A (of_decide_eq_true (dT f))) ?_
 rintro _ bC ⟨rfl,C⟩
 have au:=B _ _ C
 refine Mz Z (Kz (Zx o5k.toArray) (Kz (V Zk) ?_))
 refine cu [V J, Zj, Zj, Zj, Zj] 149 au ?_
 intro av bD ax
 refine cO o5k 0 ax C4 ?_
 intro bE ay
 refine An Z (JG ?_)
 have E:=ay.pk [0]
 refine JI (Mz Z (Mz Z (Gz (vP av 0) Z (Gl (V J) Z E 0 H4 (fw (V J) (JL Z Z Z) (An Z (rt (rs ?_))))))))
 have az:=E.pk []
 obtain rfl:=zj hr zq4
 exact⟨Z,az⟩
 by_cases h:a.e=5
 obtain⟨bF,F,aM,G,aN⟩:=JJ b
 refine cl D2 (oJ _ _ a.e F (of_decide_eq_true (dT h))) ?_
 rintro _ bG ⟨rfl,i⟩
 have I:=G _ _ i
 refine Mz Z (Kz (Zx o6k.toArray) (Kz (V Zk) ?_))
 refine cu [V J, Zj, Zj, Zj, Zj] 149 I ?_
 intro Z7 aO K
 refine cO o6k 0 K C4 ?_
 intro aP L
 refine An Z (JG ?_)
 have g:=L.pk [0]
 refine JI (Mz Z (Mz Z (Gz (vP Z7 0) Z (Gl (V Zk) Z g 0 H4 (fw (V Zk) (JL Z Z Z) (An Z (rt (rs ?_))))))))
 have M:=g.pk []
 obtain rfl:=zj hr zq5
 exact⟨Z,M⟩
 obtain⟨aQ,j,aA,k,aB⟩:=JJ b
 refine cl D2 (uU _ _ a.e j Y Y Y Y Y) ?_
 rintro _ aR ⟨rfl,l⟩
 have Z5:=k _ _ l
 refine Mz Z (Kz (Zx #[V J, Zj, Zj, Zj, Zj]) (Kz (V J) ?_))
 refine cu [V J, Zj, Zj, Zj, Zj] 149 Z5 ?_
 intro aS aT Z6
 refine cO [V J, Zj, Zj, Zj, Zj] 0 Z6 C4 ?_
 intro aU P
 refine An Z (JG ?_)
 have Q:=P.pk [0]
 refine JI (Mz Z (Mz Z (T Z (T Z (fw (V J) (JH Z Z Z) (An Z (rt (rs ?_))))))))
 have R:=Q.pk []
 obtain rfl:=zj hr zq5
 exact⟨Z,R⟩
def rV (c:aY):Int:=
 bnd (qc c) λ a=>if a=Zk then bnd (dA c) λ b=>b else 40
theorem xH (w D) (a:aY) (t) (H:Own w D w []) (hr:rV a=t):
    Calls v1 198 #[Zx (Zc (aY.J a))] w (dM λ v w'=>v=vI t/\Own w D w' []):=by
 unfold rV at hr
 refine cb Tryz.func198 ?_
 refine sr ?_
 refine cu (aY.J a) 68 H ?_
 intro A B i
 refine An Z (JG (sr (La (aY.J a) i 0 C6 C5 ?_)))
 obtain⟨f,b⟩:∃ q,qc a=q:=⟨_,Z⟩
 obtain⟨C,j,u,k,x⟩:=JJ i
 refine cl Tryz.call140 (xG _ _ a f j b) ?_
 rintro _ E ⟨rfl,l⟩
 have g:=k _ _ l
 refine Kz (V (!f)) (nt ?_)
 rcases Nf (f) with c | c
 refine jF (cn c) (sk (sr (La (aY.J a) g 0 C6 C5 ?_)))
 obtain⟨h,d⟩:∃ q,dA a=q:=⟨_,Z⟩
 obtain⟨F,m,y,n,z⟩:=JJ g
 refine cl H3 (nO _ _ a h m d) ?_
 rintro _ G ⟨rfl,o,e⟩
 have p:=n _ _ o
 replace e: ¬ (h=0)\/(1<=a.e/\a.e<=5):=e
 refine An Z (rt (rs ?_))
 have r:=p.pk []
 obtain rfl:=zj hr zq3
 exact⟨Z,r⟩
 refine jT (cn c) (sr (An Z (rt (tR (rs ?_)))))
 have s:=g.pk []
 obtain rfl:=zj hr zq2
 exact⟨Z,s⟩
def lm:List aY->Unit ⊕ Bool
  | []=>y3 ()
  | b::c=>bnd (rV b) λ a=>if a=0 then lm c else y6 (J)
def uI (a:List aY):Bool:=
 lp (lm a) λ _=>Zk
theorem zC (w D o A B b L) (H:Own w D w []) (n:Ro w D λ w'=>bP w' 6 o A (q0 aY.J b)) (C:A=X b) (P:X b<=9223372036854775807) (hr:uI b=L):
    Calls v1 197 #[W o A B, .func (.func 198) #[] #[]] w (dM λ v w'=>v= V L/\Own w D w' []):=by
 subst C
 refine cb Tryz.func197 ?_
 refine sr (An Z (JG (sr (Mz Z (Kz (vJ (X b)) (Mn Z (bo ?_)))))))
 have E:=H.pk []
 obtain⟨F,d⟩:=mE λ (a:Nat) w'=>Own w D w' []/\a<=X b/\lm b=lm (r6 a b)
 refine B4 (λ i:Nat=> [(4, V J),(9,vJ i),(8,vJ (X b)),(7, W o (X b) B),(1, .func (.func 198) #[] #[])]) F (λ i=>X b - i) 0 ⟨Z,Z,Z,Z,Z,ZW⟩ (d.2 ⟨E,Y,Z⟩) ?_
 rintro a Q p
 show Wp _ _ _ [(4, V J),(9,vJ a),(8,vJ (X b)),(7, W o (X b) B),(1, .func (.func 198) #[] #[])] _ _
 obtain⟨f,M,g⟩:=d.1 p
 refine sr (Kz (Zb ((a:Int) < (X b:Int))) (nt (JG ?_)))
 by_cases r:(a:Int) < (X b:Int)
 obtain⟨c,l⟩:=dJ (ls:=b) (i:=a) aY.len f6 (f.ro n) f4
 have m:=drop_at l
 refine jT (dT r) (sk (JG (bo (sr (fw (Zq (Zw ⟨ab o,ao o+a *6,Zv⟩)) (JU (oD) Z Z ((f.ro n).addr (i:=a) Y) Y) (fw (Zx (Zc (aY.J c))) (JS Z (JW (cs:=(aY.J c)) C6 C5 ((f.ro n).elem aY.len l f6))) ?_))))))
 refine cu [vI 0, Zz ⟨Zc []⟩, Zz ⟨Zc []⟩, Zz ⟨Zc []⟩, Zz ⟨Zc []⟩,vI 0] 68 f ?_
 intro R S G
 refine cO (aY.J c) 0 G C5 ?_
 intro Z8 s
 refine ns (Mz Z (La (aY.J c) s 0 C6 C5 ?_))
 obtain⟨j,h⟩:∃ q,rV c=q:=⟨_,Z⟩
 obtain⟨Z4,t,Z5,u,Z6⟩:=JJ s
 refine WL.do Z (Kh Tryz.call198 Z Z (xH _ _ c j t h) ?_)
 rintro _ Z3 ⟨rfl,x⟩
 have y:=u _ _ x
 refine fw (Zb (¬ (j=0))) (JZ (e:= !(Zy (j=0))) yk ZY) (nt ?_)
 by_cases k:j=0
 refine jF (dF (Nc k)) (J8 (bN (JK (JI (fw (vJ (a+1)) (JN (e:=B7.wrap ((a:Int)+1)) yk f3) (Mz Z (B8 ?_)))))))
 have I:=y.pk []
 exact JX (a+1) ⟨Z,Z,Z,Z,Z,ZW⟩ (d.2 ⟨I,Y,N (g) (N (ZJ (λ q=>lm q) m) (N (ae h) (ip k)))⟩) (by show X b - (a+1) < X b - a; omega)
 refine jT (dT k) (sr (An Z (rt (bR (tR (tR (bR (tR (rs ?_)))))))))
 have Z7:=y.pk []
 obtain rfl:_=J:=zj hr (iJ (N (g) (N (ZJ (λ q=>lm q) m) (N (ae h) (iN k)))))
 exact⟨Z,Z7⟩
 refine jF (dF r) (B9 (JV ?_))
 have z:lm b=y3 ():=N (g) (N (ZJ (λ q=>lm q) (eH (ls:=b) (i:=a) Y)) Z)
 refine JV (J2 (JK (sr (An Z (rt (rs ?_))))))
 have K:=f.pk []
 obtain rfl:_=Zk:=zj hr (lD z)
 exact⟨Z,K⟩
def pF (d:Int) (l1:List aY):Bool:=
 if d=1 then bnd (yS l1) λ a=>decide (a=0) else if d=3 then if((X l1:Nat):Int) >= 1 then if((X l1:Nat):Int)<=24 then bnd (qO l1) λ b=>b else J else J else if((X l1:Nat):Int)<=6 then bnd (uI l1) λ c=>c else J
theorem Aj (w D p g G l l1 S) (H:Own w D w []) (m:Ro w D λ w'=>bP w' 6 g G (q0 aY.J l1)) (I:G=X l1) (Z9:X l1<=9223372036854775807) (hr:pF p l1=S):
    Calls v1 158 #[vI p, W g G l] w (dM λ v w'=>v= V S/\Own w D w' []):=by
 unfold pF at hr
 subst I
 refine cb Tryz.func158 ?_
 refine sr (An Z (JG (sr (Mn Z (bo (sr (Kz (Zb (p=1)) (An Z ?_))))))))
 by_cases b:p=1
 refine jT (dT b) (sr (Mz Z ?_))
 obtain⟨f,h⟩:∃ q,yS l1=q:=⟨_,Z⟩
 obtain⟨Z1,r,s,t,Z8⟩:=JJ H
 refine cl Tryz.call196 (CF _ _ g (X l1) l l1 f r (s _ m) Z Y h) ?_
 rintro _ Z2 ⟨rfl,u,i⟩
 have Z7:=t _ _ u
 replace i: ¬ (f=0)\/(1<=X l1/\X l1<=4):=i
 refine Kz (Zb (f=0)) (An Z (rt (bR (tR (rs ?_)))))
 have K:=Z7.pk []
 obtain rfl:=zj hr zq2
 exact⟨Z,K⟩
 refine jF (dF b) (sr (Kz (Zb (p=3)) (An Z ?_)))
 by_cases e:p=3
 refine jT (dT e) (sr (Mz Z (Kz (vJ (X l1)) (Kz (Zb ((X l1:Int) >= 1)) (Mz Z ?_)))))
 by_cases a:(X l1:Int) >= 1
 refine gw (W g (X l1) l) (dT a) (JM Z) (Gz (vJ (X l1)) (dT a) (Gz (Zb ((X l1:Int)<=24)) (dT a) (fw (Zb ((X l1:Int)<=24)) (JL Z (dT a) Z) (Mz Z ?_))))
 by_cases c:(X l1:Int)<=24
 refine gw (W g (X l1) l) (dT c) (JM Z) ?_
 obtain⟨n,j⟩:∃ q,qO l1=q:=⟨_,Z⟩
 obtain⟨Z0,x,y,z,Z4⟩:=JJ H
 refine oC (dT c) Tryz.call197 (Ai _ _ g (X l1) l l1 n x (y _ m) Z Y j) ?_
 rintro _ aa ⟨rfl,A⟩
 have L:=z _ _ A
 refine fw (V n) (JL Z (dT c) Z) (An Z (rt (bR (tR (rs ?_)))))
 have M:=L.pk []
 obtain rfl:=zj hr zq5
 exact⟨Z,M⟩
 refine T (dF c) (T (dF c) (fw (V J) (JH Z (dF c) Z) (An Z (rt (bR (tR (rs ?_)))))))
 have Z5:=H.pk []
 obtain rfl:=zj hr zq4
 exact⟨Z,Z5⟩
 refine T (dF a) (T (dF a) (T (dF a) (fw (V J) (JH Z (dF a) Z) (Mz Z (T Z (T Z (fw (V J) (JH Z Z Z) (An Z (rt (bR (tR (rs ?_))))))))))))
 have Z6:=H.pk []
 obtain rfl:=zj hr zq3
 exact⟨Z,Z6⟩
 refine jF (dF e) (J8 (bN (JK (sr (Mz Z (Kz (vJ (X l1)) (Kz (Zb ((X l1:Int)<=6)) (Mz Z ?_))))))))
 by_cases d:(X l1:Int)<=6
 refine gw (W g (X l1) l) (dT d) (JM Z) ?_
 obtain⟨o,k⟩:∃ q,uI l1=q:=⟨_,Z⟩
 obtain⟨af,B,C,E,Z3⟩:=JJ H
 refine oC (dT d) Tryz.call197 (zC _ _ g (X l1) l l1 o B (C _ m) Z Y k) ?_
 rintro _ ag ⟨rfl,F⟩
 have P:=E _ _ F
 refine fw (V o) (JL Z (dT d) Z) (An Z (rt (rs ?_)))
 have Q:=P.pk []
 obtain rfl:=zj hr zq4
 exact⟨Z,Q⟩
 refine T (dF d) (T (dF d) (fw (V J) (JH Z (dF d) Z) (An Z (rt (rs ?_)))))
 have R:=H.pk []
 obtain rfl:=zj hr zq3
 exact⟨Z,R⟩
structure bU where q::
 e:Int
 G:Int
 C:Int
 I:Int
 y:Int
 F:Int
 z:Nat
 r:Nat
 f:Nat
 k:Nat
 t:Nat
 s:Nat
 g:Nat
 u:Nat
 E:Nat
 D:Bool
 j:au
 a:Sv aY
 l:Sv aR
 b:Sv bO
def bU.J (x:bU):List ZX:= [.int .i64 x.e, .int .i64 x.G, .int .i64 x.C, .int .i64 x.I, .int .i64 x.y, .int .i64 x.F, .int .u64 ((x.z:Nat):Int), .int .u64 ((x.r:Nat):Int), .int .u64 ((x.f:Nat):Int), .int .u64 ((x.k:Nat):Int), .int .u64 ((x.t:Nat):Int), .int .u64 ((x.s:Nat):Int), .int .u64 ((x.g:Nat):Int), .int .u64 ((x.u:Nat):Int), .int .u64 ((x.E:Nat):Int), V x.D, Zz ⟨Zc x.j.a⟩, Zz ⟨Zc x.j.b⟩, W x.a.A (X x.a.a) x.a.c, W x.l.A (X x.l.a) x.l.c, W x.b.A (X x.b.a) x.b.c]
instance:Bk bU:=⟨λ x _=>bk x.e+(bk x.G+(bk x.C+(bk x.I+(bk x.y+(bk x.F+(bk x.z+(bk x.r+(bk x.f+(bk x.k+(bk x.t+(bk x.s+(bk x.g+(bk x.u+(bk x.E+(bk x.D+(bk x.j+(bk x.a+(bk x.l+(bk x.b+(0))))))))))))))))))))⟩
theorem bU.len:∀ x,X (bU.J x)=21:=λ _=>rfl
theorem bU.one:∀ x, ∀ u ∈ bU.J x,u.oneCell'=Zk:=λ x u hu=>by
 simp only [bU.J,u5,v6,or_false] at hu
 rcases hu with rfl | rfl | rfl | rfl | rfl | rfl | rfl | rfl | rfl | rfl | rfl | rfl | rfl | rfl | rfl | rfl | rfl | rfl | rfl | rfl | rfl <;> rfl
def LB (w:ZQ) (x:bU):Prop:=((-9223372036854775808)<=x.e/\x.e<=9223372036854775807)/\((-9223372036854775808)<=x.G/\x.G<=9223372036854775807)/\((-9223372036854775808)<=x.C/\x.C<=9223372036854775807)/\((-9223372036854775808)<=x.I/\x.I<=9223372036854775807)/\((-9223372036854775808)<=x.y/\x.y<=9223372036854775807)/\((-9223372036854775808)<=x.F/\x.F<=9223372036854775807)/\(x.z<=18446744073709551615)/\(x.r<=18446744073709551615)/\(x.f<=18446744073709551615)/\(x.k<=18446744073709551615)/\(x.t<=18446744073709551615)/\(x.s<=18446744073709551615)/\(x.g<=18446744073709551615)/\(x.u<=18446744073709551615)/\(x.E<=18446744073709551615)/\(True)/\(KW w x.j)/\(nA w 6 80 aY.J (Lp w) x.a)/\(nA w 3 48 aR.J (Lx w) x.l)/\(nA w 2 24 bO.J (Lm w) x.b)
theorem DZ (w:ZQ):lh v1 w 47 21 bU.J (LB w):=
 (nC (sz:=21) Tryz.underlying47 f1 (fU.cons (i:=0) (off:=0) (s:=1) Z Z (nR (k:= .i64) (lo:= -9223372036854775808) (hi:=9223372036854775807) v8 f1 f6 f6) (fU.cons (i:=1) (off:=1) (s:=1) Z Z (nR (k:= .i64) (lo:= -9223372036854775808) (hi:=9223372036854775807) v8 f1 f6 f6) (fU.cons (i:=2) (off:=2) (s:=1) Z Z (nR (k:= .i64) (lo:= -9223372036854775808) (hi:=9223372036854775807) v8 f1 f6 f6) (fU.cons (i:=3) (off:=3) (s:=1) Z Z (nR (k:= .i64) (lo:= -9223372036854775808) (hi:=9223372036854775807) v8 f1 f6 f6) (fU.cons (i:=4) (off:=4) (s:=1) Z Z (nR (k:= .i64) (lo:= -9223372036854775808) (hi:=9223372036854775807) v8 f1 f6 f6) (fU.cons (i:=5) (off:=5) (s:=1) Z Z (nR (k:= .i64) (lo:= -9223372036854775808) (hi:=9223372036854775807) v8 f1 f6 f6) (fU.cons (i:=6) (off:=6) (s:=1) Z Z (nS (k:= .u64) (hi:=18446744073709551615) F2 f1 f6 f6) (fU.cons (i:=7) (off:=7) (s:=1) Z Z (nS (k:= .u64) (hi:=18446744073709551615) F2 f1 f6 f6) (fU.cons (i:=8) (off:=8) (s:=1) Z Z (nS (k:= .u64) (hi:=18446744073709551615) F2 f1 f6 f6) (fU.cons (i:=9) (off:=9) (s:=1) Z Z (nS (k:= .u64) (hi:=18446744073709551615) F2 f1 f6 f6) (fU.cons (i:=10) (off:=10) (s:=1) Z Z (nS (k:= .u64) (hi:=18446744073709551615) F2 f1 f6 f6) (fU.cons (i:=11) (off:=11) (s:=1) Z Z (nS (k:= .u64) (hi:=18446744073709551615) F2 f1 f6 f6) (fU.cons (i:=12) (off:=12) (s:=1) Z Z (nS (k:= .u64) (hi:=18446744073709551615) F2 f1 f6 f6) (fU.cons (i:=13) (off:=13) (s:=1) Z Z (nS (k:= .u64) (hi:=18446744073709551615) F2 f1 f6 f6) (fU.cons (i:=14) (off:=14) (s:=1) Z Z (nS (k:= .u64) (hi:=18446744073709551615) F2 f1 f6 f6) (fU.cons (i:=15) (off:=15) (s:=1) Z Z (wC H2 f1) (fU.cons (i:=16) (off:=16) (s:=2) Z Z (BK w) (fU.cons (i:=17) (off:=18) (s:=1) Z Z (pE (bytes:=80) Tryz.underlying44 f1 f1 f6 (EC w)) (fU.cons (i:=18) (off:=19) (s:=1) Z Z (pE (bytes:=48) H1 f1 f1 f6 (Be w)) (fU.cons (i:=19) (off:=20) (s:=1) Z Z (pE (bytes:=24) Tryz.underlying33 f1 f1 f6 (BJ w)) fU.nil))))))))))))))))))))).map (λ p=>⟨p.1,p.2.1,p.2.2.1,p.2.2.2.1,p.2.2.2.2.1,p.2.2.2.2.2.1,p.2.2.2.2.2.2.1,p.2.2.2.2.2.2.2.1,p.2.2.2.2.2.2.2.2.1,p.2.2.2.2.2.2.2.2.2.1,p.2.2.2.2.2.2.2.2.2.2.1,p.2.2.2.2.2.2.2.2.2.2.2.1,p.2.2.2.2.2.2.2.2.2.2.2.2.1,p.2.2.2.2.2.2.2.2.2.2.2.2.2.1,p.2.2.2.2.2.2.2.2.2.2.2.2.2.2.1,p.2.2.2.2.2.2.2.2.2.2.2.2.2.2.2.1,p.2.2.2.2.2.2.2.2.2.2.2.2.2.2.2.2.1,p.2.2.2.2.2.2.2.2.2.2.2.2.2.2.2.2.2.1,p.2.2.2.2.2.2.2.2.2.2.2.2.2.2.2.2.2.2.1,p.2.2.2.2.2.2.2.2.2.2.2.2.2.2.2.2.2.2.2.1⟩) bU.len (λ _=>rfl) (λ _ h=>⟨h.1,h.2.1,h.2.2.1,h.2.2.2.1,h.2.2.2.2.1,h.2.2.2.2.2.1,h.2.2.2.2.2.2.1,h.2.2.2.2.2.2.2.1,h.2.2.2.2.2.2.2.2.1,h.2.2.2.2.2.2.2.2.2.1,h.2.2.2.2.2.2.2.2.2.2.1,h.2.2.2.2.2.2.2.2.2.2.2.1,h.2.2.2.2.2.2.2.2.2.2.2.2.1,h.2.2.2.2.2.2.2.2.2.2.2.2.2.1,h.2.2.2.2.2.2.2.2.2.2.2.2.2.2.1,h.2.2.2.2.2.2.2.2.2.2.2.2.2.2.2.1,h.2.2.2.2.2.2.2.2.2.2.2.2.2.2.2.2.1,h.2.2.2.2.2.2.2.2.2.2.2.2.2.2.2.2.2.1,h.2.2.2.2.2.2.2.2.2.2.2.2.2.2.2.2.2.2.1,h.2.2.2.2.2.2.2.2.2.2.2.2.2.2.2.2.2.2.2.1⟩) λ _=>s0 _
instance:Inhabited bU:=⟨⟨ZZ,ZZ,ZZ,ZZ,ZZ,ZZ,ZZ,ZZ,ZZ,ZZ,ZZ,ZZ,ZZ,ZZ,ZZ,ZZ,ZZ,ZZ,ZZ,ZZ⟩⟩
structure dK where q::
 e:Int
 G:Int
 C:Int
 I:Int
 y:Int
 F:Int
 z:Nat
 r:Nat
 f:Nat
 k:Nat
 t:Nat
 s:Nat
 g:Nat
 u:Nat
 E:Nat
 D:Bool
 j:au
 a:Ll aY
 l:Ll bZ
 b:Ll bO
instance:Inhabited dK:=⟨⟨ZZ,ZZ,ZZ,ZZ,ZZ,ZZ,ZZ,ZZ,ZZ,ZZ,ZZ,ZZ,ZZ,ZZ,ZZ,ZZ,ZZ,ZZ,ZZ,ZZ⟩⟩
def bU.abs (x:bU):dK:=⟨x.e,x.G,x.C,x.I,x.y,x.F,x.z,x.r,x.f,x.k,x.t,x.s,x.g,x.u,x.E,x.D,x.j,⟨x.a.a⟩,⟨r7 aR.abs x.l.a⟩,⟨x.b.a⟩⟩
def Kg (x:bU):List HP:= [row x.a.A (X x.a.a) x.a.c (q0 aY.J x.a.a) 68 6,row x.l.A (X x.l.a) x.l.c (q0 aR.J x.l.a) 70 3,row x.b.A (X x.b.a) x.b.c (q0 bO.J x.b.a) 83 2,sepL (q0 Kc x.l.a)]
abbrev iF (r:Int) (s:Int) (t:Int) (u:Int) (v:Int) (w:Int) (x:Nat) (y:Nat) (z:Nat) (A:Nat) (g:Nat) (h:Nat) (i:Nat) (j:Nat) (k:Nat) (l:Bool) (m:List UInt8) (n:List UInt8) (o:Option Addr) (a b:Nat) (p:Option Addr) (c d:Nat) (q:Option Addr) (e f:Nat):List ZX:= [.int .i64 r, .int .i64 s, .int .i64 t, .int .i64 u, .int .i64 v, .int .i64 w, .int .u64 ((x:Nat):Int), .int .u64 ((y:Nat):Int), .int .u64 ((z:Nat):Int), .int .u64 ((A:Nat):Int), .int .u64 ((g:Nat):Int), .int .u64 ((h:Nat):Int), .int .u64 ((i:Nat):Int), .int .u64 ((j:Nat):Int), .int .u64 ((k:Nat):Int), V l, Zz ⟨Zc m⟩, Zz ⟨Zc n⟩, W o a b, W p c d, W q e f]
abbrev mF (x:dK) (a:Option Addr) (b:Nat) (c:Option Addr) (d:Nat) (e:Option Addr) (f:Nat):List ZX:= [.int .i64 x.e, .int .i64 x.G, .int .i64 x.C, .int .i64 x.I, .int .i64 x.y, .int .i64 x.F, .int .u64 ((x.z:Nat):Int), .int .u64 ((x.r:Nat):Int), .int .u64 ((x.f:Nat):Int), .int .u64 ((x.k:Nat):Int), .int .u64 ((x.t:Nat):Int), .int .u64 ((x.s:Nat):Int), .int .u64 ((x.g:Nat):Int), .int .u64 ((x.u:Nat):Int), .int .u64 ((x.E:Nat):Int), V x.D, Zz ⟨Zc x.j.a⟩, Zz ⟨Zc x.j.b⟩, W a (X x.a.a) b, W c (X x.l.a) d, W e (X x.b.a) f]
def nG (b:Int) (a:Int):Bool:=
 if b=1 then if a >= 1 then Zy (a<=4) else J else if b=2 then if a >= 11 then Zy (a < 15) else J else Zy (a=0)
theorem rW (w D f c l) (H:Own w D w []) (hr:nG f c=l):
    Calls v1 46 #[vI f,vI c] w (dM λ v w'=>v= V l/\Own w D w' []):=by
 unfold nG at hr
 refine cb Tryz.func46 ?_
 refine sr (An Z (JG (sr (Mn Z (bo (sr (Kz (Zb (f=1)) (An Z ?_))))))))
 by_cases d:f=1
 refine jT (dT d) (sr (Mz Z (Kz (Zb (c >= 1)) (Mz Z ?_))))
 by_cases a:c >= 1
 refine gw (vI c) (dT a) (JM Z) (Gz (Zb (c<=4)) (dT a) (fw (Zb (c<=4)) (JL Z (dT a) Z) (An Z (rt (bR (tR (rs ?_)))))))
 have g:=H.pk []
 obtain rfl:=zj hr zq2
 exact⟨Z,g⟩
 refine T (dF a) (T (dF a) (fw (V J) (JH Z (dF a) Z) (An Z (rt (bR (tR (rs ?_)))))))
 have h:=H.pk []
 obtain rfl:=zj hr zq2
 exact⟨Z,h⟩
 refine jF (dF d) (sr (Kz (Zb (f=2)) (An Z ?_)))
 by_cases e:f=2
 refine jT (dT e) (sr (Mz Z (Kz (Zb (c >= 11)) (Mz Z ?_))))
 by_cases b:c >= 11
 refine gw (vI c) (dT b) (JM Z) (Gz (Zb (c < 15)) (dT b) (fw (Zb (c < 15)) (JL Z (dT b) Z) (An Z (rt (bR (tR (rs ?_)))))))
 have i:=H.pk []
 obtain rfl:=zj hr zq3
 exact⟨Z,i⟩
 refine T (dF b) (T (dF b) (fw (V J) (JH Z (dF b) Z) (An Z (rt (bR (tR (rs ?_)))))))
 have j:=H.pk []
 obtain rfl:=zj hr zq3
 exact⟨Z,j⟩
 refine jF (dF e) (J8 (bN (JK (sr (Mz Z (Kz (Zb (c=0)) (An Z (rt (rs ?_)))))))))
 have k:=H.pk []
 obtain rfl:=zj hr zq2
 exact⟨Z,k⟩
def sQ (a:dK) (b:Int):Bool:=
 if b=2 then bnd (uH a.e a.y) λ c=>c else if b=3 then bnd (rT a.e a.l.a) λ d=>d else if b=7 then bnd (pF a.e a.a.a) λ e=>e else if b=11 then bnd (nV a.b.a) λ f=>decide (f=0) else if b=12 then bnd (nG 1 a.F) λ g=>g else if b=13 then bnd (dR a.j) λ h=>decide (h=0) else Zk
theorem CG (w D) (a:dK) (f z g h B i n j C k o r0) (H:Own w D w []) (Z5:z=X a.a.a) (Z6:Ro w D λ w'=>bP w' 6 f (X a.a.a) (q0 aY.J a.a.a)) (aK:X a.a.a<=g/\X a.a.a<=9223372036854775807) (r:r7 aR.abs n=a.l.a) (P:B=X a.l.a) (Q:Ro w D λ w'=>bP w' 3 h (X a.l.a) (q0 aR.J n)) (aL:X a.l.a<=i/\X a.l.a<=9223372036854775807) (s:∀ x ∈ n,Ro w D (λ w'=>bP w' 2 x.a.A (X x.a.a) (q0 ay.J x.a.a))/\(X x.a.a<=x.a.c/\X x.a.a<=9223372036854775807)) (R:C=X a.b.a) (S:Ro w D λ w'=>bP w' 2 j (X a.b.a) (q0 bO.J a.b.a)) (aM:X a.b.a<=k/\X a.b.a<=9223372036854775807) (bH:X a.a.a<=140737488355328/\X a.l.a<=140737488355328/\X a.b.a<=140737488355328) (hr:sQ a o=r0):
    Calls v1 96 #[Zx (Zc (iF a.e a.G a.C a.I a.y a.F a.z a.r a.f a.k a.t a.s a.g a.u a.E a.D a.j.a a.j.b f z g h B i j C k)),vI o] w (dM λ v w'=>v= V r0/\Own w D w' []):=by
 unfold sQ at hr
 subst Z5 P R
 have aJ:=bg r
 refine cb Tryz.func96 ?_
 refine sr ?_
 refine cu (mF a f g h i j k) 47 H ?_
 intro d bI b
 refine An Z (JG (sr (Mn Z (bo (sr (Kz (Zb (o=2)) (An Z ?_)))))))
 by_cases e:o=2
 refine jT (dT e) (sr (Kz (vP d 0) (Lz (vI a.e) b 0 B5 (Kz (vP d 4) (Lz (vI a.y) b 0 B5 ?_)))))
 obtain⟨Z4,E⟩:∃ q,uH a.e a.y=q:=⟨_,Z⟩
 obtain⟨bJ,Z3,bq,Z9,bu⟩:=JJ b
 refine cl Tryz.call156 (zB _ _ a.e a.y Z4 Z3 E) ?_
 rintro _ bK ⟨rfl,Z1⟩
 have aN:=Z9 _ _ Z1
 refine An Z (rt (bR (tR (rs ?_))))
 have aO:=aN.pk []
 obtain rfl:=zj hr zq2
 exact⟨Z,aO⟩
 refine jF (dF e) (sr (Kz (Zb (o=3)) (An Z ?_)))
 by_cases l:o=3
 refine jT (dT l) (sr (Kz (vP d 0) (Lz (vI a.e) b 0 B5 (Kz (vP d 19) (Lz (W h (X a.l.a) i) b 0 Tryz.isAgg45 ?_)))))
 obtain⟨Z2,F⟩:∃ q,rT a.e a.l.a=q:=⟨_,Z⟩
 obtain⟨bL,Z0,G,aa,bv⟩:=JJ b
 refine cl Tryz.call157 (xE _ _ a.e h (X a.l.a) i n a.l.a Z2 Z0 r (G _ Q) (λ x9 h9=>⟨G _ (s x9 h9).1,(s x9 h9).2⟩) Z Y F) ?_
 rintro _ bM ⟨rfl,af⟩
 have aP:=aa _ _ af
 refine An Z (rt (bR (tR (rs ?_))))
 have aQ:=aP.pk []
 obtain rfl:=zj hr zq3
 exact⟨Z,aQ⟩
 refine jF (dF l) (sr (Kz (Zb (o=7)) (An Z ?_)))
 by_cases m:o=7
 refine jT (dT m) (sr (Kz (vP d 0) (Lz (vI a.e) b 0 B5 (Kz (vP d 18) (Lz (W f (X a.a.a) g) b 0 Tryz.isAgg44 ?_)))))
 obtain⟨ag,I⟩:∃ q,pF a.e a.a.a=q:=⟨_,Z⟩
 obtain⟨bQ,ah,ai,aj,bB⟩:=JJ b
 refine cl Tryz.call158 (Aj _ _ a.e f (X a.a.a) g a.a.a ag ah (ai _ Z6) Z Y I) ?_
 rintro _ bS ⟨rfl,ak⟩
 have aS:=aj _ _ ak
 refine An Z (rt (bR (tR (rs ?_))))
 have aT:=aS.pk []
 obtain rfl:=zj hr zq4
 exact⟨Z,aT⟩
 refine jF (dF m) (sr (Kz (Zb (o=11)) (An Z ?_)))
 by_cases p:o=11
 refine jT (dT p) (sr (Kz (vP d 20) (Lz (W j (X a.b.a) k) b 0 Tryz.isAgg33 ?_)))
 obtain⟨u,Z7⟩:∃ q,nV a.b.a=q:=⟨_,Z⟩
 obtain⟨bT,av,ax,az,bC⟩:=JJ b
 refine cl Tryz.call30 (sN _ _ j (X a.b.a) k a.b.a u av (ax _ S) Z Y Z7) ?_
 rintro _ bU ⟨rfl,aA,K⟩
 have aU:=az _ _ aA
 replace K: ¬ (u=0)\/(1<=X a.b.a/\X a.b.a<=6):=K
 refine Kz (Zb (u=0)) (An Z (rt (bR (tR (rs ?_)))))
 have aV:=aU.pk []
 obtain rfl:=zj hr zq5
 exact⟨Z,aV⟩
 refine jF (dF p) (sr (Kz (Zb (o=12)) (An Z ?_)))
 by_cases t:o=12
 refine jT (dT t) (sr (Kz (vP d 5) (Lz (vI a.F) b 0 B5 ?_)))
 obtain⟨aB,L⟩:∃ q,nG 1 a.F=q:=⟨_,Z⟩
 obtain⟨bV,aC,bD,aD,bE⟩:=JJ b
 refine cl Tryz.call46 (rW _ _ 1 a.F aB aC L) ?_
 rintro _ bW ⟨rfl,aF⟩
 have aW:=aD _ _ aF
 refine An Z (rt (bR (tR (rs ?_))))
 have aX:=aW.pk []
 obtain rfl:=zj hr zq6
 exact⟨Z,aX⟩
 refine jF (dF t) (sr (Kz (Zb (o=13)) (An Z ?_)))
 by_cases y:o=13
 refine jT (dT y) (sr (Kz (vP d 16) (La (au.J a.j) b 0 Tryz.isAgg37 Tryz.sizeOf37 ?_)))
 obtain⟨Z8,M⟩:∃ q,dR a.j=q:=⟨_,Z⟩
 obtain⟨bX,aG,bF,aH,bG⟩:=JJ b
 refine cl Tryz.call65 (jr _ _ a.j Z8 aG M) ?_
 rintro _ bY ⟨rfl,aI⟩
 have aZ:=aH _ _ aI
 refine Kz (Zb (Z8=0)) (An Z (rt (bR (tR (rs ?_)))))
 have bf:=aZ.pk []
 obtain rfl:=zj hr zq7
 exact⟨Z,bf⟩
 refine jF (dF y) (J8 (bN (JK (sr (An Z (rt (rs ?_)))))))
 have bi:=b.pk []
 obtain rfl:=zj hr zq6
 exact⟨Z,bi⟩
def jY (d:dK):List Int->Unit ⊕ Bool
  | []=>y3 ()
  | b::c=>bnd (sQ d b) λ a=>if a=Zk then jY d c else y6 (J)
def sZ (a:dK) (l1:List Int):Bool:=
 lp (jY a l1) λ _=>Zk
theorem Ak (w D) (a:dK) (h z d j B f m l C g R n1 c1 l1 r0) (H:Own w D w []) (G:z=X a.a.a) (I:Ro w D λ w'=>bP w' 6 h (X a.a.a) (q0 aY.J a.a.a)) (ag:X a.a.a<=d/\X a.a.a<=9223372036854775807) (p:r7 aR.abs m=a.l.a) (Z7:B=X a.l.a) (K:Ro w D λ w'=>bP w' 3 j (X a.l.a) (q0 aR.J m)) (ah:X a.l.a<=f/\X a.l.a<=9223372036854775807) (r:∀ x ∈ m,Ro w D (λ w'=>bP w' 2 x.a.A (X x.a.a) (q0 ay.J x.a.a))/\(X x.a.a<=x.a.c/\X x.a.a<=9223372036854775807)) (L:C=X a.b.a) (M:Ro w D λ w'=>bP w' 2 l (X a.b.a) (q0 bO.J a.b.a)) (ai:X a.b.a<=g/\X a.b.a<=9223372036854775807) (Z5:Ro w D λ w'=>bP w' 1 R n1 (q0 (eI .i64) l1)) (aj:n1=X l1) (aH:X l1 *8<=211106232532992) (aI:X a.a.a<=140737488355328/\X a.l.a<=140737488355328/\X a.b.a<=140737488355328) (hr:sZ a l1=r0):
    Calls v1 49 #[Zx (Zc (iF a.e a.G a.C a.I a.y a.F a.z a.r a.f a.k a.t a.s a.g a.u a.E a.D a.j.a a.j.b h z d j B f l C g)), W R n1 c1] w (dM λ v w'=>v= V r0/\Own w D w' []):=by
 subst aj G Z7 L
 have Z0:=bg p
 refine cb Tryz.func49 ?_
 refine sr ?_
 refine cu (mF a h d j f l g) 47 H ?_
 intro Z6 aJ ak
 refine An Z (JG (sr (Mz Z (Kz (vJ (X l1)) (Mn Z (bo ?_))))))
 have au:=ak.pf []
 obtain⟨av,s⟩:=mE λ (b:Nat) w'=>Own w D w' [blk Z6 (mF a h d j f l g) 47]/\b<=X l1/\jY a l1=jY a (r6 b l1)
 refine B4 (λ i:Nat=> [(4, V J),(9,vJ i),(8,vJ (X l1)),(7, W R (X l1) c1),(2,vP Z6 0)]) av (λ i=>X l1 - i) 0 ⟨Z,Z,Z,Z,Z,ZW⟩ (s.2 ⟨au,Y,Z⟩) ?_
 rintro b aK S
 show Wp _ _ _ [(4, V J),(9,vJ b),(8,vJ (X l1)),(7, W R (X l1) c1),(2,vP Z6 0)] _ _
 obtain⟨o,aC,t⟩:=s.1 S
 refine sr (Kz (Zb ((b:Int) < (X l1:Int))) (nt (JG ?_)))
 by_cases Z8:(b:Int) < (X l1:Int)
 obtain⟨P,E⟩:=dJ (ls:=l1) (i:=b) xq f6 (o.ro Z5) f4
 have F:=drop_at E
 refine jT (dT Z8) (sk (JG (bo (sr (fw (Zq (Zw ⟨ab R,ao R+b *1,Zv⟩)) (JU (Gs) Z Z ((o.ro Z5).addr (i:=b) Y) Y) (fw (vI P) (JS Z (bT.one Tryz.isAgg183 (((o.ro Z5).elem xq E f6).at_ (k:=0) Z))) (Ar Z (La (mF a h d j f l g) o 0 Tryz.isAgg47 Tryz.sizeOf47 (Mz Z ?_)))))))))
 obtain⟨Q,u⟩:∃ q,sQ a P=q:=⟨_,Z⟩
 obtain⟨aL,Z4,n,Z3,aD⟩:=JJ o
 refine cl Tryz.call96 (CG _ _ a h (X a.a.a) d j (X a.l.a) f m l (X a.b.a) g P Q Z4 Z (n _ I) Y p Z (n _ K) Y (λ x9 h9=>⟨n _ (r x9 h9).1,(r x9 h9).2⟩) Z (n _ M) Y g4 u) ?_
 rintro _ aM ⟨rfl,Z9⟩
 have Z1:=Z3 _ _ Z9
 refine Kz (V (!Q)) (nt ?_)
 rcases Nf (Q) with y | y
 refine jF (cn y) (J8 (bN (JK (JI (fw (vJ (b+1)) (JN (e:=B7.wrap ((b:Int)+1)) yk f3) (Mz Z (B8 ?_)))))))
 have ax:=Z1.pf []
 exact JX (b+1) ⟨Z,Z,Z,Z,Z,ZW⟩ (s.2 ⟨ax,Y,N (t) (N (ZJ (λ q=>jY a q) F) (N (ae u) (ip y)))⟩) (by show X l1 - (b+1) < X l1 - b; omega)
 refine jT (cn y) (sr (An Z (rt (bR (tR (tR (bR (tR (rs ?_)))))))))
 have az:=Z1.pk []
 obtain rfl:_=J:=zj hr (iJ (N (t) (N (ZJ (λ q=>jY a q) F) (N (ae u) (eP y)))))
 exact⟨Z,az⟩
 refine jF (dF Z8) (B9 (JV ?_))
 have Z2:jY a l1=y3 ():=N (t) (N (ZJ (λ q=>jY a q) (eH (ls:=l1) (i:=b) Y)) Z)
 refine JV (J2 (JK (sr (An Z (rt (rs ?_))))))
 have aA:=o.pk []
 obtain rfl:_=Zk:=zj hr (lD Z2)
 exact⟨Z,aA⟩
def wD (a:dK):Bool:=
 if((dz (dz (dz (dz (dz (dz (dz (dz a.z a.r) a.f) a.k) a.t) a.s) a.g) a.u) a.E:Nat):Int)=0 then if(((X a.a.a+X a.l.a)+X a.b.a:Nat):Int)=0 then if a.I=0 then if a.y=0 then if a.F=0 then if a.D=Zk then J else Zy ((a.j.a=[])/\(a.j.b=[])) else J else J else J else J else J
theorem Bf (w D) (a:dK) (l s m n t o r p y q Z3) (H:Own w D w []) (z:s=X a.a.a) (G:Ro w D λ w'=>bP w' 6 l (X a.a.a) (q0 aY.J a.a.a)) (I:X a.a.a<=m/\X a.a.a<=9223372036854775807) (B:r7 aR.abs r=a.l.a) (C:t=X a.l.a) (Z7:Ro w D λ w'=>bP w' 3 n (X a.l.a) (q0 aR.J r)) (K:X a.l.a<=o/\X a.l.a<=9223372036854775807) (L:∀ x ∈ r,Ro w D (λ w'=>bP w' 2 x.a.A (X x.a.a) (q0 ay.J x.a.a))/\(X x.a.a<=x.a.c/\X x.a.a<=9223372036854775807)) (E:y=X a.b.a) (M:Ro w D λ w'=>bP w' 2 p (X a.b.a) (q0 bO.J a.b.a)) (Z5:X a.b.a<=q/\X a.b.a<=9223372036854775807) (ah:X a.a.a<=140737488355328/\X a.l.a<=140737488355328/\X a.b.a<=140737488355328) (hr:wD a=Z3):
    Calls v1 47 #[Zx (Zc (iF a.e a.G a.C a.I a.y a.F a.z a.r a.f a.k a.t a.s a.g a.u a.E a.D a.j.a a.j.b l s m n t o p y q))] w (dM λ v w'=>v= V Z3/\Own w D w' []):=by
 unfold wD at hr
 subst z C E
 have F:=bg B
 refine cb Tryz.func47 ?_
 refine sr ?_
 refine cu (mF a l m n o p q) 47 H ?_
 intro d ai b
 refine Ar Z (Kz (vP d 6) (Lz (vU a.z) b 0 E3 (Kz (vP d 7) (Lz (vU a.r) b 0 E3 ?_))))
 have Z9:dz a.z a.r<=18446744073709551615:=pW _ _
 refine fw (vU (dz a.z a.r)) (JN (e:=I0.wrap (((BitVec.ofInt 64 (a.z:Int) ||| BitVec.ofInt 64 (a.r:Int)).toNat:Nat):Int)) yk (lF _)) (Kz (vP d 8) (Lz (vU a.f) b 0 E3 ?_))
 have Z1:dz (dz a.z a.r) a.f<=18446744073709551615:=pW _ _
 refine fw (vU (dz (dz a.z a.r) a.f)) (JN (e:=I0.wrap (((BitVec.ofInt 64 ((dz a.z a.r:Nat):Int) ||| BitVec.ofInt 64 (a.f:Int)).toNat:Nat):Int)) yk (lF _)) (Kz (vP d 9) (Lz (vU a.k) b 0 E3 ?_))
 have Z2:dz (dz (dz a.z a.r) a.f) a.k<=18446744073709551615:=pW _ _
 refine fw (.int .u64 ((dz (dz (dz a.z a.r) a.f) a.k:Nat):Int)) (JN (e:=I0.wrap (((BitVec.ofInt 64 ((dz (dz a.z a.r) a.f:Nat):Int) ||| BitVec.ofInt 64 (a.k:Int)).toNat:Nat):Int)) yk (lF _)) (Kz (vP d 10) (Lz (vU a.t) b 0 E3 ?_))
 have Z0:dz (dz (dz (dz a.z a.r) a.f) a.k) a.t<=18446744073709551615:=pW _ _
 refine fw (.int .u64 ((dz (dz (dz (dz a.z a.r) a.f) a.k) a.t:Nat):Int)) (JN (e:=I0.wrap (((BitVec.ofInt 64 ((dz (dz (dz a.z a.r) a.f) a.k:Nat):Int) ||| BitVec.ofInt 64 (a.t:Int)).toNat:Nat):Int)) yk (lF _)) (Kz (vP d 11) (Lz (vU a.s) b 0 E3 ?_))
 have aa:dz (dz (dz (dz (dz a.z a.r) a.f) a.k) a.t) a.s<=18446744073709551615:=pW _ _
 refine fw (.int .u64 ((dz (dz (dz (dz (dz a.z a.r) a.f) a.k) a.t) a.s:Nat):Int)) (JN (e:=I0.wrap (((BitVec.ofInt 64 ((dz (dz (dz (dz a.z a.r) a.f) a.k) a.t:Nat):Int) ||| BitVec.ofInt 64 (a.s:Int)).toNat:Nat):Int)) yk (lF _)) (Kz (vP d 12) (Lz (vU a.g) b 0 E3 ?_))
 have ae:dz (dz (dz (dz (dz (dz a.z a.r) a.f) a.k) a.t) a.s) a.g<=18446744073709551615:=pW _ _
 refine fw (.int .u64 ((dz (dz (dz (dz (dz (dz a.z a.r) a.f) a.k) a.t) a.s) a.g:Nat):Int)) (JN (e:=I0.wrap (((BitVec.ofInt 64 ((dz (dz (dz (dz (dz a.z a.r) a.f) a.k) a.t) a.s:Nat):Int) ||| BitVec.ofInt 64 (a.g:Int)).toNat:Nat):Int)) yk (lF _)) (Kz (vP d 13) (Lz (vU a.u) b 0 E3 ?_))
 have af:dz (dz (dz (dz (dz (dz (dz a.z a.r) a.f) a.k) a.t) a.s) a.g) a.u<=18446744073709551615:=pW _ _
 refine fw (.int .u64 ((dz (dz (dz (dz (dz (dz (dz a.z a.r) a.f) a.k) a.t) a.s) a.g) a.u:Nat):Int)) (JN (e:=I0.wrap (((BitVec.ofInt 64 ((dz (dz (dz (dz (dz (dz a.z a.r) a.f) a.k) a.t) a.s) a.g:Nat):Int) ||| BitVec.ofInt 64 (a.u:Int)).toNat:Nat):Int)) yk (lF _)) (Kz (vP d 14) (Lz (vU a.E) b 0 E3 ?_))
 have ag:dz (dz (dz (dz (dz (dz (dz (dz a.z a.r) a.f) a.k) a.t) a.s) a.g) a.u) a.E<=18446744073709551615:=pW _ _
 refine fw (.int .u64 ((dz (dz (dz (dz (dz (dz (dz (dz a.z a.r) a.f) a.k) a.t) a.s) a.g) a.u) a.E:Nat):Int)) (JN (e:=I0.wrap (((BitVec.ofInt 64 ((dz (dz (dz (dz (dz (dz (dz a.z a.r) a.f) a.k) a.t) a.s) a.g) a.u:Nat):Int) ||| BitVec.ofInt 64 (a.E:Int)).toNat:Nat):Int)) yk (lF _)) (Ar Z (Kz (vP d 18) (Lz (W l (X a.a.a) m) b 0 Tryz.isAgg44 (Kz (vJ (X a.a.a)) (Kz (vP d 19) (Lz (W n (X a.l.a) o) b 0 Tryz.isAgg45 (Kz (vJ (X a.l.a)) (fw (vJ (X a.a.a+X a.l.a)) (JN (e:=B7.wrap ((X a.a.a:Int)+(X a.l.a:Int))) yk f3) (Kz (vP d 20) (Lz (W p (X a.b.a) q) b 0 Tryz.isAgg33 (Kz (vJ (X a.b.a)) (fw (vJ ((X a.a.a+X a.l.a)+X a.b.a)) (JN (e:=B7.wrap (((X a.a.a+X a.l.a:Nat):Int)+(X a.b.a:Int))) yk f3) (Ar Z (Mz Z (Kz (Zb (((dz (dz (dz (dz (dz (dz (dz (dz a.z a.r) a.f) a.k) a.t) a.s) a.g) a.u) a.E:Nat):Int)=0)) (Mz Z ?_))))))))))))))))
 by_cases g:((dz (dz (dz (dz (dz (dz (dz (dz a.z a.r) a.f) a.k) a.t) a.s) a.g) a.u) a.E:Nat):Int)=0
 refine gw (vJ ((X a.a.a+X a.l.a)+X a.b.a)) (dT g) (JM Z) (Gz (Zb ((((X a.a.a+X a.l.a)+X a.b.a:Nat):Int)=0)) (dT g) (fw (Zb ((((X a.a.a+X a.l.a)+X a.b.a:Nat):Int)=0)) (JL Z (dT g) Z) (Mz Z ?_)))
 by_cases f:(((X a.a.a+X a.l.a)+X a.b.a:Nat):Int)=0
 refine Gz (vP d 3) (dT f) (Gl (vI a.I) (dT f) b 0 B5 (Gz (Zb (a.I=0)) (dT f) (fw (Zb (a.I=0)) (JL Z (dT f) Z) (Mz Z ?_))))
 by_cases h:a.I=0
 refine Gz (vP d 4) (dT h) (Gl (vI a.y) (dT h) b 0 B5 (Gz (Zb (a.y=0)) (dT h) (fw (Zb (a.y=0)) (JL Z (dT h) Z) (Mz Z ?_))))
 by_cases j:a.y=0
 refine Gz (vP d 5) (dT j) (Gl (vI a.F) (dT j) b 0 B5 (Gz (Zb (a.F=0)) (dT j) (fw (Zb (a.F=0)) (JL Z (dT j) Z) (Mz Z ?_))))
 by_cases k:a.F=0
 refine Gz (vP d 15) (dT k) (Gl (V a.D) (dT k) b 0 H4 (Gz (V (!a.D)) (dT k) (fw (V (!a.D)) (JL Z (dT k) Z) (Mz Z ?_))))
 rcases Nf (a.D) with i | i
 refine T (cn i) (T (cn i) (T (cn i) (T (cn i) (fw (V J) (JH Z (cn i) Z) (An Z (rt (rs ?_)))))))
 have Z6:=b.pk []
 obtain rfl:=zj hr zq6
 exact⟨Z,Z6⟩
 refine Gz (vP d 16) (cn i) (Ga (au.J a.j) (cn i) b 0 Tryz.isAgg37 Tryz.sizeOf37 (Gz (Zx #[Zz ⟨Zc []⟩, Zz ⟨Zc []⟩]) (cn i) (gw (Zb ((a.j.a=[])/\(a.j.b=[]))) (cn i) (LP Z Z f1 Z (gB.struct Tryz.underlying37 f1 (Kv (fG.cons (u:= Zz ⟨Zc a.j.a⟩) (v:= Zz ⟨Zc []⟩) f6 Za Za (gB.string v7) (fG.cons (u:= Zz ⟨Zc a.j.b⟩) (v:= Zz ⟨Zc []⟩) f6 Za Za (gB.string v7) (fG.nil.up (Nb _)))) ((ZJ (Zy (a.j.a=[]) && ·) kF).trans fI)))) (fw (Zb ((a.j.a=[])/\(a.j.b=[]))) (JL Z (cn i) Z) (An Z (rt (rs ?_)))))))
 have P:=b.pk []
 obtain rfl:=zj hr zq6
 exact⟨Z,P⟩
 refine T (dF k) (T (dF k) (T (dF k) (fw (V J) (JH Z (dF k) Z) (Mz Z (T Z (T Z (T Z (T Z (fw (V J) (JH Z Z Z) (An Z (rt (rs ?_))))))))))))
 have Q:=b.pk []
 obtain rfl:=zj hr zq5
 exact⟨Z,Q⟩
 refine T (dF j) (T (dF j) (T (dF j) (fw (V J) (JH Z (dF j) Z) (Mz Z (T Z (T Z (T Z (fw (V J) (JH Z Z Z) (Mz Z (T Z (T Z (T Z (T Z (fw (V J) (JH Z Z Z) (An Z (rt (rs ?_)))))))))))))))))
 have R:=b.pk []
 obtain rfl:=zj hr zq4
 exact⟨Z,R⟩
 refine T (dF h) (T (dF h) (T (dF h) (fw (V J) (JH Z (dF h) Z) (Mz Z (T Z (T Z (T Z (fw (V J) (JH Z Z Z) (Mz Z (T Z (T Z (T Z (fw (V J) (JH Z Z Z) (Mz Z (T Z (T Z (T Z (T Z (fw (V J) (JH Z Z Z) (An Z (rt (rs ?_))))))))))))))))))))))
 have S:=b.pk []
 obtain rfl:=zj hr zq3
 exact⟨Z,S⟩
 refine T (dF f) (T (dF f) (T (dF f) (fw (V J) (JH Z (dF f) Z) (Mz Z (T Z (T Z (T Z (fw (V J) (JH Z Z Z) (Mz Z (T Z (T Z (T Z (fw (V J) (JH Z Z Z) (Mz Z (T Z (T Z (T Z (fw (V J) (JH Z Z Z) (Mz Z (T Z (T Z (T Z (T Z (fw (V J) (JH Z Z Z) (An Z (rt (rs ?_)))))))))))))))))))))))))))
 have Z8:=b.pk []
 obtain rfl:=zj hr zq2
 exact⟨Z,Z8⟩
 refine T (dF g) (T (dF g) (fw (V J) (JH Z (dF g) Z) (Mz Z (T Z (T Z (T Z (fw (V J) (JH Z Z Z) (Mz Z (T Z (T Z (T Z (fw (V J) (JH Z Z Z) (Mz Z (T Z (T Z (T Z (fw (V J) (JH Z Z Z) (Mz Z (T Z (T Z (T Z (fw (V J) (JH Z Z Z) (Mz Z (T Z (T Z (T Z (T Z (fw (V J) (JH Z Z Z) (An Z (rt (rs ?_)))))))))))))))))))))))))))))))
 have Z4:=b.pk []
 obtain rfl:=zj hr zq1
 exact⟨Z,Z4⟩
end
open _root_.Go.Proofs.Tryz renaming isAgg121->I2,isAgg47->I3,sizeOf32->J1,sizeOf47->J0
section
open Go.RowKit
def dh (u:dK) (s:gz):List Int->Int->Int->Nat->Nat->Nat->Nat->Nat->Nat->Nat->Nat->Nat->Bool->List UInt8->List UInt8->List aY->List bZ->List bO->Int × Int × Nat × Nat × Nat × Nat × Nat × Nat × Nat × Nat × Nat × Bool × (List UInt8) × (List UInt8) × (List aY) × (List bZ) × (List bO)
  | [],b,c,d,e,f,g,h,i,j,k,l,m,n,o,p,q,r=>(b,c,d,e,f,g,h,i,j,k,l,m,n,o,p,q,r)
  | a::t,b,c,d,e,f,g,h,i,j,k,l,m,n,o,p,q,r=>if a=0 then dh u s t b c 0 e f g h i j k l m n o p q r else if a=1 then dh u s t b c d 0 f g h i j k l m n o p q r else if a=2 then dh u s t 0 c d e f g h i j k l m n o p q r else if a=3 then dh u s t b c d e f g h i j k l m n o p [] r else if a=4 then dh u s t b c d e 0 g h i j k l m n o p q r else if a=5 then dh u s t b c d e f 0 h i j k l m n o p q r else if a=6 then dh u s t b c d e f g h 0 j k l m n o p q r else if a=7 then dh u s t b c d e f g h i j k l m n o [] q r else if a=8 then dh u s t b c d e f g h i j k l J n o p q r else if a=9 then dh u s t b c d e f g 0 i j k l m n o p q r else if a=10 then dh u s t b c d e f g h i 0 k l m n o p q r else if a=11 then dh u s t b c d e f g h i j k l m n o p q [] else if a=12 then dh u s t b 0 d e f g h i j k l m n o p q r else if a=13 then dh u s t b c d e f g h i j k l m [] [] p q r else if a=14 then dh u s t b c d e f g h i j 0 l m n o p q r else if a=15 then dh u s t b c d e f g h i j k 0 m n o p q r else dh u s t b c d e f g h i j k l m n o p q r
def kV (a:dK):Int:=
 bnd (rq a.e) λ b=>if b.2=Zk then bnd (nG b.1.e a.G) λ e=>if e=Zk then bnd (nG b.1.b a.C) λ f=>if f=Zk then bnd (dh a b.1 b.1.a.a a.y a.F a.z a.r a.f a.k a.t a.s a.g a.u a.E a.D a.j.a a.j.b a.a.a a.l.a a.b.a) λ sLrbtbtbtL=>bnd (wD (dK.q a.e a.G a.C a.I sLrbtbtbtL.1 sLrbtbtbtL.2.1 sLrbtbtbtL.2.2.1 sLrbtbtbtL.2.2.2.1 sLrbtbtbtL.2.2.2.2.1 sLrbtbtbtL.2.2.2.2.2.1 sLrbtbtbtL.2.2.2.2.2.2.1 sLrbtbtbtL.2.2.2.2.2.2.2.1 sLrbtbtbtL.2.2.2.2.2.2.2.2.1 sLrbtbtbtL.2.2.2.2.2.2.2.2.2.1 sLrbtbtbtL.2.2.2.2.2.2.2.2.2.2.1 sLrbtbtbtL.2.2.2.2.2.2.2.2.2.2.2.1 (au.q sLrbtbtbtL.2.2.2.2.2.2.2.2.2.2.2.2.1 sLrbtbtbtL.2.2.2.2.2.2.2.2.2.2.2.2.2.1) (O sLrbtbtbtL.2.2.2.2.2.2.2.2.2.2.2.2.2.2.1) (O sLrbtbtbtL.2.2.2.2.2.2.2.2.2.2.2.2.2.2.2.1) (O sLrbtbtbtL.2.2.2.2.2.2.2.2.2.2.2.2.2.2.2.2))) λ c=>if c=Zk then bnd (sZ a b.1.a.a) λ d=>if d=Zk then if b.1.e=1 then if b.1.b=1 then if a.G=a.C then 180 else 0 else 0 else 0 else 180 else 180 else 180 else 180 else 180
theorem wZ (w D) (a:dK) (aj bX aa ak bY af aI av cz ag r0) (H:Own w D w []) (di:bX=X a.a.a) (bH:Ro w D λ w'=>bP w' 6 aj (X a.a.a) (q0 aY.J a.a.a)) (ib:X a.a.a<=aa/\X a.a.a<=9223372036854775807) (bf:r7 aR.abs aI=a.l.a) (dm:bY=X a.l.a) (bI:Ro w D λ w'=>bP w' 3 ak (X a.l.a) (q0 aR.J aI)) (ic:X a.l.a<=af/\X a.l.a<=9223372036854775807) (bi:∀ x ∈ aI,Ro w D (λ w'=>bP w' 2 x.a.A (X x.a.a) (q0 ay.J x.a.a))/\(X x.a.a<=x.a.c/\X x.a.a<=9223372036854775807)) (dn:cz=X a.b.a) (bJ:Ro w D λ w'=>bP w' 2 av (X a.b.a) (q0 bO.J a.b.a)) (ig:X a.b.a<=ag/\X a.b.a<=9223372036854775807) (jG:X a.a.a<=140737488355328/\X a.l.a<=140737488355328/\X a.b.a<=140737488355328) (hr:kV a=r0):
    Calls Tryz.prog 22 #[Zx (Zc (iF a.e a.G a.C a.I a.y a.F a.z a.r a.f a.k a.t a.s a.g a.u a.E a.D a.j.a a.j.b aj bX aa ak bY af av cz ag))] w (dM λ v w'=>v=vI r0/\Own w D w' []):=by
 unfold kV at hr
 subst di dm dn
 have gZ:=bg bf
 refine cb Tryz.func22 ?_
 refine sr ?_
 refine cu (mF a aj aa ak af av ag) 47 H ?_
 intro bG jH dH
 refine Ar Z (Kz (vP bG 0) (Lz (vI a.e) dH 0 B5 ?_))
 obtain⟨⟨d,bL⟩,aK⟩:∃ q:gz × Bool,rq a.e=q:=⟨_,Z⟩
 obtain⟨jI,dI,iR,dL,iT⟩:=JJ dH
 refine cl Tryz.call45 (yR _ _ a.e d bL dI aK) ?_
 rintro _ jJ ⟨aW,bn,rfl,dN,cB⟩
 have dO:=dL _ _ dN
 have iU:=dO.rowC (i:=0) Z
 replace cB:X d.a.a<=5:=cB
 refine Mz Z (Kz (Zx #[vI d.e,vI d.b, W aW (X d.a.a) bn]) (Kz (V bL) ?_))
 refine cu [vI 0,vI 0, W Zv 0 0] 124 dO ?_
 intro bz jK ik
 refine cO [vI d.e,vI d.b, W aW (X d.a.a) bn] 0 ik Tryz.sizeOf124 ?_
 intro jL bM
 refine An Z (JG (sr (Mz Z (Kz (V (!bL)) (Mz Z ?_)))))
 rcases Nf (bL) with ai | ai
 refine Gz (vP bz 0) (cn ai) (Gl (vI d.e) (cn ai) bM 0 I2 (Gz (vP bG 1) (cn ai) (Gl (vI a.G) (cn ai) bM 2 B5 ?_)))
 obtain⟨bR,aN⟩:∃ q,nG d.e a.G=q:=⟨_,Z⟩
 obtain⟨jM,dP,iV,dQ,iW⟩:=JJ bM
 refine oC (cn ai) Tryz.call46 (rW _ _ d.e a.G bR dP aN) ?_
 rintro _ jN ⟨rfl,dR⟩
 have bS:=dQ _ _ dR
 refine Gz (V (!bR)) (cn ai) (fw (V (!bR)) (JH Z (cn ai) Z) (Mz Z ?_))
 rcases Nf (bR) with ax | ax
 refine Gz (vP bz 1) (cn ax) (Gl (vI d.b) (cn ax) bS 0 I2 (Gz (vP bG 2) (cn ax) (Gl (vI a.C) (cn ax) bS 2 B5 ?_)))
 obtain⟨bU,aS⟩:∃ q,nG d.b a.C=q:=⟨_,Z⟩
 obtain⟨jO,dS,iX,dU,iY⟩:=JJ bS
 refine oC (cn ax) Tryz.call46 (rW _ _ d.b a.C bU dS aS) ?_
 rintro _ jP ⟨rfl,dV⟩
 have bV:=dU _ _ dV
 refine Gz (V (!bU)) (cn ax) (fw (V (!bU)) (JH Z (cn ax) Z) (Mz Z ?_))
 rcases Nf (bU) with aB | aB
 refine Ga (mF a aj aa ak af av ag) (cn aB) bV 2 I3 J0 (Gz (vP bz 2) (cn aB) (Gl (W aW (X d.a.a) bn) (cn aB) bV 0 Tryz.isAgg122 ?_))
 refine KF Z Z (cn aB) Z (J6 Tryz.call48 Z ?_ (λ _ _ k=>k))
 refine cb Tryz.func48 ?_
 refine sr ?_
 refine cu (mF a aj aa ak af av ag) 47 bV ?_
 intro aF jQ il
 refine cu (iF 0 0 0 0 0 0 0 0 0 0 0 0 0 0 0 J [] [] Zv 0 0 Zv 0 0 Zv 0 0) 47 il ?_
 intro dw jR iq
 refine nt (JG (sr (Mz Z (Kz (vJ (X d.a.a)) (Mn Z (bo ?_))))))
 have iw:=iq.pf []
 obtain⟨dW,I⟩:=Js λ (b:Nat) (z:Int) (B:Int) (j:Nat) (l:Nat) (n:Nat) (o:Nat) (p:Nat) (r:Nat) (s:Nat) (t:Nat) (u:Nat) C E F Z9 (R:Nat) f Z1 (S:Nat) Z8 g Z2 (Z4:Nat) h w'=>Own w D w' [blk dw (iF 0 0 0 0 0 0 0 0 0 0 0 0 0 0 0 J [] [] Zv 0 0 Zv 0 0 Zv 0 0) 47,blk aF (iF a.e a.G a.C a.I z B j l n o p r s t u C E F Z9 (X f) R Z1 (X g) S Z2 (X h) Z4) 47,blk bz [vI d.e,vI d.b, W aW (X d.a.a) bn] 124,row aW (X d.a.a) bn (q0 (eI .i64) d.a.a) 183 1,blk bG (mF a aj aa ak af av ag) 47]/\jB 6 aj aa a.a.a Z9 R f/\jB 3 ak af aI Z1 S Z8/\r7 aR.abs Z8=g/\jB 2 av ag a.b.a Z2 Z4 h/\b<=X d.a.a/\j<=a.z+b/\l<=a.r+b/\n<=a.f+b/\o<=a.k+b/\p<=a.t+b/\r<=a.s+b/\s<=a.g+b/\t<=a.u+b/\u<=a.E+b/\dh a d d.a.a a.y a.F a.z a.r a.f a.k a.t a.s a.g a.u a.E a.D a.j.a a.j.b a.a.a a.l.a a.b.a=dh a d (r6 b d.a.a) z B j l n o p r s t u C E F f g h
 refine Wp.loop (λ i:Nat × Int × Int × Nat × Nat × Nat × Nat × Nat × Nat × Nat × Nat × Nat × Bool × (List UInt8) × (List UInt8) × (Option Addr) × Nat × (List aY) × (Option Addr) × Nat × (List aR) × (List bZ) × (Option Addr) × Nat × (List bO)=> [(9,vJ i.1),(8,vJ (X d.a.a)),(7, W aW (X d.a.a) bn),(4,vP dw 0),(2,vP aF 0)]) dW (λ i=>X d.a.a - i.1) (0,a.y,a.F,a.z,a.r,a.f,a.k,a.t,a.s,a.g,a.u,a.E,a.D,a.j.a,a.j.b,aj,aa,a.a.a,ak,af,aI,a.l.a,av,ag,a.b.a) ⟨Z,Z,Z,Z,Z,ZW⟩ (I.2 ⟨iw,by exact(jB.refl Y),by exact(jB.refl Y),by exact bf,by exact(jB.refl Y),Y,Y,Y,Y,Y,Y,Y,Y,Y,Y,Z⟩) ?_
 rintro ⟨b,z,B,j,l,n,o,p,r,s,t,u,C,E,F,Z9,R,f,Z1,S,Z8,g,Z2,Z4,h⟩ iZ dx
 show Wp _ _ _ [(9,vJ b),(8,vJ (X d.a.a)),(7, W aW (X d.a.a) bn),(4,vP dw 0),(2,vP aF 0)] _ _
 obtain⟨Z6,K,G,Z7,L,iy,iA,iB,iC,iD,iE,iG,iH,iI,iJ,M⟩:=I.1 dx
 have iK:=(K).le
 have iL:=(G).le
 have iM:=bg Z7
 have iO:=(L).le
 refine sr (Kz (Zb ((b:Int) < (X d.a.a:Int))) (nt (JG ?_)))
 by_cases cK:(b:Int) < (X d.a.a:Int)
 obtain⟨y,bK⟩:=dJ (ls:=d.a.a) (i:=b) xq f6 (Z6.rds (i:=3) Z) f4
 have Z5:=drop_at bK
 refine jT (dT cK) (sk (JG (bo (sr (fw (Zq (Zw ⟨ab aW,ao aW+b *1,Zv⟩)) (JU (Gs) Z Z ((Z6.rds (i:=3) Z).addr (i:=b) Y) Y) (fw (vI y) (JS Z (bT.one Tryz.isAgg183 (((Z6.rds (i:=3) Z).elem xq bK f6).at_ (k:=0) Z))) (Ar Z (Mn Z (bo (sr (Kz (Zb (y=0)) (An Z ?_))))))))))))
 by_cases P:y=0
 refine jT (dT P) (JI (Kz (vP aF 6) ?_))
 have dX:=Z6.pf [1]
 refine cO [.int .u64 0] 6 dX J1 ?_
 intro ja dY
 refine B8 (bN (bN (JK (JI (fw (vJ (b+1)) (JN (e:=B7.wrap ((b:Int)+1)) yk f3) (Mz Z (B8 ?_)))))))
 have dZ:=dY.pf [1]
 exact JX (b+1,z,B,0,l,n,o,p,r,s,t,u,C,E,F,Z9,R,f,Z1,S,Z8,g,Z2,Z4,h) ⟨Z,Z,Z,Z,Z,ZW⟩ (I.2 ⟨dZ,by exact K,by exact G,by exact Z7,by exact L,Y,Y,Y,Y,Y,Y,Y,Y,Y,Y,N (M) (N (ZJ (λ q=>dh a d q z B j l n o p r s t u C E F f g h) Z5) (ip P))⟩) (by show X d.a.a - (b+1) < X d.a.a - b; omega)
 refine jF (dF P) (sr (Kz (Zb (y=1)) (An Z ?_)))
 by_cases Z3:y=1
 refine jT (dT Z3) (JI (Kz (vP aF 7) ?_))
 have d9:=Z6.pf [1]
 refine cO [.int .u64 0] 7 d9 J1 ?_
 intro jb ed
 refine B8 (bN (bN (JK (JI (fw (vJ (b+1)) (JN (e:=B7.wrap ((b:Int)+1)) yk f3) (Mz Z (B8 ?_)))))))
 have ek:=ed.pf [1]
 exact JX (b+1,z,B,j,0,n,o,p,r,s,t,u,C,E,F,Z9,R,f,Z1,S,Z8,g,Z2,Z4,h) ⟨Z,Z,Z,Z,Z,ZW⟩ (I.2 ⟨ek,by exact K,by exact G,by exact Z7,by exact L,Y,Y,Y,Y,Y,Y,Y,Y,Y,Y,N (M) (N (ZJ (λ q=>dh a d q z B j l n o p r s t u C E F f g h) Z5) (N (iN P) (ip Z3)))⟩) (by show X d.a.a - (b+1) < X d.a.a - b; omega)
 refine jF (dF Z3) (sr (Kz (Zb (y=2)) (An Z ?_)))
 by_cases Z0:y=2
 refine jT (dT Z0) (JI (Kz (vP aF 4) ?_))
 have eu:=Z6.pf [1]
 refine cO [vI 0] 4 eu Tryz.sizeOf3 ?_
 intro jc eB
 refine B8 (bN (bN (JK (JI (fw (vJ (b+1)) (JN (e:=B7.wrap ((b:Int)+1)) yk f3) (Mz Z (B8 ?_)))))))
 have eD:=eB.pf [1]
 exact JX (b+1,0,B,j,l,n,o,p,r,s,t,u,C,E,F,Z9,R,f,Z1,S,Z8,g,Z2,Z4,h) ⟨Z,Z,Z,Z,Z,ZW⟩ (I.2 ⟨eD,by exact K,by exact G,by exact Z7,by exact L,Y,Y,Y,Y,Y,Y,Y,Y,Y,Y,N (M) (N (ZJ (λ q=>dh a d q z B j l n o p r s t u C E F f g h) Z5) (N (iN P) (N (iN Z3) (ip Z0))))⟩) (by show X d.a.a - (b+1) < X d.a.a - b; omega)
 refine jF (dF Z0) (sr (Kz (Zb (y=3)) (An Z ?_)))
 by_cases ah:y=3
 refine jT (dT ah) (JI (Kz (vP aF 19) ?_))
 have eF:=Z6.pf [1]
 refine cO [W Zv 0 0] 19 eF Tryz.sizeOf45 ?_
 intro jd eG
 refine B8 (bN (bN (JK (JI (fw (vJ (b+1)) (JN (e:=B7.wrap ((b:Int)+1)) yk f3) (Mz Z (B8 ?_)))))))
 have eO:=eG.pf [1]
 exact JX (b+1,z,B,j,l,n,o,p,r,s,t,u,C,E,F,Z9,R,f,Zv,0, [], [],Z2,Z4,h) ⟨Z,Z,Z,Z,Z,ZW⟩ (I.2 ⟨eO,(show jB 6 aj aa a.a.a Z9 R f/\jB 3 ak af aI Zv 0 []/\r7 aR.abs []=[]/\jB 2 av ag a.b.a Z2 Z4 h/\(b+1)<=X d.a.a/\j<=a.z+(b+1)/\l<=a.r+(b+1)/\n<=a.f+(b+1)/\o<=a.k+(b+1)/\p<=a.t+(b+1)/\r<=a.s+(b+1)/\s<=a.g+(b+1)/\t<=a.u+(b+1)/\u<=a.E+(b+1)/\dh a d d.a.a a.y a.F a.z a.r a.f a.k a.t a.s a.g a.u a.E a.D a.j.a a.j.b a.a.a a.l.a a.b.a=dh a d (r6 (b+1) d.a.a) z B j l n o p r s t u C E F f [] h from ⟨by exact K,by exact jB.nil,by exact Z,by exact L,Y,Y,Y,Y,Y,Y,Y,Y,Y,Y,N (M) (N (ZJ (λ q=>dh a d q z B j l n o p r s t u C E F f g h) Z5) (N (iN P) (N (iN Z3) (N (iN Z0) (ip ah)))))⟩)⟩) (by show X d.a.a - (b+1) < X d.a.a - b; omega)
 refine jF (dF ah) (sr (Kz (Zb (y=4)) (An Z ?_)))
 by_cases az:y=4
 refine jT (dT az) (JI (Kz (vP aF 8) ?_))
 have eQ:=Z6.pf [1]
 refine cO [.int .u64 0] 8 eQ J1 ?_
 intro je eT
 refine B8 (bN (bN (JK (JI (fw (vJ (b+1)) (JN (e:=B7.wrap ((b:Int)+1)) yk f3) (Mz Z (B8 ?_)))))))
 have eU:=eT.pf [1]
 exact JX (b+1,z,B,j,l,0,o,p,r,s,t,u,C,E,F,Z9,R,f,Z1,S,Z8,g,Z2,Z4,h) ⟨Z,Z,Z,Z,Z,ZW⟩ (I.2 ⟨eU,by exact K,by exact G,by exact Z7,by exact L,Y,Y,Y,Y,Y,Y,Y,Y,Y,Y,N (M) (N (ZJ (λ q=>dh a d q z B j l n o p r s t u C E F f g h) Z5) (N (iN P) (N (iN Z3) (N (iN Z0) (N (iN ah) (ip az))))))⟩) (by show X d.a.a - (b+1) < X d.a.a - b; omega)
 refine jF (dF az) (sr (Kz (Zb (y=5)) (An Z ?_)))
 by_cases aC:y=5
 refine jT (dT aC) (JI (Kz (vP aF 9) ?_))
 have eX:=Z6.pf [1]
 refine cO [.int .u64 0] 9 eX J1 ?_
 intro jg eY
 refine B8 (bN (bN (JK (JI (fw (vJ (b+1)) (JN (e:=B7.wrap ((b:Int)+1)) yk f3) (Mz Z (B8 ?_)))))))
 have eZ:=eY.pf [1]
 exact JX (b+1,z,B,j,l,n,0,p,r,s,t,u,C,E,F,Z9,R,f,Z1,S,Z8,g,Z2,Z4,h) ⟨Z,Z,Z,Z,Z,ZW⟩ (I.2 ⟨eZ,by exact K,by exact G,by exact Z7,by exact L,Y,Y,Y,Y,Y,Y,Y,Y,Y,Y,N (M) (N (ZJ (λ q=>dh a d q z B j l n o p r s t u C E F f g h) Z5) (N (iN P) (N (iN Z3) (N (iN Z0) (N (iN ah) (N (iN az) (ip aC)))))))⟩) (by show X d.a.a - (b+1) < X d.a.a - b; omega)
 refine jF (dF aC) (sr (Kz (Zb (y=6)) (An Z ?_)))
 by_cases aD:y=6
 refine jT (dT aD) (JI (Kz (vP aF 11) ?_))
 have fe:=Z6.pf [1]
 refine cO [.int .u64 0] 11 fe J1 ?_
 intro jh fo
 refine B8 (bN (bN (JK (JI (fw (vJ (b+1)) (JN (e:=B7.wrap ((b:Int)+1)) yk f3) (Mz Z (B8 ?_)))))))
 have fq:=fo.pf [1]
 exact JX (b+1,z,B,j,l,n,o,p,0,s,t,u,C,E,F,Z9,R,f,Z1,S,Z8,g,Z2,Z4,h) ⟨Z,Z,Z,Z,Z,ZW⟩ (I.2 ⟨fq,by exact K,by exact G,by exact Z7,by exact L,Y,Y,Y,Y,Y,Y,Y,Y,Y,Y,N (M) (N (ZJ (λ q=>dh a d q z B j l n o p r s t u C E F f g h) Z5) (N (iN P) (N (iN Z3) (N (iN Z0) (N (iN ah) (N (iN az) (N (iN aC) (ip aD))))))))⟩) (by show X d.a.a - (b+1) < X d.a.a - b; omega)
 refine jF (dF aD) (sr (Kz (Zb (y=7)) (An Z ?_)))
 by_cases aG:y=7
 refine jT (dT aG) (JI (Kz (vP aF 18) ?_))
 have fu:=Z6.pf [1]
 refine cO [W Zv 0 0] 18 fu Tryz.sizeOf44 ?_
 intro ji fA
 refine B8 (bN (bN (JK (JI (fw (vJ (b+1)) (JN (e:=B7.wrap ((b:Int)+1)) yk f3) (Mz Z (B8 ?_)))))))
 have fB:=fA.pf [1]
 exact JX (b+1,z,B,j,l,n,o,p,r,s,t,u,C,E,F,Zv,0, [],Z1,S,Z8,g,Z2,Z4,h) ⟨Z,Z,Z,Z,Z,ZW⟩ (I.2 ⟨fB,(show jB 6 aj aa a.a.a Zv 0 []/\jB 3 ak af aI Z1 S Z8/\r7 aR.abs Z8=g/\jB 2 av ag a.b.a Z2 Z4 h/\(b+1)<=X d.a.a/\j<=a.z+(b+1)/\l<=a.r+(b+1)/\n<=a.f+(b+1)/\o<=a.k+(b+1)/\p<=a.t+(b+1)/\r<=a.s+(b+1)/\s<=a.g+(b+1)/\t<=a.u+(b+1)/\u<=a.E+(b+1)/\dh a d d.a.a a.y a.F a.z a.r a.f a.k a.t a.s a.g a.u a.E a.D a.j.a a.j.b a.a.a a.l.a a.b.a=dh a d (r6 (b+1) d.a.a) z B j l n o p r s t u C E F [] g h from ⟨by exact jB.nil,by exact G,by exact Z7,by exact L,Y,Y,Y,Y,Y,Y,Y,Y,Y,Y,N (M) (N (ZJ (λ q=>dh a d q z B j l n o p r s t u C E F f g h) Z5) (N (iN P) (N (iN Z3) (N (iN Z0) (N (iN ah) (N (iN az) (N (iN aC) (N (iN aD) (ip aG)))))))))⟩)⟩) (by show X d.a.a - (b+1) < X d.a.a - b; omega)
 refine jF (dF aG) (sr (Kz (Zb (y=8)) (An Z ?_)))
 by_cases aJ:y=8
 refine jT (dT aJ) (JI (Kz (vP aF 15) ?_))
 have fC:=Z6.pf [1]
 refine cO [V J] 15 fC Tryz.sizeOf4 ?_
 intro jk fD
 refine B8 (bN (bN (JK (JI (fw (vJ (b+1)) (JN (e:=B7.wrap ((b:Int)+1)) yk f3) (Mz Z (B8 ?_)))))))
 have fE:=fD.pf [1]
 exact JX (b+1,z,B,j,l,n,o,p,r,s,t,u,J,E,F,Z9,R,f,Z1,S,Z8,g,Z2,Z4,h) ⟨Z,Z,Z,Z,Z,ZW⟩ (I.2 ⟨fE,(show jB 6 aj aa a.a.a Z9 R f/\jB 3 ak af aI Z1 S Z8/\r7 aR.abs Z8=g/\jB 2 av ag a.b.a Z2 Z4 h/\(b+1)<=X d.a.a/\j<=a.z+(b+1)/\l<=a.r+(b+1)/\n<=a.f+(b+1)/\o<=a.k+(b+1)/\p<=a.t+(b+1)/\r<=a.s+(b+1)/\s<=a.g+(b+1)/\t<=a.u+(b+1)/\u<=a.E+(b+1)/\dh a d d.a.a a.y a.F a.z a.r a.f a.k a.t a.s a.g a.u a.E a.D a.j.a a.j.b a.a.a a.l.a a.b.a=dh a d (r6 (b+1) d.a.a) z B j l n o p r s t u J E F f g h from ⟨by exact K,by exact G,by exact Z7,by exact L,Y,Y,Y,Y,Y,Y,Y,Y,Y,Y,N (M) (N (ZJ (λ q=>dh a d q z B j l n o p r s t u C E F f g h) Z5) (N (iN P) (N (iN Z3) (N (iN Z0) (N (iN ah) (N (iN az) (N (iN aC) (N (iN aD) (N (iN aG) (ip aJ))))))))))⟩)⟩) (by show X d.a.a - (b+1) < X d.a.a - b; omega)
 refine jF (dF aJ) (sr (Kz (Zb (y=9)) (An Z ?_)))
 by_cases aL:y=9
 refine jT (dT aL) (JI (Kz (vP aF 10) ?_))
 have fF:=Z6.pf [1]
 refine cO [.int .u64 0] 10 fF J1 ?_
 intro jl fG
 refine B8 (bN (bN (JK (JI (fw (vJ (b+1)) (JN (e:=B7.wrap ((b:Int)+1)) yk f3) (Mz Z (B8 ?_)))))))
 have fH:=fG.pf [1]
 exact JX (b+1,z,B,j,l,n,o,0,r,s,t,u,C,E,F,Z9,R,f,Z1,S,Z8,g,Z2,Z4,h) ⟨Z,Z,Z,Z,Z,ZW⟩ (I.2 ⟨fH,by exact K,by exact G,by exact Z7,by exact L,Y,Y,Y,Y,Y,Y,Y,Y,Y,Y,N (M) (N (ZJ (λ q=>dh a d q z B j l n o p r s t u C E F f g h) Z5) (N (iN P) (N (iN Z3) (N (iN Z0) (N (iN ah) (N (iN az) (N (iN aC) (N (iN aD) (N (iN aG) (N (iN aJ) (ip aL)))))))))))⟩) (by show X d.a.a - (b+1) < X d.a.a - b; omega)
 refine jF (dF aL) (sr (Kz (Zb (y=10)) (An Z ?_)))
 by_cases aO:y=10
 refine jT (dT aO) (JI (Kz (vP aF 12) ?_))
 have fI:=Z6.pf [1]
 refine cO [.int .u64 0] 12 fI J1 ?_
 intro jm fJ
 refine B8 (bN (bN (JK (JI (fw (vJ (b+1)) (JN (e:=B7.wrap ((b:Int)+1)) yk f3) (Mz Z (B8 ?_)))))))
 have fK:=fJ.pf [1]
 exact JX (b+1,z,B,j,l,n,o,p,r,0,t,u,C,E,F,Z9,R,f,Z1,S,Z8,g,Z2,Z4,h) ⟨Z,Z,Z,Z,Z,ZW⟩ (I.2 ⟨fK,by exact K,by exact G,by exact Z7,by exact L,Y,Y,Y,Y,Y,Y,Y,Y,Y,Y,N (M) (N (ZJ (λ q=>dh a d q z B j l n o p r s t u C E F f g h) Z5) (N (iN P) (N (iN Z3) (N (iN Z0) (N (iN ah) (N (iN az) (N (iN aC) (N (iN aD) (N (iN aG) (N (iN aJ) (N (iN aL) (ip aO))))))))))))⟩) (by show X d.a.a - (b+1) < X d.a.a - b; omega)
 refine jF (dF aO) (sr (Kz (Zb (y=11)) (An Z ?_)))
 by_cases aT:y=11
 refine jT (dT aT) (JI (Kz (vP aF 20) ?_))
 have fM:=Z6.pf [1]
 refine cO [W Zv 0 0] 20 fM Tryz.sizeOf33 ?_
 intro jo fO
 refine B8 (bN (bN (JK (JI (fw (vJ (b+1)) (JN (e:=B7.wrap ((b:Int)+1)) yk f3) (Mz Z (B8 ?_)))))))
 have fP:=fO.pf [1]
 exact JX (b+1,z,B,j,l,n,o,p,r,s,t,u,C,E,F,Z9,R,f,Z1,S,Z8,g,Zv,0, []) ⟨Z,Z,Z,Z,Z,ZW⟩ (I.2 ⟨fP,(show jB 6 aj aa a.a.a Z9 R f/\jB 3 ak af aI Z1 S Z8/\r7 aR.abs Z8=g/\jB 2 av ag a.b.a Zv 0 []/\(b+1)<=X d.a.a/\j<=a.z+(b+1)/\l<=a.r+(b+1)/\n<=a.f+(b+1)/\o<=a.k+(b+1)/\p<=a.t+(b+1)/\r<=a.s+(b+1)/\s<=a.g+(b+1)/\t<=a.u+(b+1)/\u<=a.E+(b+1)/\dh a d d.a.a a.y a.F a.z a.r a.f a.k a.t a.s a.g a.u a.E a.D a.j.a a.j.b a.a.a a.l.a a.b.a=dh a d (r6 (b+1) d.a.a) z B j l n o p r s t u C E F f g [] from ⟨by exact K,by exact G,by exact Z7,by exact jB.nil,Y,Y,Y,Y,Y,Y,Y,Y,Y,Y,N (M) (N (ZJ (λ q=>dh a d q z B j l n o p r s t u C E F f g h) Z5) (N (iN P) (N (iN Z3) (N (iN Z0) (N (iN ah) (N (iN az) (N (iN aC) (N (iN aD) (N (iN aG) (N (iN aJ) (N (iN aL) (N (iN aO) (ip aT)))))))))))))⟩)⟩) (by show X d.a.a - (b+1) < X d.a.a - b; omega)
 refine jF (dF aT) (sr (Kz (Zb (y=12)) (An Z ?_)))
 by_cases aX:y=12
 refine jT (dT aX) (JI (Kz (vP aF 5) ?_))
 have fQ:=Z6.pf [1]
 refine cO [vI 0] 5 fQ Tryz.sizeOf3 ?_
 intro jq fT
 refine B8 (bN (bN (JK (JI (fw (vJ (b+1)) (JN (e:=B7.wrap ((b:Int)+1)) yk f3) (Mz Z (B8 ?_)))))))
 have fU:=fT.pf [1]
 exact JX (b+1,z,0,j,l,n,o,p,r,s,t,u,C,E,F,Z9,R,f,Z1,S,Z8,g,Z2,Z4,h) ⟨Z,Z,Z,Z,Z,ZW⟩ (I.2 ⟨fU,by exact K,by exact G,by exact Z7,by exact L,Y,Y,Y,Y,Y,Y,Y,Y,Y,Y,N (M) (N (ZJ (λ q=>dh a d q z B j l n o p r s t u C E F f g h) Z5) (N (iN P) (N (iN Z3) (N (iN Z0) (N (iN ah) (N (iN az) (N (iN aC) (N (iN aD) (N (iN aG) (N (iN aJ) (N (iN aL) (N (iN aO) (N (iN aT) (ip aX))))))))))))))⟩) (by show X d.a.a - (b+1) < X d.a.a - b; omega)
 refine jF (dF aX) (sr (Kz (Zb (y=13)) (An Z ?_)))
 by_cases aZ:y=13
 refine jT (dT aZ) (JI (Kz (Zx #[Zz ⟨Zc []⟩, Zz ⟨Zc []⟩]) (Kz (vP aF 16) ?_)))
 have fV:=Z6.pf [1]
 refine cO [Zz ⟨Zc []⟩, Zz ⟨Zc []⟩] 16 fV Tryz.sizeOf37 ?_
 intro jr fZ
 refine B8 (bN (bN (JK (JI (fw (vJ (b+1)) (JN (e:=B7.wrap ((b:Int)+1)) yk f3) (Mz Z (B8 ?_)))))))
 have gm:=fZ.pf [1]
 exact JX (b+1,z,B,j,l,n,o,p,r,s,t,u,C, [], [],Z9,R,f,Z1,S,Z8,g,Z2,Z4,h) ⟨Z,Z,Z,Z,Z,ZW⟩ (I.2 ⟨gm,(show jB 6 aj aa a.a.a Z9 R f/\jB 3 ak af aI Z1 S Z8/\r7 aR.abs Z8=g/\jB 2 av ag a.b.a Z2 Z4 h/\(b+1)<=X d.a.a/\j<=a.z+(b+1)/\l<=a.r+(b+1)/\n<=a.f+(b+1)/\o<=a.k+(b+1)/\p<=a.t+(b+1)/\r<=a.s+(b+1)/\s<=a.g+(b+1)/\t<=a.u+(b+1)/\u<=a.E+(b+1)/\dh a d d.a.a a.y a.F a.z a.r a.f a.k a.t a.s a.g a.u a.E a.D a.j.a a.j.b a.a.a a.l.a a.b.a=dh a d (r6 (b+1) d.a.a) z B j l n o p r s t u C [] [] f g h from ⟨by exact K,by exact G,by exact Z7,by exact L,Y,Y,Y,Y,Y,Y,Y,Y,Y,Y,N (M) (N (ZJ (λ q=>dh a d q z B j l n o p r s t u C E F f g h) Z5) (N (iN P) (N (iN Z3) (N (iN Z0) (N (iN ah) (N (iN az) (N (iN aC) (N (iN aD) (N (iN aG) (N (iN aJ) (N (iN aL) (N (iN aO) (N (iN aT) (N (iN aX) (ip aZ)))))))))))))))⟩)⟩) (by show X d.a.a - (b+1) < X d.a.a - b; omega)
 refine jF (dF aZ) (sr (Kz (Zb (y=14)) (An Z ?_)))
 by_cases bv:y=14
 refine jT (dT bv) (JI (Kz (vP aF 13) ?_))
 have gp:=Z6.pf [1]
 refine cO [.int .u64 0] 13 gp J1 ?_
 intro jv gq
 refine B8 (bN (bN (JK (JI (fw (vJ (b+1)) (JN (e:=B7.wrap ((b:Int)+1)) yk f3) (Mz Z (B8 ?_)))))))
 have gu:=gq.pf [1]
 exact JX (b+1,z,B,j,l,n,o,p,r,s,0,u,C,E,F,Z9,R,f,Z1,S,Z8,g,Z2,Z4,h) ⟨Z,Z,Z,Z,Z,ZW⟩ (I.2 ⟨gu,by exact K,by exact G,by exact Z7,by exact L,Y,Y,Y,Y,Y,Y,Y,Y,Y,Y,N (M) (N (ZJ (λ q=>dh a d q z B j l n o p r s t u C E F f g h) Z5) (N (iN P) (N (iN Z3) (N (iN Z0) (N (iN ah) (N (iN az) (N (iN aC) (N (iN aD) (N (iN aG) (N (iN aJ) (N (iN aL) (N (iN aO) (N (iN aT) (N (iN aX) (N (iN aZ) (ip bv))))))))))))))))⟩) (by show X d.a.a - (b+1) < X d.a.a - b; omega)
 refine jF (dF bv) (sr (Kz (Zb (y=15)) (An Z ?_)))
 by_cases bB:y=15
 refine jT (dT bB) (JI (Kz (vP aF 14) ?_))
 have gy:=Z6.pf [1]
 refine cO [.int .u64 0] 14 gy J1 ?_
 intro jw gB
 refine B8 (bN (bN (JK (JI (fw (vJ (b+1)) (JN (e:=B7.wrap ((b:Int)+1)) yk f3) (Mz Z (B8 ?_)))))))
 have gD:=gB.pf [1]
 exact JX (b+1,z,B,j,l,n,o,p,r,s,t,0,C,E,F,Z9,R,f,Z1,S,Z8,g,Z2,Z4,h) ⟨Z,Z,Z,Z,Z,ZW⟩ (I.2 ⟨gD,by exact K,by exact G,by exact Z7,by exact L,Y,Y,Y,Y,Y,Y,Y,Y,Y,Y,N (M) (N (ZJ (λ q=>dh a d q z B j l n o p r s t u C E F f g h) Z5) (N (iN P) (N (iN Z3) (N (iN Z0) (N (iN ah) (N (iN az) (N (iN aC) (N (iN aD) (N (iN aG) (N (iN aJ) (N (iN aL) (N (iN aO) (N (iN aT) (N (iN aX) (N (iN aZ) (N (iN bv) (ip bB)))))))))))))))))⟩) (by show X d.a.a - (b+1) < X d.a.a - b; omega)
 refine jF (dF bB) (J8 (bN (bN (JK (JI (fw (vJ (b+1)) (JN (e:=B7.wrap ((b:Int)+1)) yk f3) (Mz Z (B8 ?_))))))))
 have gF:=Z6.pf []
 exact JX (b+1,z,B,j,l,n,o,p,r,s,t,u,C,E,F,Z9,R,f,Z1,S,Z8,g,Z2,Z4,h) ⟨Z,Z,Z,Z,Z,ZW⟩ (I.2 ⟨gF,by exact K,by exact G,by exact Z7,by exact L,Y,Y,Y,Y,Y,Y,Y,Y,Y,Y,N (M) (N (ZJ (λ q=>dh a d q z B j l n o p r s t u C E F f g h) Z5) (N (iN P) (N (iN Z3) (N (iN Z0) (N (iN ah) (N (iN az) (N (iN aC) (N (iN aD) (N (iN aG) (N (iN aJ) (N (iN aL) (N (iN aO) (N (iN aT) (N (iN aX) (N (iN aZ) (N (iN bv) (iN bB)))))))))))))))))⟩) (by show X d.a.a - (b+1) < X d.a.a - b; omega)
 refine jF (dF cK) (Wp.exit (JV ?_))
 have aP:dh a d d.a.a a.y a.F a.z a.r a.f a.k a.t a.s a.g a.u a.E a.D a.j.a a.j.b a.a.a a.l.a a.b.a=(z,B,j,l,n,o,p,r,s,t,u,C,E,F,f,g,h):=N (M) (N (ZJ (λ q=>dh a d q z B j l n o p r s t u C E F f g h) (eH (ls:=d.a.a) (i:=b) Y)) Z)
 refine JV (J2 (JK (sr (La (iF a.e a.G a.C a.I z B j l n o p r s t u C E F Z9 (X f) R Z1 (X g) S Z2 (X h) Z4) Z6 1 I3 J0 ?_))))
 refine cO (iF a.e a.G a.C a.I z B j l n o p r s t u C E F Z9 (X f) R Z1 (X g) S Z2 (X h) Z4) 0 Z6 J0 ?_
 intro jy cZ
 refine nt (rt (JY (pV Z Z (JW (cs:=(iF a.e a.G a.C a.I z B j l n o p r s t u C E F Z9 (X f) R Z1 (X g) S Z2 (X h) Z4)) I3 J0 ((cZ.cls (i:=0) Z).lit (k:=0) (m:=21) Z))) ?_))
 obtain⟨bC,aM⟩:∃ q,wD (dK.q a.e a.G a.C a.I z B j l n o p r s t u C (au.q E F) (O f) (O g) (O h))=q:=⟨_,Z⟩
 obtain⟨jA,dz,bq,dA,iP⟩:=JJ cZ
 refine oC (cn aB) Tryz.call47 (Bf _ _ (dK.q a.e a.G a.C a.I z B j l n o p r s t u C (au.q E F) (O f) (O g) (O h)) Z9 (X f) R Z1 (X g) S Z8 Z2 (X h) Z4 bC dz Z (λ w9 h9=>jB.rds aY.len f6 K ((bq _ bH) w9 h9)) Y Z7 Z (λ w9 h9=>FU (bg Z7) (jB.rds aR.len f6 G (FU (bg bf).symm ((bq _ bI) w9 h9)))) Y (λ x9 h9=>⟨bq _ ((λ x9 h9=>bi x9 (jB.mem G h9)) x9 h9).1,((λ x9 h9=>bi x9 (jB.mem G h9)) x9 h9).2⟩) Z (λ w9 h9=>jB.rds bO.len f6 L ((bq _ bJ) w9 h9)) Y g4 aM) ?_
 rintro _ jC ⟨rfl,dB⟩
 have bD:=dA _ _ dB
 refine Gz (V (!bC)) (cn aB) (fw (V (!bC)) (JH Z (cn aB) Z) (Mz Z ?_))
 rcases Nf (bC) with Q | Q
 refine Ga (mF a aj aa ak af av ag) (cn Q) bD 4 I3 J0 (Gz (vP bz 2) (cn Q) (Gl (W aW (X d.a.a) bn) (cn Q) bD 2 Tryz.isAgg122 ?_))
 obtain⟨bE,aQ⟩:∃ q,sZ a d.a.a=q:=⟨_,Z⟩
 obtain⟨jD,dC,bu,dD,dE⟩:=JJ bD
 refine oC (cn Q) Tryz.call49 (Ak _ _ a aj (X a.a.a) aa ak (X a.l.a) af aI av (X a.b.a) ag aW (X d.a.a) bn d.a.a bE dC Z (bu _ bH) Y bf Z (bu _ bI) Y (λ x9 h9=>⟨bu _ (bi x9 h9).1,(bi x9 h9).2⟩) Z (bu _ bJ) Y (dE _ 3 _ Z bQ) Z Y g4 aQ) ?_
 rintro _ jE ⟨rfl,dG⟩
 have df:=dD _ _ dG
 refine Gz (V (!bE)) (cn Q) (fw (V (!bE)) (JH Z (cn Q) Z) (nt ?_))
 rcases Nf (bE) with aU | aU
 refine jF (cn aU) (sk (JG (JG ?_)))
 have aV:=df.pk [2,3,4]
 refine JI (Kz (vP bz 0) (Lz (vI d.e) aV 0 I2 (Kz (Zb (d.e=1)) (Mz Z ?_))))
 by_cases aH:d.e=1
 refine Gz (vP bz 1) (dT aH) (Gl (vI d.b) (dT aH) aV 0 I2 (Gz (Zb (d.b=1)) (dT aH) (fw (Zb (d.b=1)) (JL Z (dT aH) Z) (Mz Z ?_))))
 by_cases aA:d.b=1
 refine Gz (vP bG 1) (dT aA) (Gl (vI a.G) (dT aA) aV 2 B5 (Gz (vP bG 2) (dT aA) (Gl (vI a.C) (dT aA) aV 2 B5 (Gz (Zb (a.G=a.C)) (dT aA) (fw (Zb (a.G=a.C)) (JL Z (dT aA) Z) (nt ?_))))))
 by_cases bF:a.G=a.C
 refine jT (dT bF) (JG ?_)
 have gH:=aV.pk []
 refine JI (An Z (rt (tR (rs ?_))))
 have gI:=gH.pk []
 obtain rfl:=zj hr zq14
 exact⟨Z,gI⟩
 refine jF (dF bF) (sk (JG ?_))
 have gJ:=aV.pk []
 refine JI (An Z (rt (rs ?_)))
 have gK:=gJ.pk []
 obtain rfl:=zj hr zq14
 exact⟨Z,gK⟩
 refine T (dF aA) (T (dF aA) (T (dF aA) (T (dF aA) (T (dF aA) (fw (V J) (JH Z (dF aA) Z) (nt (jf (sk (JG ?_)))))))))
 have gL:=aV.pk []
 refine JI (An Z (rt (rs ?_)))
 have gM:=gL.pk []
 obtain rfl:=zj hr zq13
 exact⟨Z,gM⟩
 refine T (dF aH) (T (dF aH) (T (dF aH) (fw (V J) (JH Z (dF aH) Z) (Mz Z (T Z (T Z (T Z (T Z (T Z (fw (V J) (JH Z Z Z) (nt (jf (sk (JG ?_))))))))))))))
 have gN:=aV.pk []
 refine JI (An Z (rt (rs ?_)))
 have gP:=gN.pk []
 obtain rfl:=zj hr zq12
 exact⟨Z,gP⟩
 refine jT (cn aU) (JG ?_)
 have gQ:=df.pk [2,3,4]
 refine JI (An Z (rt (tR (rs ?_))))
 have gT:=gQ.pk []
 obtain rfl:=zj hr zq11
 exact⟨Z,gT⟩
 refine T (cn Q) (T (cn Q) (T (cn Q) (T (cn Q) (T (cn Q) (fw (V Zk) (JL Z (cn Q) Z) (nt (jt (JG ?_))))))))
 have gU:=bD.pk [2,3,4]
 refine JI (An Z (rt (tR (rs ?_))))
 have gV:=gU.pk []
 obtain rfl:=zj hr zq9
 exact⟨Z,gV⟩
 refine T (cn aB) (T (cn aB) (T (cn aB) (T (cn aB) (T (cn aB) (T (cn aB) (fw (V Zk) (JL Z (cn aB) Z) (Mz Z (T Z (T Z (T Z (T Z (T Z (fw (V Zk) (JL Z Z Z) (nt (jt (sr (An Z (rt (tR (rs ?_))))))))))))))))))))
 have gW:=bV.pk []
 obtain rfl:=zj hr zq6
 exact⟨Z,gW⟩
 refine T (cn ax) (T (cn ax) (T (cn ax) (T (cn ax) (T (cn ax) (T (cn ax) (fw (V Zk) (JL Z (cn ax) Z) (Mz Z (T Z (T Z (T Z (T Z (T Z (T Z (fw (V Zk) (JL Z Z Z) (Mz Z (T Z (T Z (T Z (T Z (T Z (fw (V Zk) (JL Z Z Z) (nt (jt (sr (An Z (rt (tR (rs ?_))))))))))))))))))))))))))))
 have gX:=bS.pk []
 obtain rfl:=zj hr zq4
 exact⟨Z,gX⟩
 refine T (cn ai) (T (cn ai) (T (cn ai) (T (cn ai) (T (cn ai) (T (cn ai) (fw (V Zk) (JL Z (cn ai) Z) (Mz Z (T Z (T Z (T Z (T Z (T Z (T Z (fw (V Zk) (JL Z Z Z) (Mz Z (T Z (T Z (T Z (T Z (T Z (T Z (fw (V Zk) (JL Z Z Z) (Mz Z (T Z (T Z (T Z (T Z (T Z (fw (V Zk) (JL Z Z Z) (nt (jt (sr (An Z (rt (tR ?_)))))))))))))))))))))))))))))))))))
 refine rs ?_
 have gY:=bM.pk []
 obtain rfl:=zj hr zq2
 exact⟨Z,gY⟩
end
section
open Go.RowKit
def tX (c:List bO) (d:Int):au:=
 bnd (List.getD c (U d) ZZ) λ a=>if d+1 < ((X c:Nat):Int) then bnd (List.getD c (U (d+1)) ZZ) λ b=>au.q a.a b.a else au.q a.a []
theorem yT (w D h s E j b) (C:au) (H:Own w D w []) (c:Ro w D λ w'=>bP w' 2 h s (List.flatMap bO.J j)) (t:s=X j) (F:X j *24<=211106232532992) (G:0<=b/\b < ((X j:Nat):Int)) (hr:tX j b=C):
    Calls v1 147 #[W h s E,vI b] w (dM λ v w'=>v= Zx (Zc (au.J C))/\Own w D w' []):=by
 unfold tX at hr
 subst t
 refine cb Tryz.func147 ?_
 refine sr ?_
 refine cu [Zz ⟨Zc []⟩, Zz ⟨Zc []⟩] 37 H ?_
 intro I Z7 l
 refine ns (Mz Z (fw (vJ (U b)) (JN (e:=b) (JM Z) Y) ?_))
 obtain⟨a,g⟩:=dJ (ls:=j) (i:=U b) bO.len f6 (l.ro c) f4
 refine fw (Zq (Zw ⟨ab h,ao h+(U b) *2,Zv⟩)) (JU (uE) Z Z ((l.ro c).addr (i:=U b) Y) Y) (Kz (Zq (Zw ⟨ab h,ao h+(U b) *2,Zv⟩)) (fw (Zz ⟨Zc a.a⟩) (JS Z (bT.one B3 (((l.ro c).elem bO.len g f6).at_ (k:=0) Z))) (Kz (Zx #[Zz ⟨Zc a.a⟩, Zz ⟨Zc []⟩]) ?_)))
 refine cu [Zz ⟨Zc []⟩, Zz ⟨Zc []⟩] 37 l ?_
 intro u K x
 refine cO [Zz ⟨Zc a.a⟩, Zz ⟨Zc []⟩] 0 x C7 ?_
 intro L d
 refine nt (JG (sr (Mz Z (fw (vI (b+1)) (JN (e:=B7.wrap (b+1)) yk i8) (Mz Z (Kz (vJ (X j)) (Kz (Zb (b+1 < (X j:Int))) (nt ?_))))))))
 by_cases n:b+1 < (X j:Int)
 refine jT (dT n) (JI (Mz Z (Mz Z (fw (vJ (U (b+1))) (JN (e:=B7.wrap (b+1)) yk f3) ?_))))
 obtain⟨f,o⟩:=dJ (ls:=j) (i:=U (b+1)) bO.len f6 (d.ro c) f4
 refine fw (Zq (Zw ⟨ab h,ao h+(U (b+1)) *2,Zv⟩)) (JU (uE) Z Z ((d.ro c).addr (i:=U (b+1)) Y) Y) (Kz (Zq (Zw ⟨ab h,ao h+(U (b+1)) *2,Zv⟩)) (fw (Zz ⟨Zc f.a⟩) (JS Z (bT.one B3 (((d.ro c).elem bO.len o f6).at_ (k:=0) Z))) (Kz (vP u 1) ?_)))
 refine cO [Zz ⟨Zc f.a⟩] 1 d Tryz.sizeOf9 ?_
 intro M p
 refine ns (La ([Zz ⟨Zc a.a⟩, Zz ⟨Zc f.a⟩]) p 0 D0 C7 ?_)
 have y:=p.pb [0]
 refine cO [Zz ⟨Zc a.a⟩, Zz ⟨Zc f.a⟩] 0 y C7 ?_
 intro Z5 q
 refine nt (rt (JY (pV Z Z (JW (cs:= [Zz ⟨Zc a.a⟩, Zz ⟨Zc f.a⟩]) D0 C7 ((q.cls (i:=0) Z).lit (k:=0) (m:=2) Z))) ?_))
 have z:=q.pk []
 obtain rfl:=zj hr zq3
 exact⟨Z,z⟩
 refine jF (dF n) (sk (sr (La ([Zz ⟨Zc a.a⟩, Zz ⟨Zc []⟩]) d 0 D0 C7 ?_)))
 have A:=d.pb [0]
 refine cO [Zz ⟨Zc a.a⟩, Zz ⟨Zc []⟩] 0 A C7 ?_
 intro Z6 r
 refine nt (rt (JY (pV Z Z (JW (cs:= [Zz ⟨Zc a.a⟩, Zz ⟨Zc []⟩]) D0 C7 ((r.cls (i:=0) Z).lit (k:=0) (m:=2) Z))) ?_))
 have B:=r.pk []
 obtain rfl:=zj hr zq2
 exact⟨Z,B⟩
def tY (a:List UInt8) (b:List UInt8):(List UInt8):=
 if a=[] then b else if b≠[] then if b < a then b else a else a
theorem yU (w D d c k) (H:Own w D w []) (hr:tY d c=k):
    Calls v1 193 #[Zz ⟨Zc d⟩, Zz ⟨Zc c⟩] w (dM λ v w'=>v= Zz ⟨Zc k⟩/\Own w D w' []):=by
 unfold tY at hr
 refine cb Tryz.func193 ?_
 refine sr (An Z (JG (sr (Mz Z (fw (Zb (d=[])) (KU Z Z) (Mz Z ?_))))))
 by_cases a:d=[]
 refine T (dT a) (T (dT a) (T (dT a) (JR Z Z Z (JR Z Z Z (JR Z Z Z (T (dT a) (fw (V Zk) (JL Z (dT a) Z) (nt (jt (sr (Mz Z (An Z (rt (tR (rs ?_)))))))))))))))
 have g:=H.pk []
 obtain rfl:=zj hr zq1
 exact⟨Z,g⟩
 refine gw (Zz ⟨Zc c⟩) (dF a) (JM Z) (gw (Zb (c≠[])) (dF a) (Km Z Z) (gw (Zb (c≠[])) (dF a) (JM Z) ?_))
 by_cases b:c≠[]
 refine gw (Zz ⟨Zc c⟩) (dT b) (JM Z) (gw (Zz ⟨Zc d⟩) (dT b) (JM Z) (gw (Zb (c < d)) (dT b) (JZ (e:=Op.bytesLess c d) (Lt Z Z) (zq _ _)) (gw (Zb (c < d)) (dF a) (JL Z (dT b) Z) (fw (Zb (c < d)) (JH Z (dF a) Z) (nt ?_)))))
 by_cases f:c < d
 refine jT (dT f) (sr (Mz Z (An Z (rt (tR (rs ?_))))))
 have h:=H.pk []
 obtain rfl:=zj hr zq3
 exact⟨Z,h⟩
 refine jF (dF f) (sk (sr (Mz Z (An Z (rt (rs ?_))))))
 have i:=H.pk []
 obtain rfl:=zj hr zq3
 exact⟨Z,i⟩
 refine T (dF b) (T (dF b) (T (dF b) (gw (V J) (dF a) (JH Z (dF b) Z) (fw (V J) (JH Z (dF a) Z) (nt (jf (sk (sr (Mz Z (An Z (rt (rs ?_))))))))))))
 have j:=H.pk []
 obtain rfl:=zj hr zq2
 exact⟨Z,j⟩
def wE (b:List UInt8) (a:List UInt8):Bool:=
 if a=[] then Zk else Zy (b < a)
theorem Bg (w D c b g) (H:Own w D w []) (hr:wE c b=g):
    Calls v1 194 #[Zz ⟨Zc c⟩, Zz ⟨Zc b⟩] w (dM λ v w'=>v= V g/\Own w D w' []):=by
 unfold wE at hr
 refine cb Tryz.func194 ?_
 refine sr (Ar Z (Mz Z (fw (Zb (b=[])) (KU Z Z) (Mz Z ?_))))
 by_cases a:b=[]
 refine T (dT a) (T (dT a) (T (dT a) (fw (V Zk) (JL Z (dT a) Z) (An Z (rt (rs ?_))))))
 have d:=H.pk []
 obtain rfl:=zj hr zq1
 exact⟨Z,d⟩
 refine gw (Zz ⟨Zc c⟩) (dF a) (JM Z) (gw (Zz ⟨Zc b⟩) (dF a) (JM Z) (gw (Zb (c < b)) (dF a) (JZ (e:=Op.bytesLess c b) (Lt Z Z) (zq _ _)) (fw (Zb (c < b)) (JH Z (dF a) Z) (An Z (rt (rs ?_))))))
 have f:=H.pk []
 obtain rfl:=zj hr zq1
 exact⟨Z,f⟩
def lq (e:au) (f:au):au × Bool:=
 bnd (dR e) λ b=>if b=0 then bnd (dR f) λ c=>if c=0 then bnd (tY e.b f.b) λ a=>bnd (wE (qD e.a f.a) a) λ d=>if d=Zk then(au.q (qD e.a f.a) a,Zk) else(au.q [] [],J) else(au.q [] [],J) else(au.q [] [],J)
theorem qf (w D) (d:au) (c:au) (r0:au) (r1) (H:Own w D w []) (hr:lq d c=(r0,r1)):
    Calls v1 152 #[Zx (Zc (au.J d)), Zx (Zc (au.J c))] w (dM λ v w'=>v= .tuple #[Zx (Zc (au.J r0)), V r1]/\Own w D w' []):=by
 unfold lq at hr
 refine cb Tryz.func152 ?_
 refine sr ?_
 refine cu (au.J d) 37 H ?_
 intro B aQ Z0
 refine cu (au.J c) 37 Z0 ?_
 intro C aR aa
 refine cu [Zz ⟨Zc []⟩, Zz ⟨Zc []⟩] 37 aa ?_
 intro aS aT E
 refine An Z (JG (sr (La (au.J d) E 2 D0 C7 ?_)))
 obtain⟨s,f⟩:∃ q,dR d=q:=⟨_,Z⟩
 obtain⟨aU,F,aH,G,aI⟩:=JJ E
 refine cl Tryz.call65 (jr _ _ d s F f) ?_
 rintro _ aV ⟨rfl,I⟩
 have x:=G _ _ I
 refine fw (Zb (¬ (s=0))) (JZ (e:= !(Zy (s=0))) yk ZY) (Mz Z ?_)
 by_cases a:s=0
 refine gw (Zx (Zc (au.J c))) (dF (Nc a)) (JS Z (JW (cs:=(au.J c)) D0 C7 ((x.cls (i:=1) Z).lit (k:=0) (m:=2) Z))) ?_
 obtain⟨h,g⟩:∃ q,dR c=q:=⟨_,Z⟩
 obtain⟨aW,Z7,aJ,K,aK⟩:=JJ x
 refine oC (dF (Nc a)) Tryz.call65 (jr _ _ c h Z7 g) ?_
 rintro _ aX ⟨rfl,L⟩
 have M:=K _ _ L
 refine gw (Zb (¬ (h=0))) (dF (Nc a)) (JZ (e:= !(Zy (h=0))) yk ZY) (fw (Zb (¬ (h=0))) (JH Z (dF (Nc a)) Z) (nt ?_))
 by_cases j:h=0
 refine jF (dF (Nc j)) (sk (JG ?_))
 refine zx [] (JP J3) M ?_
 intro aY af
 refine qp B 0 0 Z (ql 1 Z 2 B3 Z Z Z (qp C 0 2 Z (ql 3 Z 1 B3 Z Z Z (qt (v:= Zz ⟨Zc (qD d.a c.a)⟩) 4 Z (λ _ _=>Mh Z) (qp B 1 5 Z (ql 6 Z 2 B3 Z Z Z (qp C 1 7 Z (ql 8 Z 1 B3 Z Z Z ?_))))))))
 obtain⟨b,l⟩:∃ q,tY d.b c.b=q:=⟨_,Z⟩
 refine I5 ⟨9,_,_,_,_,_,Unit,λ Z5=> Zz ⟨Zc b⟩,λ _=>True,λ Z5=> []⟩ ⟨11,_,_,_,_,_,Nat,λ Z5=>vP Z5 0,λ _=>True,λ Z5=> [blk Z5 [Zz ⟨Zc []⟩, Zz ⟨Zc []⟩] 37]⟩ 10 3 af ⟨⟨Z,Z,Z, ?_⟩,⟨Z,Z,Z, ?_⟩,ZW⟩ Z ?_
 intro aZ L' ag
 refine(LZ (cs:= [Zz ⟨Zc []⟩, Zz ⟨Zc []⟩]) (t:=37) ag Z Z Za ?_)
 intro n bf ah
 exact⟨n,Z,ZW,ah⟩
 intro bg L' ai
 obtain⟨bi,Z6,aL,P,aM⟩:=JJ ai
 refine(J6 Tryz.call193 Z (yU _ _ d.b c.b b Z6 l) ?_)
 rintro _ bn ⟨rfl,Q⟩
 have aj:=P _ _ Q
 exact⟨(),Z,ZW,aj⟩
 rintro ⟨⟩ _
 refine⟨Zx #[Zz ⟨Zc (qD d.a c.a)⟩, Zz ⟨Zc b⟩],λ _=>yk, ?_⟩
 rintro n _
 intro ak av
 have ax:Own w D ak (blk n [Zz ⟨Zc []⟩, Zz ⟨Zc []⟩] 37::_):=av.flat.pf []
 have ay:=ax.pb [0]
 have az:=ay.pf [3]
 refine qe 12 Z (Do.store (vs:= [Zz ⟨Zc (qD d.a c.a)⟩, Zz ⟨Zc b⟩]) (o:=0) az Z Z C7 Z Z Z Z ?_)
 intro bq aA
 have R:=aA.pb [0]
 refine⟨.inr ⟨_,R⟩, ?_⟩
 refine qn (JK (JG (JG ?_)))
 have y:=R.pk [0,3]
 refine JI (Kz (vP n 0) (Lz (Zz ⟨Zc (qD d.a c.a)⟩) y 1 B3 (Kz (vP n 1) (Lz (Zz ⟨Zc b⟩) y 1 B3 ?_))))
 obtain⟨z,p⟩:∃ q,wE (qD d.a c.a) b=q:=⟨_,Z⟩
 obtain⟨bu,S,aN,Z8,aO⟩:=JJ y
 refine cl Tryz.call194 (Bg _ _ (qD d.a c.a) b z S p) ?_
 rintro _ bv ⟨rfl,Z4⟩
 have A:=Z8 _ _ Z4
 refine Kz (V (!z)) (nt ?_)
 rcases Nf (z) with r | r
 refine jF (cn r) (sk (sr (La ([Zz ⟨Zc (qD d.a c.a)⟩, Zz ⟨Zc b⟩]) A 1 D0 C7 ?_)))
 refine cO [Zz ⟨Zc (qD d.a c.a)⟩, Zz ⟨Zc b⟩] 0 A C7 ?_
 intro bz Z3
 refine An Z (rt (JY (gH (vs:= [Zx #[Zz ⟨Zc (qD d.a c.a)⟩, Zz ⟨Zc b⟩], V Zk]) Z (bW.cell Z (JW (cs:= [Zz ⟨Zc (qD d.a c.a)⟩, Zz ⟨Zc b⟩]) D0 C7 ((Z3.cls (i:=0) Z).lit (k:=0) (m:=2) Z)) (bW.tmp Z bW.nil)) (M9 Z)) ?_))
 have aB:=Z3.pk []
 obtain⟨rfl,rfl⟩:=fK (zj hr zq7)
 exact⟨Z,aB⟩
 refine jT (cn r) (sr (Kz (Zx #[Zz ⟨Zc []⟩, Zz ⟨Zc []⟩]) ?_))
 refine cO [Zz ⟨Zc []⟩, Zz ⟨Zc []⟩] 0 A C7 ?_
 intro bA Z9
 refine An Z (rt (tR (JY (gH (vs:= [Zx #[Zz ⟨Zc []⟩, Zz ⟨Zc []⟩], V J]) Z (bW.cell Z (JW (cs:= [Zz ⟨Zc []⟩, Zz ⟨Zc []⟩]) D0 C7 ((Z9.cls (i:=0) Z).lit (k:=0) (m:=2) Z)) (bW.tmp Z bW.nil)) (M9 Z)) ?_)))
 have aC:=Z9.pk []
 obtain⟨rfl,rfl⟩:=fK (zj hr zq7)
 exact⟨Z,aC⟩
 refine jT (dT j) (sr (Kz (Zx #[Zz ⟨Zc []⟩, Zz ⟨Zc []⟩]) ?_))
 refine cO [Zz ⟨Zc []⟩, Zz ⟨Zc []⟩] 0 M C7 ?_
 intro bB Z1
 refine An Z (rt (tR (JY (gH (vs:= [Zx #[Zz ⟨Zc []⟩, Zz ⟨Zc []⟩], V J]) Z (bW.cell Z (JW (cs:= [Zz ⟨Zc []⟩, Zz ⟨Zc []⟩]) D0 C7 ((Z1.cls (i:=0) Z).lit (k:=0) (m:=2) Z)) (bW.tmp Z bW.nil)) (M9 Z)) ?_)))
 have aD:=Z1.pk []
 obtain⟨rfl,rfl⟩:=fK (zj hr zq4)
 exact⟨Z,aD⟩
 refine T (dT a) (T (dT a) (T (dT a) (fw (V Zk) (JL Z (dT a) Z) (nt (jt (sr (Kz (Zx #[Zz ⟨Zc []⟩, Zz ⟨Zc []⟩]) ?_)))))))
 refine cO [Zz ⟨Zc []⟩, Zz ⟨Zc []⟩] 0 x C7 ?_
 intro aP u
 refine An Z (rt (tR (JY (gH (vs:= [Zx #[Zz ⟨Zc []⟩, Zz ⟨Zc []⟩], V J]) Z (bW.cell Z (JW (cs:= [Zz ⟨Zc []⟩, Zz ⟨Zc []⟩]) D0 C7 ((u.cls (i:=0) Z).lit (k:=0) (m:=2) Z)) (bW.tmp Z bW.nil)) (M9 Z)) ?_)))
 have Z2:=u.pk []
 obtain⟨rfl,rfl⟩:=fK (zj hr zq2)
 exact⟨Z,Z2⟩
def qP (c:au) (b:au):Bool:=
 bnd (lq c b) λ a=>if a.2=Zk then Zy ((a.1.a=b.a)/\(a.1.b=b.b)) else J
theorem vM (w D) (h:au) (c:au) (s) (H:Own w D w []) (hr:qP h c=s):
    Calls v1 117 #[Zx (Zc (au.J h)), Zx (Zc (au.J c))] w (dM λ v w'=>v= V s/\Own w D w' []):=by
 unfold qP at hr
 refine cb Tryz.func117 ?_
 refine sr ?_
 refine cu (au.J h) 37 H ?_
 intro y z l
 refine cu (au.J c) 37 l ?_
 intro A B f
 refine Ar Z (La (au.J h) f 1 D0 C7 (La (au.J c) f 0 D0 C7 ?_))
 obtain⟨⟨a,g⟩,d⟩:∃ q:au × Bool,lq h c=q:=⟨_,Z⟩
 obtain⟨C,i,t,j,x⟩:=JJ f
 refine cl Tryz.call152 (qf _ _ h c a g i d) ?_
 rintro _ E ⟨rfl,k⟩
 have m:=j _ _ k
 refine Mz Z (Kz (Zx (Zc (au.J a))) (Kz (V g) ?_))
 refine cu [Zz ⟨Zc []⟩, Zz ⟨Zc []⟩] 37 m ?_
 intro F G n
 refine cO (au.J a) 0 n C7 ?_
 intro I o
 refine An Z (JG ?_)
 have e:=o.pk [0,1]
 refine JI (Mz Z (Mz Z ?_))
 rcases Nf (g) with b | b
 refine Ga (au.J a) b e 0 D0 C7 (Ga (au.J c) b e 1 D0 C7 (Kj (v:= Zb ((a.a=c.a)/\(a.b=c.b))) Z Z b Z (LP Z Z f1 Z (gB.struct Tryz.underlying37 f1 (Kv (fG.cons (u:= Zz ⟨Zc a.a⟩) (v:= Zz ⟨Zc c.a⟩) f6 Za Za (gB.string v7) (fG.cons (u:= Zz ⟨Zc a.b⟩) (v:= Zz ⟨Zc c.b⟩) f6 Za Za (gB.string v7) (fG.nil.up (Nb _)))) ((ZJ (Zy (a.a=c.a) && ·) kF).trans fI)))) (fw (Zb ((a.a=c.a)/\(a.b=c.b))) (JL Z b Z) (An Z (rt (rs ?_))))))
 have p:=e.pk []
 obtain rfl:=zj hr zq2
 exact⟨Z,p⟩
 refine T b (T b (T b (fw (V J) (JH Z b Z) (An Z (rt (rs ?_))))))
 have r:=e.pk []
 obtain rfl:=zj hr zq2
 exact⟨Z,r⟩
def kQ (e:List bO) (f:Int) (g:au):List bO->Nat->Unit ⊕ Bool
  | [],a=>Sum.inl ()
  | h::b,a=>if h.b=f then bnd (tX e ((a:Nat):Int)) λ c=>bnd (qP c g) λ d=>if d=Zk then Sum.inr (Zk) else kQ e f g b (a+1) else kQ e f g b (a+1)
def wF (b:List bO) (c:Int) (d:au):Bool:=
 bnd (nV b) λ a=>if a=0 then lp (kQ b c d b 0) λ _=>J else J
theorem Bh (w D l n0 G b j) (d:au) (r0) (H:Own w D w []) (n:Ro w D λ w'=>bP w' 2 l n0 (List.flatMap bO.J b)) (af:n0=X b) (aG:X b *24<=211106232532992) (hr:wF b j d=r0):
    Calls v1 91 #[W l n0 G,vI j, Zx (Zc (au.J d))] w (dM λ v w'=>v= V r0/\Own w D w' []):=by
 unfold wF at hr
 subst af
 refine cb Tryz.func91 ?_
 refine sr ?_
 refine cu (au.J d) 37 H ?_
 intro z aH ag
 refine An Z (JG (sr (Mz Z ?_)))
 obtain⟨o,f⟩:∃ q,nV b=q:=⟨_,Z⟩
 obtain⟨aI,I,Z7,K,aA⟩:=JJ ag
 refine cl Tryz.call30 (sN _ _ l (X b) G b o I (Z7 _ n) Z Y f) ?_
 rintro _ aJ ⟨rfl,L,x⟩
 have M:=K _ _ L
 replace x: ¬ (o=0)\/(1<=X b/\X b<=6):=x
 refine fw (Zb (¬ (o=0))) (JZ (e:= !(Zy (o=0))) yk ZY) (nt ?_)
 by_cases p:o=0
 refine jF (dF (Nc p)) (sk (JG (sr (Mz Z (Kz (vJ (X b)) (Mn Z (bo ?_)))))))
 have ah:=M.pf []
 obtain⟨ai,g⟩:=mE λ (a:Nat) w'=>Own w D w' [blk z (au.J d) 37]/\a<=X b/\kQ b j d b 0=kQ b j d (List.drop a b) a
 refine Wp.loop (λ i:Nat=> [(6, V J),(13,vJ i),(12,vJ (X b)),(5,vP z 0),(0, W l (X b) G),(1,vI j)]) ai (λ i=>X b - i) 0 ⟨Z,Z,Z,Z,Z,Z,ZW⟩ (g.2 ⟨ah,Y,Z⟩) ?_
 rintro a aK Z5
 show Wp _ _ _ [(6, V J),(13,vJ a),(12,vJ (X b)),(5,vP z 0),(0, W l (X b) G),(1,vI j)] _ _
 obtain⟨A,aB,h⟩:=g.1 Z5
 refine sr (Kz (Zb ((a:Int) < (X b:Int))) (nt (JG ?_)))
 by_cases Z6:(a:Int) < (X b:Int)
 obtain⟨B,y⟩:=dJ (ls:=b) (i:=a) bO.len f6 (A.ro n) f4
 have r:=drop_at y
 refine jT (dT Z6) (sk (JG (bo (sr (Mz Z (An Z (JG ?_)))))))
 refine Dh [] (JP (bI.block (JP (JP (bI.block (JP J3)))))) A ?_
 intro aL P
 refine qv 0 Z Z (qv 1 Z Z (qt (v:= Zq (Zw ⟨ab l,ao l+a *2,Zv⟩)) 2 Z (λ _ ⟨_,Q⟩=>JU (uE) Z Z ((Q.ro n).addr (i:=a) Y) Y) (qk (Zq (Zw ⟨ab l,ao l+a *2+1,Zv⟩)) 3 Z (qt (v:=vI B.b) 4 Z (λ _ ⟨_,Q⟩=>JS Z (bT.one Tryz.isAgg3 (((Q.ro n).elem bO.len y f6).at_ (k:=1) Z))) (qv 5 Z Z (qk (Zb (B.b=j)) 6 Z (qv 7 Z Z ?_)))))))
 by_cases c:B.b=j
 refine JQ (v:= W l (X b) G) (rs:= []) 8 Z Z Z (dT c) f1 (λ _ _=>JM Z) (JQ (v:=vJ a) (rs:= []) 9 Z Z Z (dT c) f1 (λ _ _=>JM Z) (JQ (v:= Zx (Zc (au.J d))) (rs:= []) 11 Z Z Z (dT c) f1 (λ _ ⟨_,Q⟩=>JS Z (JW (cs:=(au.J d)) D0 C7 ((Q.cls (i:=0) Z).lit (k:=0) (m:=2) Z))) ?_))
 obtain⟨C,s⟩:∃ q,tX b (a:Int)=q:=⟨_,Z⟩
 obtain⟨aM,R,S,Z8,aC⟩:=JJ P
 refine Ky 10 Z Z Z (dT c) f1 (J6 Tryz.call147 Z (yT _ _ l (X b) G b (a:Int) C R (S _ n) Z Y Y s) ?_)
 rintro _ aN ⟨rfl,Z4⟩
 have Z3:=Z8 _ _ Z4
 refine⟨.inr ⟨_,Z3⟩, ?_⟩
 obtain⟨E,t⟩:∃ q,qP C d=q:=⟨_,Z⟩
 obtain⟨aO,Z9,aD,Z1,aF⟩:=JJ Z3
 refine Ky 12 Z Z Z (dT c) f1 (J6 Tryz.call117 Z (vM _ _ C d E Z9 t) ?_)
 rintro _ aP ⟨rfl,Z2⟩
 have F:=Z1 _ _ Z2
 refine⟨.inr ⟨_,F⟩, ?_⟩
 refine qt (v:= V E) 13 Z (λ _ _=>JL Z (dT c) Z) (qn (JK ?_))
 rcases Nf (E) with u | u
 refine jT u (sr (An Z (rt (bR (tR (tR (bR (tR (rs ?_)))))))))
 have aj:=F.pk []
 obtain rfl:_=Zk:=zj hr (N (ae f) (N (ip p) (iJ (N (h) (N (ZJ (λ q=>kQ b j d q a) r) (N (ip c) (N (ae s) (N (ae t) (ip u)))))))))
 exact⟨Z,aj⟩
 refine jF u (J8 (bN (JK (JI (fw (vJ (a+1)) (JN (e:=B7.wrap ((a:Int)+1)) yk f3) (Mz Z (WL.nil ?_)))))))
 have ak:=F.pf []
 exact JX (a+1) ⟨Z,Z,Z,Z,Z,Z,ZW⟩ (g.2 ⟨ak,Y,N (h) (N (ZJ (λ q=>kQ b j d q a) r) (N (ip c) (N (ae s) (N (ae t) (eP u)))))⟩) (by show X b - (a+1) < X b - a; omega)
 refine JO (rs:= []) 8 Z Z Z (dF c) f1 (JO (rs:= []) 9 Z Z Z (dF c) f1 (JO (rs:= []) 10 Z Z Z (dF c) f1 (JO (rs:= []) 11 Z Z Z (dF c) f1 (JO (rs:= []) 12 Z Z Z (dF c) f1 (qt (v:= V J) 13 Z (λ _ _=>JH Z (dF c) Z) (qn (JK (jf (J8 (bN (JK (JI (fw (vJ (a+1)) (JN (e:=B7.wrap ((a:Int)+1)) yk f3) (Mz Z (WL.nil ?_)))))))))))))))
 have av:=P.pf []
 exact JX (a+1) ⟨Z,Z,Z,Z,Z,Z,ZW⟩ (g.2 ⟨av,Y,N (h) (N (ZJ (λ q=>kQ b j d q a) r) (iN c))⟩) (by show X b - (a+1) < X b - a; omega)
 refine jF (dF Z6) (Wp.exit (JV ?_))
 have Z0:kQ b j d b 0=Sum.inl ():=N (h) (N (ZJ (λ q=>kQ b j d q a) (eH (ls:=b) (i:=a) Y)) Z)
 refine JV (J2 (JK (sr (An Z (rt (rs ?_))))))
 have ax:=A.pk []
 obtain rfl:_=J:=zj hr (N (ae f) (N (ip p) (lD Z0)))
 exact⟨Z,ax⟩
 refine jT (dT p) (sr (An Z (rt (tR (rs ?_)))))
 have ay:=M.pk []
 obtain rfl:=zj hr zq2
 exact⟨Z,ay⟩
end
open List renaming flatMap_append->u0,length_append->o2,length_cons->q5,length_nil->L3,take->t8
open _root_.Go.Proofs.Tryz renaming call101->K1,call109->K2,isAgg147->K0,underlying97->L0
section
open Go.RowKit
def lY (d:List UInt8):Nat->Int->Int
  | 0,a=>ZZ
  | c+1,a=>if a >= 0 then bnd (y4 d (U a) ZZ) λ b=>if((b.toNat:Nat):Int)=255 then lY d c (a - 1) else a else a
def qz (a:List UInt8):au × Int:=
 bnd (dW a) λ b=>if b=0 then if((X a:Nat):Int) < 12 then(au.q a (a++([0])),0) else bnd (bnd (lY a ((U (((X a - 1:Nat):Int)+1))+1) ((X a - 1:Nat):Int)) λ sLrbtfJjL=>sLrbtfJjL) λ sJrbtfJ=>if sJrbtfJ < 0 then(au.q a [],0) else bnd (y4 a (U sJrbtfJ) ZZ) λ c=>(au.q a ((t8 (U sJrbtfJ) a)++([(c+(1:UInt8))])),0) else(au.q [] [],b)
theorem Bi (w D a) (r0:au) (r1) (H:Own w D w []) (hr:qz a=(r0,r1)):
    Calls v1 159 #[Zz ⟨Zc a⟩] w (dM λ v w'=>v= .tuple #[Zx (Zc (au.J r0)),vI r1]/\Own w D w' []):=by
 unfold qz at hr
 refine cb Tryz.func159 ?_
 refine sr ?_
 refine cu [Zz ⟨Zc []⟩, Zz ⟨Zc []⟩] 37 H ?_
 intro j aM Z2
 refine An Z (JG (sr (Mz Z ?_)))
 obtain⟨g,h⟩:∃ q,dW a=q:=⟨_,Z⟩
 obtain⟨aN,Z6,aF,P,aG⟩:=JJ Z2
 refine cl Tryz.call62 (jR _ _ a g Z6 h) ?_
 rintro _ aO ⟨rfl,Q,F,G⟩
 have K:=P _ _ Q
 replace F: ¬ (g=0)\/(1<=X a/\X a<=12):=F
 replace G:X a < 1\/X a > 12\/g=0:=G
 refine Ar Z (Mz Z (fw (Zb (¬ (g=0))) (JZ (e:= !(Zy (g=0))) yk ZY) (nt ?_)))
 by_cases n:g=0
 refine jF (dF (Nc n)) (sk (JG (sr (Mz Z (Kz (vJ (X a)) (Kz (Zb ((X a:Int) < 12)) (nt ?_)))))))
 by_cases p:(X a:Int) < 12
 refine jT (decide_eq_true p) (sr (Mz Z (Mz Z (fw (Zz ⟨Zc (a++([0]))⟩) (K4 Z Z g8) (Kz (Zx #[Zz ⟨Zc a⟩, Zz ⟨Zc (a++([0]))⟩]) ?_)))))
 refine cO [Zz ⟨Zc a⟩, Zz ⟨Zc (a++([0]))⟩] 0 K C7 ?_
 intro aP R
 refine An Z (rt (tR (JY (gH (vs:= [Zx #[Zz ⟨Zc a⟩, Zz ⟨Zc (a++([0]))⟩],vI 0]) Z (bW.cell Z (JW (cs:= [Zz ⟨Zc a⟩, Zz ⟨Zc (a++([0]))⟩]) D0 C7 ((R.cls (i:=0) Z).lit (k:=0) (m:=2) Z)) (bW.tmp Z bW.nil)) (M9 Z)) ?_)))
 have Z0:=R.pk []
 obtain⟨rfl,rfl⟩:=fK (zj hr zq3)
 exact⟨Z,Z0⟩
 refine jF (dF p) (sk (sr (Mz Z (Kz (vJ (X a)) (fw (vJ (X a - 1)) (JN (e:=B7.wrap ((X a:Int) - 1)) yk f3) (An Z (JG ?_)))))))
 obtain⟨aa,r⟩:=mE λ (b:Int) w'=>Own w D w' [blk j [Zz ⟨Zc []⟩, Zz ⟨Zc []⟩] 37]/\(-9223372036854775808<=b/\b<=9223372036854775807)/\b < X a/\(bnd (lY a ((U (((X a - 1:Nat):Int)+1))+1) ((X a - 1:Nat):Int)) λ sLrbtfJjL=>sLrbtfJjL)=b
 refine KL (λ i:Int=> [(5,vI i),(3,vI 0),(2,vP j 0),(0, Zz ⟨Zc a⟩)]) aa ?_ ?_
 refine bo ?_
 have af:=K.pf []
 obtain⟨ag,s⟩:=Io λ (c:Int) (u:Nat) w'=>Own w D w' [blk j [Zz ⟨Zc []⟩, Zz ⟨Zc []⟩] 37]/\ -1<=c/\c < X a/\U (c+1) < u/\lY a ((U (((X a - 1:Nat):Int)+1))+1) ((X a - 1:Nat):Int)=lY a u c
 refine Wp.loop (λ i:Int × Nat=> [(5,vI i.1),(3,vI 0),(2,vP j 0),(0, Zz ⟨Zc a⟩)]) ag (λ i=>i.2) (((X a - 1:Nat):Int),(U (((X a - 1:Nat):Int)+1))+1) ⟨Z,Z,Z,Z,ZW⟩ (s.2 ⟨af,Y,Y,Y,Z⟩) ?_
 rintro ⟨c,u⟩ aQ S
 show Wp _ _ _ [(5,vI c),(3,vI 0),(2,vP j 0),(0, Zz ⟨Zc a⟩)] _ _
 obtain⟨L,aH,aI,aJ,x⟩:=s.1 S
 obtain⟨M,Z8⟩:∃ q,u=q+1:=⟨u - 1,Y⟩
 subst Z8
 refine JG (sr (Mz Z (Kz (Zb (c >= 0)) (Mz Z ?_))))
 by_cases f:c >= 0
 refine gw (Zz ⟨Zc a⟩) (dT f) (JM Z) (gw (vJ (U c)) (dT f) (JN (e:=c) (JM Z) Y) ?_)
 obtain⟨B,z⟩:=mI (ls:=a) (i:=U c) Y
 refine gw (.int .u8 (B.toNat:Int)) (dT f) (KV v7 Z Z z) (Gz (Zb ((B.toNat:Int)=255)) (dT f) (fw (Zb ((B.toNat:Int)=255)) (JL Z (dT f) Z) (nt ?_)))
 by_cases C:(B.toNat:Int)=255
 refine jT (dT C) (sk (bo (JI (Mz Z (fw (vI (c - 1)) (JN (e:=B7.wrap (c - 1)) yk i8) (Az Z (B8 (bN ?_))))))))
 have ah:=L.pf []
 exact JX (c - 1,M) ⟨Z,Z,Z,Z,ZW⟩ (s.2 ⟨ah,Y,Y,Y,N (x) (N (ip f) (N (ae (bu z)) (ip C)))⟩) (by show M < M+1; omega)
 refine jF (dF C) (B9 (JV (JV (J2 ?_))))
 have ai:=L.pf []
 exact Kr c ⟨Z,Z,Z,Z,ZW⟩ (r.2 ⟨ai,Y,Y,ae (N (x) (N (ip f) (N (ae (bu z)) (iN C))))⟩)
 refine T (dF f) (T (dF f) (T (dF f) (T (dF f) (fw (V J) (JH Z (dF f) Z) (nt (jf (B9 (JV (JV (J2 ?_))))))))))
 have aj:=L.pf []
 exact Kr c ⟨Z,Z,Z,Z,ZW⟩ (r.2 ⟨aj,Y,Y,ae (N (x) (iN f))⟩)
 rintro b aR Z4
 show Wp _ _ _ [(5,vI b),(3,vI 0),(2,vP j 0),(0, Zz ⟨Zc a⟩)] _ _
 obtain⟨Z3,aK,aL,I⟩:=r.1 Z4
 refine JG (sr (Mz Z (Kz (Zb (b < 0)) (nt ?_))))
 by_cases E:b < 0
 refine jT (dT E) (sr (Mz Z (Kz (Zx #[Zz ⟨Zc a⟩, Zz ⟨Zc []⟩]) ?_)))
 refine cO [Zz ⟨Zc a⟩, Zz ⟨Zc []⟩] 0 Z3 C7 ?_
 intro aS Z9
 refine An Z (rt (tR (JY (gH (vs:= [Zx #[Zz ⟨Zc a⟩, Zz ⟨Zc []⟩],vI 0]) Z (bW.cell Z (JW (cs:= [Zz ⟨Zc a⟩, Zz ⟨Zc []⟩]) D0 C7 ((Z9.cls (i:=0) Z).lit (k:=0) (m:=2) Z)) (bW.tmp Z bW.nil)) (M9 Z)) ?_)))
 have ak:=Z9.pk []
 obtain⟨rfl,rfl⟩:=fK (zj hr zq5)
 exact⟨Z,ak⟩
 refine jF (dF E) (sk (JG ?_))
 refine AQ [] (JP J3) Z3 ?_
 intro aT av
 refine qv 0 Z Z (qv 1 Z Z (qt (v:=vJ (U b)) 2 Z (λ _ _=>JN (e:=b) (JM Z) Y) (qt (v:= Zz ⟨Zc (t8 (U b) a)⟩) 3 Z (λ _ _=>LK v7 Z Z g8) (qv 4 Z Z (qt (v:=vJ (U b)) 5 Z (λ _ _=>JN (e:=b) (JM Z) Y) ?_)))))
 obtain⟨d,Z7⟩:=mI (ls:=a) (i:=U b) Y
 refine qt (v:= .int .u8 (d.toNat:Int)) 6 Z (λ _ _=>KV v7 Z Z Z7) (qt (v:= .int .u8 (((d+(1:UInt8)).toNat:Nat):Int)) 7 Z (λ _ _=>JN (e:=IntKind.u8.wrap ((d.toNat:Int)+1)) yk (Et d (1:UInt8))) ?_)
 refine qd 8 Z (Kt (cs:= [.int .u8 (((d+(1:UInt8)).toNat:Nat):Int)]) (t:=5) (sz:=1) (m:=1) av Z Z Za Z f6 ?_)
 intro ax aU A
 replace A:=Ke (y:=row ax 1 1 (q0 eB ([(d+(1:UInt8))])) 5 1) Z A
 refine⟨.inr ⟨_,A⟩, ?_⟩
 refine Jj A (qt (v:= Zz ⟨Zc ([(d+(1:UInt8))])⟩) 9 Z (λ _ ⟨_,H9⟩=>Lg (l:= [(d+(1:UInt8))]) Tryz.underlying186 Tryz.underlying5 v7 (H9.rds (i:=0) Z) Z) (qt (v:= Zz ⟨Zc ((t8 (U b) a)++([(d+(1:UInt8))]))⟩) 10 Z (λ _ _=>K4 Z Z g8) (qk (Zx #[Zz ⟨Zc a⟩, Zz ⟨Zc ((t8 (U b) a)++([(d+(1:UInt8))]))⟩]) 11 Z ?_)))
 have ay:=A.pb [0]
 refine qe 12 Z (Do.store (vs:= [Zz ⟨Zc a⟩, Zz ⟨Zc ((t8 (U b) a)++([(d+(1:UInt8))]))⟩]) (o:=0) ay Z Z C7 Z Z Z Z ?_)
 intro aW az
 have Z5:=az.pb [0]
 refine⟨.inr ⟨_,Z5⟩, ?_⟩
 refine qa 13 Z Z (qn (JK (rt (JY (gH (vs:= [Zx #[Zz ⟨Zc a⟩, Zz ⟨Zc ((t8 (U b) a)++([(d+(1:UInt8))]))⟩],vI 0]) Z (bW.cell Z (JW (cs:= [Zz ⟨Zc a⟩, Zz ⟨Zc ((t8 (U b) a)++([(d+(1:UInt8))]))⟩]) D0 C7 ((Z5.cls (i:=1) Z).lit (k:=0) (m:=2) Z)) (bW.tmp Z bW.nil)) (M9 Z)) ?_))))
 have aA:=Z5.pk []
 obtain⟨rfl,rfl⟩:=fK (zj hr zq6)
 exact⟨Z,aA⟩
 refine jT (dT n) (sr (Kz (Zx #[Zz ⟨Zc []⟩, Zz ⟨Zc []⟩]) (Mz Z ?_)))
 refine cO [Zz ⟨Zc []⟩, Zz ⟨Zc []⟩] 0 K C7 ?_
 intro aX Z1
 refine An Z (rt (tR (JY (gH (vs:= [Zx #[Zz ⟨Zc []⟩, Zz ⟨Zc []⟩],vI g]) Z (bW.cell Z (JW (cs:= [Zz ⟨Zc []⟩, Zz ⟨Zc []⟩]) D0 C7 ((Z1.cls (i:=0) Z).lit (k:=0) (m:=2) Z)) (bW.tmp Z bW.nil)) (M9 Z)) ?_)))
 have aB:=Z1.pk []
 obtain⟨rfl,rfl⟩:=fK (zj hr zq2)
 exact⟨Z,aB⟩
def jS (b:aY):au:=
 bnd (qz b.f) λ a=>a.1
theorem nP (w D) (c:aY) (x:au) (H:Own w D w []) (hr:jS c=x):
    Calls v1 101 #[Zx (Zc (aY.J c))] w (dM λ v w'=>v= Zx (Zc (au.J x))/\Own w D w' []):=by
 unfold jS at hr
 refine cb Tryz.func101 ?_
 refine sr ?_
 refine cu (aY.J c) 68 H ?_
 intro n A o
 refine cu [Zz ⟨Zc []⟩, Zz ⟨Zc []⟩] 37 o ?_
 intro B C d
 refine ns (Kz (vP n 1) (Lz (Zz ⟨Zc c.f⟩) d 1 B3 ?_))
 obtain⟨⟨a,e⟩,b⟩:∃ q:au × Int,qz c.f=q:=⟨_,Z⟩
 obtain⟨E,f,y,g,z⟩:=JJ d
 refine cl Tryz.call159 (Bi _ _ c.f a e f b) ?_
 rintro _ F ⟨rfl,h⟩
 have p:=g _ _ h
 refine Mz Z (Kz (Zx (Zc (au.J a))) (Kz (vI e) ?_))
 refine cu [Zz ⟨Zc []⟩, Zz ⟨Zc []⟩] 37 p ?_
 intro G I r
 refine cO (au.J a) 0 r C7 ?_
 intro Z7 s
 refine An Z (JG ?_)
 have j:=s.pk [0,1]
 refine JI (La (au.J a) j 0 D0 C7 ?_)
 have t:=j.pb [0]
 refine cO (au.J a) 0 t C7 ?_
 intro K l
 refine nt (rt (JY (pV Z Z (JW (cs:=(au.J a)) D0 C7 ((l.cls (i:=0) Z).lit (k:=0) (m:=2) Z))) ?_))
 have u:=l.pk []
 obtain rfl:=zj hr zq1
 exact⟨Z,u⟩
def vN (a:aY):au × Int:=
 bnd (dA a) λ b=>if b=0 then if a.e=1 then bnd (jS a) λ f=>(f,0) else if a.e=2 then bnd (jS a) λ g=>(g,0) else if a.e=3 then bnd (jS a) λ c=>(c,0) else if a.e=4 then bnd (fQ a) λ d=>(d,0) else bnd (fQ a) λ e=>(e,0) else(au.q [] [],b)
theorem zD (w D) (a:aY) (r0:au) (r1) (H:Own w D w []) (hr:vN a=(r0,r1)):
    Calls v1 155 #[Zx (Zc (aY.J a))] w (dM λ v w'=>v= .tuple #[Zx (Zc (au.J r0)),vI r1]/\Own w D w' []):=by
 unfold vN at hr
 refine cb Tryz.func155 ?_
 refine sr ?_
 refine cu (aY.J a) 68 H ?_
 intro bz dZ bA
 refine cu [Zz ⟨Zc []⟩, Zz ⟨Zc []⟩] 37 bA ?_
 intro d9 ed ai
 refine An Z (JG (sr (La (aY.J a) ai 1 C6 C5 ?_)))
 obtain⟨h,b⟩:∃ q,dA a=q:=⟨_,Z⟩
 obtain⟨ek,aj,cK,ak,cZ⟩:=JJ ai
 refine cl Tryz.call63 (nO _ _ a h aj b) ?_
 rintro _ eu ⟨rfl,av,B⟩
 have j:=ak _ _ av
 replace B: ¬ (h=0)\/(1<=a.e/\a.e<=5):=B
 refine Ar Z (Mz Z (fw (Zb (¬ (h=0))) (JZ (e:= !(Zy (h=0))) yk ZY) (nt ?_)))
 by_cases c:h=0
 refine jF (dF (Nc c)) (sk (sr (Kz (vP bz 0) (Lz (vI a.e) j 1 Tryz.isAgg3 ?_))))
 by_cases l:a.e=1
 obtain⟨eB,ax,df,ay,dh⟩:=JJ j
 refine cl D2 (oF _ _ a.e ax (of_decide_eq_true (dT l))) ?_
 rintro _ eD ⟨rfl,az⟩
 have bB:=ay _ _ az
 refine Mz Z (Kz (Zx o2k.toArray) (Kz (V Zk) ?_))
 refine cu [V J, Zj, Zj, Zj, Zj] 149 bB ?_
 intro bC eF bD
 refine cO o2k 0 bD C4 ?_
 intro eG K
 refine Ar Z (Kz (vP bC 3) (Lz (.func (.func 101) #[] #[]) K 0 K0 (La (aY.J a) K 2 C6 C5 ?_)))
 obtain⟨n,C⟩:∃ q,jS a=q:=⟨_,Z⟩
 obtain⟨eH,aA,di,aB,dm⟩:=JJ K
 refine WL.do Z (Kh K1 Z Z (nP _ _ a n aA C) ?_)
 rintro _ eO ⟨rfl,aC⟩
 have bE:=aB _ _ aC
 have bF:=bE.pf [1]
 refine cO (au.J n) 0 bF C7 ?_
 intro eP aD
 refine An Z (rt (JY (gH (vs:= [Zx (Zc (au.J n)),vI 0]) Z (bW.cell Z (JW (cs:=(au.J n)) D0 C7 ((aD.cls (i:=0) Z).lit (k:=0) (m:=2) Z)) (bW.tmp Z bW.nil)) (M9 Z)) ?_))
 have bG:=aD.pk []
 obtain⟨rfl,rfl⟩:=fK (zj hr zq4)
 exact⟨Z,bG⟩
 by_cases o:a.e=2
 obtain⟨eQ,aF,dn,aG,dw⟩:=JJ j
 refine cl D2 (oG _ _ a.e aF (of_decide_eq_true (dT o))) ?_
 rintro _ eT ⟨rfl,aH⟩
 have bH:=aG _ _ aH
 refine Mz Z (Kz (Zx o3k.toArray) (Kz (V Zk) ?_))
 refine cu [V J, Zj, Zj, Zj, Zj] 149 bH ?_
 intro bI eU bJ
 refine cO o3k 0 bJ C4 ?_
 intro eX L
 refine Ar Z (Kz (vP bI 3) (Lz (.func (.func 101) #[] #[]) L 0 K0 (La (aY.J a) L 2 C6 C5 ?_)))
 obtain⟨p,E⟩:∃ q,jS a=q:=⟨_,Z⟩
 obtain⟨eY,aI,dx,aJ,dz⟩:=JJ L
 refine WL.do Z (Kh K1 Z Z (nP _ _ a p aI E) ?_)
 rintro _ eZ ⟨rfl,aK⟩
 have bK:=aJ _ _ aK
 have bL:=bK.pf [1]
 refine cO (au.J p) 0 bL C7 ?_
 intro fe aL
 refine An Z (rt (JY (gH (vs:= [Zx (Zc (au.J p)),vI 0]) Z (bW.cell Z (JW (cs:=(au.J p)) D0 C7 ((aL.cls (i:=0) Z).lit (k:=0) (m:=2) Z)) (bW.tmp Z bW.nil)) (M9 Z)) ?_))
 have bM:=aL.pk []
 obtain⟨rfl,rfl⟩:=fK (zj hr zq5)
 exact⟨Z,bM⟩
 by_cases A:a.e=3
 obtain⟨fo,aM,bN,M,bO⟩:=JJ j
 refine cl D2 (oH _ _ a.e aM (of_decide_eq_true (dT A))) ?_
 rintro _ dB ⟨rfl,Z5⟩
 have aN:=M _ _ Z5
 refine Mz Z (Kz (Zx o4k.toArray) (Kz (V Zk) ?_))
 refine cu [V J, Zj, Zj, Zj, Zj] 149 aN ?_
 intro aO dC aP
 refine cO o4k 0 aP C4 ?_
 intro dD r
 refine Ar Z (Kz (vP aO 3) (Lz (.func (.func 101) #[] #[]) r 0 K0 (La (aY.J a) r 2 C6 C5 ?_)))
 obtain⟨d,s⟩:∃ q,jS a=q:=⟨_,Z⟩
 obtain⟨dE,Z6,bP,P,bQ⟩:=JJ r
 refine WL.do Z (Kh K1 Z Z (nP _ _ a d Z6 s) ?_)
 rintro _ dG ⟨rfl,Q⟩
 have aQ:=P _ _ Q
 have aR:=aQ.pf [1]
 refine cO (au.J d) 0 aR C7 ?_
 intro dH F
 refine An Z (rt (JY (gH (vs:= [Zx (Zc (au.J d)),vI 0]) Z (bW.cell Z (JW (cs:=(au.J d)) D0 C7 ((F.cls (i:=0) Z).lit (k:=0) (m:=2) Z)) (bW.tmp Z bW.nil)) (M9 Z)) ?_))
 have aS:=F.pk []
 obtain⟨rfl,rfl⟩:=fK (zj hr zq6)
 exact⟨Z,aS⟩
 by_cases t:a.e=4
 obtain⟨dI,R,bR,S,bS⟩:=JJ j
 refine cl D2 (oI _ _ a.e R (of_decide_eq_true (dT t))) ?_
 rintro _ dJ ⟨rfl,Z8⟩
 have aT:=S _ _ Z8
 refine Mz Z (Kz (Zx o5k.toArray) (Kz (V Zk) ?_))
 refine cu [V J, Zj, Zj, Zj, Zj] 149 aT ?_
 intro aU dK aV
 refine cO o5k 0 aV C4 ?_
 intro dL u
 refine Ar Z (Kz (vP aU 3) (Lz (.func (.func 109) #[] #[]) u 0 K0 (La (aY.J a) u 2 C6 C5 ?_)))
 obtain⟨f,x⟩:∃ q,fQ a=q:=⟨_,Z⟩
 obtain⟨dN,Z4,bT,Z3,bU⟩:=JJ u
 refine WL.do Z (Kh K2 Z Z (lS _ _ a f Z4 x) ?_)
 rintro _ dO ⟨rfl,Z9⟩
 have aW:=Z3 _ _ Z9
 have aX:=aW.pf [1]
 refine cO (au.J f) 0 aX C7 ?_
 intro dP G
 refine An Z (rt (JY (gH (vs:= [Zx (Zc (au.J f)),vI 0]) Z (bW.cell Z (JW (cs:=(au.J f)) D0 C7 ((G.cls (i:=0) Z).lit (k:=0) (m:=2) Z)) (bW.tmp Z bW.nil)) (M9 Z)) ?_))
 have aZ:=G.pk []
 obtain⟨rfl,rfl⟩:=fK (zj hr zq7)
 exact⟨Z,aZ⟩
 have Z1:(Zy (a.e=5))=Zk:=(dT Y)
 obtain⟨dQ,Z2,bV,Z0,bX⟩:=JJ j
 refine cl D2 (oJ _ _ a.e Z2 (of_decide_eq_true Z1)) ?_
 rintro _ dR ⟨rfl,aa⟩
 have bf:=Z0 _ _ aa
 refine Mz Z (Kz (Zx o6k.toArray) (Kz (V Zk) ?_))
 refine cu [V J, Zj, Zj, Zj, Zj] 149 bf ?_
 intro bg dS bi
 refine cO o6k 0 bi C4 ?_
 intro dU y
 refine Ar Z (Kz (vP bg 3) (Lz (.func (.func 109) #[] #[]) y 0 K0 (La (aY.J a) y 2 C6 C5 ?_)))
 obtain⟨g,z⟩:∃ q,fQ a=q:=⟨_,Z⟩
 obtain⟨dV,af,bY,ag,bZ⟩:=JJ y
 refine WL.do Z (Kh K2 Z Z (lS _ _ a g af z) ?_)
 rintro _ dW ⟨rfl,ah⟩
 have bn:=ag _ _ ah
 have bq:=bn.pf [1]
 refine cO (au.J g) 0 bq C7 ?_
 intro dX I
 refine An Z (rt (JY (gH (vs:= [Zx (Zc (au.J g)),vI 0]) Z (bW.cell Z (JW (cs:=(au.J g)) D0 C7 ((I.cls (i:=0) Z).lit (k:=0) (m:=2) Z)) (bW.tmp Z bW.nil)) (M9 Z)) ?_))
 have bu:=I.pk []
 obtain⟨rfl,rfl⟩:=fK (zj hr zq7)
 exact⟨Z,bu⟩
 refine jT (dT c) (sr (Kz (Zx #[Zz ⟨Zc []⟩, Zz ⟨Zc []⟩]) (Mz Z ?_)))
 refine cO [Zz ⟨Zc []⟩, Zz ⟨Zc []⟩] 0 j C7 ?_
 intro dY Z7
 refine An Z (rt (tR (JY (gH (vs:= [Zx #[Zz ⟨Zc []⟩, Zz ⟨Zc []⟩],vI h]) Z (bW.cell Z (JW (cs:= [Zz ⟨Zc []⟩, Zz ⟨Zc []⟩]) D0 C7 ((Z7.cls (i:=0) Z).lit (k:=0) (m:=2) Z)) (bW.tmp Z bW.nil)) (M9 Z)) ?_)))
 have bv:=Z7.pk []
 obtain⟨rfl,rfl⟩:=fK (zj hr zq2)
 exact⟨Z,bv⟩
theorem xI {x:aY} (h:dA x=0):1<=x.e/\x.e<=5:=by
 unfold dA at h
 repeat' (split at h <;> first | omega | skip)
theorem vk {l:List aY} (h:fF l=0):∀ x ∈ l,dA x=0:=by
 have key:∀ l:List aY,lp (iM l) (λ _=>0)=0->∀ x ∈ l,dA x=0:=by
    intro l
    induction l with
    | nil=>intro _ x hx; cases hx
    | cons y q ih=>
      intro h x hx
      simp only [iM,bnd] at h
      by_cases e:dA y=0
      . rw [ip e] at h
        rcases List.mem_cons.1 hx with rfl | hx
        . exact e
        . exact ih h x hx
      . rw [iN e] at h
        exact absurd h e
 exact key l h
theorem Di {l:List aY} (h:fF l=0) {i:Nat} {x:aY} (hx:l[i]? =Zw x):1<=x.e/\x.e<=5:=
 xI (vk h x (List.mem_of_getElem? hx))
theorem vz:Elem v1 97 118 3 40:=nz (z:= Zx #[Zz ⟨Zc []⟩, Zz ⟨Zc []⟩, V J]) L0 f1 Z f6
structure aF where q::
 j:au
 a:Bool
def aF.J (x:aF):List ZX:= [Zz ⟨Zc x.j.a⟩, Zz ⟨Zc x.j.b⟩, V x.a]
instance:Bk aF:=⟨λ x _=>bk x.j+(bk x.a+(0))⟩
theorem aF.len:∀ x,X (aF.J x)=3:=λ _=>rfl
theorem aF.one:∀ x, ∀ u ∈ aF.J x,u.oneCell'=Zk:=λ x u hu=>by
 simp only [aF.J,List.mem_cons,List.not_mem_nil,or_false] at hu
 rcases hu with rfl | rfl | rfl <;> rfl
def Le (w:ZQ) (x:aF):Prop:=(KW w x.j)/\(True)
instance:Inhabited aF:=⟨⟨ZZ,ZZ⟩⟩
def gF:List aY->List aF->(List aF)
  | [],b=>b
  | a::c,b=>if a.e=1 then bnd (jS a) λ h=>gF c (b++ [(aF.q h J)]) else if a.e=2 then bnd (jS a) λ d=>gF c (b++ [(aF.q d Zk)]) else if a.e=3 then bnd (jS a) λ e=>gF c (b++ [(aF.q e Zk)]) else if a.e=4 then bnd (fQ a) λ f=>gF c (b++ [(aF.q f J)]) else bnd (fQ a) λ g=>gF c (b++ [(aF.q g Zk)])
def nX (b:List aY):(List aF) × Int:=
 bnd (fF b) λ a=>if a=0 then bnd (gF b []) λ sLrbtL=>(sLrbtL,0) else(([]:List aF),a)
theorem CJ (w D A0 n0 c0 d r0 r1) (H:Own w D w []) (Q:Ro w D λ w'=>bP w' 6 A0 n0 (q0 aY.J d)) (eG:n0=X d) (iY:X d *80<=211106232532992) (hr:nX d=(r0,r1)):
    Calls v1 37 #[W A0 n0 c0] w (dM λ v w'=> ∃ B0 b0,v= .tuple #[W B0 (X r0) b0,vI r1]/\Own w D w' [row B0 (X r0) b0 (q0 aF.J r0) 118 3]):=by
 unfold nX at hr
 subst eG
 refine cb Tryz.func37 ?_
 refine sr (Az Z (An Z (JG (sr (Mz Z ?_)))))
 obtain⟨B,u⟩:∃ q,fF d=q:=⟨_,Z⟩
 obtain⟨iZ,bA,bB,bC,gI⟩:=JJ H
 refine cl Tryz.call66 (rU _ _ A0 (X d) c0 d B bA (bB _ Q) Z Y u) ?_
 rintro _ bD ⟨rfl,bE⟩
 have bF:=bC _ _ bE
 refine Ar Z (Mz Z (fw (Zb (¬ (B=0))) (JZ (e:= !(Zy (B=0))) yk ZY) (nt ?_)))
 by_cases R:B=0
 refine jF (dF (Nc R)) (sk (sr (An Z (JG (sr (Mz Z (Kz (vJ (X d)) (Mn Z (bo ?_)))))))))
 have eO:Own w D bD [row Zv 0 0 (q0 aF.J []) 118 3]:=bF.free (cK 118 3)
 have eP:=eO.pf []
 obtain⟨eQ,n⟩:=wY λ S (Z8:Nat) a (b:Nat) w'=>Own w D w' [row S (X a) Z8 (q0 aF.J a) 118 3]/\b<=X d/\X a=b/\X a<=b/\gF d []=gF (r6 b d) a
 refine Wp.loop (λ i:(Option Addr) × Nat × (List aF) × Nat=> [(5, W i.1 (X i.2.2.1) i.2.1),(17,vJ i.2.2.2),(16,vJ (X d)),(15, W A0 (X d) c0),(3,vI 0),(2, W Zv 0 0)]) eQ (λ i=>X d - i.2.2.2) (Zv,0, [],0) ⟨Z,Z,Z,Z,Z,Z,ZW⟩ (n.2 ⟨eP,(show 0<=X d/\0=0/\0<=0/\gF d []=gF (r6 0 d) [] from ⟨Y,Y,Y,Z⟩)⟩) ?_
 rintro ⟨S,Z8,a,b⟩ ja bG
 show Wp _ _ _ [(5, W S (X a) Z8),(17,vJ b),(16,vJ (X d)),(15, W A0 (X d) c0),(3,vI 0),(2, W Zv 0 0)] _ _
 obtain⟨C,gJ,gK,gL,p⟩:=n.1 bG
 refine sr (Kz (Zb ((b:Int) < (X d:Int))) (nt (JG ?_)))
 by_cases bH:(b:Int) < (X d:Int)
 obtain⟨c,E⟩:=dJ (ls:=d) (i:=b) aY.len f6 (C.ro Q) f4
 have gM:=Di (l:=d) (by rw [u]; omega) E
 have r:=drop_at E
 refine jT (dT bH) (sk (JG (bo (sr (fw (Zq (Zw ⟨ab A0,ao A0+b *6,Zv⟩)) (JU (oD) Z Z ((C.ro Q).addr (i:=b) Y) Y) (fw (Zx (Zc (aY.J c))) (JS Z (JW (cs:=(aY.J c)) C6 C5 ((C.ro Q).elem aY.len E f6))) ?_))))))
 refine cu [vI 0, Zz ⟨Zc []⟩, Zz ⟨Zc []⟩, Zz ⟨Zc []⟩, Zz ⟨Zc []⟩,vI 0] 68 C ?_
 intro eT jb eU
 refine cO (aY.J c) 0 eU C5 ?_
 intro jc z
 refine ns (Kz (vP eT 0) (Lz (vI c.e) z 0 Tryz.isAgg3 ?_))
 by_cases A:c.e=1
 obtain⟨jd,bJ,gN,bK,gP⟩:=JJ z
 refine cl D2 (oF _ _ c.e bJ (of_decide_eq_true (dT A))) ?_
 rintro _ je ⟨rfl,bL⟩
 have eX:=bK _ _ bL
 refine Mz Z (Kz (Zx o2k.toArray) (Kz (V Zk) ?_))
 refine cu [V J, Zj, Zj, Zj, Zj] 149 eX ?_
 intro bM jf eY
 refine cO o2k 0 eY C4 ?_
 intro jg eZ
 refine An Z ?_
 refine pK [] (bI.block (JP (JP (bI.block (JP J3))))) eZ ?_
 intro jh fe
 refine qv 0 Z Z (qp bM 3 1 Z (ql 2 Z 0 K0 Z Z Z (qt (v:= Zx (Zc (aY.J c))) 3 Z (λ _ ⟨_,Z4⟩=>JS Z (JW (cs:=(aY.J c)) C6 C5 ((Z4.cls (i:=1) Z).lit (k:=0) (m:=6) Z))) (qp bM 0 5 Z (ql 6 Z 0 H4 Z Z Z ?_)))))
 obtain⟨o,Z3⟩:∃ q,jS c=q:=⟨_,Z⟩
 obtain⟨ji,bO,gQ,bQ,gT⟩:=JJ fe
 refine qd 4 Z (Kh K1 Z Z (nP _ _ c o bO Z3) ?_)
 rintro _ jk ⟨rfl,bR⟩
 have bS:=bQ _ _ bR
 refine⟨.inr ⟨_,bS⟩, ?_⟩
 refine qk (Zx #[Zz ⟨Zc o.a⟩, Zz ⟨Zc o.b⟩, V J]) 7 Z ?_
 refine qd 8 Z (Kt (cs:= [Zz ⟨Zc o.a⟩, Zz ⟨Zc o.b⟩, V J]) (t:=118) (sz:=3) (m:=1) bS Z Z Za Z f6 ?_)
 intro fo jl aH
 replace aH:=Ke (y:=row fo 1 1 (q0 aF.J ([(aF.q o J)])) 118 3) Z aH
 have bT:=aH.pb [0,3]
 refine⟨.inr ⟨_,bT⟩, ?_⟩
 have bU:=bT.pf [3]
 refine qd 9 Z (J7 (k:=X a) (m:=1) (vz) bU Z Z (fq L0 (bU.rds (i:=3) Z) (di aF.one ([(aF.q o J)]))) Z Y (s:=X (a++ [(aF.q o J)])) f7 (u0).symm ?_)
 intro fu fA jm fB
 have gU:X (a++ [(aF.q o J)])=X a+1:=by simp only [o2,q5,L3]
 have bV:=fB.pb [0,3]
 refine⟨.inr ⟨_,bV⟩, ?_⟩
 refine qa 10 Z Z (qn (bN (JK (JI (fw (vJ (b+1)) (JN (e:=B7.wrap ((b:Int)+1)) yk f3) (Mz Z (B8 ?_)))))))
 have fC:=bV.pk [2]
 exact JX (fu,fA,(a++ [(aF.q o J)]),b+1) ⟨Z,Z,Z,Z,Z,Z,ZW⟩ (n.2 ⟨fC,Y,Y,Y,N (p) (N (ZJ (λ q=>gF q a) r) (N (ip A) (ae Z3)))⟩) (by show X d - (b+1) < X d - b; omega)
 by_cases F:c.e=2
 obtain⟨jo,bW,fD,aI,fE⟩:=JJ z
 refine cl D2 (oG _ _ c.e bW (of_decide_eq_true (dT F))) ?_
 rintro _ gV ⟨rfl,aJ⟩
 have bX:=aI _ _ aJ
 refine Mz Z (Kz (Zx o3k.toArray) (Kz (V Zk) ?_))
 refine cu [V J, Zj, Zj, Zj, Zj] 149 bX ?_
 intro Z9 gW bY
 refine cO o3k 0 bY C4 ?_
 intro gX bZ
 refine An Z ?_
 refine pK [] (bI.block (JP (JP (bI.block (JP J3))))) bZ ?_
 intro gY cz
 refine qv 0 Z Z (qp Z9 3 1 Z (ql 2 Z 0 K0 Z Z Z (qt (v:= Zx (Zc (aY.J c))) 3 Z (λ _ ⟨_,Z4⟩=>JS Z (JW (cs:=(aY.J c)) C6 C5 ((Z4.cls (i:=1) Z).lit (k:=0) (m:=6) Z))) (qp Z9 0 5 Z (ql 6 Z 0 H4 Z Z Z ?_)))))
 obtain⟨f,G⟩:∃ q,jS c=q:=⟨_,Z⟩
 obtain⟨gZ,aK,fG,aL,fH⟩:=JJ cz
 refine qd 4 Z (Kh K1 Z Z (nP _ _ c f aK G) ?_)
 rintro _ ib ⟨rfl,aM⟩
 have Z1:=aL _ _ aM
 refine⟨.inr ⟨_,Z1⟩, ?_⟩
 refine qk (Zx #[Zz ⟨Zc f.a⟩, Zz ⟨Zc f.b⟩, V Zk]) 7 Z ?_
 refine qd 8 Z (Kt (cs:= [Zz ⟨Zc f.a⟩, Zz ⟨Zc f.b⟩, V Zk]) (t:=118) (sz:=3) (m:=1) Z1 Z Z Za Z f6 ?_)
 intro cB ic I
 replace I:=Ke (y:=row cB 1 1 (q0 aF.J ([(aF.q f Zk)])) 118 3) Z I
 have Z2:=I.pb [0,3]
 refine⟨.inr ⟨_,Z2⟩, ?_⟩
 have Z0:=Z2.pf [3]
 refine qd 9 Z (J7 (k:=X a) (m:=1) (vz) Z0 Z Z (fq L0 (Z0.rds (i:=3) Z) (di aF.one ([(aF.q f Zk)]))) Z Y (s:=X (a++ [(aF.q f Zk)])) f7 (u0).symm ?_)
 intro cZ df ig dh
 have fI:X (a++ [(aF.q f Zk)])=X a+1:=by simp only [o2,q5,L3]
 have aa:=dh.pb [0,3]
 refine⟨.inr ⟨_,aa⟩, ?_⟩
 refine qa 10 Z Z (qn (bN (JK (JI (fw (vJ (b+1)) (JN (e:=B7.wrap ((b:Int)+1)) yk f3) (Mz Z (B8 ?_)))))))
 have dm:=aa.pk [2]
 exact JX (cZ,df,(a++ [(aF.q f Zk)]),b+1) ⟨Z,Z,Z,Z,Z,Z,ZW⟩ (n.2 ⟨dm,Y,Y,Y,N (p) (N (ZJ (λ q=>gF q a) r) (N (iN A) (N (ip F) (ae G))))⟩) (by show X d - (b+1) < X d - b; omega)
 by_cases x:c.e=3
 obtain⟨ik,aN,fJ,aO,fM⟩:=JJ z
 refine cl D2 (oH _ _ c.e aN (of_decide_eq_true (dT x))) ?_
 rintro _ il ⟨rfl,aP⟩
 have dn:=aO _ _ aP
 refine Mz Z (Kz (Zx o4k.toArray) (Kz (V Zk) ?_))
 refine cu [V J, Zj, Zj, Zj, Zj] 149 dn ?_
 intro af iq dw
 refine cO o4k 0 dw C4 ?_
 intro iw dx
 refine An Z ?_
 refine pK [] (bI.block (JP (JP (bI.block (JP J3))))) dx ?_
 intro iy dz
 refine qv 0 Z Z (qp af 3 1 Z (ql 2 Z 0 K0 Z Z Z (qt (v:= Zx (Zc (aY.J c))) 3 Z (λ _ ⟨_,Z4⟩=>JS Z (JW (cs:=(aY.J c)) C6 C5 ((Z4.cls (i:=1) Z).lit (k:=0) (m:=6) Z))) (qp af 0 5 Z (ql 6 Z 0 H4 Z Z Z ?_)))))
 obtain⟨g,Z7⟩:∃ q,jS c=q:=⟨_,Z⟩
 obtain⟨iA,aQ,fO,aR,fP⟩:=JJ dz
 refine qd 4 Z (Kh K1 Z Z (nP _ _ c g aQ Z7) ?_)
 rintro _ iB ⟨rfl,aS⟩
 have ag:=aR _ _ aS
 refine⟨.inr ⟨_,ag⟩, ?_⟩
 refine qk (Zx #[Zz ⟨Zc g.a⟩, Zz ⟨Zc g.b⟩, V Zk]) 7 Z ?_
 refine qd 8 Z (Kt (cs:= [Zz ⟨Zc g.a⟩, Zz ⟨Zc g.b⟩, V Zk]) (t:=118) (sz:=3) (m:=1) ag Z Z Za Z f6 ?_)
 intro dA iC K
 replace K:=Ke (y:=row dA 1 1 (q0 aF.J ([(aF.q g Zk)])) 118 3) Z K
 have ah:=K.pb [0,3]
 refine⟨.inr ⟨_,ah⟩, ?_⟩
 have ai:=ah.pf [3]
 refine qd 9 Z (J7 (k:=X a) (m:=1) (vz) ai Z Z (fq L0 (ai.rds (i:=3) Z) (di aF.one ([(aF.q g Zk)]))) Z Y (s:=X (a++ [(aF.q g Zk)])) f7 (u0).symm ?_)
 intro dB dC iD dD
 have fT:X (a++ [(aF.q g Zk)])=X a+1:=by simp only [o2,q5,L3]
 have aj:=dD.pb [0,3]
 refine⟨.inr ⟨_,aj⟩, ?_⟩
 refine qa 10 Z Z (qn (bN (JK (JI (fw (vJ (b+1)) (JN (e:=B7.wrap ((b:Int)+1)) yk f3) (Mz Z (B8 ?_)))))))
 have dE:=aj.pk [2]
 exact JX (dB,dC,(a++ [(aF.q g Zk)]),b+1) ⟨Z,Z,Z,Z,Z,Z,ZW⟩ (n.2 ⟨dE,Y,Y,Y,N (p) (N (ZJ (λ q=>gF q a) r) (N (iN A) (N (iN F) (N (ip x) (ae Z7)))))⟩) (by show X d - (b+1) < X d - b; omega)
 by_cases L:c.e=4
 obtain⟨iE,aT,fU,aU,fV⟩:=JJ z
 refine cl D2 (oI _ _ c.e aT (of_decide_eq_true (dT L))) ?_
 rintro _ iF ⟨rfl,aV⟩
 have dG:=aU _ _ aV
 refine Mz Z (Kz (Zx o5k.toArray) (Kz (V Zk) ?_))
 refine cu [V J, Zj, Zj, Zj, Zj] 149 dG ?_
 intro ak iG dH
 refine cO o5k 0 dH C4 ?_
 intro iH dI
 refine An Z ?_
 refine pK [] (bI.block (JP (JP (bI.block (JP J3))))) dI ?_
 intro iI dK
 refine qv 0 Z Z (qp ak 3 1 Z (ql 2 Z 0 K0 Z Z Z (qt (v:= Zx (Zc (aY.J c))) 3 Z (λ _ ⟨_,Z4⟩=>JS Z (JW (cs:=(aY.J c)) C6 C5 ((Z4.cls (i:=1) Z).lit (k:=0) (m:=6) Z))) (qp ak 0 5 Z (ql 6 Z 0 H4 Z Z Z ?_)))))
 obtain⟨h,M⟩:∃ q,fQ c=q:=⟨_,Z⟩
 obtain⟨iJ,aW,fZ,aX,gm⟩:=JJ dK
 refine qd 4 Z (Kh K2 Z Z (lS _ _ c h aW M) ?_)
 rintro _ iK ⟨rfl,aZ⟩
 have au:=aX _ _ aZ
 refine⟨.inr ⟨_,au⟩, ?_⟩
 refine qk (Zx #[Zz ⟨Zc h.a⟩, Zz ⟨Zc h.b⟩, V J]) 7 Z ?_
 refine qd 8 Z (Kt (cs:= [Zz ⟨Zc h.a⟩, Zz ⟨Zc h.b⟩, V J]) (t:=118) (sz:=3) (m:=1) au Z Z Za Z f6 ?_)
 intro dL iL Z5
 replace Z5:=Ke (y:=row dL 1 1 (q0 aF.J ([(aF.q h J)])) 118 3) Z Z5
 have av:=Z5.pb [0,3]
 refine⟨.inr ⟨_,av⟩, ?_⟩
 have ax:=av.pf [3]
 refine qd 9 Z (J7 (k:=X a) (m:=1) (vz) ax Z Z (fq L0 (ax.rds (i:=3) Z) (di aF.one ([(aF.q h J)]))) Z Y (s:=X (a++ [(aF.q h J)])) f7 (u0).symm ?_)
 intro dN dO iM dP
 have gp:X (a++ [(aF.q h J)])=X a+1:=by simp only [o2,q5,L3]
 have ay:=dP.pb [0,3]
 refine⟨.inr ⟨_,ay⟩, ?_⟩
 refine qa 10 Z Z (qn (bN (JK (JI (fw (vJ (b+1)) (JN (e:=B7.wrap ((b:Int)+1)) yk f3) (Mz Z (B8 ?_)))))))
 have dQ:=ay.pk [2]
 exact JX (dN,dO,(a++ [(aF.q h J)]),b+1) ⟨Z,Z,Z,Z,Z,Z,ZW⟩ (n.2 ⟨dQ,Y,Y,Y,N (p) (N (ZJ (λ q=>gF q a) r) (N (iN A) (N (iN F) (N (iN x) (N (ip L) (ae M))))))⟩) (by show X d - (b+1) < X d - b; omega)
 have bf:(Zy (c.e=5))=Zk:=(dT Y)
 obtain⟨iO,bg,gq,bi,gu⟩:=JJ z
 refine cl D2 (oJ _ _ c.e bg (of_decide_eq_true bf)) ?_
 rintro _ iP ⟨rfl,bn⟩
 have dR:=bi _ _ bn
 refine Mz Z (Kz (Zx o6k.toArray) (Kz (V Zk) ?_))
 refine cu [V J, Zj, Zj, Zj, Zj] 149 dR ?_
 intro az iQ dS
 refine cO o6k 0 dS C4 ?_
 intro iR dU
 refine An Z ?_
 refine pK [] (bI.block (JP (JP (bI.block (JP J3))))) dU ?_
 intro iT dV
 refine qv 0 Z Z (qp az 3 1 Z (ql 2 Z 0 K0 Z Z Z (qt (v:= Zx (Zc (aY.J c))) 3 Z (λ _ ⟨_,Z4⟩=>JS Z (JW (cs:=(aY.J c)) C6 C5 ((Z4.cls (i:=1) Z).lit (k:=0) (m:=6) Z))) (qp az 0 5 Z (ql 6 Z 0 H4 Z Z Z ?_)))))
 obtain⟨j,Z6⟩:∃ q,fQ c=q:=⟨_,Z⟩
 obtain⟨iU,bq,gy,bu,gz⟩:=JJ dV
 refine qd 4 Z (Kh K2 Z Z (lS _ _ c j bq Z6) ?_)
 rintro _ iV ⟨rfl,bv⟩
 have aA:=bu _ _ bv
 refine⟨.inr ⟨_,aA⟩, ?_⟩
 refine qk (Zx #[Zz ⟨Zc j.a⟩, Zz ⟨Zc j.b⟩, V Zk]) 7 Z ?_
 refine qd 8 Z (Kt (cs:= [Zz ⟨Zc j.a⟩, Zz ⟨Zc j.b⟩, V Zk]) (t:=118) (sz:=3) (m:=1) aA Z Z Za Z f6 ?_)
 intro dW iW P
 replace P:=Ke (y:=row dW 1 1 (q0 aF.J ([(aF.q j Zk)])) 118 3) Z P
 have aB:=P.pb [0,3]
 refine⟨.inr ⟨_,aB⟩, ?_⟩
 have aC:=aB.pf [3]
 refine qd 9 Z (J7 (k:=X a) (m:=1) (vz) aC Z Z (fq L0 (aC.rds (i:=3) Z) (di aF.one ([(aF.q j Zk)]))) Z Y (s:=X (a++ [(aF.q j Zk)])) f7 (u0).symm ?_)
 intro dX dY iX dZ
 have gB:X (a++ [(aF.q j Zk)])=X a+1:=by simp only [o2,q5,L3]
 have aD:=dZ.pb [0,3]
 refine⟨.inr ⟨_,aD⟩, ?_⟩
 refine qa 10 Z Z (qn (bN (JK (JI (fw (vJ (b+1)) (JN (e:=B7.wrap ((b:Int)+1)) yk f3) (Mz Z (B8 ?_)))))))
 have d9:=aD.pk [2]
 exact JX (dX,dY,(a++ [(aF.q j Zk)]),b+1) ⟨Z,Z,Z,Z,Z,Z,ZW⟩ (n.2 ⟨d9,Y,Y,Y,N (p) (N (ZJ (λ q=>gF q a) r) (N (iN A) (N (iN F) (N (iN x) (N (iN L) (ae Z6))))))⟩) (by show X d - (b+1) < X d - b; omega)
 refine jF (dF bH) (B9 (JV ?_))
 have bz:gF d []=a:=N (p) (N (ZJ (λ q=>gF q a) (eH (ls:=d) (i:=b) Y)) Z)
 refine JV (J2 (JK (sr (Mz Z (Az Z (An Z (rt (JY (kS Z Z Z) ?_))))))))
 have ed:=C.pf []
 obtain⟨rfl,rfl⟩:=fK (zj hr zq3)
 exact⟨S,Z8,Z,ed⟩
 refine jT (dT R) (sr (Mz Z (Az Z (An Z (rt (tR (JY (kS Z Z Z) ?_)))))))
 have ek:Own w D bD [row Zv 0 0 (q0 aF.J []) 118 3]:=bF.free (cK 118 3)
 have eu:=ek.pf []
 obtain⟨rfl,rfl⟩:=fK (zj hr zq2)
 exact⟨Zv,0,Z,eu⟩
def fJ (g:List ay):List ay->Nat->Unit ⊕ Int
  | [],a=>Sum.inl ()
  | d::e,a=>bnd (dW d.f) λ b=>if b=0 then bnd (lI d.g) λ c=>if c=0 then if((a:Nat):Int) > 0 then bnd (y4 g (a - 1) ZZ) λ f=>if d.f<=f.f then Sum.inr (1) else fJ g e (a+1) else fJ g e (a+1) else Sum.inr (c) else Sum.inr (b)
def cB (a:List ay):Int:=
 lp (fJ a a 0) λ _=>0
theorem Al (w D o Z4 G d r0) (H:Own w D w []) (s:Ro w D λ w'=>bP w' 2 o Z4 (q0 ay.J d)) (Z3:Z4=X d) (aA:X d *32<=211106232532992) (hr:cB d=r0):
    Calls v1 215 #[W o Z4 G] w (dM λ v w'=>v=vI r0/\Own w D w' []):=by
 subst Z3
 refine cb Tryz.func215 ?_
 refine sr (An Z (JG (sr (Mz Z (Kz (vJ (X d)) (Mn Z (bo ?_)))))))
 have Z9:=H.pk []
 obtain⟨Z1,n⟩:=mE λ (a:Nat) w'=>Own w D w' []/\a<=X d/\fJ d d 0=fJ d (r6 a d) a
 refine Wp.loop (λ i:Nat=> [(2,vI 0),(9,vJ i),(8,vJ (X d)),(7, W o (X d) G),(0, W o (X d) G)]) Z1 (λ i=>X d - i) 0 ⟨Z,Z,Z,Z,Z,ZW⟩ (n.2 ⟨Z9,Y,Z⟩) ?_
 rintro a aB I
 show Wp _ _ _ [(2,vI 0),(9,vJ a),(8,vJ (X d)),(7, W o (X d) G),(0, W o (X d) G)] _ _
 obtain⟨t,ak,f⟩:=n.1 I
 refine sr (Kz (Zb ((a:Int) < (X d:Int))) (nt (JG ?_)))
 by_cases Z7:(a:Int) < (X d:Int)
 obtain⟨c,z⟩:=dJ (ls:=d) (i:=a) ay.len f6 (t.ro s) f4
 have h:=drop_at z
 refine jT (dT Z7) (sk (JG (bo (sr (Mz Z (fw (Zq (Zw ⟨ab o,ao o+a *2,Zv⟩)) (JU (iW) Z Z ((t.ro s).addr (i:=a) Y) Y) (fw (Zx (Zc (ay.J c))) (JS Z (JW (cs:=(ay.J c)) Tryz.isAgg101 Tryz.sizeOf101 ((t.ro s).elem ay.len z f6))) ?_)))))))
 refine cu [Zz ⟨Zc []⟩, Zz ⟨Zc []⟩] 101 t ?_
 intro C aC Z2
 refine Az Z ?_
 refine cO (ay.J c) 0 Z2 Tryz.sizeOf101 ?_
 intro aD K
 refine nt (JG (sr (Kz (vP C 0) (Lz (Zz ⟨Zc c.f⟩) K 0 B3 ?_))))
 obtain⟨l,g⟩:∃ q,dW c.f=q:=⟨_,Z⟩
 obtain⟨aF,L,au,M,av⟩:=JJ K
 refine cl Tryz.call62 (jR _ _ c.f l L g) ?_
 rintro _ aG ⟨rfl,Z5,A,B⟩
 have E:=M _ _ Z5
 replace A: ¬ (l=0)\/(1<=X c.f/\X c.f<=12):=A
 replace B:X c.f < 1\/X c.f > 12\/l=0:=B
 refine Ar Z (Mz Z (fw (Zb (¬ (l=0))) (JZ (e:= !(Zy (l=0))) yk ZY) (nt ?_)))
 by_cases m:l=0
 refine jF (dF (Nc m)) (sk (JG (sr (Kz (vP C 1) (Lz (Zz ⟨Zc c.g⟩) E 0 B3 ?_)))))
 obtain⟨u,j⟩:∃ q,lI c.g=q:=⟨_,Z⟩
 obtain⟨aH,Z6,ax,P,az⟩:=JJ E
 refine cl Tryz.call161 (uF _ _ c.g u Z6 j) ?_
 rintro _ aI ⟨rfl,Q⟩
 have R:=P _ _ Q
 refine Ar Z (Mz Z (fw (Zb (¬ (u=0))) (JZ (e:= !(Zy (u=0))) yk ZY) (nt ?_)))
 by_cases p:u=0
 refine jF (dF (Nc p)) (sk (JG ?_))
 refine Dh [] (JP (bI.block (JP (JP (bI.block (JP J3)))))) R ?_
 intro aJ F
 refine qv 0 Z Z (qk (Zb ((a:Int) > 0)) 1 Z (qv 2 Z Z ?_))
 by_cases b:(a:Int) > 0
 refine JQ (v:=vP C 0) (rs:= []) 3 Z Z Z (dT b) f1 (λ _ _=>yk) (JQ (v:= Zz ⟨Zc c.f⟩) (rs:= []) 4 Z Z Z (dT b) f1 (λ _ ⟨_,S⟩=>JS Z (bT.one B3 (Kk (S.cls (i:=0) Z) Z))) (JQ (v:= W o (X d) G) (rs:= []) 5 Z Z Z (dT b) f1 (λ _ _=>JM Z) (JQ (v:=vJ a) (rs:= []) 6 Z Z Z (dT b) f1 (λ _ _=>JM Z) (JQ (v:=vJ (a - 1)) (rs:= []) 7 Z Z Z (dT b) f1 (λ _ _=>JN (e:=B7.wrap ((a:Int) - 1)) yk f3) ?_))))
 obtain⟨r,x⟩:=mI (ls:=d) (i:=a - 1) f4
 refine JQ (v:= Zq (Zw ⟨ab o,ao o+(a - 1) *2,Zv⟩)) (rs:= []) 8 Z Z Z (dT b) f1 (λ _ ⟨_,S⟩=>JU (iW) Z Z ((S.ro s).addr (i:=a - 1) Y) Y) (JQ (v:= Zq (Zw ⟨ab o,ao o+(a - 1) *2,Zv⟩)) (rs:= []) 9 Z Z Z (dT b) f1 (λ _ _=>yk) (JQ (v:= Zz ⟨Zc r.f⟩) (rs:= []) 10 Z Z Z (dT b) f1 (λ _ ⟨_,S⟩=>JS Z (bT.one B3 (((S.ro s).elem ay.len x f6).at_ (k:=0) Z))) (JQ (v:= Zb (c.f<=r.f)) (rs:= []) 11 Z Z Z (dT b) f1 (λ _ _=>JZ (e:=Op.bytesLess c.f r.f || decide (c.f=r.f)) (K9 Z Z) (Bl _ _)) (qt (v:= Zb (c.f<=r.f)) 12 Z (λ _ _=>JL Z (dT b) Z) (qn (JK ?_))))))
 by_cases y:c.f<=r.f
 refine jT (dT y) (sr (An Z (rt (bR (tR (tR (bR (tR (rs ?_)))))))))
 have Z0:=F.pk []
 obtain rfl:_=1:=zj hr (iJ (N (f) (N (ZJ (λ q=>fJ d q a) h) (N (ae g) (N (ip m) (N (ae j) (N (ip p) (N (ip b) (N (ae (bu x)) (ip y))))))))))
 exact⟨Z,Z0⟩
 refine jF (dF y) (J8 (bN (JK (JI (fw (vJ (a+1)) (JN (e:=B7.wrap ((a:Int)+1)) yk f3) (Mz Z (B8 ?_)))))))
 have aa:=F.pk []
 exact JX (a+1) ⟨Z,Z,Z,Z,Z,ZW⟩ (n.2 ⟨aa,Y,N (f) (N (ZJ (λ q=>fJ d q a) h) (N (ae g) (N (ip m) (N (ae j) (N (ip p) (N (ip b) (N (ae (bu x)) (iN y))))))))⟩) (by show X d - (a+1) < X d - a; omega)
 refine JO (rs:= []) 3 Z Z Z (dF b) f1 (JO (rs:= []) 4 Z Z Z (dF b) f1 (JO (rs:= []) 5 Z Z Z (dF b) f1 (JO (rs:= []) 6 Z Z Z (dF b) f1 (JO (rs:= []) 7 Z Z Z (dF b) f1 (JO (rs:= []) 8 Z Z Z (dF b) f1 (JO (rs:= []) 9 Z Z Z (dF b) f1 (JO (rs:= []) 10 Z Z Z (dF b) f1 (JO (rs:= []) 11 Z Z Z (dF b) f1 (qt (v:= V J) 12 Z (λ _ _=>JH Z (dF b) Z) (qn (JK (jf (J8 (bN (JK (JI (fw (vJ (a+1)) (JN (e:=B7.wrap ((a:Int)+1)) yk f3) (Mz Z (B8 ?_)))))))))))))))))))
 have af:=F.pk []
 exact JX (a+1) ⟨Z,Z,Z,Z,Z,ZW⟩ (n.2 ⟨af,Y,N (f) (N (ZJ (λ q=>fJ d q a) h) (N (ae g) (N (ip m) (N (ae j) (N (ip p) (iN b))))))⟩) (by show X d - (a+1) < X d - a; omega)
 refine jT (dT p) (sr (Mz Z (An Z (rt (tR (bR (tR (tR (bR (tR (rs ?_)))))))))))
 have ag:=R.pk []
 obtain rfl:_=u:=zj hr (iJ (N (f) (N (ZJ (λ q=>fJ d q a) h) (N (ae g) (N (ip m) (N (ae j) (iN p)))))))
 exact⟨Z,ag⟩
 refine jT (dT m) (sr (Mz Z (An Z (rt (tR (bR (tR (tR (bR (tR (rs ?_)))))))))))
 have ah:=E.pk []
 obtain rfl:_=l:=zj hr (iJ (N (f) (N (ZJ (λ q=>fJ d q a) h) (N (ae g) (iN m)))))
 exact⟨Z,ah⟩
 refine jF (dF Z7) (B9 (JV ?_))
 have Z8:fJ d d 0=Sum.inl ():=N (f) (N (ZJ (λ q=>fJ d q a) (eH (ls:=d) (i:=a) Y)) Z)
 refine JV (J2 (JK (sr (An Z (rt (rs ?_))))))
 have ai:=t.pk []
 obtain rfl:_=0:=zj hr (lD Z8)
 exact⟨Z,ai⟩
end
open List renaming length_drop->o1,length_set->N1,length_take->o0,mem_of_mem_take->M2,set->N0
open _root_.Go.Proofs.Tryz renaming call160->L5,isAgg70->M1,sizeOf101->L4,sizeOf70->L7
section
open Go.RowKit
def lT (a:List UInt8) (b:List UInt8):Int:=
 Lib.compareBytes a b
theorem qQ (w D a b d) (H:Own w D w []) (hr:lT a b=d):
    Calls v1 223 #[Zz ⟨Zc a⟩, Zz ⟨Zc b⟩] w (dM λ v w'=>v=vI d/\Own w D w' []):=by
 refine cb Tryz.func223 ?_
 refine sr (Ar Z (Mz Z (Mz Z (fw (vI (Lib.compareBytes a b)) (Mg (run_callFunc_extern Tryz.func233 f1 f1 f1 (e:=Extern.BytealgCompare.compare) f1) Z) (An Z (rt (rs ?_)))))))
 have c:=H.pk []
 obtain rfl:_=Lib.compareBytes a b:=zj hr Z
 exact⟨Z,c⟩
def strings_Compare (b:List UInt8) (c:List UInt8):Int:=
 bnd (lT b c) λ a=>a
theorem xJ (w D f g j) (H:Own w D w []) (hr:strings_Compare f g=j):
    Calls v1 201 #[Zz ⟨Zc f⟩, Zz ⟨Zc g⟩] w (dM λ v w'=>v=vI j/\Own w D w' []):=by
 unfold strings_Compare at hr
 refine cb Tryz.func201 ?_
 refine sr (Ar Z (Mz Z (Mz Z ?_)))
 obtain⟨b,a⟩:∃ q,lT f g=q:=⟨_,Z⟩
 obtain⟨m,c,k,d,l⟩:=JJ H
 refine cl Tryz.call223 (qQ _ _ f g b c a) ?_
 rintro _ n ⟨rfl,e⟩
 have h:=d _ _ e
 refine An Z (rt (rs ?_))
 have i:=h.pk []
 obtain rfl:=zj hr zq1
 exact⟨Z,i⟩
def oW (b:ay) (c:List UInt8):Int:=
 bnd (strings_Compare b.f c) λ a=>a
theorem xK (w D) (b:ay) (h l) (H:Own w D w []) (hr:oW b h=l):
    Calls v1 200 #[Zx (Zc (ay.J b)), Zz ⟨Zc h⟩] w (dM λ v w'=>v=vI l/\Own w D w' []):=by
 unfold oW at hr
 refine cb Tryz.func200 ?_
 refine sr ?_
 refine cu (ay.J b) 101 H ?_
 intro i o c
 refine Ar Z (Kz (vP i 0) (Lz (Zz ⟨Zc b.f⟩) c 0 B3 (Mz Z ?_)))
 obtain⟨d,a⟩:∃ q,strings_Compare b.f h=q:=⟨_,Z⟩
 obtain⟨p,e,m,f,n⟩:=JJ c
 refine cl Tryz.call201 (xJ _ _ b.f h d e a) ?_
 rintro _ r ⟨rfl,g⟩
 have j:=f _ _ g
 refine An Z (rt (rs ?_))
 have k:=j.pk []
 obtain rfl:=zj hr zq1
 exact⟨Z,k⟩
def d9 (f:List ay) (g:List UInt8):Nat->Nat->Nat->Nat
  | 0,a,b=>ZZ
  | c+1,a,b=>if((a:Nat):Int) < ((b:Nat):Int) then bnd (y4 f ((a+b) / 2) ZZ) λ d=>bnd (oW d g) λ e=>if e < 0 then d9 f g c (((a+b) / 2)+1) b else d9 f g c a ((a+b) / 2) else a
def gY (a:List ay) (d:List UInt8):Int × Bool:=
 bnd (d9 a d ((X a - 0)+1) 0 (X a)) λ sLrL=>if((sLrL:Nat):Int) < ((X a:Nat):Int) then bnd (y4 a sLrL ZZ) λ b=>bnd (oW b d) λ c=>(((sLrL:Nat):Int),Zy (c=0)) else(((sLrL:Nat):Int),J)
theorem mY (w D r P Z6 d k C Q) (H:Own w D w []) (h:Ro w D λ w'=>bP w' 2 r P (q0 ay.J d)) (R:P=X d) (ak:X d *32<=211106232532992) (hr:gY d k=(C,Q)):
    Calls v1 199 #[W r P Z6, Zz ⟨Zc k⟩, .func (.func 200) #[] #[]] w (dM λ v w'=>v= .tuple #[vI C, V Q]/\Own w D w' []/\(0<=C/\C<=((X d:Nat):Int))/\(Bool.toNat Q=0\/C < ((X d:Nat):Int))):=by
 unfold gY at hr
 subst R
 refine cb Tryz.func199 ?_
 refine sr (Az Z (Ar Z (Mz Z (Kz (vJ (X d)) (Ar Z (Mz Z (Az Z (An Z (JG (bo ?_))))))))))
 have S:=H.pk []
 obtain⟨Z8,g⟩:=zw λ (a:Nat) (b:Nat) (l:Nat) w'=>Own w D w' []/\a<=b/\b<=X d/\b - a < l/\d9 d k ((X d - 0)+1) 0 (X d)=d9 d k l a b
 refine Wp.loop (λ i:Nat × Nat × Nat=> [(9,vJ i.1),(10,vJ i.2.1),(8,vJ (X d)),(7, V J),(6,vI 0),(0, W r (X d) Z6),(1, Zz ⟨Zc k⟩),(2, .func (.func 200) #[] #[])]) Z8 (λ i=>i.2.2) (0,X d,(X d - 0)+1) ⟨Z,Z,Z,Z,Z,Z,Z,Z,ZW⟩ (g.2 ⟨S,Y,Y,Y,Z⟩) ?_
 rintro ⟨a,b,l⟩ au E
 show Wp _ _ _ [(9,vJ a),(10,vJ b),(8,vJ (X d)),(7, V J),(6,vI 0),(0, W r (X d) Z6),(1, Zz ⟨Zc k⟩),(2, .func (.func 200) #[] #[])] _ _
 obtain⟨f,Z0,aa,af,m⟩:=g.1 E
 obtain⟨j,F⟩:∃ q,l=q+1:=⟨l - 1,Y⟩
 subst F
 refine JG (sr (Mz Z (Mz Z (Kz (Zb ((a:Int) < (b:Int))) (nt ?_)))))
 by_cases n:(a:Int) < (b:Int)
 refine jT (dT n) (sk (bo (sr (Mz Z (Mz Z (fw (vJ (a+b)) (JN (e:=B7.wrap ((a:Int)+(b:Int))) yk f3) (fw (vU (a+b)) (JN (e:=IntKind.u64.wrap ((a+b:Nat):Int)) yk (IntWalk.u64_in _ Y)) (fw (vU ((a+b) / 2)) (JN (e:=Int.fdiv ((a+b:Nat):Int) 2) yk (vH _ 1 _ f6)) (fw (vJ ((a+b) / 2)) (JN (e:=B7.wrap (((a+b) / 2:Nat):Int)) yk (Na _ Y)) (Ar Z (Mz Z (Mz Z (Mz Z ?_)))))))))))))
 obtain⟨s,o⟩:=dJ (ls:=d) (i:=(a+b) / 2) ay.len f6 (f.ro h) f4
 refine fw (Zq (Zw ⟨ab r,ao r+((a+b) / 2) *2,Zv⟩)) (JU (iW) Z Z ((f.ro h).addr (i:=(a+b) / 2) Y) Y) (fw (Zx (Zc (ay.J s))) (JS Z (JW (cs:=(ay.J s)) Tryz.isAgg101 L4 ((f.ro h).elem ay.len o f6))) (Mz Z ?_))
 obtain⟨B,p⟩:∃ q,oW s k=q:=⟨_,Z⟩
 obtain⟨av,G,ag,I,ah⟩:=JJ f
 refine WL.do Z (Kh Tryz.call200 Z Z (xK _ _ s k B G p) ?_)
 rintro _ ax ⟨rfl,Z7⟩
 have K:=I _ _ Z7
 refine Kz (Zb (B < 0)) (nt ?_)
 by_cases t:B < 0
 refine jT (dT t) (JI (Mz Z (fw (vI ((((a+b) / 2)+1:Nat):Int)) (JN (e:=B7.wrap ((((a+b) / 2:Nat):Int)+1)) yk f3) (Az Z (WL.nil (bN ?_))))))
 have Z4:=K.pk []
 exact JX (((a+b) / 2)+1,b,j) ⟨Z,Z,Z,Z,Z,Z,Z,Z,ZW⟩ (g.2 ⟨Z4,Y,Y,Y,N (m) (N (ip n) (N (ae (bu o)) (N (ae p) (ip t))))⟩) (by show j < j+1; omega)
 refine jF (dF t) (JI (Mz Z (Az Z (WL.nil (bN ?_)))))
 have Z3:=K.pk []
 exact JX (a,(a+b) / 2,j) ⟨Z,Z,Z,Z,Z,Z,Z,Z,ZW⟩ (g.2 ⟨Z3,Y,Y,Y,N (m) (N (ip n) (N (ae (bu o)) (N (ae p) (iN t))))⟩) (by show j < j+1; omega)
 refine jF (dF n) (Wp.exit (JV ?_))
 have y:d9 d k ((X d - 0)+1) 0 (X d)=a:=N (m) (iN n)
 refine JV (J2 (JK (sr (Mz Z (Mz Z (Mz Z (Kz (Zb ((a:Int) < (X d:Int))) (Mz Z ?_))))))))
 by_cases c:(a:Int) < (X d:Int)
 refine gw (.func (.func 200) #[] #[]) (dT c) (JM Z) (gw (W r (X d) Z6) (dT c) (JM Z) (gw (vJ a) (dT c) (JM Z) ?_))
 obtain⟨u,z⟩:=dJ (ls:=d) (i:=a) ay.len f6 (f.ro h) f4
 refine gw (Zq (Zw ⟨ab r,ao r+a *2,Zv⟩)) (dT c) (JU (iW) Z Z ((f.ro h).addr (i:=a) Y) Y) (gw (Zx (Zc (ay.J u))) (dT c) (JS Z (JW (cs:=(ay.J u)) Tryz.isAgg101 L4 ((f.ro h).elem ay.len z f6))) (gw (Zz ⟨Zc k⟩) (dT c) (JM Z) ?_))
 obtain⟨x,A⟩:∃ q,oW u k=q:=⟨_,Z⟩
 obtain⟨az,L,ai,M,aj⟩:=JJ f
 refine KF Z Z (dT c) Z (Kh Tryz.call200 Z Z (xK _ _ u k x L A) ?_)
 rintro _ aA ⟨rfl,Z5⟩
 have Z9:=M _ _ Z5
 refine Gz (Zb (x=0)) (dT c) (fw (Zb (x=0)) (JL Z (dT c) Z) (Az Z (An Z (rt (JY (kS Z Z Z) ?_)))))
 have Z1:=Z9.pk []
 obtain⟨rfl,rfl⟩:=fK (zj hr zq4)
 exact⟨Z,Z1,Y,i5⟩
 refine T (dF c) (T (dF c) (T (dF c) (T (dF c) (T (dF c) (T (dF c) (T (dF c) (T (dF c) (fw (V J) (JH Z (dF c) Z) (Az Z (An Z (rt (JY (kS Z Z Z) ?_))))))))))))
 have Z2:=f.pk []
 obtain⟨rfl,rfl⟩:=fK (zj hr zq2)
 exact⟨Z,Z2,Y,i5⟩
def iA (b:List ay) (c:List UInt8):Int × Bool:=
 bnd (gY b c) λ a=>(a.1,a.2)
theorem rX (w D m n u b l g o) (H:Own w D w []) (p:Ro w D λ w'=>bP w' 2 m n (q0 ay.J b)) (r:n=X b) (y:X b *32<=211106232532992) (hr:iA b l=(g,o)):
    Calls v1 160 #[W m n u, Zz ⟨Zc l⟩] w (dM λ v w'=>v= .tuple #[vI g, V o]/\Own w D w' []/\(0<=g/\g<=((X b:Nat):Int))/\(Bool.toNat o=0\/g < ((X b:Nat):Int))):=by
 unfold iA at hr
 subst r
 refine cb Tryz.func160 ?_
 refine sr (Az Z (Ar Z (Mz Z (Mz Z ?_))))
 obtain⟨⟨a,c⟩,d⟩:∃ q:Int × Bool,gY b l=q:=⟨_,Z⟩
 obtain⟨z,h,i,j,x⟩:=JJ H
 refine cl Tryz.call199 (mY _ _ m (X b) u b l a c h (i _ p) Z Y d) ?_
 rintro _ A ⟨rfl,k,e,f⟩
 have s:=j _ _ k
 replace e:0<=a/\a<=(X b:Int):=e
 replace f:Bool.toNat c=0\/a < (X b:Int):=f
 refine Kz (vI a) (Kz (V c) (Az Z (An Z (rt (JY (kS Z Z Z) ?_)))))
 have t:=s.pk []
 obtain⟨rfl,rfl⟩:=fK (zj hr zq1)
 exact⟨Z,t,Y,i5⟩
def qR (c:List ay) (d:aY):(List ay) × bZ:=
 bnd (iA c d.f) λ a=>if a.2=Zk then bnd (y4 c (U a.1) ZZ) λ b=>(c,bZ.q Zk b.g (O [])) else(c,bZ.q J [] (O []))
theorem ED (w D g Z7 j b) (u:aY) (y) (x:bZ) (H:Own w D w [row g Z7 j (q0 ay.J b) 101 2]) (K:Z7=X b) (ag:X b *32<=211106232532992) (ah:(X b+1) *32<=211106232532992) (hr:qR b u=(y,x)):
    Calls v1 102 #[W g Z7 j, Zx (Zc (aY.J u))] w (dM λ v w'=> ∃ Z0 b0 l n,v= .tuple #[W Z0 (X y) b0, Zx #[V x.b, Zz ⟨Zc x.g⟩, W l (X x.a.a) n]]/\Own w D w' [row Z0 (X y) b0 (q0 ay.J y) 101 2,row l (X x.a.a) n (q0 ay.J x.a.a) 101 2]/\(X y<=X b+1)):=by
 unfold qR at hr
 subst K
 have ai:=H.rowC (i:=0) Z
 refine cb Tryz.func102 ?_
 refine sr ?_
 refine cu (aY.J u) 68 H ?_
 intro L aj M
 refine Az Z ?_
 refine cu [V J, Zz ⟨Zc []⟩, W Zv 0 0] 70 M ?_
 intro z ak A
 refine ns (Mz Z (Kz (vP L 1) (Lz (Zz ⟨Zc u.f⟩) A 1 B3 ?_)))
 obtain⟨⟨a,c⟩,h⟩:∃ q:Int × Bool,iA b u.f=q:=⟨_,Z⟩
 obtain⟨au,B,af,C,E⟩:=JJ A
 refine cl L5 (rX _ _ g (X b) j b u.f a c B (E _ 2 _ Z bQ) Z Y h) ?_
 rintro _ av ⟨rfl,F,p,r⟩
 have Z5:=C _ _ F
 replace p:0<=a/\a<=(X b:Int):=p
 replace r:Bool.toNat c=0\/a < (X b:Int):=r
 refine Mz Z (Kz (vI a) (Kz (V c) (Az Z (An Z (JG (JG ?_))))))
 have G:=Z5.pk [0,2]
 refine JI (Mz Z (Kz (V (!c)) (nt ?_)))
 rcases Nf (c) with d | d
 have h41t:Bool.toNat c=1:=by rw [d]; rfl
 refine jF (cn d) (sk (JG ?_))
 have Z6:=G.pb [0]
 refine Dh [] (JP J3) Z6 ?_
 intro ax P
 refine qv 0 Z Z (qv 1 Z Z (qt (v:=vJ (U a)) 2 Z (λ _ _=>JN (e:=a) (JM Z) Y) ?_))
 obtain⟨f,s⟩:=mI (ls:=b) (i:=U a) f4
 refine qt (v:= Zq (Zw ⟨ab g,ao g+(U a) *2,Zv⟩)) 3 Z (λ _ ⟨_,Q⟩=>JU (iW) Z Z ((Q.rds (i:=0) Z).addr (i:=U a) Y) Y) (qk (Zq (Zw ⟨ab g,ao g+(U a) *2+1,Zv⟩)) 4 Z (qt (v:= Zz ⟨Zc f.g⟩) 5 Z (λ _ ⟨_,Q⟩=>JS Z (bT.one B3 (((Q.rds (i:=0) Z).elem ay.len s f6).at_ (k:=1) Z))) (qk (Zx #[V Zk, Zz ⟨Zc f.g⟩, W Zv 0 0]) 6 Z (qa 7 Z Z ?_))))
 have R:=P.pb [0]
 refine qe 8 Z (Do.store (vs:= [V Zk, Zz ⟨Zc f.g⟩, W Zv 0 0]) (o:=0) R Z Z L7 Z Z Z Z ?_)
 intro S Z8
 have t:=Z8.pb [0]
 refine⟨.inr ⟨_,t⟩, ?_⟩
 refine qn (JK (rt (JY (gH (vs:= [W g (X b) j, Zx #[V Zk, Zz ⟨Zc f.g⟩, W Zv 0 0]]) Z (bW.tmp Z (bW.cell Z (JW (cs:= [V Zk, Zz ⟨Zc f.g⟩, W Zv 0 0]) M1 L7 ((t.cls (i:=1) Z).lit (k:=0) (m:=3) Z)) bW.nil)) (M9 Z)) ?_)))
 have Z4:Own w D S [row Zv 0 0 (q0 ay.J []) 101 2,row g (X b) j (q0 ay.J b) 101 2,blk z [V Zk, Zz ⟨Zc f.g⟩, W Zv 0 0] 70]:=t.free (cK 101 2)
 have Z3:=Z4.pk [1,0]
 obtain⟨rfl,rfl⟩:=fK (zj hr zq3)
 exact⟨g,j,Zv,0,Z,Z3,Y⟩
 have h41t:Bool.toNat c=0:=by rw [d]; rfl
 refine jT (cn d) (sr (Mz Z (Kz (Zx #[V J, Zz ⟨Zc []⟩, W Zv 0 0]) (Az Z ?_))))
 refine cO [V J, Zz ⟨Zc []⟩, W Zv 0 0] 0 G L7 ?_
 intro Z9 I
 refine nt (rt (tR (JY (gH (vs:= [W g (X b) j, Zx #[V J, Zz ⟨Zc []⟩, W Zv 0 0]]) Z (bW.tmp Z (bW.cell Z (JW (cs:= [V J, Zz ⟨Zc []⟩, W Zv 0 0]) M1 L7 ((I.cls (i:=0) Z).lit (k:=0) (m:=3) Z)) bW.nil)) (M9 Z)) ?_)))
 have Z1:Own w D Z9 [row Zv 0 0 (q0 ay.J []) 101 2,blk z [V J, Zz ⟨Zc []⟩, W Zv 0 0] 70,row g (X b) j (q0 ay.J b) 101 2]:=I.free (cK 101 2)
 have Z2:=Z1.pk [2,0]
 obtain⟨rfl,rfl⟩:=fK (zj hr zq2)
 exact⟨g,j,Zv,0,Z,Z2,Y⟩
def iG (a:List ay) (b:Int) (c:ay):(List ay):=
 if((U b:Nat):Int)=((X a:Nat):Int) then(a++ [c]) else(t8 (U b) a++(c::r6 (U b) a))
theorem qG (w D f E d b a C) (c:ay) (y) (H:Own w D w [row f E d (q0 ay.J b) 101 2,ma C 1 (q0 ay.J ([c])) 101 2]) (F:E=X b) (ag:X b *32<=211106232532992) (ah:0<=a/\a<=((X b:Nat):Int)/\(X b+1) *32<=211106232532992) (hr:iG b a c=y):
    Calls v1 162 #[W f E d,vI a, W C 1 1] w (dM λ v w'=> ∃ Z1 Z2,v= W Z1 (X y) Z2/\Own w D w' [row Z1 (X y) Z2 (q0 ay.J y) 101 2]/\(X y=X b+1)):=by
 unfold iG at hr
 subst F
 have ai:=H.rowC (i:=0) Z
 refine cb Tryz.func162 ?_
 refine sr (Ar Z (Mz Z (fw (vJ (U a)) (JN (e:=a) (JM Z) Y) (fw (W (eU f (U a) 2 d) (X b - (U a)) (d - (U a))) (Ka (iW) Z Z Y) (ns (Mz Z (Kz (vI 1) (An Z (JG (sr (Mz Z (Kz (V J) (nt (jf (sk (sr (Mz Z (Kz (vJ (X b)) (An Z (JG (sr (fw (vJ (U a)) (JN (e:=a) (JM Z) Y) ?_))))))))))))))))))))))
 refine Mz Z (Kz (Zb (((U a:Nat):Int)=(X b:Int))) (nt ?_))
 by_cases h:((U a:Nat):Int)=(X b:Int)
 refine jT (dT h) (sr (Mz Z (Mz Z ?_)))
 refine WL.do Z (J7 (k:=X b) (m:=1) (iW) H Z Z (fq H0 (dH H (i:=1) Z lJ) (di ay.one ([c]))) Z Y (s:=X (b++ [c])) f7 (List.flatMap_append).symm ?_)
 intro G I aj Z7
 have Z0:X (b++ [c])=X b+1:=by simp only [o2,q5,L3]
 refine An Z (rt (tR (rs ?_)))
 have K:=Z7.pk [0]
 obtain rfl:=zj hr zq1
 exact⟨G,I,Z,K,Y⟩
 refine jF (dF h) (sk (JG (sr (Mz Z (Mz Z (fw (vJ (X b+1)) (JN (e:=B7.wrap ((X b:Int)+1)) yk f3) (Mz Z (Kz (vJ d) (Kz (Zb (((X b+1:Nat):Int) > (d:Int))) (nt ?_))))))))))
 by_cases z:((X b+1:Nat):Int) > (d:Int)
 refine jT (dT z) (sr (Mz Z (fw (vJ (U a)) (JN (e:=a) (JM Z) Y) (fw (W f (U a) d) (Ku (iW) Z Z Y) (Mz Z (Mz Z (fw (vJ (X b+1)) (JN (e:=B7.wrap ((X b:Int)+1)) yk f3) (fw (vJ (U a)) (JN (e:=a) (JM Z) Y) (fw (vJ ((X b+1) - (U a))) (JN (e:=B7.wrap (((X b+1:Nat):Int) - ((U a:Nat):Int))) yk f3) ?_)))))))))
 have aa:X (t8 (U a) b++(c::r6 (U a) b))=X b+1:=by simp only [o2,o0,q5,o1]; omega
 refine WL.do Z (KJ (k:=U a) (m:=(X b+1) - (U a)) (iW) Tryz.underlying3 H Z Z Y Y Y Z Y (s:=X (t8 (U a) b++(c::r6 (U a) b))) Y ?_)
 intro j g ae ak A n
 have L:=n.rowLe (i:=0) Z
 refine Ar Z (Mz Z (fw (vJ (U a)) (JN (e:=a) (JM Z) Y) (fw (W (eU j (U a) 2 g) ((X (t8 (U a) b++(c::r6 (U a) b))) - (U a)) (g - (U a))) (Ka (iW) Z Z Y) (Mz Z ?_))))
 refine WL.do Z (Kq (lo:=U a) (k:=1) (iW) n Z (λ _=>gI ((n.rds (i:=0) Z).isSome Y) Y) Y Z (dH n (i:=2) Z lJ) Y (λ u hu=>di ay.one _ u (M2 hu)) Z ?_)
 intro au M
 refine nt (JG ?_)
 refine zx [8] (JP (JP J3)) M ?_
 intro av o
 refine qv 0 Z Z (qt (v:=vJ (U a)) 1 Z (λ _ _=>JN (e:=a) (JM Z) Y) (qv 2 Z Z (qt (v:=vJ (U a+1)) 3 Z (λ _ _=>JN (e:=B7.wrap (((U a:Nat):Int)+1)) yk f3) (qt (v:= W (eU j (U a+1) 2 g) ((X (t8 (U a) b++(c::r6 (U a) b))) - (U a+1)) (g - (U a+1))) 4 Z (λ _ _=>Ka (iW) Z Z Y) (qv 5 Z Z (qt (v:=vJ (U a)) 6 Z (λ _ _=>JN (e:=a) (JM Z) Y) (qt (v:= W (eU f (U a) 2 d) (X b - (U a)) (d - (U a))) 7 Z (λ _ _=>Ka (iW) Z Z Y) ?_)))))))
 refine qd 8 Z (Kq (lo:=U a+1) (k:=X b - U a) (iW) o Z (λ _=>gI ((o.rds (i:=0) Z).isSome Y) Y) Y Z (KA (lo:=U a) ay.len (o.rds (i:=1) Z) Y Y f6) Y (λ u hu=>di ay.one _ u (M2 hu)) Z ?_)
 intro Z5 Z6
 refine⟨.inl f1, ?_⟩
 refine qn (JK (sr (Mz Z (An Z (rt (tR (rs ?_)))))))
 have P:Own w D Z5 [row j (X (t8 (U a) b++(c::r6 (U a) b))) g (q0 ay.J (t8 (U a) b++(c::r6 (U a) b))) 101 2,row f (X b) d (q0 ay.J b) 101 2,ma C 1 (q0 ay.J ([c])) 101 2]:=Z6.rowPart Y (uA (l:=b) (k2:=X b - U a) ay.len Y A Z Z Y)
 have Q:=P.pk [0]
 obtain rfl:=zj hr zq1
 exact⟨j,g,Z,Q,Y⟩
 refine jF (dF z) (sk (sr ?_))
 have B:X (t8 (U a) b++(c::r6 (U a) b))=X b+1:=by simp only [o2,o0,q5,o1]; omega
 obtain⟨af,p,R⟩:=H.rowFull
 refine Mz Z (Mz Z (Mz Z (fw (vJ (X b+1)) (JN (e:=B7.wrap ((X b:Int)+1)) yk f3) (fw (W f (X (t8 (U a) b++(c::r6 (U a) b))) d) (Yl.to (Ku (iW) Z Z Y) (ZJ (λ q=>Value.slice f q d) B.symm)) (An Z (JG (sr (Mz Z (Mz Z (fw (vJ (U a)) (JN (e:=a) (JM Z) Y) (Mz Z (fw (vJ (U a+1)) (JN (e:=B7.wrap (((U a:Nat):Int)+1)) yk f3) (fw (W (eU f (U a+1) 2 d) ((X (t8 (U a) b++(c::r6 (U a) b))) - (U a+1)) (d - (U a+1))) (Ka (iW) Z Z Y) ?_)))))))))))))
 have r:=R.pb [0]
 refine fw (V J) (KN (lo:=U a+1) (run_callFunc_extern Tryz.func202 f1 f1 f1 (e:=Extern.SlicesOverlaps.overlaps #[25,25] #[4]) f1) H0 L4 r f6 Y Z (gI ((r.rds (i:=1) Z).isSome Y) Y)) (Kz (V Zk) (nt (jt (JG ?_))))
 refine pK [8] (JP (JP J3)) r ?_
 intro ax S
 refine qv 0 Z Z (qt (v:=vJ (U a)) 1 Z (λ _ _=>JN (e:=a) (JM Z) Y) (qv 2 Z Z (qt (v:=vJ (U a+1)) 3 Z (λ _ _=>JN (e:=B7.wrap (((U a:Nat):Int)+1)) yk f3) (qt (v:= W (eU f (U a+1) 2 d) ((X (t8 (U a) b++(c::r6 (U a) b))) - (U a+1)) (d - (U a+1))) 4 Z (λ _ _=>Ka (iW) Z Z Y) (qv 5 Z Z (qt (v:=vJ (U a)) 6 Z (λ _ _=>JN (e:=a) (JM Z) Y) (qt (v:= W (eU f (U a) 2 d) ((X (t8 (U a) b++(c::r6 (U a) b))) - (U a)) (d - (U a))) 7 Z (λ _ _=>Ka (iW) Z Z Y) ?_)))))))
 have t:=S.pb [0]
 refine qd 8 Z (Kq (lo:=U a+1) (k:=X b - U a) (iW) t Z (λ _=>gI ((t.rds (i:=0) Z).isSome Y) Y) Y Z (bP.cut (lo:=U a) (hi:=X (t8 (U a) b++(c::r6 (U a) b))) (t.rds (i:=0) Z) Y Y Y) Y (λ u hu=>di ay.one _ u (by rw [uB ay.len Y Z Y] at hu; exact hu)) Z ?_)
 intro az x
 refine⟨.inl f1, ?_⟩
 refine qn (JK (sr (Mz Z (fw (vJ (U a)) (JN (e:=a) (JM Z) Y) (fw (W (eU f (U a) 2 d) ((X (t8 (U a) b++(c::r6 (U a) b))) - (U a)) (d - (U a))) (Ka (iW) Z Z Y) (Mz Z ?_))))))
 refine WL.do Z (Kq (lo:=U a) (k:=1) (iW) x Z (λ _=>gI ((x.rds (i:=0) Z).isSome Y) Y) Y Z (dH x (i:=1) Z lJ) Y (λ u hu=>di ay.one _ u (M2 hu)) Z ?_)
 intro Z8 Z4
 refine ns (Mz Z (An Z (rt (tR (rs ?_)))))
 have Z3:Own w D Z8 [row f (X (t8 (U a) b++(c::r6 (U a) b))) d (q0 ay.J (t8 (U a) b++(c::r6 (U a) b))) 101 2,ma C 1 (q0 ay.J ([c])) 101 2]:=Z4.rowPart Y (uC (l:=b) (m:=(X (t8 (U a) b++(c::r6 (U a) b))) - U a) (k2:=X b - U a) ay.len Y (by rw [p]; exact Nat.le_mul_of_pos_left 2 Y) Z Z Y Y)
 have Z9:=Z3.pk [0]
 obtain rfl:=zj hr zq1
 exact⟨f,d,Z,Z9,Y⟩
def tH (d:List ay) (e:aY):(List ay) × bZ:=
 bnd (iA d e.f) λ a=>bnd (if a.2=Zk then d else bnd (iG d a.1 (ay.q e.f [])) λ b=>b) λ sJrbJ=>bnd (y4 sJrbJ (U a.1) ZZ) λ c=>((N0 sJrbJ (U a.1) (ay.q c.f e.g)),bZ.q J [] (O []))
theorem EE (w D M n0 Z5 f) (d:aY) (Z6) (L:bZ) (H:Own w D w [row M n0 Z5 (q0 ay.J f) 101 2]) (aj:n0=X f) (aT:X f *32<=211106232532992) (aU:(X f+1) *32<=211106232532992) (hr:tH f d=(Z6,L)):
    Calls v1 105 #[W M n0 Z5, Zx (Zc (aY.J d))] w (dM λ v w'=> ∃ B0 b0 z A,v= .tuple #[W B0 (X Z6) b0, Zx #[V L.b, Zz ⟨Zc L.g⟩, W z (X L.a.a) A]]/\Own w D w' [row B0 (X Z6) b0 (q0 ay.J Z6) 101 2,row z (X L.a.a) A (q0 ay.J L.a.a) 101 2]/\(X Z6<=X f+1)):=by
 unfold tH at hr
 subst aj
 have aV:=H.rowC (i:=0) Z
 refine cb Tryz.func105 ?_
 refine sr ?_
 refine cu (aY.J d) 68 H ?_
 intro p aW ak
 refine Az Z ?_
 refine cu [V J, Zz ⟨Zc []⟩, W Zv 0 0] 70 ak ?_
 intro r aX P
 refine ns (Mz Z (Kz (vP p 1) (Lz (Zz ⟨Zc d.f⟩) P 1 B3 ?_)))
 obtain⟨⟨a,g⟩,B⟩:∃ q:Int × Bool,iA f d.f=q:=⟨_,Z⟩
 obtain⟨aZ,Q,aM,R,S⟩:=JJ P
 refine cl L5 (rX _ _ M (X f) Z5 f d.f a g Q (S _ 2 _ Z bQ) Z Y B) ?_
 rintro _ bf ⟨rfl,Z8,C,E⟩
 have I:=R _ _ Z8
 replace C:0<=a/\a<=(X f:Int):=C
 replace E:Bool.toNat g=0\/a < (X f:Int):=E
 refine Mz Z (Kz (vI a) (Kz (V g) (Az Z (An Z (JG (sr (Mz Z (Kz (V (!g)) (nt ?_)))))))))
 obtain⟨au,s⟩:=zw λ c (h:Nat) b w'=>Own w D w' [blk r [V J, Zz ⟨Zc []⟩, W Zv 0 0] 70,blk p (aY.J d) 68,row c (X b) h (q0 ay.J b) 101 2]/\X b<=X f+1/\X f<=X b/\a < (X b:Int)/\(if g=Zk then f else bnd (iG f a (ay.q d.f [])) λ Z4=>Z4)=b
 refine KL (λ i:(Option Addr) × Nat × (List ay)=> [(0, W i.1 (X i.2.2) i.2.1),(6,vI a),(5,vP r 0),(4, W Zv 0 0),(3,vP p 0)]) au ?_ ?_
 rcases Nf (g) with j | j
 have h45t:Bool.toNat g=1:=by rw [j]; rfl
 refine jF (cn j) (J8 ?_)
 have av:=I.pf []
 exact Kr (M,Z5,f) ⟨Z,Z,Z,Z,Z,ZW⟩ (s.2 ⟨av,Y,Y,Y,ip j⟩)
 have h45t:Bool.toNat g=0:=by rw [j]; rfl
 refine jT (cn j) (JI (Mz Z (Mz Z (Kz (vP p 1) (Lz (Zz ⟨Zc d.f⟩) I 1 B3 (Kz (Zx #[Zz ⟨Zc d.f⟩, Zz ⟨Zc []⟩]) ?_))))))
 refine WL.do Z (KQ (cs:= [Zz ⟨Zc d.f⟩, Zz ⟨Zc []⟩]) (t:=101) (sz:=2) (m:=1) I Z Z Za Z ?_)
 intro Z3 bg Z7
 replace Z7:=Ke (y:=ma Z3 1 (q0 ay.J ([(ay.q d.f [])])) 101 2) Z Z7
 have ax:=Z7.pf [3]
 obtain⟨K,F⟩:∃ q,iG f a (ay.q d.f [])=q:=⟨_,Z⟩
 obtain⟨bi,Z9,aN,Z1,aO⟩:=Ko ax
 refine cl Tryz.call162 (qG _ _ M (X f) Z5 f a Z3 (ay.q d.f []) K Z9 Z Y Y F) ?_
 rintro _ bn ⟨az,aA,rfl,Z2,G⟩
 have Z0:=Z1 _ _ Z2
 have aP:=Z0.rowC (i:=0) Z
 replace G:X K=X f+1:=G
 refine Az Z (WL.nil ?_)
 have aB:=Z0.pb [0]
 exact Kr (az,aA,K) ⟨Z,Z,Z,Z,Z,ZW⟩ (s.2 ⟨aB,Y,Y,Y,N (eP j) (ae F)⟩)
 rintro ⟨c,h,b⟩ bq aa
 show Wp _ _ _ [(0, W c (X b) h),(6,vI a),(5,vP r 0),(4, W Zv 0 0),(3,vP p 0)] _ _
 obtain⟨x,aQ,aR,aS,af⟩:=s.1 aa
 refine sr (Mz Z (fw (vJ (U a)) (JN (e:=a) (JM Z) Y) (Kz (vP p 2) (Lz (Zz ⟨Zc d.g⟩) x 1 B3 ?_))))
 obtain⟨l,u⟩:=dJ (ls:=b) (i:=U a) ay.len f6 (x.rds (i:=2) Z) f4
 refine fw (Zq (Zw ⟨ab c,ao c+(U a) *2,Zv⟩)) (JU (iW) Z Z ((x.rds (i:=2) Z).addr (i:=U a) Y) Y) (Kz (Zq (Zw ⟨ab c,ao c+(U a) *2+1,Zv⟩)) ?_)
 have aC:=x.pf [2]
 refine Kw (Do.storeRow (vs:= [Zz ⟨Zc d.g⟩]) (o:=(U a) *2+1) (q:=ao c+(U a) *2+1) aC Z Y Z Tryz.sizeOf9 Z Z (M9 Z) (jG ay.len u (M9 Z)) (kE (y:=(ay.q l.f d.g)) ay.len Z (M9 Z) u) ?_)
 intro bv aD
 refine nt (JG ?_)
 have aF:=aD.pk [0,1]
 refine JI (Mz Z (Kz (Zx #[V J, Zz ⟨Zc []⟩, W Zv 0 0]) (Az Z ?_)))
 have aG:=aF.pb [0]
 refine cO [V J, Zz ⟨Zc []⟩, W Zv 0 0] 0 aG L7 ?_
 intro ag ah
 refine nt (rt (JY (gH (vs:= [W c (X b) h, Zx #[V J, Zz ⟨Zc []⟩, W Zv 0 0]]) Z (bW.tmp Z (bW.cell Z (JW (cs:= [V J, Zz ⟨Zc []⟩, W Zv 0 0]) M1 L7 ((ah.cls (i:=0) Z).lit (k:=0) (m:=3) Z)) bW.nil)) (M9 Z)) ?_))
 have n:X b=X (N0 b (U a) (ay.q l.f d.g)):=by first | omega | (simp only [N1]; done) | (simp only [N1,o2,q5,L3,o0,o1,List.length_replicate]; omega)
 have aH:Own w D ag [blk r [V J, Zz ⟨Zc []⟩, W Zv 0 0] 70,row c (X (N0 b (U a) (ay.q l.f d.g))) h (q0 ay.J (N0 b (U a) (ay.q l.f d.g))) 101 2]:=by rw [<- n]; exact ah
 have aI:Own w D ag [row Zv 0 0 (q0 ay.J []) 101 2,blk r [V J, Zz ⟨Zc []⟩, W Zv 0 0] 70,row c (X (N0 b (U a) (ay.q l.f d.g))) h (q0 ay.J (N0 b (U a) (ay.q l.f d.g))) 101 2]:=aH.free (cK 101 2)
 have aJ:=aI.pk [2,0]
 obtain⟨rfl,rfl⟩:=fK (zj hr (show _=((N0 b (U a) (ay.q l.f d.g)),bZ.q false ([]) (O ([]))) from N (ae B) (N (ae af) (ae (bu u)))))
 exact⟨c,h,none,0,(by first | rfl | (rw [<- n]; done) | (rw [<- n]; rfl) | (rw [n]; first | done | rfl)),aJ,Y⟩
def gU (a:List ay) (b:Int) (c:Int):(List ay):=
 if b=c then a else(t8 (U b) a++r6 (U c) a)
theorem mZ (w D f o d a c b j) (H:Own w D w [row f o d (q0 ay.J a) 101 2]) (p:o=X a) (Z7:X a *32<=211106232532992) (K:0<=c/\c<=b/\b<=((X a:Nat):Int)) (hr:gU a c b=j):
    Calls v1 163 #[W f o d,vI c,vI b] w (dM λ v w'=> ∃ B C,v= W B (X j) C/\Own w D w' [row B (X j) C (q0 ay.J j) 101 2]/\(X j<=X a)):=by
 unfold gU at hr
 subst p
 have L:=H.rowC (i:=0) Z
 refine cb Tryz.func163 ?_
 refine sr (Ar Z (Mz Z (fw (vJ (U c)) (JN (e:=c) (JM Z) Y) (fw (vJ (U b)) (JN (e:=b) (JM Z) Y) (Mz Z (Kz (vJ (X a)) (fw (W (eU f (U c) 2 (X a)) ((U b) - (U c)) (X a - (U c))) (K8 (iW) Z Z Z Z Y Y Y) (nt (JG (sr (Mz Z (Mz Z (Kz (Zb (c=b)) (nt ?_))))))))))))))
 by_cases h:c=b
 refine jT (dT h) (sr (Mz Z (An Z (rt (tR (rs ?_))))))
 have q:=H.pf []
 obtain rfl:=zj hr zq1
 exact⟨f,d,Z,q,Y⟩
 refine jF (dF h) (sk (sr (Mz Z (Kz (vJ (X a)) (An Z (JG ?_))))))
 have g:=H.drew
 refine KR [6] (λ Z9=> ∃ L',Own w D Z9 ([row f (X a) d (q0 ay.J a) 101 2]++L')) f1 f1 (JP J3) ⟨_,g⟩ ?_
 revert g
 generalize World.drew w=r
 intro g
 refine qv 0 Z Z (qt (v:=vJ (U c)) 1 Z (λ _ _=>JN (e:=c) (JM Z) Y) (qt (v:= W f (U c) d) 2 Z (λ _ _=>Ku (iW) Z Z Y) (qv 3 Z Z (qt (v:=vJ (U b)) 4 Z (λ _ _=>JN (e:=b) (JM Z) Y) (qt (v:= W (eU f (U b) 2 d) (X a - (U b)) (d - (U b))) 5 Z (λ _ _=>Ka (iW) Z Z Y) ?_)))))
 have E:X (t8 (U c) a++r6 (U b) a)=U c+(X a - U b):=by simp only [o2,o0,o1]; omega
 have l:Src v1 2 25 (W (eU f (U b) 2 d) (X a - (U b)) (d - (U b))) (X a - U b) (q0 ay.J (r6 (U b) a)) r:=fq H0 (KA (lo:=U b) ay.len (g.rds (i:=0) Z) Y Y f6) (di ay.one (r6 (U b) a))
 obtain⟨F,t,u⟩:=g.rowFull
 refine qd 6 Z (KM (k:=U c) (m:=X a - U b) (iW) u Z Z l Y (s:=X (t8 (U c) a++r6 (U b) a)) Y ?_)
 intro M n
 refine⟨.inl f1, ?_⟩
 refine Ki (v:= W f (X (t8 (U c) a++r6 (U b) a)) d) 7 Z f1 (λ _=>KG Z) (qn (JK (sr (Mz Z (Mz Z (Kz (vI ((X (t8 (U c) a++r6 (U b) a):Nat):Int)) (Mz Z (fw (W (eU f (X (t8 (U c) a++r6 (U b) a)) 2 d) (X a - (X (t8 (U c) a++r6 (U b) a))) (d - (X (t8 (U c) a++r6 (U b) a)))) (Yl.cut (iW) Z Z Z Y Y) ?_))))))))
 refine Kw (KZ (z0:=(Zx #[Zz ⟨Zc []⟩, Zz ⟨Zc []⟩])) (lo:=X (t8 (U c) a++r6 (U b) a)) (nd:=(X a - (X (t8 (U c) a++r6 (U b) a)))) f1 Z (iW) n Z (λ _=>gI ((n.rds (i:=0) Z).isSome Y) Y) Y ?_)
 intro x G I y
 refine ns (Mz Z (An Z (rt (rs ?_))))
 have z:Own w D x [row f (X (t8 (U c) a++r6 (U b) a)) d (q0 ay.J (t8 (U c) a++r6 (U b) a)) 101 2]:=y.rowPart Y (tF ay.len Y Y Z)
 have A:=z.pf []
 obtain rfl:=zj hr zq1
 exact⟨f,d,Z,A,Y⟩
def tJ (c:List ay) (d:aY):(List ay) × bZ:=
 bnd (iA c d.f) λ a=>if a.2=Zk then bnd (gU c a.1 (a.1+1)) λ b=>(b,bZ.q J [] (O [])) else(c,bZ.q J [] (O []))
theorem EF (w D r P s b) (x:aY) (z) (y:bZ) (H:Own w D w [row r P s (q0 ay.J b) 101 2]) (Q:P=X b) (av:X b *32<=211106232532992) (ax:(X b+1) *32<=211106232532992) (hr:tJ b x=(z,y)):
    Calls v1 106 #[W r P s, Zx (Zc (aY.J x))] w (dM λ v w'=> ∃ B0 b0 h j,v= .tuple #[W B0 (X z) b0, Zx #[V y.b, Zz ⟨Zc y.g⟩, W h (X y.a.a) j]]/\Own w D w' [row B0 (X z) b0 (q0 ay.J z) 101 2,row h (X y.a.a) j (q0 ay.J y.a.a) 101 2]/\(X z<=X b+1)):=by
 unfold tJ at hr
 subst Q
 have az:=H.rowC (i:=0) Z
 refine cb Tryz.func106 ?_
 refine sr ?_
 refine cu (aY.J x) 68 H ?_
 intro R aA S
 refine Az Z ?_
 refine cu [V J, Zz ⟨Zc []⟩, W Zv 0 0] 70 S ?_
 intro A aB B
 refine nt (JG (sr (Mz Z (Kz (vP R 1) (Lz (Zz ⟨Zc x.f⟩) B 1 B3 ?_)))))
 obtain⟨⟨a,d⟩,g⟩:∃ q:Int × Bool,iA b x.f=q:=⟨_,Z⟩
 obtain⟨aC,C,ai,E,F⟩:=JJ B
 refine cl L5 (rX _ _ r (X b) s b x.f a d C (F _ 2 _ Z bQ) Z Y g) ?_
 rintro _ aD ⟨rfl,G,l,n⟩
 have Z8:=E _ _ G
 replace l:0<=a/\a<=(X b:Int):=l
 replace n:Bool.toNat d=0\/a < (X b:Int):=n
 refine Mz Z (Kz (vI a) (Kz (V d) (Az Z (An Z (JG ?_)))))
 have I:=Z8.pk [0,2]
 refine JI (Mn Z ?_)
 rcases Nf (d) with c | c
 have h41t:Bool.toNat d=1:=by rw [c]; rfl
 refine jT c (JI (Mz Z (Mz Z (Mz Z (fw (vI (a+1)) (JN (e:=B7.wrap (a+1)) yk i8) ?_)))))
 have Z4:=I.pb [0]
 obtain⟨f,o⟩:∃ q,gU b a (a+1)=q:=⟨_,Z⟩
 obtain⟨aF,Z7,aj,K,ak⟩:=Kb Z4
 refine cl Tryz.call163 (mZ _ _ r (X b) s b a (a+1) f Z7 Z Y Y o) ?_
 rintro _ aG ⟨t,u,rfl,L,p⟩
 have M:=K _ _ L
 have au:=M.rowC (i:=0) Z
 replace p:X f<=X b:=p
 refine Ar Z (Mz Z (Kz (Zx #[V J, Zz ⟨Zc []⟩, W Zv 0 0]) (Az Z ?_)))
 have Z3:=M.pb [0]
 refine cO [V J, Zz ⟨Zc []⟩, W Zv 0 0] 0 Z3 L7 ?_
 intro Z9 Z5
 refine nt (rt (JY (gH (vs:= [W t (X f) u, Zx #[V J, Zz ⟨Zc []⟩, W Zv 0 0]]) Z (bW.tmp Z (bW.cell Z (JW (cs:= [V J, Zz ⟨Zc []⟩, W Zv 0 0]) M1 L7 ((Z5.cls (i:=0) Z).lit (k:=0) (m:=3) Z)) bW.nil)) (M9 Z)) ?_))
 have Z1:Own w D Z9 [row Zv 0 0 (q0 ay.J []) 101 2,blk A [V J, Zz ⟨Zc []⟩, W Zv 0 0] 70,row t (X f) u (q0 ay.J f) 101 2]:=Z5.free (cK 101 2)
 have Z2:=Z1.pk [2,0]
 obtain⟨rfl,rfl⟩:=fK (zj hr zq3)
 exact⟨t,u,Zv,0,Z,Z2,Y⟩
 have h41t:Bool.toNat d=0:=by rw [c]; rfl
 refine jF c (sk (sr (Mz Z (Kz (Zx #[V J, Zz ⟨Zc []⟩, W Zv 0 0]) (Az Z ?_)))))
 refine cO [V J, Zz ⟨Zc []⟩, W Zv 0 0] 0 I L7 ?_
 intro Z0 Z6
 refine nt (rt (JY (gH (vs:= [W r (X b) s, Zx #[V J, Zz ⟨Zc []⟩, W Zv 0 0]]) Z (bW.tmp Z (bW.cell Z (JW (cs:= [V J, Zz ⟨Zc []⟩, W Zv 0 0]) M1 L7 ((Z6.cls (i:=0) Z).lit (k:=0) (m:=3) Z)) bW.nil)) (M9 Z)) ?_))
 have aa:Own w D Z0 [row Zv 0 0 (q0 ay.J []) 101 2,blk A [V J, Zz ⟨Zc []⟩, W Zv 0 0] 70,row r (X b) s (q0 ay.J b) 101 2]:=Z6.free (cK 101 2)
 have af:=aa.pk [2,0]
 obtain⟨rfl,rfl⟩:=fK (zj hr zq2)
 exact⟨r,s,Zv,0,Z,af,Y⟩
def kg (c:List ay) (d:au):Int × Int:=
 bnd (iA c d.a) λ a=>if d.b=[] then(a.1,((X c:Nat):Int)) else bnd (iA c d.b) λ b=>(a.1,b.1)
theorem xL (w D C G I a) (d:au) (E F) (H:Own w D w []) (p:Ro w D λ w'=>bP w' 2 C G (q0 ay.J a)) (Z7:G=X a) (P:X a *32<=211106232532992) (hr:kg a d=(E,F)):
    Calls v1 164 #[W C G I, Zx (Zc (au.J d))] w (dM λ v w'=>v= .tuple #[vI E,vI F]/\Own w D w' []/\(0<=E/\E<=((X a:Nat):Int)/\0<=F/\F<=((X a:Nat):Int))):=by
 unfold kg at hr
 subst Z7
 refine cb Tryz.func164 ?_
 refine sr ?_
 refine cu (au.J d) 37 H ?_
 intro m Q r
 refine Az Z (Ar Z (Mz Z (Kz (vP m 0) (Lz (Zz ⟨Zc d.a⟩) r 0 B3 ?_))))
 obtain⟨⟨b,n⟩,e⟩:∃ q:Int × Bool,iA a d.a=q:=⟨_,Z⟩
 obtain⟨R,s,t,u,Z5⟩:=JJ r
 refine cl L5 (rX _ _ C (X a) I a d.a b n s (t _ p) Z Y e) ?_
 rintro _ S ⟨rfl,x,h,i⟩
 have f:=u _ _ x
 replace h:0<=b/\b<=(X a:Int):=h
 replace i:Bool.toNat n=0\/b < (X a:Int):=i
 refine Mz Z (Kz (vI b) (Kz (V n) (Az Z (An Z (JG (sr (Kz (vP m 1) (Lz (Zz ⟨Zc d.b⟩) f 0 B3 (fw (Zb (d.b=[])) (KU Z Z) (nt ?_))))))))))
 by_cases g:d.b=[]
 refine jT (dT g) (sr (Mz Z (Mz Z (Kz (vJ (X a)) (Az Z (An Z (rt (tR (JY (kS Z Z Z) ?_)))))))))
 have K:=f.pk []
 obtain⟨rfl,rfl⟩:=fK (zj hr zq2)
 exact⟨Z,K,Y⟩
 refine jF (dF g) (sk (sr (Mz Z (Kz (vP m 1) (Lz (Zz ⟨Zc d.b⟩) f 0 B3 ?_)))))
 obtain⟨⟨c,o⟩,j⟩:∃ q:Int × Bool,iA a d.b=q:=⟨_,Z⟩
 obtain⟨Z8,y,z,A,Z6⟩:=JJ f
 refine cl L5 (rX _ _ C (X a) I a d.b c o y (z _ p) Z Y j) ?_
 rintro _ Z4 ⟨rfl,B,k,l⟩
 have L:=A _ _ B
 replace k:0<=c/\c<=(X a:Int):=k
 replace l:Bool.toNat o=0\/c < (X a:Int):=l
 refine Mz Z (Kz (vI c) (Kz (V o) (Az Z (Ar Z (Mz Z (Mz Z (Az Z (An Z (rt (JY (kS Z Z Z) ?_))))))))))
 have M:=L.pk []
 obtain⟨rfl,rfl⟩:=fK (zj hr zq3)
 exact⟨Z,M,Y⟩
def rY (a:List ay):(List ay):=
 a
theorem ny (w D e g x a f) (H:Own w D w []) (d:Ro w D λ w'=>bP w' 2 e g (q0 ay.J a)) (h:g=X a) (y:X a *32<=211106232532992) (hr:rY a=f):
    Calls v1 165 #[W e g x] w (dM λ v w'=> ∃ t u,v= W t (X f) u/\Own w D w' [row t (X f) u (q0 ay.J f) 101 2]):=by
 subst h
 refine cb Tryz.func165 ?_
 refine sr (An Z (JG (sr (Mz Z (fw (V (Option.isNone e)) (KO H0 Z Z) (nt ?_))))))
 rcases Nf (Option.isNone e) with b | b
 obtain rfl:a= []:=sM (enc:=ay.J) (H.ro d) b
 refine jT b (sr (An Z (rt (tR (rs ?_)))))
 have i:Own w D w [row Zv 0 0 (q0 ay.J []) 101 2]:=H.free (cK 101 2)
 have j:=i.pf []
 obtain rfl:_=[]:=zj hr Z
 exact⟨Zv,0,Z,j⟩
 refine jF b (sk (sr ?_))
 refine jW [] 101 2 0 H ?_
 intro l n c
 replace c:Own w D n [row l 0 0 (q0 ay.J []) 101 2]:=c
 refine Mz Z ?_
 refine WL.do Z (J7 (k:=0) (m:=X a) (iW) c Z Z (fq H0 (c.ro d) (di ay.one a)) Z Y (s:=X a) Y Z ?_)
 intro o p z q
 refine An Z (rt (rs ?_))
 have r:=q.pf []
 obtain rfl:_=a:=zj hr Z
 exact⟨o,p,Z,r⟩
def rA (c:List ay) (d:aY):(List ay) × bZ:=
 bnd (fQ d) λ b=>bnd (kg c b) λ a=>(c,bZ.q J [] (O (t8 ((U (min a.2 (a.1+d.j))) - (U a.1)) (r6 (U a.1) c))))
theorem D5 (w D r Z6 l d) (c:aY) (u) (t:bZ) (H:Own w D w [row r Z6 l (q0 ay.J d) 101 2]) (P:Z6=X d) (ak:X d *32<=211106232532992) (au:(X d+1) *32<=211106232532992) (Q:(kg d (fQ c)).1<=(kg d (fQ c)).2) (av:1<=c.j/\c.j<=4) (hr:rA d c=(u,t)):
    Calls v1 110 #[W r Z6 l, Zx (Zc (aY.J c))] w (dM λ v w'=> ∃ Z1 Z2 n o,v= .tuple #[W Z1 (X u) Z2, Zx #[V t.b, Zz ⟨Zc t.g⟩, W n (X t.a.a) o]]/\Own w D w' [row Z1 (X u) Z2 (q0 ay.J u) 101 2,row n (X t.a.a) o (q0 ay.J t.a.a) 101 2]/\(X u<=X d+1)):=by
 unfold rA at hr
 subst P
 have ax:=H.rowC (i:=0) Z
 refine cb Tryz.func110 ?_
 refine sr ?_
 refine cu (aY.J c) 68 H ?_
 intro R az S
 refine Az Z ?_
 refine cu [V J, Zz ⟨Zc []⟩, W Zv 0 0] 70 S ?_
 intro aA aB x
 refine ns (Mz Z (La (aY.J c) x 1 Tryz.isAgg68 Tryz.sizeOf68 ?_))
 obtain⟨s,f⟩:∃ q,fQ c=q:=⟨_,Z⟩
 obtain⟨aC,y,Z0,z,aa⟩:=JJ x
 refine cl Tryz.call109 (lS _ _ c s y f) ?_
 rintro _ aD ⟨rfl,A⟩
 have Z8:=z _ _ A
 obtain⟨⟨a,b⟩,g⟩:∃ q:Int × Int,kg d s=q:=⟨_,Z⟩
 obtain⟨aF,B,af,C,E⟩:=JJ Z8
 refine cl Tryz.call164 (xL _ _ r (X d) l d s a b B (E _ 2 _ Z bQ) Z Y g) ?_
 rintro _ aG ⟨rfl,F,p⟩
 have G:=C _ _ F
 replace p:0<=a/\a<=(X d:Int)/\0<=b/\b<=(X d:Int):=p
 have ag:a<=b:=by
    have q:=Q
    rw [f,g] at q
    exact q
 refine Mz Z (Kz (vI a) (Kz (vI b) (Az Z (Ar Z (Mz Z (Mz Z (Kz (vP R 5) (Lz (vI c.j) G 1 Tryz.isAgg3 (fw (vI (a+c.j)) (JN (e:=B7.wrap (a+c.j)) yk i8) (fw (vI (min b (a+c.j))) (JN (e:=if a+c.j < b then a+c.j else b) yk Y) (An Z (JG ?_))))))))))))
 have Z4:=G.pk [0,2]
 refine JI (Mz Z (Mz Z (fw (vJ (U a)) (JN (e:=a) (JM Z) Y) (fw (vI ((U (min b (a+c.j)):Nat):Int)) (JN (e:=min b (a+c.j)) (JM Z) Y) (fw (W (eU r (U a) 2 l) ((U (min b (a+c.j))) - (U a)) (l - (U a))) (Yl.cut (iW) Z Z Z Y Y) ?_)))))
 have ah:(U (min b (a+c.j))) - (U a)=X (t8 ((U (min b (a+c.j))) - (U a)) (r6 (U a) d)):=g7
 obtain⟨aH,I,ai,Z7,K⟩:=JJ Z4
 refine cl Tryz.call165 (ny _ _ (eU r (U a) 2 l) ((U (min b (a+c.j))) - (U a)) (l - (U a)) (t8 ((U (min b (a+c.j))) - (U a)) (r6 (U a) d)) (t8 ((U (min b (a+c.j))) - (U a)) (r6 (U a) d)) I (λ w9 h9=>bP.cutE (lo:=U a) (hi:=U (min b (a+c.j))) ay.len ((K _ 1 _ Z bQ) w9 h9) Y Y Y) g7 i4 Z) ?_
 rintro _ aK ⟨h,j,rfl,L⟩
 have M:=Z7 _ _ L
 have aj:=M.rowC (i:=0) Z
 refine Kz (Zx #[V J, Zz ⟨Zc []⟩, W h (X (t8 ((U (min b (a+c.j))) - (U a)) (r6 (U a) d))) j]) (Az Z ?_)
 have Z3:=M.pf [1]
 refine cO [V J, Zz ⟨Zc []⟩, W h (X (t8 ((U (min b (a+c.j))) - (U a)) (r6 (U a) d))) j] 0 Z3 L7 ?_
 intro aL Z5
 refine nt (rt (JY (gH (vs:= [W r (X d) l, Zx #[V J, Zz ⟨Zc []⟩, W h (X (t8 ((U (min b (a+c.j))) - (U a)) (r6 (U a) d))) j]]) Z (bW.tmp Z (bW.cell Z (JW (cs:= [V J, Zz ⟨Zc []⟩, W h (X (t8 ((U (min b (a+c.j))) - (U a)) (r6 (U a) d))) j]) M1 L7 ((Z5.cls (i:=0) Z).lit (k:=0) (m:=3) Z)) bW.nil)) (M9 Z)) ?_))
 have Z9:=Z5.pk [2,1]
 obtain⟨rfl,rfl⟩:=fK (zj hr zq2)
 exact⟨r,l,h,j,Z,Z9,Y⟩
def rC (d:List ay) (e:aY):(List ay) × bZ:=
 bnd (fQ e) λ b=>bnd (kg d b) λ a=>bnd (gU d a.1 a.2) λ c=>(c,bZ.q J [] (O []))
theorem D6 (w D M Z6 Z5 a) (g:aY) (u) (t:bZ) (H:Own w D w [row M Z6 Z5 (q0 ay.J a) 101 2]) (P:Z6=X a) (az:X a *32<=211106232532992) (aA:(X a+1) *32<=211106232532992) (Q:(kg a (fQ g)).1<=(kg a (fQ g)).2) (hr:rC a g=(u,t)):
    Calls v1 113 #[W M Z6 Z5, Zx (Zc (aY.J g))] w (dM λ v w'=> ∃ B0 b0 h j,v= .tuple #[W B0 (X u) b0, Zx #[V t.b, Zz ⟨Zc t.g⟩, W h (X t.a.a) j]]/\Own w D w' [row B0 (X u) b0 (q0 ay.J u) 101 2,row h (X t.a.a) j (q0 ay.J t.a.a) 101 2]/\(X u<=X a+1)):=by
 unfold rC at hr
 subst P
 have aB:=H.rowC (i:=0) Z
 refine cb Tryz.func113 ?_
 refine sr ?_
 refine cu (aY.J g) 68 H ?_
 intro aC aD R
 refine Az Z ?_
 refine cu [V J, Zz ⟨Zc []⟩, W Zv 0 0] 70 R ?_
 intro S aF x
 refine ns (Mz Z (La (aY.J g) x 1 Tryz.isAgg68 Tryz.sizeOf68 ?_))
 obtain⟨p,e⟩:∃ q,fQ g=q:=⟨_,Z⟩
 obtain⟨aG,y,ah,z,ai⟩:=JJ x
 refine cl Tryz.call109 (lS _ _ g p y e) ?_
 rintro _ aH ⟨rfl,A⟩
 have Z8:=z _ _ A
 obtain⟨⟨b,c⟩,f⟩:∃ q:Int × Int,kg a p=q:=⟨_,Z⟩
 obtain⟨aI,B,aj,C,E⟩:=JJ Z8
 refine cl Tryz.call164 (xL _ _ M (X a) Z5 a p b c B (E _ 2 _ Z bQ) Z Y f) ?_
 rintro _ aJ ⟨rfl,F,l⟩
 have Z4:=C _ _ F
 replace l:0<=b/\b<=(X a:Int)/\0<=c/\c<=(X a:Int):=l
 have ak:b<=c:=by
    have q:=Q
    rw [e,f] at q
    exact q
 refine Mz Z (Kz (vI b) (Kz (vI c) (Az Z (An Z (JG ?_)))))
 have Z3:=Z4.pk [0,2]
 refine JI (Mz Z (Mz Z (Mz Z ?_)))
 have Z9:=Z3.pb [0]
 obtain⟨d,n⟩:∃ q,gU a b c=q:=⟨_,Z⟩
 obtain⟨aK,G,au,I,av⟩:=Kb Z9
 refine cl Tryz.call163 (mZ _ _ M (X a) Z5 a b c d G Z Y Y n) ?_
 rintro _ aL ⟨r,s,rfl,Z7,o⟩
 have K:=I _ _ Z7
 have ax:=K.rowC (i:=0) Z
 replace o:X d<=X a:=o
 refine Kz (Zx #[V J, Zz ⟨Zc []⟩, W Zv 0 0]) (Az Z ?_)
 have Z1:=K.pb [0]
 refine cO [V J, Zz ⟨Zc []⟩, W Zv 0 0] 0 Z1 L7 ?_
 intro Z2 L
 refine nt (rt (JY (gH (vs:= [W r (X d) s, Zx #[V J, Zz ⟨Zc []⟩, W Zv 0 0]]) Z (bW.tmp Z (bW.cell Z (JW (cs:= [V J, Zz ⟨Zc []⟩, W Zv 0 0]) M1 L7 ((L.cls (i:=0) Z).lit (k:=0) (m:=3) Z)) bW.nil)) (M9 Z)) ?_))
 have Z0:Own w D Z2 [row Zv 0 0 (q0 ay.J []) 101 2,blk S [V J, Zz ⟨Zc []⟩, W Zv 0 0] 70,row r (X d) s (q0 ay.J d) 101 2]:=L.free (cK 101 2)
 have aa:=Z0.pk [2,0]
 obtain⟨rfl,rfl⟩:=fK (zj hr zq3)
 exact⟨r,s,Zv,0,Z,aa,Y⟩
end
end Go.Proofs.YtndamapfnpihpaaGreat
