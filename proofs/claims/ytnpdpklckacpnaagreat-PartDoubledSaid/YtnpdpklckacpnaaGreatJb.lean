/- The layers told, part 2. Conditions: none beyond each law's own. -/
import Derived.Test.YtnpdpklckacpnaaGreatJa
namespace Go.Proofs.YtnpdpklckacpnaaGreat
set_option maxHeartbeats 8000000
set_option maxRecDepth 100000
set_option linter.unusedVariables false
set_option linter.unusedSimpArgs false
set_option linter.unusedSectionVars false
open _root_.Go renaming World->ZZ,Value->ZQ
open Value renaming bool->Y,slice->T,string->Z9,pointer->Zz,agg->Zq,nilFunc->Zx
open Bool renaming true->Zj,false->O
open Option renaming none->Zk,some->Zv
open Decidable renaming decide->Zw
open Inhabited renaming default->Zy
open List renaming length->X,toArray->Zb,drop->Ze,take->Zf,flatMap->Zg,map->Zh
open Int renaming toNat->Zc
open Bool renaming toNat->Zd
open IntKind renaming i64->D3
open List renaming flatMap->q1,map->s0,mem_cons->v1,not_mem_nil->y2
open Nat renaming le_refl->s2
open _root_.Go.Proofs.Tryz renaming call27->E2,call61->C2,call64->C7,call66->D0,func66->B4,isAgg131->D2,isAgg141->D1,isAgg144->B6,isAgg3->B8,isAgg33->E0,isAgg35->D4,isAgg38->C6,isAgg62->C1,isAgg9->B9,prog->y3,sizeOf144->B7,sizeOf183->B5,sizeOf38->C5,sizeOf62->C0,underlying3->y6,underlying33->E1,underlying38->C4,underlying62->y4,underlying9->B3
section
open Go.RowKit
abbrev o1k:List ZQ:=[Y O, Zx, Zx, Zx, Zx, Y O, .func (.func 98) #[] #[], .func (.func 99) #[] #[], .func (.func 100) #[] #[], .func (.func 101) #[] #[], Y Zj, .func (.func 102) #[] #[], .func (.func 103) #[] #[], .func (.func 100) #[] #[], .func (.func 104) #[] #[], Y Zj, .func (.func 98) #[] #[], .func (.func 99) #[] #[], .func (.func 100) #[] #[], .func (.func 105) #[] #[], Y O, .func (.func 106) #[] #[], .func (.func 107) #[] #[], .func (.func 108) #[] #[], .func (.func 109) #[] #[], Y Zj, .func (.func 110) #[] #[], .func (.func 111) #[] #[], .func (.func 108) #[] #[], .func (.func 112) #[] #[]]
abbrev o2k:List ZQ:=[Y O, .func (.func 98) #[] #[], .func (.func 99) #[] #[], .func (.func 100) #[] #[], .func (.func 101) #[] #[]]
abbrev o3k:List ZQ:=[Y Zj, .func (.func 102) #[] #[], .func (.func 103) #[] #[], .func (.func 100) #[] #[], .func (.func 104) #[] #[]]
abbrev o4k:List ZQ:=[Y Zj, .func (.func 98) #[] #[], .func (.func 99) #[] #[], .func (.func 100) #[] #[], .func (.func 105) #[] #[]]
abbrev o5k:List ZQ:=[Y O, .func (.func 106) #[] #[], .func (.func 107) #[] #[], .func (.func 108) #[] #[], .func (.func 109) #[] #[]]
abbrev o6k:List ZQ:=[Y Zj, .func (.func 110) #[] #[], .func (.func 111) #[] #[], .func (.func 108) #[] #[], .func (.func 112) #[] #[]]
structure aV where q::
 g:Int
 j:List UInt8
 k:List UInt8
 a:List UInt8
 b:List UInt8
 r:Int
def aV.L (x:aV):List ZQ:= [.int .i64 x.g, Z9 ⟨Zb x.j⟩, Z9 ⟨Zb x.k⟩, Z9 ⟨Zb x.a⟩, Z9 ⟨Zb x.b⟩, .int .i64 x.r]
instance:Bk aV:=⟨λ x _=>bk x.g+(bk x.j+(bk x.k+(bk x.a+(bk x.b+(bk x.r+(0))))))⟩
theorem aV.len:∀ x,X (aV.L x)=6:=λ _=>rfl
theorem aV.one:∀ x, ∀ u ∈ aV.L x,u.oneCell'=Zj:=λ x u hu=>by
 simp only [aV.L,v1,y2,or_false] at hu
 rcases hu with rfl | rfl | rfl | rfl | rfl | rfl <;> rfl
def LK (w:ZZ) (x:aV):Prop:=((-9223372036854775808)<=x.g/\x.g<=9223372036854775807)/\(X x.j<=140737488351232)/\(X x.k<=140737488351232)/\(X x.a<=140737488351232)/\(X x.b<=140737488351232)/\((-9223372036854775808)<=x.r/\x.r<=9223372036854775807)
theorem EO (w:ZZ):lJ y3 w 62 6 aV.L (LK w):=
 (nL (sz:=6) y4 f1 (gH.cons (i:=0) (off:=0) (s:=1) Z Z (og (k:= .i64) (lo:= -9223372036854775808) (hi:=9223372036854775807) y6 f1 f7 f7) (gH.cons (i:=1) (off:=1) (s:=1) Z Z (lL B3 f1) (gH.cons (i:=2) (off:=2) (s:=1) Z Z (lL B3 f1) (gH.cons (i:=3) (off:=3) (s:=1) Z Z (lL B3 f1) (gH.cons (i:=4) (off:=4) (s:=1) Z Z (lL B3 f1) (gH.cons (i:=5) (off:=5) (s:=1) Z Z (og (k:= .i64) (lo:= -9223372036854775808) (hi:=9223372036854775807) y6 f1 f7 f7) gH.nil))))))).map (λ p=>⟨p.1,p.2.1,p.2.2.1,p.2.2.2.1,p.2.2.2.2.1,p.2.2.2.2.2.1⟩) aV.len (λ _=>rfl) (λ _ h=>⟨h.1,h.2.1,h.2.2.1,h.2.2.2.1,h.2.2.2.2.1,h.2.2.2.2.2.1⟩) λ _=>s2 _
instance:Inhabited aV:=⟨⟨Zy,Zy,Zy,Zy,Zy,Zy⟩⟩
theorem oJ (w D j) (H:Own w D w []) (c:j=1):
    Calls y3 66 #[vI j] w (dI λ v w'=>v= .tuple #[Zq o2k.toArray, Y Zj]/\Own w D w' []):=by
 subst c
 refine cb B4 ?_
 refine sr ?_
 refine cB [Y O, Zx, Zx, Zx, Zx] 144 H ?_
 intro l n d
 refine Ar Z (Kz (Zq o2k.toArray) (Kz (Zq o3k.toArray) (Kz (Zq o4k.toArray) (Kz (Zq o5k.toArray) (Kz (Zq o6k.toArray) (Kz (Zq o1k.toArray) ?_))))))
 refine cB [Y O, Zx, Zx, Zx, Zx, Y O, Zx, Zx, Zx, Zx, Y O, Zx, Zx, Zx, Zx, Y O, Zx, Zx, Zx, Zx, Y O, Zx, Zx, Zx, Zx, Y O, Zx, Zx, Zx, Zx] 183 d ?_
 intro e o f
 refine cu o1k 0 f B5 ?_
 intro p a
 refine nt (JS (sr (Mz Z (Kz (Y O) (Mz Z (gw (vI 1) Z (J3 Z) (Gz (Y O) Z (fw (Y O) (QK Z) (nt (jf (sk (sr (Mz Z (Kz (vP e 5) (La o2k a 0 B6 B7 ?_)))))))))))))))
 have g:=a.pb [0]
 refine cu o2k 0 g B7 ?_
 intro q b
 refine An Z (rt (Ke (fQ (vs:= [Zq o2k.toArray, Y Zj]) Z (bS.cell Z (J7 (cs:= o2k) B6 B7 ((b.cls (i:=0) Z).lit (k:=0) (m:=5) Z)) (bS.tmp Z bS.nil)) (Nr Z)) ?_))
 have h:=b.pk []
 exact⟨Z,h⟩
def qj (a:aV):aV:=
 aV.q a.g a.j [] [] [] 0
theorem xA (w D) (a:aV) (g:aV) (H:Own w D w []) (hr:qj a=g):
    Calls y3 98 #[Zq (Zb (aV.L a))] w (dI λ v w'=>v= Zq (Zb (aV.L g))/\Own w D w' []):=by
 refine cb Tryz.func98 ?_
 refine sr ?_
 refine cB (aV.L a) 62 H ?_
 intro c h e
 refine cB [vI 0, Z9 ⟨Zb []⟩, Z9 ⟨Zb []⟩, Z9 ⟨Zb []⟩, Z9 ⟨Zb []⟩,vI 0] 62 e ?_
 intro j l b
 refine ns (Kz (vP c 0) (Lz (vI a.g) b 1 B8 (Kz (vP c 1) (Lz (Z9 ⟨Zb a.j⟩) b 1 B9 (Kz (Zq #[vI a.g, Z9 ⟨Zb a.j⟩, Z9 ⟨Zb []⟩, Z9 ⟨Zb []⟩, Z9 ⟨Zb []⟩,vI 0]) ?_)))))
 refine cu [vI a.g, Z9 ⟨Zb a.j⟩, Z9 ⟨Zb []⟩, Z9 ⟨Zb []⟩, Z9 ⟨Zb []⟩,vI 0] 0 b C0 ?_
 intro n d
 refine nt (rt (Ke (qg Z Z (J7 (cs:= [vI a.g, Z9 ⟨Zb a.j⟩, Z9 ⟨Zb []⟩, Z9 ⟨Zb []⟩, Z9 ⟨Zb []⟩,vI 0]) C1 C0 ((d.cls (i:=0) Z).lit (k:=0) (m:=6) Z))) ?_))
 have f:=d.pk []
 obtain rfl:_=aV.q a.g a.j [] [] [] 0:=zj hr Z
 exact⟨Z,f⟩
def dU (a:List UInt8):Int:=
 if((X a:Nat):Int) < 1 then 20 else if((X a:Nat):Int) > 12 then 20 else 0
theorem ky (w D b d) (H:Own w D w []) (hr:dU b=d):
    Calls y3 61 #[Z9 ⟨Zb b⟩] w (dI λ v w'=>v=vI d/\Own w D w' []/\(¬ (d=0)\/(1<=X b/\X b<=12))/\(X b < 1\/X b > 12\/d=0)):=by
 unfold dU at hr
 refine cb Tryz.func61 ?_
 refine sr (An Z (JS (sr (Mz Z (Kz (vJ (X b)) (Kz (Za ((X b:Int) < 1)) (Mz Z ?_)))))))
 by_cases a:(X b:Int) < 1
 refine Sz (dT a) (Sz (dT a) (Sz (dT a) (fw (Y Zj) (JX Z (dT a) Z) (nt (jt (sr (An Z (rt (tR (rs ?_))))))))))
 have e:=H.pk []
 obtain rfl:=zj hr zq1
 exact⟨Z,e,U,U⟩
 refine gw (Z9 ⟨Zb b⟩) (dF a) (J3 Z) (Gz (vJ (X b)) (dF a) (Gz (Za ((X b:Int) > 12)) (dF a) (fw (Za ((X b:Int) > 12)) (JU Z (dF a) Z) (nt ?_))))
 by_cases c:(X b:Int) > 12
 refine jT (dT c) (sr (An Z (rt (tR (rs ?_)))))
 have f:=H.pk []
 obtain rfl:=zj hr zq2
 exact⟨Z,f,U,U⟩
 refine jF (dF c) (sk (sr (An Z (rt (rs ?_)))))
 have g:=H.pk []
 obtain rfl:=zj hr zq2
 exact⟨Z,g,U,U⟩
def oo (b:aV):Int:=
 bnd (dU b.j) λ a=>a
theorem vS (w D) (a:aV) (m) (H:Own w D w []) (hr:oo a=m):
    Calls y3 99 #[Zq (Zb (aV.L a))] w (dI λ v w'=>v=vI m/\Own w D w' []):=by
 unfold oo at hr
 refine cb Tryz.func99 ?_
 refine sr ?_
 refine cB (aV.L a) 62 H ?_
 intro j p f
 refine Ar Z (Kz (vP j 1) (Lz (Z9 ⟨Zb a.j⟩) f 0 B9 ?_))
 obtain⟨b,c⟩:∃ q,dU a.j=q:=⟨_,Z⟩
 obtain⟨r,g,n,h,o⟩:=JZ f
 refine cl C2 (ky _ _ a.j b g c) ?_
 rintro _ s ⟨rfl,i,d,e⟩
 have k:=h _ _ i
 replace d: ¬ (b=0)\/(1<=X a.j/\X a.j<=12):=d
 replace e:X a.j < 1\/X a.j > 12\/b=0:=e
 refine An Z (rt (rs ?_))
 have l:=k.pk []
 obtain rfl:=zj hr zq1
 exact⟨Z,l⟩
theorem oK (w D j) (H:Own w D w []) (c:j=2):
    Calls y3 66 #[vI j] w (dI λ v w'=>v= .tuple #[Zq o3k.toArray, Y Zj]/\Own w D w' []):=by
 subst c
 refine cb B4 ?_
 refine sr ?_
 refine cB [Y O, Zx, Zx, Zx, Zx] 144 H ?_
 intro l n d
 refine Ar Z (Kz (Zq o2k.toArray) (Kz (Zq o3k.toArray) (Kz (Zq o4k.toArray) (Kz (Zq o5k.toArray) (Kz (Zq o6k.toArray) (Kz (Zq o1k.toArray) ?_))))))
 refine cB [Y O, Zx, Zx, Zx, Zx, Y O, Zx, Zx, Zx, Zx, Y O, Zx, Zx, Zx, Zx, Y O, Zx, Zx, Zx, Zx, Y O, Zx, Zx, Zx, Zx, Y O, Zx, Zx, Zx, Zx] 183 d ?_
 intro e o f
 refine cu o1k 0 f B5 ?_
 intro p a
 refine nt (JS (sr (Mz Z (Kz (Y O) (Mz Z (gw (vI 2) Z (J3 Z) (Gz (Y O) Z (fw (Y O) (QK Z) (nt (jf (sk (sr (Mz Z (Kz (vP e 10) (La o3k a 0 B6 B7 ?_)))))))))))))))
 have g:=a.pb [0]
 refine cu o3k 0 g B7 ?_
 intro q b
 refine An Z (rt (Ke (fQ (vs:= [Zq o3k.toArray, Y Zj]) Z (bS.cell Z (J7 (cs:= o3k) B6 B7 ((b.cls (i:=0) Z).lit (k:=0) (m:=5) Z)) (bS.tmp Z bS.nil)) (Nr Z)) ?_))
 have h:=b.pk []
 exact⟨Z,h⟩
def uq (a:aV):aV:=
 aV.q a.g a.j a.k [] [] 0
theorem Bo (w D) (a:aV) (g:aV) (H:Own w D w []) (hr:uq a=g):
    Calls y3 102 #[Zq (Zb (aV.L a))] w (dI λ v w'=>v= Zq (Zb (aV.L g))/\Own w D w' []):=by
 refine cb Tryz.func102 ?_
 refine sr ?_
 refine cB (aV.L a) 62 H ?_
 intro c h e
 refine cB [vI 0, Z9 ⟨Zb []⟩, Z9 ⟨Zb []⟩, Z9 ⟨Zb []⟩, Z9 ⟨Zb []⟩,vI 0] 62 e ?_
 intro j l b
 refine ns (Kz (vP c 0) (Lz (vI a.g) b 1 B8 (Kz (vP c 1) (Lz (Z9 ⟨Zb a.j⟩) b 1 B9 (Kz (vP c 2) (Lz (Z9 ⟨Zb a.k⟩) b 1 B9 (Kz (Zq #[vI a.g, Z9 ⟨Zb a.j⟩, Z9 ⟨Zb a.k⟩, Z9 ⟨Zb []⟩, Z9 ⟨Zb []⟩,vI 0]) ?_)))))))
 refine cu [vI a.g, Z9 ⟨Zb a.j⟩, Z9 ⟨Zb a.k⟩, Z9 ⟨Zb []⟩, Z9 ⟨Zb []⟩,vI 0] 0 b C0 ?_
 intro n d
 refine nt (rt (Ke (qg Z Z (J7 (cs:= [vI a.g, Z9 ⟨Zb a.j⟩, Z9 ⟨Zb a.k⟩, Z9 ⟨Zb []⟩, Z9 ⟨Zb []⟩,vI 0]) C1 C0 ((d.cls (i:=0) Z).lit (k:=0) (m:=6) Z))) ?_))
 have f:=d.pk []
 obtain rfl:_=aV.q a.g a.j a.k [] [] 0:=zj hr Z
 exact⟨Z,f⟩
def lS (a:List UInt8):Int:=
 if((X a:Nat):Int) > 16 then 2 else 0
theorem uI (w D b e) (H:Own w D w []) (hr:lS b=e):
    Calls y3 160 #[Z9 ⟨Zb b⟩] w (dI λ v w'=>v=vI e/\Own w D w' []):=by
 unfold lS at hr
 refine cb Tryz.func160 ?_
 refine sr (An Z (JS (sr (Mz Z (Kz (vJ (X b)) (Kz (Za ((X b:Int) > 16)) (nt ?_)))))))
 by_cases a:(X b:Int) > 16
 refine jT (dT a) (sr (An Z (rt (tR (rs ?_)))))
 have c:=H.pk []
 obtain rfl:=zj hr zq1
 exact⟨Z,c⟩
 refine jF (dF a) (sk (sr (An Z (rt (rs ?_)))))
 have d:=H.pk []
 obtain rfl:=zj hr zq1
 exact⟨Z,d⟩
def qm (c:aV):Int:=
 bnd (dU c.j) λ a=>if a=0 then bnd (lS c.k) λ b=>b else a
theorem zx (w D) (b:aV) (y) (H:Own w D w []) (hr:qm b=y):
    Calls y3 103 #[Zq (Zb (aV.L b))] w (dI λ v w'=>v=vI y/\Own w D w' []):=by
 unfold qm at hr
 refine cb Tryz.func103 ?_
 refine sr ?_
 refine cB (aV.L b) 62 H ?_
 intro j E k
 refine An Z (JS (sr (Kz (vP j 1) (Lz (Z9 ⟨Zb b.j⟩) k 0 B9 ?_))))
 obtain⟨a,c⟩:∃ q,dU b.j=q:=⟨_,Z⟩
 obtain⟨F,l,z,m,A⟩:=JZ k
 refine cl C2 (ky _ _ b.j a l c) ?_
 rintro _ G ⟨rfl,n,f,g⟩
 have i:=m _ _ n
 replace f: ¬ (a=0)\/(1<=X b.j/\X b.j<=12):=f
 replace g:X b.j < 1\/X b.j > 12\/a=0:=g
 refine Ar Z (Mz Z (fw (Za (¬ (a=0))) (Kc (e:= !(Zw (a=0))) yk ZW) (nt ?_)))
 by_cases d:a=0
 refine jF (dF (Nu d)) (sk (sr (Kz (vP j 2) (Lz (Z9 ⟨Zb b.k⟩) i 0 B9 ?_))))
 obtain⟨o,h⟩:∃ q,lS b.k=q:=⟨_,Z⟩
 obtain⟨I,p,B,r,C⟩:=JZ i
 refine cl Tryz.call160 (uI _ _ b.k o p h) ?_
 rintro _ J ⟨rfl,s⟩
 have t:=r _ _ s
 refine An Z (rt (rs ?_))
 have u:=t.pk []
 obtain rfl:=zj hr zq3
 exact⟨Z,u⟩
 refine jT (dT d) (sr (Mz Z (An Z (rt (tR (rs ?_))))))
 have x:=i.pk []
 obtain rfl:=zj hr zq2
 exact⟨Z,x⟩
theorem oL (w D j) (H:Own w D w []) (c:j=3):
    Calls y3 66 #[vI j] w (dI λ v w'=>v= .tuple #[Zq o4k.toArray, Y Zj]/\Own w D w' []):=by
 subst c
 refine cb B4 ?_
 refine sr ?_
 refine cB [Y O, Zx, Zx, Zx, Zx] 144 H ?_
 intro l n d
 refine Ar Z (Kz (Zq o2k.toArray) (Kz (Zq o3k.toArray) (Kz (Zq o4k.toArray) (Kz (Zq o5k.toArray) (Kz (Zq o6k.toArray) (Kz (Zq o1k.toArray) ?_))))))
 refine cB [Y O, Zx, Zx, Zx, Zx, Y O, Zx, Zx, Zx, Zx, Y O, Zx, Zx, Zx, Zx, Y O, Zx, Zx, Zx, Zx, Y O, Zx, Zx, Zx, Zx, Y O, Zx, Zx, Zx, Zx] 183 d ?_
 intro e o f
 refine cu o1k 0 f B5 ?_
 intro p a
 refine nt (JS (sr (Mz Z (Kz (Y O) (Mz Z (gw (vI 3) Z (J3 Z) (Gz (Y O) Z (fw (Y O) (QK Z) (nt (jf (sk (sr (Mz Z (Kz (vP e 15) (La o4k a 0 B6 B7 ?_)))))))))))))))
 have g:=a.pb [0]
 refine cu o4k 0 g B7 ?_
 intro q b
 refine An Z (rt (Ke (fQ (vs:= [Zq o4k.toArray, Y Zj]) Z (bS.cell Z (J7 (cs:= o4k) B6 B7 ((b.cls (i:=0) Z).lit (k:=0) (m:=5) Z)) (bS.tmp Z bS.nil)) (Nr Z)) ?_))
 have h:=b.pk []
 exact⟨Z,h⟩
theorem oM (w D j) (H:Own w D w []) (c:j=4):
    Calls y3 66 #[vI j] w (dI λ v w'=>v= .tuple #[Zq o5k.toArray, Y Zj]/\Own w D w' []):=by
 subst c
 refine cb B4 ?_
 refine sr ?_
 refine cB [Y O, Zx, Zx, Zx, Zx] 144 H ?_
 intro l n d
 refine Ar Z (Kz (Zq o2k.toArray) (Kz (Zq o3k.toArray) (Kz (Zq o4k.toArray) (Kz (Zq o5k.toArray) (Kz (Zq o6k.toArray) (Kz (Zq o1k.toArray) ?_))))))
 refine cB [Y O, Zx, Zx, Zx, Zx, Y O, Zx, Zx, Zx, Zx, Y O, Zx, Zx, Zx, Zx, Y O, Zx, Zx, Zx, Zx, Y O, Zx, Zx, Zx, Zx, Y O, Zx, Zx, Zx, Zx] 183 d ?_
 intro e o f
 refine cu o1k 0 f B5 ?_
 intro p a
 refine nt (JS (sr (Mz Z (Kz (Y O) (Mz Z (gw (vI 4) Z (J3 Z) (Gz (Y O) Z (fw (Y O) (QK Z) (nt (jf (sk (sr (Mz Z (Kz (vP e 20) (La o5k a 0 B6 B7 ?_)))))))))))))))
 have g:=a.pb [0]
 refine cu o5k 0 g B7 ?_
 intro q b
 refine An Z (rt (Ke (fQ (vs:= [Zq o5k.toArray, Y Zj]) Z (bS.cell Z (J7 (cs:= o5k) B6 B7 ((b.cls (i:=0) Z).lit (k:=0) (m:=5) Z)) (bS.tmp Z bS.nil)) (Nr Z)) ?_))
 have h:=b.pk []
 exact⟨Z,h⟩
def ut (a:aV):aV:=
 aV.q a.g [] [] a.a a.b a.r
theorem Bp (w D) (a:aV) (g:aV) (H:Own w D w []) (hr:ut a=g):
    Calls y3 106 #[Zq (Zb (aV.L a))] w (dI λ v w'=>v= Zq (Zb (aV.L g))/\Own w D w' []):=by
 refine cb Tryz.func106 ?_
 refine sr ?_
 refine cB (aV.L a) 62 H ?_
 intro c h e
 refine cB [vI 0, Z9 ⟨Zb []⟩, Z9 ⟨Zb []⟩, Z9 ⟨Zb []⟩, Z9 ⟨Zb []⟩,vI 0] 62 e ?_
 intro j l b
 refine ns (Kz (vP c 0) (Lz (vI a.g) b 1 B8 (Kz (vP c 3) (Lz (Z9 ⟨Zb a.a⟩) b 1 B9 (Kz (vP c 4) (Lz (Z9 ⟨Zb a.b⟩) b 1 B9 (Kz (vP c 5) (Lz (vI a.r) b 1 B8 (Kz (Zq #[vI a.g, Z9 ⟨Zb []⟩, Z9 ⟨Zb []⟩, Z9 ⟨Zb a.a⟩, Z9 ⟨Zb a.b⟩,vI a.r]) ?_)))))))))
 refine cu [vI a.g, Z9 ⟨Zb []⟩, Z9 ⟨Zb []⟩, Z9 ⟨Zb a.a⟩, Z9 ⟨Zb a.b⟩,vI a.r] 0 b C0 ?_
 intro n d
 refine nt (rt (Ke (qg Z Z (J7 (cs:= [vI a.g, Z9 ⟨Zb []⟩, Z9 ⟨Zb []⟩, Z9 ⟨Zb a.a⟩, Z9 ⟨Zb a.b⟩,vI a.r]) C1 C0 ((d.cls (i:=0) Z).lit (k:=0) (m:=6) Z))) ?_))
 have f:=d.pk []
 obtain rfl:_=aV.q a.g [] [] a.a a.b a.r:=zj hr Z
 exact⟨Z,f⟩
structure ai where q::
 a:List UInt8
 b:List UInt8
def ai.L (x:ai):List ZQ:= [Z9 ⟨Zb x.a⟩, Z9 ⟨Zb x.b⟩]
instance:Bk ai:=⟨λ x _=>bk x.a+(bk x.b+(0))⟩
theorem ai.len:∀ x,X (ai.L x)=2:=λ _=>rfl
theorem ai.one:∀ x, ∀ u ∈ ai.L x,u.oneCell'=Zj:=λ x u hu=>by
 simp only [ai.L,v1,y2,or_false] at hu
 rcases hu with rfl | rfl <;> rfl
def Lg (w:ZZ) (x:ai):Prop:=(X x.a<=140737488351232)/\(X x.b<=140737488351232)
theorem Cc (w:ZZ):lJ y3 w 38 2 ai.L (Lg w):=
 (nL (sz:=2) C4 f1 (gH.cons (i:=0) (off:=0) (s:=1) Z Z (lL B3 f1) (gH.cons (i:=1) (off:=1) (s:=1) Z Z (lL B3 f1) gH.nil))).map (λ p=>⟨p.1,p.2.1⟩) ai.len (λ _=>rfl) (λ _ h=>⟨h.1,h.2.1⟩) λ _=>s2 _
instance:Inhabited ai:=⟨⟨Zy,Zy⟩⟩
def gF (a:aV):ai:=
 ai.q a.a a.b
theorem l6 (w D) (a:aV) (g:ai) (H:Own w D w []) (hr:gF a=g):
    Calls y3 108 #[Zq (Zb (aV.L a))] w (dI λ v w'=>v= Zq (Zb (ai.L g))/\Own w D w' []):=by
 refine cb Tryz.func108 ?_
 refine sr ?_
 refine cB (aV.L a) 62 H ?_
 intro c h e
 refine cB [Z9 ⟨Zb []⟩, Z9 ⟨Zb []⟩] 38 e ?_
 intro j l b
 refine ns (Kz (vP c 3) (Lz (Z9 ⟨Zb a.a⟩) b 1 B9 (Kz (vP c 4) (Lz (Z9 ⟨Zb a.b⟩) b 1 B9 (Kz (Zq #[Z9 ⟨Zb a.a⟩, Z9 ⟨Zb a.b⟩]) ?_)))))
 refine cu [Z9 ⟨Zb a.a⟩, Z9 ⟨Zb a.b⟩] 0 b C5 ?_
 intro n d
 refine nt (rt (Ke (qg Z Z (J7 (cs:= [Z9 ⟨Zb a.a⟩, Z9 ⟨Zb a.b⟩]) C6 C5 ((d.cls (i:=0) Z).lit (k:=0) (m:=2) Z))) ?_))
 have f:=d.pk []
 obtain rfl:_=ai.q a.a a.b:=zj hr Z
 exact⟨Z,f⟩
def dP (a:ai):Int:=
 if a.a≠[] then bnd (dU a.a) λ b=>if b=0 then if a.b≠[] then bnd (dU a.b) λ c=>if c=0 then if a.b<=a.a then 21 else 0 else 21 else 0 else 21 else if a.b≠[] then bnd (dU a.b) λ d=>if d=0 then if a.b<=a.a then 21 else 0 else 21 else 0
theorem jK (w D) (a:ai) (Z0) (H:Own w D w []) (hr:dP a=Z0):
    Calls y3 64 #[Zq (Zb (ai.L a))] w (dI λ v w'=>v=vI Z0/\Own w D w' []):=by
 unfold dP at hr
 refine cb Tryz.func64 ?_
 refine sr ?_
 refine cB (ai.L a) 38 H ?_
 intro h au k
 refine An Z (JS (sr (Kz (vP h 0) (Lz (Z9 ⟨Zb a.a⟩) k 0 B9 (fw (Za (a.a≠[])) (KH Z Z) (Mz Z ?_))))))
 by_cases d:a.a≠[]
 refine Gz (vP h 0) (dT d) (Gl (Z9 ⟨Zb a.a⟩) (dT d) k 0 B9 ?_)
 obtain⟨l,j⟩:∃ q,dU a.a=q:=⟨_,Z⟩
 obtain⟨av,G,aa,I,af⟩:=JZ k
 refine oI (dT d) C2 (ky _ _ a.a l G j) ?_
 rintro _ ax ⟨rfl,J,z,A⟩
 have s:=I _ _ J
 replace z: ¬ (l=0)\/(1<=X a.a/\X a.a<=12):=z
 replace A:X a.a < 1\/X a.a > 12\/l=0:=A
 refine gw (Za (¬ (l=0))) (dT d) (Kc (e:= !(Zw (l=0))) yk ZW) (fw (Za (¬ (l=0))) (JX Z (dT d) Z) (nt ?_))
 by_cases m:l=0
 refine jF (dF (Nu m)) (sk (JS (sr (Kz (vP h 1) (Lz (Z9 ⟨Zb a.b⟩) s 0 B9 (fw (Za (a.b≠[])) (KH Z Z) (Mz Z ?_)))))))
 by_cases b:a.b≠[]
 refine Gz (vP h 1) (dT b) (Gl (Z9 ⟨Zb a.b⟩) (dT b) s 0 B9 ?_)
 obtain⟨n,p⟩:∃ q,dU a.b=q:=⟨_,Z⟩
 obtain⟨ay,K,ag,L,ah⟩:=JZ s
 refine oI (dT b) C2 (ky _ _ a.b n K p) ?_
 rintro _ az ⟨rfl,M,B,C⟩
 have t:=L _ _ M
 replace B: ¬ (n=0)\/(1<=X a.b/\X a.b<=12):=B
 replace C:X a.b < 1\/X a.b > 12\/n=0:=C
 refine gw (Za (¬ (n=0))) (dT b) (Kc (e:= !(Zw (n=0))) yk ZW) (gw (Za (¬ (n=0))) (dT b) (J3 Z) ?_)
 by_cases f:n=0
 refine gw (vP h 1) (dF (Nu f)) yk (gw (Z9 ⟨Zb a.b⟩) (dF (Nu f)) (J5 Z (bO.one B9 (Kw (t.cls (i:=0) Z) Z))) (gw (vP h 0) (dF (Nu f)) yk (gw (Z9 ⟨Zb a.a⟩) (dF (Nu f)) (J5 Z (bO.one B9 (Kw (t.cls (i:=0) Z) Z))) (gw (Za (a.b<=a.a)) (dF (Nu f)) (Kc (e:=Op.bytesLess a.b a.a || decide (a.b=a.a)) (LB Z Z) (BB _ _)) (gw (Za (a.b<=a.a)) (dT b) (JU Z (dF (Nu f)) Z) (fw (Za (a.b<=a.a)) (JX Z (dT b) Z) (nt ?_)))))))
 by_cases x:a.b<=a.a
 refine jT (dT x) (sr (An Z (rt (tR (rs ?_)))))
 have Q:=t.pk []
 obtain rfl:=zj hr zq7
 exact⟨Z,Q⟩
 refine jF (dF x) (sk (sr (An Z (rt (rs ?_)))))
 have R:=t.pk []
 obtain rfl:=zj hr zq7
 exact⟨Z,R⟩
 refine Sz (dT f) (Sz (dT f) (Sz (dT f) (Sz (dT f) (Sz (dT f) (gw (Y Zj) (dT b) (JX Z (dT f) Z) (fw (Y Zj) (JX Z (dT b) Z) (nt (jt (sr (An Z (rt (tR (rs ?_)))))))))))))
 have S:=t.pk []
 obtain rfl:=zj hr zq6
 exact⟨Z,S⟩
 refine Sz (dF b) (Sz (dF b) (Sz (dF b) (Sz (dF b) (Sz (dF b) (QW (QW (QW (QW (QW (Sz (dF b) (fw (Y O) (JU Z (dF b) Z) (nt (jf (sk (sr (An Z (rt (rs ?_))))))))))))))))))
 have Z7:=s.pk []
 obtain rfl:=zj hr zq4
 exact⟨Z,Z7⟩
 refine jT (dT m) (sr (An Z (rt (tR (rs ?_)))))
 have Z3:=s.pk []
 obtain rfl:=zj hr zq3
 exact⟨Z,Z3⟩
 refine Sz (dF d) (Sz (dF d) (Sz (dF d) (Sz (dF d) (fw (Y O) (JU Z (dF d) Z) (nt (jf (sk (JS (sr (Kz (vP h 1) (Lz (Z9 ⟨Zb a.b⟩) k 0 B9 (fw (Za (a.b≠[])) (KH Z Z) (Mz Z ?_)))))))))))))
 by_cases c:a.b≠[]
 refine Gz (vP h 1) (dT c) (Gl (Z9 ⟨Zb a.b⟩) (dT c) k 0 B9 ?_)
 obtain⟨o,r⟩:∃ q,dU a.b=q:=⟨_,Z⟩
 obtain⟨aA,Z5,aj,Z6,ak⟩:=JZ k
 refine oI (dT c) C2 (ky _ _ a.b o Z5 r) ?_
 rintro _ aB ⟨rfl,P,E,F⟩
 have u:=Z6 _ _ P
 replace E: ¬ (o=0)\/(1<=X a.b/\X a.b<=12):=E
 replace F:X a.b < 1\/X a.b > 12\/o=0:=F
 refine gw (Za (¬ (o=0))) (dT c) (Kc (e:= !(Zw (o=0))) yk ZW) (gw (Za (¬ (o=0))) (dT c) (J3 Z) ?_)
 by_cases g:o=0
 refine gw (vP h 1) (dF (Nu g)) yk (gw (Z9 ⟨Zb a.b⟩) (dF (Nu g)) (J5 Z (bO.one B9 (Kw (u.cls (i:=0) Z) Z))) (gw (vP h 0) (dF (Nu g)) yk (gw (Z9 ⟨Zb a.a⟩) (dF (Nu g)) (J5 Z (bO.one B9 (Kw (u.cls (i:=0) Z) Z))) (gw (Za (a.b<=a.a)) (dF (Nu g)) (Kc (e:=Op.bytesLess a.b a.a || decide (a.b=a.a)) (LB Z Z) (BB _ _)) (gw (Za (a.b<=a.a)) (dT c) (JU Z (dF (Nu g)) Z) (fw (Za (a.b<=a.a)) (JX Z (dT c) Z) (nt ?_)))))))
 by_cases y:a.b<=a.a
 refine jT (dT y) (sr (An Z (rt (tR (rs ?_)))))
 have Z4:=u.pk []
 obtain rfl:=zj hr zq5
 exact⟨Z,Z4⟩
 refine jF (dF y) (sk (sr (An Z (rt (rs ?_)))))
 have Z8:=u.pk []
 obtain rfl:=zj hr zq5
 exact⟨Z,Z8⟩
 refine Sz (dT g) (Sz (dT g) (Sz (dT g) (Sz (dT g) (Sz (dT g) (gw (Y Zj) (dT c) (JX Z (dT g) Z) (fw (Y Zj) (JX Z (dT c) Z) (nt (jt (sr (An Z (rt (tR (rs ?_)))))))))))))
 have Z1:=u.pk []
 obtain rfl:=zj hr zq4
 exact⟨Z,Z1⟩
 refine Sz (dF c) (Sz (dF c) (Sz (dF c) (Sz (dF c) (Sz (dF c) (QW (QW (QW (QW (QW (Sz (dF c) (fw (Y O) (JU Z (dF c) Z) (nt (jf (sk (sr (An Z (rt (rs ?_))))))))))))))))))
 have Z2:=k.pk []
 obtain rfl:=zj hr zq2
 exact⟨Z,Z2⟩
def ng (c:aV):Int:=
 bnd (gF c) λ a=>bnd (dP a) λ b=>b
theorem uJ (w D) (d:aV) (p) (H:Own w D w []) (hr:ng d=p):
    Calls y3 111 #[Zq (Zb (aV.L d))] w (dI λ v w'=>v=vI p/\Own w D w' []):=by
 unfold ng at hr
 refine cb Tryz.func111 ?_
 refine sr ?_
 refine cB (aV.L d) 62 H ?_
 intro x y e
 refine Ar Z (La (aV.L d) e 0 C1 C0 ?_)
 obtain⟨c,a⟩:∃ q,gF d=q:=⟨_,Z⟩
 obtain⟨z,f,r,g,s⟩:=JZ e
 refine cl Tryz.call108 (l6 _ _ d c f a) ?_
 rintro _ A ⟨rfl,h⟩
 have m:=g _ _ h
 obtain⟨i,b⟩:∃ q,dP c=q:=⟨_,Z⟩
 obtain⟨B,j,t,k,u⟩:=JZ m
 refine cl C7 (jK _ _ c i j b) ?_
 rintro _ C ⟨rfl,l⟩
 have n:=k _ _ l
 refine An Z (rt (rs ?_))
 have o:=n.pk []
 obtain rfl:=zj hr zq2
 exact⟨Z,o⟩
def qo (b:aV):Int:=
 bnd (ng b) λ a=>if a=0 then if b.r < 1 then 1 else if b.r > 4 then 1 else 0 else a
theorem zy (w D) (c:aV) (s) (H:Own w D w []) (hr:qo c=s):
    Calls y3 107 #[Zq (Zb (aV.L c))] w (dI λ v w'=>v=vI s/\Own w D w' []):=by
 unfold qo at hr
 refine cb Tryz.func107 ?_
 refine sr ?_
 refine cB (aV.L c) 62 H ?_
 intro i x j
 refine An Z (JS (sr (La (aV.L c) j 0 C1 C0 ?_)))
 obtain⟨g,b⟩:∃ q,ng c=q:=⟨_,Z⟩
 obtain⟨y,k,t,l,u⟩:=JZ j
 refine cl Tryz.call111 (uJ _ _ c g k b) ?_
 rintro _ z ⟨rfl,m⟩
 have d:=l _ _ m
 refine Ar Z (Mz Z (fw (Za (¬ (g=0))) (Kc (e:= !(Zw (g=0))) yk ZW) (nt ?_)))
 by_cases f:g=0
 refine jF (dF (Nu f)) (sk (JS (sr (Kz (vP i 5) (Lz (vI c.r) d 0 B8 (Kz (Za (c.r < 1)) (Mz Z ?_)))))))
 by_cases a:c.r < 1
 refine Sz (dT a) (Sz (dT a) (Sz (dT a) (fw (Y Zj) (JX Z (dT a) Z) (nt (jt (sr (An Z (rt (tR (rs ?_))))))))))
 have n:=d.pk []
 obtain rfl:=zj hr zq3
 exact⟨Z,n⟩
 refine Gz (vP i 5) (dF a) (Gl (vI c.r) (dF a) d 0 B8 (Gz (Za (c.r > 4)) (dF a) (fw (Za (c.r > 4)) (JU Z (dF a) Z) (nt ?_))))
 by_cases h:c.r > 4
 refine jT (dT h) (sr (An Z (rt (tR (rs ?_)))))
 have o:=d.pk []
 obtain rfl:=zj hr zq4
 exact⟨Z,o⟩
 refine jF (dF h) (sk (sr (An Z (rt (rs ?_)))))
 have p:=d.pk []
 obtain rfl:=zj hr zq4
 exact⟨Z,p⟩
 refine jT (dT f) (sr (Mz Z (An Z (rt (tR (rs ?_))))))
 have r:=d.pk []
 obtain rfl:=zj hr zq2
 exact⟨Z,r⟩
theorem oN (w D j) (H:Own w D w []) (c:j=5):
    Calls y3 66 #[vI j] w (dI λ v w'=>v= .tuple #[Zq o6k.toArray, Y Zj]/\Own w D w' []):=by
 subst c
 refine cb B4 ?_
 refine sr ?_
 refine cB [Y O, Zx, Zx, Zx, Zx] 144 H ?_
 intro l n d
 refine Ar Z (Kz (Zq o2k.toArray) (Kz (Zq o3k.toArray) (Kz (Zq o4k.toArray) (Kz (Zq o5k.toArray) (Kz (Zq o6k.toArray) (Kz (Zq o1k.toArray) ?_))))))
 refine cB [Y O, Zx, Zx, Zx, Zx, Y O, Zx, Zx, Zx, Zx, Y O, Zx, Zx, Zx, Zx, Y O, Zx, Zx, Zx, Zx, Y O, Zx, Zx, Zx, Zx, Y O, Zx, Zx, Zx, Zx] 183 d ?_
 intro e o f
 refine cu o1k 0 f B5 ?_
 intro p a
 refine nt (JS (sr (Mz Z (Kz (Y O) (Mz Z (gw (vI 5) Z (J3 Z) (Gz (Y O) Z (fw (Y O) (QK Z) (nt (jf (sk (sr (Mz Z (Kz (vP e 25) (La o6k a 0 B6 B7 ?_)))))))))))))))
 have g:=a.pb [0]
 refine cu o6k 0 g B7 ?_
 intro q b
 refine An Z (rt (Ke (fQ (vs:= [Zq o6k.toArray, Y Zj]) Z (bS.cell Z (J7 (cs:= o6k) B6 B7 ((b.cls (i:=0) Z).lit (k:=0) (m:=5) Z)) (bS.tmp Z bS.nil)) (Nr Z)) ?_))
 have h:=b.pk []
 exact⟨Z,h⟩
def tQ (a:aV):aV:=
 aV.q a.g [] [] a.a a.b 0
theorem Ai (w D) (a:aV) (g:aV) (H:Own w D w []) (hr:tQ a=g):
    Calls y3 110 #[Zq (Zb (aV.L a))] w (dI λ v w'=>v= Zq (Zb (aV.L g))/\Own w D w' []):=by
 refine cb Tryz.func110 ?_
 refine sr ?_
 refine cB (aV.L a) 62 H ?_
 intro c h e
 refine cB [vI 0, Z9 ⟨Zb []⟩, Z9 ⟨Zb []⟩, Z9 ⟨Zb []⟩, Z9 ⟨Zb []⟩,vI 0] 62 e ?_
 intro j l b
 refine ns (Kz (vP c 0) (Lz (vI a.g) b 1 B8 (Kz (vP c 3) (Lz (Z9 ⟨Zb a.a⟩) b 1 B9 (Kz (vP c 4) (Lz (Z9 ⟨Zb a.b⟩) b 1 B9 (Kz (Zq #[vI a.g, Z9 ⟨Zb []⟩, Z9 ⟨Zb []⟩, Z9 ⟨Zb a.a⟩, Z9 ⟨Zb a.b⟩,vI 0]) ?_)))))))
 refine cu [vI a.g, Z9 ⟨Zb []⟩, Z9 ⟨Zb []⟩, Z9 ⟨Zb a.a⟩, Z9 ⟨Zb a.b⟩,vI 0] 0 b C0 ?_
 intro n d
 refine nt (rt (Ke (qg Z Z (J7 (cs:= [vI a.g, Z9 ⟨Zb []⟩, Z9 ⟨Zb []⟩, Z9 ⟨Zb a.a⟩, Z9 ⟨Zb a.b⟩,vI 0]) C1 C0 ((d.cls (i:=0) Z).lit (k:=0) (m:=6) Z))) ?_))
 have f:=d.pk []
 obtain rfl:_=aV.q a.g [] [] a.a a.b 0:=zj hr Z
 exact⟨Z,f⟩
theorem vg (w D b) (H:Own w D w []) (p: ¬ (b=1)) (q: ¬ (b=2)) (r: ¬ (b=3)) (s: ¬ (b=4)) (t: ¬ (b=5)):
    Calls y3 66 #[vI b] w (dI λ v w'=>v= .tuple #[Zq #[Y O, Zx, Zx, Zx, Zx], Y O]/\Own w D w' []):=by
 refine cb B4 ?_
 refine sr ?_
 refine cB [Y O, Zx, Zx, Zx, Zx] 144 H ?_
 intro u x g
 refine Ar Z (Kz (Zq o2k.toArray) (Kz (Zq o3k.toArray) (Kz (Zq o4k.toArray) (Kz (Zq o5k.toArray) (Kz (Zq o6k.toArray) (Kz (Zq o1k.toArray) ?_))))))
 refine cB [Y O, Zx, Zx, Zx, Zx, Y O, Zx, Zx, Zx, Zx, Y O, Zx, Zx, Zx, Zx, Y O, Zx, Zx, Zx, Zx, Y O, Zx, Zx, Zx, Zx, Y O, Zx, Zx, Zx, Zx] 183 g ?_
 intro y z h
 refine cu o1k 0 h B5 ?_
 intro A c
 refine nt (JS (sr (Mz Z (Kz (Za (b<=0)) (Mz Z ?_)))))
 by_cases a:b<=0
 refine Sz (dT a) (Sz (dT a) (fw (Y Zj) (JX Z (dT a) Z) (nt (jt (sr (Kz (Zq #[Y O, Zx, Zx, Zx, Zx]) ?_))))))
 have j:=c.pb [0]
 refine cu [Y O, Zx, Zx, Zx, Zx] 0 j B7 ?_
 intro B d
 refine An Z (rt (tR (Ke (fQ (vs:= [Zq #[Y O, Zx, Zx, Zx, Zx], Y O]) Z (bS.cell Z (J7 (cs:= [Y O, Zx, Zx, Zx, Zx]) B6 B7 ((d.cls (i:=0) Z).lit (k:=0) (m:=5) Z)) (bS.tmp Z bS.nil)) (Nr Z)) ?_)))
 have l:=d.pk []
 exact⟨Z,l⟩
 refine gw (vI b) (dF a) (J3 Z) (Gz (Za (b >= 6)) (dF a) (fw (Za (b >= 6)) (JU Z (dF a) Z) (nt ?_)))
 have e:(Zw (b >= 6))=Zj:=(dT U)
 refine jT e (sr (Kz (Zq #[Y O, Zx, Zx, Zx, Zx]) ?_))
 have n:=c.pb [0]
 refine cu [Y O, Zx, Zx, Zx, Zx] 0 n B7 ?_
 intro C f
 refine An Z (rt (tR (Ke (fQ (vs:= [Zq #[Y O, Zx, Zx, Zx, Zx], Y O]) Z (bS.cell Z (J7 (cs:= [Y O, Zx, Zx, Zx, Zx]) B6 B7 ((f.cls (i:=0) Z).lit (k:=0) (m:=5) Z)) (bS.tmp Z bS.nil)) (Nr Z)) ?_)))
 have o:=f.pk []
 exact⟨Z,o⟩
def eF (a:aV):Int:=
 if a.g=1 then bnd (qj a) λ e=>if(e.g=a.g)/\(e.j=a.j)/\(e.k=a.k)/\(e.a=a.a)/\(e.b=a.b)/\(e.r=a.r) then bnd (oo a) λ j=>j else 40 else if a.g=2 then bnd (uq a) λ f=>if(f.g=a.g)/\(f.j=a.j)/\(f.k=a.k)/\(f.a=a.a)/\(f.b=a.b)/\(f.r=a.r) then bnd (qm a) λ k=>k else 40 else if a.g=3 then bnd (qj a) λ b=>if(b.g=a.g)/\(b.j=a.j)/\(b.k=a.k)/\(b.a=a.a)/\(b.b=a.b)/\(b.r=a.r) then bnd (oo a) λ g=>g else 40 else if a.g=4 then bnd (ut a) λ c=>if(c.g=a.g)/\(c.j=a.j)/\(c.k=a.k)/\(c.a=a.a)/\(c.b=a.b)/\(c.r=a.r) then bnd (qo a) λ h=>h else 40 else if a.g=5 then bnd (tQ a) λ d=>if(d.g=a.g)/\(d.j=a.j)/\(d.k=a.k)/\(d.a=a.a)/\(d.b=a.b)/\(d.r=a.r) then bnd (ng a) λ i=>i else 40 else 40
theorem rD (w D) (a:aV) (r0) (H:Own w D w []) (hr:eF a=r0):
    Calls y3 62 #[Zq (Zb (aV.L a))] w (dI λ v w'=>v=vI r0/\Own w D w' []/\(¬ (r0=0)\/(1<=a.g/\a.g<=5))):=by
 unfold eF at hr
 refine cb Tryz.func62 ?_
 refine sr ?_
 refine cB (aV.L a) 62 H ?_
 intro dx gM t
 refine Ar Z (Kz (vP dx 0) (Lz (vI a.g) t 0 B8 ?_))
 by_cases l:a.g=1
 obtain⟨gN,aR,eO,aS,eP⟩:=JZ t
 refine cl D0 (oJ _ _ a.g aR (of_decide_eq_true (dT l))) ?_
 rintro _ gP ⟨rfl,aT⟩
 have dz:=aS _ _ aT
 refine Mz Z (Kz (Zq o2k.toArray) (Kz (Y Zj) ?_))
 refine cB [Y O, Zx, Zx, Zx, Zx] 144 dz ?_
 intro aU gQ dA
 refine cu o2k 0 dA B7 ?_
 intro gT dB
 refine An Z (JS (JS ?_))
 refine oZ [] (J6 (J6 Kg)) dB ?_
 intro gU dC
 refine qv 0 Z Z (qk (Y O) 1 Z (qv 2 Z Z (J2 (v:=vP aU 1) (rs:= []) 3 Z Z Z Z f1 (λ _ _=>yk) (J2 (v:= .func (.func 98) #[] #[]) (rs:= []) 4 Z Z Z Z f1 (λ _ ⟨_,h⟩=>J5 Z (bO.one D1 (Kw (h.cls (i:=0) Z) Z))) (J2 (v:= Zq (Zb (aV.L a))) (rs:= []) 5 Z Z Z Z f1 (λ _ ⟨_,h⟩=>J5 Z (J7 (cs:=(aV.L a)) C1 C0 ((h.cls (i:=1) Z).lit (k:=0) (m:=6) Z))) (J2 (v:= Zq (Zb (aV.L a))) (rs:= []) 7 Z Z Z Z f1 (λ _ ⟨_,h⟩=>J5 Z (J7 (cs:=(aV.L a)) C1 C0 ((h.cls (i:=1) Z).lit (k:=0) (m:=6) Z))) ?_))))))
 obtain⟨f,F⟩:∃ q,qj a=q:=⟨_,Z⟩
 obtain⟨gV,aW,eQ,aX,eU⟩:=JZ dC
 refine KG 6 Z Z Z Z f1 (KA Tryz.call98 Z Z (xA _ _ a f aW F) ?_)
 rintro _ gW ⟨rfl,aY⟩
 have G:=aX _ _ aY
 refine⟨.inr ⟨_,G⟩, ?_⟩
 refine J2 (v:= Za (¬ ((f.g=a.g)/\(f.j=a.j)/\(f.k=a.k)/\(f.a=a.a)/\(f.b=a.b)/\(f.r=a.r)))) (rs:= []) 8 Z Z Z Z f1 (λ _ _=>Kc (e:= !(Zw ((f.g=a.g)/\(f.j=a.j)/\(f.k=a.k)/\(f.a=a.a)/\(f.b=a.b)/\(f.r=a.r)))) (KL Z Z f1 Z (fK.struct y4 f1 (KI (eH.cons (u:=vI f.g) (v:=vI a.g) f7 ZY ZY (fK.int y6) (eH.cons (u:= Z9 ⟨Zb f.j⟩) (v:= Z9 ⟨Zb a.j⟩) f7 ZY ZY (fK.string B3) (eH.cons (u:= Z9 ⟨Zb f.k⟩) (v:= Z9 ⟨Zb a.k⟩) f7 ZY ZY (fK.string B3) (eH.cons (u:= Z9 ⟨Zb f.a⟩) (v:= Z9 ⟨Zb a.a⟩) f7 ZY ZY (fK.string B3) (eH.cons (u:= Z9 ⟨Zb f.b⟩) (v:= Z9 ⟨Zb a.b⟩) f7 ZY ZY (fK.string B3) (eH.cons (u:=vI f.r) (v:=vI a.r) f7 ZY ZY (fK.int y6) (eH.nil.up (Nt _)))))))) ((ZX (Zw (f.g=a.g) && ·) ((ZX (Zw (f.j=a.j) && ·) ((ZX (Zw (f.k=a.k) && ·) ((ZX (Zw (f.a=a.a) && ·) ((ZX (Zw (f.b=a.b) && ·) jB).trans eT)).trans eT)).trans eT)).trans eT)).trans eT)))) ZW) (qt (v:= Za (¬ ((f.g=a.g)/\(f.j=a.j)/\(f.k=a.k)/\(f.a=a.a)/\(f.b=a.b)/\(f.r=a.r)))) 9 Z (λ _ _=>QK Z) (qn (JY ?_)))
 by_cases Z5:(f.g=a.g)/\(f.j=a.j)/\(f.k=a.k)/\(f.a=a.a)/\(f.b=a.b)/\(f.r=a.r)
 refine jF (dF (Nu Z5)) (sk (sr (Kz (vP aU 2) (Lz (.func (.func 99) #[] #[]) G 0 D2 (La (aV.L a) G 1 C1 C0 ?_)))))
 obtain⟨aZ,P⟩:∃ q,oo a=q:=⟨_,Z⟩
 obtain⟨gX,bf,eX,bg,eY⟩:=JZ G
 refine WL.do Z (KA Tryz.call99 Z Z (vS _ _ a aZ bf P) ?_)
 rintro _ gY ⟨rfl,bi⟩
 have dD:=bg _ _ bi
 refine An Z (rt (rs ?_))
 have dE:=dD.pk []
 obtain rfl:=zj hr zq4
 exact⟨Z,dE,U⟩
 refine jT (dT Z5) (sr (An Z (rt (tR (rs ?_)))))
 have dG:=G.pk []
 obtain rfl:=zj hr zq3
 exact⟨Z,dG,U⟩
 by_cases n:a.g=2
 obtain⟨gZ,bn,eZ,bq,fe⟩:=JZ t
 refine cl D0 (oK _ _ a.g bn (of_decide_eq_true (dT n))) ?_
 rintro _ ib ⟨rfl,bu⟩
 have dH:=bq _ _ bu
 refine Mz Z (Kz (Zq o3k.toArray) (Kz (Y Zj) ?_))
 refine cB [Y O, Zx, Zx, Zx, Zx] 144 dH ?_
 intro bv ic dJ
 refine cu o3k 0 dJ B7 ?_
 intro ig dK
 refine An Z (JS (JS ?_))
 refine oZ [] (J6 (J6 Kg)) dK ?_
 intro ik dL
 refine qv 0 Z Z (qk (Y O) 1 Z (qv 2 Z Z (J2 (v:=vP bv 1) (rs:= []) 3 Z Z Z Z f1 (λ _ _=>yk) (J2 (v:= .func (.func 102) #[] #[]) (rs:= []) 4 Z Z Z Z f1 (λ _ ⟨_,h⟩=>J5 Z (bO.one D1 (Kw (h.cls (i:=0) Z) Z))) (J2 (v:= Zq (Zb (aV.L a))) (rs:= []) 5 Z Z Z Z f1 (λ _ ⟨_,h⟩=>J5 Z (J7 (cs:=(aV.L a)) C1 C0 ((h.cls (i:=1) Z).lit (k:=0) (m:=6) Z))) (J2 (v:= Zq (Zb (aV.L a))) (rs:= []) 7 Z Z Z Z f1 (λ _ ⟨_,h⟩=>J5 Z (J7 (cs:=(aV.L a)) C1 C0 ((h.cls (i:=1) Z).lit (k:=0) (m:=6) Z))) ?_))))))
 obtain⟨g,I⟩:∃ q,uq a=q:=⟨_,Z⟩
 obtain⟨il,bz,fo,bA,fq⟩:=JZ dL
 refine KG 6 Z Z Z Z f1 (KA Tryz.call102 Z Z (Bo _ _ a g bz I) ?_)
 rintro _ iq ⟨rfl,bB⟩
 have J:=bA _ _ bB
 refine⟨.inr ⟨_,J⟩, ?_⟩
 refine J2 (v:= Za (¬ ((g.g=a.g)/\(g.j=a.j)/\(g.k=a.k)/\(g.a=a.a)/\(g.b=a.b)/\(g.r=a.r)))) (rs:= []) 8 Z Z Z Z f1 (λ _ _=>Kc (e:= !(Zw ((g.g=a.g)/\(g.j=a.j)/\(g.k=a.k)/\(g.a=a.a)/\(g.b=a.b)/\(g.r=a.r)))) (KL Z Z f1 Z (fK.struct y4 f1 (KI (eH.cons (u:=vI g.g) (v:=vI a.g) f7 ZY ZY (fK.int y6) (eH.cons (u:= Z9 ⟨Zb g.j⟩) (v:= Z9 ⟨Zb a.j⟩) f7 ZY ZY (fK.string B3) (eH.cons (u:= Z9 ⟨Zb g.k⟩) (v:= Z9 ⟨Zb a.k⟩) f7 ZY ZY (fK.string B3) (eH.cons (u:= Z9 ⟨Zb g.a⟩) (v:= Z9 ⟨Zb a.a⟩) f7 ZY ZY (fK.string B3) (eH.cons (u:= Z9 ⟨Zb g.b⟩) (v:= Z9 ⟨Zb a.b⟩) f7 ZY ZY (fK.string B3) (eH.cons (u:=vI g.r) (v:=vI a.r) f7 ZY ZY (fK.int y6) (eH.nil.up (Nt _)))))))) ((ZX (Zw (g.g=a.g) && ·) ((ZX (Zw (g.j=a.j) && ·) ((ZX (Zw (g.k=a.k) && ·) ((ZX (Zw (g.a=a.a) && ·) ((ZX (Zw (g.b=a.b) && ·) jB).trans eT)).trans eT)).trans eT)).trans eT)).trans eT)))) ZW) (qt (v:= Za (¬ ((g.g=a.g)/\(g.j=a.j)/\(g.k=a.k)/\(g.a=a.a)/\(g.b=a.b)/\(g.r=a.r)))) 9 Z (λ _ _=>QK Z) (qn (JY ?_)))
 by_cases Z6:(g.g=a.g)/\(g.j=a.j)/\(g.k=a.k)/\(g.a=a.a)/\(g.b=a.b)/\(g.r=a.r)
 refine jF (dF (Nu Z6)) (sk (sr (Kz (vP bv 2) (Lz (.func (.func 103) #[] #[]) J 0 D2 (La (aV.L a) J 1 C1 C0 ?_)))))
 obtain⟨bC,Q⟩:∃ q,qm a=q:=⟨_,Z⟩
 obtain⟨iw,bD,fu,bE,fw⟩:=JZ J
 refine WL.do Z (KA Tryz.call103 Z Z (zx _ _ a bC bD Q) ?_)
 rintro _ iy ⟨rfl,Z1⟩
 have bF:=bE _ _ Z1
 refine An Z (rt (rs ?_))
 have bG:=bF.pk []
 obtain rfl:=zj hr zq5
 exact⟨Z,bG,U⟩
 refine jT (dT Z6) (sr (An Z (rt (tR (rs ?_)))))
 have bH:=J.pk []
 obtain rfl:=zj hr zq4
 exact⟨Z,bH,U⟩
 by_cases j:a.g=3
 obtain⟨fA,Z2,dM,Z0,dN⟩:=JZ t
 refine cl D0 (oL _ _ a.g Z2 (of_decide_eq_true (dT j))) ?_
 rintro _ fB ⟨rfl,aa⟩
 have bI:=Z0 _ _ aa
 refine Mz Z (Kz (Zq o4k.toArray) (Kz (Y Zj) ?_))
 refine cB [Y O, Zx, Zx, Zx, Zx] 144 bI ?_
 intro R fC bJ
 refine cu o4k 0 bJ B7 ?_
 intro fD bK
 refine An Z (JS (JS ?_))
 refine oZ [] (J6 (J6 Kg)) bK ?_
 intro fE bL
 refine qv 0 Z Z (qk (Y O) 1 Z (qv 2 Z Z (J2 (v:=vP R 1) (rs:= []) 3 Z Z Z Z f1 (λ _ _=>yk) (J2 (v:= .func (.func 98) #[] #[]) (rs:= []) 4 Z Z Z Z f1 (λ _ ⟨_,h⟩=>J5 Z (bO.one D1 (Kw (h.cls (i:=0) Z) Z))) (J2 (v:= Zq (Zb (aV.L a))) (rs:= []) 5 Z Z Z Z f1 (λ _ ⟨_,h⟩=>J5 Z (J7 (cs:=(aV.L a)) C1 C0 ((h.cls (i:=1) Z).lit (k:=0) (m:=6) Z))) (J2 (v:= Zq (Zb (aV.L a))) (rs:= []) 7 Z Z Z Z f1 (λ _ ⟨_,h⟩=>J5 Z (J7 (cs:=(aV.L a)) C1 C0 ((h.cls (i:=1) Z).lit (k:=0) (m:=6) Z))) ?_))))))
 obtain⟨b,x⟩:∃ q,qj a=q:=⟨_,Z⟩
 obtain⟨fF,af,dO,ag,dP⟩:=JZ bL
 refine KG 6 Z Z Z Z f1 (KA Tryz.call98 Z Z (xA _ _ a b af x) ?_)
 rintro _ fG ⟨rfl,ah⟩
 have p:=ag _ _ ah
 refine⟨.inr ⟨_,p⟩, ?_⟩
 refine J2 (v:= Za (¬ ((b.g=a.g)/\(b.j=a.j)/\(b.k=a.k)/\(b.a=a.a)/\(b.b=a.b)/\(b.r=a.r)))) (rs:= []) 8 Z Z Z Z f1 (λ _ _=>Kc (e:= !(Zw ((b.g=a.g)/\(b.j=a.j)/\(b.k=a.k)/\(b.a=a.a)/\(b.b=a.b)/\(b.r=a.r)))) (KL Z Z f1 Z (fK.struct y4 f1 (KI (eH.cons (u:=vI b.g) (v:=vI a.g) f7 ZY ZY (fK.int y6) (eH.cons (u:= Z9 ⟨Zb b.j⟩) (v:= Z9 ⟨Zb a.j⟩) f7 ZY ZY (fK.string B3) (eH.cons (u:= Z9 ⟨Zb b.k⟩) (v:= Z9 ⟨Zb a.k⟩) f7 ZY ZY (fK.string B3) (eH.cons (u:= Z9 ⟨Zb b.a⟩) (v:= Z9 ⟨Zb a.a⟩) f7 ZY ZY (fK.string B3) (eH.cons (u:= Z9 ⟨Zb b.b⟩) (v:= Z9 ⟨Zb a.b⟩) f7 ZY ZY (fK.string B3) (eH.cons (u:=vI b.r) (v:=vI a.r) f7 ZY ZY (fK.int y6) (eH.nil.up (Nt _)))))))) ((ZX (Zw (b.g=a.g) && ·) ((ZX (Zw (b.j=a.j) && ·) ((ZX (Zw (b.k=a.k) && ·) ((ZX (Zw (b.a=a.a) && ·) ((ZX (Zw (b.b=a.b) && ·) jB).trans eT)).trans eT)).trans eT)).trans eT)).trans eT)))) ZW) (qt (v:= Za (¬ ((b.g=a.g)/\(b.j=a.j)/\(b.k=a.k)/\(b.a=a.a)/\(b.b=a.b)/\(b.r=a.r)))) 9 Z (λ _ _=>QK Z) (qn (JY ?_)))
 by_cases A:(b.g=a.g)/\(b.j=a.j)/\(b.k=a.k)/\(b.a=a.a)/\(b.b=a.b)/\(b.r=a.r)
 refine jF (dF (Nu A)) (sk (sr (Kz (vP R 2) (Lz (.func (.func 99) #[] #[]) p 0 D2 (La (aV.L a) p 1 C1 C0 ?_)))))
 obtain⟨S,K⟩:∃ q,oo a=q:=⟨_,Z⟩
 obtain⟨fH,ai,dQ,aj,dR⟩:=JZ p
 refine WL.do Z (KA Tryz.call99 Z Z (vS _ _ a S ai K) ?_)
 rintro _ fI ⟨rfl,ak⟩
 have bM:=aj _ _ ak
 refine An Z (rt (rs ?_))
 have bN:=bM.pk []
 obtain rfl:=zj hr zq6
 exact⟨Z,bN,U⟩
 refine jT (dT A) (sr (An Z (rt (tR (rs ?_)))))
 have bP:=p.pk []
 obtain rfl:=zj hr zq5
 exact⟨Z,bP,U⟩
 by_cases o:a.g=4
 obtain⟨fJ,au,dS,av,dU⟩:=JZ t
 refine cl D0 (oM _ _ a.g au (of_decide_eq_true (dT o))) ?_
 rintro _ fM ⟨rfl,ax⟩
 have bQ:=av _ _ ax
 refine Mz Z (Kz (Zq o5k.toArray) (Kz (Y Zj) ?_))
 refine cB [Y O, Zx, Zx, Zx, Zx] 144 bQ ?_
 intro Z7 fO bR
 refine cu o5k 0 bR B7 ?_
 intro fP bS
 refine An Z (JS (JS ?_))
 refine oZ [] (J6 (J6 Kg)) bS ?_
 intro fQ bT
 refine qv 0 Z Z (qk (Y O) 1 Z (qv 2 Z Z (J2 (v:=vP Z7 1) (rs:= []) 3 Z Z Z Z f1 (λ _ _=>yk) (J2 (v:= .func (.func 106) #[] #[]) (rs:= []) 4 Z Z Z Z f1 (λ _ ⟨_,h⟩=>J5 Z (bO.one D1 (Kw (h.cls (i:=0) Z) Z))) (J2 (v:= Zq (Zb (aV.L a))) (rs:= []) 5 Z Z Z Z f1 (λ _ ⟨_,h⟩=>J5 Z (J7 (cs:=(aV.L a)) C1 C0 ((h.cls (i:=1) Z).lit (k:=0) (m:=6) Z))) (J2 (v:= Zq (Zb (aV.L a))) (rs:= []) 7 Z Z Z Z f1 (λ _ ⟨_,h⟩=>J5 Z (J7 (cs:=(aV.L a)) C1 C0 ((h.cls (i:=1) Z).lit (k:=0) (m:=6) Z))) ?_))))))
 obtain⟨c,y⟩:∃ q,ut a=q:=⟨_,Z⟩
 obtain⟨fT,ay,dV,az,dW⟩:=JZ bT
 refine KG 6 Z Z Z Z f1 (KA Tryz.call106 Z Z (Bp _ _ a c ay y) ?_)
 rintro _ fU ⟨rfl,aA⟩
 have r:=az _ _ aA
 refine⟨.inr ⟨_,r⟩, ?_⟩
 refine J2 (v:= Za (¬ ((c.g=a.g)/\(c.j=a.j)/\(c.k=a.k)/\(c.a=a.a)/\(c.b=a.b)/\(c.r=a.r)))) (rs:= []) 8 Z Z Z Z f1 (λ _ _=>Kc (e:= !(Zw ((c.g=a.g)/\(c.j=a.j)/\(c.k=a.k)/\(c.a=a.a)/\(c.b=a.b)/\(c.r=a.r)))) (KL Z Z f1 Z (fK.struct y4 f1 (KI (eH.cons (u:=vI c.g) (v:=vI a.g) f7 ZY ZY (fK.int y6) (eH.cons (u:= Z9 ⟨Zb c.j⟩) (v:= Z9 ⟨Zb a.j⟩) f7 ZY ZY (fK.string B3) (eH.cons (u:= Z9 ⟨Zb c.k⟩) (v:= Z9 ⟨Zb a.k⟩) f7 ZY ZY (fK.string B3) (eH.cons (u:= Z9 ⟨Zb c.a⟩) (v:= Z9 ⟨Zb a.a⟩) f7 ZY ZY (fK.string B3) (eH.cons (u:= Z9 ⟨Zb c.b⟩) (v:= Z9 ⟨Zb a.b⟩) f7 ZY ZY (fK.string B3) (eH.cons (u:=vI c.r) (v:=vI a.r) f7 ZY ZY (fK.int y6) (eH.nil.up (Nt _)))))))) ((ZX (Zw (c.g=a.g) && ·) ((ZX (Zw (c.j=a.j) && ·) ((ZX (Zw (c.k=a.k) && ·) ((ZX (Zw (c.a=a.a) && ·) ((ZX (Zw (c.b=a.b) && ·) jB).trans eT)).trans eT)).trans eT)).trans eT)).trans eT)))) ZW) (qt (v:= Za (¬ ((c.g=a.g)/\(c.j=a.j)/\(c.k=a.k)/\(c.a=a.a)/\(c.b=a.b)/\(c.r=a.r)))) 9 Z (λ _ _=>QK Z) (qn (JY ?_)))
 by_cases B:(c.g=a.g)/\(c.j=a.j)/\(c.k=a.k)/\(c.a=a.a)/\(c.b=a.b)/\(c.r=a.r)
 refine jF (dF (Nu B)) (sk (sr (Kz (vP Z7 2) (Lz (.func (.func 107) #[] #[]) r 0 D2 (La (aV.L a) r 1 C1 C0 ?_)))))
 obtain⟨Z3,L⟩:∃ q,qo a=q:=⟨_,Z⟩
 obtain⟨fV,aB,dX,aC,dY⟩:=JZ r
 refine WL.do Z (KA Tryz.call107 Z Z (zy _ _ a Z3 aB L) ?_)
 rintro _ fZ ⟨rfl,aD⟩
 have bU:=aC _ _ aD
 refine An Z (rt (rs ?_))
 have bV:=bU.pk []
 obtain rfl:=zj hr zq7
 exact⟨Z,bV,U⟩
 refine jT (dT B) (sr (An Z (rt (tR (rs ?_)))))
 have bW:=r.pk []
 obtain rfl:=zj hr zq6
 exact⟨Z,bW,U⟩
 by_cases C:a.g=5
 obtain⟨gm,aF,dZ,aG,d9⟩:=JZ t
 refine cl D0 (oN _ _ a.g aF (of_decide_eq_true (dT C))) ?_
 rintro _ gp ⟨rfl,aH⟩
 have bX:=aG _ _ aH
 refine Mz Z (Kz (Zq o6k.toArray) (Kz (Y Zj) ?_))
 refine cB [Y O, Zx, Zx, Zx, Zx] 144 bX ?_
 intro Z4 gq bY
 refine cu o6k 0 bY B7 ?_
 intro gu bZ
 refine An Z (JS (JS ?_))
 refine oZ [] (J6 (J6 Kg)) bZ ?_
 intro gy cz
 refine qv 0 Z Z (qk (Y O) 1 Z (qv 2 Z Z (J2 (v:=vP Z4 1) (rs:= []) 3 Z Z Z Z f1 (λ _ _=>yk) (J2 (v:= .func (.func 110) #[] #[]) (rs:= []) 4 Z Z Z Z f1 (λ _ ⟨_,h⟩=>J5 Z (bO.one D1 (Kw (h.cls (i:=0) Z) Z))) (J2 (v:= Zq (Zb (aV.L a))) (rs:= []) 5 Z Z Z Z f1 (λ _ ⟨_,h⟩=>J5 Z (J7 (cs:=(aV.L a)) C1 C0 ((h.cls (i:=1) Z).lit (k:=0) (m:=6) Z))) (J2 (v:= Zq (Zb (aV.L a))) (rs:= []) 7 Z Z Z Z f1 (λ _ ⟨_,h⟩=>J5 Z (J7 (cs:=(aV.L a)) C1 C0 ((h.cls (i:=1) Z).lit (k:=0) (m:=6) Z))) ?_))))))
 obtain⟨d,z⟩:∃ q,tQ a=q:=⟨_,Z⟩
 obtain⟨gz,aI,ed,aJ,ek⟩:=JZ cz
 refine KG 6 Z Z Z Z f1 (KA Tryz.call110 Z Z (Ai _ _ a d aI z) ?_)
 rintro _ gB ⟨rfl,aK⟩
 have s:=aJ _ _ aK
 refine⟨.inr ⟨_,s⟩, ?_⟩
 refine J2 (v:= Za (¬ ((d.g=a.g)/\(d.j=a.j)/\(d.k=a.k)/\(d.a=a.a)/\(d.b=a.b)/\(d.r=a.r)))) (rs:= []) 8 Z Z Z Z f1 (λ _ _=>Kc (e:= !(Zw ((d.g=a.g)/\(d.j=a.j)/\(d.k=a.k)/\(d.a=a.a)/\(d.b=a.b)/\(d.r=a.r)))) (KL Z Z f1 Z (fK.struct y4 f1 (KI (eH.cons (u:=vI d.g) (v:=vI a.g) f7 ZY ZY (fK.int y6) (eH.cons (u:= Z9 ⟨Zb d.j⟩) (v:= Z9 ⟨Zb a.j⟩) f7 ZY ZY (fK.string B3) (eH.cons (u:= Z9 ⟨Zb d.k⟩) (v:= Z9 ⟨Zb a.k⟩) f7 ZY ZY (fK.string B3) (eH.cons (u:= Z9 ⟨Zb d.a⟩) (v:= Z9 ⟨Zb a.a⟩) f7 ZY ZY (fK.string B3) (eH.cons (u:= Z9 ⟨Zb d.b⟩) (v:= Z9 ⟨Zb a.b⟩) f7 ZY ZY (fK.string B3) (eH.cons (u:=vI d.r) (v:=vI a.r) f7 ZY ZY (fK.int y6) (eH.nil.up (Nt _)))))))) ((ZX (Zw (d.g=a.g) && ·) ((ZX (Zw (d.j=a.j) && ·) ((ZX (Zw (d.k=a.k) && ·) ((ZX (Zw (d.a=a.a) && ·) ((ZX (Zw (d.b=a.b) && ·) jB).trans eT)).trans eT)).trans eT)).trans eT)).trans eT)))) ZW) (qt (v:= Za (¬ ((d.g=a.g)/\(d.j=a.j)/\(d.k=a.k)/\(d.a=a.a)/\(d.b=a.b)/\(d.r=a.r)))) 9 Z (λ _ _=>QK Z) (qn (JY ?_)))
 by_cases E:(d.g=a.g)/\(d.j=a.j)/\(d.k=a.k)/\(d.a=a.a)/\(d.b=a.b)/\(d.r=a.r)
 refine jF (dF (Nu E)) (sk (sr (Kz (vP Z4 2) (Lz (.func (.func 111) #[] #[]) s 0 D2 (La (aV.L a) s 1 C1 C0 ?_)))))
 obtain⟨Z8,M⟩:∃ q,ng a=q:=⟨_,Z⟩
 obtain⟨gD,aL,eu,aM,eB⟩:=JZ s
 refine WL.do Z (KA Tryz.call111 Z Z (uJ _ _ a Z8 aL M) ?_)
 rintro _ gF ⟨rfl,aN⟩
 have cK:=aM _ _ aN
 refine An Z (rt (rs ?_))
 have cO:=cK.pk []
 obtain rfl:=zj hr zq8
 exact⟨Z,cO,U⟩
 refine jT (dT E) (sr (An Z (rt (tR (rs ?_)))))
 have cZ:=s.pk []
 obtain rfl:=zj hr zq7
 exact⟨Z,cZ,U⟩
 obtain⟨gG,aO,eD,aP,eG⟩:=JZ t
 refine cl D0 (vg _ _ a.g aO U U U U U) ?_
 rintro _ gH ⟨rfl,aQ⟩
 have df:=aP _ _ aQ
 refine Mz Z (Kz (Zq #[Y O, Zx, Zx, Zx, Zx]) (Kz (Y O) ?_))
 refine cB [Y O, Zx, Zx, Zx, Zx] 144 df ?_
 intro gI gJ dh
 refine cu [Y O, Zx, Zx, Zx, Zx] 0 dh B7 ?_
 intro gK di
 refine An Z (JS (JS ?_))
 refine oZ [] (J6 (J6 Kg)) di ?_
 intro gL dm
 refine qv 0 Z Z (qk (Y Zj) 1 Z (qv 2 Z Z (JV (rs:= []) 3 Z Z Z Z f1 (JV (rs:= []) 4 Z Z Z Z f1 (JV (rs:= []) 5 Z Z Z Z f1 (JV (rs:= []) 6 Z Z Z Z f1 (JV (rs:= []) 7 Z Z Z Z f1 (JV (rs:= []) 8 Z Z Z Z f1 (qt (v:= Y Zj) 9 Z (λ _ _=>QJ Z) (qn (JY (jt (sr (An Z (rt (tR (rs ?_)))))))))))))))))
 have dn:=dm.pk []
 obtain rfl:=zj hr zq5
 exact⟨Z,dn,U⟩
theorem r9:Elem y3 34 83 2 24:=mV (z:= Zq #[Z9 ⟨Zb []⟩, .int .i64 0]) Tryz.underlying34 f1 Z f7
structure bF where q::
 a:List UInt8
 b:Int
def bF.L (x:bF):List ZQ:= [Z9 ⟨Zb x.a⟩, .int .i64 x.b]
instance:Bk bF:=⟨λ x _=>bk x.a+(bk x.b+(0))⟩
theorem bF.len:∀ x,X (bF.L x)=2:=λ _=>rfl
theorem bF.one:∀ x, ∀ u ∈ bF.L x,u.oneCell'=Zj:=λ x u hu=>by
 simp only [bF.L,v1,y2,or_false] at hu
 rcases hu with rfl | rfl <;> rfl
def LM (w:ZZ) (x:bF):Prop:=(X x.a<=140737488351232)/\((-9223372036854775808)<=x.b/\x.b<=9223372036854775807)
theorem Ce (w:ZZ):lJ y3 w 83 2 bF.L (LM w):=
 (nL (sz:=2) Tryz.underlying83 f1 (gH.cons (i:=0) (off:=0) (s:=1) Z Z (lL B3 f1) (gH.cons (i:=1) (off:=1) (s:=1) Z Z (og (k:= .i64) (lo:= -9223372036854775808) (hi:=9223372036854775807) y6 f1 f7 f7) gH.nil))).map (λ p=>⟨p.1,p.2.1⟩) bF.len (λ _=>rfl) (λ _ h=>⟨h.1,h.2.1⟩) λ _=>s2 _
instance:Inhabited bF:=⟨⟨Zy,Zy⟩⟩
theorem kY:Elem y3 35 80 2 32:=mV (z:= Zq #[.int .u64 0, T Zk 0 0]) Tryz.underlying35 f1 Z f7
theorem nH:Elem y3 44 62 6 80:=mV (z:= Zq #[.int .i64 0, Z9 ⟨Zb []⟩, Z9 ⟨Zb []⟩, Z9 ⟨Zb []⟩, Z9 ⟨Zb []⟩, .int .i64 0]) Tryz.underlying44 f1 Z f7
structure bA where q::
 r:Nat
 a:Sv aV
def bA.L (x:bA):List ZQ:= [.int .u64 ((x.r:Nat):Int), T x.a.A (X x.a.a) x.a.c]
instance:Bk bA:=⟨λ x _=>bk x.r+(bk x.a+(0))⟩
theorem bA.len:∀ x,X (bA.L x)=2:=λ _=>rfl
theorem bA.one:∀ x, ∀ u ∈ bA.L x,u.oneCell'=Zj:=λ x u hu=>by
 simp only [bA.L,v1,y2,or_false] at hu
 rcases hu with rfl | rfl <;> rfl
def MN (w:ZZ) (x:bA):Prop:=(x.r<=18446744073709551615)/\(nK w 6 80 aV.L (LK w) x.a)
instance:Inhabited bA:=⟨⟨Zy,Zy⟩⟩
structure dG where q::
 r:Nat
 a:Ll aV
instance:Inhabited dG:=⟨⟨Zy,Zy⟩⟩
def bA.abs (x:bA):dG:=⟨x.r,⟨x.a.a⟩⟩
def Ky (x:bA):List HP:= [row x.a.A (X x.a.a) x.a.c (q1 aV.L x.a.a) 62 6]
theorem jk:Elem y3 36 33 1 8:=mV (z:= .int .u64 0) Tryz.underlying36 f1 Z f7
structure fF where q::
 k:Nat
 s:Nat
 a:Nat
 j:ai
def fF.L (x:fF):List ZQ:= [.int .u64 ((x.k:Nat):Int), .int .u64 ((x.s:Nat):Int), .int .u64 ((x.a:Nat):Int), Z9 ⟨Zb x.j.a⟩, Z9 ⟨Zb x.j.b⟩]
instance:Bk fF:=⟨λ x _=>bk x.k+(bk x.s+(bk x.a+(bk x.j+(0))))⟩
theorem fF.len:∀ x,X (fF.L x)=5:=λ _=>rfl
theorem fF.one:∀ x, ∀ u ∈ fF.L x,u.oneCell'=Zj:=λ x u hu=>by
 simp only [fF.L,v1,y2,or_false] at hu
 rcases hu with rfl | rfl | rfl | rfl | rfl <;> rfl
def ME (w:ZZ) (x:fF):Prop:=(x.k<=18446744073709551615)/\(x.s<=18446744073709551615)/\(x.a<=18446744073709551615)/\(Lg w x.j)
instance:Inhabited fF:=⟨⟨Zy,Zy,Zy,Zy⟩⟩
structure nN where q::
 r:Int
 y:Nat
 u:Nat
 z:Nat
 k:Nat
 b:Sv bF
 g:Sv bA
 j:Sv Nat
 t:Nat
 B:Nat
 s:ai
 a:fF
def nN.L (x:nN):List ZQ:= [.int .i64 x.r, .int .u64 ((x.y:Nat):Int), .int .u64 ((x.u:Nat):Int), .int .u64 ((x.z:Nat):Int), .int .u64 ((x.k:Nat):Int), T x.b.A (X x.b.a) x.b.c, T x.g.A (X x.g.a) x.g.c, T x.j.A (X x.j.a) x.j.c, .int .u64 ((x.t:Nat):Int), .int .u64 ((x.B:Nat):Int), Z9 ⟨Zb x.s.a⟩, Z9 ⟨Zb x.s.b⟩, .int .u64 ((x.a.k:Nat):Int), .int .u64 ((x.a.s:Nat):Int), .int .u64 ((x.a.a:Nat):Int), Z9 ⟨Zb x.a.j.a⟩, Z9 ⟨Zb x.a.j.b⟩]
instance:Bk nN:=⟨λ x _=>bk x.r+(bk x.y+(bk x.u+(bk x.z+(bk x.k+(bk x.b+(bk x.g+(bk x.j+(bk x.t+(bk x.B+(bk x.s+(bk x.a+(0))))))))))))⟩
theorem nN.len:∀ x,X (nN.L x)=17:=λ _=>rfl
theorem nN.one:∀ x, ∀ u ∈ nN.L x,u.oneCell'=Zj:=λ x u hu=>by
 simp only [nN.L,v1,y2,or_false] at hu
 rcases hu with rfl | rfl | rfl | rfl | rfl | rfl | rfl | rfl | rfl | rfl | rfl | rfl | rfl | rfl | rfl | rfl | rfl <;> rfl
def Nf (w:ZZ) (x:nN):Prop:=((-9223372036854775808)<=x.r/\x.r<=9223372036854775807)/\(x.y<=18446744073709551615)/\(x.u<=18446744073709551615)/\(x.z<=18446744073709551615)/\(x.k<=18446744073709551615)/\(nK w 2 24 bF.L (LM w) x.b)/\(nK w 2 32 bA.L (MN w) x.g)/\(nK w 1 8 (eN .u64) (λ n=>n<=18446744073709551615) x.j)/\(x.t<=18446744073709551615)/\(x.B<=18446744073709551615)/\(Lg w x.s)/\(ME w x.a)
instance:Inhabited nN:=⟨⟨Zy,Zy,Zy,Zy,Zy,Zy,Zy,Zy,Zy,Zy,Zy,Zy⟩⟩
structure bH where q::
 r:Int
 y:Nat
 u:Nat
 z:Nat
 k:Nat
 b:Ll bF
 g:Ll dG
 j:Ll Nat
 t:Nat
 B:Nat
 s:ai
 a:fF
instance:Inhabited bH:=⟨⟨Zy,Zy,Zy,Zy,Zy,Zy,Zy,Zy,Zy,Zy,Zy,Zy⟩⟩
def nN.abs (x:nN):bH:=⟨x.r,x.y,x.u,x.z,x.k,⟨x.b.a⟩,⟨s0 bA.abs x.g.a⟩,⟨x.j.a⟩,x.t,x.B,x.s,x.a⟩
def M3 (x:nN):List HP:= [row x.b.A (X x.b.a) x.b.c (q1 bF.L x.b.a) 83 2,row x.g.A (X x.g.a) x.g.c (q1 bA.L x.g.a) 80 2,row x.j.A (X x.j.a) x.j.c (q1 (eN .u64) x.j.a) 33 1,sepL (q1 Ky x.g.a)]
abbrev fV (n:Int) (o:Nat) (p:Nat) (q:Nat) (r:Nat) (s:Option Addr) (a b:Nat) (t:Option Addr) (c d:Nat) (u:Option Addr) (e f:Nat) (v:Nat) (w:Nat) (g:List UInt8) (h:List UInt8) (i:Nat) (j:Nat) (k:Nat) (l:List UInt8) (m:List UInt8):List ZQ:= [.int .i64 n, .int .u64 ((o:Nat):Int), .int .u64 ((p:Nat):Int), .int .u64 ((q:Nat):Int), .int .u64 ((r:Nat):Int), T s a b, T t c d, T u e f, .int .u64 ((v:Nat):Int), .int .u64 ((w:Nat):Int), Z9 ⟨Zb g⟩, Z9 ⟨Zb h⟩, .int .u64 ((i:Nat):Int), .int .u64 ((j:Nat):Int), .int .u64 ((k:Nat):Int), Z9 ⟨Zb l⟩, Z9 ⟨Zb m⟩]
abbrev gZ (x:bH) (a:Option Addr) (b:Nat) (c:Option Addr) (d:Nat) (e:Option Addr) (f:Nat):List ZQ:= [.int .i64 x.r, .int .u64 ((x.y:Nat):Int), .int .u64 ((x.u:Nat):Int), .int .u64 ((x.z:Nat):Int), .int .u64 ((x.k:Nat):Int), T a (X x.b.a) b, T c (X x.g.a) d, T e (X x.j.a) f, .int .u64 ((x.t:Nat):Int), .int .u64 ((x.B:Nat):Int), Z9 ⟨Zb x.s.a⟩, Z9 ⟨Zb x.s.b⟩, .int .u64 ((x.a.k:Nat):Int), .int .u64 ((x.a.s:Nat):Int), .int .u64 ((x.a.a:Nat):Int), Z9 ⟨Zb x.a.j.a⟩, Z9 ⟨Zb x.a.j.b⟩]
def uK (a:Int) (b:Int):Bool:=
 if a >= 1 then Zw (a<=b) else O
theorem zz (w D b c f) (H:Own w D w []) (hr:uK b c=f):
    Calls y3 28 #[vI b,vI c] w (dI λ v w'=>v= Y f/\Own w D w' []):=by
 unfold uK at hr
 refine cb Tryz.func28 ?_
 refine sr (Ar Z (Mz Z (Kz (Za (b >= 1)) (Mz Z ?_))))
 by_cases a:b >= 1
 refine gw (vI b) (dT a) (J3 Z) (gw (vI c) (dT a) (J3 Z) (Gz (Za (b<=c)) (dT a) (fw (Za (b<=c)) (JX Z (dT a) Z) (An Z (rt (rs ?_))))))
 have d:=H.pk []
 obtain rfl:=zj hr zq1
 exact⟨Z,d⟩
 refine Sz (dF a) (Sz (dF a) (Sz (dF a) (fw (Y O) (JU Z (dF a) Z) (An Z (rt (rs ?_))))))
 have e:=H.pk []
 obtain rfl:=zj hr zq1
 exact⟨Z,e⟩
def uk (a:Int):Bool:=
 if a >= 1 then Zw (a<=4) else O
theorem yQ (w D b e) (H:Own w D w []) (hr:uk b=e):
    Calls y3 60 #[vI b] w (dI λ v w'=>v= Y e/\Own w D w' []):=by
 unfold uk at hr
 refine cb Tryz.func60 ?_
 refine sr (Ar Z (Mz Z (Kz (Za (b >= 1)) (Mz Z ?_))))
 by_cases a:b >= 1
 refine gw (vI b) (dT a) (J3 Z) (Gz (Za (b<=4)) (dT a) (fw (Za (b<=4)) (JX Z (dT a) Z) (An Z (rt (rs ?_)))))
 have c:=H.pk []
 obtain rfl:=zj hr zq1
 exact⟨Z,c⟩
 refine Sz (dF a) (Sz (dF a) (fw (Y O) (JU Z (dF a) Z) (An Z (rt (rs ?_)))))
 have d:=H.pk []
 obtain rfl:=zj hr zq1
 exact⟨Z,d⟩
def jL (g:List bF):List bF->Nat->Unit ⊕ Int
  | [],a=>Sum.inl ()
  | b::c,a=>bnd (uk b.b) λ d=>if d=Zj then if((a:Nat):Int) > 0 then bnd (dU b.a) λ e=>if e=0 then bnd (List.getD g (a - 1) Zy) λ f=>if b.a<=f.a then Sum.inr (170) else jL g c (a+1) else Sum.inr (170) else jL g c (a+1) else Sum.inr (170)
def lq (a:List bF):Int:=
 if((X a:Nat):Int) < 1 then 170 else if((X a:Nat):Int) > 6 then 170 else bnd (List.getD a 0 Zy) λ b=>if b.a≠[] then 170 else lp (jL a a 0) λ _=>0
theorem qG (w D j Z1 I d Z2) (H:Own w D w []) (l:Ro w D λ w'=>bV w' 2 j Z1 (q1 bF.L d)) (Z0:Z1=X d) (aF:X d<=9223372036854775807) (hr:lq d=Z2):
    Calls y3 29 #[T j Z1 I] w (dI λ v w'=>v=vI Z2/\Own w D w' []/\(¬ (Z2=0)\/(1<=X d/\X d<=6))):=by
 unfold lq at hr
 subst Z0
 refine cb Tryz.func29 ?_
 refine sr (An Z (JS (sr (Mz Z (Kz (vJ (X d)) (Kz (Za ((X d:Int) < 1)) (Mz Z ?_)))))))
 by_cases h:(X d:Int) < 1
 refine Sz (dT h) (Sz (dT h) (Sz (dT h) (fw (Y Zj) (JX Z (dT h) Z) (Mz Z (QQ (QQ (QQ (QQ (QQ (fw (Y Zj) (QJ Z) (nt (jt (sr (An Z (rt (tR (rs ?_)))))))))))))))))
 have aa:=H.pk []
 obtain rfl:=zj hr zq1
 exact⟨Z,aa,U⟩
 refine gw (T j (X d) I) (dF h) (J3 Z) (Gz (vJ (X d)) (dF h) (Gz (Za ((X d:Int) > 6)) (dF h) (fw (Za ((X d:Int) > 6)) (JU Z (dF h) Z) (Mz Z ?_))))
 by_cases f:(X d:Int) > 6
 refine Sz (dT f) (Sz (dT f) (Sz (dT f) (Sz (dT f) (Sz (dT f) (fw (Y Zj) (JX Z (dT f) Z) (nt (jt (sr (An Z (rt (tR (rs ?_))))))))))))
 have af:=H.pk []
 obtain rfl:=zj hr zq2
 exact⟨Z,af,U⟩
 refine gw (T j (X d) I) (dF f) (J3 Z) ?_
 obtain⟨E,m⟩:=dM (ls:=d) (i:=0) bF.len f7 (H.ro l) f5
 refine gw (Zz (Zv ⟨ab j,ao j+0 *2,Zk⟩)) (dF f) (J9 (r9) Z Z ((H.ro l).addr (i:=0) U) U) (Gz (Zz (Zv ⟨ab j,ao j+0 *2,Zk⟩)) (dF f) (gw (Z9 ⟨Zb E.a⟩) (dF f) (J5 Z (bO.one B9 (((H.ro l).elem bF.len m f7).at_ (k:=0) Z))) (gw (Za (E.a≠[])) (dF f) (KH Z Z) (fw (Za (E.a≠[])) (JU Z (dF f) Z) (nt ?_)))))
 by_cases s:E.a≠[]
 refine jT (dT s) (sr (An Z (rt (tR (rs ?_)))))
 have ag:=H.pk []
 obtain rfl:=zj hr zq4
 exact⟨Z,ag,U⟩
 refine jF (dF s) (sk (JS (sr (Mz Z (Kz (vJ (X d)) (Mn Z (bo ?_)))))))
 have ah:=H.pk []
 obtain⟨ai,x⟩:=nI λ (a:Nat) w'=>Own w D w' []/\a<=X d/\jL d d 0=jL d (Ze a d) a
 refine Wp.loop (λ i:Nat=> [(2,vI 0),(21,vJ i),(20,vJ (X d)),(0, T j (X d) I)]) ai (λ i=>X d - i) 0 ⟨Z,Z,Z,Z,ZV⟩ (x.2 ⟨ah,U,Z⟩) ?_
 rintro a aG M
 show Wp _ _ _ [(2,vI 0),(21,vJ a),(20,vJ (X d)),(0, T j (X d) I)] _ _
 obtain⟨A,az,n⟩:=x.1 M
 refine sr (Kz (Za ((a:Int) < (X d:Int))) (nt (JS ?_)))
 by_cases Z5:(a:Int) < (X d:Int)
 obtain⟨g,y⟩:=dM (ls:=d) (i:=a) bF.len f7 (A.ro l) f5
 have p:=drop_at y
 refine jT (dT Z5) (sk (JS (bo (sr (Mz Z (An Z (JS (sr (Mz Z (Mz Z (fw (Zz (Zv ⟨ab j,ao j+a *2,Zk⟩)) (J9 (r9) Z Z ((A.ro l).addr (i:=a) U) U) (Kz (Zz (Zv ⟨ab j,ao j+a *2+1,Zk⟩)) (fw (vI g.b) (J5 Z (bO.one B8 (((A.ro l).elem bF.len y f7).at_ (k:=1) Z))) ?_)))))))))))))
 obtain⟨L,o⟩:∃ q,uk g.b=q:=⟨_,Z⟩
 obtain⟨aH,Z6,aA,P,aB⟩:=JZ A
 refine cl Tryz.call60 (yQ _ _ g.b L Z6 o) ?_
 rintro _ aI ⟨rfl,Q⟩
 have R:=P _ _ Q
 refine Kz (Y (!L)) (nt ?_)
 rcases Nv (L) with r | r
 refine jF (cn r) (sk (JS ?_))
 refine A8 [] (J6 (bJ.block (J6 (J6 (bJ.block (J6 Kg)))))) R ?_
 intro aJ S
 refine qv 0 Z Z (qk (Za ((a:Int) > 0)) 1 Z (qv 2 Z Z ?_))
 by_cases c:(a:Int) > 0
 refine J2 (v:= T j (X d) I) (rs:= []) 3 Z Z Z (dT c) f1 (λ _ _=>J3 Z) (J2 (v:=vJ a) (rs:= []) 4 Z Z Z (dT c) f1 (λ _ _=>J3 Z) (J2 (v:= Zz (Zv ⟨ab j,ao j+a *2,Zk⟩)) (rs:= []) 5 Z Z Z (dT c) f1 (λ _ ⟨_,B⟩=>J9 (r9) Z Z ((B.ro l).addr (i:=a) U) U) (J2 (v:= Zz (Zv ⟨ab j,ao j+a *2,Zk⟩)) (rs:= []) 6 Z Z Z (dT c) f1 (λ _ _=>yk) (J2 (v:= Z9 ⟨Zb g.a⟩) (rs:= []) 7 Z Z Z (dT c) f1 (λ _ ⟨_,B⟩=>J5 Z (bO.one B9 (((B.ro l).elem bF.len y f7).at_ (k:=0) Z))) ?_))))
 obtain⟨t,z⟩:∃ q,dU g.a=q:=⟨_,Z⟩
 obtain⟨aK,Z7,aC,Z3,aD⟩:=JZ S
 refine KG 8 Z Z Z (dT c) f1 (Ki C2 Z (ky _ _ g.a t Z7 z) ?_)
 rintro _ aL ⟨rfl,Z4,J,K⟩
 have F:=Z3 _ _ Z4
 replace J: ¬ (t=0)\/(1<=X g.a/\X g.a<=12):=J
 replace K:X g.a < 1\/X g.a > 12\/t=0:=K
 refine⟨.inr ⟨_,F⟩, ?_⟩
 refine J2 (v:= Za (¬ (t=0))) (rs:= []) 9 Z Z Z (dT c) f1 (λ _ _=>Kc (e:= !(Zw (t=0))) yk ZW) (J2 (v:= Za (¬ (t=0))) (rs:= []) 10 Z Z Z (dT c) f1 (λ _ _=>J3 Z) ?_)
 by_cases b:t=0
 refine J2 (v:= T j (X d) I) (rs:= []) 11 Z Z Z (dF (Nu b)) f1 (λ _ _=>J3 Z) (J2 (v:=vJ a) (rs:= []) 12 Z Z Z (dF (Nu b)) f1 (λ _ _=>J3 Z) (J2 (v:= Zz (Zv ⟨ab j,ao j+a *2,Zk⟩)) (rs:= []) 13 Z Z Z (dF (Nu b)) f1 (λ _ ⟨_,B⟩=>J9 (r9) Z Z ((B.ro l).addr (i:=a) U) U) (J2 (v:= Zz (Zv ⟨ab j,ao j+a *2,Zk⟩)) (rs:= []) 14 Z Z Z (dF (Nu b)) f1 (λ _ _=>yk) (J2 (v:= Z9 ⟨Zb g.a⟩) (rs:= []) 15 Z Z Z (dF (Nu b)) f1 (λ _ ⟨_,B⟩=>J5 Z (bO.one B9 (((B.ro l).elem bF.len y f7).at_ (k:=0) Z))) (J2 (v:= T j (X d) I) (rs:= []) 16 Z Z Z (dF (Nu b)) f1 (λ _ _=>J3 Z) (J2 (v:=vJ a) (rs:= []) 17 Z Z Z (dF (Nu b)) f1 (λ _ _=>J3 Z) (J2 (v:=vJ (a - 1)) (rs:= []) 18 Z Z Z (dF (Nu b)) f1 (λ _ _=>J4 (e:=D3.wrap ((a:Int) - 1)) yk f4) ?_)))))))
 obtain⟨u,C⟩:=mK (ls:=d) (i:=a - 1) f5
 refine J2 (v:= Zz (Zv ⟨ab j,ao j+(a - 1) *2,Zk⟩)) (rs:= []) 19 Z Z Z (dF (Nu b)) f1 (λ _ ⟨_,B⟩=>J9 (r9) Z Z ((B.ro l).addr (i:=a - 1) U) U) (J2 (v:= Zz (Zv ⟨ab j,ao j+(a - 1) *2,Zk⟩)) (rs:= []) 20 Z Z Z (dF (Nu b)) f1 (λ _ _=>yk) (J2 (v:= Z9 ⟨Zb u.a⟩) (rs:= []) 21 Z Z Z (dF (Nu b)) f1 (λ _ ⟨_,B⟩=>J5 Z (bO.one B9 (((B.ro l).elem bF.len C f7).at_ (k:=0) Z))) (J2 (v:= Za (g.a<=u.a)) (rs:= []) 22 Z Z Z (dF (Nu b)) f1 (λ _ _=>Kc (e:=Op.bytesLess g.a u.a || decide (g.a=u.a)) (LB Z Z) (BB _ _)) (J2 (v:= Za (g.a<=u.a)) (rs:= []) 23 Z Z Z (dT c) f1 (λ _ _=>JU Z (dF (Nu b)) Z) (qt (v:= Za (g.a<=u.a)) 24 Z (λ _ _=>JX Z (dT c) Z) (qn (JY ?_)))))))
 by_cases G:g.a<=u.a
 refine jT (dT G) (sr (An Z (rt (bR (tR (tR (bR (tR (rs ?_)))))))))
 have aj:=F.pk []
 obtain rfl:_=170:=zj hr (V (iN h) (V (iN f) (V (ae (bG m)) (V (iN s) (iX (V (n) (V (ZX (λ q=>jL d q a) p) (V (ae o) (V (ip r) (V (ip c) (V (ae z) (V (ip b) (V (ae (bG C)) (ip G))))))))))))))
 exact⟨Z,aj,U⟩
 refine jF (dF G) (Ko (bN (JY (JW (fw (vJ (a+1)) (J4 (e:=D3.wrap ((a:Int)+1)) yk f4) (Mz Z (WL.nil ?_)))))))
 have ak:=F.pk []
 exact Kb (a+1) ⟨Z,Z,Z,Z,ZV⟩ (x.2 ⟨ak,U,V (n) (V (ZX (λ q=>jL d q a) p) (V (ae o) (V (ip r) (V (ip c) (V (ae z) (V (ip b) (V (ae (bG C)) (iN G))))))))⟩) (by show X d - (a+1) < X d - a; omega)
 refine JV (rs:= []) 11 Z Z Z (dT b) f1 (JV (rs:= []) 12 Z Z Z (dT b) f1 (JV (rs:= []) 13 Z Z Z (dT b) f1 (JV (rs:= []) 14 Z Z Z (dT b) f1 (JV (rs:= []) 15 Z Z Z (dT b) f1 (JV (rs:= []) 16 Z Z Z (dT b) f1 (JV (rs:= []) 17 Z Z Z (dT b) f1 (JV (rs:= []) 18 Z Z Z (dT b) f1 (JV (rs:= []) 19 Z Z Z (dT b) f1 (JV (rs:= []) 20 Z Z Z (dT b) f1 (JV (rs:= []) 21 Z Z Z (dT b) f1 (JV (rs:= []) 22 Z Z Z (dT b) f1 (J2 (v:= Y Zj) (rs:= []) 23 Z Z Z (dT c) f1 (λ _ _=>JX Z (dT b) Z) (qt (v:= Y Zj) 24 Z (λ _ _=>JX Z (dT c) Z) (qn (JY (jt (sr (An Z (rt (bR (tR (tR (bR (tR (rs ?_)))))))))))))))))))))))))
 have au:=F.pk []
 obtain rfl:_=170:=zj hr (V (iN h) (V (iN f) (V (ae (bG m)) (V (iN s) (iX (V (n) (V (ZX (λ q=>jL d q a) p) (V (ae o) (V (ip r) (V (ip c) (V (ae z) (iN b))))))))))))
 exact⟨Z,au,U⟩
 refine JV (rs:= []) 3 Z Z Z (dF c) f1 (JV (rs:= []) 4 Z Z Z (dF c) f1 (JV (rs:= []) 5 Z Z Z (dF c) f1 (JV (rs:= []) 6 Z Z Z (dF c) f1 (JV (rs:= []) 7 Z Z Z (dF c) f1 (JV (rs:= []) 8 Z Z Z (dF c) f1 (JV (rs:= []) 9 Z Z Z (dF c) f1 (JV (rs:= []) 10 Z Z Z (dF c) f1 (KQ (rs:= []) 11 Z Z Z f1 (KQ (rs:= []) 12 Z Z Z f1 (KQ (rs:= []) 13 Z Z Z f1 (KQ (rs:= []) 14 Z Z Z f1 (KQ (rs:= []) 15 Z Z Z f1 (KQ (rs:= []) 16 Z Z Z f1 (KQ (rs:= []) 17 Z Z Z f1 (KQ (rs:= []) 18 Z Z Z f1 (KQ (rs:= []) 19 Z Z Z f1 (KQ (rs:= []) 20 Z Z Z f1 (KQ (rs:= []) 21 Z Z Z f1 (KQ (rs:= []) 22 Z Z Z f1 (JV (rs:= []) 23 Z Z Z (dF c) f1 (qt (v:= Y O) 24 Z (λ _ _=>JU Z (dF c) Z) (qn (JY (jf (Ko (bN (JY (JW (fw (vJ (a+1)) (J4 (e:=D3.wrap ((a:Int)+1)) yk f4) (Mz Z (WL.nil ?_)))))))))))))))))))))))))))))))
 have av:=S.pk []
 exact Kb (a+1) ⟨Z,Z,Z,Z,ZV⟩ (x.2 ⟨av,U,V (n) (V (ZX (λ q=>jL d q a) p) (V (ae o) (V (ip r) (iN c))))⟩) (by show X d - (a+1) < X d - a; omega)
 refine jT (cn r) (sr (An Z (rt (tR (bR (tR (tR (bR (tR (rs ?_))))))))))
 have ax:=R.pk []
 obtain rfl:_=170:=zj hr (V (iN h) (V (iN f) (V (ae (bG m)) (V (iN s) (iX (V (n) (V (ZX (λ q=>jL d q a) p) (V (ae o) (eD r)))))))))
 exact⟨Z,ax,U⟩
 refine jF (dF Z5) (Wp.exit (Ka ?_))
 have Z8:jL d d 0=Sum.inl ():=V (n) (V (ZX (λ q=>jL d q a) (eU (ls:=d) (i:=a) U)) Z)
 refine Ka (Kh (JY (sr (An Z (rt (rs ?_))))))
 have ay:=A.pk []
 obtain rfl:_=0:=zj hr (V (iN h) (V (iN f) (V (ae (bG m)) (V (iN s) (kH Z8)))))
 exact⟨Z,ay,U⟩
def tC (a:bH):Bool:=
 Zj
theorem yx (w D) (a:bH) (j n k d o f l g p h M) (H:Own w D w []) (q:n=X a.b.a) (C:Ro w D λ w'=>bV w' 2 j (X a.b.a) (q1 bF.L a.b.a)) (E:X a.b.a<=k/\X a.b.a<=9223372036854775807) (r:s0 bA.abs l=a.g.a) (s:o=X a.g.a) (F:Ro w D λ w'=>bV w' 2 d (X a.g.a) (q1 bA.L l)) (G:X a.g.a<=f/\X a.g.a<=9223372036854775807) (I:∀ x ∈ l,Ro w D (λ w'=>bV w' 6 x.a.A (X x.a.a) (q1 aV.L x.a.a))/\(X x.a.a<=x.a.c/\X x.a.a<=9223372036854775807)) (t:p=X a.j.a) (J:Ro w D λ w'=>bV w' 1 g (X a.j.a) (q1 (eN .u64) a.j.a)) (K:X a.j.a<=h/\X a.j.a<=9223372036854775807) (Z5:X a.b.a<=140737488355328/\X a.g.a<=140737488355328/\X a.j.a<=140737488355328) (Z6:X a.g.a<=0/\X a.j.a<=0) (hr:tC a=M):
    Calls y3 30 #[Zq (Zb (fV a.r a.y a.u a.z a.k j n k d o f g p h a.t a.B a.s.a a.s.b a.a.k a.a.s a.a.a a.a.j.a a.a.j.b))] w (dI λ v w'=>v= Y M/\Own w D w' []):=by
 subst q s t
 have B:=bf r
 refine cb Tryz.func30 ?_
 refine sr ?_
 refine cB (gZ a j k d f g h) 42 H ?_
 intro m P i
 refine An Z (JS (sr (Kz (vP m 6) (Lz (T d (X a.g.a) f) i 0 D4 (Kz (vJ (X a.g.a)) (Kz (Za ((X a.g.a:Int) > 6)) (Mz Z ?_)))))))
 have b:(Zw ((X a.g.a:Int) > 6))=O:=(dF U)
 refine Gz (vP m 6) b (Gl (T d (X a.g.a) f) b i 0 D4 (Gz (vJ (X a.g.a)) b (Gz (vP m 7) b (Gl (T g (X a.j.a) h) b i 0 Tryz.isAgg36 (Gz (vJ (X a.j.a)) b (KC (v:=vJ (X a.g.a+X a.j.a)) Z Z b Z (J4 (e:=D3.wrap ((X a.g.a:Int)+(X a.j.a:Int))) yk f4) (Gz (Za (((X a.g.a+X a.j.a:Nat):Int) > 64)) b (fw (Za (((X a.g.a+X a.j.a:Nat):Int) > 64)) (JU Z b Z) (nt ?_)))))))))
 have u:(Zw (((X a.g.a+X a.j.a:Nat):Int) > 64))=O:=(dF U)
 refine jF u (sk (JS (sr (Kz (vP m 6) (Lz (T d (X a.g.a) f) i 0 D4 (Kz (vJ (X a.g.a)) (Mn Z (bo (Lf 200 (sr (Kz (Za (0 < (X a.g.a:Int))) (nt (JS ?_)))))))))))))
 have y:(Zw (0 < (X a.g.a:Int)))=O:=(dF U)
 refine jF y (Wp.exit (Ka (Ka (Kh (JY (JS (sr (Kz (vP m 7) (Lz (T g (X a.j.a) h) i 0 Tryz.isAgg36 (Kz (vJ (X a.j.a)) (Mn Z (bo (Lf 200 (sr (Kz (Za (0 < (X a.j.a:Int))) (nt (JS ?_)))))))))))))))))
 have z:(Zw (0 < (X a.j.a:Int)))=O:=(dF U)
 refine jF z (Wp.exit (Ka (Ka (Kh (JY (sr (An Z (rt (rs ?_)))))))))
 have L:=i.pk []
 obtain rfl:_=Zj:=zj hr Z
 exact⟨Z,L⟩
def tF (a:bH):Bool:=
 if((a.a.k:Nat):Int)=0 then if(((a.a.k:Nat):Int)=0)/\(((a.a.s:Nat):Int)=0)/\(((a.a.a:Nat):Int)=0)/\((a.a.j.a=[])/\(a.a.j.b=[])) then if((a.B:Nat):Int)=0 then if(a.s.a=[])/\(a.s.b=[]) then bnd (dP a.a.j) λ d=>if d=0 then bnd (dP a.s) λ e=>decide (e=0) else O else O else bnd (dP a.a.j) λ f=>if f=0 then bnd (dP a.s) λ g=>decide (g=0) else O else O else if((a.B:Nat):Int)=0 then if(a.s.a=[])/\(a.s.b=[]) then bnd (dP a.a.j) λ h=>if h=0 then bnd (dP a.s) λ i=>decide (i=0) else O else O else bnd (dP a.a.j) λ b=>if b=0 then bnd (dP a.s) λ c=>decide (c=0) else O
theorem yz (w D) (a:bH) (r Q s t R y z B S C r0) (H:Own w D w []) (Z8:Q=X a.b.a) (bi:Ro w D λ w'=>bV w' 2 r (X a.b.a) (q1 bF.L a.b.a)) (bn:X a.b.a<=s/\X a.b.a<=9223372036854775807) (Z1:s0 bA.abs z=a.g.a) (Z2:R=X a.g.a) (bq:Ro w D λ w'=>bV w' 2 t (X a.g.a) (q1 bA.L z)) (bu:X a.g.a<=y/\X a.g.a<=9223372036854775807) (bv:∀ x ∈ z,Ro w D (λ w'=>bV w' 6 x.a.A (X x.a.a) (q1 aV.L x.a.a))/\(X x.a.a<=x.a.c/\X x.a.a<=9223372036854775807)) (Z0:S=X a.j.a) (bz:Ro w D λ w'=>bV w' 1 B (X a.j.a) (q1 (eN .u64) a.j.a)) (bB:X a.j.a<=C/\X a.j.a<=9223372036854775807) (dx:X a.b.a<=140737488355328/\X a.g.a<=140737488355328/\X a.j.a<=140737488355328) (hr:tF a=r0):
    Calls y3 31 #[Zq (Zb (fV a.r a.y a.u a.z a.k r Q s t R y B S C a.t a.B a.s.a a.s.b a.a.k a.a.s a.a.a a.a.j.a a.a.j.b))] w (dI λ v w'=>v= Y r0/\Own w D w' []):=by
 unfold tF at hr
 subst Z8 Z2 Z0
 have bg:=bf Z1
 refine cb Tryz.func31 ?_
 refine sr ?_
 refine cB (gZ a r s t y B C) 42 H ?_
 intro f dz h
 refine An Z (JS (sr (Kz (vP f 12) (Kz (vP f 12) (Lz (vU a.a.k) h 0 E0 (Kz (Za ((a.a.k:Int)=0)) (Mz Z ?_)))))))
 by_cases b:(a.a.k:Int)=0
 refine Gz (vP f 12) (dT b) (Ga (fF.L a.a) (dT b) h 0 Tryz.isAgg40 Tryz.sizeOf40 (Gz (Zq #[.int .u64 0, .int .u64 0, .int .u64 0, Z9 ⟨Zb []⟩, Z9 ⟨Zb []⟩]) (dT b) (gw (Za (¬ (((a.a.k:Int)=0)/\((a.a.s:Int)=0)/\((a.a.a:Int)=0)/\((a.a.j.a=[])/\(a.a.j.b=[]))))) (dT b) (Kc (e:= !(Zw (((a.a.k:Int)=0)/\((a.a.s:Int)=0)/\((a.a.a:Int)=0)/\((a.a.j.a=[])/\(a.a.j.b=[]))))) (KL Z Z f1 Z (fK.struct Tryz.underlying40 f1 (KI (eH.cons (u:=vU a.a.k) (v:= .int .u64 0) f7 ZY ZY ((fK.int E1).up f7) (eH.cons (u:=vU a.a.s) (v:= .int .u64 0) f7 ZY ZY ((fK.int E1).up f7) (eH.cons (u:=vU a.a.a) (v:= .int .u64 0) f7 ZY ZY ((fK.int E1).up f7) (eH.cons (u:= Zq (Zb (ai.L a.a.j))) (v:= Zq #[Z9 ⟨Zb []⟩, Z9 ⟨Zb []⟩]) f7 ZY ZY (fK.struct C4 f1 (KI (eH.cons (u:= Z9 ⟨Zb a.a.j.a⟩) (v:= Z9 ⟨Zb []⟩) f7 ZY ZY (fK.string B3) (eH.cons (u:= Z9 ⟨Zb a.a.j.b⟩) (v:= Z9 ⟨Zb []⟩) f7 ZY ZY (fK.string B3) (eH.nil.up (Nt _)))) ((ZX (Zw (a.a.j.a=[]) && ·) jB).trans eT))) (eH.nil.up (Nt _)))))) ((ZX (Zw ((a.a.k:Int)=0) && ·) ((ZX (Zw ((a.a.s:Int)=0) && ·) ((ZX (Zw ((a.a.a:Int)=0) && ·) jB).trans eT)).trans eT)).trans eT)))) ZW) (fw (Za (¬ (((a.a.k:Int)=0)/\((a.a.s:Int)=0)/\((a.a.a:Int)=0)/\((a.a.j.a=[])/\(a.a.j.b=[]))))) (JX Z (dT b) Z) (Mz Z ?_)))))
 by_cases d:((a.a.k:Int)=0)/\((a.a.s:Int)=0)/\((a.a.a:Int)=0)/\((a.a.j.a=[])/\(a.a.j.b=[]))
 refine gw (vP f 9) (dF (Nu d)) yk (gw (vU a.B) (dF (Nu d)) (J5 Z (bO.one E0 (Kw (h.cls (i:=0) Z) Z))) (gw (Za ((a.B:Int)=0)) (dF (Nu d)) yk (gw (Za ((a.B:Int)=0)) (dF (Nu d)) (J3 Z) ?_)))
 by_cases j:(a.B:Int)=0
 refine Gz (vP f 10) (dT j) (Ga (ai.L a.s) (dT j) h 0 C6 C5 (Gz (Zq #[Z9 ⟨Zb []⟩, Z9 ⟨Zb []⟩]) (dT j) (gw (Za (¬ ((a.s.a=[])/\(a.s.b=[])))) (dT j) (Kc (e:= !(Zw ((a.s.a=[])/\(a.s.b=[])))) (KL Z Z f1 Z (fK.struct C4 f1 (KI (eH.cons (u:= Z9 ⟨Zb a.s.a⟩) (v:= Z9 ⟨Zb []⟩) f7 ZY ZY (fK.string B3) (eH.cons (u:= Z9 ⟨Zb a.s.b⟩) (v:= Z9 ⟨Zb []⟩) f7 ZY ZY (fK.string B3) (eH.nil.up (Nt _)))) ((ZX (Zw (a.s.a=[]) && ·) jB).trans eT)))) ZW) (gw (Za (¬ ((a.s.a=[])/\(a.s.b=[])))) (dF (Nu d)) (JX Z (dT j) Z) (fw (Za (¬ ((a.s.a=[])/\(a.s.b=[])))) (JU Z (dF (Nu d)) Z) (nt ?_))))))
 by_cases E:(a.s.a=[])/\(a.s.b=[])
 refine jF (dF (Nu E)) (sk (sr (Kz (vP f 12) (Kz (vP f 15) (La (ai.L a.a.j) h 0 C6 C5 ?_)))))
 obtain⟨aa,F⟩:∃ q,dP a.a.j=q:=⟨_,Z⟩
 obtain⟨dA,aB,bU,aC,bW⟩:=JZ h
 refine cl C7 (jK _ _ a.a.j aa aB F) ?_
 rintro _ dB ⟨rfl,aD⟩
 have af:=aC _ _ aD
 refine Kz (Za (aa=0)) (Mz Z ?_)
 by_cases l:aa=0
 refine Gz (vP f 10) (dT l) (Ga (ai.L a.s) (dT l) af 0 C6 C5 ?_)
 obtain⟨Z5,Z7⟩:∃ q,dP a.s=q:=⟨_,Z⟩
 obtain⟨dC,aF,bX,aG,bY⟩:=JZ af
 refine oI (dT l) C7 (jK _ _ a.s Z5 aF Z7) ?_
 rintro _ dD ⟨rfl,aH⟩
 have bC:=aG _ _ aH
 refine Gz (Za (Z5=0)) (dT l) (fw (Za (Z5=0)) (JX Z (dT l) Z) (An Z (rt (rs ?_))))
 have bD:=bC.pk []
 obtain rfl:=zj hr zq7
 exact⟨Z,bD⟩
 refine Sz (dF l) (Sz (dF l) (Sz (dF l) (Sz (dF l) (fw (Y O) (JU Z (dF l) Z) (An Z (rt (rs ?_)))))))
 have bE:=af.pk []
 obtain rfl:=zj hr zq6
 exact⟨Z,bE⟩
 refine jT (dT E) (sr (An Z (rt (tR (rs ?_)))))
 have bG:=h.pk []
 obtain rfl:=zj hr zq4
 exact⟨Z,bG⟩
 refine Sz (dF j) (Sz (dF j) (Sz (dF j) (Sz (dF j) (gw (Y O) (dF (Nu d)) (JU Z (dF j) Z) (fw (Y O) (JU Z (dF (Nu d)) Z) (nt (jf (sk (sr (Kz (vP f 12) (Kz (vP f 15) (La (ai.L a.a.j) h 0 C6 C5 ?_))))))))))))
 obtain⟨ag,G⟩:∃ q,dP a.a.j=q:=⟨_,Z⟩
 obtain⟨dE,aI,bZ,aJ,cu⟩:=JZ h
 refine cl C7 (jK _ _ a.a.j ag aI G) ?_
 rintro _ dG ⟨rfl,aK⟩
 have ah:=aJ _ _ aK
 refine Kz (Za (ag=0)) (Mz Z ?_)
 by_cases m:ag=0
 refine Gz (vP f 10) (dT m) (Ga (ai.L a.s) (dT m) ah 0 C6 C5 ?_)
 obtain⟨Z6,Z3⟩:∃ q,dP a.s=q:=⟨_,Z⟩
 obtain⟨dH,aL,cz,aM,cK⟩:=JZ ah
 refine oI (dT m) C7 (jK _ _ a.s Z6 aL Z3) ?_
 rintro _ dJ ⟨rfl,aN⟩
 have bI:=aM _ _ aN
 refine Gz (Za (Z6=0)) (dT m) (fw (Za (Z6=0)) (JX Z (dT m) Z) (An Z (rt (rs ?_))))
 have bJ:=bI.pk []
 obtain rfl:=zj hr zq6
 exact⟨Z,bJ⟩
 refine Sz (dF m) (Sz (dF m) (Sz (dF m) (Sz (dF m) (fw (Y O) (JU Z (dF m) Z) (An Z (rt (rs ?_)))))))
 have bK:=ah.pk []
 obtain rfl:=zj hr zq5
 exact⟨Z,bK⟩
 refine Sz (dT d) (Sz (dT d) (Sz (dT d) (Sz (dT d) (QW (QW (QW (QW (Sz (dT d) (fw (Y Zj) (JX Z (dT d) Z) (nt (jt (sr (An Z (rt (tR (rs ?_))))))))))))))))
 have bL:=h.pk []
 obtain rfl:=zj hr zq2
 exact⟨Z,bL⟩
 refine Sz (dF b) (Sz (dF b) (Sz (dF b) (Sz (dF b) (fw (Y O) (JU Z (dF b) Z) (Mz Z (Gz (vP f 9) Z (Gl (vU a.B) Z h 0 E0 (Gz (Za ((a.B:Int)=0)) Z (gw (Za ((a.B:Int)=0)) Z (J3 Z) ?_)))))))))
 by_cases k:(a.B:Int)=0
 refine Gz (vP f 10) (dT k) (Ga (ai.L a.s) (dT k) h 0 C6 C5 (Gz (Zq #[Z9 ⟨Zb []⟩, Z9 ⟨Zb []⟩]) (dT k) (gw (Za (¬ ((a.s.a=[])/\(a.s.b=[])))) (dT k) (Kc (e:= !(Zw ((a.s.a=[])/\(a.s.b=[])))) (KL Z Z f1 Z (fK.struct C4 f1 (KI (eH.cons (u:= Z9 ⟨Zb a.s.a⟩) (v:= Z9 ⟨Zb []⟩) f7 ZY ZY (fK.string B3) (eH.cons (u:= Z9 ⟨Zb a.s.b⟩) (v:= Z9 ⟨Zb []⟩) f7 ZY ZY (fK.string B3) (eH.nil.up (Nt _)))) ((ZX (Zw (a.s.a=[]) && ·) jB).trans eT)))) ZW) (gw (Za (¬ ((a.s.a=[])/\(a.s.b=[])))) Z (JX Z (dT k) Z) (fw (Za (¬ ((a.s.a=[])/\(a.s.b=[])))) (QK Z) (nt ?_))))))
 by_cases I:(a.s.a=[])/\(a.s.b=[])
 refine jF (dF (Nu I)) (sk (sr (Kz (vP f 12) (Kz (vP f 15) (La (ai.L a.a.j) h 0 C6 C5 ?_)))))
 obtain⟨aj,J⟩:∃ q,dP a.a.j=q:=⟨_,Z⟩
 obtain⟨dK,aO,cO,aP,cZ⟩:=JZ h
 refine cl C7 (jK _ _ a.a.j aj aO J) ?_
 rintro _ dL ⟨rfl,aQ⟩
 have ak:=aP _ _ aQ
 refine Kz (Za (aj=0)) (Mz Z ?_)
 by_cases n:aj=0
 refine Gz (vP f 10) (dT n) (Ga (ai.L a.s) (dT n) ak 0 C6 C5 ?_)
 obtain⟨P,Z4⟩:∃ q,dP a.s=q:=⟨_,Z⟩
 obtain⟨dM,aR,df,aS,dh⟩:=JZ ak
 refine oI (dT n) C7 (jK _ _ a.s P aR Z4) ?_
 rintro _ dN ⟨rfl,aT⟩
 have bM:=aS _ _ aT
 refine Gz (Za (P=0)) (dT n) (fw (Za (P=0)) (JX Z (dT n) Z) (An Z (rt (rs ?_))))
 have bN:=bM.pk []
 obtain rfl:=zj hr zq6
 exact⟨Z,bN⟩
 refine Sz (dF n) (Sz (dF n) (Sz (dF n) (Sz (dF n) (fw (Y O) (JU Z (dF n) Z) (An Z (rt (rs ?_)))))))
 have aU:=ak.pk []
 obtain rfl:=zj hr zq5
 exact⟨Z,aU⟩
 refine jT (dT I) (sr (An Z (rt (tR (rs ?_)))))
 have aW:=h.pk []
 obtain rfl:=zj hr zq3
 exact⟨Z,aW⟩
 refine Sz (dF k) (Sz (dF k) (Sz (dF k) (Sz (dF k) (gw (Y O) Z (JU Z (dF k) Z) (fw (Y O) (QK Z) (nt (jf (sk (sr (Kz (vP f 12) (Kz (vP f 15) (La (ai.L a.a.j) h 0 C6 C5 ?_))))))))))))
 obtain⟨K,o⟩:∃ q,dP a.a.j=q:=⟨_,Z⟩
 obtain⟨di,au,bP,av,bQ⟩:=JZ h
 refine cl C7 (jK _ _ a.a.j K au o) ?_
 rintro _ dm ⟨rfl,ax⟩
 have L:=av _ _ ax
 refine Kz (Za (K=0)) (Mz Z ?_)
 by_cases g:K=0
 refine Gz (vP f 10) (dT g) (Ga (ai.L a.s) (dT g) L 0 C6 C5 ?_)
 obtain⟨p,M⟩:∃ q,dP a.s=q:=⟨_,Z⟩
 obtain⟨dn,ay,bR,az,bS⟩:=JZ L
 refine oI (dT g) C7 (jK _ _ a.s p ay M) ?_
 rintro _ dw ⟨rfl,aA⟩
 have aX:=az _ _ aA
 refine Gz (Za (p=0)) (dT g) (fw (Za (p=0)) (JX Z (dT g) Z) (An Z (rt (rs ?_))))
 have aY:=aX.pk []
 obtain rfl:=zj hr zq5
 exact⟨Z,aY⟩
 refine Sz (dF g) (Sz (dF g) (Sz (dF g) (Sz (dF g) (fw (Y O) (JU Z (dF g) Z) (An Z (rt (rs ?_)))))))
 have aZ:=L.pk []
 obtain rfl:=zj hr zq4
 exact⟨Z,aZ⟩
def lC (a:Bool):Int:=
 if a=Zj then 0 else 1
theorem oF (w D b e) (H:Own w D w []) (hr:lC b=e):
    Calls y3 27 #[Y b] w (dI λ v w'=>v=vI e/\Own w D w' []):=by
 unfold lC at hr
 refine cb Tryz.func27 ?_
 refine sr (An Z (JS (sr (Mz Z (Kz (Y (!b)) (nt ?_))))))
 rcases Nv (b) with a | a
 refine jF (cn a) (sk (sr (An Z (rt (rs ?_)))))
 have c:=H.pk []
 obtain rfl:=zj hr zq1
 exact⟨Z,c⟩
 refine jT (cn a) (sr (An Z (rt (tR (rs ?_)))))
 have d:=H.pk []
 obtain rfl:=zj hr zq1
 exact⟨Z,d⟩
def ma (i:bH):Int:=
 bnd (uK i.r 4) λ b=>if b=Zj then bnd (lq i.b.a) λ c=>if c=0 then bnd (tC i) λ d=>if d=Zj then bnd (tF i) λ e=>bnd (lC e) λ f=>f else bnd (lC O) λ g=>g else bnd (lC O) λ h=>h else bnd (lC O) λ a=>a
theorem si (w D) (a:bH) (e F b h G f m i I g r0) (H:Own w D w []) (P:F=X a.b.a) (o:Ro w D λ w'=>bV w' 2 e (X a.b.a) (q1 bF.L a.b.a)) (aX:X a.b.a<=b/\X a.b.a<=9223372036854775807) (p:s0 bA.abs m=a.g.a) (Q:G=X a.g.a) (u:Ro w D λ w'=>bV w' 2 h (X a.g.a) (q1 bA.L m)) (aY:X a.g.a<=f/\X a.g.a<=9223372036854775807) (j:∀ x ∈ m,Ro w D (λ w'=>bV w' 6 x.a.A (X x.a.a) (q1 aV.L x.a.a))/\(X x.a.a<=x.a.c/\X x.a.a<=9223372036854775807)) (R:I=X a.j.a) (y:Ro w D λ w'=>bV w' 1 i (X a.j.a) (q1 (eN .u64) a.j.a)) (aZ:X a.j.a<=g/\X a.j.a<=9223372036854775807) (bS:X a.b.a<=140737488355328/\X a.g.a<=140737488355328/\X a.j.a<=140737488355328) (bT:X a.g.a<=0/\X a.j.a<=0) (hr:ma a=r0):
    Calls y3 16 #[Zq (Zb (fV a.r a.y a.u a.z a.k e F b h G f i I g a.t a.B a.s.a a.s.b a.a.k a.a.s a.a.a a.a.j.a a.a.j.b))] w (dI λ v w'=>v=vI r0/\Own w D w' []):=by
 unfold ma at hr
 subst P Q R
 have aW:=bf p
 refine cb Tryz.func16 ?_
 refine sr ?_
 refine cB (gZ a e b h f i g) 42 H ?_
 intro Z0 bU aa
 refine Ar Z (Kz (vP Z0 0) (Lz (vI a.r) aa 0 B8 ?_))
 obtain⟨af,n⟩:∃ q,uK a.r 4=q:=⟨_,Z⟩
 obtain⟨bW,ag,bD,ah,bE⟩:=JZ aa
 refine cl Tryz.call28 (zz _ _ a.r 4 af ag n) ?_
 rintro _ bX ⟨rfl,ai⟩
 have S:=ah _ _ ai
 refine Mz Z ?_
 rcases Nv (af) with d | d
 refine Gz (vP Z0 5) d (Gl (T e (X a.b.a) b) d S 0 Tryz.isAgg34 ?_)
 obtain⟨z,r⟩:∃ q,lq a.b.a=q:=⟨_,Z⟩
 obtain⟨bY,aj,ak,au,bG⟩:=JZ S
 refine KU Z Z d Z (Ki Tryz.call29 Z (qG _ _ e (X a.b.a) b a.b.a z aj (ak _ o) Z U r) ?_)
 rintro _ bZ ⟨rfl,av,J⟩
 have Z7:=au _ _ av
 replace J: ¬ (z=0)\/(1<=X a.b.a/\X a.b.a<=6):=J
 refine Gz (Za (z=0)) d (fw (Za (z=0)) (JX Z d Z) (Mz Z ?_))
 by_cases k:z=0
 refine Ga (gZ a e b h f i g) (dT k) Z7 0 Tryz.isAgg42 Tryz.sizeOf42 ?_
 obtain⟨Z3,B⟩:∃ q,tC a=q:=⟨_,Z⟩
 obtain⟨cu,ax,s,ay,bI⟩:=JZ Z7
 refine oI (decide_eq_true k) Tryz.call30 (yx _ _ a e (X a.b.a) b h (X a.g.a) f m i (X a.j.a) g Z3 ax Z (s _ o) U p Z (s _ u) U (λ x9 h9=>⟨s _ (j x9 h9).1,(j x9 h9).2⟩) Z (s _ y) U g5 g5 B) ?_
 rintro _ cz ⟨rfl,aB⟩
 have Z4:=ay _ _ aB
 refine fw (Y Z3) (JX Z (dT k) Z) (Mz Z ?_)
 rcases Nv (Z3) with l | l
 refine Ga (gZ a e b h f i g) l Z4 0 Tryz.isAgg42 Tryz.sizeOf42 ?_
 obtain⟨E,K⟩:∃ q,tF a=q:=⟨_,Z⟩
 obtain⟨cK,aC,t,aD,bJ⟩:=JZ Z4
 refine KU Z Z l Z (Ki Tryz.call31 Z (yz _ _ a e (X a.b.a) b h (X a.g.a) f m i (X a.j.a) g E aC Z (t _ o) U p Z (t _ u) U (λ x9 h9=>⟨t _ (j x9 h9).1,(j x9 h9).2⟩) Z (t _ y) U g5 K) ?_)
 rintro _ cO ⟨rfl,aF⟩
 have bg:=aD _ _ aF
 refine fw (Y E) (JX Z l Z) ?_
 obtain⟨aG,L⟩:∃ q,lC E=q:=⟨_,Z⟩
 obtain⟨cZ,aH,bK,aI,bL⟩:=JZ bg
 refine cl E2 (oF _ _ E aG aH L) ?_
 rintro _ df ⟨rfl,aJ⟩
 have bi:=aI _ _ aJ
 refine An Z (rt (rs ?_))
 have bn:=bi.pk []
 obtain rfl:=zj hr zq8
 exact⟨Z,bn⟩
 refine Sz l (Sz l (fw (Y O) (JU Z l Z) ?_))
 obtain⟨aK,M⟩:∃ q,lC O=q:=⟨_,Z⟩
 obtain⟨dh,aL,bM,aM,bN⟩:=JZ Z4
 refine cl E2 (oF _ _ O aK aL M) ?_
 rintro _ di ⟨rfl,aN⟩
 have bq:=aM _ _ aN
 refine An Z (rt (rs ?_))
 have bu:=bq.pk []
 obtain rfl:=zj hr zq7
 exact⟨Z,bu⟩
 refine Sz (dF k) (Sz (dF k) (fw (Y O) (JU Z (dF k) Z) (Mz Z (QQ (QQ (fw (Y O) (QK Z) ?_))))))
 obtain⟨aO,Z5⟩:∃ q,lC O=q:=⟨_,Z⟩
 obtain⟨dm,aP,bO,aQ,bP⟩:=JZ Z7
 refine cl E2 (oF _ _ O aO aP Z5) ?_
 rintro _ dn ⟨rfl,aR⟩
 have bv:=aQ _ _ aR
 refine An Z (rt (rs ?_))
 have aS:=bv.pk []
 obtain rfl:=zj hr zq5
 exact⟨Z,aS⟩
 refine Sz d (Sz d (Sz d (Sz d (fw (Y O) (JU Z d Z) (Mz Z (QQ (QQ (fw (Y O) (QK Z) (Mz Z (QQ (QQ (fw (Y O) (QK Z) ?_))))))))))))
 obtain⟨Z6,C⟩:∃ q,lC O=q:=⟨_,Z⟩
 obtain⟨bQ,Z8,bz,Z1,bB⟩:=JZ S
 refine cl E2 (oF _ _ O Z6 Z8 C) ?_
 rintro _ bR ⟨rfl,Z2⟩
 have aT:=Z1 _ _ Z2
 refine An Z (rt (rs ?_))
 have aU:=aT.pk []
 obtain rfl:=zj hr zq3
 exact⟨Z,aU⟩
end
open Int renaming toNat->W
open IntKind renaming u64->H3
open List renaming drop->r8,mem_of_getElem?->G4
open Ll renaming q->N
open Sum renaming inl->G0,inr->G1
open _root_.Go.Proofs.Tryz renaming call62->H1,isAgg121->E7,isAgg4->H2,sizeOf121->E6,underlying22->F0,underlying4->F2,underlying45->F1
open WL renaming nil->G2
open Wp renaming exit->H0,loop->G3
section
open Go.RowKit
theorem GK:Elem y3 119 178 1 8:=mV (z:= .int .i64 0) Tryz.underlying119 f1 Z f7
structure mG where q::
 g:Int
 b:Int
 a:Sv Int
def mG.L (x:mG):List ZQ:= [.int .i64 x.g, .int .i64 x.b, T x.a.A (X x.a.a) x.a.c]
instance:Bk mG:=⟨λ x _=>bk x.g+(bk x.b+(bk x.a+(0)))⟩
theorem mG.len:∀ x,X (mG.L x)=3:=λ _=>rfl
theorem mG.one:∀ x, ∀ u ∈ mG.L x,u.oneCell'=Zj:=λ x u hu=>by
 simp only [mG.L,v1,y2,or_false] at hu
 rcases hu with rfl | rfl | rfl <;> rfl
def M4 (w:ZZ) (x:mG):Prop:=((-9223372036854775808)<=x.g/\x.g<=9223372036854775807)/\((-9223372036854775808)<=x.b/\x.b<=9223372036854775807)/\(nK w 1 8 (eI .i64) (λ n=>(-9223372036854775808)<=n/\n<=9223372036854775807) x.a)
instance:Inhabited mG:=⟨⟨Zy,Zy,Zy⟩⟩
structure gK where q::
 g:Int
 b:Int
 a:Ll Int
instance:Inhabited gK:=⟨⟨Zy,Zy,Zy⟩⟩
def mG.abs (x:mG):gK:=⟨x.g,x.b,⟨x.a.a⟩⟩
def MZ (x:mG):List HP:= [row x.a.A (X x.a.a) x.a.c (q1 (eI .i64) x.a.a) 178 1]
def pI (a:Int):gK × Bool:=
 if a<=0 then(gK.q 0 0 (N []),O) else if a >= 15 then(gK.q 0 0 (N []),O) else if((W a:Nat):Int)=1 then(gK.q 2 0 (N ([0,1,7])),Zj) else if((W a:Nat):Int)=2 then(gK.q 0 2 (N ([0,1,2,3])),Zj) else if((W a:Nat):Int)=3 then(gK.q 0 1 (N ([4,5,6,7])),Zj) else if((W a:Nat):Int)=4 then(gK.q 1 0 (N ([4,2,3])),Zj) else if((W a:Nat):Int)=5 then(gK.q 0 1 (N ([4,8])),Zj) else if((W a:Nat):Int)=6 then(gK.q 1 0 (N ([4])),Zj) else if((W a:Nat):Int)=7 then(gK.q 1 0 (N ([4])),Zj) else if((W a:Nat):Int)=8 then(gK.q 0 1 (N ([9,6,10,11])),Zj) else if((W a:Nat):Int)=9 then(gK.q 1 0 (N ([9])),Zj) else if((W a:Nat):Int)=10 then(gK.q 0 1 (N ([9,10,12,8,13])),Zj) else if((W a:Nat):Int)=11 then(gK.q 1 1 (N ([10,14,15,13,7])),Zj) else if((W a:Nat):Int)=12 then(gK.q 1 1 (N ([10,14,15])),Zj) else if((W a:Nat):Int)=13 then(gK.q 1 0 (N ([10])),Zj) else(gK.q 1 0 (N ([10])),Zj)
theorem yR (w D c) (r0:gK) (r1) (H:Own w D w []) (hr:pI c=(r0,r1)):
    Calls y3 44 #[vI c] w (dI λ v w'=> ∃ Z6 P,v= .tuple #[Zq #[vI r0.g,vI r0.b, T Z6 (X r0.a.a) P], Y r1]/\Own w D w' [row Z6 (X r0.a.a) P (q1 (eI .i64) r0.a.a) 178 1]/\(X r0.a.a<=5)):=by
 unfold pI at hr
 refine cb Tryz.func44 ?_
 refine sr ?_
 refine cB [vI 0,vI 0, T Zk 0 0] 121 H ?_
 intro _ _ bu
 refine Ar Z (j6 [vI 0,vI 1,vI 7] 178 1 3 bu ?_)
 intro s _ ag
 replace ag:=Ku (y:=row s 3 3 (q1 (eI .i64) ([0,1,7])) 178 1) Z ag
 refine Kz (Zq #[vI 2,vI 0, T s 3 3]) (j6 [vI 0,vI 1,vI 2,vI 3] 178 1 4 ag ?_)
 intro t _ ah
 replace ah:=Ku (y:=row t 4 4 (q1 (eI .i64) ([0,1,2,3])) 178 1) Z ah
 refine Kz (Zq #[vI 0,vI 2, T t 4 4]) (j6 [vI 4,vI 5,vI 6,vI 7] 178 1 4 ah ?_)
 intro u _ ai
 replace ai:=Ku (y:=row u 4 4 (q1 (eI .i64) ([4,5,6,7])) 178 1) Z ai
 refine Kz (Zq #[vI 0,vI 1, T u 4 4]) (j6 [vI 4,vI 2,vI 3] 178 1 3 ai ?_)
 intro x _ aj
 replace aj:=Ku (y:=row x 3 3 (q1 (eI .i64) ([4,2,3])) 178 1) Z aj
 refine Kz (Zq #[vI 1,vI 0, T x 3 3]) (j6 [vI 4,vI 8] 178 1 2 aj ?_)
 intro z _ ak
 replace ak:=Ku (y:=row z 2 2 (q1 (eI .i64) ([4,8])) 178 1) Z ak
 refine Kz (Zq #[vI 0,vI 1, T z 2 2]) (j6 [vI 4] 178 1 1 ak ?_)
 intro A _ au
 replace au:=Ku (y:=row A 1 1 (q1 (eI .i64) ([4])) 178 1) Z au
 refine Kz (Zq #[vI 1,vI 0, T A 1 1]) (j6 [vI 4] 178 1 1 au ?_)
 intro B _ av
 replace av:=Ku (y:=row B 1 1 (q1 (eI .i64) ([4])) 178 1) Z av
 refine Kz (Zq #[vI 1,vI 0, T B 1 1]) (j6 [vI 9,vI 6,vI 10,vI 11] 178 1 4 av ?_)
 intro C _ ax
 replace ax:=Ku (y:=row C 4 4 (q1 (eI .i64) ([9,6,10,11])) 178 1) Z ax
 refine Kz (Zq #[vI 0,vI 1, T C 4 4]) (j6 [vI 9] 178 1 1 ax ?_)
 intro E _ ay
 replace ay:=Ku (y:=row E 1 1 (q1 (eI .i64) ([9])) 178 1) Z ay
 refine Kz (Zq #[vI 1,vI 0, T E 1 1]) (j6 [vI 9,vI 10,vI 12,vI 8,vI 13] 178 1 5 ay ?_)
 intro F _ az
 replace az:=Ku (y:=row F 5 5 (q1 (eI .i64) ([9,10,12,8,13])) 178 1) Z az
 refine Kz (Zq #[vI 0,vI 1, T F 5 5]) (j6 [vI 10,vI 14,vI 15,vI 13,vI 7] 178 1 5 az ?_)
 intro G _ aA
 replace aA:=Ku (y:=row G 5 5 (q1 (eI .i64) ([10,14,15,13,7])) 178 1) Z aA
 refine Kz (Zq #[vI 1,vI 1, T G 5 5]) (j6 [vI 10,vI 14,vI 15] 178 1 3 aA ?_)
 intro I _ aB
 replace aB:=Ku (y:=row I 3 3 (q1 (eI .i64) ([10,14,15])) 178 1) Z aB
 refine Kz (Zq #[vI 1,vI 1, T I 3 3]) (j6 [vI 10] 178 1 1 aB ?_)
 intro J _ aC
 replace aC:=Ku (y:=row J 1 1 (q1 (eI .i64) ([10])) 178 1) Z aC
 refine Kz (Zq #[vI 1,vI 0, T J 1 1]) (j6 [vI 10] 178 1 1 aC ?_)
 intro K _ aD
 replace aD:=Ku (y:=row K 1 1 (q1 (eI .i64) ([10])) 178 1) Z aD
 refine Kz (Zq #[vI 1,vI 0, T K 1 1]) (Kz (Zq #[vI 0,vI 0, T Zk 0 0,vI 2,vI 0, T s 3 3,vI 0,vI 2, T t 4 4,vI 0,vI 1, T u 4 4,vI 1,vI 0, T x 3 3,vI 0,vI 1, T z 2 2,vI 1,vI 0, T A 1 1,vI 1,vI 0, T B 1 1,vI 0,vI 1, T C 4 4,vI 1,vI 0, T E 1 1,vI 0,vI 1, T F 5 5,vI 1,vI 1, T G 5 5,vI 1,vI 1, T I 3 3,vI 1,vI 0, T J 1 1,vI 1,vI 0, T K 1 1]) (cB [vI 0,vI 0, T Zk 0 0,vI 0,vI 0, T Zk 0 0,vI 0,vI 0, T Zk 0 0,vI 0,vI 0, T Zk 0 0,vI 0,vI 0, T Zk 0 0,vI 0,vI 0, T Zk 0 0,vI 0,vI 0, T Zk 0 0,vI 0,vI 0, T Zk 0 0,vI 0,vI 0, T Zk 0 0,vI 0,vI 0, T Zk 0 0,vI 0,vI 0, T Zk 0 0,vI 0,vI 0, T Zk 0 0,vI 0,vI 0, T Zk 0 0,vI 0,vI 0, T Zk 0 0,vI 0,vI 0, T Zk 0 0] 179 aD ?_))
 intro g _ bv
 refine cu [vI 0,vI 0, T Zk 0 0,vI 2,vI 0, T s 3 3,vI 0,vI 2, T t 4 4,vI 0,vI 1, T u 4 4,vI 1,vI 0, T x 3 3,vI 0,vI 1, T z 2 2,vI 1,vI 0, T A 1 1,vI 1,vI 0, T B 1 1,vI 0,vI 1, T C 4 4,vI 1,vI 0, T E 1 1,vI 0,vI 1, T F 5 5,vI 1,vI 1, T G 5 5,vI 1,vI 1, T I 3 3,vI 1,vI 0, T J 1 1,vI 1,vI 0, T K 1 1] 0 bv Tryz.sizeOf179 ?_
 intro _ a
 refine nt (JS (sr (Mz Z (Kz (Za (c<=0)) (Mz Z ?_)))))
 by_cases b:c<=0
 refine Sz (dT b) (Sz (dT b) (fw (Y Zj) (JX Z (dT b) Z) (nt (jt (sr (Kz (Zq #[vI 0,vI 0, T Zk 0 0]) (cu [vI 0,vI 0, T Zk 0 0] 0 (a.pf [15]) E6 ?_)))))))
 intro bA aF
 refine An Z (rt (tR (Ke (fQ (vs:= [Zq #[vI 0,vI 0, T Zk 0 0], Y O]) Z (bS.cell Z (J7 (cs:= [vI 0,vI 0, T Zk 0 0]) E7 E6 ((aF.cls (i:=0) Z).lit (k:=0) (m:=3) Z)) (bS.tmp Z bS.nil)) (Nr Z)) ?_)))
 have bC:=(aF.free (bW 178 1)).pk [0]
 obtain⟨rfl,rfl⟩:=fI (zj hr zq1)
 exact⟨Zk,0,Z,bC,i1⟩
 refine gw (vI c) (dF b) (J3 Z) (Gz (Za (c >= 15)) (dF b) (fw (Za (c >= 15)) (JU Z (dF b) Z) (nt ?_)))
 by_cases d:c >= 15
 refine jT (dT d) (sr (Kz (Zq #[vI 0,vI 0, T Zk 0 0]) (cu [vI 0,vI 0, T Zk 0 0] 0 (a.pf [15]) E6 ?_)))
 intro bE aG
 refine An Z (rt (tR (Ke (fQ (vs:= [Zq #[vI 0,vI 0, T Zk 0 0], Y O]) Z (bS.cell Z (J7 (cs:= [vI 0,vI 0, T Zk 0 0]) E7 E6 ((aG.cls (i:=0) Z).lit (k:=0) (m:=3) Z)) (bS.tmp Z bS.nil)) (Nr Z)) ?_)))
 have bG:=(aG.free (bW 178 1)).pk [0]
 obtain⟨rfl,rfl⟩:=fI (zj hr zq2)
 exact⟨Zk,0,Z,bG,i1⟩
 refine jF (dF d) (sk (sr (fw (vJ (W c)) (J4 (e:=c) (J3 Z) U) ?_)))
 by_cases h:((W c:Nat):Int)=1
 refine fw (vP g 3) (by(try unfold vJ); rw [show ((W c:Nat):Int)=1 from by omega]; exact yk) (La ([vI 2,vI 0, T s 3 3]) a 0 E7 E6 ?_)
 refine cu [vI 2,vI 0, T s 3 3] 0 (a.pf [15]) E6 ?_
 intro _ aH
 refine An Z (rt (Ke (fQ (vs:= [Zq #[vI 2,vI 0, T s 3 3], Y Zj]) Z (bS.cell Z (J7 (cs:= [vI 2,vI 0, T s 3 3]) E7 E6 ((aH.cls (i:=0) Z).lit (k:=0) (m:=3) Z)) (bS.tmp Z bS.nil)) (Nr Z)) ?_))
 obtain⟨rfl,rfl⟩:=fI (zj hr zq3)
 exact⟨s,3,Z,(aH.pk [15]),i1⟩
 by_cases l:((W c:Nat):Int)=2
 refine fw (vP g 6) (by(try unfold vJ); rw [show ((W c:Nat):Int)=2 from by omega]; exact yk) (La ([vI 0,vI 2, T t 4 4]) a 0 E7 E6 ?_)
 refine cu [vI 0,vI 2, T t 4 4] 0 (a.pf [15]) E6 ?_
 intro _ aI
 refine An Z (rt (Ke (fQ (vs:= [Zq #[vI 0,vI 2, T t 4 4], Y Zj]) Z (bS.cell Z (J7 (cs:= [vI 0,vI 2, T t 4 4]) E7 E6 ((aI.cls (i:=0) Z).lit (k:=0) (m:=3) Z)) (bS.tmp Z bS.nil)) (Nr Z)) ?_))
 obtain⟨rfl,rfl⟩:=fI (zj hr zq4)
 exact⟨t,4,Z,(aI.pk [14]),i1⟩
 by_cases o:((W c:Nat):Int)=3
 refine fw (vP g 9) (by(try unfold vJ); rw [show ((W c:Nat):Int)=3 from by omega]; exact yk) (La ([vI 0,vI 1, T u 4 4]) a 0 E7 E6 ?_)
 refine cu [vI 0,vI 1, T u 4 4] 0 (a.pf [15]) E6 ?_
 intro _ aJ
 refine An Z (rt (Ke (fQ (vs:= [Zq #[vI 0,vI 1, T u 4 4], Y Zj]) Z (bS.cell Z (J7 (cs:= [vI 0,vI 1, T u 4 4]) E7 E6 ((aJ.cls (i:=0) Z).lit (k:=0) (m:=3) Z)) (bS.tmp Z bS.nil)) (Nr Z)) ?_))
 obtain⟨rfl,rfl⟩:=fI (zj hr zq5)
 exact⟨u,4,Z,(aJ.pk [13]),i1⟩
 by_cases p:((W c:Nat):Int)=4
 refine fw (vP g 12) (by(try unfold vJ); rw [show ((W c:Nat):Int)=4 from by omega]; exact yk) (La ([vI 1,vI 0, T x 3 3]) a 0 E7 E6 ?_)
 refine cu [vI 1,vI 0, T x 3 3] 0 (a.pf [15]) E6 ?_
 intro _ Q
 refine An Z (rt (Ke (fQ (vs:= [Zq #[vI 1,vI 0, T x 3 3], Y Zj]) Z (bS.cell Z (J7 (cs:= [vI 1,vI 0, T x 3 3]) E7 E6 ((Q.cls (i:=0) Z).lit (k:=0) (m:=3) Z)) (bS.tmp Z bS.nil)) (Nr Z)) ?_))
 obtain⟨rfl,rfl⟩:=fI (zj hr zq6)
 exact⟨x,3,Z,(Q.pk [12]),i1⟩
 by_cases f:((W c:Nat):Int)=5
 refine fw (vP g 15) (by(try unfold vJ); rw [show ((W c:Nat):Int)=5 from by omega]; exact yk) (La ([vI 0,vI 1, T z 2 2]) a 0 E7 E6 ?_)
 refine cu [vI 0,vI 1, T z 2 2] 0 (a.pf [15]) E6 ?_
 intro _ R
 refine An Z (rt (Ke (fQ (vs:= [Zq #[vI 0,vI 1, T z 2 2], Y Zj]) Z (bS.cell Z (J7 (cs:= [vI 0,vI 1, T z 2 2]) E7 E6 ((R.cls (i:=0) Z).lit (k:=0) (m:=3) Z)) (bS.tmp Z bS.nil)) (Nr Z)) ?_))
 obtain⟨rfl,rfl⟩:=fI (zj hr zq7)
 exact⟨z,2,Z,(R.pk [11]),i1⟩
 by_cases j:((W c:Nat):Int)=6
 refine fw (vP g 18) (by(try unfold vJ); rw [show ((W c:Nat):Int)=6 from by omega]; exact yk) (La ([vI 1,vI 0, T A 1 1]) a 0 E7 E6 ?_)
 refine cu [vI 1,vI 0, T A 1 1] 0 (a.pf [15]) E6 ?_
 intro _ S
 refine An Z (rt (Ke (fQ (vs:= [Zq #[vI 1,vI 0, T A 1 1], Y Zj]) Z (bS.cell Z (J7 (cs:= [vI 1,vI 0, T A 1 1]) E7 E6 ((S.cls (i:=0) Z).lit (k:=0) (m:=3) Z)) (bS.tmp Z bS.nil)) (Nr Z)) ?_))
 obtain⟨rfl,rfl⟩:=fI (zj hr zq8)
 exact⟨A,1,Z,(S.pk [10]),i1⟩
 by_cases n:((W c:Nat):Int)=7
 refine fw (vP g 21) (by(try unfold vJ); rw [show ((W c:Nat):Int)=7 from by omega]; exact yk) (La ([vI 1,vI 0, T B 1 1]) a 0 E7 E6 ?_)
 refine cu [vI 1,vI 0, T B 1 1] 0 (a.pf [15]) E6 ?_
 intro _ Z7
 refine An Z (rt (Ke (fQ (vs:= [Zq #[vI 1,vI 0, T B 1 1], Y Zj]) Z (bS.cell Z (J7 (cs:= [vI 1,vI 0, T B 1 1]) E7 E6 ((Z7.cls (i:=0) Z).lit (k:=0) (m:=3) Z)) (bS.tmp Z bS.nil)) (Nr Z)) ?_))
 obtain⟨rfl,rfl⟩:=fI (zj hr zq9)
 exact⟨B,1,Z,(Z7.pk [9]),i1⟩
 by_cases q:((W c:Nat):Int)=8
 refine fw (vP g 24) (by(try unfold vJ); rw [show ((W c:Nat):Int)=8 from by omega]; exact yk) (La ([vI 0,vI 1, T C 4 4]) a 0 E7 E6 ?_)
 refine cu [vI 0,vI 1, T C 4 4] 0 (a.pf [15]) E6 ?_
 intro _ Z3
 refine An Z (rt (Ke (fQ (vs:= [Zq #[vI 0,vI 1, T C 4 4], Y Zj]) Z (bS.cell Z (J7 (cs:= [vI 0,vI 1, T C 4 4]) E7 E6 ((Z3.cls (i:=0) Z).lit (k:=0) (m:=3) Z)) (bS.tmp Z bS.nil)) (Nr Z)) ?_))
 obtain⟨rfl,rfl⟩:=fI (zj hr zq10)
 exact⟨C,4,Z,(Z3.pk [8]),i1⟩
 by_cases r:((W c:Nat):Int)=9
 refine fw (vP g 27) (by(try unfold vJ); rw [show ((W c:Nat):Int)=9 from by omega]; exact yk) (La ([vI 1,vI 0, T E 1 1]) a 0 E7 E6 ?_)
 refine cu [vI 1,vI 0, T E 1 1] 0 (a.pf [15]) E6 ?_
 intro _ Z4
 refine An Z (rt (Ke (fQ (vs:= [Zq #[vI 1,vI 0, T E 1 1], Y Zj]) Z (bS.cell Z (J7 (cs:= [vI 1,vI 0, T E 1 1]) E7 E6 ((Z4.cls (i:=0) Z).lit (k:=0) (m:=3) Z)) (bS.tmp Z bS.nil)) (Nr Z)) ?_))
 obtain⟨rfl,rfl⟩:=fI (zj hr zq11)
 exact⟨E,1,Z,(Z4.pk [7]),i1⟩
 by_cases L:((W c:Nat):Int)=10
 refine fw (vP g 30) (by(try unfold vJ); rw [show ((W c:Nat):Int)=10 from by omega]; exact yk) (La ([vI 0,vI 1, T F 5 5]) a 0 E7 E6 ?_)
 refine cu [vI 0,vI 1, T F 5 5] 0 (a.pf [15]) E6 ?_
 intro _ Z8
 refine An Z (rt (Ke (fQ (vs:= [Zq #[vI 0,vI 1, T F 5 5], Y Zj]) Z (bS.cell Z (J7 (cs:= [vI 0,vI 1, T F 5 5]) E7 E6 ((Z8.cls (i:=0) Z).lit (k:=0) (m:=3) Z)) (bS.tmp Z bS.nil)) (Nr Z)) ?_))
 obtain⟨rfl,rfl⟩:=fI (zj hr zq12)
 exact⟨F,5,Z,(Z8.pk [6]),i1⟩
 by_cases M:((W c:Nat):Int)=11
 refine fw (vP g 33) (by(try unfold vJ); rw [show ((W c:Nat):Int)=11 from by omega]; exact yk) (La ([vI 1,vI 1, T G 5 5]) a 0 E7 E6 ?_)
 refine cu [vI 1,vI 1, T G 5 5] 0 (a.pf [15]) E6 ?_
 intro _ Z1
 refine An Z (rt (Ke (fQ (vs:= [Zq #[vI 1,vI 1, T G 5 5], Y Zj]) Z (bS.cell Z (J7 (cs:= [vI 1,vI 1, T G 5 5]) E7 E6 ((Z1.cls (i:=0) Z).lit (k:=0) (m:=3) Z)) (bS.tmp Z bS.nil)) (Nr Z)) ?_))
 obtain⟨rfl,rfl⟩:=fI (zj hr zq13)
 exact⟨G,5,Z,(Z1.pk [5]),i1⟩
 by_cases Z5:((W c:Nat):Int)=12
 refine fw (vP g 36) (by(try unfold vJ); rw [show ((W c:Nat):Int)=12 from by omega]; exact yk) (La ([vI 1,vI 1, T I 3 3]) a 0 E7 E6 ?_)
 refine cu [vI 1,vI 1, T I 3 3] 0 (a.pf [15]) E6 ?_
 intro _ Z2
 refine An Z (rt (Ke (fQ (vs:= [Zq #[vI 1,vI 1, T I 3 3], Y Zj]) Z (bS.cell Z (J7 (cs:= [vI 1,vI 1, T I 3 3]) E7 E6 ((Z2.cls (i:=0) Z).lit (k:=0) (m:=3) Z)) (bS.tmp Z bS.nil)) (Nr Z)) ?_))
 obtain⟨rfl,rfl⟩:=fI (zj hr zq14)
 exact⟨I,3,Z,(Z2.pk [4]),i1⟩
 by_cases Z0:((W c:Nat):Int)=13
 refine fw (vP g 39) (by(try unfold vJ); rw [show ((W c:Nat):Int)=13 from by omega]; exact yk) (La ([vI 1,vI 0, T J 1 1]) a 0 E7 E6 ?_)
 refine cu [vI 1,vI 0, T J 1 1] 0 (a.pf [15]) E6 ?_
 intro _ aa
 refine An Z (rt (Ke (fQ (vs:= [Zq #[vI 1,vI 0, T J 1 1], Y Zj]) Z (bS.cell Z (J7 (cs:= [vI 1,vI 0, T J 1 1]) E7 E6 ((aa.cls (i:=0) Z).lit (k:=0) (m:=3) Z)) (bS.tmp Z bS.nil)) (Nr Z)) ?_))
 obtain⟨rfl,rfl⟩:=fI (zj hr zq15)
 exact⟨J,1,Z,(aa.pk [3]),i1⟩
 refine fw (vP g 42) (by(try unfold vJ); rw [show ((W c:Nat):Int)=14 from by omega]; exact yk) (La ([vI 1,vI 0, T K 1 1]) a 0 E7 E6 ?_)
 refine cu [vI 1,vI 0, T K 1 1] 0 (a.pf [15]) E6 ?_
 intro _ ae
 refine An Z (rt (Ke (fQ (vs:= [Zq #[vI 1,vI 0, T K 1 1], Y Zj]) Z (bS.cell Z (J7 (cs:= [vI 1,vI 0, T K 1 1]) E7 E6 ((ae.cls (i:=0) Z).lit (k:=0) (m:=3) Z)) (bS.tmp Z bS.nil)) (Nr Z)) ?_))
 obtain⟨rfl,rfl⟩:=fI (zj hr zq15)
 exact⟨K,1,Z,(ae.pk [2]),i1⟩
def uL (b:Int) (a:Int):Bool:=
 if b=2 then if a=1 then Zj else Zw (a=2) else if a=3 then Zj else if a=4 then Zj else Zw (a=5)
theorem zA (w D f b l) (H:Own w D w []) (hr:uL f b=l):
    Calls y3 155 #[vI f,vI b] w (dI λ v w'=>v= Y l/\Own w D w' []):=by
 unfold uL at hr
 refine cb Tryz.func155 ?_
 refine sr (An Z (JS (sr (Mz Z (Kz (Za (f=2)) (nt ?_))))))
 by_cases e:f=2
 refine jT (dT e) (sr (Mz Z (Kz (Za (b=1)) (Mz Z ?_))))
 by_cases c:b=1
 refine Sz (dT c) (Sz (dT c) (fw (Y Zj) (JX Z (dT c) Z) (An Z (rt (tR (rs ?_))))))
 obtain rfl:=zj hr zq2
 exact⟨Z,(H.pk [])⟩
 refine gw (vI b) (dF c) (J3 Z) (Gz (Za (b=2)) (dF c) (fw (Za (b=2)) (JU Z (dF c) Z) (An Z (rt (tR (rs ?_))))))
 obtain rfl:=zj hr zq2
 exact⟨Z,(H.pk [])⟩
 refine jF (dF e) (sk (sr (Mz Z (Kz (Za (b=3)) (Mz Z ?_)))))
 by_cases a:b=3
 refine Sz (dT a) (Sz (dT a) (fw (Y Zj) (JX Z (dT a) Z) (Mz Z (QQ (QQ (fw (Y Zj) (QJ Z) (An Z (rt (rs ?_)))))))))
 obtain rfl:=zj hr zq2
 exact⟨Z,(H.pk [])⟩
 refine gw (vI b) (dF a) (J3 Z) (Gz (Za (b=4)) (dF a) (fw (Za (b=4)) (JU Z (dF a) Z) (Mz Z ?_)))
 by_cases d:b=4
 refine Sz (dT d) (Sz (dT d) (fw (Y Zj) (JX Z (dT d) Z) (An Z (rt (rs ?_)))))
 obtain rfl:=zj hr zq3
 exact⟨Z,(H.pk [])⟩
 refine gw (vI b) (dF d) (J3 Z) (Gz (Za (b=5)) (dF d) (fw (Za (b=5)) (JU Z (dF d) Z) (An Z (rt (rs ?_)))))
 obtain rfl:=zj hr zq3
 exact⟨Z,(H.pk [])⟩
theorem jo:Elem y3 22 67 2 32:=mV (z:= Zq #[Z9 ⟨Zb []⟩, Z9 ⟨Zb []⟩]) F0 f1 Z f7
structure aG where q::
 j:List UInt8
 k:List UInt8
def aG.L (x:aG):List ZQ:= [Z9 ⟨Zb x.j⟩, Z9 ⟨Zb x.k⟩]
instance:Bk aG:=⟨λ x _=>bk x.j+(bk x.k+(0))⟩
theorem aG.len:∀ x,X (aG.L x)=2:=λ _=>rfl
theorem aG.one:∀ x, ∀ u ∈ aG.L x,u.oneCell'=Zj:=λ x u hu=>by
 simp only [aG.L,v1,y2,or_false] at hu
 rcases hu with rfl | rfl <;> rfl
def Lr (w:ZZ) (x:aG):Prop:=(X x.j<=140737488351232)/\(X x.k<=140737488351232)
theorem yI (w:ZZ):lJ y3 w 67 2 aG.L (Lr w):=
 (nL (sz:=2) Tryz.underlying67 f1 (gH.cons (i:=0) (off:=0) (s:=1) Z Z (lL B3 f1) (gH.cons (i:=1) (off:=1) (s:=1) Z Z (lL B3 f1) gH.nil))).map (λ p=>⟨p.1,p.2.1⟩) aG.len (λ _=>rfl) (λ _ h=>⟨h.1,h.2.1⟩) λ _=>s2 _
instance:Inhabited aG:=⟨⟨Zy,Zy⟩⟩
theorem vD:Elem y3 45 65 3 48:=mV (z:= Zq #[Y O, Z9 ⟨Zb []⟩, T Zk 0 0]) F1 f1 Z f7
structure aQ where q::
 b:Bool
 k:List UInt8
 a:Sv aG
def aQ.L (x:aQ):List ZQ:= [Y x.b, Z9 ⟨Zb x.k⟩, T x.a.A (X x.a.a) x.a.c]
instance:Bk aQ:=⟨λ x _=>bk x.b+(bk x.k+(bk x.a+(0)))⟩
theorem aQ.len:∀ x,X (aQ.L x)=3:=λ _=>rfl
theorem aQ.one:∀ x, ∀ u ∈ aQ.L x,u.oneCell'=Zj:=λ x u hu=>by
 simp only [aQ.L,v1,y2,or_false] at hu
 rcases hu with rfl | rfl | rfl <;> rfl
def LW (w:ZZ) (x:aQ):Prop:=(True)/\(X x.k<=140737488351232)/\(nK w 2 32 aG.L (Lr w) x.a)
theorem Bq (w:ZZ):lJ y3 w 65 3 aQ.L (LW w):=
 (nL (sz:=3) Tryz.underlying65 f1 (gH.cons (i:=0) (off:=0) (s:=1) Z Z (wB F2 f1) (gH.cons (i:=1) (off:=1) (s:=1) Z Z (lL B3 f1) (gH.cons (i:=2) (off:=2) (s:=1) Z Z (pR (bytes:=32) F0 f1 f1 f7 (yI w)) gH.nil)))).map (λ p=>⟨p.1,p.2.1,p.2.2.1⟩) aQ.len (λ _=>rfl) (λ _ h=>⟨h.1,h.2.1,h.2.2.1⟩) λ _=>s2 _
instance:Inhabited aQ:=⟨⟨Zy,Zy,Zy⟩⟩
structure dA where q::
 b:Bool
 k:List UInt8
 a:Ll aG
instance:Inhabited dA:=⟨⟨Zy,Zy,Zy⟩⟩
def aQ.abs (x:aQ):dA:=⟨x.b,x.k,⟨x.a.a⟩⟩
def Kl (x:aQ):List HP:= [row x.a.A (X x.a.a) x.a.c (q1 aG.L x.a.a) 67 2]
def jN:List aG->Unit ⊕ Bool
  | []=>G0 ()
  | a::c=>bnd (dU a.j) λ b=>if b=0 then if((X a.k:Nat):Int) > 16 then G1 (O) else jN c else G1 (O)
def iY:List dA->Unit ⊕ Bool
  | []=>G0 ()
  | a::b=>if((X a.k:Nat):Int) > 16 then G1 (O) else if((X a.a.a:Nat):Int) > 4 then G1 (O) else Iw (jN a.a.a) λ _=>iY b
def sj (a:Int) (l1:List dA):Bool:=
 bnd (if a=2 then 4 else 24) λ sJrJ=>if((X l1:Nat):Int) > ((sJrJ:Nat):Int) then O else lp (iY l1) λ _=>Zj
theorem xB (w D S r n1 Q d1 l1 r0) (H:Own w D w []) (Z7:s0 aQ.abs d1=l1) (R:Ro w D λ w'=>bV w' 3 r n1 (q1 aQ.L d1)) (J:∀ x ∈ d1,Ro w D (λ w'=>bV w' 2 x.a.A (X x.a.a) (q1 aG.L x.a.a))/\(X x.a.a<=x.a.c/\X x.a.a<=9223372036854775807)) (az:n1=X l1) (bq:X l1<=9223372036854775807) (hr:sj S l1=r0):
    Calls y3 156 #[vI S, T r n1 Q] w (dI λ v w'=>v= Y r0/\Own w D w' []):=by
 unfold sj at hr
 subst az
 have aU:=bf Z7
 refine cb Tryz.func156 ?_
 refine sr (Ar Z (An Z (JS (sr (Mz Z (Kz (Za (S=2)) (nt ?_)))))))
 obtain⟨aA,B⟩:=nI λ (n:Nat) w'=>Own w D w' []/\n<=9223372036854775807/\n >= 4/\n<=24/\(if S=2 then 4 else 24)=n
 refine K5 (λ i:Nat=> [(5,vJ i),(4, Y O),(1, T r (X l1) Q)]) aA ?_ ?_
 by_cases K:S=2
 exact jT (dT K) (JW (Az Z (G2 (KM 4 ⟨Z,Z,Z,ZV⟩ (B.2 ⟨(H.pk []),U,U,U,ip K⟩)))))
 exact jF (dF K) (Ko (KM 24 ⟨Z,Z,Z,ZV⟩ (B.2 ⟨(H.pk []),U,U,U,iN K⟩)))
 rintro n _ Z3
 obtain⟨Z4,_,_,_,k⟩:=B.1 Z3
 refine JS (sr (Mz Z (Kz (vJ (X l1)) (Mz Z (Kz (Za ((X l1:Int) > (n:Int))) (nt ?_))))))
 by_cases o:(X l1:Int) > (n:Int)
 refine jT (dT o) (sr (An Z (rt (tR (rs ?_)))))
 obtain rfl:=zj hr zq2
 exact⟨Z,(Z4.pk [])⟩
 refine jF (dF o) (sk (JS (sr (Mz Z (Kz (vJ (X l1)) (Mn Z (bo ?_)))))))
 obtain⟨aH,C⟩:=nI λ (b:Nat) w'=>Own w D w' []/\b<=X l1/\iY l1=iY (r8 b l1)
 refine G3 (λ i:Nat=> [(4, Y O),(18,vJ i),(17,vJ (X l1)),(16, T r (X l1) Q)]) aH (λ i=>X l1 - i) 0 ⟨Z,Z,Z,Z,ZV⟩ (C.2 ⟨(Z4.pk []),U,Z⟩) ?_
 rintro b _ Z8
 obtain⟨E,_,l⟩:=C.1 Z8
 refine sr (Kz (Za ((b:Int) < (X l1:Int))) (nt (JS ?_)))
 by_cases Z1:(b:Int) < (X l1:Int)
 obtain⟨a,m⟩:=dM (ls:=d1) (i:=b) aQ.len f7 (E.ro R) f5
 have aZ:=(J _ (G4 m)).2
 have p:=drop_at (ik Z7 m)
 refine jT (dT Z1) (sk (JS (bo (sr (fw (Zz (Zv ⟨ab r,ao r+b *3,Zk⟩)) (J9 (vD) Z Z ((E.ro R).addr (i:=b) U) U) (fw (Zq (Zb (aQ.L a))) (J5 Z (J7 (cs:=(aQ.L a)) Tryz.isAgg65 Tryz.sizeOf65 ((E.ro R).elem aQ.len m f7))) (cB [Y O, Z9 ⟨Zb []⟩, T Zk 0 0] 65 E ?_)))))))
 intro j _ aI
 refine cu (aQ.L a) 0 aI Tryz.sizeOf65 ?_
 intro _ u
 refine nt (JS (sr (Kz (vP j 1) (Lz (Z9 ⟨Zb a.k⟩) u 0 B9 (Kz (vJ (X a.k)) (Kz (Za ((X a.k:Int) > 16)) (Mz Z ?_)))))))
 by_cases d:(X a.k:Int) > 16
 refine Sz (dT d) (Sz (dT d) (Sz (dT d) (Sz (dT d) (fw (Y Zj) (JX Z (dT d) Z) (nt (jt (sr (An Z (rt (tR (bR (tR (tR (bR (tR (rs ?_))))))))))))))))
 obtain rfl:_=O:=zj hr (V (ae k) (V (iN o) (iX (V (l) (V (ZX (λ q=>iY q) p) (ip d))))))
 exact⟨Z,(u.pk [])⟩
 refine Gz (vP j 2) (dF d) (Gl (T a.a.A (X a.a.a) a.a.c) (dF d) u 0 Tryz.isAgg22 (Gz (vJ (X a.a.a)) (dF d) (Gz (Za ((X a.a.a:Int) > 4)) (dF d) (fw (Za ((X a.a.a:Int) > 4)) (JU Z (dF d) Z) (nt ?_)))))
 by_cases y:(X a.a.a:Int) > 4
 refine jT (dT y) (sr (An Z (rt (tR (bR (tR (tR (bR (tR (rs ?_))))))))))
 obtain rfl:_=O:=zj hr (V (ae k) (V (iN o) (iX (V (l) (V (ZX (λ q=>iY q) p) (V (iN d) (ip y)))))))
 exact⟨Z,(u.pk [])⟩
 refine jF (dF y) (sk (sr (Kz (vP j 2) (Lz (T a.a.A (X a.a.a) a.a.c) u 0 Tryz.isAgg22 (Kz (vJ (X a.a.a)) (Mn Z (bo ?_)))))))
 obtain⟨aM,F⟩:=nI λ (f:Nat) w'=>Own w D w' [blk j (aQ.L a) 65]/\f<=X a.a.a/\jN a.a.a=jN (r8 f a.a.a)
 refine G3 (λ i:Nat=> [(4, Y O),(35,vJ i),(34,vJ (X a.a.a)),(33, T a.a.A (X a.a.a) a.a.c),(32,vP j 2),(31, Za ((X a.a.a:Int) > 4)),(30, Za ((X a.a.a:Int) > 4)),(29,vJ (X a.a.a)),(28, T a.a.A (X a.a.a) a.a.c),(27,vP j 2),(26, Za ((X a.k:Int) > 16)),(25, Za ((X a.k:Int) > 16)),(24,vJ (X a.k)),(23, Z9 ⟨Zb a.k⟩),(22,vP j 1),(7,vP j 0),(21, Zq (Zb (aQ.L a))),(20, Zz (Zv ⟨ab r,ao r+b *3,Zk⟩)),(19, Za ((b:Int) < (X l1:Int))),(18,vJ b),(17,vJ (X l1)),(16, T r (X l1) Q)]) aM (λ i=>X a.a.a - i) 0 ⟨Z,Z,Z,Z,Z,Z,Z,Z,Z,Z,Z,Z,Z,Z,Z,Z,Z,Z,Z,Z,Z,Z,ZV⟩ (F.2 ⟨(u.pf []),U,Z⟩) ?_
 rintro f _ Z0
 obtain⟨G,_,s⟩:=F.1 Z0
 refine sr (Kz (Za ((f:Int) < (X a.a.a:Int))) (nt (JS ?_)))
 by_cases aa:(f:Int) < (X a.a.a:Int)
 obtain⟨g,Z5⟩:=dM (ls:=a.a.a) (i:=f) aG.len f7 (G.ro (J _ (G4 m)).1) f5
 have I:=drop_at Z5
 refine jT (dT aa) (sk (JS (bo (sr (fw (Zz (Zv ⟨ab a.a.A,ao a.a.A+f *2,Zk⟩)) (J9 (jo) Z Z ((G.ro (J _ (G4 m)).1).addr (i:=f) U) U) (fw (Zq (Zb (aG.L g))) (J5 Z (J7 (cs:=(aG.L g)) Tryz.isAgg67 Tryz.sizeOf67 ((G.ro (J _ (G4 m)).1).elem aG.len Z5 f7))) (cB [Z9 ⟨Zb []⟩, Z9 ⟨Zb []⟩] 67 G ?_)))))))
 intro af _ aN
 refine cu (aG.L g) 0 aN Tryz.sizeOf67 ?_
 intro _ ag
 refine ns (Kz (vP af 0) (Lz (Z9 ⟨Zb g.j⟩) ag 0 B9 ?_))
 obtain⟨z,t⟩:∃ q,dU g.j=q:=⟨_,Z⟩
 obtain⟨_,ah,_,ai,_⟩:=JZ ag
 refine cl Tryz.call61 (ky _ _ g.j z ah t) ?_
 rintro _ _ ⟨rfl,aj,Z6,P⟩
 have L:=ai _ _ aj
 replace Z6:=Z6
 replace P:=P
 refine fw (Za (¬ (z=0))) (Kc (e:= !(Zw (z=0))) yk ZW) (Mz Z ?_)
 by_cases h:z=0
 refine gw (vP af 1) (dF (Nu h)) yk (gw (Z9 ⟨Zb g.k⟩) (dF (Nu h)) (J5 Z (bO.one B9 (Kw (L.cls (i:=0) Z) Z))) (gw (vJ (X g.k)) (dF (Nu h)) yk (gw (Za ((X g.k:Int) > 16)) (dF (Nu h)) yk (fw (Za ((X g.k:Int) > 16)) (JU Z (dF (Nu h)) Z) (nt ?_)))))
 by_cases M:(X g.k:Int) > 16
 refine jT (dT M) (sr (An Z (rt (bR (tR (tR (bR (bR (tR (tR (bR (tR (rs ?_)))))))))))))
 obtain rfl:_=O:=zj hr (V (ae k) (V (iN o) (iX (V (l) (V (ZX (λ q=>iY q) p) (V (iN d) (V (iN y) (GG (V (s) (V (ZX (λ q=>jN q) I) (V (ae t) (V (ip h) (ip M)))))))))))))
 exact⟨Z,(L.pk [])⟩
 refine jF (dF M) (Ko (bN (JY (JW (fw (vJ (f+1)) (J4 (e:=D3.wrap ((f:Int)+1)) yk f4) (Mz Z (G2 ?_)))))))
 exact Kb (f+1) ⟨Z,Z,Z,Z,Z,Z,Z,Z,Z,Z,Z,Z,Z,Z,Z,Z,Z,Z,Z,Z,Z,Z,ZV⟩ (F.2 ⟨(L.pk [1]),U,V (s) (V (ZX (λ q=>jN q) I) (V (ae t) (V (ip h) (iN M))))⟩) (by show X a.a.a - (f+1) < X a.a.a - f; omega)
 refine Sz (dT h) (Sz (dT h) (Sz (dT h) (Sz (dT h) (fw (Y Zj) (JX Z (dT h) Z) (nt (jt (sr (An Z (rt (bR (tR (tR (bR (bR (tR (tR (bR (tR (rs ?_)))))))))))))))))))
 obtain rfl:_=O:=zj hr (V (ae k) (V (iN o) (iX (V (l) (V (ZX (λ q=>iY q) p) (V (iN d) (V (iN y) (GG (V (s) (V (ZX (λ q=>jN q) I) (V (ae t) (iN h))))))))))))
 exact⟨Z,(L.pk [])⟩
 refine jF (dF aa) (H0 (Ka (Ka (Kh (bN (JY (JW (fw (vJ (b+1)) (J4 (e:=D3.wrap ((b:Int)+1)) yk f4) (Mz Z (G2 ?_))))))))))
 exact Kb (b+1) ⟨Z,Z,Z,Z,ZV⟩ (C.2 ⟨(G.pk []),U,V (l) (V (ZX (λ q=>iY q) p) (V (iN d) (V (iN y) (I9 (V (s) (V (ZX (λ q=>jN q) (eU (ls:=a.a.a) (i:=f) U)) Z))))))⟩) (by show X l1 - (b+1) < X l1 - b; omega)
 refine jF (dF Z1) (H0 (Ka (Ka (Kh (JY (sr (An Z (rt (rs ?_)))))))))
 obtain rfl:_=Zj:=zj hr (V (ae k) (V (iN o) (kH (V (l) (V (ZX (λ q=>iY q) (eU (ls:=l1) (i:=b) U)) Z)))))
 exact⟨Z,(E.pk [])⟩
def jO:List aV->Unit ⊕ Int
  | []=>G0 ()
  | b::c=>bnd (eF b) λ a=>if a=0 then jO c else G1 (a)
def j4 (a:List aV):Int:=
 lp (jO a) λ _=>0
theorem su (w D p B C b M) (H:Own w D w []) (o:Ro w D λ w'=>bV w' 6 p B (q1 aV.L b)) (E:B=X b) (Q:X b<=9223372036854775807) (hr:j4 b=M):
    Calls y3 65 #[T p B C] w (dI λ v w'=>v=vI M/\Own w D w' []):=by
 subst E
 refine cb Tryz.func65 ?_
 refine sr (An Z (JS (sr (Mz Z (Kz (vJ (X b)) (Mn Z (bo ?_)))))))
 obtain⟨G,f⟩:=nI λ (a:Nat) w'=>Own w D w' []/\a<=X b/\jO b=jO (r8 a b)
 refine G3 (λ i:Nat=> [(2,vI 0),(8,vJ i),(7,vJ (X b)),(6, T p (X b) C)]) G (λ i=>X b - i) 0 ⟨Z,Z,Z,Z,ZV⟩ (f.2 ⟨(H.pk []),U,Z⟩) ?_
 rintro a R r
 obtain⟨g,_,h⟩:=f.1 r
 refine sr (Kz (Za ((a:Int) < (X b:Int))) (nt (JS ?_)))
 by_cases s:(a:Int) < (X b:Int)
 obtain⟨c,l⟩:=dM (ls:=b) (i:=a) aV.len f7 (g.ro o) f5
 have m:=drop_at l
 refine jT (dT s) (sk (JS (bo (sr (fw (Zz (Zv ⟨ab p,ao p+a *6,Zk⟩)) (J9 (nH) Z Z ((g.ro o).addr (i:=a) U) U) (fw (Zq (Zb (aV.L c))) (J5 Z (J7 (cs:=(aV.L c)) C1 C0 ((g.ro o).elem aV.len l f7))) (cB [vI 0, Z9 ⟨Zb []⟩, Z9 ⟨Zb []⟩, Z9 ⟨Zb []⟩, Z9 ⟨Zb []⟩,vI 0] 62 g ?_)))))))
 intro S _ I
 refine cu (aV.L c) 0 I C0 ?_
 intro _ t
 refine ns (La (aV.L c) t 0 C1 C0 ?_)
 obtain⟨d,j⟩:∃ q,eF c=q:=⟨_,Z⟩
 obtain⟨_,u,_,x,P⟩:=JZ t
 refine cl H1 (rD _ _ c d u j) ?_
 rintro _ _ ⟨rfl,y,n⟩
 have z:=x _ _ y
 replace n:=n
 refine Ar Z (Mz Z (fw (Za (¬ (d=0))) (Kc (e:= !(Zw (d=0))) yk ZW) (nt ?_)))
 by_cases k:d=0
 refine jF (dF (Nu k)) (Ko (bN (JY (JW (fw (vJ (a+1)) (J4 (e:=D3.wrap ((a:Int)+1)) yk f4) (Mz Z (G2 ?_)))))))
 exact Kb (a+1) ⟨Z,Z,Z,Z,ZV⟩ (f.2 ⟨(z.pk []),U,V (h) (V (ZX (λ q=>jO q) m) (V (ae j) (ip k)))⟩) (by show X b - (a+1) < X b - a; omega)
 refine jT (dT k) (sr (Mz Z (An Z (rt (bR (tR (tR (bR (tR (rs ?_))))))))))
 obtain rfl:_=d:=zj hr (iX (V (h) (V (ZX (λ q=>jO q) m) (V (ae j) (iN k)))))
 exact⟨Z,(z.pk [])⟩
 refine jF (dF s) (H0 (Ka (Ka (Kh (JY (sr (An Z (rt (rs ?_)))))))))
 obtain rfl:_=0:=zj hr (kH (V (h) (V (ZX (λ q=>jO q) (eU (ls:=b) (i:=a) U)) Z)))
 exact⟨Z,(g.pk [])⟩
def yS (b:List aV):Int:=
 if((X b:Nat):Int) < 1 then 3 else if((X b:Nat):Int) > 4 then 3 else bnd (j4 b) λ a=>a
theorem CZ (w D j k l b m) (H:Own w D w []) (n:Ro w D λ w'=>bV w' 6 j k (q1 aV.L b)) (o:k=X b) (x:X b<=9223372036854775807) (hr:yS b=m):
    Calls y3 195 #[T j k l] w (dI λ v w'=>v=vI m/\Own w D w' []/\(¬ (m=0)\/(1<=X b/\X b<=4))):=by
 unfold yS at hr
 subst o
 refine cb Tryz.func195 ?_
 refine sr (An Z (JS (sr (Mz Z (Kz (vJ (X b)) (Kz (Za ((X b:Int) < 1)) (Mz Z ?_)))))))
 by_cases a:(X b:Int) < 1
 refine Sz (dT a) (Sz (dT a) (Sz (dT a) (fw (Y Zj) (JX Z (dT a) Z) (nt (jt (sr (An Z (rt (tR (rs ?_))))))))))
 obtain rfl:=zj hr zq1
 exact⟨Z,(H.pk []),U⟩
 refine gw (T j (X b) l) (dF a) (J3 Z) (Gz (vJ (X b)) (dF a) (Gz (Za ((X b:Int) > 4)) (dF a) (fw (Za ((X b:Int) > 4)) (JU Z (dF a) Z) (nt ?_))))
 by_cases c:(X b:Int) > 4
 refine jT (dT c) (sr (An Z (rt (tR (rs ?_)))))
 obtain rfl:=zj hr zq2
 exact⟨Z,(H.pk []),U⟩
 refine jF (dF c) (sk (sr (Mz Z ?_)))
 obtain⟨e,d⟩:∃ q,j4 b=q:=⟨_,Z⟩
 obtain⟨y,f,g,h,u⟩:=JZ H
 refine cl Tryz.call65 (su _ _ j (X b) l b e f (g _ n) Z U d) ?_
 rintro _ z ⟨rfl,i⟩
 refine An Z (rt (rs ?_))
 have t:=(h _ _ i).pk []
 obtain rfl:=zj hr zq3
 exact⟨Z,t,U⟩
def lD:List aV->Unit ⊕ Bool
  | []=>G0 ()
  | b::c=>bnd (eF b) λ a=>if a=0 then lD c else G1 (O)
def qX (a:List aV):Bool:=
 lp (lD a) λ _=>Zj
theorem Aj (w D p B C b M) (H:Own w D w []) (o:Ro w D λ w'=>bV w' 6 p B (q1 aV.L b)) (E:B=X b) (Q:X b<=9223372036854775807) (hr:qX b=M):
    Calls y3 196 #[T p B C, .func (.func 62) #[] #[]] w (dI λ v w'=>v= Y M/\Own w D w' []):=by
 subst E
 refine cb Tryz.func196 ?_
 refine sr (An Z (JS (sr (Mz Z (Kz (vJ (X b)) (Mn Z (bo ?_)))))))
 obtain⟨G,d⟩:=nI λ (a:Nat) w'=>Own w D w' []/\a<=X b/\lD b=lD (r8 a b)
 refine G3 (λ i:Nat=> [(4, Y O),(9,vJ i),(8,vJ (X b)),(7, T p (X b) C),(1, .func (.func 62) #[] #[])]) G (λ i=>X b - i) 0 ⟨Z,Z,Z,Z,Z,ZV⟩ (d.2 ⟨(H.pk []),U,Z⟩) ?_
 rintro a R r
 obtain⟨f,_,g⟩:=d.1 r
 refine sr (Kz (Za ((a:Int) < (X b:Int))) (nt (JS ?_)))
 by_cases s:(a:Int) < (X b:Int)
 obtain⟨c,l⟩:=dM (ls:=b) (i:=a) aV.len f7 (f.ro o) f5
 have m:=drop_at l
 refine jT (dT s) (sk (JS (bo (sr (fw (Zz (Zv ⟨ab p,ao p+a *6,Zk⟩)) (J9 (nH) Z Z ((f.ro o).addr (i:=a) U) U) (fw (Zq (Zb (aV.L c))) (J5 Z (J7 (cs:=(aV.L c)) C1 C0 ((f.ro o).elem aV.len l f7))) (cB [vI 0, Z9 ⟨Zb []⟩, Z9 ⟨Zb []⟩, Z9 ⟨Zb []⟩, Z9 ⟨Zb []⟩,vI 0] 62 f ?_)))))))
 intro S _ I
 refine cu (aV.L c) 0 I C0 ?_
 intro _ t
 refine ns (Mz Z (La (aV.L c) t 0 C1 C0 ?_))
 obtain⟨h,j⟩:∃ q,eF c=q:=⟨_,Z⟩
 obtain⟨_,u,_,x,P⟩:=JZ t
 refine WL.do Z (KA H1 Z Z (rD _ _ c h u j) ?_)
 rintro _ _ ⟨rfl,y,n⟩
 have z:=x _ _ y
 replace n:=n
 refine fw (Za (¬ (h=0))) (Kc (e:= !(Zw (h=0))) yk ZW) (nt ?_)
 by_cases k:h=0
 refine jF (dF (Nu k)) (Ko (bN (JY (JW (fw (vJ (a+1)) (J4 (e:=D3.wrap ((a:Int)+1)) yk f4) (Mz Z (G2 ?_)))))))
 exact Kb (a+1) ⟨Z,Z,Z,Z,Z,ZV⟩ (d.2 ⟨(z.pk []),U,V (g) (V (ZX (λ q=>lD q) m) (V (ae j) (ip k)))⟩) (by show X b - (a+1) < X b - a; omega)
 refine jT (dT k) (sr (An Z (rt (bR (tR (tR (bR (tR (rs ?_)))))))))
 obtain rfl:_=O:=zj hr (iX (V (g) (V (ZX (λ q=>lD q) m) (V (ae j) (iN k)))))
 exact⟨Z,(z.pk [])⟩
 refine jF (dF s) (H0 (Ka (Ka (Kh (JY (sr (An Z (rt (rs ?_)))))))))
 obtain rfl:_=Zj:=zj hr (kH (V (g) (V (ZX (λ q=>lD q) (eU (ls:=b) (i:=a) U)) Z)))
 exact⟨Z,(f.pk [])⟩
def o5 (a:aV):Bool:=
 if a.g=1 then O else if a.g=2 then Zj else if a.g=3 then Zj else if a.g=4 then O else if a.g=5 then Zj else O
theorem xC (w D) (a:aV) (r0) (H:Own w D w []) (hr:o5 a=r0):
    Calls y3 139 #[Zq (Zb (aV.L a))] w (dI λ v w'=>v= Y r0/\Own w D w' []):=by
 unfold o5 at hr
 refine cb Tryz.func139 ?_
 refine sr ?_
 refine cB (aV.L a) 62 H ?_
 intro S _ b
 refine Ar Z (Kz (vP S 0) (Lz (vI a.g) b 0 B8 ?_))
 by_cases c:a.g=1
 obtain⟨_,m,_,n,_⟩:=JZ b
 refine cl D0 (oJ _ _ a.g m (of_decide_eq_true (dT c))) ?_
 rintro _ _ ⟨rfl,o⟩
 refine Mz Z (Kz (Zq o2k.toArray) (Kz (Y Zj) (cB [Y O, Zx, Zx, Zx, Zx] 144 (n _ _ o) ?_)))
 intro Z3 _ Z4
 refine cu o2k 0 Z4 B7 ?_
 intro _ Z8
 refine An Z (JS ?_)
 have p:=Z8.pk [0]
 refine JW (Mz Z (Mz Z (Gz (vP Z3 0) Z (Gl (Y O) Z p 0 H2 (fw (Y O) (QJ Z) (An Z (rt (rs ?_))))))))
 obtain rfl:=zj hr zq1
 exact⟨Z,(p.pk [])⟩
 by_cases d:a.g=2
 obtain⟨_,q,_,r,_⟩:=JZ b
 refine cl D0 (oK _ _ a.g q (of_decide_eq_true (dT d))) ?_
 rintro _ _ ⟨rfl,s⟩
 refine Mz Z (Kz (Zq o3k.toArray) (Kz (Y Zj) (cB [Y O, Zx, Zx, Zx, Zx] 144 (r _ _ s) ?_)))
 intro Z0 _ aa
 refine cu o3k 0 aa B7 ?_
 intro _ ae
 refine An Z (JS ?_)
 have t:=ae.pk [0]
 refine JW (Mz Z (Mz Z (Gz (vP Z0 0) Z (Gl (Y Zj) Z t 0 H2 (fw (Y Zj) (QJ Z) (An Z (rt (rs ?_))))))))
 obtain rfl:=zj hr zq2
 exact⟨Z,(t.pk [])⟩
 by_cases e:a.g=3
 obtain⟨_,u,_,x,_⟩:=JZ b
 refine cl D0 (oL _ _ a.g u (of_decide_eq_true (dT e))) ?_
 rintro _ _ ⟨rfl,y⟩
 refine Mz Z (Kz (Zq o4k.toArray) (Kz (Y Zj) (cB [Y O, Zx, Zx, Zx, Zx] 144 (x _ _ y) ?_)))
 intro ah _ ai
 refine cu o4k 0 ai B7 ?_
 intro _ aj
 refine An Z (JS ?_)
 have z:=aj.pk [0]
 refine JW (Mz Z (Mz Z (Gz (vP ah 0) Z (Gl (Y Zj) Z z 0 H2 (fw (Y Zj) (QJ Z) (An Z (rt (rs ?_))))))))
 obtain rfl:=zj hr zq3
 exact⟨Z,(z.pk [])⟩
 by_cases f:a.g=4
 obtain⟨_,A,_,B,_⟩:=JZ b
 refine cl D0 (oM _ _ a.g A (of_decide_eq_true (dT f))) ?_
 rintro _ _ ⟨rfl,C⟩
 refine Mz Z (Kz (Zq o5k.toArray) (Kz (Y Zj) (cB [Y O, Zx, Zx, Zx, Zx] 144 (B _ _ C) ?_)))
 intro av _ ax
 refine cu o5k 0 ax B7 ?_
 intro _ ay
 refine An Z (JS ?_)
 have E:=ay.pk [0]
 refine JW (Mz Z (Mz Z (Gz (vP av 0) Z (Gl (Y O) Z E 0 H2 (fw (Y O) (QJ Z) (An Z (rt (rs ?_))))))))
 obtain rfl:=zj hr zq4
 exact⟨Z,(E.pk [])⟩
 by_cases h:a.g=5
 obtain⟨_,F,_,G,_⟩:=JZ b
 refine cl D0 (oN _ _ a.g F (of_decide_eq_true (dT h))) ?_
 rintro _ _ ⟨rfl,i⟩
 refine Mz Z (Kz (Zq o6k.toArray) (Kz (Y Zj) (cB [Y O, Zx, Zx, Zx, Zx] 144 (G _ _ i) ?_)))
 intro J _ K
 refine cu o6k 0 K B7 ?_
 intro _ L
 refine An Z (JS ?_)
 have g:=L.pk [0]
 refine JW (Mz Z (Mz Z (Gz (vP J 0) Z (Gl (Y Zj) Z g 0 H2 (fw (Y Zj) (QJ Z) (An Z (rt (rs ?_))))))))
 obtain rfl:=zj hr zq5
 exact⟨Z,(g.pk [])⟩
 obtain⟨_,j,_,k,_⟩:=JZ b
 refine cl D0 (vg _ _ a.g j U U U U U) ?_
 rintro _ _ ⟨rfl,l⟩
 refine Mz Z (Kz (Zq #[Y O, Zx, Zx, Zx, Zx]) (Kz (Y O) (cB [Y O, Zx, Zx, Zx, Zx] 144 (k _ _ l) ?_)))
 intro _ _ Z6
 refine cu [Y O, Zx, Zx, Zx, Zx] 0 Z6 B7 ?_
 intro _ P
 refine An Z (JS (JW (Mz Z (Mz Z (QQ (QQ (fw (Y O) (QK Z) (An Z (rt (rs ?_))))))))))
 have R:=(P.pk [0]).pk []
 obtain rfl:=zj hr zq5
 exact⟨Z,R⟩
def pX (c:aV):Int:=
 bnd (o5 c) λ a=>if a=Zj then bnd (eF c) λ b=>b else 40
theorem xD (w D) (a:aV) (t) (H:Own w D w []) (hr:pX a=t):
    Calls y3 197 #[Zq (Zb (aV.L a))] w (dI λ v w'=>v=vI t/\Own w D w' []):=by
 unfold pX at hr
 refine cb Tryz.func197 ?_
 refine sr ?_
 refine cB (aV.L a) 62 H ?_
 intro A B i
 refine An Z (JS (sr (La (aV.L a) i 0 C1 C0 ?_)))
 obtain⟨f,b⟩:∃ q,o5 a=q:=⟨_,Z⟩
 obtain⟨C,j,u,k,x⟩:=JZ i
 refine cl Tryz.call139 (xC _ _ a f j b) ?_
 rintro _ E ⟨rfl,l⟩
 have g:=k _ _ l
 refine Kz (Y (!f)) (nt ?_)
 rcases Nv (f) with c | c
 refine jF (cn c) (sk (sr (La (aV.L a) g 0 C1 C0 ?_)))
 obtain⟨h,d⟩:∃ q,eF a=q:=⟨_,Z⟩
 obtain⟨F,m,y,n,z⟩:=JZ g
 refine cl H1 (rD _ _ a h m d) ?_
 rintro _ G ⟨rfl,o,e⟩
 replace e:=e
 refine An Z (rt (rs ?_))
 have r:=(n _ _ o).pk []
 obtain rfl:=zj hr zq3
 exact⟨Z,r⟩
 refine jT (cn c) (sr (An Z (rt (tR (rs ?_)))))
 obtain rfl:=zj hr zq2
 exact⟨Z,(g.pk [])⟩
def kM:List aV->Unit ⊕ Bool
  | []=>G0 ()
  | b::c=>bnd (pX b) λ a=>if a=0 then kM c else G1 (O)
def qw (a:List aV):Bool:=
 lp (kM a) λ _=>Zj
theorem zB (w D o A B b L) (H:Own w D w []) (n:Ro w D λ w'=>bV w' 6 o A (q1 aV.L b)) (C:A=X b) (P:X b<=9223372036854775807) (hr:qw b=L):
    Calls y3 196 #[T o A B, .func (.func 197) #[] #[]] w (dI λ v w'=>v= Y L/\Own w D w' []):=by
 subst C
 refine cb Tryz.func196 ?_
 refine sr (An Z (JS (sr (Mz Z (Kz (vJ (X b)) (Mn Z (bo ?_)))))))
 obtain⟨F,d⟩:=nI λ (a:Nat) w'=>Own w D w' []/\a<=X b/\kM b=kM (r8 a b)
 refine G3 (λ i:Nat=> [(4, Y O),(9,vJ i),(8,vJ (X b)),(7, T o (X b) B),(1, .func (.func 197) #[] #[])]) F (λ i=>X b - i) 0 ⟨Z,Z,Z,Z,Z,ZV⟩ (d.2 ⟨(H.pk []),U,Z⟩) ?_
 rintro a Q p
 obtain⟨f,M,g⟩:=d.1 p
 refine sr (Kz (Za ((a:Int) < (X b:Int))) (nt (JS ?_)))
 by_cases r:(a:Int) < (X b:Int)
 obtain⟨c,l⟩:=dM (ls:=b) (i:=a) aV.len f7 (f.ro n) f5
 have m:=drop_at l
 refine jT (dT r) (sk (JS (bo (sr (fw (Zz (Zv ⟨ab o,ao o+a *6,Zk⟩)) (J9 (nH) Z Z ((f.ro n).addr (i:=a) U) U) (fw (Zq (Zb (aV.L c))) (J5 Z (J7 (cs:=(aV.L c)) C1 C0 ((f.ro n).elem aV.len l f7))) (cB [vI 0, Z9 ⟨Zb []⟩, Z9 ⟨Zb []⟩, Z9 ⟨Zb []⟩, Z9 ⟨Zb []⟩,vI 0] 62 f ?_)))))))
 intro R S G
 refine cu (aV.L c) 0 G C0 ?_
 intro _ s
 refine ns (Mz Z (La (aV.L c) s 0 C1 C0 ?_))
 obtain⟨j,h⟩:∃ q,pX c=q:=⟨_,Z⟩
 obtain⟨_,t,_,u,_⟩:=JZ s
 refine WL.do Z (KA Tryz.call197 Z Z (xD _ _ c j t h) ?_)
 rintro _ _ ⟨rfl,x⟩
 have y:=u _ _ x
 refine fw (Za (¬ (j=0))) (Kc (e:= !(Zw (j=0))) yk ZW) (nt ?_)
 by_cases k:j=0
 refine jF (dF (Nu k)) (Ko (bN (JY (JW (fw (vJ (a+1)) (J4 (e:=D3.wrap ((a:Int)+1)) yk f4) (Mz Z (G2 ?_)))))))
 exact Kb (a+1) ⟨Z,Z,Z,Z,Z,ZV⟩ (d.2 ⟨(y.pk []),U,V (g) (V (ZX (λ q=>kM q) m) (V (ae h) (ip k)))⟩) (by show X b - (a+1) < X b - a; omega)
 refine jT (dT k) (sr (An Z (rt (bR (tR (tR (bR (tR (rs ?_)))))))))
 obtain rfl:_=O:=zj hr (iX (V (g) (V (ZX (λ q=>kM q) m) (V (ae h) (iN k)))))
 exact⟨Z,(y.pk [])⟩
 refine jF (dF r) (H0 (Ka (Ka (Kh (JY (sr (An Z (rt (rs ?_)))))))))
 obtain rfl:_=Zj:=zj hr (kH (V (g) (V (ZX (λ q=>kM q) (eU (ls:=b) (i:=a) U)) Z)))
 exact⟨Z,(f.pk [])⟩
def mO (d:Int) (l1:List aV):Bool:=
 if d=1 then bnd (yS l1) λ a=>decide (a=0) else if d=3 then if((X l1:Nat):Int) >= 1 then if((X l1:Nat):Int)<=24 then bnd (qX l1) λ b=>b else O else O else if((X l1:Nat):Int)<=6 then bnd (qw l1) λ c=>c else O
theorem Ak (w D p g G l l1 S) (H:Own w D w []) (m:Ro w D λ w'=>bV w' 6 g G (q1 aV.L l1)) (I:G=X l1) (Z8:X l1<=9223372036854775807) (hr:mO p l1=S):
    Calls y3 157 #[vI p, T g G l] w (dI λ v w'=>v= Y S/\Own w D w' []):=by
 unfold mO at hr
 subst I
 refine cb Tryz.func157 ?_
 refine sr (An Z (JS (sr (Mn Z (bo (sr (Kz (Za (p=1)) (An Z ?_))))))))
 by_cases b:p=1
 refine jT (dT b) (sr (Mz Z ?_))
 obtain⟨f,h⟩:∃ q,yS l1=q:=⟨_,Z⟩
 obtain⟨_,r,s,t,_⟩:=JZ H
 refine cl Tryz.call195 (CZ _ _ g (X l1) l l1 f r (s _ m) Z U h) ?_
 rintro _ _ ⟨rfl,u,i⟩
 replace i:=i
 refine Kz (Za (f=0)) (An Z (rt (bR (tR (rs ?_)))))
 have K:=(t _ _ u).pk []
 obtain rfl:=zj hr zq2
 exact⟨Z,K⟩
 refine jF (dF b) (sr (Kz (Za (p=3)) (An Z ?_)))
 by_cases e:p=3
 refine jT (dT e) (sr (Mz Z (Kz (vJ (X l1)) (Kz (Za ((X l1:Int) >= 1)) (Mz Z ?_)))))
 by_cases a:(X l1:Int) >= 1
 refine gw (T g (X l1) l) (dT a) (J3 Z) (Gz (vJ (X l1)) (dT a) (Gz (Za ((X l1:Int)<=24)) (dT a) (fw (Za ((X l1:Int)<=24)) (JX Z (dT a) Z) (Mz Z ?_))))
 by_cases c:(X l1:Int)<=24
 refine gw (T g (X l1) l) (dT c) (J3 Z) ?_
 obtain⟨n,j⟩:∃ q,qX l1=q:=⟨_,Z⟩
 obtain⟨_,x,y,z,_⟩:=JZ H
 refine oI (dT c) Tryz.call196 (Aj _ _ g (X l1) l l1 n x (y _ m) Z U j) ?_
 rintro _ _ ⟨rfl,A⟩
 refine fw (Y n) (JX Z (dT c) Z) (An Z (rt (bR (tR (rs ?_)))))
 have M:=(z _ _ A).pk []
 obtain rfl:=zj hr zq5
 exact⟨Z,M⟩
 refine Sz (dF c) (Sz (dF c) (fw (Y O) (JU Z (dF c) Z) (An Z (rt (bR (tR (rs ?_)))))))
 obtain rfl:=zj hr zq4
 exact⟨Z,(H.pk [])⟩
 refine Sz (dF a) (Sz (dF a) (Sz (dF a) (fw (Y O) (JU Z (dF a) Z) (Mz Z (QQ (QQ (fw (Y O) (QK Z) (An Z (rt (bR (tR (rs ?_))))))))))))
 obtain rfl:=zj hr zq3
 exact⟨Z,(H.pk [])⟩
 refine jF (dF e) (Ko (bN (JY (sr (Mz Z (Kz (vJ (X l1)) (Kz (Za ((X l1:Int)<=6)) (Mz Z ?_))))))))
 by_cases d:(X l1:Int)<=6
 refine gw (T g (X l1) l) (dT d) (J3 Z) ?_
 obtain⟨o,k⟩:∃ q,qw l1=q:=⟨_,Z⟩
 obtain⟨_,B,C,E,_⟩:=JZ H
 refine oI (dT d) Tryz.call196 (zB _ _ g (X l1) l l1 o B (C _ m) Z U k) ?_
 rintro _ _ ⟨rfl,F⟩
 refine fw (Y o) (JX Z (dT d) Z) (An Z (rt (rs ?_)))
 have Q:=(E _ _ F).pk []
 obtain rfl:=zj hr zq4
 exact⟨Z,Q⟩
 refine Sz (dF d) (Sz (dF d) (fw (Y O) (JU Z (dF d) Z) (An Z (rt (rs ?_)))))
 obtain rfl:=zj hr zq3
 exact⟨Z,(H.pk [])⟩
structure bM where q::
 g:Int
 D:Int
 E:Int
 J:Int
 F:Int
 I:Int
 G:Nat
 y:Nat
 r:Nat
 t:Nat
 u:Nat
 z:Nat
 k:Nat
 s:Nat
 C:Nat
 H:Bool
 j:ai
 a:Sv aV
 B:Sv aQ
 b:Sv bF
def bM.L (x:bM):List ZQ:= [.int .i64 x.g, .int .i64 x.D, .int .i64 x.E, .int .i64 x.J, .int .i64 x.F, .int .i64 x.I, .int .u64 ((x.G:Nat):Int), .int .u64 ((x.y:Nat):Int), .int .u64 ((x.r:Nat):Int), .int .u64 ((x.t:Nat):Int), .int .u64 ((x.u:Nat):Int), .int .u64 ((x.z:Nat):Int), .int .u64 ((x.k:Nat):Int), .int .u64 ((x.s:Nat):Int), .int .u64 ((x.C:Nat):Int), Y x.H, Z9 ⟨Zb x.j.a⟩, Z9 ⟨Zb x.j.b⟩, T x.a.A (X x.a.a) x.a.c, T x.B.A (X x.B.a) x.B.c, T x.b.A (X x.b.a) x.b.c]
instance:Bk bM:=⟨λ x _=>bk x.g+(bk x.D+(bk x.E+(bk x.J+(bk x.F+(bk x.I+(bk x.G+(bk x.y+(bk x.r+(bk x.t+(bk x.u+(bk x.z+(bk x.k+(bk x.s+(bk x.C+(bk x.H+(bk x.j+(bk x.a+(bk x.B+(bk x.b+(0))))))))))))))))))))⟩
theorem bM.len:∀ x,X (bM.L x)=21:=λ _=>rfl
theorem bM.one:∀ x, ∀ u ∈ bM.L x,u.oneCell'=Zj:=λ x u hu=>by
 simp only [bM.L,v1,y2,or_false] at hu
 rcases hu with rfl | rfl | rfl | rfl | rfl | rfl | rfl | rfl | rfl | rfl | rfl | rfl | rfl | rfl | rfl | rfl | rfl | rfl | rfl | rfl | rfl <;> rfl
def LX (w:ZZ) (x:bM):Prop:=((-9223372036854775808)<=x.g/\x.g<=9223372036854775807)/\((-9223372036854775808)<=x.D/\x.D<=9223372036854775807)/\((-9223372036854775808)<=x.E/\x.E<=9223372036854775807)/\((-9223372036854775808)<=x.J/\x.J<=9223372036854775807)/\((-9223372036854775808)<=x.F/\x.F<=9223372036854775807)/\((-9223372036854775808)<=x.I/\x.I<=9223372036854775807)/\(x.G<=18446744073709551615)/\(x.y<=18446744073709551615)/\(x.r<=18446744073709551615)/\(x.t<=18446744073709551615)/\(x.u<=18446744073709551615)/\(x.z<=18446744073709551615)/\(x.k<=18446744073709551615)/\(x.s<=18446744073709551615)/\(x.C<=18446744073709551615)/\(True)/\(Lg w x.j)/\(nK w 6 80 aV.L (LK w) x.a)/\(nK w 3 48 aQ.L (LW w) x.B)/\(nK w 2 24 bF.L (LM w) x.b)
theorem Ef (w:ZZ):lJ y3 w 47 21 bM.L (LX w):=
 (nL (sz:=21) Tryz.underlying47 f1 (gH.cons (i:=0) (off:=0) (s:=1) Z Z (og (k:= .i64) (lo:= -9223372036854775808) (hi:=9223372036854775807) y6 f1 f7 f7) (gH.cons (i:=1) (off:=1) (s:=1) Z Z (og (k:= .i64) (lo:= -9223372036854775808) (hi:=9223372036854775807) y6 f1 f7 f7) (gH.cons (i:=2) (off:=2) (s:=1) Z Z (og (k:= .i64) (lo:= -9223372036854775808) (hi:=9223372036854775807) y6 f1 f7 f7) (gH.cons (i:=3) (off:=3) (s:=1) Z Z (og (k:= .i64) (lo:= -9223372036854775808) (hi:=9223372036854775807) y6 f1 f7 f7) (gH.cons (i:=4) (off:=4) (s:=1) Z Z (og (k:= .i64) (lo:= -9223372036854775808) (hi:=9223372036854775807) y6 f1 f7 f7) (gH.cons (i:=5) (off:=5) (s:=1) Z Z (og (k:= .i64) (lo:= -9223372036854775808) (hi:=9223372036854775807) y6 f1 f7 f7) (gH.cons (i:=6) (off:=6) (s:=1) Z Z (oh (k:= .u64) (hi:=18446744073709551615) E1 f1 f7 f7) (gH.cons (i:=7) (off:=7) (s:=1) Z Z (oh (k:= .u64) (hi:=18446744073709551615) E1 f1 f7 f7) (gH.cons (i:=8) (off:=8) (s:=1) Z Z (oh (k:= .u64) (hi:=18446744073709551615) E1 f1 f7 f7) (gH.cons (i:=9) (off:=9) (s:=1) Z Z (oh (k:= .u64) (hi:=18446744073709551615) E1 f1 f7 f7) (gH.cons (i:=10) (off:=10) (s:=1) Z Z (oh (k:= .u64) (hi:=18446744073709551615) E1 f1 f7 f7) (gH.cons (i:=11) (off:=11) (s:=1) Z Z (oh (k:= .u64) (hi:=18446744073709551615) E1 f1 f7 f7) (gH.cons (i:=12) (off:=12) (s:=1) Z Z (oh (k:= .u64) (hi:=18446744073709551615) E1 f1 f7 f7) (gH.cons (i:=13) (off:=13) (s:=1) Z Z (oh (k:= .u64) (hi:=18446744073709551615) E1 f1 f7 f7) (gH.cons (i:=14) (off:=14) (s:=1) Z Z (oh (k:= .u64) (hi:=18446744073709551615) E1 f1 f7 f7) (gH.cons (i:=15) (off:=15) (s:=1) Z Z (wB F2 f1) (gH.cons (i:=16) (off:=16) (s:=2) Z Z (Cc w) (gH.cons (i:=17) (off:=18) (s:=1) Z Z (pR (bytes:=80) Tryz.underlying44 f1 f1 f7 (EO w)) (gH.cons (i:=18) (off:=19) (s:=1) Z Z (pR (bytes:=48) F1 f1 f1 f7 (Bq w)) (gH.cons (i:=19) (off:=20) (s:=1) Z Z (pR (bytes:=24) Tryz.underlying34 f1 f1 f7 (Ce w)) gH.nil))))))))))))))))))))).map (λ p=>⟨p.1,p.2.1,p.2.2.1,p.2.2.2.1,p.2.2.2.2.1,p.2.2.2.2.2.1,p.2.2.2.2.2.2.1,p.2.2.2.2.2.2.2.1,p.2.2.2.2.2.2.2.2.1,p.2.2.2.2.2.2.2.2.2.1,p.2.2.2.2.2.2.2.2.2.2.1,p.2.2.2.2.2.2.2.2.2.2.2.1,p.2.2.2.2.2.2.2.2.2.2.2.2.1,p.2.2.2.2.2.2.2.2.2.2.2.2.2.1,p.2.2.2.2.2.2.2.2.2.2.2.2.2.2.1,p.2.2.2.2.2.2.2.2.2.2.2.2.2.2.2.1,p.2.2.2.2.2.2.2.2.2.2.2.2.2.2.2.2.1,p.2.2.2.2.2.2.2.2.2.2.2.2.2.2.2.2.2.1,p.2.2.2.2.2.2.2.2.2.2.2.2.2.2.2.2.2.2.1,p.2.2.2.2.2.2.2.2.2.2.2.2.2.2.2.2.2.2.2.1⟩) bM.len (λ _=>rfl) (λ _ h=>⟨h.1,h.2.1,h.2.2.1,h.2.2.2.1,h.2.2.2.2.1,h.2.2.2.2.2.1,h.2.2.2.2.2.2.1,h.2.2.2.2.2.2.2.1,h.2.2.2.2.2.2.2.2.1,h.2.2.2.2.2.2.2.2.2.1,h.2.2.2.2.2.2.2.2.2.2.1,h.2.2.2.2.2.2.2.2.2.2.2.1,h.2.2.2.2.2.2.2.2.2.2.2.2.1,h.2.2.2.2.2.2.2.2.2.2.2.2.2.1,h.2.2.2.2.2.2.2.2.2.2.2.2.2.2.1,h.2.2.2.2.2.2.2.2.2.2.2.2.2.2.2.1,h.2.2.2.2.2.2.2.2.2.2.2.2.2.2.2.2.1,h.2.2.2.2.2.2.2.2.2.2.2.2.2.2.2.2.2.1,h.2.2.2.2.2.2.2.2.2.2.2.2.2.2.2.2.2.2.1,h.2.2.2.2.2.2.2.2.2.2.2.2.2.2.2.2.2.2.2.1⟩) λ _=>s2 _
instance:Inhabited bM:=⟨⟨Zy,Zy,Zy,Zy,Zy,Zy,Zy,Zy,Zy,Zy,Zy,Zy,Zy,Zy,Zy,Zy,Zy,Zy,Zy,Zy⟩⟩
structure cz where q::
 g:Int
 D:Int
 E:Int
 J:Int
 F:Int
 I:Int
 G:Nat
 y:Nat
 r:Nat
 t:Nat
 u:Nat
 z:Nat
 k:Nat
 s:Nat
 C:Nat
 H:Bool
 j:ai
 a:Ll aV
 B:Ll dA
 b:Ll bF
instance:Inhabited cz:=⟨⟨Zy,Zy,Zy,Zy,Zy,Zy,Zy,Zy,Zy,Zy,Zy,Zy,Zy,Zy,Zy,Zy,Zy,Zy,Zy,Zy⟩⟩
def bM.abs (x:bM):cz:=⟨x.g,x.D,x.E,x.J,x.F,x.I,x.G,x.y,x.r,x.t,x.u,x.z,x.k,x.s,x.C,x.H,x.j,⟨x.a.a⟩,⟨s0 aQ.abs x.B.a⟩,⟨x.b.a⟩⟩
def Km (x:bM):List HP:= [row x.a.A (X x.a.a) x.a.c (q1 aV.L x.a.a) 62 6,row x.B.A (X x.B.a) x.B.c (q1 aQ.L x.B.a) 65 3,row x.b.A (X x.b.a) x.b.c (q1 bF.L x.b.a) 83 2,sepL (q1 Kl x.B.a)]
abbrev fT (r:Int) (s:Int) (t:Int) (u:Int) (v:Int) (w:Int) (x:Nat) (y:Nat) (z:Nat) (A:Nat) (g:Nat) (h:Nat) (i:Nat) (j:Nat) (k:Nat) (l:Bool) (m:List UInt8) (n:List UInt8) (o:Option Addr) (a b:Nat) (p:Option Addr) (c d:Nat) (q:Option Addr) (e f:Nat):List ZQ:= [.int .i64 r, .int .i64 s, .int .i64 t, .int .i64 u, .int .i64 v, .int .i64 w, .int .u64 ((x:Nat):Int), .int .u64 ((y:Nat):Int), .int .u64 ((z:Nat):Int), .int .u64 ((A:Nat):Int), .int .u64 ((g:Nat):Int), .int .u64 ((h:Nat):Int), .int .u64 ((i:Nat):Int), .int .u64 ((j:Nat):Int), .int .u64 ((k:Nat):Int), Y l, Z9 ⟨Zb m⟩, Z9 ⟨Zb n⟩, T o a b, T p c d, T q e f]
abbrev jP (x:cz) (a:Option Addr) (b:Nat) (c:Option Addr) (d:Nat) (e:Option Addr) (f:Nat):List ZQ:= [.int .i64 x.g, .int .i64 x.D, .int .i64 x.E, .int .i64 x.J, .int .i64 x.F, .int .i64 x.I, .int .u64 ((x.G:Nat):Int), .int .u64 ((x.y:Nat):Int), .int .u64 ((x.r:Nat):Int), .int .u64 ((x.t:Nat):Int), .int .u64 ((x.u:Nat):Int), .int .u64 ((x.z:Nat):Int), .int .u64 ((x.k:Nat):Int), .int .u64 ((x.s:Nat):Int), .int .u64 ((x.C:Nat):Int), Y x.H, Z9 ⟨Zb x.j.a⟩, Z9 ⟨Zb x.j.b⟩, T a (X x.a.a) b, T c (X x.B.a) d, T e (X x.b.a) f]
def nO (b:Int) (a:Int):Bool:=
 if b=1 then if a >= 1 then Zw (a<=4) else O else if b=2 then if a >= 11 then Zw (a < 15) else O else Zw (a=0)
theorem sw (w D f c l) (H:Own w D w []) (hr:nO f c=l):
    Calls y3 45 #[vI f,vI c] w (dI λ v w'=>v= Y l/\Own w D w' []):=by
 unfold nO at hr
 refine cb Tryz.func45 ?_
 refine sr (An Z (JS (sr (Mn Z (bo (sr (Kz (Za (f=1)) (An Z ?_))))))))
 by_cases d:f=1
 refine jT (dT d) (sr (Mz Z (Kz (Za (c >= 1)) (Mz Z ?_))))
 by_cases a:c >= 1
 refine gw (vI c) (dT a) (J3 Z) (Gz (Za (c<=4)) (dT a) (fw (Za (c<=4)) (JX Z (dT a) Z) (An Z (rt (bR (tR (rs ?_)))))))
 obtain rfl:=zj hr zq2
 exact⟨Z,(H.pk [])⟩
 refine Sz (dF a) (Sz (dF a) (fw (Y O) (JU Z (dF a) Z) (An Z (rt (bR (tR (rs ?_)))))))
 obtain rfl:=zj hr zq2
 exact⟨Z,(H.pk [])⟩
 refine jF (dF d) (sr (Kz (Za (f=2)) (An Z ?_)))
 by_cases e:f=2
 refine jT (dT e) (sr (Mz Z (Kz (Za (c >= 11)) (Mz Z ?_))))
 by_cases b:c >= 11
 refine gw (vI c) (dT b) (J3 Z) (Gz (Za (c < 15)) (dT b) (fw (Za (c < 15)) (JX Z (dT b) Z) (An Z (rt (bR (tR (rs ?_)))))))
 obtain rfl:=zj hr zq3
 exact⟨Z,(H.pk [])⟩
 refine Sz (dF b) (Sz (dF b) (fw (Y O) (JU Z (dF b) Z) (An Z (rt (bR (tR (rs ?_)))))))
 obtain rfl:=zj hr zq3
 exact⟨Z,(H.pk [])⟩
 refine jF (dF e) (Ko (bN (JY (sr (Mz Z (Kz (Za (c=0)) (An Z (rt (rs ?_)))))))))
 obtain rfl:=zj hr zq2
 exact⟨Z,(H.pk [])⟩
def o8 (a:cz) (b:Int):Bool:=
 if b=2 then bnd (uL a.g a.F) λ c=>c else if b=3 then bnd (sj a.g a.B.a) λ d=>d else if b=7 then bnd (mO a.g a.a.a) λ e=>e else if b=11 then bnd (lq a.b.a) λ f=>decide (f=0) else if b=12 then bnd (nO 1 a.I) λ g=>g else if b=13 then bnd (dP a.j) λ h=>decide (h=0) else Zj
theorem C8 (w D) (a:cz) (f z g h B i n j C k o r0) (H:Own w D w []) (Z5:z=X a.a.a) (Z6:Ro w D λ w'=>bV w' 6 f (X a.a.a) (q1 aV.L a.a.a)) (aK:X a.a.a<=g/\X a.a.a<=9223372036854775807) (r:s0 aQ.abs n=a.B.a) (P:B=X a.B.a) (Q:Ro w D λ w'=>bV w' 3 h (X a.B.a) (q1 aQ.L n)) (aL:X a.B.a<=i/\X a.B.a<=9223372036854775807) (s:∀ x ∈ n,Ro w D (λ w'=>bV w' 2 x.a.A (X x.a.a) (q1 aG.L x.a.a))/\(X x.a.a<=x.a.c/\X x.a.a<=9223372036854775807)) (R:C=X a.b.a) (S:Ro w D λ w'=>bV w' 2 j (X a.b.a) (q1 bF.L a.b.a)) (aM:X a.b.a<=k/\X a.b.a<=9223372036854775807) (bI:X a.a.a<=140737488355328/\X a.B.a<=140737488355328/\X a.b.a<=140737488355328) (hr:o8 a o=r0):
    Calls y3 95 #[Zq (Zb (fT a.g a.D a.E a.J a.F a.I a.G a.y a.r a.t a.u a.z a.k a.s a.C a.H a.j.a a.j.b f z g h B i j C k)),vI o] w (dI λ v w'=>v= Y r0/\Own w D w' []):=by
 unfold o8 at hr
 subst Z5 P R
 have aJ:=bf r
 refine cb Tryz.func95 ?_
 refine sr ?_
 refine cB (jP a f g h i j k) 47 H ?_
 intro d _ b
 refine An Z (JS (sr (Mn Z (bo (sr (Kz (Za (o=2)) (An Z ?_)))))))
 by_cases e:o=2
 refine jT (dT e) (sr (Kz (vP d 0) (Lz (vI a.g) b 0 B8 (Kz (vP d 4) (Lz (vI a.F) b 0 B8 ?_)))))
 obtain⟨Z3,E⟩:∃ q,uL a.g a.F=q:=⟨_,Z⟩
 obtain⟨_,Z4,_,Z8,_⟩:=JZ b
 refine cl Tryz.call155 (zA _ _ a.g a.F Z3 Z4 E) ?_
 rintro _ _ ⟨rfl,Z1⟩
 refine An Z (rt (bR (tR (rs ?_))))
 have aO:=(Z8 _ _ Z1).pk []
 obtain rfl:=zj hr zq2
 exact⟨Z,aO⟩
 refine jF (dF e) (sr (Kz (Za (o=3)) (An Z ?_)))
 by_cases l:o=3
 refine jT (dT l) (sr (Kz (vP d 0) (Lz (vI a.g) b 0 B8 (Kz (vP d 19) (Lz (T h (X a.B.a) i) b 0 Tryz.isAgg45 ?_)))))
 obtain⟨Z2,F⟩:∃ q,sj a.g a.B.a=q:=⟨_,Z⟩
 obtain⟨_,Z0,G,aa,_⟩:=JZ b
 refine cl Tryz.call156 (xB _ _ a.g h (X a.B.a) i n a.B.a Z2 Z0 r (G _ Q) (λ x9 h9=>⟨G _ (s x9 h9).1,(s x9 h9).2⟩) Z U F) ?_
 rintro _ _ ⟨rfl,af⟩
 refine An Z (rt (bR (tR (rs ?_))))
 have aR:=(aa _ _ af).pk []
 obtain rfl:=zj hr zq3
 exact⟨Z,aR⟩
 refine jF (dF l) (sr (Kz (Za (o=7)) (An Z ?_)))
 by_cases m:o=7
 refine jT (dT m) (sr (Kz (vP d 0) (Lz (vI a.g) b 0 B8 (Kz (vP d 18) (Lz (T f (X a.a.a) g) b 0 Tryz.isAgg44 ?_)))))
 obtain⟨ag,I⟩:∃ q,mO a.g a.a.a=q:=⟨_,Z⟩
 obtain⟨_,ah,aj,ak,_⟩:=JZ b
 refine cl Tryz.call157 (Ak _ _ a.g f (X a.a.a) g a.a.a ag ah (aj _ Z6) Z U I) ?_
 rintro _ _ ⟨rfl,au⟩
 refine An Z (rt (bR (tR (rs ?_))))
 have aT:=(ak _ _ au).pk []
 obtain rfl:=zj hr zq4
 exact⟨Z,aT⟩
 refine jF (dF m) (sr (Kz (Za (o=11)) (An Z ?_)))
 by_cases p:o=11
 refine jT (dT p) (sr (Kz (vP d 20) (Lz (T j (X a.b.a) k) b 0 Tryz.isAgg34 ?_)))
 obtain⟨u,J⟩:∃ q,lq a.b.a=q:=⟨_,Z⟩
 obtain⟨_,av,ax,ay,_⟩:=JZ b
 refine cl Tryz.call29 (qG _ _ j (X a.b.a) k a.b.a u av (ax _ S) Z U J) ?_
 rintro _ _ ⟨rfl,az,K⟩
 replace K:=K
 refine Kz (Za (u=0)) (An Z (rt (bR (tR (rs ?_)))))
 have aW:=(ay _ _ az).pk []
 obtain rfl:=zj hr zq5
 exact⟨Z,aW⟩
 refine jF (dF p) (sr (Kz (Za (o=12)) (An Z ?_)))
 by_cases t:o=12
 refine jT (dT t) (sr (Kz (vP d 5) (Lz (vI a.I) b 0 B8 ?_)))
 obtain⟨aA,L⟩:∃ q,nO 1 a.I=q:=⟨_,Z⟩
 obtain⟨_,aB,_,aC,_⟩:=JZ b
 refine cl Tryz.call45 (sw _ _ 1 a.I aA aB L) ?_
 rintro _ _ ⟨rfl,aD⟩
 refine An Z (rt (bR (tR (rs ?_))))
 have aY:=(aC _ _ aD).pk []
 obtain rfl:=zj hr zq6
 exact⟨Z,aY⟩
 refine jF (dF t) (sr (Kz (Za (o=13)) (An Z ?_)))
 by_cases y:o=13
 refine jT (dT y) (sr (Kz (vP d 16) (La (ai.L a.j) b 0 Tryz.isAgg38 Tryz.sizeOf38 ?_)))
 obtain⟨Z7,M⟩:∃ q,dP a.j=q:=⟨_,Z⟩
 obtain⟨_,aF,_,aH,_⟩:=JZ b
 refine cl Tryz.call64 (jK _ _ a.j Z7 aF M) ?_
 rintro _ _ ⟨rfl,aI⟩
 refine Kz (Za (Z7=0)) (An Z (rt (bR (tR (rs ?_)))))
 have bg:=(aH _ _ aI).pk []
 obtain rfl:=zj hr zq7
 exact⟨Z,bg⟩
 refine jF (dF y) (Ko (bN (JY (sr (An Z (rt (rs ?_)))))))
 obtain rfl:=zj hr zq6
 exact⟨Z,(b.pk [])⟩
def kE (d:cz):List Int->Unit ⊕ Bool
  | []=>G0 ()
  | b::c=>bnd (o8 d b) λ a=>if a=Zj then kE d c else G1 (O)
def qY (a:cz) (l1:List Int):Bool:=
 lp (kE a l1) λ _=>Zj
theorem Am (w D) (a:cz) (h z d j B f m l C g R n1 c1 l1 r0) (H:Own w D w []) (G:z=X a.a.a) (I:Ro w D λ w'=>bV w' 6 h (X a.a.a) (q1 aV.L a.a.a)) (ag:X a.a.a<=d/\X a.a.a<=9223372036854775807) (p:s0 aQ.abs m=a.B.a) (J:B=X a.B.a) (K:Ro w D λ w'=>bV w' 3 j (X a.B.a) (q1 aQ.L m)) (ah:X a.B.a<=f/\X a.B.a<=9223372036854775807) (r:∀ x ∈ m,Ro w D (λ w'=>bV w' 2 x.a.A (X x.a.a) (q1 aG.L x.a.a))/\(X x.a.a<=x.a.c/\X x.a.a<=9223372036854775807)) (L:C=X a.b.a) (M:Ro w D λ w'=>bV w' 2 l (X a.b.a) (q1 bF.L a.b.a)) (ai:X a.b.a<=g/\X a.b.a<=9223372036854775807) (Z5:Ro w D λ w'=>bV w' 1 R n1 (q1 (eI .i64) l1)) (aj:n1=X l1) (aH:X l1 *8<=211106232532992) (aI:X a.a.a<=140737488355328/\X a.B.a<=140737488355328/\X a.b.a<=140737488355328) (hr:qY a l1=r0):
    Calls y3 48 #[Zq (Zb (fT a.g a.D a.E a.J a.F a.I a.G a.y a.r a.t a.u a.z a.k a.s a.C a.H a.j.a a.j.b h z d j B f l C g)), T R n1 c1] w (dI λ v w'=>v= Y r0/\Own w D w' []):=by
 subst aj G J L
 have Z0:=bf p
 refine cb Tryz.func48 ?_
 refine sr ?_
 refine cB (jP a h d j f l g) 47 H ?_
 intro Z6 _ ak
 refine An Z (JS (sr (Mz Z (Kz (vJ (X l1)) (Mn Z (bo ?_))))))
 obtain⟨av,s⟩:=nI λ (b:Nat) w'=>Own w D w' [blk Z6 (jP a h d j f l g) 47]/\b<=X l1/\kE a l1=kE a (r8 b l1)
 refine G3 (λ i:Nat=> [(4, Y O),(9,vJ i),(8,vJ (X l1)),(7, T R (X l1) c1),(2,vP Z6 0)]) av (λ i=>X l1 - i) 0 ⟨Z,Z,Z,Z,Z,ZV⟩ (s.2 ⟨(ak.pf []),U,Z⟩) ?_
 rintro b _ S
 obtain⟨o,_,t⟩:=s.1 S
 refine sr (Kz (Za ((b:Int) < (X l1:Int))) (nt (JS ?_)))
 by_cases Z7:(b:Int) < (X l1:Int)
 obtain⟨P,E⟩:=dM (ls:=l1) (i:=b) xm f7 (o.ro Z5) f5
 have F:=drop_at E
 refine jT (dT Z7) (sk (JS (bo (sr (fw (Zz (Zv ⟨ab R,ao R+b *1,Zk⟩)) (J9 (GK) Z Z ((o.ro Z5).addr (i:=b) U) U) (fw (vI P) (J5 Z (bO.one Tryz.isAgg178 (((o.ro Z5).elem xm E f7).at_ (k:=0) Z))) (Ar Z (La (jP a h d j f l g) o 0 Tryz.isAgg47 Tryz.sizeOf47 (Mz Z ?_)))))))))
 obtain⟨Q,u⟩:∃ q,o8 a P=q:=⟨_,Z⟩
 obtain⟨_,Z3,n,Z4,_⟩:=JZ o
 refine cl Tryz.call95 (C8 _ _ a h (X a.a.a) d j (X a.B.a) f m l (X a.b.a) g P Q Z3 Z (n _ I) U p Z (n _ K) U (λ x9 h9=>⟨n _ (r x9 h9).1,(r x9 h9).2⟩) Z (n _ M) U g6 u) ?_
 rintro _ _ ⟨rfl,Z8⟩
 have Z1:=Z4 _ _ Z8
 refine Kz (Y (!Q)) (nt ?_)
 rcases Nv (Q) with y | y
 refine jF (cn y) (Ko (bN (JY (JW (fw (vJ (b+1)) (J4 (e:=D3.wrap ((b:Int)+1)) yk f4) (Mz Z (G2 ?_)))))))
 exact Kb (b+1) ⟨Z,Z,Z,Z,Z,ZV⟩ (s.2 ⟨(Z1.pf []),U,V (t) (V (ZX (λ q=>kE a q) F) (V (ae u) (ip y)))⟩) (by show X l1 - (b+1) < X l1 - b; omega)
 refine jT (cn y) (sr (An Z (rt (bR (tR (tR (bR (tR (rs ?_)))))))))
 obtain rfl:_=O:=zj hr (iX (V (t) (V (ZX (λ q=>kE a q) F) (V (ae u) (eD y)))))
 exact⟨Z,(Z1.pk [])⟩
 refine jF (dF Z7) (H0 (Ka (Ka (Kh (JY (sr (An Z (rt (rs ?_)))))))))
 obtain rfl:_=Zj:=zj hr (kH (V (t) (V (ZX (λ q=>kE a q) (eU (ls:=l1) (i:=b) U)) Z)))
 exact⟨Z,(o.pk [])⟩
def wC (a:cz):Bool:=
 if((dz (dz (dz (dz (dz (dz (dz (dz a.G a.y) a.r) a.t) a.u) a.z) a.k) a.s) a.C:Nat):Int)=0 then if(((X a.a.a+X a.B.a)+X a.b.a:Nat):Int)=0 then if a.J=0 then if a.F=0 then if a.I=0 then if a.H=Zj then O else Zw ((a.j.a=[])/\(a.j.b=[])) else O else O else O else O else O
theorem Br (w D) (a:cz) (l s m n t o r p y q Z4) (H:Own w D w []) (z:s=X a.a.a) (G:Ro w D λ w'=>bV w' 6 l (X a.a.a) (q1 aV.L a.a.a)) (I:X a.a.a<=m/\X a.a.a<=9223372036854775807) (B:s0 aQ.abs r=a.B.a) (C:t=X a.B.a) (J:Ro w D λ w'=>bV w' 3 n (X a.B.a) (q1 aQ.L r)) (K:X a.B.a<=o/\X a.B.a<=9223372036854775807) (L:∀ x ∈ r,Ro w D (λ w'=>bV w' 2 x.a.A (X x.a.a) (q1 aG.L x.a.a))/\(X x.a.a<=x.a.c/\X x.a.a<=9223372036854775807)) (E:y=X a.b.a) (M:Ro w D λ w'=>bV w' 2 p (X a.b.a) (q1 bF.L a.b.a)) (Z5:X a.b.a<=q/\X a.b.a<=9223372036854775807) (ah:X a.a.a<=140737488355328/\X a.B.a<=140737488355328/\X a.b.a<=140737488355328) (hr:wC a=Z4):
    Calls y3 46 #[Zq (Zb (fT a.g a.D a.E a.J a.F a.I a.G a.y a.r a.t a.u a.z a.k a.s a.C a.H a.j.a a.j.b l s m n t o p y q))] w (dI λ v w'=>v= Y Z4/\Own w D w' []):=by
 unfold wC at hr
 subst z C E
 have F:=bf B
 refine cb Tryz.func46 ?_
 refine sr ?_
 refine cB (jP a l m n o p q) 47 H ?_
 intro d _ b
 refine Ar Z (Kz (vP d 6) (Lz (vU a.G) b 0 E0 (Kz (vP d 7) (Lz (vU a.y) b 0 E0 ?_))))
 have Z8:dz a.G a.y<=18446744073709551615:=qi _ _
 refine fw (vU (dz a.G a.y)) (J4 (e:=H3.wrap (((BitVec.ofInt 64 (a.G:Int) ||| BitVec.ofInt 64 (a.y:Int)).toNat:Nat):Int)) yk (kW _)) (Kz (vP d 8) (Lz (vU a.r) b 0 E0 ?_))
 have Z1:dz (dz a.G a.y) a.r<=18446744073709551615:=qi _ _
 refine fw (vU (dz (dz a.G a.y) a.r)) (J4 (e:=H3.wrap (((BitVec.ofInt 64 ((dz a.G a.y:Nat):Int) ||| BitVec.ofInt 64 (a.r:Int)).toNat:Nat):Int)) yk (kW _)) (Kz (vP d 9) (Lz (vU a.t) b 0 E0 ?_))
 have Z2:dz (dz (dz a.G a.y) a.r) a.t<=18446744073709551615:=qi _ _
 refine fw (.int .u64 ((dz (dz (dz a.G a.y) a.r) a.t:Nat):Int)) (J4 (e:=H3.wrap (((BitVec.ofInt 64 ((dz (dz a.G a.y) a.r:Nat):Int) ||| BitVec.ofInt 64 (a.t:Int)).toNat:Nat):Int)) yk (kW _)) (Kz (vP d 10) (Lz (vU a.u) b 0 E0 ?_))
 have Z0:dz (dz (dz (dz a.G a.y) a.r) a.t) a.u<=18446744073709551615:=qi _ _
 refine fw (.int .u64 ((dz (dz (dz (dz a.G a.y) a.r) a.t) a.u:Nat):Int)) (J4 (e:=H3.wrap (((BitVec.ofInt 64 ((dz (dz (dz a.G a.y) a.r) a.t:Nat):Int) ||| BitVec.ofInt 64 (a.u:Int)).toNat:Nat):Int)) yk (kW _)) (Kz (vP d 11) (Lz (vU a.z) b 0 E0 ?_))
 have aa:dz (dz (dz (dz (dz a.G a.y) a.r) a.t) a.u) a.z<=18446744073709551615:=qi _ _
 refine fw (.int .u64 ((dz (dz (dz (dz (dz a.G a.y) a.r) a.t) a.u) a.z:Nat):Int)) (J4 (e:=H3.wrap (((BitVec.ofInt 64 ((dz (dz (dz (dz a.G a.y) a.r) a.t) a.u:Nat):Int) ||| BitVec.ofInt 64 (a.z:Int)).toNat:Nat):Int)) yk (kW _)) (Kz (vP d 12) (Lz (vU a.k) b 0 E0 ?_))
 have ae:dz (dz (dz (dz (dz (dz a.G a.y) a.r) a.t) a.u) a.z) a.k<=18446744073709551615:=qi _ _
 refine fw (.int .u64 ((dz (dz (dz (dz (dz (dz a.G a.y) a.r) a.t) a.u) a.z) a.k:Nat):Int)) (J4 (e:=H3.wrap (((BitVec.ofInt 64 ((dz (dz (dz (dz (dz a.G a.y) a.r) a.t) a.u) a.z:Nat):Int) ||| BitVec.ofInt 64 (a.k:Int)).toNat:Nat):Int)) yk (kW _)) (Kz (vP d 13) (Lz (vU a.s) b 0 E0 ?_))
 have af:dz (dz (dz (dz (dz (dz (dz a.G a.y) a.r) a.t) a.u) a.z) a.k) a.s<=18446744073709551615:=qi _ _
 refine fw (.int .u64 ((dz (dz (dz (dz (dz (dz (dz a.G a.y) a.r) a.t) a.u) a.z) a.k) a.s:Nat):Int)) (J4 (e:=H3.wrap (((BitVec.ofInt 64 ((dz (dz (dz (dz (dz (dz a.G a.y) a.r) a.t) a.u) a.z) a.k:Nat):Int) ||| BitVec.ofInt 64 (a.s:Int)).toNat:Nat):Int)) yk (kW _)) (Kz (vP d 14) (Lz (vU a.C) b 0 E0 ?_))
 have ag:dz (dz (dz (dz (dz (dz (dz (dz a.G a.y) a.r) a.t) a.u) a.z) a.k) a.s) a.C<=18446744073709551615:=qi _ _
 refine fw (.int .u64 ((dz (dz (dz (dz (dz (dz (dz (dz a.G a.y) a.r) a.t) a.u) a.z) a.k) a.s) a.C:Nat):Int)) (J4 (e:=H3.wrap (((BitVec.ofInt 64 ((dz (dz (dz (dz (dz (dz (dz a.G a.y) a.r) a.t) a.u) a.z) a.k) a.s:Nat):Int) ||| BitVec.ofInt 64 (a.C:Int)).toNat:Nat):Int)) yk (kW _)) (Ar Z (Kz (vP d 18) (Lz (T l (X a.a.a) m) b 0 Tryz.isAgg44 (Kz (vJ (X a.a.a)) (Kz (vP d 19) (Lz (T n (X a.B.a) o) b 0 Tryz.isAgg45 (Kz (vJ (X a.B.a)) (fw (vJ (X a.a.a+X a.B.a)) (J4 (e:=D3.wrap ((X a.a.a:Int)+(X a.B.a:Int))) yk f4) (Kz (vP d 20) (Lz (T p (X a.b.a) q) b 0 Tryz.isAgg34 (Kz (vJ (X a.b.a)) (fw (vJ ((X a.a.a+X a.B.a)+X a.b.a)) (J4 (e:=D3.wrap (((X a.a.a+X a.B.a:Nat):Int)+(X a.b.a:Int))) yk f4) (Ar Z (Mz Z (Kz (Za (((dz (dz (dz (dz (dz (dz (dz (dz a.G a.y) a.r) a.t) a.u) a.z) a.k) a.s) a.C:Nat):Int)=0)) (Mz Z ?_))))))))))))))))
 by_cases g:((dz (dz (dz (dz (dz (dz (dz (dz a.G a.y) a.r) a.t) a.u) a.z) a.k) a.s) a.C:Nat):Int)=0
 refine gw (vJ ((X a.a.a+X a.B.a)+X a.b.a)) (dT g) (J3 Z) (Gz (Za ((((X a.a.a+X a.B.a)+X a.b.a:Nat):Int)=0)) (dT g) (fw (Za ((((X a.a.a+X a.B.a)+X a.b.a:Nat):Int)=0)) (JX Z (dT g) Z) (Mz Z ?_)))
 by_cases f:(((X a.a.a+X a.B.a)+X a.b.a:Nat):Int)=0
 refine Gz (vP d 3) (dT f) (Gl (vI a.J) (dT f) b 0 B8 (Gz (Za (a.J=0)) (dT f) (fw (Za (a.J=0)) (JX Z (dT f) Z) (Mz Z ?_))))
 by_cases h:a.J=0
 refine Gz (vP d 4) (dT h) (Gl (vI a.F) (dT h) b 0 B8 (Gz (Za (a.F=0)) (dT h) (fw (Za (a.F=0)) (JX Z (dT h) Z) (Mz Z ?_))))
 by_cases j:a.F=0
 refine Gz (vP d 5) (dT j) (Gl (vI a.I) (dT j) b 0 B8 (Gz (Za (a.I=0)) (dT j) (fw (Za (a.I=0)) (JX Z (dT j) Z) (Mz Z ?_))))
 by_cases k:a.I=0
 refine Gz (vP d 15) (dT k) (Gl (Y a.H) (dT k) b 0 H2 (Gz (Y (!a.H)) (dT k) (fw (Y (!a.H)) (JX Z (dT k) Z) (Mz Z ?_))))
 rcases Nv (a.H) with i | i
 refine Sz (cn i) (Sz (cn i) (Sz (cn i) (Sz (cn i) (fw (Y O) (JU Z (cn i) Z) (An Z (rt (rs ?_)))))))
 obtain rfl:=zj hr zq6
 exact⟨Z,(b.pk [])⟩
 refine Gz (vP d 16) (cn i) (Ga (ai.L a.j) (cn i) b 0 Tryz.isAgg38 Tryz.sizeOf38 (Gz (Zq #[Z9 ⟨Zb []⟩, Z9 ⟨Zb []⟩]) (cn i) (gw (Za ((a.j.a=[])/\(a.j.b=[]))) (cn i) (Me Z Z f1 Z (fK.struct Tryz.underlying38 f1 (KI (eH.cons (u:= Z9 ⟨Zb a.j.a⟩) (v:= Z9 ⟨Zb []⟩) f7 ZY ZY (fK.string B3) (eH.cons (u:= Z9 ⟨Zb a.j.b⟩) (v:= Z9 ⟨Zb []⟩) f7 ZY ZY (fK.string B3) (eH.nil.up (Nt _)))) ((ZX (Zw (a.j.a=[]) && ·) jB).trans eT)))) (fw (Za ((a.j.a=[])/\(a.j.b=[]))) (JX Z (cn i) Z) (An Z (rt (rs ?_)))))))
 obtain rfl:=zj hr zq6
 exact⟨Z,(b.pk [])⟩
 refine Sz (dF k) (Sz (dF k) (Sz (dF k) (fw (Y O) (JU Z (dF k) Z) (Mz Z (QQ (QQ (QQ (QQ (fw (Y O) (QK Z) (An Z (rt (rs ?_))))))))))))
 obtain rfl:=zj hr zq5
 exact⟨Z,(b.pk [])⟩
 refine Sz (dF j) (Sz (dF j) (Sz (dF j) (fw (Y O) (JU Z (dF j) Z) (Mz Z (QQ (QQ (QQ (fw (Y O) (QK Z) (Mz Z (QQ (QQ (QQ (QQ (fw (Y O) (QK Z) (An Z (rt (rs ?_)))))))))))))))))
 obtain rfl:=zj hr zq4
 exact⟨Z,(b.pk [])⟩
 refine Sz (dF h) (Sz (dF h) (Sz (dF h) (fw (Y O) (JU Z (dF h) Z) (Mz Z (QQ (QQ (QQ (fw (Y O) (QK Z) (Mz Z (QQ (QQ (QQ (fw (Y O) (QK Z) (Mz Z (QQ (QQ (QQ (QQ (fw (Y O) (QK Z) (An Z (rt (rs ?_))))))))))))))))))))))
 obtain rfl:=zj hr zq3
 exact⟨Z,(b.pk [])⟩
 refine Sz (dF f) (Sz (dF f) (Sz (dF f) (fw (Y O) (JU Z (dF f) Z) (Mz Z (QQ (QQ (QQ (fw (Y O) (QK Z) (Mz Z (QQ (QQ (QQ (fw (Y O) (QK Z) (Mz Z (QQ (QQ (QQ (fw (Y O) (QK Z) (Mz Z (QQ (QQ (QQ (QQ (fw (Y O) (QK Z) (An Z (rt (rs ?_)))))))))))))))))))))))))))
 obtain rfl:=zj hr zq2
 exact⟨Z,(b.pk [])⟩
 refine Sz (dF g) (Sz (dF g) (fw (Y O) (JU Z (dF g) Z) (Mz Z (QQ (QQ (QQ (fw (Y O) (QK Z) (Mz Z (QQ (QQ (QQ (fw (Y O) (QK Z) (Mz Z (QQ (QQ (QQ (fw (Y O) (QK Z) (Mz Z (QQ (QQ (QQ (fw (Y O) (QK Z) (Mz Z (QQ (QQ (QQ (QQ (fw (Y O) (QK Z) (An Z (rt (rs ?_)))))))))))))))))))))))))))))))
 obtain rfl:=zj hr zq1
 exact⟨Z,(b.pk [])⟩
end
open _root_.Go.Proofs.Tryz renaming isAgg118->H4,isAgg47->I0,sizeOf33->I3,sizeOf47->I2
section
open Go.RowKit
def dh (u:cz) (s:gK):List Int->Int->Int->Nat->Nat->Nat->Nat->Nat->Nat->Nat->Nat->Nat->Bool->List UInt8->List UInt8->List aV->List dA->List bF->Int × Int × Nat × Nat × Nat × Nat × Nat × Nat × Nat × Nat × Nat × Bool × (List UInt8) × (List UInt8) × (List aV) × (List dA) × (List bF)
  | [],b,c,d,e,f,g,h,i,j,k,l,m,n,o,p,q,r=>(b,c,d,e,f,g,h,i,j,k,l,m,n,o,p,q,r)
  | a::t,b,c,d,e,f,g,h,i,j,k,l,m,n,o,p,q,r=>if a=0 then dh u s t b c 0 e f g h i j k l m n o p q r else if a=1 then dh u s t b c d 0 f g h i j k l m n o p q r else if a=2 then dh u s t 0 c d e f g h i j k l m n o p q r else if a=3 then dh u s t b c d e f g h i j k l m n o p [] r else if a=4 then dh u s t b c d e 0 g h i j k l m n o p q r else if a=5 then dh u s t b c d e f 0 h i j k l m n o p q r else if a=6 then dh u s t b c d e f g h 0 j k l m n o p q r else if a=7 then dh u s t b c d e f g h i j k l m n o [] q r else if a=8 then dh u s t b c d e f g h i j k l O n o p q r else if a=9 then dh u s t b c d e f g 0 i j k l m n o p q r else if a=10 then dh u s t b c d e f g h i 0 k l m n o p q r else if a=11 then dh u s t b c d e f g h i j k l m n o p q [] else if a=12 then dh u s t b 0 d e f g h i j k l m n o p q r else if a=13 then dh u s t b c d e f g h i j k l m [] [] p q r else if a=14 then dh u s t b c d e f g h i j 0 l m n o p q r else if a=15 then dh u s t b c d e f g h i j k 0 m n o p q r else dh u s t b c d e f g h i j k l m n o p q r
def fU (a:cz):Int:=
 bnd (pI a.g) λ b=>if b.2=Zj then bnd (nO b.1.g a.D) λ e=>if e=Zj then bnd (nO b.1.b a.E) λ f=>if f=Zj then bnd (dh a b.1 b.1.a.a a.F a.I a.G a.y a.r a.t a.u a.z a.k a.s a.C a.H a.j.a a.j.b a.a.a a.B.a a.b.a) λ sLrbtbtbtL=>bnd (wC (cz.q a.g a.D a.E a.J sLrbtbtbtL.1 sLrbtbtbtL.2.1 sLrbtbtbtL.2.2.1 sLrbtbtbtL.2.2.2.1 sLrbtbtbtL.2.2.2.2.1 sLrbtbtbtL.2.2.2.2.2.1 sLrbtbtbtL.2.2.2.2.2.2.1 sLrbtbtbtL.2.2.2.2.2.2.2.1 sLrbtbtbtL.2.2.2.2.2.2.2.2.1 sLrbtbtbtL.2.2.2.2.2.2.2.2.2.1 sLrbtbtbtL.2.2.2.2.2.2.2.2.2.2.1 sLrbtbtbtL.2.2.2.2.2.2.2.2.2.2.2.1 (ai.q sLrbtbtbtL.2.2.2.2.2.2.2.2.2.2.2.2.1 sLrbtbtbtL.2.2.2.2.2.2.2.2.2.2.2.2.2.1) (N sLrbtbtbtL.2.2.2.2.2.2.2.2.2.2.2.2.2.2.1) (N sLrbtbtbtL.2.2.2.2.2.2.2.2.2.2.2.2.2.2.2.1) (N sLrbtbtbtL.2.2.2.2.2.2.2.2.2.2.2.2.2.2.2.2))) λ c=>if c=Zj then bnd (qY a b.1.a.a) λ d=>if d=Zj then if b.1.g=1 then if b.1.b=1 then if a.D=a.E then 180 else 0 else 0 else 0 else 180 else 180 else 180 else 180 else 180
theorem pJ (w D) (a:cz) (ak bX aa au bY af aI av bZ ag r0) (H:Own w D w []) (di:bX=X a.a.a) (bJ:Ro w D λ w'=>bV w' 6 ak (X a.a.a) (q1 aV.L a.a.a)) (ig:X a.a.a<=aa/\X a.a.a<=9223372036854775807) (bg:s0 aQ.abs aI=a.B.a) (dm:bY=X a.B.a) (bK:Ro w D λ w'=>bV w' 3 au (X a.B.a) (q1 aQ.L aI)) (ik:X a.B.a<=af/\X a.B.a<=9223372036854775807) (bi:∀ x ∈ aI,Ro w D (λ w'=>bV w' 2 x.a.A (X x.a.a) (q1 aG.L x.a.a))/\(X x.a.a<=x.a.c/\X x.a.a<=9223372036854775807)) (dn:bZ=X a.b.a) (bL:Ro w D λ w'=>bV w' 2 av (X a.b.a) (q1 bF.L a.b.a)) (il:X a.b.a<=ag/\X a.b.a<=9223372036854775807) (jG:X a.a.a<=140737488355328/\X a.B.a<=140737488355328/\X a.b.a<=140737488355328) (hr:fU a=r0):
    Calls Tryz.prog 21 #[Zq (Zb (fT a.g a.D a.E a.J a.F a.I a.G a.y a.r a.t a.u a.z a.k a.s a.C a.H a.j.a a.j.b ak bX aa au bY af av bZ ag))] w (dI λ v w'=>v=vI r0/\Own w D w' []):=by
 unfold fU at hr
 subst di dm dn
 have ic:=bf bg
 refine cb Tryz.func21 ?_
 refine sr (cB (jP a ak aa au af av ag) 47 H ?_)
 intro bI _ dJ
 refine Ar Z (Kz (vP bI 0) (Lz (vI a.g) dJ 0 B8 ?_))
 obtain⟨⟨d,bP⟩,aK⟩:∃ q:gK × Bool,pI a.g=q:=⟨_,Z⟩
 obtain⟨_,dK,_,dL,_⟩:=JZ dJ
 refine cl Tryz.call44 (yR _ _ a.g d bP dK aK) ?_
 rintro _ _ ⟨aX,bn,rfl,dN,cK⟩
 have dO:=dL _ _ dN
 have iV:=dO.rowC (i:=0) Z
 replace cK:=cK
 refine Mz Z (Kz (Zq #[vI d.g,vI d.b, T aX (X d.a.a) bn]) (Kz (Y bP) (cB [vI 0,vI 0, T Zk 0 0] 121 dO ?_)))
 intro bz _ iq
 refine cu [vI d.g,vI d.b, T aX (X d.a.a) bn] 0 iq Tryz.sizeOf121 ?_
 intro _ bQ
 refine An Z (JS (sr (Mz Z (Kz (Y (!bP)) (Mz Z ?_)))))
 rcases Nv (bP) with aj | aj
 refine Gz (vP bz 0) (cn aj) (Gl (vI d.g) (cn aj) bQ 0 H4 (Gz (vP bI 1) (cn aj) (Gl (vI a.D) (cn aj) bQ 2 B8 ?_)))
 obtain⟨bR,aN⟩:∃ q,nO d.g a.D=q:=⟨_,Z⟩
 obtain⟨_,dP,_,dQ,_⟩:=JZ bQ
 refine oI (cn aj) Tryz.call45 (sw _ _ d.g a.D bR dP aN) ?_
 rintro _ _ ⟨rfl,dR⟩
 have bS:=dQ _ _ dR
 refine Gz (Y (!bR)) (cn aj) (fw (Y (!bR)) (JU Z (cn aj) Z) (Mz Z ?_))
 rcases Nv (bR) with ax | ax
 refine Gz (vP bz 1) (cn ax) (Gl (vI d.b) (cn ax) bS 0 H4 (Gz (vP bI 2) (cn ax) (Gl (vI a.E) (cn ax) bS 2 B8 ?_)))
 obtain⟨bT,aS⟩:∃ q,nO d.b a.E=q:=⟨_,Z⟩
 obtain⟨_,dS,_,dU,_⟩:=JZ bS
 refine oI (cn ax) Tryz.call45 (sw _ _ d.b a.E bT dS aS) ?_
 rintro _ _ ⟨rfl,dV⟩
 have bU:=dU _ _ dV
 refine Gz (Y (!bT)) (cn ax) (fw (Y (!bT)) (JU Z (cn ax) Z) (Mz Z ?_))
 rcases Nv (bT) with aA | aA
 refine Ga (jP a ak aa au af av ag) (cn aA) bU 2 I0 I2 (Gz (vP bz 2) (cn aA) (Gl (T aX (X d.a.a) bn) (cn aA) bU 0 Tryz.isAgg119 (KU Z Z (cn aA) Z (Ki Tryz.call47 Z ?_ (λ _ _ k=>k)))))
 refine cb Tryz.func47 ?_
 refine sr (cB (jP a ak aa au af av ag) 47 bU ?_)
 intro aD _ iw
 refine cB (fT 0 0 0 0 0 0 0 0 0 0 0 0 0 0 0 O [] [] Zk 0 0 Zk 0 0 Zk 0 0) 47 iw ?_
 intro dw _ iy
 refine nt (JS (sr (Mz Z (Kz (vJ (X d.a.a)) (Mn Z (bo ?_))))))
 obtain⟨dW,I⟩:=JC λ (b:Nat) (z:Int) (B:Int) (j:Nat) (l:Nat) (n:Nat) (o:Nat) (p:Nat) (r:Nat) (s:Nat) (t:Nat) (u:Nat) C E F Z8 (R:Nat) f Z1 (S:Nat) Z7 g Z2 (Z3:Nat) h w'=>Own w D w' [blk dw (fT 0 0 0 0 0 0 0 0 0 0 0 0 0 0 0 O [] [] Zk 0 0 Zk 0 0 Zk 0 0) 47,blk aD (fT a.g a.D a.E a.J z B j l n o p r s t u C E F Z8 (X f) R Z1 (X g) S Z2 (X h) Z3) 47,blk bz [vI d.g,vI d.b, T aX (X d.a.a) bn] 121,row aX (X d.a.a) bn (q1 (eI .i64) d.a.a) 178 1,blk bI (jP a ak aa au af av ag) 47]/\jS 6 ak aa a.a.a Z8 R f/\jS 3 au af aI Z1 S Z7/\s0 aQ.abs Z7=g/\jS 2 av ag a.b.a Z2 Z3 h/\b<=X d.a.a/\j<=a.G+b/\l<=a.y+b/\n<=a.r+b/\o<=a.t+b/\p<=a.u+b/\r<=a.z+b/\s<=a.k+b/\t<=a.s+b/\u<=a.C+b/\dh a d d.a.a a.F a.I a.G a.y a.r a.t a.u a.z a.k a.s a.C a.H a.j.a a.j.b a.a.a a.B.a a.b.a=dh a d (r8 b d.a.a) z B j l n o p r s t u C E F f g h
 refine Wp.loop (λ i:Nat × Int × Int × Nat × Nat × Nat × Nat × Nat × Nat × Nat × Nat × Nat × Bool × (List UInt8) × (List UInt8) × (Option Addr) × Nat × (List aV) × (Option Addr) × Nat × (List aQ) × (List dA) × (Option Addr) × Nat × (List bF)=> [(9,vJ i.1),(8,vJ (X d.a.a)),(7, T aX (X d.a.a) bn),(4,vP dw 0),(2,vP aD 0)]) dW (λ i=>X d.a.a - i.1) (0,a.F,a.I,a.G,a.y,a.r,a.t,a.u,a.z,a.k,a.s,a.C,a.H,a.j.a,a.j.b,ak,aa,a.a.a,au,af,aI,a.B.a,av,ag,a.b.a) ⟨Z,Z,Z,Z,Z,ZV⟩ (I.2 ⟨(iy.pf []),by exact(jS.refl U),by exact(jS.refl U),by exact bg,by exact(jS.refl U),U,U,U,U,U,U,U,U,U,U,Z⟩) ?_
 rintro ⟨b,z,B,j,l,n,o,p,r,s,t,u,C,E,F,Z8,R,f,Z1,S,Z7,g,Z2,Z3,h⟩ _ dx
 obtain⟨Z6,K,G,J,L,_,_,_,_,_,_,_,_,_,_,M⟩:=I.1 dx
 have iL:=(K).le
 have iM:=(G).le
 have iO:=bf J
 have iP:=(L).le
 refine sr (Kz (Za ((b:Int) < (X d.a.a:Int))) (nt (JS ?_)))
 by_cases cO:(b:Int) < (X d.a.a:Int)
 obtain⟨y,bM⟩:=dM (ls:=d.a.a) (i:=b) xm f7 (Z6.rds (i:=3) Z) f5
 have Z5:=drop_at bM
 refine jT (dT cO) (sk (JS (bo (sr (fw (Zz (Zv ⟨ab aX,ao aX+b *1,Zk⟩)) (J9 (GK) Z Z ((Z6.rds (i:=3) Z).addr (i:=b) U) U) (fw (vI y) (J5 Z (bO.one Tryz.isAgg178 (((Z6.rds (i:=3) Z).elem xm bM f7).at_ (k:=0) Z))) (Ar Z (Mn Z (bo (sr (Kz (Za (y=0)) (An Z ?_))))))))))))
 by_cases P:y=0
 refine jT (dT P) (JW (Kz (vP aD 6) (cu [.int .u64 0] 6 (Z6.pf [1]) I3 ?_)))
 intro _ dY
 refine G2 (bN (bN (JY (JW (fw (vJ (b+1)) (J4 (e:=D3.wrap ((b:Int)+1)) yk f4) (Mz Z (G2 ?_)))))))
 exact Kb (b+1,z,B,0,l,n,o,p,r,s,t,u,C,E,F,Z8,R,f,Z1,S,Z7,g,Z2,Z3,h) ⟨Z,Z,Z,Z,Z,ZV⟩ (I.2 ⟨(dY.pf [1]),by exact K,by exact G,by exact J,by exact L,U,U,U,U,U,U,U,U,U,U,V (M) (V (ZX (λ q=>dh a d q z B j l n o p r s t u C E F f g h) Z5) (ip P))⟩) (by show X d.a.a - (b+1) < X d.a.a - b; omega)
 refine jF (dF P) (sr (Kz (Za (y=1)) (An Z ?_)))
 by_cases Z4:y=1
 refine jT (dT Z4) (JW (Kz (vP aD 7) (cu [.int .u64 0] 7 (Z6.pf [1]) I3 ?_)))
 intro _ ed
 refine G2 (bN (bN (JY (JW (fw (vJ (b+1)) (J4 (e:=D3.wrap ((b:Int)+1)) yk f4) (Mz Z (G2 ?_)))))))
 exact Kb (b+1,z,B,j,0,n,o,p,r,s,t,u,C,E,F,Z8,R,f,Z1,S,Z7,g,Z2,Z3,h) ⟨Z,Z,Z,Z,Z,ZV⟩ (I.2 ⟨(ed.pf [1]),by exact K,by exact G,by exact J,by exact L,U,U,U,U,U,U,U,U,U,U,V (M) (V (ZX (λ q=>dh a d q z B j l n o p r s t u C E F f g h) Z5) (V (iN P) (ip Z4)))⟩) (by show X d.a.a - (b+1) < X d.a.a - b; omega)
 refine jF (dF Z4) (sr (Kz (Za (y=2)) (An Z ?_)))
 by_cases Z0:y=2
 refine jT (dT Z0) (JW (Kz (vP aD 4) (cu [vI 0] 4 (Z6.pf [1]) Tryz.sizeOf3 ?_)))
 intro _ eB
 refine G2 (bN (bN (JY (JW (fw (vJ (b+1)) (J4 (e:=D3.wrap ((b:Int)+1)) yk f4) (Mz Z (G2 ?_)))))))
 exact Kb (b+1,0,B,j,l,n,o,p,r,s,t,u,C,E,F,Z8,R,f,Z1,S,Z7,g,Z2,Z3,h) ⟨Z,Z,Z,Z,Z,ZV⟩ (I.2 ⟨(eB.pf [1]),by exact K,by exact G,by exact J,by exact L,U,U,U,U,U,U,U,U,U,U,V (M) (V (ZX (λ q=>dh a d q z B j l n o p r s t u C E F f g h) Z5) (V (iN P) (V (iN Z4) (ip Z0))))⟩) (by show X d.a.a - (b+1) < X d.a.a - b; omega)
 refine jF (dF Z0) (sr (Kz (Za (y=3)) (An Z ?_)))
 by_cases ah:y=3
 refine jT (dT ah) (JW (Kz (vP aD 19) (cu [T Zk 0 0] 19 (Z6.pf [1]) Tryz.sizeOf45 ?_)))
 intro _ eH
 refine G2 (bN (bN (JY (JW (fw (vJ (b+1)) (J4 (e:=D3.wrap ((b:Int)+1)) yk f4) (Mz Z (G2 ?_)))))))
 exact Kb (b+1,z,B,j,l,n,o,p,r,s,t,u,C,E,F,Z8,R,f,Zk,0, [], [],Z2,Z3,h) ⟨Z,Z,Z,Z,Z,ZV⟩ (I.2 ⟨(eH.pf [1]),(show jS 6 ak aa a.a.a Z8 R f/\jS 3 au af aI Zk 0 []/\s0 aQ.abs []=[]/\jS 2 av ag a.b.a Z2 Z3 h/\(b+1)<=X d.a.a/\j<=a.G+(b+1)/\l<=a.y+(b+1)/\n<=a.r+(b+1)/\o<=a.t+(b+1)/\p<=a.u+(b+1)/\r<=a.z+(b+1)/\s<=a.k+(b+1)/\t<=a.s+(b+1)/\u<=a.C+(b+1)/\dh a d d.a.a a.F a.I a.G a.y a.r a.t a.u a.z a.k a.s a.C a.H a.j.a a.j.b a.a.a a.B.a a.b.a=dh a d (r8 (b+1) d.a.a) z B j l n o p r s t u C E F f [] h from ⟨by exact K,by exact jS.nil,by exact Z,by exact L,U,U,U,U,U,U,U,U,U,U,V (M) (V (ZX (λ q=>dh a d q z B j l n o p r s t u C E F f g h) Z5) (V (iN P) (V (iN Z4) (V (iN Z0) (ip ah)))))⟩)⟩) (by show X d.a.a - (b+1) < X d.a.a - b; omega)
 refine jF (dF ah) (sr (Kz (Za (y=4)) (An Z ?_)))
 by_cases ay:y=4
 refine jT (dT ay) (JW (Kz (vP aD 8) (cu [.int .u64 0] 8 (Z6.pf [1]) I3 ?_)))
 intro _ eQ
 refine G2 (bN (bN (JY (JW (fw (vJ (b+1)) (J4 (e:=D3.wrap ((b:Int)+1)) yk f4) (Mz Z (G2 ?_)))))))
 exact Kb (b+1,z,B,j,l,0,o,p,r,s,t,u,C,E,F,Z8,R,f,Z1,S,Z7,g,Z2,Z3,h) ⟨Z,Z,Z,Z,Z,ZV⟩ (I.2 ⟨(eQ.pf [1]),by exact K,by exact G,by exact J,by exact L,U,U,U,U,U,U,U,U,U,U,V (M) (V (ZX (λ q=>dh a d q z B j l n o p r s t u C E F f g h) Z5) (V (iN P) (V (iN Z4) (V (iN Z0) (V (iN ah) (ip ay))))))⟩) (by show X d.a.a - (b+1) < X d.a.a - b; omega)
 refine jF (dF ay) (sr (Kz (Za (y=5)) (An Z ?_)))
 by_cases aB:y=5
 refine jT (dT aB) (JW (Kz (vP aD 9) (cu [.int .u64 0] 9 (Z6.pf [1]) I3 ?_)))
 intro _ eY
 refine G2 (bN (bN (JY (JW (fw (vJ (b+1)) (J4 (e:=D3.wrap ((b:Int)+1)) yk f4) (Mz Z (G2 ?_)))))))
 exact Kb (b+1,z,B,j,l,n,0,p,r,s,t,u,C,E,F,Z8,R,f,Z1,S,Z7,g,Z2,Z3,h) ⟨Z,Z,Z,Z,Z,ZV⟩ (I.2 ⟨(eY.pf [1]),by exact K,by exact G,by exact J,by exact L,U,U,U,U,U,U,U,U,U,U,V (M) (V (ZX (λ q=>dh a d q z B j l n o p r s t u C E F f g h) Z5) (V (iN P) (V (iN Z4) (V (iN Z0) (V (iN ah) (V (iN ay) (ip aB)))))))⟩) (by show X d.a.a - (b+1) < X d.a.a - b; omega)
 refine jF (dF aB) (sr (Kz (Za (y=6)) (An Z ?_)))
 by_cases aC:y=6
 refine jT (dT aC) (JW (Kz (vP aD 11) (cu [.int .u64 0] 11 (Z6.pf [1]) I3 ?_)))
 intro _ fo
 refine G2 (bN (bN (JY (JW (fw (vJ (b+1)) (J4 (e:=D3.wrap ((b:Int)+1)) yk f4) (Mz Z (G2 ?_)))))))
 exact Kb (b+1,z,B,j,l,n,o,p,0,s,t,u,C,E,F,Z8,R,f,Z1,S,Z7,g,Z2,Z3,h) ⟨Z,Z,Z,Z,Z,ZV⟩ (I.2 ⟨(fo.pf [1]),by exact K,by exact G,by exact J,by exact L,U,U,U,U,U,U,U,U,U,U,V (M) (V (ZX (λ q=>dh a d q z B j l n o p r s t u C E F f g h) Z5) (V (iN P) (V (iN Z4) (V (iN Z0) (V (iN ah) (V (iN ay) (V (iN aB) (ip aC))))))))⟩) (by show X d.a.a - (b+1) < X d.a.a - b; omega)
 refine jF (dF aC) (sr (Kz (Za (y=7)) (An Z ?_)))
 by_cases aF:y=7
 refine jT (dT aF) (JW (Kz (vP aD 18) (cu [T Zk 0 0] 18 (Z6.pf [1]) Tryz.sizeOf44 ?_)))
 intro _ fA
 refine G2 (bN (bN (JY (JW (fw (vJ (b+1)) (J4 (e:=D3.wrap ((b:Int)+1)) yk f4) (Mz Z (G2 ?_)))))))
 exact Kb (b+1,z,B,j,l,n,o,p,r,s,t,u,C,E,F,Zk,0, [],Z1,S,Z7,g,Z2,Z3,h) ⟨Z,Z,Z,Z,Z,ZV⟩ (I.2 ⟨(fA.pf [1]),(show jS 6 ak aa a.a.a Zk 0 []/\jS 3 au af aI Z1 S Z7/\s0 aQ.abs Z7=g/\jS 2 av ag a.b.a Z2 Z3 h/\(b+1)<=X d.a.a/\j<=a.G+(b+1)/\l<=a.y+(b+1)/\n<=a.r+(b+1)/\o<=a.t+(b+1)/\p<=a.u+(b+1)/\r<=a.z+(b+1)/\s<=a.k+(b+1)/\t<=a.s+(b+1)/\u<=a.C+(b+1)/\dh a d d.a.a a.F a.I a.G a.y a.r a.t a.u a.z a.k a.s a.C a.H a.j.a a.j.b a.a.a a.B.a a.b.a=dh a d (r8 (b+1) d.a.a) z B j l n o p r s t u C E F [] g h from ⟨by exact jS.nil,by exact G,by exact J,by exact L,U,U,U,U,U,U,U,U,U,U,V (M) (V (ZX (λ q=>dh a d q z B j l n o p r s t u C E F f g h) Z5) (V (iN P) (V (iN Z4) (V (iN Z0) (V (iN ah) (V (iN ay) (V (iN aB) (V (iN aC) (ip aF)))))))))⟩)⟩) (by show X d.a.a - (b+1) < X d.a.a - b; omega)
 refine jF (dF aF) (sr (Kz (Za (y=8)) (An Z ?_)))
 by_cases aJ:y=8
 refine jT (dT aJ) (JW (Kz (vP aD 15) (cu [Y O] 15 (Z6.pf [1]) Tryz.sizeOf4 ?_)))
 intro _ fD
 refine G2 (bN (bN (JY (JW (fw (vJ (b+1)) (J4 (e:=D3.wrap ((b:Int)+1)) yk f4) (Mz Z (G2 ?_)))))))
 exact Kb (b+1,z,B,j,l,n,o,p,r,s,t,u,O,E,F,Z8,R,f,Z1,S,Z7,g,Z2,Z3,h) ⟨Z,Z,Z,Z,Z,ZV⟩ (I.2 ⟨(fD.pf [1]),(show jS 6 ak aa a.a.a Z8 R f/\jS 3 au af aI Z1 S Z7/\s0 aQ.abs Z7=g/\jS 2 av ag a.b.a Z2 Z3 h/\(b+1)<=X d.a.a/\j<=a.G+(b+1)/\l<=a.y+(b+1)/\n<=a.r+(b+1)/\o<=a.t+(b+1)/\p<=a.u+(b+1)/\r<=a.z+(b+1)/\s<=a.k+(b+1)/\t<=a.s+(b+1)/\u<=a.C+(b+1)/\dh a d d.a.a a.F a.I a.G a.y a.r a.t a.u a.z a.k a.s a.C a.H a.j.a a.j.b a.a.a a.B.a a.b.a=dh a d (r8 (b+1) d.a.a) z B j l n o p r s t u O E F f g h from ⟨by exact K,by exact G,by exact J,by exact L,U,U,U,U,U,U,U,U,U,U,V (M) (V (ZX (λ q=>dh a d q z B j l n o p r s t u C E F f g h) Z5) (V (iN P) (V (iN Z4) (V (iN Z0) (V (iN ah) (V (iN ay) (V (iN aB) (V (iN aC) (V (iN aF) (ip aJ))))))))))⟩)⟩) (by show X d.a.a - (b+1) < X d.a.a - b; omega)
 refine jF (dF aJ) (sr (Kz (Za (y=9)) (An Z ?_)))
 by_cases aL:y=9
 refine jT (dT aL) (JW (Kz (vP aD 10) (cu [.int .u64 0] 10 (Z6.pf [1]) I3 ?_)))
 intro _ fG
 refine G2 (bN (bN (JY (JW (fw (vJ (b+1)) (J4 (e:=D3.wrap ((b:Int)+1)) yk f4) (Mz Z (G2 ?_)))))))
 exact Kb (b+1,z,B,j,l,n,o,0,r,s,t,u,C,E,F,Z8,R,f,Z1,S,Z7,g,Z2,Z3,h) ⟨Z,Z,Z,Z,Z,ZV⟩ (I.2 ⟨(fG.pf [1]),by exact K,by exact G,by exact J,by exact L,U,U,U,U,U,U,U,U,U,U,V (M) (V (ZX (λ q=>dh a d q z B j l n o p r s t u C E F f g h) Z5) (V (iN P) (V (iN Z4) (V (iN Z0) (V (iN ah) (V (iN ay) (V (iN aB) (V (iN aC) (V (iN aF) (V (iN aJ) (ip aL)))))))))))⟩) (by show X d.a.a - (b+1) < X d.a.a - b; omega)
 refine jF (dF aL) (sr (Kz (Za (y=10)) (An Z ?_)))
 by_cases aO:y=10
 refine jT (dT aO) (JW (Kz (vP aD 12) (cu [.int .u64 0] 12 (Z6.pf [1]) I3 ?_)))
 intro _ fJ
 refine G2 (bN (bN (JY (JW (fw (vJ (b+1)) (J4 (e:=D3.wrap ((b:Int)+1)) yk f4) (Mz Z (G2 ?_)))))))
 exact Kb (b+1,z,B,j,l,n,o,p,r,0,t,u,C,E,F,Z8,R,f,Z1,S,Z7,g,Z2,Z3,h) ⟨Z,Z,Z,Z,Z,ZV⟩ (I.2 ⟨(fJ.pf [1]),by exact K,by exact G,by exact J,by exact L,U,U,U,U,U,U,U,U,U,U,V (M) (V (ZX (λ q=>dh a d q z B j l n o p r s t u C E F f g h) Z5) (V (iN P) (V (iN Z4) (V (iN Z0) (V (iN ah) (V (iN ay) (V (iN aB) (V (iN aC) (V (iN aF) (V (iN aJ) (V (iN aL) (ip aO))))))))))))⟩) (by show X d.a.a - (b+1) < X d.a.a - b; omega)
 refine jF (dF aO) (sr (Kz (Za (y=11)) (An Z ?_)))
 by_cases aT:y=11
 refine jT (dT aT) (JW (Kz (vP aD 20) (cu [T Zk 0 0] 20 (Z6.pf [1]) Tryz.sizeOf34 ?_)))
 intro _ fO
 refine G2 (bN (bN (JY (JW (fw (vJ (b+1)) (J4 (e:=D3.wrap ((b:Int)+1)) yk f4) (Mz Z (G2 ?_)))))))
 exact Kb (b+1,z,B,j,l,n,o,p,r,s,t,u,C,E,F,Z8,R,f,Z1,S,Z7,g,Zk,0, []) ⟨Z,Z,Z,Z,Z,ZV⟩ (I.2 ⟨(fO.pf [1]),(show jS 6 ak aa a.a.a Z8 R f/\jS 3 au af aI Z1 S Z7/\s0 aQ.abs Z7=g/\jS 2 av ag a.b.a Zk 0 []/\(b+1)<=X d.a.a/\j<=a.G+(b+1)/\l<=a.y+(b+1)/\n<=a.r+(b+1)/\o<=a.t+(b+1)/\p<=a.u+(b+1)/\r<=a.z+(b+1)/\s<=a.k+(b+1)/\t<=a.s+(b+1)/\u<=a.C+(b+1)/\dh a d d.a.a a.F a.I a.G a.y a.r a.t a.u a.z a.k a.s a.C a.H a.j.a a.j.b a.a.a a.B.a a.b.a=dh a d (r8 (b+1) d.a.a) z B j l n o p r s t u C E F f g [] from ⟨by exact K,by exact G,by exact J,by exact jS.nil,U,U,U,U,U,U,U,U,U,U,V (M) (V (ZX (λ q=>dh a d q z B j l n o p r s t u C E F f g h) Z5) (V (iN P) (V (iN Z4) (V (iN Z0) (V (iN ah) (V (iN ay) (V (iN aB) (V (iN aC) (V (iN aF) (V (iN aJ) (V (iN aL) (V (iN aO) (ip aT)))))))))))))⟩)⟩) (by show X d.a.a - (b+1) < X d.a.a - b; omega)
 refine jF (dF aT) (sr (Kz (Za (y=12)) (An Z ?_)))
 by_cases aY:y=12
 refine jT (dT aY) (JW (Kz (vP aD 5) (cu [vI 0] 5 (Z6.pf [1]) Tryz.sizeOf3 ?_)))
 intro _ fV
 refine G2 (bN (bN (JY (JW (fw (vJ (b+1)) (J4 (e:=D3.wrap ((b:Int)+1)) yk f4) (Mz Z (G2 ?_)))))))
 exact Kb (b+1,z,0,j,l,n,o,p,r,s,t,u,C,E,F,Z8,R,f,Z1,S,Z7,g,Z2,Z3,h) ⟨Z,Z,Z,Z,Z,ZV⟩ (I.2 ⟨(fV.pf [1]),by exact K,by exact G,by exact J,by exact L,U,U,U,U,U,U,U,U,U,U,V (M) (V (ZX (λ q=>dh a d q z B j l n o p r s t u C E F f g h) Z5) (V (iN P) (V (iN Z4) (V (iN Z0) (V (iN ah) (V (iN ay) (V (iN aB) (V (iN aC) (V (iN aF) (V (iN aJ) (V (iN aL) (V (iN aO) (V (iN aT) (ip aY))))))))))))))⟩) (by show X d.a.a - (b+1) < X d.a.a - b; omega)
 refine jF (dF aY) (sr (Kz (Za (y=13)) (An Z ?_)))
 by_cases aZ:y=13
 refine jT (dT aZ) (JW (Kz (Zq #[Z9 ⟨Zb []⟩, Z9 ⟨Zb []⟩]) (Kz (vP aD 16) (cu [Z9 ⟨Zb []⟩, Z9 ⟨Zb []⟩] 16 (Z6.pf [1]) Tryz.sizeOf38 ?_))))
 intro _ gp
 refine G2 (bN (bN (JY (JW (fw (vJ (b+1)) (J4 (e:=D3.wrap ((b:Int)+1)) yk f4) (Mz Z (G2 ?_)))))))
 exact Kb (b+1,z,B,j,l,n,o,p,r,s,t,u,C, [], [],Z8,R,f,Z1,S,Z7,g,Z2,Z3,h) ⟨Z,Z,Z,Z,Z,ZV⟩ (I.2 ⟨(gp.pf [1]),(show jS 6 ak aa a.a.a Z8 R f/\jS 3 au af aI Z1 S Z7/\s0 aQ.abs Z7=g/\jS 2 av ag a.b.a Z2 Z3 h/\(b+1)<=X d.a.a/\j<=a.G+(b+1)/\l<=a.y+(b+1)/\n<=a.r+(b+1)/\o<=a.t+(b+1)/\p<=a.u+(b+1)/\r<=a.z+(b+1)/\s<=a.k+(b+1)/\t<=a.s+(b+1)/\u<=a.C+(b+1)/\dh a d d.a.a a.F a.I a.G a.y a.r a.t a.u a.z a.k a.s a.C a.H a.j.a a.j.b a.a.a a.B.a a.b.a=dh a d (r8 (b+1) d.a.a) z B j l n o p r s t u C [] [] f g h from ⟨by exact K,by exact G,by exact J,by exact L,U,U,U,U,U,U,U,U,U,U,V (M) (V (ZX (λ q=>dh a d q z B j l n o p r s t u C E F f g h) Z5) (V (iN P) (V (iN Z4) (V (iN Z0) (V (iN ah) (V (iN ay) (V (iN aB) (V (iN aC) (V (iN aF) (V (iN aJ) (V (iN aL) (V (iN aO) (V (iN aT) (V (iN aY) (ip aZ)))))))))))))))⟩)⟩) (by show X d.a.a - (b+1) < X d.a.a - b; omega)
 refine jF (dF aZ) (sr (Kz (Za (y=14)) (An Z ?_)))
 by_cases bv:y=14
 refine jT (dT bv) (JW (Kz (vP aD 13) (cu [.int .u64 0] 13 (Z6.pf [1]) I3 ?_)))
 intro _ gy
 refine G2 (bN (bN (JY (JW (fw (vJ (b+1)) (J4 (e:=D3.wrap ((b:Int)+1)) yk f4) (Mz Z (G2 ?_)))))))
 exact Kb (b+1,z,B,j,l,n,o,p,r,s,0,u,C,E,F,Z8,R,f,Z1,S,Z7,g,Z2,Z3,h) ⟨Z,Z,Z,Z,Z,ZV⟩ (I.2 ⟨(gy.pf [1]),by exact K,by exact G,by exact J,by exact L,U,U,U,U,U,U,U,U,U,U,V (M) (V (ZX (λ q=>dh a d q z B j l n o p r s t u C E F f g h) Z5) (V (iN P) (V (iN Z4) (V (iN Z0) (V (iN ah) (V (iN ay) (V (iN aB) (V (iN aC) (V (iN aF) (V (iN aJ) (V (iN aL) (V (iN aO) (V (iN aT) (V (iN aY) (V (iN aZ) (ip bv))))))))))))))))⟩) (by show X d.a.a - (b+1) < X d.a.a - b; omega)
 refine jF (dF bv) (sr (Kz (Za (y=15)) (An Z ?_)))
 by_cases bC:y=15
 refine jT (dT bC) (JW (Kz (vP aD 14) (cu [.int .u64 0] 14 (Z6.pf [1]) I3 ?_)))
 intro _ gD
 refine G2 (bN (bN (JY (JW (fw (vJ (b+1)) (J4 (e:=D3.wrap ((b:Int)+1)) yk f4) (Mz Z (G2 ?_)))))))
 exact Kb (b+1,z,B,j,l,n,o,p,r,s,t,0,C,E,F,Z8,R,f,Z1,S,Z7,g,Z2,Z3,h) ⟨Z,Z,Z,Z,Z,ZV⟩ (I.2 ⟨(gD.pf [1]),by exact K,by exact G,by exact J,by exact L,U,U,U,U,U,U,U,U,U,U,V (M) (V (ZX (λ q=>dh a d q z B j l n o p r s t u C E F f g h) Z5) (V (iN P) (V (iN Z4) (V (iN Z0) (V (iN ah) (V (iN ay) (V (iN aB) (V (iN aC) (V (iN aF) (V (iN aJ) (V (iN aL) (V (iN aO) (V (iN aT) (V (iN aY) (V (iN aZ) (V (iN bv) (ip bC)))))))))))))))))⟩) (by show X d.a.a - (b+1) < X d.a.a - b; omega)
 refine jF (dF bC) (Ko (bN (bN (JY (JW (fw (vJ (b+1)) (J4 (e:=D3.wrap ((b:Int)+1)) yk f4) (Mz Z (G2 ?_))))))))
 exact Kb (b+1,z,B,j,l,n,o,p,r,s,t,u,C,E,F,Z8,R,f,Z1,S,Z7,g,Z2,Z3,h) ⟨Z,Z,Z,Z,Z,ZV⟩ (I.2 ⟨(Z6.pf []),by exact K,by exact G,by exact J,by exact L,U,U,U,U,U,U,U,U,U,U,V (M) (V (ZX (λ q=>dh a d q z B j l n o p r s t u C E F f g h) Z5) (V (iN P) (V (iN Z4) (V (iN Z0) (V (iN ah) (V (iN ay) (V (iN aB) (V (iN aC) (V (iN aF) (V (iN aJ) (V (iN aL) (V (iN aO) (V (iN aT) (V (iN aY) (V (iN aZ) (V (iN bv) (iN bC)))))))))))))))))⟩) (by show X d.a.a - (b+1) < X d.a.a - b; omega)
 refine jF (dF cO) (Wp.exit (Ka ?_))
 have aP:dh a d d.a.a a.F a.I a.G a.y a.r a.t a.u a.z a.k a.s a.C a.H a.j.a a.j.b a.a.a a.B.a a.b.a=(z,B,j,l,n,o,p,r,s,t,u,C,E,F,f,g,h):=V (M) (V (ZX (λ q=>dh a d q z B j l n o p r s t u C E F f g h) (eU (ls:=d.a.a) (i:=b) U)) Z)
 refine Ka (Kh (JY (sr (La (fT a.g a.D a.E a.J z B j l n o p r s t u C E F Z8 (X f) R Z1 (X g) S Z2 (X h) Z3) Z6 1 I0 I2 (cu (fT a.g a.D a.E a.J z B j l n o p r s t u C E F Z8 (X f) R Z1 (X g) S Z2 (X h) Z3) 0 Z6 I2 ?_)))))
 intro _ cZ
 refine nt (rt (Ke (qg Z Z (J7 (cs:=(fT a.g a.D a.E a.J z B j l n o p r s t u C E F Z8 (X f) R Z1 (X g) S Z2 (X h) Z3)) I0 I2 ((cZ.cls (i:=0) Z).lit (k:=0) (m:=21) Z))) ?_))
 obtain⟨bD,aM⟩:∃ q,wC (cz.q a.g a.D a.E a.J z B j l n o p r s t u C (ai.q E F) (N f) (N g) (N h))=q:=⟨_,Z⟩
 obtain⟨_,dz,bq,dB,_⟩:=JZ cZ
 refine oI (cn aA) Tryz.call46 (Br _ _ (cz.q a.g a.D a.E a.J z B j l n o p r s t u C (ai.q E F) (N f) (N g) (N h)) Z8 (X f) R Z1 (X g) S Z7 Z2 (X h) Z3 bD dz Z (λ w9 h9=>jS.rds aV.len f7 K ((bq _ bJ) w9 h9)) U J Z (λ w9 h9=>BR (bf J) (jS.rds aQ.len f7 G (BR (bf bg).symm ((bq _ bK) w9 h9)))) U (λ x9 h9=>⟨bq _ ((λ x9 h9=>bi x9 (Mf G h9)) x9 h9).1,((λ x9 h9=>bi x9 (Mf G h9)) x9 h9).2⟩) Z (λ w9 h9=>jS.rds bF.len f7 L ((bq _ bL) w9 h9)) U g6 aM) ?_
 rintro _ _ ⟨rfl,dC⟩
 have bE:=dB _ _ dC
 refine Gz (Y (!bD)) (cn aA) (fw (Y (!bD)) (JU Z (cn aA) Z) (Mz Z ?_))
 rcases Nv (bD) with Q | Q
 refine Ga (jP a ak aa au af av ag) (cn Q) bE 4 I0 I2 (Gz (vP bz 2) (cn Q) (Gl (T aX (X d.a.a) bn) (cn Q) bE 2 Tryz.isAgg119 ?_))
 obtain⟨bG,aR⟩:∃ q,qY a d.a.a=q:=⟨_,Z⟩
 obtain⟨_,dD,bu,dE,dG⟩:=JZ bE
 refine oI (cn Q) Tryz.call48 (Am _ _ a ak (X a.a.a) aa au (X a.B.a) af aI av (X a.b.a) ag aX (X d.a.a) bn d.a.a bG dD Z (bu _ bJ) U bg Z (bu _ bK) U (λ x9 h9=>⟨bu _ (bi x9 h9).1,(bi x9 h9).2⟩) Z (bu _ bL) U (dG _ 3 _ Z bB) Z U g6 aR) ?_
 rintro _ _ ⟨rfl,dH⟩
 have df:=dE _ _ dH
 refine Gz (Y (!bG)) (cn Q) (fw (Y (!bG)) (JU Z (cn Q) Z) (nt ?_))
 rcases Nv (bG) with aU | aU
 refine jF (cn aU) (sk (JS (JS ?_)))
 have aW:=df.pk [2,3,4]
 refine JW (Kz (vP bz 0) (Lz (vI d.g) aW 0 H4 (Kz (Za (d.g=1)) (Mz Z ?_))))
 by_cases aH:d.g=1
 refine Gz (vP bz 1) (dT aH) (Gl (vI d.b) (dT aH) aW 0 H4 (Gz (Za (d.b=1)) (dT aH) (fw (Za (d.b=1)) (JX Z (dT aH) Z) (Mz Z ?_))))
 by_cases az:d.b=1
 refine Gz (vP bI 1) (dT az) (Gl (vI a.D) (dT az) aW 2 B8 (Gz (vP bI 2) (dT az) (Gl (vI a.E) (dT az) aW 2 B8 (Gz (Za (a.D=a.E)) (dT az) (fw (Za (a.D=a.E)) (JX Z (dT az) Z) (nt ?_))))))
 by_cases bH:a.D=a.E
 refine jT (dT bH) (JS (JW (An Z (rt (tR (rs ?_))))))
 have gJ:=(aW.pk []).pk []
 obtain rfl:=zj hr zq14
 exact⟨Z,gJ⟩
 refine jF (dF bH) (sk (JS (JW (An Z (rt (rs ?_))))))
 have gM:=(aW.pk []).pk []
 obtain rfl:=zj hr zq14
 exact⟨Z,gM⟩
 refine Sz (dF az) (Sz (dF az) (Sz (dF az) (Sz (dF az) (Sz (dF az) (fw (Y O) (JU Z (dF az) Z) (nt (jf (sk (JS (JW (An Z (rt (rs ?_)))))))))))))
 have gP:=(aW.pk []).pk []
 obtain rfl:=zj hr zq13
 exact⟨Z,gP⟩
 refine Sz (dF aH) (Sz (dF aH) (Sz (dF aH) (fw (Y O) (JU Z (dF aH) Z) (Mz Z (QQ (QQ (QQ (QQ (QQ (fw (Y O) (QK Z) (nt (jf (sk (JS (JW (An Z (rt (rs ?_))))))))))))))))))
 have gT:=(aW.pk []).pk []
 obtain rfl:=zj hr zq12
 exact⟨Z,gT⟩
 refine jT (cn aU) (JS (JW (An Z (rt (tR (rs ?_))))))
 have gV:=(df.pk [2,3,4]).pk []
 obtain rfl:=zj hr zq11
 exact⟨Z,gV⟩
 refine Sz (cn Q) (Sz (cn Q) (Sz (cn Q) (Sz (cn Q) (Sz (cn Q) (fw (Y Zj) (JX Z (cn Q) Z) (nt (jt (JS (JW (An Z (rt (tR (rs ?_)))))))))))))
 have gX:=(bE.pk [2,3,4]).pk []
 obtain rfl:=zj hr zq9
 exact⟨Z,gX⟩
 refine Sz (cn aA) (Sz (cn aA) (Sz (cn aA) (Sz (cn aA) (Sz (cn aA) (Sz (cn aA) (fw (Y Zj) (JX Z (cn aA) Z) (Mz Z (QQ (QQ (QQ (QQ (QQ (fw (Y Zj) (QJ Z) (nt (jt (sr (An Z (rt (tR (rs ?_))))))))))))))))))))
 obtain rfl:=zj hr zq6
 exact⟨Z,(bU.pk [])⟩
 refine Sz (cn ax) (Sz (cn ax) (Sz (cn ax) (Sz (cn ax) (Sz (cn ax) (Sz (cn ax) (fw (Y Zj) (JX Z (cn ax) Z) (Mz Z (QQ (QQ (QQ (QQ (QQ (QQ (fw (Y Zj) (QJ Z) (Mz Z (QQ (QQ (QQ (QQ (QQ (fw (Y Zj) (QJ Z) (nt (jt (sr (An Z (rt (tR (rs ?_))))))))))))))))))))))))))))
 obtain rfl:=zj hr zq4
 exact⟨Z,(bS.pk [])⟩
 refine Sz (cn aj) (Sz (cn aj) (Sz (cn aj) (Sz (cn aj) (Sz (cn aj) (Sz (cn aj) (fw (Y Zj) (JX Z (cn aj) Z) (Mz Z (QQ (QQ (QQ (QQ (QQ (QQ (fw (Y Zj) (QJ Z) (Mz Z (QQ (QQ (QQ (QQ (QQ (QQ (fw (Y Zj) (QJ Z) (Mz Z (QQ (QQ (QQ (QQ (QQ (fw (Y Zj) (QJ Z) (nt (jt (sr (An Z (rt (tR (rs ?_))))))))))))))))))))))))))))))))))))
 obtain rfl:=zj hr zq2
 exact⟨Z,(bQ.pk [])⟩
end
section
open Go.RowKit
def pK (c:List bF) (d:Int):ai:=
 bnd (List.getD c (W d) Zy) λ a=>if d+1 < ((X c:Nat):Int) then bnd (List.getD c (W (d+1)) Zy) λ b=>ai.q a.a b.a else ai.q a.a []
theorem uM (w D h s E j b) (C:ai) (H:Own w D w []) (c:Ro w D λ w'=>bV w' 2 h s (Zg bF.L j)) (t:s=X j) (F:X j *24<=211106232532992) (G:0<=b/\b < ((X j:Nat):Int)) (hr:pK j b=C):
    Calls y3 146 #[T h s E,vI b] w (dI λ v w'=>v= Zq (Zb (ai.L C))/\Own w D w' []):=by
 unfold pK at hr
 subst t
 refine cb Tryz.func146 ?_
 refine sr ?_
 refine cB [Z9 ⟨Zb []⟩, Z9 ⟨Zb []⟩] 38 H ?_
 intro I J l
 refine ns (Mz Z (fw (vJ (W b)) (J4 (e:=b) (J3 Z) U) ?_))
 obtain⟨a,g⟩:=dM (ls:=j) (i:=W b) bF.len f7 (l.ro c) f5
 refine fw (Zz (Zv ⟨ab h,ao h+(W b) *2,Zk⟩)) (J9 (r9) Z Z ((l.ro c).addr (i:=W b) U) U) (Kz (Zz (Zv ⟨ab h,ao h+(W b) *2,Zk⟩)) (fw (Z9 ⟨Zb a.a⟩) (J5 Z (bO.one B9 (((l.ro c).elem bF.len g f7).at_ (k:=0) Z))) (Kz (Zq #[Z9 ⟨Zb a.a⟩, Z9 ⟨Zb []⟩]) (cB [Z9 ⟨Zb []⟩, Z9 ⟨Zb []⟩] 38 l ?_))))
 intro u K x
 refine cu [Z9 ⟨Zb a.a⟩, Z9 ⟨Zb []⟩] 0 x C5 ?_
 intro L d
 refine nt (JS (sr (Mz Z (fw (vI (b+1)) (J4 (e:=D3.wrap (b+1)) yk i7) (Mz Z (Kz (vJ (X j)) (Kz (Za (b+1 < (X j:Int))) (nt ?_))))))))
 by_cases n:b+1 < (X j:Int)
 refine jT (dT n) (JW (Mz Z (Mz Z (fw (vJ (W (b+1))) (J4 (e:=D3.wrap (b+1)) yk f4) ?_))))
 obtain⟨f,o⟩:=dM (ls:=j) (i:=W (b+1)) bF.len f7 (d.ro c) f5
 refine fw (Zz (Zv ⟨ab h,ao h+(W (b+1)) *2,Zk⟩)) (J9 (r9) Z Z ((d.ro c).addr (i:=W (b+1)) U) U) (Kz (Zz (Zv ⟨ab h,ao h+(W (b+1)) *2,Zk⟩)) (fw (Z9 ⟨Zb f.a⟩) (J5 Z (bO.one B9 (((d.ro c).elem bF.len o f7).at_ (k:=0) Z))) (Kz (vP u 1) (cu [Z9 ⟨Zb f.a⟩] 1 d Tryz.sizeOf9 ?_))))
 intro M p
 refine ns (La ([Z9 ⟨Zb a.a⟩, Z9 ⟨Zb f.a⟩]) p 0 C6 C5 (cu [Z9 ⟨Zb a.a⟩, Z9 ⟨Zb f.a⟩] 0 (p.pb [0]) C5 ?_))
 intro _ q
 refine nt (rt (Ke (qg Z Z (J7 (cs:= [Z9 ⟨Zb a.a⟩, Z9 ⟨Zb f.a⟩]) C6 C5 ((q.cls (i:=0) Z).lit (k:=0) (m:=2) Z))) ?_))
 obtain rfl:=zj hr zq3
 exact⟨Z,(q.pk [])⟩
 refine jF (dF n) (sk (sr (La ([Z9 ⟨Zb a.a⟩, Z9 ⟨Zb []⟩]) d 0 C6 C5 (cu [Z9 ⟨Zb a.a⟩, Z9 ⟨Zb []⟩] 0 (d.pb [0]) C5 ?_))))
 intro _ r
 refine nt (rt (Ke (qg Z Z (J7 (cs:= [Z9 ⟨Zb a.a⟩, Z9 ⟨Zb []⟩]) C6 C5 ((r.cls (i:=0) Z).lit (k:=0) (m:=2) Z))) ?_))
 obtain rfl:=zj hr zq2
 exact⟨Z,(r.pk [])⟩
def pM (a:List UInt8) (b:List UInt8):(List UInt8):=
 if a=[] then b else if b≠[] then if b < a then b else a else a
theorem yT (w D d c k) (H:Own w D w []) (hr:pM d c=k):
    Calls y3 192 #[Z9 ⟨Zb d⟩, Z9 ⟨Zb c⟩] w (dI λ v w'=>v= Z9 ⟨Zb k⟩/\Own w D w' []):=by
 unfold pM at hr
 refine cb Tryz.func192 ?_
 refine sr (An Z (JS (sr (Mz Z (fw (Za (d=[])) (Lb Z Z) (Mz Z ?_))))))
 by_cases a:d=[]
 refine Sz (dT a) (Sz (dT a) (Sz (dT a) (QW (QW (QW (Sz (dT a) (fw (Y Zj) (JX Z (dT a) Z) (nt (jt (sr (Mz Z (An Z (rt (tR (rs ?_)))))))))))))))
 obtain rfl:=zj hr zq1
 exact⟨Z,(H.pk [])⟩
 refine gw (Z9 ⟨Zb c⟩) (dF a) (J3 Z) (gw (Za (c≠[])) (dF a) (KH Z Z) (gw (Za (c≠[])) (dF a) (J3 Z) ?_))
 by_cases b:c≠[]
 refine gw (Z9 ⟨Zb c⟩) (dT b) (J3 Z) (gw (Z9 ⟨Zb d⟩) (dT b) (J3 Z) (gw (Za (c < d)) (dT b) (Kc (e:=Op.bytesLess c d) (LQ Z Z) (zq _ _)) (gw (Za (c < d)) (dF a) (JX Z (dT b) Z) (fw (Za (c < d)) (JU Z (dF a) Z) (nt ?_)))))
 by_cases f:c < d
 refine jT (dT f) (sr (Mz Z (An Z (rt (tR (rs ?_))))))
 obtain rfl:=zj hr zq3
 exact⟨Z,(H.pk [])⟩
 refine jF (dF f) (sk (sr (Mz Z (An Z (rt (rs ?_))))))
 obtain rfl:=zj hr zq3
 exact⟨Z,(H.pk [])⟩
 refine Sz (dF b) (Sz (dF b) (Sz (dF b) (gw (Y O) (dF a) (JU Z (dF b) Z) (fw (Y O) (JU Z (dF a) Z) (nt (jf (sk (sr (Mz Z (An Z (rt (rs ?_))))))))))))
 obtain rfl:=zj hr zq2
 exact⟨Z,(H.pk [])⟩
def sD (b:List UInt8) (a:List UInt8):Bool:=
 if a=[] then Zj else Zw (b < a)
theorem Bt (w D c b g) (H:Own w D w []) (hr:sD c b=g):
    Calls y3 193 #[Z9 ⟨Zb c⟩, Z9 ⟨Zb b⟩] w (dI λ v w'=>v= Y g/\Own w D w' []):=by
 unfold sD at hr
 refine cb Tryz.func193 ?_
 refine sr (Ar Z (Mz Z (fw (Za (b=[])) (Lb Z Z) (Mz Z ?_))))
 by_cases a:b=[]
 refine Sz (dT a) (Sz (dT a) (Sz (dT a) (fw (Y Zj) (JX Z (dT a) Z) (An Z (rt (rs ?_))))))
 obtain rfl:=zj hr zq1
 exact⟨Z,(H.pk [])⟩
 refine gw (Z9 ⟨Zb c⟩) (dF a) (J3 Z) (gw (Z9 ⟨Zb b⟩) (dF a) (J3 Z) (gw (Za (c < b)) (dF a) (Kc (e:=Op.bytesLess c b) (LQ Z Z) (zq _ _)) (fw (Za (c < b)) (JU Z (dF a) Z) (An Z (rt (rs ?_))))))
 obtain rfl:=zj hr zq1
 exact⟨Z,(H.pk [])⟩
def iZ (e:ai) (f:ai):ai × Bool:=
 bnd (dP e) λ b=>if b=0 then bnd (dP f) λ c=>if c=0 then bnd (pM e.b f.b) λ a=>bnd (sD (qh e.a f.a) a) λ d=>if d=Zj then(ai.q (qh e.a f.a) a,Zj) else(ai.q [] [],O) else(ai.q [] [],O) else(ai.q [] [],O)
theorem nP (w D) (d:ai) (c:ai) (r0:ai) (r1) (H:Own w D w []) (hr:iZ d c=(r0,r1)):
    Calls y3 151 #[Zq (Zb (ai.L d)), Zq (Zb (ai.L c))] w (dI λ v w'=>v= .tuple #[Zq (Zb (ai.L r0)), Y r1]/\Own w D w' []):=by
 unfold iZ at hr
 refine cb Tryz.func151 ?_
 refine sr ?_
 refine cB (ai.L d) 38 H ?_
 intro B _ Z0
 refine cB (ai.L c) 38 Z0 ?_
 intro C _ aa
 refine cB [Z9 ⟨Zb []⟩, Z9 ⟨Zb []⟩] 38 aa ?_
 intro _ _ E
 refine An Z (JS (sr (La (ai.L d) E 2 C6 C5 ?_)))
 obtain⟨s,f⟩:∃ q,dP d=q:=⟨_,Z⟩
 obtain⟨_,F,_,G,_⟩:=JZ E
 refine cl Tryz.call64 (jK _ _ d s F f) ?_
 rintro _ _ ⟨rfl,I⟩
 have x:=G _ _ I
 refine fw (Za (¬ (s=0))) (Kc (e:= !(Zw (s=0))) yk ZW) (Mz Z ?_)
 by_cases a:s=0
 refine gw (Zq (Zb (ai.L c))) (dF (Nu a)) (J5 Z (J7 (cs:=(ai.L c)) C6 C5 ((x.cls (i:=1) Z).lit (k:=0) (m:=2) Z))) ?_
 obtain⟨h,g⟩:∃ q,dP c=q:=⟨_,Z⟩
 obtain⟨_,J,_,K,_⟩:=JZ x
 refine oI (dF (Nu a)) Tryz.call64 (jK _ _ c h J g) ?_
 rintro _ _ ⟨rfl,L⟩
 have M:=K _ _ L
 refine gw (Za (¬ (h=0))) (dF (Nu a)) (Kc (e:= !(Zw (h=0))) yk ZW) (fw (Za (¬ (h=0))) (JU Z (dF (Nu a)) Z) (nt ?_))
 by_cases j:h=0
 refine jF (dF (Nu j)) (sk (JS (yH [] (J6 Kg) M ?_)))
 intro _ af
 refine qp B 0 0 Z (ql 1 Z 2 B9 Z Z Z (qp C 0 2 Z (ql 3 Z 1 B9 Z Z Z (qt (v:= Z9 ⟨Zb (qh d.a c.a)⟩) 4 Z (λ _ _=>MB Z) (qp B 1 5 Z (ql 6 Z 2 B9 Z Z Z (qp C 1 7 Z (ql 8 Z 1 B9 Z Z Z ?_))))))))
 obtain⟨b,l⟩:∃ q,pM d.b c.b=q:=⟨_,Z⟩
 refine Ja ⟨9,_,_,_,_,_,Unit,λ Z5=> Z9 ⟨Zb b⟩,λ _=>True,λ Z5=> []⟩ ⟨11,_,_,_,_,_,Nat,λ Z5=>vP Z5 0,λ _=>True,λ Z5=> [blk Z5 [Z9 ⟨Zb []⟩, Z9 ⟨Zb []⟩] 38]⟩ 10 3 af ⟨⟨Z,Z,Z, ?_⟩,⟨Z,Z,Z, ?_⟩,ZV⟩ Z ?_
 intro _ L' ag
 refine(Mm (cs:= [Z9 ⟨Zb []⟩, Z9 ⟨Zb []⟩]) (t:=38) ag Z Z ZY ?_)
 intro n _ ah
 exact⟨n,Z,ZV,ah⟩
 intro _ L' aj
 obtain⟨_,Z6,_,P,_⟩:=JZ aj
 refine(Ki Tryz.call192 Z (yT _ _ d.b c.b b Z6 l) ?_)
 rintro _ _ ⟨rfl,Q⟩
 exact⟨(),Z,ZV,(P _ _ Q)⟩
 rintro ⟨⟩ _
 refine⟨Zq #[Z9 ⟨Zb (qh d.a c.a)⟩, Z9 ⟨Zb b⟩],λ _=>yk, ?_⟩
 rintro n _
 intro au av
 have ay:=(av.flat.pf []).pb [0]
 have az:=ay.pf [3]
 refine qe 12 Z (Do.store (vs:= [Z9 ⟨Zb (qh d.a c.a)⟩, Z9 ⟨Zb b⟩]) (o:=0) az Z Z C5 Z Z Z Z ?_)
 intro _ aA
 have R:=aA.pb [0]
 refine⟨.inr ⟨_,R⟩, (qn (JY (JS (JS ?_))))⟩
 have y:=R.pk [0,3]
 refine JW (Kz (vP n 0) (Lz (Z9 ⟨Zb (qh d.a c.a)⟩) y 1 B9 (Kz (vP n 1) (Lz (Z9 ⟨Zb b⟩) y 1 B9 ?_))))
 obtain⟨z,p⟩:∃ q,sD (qh d.a c.a) b=q:=⟨_,Z⟩
 obtain⟨_,S,_,Z7,_⟩:=JZ y
 refine cl Tryz.call193 (Bt _ _ (qh d.a c.a) b z S p) ?_
 rintro _ _ ⟨rfl,Z3⟩
 have A:=Z7 _ _ Z3
 refine Kz (Y (!z)) (nt ?_)
 rcases Nv (z) with r | r
 refine jF (cn r) (sk (sr (La ([Z9 ⟨Zb (qh d.a c.a)⟩, Z9 ⟨Zb b⟩]) A 1 C6 C5 (cu [Z9 ⟨Zb (qh d.a c.a)⟩, Z9 ⟨Zb b⟩] 0 A C5 ?_))))
 intro _ Z4
 refine An Z (rt (Ke (fQ (vs:= [Zq #[Z9 ⟨Zb (qh d.a c.a)⟩, Z9 ⟨Zb b⟩], Y Zj]) Z (bS.cell Z (J7 (cs:= [Z9 ⟨Zb (qh d.a c.a)⟩, Z9 ⟨Zb b⟩]) C6 C5 ((Z4.cls (i:=0) Z).lit (k:=0) (m:=2) Z)) (bS.tmp Z bS.nil)) (Nr Z)) ?_))
 obtain⟨rfl,rfl⟩:=fI (zj hr zq7)
 exact⟨Z,(Z4.pk [])⟩
 refine jT (cn r) (sr (Kz (Zq #[Z9 ⟨Zb []⟩, Z9 ⟨Zb []⟩]) (cu [Z9 ⟨Zb []⟩, Z9 ⟨Zb []⟩] 0 A C5 ?_)))
 intro _ Z8
 refine An Z (rt (tR (Ke (fQ (vs:= [Zq #[Z9 ⟨Zb []⟩, Z9 ⟨Zb []⟩], Y O]) Z (bS.cell Z (J7 (cs:= [Z9 ⟨Zb []⟩, Z9 ⟨Zb []⟩]) C6 C5 ((Z8.cls (i:=0) Z).lit (k:=0) (m:=2) Z)) (bS.tmp Z bS.nil)) (Nr Z)) ?_)))
 obtain⟨rfl,rfl⟩:=fI (zj hr zq7)
 exact⟨Z,(Z8.pk [])⟩
 refine jT (dT j) (sr (Kz (Zq #[Z9 ⟨Zb []⟩, Z9 ⟨Zb []⟩]) (cu [Z9 ⟨Zb []⟩, Z9 ⟨Zb []⟩] 0 M C5 ?_)))
 intro _ Z1
 refine An Z (rt (tR (Ke (fQ (vs:= [Zq #[Z9 ⟨Zb []⟩, Z9 ⟨Zb []⟩], Y O]) Z (bS.cell Z (J7 (cs:= [Z9 ⟨Zb []⟩, Z9 ⟨Zb []⟩]) C6 C5 ((Z1.cls (i:=0) Z).lit (k:=0) (m:=2) Z)) (bS.tmp Z bS.nil)) (Nr Z)) ?_)))
 obtain⟨rfl,rfl⟩:=fI (zj hr zq4)
 exact⟨Z,(Z1.pk [])⟩
 refine Sz (dT a) (Sz (dT a) (Sz (dT a) (fw (Y Zj) (JX Z (dT a) Z) (nt (jt (sr (Kz (Zq #[Z9 ⟨Zb []⟩, Z9 ⟨Zb []⟩]) (cu [Z9 ⟨Zb []⟩, Z9 ⟨Zb []⟩] 0 x C5 ?_))))))))
 intro _ u
 refine An Z (rt (tR (Ke (fQ (vs:= [Zq #[Z9 ⟨Zb []⟩, Z9 ⟨Zb []⟩], Y O]) Z (bS.cell Z (J7 (cs:= [Z9 ⟨Zb []⟩, Z9 ⟨Zb []⟩]) C6 C5 ((u.cls (i:=0) Z).lit (k:=0) (m:=2) Z)) (bS.tmp Z bS.nil)) (Nr Z)) ?_)))
 obtain⟨rfl,rfl⟩:=fI (zj hr zq2)
 exact⟨Z,(u.pk [])⟩
def oq (c:ai) (b:ai):Bool:=
 bnd (iZ c b) λ a=>if a.2=Zj then Zw ((a.1.a=b.a)/\(a.1.b=b.b)) else O
theorem tH (w D) (h:ai) (c:ai) (s) (H:Own w D w []) (hr:oq h c=s):
    Calls y3 116 #[Zq (Zb (ai.L h)), Zq (Zb (ai.L c))] w (dI λ v w'=>v= Y s/\Own w D w' []):=by
 unfold oq at hr
 refine cb Tryz.func116 ?_
 refine sr ?_
 refine cB (ai.L h) 38 H ?_
 intro y z l
 refine cB (ai.L c) 38 l ?_
 intro A B f
 refine Ar Z (La (ai.L h) f 1 C6 C5 (La (ai.L c) f 0 C6 C5 ?_))
 obtain⟨⟨a,g⟩,d⟩:∃ q:ai × Bool,iZ h c=q:=⟨_,Z⟩
 obtain⟨C,i,t,j,x⟩:=JZ f
 refine cl Tryz.call151 (nP _ _ h c a g i d) ?_
 rintro _ E ⟨rfl,k⟩
 refine Mz Z (Kz (Zq (Zb (ai.L a))) (Kz (Y g) (cB [Z9 ⟨Zb []⟩, Z9 ⟨Zb []⟩] 38 (j _ _ k) ?_)))
 intro F G n
 refine cu (ai.L a) 0 n C5 ?_
 intro I o
 refine An Z (JS ?_)
 have e:=o.pk [0,1]
 refine JW (Mz Z (Mz Z ?_))
 rcases Nv (g) with b | b
 refine Ga (ai.L a) b e 0 C6 C5 (Ga (ai.L c) b e 1 C6 C5 (KC (v:= Za ((a.a=c.a)/\(a.b=c.b))) Z Z b Z (Me Z Z f1 Z (fK.struct Tryz.underlying38 f1 (KI (eH.cons (u:= Z9 ⟨Zb a.a⟩) (v:= Z9 ⟨Zb c.a⟩) f7 ZY ZY (fK.string B3) (eH.cons (u:= Z9 ⟨Zb a.b⟩) (v:= Z9 ⟨Zb c.b⟩) f7 ZY ZY (fK.string B3) (eH.nil.up (Nt _)))) ((ZX (Zw (a.a=c.a) && ·) jB).trans eT)))) (fw (Za ((a.a=c.a)/\(a.b=c.b))) (JX Z b Z) (An Z (rt (rs ?_))))))
 obtain rfl:=zj hr zq2
 exact⟨Z,(e.pk [])⟩
 refine Sz b (Sz b (Sz b (fw (Y O) (JU Z b Z) (An Z (rt (rs ?_))))))
 obtain rfl:=zj hr zq2
 exact⟨Z,(e.pk [])⟩
def lu (e:List bF) (f:Int) (g:ai):List bF->Nat->Unit ⊕ Bool
  | [],a=>Sum.inl ()
  | h::b,a=>if h.b=f then bnd (pK e ((a:Nat):Int)) λ c=>bnd (oq c g) λ d=>if d=Zj then Sum.inr (Zj) else lu e f g b (a+1) else lu e f g b (a+1)
def wD (b:List bF) (c:Int) (d:ai):Bool:=
 bnd (lq b) λ a=>if a=0 then lp (lu b c d b 0) λ _=>O else O
theorem Bu (w D l n0 G b j) (d:ai) (r0) (H:Own w D w []) (n:Ro w D λ w'=>bV w' 2 l n0 (Zg bF.L b)) (af:n0=X b) (aG:X b *24<=211106232532992) (hr:wD b j d=r0):
    Calls y3 90 #[T l n0 G,vI j, Zq (Zb (ai.L d))] w (dI λ v w'=>v= Y r0/\Own w D w' []):=by
 unfold wD at hr
 subst af
 refine cb Tryz.func90 ?_
 refine sr ?_
 refine cB (ai.L d) 38 H ?_
 intro z _ ag
 refine An Z (JS (sr (Mz Z ?_)))
 obtain⟨o,f⟩:∃ q,lq b=q:=⟨_,Z⟩
 obtain⟨_,I,J,K,_⟩:=JZ ag
 refine cl Tryz.call29 (qG _ _ l (X b) G b o I (J _ n) Z U f) ?_
 rintro _ _ ⟨rfl,L,x⟩
 have M:=K _ _ L
 replace x:=x
 refine fw (Za (¬ (o=0))) (Kc (e:= !(Zw (o=0))) yk ZW) (nt ?_)
 by_cases p:o=0
 refine jF (dF (Nu p)) (sk (JS (sr (Mz Z (Kz (vJ (X b)) (Mn Z (bo ?_)))))))
 obtain⟨aj,g⟩:=nI λ (a:Nat) w'=>Own w D w' [blk z (ai.L d) 38]/\a<=X b/\lu b j d b 0=lu b j d (Ze a b) a
 refine Wp.loop (λ i:Nat=> [(6, Y O),(13,vJ i),(12,vJ (X b)),(5,vP z 0),(0, T l (X b) G),(1,vI j)]) aj (λ i=>X b - i) 0 ⟨Z,Z,Z,Z,Z,Z,ZV⟩ (g.2 ⟨(M.pf []),U,Z⟩) ?_
 rintro a _ Z5
 obtain⟨A,_,h⟩:=g.1 Z5
 refine sr (Kz (Za ((a:Int) < (X b:Int))) (nt (JS ?_)))
 by_cases Z6:(a:Int) < (X b:Int)
 obtain⟨B,y⟩:=dM (ls:=b) (i:=a) bF.len f7 (A.ro n) f5
 have r:=drop_at y
 refine jT (dT Z6) (sk (JS (bo (sr (Mz Z (An Z (JS (DI [] (J6 (bJ.block (J6 (J6 (bJ.block (J6 Kg)))))) A ?_))))))))
 intro _ P
 refine qv 0 Z Z (qv 1 Z Z (qt (v:= Zz (Zv ⟨ab l,ao l+a *2,Zk⟩)) 2 Z (λ _ ⟨_,Q⟩=>J9 (r9) Z Z ((Q.ro n).addr (i:=a) U) U) (qk (Zz (Zv ⟨ab l,ao l+a *2+1,Zk⟩)) 3 Z (qt (v:=vI B.b) 4 Z (λ _ ⟨_,Q⟩=>J5 Z (bO.one Tryz.isAgg3 (((Q.ro n).elem bF.len y f7).at_ (k:=1) Z))) (qv 5 Z Z (qk (Za (B.b=j)) 6 Z (qv 7 Z Z ?_)))))))
 by_cases c:B.b=j
 refine J2 (v:= T l (X b) G) (rs:= []) 8 Z Z Z (dT c) f1 (λ _ _=>J3 Z) (J2 (v:=vJ a) (rs:= []) 9 Z Z Z (dT c) f1 (λ _ _=>J3 Z) (J2 (v:= Zq (Zb (ai.L d))) (rs:= []) 11 Z Z Z (dT c) f1 (λ _ ⟨_,Q⟩=>J5 Z (J7 (cs:=(ai.L d)) C6 C5 ((Q.cls (i:=0) Z).lit (k:=0) (m:=2) Z))) ?_))
 obtain⟨C,s⟩:∃ q,pK b (a:Int)=q:=⟨_,Z⟩
 obtain⟨_,R,S,Z7,_⟩:=JZ P
 refine KG 10 Z Z Z (dT c) f1 (Ki Tryz.call146 Z (uM _ _ l (X b) G b (a:Int) C R (S _ n) Z U U s) ?_)
 rintro _ _ ⟨rfl,Z3⟩
 have Z4:=Z7 _ _ Z3
 refine⟨.inr ⟨_,Z4⟩, ?_⟩
 obtain⟨E,t⟩:∃ q,oq C d=q:=⟨_,Z⟩
 obtain⟨_,Z8,_,Z1,_⟩:=JZ Z4
 refine KG 12 Z Z Z (dT c) f1 (Ki Tryz.call116 Z (tH _ _ C d E Z8 t) ?_)
 rintro _ _ ⟨rfl,Z2⟩
 have F:=Z1 _ _ Z2
 refine⟨.inr ⟨_,F⟩, (qt (v:= Y E) 13 Z (λ _ _=>JX Z (dT c) Z) (qn (JY ?_)))⟩
 rcases Nv (E) with u | u
 refine jT u (sr (An Z (rt (bR (tR (tR (bR (tR (rs ?_)))))))))
 obtain rfl:_=Zj:=zj hr (V (ae f) (V (ip p) (iX (V (h) (V (ZX (λ q=>lu b j d q a) r) (V (ip c) (V (ae s) (V (ae t) (ip u)))))))))
 exact⟨Z,(F.pk [])⟩
 refine jF u (Ko (bN (JY (JW (fw (vJ (a+1)) (J4 (e:=D3.wrap ((a:Int)+1)) yk f4) (Mz Z (WL.nil ?_)))))))
 exact Kb (a+1) ⟨Z,Z,Z,Z,Z,Z,ZV⟩ (g.2 ⟨(F.pf []),U,V (h) (V (ZX (λ q=>lu b j d q a) r) (V (ip c) (V (ae s) (V (ae t) (eD u)))))⟩) (by show X b - (a+1) < X b - a; omega)
 refine JV (rs:= []) 8 Z Z Z (dF c) f1 (JV (rs:= []) 9 Z Z Z (dF c) f1 (JV (rs:= []) 10 Z Z Z (dF c) f1 (JV (rs:= []) 11 Z Z Z (dF c) f1 (JV (rs:= []) 12 Z Z Z (dF c) f1 (qt (v:= Y O) 13 Z (λ _ _=>JU Z (dF c) Z) (qn (JY (jf (Ko (bN (JY (JW (fw (vJ (a+1)) (J4 (e:=D3.wrap ((a:Int)+1)) yk f4) (Mz Z (WL.nil ?_)))))))))))))))
 exact Kb (a+1) ⟨Z,Z,Z,Z,Z,Z,ZV⟩ (g.2 ⟨(P.pf []),U,V (h) (V (ZX (λ q=>lu b j d q a) r) (iN c))⟩) (by show X b - (a+1) < X b - a; omega)
 refine jF (dF Z6) (Wp.exit (Ka (Ka (Kh (JY (sr (An Z (rt (rs ?_)))))))))
 obtain rfl:_=O:=zj hr (V (ae f) (V (ip p) (kH (V (h) (V (ZX (λ q=>lu b j d q a) (eU (ls:=b) (i:=a) U)) Z)))))
 exact⟨Z,(A.pk [])⟩
 refine jT (dT p) (sr (An Z (rt (tR (rs ?_)))))
 obtain rfl:=zj hr zq2
 exact⟨Z,(M.pk [])⟩
end
open List renaming flatMap_append->u3,getD->J0,length_append->o3,length_cons->q6,length_nil->L0,take->u2
open _root_.Go.Proofs.Tryz renaming call100->K0,call108->K1,isAgg142->J1,underlying98->K2
section
open Go.RowKit
def mf (d:List UInt8):Nat->Int->Int
  | 0,a=>Zy
  | c+1,a=>if a >= 0 then bnd (J0 d (W a) Zy) λ b=>if((b.toNat:Nat):Int)=255 then mf d c (a - 1) else a else a
def qH (a:List UInt8):ai × Int:=
 bnd (dU a) λ b=>if b=0 then if((X a:Nat):Int) < 12 then(ai.q a (a++([0])),0) else bnd (bnd (mf a ((W (((X a - 1:Nat):Int)+1))+1) ((X a - 1:Nat):Int)) λ sLrbtfJjL=>sLrbtfJjL) λ sJrbtfJ=>if sJrbtfJ < 0 then(ai.q a [],0) else bnd (J0 a (W sJrbtfJ) Zy) λ c=>(ai.q a ((u2 (W sJrbtfJ) a)++([(c+(1:UInt8))])),0) else(ai.q [] [],b)
theorem Bv (w D a) (r0:ai) (r1) (H:Own w D w []) (hr:qH a=(r0,r1)):
    Calls y3 158 #[Z9 ⟨Zb a⟩] w (dI λ v w'=>v= .tuple #[Zq (Zb (ai.L r0)),vI r1]/\Own w D w' []):=by
 unfold qH at hr
 refine cb Tryz.func158 ?_
 refine sr ?_
 refine cB [Z9 ⟨Zb []⟩, Z9 ⟨Zb []⟩] 38 H ?_
 intro j _ Z2
 refine An Z (JS (sr (Mz Z ?_)))
 obtain⟨g,h⟩:∃ q,dU a=q:=⟨_,Z⟩
 obtain⟨_,Z6,_,P,_⟩:=JZ Z2
 refine cl Tryz.call61 (ky _ _ a g Z6 h) ?_
 rintro _ _ ⟨rfl,Q,F,G⟩
 have K:=P _ _ Q
 replace F:=F
 replace G:=G
 refine Ar Z (Mz Z (fw (Za (¬ (g=0))) (Kc (e:= !(Zw (g=0))) yk ZW) (nt ?_)))
 by_cases n:g=0
 refine jF (dF (Nu n)) (sk (JS (sr (Mz Z (Kz (vJ (X a)) (Kz (Za ((X a:Int) < 12)) (nt ?_)))))))
 by_cases p:(X a:Int) < 12
 refine jT (decide_eq_true p) (sr (Mz Z (Mz Z (fw (Z9 ⟨Zb (a++([0]))⟩) (Ls Z Z g8) (Kz (Zq #[Z9 ⟨Zb a⟩, Z9 ⟨Zb (a++([0]))⟩]) (cu [Z9 ⟨Zb a⟩, Z9 ⟨Zb (a++([0]))⟩] 0 K C5 ?_))))))
 intro _ R
 refine An Z (rt (tR (Ke (fQ (vs:= [Zq #[Z9 ⟨Zb a⟩, Z9 ⟨Zb (a++([0]))⟩],vI 0]) Z (bS.cell Z (J7 (cs:= [Z9 ⟨Zb a⟩, Z9 ⟨Zb (a++([0]))⟩]) C6 C5 ((R.cls (i:=0) Z).lit (k:=0) (m:=2) Z)) (bS.tmp Z bS.nil)) (Nr Z)) ?_)))
 obtain⟨rfl,rfl⟩:=fI (zj hr zq3)
 exact⟨Z,(R.pk [])⟩
 refine jF (dF p) (sk (sr (Mz Z (Kz (vJ (X a)) (fw (vJ (X a - 1)) (J4 (e:=D3.wrap ((X a:Int) - 1)) yk f4) (An Z (JS ?_)))))))
 obtain⟨aa,r⟩:=nI λ (b:Int) w'=>Own w D w' [blk j [Z9 ⟨Zb []⟩, Z9 ⟨Zb []⟩] 38]/\(-9223372036854775808<=b/\b<=9223372036854775807)/\b < X a/\(bnd (mf a ((W (((X a - 1:Nat):Int)+1))+1) ((X a - 1:Nat):Int)) λ sLrbtfJjL=>sLrbtfJjL)=b
 refine K5 (λ i:Int=> [(5,vI i),(3,vI 0),(2,vP j 0),(0, Z9 ⟨Zb a⟩)]) aa ?_ ?_
 refine bo ?_
 obtain⟨ag,s⟩:=IA λ (c:Int) (u:Nat) w'=>Own w D w' [blk j [Z9 ⟨Zb []⟩, Z9 ⟨Zb []⟩] 38]/\ -1<=c/\c < X a/\W (c+1) < u/\mf a ((W (((X a - 1:Nat):Int)+1))+1) ((X a - 1:Nat):Int)=mf a u c
 refine Wp.loop (λ i:Int × Nat=> [(5,vI i.1),(3,vI 0),(2,vP j 0),(0, Z9 ⟨Zb a⟩)]) ag (λ i=>i.2) (((X a - 1:Nat):Int),(W (((X a - 1:Nat):Int)+1))+1) ⟨Z,Z,Z,Z,ZV⟩ (s.2 ⟨(K.pf []),U,U,U,Z⟩) ?_
 rintro ⟨c,u⟩ _ S
 obtain⟨L,_,_,_,x⟩:=s.1 S
 obtain⟨M,Z7⟩:∃ q,u=q+1:=⟨u - 1,U⟩
 subst Z7
 refine JS (sr (Mz Z (Kz (Za (c >= 0)) (Mz Z ?_))))
 by_cases f:c >= 0
 refine gw (Z9 ⟨Zb a⟩) (dT f) (J3 Z) (gw (vJ (W c)) (dT f) (J4 (e:=c) (J3 Z) U) ?_)
 obtain⟨B,z⟩:=mK (ls:=a) (i:=W c) U
 refine gw (.int .u8 (B.toNat:Int)) (dT f) (Le B3 Z Z z) (Gz (Za ((B.toNat:Int)=255)) (dT f) (fw (Za ((B.toNat:Int)=255)) (JX Z (dT f) Z) (nt ?_)))
 by_cases C:(B.toNat:Int)=255
 exact jT (dT C) (sk (bo (JW (Mz Z (fw (vI (c - 1)) (J4 (e:=D3.wrap (c - 1)) yk i7) (Az Z (G2 (bN (Kb (c - 1,M) ⟨Z,Z,Z,Z,ZV⟩ (s.2 ⟨(L.pf []),U,U,U,V (x) (V (ip f) (V (ae (bG z)) (ip C)))⟩) (by show M < M+1; omega))))))))))
 exact jF (dF C) (H0 (Ka (Ka (Kh (KM c ⟨Z,Z,Z,Z,ZV⟩ (r.2 ⟨(L.pf []),U,U,ae (V (x) (V (ip f) (V (ae (bG z)) (iN C))))⟩))))))
 exact Sz (dF f) (Sz (dF f) (Sz (dF f) (Sz (dF f) (fw (Y O) (JU Z (dF f) Z) (nt (jf (H0 (Ka (Ka (Kh (KM c ⟨Z,Z,Z,Z,ZV⟩ (r.2 ⟨(L.pf []),U,U,ae (V (x) (iN f))⟩))))))))))))
 rintro b _ Z3
 obtain⟨Z4,_,_,I⟩:=r.1 Z3
 refine JS (sr (Mz Z (Kz (Za (b < 0)) (nt ?_))))
 by_cases E:b < 0
 refine jT (dT E) (sr (Mz Z (Kz (Zq #[Z9 ⟨Zb a⟩, Z9 ⟨Zb []⟩]) (cu [Z9 ⟨Zb a⟩, Z9 ⟨Zb []⟩] 0 Z4 C5 ?_))))
 intro _ Z8
 refine An Z (rt (tR (Ke (fQ (vs:= [Zq #[Z9 ⟨Zb a⟩, Z9 ⟨Zb []⟩],vI 0]) Z (bS.cell Z (J7 (cs:= [Z9 ⟨Zb a⟩, Z9 ⟨Zb []⟩]) C6 C5 ((Z8.cls (i:=0) Z).lit (k:=0) (m:=2) Z)) (bS.tmp Z bS.nil)) (Nr Z)) ?_)))
 obtain⟨rfl,rfl⟩:=fI (zj hr zq5)
 exact⟨Z,(Z8.pk [])⟩
 refine jF (dF E) (sk (JS (A8 [] (J6 Kg) Z4 ?_)))
 intro _ av
 refine qv 0 Z Z (qv 1 Z Z (qt (v:=vJ (W b)) 2 Z (λ _ _=>J4 (e:=b) (J3 Z) U) (qt (v:= Z9 ⟨Zb (u2 (W b) a)⟩) 3 Z (λ _ _=>Mc B3 Z Z g8) (qv 4 Z Z (qt (v:=vJ (W b)) 5 Z (λ _ _=>J4 (e:=b) (J3 Z) U) ?_)))))
 obtain⟨d,J⟩:=mK (ls:=a) (i:=W b) U
 refine qt (v:= .int .u8 (d.toNat:Int)) 6 Z (λ _ _=>Le B3 Z Z J) (qt (v:= .int .u8 (((d+(1:UInt8)).toNat:Nat):Int)) 7 Z (λ _ _=>J4 (e:=IntKind.u8.wrap ((d.toNat:Int)+1)) yk (EE d (1:UInt8))) (qd 8 Z (KF (cs:= [.int .u8 (((d+(1:UInt8)).toNat:Nat):Int)]) (t:=5) (sz:=1) (m:=1) av Z Z ZY Z f7 ?_)))
 intro ax _ A
 replace A:=Ku (y:=row ax 1 1 (q1 eB ([(d+(1:UInt8))])) 5 1) Z A
 refine⟨.inr ⟨_,A⟩, (Jr A (qt (v:= Z9 ⟨Zb ([(d+(1:UInt8))])⟩) 9 Z (λ _ ⟨_,H9⟩=>LH (l:= [(d+(1:UInt8))]) Tryz.underlying181 Tryz.underlying5 B3 (H9.rds (i:=0) Z) Z) (qt (v:= Z9 ⟨Zb ((u2 (W b) a)++([(d+(1:UInt8))]))⟩) 10 Z (λ _ _=>Ls Z Z g8) (qk (Zq #[Z9 ⟨Zb a⟩, Z9 ⟨Zb ((u2 (W b) a)++([(d+(1:UInt8))]))⟩]) 11 Z (qe 12 Z (Do.store (vs:= [Z9 ⟨Zb a⟩, Z9 ⟨Zb ((u2 (W b) a)++([(d+(1:UInt8))]))⟩]) (o:=0) (A.pb [0]) Z Z C5 Z Z Z Z ?_))))))⟩
 intro _ az
 have Z5:=az.pb [0]
 refine⟨.inr ⟨_,Z5⟩, (qa 13 Z Z (qn (JY (rt (Ke (fQ (vs:= [Zq #[Z9 ⟨Zb a⟩, Z9 ⟨Zb ((u2 (W b) a)++([(d+(1:UInt8))]))⟩],vI 0]) Z (bS.cell Z (J7 (cs:= [Z9 ⟨Zb a⟩, Z9 ⟨Zb ((u2 (W b) a)++([(d+(1:UInt8))]))⟩]) C6 C5 ((Z5.cls (i:=1) Z).lit (k:=0) (m:=2) Z)) (bS.tmp Z bS.nil)) (Nr Z)) ?_)))))⟩
 obtain⟨rfl,rfl⟩:=fI (zj hr zq6)
 exact⟨Z,(Z5.pk [])⟩
 refine jT (dT n) (sr (Kz (Zq #[Z9 ⟨Zb []⟩, Z9 ⟨Zb []⟩]) (Mz Z (cu [Z9 ⟨Zb []⟩, Z9 ⟨Zb []⟩] 0 K C5 ?_))))
 intro _ Z1
 refine An Z (rt (tR (Ke (fQ (vs:= [Zq #[Z9 ⟨Zb []⟩, Z9 ⟨Zb []⟩],vI g]) Z (bS.cell Z (J7 (cs:= [Z9 ⟨Zb []⟩, Z9 ⟨Zb []⟩]) C6 C5 ((Z1.cls (i:=0) Z).lit (k:=0) (m:=2) Z)) (bS.tmp Z bS.nil)) (Nr Z)) ?_)))
 obtain⟨rfl,rfl⟩:=fI (zj hr zq2)
 exact⟨Z,(Z1.pk [])⟩
def kz (b:aV):ai:=
 bnd (qH b.j) λ a=>a.1
theorem nY (w D) (c:aV) (x:ai) (H:Own w D w []) (hr:kz c=x):
    Calls y3 100 #[Zq (Zb (aV.L c))] w (dI λ v w'=>v= Zq (Zb (ai.L x))/\Own w D w' []):=by
 unfold kz at hr
 refine cb Tryz.func100 ?_
 refine sr ?_
 refine cB (aV.L c) 62 H ?_
 intro n A o
 refine cB [Z9 ⟨Zb []⟩, Z9 ⟨Zb []⟩] 38 o ?_
 intro B C d
 refine ns (Kz (vP n 1) (Lz (Z9 ⟨Zb c.j⟩) d 1 B9 ?_))
 obtain⟨⟨a,e⟩,b⟩:∃ q:ai × Int,qH c.j=q:=⟨_,Z⟩
 obtain⟨E,f,y,g,z⟩:=JZ d
 refine cl Tryz.call158 (Bv _ _ c.j a e f b) ?_
 rintro _ F ⟨rfl,h⟩
 refine Mz Z (Kz (Zq (Zb (ai.L a))) (Kz (vI e) (cB [Z9 ⟨Zb []⟩, Z9 ⟨Zb []⟩] 38 (g _ _ h) ?_)))
 intro G I r
 refine cu (ai.L a) 0 r C5 ?_
 intro J s
 refine An Z (JS ?_)
 have j:=s.pk [0,1]
 refine JW (La (ai.L a) j 0 C6 C5 (cu (ai.L a) 0 (j.pb [0]) C5 ?_))
 intro K l
 refine nt (rt (Ke (qg Z Z (J7 (cs:=(ai.L a)) C6 C5 ((l.cls (i:=0) Z).lit (k:=0) (m:=2) Z))) ?_))
 obtain rfl:=zj hr zq1
 exact⟨Z,(l.pk [])⟩
def tJ (a:aV):ai × Int:=
 bnd (eF a) λ b=>if b=0 then if a.g=1 then bnd (kz a) λ f=>(f,0) else if a.g=2 then bnd (kz a) λ g=>(g,0) else if a.g=3 then bnd (kz a) λ c=>(c,0) else if a.g=4 then bnd (gF a) λ d=>(d,0) else bnd (gF a) λ e=>(e,0) else(ai.q [] [],b)
theorem wE (w D) (a:aV) (r0:ai) (r1) (H:Own w D w []) (hr:tJ a=(r0,r1)):
    Calls y3 154 #[Zq (Zb (aV.L a))] w (dI λ v w'=>v= .tuple #[Zq (Zb (ai.L r0)),vI r1]/\Own w D w' []):=by
 unfold tJ at hr
 refine cb Tryz.func154 ?_
 refine sr ?_
 refine cB (aV.L a) 62 H ?_
 intro bz _ bA
 refine cB [Z9 ⟨Zb []⟩, Z9 ⟨Zb []⟩] 38 bA ?_
 intro _ _ aj
 refine An Z (JS (sr (La (aV.L a) aj 1 C1 C0 ?_)))
 obtain⟨h,b⟩:∃ q,eF a=q:=⟨_,Z⟩
 obtain⟨_,ak,_,au,_⟩:=JZ aj
 refine cl Tryz.call62 (rD _ _ a h ak b) ?_
 rintro _ _ ⟨rfl,av,B⟩
 have j:=au _ _ av
 replace B:=B
 refine Ar Z (Mz Z (fw (Za (¬ (h=0))) (Kc (e:= !(Zw (h=0))) yk ZW) (nt ?_)))
 by_cases c:h=0
 refine jF (dF (Nu c)) (sk (sr (Kz (vP bz 0) (Lz (vI a.g) j 1 Tryz.isAgg3 ?_))))
 by_cases l:a.g=1
 obtain⟨_,ax,_,ay,_⟩:=JZ j
 refine cl D0 (oJ _ _ a.g ax (of_decide_eq_true (dT l))) ?_
 rintro _ _ ⟨rfl,az⟩
 refine Mz Z (Kz (Zq o2k.toArray) (Kz (Y Zj) (cB [Y O, Zx, Zx, Zx, Zx] 144 (ay _ _ az) ?_)))
 intro bC _ bD
 refine cu o2k 0 bD B7 ?_
 intro _ K
 refine Ar Z (Kz (vP bC 3) (Lz (.func (.func 100) #[] #[]) K 0 J1 (La (aV.L a) K 2 C1 C0 ?_)))
 obtain⟨n,C⟩:∃ q,kz a=q:=⟨_,Z⟩
 obtain⟨_,aA,_,aB,_⟩:=JZ K
 refine WL.do Z (KA K0 Z Z (nY _ _ a n aA C) ?_)
 rintro _ _ ⟨rfl,aC⟩
 have bF:=(aB _ _ aC).pf [1]
 refine cu (ai.L n) 0 bF C5 ?_
 intro _ aD
 refine An Z (rt (Ke (fQ (vs:= [Zq (Zb (ai.L n)),vI 0]) Z (bS.cell Z (J7 (cs:=(ai.L n)) C6 C5 ((aD.cls (i:=0) Z).lit (k:=0) (m:=2) Z)) (bS.tmp Z bS.nil)) (Nr Z)) ?_))
 obtain⟨rfl,rfl⟩:=fI (zj hr zq4)
 exact⟨Z,(aD.pk [])⟩
 by_cases o:a.g=2
 obtain⟨_,aF,_,aG,_⟩:=JZ j
 refine cl D0 (oK _ _ a.g aF (of_decide_eq_true (dT o))) ?_
 rintro _ _ ⟨rfl,aH⟩
 refine Mz Z (Kz (Zq o3k.toArray) (Kz (Y Zj) (cB [Y O, Zx, Zx, Zx, Zx] 144 (aG _ _ aH) ?_)))
 intro bI _ bJ
 refine cu o3k 0 bJ B7 ?_
 intro _ L
 refine Ar Z (Kz (vP bI 3) (Lz (.func (.func 100) #[] #[]) L 0 J1 (La (aV.L a) L 2 C1 C0 ?_)))
 obtain⟨p,E⟩:∃ q,kz a=q:=⟨_,Z⟩
 obtain⟨_,aI,_,aJ,_⟩:=JZ L
 refine WL.do Z (KA K0 Z Z (nY _ _ a p aI E) ?_)
 rintro _ _ ⟨rfl,aK⟩
 have bL:=(aJ _ _ aK).pf [1]
 refine cu (ai.L p) 0 bL C5 ?_
 intro _ aL
 refine An Z (rt (Ke (fQ (vs:= [Zq (Zb (ai.L p)),vI 0]) Z (bS.cell Z (J7 (cs:=(ai.L p)) C6 C5 ((aL.cls (i:=0) Z).lit (k:=0) (m:=2) Z)) (bS.tmp Z bS.nil)) (Nr Z)) ?_))
 obtain⟨rfl,rfl⟩:=fI (zj hr zq5)
 exact⟨Z,(aL.pk [])⟩
 by_cases A:a.g=3
 obtain⟨_,aM,_,M,_⟩:=JZ j
 refine cl D0 (oL _ _ a.g aM (of_decide_eq_true (dT A))) ?_
 rintro _ _ ⟨rfl,Z5⟩
 refine Mz Z (Kz (Zq o4k.toArray) (Kz (Y Zj) (cB [Y O, Zx, Zx, Zx, Zx] 144 (M _ _ Z5) ?_)))
 intro aO _ aP
 refine cu o4k 0 aP B7 ?_
 intro _ r
 refine Ar Z (Kz (vP aO 3) (Lz (.func (.func 100) #[] #[]) r 0 J1 (La (aV.L a) r 2 C1 C0 ?_)))
 obtain⟨d,s⟩:∃ q,kz a=q:=⟨_,Z⟩
 obtain⟨_,Z6,_,P,_⟩:=JZ r
 refine WL.do Z (KA K0 Z Z (nY _ _ a d Z6 s) ?_)
 rintro _ _ ⟨rfl,Q⟩
 have aR:=(P _ _ Q).pf [1]
 refine cu (ai.L d) 0 aR C5 ?_
 intro _ F
 refine An Z (rt (Ke (fQ (vs:= [Zq (Zb (ai.L d)),vI 0]) Z (bS.cell Z (J7 (cs:=(ai.L d)) C6 C5 ((F.cls (i:=0) Z).lit (k:=0) (m:=2) Z)) (bS.tmp Z bS.nil)) (Nr Z)) ?_))
 obtain⟨rfl,rfl⟩:=fI (zj hr zq6)
 exact⟨Z,(F.pk [])⟩
 by_cases t:a.g=4
 obtain⟨_,R,_,S,_⟩:=JZ j
 refine cl D0 (oM _ _ a.g R (of_decide_eq_true (dT t))) ?_
 rintro _ _ ⟨rfl,Z7⟩
 refine Mz Z (Kz (Zq o5k.toArray) (Kz (Y Zj) (cB [Y O, Zx, Zx, Zx, Zx] 144 (S _ _ Z7) ?_)))
 intro aU _ aW
 refine cu o5k 0 aW B7 ?_
 intro _ u
 refine Ar Z (Kz (vP aU 3) (Lz (.func (.func 108) #[] #[]) u 0 J1 (La (aV.L a) u 2 C1 C0 ?_)))
 obtain⟨f,x⟩:∃ q,gF a=q:=⟨_,Z⟩
 obtain⟨_,Z3,_,Z4,_⟩:=JZ u
 refine WL.do Z (KA K1 Z Z (l6 _ _ a f Z3 x) ?_)
 rintro _ _ ⟨rfl,Z8⟩
 have aY:=(Z4 _ _ Z8).pf [1]
 refine cu (ai.L f) 0 aY C5 ?_
 intro _ G
 refine An Z (rt (Ke (fQ (vs:= [Zq (Zb (ai.L f)),vI 0]) Z (bS.cell Z (J7 (cs:=(ai.L f)) C6 C5 ((G.cls (i:=0) Z).lit (k:=0) (m:=2) Z)) (bS.tmp Z bS.nil)) (Nr Z)) ?_))
 obtain⟨rfl,rfl⟩:=fI (zj hr zq7)
 exact⟨Z,(G.pk [])⟩
 have Z1:(Zw (a.g=5))=Zj:=(dT U)
 obtain⟨_,Z2,_,Z0,_⟩:=JZ j
 refine cl D0 (oN _ _ a.g Z2 (of_decide_eq_true Z1)) ?_
 rintro _ _ ⟨rfl,aa⟩
 refine Mz Z (Kz (Zq o6k.toArray) (Kz (Y Zj) (cB [Y O, Zx, Zx, Zx, Zx] 144 (Z0 _ _ aa) ?_)))
 intro bg _ bi
 refine cu o6k 0 bi B7 ?_
 intro _ y
 refine Ar Z (Kz (vP bg 3) (Lz (.func (.func 108) #[] #[]) y 0 J1 (La (aV.L a) y 2 C1 C0 ?_)))
 obtain⟨g,z⟩:∃ q,gF a=q:=⟨_,Z⟩
 obtain⟨_,af,_,ag,_⟩:=JZ y
 refine WL.do Z (KA K1 Z Z (l6 _ _ a g af z) ?_)
 rintro _ _ ⟨rfl,ah⟩
 have bq:=(ag _ _ ah).pf [1]
 refine cu (ai.L g) 0 bq C5 ?_
 intro _ I
 refine An Z (rt (Ke (fQ (vs:= [Zq (Zb (ai.L g)),vI 0]) Z (bS.cell Z (J7 (cs:=(ai.L g)) C6 C5 ((I.cls (i:=0) Z).lit (k:=0) (m:=2) Z)) (bS.tmp Z bS.nil)) (Nr Z)) ?_))
 obtain⟨rfl,rfl⟩:=fI (zj hr zq7)
 exact⟨Z,(I.pk [])⟩
 refine jT (dT c) (sr (Kz (Zq #[Z9 ⟨Zb []⟩, Z9 ⟨Zb []⟩]) (Mz Z (cu [Z9 ⟨Zb []⟩, Z9 ⟨Zb []⟩] 0 j C5 ?_))))
 intro _ J
 refine An Z (rt (tR (Ke (fQ (vs:= [Zq #[Z9 ⟨Zb []⟩, Z9 ⟨Zb []⟩],vI h]) Z (bS.cell Z (J7 (cs:= [Z9 ⟨Zb []⟩, Z9 ⟨Zb []⟩]) C6 C5 ((J.cls (i:=0) Z).lit (k:=0) (m:=2) Z)) (bS.tmp Z bS.nil)) (Nr Z)) ?_)))
 obtain⟨rfl,rfl⟩:=fI (zj hr zq2)
 exact⟨Z,(J.pk [])⟩
theorem Cf {x:aV} (h:eF x=0):1<=x.g/\x.g<=5:=by
 unfold eF at h
 repeat' (split at h <;> first | omega | skip)
theorem yJ {l:List aV} (h:j4 l=0):∀ x ∈ l,eF x=0:=by
 have key:∀ l:List aV,lp (jO l) (λ _=>0)=0->∀ x ∈ l,eF x=0:=by
    intro l
    induction l with
    | nil=>intro _ x hx; cases hx
    | cons y q ih=>
      intro h x hx
      simp only [jO,bnd] at h
      by_cases e:eF y=0
      . rw [ip e] at h
        rcases List.mem_cons.1 hx with rfl | hx
        . exact e
        . exact ih h x hx
      . rw [iN e] at h
        exact absurd h e
 exact key l h
theorem DK {l:List aV} (h:j4 l=0) {i:Nat} {x:aV} (hx:l[i]? =Zv x):1<=x.g/\x.g<=5:=
 Cf (yJ h x (List.mem_of_getElem? hx))
theorem vE:Elem y3 98 115 3 40:=mV (z:= Zq #[Z9 ⟨Zb []⟩, Z9 ⟨Zb []⟩, Y O]) K2 f1 Z f7
structure aL where q::
 j:ai
 a:Bool
def aL.L (x:aL):List ZQ:= [Z9 ⟨Zb x.j.a⟩, Z9 ⟨Zb x.j.b⟩, Y x.a]
instance:Bk aL:=⟨λ x _=>bk x.j+(bk x.a+(0))⟩
theorem aL.len:∀ x,X (aL.L x)=3:=λ _=>rfl
theorem aL.one:∀ x, ∀ u ∈ aL.L x,u.oneCell'=Zj:=λ x u hu=>by
 simp only [aL.L,List.mem_cons,List.not_mem_nil,or_false] at hu
 rcases hu with rfl | rfl | rfl <;> rfl
def LF (w:ZZ) (x:aL):Prop:=(Lg w x.j)/\(True)
instance:Inhabited aL:=⟨⟨Zy,Zy⟩⟩
def gX:List aV->List aL->(List aL)
  | [],b=>b
  | a::c,b=>if a.g=1 then bnd (kz a) λ h=>gX c (b++ [(aL.q h O)]) else if a.g=2 then bnd (kz a) λ d=>gX c (b++ [(aL.q d Zj)]) else if a.g=3 then bnd (kz a) λ e=>gX c (b++ [(aL.q e Zj)]) else if a.g=4 then bnd (gF a) λ f=>gX c (b++ [(aL.q f O)]) else bnd (gF a) λ g=>gX c (b++ [(aL.q g Zj)])
def o9 (b:List aV):(List aL) × Int:=
 bnd (j4 b) λ a=>if a=0 then bnd (gX b []) λ sLrbtL=>(sLrbtL,0) else(([]:List aL),a)
theorem C9 (w D A0 n0 c0 d r0 r1) (H:Own w D w []) (Q:Ro w D λ w'=>bV w' 6 A0 n0 (q1 aV.L d)) (eG:n0=X d) (iX:X d *80<=211106232532992) (hr:o9 d=(r0,r1)):
    Calls y3 36 #[T A0 n0 c0] w (dI λ v w'=> ∃ B0 b0,v= .tuple #[T B0 (X r0) b0,vI r1]/\Own w D w' [row B0 (X r0) b0 (q1 aL.L r0) 115 3]):=by
 unfold o9 at hr
 subst eG
 refine cb Tryz.func36 ?_
 refine sr (Az Z (An Z (JS (sr (Mz Z ?_)))))
 obtain⟨B,u⟩:∃ q,j4 d=q:=⟨_,Z⟩
 obtain⟨_,bA,bB,bC,_⟩:=JZ H
 refine cl Tryz.call65 (su _ _ A0 (X d) c0 d B bA (bB _ Q) Z U u) ?_
 rintro _ bD ⟨rfl,bE⟩
 have bF:=bC _ _ bE
 refine Ar Z (Mz Z (fw (Za (¬ (B=0))) (Kc (e:= !(Zw (B=0))) yk ZW) (nt ?_)))
 by_cases R:B=0
 refine jF (dF (Nu R)) (sk (sr (An Z (JS (sr (Mz Z (Kz (vJ (X d)) (Mn Z (bo ?_)))))))))
 have eP:=(bF.free (bW 115 3)).pf []
 obtain⟨eQ,n⟩:=uG λ S (Z7:Nat) a (b:Nat) w'=>Own w D w' [row S (X a) Z7 (q1 aL.L a) 115 3]/\b<=X d/\X a=b/\X a<=b/\gX d []=gX (r8 b d) a
 refine Wp.loop (λ i:(Option Addr) × Nat × (List aL) × Nat=> [(5, T i.1 (X i.2.2.1) i.2.1),(17,vJ i.2.2.2),(16,vJ (X d)),(15, T A0 (X d) c0),(3,vI 0),(2, T Zk 0 0)]) eQ (λ i=>X d - i.2.2.2) (Zk,0, [],0) ⟨Z,Z,Z,Z,Z,Z,ZV⟩ (n.2 ⟨eP,(show 0<=X d/\0=0/\0<=0/\gX d []=gX (r8 0 d) [] from ⟨U,U,U,Z⟩)⟩) ?_
 rintro ⟨S,Z7,a,b⟩ _ bG
 obtain⟨C,_,_,_,p⟩:=n.1 bG
 refine sr (Kz (Za ((b:Int) < (X d:Int))) (nt (JS ?_)))
 by_cases bH:(b:Int) < (X d:Int)
 obtain⟨c,E⟩:=dM (ls:=d) (i:=b) aV.len f7 (C.ro Q) f5
 have gK:=DK (l:=d) (by rw [u]; omega) E
 have r:=drop_at E
 refine jT (dT bH) (sk (JS (bo (sr (fw (Zz (Zv ⟨ab A0,ao A0+b *6,Zk⟩)) (J9 (nH) Z Z ((C.ro Q).addr (i:=b) U) U) (fw (Zq (Zb (aV.L c))) (J5 Z (J7 (cs:=(aV.L c)) C1 C0 ((C.ro Q).elem aV.len E f7))) (cB [vI 0, Z9 ⟨Zb []⟩, Z9 ⟨Zb []⟩, Z9 ⟨Zb []⟩, Z9 ⟨Zb []⟩,vI 0] 62 C ?_)))))))
 intro eT _ eX
 refine cu (aV.L c) 0 eX C0 ?_
 intro _ z
 refine ns (Kz (vP eT 0) (Lz (vI c.g) z 0 Tryz.isAgg3 ?_))
 by_cases A:c.g=1
 obtain⟨_,bI,_,bK,_⟩:=JZ z
 refine cl D0 (oJ _ _ c.g bI (of_decide_eq_true (dT A))) ?_
 rintro _ _ ⟨rfl,bL⟩
 refine Mz Z (Kz (Zq o2k.toArray) (Kz (Y Zj) (cB [Y O, Zx, Zx, Zx, Zx] 144 (bK _ _ bL) ?_)))
 intro bM _ eZ
 refine cu o2k 0 eZ B7 ?_
 intro _ fe
 refine An Z (oZ [] (bJ.block (J6 (J6 (bJ.block (J6 Kg))))) fe ?_)
 intro _ fo
 refine qv 0 Z Z (qp bM 3 1 Z (ql 2 Z 0 J1 Z Z Z (qt (v:= Zq (Zb (aV.L c))) 3 Z (λ _ ⟨_,Z3⟩=>J5 Z (J7 (cs:=(aV.L c)) C1 C0 ((Z3.cls (i:=1) Z).lit (k:=0) (m:=6) Z))) (qp bM 0 5 Z (ql 6 Z 0 H2 Z Z Z ?_)))))
 obtain⟨o,Z4⟩:∃ q,kz c=q:=⟨_,Z⟩
 obtain⟨_,bO,_,bP,_⟩:=JZ fo
 refine qd 4 Z (KA K0 Z Z (nY _ _ c o bO Z4) ?_)
 rintro _ _ ⟨rfl,bQ⟩
 have bR:=bP _ _ bQ
 refine⟨.inr ⟨_,bR⟩, (qk (Zq #[Z9 ⟨Zb o.a⟩, Z9 ⟨Zb o.b⟩, Y O]) 7 Z (qd 8 Z (KF (cs:= [Z9 ⟨Zb o.a⟩, Z9 ⟨Zb o.b⟩, Y O]) (t:=115) (sz:=3) (m:=1) bR Z Z ZY Z f7 ?_)))⟩
 intro fq _ aG
 replace aG:=Ku (y:=row fq 1 1 (q1 aL.L ([(aL.q o O)])) 115 3) Z aG
 have bS:=aG.pb [0,3]
 refine⟨.inr ⟨_,bS⟩, ?_⟩
 have bT:=bS.pf [3]
 refine qd 9 Z (Kk (k:=X a) (m:=1) (vE) bT Z Z (eO K2 (bT.rds (i:=3) Z) (cO aL.one ([(aL.q o O)]))) Z U (s:=X (a++ [(aL.q o O)])) f6 (u3).symm ?_)
 intro fu fA _ fB
 have gQ:X (a++ [(aL.q o O)])=X a+1:=by simp only [o3,q6,L0]
 have bU:=fB.pb [0,3]
 refine⟨.inr ⟨_,bU⟩, (qa 10 Z Z (qn (bN (JY (JW (fw (vJ (b+1)) (J4 (e:=D3.wrap ((b:Int)+1)) yk f4) (Mz Z (G2 ?_))))))))⟩
 exact Kb (fu,fA,(a++ [(aL.q o O)]),b+1) ⟨Z,Z,Z,Z,Z,Z,ZV⟩ (n.2 ⟨(bU.pk [2]),U,U,U,V (p) (V (ZX (λ q=>gX q a) r) (V (ip A) (ae Z4)))⟩) (by show X d - (b+1) < X d - b; omega)
 by_cases F:c.g=2
 obtain⟨_,bX,_,aH,_⟩:=JZ z
 refine cl D0 (oK _ _ c.g bX (of_decide_eq_true (dT F))) ?_
 rintro _ _ ⟨rfl,aI⟩
 refine Mz Z (Kz (Zq o3k.toArray) (Kz (Y Zj) (cB [Y O, Zx, Zx, Zx, Zx] 144 (aH _ _ aI) ?_)))
 intro Z8 _ bZ
 refine cu o3k 0 bZ B7 ?_
 intro _ cz
 refine An Z (oZ [] (bJ.block (J6 (J6 (bJ.block (J6 Kg))))) cz ?_)
 intro _ cK
 refine qv 0 Z Z (qp Z8 3 1 Z (ql 2 Z 0 J1 Z Z Z (qt (v:= Zq (Zb (aV.L c))) 3 Z (λ _ ⟨_,Z3⟩=>J5 Z (J7 (cs:=(aV.L c)) C1 C0 ((Z3.cls (i:=1) Z).lit (k:=0) (m:=6) Z))) (qp Z8 0 5 Z (ql 6 Z 0 H2 Z Z Z ?_)))))
 obtain⟨f,G⟩:∃ q,kz c=q:=⟨_,Z⟩
 obtain⟨_,aJ,_,aK,_⟩:=JZ cK
 refine qd 4 Z (KA K0 Z Z (nY _ _ c f aJ G) ?_)
 rintro _ _ ⟨rfl,aM⟩
 have Z1:=aK _ _ aM
 refine⟨.inr ⟨_,Z1⟩, (qk (Zq #[Z9 ⟨Zb f.a⟩, Z9 ⟨Zb f.b⟩, Y Zj]) 7 Z (qd 8 Z (KF (cs:= [Z9 ⟨Zb f.a⟩, Z9 ⟨Zb f.b⟩, Y Zj]) (t:=115) (sz:=3) (m:=1) Z1 Z Z ZY Z f7 ?_)))⟩
 intro cZ _ I
 replace I:=Ku (y:=row cZ 1 1 (q1 aL.L ([(aL.q f Zj)])) 115 3) Z I
 have Z2:=I.pb [0,3]
 refine⟨.inr ⟨_,Z2⟩, ?_⟩
 have Z0:=Z2.pf [3]
 refine qd 9 Z (Kk (k:=X a) (m:=1) (vE) Z0 Z Z (eO K2 (Z0.rds (i:=3) Z) (cO aL.one ([(aL.q f Zj)]))) Z U (s:=X (a++ [(aL.q f Zj)])) f6 (u3).symm ?_)
 intro df dh _ di
 have fH:X (a++ [(aL.q f Zj)])=X a+1:=by simp only [o3,q6,L0]
 have aa:=di.pb [0,3]
 refine⟨.inr ⟨_,aa⟩, (qa 10 Z Z (qn (bN (JY (JW (fw (vJ (b+1)) (J4 (e:=D3.wrap ((b:Int)+1)) yk f4) (Mz Z (G2 ?_))))))))⟩
 exact Kb (df,dh,(a++ [(aL.q f Zj)]),b+1) ⟨Z,Z,Z,Z,Z,Z,ZV⟩ (n.2 ⟨(aa.pk [2]),U,U,U,V (p) (V (ZX (λ q=>gX q a) r) (V (iN A) (V (ip F) (ae G))))⟩) (by show X d - (b+1) < X d - b; omega)
 by_cases x:c.g=3
 obtain⟨_,aN,_,aO,_⟩:=JZ z
 refine cl D0 (oL _ _ c.g aN (of_decide_eq_true (dT x))) ?_
 rintro _ _ ⟨rfl,aP⟩
 refine Mz Z (Kz (Zq o4k.toArray) (Kz (Y Zj) (cB [Y O, Zx, Zx, Zx, Zx] 144 (aO _ _ aP) ?_)))
 intro af _ dw
 refine cu o4k 0 dw B7 ?_
 intro _ dx
 refine An Z (oZ [] (bJ.block (J6 (J6 (bJ.block (J6 Kg))))) dx ?_)
 intro _ dz
 refine qv 0 Z Z (qp af 3 1 Z (ql 2 Z 0 J1 Z Z Z (qt (v:= Zq (Zb (aV.L c))) 3 Z (λ _ ⟨_,Z3⟩=>J5 Z (J7 (cs:=(aV.L c)) C1 C0 ((Z3.cls (i:=1) Z).lit (k:=0) (m:=6) Z))) (qp af 0 5 Z (ql 6 Z 0 H2 Z Z Z ?_)))))
 obtain⟨g,J⟩:∃ q,kz c=q:=⟨_,Z⟩
 obtain⟨_,aQ,_,aR,_⟩:=JZ dz
 refine qd 4 Z (KA K0 Z Z (nY _ _ c g aQ J) ?_)
 rintro _ _ ⟨rfl,aS⟩
 have ag:=aR _ _ aS
 refine⟨.inr ⟨_,ag⟩, (qk (Zq #[Z9 ⟨Zb g.a⟩, Z9 ⟨Zb g.b⟩, Y Zj]) 7 Z (qd 8 Z (KF (cs:= [Z9 ⟨Zb g.a⟩, Z9 ⟨Zb g.b⟩, Y Zj]) (t:=115) (sz:=3) (m:=1) ag Z Z ZY Z f7 ?_)))⟩
 intro dA _ K
 replace K:=Ku (y:=row dA 1 1 (q1 aL.L ([(aL.q g Zj)])) 115 3) Z K
 have ah:=K.pb [0,3]
 refine⟨.inr ⟨_,ah⟩, ?_⟩
 have ai:=ah.pf [3]
 refine qd 9 Z (Kk (k:=X a) (m:=1) (vE) ai Z Z (eO K2 (ai.rds (i:=3) Z) (cO aL.one ([(aL.q g Zj)]))) Z U (s:=X (a++ [(aL.q g Zj)])) f6 (u3).symm ?_)
 intro dB dC _ dD
 have fP:X (a++ [(aL.q g Zj)])=X a+1:=by simp only [o3,q6,L0]
 have aj:=dD.pb [0,3]
 refine⟨.inr ⟨_,aj⟩, (qa 10 Z Z (qn (bN (JY (JW (fw (vJ (b+1)) (J4 (e:=D3.wrap ((b:Int)+1)) yk f4) (Mz Z (G2 ?_))))))))⟩
 exact Kb (dB,dC,(a++ [(aL.q g Zj)]),b+1) ⟨Z,Z,Z,Z,Z,Z,ZV⟩ (n.2 ⟨(aj.pk [2]),U,U,U,V (p) (V (ZX (λ q=>gX q a) r) (V (iN A) (V (iN F) (V (ip x) (ae J)))))⟩) (by show X d - (b+1) < X d - b; omega)
 by_cases L:c.g=4
 obtain⟨_,aT,_,aU,_⟩:=JZ z
 refine cl D0 (oM _ _ c.g aT (of_decide_eq_true (dT L))) ?_
 rintro _ _ ⟨rfl,aW⟩
 refine Mz Z (Kz (Zq o5k.toArray) (Kz (Y Zj) (cB [Y O, Zx, Zx, Zx, Zx] 144 (aU _ _ aW) ?_)))
 intro ak _ dH
 refine cu o5k 0 dH B7 ?_
 intro _ dJ
 refine An Z (oZ [] (bJ.block (J6 (J6 (bJ.block (J6 Kg))))) dJ ?_)
 intro _ dK
 refine qv 0 Z Z (qp ak 3 1 Z (ql 2 Z 0 J1 Z Z Z (qt (v:= Zq (Zb (aV.L c))) 3 Z (λ _ ⟨_,Z3⟩=>J5 Z (J7 (cs:=(aV.L c)) C1 C0 ((Z3.cls (i:=1) Z).lit (k:=0) (m:=6) Z))) (qp ak 0 5 Z (ql 6 Z 0 H2 Z Z Z ?_)))))
 obtain⟨h,M⟩:∃ q,gF c=q:=⟨_,Z⟩
 obtain⟨_,aX,_,aY,_⟩:=JZ dK
 refine qd 4 Z (KA K1 Z Z (l6 _ _ c h aX M) ?_)
 rintro _ _ ⟨rfl,aZ⟩
 have au:=aY _ _ aZ
 refine⟨.inr ⟨_,au⟩, (qk (Zq #[Z9 ⟨Zb h.a⟩, Z9 ⟨Zb h.b⟩, Y O]) 7 Z (qd 8 Z (KF (cs:= [Z9 ⟨Zb h.a⟩, Z9 ⟨Zb h.b⟩, Y O]) (t:=115) (sz:=3) (m:=1) au Z Z ZY Z f7 ?_)))⟩
 intro dL _ Z5
 replace Z5:=Ku (y:=row dL 1 1 (q1 aL.L ([(aL.q h O)])) 115 3) Z Z5
 have av:=Z5.pb [0,3]
 refine⟨.inr ⟨_,av⟩, ?_⟩
 have ax:=av.pf [3]
 refine qd 9 Z (Kk (k:=X a) (m:=1) (vE) ax Z Z (eO K2 (ax.rds (i:=3) Z) (cO aL.one ([(aL.q h O)]))) Z U (s:=X (a++ [(aL.q h O)])) f6 (u3).symm ?_)
 intro dN dO _ dP
 have fZ:X (a++ [(aL.q h O)])=X a+1:=by simp only [o3,q6,L0]
 have ay:=dP.pb [0,3]
 refine⟨.inr ⟨_,ay⟩, (qa 10 Z Z (qn (bN (JY (JW (fw (vJ (b+1)) (J4 (e:=D3.wrap ((b:Int)+1)) yk f4) (Mz Z (G2 ?_))))))))⟩
 exact Kb (dN,dO,(a++ [(aL.q h O)]),b+1) ⟨Z,Z,Z,Z,Z,Z,ZV⟩ (n.2 ⟨(ay.pk [2]),U,U,U,V (p) (V (ZX (λ q=>gX q a) r) (V (iN A) (V (iN F) (V (iN x) (V (ip L) (ae M))))))⟩) (by show X d - (b+1) < X d - b; omega)
 have bf:(Zw (c.g=5))=Zj:=(dT U)
 obtain⟨_,bg,_,bi,_⟩:=JZ z
 refine cl D0 (oN _ _ c.g bg (of_decide_eq_true bf)) ?_
 rintro _ _ ⟨rfl,bn⟩
 refine Mz Z (Kz (Zq o6k.toArray) (Kz (Y Zj) (cB [Y O, Zx, Zx, Zx, Zx] 144 (bi _ _ bn) ?_)))
 intro az _ dS
 refine cu o6k 0 dS B7 ?_
 intro _ dU
 refine An Z (oZ [] (bJ.block (J6 (J6 (bJ.block (J6 Kg))))) dU ?_)
 intro _ dV
 refine qv 0 Z Z (qp az 3 1 Z (ql 2 Z 0 J1 Z Z Z (qt (v:= Zq (Zb (aV.L c))) 3 Z (λ _ ⟨_,Z3⟩=>J5 Z (J7 (cs:=(aV.L c)) C1 C0 ((Z3.cls (i:=1) Z).lit (k:=0) (m:=6) Z))) (qp az 0 5 Z (ql 6 Z 0 H2 Z Z Z ?_)))))
 obtain⟨j,Z6⟩:∃ q,gF c=q:=⟨_,Z⟩
 obtain⟨_,bq,_,bu,_⟩:=JZ dV
 refine qd 4 Z (KA K1 Z Z (l6 _ _ c j bq Z6) ?_)
 rintro _ _ ⟨rfl,bv⟩
 have aA:=bu _ _ bv
 refine⟨.inr ⟨_,aA⟩, (qk (Zq #[Z9 ⟨Zb j.a⟩, Z9 ⟨Zb j.b⟩, Y Zj]) 7 Z (qd 8 Z (KF (cs:= [Z9 ⟨Zb j.a⟩, Z9 ⟨Zb j.b⟩, Y Zj]) (t:=115) (sz:=3) (m:=1) aA Z Z ZY Z f7 ?_)))⟩
 intro dW _ P
 replace P:=Ku (y:=row dW 1 1 (q1 aL.L ([(aL.q j Zj)])) 115 3) Z P
 have aB:=P.pb [0,3]
 refine⟨.inr ⟨_,aB⟩, ?_⟩
 have aC:=aB.pf [3]
 refine qd 9 Z (Kk (k:=X a) (m:=1) (vE) aC Z Z (eO K2 (aC.rds (i:=3) Z) (cO aL.one ([(aL.q j Zj)]))) Z U (s:=X (a++ [(aL.q j Zj)])) f6 (u3).symm ?_)
 intro dX dY _ dZ
 have gy:X (a++ [(aL.q j Zj)])=X a+1:=by simp only [o3,q6,L0]
 have aD:=dZ.pb [0,3]
 refine⟨.inr ⟨_,aD⟩, (qa 10 Z Z (qn (bN (JY (JW (fw (vJ (b+1)) (J4 (e:=D3.wrap ((b:Int)+1)) yk f4) (Mz Z (G2 ?_))))))))⟩
 exact Kb (dX,dY,(a++ [(aL.q j Zj)]),b+1) ⟨Z,Z,Z,Z,Z,Z,ZV⟩ (n.2 ⟨(aD.pk [2]),U,U,U,V (p) (V (ZX (λ q=>gX q a) r) (V (iN A) (V (iN F) (V (iN x) (V (iN L) (ae Z6))))))⟩) (by show X d - (b+1) < X d - b; omega)
 refine jF (dF bH) (H0 (Ka ?_))
 have bz:=V (p) (V (ZX (λ q=>gX q a) (eU (ls:=d) (i:=b) U)) Z)
 refine Ka (Kh (JY (sr (Mz Z (Az Z (An Z (rt (Ke (lw Z Z Z) ?_))))))))
 obtain⟨rfl,rfl⟩:=fI (zj hr zq3)
 exact⟨S,Z7,Z,(C.pf [])⟩
 refine jT (dT R) (sr (Mz Z (Az Z (An Z (rt (tR (Ke (lw Z Z Z) ?_)))))))
 have eu:=(bF.free (bW 115 3)).pf []
 obtain⟨rfl,rfl⟩:=fI (zj hr zq2)
 exact⟨Zk,0,Z,eu⟩
def gp (g:List aG):List aG->Nat->Unit ⊕ Int
  | [],a=>Sum.inl ()
  | d::e,a=>bnd (dU d.j) λ b=>if b=0 then bnd (lS d.k) λ c=>if c=0 then if((a:Nat):Int) > 0 then bnd (J0 g (a - 1) Zy) λ f=>if d.j<=f.j then Sum.inr (1) else gp g e (a+1) else gp g e (a+1) else Sum.inr (c) else Sum.inr (b)
def gT (a:List aG):Int:=
 lp (gp a a 0) λ _=>0
theorem Ao (w D o Z3 G d r0) (H:Own w D w []) (s:Ro w D λ w'=>bV w' 2 o Z3 (q1 aG.L d)) (Z4:Z3=X d) (az:X d *32<=211106232532992) (hr:gT d=r0):
    Calls y3 214 #[T o Z3 G] w (dI λ v w'=>v=vI r0/\Own w D w' []):=by
 subst Z4
 refine cb Tryz.func214 ?_
 refine sr (An Z (JS (sr (Mz Z (Kz (vJ (X d)) (Mn Z (bo ?_)))))))
 obtain⟨Z1,n⟩:=nI λ (a:Nat) w'=>Own w D w' []/\a<=X d/\gp d d 0=gp d (r8 a d) a
 refine Wp.loop (λ i:Nat=> [(2,vI 0),(9,vJ i),(8,vJ (X d)),(7, T o (X d) G),(0, T o (X d) G)]) Z1 (λ i=>X d - i) 0 ⟨Z,Z,Z,Z,Z,ZV⟩ (n.2 ⟨(H.pk []),U,Z⟩) ?_
 rintro a _ I
 obtain⟨t,_,f⟩:=n.1 I
 refine sr (Kz (Za ((a:Int) < (X d:Int))) (nt (JS ?_)))
 by_cases J:(a:Int) < (X d:Int)
 obtain⟨c,z⟩:=dM (ls:=d) (i:=a) aG.len f7 (t.ro s) f5
 have h:=drop_at z
 refine jT (dT J) (sk (JS (bo (sr (Mz Z (fw (Zz (Zv ⟨ab o,ao o+a *2,Zk⟩)) (J9 (jo) Z Z ((t.ro s).addr (i:=a) U) U) (fw (Zq (Zb (aG.L c))) (J5 Z (J7 (cs:=(aG.L c)) Tryz.isAgg67 Tryz.sizeOf67 ((t.ro s).elem aG.len z f7))) (cB [Z9 ⟨Zb []⟩, Z9 ⟨Zb []⟩] 67 t ?_))))))))
 intro C _ Z2
 refine Az Z (cu (aG.L c) 0 Z2 Tryz.sizeOf67 ?_)
 intro _ K
 refine nt (JS (sr (Kz (vP C 0) (Lz (Z9 ⟨Zb c.j⟩) K 0 B9 ?_))))
 obtain⟨l,g⟩:∃ q,dU c.j=q:=⟨_,Z⟩
 obtain⟨_,L,_,M,_⟩:=JZ K
 refine cl Tryz.call61 (ky _ _ c.j l L g) ?_
 rintro _ _ ⟨rfl,Z5,A,B⟩
 have E:=M _ _ Z5
 replace A:=A
 replace B:=B
 refine Ar Z (Mz Z (fw (Za (¬ (l=0))) (Kc (e:= !(Zw (l=0))) yk ZW) (nt ?_)))
 by_cases m:l=0
 refine jF (dF (Nu m)) (sk (JS (sr (Kz (vP C 1) (Lz (Z9 ⟨Zb c.k⟩) E 0 B9 ?_)))))
 obtain⟨u,j⟩:∃ q,lS c.k=q:=⟨_,Z⟩
 obtain⟨_,Z6,_,P,_⟩:=JZ E
 refine cl Tryz.call160 (uI _ _ c.k u Z6 j) ?_
 rintro _ _ ⟨rfl,Q⟩
 have R:=P _ _ Q
 refine Ar Z (Mz Z (fw (Za (¬ (u=0))) (Kc (e:= !(Zw (u=0))) yk ZW) (nt ?_)))
 by_cases p:u=0
 refine jF (dF (Nu p)) (sk (JS (DI [] (J6 (bJ.block (J6 (J6 (bJ.block (J6 Kg)))))) R ?_)))
 intro _ F
 refine qv 0 Z Z (qk (Za ((a:Int) > 0)) 1 Z (qv 2 Z Z ?_))
 by_cases b:(a:Int) > 0
 refine J2 (v:=vP C 0) (rs:= []) 3 Z Z Z (dT b) f1 (λ _ _=>yk) (J2 (v:= Z9 ⟨Zb c.j⟩) (rs:= []) 4 Z Z Z (dT b) f1 (λ _ ⟨_,S⟩=>J5 Z (bO.one B9 (Kw (S.cls (i:=0) Z) Z))) (J2 (v:= T o (X d) G) (rs:= []) 5 Z Z Z (dT b) f1 (λ _ _=>J3 Z) (J2 (v:=vJ a) (rs:= []) 6 Z Z Z (dT b) f1 (λ _ _=>J3 Z) (J2 (v:=vJ (a - 1)) (rs:= []) 7 Z Z Z (dT b) f1 (λ _ _=>J4 (e:=D3.wrap ((a:Int) - 1)) yk f4) ?_))))
 obtain⟨r,x⟩:=mK (ls:=d) (i:=a - 1) f5
 refine J2 (v:= Zz (Zv ⟨ab o,ao o+(a - 1) *2,Zk⟩)) (rs:= []) 8 Z Z Z (dT b) f1 (λ _ ⟨_,S⟩=>J9 (jo) Z Z ((S.ro s).addr (i:=a - 1) U) U) (J2 (v:= Zz (Zv ⟨ab o,ao o+(a - 1) *2,Zk⟩)) (rs:= []) 9 Z Z Z (dT b) f1 (λ _ _=>yk) (J2 (v:= Z9 ⟨Zb r.j⟩) (rs:= []) 10 Z Z Z (dT b) f1 (λ _ ⟨_,S⟩=>J5 Z (bO.one B9 (((S.ro s).elem aG.len x f7).at_ (k:=0) Z))) (J2 (v:= Za (c.j<=r.j)) (rs:= []) 11 Z Z Z (dT b) f1 (λ _ _=>Kc (e:=Op.bytesLess c.j r.j || decide (c.j=r.j)) (LB Z Z) (BB _ _)) (qt (v:= Za (c.j<=r.j)) 12 Z (λ _ _=>JX Z (dT b) Z) (qn (JY ?_))))))
 by_cases y:c.j<=r.j
 refine jT (dT y) (sr (An Z (rt (bR (tR (tR (bR (tR (rs ?_)))))))))
 obtain rfl:_=1:=zj hr (iX (V (f) (V (ZX (λ q=>gp d q a) h) (V (ae g) (V (ip m) (V (ae j) (V (ip p) (V (ip b) (V (ae (bG x)) (ip y))))))))))
 exact⟨Z,(F.pk [])⟩
 refine jF (dF y) (Ko (bN (JY (JW (fw (vJ (a+1)) (J4 (e:=D3.wrap ((a:Int)+1)) yk f4) (Mz Z (G2 ?_)))))))
 exact Kb (a+1) ⟨Z,Z,Z,Z,Z,ZV⟩ (n.2 ⟨(F.pk []),U,V (f) (V (ZX (λ q=>gp d q a) h) (V (ae g) (V (ip m) (V (ae j) (V (ip p) (V (ip b) (V (ae (bG x)) (iN y))))))))⟩) (by show X d - (a+1) < X d - a; omega)
 refine JV (rs:= []) 3 Z Z Z (dF b) f1 (JV (rs:= []) 4 Z Z Z (dF b) f1 (JV (rs:= []) 5 Z Z Z (dF b) f1 (JV (rs:= []) 6 Z Z Z (dF b) f1 (JV (rs:= []) 7 Z Z Z (dF b) f1 (JV (rs:= []) 8 Z Z Z (dF b) f1 (JV (rs:= []) 9 Z Z Z (dF b) f1 (JV (rs:= []) 10 Z Z Z (dF b) f1 (JV (rs:= []) 11 Z Z Z (dF b) f1 (qt (v:= Y O) 12 Z (λ _ _=>JU Z (dF b) Z) (qn (JY (jf (Ko (bN (JY (JW (fw (vJ (a+1)) (J4 (e:=D3.wrap ((a:Int)+1)) yk f4) (Mz Z (G2 ?_)))))))))))))))))))
 exact Kb (a+1) ⟨Z,Z,Z,Z,Z,ZV⟩ (n.2 ⟨(F.pk []),U,V (f) (V (ZX (λ q=>gp d q a) h) (V (ae g) (V (ip m) (V (ae j) (V (ip p) (iN b))))))⟩) (by show X d - (a+1) < X d - a; omega)
 refine jT (dT p) (sr (Mz Z (An Z (rt (tR (bR (tR (tR (bR (tR (rs ?_)))))))))))
 obtain rfl:_=u:=zj hr (iX (V (f) (V (ZX (λ q=>gp d q a) h) (V (ae g) (V (ip m) (V (ae j) (iN p)))))))
 exact⟨Z,(R.pk [])⟩
 refine jT (dT m) (sr (Mz Z (An Z (rt (tR (bR (tR (tR (bR (tR (rs ?_)))))))))))
 obtain rfl:_=l:=zj hr (iX (V (f) (V (ZX (λ q=>gp d q a) h) (V (ae g) (iN m)))))
 exact⟨Z,(E.pk [])⟩
 refine jF (dF J) (H0 (Ka (Ka (Kh (JY (sr (An Z (rt (rs ?_)))))))))
 obtain rfl:_=0:=zj hr (kH (V (f) (V (ZX (λ q=>gp d q a) (eU (ls:=d) (i:=a) U)) Z)))
 exact⟨Z,(t.pk [])⟩
end
open List renaming length_drop->o2,length_set->N0,length_take->o1,mem_of_mem_take->M1,set->M2
open _root_.Go.Proofs.Tryz renaming call159->L4,isAgg65->L7,sizeOf65->L5,sizeOf67->L3
section
open Go.RowKit
def l7 (a:List UInt8) (b:List UInt8):Int:=
 Lib.compareBytes a b
theorem qZ (w D a b d) (H:Own w D w []) (hr:l7 a b=d):
    Calls y3 222 #[Z9 ⟨Zb a⟩, Z9 ⟨Zb b⟩] w (dI λ v w'=>v=vI d/\Own w D w' []):=by
 refine cb Tryz.func222 ?_
 refine sr (Ar Z (Mz Z (Mz Z (fw (vI (Lib.compareBytes a b)) (Mx (run_callFunc_extern Tryz.func232 f1 f1 f1 (e:=Extern.BytealgCompare.compare) f1) Z) (An Z (rt (rs ?_)))))))
 obtain rfl:_=Lib.compareBytes a b:=zj hr Z
 exact⟨Z,(H.pk [])⟩
def strings_Compare (b:List UInt8) (c:List UInt8):Int:=
 bnd (l7 b c) λ a=>a
theorem xE (w D f g j) (H:Own w D w []) (hr:strings_Compare f g=j):
    Calls y3 200 #[Z9 ⟨Zb f⟩, Z9 ⟨Zb g⟩] w (dI λ v w'=>v=vI j/\Own w D w' []):=by
 unfold strings_Compare at hr
 refine cb Tryz.func200 ?_
 refine sr (Ar Z (Mz Z (Mz Z ?_)))
 obtain⟨b,a⟩:∃ q,l7 f g=q:=⟨_,Z⟩
 obtain⟨m,c,k,d,l⟩:=JZ H
 refine cl Tryz.call222 (qZ _ _ f g b c a) ?_
 rintro _ n ⟨rfl,e⟩
 refine An Z (rt (rs ?_))
 have i:=(d _ _ e).pk []
 obtain rfl:=zj hr zq1
 exact⟨Z,i⟩
def o6 (b:aG) (c:List UInt8):Int:=
 bnd (strings_Compare b.j c) λ a=>a
theorem xG (w D) (b:aG) (h l) (H:Own w D w []) (hr:o6 b h=l):
    Calls y3 199 #[Zq (Zb (aG.L b)), Z9 ⟨Zb h⟩] w (dI λ v w'=>v=vI l/\Own w D w' []):=by
 unfold o6 at hr
 refine cb Tryz.func199 ?_
 refine sr ?_
 refine cB (aG.L b) 67 H ?_
 intro i o c
 refine Ar Z (Kz (vP i 0) (Lz (Z9 ⟨Zb b.j⟩) c 0 B9 (Mz Z ?_)))
 obtain⟨d,a⟩:∃ q,strings_Compare b.j h=q:=⟨_,Z⟩
 obtain⟨p,e,m,f,n⟩:=JZ c
 refine cl Tryz.call200 (xE _ _ b.j h d e a) ?_
 rintro _ r ⟨rfl,g⟩
 refine An Z (rt (rs ?_))
 have k:=(f _ _ g).pk []
 obtain rfl:=zj hr zq1
 exact⟨Z,k⟩
def dZ (f:List aG) (g:List UInt8):Nat->Nat->Nat->Nat
  | 0,a,b=>Zy
  | c+1,a,b=>if((a:Nat):Int) < ((b:Nat):Int) then bnd (J0 f ((a+b) / 2) Zy) λ d=>bnd (o6 d g) λ e=>if e < 0 then dZ f g c (((a+b) / 2)+1) b else dZ f g c a ((a+b) / 2) else a
def iK (a:List aG) (d:List UInt8):Int × Bool:=
 bnd (dZ a d ((X a - 0)+1) 0 (X a)) λ sLrL=>if((sLrL:Nat):Int) < ((X a:Nat):Int) then bnd (J0 a sLrL Zy) λ b=>bnd (o6 b d) λ c=>(((sLrL:Nat):Int),Zw (c=0)) else(((sLrL:Nat):Int),O)
theorem ny (w D r P Z6 d k C Q) (H:Own w D w []) (h:Ro w D λ w'=>bV w' 2 r P (q1 aG.L d)) (R:P=X d) (ak:X d *32<=211106232532992) (hr:iK d k=(C,Q)):
    Calls y3 198 #[T r P Z6, Z9 ⟨Zb k⟩, .func (.func 199) #[] #[]] w (dI λ v w'=>v= .tuple #[vI C, Y Q]/\Own w D w' []/\(0<=C/\C<=((X d:Nat):Int))/\(Zd Q=0\/C < ((X d:Nat):Int))):=by
 unfold iK at hr
 subst R
 refine cb Tryz.func198 ?_
 refine sr (Az Z (Ar Z (Mz Z (Kz (vJ (X d)) (Ar Z (Mz Z (Az Z (An Z (JS (bo ?_))))))))))
 obtain⟨Z7,g⟩:=yG λ (a:Nat) (b:Nat) (l:Nat) w'=>Own w D w' []/\a<=b/\b<=X d/\b - a < l/\dZ d k ((X d - 0)+1) 0 (X d)=dZ d k l a b
 refine Wp.loop (λ i:Nat × Nat × Nat=> [(9,vJ i.1),(10,vJ i.2.1),(8,vJ (X d)),(7, Y O),(6,vI 0),(0, T r (X d) Z6),(1, Z9 ⟨Zb k⟩),(2, .func (.func 199) #[] #[])]) Z7 (λ i=>i.2.2) (0,X d,(X d - 0)+1) ⟨Z,Z,Z,Z,Z,Z,Z,Z,ZV⟩ (g.2 ⟨(H.pk []),U,U,U,Z⟩) ?_
 rintro ⟨a,b,l⟩ _ E
 obtain⟨f,_,_,_,m⟩:=g.1 E
 obtain⟨j,F⟩:∃ q,l=q+1:=⟨l - 1,U⟩
 subst F
 refine JS (sr (Mz Z (Mz Z (Kz (Za ((a:Int) < (b:Int))) (nt ?_)))))
 by_cases n:(a:Int) < (b:Int)
 refine jT (dT n) (sk (bo (sr (Mz Z (Mz Z (fw (vJ (a+b)) (J4 (e:=D3.wrap ((a:Int)+(b:Int))) yk f4) (fw (vU (a+b)) (J4 (e:=IntKind.u64.wrap ((a+b:Nat):Int)) yk (IntWalk.u64_in _ U)) (fw (vU ((a+b) / 2)) (J4 (e:=Int.fdiv ((a+b:Nat):Int) 2) yk (vQ _ 1 _ f7)) (fw (vJ ((a+b) / 2)) (J4 (e:=D3.wrap (((a+b) / 2:Nat):Int)) yk (Ns _ U)) (Ar Z (Mz Z (Mz Z (Mz Z ?_)))))))))))))
 obtain⟨s,o⟩:=dM (ls:=d) (i:=(a+b) / 2) aG.len f7 (f.ro h) f5
 refine fw (Zz (Zv ⟨ab r,ao r+((a+b) / 2) *2,Zk⟩)) (J9 (jo) Z Z ((f.ro h).addr (i:=(a+b) / 2) U) U) (fw (Zq (Zb (aG.L s))) (J5 Z (J7 (cs:=(aG.L s)) Tryz.isAgg67 L3 ((f.ro h).elem aG.len o f7))) (Mz Z ?_))
 obtain⟨B,p⟩:∃ q,o6 s k=q:=⟨_,Z⟩
 obtain⟨_,G,_,I,_⟩:=JZ f
 refine WL.do Z (KA Tryz.call199 Z Z (xG _ _ s k B G p) ?_)
 rintro _ _ ⟨rfl,J⟩
 have K:=I _ _ J
 refine Kz (Za (B < 0)) (nt ?_)
 by_cases t:B < 0
 exact jT (dT t) (JW (Mz Z (fw (vI ((((a+b) / 2)+1:Nat):Int)) (J4 (e:=D3.wrap ((((a+b) / 2:Nat):Int)+1)) yk f4) (Az Z (WL.nil (bN (Kb (((a+b) / 2)+1,b,j) ⟨Z,Z,Z,Z,Z,Z,Z,Z,ZV⟩ (g.2 ⟨(K.pk []),U,U,U,V (m) (V (ip n) (V (ae (bG o)) (V (ae p) (ip t))))⟩) (by show j < j+1; omega))))))))
 exact jF (dF t) (JW (Mz Z (Az Z (WL.nil (bN (Kb (a,(a+b) / 2,j) ⟨Z,Z,Z,Z,Z,Z,Z,Z,ZV⟩ (g.2 ⟨(K.pk []),U,U,U,V (m) (V (ip n) (V (ae (bG o)) (V (ae p) (iN t))))⟩) (by show j < j+1; omega)))))))
 refine jF (dF n) (Wp.exit (Ka ?_))
 have y:=V (m) (iN n)
 refine Ka (Kh (JY (sr (Mz Z (Mz Z (Mz Z (Kz (Za ((a:Int) < (X d:Int))) (Mz Z ?_))))))))
 by_cases c:(a:Int) < (X d:Int)
 refine gw (.func (.func 199) #[] #[]) (dT c) (J3 Z) (gw (T r (X d) Z6) (dT c) (J3 Z) (gw (vJ a) (dT c) (J3 Z) ?_))
 obtain⟨u,z⟩:=dM (ls:=d) (i:=a) aG.len f7 (f.ro h) f5
 refine gw (Zz (Zv ⟨ab r,ao r+a *2,Zk⟩)) (dT c) (J9 (jo) Z Z ((f.ro h).addr (i:=a) U) U) (gw (Zq (Zb (aG.L u))) (dT c) (J5 Z (J7 (cs:=(aG.L u)) Tryz.isAgg67 L3 ((f.ro h).elem aG.len z f7))) (gw (Z9 ⟨Zb k⟩) (dT c) (J3 Z) ?_))
 obtain⟨x,A⟩:∃ q,o6 u k=q:=⟨_,Z⟩
 obtain⟨_,L,_,M,_⟩:=JZ f
 refine KU Z Z (dT c) Z (KA Tryz.call199 Z Z (xG _ _ u k x L A) ?_)
 rintro _ _ ⟨rfl,Z5⟩
 refine Gz (Za (x=0)) (dT c) (fw (Za (x=0)) (JX Z (dT c) Z) (Az Z (An Z (rt (Ke (lw Z Z Z) ?_)))))
 have Z1:=(M _ _ Z5).pk []
 obtain⟨rfl,rfl⟩:=fI (zj hr zq4)
 exact⟨Z,Z1,U,i4⟩
 refine Sz (dF c) (Sz (dF c) (Sz (dF c) (Sz (dF c) (Sz (dF c) (Sz (dF c) (Sz (dF c) (Sz (dF c) (fw (Y O) (JU Z (dF c) Z) (Az Z (An Z (rt (Ke (lw Z Z Z) ?_))))))))))))
 obtain⟨rfl,rfl⟩:=fI (zj hr zq2)
 exact⟨Z,(f.pk []),U,i4⟩
def iR (b:List aG) (c:List UInt8):Int × Bool:=
 bnd (iK b c) λ a=>(a.1,a.2)
theorem sF (w D m n u b l g o) (H:Own w D w []) (p:Ro w D λ w'=>bV w' 2 m n (q1 aG.L b)) (r:n=X b) (y:X b *32<=211106232532992) (hr:iR b l=(g,o)):
    Calls y3 159 #[T m n u, Z9 ⟨Zb l⟩] w (dI λ v w'=>v= .tuple #[vI g, Y o]/\Own w D w' []/\(0<=g/\g<=((X b:Nat):Int))/\(Zd o=0\/g < ((X b:Nat):Int))):=by
 unfold iR at hr
 subst r
 refine cb Tryz.func159 ?_
 refine sr (Az Z (Ar Z (Mz Z (Mz Z ?_))))
 obtain⟨⟨a,c⟩,d⟩:∃ q:Int × Bool,iK b l=q:=⟨_,Z⟩
 obtain⟨z,h,i,j,x⟩:=JZ H
 refine cl Tryz.call198 (ny _ _ m (X b) u b l a c h (i _ p) Z U d) ?_
 rintro _ A ⟨rfl,k,e,f⟩
 replace e:=e
 replace f:=f
 refine Kz (vI a) (Kz (Y c) (Az Z (An Z (rt (Ke (lw Z Z Z) ?_)))))
 have t:=(j _ _ k).pk []
 obtain⟨rfl,rfl⟩:=fI (zj hr zq1)
 exact⟨Z,t,U,i4⟩
def uN (c:List aG) (d:aV):(List aG) × dA:=
 bnd (iR c d.j) λ a=>if a.2=Zj then bnd (J0 c (W a.1) Zy) λ b=>(c,dA.q Zj b.k (N [])) else(c,dA.q O [] (N []))
theorem EP (w D g J j b) (u:aV) (y) (x:dA) (H:Own w D w [row g J j (q1 aG.L b) 67 2]) (K:J=X b) (ag:X b *32<=211106232532992) (ah:(X b+1) *32<=211106232532992) (hr:uN b u=(y,x)):
    Calls y3 101 #[T g J j, Zq (Zb (aV.L u))] w (dI λ v w'=> ∃ Z0 b0 l n,v= .tuple #[T Z0 (X y) b0, Zq #[Y x.b, Z9 ⟨Zb x.k⟩, T l (X x.a.a) n]]/\Own w D w' [row Z0 (X y) b0 (q1 aG.L y) 67 2,row l (X x.a.a) n (q1 aG.L x.a.a) 67 2]/\(X y<=X b+1)):=by
 unfold uN at hr
 subst K
 have ai:=H.rowC (i:=0) Z
 refine cb Tryz.func101 ?_
 refine sr ?_
 refine cB (aV.L u) 62 H ?_
 intro L _ M
 refine Az Z (cB [Y O, Z9 ⟨Zb []⟩, T Zk 0 0] 65 M ?_)
 intro z _ A
 refine ns (Mz Z (Kz (vP L 1) (Lz (Z9 ⟨Zb u.j⟩) A 1 B9 ?_)))
 obtain⟨⟨a,c⟩,h⟩:∃ q:Int × Bool,iR b u.j=q:=⟨_,Z⟩
 obtain⟨_,B,_,C,E⟩:=JZ A
 refine cl L4 (sF _ _ g (X b) j b u.j a c B (E _ 2 _ Z bB) Z U h) ?_
 rintro _ _ ⟨rfl,F,p,r⟩
 replace p:=p
 replace r:=r
 refine Mz Z (Kz (vI a) (Kz (Y c) (Az Z (An Z (JS (JS ?_))))))
 have G:=(C _ _ F).pk [0,2]
 refine JW (Mz Z (Kz (Y (!c)) (nt ?_)))
 rcases Nv (c) with d | d
 have h41t:Zd c=1:=by rw [d]; rfl
 refine jF (cn d) (sk (JS (DI [] (J6 Kg) (G.pb [0]) ?_)))
 intro _ P
 refine qv 0 Z Z (qv 1 Z Z (qt (v:=vJ (W a)) 2 Z (λ _ _=>J4 (e:=a) (J3 Z) U) ?_))
 obtain⟨f,s⟩:=mK (ls:=b) (i:=W a) f5
 refine qt (v:= Zz (Zv ⟨ab g,ao g+(W a) *2,Zk⟩)) 3 Z (λ _ ⟨_,Q⟩=>J9 (jo) Z Z ((Q.rds (i:=0) Z).addr (i:=W a) U) U) (qk (Zz (Zv ⟨ab g,ao g+(W a) *2+1,Zk⟩)) 4 Z (qt (v:= Z9 ⟨Zb f.k⟩) 5 Z (λ _ ⟨_,Q⟩=>J5 Z (bO.one B9 (((Q.rds (i:=0) Z).elem aG.len s f7).at_ (k:=1) Z))) (qk (Zq #[Y Zj, Z9 ⟨Zb f.k⟩, T Zk 0 0]) 6 Z (qa 7 Z Z (qe 8 Z (Do.store (vs:= [Y Zj, Z9 ⟨Zb f.k⟩, T Zk 0 0]) (o:=0) (P.pb [0]) Z Z L5 Z Z Z Z ?_))))))
 intro S Z7
 have t:=Z7.pb [0]
 refine⟨.inr ⟨_,t⟩, (qn (JY (rt (Ke (fQ (vs:= [T g (X b) j, Zq #[Y Zj, Z9 ⟨Zb f.k⟩, T Zk 0 0]]) Z (bS.tmp Z (bS.cell Z (J7 (cs:= [Y Zj, Z9 ⟨Zb f.k⟩, T Zk 0 0]) L7 L5 ((t.cls (i:=1) Z).lit (k:=0) (m:=3) Z)) bS.nil)) (Nr Z)) ?_))))⟩
 have Z4:=(t.free (bW 67 2)).pk [1,0]
 obtain⟨rfl,rfl⟩:=fI (zj hr zq3)
 exact⟨g,j,Zk,0,Z,Z4,U⟩
 have h41t:Zd c=0:=by rw [d]; rfl
 refine jT (cn d) (sr (Mz Z (Kz (Zq #[Y O, Z9 ⟨Zb []⟩, T Zk 0 0]) (Az Z (cu [Y O, Z9 ⟨Zb []⟩, T Zk 0 0] 0 G L5 ?_)))))
 intro Z8 I
 refine nt (rt (tR (Ke (fQ (vs:= [T g (X b) j, Zq #[Y O, Z9 ⟨Zb []⟩, T Zk 0 0]]) Z (bS.tmp Z (bS.cell Z (J7 (cs:= [Y O, Z9 ⟨Zb []⟩, T Zk 0 0]) L7 L5 ((I.cls (i:=0) Z).lit (k:=0) (m:=3) Z)) bS.nil)) (Nr Z)) ?_)))
 have Z2:=(I.free (bW 67 2)).pk [2,0]
 obtain⟨rfl,rfl⟩:=fI (zj hr zq2)
 exact⟨g,j,Zk,0,Z,Z2,U⟩
def iW (a:List aG) (b:Int) (c:aG):(List aG):=
 if((W b:Nat):Int)=((X a:Nat):Int) then(a++ [c]) else(u2 (W b) a++(c::r8 (W b) a))
theorem qN (w D f E d b a C) (c:aG) (y) (H:Own w D w [row f E d (q1 aG.L b) 67 2,mF C 1 (q1 aG.L ([c])) 67 2]) (F:E=X b) (ag:X b *32<=211106232532992) (ah:0<=a/\a<=((X b:Nat):Int)/\(X b+1) *32<=211106232532992) (hr:iW b a c=y):
    Calls y3 161 #[T f E d,vI a, T C 1 1] w (dI λ v w'=> ∃ Z1 Z2,v= T Z1 (X y) Z2/\Own w D w' [row Z1 (X y) Z2 (q1 aG.L y) 67 2]/\(X y=X b+1)):=by
 unfold iW at hr
 subst F
 have ai:=H.rowC (i:=0) Z
 refine cb Tryz.func161 ?_
 refine sr (Ar Z (Mz Z (fw (vJ (W a)) (J4 (e:=a) (J3 Z) U) (fw (T (fA f (W a) 2 d) (X b - (W a)) (d - (W a))) (Kv (jo) Z Z U) (ns (Mz Z (Kz (vI 1) (An Z (JS (sr (Mz Z (Kz (Y O) (nt (jf (sk (sr (Mz Z (Kz (vJ (X b)) (An Z (JS (sr (fw (vJ (W a)) (J4 (e:=a) (J3 Z) U) ?_))))))))))))))))))))))
 refine Mz Z (Kz (Za (((W a:Nat):Int)=(X b:Int))) (nt ?_))
 by_cases h:((W a:Nat):Int)=(X b:Int)
 refine jT (dT h) (sr (Mz Z (Mz Z (WL.do Z (Kk (k:=X b) (m:=1) (jo) H Z Z (eO F0 (di H (i:=1) Z lT) (cO aG.one ([c]))) Z U (s:=X (b++ [c])) f6 (List.flatMap_append).symm ?_)))))
 intro G I _ J
 have Z0:X (b++ [c])=X b+1:=by simp only [o3,q6,L0]
 refine An Z (rt (tR (rs ?_)))
 obtain rfl:=zj hr zq1
 exact⟨G,I,Z,(J.pk [0]),U⟩
 refine jF (dF h) (sk (JS (sr (Mz Z (Mz Z (fw (vJ (X b+1)) (J4 (e:=D3.wrap ((X b:Int)+1)) yk f4) (Mz Z (Kz (vJ d) (Kz (Za (((X b+1:Nat):Int) > (d:Int))) (nt ?_))))))))))
 by_cases z:((X b+1:Nat):Int) > (d:Int)
 refine jT (dT z) (sr (Mz Z (fw (vJ (W a)) (J4 (e:=a) (J3 Z) U) (fw (T f (W a) d) (KN (jo) Z Z U) (Mz Z (Mz Z (fw (vJ (X b+1)) (J4 (e:=D3.wrap ((X b:Int)+1)) yk f4) (fw (vJ (W a)) (J4 (e:=a) (J3 Z) U) (fw (vJ ((X b+1) - (W a))) (J4 (e:=D3.wrap (((X b+1:Nat):Int) - ((W a:Nat):Int))) yk f4) ?_)))))))))
 have aa:X (u2 (W a) b++(c::r8 (W a) b))=X b+1:=by simp only [o3,o1,q6,o2]; omega
 refine WL.do Z (KW (k:=W a) (m:=(X b+1) - (W a)) (jo) Tryz.underlying3 H Z Z U U U Z U (s:=X (u2 (W a) b++(c::r8 (W a) b))) U ?_)
 intro j g _ _ A n
 have L:=n.rowLe (i:=0) Z
 refine Ar Z (Mz Z (fw (vJ (W a)) (J4 (e:=a) (J3 Z) U) (fw (T (fA j (W a) 2 g) ((X (u2 (W a) b++(c::r8 (W a) b))) - (W a)) (g - (W a))) (Kv (jo) Z Z U) (Mz Z (WL.do Z (KJ (lo:=W a) (k:=1) (jo) n Z (λ _=>ig ((n.rds (i:=0) Z).isSome U) U) U Z (di n (i:=2) Z lT) U (λ u hu=>cO aG.one _ u (M1 hu)) Z ?_))))))
 intro _ M
 refine nt (JS (yH [8] (J6 (J6 Kg)) M ?_))
 intro _ o
 refine qv 0 Z Z (qt (v:=vJ (W a)) 1 Z (λ _ _=>J4 (e:=a) (J3 Z) U) (qv 2 Z Z (qt (v:=vJ (W a+1)) 3 Z (λ _ _=>J4 (e:=D3.wrap (((W a:Nat):Int)+1)) yk f4) (qt (v:= T (fA j (W a+1) 2 g) ((X (u2 (W a) b++(c::r8 (W a) b))) - (W a+1)) (g - (W a+1))) 4 Z (λ _ _=>Kv (jo) Z Z U) (qv 5 Z Z (qt (v:=vJ (W a)) 6 Z (λ _ _=>J4 (e:=a) (J3 Z) U) (qt (v:= T (fA f (W a) 2 d) (X b - (W a)) (d - (W a))) 7 Z (λ _ _=>Kv (jo) Z Z U) (qd 8 Z (KJ (lo:=W a+1) (k:=X b - W a) (jo) o Z (λ _=>ig ((o.rds (i:=0) Z).isSome U) U) U Z (KP (lo:=W a) aG.len (o.rds (i:=1) Z) U U f7) U (λ u hu=>cO aG.one _ u (M1 hu)) Z ?_)))))))))
 intro Z5 Z6
 refine⟨.inl f1, (qn (JY (sr (Mz Z (An Z (rt (tR (rs ?_))))))))⟩
 have P:Own w D Z5 [row j (X (u2 (W a) b++(c::r8 (W a) b))) g (q1 aG.L (u2 (W a) b++(c::r8 (W a) b))) 67 2,row f (X b) d (q1 aG.L b) 67 2,mF C 1 (q1 aG.L ([c])) 67 2]:=Z6.rowPart U (uD (l:=b) (k2:=X b - W a) aG.len U A Z Z U)
 obtain rfl:=zj hr zq1
 exact⟨j,g,Z,(P.pk [0]),U⟩
 refine jF (dF z) (sk (sr ?_))
 have B:X (u2 (W a) b++(c::r8 (W a) b))=X b+1:=by simp only [o3,o1,q6,o2]; omega
 obtain⟨_,p,R⟩:=H.rowFull
 refine Mz Z (Mz Z (Mz Z (fw (vJ (X b+1)) (J4 (e:=D3.wrap ((X b:Int)+1)) yk f4) (fw (T f (X (u2 (W a) b++(c::r8 (W a) b))) d) (Yl.to (KN (jo) Z Z U) (ZX (λ q=>Value.slice f q d) B.symm)) (An Z (JS (sr (Mz Z (Mz Z (fw (vJ (W a)) (J4 (e:=a) (J3 Z) U) (Mz Z (fw (vJ (W a+1)) (J4 (e:=D3.wrap (((W a:Nat):Int)+1)) yk f4) (fw (T (fA f (W a+1) 2 d) ((X (u2 (W a) b++(c::r8 (W a) b))) - (W a+1)) (d - (W a+1))) (Kv (jo) Z Z U) ?_)))))))))))))
 have r:=R.pb [0]
 refine fw (Y O) (KY (lo:=W a+1) (run_callFunc_extern Tryz.func201 f1 f1 f1 (e:=Extern.SlicesOverlaps.overlaps #[22,22] #[4]) f1) F0 L3 r f7 U Z (ig ((r.rds (i:=1) Z).isSome U) U)) (Kz (Y Zj) (nt (jt (JS (oZ [8] (J6 (J6 Kg)) r ?_)))))
 intro _ S
 refine qv 0 Z Z (qt (v:=vJ (W a)) 1 Z (λ _ _=>J4 (e:=a) (J3 Z) U) (qv 2 Z Z (qt (v:=vJ (W a+1)) 3 Z (λ _ _=>J4 (e:=D3.wrap (((W a:Nat):Int)+1)) yk f4) (qt (v:= T (fA f (W a+1) 2 d) ((X (u2 (W a) b++(c::r8 (W a) b))) - (W a+1)) (d - (W a+1))) 4 Z (λ _ _=>Kv (jo) Z Z U) (qv 5 Z Z (qt (v:=vJ (W a)) 6 Z (λ _ _=>J4 (e:=a) (J3 Z) U) (qt (v:= T (fA f (W a) 2 d) ((X (u2 (W a) b++(c::r8 (W a) b))) - (W a)) (d - (W a))) 7 Z (λ _ _=>Kv (jo) Z Z U) ?_)))))))
 have t:=S.pb [0]
 refine qd 8 Z (KJ (lo:=W a+1) (k:=X b - W a) (jo) t Z (λ _=>ig ((t.rds (i:=0) Z).isSome U) U) U Z (bV.cut (lo:=W a) (hi:=X (u2 (W a) b++(c::r8 (W a) b))) (t.rds (i:=0) Z) U U U) U (λ u hu=>cO aG.one _ u (by rw [uE aG.len U Z U] at hu; exact hu)) Z ?_)
 intro _ x
 refine⟨.inl f1, (qn (JY (sr (Mz Z (fw (vJ (W a)) (J4 (e:=a) (J3 Z) U) (fw (T (fA f (W a) 2 d) ((X (u2 (W a) b++(c::r8 (W a) b))) - (W a)) (d - (W a))) (Kv (jo) Z Z U) (Mz Z (WL.do Z (KJ (lo:=W a) (k:=1) (jo) x Z (λ _=>ig ((x.rds (i:=0) Z).isSome U) U) U Z (di x (i:=1) Z lT) U (λ u hu=>cO aG.one _ u (M1 hu)) Z ?_)))))))))⟩
 intro Z7 Z3
 refine ns (Mz Z (An Z (rt (tR (rs ?_)))))
 have Z4:Own w D Z7 [row f (X (u2 (W a) b++(c::r8 (W a) b))) d (q1 aG.L (u2 (W a) b++(c::r8 (W a) b))) 67 2,mF C 1 (q1 aG.L ([c])) 67 2]:=Z3.rowPart U (uF (l:=b) (m:=(X (u2 (W a) b++(c::r8 (W a) b))) - W a) (k2:=X b - W a) aG.len U (by rw [p]; exact Nat.le_mul_of_pos_left 2 U) Z Z U U)
 obtain rfl:=zj hr zq1
 exact⟨f,d,Z,(Z4.pk [0]),U⟩
def vT (d:List aG) (e:aV):(List aG) × dA:=
 bnd (iR d e.j) λ a=>bnd (if a.2=Zj then d else bnd (iW d a.1 (aG.q e.j [])) λ b=>b) λ sJrbJ=>bnd (J0 sJrbJ (W a.1) Zy) λ c=>((M2 sJrbJ (W a.1) (aG.q c.j e.k)),dA.q O [] (N []))
theorem EQ (w D M n0 Z5 f) (d:aV) (Z6) (L:dA) (H:Own w D w [row M n0 Z5 (q1 aG.L f) 67 2]) (aj:n0=X f) (aT:X f *32<=211106232532992) (aU:(X f+1) *32<=211106232532992) (hr:vT f d=(Z6,L)):
    Calls y3 104 #[T M n0 Z5, Zq (Zb (aV.L d))] w (dI λ v w'=> ∃ B0 b0 z A,v= .tuple #[T B0 (X Z6) b0, Zq #[Y L.b, Z9 ⟨Zb L.k⟩, T z (X L.a.a) A]]/\Own w D w' [row B0 (X Z6) b0 (q1 aG.L Z6) 67 2,row z (X L.a.a) A (q1 aG.L L.a.a) 67 2]/\(X Z6<=X f+1)):=by
 unfold vT at hr
 subst aj
 have aW:=H.rowC (i:=0) Z
 refine cb Tryz.func104 ?_
 refine sr ?_
 refine cB (aV.L d) 62 H ?_
 intro p _ ak
 refine Az Z (cB [Y O, Z9 ⟨Zb []⟩, T Zk 0 0] 65 ak ?_)
 intro r _ P
 refine ns (Mz Z (Kz (vP p 1) (Lz (Z9 ⟨Zb d.j⟩) P 1 B9 ?_)))
 obtain⟨⟨a,g⟩,B⟩:∃ q:Int × Bool,iR f d.j=q:=⟨_,Z⟩
 obtain⟨_,Q,_,R,S⟩:=JZ P
 refine cl L4 (sF _ _ M (X f) Z5 f d.j a g Q (S _ 2 _ Z bB) Z U B) ?_
 rintro _ _ ⟨rfl,Z7,C,E⟩
 have I:=R _ _ Z7
 replace C:=C
 replace E:=E
 refine Mz Z (Kz (vI a) (Kz (Y g) (Az Z (An Z (JS (sr (Mz Z (Kz (Y (!g)) (nt ?_)))))))))
 obtain⟨au,s⟩:=yG λ c (h:Nat) b w'=>Own w D w' [blk r [Y O, Z9 ⟨Zb []⟩, T Zk 0 0] 65,blk p (aV.L d) 62,row c (X b) h (q1 aG.L b) 67 2]/\X b<=X f+1/\X f<=X b/\a < (X b:Int)/\(if g=Zj then f else bnd (iW f a (aG.q d.j [])) λ Z3=>Z3)=b
 refine K5 (λ i:(Option Addr) × Nat × (List aG)=> [(0, T i.1 (X i.2.2) i.2.1),(6,vI a),(5,vP r 0),(4, T Zk 0 0),(3,vP p 0)]) au ?_ ?_
 rcases Nv (g) with j | j
 have h45t:Zd g=1:=by rw [j]; rfl
 exact jF (cn j) (Ko (KM (M,Z5,f) ⟨Z,Z,Z,Z,Z,ZV⟩ (s.2 ⟨(I.pf []),U,U,U,ip j⟩)))
 have h45t:Zd g=0:=by rw [j]; rfl
 refine jT (cn j) (JW (Mz Z (Mz Z (Kz (vP p 1) (Lz (Z9 ⟨Zb d.j⟩) I 1 B9 (Kz (Zq #[Z9 ⟨Zb d.j⟩, Z9 ⟨Zb []⟩]) (WL.do Z (K6 (cs:= [Z9 ⟨Zb d.j⟩, Z9 ⟨Zb []⟩]) (t:=67) (sz:=2) (m:=1) I Z Z ZY Z ?_))))))))
 intro Z4 _ J
 replace J:=Ku (y:=mF Z4 1 (q1 aG.L ([(aG.q d.j [])])) 67 2) Z J
 obtain⟨K,F⟩:∃ q,iW f a (aG.q d.j [])=q:=⟨_,Z⟩
 obtain⟨_,Z8,_,Z1,_⟩:=KE (J.pf [3])
 refine cl Tryz.call161 (qN _ _ M (X f) Z5 f a Z4 (aG.q d.j []) K Z8 Z U U F) ?_
 rintro _ _ ⟨ay,az,rfl,Z2,G⟩
 have Z0:=Z1 _ _ Z2
 have aP:=Z0.rowC (i:=0) Z
 replace G:=G
 exact Az Z (WL.nil (KM (ay,az,K) ⟨Z,Z,Z,Z,Z,ZV⟩ (s.2 ⟨(Z0.pb [0]),U,U,U,V (eD j) (ae F)⟩)))
 rintro ⟨c,h,b⟩ _ aa
 show Wp _ _ _ [(0, T c (X b) h),(6,vI a),(5,vP r 0),(4, T Zk 0 0),(3,vP p 0)] _ _
 obtain⟨x,_,_,_,af⟩:=s.1 aa
 refine sr (Mz Z (fw (vJ (W a)) (J4 (e:=a) (J3 Z) U) (Kz (vP p 2) (Lz (Z9 ⟨Zb d.k⟩) x 1 B9 ?_))))
 obtain⟨l,u⟩:=dM (ls:=b) (i:=W a) aG.len f7 (x.rds (i:=2) Z) f5
 refine fw (Zz (Zv ⟨ab c,ao c+(W a) *2,Zk⟩)) (J9 (jo) Z Z ((x.rds (i:=2) Z).addr (i:=W a) U) U) (Kz (Zz (Zv ⟨ab c,ao c+(W a) *2+1,Zk⟩)) (KO (Do.storeRow (vs:= [Z9 ⟨Zb d.k⟩]) (o:=(W a) *2+1) (q:=ao c+(W a) *2+1) (x.pf [2]) Z U Z Tryz.sizeOf9 Z Z (Nr Z) (j3 aG.len u (Nr Z)) (kV (y:=(aG.q l.j d.k)) aG.len Z (Nr Z) u) ?_)))
 intro _ aC
 refine nt (JS (JW (Mz Z (Kz (Zq #[Y O, Z9 ⟨Zb []⟩, T Zk 0 0]) (Az Z ?_)))))
 have aF:=(aC.pk [0,1]).pb [0]
 refine cu [Y O, Z9 ⟨Zb []⟩, T Zk 0 0] 0 aF L5 ?_
 intro ag ah
 refine nt (rt (Ke (fQ (vs:= [T c (X b) h, Zq #[Y O, Z9 ⟨Zb []⟩, T Zk 0 0]]) Z (bS.tmp Z (bS.cell Z (J7 (cs:= [Y O, Z9 ⟨Zb []⟩, T Zk 0 0]) L7 L5 ((ah.cls (i:=0) Z).lit (k:=0) (m:=3) Z)) bS.nil)) (Nr Z)) ?_))
 have n:X b=X (M2 b (W a) (aG.q l.j d.k)):=by first | omega | (simp only [N0]; done) | (simp only [N0,o3,q6,L0,o1,o2,List.length_replicate]; omega)
 have aH:Own w D ag [blk r [Y O, Z9 ⟨Zb []⟩, T Zk 0 0] 65,row c (X (M2 b (W a) (aG.q l.j d.k))) h (q1 aG.L (M2 b (W a) (aG.q l.j d.k))) 67 2]:=by rw [<- n]; exact ah
 have aJ:=(aH.free (bW 67 2)).pk [2,0]
 obtain⟨rfl,rfl⟩:=fI (zj hr (show _=((M2 b (W a) (aG.q l.j d.k)),dA.q false ([]) (N ([]))) from V (ae B) (V (ae af) (ae (bG u)))))
 exact⟨c,h,none,0,(by first | rfl | (rw [<- n]; done) | (rw [<- n]; rfl) | (rw [n]; first | done | rfl)),aJ,U⟩
def iE (a:List aG) (b:Int) (c:Int):(List aG):=
 if b=c then a else(u2 (W b) a++r8 (W c) a)
theorem nz (w D f o d a c b j) (H:Own w D w [row f o d (q1 aG.L a) 67 2]) (p:o=X a) (J:X a *32<=211106232532992) (K:0<=c/\c<=b/\b<=((X a:Nat):Int)) (hr:iE a c b=j):
    Calls y3 162 #[T f o d,vI c,vI b] w (dI λ v w'=> ∃ B C,v= T B (X j) C/\Own w D w' [row B (X j) C (q1 aG.L j) 67 2]/\(X j<=X a)):=by
 unfold iE at hr
 subst p
 have L:=H.rowC (i:=0) Z
 refine cb Tryz.func162 ?_
 refine sr (Ar Z (Mz Z (fw (vJ (W c)) (J4 (e:=c) (J3 Z) U) (fw (vJ (W b)) (J4 (e:=b) (J3 Z) U) (Mz Z (Kz (vJ (X a)) (fw (T (fA f (W c) 2 (X a)) ((W b) - (W c)) (X a - (W c))) (Lx (jo) Z Z Z Z U U U) (nt (JS (sr (Mz Z (Mz Z (Kz (Za (c=b)) (nt ?_))))))))))))))
 by_cases h:c=b
 refine jT (dT h) (sr (Mz Z (An Z (rt (tR (rs ?_))))))
 obtain rfl:=zj hr zq1
 exact⟨f,d,Z,(H.pf []),U⟩
 refine jF (dF h) (sk (sr (Mz Z (Kz (vJ (X a)) (An Z (JS ?_))))))
 have g:=H.drew
 refine K8 [6] (λ Z8=> ∃ L',Own w D Z8 ([row f (X a) d (q1 aG.L a) 67 2]++L')) f1 f1 (J6 Kg) ⟨_,g⟩ ?_
 revert g
 generalize World.drew w=r
 intro g
 refine qv 0 Z Z (qt (v:=vJ (W c)) 1 Z (λ _ _=>J4 (e:=c) (J3 Z) U) (qt (v:= T f (W c) d) 2 Z (λ _ _=>KN (jo) Z Z U) (qv 3 Z Z (qt (v:=vJ (W b)) 4 Z (λ _ _=>J4 (e:=b) (J3 Z) U) (qt (v:= T (fA f (W b) 2 d) (X a - (W b)) (d - (W b))) 5 Z (λ _ _=>Kv (jo) Z Z U) ?_)))))
 have E:X (u2 (W c) a++r8 (W b) a)=W c+(X a - W b):=by simp only [o3,o1,o2]; omega
 have l:Src y3 2 22 (T (fA f (W b) 2 d) (X a - (W b)) (d - (W b))) (X a - W b) (q1 aG.L (r8 (W b) a)) r:=eO F0 (KP (lo:=W b) aG.len (g.rds (i:=0) Z) U U f7) (cO aG.one (r8 (W b) a))
 obtain⟨F,t,u⟩:=g.rowFull
 refine qd 6 Z (KX (k:=W c) (m:=X a - W b) (jo) u Z Z l U (s:=X (u2 (W c) a++r8 (W b) a)) U ?_)
 intro M n
 refine⟨.inl f1, (Kr (v:= T f (X (u2 (W c) a++r8 (W b) a)) d) 7 Z f1 (λ _=>KV Z) (qn (JY (sr (Mz Z (Mz Z (Kz (vI ((X (u2 (W c) a++r8 (W b) a):Nat):Int)) (Mz Z (fw (T (fA f (X (u2 (W c) a++r8 (W b) a)) 2 d) (X a - (X (u2 (W c) a++r8 (W b) a))) (d - (X (u2 (W c) a++r8 (W b) a)))) (Yl.cut (jo) Z Z Z U U) (KO (Lp (z0:=(Zq #[Z9 ⟨Zb []⟩, Z9 ⟨Zb []⟩])) (lo:=X (u2 (W c) a++r8 (W b) a)) (nd:=(X a - (X (u2 (W c) a++r8 (W b) a)))) f1 Z (jo) n Z (λ _=>ig ((n.rds (i:=0) Z).isSome U) U) U ?_)))))))))))⟩
 intro x G I y
 refine ns (Mz Z (An Z (rt (rs ?_))))
 have A:=(y.rowPart U (tZ aG.len U U Z)).pf []
 obtain rfl:=zj hr zq1
 exact⟨f,d,Z,A,U⟩
def vV (c:List aG) (d:aV):(List aG) × dA:=
 bnd (iR c d.j) λ a=>if a.2=Zj then bnd (iE c a.1 (a.1+1)) λ b=>(b,dA.q O [] (N [])) else(c,dA.q O [] (N []))
theorem ER (w D r P s b) (x:aV) (z) (y:dA) (H:Own w D w [row r P s (q1 aG.L b) 67 2]) (Q:P=X b) (av:X b *32<=211106232532992) (ax:(X b+1) *32<=211106232532992) (hr:vV b x=(z,y)):
    Calls y3 105 #[T r P s, Zq (Zb (aV.L x))] w (dI λ v w'=> ∃ B0 b0 h j,v= .tuple #[T B0 (X z) b0, Zq #[Y y.b, Z9 ⟨Zb y.k⟩, T h (X y.a.a) j]]/\Own w D w' [row B0 (X z) b0 (q1 aG.L z) 67 2,row h (X y.a.a) j (q1 aG.L y.a.a) 67 2]/\(X z<=X b+1)):=by
 unfold vV at hr
 subst Q
 have ay:=H.rowC (i:=0) Z
 refine cb Tryz.func105 ?_
 refine sr ?_
 refine cB (aV.L x) 62 H ?_
 intro R _ S
 refine Az Z (cB [Y O, Z9 ⟨Zb []⟩, T Zk 0 0] 65 S ?_)
 intro A _ B
 refine nt (JS (sr (Mz Z (Kz (vP R 1) (Lz (Z9 ⟨Zb x.j⟩) B 1 B9 ?_)))))
 obtain⟨⟨a,d⟩,g⟩:∃ q:Int × Bool,iR b x.j=q:=⟨_,Z⟩
 obtain⟨_,C,_,E,F⟩:=JZ B
 refine cl L4 (sF _ _ r (X b) s b x.j a d C (F _ 2 _ Z bB) Z U g) ?_
 rintro _ _ ⟨rfl,G,l,n⟩
 replace l:=l
 replace n:=n
 refine Mz Z (Kz (vI a) (Kz (Y d) (Az Z (An Z (JS ?_)))))
 have I:=(E _ _ G).pk [0,2]
 refine JW (Mn Z ?_)
 rcases Nv (d) with c | c
 have h41t:Zd d=1:=by rw [c]; rfl
 refine jT c (JW (Mz Z (Mz Z (Mz Z (fw (vI (a+1)) (J4 (e:=D3.wrap (a+1)) yk i7) ?_)))))
 obtain⟨f,o⟩:∃ q,iE b a (a+1)=q:=⟨_,Z⟩
 obtain⟨_,J,_,K,_⟩:=Kt (I.pb [0])
 refine cl Tryz.call162 (nz _ _ r (X b) s b a (a+1) f J Z U U o) ?_
 rintro _ _ ⟨t,u,rfl,L,p⟩
 have M:=K _ _ L
 have au:=M.rowC (i:=0) Z
 replace p:=p
 refine Ar Z (Mz Z (Kz (Zq #[Y O, Z9 ⟨Zb []⟩, T Zk 0 0]) (Az Z (cu [Y O, Z9 ⟨Zb []⟩, T Zk 0 0] 0 (M.pb [0]) L5 ?_))))
 intro Z8 Z5
 refine nt (rt (Ke (fQ (vs:= [T t (X f) u, Zq #[Y O, Z9 ⟨Zb []⟩, T Zk 0 0]]) Z (bS.tmp Z (bS.cell Z (J7 (cs:= [Y O, Z9 ⟨Zb []⟩, T Zk 0 0]) L7 L5 ((Z5.cls (i:=0) Z).lit (k:=0) (m:=3) Z)) bS.nil)) (Nr Z)) ?_))
 have Z2:=(Z5.free (bW 67 2)).pk [2,0]
 obtain⟨rfl,rfl⟩:=fI (zj hr zq3)
 exact⟨t,u,Zk,0,Z,Z2,U⟩
 have h41t:Zd d=0:=by rw [c]; rfl
 refine jF c (sk (sr (Mz Z (Kz (Zq #[Y O, Z9 ⟨Zb []⟩, T Zk 0 0]) (Az Z (cu [Y O, Z9 ⟨Zb []⟩, T Zk 0 0] 0 I L5 ?_))))))
 intro Z0 Z6
 refine nt (rt (Ke (fQ (vs:= [T r (X b) s, Zq #[Y O, Z9 ⟨Zb []⟩, T Zk 0 0]]) Z (bS.tmp Z (bS.cell Z (J7 (cs:= [Y O, Z9 ⟨Zb []⟩, T Zk 0 0]) L7 L5 ((Z6.cls (i:=0) Z).lit (k:=0) (m:=3) Z)) bS.nil)) (Nr Z)) ?_))
 have af:=(Z6.free (bW 67 2)).pk [2,0]
 obtain⟨rfl,rfl⟩:=fI (zj hr zq2)
 exact⟨r,s,Zk,0,Z,af,U⟩
def kG (c:List aG) (d:ai):Int × Int:=
 bnd (iR c d.a) λ a=>if d.b=[] then(a.1,((X c:Nat):Int)) else bnd (iR c d.b) λ b=>(a.1,b.1)
theorem xH (w D C G I a) (d:ai) (E F) (H:Own w D w []) (p:Ro w D λ w'=>bV w' 2 C G (q1 aG.L a)) (J:G=X a) (P:X a *32<=211106232532992) (hr:kG a d=(E,F)):
    Calls y3 163 #[T C G I, Zq (Zb (ai.L d))] w (dI λ v w'=>v= .tuple #[vI E,vI F]/\Own w D w' []/\(0<=E/\E<=((X a:Nat):Int)/\0<=F/\F<=((X a:Nat):Int))):=by
 unfold kG at hr
 subst J
 refine cb Tryz.func163 ?_
 refine sr ?_
 refine cB (ai.L d) 38 H ?_
 intro m Q r
 refine Az Z (Ar Z (Mz Z (Kz (vP m 0) (Lz (Z9 ⟨Zb d.a⟩) r 0 B9 ?_))))
 obtain⟨⟨b,n⟩,e⟩:∃ q:Int × Bool,iR a d.a=q:=⟨_,Z⟩
 obtain⟨R,s,t,u,_⟩:=JZ r
 refine cl L4 (sF _ _ C (X a) I a d.a b n s (t _ p) Z U e) ?_
 rintro _ S ⟨rfl,x,h,i⟩
 have f:=u _ _ x
 replace h:=h
 replace i:=i
 refine Mz Z (Kz (vI b) (Kz (Y n) (Az Z (An Z (JS (sr (Kz (vP m 1) (Lz (Z9 ⟨Zb d.b⟩) f 0 B9 (fw (Za (d.b=[])) (Lb Z Z) (nt ?_))))))))))
 by_cases g:d.b=[]
 refine jT (dT g) (sr (Mz Z (Mz Z (Kz (vJ (X a)) (Az Z (An Z (rt (tR (Ke (lw Z Z Z) ?_)))))))))
 obtain⟨rfl,rfl⟩:=fI (zj hr zq2)
 exact⟨Z,(f.pk []),U⟩
 refine jF (dF g) (sk (sr (Mz Z (Kz (vP m 1) (Lz (Z9 ⟨Zb d.b⟩) f 0 B9 ?_)))))
 obtain⟨⟨c,o⟩,j⟩:∃ q:Int × Bool,iR a d.b=q:=⟨_,Z⟩
 obtain⟨_,y,z,A,_⟩:=JZ f
 refine cl L4 (sF _ _ C (X a) I a d.b c o y (z _ p) Z U j) ?_
 rintro _ _ ⟨rfl,B,k,l⟩
 replace k:=k
 replace l:=l
 refine Mz Z (Kz (vI c) (Kz (Y o) (Az Z (Ar Z (Mz Z (Mz Z (Az Z (An Z (rt (Ke (lw Z Z Z) ?_))))))))))
 have M:=(A _ _ B).pk []
 obtain⟨rfl,rfl⟩:=fI (zj hr zq3)
 exact⟨Z,M,U⟩
def sG (a:List aG):(List aG):=
 a
theorem nJ (w D e g x a f) (H:Own w D w []) (d:Ro w D λ w'=>bV w' 2 e g (q1 aG.L a)) (h:g=X a) (y:X a *32<=211106232532992) (hr:sG a=f):
    Calls y3 164 #[T e g x] w (dI λ v w'=> ∃ t u,v= T t (X f) u/\Own w D w' [row t (X f) u (q1 aG.L f) 67 2]):=by
 subst h
 refine cb Tryz.func164 ?_
 refine sr (An Z (JS (sr (Mz Z (fw (Y (Option.isNone e)) (KZ F0 Z Z) (nt ?_))))))
 rcases Nv (Option.isNone e) with b | b
 obtain rfl:a= []:=tu (enc:=aG.L) (H.ro d) b
 refine jT b (sr (An Z (rt (tR (rs ?_)))))
 have j:=(H.free (bW 67 2)).pf []
 obtain rfl:_=[]:=zj hr Z
 exact⟨Zk,0,Z,j⟩
 refine jF b (sk (sr (j6 [] 67 2 0 H ?_)))
 intro l n c
 replace c:=c
 refine Mz Z (WL.do Z (Kk (k:=0) (m:=X a) (jo) c Z Z (eO F0 (c.ro d) (cO aG.one a)) Z U (s:=X a) U Z ?_))
 intro o p z q
 refine An Z (rt (rs ?_))
 obtain rfl:_=a:=zj hr Z
 exact⟨o,p,Z,(q.pf [])⟩
def uz (c:List aG) (d:aV):(List aG) × dA:=
 bnd (gF d) λ b=>bnd (kG c b) λ a=>(c,dA.q O [] (N (u2 ((W (min a.2 (a.1+d.r))) - (W a.1)) (r8 (W a.1) c))))
theorem Eg (w D r Z6 l d) (c:aV) (u) (t:dA) (H:Own w D w [row r Z6 l (q1 aG.L d) 67 2]) (P:Z6=X d) (ak:X d *32<=211106232532992) (au:(X d+1) *32<=211106232532992) (Q:(kG d (gF c)).1<=(kG d (gF c)).2) (av:1<=c.r/\c.r<=4) (hr:uz d c=(u,t)):
    Calls y3 109 #[T r Z6 l, Zq (Zb (aV.L c))] w (dI λ v w'=> ∃ Z1 Z2 n o,v= .tuple #[T Z1 (X u) Z2, Zq #[Y t.b, Z9 ⟨Zb t.k⟩, T n (X t.a.a) o]]/\Own w D w' [row Z1 (X u) Z2 (q1 aG.L u) 67 2,row n (X t.a.a) o (q1 aG.L t.a.a) 67 2]/\(X u<=X d+1)):=by
 unfold uz at hr
 subst P
 have ax:=H.rowC (i:=0) Z
 refine cb Tryz.func109 ?_
 refine sr ?_
 refine cB (aV.L c) 62 H ?_
 intro R _ S
 refine Az Z (cB [Y O, Z9 ⟨Zb []⟩, T Zk 0 0] 65 S ?_)
 intro _ _ x
 refine ns (Mz Z (La (aV.L c) x 1 Tryz.isAgg62 Tryz.sizeOf62 ?_))
 obtain⟨s,f⟩:∃ q,gF c=q:=⟨_,Z⟩
 obtain⟨_,y,_,z,_⟩:=JZ x
 refine cl Tryz.call108 (l6 _ _ c s y f) ?_
 rintro _ _ ⟨rfl,A⟩
 obtain⟨⟨a,b⟩,g⟩:∃ q:Int × Int,kG d s=q:=⟨_,Z⟩
 obtain⟨_,B,_,C,E⟩:=JZ (z _ _ A)
 refine cl Tryz.call163 (xH _ _ r (X d) l d s a b B (E _ 2 _ Z bB) Z U g) ?_
 rintro _ _ ⟨rfl,F,p⟩
 have G:=C _ _ F
 replace p:=p
 have ag:a<=b:=by
    have q:=Q
    rw [f,g] at q
    exact q
 refine Mz Z (Kz (vI a) (Kz (vI b) (Az Z (Ar Z (Mz Z (Mz Z (Kz (vP R 5) (Lz (vI c.r) G 1 Tryz.isAgg3 (fw (vI (a+c.r)) (J4 (e:=D3.wrap (a+c.r)) yk i7) (fw (vI (min b (a+c.r))) (J4 (e:=if a+c.r < b then a+c.r else b) yk U) (An Z (JS (JW (Mz Z (Mz Z (fw (vJ (W a)) (J4 (e:=a) (J3 Z) U) (fw (vI ((W (min b (a+c.r)):Nat):Int)) (J4 (e:=min b (a+c.r)) (J3 Z) U) (fw (T (fA r (W a) 2 l) ((W (min b (a+c.r))) - (W a)) (l - (W a))) (Yl.cut (jo) Z Z Z U U) ?_))))))))))))))))))
 have ah:=g7
 obtain⟨_,I,_,J,K⟩:=JZ (G.pk [0,2])
 refine cl Tryz.call164 (nJ _ _ (fA r (W a) 2 l) ((W (min b (a+c.r))) - (W a)) (l - (W a)) (u2 ((W (min b (a+c.r))) - (W a)) (r8 (W a) d)) (u2 ((W (min b (a+c.r))) - (W a)) (r8 (W a) d)) I (λ w9 h9=>bV.cutE (lo:=W a) (hi:=W (min b (a+c.r))) aG.len ((K _ 1 _ Z bB) w9 h9) U U U) g7 i8 Z) ?_
 rintro _ _ ⟨h,j,rfl,L⟩
 have M:=J _ _ L
 have aj:=M.rowC (i:=0) Z
 refine Kz (Zq #[Y O, Z9 ⟨Zb []⟩, T h (X (u2 ((W (min b (a+c.r))) - (W a)) (r8 (W a) d))) j]) (Az Z (cu [Y O, Z9 ⟨Zb []⟩, T h (X (u2 ((W (min b (a+c.r))) - (W a)) (r8 (W a) d))) j] 0 (M.pf [1]) L5 ?_))
 intro _ Z5
 refine nt (rt (Ke (fQ (vs:= [T r (X d) l, Zq #[Y O, Z9 ⟨Zb []⟩, T h (X (u2 ((W (min b (a+c.r))) - (W a)) (r8 (W a) d))) j]]) Z (bS.tmp Z (bS.cell Z (J7 (cs:= [Y O, Z9 ⟨Zb []⟩, T h (X (u2 ((W (min b (a+c.r))) - (W a)) (r8 (W a) d))) j]) L7 L5 ((Z5.cls (i:=0) Z).lit (k:=0) (m:=3) Z)) bS.nil)) (Nr Z)) ?_))
 obtain⟨rfl,rfl⟩:=fI (zj hr zq2)
 exact⟨r,l,h,j,Z,(Z5.pk [2,1]),U⟩
def uA (d:List aG) (e:aV):(List aG) × dA:=
 bnd (gF e) λ b=>bnd (kG d b) λ a=>bnd (iE d a.1 a.2) λ c=>(c,dA.q O [] (N []))
theorem Eh (w D M Z6 Z5 a) (g:aV) (u) (t:dA) (H:Own w D w [row M Z6 Z5 (q1 aG.L a) 67 2]) (P:Z6=X a) (ay:X a *32<=211106232532992) (az:(X a+1) *32<=211106232532992) (Q:(kG a (gF g)).1<=(kG a (gF g)).2) (hr:uA a g=(u,t)):
    Calls y3 112 #[T M Z6 Z5, Zq (Zb (aV.L g))] w (dI λ v w'=> ∃ B0 b0 h j,v= .tuple #[T B0 (X u) b0, Zq #[Y t.b, Z9 ⟨Zb t.k⟩, T h (X t.a.a) j]]/\Own w D w' [row B0 (X u) b0 (q1 aG.L u) 67 2,row h (X t.a.a) j (q1 aG.L t.a.a) 67 2]/\(X u<=X a+1)):=by
 unfold uA at hr
 subst P
 have aA:=H.rowC (i:=0) Z
 refine cb Tryz.func112 ?_
 refine sr ?_
 refine cB (aV.L g) 62 H ?_
 intro _ _ R
 refine Az Z (cB [Y O, Z9 ⟨Zb []⟩, T Zk 0 0] 65 R ?_)
 intro S _ x
 refine ns (Mz Z (La (aV.L g) x 1 Tryz.isAgg62 Tryz.sizeOf62 ?_))
 obtain⟨p,e⟩:∃ q,gF g=q:=⟨_,Z⟩
 obtain⟨_,y,_,z,_⟩:=JZ x
 refine cl Tryz.call108 (l6 _ _ g p y e) ?_
 rintro _ _ ⟨rfl,A⟩
 obtain⟨⟨b,c⟩,f⟩:∃ q:Int × Int,kG a p=q:=⟨_,Z⟩
 obtain⟨_,B,_,C,E⟩:=JZ (z _ _ A)
 refine cl Tryz.call163 (xH _ _ M (X a) Z5 a p b c B (E _ 2 _ Z bB) Z U f) ?_
 rintro _ _ ⟨rfl,F,l⟩
 replace l:=l
 have ak:b<=c:=by
    have q:=Q
    rw [e,f] at q
    exact q
 refine Mz Z (Kz (vI b) (Kz (vI c) (Az Z (An Z (JS ?_)))))
 have Z4:=(C _ _ F).pk [0,2]
 refine JW (Mz Z (Mz Z (Mz Z ?_)))
 have Z8:=Z4.pb [0]
 obtain⟨d,n⟩:∃ q,iE a b c=q:=⟨_,Z⟩
 obtain⟨_,G,_,I,_⟩:=Kt Z8
 refine cl Tryz.call162 (nz _ _ M (X a) Z5 a b c d G Z U U n) ?_
 rintro _ _ ⟨r,s,rfl,J,o⟩
 have K:=I _ _ J
 have ax:=K.rowC (i:=0) Z
 replace o:=o
 refine Kz (Zq #[Y O, Z9 ⟨Zb []⟩, T Zk 0 0]) (Az Z (cu [Y O, Z9 ⟨Zb []⟩, T Zk 0 0] 0 (K.pb [0]) L5 ?_))
 intro Z2 L
 refine nt (rt (Ke (fQ (vs:= [T r (X d) s, Zq #[Y O, Z9 ⟨Zb []⟩, T Zk 0 0]]) Z (bS.tmp Z (bS.cell Z (J7 (cs:= [Y O, Z9 ⟨Zb []⟩, T Zk 0 0]) L7 L5 ((L.cls (i:=0) Z).lit (k:=0) (m:=3) Z)) bS.nil)) (Nr Z)) ?_))
 have aa:=(L.free (bW 67 2)).pk [2,0]
 obtain⟨rfl,rfl⟩:=fI (zj hr zq3)
 exact⟨r,s,Zk,0,Z,aa,U⟩
end
end Go.Proofs.YtnpdpklckacpnaaGreat
