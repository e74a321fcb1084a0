/- The layers told, part 3. Conditions: none beyond each law's own. -/
import Derived.Lib.Hide
import Derived.Shelf.Small.Bits
import Derived.Ground.NamesProg
import Derived.Shelf.SlGeneric
import Derived.Sort.LotA
import Derived.Sort.LotB
import Derived.Sort.LotC
import Derived.Sort.LotD3
import Derived.Sort.LotD5
import Derived.Sort.WalkA14
import Derived.Test.YtnpdpklckacpnaaGreatJb
namespace Go.Proofs.YtnpdpklckacpnaaGreat
set_option maxRecDepth 100000
set_option linter.unusedVariables false
set_option linter.unusedSimpArgs false
set_option linter.unusedSectionVars false
open _root_.Go renaming World->ZZ,Value->ZQ
open Value renaming bool->Y,slice->T,string->Z9,pointer->Zz,agg->Zq,nilFunc->Zx
open Bool renaming true->Zj,false->O
open Option renaming none->Zk,some->Zv
open Decidable renaming decide->Zw
open Inhabited renaming default->Zy
open List renaming length->X,toArray->Zb,drop->Ze,take->Zf,flatMap->Zg,map->Zh
open Int renaming toNat->Zc
open Bool renaming toNat->Zd
open IntKind renaming i64->D3
open List renaming drop->r8,flatMap->q1,flatMap_append->u3,getD->J0,length_append->o3,length_cons->q6,length_nil->L0,take->u2
open Sum renaming inl->G0,inr->G1
open _root_.Go.Proofs.Tryz renaming call15->N1,call96->N2,isAgg3->B8,isAgg38->C6,isAgg67->N3,isAgg9->B9,prog->y3,sizeOf38->C5,sizeOf62->C0,sizeOf67->L3,underlying22->F0,underlying9->B3
open WL renaming nil->G2
open Wp renaming exit->H0,loop->G3
section
open Go.RowKit
def jl (a:List UInt8):Int:=
 if((X a:Nat):Int) < 1 then 20 else if((X a:Nat):Int) > 12 then 20 else 0
theorem mW (w D b d) (H:Own w D w []) (hr:jl b=d):
    Calls y3 15 #[Z9 ⟨Zb b⟩] w (dI λ v w'=>v=vI d/\Own w D w' []/\(¬ (d=0)\/(1<=X b/\X b<=12))):=by
 unfold jl at hr
 refine cb Tryz.func15 ?_
 refine sr (An Z (JS (sr (Mz Z (Kz (vJ (X b)) (Kz (Za ((X b:Int) < 1)) (Mz Z ?_)))))))
 by_cases a:(X b:Int) < 1
 refine Sz (dT a) (Sz (dT a) (Sz (dT a) (fw (Y Zj) (JX Z (dT a) Z) (nt (jt (sr (An Z (rt (tR (rs ?_))))))))))
 obtain rfl:=zj hr zq1
 exact⟨Z,(H.pk []),U⟩
 refine gw (Z9 ⟨Zb b⟩) (dF a) (J3 Z) (Gz (vJ (X b)) (dF a) (Gz (Za ((X b:Int) > 12)) (dF a) (fw (Za ((X b:Int) > 12)) (JU Z (dF a) Z) (nt ?_))))
 by_cases c:(X b:Int) > 12
 refine jT (dT c) (sr (An Z (rt (tR (rs ?_)))))
 obtain rfl:=zj hr zq2
 exact⟨Z,(H.pk []),U⟩
 refine jF (dF c) (sk (sr (An Z (rt (rs ?_)))))
 obtain rfl:=zj hr zq2
 exact⟨Z,(H.pk []),U⟩
def kZ (d:List UInt8):Nat->Nat->Nat
  | 0,a=>Zy
  | c+1,a=>if((a:Nat):Int) > 0 then bnd (J0 d (a - 1) Zy) λ b=>if((b.toNat:Nat):Int)=255 then kZ d c (a - 1) else a else a
def qx (a:List UInt8):ai × Int:=
 bnd (jl a) λ b=>if b=0 then if((X a:Nat):Int) < 12 then(ai.q a (a++([0])),0) else bnd (bnd (kZ a (12+1) 12) λ sLrbtfJjL=>sLrbtfJjL) λ sJrbtfJ=>if((sJrbtfJ:Nat):Int)=0 then(ai.q a [],0) else bnd (J0 a (sJrbtfJ - 1) Zy) λ c=>(ai.q a ((u2 (sJrbtfJ - 1) a)++([(c+(1:UInt8))])),0) else(ai.q [] [],b)
theorem Cg (w D a) (r0:ai) (r1) (H:Own w D w []) (hr:qx a=(r0,r1)):
    Calls y3 57 #[Z9 ⟨Zb a⟩] w (dI λ v w'=>v= .tuple #[Zq (Zb (ai.L r0)),vI r1]/\Own w D w' []):=by
 unfold qx at hr
 refine cb Tryz.func57 ?_
 refine sr ?_
 refine cB [Z9 ⟨Zb []⟩, Z9 ⟨Zb []⟩] 38 H ?_
 intro j _ Z1
 refine An Z (JS (sr (Mz Z ?_)))
 obtain⟨h,g⟩:∃ q,jl a=q:=⟨_,Z⟩
 obtain⟨_,Z5,_,Z6,_⟩:=JZ Z1
 refine cl N1 (mW _ _ a h Z5 g) ?_
 rintro _ _ ⟨rfl,P,F⟩
 have J:=Z6 _ _ P
 replace F:=F
 refine Ar Z (Mz Z (fw (Za (¬ (h=0))) (Kc (e:= !(Zw (h=0))) yk ZW) (nt ?_)))
 by_cases n:h=0
 refine jF (dF (Nu n)) (sk (JS (sr (Mz Z (Kz (vJ (X a)) (Kz (Za ((X a:Int) < 12)) (nt ?_)))))))
 by_cases p:(X a:Int) < 12
 refine jT (decide_eq_true p) (sr (Mz Z (Mz Z (fw (Z9 ⟨Zb (a++([0]))⟩) (Ls Z Z g8) (Kz (Zq #[Z9 ⟨Zb a⟩, Z9 ⟨Zb (a++([0]))⟩]) (cu [Z9 ⟨Zb a⟩, Z9 ⟨Zb (a++([0]))⟩] 0 J C5 ?_))))))
 intro _ Q
 refine An Z (rt (tR (Ke (fQ (vs:= [Zq #[Z9 ⟨Zb a⟩, Z9 ⟨Zb (a++([0]))⟩],vI 0]) Z (bS.cell Z (J7 (cs:= [Z9 ⟨Zb a⟩, Z9 ⟨Zb (a++([0]))⟩]) C6 C5 ((Q.cls (i:=0) Z).lit (k:=0) (m:=2) Z)) (bS.tmp Z bS.nil)) (Nr Z)) ?_)))
 obtain⟨rfl,rfl⟩:=fI (zj hr zq3)
 exact⟨Z,(Q.pk [])⟩
 refine jF (dF p) (sk (sr (An Z (JS ?_))))
 obtain⟨Z0,r⟩:=nI λ (b:Nat) w'=>Own w D w' [blk j [Z9 ⟨Zb []⟩, Z9 ⟨Zb []⟩] 38]/\b<=9223372036854775807/\b<=X a/\(bnd (kZ a (12+1) 12) λ sLrbtfJjL=>sLrbtfJjL)=b
 refine K5 (λ i:Nat=> [(5,vJ i),(3,vI 0),(2,vP j 0),(0, Z9 ⟨Zb a⟩)]) Z0 ?_ ?_
 refine bo ?_
 obtain⟨af,s⟩:=IA λ (c:Nat) (u:Nat) w'=>Own w D w' [blk j [Z9 ⟨Zb []⟩, Z9 ⟨Zb []⟩] 38]/\c<=X a/\c < u/\kZ a (12+1) 12=kZ a u c
 refine G3 (λ i:Nat × Nat=> [(5,vJ i.1),(3,vI 0),(2,vP j 0),(0, Z9 ⟨Zb a⟩)]) af (λ i=>i.2) (12,12+1) ⟨Z,Z,Z,Z,ZV⟩ (s.2 ⟨(J.pf []),U,U,Z⟩) ?_
 rintro ⟨c,u⟩ _ R
 obtain⟨K,_,_,x⟩:=s.1 R
 obtain⟨L,S⟩:∃ q,u=q+1:=⟨u - 1,U⟩
 subst S
 refine JS (sr (Mz Z (Kz (Za ((c:Int) > 0)) (Mz Z ?_))))
 by_cases d:(c:Int) > 0
 refine gw (Z9 ⟨Zb a⟩) (dT d) (J3 Z) (gw (vJ c) (dT d) (J3 Z) (gw (vJ (c - 1)) (dT d) (J4 (e:=D3.wrap ((c:Int) - 1)) yk f4) ?_))
 obtain⟨B,z⟩:=mK (ls:=a) (i:=c - 1) U
 refine gw (.int .u8 (B.toNat:Int)) (dT d) (Le B3 Z Z z) (Gz (Za ((B.toNat:Int)=255)) (dT d) (fw (Za ((B.toNat:Int)=255)) (JX Z (dT d) Z) (nt ?_)))
 by_cases C:(B.toNat:Int)=255
 exact jT (dT C) (sk (bo (JW (Mz Z (fw (vJ (c - 1)) (J4 (e:=D3.wrap ((c:Int) - 1)) yk f4) (Az Z (G2 (bN (Kb (c - 1,L) ⟨Z,Z,Z,Z,ZV⟩ (s.2 ⟨(K.pf []),U,U,V (x) (V (ip d) (V (ae (bG z)) (ip C)))⟩) (by show L < L+1; omega))))))))))
 exact jF (dF C) (H0 (Ka (Ka (Kh (KM c ⟨Z,Z,Z,Z,ZV⟩ (r.2 ⟨(K.pf []),U,U,ae (V (x) (V (ip d) (V (ae (bG z)) (iN C))))⟩))))))
 exact Sz (dF d) (Sz (dF d) (Sz (dF d) (Sz (dF d) (Sz (dF d) (fw (Y O) (JU Z (dF d) Z) (nt (jf (H0 (Ka (Ka (Kh (KM c ⟨Z,Z,Z,Z,ZV⟩ (r.2 ⟨(K.pf []),U,U,ae (V (x) (iN d))⟩)))))))))))))
 rintro b _ Z7
 obtain⟨Z3,_,_,G⟩:=r.1 Z7
 refine JS (sr (Mz Z (Kz (Za ((b:Int)=0)) (nt ?_))))
 by_cases E:(b:Int)=0
 refine jT (dT E) (sr (Mz Z (Kz (Zq #[Z9 ⟨Zb a⟩, Z9 ⟨Zb []⟩]) (cu [Z9 ⟨Zb a⟩, Z9 ⟨Zb []⟩] 0 Z3 C5 ?_))))
 intro _ Z4
 refine An Z (rt (tR (Ke (fQ (vs:= [Zq #[Z9 ⟨Zb a⟩, Z9 ⟨Zb []⟩],vI 0]) Z (bS.cell Z (J7 (cs:= [Z9 ⟨Zb a⟩, Z9 ⟨Zb []⟩]) C6 C5 ((Z4.cls (i:=0) Z).lit (k:=0) (m:=2) Z)) (bS.tmp Z bS.nil)) (Nr Z)) ?_)))
 obtain⟨rfl,rfl⟩:=fI (zj hr zq5)
 exact⟨Z,(Z4.pk [])⟩
 refine jF (dF E) (sk (JS (A8 [] (J6 Kg) Z3 ?_)))
 intro _ au
 refine qv 0 Z Z (qv 1 Z Z (qv 2 Z Z (qt (v:=vJ (b - 1)) 3 Z (λ _ _=>J4 (e:=D3.wrap ((b:Int) - 1)) yk f4) (qt (v:= Z9 ⟨Zb (u2 (b - 1) a)⟩) 4 Z (λ _ _=>Mc B3 Z Z g8) (qv 5 Z Z (qv 6 Z Z (qt (v:=vJ (b - 1)) 7 Z (λ _ _=>J4 (e:=D3.wrap ((b:Int) - 1)) yk f4) ?_)))))))
 obtain⟨f,I⟩:=mK (ls:=a) (i:=b - 1) U
 refine qt (v:= .int .u8 (f.toNat:Int)) 8 Z (λ _ _=>Le B3 Z Z I) (qt (v:= .int .u8 (((f+(1:UInt8)).toNat:Nat):Int)) 9 Z (λ _ _=>J4 (e:=IntKind.u8.wrap ((f.toNat:Int)+1)) yk (EE f (1:UInt8))) (qd 10 Z (KF (cs:= [.int .u8 (((f+(1:UInt8)).toNat:Nat):Int)]) (t:=5) (sz:=1) (m:=1) au Z Z ZY Z f7 ?_)))
 intro av _ A
 replace A:=Ku (y:=row av 1 1 (q1 eB ([(f+(1:UInt8))])) 5 1) Z A
 refine⟨.inr ⟨_,A⟩, (Jr A (qt (v:= Z9 ⟨Zb ([(f+(1:UInt8))])⟩) 11 Z (λ _ ⟨_,H9⟩=>LH (l:= [(f+(1:UInt8))]) Tryz.underlying181 Tryz.underlying5 B3 (H9.rds (i:=0) Z) Z) (qt (v:= Z9 ⟨Zb ((u2 (b - 1) a)++([(f+(1:UInt8))]))⟩) 12 Z (λ _ _=>Ls Z Z g8) (qk (Zq #[Z9 ⟨Zb a⟩, Z9 ⟨Zb ((u2 (b - 1) a)++([(f+(1:UInt8))]))⟩]) 13 Z (qe 14 Z (Do.store (vs:= [Z9 ⟨Zb a⟩, Z9 ⟨Zb ((u2 (b - 1) a)++([(f+(1:UInt8))]))⟩]) (o:=0) (A.pb [0]) Z Z C5 Z Z Z Z ?_))))))⟩
 intro _ ay
 have M:=ay.pb [0]
 refine⟨.inr ⟨_,M⟩, (qa 15 Z Z (qn (JY (rt (Ke (fQ (vs:= [Zq #[Z9 ⟨Zb a⟩, Z9 ⟨Zb ((u2 (b - 1) a)++([(f+(1:UInt8))]))⟩],vI 0]) Z (bS.cell Z (J7 (cs:= [Z9 ⟨Zb a⟩, Z9 ⟨Zb ((u2 (b - 1) a)++([(f+(1:UInt8))]))⟩]) C6 C5 ((M.cls (i:=1) Z).lit (k:=0) (m:=2) Z)) (bS.tmp Z bS.nil)) (Nr Z)) ?_)))))⟩
 obtain⟨rfl,rfl⟩:=fI (zj hr zq6)
 exact⟨Z,(M.pk [])⟩
 refine jT (dT n) (sr (Kz (Zq #[Z9 ⟨Zb []⟩, Z9 ⟨Zb []⟩]) (Mz Z (cu [Z9 ⟨Zb []⟩, Z9 ⟨Zb []⟩] 0 J C5 ?_))))
 intro _ Z8
 refine An Z (rt (tR (Ke (fQ (vs:= [Zq #[Z9 ⟨Zb []⟩, Z9 ⟨Zb []⟩],vI h]) Z (bS.cell Z (J7 (cs:= [Z9 ⟨Zb []⟩, Z9 ⟨Zb []⟩]) C6 C5 ((Z8.cls (i:=0) Z).lit (k:=0) (m:=2) Z)) (bS.tmp Z bS.nil)) (Nr Z)) ?_)))
 obtain⟨rfl,rfl⟩:=fI (zj hr zq2)
 exact⟨Z,(Z8.pk [])⟩
def qy (a:ai):Int:=
 if((X a.a:Nat):Int) > 12 then 21 else if((X a.b:Nat):Int) > 12 then 21 else if a.b≠[] then if a.b<=a.a then 21 else 0 else 0
theorem uO (w D) (d:ai) (n) (H:Own w D w []) (hr:qy d=n):
    Calls y3 96 #[Zq (Zb (ai.L d))] w (dI λ v w'=>v=vI n/\Own w D w' []):=by
 unfold qy at hr
 refine cb Tryz.func96 ?_
 refine sr ?_
 refine cB (ai.L d) 38 H ?_
 intro g o f
 refine An Z (JS (sr (Kz (vP g 0) (Lz (Z9 ⟨Zb d.a⟩) f 0 B9 (Kz (vJ (X d.a)) (Kz (Za ((X d.a:Int) > 12)) (Mz Z ?_)))))))
 by_cases b:(X d.a:Int) > 12
 refine Sz (dT b) (Sz (dT b) (Sz (dT b) (Sz (dT b) (fw (Y Zj) (JX Z (dT b) Z) (Mz Z (QQ (QQ (QQ (QQ (QW (QW (QW (QW (QW (QQ (fw (Y Zj) (QJ Z) (nt (jt (sr (An Z (rt (tR (rs ?_)))))))))))))))))))))))
 obtain rfl:=zj hr zq1
 exact⟨Z,(f.pk [])⟩
 refine Gz (vP g 1) (dF b) (Gl (Z9 ⟨Zb d.b⟩) (dF b) f 0 B9 (Gz (vJ (X d.b)) (dF b) (Gz (Za ((X d.b:Int) > 12)) (dF b) (fw (Za ((X d.b:Int) > 12)) (JU Z (dF b) Z) (Mz Z ?_)))))
 by_cases a:(X d.b:Int) > 12
 refine Sz (dT a) (Sz (dT a) (Sz (dT a) (Sz (dT a) (QW (QW (QW (QW (QW (Sz (dT a) (fw (Y Zj) (JX Z (dT a) Z) (nt (jt (sr (An Z (rt (tR (rs ?_)))))))))))))))))
 obtain rfl:=zj hr zq2
 exact⟨Z,(f.pk [])⟩
 refine Gz (vP g 1) (dF a) (Gl (Z9 ⟨Zb d.b⟩) (dF a) f 0 B9 (gw (Za (d.b≠[])) (dF a) (KH Z Z) (gw (Za (d.b≠[])) (dF a) (J3 Z) ?_)))
 by_cases c:d.b≠[]
 refine Gz (vP g 0) (dT c) (Gl (Z9 ⟨Zb d.a⟩) (dT c) f 0 B9 (Gz (vP g 1) (dT c) (Gl (Z9 ⟨Zb d.b⟩) (dT c) f 0 B9 (gw (Za (d.b<=d.a)) (dT c) (Kc (e:= !(Op.bytesLess d.a d.b)) (LC Z Z) (BC _ _)) (gw (Za (d.b<=d.a)) (dF a) (JX Z (dT c) Z) (fw (Za (d.b<=d.a)) (JU Z (dF a) Z) (nt ?_)))))))
 by_cases h:d.b<=d.a
 refine jT (dT h) (sr (An Z (rt (tR (rs ?_)))))
 obtain rfl:=zj hr zq4
 exact⟨Z,(f.pk [])⟩
 refine jF (dF h) (sk (sr (An Z (rt (rs ?_)))))
 obtain rfl:=zj hr zq4
 exact⟨Z,(f.pk [])⟩
 refine Sz (dF c) (Sz (dF c) (Sz (dF c) (Sz (dF c) (Sz (dF c) (gw (Y O) (dF a) (JU Z (dF c) Z) (fw (Y O) (JU Z (dF a) Z) (nt (jf (sk (sr (An Z (rt (rs ?_)))))))))))))
 obtain rfl:=zj hr zq3
 exact⟨Z,(f.pk [])⟩
def vG (a:aV):Int:=
 if a.g=1 then if a.a≠[] then 40 else if a.b≠[] then 40 else if a.k≠[] then 40 else if a.r=0 then bnd (jl a.j) λ d=>if d=0 then if((X a.k:Nat):Int) > 16 then 2 else 0 else 20 else 40 else if a.g=2 then if a.a≠[] then 40 else if a.b≠[] then 40 else if a.r=0 then bnd (jl a.j) λ e=>if e=0 then if((X a.k:Nat):Int) > 16 then 2 else 0 else 20 else 40 else if a.g=4 then if a.j≠[] then 40 else if a.k≠[] then 40 else if((X a.k:Nat):Int) > 16 then 2 else bnd (qy (ai.q a.a a.b)) λ f=>if f=0 then if a.r < 1 then 1 else if a.r > 4 then 1 else 0 else 21 else if a.g=3 then if a.a≠[] then 40 else if a.b≠[] then 40 else if a.k≠[] then 40 else if a.r=0 then bnd (jl a.j) λ b=>if b=0 then if((X a.k:Nat):Int) > 16 then 2 else 0 else 20 else 40 else if a.g=5 then if a.j≠[] then 40 else if a.k≠[] then 40 else if a.r=0 then if((X a.k:Nat):Int) > 16 then 2 else bnd (qy (ai.q a.a a.b)) λ c=>if c=0 then 0 else 21 else 40 else 40
theorem Ap (w D) (a:aV) (r0) (H:Own w D w []) (hr:vG a=r0):
    Calls y3 54 #[Zq (Zb (aV.L a))] w (dI λ v w'=>v=vI r0/\Own w D w' []/\(¬ (r0=0)\/(1<=a.g/\a.g<=5))):=by
 unfold vG at hr
 refine cb Tryz.func54 ?_
 refine sr ?_
 refine cB (aV.L a) 62 H ?_
 intro d _ b
 refine Ar Z (Kz (vP d 0) (Lz (vI a.g) b 0 B8 (Kz (Za (a.g=1)) (Mz Z ?_))))
 by_cases g:a.g=1
 refine Sz (dT g) (Sz (dT g) (Sz (dT g) (fw (Y Zj) (JX Z (dT g) Z) (Mz Z (QQ (QQ (QQ (fw (Y Zj) (QJ Z) (Ar Z (Kz (vP d 0) (Lz (vI a.g) b 0 B8 (Kz (Za (a.g=4)) (Mz Z ?_)))))))))))))
 have z:(Zw (a.g=4))=O:=(dF U)
 refine Gz (vP d 0) z (Gl (vI a.g) z b 0 B8 (Gz (Za (a.g=5)) z (fw (Za (a.g=5)) (JU Z z Z) (An Z (JS (sr (Mz Z (Kz (Y O) (Mz Z (QQ (QQ (fw (Y O) (QK Z) (Mz Z (gw (Y Zj) Z (J3 Z) (gw (Y Zj) Z (J3 Z) (Gz (vP d 3) Z (Gl (Z9 ⟨Zb a.a⟩) Z b 0 B9 (gw (Za (a.a≠[])) Z (KH Z Z) (gw (Za (a.a≠[])) Z (J3 Z) ?_)))))))))))))))))))
 by_cases B:a.a≠[]
 refine Sz (dT B) (Sz (dT B) (Sz (dT B) (gw (Y Zj) Z (JX Z (dT B) Z) (gw (Y Zj) Z (QJ Z) (fw (Y Zj) (QK Z) (Mz Z (QQ (QQ (QW (QW (QW (QQ (fw (Y Zj) (QJ Z) (Mz Z (QQ (QQ (QQ (QQ (QW (QW (QW (QQ (fw (Y Zj) (QJ Z) (Mz Z (QQ (QQ (QQ (QQ (QW (QW (QW (QQ (fw (Y Zj) (QJ Z) (nt (jt (sr (Az Z (nt (rt (tR (rs ?_)))))))))))))))))))))))))))))))))))))))))
 obtain rfl:=zj hr zq2
 exact⟨Z,(b.pk []),U⟩
 refine Gz (vP d 4) (dF B) (Gl (Z9 ⟨Zb a.b⟩) (dF B) b 0 B9 (gw (Za (a.b≠[])) (dF B) (KH Z Z) (gw (Za (a.b≠[])) Z (JU Z (dF B) Z) (gw (Za (a.b≠[])) Z (QJ Z) (fw (Za (a.b≠[])) (QK Z) (Mz Z ?_))))))
 by_cases C:a.b≠[]
 refine Sz (dT C) (Sz (dT C) (QW (QW (QW (Sz (dT C) (fw (Y Zj) (JX Z (dT C) Z) (Mz Z (QQ (QQ (QQ (QQ (QW (QW (QW (QQ (fw (Y Zj) (QJ Z) (Mz Z (QQ (QQ (QQ (QQ (QW (QW (QW (QQ (fw (Y Zj) (QJ Z) (nt (jt (sr (An Z (rt (tR (rs ?_)))))))))))))))))))))))))))))))))
 obtain rfl:=zj hr zq3
 exact⟨Z,(b.pk []),U⟩
 refine gw (Za (a.g=5)) (dF C) (J3 Z) (gw (Za (a.g=5)) (dF C) (J3 Z) ?_)
 have r:(Zw (a.g=5))=O:=(dF U)
 refine Sz r (Sz r (Sz r (gw (Y O) (dF C) (JU Z r Z) (fw (Y O) (JU Z (dF C) Z) (Mz Z (Gz (vP d 0) Z (Gl (vI a.g) Z b 0 B8 (gw (Za (¬ (a.g=2))) Z (Kc (e:= !(Zw (a.g=2))) yk ZW) (gw (Za (¬ (a.g=2))) Z (J3 Z) ?_)))))))))
 have Z2:(Zw (¬ (a.g=2)))=Zj:=(dT U)
 refine Gz (vP d 2) Z2 (Gl (Z9 ⟨Zb a.k⟩) Z2 b 0 B9 (KC (v:= Za (a.k≠[])) Z Z Z2 Z (KH Z Z) (gw (Za (a.k≠[])) Z (JX Z Z2 Z) (fw (Za (a.k≠[])) (QK Z) (Mz Z ?_)))))
 by_cases u:a.k≠[]
 refine Sz (dT u) (Sz (dT u) (Sz (dT u) (Sz (dT u) (QW (QW (QW (Sz (dT u) (fw (Y Zj) (JX Z (dT u) Z) (nt (jt (sr (An Z (rt (tR (rs ?_)))))))))))))))
 obtain rfl:=zj hr zq4
 exact⟨Z,(b.pk []),U⟩
 refine Gz (vP d 0) (dF u) (Gl (vI a.g) (dF u) b 0 B8 (gw (Za (¬ (a.g=4))) (dF u) (Kc (e:= !(Zw (a.g=4))) yk ZW) (gw (Za (¬ (a.g=4))) (dF u) (J3 Z) ?_)))
 have Z0:(Zw (¬ (a.g=4)))=Zj:=(dT U)
 refine Gz (vP d 5) Z0 (Gl (vI a.r) Z0 b 0 B8 (KC (v:= Za (¬ (a.r=0))) Z Z Z0 Z (Kc (e:= !(Zw (a.r=0))) yk ZW) (gw (Za (¬ (a.r=0))) (dF u) (JX Z Z0 Z) (fw (Za (¬ (a.r=0))) (JU Z (dF u) Z) (nt ?_)))))
 by_cases ay:a.r=0
 refine jF (dF (Nu ay)) (sk (JS (sr (Mz Z (Mz Z (Gz (vP d 1) Z (Gl (Z9 ⟨Zb a.j⟩) Z b 0 B9 ?_)))))))
 obtain⟨az,aa⟩:∃ q,jl a.j=q:=⟨_,Z⟩
 obtain⟨_,aW,_,aX,_⟩:=JZ b
 refine oI Z N1 (mW _ _ a.j az aW aa) ?_
 rintro _ _ ⟨rfl,aY,aN⟩
 have aC:=aX _ _ aY
 replace aN: ¬ (az=0)\/(1<=X a.j/\X a.j<=12):=aN
 refine gw (Za (¬ (az=0))) Z (Kc (e:= !(Zw (az=0))) yk ZW) (fw (Za (¬ (az=0))) (QJ Z) (nt ?_))
 by_cases aD:az=0
 refine jF (dF (Nu aD)) (sk (JS (sr (Kz (vP d 2) (Lz (Z9 ⟨Zb a.k⟩) aC 0 B9 (Kz (vJ (X a.k)) (Kz (Za ((X a.k:Int) > 16)) (nt ?_))))))))
 by_cases aL:(X a.k:Int) > 16
 refine jT (dT aL) (sr (An Z (rt (tR (rs ?_)))))
 obtain rfl:=zj hr zq8
 exact⟨Z,(aC.pk []),U⟩
 refine jF (dF aL) (sk (JS (sr (Mz Z (Mz Z (Sz r (Sz r (Sz r (Sz r (Sz r (Sz r (Sz r (fw (Y O) (JU Z r Z) (nt (jf (sk (JS (sr (Kz (vP d 0) (Lz (vI a.g) aC 0 B8 (Kz (Za (a.g=4)) (Mz Z (Sz z (Sz z (Sz z (Sz z (QW (QW (QW (Sz z (fw (Y O) (JU Z z Z) (nt (jf (sk (sr (An Z (rt (rs ?_))))))))))))))))))))))))))))))))))))))
 obtain rfl:=zj hr zq8
 exact⟨Z,(aC.pk []),U⟩
 refine jT (dT aD) (sr (An Z (rt (tR (rs ?_)))))
 obtain rfl:=zj hr zq7
 exact⟨Z,(aC.pk []),U⟩
 refine jT (dT ay) (sr (An Z (rt (tR (rs ?_)))))
 obtain rfl:=zj hr zq5
 exact⟨Z,(b.pk []),U⟩
 refine Gz (vP d 0) (dF g) (Gl (vI a.g) (dF g) b 0 B8 (Gz (Za (a.g=2)) (dF g) (fw (Za (a.g=2)) (JU Z (dF g) Z) (Mz Z ?_))))
 by_cases i:a.g=2
 refine Sz (dT i) (Sz (dT i) (Sz (dT i) (fw (Y Zj) (JX Z (dT i) Z) (Ar Z (Kz (vP d 0) (Lz (vI a.g) b 0 B8 (Kz (Za (a.g=4)) (Mz Z ?_))))))))
 have A:(Zw (a.g=4))=O:=(dF U)
 refine Gz (vP d 0) A (Gl (vI a.g) A b 0 B8 (Gz (Za (a.g=5)) A (fw (Za (a.g=5)) (JU Z A Z) (An Z (JS (sr (Mz Z (Kz (Y O) (Mz Z (QQ (QQ (fw (Y O) (QK Z) (Mz Z (gw (Y Zj) Z (J3 Z) (gw (Y Zj) Z (J3 Z) (Gz (vP d 3) Z (Gl (Z9 ⟨Zb a.a⟩) Z b 0 B9 (gw (Za (a.a≠[])) Z (KH Z Z) (gw (Za (a.a≠[])) Z (J3 Z) ?_)))))))))))))))))))
 by_cases E:a.a≠[]
 refine Sz (dT E) (Sz (dT E) (Sz (dT E) (gw (Y Zj) Z (JX Z (dT E) Z) (gw (Y Zj) Z (QJ Z) (fw (Y Zj) (QK Z) (Mz Z (QQ (QQ (QW (QW (QW (QQ (fw (Y Zj) (QJ Z) (Mz Z (QQ (QQ (QQ (QQ (QW (QW (QW (QQ (fw (Y Zj) (QJ Z) (Mz Z (QQ (QQ (QQ (QQ (QW (QW (QW (QQ (fw (Y Zj) (QJ Z) (nt (jt (sr (Az Z (nt (rt (tR (rs ?_)))))))))))))))))))))))))))))))))))))))))
 obtain rfl:=zj hr zq3
 exact⟨Z,(b.pk []),U⟩
 refine Gz (vP d 4) (dF E) (Gl (Z9 ⟨Zb a.b⟩) (dF E) b 0 B9 (gw (Za (a.b≠[])) (dF E) (KH Z Z) (gw (Za (a.b≠[])) Z (JU Z (dF E) Z) (gw (Za (a.b≠[])) Z (QJ Z) (fw (Za (a.b≠[])) (QK Z) (Mz Z ?_))))))
 by_cases F:a.b≠[]
 refine Sz (dT F) (Sz (dT F) (QW (QW (QW (Sz (dT F) (fw (Y Zj) (JX Z (dT F) Z) (Mz Z (QQ (QQ (QQ (QQ (QW (QW (QW (QQ (fw (Y Zj) (QJ Z) (Mz Z (QQ (QQ (QQ (QQ (QW (QW (QW (QQ (fw (Y Zj) (QJ Z) (nt (jt (sr (An Z (rt (tR (rs ?_)))))))))))))))))))))))))))))))))
 obtain rfl:=zj hr zq4
 exact⟨Z,(b.pk []),U⟩
 refine gw (Za (a.g=5)) (dF F) (J3 Z) (gw (Za (a.g=5)) (dF F) (J3 Z) ?_)
 have s:(Zw (a.g=5))=O:=(dF U)
 refine Sz s (Sz s (Sz s (gw (Y O) (dF F) (JU Z s Z) (fw (Y O) (JU Z (dF F) Z) (Mz Z (Gz (vP d 0) Z (Gl (vI a.g) Z b 0 B8 (gw (Za (¬ (a.g=2))) Z (Kc (e:= !(Zw (a.g=2))) yk ZW) (gw (Za (¬ (a.g=2))) Z (J3 Z) ?_)))))))))
 have af:(Zw (¬ (a.g=2)))=O:=(dF U)
 refine Sz af (Sz af (Sz af (gw (Y O) Z (JU Z af Z) (fw (Y O) (QK Z) (Mz Z (Gz (vP d 0) Z (Gl (vI a.g) Z b 0 B8 (gw (Za (¬ (a.g=4))) Z (Kc (e:= !(Zw (a.g=4))) yk ZW) (gw (Za (¬ (a.g=4))) Z (J3 Z) ?_)))))))))
 have ag:(Zw (¬ (a.g=4)))=Zj:=(dT U)
 refine Gz (vP d 5) ag (Gl (vI a.r) ag b 0 B8 (KC (v:= Za (¬ (a.r=0))) Z Z ag Z (Kc (e:= !(Zw (a.r=0))) yk ZW) (gw (Za (¬ (a.r=0))) Z (JX Z ag Z) (fw (Za (¬ (a.r=0))) (QK Z) (nt ?_)))))
 by_cases aA:a.r=0
 refine jF (dF (Nu aA)) (sk (JS (sr (Mz Z (Mz Z (Gz (vP d 1) Z (Gl (Z9 ⟨Zb a.j⟩) Z b 0 B9 ?_)))))))
 obtain⟨aB,ah⟩:∃ q,jl a.j=q:=⟨_,Z⟩
 obtain⟨_,aZ,_,bf,_⟩:=JZ b
 refine oI Z N1 (mW _ _ a.j aB aZ ah) ?_
 rintro _ _ ⟨rfl,bg,aO⟩
 have aF:=bf _ _ bg
 replace aO: ¬ (aB=0)\/(1<=X a.j/\X a.j<=12):=aO
 refine gw (Za (¬ (aB=0))) Z (Kc (e:= !(Zw (aB=0))) yk ZW) (fw (Za (¬ (aB=0))) (QJ Z) (nt ?_))
 by_cases aG:aB=0
 refine jF (dF (Nu aG)) (sk (JS (sr (Kz (vP d 2) (Lz (Z9 ⟨Zb a.k⟩) aF 0 B9 (Kz (vJ (X a.k)) (Kz (Za ((X a.k:Int) > 16)) (nt ?_))))))))
 by_cases aM:(X a.k:Int) > 16
 refine jT (dT aM) (sr (An Z (rt (tR (rs ?_)))))
 obtain rfl:=zj hr zq8
 exact⟨Z,(aF.pk []),U⟩
 refine jF (dF aM) (sk (JS (sr (Mz Z (Mz Z (Sz s (Sz s (Sz s (Sz s (Sz s (Sz s (Sz s (fw (Y O) (JU Z s Z) (nt (jf (sk (JS (sr (Kz (vP d 0) (Lz (vI a.g) aF 0 B8 (Kz (Za (a.g=4)) (Mz Z (Sz A (Sz A (Sz A (Sz A (QW (QW (QW (Sz A (fw (Y O) (JU Z A Z) (nt (jf (sk (sr (An Z (rt (rs ?_))))))))))))))))))))))))))))))))))))))
 obtain rfl:=zj hr zq8
 exact⟨Z,(aF.pk []),U⟩
 refine jT (dT aG) (sr (An Z (rt (tR (rs ?_)))))
 obtain rfl:=zj hr zq7
 exact⟨Z,(aF.pk []),U⟩
 refine jT (dT aA) (sr (An Z (rt (tR (rs ?_)))))
 obtain rfl:=zj hr zq5
 exact⟨Z,(b.pk []),U⟩
 refine Gz (vP d 0) (dF i) (Gl (vI a.g) (dF i) b 0 B8 (Gz (Za (a.g=3)) (dF i) (fw (Za (a.g=3)) (JU Z (dF i) Z) (Ar Z (Kz (vP d 0) (Lz (vI a.g) b 0 B8 (Kz (Za (a.g=4)) (Mz Z ?_))))))))
 by_cases f:a.g=4
 refine Sz (dT f) (Sz (dT f) (Sz (dT f) (fw (Y Zj) (JX Z (dT f) Z) (An Z (JS (sr (Mz Z (fw (Za (¬ (a.g=3))) (Kc (e:= !(Zw (a.g=3))) yk ZW) (Mz Z ?_)))))))))
 have aH:(Zw (¬ (a.g=3)))=Zj:=(dT U)
 refine KC (v:= Y Zj) Z Z aH Z (J3 Z) (Gz (Y O) aH (fw (Y O) (JX Z aH Z) (Mz Z (gw (Za (a.g=3)) Z (J3 Z) (gw (Za (a.g=3)) Z (J3 Z) ?_)))))
 have x:(Zw (a.g=3))=O:=(dF U)
 refine Sz x (Sz x (Sz x (Sz x (QW (QW (QW (Sz x (gw (Y O) Z (JU Z x Z) (fw (Y O) (QK Z) (Mz Z (gw (Y Zj) Z (J3 Z) (gw (Y Zj) Z (J3 Z) (Gz (vP d 1) Z (Gl (Z9 ⟨Zb a.j⟩) Z b 0 B9 (gw (Za (a.j≠[])) Z (KH Z Z) (gw (Za (a.j≠[])) Z (QJ Z) (fw (Za (a.j≠[])) (QK Z) (Mz Z ?_))))))))))))))))))
 by_cases p:a.j≠[]
 refine Sz (dT p) (Sz (dT p) (Sz (dT p) (Sz (dT p) (QW (QW (QW (Sz (dT p) (fw (Y Zj) (JX Z (dT p) Z) (Mz Z (QQ (QQ (QQ (QQ (QW (QW (QW (QQ (fw (Y Zj) (QJ Z) (nt (jt (sr (An Z (rt (tR (rs ?_)))))))))))))))))))))))))
 obtain rfl:=zj hr zq4
 exact⟨Z,(b.pk []),U⟩
 refine Gz (vP d 0) (dF p) (Gl (vI a.g) (dF p) b 0 B8 (gw (Za (¬ (a.g=2))) (dF p) (Kc (e:= !(Zw (a.g=2))) yk ZW) (gw (Za (¬ (a.g=2))) (dF p) (J3 Z) ?_)))
 have aj:(Zw (¬ (a.g=2)))=Zj:=(dT U)
 refine Gz (vP d 2) aj (Gl (Z9 ⟨Zb a.k⟩) aj b 0 B9 (KC (v:= Za (a.k≠[])) Z Z aj Z (KH Z Z) (gw (Za (a.k≠[])) (dF p) (JX Z aj Z) (fw (Za (a.k≠[])) (JU Z (dF p) Z) (Mz Z ?_)))))
 by_cases t:a.k≠[]
 refine Sz (dT t) (Sz (dT t) (Sz (dT t) (Sz (dT t) (QW (QW (QW (Sz (dT t) (fw (Y Zj) (JX Z (dT t) Z) (nt (jt (sr (An Z (rt (tR (rs ?_)))))))))))))))
 obtain rfl:=zj hr zq5
 exact⟨Z,(b.pk []),U⟩
 refine Gz (vP d 0) (dF t) (Gl (vI a.g) (dF t) b 0 B8 (gw (Za (¬ (a.g=4))) (dF t) (Kc (e:= !(Zw (a.g=4))) yk ZW) (gw (Za (¬ (a.g=4))) (dF t) (J3 Z) ?_)))
 have ak:(Zw (¬ (a.g=4)))=O:=(dF U)
 refine Sz ak (Sz ak (Sz ak (gw (Y O) (dF t) (JU Z ak Z) (fw (Y O) (JU Z (dF t) Z) (nt (jf (sk (JS (sr (Mz Z (Mz Z (Sz x (Sz x (Sz x (Sz x (fw (Y O) (JU Z x Z) (nt (jf (sk (JS (sr (Kz (vP d 2) (Lz (Z9 ⟨Zb a.k⟩) b 0 B9 (Kz (vJ (X a.k)) (Kz (Za ((X a.k:Int) > 16)) (nt ?_))))))))))))))))))))))))))
 by_cases Z8:(X a.k:Int) > 16
 refine jT (dT Z8) (sr (An Z (rt (tR (rs ?_)))))
 obtain rfl:=zj hr zq6
 exact⟨Z,(b.pk []),U⟩
 refine jF (dF Z8) (sk (JS (sr (Mz Z (Mz Z (Gz (vP d 3) Z (Gl (Z9 ⟨Zb a.a⟩) Z b 0 B9 (Gz (vP d 4) Z (Gl (Z9 ⟨Zb a.b⟩) Z b 0 B9 (Gz (Zq #[Z9 ⟨Zb a.a⟩, Z9 ⟨Zb a.b⟩]) Z ?_))))))))))
 obtain⟨aI,R⟩:∃ q,qy (ai.q a.a a.b)=q:=⟨_,Z⟩
 obtain⟨_,bi,_,bn,_⟩:=JZ b
 refine oI Z N2 (uO _ _ (ai.q a.a a.b) aI bi R) ?_
 rintro _ _ ⟨rfl,bq⟩
 have G:=bn _ _ bq
 refine gw (Za (¬ (aI=0))) Z (Kc (e:= !(Zw (aI=0))) yk ZW) (fw (Za (¬ (aI=0))) (QJ Z) (nt ?_))
 by_cases I:aI=0
 refine jF (dF (Nu I)) (sk (JS (sr (Kz (vP d 0) (Lz (vI a.g) G 0 B8 (Kz (Za (a.g=4)) (Mz Z (Gz (vP d 5) (dT f) (Gl (vI a.r) (dT f) G 0 B8 (Gz (Za (a.r < 1)) (dT f) (gw (Za (a.r < 1)) (dT f) (J3 Z) ?_)))))))))))
 by_cases y:a.r < 1
 refine Sz (dT y) (Sz (dT y) (Sz (dT y) (gw (Y Zj) (dT f) (JX Z (dT y) Z) (fw (Y Zj) (JX Z (dT f) Z) (nt (jt (sr (An Z (rt (tR (rs ?_)))))))))))
 obtain rfl:=zj hr zq9
 exact⟨Z,(G.pk []),U⟩
 refine Gz (vP d 5) (dF y) (Gl (vI a.r) (dF y) G 0 B8 (Gz (Za (a.r > 4)) (dF y) (gw (Za (a.r > 4)) (dT f) (JU Z (dF y) Z) (fw (Za (a.r > 4)) (JX Z (dT f) Z) (nt ?_)))))
 by_cases au:a.r > 4
 refine jT (dT au) (sr (An Z (rt (tR (rs ?_)))))
 obtain rfl:=zj hr zq10
 exact⟨Z,(G.pk []),U⟩
 refine jF (dF au) (sk (sr (An Z (rt (rs ?_)))))
 obtain rfl:=zj hr zq10
 exact⟨Z,(G.pk []),U⟩
 refine jT (dT I) (sr (An Z (rt (tR (rs ?_)))))
 obtain rfl:=zj hr zq8
 exact⟨Z,(G.pk []),U⟩
 refine Gz (vP d 0) (dF f) (Gl (vI a.g) (dF f) b 0 B8 (Gz (Za (a.g=5)) (dF f) (fw (Za (a.g=5)) (JU Z (dF f) Z) (An Z (JS (sr (Mz Z (fw (Za (¬ (a.g=3))) (Kc (e:= !(Zw (a.g=3))) yk ZW) (Mz Z ?_)))))))))
 by_cases c:a.g=3
 refine Sk Z Z (dF (Nu c)) Z (Sk Z Z (dF (Nu c)) Z (fw (Y O) (JU Z (dF (Nu c)) Z) (Mz Z (gw (Za (a.g=3)) Z (J3 Z) (gw (Za (a.g=3)) Z (J3 Z) (Gz (vP d 3) (dT c) (Gl (Z9 ⟨Zb a.a⟩) (dT c) b 0 B9 (gw (Za (a.a≠[])) (dT c) (KH Z Z) (gw (Za (a.a≠[])) (dT c) (J3 Z) ?_)))))))))
 by_cases n:a.a≠[]
 refine Sz (dT n) (Sz (dT n) (Sz (dT n) (gw (Y Zj) (dT c) (JX Z (dT n) Z) (gw (Y Zj) Z (JX Z (dT c) Z) (fw (Y Zj) (QK Z) (Mz Z (QQ (QQ (QW (QW (QW (QQ (fw (Y Zj) (QJ Z) (Mz Z (QQ (QQ (QQ (QQ (QW (QW (QW (QQ (fw (Y Zj) (QJ Z) (Mz Z (QQ (QQ (QQ (QQ (QW (QW (QW (QQ (fw (Y Zj) (QJ Z) (nt (jt (sr (Az Z (nt (rt (tR (rs ?_)))))))))))))))))))))))))))))))))))))))))
 obtain rfl:=zj hr zq5
 exact⟨Z,(b.pk []),U⟩
 refine Gz (vP d 4) (dF n) (Gl (Z9 ⟨Zb a.b⟩) (dF n) b 0 B9 (gw (Za (a.b≠[])) (dF n) (KH Z Z) (gw (Za (a.b≠[])) (dT c) (JU Z (dF n) Z) (gw (Za (a.b≠[])) Z (JX Z (dT c) Z) (fw (Za (a.b≠[])) (QK Z) (Mz Z ?_))))))
 by_cases o:a.b≠[]
 refine Sz (dT o) (Sz (dT o) (QW (QW (QW (Sz (dT o) (fw (Y Zj) (JX Z (dT o) Z) (Mz Z (QQ (QQ (QQ (QQ (QW (QW (QW (QQ (fw (Y Zj) (QJ Z) (Mz Z (QQ (QQ (QQ (QQ (QW (QW (QW (QQ (fw (Y Zj) (QJ Z) (nt (jt (sr (An Z (rt (tR (rs ?_)))))))))))))))))))))))))))))))))
 obtain rfl:=zj hr zq6
 exact⟨Z,(b.pk []),U⟩
 refine gw (Za (a.g=5)) (dF o) (J3 Z) (gw (Za (a.g=5)) (dF o) (J3 Z) ?_)
 have m:(Zw (a.g=5))=O:=(dF U)
 refine Sz m (Sz m (Sz m (gw (Y O) (dF o) (JU Z m Z) (fw (Y O) (JU Z (dF o) Z) (Mz Z (Gz (vP d 0) Z (Gl (vI a.g) Z b 0 B8 (gw (Za (¬ (a.g=2))) Z (Kc (e:= !(Zw (a.g=2))) yk ZW) (gw (Za (¬ (a.g=2))) Z (J3 Z) ?_)))))))))
 have M:(Zw (¬ (a.g=2)))=Zj:=(dT U)
 refine Gz (vP d 2) M (Gl (Z9 ⟨Zb a.k⟩) M b 0 B9 (KC (v:= Za (a.k≠[])) Z Z M Z (KH Z Z) (gw (Za (a.k≠[])) Z (JX Z M Z) (fw (Za (a.k≠[])) (QK Z) (Mz Z ?_)))))
 by_cases k:a.k≠[]
 refine Sz (dT k) (Sz (dT k) (Sz (dT k) (Sz (dT k) (QW (QW (QW (Sz (dT k) (fw (Y Zj) (JX Z (dT k) Z) (nt (jt (sr (An Z (rt (tR (rs ?_)))))))))))))))
 obtain rfl:=zj hr zq7
 exact⟨Z,(b.pk []),U⟩
 refine Gz (vP d 0) (dF k) (Gl (vI a.g) (dF k) b 0 B8 (gw (Za (¬ (a.g=4))) (dF k) (Kc (e:= !(Zw (a.g=4))) yk ZW) (gw (Za (¬ (a.g=4))) (dF k) (J3 Z) ?_)))
 have Z5:(Zw (¬ (a.g=4)))=Zj:=(dT U)
 refine Gz (vP d 5) Z5 (Gl (vI a.r) Z5 b 0 B8 (KC (v:= Za (¬ (a.r=0))) Z Z Z5 Z (Kc (e:= !(Zw (a.r=0))) yk ZW) (gw (Za (¬ (a.r=0))) (dF k) (JX Z Z5 Z) (fw (Za (¬ (a.r=0))) (JU Z (dF k) Z) (nt ?_)))))
 by_cases J:a.r=0
 refine jF (dF (Nu J)) (sk (JS (sr (Mz Z (Mz Z (Gz (vP d 1) (dT c) (Gl (Z9 ⟨Zb a.j⟩) (dT c) b 0 B9 ?_)))))))
 obtain⟨K,Z6⟩:∃ q,jl a.j=q:=⟨_,Z⟩
 obtain⟨_,aP,_,aQ,_⟩:=JZ b
 refine oI (dT c) N1 (mW _ _ a.j K aP Z6) ?_
 rintro _ _ ⟨rfl,aR,aJ⟩
 have S:=aQ _ _ aR
 replace aJ: ¬ (K=0)\/(1<=X a.j/\X a.j<=12):=aJ
 refine gw (Za (¬ (K=0))) (dT c) (Kc (e:= !(Zw (K=0))) yk ZW) (fw (Za (¬ (K=0))) (JX Z (dT c) Z) (nt ?_))
 by_cases Z7:K=0
 refine jF (dF (Nu Z7)) (sk (JS (sr (Kz (vP d 2) (Lz (Z9 ⟨Zb a.k⟩) S 0 B9 (Kz (vJ (X a.k)) (Kz (Za ((X a.k:Int) > 16)) (nt ?_))))))))
 by_cases av:(X a.k:Int) > 16
 refine jT (dT av) (sr (An Z (rt (tR (rs ?_)))))
 obtain rfl:=zj hr zq11
 exact⟨Z,(S.pk []),U⟩
 refine jF (dF av) (sk (JS (sr (Mz Z (Mz Z (Sz m (Sz m (Sz m (Sz m (Sz m (Sz m (Sz m (fw (Y O) (JU Z m Z) (nt (jf (sk (JS (sr (Kz (vP d 0) (Lz (vI a.g) S 0 B8 (Kz (Za (a.g=4)) (Mz Z (Sz (dF f) (Sz (dF f) (Sz (dF f) (Sz (dF f) (QW (QW (QW (Sz (dF f) (fw (Y O) (JU Z (dF f) Z) (nt (jf (sk (sr (An Z (rt (rs ?_))))))))))))))))))))))))))))))))))))))
 obtain rfl:=zj hr zq11
 exact⟨Z,(S.pk []),U⟩
 refine jT (dT Z7) (sr (An Z (rt (tR (rs ?_)))))
 obtain rfl:=zj hr zq10
 exact⟨Z,(S.pk []),U⟩
 refine jT (dT J) (sr (An Z (rt (tR (rs ?_)))))
 obtain rfl:=zj hr zq8
 exact⟨Z,(b.pk []),U⟩
 refine gw (Za (a.g=5)) (dT c) (J3 Z) (gw (Za (¬ (a.g=5))) (dT c) (Kc (e:= !(Zw (a.g=5))) yk ZW) (fw (Za (¬ (a.g=5))) (JX Z (dT c) Z) (Mz Z ?_)))
 by_cases h:a.g=5
 refine gw (Za (a.g=3)) (dF (Nu h)) (J3 Z) (gw (Za (a.g=3)) (dF (Nu h)) (J3 Z) (Sz (dF c) (Sz (dF c) (Sz (dF c) (Sz (dF c) (QW (QW (QW (Sz (dF c) (gw (Y O) (dF (Nu h)) (JU Z (dF c) Z) (fw (Y O) (JU Z (dF (Nu h)) Z) (Mz Z (gw (Za (a.g=5)) Z (J3 Z) (gw (Za (a.g=5)) Z (J3 Z) (Gz (vP d 1) (dT h) (Gl (Z9 ⟨Zb a.j⟩) (dT h) b 0 B9 (gw (Za (a.j≠[])) (dT h) (KH Z Z) (gw (Za (a.j≠[])) Z (JX Z (dT h) Z) (fw (Za (a.j≠[])) (QK Z) (Mz Z ?_))))))))))))))))))))
 by_cases j:a.j≠[]
 refine Sz (dT j) (Sz (dT j) (Sz (dT j) (Sz (dT j) (QW (QW (QW (Sz (dT j) (fw (Y Zj) (JX Z (dT j) Z) (Mz Z (QQ (QQ (QQ (QQ (QW (QW (QW (QQ (fw (Y Zj) (QJ Z) (nt (jt (sr (An Z (rt (tR (rs ?_)))))))))))))))))))))))))
 obtain rfl:=zj hr zq6
 exact⟨Z,(b.pk []),U⟩
 refine Gz (vP d 0) (dF j) (Gl (vI a.g) (dF j) b 0 B8 (gw (Za (¬ (a.g=2))) (dF j) (Kc (e:= !(Zw (a.g=2))) yk ZW) (gw (Za (¬ (a.g=2))) (dF j) (J3 Z) ?_)))
 have P:(Zw (¬ (a.g=2)))=Zj:=(dT U)
 refine Gz (vP d 2) P (Gl (Z9 ⟨Zb a.k⟩) P b 0 B9 (KC (v:= Za (a.k≠[])) Z Z P Z (KH Z Z) (gw (Za (a.k≠[])) (dF j) (JX Z P Z) (fw (Za (a.k≠[])) (JU Z (dF j) Z) (Mz Z ?_)))))
 by_cases l:a.k≠[]
 refine Sz (dT l) (Sz (dT l) (Sz (dT l) (Sz (dT l) (QW (QW (QW (Sz (dT l) (fw (Y Zj) (JX Z (dT l) Z) (nt (jt (sr (An Z (rt (tR (rs ?_)))))))))))))))
 obtain rfl:=zj hr zq7
 exact⟨Z,(b.pk []),U⟩
 refine Gz (vP d 0) (dF l) (Gl (vI a.g) (dF l) b 0 B8 (gw (Za (¬ (a.g=4))) (dF l) (Kc (e:= !(Zw (a.g=4))) yk ZW) (gw (Za (¬ (a.g=4))) (dF l) (J3 Z) ?_)))
 have Q:(Zw (¬ (a.g=4)))=Zj:=(dT U)
 refine Gz (vP d 5) Q (Gl (vI a.r) Q b 0 B8 (KC (v:= Za (¬ (a.r=0))) Z Z Q Z (Kc (e:= !(Zw (a.r=0))) yk ZW) (gw (Za (¬ (a.r=0))) (dF l) (JX Z Q Z) (fw (Za (¬ (a.r=0))) (JU Z (dF l) Z) (nt ?_)))))
 by_cases L:a.r=0
 refine jF (dF (Nu L)) (sk (JS (sr (Mz Z (Mz Z (Sz (dF c) (Sz (dF c) (Sz (dF c) (Sz (dF c) (fw (Y O) (JU Z (dF c) Z) (nt (jf (sk (JS (sr (Kz (vP d 2) (Lz (Z9 ⟨Zb a.k⟩) b 0 B9 (Kz (vJ (X a.k)) (Kz (Za ((X a.k:Int) > 16)) (nt ?_))))))))))))))))))))
 by_cases Z3:(X a.k:Int) > 16
 refine jT (dT Z3) (sr (An Z (rt (tR (rs ?_)))))
 obtain rfl:=zj hr zq9
 exact⟨Z,(b.pk []),U⟩
 refine jF (dF Z3) (sk (JS (sr (Mz Z (Mz Z (Gz (vP d 3) (dT h) (Gl (Z9 ⟨Zb a.a⟩) (dT h) b 0 B9 (Gz (vP d 4) (dT h) (Gl (Z9 ⟨Zb a.b⟩) (dT h) b 0 B9 (Gz (Zq #[Z9 ⟨Zb a.a⟩, Z9 ⟨Zb a.b⟩]) (dT h) ?_))))))))))
 obtain⟨Z4,Z1⟩:∃ q,qy (ai.q a.a a.b)=q:=⟨_,Z⟩
 obtain⟨_,aS,_,aT,_⟩:=JZ b
 refine oI (dT h) N2 (uO _ _ (ai.q a.a a.b) Z4 aS Z1) ?_
 rintro _ _ ⟨rfl,aU⟩
 have aK:=aT _ _ aU
 refine gw (Za (¬ (Z4=0))) (dT h) (Kc (e:= !(Zw (Z4=0))) yk ZW) (fw (Za (¬ (Z4=0))) (JX Z (dT h) Z) (nt ?_))
 by_cases ax:Z4=0
 refine jF (dF (Nu ax)) (sk (JS (sr (Kz (vP d 0) (Lz (vI a.g) aK 0 B8 (Kz (Za (a.g=4)) (Mz Z (Sz (dF f) (Sz (dF f) (Sz (dF f) (Sz (dF f) (QW (QW (QW (Sz (dF f) (fw (Y O) (JU Z (dF f) Z) (nt (jf (sk (sr (An Z (rt (rs ?_)))))))))))))))))))))))
 obtain rfl:=zj hr zq11
 exact⟨Z,(aK.pk []),U⟩
 refine jT (dT ax) (sr (An Z (rt (tR (rs ?_)))))
 obtain rfl:=zj hr zq11
 exact⟨Z,(aK.pk []),U⟩
 refine jT (dT L) (sr (An Z (rt (tR (rs ?_)))))
 obtain rfl:=zj hr zq8
 exact⟨Z,(b.pk []),U⟩
 refine Sz (dT h) (Sz (dT h) (QW (QW (QW (QW (QW (QW (QW (QW (Sz (dT h) (fw (Y Zj) (JX Z (dT h) Z) (Mz Z (QQ (QQ (QW (QW (QW (QQ (fw (Y Zj) (QJ Z) (Mz Z (QQ (QQ (QQ (QQ (QW (QW (QW (QQ (fw (Y Zj) (QJ Z) (Mz Z (QQ (QQ (QQ (QQ (QW (QW (QW (QQ (fw (Y Zj) (QJ Z) (nt (jt (sr (An Z (rt (tR (rs ?_))))))))))))))))))))))))))))))))))))))))))))))
 obtain rfl:=zj hr zq5
 exact⟨Z,(b.pk []),U⟩
def ol:List aV->Unit ⊕ Int
  | []=>G0 ()
  | b::c=>bnd (vG b) λ a=>if a=0 then ol c else G1 (a)
def Aq (a:List aV):Int:=
 lp (ol a) λ _=>0
theorem Ei (w D p B C b M) (H:Own w D w []) (o:Ro w D λ w'=>bV w' 6 p B (q1 aV.L b)) (E:B=X b) (Q:X b<=9223372036854775807) (hr:Aq b=M):
    Calls y3 23 #[T p B C] w (dI λ v w'=>v=vI M/\Own w D w' []):=by
 subst E
 refine cb Tryz.func23 ?_
 refine sr (An Z (JS (sr (Mz Z (Kz (vJ (X b)) (Mn Z (bo ?_)))))))
 obtain⟨G,f⟩:=nI λ (a:Nat) w'=>Own w D w' []/\a<=X b/\ol b=ol (r8 a b)
 refine G3 (λ i:Nat=> [(2,vI 0),(8,vJ i),(7,vJ (X b)),(6, T p (X b) C)]) G (λ i=>X b - i) 0 ⟨Z,Z,Z,Z,ZV⟩ (f.2 ⟨(H.pk []),U,Z⟩) ?_
 rintro a R r
 obtain⟨g,_,h⟩:=f.1 r
 refine sr (Kz (Za ((a:Int) < (X b:Int))) (nt (JS ?_)))
 by_cases s:(a:Int) < (X b:Int)
 obtain⟨c,l⟩:=dM (ls:=b) (i:=a) aV.len f7 (g.ro o) f5
 have m:=drop_at l
 refine jT (dT s) (sk (JS (bo (sr (fw (Zz (Zv ⟨ab p,ao p+a *6,Zk⟩)) (J9 (nH) Z Z ((g.ro o).addr (i:=a) U) U) (fw (Zq (Zb (aV.L c))) (J5 Z (J7 (cs:=(aV.L c)) Tryz.isAgg62 C0 ((g.ro o).elem aV.len l f7))) (cB [vI 0, Z9 ⟨Zb []⟩, Z9 ⟨Zb []⟩, Z9 ⟨Zb []⟩, Z9 ⟨Zb []⟩,vI 0] 62 g ?_)))))))
 intro S _ I
 refine cu (aV.L c) 0 I C0 ?_
 intro _ t
 refine ns (La (aV.L c) t 0 Tryz.isAgg62 C0 ?_)
 obtain⟨d,j⟩:∃ q,vG c=q:=⟨_,Z⟩
 obtain⟨_,u,_,x,P⟩:=JZ t
 refine cl Tryz.call54 (Ap _ _ c d u j) ?_
 rintro _ _ ⟨rfl,y,n⟩
 have z:=x _ _ y
 replace n:=n
 refine Ar Z (Mz Z (fw (Za (¬ (d=0))) (Kc (e:= !(Zw (d=0))) yk ZW) (nt ?_)))
 by_cases k:d=0
 refine jF (dF (Nu k)) (Ko (bN (JY (JW (fw (vJ (a+1)) (J4 (e:=D3.wrap ((a:Int)+1)) yk f4) (Mz Z (G2 ?_)))))))
 exact Kb (a+1) ⟨Z,Z,Z,Z,ZV⟩ (f.2 ⟨(z.pk []),U,V (h) (V (ZX (λ q=>ol q) m) (V (ae j) (ip k)))⟩) (by show X b - (a+1) < X b - a; omega)
 refine jT (dT k) (sr (Mz Z (An Z (rt (bR (tR (tR (bR (tR (rs ?_))))))))))
 obtain rfl:_=d:=zj hr (iX (V (h) (V (ZX (λ q=>ol q) m) (V (ae j) (iN k)))))
 exact⟨Z,(z.pk [])⟩
 refine jF (dF s) (H0 (Ka (Ka (Kh (JY (sr (An Z (rt (rs ?_)))))))))
 obtain rfl:_=0:=zj hr (kH (V (h) (V (ZX (λ q=>ol q) (eU (ls:=b) (i:=a) U)) Z)))
 exact⟨Z,(g.pk [])⟩
def iy (f:List aG):List aG->Nat->Unit ⊕ Int
  | [],a=>G0 ()
  | b::c,a=>bnd (jl b.j) λ d=>if d=0 then if((X b.k:Nat):Int) > 16 then G1 (2) else if((a:Nat):Int) > 0 then bnd (J0 f (a - 1) Zy) λ e=>if b.j<=e.j then G1 (1) else iy f c (a+1) else iy f c (a+1) else G1 (20)
def l8 (a:List aG):Int:=
 lp (iy a a 0) λ _=>0
theorem vk (w D m Z5 C c Z2) (H:Own w D w []) (o:Ro w D λ w'=>bV w' 2 m Z5 (q1 aG.L c)) (Z6:Z5=X c) (ag:X c *32<=211106232532992) (hr:l8 c=Z2):
    Calls y3 5 #[T m Z5 C] w (dI λ v w'=>v=vI Z2/\Own w D w' []):=by
 subst Z6
 refine cb Tryz.func5 ?_
 refine sr (An Z (JS (sr (Mz Z (Kz (vJ (X c)) (Mn Z (bo ?_)))))))
 obtain⟨Q,l⟩:=nI λ (a:Nat) w'=>Own w D w' []/\a<=X c/\iy c c 0=iy c (r8 a c) a
 refine G3 (λ i:Nat=> [(2,vI 0),(7,vJ i),(6,vJ (X c)),(5, T m (X c) C),(0, T m (X c) C)]) Q (λ i=>X c - i) 0 ⟨Z,Z,Z,Z,Z,ZV⟩ (l.2 ⟨(H.pk []),U,Z⟩) ?_
 rintro a _ E
 obtain⟨p,_,f⟩:=l.1 E
 refine sr (Kz (Za ((a:Int) < (X c:Int))) (nt (JS ?_)))
 by_cases F:(a:Int) < (X c:Int)
 obtain⟨d,y⟩:=dM (ls:=c) (i:=a) aG.len f7 (p.ro o) f5
 have h:=drop_at y
 refine jT (dT F) (sk (JS (bo (sr (Mz Z (fw (Zz (Zv ⟨ab m,ao m+a *2,Zk⟩)) (J9 (jo) Z Z ((p.ro o).addr (i:=a) U) U) (fw (Zq (Zb (aG.L d))) (J5 Z (J7 (cs:=(aG.L d)) N3 L3 ((p.ro o).elem aG.len y f7))) (cB [Z9 ⟨Zb []⟩, Z9 ⟨Zb []⟩] 67 p ?_))))))))
 intro A _ R
 refine Az Z (cu (aG.L d) 0 R L3 ?_)
 intro _ G
 refine nt (JS (sr (Kz (vP A 0) (Lz (Z9 ⟨Zb d.j⟩) G 0 B9 ?_))))
 obtain⟨r,g⟩:∃ q,jl d.j=q:=⟨_,Z⟩
 obtain⟨_,I,_,J,_⟩:=JZ G
 refine cl N1 (mW _ _ d.j r I g) ?_
 rintro _ _ ⟨rfl,K,z⟩
 have u:=J _ _ K
 replace z:=z
 refine fw (Za (¬ (r=0))) (Kc (e:= !(Zw (r=0))) yk ZW) (nt ?_)
 by_cases j:r=0
 refine jF (dF (Nu j)) (sk (JS (sr (Kz (vP A 1) (Lz (Z9 ⟨Zb d.k⟩) u 0 B9 (Kz (vJ (X d.k)) (Kz (Za ((X d.k:Int) > 16)) (nt ?_))))))))
 by_cases n:(X d.k:Int) > 16
 refine jT (dT n) (sr (An Z (rt (tR (bR (tR (tR (bR (tR (rs ?_))))))))))
 obtain rfl:_=2:=zj hr (iX (V (f) (V (ZX (λ q=>iy c q a) h) (V (ae g) (V (ip j) (ip n))))))
 exact⟨Z,(u.pk [])⟩
 refine jF (dF n) (sk (JS (DI [] (J6 (bJ.block (J6 (J6 (bJ.block (J6 Kg)))))) u ?_)))
 intro _ B
 refine qv 0 Z Z (qk (Za ((a:Int) > 0)) 1 Z (qv 2 Z Z ?_))
 by_cases b:(a:Int) > 0
 refine J2 (v:= T m (X c) C) (rs:= []) 3 Z Z Z (dT b) f1 (λ _ _=>J3 Z) (J2 (v:=vJ a) (rs:= []) 4 Z Z Z (dT b) f1 (λ _ _=>J3 Z) (J2 (v:=vJ (a - 1)) (rs:= []) 5 Z Z Z (dT b) f1 (λ _ _=>J4 (e:=D3.wrap ((a:Int) - 1)) yk f4) ?_))
 obtain⟨s,t⟩:=mK (ls:=c) (i:=a - 1) f5
 refine J2 (v:= Zz (Zv ⟨ab m,ao m+(a - 1) *2,Zk⟩)) (rs:= []) 6 Z Z Z (dT b) f1 (λ _ ⟨_,L⟩=>J9 (jo) Z Z ((L.ro o).addr (i:=a - 1) U) U) (J2 (v:= Zz (Zv ⟨ab m,ao m+(a - 1) *2,Zk⟩)) (rs:= []) 7 Z Z Z (dT b) f1 (λ _ _=>yk) (J2 (v:= Z9 ⟨Zb s.j⟩) (rs:= []) 8 Z Z Z (dT b) f1 (λ _ ⟨_,L⟩=>J5 Z (bO.one B9 (((L.ro o).elem aG.len t f7).at_ (k:=0) Z))) (J2 (v:=vP A 0) (rs:= []) 9 Z Z Z (dT b) f1 (λ _ _=>yk) (J2 (v:= Z9 ⟨Zb d.j⟩) (rs:= []) 10 Z Z Z (dT b) f1 (λ _ ⟨_,L⟩=>J5 Z (bO.one B9 (Kw (L.cls (i:=0) Z) Z))) (J2 (v:= Za (d.j<=s.j)) (rs:= []) 11 Z Z Z (dT b) f1 (λ _ _=>Kc (e:= !(Op.bytesLess s.j d.j)) (LC Z Z) (BC _ _)) (qt (v:= Za (d.j<=s.j)) 12 Z (λ _ _=>JX Z (dT b) Z) (qn (JY ?_))))))))
 by_cases x:d.j<=s.j
 refine jT (dT x) (sr (An Z (rt (bR (tR (tR (bR (tR (rs ?_)))))))))
 obtain rfl:_=1:=zj hr (iX (V (f) (V (ZX (λ q=>iy c q a) h) (V (ae g) (V (ip j) (V (iN n) (V (ip b) (V (ae (bG t)) (ip x)))))))))
 exact⟨Z,(B.pk [])⟩
 refine jF (dF x) (Ko (bN (JY (JW (fw (vJ (a+1)) (J4 (e:=D3.wrap ((a:Int)+1)) yk f4) (Mz Z (G2 ?_)))))))
 exact Kb (a+1) ⟨Z,Z,Z,Z,Z,ZV⟩ (l.2 ⟨(B.pk []),U,V (f) (V (ZX (λ q=>iy c q a) h) (V (ae g) (V (ip j) (V (iN n) (V (ip b) (V (ae (bG t)) (iN x)))))))⟩) (by show X c - (a+1) < X c - a; omega)
 refine JV (rs:= []) 3 Z Z Z (dF b) f1 (JV (rs:= []) 4 Z Z Z (dF b) f1 (JV (rs:= []) 5 Z Z Z (dF b) f1 (JV (rs:= []) 6 Z Z Z (dF b) f1 (JV (rs:= []) 7 Z Z Z (dF b) f1 (JV (rs:= []) 8 Z Z Z (dF b) f1 (JV (rs:= []) 9 Z Z Z (dF b) f1 (JV (rs:= []) 10 Z Z Z (dF b) f1 (JV (rs:= []) 11 Z Z Z (dF b) f1 (qt (v:= Y O) 12 Z (λ _ _=>JU Z (dF b) Z) (qn (JY (jf (Ko (bN (JY (JW (fw (vJ (a+1)) (J4 (e:=D3.wrap ((a:Int)+1)) yk f4) (Mz Z (G2 ?_)))))))))))))))))))
 exact Kb (a+1) ⟨Z,Z,Z,Z,Z,ZV⟩ (l.2 ⟨(B.pk []),U,V (f) (V (ZX (λ q=>iy c q a) h) (V (ae g) (V (ip j) (V (iN n) (iN b)))))⟩) (by show X c - (a+1) < X c - a; omega)
 refine jT (dT j) (sr (An Z (rt (tR (bR (tR (tR (bR (tR (rs ?_))))))))))
 obtain rfl:_=20:=zj hr (iX (V (f) (V (ZX (λ q=>iy c q a) h) (V (ae g) (iN j)))))
 exact⟨Z,(u.pk [])⟩
 refine jF (dF F) (H0 (Ka (Ka (Kh (JY (sr (An Z (rt (rs ?_)))))))))
 obtain rfl:_=0:=zj hr (kH (V (f) (V (ZX (λ q=>iy c q a) (eU (ls:=c) (i:=a) U)) Z)))
 exact⟨Z,(p.pk [])⟩
def lM (c:List UInt8):List aG->Unit ⊕ ((List UInt8) × Bool)
  | []=>G0 ()
  | a::b=>if a.j=c then G1 (a.k,Zj) else lM c b
def rH (a:List aG) (b:List UInt8):(List UInt8) × Bool:=
 lp (lM b a) λ _=>([],O)
theorem yK (w D o u x b d G I) (H:Own w D w []) (n:Ro w D λ w'=>bV w' 2 o u (q1 aG.L b)) (y:u=X b) (K:X b *32<=211106232532992) (hr:rH b d=(G,I)):
    Calls y3 55 #[T o u x, Z9 ⟨Zb d⟩] w (dI λ v w'=>v= .tuple #[Z9 ⟨Zb G⟩, Y I]/\Own w D w' []):=by
 subst y
 refine cb Tryz.func55 ?_
 refine sr (Az Z (An Z (JS (sr (Mz Z (Kz (vJ (X b)) (Mn Z (bo ?_))))))))
 obtain⟨A,f⟩:=nI λ (a:Nat) w'=>Own w D w' []/\a<=X b/\lM d b=lM d (r8 a b)
 refine G3 (λ i:Nat=> [(4, Z9 ⟨Zb []⟩),(5, Y O),(10,vJ i),(9,vJ (X b)),(8, T o (X b) x),(1, Z9 ⟨Zb d⟩)]) A (λ i=>X b - i) 0 ⟨Z,Z,Z,Z,Z,Z,ZV⟩ (f.2 ⟨(H.pk []),U,Z⟩) ?_
 rintro a L p
 obtain⟨g,J,h⟩:=f.1 p
 refine sr (Kz (Za ((a:Int) < (X b:Int))) (nt (JS ?_)))
 by_cases r:(a:Int) < (X b:Int)
 obtain⟨c,l⟩:=dM (ls:=b) (i:=a) aG.len f7 (g.ro n) f5
 have m:=drop_at l
 refine jT (dT r) (sk (JS (bo (sr (fw (Zz (Zv ⟨ab o,ao o+a *2,Zk⟩)) (J9 (jo) Z Z ((g.ro n).addr (i:=a) U) U) (fw (Zq (Zb (aG.L c))) (J5 Z (J7 (cs:=(aG.L c)) N3 L3 ((g.ro n).elem aG.len l f7))) (cB [Z9 ⟨Zb []⟩, Z9 ⟨Zb []⟩] 67 g ?_)))))))
 intro s M B
 refine cu (aG.L c) 0 B L3 ?_
 intro _ j
 refine ns (Kz (vP s 0) (Lz (Z9 ⟨Zb c.j⟩) j 0 B9 (Mz Z (fw (Za (c.j=d)) (Lb Z Z) (nt ?_)))))
 by_cases k:c.j=d
 refine jT (dT k) (sr (Kz (vP s 1) (Lz (Z9 ⟨Zb c.k⟩) j 0 B9 (Az Z (An Z (rt (bR (tR (tR (bR (tR (Ke (lw Z Z Z) ?_))))))))))))
 obtain⟨rfl,rfl⟩:=fI (zj hr (show _=(c.k,Zj) from iX (V (h) (V (ZX (λ q=>lM d q) m) (ip k)))))
 exact⟨Z,(j.pk [])⟩
 refine jF (dF k) (Ko (bN (JY (JW (fw (vJ (a+1)) (J4 (e:=D3.wrap ((a:Int)+1)) yk f4) (Mz Z (G2 ?_)))))))
 exact Kb (a+1) ⟨Z,Z,Z,Z,Z,Z,ZV⟩ (f.2 ⟨(j.pk []),U,V (h) (V (ZX (λ q=>lM d q) m) (iN k))⟩) (by show X b - (a+1) < X b - a; omega)
 refine jF (dF r) (H0 (Ka (Ka (Kh (JY (sr (Az Z (An Z (rt (Ke (lw Z Z Z) ?_))))))))))
 obtain⟨rfl,rfl⟩:=fI (zj hr (show _=([],O) from kH (V (h) (V (ZX (λ q=>lM d q) (eU (ls:=b) (i:=a) U)) Z))))
 exact⟨Z,(g.pk [])⟩
def vW (c:ai) (d:List UInt8):Bool:=
 bnd (qy c) λ a=>if a=0 then bnd (jl d) λ b=>if b=0 then if c.a<=d then if c.b=[] then Zj else Zw (d < c.b) else O else O else O
theorem zC (w D) (f:ai) (h F) (H:Own w D w []) (hr:vW f h=F):
    Calls y3 97 #[Zq (Zb (ai.L f)), Z9 ⟨Zb h⟩] w (dI λ v w'=>v= Y F/\Own w D w' []):=by
 unfold vW at hr
 refine cb Tryz.func97 ?_
 refine sr ?_
 refine cB (ai.L f) 38 H ?_
 intro m L o
 refine Ar Z (La (ai.L f) o 0 C6 C5 ?_)
 obtain⟨n,g⟩:∃ q,qy f=q:=⟨_,Z⟩
 obtain⟨M,p,G,r,I⟩:=JZ o
 refine cl N2 (uO _ _ f n p g) ?_
 rintro _ _ ⟨rfl,s⟩
 have t:=r _ _ s
 refine Kz (Za (n=0)) (Mz Z ?_)
 by_cases c:n=0
 refine gw (Z9 ⟨Zb h⟩) (dT c) (J3 Z) ?_
 obtain⟨k,i⟩:∃ q,jl h=q:=⟨_,Z⟩
 obtain⟨_,u,J,x,K⟩:=JZ t
 refine oI (dT c) N1 (mW _ _ h k u i) ?_
 rintro _ P ⟨rfl,y,l⟩
 have j:=x _ _ y
 replace l:=l
 refine Gz (Za (k=0)) (dT c) (fw (Za (k=0)) (JX Z (dT c) Z) (Mz Z ?_))
 by_cases b:k=0
 refine gw (Z9 ⟨Zb h⟩) (dT b) (J3 Z) (Gz (vP m 0) (dT b) (Gl (Z9 ⟨Zb f.a⟩) (dT b) j 0 B9 (gw (Za (f.a<=h)) (dT b) (Kc (e:= !(Op.bytesLess h f.a)) (LC Z Z) (BC _ _)) (fw (Za (f.a<=h)) (JX Z (dT b) Z) (Mz Z ?_)))))
 by_cases a:f.a<=h
 refine Gz (vP m 1) (dT a) (Gl (Z9 ⟨Zb f.b⟩) (dT a) j 0 B9 (gw (Za (f.b=[])) (dT a) (Lb Z Z) (gw (Za (f.b=[])) (dT a) (J3 Z) ?_)))
 by_cases d:f.b=[]
 refine Sz (dT d) (Sz (dT d) (Sz (dT d) (Sz (dT d) (gw (Y Zj) (dT a) (JX Z (dT d) Z) (fw (Y Zj) (JX Z (dT a) Z) (An Z (rt (rs ?_))))))))
 obtain rfl:=zj hr zq6
 exact⟨Z,(j.pk [])⟩
 refine gw (Z9 ⟨Zb h⟩) (dF d) (J3 Z) (Gz (vP m 1) (dF d) (Gl (Z9 ⟨Zb f.b⟩) (dF d) j 0 B9 (gw (Za (h < f.b)) (dF d) (Kc (e:=Op.bytesLess h f.b) (LQ Z Z) (zq _ _)) (gw (Za (h < f.b)) (dT a) (JU Z (dF d) Z) (fw (Za (h < f.b)) (JX Z (dT a) Z) (An Z (rt (rs ?_))))))))
 obtain rfl:=zj hr zq6
 exact⟨Z,(j.pk [])⟩
 refine Sz (dF a) (Sz (dF a) (Sz (dF a) (Sz (dF a) (QW (QW (QW (QW (Sz (dF a) (fw (Y O) (JU Z (dF a) Z) (An Z (rt (rs ?_))))))))))))
 obtain rfl:=zj hr zq5
 exact⟨Z,(j.pk [])⟩
 refine Sz (dF b) (Sz (dF b) (Sz (dF b) (Sz (dF b) (fw (Y O) (JU Z (dF b) Z) (Mz Z (QQ (QQ (QQ (QQ (QW (QW (QW (QW (QQ (fw (Y O) (QK Z) (An Z (rt (rs ?_))))))))))))))))))
 obtain rfl:=zj hr zq4
 exact⟨Z,(j.pk [])⟩
 refine Sz (dF c) (Sz (dF c) (Sz (dF c) (fw (Y O) (JU Z (dF c) Z) (Mz Z (QQ (QQ (QQ (QQ (fw (Y O) (QK Z) (Mz Z (QQ (QQ (QQ (QQ (QW (QW (QW (QW (QQ (fw (Y O) (QK Z) (An Z (rt (rs ?_)))))))))))))))))))))))
 obtain rfl:=zj hr zq2
 exact⟨Z,(t.pk [])⟩
def jy (e:ai):List aG->List aG->(List aG)
  | [],a=>a
  | b::c,a=>bnd (vW e b.j) λ d=>if d=Zj then jy e c a else jy e c (a++ [b])
def ou (a:List aG) (b:ai):(List aG):=
 bnd (jy b a []) λ sLrL=>sLrL
theorem vX (w D E Z6 P d) (f:ai) (F) (H:Own w D w []) (x:Ro w D λ w'=>bV w' 2 E Z6 (q1 aG.L d)) (Q:Z6=X d) (aC:X d *32<=211106232532992) (hr:ou d f=F):
    Calls y3 58 #[T E Z6 P, Zq (Zb (ai.L f))] w (dI λ v w'=> ∃ B0 b0,v= T B0 (X F) b0/\Own w D w' [row B0 (X F) b0 (q1 aG.L F) 67 2]/\(X F<=X d)):=by
 unfold ou at hr
 subst Q
 refine cb Tryz.func58 ?_
 refine sr ?_
 refine cB (ai.L f) 38 H ?_
 intro r R S
 refine Ar Z (An Z (JS (sr (Mz Z (Kz (vJ (X d)) (Mn Z (bo ?_)))))))
 have Z3:=(S.free (bW 67 2)).pb [0]
 obtain⟨Z4,g⟩:=uG λ h (j:Nat) b (a:Nat) w'=>Own w D w' [blk r (ai.L f) 38,row h (X b) j (q1 aG.L b) 67 2]/\a<=X d/\X b<=a/\jy f d []=jy f (r8 a d) b
 refine G3 (λ i:(Option Addr) × Nat × (List aG) × Nat=> [(5, T i.1 (X i.2.2.1) i.2.1),(10,vJ i.2.2.2),(9,vJ (X d)),(8, T E (X d) P),(4, T Zk 0 0),(3,vP r 0)]) Z4 (λ i=>X d - i.2.2.2) (Zk,0, [],0) ⟨Z,Z,Z,Z,Z,Z,ZV⟩ (g.2 ⟨Z3,(show 0<=X d/\0<=0/\jy f d []=jy f (r8 0 d) [] from ⟨U,U,Z⟩)⟩) ?_
 rintro ⟨h,j,b,a⟩ _ G
 obtain⟨l,_,_,n⟩:=g.1 G
 refine sr (Kz (Za ((a:Int) < (X d:Int))) (nt (JS ?_)))
 by_cases I:(a:Int) < (X d:Int)
 obtain⟨c,t⟩:=dM (ls:=d) (i:=a) aG.len f7 (l.ro x) f5
 have u:=drop_at t
 refine jT (dT I) (sk (JS (bo (sr (fw (Zz (Zv ⟨ab E,ao E+a *2,Zk⟩)) (J9 (jo) Z Z ((l.ro x).addr (i:=a) U) U) (fw (Zq (Zb (aG.L c))) (J5 Z (J7 (cs:=(aG.L c)) N3 L3 ((l.ro x).elem aG.len t f7))) (cB [Z9 ⟨Zb []⟩, Z9 ⟨Zb []⟩] 67 l ?_)))))))
 intro Z8 _ Z1
 refine cu (aG.L c) 0 Z1 L3 ?_
 intro _ z
 refine ns (La (ai.L f) z 1 C6 C5 (Kz (vP Z8 0) (Lz (Z9 ⟨Zb c.j⟩) z 0 B9 ?_)))
 obtain⟨A,o⟩:∃ q,vW f c.j=q:=⟨_,Z⟩
 obtain⟨_,J,_,K,_⟩:=JZ z
 refine cl Tryz.call97 (zC _ _ f c.j A J o) ?_
 rintro _ _ ⟨rfl,L⟩
 have B:=K _ _ L
 refine Kz (Y (!A)) (nt ?_)
 rcases Nv (A) with p | p
 refine jF (cn p) (Ko (bN (JY (JW (fw (vJ (a+1)) (J4 (e:=D3.wrap ((a:Int)+1)) yk f4) (Mz Z (G2 ?_)))))))
 exact Kb (h,j,b,a+1) ⟨Z,Z,Z,Z,Z,Z,ZV⟩ (g.2 ⟨(B.pk [1,2]),U,U,V (n) (V (ZX (λ q=>jy f q b) u) (V (ae o) (ip p)))⟩) (by show X d - (a+1) < X d - a; omega)
 refine jT (cn p) (JW (Mz Z (La (aG.L c) B 0 N3 L3 (j6 (aG.L c) 67 2 1 B ?_))))
 intro Z0 _ C
 replace C:=Ku (y:=row Z0 1 1 (q1 aG.L ([c])) 67 2) Z C
 have M:=C.pf [3]
 refine WL.do Z (Kk (k:=X b) (m:=1) (jo) M Z Z (eO F0 (M.rds (i:=1) Z) (cO aG.one ([c]))) Z U (s:=X (b++ [c])) f6 (u3).symm ?_)
 intro aa af _ ag
 have aB:X (b++ [c])=X b+1:=by simp only [o3,q6,L0]
 refine Az Z (G2 (bN (JY (JW (fw (vJ (a+1)) (J4 (e:=D3.wrap ((a:Int)+1)) yk f4) (Mz Z (G2 ?_)))))))
 exact Kb (aa,af,(b++ [c]),a+1) ⟨Z,Z,Z,Z,Z,Z,ZV⟩ (g.2 ⟨(ag.pk [3,0]),U,U,V (n) (V (ZX (λ q=>jy f q b) u) (V (ae o) (eD p)))⟩) (by show X d - (a+1) < X d - a; omega)
 refine jF (dF I) (H0 (Ka ?_))
 have Z5:=V (n) (V (ZX (λ q=>jy f q b) (eU (ls:=d) (i:=a) U)) Z)
 refine Ka (Kh (JY (JS (JW (Mz Z (An Z (rt (rs ?_))))))))
 have ak:=(l.pk [1]).pf []
 obtain rfl:=zj hr zq1
 exact⟨h,j,Z,ak,i3⟩
def gV (e:aG):List aG->List aG->Bool->(List aG) × Bool
  | [],a,b=>(a,b)
  | c::d,a,b=>if b=Zj then if c.j≠e.j then gV e d (a++ [c]) b else gV e d a b else if e.j<=c.j then if c.j≠e.j then gV e d ((a++ [e])++ [c]) Zj else gV e d (a++ [e]) Zj else if c.j≠e.j then gV e d (a++ [c]) b else gV e d a b
def yh (b:List aG) (a:aG):(List aG):=
 bnd (gV a b [] O) λ sLrL=>if sLrL.2=Zj then sLrL.1 else(sLrL.1++ [a])
theorem Ej (w D Q n0 c0 h) (d:aG) (R) (H:Own w D w []) (L:Ro w D λ w'=>bV w' 2 Q n0 (q1 aG.L h)) (ak:n0=X h) (bD:X h *32<=211106232532992) (bE:(X h+1) *32<=211106232532992) (hr:yh h d=R):
    Calls y3 56 #[T Q n0 c0, Zq (Zb (aG.L d))] w (dI λ v w'=> ∃ B0 b0,v= T B0 (X R) b0/\Own w D w' [row B0 (X R) b0 (q1 aG.L R) 67 2]/\(X R<=X h+1)):=by
 unfold yh at hr
 subst ak
 refine cb Tryz.func56 ?_
 refine sr ?_
 refine cB (aG.L d) 67 H ?_
 intro p au av
 refine Ar Z (Ar Z (An Z (JS (sr (Mz Z (Kz (vJ (X h)) (Mn Z (bo ?_))))))))
 have ay:=(av.free (bW 67 2)).pb [0]
 obtain⟨az,l⟩:=GH λ u (x:Nat) b f (a:Nat) w'=>Own w D w' [blk p (aG.L d) 67,row u (X b) x (q1 aG.L b) 67 2]/\a<=X h/\X b<=a+Zd f/\gV d h [] O=gV d (r8 a h) b f
 refine G3 (λ i:(Option Addr) × Nat × (List aG) × Bool × Nat=> [(5, T i.1 (X i.2.2.1) i.2.1),(6, Y i.2.2.2.1),(11,vJ i.2.2.2.2),(10,vJ (X h)),(9, T Q (X h) c0),(4, T Zk 0 0),(3,vP p 0)]) az (λ i=>X h - i.2.2.2.2) (Zk,0, [],O,0) ⟨Z,Z,Z,Z,Z,Z,Z,ZV⟩ (l.2 ⟨ay,(show 0<=X h/\0<=0+0/\gV d h [] O=gV d (r8 0 h) [] O from ⟨U,U,Z⟩)⟩) ?_
 rintro ⟨u,x,b,f,a⟩ _ S
 obtain⟨r,_,_,n⟩:=l.1 S
 refine sr (Kz (Za ((a:Int) < (X h:Int))) (nt (JS ?_)))
 by_cases Z7:(a:Int) < (X h:Int)
 obtain⟨c,I⟩:=dM (ls:=h) (i:=a) aG.len f7 (r.ro L) f5
 have o:=drop_at I
 refine jT (dT Z7) (sk (JS (bo (sr (fw (Zz (Zv ⟨ab Q,ao Q+a *2,Zk⟩)) (J9 (jo) Z Z ((r.ro L).addr (i:=a) U) U) (fw (Zq (Zb (aG.L c))) (J5 Z (J7 (cs:=(aG.L c)) N3 L3 ((r.ro L).elem aG.len I f7))) (cB [Z9 ⟨Zb []⟩, Z9 ⟨Zb []⟩] 67 r ?_)))))))
 intro C _ aA
 refine cu (aG.L c) 0 aA L3 ?_
 intro _ j
 refine nt (JS (sr (Mz Z (Kz (Y (!f)) (Mz Z ?_)))))
 rcases Nv (f) with g | g
 have h49t:Zd f=1:=by rw [g]; rfl
 refine Sz (cn g) (Sz (cn g) (Sz (cn g) (Sz (cn g) (Sz (cn g) (fw (Y O) (JU Z (cn g) Z) (nt (jf (sk (sr (Kz (vP C 0) (Lz (Z9 ⟨Zb c.j⟩) j 0 B9 (Kz (vP p 0) (Lz (Z9 ⟨Zb d.j⟩) j 1 B9 (fw (Za (c.j≠d.j)) (KH Z Z) (nt ?_)))))))))))))))
 by_cases E:c.j≠d.j
 refine jT (dT E) (JW (Mz Z (La (aG.L c) j 0 N3 L3 (j6 (aG.L c) 67 2 1 j ?_))))
 intro aB _ M
 replace M:=Ku (y:=row aB 1 1 (q1 aG.L ([c])) 67 2) Z M
 have Z3:=M.pf [3]
 refine WL.do Z (Kk (k:=X b) (m:=1) (jo) Z3 Z Z (eO F0 (Z3.rds (i:=1) Z) (cO aG.one ([c]))) Z U (s:=X (b++ [c])) f6 (u3).symm ?_)
 intro aC aD _ aF
 have bu:X (b++ [c])=X b+1:=by simp only [o3,q6,L0]
 refine Az Z (G2 (bN (JY (JW (fw (vJ (a+1)) (J4 (e:=D3.wrap ((a:Int)+1)) yk f4) (Mz Z (G2 ?_)))))))
 exact Kb (aC,aD,(b++ [c]),f,a+1) ⟨Z,Z,Z,Z,Z,Z,Z,ZV⟩ (l.2 ⟨(aF.pk [3,0]),U,U,V (n) (V (ZX (λ q=>gV d q b f) o) (V (ip g) (ip E)))⟩) (by show X h - (a+1) < X h - a; omega)
 refine jF (dF E) (Ko (bN (JY (JW (fw (vJ (a+1)) (J4 (e:=D3.wrap ((a:Int)+1)) yk f4) (Mz Z (G2 ?_)))))))
 exact Kb (u,x,b,f,a+1) ⟨Z,Z,Z,Z,Z,Z,Z,ZV⟩ (l.2 ⟨(j.pk [1,2]),U,U,V (n) (V (ZX (λ q=>gV d q b f) o) (V (ip g) (iN E)))⟩) (by show X h - (a+1) < X h - a; omega)
 have h49t:Zd f=0:=by rw [g]; rfl
 refine Gz (vP C 0) (cn g) (Gl (Z9 ⟨Zb c.j⟩) (cn g) j 0 B9 (Gz (vP p 0) (cn g) (Gl (Z9 ⟨Zb d.j⟩) (cn g) j 1 B9 (gw (Za (d.j<=c.j)) (cn g) (Kc (e:= !(Op.bytesLess c.j d.j)) (LC Z Z) (BC _ _)) (fw (Za (d.j<=c.j)) (JX Z (cn g) Z) (nt ?_))))))
 by_cases z:d.j<=c.j
 refine jT (dT z) (sr (Mz Z (La (aG.L d) j 1 N3 L3 (j6 (aG.L d) 67 2 1 j ?_))))
 intro aJ _ Z5
 replace Z5:=Ku (y:=row aJ 1 1 (q1 aG.L ([d])) 67 2) Z Z5
 have Z4:=Z5.pf [3]
 refine WL.do Z (Kk (k:=X b) (m:=1) (jo) Z4 Z Z (eO F0 (Z4.rds (i:=1) Z) (cO aG.one ([d]))) Z U (s:=X (b++ [d])) f6 (u3).symm ?_)
 intro aK aL _ A
 have bv:X (b++ [d])=X b+1:=by simp only [o3,q6,L0]
 refine An Z (JW (Ar Z (Kz (vP C 0) (Lz (Z9 ⟨Zb c.j⟩) A 2 B9 (Kz (vP p 0) (Lz (Z9 ⟨Zb d.j⟩) A 3 B9 (fw (Za (c.j≠d.j)) (KH Z Z) (nt ?_))))))))
 by_cases F:c.j≠d.j
 refine jT (dT F) (JW (Mz Z (La (aG.L c) A 2 N3 L3 (j6 (aG.L c) 67 2 1 A ?_))))
 intro aM _ Z6
 replace Z6:=Ku (y:=row aM 1 1 (q1 aG.L ([c])) 67 2) Z Z6
 have Z8:=Z6.pf [1]
 refine WL.do Z (Kk (k:=X (b++ [d])) (m:=1) (jo) Z8 Z Z (eO F0 (Z8.rds (i:=1) Z) (cO aG.one ([c]))) Z U (s:=X ((b++ [d])++ [c])) f6 (u3).symm ?_)
 intro aN aO _ aP
 have bz:X ((b++ [d])++ [c])=(X (b++ [d]))+1:=by simp only [o3,q6,L0]
 refine Az Z (G2 (bN (JY (JW (fw (vJ (a+1)) (J4 (e:=D3.wrap ((a:Int)+1)) yk f4) (Mz Z (G2 ?_)))))))
 exact Kb (aN,aO,((b++ [d])++ [c]),Zj,a+1) ⟨Z,Z,Z,Z,Z,Z,Z,ZV⟩ (l.2 ⟨(aP.pk [4,0]),(show (a+1)<=X h/\X ((b++ [d])++ [c])<=(a+1)+1/\gV d h [] O=gV d (r8 (a+1) h) ((b++ [d])++ [c]) Zj from ⟨U,U,V (n) (V (ZX (λ q=>gV d q b f) o) (V (eD g) (V (ip z) (ip F))))⟩)⟩) (by show X h - (a+1) < X h - a; omega)
 refine jF (dF F) (Ko (bN (JY (JW (fw (vJ (a+1)) (J4 (e:=D3.wrap ((a:Int)+1)) yk f4) (Mz Z (G2 ?_)))))))
 exact Kb (aK,aL,(b++ [d]),Zj,a+1) ⟨Z,Z,Z,Z,Z,Z,Z,ZV⟩ (l.2 ⟨(A.pk [3,0]),(show (a+1)<=X h/\X (b++ [d])<=(a+1)+1/\gV d h [] O=gV d (r8 (a+1) h) (b++ [d]) Zj from ⟨U,U,V (n) (V (ZX (λ q=>gV d q b f) o) (V (eD g) (V (ip z) (iN F))))⟩)⟩) (by show X h - (a+1) < X h - a; omega)
 refine jF (dF z) (sk (sr (Kz (vP C 0) (Lz (Z9 ⟨Zb c.j⟩) j 0 B9 (Kz (vP p 0) (Lz (Z9 ⟨Zb d.j⟩) j 1 B9 (fw (Za (c.j≠d.j)) (KH Z Z) (nt ?_))))))))
 by_cases G:c.j≠d.j
 refine jT (dT G) (JW (Mz Z (La (aG.L c) j 0 N3 L3 (j6 (aG.L c) 67 2 1 j ?_))))
 intro aS _ P
 replace P:=Ku (y:=row aS 1 1 (q1 aG.L ([c])) 67 2) Z P
 have Z1:=P.pf [3]
 refine WL.do Z (Kk (k:=X b) (m:=1) (jo) Z1 Z Z (eO F0 (Z1.rds (i:=1) Z) (cO aG.one ([c]))) Z U (s:=X (b++ [c])) f6 (u3).symm ?_)
 intro aT aU _ aV
 have bA:X (b++ [c])=X b+1:=by simp only [o3,q6,L0]
 refine Az Z (G2 (bN (JY (JW (fw (vJ (a+1)) (J4 (e:=D3.wrap ((a:Int)+1)) yk f4) (Mz Z (G2 ?_)))))))
 exact Kb (aT,aU,(b++ [c]),f,a+1) ⟨Z,Z,Z,Z,Z,Z,Z,ZV⟩ (l.2 ⟨(aV.pk [3,0]),U,U,V (n) (V (ZX (λ q=>gV d q b f) o) (V (eD g) (V (iN z) (ip G))))⟩) (by show X h - (a+1) < X h - a; omega)
 refine jF (dF G) (Ko (bN (JY (JW (fw (vJ (a+1)) (J4 (e:=D3.wrap ((a:Int)+1)) yk f4) (Mz Z (G2 ?_)))))))
 exact Kb (u,x,b,f,a+1) ⟨Z,Z,Z,Z,Z,Z,Z,ZV⟩ (l.2 ⟨(j.pk [1,2]),U,U,V (n) (V (ZX (λ q=>gV d q b f) o) (V (eD g) (V (iN z) (iN G))))⟩) (by show X h - (a+1) < X h - a; omega)
 refine jF (dF Z7) (H0 (Ka ?_))
 have J:gV d h [] O=(b,f):=V (n) (V (ZX (λ q=>gV d q b f) (eU (ls:=h) (i:=a) U)) Z)
 refine Ka (Kh (JY (JS (sr (Mz Z (Kz (Y (!f)) (nt ?_)))))))
 rcases Nv (f) with t | t
 have h97t:Zd f=1:=by rw [t]; rfl
 refine jF (cn t) (sk (JS (JW (Mz Z (An Z (rt (rs ?_)))))))
 have aZ:=(r.pk [1]).pf []
 obtain rfl:=zj hr zq2
 exact⟨u,x,Z,aZ,U⟩
 have h97t:Zd f=0:=by rw [t]; rfl
 refine jT (cn t) (JW (Mz Z (La (aG.L d) r 0 N3 L3 (j6 (aG.L d) 67 2 1 r ?_))))
 intro Z2 _ B
 replace B:=Ku (y:=row Z2 1 1 (q1 aG.L ([d])) 67 2) Z B
 have K:=B.pf [2]
 refine WL.do Z (Kk (k:=X b) (m:=1) (jo) K Z Z (eO F0 (K.rds (i:=1) Z) (cO aG.one ([d]))) Z U (s:=X (b++ [d])) f6 (u3).symm ?_)
 intro Z0 aa _ af
 have bf:X (b++ [d])=X b+1:=by simp only [o3,q6,L0]
 refine An Z (JS (JW (Mz Z (An Z (rt (rs ?_))))))
 have ah:=(af.pk [0]).pf []
 obtain rfl:_=(b++ [d]):=zj hr (V (ae J) (eD t))
 exact⟨Z0,aa,rfl,ah,U⟩
def iw (e:ai) (d:Int):List aG->List aG->(List aG)
  | [],a=>a
  | c::b,a=>bnd (vW e c.j) λ f=>if f=Zj then if d < 0 then iw e d b (a++ [c]) else if((X a:Nat):Int) < d then iw e d b (a++ [c]) else iw e d b a else iw e d b a
def qI (a:List aG) (b:ai) (c:Int):(List aG):=
 bnd (iw b c a []) λ sLrL=>sLrL
theorem wV (w D I Z7 Z3 f) (l:ai) (h J) (H:Own w D w []) (C:Ro w D λ w'=>bV w' 2 I Z7 (q1 aG.L f)) (Z4:Z7=X f) (aQ:X f *32<=211106232532992) (hr:qI f l h=J):
    Calls y3 59 #[T I Z7 Z3, Zq (Zb (ai.L l)),vI h] w (dI λ v w'=> ∃ B0 b0,v= T B0 (X J) b0/\Own w D w' [row B0 (X J) b0 (q1 aG.L J) 67 2]/\(X J<=X f)):=by
 unfold qI at hr
 subst Z4
 refine cb Tryz.func59 ?_
 refine sr ?_
 refine cB (ai.L l) 38 H ?_
 intro z Z8 Z1
 refine Ar Z (An Z (JS (sr (Mz Z (Kz (vJ (X f)) (Mn Z (bo ?_)))))))
 have Z0:=(Z1.free (bW 67 2)).pb [0]
 obtain⟨aa,j⟩:=uG λ p (r:Nat) a (b:Nat) w'=>Own w D w' [blk z (ai.L l) 38,row p (X a) r (q1 aG.L a) 67 2]/\b<=X f/\X a<=b/\iw l h f []=iw l h (r8 b f) a
 refine G3 (λ i:(Option Addr) × Nat × (List aG) × Nat=> [(7, T i.1 (X i.2.2.1) i.2.1),(12,vJ i.2.2.2),(11,vJ (X f)),(10, T I (X f) Z3),(6, T Zk 0 0),(4,vP z 0),(2,vI h)]) aa (λ i=>X f - i.2.2.2) (Zk,0, [],0) ⟨Z,Z,Z,Z,Z,Z,Z,ZV⟩ (j.2 ⟨Z0,(show 0<=X f/\0<=0/\iw l h f []=iw l h (r8 0 f) [] from ⟨U,U,Z⟩)⟩) ?_
 rintro ⟨p,r,a,b⟩ _ K
 obtain⟨x,_,_,n⟩:=j.1 K
 refine sr (Kz (Za ((b:Int) < (X f:Int))) (nt (JS ?_)))
 by_cases L:(b:Int) < (X f:Int)
 obtain⟨c,B⟩:=dM (ls:=f) (i:=b) aG.len f7 (x.ro C) f5
 have t:=drop_at B
 refine jT (dT L) (sk (JS (bo (sr (fw (Zz (Zv ⟨ab I,ao I+b *2,Zk⟩)) (J9 (jo) Z Z ((x.ro C).addr (i:=b) U) U) (fw (Zq (Zb (aG.L c))) (J5 Z (J7 (cs:=(aG.L c)) N3 L3 ((x.ro C).elem aG.len B f7))) (cB [Z9 ⟨Zb []⟩, Z9 ⟨Zb []⟩] 67 x ?_)))))))
 intro af _ ag
 refine cu (aG.L c) 0 ag L3 ?_
 intro _ E
 refine ns (La (ai.L l) E 1 C6 C5 (Kz (vP af 0) (Lz (Z9 ⟨Zb c.j⟩) E 0 B9 ?_)))
 obtain⟨M,o⟩:∃ q,vW l c.j=q:=⟨_,Z⟩
 obtain⟨_,Z5,_,Z6,_⟩:=JZ E
 refine cl Tryz.call97 (zC _ _ l c.j M Z5 o) ?_
 rintro _ _ ⟨rfl,P⟩
 have u:=Z6 _ _ P
 refine Mz Z ?_
 rcases Nv (M) with d | d
 refine KC (v:=vI h) Z Z d Z (J3 Z) (Gz (Za (h < 0)) d (KC (v:= Za (h < 0)) Z Z d Z (J3 Z) ?_))
 by_cases g:h < 0
 refine Sz (dT g) (Sz (dT g) (Sz (dT g) (Sz (dT g) (KC (v:= Y Zj) Z Z d Z (JX Z (dT g) Z) (fw (Y Zj) (JX Z d Z) (nt (jt (JW (Mz Z (La (aG.L c) u 0 N3 L3 (j6 (aG.L c) 67 2 1 u ?_)))))))))))
 intro ah _ F
 replace F:=Ku (y:=row ah 1 1 (q1 aG.L ([c])) 67 2) Z F
 have Q:=F.pf [3]
 refine WL.do Z (Kk (k:=X a) (m:=1) (jo) Q Z Z (eO F0 (Q.rds (i:=1) Z) (cO aG.one ([c]))) Z U (s:=X (a++ [c])) f6 (u3).symm ?_)
 intro aj ak _ au
 have aO:X (a++ [c])=X a+1:=by simp only [o3,q6,L0]
 refine Az Z (G2 (bN (JY (JW (fw (vJ (b+1)) (J4 (e:=D3.wrap ((b:Int)+1)) yk f4) (Mz Z (G2 ?_)))))))
 exact Kb (aj,ak,(a++ [c]),b+1) ⟨Z,Z,Z,Z,Z,Z,Z,ZV⟩ (j.2 ⟨(au.pk [3,0]),U,U,V (n) (V (ZX (λ q=>iw l h q a) t) (V (ae o) (V (ip d) (ip g))))⟩) (by show X f - (b+1) < X f - b; omega)
 refine gw (T p (X a) r) (dF g) (J3 Z) (Gz (vJ (X a)) (dF g) (gw (vI h) (dF g) (J3 Z) (Gz (Za ((X a:Int) < h)) (dF g) (KC (v:= Za ((X a:Int) < h)) Z Z d Z (JU Z (dF g) Z) (fw (Za ((X a:Int) < h)) (JX Z d Z) (nt ?_))))))
 by_cases A:(X a:Int) < h
 refine jT (dT A) (JW (Mz Z (La (aG.L c) u 0 N3 L3 (j6 (aG.L c) 67 2 1 u ?_))))
 intro ax _ G
 replace G:=Ku (y:=row ax 1 1 (q1 aG.L ([c])) 67 2) Z G
 have R:=G.pf [3]
 refine WL.do Z (Kk (k:=X a) (m:=1) (jo) R Z Z (eO F0 (R.rds (i:=1) Z) (cO aG.one ([c]))) Z U (s:=X (a++ [c])) f6 (u3).symm ?_)
 intro ay az _ aA
 have aP:X (a++ [c])=X a+1:=by simp only [o3,q6,L0]
 refine Az Z (G2 (bN (JY (JW (fw (vJ (b+1)) (J4 (e:=D3.wrap ((b:Int)+1)) yk f4) (Mz Z (G2 ?_)))))))
 exact Kb (ay,az,(a++ [c]),b+1) ⟨Z,Z,Z,Z,Z,Z,Z,ZV⟩ (j.2 ⟨(aA.pk [3,0]),U,U,V (n) (V (ZX (λ q=>iw l h q a) t) (V (ae o) (V (ip d) (V (iN g) (ip A)))))⟩) (by show X f - (b+1) < X f - b; omega)
 refine jF (dF A) (Ko (bN (JY (JW (fw (vJ (b+1)) (J4 (e:=D3.wrap ((b:Int)+1)) yk f4) (Mz Z (G2 ?_)))))))
 exact Kb (p,r,a,b+1) ⟨Z,Z,Z,Z,Z,Z,Z,ZV⟩ (j.2 ⟨(u.pk [1,2]),U,U,V (n) (V (ZX (λ q=>iw l h q a) t) (V (ae o) (V (ip d) (V (iN g) (iN A)))))⟩) (by show X f - (b+1) < X f - b; omega)
 refine Sz d (Sz d (Sz d (QW (QW (QW (QW (Sz d (fw (Y O) (JU Z d Z) (nt (jf (Ko (bN (JY (JW (fw (vJ (b+1)) (J4 (e:=D3.wrap ((b:Int)+1)) yk f4) (Mz Z (G2 ?_)))))))))))))))))
 exact Kb (p,r,a,b+1) ⟨Z,Z,Z,Z,Z,Z,Z,ZV⟩ (j.2 ⟨(u.pk [1,2]),U,U,V (n) (V (ZX (λ q=>iw l h q a) t) (V (ae o) (eD d)))⟩) (by show X f - (b+1) < X f - b; omega)
 refine jF (dF L) (H0 (Ka ?_))
 have S:=V (n) (V (ZX (λ q=>iw l h q a) (eU (ls:=f) (i:=b) U)) Z)
 refine Ka (Kh (JY (JS (JW (Mz Z (An Z (rt (rs ?_))))))))
 have aH:=(x.pk [1]).pf []
 obtain rfl:=zj hr zq1
 exact⟨p,r,Z,aH,i3⟩
end
end Go.Proofs.YtnpdpklckacpnaaGreat
namespace Go.Proofs.YtnpdpklckacpnaaGreat.M
set_option maxRecDepth 100000
set_option linter.unusedVariables false
set_option linter.unusedSimpArgs false
set_option linter.unusedSectionVars false
open _root_.Go renaming World->ZZ,Value->ZQ
open Value renaming bool->Y,slice->T,string->Z9,pointer->Zz,agg->Zq,nilFunc->Zx
open Bool renaming true->Zj,false->O
open Option renaming none->Zk,some->Zv
open Decidable renaming decide->Zw
open Inhabited renaming default->Zy
open List renaming length->X,toArray->Zb,drop->Ze,take->Zf,flatMap->Zg,map->Zh
open Int renaming toNat->Zc
open Bool renaming toNat->Zd
abbrev L:=List UInt8
def K (k:L):Prop:=1<=X k/\X k<=12
def R (l h:L):Prop:=(l= []\/K l)/\(h= []\/(K h/\l < h))
def B (k h:L):Prop:=h= []\/k < h
def H (l h k:L):Prop:=R l h/\K k/\l<=k/\B k h
def mx (a b:L):L:=if a < b then b else a
def ls (a b:L):L:=if a= [] then b else if b= [] then a else if b < a then b else a
def M (l1 a l2 b:L):Prop:=R l1 a/\R l2 b/\B (mx l1 l2) (ls a b)
theorem nil_le (a:L): []<=a:=List.nil_le a
theorem not_lt_nil (a:L): ¬ a < []:=List.not_lt_nil a
theorem nil_lt {a:L} (h:a≠ []): [] < a:=by
  cases a with
  | nil=>exact absurd Z h
  | cons x xs=>exact List.nil_lt_cons x xs
theorem JE {k:L} (h:K k):k≠ []:=by rintro rfl; simp [K] at h
theorem R_meet {l1 a l2 b:L} (h:M l1 a l2 b):R (mx l1 l2) (ls a b):=by
  obtain⟨⟨d,f⟩,⟨g,i⟩,c⟩:=h
  refine⟨?_, ?_⟩
  . unfold mx; split <;> assumption
  . rcases c with c | c
    . exact .inl c
    . by_cases e:ls a b= []
      . exact .inl e
      . refine .inr ⟨?_,c⟩
        unfold ls at e ⊢
        grind
theorem F3 (a b c:L):mx (mx a b) c=mx a (mx b c):=by unfold mx; grind
theorem F4 (a b c:L):ls (ls a b) c=ls a (ls b c):=by unfold ls; grind
theorem parts {a b c d e f:L} (g:M a b c d) (i:M c d e f):(M (mx a c) (ls b d) e f↔M a b (mx c e) (ls d f)):=by
  unfold M
  rw [F3,F4]
  exact⟨fun⟨_,_,h⟩=>⟨g.1,(R_meet i),h⟩,fun⟨_,_,h⟩=>⟨(R_meet g),i.2.1,h⟩⟩
def C (l1 b l2 a:L):Prop:=M l1 b l2 a/\mx l1 l2=l2/\ls b a=a
theorem cut {l h at_ k:L} (r:R l h) (ka:K at_) (hl:l < at_) (hb:B at_ h):(H l h k↔(H l at_ k\/H at_ h k))/\¬ (H l at_ k/\H at_ h k):=by
  have c:R l at_:=⟨r.1, .inr ⟨ka,hl⟩⟩
  have d:R at_ h:=⟨.inr ka,by
    rcases r.2 with e | ⟨e,_⟩
    . exact .inl e
    . rcases hb with e' | e'
      . exact .inl e'
      . exact .inr ⟨e,e'⟩⟩
  have hne:=JE ka
  unfold H B at *
  refine⟨⟨?_, ?_⟩, ?_⟩
  . rintro ⟨_,kk,a,b⟩
    by_cases hk:k < at_
    . exact .inl ⟨c,kk,a, .inr hk⟩
    . exact .inr ⟨d,kk,List.not_lt.1 hk,b⟩
  . rintro (⟨_,kk,a,b⟩ | ⟨_,kk,a,b⟩)
    . refine⟨r,kk,a, ?_⟩; grind
    . refine⟨r,kk, ?_,b⟩; grind
  . rintro ⟨⟨_,_,_,b⟩,⟨_,_,a,_⟩⟩; grind
theorem lt_snoc0:∀ (o k:L),o < k++ [0]↔o<=k
  | [], []=>by simp [nil_lt]
  | [],y::ys=>by simp [nil_le]
  | x::xs, []=>by
    simp only [List.nil_append]
    constructor
    . intro h
      rcases List.cons_lt_cons_iff.1 h with h | ⟨_,h⟩
      . exact absurd h i2
      . exact absurd h (not_lt_nil _)
    . intro h; exact absurd (List.le_antisymm h (nil_le _)) i2
  | x::xs,y::ys=>by
    rw [List.cons_append,List.cons_lt_cons_iff,List.cons_le_cons_iff,lt_snoc0 xs ys]
def nx:L->L
  | []=> []
  | a::k=>if nx k= [] then(if a.toNat=255 then [] else [a+1]) else a::nx k
theorem nx_gt:∀ (k:L),nx k= []\/k < nx k
  | []=> .inl Z
  | a::k=>by
    unfold nx
    by_cases e:nx k= []
    . rw [ZJ e]
      by_cases ea:a.toNat=255
      . rw [ZJ ea]; exact .inl Z
      . rw [ZK ea]
        right
        rw [List.cons_lt_cons_iff]
        left
        have:=a.toNat_lt
        have e:(a+1).toNat=a.toNat+1:=by rw [UInt8.toNat_add]; show (a.toNat+1) % 256=_; omega
        rw [UInt8.lt_iff_toNat_lt,e]; omega
    . rw [ZK e]
      right
      rw [List.cons_lt_cons_iff]
      exact .inr ⟨Z,(nx_gt k).resolve_left e⟩
theorem nx_len:∀ (k:L),X (nx k)<=X k
  | []=>Nat.le_refl _
  | a::k=>by
    have:=nx_len k
    unfold nx
    split
    . split <;> simp
    . simp; omega
end Go.Proofs.YtnpdpklckacpnaaGreat.M
namespace Go.Proofs.YtnpdpklckacpnaaGreat
set_option maxRecDepth 100000
set_option linter.unusedVariables false
set_option linter.unusedSimpArgs false
set_option linter.unusedSectionVars false
open _root_.Go renaming World->ZZ,Value->ZQ
open Value renaming bool->Y,slice->T,string->Z9,pointer->Zz,agg->Zq,nilFunc->Zx
open Bool renaming true->Zj,false->O
open Option renaming none->Zk,some->Zv
open Decidable renaming decide->Zw
open Inhabited renaming default->Zy
open List renaming length->X,toArray->Zb,drop->Ze,take->Zf,flatMap->Zg,map->Zh
open Int renaming toNat->Zc
open Bool renaming toNat->Zd
open List renaming cons_append->N7,drop->r8,getElem?_append_left->v8,getElem?_drop->m8,getElem?_eq_getElem->p3,getElem?_eq_some_iff->p2,mem_cons_of_mem->N6,mem_iff_getElem?->N9,mem_of_getElem?->G4,not_lt->N4,pairwise_cons->N5,take->u2,take_append_drop->s3
open Nat renaming le_refl->s2,lt_or_ge->N8
section
open Go.RowKit
@[reducible] def Key:Type:=List UInt8
theorem Jb (a:Key): ¬ a < a:=List.lt_irrefl a
theorem Au {a b c:Key} (d:a < b) (e:b < c):a < c:=List.lt_trans d e
theorem BD {a b:Key}: ¬ a < b↔b<=a:=N4
theorem Ha {a b:Key} (h:a < b):a<=b:=List.le_of_lt h
theorem GL (a b:Key):a < b\/a=b\/b < a:=by
  by_cases c:a < b
  . exact .inl c
  . by_cases d:b < a
    . exact .inr (.inr d)
    . exact .inr (.inl (List.le_antisymm (N4.1 d) (N4.1 c)))
theorem ES:∀ (a b:Key),Lib.compareBytes a b < 0↔a < b
  | [], []=>by simp [Lib.compareBytes]
  | [],_::_=>by simp [Lib.compareBytes]
  | _::_, []=>by simp [Lib.compareBytes]
  | x::a,y::b=>by
    unfold Lib.compareBytes
    rw [List.cons_lt_cons_iff]
    by_cases c:x < y
    . simp [c]
    . rw [ZK c]
      by_cases d:y < x
      . rw [ZJ d]
        have:x≠y:=λ e=>by subst e; exact c d
        simp [c,this]
      . rw [ZK d]
        have:x=y:=UInt8.le_antisymm (UInt8.not_lt.1 d) (UInt8.not_lt.1 c)
        subst this
        simp [ES a b]
theorem Ch:∀ (a b:Key),Lib.compareBytes a b=0↔a=b
  | [], []=>by simp [Lib.compareBytes]
  | [],_::_=>by simp [Lib.compareBytes]
  | _::_, []=>by simp [Lib.compareBytes]
  | x::a,y::b=>by
    unfold Lib.compareBytes
    by_cases c:x < y
    . have:x≠y:=λ e=>by subst e; exact absurd c (UInt8.lt_irrefl _)
      simp [c,this]
    . rw [ZK c]
      by_cases d:y < x
      . have:x≠y:=λ e=>by subst e; exact c d
        simp [d,this]
      . rw [ZK d]
        have:x=y:=UInt8.le_antisymm (UInt8.not_lt.1 d) (UInt8.not_lt.1 c)
        subst this
        simp [Ch a b]
theorem bI {α β:Type} (x:α) (f:α->β):bnd x f=f x:=Z
def rQ (m:List aG):Prop:=m.Pairwise λ a b=>a.j < b.j
def xI (k:Key):Prop:=1<=X k/\X k<=12
def Ba (p:aG):Prop:=xI p.j/\X p.k<=16
theorem El (k:Key):dU k=jl k:=Z
theorem tT {k:Key}:dU k=0↔xI k:=by
  unfold dU xI
  split
  . constructor <;> intro h <;> omega
  . split
    . constructor <;> intro h <;> omega
    . constructor <;> intro h <;> omega
theorem Jc {k:Key}:dU k=0\/dU k=20:=by
  unfold dU
  split
  . exact .inr Z
  . split
    . exact .inr Z
    . exact .inl Z
theorem ET (l:List aG):∀ (q:List aG) (k:Nat),gp l q k=iy l q k
  | [],_=>rfl
  | x::q,k=>by
    have ih:=ET l q (k+1)
    rcases Jc (k:=x.j) with h | h
    . by_cases a:((X x.k:Nat):Int) > 16
      . simp [gp,iy,bnd, <- El,lS,h,a]
      . simp [gp,iy,bnd, <- El,lS,h,a,ih]
    . simp [gp,iy,bnd, <- El,lS,h]
theorem Jd (l:List aG):gT l=l8 l:=by
  unfold gT l8
  rw [ET]
theorem DL (l:List aG):∀ (q pre:List aG),l=pre++q->(gp l q (X pre)= .inl ()↔(∀ p ∈ q,Ba p)/\(∀ a ∈ pre.getLast?, ∀ b ∈ q.head?,a.j < b.j)/\rQ q)/\(∀ e,gp l q (X pre)= .inr e->e≠0)
  | [],pre,_=>by simp [gp,rQ]
  | x::q,pre,hl=>by
    have ih:=DL l q (pre++ [x]) (by rw [hl,List.append_assoc]; rfl)
    have hlen:X (pre++ [x])=X pre+1:=by simp
    rw [hlen] at ih
    simp only [gp,bnd,lS]
    by_cases d:dU x.j=0
    . rw [ZJ d]
      by_cases i:((X x.k:Nat):Int) > 16
      . simp only [ZJ i]
        rw [ZK f7]
        refine⟨⟨λ h=>(by cases h),λ h=> ?_⟩,λ e he=>by injection he with he; omega⟩
        have:=(h.1 x i2).2
        omega
      . simp only [ZK i,if_true]
        have hx:Ba x:=⟨tT.1 d,U⟩
        have hsrt:rQ (x::q)↔(∀ b ∈ q.head?,x.j < b.j)/\rQ q:=by
          unfold rQ
          rw [N5]
          constructor
          . rintro ⟨h,h'⟩
            exact⟨λ b hb=>h b (List.mem_of_mem_head? hb),h'⟩
          . rintro ⟨h,h'⟩
            refine⟨λ b hb=> ?_,h'⟩
            cases q with
            | nil=>cases hb
            | cons y q=>
              have hy:=h y Z
              rcases List.mem_cons.1 hb with rfl | hb
              . exact hy
              . exact Au hy ((N5.1 h').1 b hb)
        have hlast:(pre++ [x]).getLast?=Zv x:=by simp
        rw [hlast] at ih
        have hcore:(gp l q (X pre+1)= .inl ()↔(∀ p ∈ x::q,Ba p)/\rQ (x::q)):=by
          rw [ih.1,hsrt]
          constructor
          . rintro ⟨a,b,c⟩
            exact⟨λ p hp=>by rcases List.mem_cons.1 hp with rfl | hp; exact hx; exact a p hp,b x Z,c⟩
          . rintro ⟨a,b,c⟩
            exact⟨λ p hp=>a p (N6 _ hp),λ a' ha'=>by cases ha'; exact b,c⟩
        by_cases g:(X pre:Int) > 0
        . rw [ZJ g]
          have hpre:pre≠ []:=λ e=>by subst e; simp at g
          obtain⟨y,hy⟩:∃ y,pre.getLast?=Zv y:=⟨_,List.getLast?_eq_some_getLast hpre⟩
          have hg:List.getD l (X pre - 1) Zy=y:=by
            rw [hl,List.getD_eq_getElem?_getD,v8 U]
            rw [List.getLast?_eq_getElem?] at hy
            rw [hy]; rfl
          rw [hg]
          by_cases f:x.j<=y.j
          . rw [ZJ f]
            refine⟨⟨λ h=>(by cases h),λ h=> ?_⟩,λ e he=>by injection he with he; omega⟩
            exact absurd (h.2.1 y hy x Z) (BD.2 f)
          . rw [ZK f]
            refine⟨?_,ih.2⟩
            rw [hcore]
            have j:y.j < x.j:=by rcases GL y.j x.j with h | h | h; exact h; exact absurd (BD.1 (h ▸ Jb _)) f; exact absurd (Ha h) f
            constructor
            . rintro ⟨a,b⟩
              exact⟨a,λ a' ha' b' hb'=>by rw [hy] at ha'; cases ha'; cases hb'; exact j,b⟩
            . rintro ⟨a,_,b⟩
              exact⟨a,b⟩
        . rw [ZK g]
          have hpre:pre= []:=List.eq_nil_of_length_eq_zero U
          refine⟨?_,ih.2⟩
          rw [hcore,hpre]
          simp
    . rw [ZK d]
      refine⟨⟨λ h=>(by cases h),λ h=> ?_⟩,λ e he=>by injection he with he; rw [<- he]; exact d⟩
      exact absurd (tT.2 (h.1 x i2).1) d
theorem sH {l:List aG}:gT l=0↔(∀ p ∈ l,Ba p)/\rQ l:=by
  have h:=DL l l [] Z
  unfold gT
  simp only [List.length_nil] at h
  cases e:gp l l 0 with
  | inl u=>
    have:=h.1.1 e
    exact⟨λ _=>⟨this.1,this.2.2⟩,λ _=>rfl⟩
  | inr r=>
    refine⟨λ a=>absurd a (h.2 r e),λ a=> ?_⟩
    have:=h.1.2 ⟨a.1,by simp,a.2⟩
    rw [e] at this
    cases this
theorem kK {k:Key}:xI k↔M.K k:=Iff.rfl
theorem Ci {k:Key}:k≠ []↔1<=X k:=by cases k <;> simp
theorem yU {r:ai}:dP r=0↔M.R r.a r.b:=by
  have a:=tT (k:=r.a); have b:=tT (k:=r.b)
  have la:=Ci (k:=r.a); have lb:=Ci (k:=r.b)
  have nn:= @BD r.a r.b
  unfold dP M.R
  rw [<- kK, <- kK]
  simp only [bnd]
  by_cases f:r.a= []
  . by_cases d:r.b= []
    . simp [f,d]
    . by_cases c:dU r.b=0
      . have g:=M.nil_lt d
        have i: ¬ r.b<= []:=λ q=>BD.2 q g
        simp [f,d,c,b.1 c,g,i]
      . have h3': ¬ xI r.b:=λ q=>c (b.2 q)
        simp [f,d,c,h3']
  . by_cases e:dU r.a=0
    . by_cases d:r.b= []
      . simp [f,d,e,a.1 e]
      . by_cases c:dU r.b=0
        . by_cases h:r.b<=r.a
          . simp [f,d,c,e,h,a.1 e,b.1 c]
          . simp [f,d,c,e,h,a.1 e,b.1 c]; grind
        . have h3': ¬ xI r.b:=λ q=>c (b.2 q)
          simp [f,d,c,e,h3']
    . have h0': ¬ xI r.a:=λ q=>e (a.2 q)
      simp [f,e,h0']
theorem EU:∀ {b:Key},(∀ x ∈ b,x.toNat=255)->M.nx b= []
  | [],_=>rfl
  | x::b,h=>by
    unfold M.nx
    rw [ZJ (EU λ y hy=>h y (N6 _ hy)),ZJ (h x i2)]
theorem EW {b:Key} (hb:M.nx b= []):∀ a:Key,M.nx (a++b)=M.nx a
  | []=>hb
  | x::a=>by
    rw [N7]
    unfold M.nx
    rw [EW hb a]
theorem DN {x:UInt8} (hx:x.toNat≠255):∀ p:Key,M.nx (p++ [x])=p++ [x+1]
  | []=>by simp [M.nx,hx]
  | a::p=>by
    rw [N7]
    unfold M.nx
    rw [DN hx p,ZK i2]
    rfl
theorem DR (k:Key):∀ (f n:Nat),n < f->n<=X k->(∀ j x,k[j]? =Zv x->n<=j->x.toNat=255)->
    ∃ t,kZ k f n=t/\t<=n/\(∀ j x,k[j]? =Zv x->t<=j->x.toNat=255)/\(t=0\/∃ x,k[t - 1]? =Zv x/\x.toNat≠255)
  | 0,n,h,_,_=>U
  | f+1,n,h,hl,hq=>by
    unfold kZ
    simp only [bnd]
    by_cases g:(n:Int) > 0
    . obtain⟨x,hx⟩:∃ x,k[n - 1]? =Zv x:=⟨_,p3 U⟩
      rw [ZJ g,bG hx]
      by_cases i:(x.toNat:Int)=255
      . rw [ZJ i]
        obtain⟨t,a,b,c,d⟩:=DR k f (n - 1) U U λ j y hy hj=>by
          rcases N8 j n with e | e
          . have:j=n - 1:=U
            subst this
            rw [hx] at hy
            cases hy
            omega
          . exact hq j y hy e
        exact⟨t,a,U,c,d⟩
      . rw [ZK i]
        exact⟨n,Z,s2 _,hq, .inr ⟨x,hx,U⟩⟩
    . rw [ZK g]
      exact⟨n,Z,s2 _,hq, .inl U⟩
def ph (k:Key):Key:=if X k < 12 then k++ [0] else M.nx k
theorem Je {k:Key} (hk:xI k):qx k=(ai.q k (ph k),0):=by
  have hc:jl k=0:=tT.2 hk
  unfold qx ph
  rw [bI,hc,ZJ Z]
  by_cases f:X k < 12
  . rw [ZJ U,ZJ f]
  . rw [ZK U,ZK f,bI,bI]
    have hl:X k=12:=by have:=hk.2; omega
    obtain⟨t,a,b,c,d⟩:=DR k 13 12 U U λ j x hx hj=>by
      have:=(p2.1 hx).1; omega
    rw [show (12:Nat)+1=13 from Z,a]
    have e:M.nx (r8 t k)= []:=EU λ x hx=>by
      obtain⟨j,hj⟩:=N9.1 hx
      rw [m8] at hj
      exact c _ x hj U
    have hn:=(ZX M.nx ((s3 t k).symm)).trans (EW e _)
    rcases d with d | ⟨x,hx,d⟩
    . subst d
      rw [ZJ f7,hn]; rfl
    . by_cases g:t=0
      . subst g
        rw [ZJ f7,hn]; rfl
      . rw [ZK U,bI,bG hx,hn]
        have:u2 t k=u2 (t - 1) k++ [x]:=by
          obtain⟨q,rfl⟩:∃ q,t=q+1:=⟨t - 1,U⟩
          obtain⟨hq,rfl⟩:=p2.1 hx
          exact List.take_succ_eq_append_getElem hq
        rw [this,DN d]
theorem Jf {k:Key}:ph k= []\/k < ph k:=by
  unfold ph
  split
  . right; rw [M.lt_snoc0]; exact List.le_refl _
  . exact M.nx_gt _
theorem JF {k:Key} (hk:xI k):M.R k (ph k):=by
  refine⟨.inr hk, ?_⟩
  rcases Jf (k:=k) with h | h
  . exact .inl h
  . right
    have hne:ph k≠ []:=λ e=>M.not_lt_nil _ (e ▸ h)
    refine⟨⟨Ci.1 hne, ?_⟩,h⟩
    unfold ph
    have:=hk.2
    split
    . simp; omega
    . exact Nat.le_trans (M.nx_len k) this
theorem BF {p:aG} {k:Key}:o6 p k < 0↔p.j < k:=ES _ _
theorem He {p:aG} {k:Key}:o6 p k=0↔p.j=k:=Ch _ _
theorem EX {m:List aG} (hs:rQ m) {i j:Nat} {a b:aG} (ha:m[i]? =Zv a) (hb:m[j]? =Zv b) (h:i < j):a.j < b.j:=by
  obtain⟨c,rfl⟩:=p2.1 ha
  obtain⟨d,rfl⟩:=p2.1 hb
  exact List.pairwise_iff_getElem.1 hs i j c d h
theorem Av {m:List aG} (hs:rQ m) (k:Key):∀ (f i j:Nat),j - i < f->i<=j->j<=X m->(∀ q p,m[q]? =Zv p->q < i->p.j < k)->(∀ q p,m[q]? =Zv p->j<=q->¬ p.j < k)->
    ∃ r,dZ m k f i j=r/\r<=X m/\(∀ q p,m[q]? =Zv p->q < r->p.j < k)/\(∀ q p,m[q]? =Zv p->r<=q->¬ p.j < k)
  | 0,i,j,h,_,_,_,_=>U
  | f+1,i,j,h,hij,hj,hl,hg=>by
    unfold dZ
    by_cases b:(i:Int) < (j:Int)
    . obtain⟨x,hx⟩:∃ x,m[(i+j) / 2]? =Zv x:=⟨_,p3 U⟩
      rw [ZJ b,bI,bI,bG hx]
      by_cases a:o6 x k < 0
      . rw [ZJ a]
        refine Av hs k f _ j U U hj (λ q p hq hlt=> ?_) hg
        rcases N8 q ((i+j) / 2) with e | e
        . exact Au (EX hs hq hx e) (BF.1 a)
        . have:q=(i+j) / 2:=U
          subst this
          rw [hx] at hq; cases hq
          exact BF.1 a
      . rw [ZK a]
        refine Av hs k f i _ U U U hl (λ q p hq hge hlt=> ?_)
        rcases N8 ((i+j) / 2) q with e | e
        . exact a (BF.2 (Au (EX hs hx hq e) hlt))
        . have:q=(i+j) / 2:=U
          subst this
          rw [hx] at hq; cases hq
          exact a (BF.2 hlt)
    . rw [ZK b]
      have:i=j:=U
      subst this
      exact⟨i,Z,hj,hl,hg⟩
structure Cut (m:List aG) (k:Key) (a b:List aG):Prop where q::
  app:m=a++b
  lo:∀ p ∈ a,p.j < k
  hi:∀ p ∈ b, ¬ p.j < k
theorem uP {m:List aG} (hs:rQ m) (k:Key):∃ a b,Cut m k a b/\(iR m k).1=((X a:Nat):Int)/\((iR m k).2=Zj↔∃ p q,b=p::q/\p.j=k):=by
  obtain⟨r,d,i,f,g⟩:=Av hs k (X m - 0+1) 0 (X m) U U (s2 _) (λ q p _ h=>U) (λ q p hq h=>by have:=(p2.1 hq).1; omega)
  have hlen:X (u2 r m)=r:=by rw [List.length_take]; omega
  have e:iR m k=((r:Int),(iR m k).2)/\((iR m k).2=Zj↔∃ p,m[r]? =Zv p/\p.j=k):=by
    unfold iR iK
    rw [bI,bI,d]
    by_cases c:(r:Int) < ((X m:Nat):Int)
    . obtain⟨x,hx⟩:∃ x,m[r]? =Zv x:=⟨_,p3 U⟩
      rw [ZJ c,bI,bI,bG hx]
      refine⟨Z, ?_⟩
      simp only [decide_eq_true_eq,He,hx,Option.some.injEq,exists_eq_left']
    . rw [ZK c]
      refine⟨Z, ?_⟩
      have:m[r]? =Zk:=List.getElem?_eq_none U
      simp [this]
  refine⟨u2 r m,r8 r m,⟨(s3 r m).symm,λ p hp=> ?_,λ p hp=> ?_⟩, ?_, ?_⟩
  . obtain⟨j,hj⟩:=N9.1 hp
    have hjr:j < r:=by have:=(p2.1 hj).1; omega
    rw [List.getElem?_take,ZJ hjr] at hj
    exact f j p hj hjr
  . obtain⟨j,hj⟩:=N9.1 hp
    rw [m8] at hj
    exact g _ p hj U
  . rw [e.1,hlen]
  . rw [e.2]
    constructor
    . rintro ⟨p,hp,hk⟩
      exact⟨p,r8 (r+1) m,drop_at hp,hk⟩
    . rintro ⟨p,q,hp,hk⟩
      refine⟨p, ?_,hk⟩
      have:(r8 r m)[0]? =Zv p:=by rw [hp]; rfl
      rwa [m8,Nat.add_zero] at this
theorem Cut.two {m:List aG} {j k:Key} {a b c d:List aG} (h:j < k) (x:Cut m j a b) (y:Cut m k c d):X a<=X c:=by
  rcases N8 (X c) (X a) with e | e
  . exfalso
    obtain⟨p,hp⟩:∃ p,a[X c]? =Zv p:=⟨_,p3 e⟩
    have f:m[X c]? =Zv p:=by rw [x.app,v8 e]; exact hp
    rw [y.app,List.getElem?_append_right (s2 _),Nat.sub_self] at f
    exact y.hi p (G4 f) (Au (x.lo p (G4 hp)) h)
  . exact e
def owns (x o:aV):Prop:=(x.g=o.g)/\(x.j=o.j)/\(x.k=o.k)/\(x.a=o.a)/\(x.b=o.b)/\(x.r=o.r)
theorem GM (o:aV):ng o=dP (ai.q o.a o.b):=Z
theorem GN (o:aV):qo o=if dP (ai.q o.a o.b)=0 then(if o.r < 1 then 1 else if o.r > 4 then 1 else 0) else dP (ai.q o.a o.b):=Z
theorem Em (o:aV):qm o=if dU o.j=0 then(if((X o.k:Nat):Int) > 16 then 2 else 0) else dU o.j:=Z
theorem Js {o:aV} (h:o.g=1\/o.g=3):eF o=if o.k= []/\o.a= []/\o.b= []/\o.r=0 then dU o.j else 40:=by
  unfold eF
  rcases h with h | h
  . rw [ZJ h]
    show (if _ then _ else _)=_
    simp only [qj,oo,bnd]
    congr 1
    simp [eq_comm]
  . rw [ZK U,ZK U,ZJ h]
    show (if _ then _ else _)=_
    simp only [qj,oo,bnd]
    congr 1
    simp [eq_comm]
theorem IJ {o:aV} (h:o.g=2):eF o=if o.a= []/\o.b= []/\o.r=0 then qm o else 40:=by
  unfold eF
  rw [ZK U,ZJ h]
  show (if _ then _ else _)=_
  simp only [uq,bnd]
  congr 1
  simp [eq_comm]
theorem Jt {o:aV} (h:o.g=4):eF o=if o.j= []/\o.k= [] then qo o else 40:=by
  unfold eF
  rw [ZK U,ZK U,ZK U,ZJ h]
  show (if _ then _ else _)=_
  simp only [ut,bnd]
  congr 1
  simp [eq_comm]
theorem Ju {o:aV} (h:o.g=5):eF o=if o.j= []/\o.k= []/\o.r=0 then ng o else 40:=by
  unfold eF
  rw [ZK U,ZK U,ZK U,ZK U,ZJ h]
  show (if _ then _ else _)=_
  simp only [tQ,bnd]
  congr 1
  simp [eq_comm]
theorem JP {o:aV} (h: ¬ (1<=o.g/\o.g<=5)):eF o=40:=by
  unfold eF
  rw [ZK U,ZK U,ZK U,ZK U,ZK U]
theorem wF {o:aV} (h:eF o=0) (hk:o.g=4\/o.g=5):M.R o.a o.b:=by
  rcases hk with hk | hk
  . rw [Jt hk] at h
    by_cases a:o.j= []/\o.k= []
    . rw [ZJ a,GN] at h
      by_cases b:dP (ai.q o.a o.b)=0
      . exact yU.1 b
      . rw [ZK b] at h; exact absurd h b
    . rw [ZK a] at h; cases h
  . rw [Ju hk] at h
    by_cases a:o.j= []/\o.k= []/\o.r=0
    . rw [ZJ a,GM] at h
      exact yU.1 h
    . rw [ZK a] at h; cases h
theorem xJ {m:List aG} {o:aV} (hm:gT m=0) (ho:eF o=0) (hk:o.g=4\/o.g=5):(kG m (gF o)).1<=(kG m (gF o)).2:=by
  have hs:=(sH.1 hm).2
  obtain⟨a,b,hc,f,_⟩:=uP hs o.a
  unfold kG gF
  rw [bI]
  by_cases h:o.b= []
  . rw [ZJ h]
    show (iR m o.a).1<=_
    rw [f,hc.app,List.length_append]
    simp only
    omega
  . rw [ZK h,bI]
    obtain⟨c,d,e,g,_⟩:=uP hs o.b
    show (iR m o.a).1<=(iR m o.b).1
    rw [f,g]
    have:=hc.two (((wF ho hk).2.resolve_left h).2) e
    omega
theorem DT {o:aV} (ho:eF o=0) (hk:o.g=4):1<=o.r/\o.r<=4:=by
  rw [Jt hk] at ho
  by_cases b:o.j= []/\o.k= []
  . rw [ZJ b,GN] at ho
    by_cases a:dP (ai.q o.a o.b)=0
    . rw [ZJ a] at ho
      by_cases c:o.r < 1
      . rw [ZJ c] at ho; cases ho
      . rw [ZK c] at ho
        by_cases d:o.r > 4
        . rw [ZJ d] at ho; cases ho
        . omega
    . rw [ZK a] at ho; exact absurd ho a
  . rw [ZK b] at ho; cases ho
theorem j2 {p:Prop}(h:p:=by exact xJ (by assumption) (by assumption) (U)):p:=h
end
open Int renaming toNat_natCast->O0
open List renaming getD->J0,length_append->o3,length_eq_zero_iff->O1,mem_cons->v1,sublist_append_right->O2
section
open Go.ChangeShapes
abbrev GQ:dA:=dA.q O [] (Ll.q [])
structure C3 (m:List aG) (k:Key) (a e d:List aG):Prop where q::
  app:m=a++(e++d)
  lo:∀ p ∈ a,p.j < k
  mid:e= []\/∃ v,e= [aG.q k v]
  hi:∀ p ∈ d,k < p.j
theorem DU {a b:List aG}:rQ (a++b)↔rQ a/\rQ b/\∀ x ∈ a, ∀ y ∈ b,x.j < y.j:=List.pairwise_append
theorem yV {x:aG} {b:List aG}:rQ (x::b)↔(∀ y ∈ b,x.j < y.j)/\rQ b:=List.pairwise_cons
theorem En {m:List aG} (hs:rQ m) (k:Key):∃ a e d,C3 m k a e d/\(iR m k).1=((X a:Nat):Int)/\((iR m k).2=Zj↔e≠ []):=by
  obtain⟨a,b,hc,c,f⟩:=uP hs k
  have hb:rQ b:=by rw [hc.app] at hs; exact(DU.1 hs).2.1
  cases b with
  | nil=>exact⟨a, [], [],⟨by rw [hc.app]; rfl,hc.lo, .inl Z,λ p hp=>by cases hp⟩,c,by rw [f]; constructor <;> intro h <;> simp at h⟩
  | cons p q=>
    by_cases hk:p.j=k
    . refine⟨a, [p],q,⟨by rw [hc.app]; rfl,hc.lo, .inr ⟨p.k,by rw [<- hk]⟩,λ y hy=>by rw [<- hk]; exact(yV.1 hb).1 y hy⟩,c, ?_⟩
      rw [f]
      exact⟨λ _=>by simp,λ _=>⟨p,q,Z,hk⟩⟩
    . have hp:k < p.j:=by
        rcases GL k p.j with h | h | h
        . exact h
        . exact absurd h.symm hk
        . exact absurd h (hc.hi p b3)
      refine⟨a, [],p::q,⟨by rw [hc.app]; rfl,hc.lo, .inl Z,λ y hy=> ?_⟩,c, ?_⟩
      . rcases v1.1 hy with rfl | hy
        . exact hp
        . exact Au hp ((yV.1 hb).1 y hy)
      . rw [f]
        constructor
        . rintro ⟨_,_,e,h⟩
          cases e
          exact absurd h hk
        . intro h; exact absurd Z h
theorem Cj {α:Type} [Inhabited α] (a:List α) (x:α) (d:List α):J0 (a++x::d) (X a) Zy=x:=by
  rw [List.getD_eq_getElem?_getD,List.getElem?_append_right (Nat.le_refl _),Nat.sub_self]; rfl
theorem EY {α:Type} (a:List α) (x y:α) (d:List α):List.set (a++x::d) (X a) y=a++y::d:=by
  induction a with
  | nil=>rfl
  | cons z a ih=>exact ZX (z:: ·) ih
theorem Aw {α:Type} (a b:List α):Zf (X a) (a++b)=a:=by simp
theorem vY {α:Type} (a b:List α):Ze (X a) (a++b)=b:=by simp
theorem JG {m a e d:List aG} {o:aV} (h:C3 m o.j a e d) (g:(iR m o.j).1=((X a:Nat):Int)) (c:(iR m o.j).2=Zj↔e≠ []):
    vT m o=(a++aG.q o.j o.k::d,GQ):=by
  unfold vT
  rw [bI]
  generalize iR m o.j=f at g c ⊢
  obtain⟨i,b⟩:=f
  simp only at g c
  subst g
  simp only [O0]
  rcases h.mid with he | ⟨v,he⟩
  . subst he
    have hb: ¬ b=Zj:=λ hb=>c.1 hb Z
    rw [ZK hb,bI,bI,bI]
    have j:iW m (X a:Int) (aG.q o.j [])=a++aG.q o.j []::d:=by
      unfold iW
      rw [h.app,List.nil_append]
      simp only [O0]
      by_cases hl:(X a:Int)=((X (a++d):Nat):Int)
      . rw [ZJ hl]
        have:d= []:=O1.1 (by rw [o3] at hl; omega)
        subst this
        simp
      . rw [ZK hl,Aw,vY]
    rw [j,Cj,EY]
  . subst he
    rw [ZJ (c.2 i2),bI,bI,h.app]
    show (List.set (a++_::d) _ (aG.q (J0 (a++_::d) _ _).j _),_)=_
    rw [Cj,EY]
theorem JH {m a e d:List aG} {o:aV} (h:C3 m o.j a e d) (g:(iR m o.j).1=((X a:Nat):Int)) (c:(iR m o.j).2=Zj↔e≠ []):
    vV m o=(a++d,GQ):=by
  unfold vV
  rw [bI]
  generalize iR m o.j=f at g c ⊢
  obtain⟨i,b⟩:=f
  simp only at g c
  subst g
  rcases h.mid with he | ⟨v,he⟩
  . subst he
    have hb: ¬ b=Zj:=λ hb=>c.1 hb Z
    rw [ZK hb,h.app]; rfl
  . subst he
    rw [ZJ (c.2 i2),bI]
    unfold iE
    rw [ZK U,show (X a:Int)+1=((X a+1:Nat):Int) from Z]
    simp only [O0]
    rw [h.app,Aw]
    congr 2
    rw [<- List.drop_drop,vY]; rfl
theorem JI {m a e d:List aG} {o:aV} (h:C3 m o.j a e d) (g:(iR m o.j).1=((X a:Nat):Int)) (c:(iR m o.j).2=Zj↔e≠ []):
    (e= []/\uN m o=(m,GQ))\/(∃ v,e= [aG.q o.j v]/\uN m o=(m,dA.q Zj v (Ll.q []))):=by
  unfold uN
  rw [bI]
  generalize iR m o.j=f at g c ⊢
  obtain⟨i,b⟩:=f
  simp only at g c
  subst g
  simp only [O0]
  rcases h.mid with he | ⟨v,he⟩
  . have hb: ¬ b=Zj:=λ hb=>c.1 hb he
    rw [ZK hb]
    exact .inl ⟨he,Z⟩
  . have hb:b=Zj:=c.2 (by rw [he]; simp)
    rw [ZJ hb,bI]
    refine .inr ⟨v,he, ?_⟩
    have:J0 m (X a) Zy=aG.q o.j v:=by rw [h.app,he]; exact Cj _ _ _
    rw [this]
structure Mid (m:List aG) (u v:Key) (a b c:List aG):Prop where q::
  app:m=a++(b++c)
  lo:∀ p ∈ a,p.j < u
  mid:∀ p ∈ b, ¬ p.j < u/\(v= []\/p.j < v)
  hi:∀ p ∈ c,v≠ []/\¬ p.j < v
theorem DV {m:List aG} {r:ai} (hs:rQ m) (hr:M.R r.a r.b):∃ a b c,Mid m r.a r.b a b c/\kG m r=(((X a:Nat):Int),((X a+X b:Nat):Int)):=by
  obtain⟨a,b,hc,k,_⟩:=uP hs r.a
  unfold kG
  rw [bI,k]
  by_cases h:r.b= []
  . rw [ZJ h]
    refine⟨a,b, [],⟨by rw [hc.app,List.append_nil],hc.lo,λ p hp=>⟨hc.hi p hp, .inl h⟩,λ p hp=>by cases hp⟩, ?_⟩
    rw [hc.app,o3]
  . rw [ZK h,bI]
    obtain⟨c,d,f,l,_⟩:=uP hs r.b
    have hl:=hc.two ((hr.2.resolve_left h).2) f
    rw [l]
    obtain⟨x,hx,g⟩:∃ x,c=a++x/\b=x++d:=by
      have e:a++b=c++d:=by rw [<- hc.app, <- f.app]
      rcases List.append_eq_append_iff.1 e with ⟨x,i,j⟩ | ⟨x,i,j⟩
      . exact⟨x,i,j⟩
      . have:x= []:=O1.1 (by rw [i,o3] at hl; omega)
        subst this
        exact⟨[],by rw [i]; simp,by rw [j]; rfl⟩
    refine⟨a,x,d,⟨by rw [hc.app,g],hc.lo,λ p hp=>⟨hc.hi p (by rw [g]; exact List.mem_append_left _ hp), .inr (f.lo p (by rw [hx]; exact List.mem_append_right _ hp))⟩,λ p hp=>⟨h,f.hi p hp⟩⟩, ?_⟩
    rw [hx,o3]
theorem Jg {m a b c:List aG} {o:aV} (h:Mid m o.a o.b a b c) (e:kG m (ai.q o.a o.b)=(((X a:Nat):Int),((X a+X b:Nat):Int))):
    uA m o=(a++c,GQ):=by
  unfold uA
  rw [bI,show gF o=ai.q o.a o.b from Z,bI,e,bI]
  unfold iE
  simp only [O0]
  by_cases hb:(X a:Int)=((X a+X b:Nat):Int)
  . rw [ZJ hb]
    have:b= []:=O1.1 U
    rw [h.app,this]; rfl
  . rw [ZK hb,h.app,Aw, <- List.drop_drop,vY,vY]
theorem Jh {m a b c:List aG} {o:aV} (h:Mid m o.a o.b a b c) (e:kG m (ai.q o.a o.b)=(((X a:Nat):Int),((X a+X b:Nat):Int))) (hm:1<=o.r):
    uz m o=(m,dA.q O [] (Ll.q (Zf o.r.toNat b))):=by
  unfold uz
  rw [bI,show gF o=ai.q o.a o.b from Z,bI,e]
  simp only [O0]
  congr 3
  rw [h.app,vY]
  obtain⟨n,hn⟩:∃ n:Nat,o.r=n:=⟨o.r.toNat,U⟩
  rw [hn,show (X a:Int)+(n:Int)=((X a+n:Nat):Int) from Z]
  have d:(min ((X a+X b:Nat):Int) ((X a+n:Nat):Int)).toNat - X a=min n (X b):=U
  rw [d,O0]
  rw [List.take_append_of_le_length (Nat.min_le_right _ _)]
  rw [List.take_eq_take_iff]; omega
theorem Ay {a b:List aG} (h:a.Sublist b) (hs:rQ b):rQ a:=List.Pairwise.sublist h hs
theorem zD {o:aV} (h:eF o=0) (hk:o.g=1\/o.g=2\/o.g=3):xI o.j:=by
  rcases hk with hk | hk | hk
  . rw [Js (.inl hk)] at h
    split at h
    . exact tT.1 h
    . cases h
  . rw [IJ hk] at h
    split at h
    . rw [Em] at h
      by_cases a:dU o.j=0
      . exact tT.1 a
      . rw [ZK a] at h; exact absurd h a
    . cases h
  . rw [Js (.inr hk)] at h
    split at h
    . exact tT.1 h
    . cases h
theorem EZ {o:aV} (h:eF o=0) (hk:o.g=2):X o.k<=16:=by
  rw [IJ hk] at h
  split at h
  . rw [Em] at h
    by_cases a:dU o.j=0
    . rw [ZJ a] at h
      split at h
      . cases h
      . omega
    . rw [ZK a] at h; exact absurd h a
  . cases h
theorem IK {m:List aG} {o:aV} {r} (h:vT m o=r) (hm:gT m=0) (ho:eF o=0) (hk:o.g=2):gT r.1=0:=by
  obtain⟨hp,hs⟩:=sH.1 hm
  obtain⟨a,e,d,b,f,g⟩:=En hs o.j
  rw [<- h,JG b f g]
  have hma:a.Sublist m:=by rw [b.app]; exact List.sublist_append_left _ _
  have hmd:d.Sublist m:=by rw [b.app]; exact(O2 e d).trans (O2 a _)
  refine sH.2 ⟨λ p c=> ?_,DU.2 ⟨Ay hma hs,yV.2 ⟨b.hi,Ay hmd hs⟩,λ x hx y hy=> ?_⟩⟩
  . rcases List.mem_append.1 c with hx | hx
    . exact hp p (hma.subset hx)
    . rcases v1.1 hx with rfl | hx
      . exact⟨zD ho (.inr (.inl hk)),EZ ho hk⟩
      . exact hp p (hmd.subset hx)
  . rcases v1.1 hy with rfl | hy
    . exact b.lo x hx
    . exact Au (b.lo x hx) (b.hi y hy)
theorem E5 {m n:List aG} (h:n.Sublist m) (hm:gT m=0):gT n=0:=
  sH.2 ⟨λ p hp=>(sH.1 hm).1 p (h.subset hp),Ay h (sH.1 hm).2⟩
theorem IL {m:List aG} {o:aV} {r} (h:vV m o=r) (hm:gT m=0):gT r.1=0:=by
  obtain⟨a,e,d,b,c,f⟩:=En (sH.1 hm).2 o.j
  rw [<- h,JH b c f]
  refine E5 ?_ hm
  rw [b.app]
  exact(List.Sublist.refl a).append (O2 e d)
theorem IM {m:List aG} {o:aV} {r} (h:uN m o=r) (hm:gT m=0):gT r.1=0:=by
  obtain⟨a,e,d,c,f,g⟩:=En (sH.1 hm).2 o.j
  rcases JI c f g with ⟨_,b⟩ | ⟨v,_,b⟩ <;> rw [<- h,b] <;> exact hm
theorem Hf {m:List aG} {o:aV} {r} (h:uz m o=r) (hm:gT m=0) (ho:eF o=0) (hk:o.g=4):gT r.1=0:=by
  obtain⟨a,b,c,d,e⟩:=DV (r:=ai.q o.a o.b) (sH.1 hm).2 (wF ho (.inl hk))
  rw [<- h,Jh d e (DT ho hk).1]; exact hm
theorem Hg {m:List aG} {o:aV} {r} (h:uA m o=r) (hm:gT m=0) (ho:eF o=0) (hk:o.g=5):gT r.1=0:=by
  obtain⟨a,b,c,d,e⟩:=DV (r:=ai.q o.a o.b) (sH.1 hm).2 (wF ho (.inr hk))
  rw [<- h,Jg d e]
  refine E5 ?_ hm
  rw [d.app]
  exact(List.Sublist.refl a).append (O2 b c)
end
open IntKind renaming i64->D3
open List renaming flatMap->q1,flatMap_append->u3,length_cons->q6,length_nil->L0
open Sv renaming q->O4
open _root_.Go.Proofs.Tryz renaming call66->D0,isAgg62->C1,isAgg65->L7,isAgg95->O3,sizeOf144->B7,sizeOf62->C0,sizeOf65->L5,underlying45->F1
open WL renaming nil->G2
section
open Go.RowKit
def iA:List aV->List aG->List dA->(List aG) × (List dA)
  | [],b,c=>(b,c)
  | a::d,b,c=>if a.g=1 then bnd (uN b a) λ e=>iA d e.1 (c++ [e.2]) else if a.g=2 then bnd (vT b a) λ f=>iA d f.1 (c++ [f.2]) else if a.g=3 then bnd (vV b a) λ g=>iA d g.1 (c++ [g.2]) else if a.g=4 then bnd (uz b a) λ h=>iA d h.1 (c++ [h.2]) else bnd (uA b a) λ i=>iA d i.1 (c++ [i.2])
def rJ (c:List aG) (l1:List aV):(List aG) × (List dA) × Int:=
 bnd (gT c) λ a=>if a=0 then bnd (j4 l1) λ b=>if b=0 then bnd (iA l1 c []) λ sLrbtbtL=>(sLrbtbtL.1,sLrbtbtL.2,0) else(([]:List aG),([]:List dA),b) else(([]:List aG),([]:List dA),a)
theorem Da (w D A0 n0 c0 I A1 n1 c1 l1 r0 r1 r2) (H:Own w D w []) (dU:Ro w D λ w'=>bV w' 2 A0 n0 (q1 aG.L I)) (jh:n0=X I) (mI:X I *32<=211106232532992) (aW:Ro w D λ w'=>bV w' 6 A1 n1 (q1 aV.L l1)) (ji:n1=X l1) (mJ:X l1 *80<=211106232532992) (mK:(X I+X l1) *32<=211106232532992) (hr:rJ I l1=(r0,r1,r2)):
    Calls Tryz.prog 176 #[T A0 n0 c0, T A1 n1 c1] w (dI λ v w'=> ∃ B0 b0 B1 b1 e1,v= .tuple #[T B0 (X r0) b0, T B1 (X r1) b1,vI r2]/\Own w D w' [row B0 (X r0) b0 (q1 aG.L r0) 67 2,row B1 (X r1) b1 (q1 aQ.L e1) 65 3,sepL (q1 Kl e1)]/\(Zh aQ.abs e1=r1)/\(X r0<=X I+X l1)/\(X r1<=X l1)):=by
 subst jh ji
 refine cb Tryz.func176 ?_
 refine sr (Az Z (Az Z (An Z (JS (sr (Mz Z ?_))))))
 obtain⟨aj,Z5⟩:∃ q,gT I=q:=⟨_,Z⟩
 obtain⟨_,dV,dW,dX,_⟩:=JZ H
 refine cl Tryz.call214 (Ao _ _ A0 (X I) c0 I aj dV (dW _ dU) Z U Z5) ?_
 rintro _ bP ⟨rfl,dY⟩
 have dZ:=dX _ _ dY
 refine Ar Z (Mz Z (fw (Za (¬ (aj=0))) (Kc (e:= !(Zw (aj=0))) yk ZW) (nt ?_)))
 by_cases ak:aj=0
 refine jF (dF (Nu ak)) (sk (JS (sr (Mz Z ?_))))
 obtain⟨au,Z6⟩:∃ q,j4 l1=q:=⟨_,Z⟩
 obtain⟨_,d9,ed,ek,_⟩:=JZ dZ
 refine cl Tryz.call65 (su _ _ A1 (X l1) c1 l1 au d9 (ed _ aW) Z U Z6) ?_
 rintro _ bQ ⟨rfl,eu⟩
 have eB:=ek _ _ eu
 refine Ar Z (Mz Z (fw (Za (¬ (au=0))) (Kc (e:= !(Zw (au=0))) yk ZW) (nt ?_)))
 by_cases aX:au=0
 refine jF (dF (Nu aX)) (sk (sr (Mz Z ?_)))
 obtain⟨_,eD,eG,eH,_⟩:=JZ eB
 refine cl Tryz.call164 (nJ _ _ A0 (X I) c0 I I eD (eG _ dU) Z U Z) ?_
 rintro _ eP ⟨bR,bS,rfl,eQ⟩
 have eT:=eH _ _ eQ
 have kN:=eT.rowC (i:=0) Z
 refine Ar Z (An Z (JS (sr (Mz Z (Kz (vJ (X l1)) (Mn Z (bo ?_)))))))
 have jm:=eT.sepNil.free (bW 65 3)
 have jo:=jm.pf [2]
 obtain⟨jq,J⟩:=Jq λ L (M:Nat) n aY (aZ:Nat) p h (j:Nat) w'=>Own w D w' [row L (X n) M (q1 aG.L n) 67 2,row aY (X h) aZ (q1 aQ.L p) 65 3,sepL (q1 Kl p)]/\Zh aQ.abs p=h/\j<=X l1/\X n<=X I+j/\X h=j/\X h<=j/\gT n=0/\iA l1 I []=iA (Ze j l1) n h
 refine Wp.loop (λ i:(Option Addr) × Nat × (List aG) × (Option Addr) × Nat × (List aQ) × (List dA) × Nat=> [(0, T i.1 (X i.2.2.1) i.2.1),(9, T i.2.2.2.1 (X i.2.2.2.2.2.2.1) i.2.2.2.2.1),(29,vJ i.2.2.2.2.2.2.2),(28,vJ (X l1)),(27, T A1 (X l1) c1),(6,vI 0),(5, T Zk 0 0),(4, T Zk 0 0)]) jq (λ i=>X l1 - i.2.2.2.2.2.2.2) (bR,bS,I,Zk,0, [], [],0) ⟨Z,Z,Z,Z,Z,Z,Z,Z,ZV⟩ (J.2 ⟨jo,(show Zh aQ.abs []=[]/\0<=X l1/\X I<=X I/\0=0/\0<=0/\gT I=0/\iA l1 I []=iA (Ze 0 l1) I [] from ⟨by exact Z,U,U,U,U,by rw [Z5]; omega,Z⟩)⟩) ?_
 rintro ⟨L,M,n,aY,aZ,p,h,j⟩ _ eX
 obtain⟨av,r,_,_,_,_,_,K⟩:=J.1 eX
 have kU:=bf r
 refine sr (Kz (Za ((j:Int) < (X l1:Int))) (nt (JS ?_)))
 by_cases eY:(j:Int) < (X l1:Int)
 obtain⟨o,Z8⟩:=dM (ls:=l1) (i:=j) aV.len f7 (av.ro aW) f5
 have kV:=DK (l:=l1) (by rw [Z6]; omega) Z8
 have kW:=yJ (l:=l1) (by rw [Z6]; omega) _ (List.mem_of_getElem? Z8)
 have P:=drop_at Z8
 refine jT (dT eY) (sk (JS (bo (sr (fw (Zz (Zv ⟨ab A1,ao A1+j *6,Zk⟩)) (J9 (nH) Z Z ((av.ro aW).addr (i:=j) U) U) (fw (Zq (Zb (aV.L o))) (J5 Z (J7 (cs:=(aV.L o)) C1 C0 ((av.ro aW).elem aV.len Z8 f7))) (cB [vI 0, Z9 ⟨Zb []⟩, Z9 ⟨Zb []⟩, Z9 ⟨Zb []⟩, Z9 ⟨Zb []⟩,vI 0] 62 av ?_)))))))
 intro jr _ jv
 refine cu (aV.L o) 0 jv C0 ?_
 intro _ ah
 refine ns (Kz (vP jr 0) (Lz (vI o.g) ah 0 Tryz.isAgg3 ?_))
 by_cases ai:o.g=1
 obtain⟨_,eZ,_,fe,_⟩:=JZ ah
 refine cl D0 (oJ _ _ o.g eZ (of_decide_eq_true (dT ai))) ?_
 rintro _ _ ⟨rfl,fo⟩
 refine Mz Z (Kz (Zq o2k.toArray) (Kz (Y Zj) (cB [Y O, Zx, Zx, Zx, Zx] 144 (fe _ _ fo) ?_)))
 intro fq _ fu
 refine cu o2k 0 fu B7 ?_
 intro _ fA
 refine Ar Z (cB [Y O, Z9 ⟨Zb []⟩, T Zk 0 0] 65 fA ?_)
 intro _ _ ax
 refine ns (Kz (vP fq 4) (Lz (.func (.func 101) #[] #[]) ax 1 O3 (Mz Z (La (aV.L o) ax 2 C1 C0 ?_))))
 obtain⟨⟨Z1,a⟩,R⟩:∃ q:(List aG) × dA,uN n o=q:=⟨_,Z⟩
 obtain⟨_,bT,_,bU,_⟩:=Kt (ax.pf [3])
 refine WL.do Z (KA Tryz.call101 Z Z (EP _ _ L (X n) M n o Z1 a bT Z U U R) ?_)
 rintro _ _ ⟨bg,bi,t,u,rfl,bX,ay⟩
 have az:=bU _ _ bX
 have jB:=az.rowC (i:=0) Z
 have jC:=az.rowC (i:=1) Z
 replace ay:=ay
 refine Mz Z (Kz (T bg (X Z1) bi) (Kz (Zq #[Y a.b, Z9 ⟨Zb a.k⟩, T t (X a.a.a) u]) (Az Z (cu [Y a.b, Z9 ⟨Zb a.k⟩, T t (X a.a.a) u] 0 (az.pf [2]) L5 ?_))))
 intro _ bn
 refine nt (JW (Mz Z (La ([Y a.b, Z9 ⟨Zb a.k⟩, T t (X a.a.a) u]) bn 0 L7 L5 (j6 [Y a.b, Z9 ⟨Zb a.k⟩, T t (X a.a.a) u] 65 3 1 bn ?_))))
 intro fD _ aA
 replace aA:=Ku (y:=row fD 1 1 (q1 aQ.L ([(aQ.q a.b a.k (O4 t u a.a.a))])) 65 3) Z aA
 have bq:=aA.pf [6,7,3]
 refine WL.do Z (Kk (k:=X h) (m:=1) (vD) bq Z Z (eO F1 (bq.rds (i:=3) Z) (cO aQ.one ([(aQ.q a.b a.k (O4 t u a.a.a))]))) Z U (s:=X (h++ [a])) f6 (u3).symm ?_)
 intro fE fF fG fH
 have fJ:=(fH.pf [1,2]).sepAdd (L2:= [row t (X a.a.a) u (q1 aG.L a.a.a) 67 2]) (u3 (f:=Kl) (xs:=p) (ys:= [(aQ.q a.b a.k (O4 t u a.a.a))])).symm
 have jD:X (h++ [a])=X h+1:=by simp only [o3,q6,L0]
 have jE:=bf (iP (es:= [(aQ.q a.b a.k (O4 t u a.a.a))]) (ms:= [a]) r Z)
 refine Az Z (G2 (bN (JY (JW (fw (vJ (j+1)) (J4 (e:=D3.wrap ((j:Int)+1)) yk f4) (Mz Z (G2 ?_)))))))
 have fK:=fJ.pk [4,1,0]
 exact Kb (bg,bi,Z1,fE,fF,(p++ [(aQ.q a.b a.k (O4 t u a.a.a))]),(h++ [a]),j+1) ⟨Z,Z,Z,Z,Z,Z,Z,Z,ZV⟩ (J.2 ⟨fK,by exact(iP (es:= [(aQ.q a.b a.k (O4 t u a.a.a))]) (ms:= [a]) r Z),U,U,U,U,by exact IM R f8,V (K) (V (ZX (λ q=>iA q n h) P) (V (ip ai) (ae R)))⟩) (by show X l1 - (j+1) < X l1 - j; omega)
 by_cases Q:o.g=2
 obtain⟨_,bY,_,bZ,_⟩:=JZ ah
 refine cl D0 (oK _ _ o.g bY (of_decide_eq_true (dT Q))) ?_
 rintro _ _ ⟨rfl,cz⟩
 refine Mz Z (Kz (Zq o3k.toArray) (Kz (Y Zj) (cB [Y O, Zx, Zx, Zx, Zx] 144 (bZ _ _ cz) ?_)))
 intro fO _ fP
 refine cu o3k 0 fP B7 ?_
 intro _ fQ
 refine Ar Z (cB [Y O, Z9 ⟨Zb []⟩, T Zk 0 0] 65 fQ ?_)
 intro _ _ aB
 refine ns (Kz (vP fO 4) (Lz (.func (.func 104) #[] #[]) aB 1 O3 (Mz Z (La (aV.L o) aB 2 C1 C0 ?_))))
 obtain⟨⟨Z2,b⟩,S⟩:∃ q:(List aG) × dA,vT n o=q:=⟨_,Z⟩
 obtain⟨_,cK,_,cZ,_⟩:=Kt (aB.pf [3])
 refine WL.do Z (KA Tryz.call104 Z Z (EQ _ _ L (X n) M n o Z2 b cK Z U U S) ?_)
 rintro _ _ ⟨bu,bv,x,z,rfl,df,aC⟩
 have aD:=cZ _ _ df
 have jK:=aD.rowC (i:=0) Z
 have jL:=aD.rowC (i:=1) Z
 replace aC:=aC
 refine Mz Z (Kz (T bu (X Z2) bv) (Kz (Zq #[Y b.b, Z9 ⟨Zb b.k⟩, T x (X b.a.a) z]) (Az Z (cu [Y b.b, Z9 ⟨Zb b.k⟩, T x (X b.a.a) z] 0 (aD.pf [2]) L5 ?_))))
 intro _ bz
 refine nt (JW (Mz Z (La ([Y b.b, Z9 ⟨Zb b.k⟩, T x (X b.a.a) z]) bz 0 L7 L5 (j6 [Y b.b, Z9 ⟨Zb b.k⟩, T x (X b.a.a) z] 65 3 1 bz ?_))))
 intro fV _ aF
 replace aF:=Ku (y:=row fV 1 1 (q1 aQ.L ([(aQ.q b.b b.k (O4 x z b.a.a))])) 65 3) Z aF
 have bA:=aF.pf [6,7,3]
 refine WL.do Z (Kk (k:=X h) (m:=1) (vD) bA Z Z (eO F1 (bA.rds (i:=3) Z) (cO aQ.one ([(aQ.q b.b b.k (O4 x z b.a.a))]))) Z U (s:=X (h++ [b])) f6 (u3).symm ?_)
 intro fZ gm gp gq
 have gy:=(gq.pf [1,2]).sepAdd (L2:= [row x (X b.a.a) z (q1 aG.L b.a.a) 67 2]) (u3 (f:=Kl) (xs:=p) (ys:= [(aQ.q b.b b.k (O4 x z b.a.a))])).symm
 have jM:X (h++ [b])=X h+1:=by simp only [o3,q6,L0]
 have jN:=bf (iP (es:= [(aQ.q b.b b.k (O4 x z b.a.a))]) (ms:= [b]) r Z)
 refine Az Z (G2 (bN (JY (JW (fw (vJ (j+1)) (J4 (e:=D3.wrap ((j:Int)+1)) yk f4) (Mz Z (G2 ?_)))))))
 have gz:=gy.pk [4,1,0]
 exact Kb (bu,bv,Z2,fZ,gm,(p++ [(aQ.q b.b b.k (O4 x z b.a.a))]),(h++ [b]),j+1) ⟨Z,Z,Z,Z,Z,Z,Z,Z,ZV⟩ (J.2 ⟨gz,by exact(iP (es:= [(aQ.q b.b b.k (O4 x z b.a.a))]) (ms:= [b]) r Z),U,U,U,U,by exact IK S f8 f8 U,V (K) (V (ZX (λ q=>iA q n h) P) (V (iN ai) (V (ip Q) (ae S))))⟩) (by show X l1 - (j+1) < X l1 - j; omega)
 by_cases Z0:o.g=3
 obtain⟨_,dh,_,di,_⟩:=JZ ah
 refine cl D0 (oL _ _ o.g dh (of_decide_eq_true (dT Z0))) ?_
 rintro _ _ ⟨rfl,dm⟩
 refine Mz Z (Kz (Zq o4k.toArray) (Kz (Y Zj) (cB [Y O, Zx, Zx, Zx, Zx] 144 (di _ _ dm) ?_)))
 intro gD _ gF
 refine cu o4k 0 gF B7 ?_
 intro _ gG
 refine Ar Z (cB [Y O, Z9 ⟨Zb []⟩, T Zk 0 0] 65 gG ?_)
 intro _ _ aH
 refine ns (Kz (vP gD 4) (Lz (.func (.func 105) #[] #[]) aH 1 O3 (Mz Z (La (aV.L o) aH 2 C1 C0 ?_))))
 obtain⟨⟨aa,c⟩,Z7⟩:∃ q:(List aG) × dA,vV n o=q:=⟨_,Z⟩
 obtain⟨_,dn,_,dw,_⟩:=Kt (aH.pf [3])
 refine WL.do Z (KA Tryz.call105 Z Z (ER _ _ L (X n) M n o aa c dn Z U U Z7) ?_)
 rintro _ _ ⟨bB,bC,A,B,rfl,dx,aI⟩
 have aJ:=dw _ _ dx
 have jS:=aJ.rowC (i:=0) Z
 have jU:=aJ.rowC (i:=1) Z
 replace aI:=aI
 refine Mz Z (Kz (T bB (X aa) bC) (Kz (Zq #[Y c.b, Z9 ⟨Zb c.k⟩, T A (X c.a.a) B]) (Az Z (cu [Y c.b, Z9 ⟨Zb c.k⟩, T A (X c.a.a) B] 0 (aJ.pf [2]) L5 ?_))))
 intro _ bD
 refine nt (JW (Mz Z (La ([Y c.b, Z9 ⟨Zb c.k⟩, T A (X c.a.a) B]) bD 0 L7 L5 (j6 [Y c.b, Z9 ⟨Zb c.k⟩, T A (X c.a.a) B] 65 3 1 bD ?_))))
 intro gJ _ aK
 replace aK:=Ku (y:=row gJ 1 1 (q1 aQ.L ([(aQ.q c.b c.k (O4 A B c.a.a))])) 65 3) Z aK
 have bE:=aK.pf [6,7,3]
 refine WL.do Z (Kk (k:=X h) (m:=1) (vD) bE Z Z (eO F1 (bE.rds (i:=3) Z) (cO aQ.one ([(aQ.q c.b c.k (O4 A B c.a.a))]))) Z U (s:=X (h++ [c])) f6 (u3).symm ?_)
 intro gK gL gM gN
 have gQ:=(gN.pf [1,2]).sepAdd (L2:= [row A (X c.a.a) B (q1 aG.L c.a.a) 67 2]) (u3 (f:=Kl) (xs:=p) (ys:= [(aQ.q c.b c.k (O4 A B c.a.a))])).symm
 have jV:X (h++ [c])=X h+1:=by simp only [o3,q6,L0]
 have jW:=bf (iP (es:= [(aQ.q c.b c.k (O4 A B c.a.a))]) (ms:= [c]) r Z)
 refine Az Z (G2 (bN (JY (JW (fw (vJ (j+1)) (J4 (e:=D3.wrap ((j:Int)+1)) yk f4) (Mz Z (G2 ?_)))))))
 have gU:=gQ.pk [4,1,0]
 exact Kb (bB,bC,aa,gK,gL,(p++ [(aQ.q c.b c.k (O4 A B c.a.a))]),(h++ [c]),j+1) ⟨Z,Z,Z,Z,Z,Z,Z,Z,ZV⟩ (J.2 ⟨gU,by exact(iP (es:= [(aQ.q c.b c.k (O4 A B c.a.a))]) (ms:= [c]) r Z),U,U,U,U,by exact IL Z7 f8,V (K) (V (ZX (λ q=>iA q n h) P) (V (iN ai) (V (iN Q) (V (ip Z0) (ae Z7)))))⟩) (by show X l1 - (j+1) < X l1 - j; omega)
 by_cases aL:o.g=4
 obtain⟨_,dz,_,dB,_⟩:=JZ ah
 refine cl D0 (oM _ _ o.g dz (of_decide_eq_true (dT aL))) ?_
 rintro _ _ ⟨rfl,dC⟩
 refine Mz Z (Kz (Zq o5k.toArray) (Kz (Y Zj) (cB [Y O, Zx, Zx, Zx, Zx] 144 (dB _ _ dC) ?_)))
 intro gW _ gX
 refine cu o5k 0 gX B7 ?_
 intro _ gY
 refine Ar Z (cB [Y O, Z9 ⟨Zb []⟩, T Zk 0 0] 65 gY ?_)
 intro _ _ aM
 refine ns (Kz (vP gW 4) (Lz (.func (.func 109) #[] #[]) aM 1 O3 (Mz Z (La (aV.L o) aM 2 C1 C0 ?_))))
 obtain⟨⟨af,d⟩,Z3⟩:∃ q:(List aG) × dA,uz n o=q:=⟨_,Z⟩
 obtain⟨_,dD,_,dE,_⟩:=Kt (aM.pf [3])
 refine WL.do Z (KA Tryz.call109 Z Z (Eg _ _ L (X n) M n o af d dD Z U U j2 (by exact DT f8 U) Z3) ?_)
 rintro _ _ ⟨bF,bG,C,E,rfl,dG,aN⟩
 have aO:=dE _ _ dG
 have j5:=aO.rowC (i:=0) Z
 have kg:=aO.rowC (i:=1) Z
 replace aN:=aN
 refine Mz Z (Kz (T bF (X af) bG) (Kz (Zq #[Y d.b, Z9 ⟨Zb d.k⟩, T C (X d.a.a) E]) (Az Z (cu [Y d.b, Z9 ⟨Zb d.k⟩, T C (X d.a.a) E] 0 (aO.pf [2]) L5 ?_))))
 intro _ bH
 refine nt (JW (Mz Z (La ([Y d.b, Z9 ⟨Zb d.k⟩, T C (X d.a.a) E]) bH 0 L7 L5 (j6 [Y d.b, Z9 ⟨Zb d.k⟩, T C (X d.a.a) E] 65 3 1 bH ?_))))
 intro ic _ aP
 replace aP:=Ku (y:=row ic 1 1 (q1 aQ.L ([(aQ.q d.b d.k (O4 C E d.a.a))])) 65 3) Z aP
 have bI:=aP.pf [6,7,3]
 refine WL.do Z (Kk (k:=X h) (m:=1) (vD) bI Z Z (eO F1 (bI.rds (i:=3) Z) (cO aQ.one ([(aQ.q d.b d.k (O4 C E d.a.a))]))) Z U (s:=X (h++ [d])) f6 (u3).symm ?_)
 intro ig ik il iq
 have iy:=(iq.pf [1,2]).sepAdd (L2:= [row C (X d.a.a) E (q1 aG.L d.a.a) 67 2]) (u3 (f:=Kl) (xs:=p) (ys:= [(aQ.q d.b d.k (O4 C E d.a.a))])).symm
 have ko:X (h++ [d])=X h+1:=by simp only [o3,q6,L0]
 have kr:=bf (iP (es:= [(aQ.q d.b d.k (O4 C E d.a.a))]) (ms:= [d]) r Z)
 refine Az Z (G2 (bN (JY (JW (fw (vJ (j+1)) (J4 (e:=D3.wrap ((j:Int)+1)) yk f4) (Mz Z (G2 ?_)))))))
 have iB:=iy.pk [4,1,0]
 exact Kb (bF,bG,af,ig,ik,(p++ [(aQ.q d.b d.k (O4 C E d.a.a))]),(h++ [d]),j+1) ⟨Z,Z,Z,Z,Z,Z,Z,Z,ZV⟩ (J.2 ⟨iB,by exact(iP (es:= [(aQ.q d.b d.k (O4 C E d.a.a))]) (ms:= [d]) r Z),U,U,U,U,by exact Hf Z3 f8 f8 U,V (K) (V (ZX (λ q=>iA q n h) P) (V (iN ai) (V (iN Q) (V (iN Z0) (V (ip aL) (ae Z3))))))⟩) (by show X l1 - (j+1) < X l1 - j; omega)
 have dH:(Zw (o.g=5))=Zj:=(dT U)
 obtain⟨_,dJ,_,dK,_⟩:=JZ ah
 refine cl D0 (oN _ _ o.g dJ (of_decide_eq_true dH)) ?_
 rintro _ _ ⟨rfl,dL⟩
 refine Mz Z (Kz (Zq o6k.toArray) (Kz (Y Zj) (cB [Y O, Zx, Zx, Zx, Zx] 144 (dK _ _ dL) ?_)))
 intro iD _ iE
 refine cu o6k 0 iE B7 ?_
 intro _ iF
 refine Ar Z (cB [Y O, Z9 ⟨Zb []⟩, T Zk 0 0] 65 iF ?_)
 intro _ _ aR
 refine ns (Kz (vP iD 4) (Lz (.func (.func 112) #[] #[]) aR 1 O3 (Mz Z (La (aV.L o) aR 2 C1 C0 ?_))))
 obtain⟨⟨ag,g⟩,Z4⟩:∃ q:(List aG) × dA,uA n o=q:=⟨_,Z⟩
 obtain⟨_,dN,_,dO,_⟩:=Kt (aR.pf [3])
 refine WL.do Z (KA Tryz.call112 Z Z (Eh _ _ L (X n) M n o ag g dN Z U U j2 Z4) ?_)
 rintro _ _ ⟨bJ,bK,F,G,rfl,dP,aS⟩
 have aT:=dO _ _ dP
 have kz:=aT.rowC (i:=0) Z
 have kC:=aT.rowC (i:=1) Z
 replace aS:=aS
 refine Mz Z (Kz (T bJ (X ag) bK) (Kz (Zq #[Y g.b, Z9 ⟨Zb g.k⟩, T F (X g.a.a) G]) (Az Z (cu [Y g.b, Z9 ⟨Zb g.k⟩, T F (X g.a.a) G] 0 (aT.pf [2]) L5 ?_))))
 intro _ bL
 refine nt (JW (Mz Z (La ([Y g.b, Z9 ⟨Zb g.k⟩, T F (X g.a.a) G]) bL 0 L7 L5 (j6 [Y g.b, Z9 ⟨Zb g.k⟩, T F (X g.a.a) G] 65 3 1 bL ?_))))
 intro iI _ aU
 replace aU:=Ku (y:=row iI 1 1 (q1 aQ.L ([(aQ.q g.b g.k (O4 F G g.a.a))])) 65 3) Z aU
 have bM:=aU.pf [6,7,3]
 refine WL.do Z (Kk (k:=X h) (m:=1) (vD) bM Z Z (eO F1 (bM.rds (i:=3) Z) (cO aQ.one ([(aQ.q g.b g.k (O4 F G g.a.a))]))) Z U (s:=X (h++ [g])) f6 (u3).symm ?_)
 intro iJ iK iL iM
 have iQ:=(iM.pf [1,2]).sepAdd (L2:= [row F (X g.a.a) G (q1 aG.L g.a.a) 67 2]) (u3 (f:=Kl) (xs:=p) (ys:= [(aQ.q g.b g.k (O4 F G g.a.a))])).symm
 have kD:X (h++ [g])=X h+1:=by simp only [o3,q6,L0]
 have kE:=bf (iP (es:= [(aQ.q g.b g.k (O4 F G g.a.a))]) (ms:= [g]) r Z)
 refine Az Z (G2 (bN (JY (JW (fw (vJ (j+1)) (J4 (e:=D3.wrap ((j:Int)+1)) yk f4) (Mz Z (G2 ?_)))))))
 have iR:=iQ.pk [4,1,0]
 exact Kb (bJ,bK,ag,iJ,iK,(p++ [(aQ.q g.b g.k (O4 F G g.a.a))]),(h++ [g]),j+1) ⟨Z,Z,Z,Z,Z,Z,Z,Z,ZV⟩ (J.2 ⟨iR,by exact(iP (es:= [(aQ.q g.b g.k (O4 F G g.a.a))]) (ms:= [g]) r Z),U,U,U,U,by exact Hg Z4 f8 f8 U,V (K) (V (ZX (λ q=>iA q n h) P) (V (iN ai) (V (iN Q) (V (iN Z0) (V (iN aL) (ae Z4))))))⟩) (by show X l1 - (j+1) < X l1 - j; omega)
 refine jF (dF eY) (Wp.exit (Ka (Ka (Kh (JY (sr (Mz Z (Mz Z (Az Z (Az Z (An Z (rt (Ke (yN Z Z Z Z) ?_)))))))))))))
 obtain⟨rfl,rfl,rfl⟩:=nM (zj hr (show _=(n,h,0) from V (ae Z5) (V (ip ak) (V (ae Z6) (V (ip aX) (ae (V (K) (V (ZX (λ q=>iA q n h) (eU (ls:=l1) (i:=j) U)) Z))))))))
 exact⟨L,M,aY,aZ,p,Z,(av.pf []),r,i3,i3⟩
 refine jT (dT aX) (sr (Mz Z (Az Z (Az Z (An Z (rt (tR (Ke (yN Z Z Z Z) ?_))))))))
 have iV:=(eB.free (bW 67 2)).sepNil
 have iW:=iV.free (bW 65 3)
 have iX:=iW.pf [2]
 obtain⟨rfl,rfl,rfl⟩:=nM (zj hr (show _=(([]:List aG),([]:List dA),au) from V (ae Z5) (V (ip ak) (V (ae Z6) (iN aX)))))
 exact⟨Zk,0,Zk,0, [],Z,iX,Z,i3,i3⟩
 refine jT (dT ak) (sr (Mz Z (Az Z (Az Z (An Z (rt (tR (Ke (yN Z Z Z Z) ?_))))))))
 have iZ:=(dZ.free (bW 67 2)).sepNil
 have ja:=iZ.free (bW 65 3)
 have jb:=ja.pf [2]
 obtain⟨rfl,rfl,rfl⟩:=nM (zj hr (show _=(([]:List aG),([]:List dA),aj) from V (ae Z5) (iN ak)))
 exact⟨Zk,0,Zk,0, [],Z,jb,Z,i3,i3⟩
end
open Ll renaming q->N
open _root_.Go.Proofs.Tryz renaming isAgg38->C6,isAgg9->B9,sizeOf38->C5
section
open Go.RowKit
def xK (c:List aG) (a:aV):(List aG) × dA:=
 if a.g=1 then bnd (rH c a.j) λ b=>(c,dA.q b.2 b.1 (N [])) else if a.g=2 then bnd (yh c (aG.q a.j a.k)) λ f=>(f,dA.q O [] (N [])) else if a.g=3 then bnd (qx a.j) λ g=>bnd (ou c g.1) λ h=>(h,dA.q O [] (N [])) else if a.g=4 then bnd (qI c (ai.q a.a a.b) a.r) λ d=>(c,dA.q O [] (N d)) else bnd (ou c (ai.q a.a a.b)) λ e=>(e,dA.q O [] (N []))
theorem E8 (w D s n0 t b) (a:aV) (r0) (r1:dA) (H:Own w D w [row s n0 t (q1 aG.L b) 67 2]) (bA:n0=X b) (dC:X b *32<=211106232532992) (dD:(X b+1) *32<=211106232532992) (hr:xK b a=(r0,r1)):
    Calls Tryz.prog 24 #[T s n0 t, Zq (Zb (aV.L a))] w (dI λ v w'=> ∃ B0 b0 F G,v= .tuple #[T B0 (X r0) b0, Zq #[Y r1.b, Z9 ⟨Zb r1.k⟩, T F (X r1.a.a) G]]/\Own w D w' [row B0 (X r0) b0 (q1 aG.L r0) 67 2,row F (X r1.a.a) G (q1 aG.L r1.a.a) 67 2]/\(X r0<=X b+1)):=by
 unfold xK at hr
 subst bA
 have dE:=H.rowC (i:=0) Z
 refine cb Tryz.func24 ?_
 refine sr ?_
 refine cB (aV.L a) 62 H ?_
 intro e _ bC
 refine Az Z (cB [Y O, Z9 ⟨Zb []⟩, T Zk 0 0] 65 bC ?_)
 intro _ _ Z4
 refine ns (Kz (vP e 3) (Lz (Z9 ⟨Zb a.a⟩) Z4 1 B9 (Kz (vP e 4) (Lz (Z9 ⟨Zb a.b⟩) Z4 1 B9 (Kz (Zq #[Z9 ⟨Zb a.a⟩, Z9 ⟨Zb a.b⟩]) (cB [Z9 ⟨Zb []⟩, Z9 ⟨Zb []⟩] 38 Z4 ?_))))))
 intro _ _ bD
 refine cu [Z9 ⟨Zb a.a⟩, Z9 ⟨Zb a.b⟩] 0 bD C5 ?_
 intro _ c
 refine nt (JS (sr (Kz (vP e 0) (Lz (vI a.g) c 2 Tryz.isAgg3 (nt (bo (sr (Kz (Za (a.g=1)) (An Z ?_)))))))))
 by_cases h:a.g=1
 refine jT (dT h) (sr (Mz Z (Kz (vP e 1) (Lz (Z9 ⟨Zb a.j⟩) c 2 B9 ?_))))
 obtain⟨⟨j,l⟩,I⟩:∃ q:(List UInt8) × Bool,rH b a.j=q:=⟨_,Z⟩
 obtain⟨_,au,_,av,ax⟩:=JZ c
 refine cl Tryz.call55 (yK _ _ s (X b) t b a.j j l au (ax _ 3 _ Z bB) Z U I) ?_
 rintro _ _ ⟨rfl,ay⟩
 refine Mz Z (Kz (Z9 ⟨Zb j⟩) (Kz (Y l) (Az Z (An Z (JS ?_)))))
 have bF:=(av _ _ ay).pk [0,1,3]
 refine JW (Mz Z (Mz Z (Mz Z (Kz (Zq #[Y l, Z9 ⟨Zb j⟩, T Zk 0 0]) (Az Z ?_)))))
 have bG:=bF.pf [1]
 refine cu [Y l, Z9 ⟨Zb j⟩, T Zk 0 0] 0 bG L5 ?_
 intro bH az
 refine nt (rt (bR (tR (Ke (fQ (vs:= [T s (X b) t, Zq #[Y l, Z9 ⟨Zb j⟩, T Zk 0 0]]) Z (bS.tmp Z (bS.cell Z (J7 (cs:= [Y l, Z9 ⟨Zb j⟩, T Zk 0 0]) L7 L5 ((az.cls (i:=0) Z).lit (k:=0) (m:=3) Z)) bS.nil)) (Nr Z)) ?_))))
 have bJ:=(az.free (bW 67 2)).pk [3,0]
 obtain⟨rfl,rfl⟩:=fI (zj hr zq2)
 exact⟨s,t,Zk,0,Z,bJ,U⟩
 refine jF (dF h) (sr (Kz (Za (a.g=2)) (An Z ?_)))
 by_cases p:a.g=2
 refine jT (dT p) (sr (Mz Z (Kz (vP e 1) (Lz (Z9 ⟨Zb a.j⟩) c 2 B9 (Kz (vP e 2) (Lz (Z9 ⟨Zb a.k⟩) c 2 B9 (Kz (Zq #[Z9 ⟨Zb a.j⟩, Z9 ⟨Zb a.k⟩]) ?_)))))))
 obtain⟨C,J⟩:∃ q,yh b (aG.q a.j a.k)=q:=⟨_,Z⟩
 obtain⟨_,aA,_,aB,aC⟩:=JZ c
 refine cl Tryz.call56 (Ej _ _ s (X b) t b (aG.q a.j a.k) C aA (aC _ 3 _ Z bB) Z U U J) ?_
 rintro _ _ ⟨aD,aF,rfl,aH,K⟩
 have aI:=aB _ _ aH
 have df:=aI.rowC (i:=0) Z
 replace K:=K
 refine Kz (Zq #[Y O, Z9 ⟨Zb []⟩, T Zk 0 0]) (Az Z (cu [Y O, Z9 ⟨Zb []⟩, T Zk 0 0] 0 (aI.pf [2]) L5 ?_))
 intro bL aJ
 refine nt (rt (bR (tR (Ke (fQ (vs:= [T aD (X C) aF, Zq #[Y O, Z9 ⟨Zb []⟩, T Zk 0 0]]) Z (bS.tmp Z (bS.cell Z (J7 (cs:= [Y O, Z9 ⟨Zb []⟩, T Zk 0 0]) L7 L5 ((aJ.cls (i:=0) Z).lit (k:=0) (m:=3) Z)) bS.nil)) (Nr Z)) ?_))))
 have bO:=(aJ.free (bW 67 2)).pk [2,0]
 obtain⟨rfl,rfl⟩:=fI (zj hr zq3)
 exact⟨aD,aF,Zk,0,Z,bO,U⟩
 refine jF (dF p) (sr (Kz (Za (a.g=3)) (An Z ?_)))
 by_cases u:a.g=3
 refine jT (dT u) (sr (Kz (vP e 1) (Lz (Z9 ⟨Zb a.j⟩) c 2 B9 ?_)))
 obtain⟨⟨r,aK⟩,L⟩:∃ q:ai × Int,qx a.j=q:=⟨_,Z⟩
 obtain⟨_,aL,_,aM,_⟩:=JZ c
 refine cl Tryz.call57 (Cg _ _ a.j r aK aL L) ?_
 rintro _ _ ⟨rfl,aN⟩
 refine Mz Z (Kz (Zq (Zb (ai.L r))) (Kz (vI aK) (cB [Z9 ⟨Zb []⟩, Z9 ⟨Zb []⟩] 38 (aM _ _ aN) ?_)))
 intro _ _ bQ
 refine cu (ai.L r) 0 bQ C5 ?_
 intro _ bT
 refine An Z (JS ?_)
 have aO:=bT.px [] [3] []
 refine JW (Mz Z (La (ai.L r) aO 0 C6 C5 ?_))
 obtain⟨E,M⟩:∃ q,ou b r=q:=⟨_,Z⟩
 obtain⟨_,aP,_,aQ,aR⟩:=JZ aO
 refine cl Tryz.call58 (vX _ _ s (X b) t b r E aP (aR _ 3 _ Z bB) Z U M) ?_
 rintro _ _ ⟨aS,aT,rfl,aU,x⟩
 have aW:=aQ _ _ aU
 have bU:=aW.rowC (i:=0) Z
 replace x:=x
 refine Kz (Zq #[Y O, Z9 ⟨Zb []⟩, T Zk 0 0]) (Az Z (cu [Y O, Z9 ⟨Zb []⟩, T Zk 0 0] 0 (aW.pf [3]) L5 ?_))
 intro aY Z5
 refine nt (rt (bR (tR (Ke (fQ (vs:= [T aS (X E) aT, Zq #[Y O, Z9 ⟨Zb []⟩, T Zk 0 0]]) Z (bS.tmp Z (bS.cell Z (J7 (cs:= [Y O, Z9 ⟨Zb []⟩, T Zk 0 0]) L7 L5 ((Z5.cls (i:=0) Z).lit (k:=0) (m:=3) Z)) bS.nil)) (Nr Z)) ?_))))
 have bf:=(Z5.free (bW 67 2)).pk [2,0]
 obtain⟨rfl,rfl⟩:=fI (zj hr zq5)
 exact⟨aS,aT,Zk,0,Z,bf,U⟩
 refine jF (dF u) (sr (Kz (Za (a.g=4)) (An Z ?_)))
 by_cases n:a.g=4
 refine jT (dT n) (sr (Mz Z (Mz Z (La ([Z9 ⟨Zb a.a⟩, Z9 ⟨Zb a.b⟩]) c 0 C6 C5 (Kz (vP e 5) (Lz (vI a.r) c 2 Tryz.isAgg3 ?_))))))
 obtain⟨d,y⟩:∃ q,qI b (ai.q a.a a.b) a.r=q:=⟨_,Z⟩
 obtain⟨_,Z8,_,Z1,Z2⟩:=JZ c
 refine cl Tryz.call59 (wV _ _ s (X b) t b (ai.q a.a a.b) a.r d Z8 (Z2 _ 3 _ Z bB) Z U y) ?_
 rintro _ _ ⟨f,g,rfl,Z0,z⟩
 have Z6:=Z1 _ _ Z0
 have bX:=Z6.rowC (i:=0) Z
 replace z:=z
 refine Kz (Zq #[Y O, Z9 ⟨Zb []⟩, T f (X d) g]) (Az Z (cu [Y O, Z9 ⟨Zb []⟩, T f (X d) g] 0 (Z6.pf [2]) L5 ?_))
 intro _ P
 refine nt (rt (bR (tR (Ke (fQ (vs:= [T s (X b) t, Zq #[Y O, Z9 ⟨Zb []⟩, T f (X d) g]]) Z (bS.tmp Z (bS.cell Z (J7 (cs:= [Y O, Z9 ⟨Zb []⟩, T f (X d) g]) L7 L5 ((P.cls (i:=0) Z).lit (k:=0) (m:=3) Z)) bS.nil)) (Nr Z)) ?_))))
 obtain⟨rfl,rfl⟩:=fI (zj hr zq5)
 exact⟨s,t,f,g,Z,(P.pk [4,1]),U⟩
 refine jF (dF n) (Ko (bN (JY (JS ?_))))
 have Q:=c.pk [0,1,3]
 refine JW (Mz Z (La ([Z9 ⟨Zb a.a⟩, Z9 ⟨Zb a.b⟩]) Q 0 C6 C5 ?_))
 obtain⟨o,A⟩:∃ q,ou b (ai.q a.a a.b)=q:=⟨_,Z⟩
 obtain⟨_,aa,_,af,ag⟩:=JZ Q
 refine cl Tryz.call58 (vX _ _ s (X b) t b (ai.q a.a a.b) o aa (ag _ 2 _ Z bB) Z U A) ?_
 rintro _ _ ⟨R,S,rfl,ah,B⟩
 have Z7:=af _ _ ah
 have bZ:=Z7.rowC (i:=0) Z
 replace B:=B
 refine Kz (Zq #[Y O, Z9 ⟨Zb []⟩, T Zk 0 0]) (Az Z (cu [Y O, Z9 ⟨Zb []⟩, T Zk 0 0] 0 (Z7.pf [2]) L5 ?_))
 intro bq Z3
 refine nt (rt (Ke (fQ (vs:= [T R (X o) S, Zq #[Y O, Z9 ⟨Zb []⟩, T Zk 0 0]]) Z (bS.tmp Z (bS.cell Z (J7 (cs:= [Y O, Z9 ⟨Zb []⟩, T Zk 0 0]) L7 L5 ((Z3.cls (i:=0) Z).lit (k:=0) (m:=3) Z)) bS.nil)) (Nr Z)) ?_))
 have bv:=(Z3.free (bW 67 2)).pk [2,0]
 obtain⟨rfl,rfl⟩:=fI (zj hr zq5)
 exact⟨R,S,Zk,0,Z,bv,U⟩
def lg:List aV->List aG->List dA->(List aG) × (List dA)
  | [],b,c=>(b,c)
  | d::e,b,c=>bnd (xK b d) λ a=>lg e a.1 (c++ [a.2])
def qz (c:List aG) (l1:List aV):(List aG) × (List dA) × Int:=
 bnd (l8 c) λ a=>if a=0 then bnd (Aq l1) λ b=>if b=0 then bnd (lg l1 c []) λ sLrbtbtL=>(sLrbtbtL.1,sLrbtbtL.2,0) else(([]:List aG),([]:List dA),b) else(([]:List aG),([]:List dA),a)
theorem Ck (w D A0 n0 c0 j S n1 c1 l1 Z2 Z0 r2) (H:Own w D w []) (aa:Ro w D λ w'=>bV w' 2 A0 n0 (q1 aG.L j)) (bD:n0=X j) (dD:X j *32<=211106232532992) (F:Ro w D λ w'=>bV w' 6 S n1 (q1 aV.L l1)) (bE:n1=X l1) (dE:X l1 *80<=211106232532992) (dG:(X j+X l1) *32<=211106232532992) (hr:qz j l1=(Z2,Z0,r2)):
    Calls Tryz.prog 9 #[T A0 n0 c0, T S n1 c1] w (dI λ v w'=> ∃ B0 b0 B1 b1 e1,v= .tuple #[T B0 (X Z2) b0, T B1 (X Z0) b1,vI r2]/\Own w D w' [row B0 (X Z2) b0 (q1 aG.L Z2) 67 2,row B1 (X Z0) b1 (q1 aQ.L e1) 65 3,sepL (q1 Kl e1)]/\(Zh aQ.abs e1=Z0)/\(X Z2<=X j+X l1)/\(X Z0<=X l1)):=by
 subst bD bE
 refine cb Tryz.func9 ?_
 refine sr (Az Z (Az Z (An Z (JS (sr (Mz Z ?_))))))
 obtain⟨r,n⟩:∃ q,l8 j=q:=⟨_,Z⟩
 obtain⟨_,af,ag,ah,_⟩:=JZ H
 refine cl Tryz.call5 (vk _ _ A0 (X j) c0 j r af (ag _ aa) Z U n) ?_
 rintro _ Z7 ⟨rfl,ai⟩
 have aj:=ah _ _ ai
 refine Ar Z (Mz Z (fw (Za (¬ (r=0))) (Kc (e:= !(Zw (r=0))) yk ZW) (nt ?_)))
 by_cases t:r=0
 refine jF (dF (Nu t)) (sk (JS (sr (Mz Z ?_))))
 obtain⟨u,x⟩:∃ q,Aq l1=q:=⟨_,Z⟩
 obtain⟨_,ak,au,av,_⟩:=JZ aj
 refine cl Tryz.call23 (Ei _ _ S (X l1) c1 l1 u ak (au _ F) Z U x) ?_
 rintro _ G ⟨rfl,ax⟩
 have ay:=av _ _ ax
 refine Ar Z (Mz Z (fw (Za (¬ (u=0))) (Kc (e:= !(Zw (u=0))) yk ZW) (nt ?_)))
 by_cases I:u=0
 refine jF (dF (Nu I)) (sk (sr (Mz Z ?_)))
 have az:=ay.free (bW 67 2)
 refine WL.do Z (Kk (k:=0) (m:=X j) (jo) az Z Z (eO Tryz.underlying22 (az.ro aa) (cO aG.one j)) Z U (s:=X j) U Z ?_)
 intro Z3 Z4 aA bG
 refine Ar Z (An Z (JS (sr (Mz Z (Kz (vJ (X l1)) (Mn Z (bo ?_)))))))
 have bI:=bG.sepNil.free (bW 65 3)
 have bJ:=bI.pf [2]
 obtain⟨bK,z⟩:=Jq λ A (B:Nat) d J (K:Nat) l c (b:Nat) w'=>Own w D w' [row A (X d) B (q1 aG.L d) 67 2,row J (X c) K (q1 aQ.L l) 65 3,sepL (q1 Kl l)]/\Zh aQ.abs l=c/\b<=X l1/\X d<=X j+b/\X c=b/\X c<=b/\lg l1 j []=lg (Ze b l1) d c
 refine Wp.loop (λ i:(Option Addr) × Nat × (List aG) × (Option Addr) × Nat × (List aQ) × (List dA) × Nat=> [(0, T i.1 (X i.2.2.1) i.2.1),(9, T i.2.2.2.1 (X i.2.2.2.2.2.2.1) i.2.2.2.2.1),(28,vJ i.2.2.2.2.2.2.2),(27,vJ (X l1)),(26, T S (X l1) c1),(6,vI 0),(5, T Zk 0 0),(4, T Zk 0 0)]) bK (λ i=>X l1 - i.2.2.2.2.2.2.2) (Z3,Z4,j,Zk,0, [], [],0) ⟨Z,Z,Z,Z,Z,Z,Z,Z,ZV⟩ (z.2 ⟨bJ,(show Zh aQ.abs []=[]/\0<=X l1/\X j<=X j/\0=0/\0<=0/\lg l1 j []=lg (Ze 0 l1) j [] from ⟨by exact Z,U,U,U,U,Z⟩)⟩) ?_
 rintro ⟨A,B,d,J,K,l,c,b⟩ _ aB
 obtain⟨C,o,_,_,_,_,M⟩:=z.1 aB
 have dh:=bf o
 refine sr (Kz (Za ((b:Int) < (X l1:Int))) (nt (JS ?_)))
 by_cases aC:(b:Int) < (X l1:Int)
 obtain⟨p,Z5⟩:=dM (ls:=l1) (i:=b) aV.len f7 (C.ro F) f5
 have aD:=drop_at Z5
 refine jT (dT aC) (sk (JS (bo (sr (fw (Zz (Zv ⟨ab S,ao S+b *6,Zk⟩)) (J9 (nH) Z Z ((C.ro F).addr (i:=b) U) U) (fw (Zq (Zb (aV.L p))) (J5 Z (J7 (cs:=(aV.L p)) Tryz.isAgg62 C0 ((C.ro F).elem aV.len Z5 f7))) (cB [vI 0, Z9 ⟨Zb []⟩, Z9 ⟨Zb []⟩, Z9 ⟨Zb []⟩, Z9 ⟨Zb []⟩,vI 0] 62 C ?_)))))))
 intro _ _ bL
 refine cu (aV.L p) 0 bL C0 ?_
 intro _ aF
 refine ns (Mz Z (La (aV.L p) aF 0 Tryz.isAgg62 C0 ?_))
 obtain⟨⟨L,a⟩,Z6⟩:∃ q:(List aG) × dA,xK d p=q:=⟨_,Z⟩
 obtain⟨_,aH,_,aI,_⟩:=Kt (aF.pf [1])
 refine cl Tryz.call24 (E8 _ _ A (X d) B d p L a aH Z U U Z6) ?_
 rintro _ _ ⟨aJ,aK,g,h,rfl,aL,P⟩
 have Z8:=aI _ _ aL
 have dn:=Z8.rowC (i:=0) Z
 have dw:=Z8.rowC (i:=1) Z
 replace P:=P
 refine Mz Z (Kz (T aJ (X L) aK) (Kz (Zq #[Y a.b, Z9 ⟨Zb a.k⟩, T g (X a.a.a) h]) (cB [Y O, Z9 ⟨Zb []⟩, T Zk 0 0] 65 Z8 ?_)))
 intro _ _ aM
 refine Az Z (cu [Y a.b, Z9 ⟨Zb a.k⟩, T g (X a.a.a) h] 0 aM L5 ?_)
 intro _ Q
 refine ns (Mz Z (An Z (JW (Mz Z (La ([Y a.b, Z9 ⟨Zb a.k⟩, T g (X a.a.a) h]) Q 0 L7 L5 (j6 [Y a.b, Z9 ⟨Zb a.k⟩, T g (X a.a.a) h] 65 3 1 Q ?_))))))
 intro aN _ E
 replace E:=Ku (y:=row aN 1 1 (q1 aQ.L ([(aQ.q a.b a.k (O4 g h a.a.a))])) 65 3) Z E
 have R:=E.pf [5,6,3]
 refine WL.do Z (Kk (k:=X c) (m:=1) (vD) R Z Z (eO Tryz.underlying45 (R.rds (i:=3) Z) (cO aQ.one ([(aQ.q a.b a.k (O4 g h a.a.a))]))) Z U (s:=X (c++ [a])) f6 (u3).symm ?_)
 intro aO aP aR aS
 have aU:=(aS.pf [1,2]).sepAdd (L2:= [row g (X a.a.a) h (q1 aG.L a.a.a) 67 2]) (u3 (f:=Kl) (xs:=l) (ys:= [(aQ.q a.b a.k (O4 g h a.a.a))])).symm
 have bO:X (c++ [a])=X c+1:=by simp only [List.length_append,List.length_cons,List.length_nil]
 have bP:=bf (iP (es:= [(aQ.q a.b a.k (O4 g h a.a.a))]) (ms:= [a]) o Z)
 refine Az Z (WL.nil (bN (JY (JW (fw (vJ (b+1)) (J4 (e:=IntKind.i64.wrap ((b:Int)+1)) yk f4) (Mz Z (WL.nil ?_)))))))
 have aW:=aU.pk [4,1,0]
 exact Kb (aJ,aK,L,aO,aP,(l++ [(aQ.q a.b a.k (O4 g h a.a.a))]),(c++ [a]),b+1) ⟨Z,Z,Z,Z,Z,Z,Z,Z,ZV⟩ (z.2 ⟨aW,by exact(iP (es:= [(aQ.q a.b a.k (O4 g h a.a.a))]) (ms:= [a]) o Z),U,U,U,U,V (M) (V (ZX (λ q=>lg q d c) aD) (ae Z6))⟩) (by show X l1 - (b+1) < X l1 - b; omega)
 refine jF (dF aC) (Wp.exit (Ka (Ka (Kh (JY (sr (Mz Z (Mz Z (Az Z (Az Z (An Z (rt (Ke (yN Z Z Z Z) ?_)))))))))))))
 obtain⟨rfl,rfl,rfl⟩:=nM (zj hr (show _=(d,c,0) from V (ae n) (V (ip t) (V (ae x) (V (ip I) (ae (V (M) (V (ZX (λ q=>lg q d c) (eU (ls:=l1) (i:=b) U)) Z))))))))
 exact⟨A,B,J,K,l,Z,(C.pf []),o,i3,i3⟩
 refine jT (dT I) (sr (Mz Z (Az Z (Az Z (An Z (rt (tR (Ke (yN Z Z Z Z) ?_))))))))
 have aZ:=(ay.free (bW 67 2)).sepNil
 have bg:=aZ.free (bW 65 3)
 have bi:=bg.pf [2]
 obtain⟨rfl,rfl,rfl⟩:=nM (zj hr (show _=(([]:List aG),([]:List dA),u) from V (ae n) (V (ip t) (V (ae x) (iN I)))))
 exact⟨Zk,0,Zk,0, [],Z,bi,Z,i3,i3⟩
 refine jT (dT t) (sr (Mz Z (Az Z (Az Z (An Z (rt (tR (Ke (yN Z Z Z Z) ?_))))))))
 have bq:=(aj.free (bW 67 2)).sepNil
 have bu:=bq.free (bW 65 3)
 have bv:=bu.pf [2]
 obtain⟨rfl,rfl,rfl⟩:=nM (zj hr (show _=(([]:List aG),([]:List dA),r) from V (ae n) (iN t)))
 exact⟨Zk,0,Zk,0, [],Z,bv,Z,i3,i3⟩
end
end Go.Proofs.YtnpdpklckacpnaaGreat
namespace Go.Proofs
set_option maxRecDepth 100000
set_option linter.unusedVariables false
set_option linter.unusedSimpArgs false
set_option linter.unusedSectionVars false
open _root_.Go renaming World->ZZ,Value->ZQ
open Value renaming bool->Y,slice->T,string->Z9,pointer->Zz,agg->Zq,nilFunc->Zx
open Bool renaming true->Zj,false->O
open Option renaming none->Zk,some->Zv
open Decidable renaming decide->Zw
open Inhabited renaming default->Zy
open List renaming length->X,toArray->Zb,drop->Ze,take->Zf,flatMap->Zg,map->Zh
open Int renaming toNat->Zc
open Bool renaming toNat->Zd
section
open Go.RowKit Go.Maps Go.Sort Go.Shelf
def LP:Go.Shelf.Ren:=⟨λ | 125=>171 | 128=>211 | 129=>212 | n=>n,λ | 46=>195 | 3=>3 | 51=>274 | 53=>33 | 4=>4 | 5=>5 | 9=>9 | n=>n,λ | n=>n⟩
theorem LZ:Go.Proofs.Lays.n125 Tryz.prog LP:= {
  mixed:=by kernel_rfl
  f125:=Tryz.func171.trans (ZX Zv (by kernel_rfl))
  f128:=Tryz.func211.trans (ZX Zv (by kernel_rfl))
  f129:=Tryz.func212.trans (ZX Zv (by kernel_rfl))
  t3:=Tryz.underlying3
  a3:=Tryz.isAgg3
  z3:=Tryz.sizeOf3
  v3:=Tryz.zeroValue3
  t4:=Tryz.underlying4
  a4:=Tryz.isAgg4
  z4:=Tryz.sizeOf4
  v4:=Tryz.zeroValue4
  t5:=Tryz.underlying5
  a5:=Tryz.isAgg5
  z5:=Tryz.sizeOf5
  v5:=Tryz.zeroValue5
  t9:=Tryz.underlying9
  a9:=Tryz.isAgg9
  z9:=Tryz.sizeOf9
  v9:=Tryz.zeroValue9
  t46:=Tryz.underlying195
  a46:=Tryz.isAgg195
  z46:=Tryz.sizeOf195
  v46:=Tryz.zeroValue195
  t51:=Tryz.underlying274
  a51:=Tryz.isAgg274
  z51:=Tryz.sizeOf274
  v51:=Tryz.zeroValue274
  t53:=Tryz.underlying33
  a53:=Tryz.isAgg33
  z53:=Tryz.sizeOf33
  v53:=Tryz.zeroValue33 }
end
end Go.Proofs
namespace Go.Proofs.YtnpdpklckacpnaaGreat
set_option maxRecDepth 100000
set_option linter.unusedVariables false
set_option linter.unusedSimpArgs false
set_option linter.unusedSectionVars false
open _root_.Go renaming World->ZZ,Value->ZQ
open Value renaming bool->Y,slice->T,string->Z9,pointer->Zz,agg->Zq,nilFunc->Zx
open Bool renaming true->Zj,false->O
open Option renaming none->Zk,some->Zv
open Decidable renaming decide->Zw
open Inhabited renaming default->Zy
open List renaming length->X,toArray->Zb,drop->Ze,take->Zf,flatMap->Zg,map->Zh
open Int renaming toNat->Zc
open Bool renaming toNat->Zd
section
open Go.RowKit Go.Maps Go.Sort Go.Shelf
theorem F5 (w D) (x:Nat) (H:Own w D w []) (hx:x<=18446744073709551615):
    Calls Tryz.prog 171 #[.int .u64 (x:Int)] w (dI λ v w'=>v= .int .i64 ((bitsLen x:Nat):Int)/\Own w D w' []):=by
  refine(Any.bits_Len LZ (x:Int) w U U).mono ?_
  rintro e w' ⟨rfl,rfl⟩
  refine⟨_,Z, ?_,H⟩
  rw [Int.toNat_natCast,bitLen_eq x U]
end
open Int renaming toNat->W
open IntKind renaming i64->D3
open List renaming flatMap->q1,length_replicate->O5,length_set->N0,set->M2
open _root_.Go.Proofs.Tryz renaming isAgg33->E0,prog->y3
section
open Go.RowKit
def jC (a:Nat):Bool:=
 O
theorem nV (w D a c) (H:Own w D w []) (hr:jC a=c):
    Calls y3 174 #[vU a] w (dI λ v w'=>v= Y c/\Own w D w' []):=by
 refine cb Tryz.func174 ?_
 refine sr (Ar Z (Mz Z (Mz Z (fw (Y O) (Kc (e:= !(Zw ((a:Int)=(a:Int)))) yk i2) (An Z (rt (rs ?_)))))))
 obtain rfl:_=O:=zj hr Z
 exact⟨Z,(H.pk [])⟩
def l9 (c:Nat) (d:Nat):Bool:=
 bnd (jC c) λ a=>if a=Zj then bnd (jC d) λ b=>if b=Zj then Zw (((c:Nat):Int) < ((d:Nat):Int)) else Zj else Zw (((c:Nat):Int) < ((d:Nat):Int))
theorem uf (w D e d u) (H:Own w D w []) (hr:l9 e d=u):
    Calls y3 124 #[vU e,vU d] w (dI λ v w'=>v= Y u/\Own w D w' []):=by
 unfold l9 at hr
 refine cb Tryz.func124 ?_
 refine sr (Ar Z (Mz Z ?_))
 obtain⟨h,c⟩:∃ q,jC e=q:=⟨_,Z⟩
 obtain⟨B,i,x,j,y⟩:=JZ H
 refine cl Tryz.call174 (nV _ _ e h i c) ?_
 rintro _ C ⟨rfl,k⟩
 have l:=j _ _ k
 refine Mz Z ?_
 rcases Nv (h) with a | a
 refine KC (v:=vU d) Z Z a Z (J3 Z) ?_
 obtain⟨g,f⟩:∃ q,jC d=q:=⟨_,Z⟩
 obtain⟨E,m,z,n,A⟩:=JZ l
 refine KU Z Z a Z (Ki Tryz.call174 Z (nV _ _ d g m f) ?_)
 rintro _ F ⟨rfl,o⟩
 have p:=n _ _ o
 refine Gz (Y (!g)) a (fw (Y (!g)) (JX Z a Z) (Mz Z ?_))
 rcases Nv (g) with b | b
 refine gw (vU e) (cn b) (J3 Z) (gw (vU d) (cn b) (J3 Z) (Gz (Za ((e:Int) < (d:Int))) (cn b) (fw (Za ((e:Int) < (d:Int))) (JU Z (cn b) Z) (An Z (rt (rs ?_))))))
 obtain rfl:=zj hr zq4
 exact⟨Z,(p.pk [])⟩
 refine Sz (cn b) (Sz (cn b) (Sz (cn b) (fw (Y Zj) (JX Z (cn b) Z) (An Z (rt (rs ?_))))))
 obtain rfl:=zj hr zq4
 exact⟨Z,(p.pk [])⟩
 refine Sz a (Sz a (Sz a (fw (Y O) (JU Z a Z) (Mz Z (gw (vU e) Z (J3 Z) (gw (vU d) Z (J3 Z) (Gz (Za ((e:Int) < (d:Int))) Z (fw (Za ((e:Int) < (d:Int))) (QK Z) (An Z (rt (rs ?_)))))))))))
 obtain rfl:=zj hr zq2
 exact⟨Z,(l.pk [])⟩
def fB (g:Int):Nat->Int->List Nat->(List Nat)
  | 0,a,b=>Zy
  | f+1,a,b=>if a > g then bnd (List.getD b (W a) Zy) λ c=>bnd (List.getD b (W (a - 1)) Zy) λ d=>bnd (l9 c d) λ e=>if e=Zj then fB g f (a - 1) (M2 (M2 b (W a) d) (W (a - 1)) c) else b else b
def fC (c:Int) (e:Int):Nat->Int->List Nat->(List Nat)
  | 0,a,b=>Zy
  | d+1,a,b=>if a < e then bnd (bnd (fB c ((W (a - c))+1) a b) λ sLrLstJjL=>sLrLstJjL) λ sJrLstJ=>fC c e d (a+1) sJrLstJ else b
def jm (c:List Nat) (a:Int) (b:Int):(List Nat):=
 bnd (fC a b ((W (b - (a+1)))+1) (a+1) c) λ sLrL=>sLrL
theorem p9 (w D f n0 r h d j r0) (H:Own w D w [row f n0 r (q1 (eN .u64) h) 33 1]) (ai:n0=X h) (aT:X h *8<=211106232532992) (aU:0<=d/\d<=j/\j<=((X h:Nat):Int)) (hr:jm h d j=r0):
    Calls y3 203 #[T f n0 r,vI d,vI j] w (dI λ v w'=>v= .tuple #[]/\Own w D w' [row f n0 r (q1 (eN .u64) r0) 33 1]/\(X r0=X h)):=by
 unfold jm at hr
 subst ai
 have aV:=H.rowC (i:=0) Z
 refine cb Tryz.func203 ?_
 refine sr (Mz Z (fw (vI (d+1)) (J4 (e:=D3.wrap (d+1)) yk i7) (An Z (bo ?_))))
 obtain⟨ak,u⟩:=yG λ (c:Int) m (x:Nat) w'=>Own w D w' [row f (X h) r (q1 (eN .u64) m) 33 1]/\X m=X h/\d+1<=c/\W (j - c) < x/\fC d j ((W (j - (d+1)))+1) (d+1) h=fC d j x c m
 refine Wp.loop (λ i:Int × (List Nat) × Nat=> [(6,vI i.1),(0, T f (X h) r),(1,vI d),(2,vI j)]) ak (λ i=>i.2.2) (d+1,h,(W (j - (d+1)))+1) ⟨Z,Z,Z,Z,ZV⟩ (u.2 ⟨(H.pf []),by first | omega | (simp only [N0] <;> omega) | (simp only [O5]),U,U,Z⟩) ?_
 rintro ⟨c,m,x⟩ _ Q
 obtain⟨R,_,_,_,J⟩:=u.1 Q
 obtain⟨L,S⟩:∃ q,x=q+1:=⟨x - 1,U⟩
 subst S
 refine JS (sr (Mz Z (Mz Z (Kz (Za (c < j)) (nt ?_)))))
 by_cases I:c < j
 refine jT (dT I) (sk (JS ?_))
 obtain⟨au,z⟩:=nI λ A w'=>Own w D w' [row f (X h) r (q1 (eN .u64) A) 33 1]/\X A=X h/\(bnd (fB d ((W (c - d))+1) c m) λ sLrLstJjL=>sLrLstJjL)=A
 refine K5 (λ i:(List Nat)=> [(6,vI c),(0, T f (X h) r),(1,vI d),(2,vI j)]) au ?_ ?_
 refine bo (sr (Mz Z (An Z (bo ?_))))
 obtain⟨ax,B⟩:=yG λ (a:Int) g (C:Nat) w'=>Own w D w' [row f (X h) r (q1 (eN .u64) g) 33 1]/\X g=X h/\(d<=a/\a < j)/\W (a - d) < C/\fB d ((W (c - d))+1) c m=fB d C a g
 refine Wp.loop (λ i:Int × (List Nat) × Nat=> [(7,vI i.1),(6,vI c),(0, T f (X h) r),(1,vI d),(2,vI j)]) ax (λ i=>i.2.2) (c,m,(W (c - d))+1) ⟨Z,Z,Z,Z,Z,ZV⟩ (B.2 ⟨(R.pf []),by first | omega | (simp only [N0] <;> omega) | (simp only [O5]),U,U,Z⟩) ?_
 rintro ⟨a,g,C⟩ _ Z7
 obtain⟨ay,_,_,_,E⟩:=B.1 Z7
 obtain⟨M,Z3⟩:∃ q,C=q+1:=⟨C - 1,U⟩
 subst Z3
 refine JS (JS (DI [] (J6 (J6 (J6 (bJ.block (bJ.block (J6 (J6 (bJ.block Kg)))))))) ay ?_))
 intro _ Z4
 refine qv 0 Z Z (qv 1 Z Z (qk (Za (a > d)) 2 Z (qv 3 Z Z ?_)))
 by_cases b:a > d
 refine J2 (v:= T f (X h) r) (rs:= []) 4 Z Z Z (dT b) f1 (λ _ _=>J3 Z) (J2 (v:=vJ (W a)) (rs:= []) 5 Z Z Z (dT b) f1 (λ _ _=>J4 (e:=a) (J3 Z) U) ?_)
 obtain⟨s,l⟩:=mK (ls:=g) (i:=W a) f5
 refine J2 (v:= Zz (Zv ⟨ab f,ao f+(W a) *1,Zk⟩)) (rs:= []) 6 Z Z Z (dT b) f1 (λ _ ⟨_,p⟩=>J9 (jk) Z Z ((p.rds (i:=0) Z).addr (i:=W a) U) U) (J2 (v:=vU s) (rs:= []) 7 Z Z Z (dT b) f1 (λ _ ⟨_,p⟩=>J5 Z (bO.one E0 (((p.rds (i:=0) Z).elem iQ l f7).at_ (k:=0) Z))) (J2 (v:= T f (X h) r) (rs:= []) 8 Z Z Z (dT b) f1 (λ _ _=>J3 Z) (J2 (v:=vI a) (rs:= []) 9 Z Z Z (dT b) f1 (λ _ _=>J3 Z) (J2 (v:=vJ (W (a - 1))) (rs:= []) 10 Z Z Z (dT b) f1 (λ _ _=>J4 (e:=D3.wrap (a - 1)) yk f4) ?_))))
 obtain⟨n,t⟩:=mK (ls:=g) (i:=W (a - 1)) f5
 refine J2 (v:= Zz (Zv ⟨ab f,ao f+(W (a - 1)) *1,Zk⟩)) (rs:= []) 11 Z Z Z (dT b) f1 (λ _ ⟨_,p⟩=>J9 (jk) Z Z ((p.rds (i:=0) Z).addr (i:=W (a - 1)) U) U) (J2 (v:=vU n) (rs:= []) 12 Z Z Z (dT b) f1 (λ _ ⟨_,p⟩=>J5 Z (bO.one E0 (((p.rds (i:=0) Z).elem iQ t f7).at_ (k:=0) Z))) ?_)
 obtain⟨Z5,F⟩:∃ q,l9 s n=q:=⟨_,Z⟩
 obtain⟨_,Z8,_,Z1,_⟩:=JZ Z4
 refine KG 13 Z Z Z (dT b) f1 (Ki Tryz.call124 Z (uf _ _ s n Z5 Z8 F) ?_)
 rintro _ _ ⟨rfl,Z2⟩
 have Z6:=Z1 _ _ Z2
 refine⟨.inr ⟨_,Z6⟩, (qt (v:= Y Z5) 14 Z (λ _ _=>JX Z (dT b) Z) (qn (JY ?_)))⟩
 rcases Nv (Z5) with G | G
 refine jT G (sk (JS (bo (DI [15,17] (bJ.block (J6 (J6 (bJ.block (bJ.block (J6 (J6 (bJ.block Kg)))))))) Z6 ?_))))
 intro _ az
 refine qv 0 Z Z (qt (v:=vJ (W a)) 1 Z (λ _ _=>J4 (e:=a) (J3 Z) U) (Kr (v:= T f (X h) r) 2 Z f1 (λ _=>J3 Z) (Kr (v:=vI a) 3 Z f1 (λ _=>J3 Z) (Kr (v:=vJ (W (a - 1))) 4 Z f1 (λ _=>J4 (e:=D3.wrap (a - 1)) yk f4) (qv 5 Z Z (qv 6 Z Z (qt (v:=vJ (W (a - 1))) 7 Z (λ _ _=>J4 (e:=D3.wrap (a - 1)) yk f4) (qt (v:= Zz (Zv ⟨ab f,ao f+(W (a - 1)) *1,Zk⟩)) 8 Z (λ _ ⟨_,p⟩=>J9 (jk) Z Z ((p.rds (i:=0) Z).addr (i:=W (a - 1)) U) U) (qt (v:=vU n) 9 Z (λ _ ⟨_,p⟩=>J5 Z (bO.one E0 (((p.rds (i:=0) Z).elem iQ t f7).at_ (k:=0) Z))) (qv 10 Z Z (qt (v:=vJ (W a)) 11 Z (λ _ _=>J4 (e:=a) (J3 Z) U) (qt (v:= Zz (Zv ⟨ab f,ao f+(W a) *1,Zk⟩)) 12 Z (λ _ ⟨_,p⟩=>J9 (jk) Z Z ((p.rds (i:=0) Z).addr (i:=W a) U) U) (qt (v:=vU s) 13 Z (λ _ ⟨_,p⟩=>J5 Z (bO.one E0 (((p.rds (i:=0) Z).elem iQ l f7).at_ (k:=0) Z))) (qt (v:= Zz (Zv ⟨ab f,ao f+(W a) *1,Zk⟩)) 14 Z (λ _ ⟨_,p⟩=>J9 (jk) Z Z ((p.rds (i:=0) Z).addr (i:=W a) U) U) (qe 15 Z (Do.storeRow (vs:= [vU n]) (o:=(W a) *1+0) (q:=ao f+(W a) *1) az Z U Z Tryz.sizeOf33 Z Z (Nr Z) (j3 iQ l (Nr Z)) (kV (y:=n) iQ Z (Nr Z) l) ?_))))))))))))))))
 intro _ P
 refine⟨.inl f1, ?_⟩
 obtain⟨_,_⟩:=mK (ls:=g) (i:=W (a - 1)) f5
 obtain⟨_,_⟩:=dM (ls:=(M2 g (W a) n)) (i:=W (a - 1)) iQ f7 (P.rds (i:=0) Z) f5
 refine Kr (v:= Zz (Zv ⟨ab f,ao f+(W (a - 1)) *1,Zk⟩)) 16 Z f1 (λ _=>J9 (jk) Z Z ((P.rds (i:=0) Z).addr (i:=W (a - 1)) U) U) ?_
 obtain⟨_,K⟩:=mK (ls:=(M2 g (W a) n)) (i:=W (a - 1)) f5
 refine qe 17 Z (Do.storeRow (vs:= [vU s]) (o:=(W (a - 1)) *1+0) (q:=ao f+(W (a - 1)) *1) P Z U Z Tryz.sizeOf33 Z Z (Nr Z) (j3 iQ K (Nr Z)) (kV (y:=s) iQ Z (Nr Z) K) ?_)
 intro _ aA
 exact⟨.inl f1, (qn (bN (JY (JW (Mz Z (fw (vI (a - 1)) (J4 (e:=D3.wrap (a - 1)) yk i7) (Az Z (WL.nil (Kb (a - 1,(M2 (M2 g (W a) n) (W (a - 1)) s),M) ⟨Z,Z,Z,Z,Z,ZV⟩ (B.2 ⟨(aA.pf []),by first | omega | (simp only [N0] <;> omega) | (simp only [O5]),U,U,Eq.trans (E) (Eq.trans (ZJ b) (Eq.trans (ae (bG l)) (Eq.trans (ae (bG t)) (Eq.trans (ae F) (ZJ G)))))⟩) (by show M < M+1; omega))))))))))⟩
 exact jF G (Wp.exit (Ka (Ka (Kh (bN (KM g ⟨Z,Z,Z,Z,ZV⟩ (z.2 ⟨(Z6.pf []),by first | omega | (simp only [N0] <;> omega) | (simp only [O5]),ae (Eq.trans (E) (Eq.trans (ZJ b) (Eq.trans (ae (bG l)) (Eq.trans (ae (bG t)) (Eq.trans (ae F) (eD G))))))⟩)))))))
 exact JV (rs:= []) 4 Z Z Z (dF b) f1 (JV (rs:= []) 5 Z Z Z (dF b) f1 (JV (rs:= []) 6 Z Z Z (dF b) f1 (JV (rs:= []) 7 Z Z Z (dF b) f1 (JV (rs:= []) 8 Z Z Z (dF b) f1 (JV (rs:= []) 9 Z Z Z (dF b) f1 (JV (rs:= []) 10 Z Z Z (dF b) f1 (JV (rs:= []) 11 Z Z Z (dF b) f1 (JV (rs:= []) 12 Z Z Z (dF b) f1 (JV (rs:= []) 13 Z Z Z (dF b) f1 (qt (v:= Y O) 14 Z (λ _ _=>JU Z (dF b) Z) (qn (JY (jf (Wp.exit (Ka (Ka (Kh (bN (KM g ⟨Z,Z,Z,Z,ZV⟩ (z.2 ⟨(Z4.pf []),by first | omega | (simp only [N0] <;> omega) | (simp only [O5]),ae (Eq.trans (E) (ZK b))⟩))))))))))))))))))))
 rintro A _ Z0
 obtain⟨aF,_,aa⟩:=z.1 Z0
 exact JW (Mz Z (fw (vI (c+1)) (J4 (e:=D3.wrap (c+1)) yk i7) (Az Z (WL.nil (Kb (c+1,A,L) ⟨Z,Z,Z,Z,ZV⟩ (u.2 ⟨(aF.pf []),by first | omega | (simp only [N0] <;> omega) | (simp only [O5]),U,U,Eq.trans (J) (Eq.trans (ZJ I) (ae aa))⟩) (by show L < L+1; omega))))))
 refine jF (dF I) (Wp.exit (Ka ?_))
 have af:=V (J) (iN I)
 refine Ka (Kh (KD (res0 Z) ?_))
 obtain rfl:=zj hr zq1
 exact⟨Z,(R.pf []),i9⟩
def j5 (b:List Nat) (c:Int) (d:Int) (e:Int):(List Nat):=
 bnd (jm b c d) λ a=>a
theorem rX (w D n o p c a b u r) (H:Own w D w [row n o p (q1 (eN .u64) c) 33 1]) (s:o=X c) (A:X c *8<=211106232532992) (B:0<=a/\a<=b/\b<=((X c:Nat):Int)) (C:b - a<=12) (hr:j5 c a b u=r):
    Calls y3 170 #[T n o p,vI a,vI b,vI u] w (dI λ v w'=>v= .tuple #[]/\Own w D w' [row n o p (q1 (eN .u64) r) 33 1]/\(X r=X c)):=by
 unfold j5 at hr
 subst s
 have E:=H.rowC (i:=0) Z
 refine cb Tryz.func170 ?_
 refine sr (Ar Z (An Z (bo (Lf 200 (bo (sr (Mz Z (Mz Z (fw (vI (b - a)) (J4 (e:=D3.wrap (b - a)) yk i7) (An Z (JS (sr (Mz Z (Kz (Za (b - a<=12)) (nt ?_)))))))))))))))
 have h:(Zw (b - a<=12))=Zj:=(dT U)
 refine jT h (sr (Mz Z (Mz Z (Mz Z ?_))))
 obtain⟨g,d⟩:∃ q,jm c a b=q:=⟨_,Z⟩
 obtain⟨F,j,x,k,y⟩:=Kt H
 refine cl Tryz.call203 (p9 _ _ n (X c) p c a b g j Z U U d) ?_
 rintro _ G ⟨rfl,l,f⟩
 have m:=k _ _ l
 have z:=m.rowC (i:=0) Z
 replace f:=f
 refine nt (rt (tR (bR (tR (bR (Ke (res0 Z) ?_))))))
 obtain rfl:=zj hr zq1
 exact⟨Z,(m.pf []),i9⟩
def iC (b:List Nat):(List Nat):=
 bnd (j5 b 0 ((X b:Nat):Int) ((Go.Sort.bitsLen (X b):Nat):Int)) λ a=>a
theorem oO (w D n o p a r) (H:Own w D w [row n o p (q1 (eN .u64) a) 33 1]) (s:o=X a) (C:X a *8<=211106232532992) (E:X a<=12) (hr:iC a=r):
    Calls y3 121 #[T n o p] w (dI λ v w'=>v= .tuple #[]/\Own w D w' [row n o p (q1 (eN .u64) r) 33 1]/\(X r=X a)):=by
 unfold iC at hr
 subst s
 have F:=H.rowC (i:=0) Z
 refine cb Tryz.func121 ?_
 refine sr (Mz Z (Kz (vJ (X a)) (An Z (JW (Mz Z (Mz Z (Mz Z (fw (vU (X a)) (J4 (e:=IntKind.u64.wrap (X a:Int)) yk (IntWalk.u64_in _ U)) ?_))))))))
 obtain⟨G,f,x,g,y⟩:=JZ H
 refine cl Tryz.call171 (F5 _ _ (X a) f U) ?_
 rintro _ I ⟨rfl,h⟩
 obtain⟨d,b⟩:∃ q,j5 a 0 (X a:Int) ((Go.Sort.bitsLen (X a):Nat):Int)=q:=⟨_,Z⟩
 obtain⟨J,j,z,k,A⟩:=Kt (g _ _ h)
 refine cl Tryz.call170 (rX _ _ n (X a) p a 0 (X a:Int) ((Go.Sort.bitsLen (X a):Nat):Int) d j Z U U U b) ?_
 rintro _ K ⟨rfl,l,c⟩
 have m:=k _ _ l
 have B:=m.rowC (i:=0) Z
 replace c:=c
 refine WL.nil (KD (res0 Z) ?_)
 obtain rfl:=zj hr zq1
 exact⟨Z,(m.pf []),i9⟩
end
open List renaming drop->r8,getD->J0,map->s0,mem_cons->v1,mem_of_getElem?->G4,not_mem_nil->y2
open Sum renaming inl->G0,inr->G1
open _root_.Go.Proofs.Tryz renaming isAgg109->O8,isAgg115->O9,isAgg159->O6,isAgg38->C6,isAgg4->H2,isAgg98->P1,sizeOf115->P0,sizeOf159->O7,sizeOf189->P2,sizeOf38->C5
open WL renaming nil->G2
open Wp renaming exit->H0,loop->G3
section
open Go.RowKit
structure aH where q::
 a:Nat
 b:Sv aL
 j:Bool
 g:aL
def aH.L (x:aH):List ZQ:= [.int .u64 ((x.a:Nat):Int), T x.b.A (X x.b.a) x.b.c, Y x.j, Z9 ⟨Zb x.g.j.a⟩, Z9 ⟨Zb x.g.j.b⟩, Y x.g.a]
instance:Bk aH:=⟨λ x _=>bk x.a+(bk x.b+(bk x.j+(bk x.g+(0))))⟩
theorem aH.len:∀ x,X (aH.L x)=6:=λ _=>rfl
theorem aH.one:∀ x, ∀ u ∈ aH.L x,u.oneCell'=Zj:=λ x u hu=>by
 simp only [aH.L,v1,y2,or_false] at hu
 rcases hu with rfl | rfl | rfl | rfl | rfl | rfl <;> rfl
def MS (w:ZZ) (x:aH):Prop:=(x.a<=18446744073709551615)/\(nK w 3 40 aL.L (LF w) x.b)/\(True)/\(LF w x.g)
instance:Inhabited aH:=⟨⟨Zy,Zy,Zy,Zy⟩⟩
structure aS where q::
 a:Nat
 b:Ll aL
 j:Bool
 g:aL
instance:Inhabited aS:=⟨⟨Zy,Zy,Zy,Zy⟩⟩
def aH.abs (x:aH):aS:=⟨x.a,⟨x.b.a⟩,x.j,x.g⟩
def Kj (x:aH):List HP:= [row x.b.A (X x.b.a) x.b.c (q1 aL.L x.b.a) 115 3]
def Hd (l:List aS):Prop:=∀ r ∈ l,X r.b.a<=1000000
def fo (c:Nat) (d:Nat):Int:=
 bnd (jC c) λ b=>bnd (jC d) λ a=>if b=Zj then if a=Zj then 0 else(-1) else if a=Zj then 1 else if((c:Nat):Int) < ((d:Nat):Int) then(-1) else if((c:Nat):Int) > ((d:Nat):Int) then 1 else 0
theorem mX (w D i j C) (H:Own w D w []) (hr:fo i j=C):
    Calls y3 128 #[vU i,vU j] w (dI λ v w'=>v=vI C/\Own w D w' []):=by
 unfold fo at hr
 refine cb Tryz.func128 ?_
 refine sr (Ar Z (Mz Z ?_))
 obtain⟨l,a⟩:∃ q,jC i=q:=⟨_,Z⟩
 obtain⟨J,m,E,n,F⟩:=JZ H
 refine cl Tryz.call174 (nV _ _ i l m a) ?_
 rintro _ K ⟨rfl,o⟩
 have t:=n _ _ o
 refine Ar Z (Mz Z ?_)
 obtain⟨k,b⟩:∃ q,jC j=q:=⟨_,Z⟩
 obtain⟨L,p,G,r,I⟩:=JZ t
 refine cl Tryz.call174 (nV _ _ j k p b) ?_
 rintro _ M ⟨rfl,s⟩
 have e:=r _ _ s
 refine An Z (JS (sr (Mn Z ?_)))
 rcases Nv (l) with c | c
 refine jT c (JS (sr (Mn Z ?_)))
 rcases Nv (k) with f | f
 refine jT f (sr (An Z (rt (tR (tR (rs ?_))))))
 have u:=e.pk []
 obtain rfl:=zj hr zq4
 exact⟨Z,u⟩
 refine jF f (sk (sr (An Z (rt (tR (rs ?_))))))
 have x:=e.pk []
 obtain rfl:=zj hr zq4
 exact⟨Z,x⟩
 refine jF c (sk (JS (sr (Mn Z ?_))))
 rcases Nv (k) with d | d
 refine jT d (sr (An Z (rt (tR (rs ?_)))))
 have y:=e.pk []
 obtain rfl:=zj hr zq4
 exact⟨Z,y⟩
 refine jF d (sk (JS (sr (Mz Z (Mz Z (Kz (Za ((i:Int) < (j:Int))) (nt ?_)))))))
 by_cases g:(i:Int) < (j:Int)
 refine jT (dT g) (sr (An Z (rt (tR (rs ?_)))))
 have z:=e.pk []
 obtain rfl:=zj hr zq5
 exact⟨Z,z⟩
 refine jF (dF g) (sk (JS (sr (Mz Z (Mz Z (Kz (Za ((i:Int) > (j:Int))) (nt ?_)))))))
 by_cases h:(i:Int) > (j:Int)
 refine jT (dT h) (sr (An Z (rt (tR (rs ?_)))))
 have A:=e.pk []
 obtain rfl:=zj hr zq6
 exact⟨Z,A⟩
 refine jF (dF h) (sk (sr (An Z (rt (rs ?_)))))
 have B:=e.pk []
 obtain rfl:=zj hr zq6
 exact⟨Z,B⟩
theorem jQ:Elem y3 109 159 6 80:=mV (z:= Zq #[.int .u64 0, T Zk 0 0, Y O, Z9 ⟨Zb []⟩, Z9 ⟨Zb []⟩, Y O]) Tryz.underlying109 f1 Z f7
structure nQ where q::
 a:Sv aH
def nQ.L (x:nQ):List ZQ:= [T x.a.A (X x.a.a) x.a.c]
instance:Bk nQ:=⟨λ x _=>bk x.a+(0)⟩
theorem nQ.len:∀ x,X (nQ.L x)=1:=λ _=>rfl
theorem nQ.one:∀ x, ∀ u ∈ nQ.L x,u.oneCell'=Zj:=λ x u hu=>by
 simp only [nQ.L,v1,y2,or_false] at hu
 rcases hu with rfl <;> rfl
def Ng (w:ZZ) (x:nQ):Prop:=(nK w 6 80 aH.L (MS w) x.a)
instance:Inhabited nQ:=⟨⟨Zy⟩⟩
structure bn where q::
 a:Ll aS
instance:Inhabited bn:=⟨⟨Zy⟩⟩
def nQ.abs (x:nQ):bn:=⟨⟨s0 aH.abs x.a.a⟩⟩
def M5 (x:nQ):List HP:= [row x.a.A (X x.a.a) x.a.c (q1 aH.L x.a.a) 159 6,sepL (q1 Kj x.a.a)]
def dR (f:List aS) (g:Nat):Nat->Nat->Nat->Nat
  | 0,a,b=>Zy
  | c+1,a,b=>if((a:Nat):Int) < ((b:Nat):Int) then bnd (J0 f ((a+b) / 2) Zy) λ d=>bnd (fo d.a g) λ e=>if e < 0 then dR f g c (((a+b) / 2)+1) b else dR f g c a ((a+b) / 2) else a
def iD (a:List aS) (d:Nat):Int × Bool:=
 bnd (dR a d ((X a - 0)+1) 0 (X a)) λ sLrL=>if((sLrL:Nat):Int) < ((X a:Nat):Int) then bnd (J0 a sLrL Zy) λ b=>bnd (fo b.a d) λ c=>(((sLrL:Nat):Int),Zw (c=0)) else(((sLrL:Nat):Int),O)
theorem mU (w D z Z0 Z2 d0 f o K r1) (H:Own w D w []) (I:s0 aH.abs d0=f) (j:Ro w D λ w'=>bV w' 6 z Z0 (q1 aH.L d0)) (L:∀ x ∈ d0,Ro w D (λ w'=>bV w' 3 x.b.A (X x.b.a) (q1 aL.L x.b.a))/\(X x.b.a<=x.b.c/\X x.b.a<=9223372036854775807)) (af:Z0=X f) (aM:X f *80<=211106232532992) (hr:iD f o=(K,r1)):
    Calls y3 165 #[T z Z0 Z2,vU o, .func (.func 166) #[] #[]] w (dI λ v w'=>v= .tuple #[vI K, Y r1]/\Own w D w' []/\(0<=K/\K<=((X f:Nat):Int))/\(Zd r1=0\/K < ((X f:Nat):Int))):=by
 unfold iD at hr
 subst af
 have az:=bf I
 refine cb Tryz.func165 ?_
 refine sr (Az Z (Ar Z (Mz Z (Kz (vJ (X f)) (Ar Z (Mz Z (Az Z (An Z (JS (bo ?_))))))))))
 have ag:=H.pk []
 obtain⟨ah,h⟩:=yG λ (a:Nat) (b:Nat) (p:Nat) w'=>Own w D w' []/\a<=b/\b<=X f/\b - a < p/\dR f o ((X f - 0)+1) 0 (X f)=dR f o p a b
 refine G3 (λ i:Nat × Nat × Nat=> [(9,vJ i.1),(10,vJ i.2.1),(8,vJ (X f)),(7, Y O),(6,vI 0),(0, T z (X f) Z2),(1,vU o),(2, .func (.func 166) #[] #[])]) ah (λ i=>i.2.2) (0,X f,(X f - 0)+1) ⟨Z,Z,Z,Z,Z,Z,Z,Z,ZV⟩ (h.2 ⟨ag,U,U,U,Z⟩) ?_
 rintro ⟨a,b,p⟩ aN M
 show Wp _ _ _ [(9,vJ a),(10,vJ b),(8,vJ (X f)),(7, Y O),(6,vI 0),(0, T z (X f) Z2),(1,vU o),(2, .func (.func 166) #[] #[])] _ _
 obtain⟨g,aA,aB,aC,r⟩:=h.1 M
 obtain⟨l,Z5⟩:∃ q,p=q+1:=⟨p - 1,U⟩
 subst Z5
 refine JS (sr (Mz Z (Mz Z (Kz (Za ((a:Int) < (b:Int))) (nt ?_)))))
 by_cases s:(a:Int) < (b:Int)
 refine jT (dT s) (sk (bo (sr (Mz Z (Mz Z (fw (vJ (a+b)) (J4 (e:=D3.wrap ((a:Int)+(b:Int))) yk f4) (fw (vU (a+b)) (J4 (e:=IntKind.u64.wrap ((a+b:Nat):Int)) yk (IntWalk.u64_in _ U)) (fw (vU ((a+b) / 2)) (J4 (e:=Int.fdiv ((a+b:Nat):Int) 2) yk (vQ _ 1 _ f7)) (fw (vJ ((a+b) / 2)) (J4 (e:=D3.wrap (((a+b) / 2:Nat):Int)) yk (Ns _ U)) (Ar Z (Mz Z (Mz Z (Mz Z ?_)))))))))))))
 obtain⟨m,t⟩:=dM (ls:=d0) (i:=(a+b) / 2) aH.len f7 (g.ro j) f5
 have E:=ik I t
 have aD:=(L _ (G4 t)).2
 refine fw (Zz (Zv ⟨ab z,ao z+((a+b) / 2) *6,Zk⟩)) (J9 (jQ) Z Z ((g.ro j).addr (i:=(a+b) / 2) U) U) (fw (Zq (Zb (aH.L m))) (J5 Z (J7 (cs:=(aH.L m)) O6 O7 ((g.ro j).elem aH.len t f7))) (Mz Z ?_))
 refine WL.do Z (KA Tryz.call166 Z Z ?_ (λ _ _ k=>k))
 refine cb Tryz.func166 ?_
 refine sr ?_
 refine cB (aH.L m) 159 g ?_
 intro ai aO Z6
 refine Ar Z (Kz (vP ai 0) (Lz (vU m.a) Z6 0 E0 (Mz Z ?_)))
 obtain⟨J,u⟩:∃ q,fo m.a o=q:=⟨_,Z⟩
 obtain⟨aP,P,aF,Q,aG⟩:=JZ Z6
 refine cl Tryz.call128 (mX _ _ m.a o J P u) ?_
 rintro _ aQ ⟨rfl,R⟩
 have S:=Q _ _ R
 refine An Z (rt (rs (Kz (Za (J < 0)) (nt ?_))))
 by_cases B:J < 0
 refine jT (dT B) (JW (Mz Z (fw (vI ((((a+b) / 2)+1:Nat):Int)) (J4 (e:=D3.wrap ((((a+b) / 2:Nat):Int)+1)) yk f4) (Az Z (G2 (bN ?_))))))
 have aj:=S.pk []
 exact Kb (((a+b) / 2)+1,b,l) ⟨Z,Z,Z,Z,Z,Z,Z,Z,ZV⟩ (h.2 ⟨aj,U,U,U,V (r) (V (ip s) (V (ae (bG E)) (V (ae u) (ip B))))⟩) (by show l < l+1; omega)
 refine jF (dF B) (JW (Mz Z (Az Z (G2 (bN ?_)))))
 have ak:=S.pk []
 exact Kb (a,(a+b) / 2,l) ⟨Z,Z,Z,Z,Z,Z,Z,Z,ZV⟩ (h.2 ⟨ak,U,U,U,V (r) (V (ip s) (V (ae (bG E)) (V (ae u) (iN B))))⟩) (by show l < l+1; omega)
 refine jF (dF s) (H0 (Ka ?_))
 have F:dR f o ((X f - 0)+1) 0 (X f)=a:=V (r) (iN s)
 refine Ka (Kh (JY (sr (Mz Z (Mz Z (Mz Z (Kz (Za ((a:Int) < (X f:Int))) (Mz Z ?_))))))))
 by_cases d:(a:Int) < (X f:Int)
 refine gw (.func (.func 166) #[] #[]) (dT d) (J3 Z) (gw (T z (X f) Z2) (dT d) (J3 Z) (gw (vJ a) (dT d) (J3 Z) ?_))
 obtain⟨n,y⟩:=dM (ls:=d0) (i:=a) aH.len f7 (g.ro j) f5
 have Z7:=ik I y
 have aI:=(L _ (G4 y)).2
 refine gw (Zz (Zv ⟨ab z,ao z+a *6,Zk⟩)) (dT d) (J9 (jQ) Z Z ((g.ro j).addr (i:=a) U) U) (gw (Zq (Zb (aH.L n))) (dT d) (J5 Z (J7 (cs:=(aH.L n)) O6 O7 ((g.ro j).elem aH.len y f7))) (gw (vU o) (dT d) (J3 Z) ?_))
 refine KU Z Z (dT d) Z (KA Tryz.call166 Z Z ?_ (λ _ _ k=>k))
 refine cb Tryz.func166 ?_
 refine sr ?_
 refine cB (aH.L n) 159 g ?_
 intro au aR Z3
 refine Ar Z (Kz (vP au 0) (Lz (vU n.a) Z3 0 E0 (Mz Z ?_)))
 obtain⟨C,G⟩:∃ q,fo n.a o=q:=⟨_,Z⟩
 obtain⟨aT,Z4,aJ,Z8,aK⟩:=JZ Z3
 refine cl Tryz.call128 (mX _ _ n.a o C Z4 G) ?_
 rintro _ aU ⟨rfl,Z1⟩
 have av:=Z8 _ _ Z1
 refine An Z (rt (rs (Gz (Za (C=0)) (dT d) (fw (Za (C=0)) (JX Z (dT d) Z) (Az Z (An Z (rt (Ke (lw Z Z Z) ?_))))))))
 have ax:=av.pk []
 obtain⟨rfl,rfl⟩:=fI (zj hr (show _=(((a:Nat):Int),decide (C=0)) from V (ae F) (V (ip d) (V (ae (bG Z7)) (ae G)))))
 exact⟨Z,ax,U,i4⟩
 refine Sz (dF d) (Sz (dF d) (Sz (dF d) (Sz (dF d) (Sz (dF d) (Sz (dF d) (Sz (dF d) (Sz (dF d) (fw (Y O) (JU Z (dF d) Z) (Az Z (An Z (rt (Ke (lw Z Z Z) ?_))))))))))))
 have ay:=g.pk []
 obtain⟨rfl,rfl⟩:=fI (zj hr zq2)
 exact⟨Z,ay,U,i4⟩
def fD (b:bn) (c:Nat):Int × Bool:=
 bnd (iD b.a.a c) λ a=>(a.1,a.2)
theorem mD (w D o) (d:bn) (a b e u p z) (H:Own w D w [blk o [T a (X d.a.a) b] 111]) (g:s0 aH.abs e=d.a.a) (n:Ro w D λ w'=>bV w' 6 a (X d.a.a) (q1 aH.L e)) (B:X d.a.a<=b/\X d.a.a<=9223372036854775807) (h:∀ x ∈ e,Ro w D (λ w'=>bV w' 3 x.b.A (X x.b.a) (q1 aL.L x.b.a))/\(X x.b.a<=x.b.c/\X x.b.a<=9223372036854775807)) (J:X d.a.a<=1000000) (hr:fD d u=(p,z)):
    Calls y3 113 #[vP o 0,vU u] w (dI λ v w'=>v= .tuple #[vI p, Y z]/\Own w D w' [blk o [T a (X d.a.a) b] 111]/\(0<=p/\p<=((X d.a.a:Nat):Int))/\(Zd z=0\/p < ((X d.a.a:Nat):Int))):=by
 unfold fD at hr
 have y:=bf g
 refine cb Tryz.func113 ?_
 refine sr (Az Z (Ar Z (Mz Z (Kz (vP o 0) (Kz (vP o 0) (Lz (T a (X d.a.a) b) H 0 O8 (Mz Z ?_)))))))
 obtain⟨⟨f,i⟩,j⟩:∃ q:Int × Bool,iD d.a.a u=q:=⟨_,Z⟩
 obtain⟨K,r,k,s,F⟩:=JZ H
 refine cl Tryz.call165 (mU _ _ a (X d.a.a) b e d.a.a u f i r g (k _ n) (λ G I=>⟨k _ (h G I).1,(h G I).2⟩) Z U j) ?_
 rintro _ L ⟨rfl,t,l,m⟩
 have C:=s _ _ t
 replace l:0<=f/\f<=(X d.a.a:Int):=l
 replace m:Zd i=0\/f < (X d.a.a:Int):=m
 refine Kz (vI f) (Kz (Y i) (Az Z (An Z (rt (Ke (lw Z Z Z) ?_)))))
 have E:=C.pf []
 obtain⟨rfl,rfl⟩:=fI (zj hr zq1)
 exact⟨Z,E,U,i4⟩
def gU (c:bn) (d:Nat):Bool:=
 bnd (fD c d) λ a=>if a.2=Zj then bnd (J0 c.a.a (W a.1) Zy) λ b=>b.j else O
theorem vH (w D y) (j:bn) (b f h G M) (H:Own w D w [blk y [T b (X j.a.a) f] 111]) (l:s0 aH.abs h=j.a.a) (g:Ro w D λ w'=>bV w' 6 b (X j.a.a) (q1 aH.L h)) (J:X j.a.a<=f/\X j.a.a<=9223372036854775807) (m:∀ x ∈ h,Ro w D (λ w'=>bV w' 3 x.b.A (X x.b.a) (q1 aL.L x.b.a))/\(X x.b.a<=x.b.c/\X x.b.a<=9223372036854775807)) (R:X j.a.a<=1000000) (hr:gU j G=M):
    Calls y3 67 #[vP y 0,vU G] w (dI λ v w'=>v= Y M/\Own w D w' [blk y [T b (X j.a.a) f] 111]):=by
 unfold gU at hr
 have I:=bf l
 refine cb Tryz.func67 ?_
 refine sr (Ar Z (Mz Z (Mz Z ?_)))
 obtain⟨⟨d,n⟩,p⟩:∃ q:Int × Bool,fD j G=q:=⟨_,Z⟩
 obtain⟨S,B,s,C,Z5⟩:=Kt H
 refine cl Tryz.call113 (mD _ _ y j b f h G d n B l (s _ g) U (λ Z6 P=>⟨s _ (m Z6 P).1,(m Z6 P).2⟩) g4 p) ?_
 rintro _ Z7 ⟨rfl,E,t,u⟩
 have o:=C _ _ E
 replace t:0<=d/\d<=(X j.a.a:Int):=t
 replace u:Zd n=0\/d < (X j.a.a:Int):=u
 refine Mz Z (Kz (vI d) (Kz (Y n) (Az Z (Ar Z (Mz Z (Mz Z ?_))))))
 rcases Nv (n) with a | a
 have h34t:Zd n=1:=by rw [a]; rfl
 refine KC (v:=vP y 0) Z Z a Z (J3 Z) (Gz (vP y 0) a (Gz (vP y 0) a (Gl (T b (X j.a.a) f) a o 0 O8 (KC (v:=vJ (W d)) Z Z a Z (J4 (e:=d) (J3 Z) U) ?_))))
 obtain⟨z,r⟩:=dM (ls:=h) (i:=W d) aH.len f7 (o.ro g) f5
 have F:=ik l r
 have Q:=(m _ (G4 r)).2
 refine KC (v:= Zz (Zv ⟨ab b,ao b+(W d) *6,Zk⟩)) Z Z a Z (J9 (jQ) Z Z ((o.ro g).addr (i:=W d) U) U) (Gz (Zz (Zv ⟨ab b,ao b+(W d) *6+2,Zk⟩)) a (KC (v:= Y z.j) Z Z a Z (J5 Z (bO.one H2 (((o.ro g).elem aH.len r f7).at_ (k:=2) Z))) (fw (Y z.j) (JX Z a Z) (An Z (rt (rs ?_))))))
 have K:=o.pf []
 obtain rfl:=zj hr zq3
 exact⟨Z,K⟩
 have h34t:Zd n=0:=by rw [a]; rfl
 refine Sz a (Sz a (Sz a (Sz a (Sz a (Sz a (Sz a (Sz a (fw (Y O) (JU Z a Z) (An Z (rt (rs ?_)))))))))))
 have L:=o.pf []
 obtain rfl:=zj hr zq2
 exact⟨Z,L⟩
def d9 (a:aL):List aL->Nat->Unit ⊕ Int
  | [],b=>G0 ()
  | c::d,b=>bnd (oq c.j a.j) λ e=>if e=Zj then if c.a=Zj then G1 ((b:Nat):Int) else if a.a=Zj then d9 a d (b+1) else G1 ((b:Nat):Int) else d9 a d (b+1)
def lI (b:List aL) (a:aL):Int:=
 lp (d9 a b 0) λ _=>(-1)
theorem qc (w D x I J g d) (a:aL) (Z8) (H:Own w D w [blk d (aL.L a) 115]) (t:Ro w D λ w'=>bV w' 3 x I (q1 aL.L g)) (K:I=X g) (aa:X g<=9223372036854775807) (hr:lI g a=Z8):
    Calls y3 167 #[T x I J, .func (.func 115) #[] #[vP d 0]] w (dI λ v w'=>v=vI Z8/\Own w D w' [blk d (aL.L a) 115]):=by
 subst K
 refine cb Tryz.func167 ?_
 refine sr (An Z (JS (sr (Mz Z (Kz (vJ (X g)) (Mn Z (bo ?_)))))))
 have L:=H.pf []
 obtain⟨M,m⟩:=nI λ (b:Nat) w'=>Own w D w' [blk d (aL.L a) 115]/\b<=X g/\d9 a g 0=d9 a (r8 b g) b
 refine G3 (λ i:Nat=> [(4,vI 0),(8,vJ i),(7,vJ (X g)),(0, T x (X g) J),(1, .func (.func 115) #[] #[vP d 0])]) M (λ i=>X g - i) 0 ⟨Z,Z,Z,Z,Z,ZV⟩ (m.2 ⟨L,U,Z⟩) ?_
 rintro b af y
 show Wp _ _ _ [(4,vI 0),(8,vJ b),(7,vJ (X g)),(0, T x (X g) J),(1, .func (.func 115) #[] #[vP d 0])] _ _
 obtain⟨p,Z1,j⟩:=m.1 y
 refine sr (Kz (Za ((b:Int) < (X g:Int))) (nt (JS ?_)))
 by_cases z:(b:Int) < (X g:Int)
 obtain⟨h,s⟩:=dM (ls:=g) (i:=b) aL.len f7 (p.ro t) f5
 have n:=drop_at s
 refine jT (dT z) (sk (JS (bo (sr (Mz Z (Ar Z (Mz Z (Mz Z (Mz Z (fw (Zz (Zv ⟨ab x,ao x+b *3,Zk⟩)) (J9 (vE) Z Z ((p.ro t).addr (i:=b) U) U) (fw (Zq (Zb (aL.L h))) (J5 Z (J7 (cs:=(aL.L h)) O9 P0 ((p.ro t).elem aL.len s f7))) ?_)))))))))))
 refine WL.do Z (KA Tryz.call115 Z Z ?_ (λ _ _ k=>k))
 refine cb Tryz.func115 ?_
 refine sr ?_
 refine cB (aL.L h) 115 p ?_
 intro A ag u
 refine Ar Z (Kz (vP A 0) (La (ai.L h.j) u 0 C6 C5 (Kz (vP d 0) (La (ai.L a.j) u 1 C6 C5 ?_))))
 obtain⟨B,l⟩:∃ q,oq h.j a.j=q:=⟨_,Z⟩
 obtain⟨ah,C,Z2,E,Z0⟩:=JZ u
 refine cl Tryz.call116 (tH _ _ h.j a.j B C l) ?_
 rintro _ aj ⟨rfl,F⟩
 have o:=E _ _ F
 refine Mz Z ?_
 rcases Nv (B) with c | c
 refine Gz (vP A 2) c (Gl (Y h.a) c o 0 H2 (KC (v:= Y h.a) Z Z c Z (J3 Z) ?_))
 rcases Nv (h.a) with f | f
 refine Sz f (Sz f (Sz f (KC (v:= Y Zj) Z Z c Z (JX Z f Z) (fw (Y Zj) (JX Z c Z) (An Z (rt (rs (nt (jt (JS ?_))))))))))
 have Z5:=o.pk [1]
 refine JW (Mz Z (An Z (rt (bR (tR (tR (bR (tR (rs ?_)))))))))
 have Z6:=Z5.pf []
 obtain rfl:_=(b:Int):=zj hr (iX (V (j) (V (ZX (λ q=>d9 a q b) n) (V (ae l) (V (ip c) (ip f))))))
 exact⟨Z,Z6⟩
 refine Gz (vP d 2) f (Gl (Y a.a) f o 1 H2 (Gz (Y (!a.a)) f (KC (v:= Y (!a.a)) Z Z c Z (JU Z f Z) (fw (Y (!a.a)) (JX Z c Z) (An Z (rt (rs (nt ?_))))))))
 rcases Nv (a.a) with r | r
 refine jF (cn r) (Ko (bN (JY ?_)))
 have P:=o.pk [1]
 refine JW (fw (vJ (b+1)) (J4 (e:=D3.wrap ((b:Int)+1)) yk f4) (Mz Z (G2 ?_)))
 have Q:=P.pf []
 exact Kb (b+1) ⟨Z,Z,Z,Z,Z,ZV⟩ (m.2 ⟨Q,U,V (j) (V (ZX (λ q=>d9 a q b) n) (V (ae l) (V (ip c) (V (eD f) (ip r)))))⟩) (by show X g - (b+1) < X g - b; omega)
 refine jT (cn r) (JS ?_)
 have R:=o.pk [1]
 refine JW (Mz Z (An Z (rt (bR (tR (tR (bR (tR (rs ?_)))))))))
 have S:=R.pf []
 obtain rfl:_=(b:Int):=zj hr (iX (V (j) (V (ZX (λ q=>d9 a q b) n) (V (ae l) (V (ip c) (V (eD f) (eD r)))))))
 exact⟨Z,S⟩
 refine Sz c (Sz c (Sz c (QW (QW (QW (Sz c (fw (Y O) (JU Z c Z) (An Z (rt (rs (nt (jf (Ko (bN (JY ?_)))))))))))))))
 have Z7:=o.pk [1]
 refine JW (fw (vJ (b+1)) (J4 (e:=D3.wrap ((b:Int)+1)) yk f4) (Mz Z (G2 ?_)))
 have Z3:=Z7.pf []
 exact Kb (b+1) ⟨Z,Z,Z,Z,Z,ZV⟩ (m.2 ⟨Z3,U,V (j) (V (ZX (λ q=>d9 a q b) n) (V (ae l) (eD c)))⟩) (by show X g - (b+1) < X g - b; omega)
 refine jF (dF z) (H0 (Ka ?_))
 have G:d9 a g 0=G0 ():=V (j) (V (ZX (λ q=>d9 a q b) (eU (ls:=g) (i:=b) U)) Z)
 refine Ka (Kh (JY (sr (An Z (rt (rs ?_))))))
 have Z4:=p.pf []
 obtain rfl:_=(-1):=zj hr (kH G)
 exact⟨Z,Z4⟩
def kQ (c:List aL) (a:aL):Bool:=
 bnd (lI c a) λ b=>decide (b >= 0)
theorem pg (w D j k p d b) (a:aL) (r) (H:Own w D w [blk b (aL.L a) 115]) (l:Ro w D λ w'=>bV w' 3 j k (q1 aL.L d)) (m:k=X d) (t:X d<=9223372036854775807) (hr:kQ d a=r):
    Calls y3 114 #[T j k p, .func (.func 115) #[] #[vP b 0]] w (dI λ v w'=>v= Y r/\Own w D w' [blk b (aL.L a) 115]):=by
 unfold kQ at hr
 subst m
 refine cb Tryz.func114 ?_
 refine sr (Ar Z (Mz Z (Mz Z ?_)))
 obtain⟨e,c⟩:∃ q,lI d a=q:=⟨_,Z⟩
 obtain⟨u,f,g,h,s⟩:=Kt H
 refine cl Tryz.call167 (qc _ _ j (X d) p d b a e f (g _ l) Z U c) ?_
 rintro _ x ⟨rfl,i⟩
 have n:=h _ _ i
 refine Kz (Za (e >= 0)) (An Z (rt (rs ?_)))
 have o:=n.pf []
 obtain rfl:=zj hr zq1
 exact⟨Z,o⟩
def kN (d:bn) (e:Nat) (f:aL):Bool:=
 bnd (fD d e) λ a=>if a.2=Zj then bnd (J0 d.a.a (W a.1) Zy) λ b=>bnd (kQ b.b.a f) λ c=>c else O
theorem xL (w D B) (m:bn) (b f j P) (E:aL) (Z2) (H:Own w D w [blk B [T b (X m.a.a) f] 111]) (n:s0 aH.abs j=m.a.a) (g:Ro w D λ w'=>bV w' 6 b (X m.a.a) (q1 aH.L j)) (R:X m.a.a<=f/\X m.a.a<=9223372036854775807) (h:∀ x ∈ j,Ro w D (λ w'=>bV w' 3 x.b.A (X x.b.a) (q1 aL.L x.b.a))/\(X x.b.a<=x.b.c/\X x.b.a<=9223372036854775807)) (ai:X m.a.a<=1000000) (hr:kN m P E=Z2):
    Calls y3 68 #[vP B 0,vU P, Zq (Zb (aL.L E))] w (dI λ v w'=>v= Y Z2/\Own w D w' [blk B [T b (X m.a.a) f] 111]):=by
 unfold kN at hr
 have Q:=bf n
 refine cb Tryz.func68 ?_
 refine sr ?_
 refine cB (aL.L E) 115 H ?_
 intro F aj S
 refine Ar Z (Mz Z (Mz Z ?_))
 have Z7:=S.pb [0]
 obtain⟨⟨d,p⟩,s⟩:∃ q:Int × Bool,fD m P=q:=⟨_,Z⟩
 obtain⟨ak,G,t,I,Z0⟩:=Kt Z7
 refine cl Tryz.call113 (mD _ _ B m b f j P d p G n (t _ g) U (λ x9 h9=>⟨t _ (h x9 h9).1,(h x9 h9).2⟩) g4 s) ?_
 rintro _ au ⟨rfl,J,u,y⟩
 have r:=I _ _ J
 replace u:0<=d/\d<=(X m.a.a:Int):=u
 replace y:Zd p=0\/d < (X m.a.a:Int):=y
 refine Mz Z (Kz (vI d) (Kz (Y p) (Az Z (Ar Z (Mz Z (Mz Z ?_))))))
 rcases Nv (p) with a | a
 have h38t:Zd p=1:=by rw [a]; rfl
 refine KC (v:=vP B 0) Z Z a Z (J3 Z) (Gz (vP B 0) a (Gz (vP B 0) a (Gl (T b (X m.a.a) f) a r 0 O8 (KC (v:=vJ (W d)) Z Z a Z (J4 (e:=d) (J3 Z) U) ?_))))
 obtain⟨l,o⟩:=dM (ls:=j) (i:=W d) aH.len f7 (r.ro g) f5
 have K:=ik n o
 have ag:=(h _ (G4 o)).2
 refine KC (v:= Zz (Zv ⟨ab b,ao b+(W d) *6,Zk⟩)) Z Z a Z (J9 (jQ) Z Z ((r.ro g).addr (i:=W d) U) U) (Gz (Zz (Zv ⟨ab b,ao b+(W d) *6+1,Zk⟩)) a (KC (v:= T l.b.A (X l.b.a) l.b.c) Z Z a Z (J5 Z (bO.one P1 (((r.ro g).elem aH.len o f7).at_ (k:=1) Z))) (Gz (.func (.func 115) #[] #[vP F 0]) a ?_)))
 have Z3:=r.pb [0]
 obtain⟨C,z⟩:∃ q,kQ l.b.a E=q:=⟨_,Z⟩
 obtain⟨av,L,M,Z5,ah⟩:=Kt Z3
 refine KU Z Z a Z (Ki Tryz.call114 Z (pg _ _ l.b.A (X l.b.a) l.b.c l.b.a F E C L (M _ (h _ (G4 o)).1) Z U z) ?_)
 rintro _ ax ⟨rfl,Z6⟩
 have Z4:=Z5 _ _ Z6
 refine fw (Y C) (JX Z a Z) (An Z (rt (rs ?_)))
 have Z8:=Z4.pk [1]
 obtain rfl:_=C:=zj hr (V (ae s) (V (ip a) (V (ae (bG K)) (ae z))))
 exact⟨Z,Z8⟩
 have h38t:Zd p=0:=by rw [a]; rfl
 refine Sz a (Sz a (Sz a (Sz a (Sz a (Sz a (Sz a (Sz a (Sz a (Sz a (fw (Y O) (JU Z a Z) (An Z (rt (rs ?_)))))))))))))
 have Z1:=r.pk [0]
 obtain rfl:=zj hr zq2
 exact⟨Z,Z1⟩
def iL:List aS->Int->Int
  | [],a=>a
  | b::c,a=>if b.j=Zj then iL c (D3.wrap ((D3.wrap (a+((X b.b.a:Nat):Int)))+1)) else iL c (D3.wrap (a+((X b.b.a:Nat):Int)))
def nA (a:bn):Int:=
 bnd (iL a.a.a 0) λ sLrL=>sLrL
theorem wG (w D y) (d:bn) (b h k R) (H:Own w D w [blk y [T b (X d.a.a) h] 111]) (m:s0 aH.abs k=d.a.a) (j:Ro w D λ w'=>bV w' 6 b (X d.a.a) (q1 aH.L k)) (I:X d.a.a<=h/\X d.a.a<=9223372036854775807) (u:∀ x ∈ k,Ro w D (λ w'=>bV w' 3 x.b.A (X x.b.a) (q1 aL.L x.b.a))/\(X x.b.a<=x.b.c/\X x.b.a<=9223372036854775807)) (Z3:X d.a.a<=1000000) (hr:nA d=R):
    Calls y3 69 #[vP y 0] w (dI λ v w'=>v=vI R/\Own w D w' [blk y [T b (X d.a.a) h] 111]):=by
 unfold nA at hr
 have G:=bf m
 refine cb Tryz.func69 ?_
 refine sr (Ar Z (An Z (JS (sr (Mz Z (Kz (vP y 0) (Kz (vP y 0) (Lz (T b (X d.a.a) h) H 0 O8 (Kz (vJ (X d.a.a)) (Mn Z (bo ?_)))))))))))
 have J:=H.pf []
 obtain⟨K,l⟩:=IA λ (g:Int) (a:Nat) w'=>Own w D w' [blk y [T b (X d.a.a) h] 111]/\a<=X d.a.a/\iL d.a.a 0=iL (r8 a d.a.a) g
 refine G3 (λ i:Int × Nat=> [(3,vI i.1),(11,vJ i.2),(10,vJ (X d.a.a)),(9, T b (X d.a.a) h),(2,vI 0)]) K (λ i=>X d.a.a - i.2) (0,0) ⟨Z,Z,Z,Z,Z,ZV⟩ (l.2 ⟨J,U,Z⟩) ?_
 rintro ⟨g,a⟩ Z4 z
 show Wp _ _ _ [(3,vI g),(11,vJ a),(10,vJ (X d.a.a)),(9, T b (X d.a.a) h),(2,vI 0)] _ _
 obtain⟨n,S,o⟩:=l.1 z
 refine sr (Kz (Za ((a:Int) < (X d.a.a:Int))) (nt (JS ?_)))
 by_cases B:(a:Int) < (X d.a.a:Int)
 obtain⟨f,p⟩:=dM (ls:=k) (i:=a) aH.len f7 (n.ro j) f5
 have C:=ik m p
 have Z7:=(u _ (G4 p)).2
 have t:=drop_at C
 refine jT (dT B) (sk (JS (bo (sr (fw (Zz (Zv ⟨ab b,ao b+a *6,Zk⟩)) (J9 (jQ) Z Z ((n.ro j).addr (i:=a) U) U) (fw (Zq (Zb (aH.L f))) (J5 Z (J7 (cs:=(aH.L f)) O6 O7 ((n.ro j).elem aH.len p f7))) ?_))))))
 refine cB [.int .u64 0, T Zk 0 0, Y O, Z9 ⟨Zb []⟩, Z9 ⟨Zb []⟩, Y O] 159 n ?_
 intro E Z8 L
 refine cu (aH.L f) 0 L O7 ?_
 intro Z1 s
 refine ns (Mz Z (Kz (vP E 1) (Lz (T f.b.A (X f.b.a) f.b.c) s 0 P1 (Kz (vJ (X f.b.a)) (Kz (vI (D3.wrap (g+(X f.b.a:Int)))) (Ar Z (Kz (vP E 2) (Lz (Y f.j) s 0 H2 (nt ?_)))))))))
 rcases Nv (f.j) with r | r
 refine jT r ?_
 have M:=s.pk [1]
 refine JW (Mz Z (Kz (vI (D3.wrap ((D3.wrap (g+(X f.b.a:Int)))+1))) (Az Z (G2 (bN (JY (JW (fw (vJ (a+1)) (J4 (e:=D3.wrap ((a:Int)+1)) yk f4) (Mz Z (G2 ?_))))))))))
 have Z5:=M.pf []
 exact Kb (D3.wrap ((D3.wrap (g+(X f.b.a:Int)))+1),a+1) ⟨Z,Z,Z,Z,Z,ZV⟩ (l.2 ⟨Z5,U,V (o) (V (ZX (λ q=>iL q g) t) (ip r))⟩) (by show X d.a.a - (a+1) < X d.a.a - a; omega)
 refine jF r (Ko (bN (JY ?_)))
 have Z6:=s.pk [1]
 refine JW (fw (vJ (a+1)) (J4 (e:=D3.wrap ((a:Int)+1)) yk f4) (Mz Z (G2 ?_)))
 have P:=Z6.pf []
 exact Kb (D3.wrap (g+(X f.b.a:Int)),a+1) ⟨Z,Z,Z,Z,Z,ZV⟩ (l.2 ⟨P,U,V (o) (V (ZX (λ q=>iL q g) t) (eD r))⟩) (by show X d.a.a - (a+1) < X d.a.a - a; omega)
 refine jF (dF B) (H0 (Ka ?_))
 have F:iL d.a.a 0=g:=V (o) (V (ZX (λ q=>iL q g) (eU (ls:=d.a.a) (i:=a) U)) Z)
 refine Ka (Kh (JY (sr (Mz Z (An Z (rt (rs ?_)))))))
 have Q:=n.pf []
 obtain rfl:=zj hr zq1
 exact⟨Z,Q⟩
def dO (p1c0i0:aL) (p1c0i1:Nat) (a:aS):List aL->Nat->Unit ⊕ Int
  | [],b=>G0 ()
  | d::c,b=>bnd (iZ p1c0i0.j d.j) λ e=>if((a.a:Nat):Int)=((p1c0i1:Nat):Int) then dO p1c0i0 p1c0i1 a c (b+1) else if e.2=Zj then if p1c0i0.a=Zj then G1 ((b:Nat):Int) else if d.a=Zj then G1 ((b:Nat):Int) else dO p1c0i0 p1c0i1 a c (b+1) else dO p1c0i0 p1c0i1 a c (b+1)
def lF (b:List aL) (p1c0i0:aL) (p1c0i1:Nat) (a:aS):Int:=
 lp (dO p1c0i0 p1c0i1 a b 0) λ _=>(-1)
theorem pU (w D F Q R f g1c0i0) (p1c0i0:aL) (g1c0i1 p1c0i1 m j) (a:aS) (g h r0) (H:Own w D w [blk g1c0i0 (aL.L p1c0i0) 115,blk g1c0i1 [.int .u64 ((p1c0i1:Nat):Int)] 33,blk m [.func (.func 168) #[] #[Zz (Zv ⟨g1c0i0,0,Zk⟩), Zz (Zv ⟨g1c0i1,0,Zk⟩)]] 148,blk j [.int .u64 ((a.a:Nat):Int), T g (X a.b.a) h, Y a.j, Z9 ⟨Zb a.g.j.a⟩, Z9 ⟨Zb a.g.j.b⟩, Y a.g.a] 159]) (B:Ro w D λ w'=>bV w' 3 F Q (q1 aL.L f)) (S:Q=X f) (aC:X f<=9223372036854775807) (G:Ro w D λ w'=>bV w' 3 g (X a.b.a) (q1 aL.L a.b.a)) (I:X a.b.a<=h/\X a.b.a<=9223372036854775807) (hr:lF f p1c0i0 p1c0i1 a=r0):
    Calls y3 167 #[T F Q R, .func (.func 118) #[] #[vP m 0,vP j 0]] w (dI λ v w'=>v=vI r0/\Own w D w' [blk g1c0i0 (aL.L p1c0i0) 115,blk g1c0i1 [vU p1c0i1] 33,blk m [.func (.func 168) #[] #[vP g1c0i0 0,vP g1c0i1 0]] 148,blk j [vU a.a, T g (X a.b.a) h, Y a.j, Z9 ⟨Zb a.g.j.a⟩, Z9 ⟨Zb a.g.j.b⟩, Y a.g.a] 159]):=by
 subst S
 refine cb Tryz.func167 ?_
 refine sr (An Z (JS (sr (Mz Z (Kz (vJ (X f)) (Mn Z (bo ?_)))))))
 have Z7:=H.pf []
 obtain⟨Z3,r⟩:=nI λ (b:Nat) w'=>Own w D w' [blk g1c0i0 (aL.L p1c0i0) 115,blk g1c0i1 [vU p1c0i1] 33,blk m [.func (.func 168) #[] #[vP g1c0i0 0,vP g1c0i1 0]] 148,blk j [vU a.a, T g (X a.b.a) h, Y a.j, Z9 ⟨Zb a.g.j.a⟩, Z9 ⟨Zb a.g.j.b⟩, Y a.g.a] 159]/\b<=X f/\dO p1c0i0 p1c0i1 a f 0=dO p1c0i0 p1c0i1 a (r8 b f) b
 refine G3 (λ i:Nat=> [(4,vI 0),(8,vJ i),(7,vJ (X f)),(0, T F (X f) R),(1, .func (.func 118) #[] #[vP m 0,vP j 0])]) Z3 (λ i=>X f - i) 0 ⟨Z,Z,Z,Z,Z,ZV⟩ (r.2 ⟨Z7,U,Z⟩) ?_
 rintro b aD J
 show Wp _ _ _ [(4,vI 0),(8,vJ b),(7,vJ (X f)),(0, T F (X f) R),(1, .func (.func 118) #[] #[vP m 0,vP j 0])] _ _
 obtain⟨u,az,n⟩:=r.1 J
 refine sr (Kz (Za ((b:Int) < (X f:Int))) (nt (JS ?_)))
 by_cases K:(b:Int) < (X f:Int)
 obtain⟨d,A⟩:=dM (ls:=f) (i:=b) aL.len f7 (u.ro B) f5
 have s:=drop_at A
 refine jT (dT K) (sk (JS (bo (sr (Mz Z (Ar Z (Mz Z (Mz Z (Mz Z (fw (Zz (Zv ⟨ab F,ao F+b *3,Zk⟩)) (J9 (vE) Z Z ((u.ro B).addr (i:=b) U) U) (fw (Zq (Zb (aL.L d))) (J5 Z (J7 (cs:=(aL.L d)) O9 P0 ((u.ro B).elem aL.len A f7))) ?_)))))))))))
 refine WL.do Z (KA Tryz.call118 Z Z ?_ (λ _ _ k=>k))
 refine cb Tryz.func118 ?_
 refine sr ?_
 refine cB (aL.L d) 115 u ?_
 intro aF aG z
 refine Ar Z (Lz (.func (.func 168) #[] #[vP g1c0i0 0,vP g1c0i1 0]) z 3 Tryz.isAgg148 (Kz (vP j 0) (Lz (vU a.a) z 4 E0 (La (aL.L d) z 0 O9 P0 ?_))))
 refine WL.do Z (KA Tryz.call168 Z Z ?_ (λ _ _ k=>k))
 refine cb Tryz.func168 ?_
 refine sr ?_
 refine cB (aL.L d) 115 z ?_
 intro L aH C
 refine Ar Z (Kz (vP g1c0i0 0) (La (ai.L p1c0i0.j) C 2 C6 C5 (Kz (vP L 0) (La (ai.L d.j) C 0 C6 C5 ?_))))
 obtain⟨⟨E,x⟩,o⟩:∃ q:ai × Bool,iZ p1c0i0.j d.j=q:=⟨_,Z⟩
 obtain⟨aI,M,aA,Z5,aB⟩:=JZ C
 refine cl Tryz.call151 (nP _ _ p1c0i0.j d.j E x M o) ?_
 rintro _ aJ ⟨rfl,Z6⟩
 have Z4:=Z5 _ _ Z6
 refine Mz Z (Kz (Zq (Zb (ai.L E))) (Kz (Y x) ?_))
 refine cB [Z9 ⟨Zb []⟩, Z9 ⟨Zb []⟩] 38 Z4 ?_
 intro aK aM Z8
 refine cu (ai.L E) 0 Z8 C5 ?_
 intro aN Z1
 refine An Z (JS ?_)
 have t:=Z1.px [] [0] []
 refine JW (Mz Z (Lz (vU p1c0i1) t 3 E0 (fw (Za (¬ ((a.a:Int)=(p1c0i1:Int)))) (Kc (e:= !(Zw ((a.a:Int)=(p1c0i1:Int)))) yk ZW) (Mz Z ?_))))
 by_cases p:(a.a:Int)=(p1c0i1:Int)
 refine Sk Z Z (dF (Nu p)) Z (fw (Y O) (JU Z (dF (Nu p)) Z) (Mz Z (QQ (QQ (QQ (QW (QW (QQ (fw (Y O) (QK Z) (An Z (rt (rs (An Z (rt (rs (nt (jf (Ko (bN (JY ?_))))))))))))))))))))
 have Z2:=t.pk [2,3,4,5]
 refine JW (fw (vJ (b+1)) (J4 (e:=D3.wrap ((b:Int)+1)) yk f4) (Mz Z (G2 ?_)))
 have Z0:=Z2.pf []
 exact Kb (b+1) ⟨Z,Z,Z,Z,Z,ZV⟩ (r.2 ⟨Z0,U,V (n) (V (ZX (λ q=>dO p1c0i0 p1c0i1 a q b) s) (V (ae o) (ip p)))⟩) (by show X f - (b+1) < X f - b; omega)
 refine gw (Y x) (dT p) (J3 Z) (fw (Y x) (JX Z (dT p) Z) (Mz Z ?_))
 rcases Nv (x) with c | c
 refine Gz (vP g1c0i0 2) c (Gl (Y p1c0i0.a) c t 2 H2 (KC (v:= Y p1c0i0.a) Z Z c Z (J3 Z) ?_))
 rcases Nv (p1c0i0.a) with l | l
 refine Sz l (Sz l (KC (v:= Y Zj) Z Z c Z (JX Z l Z) (fw (Y Zj) (JX Z c Z) (An Z (rt (rs (An Z (rt (rs (nt (jt (JS ?_))))))))))))
 have aa:=t.pk [2,3,4,5]
 refine JW (Mz Z (An Z (rt (bR (tR (tR (bR (tR (rs ?_)))))))))
 have af:=aa.pf []
 obtain rfl:_=(b:Int):=zj hr (iX (V (n) (V (ZX (λ q=>dO p1c0i0 p1c0i1 a q b) s) (V (ae o) (V (iN p) (V (ip c) (ip l)))))))
 exact⟨Z,af⟩
 refine Gz (vP L 2) l (Gl (Y d.a) l t 0 H2 (KC (v:= Y d.a) Z Z c Z (JU Z l Z) (fw (Y d.a) (JX Z c Z) (An Z (rt (rs (An Z (rt (rs (nt ?_))))))))))
 rcases Nv (d.a) with y | y
 refine jT y (JS ?_)
 have ag:=t.pk [2,3,4,5]
 refine JW (Mz Z (An Z (rt (bR (tR (tR (bR (tR (rs ?_)))))))))
 have ah:=ag.pf []
 obtain rfl:_=(b:Int):=zj hr (iX (V (n) (V (ZX (λ q=>dO p1c0i0 p1c0i1 a q b) s) (V (ae o) (V (iN p) (V (ip c) (V (eD l) (ip y))))))))
 exact⟨Z,ah⟩
 refine jF y (Ko (bN (JY ?_)))
 have aj:=t.pk [2,3,4,5]
 refine JW (fw (vJ (b+1)) (J4 (e:=D3.wrap ((b:Int)+1)) yk f4) (Mz Z (G2 ?_)))
 have ak:=aj.pf []
 exact Kb (b+1) ⟨Z,Z,Z,Z,Z,ZV⟩ (r.2 ⟨ak,U,V (n) (V (ZX (λ q=>dO p1c0i0 p1c0i1 a q b) s) (V (ae o) (V (iN p) (V (ip c) (V (eD l) (eD y))))))⟩) (by show X f - (b+1) < X f - b; omega)
 refine Sz c (Sz c (Sz c (QW (QW (Sz c (fw (Y O) (JU Z c Z) (An Z (rt (rs (An Z (rt (rs (nt (jf (Ko (bN (JY ?_)))))))))))))))))
 have au:=t.pk [2,3,4,5]
 refine JW (fw (vJ (b+1)) (J4 (e:=D3.wrap ((b:Int)+1)) yk f4) (Mz Z (G2 ?_)))
 have av:=au.pf []
 exact Kb (b+1) ⟨Z,Z,Z,Z,Z,ZV⟩ (r.2 ⟨av,U,V (n) (V (ZX (λ q=>dO p1c0i0 p1c0i1 a q b) s) (V (ae o) (V (iN p) (eD c))))⟩) (by show X f - (b+1) < X f - b; omega)
 refine jF (dF K) (H0 (Ka ?_))
 have P:dO p1c0i0 p1c0i1 a f 0=G0 ():=V (n) (V (ZX (λ q=>dO p1c0i0 p1c0i1 a q b) (eU (ls:=f) (i:=b) U)) Z)
 refine Ka (Kh (JY (sr (An Z (rt (rs ?_))))))
 have ax:=u.pf []
 obtain rfl:_=(-1):=zj hr (kH P)
 exact⟨Z,ax⟩
def kJ (c:List aL) (p1c0i0:aL) (p1c0i1:Nat) (a:aS):Bool:=
 bnd (lF c p1c0i0 p1c0i1 a) λ b=>decide (b >= 0)
theorem oV (w D o p x i g1c0i0) (p1c0i0:aL) (g1c0i1 p1c0i1 d e) (a:aS) (c b y) (H:Own w D w [blk g1c0i0 (aL.L p1c0i0) 115,blk g1c0i1 [.int .u64 ((p1c0i1:Nat):Int)] 33,blk d [.func (.func 168) #[] #[Zz (Zv ⟨g1c0i0,0,Zk⟩), Zz (Zv ⟨g1c0i1,0,Zk⟩)]] 148,blk e [.int .u64 ((a.a:Nat):Int), T c (X a.b.a) b, Y a.j, Z9 ⟨Zb a.g.j.a⟩, Z9 ⟨Zb a.g.j.b⟩, Y a.g.a] 159]) (r:Ro w D λ w'=>bV w' 3 o p (q1 aL.L i)) (s:p=X i) (A:X i<=9223372036854775807) (f:Ro w D λ w'=>bV w' 3 c (X a.b.a) (q1 aL.L a.b.a)) (k:X a.b.a<=b/\X a.b.a<=9223372036854775807) (hr:kJ i p1c0i0 p1c0i1 a=y):
    Calls y3 114 #[T o p x, .func (.func 118) #[] #[vP d 0,vP e 0]] w (dI λ v w'=>v= Y y/\Own w D w' [blk g1c0i0 (aL.L p1c0i0) 115,blk g1c0i1 [vU p1c0i1] 33,blk d [.func (.func 168) #[] #[vP g1c0i0 0,vP g1c0i1 0]] 148,blk e [vU a.a, T c (X a.b.a) b, Y a.j, Z9 ⟨Zb a.g.j.a⟩, Z9 ⟨Zb a.g.j.b⟩, Y a.g.a] 159]):=by
 unfold kJ at hr
 subst s
 refine cb Tryz.func114 ?_
 refine sr (Ar Z (Mz Z (Mz Z ?_)))
 obtain⟨j,g⟩:∃ q,lF i p1c0i0 p1c0i1 a=q:=⟨_,Z⟩
 obtain⟨B,l,h,m,z⟩:=K7 H
 refine cl Tryz.call167 (pU _ _ o (X i) x i g1c0i0 p1c0i0 g1c0i1 p1c0i1 d e a c b j l (h _ r) Z U (h _ f) U g) ?_
 rintro _ C ⟨rfl,n⟩
 have t:=m _ _ n
 refine Kz (Za (j >= 0)) (An Z (rt (rs ?_)))
 have u:=t.pf []
 obtain rfl:=zj hr zq1
 exact⟨Z,u⟩
def iq (e:Nat) (f:aL):List aS->List Nat->(List Nat)
  | [],b=>b
  | a::c,b=>bnd (kJ a.b.a f e (aS.q a.a (Ll.q a.b.a) a.j a.g)) λ d=>if d=Zj then iq e f c (b++ [a.a]) else iq e f c b
def ed (a:bn) (b:Nat) (c:aL):(List Nat):=
 bnd (iq b c a.a.a []) λ sLrL=>sLrL
theorem q8 (w D Q) (f:bn) (g h p r) (l:aL) (r0) (H:Own w D w [blk Q [T g (X f.a.a) h] 111]) (u:s0 aH.abs p=f.a.a) (n:Ro w D λ w'=>bV w' 6 g (X f.a.a) (q1 aH.L p)) (aj:X f.a.a<=h/\X f.a.a<=9223372036854775807) (o:∀ x ∈ p,Ro w D (λ w'=>bV w' 3 x.b.A (X x.b.a) (q1 aL.L x.b.a))/\(X x.b.a<=x.b.c/\X x.b.a<=9223372036854775807)) (aZ:X f.a.a<=1000000) (hr:ed f r l=r0):
    Calls y3 70 #[vP Q 0,vU r, Zq (Zb (aL.L l))] w (dI λ v w'=> ∃ B0 b0,v= T B0 (X r0) b0/\Own w D w' [row B0 (X r0) b0 (q1 (eN .u64) r0) 33 1,blk Q [T g (X f.a.a) h] 111]):=by
 unfold ed at hr
 have ai:=bf u
 refine cb Tryz.func70 ?_
 refine sr ?_
 refine cB (aL.L l) 115 H ?_
 intro bg bi R
 refine Ar Z (Mz Z (La (aL.L l) R 0 O9 P0 ?_))
 refine WL.do Z (Ki Tryz.call117 Z ?_ (λ _ _ k=>k))
 refine cb Tryz.func117 ?_
 refine sr ?_
 refine cB [vU r] 33 R ?_
 intro z bq ak
 refine cB (aL.L l) 115 ak ?_
 intro B bu au
 refine Ar Z (Kz (.func (.func 168) #[] #[vP B 0,vP z 0]) (An Z (rt (rs ?_))))
 refine cB [Zx] 148 au ?_
 intro C bv av
 refine cu [.func (.func 168) #[] #[vP B 0,vP z 0]] 0 av Tryz.sizeOf148 ?_
 intro ax ay
 refine nt (JS ?_)
 have S:=ay.px [] [3] []
 refine JW (An Z (JS (sr (Mz Z (Kz (vP Q 0) (Kz (vP Q 0) (Lz (T g (X f.a.a) h) S 3 O8 (Kz (vJ (X f.a.a)) (Mn Z (bo ?_))))))))))
 have az:Own w D ax (row Zk 0 0 (q1 (eN .u64) []) 33 1::_):=S.free (bW 33 1)
 have aA:=az.pb [0]
 obtain⟨aB,t⟩:=uG λ E (F:Nat) d (b:Nat) w'=>Own w D w' [blk C [.func (.func 168) #[] #[vP B 0,vP z 0]] 148,blk B (aL.L l) 115,blk z [vU r] 33,blk Q [T g (X f.a.a) h] 111,row E (X d) F (q1 (eN .u64) d) 33 1]/\b<=X f.a.a/\X d<=b/\iq r l f.a.a []=iq r l (r8 b f.a.a) d
 refine G3 (λ i:(Option Addr) × Nat × (List Nat) × Nat=> [(8, T i.1 (X i.2.2.1) i.2.1),(19,vJ i.2.2.2),(18,vJ (X f.a.a)),(17, T g (X f.a.a) h),(7,vP C 0),(6, T Zk 0 0)]) aB (λ i=>X f.a.a - i.2.2.2) (Zk,0, [],0) ⟨Z,Z,Z,Z,Z,Z,ZV⟩ (t.2 ⟨aA,(show 0<=X f.a.a/\0<=0/\iq r l f.a.a []=iq r l (r8 0 f.a.a) [] from ⟨U,U,Z⟩)⟩) ?_
 rintro ⟨E,F,d,b⟩ bz Z7
 show Wp _ _ _ [(8, T E (X d) F),(19,vJ b),(18,vJ (X f.a.a)),(17, T g (X f.a.a) h),(7,vP C 0),(6, T Zk 0 0)] _ _
 obtain⟨G,aU,aV,I⟩:=t.1 Z7
 refine sr (Kz (Za ((b:Int) < (X f.a.a:Int))) (nt (JS ?_)))
 by_cases Z3:(b:Int) < (X f.a.a:Int)
 obtain⟨a,j⟩:=dM (ls:=p) (i:=b) aH.len f7 (G.ro n) f5
 have Z4:=ik u j
 have aW:=(o _ (G4 j)).2
 have M:=drop_at Z4
 refine jT (dT Z3) (sk (JS (bo (sr (fw (Zz (Zv ⟨ab g,ao g+b *6,Zk⟩)) (J9 (jQ) Z Z ((G.ro n).addr (i:=b) U) U) (fw (Zq (Zb (aH.L a))) (J5 Z (J7 (cs:=(aH.L a)) O6 O7 ((G.ro n).elem aH.len j f7))) ?_))))))
 refine cB [.int .u64 0, T Zk 0 0, Y O, Z9 ⟨Zb []⟩, Z9 ⟨Zb []⟩, Y O] 159 G ?_
 intro L bA aC
 refine cu (aH.L a) 0 aC O7 ?_
 intro bB Z8
 refine ns (Kz (vP L 1) (Lz (T a.b.A (X a.b.a) a.b.c) Z8 0 P1 (Kz (.func (.func 118) #[] #[vP C 0,vP L 0]) ?_)))
 have aD:=Z8.pf [2,3,1]
 obtain⟨Z1,J⟩:∃ q,kJ a.b.a l r (aS.q a.a (Ll.q a.b.a) a.j a.g)=q:=⟨_,Z⟩
 obtain⟨bC,Z2,Z5,Z0,aX⟩:=K7 aD
 refine cl Tryz.call114 (oV _ _ a.b.A (X a.b.a) a.b.c a.b.a B l z r C L (aS.q a.a (Ll.q a.b.a) a.j a.g) a.b.A a.b.c Z1 Z2 (Z5 _ (o _ (G4 j)).1) Z U (Z5 _ (o _ (G4 j)).1) U J) ?_
 rintro _ bD ⟨rfl,aa⟩
 have Z6:=Z0 _ _ aa
 refine nt ?_
 rcases Nv (Z1) with K | K
 refine jT K (JW (Mz Z (Kz (vP L 0) (Lz (vU a.a) Z6 3 E0 ?_))))
 refine j6 [vU a.a] 33 1 1 Z6 ?_
 intro aF bE P
 replace P:=Ku (y:=row aF 1 1 (q1 (eN .u64) ([a.a])) 33 1) Z P
 have af:=P.pf [6]
 refine WL.do Z (Kk (k:=X d) (m:=1) (jk) af Z Z (eO Tryz.underlying36 (af.rds (i:=1) Z) (cO nu ([a.a]))) Z U (s:=X (d++ [a.a])) f6 (List.flatMap_append).symm ?_)
 intro aG aI bF aJ
 have aY:X (d++ [a.a])=X d+1:=by simp only [List.length_append,List.length_cons,List.length_nil]
 refine Az Z (G2 (bN (JY ?_)))
 have aK:=aJ.px [] [1,5] []
 refine JW (fw (vJ (b+1)) (J4 (e:=D3.wrap ((b:Int)+1)) yk f4) (Mz Z (G2 ?_)))
 have aM:=aK.px [3] [] [0]
 exact Kb (aG,aI,(d++ [a.a]),b+1) ⟨Z,Z,Z,Z,Z,Z,ZV⟩ (t.2 ⟨aM,U,U,V (I) (V (ZX (λ q=>iq r l q d) M) (V (ae J) (ip K)))⟩) (by show X f.a.a - (b+1) < X f.a.a - b; omega)
 refine jF K (Ko (bN (JY ?_)))
 have aN:=Z6.px [] [3] []
 refine JW (fw (vJ (b+1)) (J4 (e:=D3.wrap ((b:Int)+1)) yk f4) (Mz Z (G2 ?_)))
 have aO:=aN.pf [2]
 exact Kb (E,F,d,b+1) ⟨Z,Z,Z,Z,Z,Z,ZV⟩ (t.2 ⟨aO,U,U,V (I) (V (ZX (λ q=>iq r l q d) M) (V (ae J) (eD K)))⟩) (by show X f.a.a - (b+1) < X f.a.a - b; omega)
 refine jF (dF Z3) (H0 (Ka ?_))
 have ag:iq r l f.a.a []=d:=V (I) (V (ZX (λ q=>iq r l q d) (eU (ls:=f.a.a) (i:=b) U)) Z)
 refine Ka (Kh (JY (JS ?_)))
 have aP:=G.pk [3,4]
 refine JW (Mz Z (An Z (rt (rs ?_))))
 have aQ:=aP.pb [0]
 obtain rfl:=zj hr zq1
 exact⟨E,F,Z,aQ⟩
structure mH where q::
 r:Nat
 a:aL
def mH.L (x:mH):List ZQ:= [.int .u64 ((x.r:Nat):Int), Z9 ⟨Zb x.a.j.a⟩, Z9 ⟨Zb x.a.j.b⟩, Y x.a.a]
instance:Bk mH:=⟨λ x _=>bk x.r+(bk x.a+(0))⟩
theorem mH.len:∀ x,X (mH.L x)=4:=λ _=>rfl
theorem mH.one:∀ x, ∀ u ∈ mH.L x,u.oneCell'=Zj:=λ x u hu=>by
 simp only [mH.L,v1,y2,or_false] at hu
 rcases hu with rfl | rfl | rfl | rfl <;> rfl
def Np (w:ZZ) (x:mH):Prop:=(x.r<=18446744073709551615)/\(LF w x.a)
instance:Inhabited mH:=⟨⟨Zy,Zy⟩⟩
def iF (d:bn):List aS->Unit ⊕ (mH × Bool)
  | []=>G0 ()
  | a::b=>if a.j=Zj then bnd (ed d a.a a.g) λ c=>if((X c:Nat):Int)=0 then G1 (mH.q a.a a.g,Zj) else iF d b else iF d b
def lh (a:bn):mH × Bool:=
 lp (iF a a.a.a) λ _=>(mH.q 0 (aL.q (ai.q [] []) O),O)
theorem wX (w D E) (f:bn) (g h l) (r0:mH) (r1) (H:Own w D w [blk E [T g (X f.a.a) h] 111]) (n:s0 aH.abs l=f.a.a) (j:Ro w D λ w'=>bV w' 6 g (X f.a.a) (q1 aH.L l)) (Z8:X f.a.a<=h/\X f.a.a<=9223372036854775807) (o:∀ x ∈ l,Ro w D (λ w'=>bV w' 3 x.b.A (X x.b.a) (q1 aL.L x.b.a))/\(X x.b.a<=x.b.c/\X x.b.a<=9223372036854775807)) (aG:X f.a.a<=1000000) (hr:lh f=(r0,r1)):
    Calls y3 120 #[vP E 0] w (dI λ v w'=>v= .tuple #[Zq (Zb (mH.L r0)), Y r1]/\Own w D w' [blk E [T g (X f.a.a) h] 111]):=by
 have Z4:=bf n
 refine cb Tryz.func120 ?_
 refine sr ?_
 refine cB [.int .u64 0, Z9 ⟨Zb []⟩, Z9 ⟨Zb []⟩, Y O] 189 H ?_
 intro I aI L
 refine An Z (JS (sr (Mz Z (Kz (vP E 0) (Kz (vP E 0) (Lz (T g (X f.a.a) h) L 1 O8 (Kz (vJ (X f.a.a)) (Mn Z (bo ?_)))))))))
 have Z1:=L.pf []
 obtain⟨Z2,p⟩:=nI λ (d:Nat) w'=>Own w D w' [blk I [.int .u64 0, Z9 ⟨Zb []⟩, Z9 ⟨Zb []⟩, Y O] 189,blk E [T g (X f.a.a) h] 111]/\d<=X f.a.a/\iF f f.a.a=iF f (r8 d f.a.a)
 refine G3 (λ i:Nat=> [(3, Y O),(11,vJ i),(10,vJ (X f.a.a)),(9, T g (X f.a.a) h),(2,vP I 0),(0,vP E 0)]) Z2 (λ i=>X f.a.a - i) 0 ⟨Z,Z,Z,Z,Z,Z,ZV⟩ (p.2 ⟨Z1,U,Z⟩) ?_
 rintro d aJ M
 show Wp _ _ _ [(3, Y O),(11,vJ d),(10,vJ (X f.a.a)),(9, T g (X f.a.a) h),(2,vP I 0),(0,vP E 0)] _ _
 obtain⟨s,az,r⟩:=p.1 M
 refine sr (Kz (Za ((d:Int) < (X f.a.a:Int))) (nt (JS ?_)))
 by_cases Z5:(d:Int) < (X f.a.a:Int)
 obtain⟨a,t⟩:=dM (ls:=l) (i:=d) aH.len f7 (s.ro j) f5
 have Z6:=ik n t
 have aA:=(o _ (G4 t)).2
 have u:=drop_at Z6
 refine jT (dT Z5) (sk (JS (bo (sr (fw (Zz (Zv ⟨ab g,ao g+d *6,Zk⟩)) (J9 (jQ) Z Z ((s.ro j).addr (i:=d) U) U) (fw (Zq (Zb (aH.L a))) (J5 Z (J7 (cs:=(aH.L a)) O6 O7 ((s.ro j).elem aH.len t f7))) ?_))))))
 refine cB [.int .u64 0, T Zk 0 0, Y O, Z9 ⟨Zb []⟩, Z9 ⟨Zb []⟩, Y O] 159 s ?_
 intro y aK Z0
 refine cu (aH.L a) 0 Z0 O7 ?_
 intro aM z
 refine ns (Kz (vP y 2) (Lz (Y a.j) z 0 H2 (Mz Z ?_)))
 rcases Nv (a.j) with b | b
 refine KC (v:=vP E 0) Z Z b Z (J3 Z) (Gz (vP y 0) b (Gl (vU a.a) b z 0 E0 (Gz (vP y 3) b (Ga (aL.L a.g) b z 0 O9 P0 ?_))))
 have aa:=z.pf [2]
 obtain⟨B,C⟩:∃ q,ed f a.a a.g=q:=⟨_,Z⟩
 obtain⟨aN,P,G,Q,aB⟩:=Kt aa
 refine KU Z Z b Z (Ki Tryz.call70 Z (q8 _ _ E f g h l a.a a.g B P n (G _ j) U (λ x9 h9=>⟨G _ (o x9 h9).1,(o x9 h9).2⟩) g4 C) ?_)
 rintro _ aO ⟨aP,aQ,rfl,R⟩
 have J:=Q _ _ R
 have aF:=J.rowC (i:=0) Z
 refine Gz (vJ (X B)) b (Gz (Za ((X B:Int)=0)) b (fw (Za ((X B:Int)=0)) (JX Z b Z) (nt ?_)))
 by_cases F:(X B:Int)=0
 refine jT (dT F) (JS ?_)
 have K:=J.pk [1,2,3]
 refine JW (Kz (vP y 0) (Lz (vU a.a) K 1 E0 (Kz (vP y 3) (La (aL.L a.g) K 1 O9 P0 (Kz (Zq #[vU a.a, Z9 ⟨Zb a.g.j.a⟩, Z9 ⟨Zb a.g.j.b⟩, Y a.g.a]) ?_)))))
 have af:=K.pf [2]
 refine cu [vU a.a, Z9 ⟨Zb a.g.j.a⟩, Z9 ⟨Zb a.g.j.b⟩, Y a.g.a] 0 af P2 ?_
 intro aR S
 refine An Z (rt (bR (tR (tR (bR (tR (Ke (fQ (vs:= [Zq #[vU a.a, Z9 ⟨Zb a.g.j.a⟩, Z9 ⟨Zb a.g.j.b⟩, Y a.g.a], Y Zj]) Z (bS.cell Z (J7 (cs:= [vU a.a, Z9 ⟨Zb a.g.j.a⟩, Z9 ⟨Zb a.g.j.b⟩, Y a.g.a]) Tryz.isAgg189 P2 ((S.cls (i:=0) Z).lit (k:=0) (m:=4) Z)) (bS.tmp Z bS.nil)) (Nr Z)) ?_)))))))
 have ag:=S.pk [1]
 obtain⟨rfl,rfl⟩:=fI (zj hr (show _=(mH.q a.a a.g,Zj) from iX (V (r) (V (ZX (λ q=>iF f q) u) (V (ip b) (V (ae C) (ip F)))))))
 exact⟨Z,ag⟩
 refine jF (dF F) (Ko (bN (JY ?_)))
 have ah:=J.pk [1,3]
 refine JW (fw (vJ (d+1)) (J4 (e:=D3.wrap ((d:Int)+1)) yk f4) (Mz Z (G2 ?_)))
 have aj:=ah.pb [0]
 exact Kb (d+1) ⟨Z,Z,Z,Z,Z,Z,ZV⟩ (p.2 ⟨aj,U,V (r) (V (ZX (λ q=>iF f q) u) (V (ip b) (V (ae C) (iN F))))⟩) (by show X f.a.a - (d+1) < X f.a.a - d; omega)
 refine Sz b (Sz b (Sz b (Sz b (Sz b (Sz b (Sz b (Sz b (fw (Y O) (JU Z b Z) (nt (jf (Ko (bN (JY ?_)))))))))))))
 have ak:=z.pk [1,2]
 refine JW (fw (vJ (d+1)) (J4 (e:=D3.wrap ((d:Int)+1)) yk f4) (Mz Z (G2 ?_)))
 have au:=ak.pf []
 exact Kb (d+1) ⟨Z,Z,Z,Z,Z,Z,ZV⟩ (p.2 ⟨au,U,V (r) (V (ZX (λ q=>iF f q) u) (eD b))⟩) (by show X f.a.a - (d+1) < X f.a.a - d; omega)
 refine jF (dF Z5) (H0 (Ka ?_))
 have Z7:iF f f.a.a=G0 ():=V (r) (V (ZX (λ q=>iF f q) (eU (ls:=f.a.a) (i:=d) U)) Z)
 refine Ka (Kh (JY (sr (Kz (Zq #[.int .u64 0, Z9 ⟨Zb []⟩, Z9 ⟨Zb []⟩, Y O]) ?_))))
 refine cu [.int .u64 0, Z9 ⟨Zb []⟩, Z9 ⟨Zb []⟩, Y O] 0 s P2 ?_
 intro aS Z3
 refine An Z (rt (Ke (fQ (vs:= [Zq #[.int .u64 0, Z9 ⟨Zb []⟩, Z9 ⟨Zb []⟩, Y O], Y O]) Z (bS.cell Z (J7 (cs:= [.int .u64 0, Z9 ⟨Zb []⟩, Z9 ⟨Zb []⟩, Y O]) Tryz.isAgg189 P2 ((Z3.cls (i:=0) Z).lit (k:=0) (m:=4) Z)) (bS.tmp Z bS.nil)) (Nr Z)) ?_))
 have av:=Z3.pk [1]
 obtain⟨rfl,rfl⟩:=fI (zj hr (show _=(mH.q 0 (aL.q (ai.q [] []) O),O) from kH Z7))
 exact⟨Z,av⟩
end
section
open Go.RowKit
def lN (a:List aH) (b:Int) (c:Int):(List aH):=
 if b=c then a else(Zf (Zc b) a++Ze (Zc c) a)
theorem qA (w D g p d a c b l) (H:Own w D w [row g p d (Zg aH.L a) 159 6]) (q:p=X a) (K:X a *80<=211106232532992) (M:0<=c/\c<=b/\b<=((X a:Nat):Int)) (hr:lN a c b=l):
    Calls Tryz.prog 169 #[T g p d,vI c,vI b] w (dI λ v w'=> ∃ C E,v= T C (X l) E/\Own w D w' [row C (X l) E (Zg aH.L l) 159 6]/\(X l<=X a)):=by
 unfold lN at hr
 subst q
 have Z5:=H.rowC (i:=0) Z
 refine cb Tryz.func169 ?_
 refine sr (Ar Z (Mz Z (fw (vJ (Zc c)) (J4 (e:=c) (J3 Z) U) (fw (vJ (Zc b)) (J4 (e:=b) (J3 Z) U) (Mz Z (Kz (vJ (X a)) (fw (T (fA g (Zc c) 6 (X a)) ((Zc b) - (Zc c)) (X a - (Zc c))) (Lx (jQ) Z Z Z Z U U U) (nt (JS (sr (Mz Z (Mz Z (Kz (Za (c=b)) (nt ?_))))))))))))))
 by_cases j:c=b
 refine jT (dT j) (sr (Mz Z (An Z (rt (tR (rs ?_))))))
 obtain rfl:=zj hr zq1
 exact⟨g,d,Z,(H.pf []),U⟩
 refine jF (dF j) (sk (sr (Mz Z (Kz (vJ (X a)) (An Z (JS ?_))))))
 have h:=H.drew
 refine K8 [6] (λ Z8=> ∃ L',Own w D Z8 ([row g (X a) d (Zg aH.L a) 159 6]++L')) f1 f1 (J6 Kg) ⟨_,h⟩ ?_
 revert h
 generalize World.drew w=t
 intro h
 refine qv 0 Z Z (qt (v:=vJ (Zc c)) 1 Z (λ _ _=>J4 (e:=c) (J3 Z) U) (qt (v:= T g (Zc c) d) 2 Z (λ _ _=>KN (jQ) Z Z U) (qv 3 Z Z (qt (v:=vJ (Zc b)) 4 Z (λ _ _=>J4 (e:=b) (J3 Z) U) (qt (v:= T (fA g (Zc b) 6 d) (X a - (Zc b)) (d - (Zc b))) 5 Z (λ _ _=>Kv (jQ) Z Z U) ?_)))))
 have F:X (Zf (Zc c) a++Ze (Zc b) a)=Zc c+(X a - Zc b):=by simp only [List.length_append,List.length_take,List.length_drop]; omega
 have n:Src Tryz.prog 6 109 (T (fA g (Zc b) 6 d) (X a - (Zc b)) (d - (Zc b))) (X a - Zc b) (Zg aH.L (Ze (Zc b) a)) t:=eO Tryz.underlying109 (KP (lo:=Zc b) aH.len (h.rds (i:=0) Z) U U f7) (cO aH.one (Ze (Zc b) a))
 obtain⟨G,u,x⟩:=h.rowFull
 refine qd 6 Z (KX (k:=Zc c) (m:=X a - Zc b) (jQ) x Z Z n U (s:=X (Zf (Zc c) a++Ze (Zc b) a)) U ?_)
 intro _ o
 refine⟨.inl f1, (Kr (v:= T g (X (Zf (Zc c) a++Ze (Zc b) a)) d) 7 Z f1 (λ _=>KV Z) (qn (JY (sr (Mz Z (Mz Z (Kz (vI ((X (Zf (Zc c) a++Ze (Zc b) a):Nat):Int)) (Mz Z (fw (T (fA g (X (Zf (Zc c) a++Ze (Zc b) a)) 6 d) (X a - (X (Zf (Zc c) a++Ze (Zc b) a))) (d - (X (Zf (Zc c) a++Ze (Zc b) a)))) (Yl.cut (jQ) Z Z Z U U) (KO (Lp (z0:=(Zq #[.int .u64 0, T Zk 0 0, Y O, Z9 ⟨List.toArray []⟩, Z9 ⟨List.toArray []⟩, Y O])) (lo:=X (Zf (Zc c) a++Ze (Zc b) a)) (nd:=(X a - (X (Zf (Zc c) a++Ze (Zc b) a)))) f1 Z (jQ) o Z (λ _=>ig ((o.rds (i:=0) Z).isSome U) U) U ?_)))))))))))⟩
 intro y I J z
 refine ns (Mz Z (An Z (rt (rs ?_))))
 have B:=(z.rowPart U (tZ aH.len U U Z)).pf []
 obtain rfl:=zj hr zq1
 exact⟨g,d,Z,B,U⟩
def lQ (a:List aH) (b:Int) (c:aH):(List aH):=
 if((Zc b:Nat):Int)=((X a:Nat):Int) then(a++ [c]) else(Zf (Zc b) a++(c::Ze (Zc b) a))
theorem qB (w D g F d b a E) (c:aH) (z) (H:Own w D w [row g F d (Zg aH.L b) 159 6,mF E 1 (Zg aH.L ([c])) 159 6]) (G:F=X b) (ai:X b *80<=211106232532992) (aj:0<=a/\a<=((X b:Nat):Int)/\(X b+1) *80<=211106232532992) (hr:lQ b a c=z):
    Calls Tryz.prog 122 #[T g F d,vI a, T E 1 1] w (dI λ v w'=> ∃ Z0 b0,v= T Z0 (X z) b0/\Own w D w' [row Z0 (X z) b0 (Zg aH.L z) 159 6]/\(X z=X b+1)):=by
 unfold lQ at hr
 subst G
 have ak:=H.rowC (i:=0) Z
 refine cb Tryz.func122 ?_
 refine sr (Ar Z (Mz Z (fw (vJ (Zc a)) (J4 (e:=a) (J3 Z) U) (fw (T (fA g (Zc a) 6 d) (X b - (Zc a)) (d - (Zc a))) (Kv (jQ) Z Z U) (ns (Mz Z (Kz (vI 1) (An Z (JS (sr (Mz Z (Kz (Y O) (nt (jf (sk (sr (Mz Z (Kz (vJ (X b)) (An Z (JS (sr (fw (vJ (Zc a)) (J4 (e:=a) (J3 Z) U) ?_))))))))))))))))))))))
 refine Mz Z (Kz (Za (((Zc a:Nat):Int)=(X b:Int))) (nt ?_))
 by_cases j:((Zc a:Nat):Int)=(X b:Int)
 refine jT (dT j) (sr (Mz Z (Mz Z (WL.do Z (Kk (k:=X b) (m:=1) (jQ) H Z Z (eO Tryz.underlying109 (di H (i:=1) Z lT) (cO aH.one ([c]))) Z U (s:=X (b++ [c])) f6 (List.flatMap_append).symm ?_)))))
 intro I J _ K
 have ae:X (b++ [c])=X b+1:=by simp only [List.length_append,List.length_cons,List.length_nil]
 refine An Z (rt (tR (rs ?_)))
 obtain rfl:=zj hr zq1
 exact⟨I,J,Z,(K.pk [0]),U⟩
 refine jF (dF j) (sk (JS (sr (Mz Z (Mz Z (fw (vJ (X b+1)) (J4 (e:=IntKind.i64.wrap ((X b:Int)+1)) yk f4) (Mz Z (Kz (vJ d) (Kz (Za (((X b+1:Nat):Int) > (d:Int))) (nt ?_))))))))))
 by_cases A:((X b+1:Nat):Int) > (d:Int)
 refine jT (dT A) (sr (Mz Z (fw (vJ (Zc a)) (J4 (e:=a) (J3 Z) U) (fw (T g (Zc a) d) (KN (jQ) Z Z U) (Mz Z (Mz Z (fw (vJ (X b+1)) (J4 (e:=IntKind.i64.wrap ((X b:Int)+1)) yk f4) (fw (vJ (Zc a)) (J4 (e:=a) (J3 Z) U) (fw (vJ ((X b+1) - (Zc a))) (J4 (e:=IntKind.i64.wrap (((X b+1:Nat):Int) - ((Zc a:Nat):Int))) yk f4) ?_)))))))))
 have af:X (Zf (Zc a) b++(c::Ze (Zc a) b))=X b+1:=by simp only [List.length_append,List.length_take,List.length_cons,List.length_drop]; omega
 refine WL.do Z (KW (k:=Zc a) (m:=(X b+1) - (Zc a)) (jQ) Tryz.underlying3 H Z Z U U U Z U (s:=X (Zf (Zc a) b++(c::Ze (Zc a) b))) U ?_)
 intro n h _ _ B o
 have Z5:=o.rowLe (i:=0) Z
 refine Ar Z (Mz Z (fw (vJ (Zc a)) (J4 (e:=a) (J3 Z) U) (fw (T (fA n (Zc a) 6 h) ((X (Zf (Zc a) b++(c::Ze (Zc a) b))) - (Zc a)) (h - (Zc a))) (Kv (jQ) Z Z U) (Mz Z (WL.do Z (KJ (lo:=Zc a) (k:=1) (jQ) o Z (λ _=>ig ((o.rds (i:=0) Z).isSome U) U) U Z (di o (i:=2) Z lT) U (λ u hu=>cO aH.one _ u (List.mem_of_mem_take hu)) Z ?_))))))
 intro _ Z6
 refine nt (JS (yH [8] (J6 (J6 Kg)) Z6 ?_))
 intro _ p
 refine qv 0 Z Z (qt (v:=vJ (Zc a)) 1 Z (λ _ _=>J4 (e:=a) (J3 Z) U) (qv 2 Z Z (qt (v:=vJ (Zc a+1)) 3 Z (λ _ _=>J4 (e:=IntKind.i64.wrap (((Zc a:Nat):Int)+1)) yk f4) (qt (v:= T (fA n (Zc a+1) 6 h) ((X (Zf (Zc a) b++(c::Ze (Zc a) b))) - (Zc a+1)) (h - (Zc a+1))) 4 Z (λ _ _=>Kv (jQ) Z Z U) (qv 5 Z Z (qt (v:=vJ (Zc a)) 6 Z (λ _ _=>J4 (e:=a) (J3 Z) U) (qt (v:= T (fA g (Zc a) 6 d) (X b - (Zc a)) (d - (Zc a))) 7 Z (λ _ _=>Kv (jQ) Z Z U) (qd 8 Z (KJ (lo:=Zc a+1) (k:=X b - Zc a) (jQ) p Z (λ _=>ig ((p.rds (i:=0) Z).isSome U) U) U Z (KP (lo:=Zc a) aH.len (p.rds (i:=1) Z) U U f7) U (λ u hu=>cO aH.one _ u (List.mem_of_mem_take hu)) Z ?_)))))))))
 intro P Q
 refine⟨.inl f1, (qn (JY (sr (Mz Z (An Z (rt (tR (rs ?_))))))))⟩
 have R:Own w D P [row n (X (Zf (Zc a) b++(c::Ze (Zc a) b))) h (Zg aH.L (Zf (Zc a) b++(c::Ze (Zc a) b))) 159 6,row g (X b) d (Zg aH.L b) 159 6,mF E 1 (Zg aH.L ([c])) 159 6]:=Q.rowPart U (uD (l:=b) (k2:=X b - Zc a) aH.len U B Z Z U)
 obtain rfl:=zj hr zq1
 exact⟨n,h,Z,(R.pk [0]),U⟩
 refine jF (dF A) (sk (sr ?_))
 have C:X (Zf (Zc a) b++(c::Ze (Zc a) b))=X b+1:=by simp only [List.length_append,List.length_take,List.length_cons,List.length_drop]; omega
 obtain⟨_,r,Z7⟩:=H.rowFull
 refine Mz Z (Mz Z (Mz Z (fw (vJ (X b+1)) (J4 (e:=IntKind.i64.wrap ((X b:Int)+1)) yk f4) (fw (T g (X (Zf (Zc a) b++(c::Ze (Zc a) b))) d) (Yl.to (KN (jQ) Z Z U) (ZX (λ q=>Value.slice g q d) C.symm)) (An Z (JS (sr (Mz Z (Mz Z (fw (vJ (Zc a)) (J4 (e:=a) (J3 Z) U) (Mz Z (fw (vJ (Zc a+1)) (J4 (e:=IntKind.i64.wrap (((Zc a:Nat):Int)+1)) yk f4) (fw (T (fA g (Zc a+1) 6 d) ((X (Zf (Zc a) b++(c::Ze (Zc a) b))) - (Zc a+1)) (d - (Zc a+1))) (Kv (jQ) Z Z U) ?_)))))))))))))
 have t:=Z7.pb [0]
 refine fw (Y O) (KY (lo:=Zc a+1) (run_callFunc_extern Tryz.func172 f1 f1 f1 (e:=Extern.SlicesOverlaps.overlaps #[109,109] #[4]) f1) Tryz.underlying109 Tryz.sizeOf159 t f7 U Z (ig ((t.rds (i:=1) Z).isSome U) U)) (Kz (Y Zj) (nt (jt (JS (oZ [8] (J6 (J6 Kg)) t ?_)))))
 intro _ Z3
 refine qv 0 Z Z (qt (v:=vJ (Zc a)) 1 Z (λ _ _=>J4 (e:=a) (J3 Z) U) (qv 2 Z Z (qt (v:=vJ (Zc a+1)) 3 Z (λ _ _=>J4 (e:=IntKind.i64.wrap (((Zc a:Nat):Int)+1)) yk f4) (qt (v:= T (fA g (Zc a+1) 6 d) ((X (Zf (Zc a) b++(c::Ze (Zc a) b))) - (Zc a+1)) (d - (Zc a+1))) 4 Z (λ _ _=>Kv (jQ) Z Z U) (qv 5 Z Z (qt (v:=vJ (Zc a)) 6 Z (λ _ _=>J4 (e:=a) (J3 Z) U) (qt (v:= T (fA g (Zc a) 6 d) ((X (Zf (Zc a) b++(c::Ze (Zc a) b))) - (Zc a)) (d - (Zc a))) 7 Z (λ _ _=>Kv (jQ) Z Z U) ?_)))))))
 have x:=Z3.pb [0]
 refine qd 8 Z (KJ (lo:=Zc a+1) (k:=X b - Zc a) (jQ) x Z (λ _=>ig ((x.rds (i:=0) Z).isSome U) U) U Z (bV.cut (lo:=Zc a) (hi:=X (Zf (Zc a) b++(c::Ze (Zc a) b))) (x.rds (i:=0) Z) U U U) U (λ u hu=>cO aH.one _ u (by rw [uE aH.len U Z U] at hu; exact hu)) Z ?_)
 intro _ y
 refine⟨.inl f1, (qn (JY (sr (Mz Z (fw (vJ (Zc a)) (J4 (e:=a) (J3 Z) U) (fw (T (fA g (Zc a) 6 d) ((X (Zf (Zc a) b++(c::Ze (Zc a) b))) - (Zc a)) (d - (Zc a))) (Kv (jQ) Z Z U) (Mz Z (WL.do Z (KJ (lo:=Zc a) (k:=1) (jQ) y Z (λ _=>ig ((y.rds (i:=0) Z).isSome U) U) U Z (di y (i:=1) Z lT) U (λ u hu=>cO aH.one _ u (List.mem_of_mem_take hu)) Z ?_)))))))))⟩
 intro Z4 Z8
 refine ns (Mz Z (An Z (rt (tR (rs ?_)))))
 have Z1:Own w D Z4 [row g (X (Zf (Zc a) b++(c::Ze (Zc a) b))) d (Zg aH.L (Zf (Zc a) b++(c::Ze (Zc a) b))) 159 6,mF E 1 (Zg aH.L ([c])) 159 6]:=Z8.rowPart U (uF (l:=b) (m:=(X (Zf (Zc a) b++(c::Ze (Zc a) b))) - Zc a) (k2:=X b - Zc a) aH.len U (by rw [r]; exact Nat.le_mul_of_pos_left 6 U) Z Z U U)
 obtain rfl:=zj hr zq1
 exact⟨g,d,Z,(Z1.pk [0]),U⟩
end
open List renaming Perm->P3,append_assoc->q2,flatMap_append->u3,map_append->P5,perm_append_comm->P4,take->u2,take_append_drop->s3
section
variable {α:Type} {w0 w:ZZ} {D:Nat->Prop} {L:List HP} {f:α->List HP}
theorem Own.dropL {L1 L2:List HP} (H:Own w0 D w (L1++L2)):Own w0 D w L2:=H.to λ h hs=>by
  obtain⟨a,b,c,d,e,g,_⟩:=kT.app.1 hs
  exact d.mono g
theorem Own.sepDel {ds:List α} {i j:Nat} (h:i<=j) (H:Own w0 D w (sepL (q1 f ds)::L)):Own w0 D w (sepL (q1 f (u2 i ds++r8 j ds))::L):=by
  have e:ds=u2 i ds++(u2 (j - i) (r8 i ds)++r8 j ds):=by
    conv=>lhs; rw [<- s3 i ds]
    congr 1
    conv=>lhs; rw [<- s3 (j - i) (r8 i ds)]
    rw [List.drop_drop,show i+(j - i)=j by omega]
  rw [e,u3,u3] at H
  have p:((q1 f (u2 i ds)++(q1 f (u2 (j - i) (r8 i ds))++q1 f (r8 j ds)))++L).Perm (q1 f (u2 (j - i) (r8 i ds))++((q1 f (u2 i ds)++q1 f (r8 j ds))++L)):=by
    rw [<- q2, <- q2]
    refine P3.append_right L ?_
    rw [<- q2]
    exact P3.append_right _ P4
  have b:=(H.flat.perm p).dropL
  rw [u3]
  exact b.pack
theorem Own.sepIns {ds:List α} {i:Nat} {y:α} (H:Own w0 D w (f y++(sepL (q1 f ds)::L))):Own w0 D w (sepL (q1 f (u2 i ds++(y::r8 i ds)))::L):=by
  have b:=(H.perm List.perm_middle).flat
  have e:(q1 f ds++(f y++L)).Perm ((q1 f (u2 i ds)++(f y++q1 f (r8 i ds)))++L):=by
    conv=>lhs; rw [<- s3 i ds,u3]
    rw [<- q2]
    refine P3.append_right L ?_
    rw [q2]
    exact P3.append_left _ P4
  rw [u3,List.flatMap_cons]
  exact(b.perm e).pack
theorem oP {β:Type} {g:α->β} {ds:List α} {ls:List β} {i j:Nat} (h:s0 g ds=ls):s0 g (u2 i ds++r8 j ds)=u2 i ls++r8 j ls:=by rw [P5,List.map_take,List.map_drop,h]
theorem kw {β:Type} {g:α->β} {ds:List α} {ls:List β} {i:Nat} {y:α} {z:β} (h:s0 g ds=ls) (hy:g y=z):s0 g (u2 i ds++(y::r8 i ds))=u2 i ls++(z::r8 i ls):=by rw [P5,List.map_cons,List.map_take,List.map_drop,h,hy]
end
theorem zF {l:List aS} {i:Nat} {x:aS} (h:Hd l) (hx:X x.b.a<=1000000):Hd (u2 i l++(x::r8 i l)):=λ r hr=>by
  rcases List.mem_append.1 hr with a | a
  . exact h r (List.mem_of_mem_take a)
  . rcases List.mem_cons.1 a with b | b
    . rw [b]; exact hx
    . exact h r (List.mem_of_mem_drop b)
theorem F6 (d:List aH) (i j:Int) (h:0<=i/\i<=j):lN d i j=u2 (W i) d++r8 (W j) d:=by
  unfold lN
  by_cases c:i=j
  . rw [ZJ c,c,s3]
  . rw [ZK c]
theorem F7 (d:List aH) (i:Int) (x:aH) (h:0<=i/\i<=(X d:Int)):lQ d i x=u2 (W i) d++(x::r8 (W i) d):=by
  unfold lQ
  by_cases c:((W i:Nat):Int)=(X d:Int)
  . rw [ZJ c,List.take_of_length_le U,List.drop_eq_nil_of_le U]
  . rw [ZK c]
theorem F8 (w D A n c d l i j) (H:Own w D w [row A n c (q1 aH.L d) 159 6,sepL (q1 Kj d)]) (hn:n=X d) (hd:s0 aH.abs d=l) (hl:X d<=1000000) (hh:0<=i/\i<=j/\j<=(X d:Int)):
    Calls Tryz.prog 169 #[T A n c, .int .i64 i, .int .i64 j] w (dI λ v w'=> ∃ B b,v= T B (X (u2 (W i) l++r8 (W j) l)) b/\
      Own w D w' [row B (X (u2 (W i) l++r8 (W j) l)) b (q1 aH.L (u2 (W i) d++r8 (W j) d)) 159 6,sepL (q1 Kj (u2 (W i) d++r8 (W j) d))]):=by
  obtain⟨a,e,_,bk,_⟩:=Kt H
  refine(qA w a A n c d i j _ e hn U hh (F6 d i j ⟨hh.1,hh.2.1⟩)).mono ?_
  rintro _ w' ⟨v,rfl,B,b,rfl,HQ,_⟩
  rw [bf (oP (i:=W i) (j:=W j) hd)] at HQ ⊢
  exact⟨_,Z,B,b,Z,(((bk _ _ HQ).perm (P3.swap _ _ _)).sepDel U).perm (P3.swap _ _ _)⟩
theorem Cm (w D A n c d i a) (y:aH) (l) (z:aS) (H:Own w D w [row A n c (q1 aH.L d) 159 6,mF a 1 (q1 aH.L [y]) 159 6,sepL (q1 Kj d),row y.b.A (X y.b.a) y.b.c (q1 aL.L y.b.a) 115 3]) (hn:n=X d) (hd:s0 aH.abs d=l) (hz:aH.abs y=z) (hl:X d<=1000000) (hh:0<=i/\i<=(X d:Int)):
    Calls Tryz.prog 122 #[T A n c, .int .i64 i, T a 1 1] w (dI λ v w'=> ∃ B b,v= T B (X (u2 (W i) l++(z::r8 (W i) l))) b/\
      Own w D w' [row B (X (u2 (W i) l++(z::r8 (W i) l))) b (q1 aH.L (u2 (W i) d++(y::r8 (W i) d))) 159 6,sepL (q1 Kj (u2 (W i) d++(y::r8 (W i) d)))]):=by
  obtain⟨e,g,_,bk,_⟩:=KE H
  refine(qB w e A n c d i a y _ g hn U ⟨hh.1,hh.2,U⟩ (F7 d i y hh)).mono ?_
  rintro _ w' ⟨v,rfl,B,b,rfl,HQ,_⟩
  rw [bf (kw (i:=W i) hd hz)] at HQ ⊢
  refine⟨_,Z,B,b,Z, ?_⟩
  have j:Own w D w' (Kj y++(sepL (q1 Kj d):: [row B (X (u2 (W i) l++(z::r8 (W i) l))) b (q1 aH.L (u2 (W i) d++(y::r8 (W i) d))) 159 6])):=
    (bk _ _ HQ).perm (by
      exact(P4 (l₁:= [_]) (l₂:= [_,_])).trans (P4 (l₁:= [_]) (l₂:= [_]) |>.append_right [_]))
  exact j.sepIns.perm (P3.swap _ _ _)
open List renaming length_append->o3,length_cons->q6,length_drop->o2,length_nil->L0,length_take->o1,mem_flatMap->P6
open Ll renaming q->N
open Sv renaming q->O4
open _root_.Go.Proofs.Tryz renaming underlying36->P7,underlying98->K2
section
open Go.RowKit
abbrev ZB:aL:=aL.q (ai.q [] []) O
def jU (b:bn) (c:Nat):bn:=
 bnd (fD b c) λ a=>if a.2=Zj then bn.q (N (u2 (W a.1) b.a.a++r8 (W (a.1+1)) b.a.a)) else b
theorem pV (w D o) (d:bn) (g f b G) (u:bn) (H:Own w D w [blk o [T g (X d.a.a) f] 111,row g (X d.a.a) f (q1 aH.L b) 159 6,sepL (q1 Kj b)]) (c:s0 aH.abs b=d.a.a) (Z2:X d.a.a<=1000000) (hr:jU d G=u):
    Calls Tryz.prog 119 #[vP o 0,vU G] w (dI λ v w'=> ∃ l m h,v= .tuple #[]/\Own w D w' [blk o [T l (X u.a.a) m] 111,row l (X u.a.a) m (q1 aH.L h) 159 6,sepL (q1 Kj h)]/\(s0 aH.abs h=u.a.a)/\(X u.a.a<=X d.a.a)):=by
 unfold jU at hr
 have I:=bf c
 have J:=H.rowC (i:=1) Z
 refine cb Tryz.func119 ?_
 refine sr (Mz Z (Mz Z ?_))
 have Q:=H.rowC (i:=1) Z
 obtain⟨⟨a,k⟩,n⟩:∃ q:Int × Bool,fD d G=q:=⟨_,Z⟩
 obtain⟨_,x,R,y,p⟩:=Kt H
 refine cl Tryz.call113 (mD _ _ o d g f b G a k x c (p _ 0 _ Z bB) U (λ S Z7=>⟨p _ 1 _ Z (bL (P6.2 ⟨S,Z7,b3⟩) bB),di (φ:=λ _=>_) H (i:=2) Z (bL (P6.2 ⟨S,Z7,b3⟩) dD)⟩) g4 n) ?_
 rintro _ _ ⟨rfl,z,r,s⟩
 have t:=y _ _ z
 replace r:=r
 replace s:=s
 refine Mz Z (Kz (vI a) (Kz (Y k) (Az Z (Ar Z (Mn Z ?_)))))
 rcases Nv (k) with j | j
 have h35t:Zd k=1:=by rw [j]; rfl
 refine jT j (JW (Mz Z (Mz Z (Kz (vP o 0) (Kz (vP o 0) (Lz (T g (X d.a.a) f) t 0 O8 (Mz Z (Mz Z (fw (vI (a+1)) (J4 (e:=D3.wrap (a+1)) yk i7) ?_)))))))))
 obtain⟨_,A,_,B,_⟩:=KE (t.pb [0])
 refine cl Tryz.call169 (F8 _ _ g (X d.a.a) f b d.a.a a (a+1) A U c U U) ?_
 rintro _ _ ⟨C,E,rfl,F⟩
 have Z8:X (u2 (W a) b++r8 (W (a+1)) b)=X (u2 (W a) d.a.a++r8 (W (a+1)) d.a.a):=by exact bf (oP c)
 have Z1:X (u2 (W a) d.a.a++r8 (W (a+1)) d.a.a)+((W (a+1)) - (W a))=X d.a.a:=by simp only [o3,o1,o2]; omega
 refine Kz (vP o 0) (Kz (vP o 0) ?_)
 have M:=(B _ _ F).pf [2]
 refine cu [T C (X (u2 (W a) d.a.a++r8 (W (a+1)) d.a.a)) E] 0 M Tryz.sizeOf109 ?_
 intro _ Z5
 refine G2 (KD (res0 Z) ?_)
 obtain rfl:=zj hr zq2
 exact⟨C,E,(u2 (W a) b++r8 (W (a+1)) b),Z,(Z5.pf []),(oP c),j1⟩
 have h35t:Zd k=0:=by rw [j]; rfl
 refine jF j (Ko (KD (res0 Z) ?_))
 obtain rfl:=zj hr zq2
 exact⟨g,f,b,Z,(t.pf []),c,j1⟩
structure mI where q::
 b:Sv Nat
 g:Sv Nat
def mI.L (x:mI):List ZQ:= [T x.b.A (X x.b.a) x.b.c, T x.g.A (X x.g.a) x.g.c]
instance:Bk mI:=⟨λ x _=>bk x.b+(bk x.g+(0))⟩
theorem mI.len:∀ x,X (mI.L x)=2:=λ _=>rfl
theorem mI.one:∀ x, ∀ u ∈ mI.L x,u.oneCell'=Zj:=λ x u hu=>by
 simp only [mI.L,List.mem_cons,List.not_mem_nil,or_false] at hu
 rcases hu with rfl | rfl <;> rfl
def M6 (w:ZZ) (x:mI):Prop:=(nK w 1 8 (eN .u64) (λ n=>n<=18446744073709551615) x.b)/\(nK w 1 8 (eN .u64) (λ n=>n<=18446744073709551615) x.g)
instance:Inhabited mI:=⟨⟨Zy,Zy⟩⟩
structure fO where q::
 b:Ll Nat
 g:Ll Nat
instance:Inhabited fO:=⟨⟨Zy,Zy⟩⟩
def mI.abs (x:mI):fO:=⟨⟨x.b.a⟩,⟨x.g.a⟩⟩
def M0 (x:mI):List HP:= [row x.b.A (X x.b.a) x.b.c (q1 (eN .u64) x.b.a) 33 1,row x.g.A (X x.g.a) x.g.c (q1 (eN .u64) x.g.a) 33 1]
def dX (j:bn) (k:Nat) (i:aL) (m:fO) (c:Int) (b:aS) (d:aS) (e:aS):Nat->List Nat->Nat->(List Nat)
  | 0,f,g=>f
  | h+1,f,g=>bnd (J0 (M2 (M2 (M2 j.a.a (W c) (aS.q b.a (N (b.b.a++ [i])) b.j b.g)) (W c) (aS.q d.a (N d.b.a) O d.g)) (W c) (aS.q e.a (N e.b.a) e.j ZB)) g Zy) λ a=>if a.j=Zj then if((a.a:Nat):Int) > ((k:Nat):Int) then bnd (iZ i.j a.g.j) λ l=>if l.2=Zj then if i.a=Zj then dX j k i m c b d e h (f++ [a.a]) (g+1) else if a.g.a=Zj then dX j k i m c b d e h (f++ [a.a]) (g+1) else dX j k i m c b d e h f (g+1) else dX j k i m c b d e h f (g+1) else dX j k i m c b d e h f (g+1) else dX j k i m c b d e h f (g+1)
def iM (f:fO) (e:List Nat):List Nat->List aS->(List aS)
  | [],a=>a
  | c::d,a=>bnd (jU (bn.q (N a)) c) λ b=>iM f e d b.a.a
def dY (j:bn) (k:Nat) (i:aL) (m:fO) (g:Int) (a:aS) (b:aS) (c:aS):Nat->List Nat->Nat->(List Nat)
  | 0,e,f=>e
  | h+1,e,f=>bnd (J0 (M2 (M2 (M2 (u2 (W g) j.a.a++((aS.q k (N []) O ZB)::r8 (W g) j.a.a)) (W g) (aS.q a.a (N (a.b.a++ [i])) a.j a.g)) (W g) (aS.q b.a (N b.b.a) O b.g)) (W g) (aS.q c.a (N c.b.a) c.j ZB)) f Zy) λ d=>if d.j=Zj then if((d.a:Nat):Int) > ((k:Nat):Int) then bnd (iZ i.j d.g.j) λ l=>if l.2=Zj then if i.a=Zj then dY j k i m g a b c h (e++ [d.a]) (f+1) else if d.g.a=Zj then dY j k i m g a b c h (e++ [d.a]) (f+1) else dY j k i m g a b c h e (f+1) else dY j k i m g a b c h e (f+1) else dY j k i m g a b c h e (f+1) else dY j k i m g a b c h e (f+1)
def iO (f:fO) (c:List Nat):List Nat->List aS->(List aS)
  | [],a=>a
  | d::e,a=>bnd (jU (bn.q (N a)) d) λ b=>iO f c e b.a.a
def jI (g:bn) (i:Nat) (j:aL) (k:fO):bn × fO:=
 bnd (fD g i) λ a=>if a.2=Zj then bnd (J0 g.a.a (W a.1) Zy) λ c=>bnd (J0 (M2 g.a.a (W a.1) (aS.q c.a (N (c.b.a++ [j])) c.j c.g)) (W a.1) Zy) λ e=>bnd (J0 (M2 (M2 g.a.a (W a.1) (aS.q c.a (N (c.b.a++ [j])) c.j c.g)) (W a.1) (aS.q e.a (N e.b.a) O e.g)) (W a.1) Zy) λ h=>bnd (dX g i j k a.1 c e h (X g.a.a) [] 0) λ sLrbtbbbL=>bnd (iM k sLrbtbbbL sLrbtbbbL (M2 (M2 (M2 g.a.a (W a.1) (aS.q c.a (N (c.b.a++ [j])) c.j c.g)) (W a.1) (aS.q e.a (N e.b.a) O e.g)) (W a.1) (aS.q h.a (N h.b.a) h.j ZB))) λ sLrbtbbbLaL=>(bn.q (N sLrbtbbbLaL),fO.q (N k.b.a) (N (k.g.a++sLrbtbbbL))) else bnd (J0 (u2 (W a.1) g.a.a++((aS.q i (N []) O ZB)::r8 (W a.1) g.a.a)) (W a.1) Zy) λ b=>bnd (J0 (M2 (u2 (W a.1) g.a.a++((aS.q i (N []) O ZB)::r8 (W a.1) g.a.a)) (W a.1) (aS.q b.a (N (b.b.a++ [j])) b.j b.g)) (W a.1) Zy) λ d=>bnd (J0 (M2 (M2 (u2 (W a.1) g.a.a++((aS.q i (N []) O ZB)::r8 (W a.1) g.a.a)) (W a.1) (aS.q b.a (N (b.b.a++ [j])) b.j b.g)) (W a.1) (aS.q d.a (N d.b.a) O d.g)) (W a.1) Zy) λ f=>bnd (dY g i j k a.1 b d f (X (u2 (W a.1) g.a.a++((aS.q i (N []) O ZB)::r8 (W a.1) g.a.a))) [] 0) λ sLrbfbbbL=>bnd (iO k sLrbfbbbL sLrbfbbbL (M2 (M2 (M2 (u2 (W a.1) g.a.a++((aS.q i (N []) O ZB)::r8 (W a.1) g.a.a)) (W a.1) (aS.q b.a (N (b.b.a++ [j])) b.j b.g)) (W a.1) (aS.q d.a (N d.b.a) O d.g)) (W a.1) (aS.q f.a (N f.b.a) f.j ZB))) λ sLrbfbbbLaL=>(bn.q (N sLrbfbbbLaL),fO.q (N k.b.a) (N (k.g.a++sLrbfbbbL)))
theorem sI (w D g0) (j:bn) (E Z7 p B) (C:aL) (g3) (K:fO) (Z5 Z6 P Q) (r0:bn) (r1:fO) (H:Own w D w [blk g0 [T E (X j.a.a) Z7] 111,row E (X j.a.a) Z7 (q1 aH.L p) 159 6,sepL (q1 Kj p),blk g3 [T Z5 (X K.b.a) Z6, T P (X K.g.a) Q] 152,row Z5 (X K.b.a) Z6 (q1 (eN .u64) K.b.a) 33 1,row P (X K.g.a) Q (q1 (eN .u64) K.g.a) 33 1]) (M:s0 aH.abs p=j.a.a) (qN:X j.a.a<=999999) (eZ:Hd j.a.a) (qO:X K.g.a<=10000000000000) (hr:jI j B C K=(r0,r1)):
    Calls Tryz.prog 71 #[vP g0 0,vU B, Zq (Zb (aL.L C)),vP g3 0] w (dI λ v w'=> ∃ dh dm bR dn dw dx dz,v= .tuple #[]/\Own w D w' [blk g0 [T dh (X r0.a.a) dm] 111,row dh (X r0.a.a) dm (q1 aH.L bR) 159 6,sepL (q1 Kj bR),blk g3 [T dn (X r1.b.a) dw, T dx (X r1.g.a) dz] 152,row dn (X r1.b.a) dw (q1 (eN .u64) r1.b.a) 33 1,row dx (X r1.g.a) dz (q1 (eN .u64) r1.g.a) 33 1]/\(s0 aH.abs bR=r0.a.a)):=by
 unfold jI at hr
 have mh:=bf M
 have mi:=H.rowC (i:=1) Z
 have mo:=H.rowC (i:=4) Z
 have mq:=H.rowC (i:=5) Z
 refine cb Tryz.func71 ?_
 refine sr (cB (aL.L C) 115 H ?_)
 intro fe _ mr
 refine ns (Mz Z (Mz Z (WL.do Z (Ki Tryz.call73 Z ?_ (λ _ _ k=>k)))))
 refine cb Tryz.func73 ?_
 refine sr (Ar Z (Mz Z (Mz Z ?_)))
 have gK:=mr.pf [1]
 have oV:=gK.rowC (i:=2) Z
 obtain⟨⟨a,bS⟩,dA⟩:∃ q:Int × Bool,fD j B=q:=⟨_,Z⟩
 obtain⟨_,iU,_,iV,fo⟩:=Kt gK
 refine cl Tryz.call113 (mD _ _ g0 j E Z7 p B a bS iU M (fo _ 1 _ Z bB) U (λ x9 h9=>⟨fo _ 2 _ Z (bL (P6.2 ⟨x9,h9,b3⟩) bB),di (φ:=λ _=>_) gK (i:=3) Z (bL (P6.2 ⟨x9,h9,b3⟩) dD)⟩) g4 dA) ?_
 rintro _ _ ⟨rfl,iW,fu,fA⟩
 have bT:=iV _ _ iW
 replace fu:=fu
 replace fA:=fA
 refine Mz Z (Kz (vI a) (Kz (Y bS) (Az Z (An Z (JS (sr (Mz Z (Kz (Y (!bS)) (nt ?_)))))))))
 rcases Nv (bS) with bU | bU
 have h39t:Zd bS=1:=by rw [bU]; rfl
 refine jF (cn bU) (sk (sr (Mz Z (Kz (vP g0 0) (Kz (vP g0 0) (Lz (T E (X j.a.a) Z7) bT 0 O8 (fw (vJ (W a)) (J4 (e:=a) (J3 Z) U) ?_)))))))
 obtain⟨d,aO⟩:=dM (ls:=p) (i:=W a) aH.len f7 (bT.rds (i:=2) Z) f5
 have fB:=ik M aO
 have o6:=di bT (i:=3) Z (φ:=λ _=>_) (bL (P6.2 ⟨d,G4 aO,b3⟩) dD)
 have o7:X d.b.a<=1000000:=by have q9:Hd j.a.a:=(by first | exact eZ | exact zF eZ (Nt _)); exact q9 _ (G4 fB)
 refine fw (Zz (Zv ⟨ab E,ao E+(W a) *6,Zk⟩)) (J9 (jQ) Z Z ((bT.rds (i:=2) Z).addr (i:=W a) U) U) (An Z (rt (rs (An Z (JS (kL 7 [7,10] (J6 Kg) bT ?_))))))
 intro _ mG
 refine Kr (v:= Zz (Zv ⟨ab E,ao E+(W a) *6,Zk⟩)) 0 Z f1 (λ _=>J3 Z) (qv 1 Z Z (qk (Zz (Zv ⟨ab E,ao E+(W a) *6,Zk⟩)) 2 Z (qk (Zz (Zv ⟨ab E,ao E+(W a) *6+1,Zk⟩)) 3 Z (qt (v:= T d.b.A (X d.b.a) d.b.c) 4 Z (λ _ ⟨_,H9⟩=>J5 Z (bO.one Tryz.isAgg98 (((H9.rds (i:=2) Z).elem aH.len aO f7).at_ (k:=1) Z))) (qt (v:= Zq (Zb (aL.L C))) 5 Z (λ _ ⟨_,H9⟩=>J5 Z (J7 (cs:=(aL.L C)) O9 P0 ((H9.cls (i:=1) Z).lit (k:=0) (m:=3) Z))) (qd 6 Z (KF (cs:=(aL.L C)) (t:=115) (sz:=3) (m:=1) mG Z Z ZY Z f7 ?_)))))))
 intro mH mI gM
 replace gM:=Ku (y:=row mH 1 1 (q1 aL.L ([C])) 115 3) Z gM
 have iX:=gM.pb [0]
 refine⟨.inr ⟨_,iX⟩, ?_⟩
 have gN:=Lu (f:=Kj) (i:=W a) aO (iX.pf [3])
 have o8:=gN.rowC (i:=0) Z
 refine qd 7 Z (Kk (k:=X d.b.a) (m:=1) (vE) gN Z Z (eO K2 (gN.rds (i:=8) Z) (cO aL.one ([C]))) Z U (s:=X (d.b.a++ [C])) f6 (u3).symm ?_)
 intro av ax mK mO
 have o9:X (d.b.a++ [C])=X d.b.a+1:=by simp only [o3,q6,L0]
 refine⟨.inl f1, (Kr (v:= Zz (Zv ⟨ab E,ao E+(W a) *6,Zk⟩)) 8 Z f1 (λ _=>yk) (Kr (v:= Zz (Zv ⟨ab E,ao E+(W a) *6+1,Zk⟩)) 9 Z f1 (λ _=>yk) ?_))⟩
 have mP:Own w D mK (sepL (q1 Kj (M2 p (W a) (aH.q d.a (O4 av ax (d.b.a++ [C])) d.j d.g)))::_):=LJ (f:=Kj) (y:=(aH.q d.a (O4 av ax (d.b.a++ [C])) d.j d.g)) aO mO
 refine qe 10 Z (Do.storeRow (vs:= [T av (X (d.b.a++ [C])) ax]) (o:=(W a) *6+1) (q:=ao E+(W a) *6+1) (mP.pf [3]) Z U Z Tryz.sizeOf98 Z Z (Nr Z) (j3 aH.len aO (Nr Z)) (kV (y:=(aH.q d.a (O4 av ax (d.b.a++ [C])) d.j d.g)) aH.len Z (Nr Z) aO) ?_)
 intro _ mR
 have pg:X (M2 p (W a) (aH.q d.a (O4 av ax (d.b.a++ [C])) d.j d.g))=X (M2 j.a.a (W a) (aS.q d.a (N (d.b.a++ [C])) d.j d.g)):=bf (fq M Z)
 have pq:X (M2 j.a.a (W a) (aS.q d.a (N (d.b.a++ [C])) d.j d.g))=X j.a.a:=N0
 refine⟨.inl f1, (qn (JY (JS ?_)))⟩
 have gP:=mR.px [] [7] []
 refine JW (Mz Z (Mz Z (Kz (Zq #[Z9 ⟨Zb []⟩, Z9 ⟨Zb []⟩, Y O]) (Kz (Zz (Zv ⟨ab E,ao E+(W a) *6,Zk⟩)) (Kz (Zz (Zv ⟨ab E,ao E+(W a) *6+2,Zk⟩)) ?_)))))
 obtain⟨l,bA⟩:=dM (ls:=(M2 p (W a) (aH.q d.a (O4 av ax (d.b.a++ [C])) d.j d.g))) (i:=W a) aH.len f7 (gP.rds (i:=0) Z) f5
 have pu:X l.b.a<=l.b.c/\X l.b.a<=9223372036854775807:=di gP (i:=1) Z (φ:=λ _=>_) (bL (P6.2 ⟨l,G4 bA,b3⟩) dD)
 refine KO (Do.storeRow (vs:= [Y O]) (o:=(W a) *6+2) (q:=ao E+(W a) *6+2) gP Z U Z Tryz.sizeOf4 Z Z (Nr Z) (j3 aH.len bA (Nr Z)) (kV (y:=(aH.q l.a l.b O l.g)) aH.len Z (Nr Z) bA) ?_)
 intro mU mV
 have gQ:Own w D mU [row E (X j.a.a) Z7 (q1 aH.L (M2 (M2 p (W a) (aH.q d.a (O4 av ax (d.b.a++ [C])) d.j d.g)) (W a) (aH.q l.a l.b O l.g))) 159 6,sepL (q1 Kj (M2 (M2 p (W a) (aH.q d.a (O4 av ax (d.b.a++ [C])) d.j d.g)) (W a) (aH.q l.a l.b O l.g))),blk g0 [T E (X j.a.a) Z7] 111,blk fe (aL.L C) 115,blk g3 [T Z5 (X K.b.a) Z6, T P (X K.g.a) Q] 152,row Z5 (X K.b.a) Z6 (q1 (eN .u64) K.b.a) 33 1,row P (X K.g.a) Q (q1 (eN .u64) K.g.a) 33 1]:=by rw [mM (f:=Kj) (y:=(aH.q l.a l.b O l.g)) bA Z]; exact mV
 have pz:X (M2 (M2 p (W a) (aH.q d.a (O4 av ax (d.b.a++ [C])) d.j d.g)) (W a) (aH.q l.a l.b O l.g))=X (M2 (M2 j.a.a (W a) (aS.q d.a (N (d.b.a++ [C])) d.j d.g)) (W a) (aS.q l.a (N l.b.a) O l.g)):=bf (fq (fq M Z) Z)
 have pE:X (M2 (M2 j.a.a (W a) (aS.q d.a (N (d.b.a++ [C])) d.j d.g)) (W a) (aS.q l.a (N l.b.a) O l.g))=X (M2 j.a.a (W a) (aS.q d.a (N (d.b.a++ [C])) d.j d.g)):=N0
 refine Kz (Zz (Zv ⟨ab E,ao E+(W a) *6,Zk⟩)) (Kz (Zz (Zv ⟨ab E,ao E+(W a) *6+3,Zk⟩)) ?_)
 obtain⟨x,bC⟩:=dM (ls:=(M2 (M2 p (W a) (aH.q d.a (O4 av ax (d.b.a++ [C])) d.j d.g)) (W a) (aH.q l.a l.b O l.g))) (i:=W a) aH.len f7 (gQ.rds (i:=0) Z) f5
 have pG:X x.b.a<=x.b.c/\X x.b.a<=9223372036854775807:=di gQ (i:=1) Z (φ:=λ _=>_) (bL (P6.2 ⟨x,G4 bC,b3⟩) dD)
 refine KO (Do.storeRow (vs:= [Z9 ⟨Zb []⟩, Z9 ⟨Zb []⟩, Y O]) (o:=(W a) *6+3) (q:=ao E+(W a) *6+3) gQ Z U Z P0 Z Z (Nr Z) (j3 aH.len bC (Nr Z)) (kV (y:=(aH.q x.a x.b x.j ZB)) aH.len Z (Nr Z) bC) ?_)
 intro mW mX
 have jb:Own w D mW [row E (X j.a.a) Z7 (q1 aH.L (M2 (M2 (M2 p (W a) (aH.q d.a (O4 av ax (d.b.a++ [C])) d.j d.g)) (W a) (aH.q l.a l.b O l.g)) (W a) (aH.q x.a x.b x.j ZB))) 159 6,sepL (q1 Kj (M2 (M2 (M2 p (W a) (aH.q d.a (O4 av ax (d.b.a++ [C])) d.j d.g)) (W a) (aH.q l.a l.b O l.g)) (W a) (aH.q x.a x.b x.j ZB))),blk g0 [T E (X j.a.a) Z7] 111,blk fe (aL.L C) 115,blk g3 [T Z5 (X K.b.a) Z6, T P (X K.g.a) Q] 152,row Z5 (X K.b.a) Z6 (q1 (eN .u64) K.b.a) 33 1,row P (X K.g.a) Q (q1 (eN .u64) K.g.a) 33 1]:=by rw [mM (f:=Kj) (y:=(aH.q x.a x.b x.j ZB)) bC Z]; exact mX
 have pI:X (M2 (M2 (M2 p (W a) (aH.q d.a (O4 av ax (d.b.a++ [C])) d.j d.g)) (W a) (aH.q l.a l.b O l.g)) (W a) (aH.q x.a x.b x.j ZB))=X (M2 (M2 (M2 j.a.a (W a) (aS.q d.a (N (d.b.a++ [C])) d.j d.g)) (W a) (aS.q l.a (N l.b.a) O l.g)) (W a) (aS.q x.a (N x.b.a) x.j ZB)):=bf (fq (fq (fq M Z) Z) Z)
 have pJ:X (M2 (M2 (M2 j.a.a (W a) (aS.q d.a (N (d.b.a++ [C])) d.j d.g)) (W a) (aS.q l.a (N l.b.a) O l.g)) (W a) (aS.q x.a (N x.b.a) x.j ZB))=X (M2 (M2 j.a.a (W a) (aS.q d.a (N (d.b.a++ [C])) d.j d.g)) (W a) (aS.q l.a (N l.b.a) O l.g)):=N0
 refine ns (Mz Z (La (aL.L C) jb 3 O9 P0 (WL.do Z (Ki Tryz.call117 Z ?_ (λ _ _ k=>k)))))
 refine cb Tryz.func117 (sr ?_)
 refine cB [vU B] 33 jb ?_
 intro dB _ mY
 refine cB (aL.L C) 115 mY ?_
 intro bV mZ ng
 refine Ar Z (Kz (.func (.func 168) #[] #[vP bV 0,vP dB 0]) (An Z (rt (rs (An Z (JS ?_))))))
 have jc:=ng.px [] [5] []
 refine JW (An Z (JS (sr (Mz Z (Kz (vP g0 0) (Kz (vP g0 0) (Lz (T E (X j.a.a) Z7) jc 4 O8 (Kz (vJ (X j.a.a)) (Mn Z (bo ?_))))))))))
 have ni:Own w D mZ (row Zk 0 0 (q1 (eN .u64) []) 33 1::_):=jc.free (bW 33 1)
 obtain⟨jd,az⟩:=uG λ aD (aK:Nat) F (L:Nat) w'=>Own w D w' [blk bV (aL.L C) 115,blk dB [vU B] 33,row E (X j.a.a) Z7 (q1 aH.L (M2 (M2 (M2 p (W a) (aH.q d.a (O4 av ax (d.b.a++ [C])) d.j d.g)) (W a) (aH.q l.a l.b O l.g)) (W a) (aH.q x.a x.b x.j ZB))) 159 6,sepL (q1 Kj (M2 (M2 (M2 p (W a) (aH.q d.a (O4 av ax (d.b.a++ [C])) d.j d.g)) (W a) (aH.q l.a l.b O l.g)) (W a) (aH.q x.a x.b x.j ZB))),blk g0 [T E (X j.a.a) Z7] 111,blk g3 [T Z5 (X K.b.a) Z6, T P (X K.g.a) Q] 152,row Z5 (X K.b.a) Z6 (q1 (eN .u64) K.b.a) 33 1,row P (X K.g.a) Q (q1 (eN .u64) K.g.a) 33 1,row aD (X F) aK (q1 (eN .u64) F) 33 1]/\L<=X j.a.a/\X F<=L/\dX j B C K a (aH.abs d) (aH.abs l) (aH.abs x) (X j.a.a) [] 0=dX j B C K a (aH.abs d) (aH.abs l) (aH.abs x) (X j.a.a - L) F L
 refine G3 (λ i:(Option Addr) × Nat × (List Nat) × Nat=> [(10, T i.1 (X i.2.2.1) i.2.1),(43,vJ i.2.2.2),(42,vJ (X j.a.a)),(41, T E (X j.a.a) Z7),(9, .func (.func 168) #[] #[vP bV 0,vP dB 0]),(0,vP g0 0),(1,vU B),(3,vP g3 0)]) jd (λ i=>X j.a.a - i.2.2.2) (Zk,0, [],0) ⟨Z,Z,Z,Z,Z,Z,Z,Z,ZV⟩ (az.2 ⟨(ni.pb [0]),(show 0<=X j.a.a/\0<=0/\dX j B C K a (aH.abs d) (aH.abs l) (aH.abs x) (X j.a.a) [] 0=dX j B C K a (aH.abs d) (aH.abs l) (aH.abs x) (X j.a.a - 0) [] 0 from ⟨U,U,Z⟩)⟩) ?_
 rintro ⟨aD,aK,F,L⟩ ny gT
 show Wp _ _ _ [(10, T aD (X F) aK),(43,vJ L),(42,vJ (X j.a.a)),(41, T E (X j.a.a) Z7),(9, .func (.func 168) #[] #[vP bV 0,vP dB 0]),(0,vP g0 0),(1,vU B),(3,vP g3 0)] _ _
 obtain⟨df,_,_,aF⟩:=az.1 gT
 refine sr (Kz (Za ((L:Int) < (X j.a.a:Int))) (nt (JS ?_)))
 by_cases fC:(L:Int) < (X j.a.a:Int)
 refine jT (dT fC) (sk (JS (bo (sr ?_))))
 obtain⟨G,bX⟩:=dM (ls:=(M2 (M2 (M2 p (W a) (aH.q d.a (O4 av ax (d.b.a++ [C])) d.j d.g)) (W a) (aH.q l.a l.b O l.g)) (W a) (aH.q x.a x.b x.j ZB))) (i:=L) aH.len f7 (df.rds (i:=2) Z) f5
 have aM:=ik (fq (fq (fq M Z) Z) Z) bX
 have nC:X G.b.a<=G.b.c/\X G.b.a<=9223372036854775807:=di df (i:=3) Z (φ:=λ _=>_) (bL (P6.2 ⟨G,G4 bX,b3⟩) dD)
 refine fw (Zz (Zv ⟨ab E,ao E+L *6,Zk⟩)) (J9 (jQ) Z Z ((df.rds (i:=2) Z).addr (i:=L) U) U) (fw (Zq (Zb (aH.L G))) (J5 Z (J7 (cs:=(aH.L G)) Tryz.isAgg159 O7 ((df.rds (i:=2) Z).elem aH.len bX f7))) (cB [.int .u64 0, T Zk 0 0, Y O, Z9 ⟨Zb []⟩, Z9 ⟨Zb []⟩, Y O] 159 df ?_))
 intro aZ _ je
 refine cu (aH.L G) 0 je O7 ?_
 intro _ aP
 refine ns (Kz (vP aZ 2) (Lz (Y G.j) aP 0 H2 (Mz Z ?_)))
 rcases Nv (G.j) with Z8 | Z8
 refine Gz (vP aZ 0) Z8 (Gl (vU G.a) Z8 aP 0 E0 (KC (v:=vU B) Z Z Z8 Z (J3 Z) (Gz (Za ((G.a:Int) > (B:Int))) Z8 (fw (Za ((G.a:Int) > (B:Int))) (JX Z Z8 Z) (Mz Z ?_)))))
 by_cases R:(G.a:Int) > (B:Int)
 refine gw (.func (.func 168) #[] #[vP bV 0,vP dB 0]) (dT R) (J3 Z) (Gz (vP aZ 0) (dT R) (Gl (vU G.a) (dT R) aP 0 E0 (Gz (vP aZ 3) (dT R) (Ga (aL.L G.g) (dT R) aP 0 O9 P0 (KU Z Z (dT R) Z (KA Tryz.call168 Z Z ?_ (λ _ _ k=>k)))))))
 refine cb Tryz.func168 (sr ?_)
 refine cB (aL.L G.g) 115 aP ?_
 intro fE _ dC
 refine Ar Z (Kz (vP bV 0) (La (ai.L C.j) dC 2 C6 C5 (Kz (vP fE 0) (La (ai.L G.g.j) dC 0 C6 C5 ?_))))
 obtain⟨⟨dE,bD⟩,aQ⟩:∃ q:ai × Bool,iZ C.j G.g.j=q:=⟨_,Z⟩
 obtain⟨_,gU,_,gV,_⟩:=JZ dC
 refine cl Tryz.call151 (nP _ _ C.j G.g.j dE bD gU aQ) ?_
 rintro _ _ ⟨rfl,gW⟩
 refine Mz Z (Kz (Zq (Zb (ai.L dE))) (Kz (Y bD) (cB [Z9 ⟨Zb []⟩, Z9 ⟨Zb []⟩] 38 (gV _ _ gW) ?_)))
 intro _ _ jh
 refine cu (ai.L dE) 0 jh C5 ?_
 intro _ ji
 refine An Z (JS ?_)
 have aR:=ji.px [] [0] []
 refine JW (Mz Z (Lz (vU B) aR 3 E0 (fw (Za (¬ ((G.a:Int)=(B:Int)))) (Kc (e:= !(Zw ((G.a:Int)=(B:Int)))) yk ZW) (Mz Z ?_))))
 have dG:(Zw (¬ ((G.a:Int)=(B:Int))))=Zj:=(dT U)
 refine KC (v:= Y bD) Z Z dG Z (J3 Z) (fw (Y bD) (JX Z dG Z) (Mz Z ?_))
 rcases Nv (bD) with Z1 | Z1
 refine Gz (vP bV 2) Z1 (Gl (Y C.a) Z1 aR 2 H2 (KC (v:= Y C.a) Z Z Z1 Z (J3 Z) ?_))
 rcases Nv (C.a) with aB | aB
 refine Sz aB (Sz aB (KC (v:= Y Zj) Z Z Z1 Z (JX Z aB Z) (fw (Y Zj) (JX Z Z1 Z) (An Z (rt (rs (fw (Y Zj) (JX Z (dT R) Z) (nt (jt ?_)))))))))
 have fF:=aR.px [] [0] []
 refine JW (Mz Z (Kz (vP aZ 0) (Lz (vU G.a) fF 0 E0 (j6 [vU G.a] 33 1 1 fF ?_))))
 intro jl _ dH
 replace dH:=Ku (y:=row jl 1 1 (q1 (eN .u64) ([G.a])) 33 1) Z dH
 have fG:=dH.pf [10]
 refine WL.do Z (Kk (k:=X F) (m:=1) (jk) fG Z Z (eO P7 (fG.rds (i:=1) Z) (cO nu ([G.a]))) Z U (s:=X (F++ [G.a])) f6 (u3).symm ?_)
 intro jm jo _ jq
 have nG:X (F++ [G.a])=X F+1:=by simp only [o3,q6,L0]
 refine Az Z (G2 (bN (JY (JW (fw (vJ (L+1)) (J4 (e:=D3.wrap ((L:Int)+1)) yk f4) (Mz Z (G2 ?_)))))))
 have jv:=(jq.px [] [1,2] []).pb [0]
 exact Kb (jm,jo,(F++ [G.a]),L+1) ⟨Z,Z,Z,Z,Z,Z,Z,Z,ZV⟩ (az.2 ⟨jv,U,U,V (aF) (V (ZX (λ q=>dX j B C K a (aH.abs d) (aH.abs l) (aH.abs x) q F L) (pF (n:=X j.a.a) (i:=L) U)) (V (ae (bG aM)) (V (ip Z8) (V (ip R) (V (ae aQ) (V (ip Z1) (ip aB)))))))⟩) (by show X j.a.a - (L+1) < X j.a.a - L; omega)
 refine Gz (vP fE 2) aB (Gl (Y G.g.a) aB aR 0 H2 (KC (v:= Y G.g.a) Z Z Z1 Z (JU Z aB Z) (fw (Y G.g.a) (JX Z Z1 Z) (An Z (rt (rs (fw (Y G.g.a) (JX Z (dT R) Z) (nt ?_))))))))
 rcases Nv (G.g.a) with bE | bE
 refine jT bE ?_
 have fH:=aR.px [] [0] []
 refine JW (Mz Z (Kz (vP aZ 0) (Lz (vU G.a) fH 0 E0 (j6 [vU G.a] 33 1 1 fH ?_))))
 intro jw _ dJ
 replace dJ:=Ku (y:=row jw 1 1 (q1 (eN .u64) ([G.a])) 33 1) Z dJ
 have fJ:=dJ.pf [10]
 refine WL.do Z (Kk (k:=X F) (m:=1) (jk) fJ Z Z (eO P7 (fJ.rds (i:=1) Z) (cO nu ([G.a]))) Z U (s:=X (F++ [G.a])) f6 (u3).symm ?_)
 intro jy jA _ jB
 have nH:X (F++ [G.a])=X F+1:=by simp only [o3,q6,L0]
 refine Az Z (G2 (bN (JY (JW (fw (vJ (L+1)) (J4 (e:=D3.wrap ((L:Int)+1)) yk f4) (Mz Z (G2 ?_)))))))
 have jD:=(jB.px [] [1,2] []).pb [0]
 exact Kb (jy,jA,(F++ [G.a]),L+1) ⟨Z,Z,Z,Z,Z,Z,Z,Z,ZV⟩ (az.2 ⟨jD,U,U,V (aF) (V (ZX (λ q=>dX j B C K a (aH.abs d) (aH.abs l) (aH.abs x) q F L) (pF (n:=X j.a.a) (i:=L) U)) (V (ae (bG aM)) (V (ip Z8) (V (ip R) (V (ae aQ) (V (ip Z1) (V (eD aB) (ip bE))))))))⟩) (by show X j.a.a - (L+1) < X j.a.a - L; omega)
 refine jF bE (Ko (bN (JY (JW (fw (vJ (L+1)) (J4 (e:=D3.wrap ((L:Int)+1)) yk f4) (Mz Z (G2 ?_)))))))
 have jG:=(aR.px [] [0,1] []).pf []
 exact Kb (aD,aK,F,L+1) ⟨Z,Z,Z,Z,Z,Z,Z,Z,ZV⟩ (az.2 ⟨jG,U,U,V (aF) (V (ZX (λ q=>dX j B C K a (aH.abs d) (aH.abs l) (aH.abs x) q F L) (pF (n:=X j.a.a) (i:=L) U)) (V (ae (bG aM)) (V (ip Z8) (V (ip R) (V (ae aQ) (V (ip Z1) (V (eD aB) (eD bE))))))))⟩) (by show X j.a.a - (L+1) < X j.a.a - L; omega)
 refine Sz Z1 (Sz Z1 (Sz Z1 (QW (QW (Sz Z1 (fw (Y O) (JU Z Z1 Z) (An Z (rt (rs (fw (Y O) (JX Z (dT R) Z) (nt (jf (Ko (bN (JY (JW (fw (vJ (L+1)) (J4 (e:=D3.wrap ((L:Int)+1)) yk f4) (Mz Z (G2 ?_)))))))))))))))))))
 have jJ:=(aR.px [] [0,1] []).pf []
 exact Kb (aD,aK,F,L+1) ⟨Z,Z,Z,Z,Z,Z,Z,Z,ZV⟩ (az.2 ⟨jJ,U,U,V (aF) (V (ZX (λ q=>dX j B C K a (aH.abs d) (aH.abs l) (aH.abs x) q F L) (pF (n:=X j.a.a) (i:=L) U)) (V (ae (bG aM)) (V (ip Z8) (V (ip R) (V (ae aQ) (eD Z1))))))⟩) (by show X j.a.a - (L+1) < X j.a.a - L; omega)
 refine Sz (dF R) (Sz (dF R) (Sz (dF R) (Sz (dF R) (Sz (dF R) (Sz (dF R) (fw (Y O) (JU Z (dF R) Z) (nt (jf (Ko (bN (JY (JW (fw (vJ (L+1)) (J4 (e:=D3.wrap ((L:Int)+1)) yk f4) (Mz Z (G2 ?_)))))))))))))))
 have jL:=(aP.px [] [0] []).pf []
 exact Kb (aD,aK,F,L+1) ⟨Z,Z,Z,Z,Z,Z,Z,Z,ZV⟩ (az.2 ⟨jL,U,U,V (aF) (V (ZX (λ q=>dX j B C K a (aH.abs d) (aH.abs l) (aH.abs x) q F L) (pF (n:=X j.a.a) (i:=L) U)) (V (ae (bG aM)) (V (ip Z8) (iN R))))⟩) (by show X j.a.a - (L+1) < X j.a.a - L; omega)
 refine Sz Z8 (Sz Z8 (Sz Z8 (Sz Z8 (fw (Y O) (JU Z Z8 Z) (Mz Z (QQ (QQ (QQ (QQ (QQ (QQ (fw (Y O) (QK Z) (nt (jf (Ko (bN (JY (JW (fw (vJ (L+1)) (J4 (e:=D3.wrap ((L:Int)+1)) yk f4) (Mz Z (G2 ?_)))))))))))))))))))))
 have jN:=(aP.px [] [0] []).pf []
 exact Kb (aD,aK,F,L+1) ⟨Z,Z,Z,Z,Z,Z,Z,Z,ZV⟩ (az.2 ⟨jN,U,U,V (aF) (V (ZX (λ q=>dX j B C K a (aH.abs d) (aH.abs l) (aH.abs x) q F L) (pF (n:=X j.a.a) (i:=L) U)) (V (ae (bG aM)) (eD Z8)))⟩) (by show X j.a.a - (L+1) < X j.a.a - L; omega)
 refine jF (dF fC) (H0 (Ka ?_))
 have gX:dX j B C K a (aH.abs d) (aH.abs l) (aH.abs x) (X j.a.a) [] 0=F:=V (aF) (V (ZX (λ q=>dX j B C K a (aH.abs d) (aH.abs l) (aH.abs x) q F L) (Du (n:=X j.a.a) (i:=L) U)) Z)
 refine Ka (Kh (JY (JS (JS (JW (Mz Z (Kz (vJ (X F)) (Mn Z (bo ?_)))))))))
 have gY:X j.a.a=X (M2 (M2 (M2 j.a.a (W a) (aS.q d.a (N (d.b.a++ [C])) d.j d.g)) (W a) (aS.q l.a (N l.b.a) O l.g)) (W a) (aS.q x.a (N x.b.a) x.j ZB)):=by first | omega | (simp only [N0]; done) | (simp only [N0,o3,q6,L0,o1,o2,O5]; omega)
 have jP:Own w D ny [row E (X (M2 (M2 (M2 j.a.a (W a) (aS.q d.a (N (d.b.a++ [C])) d.j d.g)) (W a) (aS.q l.a (N l.b.a) O l.g)) (W a) (aS.q x.a (N x.b.a) x.j ZB))) Z7 (q1 aH.L (M2 (M2 (M2 p (W a) (aH.q d.a (O4 av ax (d.b.a++ [C])) d.j d.g)) (W a) (aH.q l.a l.b O l.g)) (W a) (aH.q x.a x.b x.j ZB))) 159 6,sepL (q1 Kj (M2 (M2 (M2 p (W a) (aH.q d.a (O4 av ax (d.b.a++ [C])) d.j d.g)) (W a) (aH.q l.a l.b O l.g)) (W a) (aH.q x.a x.b x.j ZB))),blk g0 [T E (X (M2 (M2 (M2 j.a.a (W a) (aS.q d.a (N (d.b.a++ [C])) d.j d.g)) (W a) (aS.q l.a (N l.b.a) O l.g)) (W a) (aS.q x.a (N x.b.a) x.j ZB))) Z7] 111,blk g3 [T Z5 (X K.b.a) Z6, T P (X K.g.a) Q] 152,row Z5 (X K.b.a) Z6 (q1 (eN .u64) K.b.a) 33 1,row P (X K.g.a) Q (q1 (eN .u64) K.g.a) 33 1,row aD (X F) aK (q1 (eN .u64) F) 33 1]:=by rw [<- gY]; exact (df.px [] [0,1] [])
 obtain⟨jS,bY⟩:=GH λ (aa:Nat) bF (bH:Nat) bg ah w'=>Own w D w' [blk g0 [T bF (X ah) bH] 111,blk g3 [T Z5 (X K.b.a) Z6, T P (X K.g.a) Q] 152,row Z5 (X K.b.a) Z6 (q1 (eN .u64) K.b.a) 33 1,row P (X K.g.a) Q (q1 (eN .u64) K.g.a) 33 1,row aD (X F) aK (q1 (eN .u64) F) 33 1,row bF (X ah) bH (q1 aH.L bg) 159 6,sepL (q1 Kj bg)]/\s0 aH.abs bg=ah/\aa<=X F/\X ah<=(X (M2 (M2 (M2 j.a.a (W a) (aS.q d.a (N (d.b.a++ [C])) d.j d.g)) (W a) (aS.q l.a (N l.b.a) O l.g)) (W a) (aS.q x.a (N x.b.a) x.j ZB)))+aa/\X ah<=X (M2 (M2 (M2 j.a.a (W a) (aS.q d.a (N (d.b.a++ [C])) d.j d.g)) (W a) (aS.q l.a (N l.b.a) O l.g)) (W a) (aS.q x.a (N x.b.a) x.j ZB))/\iM K F F (M2 (M2 (M2 j.a.a (W a) (aS.q d.a (N (d.b.a++ [C])) d.j d.g)) (W a) (aS.q l.a (N l.b.a) O l.g)) (W a) (aS.q x.a (N x.b.a) x.j ZB))=iM K F (r8 aa F) ah
 refine G3 (λ i:Nat × (Option Addr) × Nat × (List aH) × (List aS)=> [(71,vJ i.1),(70,vJ (X F)),(69, T aD (X F) aK),(10, T aD (X F) aK),(0,vP g0 0),(3,vP g3 0)]) jS (λ i=>X F - i.1) (0,E,Z7,(M2 (M2 (M2 p (W a) (aH.q d.a (O4 av ax (d.b.a++ [C])) d.j d.g)) (W a) (aH.q l.a l.b O l.g)) (W a) (aH.q x.a x.b x.j ZB)),(M2 (M2 (M2 j.a.a (W a) (aS.q d.a (N (d.b.a++ [C])) d.j d.g)) (W a) (aS.q l.a (N l.b.a) O l.g)) (W a) (aS.q x.a (N x.b.a) x.j ZB))) ⟨Z,Z,Z,Z,Z,Z,ZV⟩ (bY.2 ⟨(jP.pb [0,1]),by exact(fq (fq (fq M Z) Z) Z),U,U,U,Z⟩) ?_
 rintro ⟨aa,bF,bH,bg,ah⟩ _ gZ
 show Wp _ _ _ [(71,vJ aa),(70,vJ (X F)),(69, T aD (X F) aK),(10, T aD (X F) aK),(0,vP g0 0),(3,vP g3 0)] _ _
 obtain⟨bi,bZ,_,_,_,dK⟩:=bY.1 gZ
 have nL:=bf bZ
 refine sr (Kz (Za ((aa:Int) < (X F:Int))) (nt (JS ?_)))
 by_cases fK:(aa:Int) < (X F:Int)
 obtain⟨dL,dN⟩:=dM (ls:=F) (i:=aa) iQ f7 (bi.rds (i:=4) Z) f5
 refine jT (dT fK) (sk (JS (bo (sr (fw (Zz (Zv ⟨ab aD,ao aD+aa *1,Zk⟩)) (J9 (jk) Z Z ((bi.rds (i:=4) Z).addr (i:=aa) U) U) (fw (vU dL) (J5 Z (bO.one E0 (((bi.rds (i:=4) Z).elem iQ dN f7).at_ (k:=0) Z))) (An Z (JW (Mz Z (Mz Z ?_))))))))))
 obtain⟨dO,dP⟩:∃ q,jU (bn.q (N ah)) dL=q:=⟨_,Z⟩
 obtain⟨_,ic,_,ig,_⟩:=KR (bi.pf [0,5,6])
 refine cl Tryz.call119 (pV _ _ g0 (bn.q (N ah)) bF bH bg dL dO ic bZ g4 dP) ?_
 rintro _ _ ⟨jW,jX,jY,rfl,il,dQ,dR⟩
 have fM:=ig _ _ il
 have nO:=bf dQ
 have nQ:=fM.rowC (i:=1) Z
 replace dR:X dO.a.a<=X ah:=dR
 refine G2 (bN (JY (JW (fw (vJ (aa+1)) (J4 (e:=D3.wrap ((aa:Int)+1)) yk f4) (Mz Z (G2 ?_))))))
 exact Kb (aa+1,jW,jX,jY,dO.a.a) ⟨Z,Z,Z,Z,Z,Z,ZV⟩ (bY.2 ⟨(fM.pb [1,2]),by exact dQ,U,U,U,V (dK) (V (ZX (λ q=>iM K F q ah) (drop_at dN)) (ae dP))⟩) (by show X F - (aa+1) < X F - aa; omega)
 refine jF (dF fK) (H0 (Ka ?_))
 have iq:iM K F F (M2 (M2 (M2 j.a.a (W a) (aS.q d.a (N (d.b.a++ [C])) d.j d.g)) (W a) (aS.q l.a (N l.b.a) O l.g)) (W a) (aS.q x.a (N x.b.a) x.j ZB))=ah:=V (dK) (V (ZX (λ q=>iM K F q ah) (eU (ls:=F) (i:=aa) U)) Z)
 refine Ka (Kh (JY (JW (Mz Z (Mz Z (Kz (vP g3 0) (Kz (vP g3 1) (Lz (T P (X K.g.a) Q) bi 1 Tryz.isAgg36 (Mz Z ?_)))))))))
 have fP:=bi.pf [3]
 refine WL.do Z (Kk (k:=X K.g.a) (m:=X F) (jk) fP Z Z (eO P7 (fP.rds (i:=4) Z) (cO nu F)) Z U (s:=X (K.g.a++F)) f6 (u3).symm ?_)
 intro fQ fT _ j4
 have nR:X (K.g.a++F)=X K.g.a+X F:=by simp only [o3,q6,L0]
 refine Kz (vP g3 0) (Kz (vP g3 1) (cu [T fQ (X (K.g.a++F)) fT] 1 (j4.pf [2]) Tryz.sizeOf36 ?_))
 intro _ kg
 refine G2 (KD (res0 Z) ?_)
 obtain⟨rfl,rfl⟩:=fI (zj hr (show _=(bn.q (N ah),fO.q (N K.b.a) (N (K.g.a++F))) from V (ae dA) (V (ip bU) (V (ae (bG fB)) (V (ae (bG (ik (fq M Z) bA))) (V (ae (bG (ik (fq (fq M Z) Z) bC))) (V (ae gX) (ae iq))))))))
 exact⟨bF,bH,bg,Z5,Z6,fQ,fT,Z,(kg.px [] [4] [0,3,1]),bZ⟩
 have h39t:Zd bS=0:=by rw [bU]; rfl
 refine jT (cn bU) (JW (Mz Z (Mz Z (Kz (vP g0 0) (Kz (vP g0 0) (Lz (T E (X j.a.a) Z7) bT 0 O8 (Mz Z (Mz Z (Kz (Zq #[vU B, T Zk 0 0, Y O, Z9 ⟨Zb []⟩, Z9 ⟨Zb []⟩, Y O]) (WL.do Z (K6 (cs:= [vU B, T Zk 0 0, Y O, Z9 ⟨Zb []⟩, Z9 ⟨Zb []⟩, Y O]) (t:=159) (sz:=6) (m:=1) bT Z Z ZY Z ?_)))))))))))
 intro fU kr dS
 replace dS:=Ku (y:=mF fU 1 (q1 aH.L ([(aH.q B (O4 Zk 0 []) O ZB)])) 159 6) Z dS
 have ku:Own w D kr (row Zk 0 0 (q1 aL.L []) 115 3::_):=dS.free (bW 115 3)
 obtain⟨_,iw,_,iy,_⟩:=K7 (ku.pf [4,1,5])
 refine cl Tryz.call122 (Cm _ _ E (X j.a.a) Z7 p a fU (aH.q B (O4 Zk 0 []) O ZB) j.a.a (aS.q B (N []) O ZB) iw U M Z U U) ?_
 rintro _ _ ⟨J,aj,rfl,iA⟩
 have nU:X (u2 (W a) p++((aH.q B (O4 Zk 0 []) O ZB)::r8 (W a) p))=X (u2 (W a) j.a.a++((aS.q B (N []) O ZB)::r8 (W a) j.a.a)):=by exact bf (kw (z:=(aS.q B (N []) O ZB)) M Z)
 have nV:X (u2 (W a) j.a.a++((aS.q B (N []) O ZB)::r8 (W a) j.a.a))=X j.a.a+1:=by simp only [o3,o1,q6,o2]; omega
 refine Kz (vP g0 0) (Kz (vP g0 0) ?_)
 have kz:=(iy _ _ iA).pf [2]
 refine cu [T J (X (u2 (W a) j.a.a++((aS.q B (N []) O ZB)::r8 (W a) j.a.a))) aj] 0 kz Tryz.sizeOf109 ?_
 intro _ bI
 refine ns (Mz Z (Kz (vP g0 0) (Kz (vP g0 0) (Lz (T J (X (u2 (W a) j.a.a++((aS.q B (N []) O ZB)::r8 (W a) j.a.a))) aj) bI 0 O8 (fw (vJ (W a)) (J4 (e:=a) (J3 Z) U) ?_)))))
 obtain⟨b,aG⟩:=dM (ls:=(u2 (W a) p++((aH.q B (O4 Zk 0 []) O ZB)::r8 (W a) p))) (i:=W a) aH.len f7 (bI.rds (i:=1) Z) f5
 have dU:=ik (kw (z:=(aS.q B (N []) O ZB)) M Z) aG
 have nW:X b.b.a<=b.b.c/\X b.b.a<=9223372036854775807:=di bI (i:=2) Z (φ:=λ _=>_) (bL (P6.2 ⟨b,G4 aG,b3⟩) dD)
 have nX:X b.b.a<=1000000:=by have q9:Hd (u2 (W a) j.a.a++((aS.q B (N []) O ZB)::r8 (W a) j.a.a)):=(by first | exact eZ | exact zF eZ (Nt _)); exact q9 _ (G4 dU)
 refine fw (Zz (Zv ⟨ab J,ao J+(W a) *6,Zk⟩)) (J9 (jQ) Z Z ((bI.rds (i:=1) Z).addr (i:=W a) U) U) (An Z (rt (rs (An Z (JS (kL 7 [7,10] (J6 Kg) bI ?_))))))
 intro _ kC
 refine Kr (v:= Zz (Zv ⟨ab J,ao J+(W a) *6,Zk⟩)) 0 Z f1 (λ _=>J3 Z) (qv 1 Z Z (qk (Zz (Zv ⟨ab J,ao J+(W a) *6,Zk⟩)) 2 Z (qk (Zz (Zv ⟨ab J,ao J+(W a) *6+1,Zk⟩)) 3 Z (qt (v:= T b.b.A (X b.b.a) b.b.c) 4 Z (λ _ ⟨_,H9⟩=>J5 Z (bO.one Tryz.isAgg98 (((H9.rds (i:=1) Z).elem aH.len aG f7).at_ (k:=1) Z))) (qt (v:= Zq (Zb (aL.L C))) 5 Z (λ _ ⟨_,H9⟩=>J5 Z (J7 (cs:=(aL.L C)) O9 P0 ((H9.cls (i:=3) Z).lit (k:=0) (m:=3) Z))) (qd 6 Z (KF (cs:=(aL.L C)) (t:=115) (sz:=3) (m:=1) kC Z Z ZY Z f7 ?_)))))))
 intro kD kE dV
 replace dV:=Ku (y:=row kD 1 1 (q1 aL.L ([C])) 115 3) Z dV
 have fV:=dV.pb [0]
 refine⟨.inr ⟨_,fV⟩, ?_⟩
 have dW:Own w D kE (row b.b.A (X b.b.a) b.b.c (q1 aL.L b.b.a) 115 3::sepL (q1 Kj (u2 (W a) (u2 (W a) p++((aH.q B (O4 Zk 0 []) O ZB)::r8 (W a) p)))++q1 Kj (r8 (W a+1) (u2 (W a) p++((aH.q B (O4 Zk 0 []) O ZB)::r8 (W a) p))))::_):=Lu (f:=Kj) (i:=W a) aG (fV.pf [2])
 have nY:=dW.rowC (i:=0) Z
 refine qd 7 Z (Kk (k:=X b.b.a) (m:=1) (vE) dW Z Z (eO K2 (dW.rds (i:=8) Z) (cO aL.one ([C]))) Z U (s:=X (b.b.a++ [C])) f6 (u3).symm ?_)
 intro Z3 Z4 kG kH
 have nZ:X (b.b.a++ [C])=X b.b.a+1:=by simp only [o3,q6,L0]
 refine⟨.inl f1, (Kr (v:= Zz (Zv ⟨ab J,ao J+(W a) *6,Zk⟩)) 8 Z f1 (λ _=>yk) (Kr (v:= Zz (Zv ⟨ab J,ao J+(W a) *6+1,Zk⟩)) 9 Z f1 (λ _=>yk) ?_))⟩
 have kI:Own w D kG (sepL (q1 Kj (M2 (u2 (W a) p++((aH.q B (O4 Zk 0 []) O ZB)::r8 (W a) p)) (W a) (aH.q b.a (O4 Z3 Z4 (b.b.a++ [C])) b.j b.g)))::_):=LJ (f:=Kj) (y:=(aH.q b.a (O4 Z3 Z4 (b.b.a++ [C])) b.j b.g)) aG kH
 refine qe 10 Z (Do.storeRow (vs:= [T Z3 (X (b.b.a++ [C])) Z4]) (o:=(W a) *6+1) (q:=ao J+(W a) *6+1) (kI.pf [2]) Z U Z Tryz.sizeOf98 Z Z (Nr Z) (j3 aH.len aG (Nr Z)) (kV (y:=(aH.q b.a (O4 Z3 Z4 (b.b.a++ [C])) b.j b.g)) aH.len Z (Nr Z) aG) ?_)
 intro _ kK
 have og:X (M2 (u2 (W a) p++((aH.q B (O4 Zk 0 []) O ZB)::r8 (W a) p)) (W a) (aH.q b.a (O4 Z3 Z4 (b.b.a++ [C])) b.j b.g))=X (M2 (u2 (W a) j.a.a++((aS.q B (N []) O ZB)::r8 (W a) j.a.a)) (W a) (aS.q b.a (N (b.b.a++ [C])) b.j b.g)):=bf (fq (kw (z:=(aS.q B (N []) O ZB)) M Z) Z)
 have oh:X (M2 (u2 (W a) j.a.a++((aS.q B (N []) O ZB)::r8 (W a) j.a.a)) (W a) (aS.q b.a (N (b.b.a++ [C])) b.j b.g))=X (u2 (W a) j.a.a++((aS.q B (N []) O ZB)::r8 (W a) j.a.a)):=N0
 refine⟨.inl f1, (qn (JY (JS ?_)))⟩
 have dZ:=kK.px [] [7] []
 refine JW (Mz Z (Mz Z (Kz (Zq #[Z9 ⟨Zb []⟩, Z9 ⟨Zb []⟩, Y O]) (Kz (Zz (Zv ⟨ab J,ao J+(W a) *6,Zk⟩)) (Kz (Zz (Zv ⟨ab J,ao J+(W a) *6+2,Zk⟩)) ?_)))))
 obtain⟨g,aT⟩:=dM (ls:=(M2 (u2 (W a) p++((aH.q B (O4 Zk 0 []) O ZB)::r8 (W a) p)) (W a) (aH.q b.a (O4 Z3 Z4 (b.b.a++ [C])) b.j b.g))) (i:=W a) aH.len f7 (dZ.rds (i:=0) Z) f5
 have ol:X g.b.a<=g.b.c/\X g.b.a<=9223372036854775807:=di dZ (i:=1) Z (φ:=λ _=>_) (bL (P6.2 ⟨g,G4 aT,b3⟩) dD)
 refine KO (Do.storeRow (vs:= [Y O]) (o:=(W a) *6+2) (q:=ao J+(W a) *6+2) dZ Z U Z Tryz.sizeOf4 Z Z (Nr Z) (j3 aH.len aT (Nr Z)) (kV (y:=(aH.q g.a g.b O g.g)) aH.len Z (Nr Z) aT) ?_)
 intro kM kN
 have d9:Own w D kM [row J (X (u2 (W a) j.a.a++((aS.q B (N []) O ZB)::r8 (W a) j.a.a))) aj (q1 aH.L (M2 (M2 (u2 (W a) p++((aH.q B (O4 Zk 0 []) O ZB)::r8 (W a) p)) (W a) (aH.q b.a (O4 Z3 Z4 (b.b.a++ [C])) b.j b.g)) (W a) (aH.q g.a g.b O g.g))) 159 6,sepL (q1 Kj (M2 (M2 (u2 (W a) p++((aH.q B (O4 Zk 0 []) O ZB)::r8 (W a) p)) (W a) (aH.q b.a (O4 Z3 Z4 (b.b.a++ [C])) b.j b.g)) (W a) (aH.q g.a g.b O g.g))),blk g0 [T J (X (u2 (W a) j.a.a++((aS.q B (N []) O ZB)::r8 (W a) j.a.a))) aj] 111,blk fe (aL.L C) 115,blk g3 [T Z5 (X K.b.a) Z6, T P (X K.g.a) Q] 152,row Z5 (X K.b.a) Z6 (q1 (eN .u64) K.b.a) 33 1,row P (X K.g.a) Q (q1 (eN .u64) K.g.a) 33 1]:=by rw [mM (f:=Kj) (y:=(aH.q g.a g.b O g.g)) aT Z]; exact kN
 have om:X (M2 (M2 (u2 (W a) p++((aH.q B (O4 Zk 0 []) O ZB)::r8 (W a) p)) (W a) (aH.q b.a (O4 Z3 Z4 (b.b.a++ [C])) b.j b.g)) (W a) (aH.q g.a g.b O g.g))=X (M2 (M2 (u2 (W a) j.a.a++((aS.q B (N []) O ZB)::r8 (W a) j.a.a)) (W a) (aS.q b.a (N (b.b.a++ [C])) b.j b.g)) (W a) (aS.q g.a (N g.b.a) O g.g)):=bf (fq (fq (kw (z:=(aS.q B (N []) O ZB)) M Z) Z) Z)
 have oo:X (M2 (M2 (u2 (W a) j.a.a++((aS.q B (N []) O ZB)::r8 (W a) j.a.a)) (W a) (aS.q b.a (N (b.b.a++ [C])) b.j b.g)) (W a) (aS.q g.a (N g.b.a) O g.g))=X (M2 (u2 (W a) j.a.a++((aS.q B (N []) O ZB)::r8 (W a) j.a.a)) (W a) (aS.q b.a (N (b.b.a++ [C])) b.j b.g)):=N0
 refine Kz (Zz (Zv ⟨ab J,ao J+(W a) *6,Zk⟩)) (Kz (Zz (Zv ⟨ab J,ao J+(W a) *6+3,Zk⟩)) ?_)
 obtain⟨h,aU⟩:=dM (ls:=(M2 (M2 (u2 (W a) p++((aH.q B (O4 Zk 0 []) O ZB)::r8 (W a) p)) (W a) (aH.q b.a (O4 Z3 Z4 (b.b.a++ [C])) b.j b.g)) (W a) (aH.q g.a g.b O g.g))) (i:=W a) aH.len f7 (d9.rds (i:=0) Z) f5
 have oq:X h.b.a<=h.b.c/\X h.b.a<=9223372036854775807:=di d9 (i:=1) Z (φ:=λ _=>_) (bL (P6.2 ⟨h,G4 aU,b3⟩) dD)
 refine KO (Do.storeRow (vs:= [Z9 ⟨Zb []⟩, Z9 ⟨Zb []⟩, Y O]) (o:=(W a) *6+3) (q:=ao J+(W a) *6+3) d9 Z U Z P0 Z Z (Nr Z) (j3 aH.len aU (Nr Z)) (kV (y:=(aH.q h.a h.b h.j ZB)) aH.len Z (Nr Z) aU) ?_)
 intro kP kQ
 have fZ:Own w D kP [row J (X (u2 (W a) j.a.a++((aS.q B (N []) O ZB)::r8 (W a) j.a.a))) aj (q1 aH.L (M2 (M2 (M2 (u2 (W a) p++((aH.q B (O4 Zk 0 []) O ZB)::r8 (W a) p)) (W a) (aH.q b.a (O4 Z3 Z4 (b.b.a++ [C])) b.j b.g)) (W a) (aH.q g.a g.b O g.g)) (W a) (aH.q h.a h.b h.j ZB))) 159 6,sepL (q1 Kj (M2 (M2 (M2 (u2 (W a) p++((aH.q B (O4 Zk 0 []) O ZB)::r8 (W a) p)) (W a) (aH.q b.a (O4 Z3 Z4 (b.b.a++ [C])) b.j b.g)) (W a) (aH.q g.a g.b O g.g)) (W a) (aH.q h.a h.b h.j ZB))),blk g0 [T J (X (u2 (W a) j.a.a++((aS.q B (N []) O ZB)::r8 (W a) j.a.a))) aj] 111,blk fe (aL.L C) 115,blk g3 [T Z5 (X K.b.a) Z6, T P (X K.g.a) Q] 152,row Z5 (X K.b.a) Z6 (q1 (eN .u64) K.b.a) 33 1,row P (X K.g.a) Q (q1 (eN .u64) K.g.a) 33 1]:=by rw [mM (f:=Kj) (y:=(aH.q h.a h.b h.j ZB)) aU Z]; exact kQ
 have ou:X (M2 (M2 (M2 (u2 (W a) p++((aH.q B (O4 Zk 0 []) O ZB)::r8 (W a) p)) (W a) (aH.q b.a (O4 Z3 Z4 (b.b.a++ [C])) b.j b.g)) (W a) (aH.q g.a g.b O g.g)) (W a) (aH.q h.a h.b h.j ZB))=X (M2 (M2 (M2 (u2 (W a) j.a.a++((aS.q B (N []) O ZB)::r8 (W a) j.a.a)) (W a) (aS.q b.a (N (b.b.a++ [C])) b.j b.g)) (W a) (aS.q g.a (N g.b.a) O g.g)) (W a) (aS.q h.a (N h.b.a) h.j ZB)):=bf (fq (fq (fq (kw (z:=(aS.q B (N []) O ZB)) M Z) Z) Z) Z)
 have ow:X (M2 (M2 (M2 (u2 (W a) j.a.a++((aS.q B (N []) O ZB)::r8 (W a) j.a.a)) (W a) (aS.q b.a (N (b.b.a++ [C])) b.j b.g)) (W a) (aS.q g.a (N g.b.a) O g.g)) (W a) (aS.q h.a (N h.b.a) h.j ZB))=X (M2 (M2 (u2 (W a) j.a.a++((aS.q B (N []) O ZB)::r8 (W a) j.a.a)) (W a) (aS.q b.a (N (b.b.a++ [C])) b.j b.g)) (W a) (aS.q g.a (N g.b.a) O g.g)):=N0
 refine ns (Mz Z (La (aL.L C) fZ 3 O9 P0 (WL.do Z (Ki Tryz.call117 Z ?_ (λ _ _ k=>k)))))
 refine cb Tryz.func117 (sr ?_)
 refine cB [vU B] 33 fZ ?_
 intro bJ _ kR
 refine cB (aL.L C) 115 kR ?_
 intro aV kS kT
 refine Ar Z (Kz (.func (.func 168) #[] #[vP aV 0,vP bJ 0]) (An Z (rt (rs (An Z (JS ?_))))))
 have gm:=kT.px [] [5] []
 refine JW (An Z (JS (sr (Mz Z (Kz (vP g0 0) (Kz (vP g0 0) (Lz (T J (X (u2 (W a) j.a.a++((aS.q B (N []) O ZB)::r8 (W a) j.a.a))) aj) gm 4 O8 (Kz (vI ((X (u2 (W a) j.a.a++((aS.q B (N []) O ZB)::r8 (W a) j.a.a)):Nat):Int)) (Mn Z (bo ?_))))))))))
 have kU:Own w D kS (row Zk 0 0 (q1 (eN .u64) []) 33 1::_):=gm.free (bW 33 1)
 obtain⟨kX,aA⟩:=uG λ ag (au:Nat) r (u:Nat) w'=>Own w D w' [blk aV (aL.L C) 115,blk bJ [vU B] 33,row J (X (u2 (W a) j.a.a++((aS.q B (N []) O ZB)::r8 (W a) j.a.a))) aj (q1 aH.L (M2 (M2 (M2 (u2 (W a) p++((aH.q B (O4 Zk 0 []) O ZB)::r8 (W a) p)) (W a) (aH.q b.a (O4 Z3 Z4 (b.b.a++ [C])) b.j b.g)) (W a) (aH.q g.a g.b O g.g)) (W a) (aH.q h.a h.b h.j ZB))) 159 6,sepL (q1 Kj (M2 (M2 (M2 (u2 (W a) p++((aH.q B (O4 Zk 0 []) O ZB)::r8 (W a) p)) (W a) (aH.q b.a (O4 Z3 Z4 (b.b.a++ [C])) b.j b.g)) (W a) (aH.q g.a g.b O g.g)) (W a) (aH.q h.a h.b h.j ZB))),blk g0 [T J (X (u2 (W a) j.a.a++((aS.q B (N []) O ZB)::r8 (W a) j.a.a))) aj] 111,blk g3 [T Z5 (X K.b.a) Z6, T P (X K.g.a) Q] 152,row Z5 (X K.b.a) Z6 (q1 (eN .u64) K.b.a) 33 1,row P (X K.g.a) Q (q1 (eN .u64) K.g.a) 33 1,row ag (X r) au (q1 (eN .u64) r) 33 1]/\u<=X (u2 (W a) j.a.a++((aS.q B (N []) O ZB)::r8 (W a) j.a.a))/\X r<=u/\dY j B C K a (aH.abs b) (aH.abs g) (aH.abs h) (X (u2 (W a) j.a.a++((aS.q B (N []) O ZB)::r8 (W a) j.a.a))) [] 0=dY j B C K a (aH.abs b) (aH.abs g) (aH.abs h) ((X (u2 (W a) j.a.a++((aS.q B (N []) O ZB)::r8 (W a) j.a.a))) - u) r u
 refine G3 (λ i:(Option Addr) × Nat × (List Nat) × Nat=> [(10, T i.1 (X i.2.2.1) i.2.1),(43,vJ i.2.2.2),(42,vI ((X (u2 (W a) j.a.a++((aS.q B (N []) O ZB)::r8 (W a) j.a.a)):Nat):Int)),(41, T J (X (u2 (W a) j.a.a++((aS.q B (N []) O ZB)::r8 (W a) j.a.a))) aj),(9, .func (.func 168) #[] #[vP aV 0,vP bJ 0]),(0,vP g0 0),(1,vU B),(3,vP g3 0)]) kX (λ i=>(X (u2 (W a) j.a.a++((aS.q B (N []) O ZB)::r8 (W a) j.a.a))) - i.2.2.2) (Zk,0, [],0) ⟨Z,Z,Z,Z,Z,Z,Z,Z,ZV⟩ (aA.2 ⟨(kU.pb [0]),(show 0<=X (u2 (W a) j.a.a++((aS.q B (N []) O ZB)::r8 (W a) j.a.a))/\0<=0/\dY j B C K a (aH.abs b) (aH.abs g) (aH.abs h) (X (u2 (W a) j.a.a++((aS.q B (N []) O ZB)::r8 (W a) j.a.a))) [] 0=dY j B C K a (aH.abs b) (aH.abs g) (aH.abs h) ((X (u2 (W a) j.a.a++((aS.q B (N []) O ZB)::r8 (W a) j.a.a))) - 0) [] 0 from ⟨U,U,Z⟩)⟩) ?_
 rintro ⟨ag,au,r,u⟩ kY iD
 show Wp _ _ _ [(10, T ag (X r) au),(43,vJ u),(42,vI ((X (u2 (W a) j.a.a++((aS.q B (N []) O ZB)::r8 (W a) j.a.a)):Nat):Int)),(41, T J (X (u2 (W a) j.a.a++((aS.q B (N []) O ZB)::r8 (W a) j.a.a))) aj),(9, .func (.func 168) #[] #[vP aV 0,vP bJ 0]),(0,vP g0 0),(1,vU B),(3,vP g3 0)] _ _
 obtain⟨bq,_,_,aI⟩:=aA.1 iD
 refine sr (Kz (Za ((u:Int) < ((X (u2 (W a) j.a.a++((aS.q B (N []) O ZB)::r8 (W a) j.a.a)):Nat):Int))) (nt (JS ?_)))
 by_cases gp:(u:Int) < ((X (u2 (W a) j.a.a++((aS.q B (N []) O ZB)::r8 (W a) j.a.a)):Nat):Int)
 refine jT (dT gp) (sk (JS (bo (sr ?_))))
 obtain⟨I,cz⟩:=dM (ls:=(M2 (M2 (M2 (u2 (W a) p++((aH.q B (O4 Zk 0 []) O ZB)::r8 (W a) p)) (W a) (aH.q b.a (O4 Z3 Z4 (b.b.a++ [C])) b.j b.g)) (W a) (aH.q g.a g.b O g.g)) (W a) (aH.q h.a h.b h.j ZB))) (i:=u) aH.len f7 (bq.rds (i:=2) Z) f5
 have aN:=ik (fq (fq (fq (kw (z:=(aS.q B (N []) O ZB)) M Z) Z) Z) Z) cz
 have oD:X I.b.a<=I.b.c/\X I.b.a<=9223372036854775807:=di bq (i:=3) Z (φ:=λ _=>_) (bL (P6.2 ⟨I,G4 cz,b3⟩) dD)
 refine fw (Zz (Zv ⟨ab J,ao J+u *6,Zk⟩)) (J9 (jQ) Z Z ((bq.rds (i:=2) Z).addr (i:=u) U) U) (fw (Zq (Zb (aH.L I))) (J5 Z (J7 (cs:=(aH.L I)) Tryz.isAgg159 O7 ((bq.rds (i:=2) Z).elem aH.len cz f7))) (cB [.int .u64 0, T Zk 0 0, Y O, Z9 ⟨Zb []⟩, Z9 ⟨Zb []⟩, Y O] 159 bq ?_))
 intro bu _ kZ
 refine cu (aH.L I) 0 kZ O7 ?_
 intro _ aW
 refine ns (Kz (vP bu 2) (Lz (Y I.j) aW 0 H2 (Mz Z ?_)))
 rcases Nv (I.j) with Z2 | Z2
 refine Gz (vP bu 0) Z2 (Gl (vU I.a) Z2 aW 0 E0 (KC (v:=vU B) Z Z Z2 Z (J3 Z) (Gz (Za ((I.a:Int) > (B:Int))) Z2 (fw (Za ((I.a:Int) > (B:Int))) (JX Z Z2 Z) (Mz Z ?_)))))
 by_cases S:(I.a:Int) > (B:Int)
 refine gw (.func (.func 168) #[] #[vP aV 0,vP bJ 0]) (dT S) (J3 Z) (Gz (vP bu 0) (dT S) (Gl (vU I.a) (dT S) aW 0 E0 (Gz (vP bu 3) (dT S) (Ga (aL.L I.g) (dT S) aW 0 O9 P0 (KU Z Z (dT S) Z (KA Tryz.call168 Z Z ?_ (λ _ _ k=>k)))))))
 refine cb Tryz.func168 (sr ?_)
 refine cB (aL.L I.g) 115 aW ?_
 intro gq _ ed
 refine Ar Z (Kz (vP aV 0) (La (ai.L C.j) ed 2 C6 C5 (Kz (vP gq 0) (La (ai.L I.g.j) ed 0 C6 C5 ?_))))
 obtain⟨⟨ek,bK⟩,aX⟩:∃ q:ai × Bool,iZ C.j I.g.j=q:=⟨_,Z⟩
 obtain⟨_,iE,_,iF,_⟩:=JZ ed
 refine cl Tryz.call151 (nP _ _ C.j I.g.j ek bK iE aX) ?_
 rintro _ _ ⟨rfl,iG⟩
 refine Mz Z (Kz (Zq (Zb (ai.L ek))) (Kz (Y bK) (cB [Z9 ⟨Zb []⟩, Z9 ⟨Zb []⟩] 38 (iF _ _ iG) ?_)))
 intro _ _ lg
 refine cu (ai.L ek) 0 lg C5 ?_
 intro _ lh
 refine An Z (JS ?_)
 have aY:=lh.px [] [0] []
 refine JW (Mz Z (Lz (vU B) aY 3 E0 (fw (Za (¬ ((I.a:Int)=(B:Int)))) (Kc (e:= !(Zw ((I.a:Int)=(B:Int)))) yk ZW) (Mz Z ?_))))
 have eu:(Zw (¬ ((I.a:Int)=(B:Int))))=Zj:=(dT U)
 refine KC (v:= Y bK) Z Z eu Z (J3 Z) (fw (Y bK) (JX Z eu Z) (Mz Z ?_))
 rcases Nv (bK) with Z0 | Z0
 refine Gz (vP aV 2) Z0 (Gl (Y C.a) Z0 aY 2 H2 (KC (v:= Y C.a) Z Z Z0 Z (J3 Z) ?_))
 rcases Nv (C.a) with aC | aC
 refine Sz aC (Sz aC (KC (v:= Y Zj) Z Z Z0 Z (JX Z aC Z) (fw (Y Zj) (JX Z Z0 Z) (An Z (rt (rs (fw (Y Zj) (JX Z (dT S) Z) (nt (jt ?_)))))))))
 have gu:=aY.px [] [0] []
 refine JW (Mz Z (Kz (vP bu 0) (Lz (vU I.a) gu 0 E0 (j6 [vU I.a] 33 1 1 gu ?_))))
 intro ll _ eB
 replace eB:=Ku (y:=row ll 1 1 (q1 (eN .u64) ([I.a])) 33 1) Z eB
 have gy:=eB.pf [10]
 refine WL.do Z (Kk (k:=X r) (m:=1) (jk) gy Z Z (eO P7 (gy.rds (i:=1) Z) (cO nu ([I.a]))) Z U (s:=X (r++ [I.a])) f6 (u3).symm ?_)
 intro lm lq _ lu
 have oH:X (r++ [I.a])=X r+1:=by simp only [o3,q6,L0]
 refine Az Z (G2 (bN (JY (JW (fw (vJ (u+1)) (J4 (e:=D3.wrap ((u:Int)+1)) yk f4) (Mz Z (G2 ?_)))))))
 have lw:=(lu.px [] [1,2] []).pb [0]
 exact Kb (lm,lq,(r++ [I.a]),u+1) ⟨Z,Z,Z,Z,Z,Z,Z,Z,ZV⟩ (aA.2 ⟨lw,U,U,V (aI) (V (ZX (λ q=>dY j B C K a (aH.abs b) (aH.abs g) (aH.abs h) q r u) (pF (n:=X (u2 (W a) j.a.a++((aS.q B (N []) O ZB)::r8 (W a) j.a.a))) (i:=u) U)) (V (ae (bG aN)) (V (ip Z2) (V (ip S) (V (ae aX) (V (ip Z0) (ip aC)))))))⟩) (by show (X (u2 (W a) j.a.a++((aS.q B (N []) O ZB)::r8 (W a) j.a.a))) - (u+1) < (X (u2 (W a) j.a.a++((aS.q B (N []) O ZB)::r8 (W a) j.a.a))) - u; omega)
 refine Gz (vP gq 2) aC (Gl (Y I.g.a) aC aY 0 H2 (KC (v:= Y I.g.a) Z Z Z0 Z (JU Z aC Z) (fw (Y I.g.a) (JX Z Z0 Z) (An Z (rt (rs (fw (Y I.g.a) (JX Z (dT S) Z) (nt ?_))))))))
 rcases Nv (I.g.a) with bM | bM
 refine jT bM ?_
 have gz:=aY.px [] [0] []
 refine JW (Mz Z (Kz (vP bu 0) (Lz (vU I.a) gz 0 E0 (j6 [vU I.a] 33 1 1 gz ?_))))
 intro lC _ eF
 replace eF:=Ku (y:=row lC 1 1 (q1 (eN .u64) ([I.a])) 33 1) Z eF
 have gB:=eF.pf [10]
 refine WL.do Z (Kk (k:=X r) (m:=1) (jk) gB Z Z (eO P7 (gB.rds (i:=1) Z) (cO nu ([I.a]))) Z U (s:=X (r++ [I.a])) f6 (u3).symm ?_)
 intro lD lF _ lG
 have oI:X (r++ [I.a])=X r+1:=by simp only [o3,q6,L0]
 refine Az Z (G2 (bN (JY (JW (fw (vJ (u+1)) (J4 (e:=D3.wrap ((u:Int)+1)) yk f4) (Mz Z (G2 ?_)))))))
 have lI:=(lG.px [] [1,2] []).pb [0]
 exact Kb (lD,lF,(r++ [I.a]),u+1) ⟨Z,Z,Z,Z,Z,Z,Z,Z,ZV⟩ (aA.2 ⟨lI,U,U,V (aI) (V (ZX (λ q=>dY j B C K a (aH.abs b) (aH.abs g) (aH.abs h) q r u) (pF (n:=X (u2 (W a) j.a.a++((aS.q B (N []) O ZB)::r8 (W a) j.a.a))) (i:=u) U)) (V (ae (bG aN)) (V (ip Z2) (V (ip S) (V (ae aX) (V (ip Z0) (V (eD aC) (ip bM))))))))⟩) (by show (X (u2 (W a) j.a.a++((aS.q B (N []) O ZB)::r8 (W a) j.a.a))) - (u+1) < (X (u2 (W a) j.a.a++((aS.q B (N []) O ZB)::r8 (W a) j.a.a))) - u; omega)
 refine jF bM (Ko (bN (JY (JW (fw (vJ (u+1)) (J4 (e:=D3.wrap ((u:Int)+1)) yk f4) (Mz Z (G2 ?_)))))))
 have lK:=(aY.px [] [0,1] []).pf []
 exact Kb (ag,au,r,u+1) ⟨Z,Z,Z,Z,Z,Z,Z,Z,ZV⟩ (aA.2 ⟨lK,U,U,V (aI) (V (ZX (λ q=>dY j B C K a (aH.abs b) (aH.abs g) (aH.abs h) q r u) (pF (n:=X (u2 (W a) j.a.a++((aS.q B (N []) O ZB)::r8 (W a) j.a.a))) (i:=u) U)) (V (ae (bG aN)) (V (ip Z2) (V (ip S) (V (ae aX) (V (ip Z0) (V (eD aC) (eD bM))))))))⟩) (by show (X (u2 (W a) j.a.a++((aS.q B (N []) O ZB)::r8 (W a) j.a.a))) - (u+1) < (X (u2 (W a) j.a.a++((aS.q B (N []) O ZB)::r8 (W a) j.a.a))) - u; omega)
 refine Sz Z0 (Sz Z0 (Sz Z0 (QW (QW (Sz Z0 (fw (Y O) (JU Z Z0 Z) (An Z (rt (rs (fw (Y O) (JX Z (dT S) Z) (nt (jf (Ko (bN (JY (JW (fw (vJ (u+1)) (J4 (e:=D3.wrap ((u:Int)+1)) yk f4) (Mz Z (G2 ?_)))))))))))))))))))
 have lM:=(aY.px [] [0,1] []).pf []
 exact Kb (ag,au,r,u+1) ⟨Z,Z,Z,Z,Z,Z,Z,Z,ZV⟩ (aA.2 ⟨lM,U,U,V (aI) (V (ZX (λ q=>dY j B C K a (aH.abs b) (aH.abs g) (aH.abs h) q r u) (pF (n:=X (u2 (W a) j.a.a++((aS.q B (N []) O ZB)::r8 (W a) j.a.a))) (i:=u) U)) (V (ae (bG aN)) (V (ip Z2) (V (ip S) (V (ae aX) (eD Z0))))))⟩) (by show (X (u2 (W a) j.a.a++((aS.q B (N []) O ZB)::r8 (W a) j.a.a))) - (u+1) < (X (u2 (W a) j.a.a++((aS.q B (N []) O ZB)::r8 (W a) j.a.a))) - u; omega)
 refine Sz (dF S) (Sz (dF S) (Sz (dF S) (Sz (dF S) (Sz (dF S) (Sz (dF S) (fw (Y O) (JU Z (dF S) Z) (nt (jf (Ko (bN (JY (JW (fw (vJ (u+1)) (J4 (e:=D3.wrap ((u:Int)+1)) yk f4) (Mz Z (G2 ?_)))))))))))))))
 have lQ:=(aW.px [] [0] []).pf []
 exact Kb (ag,au,r,u+1) ⟨Z,Z,Z,Z,Z,Z,Z,Z,ZV⟩ (aA.2 ⟨lQ,U,U,V (aI) (V (ZX (λ q=>dY j B C K a (aH.abs b) (aH.abs g) (aH.abs h) q r u) (pF (n:=X (u2 (W a) j.a.a++((aS.q B (N []) O ZB)::r8 (W a) j.a.a))) (i:=u) U)) (V (ae (bG aN)) (V (ip Z2) (iN S))))⟩) (by show (X (u2 (W a) j.a.a++((aS.q B (N []) O ZB)::r8 (W a) j.a.a))) - (u+1) < (X (u2 (W a) j.a.a++((aS.q B (N []) O ZB)::r8 (W a) j.a.a))) - u; omega)
 refine Sz Z2 (Sz Z2 (Sz Z2 (Sz Z2 (fw (Y O) (JU Z Z2 Z) (Mz Z (QQ (QQ (QQ (QQ (QQ (QQ (fw (Y O) (QK Z) (nt (jf (Ko (bN (JY (JW (fw (vJ (u+1)) (J4 (e:=D3.wrap ((u:Int)+1)) yk f4) (Mz Z (G2 ?_)))))))))))))))))))))
 have lT:=(aW.px [] [0] []).pf []
 exact Kb (ag,au,r,u+1) ⟨Z,Z,Z,Z,Z,Z,Z,Z,ZV⟩ (aA.2 ⟨lT,U,U,V (aI) (V (ZX (λ q=>dY j B C K a (aH.abs b) (aH.abs g) (aH.abs h) q r u) (pF (n:=X (u2 (W a) j.a.a++((aS.q B (N []) O ZB)::r8 (W a) j.a.a))) (i:=u) U)) (V (ae (bG aN)) (eD Z2)))⟩) (by show (X (u2 (W a) j.a.a++((aS.q B (N []) O ZB)::r8 (W a) j.a.a))) - (u+1) < (X (u2 (W a) j.a.a++((aS.q B (N []) O ZB)::r8 (W a) j.a.a))) - u; omega)
 refine jF (dF gp) (H0 (Ka ?_))
 have iH:dY j B C K a (aH.abs b) (aH.abs g) (aH.abs h) (X (u2 (W a) j.a.a++((aS.q B (N []) O ZB)::r8 (W a) j.a.a))) [] 0=r:=V (aI) (V (ZX (λ q=>dY j B C K a (aH.abs b) (aH.abs g) (aH.abs h) q r u) (Du (n:=X (u2 (W a) j.a.a++((aS.q B (N []) O ZB)::r8 (W a) j.a.a))) (i:=u) U)) Z)
 refine Ka (Kh (JY (JS (JS (JW (Mz Z (Kz (vJ (X r)) (Mn Z (bo ?_)))))))))
 have iI:X (u2 (W a) j.a.a++((aS.q B (N []) O ZB)::r8 (W a) j.a.a))=X (M2 (M2 (M2 (u2 (W a) j.a.a++((aS.q B (N []) O ZB)::r8 (W a) j.a.a)) (W a) (aS.q b.a (N (b.b.a++ [C])) b.j b.g)) (W a) (aS.q g.a (N g.b.a) O g.g)) (W a) (aS.q h.a (N h.b.a) h.j ZB)):=by first | omega | (simp only [N0]; done) | (simp only [N0,o3,q6,L0,o1,o2,O5]; omega)
 have lV:Own w D kY [row J (X (M2 (M2 (M2 (u2 (W a) j.a.a++((aS.q B (N []) O ZB)::r8 (W a) j.a.a)) (W a) (aS.q b.a (N (b.b.a++ [C])) b.j b.g)) (W a) (aS.q g.a (N g.b.a) O g.g)) (W a) (aS.q h.a (N h.b.a) h.j ZB))) aj (q1 aH.L (M2 (M2 (M2 (u2 (W a) p++((aH.q B (O4 Zk 0 []) O ZB)::r8 (W a) p)) (W a) (aH.q b.a (O4 Z3 Z4 (b.b.a++ [C])) b.j b.g)) (W a) (aH.q g.a g.b O g.g)) (W a) (aH.q h.a h.b h.j ZB))) 159 6,sepL (q1 Kj (M2 (M2 (M2 (u2 (W a) p++((aH.q B (O4 Zk 0 []) O ZB)::r8 (W a) p)) (W a) (aH.q b.a (O4 Z3 Z4 (b.b.a++ [C])) b.j b.g)) (W a) (aH.q g.a g.b O g.g)) (W a) (aH.q h.a h.b h.j ZB))),blk g0 [T J (X (M2 (M2 (M2 (u2 (W a) j.a.a++((aS.q B (N []) O ZB)::r8 (W a) j.a.a)) (W a) (aS.q b.a (N (b.b.a++ [C])) b.j b.g)) (W a) (aS.q g.a (N g.b.a) O g.g)) (W a) (aS.q h.a (N h.b.a) h.j ZB))) aj] 111,blk g3 [T Z5 (X K.b.a) Z6, T P (X K.g.a) Q] 152,row Z5 (X K.b.a) Z6 (q1 (eN .u64) K.b.a) 33 1,row P (X K.g.a) Q (q1 (eN .u64) K.g.a) 33 1,row ag (X r) au (q1 (eN .u64) r) 33 1]:=by rw [<- iI]; exact (bq.px [] [0,1] [])
 obtain⟨lX,cK⟩:=GH λ (af:Nat) bP (bQ:Nat) bv ak w'=>Own w D w' [blk g0 [T bP (X ak) bQ] 111,blk g3 [T Z5 (X K.b.a) Z6, T P (X K.g.a) Q] 152,row Z5 (X K.b.a) Z6 (q1 (eN .u64) K.b.a) 33 1,row P (X K.g.a) Q (q1 (eN .u64) K.g.a) 33 1,row ag (X r) au (q1 (eN .u64) r) 33 1,row bP (X ak) bQ (q1 aH.L bv) 159 6,sepL (q1 Kj bv)]/\s0 aH.abs bv=ak/\af<=X r/\X ak<=(X (M2 (M2 (M2 (u2 (W a) j.a.a++((aS.q B (N []) O ZB)::r8 (W a) j.a.a)) (W a) (aS.q b.a (N (b.b.a++ [C])) b.j b.g)) (W a) (aS.q g.a (N g.b.a) O g.g)) (W a) (aS.q h.a (N h.b.a) h.j ZB)))+af/\X ak<=X (M2 (M2 (M2 (u2 (W a) j.a.a++((aS.q B (N []) O ZB)::r8 (W a) j.a.a)) (W a) (aS.q b.a (N (b.b.a++ [C])) b.j b.g)) (W a) (aS.q g.a (N g.b.a) O g.g)) (W a) (aS.q h.a (N h.b.a) h.j ZB))/\iO K r r (M2 (M2 (M2 (u2 (W a) j.a.a++((aS.q B (N []) O ZB)::r8 (W a) j.a.a)) (W a) (aS.q b.a (N (b.b.a++ [C])) b.j b.g)) (W a) (aS.q g.a (N g.b.a) O g.g)) (W a) (aS.q h.a (N h.b.a) h.j ZB))=iO K r (r8 af r) ak
 refine G3 (λ i:Nat × (Option Addr) × Nat × (List aH) × (List aS)=> [(71,vJ i.1),(70,vJ (X r)),(69, T ag (X r) au),(10, T ag (X r) au),(0,vP g0 0),(3,vP g3 0)]) lX (λ i=>X r - i.1) (0,J,aj,(M2 (M2 (M2 (u2 (W a) p++((aH.q B (O4 Zk 0 []) O ZB)::r8 (W a) p)) (W a) (aH.q b.a (O4 Z3 Z4 (b.b.a++ [C])) b.j b.g)) (W a) (aH.q g.a g.b O g.g)) (W a) (aH.q h.a h.b h.j ZB)),(M2 (M2 (M2 (u2 (W a) j.a.a++((aS.q B (N []) O ZB)::r8 (W a) j.a.a)) (W a) (aS.q b.a (N (b.b.a++ [C])) b.j b.g)) (W a) (aS.q g.a (N g.b.a) O g.g)) (W a) (aS.q h.a (N h.b.a) h.j ZB))) ⟨Z,Z,Z,Z,Z,Z,ZV⟩ (cK.2 ⟨(lV.pb [0,1]),by exact(fq (fq (fq (kw (z:=(aS.q B (N []) O ZB)) M Z) Z) Z) Z),U,U,U,Z⟩) ?_
 rintro ⟨af,bP,bQ,bv,ak⟩ _ iJ
 show Wp _ _ _ [(71,vJ af),(70,vJ (X r)),(69, T ag (X r) au),(10, T ag (X r) au),(0,vP g0 0),(3,vP g3 0)] _ _
 obtain⟨bz,cZ,_,_,_,eG⟩:=cK.1 iJ
 have oM:=bf cZ
 refine sr (Kz (Za ((af:Int) < (X r:Int))) (nt (JS ?_)))
 by_cases gD:(af:Int) < (X r:Int)
 obtain⟨eH,eP⟩:=dM (ls:=r) (i:=af) iQ f7 (bz.rds (i:=4) Z) f5
 refine jT (dT gD) (sk (JS (bo (sr (fw (Zz (Zv ⟨ab ag,ao ag+af *1,Zk⟩)) (J9 (jk) Z Z ((bz.rds (i:=4) Z).addr (i:=af) U) U) (fw (vU eH) (J5 Z (bO.one E0 (((bz.rds (i:=4) Z).elem iQ eP f7).at_ (k:=0) Z))) (An Z (JW (Mz Z (Mz Z ?_))))))))))
 obtain⟨eQ,eT⟩:∃ q,jU (bn.q (N ak)) eH=q:=⟨_,Z⟩
 obtain⟨_,iL,_,iP,_⟩:=KR (bz.pf [0,5,6])
 refine cl Tryz.call119 (pV _ _ g0 (bn.q (N ak)) bP bQ bv eH eQ iL cZ g4 eT) ?_
 rintro _ _ ⟨lZ,l5,l6,rfl,iR,eX,eY⟩
 have gF:=iP _ _ iR
 have oP:=bf eX
 have oQ:=gF.rowC (i:=1) Z
 replace eY:X eQ.a.a<=X ak:=eY
 refine G2 (bN (JY (JW (fw (vJ (af+1)) (J4 (e:=D3.wrap ((af:Int)+1)) yk f4) (Mz Z (G2 ?_))))))
 exact Kb (af+1,lZ,l5,l6,eQ.a.a) ⟨Z,Z,Z,Z,Z,Z,ZV⟩ (cK.2 ⟨(gF.pb [1,2]),by exact eX,U,U,U,V (eG) (V (ZX (λ q=>iO K r q ak) (drop_at eP)) (ae eT))⟩) (by show X r - (af+1) < X r - af; omega)
 refine jF (dF gD) (H0 (Ka ?_))
 have iT:iO K r r (M2 (M2 (M2 (u2 (W a) j.a.a++((aS.q B (N []) O ZB)::r8 (W a) j.a.a)) (W a) (aS.q b.a (N (b.b.a++ [C])) b.j b.g)) (W a) (aS.q g.a (N g.b.a) O g.g)) (W a) (aS.q h.a (N h.b.a) h.j ZB))=ak:=V (eG) (V (ZX (λ q=>iO K r q ak) (eU (ls:=r) (i:=af) U)) Z)
 refine Ka (Kh (JY (JW (Mz Z (Mz Z (Kz (vP g3 0) (Kz (vP g3 1) (Lz (T P (X K.g.a) Q) bz 1 Tryz.isAgg36 (Mz Z ?_)))))))))
 have gG:=bz.pf [3]
 refine WL.do Z (Kk (k:=X K.g.a) (m:=X r) (jk) gG Z Z (eO P7 (gG.rds (i:=4) Z) (cO nu r)) Z U (s:=X (K.g.a++r)) f6 (u3).symm ?_)
 intro gH gI _ l8
 have oU:X (K.g.a++r)=X K.g.a+X r:=by simp only [o3,q6,L0]
 refine Kz (vP g3 0) (Kz (vP g3 1) (cu [T gH (X (K.g.a++r)) gI] 1 (l8.pf [2]) Tryz.sizeOf36 ?_))
 intro _ ma
 refine G2 (KD (res0 Z) ?_)
 obtain⟨rfl,rfl⟩:=fI (zj hr (show _=(bn.q (N ak),fO.q (N K.b.a) (N (K.g.a++r))) from V (ae dA) (V (eD bU) (V (ae (bG dU)) (V (ae (bG (ik (fq (kw (z:=(aS.q B (N []) O ZB)) M Z) Z) aT))) (V (ae (bG (ik (fq (fq (kw (z:=(aS.q B (N []) O ZB)) M Z) Z) Z) aU))) (V (ae iH) (ae iT))))))))
 exact⟨bP,bQ,bv,Z5,Z6,gH,gI,Z,(ma.px [] [4] [0,3,1]),cZ⟩
end
def Up (l:List aS):Prop:=l.Pairwise λ a b=>a.a < b.a
theorem BG {l:List aS} (hs:Up l) {i j:Nat} {a b:aS} (ha:l[i]? =Zv a) (hb:l[j]? =Zv b) (h:i < j):a.a < b.a:=by
  obtain⟨c,rfl⟩:=List.getElem?_eq_some_iff.1 ha
  obtain⟨d,rfl⟩:=List.getElem?_eq_some_iff.1 hb
  exact List.pairwise_iff_getElem.1 hs i j c d h
theorem cmp_eq (a b:Nat):fo a b=if a < b then -1 else if a > b then 1 else 0:=by
  unfold fo jC
  simp only [bI]
  rw [ZK f7,ZK f7]
  by_cases h:a < b
  . rw [ZJ U,ZJ h]
  . rw [ZK U,ZK h]
    by_cases c:a > b
    . rw [ZJ U,ZJ c]
    . rw [ZK U,ZK c]
theorem nZ {a b:Nat}:fo a b < 0↔a < b:=by
  rw [cmp_eq]; split
  . omega
  . split <;> omega
theorem xO {a b:Nat}:fo a b=0↔a=b:=by
  rw [cmp_eq]; split
  . omega
  . split <;> omega
theorem yX {m:List aS} (hs:Up m) (k:Nat):∀ (f i j:Nat),j - i < f->i<=j->j<=X m->(∀ q p,m[q]? =Zv p->q < i->p.a < k)->(∀ q p,m[q]? =Zv p->j<=q->¬ p.a < k)->
    ∃ r,dR m k f i j=r/\r<=X m/\(∀ q p,m[q]? =Zv p->q < r->p.a < k)/\(∀ q p,m[q]? =Zv p->r<=q->¬ p.a < k)
  | 0,i,j,h,_,_,_,_=>U
  | f+1,i,j,h,hij,hj,hl,hg=>by
    unfold dR
    by_cases b:(i:Int) < (j:Int)
    . obtain⟨x,hx⟩:∃ x,m[(i+j) / 2]? =Zv x:=⟨_,List.getElem?_eq_getElem U⟩
      rw [ZJ b,bI,bI,bG hx]
      by_cases a:fo x.a k < 0
      . rw [ZJ a]
        refine yX hs k f _ j U U hj (λ q p hq hlt=> ?_) hg
        rcases Nat.lt_or_ge q ((i+j) / 2) with e | e
        . exact Nat.lt_trans (BG hs hq hx e) (nZ.1 a)
        . have:q=(i+j) / 2:=U
          subst this
          rw [hx] at hq; cases hq
          exact nZ.1 a
      . rw [ZK a]
        refine yX hs k f i _ U U U hl (λ q p hq hge hlt=> ?_)
        rcases Nat.lt_or_ge ((i+j) / 2) q with e | e
        . exact a (nZ.2 (Nat.lt_trans (BG hs hx hq e) hlt))
        . have:q=(i+j) / 2:=U
          subst this
          rw [hx] at hq; cases hq
          exact a (nZ.2 hlt)
    . rw [ZK b]
      have:i=j:=U
      subst this
      exact⟨i,Z,hj,hl,hg⟩
structure JJ (m:List aS) (k:Nat) (a b:List aS):Prop where q::
  app:m=a++b
  lo:∀ p ∈ a,p.a < k
  hi:∀ p ∈ b,k<=p.a
theorem E9 {m:List aS} (hs:Up m) (k:Nat):∃ a b,JJ m k a b/\(fD (bn.q (Ll.q m)) k).1=((X a:Nat):Int)/\((fD (bn.q (Ll.q m)) k).2=Zj↔∃ p q,b=p::q/\p.a=k):=by
  obtain⟨r,d,i,f,g⟩:=yX hs k (X m - 0+1) 0 (X m) U U (Nat.le_refl _) (λ q p _ h=>U) (λ q p hq h=>by have:=(List.getElem?_eq_some_iff.1 hq).1; omega)
  have hlen:X (Zf r m)=r:=by rw [List.length_take]; omega
  have e:fD (bn.q (Ll.q m)) k=((r:Int),(fD (bn.q (Ll.q m)) k).2)/\((fD (bn.q (Ll.q m)) k).2=Zj↔∃ p,m[r]? =Zv p/\p.a=k):=by
    unfold fD iD
    simp only [bI,d]
    by_cases c:(r:Int) < ((X m:Nat):Int)
    . obtain⟨x,hx⟩:∃ x,m[r]? =Zv x:=⟨_,List.getElem?_eq_getElem U⟩
      rw [ZJ c,bG hx]
      refine⟨Z, ?_⟩
      simp only [decide_eq_true_eq,xO,hx,Option.some.injEq,exists_eq_left']
    . rw [ZK c]
      refine⟨Z, ?_⟩
      have:m[r]? =Zk:=List.getElem?_eq_none U
      simp [this]
  refine⟨Zf r m,Ze r m,⟨(List.take_append_drop r m).symm,λ p hp=> ?_,λ p hp=> ?_⟩, ?_, ?_⟩
  . obtain⟨j,hj⟩:=List.mem_iff_getElem?.1 hp
    have hjr:j < r:=by have:=(List.getElem?_eq_some_iff.1 hj).1; omega
    rw [List.getElem?_take,ZJ hjr] at hj
    exact f j p hj hjr
  . obtain⟨j,hj⟩:=List.mem_iff_getElem?.1 hp
    rw [List.getElem?_drop] at hj
    exact Nat.le_of_not_lt (g _ p hj U)
  . rw [e.1,hlen]
  . rw [e.2]
    constructor
    . rintro ⟨p,hp,hk⟩
      exact⟨p,Ze (r+1) m,drop_at hp,hk⟩
    . rintro ⟨p,q,hp,hk⟩
      refine⟨p, ?_,hk⟩
      have:(Ze r m)[0]? =Zv p:=by rw [hp]; rfl
      rwa [List.getElem?_drop,Nat.add_zero] at this
theorem Bb {l:List aS} (p:aS->Bool) (h:Up l):Up (l.filter p):=h.filter p
theorem DW {a b:List aS} {p:aS} (h:Up (a++p::b)):Up a/\Up b/\(∀ r ∈ a,r.a < p.a)/\(∀ r ∈ b,p.a < r.a):=by
  have c:=List.pairwise_append.1 h
  have d:=List.pairwise_cons.1 c.2.1
  exact⟨c.1,d.2,λ r hr=>c.2.2 r hr p b3,d.1⟩
theorem ni {m:List aS} (hs:Up m) (t:Nat):
    (∃ a p q,m=a++p::q/\p.a=t/\(∀ r ∈ a,r.a < t)/\(∀ r ∈ q,t < r.a)/\fD (bn.q (Ll.q m)) t=((X a:Int),Zj))\/
    (∃ a q,m=a++q/\(∀ r ∈ a,r.a < t)/\(∀ r ∈ q,t < r.a)/\fD (bn.q (Ll.q m)) t=((X a:Int),O)):=by
  obtain⟨a,b,hc,f,g⟩:=E9 hs t
  have e:∀ x:Int × Bool,x=(x.1,x.2):=λ _=>rfl
  cases hb:(fD (bn.q (Ll.q m)) t).2 with
  | true=>
    obtain⟨p,q,rfl,hp⟩:=g.1 hb
    refine .inl ⟨a,p,q,hc.app,hp,hc.lo,λ r hr=> ?_, ?_⟩
    . have:=(DW (hc.app ▸ hs)).2.2.2 r hr; omega
    . rw [e (fD _ _),f,hb]
  | false=>
    refine .inr ⟨a,b,hc.app,hc.lo,λ r hr=> ?_, ?_⟩
    . have i:=hc.hi r hr
      rcases Nat.lt_or_ge t r.a with h | h
      . exact h
      . exfalso
        have c:r.a=t:=U
        cases b with
        | nil=>cases hr
        | cons p q=>
          rcases List.mem_cons.1 hr with d | d
          . exact absurd (g.2 ⟨p,q,Z,by rw [<- d]; exact c⟩) (by rw [hb]; decide)
          . have:=(DW (hc.app ▸ hs)).2.2.2 r d; have:=hc.hi p b3; omega
    . rw [e (fD _ _),f,hb]
def but (t:Nat) (l:List aS):List aS:=l.filter λ r=>decide (r.a≠t)
theorem nR {l:List aS} {p:aS->Bool} (h:∀ r ∈ l,p r=Zj):l.filter p=l:=List.filter_eq_self.2 h
theorem rR {m:List aS} (hs:Up m) (t:Nat):jU (bn.q (Ll.q m)) t=bn.q (Ll.q (but t m)):=by
  unfold jU but
  rw [bI]
  rcases ni hs t with ⟨a,p,q,rfl,hp,ha,hq,hf⟩ | ⟨a,q,rfl,ha,hq,hf⟩
  . rw [hf,ZJ Z]
    have b:List.filter (λ r:aS=>decide (r.a≠t)) (a++p::q)=a++q:=by
      rw [List.filter_append,List.filter_cons_of_neg (by simp [hp]),nR (λ r hr=>decide_eq_true (Nat.ne_of_lt (ha r hr))),nR (λ r hr=>decide_eq_true (Nat.ne_of_gt (hq r hr)))]
    rw [b]
    simp only [Int.toNat_natCast,show (X a:Int)+1=((X a+1:Nat):Int) from by omega]
    have c:Ze (X a+1) (a++p::q)=q:=by rw [show a++p::q=(a++ [p])++q by simp]; exact List.drop_left' i2
    have d:Zf (X a) (a++p::q)=a:=List.take_left' Z
    rw [c,d]
  . rw [hf,ZK i2]
    have b:List.filter (λ r:aS=>decide (r.a≠t)) (a++q)=a++q:=nR λ r hr=>by
      rcases List.mem_append.1 hr with h | h
      . exact decide_eq_true (Nat.ne_of_lt (ha r h))
      . exact decide_eq_true (Nat.ne_of_gt (hq r h))
    rw [b]
def zl:aL:=aL.q (ai.q [] []) O
def old (l:List aS) (t:Nat):List aL:=(l.filter λ r=>decide (r.a=t)).flatMap λ r=>r.b.a
def jb (l:List aS) (t:Nat) (x:aL):List aS:=(l.filter λ r=>decide (r.a < t))++(aS.q t (Ll.q (old l t++ [x])) O zl::l.filter λ r=>decide (t < r.a))
def dies (t:Nat) (x:aL) (r:aS):Bool:=r.j && (Zw (t < r.a) && ((iZ x.j r.g.j).2 && (x.a || r.g.a)))
theorem wH {a q:List aS} {p:aS} {t:Nat} (x:aL) (hp:p.a=t) (ha:∀ r ∈ a,r.a < t) (hq:∀ r ∈ q,t < r.a):jb (a++p::q) t x=a++aS.q t (Ll.q (p.b.a++ [x])) O zl::q:=by
  have fa:∀ {l:List aS} {f:aS->Bool},(∀ r ∈ l,f r=O)->l.filter f= []:=λ {l f} h=>List.filter_eq_nil_iff.2 λ r hr=>by rw [h r hr]; decide
  unfold jb old
  rw [List.filter_append,List.filter_append,List.filter_append,List.filter_cons_of_neg (by simp [hp]),List.filter_cons_of_pos (by simp [hp]),List.filter_cons_of_neg (by simp [hp])]
  rw [nR (λ r hr=>decide_eq_true (ha r hr)),fa (l:=q) (λ r hr=>decide_eq_false (by have:=hq r hr; omega)),fa (l:=a) (f:=λ r=>decide (t < r.a)) (λ r hr=>decide_eq_false (by have:=ha r hr; omega)),nR (λ r hr=>decide_eq_true (hq r hr)),fa (l:=a) (f:=λ r=>decide (r.a=t)) (λ r hr=>decide_eq_false (by have:=ha r hr; omega)),fa (l:=q) (f:=λ r=>decide (r.a=t)) (λ r hr=>decide_eq_false (by have:=hq r hr; omega))]
  simp
theorem yj {a q:List aS} {t:Nat} (x:aL) (ha:∀ r ∈ a,r.a < t) (hq:∀ r ∈ q,t < r.a):jb (a++q) t x=a++aS.q t (Ll.q ([]++ [x])) O zl::q:=by
  have fa:∀ {l:List aS} {f:aS->Bool},(∀ r ∈ l,f r=O)->l.filter f= []:=λ {l f} h=>List.filter_eq_nil_iff.2 λ r hr=>by rw [h r hr]; decide
  unfold jb old
  rw [List.filter_append,List.filter_append,List.filter_append]
  rw [nR (λ r hr=>decide_eq_true (ha r hr)),fa (l:=q) (λ r hr=>decide_eq_false (by have:=hq r hr; omega)),fa (l:=a) (f:=λ r=>decide (t < r.a)) (λ r hr=>decide_eq_false (by have:=ha r hr; omega)),nR (λ r hr=>decide_eq_true (hq r hr)),fa (l:=a) (f:=λ r=>decide (r.a=t)) (λ r hr=>decide_eq_false (by have:=ha r hr; omega)),fa (l:=q) (f:=λ r=>decide (r.a=t)) (λ r hr=>decide_eq_false (by have:=hq r hr; omega))]
  simp
theorem zG {a q:List aS} {p:aS} {t:Nat} (hs:Up (a++q)) (hp:p.a=t) (ha:∀ r ∈ a,r.a < t) (hq:∀ r ∈ q,t < r.a):Up (a++p::q):=by
  have h:=List.pairwise_append.1 hs
  refine List.pairwise_append.2 ⟨h.1,List.pairwise_cons.2 ⟨λ r hr=>by rw [hp]; exact hq r hr,h.2.1⟩,λ r hr s hs=> ?_⟩
  rcases List.mem_cons.1 hs with e | e
  . rw [e,hp]; exact ha r hr
  . exact h.2.2 r hr s e
theorem sJ {l:List aS} (hs:Up l) (t:Nat) (x:aL):Up (jb l t x):=by
  rcases ni hs t with ⟨a,p,q,rfl,hp,ha,hq,_⟩ | ⟨a,q,rfl,ha,hq,_⟩
  . rw [wH x hp ha hq]
    have h:=List.pairwise_append.1 hs
    exact zG (List.pairwise_append.2 ⟨h.1,(List.pairwise_cons.1 h.2.1).2,λ r hr s hs=>h.2.2 r hr s (.tail _ hs)⟩) Z ha hq
  . rw [yj x ha hq]; exact zG hs Z ha hq
theorem Fa {a:fO} {z:List Nat}:∀ {l:List aS} (ds:List Nat),Up l->iM a z ds l=l.filter λ r=>decide (r.a ∉ ds)
  | l, [],h=>by rw [iM]; exact(nR λ r hr=>by simp).symm
  | l,d::ds,h=>by
    rw [iM,bI,rR h]
    show iM a z ds (but d l)=_
    have hb:Up (but d l):=Bb _ h
    rw [Fa ds hb]
    unfold but
    rw [List.filter_filter]
    congr 1
    funext r
    simp only [List.mem_cons,not_or, <- Bool.decide_and]
    exact decide_eq_decide.2 ⟨λ h=>⟨h.2,h.1⟩,λ h=>⟨h.2,h.1⟩⟩
theorem Fb {a:fO} {z:List Nat}:∀ {l:List aS} (ds:List Nat),Up l->iO a z ds l=l.filter λ r=>decide (r.a ∉ ds)
  | l, [],h=>by rw [iO]; exact(nR λ r hr=>by simp).symm
  | l,d::ds,h=>by
    rw [iO,bI,rR h]
    show iO a z ds (but d l)=_
    have hb:Up (but d l):=Bb _ h
    rw [Fb ds hb]
    unfold but
    rw [List.filter_filter]
    congr 1
    funext r
    simp only [List.mem_cons,not_or, <- Bool.decide_and]
    exact decide_eq_decide.2 ⟨λ h=>⟨h.2,h.1⟩,λ h=>⟨h.2,h.1⟩⟩
theorem zH {l:List aS} (h:Up l) {r s:aS} (hr:r ∈ l) (hs:s ∈ l) (e:r.a=s.a):r=s:=by
  obtain⟨i,hi⟩:=List.mem_iff_getElem?.1 hr
  obtain⟨j,hj⟩:=List.mem_iff_getElem?.1 hs
  rcases Nat.lt_trichotomy i j with c | c | c
  . have:=BG h hi hj c; omega
  . rw [c,hj] at hi; exact(Option.some.inj hi).symm
  . have:=BG h hj hi c; omega
theorem Co {l:List aS} (h:Up l) (f:aS->Bool):(l.filter λ r=>decide (r.a ∉ (l.filter f).map λ q=>q.a))=l.filter λ r=> !f r:=by
  refine List.filter_congr λ r hr=> ?_
  cases hf:f r with
  | true=>
    refine decide_eq_false ?_
    intro hn
    exact hn (List.mem_map.2 ⟨r,List.mem_filter.2 ⟨hr,hf⟩,Z⟩)
  | false=>
    refine decide_eq_true λ hn=> ?_
    obtain⟨s,hs,e⟩:=List.mem_map.1 hn
    have:=zH h (List.mem_filter.1 hs).1 hr e
    rw [this] at hs
    exact absurd (List.mem_filter.1 hs).2 (by rw [hf]; decide)
theorem gd {α:Type} [Inhabited α] (a q:List α) (p:α):List.getD (a++p::q) (X a) Zy=p:=by simp
theorem stt {α:Type} (a q:List α) (p y:α):List.set (a++p::q) (X a) y=a++y::q:=by simp
theorem mg (t:Nat) (x:aL) (e:aS) (acc:List Nat) (r:List aS) {b:Bool} (hb:dies t x e=b):
    acc++Zh (λ q:aS=>q.a) (List.filter (dies t x) (e::r))=(if b=Zj then acc++ [e.a] else acc)++Zh (λ q:aS=>q.a) (List.filter (dies t x) r):=by
  cases b with
  | true=>rw [List.filter_cons_of_pos hb,ZJ Z,List.map_cons,List.append_assoc]; rfl
  | false=>rw [List.filter_cons_of_neg (by rw [hb]; decide),ZK f7]
theorem JQ (o:bn) (t:Nat) (x:aL) (p:fO) (i:Int) (a b c:aS) (LA:List aS)
    (hLA:(List.set (List.set (List.set o.a.a (Zc i) (aS.q a.a (Ll.q (a.b.a++ [x])) a.j a.g)) (Zc i) (aS.q b.a (Ll.q b.b.a) O b.g)) (Zc i) (aS.q c.a (Ll.q c.b.a) c.j ZB))=LA):
    ∀ (q:Nat) (acc:List Nat) (k:Nat),q=X LA - k->dX o t x p i a b c q acc k=acc++Zh (λ q:aS=>q.a) (List.filter (dies t x) (Ze k LA)):=by
  intro q
  induction q with
  | zero=>intro acc k h; rw [dX,List.drop_eq_nil_of_le U]; simp
  | succ q ih=>
    intro acc k h
    obtain⟨e,he⟩:∃ e,LA[k]? =Zv e:=⟨_,List.getElem?_eq_getElem U⟩
    rw [dX,hLA,bI,bG he,drop_at he]
    simp only [bI]
    have g:=ih (acc++ [e.a]) (k+1) U
    have n:=ih acc (k+1) U
    by_cases d:e.j=Zj
    . rw [ZJ d]
      by_cases m:t < e.a
      . rw [ZJ U]
        by_cases f:(iZ x.j e.g.j).2=Zj
        . rw [ZJ f]
          by_cases j:x.a=Zj
          . rw [ZJ j,mg t x e acc _ (b:=Zj) (by unfold dies; rw [d,f,j,decide_eq_true m]; rfl),ZJ Z]; exact g
          . rw [ZK j]
            by_cases l:e.g.a=Zj
            . rw [ZJ l,mg t x e acc _ (b:=Zj) (by unfold dies; rw [d,f,l,decide_eq_true m,Bool.or_true]; rfl),ZJ Z]; exact g
            . rw [ZK l,mg t x e acc _ (b:=O) (by unfold dies; rw [Bool.eq_false_iff.2 j,Bool.eq_false_iff.2 l]; simp),ZK f7]; exact n
        . rw [ZK f,mg t x e acc _ (b:=O) (by unfold dies; rw [Bool.eq_false_iff.2 f]; simp),ZK f7]; exact n
      . rw [ZK U,mg t x e acc _ (b:=O) (by unfold dies; rw [decide_eq_false m]; simp),ZK f7]; exact n
    . rw [ZK d,mg t x e acc _ (b:=O) (by unfold dies; rw [Bool.eq_false_iff.2 d]; rfl),ZK f7]; exact n
theorem JR (m:bn) (t:Nat) (x:aL) (p:fO) (i:Int) (a b c:aS) (LA:List aS)
    (hLA:(List.set (List.set (List.set (Zf (Zc i) m.a.a++((aS.q t (Ll.q []) O ZB)::Ze (Zc i) m.a.a)) (Zc i) (aS.q a.a (Ll.q (a.b.a++ [x])) a.j a.g)) (Zc i) (aS.q b.a (Ll.q b.b.a) O b.g)) (Zc i) (aS.q c.a (Ll.q c.b.a) c.j ZB))=LA):
    ∀ (q:Nat) (acc:List Nat) (k:Nat),q=X LA - k->dY m t x p i a b c q acc k=acc++Zh (λ q:aS=>q.a) (List.filter (dies t x) (Ze k LA)):=by
  intro q
  induction q with
  | zero=>intro acc k h; rw [dY,List.drop_eq_nil_of_le U]; simp
  | succ q ih=>
    intro acc k h
    obtain⟨e,he⟩:∃ e,LA[k]? =Zv e:=⟨_,List.getElem?_eq_getElem U⟩
    rw [dY,hLA,bI,bG he,drop_at he]
    simp only [bI]
    have g:=ih (acc++ [e.a]) (k+1) U
    have n:=ih acc (k+1) U
    by_cases d:e.j=Zj
    . rw [ZJ d]
      by_cases o:t < e.a
      . rw [ZJ U]
        by_cases f:(iZ x.j e.g.j).2=Zj
        . rw [ZJ f]
          by_cases j:x.a=Zj
          . rw [ZJ j,mg t x e acc _ (b:=Zj) (by unfold dies; rw [d,f,j,decide_eq_true o]; rfl),ZJ Z]; exact g
          . rw [ZK j]
            by_cases l:e.g.a=Zj
            . rw [ZJ l,mg t x e acc _ (b:=Zj) (by unfold dies; rw [d,f,l,decide_eq_true o,Bool.or_true]; rfl),ZJ Z]; exact g
            . rw [ZK l,mg t x e acc _ (b:=O) (by unfold dies; rw [Bool.eq_false_iff.2 j,Bool.eq_false_iff.2 l]; simp),ZK f7]; exact n
        . rw [ZK f,mg t x e acc _ (b:=O) (by unfold dies; rw [Bool.eq_false_iff.2 f]; simp),ZK f7]; exact n
      . rw [ZK U,mg t x e acc _ (b:=O) (by unfold dies; rw [decide_eq_false o]; simp),ZK f7]; exact n
    . rw [ZK d,mg t x e acc _ (b:=O) (by unfold dies; rw [Bool.eq_false_iff.2 d]; rfl),ZK f7]; exact n
theorem qJ {m:List aS} (hs:Up m) (t:Nat) (x:aL) (c:fO):jI (bn.q (Ll.q m)) t x c=
    (bn.q (Ll.q ((jb m t x).filter λ r=> !dies t x r)),fO.q (Ll.q c.b.a) (Ll.q (c.g.a++Zh (λ q:aS=>q.a) ((jb m t x).filter (dies t x))))):=by
  have hu:=sJ hs t x
  unfold jI
  rw [bI]
  rcases ni hs t with ⟨a,p,q,rfl,hp,ha,hq,hf⟩ | ⟨a,q,rfl,ha,hq,hf⟩
  . rw [hf,ZJ Z]
    rw [wH x hp ha hq] at hu ⊢
    simp only [bI,Int.toNat_natCast,gd,stt]
    rw [JQ _ t x c _ _ _ _ (a++aS.q t (Ll.q (p.b.a++ [x])) O zl::q) (by simp only [Int.toNat_natCast,stt, <- hp]; rfl) _ [] 0 i2]
    rw [List.drop_zero,List.nil_append]
    have e:(a++ { a:=p.a,b:= { a:=p.b.a++ [x] },j:=O,g:= { j:= { a:= [],b:= [] },a:=O } }::q)=(a++aS.q t (Ll.q (p.b.a++ [x])) O zl::q):=by rw [<- hp]; rfl
    rw [e,Fa _ hu,Co hu]
  . rw [hf,ZK i2]
    rw [yj x ha hq] at hu ⊢
    have b:Ze (X a) (a++q)=q:=List.drop_left' Z
    have d:Zf (X a) (a++q)=a:=List.take_left' Z
    simp only [bI,Int.toNat_natCast,b,d,gd,stt]
    rw [JR _ t x c _ _ _ _ (a++aS.q t (Ll.q ([]++ [x])) O zl::q) (by simp only [Int.toNat_natCast,b,d,stt]; rfl) _ [] 0 i2]
    rw [List.drop_zero,List.nil_append]
    have e:(a++ { a:=t,b:= { a:= []++ [x] },j:=O,g:= { j:= { a:= [],b:= [] },a:=O } }::q)=(a++aS.q t (Ll.q ([]++ [x])) O zl::q):=Z
    rw [e,Fb _ hu,Co hu]
open List renaming length_filter_le->Q0,map_cons->t0,sum_append->Q1,sum_cons->P8
open Nat renaming le_trans->P9
def pY (r:aS):Nat:=if r.j=Zj then 1 else 0
def Wt (l:List aS):Nat:=(l.map pY).sum
def lv (l:List aS):Nat:=(l.map λ r=>X r.b.a+pY r).sum
theorem mP {f:aS->Nat} (p:aS->Bool):∀ l:List aS,((l.filter p).map f).sum<=(l.map f).sum
  | []=>Nat.le_refl _
  | a::l=>by
    have ih:=mP (f:=f) p l
    rw [List.filter_cons]
    by_cases h:p a=Zj
    . rw [ZJ h]; simp only [t0,P8]; omega
    . rw [ZK h]; simp only [t0,P8]; omega
theorem Cq {f:aS->Nat} {r:aS}:∀ {l:List aS},r ∈ l->f r<=(l.map f).sum
  | a::l,h=>by
    simp only [t0,P8]
    rcases List.mem_cons.1 h with e | e
    . rw [e]; omega
    . have:=Cq (f:=f) e; omega
theorem IP (l:List aS):Wt l<=lv l:=by
  unfold Wt lv
  induction l with
  | nil=>exact Nat.le_refl _
  | cons a l ih=>simp only [t0,P8]; omega
structure Fit (l:List aS):Prop where q::
  up:Up l
  len:X l<=999999
  tot:lv l<=1000000
theorem Fit.hd {l:List aS} (h:Fit l):Hd l:=λ r hr=>by
  have:=Cq (f:=λ r:aS=>X r.b.a+pY r) hr
  have:=h.tot
  unfold lv at this
  omega
theorem Fit.wt {l:List aS} (h:Fit l):Wt l<=1000000:=P9 (IP l) h.tot
theorem Fit.filter {l:List aS} (h:Fit l) (p:aS->Bool):Fit (l.filter p):=⟨h.up.filter p,P9 (Q0 p l) h.len,P9 (mP p l) h.tot⟩
theorem yY {m:List aS} {a:mH} (h:lh (bn.q (N m))=(a,Zj)):∃ r ∈ m,r.j=Zj/\r.a=a.r/\r.g=a.a/\ed (bn.q (N m)) a.r a.a= []:=by
  have go:∀ l:List aS,(∀ r ∈ l,r ∈ m)->lp (iF (bn.q (N m)) l) (λ _=>(mH.q 0 ZB,O))=(a,Zj)->∃ r ∈ m,r.j=Zj/\r.a=a.r/\r.g=a.a/\ed (bn.q (N m)) a.r a.a= []:=by
    intro l
    induction l with
    | nil=>intro _ h; exact Bool.noConfusion (show O=Zj from ZX Prod.snd h)
    | cons r l ih=>
      intro hm h
      rw [iF] at h
      by_cases b:r.j=Zj
      . rw [ZJ b,bI] at h
        by_cases c:((X (ed (bn.q (N m)) r.a r.g):Nat):Int)=0
        . rw [ZJ c] at h
          have e:=ZX Prod.fst h
          subst e
          exact⟨r,hm r b3,b,Z,Z,List.eq_nil_of_length_eq_zero (Int.ofNat.inj c)⟩
        . rw [ZK c] at h; exact ih (λ s hs=>hm s (.tail _ hs)) h
      . rw [ZK b] at h; exact ih (λ s hs=>hm s (.tail _ hs)) h
  exact go m (λ _ h=>h) h
theorem wI (l:List aS) (hs:Up l) (t:Nat) (x:aL):X (jb l t x)<=X l+1:=by
  rcases ni hs t with ⟨a,p,q,rfl,hp,ha,hq,_⟩ | ⟨a,q,rfl,ha,hq,_⟩
  . rw [wH x hp ha hq]; simp only [o3,q6]; omega
  . rw [yj x ha hq]; simp only [o3,q6]; omega
theorem vZ (l:List aS) (hs:Up l) (t:Nat) (x:aL):lv (jb l t x)<=lv l+1/\Wt (jb l t x)<=Wt l:=by
  rcases ni hs t with ⟨a,p,q,rfl,hp,ha,hq,_⟩ | ⟨a,q,rfl,ha,hq,_⟩
  . rw [wH x hp ha hq]; unfold lv Wt pY; simp only [P5,t0,Q1,P8,o3,q6,L0]; simp; omega
  . rw [yj x ha hq]; unfold lv Wt pY; simp only [P5,t0,Q1,P8,o3,q6,L0]; constructor <;> simp <;> omega
theorem wJ {l:List aS} (hs:Up l) {r:aS} (hr:r ∈ l) (hw:r.j=Zj) (x:aL):X (jb l r.a x)=X l/\lv (jb l r.a x)=lv l/\Wt (jb l r.a x)+1=Wt l:=by
  rcases ni hs r.a with ⟨a,p,q,rfl,hp,ha,hq,_⟩ | ⟨a,q,rfl,ha,hq,_⟩
  . have e:p=r:=zH hs i2 hr hp
    subst e
    rw [wH x Z ha hq]
    refine⟨by simp, ?_, ?_⟩
    . unfold lv pY; simp only [P5,t0,Q1,P8,o3,q6,L0,hw]; simp <;> omega
    . unfold Wt pY; simp only [P5,t0,Q1,P8,hw]; simp <;> omega
  . rcases List.mem_append.1 hr with h | h
    . exact absurd (ha r h) (Nat.lt_irrefl _)
    . exact absurd (hq r h) (Nat.lt_irrefl _)
theorem yL {m:List aS} (hf:Fit m) {a:mH} (hn:lh (bn.q (N m))=(a,Zj)) {c:fO} {b:bn} {d:fO} (hg:jI (bn.q (N m)) a.r a.a c=(b,d)):
    Fit b.a.a/\Wt b.a.a+1<=Wt m/\d.b.a=c.b.a/\X d.g.a<=X c.g.a+1000000:=by
  obtain⟨r,hr,hw,ht,hx,_⟩:=yY hn
  rw [qJ hf.up] at hg
  obtain⟨rfl,rfl⟩:_=b/\_=d:=⟨ZX Prod.fst hg,ZX Prod.snd hg⟩
  rw [<- ht, <- hx]
  obtain⟨e,g,h⟩:=wJ hf.up hr hw r.g
  have hp:Fit (jb m r.a r.g):=⟨sJ hf.up _ _,by rw [e]; exact hf.len,by rw [g]; exact hf.tot⟩
  refine⟨hp.filter _, ?_,Z, ?_⟩
  . have:=mP (f:=pY) (λ s=> !dies r.a r.g s) (jb m r.a r.g)
    show Wt (List.filter (λ s=> !dies r.a r.g s) (jb m r.a r.g))+1<=_
    unfold Wt at this h ⊢
    omega
  . show X (c.g.a++_)<=_
    rw [o3,List.length_map]
    have:=Q0 (dies r.a r.g) (jb m r.a r.g)
    have:=hp.len
    omega
theorem Bc {α β γ δ ε:Type} {a x:α} {b y:β} {c z:γ} {d u:δ} {e v:ε} (h:(a,b,c,d,e)=(x,y,z,u,v)):a=x/\b=y/\c=z/\d=u/\e=v:=⟨(fI h).1,eQ (fI h).2⟩
def Ne (l:List aS):Prop:=∀ r ∈ l,1<=X r.b.a+pY r
structure jZ (l:List aS):Prop where q::
  up:Up l
  ne:Ne l
  tot:lv l<=192
theorem AA:∀ {l:List aS},Ne l->X l<=lv l
  | [],_=>Nat.le_refl _
  | a::l,h=>by
    have c:=h a b3
    have b:=AA (l:=l) λ r hr=>h r (.tail _ hr)
    unfold lv at b ⊢
    simp only [List.length_cons,List.map_cons,List.sum_cons]
    omega
theorem jZ.len {l:List aS} (h:jZ l):X l<=192:=Nat.le_trans (AA h.ne) h.tot
theorem jZ.fit {l:List aS} (h:jZ l):Fit l:=⟨h.up,by have:=h.len; omega,by have:=h.tot; omega⟩
theorem jZ.hd {l:List aS} (h:jZ l):Hd l:=h.fit.hd
def sK (l:List Nat):List Nat:=iC l
theorem Hl (l:List Nat):iC l=sK l:=Z
theorem Cr (a:Int):∀ (q:Nat) (z:Int) (l:List Nat),Zc (z - a) < q->X (fB a q z l)=X l
  | 0,z,l,h=>U
  | q+1,z,l,h=>by
    unfold fB
    by_cases c:z > a
    . rw [ZJ c]
      simp only [bI]
      split
      . rw [Cr a q (z - 1) _ U,List.length_set,List.length_set]
      . rfl
    . rw [ZK c]
theorem Cs (b a:Int):∀ (q:Nat) (z:Int) (l:List Nat),Zc (a - z) < q->X (fC b a q z l)=X l
  | 0,z,l,h=>U
  | q+1,z,l,h=>by
    unfold fC
    by_cases c:z < a
    . rw [ZJ c]
      simp only [bI]
      rw [Cs b a q (z+1) _ U,Cr b _ z l U]
    . rw [ZK c]
theorem Ji {l:List Nat} {i:Nat} (h:i+1 < X l):(List.set (List.set l (i+1) (List.getD l i Zy)) i (List.getD l (i+1) Zy)).Perm l:=by
  have b:l[i]? =Zv (List.getD l i Zy):=by rw [List.getD_eq_getElem?_getD,List.getElem?_eq_getElem U]; rfl
  have c:l[i+1]? =Zv (List.getD l (i+1) Zy):=by rw [List.getD_eq_getElem?_getD,List.getElem?_eq_getElem U]; rfl
  generalize List.getD l i Zy=x at b ⊢
  generalize List.getD l (i+1) Zy=y at c ⊢
  have a:l=Zf i l++x::y::Ze (i+1+1) l:=by
    conv=>lhs; rw [<- List.take_append_drop i l]
    rw [drop_at b,drop_at c]
  have d:X (Zf i l)=i:=by rw [List.length_take]; omega
  generalize Zf i l=A at a d
  generalize Ze (i+1+1) l=B at a
  subst d
  rw [a]
  have e:List.set (A++x::y::B) (X A+1) x=A++x::x::B:=by
    have:=stt (A++ [x]) B y x
    simp only [List.append_assoc,List.cons_append,List.nil_append,List.length_append,List.length_cons,List.length_nil] at this
    exact this
  rw [e,stt]
  exact List.Perm.append_left A (List.Perm.swap _ _ _)
theorem Be (a:Int) (b:0<=a):∀ (q:Nat) (z:Int) (l:List Nat),Zc (z - a) < q->z < (X l:Int)->(fB a q z l).Perm l
  | 0,z,l,h,_=>U
  | q+1,z,l,h,hz=>by
    unfold fB
    by_cases c:z > a
    . rw [ZJ c]
      simp only [bI]
      split
      . refine(Be a b q (z - 1) _ U (by rw [List.length_set,List.length_set]; omega)).trans ?_
        obtain⟨i,rfl⟩:∃ i:Nat,z=((i+1:Nat):Int):=⟨Zc (z - 1),U⟩
        have d:Zc (((i+1:Nat):Int) - 1)=i:=U
        rw [d,Int.toNat_natCast]
        exact Ji U
      . exact List.Perm.refl _
    . rw [ZK c]
theorem Bf (a b:Int) (d:0<=a):∀ (q:Nat) (z:Int) (l:List Nat),Zc (b - z) < q->b<=(X l:Int)->(fC a b q z l).Perm l
  | 0,z,l,h,_=>U
  | q+1,z,l,h,hz=>by
    unfold fC
    by_cases c:z < b
    . rw [ZJ c]
      simp only [bI]
      have hp:=Be a d (Zc (z - a)+1) z l U U
      exact(Bf a b d q (z+1) _ U (by rw [hp.length_eq]; exact hz)).trans hp
    . rw [ZK c]
theorem yZ (l:List Nat):(sK l).Perm l:=by
  unfold sK iC j5 jm
  simp only [bI]
  exact Bf _ _ (Int.le_refl _) _ _ _ U (Int.le_refl _)
theorem yl {l:List Nat} {n:Nat}:n ∈ sK l↔n ∈ l:=(yZ l).mem_iff
theorem AB (l:List Nat):X (sK l)=X l:=by
  unfold sK iC j5 jm
  simp only [bI]
  exact Cs _ _ _ _ _ U
theorem Eo (p:aS->Bool):∀ l:List aS,X (l.filter p)+X (l.filter λ r=> !p r)=X l
  | []=>rfl
  | a::l=>by
    have ih:=Eo p l
    cases h:p a with
    | true=>rw [List.filter_cons_of_pos h,List.filter_cons_of_neg (by rw [h]; decide)]; simp only [List.length_cons]; omega
    | false=>rw [List.filter_cons_of_neg (by rw [h]; decide),List.filter_cons_of_pos (by rw [h]; rfl)]; simp only [List.length_cons]; omega
theorem zI (l:List aS):Wt l<=X l:=by
  unfold Wt
  induction l with
  | nil=>exact Nat.le_refl _
  | cons a l ih=>
    simp only [List.map_cons,List.sum_cons,List.length_cons]
    have:pY a<=1:=by unfold pY; split <;> omega
    omega
theorem Hm {m:List aS} (hf:Fit m) {a:mH} (hn:lh (bn.q (Ll.q m))=(a,Zj)) {c:fO} {b:bn} {d:fO} (hg:jI (bn.q (Ll.q m)) a.r a.a c=(b,d)):
    Fit b.a.a/\Wt b.a.a+1<=Wt m/\d.b.a=c.b.a/\X d.g.a+X b.a.a<=X c.g.a+X m:=by
  obtain⟨e,f,g,_⟩:=yL hf hn hg
  refine⟨e,f,g, ?_⟩
  obtain⟨r,hr,hw,ht,hx,_⟩:=yY hn
  rw [qJ hf.up] at hg
  obtain⟨rfl,rfl⟩:_=b/\_=d:=⟨ZX Prod.fst hg,ZX Prod.snd hg⟩
  rw [<- ht, <- hx]
  obtain⟨h,_,_⟩:=wJ hf.up hr hw r.g
  have i:=Eo (dies r.a r.g) (jb m r.a r.g)
  show X (c.g.a++_)+X (List.filter (λ s=> !dies r.a r.g s) (jb m r.a r.g))<=_
  rw [List.length_append,List.length_map]
  omega
theorem Jj {m:List aS} (h:jZ m) {t:Nat} {a:bn} (hr:jU (bn.q (Ll.q m)) t=a):Fit a.a.a/\X a.a.a<=X m/\Wt a.a.a<=X a.a.a:=by
  rw [rR h.up] at hr
  subst hr
  exact⟨h.fit.filter _,List.length_filter_le _ m,zI _⟩
theorem JK {m:List aS} (h:jZ m) {t:Nat} {x:aL} {c:fO} {a:bn} {b:fO} (hg:jI (bn.q (Ll.q m)) t x c=(a,b)):
    Fit a.a.a/\X b.g.a+X a.a.a<=X c.g.a+X m+1/\Wt a.a.a<=X a.a.a/\b.b.a=c.b.a:=by
  rw [qJ h.up] at hg
  obtain⟨rfl,rfl⟩:_=a/\_=b:=⟨ZX Prod.fst hg,ZX Prod.snd hg⟩
  have d:=wI m h.up t x
  obtain⟨e,f⟩:=vZ m h.up t x
  have g:=h.len
  have i:=h.tot
  have hp:Fit (jb m t x):=⟨sJ h.up _ _,U,U⟩
  have j:=Eo (dies t x) (jb m t x)
  refine⟨hp.filter _, ?_,zI _,Z⟩
  show X (c.g.a++_)+X (List.filter (λ r=> !dies t x r) (jb m t x))<=_
  rw [List.length_append,List.length_map]
  omega
open _root_.Go.Proofs.Tryz renaming isAgg36->Q2
section
open Go.RowKit
def dE:Nat->List aS->List Nat->List Nat->(List aS) × (List Nat) × (List Nat)
  | 0,c,d,e=>Zy
  | f+1,c,d,e=>bnd (lh (bn.q (N c))) λ a=>if a.2=Zj then bnd (jI (bn.q (N c)) a.1.r a.1.a (fO.q (N d) (N e))) λ b=>dE f b.1.a.a (b.2.b.a++ [a.1.r]) b.2.g.a else(c,d,e)
def ll (c:bn) (d:fO):bn × fO:=
 bnd (dE ((Wt c.a.a)+1) c.a.a d.b.a d.g.a) λ sLrL=>bnd (iC sLrL.2.1) λ a=>bnd (iC sLrL.2.2) λ b=>(bn.q (N sLrL.1),fO.q (N a) (N b))
theorem rT (w D g0) (F:bn) (I J B x) (z:fO) (K L M Z5) (r0:bn) (r1:fO) (H:Own w D w [blk g0 [T I (X F.a.a) J] 111,row I (X F.a.a) J (q1 aH.L B) 159 6,sepL (q1 Kj B),blk x [T K (X z.b.a) L, T M (X z.g.a) Z5] 152,row K (X z.b.a) L (q1 (eN .u64) z.b.a) 33 1,row M (X z.g.a) Z5 (q1 (eN .u64) z.g.a) 33 1]) (Z6:Zh aH.abs B=F.a.a) (eH:Fit F.a.a) (eP:X F.a.a+X z.g.a<=12) (eQ:Wt F.a.a+X z.b.a<=12) (hr:ll F z=(r0,r1)):
    Calls Tryz.prog 72 #[vP g0 0,vP x 0] w (dI λ v w'=> ∃ P Q A R S Z7 Z3,v= .tuple #[]/\Own w D w' [blk g0 [T P (X r0.a.a) Q] 111,row P (X r0.a.a) Q (q1 aH.L A) 159 6,sepL (q1 Kj A),blk x [T R (X r1.b.a) S, T Z7 (X r1.g.a) Z3] 152,row R (X r1.b.a) S (q1 (eN .u64) r1.b.a) 33 1,row Z7 (X r1.g.a) Z3 (q1 (eN .u64) r1.g.a) 33 1]/\(Zh aH.abs A=r0.a.a)/\(X r1.b.a<=12/\X r1.g.a<=12)):=by
 unfold ll at hr
 have bS:=bf Z6
 have bT:=H.rowC (i:=1) Z
 have bU:=H.rowC (i:=4) Z
 have bV:=H.rowC (i:=5) Z
 refine cb Tryz.func72 (JS (bo ?_))
 obtain⟨bX,Z4⟩:=JA λ u (g:Nat) h a j (l:Nat) c n (p:Nat) b (Z8:Nat) w'=>Own w D w' [blk g0 [T u (X a) g] 111,blk x [T j (X c) l, T n (X b) p] 152,row u (X a) g (q1 aH.L h) 159 6,sepL (q1 Kj h),row j (X c) l (q1 (eN .u64) c) 33 1,row n (X b) p (q1 (eN .u64) b) 33 1]/\Zh aH.abs h=a/\Fit a/\Hd a/\X a+X b<=12/\X c+Wt a<=12/\Wt a < Z8/\dE ((Wt F.a.a)+1) F.a.a z.b.a z.g.a=dE Z8 a c b
 refine Wp.loop (λ i:(Option Addr) × Nat × (List aH) × (List aS) × (Option Addr) × Nat × (List Nat) × (Option Addr) × Nat × (List Nat) × Nat=> [(0,vP g0 0),(1,vP x 0)]) bX (λ i=>i.2.2.2.2.2.2.2.2.2.2) (I,J,B,F.a.a,K,L,z.b.a,M,Z5,z.g.a,(Wt F.a.a)+1) ⟨Z,Z,ZV⟩ (Z4.2 ⟨(H.pf [0,3]),by exact Z6,f8,by exact Fit.hd f8,U,U,U,Z⟩) ?_
 rintro ⟨u,g,h,a,j,l,c,n,p,b,Z8⟩ _ bi
 obtain⟨aQ,C,_,_,_,_,_,aB⟩:=Z4.1 bi
 have dN:=bf C
 obtain⟨aR,bq⟩:∃ q,Z8=q+1:=⟨Z8 - 1,U⟩
 subst bq
 refine bo (sr (Mz Z ?_))
 have dO:=aQ.rowC (i:=2) Z
 obtain⟨⟨d,ay⟩,E⟩:∃ q:mH × Bool,lh (bn.q (N a))=q:=⟨_,Z⟩
 obtain⟨_,bu,_,bv,aC⟩:=Kt aQ
 refine cl Tryz.call120 (wX _ _ g0 (bn.q (N a)) u g h d ay bu C (aC _ 1 _ Z bB) U (λ x9 h9=>⟨aC _ 2 _ Z (bL (P6.2 ⟨x9,h9,b3⟩) bB),di (φ:=λ _=>_) aQ (i:=3) Z (bL (P6.2 ⟨x9,h9,b3⟩) dD)⟩) g4 E) ?_
 rintro _ _ ⟨rfl,bz⟩
 refine Mz Z (Kz (Zq (Zb (mH.L d))) (Kz (Y ay) (cB [.int .u64 0, Z9 ⟨List.toArray []⟩, Z9 ⟨List.toArray []⟩, Y O] 189 (bv _ _ bz) ?_)))
 intro aT _ bZ
 refine cu (mH.L d) 0 bZ Tryz.sizeOf189 ?_
 intro _ az
 refine An Z (JS (sr (Mz Z (Kz (Y (!ay)) (nt ?_)))))
 rcases Nv (ay) with G | G
 refine jF (cn G) (sk (sr (Mz Z (Kz (vP aT 0) (Lz (vU d.r) az 0 Tryz.isAgg33 (Kz (vP aT 1) (La (aL.L d.a) az 0 Tryz.isAgg115 Tryz.sizeOf115 (Mz Z ?_))))))))
 obtain⟨⟨Z1,r⟩,Z2⟩:∃ q:bn × fO,jI (bn.q (N a)) d.r d.a (fO.q (N c) (N b))=q:=⟨_,Z⟩
 obtain⟨_,bA,_,bC,_⟩:=KS (az.pb [2,5,6,0])
 refine cl Tryz.call71 (sI _ _ g0 (bn.q (N a)) u g h d.r d.a x (fO.q (N c) (N b)) j l n p Z1 r bA C g4 f8 j7 Z2) ?_
 rintro _ _ ⟨cK,cZ,df,_,_,dh,dm,rfl,bD,aD⟩
 have aA:=bC _ _ bD
 have dV:=bf aD
 have dW:=aA.rowC (i:=1) Z
 have dX:=aA.rowC (i:=4) Z
 have dY:=aA.rowC (i:=5) Z
 obtain⟨bE,aF,Z0,aG⟩:=Hm (m:=a) f8 (E.trans (ZX (λ q=>(_,q)) G)) Z2
 replace aF:=aF
 replace Z0:=Z0
 replace aG:X r.g.a+X Z1.a.a<=X b+X a:=aG
 have dZ:X r.b.a=X c:=by rw [Z0]
 have d9:X Z1.a.a<=999999:=bE.len
 refine nt (kL 7 [8,11] (bJ.block (J6 (bJ.block (J6 Kg)))) aA ?_)
 intro _ dn
 refine Kr (v:=vP x 0) 0 Z f1 (λ _=>J3 Z) (qv 1 Z Z (qp x 0 2 Z (qp x 0 3 Z (ql 4 Z 3 Q2 Z Z Z (qp aT 0 5 Z (ql 6 Z 6 Tryz.isAgg33 Z Z Z (qd 7 Z (KF (cs:= [vU d.r]) (t:=33) (sz:=1) (m:=1) dn Z Z ZY Z f7 ?_))))))))
 intro dw _ aa
 replace aa:=Ku (y:=row dw 1 1 (q1 (eN .u64) ([d.r])) 33 1) Z aa
 have aI:=aa.pb [0]
 refine⟨.inr ⟨_,aI⟩, ?_⟩
 have aJ:=aI.pf [4]
 refine qd 8 Z (Kk (k:=X r.b.a) (m:=1) (jk) aJ Z Z (eO Tryz.underlying36 (aJ.rds (i:=7) Z) (cO nu ([d.r]))) Z U (s:=X (r.b.a++ [d.r])) f6 (List.flatMap_append).symm ?_)
 intro aK aM _ bF
 have dx:X (r.b.a++ [d.r])=X r.b.a+1:=by simp only [o3,q6,L0]
 refine⟨.inl f1, (Kr (v:=vP x 0) 9 Z f1 (λ _=>yk) (Kr (v:=vP x 0) 10 Z f1 (λ _=>yk) (qe 11 Z (Do.store (vs:= [T aK (X (r.b.a++ [d.r])) aM]) (o:=0) (bF.pf [4]) Z Z Tryz.sizeOf36 Z Z Z Z ?_))))⟩
 intro _ bH
 exact⟨.inl f1, (qn (bN (Kb (cK,cZ,df,Z1.a.a,aK,aM,(r.b.a++ [d.r]),dh,dm,r.g.a,aR) ⟨Z,Z,ZV⟩ (Z4.2 ⟨(bH.px [2] [6,7] [1,5]),by exact aD,f8,by exact Fit.hd f8,U,U,U,V (aB) (V (ae E) (V (ip G) (ae Z2)))⟩) (by show aR < aR+1; omega))))⟩
 refine jT (cn G) (Wp.exit (Ka (Mq Z ?_)))
 have aU:dE ((Wt F.a.a)+1) F.a.a z.b.a z.g.a=(a,c,b):=V (aB) (V (ae E) (eD G))
 refine Ka (Kh (JY (JS ?_)))
 have aN:=az.px [] [0] []
 refine JW (Mz Z (Kz (vP x 0) (Kz (vP x 0) (Lz (T j (X c) l) aN 1 Q2 ?_))))
 obtain⟨e,af⟩:∃ q,iC c=q:=⟨_,Z⟩
 obtain⟨_,aV,_,aW,_⟩:=Kt (aN.pf [4])
 refine cl Tryz.call121 (oO _ _ j (X c) l c e aV Z U U af) ?_
 rintro _ _ ⟨rfl,aX,ag⟩
 have ah:=aW _ _ aX
 have dB:=ah.rowC (i:=0) Z
 replace ag:=ag
 refine nt (JW (Mz Z (Kz (vP x 0) (Kz (vP x 1) (Lz (T n (X b) p) ah 2 Q2 ?_)))))
 obtain⟨f,ai⟩:∃ q,iC b=q:=⟨_,Z⟩
 obtain⟨_,aY,_,aZ,_⟩:=Kt (ah.pf [5])
 refine cl Tryz.call121 (oO _ _ n (X b) p b f aY Z U U ai) ?_
 rintro _ aO ⟨rfl,bg,aj⟩
 have aP:=aZ _ _ bg
 have dG:=aP.rowC (i:=0) Z
 replace aj:=aj
 refine WL.nil (KD (res0 Z) ?_)
 have ak:X c=X e:=by first | omega | (simp only [N0]; done) | (simp only [N0,o3,q6,L0,o1,o2,O5]; omega)
 have bO:Own w D aO [row n (X b) p (q1 (eN .u64) f) 33 1,row j (X e) l (q1 (eN .u64) e) 33 1,blk g0 [T u (X a) g] 111,blk x [T j (X e) l, T n (X b) p] 152,row u (X a) g (q1 aH.L h) 159 6,sepL (q1 Kj h)]:=by rw [<- ak]; exact aP
 have au:X b=X f:=by first | omega | (simp only [N0]; done) | (simp only [N0,o3,q6,L0,o1,o2,O5]; omega)
 have bP:Own w D aO [row n (X f) p (q1 (eN .u64) f) 33 1,row j (X e) l (q1 (eN .u64) e) 33 1,blk g0 [T u (X a) g] 111,blk x [T j (X e) l, T n (X f) p] 152,row u (X a) g (q1 aH.L h) 159 6,sepL (q1 Kj h)]:=by rw [<- au]; exact bO
 obtain⟨rfl,rfl⟩:=fI (zj hr zq3)
 exact⟨u,g,h,j,l,n,p,(by(first | rw [<- ak] | skip); (first | rw [<- au] | skip); first | done | rfl),(bP.pb [3,1,0]),C,g4⟩
end
end Go.Proofs.YtnpdpklckacpnaaGreat
