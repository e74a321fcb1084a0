/- The layers told, part 3. Conditions: none beyond each law's own. -/
import Derived.Lib.Hide
import Derived.Shelf.Small.Bits
import Derived.Ground.NamesProg
import Derived.Shelf.SlGeneric
import Derived.Sort.LotA
import Derived.Sort.LotB
import Derived.Sort.LotC
import Derived.Sort.LotD3
import Derived.Sort.LotD5
import Derived.Sort.WalkA14
import Derived.Test.YtndamapfnpihpaaGreatJb
namespace Go.Proofs.YtndamapfnpihpaaGreat
set_option maxRecDepth 100000
set_option linter.unusedVariables false
set_option linter.unusedSimpArgs false
set_option linter.unusedSectionVars false
open _root_.Go renaming World->ZQ,Value->ZX
open Value renaming bool->V,slice->W,string->Zz,pointer->Zq,agg->Zx,nilFunc->Zj
open Bool renaming true->Zk,false->J
open Option renaming none->Zv,some->Zw
open Decidable renaming decide->Zy
open Inhabited renaming default->ZZ
open List renaming length->X,toArray->Zc
open IntKind renaming i64->B7
open List renaming drop->r6,flatMap->q0,flatMap_append->u0,getD->y4,length_append->o2,length_cons->q5,length_nil->L3,take->t8
open Sum renaming inl->y3,inr->y6
open _root_.Go.Proofs.Tryz renaming call26->N2,call97->N3,isAgg101->N4,isAgg3->B5,isAgg37->D0,isAgg9->B3,prog->v1,sizeOf101->L4,sizeOf37->C7,sizeOf68->C5,underlying25->H0,underlying9->v7
open WL renaming nil->B8
open Wp renaming exit->B9,loop->B4
section
open Go.RowKit
def iI (a:List UInt8):Int:=
 if((X a:Nat):Int) < 1 then 20 else if((X a:Nat):Int) > 12 then 20 else 0
theorem mJ (w D b d) (H:Own w D w []) (hr:iI b=d):
    Calls v1 26 #[Zz ⟨Zc b⟩] w (dM λ v w'=>v=vI d/\Own w D w' []/\(¬ (d=0)\/(1<=X b/\X b<=12))):=by
 unfold iI at hr
 refine cb Tryz.func26 ?_
 refine sr (An Z (JG (sr (Mz Z (Kz (vJ (X b)) (Kz (Zb ((X b:Int) < 1)) (Mz Z ?_)))))))
 by_cases a:(X b:Int) < 1
 refine T (dT a) (T (dT a) (T (dT a) (fw (V Zk) (JL Z (dT a) Z) (nt (jt (sr (An Z (rt (tR (rs ?_))))))))))
 have e:=H.pk []
 obtain rfl:=zj hr zq1
 exact⟨Z,e,Y⟩
 refine gw (Zz ⟨Zc b⟩) (dF a) (JM Z) (Gz (vJ (X b)) (dF a) (Gz (Zb ((X b:Int) > 12)) (dF a) (fw (Zb ((X b:Int) > 12)) (JH Z (dF a) Z) (nt ?_))))
 by_cases c:(X b:Int) > 12
 refine jT (dT c) (sr (An Z (rt (tR (rs ?_)))))
 have f:=H.pk []
 obtain rfl:=zj hr zq2
 exact⟨Z,f,Y⟩
 refine jF (dF c) (sk (sr (An Z (rt (rs ?_)))))
 have g:=H.pk []
 obtain rfl:=zj hr zq2
 exact⟨Z,g,Y⟩
def kJ (d:List UInt8):Nat->Nat->Nat
  | 0,a=>ZZ
  | c+1,a=>if((a:Nat):Int) > 0 then bnd (y4 d (a - 1) ZZ) λ b=>if((b.toNat:Nat):Int)=255 then kJ d c (a - 1) else a else a
def qg (a:List UInt8):au × Int:=
 bnd (iI a) λ b=>if b=0 then if((X a:Nat):Int) < 12 then(au.q a (a++([0])),0) else bnd (bnd (kJ a (12+1) 12) λ sLrbtfJjL=>sLrbtfJjL) λ sJrbtfJ=>if((sJrbtfJ:Nat):Int)=0 then(au.q a [],0) else bnd (y4 a (sJrbtfJ - 1) ZZ) λ c=>(au.q a ((t8 (sJrbtfJ - 1) a)++([(c+(1:UInt8))])),0) else(au.q [] [],b)
theorem BL (w D a) (r0:au) (r1) (H:Own w D w []) (hr:qg a=(r0,r1)):
    Calls v1 58 #[Zz ⟨Zc a⟩] w (dM λ v w'=>v= .tuple #[Zx (Zc (au.J r0)),vI r1]/\Own w D w' []):=by
 unfold qg at hr
 refine cb Tryz.func58 ?_
 refine sr ?_
 refine cu [Zz ⟨Zc []⟩, Zz ⟨Zc []⟩] 37 H ?_
 intro j aK Z1
 refine An Z (JG (sr (Mz Z ?_)))
 obtain⟨h,g⟩:∃ q,iI a=q:=⟨_,Z⟩
 obtain⟨aL,Z5,aD,Z6,aF⟩:=JJ Z1
 refine cl N2 (mJ _ _ a h Z5 g) ?_
 rintro _ aM ⟨rfl,P,F⟩
 have Z7:=Z6 _ _ P
 replace F: ¬ (h=0)\/(1<=X a/\X a<=12):=F
 refine Ar Z (Mz Z (fw (Zb (¬ (h=0))) (JZ (e:= !(Zy (h=0))) yk ZY) (nt ?_)))
 by_cases n:h=0
 refine jF (dF (Nc n)) (sk (JG (sr (Mz Z (Kz (vJ (X a)) (Kz (Zb ((X a:Int) < 12)) (nt ?_)))))))
 by_cases p:(X a:Int) < 12
 refine jT (decide_eq_true p) (sr (Mz Z (Mz Z (fw (Zz ⟨Zc (a++([0]))⟩) (K4 Z Z g8) (Kz (Zx #[Zz ⟨Zc a⟩, Zz ⟨Zc (a++([0]))⟩]) ?_)))))
 refine cO [Zz ⟨Zc a⟩, Zz ⟨Zc (a++([0]))⟩] 0 Z7 C7 ?_
 intro aN Q
 refine An Z (rt (tR (JY (gH (vs:= [Zx #[Zz ⟨Zc a⟩, Zz ⟨Zc (a++([0]))⟩],vI 0]) Z (bW.cell Z (JW (cs:= [Zz ⟨Zc a⟩, Zz ⟨Zc (a++([0]))⟩]) D0 C7 ((Q.cls (i:=0) Z).lit (k:=0) (m:=2) Z)) (bW.tmp Z bW.nil)) (M9 Z)) ?_)))
 have Z2:=Q.pk []
 obtain⟨rfl,rfl⟩:=fK (zj hr zq3)
 exact⟨Z,Z2⟩
 refine jF (dF p) (sk (sr (An Z (JG ?_))))
 obtain⟨Z0,r⟩:=mE λ (b:Nat) w'=>Own w D w' [blk j [Zz ⟨Zc []⟩, Zz ⟨Zc []⟩] 37]/\b<=9223372036854775807/\b<=X a/\(bnd (kJ a (12+1) 12) λ sLrbtfJjL=>sLrbtfJjL)=b
 refine KL (λ i:Nat=> [(5,vJ i),(3,vI 0),(2,vP j 0),(0, Zz ⟨Zc a⟩)]) Z0 ?_ ?_
 refine bo ?_
 have aa:=Z7.pf []
 obtain⟨af,s⟩:=Io λ (c:Nat) (u:Nat) w'=>Own w D w' [blk j [Zz ⟨Zc []⟩, Zz ⟨Zc []⟩] 37]/\c<=X a/\c < u/\kJ a (12+1) 12=kJ a u c
 refine B4 (λ i:Nat × Nat=> [(5,vJ i.1),(3,vI 0),(2,vP j 0),(0, Zz ⟨Zc a⟩)]) af (λ i=>i.2) (12,12+1) ⟨Z,Z,Z,Z,ZW⟩ (s.2 ⟨aa,Y,Y,Z⟩) ?_
 rintro ⟨c,u⟩ aO R
 show Wp _ _ _ [(5,vJ c),(3,vI 0),(2,vP j 0),(0, Zz ⟨Zc a⟩)] _ _
 obtain⟨K,aG,aH,x⟩:=s.1 R
 obtain⟨L,S⟩:∃ q,u=q+1:=⟨u - 1,Y⟩
 subst S
 refine JG (sr (Mz Z (Kz (Zb ((c:Int) > 0)) (Mz Z ?_))))
 by_cases d:(c:Int) > 0
 refine gw (Zz ⟨Zc a⟩) (dT d) (JM Z) (gw (vJ c) (dT d) (JM Z) (gw (vJ (c - 1)) (dT d) (JN (e:=B7.wrap ((c:Int) - 1)) yk f3) ?_))
 obtain⟨B,z⟩:=mI (ls:=a) (i:=c - 1) Y
 refine gw (.int .u8 (B.toNat:Int)) (dT d) (KV v7 Z Z z) (Gz (Zb ((B.toNat:Int)=255)) (dT d) (fw (Zb ((B.toNat:Int)=255)) (JL Z (dT d) Z) (nt ?_)))
 by_cases C:(B.toNat:Int)=255
 refine jT (dT C) (sk (bo (JI (Mz Z (fw (vJ (c - 1)) (JN (e:=B7.wrap ((c:Int) - 1)) yk f3) (Az Z (B8 (bN ?_))))))))
 have ag:=K.pf []
 exact JX (c - 1,L) ⟨Z,Z,Z,Z,ZW⟩ (s.2 ⟨ag,Y,Y,N (x) (N (ip d) (N (ae (bu z)) (ip C)))⟩) (by show L < L+1; omega)
 refine jF (dF C) (B9 (JV (JV (J2 ?_))))
 have ah:=K.pf []
 exact Kr c ⟨Z,Z,Z,Z,ZW⟩ (r.2 ⟨ah,Y,Y,ae (N (x) (N (ip d) (N (ae (bu z)) (iN C))))⟩)
 refine T (dF d) (T (dF d) (T (dF d) (T (dF d) (T (dF d) (fw (V J) (JH Z (dF d) Z) (nt (jf (B9 (JV (JV (J2 ?_)))))))))))
 have ai:=K.pf []
 exact Kr c ⟨Z,Z,Z,Z,ZW⟩ (r.2 ⟨ai,Y,Y,ae (N (x) (iN d))⟩)
 rintro b aP Z8
 show Wp _ _ _ [(5,vJ b),(3,vI 0),(2,vP j 0),(0, Zz ⟨Zc a⟩)] _ _
 obtain⟨Z4,aI,aJ,G⟩:=r.1 Z8
 refine JG (sr (Mz Z (Kz (Zb ((b:Int)=0)) (nt ?_))))
 by_cases E:(b:Int)=0
 refine jT (dT E) (sr (Mz Z (Kz (Zx #[Zz ⟨Zc a⟩, Zz ⟨Zc []⟩]) ?_)))
 refine cO [Zz ⟨Zc a⟩, Zz ⟨Zc []⟩] 0 Z4 C7 ?_
 intro aQ Z3
 refine An Z (rt (tR (JY (gH (vs:= [Zx #[Zz ⟨Zc a⟩, Zz ⟨Zc []⟩],vI 0]) Z (bW.cell Z (JW (cs:= [Zz ⟨Zc a⟩, Zz ⟨Zc []⟩]) D0 C7 ((Z3.cls (i:=0) Z).lit (k:=0) (m:=2) Z)) (bW.tmp Z bW.nil)) (M9 Z)) ?_)))
 have aj:=Z3.pk []
 obtain⟨rfl,rfl⟩:=fK (zj hr zq5)
 exact⟨Z,aj⟩
 refine jF (dF E) (sk (JG ?_))
 refine AQ [] (JP J3) Z4 ?_
 intro aR ak
 refine qv 0 Z Z (qv 1 Z Z (qv 2 Z Z (qt (v:=vJ (b - 1)) 3 Z (λ _ _=>JN (e:=B7.wrap ((b:Int) - 1)) yk f3) (qt (v:= Zz ⟨Zc (t8 (b - 1) a)⟩) 4 Z (λ _ _=>LK v7 Z Z g8) (qv 5 Z Z (qv 6 Z Z (qt (v:=vJ (b - 1)) 7 Z (λ _ _=>JN (e:=B7.wrap ((b:Int) - 1)) yk f3) ?_)))))))
 obtain⟨f,I⟩:=mI (ls:=a) (i:=b - 1) Y
 refine qt (v:= .int .u8 (f.toNat:Int)) 8 Z (λ _ _=>KV v7 Z Z I) (qt (v:= .int .u8 (((f+(1:UInt8)).toNat:Nat):Int)) 9 Z (λ _ _=>JN (e:=IntKind.u8.wrap ((f.toNat:Int)+1)) yk (Et f (1:UInt8))) ?_)
 refine qd 10 Z (Kt (cs:= [.int .u8 (((f+(1:UInt8)).toNat:Nat):Int)]) (t:=5) (sz:=1) (m:=1) ak Z Z Za Z f6 ?_)
 intro av aS A
 replace A:=Ke (y:=row av 1 1 (q0 eB ([(f+(1:UInt8))])) 5 1) Z A
 refine⟨.inr ⟨_,A⟩, ?_⟩
 refine Jj A (qt (v:= Zz ⟨Zc ([(f+(1:UInt8))])⟩) 11 Z (λ _ ⟨_,H9⟩=>Lg (l:= [(f+(1:UInt8))]) Tryz.underlying186 Tryz.underlying5 v7 (H9.rds (i:=0) Z) Z) (qt (v:= Zz ⟨Zc ((t8 (b - 1) a)++([(f+(1:UInt8))]))⟩) 12 Z (λ _ _=>K4 Z Z g8) (qk (Zx #[Zz ⟨Zc a⟩, Zz ⟨Zc ((t8 (b - 1) a)++([(f+(1:UInt8))]))⟩]) 13 Z ?_)))
 have ax:=A.pb [0]
 refine qe 14 Z (Do.store (vs:= [Zz ⟨Zc a⟩, Zz ⟨Zc ((t8 (b - 1) a)++([(f+(1:UInt8))]))⟩]) (o:=0) ax Z Z C7 Z Z Z Z ?_)
 intro aU ay
 have M:=ay.pb [0]
 refine⟨.inr ⟨_,M⟩, ?_⟩
 refine qa 15 Z Z (qn (JK (rt (JY (gH (vs:= [Zx #[Zz ⟨Zc a⟩, Zz ⟨Zc ((t8 (b - 1) a)++([(f+(1:UInt8))]))⟩],vI 0]) Z (bW.cell Z (JW (cs:= [Zz ⟨Zc a⟩, Zz ⟨Zc ((t8 (b - 1) a)++([(f+(1:UInt8))]))⟩]) D0 C7 ((M.cls (i:=1) Z).lit (k:=0) (m:=2) Z)) (bW.tmp Z bW.nil)) (M9 Z)) ?_))))
 have az:=M.pk []
 obtain⟨rfl,rfl⟩:=fK (zj hr zq6)
 exact⟨Z,az⟩
 refine jT (dT n) (sr (Kz (Zx #[Zz ⟨Zc []⟩, Zz ⟨Zc []⟩]) (Mz Z ?_)))
 refine cO [Zz ⟨Zc []⟩, Zz ⟨Zc []⟩] 0 Z7 C7 ?_
 intro aV Z9
 refine An Z (rt (tR (JY (gH (vs:= [Zx #[Zz ⟨Zc []⟩, Zz ⟨Zc []⟩],vI h]) Z (bW.cell Z (JW (cs:= [Zz ⟨Zc []⟩, Zz ⟨Zc []⟩]) D0 C7 ((Z9.cls (i:=0) Z).lit (k:=0) (m:=2) Z)) (bW.tmp Z bW.nil)) (M9 Z)) ?_)))
 have aA:=Z9.pk []
 obtain⟨rfl,rfl⟩:=fK (zj hr zq2)
 exact⟨Z,aA⟩
def lu (a:au):Int:=
 if((X a.a:Nat):Int) > 12 then 21 else if((X a.b:Nat):Int) > 12 then 21 else if a.b≠[] then if a.b<=a.a then 21 else 0 else 0
theorem uJ (w D) (d:au) (n) (H:Own w D w []) (hr:lu d=n):
    Calls v1 97 #[Zx (Zc (au.J d))] w (dM λ v w'=>v=vI n/\Own w D w' []):=by
 unfold lu at hr
 refine cb Tryz.func97 ?_
 refine sr ?_
 refine cu (au.J d) 37 H ?_
 intro g o f
 refine An Z (JG (sr (Kz (vP g 0) (Lz (Zz ⟨Zc d.a⟩) f 0 B3 (Kz (vJ (X d.a)) (Kz (Zb ((X d.a:Int) > 12)) (Mz Z ?_)))))))
 by_cases b:(X d.a:Int) > 12
 refine T (dT b) (T (dT b) (T (dT b) (T (dT b) (fw (V Zk) (JL Z (dT b) Z) (Mz Z (T Z (T Z (T Z (T Z (JR Z Z Z (JR Z Z Z (JR Z Z Z (JR Z Z Z (JR Z Z Z (T Z (fw (V Zk) (JL Z Z Z) (nt (jt (sr (An Z (rt (tR (rs ?_)))))))))))))))))))))))
 have i:=f.pk []
 obtain rfl:=zj hr zq1
 exact⟨Z,i⟩
 refine Gz (vP g 1) (dF b) (Gl (Zz ⟨Zc d.b⟩) (dF b) f 0 B3 (Gz (vJ (X d.b)) (dF b) (Gz (Zb ((X d.b:Int) > 12)) (dF b) (fw (Zb ((X d.b:Int) > 12)) (JH Z (dF b) Z) (Mz Z ?_)))))
 by_cases a:(X d.b:Int) > 12
 refine T (dT a) (T (dT a) (T (dT a) (T (dT a) (JR Z Z Z (JR Z Z Z (JR Z Z Z (JR Z Z Z (JR Z Z Z (T (dT a) (fw (V Zk) (JL Z (dT a) Z) (nt (jt (sr (An Z (rt (tR (rs ?_)))))))))))))))))
 have j:=f.pk []
 obtain rfl:=zj hr zq2
 exact⟨Z,j⟩
 refine Gz (vP g 1) (dF a) (Gl (Zz ⟨Zc d.b⟩) (dF a) f 0 B3 (gw (Zb (d.b≠[])) (dF a) (Km Z Z) (gw (Zb (d.b≠[])) (dF a) (JM Z) ?_)))
 by_cases c:d.b≠[]
 refine Gz (vP g 0) (dT c) (Gl (Zz ⟨Zc d.a⟩) (dT c) f 0 B3 (Gz (vP g 1) (dT c) (Gl (Zz ⟨Zc d.b⟩) (dT c) f 0 B3 (gw (Zb (d.b<=d.a)) (dT c) (JZ (e:= !(Op.bytesLess d.a d.b)) (Lb Z Z) (Bn _ _)) (gw (Zb (d.b<=d.a)) (dF a) (JL Z (dT c) Z) (fw (Zb (d.b<=d.a)) (JH Z (dF a) Z) (nt ?_)))))))
 by_cases h:d.b<=d.a
 refine jT (dT h) (sr (An Z (rt (tR (rs ?_)))))
 have k:=f.pk []
 obtain rfl:=zj hr zq4
 exact⟨Z,k⟩
 refine jF (dF h) (sk (sr (An Z (rt (rs ?_)))))
 have l:=f.pk []
 obtain rfl:=zj hr zq4
 exact⟨Z,l⟩
 refine T (dF c) (T (dF c) (T (dF c) (T (dF c) (T (dF c) (gw (V J) (dF a) (JH Z (dF c) Z) (fw (V J) (JH Z (dF a) Z) (nt (jf (sk (sr (An Z (rt (rs ?_)))))))))))))
 have m:=f.pk []
 obtain rfl:=zj hr zq3
 exact⟨Z,m⟩
def mo (a:aY):Int:=
 if a.e=1 then if a.a≠[] then 40 else if a.b≠[] then 40 else if a.g≠[] then 40 else if a.j=0 then bnd (iI a.f) λ d=>if d=0 then if((X a.g:Nat):Int) > 16 then 2 else 0 else 20 else 40 else if a.e=2 then if a.a≠[] then 40 else if a.b≠[] then 40 else if a.j=0 then bnd (iI a.f) λ e=>if e=0 then if((X a.g:Nat):Int) > 16 then 2 else 0 else 20 else 40 else if a.e=4 then if a.f≠[] then 40 else if a.g≠[] then 40 else if((X a.g:Nat):Int) > 16 then 2 else bnd (lu (au.q a.a a.b)) λ f=>if f=0 then if a.j < 1 then 1 else if a.j > 4 then 1 else 0 else 21 else if a.e=3 then if a.a≠[] then 40 else if a.b≠[] then 40 else if a.g≠[] then 40 else if a.j=0 then bnd (iI a.f) λ b=>if b=0 then if((X a.g:Nat):Int) > 16 then 2 else 0 else 20 else 40 else if a.e=5 then if a.f≠[] then 40 else if a.g≠[] then 40 else if a.j=0 then if((X a.g:Nat):Int) > 16 then 2 else bnd (lu (au.q a.a a.b)) λ c=>if c=0 then 0 else 21 else 40 else 40
theorem Am (w D) (a:aY) (r0) (H:Own w D w []) (hr:mo a=r0):
    Calls v1 55 #[Zx (Zc (aY.J a))] w (dM λ v w'=>v=vI r0/\Own w D w' []/\(¬ (r0=0)\/(1<=a.e/\a.e<=5))):=by
 unfold mo at hr
 refine cb Tryz.func55 ?_
 refine sr ?_
 refine cu (aY.J a) 68 H ?_
 intro d dI b
 refine Ar Z (Kz (vP d 0) (Lz (vI a.e) b 0 B5 (Kz (Zb (a.e=1)) (Mz Z ?_))))
 by_cases g:a.e=1
 refine T (dT g) (T (dT g) (T (dT g) (fw (V Zk) (JL Z (dT g) Z) (Mz Z (T Z (T Z (T Z (fw (V Zk) (JL Z Z Z) (Ar Z (Kz (vP d 0) (Lz (vI a.e) b 0 B5 (Kz (Zb (a.e=4)) (Mz Z ?_)))))))))))))
 have z:(Zy (a.e=4))=J:=(dF Y)
 refine Gz (vP d 0) z (Gl (vI a.e) z b 0 B5 (Gz (Zb (a.e=5)) z (fw (Zb (a.e=5)) (JH Z z Z) (An Z (JG (sr (Mz Z (Kz (V J) (Mz Z (T Z (T Z (fw (V J) (JH Z Z Z) (Mz Z (gw (V Zk) Z (JM Z) (gw (V Zk) Z (JM Z) (Gz (vP d 3) Z (Gl (Zz ⟨Zc a.a⟩) Z b 0 B3 (gw (Zb (a.a≠[])) Z (Km Z Z) (gw (Zb (a.a≠[])) Z (JM Z) ?_)))))))))))))))))))
 by_cases B:a.a≠[]
 refine T (dT B) (T (dT B) (T (dT B) (gw (V Zk) Z (JL Z (dT B) Z) (gw (V Zk) Z (JL Z Z Z) (fw (V Zk) (JH Z Z Z) (Mz Z (T Z (T Z (JR Z Z Z (JR Z Z Z (JR Z Z Z (T Z (fw (V Zk) (JL Z Z Z) (Mz Z (T Z (T Z (T Z (T Z (JR Z Z Z (JR Z Z Z (JR Z Z Z (T Z (fw (V Zk) (JL Z Z Z) (Mz Z (T Z (T Z (T Z (T Z (JR Z Z Z (JR Z Z Z (JR Z Z Z (T Z (fw (V Zk) (JL Z Z Z) (nt (jt (sr (Az Z ?_)))))))))))))))))))))))))))))))))))))
 refine nt (rt (tR (rs ?_)))
 have bQ:=b.pk []
 obtain rfl:=zj hr zq2
 exact⟨Z,bQ,Y⟩
 refine Gz (vP d 4) (dF B) (Gl (Zz ⟨Zc a.b⟩) (dF B) b 0 B3 (gw (Zb (a.b≠[])) (dF B) (Km Z Z) (gw (Zb (a.b≠[])) Z (JH Z (dF B) Z) (gw (Zb (a.b≠[])) Z (JL Z Z Z) (fw (Zb (a.b≠[])) (JH Z Z Z) (Mz Z ?_))))))
 by_cases C:a.b≠[]
 refine T (dT C) (T (dT C) (JR Z Z Z (JR Z Z Z (JR Z Z Z (T (dT C) (fw (V Zk) (JL Z (dT C) Z) (Mz Z (T Z (T Z (T Z (T Z (JR Z Z Z (JR Z Z Z (JR Z Z Z (T Z (fw (V Zk) (JL Z Z Z) (Mz Z (T Z (T Z (T Z (T Z (JR Z Z Z (JR Z Z Z (JR Z Z Z (T Z (fw (V Zk) (JL Z Z Z) (nt (jt (sr (An Z (rt (tR (rs ?_)))))))))))))))))))))))))))))))))
 have bR:=b.pk []
 obtain rfl:=zj hr zq3
 exact⟨Z,bR,Y⟩
 refine gw (Zb (a.e=5)) (dF C) (JM Z) (gw (Zb (a.e=5)) (dF C) (JM Z) ?_)
 have r:(Zy (a.e=5))=J:=(dF Y)
 refine T r (T r (T r (gw (V J) (dF C) (JH Z r Z) (fw (V J) (JH Z (dF C) Z) (Mz Z (Gz (vP d 0) Z (Gl (vI a.e) Z b 0 B5 (gw (Zb (¬ (a.e=2))) Z (JZ (e:= !(Zy (a.e=2))) yk ZY) (gw (Zb (¬ (a.e=2))) Z (JM Z) ?_)))))))))
 have Z2:(Zy (¬ (a.e=2)))=Zk:=(dT Y)
 refine Gz (vP d 2) Z2 (Gl (Zz ⟨Zc a.g⟩) Z2 b 0 B3 (Kj (v:= Zb (a.g≠[])) Z Z Z2 Z (Km Z Z) (gw (Zb (a.g≠[])) Z (JL Z Z2 Z) (fw (Zb (a.g≠[])) (JH Z Z Z) (Mz Z ?_)))))
 by_cases u:a.g≠[]
 refine T (dT u) (T (dT u) (T (dT u) (T (dT u) (JR Z Z Z (JR Z Z Z (JR Z Z Z (T (dT u) (fw (V Zk) (JL Z (dT u) Z) (nt (jt (sr (An Z (rt (tR (rs ?_)))))))))))))))
 have bS:=b.pk []
 obtain rfl:=zj hr zq4
 exact⟨Z,bS,Y⟩
 refine Gz (vP d 0) (dF u) (Gl (vI a.e) (dF u) b 0 B5 (gw (Zb (¬ (a.e=4))) (dF u) (JZ (e:= !(Zy (a.e=4))) yk ZY) (gw (Zb (¬ (a.e=4))) (dF u) (JM Z) ?_)))
 have Z0:(Zy (¬ (a.e=4)))=Zk:=(dT Y)
 refine Gz (vP d 5) Z0 (Gl (vI a.j) Z0 b 0 B5 (Kj (v:= Zb (¬ (a.j=0))) Z Z Z0 Z (JZ (e:= !(Zy (a.j=0))) yk ZY) (gw (Zb (¬ (a.j=0))) (dF u) (JL Z Z0 Z) (fw (Zb (¬ (a.j=0))) (JH Z (dF u) Z) (nt ?_)))))
 by_cases ay:a.j=0
 refine jF (dF (Nc ay)) (sk (JG (sr (Mz Z (Mz Z (Gz (vP d 1) Z (Gl (Zz ⟨Zc a.f⟩) Z b 0 B3 ?_)))))))
 obtain⟨az,aa⟩:∃ q,iI a.f=q:=⟨_,Z⟩
 obtain⟨dJ,aV,dw,aW,dx⟩:=JJ b
 refine oC Z N2 (mJ _ _ a.f az aV aa) ?_
 rintro _ dK ⟨rfl,aX,aN⟩
 have aC:=aW _ _ aX
 replace aN: ¬ (az=0)\/(1<=X a.f/\X a.f<=12):=aN
 refine gw (Zb (¬ (az=0))) Z (JZ (e:= !(Zy (az=0))) yk ZY) (fw (Zb (¬ (az=0))) (JL Z Z Z) (nt ?_))
 by_cases aD:az=0
 refine jF (dF (Nc aD)) (sk (JG (sr (Kz (vP d 2) (Lz (Zz ⟨Zc a.g⟩) aC 0 B3 (Kz (vJ (X a.g)) (Kz (Zb ((X a.g:Int) > 16)) (nt ?_))))))))
 by_cases aL:(X a.g:Int) > 16
 refine jT (dT aL) (sr (An Z (rt (tR (rs ?_)))))
 have bT:=aC.pk []
 obtain rfl:=zj hr zq8
 exact⟨Z,bT,Y⟩
 refine jF (dF aL) (sk (JG (sr (Mz Z (Mz Z (T r (T r (T r (T r (T r (T r (T r (fw (V J) (JH Z r Z) (nt (jf (sk (JG (sr (Kz (vP d 0) (Lz (vI a.e) aC 0 B5 (Kz (Zb (a.e=4)) (Mz Z (T z (T z (T z (T z (JR Z Z Z (JR Z Z Z (JR Z Z Z (T z (fw (V J) (JH Z z Z) (nt (jf ?_)))))))))))))))))))))))))))))))))
 refine sk (sr (An Z (rt (rs ?_))))
 have bU:=aC.pk []
 obtain rfl:=zj hr zq8
 exact⟨Z,bU,Y⟩
 refine jT (dT aD) (sr (An Z (rt (tR (rs ?_)))))
 have bV:=aC.pk []
 obtain rfl:=zj hr zq7
 exact⟨Z,bV,Y⟩
 refine jT (dT ay) (sr (An Z (rt (tR (rs ?_)))))
 have bW:=b.pk []
 obtain rfl:=zj hr zq5
 exact⟨Z,bW,Y⟩
 refine Gz (vP d 0) (dF g) (Gl (vI a.e) (dF g) b 0 B5 (Gz (Zb (a.e=2)) (dF g) (fw (Zb (a.e=2)) (JH Z (dF g) Z) (Mz Z ?_))))
 by_cases i:a.e=2
 refine T (dT i) (T (dT i) (T (dT i) (fw (V Zk) (JL Z (dT i) Z) (Ar Z (Kz (vP d 0) (Lz (vI a.e) b 0 B5 (Kz (Zb (a.e=4)) (Mz Z ?_))))))))
 have A:(Zy (a.e=4))=J:=(dF Y)
 refine Gz (vP d 0) A (Gl (vI a.e) A b 0 B5 (Gz (Zb (a.e=5)) A (fw (Zb (a.e=5)) (JH Z A Z) (An Z (JG (sr (Mz Z (Kz (V J) (Mz Z (T Z (T Z (fw (V J) (JH Z Z Z) (Mz Z (gw (V Zk) Z (JM Z) (gw (V Zk) Z (JM Z) (Gz (vP d 3) Z (Gl (Zz ⟨Zc a.a⟩) Z b 0 B3 (gw (Zb (a.a≠[])) Z (Km Z Z) (gw (Zb (a.a≠[])) Z (JM Z) ?_)))))))))))))))))))
 by_cases E:a.a≠[]
 refine T (dT E) (T (dT E) (T (dT E) (gw (V Zk) Z (JL Z (dT E) Z) (gw (V Zk) Z (JL Z Z Z) (fw (V Zk) (JH Z Z Z) (Mz Z (T Z (T Z (JR Z Z Z (JR Z Z Z (JR Z Z Z (T Z (fw (V Zk) (JL Z Z Z) (Mz Z (T Z (T Z (T Z (T Z (JR Z Z Z (JR Z Z Z (JR Z Z Z (T Z (fw (V Zk) (JL Z Z Z) (Mz Z (T Z (T Z (T Z (T Z (JR Z Z Z (JR Z Z Z (JR Z Z Z (T Z (fw (V Zk) (JL Z Z Z) (nt (jt (sr (Az Z ?_)))))))))))))))))))))))))))))))))))))
 refine nt (rt (tR (rs ?_)))
 have bX:=b.pk []
 obtain rfl:=zj hr zq3
 exact⟨Z,bX,Y⟩
 refine Gz (vP d 4) (dF E) (Gl (Zz ⟨Zc a.b⟩) (dF E) b 0 B3 (gw (Zb (a.b≠[])) (dF E) (Km Z Z) (gw (Zb (a.b≠[])) Z (JH Z (dF E) Z) (gw (Zb (a.b≠[])) Z (JL Z Z Z) (fw (Zb (a.b≠[])) (JH Z Z Z) (Mz Z ?_))))))
 by_cases F:a.b≠[]
 refine T (dT F) (T (dT F) (JR Z Z Z (JR Z Z Z (JR Z Z Z (T (dT F) (fw (V Zk) (JL Z (dT F) Z) (Mz Z (T Z (T Z (T Z (T Z (JR Z Z Z (JR Z Z Z (JR Z Z Z (T Z (fw (V Zk) (JL Z Z Z) (Mz Z (T Z (T Z (T Z (T Z (JR Z Z Z (JR Z Z Z (JR Z Z Z (T Z (fw (V Zk) (JL Z Z Z) (nt (jt (sr (An Z (rt (tR (rs ?_)))))))))))))))))))))))))))))))))
 have bY:=b.pk []
 obtain rfl:=zj hr zq4
 exact⟨Z,bY,Y⟩
 refine gw (Zb (a.e=5)) (dF F) (JM Z) (gw (Zb (a.e=5)) (dF F) (JM Z) ?_)
 have s:(Zy (a.e=5))=J:=(dF Y)
 refine T s (T s (T s (gw (V J) (dF F) (JH Z s Z) (fw (V J) (JH Z (dF F) Z) (Mz Z (Gz (vP d 0) Z (Gl (vI a.e) Z b 0 B5 (gw (Zb (¬ (a.e=2))) Z (JZ (e:= !(Zy (a.e=2))) yk ZY) (gw (Zb (¬ (a.e=2))) Z (JM Z) ?_)))))))))
 have af:(Zy (¬ (a.e=2)))=J:=(dF Y)
 refine T af (T af (T af (gw (V J) Z (JH Z af Z) (fw (V J) (JH Z Z Z) (Mz Z (Gz (vP d 0) Z (Gl (vI a.e) Z b 0 B5 (gw (Zb (¬ (a.e=4))) Z (JZ (e:= !(Zy (a.e=4))) yk ZY) (gw (Zb (¬ (a.e=4))) Z (JM Z) ?_)))))))))
 have ag:(Zy (¬ (a.e=4)))=Zk:=(dT Y)
 refine Gz (vP d 5) ag (Gl (vI a.j) ag b 0 B5 (Kj (v:= Zb (¬ (a.j=0))) Z Z ag Z (JZ (e:= !(Zy (a.j=0))) yk ZY) (gw (Zb (¬ (a.j=0))) Z (JL Z ag Z) (fw (Zb (¬ (a.j=0))) (JH Z Z Z) (nt ?_)))))
 by_cases aA:a.j=0
 refine jF (dF (Nc aA)) (sk (JG (sr (Mz Z (Mz Z (Gz (vP d 1) Z (Gl (Zz ⟨Zc a.f⟩) Z b 0 B3 ?_)))))))
 obtain⟨aB,ah⟩:∃ q,iI a.f=q:=⟨_,Z⟩
 obtain⟨dL,aZ,dz,bf,dA⟩:=JJ b
 refine oC Z N2 (mJ _ _ a.f aB aZ ah) ?_
 rintro _ dN ⟨rfl,bg,aO⟩
 have aF:=bf _ _ bg
 replace aO: ¬ (aB=0)\/(1<=X a.f/\X a.f<=12):=aO
 refine gw (Zb (¬ (aB=0))) Z (JZ (e:= !(Zy (aB=0))) yk ZY) (fw (Zb (¬ (aB=0))) (JL Z Z Z) (nt ?_))
 by_cases aG:aB=0
 refine jF (dF (Nc aG)) (sk (JG (sr (Kz (vP d 2) (Lz (Zz ⟨Zc a.g⟩) aF 0 B3 (Kz (vJ (X a.g)) (Kz (Zb ((X a.g:Int) > 16)) (nt ?_))))))))
 by_cases aM:(X a.g:Int) > 16
 refine jT (dT aM) (sr (An Z (rt (tR (rs ?_)))))
 have bZ:=aF.pk []
 obtain rfl:=zj hr zq8
 exact⟨Z,bZ,Y⟩
 refine jF (dF aM) (sk (JG (sr (Mz Z (Mz Z (T s (T s (T s (T s (T s (T s (T s (fw (V J) (JH Z s Z) (nt (jf (sk (JG (sr (Kz (vP d 0) (Lz (vI a.e) aF 0 B5 (Kz (Zb (a.e=4)) (Mz Z (T A (T A (T A (T A (JR Z Z Z (JR Z Z Z (JR Z Z Z (T A (fw (V J) (JH Z A Z) (nt (jf ?_)))))))))))))))))))))))))))))))))
 refine sk (sr (An Z (rt (rs ?_))))
 have cz:=aF.pk []
 obtain rfl:=zj hr zq8
 exact⟨Z,cz,Y⟩
 refine jT (dT aG) (sr (An Z (rt (tR (rs ?_)))))
 have cB:=aF.pk []
 obtain rfl:=zj hr zq7
 exact⟨Z,cB,Y⟩
 refine jT (dT aA) (sr (An Z (rt (tR (rs ?_)))))
 have cK:=b.pk []
 obtain rfl:=zj hr zq5
 exact⟨Z,cK,Y⟩
 refine Gz (vP d 0) (dF i) (Gl (vI a.e) (dF i) b 0 B5 (Gz (Zb (a.e=3)) (dF i) (fw (Zb (a.e=3)) (JH Z (dF i) Z) (Ar Z (Kz (vP d 0) (Lz (vI a.e) b 0 B5 (Kz (Zb (a.e=4)) (Mz Z ?_))))))))
 by_cases f:a.e=4
 refine T (dT f) (T (dT f) (T (dT f) (fw (V Zk) (JL Z (dT f) Z) (An Z (JG (sr (Mz Z (fw (Zb (¬ (a.e=3))) (JZ (e:= !(Zy (a.e=3))) yk ZY) (Mz Z ?_)))))))))
 have aH:(Zy (¬ (a.e=3)))=Zk:=(dT Y)
 refine Kj (v:= V Zk) Z Z aH Z (JM Z) (Gz (V J) aH (fw (V J) (JL Z aH Z) (Mz Z (gw (Zb (a.e=3)) Z (JM Z) (gw (Zb (a.e=3)) Z (JM Z) ?_)))))
 have x:(Zy (a.e=3))=J:=(dF Y)
 refine T x (T x (T x (T x (JR Z Z Z (JR Z Z Z (JR Z Z Z (T x (gw (V J) Z (JH Z x Z) (fw (V J) (JH Z Z Z) (Mz Z (gw (V Zk) Z (JM Z) (gw (V Zk) Z (JM Z) (Gz (vP d 1) Z (Gl (Zz ⟨Zc a.f⟩) Z b 0 B3 (gw (Zb (a.f≠[])) Z (Km Z Z) (gw (Zb (a.f≠[])) Z (JL Z Z Z) (fw (Zb (a.f≠[])) (JH Z Z Z) (Mz Z ?_))))))))))))))))))
 by_cases p:a.f≠[]
 refine T (dT p) (T (dT p) (T (dT p) (T (dT p) (JR Z Z Z (JR Z Z Z (JR Z Z Z (T (dT p) (fw (V Zk) (JL Z (dT p) Z) (Mz Z (T Z (T Z (T Z (T Z (JR Z Z Z (JR Z Z Z (JR Z Z Z (T Z (fw (V Zk) (JL Z Z Z) (nt (jt (sr (An Z (rt (tR (rs ?_)))))))))))))))))))))))))
 have cO:=b.pk []
 obtain rfl:=zj hr zq4
 exact⟨Z,cO,Y⟩
 refine Gz (vP d 0) (dF p) (Gl (vI a.e) (dF p) b 0 B5 (gw (Zb (¬ (a.e=2))) (dF p) (JZ (e:= !(Zy (a.e=2))) yk ZY) (gw (Zb (¬ (a.e=2))) (dF p) (JM Z) ?_)))
 have ai:(Zy (¬ (a.e=2)))=Zk:=(dT Y)
 refine Gz (vP d 2) ai (Gl (Zz ⟨Zc a.g⟩) ai b 0 B3 (Kj (v:= Zb (a.g≠[])) Z Z ai Z (Km Z Z) (gw (Zb (a.g≠[])) (dF p) (JL Z ai Z) (fw (Zb (a.g≠[])) (JH Z (dF p) Z) (Mz Z ?_)))))
 by_cases t:a.g≠[]
 refine T (dT t) (T (dT t) (T (dT t) (T (dT t) (JR Z Z Z (JR Z Z Z (JR Z Z Z (T (dT t) (fw (V Zk) (JL Z (dT t) Z) (nt (jt (sr (An Z (rt (tR (rs ?_)))))))))))))))
 have cZ:=b.pk []
 obtain rfl:=zj hr zq5
 exact⟨Z,cZ,Y⟩
 refine Gz (vP d 0) (dF t) (Gl (vI a.e) (dF t) b 0 B5 (gw (Zb (¬ (a.e=4))) (dF t) (JZ (e:= !(Zy (a.e=4))) yk ZY) (gw (Zb (¬ (a.e=4))) (dF t) (JM Z) ?_)))
 have aj:(Zy (¬ (a.e=4)))=J:=(dF Y)
 refine T aj (T aj (T aj (gw (V J) (dF t) (JH Z aj Z) (fw (V J) (JH Z (dF t) Z) (nt (jf (sk (JG (sr (Mz Z (Mz Z (T x (T x (T x (T x (fw (V J) (JH Z x Z) (nt (jf (sk (JG (sr (Kz (vP d 2) (Lz (Zz ⟨Zc a.g⟩) b 0 B3 (Kz (vJ (X a.g)) (Kz (Zb ((X a.g:Int) > 16)) (nt ?_))))))))))))))))))))))))))
 by_cases Z9:(X a.g:Int) > 16
 refine jT (dT Z9) (sr (An Z (rt (tR (rs ?_)))))
 have df:=b.pk []
 obtain rfl:=zj hr zq6
 exact⟨Z,df,Y⟩
 refine jF (dF Z9) (sk (JG (sr (Mz Z (Mz Z (Gz (vP d 3) Z (Gl (Zz ⟨Zc a.a⟩) Z b 0 B3 (Gz (vP d 4) Z (Gl (Zz ⟨Zc a.b⟩) Z b 0 B3 (Gz (Zx #[Zz ⟨Zc a.a⟩, Zz ⟨Zc a.b⟩]) Z ?_))))))))))
 obtain⟨aI,R⟩:∃ q,lu (au.q a.a a.b)=q:=⟨_,Z⟩
 obtain⟨dO,bi,dB,bn,dC⟩:=JJ b
 refine oC Z N3 (uJ _ _ (au.q a.a a.b) aI bi R) ?_
 rintro _ dP ⟨rfl,bq⟩
 have G:=bn _ _ bq
 refine gw (Zb (¬ (aI=0))) Z (JZ (e:= !(Zy (aI=0))) yk ZY) (fw (Zb (¬ (aI=0))) (JL Z Z Z) (nt ?_))
 by_cases I:aI=0
 refine jF (dF (Nc I)) (sk (JG (sr (Kz (vP d 0) (Lz (vI a.e) G 0 B5 (Kz (Zb (a.e=4)) (Mz Z (Gz (vP d 5) (dT f) (Gl (vI a.j) (dT f) G 0 B5 (Gz (Zb (a.j < 1)) (dT f) (gw (Zb (a.j < 1)) (dT f) (JM Z) ?_)))))))))))
 by_cases y:a.j < 1
 refine T (dT y) (T (dT y) (T (dT y) (gw (V Zk) (dT f) (JL Z (dT y) Z) (fw (V Zk) (JL Z (dT f) Z) (nt (jt (sr (An Z (rt (tR (rs ?_)))))))))))
 have bu:=G.pk []
 obtain rfl:=zj hr zq9
 exact⟨Z,bu,Y⟩
 refine Gz (vP d 5) (dF y) (Gl (vI a.j) (dF y) G 0 B5 (Gz (Zb (a.j > 4)) (dF y) (gw (Zb (a.j > 4)) (dT f) (JH Z (dF y) Z) (fw (Zb (a.j > 4)) (JL Z (dT f) Z) (nt ?_)))))
 by_cases ak:a.j > 4
 refine jT (dT ak) (sr (An Z (rt (tR (rs ?_)))))
 have bv:=G.pk []
 obtain rfl:=zj hr zq10
 exact⟨Z,bv,Y⟩
 refine jF (dF ak) (sk (sr (An Z (rt (rs ?_)))))
 have bz:=G.pk []
 obtain rfl:=zj hr zq10
 exact⟨Z,bz,Y⟩
 refine jT (dT I) (sr (An Z (rt (tR (rs ?_)))))
 have bA:=G.pk []
 obtain rfl:=zj hr zq8
 exact⟨Z,bA,Y⟩
 refine Gz (vP d 0) (dF f) (Gl (vI a.e) (dF f) b 0 B5 (Gz (Zb (a.e=5)) (dF f) (fw (Zb (a.e=5)) (JH Z (dF f) Z) (An Z (JG (sr (Mz Z (fw (Zb (¬ (a.e=3))) (JZ (e:= !(Zy (a.e=3))) yk ZY) (Mz Z ?_)))))))))
 by_cases c:a.e=3
 refine Sk Z Z (dF (Nc c)) Z (Sk Z Z (dF (Nc c)) Z (fw (V J) (JH Z (dF (Nc c)) Z) (Mz Z (gw (Zb (a.e=3)) Z (JM Z) (gw (Zb (a.e=3)) Z (JM Z) (Gz (vP d 3) (dT c) (Gl (Zz ⟨Zc a.a⟩) (dT c) b 0 B3 (gw (Zb (a.a≠[])) (dT c) (Km Z Z) (gw (Zb (a.a≠[])) (dT c) (JM Z) ?_)))))))))
 by_cases n:a.a≠[]
 refine T (dT n) (T (dT n) (T (dT n) (gw (V Zk) (dT c) (JL Z (dT n) Z) (gw (V Zk) Z (JL Z (dT c) Z) (fw (V Zk) (JH Z Z Z) (Mz Z (T Z (T Z (JR Z Z Z (JR Z Z Z (JR Z Z Z (T Z (fw (V Zk) (JL Z Z Z) (Mz Z (T Z (T Z (T Z (T Z (JR Z Z Z (JR Z Z Z (JR Z Z Z (T Z (fw (V Zk) (JL Z Z Z) (Mz Z (T Z (T Z (T Z (T Z (JR Z Z Z (JR Z Z Z (JR Z Z Z (T Z (fw (V Zk) (JL Z Z Z) (nt (jt (sr (Az Z ?_)))))))))))))))))))))))))))))))))))))
 refine nt (rt (tR (rs ?_)))
 have bB:=b.pk []
 obtain rfl:=zj hr zq5
 exact⟨Z,bB,Y⟩
 refine Gz (vP d 4) (dF n) (Gl (Zz ⟨Zc a.b⟩) (dF n) b 0 B3 (gw (Zb (a.b≠[])) (dF n) (Km Z Z) (gw (Zb (a.b≠[])) (dT c) (JH Z (dF n) Z) (gw (Zb (a.b≠[])) Z (JL Z (dT c) Z) (fw (Zb (a.b≠[])) (JH Z Z Z) (Mz Z ?_))))))
 by_cases o:a.b≠[]
 refine T (dT o) (T (dT o) (JR Z Z Z (JR Z Z Z (JR Z Z Z (T (dT o) (fw (V Zk) (JL Z (dT o) Z) (Mz Z (T Z (T Z (T Z (T Z (JR Z Z Z (JR Z Z Z (JR Z Z Z (T Z (fw (V Zk) (JL Z Z Z) (Mz Z (T Z (T Z (T Z (T Z (JR Z Z Z (JR Z Z Z (JR Z Z Z (T Z (fw (V Zk) (JL Z Z Z) (nt (jt (sr (An Z (rt (tR (rs ?_)))))))))))))))))))))))))))))))))
 have bC:=b.pk []
 obtain rfl:=zj hr zq6
 exact⟨Z,bC,Y⟩
 refine gw (Zb (a.e=5)) (dF o) (JM Z) (gw (Zb (a.e=5)) (dF o) (JM Z) ?_)
 have m:(Zy (a.e=5))=J:=(dF Y)
 refine T m (T m (T m (gw (V J) (dF o) (JH Z m Z) (fw (V J) (JH Z (dF o) Z) (Mz Z (Gz (vP d 0) Z (Gl (vI a.e) Z b 0 B5 (gw (Zb (¬ (a.e=2))) Z (JZ (e:= !(Zy (a.e=2))) yk ZY) (gw (Zb (¬ (a.e=2))) Z (JM Z) ?_)))))))))
 have M:(Zy (¬ (a.e=2)))=Zk:=(dT Y)
 refine Gz (vP d 2) M (Gl (Zz ⟨Zc a.g⟩) M b 0 B3 (Kj (v:= Zb (a.g≠[])) Z Z M Z (Km Z Z) (gw (Zb (a.g≠[])) Z (JL Z M Z) (fw (Zb (a.g≠[])) (JH Z Z Z) (Mz Z ?_)))))
 by_cases k:a.g≠[]
 refine T (dT k) (T (dT k) (T (dT k) (T (dT k) (JR Z Z Z (JR Z Z Z (JR Z Z Z (T (dT k) (fw (V Zk) (JL Z (dT k) Z) (nt (jt (sr (An Z (rt (tR (rs ?_)))))))))))))))
 have bD:=b.pk []
 obtain rfl:=zj hr zq7
 exact⟨Z,bD,Y⟩
 refine Gz (vP d 0) (dF k) (Gl (vI a.e) (dF k) b 0 B5 (gw (Zb (¬ (a.e=4))) (dF k) (JZ (e:= !(Zy (a.e=4))) yk ZY) (gw (Zb (¬ (a.e=4))) (dF k) (JM Z) ?_)))
 have Z5:(Zy (¬ (a.e=4)))=Zk:=(dT Y)
 refine Gz (vP d 5) Z5 (Gl (vI a.j) Z5 b 0 B5 (Kj (v:= Zb (¬ (a.j=0))) Z Z Z5 Z (JZ (e:= !(Zy (a.j=0))) yk ZY) (gw (Zb (¬ (a.j=0))) (dF k) (JL Z Z5 Z) (fw (Zb (¬ (a.j=0))) (JH Z (dF k) Z) (nt ?_)))))
 by_cases Z7:a.j=0
 refine jF (dF (Nc Z7)) (sk (JG (sr (Mz Z (Mz Z (Gz (vP d 1) (dT c) (Gl (Zz ⟨Zc a.f⟩) (dT c) b 0 B3 ?_)))))))
 obtain⟨K,Z6⟩:∃ q,iI a.f=q:=⟨_,Z⟩
 obtain⟨dD,aP,dh,aQ,di⟩:=JJ b
 refine oC (dT c) N2 (mJ _ _ a.f K aP Z6) ?_
 rintro _ dE ⟨rfl,aR,aJ⟩
 have S:=aQ _ _ aR
 replace aJ: ¬ (K=0)\/(1<=X a.f/\X a.f<=12):=aJ
 refine gw (Zb (¬ (K=0))) (dT c) (JZ (e:= !(Zy (K=0))) yk ZY) (fw (Zb (¬ (K=0))) (JL Z (dT c) Z) (nt ?_))
 by_cases Z8:K=0
 refine jF (dF (Nc Z8)) (sk (JG (sr (Kz (vP d 2) (Lz (Zz ⟨Zc a.g⟩) S 0 B3 (Kz (vJ (X a.g)) (Kz (Zb ((X a.g:Int) > 16)) (nt ?_))))))))
 by_cases av:(X a.g:Int) > 16
 refine jT (dT av) (sr (An Z (rt (tR (rs ?_)))))
 have bE:=S.pk []
 obtain rfl:=zj hr zq11
 exact⟨Z,bE,Y⟩
 refine jF (dF av) (sk (JG (sr (Mz Z (Mz Z (T m (T m (T m (T m (T m (T m (T m (fw (V J) (JH Z m Z) (nt (jf (sk (JG (sr (Kz (vP d 0) (Lz (vI a.e) S 0 B5 (Kz (Zb (a.e=4)) (Mz Z (T (dF f) (T (dF f) (T (dF f) (T (dF f) (JR Z Z Z (JR Z Z Z (JR Z Z Z (T (dF f) (fw (V J) (JH Z (dF f) Z) (nt (jf ?_)))))))))))))))))))))))))))))))))
 refine sk (sr (An Z (rt (rs ?_))))
 have bF:=S.pk []
 obtain rfl:=zj hr zq11
 exact⟨Z,bF,Y⟩
 refine jT (dT Z8) (sr (An Z (rt (tR (rs ?_)))))
 have bG:=S.pk []
 obtain rfl:=zj hr zq10
 exact⟨Z,bG,Y⟩
 refine jT (dT Z7) (sr (An Z (rt (tR (rs ?_)))))
 have bH:=b.pk []
 obtain rfl:=zj hr zq8
 exact⟨Z,bH,Y⟩
 refine gw (Zb (a.e=5)) (dT c) (JM Z) (gw (Zb (¬ (a.e=5))) (dT c) (JZ (e:= !(Zy (a.e=5))) yk ZY) (fw (Zb (¬ (a.e=5))) (JL Z (dT c) Z) (Mz Z ?_)))
 by_cases h:a.e=5
 refine gw (Zb (a.e=3)) (dF (Nc h)) (JM Z) (gw (Zb (a.e=3)) (dF (Nc h)) (JM Z) (T (dF c) (T (dF c) (T (dF c) (T (dF c) (JR Z Z Z (JR Z Z Z (JR Z Z Z (T (dF c) (gw (V J) (dF (Nc h)) (JH Z (dF c) Z) (fw (V J) (JH Z (dF (Nc h)) Z) (Mz Z (gw (Zb (a.e=5)) Z (JM Z) (gw (Zb (a.e=5)) Z (JM Z) (Gz (vP d 1) (dT h) (Gl (Zz ⟨Zc a.f⟩) (dT h) b 0 B3 (gw (Zb (a.f≠[])) (dT h) (Km Z Z) (gw (Zb (a.f≠[])) Z (JL Z (dT h) Z) (fw (Zb (a.f≠[])) (JH Z Z Z) (Mz Z ?_))))))))))))))))))))
 by_cases j:a.f≠[]
 refine T (dT j) (T (dT j) (T (dT j) (T (dT j) (JR Z Z Z (JR Z Z Z (JR Z Z Z (T (dT j) (fw (V Zk) (JL Z (dT j) Z) (Mz Z (T Z (T Z (T Z (T Z (JR Z Z Z (JR Z Z Z (JR Z Z Z (T Z (fw (V Zk) (JL Z Z Z) (nt (jt (sr (An Z (rt (tR (rs ?_)))))))))))))))))))))))))
 have bI:=b.pk []
 obtain rfl:=zj hr zq6
 exact⟨Z,bI,Y⟩
 refine Gz (vP d 0) (dF j) (Gl (vI a.e) (dF j) b 0 B5 (gw (Zb (¬ (a.e=2))) (dF j) (JZ (e:= !(Zy (a.e=2))) yk ZY) (gw (Zb (¬ (a.e=2))) (dF j) (JM Z) ?_)))
 have P:(Zy (¬ (a.e=2)))=Zk:=(dT Y)
 refine Gz (vP d 2) P (Gl (Zz ⟨Zc a.g⟩) P b 0 B3 (Kj (v:= Zb (a.g≠[])) Z Z P Z (Km Z Z) (gw (Zb (a.g≠[])) (dF j) (JL Z P Z) (fw (Zb (a.g≠[])) (JH Z (dF j) Z) (Mz Z ?_)))))
 by_cases l:a.g≠[]
 refine T (dT l) (T (dT l) (T (dT l) (T (dT l) (JR Z Z Z (JR Z Z Z (JR Z Z Z (T (dT l) (fw (V Zk) (JL Z (dT l) Z) (nt (jt (sr (An Z (rt (tR (rs ?_)))))))))))))))
 have bJ:=b.pk []
 obtain rfl:=zj hr zq7
 exact⟨Z,bJ,Y⟩
 refine Gz (vP d 0) (dF l) (Gl (vI a.e) (dF l) b 0 B5 (gw (Zb (¬ (a.e=4))) (dF l) (JZ (e:= !(Zy (a.e=4))) yk ZY) (gw (Zb (¬ (a.e=4))) (dF l) (JM Z) ?_)))
 have Q:(Zy (¬ (a.e=4)))=Zk:=(dT Y)
 refine Gz (vP d 5) Q (Gl (vI a.j) Q b 0 B5 (Kj (v:= Zb (¬ (a.j=0))) Z Z Q Z (JZ (e:= !(Zy (a.j=0))) yk ZY) (gw (Zb (¬ (a.j=0))) (dF l) (JL Z Q Z) (fw (Zb (¬ (a.j=0))) (JH Z (dF l) Z) (nt ?_)))))
 by_cases L:a.j=0
 refine jF (dF (Nc L)) (sk (JG (sr (Mz Z (Mz Z (T (dF c) (T (dF c) (T (dF c) (T (dF c) (fw (V J) (JH Z (dF c) Z) (nt (jf (sk (JG (sr (Kz (vP d 2) (Lz (Zz ⟨Zc a.g⟩) b 0 B3 (Kz (vJ (X a.g)) (Kz (Zb ((X a.g:Int) > 16)) (nt ?_))))))))))))))))))))
 by_cases Z4:(X a.g:Int) > 16
 refine jT (dT Z4) (sr (An Z (rt (tR (rs ?_)))))
 have bK:=b.pk []
 obtain rfl:=zj hr zq9
 exact⟨Z,bK,Y⟩
 refine jF (dF Z4) (sk (JG (sr (Mz Z (Mz Z (Gz (vP d 3) (dT h) (Gl (Zz ⟨Zc a.a⟩) (dT h) b 0 B3 (Gz (vP d 4) (dT h) (Gl (Zz ⟨Zc a.b⟩) (dT h) b 0 B3 (Gz (Zx #[Zz ⟨Zc a.a⟩, Zz ⟨Zc a.b⟩]) (dT h) ?_))))))))))
 obtain⟨Z3,Z1⟩:∃ q,lu (au.q a.a a.b)=q:=⟨_,Z⟩
 obtain⟨dG,aS,dm,aT,dn⟩:=JJ b
 refine oC (dT h) N3 (uJ _ _ (au.q a.a a.b) Z3 aS Z1) ?_
 rintro _ dH ⟨rfl,aU⟩
 have aK:=aT _ _ aU
 refine gw (Zb (¬ (Z3=0))) (dT h) (JZ (e:= !(Zy (Z3=0))) yk ZY) (fw (Zb (¬ (Z3=0))) (JL Z (dT h) Z) (nt ?_))
 by_cases ax:Z3=0
 refine jF (dF (Nc ax)) (sk (JG (sr (Kz (vP d 0) (Lz (vI a.e) aK 0 B5 (Kz (Zb (a.e=4)) (Mz Z (T (dF f) (T (dF f) (T (dF f) (T (dF f) (JR Z Z Z (JR Z Z Z (JR Z Z Z (T (dF f) (fw (V J) (JH Z (dF f) Z) (nt (jf (sk (sr (An Z (rt (rs ?_)))))))))))))))))))))))
 have bL:=aK.pk []
 obtain rfl:=zj hr zq11
 exact⟨Z,bL,Y⟩
 refine jT (dT ax) (sr (An Z (rt (tR (rs ?_)))))
 have bM:=aK.pk []
 obtain rfl:=zj hr zq11
 exact⟨Z,bM,Y⟩
 refine jT (dT L) (sr (An Z (rt (tR (rs ?_)))))
 have bN:=b.pk []
 obtain rfl:=zj hr zq8
 exact⟨Z,bN,Y⟩
 refine T (dT h) (T (dT h) (JR Z Z Z (JR Z Z Z (JR Z Z Z (JR Z Z Z (JR Z Z Z (JR Z Z Z (JR Z Z Z (JR Z Z Z (T (dT h) (fw (V Zk) (JL Z (dT h) Z) (Mz Z (T Z (T Z (JR Z Z Z (JR Z Z Z (JR Z Z Z (T Z (fw (V Zk) (JL Z Z Z) (Mz Z (T Z (T Z (T Z (T Z (JR Z Z Z (JR Z Z Z (JR Z Z Z (T Z (fw (V Zk) (JL Z Z Z) (Mz Z (T Z (T Z (T Z (T Z (JR Z Z Z (JR Z Z Z (JR Z Z Z (T Z (fw (V Zk) (JL Z Z Z) ?_)))))))))))))))))))))))))))))))))))))))
 refine nt (jt (sr (An Z (rt (tR (rs ?_))))))
 have bO:=b.pk []
 obtain rfl:=zj hr zq5
 exact⟨Z,bO,Y⟩
def nk:List aY->Unit ⊕ Int
  | []=>y3 ()
  | b::c=>bnd (mo b) λ a=>if a=0 then nk c else y6 (a)
def vO (a:List aY):Int:=
 lp (nk a) λ _=>0
theorem D7 (w D p B C b M) (H:Own w D w []) (o:Ro w D λ w'=>bP w' 6 p B (q0 aY.J b)) (E:B=X b) (Q:X b<=9223372036854775807) (hr:vO b=M):
    Calls v1 24 #[W p B C] w (dM λ v w'=>v=vI M/\Own w D w' []):=by
 subst E
 refine cb Tryz.func24 ?_
 refine sr (An Z (JG (sr (Mz Z (Kz (vJ (X b)) (Mn Z (bo ?_)))))))
 have F:=H.pk []
 obtain⟨G,f⟩:=mE λ (a:Nat) w'=>Own w D w' []/\a<=X b/\nk b=nk (r6 a b)
 refine B4 (λ i:Nat=> [(2,vI 0),(8,vJ i),(7,vJ (X b)),(6, W p (X b) C)]) G (λ i=>X b - i) 0 ⟨Z,Z,Z,Z,ZW⟩ (f.2 ⟨F,Y,Z⟩) ?_
 rintro a R r
 show Wp _ _ _ [(2,vI 0),(8,vJ a),(7,vJ (X b)),(6, W p (X b) C)] _ _
 obtain⟨g,Z5,h⟩:=f.1 r
 refine sr (Kz (Zb ((a:Int) < (X b:Int))) (nt (JG ?_)))
 by_cases s:(a:Int) < (X b:Int)
 obtain⟨c,l⟩:=dJ (ls:=b) (i:=a) aY.len f6 (g.ro o) f4
 have m:=drop_at l
 refine jT (dT s) (sk (JG (bo (sr (fw (Zq (Zw ⟨ab p,ao p+a *6,Zv⟩)) (JU (oD) Z Z ((g.ro o).addr (i:=a) Y) Y) (fw (Zx (Zc (aY.J c))) (JS Z (JW (cs:=(aY.J c)) Tryz.isAgg68 C5 ((g.ro o).elem aY.len l f6))) ?_))))))
 refine cu [vI 0, Zz ⟨Zc []⟩, Zz ⟨Zc []⟩, Zz ⟨Zc []⟩, Zz ⟨Zc []⟩,vI 0] 68 g ?_
 intro S Z8 I
 refine cO (aY.J c) 0 I C5 ?_
 intro Z4 t
 refine ns (La (aY.J c) t 0 Tryz.isAgg68 C5 ?_)
 obtain⟨d,j⟩:∃ q,mo c=q:=⟨_,Z⟩
 obtain⟨Z3,u,Z6,x,P⟩:=JJ t
 refine cl Tryz.call55 (Am _ _ c d u j) ?_
 rintro _ Z9 ⟨rfl,y,n⟩
 have z:=x _ _ y
 replace n: ¬ (d=0)\/(1<=c.e/\c.e<=5):=n
 refine Ar Z (Mz Z (fw (Zb (¬ (d=0))) (JZ (e:= !(Zy (d=0))) yk ZY) (nt ?_)))
 by_cases k:d=0
 refine jF (dF (Nc k)) (J8 (bN (JK (JI (fw (vJ (a+1)) (JN (e:=B7.wrap ((a:Int)+1)) yk f3) (Mz Z (B8 ?_)))))))
 have Z7:=z.pk []
 exact JX (a+1) ⟨Z,Z,Z,Z,ZW⟩ (f.2 ⟨Z7,Y,N (h) (N (ZJ (λ q=>nk q) m) (N (ae j) (ip k)))⟩) (by show X b - (a+1) < X b - a; omega)
 refine jT (dT k) (sr (Mz Z (An Z (rt (bR (tR (tR (bR (tR (rs ?_))))))))))
 have K:=z.pk []
 obtain rfl:_=d:=zj hr (iJ (N (h) (N (ZJ (λ q=>nk q) m) (N (ae j) (iN k)))))
 exact⟨Z,K⟩
 refine jF (dF s) (B9 (JV ?_))
 have A:nk b=y3 ():=N (h) (N (ZJ (λ q=>nk q) (eH (ls:=b) (i:=a) Y)) Z)
 refine JV (J2 (JK (sr (An Z (rt (rs ?_))))))
 have L:=g.pk []
 obtain rfl:_=0:=zj hr (lD A)
 exact⟨Z,L⟩
def gN (f:List ay):List ay->Nat->Unit ⊕ Int
  | [],a=>y3 ()
  | b::c,a=>bnd (iI b.f) λ d=>if d=0 then if((X b.g:Nat):Int) > 16 then y6 (2) else if((a:Nat):Int) > 0 then bnd (y4 f (a - 1) ZZ) λ e=>if b.f<=e.f then y6 (1) else gN f c (a+1) else gN f c (a+1) else y6 (20)
def lU (a:List ay):Int:=
 lp (gN a a 0) λ _=>0
theorem uW (w D m Z5 C c Z2) (H:Own w D w []) (o:Ro w D λ w'=>bP w' 2 m Z5 (q0 ay.J c)) (Z6:Z5=X c) (ag:X c *32<=211106232532992) (hr:lU c=Z2):
    Calls v1 14 #[W m Z5 C] w (dM λ v w'=>v=vI Z2/\Own w D w' []):=by
 subst Z6
 refine cb Tryz.func14 ?_
 refine sr (An Z (JG (sr (Mz Z (Kz (vJ (X c)) (Mn Z (bo ?_)))))))
 have P:=H.pk []
 obtain⟨Q,l⟩:=mE λ (a:Nat) w'=>Own w D w' []/\a<=X c/\gN c c 0=gN c (r6 a c) a
 refine B4 (λ i:Nat=> [(2,vI 0),(7,vJ i),(6,vJ (X c)),(5, W m (X c) C),(0, W m (X c) C)]) Q (λ i=>X c - i) 0 ⟨Z,Z,Z,Z,Z,ZW⟩ (l.2 ⟨P,Y,Z⟩) ?_
 rintro a ah E
 show Wp _ _ _ [(2,vI 0),(7,vJ a),(6,vJ (X c)),(5, W m (X c) C),(0, W m (X c) C)] _ _
 obtain⟨p,Z0,f⟩:=l.1 E
 refine sr (Kz (Zb ((a:Int) < (X c:Int))) (nt (JG ?_)))
 by_cases F:(a:Int) < (X c:Int)
 obtain⟨d,y⟩:=dJ (ls:=c) (i:=a) ay.len f6 (p.ro o) f4
 have h:=drop_at y
 refine jT (dT F) (sk (JG (bo (sr (Mz Z (fw (Zq (Zw ⟨ab m,ao m+a *2,Zv⟩)) (JU (iW) Z Z ((p.ro o).addr (i:=a) Y) Y) (fw (Zx (Zc (ay.J d))) (JS Z (JW (cs:=(ay.J d)) N4 L4 ((p.ro o).elem ay.len y f6))) ?_)))))))
 refine cu [Zz ⟨Zc []⟩, Zz ⟨Zc []⟩] 101 p ?_
 intro A ai R
 refine Az Z ?_
 refine cO (ay.J d) 0 R L4 ?_
 intro aj G
 refine nt (JG (sr (Kz (vP A 0) (Lz (Zz ⟨Zc d.f⟩) G 0 B3 ?_))))
 obtain⟨r,g⟩:∃ q,iI d.f=q:=⟨_,Z⟩
 obtain⟨ak,I,aa,Z7,af⟩:=JJ G
 refine cl N2 (mJ _ _ d.f r I g) ?_
 rintro _ au ⟨rfl,K,z⟩
 have u:=Z7 _ _ K
 replace z: ¬ (r=0)\/(1<=X d.f/\X d.f<=12):=z
 refine fw (Zb (¬ (r=0))) (JZ (e:= !(Zy (r=0))) yk ZY) (nt ?_)
 by_cases j:r=0
 refine jF (dF (Nc j)) (sk (JG (sr (Kz (vP A 1) (Lz (Zz ⟨Zc d.g⟩) u 0 B3 (Kz (vJ (X d.g)) (Kz (Zb ((X d.g:Int) > 16)) (nt ?_))))))))
 by_cases n:(X d.g:Int) > 16
 refine jT (dT n) (sr (An Z (rt (tR (bR (tR (tR (bR (tR (rs ?_))))))))))
 have S:=u.pk []
 obtain rfl:_=2:=zj hr (iJ (N (f) (N (ZJ (λ q=>gN c q a) h) (N (ae g) (N (ip j) (ip n))))))
 exact⟨Z,S⟩
 refine jF (dF n) (sk (JG ?_))
 refine Dh [] (JP (bI.block (JP (JP (bI.block (JP J3)))))) u ?_
 intro av B
 refine qv 0 Z Z (qk (Zb ((a:Int) > 0)) 1 Z (qv 2 Z Z ?_))
 by_cases b:(a:Int) > 0
 refine JQ (v:= W m (X c) C) (rs:= []) 3 Z Z Z (dT b) f1 (λ _ _=>JM Z) (JQ (v:=vJ a) (rs:= []) 4 Z Z Z (dT b) f1 (λ _ _=>JM Z) (JQ (v:=vJ (a - 1)) (rs:= []) 5 Z Z Z (dT b) f1 (λ _ _=>JN (e:=B7.wrap ((a:Int) - 1)) yk f3) ?_))
 obtain⟨s,t⟩:=mI (ls:=c) (i:=a - 1) f4
 refine JQ (v:= Zq (Zw ⟨ab m,ao m+(a - 1) *2,Zv⟩)) (rs:= []) 6 Z Z Z (dT b) f1 (λ _ ⟨_,L⟩=>JU (iW) Z Z ((L.ro o).addr (i:=a - 1) Y) Y) (JQ (v:= Zq (Zw ⟨ab m,ao m+(a - 1) *2,Zv⟩)) (rs:= []) 7 Z Z Z (dT b) f1 (λ _ _=>yk) (JQ (v:= Zz ⟨Zc s.f⟩) (rs:= []) 8 Z Z Z (dT b) f1 (λ _ ⟨_,L⟩=>JS Z (bT.one B3 (((L.ro o).elem ay.len t f6).at_ (k:=0) Z))) (JQ (v:=vP A 0) (rs:= []) 9 Z Z Z (dT b) f1 (λ _ _=>yk) (JQ (v:= Zz ⟨Zc d.f⟩) (rs:= []) 10 Z Z Z (dT b) f1 (λ _ ⟨_,L⟩=>JS Z (bT.one B3 (Kk (L.cls (i:=0) Z) Z))) (JQ (v:= Zb (d.f<=s.f)) (rs:= []) 11 Z Z Z (dT b) f1 (λ _ _=>JZ (e:= !(Op.bytesLess s.f d.f)) (Lb Z Z) (Bn _ _)) (qt (v:= Zb (d.f<=s.f)) 12 Z (λ _ _=>JL Z (dT b) Z) (qn (JK ?_))))))))
 by_cases x:d.f<=s.f
 refine jT (dT x) (sr (An Z (rt (bR (tR (tR (bR (tR (rs ?_)))))))))
 have Z8:=B.pk []
 obtain rfl:_=1:=zj hr (iJ (N (f) (N (ZJ (λ q=>gN c q a) h) (N (ae g) (N (ip j) (N (iN n) (N (ip b) (N (ae (bu t)) (ip x)))))))))
 exact⟨Z,Z8⟩
 refine jF (dF x) (J8 (bN (JK (JI (fw (vJ (a+1)) (JN (e:=B7.wrap ((a:Int)+1)) yk f3) (Mz Z (B8 ?_)))))))
 have Z4:=B.pk []
 exact JX (a+1) ⟨Z,Z,Z,Z,Z,ZW⟩ (l.2 ⟨Z4,Y,N (f) (N (ZJ (λ q=>gN c q a) h) (N (ae g) (N (ip j) (N (iN n) (N (ip b) (N (ae (bu t)) (iN x)))))))⟩) (by show X c - (a+1) < X c - a; omega)
 refine JO (rs:= []) 3 Z Z Z (dF b) f1 (JO (rs:= []) 4 Z Z Z (dF b) f1 (JO (rs:= []) 5 Z Z Z (dF b) f1 (JO (rs:= []) 6 Z Z Z (dF b) f1 (JO (rs:= []) 7 Z Z Z (dF b) f1 (JO (rs:= []) 8 Z Z Z (dF b) f1 (JO (rs:= []) 9 Z Z Z (dF b) f1 (JO (rs:= []) 10 Z Z Z (dF b) f1 (JO (rs:= []) 11 Z Z Z (dF b) f1 (qt (v:= V J) 12 Z (λ _ _=>JH Z (dF b) Z) (qn (JK (jf (J8 (bN (JK (JI (fw (vJ (a+1)) (JN (e:=B7.wrap ((a:Int)+1)) yk f3) (Mz Z (B8 ?_)))))))))))))))))))
 have Z3:=B.pk []
 exact JX (a+1) ⟨Z,Z,Z,Z,Z,ZW⟩ (l.2 ⟨Z3,Y,N (f) (N (ZJ (λ q=>gN c q a) h) (N (ae g) (N (ip j) (N (iN n) (iN b)))))⟩) (by show X c - (a+1) < X c - a; omega)
 refine jT (dT j) (sr (An Z (rt (tR (bR (tR (tR (bR (tR (rs ?_))))))))))
 have Z9:=u.pk []
 obtain rfl:_=20:=zj hr (iJ (N (f) (N (ZJ (λ q=>gN c q a) h) (N (ae g) (iN j)))))
 exact⟨Z,Z9⟩
 refine jF (dF F) (B9 (JV ?_))
 have M:gN c c 0=y3 ():=N (f) (N (ZJ (λ q=>gN c q a) (eH (ls:=c) (i:=a) Y)) Z)
 refine JV (J2 (JK (sr (An Z (rt (rs ?_))))))
 have Z1:=p.pk []
 obtain rfl:_=0:=zj hr (lD M)
 exact⟨Z,Z1⟩
def jZ (c:List UInt8):List ay->Unit ⊕ ((List UInt8) × Bool)
  | []=>y3 ()
  | a::b=>if a.f=c then y6 (a.g,Zk) else jZ c b
def nH (a:List ay) (b:List UInt8):(List UInt8) × Bool:=
 lp (jZ b a) λ _=>([],J)
theorem yL (w D o u x b d G I) (H:Own w D w []) (n:Ro w D λ w'=>bP w' 2 o u (q0 ay.J b)) (y:u=X b) (K:X b *32<=211106232532992) (hr:nH b d=(G,I)):
    Calls v1 56 #[W o u x, Zz ⟨Zc d⟩] w (dM λ v w'=>v= .tuple #[Zz ⟨Zc G⟩, V I]/\Own w D w' []):=by
 subst y
 refine cb Tryz.func56 ?_
 refine sr (Az Z (An Z (JG (sr (Mz Z (Kz (vJ (X b)) (Mn Z (bo ?_))))))))
 have z:=H.pk []
 obtain⟨A,f⟩:=mE λ (a:Nat) w'=>Own w D w' []/\a<=X b/\jZ d b=jZ d (r6 a b)
 refine B4 (λ i:Nat=> [(4, Zz ⟨Zc []⟩),(5, V J),(10,vJ i),(9,vJ (X b)),(8, W o (X b) x),(1, Zz ⟨Zc d⟩)]) A (λ i=>X b - i) 0 ⟨Z,Z,Z,Z,Z,Z,ZW⟩ (f.2 ⟨z,Y,Z⟩) ?_
 rintro a L p
 show Wp _ _ _ [(4, Zz ⟨Zc []⟩),(5, V J),(10,vJ a),(9,vJ (X b)),(8, W o (X b) x),(1, Zz ⟨Zc d⟩)] _ _
 obtain⟨g,Z7,h⟩:=f.1 p
 refine sr (Kz (Zb ((a:Int) < (X b:Int))) (nt (JG ?_)))
 by_cases r:(a:Int) < (X b:Int)
 obtain⟨c,l⟩:=dJ (ls:=b) (i:=a) ay.len f6 (g.ro n) f4
 have m:=drop_at l
 refine jT (dT r) (sk (JG (bo (sr (fw (Zq (Zw ⟨ab o,ao o+a *2,Zv⟩)) (JU (iW) Z Z ((g.ro n).addr (i:=a) Y) Y) (fw (Zx (Zc (ay.J c))) (JS Z (JW (cs:=(ay.J c)) N4 L4 ((g.ro n).elem ay.len l f6))) ?_))))))
 refine cu [Zz ⟨Zc []⟩, Zz ⟨Zc []⟩] 101 g ?_
 intro s M B
 refine cO (ay.J c) 0 B L4 ?_
 intro Z5 j
 refine ns (Kz (vP s 0) (Lz (Zz ⟨Zc c.f⟩) j 0 B3 (Mz Z (fw (Zb (c.f=d)) (KU Z Z) (nt ?_)))))
 by_cases k:c.f=d
 refine jT (dT k) (sr (Kz (vP s 1) (Lz (Zz ⟨Zc c.g⟩) j 0 B3 (Az Z (An Z (rt (bR (tR (tR (bR (tR (JY (kS Z Z Z) ?_))))))))))))
 have C:=j.pk []
 obtain⟨rfl,rfl⟩:=fK (zj hr (show _=(c.g,Zk) from iJ (N (h) (N (ZJ (λ q=>jZ d q) m) (ip k)))))
 exact⟨Z,C⟩
 refine jF (dF k) (J8 (bN (JK (JI (fw (vJ (a+1)) (JN (e:=B7.wrap ((a:Int)+1)) yk f3) (Mz Z (B8 ?_)))))))
 have E:=j.pk []
 exact JX (a+1) ⟨Z,Z,Z,Z,Z,Z,ZW⟩ (f.2 ⟨E,Y,N (h) (N (ZJ (λ q=>jZ d q) m) (iN k))⟩) (by show X b - (a+1) < X b - a; omega)
 refine jF (dF r) (B9 (JV ?_))
 have t:jZ d b=y3 ():=N (h) (N (ZJ (λ q=>jZ d q) (eH (ls:=b) (i:=a) Y)) Z)
 refine JV (J2 (JK (sr (Az Z (An Z (rt (JY (kS Z Z Z) ?_)))))))
 have F:=g.pk []
 obtain⟨rfl,rfl⟩:=fK (zj hr (show _=([],J) from lD t))
 exact⟨Z,F⟩
def j3 (l1:List ay):List ay->Nat->Unit ⊕ Bool
  | [],b=>y3 ()
  | c::d,b=>bnd (y4 l1 b ZZ) λ a=>if(c.f=a.f)/\(c.g=a.g) then j3 l1 d (b+1) else y6 (J)
def qU (a:List ay) (l1:List ay):Bool:=
 if((X a:Nat):Int)=((X l1:Nat):Int) then lp (j3 l1 a 0) λ _=>Zk else J
theorem Ao (w D r B C b s E F l1 P) (H:Own w D w []) (n:Ro w D λ w'=>bP w' 2 r B (q0 ay.J b)) (G:B=X b) (R:X b<=9223372036854775807) (t:Ro w D λ w'=>bP w' 2 s E (q0 ay.J l1)) (I:E=X l1) (S:X l1<=9223372036854775807) (hr:qU b l1=P):
    Calls v1 27 #[W r B C, W s E F] w (dM λ v w'=>v= V P/\Own w D w' []):=by
 unfold qU at hr
 subst G I
 refine cb Tryz.func27 ?_
 refine sr (An Z (JG (sr (Mz Z (Kz (vJ (X b)) (Mz Z (Kz (vJ (X l1)) (fw (Zb (¬ ((X b:Int)=(X l1:Int)))) (JZ (e:= !(Zy ((X b:Int)=(X l1:Int)))) yk ZY) (nt ?_)))))))))
 by_cases f:(X b:Int)=(X l1:Int)
 refine jF (dF (Nc f)) (sk (JG (sr (Mz Z (Kz (vJ (X b)) (Mn Z (bo ?_)))))))
 have Z7:=H.pk []
 obtain⟨K,g⟩:=mE λ (a:Nat) w'=>Own w D w' []/\a<=X b/\j3 l1 b 0=j3 l1 (r6 a b) a
 refine B4 (λ i:Nat=> [(4, V J),(13,vJ i),(12,vJ (X b)),(0, W r (X b) C),(1, W s (X l1) F)]) K (λ i=>X b - i) 0 ⟨Z,Z,Z,Z,Z,ZW⟩ (g.2 ⟨Z7,Y,Z⟩) ?_
 rintro a Z8 x
 show Wp _ _ _ [(4, V J),(13,vJ a),(12,vJ (X b)),(0, W r (X b) C),(1, W s (X l1) F)] _ _
 obtain⟨o,Q,h⟩:=g.1 x
 refine sr (Kz (Zb ((a:Int) < (X b:Int))) (nt (JG ?_)))
 by_cases y:(a:Int) < (X b:Int)
 obtain⟨c,l⟩:=dJ (ls:=b) (i:=a) ay.len f6 (o.ro n) f4
 have m:=drop_at l
 refine jT (dT y) (sk (JG (bo (sr (Mz Z (An Z (JG ?_)))))))
 refine AQ [] (JP (bI.block (JP (JP (bI.block (JP J3)))))) o ?_
 intro Z4 z
 refine qv 0 Z Z (qv 1 Z Z (qt (v:= Zq (Zw ⟨ab r,ao r+a *2,Zv⟩)) 2 Z (λ _ ⟨_,p⟩=>JU (iW) Z Z ((p.ro n).addr (i:=a) Y) Y) (qt (v:= Zx (Zc (ay.J c))) 3 Z (λ _ ⟨_,p⟩=>JS Z (JW (cs:=(ay.J c)) N4 L4 ((p.ro n).elem ay.len l f6))) (qv 4 Z Z (qv 5 Z Z ?_)))))
 obtain⟨d,j⟩:=mI (ls:=l1) (i:=a) f4
 refine qt (v:= Zq (Zw ⟨ab s,ao s+a *2,Zv⟩)) 6 Z (λ _ ⟨_,p⟩=>JU (iW) Z Z ((p.ro t).addr (i:=a) Y) Y) (qt (v:= Zx (Zc (ay.J d))) 7 Z (λ _ ⟨_,p⟩=>JS Z (JW (cs:=(ay.J d)) N4 L4 ((p.ro t).elem ay.len j f6))) (qt (v:= Zb (¬ ((c.f=d.f)/\(c.g=d.g)))) 8 Z (λ _ _=>JZ (e:= !(Zy ((c.f=d.f)/\(c.g=d.g)))) (KD Z Z f1 Z (gB.struct Tryz.underlying101 f1 (Kv (fG.cons (u:= Zz ⟨Zc c.f⟩) (v:= Zz ⟨Zc d.f⟩) f6 Za Za (gB.string v7) (fG.cons (u:= Zz ⟨Zc c.g⟩) (v:= Zz ⟨Zc d.g⟩) f6 Za Za (gB.string v7) (fG.nil.up (Nb _)))) ((ZJ (Zy (c.f=d.f) && ·) kF).trans fI)))) ZY) (qn (JK ?_))))
 by_cases k:(c.f=d.f)/\(c.g=d.g)
 refine jF (dF (Nc k)) (J8 (bN (JK (JI (fw (vJ (a+1)) (JN (e:=B7.wrap ((a:Int)+1)) yk f3) (Mz Z (B8 ?_)))))))
 have L:=z.pk []
 exact JX (a+1) ⟨Z,Z,Z,Z,Z,ZW⟩ (g.2 ⟨L,Y,N (h) (N (ZJ (λ q=>j3 l1 q a) m) (N (ae (bu j)) (ip k)))⟩) (by show X b - (a+1) < X b - a; omega)
 refine jT (dT k) (sr (An Z (rt (bR (tR (tR (bR (tR (rs ?_)))))))))
 have M:=z.pk []
 obtain rfl:_=J:=zj hr (N (ip f) (iJ (N (h) (N (ZJ (λ q=>j3 l1 q a) m) (N (ae (bu j)) (iN k))))))
 exact⟨Z,M⟩
 refine jF (dF y) (B9 (JV ?_))
 have A:j3 l1 b 0=y3 ():=N (h) (N (ZJ (λ q=>j3 l1 q a) (eH (ls:=b) (i:=a) Y)) Z)
 refine JV (J2 (JK (sr (An Z (rt (rs ?_))))))
 have Z5:=o.pk []
 obtain rfl:_=Zk:=zj hr (N (ip f) (lD A))
 exact⟨Z,Z5⟩
 refine jT (dT f) (sr (An Z (rt (tR (rs ?_)))))
 have Z6:=H.pk []
 obtain rfl:=zj hr zq1
 exact⟨Z,Z6⟩
def j4 (c:au) (d:List UInt8):Bool:=
 bnd (lu c) λ a=>if a=0 then bnd (iI d) λ b=>if b=0 then if c.a<=d then if c.b=[] then Zk else Zy (d < c.b) else J else J else J
theorem zF (w D) (f:au) (h F) (H:Own w D w []) (hr:j4 f h=F):
    Calls v1 98 #[Zx (Zc (au.J f)), Zz ⟨Zc h⟩] w (dM λ v w'=>v= V F/\Own w D w' []):=by
 unfold j4 at hr
 refine cb Tryz.func98 ?_
 refine sr ?_
 refine cu (au.J f) 37 H ?_
 intro m L o
 refine Ar Z (La (au.J f) o 0 D0 C7 ?_)
 obtain⟨n,g⟩:∃ q,lu f=q:=⟨_,Z⟩
 obtain⟨M,p,G,r,I⟩:=JJ o
 refine cl N3 (uJ _ _ f n p g) ?_
 rintro _ Z5 ⟨rfl,s⟩
 have t:=r _ _ s
 refine Kz (Zb (n=0)) (Mz Z ?_)
 by_cases c:n=0
 refine gw (Zz ⟨Zc h⟩) (dT c) (JM Z) ?_
 obtain⟨k,i⟩:∃ q,iI h=q:=⟨_,Z⟩
 obtain⟨Z6,u,Z7,x,K⟩:=JJ t
 refine oC (dT c) N2 (mJ _ _ h k u i) ?_
 rintro _ P ⟨rfl,y,l⟩
 have j:=x _ _ y
 replace l: ¬ (k=0)\/(1<=X h/\X h<=12):=l
 refine Gz (Zb (k=0)) (dT c) (fw (Zb (k=0)) (JL Z (dT c) Z) (Mz Z ?_))
 by_cases b:k=0
 refine gw (Zz ⟨Zc h⟩) (dT b) (JM Z) (Gz (vP m 0) (dT b) (Gl (Zz ⟨Zc f.a⟩) (dT b) j 0 B3 (gw (Zb (f.a<=h)) (dT b) (JZ (e:= !(Op.bytesLess h f.a)) (Lb Z Z) (Bn _ _)) (fw (Zb (f.a<=h)) (JL Z (dT b) Z) (Mz Z ?_)))))
 by_cases a:f.a<=h
 refine Gz (vP m 1) (dT a) (Gl (Zz ⟨Zc f.b⟩) (dT a) j 0 B3 (gw (Zb (f.b=[])) (dT a) (KU Z Z) (gw (Zb (f.b=[])) (dT a) (JM Z) ?_)))
 by_cases d:f.b=[]
 refine T (dT d) (T (dT d) (T (dT d) (T (dT d) (gw (V Zk) (dT a) (JL Z (dT d) Z) (fw (V Zk) (JL Z (dT a) Z) (An Z (rt (rs ?_))))))))
 have z:=j.pk []
 obtain rfl:=zj hr zq6
 exact⟨Z,z⟩
 refine gw (Zz ⟨Zc h⟩) (dF d) (JM Z) (Gz (vP m 1) (dF d) (Gl (Zz ⟨Zc f.b⟩) (dF d) j 0 B3 (gw (Zb (h < f.b)) (dF d) (JZ (e:=Op.bytesLess h f.b) (Lt Z Z) (zq _ _)) (gw (Zb (h < f.b)) (dT a) (JH Z (dF d) Z) (fw (Zb (h < f.b)) (JL Z (dT a) Z) (An Z (rt (rs ?_))))))))
 have A:=j.pk []
 obtain rfl:=zj hr zq6
 exact⟨Z,A⟩
 refine T (dF a) (T (dF a) (T (dF a) (T (dF a) (JR Z Z Z (JR Z Z Z (JR Z Z Z (JR Z Z Z (T (dF a) (fw (V J) (JH Z (dF a) Z) (An Z (rt (rs ?_))))))))))))
 have B:=j.pk []
 obtain rfl:=zj hr zq5
 exact⟨Z,B⟩
 refine T (dF b) (T (dF b) (T (dF b) (T (dF b) (fw (V J) (JH Z (dF b) Z) (Mz Z (T Z (T Z (T Z (T Z (JR Z Z Z (JR Z Z Z (JR Z Z Z (JR Z Z Z (T Z (fw (V J) (JH Z Z Z) (An Z (rt (rs ?_))))))))))))))))))
 have C:=j.pk []
 obtain rfl:=zj hr zq4
 exact⟨Z,C⟩
 refine T (dF c) (T (dF c) (T (dF c) (fw (V J) (JH Z (dF c) Z) (Mz Z (T Z (T Z (T Z (T Z (fw (V J) (JH Z Z Z) (Mz Z (T Z (T Z (T Z (T Z (JR Z Z Z (JR Z Z Z (JR Z Z Z (JR Z Z Z (T Z (fw (V J) (JH Z Z Z) (An Z (rt (rs ?_)))))))))))))))))))))))
 have E:=t.pk []
 obtain rfl:=zj hr zq2
 exact⟨Z,E⟩
def iO (e:au):List ay->List ay->(List ay)
  | [],a=>a
  | b::c,a=>bnd (j4 e b.f) λ d=>if d=Zk then iO e c a else iO e c (a++ [b])
def nY (a:List ay) (b:au):(List ay):=
 bnd (iO b a []) λ sLrL=>sLrL
theorem vQ (w D E Z6 P d) (f:au) (F) (H:Own w D w []) (x:Ro w D λ w'=>bP w' 2 E Z6 (q0 ay.J d)) (Q:Z6=X d) (aD:X d *32<=211106232532992) (hr:nY d f=F):
    Calls v1 59 #[W E Z6 P, Zx (Zc (au.J f))] w (dM λ v w'=> ∃ B0 b0,v= W B0 (X F) b0/\Own w D w' [row B0 (X F) b0 (q0 ay.J F) 101 2]/\(X F<=X d)):=by
 unfold nY at hr
 subst Q
 refine cb Tryz.func59 ?_
 refine sr ?_
 refine cu (au.J f) 37 H ?_
 intro r R S
 refine Ar Z (An Z (JG (sr (Mz Z (Kz (vJ (X d)) (Mn Z (bo ?_)))))))
 have Z8:Own w D R [row Zv 0 0 (q0 ay.J []) 101 2,blk r (au.J f) 37]:=S.free (cK 101 2)
 have Z4:=Z8.pb [0]
 obtain⟨Z3,g⟩:=wY λ h (j:Nat) b (a:Nat) w'=>Own w D w' [blk r (au.J f) 37,row h (X b) j (q0 ay.J b) 101 2]/\a<=X d/\X b<=a/\iO f d []=iO f (r6 a d) b
 refine B4 (λ i:(Option Addr) × Nat × (List ay) × Nat=> [(5, W i.1 (X i.2.2.1) i.2.1),(10,vJ i.2.2.2),(9,vJ (X d)),(8, W E (X d) P),(4, W Zv 0 0),(3,vP r 0)]) Z3 (λ i=>X d - i.2.2.2) (Zv,0, [],0) ⟨Z,Z,Z,Z,Z,Z,ZW⟩ (g.2 ⟨Z4,(show 0<=X d/\0<=0/\iO f d []=iO f (r6 0 d) [] from ⟨Y,Y,Z⟩)⟩) ?_
 rintro ⟨h,j,b,a⟩ aF G
 show Wp _ _ _ [(5, W h (X b) j),(10,vJ a),(9,vJ (X d)),(8, W E (X d) P),(4, W Zv 0 0),(3,vP r 0)] _ _
 obtain⟨l,ax,az,n⟩:=g.1 G
 refine sr (Kz (Zb ((a:Int) < (X d:Int))) (nt (JG ?_)))
 by_cases I:(a:Int) < (X d:Int)
 obtain⟨c,t⟩:=dJ (ls:=d) (i:=a) ay.len f6 (l.ro x) f4
 have u:=drop_at t
 refine jT (dT I) (sk (JG (bo (sr (fw (Zq (Zw ⟨ab E,ao E+a *2,Zv⟩)) (JU (iW) Z Z ((l.ro x).addr (i:=a) Y) Y) (fw (Zx (Zc (ay.J c))) (JS Z (JW (cs:=(ay.J c)) N4 L4 ((l.ro x).elem ay.len t f6))) ?_))))))
 refine cu [Zz ⟨Zc []⟩, Zz ⟨Zc []⟩] 101 l ?_
 intro Z9 aG Z1
 refine cO (ay.J c) 0 Z1 L4 ?_
 intro aH z
 refine ns (La (au.J f) z 1 D0 C7 (Kz (vP Z9 0) (Lz (Zz ⟨Zc c.f⟩) z 0 B3 ?_)))
 obtain⟨A,o⟩:∃ q,j4 f c.f=q:=⟨_,Z⟩
 obtain⟨aI,Z7,aA,K,aB⟩:=JJ z
 refine cl Tryz.call98 (zF _ _ f c.f A Z7 o) ?_
 rintro _ aJ ⟨rfl,L⟩
 have B:=K _ _ L
 refine Kz (V (!A)) (nt ?_)
 rcases Nf (A) with p | p
 refine jF (cn p) (J8 (bN (JK (JI (fw (vJ (a+1)) (JN (e:=B7.wrap ((a:Int)+1)) yk f3) (Mz Z (B8 ?_)))))))
 have Z2:=B.pk [1,2]
 exact JX (h,j,b,a+1) ⟨Z,Z,Z,Z,Z,Z,ZW⟩ (g.2 ⟨Z2,Y,Y,N (n) (N (ZJ (λ q=>iO f q b) u) (N (ae o) (ip p)))⟩) (by show X d - (a+1) < X d - a; omega)
 refine jT (cn p) (JI (Mz Z (La (ay.J c) B 0 N4 L4 ?_)))
 refine jW (ay.J c) 101 2 1 B ?_
 intro Z0 aK C
 replace C:=Ke (y:=row Z0 1 1 (q0 ay.J ([c])) 101 2) Z C
 have M:=C.pf [3]
 refine WL.do Z (J7 (k:=X b) (m:=1) (iW) M Z Z (fq H0 (M.rds (i:=1) Z) (di ay.one ([c]))) Z Y (s:=X (b++ [c])) f7 (u0).symm ?_)
 intro aa af aL ag
 have aC:X (b++ [c])=X b+1:=by simp only [o2,q5,L3]
 refine Az Z (B8 (bN (JK (JI (fw (vJ (a+1)) (JN (e:=B7.wrap ((a:Int)+1)) yk f3) (Mz Z (B8 ?_)))))))
 have ah:=ag.pk [3,0]
 exact JX (aa,af,(b++ [c]),a+1) ⟨Z,Z,Z,Z,Z,Z,ZW⟩ (g.2 ⟨ah,Y,Y,N (n) (N (ZJ (λ q=>iO f q b) u) (N (ae o) (eP p)))⟩) (by show X d - (a+1) < X d - a; omega)
 refine jF (dF I) (B9 (JV ?_))
 have Z5:iO f d []=b:=N (n) (N (ZJ (λ q=>iO f q b) (eH (ls:=d) (i:=a) Y)) Z)
 refine JV (J2 (JK (JG ?_)))
 have ai:=l.pk [1]
 refine JI (Mz Z (An Z (rt (rs ?_))))
 have aj:=ai.pf []
 obtain rfl:=zj hr zq1
 exact⟨h,j,Z,aj,i3⟩
def fM (e:ay):List ay->List ay->Bool->(List ay) × Bool
  | [],a,b=>(a,b)
  | c::d,a,b=>if b=Zk then if c.f≠e.f then fM e d (a++ [c]) b else fM e d a b else if e.f<=c.f then if c.f≠e.f then fM e d ((a++ [e])++ [c]) Zk else fM e d (a++ [e]) Zk else if c.f≠e.f then fM e d (a++ [c]) b else fM e d a b
def vR (b:List ay) (a:ay):(List ay):=
 bnd (fM a b [] J) λ sLrL=>if sLrL.2=Zk then sLrL.1 else(sLrL.1++ [a])
theorem D8 (w D Q n0 c0 h) (d:ay) (R) (H:Own w D w []) (L:Ro w D λ w'=>bP w' 2 Q n0 (q0 ay.J h)) (ak:n0=X h) (bD:X h *32<=211106232532992) (bE:(X h+1) *32<=211106232532992) (hr:vR h d=R):
    Calls v1 57 #[W Q n0 c0, Zx (Zc (ay.J d))] w (dM λ v w'=> ∃ B0 b0,v= W B0 (X R) b0/\Own w D w' [row B0 (X R) b0 (q0 ay.J R) 101 2]/\(X R<=X h+1)):=by
 unfold vR at hr
 subst ak
 refine cb Tryz.func57 ?_
 refine sr ?_
 refine cu (ay.J d) 101 H ?_
 intro p au av
 refine Ar Z (Ar Z (An Z (JG (sr (Mz Z (Kz (vJ (X h)) (Mn Z (bo ?_))))))))
 have ax:Own w D au [row Zv 0 0 (q0 ay.J []) 101 2,blk p (ay.J d) 101]:=av.free (cK 101 2)
 have az:=ax.pb [0]
 obtain⟨aA,l⟩:=Ip λ u (x:Nat) b f (a:Nat) w'=>Own w D w' [blk p (ay.J d) 101,row u (X b) x (q0 ay.J b) 101 2]/\a<=X h/\X b<=a+Bool.toNat f/\fM d h [] J=fM d (r6 a h) b f
 refine B4 (λ i:(Option Addr) × Nat × (List ay) × Bool × Nat=> [(5, W i.1 (X i.2.2.1) i.2.1),(6, V i.2.2.2.1),(11,vJ i.2.2.2.2),(10,vJ (X h)),(9, W Q (X h) c0),(4, W Zv 0 0),(3,vP p 0)]) aA (λ i=>X h - i.2.2.2.2) (Zv,0, [],J,0) ⟨Z,Z,Z,Z,Z,Z,Z,ZW⟩ (l.2 ⟨az,(show 0<=X h/\0<=0+0/\fM d h [] J=fM d (r6 0 h) [] J from ⟨Y,Y,Z⟩)⟩) ?_
 rintro ⟨u,x,b,f,a⟩ bF S
 show Wp _ _ _ [(5, W u (X b) x),(6, V f),(11,vJ a),(10,vJ (X h)),(9, W Q (X h) c0),(4, W Zv 0 0),(3,vP p 0)] _ _
 obtain⟨r,bn,bq,n⟩:=l.1 S
 refine sr (Kz (Zb ((a:Int) < (X h:Int))) (nt (JG ?_)))
 by_cases Z8:(a:Int) < (X h:Int)
 obtain⟨c,I⟩:=dJ (ls:=h) (i:=a) ay.len f6 (r.ro L) f4
 have o:=drop_at I
 refine jT (dT Z8) (sk (JG (bo (sr (fw (Zq (Zw ⟨ab Q,ao Q+a *2,Zv⟩)) (JU (iW) Z Z ((r.ro L).addr (i:=a) Y) Y) (fw (Zx (Zc (ay.J c))) (JS Z (JW (cs:=(ay.J c)) N4 L4 ((r.ro L).elem ay.len I f6))) ?_))))))
 refine cu [Zz ⟨Zc []⟩, Zz ⟨Zc []⟩] 101 r ?_
 intro C bG aB
 refine cO (ay.J c) 0 aB L4 ?_
 intro bH j
 refine nt (JG (sr (Mz Z (Kz (V (!f)) (Mz Z ?_)))))
 rcases Nf (f) with g | g
 have h49t:Bool.toNat f=1:=by rw [g]; rfl
 refine T (cn g) (T (cn g) (T (cn g) (T (cn g) (T (cn g) (fw (V J) (JH Z (cn g) Z) (nt (jf (sk (sr (Kz (vP C 0) (Lz (Zz ⟨Zc c.f⟩) j 0 B3 (Kz (vP p 0) (Lz (Zz ⟨Zc d.f⟩) j 1 B3 (fw (Zb (c.f≠d.f)) (Km Z Z) (nt ?_)))))))))))))))
 by_cases E:c.f≠d.f
 refine jT (dT E) (JI (Mz Z (La (ay.J c) j 0 N4 L4 ?_)))
 refine jW (ay.J c) 101 2 1 j ?_
 intro aC bI M
 replace M:=Ke (y:=row aC 1 1 (q0 ay.J ([c])) 101 2) Z M
 have Z4:=M.pf [3]
 refine WL.do Z (J7 (k:=X b) (m:=1) (iW) Z4 Z Z (fq H0 (Z4.rds (i:=1) Z) (di ay.one ([c]))) Z Y (s:=X (b++ [c])) f7 (u0).symm ?_)
 intro aD aF bJ aG
 have bu:X (b++ [c])=X b+1:=by simp only [o2,q5,L3]
 refine Az Z (B8 (bN (JK (JI (fw (vJ (a+1)) (JN (e:=B7.wrap ((a:Int)+1)) yk f3) (Mz Z (B8 ?_)))))))
 have aH:=aG.pk [3,0]
 exact JX (aD,aF,(b++ [c]),f,a+1) ⟨Z,Z,Z,Z,Z,Z,Z,ZW⟩ (l.2 ⟨aH,Y,Y,N (n) (N (ZJ (λ q=>fM d q b f) o) (N (ip g) (ip E)))⟩) (by show X h - (a+1) < X h - a; omega)
 refine jF (dF E) (J8 (bN (JK (JI (fw (vJ (a+1)) (JN (e:=B7.wrap ((a:Int)+1)) yk f3) (Mz Z (B8 ?_)))))))
 have aI:=j.pk [1,2]
 exact JX (u,x,b,f,a+1) ⟨Z,Z,Z,Z,Z,Z,Z,ZW⟩ (l.2 ⟨aI,Y,Y,N (n) (N (ZJ (λ q=>fM d q b f) o) (N (ip g) (iN E)))⟩) (by show X h - (a+1) < X h - a; omega)
 have h49t:Bool.toNat f=0:=by rw [g]; rfl
 refine Gz (vP C 0) (cn g) (Gl (Zz ⟨Zc c.f⟩) (cn g) j 0 B3 (Gz (vP p 0) (cn g) (Gl (Zz ⟨Zc d.f⟩) (cn g) j 1 B3 (gw (Zb (d.f<=c.f)) (cn g) (JZ (e:= !(Op.bytesLess c.f d.f)) (Lb Z Z) (Bn _ _)) (fw (Zb (d.f<=c.f)) (JL Z (cn g) Z) (nt ?_))))))
 by_cases z:d.f<=c.f
 refine jT (dT z) (sr (Mz Z (La (ay.J d) j 1 N4 L4 ?_)))
 refine jW (ay.J d) 101 2 1 j ?_
 intro aJ bK Z5
 replace Z5:=Ke (y:=row aJ 1 1 (q0 ay.J ([d])) 101 2) Z Z5
 have Z3:=Z5.pf [3]
 refine WL.do Z (J7 (k:=X b) (m:=1) (iW) Z3 Z Z (fq H0 (Z3.rds (i:=1) Z) (di ay.one ([d]))) Z Y (s:=X (b++ [d])) f7 (u0).symm ?_)
 intro aK aL bL A
 have bv:X (b++ [d])=X b+1:=by simp only [o2,q5,L3]
 refine An Z (JI (Ar Z (Kz (vP C 0) (Lz (Zz ⟨Zc c.f⟩) A 2 B3 (Kz (vP p 0) (Lz (Zz ⟨Zc d.f⟩) A 3 B3 (fw (Zb (c.f≠d.f)) (Km Z Z) (nt ?_))))))))
 by_cases F:c.f≠d.f
 refine jT (dT F) (JI (Mz Z (La (ay.J c) A 2 N4 L4 ?_)))
 refine jW (ay.J c) 101 2 1 A ?_
 intro aM bM Z6
 replace Z6:=Ke (y:=row aM 1 1 (q0 ay.J ([c])) 101 2) Z Z6
 have Z9:=Z6.pf [1]
 refine WL.do Z (J7 (k:=X (b++ [d])) (m:=1) (iW) Z9 Z Z (fq H0 (Z9.rds (i:=1) Z) (di ay.one ([c]))) Z Y (s:=X ((b++ [d])++ [c])) f7 (u0).symm ?_)
 intro aN aO bO aP
 have bz:X ((b++ [d])++ [c])=(X (b++ [d]))+1:=by simp only [o2,q5,L3]
 refine Az Z (B8 (bN (JK (JI (fw (vJ (a+1)) (JN (e:=B7.wrap ((a:Int)+1)) yk f3) (Mz Z (B8 ?_)))))))
 have aQ:=aP.pk [4,0]
 exact JX (aN,aO,((b++ [d])++ [c]),Zk,a+1) ⟨Z,Z,Z,Z,Z,Z,Z,ZW⟩ (l.2 ⟨aQ,(show (a+1)<=X h/\X ((b++ [d])++ [c])<=(a+1)+1/\fM d h [] J=fM d (r6 (a+1) h) ((b++ [d])++ [c]) Zk from ⟨Y,Y,N (n) (N (ZJ (λ q=>fM d q b f) o) (N (eP g) (N (ip z) (ip F))))⟩)⟩) (by show X h - (a+1) < X h - a; omega)
 refine jF (dF F) (J8 (bN (JK (JI (fw (vJ (a+1)) (JN (e:=B7.wrap ((a:Int)+1)) yk f3) (Mz Z (B8 ?_)))))))
 have aR:=A.pk [3,0]
 exact JX (aK,aL,(b++ [d]),Zk,a+1) ⟨Z,Z,Z,Z,Z,Z,Z,ZW⟩ (l.2 ⟨aR,(show (a+1)<=X h/\X (b++ [d])<=(a+1)+1/\fM d h [] J=fM d (r6 (a+1) h) (b++ [d]) Zk from ⟨Y,Y,N (n) (N (ZJ (λ q=>fM d q b f) o) (N (eP g) (N (ip z) (iN F))))⟩)⟩) (by show X h - (a+1) < X h - a; omega)
 refine jF (dF z) (sk (sr (Kz (vP C 0) (Lz (Zz ⟨Zc c.f⟩) j 0 B3 (Kz (vP p 0) (Lz (Zz ⟨Zc d.f⟩) j 1 B3 (fw (Zb (c.f≠d.f)) (Km Z Z) (nt ?_))))))))
 by_cases G:c.f≠d.f
 refine jT (dT G) (JI (Mz Z (La (ay.J c) j 0 N4 L4 ?_)))
 refine jW (ay.J c) 101 2 1 j ?_
 intro aS bQ P
 replace P:=Ke (y:=row aS 1 1 (q0 ay.J ([c])) 101 2) Z P
 have Z1:=P.pf [3]
 refine WL.do Z (J7 (k:=X b) (m:=1) (iW) Z1 Z Z (fq H0 (Z1.rds (i:=1) Z) (di ay.one ([c]))) Z Y (s:=X (b++ [c])) f7 (u0).symm ?_)
 intro aT aU bR aV
 have bA:X (b++ [c])=X b+1:=by simp only [o2,q5,L3]
 refine Az Z (B8 (bN (JK (JI (fw (vJ (a+1)) (JN (e:=B7.wrap ((a:Int)+1)) yk f3) (Mz Z (B8 ?_)))))))
 have aW:=aV.pk [3,0]
 exact JX (aT,aU,(b++ [c]),f,a+1) ⟨Z,Z,Z,Z,Z,Z,Z,ZW⟩ (l.2 ⟨aW,Y,Y,N (n) (N (ZJ (λ q=>fM d q b f) o) (N (eP g) (N (iN z) (ip G))))⟩) (by show X h - (a+1) < X h - a; omega)
 refine jF (dF G) (J8 (bN (JK (JI (fw (vJ (a+1)) (JN (e:=B7.wrap ((a:Int)+1)) yk f3) (Mz Z (B8 ?_)))))))
 have aX:=j.pk [1,2]
 exact JX (u,x,b,f,a+1) ⟨Z,Z,Z,Z,Z,Z,Z,ZW⟩ (l.2 ⟨aX,Y,Y,N (n) (N (ZJ (λ q=>fM d q b f) o) (N (eP g) (N (iN z) (iN G))))⟩) (by show X h - (a+1) < X h - a; omega)
 refine jF (dF Z8) (B9 (JV ?_))
 have Z7:fM d h [] J=(b,f):=N (n) (N (ZJ (λ q=>fM d q b f) (eH (ls:=h) (i:=a) Y)) Z)
 refine JV (J2 (JK (JG (sr (Mz Z (Kz (V (!f)) (nt ?_)))))))
 rcases Nf (f) with t | t
 have h97t:Bool.toNat f=1:=by rw [t]; rfl
 refine jF (cn t) (sk (JG ?_))
 have aY:=r.pk [1]
 refine JI (Mz Z (An Z (rt (rs ?_))))
 have aZ:=aY.pf []
 obtain rfl:=zj hr zq2
 exact⟨u,x,Z,aZ,Y⟩
 have h97t:Bool.toNat f=0:=by rw [t]; rfl
 refine jT (cn t) (JI (Mz Z (La (ay.J d) r 0 N4 L4 ?_)))
 refine jW (ay.J d) 101 2 1 r ?_
 intro Z2 bB B
 replace B:=Ke (y:=row Z2 1 1 (q0 ay.J ([d])) 101 2) Z B
 have K:=B.pf [2]
 refine WL.do Z (J7 (k:=X b) (m:=1) (iW) K Z Z (fq H0 (K.rds (i:=1) Z) (di ay.one ([d]))) Z Y (s:=X (b++ [d])) f7 (u0).symm ?_)
 intro Z0 aa bC af
 have bf:X (b++ [d])=X b+1:=by simp only [o2,q5,L3]
 refine An Z (JG ?_)
 have ag:=af.pk [0]
 refine JI (Mz Z (An Z (rt (rs ?_))))
 have ah:=ag.pf []
 obtain rfl:_=(b++ [d]):=zj hr (N (ae Z7) (eP t))
 exact⟨Z0,aa,rfl,ah,Y⟩
def gp (e:au) (d:Int):List ay->List ay->(List ay)
  | [],a=>a
  | c::b,a=>bnd (j4 e c.f) λ f=>if f=Zk then if d < 0 then gp e d b (a++ [c]) else if((X a:Nat):Int) < d then gp e d b (a++ [c]) else gp e d b a else gp e d b a
def nu (a:List ay) (b:au) (c:Int):(List ay):=
 bnd (gp b c a []) λ sLrL=>sLrL
theorem xc (w D I Z8 Z4 f) (l:au) (h Z7) (H:Own w D w []) (C:Ro w D λ w'=>bP w' 2 I Z8 (q0 ay.J f)) (Z3:Z8=X f) (aQ:X f *32<=211106232532992) (hr:nu f l h=Z7):
    Calls v1 60 #[W I Z8 Z4, Zx (Zc (au.J l)),vI h] w (dM λ v w'=> ∃ B0 b0,v= W B0 (X Z7) b0/\Own w D w' [row B0 (X Z7) b0 (q0 ay.J Z7) 101 2]/\(X Z7<=X f)):=by
 unfold nu at hr
 subst Z3
 refine cb Tryz.func60 ?_
 refine sr ?_
 refine cu (au.J l) 37 H ?_
 intro z Z9 Z1
 refine Ar Z (An Z (JG (sr (Mz Z (Kz (vJ (X f)) (Mn Z (bo ?_)))))))
 have Z2:Own w D Z9 [row Zv 0 0 (q0 ay.J []) 101 2,blk z (au.J l) 37]:=Z1.free (cK 101 2)
 have Z0:=Z2.pb [0]
 obtain⟨aa,j⟩:=wY λ p (r:Nat) a (b:Nat) w'=>Own w D w' [blk z (au.J l) 37,row p (X a) r (q0 ay.J a) 101 2]/\b<=X f/\X a<=b/\gp l h f []=gp l h (r6 b f) a
 refine B4 (λ i:(Option Addr) × Nat × (List ay) × Nat=> [(7, W i.1 (X i.2.2.1) i.2.1),(12,vJ i.2.2.2),(11,vJ (X f)),(10, W I (X f) Z4),(6, W Zv 0 0),(4,vP z 0),(2,vI h)]) aa (λ i=>X f - i.2.2.2) (Zv,0, [],0) ⟨Z,Z,Z,Z,Z,Z,Z,ZW⟩ (j.2 ⟨Z0,(show 0<=X f/\0<=0/\gp l h f []=gp l h (r6 0 f) [] from ⟨Y,Y,Z⟩)⟩) ?_
 rintro ⟨p,r,a,b⟩ aR K
 show Wp _ _ _ [(7, W p (X a) r),(12,vJ b),(11,vJ (X f)),(10, W I (X f) Z4),(6, W Zv 0 0),(4,vP z 0),(2,vI h)] _ _
 obtain⟨x,aK,aL,n⟩:=j.1 K
 refine sr (Kz (Zb ((b:Int) < (X f:Int))) (nt (JG ?_)))
 by_cases L:(b:Int) < (X f:Int)
 obtain⟨c,B⟩:=dJ (ls:=f) (i:=b) ay.len f6 (x.ro C) f4
 have t:=drop_at B
 refine jT (dT L) (sk (JG (bo (sr (fw (Zq (Zw ⟨ab I,ao I+b *2,Zv⟩)) (JU (iW) Z Z ((x.ro C).addr (i:=b) Y) Y) (fw (Zx (Zc (ay.J c))) (JS Z (JW (cs:=(ay.J c)) N4 L4 ((x.ro C).elem ay.len B f6))) ?_))))))
 refine cu [Zz ⟨Zc []⟩, Zz ⟨Zc []⟩] 101 x ?_
 intro af aS ag
 refine cO (ay.J c) 0 ag L4 ?_
 intro aT E
 refine ns (La (au.J l) E 1 D0 C7 (Kz (vP af 0) (Lz (Zz ⟨Zc c.f⟩) E 0 B3 ?_)))
 obtain⟨M,o⟩:∃ q,j4 l c.f=q:=⟨_,Z⟩
 obtain⟨aU,Z5,aM,Z6,aN⟩:=JJ E
 refine cl Tryz.call98 (zF _ _ l c.f M Z5 o) ?_
 rintro _ aV ⟨rfl,P⟩
 have u:=Z6 _ _ P
 refine Mz Z ?_
 rcases Nf (M) with d | d
 refine Kj (v:=vI h) Z Z d Z (JM Z) (Gz (Zb (h < 0)) d (Kj (v:= Zb (h < 0)) Z Z d Z (JM Z) ?_))
 by_cases g:h < 0
 refine T (dT g) (T (dT g) (T (dT g) (T (dT g) (Kj (v:= V Zk) Z Z d Z (JL Z (dT g) Z) (fw (V Zk) (JL Z d Z) (nt (jt (JI (Mz Z (La (ay.J c) u 0 N4 L4 ?_))))))))))
 refine jW (ay.J c) 101 2 1 u ?_
 intro ah aW F
 replace F:=Ke (y:=row ah 1 1 (q0 ay.J ([c])) 101 2) Z F
 have Q:=F.pf [3]
 refine WL.do Z (J7 (k:=X a) (m:=1) (iW) Q Z Z (fq H0 (Q.rds (i:=1) Z) (di ay.one ([c]))) Z Y (s:=X (a++ [c])) f7 (u0).symm ?_)
 intro ai aj aX ak
 have aO:X (a++ [c])=X a+1:=by simp only [o2,q5,L3]
 refine Az Z (B8 (bN (JK (JI (fw (vJ (b+1)) (JN (e:=B7.wrap ((b:Int)+1)) yk f3) (Mz Z (B8 ?_)))))))
 have av:=ak.pk [3,0]
 exact JX (ai,aj,(a++ [c]),b+1) ⟨Z,Z,Z,Z,Z,Z,Z,ZW⟩ (j.2 ⟨av,Y,Y,N (n) (N (ZJ (λ q=>gp l h q a) t) (N (ae o) (N (ip d) (ip g))))⟩) (by show X f - (b+1) < X f - b; omega)
 refine gw (W p (X a) r) (dF g) (JM Z) (Gz (vJ (X a)) (dF g) (gw (vI h) (dF g) (JM Z) (Gz (Zb ((X a:Int) < h)) (dF g) (Kj (v:= Zb ((X a:Int) < h)) Z Z d Z (JH Z (dF g) Z) (fw (Zb ((X a:Int) < h)) (JL Z d Z) (nt ?_))))))
 by_cases A:(X a:Int) < h
 refine jT (dT A) (JI (Mz Z (La (ay.J c) u 0 N4 L4 ?_)))
 refine jW (ay.J c) 101 2 1 u ?_
 intro ax aY G
 replace G:=Ke (y:=row ax 1 1 (q0 ay.J ([c])) 101 2) Z G
 have R:=G.pf [3]
 refine WL.do Z (J7 (k:=X a) (m:=1) (iW) R Z Z (fq H0 (R.rds (i:=1) Z) (di ay.one ([c]))) Z Y (s:=X (a++ [c])) f7 (u0).symm ?_)
 intro az aA aZ aB
 have aP:X (a++ [c])=X a+1:=by simp only [o2,q5,L3]
 refine Az Z (B8 (bN (JK (JI (fw (vJ (b+1)) (JN (e:=B7.wrap ((b:Int)+1)) yk f3) (Mz Z (B8 ?_)))))))
 have aC:=aB.pk [3,0]
 exact JX (az,aA,(a++ [c]),b+1) ⟨Z,Z,Z,Z,Z,Z,Z,ZW⟩ (j.2 ⟨aC,Y,Y,N (n) (N (ZJ (λ q=>gp l h q a) t) (N (ae o) (N (ip d) (N (iN g) (ip A)))))⟩) (by show X f - (b+1) < X f - b; omega)
 refine jF (dF A) (J8 (bN (JK (JI (fw (vJ (b+1)) (JN (e:=B7.wrap ((b:Int)+1)) yk f3) (Mz Z (B8 ?_)))))))
 have aD:=u.pk [1,2]
 exact JX (p,r,a,b+1) ⟨Z,Z,Z,Z,Z,Z,Z,ZW⟩ (j.2 ⟨aD,Y,Y,N (n) (N (ZJ (λ q=>gp l h q a) t) (N (ae o) (N (ip d) (N (iN g) (iN A)))))⟩) (by show X f - (b+1) < X f - b; omega)
 refine T d (T d (T d (JR Z Z Z (JR Z Z Z (JR Z Z Z (JR Z Z Z (T d (fw (V J) (JH Z d Z) (nt (jf (J8 (bN (JK (JI (fw (vJ (b+1)) (JN (e:=B7.wrap ((b:Int)+1)) yk f3) (Mz Z (B8 ?_)))))))))))))))))
 have aF:=u.pk [1,2]
 exact JX (p,r,a,b+1) ⟨Z,Z,Z,Z,Z,Z,Z,ZW⟩ (j.2 ⟨aF,Y,Y,N (n) (N (ZJ (λ q=>gp l h q a) t) (N (ae o) (eP d)))⟩) (by show X f - (b+1) < X f - b; omega)
 refine jF (dF L) (B9 (JV ?_))
 have S:gp l h f []=a:=N (n) (N (ZJ (λ q=>gp l h q a) (eH (ls:=f) (i:=b) Y)) Z)
 refine JV (J2 (JK (JG ?_)))
 have aG:=x.pk [1]
 refine JI (Mz Z (An Z (rt (rs ?_))))
 have aH:=aG.pf []
 obtain rfl:=zj hr zq1
 exact⟨p,r,Z,aH,i3⟩
end
end Go.Proofs.YtndamapfnpihpaaGreat
namespace Go.Proofs.YtndamapfnpihpaaGreat.M
set_option maxRecDepth 100000
set_option linter.unusedVariables false
set_option linter.unusedSimpArgs false
set_option linter.unusedSectionVars false
open _root_.Go renaming World->ZQ,Value->ZX
open Value renaming bool->V,slice->W,string->Zz,pointer->Zq,agg->Zx,nilFunc->Zj
open Bool renaming true->Zk,false->J
open Option renaming none->Zv,some->Zw
open Decidable renaming decide->Zy
open Inhabited renaming default->ZZ
open List renaming length->X,toArray->Zc
abbrev L:=List UInt8
def K (k:L):Prop:=1<=X k/\X k<=12
def R (l h:L):Prop:=(l= []\/K l)/\(h= []\/(K h/\l < h))
def B (k h:L):Prop:=h= []\/k < h
def H (l h k:L):Prop:=R l h/\K k/\l<=k/\B k h
def mx (a b:L):L:=if a < b then b else a
def ls (a b:L):L:=if a= [] then b else if b= [] then a else if b < a then b else a
def M (l1 a b c:L):Prop:=R l1 a/\R b c/\B (mx l1 b) (ls a c)
theorem nil_le (a:L): []<=a:=List.nil_le a
theorem not_lt_nil (a:L): ¬ a < []:=List.not_lt_nil a
theorem nil_lt {a:L} (h:a≠ []): [] < a:=by
  cases a with
  | nil=>exact absurd Z h
  | cons x xs=>exact List.nil_lt_cons x xs
theorem Jt {k:L} (h:K k):k≠ []:=by rintro rfl; simp [K] at h
theorem EG {l1 a d b:L} (h:M l1 a d b):R (mx l1 d) (ls a b):=by
  obtain⟨⟨f,g⟩,⟨i,j⟩,c⟩:=h
  refine⟨?_, ?_⟩
  . unfold mx; split <;> assumption
  . rcases c with c | c
    . exact .inl c
    . by_cases e:ls a b= []
      . exact .inl e
      . refine .inr ⟨?_,c⟩
        unfold ls at e ⊢
        grind
theorem FX (a b c:L):mx (mx a b) c=mx a (mx b c):=by unfold mx; grind
theorem FY (a b c:L):ls (ls a b) c=ls a (ls b c):=by unfold ls; grind
theorem parts {a b c d e f:L} (g:M a b c d) (i:M c d e f):(M (mx a c) (ls b d) e f↔M a b (mx c e) (ls d f)):=by
  have j:=EG g
  have k:=EG i
  unfold M
  rw [FX,FY]
  exact⟨fun⟨_,_,h⟩=>⟨g.1,k,h⟩,fun⟨_,_,h⟩=>⟨j,i.2.1,h⟩⟩
def C (l1 c a b:L):Prop:=M l1 c a b/\mx l1 a=a/\ls c b=b
theorem cut {l h at_ k:L} (r:R l h) (ka:K at_) (hl:l < at_) (hb:B at_ h):(H l h k↔(H l at_ k\/H at_ h k))/\¬ (H l at_ k/\H at_ h k):=by
  have c:R l at_:=⟨r.1, .inr ⟨ka,hl⟩⟩
  have d:R at_ h:=⟨.inr ka,by
    rcases r.2 with e | ⟨e,_⟩
    . exact .inl e
    . rcases hb with e' | e'
      . exact .inl e'
      . exact .inr ⟨e,e'⟩⟩
  have hne:=Jt ka
  unfold H B at *
  refine⟨⟨?_, ?_⟩, ?_⟩
  . rintro ⟨_,kk,a,b⟩
    by_cases hk:k < at_
    . exact .inl ⟨c,kk,a, .inr hk⟩
    . exact .inr ⟨d,kk,List.not_lt.1 hk,b⟩
  . rintro (⟨_,kk,a,b⟩ | ⟨_,kk,a,b⟩)
    . refine⟨r,kk,a, ?_⟩; grind
    . refine⟨r,kk, ?_,b⟩; grind
  . rintro ⟨⟨_,_,_,b⟩,⟨_,_,a,_⟩⟩; grind
theorem lt_snoc0:∀ (o k:L),o < k++ [0]↔o<=k
  | [], []=>by simp [nil_lt]
  | [],y::ys=>by simp [nil_le]
  | x::xs, []=>by
    simp only [List.nil_append]
    constructor
    . intro h
      rcases List.cons_lt_cons_iff.1 h with h | ⟨_,h⟩
      . exact absurd h i7
      . exact absurd h (not_lt_nil _)
    . intro h; exact absurd (List.le_antisymm h (nil_le _)) i7
  | x::xs,y::ys=>by
    rw [List.cons_append,List.cons_lt_cons_iff,List.cons_le_cons_iff,lt_snoc0 xs ys]
def nx:L->L
  | []=> []
  | a::k=>if nx k= [] then(if a.toNat=255 then [] else [a+1]) else a::nx k
theorem G7 {a b:UInt8} (ha:a.toNat≠255) (h:b < a+1):b<=a:=by
  have:=a.toNat_lt
  have e:(a+1).toNat=a.toNat+1:=by rw [UInt8.toNat_add]; show (a.toNat+1) % 256=_; omega
  rw [UInt8.lt_iff_toNat_lt,e] at h
  rw [UInt8.le_iff_toNat_le]; omega
theorem nx_only:∀ (k o:L),X o<=X k->k<=o->(nx k= []\/o < nx k)->o=k
  | [],o,hl,_,_=>List.eq_nil_of_length_eq_zero (by simpa using hl)
  | a::k, [],_,h,_=>by exact absurd (List.le_antisymm h (nil_le _)) i7
  | a::k,b::o,hl,h,hn=>by
    have hl':X o<=X k:=by simpa using hl
    rw [List.cons_le_cons_iff] at h
    unfold nx at hn
    by_cases e:nx k= []
    . rw [ZK e] at hn
      by_cases ea:a.toNat=255
      . rcases h with h | ⟨rfl,h⟩
        . exfalso
          have:=b.toNat_lt
          rw [UInt8.lt_iff_toNat_lt] at h; omega
        . rw [nx_only k o hl' h (.inl e)]
      . rw [ZV ea] at hn
        rcases hn with hn | hn
        . simp at hn
        . rcases h with h | ⟨rfl,h⟩
          . exfalso
            rcases List.cons_lt_cons_iff.1 hn with hn | ⟨_,hn⟩
            . have:=G7 ea hn
              rw [UInt8.lt_iff_toNat_lt] at h
              rw [UInt8.le_iff_toNat_le] at this; omega
            . exact not_lt_nil _ hn
          . rw [nx_only k o hl' h (.inl e)]
    . rw [if_neg e] at hn
      rcases hn with hn | hn
      . simp at hn
      . rcases List.cons_lt_cons_iff.1 hn with c | ⟨rfl,c⟩
        . exfalso
          rcases h with h | ⟨rfl,h⟩
          . exact absurd c (UInt8.lt_asymm h)
          . exact UInt8.lt_irrefl _ c
        . rcases h with h | ⟨_,h⟩
          . exact absurd h (UInt8.lt_irrefl _)
          . rw [nx_only k o hl' h (.inr c)]
theorem nx_gt:∀ (k:L),nx k= []\/k < nx k
  | []=> .inl Z
  | a::k=>by
    unfold nx
    by_cases e:nx k= []
    . rw [ZK e]
      by_cases ea:a.toNat=255
      . rw [ZK ea]; exact .inl Z
      . rw [ZV ea]
        right
        rw [List.cons_lt_cons_iff]
        left
        have:=a.toNat_lt
        have e:(a+1).toNat=a.toNat+1:=by rw [UInt8.toNat_add]; show (a.toNat+1) % 256=_; omega
        rw [UInt8.lt_iff_toNat_lt,e]; omega
    . rw [ZV e]
      right
      rw [List.cons_lt_cons_iff]
      exact .inr ⟨Z,(nx_gt k).resolve_left e⟩
theorem nx_len:∀ (k:L),X (nx k)<=X k
  | []=>Nat.le_refl _
  | a::k=>by
    have:=nx_len k
    unfold nx
    split
    . split <;> simp
    . simp; omega
end Go.Proofs.YtndamapfnpihpaaGreat.M
namespace Go.Proofs.YtndamapfnpihpaaGreat
set_option maxRecDepth 100000
set_option linter.unusedVariables false
set_option linter.unusedSimpArgs false
set_option linter.unusedSectionVars false
open _root_.Go renaming World->ZQ,Value->ZX
open Value renaming bool->V,slice->W,string->Zz,pointer->Zq,agg->Zx,nilFunc->Zj
open Bool renaming true->Zk,false->J
open Option renaming none->Zv,some->Zw
open Decidable renaming decide->Zy
open Inhabited renaming default->ZZ
open List renaming length->X,toArray->Zc
open List renaming cons_append->N9,drop->r6,getElem?_append_left->v0,getElem?_drop->m7,getElem?_eq_getElem->p2,getElem?_eq_some_iff->p0,le_antisymm->N6,mem_cons_of_mem->N8,mem_iff_getElem?->O1,mem_of_getElem?->E1,not_lt->N5,pairwise_cons->N7,take->t8,take_append_drop->s1
open Nat renaming le_refl->s0,lt_or_ge->O0
section
open Go.RowKit
@[reducible] def Key:Type:=List UInt8
theorem jH (a:Key): ¬ a < a:=List.lt_irrefl a
theorem wG {a b c:Key} (d:a < b) (e:b < c):a < c:=List.lt_trans d e
theorem um {a b:Key}: ¬ a < b↔b<=a:=N5
theorem Dj {a b:Key} (h:a < b):a<=b:=List.le_of_lt h
theorem Gu (a b:Key):a < b\/a=b\/b < a:=by
  by_cases c:a < b
  . exact .inl c
  . by_cases d:b < a
    . exact .inr (.inr d)
    . exact .inr (.inl (N6 (N5.1 d) (N5.1 c)))
theorem EH:∀ (a b:Key),Lib.compareBytes a b < 0↔a < b
  | [], []=>by simp [Lib.compareBytes]
  | [],_::_=>by simp [Lib.compareBytes]
  | _::_, []=>by simp [Lib.compareBytes]
  | x::a,y::b=>by
    unfold Lib.compareBytes
    rw [List.cons_lt_cons_iff]
    by_cases c:x < y
    . simp [c]
    . rw [ZV c]
      by_cases d:y < x
      . rw [ZK d]
        have:x≠y:=λ e=>by subst e; exact c d
        simp [c,this]
      . rw [ZV d]
        have:x=y:=UInt8.le_antisymm (UInt8.not_lt.1 d) (UInt8.not_lt.1 c)
        subst this
        simp [EH a b]
theorem BN:∀ (a b:Key),Lib.compareBytes a b=0↔a=b
  | [], []=>by simp [Lib.compareBytes]
  | [],_::_=>by simp [Lib.compareBytes]
  | _::_, []=>by simp [Lib.compareBytes]
  | x::a,y::b=>by
    unfold Lib.compareBytes
    by_cases c:x < y
    . have:x≠y:=λ e=>by subst e; exact absurd c (UInt8.lt_irrefl _)
      simp [c,this]
    . rw [ZV c]
      by_cases d:y < x
      . have:x≠y:=λ e=>by subst e; exact c d
        simp [d,this]
      . rw [ZV d]
        have:x=y:=UInt8.le_antisymm (UInt8.not_lt.1 d) (UInt8.not_lt.1 c)
        subst this
        simp [BN a b]
theorem bG {α β:Type} (x:α) (f:α->β):bnd x f=f x:=Z
def oh (m:List ay):Prop:=m.Pairwise λ a b=>a.f < b.f
def vS (k:Key):Prop:=1<=X k/\X k<=12
def Dk (p:ay):Prop:=vS p.f/\X p.g<=16
theorem ym (k:Key):dW k=iI k:=Z
theorem rZ {k:Key}:dW k=0↔vS k:=by
  unfold dW vS
  split
  . constructor <;> intro h <;> omega
  . split
    . constructor <;> intro h <;> omega
    . constructor <;> intro h <;> omega
theorem D9 {k:Key}:dW k=0\/dW k=20:=by
  unfold dW
  split
  . exact .inr Z
  . split
    . exact .inr Z
    . exact .inl Z
theorem EI (l:List ay):∀ (q:List ay) (k:Nat),fJ l q k=gN l q k
  | [],_=>rfl
  | x::q,k=>by
    have ih:=EI l q (k+1)
    rcases D9 (k:=x.f) with h | h
    . by_cases a:((X x.g:Nat):Int) > 16
      . simp [fJ,gN,bnd, <- ym,lI,h,a]
      . simp [fJ,gN,bnd, <- ym,lI,h,a,ih]
    . simp [fJ,gN,bnd, <- ym,lI,h]
theorem Ea (l:List ay):cB l=lU l:=by
  unfold cB lU
  rw [EI]
theorem Dl (l:List ay):∀ (q pre:List ay),l=pre++q->(fJ l q (X pre)= .inl ()↔(∀ p ∈ q,Dk p)/\(∀ a ∈ pre.getLast?, ∀ b ∈ q.head?,a.f < b.f)/\oh q)/\(∀ e,fJ l q (X pre)= .inr e->e≠0)
  | [],pre,_=>by simp [fJ,oh]
  | x::q,pre,hl=>by
    have ih:=Dl l q (pre++ [x]) (by rw [hl,List.append_assoc]; rfl)
    have hlen:X (pre++ [x])=X pre+1:=by simp
    rw [hlen] at ih
    simp only [fJ,bnd,lI]
    by_cases d:dW x.f=0
    . rw [ZK d]
      by_cases i:((X x.g:Nat):Int) > 16
      . simp only [ZK i]
        rw [ZV f6]
        refine⟨⟨λ h=>(by cases h),λ h=> ?_⟩,λ e he=>by injection he with he; omega⟩
        have:=(h.1 x i7).2
        omega
      . simp only [ZV i,if_true]
        have hx:Dk x:=⟨rZ.1 d,Y⟩
        have hsrt:oh (x::q)↔(∀ b ∈ q.head?,x.f < b.f)/\oh q:=by
          unfold oh
          rw [N7]
          constructor
          . rintro ⟨h,h'⟩
            exact⟨λ b hb=>h b (List.mem_of_mem_head? hb),h'⟩
          . rintro ⟨h,h'⟩
            refine⟨λ b hb=> ?_,h'⟩
            cases q with
            | nil=>cases hb
            | cons y q=>
              have hy:=h y Z
              rcases List.mem_cons.1 hb with rfl | hb
              . exact hy
              . exact wG hy ((N7.1 h').1 b hb)
        have hlast:(pre++ [x]).getLast?=Zw x:=by simp
        rw [hlast] at ih
        have hcore:(fJ l q (X pre+1)= .inl ()↔(∀ p ∈ x::q,Dk p)/\oh (x::q)):=by
          rw [ih.1,hsrt]
          constructor
          . rintro ⟨a,b,c⟩
            exact⟨λ p hp=>by rcases List.mem_cons.1 hp with rfl | hp; exact hx; exact a p hp,b x Z,c⟩
          . rintro ⟨a,b,c⟩
            exact⟨λ p hp=>a p (N8 _ hp),λ a' ha'=>by cases ha'; exact b,c⟩
        by_cases g:(X pre:Int) > 0
        . rw [ZK g]
          have hpre:pre≠ []:=λ e=>by subst e; simp at g
          obtain⟨y,hy⟩:∃ y,pre.getLast?=Zw y:=⟨_,List.getLast?_eq_some_getLast hpre⟩
          have hg:List.getD l (X pre - 1) ZZ=y:=by
            rw [hl,List.getD_eq_getElem?_getD,v0 Y]
            rw [List.getLast?_eq_getElem?] at hy
            rw [hy]; rfl
          rw [hg]
          by_cases f:x.f<=y.f
          . rw [ZK f]
            refine⟨⟨λ h=>(by cases h),λ h=> ?_⟩,λ e he=>by injection he with he; omega⟩
            exact absurd (h.2.1 y hy x Z) (um.2 f)
          . rw [ZV f]
            refine⟨?_,ih.2⟩
            rw [hcore]
            have j:y.f < x.f:=by rcases Gu y.f x.f with h | h | h; exact h; exact absurd (um.1 (h ▸ jH _)) f; exact absurd (Dj h) f
            constructor
            . rintro ⟨a,b⟩
              exact⟨a,λ a' ha' b' hb'=>by rw [hy] at ha'; cases ha'; cases hb'; exact j,b⟩
            . rintro ⟨a,_,b⟩
              exact⟨a,b⟩
        . rw [ZV g]
          have hpre:pre= []:=List.eq_nil_of_length_eq_zero Y
          refine⟨?_,ih.2⟩
          rw [hcore,hpre]
          simp
    . rw [ZV d]
      refine⟨⟨λ h=>(by cases h),λ h=> ?_⟩,λ e he=>by injection he with he; rw [<- he]; exact d⟩
      exact absurd (rZ.2 (h.1 x i7).1) d
theorem l6 {l:List ay}:cB l=0↔(∀ p ∈ l,Dk p)/\oh l:=by
  have h:=Dl l l [] Z
  unfold cB
  simp only [List.length_nil] at h
  cases e:fJ l l 0 with
  | inl u=>
    have:=h.1.1 e
    exact⟨λ _=>⟨this.1,this.2.2⟩,λ _=>rfl⟩
  | inr r=>
    refine⟨λ a=>absurd a (h.2 r e),λ a=> ?_⟩
    have:=h.1.2 ⟨a.1,by simp,a.2⟩
    rw [e] at this
    cases this
theorem kK {k:Key}:vS k↔M.K k:=Iff.rfl
theorem xO {k:Key}:k≠ []↔1<=X k:=by cases k <;> simp
theorem BO {r:au}:dR r=0↔M.R r.a r.b:=by
  have a:=rZ (k:=r.a); have b:=rZ (k:=r.b)
  have la:=xO (k:=r.a); have lb:=xO (k:=r.b)
  have nn:= @um r.a r.b
  unfold dR M.R
  rw [<- kK, <- kK]
  simp only [bnd]
  by_cases f:r.a= []
  . by_cases d:r.b= []
    . simp [f,d]
    . by_cases c:dW r.b=0
      . have g:=M.nil_lt d
        have i: ¬ r.b<= []:=λ q=>um.2 q g
        simp [f,d,c,b.1 c,g,i]
      . have h3': ¬ vS r.b:=λ q=>c (b.2 q)
        simp [f,d,c,h3']
  . by_cases e:dW r.a=0
    . by_cases d:r.b= []
      . simp [f,d,e,a.1 e]
      . by_cases c:dW r.b=0
        . by_cases h:r.b<=r.a
          . simp [f,d,c,e,h,a.1 e,b.1 c]
          . simp [f,d,c,e,h,a.1 e,b.1 c]; grind
        . have h3': ¬ vS r.b:=λ q=>c (b.2 q)
          simp [f,d,c,e,h3']
    . have h0': ¬ vS r.a:=λ q=>e (a.2 q)
      simp [f,e,h0']
theorem Eb {r:au}:dR r=0\/dR r=21:=by
  unfold dR; simp only [bnd]
  repeat' split
  all_goals first | exact .inl Z | exact .inr Z
theorem IA {r:au}:lu r=0↔M.R r.a r.b:=by
  have la:=xO (k:=r.a); have lb:=xO (k:=r.b)
  have nn:= @um r.a r.b
  have a:r.b≠ []-> [] < r.b:=M.nil_lt
  have b:r.b≠ []->¬ r.b<= []:=λ h q=>um.2 q (a h)
  unfold lu M.R M.K
  by_cases c:r.a= [] <;> by_cases d:r.b= [] <;> by_cases e:((X r.a:Nat):Int) > 12 <;> by_cases f:((X r.b:Nat):Int) > 12 <;> by_cases g:r.b<=r.a <;> simp_all <;> grind
theorem I6 {r:au}:lu r=0\/lu r=21:=by
  unfold lu
  repeat' split
  all_goals first | exact .inl Z | exact .inr Z
theorem Gv (r:au):dR r=lu r:=by
  have h:=(BO (r:=r)).trans IA.symm
  rcases Eb (r:=r) with a | a <;> rcases I6 (r:=r) with b | b <;> simp_all
theorem IB {r:au} {k:Key}:j4 r k=Zk↔M.H r.a r.b k:=by
  unfold j4 M.H M.B
  simp only [bnd]
  have a:=IA (r:=r); have b:=rZ (k:=k)
  rw [ym,kK] at b
  rw [<- a, <- b]
  by_cases c:lu r=0 <;> by_cases d:iI k=0 <;> by_cases e:r.a<=k <;> by_cases f:r.b= [] <;> simp [c,d,e,f]
theorem EJ:∀ {b:Key},(∀ x ∈ b,x.toNat=255)->M.nx b= []
  | [],_=>rfl
  | x::b,h=>by
    unfold M.nx
    rw [ZK (EJ λ y hy=>h y (N8 _ hy)),ZK (h x i7)]
theorem EK {b:Key} (hb:M.nx b= []):∀ a:Key,M.nx (a++b)=M.nx a
  | []=>hb
  | x::a=>by
    rw [N9]
    unfold M.nx
    rw [EK hb a]
theorem Dm {x:UInt8} (hx:x.toNat≠255):∀ p:Key,M.nx (p++ [x])=p++ [x+1]
  | []=>by simp [M.nx,hx]
  | a::p=>by
    rw [N9]
    unfold M.nx
    rw [Dm hx p,ZV i7]
    rfl
theorem Dp (k:Key):∀ (f n:Nat),n < f->n<=X k->(∀ j x,k[j]? =Zw x->n<=j->x.toNat=255)->
    ∃ t,kJ k f n=t/\t<=n/\(∀ j x,k[j]? =Zw x->t<=j->x.toNat=255)/\(t=0\/∃ x,k[t - 1]? =Zw x/\x.toNat≠255)
  | 0,n,h,_,_=>Y
  | f+1,n,h,hl,hq=>by
    unfold kJ
    simp only [bnd]
    by_cases g:(n:Int) > 0
    . obtain⟨x,hx⟩:∃ x,k[n - 1]? =Zw x:=⟨_,p2 Y⟩
      rw [ZK g,bu hx]
      by_cases i:(x.toNat:Int)=255
      . rw [ZK i]
        obtain⟨t,a,b,c,d⟩:=Dp k f (n - 1) Y Y λ j y hy hj=>by
          rcases O0 j n with e | e
          . have:j=n - 1:=Y
            subst this
            rw [hx] at hy
            cases hy
            omega
          . exact hq j y hy e
        exact⟨t,a,Y,c,d⟩
      . rw [ZV i]
        exact⟨n,Z,s0 _,hq, .inr ⟨x,hx,Y⟩⟩
    . rw [ZV g]
      exact⟨n,Z,s0 _,hq, .inl Y⟩
def ph (k:Key):Key:=if X k < 12 then k++ [0] else M.nx k
theorem Gw {k:Key} (hk:vS k):qg k=(au.q k (ph k),0):=by
  have hc:iI k=0:=rZ.2 hk
  unfold qg ph
  rw [bG,hc,ZK Z]
  by_cases f:X k < 12
  . rw [ZK Y,ZK f]
  . rw [ZV Y,ZV f,bG,bG]
    have hl:X k=12:=by have:=hk.2; omega
    obtain⟨t,a,b,c,d⟩:=Dp k 13 12 Y Y λ j x hx hj=>by
      have:=(p0.1 hx).1; omega
    rw [show (12:Nat)+1=13 from Z,a]
    have hkt:k=t8 t k++r6 t k:=(s1 t k).symm
    have e:M.nx (r6 t k)= []:=EJ λ x hx=>by
      obtain⟨j,hj⟩:=O1.1 hx
      rw [m7] at hj
      exact c _ x hj Y
    have hn:M.nx k=M.nx (t8 t k):=(ZJ M.nx hkt).trans (EK e _)
    rcases d with d | ⟨x,hx,d⟩
    . subst d
      rw [ZK f6,hn]; rfl
    . by_cases g:t=0
      . subst g
        rw [ZK f6,hn]; rfl
      . rw [ZV Y,bG,bu hx,hn]
        have:t8 t k=t8 (t - 1) k++ [x]:=by
          obtain⟨q,rfl⟩:∃ q,t=q+1:=⟨t - 1,Y⟩
          obtain⟨hq,rfl⟩:=p0.1 hx
          exact List.take_succ_eq_append_getElem hq
        rw [this,Dm d]
theorem Gy {k:Key}:ph k= []\/k < ph k:=by
  unfold ph
  split
  . right; rw [M.lt_snoc0]; exact List.le_refl _
  . exact M.nx_gt _
theorem IC {k:Key} (hk:vS k):M.R k (ph k):=by
  refine⟨.inr hk, ?_⟩
  rcases Gy (k:=k) with h | h
  . exact .inl h
  . right
    have hne:ph k≠ []:=λ e=>M.not_lt_nil _ (e ▸ h)
    refine⟨⟨xO.1 hne, ?_⟩,h⟩
    unfold ph
    have:=hk.2
    split
    . simp; omega
    . exact Nat.le_trans (M.nx_len k) this
theorem G8 {k o:Key} (hk:vS k):M.H k (ph k) o↔o=k:=by
  constructor
  . rintro ⟨_,c,b,a⟩
    unfold M.B ph at a
    by_cases hl:X k < 12
    . rw [ZK hl] at a
      rcases a with a | a
      . simp at a
      . rw [M.lt_snoc0] at a
        exact N6 a b
    . rw [ZV hl] at a
      exact M.nx_only k o (by have:=c.2; have:=hk.2; omega) b a
  . rintro rfl
    exact⟨IC hk,hk,List.le_refl _,Gy⟩
theorem Bo {p:ay} {k:Key}:oW p k < 0↔p.f < k:=EH _ _
theorem G9 {p:ay} {k:Key}:oW p k=0↔p.f=k:=BN _ _
theorem zG {m:List ay} (hs:oh m) {i j:Nat} {a b:ay} (ha:m[i]? =Zw a) (hb:m[j]? =Zw b) (h:i < j):a.f < b.f:=by
  obtain⟨c,rfl⟩:=p0.1 ha
  obtain⟨d,rfl⟩:=p0.1 hb
  exact List.pairwise_iff_getElem.1 hs i j c d h
theorem Ap {m:List ay} (hs:oh m) (k:Key):∀ (f i j:Nat),j - i < f->i<=j->j<=X m->(∀ q p,m[q]? =Zw p->q < i->p.f < k)->(∀ q p,m[q]? =Zw p->j<=q->¬ p.f < k)->
    ∃ r,d9 m k f i j=r/\r<=X m/\(∀ q p,m[q]? =Zw p->q < r->p.f < k)/\(∀ q p,m[q]? =Zw p->r<=q->¬ p.f < k)
  | 0,i,j,h,_,_,_,_=>Y
  | f+1,i,j,h,hij,hj,hl,hg=>by
    unfold d9
    by_cases b:(i:Int) < (j:Int)
    . obtain⟨x,hx⟩:∃ x,m[(i+j) / 2]? =Zw x:=⟨_,p2 Y⟩
      rw [ZK b,bG,bG,bu hx]
      by_cases a:oW x k < 0
      . rw [ZK a]
        refine Ap hs k f _ j Y Y hj (λ q p hq hlt=> ?_) hg
        rcases O0 q ((i+j) / 2) with e | e
        . exact wG (zG hs hq hx e) (Bo.1 a)
        . have:q=(i+j) / 2:=Y
          subst this
          rw [hx] at hq; cases hq
          exact Bo.1 a
      . rw [ZV a]
        refine Ap hs k f i _ Y Y Y hl (λ q p hq hge hlt=> ?_)
        rcases O0 ((i+j) / 2) q with e | e
        . exact a (Bo.2 (wG (zG hs hx hq e) hlt))
        . have:q=(i+j) / 2:=Y
          subst this
          rw [hx] at hq; cases hq
          exact a (Bo.2 hlt)
    . rw [ZV b]
      have:i=j:=Y
      subst this
      exact⟨i,Z,hj,hl,hg⟩
structure Cut (m:List ay) (k:Key) (a b:List ay):Prop where q::
  app:m=a++b
  lo:∀ p ∈ a,p.f < k
  hi:∀ p ∈ b, ¬ p.f < k
theorem uK {m:List ay} (hs:oh m) (k:Key):∃ a b,Cut m k a b/\(iA m k).1=((X a:Nat):Int)/\((iA m k).2=Zk↔∃ p q,b=p::q/\p.f=k):=by
  obtain⟨r,d,i,f,g⟩:=Ap hs k (X m - 0+1) 0 (X m) Y Y (s0 _) (λ q p _ h=>Y) (λ q p hq h=>by have:=(p0.1 hq).1; omega)
  have hlen:X (t8 r m)=r:=by rw [List.length_take]; omega
  have e:iA m k=((r:Int),(iA m k).2)/\((iA m k).2=Zk↔∃ p,m[r]? =Zw p/\p.f=k):=by
    unfold iA gY
    rw [bG,bG,d]
    by_cases c:(r:Int) < ((X m:Nat):Int)
    . obtain⟨x,hx⟩:∃ x,m[r]? =Zw x:=⟨_,p2 Y⟩
      rw [ZK c,bG,bG,bu hx]
      refine⟨Z, ?_⟩
      simp only [decide_eq_true_eq,G9,hx,Option.some.injEq,exists_eq_left']
    . rw [ZV c]
      refine⟨Z, ?_⟩
      have:m[r]? =Zv:=List.getElem?_eq_none Y
      simp [this]
  refine⟨t8 r m,r6 r m,⟨(s1 r m).symm,λ p hp=> ?_,λ p hp=> ?_⟩, ?_, ?_⟩
  . obtain⟨j,hj⟩:=O1.1 hp
    have hjr:j < r:=by have:=(p0.1 hj).1; omega
    rw [List.getElem?_take,ZK hjr] at hj
    exact f j p hj hjr
  . obtain⟨j,hj⟩:=O1.1 hp
    rw [m7] at hj
    exact g _ p hj Y
  . rw [e.1,hlen]
  . rw [e.2]
    constructor
    . rintro ⟨p,hp,hk⟩
      exact⟨p,r6 (r+1) m,drop_at hp,hk⟩
    . rintro ⟨p,q,hp,hk⟩
      refine⟨p, ?_,hk⟩
      have:(r6 r m)[0]? =Zw p:=by rw [hp]; rfl
      rwa [m7,Nat.add_zero] at this
theorem Cut.two {m:List ay} {j k:Key} {a b c d:List ay} (h:j < k) (x:Cut m j a b) (y:Cut m k c d):X a<=X c:=by
  rcases O0 (X c) (X a) with e | e
  . exfalso
    obtain⟨p,hp⟩:∃ p,a[X c]? =Zw p:=⟨_,p2 e⟩
    have f:m[X c]? =Zw p:=by rw [x.app,v0 e]; exact hp
    rw [y.app,List.getElem?_append_right (s0 _),Nat.sub_self] at f
    exact y.hi p (E1 f) (wG (x.lo p (E1 hp)) h)
  . exact e
def owns (x o:aY):Prop:=(x.e=o.e)/\(x.f=o.f)/\(x.g=o.g)/\(x.a=o.a)/\(x.b=o.b)/\(x.j=o.j)
theorem GA (o:aY):mM o=dR (au.q o.a o.b):=Z
theorem Ec (o:aY):p8 o=if dR (au.q o.a o.b)=0 then(if o.j < 1 then 1 else if o.j > 4 then 1 else 0) else dR (au.q o.a o.b):=Z
theorem Bp (o:aY):pY o=if dW o.f=0 then(if((X o.g:Nat):Int) > 16 then 2 else 0) else dW o.f:=Z
theorem IE {o:aY} (h:o.e=1\/o.e=3):dA o=if o.g= []/\o.a= []/\o.b= []/\o.j=0 then dW o.f else 40:=by
  unfold dA
  rcases h with h | h
  . rw [ZK h]
    show (if _ then _ else _)=_
    simp only [pX,nW,bnd]
    congr 1
    simp [eq_comm]
  . rw [ZV Y,ZV Y,ZK h]
    show (if _ then _ else _)=_
    simp only [pX,nW,bnd]
    congr 1
    simp [eq_comm]
theorem GD {o:aY} (h:o.e=2):dA o=if o.a= []/\o.b= []/\o.j=0 then pY o else 40:=by
  unfold dA
  rw [ZV Y,ZK h]
  show (if _ then _ else _)=_
  simp only [uk,bnd]
  congr 1
  simp [eq_comm]
theorem IG {o:aY} (h:o.e=4):dA o=if o.f= []/\o.g= [] then p8 o else 40:=by
  unfold dA
  rw [ZV Y,ZV Y,ZV Y,ZK h]
  show (if _ then _ else _)=_
  simp only [ul,bnd]
  congr 1
  simp [eq_comm]
theorem Jk {o:aY} (h:o.e=5):dA o=if o.f= []/\o.g= []/\o.j=0 then mM o else 40:=by
  unfold dA
  rw [ZV Y,ZV Y,ZV Y,ZV Y,ZK h]
  show (if _ then _ else _)=_
  simp only [sW,bnd]
  congr 1
  simp [eq_comm]
theorem Jl {o:aY} (h: ¬ (1<=o.e/\o.e<=5)):dA o=40:=by
  unfold dA
  rw [ZV Y,ZV Y,ZV Y,ZV Y,ZV Y]
theorem mO {o:aY} (h:dA o=0) (hk:o.e=4\/o.e=5):M.R o.a o.b:=by
  rcases hk with hk | hk
  . rw [IG hk] at h
    by_cases a:o.f= []/\o.g= []
    . rw [ZK a,Ec] at h
      by_cases b:dR (au.q o.a o.b)=0
      . exact BO.1 b
      . rw [ZV b] at h; exact absurd h b
    . rw [ZV a] at h; cases h
  . rw [Jk hk] at h
    by_cases a:o.f= []/\o.g= []/\o.j=0
    . rw [ZK a,GA] at h
      exact BO.1 h
    . rw [ZV a] at h; cases h
theorem xP {m:List ay} {o:aY} (hm:cB m=0) (ho:dA o=0) (hk:o.e=4\/o.e=5):(kg m (fQ o)).1<=(kg m (fQ o)).2:=by
  have hs:=(l6.1 hm).2
  obtain⟨a,b,hc,f,_⟩:=uK hs o.a
  unfold kg fQ
  rw [bG]
  by_cases h:o.b= []
  . rw [ZK h]
    show (iA m o.a).1<=_
    rw [f,hc.app,List.length_append]
    simp only
    omega
  . rw [ZV h,bG]
    obtain⟨c,d,e,g,_⟩:=uK hs o.b
    show (iA m o.a).1<=(iA m o.b).1
    rw [f,g]
    have hlt:o.a < o.b:=((mO ho hk).2.resolve_left h).2
    have:=hc.two hlt e
    omega
theorem sS {o:aY} (ho:dA o=0) (hk:o.e=4):1<=o.j/\o.j<=4:=by
  rw [IG hk] at ho
  by_cases b:o.f= []/\o.g= []
  . rw [ZK b,Ec] at ho
    by_cases a:dR (au.q o.a o.b)=0
    . rw [ZK a] at ho
      by_cases c:o.j < 1
      . rw [ZK c] at ho; cases ho
      . rw [ZV c] at ho
        by_cases d:o.j > 4
        . rw [ZK d] at ho; cases ho
        . omega
    . rw [ZV a] at ho; exact absurd ho a
  . rw [ZV b] at ho; cases ho
theorem j2 {p:Prop}(h:p:=by exact xP (by assumption) (by assumption) (Y)):p:=h
end
open Int renaming toNat_natCast->O2
open List renaming getD->y4,length_append->o2,length_eq_zero_iff->O3,mem_cons->u5,sublist_append_right->O4
section
open Go.ChangeShapes
abbrev zH:bZ:=bZ.q J [] (Ll.q [])
structure C3 (m:List ay) (k:Key) (a e d:List ay):Prop where q::
  app:m=a++(e++d)
  lo:∀ p ∈ a,p.f < k
  mid:e= []\/∃ v,e= [ay.q k v]
  hi:∀ p ∈ d,k < p.f
theorem Dq {a b:List ay}:oh (a++b)↔oh a/\oh b/\∀ x ∈ a, ∀ y ∈ b,x.f < y.f:=List.pairwise_append
theorem uL {x:ay} {b:List ay}:oh (x::b)↔(∀ y ∈ b,x.f < y.f)/\oh b:=List.pairwise_cons
theorem oq {m:List ay} (hs:oh m) (k:Key):∃ a e d,C3 m k a e d/\(iA m k).1=((X a:Nat):Int)/\((iA m k).2=Zk↔e≠ []):=by
  obtain⟨a,b,hc,c,f⟩:=uK hs k
  have hb:oh b:=by rw [hc.app] at hs; exact(Dq.1 hs).2.1
  cases b with
  | nil=>exact⟨a, [], [],⟨by rw [hc.app]; rfl,hc.lo, .inl Z,λ p hp=>by cases hp⟩,c,by rw [f]; constructor <;> intro h <;> simp at h⟩
  | cons p q=>
    by_cases hk:p.f=k
    . refine⟨a, [p],q,⟨by rw [hc.app]; rfl,hc.lo, .inr ⟨p.g,by rw [<- hk]⟩,λ y hy=>by rw [<- hk]; exact(uL.1 hb).1 y hy⟩,c, ?_⟩
      rw [f]
      exact⟨λ _=>by simp,λ _=>⟨p,q,Z,hk⟩⟩
    . have hp:k < p.f:=by
        rcases Gu k p.f with h | h | h
        . exact h
        . exact absurd h.symm hk
        . exact absurd h (hc.hi p b3)
      refine⟨a, [],p::q,⟨by rw [hc.app]; rfl,hc.lo, .inl Z,λ y hy=> ?_⟩,c, ?_⟩
      . rcases u5.1 hy with rfl | hy
        . exact hp
        . exact wG hp ((uL.1 hb).1 y hy)
      . rw [f]
        constructor
        . rintro ⟨p',q',e,h⟩
          cases e
          exact absurd h hk
        . intro h; exact absurd Z h
theorem BP {α:Type} [Inhabited α] (a:List α) (x:α) (d:List α):y4 (a++x::d) (X a) ZZ=x:=by
  rw [List.getD_eq_getElem?_getD,List.getElem?_append_right (Nat.le_refl _),Nat.sub_self]; rfl
theorem EL {α:Type} (a:List α) (x y:α) (d:List α):List.set (a++x::d) (X a) y=a++y::d:=by
  induction a with
  | nil=>rfl
  | cons z a ih=>exact ZJ (z:: ·) ih
theorem Aq {α:Type} (a b:List α):List.take (X a) (a++b)=a:=by simp
theorem vT {α:Type} (a b:List α):List.drop (X a) (a++b)=b:=by simp
theorem II {m a e d:List ay} {o:aY} (h:C3 m o.f a e d) (g:(iA m o.f).1=((X a:Nat):Int)) (c:(iA m o.f).2=Zk↔e≠ []):
    tH m o=(a++ay.q o.f o.g::d,zH):=by
  unfold tH
  rw [bG]
  generalize iA m o.f=f at g c ⊢
  obtain⟨i,b⟩:=f
  simp only at g c
  subst g
  simp only [O2]
  rcases h.mid with he | ⟨v,he⟩
  . subst he
    have hb: ¬ b=Zk:=λ hb=>c.1 hb Z
    rw [ZV hb,bG,bG,bG]
    have j:iG m (X a:Int) (ay.q o.f [])=a++ay.q o.f []::d:=by
      unfold iG
      rw [h.app,List.nil_append]
      simp only [O2]
      by_cases hl:(X a:Int)=((X (a++d):Nat):Int)
      . rw [ZK hl]
        have:d= []:=O3.1 (by rw [o2] at hl; omega)
        subst this
        simp
      . rw [ZV hl,Aq,vT]
    rw [j,BP,EL]
  . subst he
    have hb:b=Zk:=c.2 i7
    rw [ZK hb,bG,bG,h.app]
    show (List.set (a++_::d) _ (ay.q (y4 (a++_::d) _ _).f _),_)=_
    rw [BP,EL]
theorem IJ {m a e d:List ay} {o:aY} (h:C3 m o.f a e d) (g:(iA m o.f).1=((X a:Nat):Int)) (c:(iA m o.f).2=Zk↔e≠ []):
    tJ m o=(a++d,zH):=by
  unfold tJ
  rw [bG]
  generalize iA m o.f=f at g c ⊢
  obtain⟨i,b⟩:=f
  simp only at g c
  subst g
  rcases h.mid with he | ⟨v,he⟩
  . subst he
    have hb: ¬ b=Zk:=λ hb=>c.1 hb Z
    rw [ZV hb,h.app]; rfl
  . subst he
    have hb:b=Zk:=c.2 i7
    rw [ZK hb,bG]
    unfold gU
    rw [ZV Y,show (X a:Int)+1=((X a+1:Nat):Int) from Z]
    simp only [O2]
    rw [h.app,Aq]
    congr 2
    rw [<- List.drop_drop,vT]; rfl
theorem IK {m a e d:List ay} {o:aY} (h:C3 m o.f a e d) (g:(iA m o.f).1=((X a:Nat):Int)) (c:(iA m o.f).2=Zk↔e≠ []):
    (e= []/\qR m o=(m,zH))\/(∃ v,e= [ay.q o.f v]/\qR m o=(m,bZ.q Zk v (Ll.q []))):=by
  unfold qR
  rw [bG]
  generalize iA m o.f=f at g c ⊢
  obtain⟨i,b⟩:=f
  simp only at g c
  subst g
  simp only [O2]
  rcases h.mid with he | ⟨v,he⟩
  . have hb: ¬ b=Zk:=λ hb=>c.1 hb he
    rw [ZV hb]
    exact .inl ⟨he,Z⟩
  . have hb:b=Zk:=c.2 (by rw [he]; simp)
    rw [ZK hb,bG]
    refine .inr ⟨v,he, ?_⟩
    have:y4 m (X a) ZZ=ay.q o.f v:=by rw [h.app,he]; exact BP _ _ _
    rw [this]
structure Mid (m:List ay) (u v:Key) (a b c:List ay):Prop where q::
  app:m=a++(b++c)
  lo:∀ p ∈ a,p.f < u
  mid:∀ p ∈ b, ¬ p.f < u/\(v= []\/p.f < v)
  hi:∀ p ∈ c,v≠ []/\¬ p.f < v
theorem yn {m:List ay} {r:au} (hs:oh m) (hr:M.R r.a r.b):∃ a b c,Mid m r.a r.b a b c/\kg m r=(((X a:Nat):Int),((X a+X b:Nat):Int)):=by
  obtain⟨a,b,hc,k,_⟩:=uK hs r.a
  unfold kg
  rw [bG,k]
  by_cases h:r.b= []
  . rw [ZK h]
    refine⟨a,b, [],⟨by rw [hc.app,List.append_nil],hc.lo,λ p hp=>⟨hc.hi p hp, .inl h⟩,λ p hp=>by cases hp⟩, ?_⟩
    rw [hc.app,o2]
  . rw [ZV h,bG]
    obtain⟨c,d,f,l,_⟩:=uK hs r.b
    have hlt:r.a < r.b:=(hr.2.resolve_left h).2
    have hl:=hc.two hlt f
    rw [l]
    obtain⟨x,hx,g⟩:∃ x,c=a++x/\b=x++d:=by
      have e:a++b=c++d:=by rw [<- hc.app, <- f.app]
      rcases List.append_eq_append_iff.1 e with ⟨x,i,j⟩ | ⟨x,i,j⟩
      . exact⟨x,i,j⟩
      . have:x= []:=O3.1 (by rw [i,o2] at hl; omega)
        subst this
        exact⟨[],by rw [i]; simp,by rw [j]; rfl⟩
    refine⟨a,x,d,⟨by rw [hc.app,g],hc.lo,λ p hp=>⟨hc.hi p (by rw [g]; exact List.mem_append_left _ hp), .inr (f.lo p (by rw [hx]; exact List.mem_append_right _ hp))⟩,λ p hp=>⟨h,f.hi p hp⟩⟩, ?_⟩
    rw [hx,o2]
theorem GG {m a b c:List ay} {o:aY} (h:Mid m o.a o.b a b c) (e:kg m (au.q o.a o.b)=(((X a:Nat):Int),((X a+X b:Nat):Int))):
    rC m o=(a++c,zH):=by
  unfold rC
  rw [bG,show fQ o=au.q o.a o.b from Z,bG,e,bG]
  unfold gU
  simp only [O2]
  by_cases hb:(X a:Int)=((X a+X b:Nat):Int)
  . rw [ZK hb]
    have:b= []:=O3.1 Y
    rw [h.app,this]; rfl
  . rw [ZV hb,h.app,Aq, <- List.drop_drop,vT,vT]
theorem GH {m a b c:List ay} {o:aY} (h:Mid m o.a o.b a b c) (e:kg m (au.q o.a o.b)=(((X a:Nat):Int),((X a+X b:Nat):Int))) (hm:1<=o.j):
    rA m o=(m,bZ.q J [] (Ll.q (List.take o.j.toNat b))):=by
  unfold rA
  rw [bG,show fQ o=au.q o.a o.b from Z,bG,e]
  simp only [O2]
  congr 3
  rw [h.app,vT]
  obtain⟨n,hn⟩:∃ n:Nat,o.j=n:=⟨o.j.toNat,Y⟩
  rw [hn,show (X a:Int)+(n:Int)=((X a+n:Nat):Int) from Z]
  have d:(min ((X a+X b:Nat):Int) ((X a+n:Nat):Int)).toNat - X a=min n (X b):=Y
  rw [d,O2]
  rw [List.take_append_of_le_length (Nat.min_le_right _ _)]
  rw [List.take_eq_take_iff]; omega
def l7 (m:List ay) (o:aY):List ay × bZ:=
  if o.e=1 then qR m o else if o.e=2 then tH m o else if o.e=3 then tJ m o else if o.e=4 then rA m o else rC m o
theorem vV {a b:List ay} (h:a.Sublist b) (hs:oh b):oh a:=List.Pairwise.sublist h hs
theorem zI {o:aY} (h:dA o=0) (hk:o.e=1\/o.e=2\/o.e=3):vS o.f:=by
  rcases hk with hk | hk | hk
  . rw [IE (.inl hk)] at h
    split at h
    . exact rZ.1 h
    . cases h
  . rw [GD hk] at h
    split at h
    . rw [Bp] at h
      by_cases a:dW o.f=0
      . exact rZ.1 a
      . rw [ZV a] at h; exact absurd h a
    . cases h
  . rw [IE (.inr hk)] at h
    split at h
    . exact rZ.1 h
    . cases h
theorem IL {o:aY} (h:dA o=0) (hk:o.e=2):X o.g<=16:=by
  rw [GD hk] at h
  split at h
  . rw [Bp] at h
    by_cases a:dW o.f=0
    . rw [ZK a] at h
      split at h
      . cases h
      . omega
    . rw [ZV a] at h; exact absurd h a
  . cases h
theorem EM {m:List ay} {o:aY} {r} (h:tH m o=r) (hm:cB m=0) (ho:dA o=0) (hk:o.e=2):cB r.1=0:=by
  obtain⟨hp,hs⟩:=l6.1 hm
  obtain⟨a,e,d,b,f,g⟩:=oq hs o.f
  rw [<- h,II b f g]
  have hma:a.Sublist m:=by rw [b.app]; exact List.sublist_append_left _ _
  have hmd:d.Sublist m:=by rw [b.app]; exact(O4 e d).trans (O4 a _)
  refine l6.2 ⟨λ p c=> ?_,Dq.2 ⟨vV hma hs,uL.2 ⟨b.hi,vV hmd hs⟩,λ x hx y hy=> ?_⟩⟩
  . rcases List.mem_append.1 c with hx | hx
    . exact hp p (hma.subset hx)
    . rcases u5.1 hx with rfl | hx
      . exact⟨zI ho (.inr (.inl hk)),IL ho hk⟩
      . exact hp p (hmd.subset hx)
  . rcases u5.1 hy with rfl | hy
    . exact b.lo x hx
    . exact wG (b.lo x hx) (b.hi y hy)
theorem EN {m n:List ay} (h:n.Sublist m) (hm:cB m=0):cB n=0:=
  l6.2 ⟨λ p hp=>(l6.1 hm).1 p (h.subset hp),vV h (l6.1 hm).2⟩
theorem EO {m:List ay} {o:aY} {r} (h:tJ m o=r) (hm:cB m=0):cB r.1=0:=by
  obtain⟨a,e,d,b,c,f⟩:=oq (l6.1 hm).2 o.f
  rw [<- h,IJ b c f]
  refine EN ?_ hm
  rw [b.app]
  exact(List.Sublist.refl a).append (O4 e d)
theorem EP {m:List ay} {o:aY} {r} (h:qR m o=r) (hm:cB m=0):cB r.1=0:=by
  obtain⟨a,e,d,c,f,g⟩:=oq (l6.1 hm).2 o.f
  rcases IK c f g with ⟨_,b⟩ | ⟨v,_,b⟩ <;> rw [<- h,b] <;> exact hm
theorem Dr {m:List ay} {o:aY} {r} (h:rA m o=r) (hm:cB m=0) (ho:dA o=0) (hk:o.e=4):cB r.1=0:=by
  obtain⟨a,b,c,d,e⟩:=yn (r:=au.q o.a o.b) (l6.1 hm).2 (mO ho (.inl hk))
  rw [<- h,GH d e (sS ho hk).1]; exact hm
theorem Dt {m:List ay} {o:aY} {r} (h:rC m o=r) (hm:cB m=0) (ho:dA o=0) (hk:o.e=5):cB r.1=0:=by
  obtain⟨a,b,c,d,e⟩:=yn (r:=au.q o.a o.b) (l6.1 hm).2 (mO ho (.inr hk))
  rw [<- h,GG d e]
  refine EN ?_ hm
  rw [d.app]
  exact(List.Sublist.refl a).append (O4 b c)
end
open IntKind renaming i64->B7
open List renaming flatMap->q0,flatMap_append->u0,length_cons->q5,length_nil->L3
open Sv renaming q->O6
open _root_.Go.Proofs.Tryz renaming call67->D2,isAgg68->C6,isAgg70->M1,isAgg96->O5,sizeOf149->C4,sizeOf68->C5,sizeOf70->L7,underlying45->H1
open WL renaming nil->B8
section
open Go.RowKit
def fT:List aY->List ay->List bZ->(List ay) × (List bZ)
  | [],b,c=>(b,c)
  | a::d,b,c=>if a.e=1 then bnd (qR b a) λ e=>fT d e.1 (c++ [e.2]) else if a.e=2 then bnd (tH b a) λ f=>fT d f.1 (c++ [f.2]) else if a.e=3 then bnd (tJ b a) λ g=>fT d g.1 (c++ [g.2]) else if a.e=4 then bnd (rA b a) λ h=>fT d h.1 (c++ [h.2]) else bnd (rC b a) λ i=>fT d i.1 (c++ [i.2])
def mP (c:List ay) (l1:List aY):(List ay) × (List bZ) × Int:=
 bnd (cB c) λ a=>if a=0 then bnd (fF l1) λ b=>if b=0 then bnd (fT l1 c []) λ sLrbtbtL=>(sLrbtbtL.1,sLrbtbtL.2,0) else(([]:List ay),([]:List bZ),b) else(([]:List ay),([]:List bZ),a)
theorem CK (w D A0 n0 c0 I A1 n1 c1 l1 r0 r1 r2) (H:Own w D w []) (dW:Ro w D λ w'=>bP w' 2 A0 n0 (q0 ay.J I)) (jh:n0=X I) (mI:X I *32<=211106232532992) (aV:Ro w D λ w'=>bP w' 6 A1 n1 (q0 aY.J l1)) (ji:n1=X l1) (mJ:X l1 *80<=211106232532992) (mK:(X I+X l1) *32<=211106232532992) (hr:mP I l1=(r0,r1,r2)):
    Calls Tryz.prog 177 #[W A0 n0 c0, W A1 n1 c1] w (dM λ v w'=> ∃ B0 b0 B1 b1 e1,v= .tuple #[W B0 (X r0) b0, W B1 (X r1) b1,vI r2]/\Own w D w' [row B0 (X r0) b0 (q0 ay.J r0) 101 2,row B1 (X r1) b1 (q0 aR.J e1) 70 3,sepL (q0 Kc e1)]/\(List.map aR.abs e1=r1)/\(X r0<=X I+X l1)/\(X r1<=X l1)):=by
 subst jh ji
 refine cb Tryz.func177 ?_
 refine sr (Az Z (Az Z (An Z (JG (sr (Mz Z ?_))))))
 obtain⟨aj,Z5⟩:∃ q,cB I=q:=⟨_,Z⟩
 obtain⟨mM,dX,dY,dZ,kK⟩:=JJ H
 refine cl Tryz.call215 (Al _ _ A0 (X I) c0 I aj dX (dY _ dW) Z Y Z5) ?_
 rintro _ bQ ⟨rfl,d9⟩
 have ed:=dZ _ _ d9
 refine Ar Z (Mz Z (fw (Zb (¬ (aj=0))) (JZ (e:= !(Zy (aj=0))) yk ZY) (nt ?_)))
 by_cases ak:aj=0
 refine jF (dF (Nc ak)) (sk (JG (sr (Mz Z ?_))))
 obtain⟨au,Z6⟩:∃ q,fF l1=q:=⟨_,Z⟩
 obtain⟨mO,ek,eu,eB,kL⟩:=JJ ed
 refine cl Tryz.call66 (rU _ _ A1 (X l1) c1 l1 au ek (eu _ aV) Z Y Z6) ?_
 rintro _ bR ⟨rfl,eD⟩
 have eF:=eB _ _ eD
 refine Ar Z (Mz Z (fw (Zb (¬ (au=0))) (JZ (e:= !(Zy (au=0))) yk ZY) (nt ?_)))
 by_cases aW:au=0
 refine jF (dF (Nc aW)) (sk (sr (Mz Z ?_)))
 obtain⟨mQ,eG,eO,eP,kM⟩:=JJ eF
 refine cl Tryz.call165 (ny _ _ A0 (X I) c0 I I eG (eO _ dW) Z Y Z) ?_
 rintro _ eQ ⟨bS,bT,rfl,eT⟩
 have eU:=eP _ _ eT
 have kN:=eU.rowC (i:=0) Z
 refine Ar Z (An Z (JG (sr (Mz Z (Kz (vJ (X l1)) (Mn Z (bo ?_)))))))
 have jl:Own w D eQ [sepL (q0 Kc []),row bS (X I) bT (q0 ay.J I) 101 2]:=eU.sepNil
 have jm:Own w D eQ [row Zv 0 0 (q0 aR.J []) 70 3,sepL (q0 Kc []),row bS (X I) bT (q0 ay.J I) 101 2]:=jl.free (cK 70 3)
 have jo:=jm.pf [2]
 obtain⟨jq,Z7⟩:=Jh λ L (M:Nat) n aX (aZ:Nat) p h (j:Nat) w'=>Own w D w' [row L (X n) M (q0 ay.J n) 101 2,row aX (X h) aZ (q0 aR.J p) 70 3,sepL (q0 Kc p)]/\List.map aR.abs p=h/\j<=X l1/\X n<=X I+j/\X h=j/\X h<=j/\cB n=0/\fT l1 I []=fT (List.drop j l1) n h
 refine Wp.loop (λ i:(Option Addr) × Nat × (List ay) × (Option Addr) × Nat × (List aR) × (List bZ) × Nat=> [(0, W i.1 (X i.2.2.1) i.2.1),(9, W i.2.2.2.1 (X i.2.2.2.2.2.2.1) i.2.2.2.2.1),(29,vJ i.2.2.2.2.2.2.2),(28,vJ (X l1)),(27, W A1 (X l1) c1),(6,vI 0),(5, W Zv 0 0),(4, W Zv 0 0)]) jq (λ i=>X l1 - i.2.2.2.2.2.2.2) (bS,bT,I,Zv,0, [], [],0) ⟨Z,Z,Z,Z,Z,Z,Z,Z,ZW⟩ (Z7.2 ⟨jo,(show List.map aR.abs []=[]/\0<=X l1/\X I<=X I/\0=0/\0<=0/\cB I=0/\fT l1 I []=fT (List.drop 0 l1) I [] from ⟨by exact Z,Y,Y,Y,Y,by rw [Z5]; omega,Z⟩)⟩) ?_
 rintro ⟨L,M,n,aX,aZ,p,h,j⟩ mR eX
 show Wp _ _ _ [(0, W L (X n) M),(9, W aX (X h) aZ),(29,vJ j),(28,vJ (X l1)),(27, W A1 (X l1) c1),(6,vI 0),(5, W Zv 0 0),(4, W Zv 0 0)] _ _
 obtain⟨av,r,kP,kQ,kR,kS,kT,K⟩:=Z7.1 eX
 have kU:=bg r
 refine sr (Kz (Zb ((j:Int) < (X l1:Int))) (nt (JG ?_)))
 by_cases eY:(j:Int) < (X l1:Int)
 obtain⟨o,Z9⟩:=dJ (ls:=l1) (i:=j) aY.len f6 (av.ro aV) f4
 have kV:=Di (l:=l1) (by rw [Z6]; omega) Z9
 have kW:dA o=0:=vk (l:=l1) (by rw [Z6]; omega) _ (List.mem_of_getElem? Z9)
 have P:=drop_at Z9
 refine jT (dT eY) (sk (JG (bo (sr (fw (Zq (Zw ⟨ab A1,ao A1+j *6,Zv⟩)) (JU (oD) Z Z ((av.ro aV).addr (i:=j) Y) Y) (fw (Zx (Zc (aY.J o))) (JS Z (JW (cs:=(aY.J o)) C6 C5 ((av.ro aV).elem aY.len Z9 f6))) ?_))))))
 refine cu [vI 0, Zz ⟨Zc []⟩, Zz ⟨Zc []⟩, Zz ⟨Zc []⟩, Zz ⟨Zc []⟩,vI 0] 68 av ?_
 intro jr mU jv
 refine cO (aY.J o) 0 jv C5 ?_
 intro mV ah
 refine ns (Kz (vP jr 0) (Lz (vI o.e) ah 0 Tryz.isAgg3 ?_))
 by_cases ai:o.e=1
 obtain⟨mW,eZ,kX,fe,kY⟩:=JJ ah
 refine cl D2 (oF _ _ o.e eZ (of_decide_eq_true (dT ai))) ?_
 rintro _ mX ⟨rfl,fo⟩
 have jw:=fe _ _ fo
 refine Mz Z (Kz (Zx o2k.toArray) (Kz (V Zk) ?_))
 refine cu [V J, Zj, Zj, Zj, Zj] 149 jw ?_
 intro fu kZ fA
 refine cO o2k 0 fA C4 ?_
 intro lc fB
 refine Ar Z ?_
 refine cu [V J, Zz ⟨Zc []⟩, W Zv 0 0] 70 fB ?_
 intro lg lh ax
 refine ns (Kz (vP fu 4) (Lz (.func (.func 102) #[] #[]) ax 1 O5 (Mz Z (La (aY.J o) ax 2 C6 C5 ?_))))
 have fC:=ax.pf [3]
 obtain⟨⟨Z1,a⟩,R⟩:∃ q:(List ay) × bZ,qR n o=q:=⟨_,Z⟩
 obtain⟨ll,bU,jy,bV,jA⟩:=Kb fC
 refine WL.do Z (Kh Tryz.call102 Z Z (ED _ _ L (X n) M n o Z1 a bU Z Y Y R) ?_)
 rintro _ lm ⟨bf,bi,t,u,rfl,bW,az⟩
 have aA:=bV _ _ bW
 have jB:=aA.rowC (i:=0) Z
 have jC:=aA.rowC (i:=1) Z
 replace az:X Z1<=X n+1:=az
 refine Mz Z (Kz (W bf (X Z1) bi) (Kz (Zx #[V a.b, Zz ⟨Zc a.g⟩, W t (X a.a.a) u]) (Az Z ?_)))
 have fD:=aA.pf [2]
 refine cO [V a.b, Zz ⟨Zc a.g⟩, W t (X a.a.a) u] 0 fD L7 ?_
 intro lq bn
 refine nt (JI (Mz Z (La ([V a.b, Zz ⟨Zc a.g⟩, W t (X a.a.a) u]) bn 0 M1 L7 ?_)))
 refine jW [V a.b, Zz ⟨Zc a.g⟩, W t (X a.a.a) u] 70 3 1 bn ?_
 intro fE lu aB
 replace aB:=Ke (y:=row fE 1 1 (q0 aR.J ([(aR.q a.b a.g (O6 t u a.a.a))])) 70 3) Z aB
 have bq:=aB.pf [6,7,3]
 refine WL.do Z (J7 (k:=X h) (m:=1) (qF) bq Z Z (fq H1 (bq.rds (i:=3) Z) (di aR.one ([(aR.q a.b a.g (O6 t u a.a.a))]))) Z Y (s:=X (h++ [a])) f7 (u0).symm ?_)
 intro fG fH fI fJ
 have fK:=fJ.pf [1,2]
 have fM:Own w D fI (sepL (q0 Kc (p++ [(aR.q a.b a.g (O6 t u a.a.a))]))::_):=fK.sepAdd (L2:= [row t (X a.a.a) u (q0 ay.J a.a.a) 101 2]) (u0 (f:=Kc) (xs:=p) (ys:= [(aR.q a.b a.g (O6 t u a.a.a))])).symm
 have jD:X (h++ [a])=X h+1:=by simp only [o2,q5,L3]
 have jE:=bg (jP (es:= [(aR.q a.b a.g (O6 t u a.a.a))]) (ms:= [a]) r Z)
 refine Az Z (B8 (bN (JK (JI (fw (vJ (j+1)) (JN (e:=B7.wrap ((j:Int)+1)) yk f3) (Mz Z (B8 ?_)))))))
 have fO:=fM.pk [4,1,0]
 exact JX (bf,bi,Z1,fG,fH,(p++ [(aR.q a.b a.g (O6 t u a.a.a))]),(h++ [a]),j+1) ⟨Z,Z,Z,Z,Z,Z,Z,Z,ZW⟩ (Z7.2 ⟨fO,by exact(jP (es:= [(aR.q a.b a.g (O6 t u a.a.a))]) (ms:= [a]) r Z),Y,Y,Y,Y,by exact EP R f8,N (K) (N (ZJ (λ q=>fT q n h) P) (N (ip ai) (ae R)))⟩) (by show X l1 - (j+1) < X l1 - j; omega)
 by_cases Q:o.e=2
 obtain⟨lv,bX,jG,bY,jH⟩:=JJ ah
 refine cl D2 (oG _ _ o.e bX (of_decide_eq_true (dT Q))) ?_
 rintro _ lw ⟨rfl,cz⟩
 have fP:=bY _ _ cz
 refine Mz Z (Kz (Zx o3k.toArray) (Kz (V Zk) ?_))
 refine cu [V J, Zj, Zj, Zj, Zj] 149 fP ?_
 intro fQ lC fU
 refine cO o3k 0 fU C4 ?_
 intro lD fV
 refine Ar Z ?_
 refine cu [V J, Zz ⟨Zc []⟩, W Zv 0 0] 70 fV ?_
 intro lF lG aC
 refine ns (Kz (vP fQ 4) (Lz (.func (.func 105) #[] #[]) aC 1 O5 (Mz Z (La (aY.J o) aC 2 C6 C5 ?_))))
 have fZ:=aC.pf [3]
 obtain⟨⟨Z2,b⟩,S⟩:∃ q:(List ay) × bZ,tH n o=q:=⟨_,Z⟩
 obtain⟨lH,cZ,jI,df,jJ⟩:=Kb fZ
 refine WL.do Z (Kh Tryz.call105 Z Z (EE _ _ L (X n) M n o Z2 b cZ Z Y Y S) ?_)
 rintro _ lI ⟨bu,bv,x,z,rfl,dh,aD⟩
 have aF:=df _ _ dh
 have jK:=aF.rowC (i:=0) Z
 have jL:=aF.rowC (i:=1) Z
 replace aD:X Z2<=X n+1:=aD
 refine Mz Z (Kz (W bu (X Z2) bv) (Kz (Zx #[V b.b, Zz ⟨Zc b.g⟩, W x (X b.a.a) z]) (Az Z ?_)))
 have gm:=aF.pf [2]
 refine cO [V b.b, Zz ⟨Zc b.g⟩, W x (X b.a.a) z] 0 gm L7 ?_
 intro lJ bz
 refine nt (JI (Mz Z (La ([V b.b, Zz ⟨Zc b.g⟩, W x (X b.a.a) z]) bz 0 M1 L7 ?_)))
 refine jW [V b.b, Zz ⟨Zc b.g⟩, W x (X b.a.a) z] 70 3 1 bz ?_
 intro gp lK aG
 replace aG:=Ke (y:=row gp 1 1 (q0 aR.J ([(aR.q b.b b.g (O6 x z b.a.a))])) 70 3) Z aG
 have bA:=aG.pf [6,7,3]
 refine WL.do Z (J7 (k:=X h) (m:=1) (qF) bA Z Z (fq H1 (bA.rds (i:=3) Z) (di aR.one ([(aR.q b.b b.g (O6 x z b.a.a))]))) Z Y (s:=X (h++ [b])) f7 (u0).symm ?_)
 intro gq gu gy gz
 have gB:=gz.pf [1,2]
 have gD:Own w D gy (sepL (q0 Kc (p++ [(aR.q b.b b.g (O6 x z b.a.a))]))::_):=gB.sepAdd (L2:= [row x (X b.a.a) z (q0 ay.J b.a.a) 101 2]) (u0 (f:=Kc) (xs:=p) (ys:= [(aR.q b.b b.g (O6 x z b.a.a))])).symm
 have jM:X (h++ [b])=X h+1:=by simp only [o2,q5,L3]
 have jN:=bg (jP (es:= [(aR.q b.b b.g (O6 x z b.a.a))]) (ms:= [b]) r Z)
 refine Az Z (B8 (bN (JK (JI (fw (vJ (j+1)) (JN (e:=B7.wrap ((j:Int)+1)) yk f3) (Mz Z (B8 ?_)))))))
 have gF:=gD.pk [4,1,0]
 exact JX (bu,bv,Z2,gq,gu,(p++ [(aR.q b.b b.g (O6 x z b.a.a))]),(h++ [b]),j+1) ⟨Z,Z,Z,Z,Z,Z,Z,Z,ZW⟩ (Z7.2 ⟨gF,by exact(jP (es:= [(aR.q b.b b.g (O6 x z b.a.a))]) (ms:= [b]) r Z),Y,Y,Y,Y,by exact EM S f8 f8 Y,N (K) (N (ZJ (λ q=>fT q n h) P) (N (iN ai) (N (ip Q) (ae S))))⟩) (by show X l1 - (j+1) < X l1 - j; omega)
 by_cases Z0:o.e=3
 obtain⟨lL,dm,jO,dn,jQ⟩:=JJ ah
 refine cl D2 (oH _ _ o.e dm (of_decide_eq_true (dT Z0))) ?_
 rintro _ lM ⟨rfl,dw⟩
 have gG:=dn _ _ dw
 refine Mz Z (Kz (Zx o4k.toArray) (Kz (V Zk) ?_))
 refine cu [V J, Zj, Zj, Zj, Zj] 149 gG ?_
 intro gH lN gI
 refine cO o4k 0 gI C4 ?_
 intro lQ gJ
 refine Ar Z ?_
 refine cu [V J, Zz ⟨Zc []⟩, W Zv 0 0] 70 gJ ?_
 intro lS lT aH
 refine ns (Kz (vP gH 4) (Lz (.func (.func 106) #[] #[]) aH 1 O5 (Mz Z (La (aY.J o) aH 2 C6 C5 ?_))))
 have gK:=aH.pf [3]
 obtain⟨⟨aa,c⟩,Z8⟩:∃ q:(List ay) × bZ,tJ n o=q:=⟨_,Z⟩
 obtain⟨lU,dx,jR,dz,jS⟩:=Kb gK
 refine WL.do Z (Kh Tryz.call106 Z Z (EF _ _ L (X n) M n o aa c dx Z Y Y Z8) ?_)
 rintro _ lV ⟨bB,bC,A,B,rfl,dB,aI⟩
 have aJ:=dz _ _ dB
 have jU:=aJ.rowC (i:=0) Z
 have jV:=aJ.rowC (i:=1) Z
 replace aI:X aa<=X n+1:=aI
 refine Mz Z (Kz (W bB (X aa) bC) (Kz (Zx #[V c.b, Zz ⟨Zc c.g⟩, W A (X c.a.a) B]) (Az Z ?_)))
 have gL:=aJ.pf [2]
 refine cO [V c.b, Zz ⟨Zc c.g⟩, W A (X c.a.a) B] 0 gL L7 ?_
 intro lW bD
 refine nt (JI (Mz Z (La ([V c.b, Zz ⟨Zc c.g⟩, W A (X c.a.a) B]) bD 0 M1 L7 ?_)))
 refine jW [V c.b, Zz ⟨Zc c.g⟩, W A (X c.a.a) B] 70 3 1 bD ?_
 intro gM lX aK
 replace aK:=Ke (y:=row gM 1 1 (q0 aR.J ([(aR.q c.b c.g (O6 A B c.a.a))])) 70 3) Z aK
 have bE:=aK.pf [6,7,3]
 refine WL.do Z (J7 (k:=X h) (m:=1) (qF) bE Z Z (fq H1 (bE.rds (i:=3) Z) (di aR.one ([(aR.q c.b c.g (O6 A B c.a.a))]))) Z Y (s:=X (h++ [c])) f7 (u0).symm ?_)
 intro gN gP gQ gT
 have gU:=gT.pf [1,2]
 have gV:Own w D gQ (sepL (q0 Kc (p++ [(aR.q c.b c.g (O6 A B c.a.a))]))::_):=gU.sepAdd (L2:= [row A (X c.a.a) B (q0 ay.J c.a.a) 101 2]) (u0 (f:=Kc) (xs:=p) (ys:= [(aR.q c.b c.g (O6 A B c.a.a))])).symm
 have jX:X (h++ [c])=X h+1:=by simp only [o2,q5,L3]
 have jY:=bg (jP (es:= [(aR.q c.b c.g (O6 A B c.a.a))]) (ms:= [c]) r Z)
 refine Az Z (B8 (bN (JK (JI (fw (vJ (j+1)) (JN (e:=B7.wrap ((j:Int)+1)) yk f3) (Mz Z (B8 ?_)))))))
 have gW:=gV.pk [4,1,0]
 exact JX (bB,bC,aa,gN,gP,(p++ [(aR.q c.b c.g (O6 A B c.a.a))]),(h++ [c]),j+1) ⟨Z,Z,Z,Z,Z,Z,Z,Z,ZW⟩ (Z7.2 ⟨gW,by exact(jP (es:= [(aR.q c.b c.g (O6 A B c.a.a))]) (ms:= [c]) r Z),Y,Y,Y,Y,by exact EO Z8 f8,N (K) (N (ZJ (λ q=>fT q n h) P) (N (iN ai) (N (iN Q) (N (ip Z0) (ae Z8)))))⟩) (by show X l1 - (j+1) < X l1 - j; omega)
 by_cases aL:o.e=4
 obtain⟨lY,dC,jZ,dD,j3⟩:=JJ ah
 refine cl D2 (oI _ _ o.e dC (of_decide_eq_true (dT aL))) ?_
 rintro _ lZ ⟨rfl,dE⟩
 have gX:=dD _ _ dE
 refine Mz Z (Kz (Zx o5k.toArray) (Kz (V Zk) ?_))
 refine cu [V J, Zj, Zj, Zj, Zj] 149 gX ?_
 intro gY l5 gZ
 refine cO o5k 0 gZ C4 ?_
 intro l6 ib
 refine Ar Z ?_
 refine cu [V J, Zz ⟨Zc []⟩, W Zv 0 0] 70 ib ?_
 intro l7 l8 aM
 refine ns (Kz (vP gY 4) (Lz (.func (.func 110) #[] #[]) aM 1 O5 (Mz Z (La (aY.J o) aM 2 C6 C5 ?_))))
 have ic:=aM.pf [3]
 obtain⟨⟨af,d⟩,Z4⟩:∃ q:(List ay) × bZ,rA n o=q:=⟨_,Z⟩
 obtain⟨l9,dG,j4,dH,j5⟩:=Kb ic
 refine WL.do Z (Kh Tryz.call110 Z Z (D5 _ _ L (X n) M n o af d dG Z Y Y j2 (by exact sS f8 Y) Z4) ?_)
 rintro _ ma ⟨bF,bG,C,E,rfl,dI,aN⟩
 have aO:=dH _ _ dI
 have j6:=aO.rowC (i:=0) Z
 have kg:=aO.rowC (i:=1) Z
 replace aN:X af<=X n+1:=aN
 refine Mz Z (Kz (W bF (X af) bG) (Kz (Zx #[V d.b, Zz ⟨Zc d.g⟩, W C (X d.a.a) E]) (Az Z ?_)))
 have ig:=aO.pf [2]
 refine cO [V d.b, Zz ⟨Zc d.g⟩, W C (X d.a.a) E] 0 ig L7 ?_
 intro mf bH
 refine nt (JI (Mz Z (La ([V d.b, Zz ⟨Zc d.g⟩, W C (X d.a.a) E]) bH 0 M1 L7 ?_)))
 refine jW [V d.b, Zz ⟨Zc d.g⟩, W C (X d.a.a) E] 70 3 1 bH ?_
 intro ik mg aP
 replace aP:=Ke (y:=row ik 1 1 (q0 aR.J ([(aR.q d.b d.g (O6 C E d.a.a))])) 70 3) Z aP
 have bI:=aP.pf [6,7,3]
 refine WL.do Z (J7 (k:=X h) (m:=1) (qF) bI Z Z (fq H1 (bI.rds (i:=3) Z) (di aR.one ([(aR.q d.b d.g (O6 C E d.a.a))]))) Z Y (s:=X (h++ [d])) f7 (u0).symm ?_)
 intro il iq iw iy
 have iA:=iy.pf [1,2]
 have iB:Own w D iw (sepL (q0 Kc (p++ [(aR.q d.b d.g (O6 C E d.a.a))]))::_):=iA.sepAdd (L2:= [row C (X d.a.a) E (q0 ay.J d.a.a) 101 2]) (u0 (f:=Kc) (xs:=p) (ys:= [(aR.q d.b d.g (O6 C E d.a.a))])).symm
 have ko:X (h++ [d])=X h+1:=by simp only [o2,q5,L3]
 have kr:=bg (jP (es:= [(aR.q d.b d.g (O6 C E d.a.a))]) (ms:= [d]) r Z)
 refine Az Z (B8 (bN (JK (JI (fw (vJ (j+1)) (JN (e:=B7.wrap ((j:Int)+1)) yk f3) (Mz Z (B8 ?_)))))))
 have iC:=iB.pk [4,1,0]
 exact JX (bF,bG,af,il,iq,(p++ [(aR.q d.b d.g (O6 C E d.a.a))]),(h++ [d]),j+1) ⟨Z,Z,Z,Z,Z,Z,Z,Z,ZW⟩ (Z7.2 ⟨iC,by exact(jP (es:= [(aR.q d.b d.g (O6 C E d.a.a))]) (ms:= [d]) r Z),Y,Y,Y,Y,by exact Dr Z4 f8 f8 Y,N (K) (N (ZJ (λ q=>fT q n h) P) (N (iN ai) (N (iN Q) (N (iN Z0) (N (ip aL) (ae Z4))))))⟩) (by show X l1 - (j+1) < X l1 - j; omega)
 have dK:(Zy (o.e=5))=Zk:=(dT Y)
 obtain⟨mh,dL,ku,dN,kv⟩:=JJ ah
 refine cl D2 (oJ _ _ o.e dL (of_decide_eq_true dK)) ?_
 rintro _ mi ⟨rfl,dO⟩
 have iD:=dN _ _ dO
 refine Mz Z (Kz (Zx o6k.toArray) (Kz (V Zk) ?_))
 refine cu [V J, Zj, Zj, Zj, Zj] 149 iD ?_
 intro iE mo iF
 refine cO o6k 0 iF C4 ?_
 intro mq iG
 refine Ar Z ?_
 refine cu [V J, Zz ⟨Zc []⟩, W Zv 0 0] 70 iG ?_
 intro mr mD aQ
 refine ns (Kz (vP iE 4) (Lz (.func (.func 113) #[] #[]) aQ 1 O5 (Mz Z (La (aY.J o) aQ 2 C6 C5 ?_))))
 have iH:=aQ.pf [3]
 obtain⟨⟨ag,g⟩,Z3⟩:∃ q:(List ay) × bZ,rC n o=q:=⟨_,Z⟩
 obtain⟨mE,dP,kw,dQ,ky⟩:=Kb iH
 refine WL.do Z (Kh Tryz.call113 Z Z (D6 _ _ L (X n) M n o ag g dP Z Y Y j2 Z3) ?_)
 rintro _ mF ⟨bJ,bK,F,G,rfl,dR,aS⟩
 have aT:=dQ _ _ dR
 have kz:=aT.rowC (i:=0) Z
 have kC:=aT.rowC (i:=1) Z
 replace aS:X ag<=X n+1:=aS
 refine Mz Z (Kz (W bJ (X ag) bK) (Kz (Zx #[V g.b, Zz ⟨Zc g.g⟩, W F (X g.a.a) G]) (Az Z ?_)))
 have iI:=aT.pf [2]
 refine cO [V g.b, Zz ⟨Zc g.g⟩, W F (X g.a.a) G] 0 iI L7 ?_
 intro mG bL
 refine nt (JI (Mz Z (La ([V g.b, Zz ⟨Zc g.g⟩, W F (X g.a.a) G]) bL 0 M1 L7 ?_)))
 refine jW [V g.b, Zz ⟨Zc g.g⟩, W F (X g.a.a) G] 70 3 1 bL ?_
 intro iJ mH aU
 replace aU:=Ke (y:=row iJ 1 1 (q0 aR.J ([(aR.q g.b g.g (O6 F G g.a.a))])) 70 3) Z aU
 have bM:=aU.pf [6,7,3]
 refine WL.do Z (J7 (k:=X h) (m:=1) (qF) bM Z Z (fq H1 (bM.rds (i:=3) Z) (di aR.one ([(aR.q g.b g.g (O6 F G g.a.a))]))) Z Y (s:=X (h++ [g])) f7 (u0).symm ?_)
 intro iK iL iM iO
 have iP:=iO.pf [1,2]
 have iQ:Own w D iM (sepL (q0 Kc (p++ [(aR.q g.b g.g (O6 F G g.a.a))]))::_):=iP.sepAdd (L2:= [row F (X g.a.a) G (q0 ay.J g.a.a) 101 2]) (u0 (f:=Kc) (xs:=p) (ys:= [(aR.q g.b g.g (O6 F G g.a.a))])).symm
 have kD:X (h++ [g])=X h+1:=by simp only [o2,q5,L3]
 have kE:=bg (jP (es:= [(aR.q g.b g.g (O6 F G g.a.a))]) (ms:= [g]) r Z)
 refine Az Z (B8 (bN (JK (JI (fw (vJ (j+1)) (JN (e:=B7.wrap ((j:Int)+1)) yk f3) (Mz Z (B8 ?_)))))))
 have iR:=iQ.pk [4,1,0]
 exact JX (bJ,bK,ag,iK,iL,(p++ [(aR.q g.b g.g (O6 F G g.a.a))]),(h++ [g]),j+1) ⟨Z,Z,Z,Z,Z,Z,Z,Z,ZW⟩ (Z7.2 ⟨iR,by exact(jP (es:= [(aR.q g.b g.g (O6 F G g.a.a))]) (ms:= [g]) r Z),Y,Y,Y,Y,by exact Dt Z3 f8 f8 Y,N (K) (N (ZJ (λ q=>fT q n h) P) (N (iN ai) (N (iN Q) (N (iN Z0) (N (iN aL) (ae Z3))))))⟩) (by show X l1 - (j+1) < X l1 - j; omega)
 refine jF (dF eY) (Wp.exit (JV ?_))
 have dS:fT l1 I []=(n,h):=N (K) (N (ZJ (λ q=>fT q n h) (eH (ls:=l1) (i:=j) Y)) Z)
 refine JV (J2 (JK (sr (Mz Z (Mz Z (Az Z (Az Z (An Z (rt (JY (yN Z Z Z Z) ?_))))))))))
 have iT:=av.pf []
 obtain⟨rfl,rfl,rfl⟩:=zt (zj hr (show _=(n,h,0) from N (ae Z5) (N (ip ak) (N (ae Z6) (N (ip aW) (ae dS))))))
 exact⟨L,M,aX,aZ,p,Z,iT,r,i3,i3⟩
 refine jT (dT aW) (sr (Mz Z (Az Z (Az Z (An Z (rt (tR (JY (yN Z Z Z Z) ?_))))))))
 have iU:Own w D bR [row Zv 0 0 (q0 ay.J []) 101 2]:=eF.free (cK 101 2)
 have iV:Own w D bR [sepL (q0 Kc []),row Zv 0 0 (q0 ay.J []) 101 2]:=iU.sepNil
 have iW:Own w D bR [row Zv 0 0 (q0 aR.J []) 70 3,sepL (q0 Kc []),row Zv 0 0 (q0 ay.J []) 101 2]:=iV.free (cK 70 3)
 have iX:=iW.pf [2]
 obtain⟨rfl,rfl,rfl⟩:=zt (zj hr (show _=(([]:List ay),([]:List bZ),au) from N (ae Z5) (N (ip ak) (N (ae Z6) (iN aW)))))
 exact⟨Zv,0,Zv,0, [],Z,iX,Z,i3,i3⟩
 refine jT (dT ak) (sr (Mz Z (Az Z (Az Z (An Z (rt (tR (JY (yN Z Z Z Z) ?_))))))))
 have iY:Own w D bQ [row Zv 0 0 (q0 ay.J []) 101 2]:=ed.free (cK 101 2)
 have iZ:Own w D bQ [sepL (q0 Kc []),row Zv 0 0 (q0 ay.J []) 101 2]:=iY.sepNil
 have ja:Own w D bQ [row Zv 0 0 (q0 aR.J []) 70 3,sepL (q0 Kc []),row Zv 0 0 (q0 ay.J []) 101 2]:=iZ.free (cK 70 3)
 have jb:=ja.pf [2]
 obtain⟨rfl,rfl,rfl⟩:=zt (zj hr (show _=(([]:List ay),([]:List bZ),aj) from N (ae Z5) (iN ak)))
 exact⟨Zv,0,Zv,0, [],Z,jb,Z,i3,i3⟩
end
open List renaming map->r7
open Ll renaming q->O
open _root_.Go.Proofs.Tryz renaming isAgg37->D0,isAgg9->B3,prog->v1,sizeOf37->C7
section
open Go.RowKit
def xQ (c:List ay) (a:aY):(List ay) × bZ:=
 if a.e=1 then bnd (nH c a.f) λ b=>(c,bZ.q b.2 b.1 (O [])) else if a.e=2 then bnd (vR c (ay.q a.f a.g)) λ f=>(f,bZ.q J [] (O [])) else if a.e=3 then bnd (qg a.f) λ g=>bnd (nY c g.1) λ h=>(h,bZ.q J [] (O [])) else if a.e=4 then bnd (nu c (au.q a.a a.b) a.j) λ d=>(c,bZ.q J [] (O d)) else bnd (nY c (au.q a.a a.b)) λ e=>(e,bZ.q J [] (O []))
theorem EQ (w D s n0 t b) (a:aY) (r0) (r1:bZ) (H:Own w D w [row s n0 t (q0 ay.J b) 101 2]) (bA:n0=X b) (dC:X b *32<=211106232532992) (dD:(X b+1) *32<=211106232532992) (hr:xQ b a=(r0,r1)):
    Calls v1 25 #[W s n0 t, Zx (Zc (aY.J a))] w (dM λ v w'=> ∃ B0 b0 F G,v= .tuple #[W B0 (X r0) b0, Zx #[V r1.b, Zz ⟨Zc r1.g⟩, W F (X r1.a.a) G]]/\Own w D w' [row B0 (X r0) b0 (q0 ay.J r0) 101 2,row F (X r1.a.a) G (q0 ay.J r1.a.a) 101 2]/\(X r0<=X b+1)):=by
 unfold xQ at hr
 subst bA
 have dE:=H.rowC (i:=0) Z
 refine cb Tryz.func25 ?_
 refine sr ?_
 refine cu (aY.J a) 68 H ?_
 intro e dG bB
 refine Az Z ?_
 refine cu [V J, Zz ⟨Zc []⟩, W Zv 0 0] 70 bB ?_
 intro dH dI Z3
 refine ns (Kz (vP e 3) (Lz (Zz ⟨Zc a.a⟩) Z3 1 B3 (Kz (vP e 4) (Lz (Zz ⟨Zc a.b⟩) Z3 1 B3 (Kz (Zx #[Zz ⟨Zc a.a⟩, Zz ⟨Zc a.b⟩]) ?_)))))
 refine cu [Zz ⟨Zc []⟩, Zz ⟨Zc []⟩] 37 Z3 ?_
 intro dJ dK bC
 refine cO [Zz ⟨Zc a.a⟩, Zz ⟨Zc a.b⟩] 0 bC C7 ?_
 intro dL c
 refine nt (JG (sr (Kz (vP e 0) (Lz (vI a.e) c 2 Tryz.isAgg3 (nt (bo (sr (Kz (Zb (a.e=1)) (An Z ?_)))))))))
 by_cases h:a.e=1
 refine jT (dT h) (sr (Mz Z (Kz (vP e 1) (Lz (Zz ⟨Zc a.f⟩) c 2 B3 ?_))))
 obtain⟨⟨j,l⟩,I⟩:∃ q:(List UInt8) × Bool,nH b a.f=q:=⟨_,Z⟩
 obtain⟨dN,ak,cZ,av,ax⟩:=JJ c
 refine cl Tryz.call56 (yL _ _ s (X b) t b a.f j l ak (ax _ 3 _ Z bQ) Z Y I) ?_
 rintro _ dO ⟨rfl,az⟩
 have bD:=av _ _ az
 refine Mz Z (Kz (Zz ⟨Zc j⟩) (Kz (V l) (Az Z (An Z (JG ?_)))))
 have bE:=bD.pk [0,1,3]
 refine JI (Mz Z (Mz Z (Mz Z (Kz (Zx #[V l, Zz ⟨Zc j⟩, W Zv 0 0]) (Az Z ?_)))))
 have bF:=bE.pf [1]
 refine cO [V l, Zz ⟨Zc j⟩, W Zv 0 0] 0 bF L7 ?_
 intro bG aA
 refine nt (rt (bR (tR (JY (gH (vs:= [W s (X b) t, Zx #[V l, Zz ⟨Zc j⟩, W Zv 0 0]]) Z (bW.tmp Z (bW.cell Z (JW (cs:= [V l, Zz ⟨Zc j⟩, W Zv 0 0]) M1 L7 ((aA.cls (i:=0) Z).lit (k:=0) (m:=3) Z)) bW.nil)) (M9 Z)) ?_))))
 have bH:Own w D bG (row Zv 0 0 (q0 ay.J []) 101 2::_):=aA.free (cK 101 2)
 have bI:=bH.pk [3,0]
 obtain⟨rfl,rfl⟩:=fK (zj hr zq2)
 exact⟨s,t,Zv,0,Z,bI,Y⟩
 refine jF (dF h) (sr (Kz (Zb (a.e=2)) (An Z ?_)))
 by_cases p:a.e=2
 refine jT (dT p) (sr (Mz Z (Kz (vP e 1) (Lz (Zz ⟨Zc a.f⟩) c 2 B3 (Kz (vP e 2) (Lz (Zz ⟨Zc a.g⟩) c 2 B3 (Kz (Zx #[Zz ⟨Zc a.f⟩, Zz ⟨Zc a.g⟩]) ?_)))))))
 obtain⟨C,Z7⟩:∃ q,vR b (ay.q a.f a.g)=q:=⟨_,Z⟩
 obtain⟨dP,aB,df,aC,aD⟩:=JJ c
 refine cl Tryz.call57 (D8 _ _ s (X b) t b (ay.q a.f a.g) C aB (aD _ 3 _ Z bQ) Z Y Y Z7) ?_
 rintro _ dQ ⟨aF,aG,rfl,aH,K⟩
 have aI:=aC _ _ aH
 have dh:=aI.rowC (i:=0) Z
 replace K:X C<=X b+1:=K
 refine Kz (Zx #[V J, Zz ⟨Zc []⟩, W Zv 0 0]) (Az Z ?_)
 have bJ:=aI.pf [2]
 refine cO [V J, Zz ⟨Zc []⟩, W Zv 0 0] 0 bJ L7 ?_
 intro bK aJ
 refine nt (rt (bR (tR (JY (gH (vs:= [W aF (X C) aG, Zx #[V J, Zz ⟨Zc []⟩, W Zv 0 0]]) Z (bW.tmp Z (bW.cell Z (JW (cs:= [V J, Zz ⟨Zc []⟩, W Zv 0 0]) M1 L7 ((aJ.cls (i:=0) Z).lit (k:=0) (m:=3) Z)) bW.nil)) (M9 Z)) ?_))))
 have bL:Own w D bK (row Zv 0 0 (q0 ay.J []) 101 2::_):=aJ.free (cK 101 2)
 have bM:=bL.pk [2,0]
 obtain⟨rfl,rfl⟩:=fK (zj hr zq3)
 exact⟨aF,aG,Zv,0,Z,bM,Y⟩
 refine jF (dF p) (sr (Kz (Zb (a.e=3)) (An Z ?_)))
 by_cases u:a.e=3
 refine jT (dT u) (sr (Kz (vP e 1) (Lz (Zz ⟨Zc a.f⟩) c 2 B3 ?_)))
 obtain⟨⟨r,aK⟩,L⟩:∃ q:au × Int,qg a.f=q:=⟨_,Z⟩
 obtain⟨dR,aL,di,aM,dm⟩:=JJ c
 refine cl Tryz.call58 (BL _ _ a.f r aK aL L) ?_
 rintro _ dS ⟨rfl,aN⟩
 have bO:=aM _ _ aN
 refine Mz Z (Kz (Zx (Zc (au.J r))) (Kz (vI aK) ?_))
 refine cu [Zz ⟨Zc []⟩, Zz ⟨Zc []⟩] 37 bO ?_
 intro dU dV bP
 refine cO (au.J r) 0 bP C7 ?_
 intro dW bS
 refine An Z (JG ?_)
 have aO:=bS.px [] [3] []
 refine JI (Mz Z (La (au.J r) aO 0 D0 C7 ?_))
 obtain⟨E,M⟩:∃ q,nY b r=q:=⟨_,Z⟩
 obtain⟨dX,aP,dn,aQ,aR⟩:=JJ aO
 refine cl Tryz.call59 (vQ _ _ s (X b) t b r E aP (aR _ 3 _ Z bQ) Z Y M) ?_
 rintro _ dY ⟨aS,aT,rfl,aU,x⟩
 have aV:=aQ _ _ aU
 have bT:=aV.rowC (i:=0) Z
 replace x:X E<=X b:=x
 refine Kz (Zx #[V J, Zz ⟨Zc []⟩, W Zv 0 0]) (Az Z ?_)
 have aW:=aV.pf [3]
 refine cO [V J, Zz ⟨Zc []⟩, W Zv 0 0] 0 aW L7 ?_
 intro aX Z5
 refine nt (rt (bR (tR (JY (gH (vs:= [W aS (X E) aT, Zx #[V J, Zz ⟨Zc []⟩, W Zv 0 0]]) Z (bW.tmp Z (bW.cell Z (JW (cs:= [V J, Zz ⟨Zc []⟩, W Zv 0 0]) M1 L7 ((Z5.cls (i:=0) Z).lit (k:=0) (m:=3) Z)) bW.nil)) (M9 Z)) ?_))))
 have aZ:Own w D aX (row Zv 0 0 (q0 ay.J []) 101 2::_):=Z5.free (cK 101 2)
 have bf:=aZ.pk [2,0]
 obtain⟨rfl,rfl⟩:=fK (zj hr zq5)
 exact⟨aS,aT,Zv,0,Z,bf,Y⟩
 refine jF (dF u) (sr (Kz (Zb (a.e=4)) (An Z ?_)))
 by_cases n:a.e=4
 refine jT (dT n) (sr (Mz Z (Mz Z (La ([Zz ⟨Zc a.a⟩, Zz ⟨Zc a.b⟩]) c 0 D0 C7 (Kz (vP e 5) (Lz (vI a.j) c 2 Tryz.isAgg3 ?_))))))
 obtain⟨d,y⟩:∃ q,nu b (au.q a.a a.b) a.j=q:=⟨_,Z⟩
 obtain⟨dw,Z9,bU,Z1,Z2⟩:=JJ c
 refine cl Tryz.call60 (xc _ _ s (X b) t b (au.q a.a a.b) a.j d Z9 (Z2 _ 3 _ Z bQ) Z Y y) ?_
 rintro _ dx ⟨f,g,rfl,Z0,z⟩
 have Z6:=Z1 _ _ Z0
 have bV:=Z6.rowC (i:=0) Z
 replace z:X d<=X b:=z
 refine Kz (Zx #[V J, Zz ⟨Zc []⟩, W f (X d) g]) (Az Z ?_)
 have bg:=Z6.pf [2]
 refine cO [V J, Zz ⟨Zc []⟩, W f (X d) g] 0 bg L7 ?_
 intro dz P
 refine nt (rt (bR (tR (JY (gH (vs:= [W s (X b) t, Zx #[V J, Zz ⟨Zc []⟩, W f (X d) g]]) Z (bW.tmp Z (bW.cell Z (JW (cs:= [V J, Zz ⟨Zc []⟩, W f (X d) g]) M1 L7 ((P.cls (i:=0) Z).lit (k:=0) (m:=3) Z)) bW.nil)) (M9 Z)) ?_))))
 have bi:=P.pk [4,1]
 obtain⟨rfl,rfl⟩:=fK (zj hr zq5)
 exact⟨s,t,f,g,Z,bi,Y⟩
 refine jF (dF n) (J8 (bN (JK (JG ?_))))
 have Q:=c.pk [0,1,3]
 refine JI (Mz Z (La ([Zz ⟨Zc a.a⟩, Zz ⟨Zc a.b⟩]) Q 0 D0 C7 ?_))
 obtain⟨o,A⟩:∃ q,nY b (au.q a.a a.b)=q:=⟨_,Z⟩
 obtain⟨dA,aa,bX,af,ag⟩:=JJ Q
 refine cl Tryz.call59 (vQ _ _ s (X b) t b (au.q a.a a.b) o aa (ag _ 2 _ Z bQ) Z Y A) ?_
 rintro _ dB ⟨R,S,rfl,ah,B⟩
 have Z8:=af _ _ ah
 have bY:=Z8.rowC (i:=0) Z
 replace B:X o<=X b:=B
 refine Kz (Zx #[V J, Zz ⟨Zc []⟩, W Zv 0 0]) (Az Z ?_)
 have bn:=Z8.pf [2]
 refine cO [V J, Zz ⟨Zc []⟩, W Zv 0 0] 0 bn L7 ?_
 intro bq Z4
 refine nt (rt (JY (gH (vs:= [W R (X o) S, Zx #[V J, Zz ⟨Zc []⟩, W Zv 0 0]]) Z (bW.tmp Z (bW.cell Z (JW (cs:= [V J, Zz ⟨Zc []⟩, W Zv 0 0]) M1 L7 ((Z4.cls (i:=0) Z).lit (k:=0) (m:=3) Z)) bW.nil)) (M9 Z)) ?_))
 have bu:Own w D bq (row Zv 0 0 (q0 ay.J []) 101 2::_):=Z4.free (cK 101 2)
 have bv:=bu.pk [2,0]
 obtain⟨rfl,rfl⟩:=fK (zj hr zq5)
 exact⟨R,S,Zv,0,Z,bv,Y⟩
def jX:List aY->List ay->List bZ->(List ay) × (List bZ)
  | [],b,c=>(b,c)
  | d::e,b,c=>bnd (xQ b d) λ a=>jX e a.1 (c++ [a.2])
def ko (c:List ay) (l1:List aY):(List ay) × (List bZ) × Int:=
 bnd (lU c) λ a=>if a=0 then bnd (vO l1) λ b=>if b=0 then bnd (jX l1 c []) λ sLrbtbtL=>(sLrbtbtL.1,sLrbtbtL.2,0) else(([]:List ay),([]:List bZ),b) else(([]:List ay),([]:List bZ),a)
theorem xR (w D A0 n0 c0 j S n1 c1 l1 Z2 Z0 r2) (H:Own w D w []) (aa:Ro w D λ w'=>bP w' 2 A0 n0 (q0 ay.J j)) (bD:n0=X j) (dD:X j *32<=211106232532992) (F:Ro w D λ w'=>bP w' 6 S n1 (q0 aY.J l1)) (bE:n1=X l1) (dE:X l1 *80<=211106232532992) (dG:(X j+X l1) *32<=211106232532992) (hr:ko j l1=(Z2,Z0,r2)):
    Calls v1 10 #[W A0 n0 c0, W S n1 c1] w (dM λ v w'=> ∃ B0 b0 B1 b1 e1,v= .tuple #[W B0 (X Z2) b0, W B1 (X Z0) b1,vI r2]/\Own w D w' [row B0 (X Z2) b0 (q0 ay.J Z2) 101 2,row B1 (X Z0) b1 (q0 aR.J e1) 70 3,sepL (q0 Kc e1)]/\(r7 aR.abs e1=Z0)/\(X Z2<=X j+X l1)/\(X Z0<=X l1)):=by
 subst bD bE
 refine cb Tryz.func10 ?_
 refine sr (Az Z (Az Z (An Z (JG (sr (Mz Z ?_))))))
 obtain⟨r,n⟩:∃ q,lU j=q:=⟨_,Z⟩
 obtain⟨dH,af,ag,ah,bX⟩:=JJ H
 refine cl Tryz.call14 (uW _ _ A0 (X j) c0 j r af (ag _ aa) Z Y n) ?_
 rintro _ Z8 ⟨rfl,ai⟩
 have aj:=ah _ _ ai
 refine Ar Z (Mz Z (fw (Zb (¬ (r=0))) (JZ (e:= !(Zy (r=0))) yk ZY) (nt ?_)))
 by_cases t:r=0
 refine jF (dF (Nc t)) (sk (JG (sr (Mz Z ?_))))
 obtain⟨u,x⟩:∃ q,vO l1=q:=⟨_,Z⟩
 obtain⟨dI,ak,au,av,bY⟩:=JJ aj
 refine cl Tryz.call24 (D7 _ _ S (X l1) c1 l1 u ak (au _ F) Z Y x) ?_
 rintro _ G ⟨rfl,ax⟩
 have az:=av _ _ ax
 refine Ar Z (Mz Z (fw (Zb (¬ (u=0))) (JZ (e:= !(Zy (u=0))) yk ZY) (nt ?_)))
 by_cases I:u=0
 refine jF (dF (Nc I)) (sk (sr (Mz Z ?_)))
 have aA:Own w D G [row Zv 0 0 (q0 ay.J []) 101 2]:=az.free (cK 101 2)
 refine WL.do Z (J7 (k:=0) (m:=X j) (iW) aA Z Z (fq Tryz.underlying25 (aA.ro aa) (di ay.one j)) Z Y (s:=X j) Y Z ?_)
 intro Z4 Z3 aB bG
 refine Ar Z (An Z (JG (sr (Mz Z (Kz (vJ (X l1)) (Mn Z (bo ?_)))))))
 have bH:Own w D aB [sepL (q0 Kc []),row Z4 (X j) Z3 (q0 ay.J j) 101 2]:=bG.sepNil
 have bI:Own w D aB [row Zv 0 0 (q0 aR.J []) 70 3,sepL (q0 Kc []),row Z4 (X j) Z3 (q0 ay.J j) 101 2]:=bH.free (cK 70 3)
 have bJ:=bI.pf [2]
 obtain⟨bK,z⟩:=Jh λ A (B:Nat) d Z7 (K:Nat) l c (b:Nat) w'=>Own w D w' [row A (X d) B (q0 ay.J d) 101 2,row Z7 (X c) K (q0 aR.J l) 70 3,sepL (q0 Kc l)]/\r7 aR.abs l=c/\b<=X l1/\X d<=X j+b/\X c=b/\X c<=b/\jX l1 j []=jX (r6 b l1) d c
 refine Wp.loop (λ i:(Option Addr) × Nat × (List ay) × (Option Addr) × Nat × (List aR) × (List bZ) × Nat=> [(0, W i.1 (X i.2.2.1) i.2.1),(9, W i.2.2.2.1 (X i.2.2.2.2.2.2.1) i.2.2.2.2.1),(28,vJ i.2.2.2.2.2.2.2),(27,vJ (X l1)),(26, W S (X l1) c1),(6,vI 0),(5, W Zv 0 0),(4, W Zv 0 0)]) bK (λ i=>X l1 - i.2.2.2.2.2.2.2) (Z4,Z3,j,Zv,0, [], [],0) ⟨Z,Z,Z,Z,Z,Z,Z,Z,ZW⟩ (z.2 ⟨bJ,(show r7 aR.abs []=[]/\0<=X l1/\X j<=X j/\0=0/\0<=0/\jX l1 j []=jX (r6 0 l1) j [] from ⟨by exact Z,Y,Y,Y,Y,Z⟩)⟩) ?_
 rintro ⟨A,B,d,Z7,K,l,c,b⟩ dK aC
 show Wp _ _ _ [(0, W A (X d) B),(9, W Z7 (X c) K),(28,vJ b),(27,vJ (X l1)),(26, W S (X l1) c1),(6,vI 0),(5, W Zv 0 0),(4, W Zv 0 0)] _ _
 obtain⟨C,o,cz,cB,cZ,df,M⟩:=z.1 aC
 have dh:=bg o
 refine sr (Kz (Zb ((b:Int) < (X l1:Int))) (nt (JG ?_)))
 by_cases aD:(b:Int) < (X l1:Int)
 obtain⟨p,Z5⟩:=dJ (ls:=l1) (i:=b) aY.len f6 (C.ro F) f4
 have aF:=drop_at Z5
 refine jT (dT aD) (sk (JG (bo (sr (fw (Zq (Zw ⟨ab S,ao S+b *6,Zv⟩)) (JU (oD) Z Z ((C.ro F).addr (i:=b) Y) Y) (fw (Zx (Zc (aY.J p))) (JS Z (JW (cs:=(aY.J p)) Tryz.isAgg68 C5 ((C.ro F).elem aY.len Z5 f6))) ?_))))))
 refine cu [vI 0, Zz ⟨Zc []⟩, Zz ⟨Zc []⟩, Zz ⟨Zc []⟩, Zz ⟨Zc []⟩,vI 0] 68 C ?_
 intro dL dN bL
 refine cO (aY.J p) 0 bL C5 ?_
 intro dO aG
 refine ns (Mz Z (La (aY.J p) aG 0 Tryz.isAgg68 C5 ?_))
 have bM:=aG.pf [1]
 obtain⟨⟨L,a⟩,Z6⟩:∃ q:(List ay) × bZ,xQ d p=q:=⟨_,Z⟩
 obtain⟨dP,aH,dm,aI,dn⟩:=Kb bM
 refine cl Tryz.call25 (EQ _ _ A (X d) B d p L a aH Z Y Y Z6) ?_
 rintro _ dQ ⟨aJ,aK,g,h,rfl,aL,P⟩
 have Z9:=aI _ _ aL
 have dw:=Z9.rowC (i:=0) Z
 have dx:=Z9.rowC (i:=1) Z
 replace P:X L<=X d+1:=P
 refine Mz Z (Kz (W aJ (X L) aK) (Kz (Zx #[V a.b, Zz ⟨Zc a.g⟩, W g (X a.a.a) h]) ?_))
 refine cu [V J, Zz ⟨Zc []⟩, W Zv 0 0] 70 Z9 ?_
 intro dz dA aM
 refine Az Z ?_
 refine cO [V a.b, Zz ⟨Zc a.g⟩, W g (X a.a.a) h] 0 aM L7 ?_
 intro dB Q
 refine ns (Mz Z (An Z (JI (Mz Z (La ([V a.b, Zz ⟨Zc a.g⟩, W g (X a.a.a) h]) Q 0 M1 L7 ?_)))))
 refine jW [V a.b, Zz ⟨Zc a.g⟩, W g (X a.a.a) h] 70 3 1 Q ?_
 intro aN dC E
 replace E:=Ke (y:=row aN 1 1 (q0 aR.J ([(aR.q a.b a.g (O6 g h a.a.a))])) 70 3) Z E
 have R:=E.pf [5,6,3]
 refine WL.do Z (J7 (k:=X c) (m:=1) (qF) R Z Z (fq Tryz.underlying45 (R.rds (i:=3) Z) (di aR.one ([(aR.q a.b a.g (O6 g h a.a.a))]))) Z Y (s:=X (c++ [a])) f7 (u0).symm ?_)
 intro aO aP aQ aS
 have aT:=aS.pf [1,2]
 have aU:Own w D aQ (sepL (q0 Kc (l++ [(aR.q a.b a.g (O6 g h a.a.a))]))::_):=aT.sepAdd (L2:= [row g (X a.a.a) h (q0 ay.J a.a.a) 101 2]) (u0 (f:=Kc) (xs:=l) (ys:= [(aR.q a.b a.g (O6 g h a.a.a))])).symm
 have bO:X (c++ [a])=X c+1:=by simp only [List.length_append,List.length_cons,List.length_nil]
 have bQ:=bg (jP (es:= [(aR.q a.b a.g (O6 g h a.a.a))]) (ms:= [a]) o Z)
 refine Az Z (WL.nil (bN (JK (JI (fw (vJ (b+1)) (JN (e:=IntKind.i64.wrap ((b:Int)+1)) yk f3) (Mz Z (WL.nil ?_)))))))
 have aV:=aU.pk [4,1,0]
 exact JX (aJ,aK,L,aO,aP,(l++ [(aR.q a.b a.g (O6 g h a.a.a))]),(c++ [a]),b+1) ⟨Z,Z,Z,Z,Z,Z,Z,Z,ZW⟩ (z.2 ⟨aV,by exact(jP (es:= [(aR.q a.b a.g (O6 g h a.a.a))]) (ms:= [a]) o Z),Y,Y,Y,Y,N (M) (N (ZJ (λ q=>jX q d c) aF) (ae Z6))⟩) (by show X l1 - (b+1) < X l1 - b; omega)
 refine jF (dF aD) (Wp.exit (JV ?_))
 have Z1:jX l1 j []=(d,c):=N (M) (N (ZJ (λ q=>jX q d c) (eH (ls:=l1) (i:=b) Y)) Z)
 refine JV (J2 (JK (sr (Mz Z (Mz Z (Az Z (Az Z (An Z (rt (JY (yN Z Z Z Z) ?_))))))))))
 have aW:=C.pf []
 obtain⟨rfl,rfl,rfl⟩:=zt (zj hr (show _=(d,c,0) from N (ae n) (N (ip t) (N (ae x) (N (ip I) (ae Z1))))))
 exact⟨A,B,Z7,K,l,Z,aW,o,i3,i3⟩
 refine jT (dT I) (sr (Mz Z (Az Z (Az Z (An Z (rt (tR (JY (yN Z Z Z Z) ?_))))))))
 have aX:Own w D G [row Zv 0 0 (q0 ay.J []) 101 2]:=az.free (cK 101 2)
 have aZ:Own w D G [sepL (q0 Kc []),row Zv 0 0 (q0 ay.J []) 101 2]:=aX.sepNil
 have bf:Own w D G [row Zv 0 0 (q0 aR.J []) 70 3,sepL (q0 Kc []),row Zv 0 0 (q0 ay.J []) 101 2]:=aZ.free (cK 70 3)
 have bi:=bf.pf [2]
 obtain⟨rfl,rfl,rfl⟩:=zt (zj hr (show _=(([]:List ay),([]:List bZ),u) from N (ae n) (N (ip t) (N (ae x) (iN I)))))
 exact⟨Zv,0,Zv,0, [],Z,bi,Z,i3,i3⟩
 refine jT (dT t) (sr (Mz Z (Az Z (Az Z (An Z (rt (tR (JY (yN Z Z Z Z) ?_))))))))
 have bn:Own w D Z8 [row Zv 0 0 (q0 ay.J []) 101 2]:=aj.free (cK 101 2)
 have bq:Own w D Z8 [sepL (q0 Kc []),row Zv 0 0 (q0 ay.J []) 101 2]:=bn.sepNil
 have bu:Own w D Z8 [row Zv 0 0 (q0 aR.J []) 70 3,sepL (q0 Kc []),row Zv 0 0 (q0 ay.J []) 101 2]:=bq.free (cK 70 3)
 have bv:=bu.pf [2]
 obtain⟨rfl,rfl,rfl⟩:=zt (zj hr (show _=(([]:List ay),([]:List bZ),r) from N (ae n) (iN t)))
 exact⟨Zv,0,Zv,0, [],Z,bv,Z,i3,i3⟩
def iw (l1:List bZ):List bZ->Nat->Unit ⊕ Bool
  | [],b=>Sum.inl ()
  | c::e,b=>bnd (List.getD l1 b ZZ) λ a=>if c.b=a.b then if c.g≠a.g then Sum.inr (J) else bnd (qU c.a.a a.a.a) λ d=>if d=Zk then iw l1 e (b+1) else Sum.inr (J) else Sum.inr (J)
def nT (a:List bZ) (l1:List bZ):Bool:=
 if((X a:Nat):Int)=((X l1:Nat):Int) then lp (iw l1 a 0) λ _=>Zk else J
theorem xS (w D n Z2 K d0 h o Z0 L Z1 l1 r0) (H:Own w D w []) (M:r7 aR.abs d0=h) (r:Ro w D λ w'=>bP w' 3 n Z2 (q0 aR.J d0)) (Z5:∀ x ∈ d0,Ro w D (λ w'=>bP w' 2 x.a.A (X x.a.a) (q0 ay.J x.a.a))/\(X x.a.a<=x.a.c/\X x.a.a<=9223372036854775807)) (aa:Z2=X h) (aH:X h *48<=211106232532992) (Z6:r7 aR.abs Z1=l1) (y:Ro w D λ w'=>bP w' 3 o Z0 (q0 aR.J Z1)) (P:∀ x ∈ Z1,Ro w D (λ w'=>bP w' 2 x.a.A (X x.a.a) (q0 ay.J x.a.a))/\(X x.a.a<=x.a.c/\X x.a.a<=9223372036854775807)) (af:Z0=X l1) (aI:X l1 *48<=211106232532992) (hr:nT h l1=r0):
    Calls v1 15 #[W n Z2 K, W o Z0 L] w (dM λ v w'=>v= V r0/\Own w D w' []):=by
 unfold nT at hr
 subst aa af
 have aA:=bg M
 have aB:=bg Z6
 refine cb Tryz.func15 ?_
 refine sr (An Z (JG (sr (Mz Z (Kz (vJ (X h)) (Mz Z (Kz (vJ (X l1)) (fw (Zb (¬ ((X h:Int)=(X l1:Int)))) (JZ (e:= !(Zy ((X h:Int)=(X l1:Int)))) yk ZY) (nt ?_)))))))))
 by_cases s:(X h:Int)=(X l1:Int)
 refine jF (dF (Nc s)) (sk (JG (sr (Mz Z (Kz (vJ (X h)) (Mn Z (bo ?_)))))))
 have ag:=H.pk []
 obtain⟨ah,z⟩:=mE λ (a:Nat) w'=>Own w D w' []/\a<=X h/\iw l1 h 0=iw l1 (r6 a h) a
 refine Wp.loop (λ i:Nat=> [(4, V J),(13,vJ i),(12,vJ (X h)),(0, W n (X h) K),(1, W o (X l1) L)]) ah (λ i=>X h - i) 0 ⟨Z,Z,Z,Z,Z,ZW⟩ (z.2 ⟨ag,Y,Z⟩) ?_
 rintro a aJ Q
 show Wp _ _ _ [(4, V J),(13,vJ a),(12,vJ (X h)),(0, W n (X h) K),(1, W o (X l1) L)] _ _
 obtain⟨G,aC,p⟩:=z.1 Q
 refine sr (Kz (Zb ((a:Int) < (X h:Int))) (nt (JG ?_)))
 by_cases R:(a:Int) < (X h:Int)
 obtain⟨f,l⟩:=dJ (ls:=d0) (i:=a) aR.len f6 (G.ro r) f4
 have S:=gq M l
 have aD:=(Z5 _ (E1 l)).2
 have t:=drop_at S
 refine jT (dT R) (sk (JG (bo (sr (Mz Z (An Z (JG ?_)))))))
 refine AQ [] (JP (bI.block (JP (JP (bI.block (JP J3)))))) G ?_
 intro aK I
 refine qv 0 Z Z (qv 1 Z Z (qt (v:= Zq (Zw ⟨ab n,ao n+a *3,Zv⟩)) 2 Z (λ _ ⟨_,j⟩=>JU (qF) Z Z ((j.ro r).addr (i:=a) Y) Y) (qk (Zq (Zw ⟨ab n,ao n+a *3,Zv⟩)) 3 Z (qt (v:= V f.b) 4 Z (λ _ ⟨_,j⟩=>JS Z (bT.one Tryz.isAgg4 (((j.ro r).elem aR.len l f6).at_ (k:=0) Z))) (qv 5 Z Z (qv 6 Z Z ?_))))))
 obtain⟨g,m⟩:=mI (ls:=Z1) (i:=a) f4
 have u:=gq Z6 m
 have aF:=(P _ (E1 m)).2
 refine qt (v:= Zq (Zw ⟨ab o,ao o+a *3,Zv⟩)) 7 Z (λ _ ⟨_,j⟩=>JU (qF) Z Z ((j.ro y).addr (i:=a) Y) Y) (qk (Zq (Zw ⟨ab o,ao o+a *3,Zv⟩)) 8 Z (qt (v:= V g.b) 9 Z (λ _ ⟨_,j⟩=>JS Z (bT.one Tryz.isAgg4 (((j.ro y).elem aR.len m f6).at_ (k:=0) Z))) (qt (v:= Zb (¬ (f.b=g.b))) 10 Z (λ _ _=>JZ (e:= !(f.b==g.b)) yk (by first | (rw [Bool.beq_eq_decide_eq]; exact ZY) | (by_cases q:f.b=g.b <;> simp [q]))) (qv 11 Z Z ?_))))
 by_cases d:f.b=g.b
 refine JQ (v:= W n (X h) K) (rs:= []) 12 Z Z Z (dF (Nc d)) f1 (λ _ _=>JM Z) (JQ (v:=vJ a) (rs:= []) 13 Z Z Z (dF (Nc d)) f1 (λ _ _=>JM Z) (JQ (v:= Zq (Zw ⟨ab n,ao n+a *3,Zv⟩)) (rs:= []) 14 Z Z Z (dF (Nc d)) f1 (λ _ ⟨_,j⟩=>JU (qF) Z Z ((j.ro r).addr (i:=a) Y) Y) (JQ (v:= Zq (Zw ⟨ab n,ao n+a *3+1,Zv⟩)) (rs:= []) 15 Z Z Z (dF (Nc d)) f1 (λ _ _=>yk) (JQ (v:= Zz ⟨Zc f.g⟩) (rs:= []) 16 Z Z Z (dF (Nc d)) f1 (λ _ ⟨_,j⟩=>JS Z (bT.one B3 (((j.ro r).elem aR.len l f6).at_ (k:=1) Z))) (JQ (v:= W o (X l1) L) (rs:= []) 17 Z Z Z (dF (Nc d)) f1 (λ _ _=>JM Z) (JQ (v:=vJ a) (rs:= []) 18 Z Z Z (dF (Nc d)) f1 (λ _ _=>JM Z) (JQ (v:= Zq (Zw ⟨ab o,ao o+a *3,Zv⟩)) (rs:= []) 19 Z Z Z (dF (Nc d)) f1 (λ _ ⟨_,j⟩=>JU (qF) Z Z ((j.ro y).addr (i:=a) Y) Y) (JQ (v:= Zq (Zw ⟨ab o,ao o+a *3+1,Zv⟩)) (rs:= []) 20 Z Z Z (dF (Nc d)) f1 (λ _ _=>yk) (JQ (v:= Zz ⟨Zc g.g⟩) (rs:= []) 21 Z Z Z (dF (Nc d)) f1 (λ _ ⟨_,j⟩=>JS Z (bT.one B3 (((j.ro y).elem aR.len m f6).at_ (k:=1) Z))) (JQ (v:= Zb (f.g≠g.g)) (rs:= []) 22 Z Z Z (dF (Nc d)) f1 (λ _ _=>Km Z Z) (qt (v:= Zb (f.g≠g.g)) 23 Z (λ _ _=>JH Z (dF (Nc d)) Z) (qv 24 Z Z ?_))))))))))))
 by_cases b:f.g≠g.g
 refine JO (rs:= []) 25 Z Z Z (dT b) f1 (JO (rs:= []) 26 Z Z Z (dT b) f1 (JO (rs:= []) 27 Z Z Z (dT b) f1 (JO (rs:= []) 28 Z Z Z (dT b) f1 (JO (rs:= []) 29 Z Z Z (dT b) f1 (JO (rs:= []) 30 Z Z Z (dT b) f1 (JO (rs:= []) 31 Z Z Z (dT b) f1 (JO (rs:= []) 32 Z Z Z (dT b) f1 (JO (rs:= []) 33 Z Z Z (dT b) f1 (JO (rs:= []) 34 Z Z Z (dT b) f1 (JO (rs:= []) 35 Z Z Z (dT b) f1 (JO (rs:= []) 36 Z Z Z (dT b) f1 (qt (v:= V Zk) 37 Z (λ _ _=>JL Z (dT b) Z) (qn (JK (jt (sr (An Z (rt (bR (tR (tR (bR (tR (rs ?_))))))))))))))))))))))))
 have ai:=I.pk []
 obtain rfl:_=J:=zj hr (N (ip s) (iJ (N (p) (N (ZJ (λ q=>iw l1 q a) t) (N (ae (bu u)) (N (ip d) (ip b)))))))
 exact⟨Z,ai⟩
 refine JQ (v:= W n (X h) K) (rs:= []) 25 Z Z Z (dF b) f1 (λ _ _=>JM Z) (JQ (v:=vJ a) (rs:= []) 26 Z Z Z (dF b) f1 (λ _ _=>JM Z) (JQ (v:= Zq (Zw ⟨ab n,ao n+a *3,Zv⟩)) (rs:= []) 27 Z Z Z (dF b) f1 (λ _ ⟨_,j⟩=>JU (qF) Z Z ((j.ro r).addr (i:=a) Y) Y) (JQ (v:= Zq (Zw ⟨ab n,ao n+a *3+2,Zv⟩)) (rs:= []) 28 Z Z Z (dF b) f1 (λ _ _=>yk) (JQ (v:= W f.a.A (X f.a.a) f.a.c) (rs:= []) 29 Z Z Z (dF b) f1 (λ _ ⟨_,j⟩=>JS Z (bT.one Tryz.isAgg25 (((j.ro r).elem aR.len l f6).at_ (k:=2) Z))) (JQ (v:= W o (X l1) L) (rs:= []) 30 Z Z Z (dF b) f1 (λ _ _=>JM Z) (JQ (v:=vJ a) (rs:= []) 31 Z Z Z (dF b) f1 (λ _ _=>JM Z) (JQ (v:= Zq (Zw ⟨ab o,ao o+a *3,Zv⟩)) (rs:= []) 32 Z Z Z (dF b) f1 (λ _ ⟨_,j⟩=>JU (qF) Z Z ((j.ro y).addr (i:=a) Y) Y) (JQ (v:= Zq (Zw ⟨ab o,ao o+a *3+2,Zv⟩)) (rs:= []) 33 Z Z Z (dF b) f1 (λ _ _=>yk) (JQ (v:= W g.a.A (X g.a.a) g.a.c) (rs:= []) 34 Z Z Z (dF b) f1 (λ _ ⟨_,j⟩=>JS Z (bT.one Tryz.isAgg25 (((j.ro y).elem aR.len m f6).at_ (k:=2) Z))) ?_)))))))))
 obtain⟨E,B⟩:∃ q,qU f.a.a g.a.a=q:=⟨_,Z⟩
 obtain⟨aL,Z8,F,Z4,aG⟩:=JJ I
 refine Ky 35 Z Z Z (dF b) f1 (J6 Tryz.call27 Z (Ao _ _ f.a.A (X f.a.a) f.a.c f.a.a g.a.A (X g.a.a) g.a.c g.a.a E Z8 (F _ (Z5 _ (E1 l)).1) Z Y (F _ (P _ (E1 m)).1) Z Y B) ?_)
 rintro _ aM ⟨rfl,Z3⟩
 have Z7:=Z4 _ _ Z3
 refine⟨.inr ⟨_,Z7⟩, ?_⟩
 refine JQ (v:= V (!E)) (rs:= []) 36 Z Z Z (dF b) f1 (λ _ _=>yk) (qt (v:= V (!E)) 37 Z (λ _ _=>JH Z (dF b) Z) (qn (JK ?_)))
 rcases Nf (E) with C | C
 refine jF (cn C) (J8 (bN (JK (JI (fw (vJ (a+1)) (JN (e:=IntKind.i64.wrap ((a:Int)+1)) yk f3) (Mz Z (WL.nil ?_)))))))
 have aj:=Z7.pk []
 exact JX (a+1) ⟨Z,Z,Z,Z,Z,ZW⟩ (z.2 ⟨aj,Y,N (p) (N (ZJ (λ q=>iw l1 q a) t) (N (ae (bu u)) (N (ip d) (N (iN b) (N (ae B) (ip C))))))⟩) (by show X h - (a+1) < X h - a; omega)
 refine jT (cn C) (sr (An Z (rt (bR (tR (tR (bR (tR (rs ?_)))))))))
 have ak:=Z7.pk []
 obtain rfl:_=J:=zj hr (N (ip s) (iJ (N (p) (N (ZJ (λ q=>iw l1 q a) t) (N (ae (bu u)) (N (ip d) (N (iN b) (N (ae B) (eP C)))))))))
 exact⟨Z,ak⟩
 refine JO (rs:= []) 12 Z Z Z (dT d) f1 (JO (rs:= []) 13 Z Z Z (dT d) f1 (JO (rs:= []) 14 Z Z Z (dT d) f1 (JO (rs:= []) 15 Z Z Z (dT d) f1 (JO (rs:= []) 16 Z Z Z (dT d) f1 (JO (rs:= []) 17 Z Z Z (dT d) f1 (JO (rs:= []) 18 Z Z Z (dT d) f1 (JO (rs:= []) 19 Z Z Z (dT d) f1 (JO (rs:= []) 20 Z Z Z (dT d) f1 (JO (rs:= []) 21 Z Z Z (dT d) f1 (JO (rs:= []) 22 Z Z Z (dT d) f1 (qt (v:= V Zk) 23 Z (λ _ _=>JL Z (dT d) Z) (qv 24 Z Z (JO (rs:= []) 25 Z Z Z Z f1 (JO (rs:= []) 26 Z Z Z Z f1 (JO (rs:= []) 27 Z Z Z Z f1 (JO (rs:= []) 28 Z Z Z Z f1 (JO (rs:= []) 29 Z Z Z Z f1 (JO (rs:= []) 30 Z Z Z Z f1 (JO (rs:= []) 31 Z Z Z Z f1 (JO (rs:= []) 32 Z Z Z Z f1 (JO (rs:= []) 33 Z Z Z Z f1 (JO (rs:= []) 34 Z Z Z Z f1 (JO (rs:= []) 35 Z Z Z Z f1 (JO (rs:= []) 36 Z Z Z Z f1 (qt (v:= V Zk) 37 Z (λ _ _=>JL Z Z Z) (qn (JK (jt (sr (An Z (rt (bR (tR (tR (bR (tR ?_))))))))))))))))))))))))))))))))))))
 refine rs ?_
 have au:=I.pk []
 obtain rfl:_=J:=zj hr (N (ip s) (iJ (N (p) (N (ZJ (λ q=>iw l1 q a) t) (N (ae (bu u)) (iN d))))))
 exact⟨Z,au⟩
 refine jF (dF R) (Wp.exit (JV ?_))
 have Z9:iw l1 h 0=Sum.inl ():=N (p) (N (ZJ (λ q=>iw l1 q a) (eH (ls:=h) (i:=a) Y)) Z)
 refine JV (J2 (JK (sr (An Z (rt (rs ?_))))))
 have av:=G.pk []
 obtain rfl:_=Zk:=zj hr (N (ip s) (lD Z9))
 exact⟨Z,av⟩
 refine jT (dT s) (sr (An Z (rt (tR (rs ?_)))))
 have ax:=H.pk []
 obtain rfl:=zj hr zq1
 exact⟨Z,ax⟩
end
end Go.Proofs.YtndamapfnpihpaaGreat
namespace Go.Proofs
set_option maxRecDepth 100000
set_option linter.unusedVariables false
set_option linter.unusedSimpArgs false
set_option linter.unusedSectionVars false
open _root_.Go renaming World->ZQ,Value->ZX
open Value renaming bool->V,slice->W,string->Zz,pointer->Zq,agg->Zx,nilFunc->Zj
open Bool renaming true->Zk,false->J
open Option renaming none->Zv,some->Zw
open Decidable renaming decide->Zy
open Inhabited renaming default->ZZ
open List renaming length->X,toArray->Zc
section
open Go.RowKit Go.Maps Go.Sort Go.Shelf
def Ls:Go.Shelf.Ren:=⟨λ | 125=>172 | 128=>212 | 129=>213 | n=>n,λ | 46=>200 | 3=>3 | 51=>278 | 53=>32 | 4=>4 | 5=>5 | 9=>9 | n=>n,λ | n=>n⟩
theorem LD:Go.Proofs.Lays.n125 Tryz.prog Ls:= {
  mixed:=by kernel_rfl
  f125:=Tryz.func172.trans (ZJ Zw (by kernel_rfl))
  f128:=Tryz.func212.trans (ZJ Zw (by kernel_rfl))
  f129:=Tryz.func213.trans (ZJ Zw (by kernel_rfl))
  t3:=Tryz.underlying3
  a3:=Tryz.isAgg3
  z3:=Tryz.sizeOf3
  v3:=Tryz.zeroValue3
  t4:=Tryz.underlying4
  a4:=Tryz.isAgg4
  z4:=Tryz.sizeOf4
  v4:=Tryz.zeroValue4
  t5:=Tryz.underlying5
  a5:=Tryz.isAgg5
  z5:=Tryz.sizeOf5
  v5:=Tryz.zeroValue5
  t9:=Tryz.underlying9
  a9:=Tryz.isAgg9
  z9:=Tryz.sizeOf9
  v9:=Tryz.zeroValue9
  t46:=Tryz.underlying200
  a46:=Tryz.isAgg200
  z46:=Tryz.sizeOf200
  v46:=Tryz.zeroValue200
  t51:=Tryz.underlying278
  a51:=Tryz.isAgg278
  z51:=Tryz.sizeOf278
  v51:=Tryz.zeroValue278
  t53:=Tryz.underlying32
  a53:=Tryz.isAgg32
  z53:=Tryz.sizeOf32
  v53:=Tryz.zeroValue32 }
end
end Go.Proofs
namespace Go.Proofs.YtndamapfnpihpaaGreat
set_option maxRecDepth 100000
set_option linter.unusedVariables false
set_option linter.unusedSimpArgs false
set_option linter.unusedSectionVars false
open _root_.Go renaming World->ZQ,Value->ZX
open Value renaming bool->V,slice->W,string->Zz,pointer->Zq,agg->Zx,nilFunc->Zj
open Bool renaming true->Zk,false->J
open Option renaming none->Zv,some->Zw
open Decidable renaming decide->Zy
open Inhabited renaming default->ZZ
open List renaming length->X,toArray->Zc
section
open Go.RowKit Go.Maps Go.Sort Go.Shelf
theorem FZ (w D) (x:Nat) (H:Own w D w []) (hx:x<=18446744073709551615):
    Calls Tryz.prog 172 #[.int .u64 (x:Int)] w (dM λ v w'=>v= .int .i64 ((bitsLen x:Nat):Int)/\Own w D w' []):=by
  refine(Any.bits_Len LD (x:Int) w Y Y).mono ?_
  rintro e w' ⟨rfl,rfl⟩
  refine⟨_,Z, ?_,H⟩
  rw [Int.toNat_natCast,bitLen_eq x Y]
end
open Int renaming toNat->U
open IntKind renaming i64->B7
open List renaming flatMap->q0,length_replicate->O7,length_set->N1,set->N0
open _root_.Go.Proofs.Tryz renaming isAgg32->E3,prog->v1
section
open Go.RowKit
def jh (a:Nat):Bool:=
 J
theorem nM (w D a c) (H:Own w D w []) (hr:jh a=c):
    Calls v1 175 #[vU a] w (dM λ v w'=>v= V c/\Own w D w' []):=by
 refine cb Tryz.func175 ?_
 refine sr (Ar Z (Mz Z (Mz Z (fw (V J) (JZ (e:= !(Zy ((a:Int)=(a:Int)))) yk i7) (An Z (rt (rs ?_)))))))
 have b:=H.pk []
 obtain rfl:_=J:=zj hr Z
 exact⟨Z,b⟩
def lV (c:Nat) (d:Nat):Bool:=
 bnd (jh c) λ a=>if a=Zk then bnd (jh d) λ b=>if b=Zk then Zy (((c:Nat):Int) < ((d:Nat):Int)) else Zk else Zy (((c:Nat):Int) < ((d:Nat):Int))
theorem tK (w D e d u) (H:Own w D w []) (hr:lV e d=u):
    Calls v1 125 #[vU e,vU d] w (dM λ v w'=>v= V u/\Own w D w' []):=by
 unfold lV at hr
 refine cb Tryz.func125 ?_
 refine sr (Ar Z (Mz Z ?_))
 obtain⟨h,c⟩:∃ q,jh e=q:=⟨_,Z⟩
 obtain⟨B,i,x,j,y⟩:=JJ H
 refine cl Tryz.call175 (nM _ _ e h i c) ?_
 rintro _ C ⟨rfl,k⟩
 have l:=j _ _ k
 refine Mz Z ?_
 rcases Nf (h) with a | a
 refine Kj (v:=vU d) Z Z a Z (JM Z) ?_
 obtain⟨g,f⟩:∃ q,jh d=q:=⟨_,Z⟩
 obtain⟨E,m,z,n,A⟩:=JJ l
 refine KF Z Z a Z (J6 Tryz.call175 Z (nM _ _ d g m f) ?_)
 rintro _ F ⟨rfl,o⟩
 have p:=n _ _ o
 refine Gz (V (!g)) a (fw (V (!g)) (JL Z a Z) (Mz Z ?_))
 rcases Nf (g) with b | b
 refine gw (vU e) (cn b) (JM Z) (gw (vU d) (cn b) (JM Z) (Gz (Zb ((e:Int) < (d:Int))) (cn b) (fw (Zb ((e:Int) < (d:Int))) (JH Z (cn b) Z) (An Z (rt (rs ?_))))))
 have r:=p.pk []
 obtain rfl:=zj hr zq4
 exact⟨Z,r⟩
 refine T (cn b) (T (cn b) (T (cn b) (fw (V Zk) (JL Z (cn b) Z) (An Z (rt (rs ?_))))))
 have s:=p.pk []
 obtain rfl:=zj hr zq4
 exact⟨Z,s⟩
 refine T a (T a (T a (fw (V J) (JH Z a Z) (Mz Z (gw (vU e) Z (JM Z) (gw (vU d) Z (JM Z) (Gz (Zb ((e:Int) < (d:Int))) Z (fw (Zb ((e:Int) < (d:Int))) (JH Z Z Z) (An Z (rt (rs ?_)))))))))))
 have t:=l.pk []
 obtain rfl:=zj hr zq2
 exact⟨Z,t⟩
def eX (g:Int):Nat->Int->List Nat->(List Nat)
  | 0,a,b=>ZZ
  | f+1,a,b=>if a > g then bnd (List.getD b (U a) ZZ) λ c=>bnd (List.getD b (U (a - 1)) ZZ) λ d=>bnd (lV c d) λ e=>if e=Zk then eX g f (a - 1) (N0 (N0 b (U a) d) (U (a - 1)) c) else b else b
def eY (c:Int) (e:Int):Nat->Int->List Nat->(List Nat)
  | 0,a,b=>ZZ
  | d+1,a,b=>if a < e then bnd (bnd (eX c ((U (a - c))+1) a b) λ sLrLstJjL=>sLrLstJjL) λ sJrLstJ=>eY c e d (a+1) sJrLstJ else b
def ja (c:List Nat) (a:Int) (b:Int):(List Nat):=
 bnd (eY a b ((U (b - (a+1)))+1) (a+1) c) λ sLrL=>sLrL
theorem pQ (w D f n0 r h d j r0) (H:Own w D w [row f n0 r (q0 (eN .u64) h) 32 1]) (ai:n0=X h) (aT:X h *8<=211106232532992) (aU:0<=d/\d<=j/\j<=((X h:Nat):Int)) (hr:ja h d j=r0):
    Calls v1 204 #[W f n0 r,vI d,vI j] w (dM λ v w'=>v= .tuple #[]/\Own w D w' [row f n0 r (q0 (eN .u64) r0) 32 1]/\(X r0=X h)):=by
 unfold ja at hr
 subst ai
 have aV:=H.rowC (i:=0) Z
 refine cb Tryz.func204 ?_
 refine sr (Mz Z (fw (vI (d+1)) (JN (e:=B7.wrap (d+1)) yk i8) (An Z (bo ?_))))
 have aj:=H.pf []
 obtain⟨ak,u⟩:=zw λ (c:Int) m (x:Nat) w'=>Own w D w' [row f (X h) r (q0 (eN .u64) m) 32 1]/\X m=X h/\d+1<=c/\U (j - c) < x/\eY d j ((U (j - (d+1)))+1) (d+1) h=eY d j x c m
 refine Wp.loop (λ i:Int × (List Nat) × Nat=> [(6,vI i.1),(0, W f (X h) r),(1,vI d),(2,vI j)]) ak (λ i=>i.2.2) (d+1,h,(U (j - (d+1)))+1) ⟨Z,Z,Z,Z,ZW⟩ (u.2 ⟨aj,by first | omega | (simp only [N1] <;> omega) | (simp only [O7]),Y,Y,Z⟩) ?_
 rintro ⟨c,m,x⟩ aW Q
 show Wp _ _ _ [(6,vI c),(0, W f (X h) r),(1,vI d),(2,vI j)] _ _
 obtain⟨R,aI,aJ,aK,Z7⟩:=u.1 Q
 obtain⟨L,S⟩:∃ q,x=q+1:=⟨x - 1,Y⟩
 subst S
 refine JG (sr (Mz Z (Mz Z (Kz (Zb (c < j)) (nt ?_)))))
 by_cases I:c < j
 refine jT (dT I) (sk (JG ?_))
 obtain⟨au,z⟩:=mE λ A w'=>Own w D w' [row f (X h) r (q0 (eN .u64) A) 32 1]/\X A=X h/\(bnd (eX d ((U (c - d))+1) c m) λ sLrLstJjL=>sLrLstJjL)=A
 refine KL (λ i:(List Nat)=> [(6,vI c),(0, W f (X h) r),(1,vI d),(2,vI j)]) au ?_ ?_
 refine bo (sr (Mz Z (An Z (bo ?_))))
 have av:=R.pf []
 obtain⟨ax,B⟩:=zw λ (a:Int) g (C:Nat) w'=>Own w D w' [row f (X h) r (q0 (eN .u64) g) 32 1]/\X g=X h/\(d<=a/\a < j)/\U (a - d) < C/\eX d ((U (c - d))+1) c m=eX d C a g
 refine Wp.loop (λ i:Int × (List Nat) × Nat=> [(7,vI i.1),(6,vI c),(0, W f (X h) r),(1,vI d),(2,vI j)]) ax (λ i=>i.2.2) (c,m,(U (c - d))+1) ⟨Z,Z,Z,Z,Z,ZW⟩ (B.2 ⟨av,by first | omega | (simp only [N1] <;> omega) | (simp only [O7]),Y,Y,Z⟩) ?_
 rintro ⟨a,g,C⟩ aX Z8
 show Wp _ _ _ [(7,vI a),(6,vI c),(0, W f (X h) r),(1,vI d),(2,vI j)] _ _
 obtain⟨ay,aL,aM,aN,E⟩:=B.1 Z8
 obtain⟨M,Z4⟩:∃ q,C=q+1:=⟨C - 1,Y⟩
 subst Z4
 refine JG (JG ?_)
 refine Dh [] (JP (JP (JP (bI.block (bI.block (JP (JP (bI.block J3)))))))) ay ?_
 intro aY Z3
 refine qv 0 Z Z (qv 1 Z Z (qk (Zb (a > d)) 2 Z (qv 3 Z Z ?_)))
 by_cases b:a > d
 refine JQ (v:= W f (X h) r) (rs:= []) 4 Z Z Z (dT b) f1 (λ _ _=>JM Z) (JQ (v:=vJ (U a)) (rs:= []) 5 Z Z Z (dT b) f1 (λ _ _=>JN (e:=a) (JM Z) Y) ?_)
 obtain⟨s,l⟩:=mI (ls:=g) (i:=U a) f4
 refine JQ (v:= Zq (Zw ⟨ab f,ao f+(U a) *1,Zv⟩)) (rs:= []) 6 Z Z Z (dT b) f1 (λ _ ⟨_,p⟩=>JU (iZ) Z Z ((p.rds (i:=0) Z).addr (i:=U a) Y) Y) (JQ (v:=vU s) (rs:= []) 7 Z Z Z (dT b) f1 (λ _ ⟨_,p⟩=>JS Z (bT.one E3 (((p.rds (i:=0) Z).elem iq l f6).at_ (k:=0) Z))) (JQ (v:= W f (X h) r) (rs:= []) 8 Z Z Z (dT b) f1 (λ _ _=>JM Z) (JQ (v:=vI a) (rs:= []) 9 Z Z Z (dT b) f1 (λ _ _=>JM Z) (JQ (v:=vJ (U (a - 1))) (rs:= []) 10 Z Z Z (dT b) f1 (λ _ _=>JN (e:=B7.wrap (a - 1)) yk f3) ?_))))
 obtain⟨n,t⟩:=mI (ls:=g) (i:=U (a - 1)) f4
 refine JQ (v:= Zq (Zw ⟨ab f,ao f+(U (a - 1)) *1,Zv⟩)) (rs:= []) 11 Z Z Z (dT b) f1 (λ _ ⟨_,p⟩=>JU (iZ) Z Z ((p.rds (i:=0) Z).addr (i:=U (a - 1)) Y) Y) (JQ (v:=vU n) (rs:= []) 12 Z Z Z (dT b) f1 (λ _ ⟨_,p⟩=>JS Z (bT.one E3 (((p.rds (i:=0) Z).elem iq t f6).at_ (k:=0) Z))) ?_)
 obtain⟨Z5,F⟩:∃ q,lV s n=q:=⟨_,Z⟩
 obtain⟨aZ,Z9,aO,Z1,aP⟩:=JJ Z3
 refine Ky 13 Z Z Z (dT b) f1 (J6 Tryz.call125 Z (tK _ _ s n Z5 Z9 F) ?_)
 rintro _ bf ⟨rfl,Z2⟩
 have Z6:=Z1 _ _ Z2
 refine⟨.inr ⟨_,Z6⟩, ?_⟩
 refine qt (v:= V Z5) 14 Z (λ _ _=>JL Z (dT b) Z) (qn (JK ?_))
 rcases Nf (Z5) with G | G
 refine jT G (sk (JG (bo ?_)))
 refine Dh [15,17] (bI.block (JP (JP (bI.block (bI.block (JP (JP (bI.block J3)))))))) Z6 ?_
 intro bg az
 refine qv 0 Z Z (qt (v:=vJ (U a)) 1 Z (λ _ _=>JN (e:=a) (JM Z) Y) (Ki (v:= W f (X h) r) 2 Z f1 (λ _=>JM Z) (Ki (v:=vI a) 3 Z f1 (λ _=>JM Z) (Ki (v:=vJ (U (a - 1))) 4 Z f1 (λ _=>JN (e:=B7.wrap (a - 1)) yk f3) (qv 5 Z Z (qv 6 Z Z (qt (v:=vJ (U (a - 1))) 7 Z (λ _ _=>JN (e:=B7.wrap (a - 1)) yk f3) (qt (v:= Zq (Zw ⟨ab f,ao f+(U (a - 1)) *1,Zv⟩)) 8 Z (λ _ ⟨_,p⟩=>JU (iZ) Z Z ((p.rds (i:=0) Z).addr (i:=U (a - 1)) Y) Y) (qt (v:=vU n) 9 Z (λ _ ⟨_,p⟩=>JS Z (bT.one E3 (((p.rds (i:=0) Z).elem iq t f6).at_ (k:=0) Z))) (qv 10 Z Z (qt (v:=vJ (U a)) 11 Z (λ _ _=>JN (e:=a) (JM Z) Y) (qt (v:= Zq (Zw ⟨ab f,ao f+(U a) *1,Zv⟩)) 12 Z (λ _ ⟨_,p⟩=>JU (iZ) Z Z ((p.rds (i:=0) Z).addr (i:=U a) Y) Y) (qt (v:=vU s) 13 Z (λ _ ⟨_,p⟩=>JS Z (bT.one E3 (((p.rds (i:=0) Z).elem iq l f6).at_ (k:=0) Z))) (qt (v:= Zq (Zw ⟨ab f,ao f+(U a) *1,Zv⟩)) 14 Z (λ _ ⟨_,p⟩=>JU (iZ) Z Z ((p.rds (i:=0) Z).addr (i:=U a) Y) Y) ?_))))))))))))))
 refine qe 15 Z (Do.storeRow (vs:= [vU n]) (o:=(U a) *1+0) (q:=ao f+(U a) *1) az Z Y Z Tryz.sizeOf32 Z Z (M9 Z) (jG iq l (M9 Z)) (kE (y:=n) iq Z (M9 Z) l) ?_)
 intro bi P
 refine⟨.inl f1, ?_⟩
 obtain⟨bn,aQ⟩:=mI (ls:=g) (i:=U (a - 1)) f4
 obtain⟨bq,aR⟩:=dJ (ls:=(N0 g (U a) n)) (i:=U (a - 1)) iq f6 (P.rds (i:=0) Z) f4
 refine Ki (v:= Zq (Zw ⟨ab f,ao f+(U (a - 1)) *1,Zv⟩)) 16 Z f1 (λ _=>JU (iZ) Z Z ((P.rds (i:=0) Z).addr (i:=U (a - 1)) Y) Y) ?_
 obtain⟨bv,K⟩:=mI (ls:=(N0 g (U a) n)) (i:=U (a - 1)) f4
 refine qe 17 Z (Do.storeRow (vs:= [vU s]) (o:=(U (a - 1)) *1+0) (q:=ao f+(U (a - 1)) *1) P Z Y Z Tryz.sizeOf32 Z Z (M9 Z) (jG iq K (M9 Z)) (kE (y:=s) iq Z (M9 Z) K) ?_)
 intro bz aA
 refine⟨.inl f1, ?_⟩
 refine qn (bN (JK (JI (Mz Z (fw (vI (a - 1)) (JN (e:=B7.wrap (a - 1)) yk i8) (Az Z (WL.nil ?_)))))))
 have aB:=aA.pf []
 exact JX (a - 1,(N0 (N0 g (U a) n) (U (a - 1)) s),M) ⟨Z,Z,Z,Z,Z,ZW⟩ (B.2 ⟨aB,by first | omega | (simp only [N1] <;> omega) | (simp only [O7]),Y,Y,Eq.trans (E) (Eq.trans (ZK b) (Eq.trans (ae (bu l)) (Eq.trans (ae (bu t)) (Eq.trans (ae F) (ZK G)))))⟩) (by show M < M+1; omega)
 refine jF G (Wp.exit (JV (JV (J2 (bN ?_)))))
 have aC:=Z6.pf []
 exact Kr g ⟨Z,Z,Z,Z,ZW⟩ (z.2 ⟨aC,by first | omega | (simp only [N1] <;> omega) | (simp only [O7]),ae (Eq.trans (E) (Eq.trans (ZK b) (Eq.trans (ae (bu l)) (Eq.trans (ae (bu t)) (Eq.trans (ae F) (eP G))))))⟩)
 refine JO (rs:= []) 4 Z Z Z (dF b) f1 (JO (rs:= []) 5 Z Z Z (dF b) f1 (JO (rs:= []) 6 Z Z Z (dF b) f1 (JO (rs:= []) 7 Z Z Z (dF b) f1 (JO (rs:= []) 8 Z Z Z (dF b) f1 (JO (rs:= []) 9 Z Z Z (dF b) f1 (JO (rs:= []) 10 Z Z Z (dF b) f1 (JO (rs:= []) 11 Z Z Z (dF b) f1 (JO (rs:= []) 12 Z Z Z (dF b) f1 (JO (rs:= []) 13 Z Z Z (dF b) f1 (qt (v:= V J) 14 Z (λ _ _=>JH Z (dF b) Z) (qn (JK (jf (Wp.exit (JV (JV (J2 (bN ?_))))))))))))))))))
 have aD:=Z3.pf []
 exact Kr g ⟨Z,Z,Z,Z,ZW⟩ (z.2 ⟨aD,by first | omega | (simp only [N1] <;> omega) | (simp only [O7]),ae (Eq.trans (E) (ZV b))⟩)
 rintro A bA Z0
 show Wp _ _ _ [(6,vI c),(0, W f (X h) r),(1,vI d),(2,vI j)] _ _
 obtain⟨aF,aS,aa⟩:=z.1 Z0
 refine JI (Mz Z (fw (vI (c+1)) (JN (e:=B7.wrap (c+1)) yk i8) (Az Z (WL.nil ?_))))
 have aG:=aF.pf []
 exact JX (c+1,A,L) ⟨Z,Z,Z,Z,ZW⟩ (u.2 ⟨aG,by first | omega | (simp only [N1] <;> omega) | (simp only [O7]),Y,Y,Eq.trans (Z7) (Eq.trans (ZK I) (ae aa))⟩) (by show L < L+1; omega)
 refine jF (dF I) (Wp.exit (JV ?_))
 have af:eY d j ((U (j - (d+1)))+1) (d+1) h=m:=N (Z7) (iN I)
 refine JV (J2 (Kl (res0 Z) ?_))
 have aH:=R.pf []
 obtain rfl:=zj hr zq1
 exact⟨Z,aH,i9⟩
def jJ (b:List Nat) (c:Int) (d:Int) (e:Int):(List Nat):=
 bnd (ja b c d) λ a=>a
theorem rJ (w D n o p c a b u r) (H:Own w D w [row n o p (q0 (eN .u64) c) 32 1]) (s:o=X c) (A:X c *8<=211106232532992) (B:0<=a/\a<=b/\b<=((X c:Nat):Int)) (C:b - a<=12) (hr:jJ c a b u=r):
    Calls v1 171 #[W n o p,vI a,vI b,vI u] w (dM λ v w'=>v= .tuple #[]/\Own w D w' [row n o p (q0 (eN .u64) r) 32 1]/\(X r=X c)):=by
 unfold jJ at hr
 subst s
 have E:=H.rowC (i:=0) Z
 refine cb Tryz.func171 ?_
 refine sr (Ar Z (An Z (bo (Lj 200 (bo (sr (Mz Z (Mz Z (fw (vI (b - a)) (JN (e:=B7.wrap (b - a)) yk i8) (An Z (JG (sr (Mz Z (Kz (Zb (b - a<=12)) (nt ?_)))))))))))))))
 have h:(Zy (b - a<=12))=Zk:=(dT Y)
 refine jT h (sr (Mz Z (Mz Z (Mz Z ?_))))
 obtain⟨g,d⟩:∃ q,ja c a b=q:=⟨_,Z⟩
 obtain⟨F,j,x,k,y⟩:=Kb H
 refine cl Tryz.call204 (pQ _ _ n (X c) p c a b g j Z Y Y d) ?_
 rintro _ G ⟨rfl,l,f⟩
 have m:=k _ _ l
 have z:=m.rowC (i:=0) Z
 replace f:X g=X c:=f
 refine nt (rt (tR (bR (tR (bR (JY (res0 Z) ?_))))))
 have t:=m.pf []
 obtain rfl:=zj hr zq1
 exact⟨Z,t,i9⟩
def gQ (b:List Nat):(List Nat):=
 bnd (jJ b 0 ((X b:Nat):Int) ((Go.Sort.bitsLen (X b):Nat):Int)) λ a=>a
theorem oK (w D n o p a r) (H:Own w D w [row n o p (q0 (eN .u64) a) 32 1]) (s:o=X a) (C:X a *8<=211106232532992) (E:X a<=12) (hr:gQ a=r):
    Calls v1 122 #[W n o p] w (dM λ v w'=>v= .tuple #[]/\Own w D w' [row n o p (q0 (eN .u64) r) 32 1]/\(X r=X a)):=by
 unfold gQ at hr
 subst s
 have F:=H.rowC (i:=0) Z
 refine cb Tryz.func122 ?_
 refine sr (Mz Z (Kz (vJ (X a)) (An Z (JI (Mz Z (Mz Z (Mz Z (fw (vU (X a)) (JN (e:=IntKind.u64.wrap (X a:Int)) yk (IntWalk.u64_in _ Y)) ?_))))))))
 obtain⟨G,f,x,g,y⟩:=JJ H
 refine cl Tryz.call172 (FZ _ _ (X a) f Y) ?_
 rintro _ I ⟨rfl,h⟩
 have t:=g _ _ h
 obtain⟨d,b⟩:∃ q,jJ a 0 (X a:Int) ((Go.Sort.bitsLen (X a):Nat):Int)=q:=⟨_,Z⟩
 obtain⟨Z7,j,z,k,A⟩:=Kb t
 refine cl Tryz.call171 (rJ _ _ n (X a) p a 0 (X a:Int) ((Go.Sort.bitsLen (X a):Nat):Int) d j Z Y Y Y b) ?_
 rintro _ K ⟨rfl,l,c⟩
 have m:=k _ _ l
 have B:=m.rowC (i:=0) Z
 replace c:X d=X a:=c
 refine WL.nil (Kl (res0 Z) ?_)
 have u:=m.pf []
 obtain rfl:=zj hr zq1
 exact⟨Z,u,i9⟩
end
open List renaming drop->r6,getD->y4,map->r7,mem_cons->u5,mem_of_getElem?->E1,not_mem_nil->v6
open Sum renaming inl->y3,inr->y6
open _root_.Go.Proofs.Tryz renaming isAgg112->P0,isAgg118->P1,isAgg164->O8,isAgg37->D0,isAgg4->H4,isAgg97->P3,sizeOf118->P2,sizeOf164->O9,sizeOf194->P4,sizeOf37->C7
open WL renaming nil->B8
open Wp renaming exit->B9,loop->B4
section
open Go.RowKit
structure aB where q::
 a:Nat
 b:Sv aF
 f:Bool
 e:aF
def aB.J (x:aB):List ZX:= [.int .u64 ((x.a:Nat):Int), W x.b.A (X x.b.a) x.b.c, V x.f, Zz ⟨Zc x.e.j.a⟩, Zz ⟨Zc x.e.j.b⟩, V x.e.a]
instance:Bk aB:=⟨λ x _=>bk x.a+(bk x.b+(bk x.f+(bk x.e+(0))))⟩
theorem aB.len:∀ x,X (aB.J x)=6:=λ _=>rfl
theorem aB.one:∀ x, ∀ u ∈ aB.J x,u.oneCell'=Zk:=λ x u hu=>by
 simp only [aB.J,u5,v6,or_false] at hu
 rcases hu with rfl | rfl | rfl | rfl | rfl | rfl <;> rfl
def ME (w:ZQ) (x:aB):Prop:=(x.a<=18446744073709551615)/\(nA w 3 40 aF.J (Le w) x.b)/\(True)/\(Le w x.e)
instance:Inhabited aB:=⟨⟨ZZ,ZZ,ZZ,ZZ⟩⟩
structure aN where q::
 a:Nat
 b:Ll aF
 f:Bool
 e:aF
instance:Inhabited aN:=⟨⟨ZZ,ZZ,ZZ,ZZ⟩⟩
def aB.abs (x:aB):aN:=⟨x.a,⟨x.b.a⟩,x.f,x.e⟩
def J4 (x:aB):List HP:= [row x.b.A (X x.b.a) x.b.c (q0 aF.J x.b.a) 118 3]
def Hd (l:List aN):Prop:=∀ r ∈ l,X r.b.a<=1000000
def eQ (c:Nat) (d:Nat):Int:=
 bnd (jh c) λ b=>bnd (jh d) λ a=>if b=Zk then if a=Zk then 0 else(-1) else if a=Zk then 1 else if((c:Nat):Int) < ((d:Nat):Int) then(-1) else if((c:Nat):Int) > ((d:Nat):Int) then 1 else 0
theorem mK (w D i j C) (H:Own w D w []) (hr:eQ i j=C):
    Calls v1 129 #[vU i,vU j] w (dM λ v w'=>v=vI C/\Own w D w' []):=by
 unfold eQ at hr
 refine cb Tryz.func129 ?_
 refine sr (Ar Z (Mz Z ?_))
 obtain⟨l,a⟩:∃ q,jh i=q:=⟨_,Z⟩
 obtain⟨Z7,m,E,n,F⟩:=JJ H
 refine cl Tryz.call175 (nM _ _ i l m a) ?_
 rintro _ K ⟨rfl,o⟩
 have t:=n _ _ o
 refine Ar Z (Mz Z ?_)
 obtain⟨k,b⟩:∃ q,jh j=q:=⟨_,Z⟩
 obtain⟨L,p,G,r,I⟩:=JJ t
 refine cl Tryz.call175 (nM _ _ j k p b) ?_
 rintro _ M ⟨rfl,s⟩
 have e:=r _ _ s
 refine An Z (JG (sr (Mn Z ?_)))
 rcases Nf (l) with c | c
 refine jT c (JG (sr (Mn Z ?_)))
 rcases Nf (k) with f | f
 refine jT f (sr (An Z (rt (tR (tR (rs ?_))))))
 have u:=e.pk []
 obtain rfl:=zj hr zq4
 exact⟨Z,u⟩
 refine jF f (sk (sr (An Z (rt (tR (rs ?_))))))
 have x:=e.pk []
 obtain rfl:=zj hr zq4
 exact⟨Z,x⟩
 refine jF c (sk (JG (sr (Mn Z ?_))))
 rcases Nf (k) with d | d
 refine jT d (sr (An Z (rt (tR (rs ?_)))))
 have y:=e.pk []
 obtain rfl:=zj hr zq4
 exact⟨Z,y⟩
 refine jF d (sk (JG (sr (Mz Z (Mz Z (Kz (Zb ((i:Int) < (j:Int))) (nt ?_)))))))
 by_cases g:(i:Int) < (j:Int)
 refine jT (dT g) (sr (An Z (rt (tR (rs ?_)))))
 have z:=e.pk []
 obtain rfl:=zj hr zq5
 exact⟨Z,z⟩
 refine jF (dF g) (sk (JG (sr (Mz Z (Mz Z (Kz (Zb ((i:Int) > (j:Int))) (nt ?_)))))))
 by_cases h:(i:Int) > (j:Int)
 refine jT (dT h) (sr (An Z (rt (tR (rs ?_)))))
 have A:=e.pk []
 obtain rfl:=zj hr zq6
 exact⟨Z,A⟩
 refine jF (dF h) (sk (sr (An Z (rt (rs ?_)))))
 have B:=e.pk []
 obtain rfl:=zj hr zq6
 exact⟨Z,B⟩
theorem jy:Elem v1 112 164 6 80:=nz (z:= Zx #[.int .u64 0, W Zv 0 0, V J, Zz ⟨Zc []⟩, Zz ⟨Zc []⟩, V J]) Tryz.underlying112 f1 Z f6
structure nI where q::
 a:Sv aB
def nI.J (x:nI):List ZX:= [W x.a.A (X x.a.a) x.a.c]
instance:Bk nI:=⟨λ x _=>bk x.a+(0)⟩
theorem nI.len:∀ x,X (nI.J x)=1:=λ _=>rfl
theorem nI.one:∀ x, ∀ u ∈ nI.J x,u.oneCell'=Zk:=λ x u hu=>by
 simp only [nI.J,u5,v6,or_false] at hu
 rcases hu with rfl <;> rfl
def MX (w:ZQ) (x:nI):Prop:=(nA w 6 80 aB.J (ME w) x.a)
instance:Inhabited nI:=⟨⟨ZZ⟩⟩
structure aZ where q::
 a:Ll aN
instance:Inhabited aZ:=⟨⟨ZZ⟩⟩
def nI.abs (x:nI):aZ:=⟨⟨r7 aB.abs x.a.a⟩⟩
def MN (x:nI):List HP:= [row x.a.A (X x.a.a) x.a.c (q0 aB.J x.a.a) 164 6,sepL (q0 J4 x.a.a)]
def dV (f:List aN) (g:Nat):Nat->Nat->Nat->Nat
  | 0,a,b=>ZZ
  | c+1,a,b=>if((a:Nat):Int) < ((b:Nat):Int) then bnd (y4 f ((a+b) / 2) ZZ) λ d=>bnd (eQ d.a g) λ e=>if e < 0 then dV f g c (((a+b) / 2)+1) b else dV f g c a ((a+b) / 2) else a
def gT (a:List aN) (d:Nat):Int × Bool:=
 bnd (dV a d ((X a - 0)+1) 0 (X a)) λ sLrL=>if((sLrL:Nat):Int) < ((X a:Nat):Int) then bnd (y4 a sLrL ZZ) λ b=>bnd (eQ b.a d) λ c=>(((sLrL:Nat):Int),Zy (c=0)) else(((sLrL:Nat):Int),J)
theorem mH (w D z Z0 Z2 d0 f o K r1) (H:Own w D w []) (I:r7 aB.abs d0=f) (j:Ro w D λ w'=>bP w' 6 z Z0 (q0 aB.J d0)) (L:∀ x ∈ d0,Ro w D (λ w'=>bP w' 3 x.b.A (X x.b.a) (q0 aF.J x.b.a))/\(X x.b.a<=x.b.c/\X x.b.a<=9223372036854775807)) (af:Z0=X f) (aM:X f *80<=211106232532992) (hr:gT f o=(K,r1)):
    Calls v1 166 #[W z Z0 Z2,vU o, .func (.func 167) #[] #[]] w (dM λ v w'=>v= .tuple #[vI K, V r1]/\Own w D w' []/\(0<=K/\K<=((X f:Nat):Int))/\(Bool.toNat r1=0\/K < ((X f:Nat):Int))):=by
 unfold gT at hr
 subst af
 have az:=bg I
 refine cb Tryz.func166 ?_
 refine sr (Az Z (Ar Z (Mz Z (Kz (vJ (X f)) (Ar Z (Mz Z (Az Z (An Z (JG (bo ?_))))))))))
 have ag:=H.pk []
 obtain⟨ah,h⟩:=zw λ (a:Nat) (b:Nat) (p:Nat) w'=>Own w D w' []/\a<=b/\b<=X f/\b - a < p/\dV f o ((X f - 0)+1) 0 (X f)=dV f o p a b
 refine B4 (λ i:Nat × Nat × Nat=> [(9,vJ i.1),(10,vJ i.2.1),(8,vJ (X f)),(7, V J),(6,vI 0),(0, W z (X f) Z2),(1,vU o),(2, .func (.func 167) #[] #[])]) ah (λ i=>i.2.2) (0,X f,(X f - 0)+1) ⟨Z,Z,Z,Z,Z,Z,Z,Z,ZW⟩ (h.2 ⟨ag,Y,Y,Y,Z⟩) ?_
 rintro ⟨a,b,p⟩ aO M
 show Wp _ _ _ [(9,vJ a),(10,vJ b),(8,vJ (X f)),(7, V J),(6,vI 0),(0, W z (X f) Z2),(1,vU o),(2, .func (.func 167) #[] #[])] _ _
 obtain⟨g,aA,aC,aD,r⟩:=h.1 M
 obtain⟨l,Z5⟩:∃ q,p=q+1:=⟨p - 1,Y⟩
 subst Z5
 refine JG (sr (Mz Z (Mz Z (Kz (Zb ((a:Int) < (b:Int))) (nt ?_)))))
 by_cases s:(a:Int) < (b:Int)
 refine jT (dT s) (sk (bo (sr (Mz Z (Mz Z (fw (vJ (a+b)) (JN (e:=B7.wrap ((a:Int)+(b:Int))) yk f3) (fw (vU (a+b)) (JN (e:=IntKind.u64.wrap ((a+b:Nat):Int)) yk (IntWalk.u64_in _ Y)) (fw (vU ((a+b) / 2)) (JN (e:=Int.fdiv ((a+b:Nat):Int) 2) yk (vH _ 1 _ f6)) (fw (vJ ((a+b) / 2)) (JN (e:=B7.wrap (((a+b) / 2:Nat):Int)) yk (Na _ Y)) (Ar Z (Mz Z (Mz Z (Mz Z ?_)))))))))))))
 obtain⟨m,t⟩:=dJ (ls:=d0) (i:=(a+b) / 2) aB.len f6 (g.ro j) f4
 have E:=gq I t
 have aG:=(L _ (E1 t)).2
 refine fw (Zq (Zw ⟨ab z,ao z+((a+b) / 2) *6,Zv⟩)) (JU (jy) Z Z ((g.ro j).addr (i:=(a+b) / 2) Y) Y) (fw (Zx (Zc (aB.J m))) (JS Z (JW (cs:=(aB.J m)) O8 O9 ((g.ro j).elem aB.len t f6))) (Mz Z ?_))
 refine WL.do Z (Kh Tryz.call167 Z Z ?_ (λ _ _ k=>k))
 refine cb Tryz.func167 ?_
 refine sr ?_
 refine cu (aB.J m) 164 g ?_
 intro ai aP Z6
 refine Ar Z (Kz (vP ai 0) (Lz (vU m.a) Z6 0 E3 (Mz Z ?_)))
 obtain⟨Z7,u⟩:∃ q,eQ m.a o=q:=⟨_,Z⟩
 obtain⟨aQ,P,aH,Q,aI⟩:=JJ Z6
 refine cl Tryz.call129 (mK _ _ m.a o Z7 P u) ?_
 rintro _ aR ⟨rfl,R⟩
 have S:=Q _ _ R
 refine An Z (rt (rs (Kz (Zb (Z7 < 0)) (nt ?_))))
 by_cases B:Z7 < 0
 refine jT (dT B) (JI (Mz Z (fw (vI ((((a+b) / 2)+1:Nat):Int)) (JN (e:=B7.wrap ((((a+b) / 2:Nat):Int)+1)) yk f3) (Az Z (B8 (bN ?_))))))
 have aj:=S.pk []
 exact JX (((a+b) / 2)+1,b,l) ⟨Z,Z,Z,Z,Z,Z,Z,Z,ZW⟩ (h.2 ⟨aj,Y,Y,Y,N (r) (N (ip s) (N (ae (bu E)) (N (ae u) (ip B))))⟩) (by show l < l+1; omega)
 refine jF (dF B) (JI (Mz Z (Az Z (B8 (bN ?_)))))
 have ak:=S.pk []
 exact JX (a,(a+b) / 2,l) ⟨Z,Z,Z,Z,Z,Z,Z,Z,ZW⟩ (h.2 ⟨ak,Y,Y,Y,N (r) (N (ip s) (N (ae (bu E)) (N (ae u) (iN B))))⟩) (by show l < l+1; omega)
 refine jF (dF s) (B9 (JV ?_))
 have F:dV f o ((X f - 0)+1) 0 (X f)=a:=N (r) (iN s)
 refine JV (J2 (JK (sr (Mz Z (Mz Z (Mz Z (Kz (Zb ((a:Int) < (X f:Int))) (Mz Z ?_))))))))
 by_cases d:(a:Int) < (X f:Int)
 refine gw (.func (.func 167) #[] #[]) (dT d) (JM Z) (gw (W z (X f) Z2) (dT d) (JM Z) (gw (vJ a) (dT d) (JM Z) ?_))
 obtain⟨n,y⟩:=dJ (ls:=d0) (i:=a) aB.len f6 (g.ro j) f4
 have Z8:=gq I y
 have aJ:=(L _ (E1 y)).2
 refine gw (Zq (Zw ⟨ab z,ao z+a *6,Zv⟩)) (dT d) (JU (jy) Z Z ((g.ro j).addr (i:=a) Y) Y) (gw (Zx (Zc (aB.J n))) (dT d) (JS Z (JW (cs:=(aB.J n)) O8 O9 ((g.ro j).elem aB.len y f6))) (gw (vU o) (dT d) (JM Z) ?_))
 refine KF Z Z (dT d) Z (Kh Tryz.call167 Z Z ?_ (λ _ _ k=>k))
 refine cb Tryz.func167 ?_
 refine sr ?_
 refine cu (aB.J n) 164 g ?_
 intro au aS Z4
 refine Ar Z (Kz (vP au 0) (Lz (vU n.a) Z4 0 E3 (Mz Z ?_)))
 obtain⟨C,G⟩:∃ q,eQ n.a o=q:=⟨_,Z⟩
 obtain⟨aT,Z3,aK,Z9,aL⟩:=JJ Z4
 refine cl Tryz.call129 (mK _ _ n.a o C Z3 G) ?_
 rintro _ aU ⟨rfl,Z1⟩
 have av:=Z9 _ _ Z1
 refine An Z (rt (rs (Gz (Zb (C=0)) (dT d) (fw (Zb (C=0)) (JL Z (dT d) Z) (Az Z (An Z (rt (JY (kS Z Z Z) ?_))))))))
 have ax:=av.pk []
 obtain⟨rfl,rfl⟩:=fK (zj hr (show _=(((a:Nat):Int),decide (C=0)) from N (ae F) (N (ip d) (N (ae (bu Z8)) (ae G)))))
 exact⟨Z,ax,Y,i5⟩
 refine T (dF d) (T (dF d) (T (dF d) (T (dF d) (T (dF d) (T (dF d) (T (dF d) (T (dF d) (fw (V J) (JH Z (dF d) Z) (Az Z (An Z (rt (JY (kS Z Z Z) ?_))))))))))))
 have ay:=g.pk []
 obtain⟨rfl,rfl⟩:=fK (zj hr zq2)
 exact⟨Z,ay,Y,i5⟩
def eZ (b:aZ) (c:Nat):Int × Bool:=
 bnd (gT b.a.a c) λ a=>(a.1,a.2)
theorem l8 (w D o) (d:aZ) (a b e u p z) (H:Own w D w [blk o [W a (X d.a.a) b] 114]) (g:r7 aB.abs e=d.a.a) (n:Ro w D λ w'=>bP w' 6 a (X d.a.a) (q0 aB.J e)) (B:X d.a.a<=b/\X d.a.a<=9223372036854775807) (h:∀ x ∈ e,Ro w D (λ w'=>bP w' 3 x.b.A (X x.b.a) (q0 aF.J x.b.a))/\(X x.b.a<=x.b.c/\X x.b.a<=9223372036854775807)) (Z7:X d.a.a<=1000000) (hr:eZ d u=(p,z)):
    Calls v1 114 #[vP o 0,vU u] w (dM λ v w'=>v= .tuple #[vI p, V z]/\Own w D w' [blk o [W a (X d.a.a) b] 114]/\(0<=p/\p<=((X d.a.a:Nat):Int))/\(Bool.toNat z=0\/p < ((X d.a.a:Nat):Int))):=by
 unfold eZ at hr
 have y:=bg g
 refine cb Tryz.func114 ?_
 refine sr (Az Z (Ar Z (Mz Z (Kz (vP o 0) (Kz (vP o 0) (Lz (W a (X d.a.a) b) H 0 P0 (Mz Z ?_)))))))
 obtain⟨⟨f,i⟩,j⟩:∃ q:Int × Bool,gT d.a.a u=q:=⟨_,Z⟩
 obtain⟨K,r,k,s,F⟩:=JJ H
 refine cl Tryz.call166 (mH _ _ a (X d.a.a) b e d.a.a u f i r g (k _ n) (λ G I=>⟨k _ (h G I).1,(h G I).2⟩) Z Y j) ?_
 rintro _ L ⟨rfl,t,l,m⟩
 have C:=s _ _ t
 replace l:0<=f/\f<=(X d.a.a:Int):=l
 replace m:Bool.toNat i=0\/f < (X d.a.a:Int):=m
 refine Kz (vI f) (Kz (V i) (Az Z (An Z (rt (JY (kS Z Z Z) ?_)))))
 have E:=C.pf []
 obtain⟨rfl,rfl⟩:=fK (zj hr zq1)
 exact⟨Z,E,Y,i5⟩
def gu (c:aZ) (d:Nat):Bool:=
 bnd (eZ c d) λ a=>if a.2=Zk then bnd (y4 c.a.a (U a.1) ZZ) λ b=>b.f else J
theorem vB (w D y) (j:aZ) (b f h G M) (H:Own w D w [blk y [W b (X j.a.a) f] 114]) (l:r7 aB.abs h=j.a.a) (g:Ro w D λ w'=>bP w' 6 b (X j.a.a) (q0 aB.J h)) (Z7:X j.a.a<=f/\X j.a.a<=9223372036854775807) (m:∀ x ∈ h,Ro w D (λ w'=>bP w' 3 x.b.A (X x.b.a) (q0 aF.J x.b.a))/\(X x.b.a<=x.b.c/\X x.b.a<=9223372036854775807)) (R:X j.a.a<=1000000) (hr:gu j G=M):
    Calls v1 68 #[vP y 0,vU G] w (dM λ v w'=>v= V M/\Own w D w' [blk y [W b (X j.a.a) f] 114]):=by
 unfold gu at hr
 have I:=bg l
 refine cb Tryz.func68 ?_
 refine sr (Ar Z (Mz Z (Mz Z ?_)))
 obtain⟨⟨d,n⟩,p⟩:∃ q:Int × Bool,eZ j G=q:=⟨_,Z⟩
 obtain⟨S,B,s,C,Z5⟩:=Kb H
 refine cl Tryz.call114 (l8 _ _ y j b f h G d n B l (s _ g) Y (λ Z6 P=>⟨s _ (m Z6 P).1,(m Z6 P).2⟩) g5 p) ?_
 rintro _ Z8 ⟨rfl,E,t,u⟩
 have o:=C _ _ E
 replace t:0<=d/\d<=(X j.a.a:Int):=t
 replace u:Bool.toNat n=0\/d < (X j.a.a:Int):=u
 refine Mz Z (Kz (vI d) (Kz (V n) (Az Z (Ar Z (Mz Z (Mz Z ?_))))))
 rcases Nf (n) with a | a
 have h34t:Bool.toNat n=1:=by rw [a]; rfl
 refine Kj (v:=vP y 0) Z Z a Z (JM Z) (Gz (vP y 0) a (Gz (vP y 0) a (Gl (W b (X j.a.a) f) a o 0 P0 (Kj (v:=vJ (U d)) Z Z a Z (JN (e:=d) (JM Z) Y) ?_))))
 obtain⟨z,r⟩:=dJ (ls:=h) (i:=U d) aB.len f6 (o.ro g) f4
 have F:=gq l r
 have Q:=(m _ (E1 r)).2
 refine Kj (v:= Zq (Zw ⟨ab b,ao b+(U d) *6,Zv⟩)) Z Z a Z (JU (jy) Z Z ((o.ro g).addr (i:=U d) Y) Y) (Gz (Zq (Zw ⟨ab b,ao b+(U d) *6+2,Zv⟩)) a (Kj (v:= V z.f) Z Z a Z (JS Z (bT.one H4 (((o.ro g).elem aB.len r f6).at_ (k:=2) Z))) (fw (V z.f) (JL Z a Z) (An Z (rt (rs ?_))))))
 have K:=o.pf []
 obtain rfl:=zj hr zq3
 exact⟨Z,K⟩
 have h34t:Bool.toNat n=0:=by rw [a]; rfl
 refine T a (T a (T a (T a (T a (T a (T a (T a (fw (V J) (JH Z a Z) (An Z (rt (rs ?_)))))))))))
 have L:=o.pf []
 obtain rfl:=zj hr zq2
 exact⟨Z,L⟩
def ed (a:aF):List aF->Nat->Unit ⊕ Int
  | [],b=>y3 ()
  | c::d,b=>bnd (qP c.j a.j) λ e=>if e=Zk then if c.a=Zk then y6 ((b:Nat):Int) else if a.a=Zk then ed a d (b+1) else y6 ((b:Nat):Int) else ed a d (b+1)
def kZ (b:List aF) (a:aF):Int:=
 lp (ed a b 0) λ _=>(-1)
theorem pR (w D x I Z7 g d) (a:aF) (Z9) (H:Own w D w [blk d (aF.J a) 118]) (t:Ro w D λ w'=>bP w' 3 x I (q0 aF.J g)) (K:I=X g) (aa:X g<=9223372036854775807) (hr:kZ g a=Z9):
    Calls v1 168 #[W x I Z7, .func (.func 116) #[] #[vP d 0]] w (dM λ v w'=>v=vI Z9/\Own w D w' [blk d (aF.J a) 118]):=by
 subst K
 refine cb Tryz.func168 ?_
 refine sr (An Z (JG (sr (Mz Z (Kz (vJ (X g)) (Mn Z (bo ?_)))))))
 have L:=H.pf []
 obtain⟨M,m⟩:=mE λ (b:Nat) w'=>Own w D w' [blk d (aF.J a) 118]/\b<=X g/\ed a g 0=ed a (r6 b g) b
 refine B4 (λ i:Nat=> [(4,vI 0),(8,vJ i),(7,vJ (X g)),(0, W x (X g) Z7),(1, .func (.func 116) #[] #[vP d 0])]) M (λ i=>X g - i) 0 ⟨Z,Z,Z,Z,Z,ZW⟩ (m.2 ⟨L,Y,Z⟩) ?_
 rintro b af y
 show Wp _ _ _ [(4,vI 0),(8,vJ b),(7,vJ (X g)),(0, W x (X g) Z7),(1, .func (.func 116) #[] #[vP d 0])] _ _
 obtain⟨p,Z1,j⟩:=m.1 y
 refine sr (Kz (Zb ((b:Int) < (X g:Int))) (nt (JG ?_)))
 by_cases z:(b:Int) < (X g:Int)
 obtain⟨h,s⟩:=dJ (ls:=g) (i:=b) aF.len f6 (p.ro t) f4
 have n:=drop_at s
 refine jT (dT z) (sk (JG (bo (sr (Mz Z (Ar Z (Mz Z (Mz Z (Mz Z (fw (Zq (Zw ⟨ab x,ao x+b *3,Zv⟩)) (JU (vz) Z Z ((p.ro t).addr (i:=b) Y) Y) (fw (Zx (Zc (aF.J h))) (JS Z (JW (cs:=(aF.J h)) P1 P2 ((p.ro t).elem aF.len s f6))) ?_)))))))))))
 refine WL.do Z (Kh Tryz.call116 Z Z ?_ (λ _ _ k=>k))
 refine cb Tryz.func116 ?_
 refine sr ?_
 refine cu (aF.J h) 118 p ?_
 intro A ag u
 refine Ar Z (Kz (vP A 0) (La (au.J h.j) u 0 D0 C7 (Kz (vP d 0) (La (au.J a.j) u 1 D0 C7 ?_))))
 obtain⟨B,l⟩:∃ q,qP h.j a.j=q:=⟨_,Z⟩
 obtain⟨ah,C,Z2,E,Z0⟩:=JJ u
 refine cl Tryz.call117 (vM _ _ h.j a.j B C l) ?_
 rintro _ ai ⟨rfl,F⟩
 have o:=E _ _ F
 refine Mz Z ?_
 rcases Nf (B) with c | c
 refine Gz (vP A 2) c (Gl (V h.a) c o 0 H4 (Kj (v:= V h.a) Z Z c Z (JM Z) ?_))
 rcases Nf (h.a) with f | f
 refine T f (T f (T f (Kj (v:= V Zk) Z Z c Z (JL Z f Z) (fw (V Zk) (JL Z c Z) (An Z (rt (rs (nt (jt (JG ?_))))))))))
 have Z5:=o.pk [1]
 refine JI (Mz Z (An Z (rt (bR (tR (tR (bR (tR (rs ?_)))))))))
 have Z6:=Z5.pf []
 obtain rfl:_=(b:Int):=zj hr (iJ (N (j) (N (ZJ (λ q=>ed a q b) n) (N (ae l) (N (ip c) (ip f))))))
 exact⟨Z,Z6⟩
 refine Gz (vP d 2) f (Gl (V a.a) f o 1 H4 (Gz (V (!a.a)) f (Kj (v:= V (!a.a)) Z Z c Z (JH Z f Z) (fw (V (!a.a)) (JL Z c Z) (An Z (rt (rs (nt ?_))))))))
 rcases Nf (a.a) with r | r
 refine jF (cn r) (J8 (bN (JK ?_)))
 have P:=o.pk [1]
 refine JI (fw (vJ (b+1)) (JN (e:=B7.wrap ((b:Int)+1)) yk f3) (Mz Z (B8 ?_)))
 have Q:=P.pf []
 exact JX (b+1) ⟨Z,Z,Z,Z,Z,ZW⟩ (m.2 ⟨Q,Y,N (j) (N (ZJ (λ q=>ed a q b) n) (N (ae l) (N (ip c) (N (eP f) (ip r)))))⟩) (by show X g - (b+1) < X g - b; omega)
 refine jT (cn r) (JG ?_)
 have R:=o.pk [1]
 refine JI (Mz Z (An Z (rt (bR (tR (tR (bR (tR (rs ?_)))))))))
 have S:=R.pf []
 obtain rfl:_=(b:Int):=zj hr (iJ (N (j) (N (ZJ (λ q=>ed a q b) n) (N (ae l) (N (ip c) (N (eP f) (eP r)))))))
 exact⟨Z,S⟩
 refine T c (T c (T c (JR Z Z Z (JR Z Z Z (JR Z Z Z (T c (fw (V J) (JH Z c Z) (An Z (rt (rs (nt (jf (J8 (bN (JK ?_)))))))))))))))
 have Z8:=o.pk [1]
 refine JI (fw (vJ (b+1)) (JN (e:=B7.wrap ((b:Int)+1)) yk f3) (Mz Z (B8 ?_)))
 have Z4:=Z8.pf []
 exact JX (b+1) ⟨Z,Z,Z,Z,Z,ZW⟩ (m.2 ⟨Z4,Y,N (j) (N (ZJ (λ q=>ed a q b) n) (N (ae l) (eP c)))⟩) (by show X g - (b+1) < X g - b; omega)
 refine jF (dF z) (B9 (JV ?_))
 have G:ed a g 0=y3 ():=N (j) (N (ZJ (λ q=>ed a q b) (eH (ls:=g) (i:=b) Y)) Z)
 refine JV (J2 (JK (sr (An Z (rt (rs ?_))))))
 have Z3:=p.pf []
 obtain rfl:_=(-1):=zj hr (lD G)
 exact⟨Z,Z3⟩
def kw (c:List aF) (a:aF):Bool:=
 bnd (kZ c a) λ b=>decide (b >= 0)
theorem o5 (w D j k p d b) (a:aF) (r) (H:Own w D w [blk b (aF.J a) 118]) (l:Ro w D λ w'=>bP w' 3 j k (q0 aF.J d)) (m:k=X d) (t:X d<=9223372036854775807) (hr:kw d a=r):
    Calls v1 115 #[W j k p, .func (.func 116) #[] #[vP b 0]] w (dM λ v w'=>v= V r/\Own w D w' [blk b (aF.J a) 118]):=by
 unfold kw at hr
 subst m
 refine cb Tryz.func115 ?_
 refine sr (Ar Z (Mz Z (Mz Z ?_)))
 obtain⟨e,c⟩:∃ q,kZ d a=q:=⟨_,Z⟩
 obtain⟨u,f,g,h,s⟩:=Kb H
 refine cl Tryz.call168 (pR _ _ j (X d) p d b a e f (g _ l) Z Y c) ?_
 rintro _ x ⟨rfl,i⟩
 have n:=h _ _ i
 refine Kz (Zb (e >= 0)) (An Z (rt (rs ?_)))
 have o:=n.pf []
 obtain rfl:=zj hr zq1
 exact⟨Z,o⟩
def ku (d:aZ) (e:Nat) (f:aF):Bool:=
 bnd (eZ d e) λ a=>if a.2=Zk then bnd (y4 d.a.a (U a.1) ZZ) λ b=>bnd (kw b.b.a f) λ c=>c else J
theorem xU (w D B) (m:aZ) (b f j P) (E:aF) (Z2) (H:Own w D w [blk B [W b (X m.a.a) f] 114]) (n:r7 aB.abs j=m.a.a) (g:Ro w D λ w'=>bP w' 6 b (X m.a.a) (q0 aB.J j)) (R:X m.a.a<=f/\X m.a.a<=9223372036854775807) (h:∀ x ∈ j,Ro w D (λ w'=>bP w' 3 x.b.A (X x.b.a) (q0 aF.J x.b.a))/\(X x.b.a<=x.b.c/\X x.b.a<=9223372036854775807)) (ai:X m.a.a<=1000000) (hr:ku m P E=Z2):
    Calls v1 69 #[vP B 0,vU P, Zx (Zc (aF.J E))] w (dM λ v w'=>v= V Z2/\Own w D w' [blk B [W b (X m.a.a) f] 114]):=by
 unfold ku at hr
 have Q:=bg n
 refine cb Tryz.func69 ?_
 refine sr ?_
 refine cu (aF.J E) 118 H ?_
 intro F aj S
 refine Ar Z (Mz Z (Mz Z ?_))
 have Z8:=S.pb [0]
 obtain⟨⟨d,p⟩,s⟩:∃ q:Int × Bool,eZ m P=q:=⟨_,Z⟩
 obtain⟨ak,G,t,I,Z0⟩:=Kb Z8
 refine cl Tryz.call114 (l8 _ _ B m b f j P d p G n (t _ g) Y (λ x9 h9=>⟨t _ (h x9 h9).1,(h x9 h9).2⟩) g5 s) ?_
 rintro _ au ⟨rfl,Z7,u,y⟩
 have r:=I _ _ Z7
 replace u:0<=d/\d<=(X m.a.a:Int):=u
 replace y:Bool.toNat p=0\/d < (X m.a.a:Int):=y
 refine Mz Z (Kz (vI d) (Kz (V p) (Az Z (Ar Z (Mz Z (Mz Z ?_))))))
 rcases Nf (p) with a | a
 have h38t:Bool.toNat p=1:=by rw [a]; rfl
 refine Kj (v:=vP B 0) Z Z a Z (JM Z) (Gz (vP B 0) a (Gz (vP B 0) a (Gl (W b (X m.a.a) f) a r 0 P0 (Kj (v:=vJ (U d)) Z Z a Z (JN (e:=d) (JM Z) Y) ?_))))
 obtain⟨l,o⟩:=dJ (ls:=j) (i:=U d) aB.len f6 (r.ro g) f4
 have K:=gq n o
 have ag:=(h _ (E1 o)).2
 refine Kj (v:= Zq (Zw ⟨ab b,ao b+(U d) *6,Zv⟩)) Z Z a Z (JU (jy) Z Z ((r.ro g).addr (i:=U d) Y) Y) (Gz (Zq (Zw ⟨ab b,ao b+(U d) *6+1,Zv⟩)) a (Kj (v:= W l.b.A (X l.b.a) l.b.c) Z Z a Z (JS Z (bT.one P3 (((r.ro g).elem aB.len o f6).at_ (k:=1) Z))) (Gz (.func (.func 116) #[] #[vP F 0]) a ?_)))
 have Z4:=r.pb [0]
 obtain⟨C,z⟩:∃ q,kw l.b.a E=q:=⟨_,Z⟩
 obtain⟨av,L,M,Z5,ah⟩:=Kb Z4
 refine KF Z Z a Z (J6 Tryz.call115 Z (o5 _ _ l.b.A (X l.b.a) l.b.c l.b.a F E C L (M _ (h _ (E1 o)).1) Z Y z) ?_)
 rintro _ ax ⟨rfl,Z6⟩
 have Z3:=Z5 _ _ Z6
 refine fw (V C) (JL Z a Z) (An Z (rt (rs ?_)))
 have Z9:=Z3.pk [1]
 obtain rfl:_=C:=zj hr (N (ae s) (N (ip a) (N (ae (bu K)) (ae z))))
 exact⟨Z,Z9⟩
 have h38t:Bool.toNat p=0:=by rw [a]; rfl
 refine T a (T a (T a (T a (T a (T a (T a (T a (T a (T a (fw (V J) (JH Z a Z) (An Z (rt (rs ?_)))))))))))))
 have Z1:=r.pk [0]
 obtain rfl:=zj hr zq2
 exact⟨Z,Z1⟩
def gZ:List aN->Int->Int
  | [],a=>a
  | b::c,a=>if b.f=Zk then gZ c (B7.wrap ((B7.wrap (a+((X b.b.a:Nat):Int)))+1)) else gZ c (B7.wrap (a+((X b.b.a:Nat):Int)))
def ng (a:aZ):Int:=
 bnd (gZ a.a.a 0) λ sLrL=>sLrL
theorem wH (w D y) (d:aZ) (b h k R) (H:Own w D w [blk y [W b (X d.a.a) h] 114]) (m:r7 aB.abs k=d.a.a) (j:Ro w D λ w'=>bP w' 6 b (X d.a.a) (q0 aB.J k)) (I:X d.a.a<=h/\X d.a.a<=9223372036854775807) (u:∀ x ∈ k,Ro w D (λ w'=>bP w' 3 x.b.A (X x.b.a) (q0 aF.J x.b.a))/\(X x.b.a<=x.b.c/\X x.b.a<=9223372036854775807)) (Z4:X d.a.a<=1000000) (hr:ng d=R):
    Calls v1 70 #[vP y 0] w (dM λ v w'=>v=vI R/\Own w D w' [blk y [W b (X d.a.a) h] 114]):=by
 unfold ng at hr
 have G:=bg m
 refine cb Tryz.func70 ?_
 refine sr (Ar Z (An Z (JG (sr (Mz Z (Kz (vP y 0) (Kz (vP y 0) (Lz (W b (X d.a.a) h) H 0 P0 (Kz (vJ (X d.a.a)) (Mn Z (bo ?_)))))))))))
 have Z7:=H.pf []
 obtain⟨K,l⟩:=Io λ (g:Int) (a:Nat) w'=>Own w D w' [blk y [W b (X d.a.a) h] 114]/\a<=X d.a.a/\gZ d.a.a 0=gZ (r6 a d.a.a) g
 refine B4 (λ i:Int × Nat=> [(3,vI i.1),(11,vJ i.2),(10,vJ (X d.a.a)),(9, W b (X d.a.a) h),(2,vI 0)]) K (λ i=>X d.a.a - i.2) (0,0) ⟨Z,Z,Z,Z,Z,ZW⟩ (l.2 ⟨Z7,Y,Z⟩) ?_
 rintro ⟨g,a⟩ Z3 z
 show Wp _ _ _ [(3,vI g),(11,vJ a),(10,vJ (X d.a.a)),(9, W b (X d.a.a) h),(2,vI 0)] _ _
 obtain⟨n,S,o⟩:=l.1 z
 refine sr (Kz (Zb ((a:Int) < (X d.a.a:Int))) (nt (JG ?_)))
 by_cases B:(a:Int) < (X d.a.a:Int)
 obtain⟨f,p⟩:=dJ (ls:=k) (i:=a) aB.len f6 (n.ro j) f4
 have C:=gq m p
 have Z8:=(u _ (E1 p)).2
 have t:=drop_at C
 refine jT (dT B) (sk (JG (bo (sr (fw (Zq (Zw ⟨ab b,ao b+a *6,Zv⟩)) (JU (jy) Z Z ((n.ro j).addr (i:=a) Y) Y) (fw (Zx (Zc (aB.J f))) (JS Z (JW (cs:=(aB.J f)) O8 O9 ((n.ro j).elem aB.len p f6))) ?_))))))
 refine cu [.int .u64 0, W Zv 0 0, V J, Zz ⟨Zc []⟩, Zz ⟨Zc []⟩, V J] 164 n ?_
 intro E Z9 L
 refine cO (aB.J f) 0 L O9 ?_
 intro Z1 s
 refine ns (Mz Z (Kz (vP E 1) (Lz (W f.b.A (X f.b.a) f.b.c) s 0 P3 (Kz (vJ (X f.b.a)) (Kz (vI (B7.wrap (g+(X f.b.a:Int)))) (Ar Z (Kz (vP E 2) (Lz (V f.f) s 0 H4 (nt ?_)))))))))
 rcases Nf (f.f) with r | r
 refine jT r ?_
 have M:=s.pk [1]
 refine JI (Mz Z (Kz (vI (B7.wrap ((B7.wrap (g+(X f.b.a:Int)))+1))) (Az Z (B8 (bN (JK (JI (fw (vJ (a+1)) (JN (e:=B7.wrap ((a:Int)+1)) yk f3) (Mz Z (B8 ?_))))))))))
 have Z5:=M.pf []
 exact JX (B7.wrap ((B7.wrap (g+(X f.b.a:Int)))+1),a+1) ⟨Z,Z,Z,Z,Z,ZW⟩ (l.2 ⟨Z5,Y,N (o) (N (ZJ (λ q=>gZ q g) t) (ip r))⟩) (by show X d.a.a - (a+1) < X d.a.a - a; omega)
 refine jF r (J8 (bN (JK ?_)))
 have Z6:=s.pk [1]
 refine JI (fw (vJ (a+1)) (JN (e:=B7.wrap ((a:Int)+1)) yk f3) (Mz Z (B8 ?_)))
 have P:=Z6.pf []
 exact JX (B7.wrap (g+(X f.b.a:Int)),a+1) ⟨Z,Z,Z,Z,Z,ZW⟩ (l.2 ⟨P,Y,N (o) (N (ZJ (λ q=>gZ q g) t) (eP r))⟩) (by show X d.a.a - (a+1) < X d.a.a - a; omega)
 refine jF (dF B) (B9 (JV ?_))
 have F:gZ d.a.a 0=g:=N (o) (N (ZJ (λ q=>gZ q g) (eH (ls:=d.a.a) (i:=a) Y)) Z)
 refine JV (J2 (JK (sr (Mz Z (An Z (rt (rs ?_)))))))
 have Q:=n.pf []
 obtain rfl:=zj hr zq1
 exact⟨Z,Q⟩
def dO (p1c0i0:aF) (p1c0i1:Nat) (a:aN):List aF->Nat->Unit ⊕ Int
  | [],b=>y3 ()
  | d::c,b=>bnd (lq p1c0i0.j d.j) λ e=>if((a.a:Nat):Int)=((p1c0i1:Nat):Int) then dO p1c0i0 p1c0i1 a c (b+1) else if e.2=Zk then if p1c0i0.a=Zk then y6 ((b:Nat):Int) else if d.a=Zk then y6 ((b:Nat):Int) else dO p1c0i0 p1c0i1 a c (b+1) else dO p1c0i0 p1c0i1 a c (b+1)
def kW (b:List aF) (p1c0i0:aF) (p1c0i1:Nat) (a:aN):Int:=
 lp (dO p1c0i0 p1c0i1 a b 0) λ _=>(-1)
theorem pG (w D F Q R f g1c0i0) (p1c0i0:aF) (g1c0i1 p1c0i1 m j) (a:aN) (g h r0) (H:Own w D w [blk g1c0i0 (aF.J p1c0i0) 118,blk g1c0i1 [.int .u64 ((p1c0i1:Nat):Int)] 32,blk m [.func (.func 169) #[] #[Zq (Zw ⟨g1c0i0,0,Zv⟩), Zq (Zw ⟨g1c0i1,0,Zv⟩)]] 153,blk j [.int .u64 ((a.a:Nat):Int), W g (X a.b.a) h, V a.f, Zz ⟨Zc a.e.j.a⟩, Zz ⟨Zc a.e.j.b⟩, V a.e.a] 164]) (B:Ro w D λ w'=>bP w' 3 F Q (q0 aF.J f)) (S:Q=X f) (aC:X f<=9223372036854775807) (G:Ro w D λ w'=>bP w' 3 g (X a.b.a) (q0 aF.J a.b.a)) (I:X a.b.a<=h/\X a.b.a<=9223372036854775807) (hr:kW f p1c0i0 p1c0i1 a=r0):
    Calls v1 168 #[W F Q R, .func (.func 119) #[] #[vP m 0,vP j 0]] w (dM λ v w'=>v=vI r0/\Own w D w' [blk g1c0i0 (aF.J p1c0i0) 118,blk g1c0i1 [vU p1c0i1] 32,blk m [.func (.func 169) #[] #[vP g1c0i0 0,vP g1c0i1 0]] 153,blk j [vU a.a, W g (X a.b.a) h, V a.f, Zz ⟨Zc a.e.j.a⟩, Zz ⟨Zc a.e.j.b⟩, V a.e.a] 164]):=by
 subst S
 refine cb Tryz.func168 ?_
 refine sr (An Z (JG (sr (Mz Z (Kz (vJ (X f)) (Mn Z (bo ?_)))))))
 have Z8:=H.pf []
 obtain⟨Z4,r⟩:=mE λ (b:Nat) w'=>Own w D w' [blk g1c0i0 (aF.J p1c0i0) 118,blk g1c0i1 [vU p1c0i1] 32,blk m [.func (.func 169) #[] #[vP g1c0i0 0,vP g1c0i1 0]] 153,blk j [vU a.a, W g (X a.b.a) h, V a.f, Zz ⟨Zc a.e.j.a⟩, Zz ⟨Zc a.e.j.b⟩, V a.e.a] 164]/\b<=X f/\dO p1c0i0 p1c0i1 a f 0=dO p1c0i0 p1c0i1 a (r6 b f) b
 refine B4 (λ i:Nat=> [(4,vI 0),(8,vJ i),(7,vJ (X f)),(0, W F (X f) R),(1, .func (.func 119) #[] #[vP m 0,vP j 0])]) Z4 (λ i=>X f - i) 0 ⟨Z,Z,Z,Z,Z,ZW⟩ (r.2 ⟨Z8,Y,Z⟩) ?_
 rintro b aD Z7
 show Wp _ _ _ [(4,vI 0),(8,vJ b),(7,vJ (X f)),(0, W F (X f) R),(1, .func (.func 119) #[] #[vP m 0,vP j 0])] _ _
 obtain⟨u,az,n⟩:=r.1 Z7
 refine sr (Kz (Zb ((b:Int) < (X f:Int))) (nt (JG ?_)))
 by_cases K:(b:Int) < (X f:Int)
 obtain⟨d,A⟩:=dJ (ls:=f) (i:=b) aF.len f6 (u.ro B) f4
 have s:=drop_at A
 refine jT (dT K) (sk (JG (bo (sr (Mz Z (Ar Z (Mz Z (Mz Z (Mz Z (fw (Zq (Zw ⟨ab F,ao F+b *3,Zv⟩)) (JU (vz) Z Z ((u.ro B).addr (i:=b) Y) Y) (fw (Zx (Zc (aF.J d))) (JS Z (JW (cs:=(aF.J d)) P1 P2 ((u.ro B).elem aF.len A f6))) ?_)))))))))))
 refine WL.do Z (Kh Tryz.call119 Z Z ?_ (λ _ _ k=>k))
 refine cb Tryz.func119 ?_
 refine sr ?_
 refine cu (aF.J d) 118 u ?_
 intro aG aH z
 refine Ar Z (Lz (.func (.func 169) #[] #[vP g1c0i0 0,vP g1c0i1 0]) z 3 Tryz.isAgg153 (Kz (vP j 0) (Lz (vU a.a) z 4 E3 (La (aF.J d) z 0 P1 P2 ?_))))
 refine WL.do Z (Kh Tryz.call169 Z Z ?_ (λ _ _ k=>k))
 refine cb Tryz.func169 ?_
 refine sr ?_
 refine cu (aF.J d) 118 z ?_
 intro L aI C
 refine Ar Z (Kz (vP g1c0i0 0) (La (au.J p1c0i0.j) C 2 D0 C7 (Kz (vP L 0) (La (au.J d.j) C 0 D0 C7 ?_))))
 obtain⟨⟨E,x⟩,o⟩:∃ q:au × Bool,lq p1c0i0.j d.j=q:=⟨_,Z⟩
 obtain⟨aJ,M,aA,Z5,aB⟩:=JJ C
 refine cl Tryz.call152 (qf _ _ p1c0i0.j d.j E x M o) ?_
 rintro _ aK ⟨rfl,Z6⟩
 have Z3:=Z5 _ _ Z6
 refine Mz Z (Kz (Zx (Zc (au.J E))) (Kz (V x) ?_))
 refine cu [Zz ⟨Zc []⟩, Zz ⟨Zc []⟩] 37 Z3 ?_
 intro aL aM Z9
 refine cO (au.J E) 0 Z9 C7 ?_
 intro aO Z1
 refine An Z (JG ?_)
 have t:=Z1.px [] [0] []
 refine JI (Mz Z (Lz (vU p1c0i1) t 3 E3 (fw (Zb (¬ ((a.a:Int)=(p1c0i1:Int)))) (JZ (e:= !(Zy ((a.a:Int)=(p1c0i1:Int)))) yk ZY) (Mz Z ?_))))
 by_cases p:(a.a:Int)=(p1c0i1:Int)
 refine Sk Z Z (dF (Nc p)) Z (fw (V J) (JH Z (dF (Nc p)) Z) (Mz Z (T Z (T Z (T Z (JR Z Z Z (JR Z Z Z (T Z (fw (V J) (JH Z Z Z) (An Z (rt (rs (An Z (rt (rs (nt (jf (J8 (bN (JK ?_))))))))))))))))))))
 have Z2:=t.pk [2,3,4,5]
 refine JI (fw (vJ (b+1)) (JN (e:=B7.wrap ((b:Int)+1)) yk f3) (Mz Z (B8 ?_)))
 have Z0:=Z2.pf []
 exact JX (b+1) ⟨Z,Z,Z,Z,Z,ZW⟩ (r.2 ⟨Z0,Y,N (n) (N (ZJ (λ q=>dO p1c0i0 p1c0i1 a q b) s) (N (ae o) (ip p)))⟩) (by show X f - (b+1) < X f - b; omega)
 refine gw (V x) (dT p) (JM Z) (fw (V x) (JL Z (dT p) Z) (Mz Z ?_))
 rcases Nf (x) with c | c
 refine Gz (vP g1c0i0 2) c (Gl (V p1c0i0.a) c t 2 H4 (Kj (v:= V p1c0i0.a) Z Z c Z (JM Z) ?_))
 rcases Nf (p1c0i0.a) with l | l
 refine T l (T l (Kj (v:= V Zk) Z Z c Z (JL Z l Z) (fw (V Zk) (JL Z c Z) (An Z (rt (rs (An Z (rt (rs (nt (jt (JG ?_))))))))))))
 have aa:=t.pk [2,3,4,5]
 refine JI (Mz Z (An Z (rt (bR (tR (tR (bR (tR (rs ?_)))))))))
 have af:=aa.pf []
 obtain rfl:_=(b:Int):=zj hr (iJ (N (n) (N (ZJ (λ q=>dO p1c0i0 p1c0i1 a q b) s) (N (ae o) (N (iN p) (N (ip c) (ip l)))))))
 exact⟨Z,af⟩
 refine Gz (vP L 2) l (Gl (V d.a) l t 0 H4 (Kj (v:= V d.a) Z Z c Z (JH Z l Z) (fw (V d.a) (JL Z c Z) (An Z (rt (rs (An Z (rt (rs (nt ?_))))))))))
 rcases Nf (d.a) with y | y
 refine jT y (JG ?_)
 have ag:=t.pk [2,3,4,5]
 refine JI (Mz Z (An Z (rt (bR (tR (tR (bR (tR (rs ?_)))))))))
 have ah:=ag.pf []
 obtain rfl:_=(b:Int):=zj hr (iJ (N (n) (N (ZJ (λ q=>dO p1c0i0 p1c0i1 a q b) s) (N (ae o) (N (iN p) (N (ip c) (N (eP l) (ip y))))))))
 exact⟨Z,ah⟩
 refine jF y (J8 (bN (JK ?_)))
 have ai:=t.pk [2,3,4,5]
 refine JI (fw (vJ (b+1)) (JN (e:=B7.wrap ((b:Int)+1)) yk f3) (Mz Z (B8 ?_)))
 have aj:=ai.pf []
 exact JX (b+1) ⟨Z,Z,Z,Z,Z,ZW⟩ (r.2 ⟨aj,Y,N (n) (N (ZJ (λ q=>dO p1c0i0 p1c0i1 a q b) s) (N (ae o) (N (iN p) (N (ip c) (N (eP l) (eP y))))))⟩) (by show X f - (b+1) < X f - b; omega)
 refine T c (T c (T c (JR Z Z Z (JR Z Z Z (T c (fw (V J) (JH Z c Z) (An Z (rt (rs (An Z (rt (rs (nt (jf (J8 (bN (JK ?_)))))))))))))))))
 have ak:=t.pk [2,3,4,5]
 refine JI (fw (vJ (b+1)) (JN (e:=B7.wrap ((b:Int)+1)) yk f3) (Mz Z (B8 ?_)))
 have av:=ak.pf []
 exact JX (b+1) ⟨Z,Z,Z,Z,Z,ZW⟩ (r.2 ⟨av,Y,N (n) (N (ZJ (λ q=>dO p1c0i0 p1c0i1 a q b) s) (N (ae o) (N (iN p) (eP c))))⟩) (by show X f - (b+1) < X f - b; omega)
 refine jF (dF K) (B9 (JV ?_))
 have P:dO p1c0i0 p1c0i1 a f 0=y3 ():=N (n) (N (ZJ (λ q=>dO p1c0i0 p1c0i1 a q b) (eH (ls:=f) (i:=b) Y)) Z)
 refine JV (J2 (JK (sr (An Z (rt (rs ?_))))))
 have ax:=u.pf []
 obtain rfl:_=(-1):=zj hr (lD P)
 exact⟨Z,ax⟩
def kr (c:List aF) (p1c0i0:aF) (p1c0i1:Nat) (a:aN):Bool:=
 bnd (kW c p1c0i0 p1c0i1 a) λ b=>decide (b >= 0)
theorem oU (w D o p x i g1c0i0) (p1c0i0:aF) (g1c0i1 p1c0i1 d e) (a:aN) (c b y) (H:Own w D w [blk g1c0i0 (aF.J p1c0i0) 118,blk g1c0i1 [.int .u64 ((p1c0i1:Nat):Int)] 32,blk d [.func (.func 169) #[] #[Zq (Zw ⟨g1c0i0,0,Zv⟩), Zq (Zw ⟨g1c0i1,0,Zv⟩)]] 153,blk e [.int .u64 ((a.a:Nat):Int), W c (X a.b.a) b, V a.f, Zz ⟨Zc a.e.j.a⟩, Zz ⟨Zc a.e.j.b⟩, V a.e.a] 164]) (r:Ro w D λ w'=>bP w' 3 o p (q0 aF.J i)) (s:p=X i) (A:X i<=9223372036854775807) (f:Ro w D λ w'=>bP w' 3 c (X a.b.a) (q0 aF.J a.b.a)) (k:X a.b.a<=b/\X a.b.a<=9223372036854775807) (hr:kr i p1c0i0 p1c0i1 a=y):
    Calls v1 115 #[W o p x, .func (.func 119) #[] #[vP d 0,vP e 0]] w (dM λ v w'=>v= V y/\Own w D w' [blk g1c0i0 (aF.J p1c0i0) 118,blk g1c0i1 [vU p1c0i1] 32,blk d [.func (.func 169) #[] #[vP g1c0i0 0,vP g1c0i1 0]] 153,blk e [vU a.a, W c (X a.b.a) b, V a.f, Zz ⟨Zc a.e.j.a⟩, Zz ⟨Zc a.e.j.b⟩, V a.e.a] 164]):=by
 unfold kr at hr
 subst s
 refine cb Tryz.func115 ?_
 refine sr (Ar Z (Mz Z (Mz Z ?_)))
 obtain⟨j,g⟩:∃ q,kW i p1c0i0 p1c0i1 a=q:=⟨_,Z⟩
 obtain⟨B,l,h,m,z⟩:=KT H
 refine cl Tryz.call168 (pG _ _ o (X i) x i g1c0i0 p1c0i0 g1c0i1 p1c0i1 d e a c b j l (h _ r) Z Y (h _ f) Y g) ?_
 rintro _ C ⟨rfl,n⟩
 have t:=m _ _ n
 refine Kz (Zb (j >= 0)) (An Z (rt (rs ?_)))
 have u:=t.pf []
 obtain rfl:=zj hr zq1
 exact⟨Z,u⟩
def gJ (e:Nat) (f:aF):List aN->List Nat->(List Nat)
  | [],b=>b
  | a::c,b=>bnd (kr a.b.a f e (aN.q a.a (Ll.q a.b.a) a.f a.e)) λ d=>if d=Zk then gJ e f c (b++ [a.a]) else gJ e f c b
def eu (a:aZ) (b:Nat) (c:aF):(List Nat):=
 bnd (gJ b c a.a.a []) λ sLrL=>sLrL
theorem qV (w D Q) (f:aZ) (g h p r) (l:aF) (r0) (H:Own w D w [blk Q [W g (X f.a.a) h] 114]) (u:r7 aB.abs p=f.a.a) (n:Ro w D λ w'=>bP w' 6 g (X f.a.a) (q0 aB.J p)) (aj:X f.a.a<=h/\X f.a.a<=9223372036854775807) (o:∀ x ∈ p,Ro w D (λ w'=>bP w' 3 x.b.A (X x.b.a) (q0 aF.J x.b.a))/\(X x.b.a<=x.b.c/\X x.b.a<=9223372036854775807)) (bf:X f.a.a<=1000000) (hr:eu f r l=r0):
    Calls v1 71 #[vP Q 0,vU r, Zx (Zc (aF.J l))] w (dM λ v w'=> ∃ B0 b0,v= W B0 (X r0) b0/\Own w D w' [row B0 (X r0) b0 (q0 (eN .u64) r0) 32 1,blk Q [W g (X f.a.a) h] 114]):=by
 unfold eu at hr
 have ai:=bg u
 refine cb Tryz.func71 ?_
 refine sr ?_
 refine cu (aF.J l) 118 H ?_
 intro bi bn R
 refine Ar Z (Mz Z (La (aF.J l) R 0 P1 P2 ?_))
 refine WL.do Z (J6 Tryz.call118 Z ?_ (λ _ _ k=>k))
 refine cb Tryz.func118 ?_
 refine sr ?_
 refine cu [vU r] 32 R ?_
 intro z bq ak
 refine cu (aF.J l) 118 ak ?_
 intro B bu au
 refine Ar Z (Kz (.func (.func 169) #[] #[vP B 0,vP z 0]) (An Z (rt (rs ?_))))
 refine cu [Zj] 153 au ?_
 intro C bv av
 refine cO [.func (.func 169) #[] #[vP B 0,vP z 0]] 0 av Tryz.sizeOf153 ?_
 intro ax ay
 refine nt (JG ?_)
 have S:=ay.px [] [3] []
 refine JI (An Z (JG (sr (Mz Z (Kz (vP Q 0) (Kz (vP Q 0) (Lz (W g (X f.a.a) h) S 3 P0 (Kz (vJ (X f.a.a)) (Mn Z (bo ?_))))))))))
 have az:Own w D ax (row Zv 0 0 (q0 (eN .u64) []) 32 1::_):=S.free (cK 32 1)
 have aA:=az.pb [0]
 obtain⟨aC,t⟩:=wY λ E (F:Nat) d (b:Nat) w'=>Own w D w' [blk C [.func (.func 169) #[] #[vP B 0,vP z 0]] 153,blk B (aF.J l) 118,blk z [vU r] 32,blk Q [W g (X f.a.a) h] 114,row E (X d) F (q0 (eN .u64) d) 32 1]/\b<=X f.a.a/\X d<=b/\gJ r l f.a.a []=gJ r l (r6 b f.a.a) d
 refine B4 (λ i:(Option Addr) × Nat × (List Nat) × Nat=> [(8, W i.1 (X i.2.2.1) i.2.1),(19,vJ i.2.2.2),(18,vJ (X f.a.a)),(17, W g (X f.a.a) h),(7,vP C 0),(6, W Zv 0 0)]) aC (λ i=>X f.a.a - i.2.2.2) (Zv,0, [],0) ⟨Z,Z,Z,Z,Z,Z,ZW⟩ (t.2 ⟨aA,(show 0<=X f.a.a/\0<=0/\gJ r l f.a.a []=gJ r l (r6 0 f.a.a) [] from ⟨Y,Y,Z⟩)⟩) ?_
 rintro ⟨E,F,d,b⟩ bz Z8
 show Wp _ _ _ [(8, W E (X d) F),(19,vJ b),(18,vJ (X f.a.a)),(17, W g (X f.a.a) h),(7,vP C 0),(6, W Zv 0 0)] _ _
 obtain⟨G,aU,aV,I⟩:=t.1 Z8
 refine sr (Kz (Zb ((b:Int) < (X f.a.a:Int))) (nt (JG ?_)))
 by_cases Z4:(b:Int) < (X f.a.a:Int)
 obtain⟨a,j⟩:=dJ (ls:=p) (i:=b) aB.len f6 (G.ro n) f4
 have Z3:=gq u j
 have aW:=(o _ (E1 j)).2
 have M:=drop_at Z3
 refine jT (dT Z4) (sk (JG (bo (sr (fw (Zq (Zw ⟨ab g,ao g+b *6,Zv⟩)) (JU (jy) Z Z ((G.ro n).addr (i:=b) Y) Y) (fw (Zx (Zc (aB.J a))) (JS Z (JW (cs:=(aB.J a)) O8 O9 ((G.ro n).elem aB.len j f6))) ?_))))))
 refine cu [.int .u64 0, W Zv 0 0, V J, Zz ⟨Zc []⟩, Zz ⟨Zc []⟩, V J] 164 G ?_
 intro L bA aD
 refine cO (aB.J a) 0 aD O9 ?_
 intro bB Z9
 refine ns (Kz (vP L 1) (Lz (W a.b.A (X a.b.a) a.b.c) Z9 0 P3 (Kz (.func (.func 119) #[] #[vP C 0,vP L 0]) ?_)))
 have aG:=Z9.pf [2,3,1]
 obtain⟨Z1,Z7⟩:∃ q,kr a.b.a l r (aN.q a.a (Ll.q a.b.a) a.f a.e)=q:=⟨_,Z⟩
 obtain⟨bC,Z2,Z5,Z0,aX⟩:=KT aG
 refine cl Tryz.call115 (oU _ _ a.b.A (X a.b.a) a.b.c a.b.a B l z r C L (aN.q a.a (Ll.q a.b.a) a.f a.e) a.b.A a.b.c Z1 Z2 (Z5 _ (o _ (E1 j)).1) Z Y (Z5 _ (o _ (E1 j)).1) Y Z7) ?_
 rintro _ bD ⟨rfl,aa⟩
 have Z6:=Z0 _ _ aa
 refine nt ?_
 rcases Nf (Z1) with K | K
 refine jT K (JI (Mz Z (Kz (vP L 0) (Lz (vU a.a) Z6 3 E3 ?_))))
 refine jW [vU a.a] 32 1 1 Z6 ?_
 intro aH bE P
 replace P:=Ke (y:=row aH 1 1 (q0 (eN .u64) ([a.a])) 32 1) Z P
 have af:=P.pf [6]
 refine WL.do Z (J7 (k:=X d) (m:=1) (iZ) af Z Z (fq Tryz.underlying35 (af.rds (i:=1) Z) (di mW ([a.a]))) Z Y (s:=X (d++ [a.a])) f7 (List.flatMap_append).symm ?_)
 intro aI aJ bF aK
 have aY:X (d++ [a.a])=X d+1:=by simp only [List.length_append,List.length_cons,List.length_nil]
 refine Az Z (B8 (bN (JK ?_)))
 have aL:=aK.px [] [1,5] []
 refine JI (fw (vJ (b+1)) (JN (e:=B7.wrap ((b:Int)+1)) yk f3) (Mz Z (B8 ?_)))
 have aM:=aL.px [3] [] [0]
 exact JX (aI,aJ,(d++ [a.a]),b+1) ⟨Z,Z,Z,Z,Z,Z,ZW⟩ (t.2 ⟨aM,Y,Y,N (I) (N (ZJ (λ q=>gJ r l q d) M) (N (ae Z7) (ip K)))⟩) (by show X f.a.a - (b+1) < X f.a.a - b; omega)
 refine jF K (J8 (bN (JK ?_)))
 have aO:=Z6.px [] [3] []
 refine JI (fw (vJ (b+1)) (JN (e:=B7.wrap ((b:Int)+1)) yk f3) (Mz Z (B8 ?_)))
 have aP:=aO.pf [2]
 exact JX (E,F,d,b+1) ⟨Z,Z,Z,Z,Z,Z,ZW⟩ (t.2 ⟨aP,Y,Y,N (I) (N (ZJ (λ q=>gJ r l q d) M) (N (ae Z7) (eP K)))⟩) (by show X f.a.a - (b+1) < X f.a.a - b; omega)
 refine jF (dF Z4) (B9 (JV ?_))
 have ag:gJ r l f.a.a []=d:=N (I) (N (ZJ (λ q=>gJ r l q d) (eH (ls:=f.a.a) (i:=b) Y)) Z)
 refine JV (J2 (JK (JG ?_)))
 have aQ:=G.pk [3,4]
 refine JI (Mz Z (An Z (rt (rs ?_))))
 have aR:=aQ.pb [0]
 obtain rfl:=zj hr zq1
 exact⟨E,F,Z,aR⟩
structure mg where q::
 f:Nat
 a:aF
def mg.J (x:mg):List ZX:= [.int .u64 ((x.f:Nat):Int), Zz ⟨Zc x.a.j.a⟩, Zz ⟨Zc x.a.j.b⟩, V x.a.a]
instance:Bk mg:=⟨λ x _=>bk x.f+(bk x.a+(0))⟩
theorem mg.len:∀ x,X (mg.J x)=4:=λ _=>rfl
theorem mg.one:∀ x, ∀ u ∈ mg.J x,u.oneCell'=Zk:=λ x u hu=>by
 simp only [mg.J,u5,v6,or_false] at hu
 rcases hu with rfl | rfl | rfl | rfl <;> rfl
def M7 (w:ZQ) (x:mg):Prop:=(x.f<=18446744073709551615)/\(Le w x.a)
instance:Inhabited mg:=⟨⟨ZZ,ZZ⟩⟩
def gV (d:aZ):List aN->Unit ⊕ (mg × Bool)
  | []=>y3 ()
  | a::b=>if a.f=Zk then bnd (eu d a.a a.e) λ c=>if((X c:Nat):Int)=0 then y6 (mg.q a.a a.e,Zk) else gV d b else gV d b
def kL (a:aZ):mg × Bool:=
 lp (gV a a.a.a) λ _=>(mg.q 0 (aF.q (au.q [] []) J),J)
theorem xe (w D E) (f:aZ) (g h l) (r0:mg) (r1) (H:Own w D w [blk E [W g (X f.a.a) h] 114]) (n:r7 aB.abs l=f.a.a) (j:Ro w D λ w'=>bP w' 6 g (X f.a.a) (q0 aB.J l)) (Z9:X f.a.a<=h/\X f.a.a<=9223372036854775807) (o:∀ x ∈ l,Ro w D (λ w'=>bP w' 3 x.b.A (X x.b.a) (q0 aF.J x.b.a))/\(X x.b.a<=x.b.c/\X x.b.a<=9223372036854775807)) (aI:X f.a.a<=1000000) (hr:kL f=(r0,r1)):
    Calls v1 121 #[vP E 0] w (dM λ v w'=>v= .tuple #[Zx (Zc (mg.J r0)), V r1]/\Own w D w' [blk E [W g (X f.a.a) h] 114]):=by
 have Z3:=bg n
 refine cb Tryz.func121 ?_
 refine sr ?_
 refine cu [.int .u64 0, Zz ⟨Zc []⟩, Zz ⟨Zc []⟩, V J] 194 H ?_
 intro I aJ L
 refine An Z (JG (sr (Mz Z (Kz (vP E 0) (Kz (vP E 0) (Lz (W g (X f.a.a) h) L 1 P0 (Kz (vJ (X f.a.a)) (Mn Z (bo ?_)))))))))
 have Z1:=L.pf []
 obtain⟨Z2,p⟩:=mE λ (d:Nat) w'=>Own w D w' [blk I [.int .u64 0, Zz ⟨Zc []⟩, Zz ⟨Zc []⟩, V J] 194,blk E [W g (X f.a.a) h] 114]/\d<=X f.a.a/\gV f f.a.a=gV f (r6 d f.a.a)
 refine B4 (λ i:Nat=> [(3, V J),(11,vJ i),(10,vJ (X f.a.a)),(9, W g (X f.a.a) h),(2,vP I 0),(0,vP E 0)]) Z2 (λ i=>X f.a.a - i) 0 ⟨Z,Z,Z,Z,Z,Z,ZW⟩ (p.2 ⟨Z1,Y,Z⟩) ?_
 rintro d aK M
 show Wp _ _ _ [(3, V J),(11,vJ d),(10,vJ (X f.a.a)),(9, W g (X f.a.a) h),(2,vP I 0),(0,vP E 0)] _ _
 obtain⟨s,az,r⟩:=p.1 M
 refine sr (Kz (Zb ((d:Int) < (X f.a.a:Int))) (nt (JG ?_)))
 by_cases Z5:(d:Int) < (X f.a.a:Int)
 obtain⟨a,t⟩:=dJ (ls:=l) (i:=d) aB.len f6 (s.ro j) f4
 have Z6:=gq n t
 have aA:=(o _ (E1 t)).2
 have u:=drop_at Z6
 refine jT (dT Z5) (sk (JG (bo (sr (fw (Zq (Zw ⟨ab g,ao g+d *6,Zv⟩)) (JU (jy) Z Z ((s.ro j).addr (i:=d) Y) Y) (fw (Zx (Zc (aB.J a))) (JS Z (JW (cs:=(aB.J a)) O8 O9 ((s.ro j).elem aB.len t f6))) ?_))))))
 refine cu [.int .u64 0, W Zv 0 0, V J, Zz ⟨Zc []⟩, Zz ⟨Zc []⟩, V J] 164 s ?_
 intro y aL Z0
 refine cO (aB.J a) 0 Z0 O9 ?_
 intro aM z
 refine ns (Kz (vP y 2) (Lz (V a.f) z 0 H4 (Mz Z ?_)))
 rcases Nf (a.f) with b | b
 refine Kj (v:=vP E 0) Z Z b Z (JM Z) (Gz (vP y 0) b (Gl (vU a.a) b z 0 E3 (Gz (vP y 3) b (Ga (aF.J a.e) b z 0 P1 P2 ?_))))
 have aa:=z.pf [2]
 obtain⟨B,C⟩:∃ q,eu f a.a a.e=q:=⟨_,Z⟩
 obtain⟨aN,P,G,Q,aC⟩:=Kb aa
 refine KF Z Z b Z (J6 Tryz.call71 Z (qV _ _ E f g h l a.a a.e B P n (G _ j) Y (λ x9 h9=>⟨G _ (o x9 h9).1,(o x9 h9).2⟩) g5 C) ?_)
 rintro _ aO ⟨aP,aQ,rfl,R⟩
 have Z7:=Q _ _ R
 have aH:=Z7.rowC (i:=0) Z
 refine Gz (vJ (X B)) b (Gz (Zb ((X B:Int)=0)) b (fw (Zb ((X B:Int)=0)) (JL Z b Z) (nt ?_)))
 by_cases F:(X B:Int)=0
 refine jT (dT F) (JG ?_)
 have K:=Z7.pk [1,2,3]
 refine JI (Kz (vP y 0) (Lz (vU a.a) K 1 E3 (Kz (vP y 3) (La (aF.J a.e) K 1 P1 P2 (Kz (Zx #[vU a.a, Zz ⟨Zc a.e.j.a⟩, Zz ⟨Zc a.e.j.b⟩, V a.e.a]) ?_)))))
 have af:=K.pf [2]
 refine cO [vU a.a, Zz ⟨Zc a.e.j.a⟩, Zz ⟨Zc a.e.j.b⟩, V a.e.a] 0 af P4 ?_
 intro aR S
 refine An Z (rt (bR (tR (tR (bR (tR (JY (gH (vs:= [Zx #[vU a.a, Zz ⟨Zc a.e.j.a⟩, Zz ⟨Zc a.e.j.b⟩, V a.e.a], V Zk]) Z (bW.cell Z (JW (cs:= [vU a.a, Zz ⟨Zc a.e.j.a⟩, Zz ⟨Zc a.e.j.b⟩, V a.e.a]) Tryz.isAgg194 P4 ((S.cls (i:=0) Z).lit (k:=0) (m:=4) Z)) (bW.tmp Z bW.nil)) (M9 Z)) ?_)))))))
 have ag:=S.pk [1]
 obtain⟨rfl,rfl⟩:=fK (zj hr (show _=(mg.q a.a a.e,Zk) from iJ (N (r) (N (ZJ (λ q=>gV f q) u) (N (ip b) (N (ae C) (ip F)))))))
 exact⟨Z,ag⟩
 refine jF (dF F) (J8 (bN (JK ?_)))
 have ah:=Z7.pk [1,3]
 refine JI (fw (vJ (d+1)) (JN (e:=B7.wrap ((d:Int)+1)) yk f3) (Mz Z (B8 ?_)))
 have ai:=ah.pb [0]
 exact JX (d+1) ⟨Z,Z,Z,Z,Z,Z,ZW⟩ (p.2 ⟨ai,Y,N (r) (N (ZJ (λ q=>gV f q) u) (N (ip b) (N (ae C) (iN F))))⟩) (by show X f.a.a - (d+1) < X f.a.a - d; omega)
 refine T b (T b (T b (T b (T b (T b (T b (T b (fw (V J) (JH Z b Z) (nt (jf (J8 (bN (JK ?_)))))))))))))
 have aj:=z.pk [1,2]
 refine JI (fw (vJ (d+1)) (JN (e:=B7.wrap ((d:Int)+1)) yk f3) (Mz Z (B8 ?_)))
 have ak:=aj.pf []
 exact JX (d+1) ⟨Z,Z,Z,Z,Z,Z,ZW⟩ (p.2 ⟨ak,Y,N (r) (N (ZJ (λ q=>gV f q) u) (eP b))⟩) (by show X f.a.a - (d+1) < X f.a.a - d; omega)
 refine jF (dF Z5) (B9 (JV ?_))
 have Z8:gV f f.a.a=y3 ():=N (r) (N (ZJ (λ q=>gV f q) (eH (ls:=f.a.a) (i:=d) Y)) Z)
 refine JV (J2 (JK (sr (Kz (Zx #[.int .u64 0, Zz ⟨Zc []⟩, Zz ⟨Zc []⟩, V J]) ?_))))
 refine cO [.int .u64 0, Zz ⟨Zc []⟩, Zz ⟨Zc []⟩, V J] 0 s P4 ?_
 intro aS Z4
 refine An Z (rt (JY (gH (vs:= [Zx #[.int .u64 0, Zz ⟨Zc []⟩, Zz ⟨Zc []⟩, V J], V J]) Z (bW.cell Z (JW (cs:= [.int .u64 0, Zz ⟨Zc []⟩, Zz ⟨Zc []⟩, V J]) Tryz.isAgg194 P4 ((Z4.cls (i:=0) Z).lit (k:=0) (m:=4) Z)) (bW.tmp Z bW.nil)) (M9 Z)) ?_))
 have av:=Z4.pk [1]
 obtain⟨rfl,rfl⟩:=fK (zj hr (show _=(mg.q 0 (aF.q (au.q [] []) J),J) from lD Z8))
 exact⟨Z,av⟩
end
section
open Go.RowKit
def lG (a:List aB) (b:Int) (c:Int):(List aB):=
 if b=c then a else(List.take (Int.toNat b) a++List.drop (Int.toNat c) a)
theorem qh (w D g p d a c b l) (H:Own w D w [row g p d (List.flatMap aB.J a) 164 6]) (q:p=X a) (K:X a *80<=211106232532992) (M:0<=c/\c<=b/\b<=((X a:Nat):Int)) (hr:lG a c b=l):
    Calls Tryz.prog 170 #[W g p d,vI c,vI b] w (dM λ v w'=> ∃ C E,v= W C (X l) E/\Own w D w' [row C (X l) E (List.flatMap aB.J l) 164 6]/\(X l<=X a)):=by
 unfold lG at hr
 subst q
 have Z5:=H.rowC (i:=0) Z
 refine cb Tryz.func170 ?_
 refine sr (Ar Z (Mz Z (fw (vJ (Int.toNat c)) (JN (e:=c) (JM Z) Y) (fw (vJ (Int.toNat b)) (JN (e:=b) (JM Z) Y) (Mz Z (Kz (vJ (X a)) (fw (W (eU g (Int.toNat c) 6 (X a)) ((Int.toNat b) - (Int.toNat c)) (X a - (Int.toNat c))) (K8 (jy) Z Z Z Z Y Y Y) (nt (JG (sr (Mz Z (Mz Z (Kz (Zb (c=b)) (nt ?_))))))))))))))
 by_cases j:c=b
 refine jT (dT j) (sr (Mz Z (An Z (rt (tR (rs ?_))))))
 have r:=H.pf []
 obtain rfl:=zj hr zq1
 exact⟨g,d,Z,r,Y⟩
 refine jF (dF j) (sk (sr (Mz Z (Kz (vJ (X a)) (An Z (JG ?_))))))
 have h:=H.drew
 refine KR [6] (λ Z9=> ∃ L',Own w D Z9 ([row g (X a) d (List.flatMap aB.J a) 164 6]++L')) f1 f1 (JP J3) ⟨_,h⟩ ?_
 revert h
 generalize World.drew w=t
 intro h
 refine qv 0 Z Z (qt (v:=vJ (Int.toNat c)) 1 Z (λ _ _=>JN (e:=c) (JM Z) Y) (qt (v:= W g (Int.toNat c) d) 2 Z (λ _ _=>Ku (jy) Z Z Y) (qv 3 Z Z (qt (v:=vJ (Int.toNat b)) 4 Z (λ _ _=>JN (e:=b) (JM Z) Y) (qt (v:= W (eU g (Int.toNat b) 6 d) (X a - (Int.toNat b)) (d - (Int.toNat b))) 5 Z (λ _ _=>Ka (jy) Z Z Y) ?_)))))
 have F:X (List.take (Int.toNat c) a++List.drop (Int.toNat b) a)=Int.toNat c+(X a - Int.toNat b):=by simp only [List.length_append,List.length_take,List.length_drop]; omega
 have n:Src Tryz.prog 6 112 (W (eU g (Int.toNat b) 6 d) (X a - (Int.toNat b)) (d - (Int.toNat b))) (X a - Int.toNat b) (List.flatMap aB.J (List.drop (Int.toNat b) a)) t:=fq Tryz.underlying112 (KA (lo:=Int.toNat b) aB.len (h.rds (i:=0) Z) Y Y f6) (di aB.one (List.drop (Int.toNat b) a))
 obtain⟨G,u,x⟩:=h.rowFull
 refine qd 6 Z (KM (k:=Int.toNat c) (m:=X a - Int.toNat b) (jy) x Z Z n Y (s:=X (List.take (Int.toNat c) a++List.drop (Int.toNat b) a)) Y ?_)
 intro Z6 o
 refine⟨.inl f1, ?_⟩
 refine Ki (v:= W g (X (List.take (Int.toNat c) a++List.drop (Int.toNat b) a)) d) 7 Z f1 (λ _=>KG Z) (qn (JK (sr (Mz Z (Mz Z (Kz (vI ((X (List.take (Int.toNat c) a++List.drop (Int.toNat b) a):Nat):Int)) (Mz Z (fw (W (eU g (X (List.take (Int.toNat c) a++List.drop (Int.toNat b) a)) 6 d) (X a - (X (List.take (Int.toNat c) a++List.drop (Int.toNat b) a))) (d - (X (List.take (Int.toNat c) a++List.drop (Int.toNat b) a)))) (Yl.cut (jy) Z Z Z Y Y) ?_))))))))
 refine Kw (KZ (z0:=(Zx #[.int .u64 0, W Zv 0 0, V J, Zz ⟨List.toArray []⟩, Zz ⟨List.toArray []⟩, V J])) (lo:=X (List.take (Int.toNat c) a++List.drop (Int.toNat b) a)) (nd:=(X a - (X (List.take (Int.toNat c) a++List.drop (Int.toNat b) a)))) f1 Z (jy) o Z (λ _=>gI ((o.rds (i:=0) Z).isSome Y) Y) Y ?_)
 intro y I Z7 z
 refine ns (Mz Z (An Z (rt (rs ?_))))
 have A:Own w D y [row g (X (List.take (Int.toNat c) a++List.drop (Int.toNat b) a)) d (List.flatMap aB.J (List.take (Int.toNat c) a++List.drop (Int.toNat b) a)) 164 6]:=z.rowPart Y (tF aB.len Y Y Z)
 have B:=A.pf []
 obtain rfl:=zj hr zq1
 exact⟨g,d,Z,B,Y⟩
def lH (a:List aB) (b:Int) (c:aB):(List aB):=
 if((Int.toNat b:Nat):Int)=((X a:Nat):Int) then(a++ [c]) else(List.take (Int.toNat b) a++(c::List.drop (Int.toNat b) a))
theorem qi (w D g F d b a E) (c:aB) (z) (H:Own w D w [row g F d (List.flatMap aB.J b) 164 6,ma E 1 (List.flatMap aB.J ([c])) 164 6]) (G:F=X b) (ai:X b *80<=211106232532992) (aj:0<=a/\a<=((X b:Nat):Int)/\(X b+1) *80<=211106232532992) (hr:lH b a c=z):
    Calls Tryz.prog 123 #[W g F d,vI a, W E 1 1] w (dM λ v w'=> ∃ Z0 b0,v= W Z0 (X z) b0/\Own w D w' [row Z0 (X z) b0 (List.flatMap aB.J z) 164 6]/\(X z=X b+1)):=by
 unfold lH at hr
 subst G
 have ak:=H.rowC (i:=0) Z
 refine cb Tryz.func123 ?_
 refine sr (Ar Z (Mz Z (fw (vJ (Int.toNat a)) (JN (e:=a) (JM Z) Y) (fw (W (eU g (Int.toNat a) 6 d) (X b - (Int.toNat a)) (d - (Int.toNat a))) (Ka (jy) Z Z Y) (ns (Mz Z (Kz (vI 1) (An Z (JG (sr (Mz Z (Kz (V J) (nt (jf (sk (sr (Mz Z (Kz (vJ (X b)) (An Z (JG (sr (fw (vJ (Int.toNat a)) (JN (e:=a) (JM Z) Y) ?_))))))))))))))))))))))
 refine Mz Z (Kz (Zb (((Int.toNat a:Nat):Int)=(X b:Int))) (nt ?_))
 by_cases j:((Int.toNat a:Nat):Int)=(X b:Int)
 refine jT (dT j) (sr (Mz Z (Mz Z ?_)))
 refine WL.do Z (J7 (k:=X b) (m:=1) (jy) H Z Z (fq Tryz.underlying112 (dH H (i:=1) Z lJ) (di aB.one ([c]))) Z Y (s:=X (b++ [c])) f7 (List.flatMap_append).symm ?_)
 intro I Z7 au K
 have ae:X (b++ [c])=X b+1:=by simp only [List.length_append,List.length_cons,List.length_nil]
 refine An Z (rt (tR (rs ?_)))
 have M:=K.pk [0]
 obtain rfl:=zj hr zq1
 exact⟨I,Z7,Z,M,Y⟩
 refine jF (dF j) (sk (JG (sr (Mz Z (Mz Z (fw (vJ (X b+1)) (JN (e:=IntKind.i64.wrap ((X b:Int)+1)) yk f3) (Mz Z (Kz (vJ d) (Kz (Zb (((X b+1:Nat):Int) > (d:Int))) (nt ?_))))))))))
 by_cases A:((X b+1:Nat):Int) > (d:Int)
 refine jT (dT A) (sr (Mz Z (fw (vJ (Int.toNat a)) (JN (e:=a) (JM Z) Y) (fw (W g (Int.toNat a) d) (Ku (jy) Z Z Y) (Mz Z (Mz Z (fw (vJ (X b+1)) (JN (e:=IntKind.i64.wrap ((X b:Int)+1)) yk f3) (fw (vJ (Int.toNat a)) (JN (e:=a) (JM Z) Y) (fw (vJ ((X b+1) - (Int.toNat a))) (JN (e:=IntKind.i64.wrap (((X b+1:Nat):Int) - ((Int.toNat a:Nat):Int))) yk f3) ?_)))))))))
 have af:X (List.take (Int.toNat a) b++(c::List.drop (Int.toNat a) b))=X b+1:=by simp only [List.length_append,List.length_take,List.length_cons,List.length_drop]; omega
 refine WL.do Z (KJ (k:=Int.toNat a) (m:=(X b+1) - (Int.toNat a)) (jy) Tryz.underlying3 H Z Z Y Y Y Z Y (s:=X (List.take (Int.toNat a) b++(c::List.drop (Int.toNat a) b))) Y ?_)
 intro n h ag av B o
 have Z5:=o.rowLe (i:=0) Z
 refine Ar Z (Mz Z (fw (vJ (Int.toNat a)) (JN (e:=a) (JM Z) Y) (fw (W (eU n (Int.toNat a) 6 h) ((X (List.take (Int.toNat a) b++(c::List.drop (Int.toNat a) b))) - (Int.toNat a)) (h - (Int.toNat a))) (Ka (jy) Z Z Y) (Mz Z ?_))))
 refine WL.do Z (Kq (lo:=Int.toNat a) (k:=1) (jy) o Z (λ _=>gI ((o.rds (i:=0) Z).isSome Y) Y) Y Z (dH o (i:=2) Z lJ) Y (λ u hu=>di aB.one _ u (List.mem_of_mem_take hu)) Z ?_)
 intro ax Z6
 refine nt (JG ?_)
 refine zx [8] (JP (JP J3)) Z6 ?_
 intro ay p
 refine qv 0 Z Z (qt (v:=vJ (Int.toNat a)) 1 Z (λ _ _=>JN (e:=a) (JM Z) Y) (qv 2 Z Z (qt (v:=vJ (Int.toNat a+1)) 3 Z (λ _ _=>JN (e:=IntKind.i64.wrap (((Int.toNat a:Nat):Int)+1)) yk f3) (qt (v:= W (eU n (Int.toNat a+1) 6 h) ((X (List.take (Int.toNat a) b++(c::List.drop (Int.toNat a) b))) - (Int.toNat a+1)) (h - (Int.toNat a+1))) 4 Z (λ _ _=>Ka (jy) Z Z Y) (qv 5 Z Z (qt (v:=vJ (Int.toNat a)) 6 Z (λ _ _=>JN (e:=a) (JM Z) Y) (qt (v:= W (eU g (Int.toNat a) 6 d) (X b - (Int.toNat a)) (d - (Int.toNat a))) 7 Z (λ _ _=>Ka (jy) Z Z Y) ?_)))))))
 refine qd 8 Z (Kq (lo:=Int.toNat a+1) (k:=X b - Int.toNat a) (jy) p Z (λ _=>gI ((p.rds (i:=0) Z).isSome Y) Y) Y Z (KA (lo:=Int.toNat a) aB.len (p.rds (i:=1) Z) Y Y f6) Y (λ u hu=>di aB.one _ u (List.mem_of_mem_take hu)) Z ?_)
 intro P Q
 refine⟨.inl f1, ?_⟩
 refine qn (JK (sr (Mz Z (An Z (rt (tR (rs ?_)))))))
 have R:Own w D P [row n (X (List.take (Int.toNat a) b++(c::List.drop (Int.toNat a) b))) h (List.flatMap aB.J (List.take (Int.toNat a) b++(c::List.drop (Int.toNat a) b))) 164 6,row g (X b) d (List.flatMap aB.J b) 164 6,ma E 1 (List.flatMap aB.J ([c])) 164 6]:=Q.rowPart Y (uA (l:=b) (k2:=X b - Int.toNat a) aB.len Y B Z Z Y)
 have S:=R.pk [0]
 obtain rfl:=zj hr zq1
 exact⟨n,h,Z,S,Y⟩
 refine jF (dF A) (sk (sr ?_))
 have C:X (List.take (Int.toNat a) b++(c::List.drop (Int.toNat a) b))=X b+1:=by simp only [List.length_append,List.length_take,List.length_cons,List.length_drop]; omega
 obtain⟨ah,r,Z8⟩:=H.rowFull
 refine Mz Z (Mz Z (Mz Z (fw (vJ (X b+1)) (JN (e:=IntKind.i64.wrap ((X b:Int)+1)) yk f3) (fw (W g (X (List.take (Int.toNat a) b++(c::List.drop (Int.toNat a) b))) d) (Yl.to (Ku (jy) Z Z Y) (ZJ (λ q=>Value.slice g q d) C.symm)) (An Z (JG (sr (Mz Z (Mz Z (fw (vJ (Int.toNat a)) (JN (e:=a) (JM Z) Y) (Mz Z (fw (vJ (Int.toNat a+1)) (JN (e:=IntKind.i64.wrap (((Int.toNat a:Nat):Int)+1)) yk f3) (fw (W (eU g (Int.toNat a+1) 6 d) ((X (List.take (Int.toNat a) b++(c::List.drop (Int.toNat a) b))) - (Int.toNat a+1)) (d - (Int.toNat a+1))) (Ka (jy) Z Z Y) ?_)))))))))))))
 have t:=Z8.pb [0]
 refine fw (V J) (KN (lo:=Int.toNat a+1) (run_callFunc_extern Tryz.func173 f1 f1 f1 (e:=Extern.SlicesOverlaps.overlaps #[112,112] #[4]) f1) Tryz.underlying112 Tryz.sizeOf164 t f6 Y Z (gI ((t.rds (i:=1) Z).isSome Y) Y)) (Kz (V Zk) (nt (jt (JG ?_))))
 refine pK [8] (JP (JP J3)) t ?_
 intro az Z4
 refine qv 0 Z Z (qt (v:=vJ (Int.toNat a)) 1 Z (λ _ _=>JN (e:=a) (JM Z) Y) (qv 2 Z Z (qt (v:=vJ (Int.toNat a+1)) 3 Z (λ _ _=>JN (e:=IntKind.i64.wrap (((Int.toNat a:Nat):Int)+1)) yk f3) (qt (v:= W (eU g (Int.toNat a+1) 6 d) ((X (List.take (Int.toNat a) b++(c::List.drop (Int.toNat a) b))) - (Int.toNat a+1)) (d - (Int.toNat a+1))) 4 Z (λ _ _=>Ka (jy) Z Z Y) (qv 5 Z Z (qt (v:=vJ (Int.toNat a)) 6 Z (λ _ _=>JN (e:=a) (JM Z) Y) (qt (v:= W (eU g (Int.toNat a) 6 d) ((X (List.take (Int.toNat a) b++(c::List.drop (Int.toNat a) b))) - (Int.toNat a)) (d - (Int.toNat a))) 7 Z (λ _ _=>Ka (jy) Z Z Y) ?_)))))))
 have x:=Z4.pb [0]
 refine qd 8 Z (Kq (lo:=Int.toNat a+1) (k:=X b - Int.toNat a) (jy) x Z (λ _=>gI ((x.rds (i:=0) Z).isSome Y) Y) Y Z (bP.cut (lo:=Int.toNat a) (hi:=X (List.take (Int.toNat a) b++(c::List.drop (Int.toNat a) b))) (x.rds (i:=0) Z) Y Y Y) Y (λ u hu=>di aB.one _ u (by rw [uB aB.len Y Z Y] at hu; exact hu)) Z ?_)
 intro aA y
 refine⟨.inl f1, ?_⟩
 refine qn (JK (sr (Mz Z (fw (vJ (Int.toNat a)) (JN (e:=a) (JM Z) Y) (fw (W (eU g (Int.toNat a) 6 d) ((X (List.take (Int.toNat a) b++(c::List.drop (Int.toNat a) b))) - (Int.toNat a)) (d - (Int.toNat a))) (Ka (jy) Z Z Y) (Mz Z ?_))))))
 refine WL.do Z (Kq (lo:=Int.toNat a) (k:=1) (jy) y Z (λ _=>gI ((y.rds (i:=0) Z).isSome Y) Y) Y Z (dH y (i:=1) Z lJ) Y (λ u hu=>di aB.one _ u (List.mem_of_mem_take hu)) Z ?_)
 intro Z3 Z9
 refine ns (Mz Z (An Z (rt (tR (rs ?_)))))
 have Z1:Own w D Z3 [row g (X (List.take (Int.toNat a) b++(c::List.drop (Int.toNat a) b))) d (List.flatMap aB.J (List.take (Int.toNat a) b++(c::List.drop (Int.toNat a) b))) 164 6,ma E 1 (List.flatMap aB.J ([c])) 164 6]:=Z9.rowPart Y (uC (l:=b) (m:=(X (List.take (Int.toNat a) b++(c::List.drop (Int.toNat a) b))) - Int.toNat a) (k2:=X b - Int.toNat a) aB.len Y (by rw [r]; exact Nat.le_mul_of_pos_left 6 Y) Z Z Y Y)
 have Z2:=Z1.pk [0]
 obtain rfl:=zj hr zq1
 exact⟨g,d,Z,Z2,Y⟩
end
open List renaming Perm->P5,append_assoc->q1,flatMap_append->u0,map_append->P7,perm_append_comm->P6,take->t8,take_append_drop->s1
section
variable {α:Type} {w0 w:ZQ} {D:Nat->Prop} {L:List HP} {f:α->List HP}
theorem Own.dropL {L1 L2:List HP} (H:Own w0 D w (L1++L2)):Own w0 D w L2:=H.to λ h hs=>by
  obtain⟨a,b,c,d,e,g,_⟩:=kC.app.1 hs
  exact d.mono g
theorem Own.sepDel {ds:List α} {i j:Nat} (h:i<=j) (H:Own w0 D w (sepL (q0 f ds)::L)):Own w0 D w (sepL (q0 f (t8 i ds++r6 j ds))::L):=by
  have e:ds=t8 i ds++(t8 (j - i) (r6 i ds)++r6 j ds):=by
    conv=>lhs; rw [<- s1 i ds]
    congr 1
    conv=>lhs; rw [<- s1 (j - i) (r6 i ds)]
    rw [List.drop_drop,show i+(j - i)=j by omega]
  rw [e,u0,u0] at H
  have a:=H.flat
  have p:((q0 f (t8 i ds)++(q0 f (t8 (j - i) (r6 i ds))++q0 f (r6 j ds)))++L).Perm (q0 f (t8 (j - i) (r6 i ds))++((q0 f (t8 i ds)++q0 f (r6 j ds))++L)):=by
    rw [<- q1, <- q1]
    refine P5.append_right L ?_
    rw [<- q1]
    exact P5.append_right _ P6
  have b:=(a.perm p).dropL
  rw [u0]
  exact b.pack
theorem Own.sepIns {ds:List α} {i:Nat} {y:α} (H:Own w0 D w (f y++(sepL (q0 f ds)::L))):Own w0 D w (sepL (q0 f (t8 i ds++(y::r6 i ds)))::L):=by
  have a:Own w0 D w (sepL (q0 f ds)::(f y++L)):=H.perm List.perm_middle
  have b:=a.flat
  have e:(q0 f ds++(f y++L)).Perm ((q0 f (t8 i ds)++(f y++q0 f (r6 i ds)))++L):=by
    conv=>lhs; rw [<- s1 i ds,u0]
    rw [<- q1]
    refine P5.append_right L ?_
    rw [q1]
    exact P5.append_left _ P6
  rw [u0,List.flatMap_cons]
  exact(b.perm e).pack
theorem oL {β:Type} {g:α->β} {ds:List α} {ls:List β} {i j:Nat} (h:r7 g ds=ls):r7 g (t8 i ds++r6 j ds)=t8 i ls++r6 j ls:=by rw [P7,List.map_take,List.map_drop,h]
theorem jQ {β:Type} {g:α->β} {ds:List α} {ls:List β} {i:Nat} {y:α} {z:β} (h:r7 g ds=ls) (hy:g y=z):r7 g (t8 i ds++(y::r6 i ds))=t8 i ls++(z::r6 i ls):=by rw [P7,List.map_cons,List.map_take,List.map_drop,h,hy]
end
theorem zJ {l:List aN} {i:Nat} {x:aN} (h:Hd l) (hx:X x.b.a<=1000000):Hd (t8 i l++(x::r6 i l)):=λ r hr=>by
  rcases List.mem_append.1 hr with a | a
  . exact h r (List.mem_of_mem_take a)
  . rcases List.mem_cons.1 a with b | b
    . rw [b]; exact hx
    . exact h r (List.mem_of_mem_drop b)
theorem F3 (d:List aB) (i j:Int) (h:0<=i/\i<=j):lG d i j=t8 (U i) d++r6 (U j) d:=by
  unfold lG
  by_cases c:i=j
  . rw [ZK c,c,s1]
  . rw [ZV c]
theorem F4 (d:List aB) (i:Int) (x:aB) (h:0<=i/\i<=(X d:Int)):lH d i x=t8 (U i) d++(x::r6 (U i) d):=by
  unfold lH
  by_cases c:((U i:Nat):Int)=(X d:Int)
  . rw [ZK c,List.take_of_length_le Y,List.drop_eq_nil_of_le Y]
  . rw [ZV c]
theorem F5 (w D A n c d l i j) (H:Own w D w [row A n c (q0 aB.J d) 164 6,sepL (q0 J4 d)]) (hn:n=X d) (hd:r7 aB.abs d=l) (hl:X d<=1000000) (hh:0<=i/\i<=j/\j<=(X d:Int)):
    Calls Tryz.prog 170 #[W A n c, .int .i64 i, .int .i64 j] w (dM λ v w'=> ∃ B b,v= W B (X (t8 (U i) l++r6 (U j) l)) b/\
      Own w D w' [row B (X (t8 (U i) l++r6 (U j) l)) b (q0 aB.J (t8 (U i) d++r6 (U j) d)) 164 6,sepL (q0 J4 (t8 (U i) d++r6 (U j) d))]):=by
  obtain⟨a,e,ro,bk,rr⟩:=Kb H
  refine(qh w a A n c d i j _ e hn Y hh (F3 d i j ⟨hh.1,hh.2.1⟩)).mono ?_
  rintro _ w' ⟨v,rfl,B,b,rfl,HQ,_⟩
  rw [bg (oL (i:=U i) (j:=U j) hd)] at HQ ⊢
  have g:=bk _ _ HQ
  exact⟨_,Z,B,b,Z,((g.perm (P5.swap _ _ _)).sepDel Y).perm (P5.swap _ _ _)⟩
theorem BQ (w D A n c d i a) (y:aB) (l) (z:aN) (H:Own w D w [row A n c (q0 aB.J d) 164 6,ma a 1 (q0 aB.J [y]) 164 6,sepL (q0 J4 d),row y.b.A (X y.b.a) y.b.c (q0 aF.J y.b.a) 118 3]) (hn:n=X d) (hd:r7 aB.abs d=l) (hz:aB.abs y=z) (hl:X d<=1000000) (hh:0<=i/\i<=(X d:Int)):
    Calls Tryz.prog 123 #[W A n c, .int .i64 i, W a 1 1] w (dM λ v w'=> ∃ B b,v= W B (X (t8 (U i) l++(z::r6 (U i) l))) b/\
      Own w D w' [row B (X (t8 (U i) l++(z::r6 (U i) l))) b (q0 aB.J (t8 (U i) d++(y::r6 (U i) d))) 164 6,sepL (q0 J4 (t8 (U i) d++(y::r6 (U i) d)))]):=by
  obtain⟨e,g,ro,bk,rr⟩:=Ko H
  refine(qi w e A n c d i a y _ g hn Y ⟨hh.1,hh.2,Y⟩ (F4 d i y hh)).mono ?_
  rintro _ w' ⟨v,rfl,B,b,rfl,HQ,_⟩
  rw [bg (jQ (i:=U i) hd hz)] at HQ ⊢
  have h:=bk _ _ HQ
  refine⟨_,Z,B,b,Z, ?_⟩
  have j:Own w D w' (J4 y++(sepL (q0 J4 d):: [row B (X (t8 (U i) l++(z::r6 (U i) l))) b (q0 aB.J (t8 (U i) d++(y::r6 (U i) d))) 164 6])):=
    h.perm (by
      refine(P6 (l₁:= [_]) (l₂:= [_,_])).trans ?_
      exact P6 (l₁:= [_]) (l₂:= [_]) |>.append_right [_])
  exact j.sepIns.perm (P5.swap _ _ _)
open List renaming length_append->o2,length_cons->q5,length_drop->o1,length_nil->L3,length_take->o0,mem_flatMap->P8
open Ll renaming q->O
open Sv renaming q->O6
open _root_.Go.Proofs.Tryz renaming underlying35->P9,underlying97->L0
section
open Go.RowKit
abbrev ZB:aF:=aF.q (au.q [] []) J
def jC (b:aZ) (c:Nat):aZ:=
 bnd (eZ b c) λ a=>if a.2=Zk then aZ.q (O (t8 (U a.1) b.a.a++r6 (U (a.1+1)) b.a.a)) else b
theorem pI (w D o) (d:aZ) (g f b G) (u:aZ) (H:Own w D w [blk o [W g (X d.a.a) f] 114,row g (X d.a.a) f (q0 aB.J b) 164 6,sepL (q0 J4 b)]) (c:r7 aB.abs b=d.a.a) (Z2:X d.a.a<=1000000) (hr:jC d G=u):
    Calls Tryz.prog 120 #[vP o 0,vU G] w (dM λ v w'=> ∃ l m h,v= .tuple #[]/\Own w D w' [blk o [W l (X u.a.a) m] 114,row l (X u.a.a) m (q0 aB.J h) 164 6,sepL (q0 J4 h)]/\(r7 aB.abs h=u.a.a)/\(X u.a.a<=X d.a.a)):=by
 unfold jC at hr
 have I:=bg c
 have Z7:=H.rowC (i:=1) Z
 refine cb Tryz.func120 ?_
 refine sr (Mz Z (Mz Z ?_))
 have Q:=H.rowC (i:=1) Z
 obtain⟨⟨a,k⟩,n⟩:∃ q:Int × Bool,eZ d G=q:=⟨_,Z⟩
 obtain⟨Z0,x,R,y,p⟩:=Kb H
 refine cl Tryz.call114 (l8 _ _ o d g f b G a k x c (p _ 0 _ Z bQ) Y (λ S Z8=>⟨p _ 1 _ Z (bM (P8.2 ⟨S,Z8,b3⟩) bQ),dH (φ:=λ _=>_) H (i:=2) Z (bM (P8.2 ⟨S,Z8,b3⟩) dP)⟩) g5 n) ?_
 rintro _ aa ⟨rfl,z,r,s⟩
 have t:=y _ _ z
 replace r:0<=a/\a<=(X d.a.a:Int):=r
 replace s:Bool.toNat k=0\/a < (X d.a.a:Int):=s
 refine Mz Z (Kz (vI a) (Kz (V k) (Az Z (Ar Z (Mn Z ?_)))))
 rcases Nf (k) with j | j
 have h35t:Bool.toNat k=1:=by rw [j]; rfl
 refine jT j (JI (Mz Z (Mz Z (Kz (vP o 0) (Kz (vP o 0) (Lz (W g (X d.a.a) f) t 0 P0 (Mz Z (Mz Z (fw (vI (a+1)) (JN (e:=B7.wrap (a+1)) yk i8) ?_)))))))))
 have K:=t.pb [0]
 obtain⟨af,A,Z4,B,Z3⟩:=Ko K
 refine cl Tryz.call170 (F5 _ _ g (X d.a.a) f b d.a.a a (a+1) A Y c Y Y) ?_
 rintro _ ag ⟨C,E,rfl,F⟩
 have L:=B _ _ F
 have Z9:X (t8 (U a) b++r6 (U (a+1)) b)=X (t8 (U a) d.a.a++r6 (U (a+1)) d.a.a):=by exact bg (oL c)
 have Z1:X (t8 (U a) d.a.a++r6 (U (a+1)) d.a.a)+((U (a+1)) - (U a))=X d.a.a:=by simp only [o2,o0,o1]; omega
 refine Kz (vP o 0) (Kz (vP o 0) ?_)
 have M:=L.pf [2]
 refine cO [W C (X (t8 (U a) d.a.a++r6 (U (a+1)) d.a.a)) E] 0 M Tryz.sizeOf112 ?_
 intro ah Z5
 refine B8 (Kl (res0 Z) ?_)
 have Z6:=Z5.pf []
 obtain rfl:=zj hr zq2
 exact⟨C,E,(t8 (U a) b++r6 (U (a+1)) b),Z,Z6,(oL c),j1⟩
 have h35t:Bool.toNat k=0:=by rw [j]; rfl
 refine jF j (J8 (Kl (res0 Z) ?_))
 have P:=t.pf []
 obtain rfl:=zj hr zq2
 exact⟨g,f,b,Z,P,c,j1⟩
structure mh where q::
 b:Sv Nat
 e:Sv Nat
def mh.J (x:mh):List ZX:= [W x.b.A (X x.b.a) x.b.c, W x.e.A (X x.e.a) x.e.c]
instance:Bk mh:=⟨λ x _=>bk x.b+(bk x.e+(0))⟩
theorem mh.len:∀ x,X (mh.J x)=2:=λ _=>rfl
theorem mh.one:∀ x, ∀ u ∈ mh.J x,u.oneCell'=Zk:=λ x u hu=>by
 simp only [mh.J,List.mem_cons,List.not_mem_nil,or_false] at hu
 rcases hu with rfl | rfl <;> rfl
def MO (w:ZQ) (x:mh):Prop:=(nA w 1 8 (eN .u64) (λ n=>n<=18446744073709551615) x.b)/\(nA w 1 8 (eN .u64) (λ n=>n<=18446744073709551615) x.e)
instance:Inhabited mh:=⟨⟨ZZ,ZZ⟩⟩
structure fD where q::
 b:Ll Nat
 e:Ll Nat
instance:Inhabited fD:=⟨⟨ZZ,ZZ⟩⟩
def mh.abs (x:mh):fD:=⟨⟨x.b.a⟩,⟨x.e.a⟩⟩
def MK (x:mh):List HP:= [row x.b.A (X x.b.a) x.b.c (q0 (eN .u64) x.b.a) 32 1,row x.e.A (X x.e.a) x.e.c (q0 (eN .u64) x.e.a) 32 1]
def dY (j:aZ) (k:Nat) (i:aF) (m:fD) (c:Int) (b:aN) (d:aN) (e:aN):Nat->List Nat->Nat->(List Nat)
  | 0,f,g=>f
  | h+1,f,g=>bnd (y4 (N0 (N0 (N0 j.a.a (U c) (aN.q b.a (O (b.b.a++ [i])) b.f b.e)) (U c) (aN.q d.a (O d.b.a) J d.e)) (U c) (aN.q e.a (O e.b.a) e.f ZB)) g ZZ) λ a=>if a.f=Zk then if((a.a:Nat):Int) > ((k:Nat):Int) then bnd (lq i.j a.e.j) λ l=>if l.2=Zk then if i.a=Zk then dY j k i m c b d e h (f++ [a.a]) (g+1) else if a.e.a=Zk then dY j k i m c b d e h (f++ [a.a]) (g+1) else dY j k i m c b d e h f (g+1) else dY j k i m c b d e h f (g+1) else dY j k i m c b d e h f (g+1) else dY j k i m c b d e h f (g+1)
def ib (f:fD) (e:List Nat):List Nat->List aN->(List aN)
  | [],a=>a
  | c::d,a=>bnd (jC (aZ.q (O a)) c) λ b=>ib f e d b.a.a
def dZ (j:aZ) (k:Nat) (i:aF) (m:fD) (g:Int) (a:aN) (b:aN) (c:aN):Nat->List Nat->Nat->(List Nat)
  | 0,e,f=>e
  | h+1,e,f=>bnd (y4 (N0 (N0 (N0 (t8 (U g) j.a.a++((aN.q k (O []) J ZB)::r6 (U g) j.a.a)) (U g) (aN.q a.a (O (a.b.a++ [i])) a.f a.e)) (U g) (aN.q b.a (O b.b.a) J b.e)) (U g) (aN.q c.a (O c.b.a) c.f ZB)) f ZZ) λ d=>if d.f=Zk then if((d.a:Nat):Int) > ((k:Nat):Int) then bnd (lq i.j d.e.j) λ l=>if l.2=Zk then if i.a=Zk then dZ j k i m g a b c h (e++ [d.a]) (f+1) else if d.e.a=Zk then dZ j k i m g a b c h (e++ [d.a]) (f+1) else dZ j k i m g a b c h e (f+1) else dZ j k i m g a b c h e (f+1) else dZ j k i m g a b c h e (f+1) else dZ j k i m g a b c h e (f+1)
def ic (f:fD) (c:List Nat):List Nat->List aN->(List aN)
  | [],a=>a
  | d::e,a=>bnd (jC (aZ.q (O a)) d) λ b=>ic f c e b.a.a
def jm (g:aZ) (i:Nat) (j:aF) (k:fD):aZ × fD:=
 bnd (eZ g i) λ a=>if a.2=Zk then bnd (y4 g.a.a (U a.1) ZZ) λ c=>bnd (y4 (N0 g.a.a (U a.1) (aN.q c.a (O (c.b.a++ [j])) c.f c.e)) (U a.1) ZZ) λ e=>bnd (y4 (N0 (N0 g.a.a (U a.1) (aN.q c.a (O (c.b.a++ [j])) c.f c.e)) (U a.1) (aN.q e.a (O e.b.a) J e.e)) (U a.1) ZZ) λ h=>bnd (dY g i j k a.1 c e h (X g.a.a) [] 0) λ sLrbtbbbL=>bnd (ib k sLrbtbbbL sLrbtbbbL (N0 (N0 (N0 g.a.a (U a.1) (aN.q c.a (O (c.b.a++ [j])) c.f c.e)) (U a.1) (aN.q e.a (O e.b.a) J e.e)) (U a.1) (aN.q h.a (O h.b.a) h.f ZB))) λ sLrbtbbbLaL=>(aZ.q (O sLrbtbbbLaL),fD.q (O k.b.a) (O (k.e.a++sLrbtbbbL))) else bnd (y4 (t8 (U a.1) g.a.a++((aN.q i (O []) J ZB)::r6 (U a.1) g.a.a)) (U a.1) ZZ) λ b=>bnd (y4 (N0 (t8 (U a.1) g.a.a++((aN.q i (O []) J ZB)::r6 (U a.1) g.a.a)) (U a.1) (aN.q b.a (O (b.b.a++ [j])) b.f b.e)) (U a.1) ZZ) λ d=>bnd (y4 (N0 (N0 (t8 (U a.1) g.a.a++((aN.q i (O []) J ZB)::r6 (U a.1) g.a.a)) (U a.1) (aN.q b.a (O (b.b.a++ [j])) b.f b.e)) (U a.1) (aN.q d.a (O d.b.a) J d.e)) (U a.1) ZZ) λ f=>bnd (dZ g i j k a.1 b d f (X (t8 (U a.1) g.a.a++((aN.q i (O []) J ZB)::r6 (U a.1) g.a.a))) [] 0) λ sLrbfbbbL=>bnd (ic k sLrbfbbbL sLrbfbbbL (N0 (N0 (N0 (t8 (U a.1) g.a.a++((aN.q i (O []) J ZB)::r6 (U a.1) g.a.a)) (U a.1) (aN.q b.a (O (b.b.a++ [j])) b.f b.e)) (U a.1) (aN.q d.a (O d.b.a) J d.e)) (U a.1) (aN.q f.a (O f.b.a) f.f ZB))) λ sLrbfbbbLaL=>(aZ.q (O sLrbfbbbLaL),fD.q (O k.b.a) (O (k.e.a++sLrbfbbbL)))
theorem r9 (w D g0) (j:aZ) (E Z8 p B) (C:aF) (g3) (K:fD) (Z5 Z6 P Q) (r0:aZ) (r1:fD) (H:Own w D w [blk g0 [W E (X j.a.a) Z8] 114,row E (X j.a.a) Z8 (q0 aB.J p) 164 6,sepL (q0 J4 p),blk g3 [W Z5 (X K.b.a) Z6, W P (X K.e.a) Q] 157,row Z5 (X K.b.a) Z6 (q0 (eN .u64) K.b.a) 32 1,row P (X K.e.a) Q (q0 (eN .u64) K.e.a) 32 1]) (M:r7 aB.abs p=j.a.a) (qN:X j.a.a<=999999) (fe:Hd j.a.a) (qO:X K.e.a<=10000000000000) (hr:jm j B C K=(r0,r1)):
    Calls Tryz.prog 72 #[vP g0 0,vU B, Zx (Zc (aF.J C)),vP g3 0] w (dM λ v w'=> ∃ df dh bP dm dn dw dx,v= .tuple #[]/\Own w D w' [blk g0 [W df (X r0.a.a) dh] 114,row df (X r0.a.a) dh (q0 aB.J bP) 164 6,sepL (q0 J4 bP),blk g3 [W dm (X r1.b.a) dn, W dw (X r1.e.a) dx] 157,row dm (X r1.b.a) dn (q0 (eN .u64) r1.b.a) 32 1,row dw (X r1.e.a) dx (q0 (eN .u64) r1.e.a) 32 1]/\(r7 aB.abs bP=r0.a.a)):=by
 unfold jm at hr
 have mo:=bg M
 have mq:=H.rowC (i:=1) Z
 have mr:=H.rowC (i:=4) Z
 have mD:=H.rowC (i:=5) Z
 refine cb Tryz.func72 ?_
 refine sr ?_
 refine cu (aF.J C) 118 H ?_
 intro fo qP mE
 refine ns (Mz Z (Mz Z ?_))
 refine WL.do Z (J6 Tryz.call74 Z ?_ (λ _ _ k=>k))
 refine cb Tryz.func74 ?_
 refine sr (Ar Z (Mz Z (Mz Z ?_)))
 have gL:=mE.pf [1]
 have oU:=gL.rowC (i:=2) Z
 obtain⟨⟨a,bR⟩,dz⟩:∃ q:Int × Bool,eZ j B=q:=⟨_,Z⟩
 obtain⟨qQ,iU,oV,iV,fu⟩:=Kb gL
 refine cl Tryz.call114 (l8 _ _ g0 j E Z8 p B a bR iU M (fu _ 1 _ Z bQ) Y (λ x9 h9=>⟨fu _ 2 _ Z (bM (P8.2 ⟨x9,h9,b3⟩) bQ),dH (φ:=λ _=>_) gL (i:=3) Z (bM (P8.2 ⟨x9,h9,b3⟩) dP)⟩) g5 dz) ?_
 rintro _ qR ⟨rfl,iW,fA,fB⟩
 have bS:=iV _ _ iW
 replace fA:0<=a/\a<=(X j.a.a:Int):=fA
 replace fB:Bool.toNat bR=0\/a < (X j.a.a:Int):=fB
 refine Mz Z (Kz (vI a) (Kz (V bR) (Az Z (An Z (JG (sr (Mz Z (Kz (V (!bR)) (nt ?_)))))))))
 rcases Nf (bR) with bU | bU
 have h39t:Bool.toNat bR=1:=by rw [bU]; rfl
 refine jF (cn bU) (sk (sr (Mz Z (Kz (vP g0 0) (Kz (vP g0 0) (Lz (W E (X j.a.a) Z8) bS 0 P0 (fw (vJ (U a)) (JN (e:=a) (JM Z) Y) ?_)))))))
 obtain⟨d,aP⟩:=dJ (ls:=p) (i:=U a) aB.len f6 (bS.rds (i:=2) Z) f4
 have fC:=gq M aP
 have o5:X d.b.a<=d.b.c/\X d.b.a<=9223372036854775807:=dH bS (i:=3) Z (φ:=λ _=>_) (bM (P8.2 ⟨d,E1 aP,b3⟩) dP)
 have o6:X d.b.a<=1000000:=by have q9:Hd j.a.a:=(by first | exact fe | exact zJ fe (Nb _)); exact q9 _ (E1 fC)
 refine fw (Zq (Zw ⟨ab E,ao E+(U a) *6,Zv⟩)) (JU (jy) Z Z ((bS.rds (i:=2) Z).addr (i:=U a) Y) Y) (An Z (rt (rs (An Z (JG ?_)))))
 refine mX 7 [7,10] (JP J3) bS ?_
 intro qU mG
 refine Ki (v:= Zq (Zw ⟨ab E,ao E+(U a) *6,Zv⟩)) 0 Z f1 (λ _=>JM Z) (qv 1 Z Z (qk (Zq (Zw ⟨ab E,ao E+(U a) *6,Zv⟩)) 2 Z (qk (Zq (Zw ⟨ab E,ao E+(U a) *6+1,Zv⟩)) 3 Z (qt (v:= W d.b.A (X d.b.a) d.b.c) 4 Z (λ _ ⟨_,H9⟩=>JS Z (bT.one Tryz.isAgg97 (((H9.rds (i:=2) Z).elem aB.len aP f6).at_ (k:=1) Z))) (qt (v:= Zx (Zc (aF.J C))) 5 Z (λ _ ⟨_,H9⟩=>JS Z (JW (cs:=(aF.J C)) P1 P2 ((H9.cls (i:=1) Z).lit (k:=0) (m:=3) Z))) ?_)))))
 refine qd 6 Z (Kt (cs:=(aF.J C)) (t:=118) (sz:=3) (m:=1) mG Z Z Za Z f6 ?_)
 intro mH mI gN
 replace gN:=Ke (y:=row mH 1 1 (q0 aF.J ([C])) 118 3) Z gN
 have iX:=gN.pb [0]
 refine⟨.inr ⟨_,iX⟩, ?_⟩
 have mJ:=iX.pf [3]
 have gP:Own w D mI (row d.b.A (X d.b.a) d.b.c (q0 aF.J d.b.a) 118 3::sepL (q0 J4 (t8 (U a) p)++q0 J4 (r6 (U a+1) p))::_):=K5 (f:=J4) (i:=U a) aP mJ
 have o7:=gP.rowC (i:=0) Z
 refine qd 7 Z (J7 (k:=X d.b.a) (m:=1) (vz) gP Z Z (fq L0 (gP.rds (i:=8) Z) (di aF.one ([C]))) Z Y (s:=X (d.b.a++ [C])) f7 (u0).symm ?_)
 intro av ax mK mM
 have o8:X (d.b.a++ [C])=X d.b.a+1:=by simp only [o2,q5,L3]
 refine⟨.inl f1, ?_⟩
 refine Ki (v:= Zq (Zw ⟨ab E,ao E+(U a) *6,Zv⟩)) 8 Z f1 (λ _=>yk) (Ki (v:= Zq (Zw ⟨ab E,ao E+(U a) *6+1,Zv⟩)) 9 Z f1 (λ _=>yk) ?_)
 have mO:Own w D mK (sepL (q0 J4 (N0 p (U a) (aB.q d.a (O6 av ax (d.b.a++ [C])) d.f d.e)))::_):=Lh (f:=J4) (y:=(aB.q d.a (O6 av ax (d.b.a++ [C])) d.f d.e)) aP mM
 have mP:=mO.pf [3]
 refine qe 10 Z (Do.storeRow (vs:= [W av (X (d.b.a++ [C])) ax]) (o:=(U a) *6+1) (q:=ao E+(U a) *6+1) mP Z Y Z Tryz.sizeOf97 Z Z (M9 Z) (jG aB.len aP (M9 Z)) (kE (y:=(aB.q d.a (O6 av ax (d.b.a++ [C])) d.f d.e)) aB.len Z (M9 Z) aP) ?_)
 intro qV mQ
 have o9:X (N0 p (U a) (aB.q d.a (O6 av ax (d.b.a++ [C])) d.f d.e))=X (N0 j.a.a (U a) (aN.q d.a (O (d.b.a++ [C])) d.f d.e)):=bg (eT M Z)
 have pq:X (N0 j.a.a (U a) (aN.q d.a (O (d.b.a++ [C])) d.f d.e))=X j.a.a:=N1
 refine⟨.inl f1, ?_⟩
 refine qn (JK (JG ?_))
 have gQ:=mQ.px [] [7] []
 refine JI (Mz Z (Mz Z (Kz (Zx #[Zz ⟨Zc []⟩, Zz ⟨Zc []⟩, V J]) (Kz (Zq (Zw ⟨ab E,ao E+(U a) *6,Zv⟩)) (Kz (Zq (Zw ⟨ab E,ao E+(U a) *6+2,Zv⟩)) ?_)))))
 obtain⟨l,bB⟩:=dJ (ls:=(N0 p (U a) (aB.q d.a (O6 av ax (d.b.a++ [C])) d.f d.e))) (i:=U a) aB.len f6 (gQ.rds (i:=0) Z) f4
 have iY:=gq (eT M Z) bB
 have pu:X l.b.a<=l.b.c/\X l.b.a<=9223372036854775807:=dH gQ (i:=1) Z (φ:=λ _=>_) (bM (P8.2 ⟨l,E1 bB,b3⟩) dP)
 refine Kw (Do.storeRow (vs:= [V J]) (o:=(U a) *6+2) (q:=ao E+(U a) *6+2) gQ Z Y Z Tryz.sizeOf4 Z Z (M9 Z) (jG aB.len bB (M9 Z)) (kE (y:=(aB.q l.a l.b J l.e)) aB.len Z (M9 Z) bB) ?_)
 intro mR mU
 have gT:Own w D mR [row E (X j.a.a) Z8 (q0 aB.J (N0 (N0 p (U a) (aB.q d.a (O6 av ax (d.b.a++ [C])) d.f d.e)) (U a) (aB.q l.a l.b J l.e))) 164 6,sepL (q0 J4 (N0 (N0 p (U a) (aB.q d.a (O6 av ax (d.b.a++ [C])) d.f d.e)) (U a) (aB.q l.a l.b J l.e))),blk g0 [W E (X j.a.a) Z8] 114,blk fo (aF.J C) 118,blk g3 [W Z5 (X K.b.a) Z6, W P (X K.e.a) Q] 157,row Z5 (X K.b.a) Z6 (q0 (eN .u64) K.b.a) 32 1,row P (X K.e.a) Q (q0 (eN .u64) K.e.a) 32 1]:=by rw [mi (f:=J4) (y:=(aB.q l.a l.b J l.e)) bB Z]; exact mU
 have pz:X (N0 (N0 p (U a) (aB.q d.a (O6 av ax (d.b.a++ [C])) d.f d.e)) (U a) (aB.q l.a l.b J l.e))=X (N0 (N0 j.a.a (U a) (aN.q d.a (O (d.b.a++ [C])) d.f d.e)) (U a) (aN.q l.a (O l.b.a) J l.e)):=bg (eT (eT M Z) Z)
 have pE:X (N0 (N0 j.a.a (U a) (aN.q d.a (O (d.b.a++ [C])) d.f d.e)) (U a) (aN.q l.a (O l.b.a) J l.e))=X (N0 j.a.a (U a) (aN.q d.a (O (d.b.a++ [C])) d.f d.e)):=N1
 refine Kz (Zq (Zw ⟨ab E,ao E+(U a) *6,Zv⟩)) (Kz (Zq (Zw ⟨ab E,ao E+(U a) *6+3,Zv⟩)) ?_)
 obtain⟨x,bC⟩:=dJ (ls:=(N0 (N0 p (U a) (aB.q d.a (O6 av ax (d.b.a++ [C])) d.f d.e)) (U a) (aB.q l.a l.b J l.e))) (i:=U a) aB.len f6 (gT.rds (i:=0) Z) f4
 have ja:=gq (eT (eT M Z) Z) bC
 have pF:X x.b.a<=x.b.c/\X x.b.a<=9223372036854775807:=dH gT (i:=1) Z (φ:=λ _=>_) (bM (P8.2 ⟨x,E1 bC,b3⟩) dP)
 refine Kw (Do.storeRow (vs:= [Zz ⟨Zc []⟩, Zz ⟨Zc []⟩, V J]) (o:=(U a) *6+3) (q:=ao E+(U a) *6+3) gT Z Y Z P2 Z Z (M9 Z) (jG aB.len bC (M9 Z)) (kE (y:=(aB.q x.a x.b x.f ZB)) aB.len Z (M9 Z) bC) ?_)
 intro mV mY
 have jb:Own w D mV [row E (X j.a.a) Z8 (q0 aB.J (N0 (N0 (N0 p (U a) (aB.q d.a (O6 av ax (d.b.a++ [C])) d.f d.e)) (U a) (aB.q l.a l.b J l.e)) (U a) (aB.q x.a x.b x.f ZB))) 164 6,sepL (q0 J4 (N0 (N0 (N0 p (U a) (aB.q d.a (O6 av ax (d.b.a++ [C])) d.f d.e)) (U a) (aB.q l.a l.b J l.e)) (U a) (aB.q x.a x.b x.f ZB))),blk g0 [W E (X j.a.a) Z8] 114,blk fo (aF.J C) 118,blk g3 [W Z5 (X K.b.a) Z6, W P (X K.e.a) Q] 157,row Z5 (X K.b.a) Z6 (q0 (eN .u64) K.b.a) 32 1,row P (X K.e.a) Q (q0 (eN .u64) K.e.a) 32 1]:=by rw [mi (f:=J4) (y:=(aB.q x.a x.b x.f ZB)) bC Z]; exact mY
 have pG:X (N0 (N0 (N0 p (U a) (aB.q d.a (O6 av ax (d.b.a++ [C])) d.f d.e)) (U a) (aB.q l.a l.b J l.e)) (U a) (aB.q x.a x.b x.f ZB))=X (N0 (N0 (N0 j.a.a (U a) (aN.q d.a (O (d.b.a++ [C])) d.f d.e)) (U a) (aN.q l.a (O l.b.a) J l.e)) (U a) (aN.q x.a (O x.b.a) x.f ZB)):=bg (eT (eT (eT M Z) Z) Z)
 have pJ:X (N0 (N0 (N0 j.a.a (U a) (aN.q d.a (O (d.b.a++ [C])) d.f d.e)) (U a) (aN.q l.a (O l.b.a) J l.e)) (U a) (aN.q x.a (O x.b.a) x.f ZB))=X (N0 (N0 j.a.a (U a) (aN.q d.a (O (d.b.a++ [C])) d.f d.e)) (U a) (aN.q l.a (O l.b.a) J l.e)):=N1
 refine ns (Mz Z (La (aF.J C) jb 3 P1 P2 ?_))
 refine WL.do Z (J6 Tryz.call118 Z ?_ (λ _ _ k=>k))
 refine cb Tryz.func118 ?_
 refine sr ?_
 refine cu [vU B] 32 jb ?_
 intro dA qW mZ
 refine cu (aF.J C) 118 mZ ?_
 intro bV ng ni
 refine Ar Z (Kz (.func (.func 169) #[] #[vP bV 0,vP dA 0]) (An Z (rt (rs (An Z (JG ?_))))))
 have jc:=ni.px [] [5] []
 refine JI (An Z (JG (sr (Mz Z (Kz (vP g0 0) (Kz (vP g0 0) (Lz (W E (X j.a.a) Z8) jc 4 P0 (Kz (vJ (X j.a.a)) (Mn Z (bo ?_))))))))))
 have nk:Own w D ng (row Zv 0 0 (q0 (eN .u64) []) 32 1::_):=jc.free (cK 32 1)
 have nu:=nk.pb [0]
 obtain⟨jd,az⟩:=wY λ aG (aL:Nat) F (L:Nat) w'=>Own w D w' [blk bV (aF.J C) 118,blk dA [vU B] 32,row E (X j.a.a) Z8 (q0 aB.J (N0 (N0 (N0 p (U a) (aB.q d.a (O6 av ax (d.b.a++ [C])) d.f d.e)) (U a) (aB.q l.a l.b J l.e)) (U a) (aB.q x.a x.b x.f ZB))) 164 6,sepL (q0 J4 (N0 (N0 (N0 p (U a) (aB.q d.a (O6 av ax (d.b.a++ [C])) d.f d.e)) (U a) (aB.q l.a l.b J l.e)) (U a) (aB.q x.a x.b x.f ZB))),blk g0 [W E (X j.a.a) Z8] 114,blk g3 [W Z5 (X K.b.a) Z6, W P (X K.e.a) Q] 157,row Z5 (X K.b.a) Z6 (q0 (eN .u64) K.b.a) 32 1,row P (X K.e.a) Q (q0 (eN .u64) K.e.a) 32 1,row aG (X F) aL (q0 (eN .u64) F) 32 1]/\L<=X j.a.a/\X F<=L/\dY j B C K a (aB.abs d) (aB.abs l) (aB.abs x) (X j.a.a) [] 0=dY j B C K a (aB.abs d) (aB.abs l) (aB.abs x) (X j.a.a - L) F L
 refine B4 (λ i:(Option Addr) × Nat × (List Nat) × Nat=> [(10, W i.1 (X i.2.2.1) i.2.1),(43,vJ i.2.2.2),(42,vJ (X j.a.a)),(41, W E (X j.a.a) Z8),(9, .func (.func 169) #[] #[vP bV 0,vP dA 0]),(0,vP g0 0),(1,vU B),(3,vP g3 0)]) jd (λ i=>X j.a.a - i.2.2.2) (Zv,0, [],0) ⟨Z,Z,Z,Z,Z,Z,Z,Z,ZW⟩ (az.2 ⟨nu,(show 0<=X j.a.a/\0<=0/\dY j B C K a (aB.abs d) (aB.abs l) (aB.abs x) (X j.a.a) [] 0=dY j B C K a (aB.abs d) (aB.abs l) (aB.abs x) (X j.a.a - 0) [] 0 from ⟨Y,Y,Z⟩)⟩) ?_
 rintro ⟨aG,aL,F,L⟩ ny gU
 show Wp _ _ _ [(10, W aG (X F) aL),(43,vJ L),(42,vJ (X j.a.a)),(41, W E (X j.a.a) Z8),(9, .func (.func 169) #[] #[vP bV 0,vP dA 0]),(0,vP g0 0),(1,vU B),(3,vP g3 0)] _ _
 obtain⟨cZ,nz,nA,aH⟩:=az.1 gU
 refine sr (Kz (Zb ((L:Int) < (X j.a.a:Int))) (nt (JG ?_)))
 by_cases fE:(L:Int) < (X j.a.a:Int)
 refine jT (dT fE) (sk (JG (bo (sr ?_))))
 obtain⟨G,bW⟩:=dJ (ls:=(N0 (N0 (N0 p (U a) (aB.q d.a (O6 av ax (d.b.a++ [C])) d.f d.e)) (U a) (aB.q l.a l.b J l.e)) (U a) (aB.q x.a x.b x.f ZB))) (i:=L) aB.len f6 (cZ.rds (i:=2) Z) f4
 have aM:=gq (eT (eT (eT M Z) Z) Z) bW
 have nC:X G.b.a<=G.b.c/\X G.b.a<=9223372036854775807:=dH cZ (i:=3) Z (φ:=λ _=>_) (bM (P8.2 ⟨G,E1 bW,b3⟩) dP)
 refine fw (Zq (Zw ⟨ab E,ao E+L *6,Zv⟩)) (JU (jy) Z Z ((cZ.rds (i:=2) Z).addr (i:=L) Y) Y) (fw (Zx (Zc (aB.J G))) (JS Z (JW (cs:=(aB.J G)) Tryz.isAgg164 O9 ((cZ.rds (i:=2) Z).elem aB.len bW f6))) ?_)
 refine cu [.int .u64 0, W Zv 0 0, V J, Zz ⟨Zc []⟩, Zz ⟨Zc []⟩, V J] 164 cZ ?_
 intro bf pK je
 refine cO (aB.J G) 0 je O9 ?_
 intro pM aQ
 refine ns (Kz (vP bf 2) (Lz (V G.f) aQ 0 H4 (Mz Z ?_)))
 rcases Nf (G.f) with Z9 | Z9
 refine Gz (vP bf 0) Z9 (Gl (vU G.a) Z9 aQ 0 E3 (Kj (v:=vU B) Z Z Z9 Z (JM Z) (Gz (Zb ((G.a:Int) > (B:Int))) Z9 (fw (Zb ((G.a:Int) > (B:Int))) (JL Z Z9 Z) (Mz Z ?_)))))
 by_cases R:(G.a:Int) > (B:Int)
 refine gw (.func (.func 169) #[] #[vP bV 0,vP dA 0]) (dT R) (JM Z) (Gz (vP bf 0) (dT R) (Gl (vU G.a) (dT R) aQ 0 E3 (Gz (vP bf 3) (dT R) (Ga (aF.J G.e) (dT R) aQ 0 P1 P2 ?_))))
 refine KF Z Z (dT R) Z (Kh Tryz.call169 Z Z ?_ (λ _ _ k=>k))
 refine cb Tryz.func169 ?_
 refine sr ?_
 refine cu (aF.J G.e) 118 aQ ?_
 intro fF pO dB
 refine Ar Z (Kz (vP bV 0) (La (au.J C.j) dB 2 D0 C7 (Kz (vP fF 0) (La (au.J G.e.j) dB 0 D0 C7 ?_))))
 obtain⟨⟨dC,bD⟩,aR⟩:∃ q:au × Bool,lq C.j G.e.j=q:=⟨_,Z⟩
 obtain⟨pQ,gV,nD,gW,nE⟩:=JJ dB
 refine cl Tryz.call152 (qf _ _ C.j G.e.j dC bD gV aR) ?_
 rintro _ pR ⟨rfl,gX⟩
 have jg:=gW _ _ gX
 refine Mz Z (Kz (Zx (Zc (au.J dC))) (Kz (V bD) ?_))
 refine cu [Zz ⟨Zc []⟩, Zz ⟨Zc []⟩] 37 jg ?_
 intro pU pV jh
 refine cO (au.J dC) 0 jh C7 ?_
 intro pW ji
 refine An Z (JG ?_)
 have aS:=ji.px [] [0] []
 refine JI (Mz Z (Lz (vU B) aS 3 E3 (fw (Zb (¬ ((G.a:Int)=(B:Int)))) (JZ (e:= !(Zy ((G.a:Int)=(B:Int)))) yk ZY) (Mz Z ?_))))
 have dD:(Zy (¬ ((G.a:Int)=(B:Int))))=Zk:=(dT Y)
 refine Kj (v:= V bD) Z Z dD Z (JM Z) (fw (V bD) (JL Z dD Z) (Mz Z ?_))
 rcases Nf (bD) with Z1 | Z1
 refine Gz (vP bV 2) Z1 (Gl (V C.a) Z1 aS 2 H4 (Kj (v:= V C.a) Z Z Z1 Z (JM Z) ?_))
 rcases Nf (C.a) with aC | aC
 refine T aC (T aC (Kj (v:= V Zk) Z Z Z1 Z (JL Z aC Z) (fw (V Zk) (JL Z Z1 Z) (An Z (rt (rs (fw (V Zk) (JL Z (dT R) Z) (nt (jt ?_)))))))))
 have fG:=aS.px [] [0] []
 refine JI (Mz Z (Kz (vP bf 0) (Lz (vU G.a) fG 0 E3 ?_)))
 refine jW [vU G.a] 32 1 1 fG ?_
 intro jk pX dE
 replace dE:=Ke (y:=row jk 1 1 (q0 (eN .u64) ([G.a])) 32 1) Z dE
 have fH:=dE.pf [10]
 refine WL.do Z (J7 (k:=X F) (m:=1) (iZ) fH Z Z (fq P9 (fH.rds (i:=1) Z) (di mW ([G.a]))) Z Y (s:=X (F++ [G.a])) f7 (u0).symm ?_)
 intro jl jo pY jq
 have nG:X (F++ [G.a])=X F+1:=by simp only [o2,q5,L3]
 refine Az Z (B8 (bN (JK ?_)))
 have jr:=jq.px [] [1,2] []
 refine JI (fw (vJ (L+1)) (JN (e:=B7.wrap ((L:Int)+1)) yk f3) (Mz Z (B8 ?_)))
 have jv:=jr.pb [0]
 exact JX (jl,jo,(F++ [G.a]),L+1) ⟨Z,Z,Z,Z,Z,Z,Z,Z,ZW⟩ (az.2 ⟨jv,Y,Y,N (aH) (N (ZJ (λ q=>dY j B C K a (aB.abs d) (aB.abs l) (aB.abs x) q F L) (pg (n:=X j.a.a) (i:=L) Y)) (N (ae (bu aM)) (N (ip Z9) (N (ip R) (N (ae aR) (N (ip Z1) (ip aC)))))))⟩) (by show X j.a.a - (L+1) < X j.a.a - L; omega)
 refine Gz (vP fF 2) aC (Gl (V G.e.a) aC aS 0 H4 (Kj (v:= V G.e.a) Z Z Z1 Z (JH Z aC Z) (fw (V G.e.a) (JL Z Z1 Z) (An Z (rt (rs (fw (V G.e.a) (JL Z (dT R) Z) (nt ?_))))))))
 rcases Nf (G.e.a) with bE | bE
 refine jT bE ?_
 have fI:=aS.px [] [0] []
 refine JI (Mz Z (Kz (vP bf 0) (Lz (vU G.a) fI 0 E3 ?_)))
 refine jW [vU G.a] 32 1 1 fI ?_
 intro jw p8 dG
 replace dG:=Ke (y:=row jw 1 1 (q0 (eN .u64) ([G.a])) 32 1) Z dG
 have fJ:=dG.pf [10]
 refine WL.do Z (J7 (k:=X F) (m:=1) (iZ) fJ Z Z (fq P9 (fJ.rds (i:=1) Z) (di mW ([G.a]))) Z Y (s:=X (F++ [G.a])) f7 (u0).symm ?_)
 intro jA jB p9 jD
 have nH:X (F++ [G.a])=X F+1:=by simp only [o2,q5,L3]
 refine Az Z (B8 (bN (JK ?_)))
 have jE:=jD.px [] [1,2] []
 refine JI (fw (vJ (L+1)) (JN (e:=B7.wrap ((L:Int)+1)) yk f3) (Mz Z (B8 ?_)))
 have jH:=jE.pb [0]
 exact JX (jA,jB,(F++ [G.a]),L+1) ⟨Z,Z,Z,Z,Z,Z,Z,Z,ZW⟩ (az.2 ⟨jH,Y,Y,N (aH) (N (ZJ (λ q=>dY j B C K a (aB.abs d) (aB.abs l) (aB.abs x) q F L) (pg (n:=X j.a.a) (i:=L) Y)) (N (ae (bu aM)) (N (ip Z9) (N (ip R) (N (ae aR) (N (ip Z1) (N (eP aC) (ip bE))))))))⟩) (by show X j.a.a - (L+1) < X j.a.a - L; omega)
 refine jF bE (J8 (bN (JK ?_)))
 have jI:=aS.px [] [0,1] []
 refine JI (fw (vJ (L+1)) (JN (e:=B7.wrap ((L:Int)+1)) yk f3) (Mz Z (B8 ?_)))
 have jJ:=jI.pf []
 exact JX (aG,aL,F,L+1) ⟨Z,Z,Z,Z,Z,Z,Z,Z,ZW⟩ (az.2 ⟨jJ,Y,Y,N (aH) (N (ZJ (λ q=>dY j B C K a (aB.abs d) (aB.abs l) (aB.abs x) q F L) (pg (n:=X j.a.a) (i:=L) Y)) (N (ae (bu aM)) (N (ip Z9) (N (ip R) (N (ae aR) (N (ip Z1) (N (eP aC) (eP bE))))))))⟩) (by show X j.a.a - (L+1) < X j.a.a - L; omega)
 refine T Z1 (T Z1 (T Z1 (JR Z Z Z (JR Z Z Z (T Z1 (fw (V J) (JH Z Z1 Z) (An Z (rt (rs (fw (V J) (JL Z (dT R) Z) (nt (jf (J8 (bN (JK ?_)))))))))))))))
 have jK:=aS.px [] [0,1] []
 refine JI (fw (vJ (L+1)) (JN (e:=B7.wrap ((L:Int)+1)) yk f3) (Mz Z (B8 ?_)))
 have jL:=jK.pf []
 exact JX (aG,aL,F,L+1) ⟨Z,Z,Z,Z,Z,Z,Z,Z,ZW⟩ (az.2 ⟨jL,Y,Y,N (aH) (N (ZJ (λ q=>dY j B C K a (aB.abs d) (aB.abs l) (aB.abs x) q F L) (pg (n:=X j.a.a) (i:=L) Y)) (N (ae (bu aM)) (N (ip Z9) (N (ip R) (N (ae aR) (eP Z1))))))⟩) (by show X j.a.a - (L+1) < X j.a.a - L; omega)
 refine T (dF R) (T (dF R) (T (dF R) (T (dF R) (T (dF R) (T (dF R) (fw (V J) (JH Z (dF R) Z) (nt (jf (J8 (bN (JK ?_)))))))))))
 have jM:=aQ.px [] [0] []
 refine JI (fw (vJ (L+1)) (JN (e:=B7.wrap ((L:Int)+1)) yk f3) (Mz Z (B8 ?_)))
 have jN:=jM.pf []
 exact JX (aG,aL,F,L+1) ⟨Z,Z,Z,Z,Z,Z,Z,Z,ZW⟩ (az.2 ⟨jN,Y,Y,N (aH) (N (ZJ (λ q=>dY j B C K a (aB.abs d) (aB.abs l) (aB.abs x) q F L) (pg (n:=X j.a.a) (i:=L) Y)) (N (ae (bu aM)) (N (ip Z9) (iN R))))⟩) (by show X j.a.a - (L+1) < X j.a.a - L; omega)
 refine T Z9 (T Z9 (T Z9 (T Z9 (fw (V J) (JH Z Z9 Z) (Mz Z (T Z (T Z (T Z (T Z (T Z (T Z (fw (V J) (JH Z Z Z) (nt (jf (J8 (bN (JK ?_)))))))))))))))))
 have jO:=aQ.px [] [0] []
 refine JI (fw (vJ (L+1)) (JN (e:=B7.wrap ((L:Int)+1)) yk f3) (Mz Z (B8 ?_)))
 have jP:=jO.pf []
 exact JX (aG,aL,F,L+1) ⟨Z,Z,Z,Z,Z,Z,Z,Z,ZW⟩ (az.2 ⟨jP,Y,Y,N (aH) (N (ZJ (λ q=>dY j B C K a (aB.abs d) (aB.abs l) (aB.abs x) q F L) (pg (n:=X j.a.a) (i:=L) Y)) (N (ae (bu aM)) (eP Z9)))⟩) (by show X j.a.a - (L+1) < X j.a.a - L; omega)
 refine jF (dF fE) (B9 (JV ?_))
 have gY:dY j B C K a (aB.abs d) (aB.abs l) (aB.abs x) (X j.a.a) [] 0=F:=N (aH) (N (ZJ (λ q=>dY j B C K a (aB.abs d) (aB.abs l) (aB.abs x) q F L) (CZ (n:=X j.a.a) (i:=L) Y)) Z)
 refine JV (J2 (JK (JG (JG ?_))))
 have jR:=cZ.px [] [0,1] []
 refine JI (Mz Z (Kz (vJ (X F)) (Mn Z (bo ?_))))
 have gZ:X j.a.a=X (N0 (N0 (N0 j.a.a (U a) (aN.q d.a (O (d.b.a++ [C])) d.f d.e)) (U a) (aN.q l.a (O l.b.a) J l.e)) (U a) (aN.q x.a (O x.b.a) x.f ZB)):=by first | omega | (simp only [N1]; done) | (simp only [N1,o2,q5,L3,o0,o1,O7]; omega)
 have jS:Own w D ny [row E (X (N0 (N0 (N0 j.a.a (U a) (aN.q d.a (O (d.b.a++ [C])) d.f d.e)) (U a) (aN.q l.a (O l.b.a) J l.e)) (U a) (aN.q x.a (O x.b.a) x.f ZB))) Z8 (q0 aB.J (N0 (N0 (N0 p (U a) (aB.q d.a (O6 av ax (d.b.a++ [C])) d.f d.e)) (U a) (aB.q l.a l.b J l.e)) (U a) (aB.q x.a x.b x.f ZB))) 164 6,sepL (q0 J4 (N0 (N0 (N0 p (U a) (aB.q d.a (O6 av ax (d.b.a++ [C])) d.f d.e)) (U a) (aB.q l.a l.b J l.e)) (U a) (aB.q x.a x.b x.f ZB))),blk g0 [W E (X (N0 (N0 (N0 j.a.a (U a) (aN.q d.a (O (d.b.a++ [C])) d.f d.e)) (U a) (aN.q l.a (O l.b.a) J l.e)) (U a) (aN.q x.a (O x.b.a) x.f ZB))) Z8] 114,blk g3 [W Z5 (X K.b.a) Z6, W P (X K.e.a) Q] 157,row Z5 (X K.b.a) Z6 (q0 (eN .u64) K.b.a) 32 1,row P (X K.e.a) Q (q0 (eN .u64) K.e.a) 32 1,row aG (X F) aL (q0 (eN .u64) F) 32 1]:=by rw [<- gZ]; exact jR
 have jU:=jS.pb [0,1]
 obtain⟨jV,bX⟩:=Ip λ (aa:Nat) bF (bG:Nat) bi ah w'=>Own w D w' [blk g0 [W bF (X ah) bG] 114,blk g3 [W Z5 (X K.b.a) Z6, W P (X K.e.a) Q] 157,row Z5 (X K.b.a) Z6 (q0 (eN .u64) K.b.a) 32 1,row P (X K.e.a) Q (q0 (eN .u64) K.e.a) 32 1,row aG (X F) aL (q0 (eN .u64) F) 32 1,row bF (X ah) bG (q0 aB.J bi) 164 6,sepL (q0 J4 bi)]/\r7 aB.abs bi=ah/\aa<=X F/\X ah<=(X (N0 (N0 (N0 j.a.a (U a) (aN.q d.a (O (d.b.a++ [C])) d.f d.e)) (U a) (aN.q l.a (O l.b.a) J l.e)) (U a) (aN.q x.a (O x.b.a) x.f ZB)))+aa/\X ah<=X (N0 (N0 (N0 j.a.a (U a) (aN.q d.a (O (d.b.a++ [C])) d.f d.e)) (U a) (aN.q l.a (O l.b.a) J l.e)) (U a) (aN.q x.a (O x.b.a) x.f ZB))/\ib K F F (N0 (N0 (N0 j.a.a (U a) (aN.q d.a (O (d.b.a++ [C])) d.f d.e)) (U a) (aN.q l.a (O l.b.a) J l.e)) (U a) (aN.q x.a (O x.b.a) x.f ZB))=ib K F (r6 aa F) ah
 refine B4 (λ i:Nat × (Option Addr) × Nat × (List aB) × (List aN)=> [(71,vJ i.1),(70,vJ (X F)),(69, W aG (X F) aL),(10, W aG (X F) aL),(0,vP g0 0),(3,vP g3 0)]) jV (λ i=>X F - i.1) (0,E,Z8,(N0 (N0 (N0 p (U a) (aB.q d.a (O6 av ax (d.b.a++ [C])) d.f d.e)) (U a) (aB.q l.a l.b J l.e)) (U a) (aB.q x.a x.b x.f ZB)),(N0 (N0 (N0 j.a.a (U a) (aN.q d.a (O (d.b.a++ [C])) d.f d.e)) (U a) (aN.q l.a (O l.b.a) J l.e)) (U a) (aN.q x.a (O x.b.a) x.f ZB))) ⟨Z,Z,Z,Z,Z,Z,ZW⟩ (bX.2 ⟨jU,by exact(eT (eT (eT M Z) Z) Z),Y,Y,Y,Z⟩) ?_
 rintro ⟨aa,bF,bG,bi,ah⟩ qa ig
 show Wp _ _ _ [(71,vJ aa),(70,vJ (X F)),(69, W aG (X F) aL),(10, W aG (X F) aL),(0,vP g0 0),(3,vP g3 0)] _ _
 obtain⟨bn,bY,nI,nJ,nK,dI⟩:=bX.1 ig
 have nL:=bg bY
 refine sr (Kz (Zb ((aa:Int) < (X F:Int))) (nt (JG ?_)))
 by_cases fM:(aa:Int) < (X F:Int)
 obtain⟨dK,dL⟩:=dJ (ls:=F) (i:=aa) iq f6 (bn.rds (i:=4) Z) f4
 have ik:=drop_at dL
 refine jT (dT fM) (sk (JG (bo (sr (fw (Zq (Zw ⟨ab aG,ao aG+aa *1,Zv⟩)) (JU (iZ) Z Z ((bn.rds (i:=4) Z).addr (i:=aa) Y) Y) (fw (vU dK) (JS Z (bT.one E3 (((bn.rds (i:=4) Z).elem iq dL f6).at_ (k:=0) Z))) (An Z (JI (Mz Z (Mz Z ?_))))))))))
 have jX:=bn.pf [0,5,6]
 obtain⟨dN,dO⟩:∃ q,jC (aZ.q (O ah)) dK=q:=⟨_,Z⟩
 obtain⟨qb,il,nM,iw,nN⟩:=KE jX
 refine cl Tryz.call120 (pI _ _ g0 (aZ.q (O ah)) bF bG bi dK dN il bY g5 dO) ?_
 rintro _ qc ⟨jY,jZ,j3,rfl,iy,dQ,dR⟩
 have fO:=iw _ _ iy
 have nO:=bg dQ
 have nP:=fO.rowC (i:=1) Z
 replace dR:X dN.a.a<=X ah:=dR
 refine B8 (bN (JK (JI (fw (vJ (aa+1)) (JN (e:=B7.wrap ((aa:Int)+1)) yk f3) (Mz Z (B8 ?_))))))
 have j4:=fO.pb [1,2]
 exact JX (aa+1,jY,jZ,j3,dN.a.a) ⟨Z,Z,Z,Z,Z,Z,ZW⟩ (bX.2 ⟨j4,by exact dQ,Y,Y,Y,N (dI) (N (ZJ (λ q=>ib K F q ah) ik) (ae dO))⟩) (by show X F - (aa+1) < X F - aa; omega)
 refine jF (dF fM) (B9 (JV ?_))
 have iA:ib K F F (N0 (N0 (N0 j.a.a (U a) (aN.q d.a (O (d.b.a++ [C])) d.f d.e)) (U a) (aN.q l.a (O l.b.a) J l.e)) (U a) (aN.q x.a (O x.b.a) x.f ZB))=ah:=N (dI) (N (ZJ (λ q=>ib K F q ah) (eH (ls:=F) (i:=aa) Y)) Z)
 refine JV (J2 (JK (JI (Mz Z (Mz Z (Kz (vP g3 0) (Kz (vP g3 1) (Lz (W P (X K.e.a) Q) bn 1 Tryz.isAgg35 (Mz Z ?_)))))))))
 have fP:=bn.pf [3]
 refine WL.do Z (J7 (k:=X K.e.a) (m:=X F) (iZ) fP Z Z (fq P9 (fP.rds (i:=4) Z) (di mW F)) Z Y (s:=X (K.e.a++F)) f7 (u0).symm ?_)
 intro fQ fT qg j5
 have nQ:X (K.e.a++F)=X K.e.a+X F:=by simp only [o2,q5,L3]
 refine Kz (vP g3 0) (Kz (vP g3 1) ?_)
 have j6:=j5.pf [2]
 refine cO [W fQ (X (K.e.a++F)) fT] 1 j6 Tryz.sizeOf35 ?_
 intro qh kg
 refine B8 (Kl (res0 Z) ?_)
 have ko:=kg.px [] [4] [0,3,1]
 obtain⟨rfl,rfl⟩:=fK (zj hr (show _=(aZ.q (O ah),fD.q (O K.b.a) (O (K.e.a++F))) from N (ae dz) (N (ip bU) (N (ae (bu fC)) (N (ae (bu iY)) (N (ae (bu ja)) (N (ae gY) (ae iA))))))))
 exact⟨bF,bG,bi,Z5,Z6,fQ,fT,Z,ko,bY⟩
 have h39t:Bool.toNat bR=0:=by rw [bU]; rfl
 refine jT (cn bU) (JI (Mz Z (Mz Z (Kz (vP g0 0) (Kz (vP g0 0) (Lz (W E (X j.a.a) Z8) bS 0 P0 (Mz Z (Mz Z (Kz (Zx #[vU B, W Zv 0 0, V J, Zz ⟨Zc []⟩, Zz ⟨Zc []⟩, V J]) ?_)))))))))
 refine WL.do Z (KQ (cs:= [vU B, W Zv 0 0, V J, Zz ⟨Zc []⟩, Zz ⟨Zc []⟩, V J]) (t:=164) (sz:=6) (m:=1) bS Z Z Za Z ?_)
 intro fU kr dS
 replace dS:=Ke (y:=ma fU 1 (q0 aB.J ([(aB.q B (O6 Zv 0 []) J ZB)])) 164 6) Z dS
 have ku:Own w D kr (row Zv 0 0 (q0 aF.J []) 118 3::_):=dS.free (cK 118 3)
 have kv:=ku.pf [4,1,5]
 obtain⟨qi,iB,nR,iC,nS⟩:=KT kv
 refine cl Tryz.call123 (BQ _ _ E (X j.a.a) Z8 p a fU (aB.q B (O6 Zv 0 []) J ZB) j.a.a (aN.q B (O []) J ZB) iB Y M Z Y Y) ?_
 rintro _ qj ⟨Z7,ai,rfl,iD⟩
 have kw:=iC _ _ iD
 have nT:X (t8 (U a) p++((aB.q B (O6 Zv 0 []) J ZB)::r6 (U a) p))=X (t8 (U a) j.a.a++((aN.q B (O []) J ZB)::r6 (U a) j.a.a)):=by exact bg (jQ (z:=(aN.q B (O []) J ZB)) M Z)
 have nU:X (t8 (U a) j.a.a++((aN.q B (O []) J ZB)::r6 (U a) j.a.a))=X j.a.a+1:=by simp only [o2,o0,q5,o1]; omega
 refine Kz (vP g0 0) (Kz (vP g0 0) ?_)
 have ky:=kw.pf [2]
 refine cO [W Z7 (X (t8 (U a) j.a.a++((aN.q B (O []) J ZB)::r6 (U a) j.a.a))) ai] 0 ky Tryz.sizeOf112 ?_
 intro ql bH
 refine ns (Mz Z (Kz (vP g0 0) (Kz (vP g0 0) (Lz (W Z7 (X (t8 (U a) j.a.a++((aN.q B (O []) J ZB)::r6 (U a) j.a.a))) ai) bH 0 P0 (fw (vJ (U a)) (JN (e:=a) (JM Z) Y) ?_)))))
 obtain⟨b,aI⟩:=dJ (ls:=(t8 (U a) p++((aB.q B (O6 Zv 0 []) J ZB)::r6 (U a) p))) (i:=U a) aB.len f6 (bH.rds (i:=1) Z) f4
 have dU:=gq (jQ (z:=(aN.q B (O []) J ZB)) M Z) aI
 have nV:X b.b.a<=b.b.c/\X b.b.a<=9223372036854775807:=dH bH (i:=2) Z (φ:=λ _=>_) (bM (P8.2 ⟨b,E1 aI,b3⟩) dP)
 have nW:X b.b.a<=1000000:=by have q9:Hd (t8 (U a) j.a.a++((aN.q B (O []) J ZB)::r6 (U a) j.a.a)):=(by first | exact fe | exact zJ fe (Nb _)); exact q9 _ (E1 dU)
 refine fw (Zq (Zw ⟨ab Z7,ao Z7+(U a) *6,Zv⟩)) (JU (jy) Z Z ((bH.rds (i:=1) Z).addr (i:=U a) Y) Y) (An Z (rt (rs (An Z (JG ?_)))))
 refine mX 7 [7,10] (JP J3) bH ?_
 intro qm kz
 refine Ki (v:= Zq (Zw ⟨ab Z7,ao Z7+(U a) *6,Zv⟩)) 0 Z f1 (λ _=>JM Z) (qv 1 Z Z (qk (Zq (Zw ⟨ab Z7,ao Z7+(U a) *6,Zv⟩)) 2 Z (qk (Zq (Zw ⟨ab Z7,ao Z7+(U a) *6+1,Zv⟩)) 3 Z (qt (v:= W b.b.A (X b.b.a) b.b.c) 4 Z (λ _ ⟨_,H9⟩=>JS Z (bT.one Tryz.isAgg97 (((H9.rds (i:=1) Z).elem aB.len aI f6).at_ (k:=1) Z))) (qt (v:= Zx (Zc (aF.J C))) 5 Z (λ _ ⟨_,H9⟩=>JS Z (JW (cs:=(aF.J C)) P1 P2 ((H9.cls (i:=3) Z).lit (k:=0) (m:=3) Z))) ?_)))))
 refine qd 6 Z (Kt (cs:=(aF.J C)) (t:=118) (sz:=3) (m:=1) kz Z Z Za Z f6 ?_)
 intro kC kD dV
 replace dV:=Ke (y:=row kC 1 1 (q0 aF.J ([C])) 118 3) Z dV
 have fV:=dV.pb [0]
 refine⟨.inr ⟨_,fV⟩, ?_⟩
 have kF:=fV.pf [2]
 have dW:Own w D kD (row b.b.A (X b.b.a) b.b.c (q0 aF.J b.b.a) 118 3::sepL (q0 J4 (t8 (U a) (t8 (U a) p++((aB.q B (O6 Zv 0 []) J ZB)::r6 (U a) p)))++q0 J4 (r6 (U a+1) (t8 (U a) p++((aB.q B (O6 Zv 0 []) J ZB)::r6 (U a) p))))::_):=K5 (f:=J4) (i:=U a) aI kF
 have nX:=dW.rowC (i:=0) Z
 refine qd 7 Z (J7 (k:=X b.b.a) (m:=1) (vz) dW Z Z (fq L0 (dW.rds (i:=8) Z) (di aF.one ([C]))) Z Y (s:=X (b.b.a++ [C])) f7 (u0).symm ?_)
 intro Z4 Z3 kG kH
 have nY:X (b.b.a++ [C])=X b.b.a+1:=by simp only [o2,q5,L3]
 refine⟨.inl f1, ?_⟩
 refine Ki (v:= Zq (Zw ⟨ab Z7,ao Z7+(U a) *6,Zv⟩)) 8 Z f1 (λ _=>yk) (Ki (v:= Zq (Zw ⟨ab Z7,ao Z7+(U a) *6+1,Zv⟩)) 9 Z f1 (λ _=>yk) ?_)
 have kI:Own w D kG (sepL (q0 J4 (N0 (t8 (U a) p++((aB.q B (O6 Zv 0 []) J ZB)::r6 (U a) p)) (U a) (aB.q b.a (O6 Z4 Z3 (b.b.a++ [C])) b.f b.e)))::_):=Lh (f:=J4) (y:=(aB.q b.a (O6 Z4 Z3 (b.b.a++ [C])) b.f b.e)) aI kH
 have kJ:=kI.pf [2]
 refine qe 10 Z (Do.storeRow (vs:= [W Z4 (X (b.b.a++ [C])) Z3]) (o:=(U a) *6+1) (q:=ao Z7+(U a) *6+1) kJ Z Y Z Tryz.sizeOf97 Z Z (M9 Z) (jG aB.len aI (M9 Z)) (kE (y:=(aB.q b.a (O6 Z4 Z3 (b.b.a++ [C])) b.f b.e)) aB.len Z (M9 Z) aI) ?_)
 intro qo kK
 have nZ:X (N0 (t8 (U a) p++((aB.q B (O6 Zv 0 []) J ZB)::r6 (U a) p)) (U a) (aB.q b.a (O6 Z4 Z3 (b.b.a++ [C])) b.f b.e))=X (N0 (t8 (U a) j.a.a++((aN.q B (O []) J ZB)::r6 (U a) j.a.a)) (U a) (aN.q b.a (O (b.b.a++ [C])) b.f b.e)):=bg (eT (jQ (z:=(aN.q B (O []) J ZB)) M Z) Z)
 have og:X (N0 (t8 (U a) j.a.a++((aN.q B (O []) J ZB)::r6 (U a) j.a.a)) (U a) (aN.q b.a (O (b.b.a++ [C])) b.f b.e))=X (t8 (U a) j.a.a++((aN.q B (O []) J ZB)::r6 (U a) j.a.a)):=N1
 refine⟨.inl f1, ?_⟩
 refine qn (JK (JG ?_))
 have dX:=kK.px [] [7] []
 refine JI (Mz Z (Mz Z (Kz (Zx #[Zz ⟨Zc []⟩, Zz ⟨Zc []⟩, V J]) (Kz (Zq (Zw ⟨ab Z7,ao Z7+(U a) *6,Zv⟩)) (Kz (Zq (Zw ⟨ab Z7,ao Z7+(U a) *6+2,Zv⟩)) ?_)))))
 obtain⟨g,aT⟩:=dJ (ls:=(N0 (t8 (U a) p++((aB.q B (O6 Zv 0 []) J ZB)::r6 (U a) p)) (U a) (aB.q b.a (O6 Z4 Z3 (b.b.a++ [C])) b.f b.e))) (i:=U a) aB.len f6 (dX.rds (i:=0) Z) f4
 have iE:=gq (eT (jQ (z:=(aN.q B (O []) J ZB)) M Z) Z) aT
 have oh:X g.b.a<=g.b.c/\X g.b.a<=9223372036854775807:=dH dX (i:=1) Z (φ:=λ _=>_) (bM (P8.2 ⟨g,E1 aT,b3⟩) dP)
 refine Kw (Do.storeRow (vs:= [V J]) (o:=(U a) *6+2) (q:=ao Z7+(U a) *6+2) dX Z Y Z Tryz.sizeOf4 Z Z (M9 Z) (jG aB.len aT (M9 Z)) (kE (y:=(aB.q g.a g.b J g.e)) aB.len Z (M9 Z) aT) ?_)
 intro kL kM
 have d9:Own w D kL [row Z7 (X (t8 (U a) j.a.a++((aN.q B (O []) J ZB)::r6 (U a) j.a.a))) ai (q0 aB.J (N0 (N0 (t8 (U a) p++((aB.q B (O6 Zv 0 []) J ZB)::r6 (U a) p)) (U a) (aB.q b.a (O6 Z4 Z3 (b.b.a++ [C])) b.f b.e)) (U a) (aB.q g.a g.b J g.e))) 164 6,sepL (q0 J4 (N0 (N0 (t8 (U a) p++((aB.q B (O6 Zv 0 []) J ZB)::r6 (U a) p)) (U a) (aB.q b.a (O6 Z4 Z3 (b.b.a++ [C])) b.f b.e)) (U a) (aB.q g.a g.b J g.e))),blk g0 [W Z7 (X (t8 (U a) j.a.a++((aN.q B (O []) J ZB)::r6 (U a) j.a.a))) ai] 114,blk fo (aF.J C) 118,blk g3 [W Z5 (X K.b.a) Z6, W P (X K.e.a) Q] 157,row Z5 (X K.b.a) Z6 (q0 (eN .u64) K.b.a) 32 1,row P (X K.e.a) Q (q0 (eN .u64) K.e.a) 32 1]:=by rw [mi (f:=J4) (y:=(aB.q g.a g.b J g.e)) aT Z]; exact kM
 have ol:X (N0 (N0 (t8 (U a) p++((aB.q B (O6 Zv 0 []) J ZB)::r6 (U a) p)) (U a) (aB.q b.a (O6 Z4 Z3 (b.b.a++ [C])) b.f b.e)) (U a) (aB.q g.a g.b J g.e))=X (N0 (N0 (t8 (U a) j.a.a++((aN.q B (O []) J ZB)::r6 (U a) j.a.a)) (U a) (aN.q b.a (O (b.b.a++ [C])) b.f b.e)) (U a) (aN.q g.a (O g.b.a) J g.e)):=bg (eT (eT (jQ (z:=(aN.q B (O []) J ZB)) M Z) Z) Z)
 have om:X (N0 (N0 (t8 (U a) j.a.a++((aN.q B (O []) J ZB)::r6 (U a) j.a.a)) (U a) (aN.q b.a (O (b.b.a++ [C])) b.f b.e)) (U a) (aN.q g.a (O g.b.a) J g.e))=X (N0 (t8 (U a) j.a.a++((aN.q B (O []) J ZB)::r6 (U a) j.a.a)) (U a) (aN.q b.a (O (b.b.a++ [C])) b.f b.e)):=N1
 refine Kz (Zq (Zw ⟨ab Z7,ao Z7+(U a) *6,Zv⟩)) (Kz (Zq (Zw ⟨ab Z7,ao Z7+(U a) *6+3,Zv⟩)) ?_)
 obtain⟨h,aU⟩:=dJ (ls:=(N0 (N0 (t8 (U a) p++((aB.q B (O6 Zv 0 []) J ZB)::r6 (U a) p)) (U a) (aB.q b.a (O6 Z4 Z3 (b.b.a++ [C])) b.f b.e)) (U a) (aB.q g.a g.b J g.e))) (i:=U a) aB.len f6 (d9.rds (i:=0) Z) f4
 have iF:=gq (eT (eT (jQ (z:=(aN.q B (O []) J ZB)) M Z) Z) Z) aU
 have oo:X h.b.a<=h.b.c/\X h.b.a<=9223372036854775807:=dH d9 (i:=1) Z (φ:=λ _=>_) (bM (P8.2 ⟨h,E1 aU,b3⟩) dP)
 refine Kw (Do.storeRow (vs:= [Zz ⟨Zc []⟩, Zz ⟨Zc []⟩, V J]) (o:=(U a) *6+3) (q:=ao Z7+(U a) *6+3) d9 Z Y Z P2 Z Z (M9 Z) (jG aB.len aU (M9 Z)) (kE (y:=(aB.q h.a h.b h.f ZB)) aB.len Z (M9 Z) aU) ?_)
 intro kN kP
 have fZ:Own w D kN [row Z7 (X (t8 (U a) j.a.a++((aN.q B (O []) J ZB)::r6 (U a) j.a.a))) ai (q0 aB.J (N0 (N0 (N0 (t8 (U a) p++((aB.q B (O6 Zv 0 []) J ZB)::r6 (U a) p)) (U a) (aB.q b.a (O6 Z4 Z3 (b.b.a++ [C])) b.f b.e)) (U a) (aB.q g.a g.b J g.e)) (U a) (aB.q h.a h.b h.f ZB))) 164 6,sepL (q0 J4 (N0 (N0 (N0 (t8 (U a) p++((aB.q B (O6 Zv 0 []) J ZB)::r6 (U a) p)) (U a) (aB.q b.a (O6 Z4 Z3 (b.b.a++ [C])) b.f b.e)) (U a) (aB.q g.a g.b J g.e)) (U a) (aB.q h.a h.b h.f ZB))),blk g0 [W Z7 (X (t8 (U a) j.a.a++((aN.q B (O []) J ZB)::r6 (U a) j.a.a))) ai] 114,blk fo (aF.J C) 118,blk g3 [W Z5 (X K.b.a) Z6, W P (X K.e.a) Q] 157,row Z5 (X K.b.a) Z6 (q0 (eN .u64) K.b.a) 32 1,row P (X K.e.a) Q (q0 (eN .u64) K.e.a) 32 1]:=by rw [mi (f:=J4) (y:=(aB.q h.a h.b h.f ZB)) aU Z]; exact kP
 have oq:X (N0 (N0 (N0 (t8 (U a) p++((aB.q B (O6 Zv 0 []) J ZB)::r6 (U a) p)) (U a) (aB.q b.a (O6 Z4 Z3 (b.b.a++ [C])) b.f b.e)) (U a) (aB.q g.a g.b J g.e)) (U a) (aB.q h.a h.b h.f ZB))=X (N0 (N0 (N0 (t8 (U a) j.a.a++((aN.q B (O []) J ZB)::r6 (U a) j.a.a)) (U a) (aN.q b.a (O (b.b.a++ [C])) b.f b.e)) (U a) (aN.q g.a (O g.b.a) J g.e)) (U a) (aN.q h.a (O h.b.a) h.f ZB)):=bg (eT (eT (eT (jQ (z:=(aN.q B (O []) J ZB)) M Z) Z) Z) Z)
 have ou:X (N0 (N0 (N0 (t8 (U a) j.a.a++((aN.q B (O []) J ZB)::r6 (U a) j.a.a)) (U a) (aN.q b.a (O (b.b.a++ [C])) b.f b.e)) (U a) (aN.q g.a (O g.b.a) J g.e)) (U a) (aN.q h.a (O h.b.a) h.f ZB))=X (N0 (N0 (t8 (U a) j.a.a++((aN.q B (O []) J ZB)::r6 (U a) j.a.a)) (U a) (aN.q b.a (O (b.b.a++ [C])) b.f b.e)) (U a) (aN.q g.a (O g.b.a) J g.e)):=N1
 refine ns (Mz Z (La (aF.J C) fZ 3 P1 P2 ?_))
 refine WL.do Z (J6 Tryz.call118 Z ?_ (λ _ _ k=>k))
 refine cb Tryz.func118 ?_
 refine sr ?_
 refine cu [vU B] 32 fZ ?_
 intro bI qp kQ
 refine cu (aF.J C) 118 kQ ?_
 intro aV kR kS
 refine Ar Z (Kz (.func (.func 169) #[] #[vP aV 0,vP bI 0]) (An Z (rt (rs (An Z (JG ?_))))))
 have gm:=kS.px [] [5] []
 refine JI (An Z (JG (sr (Mz Z (Kz (vP g0 0) (Kz (vP g0 0) (Lz (W Z7 (X (t8 (U a) j.a.a++((aN.q B (O []) J ZB)::r6 (U a) j.a.a))) ai) gm 4 P0 (Kz (vI ((X (t8 (U a) j.a.a++((aN.q B (O []) J ZB)::r6 (U a) j.a.a)):Nat):Int)) (Mn Z (bo ?_))))))))))
 have kT:Own w D kR (row Zv 0 0 (q0 (eN .u64) []) 32 1::_):=gm.free (cK 32 1)
 have kU:=kT.pb [0]
 obtain⟨kV,aA⟩:=wY λ ag (ak:Nat) r (u:Nat) w'=>Own w D w' [blk aV (aF.J C) 118,blk bI [vU B] 32,row Z7 (X (t8 (U a) j.a.a++((aN.q B (O []) J ZB)::r6 (U a) j.a.a))) ai (q0 aB.J (N0 (N0 (N0 (t8 (U a) p++((aB.q B (O6 Zv 0 []) J ZB)::r6 (U a) p)) (U a) (aB.q b.a (O6 Z4 Z3 (b.b.a++ [C])) b.f b.e)) (U a) (aB.q g.a g.b J g.e)) (U a) (aB.q h.a h.b h.f ZB))) 164 6,sepL (q0 J4 (N0 (N0 (N0 (t8 (U a) p++((aB.q B (O6 Zv 0 []) J ZB)::r6 (U a) p)) (U a) (aB.q b.a (O6 Z4 Z3 (b.b.a++ [C])) b.f b.e)) (U a) (aB.q g.a g.b J g.e)) (U a) (aB.q h.a h.b h.f ZB))),blk g0 [W Z7 (X (t8 (U a) j.a.a++((aN.q B (O []) J ZB)::r6 (U a) j.a.a))) ai] 114,blk g3 [W Z5 (X K.b.a) Z6, W P (X K.e.a) Q] 157,row Z5 (X K.b.a) Z6 (q0 (eN .u64) K.b.a) 32 1,row P (X K.e.a) Q (q0 (eN .u64) K.e.a) 32 1,row ag (X r) ak (q0 (eN .u64) r) 32 1]/\u<=X (t8 (U a) j.a.a++((aN.q B (O []) J ZB)::r6 (U a) j.a.a))/\X r<=u/\dZ j B C K a (aB.abs b) (aB.abs g) (aB.abs h) (X (t8 (U a) j.a.a++((aN.q B (O []) J ZB)::r6 (U a) j.a.a))) [] 0=dZ j B C K a (aB.abs b) (aB.abs g) (aB.abs h) ((X (t8 (U a) j.a.a++((aN.q B (O []) J ZB)::r6 (U a) j.a.a))) - u) r u
 refine B4 (λ i:(Option Addr) × Nat × (List Nat) × Nat=> [(10, W i.1 (X i.2.2.1) i.2.1),(43,vJ i.2.2.2),(42,vI ((X (t8 (U a) j.a.a++((aN.q B (O []) J ZB)::r6 (U a) j.a.a)):Nat):Int)),(41, W Z7 (X (t8 (U a) j.a.a++((aN.q B (O []) J ZB)::r6 (U a) j.a.a))) ai),(9, .func (.func 169) #[] #[vP aV 0,vP bI 0]),(0,vP g0 0),(1,vU B),(3,vP g3 0)]) kV (λ i=>(X (t8 (U a) j.a.a++((aN.q B (O []) J ZB)::r6 (U a) j.a.a))) - i.2.2.2) (Zv,0, [],0) ⟨Z,Z,Z,Z,Z,Z,Z,Z,ZW⟩ (aA.2 ⟨kU,(show 0<=X (t8 (U a) j.a.a++((aN.q B (O []) J ZB)::r6 (U a) j.a.a))/\0<=0/\dZ j B C K a (aB.abs b) (aB.abs g) (aB.abs h) (X (t8 (U a) j.a.a++((aN.q B (O []) J ZB)::r6 (U a) j.a.a))) [] 0=dZ j B C K a (aB.abs b) (aB.abs g) (aB.abs h) ((X (t8 (U a) j.a.a++((aN.q B (O []) J ZB)::r6 (U a) j.a.a))) - 0) [] 0 from ⟨Y,Y,Z⟩)⟩) ?_
 rintro ⟨ag,ak,r,u⟩ kW iG
 show Wp _ _ _ [(10, W ag (X r) ak),(43,vJ u),(42,vI ((X (t8 (U a) j.a.a++((aN.q B (O []) J ZB)::r6 (U a) j.a.a)):Nat):Int)),(41, W Z7 (X (t8 (U a) j.a.a++((aN.q B (O []) J ZB)::r6 (U a) j.a.a))) ai),(9, .func (.func 169) #[] #[vP aV 0,vP bI 0]),(0,vP g0 0),(1,vU B),(3,vP g3 0)] _ _
 obtain⟨bq,ow,oz,aJ⟩:=aA.1 iG
 refine sr (Kz (Zb ((u:Int) < ((X (t8 (U a) j.a.a++((aN.q B (O []) J ZB)::r6 (U a) j.a.a)):Nat):Int))) (nt (JG ?_)))
 by_cases gp:(u:Int) < ((X (t8 (U a) j.a.a++((aN.q B (O []) J ZB)::r6 (U a) j.a.a)):Nat):Int)
 refine jT (dT gp) (sk (JG (bo (sr ?_))))
 obtain⟨I,bZ⟩:=dJ (ls:=(N0 (N0 (N0 (t8 (U a) p++((aB.q B (O6 Zv 0 []) J ZB)::r6 (U a) p)) (U a) (aB.q b.a (O6 Z4 Z3 (b.b.a++ [C])) b.f b.e)) (U a) (aB.q g.a g.b J g.e)) (U a) (aB.q h.a h.b h.f ZB))) (i:=u) aB.len f6 (bq.rds (i:=2) Z) f4
 have aO:=gq (eT (eT (eT (jQ (z:=(aN.q B (O []) J ZB)) M Z) Z) Z) Z) bZ
 have oC:X I.b.a<=I.b.c/\X I.b.a<=9223372036854775807:=dH bq (i:=3) Z (φ:=λ _=>_) (bM (P8.2 ⟨I,E1 bZ,b3⟩) dP)
 refine fw (Zq (Zw ⟨ab Z7,ao Z7+u *6,Zv⟩)) (JU (jy) Z Z ((bq.rds (i:=2) Z).addr (i:=u) Y) Y) (fw (Zx (Zc (aB.J I))) (JS Z (JW (cs:=(aB.J I)) Tryz.isAgg164 O9 ((bq.rds (i:=2) Z).elem aB.len bZ f6))) ?_)
 refine cu [.int .u64 0, W Zv 0 0, V J, Zz ⟨Zc []⟩, Zz ⟨Zc []⟩, V J] 164 bq ?_
 intro bv qw kX
 refine cO (aB.J I) 0 kX O9 ?_
 intro qx aW
 refine ns (Kz (vP bv 2) (Lz (V I.f) aW 0 H4 (Mz Z ?_)))
 rcases Nf (I.f) with Z2 | Z2
 refine Gz (vP bv 0) Z2 (Gl (vU I.a) Z2 aW 0 E3 (Kj (v:=vU B) Z Z Z2 Z (JM Z) (Gz (Zb ((I.a:Int) > (B:Int))) Z2 (fw (Zb ((I.a:Int) > (B:Int))) (JL Z Z2 Z) (Mz Z ?_)))))
 by_cases S:(I.a:Int) > (B:Int)
 refine gw (.func (.func 169) #[] #[vP aV 0,vP bI 0]) (dT S) (JM Z) (Gz (vP bv 0) (dT S) (Gl (vU I.a) (dT S) aW 0 E3 (Gz (vP bv 3) (dT S) (Ga (aF.J I.e) (dT S) aW 0 P1 P2 ?_))))
 refine KF Z Z (dT S) Z (Kh Tryz.call169 Z Z ?_ (λ _ _ k=>k))
 refine cb Tryz.func169 ?_
 refine sr ?_
 refine cu (aF.J I.e) 118 aW ?_
 intro gu qy ed
 refine Ar Z (Kz (vP aV 0) (La (au.J C.j) ed 2 D0 C7 (Kz (vP gu 0) (La (au.J I.e.j) ed 0 D0 C7 ?_))))
 obtain⟨⟨ek,bJ⟩,aX⟩:∃ q:au × Bool,lq C.j I.e.j=q:=⟨_,Z⟩
 obtain⟨qz,iH,oD,iI,oF⟩:=JJ ed
 refine cl Tryz.call152 (qf _ _ C.j I.e.j ek bJ iH aX) ?_
 rintro _ qA ⟨rfl,iJ⟩
 have kY:=iI _ _ iJ
 refine Mz Z (Kz (Zx (Zc (au.J ek))) (Kz (V bJ) ?_))
 refine cu [Zz ⟨Zc []⟩, Zz ⟨Zc []⟩] 37 kY ?_
 intro qB qC kZ
 refine cO (au.J ek) 0 kZ C7 ?_
 intro qD lc
 refine An Z (JG ?_)
 have aY:=lc.px [] [0] []
 refine JI (Mz Z (Lz (vU B) aY 3 E3 (fw (Zb (¬ ((I.a:Int)=(B:Int)))) (JZ (e:= !(Zy ((I.a:Int)=(B:Int)))) yk ZY) (Mz Z ?_))))
 have eu:(Zy (¬ ((I.a:Int)=(B:Int))))=Zk:=(dT Y)
 refine Kj (v:= V bJ) Z Z eu Z (JM Z) (fw (V bJ) (JL Z eu Z) (Mz Z ?_))
 rcases Nf (bJ) with Z0 | Z0
 refine Gz (vP aV 2) Z0 (Gl (V C.a) Z0 aY 2 H4 (Kj (v:= V C.a) Z Z Z0 Z (JM Z) ?_))
 rcases Nf (C.a) with aD | aD
 refine T aD (T aD (Kj (v:= V Zk) Z Z Z0 Z (JL Z aD Z) (fw (V Zk) (JL Z Z0 Z) (An Z (rt (rs (fw (V Zk) (JL Z (dT S) Z) (nt (jt ?_)))))))))
 have gy:=aY.px [] [0] []
 refine JI (Mz Z (Kz (vP bv 0) (Lz (vU I.a) gy 0 E3 ?_)))
 refine jW [vU I.a] 32 1 1 gy ?_
 intro lg qE eB
 replace eB:=Ke (y:=row lg 1 1 (q0 (eN .u64) ([I.a])) 32 1) Z eB
 have gz:=eB.pf [10]
 refine WL.do Z (J7 (k:=X r) (m:=1) (iZ) gz Z Z (fq P9 (gz.rds (i:=1) Z) (di mW ([I.a]))) Z Y (s:=X (r++ [I.a])) f7 (u0).symm ?_)
 intro lh ll qF lm
 have oG:X (r++ [I.a])=X r+1:=by simp only [o2,q5,L3]
 refine Az Z (B8 (bN (JK ?_)))
 have lu:=lm.px [] [1,2] []
 refine JI (fw (vJ (u+1)) (JN (e:=B7.wrap ((u:Int)+1)) yk f3) (Mz Z (B8 ?_)))
 have lv:=lu.pb [0]
 exact JX (lh,ll,(r++ [I.a]),u+1) ⟨Z,Z,Z,Z,Z,Z,Z,Z,ZW⟩ (aA.2 ⟨lv,Y,Y,N (aJ) (N (ZJ (λ q=>dZ j B C K a (aB.abs b) (aB.abs g) (aB.abs h) q r u) (pg (n:=X (t8 (U a) j.a.a++((aN.q B (O []) J ZB)::r6 (U a) j.a.a))) (i:=u) Y)) (N (ae (bu aO)) (N (ip Z2) (N (ip S) (N (ae aX) (N (ip Z0) (ip aD)))))))⟩) (by show (X (t8 (U a) j.a.a++((aN.q B (O []) J ZB)::r6 (U a) j.a.a))) - (u+1) < (X (t8 (U a) j.a.a++((aN.q B (O []) J ZB)::r6 (U a) j.a.a))) - u; omega)
 refine Gz (vP gu 2) aD (Gl (V I.e.a) aD aY 0 H4 (Kj (v:= V I.e.a) Z Z Z0 Z (JH Z aD Z) (fw (V I.e.a) (JL Z Z0 Z) (An Z (rt (rs (fw (V I.e.a) (JL Z (dT S) Z) (nt ?_))))))))
 rcases Nf (I.e.a) with bK | bK
 refine jT bK ?_
 have gB:=aY.px [] [0] []
 refine JI (Mz Z (Kz (vP bv 0) (Lz (vU I.a) gB 0 E3 ?_)))
 refine jW [vU I.a] 32 1 1 gB ?_
 intro lw qG eD
 replace eD:=Ke (y:=row lw 1 1 (q0 (eN .u64) ([I.a])) 32 1) Z eD
 have gD:=eD.pf [10]
 refine WL.do Z (J7 (k:=X r) (m:=1) (iZ) gD Z Z (fq P9 (gD.rds (i:=1) Z) (di mW ([I.a]))) Z Y (s:=X (r++ [I.a])) f7 (u0).symm ?_)
 intro lC lD qH lF
 have oH:X (r++ [I.a])=X r+1:=by simp only [o2,q5,L3]
 refine Az Z (B8 (bN (JK ?_)))
 have lG:=lF.px [] [1,2] []
 refine JI (fw (vJ (u+1)) (JN (e:=B7.wrap ((u:Int)+1)) yk f3) (Mz Z (B8 ?_)))
 have lH:=lG.pb [0]
 exact JX (lC,lD,(r++ [I.a]),u+1) ⟨Z,Z,Z,Z,Z,Z,Z,Z,ZW⟩ (aA.2 ⟨lH,Y,Y,N (aJ) (N (ZJ (λ q=>dZ j B C K a (aB.abs b) (aB.abs g) (aB.abs h) q r u) (pg (n:=X (t8 (U a) j.a.a++((aN.q B (O []) J ZB)::r6 (U a) j.a.a))) (i:=u) Y)) (N (ae (bu aO)) (N (ip Z2) (N (ip S) (N (ae aX) (N (ip Z0) (N (eP aD) (ip bK))))))))⟩) (by show (X (t8 (U a) j.a.a++((aN.q B (O []) J ZB)::r6 (U a) j.a.a))) - (u+1) < (X (t8 (U a) j.a.a++((aN.q B (O []) J ZB)::r6 (U a) j.a.a))) - u; omega)
 refine jF bK (J8 (bN (JK ?_)))
 have lI:=aY.px [] [0,1] []
 refine JI (fw (vJ (u+1)) (JN (e:=B7.wrap ((u:Int)+1)) yk f3) (Mz Z (B8 ?_)))
 have lJ:=lI.pf []
 exact JX (ag,ak,r,u+1) ⟨Z,Z,Z,Z,Z,Z,Z,Z,ZW⟩ (aA.2 ⟨lJ,Y,Y,N (aJ) (N (ZJ (λ q=>dZ j B C K a (aB.abs b) (aB.abs g) (aB.abs h) q r u) (pg (n:=X (t8 (U a) j.a.a++((aN.q B (O []) J ZB)::r6 (U a) j.a.a))) (i:=u) Y)) (N (ae (bu aO)) (N (ip Z2) (N (ip S) (N (ae aX) (N (ip Z0) (N (eP aD) (eP bK))))))))⟩) (by show (X (t8 (U a) j.a.a++((aN.q B (O []) J ZB)::r6 (U a) j.a.a))) - (u+1) < (X (t8 (U a) j.a.a++((aN.q B (O []) J ZB)::r6 (U a) j.a.a))) - u; omega)
 refine T Z0 (T Z0 (T Z0 (JR Z Z Z (JR Z Z Z (T Z0 (fw (V J) (JH Z Z0 Z) (An Z (rt (rs (fw (V J) (JL Z (dT S) Z) (nt (jf (J8 (bN (JK ?_)))))))))))))))
 have lK:=aY.px [] [0,1] []
 refine JI (fw (vJ (u+1)) (JN (e:=B7.wrap ((u:Int)+1)) yk f3) (Mz Z (B8 ?_)))
 have lL:=lK.pf []
 exact JX (ag,ak,r,u+1) ⟨Z,Z,Z,Z,Z,Z,Z,Z,ZW⟩ (aA.2 ⟨lL,Y,Y,N (aJ) (N (ZJ (λ q=>dZ j B C K a (aB.abs b) (aB.abs g) (aB.abs h) q r u) (pg (n:=X (t8 (U a) j.a.a++((aN.q B (O []) J ZB)::r6 (U a) j.a.a))) (i:=u) Y)) (N (ae (bu aO)) (N (ip Z2) (N (ip S) (N (ae aX) (eP Z0))))))⟩) (by show (X (t8 (U a) j.a.a++((aN.q B (O []) J ZB)::r6 (U a) j.a.a))) - (u+1) < (X (t8 (U a) j.a.a++((aN.q B (O []) J ZB)::r6 (U a) j.a.a))) - u; omega)
 refine T (dF S) (T (dF S) (T (dF S) (T (dF S) (T (dF S) (T (dF S) (fw (V J) (JH Z (dF S) Z) (nt (jf (J8 (bN (JK ?_)))))))))))
 have lM:=aW.px [] [0] []
 refine JI (fw (vJ (u+1)) (JN (e:=B7.wrap ((u:Int)+1)) yk f3) (Mz Z (B8 ?_)))
 have lN:=lM.pf []
 exact JX (ag,ak,r,u+1) ⟨Z,Z,Z,Z,Z,Z,Z,Z,ZW⟩ (aA.2 ⟨lN,Y,Y,N (aJ) (N (ZJ (λ q=>dZ j B C K a (aB.abs b) (aB.abs g) (aB.abs h) q r u) (pg (n:=X (t8 (U a) j.a.a++((aN.q B (O []) J ZB)::r6 (U a) j.a.a))) (i:=u) Y)) (N (ae (bu aO)) (N (ip Z2) (iN S))))⟩) (by show (X (t8 (U a) j.a.a++((aN.q B (O []) J ZB)::r6 (U a) j.a.a))) - (u+1) < (X (t8 (U a) j.a.a++((aN.q B (O []) J ZB)::r6 (U a) j.a.a))) - u; omega)
 refine T Z2 (T Z2 (T Z2 (T Z2 (fw (V J) (JH Z Z2 Z) (Mz Z (T Z (T Z (T Z (T Z (T Z (T Z (fw (V J) (JH Z Z Z) (nt (jf (J8 (bN (JK ?_)))))))))))))))))
 have lQ:=aW.px [] [0] []
 refine JI (fw (vJ (u+1)) (JN (e:=B7.wrap ((u:Int)+1)) yk f3) (Mz Z (B8 ?_)))
 have lS:=lQ.pf []
 exact JX (ag,ak,r,u+1) ⟨Z,Z,Z,Z,Z,Z,Z,Z,ZW⟩ (aA.2 ⟨lS,Y,Y,N (aJ) (N (ZJ (λ q=>dZ j B C K a (aB.abs b) (aB.abs g) (aB.abs h) q r u) (pg (n:=X (t8 (U a) j.a.a++((aN.q B (O []) J ZB)::r6 (U a) j.a.a))) (i:=u) Y)) (N (ae (bu aO)) (eP Z2)))⟩) (by show (X (t8 (U a) j.a.a++((aN.q B (O []) J ZB)::r6 (U a) j.a.a))) - (u+1) < (X (t8 (U a) j.a.a++((aN.q B (O []) J ZB)::r6 (U a) j.a.a))) - u; omega)
 refine jF (dF gp) (B9 (JV ?_))
 have iK:dZ j B C K a (aB.abs b) (aB.abs g) (aB.abs h) (X (t8 (U a) j.a.a++((aN.q B (O []) J ZB)::r6 (U a) j.a.a))) [] 0=r:=N (aJ) (N (ZJ (λ q=>dZ j B C K a (aB.abs b) (aB.abs g) (aB.abs h) q r u) (CZ (n:=X (t8 (U a) j.a.a++((aN.q B (O []) J ZB)::r6 (U a) j.a.a))) (i:=u) Y)) Z)
 refine JV (J2 (JK (JG (JG ?_))))
 have lT:=bq.px [] [0,1] []
 refine JI (Mz Z (Kz (vJ (X r)) (Mn Z (bo ?_))))
 have iL:X (t8 (U a) j.a.a++((aN.q B (O []) J ZB)::r6 (U a) j.a.a))=X (N0 (N0 (N0 (t8 (U a) j.a.a++((aN.q B (O []) J ZB)::r6 (U a) j.a.a)) (U a) (aN.q b.a (O (b.b.a++ [C])) b.f b.e)) (U a) (aN.q g.a (O g.b.a) J g.e)) (U a) (aN.q h.a (O h.b.a) h.f ZB)):=by first | omega | (simp only [N1]; done) | (simp only [N1,o2,q5,L3,o0,o1,O7]; omega)
 have lU:Own w D kW [row Z7 (X (N0 (N0 (N0 (t8 (U a) j.a.a++((aN.q B (O []) J ZB)::r6 (U a) j.a.a)) (U a) (aN.q b.a (O (b.b.a++ [C])) b.f b.e)) (U a) (aN.q g.a (O g.b.a) J g.e)) (U a) (aN.q h.a (O h.b.a) h.f ZB))) ai (q0 aB.J (N0 (N0 (N0 (t8 (U a) p++((aB.q B (O6 Zv 0 []) J ZB)::r6 (U a) p)) (U a) (aB.q b.a (O6 Z4 Z3 (b.b.a++ [C])) b.f b.e)) (U a) (aB.q g.a g.b J g.e)) (U a) (aB.q h.a h.b h.f ZB))) 164 6,sepL (q0 J4 (N0 (N0 (N0 (t8 (U a) p++((aB.q B (O6 Zv 0 []) J ZB)::r6 (U a) p)) (U a) (aB.q b.a (O6 Z4 Z3 (b.b.a++ [C])) b.f b.e)) (U a) (aB.q g.a g.b J g.e)) (U a) (aB.q h.a h.b h.f ZB))),blk g0 [W Z7 (X (N0 (N0 (N0 (t8 (U a) j.a.a++((aN.q B (O []) J ZB)::r6 (U a) j.a.a)) (U a) (aN.q b.a (O (b.b.a++ [C])) b.f b.e)) (U a) (aN.q g.a (O g.b.a) J g.e)) (U a) (aN.q h.a (O h.b.a) h.f ZB))) ai] 114,blk g3 [W Z5 (X K.b.a) Z6, W P (X K.e.a) Q] 157,row Z5 (X K.b.a) Z6 (q0 (eN .u64) K.b.a) 32 1,row P (X K.e.a) Q (q0 (eN .u64) K.e.a) 32 1,row ag (X r) ak (q0 (eN .u64) r) 32 1]:=by rw [<- iL]; exact lT
 have lV:=lU.pb [0,1]
 obtain⟨lW,cz⟩:=Ip λ (af:Nat) bL (bO:Nat) bz aj w'=>Own w D w' [blk g0 [W bL (X aj) bO] 114,blk g3 [W Z5 (X K.b.a) Z6, W P (X K.e.a) Q] 157,row Z5 (X K.b.a) Z6 (q0 (eN .u64) K.b.a) 32 1,row P (X K.e.a) Q (q0 (eN .u64) K.e.a) 32 1,row ag (X r) ak (q0 (eN .u64) r) 32 1,row bL (X aj) bO (q0 aB.J bz) 164 6,sepL (q0 J4 bz)]/\r7 aB.abs bz=aj/\af<=X r/\X aj<=(X (N0 (N0 (N0 (t8 (U a) j.a.a++((aN.q B (O []) J ZB)::r6 (U a) j.a.a)) (U a) (aN.q b.a (O (b.b.a++ [C])) b.f b.e)) (U a) (aN.q g.a (O g.b.a) J g.e)) (U a) (aN.q h.a (O h.b.a) h.f ZB)))+af/\X aj<=X (N0 (N0 (N0 (t8 (U a) j.a.a++((aN.q B (O []) J ZB)::r6 (U a) j.a.a)) (U a) (aN.q b.a (O (b.b.a++ [C])) b.f b.e)) (U a) (aN.q g.a (O g.b.a) J g.e)) (U a) (aN.q h.a (O h.b.a) h.f ZB))/\ic K r r (N0 (N0 (N0 (t8 (U a) j.a.a++((aN.q B (O []) J ZB)::r6 (U a) j.a.a)) (U a) (aN.q b.a (O (b.b.a++ [C])) b.f b.e)) (U a) (aN.q g.a (O g.b.a) J g.e)) (U a) (aN.q h.a (O h.b.a) h.f ZB))=ic K r (r6 af r) aj
 refine B4 (λ i:Nat × (Option Addr) × Nat × (List aB) × (List aN)=> [(71,vJ i.1),(70,vJ (X r)),(69, W ag (X r) ak),(10, W ag (X r) ak),(0,vP g0 0),(3,vP g3 0)]) lW (λ i=>X r - i.1) (0,Z7,ai,(N0 (N0 (N0 (t8 (U a) p++((aB.q B (O6 Zv 0 []) J ZB)::r6 (U a) p)) (U a) (aB.q b.a (O6 Z4 Z3 (b.b.a++ [C])) b.f b.e)) (U a) (aB.q g.a g.b J g.e)) (U a) (aB.q h.a h.b h.f ZB)),(N0 (N0 (N0 (t8 (U a) j.a.a++((aN.q B (O []) J ZB)::r6 (U a) j.a.a)) (U a) (aN.q b.a (O (b.b.a++ [C])) b.f b.e)) (U a) (aN.q g.a (O g.b.a) J g.e)) (U a) (aN.q h.a (O h.b.a) h.f ZB))) ⟨Z,Z,Z,Z,Z,Z,ZW⟩ (cz.2 ⟨lV,by exact(eT (eT (eT (jQ (z:=(aN.q B (O []) J ZB)) M Z) Z) Z) Z),Y,Y,Y,Z⟩) ?_
 rintro ⟨af,bL,bO,bz,aj⟩ qI iM
 show Wp _ _ _ [(71,vJ af),(70,vJ (X r)),(69, W ag (X r) ak),(10, W ag (X r) ak),(0,vP g0 0),(3,vP g3 0)] _ _
 obtain⟨bA,cB,oI,oJ,oK,eF⟩:=cz.1 iM
 have oL:=bg cB
 refine sr (Kz (Zb ((af:Int) < (X r:Int))) (nt (JG ?_)))
 by_cases gF:(af:Int) < (X r:Int)
 obtain⟨eG,eO⟩:=dJ (ls:=r) (i:=af) iq f6 (bA.rds (i:=4) Z) f4
 have iO:=drop_at eO
 refine jT (dT gF) (sk (JG (bo (sr (fw (Zq (Zw ⟨ab ag,ao ag+af *1,Zv⟩)) (JU (iZ) Z Z ((bA.rds (i:=4) Z).addr (i:=af) Y) Y) (fw (vU eG) (JS Z (bT.one E3 (((bA.rds (i:=4) Z).elem iq eO f6).at_ (k:=0) Z))) (An Z (JI (Mz Z (Mz Z ?_))))))))))
 have lX:=bA.pf [0,5,6]
 obtain⟨eQ,eU⟩:∃ q,jC (aZ.q (O aj)) eG=q:=⟨_,Z⟩
 obtain⟨qJ,iP,oM,iQ,oN⟩:=KE lX
 refine cl Tryz.call120 (pI _ _ g0 (aZ.q (O aj)) bL bO bz eG eQ iP cB g5 eU) ?_
 rintro _ qK ⟨lY,lZ,l5,rfl,iR,eX,eY⟩
 have gG:=iQ _ _ iR
 have oO:=bg eX
 have oP:=gG.rowC (i:=1) Z
 replace eY:X eQ.a.a<=X aj:=eY
 refine B8 (bN (JK (JI (fw (vJ (af+1)) (JN (e:=B7.wrap ((af:Int)+1)) yk f3) (Mz Z (B8 ?_))))))
 have l6:=gG.pb [1,2]
 exact JX (af+1,lY,lZ,l5,eQ.a.a) ⟨Z,Z,Z,Z,Z,Z,ZW⟩ (cz.2 ⟨l6,by exact eX,Y,Y,Y,N (eF) (N (ZJ (λ q=>ic K r q aj) iO) (ae eU))⟩) (by show X r - (af+1) < X r - af; omega)
 refine jF (dF gF) (B9 (JV ?_))
 have iT:ic K r r (N0 (N0 (N0 (t8 (U a) j.a.a++((aN.q B (O []) J ZB)::r6 (U a) j.a.a)) (U a) (aN.q b.a (O (b.b.a++ [C])) b.f b.e)) (U a) (aN.q g.a (O g.b.a) J g.e)) (U a) (aN.q h.a (O h.b.a) h.f ZB))=aj:=N (eF) (N (ZJ (λ q=>ic K r q aj) (eH (ls:=r) (i:=af) Y)) Z)
 refine JV (J2 (JK (JI (Mz Z (Mz Z (Kz (vP g3 0) (Kz (vP g3 1) (Lz (W P (X K.e.a) Q) bA 1 Tryz.isAgg35 (Mz Z ?_)))))))))
 have gH:=bA.pf [3]
 refine WL.do Z (J7 (k:=X K.e.a) (m:=X r) (iZ) gH Z Z (fq P9 (gH.rds (i:=4) Z) (di mW r)) Z Y (s:=X (K.e.a++r)) f7 (u0).symm ?_)
 intro gI gJ qL l7
 have oQ:X (K.e.a++r)=X K.e.a+X r:=by simp only [o2,q5,L3]
 refine Kz (vP g3 0) (Kz (vP g3 1) ?_)
 have l9:=l7.pf [2]
 refine cO [W gI (X (K.e.a++r)) gJ] 1 l9 Tryz.sizeOf35 ?_
 intro qM mf
 refine B8 (Kl (res0 Z) ?_)
 have mg:=mf.px [] [4] [0,3,1]
 obtain⟨rfl,rfl⟩:=fK (zj hr (show _=(aZ.q (O aj),fD.q (O K.b.a) (O (K.e.a++r))) from N (ae dz) (N (eP bU) (N (ae (bu dU)) (N (ae (bu iE)) (N (ae (bu iF)) (N (ae iK) (ae iT))))))))
 exact⟨bL,bO,bz,Z5,Z6,gI,gJ,Z,mg,cB⟩
end
end Go.Proofs.YtndamapfnpihpaaGreat
