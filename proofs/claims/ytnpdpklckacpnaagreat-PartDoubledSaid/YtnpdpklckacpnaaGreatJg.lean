/- The layers told, part 7. Conditions: none beyond each law's own. -/
import Derived.Test.YtnpdpklckacpnaaGreatJf
namespace Go.Proofs.YtnpdpklckacpnaaGreat
set_option maxRecDepth 100000
set_option linter.unusedVariables false
set_option linter.unusedSimpArgs false
set_option linter.unusedSectionVars false
open _root_.Go renaming World->ZZ,Value->ZQ
open Value renaming bool->Y,slice->T,string->Z9,pointer->Zz,agg->Zq,nilFunc->Zx
open Bool renaming true->Zj,false->O
open Option renaming none->Zk,some->Zv
open Decidable renaming decide->Zw
open Inhabited renaming default->Zy
open List renaming length->X,toArray->Zb,drop->Ze,take->Zf,flatMap->Zg,map->Zh
open Int renaming toNat->Zc
open Bool renaming toNat->Zd
open Int renaming toNat->W
open IntKind renaming i64->D3,u64->H3
open List renaming drop->r8,flatMap->q1,length_map->r5,length_nil->L0,map->s0,mem_flatMap->P6,mem_of_getElem?->G4,not_mem_nil->y2
open Ll renaming q->N
open Sum renaming inl->G0,inr->G1
open _root_.Go.Proofs.Tryz renaming call11->Y5,call8->Y4,isAgg3->B8,isAgg33->E0,isAgg42->X4,isAgg44->Q9,isAgg47->I0,prog->y3,sizeOf42->S0,sizeOf47->I2,sizeOf52->Y1
open WL renaming nil->G2
open Wp renaming exit->H0
section
open Go.RowKit
theorem JO:Elem y3 23 49 22 240:=mV (z:= Zq #[.int .i64 0, .int .i64 0, .int .i64 0, .int .i64 0, .int .i64 0, .int .i64 0, .int .u64 0, .int .u64 0, .int .u64 0, .int .u64 0, .int .u64 0, .int .u64 0, .int .u64 0, .int .u64 0, .int .u64 0, Y O, Z9 ⟨Zb []⟩, Z9 ⟨Zb []⟩, T Zk 0 0, T Zk 0 0, T Zk 0 0, Y O]) Tryz.underlying23 f1 Z f7
structure jJ where q::
 a:bM
 Ab:Bool
def jJ.L (x:jJ):List ZQ:= [.int .i64 x.a.g, .int .i64 x.a.D, .int .i64 x.a.E, .int .i64 x.a.J, .int .i64 x.a.F, .int .i64 x.a.I, .int .u64 ((x.a.G:Nat):Int), .int .u64 ((x.a.y:Nat):Int), .int .u64 ((x.a.r:Nat):Int), .int .u64 ((x.a.t:Nat):Int), .int .u64 ((x.a.u:Nat):Int), .int .u64 ((x.a.z:Nat):Int), .int .u64 ((x.a.k:Nat):Int), .int .u64 ((x.a.s:Nat):Int), .int .u64 ((x.a.C:Nat):Int), Y x.a.H, Z9 ⟨Zb x.a.j.a⟩, Z9 ⟨Zb x.a.j.b⟩, T x.a.a.A (X x.a.a.a) x.a.a.c, T x.a.B.A (X x.a.B.a) x.a.B.c, T x.a.b.A (X x.a.b.a) x.a.b.c, Y x.Ab]
instance:Bk jJ:=⟨λ x _=>bk x.a+(bk x.Ab+(0))⟩
theorem jJ.len:∀ x,X (jJ.L x)=22:=λ _=>rfl
theorem jJ.one:∀ x, ∀ u ∈ jJ.L x,u.oneCell'=Zj:=λ x u hu=>by
 simp only [jJ.L,List.mem_cons,y2,or_false] at hu
 rcases hu with rfl | rfl | rfl | rfl | rfl | rfl | rfl | rfl | rfl | rfl | rfl | rfl | rfl | rfl | rfl | rfl | rfl | rfl | rfl | rfl | rfl | rfl <;> rfl
def LG (w:ZZ) (x:jJ):Prop:=(LX w x.a)/\(True)
theorem Dj (w:ZZ):lJ y3 w 49 22 jJ.L (LG w):=
 (nL (sz:=22) Tryz.underlying49 f1 (gH.cons (i:=0) (off:=0) (s:=21) Z Z (Ef w) (gH.cons (i:=1) (off:=21) (s:=1) Z Z (wB Tryz.underlying4 f1) gH.nil))).map (λ p=>⟨p.1,p.2.1⟩) jJ.len (λ _=>rfl) (λ _ h=>⟨h.1,h.2.1⟩) λ _=>Nat.le_refl _
instance:Inhabited jJ:=⟨⟨Zy,Zy⟩⟩
structure StepT where q::
 a:cz
 Ab:Bool
instance:Inhabited StepT:=⟨⟨Zy,Zy⟩⟩
def jJ.abs (x:jJ):StepT:=⟨x.a.abs,x.Ab⟩
def Nj (x:jJ):List HP:= [row x.a.a.A (X x.a.a.a) x.a.a.c (q1 aV.L x.a.a.a) 62 6,row x.a.B.A (X x.a.B.a) x.a.B.c (q1 aQ.L x.a.B.a) 65 3,row x.a.b.A (X x.a.b.a) x.a.b.c (q1 bF.L x.a.b.a) 83 2,sepL (q1 Kl x.a.B.a)]
abbrev Jo (s:Int) (t:Int) (u:Int) (v:Int) (w:Int) (x:Int) (y:Nat) (z:Nat) (A:Nat) (B:Nat) (g:Nat) (h:Nat) (i:Nat) (j:Nat) (k:Nat) (l:Bool) (m:List UInt8) (n:List UInt8) (o:Option Addr) (a b:Nat) (p:Option Addr) (c d:Nat) (q:Option Addr) (e f:Nat) (r:Bool):List ZQ:= [.int .i64 s, .int .i64 t, .int .i64 u, .int .i64 v, .int .i64 w, .int .i64 x, .int .u64 ((y:Nat):Int), .int .u64 ((z:Nat):Int), .int .u64 ((A:Nat):Int), .int .u64 ((B:Nat):Int), .int .u64 ((g:Nat):Int), .int .u64 ((h:Nat):Int), .int .u64 ((i:Nat):Int), .int .u64 ((j:Nat):Int), .int .u64 ((k:Nat):Int), Y l, Z9 ⟨Zb m⟩, Z9 ⟨Zb n⟩, T o a b, T p c d, T q e f, Y r]
def jY (c:Nat):List cz->Unit ⊕ Bool
  | []=>G0 ()
  | a::b=>if a.g=4 then if((a.r:Nat):Int)=((c:Nat):Int) then if a.F=5 then G1 (Zj) else jY c b else jY c b else jY c b
def tO (a:bY) (b:Nat):Bool:=
 lp (jY b a.b.a) λ _=>O
theorem Dk (w D) (b:bY) (g E j s u F y n r0) (H:Own w D w []) (z:s0 bM.abs s=b.b.a) (G:E=X b.b.a) (o:Ro w D λ w'=>bV w' 21 g (X b.b.a) (q1 bM.L s)) (R:X b.b.a<=j/\X b.b.a<=9223372036854775807) (p:∀ x ∈ s,Ro w D (λ w'=>bV w' 6 x.a.A (X x.a.a) (q1 aV.L x.a.a))/\(X x.a.a<=x.a.c/\X x.a.a<=9223372036854775807)/\Ro w D (λ w'=>bV w' 3 x.B.A (X x.B.a) (q1 aQ.L x.B.a))/\(X x.B.a<=x.B.c/\X x.B.a<=9223372036854775807)/\(∀ K ∈ x.B.a,Ro w D (λ w'=>bV w' 2 K.a.A (X K.a.a) (q1 aG.L K.a.a))/\(X K.a.a<=K.a.c/\X K.a.a<=9223372036854775807))/\Ro w D (λ w'=>bV w' 2 x.b.A (X x.b.a) (q1 bF.L x.b.a))/\(X x.b.a<=x.b.c/\X x.b.a<=9223372036854775807)) (I:F=X b.a.a) (S:Ro w D λ w'=>bV w' 6 u (X b.a.a) (q1 aV.L b.a.a)) (Z7:X b.a.a<=y/\X b.a.a<=9223372036854775807) (hr:tO b n=r0):
    Calls y3 10 #[Zq #[T g E j, T u F y, Y b.g],vU n] w (dI λ v w'=>v= Y r0/\Own w D w' []):=by
 subst G I
 have Q:=bf z
 refine cb Tryz.func10 ?_
 refine sr ?_
 refine cB [T g (X b.b.a) j, T u (X b.a.a) y, Y b.g] 52 H ?_
 intro Z3 av L
 refine An Z (JS (sr (Kz (vP Z3 0) (Lz (T g (X b.b.a) j) L 0 Tryz.isAgg50 (Kz (vJ (X b.b.a)) (Mn Z (bo ?_)))))))
 have Z4:=L.pk []
 obtain⟨Z8,k⟩:=nI λ (a:Nat) w'=>Own w D w' []/\a<=X b.b.a/\jY n b.b.a=jY n (r8 a b.b.a)
 refine Wp.loop (λ i:Nat=> [(4, Y O),(10,vJ i),(9,vJ (X b.b.a)),(8, T g (X b.b.a) j),(1,vU n)]) Z8 (λ i=>X b.b.a - i) 0 ⟨Z,Z,Z,Z,Z,ZV⟩ (k.2 ⟨Z4,U,Z⟩) ?_
 rintro a ax M
 show Wp _ _ _ [(4, Y O),(10,vJ a),(9,vJ (X b.b.a)),(8, T g (X b.b.a) j),(1,vU n)] _ _
 obtain⟨B,ah,l⟩:=k.1 M
 refine sr (Kz (Za ((a:Int) < (X b.b.a:Int))) (nt (JS ?_)))
 by_cases Z5:(a:Int) < (X b.b.a:Int)
 obtain⟨d,m⟩:=dM (ls:=s) (i:=a) bM.len f7 (B.ro o) f5
 have Z6:=ik z m
 have ai:=(p _ (G4 m)).2.1
 have aj:=(p _ (G4 m)).2.2.2.1
 have ak:X (s0 aQ.abs d.B.a)=X d.B.a:=r5 ..
 have au:=(p _ (G4 m)).2.2.2.2.2.2
 have t:=drop_at Z6
 refine jT (dT Z5) (sk (JS (bo (sr (fw (Zz (Zv ⟨ab g,ao g+a *21,Zk⟩)) (J9 (qC) Z Z ((B.ro o).addr (i:=a) U) U) (fw (Zq (Zb (bM.L d))) (J5 Z (J7 (cs:=(bM.L d)) I0 I2 ((B.ro o).elem bM.len m f7))) ?_))))))
 refine cB (fT 0 0 0 0 0 0 0 0 0 0 0 0 0 0 0 O [] [] Zk 0 0 Zk 0 0 Zk 0 0) 47 B ?_
 intro J ay Z1
 refine cu (bM.L d) 0 Z1 I2 ?_
 intro az r
 refine ns (Kz (vP J 0) (Lz (vI d.g) r 0 B8 (Kz (Za (d.g=4)) (Mz Z ?_))))
 by_cases f:d.g=4
 refine Gz (vP J 8) (dT f) (Gl (vU d.r) (dT f) r 0 E0 (gw (vU n) (dT f) (J3 Z) (Gz (Za ((d.r:Int)=(n:Int))) (dT f) (fw (Za ((d.r:Int)=(n:Int))) (JX Z (dT f) Z) (Mz Z ?_)))))
 by_cases h:(d.r:Int)=(n:Int)
 refine Gz (vP J 4) (dT h) (Gl (vI d.F) (dT h) r 0 B8 (Gz (Za (d.F=5)) (dT h) (fw (Za (d.F=5)) (JX Z (dT h) Z) (nt ?_))))
 by_cases C:d.F=5
 refine jT (dT C) (sr (An Z (rt (bR (tR (tR (bR (tR (rs ?_)))))))))
 have Z2:=r.pk []
 obtain rfl:_=Zj:=zj hr (iX (V (l) (V (ZX (λ q=>jY n q) t) (V (ip f) (V (ip h) (ip C))))))
 exact⟨Z,Z2⟩
 refine jF (dF C) (Ko (bN (JY (JW (fw (vJ (a+1)) (J4 (e:=D3.wrap ((a:Int)+1)) yk f4) (Mz Z (G2 ?_)))))))
 have Z0:=r.pk []
 exact Kb (a+1) ⟨Z,Z,Z,Z,Z,ZV⟩ (k.2 ⟨Z0,U,V (l) (V (ZX (λ q=>jY n q) t) (V (ip f) (V (ip h) (iN C))))⟩) (by show X b.b.a - (a+1) < X b.b.a - a; omega)
 refine Sz (dF h) (Sz (dF h) (Sz (dF h) (fw (Y O) (JU Z (dF h) Z) (nt (jf (Ko (bN (JY (JW (fw (vJ (a+1)) (J4 (e:=D3.wrap ((a:Int)+1)) yk f4) (Mz Z (G2 ?_))))))))))))
 have aa:=r.pk []
 exact Kb (a+1) ⟨Z,Z,Z,Z,Z,ZV⟩ (k.2 ⟨aa,U,V (l) (V (ZX (λ q=>jY n q) t) (V (ip f) (iN h)))⟩) (by show X b.b.a - (a+1) < X b.b.a - a; omega)
 refine Sz (dF f) (Sz (dF f) (Sz (dF f) (Sz (dF f) (fw (Y O) (JU Z (dF f) Z) (Mz Z (QQ (QQ (QQ (fw (Y O) (QK Z) (nt (jf (Ko (bN (JY (JW (fw (vJ (a+1)) (J4 (e:=D3.wrap ((a:Int)+1)) yk f4) (Mz Z (G2 ?_))))))))))))))))))
 have ae:=r.pk []
 exact Kb (a+1) ⟨Z,Z,Z,Z,Z,ZV⟩ (k.2 ⟨ae,U,V (l) (V (ZX (λ q=>jY n q) t) (iN f))⟩) (by show X b.b.a - (a+1) < X b.b.a - a; omega)
 refine jF (dF Z5) (H0 (Ka ?_))
 have P:jY n b.b.a=G0 ():=V (l) (V (ZX (λ q=>jY n q) (eU (ls:=b.b.a) (i:=a) U)) Z)
 refine Ka (Kh (JY (sr (An Z (rt (rs ?_))))))
 have af:=B.pk []
 obtain rfl:_=O:=zj hr (kH P)
 exact⟨Z,af⟩
def dQ (A:Bool):List StepT->Int->Nat->Nat->Nat->Nat->List bF->List dG->List Nat->Nat->Nat->List UInt8->List UInt8->Nat->Nat->Nat->List UInt8->List UInt8->List bK->List aS->List aG->Unit ⊕ Bool
  | [],h,i,j,k,l,m,n,o,p,q,r,s,t,u,v,w,x,y,z,f=>G0 ()
  | a::g,h,i,j,k,l,m,n,o,p,q,r,s,t,u,v,w,x,y,z,f=>if a.a.g=0 then dQ A g h i j k l m n o p q r s t u v w x y z f else if a.a.g=10 then dQ A g h i j k l m n o p q r s t u v w x y z f else bnd (dL (aB.q (bH.q h i j k l (N m) (N n) (N o) p q (ai.q r s) (fF.q t u v (ai.q w x))) (N y)) (cz.q a.a.g a.a.D a.a.E a.a.J a.a.F a.a.I a.a.G a.a.y a.a.r a.a.t a.a.u a.a.z a.a.k a.a.s a.a.C a.a.H a.a.j (N a.a.a.a) (N a.a.B.a) (N a.a.b.a)) (StoreT.q (N f)) (bn.q (N z))) λ b=>bnd (qz f b.1.a.a) λ e=>if a.a.g=3 then bnd (tO b.1 a.a.r) λ B=>if B=Zj then dQ A g b.2.2.1.a.r b.2.2.1.a.y b.2.2.1.a.u b.2.2.1.a.z b.2.2.1.a.k b.2.2.1.a.b.a b.2.2.1.a.g.a b.2.2.1.a.j.a b.2.2.1.a.t b.2.2.1.a.B b.2.2.1.a.s.a b.2.2.1.a.s.b b.2.2.1.a.a.k b.2.2.1.a.a.s b.2.2.1.a.a.a b.2.2.1.a.a.j.a b.2.2.1.a.a.j.b b.2.2.1.b.a b.2.2.2.a.a e.1 else bnd (gJ b.2.2.1) λ C=>bnd (dL b.2.2.1 (cz.q a.a.g a.a.D a.a.E a.a.J a.a.F a.a.I a.a.G a.a.y a.a.r a.a.t a.a.u a.a.z a.a.k a.a.s a.a.C a.a.H a.a.j (N a.a.a.a) (N a.a.B.a) (N a.a.b.a)) (StoreT.q (N e.1)) b.2.2.2) λ c=>if((X c.1.a.a:Nat):Int) > 0 then G1 (O) else if c.1.g=Zj then G1 (O) else bnd (gJ c.2.2.1) λ D=>bnd (mh C D) λ E=>if E=Zj then dQ A g c.2.2.1.a.r c.2.2.1.a.y c.2.2.1.a.u c.2.2.1.a.z c.2.2.1.a.k c.2.2.1.a.b.a c.2.2.1.a.g.a c.2.2.1.a.j.a c.2.2.1.a.t c.2.2.1.a.B c.2.2.1.a.s.a c.2.2.1.a.s.b c.2.2.1.a.a.k c.2.2.1.a.a.s c.2.2.1.a.a.a c.2.2.1.a.a.j.a c.2.2.1.a.a.j.b c.2.2.1.b.a c.2.2.2.a.a e.1 else G1 (O) else bnd (gJ b.2.2.1) λ F=>bnd (dL b.2.2.1 (cz.q a.a.g a.a.D a.a.E a.a.J a.a.F a.a.I a.a.G a.a.y a.a.r a.a.t a.a.u a.a.z a.a.k a.a.s a.a.C a.a.H a.a.j (N a.a.a.a) (N a.a.B.a) (N a.a.b.a)) (StoreT.q (N e.1)) b.2.2.2) λ d=>if((X d.1.a.a:Nat):Int) > 0 then G1 (O) else if d.1.g=Zj then G1 (O) else bnd (gJ d.2.2.1) λ G=>bnd (mh F G) λ H=>if H=Zj then dQ A g d.2.2.1.a.r d.2.2.1.a.y d.2.2.1.a.u d.2.2.1.a.z d.2.2.1.a.k d.2.2.1.a.b.a d.2.2.1.a.g.a d.2.2.1.a.j.a d.2.2.1.a.t d.2.2.1.a.B d.2.2.1.a.s.a d.2.2.1.a.s.b d.2.2.1.a.a.k d.2.2.1.a.a.s d.2.2.1.a.a.a d.2.2.1.a.a.j.a d.2.2.1.a.a.j.b d.2.2.1.b.a d.2.2.2.a.a e.1 else G1 (O)
def sQ (e:List aG) (l1:List StepT):Bool:=
 bnd (wR) λ b=>bnd (l8 e) λ c=>if c=0 then if((X e:Nat):Int) > 60 then b else if((X l1:Nat):Int) > 60 then b else bnd (ma (bH.q 1 0 0 1 0 (N ([(bF.q [] 1),(bF.q ([109]) 2)])) (N []) (N []) 0 0 (ai.q [] []) (fF.q 0 0 0 (ai.q [] [])))) λ d=>if d=0 then bnd (gB (bH.q 1 0 0 1 0 (N ([(bF.q [] 1),(bF.q ([109]) 2)])) (N []) (N []) 0 0 (ai.q [] []) (fF.q 0 0 0 (ai.q [] [])))) λ a=>lp (dQ b l1 a.r (W (H3.wrap (((a.y:Nat):Int)+1))) a.u a.z a.k a.b.a a.g.a a.j.a a.t a.B a.s.a a.s.b a.a.k a.a.s a.a.a a.a.j.a a.a.j.b [] [] e) λ _=>b else O else b
set_option maxHeartbeats 4000000 in
theorem yc (w D A0 n0 c0 l0 A1 n1 c1 d1 l1 r0) (H:Own w D w []) (mi:Ro w D λ w'=>bV w' 2 A0 n0 (q1 aG.L l0)) (p8:n0=X l0) (vX:X l0 *32<=211106232532992) (mo:s0 jJ.abs d1=l1) (kC:Ro w D λ w'=>bV w' 22 A1 n1 (q1 jJ.L d1)) (aJ:∀ x ∈ d1,Ro w D (λ w'=>bV w' 6 x.a.a.A (X x.a.a.a) (q1 aV.L x.a.a.a))/\(X x.a.a.a<=x.a.a.c/\X x.a.a.a<=9223372036854775807)/\Ro w D (λ w'=>bV w' 3 x.a.B.A (X x.a.B.a) (q1 aQ.L x.a.B.a))/\(X x.a.B.a<=x.a.B.c/\X x.a.B.a<=9223372036854775807)/\(∀ y1 ∈ x.a.B.a,Ro w D (λ w'=>bV w' 2 y1.a.A (X y1.a.a) (q1 aG.L y1.a.a))/\(X y1.a.a<=y1.a.c/\X y1.a.a<=9223372036854775807))/\Ro w D (λ w'=>bV w' 2 x.a.b.A (X x.a.b.a) (q1 bF.L x.a.b.a))/\(X x.a.b.a<=x.a.b.c/\X x.a.b.a<=9223372036854775807)) (p9:n1=X l1) (vY:X l1 *240<=211106232532992) (vZ:X l0 *32<=140737488351232) (wh:X l1 *240<=140737488351232) (qa:∀ x ∈ l1,x.a.r<=18446744073709551615/\X x.a.a.a<=140737488351232/\X x.a.B.a<=140737488351232/\X x.a.b.a<=140737488351232) (hr:sQ l0 l1=r0):
    Calls y3 3 #[T A0 n0 c0, T A1 n1 c1] w (dI λ v w'=>v= Y r0/\Own w D w' []):=by
 unfold sQ at hr
 subst p8 p9
 have uq:=bf mo
 refine cb Tryz.func3 ?_
 refine sr (Ar Z ?_)
 obtain⟨af,aA⟩:∃ q,wR=q:=⟨_,Z⟩
 obtain⟨wm,mq,ut,mr,uu⟩:=JZ H
 refine cl Tryz.call4 (Dh _ _ af mq aA) ?_
 rintro _ wo ⟨rfl,mD⟩
 have qb:=mr _ _ mD
 refine An Z (JS (sr (Mz Z ?_)))
 obtain⟨ja,aC⟩:∃ q,l8 l0=q:=⟨_,Z⟩
 obtain⟨wu,mE,mF,mG,uw⟩:=JZ qb
 refine cl Tryz.call5 (vk _ _ A0 (X l0) c0 l0 ja mE (mF _ mi) Z U aC) ?_
 rintro _ qc ⟨rfl,mH⟩
 have jb:=mG _ _ mH
 refine fw (Za (¬ (ja=0))) (Kc (e:= !(Zw (ja=0))) yk ZW) (Mz Z ?_)
 by_cases ay:ja=0
 refine gw (T A0 (X l0) c0) (dF (Nu ay)) (J3 Z) (gw (vJ (X l0)) (dF (Nu ay)) yk (gw (Za ((X l0:Int) > 60)) (dF (Nu ay)) yk (fw (Za ((X l0:Int) > 60)) (JU Z (dF (Nu ay)) Z) (Mz Z ?_))))
 by_cases aK:(X l0:Int) > 60
 refine Sz (dT aK) (Sz (dT aK) (Sz (dT aK) (fw (Y Zj) (JX Z (dT aK) Z) (nt (jt (sr (Mz Z (An Z (rt (tR (rs ?_)))))))))))
 have qf:=jb.pk []
 obtain rfl:=zj hr zq4
 exact⟨Z,qf⟩
 refine gw (T A1 (X l1) c1) (dF aK) (J3 Z) (Gz (vJ (X l1)) (dF aK) (Gz (Za ((X l1:Int) > 60)) (dF aK) (fw (Za ((X l1:Int) > 60)) (JU Z (dF aK) Z) (nt ?_))))
 by_cases bS:(X l1:Int) > 60
 refine jT (dT bS) (sr (Mz Z (An Z (rt (tR (rs ?_))))))
 have qh:=jb.pk []
 obtain rfl:=zj hr zq5
 exact⟨Z,qh⟩
 refine jF (dF bS) (sk (sr (Mz Z ?_)))
 have mI:Own w D qc [row Zk 0 0 (q1 aG.L []) 67 2]:=jb.free (bW 67 2)
 refine WL.do Z (Kk (k:=0) (m:=X l0) (jo) mI Z Z (eO Tryz.underlying22 (mI.ro mi) (cO aG.one l0)) Z U (s:=X l0) U Z ?_)
 intro kD kE ww qi
 refine Kz (Zq #[T kD (X l0) kE]) ?_
 refine cB [T kD (X l0) kE] 29 qi ?_
 intro az wy qj
 refine Ar Z ?_
 refine WL.do Z (Ki Tryz.call7 Z ?_ (λ _ _ k=>k))
 refine cb Tryz.func7 ?_
 refine sr ?_
 refine cB (fV 0 0 0 0 0 Zk 0 0 Zk 0 0 Zk 0 0 0 0 [] [] 0 0 0 [] []) 42 qj ?_
 intro wz wB qm
 refine ns (Kz (Zq #[Z9 ⟨Zb []⟩,vI 1]) (Kz (Zq #[Z9 ⟨Zb ([109])⟩,vI 2]) ?_))
 refine j6 [Z9 ⟨Zb []⟩,vI 1, Z9 ⟨Zb ([109])⟩,vI 2] 83 2 2 qm ?_
 intro dR wC kF
 replace kF:=Ku (y:=row dR 2 2 (q1 bF.L ([(bF.q [] 1),(bF.q ([109]) 2)])) 83 2) Z kF
 refine Kz (Zq (Zb (fV 1 0 0 1 0 dR 2 2 Zk 0 0 Zk 0 0 0 0 [] [] 0 0 0 [] []))) ?_
 have qo:=kF.pf [1]
 refine cu (fV 1 0 0 1 0 dR 2 2 Zk 0 0 Zk 0 0 0 0 [] [] 0 0 0 [] []) 0 qo S0 ?_
 intro wD mJ
 refine nt (rt (Ke (qg Z Z (J7 (cs:=(fV 1 0 0 1 0 dR 2 2 Zk 0 0 Zk 0 0 0 0 [] [] 0 0 0 [] [])) X4 S0 ((mJ.cls (i:=0) Z).lit (k:=0) (m:=17) Z))) (Mz Z (Kz (.iface 27 (vP az 0)) ?_))))
 refine WL.do Z (Ki Tryz.call6 Z ?_ (λ _ _ k=>k))
 refine cb Tryz.func6 ?_
 refine JS ?_
 have qw:=mJ.pk [1,2,3]
 refine JW ?_
 refine cB (fV 1 0 0 1 0 dR 2 2 Zk 0 0 Zk 0 0 0 0 [] [] 0 0 0 [] []) 42 qw ?_
 intro qx wE mK
 refine Az Z (An Z (JS (sr (La (fV 1 0 0 1 0 dR 2 2 Zk 0 0 Zk 0 0 0 0 [] [] 0 0 0 [] []) mK 0 X4 S0 ?_))))
 obtain⟨jc,aZ⟩:∃ q,ma (bH.q 1 0 0 1 0 (N ([(bF.q [] 1),(bF.q ([109]) 2)])) (N []) (N []) 0 0 (ai.q [] []) (fF.q 0 0 0 (ai.q [] [])))=q:=⟨_,Z⟩
 obtain⟨wF,mM,uy,mO,mP⟩:=JZ mK
 refine cl Tryz.call16 (si _ _ (bH.q 1 0 0 1 0 (N ([(bF.q [] 1),(bF.q ([109]) 2)])) (N []) (N []) 0 0 (ai.q [] []) (fF.q 0 0 0 (ai.q [] []))) dR 2 2 Zk 0 0 [] Zk 0 0 jc mM Z (mP _ 1 _ Z bB) f9 Z Z (λ _ _=>bV.nil _ _ _) f9 (λ _ Z8=>absurd Z8 y2) Z (λ _ _=>bV.nil _ _ _) f9 g5 g5 aZ) ?_
 rintro _ wG ⟨rfl,mQ⟩
 have kG:=mO _ _ mQ
 refine fw (Za (¬ (jc=0))) (Kc (e:= !(Zw (jc=0))) yk ZW) (Mz Z ?_)
 by_cases bg:jc=0
 refine gw (.iface 27 (vP az 0)) (dF (Nu bg)) (J3 Z) (gw (Y O) (dF (Nu bg)) yk (fw (Y O) (JU Z (dF (Nu bg)) Z) (nt (jf (sk (sr (La (fV 1 0 0 1 0 dR 2 2 Zk 0 0 Zk 0 0 0 0 [] [] 0 0 0 [] []) kG 0 X4 S0 ?_)))))))
 obtain⟨b,aL⟩:∃ q,gB (bH.q 1 0 0 1 0 (N ([(bF.q [] 1),(bF.q ([109]) 2)])) (N []) (N []) 0 0 (ai.q [] []) (fF.q 0 0 0 (ai.q [] [])))=q:=⟨_,Z⟩
 obtain⟨wH,mR,uz,mU,mV⟩:=JZ kG
 refine cl Tryz.call17 (ko _ _ (bH.q 1 0 0 1 0 (N ([(bF.q [] 1),(bF.q ([109]) 2)])) (N []) (N []) 0 0 (ai.q [] []) (fF.q 0 0 0 (ai.q [] []))) dR 2 2 Zk 0 0 [] Zk 0 0 b mR Z (mV _ 1 _ Z bB) f9 Z Z (λ _ _=>bV.nil _ _ _) f9 (λ _ Z8=>absurd Z8 y2) Z (λ _ _=>bV.nil _ _ _) f9 g5 (by first | assumption | exact λ _ Z8=>absurd Z8 y2 | exact Tk.hops f8) aL) ?_
 rintro _ wI ⟨kI,kJ,kK,kM,kN,kP,mW,rfl,mX,je⟩
 have jd:=mU _ _ mX
 have uA:=bf je
 have uB:=zr 0 jd
 have uC:=zr 1 jd
 have uD:=zr 3 jd
 have qy:X b.b.a=2:=ZX (λ q=>X q.b.a) aL.symm
 have qA:X b.g.a=0:=ZX (λ q=>X q.g.a) aL.symm
 have qB:X b.j.a=0:=ZX (λ q=>X q.j.a) aL.symm
 refine Mz Z ?_
 refine WL.do Z (Ki Tryz.call18 Z ?_ (λ _ _ k=>k))
 refine cb Tryz.func18 ?_
 refine sr (Ar Z (Kz (Zq #[T Zk 0 0]) ?_))
 refine cB [T Zk 0 0] 111 jd ?_
 intro aM uE mY
 refine An Z (rt (rs (Kz (Zq #[vI b.r,vU b.y,vU b.u,vU b.z,vU b.k, T kI (X b.b.a) kJ, T kK (X b.g.a) kM, T kN (X b.j.a) kP,vU b.t,vU b.B, Z9 ⟨Zb b.s.a⟩, Z9 ⟨Zb b.s.b⟩,vU b.a.k,vU b.a.s,vU b.a.a, Z9 ⟨Zb b.a.j.a⟩, Z9 ⟨Zb b.a.j.b⟩, .iface 27 (vP az 0), T Zk 0 0,vP aM 0, Zz Zk]) ?_)))
 refine cB [vI b.r,vU b.y,vU b.u,vU b.z,vU b.k, T kI (X b.b.a) kJ, T kK (X b.g.a) kM, T kN (X b.j.a) kP,vU b.t,vU b.B, Z9 ⟨Zb b.s.a⟩, Z9 ⟨Zb b.s.b⟩,vU b.a.k,vU b.a.s,vU b.a.a, Z9 ⟨Zb b.a.j.a⟩, Z9 ⟨Zb b.a.j.b⟩, .iface 27 (vP az 0), T Zk 0 0,vP aM 0, Zz Zk] 78 mY ?_
 intro Z3 uF jg
 refine Ar Z (Mz Z (Kz (vP Z3 0) (Kz (vP Z3 0) (Kz (vP Z3 1) (Lz (vU b.y) jg 0 E0 (fw (.int .u64 ((W (H3.wrap ((b.y:Int)+1)):Nat):Int)) (J4 (e:=H3.wrap ((b.y:Int)+1)) yk (kW _)) (Kz (vP Z3 0) (Kz (vP Z3 0) (Kz (vP Z3 1) ?_)))))))))
 refine cu [.int .u64 ((W (H3.wrap ((b.y:Int)+1)):Nat):Int)] 1 jg Tryz.sizeOf33 ?_
 intro fU jh
 refine nt (JS (sr (Kz (vP qx 6) (Lz (T Zk 0 0) jh 6 Tryz.isAgg35 (Kz (vI 0) (Mn Z (bo (Lf 200 (JS ?_)))))))))
 have mZ:=jh.px [] [6] []
 refine JW (Kz (Y O) (nt (JS (jf (H0 (Ka (Ka (Kh (JY (sr (Mz Z (Az Z (An Z (rt (Ke (lw Z Z Z) (Mz Z (Kz (vP Z3 0) (Kz (vI 0) (Az Z (An Z (JS (JS ?_))))))))))))))))))))))
 have ng:=mZ.px [] [6] []
 refine JW (Mz Z (Kz (Y O) (Mz Z (gw (vI 0) Z (J3 Z) (Gz (Y O) Z (fw (Y O) (QK Z) (nt (jf (sk (JS (sr (Mz Z (Kz (vJ (X l1)) (Mn Z (bo ?_)))))))))))))))
 have ni:Own w D fU (sepL (q1 Kq [])::_):=ng.sepNil
 have nk:Own w D fU (row Zk 0 0 (q1 aY.L []) 100 4::_):=ni.free (bW 100 4)
 have nu:Own w D fU (sepL (q1 Kj [])::_):=nk.sepNil
 have ny:Own w D fU (row Zk 0 0 (q1 aH.L []) 159 6::_):=nu.free (bW 159 6)
 have nz:=ny.px [4,5,10] [] [2,3,0,1,11]
 obtain⟨nA,aU⟩:=JD λ (f:Nat) (C:Int) (E:Nat) (F:Nat) (G:Nat) (I:Nat) dw (dx:Nat) u dz (dB:Nat) bT p dC (dE:Nat) r (J:Nat) (K:Nat) L M (Z5:Nat) (Z6:Nat) (P:Nat) Q R dH (dJ:Nat) bU t dK (dN:Nat) bX B bZ (bD:Nat) j w'=>Own w D w' [blk Z3 [vI C,vU E,vU F,vU G,vU I, T dw (X u) dx, T dz (X p) dB, T dC (X r) dE,vU J,vU K, Z9 ⟨Zb L⟩, Z9 ⟨Zb M⟩,vU Z5,vU Z6,vU P, Z9 ⟨Zb Q⟩, Z9 ⟨Zb R⟩, .iface 27 (vP az 0), T dH (X t) dJ,vP aM 0, Zz Zk] 78,blk aM [T dK (X B) dN] 111,blk az [T bZ (X j) bD] 29,row dw (X u) dx (q1 bF.L u) 83 2,row dz (X p) dB (q1 bA.L bT) 80 2,sepL (q1 Ky bT),row dC (X r) dE (q1 (eN .u64) r) 33 1,row dH (X t) dJ (q1 aY.L bU) 100 4,sepL (q1 Kq bU),row dK (X B) dN (q1 aH.L bX) 159 6,sepL (q1 Kj bX),row bZ (X j) bD (q1 aG.L j) 67 2]/\s0 bA.abs bT=p/\s0 aY.abs bU=t/\s0 aH.abs bX=B/\f<=X l1/\Rs t p r B/\Dv t p j/\X t+X p<=6/\(X r<=2 *f/\X j<=60+42 *f/\X u<=6)/\dQ af l1 b.r (W (H3.wrap ((b.y:Int)+1))) b.u b.z b.k b.b.a b.g.a b.j.a b.t b.B b.s.a b.s.b b.a.k b.a.s b.a.a b.a.j.a b.a.j.b [] [] l0=dQ af (r8 f l1) C E F G I u p r J K L M Z5 Z6 P Q R t B j
 refine Wp.loop (λ i:Nat × Int × Nat × Nat × Nat × Nat × (Option Addr) × Nat × (List bF) × (Option Addr) × Nat × (List bA) × (List dG) × (Option Addr) × Nat × (List Nat) × Nat × Nat × (List UInt8) × (List UInt8) × Nat × Nat × Nat × (List UInt8) × (List UInt8) × (Option Addr) × Nat × (List aY) × (List bK) × (Option Addr) × Nat × (List aH) × (List aS) × (Option Addr) × Nat × (List aG)=> [(4, Y O),(50,vJ i.1),(49,vJ (X l1)),(48, T A1 (X l1) c1),(7,vP Z3 0),(6,vP az 0),(5, Y af)]) nA (λ i=>X l1 - i.1) (0,b.r,W (H3.wrap ((b.y:Int)+1)),b.u,b.z,b.k,kI,kJ,b.b.a,kK,kM,mW,b.g.a,kN,kP,b.j.a,b.t,b.B,b.s.a,b.s.b,b.a.k,b.a.s,b.a.a,b.a.j.a,b.a.j.b,Zk,0, [], [],Zk,0, [], [],kD,kE,l0) ⟨Z,Z,Z,Z,Z,Z,Z,ZV⟩ (aU.2 ⟨nz,(show s0 bA.abs mW=b.g.a/\s0 aY.abs []=[]/\s0 aH.abs []=[]/\0<=X l1/\Rs [] b.g.a b.j.a []/\Dv [] b.g.a l0/\0+X b.g.a<=6/\(X b.j.a<=2 *0/\X l0<=60+42 *0/\X b.b.a<=6)/\dQ af l1 b.r (W (H3.wrap ((b.y:Int)+1))) b.u b.z b.k b.b.a b.g.a b.j.a b.t b.B b.s.a b.s.b b.a.k b.a.s b.a.a b.a.j.a b.a.j.b [] [] l0=dQ af (r8 0 l1) b.r (W (H3.wrap ((b.y:Int)+1))) b.u b.z b.k b.b.a b.g.a b.j.a b.t b.B b.s.a b.s.b b.a.k b.a.s b.a.a b.a.j.a b.a.j.b [] [] l0 from ⟨by exact je,by exact Z,by exact Z,U,by first | assumption | exact dS f8,by first | assumption | exact rP f8 f8 f8,by first | omega | exact(Rs.tk f8).n | exact(dS f8).tk.n,by first | omega | (dsimp only; omega) | (simp only [L0]; omega),Z⟩)⟩) ?_
 rintro ⟨f,C,E,F,G,I,dw,dx,u,dz,dB,bT,p,dC,dE,r,J,K,L,M,Z5,Z6,P,Q,R,dH,dJ,bU,t,dK,dN,bX,B,bZ,bD,j⟩ uG kQ
 show Wp _ _ _ [(4, Y O),(50,vJ f),(49,vJ (X l1)),(48, T A1 (X l1) c1),(7,vP Z3 0),(6,vP az 0),(5, Y af)] _ _
 obtain⟨eG,dU,dV,dW,qC,qD,qE,qF,qG,Z1⟩:=aU.1 kQ
 have qH:=bf dU
 have qI:=bf dV
 have qJ:=bf dW
 refine sr (Kz (Za ((f:Int) < (X l1:Int))) (nt (JS ?_)))
 by_cases ji:(f:Int) < (X l1:Int)
 obtain⟨a,l⟩:=dM (ls:=d1) (i:=f) jJ.len f7 (eG.ro kC) f5
 have gN:=ik mo l
 have qK:=(aJ _ (G4 l)).2.1
 have qL:=(aJ _ (G4 l)).2.2.2.1
 have qM:X (s0 aQ.abs a.a.B.a)=X a.a.B.a:=r5 ..
 have qN:=(aJ _ (G4 l)).2.2.2.2.2.2
 have qO:a.a.r<=18446744073709551615/\X a.a.a.a<=140737488351232/\X a.a.B.a<=140737488351232/\X a.a.b.a<=140737488351232:=by have q:=qa _ (G4 gN); exact⟨q.1,q.2.1,Nat.le_trans (Nat.le_of_eq (r5 ..).symm) q.2.2.1,q.2.2.2⟩
 have ag:=drop_at gN
 refine jT (dT ji) (sk (JS (bo (sr (fw (Zz (Zv ⟨ab A1,ao A1+f *22,Zk⟩)) (J9 (JO) Z Z ((eG.ro kC).addr (i:=f) U) U) (fw (Zq (Zb (jJ.L a))) (J5 Z (J7 (cs:=(jJ.L a)) Tryz.isAgg49 Tryz.sizeOf49 ((eG.ro kC).elem jJ.len l f7))) ?_))))))
 refine cB (Jo 0 0 0 0 0 0 0 0 0 0 0 0 0 0 0 O [] [] Zk 0 0 Zk 0 0 Zk 0 0 O) 49 eG ?_
 intro aN uH nC
 refine cu (jJ.L a) 0 nC Tryz.sizeOf49 ?_
 intro uI dO
 refine nt (JS (sr (Kz (vP aN 0) (Kz (vP aN 0) (Lz (vI a.a.g) dO 0 B8 (Kz (Za (a.a.g=0)) (Mz Z ?_)))))))
 by_cases S:a.a.g=0
 refine Sz (dT S) (Sz (dT S) (Sz (dT S) (Sz (dT S) (fw (Y Zj) (JX Z (dT S) Z) (nt (jt (H0 (Ka (Kh (JY ?_))))))))))
 have nD:=dO.px [] [0] []
 refine JW (fw (vJ (f+1)) (J4 (e:=D3.wrap ((f:Int)+1)) yk f4) (Mz Z (G2 ?_)))
 have nE:=nD.pf []
 exact Kb (f+1,C,E,F,G,I,dw,dx,u,dz,dB,bT,p,dC,dE,r,J,K,L,M,Z5,Z6,P,Q,R,dH,dJ,bU,t,dK,dN,bX,B,bZ,bD,j) ⟨Z,Z,Z,Z,Z,Z,Z,ZV⟩ (aU.2 ⟨nE,by exact dU,by exact dV,by exact dW,U,by first | assumption | exact dS f8,by first | assumption | exact rP f8 f8 f8,by first | omega | exact(Rs.tk f8).n | exact(dS f8).tk.n,by first | omega | (dsimp only; omega) | (simp only [L0]; omega),Eq.trans (Z1) (Eq.trans (congrArg (λ q=>dQ af q C E F G I u p r J K L M Z5 Z6 P Q R t B j) ag) (ZJ S))⟩) (by show X l1 - (f+1) < X l1 - f; omega)
 refine Gz (vP aN 0) (dF S) (Gz (vP aN 0) (dF S) (Gl (vI a.a.g) (dF S) dO 0 B8 (Gz (Za (a.a.g=10)) (dF S) (fw (Za (a.a.g=10)) (JU Z (dF S) Z) (nt ?_)))))
 by_cases aD:a.a.g=10
 refine jT (dT aD) (H0 (Ka (Kh (JY ?_))))
 have nG:=dO.px [] [0] []
 refine JW (fw (vJ (f+1)) (J4 (e:=D3.wrap ((f:Int)+1)) yk f4) (Mz Z (G2 ?_)))
 have nH:=nG.pf []
 exact Kb (f+1,C,E,F,G,I,dw,dx,u,dz,dB,bT,p,dC,dE,r,J,K,L,M,Z5,Z6,P,Q,R,dH,dJ,bU,t,dK,dN,bX,B,bZ,bD,j) ⟨Z,Z,Z,Z,Z,Z,Z,ZV⟩ (aU.2 ⟨nH,by exact dU,by exact dV,by exact dW,U,by first | assumption | exact dS f8,by first | assumption | exact rP f8 f8 f8,by first | omega | exact(Rs.tk f8).n | exact(dS f8).tk.n,by first | omega | (dsimp only; omega) | (simp only [L0]; omega),Eq.trans (Z1) (Eq.trans (congrArg (λ q=>dQ af q C E F G I u p r J K L M Z5 Z6 P Q R t B j) ag) (Eq.trans (ZK S) (ZJ aD)))⟩) (by show X l1 - (f+1) < X l1 - f; omega)
 refine jF (dF aD) (sk (sr (Mz Z (Kz (vP aN 0) (La (bM.L a.a) dO 0 I0 I2 ?_)))))
 have jk:=dO.pb [3,2,10,11,0,12]
 have qP:=zr 12 jk
 obtain⟨⟨z,jl,d,bi⟩,Z2⟩:∃ q:bY × Int × aB × bn,dL (aB.q (bH.q C E F G I (N u) (N p) (N r) J K (ai.q L M) (fF.q Z5 Z6 P (ai.q Q R))) (N t)) (cz.q a.a.g a.a.D a.a.E a.a.J a.a.F a.a.I a.a.G a.a.y a.a.r a.a.t a.a.u a.a.z a.a.k a.a.s a.a.C a.a.H a.a.j (N a.a.a.a) (N (s0 aQ.abs a.a.B.a)) (N a.a.b.a)) (StoreT.q (N j)) (bn.q (N B))=q:=⟨_,Z⟩
 obtain⟨uJ,kR,dX,kS,kT⟩:=KT jk
 refine cl Y4 (jv _ _ Z3 (aB.q (bH.q C E F G I (N u) (N p) (N r) J K (ai.q L M) (fF.q Z5 Z6 P (ai.q Q R))) (N t)) dw dx dz dB bT dC dE dH dJ bU (cz.q a.a.g a.a.D a.a.E a.a.J a.a.F a.a.I a.a.G a.a.y a.a.r a.a.t a.a.u a.a.z a.a.k a.a.s a.a.C a.a.H a.a.j (N a.a.a.a) (N (s0 aQ.abs a.a.B.a)) (N a.a.b.a)) a.a.a.A (X a.a.a.a) a.a.a.c a.a.B.A (X a.a.B.a) a.a.B.c a.a.B.a a.a.b.A (X a.a.b.a) a.a.b.c az (StoreT.q (N j)) bZ bD aM (bn.q (N B)) dK dN bX z jl d bi kR dU dV Z (dX _ (aJ _ (G4 l)).1) U (Z:s0 aQ.abs a.a.B.a=s0 aQ.abs a.a.B.a) g7 (λ w9 Z8=>BR (bf (Z:s0 aQ.abs a.a.B.a=s0 aQ.abs a.a.B.a)) ((dX _ (aJ _ (G4 l)).2.2.1) w9 Z8)) U (λ x9 Z8=>⟨dX _ ((aJ _ (G4 l)).2.2.2.2.1 x9 Z8).1,((aJ _ (G4 l)).2.2.2.2.1 x9 Z8).2⟩) Z (dX _ (aJ _ (G4 l)).2.2.2.2.2.1) U (kT _ 1 _ Z bB) U dW (by first | assumption | exact Rs.tk f8 | (dsimp only; exact(dS f8).tk)) (by first | assumption | exact Rs.gt f8 | (dsimp only; exact(dS f8).gt)) (by first | omega | exact Tk.n f8 | exact(Rs.tk f8).n | (dsimp only; exact(dS f8).tk.n)) (by first | omega | exact Tk.rows f8 | exact(Rs.tk f8).rows | (dsimp only; exact(dS f8).tk.rows)) f2 f2 f2 Z2) ?_
 rintro _ uK ⟨fZ,eH,eP,dP,nJ,eQ,cK,eT,cZ,eX,eY,df,eZ,fe,gP,gQ,gT,gU,rfl,kU,gV,bv,dY,dZ⟩
 have bE:=kS _ _ kU
 have qQ:=bf gV
 have qR:=bf bv
 have qU:=bf dY
 have qV:=bf dZ
 have qW:=zr 0 bE
 have qX:=zr 2 bE
 have qY:=zr 4 bE
 have qZ:=zr 5 bE
 have q8:=zr 7 bE
 have q9:=zr 8 bE
 have rf:=zr 12 bE
 obtain⟨gW,gX⟩:=om (m:=(aB.q (bH.q C E F G I (N u) (N p) (N r) J K (ai.q L M) (fF.q Z5 Z6 P (ai.q Q R))) (N t))) (tb:=(bn.q (N B))) i0 g4 g4 Z2
 replace gW:Rs d.b.a d.a.g.a d.a.j.a bi.a.a:=gW
 replace gX:X d.a.b.a<=6/\X d.a.j.a<=X r+1/\X z.a.a<=42/\X d.b.a+X d.a.g.a<=6:=gX
 refine Mz Z (Kz (Zq #[T fZ (X z.b.a) eH, T eP (X z.a.a) dP, Y z.g]) (Kz (vI jl) ?_))
 refine cB [T Zk 0 0, T Zk 0 0, Y O] 52 bE ?_
 intro nK uL nL
 refine cu [T fZ (X z.b.a) eH, T eP (X z.a.a) dP, Y z.g] 0 nL Y1 ?_
 intro uM nM
 refine An Z (JS ?_)
 refine kL 17 [14] (J6 (bJ.block (J6 (J6 (bJ.block (J6 Kg)))))) nM ?_
 intro uN nN
 refine qv 0 Z Z (qv 1 Z Z (qp az 0 2 Z (qp az 0 3 Z (ql 4 Z 11 Tryz.isAgg22 Z Z Z (qp nK 1 5 Z (ql 6 Z 0 Q9 Z Z Z ?_))))))
 obtain⟨⟨Z4,gY,jm⟩,ah⟩:∃ q:(List aG) × (List dA) × Int,qz j z.a.a=q:=⟨_,Z⟩
 obtain⟨uO,kV,rq,kX,ib⟩:=JZ nN
 refine qd 7 Z (Ki Tryz.call9 Z (Ck _ _ bZ (X j) bD j eP (X z.a.a) dP z.a.a Z4 gY jm kV (ib _ 16 _ Z bB) Z U (ib _ 3 _ Z bB) Z U i6 ah) ?_)
 rintro _ uP ⟨dh,bq,nO,nP,uQ,rfl,kY,kZ,ic,ig⟩
 have il:=kX _ _ kY
 have ru:=bf kZ
 have ry:=zr 0 il
 have rz:=zr 1 il
 replace ic:X Z4<=X j+X z.a.a:=ic
 replace ig:X gY<=X z.a.a:=ig
 have rA:Dv d.b.a d.a.g.a Z4:=Ea (m:=(aB.q (bH.q C E F G I (N u) (N p) (N r) J K (ai.q L M) (fF.q Z5 Z6 P (ai.q Q R))) (N t))) Z2 ah f8 f8 g4 g4
 have jq:=il.pb [0,1,2]
 refine⟨.inr ⟨_,jq⟩, ?_⟩
 refine qv 8 Z Z (qk (T dh (X Z4) bq) 9 Z (Kr (v:= T nO (X gY) nP) 10 Z f1 (λ _=>yk) (Kr (v:=vI jm) 11 Z f1 (λ _=>yk) (qp az 0 12 Z (qp az 0 13 Z ?_)))))
 have nQ:=jq.pf [11]
 refine qe 14 Z (Do.store (vs:= [T dh (X Z4) bq]) (o:=0) nQ Z Z Tryz.sizeOf22 Z Z Z Z ?_)
 intro uR nR
 refine⟨.inl f1, ?_⟩
 refine qn (JY (JS (JS ?_)))
 have bu:=nR.px [] [18,19] []
 refine JW (Kz (vP aN 0) (Kz (vP aN 0) (Lz (vI a.a.g) bu 15 B8 (Kz (Za (a.a.g=3)) (Mz Z ?_)))))
 by_cases Z7:a.a.g=3
 refine Ga ([T fZ (X z.b.a) eH, T eP (X z.a.a) dP, Y z.g]) (dT Z7) bu 1 Tryz.isAgg52 Y1 (Gz (vP aN 0) (dT Z7) (Gz (vP aN 8) (dT Z7) (Gl (vU a.a.r) (dT Z7) bu 15 E0 ?_)))
 obtain⟨iq,bz⟩:∃ q,tO z a.a.r=q:=⟨_,Z⟩
 obtain⟨uS,lc,rC,lg,bC⟩:=JZ bu
 refine oI (dT Z7) Tryz.call10 (Dk _ _ z fZ (X z.b.a) eH nJ eP (X z.a.a) dP a.a.r iq lc gV Z (bC _ 2 _ Z bB) U (λ x9 Z8=>⟨bC _ 3 _ Z (bL (P6.2 ⟨x9,Z8,b3⟩) bB),di (φ:=λ _=>_) bu (i:=3) Z (bL (P6.2 ⟨x9,Z8,b3⟩) dD),bC _ 3 _ Z (bL (P6.2 ⟨x9,Z8, .tail _ b3⟩) bB),di (φ:=λ _=>_) bu (i:=3) Z (bL (P6.2 ⟨x9,Z8, .tail _ b3⟩) dD),(λ y1 k1=>⟨bC _ 3 _ Z (bL (P6.2 ⟨x9,Z8, .tail _ b5⟩) (bL (P6.2 ⟨y1,k1,b3⟩) bB)),di (φ:=λ _=>_) bu (i:=3) Z (bL (P6.2 ⟨x9,Z8, .tail _ b5⟩) (bL (P6.2 ⟨y1,k1,b3⟩) dD))⟩),bC _ 3 _ Z (bL (P6.2 ⟨x9,Z8, .tail _ b4⟩) bB),di (φ:=λ _=>_) bu (i:=3) Z (bL (P6.2 ⟨x9,Z8, .tail _ b4⟩) dD)⟩) Z (bC _ 4 _ Z bB) U bz) ?_
 rintro _ uU ⟨rfl,lh⟩
 have jr:=lg _ _ lh
 refine fw (Y iq) (JX Z (dT Z7) Z) (nt ?_)
 rcases Nv (iq) with bG | bG
 refine jT bG (H0 (Ka (Kh (JY ?_))))
 have nS:=jr.px [] [1,2,3,4,15] []
 refine JW (fw (vJ (f+1)) (J4 (e:=D3.wrap ((f:Int)+1)) yk f4) (Mz Z (G2 ?_)))
 have nT:=nS.px [1,8] [11] []
 exact Kb (f+1,d.a.r,d.a.y,d.a.u,d.a.z,d.a.k,eQ,cK,d.a.b.a,eT,cZ,eX,d.a.g.a,eY,df,d.a.j.a,d.a.t,d.a.B,d.a.s.a,d.a.s.b,d.a.a.k,d.a.a.s,d.a.a.a,d.a.a.j.a,d.a.a.j.b,eZ,fe,gP,d.b.a,gQ,gT,gU,bi.a.a,dh,bq,Z4) ⟨Z,Z,Z,Z,Z,Z,Z,ZV⟩ (aU.2 ⟨nT,by exact bv,by exact dY,by exact dZ,U,by first | assumption | exact dS f8,by first | assumption | exact rP f8 f8 f8,by first | omega | exact(Rs.tk f8).n | exact(dS f8).tk.n,by first | omega | (dsimp only; omega) | (simp only [L0]; omega),Eq.trans (Z1) (Eq.trans (congrArg (λ q=>dQ af q C E F G I u p r J K L M Z5 Z6 P Q R t B j) ag) (Eq.trans (ZK S) (Eq.trans (ZK aD) (Eq.trans (ae Z2) (Eq.trans (ae ah) (Eq.trans (ZJ Z7) (Eq.trans (ae bz) (ZJ bG))))))))⟩) (by show X l1 - (f+1) < X l1 - f; omega)
 refine jF bG (sk (JS ?_))
 have nU:=jr.px [] [1,2,3,4] []
 refine JW (Mz Z ?_)
 have fo:=nU.pf [1]
 have rD:=zr 2 fo
 have rE:=zr 3 fo
 have rF:=zr 5 fo
 obtain⟨aj,dm⟩:∃ q,gJ d=q:=⟨_,Z⟩
 obtain⟨uV,ll,rG,lm,d9⟩:=Kt fo
 refine cl Y5 (lW _ _ Z3 d eQ cK eT cZ eX eY df eZ fe az aM aj ll (d9 _ 1 _ Z bB) U bv (d9 _ 2 _ Z bB) U (λ x9 Z8=>⟨d9 _ 3 _ Z (bL (P6.2 ⟨x9,Z8,b3⟩) bB),di (φ:=λ _=>_) fo (i:=4) Z (bL (P6.2 ⟨x9,Z8,b3⟩) dD)⟩) (d9 _ 4 _ Z bB) U g5 (by first | assumption | exact Tk.hops f8 | exact(Rs.tk f8).hops) dm) ?_
 rintro _ uX ⟨gm,fq,gp,fu,gq,fA,nV,rfl,lq,iw⟩
 have gu:=lm _ _ lq
 have rH:=bf iw
 have rJ:=zr 0 gu
 have rM:=zr 1 gu
 have rO:=zr 3 gu
 refine cB (fV 0 0 0 0 0 Zk 0 0 Zk 0 0 Zk 0 0 0 0 [] [] 0 0 0 [] []) 42 gu ?_
 intro uY uZ nW
 refine cu (gZ aj gm fq gp fu gq fA) 0 nW S0 ?_
 intro u6 jw
 refine ns (Mz Z (Kz (vP aN 0) (La (bM.L a.a) jw 16 I0 I2 ?_)))
 have jy:=jw.pf [5,7,8,9,10,11,12,6,13,14,15]
 have rQ:=zr 18 jy
 obtain⟨⟨au,jA,g,iy⟩,aW⟩:∃ q:bY × Int × aB × bn,dL d (cz.q a.a.g a.a.D a.a.E a.a.J a.a.F a.a.I a.a.G a.a.y a.a.r a.a.t a.a.u a.a.z a.a.k a.a.s a.a.C a.a.H a.a.j (N a.a.a.a) (N (s0 aQ.abs a.a.B.a)) (N a.a.b.a)) (StoreT.q (N Z4)) bi=q:=⟨_,Z⟩
 obtain⟨u7,lu,ed,lv,lC⟩:=KT jy
 refine cl Y4 (jv _ _ Z3 d eQ cK eT cZ eX eY df eZ fe gP (cz.q a.a.g a.a.D a.a.E a.a.J a.a.F a.a.I a.a.G a.a.y a.a.r a.a.t a.a.u a.a.z a.a.k a.a.s a.a.C a.a.H a.a.j (N a.a.a.a) (N (s0 aQ.abs a.a.B.a)) (N a.a.b.a)) a.a.a.A (X a.a.a.a) a.a.a.c a.a.B.A (X a.a.B.a) a.a.B.c a.a.B.a a.a.b.A (X a.a.b.a) a.a.b.c az (StoreT.q (N Z4)) dh bq aM bi gQ gT gU au jA g iy lu bv dY Z (ed _ (aJ _ (G4 l)).1) U (Z:s0 aQ.abs a.a.B.a=s0 aQ.abs a.a.B.a) g7 (λ w9 Z8=>BR (bf (Z:s0 aQ.abs a.a.B.a=s0 aQ.abs a.a.B.a)) ((ed _ (aJ _ (G4 l)).2.2.1) w9 Z8)) U (λ x9 Z8=>⟨ed _ ((aJ _ (G4 l)).2.2.2.2.1 x9 Z8).1,((aJ _ (G4 l)).2.2.2.2.1 x9 Z8).2⟩) Z (ed _ (aJ _ (G4 l)).2.2.2.2.2.1) U (lC _ 7 _ Z bB) U dZ (by first | assumption | exact Rs.tk f8 | (dsimp only; exact(dS f8).tk)) (by first | assumption | exact Rs.gt f8 | (dsimp only; exact(dS f8).gt)) (by first | omega | exact Tk.n f8 | exact(Rs.tk f8).n | (dsimp only; exact(dS f8).tk.n)) (by first | omega | exact Tk.rows f8 | exact(Rs.tk f8).rows | (dsimp only; exact(dS f8).tk.rows)) f2 f2 f2 aW) ?_
 rintro _ ve ⟨jB,jC,jD,jE,vg,jG,iA,jH,iB,jI,jK,iC,jL,jM,nX,nY,nZ,og,rfl,lD,lF,fK,iD,iE⟩
 have bI:=lv _ _ lD
 have rR:=bf lF
 have rT:=bf fK
 have rU:=bf iD
 have rV:=bf iE
 have rW:=zr 0 bI
 have rX:=zr 2 bI
 have rY:=zr 4 bI
 have rZ:=zr 5 bI
 have r9:=zr 7 bI
 have sj:=zr 8 bI
 have su:=zr 12 bI
 obtain⟨iF,iG⟩:=om (m:=d) (tb:=bi) i0 g4 g4 aW
 replace iF:Rs g.b.a g.a.g.a g.a.j.a iy.a.a:=iF
 replace iG:X g.a.b.a<=6/\X g.a.j.a<=X d.a.j.a+1/\X au.a.a<=42/\X g.b.a+X g.a.g.a<=6:=iG
 have sw:Dv g.b.a g.a.g.a Z4:=zk (m:=d) aW f8 f8 g4 g4
 refine Mz Z (Kz (Zq #[T jB (X au.b.a) jC, T jD (X au.a.a) jE, Y au.g]) (Kz (vI jA) ?_))
 refine cB [T Zk 0 0, T Zk 0 0, Y O] 52 bI ?_
 intro jN vo oh
 refine cu [T jB (X au.b.a) jC, T jD (X au.a.a) jE, Y au.g] 0 oh Y1 ?_
 intro vv ol
 refine An Z (JS ?_)
 have oo:=ol.px [] [20] []
 refine kL 22 [] (J6 (bJ.block (J6 (J6 (bJ.block (J6 Kg)))))) oo ?_
 intro vw iH
 refine qp jN 1 0 Z (ql 1 Z 0 Q9 Z Z Z (qk (vJ (X au.a.a)) 2 Z (qk (Za ((X au.a.a:Int) > 0)) 3 Z (qv 4 Z Z ?_))))
 by_cases aR:(X au.a.a:Int) > 0
 refine JV (rs:= []) 5 Z Z Z (dT aR) f1 (JV (rs:= []) 6 Z Z Z (dT aR) f1 (qt (v:= Y Zj) 7 Z (λ _ _=>JX Z (dT aR) Z) (qv 8 Z Z (JV (rs:= []) 9 Z Z Z Z f1 (JV (rs:= []) 10 Z Z Z Z f1 (JV (rs:= []) 11 Z Z Z Z f1 (JV (rs:= []) 12 Z Z Z Z f1 (JV (rs:= []) 13 Z Z Z Z f1 (qt (v:= Y Zj) 14 Z (λ _ _=>QJ Z) (qn (JY (jt (JS ?_)))))))))))))
 have oq:=iH.px [] [0,1,2,3,15,16,17,18,19] []
 refine JW (An Z (rt (bR (tR (tR (bR (tR (rs ?_))))))))
 have ou:=oq.pk []
 obtain rfl:_=O:=zj hr (V (ae aA) (V (ae aC) (V (ip ay) (V (iN aK) (V (iN bS) (V (ae aZ) (V (ip bg) (V (ae aL) (iX (V (Z1) (V (ZX (λ q=>dQ af q C E F G I u p r J K L M Z5 Z6 P Q R t B j) ag) (V (iN S) (V (iN aD) (V (ae Z2) (V (ae ah) (V (ip Z7) (V (ae bz) (V (eD bG) (V (ae dm) (V (ae aW) (ip aR)))))))))))))))))))))
 exact⟨Z,ou⟩
 refine J2 (v:=vP jN 2) (rs:= []) 5 Z Z Z (dF aR) f1 (λ _ _=>yk) (J2 (v:= Y au.g) (rs:= []) 6 Z Z Z (dF aR) f1 (λ _ ⟨_,H9⟩=>J5 Z (bO.one Tryz.isAgg4 (Kw (H9.cls (i:=0) Z) Z))) (qt (v:= Y au.g) 7 Z (λ _ _=>JU Z (dF aR) Z) (qv 8 Z Z ?_)))
 rcases Nv (au.g) with Z0 | Z0
 refine JV (rs:= []) 9 Z Z Z Z0 f1 (JV (rs:= []) 10 Z Z Z Z0 f1 (JV (rs:= []) 11 Z Z Z Z0 f1 (JV (rs:= []) 12 Z Z Z Z0 f1 (JV (rs:= []) 13 Z Z Z Z0 f1 (qt (v:= Y Zj) 14 Z (λ _ _=>JX Z Z0 Z) (qn (JY (jt (JS ?_)))))))))
 have ow:=iH.px [] [0,1,2,3,15,16,17,18,19] []
 refine JW (An Z (rt (bR (tR (tR (bR (tR (rs ?_))))))))
 have oz:=ow.pk []
 obtain rfl:_=O:=zj hr (V (ae aA) (V (ae aC) (V (ip ay) (V (iN aK) (V (iN bS) (V (ae aZ) (V (ip bg) (V (ae aL) (iX (V (Z1) (V (ZX (λ q=>dQ af q C E F G I u p r J K L M Z5 Z6 P Q R t B j) ag) (V (iN S) (V (iN aD) (V (ae Z2) (V (ae ah) (V (ip Z7) (V (ae bz) (V (eD bG) (V (ae dm) (V (ae aW) (V (iN aR) (ip Z0))))))))))))))))))))))
 exact⟨Z,oz⟩
 refine J2 (v:= Zq (Zb (gZ aj gm fq gp fu gq fA))) (rs:= []) 9 Z Z Z Z0 f1 (λ _ ⟨_,H9⟩=>J5 Z (J7 (cs:=(gZ aj gm fq gp fu gq fA)) X4 S0 ((H9.cls (i:=15) Z).lit (k:=0) (m:=17) Z))) (J2 (v:=vP Z3 0) (rs:= []) 10 Z Z Z Z0 f1 (λ _ _=>J3 Z) ?_)
 have fB:=iH.pf [4]
 have sD:=zr 5 fB
 have sF:=zr 6 fB
 have sG:=zr 8 fB
 obtain⟨aF,fM⟩:∃ q,gJ g=q:=⟨_,Z⟩
 obtain⟨vz,lH,sH,lI,ek⟩:=Kt fB
 refine KG 11 Z Z Z Z0 f1 (Ki Y5 Z (lW _ _ Z3 g jG iA jH iB jI jK iC jL jM az aM aF lH (ek _ 4 _ Z bB) U fK (ek _ 5 _ Z bB) U (λ x9 Z8=>⟨ek _ 6 _ Z (bL (P6.2 ⟨x9,Z8,b3⟩) bB),di (φ:=λ _=>_) fB (i:=7) Z (bL (P6.2 ⟨x9,Z8,b3⟩) dD)⟩) (ek _ 7 _ Z bB) U g5 (by first | assumption | exact Tk.hops f8 | exact(Rs.tk f8).hops) fM) ?_)
 rintro _ vB ⟨oC,jO,oD,jP,oF,jQ,oG,rfl,lJ,iI⟩
 have gy:=lI _ _ lJ
 have sI:=bf iI
 have sJ:=zr 0 gy
 have sK:=zr 1 gy
 have sM:=zr 3 gy
 have gz:=gy.px [5,6,7,8] [] [0,1,2,3]
 refine⟨.inr ⟨_,gz⟩, ?_⟩
 obtain⟨gD,fO⟩:∃ q,mh aj aF=q:=⟨_,Z⟩
 obtain⟨vC,lK,sN,lL,aO⟩:=JZ gz
 refine KG 12 Z Z Z Z0 f1 (Ki Tryz.call12 Z (uW _ _ aj gm (X aj.b.a) fq gp (X aj.g.a) fu nV gq (X aj.j.a) fA aF oC (X aF.b.a) jO oD (X aF.g.a) jP oG oF (X aF.j.a) jQ gD lK Z (aO _ 16 _ Z bB) U iw Z (aO _ 17 _ Z bB) U (λ x9 Z8=>⟨aO _ 18 _ Z (bL (P6.2 ⟨x9,Z8,b3⟩) bB),di (φ:=λ _=>_) gz (i:=18) Z (bL (P6.2 ⟨x9,Z8,b3⟩) dD)⟩) Z (aO _ 19 _ Z bB) U Z (aO _ 22 _ Z bB) U iI Z (aO _ 23 _ Z bB) U (λ x9 Z8=>⟨aO _ 24 _ Z (bL (P6.2 ⟨x9,Z8,b3⟩) bB),di (φ:=λ _=>_) gz (i:=24) Z (bL (P6.2 ⟨x9,Z8,b3⟩) dD)⟩) Z (aO _ 25 _ Z bB) U fO) ?_)
 rintro _ vD ⟨rfl,lM⟩
 have iJ:=lL _ _ lM
 refine⟨.inr ⟨_,iJ⟩, ?_⟩
 refine J2 (v:= Y (!gD)) (rs:= []) 13 Z Z Z Z0 f1 (λ _ _=>yk) (qt (v:= Y (!gD)) 14 Z (λ _ _=>JU Z Z0 Z) (qn (JY ?_)))
 rcases Nv (gD) with fC | fC
 refine jF (cn fC) (Ko (bN (JY ?_)))
 have oH:=iJ.pk [4,5,6,7,8,9,10,11,12,13,14,20,21]
 refine JW (fw (vJ (f+1)) (J4 (e:=D3.wrap ((f:Int)+1)) yk f4) (Mz Z (G2 ?_)))
 have oJ:=oH.px [0,8,7] [11] []
 exact Kb (f+1,g.a.r,g.a.y,g.a.u,g.a.z,g.a.k,jG,iA,g.a.b.a,jH,iB,jI,g.a.g.a,jK,iC,g.a.j.a,g.a.t,g.a.B,g.a.s.a,g.a.s.b,g.a.a.k,g.a.a.s,g.a.a.a,g.a.a.j.a,g.a.a.j.b,jL,jM,nX,g.b.a,nY,nZ,og,iy.a.a,dh,bq,Z4) ⟨Z,Z,Z,Z,Z,Z,Z,ZV⟩ (aU.2 ⟨oJ,by exact fK,by exact iD,by exact iE,U,by first | assumption | exact dS f8,by first | assumption | exact rP f8 f8 f8,by first | omega | exact(Rs.tk f8).n | exact(dS f8).tk.n,by first | omega | (dsimp only; omega) | (simp only [L0]; omega),Eq.trans (Z1) (Eq.trans (congrArg (λ q=>dQ af q C E F G I u p r J K L M Z5 Z6 P Q R t B j) ag) (Eq.trans (ZK S) (Eq.trans (ZK aD) (Eq.trans (ae Z2) (Eq.trans (ae ah) (Eq.trans (ZJ Z7) (Eq.trans (ae bz) (Eq.trans (eD bG) (Eq.trans (ae dm) (Eq.trans (ae aW) (Eq.trans (ZK aR) (Eq.trans (eD Z0) (Eq.trans (ae fM) (Eq.trans (ae fO) (ZJ fC)))))))))))))))⟩) (by show X l1 - (f+1) < X l1 - f; omega)
 refine jT (cn fC) (JS ?_)
 have oK:=iJ.pk [4,5,6,7,8,9,10,11,12,13,14,20,21]
 refine JW (An Z (rt (bR (tR (tR (bR (tR (rs ?_))))))))
 have oL:=oK.pk []
 obtain rfl:_=O:=zj hr (V (ae aA) (V (ae aC) (V (ip ay) (V (iN aK) (V (iN bS) (V (ae aZ) (V (ip bg) (V (ae aL) (iX (V (Z1) (V (ZX (λ q=>dQ af q C E F G I u p r J K L M Z5 Z6 P Q R t B j) ag) (V (iN S) (V (iN aD) (V (ae Z2) (V (ae ah) (V (ip Z7) (V (ae bz) (V (eD bG) (V (ae dm) (V (ae aW) (V (iN aR) (V (eD Z0) (V (ae fM) (V (ae fO) (eD fC)))))))))))))))))))))))))
 exact⟨Z,oL⟩
 refine Sz (dF Z7) (Sz (dF Z7) (Sz (dF Z7) (Sz (dF Z7) (Sz (dF Z7) (fw (Y O) (JU Z (dF Z7) Z) (nt (jf (sk (JS ?_)))))))))
 have oM:=bu.px [] [1,2,3,4] []
 refine JW (Mz Z ?_)
 have fD:=oM.pf [1]
 have sO:=zr 2 fD
 have sP:=zr 3 fD
 have sS:=zr 5 fD
 obtain⟨ak,dn⟩:∃ q,gJ d=q:=⟨_,Z⟩
 obtain⟨vE,lN,sU,lQ,eu⟩:=Kt fD
 refine cl Y5 (lW _ _ Z3 d eQ cK eT cZ eX eY df eZ fe az aM ak lN (eu _ 1 _ Z bB) U bv (eu _ 2 _ Z bB) U (λ x9 Z8=>⟨eu _ 3 _ Z (bL (P6.2 ⟨x9,Z8,b3⟩) bB),di (φ:=λ _=>_) fD (i:=4) Z (bL (P6.2 ⟨x9,Z8,b3⟩) dD)⟩) (eu _ 4 _ Z bB) U g5 (by first | assumption | exact Tk.hops f8 | exact(Rs.tk f8).hops) dn) ?_
 rintro _ vF ⟨gF,fE,gG,fG,gH,fH,oN,rfl,lS,iK⟩
 have gI:=lQ _ _ lS
 have sV:=bf iK
 have sW:=zr 0 gI
 have sZ:=zr 1 gI
 have tq:=zr 3 gI
 refine cB (fV 0 0 0 0 0 Zk 0 0 Zk 0 0 Zk 0 0 0 0 [] [] 0 0 0 [] []) 42 gI ?_
 intro vG vH oO
 refine cu (gZ ak gF fE gG fG gH fH) 0 oO S0 ?_
 intro vK jR
 refine ns (Mz Z (Kz (vP aN 0) (La (bM.L a.a) jR 16 I0 I2 ?_)))
 have jS:=jR.pf [5,7,8,9,10,11,12,6,13,14,15]
 have tu:=zr 18 jS
 obtain⟨⟨av,jU,h,iL⟩,aX⟩:∃ q:bY × Int × aB × bn,dL d (cz.q a.a.g a.a.D a.a.E a.a.J a.a.F a.a.I a.a.G a.a.y a.a.r a.a.t a.a.u a.a.z a.a.k a.a.s a.a.C a.a.H a.a.j (N a.a.a.a) (N (s0 aQ.abs a.a.B.a)) (N a.a.b.a)) (StoreT.q (N Z4)) bi=q:=⟨_,Z⟩
 obtain⟨vL,lT,eB,lU,lV⟩:=KT jS
 refine cl Y4 (jv _ _ Z3 d eQ cK eT cZ eX eY df eZ fe gP (cz.q a.a.g a.a.D a.a.E a.a.J a.a.F a.a.I a.a.G a.a.y a.a.r a.a.t a.a.u a.a.z a.a.k a.a.s a.a.C a.a.H a.a.j (N a.a.a.a) (N (s0 aQ.abs a.a.B.a)) (N a.a.b.a)) a.a.a.A (X a.a.a.a) a.a.a.c a.a.B.A (X a.a.B.a) a.a.B.c a.a.B.a a.a.b.A (X a.a.b.a) a.a.b.c az (StoreT.q (N Z4)) dh bq aM bi gQ gT gU av jU h iL lT bv dY Z (eB _ (aJ _ (G4 l)).1) U (Z:s0 aQ.abs a.a.B.a=s0 aQ.abs a.a.B.a) g7 (λ w9 Z8=>BR (bf (Z:s0 aQ.abs a.a.B.a=s0 aQ.abs a.a.B.a)) ((eB _ (aJ _ (G4 l)).2.2.1) w9 Z8)) U (λ x9 Z8=>⟨eB _ ((aJ _ (G4 l)).2.2.2.2.1 x9 Z8).1,((aJ _ (G4 l)).2.2.2.2.1 x9 Z8).2⟩) Z (eB _ (aJ _ (G4 l)).2.2.2.2.2.1) U (lV _ 7 _ Z bB) U dZ (by first | assumption | exact Rs.tk f8 | (dsimp only; exact(dS f8).tk)) (by first | assumption | exact Rs.gt f8 | (dsimp only; exact(dS f8).gt)) (by first | omega | exact Tk.n f8 | exact(Rs.tk f8).n | (dsimp only; exact(dS f8).tk.n)) (by first | omega | exact Tk.rows f8 | exact(Rs.tk f8).rows | (dsimp only; exact(dS f8).tk.rows)) f2 f2 f2 aX) ?_
 rintro _ vM ⟨jV,jW,jX,jY,vN,jZ,iM,j3,iO,j4,j5,iP,kg,kr,oP,oQ,oU,oV,rfl,lX,lY,fP,iQ,iR⟩
 have bP:=lU _ _ lX
 have tC:=bf lY
 have tF:=bf fP
 have tH:=bf iQ
 have tJ:=bf iR
 have tK:=zr 0 bP
 have tL:=zr 2 bP
 have tN:=zr 4 bP
 have tQ:=zr 5 bP
 have tT:=zr 7 bP
 have tV:=zr 8 bP
 have tX:=zr 12 bP
 obtain⟨iT,iU⟩:=om (m:=d) (tb:=bi) i0 g4 g4 aX
 replace iT:Rs h.b.a h.a.g.a h.a.j.a iL.a.a:=iT
 replace iU:X h.a.b.a<=6/\X h.a.j.a<=X d.a.j.a+1/\X av.a.a<=42/\X h.b.a+X h.a.g.a<=6:=iU
 have tY:Dv h.b.a h.a.g.a Z4:=zk (m:=d) aX f8 f8 g4 g4
 refine Mz Z (Kz (Zq #[T jV (X av.b.a) jW, T jX (X av.a.a) jY, Y av.g]) (Kz (vI jU) ?_))
 refine cB [T Zk 0 0, T Zk 0 0, Y O] 52 bP ?_
 intro ku vO oW
 refine cu [T jV (X av.b.a) jW, T jX (X av.a.a) jY, Y av.g] 0 oW Y1 ?_
 intro vQ oZ
 refine An Z (JS ?_)
 have o5:=oZ.px [] [20] []
 refine kL 22 [] (J6 (bJ.block (J6 (J6 (bJ.block (J6 Kg)))))) o5 ?_
 intro vR iV
 refine qp ku 1 0 Z (ql 1 Z 0 Q9 Z Z Z (qk (vJ (X av.a.a)) 2 Z (qk (Za ((X av.a.a:Int) > 0)) 3 Z (qv 4 Z Z ?_))))
 by_cases aT:(X av.a.a:Int) > 0
 refine JV (rs:= []) 5 Z Z Z (dT aT) f1 (JV (rs:= []) 6 Z Z Z (dT aT) f1 (qt (v:= Y Zj) 7 Z (λ _ _=>JX Z (dT aT) Z) (qv 8 Z Z (JV (rs:= []) 9 Z Z Z Z f1 (JV (rs:= []) 10 Z Z Z Z f1 (JV (rs:= []) 11 Z Z Z Z f1 (JV (rs:= []) 12 Z Z Z Z f1 (JV (rs:= []) 13 Z Z Z Z f1 (qt (v:= Y Zj) 14 Z (λ _ _=>QJ Z) (qn (JY (jt (JS ?_)))))))))))))
 have o6:=iV.px [] [0,1,2,3,15,16,17,18,19] []
 refine JW (An Z (rt (bR (tR (tR (bR (tR (rs ?_))))))))
 have o7:=o6.pk []
 obtain rfl:_=O:=zj hr (V (ae aA) (V (ae aC) (V (ip ay) (V (iN aK) (V (iN bS) (V (ae aZ) (V (ip bg) (V (ae aL) (iX (V (Z1) (V (ZX (λ q=>dQ af q C E F G I u p r J K L M Z5 Z6 P Q R t B j) ag) (V (iN S) (V (iN aD) (V (ae Z2) (V (ae ah) (V (iN Z7) (V (ae dn) (V (ae aX) (ip aT)))))))))))))))))))
 exact⟨Z,o7⟩
 refine J2 (v:=vP ku 2) (rs:= []) 5 Z Z Z (dF aT) f1 (λ _ _=>yk) (J2 (v:= Y av.g) (rs:= []) 6 Z Z Z (dF aT) f1 (λ _ ⟨_,H9⟩=>J5 Z (bO.one Tryz.isAgg4 (Kw (H9.cls (i:=0) Z) Z))) (qt (v:= Y av.g) 7 Z (λ _ _=>JU Z (dF aT) Z) (qv 8 Z Z ?_)))
 rcases Nv (av.g) with aa | aa
 refine JV (rs:= []) 9 Z Z Z aa f1 (JV (rs:= []) 10 Z Z Z aa f1 (JV (rs:= []) 11 Z Z Z aa f1 (JV (rs:= []) 12 Z Z Z aa f1 (JV (rs:= []) 13 Z Z Z aa f1 (qt (v:= Y Zj) 14 Z (λ _ _=>JX Z aa Z) (qn (JY (jt (JS ?_)))))))))
 have o8:=iV.px [] [0,1,2,3,15,16,17,18,19] []
 refine JW (An Z (rt (bR (tR (tR (bR (tR (rs ?_))))))))
 have o9:=o8.pk []
 obtain rfl:_=O:=zj hr (V (ae aA) (V (ae aC) (V (ip ay) (V (iN aK) (V (iN bS) (V (ae aZ) (V (ip bg) (V (ae aL) (iX (V (Z1) (V (ZX (λ q=>dQ af q C E F G I u p r J K L M Z5 Z6 P Q R t B j) ag) (V (iN S) (V (iN aD) (V (ae Z2) (V (ae ah) (V (iN Z7) (V (ae dn) (V (ae aX) (V (iN aT) (ip aa))))))))))))))))))))
 exact⟨Z,o9⟩
 refine J2 (v:= Zq (Zb (gZ ak gF fE gG fG gH fH))) (rs:= []) 9 Z Z Z aa f1 (λ _ ⟨_,H9⟩=>J5 Z (J7 (cs:=(gZ ak gF fE gG fG gH fH)) X4 S0 ((H9.cls (i:=15) Z).lit (k:=0) (m:=17) Z))) (J2 (v:=vP Z3 0) (rs:= []) 10 Z Z Z aa f1 (λ _ _=>J3 Z) ?_)
 have fI:=iV.pf [4]
 have tZ:=zr 5 fI
 have uf:=zr 6 fI
 have ug:=zr 8 fI
 obtain⟨aI,fQ⟩:∃ q,gJ h=q:=⟨_,Z⟩
 obtain⟨vS,lZ,uh,l5,eF⟩:=Kt fI
 refine KG 11 Z Z Z aa f1 (Ki Y5 Z (lW _ _ Z3 h jZ iM j3 iO j4 j5 iP kg kr az aM aI lZ (eF _ 4 _ Z bB) U fP (eF _ 5 _ Z bB) U (λ x9 Z8=>⟨eF _ 6 _ Z (bL (P6.2 ⟨x9,Z8,b3⟩) bB),di (φ:=λ _=>_) fI (i:=7) Z (bL (P6.2 ⟨x9,Z8,b3⟩) dD)⟩) (eF _ 7 _ Z bB) U g5 (by first | assumption | exact Tk.hops f8 | exact(Rs.tk f8).hops) fQ) ?_)
 rintro _ vT ⟨pg,kv,pq,kw,pu,ky,pz,rfl,l6,iW⟩
 have gK:=l5 _ _ l6
 have ui:=bf iW
 have uj:=zr 0 gK
 have uk:=zr 1 gK
 have ul:=zr 3 gK
 have gL:=gK.px [5,6,7,8] [] [0,1,2,3]
 refine⟨.inr ⟨_,gL⟩, ?_⟩
 obtain⟨gM,fT⟩:∃ q,mh ak aI=q:=⟨_,Z⟩
 obtain⟨vV,l7,um,l9,aP⟩:=JZ gL
 refine KG 12 Z Z Z aa f1 (Ki Tryz.call12 Z (uW _ _ ak gF (X ak.b.a) fE gG (X ak.g.a) fG oN gH (X ak.j.a) fH aI pg (X aI.b.a) kv pq (X aI.g.a) kw pz pu (X aI.j.a) ky gM l7 Z (aP _ 16 _ Z bB) U iK Z (aP _ 17 _ Z bB) U (λ x9 Z8=>⟨aP _ 18 _ Z (bL (P6.2 ⟨x9,Z8,b3⟩) bB),di (φ:=λ _=>_) gL (i:=18) Z (bL (P6.2 ⟨x9,Z8,b3⟩) dD)⟩) Z (aP _ 19 _ Z bB) U Z (aP _ 22 _ Z bB) U iW Z (aP _ 23 _ Z bB) U (λ x9 Z8=>⟨aP _ 24 _ Z (bL (P6.2 ⟨x9,Z8,b3⟩) bB),di (φ:=λ _=>_) gL (i:=24) Z (bL (P6.2 ⟨x9,Z8,b3⟩) dD)⟩) Z (aP _ 25 _ Z bB) U fT) ?_)
 rintro _ vW ⟨rfl,mf⟩
 have iY:=l9 _ _ mf
 refine⟨.inr ⟨_,iY⟩, ?_⟩
 refine J2 (v:= Y (!gM)) (rs:= []) 13 Z Z Z aa f1 (λ _ _=>yk) (qt (v:= Y (!gM)) 14 Z (λ _ _=>JU Z aa Z) (qn (JY ?_)))
 rcases Nv (gM) with fJ | fJ
 refine jF (cn fJ) (Ko (bN (JY ?_)))
 have pE:=iY.pk [4,5,6,7,8,9,10,11,12,13,14,20,21]
 refine JW (fw (vJ (f+1)) (J4 (e:=D3.wrap ((f:Int)+1)) yk f4) (Mz Z (G2 ?_)))
 have pF:=pE.px [0,8,7] [11] []
 exact Kb (f+1,h.a.r,h.a.y,h.a.u,h.a.z,h.a.k,jZ,iM,h.a.b.a,j3,iO,j4,h.a.g.a,j5,iP,h.a.j.a,h.a.t,h.a.B,h.a.s.a,h.a.s.b,h.a.a.k,h.a.a.s,h.a.a.a,h.a.a.j.a,h.a.a.j.b,kg,kr,oP,h.b.a,oQ,oU,oV,iL.a.a,dh,bq,Z4) ⟨Z,Z,Z,Z,Z,Z,Z,ZV⟩ (aU.2 ⟨pF,by exact fP,by exact iQ,by exact iR,U,by first | assumption | exact dS f8,by first | assumption | exact rP f8 f8 f8,by first | omega | exact(Rs.tk f8).n | exact(dS f8).tk.n,by first | omega | (dsimp only; omega) | (simp only [L0]; omega),Eq.trans (Z1) (Eq.trans (congrArg (λ q=>dQ af q C E F G I u p r J K L M Z5 Z6 P Q R t B j) ag) (Eq.trans (ZK S) (Eq.trans (ZK aD) (Eq.trans (ae Z2) (Eq.trans (ae ah) (Eq.trans (ZK Z7) (Eq.trans (ae dn) (Eq.trans (ae aX) (Eq.trans (ZK aT) (Eq.trans (eD aa) (Eq.trans (ae fQ) (Eq.trans (ae fT) (ZJ fJ)))))))))))))⟩) (by show X l1 - (f+1) < X l1 - f; omega)
 refine jT (cn fJ) (JS ?_)
 have pG:=iY.pk [4,5,6,7,8,9,10,11,12,13,14,20,21]
 refine JW (An Z (rt (bR (tR (tR (bR (tR (rs ?_))))))))
 have pI:=pG.pk []
 obtain rfl:_=O:=zj hr (V (ae aA) (V (ae aC) (V (ip ay) (V (iN aK) (V (iN bS) (V (ae aZ) (V (ip bg) (V (ae aL) (iX (V (Z1) (V (ZX (λ q=>dQ af q C E F G I u p r J K L M Z5 Z6 P Q R t B j) ag) (V (iN S) (V (iN aD) (V (ae Z2) (V (ae ah) (V (iN Z7) (V (ae dn) (V (ae aX) (V (iN aT) (V (eD aa) (V (ae fQ) (V (ae fT) (eD fJ)))))))))))))))))))))))
 exact⟨Z,pI⟩
 refine jF (dF ji) (H0 (Ka ?_))
 have mg:dQ af l1 b.r (W (H3.wrap ((b.y:Int)+1))) b.u b.z b.k b.b.a b.g.a b.j.a b.t b.B b.s.a b.s.b b.a.k b.a.s b.a.a b.a.j.a b.a.j.b [] [] l0=G0 ():=V (Z1) (V (ZX (λ q=>dQ af q C E F G I u p r J K L M Z5 Z6 P Q R t B j) (eU (ls:=l1) (i:=f) U)) Z)
 refine Ka (Kh (JY (JS ?_)))
 have pJ:=eG.pk []
 refine JW (Mz Z (An Z (rt (rs ?_))))
 have pK:=pJ.pk []
 obtain rfl:_=af:=zj hr (V (ae aA) (V (ae aC) (V (ip ay) (V (iN aK) (V (iN bS) (V (ae aZ) (V (ip bg) (V (ae aL) (kH mg)))))))))
 exact⟨Z,pK⟩
 refine Sz (dT bg) (Sz (dT bg) (fw (Y Zj) (JX Z (dT bg) Z) (nt (jt (sr (Az Z (An Z (rt (tR (Ke (lw Z Z Z) (Mz Z (Kz (Zz Zk) (Kz (vI 1) (Az Z (An Z (JS (JS ?_)))))))))))))))))
 have pM:=kG.pk [2,3]
 refine JW (Mz Z (Kz (Y Zj) (Mz Z (QQ (QQ (fw (Y Zj) (QJ Z) (nt (jt (sr (An Z (rt (tR (rs ?_)))))))))))))
 have pO:=pM.pk []
 obtain rfl:=zj hr zq7
 exact⟨Z,pO⟩
 refine Sz (dT ay) (Sz (dT ay) (Sz (dT ay) (fw (Y Zj) (JX Z (dT ay) Z) (Mz Z (QQ (QQ (QQ (fw (Y Zj) (QJ Z) (nt (jt (sr (Mz Z (An Z (rt (tR (rs ?_))))))))))))))))
 have pQ:=jb.pk []
 obtain rfl:=zj hr zq3
 exact⟨Z,pQ⟩
end
theorem FT:wR=Zj:=by decide+kernel
theorem Il {w:ZZ} {l:List jJ} (h:∀ x ∈ l,LG w x):∀ x ∈ Zh jJ.abs l,x.a.r<=18446744073709551615/\X x.a.a.a<=140737488351232/\X x.a.B.a<=140737488351232/\X x.a.b.a<=140737488351232:=λ x hx=>by
  obtain⟨y,hy,rfl⟩:=List.mem_map.1 hx
  have k:=(h y hy).1
  have o:=k.2.2.2.2.2.2.2.2.2.2.2.2.2.2.2.2.2.1
  have r:=k.2.2.2.2.2.2.2.2.2.2.2.2.2.2.2.2.2.2.1
  have v:=k.2.2.2.2.2.2.2.2.2.2.2.2.2.2.2.2.2.2.2
  refine⟨k.2.2.2.2.2.2.2.2.1, ?_, ?_, ?_⟩
  . show X y.a.a.a<=_
    have a:=o.1; have b:=o.2.1; omega
  . show X (Zh aQ.abs y.a.B.a)<=_
    rw [List.length_map]; have a:=r.1; have b:=r.2.1; omega
  . show X y.a.b.a<=_
    have a:=v.1; have b:=v.2.1; omega
theorem FU {n:Nat}:∀ {l:List cz},(∃ v ∈ l,v.g=4/\v.r=n/\v.F=5)->jY n l= .inr Zj
  | [],⟨v,hv,_⟩=>absurd hv List.not_mem_nil
  | x::l,⟨v,hv,b,d,f⟩=>by
    unfold jY
    by_cases c:x.g=4/\x.r=n/\x.F=5
    . rw [ZJ c.1,ZJ U,ZJ c.2.2]
    . have i:jY n l= .inr Zj:=FU (by
        rcases List.mem_cons.1 hv with e | e
        . subst e; exact absurd ⟨b,d,f⟩ c
        . exact⟨v,e,b,d,f⟩)
      by_cases a:x.g=4
      . by_cases g:(x.r:Int)=(n:Int)
        . rw [ZJ a,ZJ g,ZK (λ h=>c ⟨a,U,h⟩)]; exact i
        . rw [ZJ a,ZK g]; exact i
      . rw [ZK a]; exact i
theorem Im {d:bY} {n:Nat} (h: ¬ tO d n=Zj): ¬ ∃ v ∈ d.b.a,v.g=4/\v.r=n/\v.F=5:=λ q=>h (by unfold tO; rw [FU q]; rfl)
theorem sS (b:Bool):∀ (l:List StepT) (i:Int) (bo ve ep mo:Nat) (ow:List bF) (hs:List dG) (fin:List Nat) (low fr:Nat) (cl ch:List UInt8) (im ia inn:Nat) (il ih:List UInt8) (ws:List bK) (rs:List aS) (M:List aG),
    Rs ws hs fin rs->Dv ws hs M->X fin+2 *X l<=999->X ow<=6->dQ b l i bo ve ep mo ow hs fin low fr cl ch im ia inn il ih ws rs M= .inl ()
  | [],i,bo,ve,ep,mo,ow,hs,fin,low,fr,cl,ch,im,ia,inn,il,ih,ws,rs,M,_,_,_,_=>rfl
  | x::q,i,bo,ve,ep,mo,ow,hs,fin,low,fr,cl,ch,im,ia,inn,il,ih,ws,rs,M,hR,hD,hf,ho=>by
    rw [List.length_cons] at hf
    unfold dQ
    by_cases u:x.a.g=0
    . rw [ZJ u]; exact sS b q i bo ve ep mo ow hs fin low fr cl ch im ia inn il ih ws rs M hR hD U ho
    rw [ZK u]
    by_cases j:x.a.g=10
    . rw [ZJ j]; exact sS b q i bo ve ep mo ow hs fin low fr cl ch im ia inn il ih ws rs M hR hD U ho
    rw [ZK j,bI]
    generalize ht:dL _ _ _ _=v
    obtain⟨d,e,m1,n⟩:=v
    generalize ha:qz M d.a.a=z
    obtain⟨M',J,f⟩:=z
    have hfin:X fin<=999:=U
    have k:=vz (m:=(aB.q (bH.q i bo ve ep mo (Ll.q ow) (Ll.q hs) (Ll.q fin) low fr (ai.q cl ch) (fF.q im ia inn (ai.q il ih))) (Ll.q ws))) hR hfin ho ht
    have w:=Ea (m:=(aB.q (bH.q i bo ve ep mo (Ll.q ow) (Ll.q hs) (Ll.q fin) low fr (ai.q cl ch) (fF.q im ia inn (ai.q il ih))) (Ll.q ws))) ht ha hR hD hfin ho
    have kf:X m1.a.j.a<=X fin+1:=k.b
    have tail:(x.a.g=3->¬ ∃ v ∈ d.b.a,v.g=4/\v.r=x.a.r/\v.F=5)->(bnd (gJ m1) λ y=>bnd (dL m1 (cz.q x.a.g x.a.D x.a.E x.a.J x.a.F x.a.I x.a.G x.a.y x.a.r x.a.t x.a.u x.a.z x.a.k x.a.s x.a.C x.a.H x.a.j (Ll.q x.a.a.a) (Ll.q x.a.B.a) (Ll.q x.a.b.a)) (StoreT.q (Ll.q M')) n) λ c=>if((X c.1.a.a:Nat):Int) > 0 then Sum.inr (O) else if c.1.g=Zj then Sum.inr (O) else bnd (gJ c.2.2.1) λ A=>bnd (mh y A) λ B=>if B=Zj then dQ b q c.2.2.1.a.r c.2.2.1.a.y c.2.2.1.a.u c.2.2.1.a.z c.2.2.1.a.k c.2.2.1.a.b.a c.2.2.1.a.g.a c.2.2.1.a.j.a c.2.2.1.a.t c.2.2.1.a.B c.2.2.1.a.s.a c.2.2.1.a.s.b c.2.2.1.a.a.k c.2.2.1.a.a.s c.2.2.1.a.a.a c.2.2.1.a.a.j.a c.2.2.1.a.a.j.b c.2.2.1.b.a c.2.2.2.a.a M' else Sum.inr (O))=(.inl ():Unit ⊕ Bool):=λ hnd=>by
      rw [bI,bI]
      generalize p:dL _ _ _ _=C
      obtain⟨a,K,g,r⟩:=C
      have o:X m1.a.j.a<=999:=U
      have k2:=vz k.a o k.g p
      have D:Dv g.b.a g.a.g.a M':=zk p k.a w o k.g
      obtain⟨E,F,G⟩:=EB (m:=(aB.q (bH.q i bo ve ep mo (Ll.q ow) (Ll.q hs) (Ll.q fin) low fr (ai.q cl ch) (fF.q im ia inn (ai.q il ih))) (Ll.q ws))) ht p hR hD hfin ho hnd
      have H:X g.a.j.a<=X m1.a.j.a+1:=k2.b
      simp only
      rw [ZK (by rw [E]; decide),ZK (by rw [F]; decide),bI,bI]
      have I:gJ g=gJ m1:=by unfold gJ; rw [G]
      rw [I,Ig,ZJ Z]
      exact sS b q g.a.r g.a.y g.a.u g.a.z g.a.k g.a.b.a g.a.g.a g.a.j.a g.a.t g.a.B g.a.s.a g.a.s.b g.a.a.k g.a.a.s g.a.a.a g.a.a.j.a g.a.a.j.b g.b.a r.a.a M' k2.a D U k2.g
    rw [bI]
    dsimp only
    by_cases s:x.a.g=3
    . rw [ZJ s,bI]
      by_cases t:tO d x.a.r=Zj
      . rw [ZJ t]
        exact sS b q m1.a.r m1.a.y m1.a.u m1.a.z m1.a.k m1.a.b.a m1.a.g.a m1.a.j.a m1.a.t m1.a.B m1.a.s.a m1.a.s.b m1.a.a.k m1.a.a.s m1.a.a.a m1.a.a.j.a m1.a.a.j.b m1.b.a n.a.a M' k.a w U k.g
      . rw [ZK t]
        exact tail λ _=>Im t
    . rw [ZK s]
      exact tail λ h=>absurd h s
theorem Dl {a:List aG} {l1:List StepT}:sQ a l1=Zj:=by
  unfold sQ
  refine(ae FT).trans ?_
  rw [bI]
  by_cases hc:l8 a=0
  . rw [ZJ hc]
    by_cases b:(X a:Int) > 60
    . rw [ZJ b]
    rw [ZK b]
    by_cases c:(X l1:Int) > 60
    . rw [ZJ c]
    rw [ZK c]
    refine(ae (show ma (bH.q 1 0 0 1 0 (Ll.q ([(bF.q [] 1),(bF.q ([109]) 2)])) (Ll.q []) (Ll.q []) 0 0 (ai.q [] []) (fF.q 0 0 0 (ai.q [] [])))=0 by decide+kernel)).trans ?_
    rw [ZJ Z]
    refine(ae Z).trans ?_
    exact kH (sS Zj l1 _ _ _ _ _ _ _ _ _ _ _ _ _ _ _ _ _ _ _ _ (dS Z) (rP Z Z hc) (by show 0+2 *X l1<=999; omega) (by show 2<=6; omega))
  . rw [ZK hc]
section
open Go.RowKit
theorem Bz (w) (h:Sv aG) (f:nK w 2 32 aG.L (Lr w) h) (g:Sv jJ) (a:nK w 22 240 jJ.L (LG w) g):
    Calls Tryz.prog 3 #[T h.A (X h.a) h.c, T g.A (X g.a) g.c] w λ e w'=>e= .returned (Y Zj)/\Below w.heap.size w w':=
 (yc w (λ _:Nat=>False) h.A (X h.a) h.c h.a g.A (X g.a) g.c g.a (Zh jJ.abs g.a) Zj (Mw w) (bV.ro f.2.2.1 f7) Z (by have:=f.1; have:=f.2.1; omega) Z (bV.ro a.2.2.1 f7) (λ b d=>⟨bV.ro (a.2.2.2 b d).1.2.2.2.2.2.2.2.2.2.2.2.2.2.2.2.2.2.1.2.2.1 f7,(by have i:=(a.2.2.2 b d).1.2.2.2.2.2.2.2.2.2.2.2.2.2.2.2.2.2.1.1; have j:=(a.2.2.2 b d).1.2.2.2.2.2.2.2.2.2.2.2.2.2.2.2.2.2.1.2.1; omega),bV.ro (a.2.2.2 b d).1.2.2.2.2.2.2.2.2.2.2.2.2.2.2.2.2.2.2.1.2.2.1 f7,(by have i:=(a.2.2.2 b d).1.2.2.2.2.2.2.2.2.2.2.2.2.2.2.2.2.2.2.1.1; have j:=(a.2.2.2 b d).1.2.2.2.2.2.2.2.2.2.2.2.2.2.2.2.2.2.2.1.2.1; omega),(λ k l=>⟨bV.ro ((a.2.2.2 b d).1.2.2.2.2.2.2.2.2.2.2.2.2.2.2.2.2.2.2.1.2.2.2 k l).2.2.2.2.1 f7,(by have i:=((a.2.2.2 b d).1.2.2.2.2.2.2.2.2.2.2.2.2.2.2.2.2.2.2.1.2.2.2 k l).2.2.1; have j:=((a.2.2.2 b d).1.2.2.2.2.2.2.2.2.2.2.2.2.2.2.2.2.2.2.1.2.2.2 k l).2.2.2.1; omega)⟩),bV.ro (a.2.2.2 b d).1.2.2.2.2.2.2.2.2.2.2.2.2.2.2.2.2.2.2.2.2.2.1 f7,(by have i:=(a.2.2.2 b d).1.2.2.2.2.2.2.2.2.2.2.2.2.2.2.2.2.2.2.2.1; have j:=(a.2.2.2 b d).1.2.2.2.2.2.2.2.2.2.2.2.2.2.2.2.2.2.2.2.2.1; omega)⟩) (r5 ..).symm (by rw [r5]; have:=a.1; have:=a.2.1; omega) (by have:=f.1; have:=f.2.1; omega) (by rw [r5]; have:=a.1; have:=a.2.1; omega) (Il a.2.2.2) (Dl)).mono λ e w' ⟨v,he,hv,H⟩=>⟨by rw [he,hv],H.below⟩
end
end Go.Proofs.YtnpdpklckacpnaaGreat
