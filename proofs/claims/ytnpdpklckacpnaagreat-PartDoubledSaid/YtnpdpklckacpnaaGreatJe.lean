/- The layers told, part 5. Conditions: none beyond each law's own. -/
import Derived.Test.YtnpdpklckacpnaaGreatJd
namespace Go.Proofs.YtnpdpklckacpnaaGreat
set_option maxHeartbeats 4000000
set_option maxRecDepth 100000
set_option linter.unusedVariables false
set_option linter.unusedSimpArgs false
set_option linter.unusedSectionVars false
open _root_.Go renaming World->ZZ,Value->ZQ
open Value renaming bool->Y,slice->T,string->Z9,pointer->Zz,agg->Zq,nilFunc->Zx
open Bool renaming true->Zj,false->O
open Option renaming none->Zk,some->Zv
open Decidable renaming decide->Zw
open Inhabited renaming default->Zy
open List renaming length->X,toArray->Zb,drop->Ze,take->Zf,flatMap->Zg,map->Zh
open Int renaming toNat->Zc
open Bool renaming toNat->Zd
open Int renaming toNat->W
open IntKind renaming i64->D3,u64->H3
open List renaming drop->r8,flatMap->q1,flatMap_append->u3,length_append->o3,length_cons->q6,length_nil->L0,map->s0
open Ll renaming q->N
open Sum renaming inl->G0,inr->G1
open Sv renaming q->O4
open _root_.Go.Proofs.Tryz renaming call144->V3,call145->V4,call35->V9,call80->V6,call94->V1,func80->V7,func94->V2,isAgg3->B8,isAgg30->S5,isAgg33->E0,isAgg34->R8,isAgg38->C6,isAgg44->Q9,isAgg47->I0,isAgg50->W0,prog->y3,sizeOf3->V8,sizeOf33->I3,sizeOf38->C5,sizeOf40->V5,sizeOf44->S6,sizeOf47->I2,sizeOf50->W1,underlying218->V0,underlying38->C4,underlying44->Q8,underlying50->S7,underlying9->B3
open WL renaming nil->G2
open Wp renaming exit->H0,loop->G3
section
open Go.RowKit
def rF (c:List bF) (d:Int):ai × Int:=
 bnd (lq c) λ a=>if a=0 then if d < 0 then(ai.q [] [],5) else if d >= ((X c:Nat):Int) then(ai.q [] [],5) else bnd (pK c d) λ b=>(b,0) else(ai.q [] [],a)
theorem zf (w D p J I b g) (S:ai) (K) (H:Own w D w []) (r:Ro w D λ w'=>bV w' 2 p J (q1 bF.L b)) (L:J=X b) (Z4:X b *24<=211106232532992) (hr:rF b g=(S,K)):
    Calls y3 184 #[T p J I,vI g] w (dI λ v w'=>v= .tuple #[Zq (Zb (ai.L S)),vI K]/\Own w D w' []/\(¬ (K=0)\/(0<=g/\g < ((X b:Nat):Int)/\X b<=6))):=by
 unfold rF at hr
 subst L
 refine cb Tryz.func184 ?_
 refine sr ?_
 refine cB [Z9 ⟨Zb []⟩, Z9 ⟨Zb []⟩] 38 H ?_
 intro _ _ M
 refine An Z (JS (sr (Mz Z ?_)))
 obtain⟨d,c⟩:=qq (lq b)
 obtain⟨_,s,t,u,_⟩:=JZ M
 refine cl Tryz.call29 (qG _ _ p (X b) I b d s (t _ r) Z U c) ?_
 rintro _ _ ⟨rfl,x,n⟩
 have j:=u _ _ x
 replace n:=n
 refine Ar Z (Mz Z (fw (Za (¬ (d=0))) (Kc (e:= !(Zw (d=0))) yk ZW) (nt ?_)))
 by_cases f:d=0
 refine jF (dF (Nu f)) (sk (JS (sr (Mz Z (Kz (Za (g < 0)) (Mz Z ?_))))))
 by_cases a:g < 0
 refine Sz (dT a) (Sz (dT a) (Sz (dT a) (Sz (dT a) (fw (Y Zj) (JX Z (dT a) Z) (nt (jt (sr (Kz (Zq #[Z9 ⟨Zb []⟩, Z9 ⟨Zb []⟩]) (cu [Z9 ⟨Zb []⟩, Z9 ⟨Zb []⟩] 0 j C5 ?_)))))))))
 intro _ y
 refine An Z (rt (tR (Ke (fQ (vs:= [Zq #[Z9 ⟨Zb []⟩, Z9 ⟨Zb []⟩],vI 5]) Z (bS.cell Z (J7 (cs:= [Z9 ⟨Zb []⟩, Z9 ⟨Zb []⟩]) C6 C5 ((y.cls (i:=0) Z).lit (k:=0) (m:=2) Z)) (bS.tmp Z bS.nil)) (Nr Z)) ?_)))
 obtain⟨rfl,rfl⟩:=fI (zj hr zq3)
 exact⟨Z,(y.pk []),U⟩
 refine gw (vI g) (dF a) (J3 Z) (gw (T p (X b) I) (dF a) (J3 Z) (Gz (vJ (X b)) (dF a) (Gz (Za (g >= (X b:Int))) (dF a) (fw (Za (g >= (X b:Int))) (JU Z (dF a) Z) (nt ?_)))))
 by_cases l:g >= (X b:Int)
 refine jT (dT l) (sr (Kz (Zq #[Z9 ⟨Zb []⟩, Z9 ⟨Zb []⟩]) (cu [Z9 ⟨Zb []⟩, Z9 ⟨Zb []⟩] 0 j C5 ?_)))
 intro _ z
 refine An Z (rt (tR (Ke (fQ (vs:= [Zq #[Z9 ⟨Zb []⟩, Z9 ⟨Zb []⟩],vI 5]) Z (bS.cell Z (J7 (cs:= [Z9 ⟨Zb []⟩, Z9 ⟨Zb []⟩]) C6 C5 ((z.cls (i:=0) Z).lit (k:=0) (m:=2) Z)) (bS.tmp Z bS.nil)) (Nr Z)) ?_)))
 obtain⟨rfl,rfl⟩:=fI (zj hr zq4)
 exact⟨Z,(z.pk []),U⟩
 refine jF (dF l) (sk (sr (Mz Z (Mz Z ?_))))
 obtain⟨h,o⟩:=qq (pK b g)
 obtain⟨_,A,B,C,_⟩:=JZ j
 refine cl Tryz.call146 (uM _ _ p (X b) I b g h A (B _ r) Z U U o) ?_
 rintro _ _ ⟨rfl,E⟩
 refine cu (ai.L h) 0 (C _ _ E) C5 ?_
 intro _ F
 refine An Z (rt (Ke (fQ (vs:= [Zq (Zb (ai.L h)),vI 0]) Z (bS.cell Z (J7 (cs:=(ai.L h)) C6 C5 ((F.cls (i:=0) Z).lit (k:=0) (m:=2) Z)) (bS.tmp Z bS.nil)) (Nr Z)) ?_))
 obtain⟨rfl,rfl⟩:=fI (zj hr zq5)
 exact⟨Z,(F.pk []),U⟩
 refine jT (dT f) (sr (Kz (Zq #[Z9 ⟨Zb []⟩, Z9 ⟨Zb []⟩]) (Mz Z (cu [Z9 ⟨Zb []⟩, Z9 ⟨Zb []⟩] 0 j C5 ?_))))
 intro _ G
 refine An Z (rt (tR (Ke (fQ (vs:= [Zq #[Z9 ⟨Zb []⟩, Z9 ⟨Zb []⟩],vI d]) Z (bS.cell Z (J7 (cs:= [Z9 ⟨Zb []⟩, Z9 ⟨Zb []⟩]) C6 C5 ((G.cls (i:=0) Z).lit (k:=0) (m:=2) Z)) (bS.tmp Z bS.nil)) (Nr Z)) ?_)))
 obtain⟨rfl,rfl⟩:=fI (zj hr zq2)
 exact⟨Z,(G.pk []),U⟩
theorem BH:Elem y3 218 38 2 32:=mV (z:= Zq #[Z9 ⟨Zb []⟩, Z9 ⟨Zb []⟩]) V0 f1 Z f7
def iT (e:List bF) (f:Int) (g:Bool):List bF->List ai->Nat->(List ai)
  | [],a,b=>a
  | h::d,a,b=>bnd (rF e ((b:Nat):Int)) λ c=>if c.2=0 then if(Zw (h.b=f))=g then iT e f g d (a++ [c.1]) (b+1) else iT e f g d a (b+1) else iT e f g d a (b+1)
def jw (a:List bF) (b:Int) (c:Bool):(List ai):=
 bnd (iT a b c a [] 0) λ sLrL=>sLrL
theorem tK (w D z Z7 I b h j J) (H:Own w D w []) (A:Ro w D λ w'=>bV w' 2 z Z7 (q1 bF.L b)) (Z3:Z7=X b) (aL:X b *24<=211106232532992) (aM:X b<=1000) (hr:jw b h j=J):
    Calls y3 144 #[T z Z7 I,vI h, Y j] w (dI λ v w'=> ∃ B0 b0,v= T B0 (X J) b0/\Own w D w' [row B0 (X J) b0 (q1 ai.L J) 38 2]/\(X J<=X b)):=by
 unfold jw at hr
 subst Z3
 refine cb Tryz.func144 ?_
 refine sr (Ar Z (An Z (JS (sr (Mz Z (Kz (vJ (X b)) (Mn Z (bo ?_))))))))
 have Z8:=(H.free (bW 38 2)).pf []
 obtain⟨Z1,l⟩:=uG λ p (r:Nat) c (a:Nat) w'=>Own w D w' [row p (X c) r (q1 ai.L c) 38 2]/\a<=X b/\X c<=a/\X c<=a/\iT b h j b [] 0=iT b h j (r8 a b) c a
 refine G3 (λ i:(Option Addr) × Nat × (List ai) × Nat=> [(7, T i.1 (X i.2.2.1) i.2.1),(14,vJ i.2.2.2),(13,vJ (X b)),(12, T z (X b) I),(6, T Zk 0 0),(0, T z (X b) I),(1,vI h),(2, Y j)]) Z1 (λ i=>X b - i.2.2.2) (Zk,0, [],0) ⟨Z,Z,Z,Z,Z,Z,Z,Z,ZV⟩ (l.2 ⟨Z8,(show 0<=X b/\0<=0/\0<=0/\iT b h j b [] 0=iT b h j (r8 0 b) [] 0 from ⟨U,U,U,Z⟩)⟩) ?_
 rintro ⟨p,r,c,a⟩ _ K
 obtain⟨t,_,_,_,n⟩:=l.1 K
 refine sr (Kz (Za ((a:Int) < (X b:Int))) (nt (JS ?_)))
 by_cases L:(a:Int) < (X b:Int)
 obtain⟨f,E⟩:=dM (ls:=b) (i:=a) bF.len f7 (t.ro A) f5
 have u:=drop_at E
 refine jT (dT L) (sk (JS (bo (sr (Mz Z (fw (Zz (Zv ⟨ab z,ao z+a *2,Zk⟩)) (J9 (r9) Z Z ((t.ro A).addr (i:=a) U) U) (fw (Zq (Zb (bF.L f))) (J5 Z (J7 (cs:=(bF.L f)) Tryz.isAgg83 Tryz.sizeOf83 ((t.ro A).elem bF.len E f7))) (cB [Z9 ⟨Zb []⟩,vI 0] 83 t ?_))))))))
 intro Z2 _ Z0
 refine Az Z (cu (bF.L f) 0 Z0 Tryz.sizeOf83 ?_)
 intro _ aa
 refine ns (Mz Z (Mz Z ?_))
 obtain⟨⟨g,x⟩,o⟩:=qq (rF b (a:Int))
 obtain⟨_,M,Z5,Z6,_⟩:=JZ aa
 refine cl Tryz.call184 (zf _ _ z (X b) I b (a:Int) g x M (Z5 _ A) Z U o) ?_
 rintro _ _ ⟨rfl,P,F⟩
 replace F:=F
 refine Mz Z (Kz (Zq (Zb (ai.L g))) (Kz (vI x) (cB [Z9 ⟨Zb []⟩, Z9 ⟨Zb []⟩] 38 (Z6 _ _ P) ?_)))
 intro _ _ ag
 refine cu (ai.L g) 0 ag C5 ?_
 intro _ B
 refine Ar Z (Mz Z (Kz (Za (x=0)) (Mz Z ?_)))
 by_cases d:x=0
 refine Gz (vP Z2 1) (decide_eq_true d) (Gl (vI f.b) (decide_eq_true d) B 1 B8 (gw (vI h) (decide_eq_true d) (J3 Z) (Gz (Za (f.b=h)) (decide_eq_true d) (gw (Y j) (decide_eq_true d) (J3 Z) (gw (Za ((Zw (f.b=h))=j)) (decide_eq_true d) (Kc (e:=(Zw (f.b=h)==j)) yk (by first | exact Bool.beq_eq_decide_eq _ _ | (by_cases q:(Zw (f.b=h))=j <;> simp [q]))) (fw (Za ((Zw (f.b=h))=j)) (JX Z (decide_eq_true d) Z) (nt ?_)))))))
 by_cases C:(Zw (f.b=h))=j
 refine jT (dT C) ?_
 have Q:=B.pk [0,2]
 refine JW (Mz Z (La (ai.L g) Q 0 C6 C5 (j6 (ai.L g) 38 2 1 Q ?_)))
 intro ah _ G
 replace G:=Ku (y:=row ah 1 1 (q1 ai.L ([g])) 38 2) Z G
 have R:=G.pf [2]
 refine WL.do Z (Kk (k:=X c) (m:=1) (BH) R Z Z (eO V0 (R.rds (i:=1) Z) (cO ai.one ([g]))) Z U (s:=X (c++ [g])) f6 (u3).symm ?_)
 intro aj ak _ au
 have aK:X (c++ [g])=X c+1:=by simp only [o3,q6,L0]
 refine Az Z (G2 (bN (JY (JW (fw (vJ (a+1)) (J4 (e:=D3.wrap ((a:Int)+1)) yk f4) (Mz Z (G2 ?_)))))))
 have ax:=(au.pk [0]).pf []
 exact Kb (aj,ak,(c++ [g]),a+1) ⟨Z,Z,Z,Z,Z,Z,Z,Z,ZV⟩ (l.2 ⟨ax,U,U,U,V (n) (V (ZX (λ q=>iT b h j q c a) u) (V (ae o) (V (ip d) (ip C))))⟩) (by show X b - (a+1) < X b - a; omega)
 refine jF (dF C) (Ko (bN (JY (JW (fw (vJ (a+1)) (J4 (e:=D3.wrap ((a:Int)+1)) yk f4) (Mz Z (G2 ?_)))))))
 have az:=(B.pk [2]).pf []
 exact Kb (p,r,c,a+1) ⟨Z,Z,Z,Z,Z,Z,Z,Z,ZV⟩ (l.2 ⟨az,U,U,U,V (n) (V (ZX (λ q=>iT b h j q c a) u) (V (ae o) (V (ip d) (iN C))))⟩) (by show X b - (a+1) < X b - a; omega)
 refine Sz (dF d) (Sz (dF d) (Sz (dF d) (Sz (dF d) (Sz (dF d) (Sz (dF d) (fw (Y O) (JU Z (dF d) Z) (nt (jf (Ko (bN (JY (JW (fw (vJ (a+1)) (J4 (e:=D3.wrap ((a:Int)+1)) yk f4) (Mz Z (G2 ?_)))))))))))))))
 have aB:=(B.pk [2]).pf []
 exact Kb (p,r,c,a+1) ⟨Z,Z,Z,Z,Z,Z,Z,Z,ZV⟩ (l.2 ⟨aB,U,U,U,V (n) (V (ZX (λ q=>iT b h j q c a) u) (V (ae o) (iN d)))⟩) (by show X b - (a+1) < X b - a; omega)
 refine jF (dF L) (H0 (Ka ?_))
 have S:=V (n) (V (ZX (λ q=>iT b h j q c a) (eU (ls:=b) (i:=a) U)) Z)
 refine Ka (Kh (JY (sr (Mz Z (An Z (rt (rs ?_)))))))
 obtain rfl:=zj hr zq1
 exact⟨p,r,Z,(t.pf []),f2⟩
def fM (c:ai):List ai->List aV->(List aV)
  | [],b=>b
  | e::d,b=>bnd (iZ c e) λ a=>if a.2=Zj then fM c d (b++ [(aV.q 5 [] [] a.1.a a.1.b 0)]) else fM c d b
def gM (d:bD) (l2:List ai):List ai->List aV->(List aV)
  | [],a=>a
  | b::c,a=>bnd (fM b l2 a) λ sLrLsL=>gM d l2 c sLrLsL
def gq (a:bD) (l1:List ai) (l2:List ai):bD:=
 bnd (gM a l2 l1 a.a.a.a) λ sLrL=>bD.q (bY.q (N a.a.b.a) (N sLrL) a.a.g) (N a.b.a)
theorem mq (w D j) (f:bD) (l n A B o p r R n1 c1 l1 Z6 n2 Z8 l2) (r0:bD) (H:Own w D w [blk j [Zz (Zv ⟨r,0,Zk⟩), T l (X f.a.b.a) n, T A (X f.a.a.a) B, Y f.a.g, T o (X f.b.a) p] 92,row A (X f.a.a.a) B (q1 aV.L f.a.a.a) 62 6]) (Z1:Ro w D λ w'=>bV w' 2 R n1 (q1 ai.L l1)) (aP:n1=X l1) (bK:X l1 *32<=211106232532992) (Z2:Ro w D λ w'=>bV w' 2 Z6 n2 (q1 ai.L l2)) (aQ:n2=X l2) (bL:X l2 *32<=211106232532992) (bM:X l1<=6/\X l2<=6/\X f.a.a.a<=100) (hr:gq f l1 l2=r0):
    Calls y3 145 #[vP j 0, T R n1 c1, T Z6 n2 Z8] w (dI λ v w'=> ∃ C E,v= .tuple #[]/\Own w D w' [blk j [vP r 0, T l (X f.a.b.a) n, T C (X r0.a.a.a) E, Y f.a.g, T o (X f.b.a) p] 92,row C (X r0.a.a.a) E (q1 aV.L r0.a.a.a) 62 6]/\(X r0.a.a.a<=X f.a.a.a+36)):=by
 unfold gq at hr
 subst aP aQ
 have aR:=zr 1 H
 refine cb Tryz.func145 ?_
 refine sr (Mz Z (Kz (vJ (X l1)) (Mn Z (bo ?_))))
 obtain⟨aT,F⟩:=uG λ (d:Nat) G (I:Nat) g w'=>Own w D w' [blk j [vP r 0, T l (X f.a.b.a) n, T G (X g) I, Y f.a.g, T o (X f.b.a) p] 92,row G (X g) I (q1 aV.L g) 62 6]/\d<=X l1/\X g<=X f.a.a.a+6 *d/\gM f l2 l1 f.a.a.a=gM f l2 (r8 d l1) g
 refine G3 (λ i:Nat × (Option Addr) × Nat × (List aV)=> [(14,vJ i.1),(13,vJ (X l1)),(12, T R (X l1) c1),(0,vP j 0),(2, T Z6 (X l2) Z8)]) aT (λ i=>X l1 - i.1) (0,A,B,f.a.a.a) ⟨Z,Z,Z,Z,Z,ZV⟩ (F.2 ⟨(H.pf []),U,U,Z⟩) ?_
 rintro ⟨d,G,I,g⟩ _ au
 obtain⟨J,_,_,S⟩:=F.1 au
 refine sr (Kz (Za ((d:Int) < (X l1:Int))) (nt (JS ?_)))
 by_cases av:(d:Int) < (X l1:Int)
 obtain⟨h,Z7⟩:=dM (ls:=l1) (i:=d) ai.len f7 (J.ro Z1) f5
 have ax:=drop_at Z7
 refine jT (dT av) (sk (JS (bo (sr (fw (Zz (Zv ⟨ab R,ao R+d *2,Zk⟩)) (J9 (BH) Z Z ((J.ro Z1).addr (i:=d) U) U) (fw (Zq (Zb (ai.L h))) (J5 Z (J7 (cs:=(ai.L h)) C6 C5 ((J.ro Z1).elem ai.len Z7 f7))) (cB [Z9 ⟨Zb []⟩, Z9 ⟨Zb []⟩] 38 J ?_)))))))
 intro Z0 _ aU
 refine cu (ai.L h) 0 aU C5 ?_
 intro _ aW
 refine ns (Mz Z (Kz (vJ (X l2)) (Mn Z (bo ?_))))
 obtain⟨aY,t⟩:=uG λ (a:Nat) u (x:Nat) c w'=>Own w D w' [blk Z0 (ai.L h) 38,blk j [vP r 0, T l (X f.a.b.a) n, T u (X c) x, Y f.a.g, T o (X f.b.a) p] 92,row u (X c) x (q1 aV.L c) 62 6]/\a<=X l2/\X c<=X g+a/\X c<=X f.a.a.a+6 *d+a/\fM h l2 g=fM h (r8 a l2) c
 refine G3 (λ i:Nat × (Option Addr) × Nat × (List aV)=> [(20,vJ i.1),(19,vJ (X l2)),(18, T Z6 (X l2) Z8),(7,vP Z0 0),(14,vJ d),(13,vJ (X l1)),(12, T R (X l1) c1),(0,vP j 0),(2, T Z6 (X l2) Z8)]) aY (λ i=>X l2 - i.1) (0,G,I,g) ⟨Z,Z,Z,Z,Z,Z,Z,Z,Z,ZV⟩ (t.2 ⟨(aW.pf []),U,U,U,Z⟩) ?_
 rintro ⟨a,u,x,c⟩ _ ay
 obtain⟨K,_,_,_,L⟩:=t.1 ay
 refine sr (Kz (Za ((a:Int) < (X l2:Int))) (nt (JS ?_)))
 by_cases az:(a:Int) < (X l2:Int)
 obtain⟨z,Z3⟩:=dM (ls:=l2) (i:=a) ai.len f7 (K.ro Z2) f5
 have Z4:=drop_at Z3
 refine jT (dT az) (sk (JS (bo (sr (fw (Zz (Zv ⟨ab Z6,ao Z6+a *2,Zk⟩)) (J9 (BH) Z Z ((K.ro Z2).addr (i:=a) U) U) (fw (Zq (Zb (ai.L z))) (J5 Z (J7 (cs:=(ai.L z)) C6 C5 ((K.ro Z2).elem ai.len Z3 f7))) (cB [Z9 ⟨Zb []⟩, Z9 ⟨Zb []⟩] 38 K ?_)))))))
 intro _ _ aZ
 refine cu (ai.L z) 0 aZ C5 ?_
 intro _ aa
 refine ns (La (ai.L h) aa 1 C6 C5 (La (ai.L z) aa 0 C6 C5 ?_))
 obtain⟨⟨b,af⟩,M⟩:=qq (iZ h z)
 obtain⟨_,aA,_,aB,_⟩:=JZ aa
 refine cl Tryz.call151 (nP _ _ h z b af aA M) ?_
 rintro _ _ ⟨rfl,aC⟩
 refine Mz Z (Kz (Zq (Zb (ai.L b))) (Kz (Y af) (cB [Z9 ⟨Zb []⟩, Z9 ⟨Zb []⟩] 38 (aB _ _ aC) ?_)))
 intro aD _ bg
 refine cu (ai.L b) 0 bg C5 ?_
 intro _ bi
 refine An Z (JS ?_)
 have P:=bi.px [] [1] []
 refine JW (Mn Z ?_)
 rcases Nv (af) with Z5 | Z5
 refine jT Z5 (JW (Mz Z (Kz (vP aD 0) (Lz (Z9 ⟨Zb b.a⟩) P 0 Tryz.isAgg9 (Kz (vP aD 1) (Lz (Z9 ⟨Zb b.b⟩) P 0 Tryz.isAgg9 (Kz (Zq #[vI 5, Z9 ⟨Zb []⟩, Z9 ⟨Zb []⟩, Z9 ⟨Zb b.a⟩, Z9 ⟨Zb b.b⟩,vI 0]) (j6 [vI 5, Z9 ⟨Zb []⟩, Z9 ⟨Zb []⟩, Z9 ⟨Zb b.a⟩, Z9 ⟨Zb b.b⟩,vI 0] 62 6 1 P ?_))))))))
 intro bn _ Q
 replace Q:=Ku (y:=row bn 1 1 (q1 aV.L ([(aV.q 5 [] [] b.a b.b 0)])) 62 6) Z Q
 refine WL.do Z (Ki V1 Z ?_ (λ _ _ k=>k))
 refine cb V2 ?_
 refine JW (Mz Z (Mz Z (Kz (vP j 0) (Kz (vP j 1) (Kz (vP j 2) (Lz (T u (X c) x) Q 3 Q9 (Mz Z ?_)))))))
 have aF:=Q.pf [4]
 refine WL.do Z (Kk (k:=X c) (m:=1) (nH) aF Z Z (eO Q8 (aF.rds (i:=1) Z) (cO aV.one ([(aV.q 5 [] [] b.a b.b 0)]))) Z U (s:=X (c++ [(aV.q 5 [] [] b.a b.b 0)])) f6 (u3).symm ?_)
 intro aG aH _ bq
 have bJ:X (c++ [(aV.q 5 [] [] b.a b.b 0)])=X c+1:=by simp only [o3,q6,L0]
 refine Kz (vP j 0) (Kz (vP j 1) (Kz (vP j 2) (cu [T aG (X (c++ [(aV.q 5 [] [] b.a b.b 0)])) aH] 2 (bq.pf [4]) S6 ?_)))
 intro _ bv
 refine G2 (KD (res0 Z) (G2 (bN (JY (JW (fw (vJ (a+1)) (J4 (e:=D3.wrap ((a:Int)+1)) yk f4) (Mz Z (G2 ?_))))))))
 have bA:=(bv.pk [0,1,4]).pf [2]
 exact Kb (a+1,aG,aH,(c++ [(aV.q 5 [] [] b.a b.b 0)])) ⟨Z,Z,Z,Z,Z,Z,Z,Z,Z,ZV⟩ (t.2 ⟨bA,U,U,U,V (L) (V (ZX (λ q=>fM h q c) Z4) (V (ae M) (ip Z5)))⟩) (by show X l2 - (a+1) < X l2 - a; omega)
 refine jF Z5 (Ko (bN (JY (JW (fw (vJ (a+1)) (J4 (e:=D3.wrap ((a:Int)+1)) yk f4) (Mz Z (G2 ?_)))))))
 have aJ:=(P.pk [1,2,3]).pf []
 exact Kb (a+1,u,x,c) ⟨Z,Z,Z,Z,Z,Z,Z,Z,Z,ZV⟩ (t.2 ⟨aJ,U,U,U,V (L) (V (ZX (λ q=>fM h q c) Z4) (V (ae M) (eD Z5)))⟩) (by show X l2 - (a+1) < X l2 - a; omega)
 refine jF (dF az) (H0 (Ka ?_))
 have ag:=V (L) (V (ZX (λ q=>fM h q c) (eU (ls:=l2) (i:=a) U)) Z)
 refine Ka (Kh (bN (JY (JW (fw (vJ (d+1)) (J4 (e:=D3.wrap ((d:Int)+1)) yk f4) (Mz Z (G2 ?_)))))))
 have aL:=(K.pk [1,2]).pf []
 exact Kb (d+1,u,x,c) ⟨Z,Z,Z,Z,Z,ZV⟩ (F.2 ⟨aL,U,U,V (S) (V (ZX (λ q=>gM f l2 q g) ax) (ae ag))⟩) (by show X l1 - (d+1) < X l1 - d; omega)
 refine jF (dF av) (H0 (Ka ?_))
 have ah:gM f l2 l1 f.a.a.a=g:=V (S) (V (ZX (λ q=>gM f l2 q g) (eU (ls:=l1) (i:=d) U)) Z)
 refine Ka (Kh (KD (res0 Z) ?_))
 obtain rfl:=zj hr zq1
 exact⟨G,I,Z,(J.pf []),f2⟩
def mZ (b:bD) (c:cz) (a:aB):bD × aB:=
 bnd (jw a.a.b.a a.a.r Zj) λ e=>bnd (jw c.b.a a.a.r O) λ d=>bnd (if((a.a.B:Nat):Int)=((c.k:Nat):Int) then(a.a.B,a.a.s.a,a.a.s.b) else(0, [], [])) λ sJrbbJ=>if((a.a.a.k:Nat):Int)=0 then bnd (gq b d e) λ f=>(bD.q (bY.q (N b.a.b.a) (N f.a.a.a) b.a.g) (N b.b.a),aB.q (bH.q a.a.r a.a.y c.u c.z c.k (N c.b.a) (N a.a.g.a) (N a.a.j.a) a.a.t sJrbbJ.1 (ai.q sJrbbJ.2.1 sJrbbJ.2.2) a.a.a) (N a.b.a)) else if((a.a.a.k:Nat):Int)=((c.k:Nat):Int) then bnd (gq b d e) λ g=>(bD.q (bY.q (N b.a.b.a) (N g.a.a.a) b.a.g) (N b.b.a),aB.q (bH.q a.a.r a.a.y c.u c.z c.k (N c.b.a) (N a.a.g.a) (N a.a.j.a) a.a.t sJrbbJ.1 (ai.q sJrbbJ.2.1 sJrbbJ.2.2) a.a.a) (N a.b.a)) else bnd (gq b d ([a.a.a.j])) λ h=>bnd (gq (bD.q (bY.q (N b.a.b.a) (N h.a.a.a) b.a.g) (N b.b.a)) d e) λ i=>(bD.q (bY.q (N b.a.b.a) (N i.a.a.a) b.a.g) (N b.b.a),aB.q (bH.q a.a.r a.a.y c.u c.z c.k (N c.b.a) (N a.a.g.a) (N a.a.j.a) a.a.t sJrbbJ.1 (ai.q sJrbbJ.2.1 sJrbbJ.2.2) (fF.q 0 0 0 (ai.q [] []))) (N a.b.a))
theorem xS (w D R) (g:bD) (m n p r s t) (f:cz) (ag aY ah aj aZ ak au S bg Z7 b) (a:aB) (k l u z B C E F G I) (r0:bD) (J:aB) (H:Own w D w [blk R [Zz (Zv ⟨b,0,Zk⟩), T m (X g.a.b.a) n, T p (X g.a.a.a) r, Y g.a.g, T s (X g.b.a) t] 92,row p (X g.a.a.a) r (q1 aV.L g.a.a.a) 62 6,blk b (kB a k (X a.a.b.a) l u (X a.a.g.a) z B (X a.a.j.a) C a.a.t G E (X a.b.a) F I) 78,row k (X a.a.b.a) l (q1 bF.L a.a.b.a) 83 2]) (bC:aY=X f.a.a) (fe:Ro w D λ w'=>bV w' 6 ag (X f.a.a) (q1 aV.L f.a.a)) (fo:X f.a.a<=ah/\X f.a.a<=9223372036854775807) (bE:s0 aQ.abs au=f.B.a) (bG:aZ=X f.B.a) (fq:Ro w D λ w'=>bV w' 3 aj (X f.B.a) (q1 aQ.L au)) (fu:X f.B.a<=ak/\X f.B.a<=9223372036854775807) (fw:∀ x ∈ au,Ro w D (λ w'=>bV w' 2 x.a.A (X x.a.a) (q1 aG.L x.a.a))/\(X x.a.a<=x.a.c/\X x.a.a<=9223372036854775807)) (bI:bg=X f.b.a) (bJ:Ro w D λ w'=>bV w' 2 S (X f.b.a) (q1 bF.L f.b.a)) (fA:X f.b.a<=Z7/\X f.b.a<=9223372036854775807) (iy:X a.a.b.a<=6/\X f.b.a<=6/\X g.a.a.a<=0/\X g.a.b.a<=1000) (hr:mZ g f a=(r0,J)):
    Calls y3 89 #[vP R 0, Zq (Zb (fT f.g f.D f.E f.J f.F f.I f.G f.y f.r f.t f.u f.z f.k f.s f.C f.H f.j.a f.j.b ag aY ah aj aZ ak S bg Z7))] w (dI λ v w'=> ∃ av ax ay az,v= .tuple #[]/\Own w D w' [blk R [vP b 0, T m (X g.a.b.a) n, T av (X r0.a.a.a) ax, Y g.a.g, T s (X g.b.a) t] 92,row av (X r0.a.a.a) ax (q1 aV.L r0.a.a.a) 62 6,blk b (kB J ay (X J.a.b.a) az u (X a.a.g.a) z B (X a.a.j.a) C J.a.t G E (X a.b.a) F I) 78,row ay (X J.a.b.a) az (q1 bF.L J.a.b.a) 83 2]):=by
 unfold mZ at hr
 subst bC bG bI
 have eZ:=bf bE
 have fB:=zr 1 H
 have cK:=zr 3 H
 refine cb Tryz.func89 ?_
 refine sr ?_
 refine cB (jP f ag ah aj ak S Z7) 47 H ?_
 intro aW _ cO
 refine ns (Mz Z (Kz (vP R 0) (Kz (vP R 0) (Lz (vP b 0) cO 1 S5 (Kz (vP b 0) (Kz (vP b 0) (An Z (JS (DJ [] (J6 Kg) cO ?_)))))))))
 intro _ fC
 refine qv 0 Z Z (qp b 0 1 Z (qp b 5 2 Z (ql 3 Z 3 R8 Z Z Z (qv 4 Z Z (qp b 0 5 Z (qp b 0 6 Z (ql 7 Z 3 B8 Z Z Z ?_)))))))
 obtain⟨j,Z3⟩:=qq (jw a.a.b.a a.a.r Zj)
 obtain⟨_,cZ,_,df,dh⟩:=JZ fC
 refine qd 8 Z (Ki V3 Z (tK _ _ k (X a.a.b.a) l a.a.b.a a.a.r Zj j cZ (dh _ 4 _ Z bB) Z U f2 Z3) ?_)
 rintro _ _ ⟨Z2,Z0,rfl,di,bi⟩
 have dm:=df _ _ di
 have gL:=zr 0 dm
 replace bi:=bi
 have dn:=dm.pb [0]
 refine⟨.inr ⟨_,dn⟩, (qa 9 Z Z (qn (JY (JS (DJ [] (J6 Kg) (dn.pb [3]) ?_)))))⟩
 intro _ fE
 refine qv 0 Z Z (qv 1 Z Z (qv 2 Z Z (qv 3 Z Z (qp aW 10 4 Z (ql 5 Z 0 E0 Z Z Z (qp aW 11 6 Z (ql 7 Z 0 E0 Z Z Z (qp aW 12 8 Z (ql 9 Z 0 E0 Z Z Z (qp aW 20 10 Z (ql 11 Z 0 R8 Z Z Z ?_)))))))))))
 obtain⟨_,dw,dx,dz,_⟩:=JZ fE
 refine qd 12 Z (Ki Tryz.call32 Z (mY _ _ S (X f.b.a) Z7 f.b.a f.b.a dw (dx _ bJ) Z U Z) ?_)
 rintro _ _ ⟨M,Z5,rfl,dA⟩
 have dB:=dz _ _ dA
 have gN:=zr 0 dB
 have dC:=dB.pb [0,6]
 refine⟨.inr ⟨_,dC⟩, (qp b 0 13 Z (qp b 2 14 Z (qe 15 Z (Do.store (vs:= [vU f.u]) (o:=2) (dC.pf [6]) Z Z I3 Z Z Z Z ?_))))⟩
 intro _ fH
 have dD:=fH.pb [0,6]
 refine⟨.inr ⟨_,dD⟩, (qp b 0 16 Z (qp b 3 17 Z (qe 18 Z (Do.store (vs:= [vU f.z]) (o:=3) (dD.pf [5]) Z Z I3 Z Z Z Z ?_))))⟩
 intro _ fK
 have dE:=fK.pb [0,6]
 refine⟨.inr ⟨_,dE⟩, (qp b 0 19 Z (qp b 4 20 Z (qe 21 Z (Do.store (vs:= [vU f.k]) (o:=4) (dE.pf [5]) Z Z I3 Z Z Z Z ?_))))⟩
 intro _ fO
 have dG:=fO.pb [0,6]
 refine⟨.inr ⟨_,dG⟩, (qp b 0 22 Z (qp b 5 23 Z (qe 24 Z (Do.store (vs:= [T M (X f.b.a) Z5]) (o:=5) (dG.pf [5]) Z Z Tryz.sizeOf34 Z Z Z Z ?_))))⟩
 intro _ fQ
 have dH:=fQ.pb [0,6]
 refine⟨.inr ⟨_,dH⟩, (qn (JY (JS (zu [] (J6 Kg) (dH.px [] [0] []) ?_))))⟩
 intro _ fV
 refine qv 0 Z Z (qp b 0 1 Z (qp b 5 2 Z (ql 3 Z 4 R8 Z Z Z (qv 4 Z Z (qp b 0 5 Z (qp b 0 6 Z (ql 7 Z 4 B8 Z Z Z ?_)))))))
 obtain⟨h,Z4⟩:=qq (jw f.b.a a.a.r O)
 obtain⟨_,dJ,_,dK,dL⟩:=JZ fV
 refine qd 8 Z (Ki V3 Z (tK _ _ M (X f.b.a) Z5 f.b.a a.a.r O h dJ (dL _ 5 _ Z bB) Z U f2 Z4) ?_)
 rintro _ _ ⟨Z6,P,rfl,dM,bn⟩
 have dN:=dK _ _ dM
 have gQ:=zr 0 dN
 replace bn:=bn
 have dO:=dN.pb [0]
 refine⟨.inr ⟨_,dO⟩, (qa 9 Z Z (qn (JY (JS (JS (kL 7 [] (J6 (J6 Kg)) dO ?_))))))⟩
 intro _ fZ
 refine qv 0 Z Z (qp R 0 1 Z (qp R 0 2 Z (ql 3 Z 0 S5 Z Z Z (qp b 0 4 Z (qp b 20 5 Z (ql 6 Z 4 Tryz.isAgg76 Z Z Z (qk (Y O) 7 Z (qv 8 Z Z (JV (rs:= []) 9 Z Z Z Z f1 (JV (rs:= []) 10 Z Z Z Z f1 (JV (rs:= []) 11 Z Z Z Z f1 (JV (rs:= []) 12 Z Z Z Z f1 (JV (rs:= []) 13 Z Z Z Z f1 (JV (rs:= []) 14 Z Z Z Z f1 (JV (rs:= []) 15 Z Z Z Z f1 (JV (rs:= []) 16 Z Z Z Z f1 (JV (rs:= []) 17 Z Z Z Z f1 (JV (rs:= []) 18 Z Z Z Z f1 (JV (rs:= []) 19 Z Z Z Z f1 (JV (rs:= []) 20 Z Z Z Z f1 (JV (rs:= []) 21 Z Z Z Z f1 (JV (rs:= []) 22 Z Z Z Z f1 (JV (rs:= []) 23 Z Z Z Z f1 (qt (v:= Y O) 24 Z (λ _ _=>QK Z) (qn (JY (jf (sk (JS (JS (kL 7 [] (J6 (J6 Kg)) fZ ?_)))))))))))))))))))))))))))))))
 intro _ dP
 refine qv 0 Z Z (qp b 0 1 Z (qp b 9 2 Z (ql 3 Z 4 E0 Z Z Z (qv 4 Z Z (qp b 0 5 Z (qp b 4 6 Z (ql 7 Z 4 E0 Z Z Z (qt (v:= Za (¬ ((a.a.B:Int)=(f.k:Int)))) 8 Z (λ _ _=>Kc (e:= !(Zw ((a.a.B:Int)=(f.k:Int)))) yk ZW) (qn (JY ?_))))))))))
 obtain⟨gm,aA⟩:=yG λ (K:Nat) aa af w'=>Own w D w' [blk R [vP b 0, T m (X g.a.b.a) n, T p (X g.a.a.a) r, Y g.a.g, T s (X g.b.a) t] 92,blk b [vI a.a.r,vU a.a.y,vU f.u,vU f.z,vU f.k, T M (X f.b.a) Z5, T u (X a.a.g.a) z, T B (X a.a.j.a) C,vU a.a.t,vU K, Z9 ⟨Zb aa⟩, Z9 ⟨Zb af⟩,vU a.a.a.k,vU a.a.a.s,vU a.a.a.a, Z9 ⟨Zb a.a.a.j.a⟩, Z9 ⟨Zb a.a.a.j.b⟩, .iface 27 (vP G 0), T E (X a.b.a) F,vP I 0, Zz Zk] 78,row p (X g.a.a.a) r (q1 aV.L g.a.a.a) 62 6,row k (X a.a.b.a) l (q1 bF.L a.a.b.a) 83 2,row Z2 (X j) Z0 (q1 ai.L j) 38 2,row M (X f.b.a) Z5 (q1 bF.L f.b.a) 83 2,row Z6 (X h) P (q1 ai.L h) 38 2]/\K<=a.a.B/\K >= 0/\(if(a.a.B:Int)=(f.k:Int) then(a.a.B,a.a.s.a,a.a.s.b) else(0, [], []))=(K,aa,af)
 refine K5 (λ i:Nat × (List UInt8) × (List UInt8)=> [(6, T Z6 (X h) P),(5, T Z2 (X j) Z0),(4,vP b 0),(0,vP R 0)]) gm ?_ ?_
 by_cases aX:(a.a.B:Int)=(f.k:Int)
 exact jF (dF (Nu aX)) (Ko (KM (a.a.B,a.a.s.a,a.a.s.b) ⟨Z,Z,Z,Z,ZV⟩ (aA.2 ⟨(dP.pf [0,4]),U,U,ip aX⟩)))
 refine jT (dT aX) (JW (Mz Z (Mz Z (Kz (Zq #[Z9 ⟨Zb []⟩, Z9 ⟨Zb []⟩]) (Kz (vP b 0) (Kz (vP b 9) (cu [.int .u64 0] 9 (dP.pf [4]) I3 ?_)))))))
 intro _ dS
 refine Kz (vP b 0) (Kz (vP b 10) (cu [Z9 ⟨Zb []⟩, Z9 ⟨Zb []⟩] 10 dS C5 ?_))
 intro _ dU
 exact G2 (KM (0, [], []) ⟨Z,Z,Z,Z,ZV⟩ (aA.2 ⟨(dU.pf [1]),(show 0<=a.a.B/\0 >= 0/\(if(a.a.B:Int)=(f.k:Int) then(a.a.B,a.a.s.a,a.a.s.b) else(0, [], []))=(0,[],[]) from ⟨U,U,iN aX⟩)⟩))
 rintro ⟨K,aa,af⟩ _ bK
 obtain⟨dW,_,_,Q⟩:=aA.1 bK
 refine JS (JS (kL 7 [] (J6 (J6 Kg)) dW ?_))
 intro _ Z8
 refine qv 0 Z Z (qp b 0 1 Z (qp b 12 2 Z (qp b 12 3 Z (ql 4 Z 1 E0 Z Z Z (qt (v:= Za (¬ ((a.a.a.k:Int)=0))) 5 Z (λ _ _=>Kc (e:= !(Zw ((a.a.a.k:Int)=0))) yk ZW) (qv 6 Z Z ?_))))))
 by_cases d:(a.a.a.k:Int)=0
 refine JV (rs:= []) 7 Z Z Z (dF (Nu d)) f1 (JV (rs:= []) 8 Z Z Z (dF (Nu d)) f1 (JV (rs:= []) 9 Z Z Z (dF (Nu d)) f1 (JV (rs:= []) 10 Z Z Z (dF (Nu d)) f1 (JV (rs:= []) 11 Z Z Z (dF (Nu d)) f1 (JV (rs:= []) 12 Z Z Z (dF (Nu d)) f1 (JV (rs:= []) 13 Z Z Z (dF (Nu d)) f1 (JV (rs:= []) 14 Z Z Z (dF (Nu d)) f1 (JV (rs:= []) 15 Z Z Z (dF (Nu d)) f1 (JV (rs:= []) 16 Z Z Z (dF (Nu d)) f1 (qt (v:= Y O) 17 Z (λ _ _=>JU Z (dF (Nu d)) Z) (qn (JY (jf (sk (JW (Mz Z (Mz Z (Mz Z ?_))))))))))))))))))
 obtain⟨aC,aD⟩:=qq (gq g h j)
 obtain⟨_,bL,_,bM,aF⟩:=KE (Z8.pf [0,2])
 refine cl V4 (mq _ _ R g m n p r s t b Z6 (X h) P h Z2 (X j) Z0 j aC bL (aF _ 4 _ Z bB) Z U (aF _ 2 _ Z bB) Z U f2 aD) ?_
 rintro _ _ ⟨dY,dZ,rfl,bN,aH⟩
 have bq:=bM _ _ bN
 have gz:=zr 1 bq
 replace aH:=aH
 refine G2 (KD (res0 Z) ?_)
 obtain⟨rfl,rfl⟩:=fI (zj hr zq5)
 exact⟨dY,dZ,M,Z5,Z,(bq.pk [0,1,2,5])⟩
 refine J2 (v:=vP b 0) (rs:= []) 7 Z Z Z (dT d) f1 (λ _ _=>J3 Z) (J2 (v:=vP b 0) (rs:= []) 8 Z Z Z (dT d) f1 (λ _ _=>yk) (J2 (v:=vP b 12) (rs:= []) 9 Z Z Z (dT d) f1 (λ _ _=>yk) (J2 (v:=vP b 12) (rs:= []) 10 Z Z Z (dT d) f1 (λ _ _=>yk) (J2 (v:=vU a.a.a.k) (rs:= []) 11 Z Z Z (dT d) f1 (λ _ ⟨_,H9⟩=>J5 Z (bO.one E0 (Kw (H9.cls (i:=1) Z) Z))) (J2 (v:=vP b 0) (rs:= []) 12 Z Z Z (dT d) f1 (λ _ _=>J3 Z) (J2 (v:=vP b 0) (rs:= []) 13 Z Z Z (dT d) f1 (λ _ _=>yk) (J2 (v:=vP b 4) (rs:= []) 14 Z Z Z (dT d) f1 (λ _ _=>yk) (J2 (v:=vU f.k) (rs:= []) 15 Z Z Z (dT d) f1 (λ _ ⟨_,H9⟩=>J5 Z (bO.one E0 (Kw (H9.cls (i:=1) Z) Z))) (J2 (v:= Za (¬ ((a.a.a.k:Int)=(f.k:Int)))) (rs:= []) 16 Z Z Z (dT d) f1 (λ _ _=>Kc (e:= !(Zw ((a.a.a.k:Int)=(f.k:Int)))) yk ZW) (qt (v:= Za (¬ ((a.a.a.k:Int)=(f.k:Int)))) 17 Z (λ _ _=>JX Z (dT d) Z) (qn (JY ?_))))))))))))
 by_cases Z1:(a.a.a.k:Int)=(f.k:Int)
 refine jF (dF (Nu Z1)) (sk (JW (Mz Z (Mz Z (Mz Z ?_)))))
 obtain⟨aI,aJ⟩:=qq (gq g h j)
 obtain⟨_,bP,_,bQ,aK⟩:=KE (Z8.pf [0,2])
 refine cl V4 (mq _ _ R g m n p r s t b Z6 (X h) P h Z2 (X j) Z0 j aI bP (aK _ 4 _ Z bB) Z U (aK _ 2 _ Z bB) Z U f2 aJ) ?_
 rintro _ _ ⟨ek,eu,rfl,bR,aL⟩
 have bu:=bQ _ _ bR
 have gF:=zr 1 bu
 replace aL:=aL
 refine G2 (KD (res0 Z) ?_)
 obtain⟨rfl,rfl⟩:=fI (zj hr zq6)
 exact⟨ek,eu,M,Z5,Z,(bu.pk [0,1,2,5])⟩
 refine jT (dT Z1) (sr (Mz Z (Mz Z (Mz Z (Kz (vP b 0) (Kz (vP b 12) (Kz (vP b 15) (La (ai.L a.a.a.j) Z8 1 C6 C5 (j6 (ai.L a.a.a.j) 38 2 1 Z8 ?_)))))))))
 intro bv _ aM
 replace aM:=Ku (y:=row bv 1 1 (q1 ai.L ([a.a.a.j])) 38 2) Z aM
 obtain⟨L,aN⟩:=qq (gq g h ([a.a.a.j]))
 obtain⟨_,bS,_,bT,aO⟩:=KE (aM.pf [1,3])
 refine cl V4 (mq _ _ R g m n p r s t b Z6 (X h) P h bv 1 1 ([a.a.a.j]) L bS (aO _ 5 _ Z bB) Z U (aO _ 0 _ Z bB) Z i2 f2 aN) ?_
 rintro _ _ ⟨eF,eG,rfl,bU,aP⟩
 have bz:=bT _ _ bU
 have gH:=zr 1 bz
 replace aP:=aP
 refine nt (JW (Mz Z (Kz (Zq #[.int .u64 0, .int .u64 0, .int .u64 0, Z9 ⟨Zb []⟩, Z9 ⟨Zb []⟩]) (Kz (vP b 0) (Kz (vP b 12) ?_)))))
 have eO:=(bz.px [] [2] []).pf [2]
 refine cu [.int .u64 0, .int .u64 0, .int .u64 0, Z9 ⟨Zb []⟩, Z9 ⟨Zb []⟩] 12 eO V5 ?_
 intro _ eP
 refine nt (JW (Mz Z (Mz Z (Mz Z ?_))))
 obtain⟨aR,aS⟩:=qq (gq (bD.q (bY.q (N g.a.b.a) (N L.a.a.a) g.a.g) (N g.b.a)) h j)
 obtain⟨_,bW,_,bX,aT⟩:=KE (eP.pf [1,2])
 refine cl V4 (mq _ _ R (bD.q (bY.q (N g.a.b.a) (N L.a.a.a) g.a.g) (N g.b.a)) m n eF eG s t b Z6 (X h) P h Z2 (X j) Z0 j aR bW (aT _ 4 _ Z bB) Z U (aT _ 2 _ Z bB) Z U f2 aS) ?_
 rintro _ _ ⟨eT,eU,rfl,bZ,aU⟩
 have bA:=bX _ _ bZ
 have gJ:=zr 1 bA
 replace aU:=aU
 refine G2 (KD (res0 Z) ?_)
 obtain⟨rfl,rfl⟩:=fI (zj hr zq7)
 exact⟨eT,eU,M,Z5,Z,(bA.pk [0,1,2,5])⟩
def jE (c:bD) (d:cz) (b:aB):Int × bD × aB:=
 if((d.u:Nat):Int) > ((b.a.u:Nat):Int) then bnd (mZ c d b) λ a=>(0,bD.q (bY.q (N (c.a.b.a++ [(cz.q 9 a.2.a.r 0 0 0 0 0 0 0 0 a.2.a.u 0 0 0 0 O (ai.q [] []) (N []) (N []) (N []))])) (N a.1.a.a.a) c.a.g) (N c.b.a),aB.q (bH.q a.2.a.r a.2.a.y a.2.a.u a.2.a.z a.2.a.k (N a.2.a.b.a) (N b.a.g.a) (N b.a.j.a) a.2.a.t a.2.a.B a.2.a.s a.2.a.a) (N b.b.a)) else(0,bD.q (bY.q (N (c.a.b.a++ [(cz.q 9 b.a.r 0 0 0 0 0 0 0 0 b.a.u 0 0 0 0 O (ai.q [] []) (N []) (N []) (N []))])) (N c.a.a.a) c.a.g) (N c.b.a),b)
theorem xc (w D n) (j:bD) (Z2 Z0 l Z3 Z4 aa af) (e:cz) (Q aF C R aH E Z8 S aI F d) (a:aB) (u z G I J K L M Z5 Z6 r0) (r1:bD) (P:aB) (H:Own w D w [blk n [Zz (Zv ⟨d,0,Zk⟩), T Z2 (X j.a.b.a) Z0, T Z3 (X j.a.a.a) Z4, Y j.a.g, T aa (X j.b.a) af] 92,row Z2 (X j.a.b.a) Z0 (q1 bM.L l) 47 21,sepL (q1 Km l),row Z3 (X j.a.a.a) Z4 (q1 aV.L j.a.a.a) 62 6,blk d (kB a u (X a.a.b.a) z G (X a.a.g.a) I J (X a.a.j.a) K a.a.t Z5 L (X a.b.a) M Z6) 78,row u (X a.a.b.a) z (q1 bF.L a.a.b.a) 83 2]) (B:s0 bM.abs l=j.a.b.a) (aS:aF=X e.a.a) (aT:Ro w D λ w'=>bV w' 6 Q (X e.a.a) (q1 aV.L e.a.a)) (dH:X e.a.a<=C/\X e.a.a<=9223372036854775807) (ag:s0 aQ.abs Z8=e.B.a) (aU:aH=X e.B.a) (aW:Ro w D λ w'=>bV w' 3 R (X e.B.a) (q1 aQ.L Z8)) (dJ:X e.B.a<=E/\X e.B.a<=9223372036854775807) (ah:∀ x ∈ Z8,Ro w D (λ w'=>bV w' 2 x.a.A (X x.a.a) (q1 aG.L x.a.a))/\(X x.a.a<=x.a.c/\X x.a.a<=9223372036854775807)) (aX:aI=X e.b.a) (aY:Ro w D λ w'=>bV w' 2 S (X e.b.a) (q1 bF.L e.b.a)) (dK:X e.b.a<=F/\X e.b.a<=9223372036854775807) (fQ:X a.a.b.a<=6/\X e.b.a<=6/\X j.a.a.a<=0/\X j.a.b.a<=1000) (hr:jE j e a=(r0,r1,P)):
    Calls y3 40 #[vP n 0, Zq (Zb (fT e.g e.D e.E e.J e.F e.I e.G e.y e.r e.t e.u e.z e.k e.s e.C e.H e.j.a e.j.b Q aF C R aH E S aI F))] w (dI λ v w'=> ∃ aj ak Z7 au av ax ay,v=vI r0/\Own w D w' [blk n [vP d 0, T aj (X r1.a.b.a) ak, T au (X r1.a.a.a) av, Y j.a.g, T aa (X j.b.a) af] 92,row aj (X r1.a.b.a) ak (q1 bM.L Z7) 47 21,sepL (q1 Km Z7),row au (X r1.a.a.a) av (q1 aV.L r1.a.a.a) 62 6,blk d (kB P ax (X P.a.b.a) ay G (X a.a.g.a) I J (X a.a.j.a) K P.a.t Z5 L (X a.b.a) M Z6) 78,row ax (X P.a.b.a) ay (q1 bF.L P.a.b.a) 83 2]/\(s0 bM.abs Z7=r1.a.b.a)):=by
 subst aS aU aX
 have dE:=bf B
 have dG:=bf ag
 have dL:=zr 1 H
 have dM:=zr 3 H
 have bG:=zr 5 H
 refine cb Tryz.func40 ?_
 refine sr (cB (jP e Q C R E S F) 47 H ?_)
 intro dN _ dO
 refine An Z (JS (JS (kL 7 [] (J6 (J6 Kg)) dO ?_)))
 intro _ aZ
 refine qp dN 10 0 Z (ql 1 Z 0 E0 Z Z Z (qv 2 Z Z (qp n 0 3 Z (qp n 0 4 Z (ql 5 Z 1 S5 Z Z Z (qp d 0 6 Z (qp d 0 7 Z (qp d 2 8 Z (ql 9 Z 5 E0 Z Z Z (qk (Za ((e.u:Int) > (a.a.u:Int))) 10 Z (qn (JY ?_))))))))))))
 by_cases aD:(e.u:Int) > (a.a.u:Int)
 refine jT (dT aD) (JW (Mz Z (La (jP e Q C R E S F) aZ 0 I0 I2 ?_)))
 obtain⟨⟨bI,b⟩,aJ⟩:=qq (mZ j e a)
 obtain⟨_,bJ,Z1,bK,_⟩:=K7 (aZ.pb [0,2,3])
 refine cl Tryz.call89 (xS _ _ n j Z2 Z0 Z3 Z4 aa af e Q (X e.a.a) C R (X e.B.a) E Z8 S (X e.b.a) F d a u z G I J K L M Z5 Z6 bI b bJ Z (Z1 _ aT) U ag Z (Z1 _ aW) U (λ x9 h9=>⟨Z1 _ (ah x9 h9).1,(ah x9 h9).2⟩) Z (Z1 _ aY) U f2 aJ) ?_
 rintro _ _ ⟨dQ,dR,dS,dU,rfl,bL⟩
 have bg:=bK _ _ bL
 have fw:=zr 1 bg
 have fA:=zr 3 bg
 refine nt (JS ?_)
 have bi:=bg.px [] [4] []
 refine JW (Mz Z (Mz Z (Kz (vP n 0) (Kz (vP n 0) (Lz (vP d 0) bi 0 S5 (Kz (vP d 0) (Kz (vP d 0) (Kz (vP d 2) (Lz (vU b.a.u) bi 2 E0 (Kz (Zq (Zb (fT 9 0 0 0 0 0 0 0 0 0 b.a.u 0 0 0 0 O [] [] Zk 0 0 Zk 0 0 Zk 0 0))) (WL.do Z (Ki V6 Z ?_ (λ _ _ k=>k)))))))))))))
 refine cb V7 ?_
 refine sr (cB (fT 9 0 0 0 0 0 0 0 0 0 b.a.u 0 0 0 0 O [] [] Zk 0 0 Zk 0 0 Zk 0 0) 47 bi ?_)
 intro bn _ bq
 refine ns (Mz Z (Kz (vP n 0) (Kz (vP n 0) (Lz (vP d 0) bq 1 S5 (Kz (vP d 0) (Kz (vP d 0) (Kz (vP d 0) (Lz (vI b.a.r) bq 3 B8 (Kz (vP bn 1) (cu [vI b.a.r] 1 bq V8 ?_))))))))))
 intro _ bN
 refine ns (Kz (vP bn 18) (Lz (T Zk 0 0) bN 0 Q9 ?_))
 obtain⟨_,bO,_,bP,_⟩:=JZ bN
 refine cl V9 (fJ _ _ Zk 0 0 [] [] bO (λ _ _=>bV.nil _ _ _) Z i2 Z) ?_
 rintro _ _ ⟨p,r,rfl,bQ⟩
 have bR:=bP _ _ bQ
 have fD:=zr 0 bR
 refine Kz (vP bn 18) (cu [T p 0 r] 18 (bR.pf [1]) S6 ?_)
 intro _ dW
 refine nt (kL 8 [8,12] Kg dW ?_)
 intro _ dX
 refine Kr (v:=vP n 0) 0 Z f1 (λ _=>J3 Z) (qv 1 Z Z (qp n 0 2 Z (qp n 1 3 Z (qp n 1 4 Z (ql 5 Z 2 W0 Z Z Z (qt (v:= Zq (Zb (fT 9 b.a.r 0 0 0 0 0 0 0 0 b.a.u 0 0 0 0 O [] [] p 0 r Zk 0 0 Zk 0 0))) 6 Z (λ _ ⟨_,H9⟩=>J5 Z (J7 (cs:=(fT 9 b.a.r 0 0 0 0 0 0 0 0 b.a.u 0 0 0 0 O [] [] p 0 r Zk 0 0 Zk 0 0)) I0 I2 ((H9.cls (i:=0) Z).lit (k:=0) (m:=21) Z))) (qd 7 Z (KF (cs:=(fT 9 b.a.r 0 0 0 0 0 0 0 0 b.a.u 0 0 0 0 O [] [] p 0 r Zk 0 0 Zk 0 0)) (t:=47) (sz:=21) (m:=1) dX Z Z ZY Z f7 ?_))))))))
 intro dZ bu bv
 replace bv:=Ku (y:=row dZ 1 1 (q1 bM.L ([(bM.q 9 b.a.r 0 0 0 0 0 0 0 0 b.a.u 0 0 0 0 O (ai.q [] []) (O4 p r []) (O4 Zk 0 []) (O4 Zk 0 []))])) 47 21) Z bv
 have bS:=bv.pb [0]
 refine⟨.inr ⟨_,bS⟩, ?_⟩
 have ed:=bS.sepNil.free (bW 65 3)
 have ek:=ed.free (bW 83 2)
 have bT:=ek.pf [9,10,4,1]
 refine qd 8 Z (Kk (k:=X j.a.b.a) (m:=1) (qC) bT Z Z (eO S7 (bT.rds (i:=11) Z) (cO bM.one ([(bM.q 9 b.a.r 0 0 0 0 0 0 0 0 b.a.u 0 0 0 0 O (ai.q [] []) (O4 p r []) (O4 Zk 0 []) (O4 Zk 0 []))]))) Z U (s:=X (j.a.b.a++ [(cz.q 9 b.a.r 0 0 0 0 0 0 0 0 b.a.u 0 0 0 0 O (ai.q [] []) (N []) (N []) (N []))])) f6 (u3).symm ?_)
 intro bU bX eu eB
 have eF:=(eB.pf [1,2,3,4,5]).sepAdd (L2:= [row p 0 r (q1 aV.L []) 62 6,row Zk 0 0 (q1 aQ.L []) 65 3,row Zk 0 0 (q1 bF.L []) 83 2,sepL (q1 Kl [])]) (u3 (f:=Km) (xs:=l) (ys:= [(bM.q 9 b.a.r 0 0 0 0 0 0 0 0 b.a.u 0 0 0 0 O (ai.q [] []) (O4 p r []) (O4 Zk 0 []) (O4 Zk 0 []))])).symm
 have fE:X (j.a.b.a++ [(cz.q 9 b.a.r 0 0 0 0 0 0 0 0 b.a.u 0 0 0 0 O (ai.q [] []) (N []) (N []) (N []))])=X j.a.b.a+1:=by simp only [o3,q6,L0]
 have fF:=bf (iP (es:= [(bM.q 9 b.a.r 0 0 0 0 0 0 0 0 b.a.u 0 0 0 0 O (ai.q [] []) (O4 p r []) (O4 Zk 0 []) (O4 Zk 0 []))]) (ms:= [(cz.q 9 b.a.r 0 0 0 0 0 0 0 0 b.a.u 0 0 0 0 O (ai.q [] []) (N []) (N []) (N []))]) B Z)
 refine⟨.inl f1, (Kr (v:=vP n 0) 9 Z f1 (λ _=>yk) (Kr (v:=vP n 1) 10 Z f1 (λ _=>yk) (Kr (v:=vP n 1) 11 Z f1 (λ _=>yk) ?_)))⟩
 have eG:=eF.pf [3]
 refine qe 12 Z (Do.store (vs:= [T bU (X (j.a.b.a++ [(cz.q 9 b.a.r 0 0 0 0 0 0 0 0 b.a.u 0 0 0 0 O (ai.q [] []) (N []) (N []) (N []))])) bX]) (o:=1) eG Z Z W1 Z Z Z Z ?_)
 intro _ eH
 refine⟨.inl f1, (qn (KD (res0 Z) (nt (JS (JW (An Z (rt (rs ?_))))))))⟩
 have eQ:=(eH.px [] [3,7] []).pf [0,2]
 obtain⟨rfl,rfl,rfl⟩:=nM (zj hr (show _=(0,bD.q (bY.q (N (j.a.b.a++ [(cz.q 9 b.a.r 0 0 0 0 0 0 0 0 b.a.u 0 0 0 0 O (ai.q [] []) (N []) (N []) (N []))])) (N bI.a.a.a) j.a.g) (N j.b.a),aB.q (bH.q b.a.r b.a.y b.a.u b.a.z b.a.k (N b.a.b.a) (N a.a.g.a) (N a.a.j.a) b.a.t b.a.B b.a.s b.a.a) (N a.b.a)) from V (ip aD) (ae aJ)))
 exact⟨bU,bX,(l++ [(bM.q 9 b.a.r 0 0 0 0 0 0 0 0 b.a.u 0 0 0 0 O (ai.q [] []) (O4 p r []) (O4 Zk 0 []) (O4 Zk 0 []))]),dQ,dR,dS,dU,Z,eQ,(iP (es:= [(bM.q 9 b.a.r 0 0 0 0 0 0 0 0 b.a.u 0 0 0 0 O (ai.q [] []) (O4 p r []) (O4 Zk 0 []) (O4 Zk 0 []))]) (ms:= [(cz.q 9 b.a.r 0 0 0 0 0 0 0 0 b.a.u 0 0 0 0 O (ai.q [] []) (N []) (N []) (N []))]) B Z)⟩
 refine jF (dF aD) (sk (JS ?_))
 have bz:=aZ.px [] [0] []
 refine JW (Mz Z (Mz Z (Kz (vP n 0) (Kz (vP n 0) (Lz (vP d 0) bz 0 S5 (Kz (vP d 0) (Kz (vP d 0) (Kz (vP d 2) (Lz (vU a.a.u) bz 4 E0 (Kz (Zq (Zb (fT 9 0 0 0 0 0 0 0 0 0 a.a.u 0 0 0 0 O [] [] Zk 0 0 Zk 0 0 Zk 0 0))) (WL.do Z (Ki V6 Z ?_ (λ _ _ k=>k)))))))))))))
 refine cb V7 ?_
 refine sr (cB (fT 9 0 0 0 0 0 0 0 0 0 a.a.u 0 0 0 0 O [] [] Zk 0 0 Zk 0 0 Zk 0 0) 47 bz ?_)
 intro bA _ az
 refine ns (Mz Z (Kz (vP n 0) (Kz (vP n 0) (Lz (vP d 0) az 1 S5 (Kz (vP d 0) (Kz (vP d 0) (Kz (vP d 0) (Lz (vI a.a.r) az 5 B8 (Kz (vP bA 1) (cu [vI a.a.r] 1 az V8 ?_))))))))))
 intro _ aK
 refine ns (Kz (vP bA 18) (Lz (T Zk 0 0) aK 0 Q9 ?_))
 obtain⟨_,bB,_,bC,_⟩:=JZ aK
 refine cl V9 (fJ _ _ Zk 0 0 [] [] bB (λ _ _=>bV.nil _ _ _) Z i2 Z) ?_
 rintro _ _ ⟨g,h,rfl,bE⟩
 have aL:=bC _ _ bE
 have eX:=zr 0 aL
 refine Kz (vP bA 18) (cu [T g 0 h] 18 (aL.pf [1]) S6 ?_)
 intro _ cK
 refine nt (kL 8 [8,12] Kg cK ?_)
 intro _ cZ
 refine Kr (v:=vP n 0) 0 Z f1 (λ _=>J3 Z) (qv 1 Z Z (qp n 0 2 Z (qp n 1 3 Z (qp n 1 4 Z (ql 5 Z 2 W0 Z Z Z (qt (v:= Zq (Zb (fT 9 a.a.r 0 0 0 0 0 0 0 0 a.a.u 0 0 0 0 O [] [] g 0 h Zk 0 0 Zk 0 0))) 6 Z (λ _ ⟨_,H9⟩=>J5 Z (J7 (cs:=(fT 9 a.a.r 0 0 0 0 0 0 0 0 a.a.u 0 0 0 0 O [] [] g 0 h Zk 0 0 Zk 0 0)) I0 I2 ((H9.cls (i:=0) Z).lit (k:=0) (m:=21) Z))) (qd 7 Z (KF (cs:=(fT 9 a.a.r 0 0 0 0 0 0 0 0 a.a.u 0 0 0 0 O [] [] g 0 h Zk 0 0 Zk 0 0)) (t:=47) (sz:=21) (m:=1) cZ Z Z ZY Z f7 ?_))))))))
 intro df aA aC
 replace aC:=Ku (y:=row df 1 1 (q1 bM.L ([(bM.q 9 a.a.r 0 0 0 0 0 0 0 0 a.a.u 0 0 0 0 O (ai.q [] []) (O4 g h []) (O4 Zk 0 []) (O4 Zk 0 []))])) 47 21) Z aC
 have aM:=aC.pb [0]
 refine⟨.inr ⟨_,aM⟩, ?_⟩
 have di:=aM.sepNil.free (bW 65 3)
 have dm:=di.free (bW 83 2)
 have aN:=dm.pf [6,7,4,1]
 refine qd 8 Z (Kk (k:=X j.a.b.a) (m:=1) (qC) aN Z Z (eO S7 (aN.rds (i:=11) Z) (cO bM.one ([(bM.q 9 a.a.r 0 0 0 0 0 0 0 0 a.a.u 0 0 0 0 O (ai.q [] []) (O4 g h []) (O4 Zk 0 []) (O4 Zk 0 []))]))) Z U (s:=X (j.a.b.a++ [(cz.q 9 a.a.r 0 0 0 0 0 0 0 0 a.a.u 0 0 0 0 O (ai.q [] []) (N []) (N []) (N []))])) f6 (u3).symm ?_)
 intro aO aP dn dw
 have dz:=(dw.pf [1,2,3,4,5]).sepAdd (L2:= [row g 0 h (q1 aV.L []) 62 6,row Zk 0 0 (q1 aQ.L []) 65 3,row Zk 0 0 (q1 bF.L []) 83 2,sepL (q1 Kl [])]) (u3 (f:=Km) (xs:=l) (ys:= [(bM.q 9 a.a.r 0 0 0 0 0 0 0 0 a.a.u 0 0 0 0 O (ai.q [] []) (O4 g h []) (O4 Zk 0 []) (O4 Zk 0 []))])).symm
 have eY:X (j.a.b.a++ [(cz.q 9 a.a.r 0 0 0 0 0 0 0 0 a.a.u 0 0 0 0 O (ai.q [] []) (N []) (N []) (N []))])=X j.a.b.a+1:=by simp only [o3,q6,L0]
 have eZ:=bf (iP (es:= [(bM.q 9 a.a.r 0 0 0 0 0 0 0 0 a.a.u 0 0 0 0 O (ai.q [] []) (O4 g h []) (O4 Zk 0 []) (O4 Zk 0 []))]) (ms:= [(cz.q 9 a.a.r 0 0 0 0 0 0 0 0 a.a.u 0 0 0 0 O (ai.q [] []) (N []) (N []) (N []))]) B Z)
 refine⟨.inl f1, (Kr (v:=vP n 0) 9 Z f1 (λ _=>yk) (Kr (v:=vP n 1) 10 Z f1 (λ _=>yk) (Kr (v:=vP n 1) 11 Z f1 (λ _=>yk) ?_)))⟩
 have dA:=dz.pf [3]
 refine qe 12 Z (Do.store (vs:= [T aO (X (j.a.b.a++ [(cz.q 9 a.a.r 0 0 0 0 0 0 0 0 a.a.u 0 0 0 0 O (ai.q [] []) (N []) (N []) (N []))])) aP]) (o:=1) dA Z Z W1 Z Z Z Z ?_)
 intro _ dB
 refine⟨.inl f1, (qn (KD (res0 Z) (nt (JS (JW (An Z (rt (rs ?_))))))))⟩
 have dD:=(dB.px [] [3,7] []).pf [0,2]
 obtain⟨rfl,rfl,rfl⟩:=nM (zj hr (show _=(0,bD.q (bY.q (N (j.a.b.a++ [(cz.q 9 a.a.r 0 0 0 0 0 0 0 0 a.a.u 0 0 0 0 O (ai.q [] []) (N []) (N []) (N []))])) (N j.a.a.a) j.a.g) (N j.b.a),a) from iN aD)).symm
 exact⟨aO,aP,(l++ [(bM.q 9 a.a.r 0 0 0 0 0 0 0 0 a.a.u 0 0 0 0 O (ai.q [] []) (O4 g h []) (O4 Zk 0 []) (O4 Zk 0 []))]),Z3,Z4,u,z,Z,dD,(iP (es:= [(bM.q 9 a.a.r 0 0 0 0 0 0 0 0 a.a.u 0 0 0 0 O (ai.q [] []) (O4 g h []) (O4 Zk 0 []) (O4 Zk 0 []))]) (ms:= [(cz.q 9 a.a.r 0 0 0 0 0 0 0 0 a.a.u 0 0 0 0 O (ai.q [] []) (N []) (N []) (N []))]) B Z)⟩
def lG (f:ai):List aV->Nat->Unit ⊕ Bool
  | [],a=>G0 ()
  | d::e,a=>bnd (tJ d) λ b=>if b.2=0 then bnd (oq f b.1) λ c=>if c=Zj then lG f e (a+1) else G1 (Zw (¬ (((a:Nat):Int) >= 0))) else G1 (Zw (¬ (((a:Nat):Int) >= 0)))
def rz (a:List aV) (b:ai):Bool:=
 lp (lG b a 0) λ _=>decide (¬ ((-1) >= 0))
theorem AQ (w D A Z6 P c) (d:ai) (r0) (H:Own w D w []) (z:Ro w D λ w'=>bV w' 6 A Z6 (q1 aV.L c)) (Q:Z6=X c) (az:X c<=9223372036854775807) (hr:rz c d=r0):
    Calls y3 93 #[T A Z6 P, Zq (Zb (ai.L d))] w (dI λ v w'=>v= Y r0/\Own w D w' []):=by
 subst Q
 refine cb Tryz.func93 ?_
 refine sr (cB (ai.L d) 38 H ?_)
 intro t _ R
 refine Ar Z (Mz Z (Kz (.func (.func 153) #[] #[vP t 0]) (WL.do Z (Ki Tryz.call152 Z ?_ (λ _ _ k=>k)))))
 refine cb Tryz.func152 ?_
 refine sr (Ar Z (Mz Z (Mz Z (WL.do Z (Ki Tryz.call194 Z ?_ (λ _ _ k=>k))))))
 refine cb Tryz.func194 ?_
 refine sr (An Z (JS (sr (Mz Z (Kz (vJ (X c)) (Mn Z (bo ?_)))))))
 obtain⟨Z7,l⟩:=nI λ (a:Nat) w'=>Own w D w' [blk t (ai.L d) 38]/\a<=X c/\lG d c 0=lG d (r8 a c) a
 refine G3 (λ i:Nat=> [(4,vI 0),(8,vJ i),(7,vJ (X c)),(0, T A (X c) P),(1, .func (.func 153) #[] #[vP t 0])]) Z7 (λ i=>X c - i) 0 ⟨Z,Z,Z,Z,Z,ZV⟩ (l.2 ⟨(R.pf []),U,Z⟩) ?_
 rintro a _ B
 obtain⟨n,_,g⟩:=l.1 B
 refine sr (Kz (Za ((a:Int) < (X c:Int))) (nt (JS ?_)))
 by_cases C:(a:Int) < (X c:Int)
 obtain⟨j,y⟩:=dM (ls:=c) (i:=a) aV.len f7 (n.ro z) f5
 have o:=drop_at y
 refine jT (dT C) (sk (JS (bo (sr (Mz Z (Ar Z (Mz Z (Mz Z (Mz Z (fw (Zz (Zv ⟨ab A,ao A+a *6,Zk⟩)) (J9 (nH) Z Z ((n.ro z).addr (i:=a) U) U) (fw (Zq (Zb (aV.L j))) (J5 Z (J7 (cs:=(aV.L j)) Tryz.isAgg62 Tryz.sizeOf62 ((n.ro z).elem aV.len y f7))) (WL.do Z (KA Tryz.call153 Z Z ?_ (λ _ _ k=>k))))))))))))))
 refine cb Tryz.func153 (sr ?_)
 refine cB (aV.L j) 62 n ?_
 intro _ _ E
 refine Ar Z (La (aV.L j) E 0 Tryz.isAgg62 Tryz.sizeOf62 ?_)
 obtain⟨⟨f,p⟩,h⟩:=qq (tJ j)
 obtain⟨_,F,_,G,_⟩:=JZ E
 refine cl Tryz.call154 (wE _ _ j f p F h) ?_
 rintro _ _ ⟨rfl,I⟩
 refine Mz Z (Kz (Zq (Zb (ai.L f))) (Kz (vI p) (cB [Z9 ⟨Zb []⟩, Z9 ⟨Zb []⟩] 38 (G _ _ I) ?_)))
 intro _ _ Z4
 refine cu (ai.L f) 0 Z4 C5 ?_
 intro _ Z8
 refine An Z (JS ?_)
 have u:=Z8.pk [0,2]
 refine JW (Mz Z (fw (Za (¬ (p=0))) (Kc (e:= !(Zw (p=0))) yk ZW) (Mz Z ?_)))
 by_cases b:p=0
 refine gw (Zq (Zb (ai.L d))) (dF (Nu b)) (J5 Z (J7 (cs:=(ai.L d)) C6 C5 ((u.cls (i:=1) Z).lit (k:=0) (m:=2) Z))) (gw (Zq (Zb (ai.L f))) (dF (Nu b)) (J5 Z (J7 (cs:=(ai.L f)) C6 C5 ((u.cls (i:=0) Z).lit (k:=0) (m:=2) Z))) ?_)
 obtain⟨x,r⟩:=qq (oq d f)
 obtain⟨_,J,_,K,_⟩:=JZ u
 refine oI (dF (Nu b)) Tryz.call116 (tH _ _ d f x J r) ?_
 rintro _ _ ⟨rfl,L⟩
 have M:=K _ _ L
 refine gw (Y (!x)) (dF (Nu b)) yk (fw (Y (!x)) (JU Z (dF (Nu b)) Z) (An Z (rt (rs (nt ?_)))))
 rcases Nv (x) with s | s
 refine jF (cn s) (Ko (bN (JY (JW (fw (vJ (a+1)) (J4 (e:=D3.wrap ((a:Int)+1)) yk f4) (Mz Z (G2 ?_)))))))
 have Z2:=(M.pk [1]).pf []
 exact Kb (a+1) ⟨Z,Z,Z,Z,Z,ZV⟩ (l.2 ⟨Z2,U,V (g) (V (ZX (λ q=>lG d q a) o) (V (ae h) (V (ip b) (V (ae r) (ip s)))))⟩) (by show X c - (a+1) < X c - a; omega)
 refine jT (cn s) (JS (JW (Mz Z (An Z (rt (bR (tR (tR (bR (tR (rs (Kz (Za ((a:Int) >= 0)) (An Z (rt (rs (fw (Za (¬ ((a:Int) >= 0))) (Kc (e:= !(Zw ((a:Int) >= 0))) yk ZW) (An Z (rt (rs ?_)))))))))))))))))))
 have aa:=(M.pk [1]).pk []
 obtain rfl:_=Zw (¬ ((a:Int) >= 0)):=zj hr (iX (V (g) (V (ZX (λ q=>lG d q a) o) (V (ae h) (V (ip b) (V (ae r) (eD s)))))))
 exact⟨Z,aa⟩
 refine Sz (dT b) (Sz (dT b) (Sz (dT b) (Sz (dT b) (fw (Y Zj) (JX Z (dT b) Z) (An Z (rt (rs (nt (jt (JS (JW (Mz Z (An Z (rt (bR (tR (tR (bR (tR (rs (Kz (Za ((a:Int) >= 0)) (An Z (rt (rs (fw (Za (¬ ((a:Int) >= 0))) (Kc (e:= !(Zw ((a:Int) >= 0))) yk ZW) (An Z (rt (rs ?_))))))))))))))))))))))))))))
 have ag:=(u.pk [1]).pk []
 obtain rfl:_=Zw (¬ ((a:Int) >= 0)):=zj hr (iX (V (g) (V (ZX (λ q=>lG d q a) o) (V (ae h) (iN b)))))
 exact⟨Z,ag⟩
 refine jF (dF C) (H0 (Ka (Ka (Kh (JY (sr (An Z (rt (rs (Kz (Za ((-1) >= 0)) (An Z (rt (rs (fw (Za (¬ ((-1) >= 0))) (Kc (e:= !(Zw ((-1) >= 0))) yk ZW) (An Z (rt (rs ?_)))))))))))))))))
 obtain rfl:_=Zw (¬ ((-1) >= 0)):=zj hr (kH (V (g) (V (ZX (λ q=>lG d q a) (eU (ls:=c) (i:=a) U)) Z)))
 exact⟨Z,(n.pk [])⟩
def ja (e:ai):List ai->Nat->Unit ⊕ Bool
  | [],a=>G0 ()
  | c::d,a=>bnd (iZ c e) λ b=>if b.2=Zj then G1 (Zw (((a:Nat):Int) >= 0)) else ja e d (a+1)
def lV (b:aB) (c:ai):Bool:=
 bnd (jw b.a.b.a b.a.r Zj) λ a=>lp (ja c a 0) λ _=>decide ((-1) >= 0)
theorem uU (w D C) (a:aB) (d f l m n o p r s t) (g:ai) (r0) (H:Own w D w [blk C (kB a d (X a.a.b.a) f l (X a.a.g.a) m n (X a.a.j.a) o a.a.t s p (X a.b.a) r t) 78]) (J:Ro w D λ w'=>bV w' 2 d (X a.a.b.a) (q1 bF.L a.a.b.a)) (af:X a.a.b.a<=f/\X a.a.b.a<=9223372036854775807) (aJ:X a.a.b.a<=1000) (hr:lV a g=r0):
    Calls y3 92 #[vP C 0, Zq (Zb (ai.L g))] w (dI λ v w'=>v= Y r0/\Own w D w' [blk C (kB a d (X a.a.b.a) f l (X a.a.g.a) m n (X a.a.j.a) o a.a.t s p (X a.b.a) r t) 78]):=by
 refine cb Tryz.func92 ?_
 refine sr (cB (ai.L g) 38 H ?_)
 intro E _ ag
 refine An Z (JS (oZ [] (J6 Kg) ag ?_))
 intro _ ah
 refine qv 0 Z Z (qp C 0 1 Z (qp C 0 2 Z (qp C 5 3 Z (ql 4 Z 1 R8 Z Z Z (qv 5 Z Z (qp C 0 6 Z (qp C 0 7 Z (qp C 0 8 Z (ql 9 Z 1 B8 Z Z Z (qk (.func (.func 150) #[] #[vP E 0]) 11 Z ?_))))))))))
 obtain⟨c,u⟩:=qq (jw a.a.b.a a.a.r Zj)
 obtain⟨_,P,Q,R,_⟩:=JZ ah
 refine qd 10 Z (Ki V3 Z (tK _ _ d (X a.a.b.a) f a.a.b.a a.a.r Zj c P (Q _ J) Z U f2 u) ?_)
 rintro _ _ ⟨x,K,rfl,S,F⟩
 have Z7:=R _ _ S
 have aF:=zr 0 Z7
 replace F:=F
 have Z3:=Z7.pb [0]
 refine⟨.inr ⟨_,Z3⟩, (GX.do 12 Z f1 (Ki Tryz.call149 Z ?_ (λ _ _ k=>k)))⟩
 refine cb Tryz.func149 ?_
 refine sr (Ar Z (Mz Z (Mz Z (WL.do Z (Ki Tryz.call191 Z ?_ (λ _ _ k=>k))))))
 refine cb Tryz.func191 ?_
 refine sr (An Z (JS (sr (Mz Z (Kz (vJ (X c)) (Mn Z (bo ?_)))))))
 obtain⟨ak,y⟩:=nI λ (b:Nat) w'=>Own w D w' [blk E (ai.L g) 38,blk C (kB a d (X a.a.b.a) f l (X a.a.g.a) m n (X a.a.j.a) o a.a.t s p (X a.b.a) r t) 78,row x (X c) K (q1 ai.L c) 38 2]/\b<=X c/\ja g c 0=ja g (r8 b c) b
 refine G3 (λ i:Nat=> [(4,vI 0),(8,vJ i),(7,vJ (X c)),(0, T x (X c) K),(1, .func (.func 150) #[] #[vP E 0])]) ak (λ i=>X c - i) 0 ⟨Z,Z,Z,Z,Z,ZV⟩ (y.2 ⟨(Z3.pf []),U,Z⟩) ?_
 rintro b _ Z4
 obtain⟨h,_,z⟩:=y.1 Z4
 refine sr (Kz (Za ((b:Int) < (X c:Int))) (nt (JS ?_)))
 by_cases Z8:(b:Int) < (X c:Int)
 obtain⟨j,G⟩:=dM (ls:=c) (i:=b) ai.len f7 (h.rds (i:=2) Z) f5
 have I:=drop_at G
 refine jT (dT Z8) (sk (JS (bo (sr (Mz Z (Ar Z (Mz Z (Mz Z (Mz Z (fw (Zz (Zv ⟨ab x,ao x+b *2,Zk⟩)) (J9 (BH) Z Z ((h.rds (i:=2) Z).addr (i:=b) U) U) (fw (Zq (Zb (ai.L j))) (J5 Z (J7 (cs:=(ai.L j)) C6 C5 ((h.rds (i:=2) Z).elem ai.len G f7))) (WL.do Z (KA Tryz.call150 Z Z ?_ (λ _ _ k=>k))))))))))))))
 refine cb Tryz.func150 (sr ?_)
 refine cB (ai.L j) 38 h ?_
 intro _ _ L
 refine Ar Z (La (ai.L j) L 0 C6 C5 (La (ai.L g) L 1 C6 C5 ?_))
 obtain⟨⟨M,Z5⟩,A⟩:=qq (iZ j g)
 obtain⟨_,Z1,_,Z2,_⟩:=JZ L
 refine cl Tryz.call151 (nP _ _ j g M Z5 Z1 A) ?_
 rintro _ _ ⟨rfl,Z0⟩
 refine Mz Z (Kz (Zq (Zb (ai.L M))) (Kz (Y Z5) (cB [Z9 ⟨Zb []⟩, Z9 ⟨Zb []⟩] 38 (Z2 _ _ Z0) ?_)))
 intro _ _ av
 refine cu (ai.L M) 0 av C5 ?_
 intro _ ax
 refine An Z (JS ?_)
 have Z6:=ax.pk [2,3,4]
 refine JW (Mz Z (An Z (rt (rs (nt ?_)))))
 rcases Nv (Z5) with B | B
 refine jT B (sr (Mz Z (An Z (rt (bR (tR (tR (bR (tR (rs (Kz (Za ((b:Int) >= 0)) (An Z (rt (rs ⟨.inr ⟨_,Z6⟩, (qa 13 Z Z (qn (JY (rt (rs ?_)))))⟩))))))))))))))
 obtain rfl:_=Zw ((b:Int) >= 0):=zj hr (V (ae u) (iX (V (z) (V (ZX (λ q=>ja g q b) I) (V (ae A) (ip B))))))
 exact⟨Z,(Z6.pk [1])⟩
 refine jF B (Ko (bN (JY (JW (fw (vJ (b+1)) (J4 (e:=D3.wrap ((b:Int)+1)) yk f4) (Mz Z (G2 ?_)))))))
 exact Kb (b+1) ⟨Z,Z,Z,Z,Z,ZV⟩ (y.2 ⟨(Z6.pf []),U,V (z) (V (ZX (λ q=>ja g q b) I) (V (ae A) (eD B)))⟩) (by show X c - (b+1) < X c - b; omega)
 refine jF (dF Z8) (H0 (Ka (Ka (Kh (JY (sr (An Z (rt (rs (Kz (Za ((-1) >= 0)) (An Z (rt (rs ⟨.inr ⟨_,h⟩, (qa 13 Z Z (qn (JY (rt (rs ?_)))))⟩)))))))))))))
 obtain rfl:_=Zw ((-1) >= 0):=zj hr (V (ae u) (kH (V (z) (V (ZX (λ q=>ja g q b) (eU (ls:=c) (i:=b) U)) Z))))
 exact⟨Z,(h.pk [1])⟩
def eX (c:bD) (b:cz) (a:aB):Int × bD × aB:=
 if((b.k:Nat):Int)=0 then(0,c,a) else if((b.k:Nat):Int)=((a.a.k:Nat):Int) then bnd (lV a b.j) λ d=>if d=Zj then(0,c,a) else bnd (rz b.a.a b.j) λ e=>if e=Zj then if((b.k:Nat):Int)=((a.a.a.k:Nat):Int) then lp (if((b.s:Nat):Int) > ((a.a.a.s:Nat):Int) then if((b.C:Nat):Int)=0 then G0 (b.k,b.s,0,b.j.a,b.j.b) else G1 (0,c,a) else G0 (a.a.a.k,a.a.a.s,a.a.a.a,a.a.a.j.a,a.a.a.j.b)) λ sJrftbfbttJ=>if((b.s:Nat):Int) < ((sJrftbfbttJ.2.1:Nat):Int) then(0,c,aB.q (bH.q a.a.r a.a.y a.a.u a.a.z a.a.k (N a.a.b.a) (N a.a.g.a) (N a.a.j.a) a.a.t a.a.B a.a.s (fF.q sJrftbfbttJ.1 sJrftbfbttJ.2.1 sJrftbfbttJ.2.2.1 (ai.q sJrftbfbttJ.2.2.2.1 sJrftbfbttJ.2.2.2.2))) (N a.b.a)) else if((b.C:Nat):Int) > ((sJrftbfbttJ.2.2.1:Nat):Int) then(0,c,aB.q (bH.q a.a.r a.a.y a.a.u a.a.z a.a.k (N a.a.b.a) (N a.a.g.a) (N a.a.j.a) a.a.t a.a.B a.a.s (fF.q sJrftbfbttJ.1 sJrftbfbttJ.2.1 sJrftbfbttJ.2.2.1 (ai.q sJrftbfbttJ.2.2.2.1 sJrftbfbttJ.2.2.2.2))) (N a.b.a)) else if(b.j.a=sJrftbfbttJ.2.2.2.1)/\(b.j.b=sJrftbfbttJ.2.2.2.2) then if((b.C:Nat):Int)=((sJrftbfbttJ.2.2.1:Nat):Int) then(0,bD.q (bY.q (N (c.a.b.a++ [(cz.q 12 a.a.r b.D 0 0 0 0 0 0 0 0 0 b.k b.s b.C O (ai.q [] []) (N []) (N []) (N []))])) (N (c.a.a.a++b.a.a)) c.a.g) (N c.b.a),aB.q (bH.q a.a.r a.a.y a.a.u a.a.z a.a.k (N a.a.b.a) (N a.a.g.a) (N a.a.j.a) a.a.t a.a.B a.a.s (fF.q sJrftbfbttJ.1 sJrftbfbttJ.2.1 (W (H3.wrap (((sJrftbfbttJ.2.2.1:Nat):Int)+1))) (ai.q sJrftbfbttJ.2.2.2.1 sJrftbfbttJ.2.2.2.2))) (N a.b.a)) else(0,bD.q (bY.q (N (c.a.b.a++ [(cz.q 12 a.a.r b.D 0 0 0 0 0 0 0 0 0 b.k b.s b.C O (ai.q [] []) (N []) (N []) (N []))])) (N c.a.a.a) c.a.g) (N c.b.a),aB.q (bH.q a.a.r a.a.y a.a.u a.a.z a.a.k (N a.a.b.a) (N a.a.g.a) (N a.a.j.a) a.a.t a.a.B a.a.s (fF.q sJrftbfbttJ.1 sJrftbfbttJ.2.1 sJrftbfbttJ.2.2.1 (ai.q sJrftbfbttJ.2.2.2.1 sJrftbfbttJ.2.2.2.2))) (N a.b.a)) else(0,c,aB.q (bH.q a.a.r a.a.y a.a.u a.a.z a.a.k (N a.a.b.a) (N a.a.g.a) (N a.a.j.a) a.a.t a.a.B a.a.s (fF.q sJrftbfbttJ.1 sJrftbfbttJ.2.1 sJrftbfbttJ.2.2.1 (ai.q sJrftbfbttJ.2.2.2.1 sJrftbfbttJ.2.2.2.2))) (N a.b.a)) else if((b.C:Nat):Int)=0 then(0,bD.q (bY.q (N (c.a.b.a++ [(cz.q 12 a.a.r b.D 0 0 0 0 0 0 0 0 0 b.k b.s b.C O (ai.q [] []) (N []) (N []) (N []))])) (N (c.a.a.a++b.a.a)) c.a.g) (N c.b.a),aB.q (bH.q a.a.r a.a.y a.a.u a.a.z a.a.k (N a.a.b.a) (N a.a.g.a) (N a.a.j.a) a.a.t a.a.B a.a.s (fF.q b.k b.s 1 b.j)) (N a.b.a)) else(0,c,a) else(0,c,a) else(0,c,a)
theorem yB (w D B) (j:bD) (I J h C E aS aT) (b:cz) (aa bT af aN bU aO aU aP bX aR d) (a:aB) (Z2 Z3 ak au av ax ay az aA aC r0) (r1:bD) (r2:aB) (H:Own w D w [blk B [Zz (Zv ⟨d,0,Zk⟩), T I (X j.a.b.a) J, T C (X j.a.a.a) E, Y j.a.g, T aS (X j.b.a) aT] 92,row I (X j.a.b.a) J (q1 bM.L h) 47 21,sepL (q1 Km h),row C (X j.a.a.a) E (q1 aV.L j.a.a.a) 62 6,blk d (kB a Z2 (X a.a.b.a) Z3 ak (X a.a.g.a) au av (X a.a.j.a) ax a.a.t aA ay (X a.b.a) az aC) 78]) (l:s0 bM.abs h=j.a.b.a) (dP:bT=X b.a.a) (aL:Ro w D λ w'=>bV w' 6 aa (X b.a.a) (q1 aV.L b.a.a)) (iQ:X b.a.a<=af/\X b.a.a<=9223372036854775807) (dQ:s0 aQ.abs aU=b.B.a) (dR:bU=X b.B.a) (iR:Ro w D λ w'=>bV w' 3 aN (X b.B.a) (q1 aQ.L aU)) (iT:X b.B.a<=aO/\X b.B.a<=9223372036854775807) (iU:∀ x ∈ aU,Ro w D (λ w'=>bV w' 2 x.a.A (X x.a.a) (q1 aG.L x.a.a))/\(X x.a.a<=x.a.c/\X x.a.a<=9223372036854775807)) (dS:bX=X b.b.a) (iV:Ro w D λ w'=>bV w' 2 aP (X b.b.a) (q1 bF.L b.b.a)) (iW:X b.b.a<=aR/\X b.b.a<=9223372036854775807) (aW:Ro w D λ w'=>bV w' 2 Z2 (X a.a.b.a) (q1 bF.L a.a.b.a)) (eP:X a.a.b.a<=Z3/\X a.a.b.a<=9223372036854775807) (kY:X a.a.b.a<=1000/\X b.a.a<=24/\X j.a.a.a<=0/\X j.a.b.a<=1000) (hr:eX j b a=(r0,r1,r2)):
    Calls y3 42 #[vP B 0, Zq (Zb (fT b.g b.D b.E b.J b.F b.I b.G b.y b.r b.t b.u b.z b.k b.s b.C b.H b.j.a b.j.b aa bT af aN bU aO aP bX aR))] w (dI λ v w'=> ∃ aX aY aM aZ bg,v=vI r0/\Own w D w' [blk B [vP d 0, T aX (X r1.a.b.a) aY, T aZ (X r1.a.a.a) bg, Y j.a.g, T aS (X j.b.a) aT] 92,row aX (X r1.a.b.a) aY (q1 bM.L aM) 47 21,sepL (q1 Km aM),row aZ (X r1.a.a.a) bg (q1 aV.L r1.a.a.a) 62 6,blk d (kB r2 Z2 (X a.a.b.a) Z3 ak (X a.a.g.a) au av (X a.a.j.a) ax r2.a.t aA ay (X a.b.a) az aC) 78]/\(s0 bM.abs aM=r1.a.b.a)):=by
 subst dP dR dS
 have iM:=bf l
 have iO:=bf dQ
 have iY:=zr 1 H
 have iZ:=zr 3 H
 refine cb Tryz.func42 ?_
 refine sr (cB (jP b aa af aN aO aP aR) 47 H ?_)
 intro g _ eQ
 refine Ar Z (Mz Z (Kz (vP B 0) (Kz (vP B 0) (Lz (vP d 0) eQ 1 S5 (Kz (vP d 0) (Kz (vP d 0) (An Z (JS (JS (zu [] (J6 (J6 Kg)) eQ ?_))))))))))
 intro _ dU
 refine qp g 12 0 Z (ql 1 Z 0 E0 Z Z Z (qk (Za ((b.k:Int)=0)) 2 Z (qv 3 Z Z ?_)))
 by_cases n:(b.k:Int)=0
 refine JV (rs:= []) 4 Z Z Z (dT n) f1 (JV (rs:= []) 5 Z Z Z (dT n) f1 (JV (rs:= []) 6 Z Z Z (dT n) f1 (JV (rs:= []) 7 Z Z Z (dT n) f1 (JV (rs:= []) 8 Z Z Z (dT n) f1 (JV (rs:= []) 9 Z Z Z (dT n) f1 (JV (rs:= []) 10 Z Z Z (dT n) f1 (qt (v:= Y Zj) 11 Z (λ _ _=>JX Z (dT n) Z) (qv 12 Z Z (JV (rs:= []) 13 Z Z Z Z f1 (JV (rs:= []) 14 Z Z Z Z f1 (JV (rs:= []) 15 Z Z Z Z f1 (JV (rs:= []) 16 Z Z Z Z f1 (JV (rs:= []) 17 Z Z Z Z f1 (JV (rs:= []) 18 Z Z Z Z f1 (JV (rs:= []) 19 Z Z Z Z f1 (qt (v:= Y Zj) 20 Z (λ _ _=>QJ Z) (qv 21 Z Z (JV (rs:= []) 22 Z Z Z Z f1 (JV (rs:= []) 23 Z Z Z Z f1 (JV (rs:= []) 24 Z Z Z Z f1 (JV (rs:= []) 25 Z Z Z Z f1 (JV (rs:= []) 26 Z Z Z Z f1 (JV (rs:= []) 27 Z Z Z Z f1 (qt (v:= Y Zj) 28 Z (λ _ _=>QJ Z) (qn (JY (jt (sr (An Z (rt (tR (rs ?_))))))))))))))))))))))))))))))))
 have ja:=dU.px [] [0] []
 obtain⟨rfl,rfl,rfl⟩:=nM (zj hr (show _=(0,j,a) from ip n)).symm
 exact⟨I,J,h,C,E,Z,ja,l⟩
 refine J2 (v:=vP g 12) (rs:= []) 4 Z Z Z (dF n) f1 (λ _ _=>yk) (J2 (v:=vU b.k) (rs:= []) 5 Z Z Z (dF n) f1 (λ _ ⟨_,R⟩=>J5 Z (bO.one E0 (Kw (R.cls (i:=0) Z) Z))) (J2 (v:=vP d 0) (rs:= []) 6 Z Z Z (dF n) f1 (λ _ _=>J3 Z) (J2 (v:=vP d 0) (rs:= []) 7 Z Z Z (dF n) f1 (λ _ _=>yk) (J2 (v:=vP d 4) (rs:= []) 8 Z Z Z (dF n) f1 (λ _ _=>yk) (J2 (v:=vU a.a.k) (rs:= []) 9 Z Z Z (dF n) f1 (λ _ ⟨_,R⟩=>J5 Z (bO.one E0 (Kw (R.cls (i:=5) Z) Z))) (J2 (v:= Za (¬ ((b.k:Int)=(a.a.k:Int)))) (rs:= []) 10 Z Z Z (dF n) f1 (λ _ _=>Kc (e:= !(Zw ((b.k:Int)=(a.a.k:Int)))) yk ZW) (qt (v:= Za (¬ ((b.k:Int)=(a.a.k:Int)))) 11 Z (λ _ _=>JU Z (dF n) Z) (qv 12 Z Z ?_))))))))
 by_cases p:(b.k:Int)=(a.a.k:Int)
 refine J2 (v:=vP B 0) (rs:= []) 13 Z Z Z (dF (Nu p)) f1 (λ _ _=>J3 Z) (J2 (v:=vP B 0) (rs:= []) 14 Z Z Z (dF (Nu p)) f1 (λ _ _=>yk) (J2 (v:=vP B 0) (rs:= []) 15 Z Z Z (dF (Nu p)) f1 (λ _ _=>yk) (J2 (v:=vP d 0) (rs:= []) 16 Z Z Z (dF (Nu p)) f1 (λ _ ⟨_,R⟩=>J5 Z (bO.one S5 (Kw (R.cls (i:=1) Z) Z))) (J2 (v:=vP g 16) (rs:= []) 17 Z Z Z (dF (Nu p)) f1 (λ _ _=>yk) (J2 (v:= Zq (Zb (ai.L b.j))) (rs:= []) 18 Z Z Z (dF (Nu p)) f1 (λ _ ⟨_,R⟩=>J5 Z (J7 (cs:=(ai.L b.j)) C6 C5 ((R.cls (i:=0) Z).lit (k:=16) (m:=2) Z))) ?_)))))
 have jb:=dU.pf [5]
 obtain⟨dV,Z7⟩:=qq (lV a b.j)
 obtain⟨_,eU,eY,eZ,_⟩:=Kt jb
 refine KG 19 Z Z Z (decide_eq_false (Nu p)) f1 (Ki Tryz.call92 Z (uU _ _ d a Z2 Z3 ak au av ax ay az aA aC b.j dV eU (eY _ aW) U f2 Z7) ?_)
 rintro _ _ ⟨rfl,fe⟩
 have jc:=eZ _ _ fe
 have dW:=jc.pb [0]
 refine⟨.inr ⟨_,dW⟩, (qt (v:= Y dV) 20 Z (λ _ _=>JU Z (dF (Nu p)) Z) (qv 21 Z Z ?_))⟩
 rcases Nv (dV) with z | z
 refine JV (rs:= []) 22 Z Z Z z f1 (JV (rs:= []) 23 Z Z Z z f1 (JV (rs:= []) 24 Z Z Z z f1 (JV (rs:= []) 25 Z Z Z z f1 (JV (rs:= []) 26 Z Z Z z f1 (JV (rs:= []) 27 Z Z Z z f1 (qt (v:= Y Zj) 28 Z (λ _ _=>JX Z z Z) (qn (JY (jt (sr (An Z (rt (tR (rs ?_))))))))))))))
 have jd:=dW.px [] [0] []
 obtain⟨rfl,rfl,rfl⟩:=nM (zj hr (show _=(0,j,a) from V (iN n) (V (ip p) (V (ae Z7) (ip z))))).symm
 exact⟨I,J,h,C,E,Z,jd,l⟩
 refine J2 (v:=vP g 18) (rs:= []) 22 Z Z Z z f1 (λ _ _=>yk) (J2 (v:= T aa (X b.a.a) af) (rs:= []) 23 Z Z Z z f1 (λ _ ⟨_,R⟩=>J5 Z (bO.one Q9 (Kw (R.cls (i:=0) Z) Z))) (J2 (v:=vP g 16) (rs:= []) 24 Z Z Z z f1 (λ _ _=>yk) (J2 (v:= Zq (Zb (ai.L b.j))) (rs:= []) 25 Z Z Z z f1 (λ _ ⟨_,R⟩=>J5 Z (J7 (cs:=(ai.L b.j)) C6 C5 ((R.cls (i:=0) Z).lit (k:=16) (m:=2) Z))) ?_)))
 obtain⟨bP,Z8⟩:=qq (rz b.a.a b.j)
 obtain⟨_,fo,fq,fu,_⟩:=JZ dW
 refine KG 26 Z Z Z z f1 (Ki Tryz.call93 Z (AQ _ _ aa (X b.a.a) af b.a.a b.j bP fo (fq _ aL) Z U Z8) ?_)
 rintro _ _ ⟨rfl,fA⟩
 have dX:=fu _ _ fA
 refine⟨.inr ⟨_,dX⟩, (J2 (v:= Y (!bP)) (rs:= []) 27 Z Z Z z f1 (λ _ _=>yk) (qt (v:= Y (!bP)) 28 Z (λ _ _=>JU Z z Z) (qn (JY ?_))))⟩
 rcases Nv (bP) with ag | ag
 refine jF (cn ag) (sk (JS (JS (zu [] (J6 (J6 Kg)) dX ?_))))
 intro _ Z0
 refine qp g 12 0 Z (ql 1 Z 0 E0 Z Z Z (qv 2 Z Z (qp d 0 3 Z (qp d 12 4 Z (qp d 12 5 Z (ql 6 Z 5 E0 Z Z Z (qt (v:= Za (¬ ((b.k:Int)=(a.a.a.k:Int)))) 7 Z (λ _ _=>Kc (e:= !(Zw ((b.k:Int)=(a.a.a.k:Int)))) yk ZW) (qv 8 Z Z ?_))))))))
 by_cases r:(b.k:Int)=(a.a.a.k:Int)
 refine J2 (v:=vP g 13) (rs:= []) 9 Z Z Z (dF (Nu r)) f1 (λ _ _=>yk) (J2 (v:=vU b.s) (rs:= []) 10 Z Z Z (dF (Nu r)) f1 (λ _ ⟨_,R⟩=>J5 Z (bO.one E0 (Kw (R.cls (i:=0) Z) Z))) (J2 (v:=vP d 0) (rs:= []) 11 Z Z Z (dF (Nu r)) f1 (λ _ _=>J3 Z) (J2 (v:=vP d 0) (rs:= []) 12 Z Z Z (dF (Nu r)) f1 (λ _ _=>yk) (J2 (v:=vP d 12) (rs:= []) 13 Z Z Z (dF (Nu r)) f1 (λ _ _=>yk) (J2 (v:=vP d 13) (rs:= []) 14 Z Z Z (dF (Nu r)) f1 (λ _ _=>yk) (J2 (v:=vU a.a.a.s) (rs:= []) 15 Z Z Z (dF (Nu r)) f1 (λ _ ⟨_,R⟩=>J5 Z (bO.one E0 (Kw (R.cls (i:=5) Z) Z))) (J2 (v:= Za ((b.s:Int) > (a.a.a.s:Int))) (rs:= []) 16 Z Z Z (dF (Nu r)) f1 (λ _ _=>yk) (qt (v:= Za ((b.s:Int) > (a.a.a.s:Int))) 17 Z (λ _ _=>JU Z (dF (Nu r)) Z) (qn (JY ?_))))))))))
 obtain⟨je,bi⟩:=GH λ (ah:Nat) (aj:Nat) (S:Nat) Z4 Z1 w'=>Own w D w' [blk g (jP b aa af aN aO aP aR) 47,blk B [vP d 0, T I (X j.a.b.a) J, T C (X j.a.a.a) E, Y j.a.g, T aS (X j.b.a) aT] 92,blk d [vI a.a.r,vU a.a.y,vU a.a.u,vU a.a.z,vU a.a.k, T Z2 (X a.a.b.a) Z3, T ak (X a.a.g.a) au, T av (X a.a.j.a) ax,vU a.a.t,vU a.a.B, Z9 ⟨Zb a.a.s.a⟩, Z9 ⟨Zb a.a.s.b⟩,vU ah,vU aj,vU S, Z9 ⟨Zb Z4⟩, Z9 ⟨Zb Z1⟩, .iface 27 (vP aA 0), T ay (X a.b.a) az,vP aC 0, Zz Zk] 78,row I (X j.a.b.a) J (q1 bM.L h) 47 21,sepL (q1 Km h),row C (X j.a.a.a) E (q1 aV.L j.a.a.a) 62 6]/\ah<=b.k/\ah >= b.k/\ah<=a.a.a.k/\ah >= a.a.a.k/\aj >= b.s/\aj >= a.a.a.s/\(if(b.s:Int) > (a.a.a.s:Int) then if(b.C:Int)=0 then G0 (b.k,b.s,0,b.j.a,b.j.b) else G1 (0,j,a) else G0 (a.a.a.k,a.a.a.s,a.a.a.a,a.a.a.j.a,a.a.a.j.b))=(G0 (ah,aj,S,Z4,Z1):(Nat × Nat × Nat × (List UInt8) × (List UInt8)) ⊕ (Int × bD × aB))
 refine K5 (λ i:Nat × Nat × Nat × (List UInt8) × (List UInt8)=> [(4,vI 0),(5,vP d 0),(3,vP g 0),(0,vP B 0)]) je ?_ ?_
 by_cases bn:(b.s:Int) > (a.a.a.s:Int)
 refine jT (dT bn) (JS (sr (Kz (vP g 14) (Lz (vU b.C) Z0 0 E0 (fw (Za (¬ ((b.C:Int)=0))) (Kc (e:= !(Zw ((b.C:Int)=0))) yk ZW) (nt ?_))))))
 by_cases bQ:(b.C:Int)=0
 refine jF (dF (Nu bQ)) (sk (JW (Mz Z (Kz (vP g 12) (Lz (vU b.k) Z0 0 E0 (Kz (vP g 13) (Lz (vU b.s) Z0 0 E0 (Kz (vP g 16) (La (ai.L b.j) Z0 0 C6 C5 (Kz (Zq #[vU b.k,vU b.s, .int .u64 0, Z9 ⟨Zb b.j.a⟩, Z9 ⟨Zb b.j.b⟩]) (Kz (vP d 0) (Kz (vP d 12) ?_))))))))))))
 have jg:=Z0.pf [5]
 refine cu [vU b.k,vU b.s, .int .u64 0, Z9 ⟨Zb b.j.a⟩, Z9 ⟨Zb b.j.b⟩] 12 jg V5 ?_
 intro _ jh
 refine G2 ?_
 have ji:=jh.pf [1,2]
 exact KM (b.k,b.s,0,b.j.a,b.j.b) ⟨Z,Z,Z,Z,ZV⟩ (bi.2 ⟨ji,U,U,U,U,U,U,V (ip bn) (ip bQ)⟩)
 refine jT (dT bQ) (sr (An Z (rt (tR (tR (rs ?_))))))
 have jk:=Z0.px [] [0] []
 obtain⟨rfl,rfl,rfl⟩:=nM (zj hr (show _=(0,j,a) from V (iN n) (V (ip p) (V (ae Z7) (V (eD z) (V (ae Z8) (V (ip ag) (V (ip r) (iX (V (ip bn) (iN bQ))))))))))).symm
 exact⟨I,J,h,C,E,Z,jk,l⟩
 refine jF (dF bn) (Ko ?_)
 have jl:=Z0.pb [2,3,4]
 exact KM (a.a.a.k,a.a.a.s,a.a.a.a,a.a.a.j.a,a.a.a.j.b) ⟨Z,Z,Z,Z,ZV⟩ (bi.2 ⟨jl,U,U,U,U,U,U,iN bn⟩)
 rintro ⟨ah,aj,S,Z4,Z1⟩ _ fB
 obtain⟨jm,_,_,_,_,_,_,aD⟩:=bi.1 fB
 refine JS (JS (zu [] (J6 (J6 Kg)) jm ?_))
 intro _ bR
 refine qp g 13 0 Z (ql 1 Z 0 E0 Z Z Z (qv 2 Z Z (qp d 0 3 Z (qp d 12 4 Z (qp d 13 5 Z (ql 6 Z 2 E0 Z Z Z (qk (Za ((b.s:Int) < (aj:Int))) 7 Z (qv 8 Z Z ?_))))))))
 by_cases F:(b.s:Int) < (aj:Int)
 refine JV (rs:= []) 9 Z Z Z (dT F) f1 (JV (rs:= []) 10 Z Z Z (dT F) f1 (JV (rs:= []) 11 Z Z Z (dT F) f1 (JV (rs:= []) 12 Z Z Z (dT F) f1 (JV (rs:= []) 13 Z Z Z (dT F) f1 (JV (rs:= []) 14 Z Z Z (dT F) f1 (JV (rs:= []) 15 Z Z Z (dT F) f1 (JV (rs:= []) 16 Z Z Z (dT F) f1 (qt (v:= Y Zj) 17 Z (λ _ _=>JX Z (dT F) Z) (qv 18 Z Z (JV (rs:= []) 19 Z Z Z Z f1 (JV (rs:= []) 20 Z Z Z Z f1 (JV (rs:= []) 21 Z Z Z Z f1 (JV (rs:= []) 22 Z Z Z Z f1 (JV (rs:= []) 23 Z Z Z Z f1 (JV (rs:= []) 24 Z Z Z Z f1 (JV (rs:= []) 25 Z Z Z Z f1 (JV (rs:= []) 26 Z Z Z Z f1 (qt (v:= Y Zj) 27 Z (λ _ _=>QJ Z) (qn (JY (jt (sr (An Z (rt (tR (rs ?_))))))))))))))))))))))))))
 have jo:=bR.px [] [0] [2]
 obtain⟨rfl,rfl,rfl⟩:=nM (zj hr (show _=(0,j,aB.q (bH.q a.a.r a.a.y a.a.u a.a.z a.a.k (N a.a.b.a) (N a.a.g.a) (N a.a.j.a) a.a.t a.a.B a.a.s (fF.q ah aj S (ai.q Z4 Z1))) (N a.b.a)) from V (iN n) (V (ip p) (V (ae Z7) (V (eD z) (V (ae Z8) (V (ip ag) (V (ip r) (V (kH aD) (ip F)))))))))).symm
 exact⟨I,J,h,C,E,Z,jo,l⟩
 refine J2 (v:=vP g 14) (rs:= []) 9 Z Z Z (dF F) f1 (λ _ _=>yk) (J2 (v:=vU b.C) (rs:= []) 10 Z Z Z (dF F) f1 (λ _ ⟨_,R⟩=>J5 Z (bO.one E0 (Kw (R.cls (i:=0) Z) Z))) (J2 (v:=vP d 0) (rs:= []) 11 Z Z Z (dF F) f1 (λ _ _=>J3 Z) (J2 (v:=vP d 0) (rs:= []) 12 Z Z Z (dF F) f1 (λ _ _=>yk) (J2 (v:=vP d 12) (rs:= []) 13 Z Z Z (dF F) f1 (λ _ _=>yk) (J2 (v:=vP d 14) (rs:= []) 14 Z Z Z (dF F) f1 (λ _ _=>yk) (J2 (v:=vU S) (rs:= []) 15 Z Z Z (dF F) f1 (λ _ ⟨_,R⟩=>J5 Z (bO.one E0 (Kw (R.cls (i:=2) Z) Z))) (J2 (v:= Za ((b.C:Int) > (S:Int))) (rs:= []) 16 Z Z Z (dF F) f1 (λ _ _=>yk) (qt (v:= Za ((b.C:Int) > (S:Int))) 17 Z (λ _ _=>JU Z (dF F) Z) (qv 18 Z Z ?_)))))))))
 by_cases G:(b.C:Int) > (S:Int)
 refine JV (rs:= []) 19 Z Z Z (dT G) f1 (JV (rs:= []) 20 Z Z Z (dT G) f1 (JV (rs:= []) 21 Z Z Z (dT G) f1 (JV (rs:= []) 22 Z Z Z (dT G) f1 (JV (rs:= []) 23 Z Z Z (dT G) f1 (JV (rs:= []) 24 Z Z Z (dT G) f1 (JV (rs:= []) 25 Z Z Z (dT G) f1 (JV (rs:= []) 26 Z Z Z (dT G) f1 (qt (v:= Y Zj) 27 Z (λ _ _=>JX Z (dT G) Z) (qn (JY (jt (sr (An Z (rt (tR (rs ?_))))))))))))))))
 have jq:=bR.px [] [0] [2]
 obtain⟨rfl,rfl,rfl⟩:=nM (zj hr (show _=(0,j,aB.q (bH.q a.a.r a.a.y a.a.u a.a.z a.a.k (N a.a.b.a) (N a.a.g.a) (N a.a.j.a) a.a.t a.a.B a.a.s (fF.q ah aj S (ai.q Z4 Z1))) (N a.b.a)) from V (iN n) (V (ip p) (V (ae Z7) (V (eD z) (V (ae Z8) (V (ip ag) (V (ip r) (V (kH aD) (V (iN F) (ip G))))))))))).symm
 exact⟨I,J,h,C,E,Z,jq,l⟩
 refine J2 (v:=vP g 16) (rs:= []) 19 Z Z Z (dF G) f1 (λ _ _=>yk) (J2 (v:= Zq (Zb (ai.L b.j))) (rs:= []) 20 Z Z Z (dF G) f1 (λ _ ⟨_,R⟩=>J5 Z (J7 (cs:=(ai.L b.j)) C6 C5 ((R.cls (i:=0) Z).lit (k:=16) (m:=2) Z))) (J2 (v:=vP d 0) (rs:= []) 21 Z Z Z (dF G) f1 (λ _ _=>J3 Z) (J2 (v:=vP d 0) (rs:= []) 22 Z Z Z (dF G) f1 (λ _ _=>yk) (J2 (v:=vP d 12) (rs:= []) 23 Z Z Z (dF G) f1 (λ _ _=>yk) (J2 (v:=vP d 15) (rs:= []) 24 Z Z Z (dF G) f1 (λ _ _=>yk) (J2 (v:= Zq #[Z9 ⟨Zb Z4⟩, Z9 ⟨Zb Z1⟩]) (rs:= []) 25 Z Z Z (dF G) f1 (λ _ ⟨_,R⟩=>J5 Z (J7 (cs:= [Z9 ⟨Zb Z4⟩, Z9 ⟨Zb Z1⟩]) C6 C5 ((R.cls (i:=2) Z).lit (k:=15) (m:=2) Z))) (J2 (v:= Za (¬ ((b.j.a=Z4)/\(b.j.b=Z1)))) (rs:= []) 26 Z Z Z (dF G) f1 (λ _ _=>Kc (e:= !(Zw ((b.j.a=Z4)/\(b.j.b=Z1)))) (KL Z Z f1 Z (fK.struct C4 f1 (KI (eH.cons (u:= Z9 ⟨Zb b.j.a⟩) (v:= Z9 ⟨Zb Z4⟩) f7 ZY ZY (fK.string B3) (eH.cons (u:= Z9 ⟨Zb b.j.b⟩) (v:= Z9 ⟨Zb Z1⟩) f7 ZY ZY (fK.string B3) (eH.nil.up (Nt _)))) ((ZX (Zw (b.j.a=Z4) && ·) jB).trans eT)))) ZW) (qt (v:= Za (¬ ((b.j.a=Z4)/\(b.j.b=Z1)))) 27 Z (λ _ _=>JU Z (dF G) Z) (qn (JY ?_))))))))))
 by_cases bq:(b.j.a=Z4)/\(b.j.b=Z1)
 refine jF (dF (Nu bq)) (sk (JS (JS (zu [] (J6 (J6 Kg)) bR ?_))))
 intro _ aF
 refine qp g 14 0 Z (ql 1 Z 0 E0 Z Z Z (qv 2 Z Z (qp d 0 3 Z (qp d 12 4 Z (qp d 14 5 Z (ql 6 Z 2 E0 Z Z Z (qk (Za ((b.C:Int)=(S:Int))) 7 Z (qn (JY ?_)))))))))
 by_cases bS:(b.C:Int)=(S:Int)
 refine jT (dT bS) (sr (Mz Z (Kz (vP g 18) (Lz (T aa (X b.a.a) af) aF 0 Q9 (WL.do Z (Ki V1 Z ?_ (λ _ _ k=>k)))))))
 refine cb V2 ?_
 refine JW (Mz Z (Mz Z (Kz (vP B 0) (Kz (vP B 1) (Kz (vP B 2) (Lz (T C (X j.a.a.a) E) aF 1 Q9 (Mz Z ?_)))))))
 have fC:=aF.pf [5]
 refine WL.do Z (Kk (k:=X j.a.a.a) (m:=X b.a.a) (nH) fC Z Z (eO Q8 (fC.ro aL) (cO aV.one b.a.a)) Z U (s:=X (j.a.a.a++b.a.a)) f6 (u3).symm ?_)
 intro fD fE _ jr
 have j4:X (j.a.a.a++b.a.a)=X j.a.a.a+X b.a.a:=by simp only [o3,q6,L0]
 refine Kz (vP B 0) (Kz (vP B 1) (Kz (vP B 2) ?_))
 have jv:=jr.pf [2]
 refine cu [T fD (X (j.a.a.a++b.a.a)) fE] 2 jv S6 ?_
 intro _ bZ
 refine G2 (KD (res0 Z) (nt (JW (Mz Z (Kz (vP d 0) (Kz (vP d 12) (Kz (vP d 14) (Lz (vU S) bZ 3 E0 (fw (.int .u64 ((W (H3.wrap ((S:Int)+1)):Nat):Int)) (J4 (e:=H3.wrap ((S:Int)+1)) yk (kW _)) (Kz (vP d 0) (Kz (vP d 12) (Kz (vP d 14) ?_))))))))))))
 have fG:=bZ.pf [3]
 refine cu [.int .u64 ((W (H3.wrap ((S:Int)+1)):Nat):Int)] 14 fG I3 ?_
 intro _ aH
 refine ns (Mz Z (Kz (vP g 1) (Lz (vI b.D) aH 3 B8 (Kz (vP g 12) (Lz (vU b.k) aH 3 E0 (Kz (vP g 13) (Lz (vU b.s) aH 3 E0 (Kz (vP g 14) (Lz (vU b.C) aH 3 E0 (Kz (Zq (Zb (fT 12 0 b.D 0 0 0 0 0 0 0 0 0 b.k b.s b.C O [] [] Zk 0 0 Zk 0 0 Zk 0 0))) (WL.do Z (Ki V6 Z ?_ (λ _ _ k=>k)))))))))))))
 refine cb V7 ?_
 refine sr (cB (fT 12 0 b.D 0 0 0 0 0 0 0 0 0 b.k b.s b.C O [] [] Zk 0 0 Zk 0 0 Zk 0 0) 47 aH ?_)
 intro bu _ bv
 refine ns (Mz Z (Kz (vP B 0) (Kz (vP B 0) (Lz (vP d 0) bv 2 S5 (Kz (vP d 0) (Kz (vP d 0) (Kz (vP d 0) (Lz (vI a.a.r) bv 1 B8 (Kz (vP bu 1) (cu [vI a.a.r] 1 bv V8 ?_))))))))))
 intro _ cK
 refine ns (Kz (vP bu 18) (Lz (T Zk 0 0) cK 0 Q9 ?_))
 obtain⟨_,dY,_,dZ,_⟩:=JZ cK
 refine cl V9 (fJ _ _ Zk 0 0 [] [] dY (λ _ _=>bV.nil _ _ _) Z i2 Z) ?_
 rintro _ _ ⟨L,M,rfl,d9⟩
 have cZ:=dZ _ _ d9
 have jA:=zr 0 cZ
 refine Kz (vP bu 18) ?_
 have fH:=cZ.pf [1]
 refine cu [T L 0 M] 18 fH S6 ?_
 intro _ fI
 refine nt (kL 8 [8,12] Kg fI ?_)
 intro _ fM
 refine Kr (v:=vP B 0) 0 Z f1 (λ _=>J3 Z) (qv 1 Z Z (qp B 0 2 Z (qp B 1 3 Z (qp B 1 4 Z (ql 5 Z 3 W0 Z Z Z (qt (v:= Zq (Zb (fT 12 a.a.r b.D 0 0 0 0 0 0 0 0 0 b.k b.s b.C O [] [] L 0 M Zk 0 0 Zk 0 0))) 6 Z (λ _ ⟨_,R⟩=>J5 Z (J7 (cs:=(fT 12 a.a.r b.D 0 0 0 0 0 0 0 0 0 b.k b.s b.C O [] [] L 0 M Zk 0 0 Zk 0 0)) I0 I2 ((R.cls (i:=0) Z).lit (k:=0) (m:=21) Z))) (qd 7 Z (KF (cs:=(fT 12 a.a.r b.D 0 0 0 0 0 0 0 0 0 b.k b.s b.C O [] [] L 0 M Zk 0 0 Zk 0 0)) (t:=47) (sz:=21) (m:=1) fM Z Z ZY Z f7 ?_))))))))
 intro fO bz bA
 replace bA:=Ku (y:=row fO 1 1 (q1 bM.L ([(bM.q 12 a.a.r b.D 0 0 0 0 0 0 0 0 0 b.k b.s b.C O (ai.q [] []) (O4 L M []) (O4 Zk 0 []) (O4 Zk 0 []))])) 47 21) Z bA
 have df:=bA.pb [0]
 refine⟨.inr ⟨_,df⟩, ?_⟩
 have fP:=df.sepNil
 have fQ:=fP.free (bW 65 3)
 have fU:=fQ.free (bW 83 2)
 have dh:=fU.pf [9,10,4,1]
 refine qd 8 Z (Kk (k:=X j.a.b.a) (m:=1) (qC) dh Z Z (eO S7 (dh.rds (i:=11) Z) (cO bM.one ([(bM.q 12 a.a.r b.D 0 0 0 0 0 0 0 0 0 b.k b.s b.C O (ai.q [] []) (O4 L M []) (O4 Zk 0 []) (O4 Zk 0 []))]))) Z U (s:=X (j.a.b.a++ [(cz.q 12 a.a.r b.D 0 0 0 0 0 0 0 0 0 b.k b.s b.C O (ai.q [] []) (N []) (N []) (N []))])) f6 (u3).symm ?_)
 intro di dm fV fZ
 have gm:=fZ.pf [1,2,3,4,5]
 have gp:=gm.sepAdd (L2:= [row L 0 M (q1 aV.L []) 62 6,row Zk 0 0 (q1 aQ.L []) 65 3,row Zk 0 0 (q1 bF.L []) 83 2,sepL (q1 Kl [])]) (u3 (f:=Km) (xs:=h) (ys:= [(bM.q 12 a.a.r b.D 0 0 0 0 0 0 0 0 0 b.k b.s b.C O (ai.q [] []) (O4 L M []) (O4 Zk 0 []) (O4 Zk 0 []))])).symm
 have jC:X (j.a.b.a++ [(cz.q 12 a.a.r b.D 0 0 0 0 0 0 0 0 0 b.k b.s b.C O (ai.q [] []) (N []) (N []) (N []))])=X j.a.b.a+1:=by simp only [o3,q6,L0]
 have jD:=bf (iP (es:= [(bM.q 12 a.a.r b.D 0 0 0 0 0 0 0 0 0 b.k b.s b.C O (ai.q [] []) (O4 L M []) (O4 Zk 0 []) (O4 Zk 0 []))]) (ms:= [(cz.q 12 a.a.r b.D 0 0 0 0 0 0 0 0 0 b.k b.s b.C O (ai.q [] []) (N []) (N []) (N []))]) l Z)
 refine⟨.inl f1, (Kr (v:=vP B 0) 9 Z f1 (λ _=>yk) (Kr (v:=vP B 1) 10 Z f1 (λ _=>yk) (Kr (v:=vP B 1) 11 Z f1 (λ _=>yk) ?_)))⟩
 have gq:=gp.pf [4]
 refine qe 12 Z (Do.store (vs:= [T di (X (j.a.b.a++ [(cz.q 12 a.a.r b.D 0 0 0 0 0 0 0 0 0 b.k b.s b.C O (ai.q [] []) (N []) (N []) (N []))])) dm]) (o:=1) gq Z Z W1 Z Z Z Z ?_)
 intro _ gu
 refine⟨.inl f1, (qn (KD (res0 Z) (nt (JS ?_))))⟩
 have gy:=gu.pk [0,1,2,4,5]
 refine JW (An Z (rt (rs ?_)))
 have gz:=gy.pb [1,4,3]
 obtain⟨rfl,rfl,rfl⟩:=nM (zj hr (show _=(0,bD.q (bY.q (N (j.a.b.a++ [(cz.q 12 a.a.r b.D 0 0 0 0 0 0 0 0 0 b.k b.s b.C O (ai.q [] []) (N []) (N []) (N []))])) (N (j.a.a.a++b.a.a)) j.a.g) (N j.b.a),aB.q (bH.q a.a.r a.a.y a.a.u a.a.z a.a.k (N a.a.b.a) (N a.a.g.a) (N a.a.j.a) a.a.t a.a.B a.a.s (fF.q ah aj (W (H3.wrap ((S:Int)+1))) (ai.q Z4 Z1))) (N a.b.a)) from V (iN n) (V (ip p) (V (ae Z7) (V (eD z) (V (ae Z8) (V (ip ag) (V (ip r) (V (kH aD) (V (iN F) (V (iN G) (V (ip bq) (ip bS)))))))))))))
 exact⟨di,dm,(h++ [(bM.q 12 a.a.r b.D 0 0 0 0 0 0 0 0 0 b.k b.s b.C O (ai.q [] []) (O4 L M []) (O4 Zk 0 []) (O4 Zk 0 []))]),fD,fE,Z,gz,(iP (es:= [(bM.q 12 a.a.r b.D 0 0 0 0 0 0 0 0 0 b.k b.s b.C O (ai.q [] []) (O4 L M []) (O4 Zk 0 []) (O4 Zk 0 []))]) (ms:= [(cz.q 12 a.a.r b.D 0 0 0 0 0 0 0 0 0 b.k b.s b.C O (ai.q [] []) (N []) (N []) (N []))]) l Z)⟩
 refine jF (dF bS) (sk (sr (Mz Z (Kz (vP g 1) (Lz (vI b.D) aF 0 B8 (Kz (vP g 12) (Lz (vU b.k) aF 0 E0 (Kz (vP g 13) (Lz (vU b.s) aF 0 E0 (Kz (vP g 14) (Lz (vU b.C) aF 0 E0 (Kz (Zq (Zb (fT 12 0 b.D 0 0 0 0 0 0 0 0 0 b.k b.s b.C O [] [] Zk 0 0 Zk 0 0 Zk 0 0))) (WL.do Z (Ki V6 Z ?_ (λ _ _ k=>k)))))))))))))))
 refine cb V7 ?_
 refine sr (cB (fT 12 0 b.D 0 0 0 0 0 0 0 0 0 b.k b.s b.C O [] [] Zk 0 0 Zk 0 0 Zk 0 0) 47 aF ?_)
 intro bB _ bC
 refine ns (Mz Z (Kz (vP B 0) (Kz (vP B 0) (Lz (vP d 0) bC 2 S5 (Kz (vP d 0) (Kz (vP d 0) (Kz (vP d 0) (Lz (vI a.a.r) bC 3 B8 (Kz (vP bB 1) (cu [vI a.a.r] 1 bC V8 ?_))))))))))
 intro _ dn
 refine ns (Kz (vP bB 18) (Lz (T Zk 0 0) dn 0 Q9 ?_))
 obtain⟨_,ed,_,ek,_⟩:=JZ dn
 refine cl V9 (fJ _ _ Zk 0 0 [] [] ed (λ _ _=>bV.nil _ _ _) Z i2 Z) ?_
 rintro _ _ ⟨Z5,Z6,rfl,eu⟩
 have dw:=ek _ _ eu
 have jH:=zr 0 dw
 refine Kz (vP bB 18) ?_
 have gB:=dw.pf [1]
 refine cu [T Z5 0 Z6] 18 gB S6 ?_
 intro _ gD
 refine nt (kL 8 [8,12] Kg gD ?_)
 intro _ gF
 refine Kr (v:=vP B 0) 0 Z f1 (λ _=>J3 Z) (qv 1 Z Z (qp B 0 2 Z (qp B 1 3 Z (qp B 1 4 Z (ql 5 Z 3 W0 Z Z Z (qt (v:= Zq (Zb (fT 12 a.a.r b.D 0 0 0 0 0 0 0 0 0 b.k b.s b.C O [] [] Z5 0 Z6 Zk 0 0 Zk 0 0))) 6 Z (λ _ ⟨_,R⟩=>J5 Z (J7 (cs:=(fT 12 a.a.r b.D 0 0 0 0 0 0 0 0 0 b.k b.s b.C O [] [] Z5 0 Z6 Zk 0 0 Zk 0 0)) I0 I2 ((R.cls (i:=0) Z).lit (k:=0) (m:=21) Z))) (qd 7 Z (KF (cs:=(fT 12 a.a.r b.D 0 0 0 0 0 0 0 0 0 b.k b.s b.C O [] [] Z5 0 Z6 Zk 0 0 Zk 0 0)) (t:=47) (sz:=21) (m:=1) gF Z Z ZY Z f7 ?_))))))))
 intro gG bE bG
 replace bG:=Ku (y:=row gG 1 1 (q1 bM.L ([(bM.q 12 a.a.r b.D 0 0 0 0 0 0 0 0 0 b.k b.s b.C O (ai.q [] []) (O4 Z5 Z6 []) (O4 Zk 0 []) (O4 Zk 0 []))])) 47 21) Z bG
 have dx:=bG.pb [0]
 refine⟨.inr ⟨_,dx⟩, ?_⟩
 have gH:=dx.sepNil
 have gI:=gH.free (bW 65 3)
 have gJ:=gI.free (bW 83 2)
 have dz:=gJ.pf [8,9,4,1]
 refine qd 8 Z (Kk (k:=X j.a.b.a) (m:=1) (qC) dz Z Z (eO S7 (dz.rds (i:=11) Z) (cO bM.one ([(bM.q 12 a.a.r b.D 0 0 0 0 0 0 0 0 0 b.k b.s b.C O (ai.q [] []) (O4 Z5 Z6 []) (O4 Zk 0 []) (O4 Zk 0 []))]))) Z U (s:=X (j.a.b.a++ [(cz.q 12 a.a.r b.D 0 0 0 0 0 0 0 0 0 b.k b.s b.C O (ai.q [] []) (N []) (N []) (N []))])) f6 (u3).symm ?_)
 intro dA dB gK gL
 have gM:=gL.pf [1,2,3,4,5]
 have gN:=gM.sepAdd (L2:= [row Z5 0 Z6 (q1 aV.L []) 62 6,row Zk 0 0 (q1 aQ.L []) 65 3,row Zk 0 0 (q1 bF.L []) 83 2,sepL (q1 Kl [])]) (u3 (f:=Km) (xs:=h) (ys:= [(bM.q 12 a.a.r b.D 0 0 0 0 0 0 0 0 0 b.k b.s b.C O (ai.q [] []) (O4 Z5 Z6 []) (O4 Zk 0 []) (O4 Zk 0 []))])).symm
 have jI:X (j.a.b.a++ [(cz.q 12 a.a.r b.D 0 0 0 0 0 0 0 0 0 b.k b.s b.C O (ai.q [] []) (N []) (N []) (N []))])=X j.a.b.a+1:=by simp only [o3,q6,L0]
 have jJ:=bf (iP (es:= [(bM.q 12 a.a.r b.D 0 0 0 0 0 0 0 0 0 b.k b.s b.C O (ai.q [] []) (O4 Z5 Z6 []) (O4 Zk 0 []) (O4 Zk 0 []))]) (ms:= [(cz.q 12 a.a.r b.D 0 0 0 0 0 0 0 0 0 b.k b.s b.C O (ai.q [] []) (N []) (N []) (N []))]) l Z)
 refine⟨.inl f1, (Kr (v:=vP B 0) 9 Z f1 (λ _=>yk) (Kr (v:=vP B 1) 10 Z f1 (λ _=>yk) (Kr (v:=vP B 1) 11 Z f1 (λ _=>yk) ?_)))⟩
 have gP:=gN.pf [4]
 refine qe 12 Z (Do.store (vs:= [T dA (X (j.a.b.a++ [(cz.q 12 a.a.r b.D 0 0 0 0 0 0 0 0 0 b.k b.s b.C O (ai.q [] []) (N []) (N []) (N []))])) dB]) (o:=1) gP Z Z W1 Z Z Z Z ?_)
 intro _ gQ
 refine⟨.inl f1, (qn (KD (res0 Z) (nt (JS ?_))))⟩
 have gT:=gQ.pk [0,1,2,5,6]
 refine JW (An Z (rt (rs ?_)))
 have gU:=gT.pb [1,4,3]
 obtain⟨rfl,rfl,rfl⟩:=nM (zj hr (show _=(0,bD.q (bY.q (N (j.a.b.a++ [(cz.q 12 a.a.r b.D 0 0 0 0 0 0 0 0 0 b.k b.s b.C O (ai.q [] []) (N []) (N []) (N []))])) (N j.a.a.a) j.a.g) (N j.b.a),aB.q (bH.q a.a.r a.a.y a.a.u a.a.z a.a.k (N a.a.b.a) (N a.a.g.a) (N a.a.j.a) a.a.t a.a.B a.a.s (fF.q ah aj S (ai.q Z4 Z1))) (N a.b.a)) from V (iN n) (V (ip p) (V (ae Z7) (V (eD z) (V (ae Z8) (V (ip ag) (V (ip r) (V (kH aD) (V (iN F) (V (iN G) (V (ip bq) (iN bS)))))))))))))
 exact⟨dA,dB,(h++ [(bM.q 12 a.a.r b.D 0 0 0 0 0 0 0 0 0 b.k b.s b.C O (ai.q [] []) (O4 Z5 Z6 []) (O4 Zk 0 []) (O4 Zk 0 []))]),C,E,Z,gU,(iP (es:= [(bM.q 12 a.a.r b.D 0 0 0 0 0 0 0 0 0 b.k b.s b.C O (ai.q [] []) (O4 Z5 Z6 []) (O4 Zk 0 []) (O4 Zk 0 []))]) (ms:= [(cz.q 12 a.a.r b.D 0 0 0 0 0 0 0 0 0 b.k b.s b.C O (ai.q [] []) (N []) (N []) (N []))]) l Z)⟩
 refine jT (dT bq) (sr (An Z (rt (tR (rs ?_)))))
 have gV:=bR.px [] [0] [2]
 obtain⟨rfl,rfl,rfl⟩:=nM (zj hr (show _=(0,j,aB.q (bH.q a.a.r a.a.y a.a.u a.a.z a.a.k (N a.a.b.a) (N a.a.g.a) (N a.a.j.a) a.a.t a.a.B a.a.s (fF.q ah aj S (ai.q Z4 Z1))) (N a.b.a)) from V (iN n) (V (ip p) (V (ae Z7) (V (eD z) (V (ae Z8) (V (ip ag) (V (ip r) (V (kH aD) (V (iN F) (V (iN G) (iN bq)))))))))))).symm
 exact⟨I,J,h,C,E,Z,gV,l⟩
 refine JV (rs:= []) 9 Z Z Z (dT r) f1 (JV (rs:= []) 10 Z Z Z (dT r) f1 (JV (rs:= []) 11 Z Z Z (dT r) f1 (JV (rs:= []) 12 Z Z Z (dT r) f1 (JV (rs:= []) 13 Z Z Z (dT r) f1 (JV (rs:= []) 14 Z Z Z (dT r) f1 (JV (rs:= []) 15 Z Z Z (dT r) f1 (JV (rs:= []) 16 Z Z Z (dT r) f1 (qt (v:= Y Zj) 17 Z (λ _ _=>JX Z (dT r) Z) (qn (JY (jt (JS (sr (Kz (vP g 14) (Lz (vU b.C) Z0 0 E0 (fw (Za (¬ ((b.C:Int)=0))) (Kc (e:= !(Zw ((b.C:Int)=0))) yk ZW) (nt ?_)))))))))))))))))
 by_cases aI:(b.C:Int)=0
 refine jF (dF (Nu aI)) (sk (JW (Mz Z (Kz (vP g 12) (Lz (vU b.k) Z0 0 E0 (Kz (vP g 13) (Lz (vU b.s) Z0 0 E0 (Kz (vP g 16) (La (ai.L b.j) Z0 0 C6 C5 (Kz (Zq #[vU b.k,vU b.s, .int .u64 0, Z9 ⟨Zb b.j.a⟩, Z9 ⟨Zb b.j.b⟩]) (Kz (vP d 0) (Kz (vP d 12) ?_))))))))))))
 have gW:=Z0.pf [5]
 refine cu [vU b.k,vU b.s, .int .u64 0, Z9 ⟨Zb b.j.a⟩, Z9 ⟨Zb b.j.b⟩] 12 gW V5 ?_
 intro _ gX
 refine nt (JS (JS (zu [] (J6 (J6 Kg)) gX ?_)))
 intro _ gY
 refine qp g 13 0 Z (ql 1 Z 1 E0 Z Z Z (qv 2 Z Z (qp d 0 3 Z (qp d 12 4 Z (qp d 13 5 Z (ql 6 Z 0 E0 Z Z Z (qt (v:= Y O) 7 Z (λ _ _=>Kc (e:=Zw ((b.s:Int) < (b.s:Int))) yk i2) (qv 8 Z Z (J2 (v:=vP g 14) (rs:= []) 9 Z Z Z Z f1 (λ _ _=>yk) (J2 (v:=vU b.C) (rs:= []) 10 Z Z Z Z f1 (λ _ ⟨_,R⟩=>J5 Z (bO.one E0 (Kw (R.cls (i:=1) Z) Z))) (J2 (v:=vP d 0) (rs:= []) 11 Z Z Z Z f1 (λ _ _=>J3 Z) (J2 (v:=vP d 0) (rs:= []) 12 Z Z Z Z f1 (λ _ _=>yk) (J2 (v:=vP d 12) (rs:= []) 13 Z Z Z Z f1 (λ _ _=>yk) (J2 (v:=vP d 14) (rs:= []) 14 Z Z Z Z f1 (λ _ _=>yk) (J2 (v:= .int .u64 0) (rs:= []) 15 Z Z Z Z f1 (λ _ ⟨_,R⟩=>J5 Z (bO.one E0 (Kw (R.cls (i:=0) Z) Z))) (J2 (v:= Za ((b.C:Int) > 0)) (rs:= []) 16 Z Z Z Z f1 (λ _ _=>yk) (qt (v:= Za ((b.C:Int) > 0)) 17 Z (λ _ _=>QK Z) (qv 18 Z Z ?_))))))))))))))))))
 have K:(Zw ((b.C:Int) > 0))=O:=(dF U)
 refine J2 (v:=vP g 16) (rs:= []) 19 Z Z Z K f1 (λ _ _=>yk) (J2 (v:= Zq (Zb (ai.L b.j))) (rs:= []) 20 Z Z Z K f1 (λ _ ⟨_,R⟩=>J5 Z (J7 (cs:=(ai.L b.j)) C6 C5 ((R.cls (i:=1) Z).lit (k:=16) (m:=2) Z))) (J2 (v:=vP d 0) (rs:= []) 21 Z Z Z K f1 (λ _ _=>J3 Z) (J2 (v:=vP d 0) (rs:= []) 22 Z Z Z K f1 (λ _ _=>yk) (J2 (v:=vP d 12) (rs:= []) 23 Z Z Z K f1 (λ _ _=>yk) (J2 (v:=vP d 15) (rs:= []) 24 Z Z Z K f1 (λ _ _=>yk) (J2 (v:= Zq (Zb (ai.L b.j))) (rs:= []) 25 Z Z Z K f1 (λ _ ⟨_,R⟩=>J5 Z (J7 (cs:=(ai.L b.j)) C6 C5 ((R.cls (i:=0) Z).lit (k:=15) (m:=2) Z))) (J2 (v:= Y O) (rs:= []) 26 Z Z Z K f1 (λ _ _=>Kc (e:= !(Zw ((b.j.a=b.j.a)/\(b.j.b=b.j.b)))) (KL Z Z f1 Z (fK.struct C4 f1 (KI (eH.cons (u:= Z9 ⟨Zb b.j.a⟩) (v:= Z9 ⟨Zb b.j.a⟩) f7 ZY ZY (fK.string B3) (eH.cons (u:= Z9 ⟨Zb b.j.b⟩) (v:= Z9 ⟨Zb b.j.b⟩) f7 ZY ZY (fK.string B3) (eH.nil.up (Nt _)))) ((ZX (Zw (b.j.a=b.j.a) && ·) jB).trans eT)))) i2) (qt (v:= Y O) 27 Z (λ _ _=>JU Z K Z) (qn (JY (jf (sk (JS (JS (zu [] (J6 (J6 Kg)) gY ?_)))))))))))))))
 intro _ bI
 refine qp g 14 0 Z (ql 1 Z 1 E0 Z Z Z (qv 2 Z Z (qp d 0 3 Z (qp d 12 4 Z (qp d 14 5 Z (ql 6 Z 0 E0 Z Z Z (qk (Za ((b.C:Int)=0)) 7 Z (qn (JY (jT (dT aI) (sr (Mz Z (Kz (vP g 18) (Lz (T aa (X b.a.a) af) bI 1 Q9 (WL.do Z (Ki V1 Z ?_ (λ _ _ k=>k)))))))))))))))))
 refine cb V2 ?_
 refine JW (Mz Z (Mz Z (Kz (vP B 0) (Kz (vP B 1) (Kz (vP B 2) (Lz (T C (X j.a.a.a) E) bI 2 Q9 (Mz Z ?_)))))))
 have dC:=bI.pf [5]
 refine WL.do Z (Kk (k:=X j.a.a.a) (m:=X b.a.a) (nH) dC Z Z (eO Q8 (dC.ro aL) (cO aV.one b.a.a)) Z U (s:=X (j.a.a.a++b.a.a)) f6 (u3).symm ?_)
 intro dD dE _ gZ
 have jK:X (j.a.a.a++b.a.a)=X j.a.a.a+X b.a.a:=by simp only [o3,q6,L0]
 refine Kz (vP B 0) (Kz (vP B 1) (Kz (vP B 2) ?_))
 have ib:=gZ.pf [3]
 refine cu [T dD (X (j.a.a.a++b.a.a)) dE] 2 ib S6 ?_
 intro _ dG
 refine G2 (KD (res0 Z) (nt (JW (Mz Z (Kz (vP d 0) (Kz (vP d 12) (Kz (vP d 14) (Lz (.int .u64 0) dG 2 E0 (Kz (.int .u64 1) (Kz (vP d 0) (Kz (vP d 12) (Kz (vP d 14) ?_))))))))))))
 have ic:=dG.pf [2]
 refine cu [.int .u64 1] 14 ic I3 ?_
 intro _ aJ
 refine ns (Mz Z (Kz (vP g 1) (Lz (vI b.D) aJ 3 B8 (Kz (vP g 12) (Lz (vU b.k) aJ 3 E0 (Kz (vP g 13) (Lz (vU b.s) aJ 3 E0 (Kz (vP g 14) (Lz (vU b.C) aJ 3 E0 (Kz (Zq (Zb (fT 12 0 b.D 0 0 0 0 0 0 0 0 0 b.k b.s b.C O [] [] Zk 0 0 Zk 0 0 Zk 0 0))) (WL.do Z (Ki V6 Z ?_ (λ _ _ k=>k)))))))))))))
 refine cb V7 ?_
 refine sr ?_
 refine cB (fT 12 0 b.D 0 0 0 0 0 0 0 0 0 b.k b.s b.C O [] [] Zk 0 0 Zk 0 0 Zk 0 0) 47 aJ ?_
 intro bJ _ bK
 refine ns (Mz Z (Kz (vP B 0) (Kz (vP B 0) (Lz (vP d 0) bK 2 S5 (Kz (vP d 0) (Kz (vP d 0) (Kz (vP d 0) (Lz (vI a.a.r) bK 1 B8 (Kz (vP bJ 1) (cu [vI a.a.r] 1 bK V8 ?_))))))))))
 intro _ dH
 refine ns (Kz (vP bJ 18) (Lz (T Zk 0 0) dH 0 Q9 ?_))
 obtain⟨_,eB,_,eF,_⟩:=JZ dH
 refine cl V9 (fJ _ _ Zk 0 0 [] [] eB (λ _ _=>bV.nil _ _ _) Z i2 Z) ?_
 rintro _ _ ⟨P,Q,rfl,eG⟩
 have dJ:=eF _ _ eG
 have jN:=zr 0 dJ
 refine Kz (vP bJ 18) ?_
 have ig:=dJ.pf [1]
 refine cu [T P 0 Q] 18 ig S6 ?_
 intro _ ik
 refine nt (kL 8 [8,12] Kg ik ?_)
 intro _ il
 refine Kr (v:=vP B 0) 0 Z f1 (λ _=>J3 Z) (qv 1 Z Z (qp B 0 2 Z (qp B 1 3 Z (qp B 1 4 Z (ql 5 Z 3 W0 Z Z Z (qt (v:= Zq (Zb (fT 12 a.a.r b.D 0 0 0 0 0 0 0 0 0 b.k b.s b.C O [] [] P 0 Q Zk 0 0 Zk 0 0))) 6 Z (λ _ ⟨_,R⟩=>J5 Z (J7 (cs:=(fT 12 a.a.r b.D 0 0 0 0 0 0 0 0 0 b.k b.s b.C O [] [] P 0 Q Zk 0 0 Zk 0 0)) I0 I2 ((R.cls (i:=0) Z).lit (k:=0) (m:=21) Z))) (qd 7 Z (KF (cs:=(fT 12 a.a.r b.D 0 0 0 0 0 0 0 0 0 b.k b.s b.C O [] [] P 0 Q Zk 0 0 Zk 0 0)) (t:=47) (sz:=21) (m:=1) il Z Z ZY Z f7 ?_))))))))
 intro iq bL bN
 replace bN:=Ku (y:=row iq 1 1 (q1 bM.L ([(bM.q 12 a.a.r b.D 0 0 0 0 0 0 0 0 0 b.k b.s b.C O (ai.q [] []) (O4 P Q []) (O4 Zk 0 []) (O4 Zk 0 []))])) 47 21) Z bN
 have dK:=bN.pb [0]
 refine⟨.inr ⟨_,dK⟩, ?_⟩
 have iw:=dK.sepNil
 have iy:=iw.free (bW 65 3)
 have iA:=iy.free (bW 83 2)
 have dL:=iA.pf [9,10,4,1]
 refine qd 8 Z (Kk (k:=X j.a.b.a) (m:=1) (qC) dL Z Z (eO S7 (dL.rds (i:=11) Z) (cO bM.one ([(bM.q 12 a.a.r b.D 0 0 0 0 0 0 0 0 0 b.k b.s b.C O (ai.q [] []) (O4 P Q []) (O4 Zk 0 []) (O4 Zk 0 []))]))) Z U (s:=X (j.a.b.a++ [(cz.q 12 a.a.r b.D 0 0 0 0 0 0 0 0 0 b.k b.s b.C O (ai.q [] []) (N []) (N []) (N []))])) f6 (u3).symm ?_)
 intro dM dN iB iC
 have iD:=iC.pf [1,2,3,4,5]
 have iE:=iD.sepAdd (L2:= [row P 0 Q (q1 aV.L []) 62 6,row Zk 0 0 (q1 aQ.L []) 65 3,row Zk 0 0 (q1 bF.L []) 83 2,sepL (q1 Kl [])]) (u3 (f:=Km) (xs:=h) (ys:= [(bM.q 12 a.a.r b.D 0 0 0 0 0 0 0 0 0 b.k b.s b.C O (ai.q [] []) (O4 P Q []) (O4 Zk 0 []) (O4 Zk 0 []))])).symm
 have jO:X (j.a.b.a++ [(cz.q 12 a.a.r b.D 0 0 0 0 0 0 0 0 0 b.k b.s b.C O (ai.q [] []) (N []) (N []) (N []))])=X j.a.b.a+1:=by simp only [o3,q6,L0]
 have jQ:=bf (iP (es:= [(bM.q 12 a.a.r b.D 0 0 0 0 0 0 0 0 0 b.k b.s b.C O (ai.q [] []) (O4 P Q []) (O4 Zk 0 []) (O4 Zk 0 []))]) (ms:= [(cz.q 12 a.a.r b.D 0 0 0 0 0 0 0 0 0 b.k b.s b.C O (ai.q [] []) (N []) (N []) (N []))]) l Z)
 refine⟨.inl f1, (Kr (v:=vP B 0) 9 Z f1 (λ _=>yk) (Kr (v:=vP B 1) 10 Z f1 (λ _=>yk) (Kr (v:=vP B 1) 11 Z f1 (λ _=>yk) ?_)))⟩
 have iF:=iE.pf [4]
 refine qe 12 Z (Do.store (vs:= [T dM (X (j.a.b.a++ [(cz.q 12 a.a.r b.D 0 0 0 0 0 0 0 0 0 b.k b.s b.C O (ai.q [] []) (N []) (N []) (N []))])) dN]) (o:=1) iF Z Z W1 Z Z Z Z ?_)
 intro _ iG
 refine⟨.inl f1, (qn (KD (res0 Z) (nt (JS ?_))))⟩
 have iH:=iG.pk [0,1,2,4,5]
 refine JW (An Z (rt (rs ?_)))
 have iI:=iH.pb [1,4,3]
 obtain⟨rfl,rfl,rfl⟩:=nM (zj hr (show _=(0,bD.q (bY.q (N (j.a.b.a++ [(cz.q 12 a.a.r b.D 0 0 0 0 0 0 0 0 0 b.k b.s b.C O (ai.q [] []) (N []) (N []) (N []))])) (N (j.a.a.a++b.a.a)) j.a.g) (N j.b.a),aB.q (bH.q a.a.r a.a.y a.a.u a.a.z a.a.k (N a.a.b.a) (N a.a.g.a) (N a.a.j.a) a.a.t a.a.B a.a.s (fF.q b.k b.s 1 b.j)) (N a.b.a)) from V (iN n) (V (ip p) (V (ae Z7) (V (eD z) (V (ae Z8) (V (ip ag) (V (iN r) (ip aI)))))))))
 exact⟨dM,dN,(h++ [(bM.q 12 a.a.r b.D 0 0 0 0 0 0 0 0 0 b.k b.s b.C O (ai.q [] []) (O4 P Q []) (O4 Zk 0 []) (O4 Zk 0 []))]),dD,dE,Z,iI,(iP (es:= [(bM.q 12 a.a.r b.D 0 0 0 0 0 0 0 0 0 b.k b.s b.C O (ai.q [] []) (O4 P Q []) (O4 Zk 0 []) (O4 Zk 0 []))]) (ms:= [(cz.q 12 a.a.r b.D 0 0 0 0 0 0 0 0 0 b.k b.s b.C O (ai.q [] []) (N []) (N []) (N []))]) l Z)⟩
 refine jT (dT aI) (sr (An Z (rt (tR (tR (rs ?_))))))
 have iJ:=Z0.px [] [0] []
 obtain⟨rfl,rfl,rfl⟩:=nM (zj hr (show _=(0,j,a) from V (iN n) (V (ip p) (V (ae Z7) (V (eD z) (V (ae Z8) (V (ip ag) (V (iN r) (iN aI))))))))).symm
 exact⟨I,J,h,C,E,Z,iJ,l⟩
 refine jT (cn ag) (sr (An Z (rt (tR (rs ?_)))))
 have iK:=dX.px [] [0] []
 obtain⟨rfl,rfl,rfl⟩:=nM (zj hr (show _=(0,j,a) from V (iN n) (V (ip p) (V (ae Z7) (V (eD z) (V (ae Z8) (eD ag))))))).symm
 exact⟨I,J,h,C,E,Z,iK,l⟩
 refine JV (rs:= []) 13 Z Z Z (dT p) f1 (JV (rs:= []) 14 Z Z Z (dT p) f1 (JV (rs:= []) 15 Z Z Z (dT p) f1 (JV (rs:= []) 16 Z Z Z (dT p) f1 (JV (rs:= []) 17 Z Z Z (dT p) f1 (JV (rs:= []) 18 Z Z Z (dT p) f1 (JV (rs:= []) 19 Z Z Z (dT p) f1 (qt (v:= Y Zj) 20 Z (λ _ _=>JX Z (dT p) Z) (qv 21 Z Z (JV (rs:= []) 22 Z Z Z Z f1 (JV (rs:= []) 23 Z Z Z Z f1 (JV (rs:= []) 24 Z Z Z Z f1 (JV (rs:= []) 25 Z Z Z Z f1 (JV (rs:= []) 26 Z Z Z Z f1 (JV (rs:= []) 27 Z Z Z Z f1 (qt (v:= Y Zj) 28 Z (λ _ _=>QJ Z) (qn (JY (jt (sr (An Z (rt (tR (rs ?_)))))))))))))))))))))))
 have iL:=dU.px [] [0] []
 obtain⟨rfl,rfl,rfl⟩:=nM (zj hr (show _=(0,j,a) from V (iN n) (iN p))).symm
 exact⟨I,J,h,C,E,Z,iL,l⟩
def rO (b:bD) (c:cz) (a:aB):Int × bD:=
 (0,b)
theorem xe (w D Q) (y:bD) (z B C E F G) (b:cz) (o I p q J r s t K u d) (a:aB) (e f g h i j k l m n r0) (r1:bD) (H:Own w D w [blk Q [Zz (Zv ⟨d,0,Zk⟩), T z (X y.a.b.a) B, T C (X y.a.a.a) E, Y y.a.g, T F (X y.b.a) G] 92,blk d (kB a e (X a.a.b.a) f g (X a.a.g.a) h i (X a.a.j.a) j a.a.t m k (X a.b.a) l n) 78]) (L:I=X b.a.a) (S:Ro w D λ w'=>bV w' 6 o (X b.a.a) (q1 aV.L b.a.a)) (Z7:X b.a.a<=p/\X b.a.a<=9223372036854775807) (M:s0 aQ.abs s=b.B.a) (Z5:J=X b.B.a) (Z3:Ro w D λ w'=>bV w' 3 q (X b.B.a) (q1 aQ.L s)) (Z4:X b.B.a<=r/\X b.B.a<=9223372036854775807) (Z8:∀ x ∈ s,Ro w D (λ w'=>bV w' 2 x.a.A (X x.a.a) (q1 aG.L x.a.a))/\(X x.a.a<=x.a.c/\X x.a.a<=9223372036854775807)) (Z6:K=X b.b.a) (Z1:Ro w D λ w'=>bV w' 2 t (X b.b.a) (q1 bF.L b.b.a)) (Z2:X b.b.a<=u/\X b.b.a<=9223372036854775807) (hr:rO y b a=(r0,r1)):
    Calls y3 43 #[vP Q 0, Zq (Zb (fT b.g b.D b.E b.J b.F b.I b.G b.y b.r b.t b.u b.z b.k b.s b.C b.H b.j.a b.j.b o I p q J r t K u))] w (dI λ v w'=>v=vI r0/\Own w D w' [blk Q [vP d 0, T z (X y.a.b.a) B, T C (X y.a.a.a) E, Y y.a.g, T F (X y.b.a) G] 92,blk d (kB a e (X a.a.b.a) f g (X a.a.g.a) h i (X a.a.j.a) j a.a.t m k (X a.b.a) l n) 78]):=by
 subst L Z5 Z6
 have R:=bf M
 refine cb Tryz.func43 ?_
 refine sr ?_
 refine cB (jP b o p q r t u) 47 H ?_
 intro _ _ P
 refine Ar Z (Mz Z (Kz (vP Q 0) (Kz (vP Q 0) (Lz (vP d 0) P 1 S5 (Kz (vP d 0) (Kz (vP d 20) (Lz (Zz Zk) P 2 Tryz.isAgg76 (An Z (JS (JS (yH [] (J6 (J6 Kg)) P ?_)))))))))))
 intro _ Z0
 refine qv 0 Z Z (qk (Y Zj) 1 Z (qv 2 Z Z (JV (rs:= []) 3 Z Z Z Z f1 (JV (rs:= []) 4 Z Z Z Z f1 (JV (rs:= []) 5 Z Z Z Z f1 (JV (rs:= []) 6 Z Z Z Z f1 (JV (rs:= []) 7 Z Z Z Z f1 (JV (rs:= []) 8 Z Z Z Z f1 (JV (rs:= []) 9 Z Z Z Z f1 (qt (v:= Y Zj) 10 Z (λ _ _=>QJ Z) (qv 11 Z Z (JV (rs:= []) 12 Z Z Z Z f1 (JV (rs:= []) 13 Z Z Z Z f1 (JV (rs:= []) 14 Z Z Z Z f1 (JV (rs:= []) 15 Z Z Z Z f1 (JV (rs:= []) 16 Z Z Z Z f1 (JV (rs:= []) 17 Z Z Z Z f1 (JV (rs:= []) 18 Z Z Z Z f1 (qt (v:= Y Zj) 19 Z (λ _ _=>QJ Z) (qv 20 Z Z (JV (rs:= []) 21 Z Z Z Z f1 (JV (rs:= []) 22 Z Z Z Z f1 (JV (rs:= []) 23 Z Z Z Z f1 (JV (rs:= []) 24 Z Z Z Z f1 (JV (rs:= []) 25 Z Z Z Z f1 (JV (rs:= []) 26 Z Z Z Z f1 (JV (rs:= []) 27 Z Z Z Z f1 (JV (rs:= []) 28 Z Z Z Z f1 (JV (rs:= []) 29 Z Z Z Z f1 (JV (rs:= []) 30 Z Z Z Z f1 (JV (rs:= []) 31 Z Z Z Z f1 (qt (v:= Y Zj) 32 Z (λ _ _=>QJ Z) (qv 33 Z Z (JV (rs:= []) 34 Z Z Z Z f1 (JV (rs:= []) 35 Z Z Z Z f1 (JV (rs:= []) 36 Z Z Z Z f1 (JV (rs:= []) 37 Z Z Z Z f1 (JV (rs:= []) 38 Z Z Z Z f1 (qt (v:= Y Zj) 39 Z (λ _ _=>QJ Z) (qv 40 Z Z (JV (rs:= []) 41 Z Z Z Z f1 (JV (rs:= []) 42 Z Z Z Z f1 (JV (rs:= []) 43 Z Z Z Z f1 (JV (rs:= []) 44 Z Z Z Z f1 (JV (rs:= []) 45 Z Z Z Z f1 (JV (rs:= []) 46 Z Z Z Z f1 (JV (rs:= []) 47 Z Z Z Z f1 (qt (v:= Y Zj) 48 Z (λ _ _=>QJ Z) (qn (JY (jt (JS (JW (An Z (rt (tR (rs ?_)))))))))))))))))))))))))))))))))))))))))))))))))))))))))
 have ae:=(Z0.pk [1,2]).pf []
 obtain⟨rfl,rfl⟩:=fI (zj hr (show _=(0,y) from Z)).symm
 exact⟨Z,ae⟩
end
open List renaming length_drop->o2,length_replicate->O5,length_set->N0,length_take->o1,mem_flatMap->P6,mem_of_getElem?->G4,set->M2,take->u2
open _root_.Go.Proofs.Tryz renaming sizeOf80->R7
section
open Go.RowKit
def gI (h:bD) (n:Nat) (c:aB) (i:StoreT) (k:Int):Nat->List dC->List aS->List bK->((List dC) × (List aS) × (List bK) × bK) ⊕ (Int × bD × aB × bn)
  | 0,j,l,f=>Sum.inl Zy
  | o+1,j,l,f=>bnd (List.getD f (W k) Zy) λ b=>if b.b < ((X b.g.a:Nat):Int) then bnd (List.getD b.g.a (W b.b) Zy) λ m=>bnd (jc (bn.q (N l)) n m) λ a=>if a.2.2.2.1=0 then bnd (lU (bD.q h.a (N j)) a.2.1 a.2.2.1) λ d=>if a.1=2 then Sum.inr (0,bD.q h.a (N d.b.a),aB.q c.a (N f),a.2.2.2.2) else if a.1=3 then bnd (iV (bD.q h.a (N d.b.a)) n (aB.q c.a (N f))) λ e=>bnd (fP (bD.q (bY.q (N e.1.a.b.a) (N h.a.a.a) h.a.g) (N d.b.a)) n (aB.q c.a (N e.2.b.a)) a.2.2.2.2) λ g=>Sum.inr (0,bD.q (bY.q (N e.1.a.b.a) (N h.a.a.a) h.a.g) (N g.1.b.a),aB.q c.a (N e.2.b.a),g.2) else gI h n c i k o d.b.a a.2.2.2.2.a.a (M2 f (W k) (bK.q b.a (N b.j.a) (N b.g.a) (b.b+1))) else Sum.inr (a.2.2.2.1,bD.q h.a (N j),aB.q c.a (N f),a.2.2.2.2) else Sum.inl (j,l,f,b)
def fH (g:bD) (h:Nat) (a:aB) (d:StoreT) (e:bn):Int × bD × aB × bn:=
 bnd (cK a h) λ b=>if b.2=Zj then lp (gI g h a d b.1 ((gm a.b.a (W b.1))+1) g.b.a e.a.a a.b.a) λ sLrbtbL=>bnd (eG (aB.q a.a (N (u2 (W b.1) sLrbtbL.2.2.1++r8 ((W b.1)+1) sLrbtbL.2.2.1))) sLrbtbL.2.2.2.a) λ c=>bnd (gY (bD.q g.a (N sLrbtbL.1)) (dG.q sLrbtbL.2.2.2.a (N sLrbtbL.2.2.2.j.a)) (aB.q (bH.q a.a.r a.a.y a.a.u a.a.z a.a.k (N a.a.b.a) (N (u2 (W c.1) a.a.g.a++((dG.q sLrbtbL.2.2.2.a (N sLrbtbL.2.2.2.j.a))::r8 (W c.1) a.a.g.a))) (N a.a.j.a) a.a.t a.a.B a.a.s a.a.a) (N (u2 (W b.1) sLrbtbL.2.2.1++r8 ((W b.1)+1) sLrbtbL.2.2.1))) d) λ f=>(f.1,bD.q (bY.q (N f.2.a.b.a) (N g.a.a.a) g.a.g) (N sLrbtbL.1),aB.q (bH.q a.a.r a.a.y a.a.u a.a.z a.a.k (N a.a.b.a) (N (u2 (W c.1) a.a.g.a++((dG.q sLrbtbL.2.2.2.a (N sLrbtbL.2.2.2.j.a))::r8 (W c.1) a.a.g.a))) (N a.a.j.a) a.a.t a.a.B a.a.s a.a.a) (N (u2 (W b.1) sLrbtbL.2.2.1++r8 ((W b.1)+1) sLrbtbL.2.2.1)),bn.q (N sLrbtbL.2.1)) else(0,g,a,e)
theorem qU (w D g0) (M:bD) (Z6 P Q Z8 Z4 dx dz p1 u) (a:aB) (G I s h j J K d l aa B) (C:StoreT) (F E x) (Z5:bn) (ak au Z1 r0) (r1:bD) (r2:aB) (r3:bn) (H:Own w D w [blk g0 [Zz (Zv ⟨u,0,Zk⟩), T Z6 (X M.a.b.a) P, T Z8 (X M.a.a.a) Z4, Y M.a.g, T dx (X M.b.a) dz] 92,row Z6 (X M.a.b.a) P (q1 bM.L Q) 47 21,sepL (q1 Km Q),jV dx (X M.b.a) dz (q1 dC.L M.b.a) 211 2,blk u (kB a G (X a.a.b.a) I s (X a.a.g.a) h J (X a.a.j.a) K a.a.t B d (X a.b.a) l x) 78,row s (X a.a.g.a) h (q1 bA.L j) 80 2,sepL (q1 Ky j),row d (X a.b.a) l (q1 aY.L aa) 100 4,sepL (q1 Kq aa),blk B [T F (X C.a.a) E] 29,blk x [T ak (X Z5.a.a) au] 111,row ak (X Z5.a.a) au (q1 aH.L Z1) 159 6,sepL (q1 Kj Z1)]) (aD:s0 bM.abs Q=M.a.b.a) (iA:Ro w D λ w'=>bV w' 6 Z8 (X M.a.a.a) (q1 aV.L M.a.a.a)) (lh:X M.a.a.a<=Z4/\X M.a.a.a<=9223372036854775807) (R:s0 bA.abs j=a.a.g.a) (ai:s0 aY.abs aa=a.b.a) (bX:Ro w D λ w'=>bV w' 2 F (X C.a.a) (q1 aG.L C.a.a)) (iB:X C.a.a<=E/\X C.a.a<=9223372036854775807) (az:s0 aH.abs Z1=Z5.a.a) (oF:Tk a.b.a a.a.g.a Z5.a.a) (oG:X a.b.a+X a.a.g.a<=6) (oH:X Z5.a.a<=6) (oI:X M.a.b.a<=90000/\X M.b.a<=90000/\X M.a.a.a<=1000/\X C.a.a<=4000) (hr:fH M p1 a C Z5=(r0,r1,r2,r3)):
    Calls Tryz.prog 82 #[vP g0 0,vU p1] w (dI λ v w'=> ∃ dQ dR bZ dS dU dV dW cz dX dY cO dZ d9 cZ,v=vI r0/\Own w D w' [blk g0 [vP u 0, T dQ (X r1.a.b.a) dR, T Z8 (X M.a.a.a) Z4, Y M.a.g, T dS (X r1.b.a) dU] 92,row dQ (X r1.a.b.a) dR (q1 bM.L bZ) 47 21,sepL (q1 Km bZ),jV dS (X r1.b.a) dU (q1 dC.L r1.b.a) 211 2,blk u (kB a G (X a.a.b.a) I dV (X r2.a.g.a) dW J (X a.a.j.a) K a.a.t B dX (X r2.b.a) dY x) 78,row dV (X r2.a.g.a) dW (q1 bA.L cz) 80 2,sepL (q1 Ky cz),row dX (X r2.b.a) dY (q1 aY.L cO) 100 4,sepL (q1 Kq cO),blk B [T F (X C.a.a) E] 29,blk x [T dZ (X r3.a.a) d9] 111,row dZ (X r3.a.a) d9 (q1 aH.L cZ) 159 6,sepL (q1 Kj cZ)]/\(s0 bM.abs bZ=r1.a.b.a)/\(s0 bA.abs cz=r2.a.g.a)/\(s0 aY.abs cO=r2.b.a)/\(s0 aH.abs cZ=r3.a.a)):=by
 have lg:=bf aD
 have jq:=bf R
 have jr:=bf ai
 have gG:=bf az
 have ll:=zr 1 H
 have lm:=H.rowCQ (i:=3) Z
 have jv:=zr 5 H
 have jw:=zr 7 H
 refine cb Tryz.func82 ?_
 refine sr (Ar Z (Mz Z (Kz (vP g0 0) (Kz (vP g0 0) (Lz (vP u 0) H 0 S5 (Mz Z ?_))))))
 have gD:=H.pf [4]
 have mQ:=zr 7 gD
 obtain⟨⟨g,df⟩,aJ⟩:=qq (cK a p1)
 obtain⟨_,jy,_,jA,ed⟩:=Kt gD
 refine cl Tryz.call78 (jM _ _ u a G I s h J K d l aa B x p1 g df jy ai (ed _ 6 _ Z bB) U (λ x9 h9=>⟨ed _ 7 _ Z (bL (P6.2 ⟨x9,h9,b3⟩) bB),di (φ:=λ _=>_) gD (i:=8) Z (bL (P6.2 ⟨x9,h9,b3⟩) dD),ed _ 7 _ Z (bL (P6.2 ⟨x9,h9, .tail _ b3⟩) bB),di (φ:=λ _=>_) gD (i:=8) Z (bL (P6.2 ⟨x9,h9, .tail _ b3⟩) dD)⟩) f2 aJ) ?_
 rintro _ _ ⟨rfl,jB,gH,gJ⟩
 have bu:=jA _ _ jB
 replace gH:0<=g/\g<=(X a.b.a:Int):=gH
 replace gJ:Zd df=0\/g < (X a.b.a:Int):=gJ
 refine Mz Z (Kz (vI g) (Kz (Y df) (Az Z (An Z (JS (sr (Mz Z (Kz (Y (!df)) (nt ?_)))))))))
 rcases Nv (df) with aM | aM
 have h36t:Zd df=1:=by rw [aM]; rfl
 refine jF (cn aM) (sk (sr (Mz Z (Kz (vP g0 0) (Kz (vP g0 0) (Lz (vP u 0) bu 1 S5 (Kz (vP u 0) (Kz (vP u 18) (Lz (T d (X a.b.a) l) bu 0 Tryz.isAgg75 (fw (vJ (W g)) (J4 (e:=g) (J3 Z) U) ?_))))))))))
 obtain⟨aF,ek⟩:=dM (ls:=aa) (i:=W g) aY.len f7 (bu.rds (i:=7) Z) f5
 have eu:=ik ai ek
 have mV:X aF.j.a<=aF.j.c/\X aF.j.a<=9223372036854775807:=di bu (i:=8) Z (φ:=λ _=>_) (bL (P6.2 ⟨aF,G4 ek,b3⟩) dD)
 have mW:X aF.g.a<=aF.g.c/\X aF.g.a<=9223372036854775807:=di bu (i:=8) Z (φ:=λ _=>_) (bL (P6.2 ⟨aF,G4 ek, .tail _ b3⟩) dD)
 obtain⟨_,_,_⟩:(0<=aF.b/\aF.b<=(X aF.g.a:Int))/\X aF.j.a<=24/\X aF.g.a<=24:=Tk.wat (ws:=a.b.a) f8 eu
 have ng:X Z5.a.a<=6:=Tk.rows (ws:=a.b.a) (hs:=a.a.g.a) f8
 have ni:X a.b.a+X a.a.g.a<=6:=Tk.n (ws:=a.b.a) (rs:=Z5.a.a) f8
 refine fw (Zz (Zv ⟨ab d,ao d+(W g) *4,Zk⟩)) (J9 (mi) Z Z ((bu.rds (i:=7) Z).addr (i:=W g) U) U) (An Z (JS (bo ?_)))
 obtain⟨lu,eB⟩:=Jz λ aN (aO:Nat) Z2 dh (dm:Nat) bv aC Z7 p (eF:Nat) w'=>Own w D w' [blk u (kB a G (X a.a.b.a) I s (X a.a.g.a) h J (X a.a.j.a) K a.a.t B d (X a.b.a) l x) 78,blk g0 [vP u 0, T Z6 (X M.a.b.a) P, T Z8 (X M.a.a.a) Z4, Y M.a.g, T aN (X Z2) aO] 92,row Z6 (X M.a.b.a) P (q1 bM.L Q) 47 21,sepL (q1 Km Q),row s (X a.a.g.a) h (q1 bA.L j) 80 2,sepL (q1 Ky j),row d (X a.b.a) l (q1 aY.L Z7) 100 4,blk B [T F (X C.a.a) E] 29,blk x [T dh (X aC) dm] 111,sepL (q1 Kq Z7),jV aN (X Z2) aO (q1 dC.L Z2) 211 2,row dh (X aC) dm (q1 aH.L bv) 159 6,sepL (q1 Kj bv)]/\s0 aY.abs Z7=p/\X p=X a.b.a/\s0 aH.abs bv=aC/\Tk p a.a.g.a aC/\wm p (W g) p1/\X Z2+24 *gm p (W g)<=91000/\gm p (W g) < eF/\gI M p1 a C g ((gm a.b.a (W g))+1) M.b.a Z5.a.a a.b.a=gI M p1 a C g eF Z2 aC p
 refine Wp.loop (λ i:(Option Addr) × Nat × (List dC) × (Option Addr) × Nat × (List aH) × (List aS) × (List aY) × (List bK) × Nat=> [(4,vI 0),(7, Zz (Zv ⟨ab d,ao d+(W g) *4,Zk⟩)),(0,vP g0 0),(1,vU p1)]) lu (λ i=>i.2.2.2.2.2.2.2.2.2) (dx,dz,M.b.a,ak,au,Z1,Z5.a.a,aa,a.b.a,(gm a.b.a (W g))+1) ⟨Z,Z,Z,Z,ZV⟩ (eB.2 ⟨(bu.pb [8,4,11,12]),by exact ai,by first | omega | (simp only [N0] <;> omega) | (simp only [O5]),by exact az,by first | assumption | (refine Tk.bump ?_ eu rfl rfl rfl ?_; assumption; (dsimp only; omega)),by first | assumption | exact wm.set f8 eu rfl | exact mR (Tk.a f8) (aJ.trans (congrArg (λ q=>(_,q)) aM)),by first | omega | (have q9:=GR (by assumption:Tk a.b.a _ _) (W g); omega),U,Z⟩) ?_
 rintro ⟨aN,aO,Z2,dh,dm,bv,aC,Z7,p,eF⟩ _ jC
 show Wp _ _ _ [(4,vI 0),(7, Zz (Zv ⟨ab d,ao d+(W g) *4,Zk⟩)),(0,vP g0 0),(1,vU p1)] _ _
 obtain⟨lv,aj,_,eH,_,_,_,_,bz⟩:=eB.1 jC
 have nC:=bf aj
 have nD:=bf eH
 obtain⟨iC,jD⟩:∃ q,eF=q+1:=⟨eF - 1,U⟩
 subst jD
 refine JS (JS (kL 13 [] (J6 (J6 (J6 (bJ.block (J6 Kg))))) lv ?_))
 intro _ iD
 refine qv 0 Z Z (qk (Zz (Zv ⟨ab d,ao d+(W g) *4,Zk⟩)) 1 Z (qk (Zz (Zv ⟨ab d,ao d+(W g) *4+3,Zk⟩)) 2 Z ?_))
 obtain⟨b,Z0⟩:=mK (ls:=Z7) (i:=W g) f5
 have av:=ik aj Z0
 obtain⟨_,_,_⟩:(0<=b.b/\b.b<=(X b.g.a:Int))/\X b.j.a<=24/\X b.g.a<=24:=Tk.wat (ws:=p) f8 av
 have nI:X aC<=6:=Tk.rows (ws:=p) (hs:=a.a.g.a) f8
 have nJ:X p+X a.a.g.a<=6:=Tk.n (ws:=p) (rs:=aC) f8
 refine qt (v:=vI b.b) 3 Z (λ _ ⟨_,H9⟩=>J5 Z (bO.one B8 (((H9.rds (i:=6) Z).elem aY.len Z0 f7).at_ (k:=3) Z))) (qv 4 Z Z (qk (Zz (Zv ⟨ab d,ao d+(W g) *4,Zk⟩)) 5 Z (qk (Zz (Zv ⟨ab d,ao d+(W g) *4+2,Zk⟩)) 6 Z (qt (v:= T b.g.A (X b.g.a) b.g.c) 7 Z (λ _ ⟨_,H9⟩=>J5 Z (bO.one Tryz.isAgg98 (((H9.rds (i:=6) Z).elem aY.len Z0 f7).at_ (k:=2) Z))) (qk (vJ (X b.g.a)) 8 Z (qk (Za (b.b < (X b.g.a:Int))) 9 Z (qn (JY ?_))))))))
 by_cases dn:b.b < (X b.g.a:Int)
 refine jT (dT dn) (sk (bo (JS (kL 13 [18] (J6 (bJ.block (J6 (bJ.block (J6 Kg))))) iD ?_))))
 intro _ lw
 refine qv 0 Z Z (qp g0 0 1 Z (qp g0 0 2 Z (ql 3 Z 1 S5 Z Z Z (qp u 0 4 Z (qp u 19 5 Z (ql 6 Z 0 Tryz.isAgg73 Z Z Z (qv 7 Z Z (qv 8 Z Z (qk (Zz (Zv ⟨ab d,ao d+(W g) *4,Zk⟩)) 9 Z (qk (Zz (Zv ⟨ab d,ao d+(W g) *4+2,Zk⟩)) 10 Z (qt (v:= T b.g.A (X b.g.a) b.g.c) 11 Z (λ _ ⟨_,H9⟩=>J5 Z (bO.one Tryz.isAgg98 (((H9.rds (i:=6) Z).elem aY.len Z0 f7).at_ (k:=2) Z))) (qv 12 Z Z (qk (Zz (Zv ⟨ab d,ao d+(W g) *4,Zk⟩)) 13 Z (qk (Zz (Zv ⟨ab d,ao d+(W g) *4+3,Zk⟩)) 14 Z (qt (v:=vI b.b) 15 Z (λ _ ⟨_,H9⟩=>J5 Z (bO.one B8 (((H9.rds (i:=6) Z).elem aY.len Z0 f7).at_ (k:=3) Z))) ?_)))))))))))))))
 obtain⟨gF,bC⟩:=mK (ls:=b.g.a) (i:=W b.b) f5
 refine qt (v:= Zz (Zv ⟨ab b.g.A,ao b.g.A+(W b.b) *3,Zk⟩)) 16 Z (λ _ ⟨_,H9⟩=>J9 (vE) Z (Iy (r:=b.b) Z U) ((di H9 (i:=9) Z (bL (P6.2 ⟨b,G4 Z0, .tail _ b3⟩) bB)).addr (i:=W b.b) U) U) (qt (v:= Zq (Zb (aL.L gF))) 17 Z (λ _ ⟨_,H9⟩=>J5 Z (J7 (cs:=(aL.L gF)) Tryz.isAgg115 Tryz.sizeOf115 ((di H9 (i:=9) Z (bL (P6.2 ⟨b,G4 Z0, .tail _ b3⟩) bB)).elem aL.len bC f7))) ?_)
 obtain⟨⟨bE,aP,aQ,aK,Z3⟩,aI⟩:∃ q:Int × (List Nat) × (List Nat) × Int × bn,jc (bn.q (N aC)) p1 gF=q:=⟨_,Z⟩
 obtain⟨_,jE,_,jG,_⟩:=KR (lw.pf [8,11,12])
 refine qd 18 Z (Ki Tryz.call37 Z (xP _ _ x (bn.q (N aC)) dh dm bv p1 gF bE aP aQ aK Z3 jE eH g4 (by first | assumption | exact jZ.hd f8 | exact(Tk.snd f8).hd) (by first | assumption | exact Tk.snd f8) aI) ?_)
 rintro _ jH ⟨bF,bI,bP,bQ,af,ag,ah,rfl,iE,aR,eP⟩
 have aZ:=jG _ _ iE
 have lD:=bf aR
 have lF:=zr 0 aZ
 have lG:=zr 1 aZ
 have lH:=zr 3 aZ
 replace eP:X aP<=12/\X aQ<=12:=eP
 have iF:Tk p a.a.g.a Z3.a.a:=Tk.ask f8 f8 aI
 have lI:X Z3.a.a<=6:=Tk.rows iF
 refine⟨.inl f1, (Kr (v:= .tuple #[vI bE, T bF (X aP) bI, T bP (X aQ) bQ,vI aK]) 19 Z f1 (λ _=>J3 Z) (Kr (v:=vI bE) 20 Z f1 (λ _=>yk) (Kr (v:= T bF (X aP) bI) 21 Z f1 (λ _=>yk) (Kr (v:= T bP (X aQ) bQ) 22 Z f1 (λ _=>yk) (Kr (v:=vI aK) 23 Z f1 (λ _=>yk) (Kr (v:=vI bE) 24 Z f1 (λ _=>KV Z) (Kr (v:= T bF (X aP) bI) 25 Z f1 (λ _=>KV Z) (Kr (v:= T bP (X aQ) bQ) 26 Z f1 (λ _=>KV Z) (Kr (v:=vI aK) 27 Z f1 (λ _=>KV Z) (qn (JY (JS (sr (Mz Z (fw (Za (¬ (aK=0))) (Kc (e:= !(Zw (aK=0))) yk ZW) (nt ?_))))))))))))))))⟩
 by_cases bg:aK=0
 refine jF (dF (Nu bg)) (sk (sr (Mz Z (Mz Z (Mz Z ?_)))))
 obtain⟨S,bq⟩:∃ q,lU (bD.q M.a (N Z2)) aP aQ=q:=⟨_,Z⟩
 obtain⟨_,iG,_,iH,eT⟩:=KE (aZ.pf [6,14])
 refine cl Tryz.call136 (tq _ _ g0 (bD.q M.a (N Z2)) Z6 P Z8 Z4 aN aO u bF (X aP) bI aP bP (X aQ) bQ aQ S iG (eT _ 0 _ Z bB) Z U (eT _ 1 _ Z bB) Z U f2 bq) ?_
 rintro _ gK ⟨ax,ay,rfl,iI,eU⟩
 have gL:=iH _ _ iI
 have lK:=gL.rowCQ (i:=1) Z
 replace eU:X S.b.a=X Z2+X aP+X aQ:=eU
 have lL:gm (M2 p (W g) (bK.q b.a (N b.j.a) (N b.g.a) (b.b+1))) (W g)+1=gm p (W g):=zN (ws:=p) (y:=(bK.q b.a (N b.j.a) (N b.g.a) (b.b+1))) av (show b.b < (X b.g.a:Int) from by omega) Z Z
 refine nt (JS (JS ?_))
 have bi:=gL.px [] [2,3] []
 refine JW (Mn Z (bo (sr (Kz (Za (bE=2)) (An Z ?_)))))
 by_cases bS:bE=2
 refine jT (dT bS) (sr (An Z (rt (bR (tR (bR (tR (bR (tR (rs ?_))))))))))
 have aT:X a.b.a=X p:=by first | omega | (simp only [N0]; done) | (simp only [N0,o3,q6,L0,o1,o2,O5]; omega)
 have jJ:Own w D gK [blk g0 [vP u 0, T Z6 (X M.a.b.a) P, T Z8 (X M.a.a.a) Z4, Y M.a.g, T ax (X S.b.a) ay] 92,jV ax (X S.b.a) ay (q1 dC.L S.b.a) 211 2,blk x [T af (X Z3.a.a) ag] 111,row af (X Z3.a.a) ag (q1 aH.L ah) 159 6,sepL (q1 Kj ah),blk u (kB a G (X a.a.b.a) I s (X a.a.g.a) h J (X a.a.j.a) K a.a.t B d (X p) l x) 78,row Z6 (X M.a.b.a) P (q1 bM.L Q) 47 21,sepL (q1 Km Q),row s (X a.a.g.a) h (q1 bA.L j) 80 2,sepL (q1 Ky j),row d (X p) l (q1 aY.L Z7) 100 4,blk B [T F (X C.a.a) E] 29,sepL (q1 Kq Z7)]:=by first | (rw [<- aT]; exact bi) | (have q9:=bi; rw [aT] at q9; exact q9)
 obtain⟨rfl,rfl,rfl,rfl⟩:=eQ (zj hr (show _=(0,bD.q M.a (N S.b.a),aB.q a.a (N p),Z3) from V (ae aJ) (V (ip aM) (iX (V (bz) (V (ae (bG av)) (V (ip dn) (V (ae (bG bC)) (V (ae aI) (V (ip bg) (V (ae bq) (ip bS))))))))))))
 exact⟨Z6,P,Q,ax,ay,s,h,j,d,l,Z7,af,ag,ah,(by first | rfl | (rw [<- aT]; done) | (rw [<- aT]; rfl) | (rw [aT]; first | done | rfl)),(jJ.px [0,6,7] [] [11,2,3,4]),aD,R,aj,aR⟩
 refine jF (dF bS) (sr (Kz (Za (bE=3)) (An Z ?_)))
 by_cases dA:bE=3
 refine jT (dT dA) (sr (Mz Z (Mz Z ?_)))
 have aU:X a.b.a=X p:=by first | omega | (simp only [N0]; done) | (simp only [N0,o3,q6,L0,o1,o2,O5]; omega)
 have jL:Own w D gK [blk g0 [vP u 0, T Z6 (X M.a.b.a) P, T Z8 (X M.a.a.a) Z4, Y M.a.g, T ax (X S.b.a) ay] 92,jV ax (X S.b.a) ay (q1 dC.L S.b.a) 211 2,blk x [T af (X Z3.a.a) ag] 111,row af (X Z3.a.a) ag (q1 aH.L ah) 159 6,sepL (q1 Kj ah),blk u (kB a G (X a.a.b.a) I s (X a.a.g.a) h J (X a.a.j.a) K a.a.t B d (X p) l x) 78,row Z6 (X M.a.b.a) P (q1 bM.L Q) 47 21,sepL (q1 Km Q),row s (X a.a.g.a) h (q1 bA.L j) 80 2,sepL (q1 Ky j),row d (X p) l (q1 aY.L Z7) 100 4,blk B [T F (X C.a.a) E] 29,sepL (q1 Kq Z7)]:=by first | (rw [<- aU]; exact bi) | (have q9:=bi; rw [aU] at q9; exact q9)
 obtain⟨⟨bT,dB⟩,eX⟩:∃ q:bD × aB,iV (bD.q M.a (N S.b.a)) p1 (aB.q a.a (N p))=q:=⟨_,Z⟩
 obtain⟨_,iJ,_,iK,_⟩:=KS (jL.pf [0,6,7,5,10,12])
 refine cl Tryz.call137 (uT _ _ g0 (bD.q M.a (N S.b.a)) Z6 P Q Z8 Z4 ax ay p1 u (aB.q a.a (N p)) G I s h J K d l Z7 B x bT dB iJ aD aj f2 eX) ?_
 rintro _ _ ⟨gM,gN,jO,gP,gQ,jP,rfl,iL,eY,eZ,fe⟩
 have fo:=iK _ _ iL
 have lQ:=bf eY
 have lS:=bf eZ
 have lT:=zr 1 fo
 have lV:=zr 4 fo
 replace fe:X bT.a.b.a=X M.a.b.a+1:=fe
 refine ns (Mz Z (Mz Z ?_))
 obtain⟨⟨fu,gT⟩,fA⟩:∃ q:bD × bn,fP (bD.q (bY.q (N bT.a.b.a) (N M.a.a.a) M.a.g) (N S.b.a)) p1 (aB.q a.a (N dB.b.a)) Z3=q:=⟨_,Z⟩
 obtain⟨_,iM,_,iO,_⟩:=KS (fo.pf [0,6,3,7,8,9])
 refine cl Tryz.call88 (pE _ _ g0 (bD.q (bY.q (N bT.a.b.a) (N M.a.a.a) M.a.g) (N S.b.a)) gM gN Z8 Z4 ax ay p1 u (aB.q a.a (N dB.b.a)) G I s h J K gP gQ B x Z3 af ag ah fu gT iM aR f2 (by first | assumption | exact Tk.snd f8) fA) ?_
 rintro _ _ ⟨jR,jS,jU,jW,jX,rfl,iP,fB,fC⟩
 have fD:=iO _ _ iP
 have lY:=bf fB
 have lZ:=fD.rowCQ (i:=1) Z
 have l5:=zr 4 fD
 replace fC:X fu.b.a<=X S.b.a+24:=fC
 refine ns (An Z (rt (bR (tR (bR (tR (bR (tR (rs ?_)))))))))
 obtain⟨rfl,rfl,rfl,rfl⟩:=eQ (zj hr (show _=(0,bD.q (bY.q (N bT.a.b.a) (N M.a.a.a) M.a.g) (N fu.b.a),aB.q a.a (N dB.b.a),gT) from V (ae aJ) (V (ip aM) (iX (V (bz) (V (ae (bG av)) (V (ip dn) (V (ae (bG bC)) (V (ae aI) (V (ip bg) (V (ae bq) (V (iN bS) (V (ip dA) (V (ae eX) (ae fA)))))))))))))))
 exact⟨gM,gN,jO,jR,jS,s,h,j,gP,gQ,jP,jU,jW,jX,(by first | rfl | (rw [<- aU]; done) | (rw [<- aU]; rfl) | (rw [aU]; first | done | rfl)),(fD.px [0,6,7] [] [8,9,12,3,4,5]),eY,R,eZ,fB⟩
 refine jF (dF dA) (Ko (bN (JY (JW (Mz Z (Kz (Zz (Zv ⟨ab d,ao d+(W g) *4,Zk⟩)) (Kz (Zz (Zv ⟨ab d,ao d+(W g) *4+3,Zk⟩)) (fw (vI b.b) (J5 Z (bO.one B8 (((bi.rds (i:=10) Z).elem aY.len Z0 f7).at_ (k:=3) Z))) (fw (vI (b.b+1)) (J4 (e:=IntKind.i64.wrap (b.b+1)) yk i7) (Kz (Zz (Zv ⟨ab d,ao d+(W g) *4,Zk⟩)) (Kz (Zz (Zv ⟨ab d,ao d+(W g) *4+3,Zk⟩)) (KO (Do.storeRow (vs:= [vI (b.b+1)]) (o:=(W g) *4+3) (q:=ao d+(W g) *4+3) (bi.pf [10]) Z U Z Tryz.sizeOf3 Z Z (Nr Z) (j3 aY.len Z0 (Nr Z)) (kV (y:=(aY.q b.a b.j b.g (b.b+1))) aY.len Z (Nr Z) Z0) ?_)))))))))))))
 intro j5 j6
 have kg:Own w D j5 [row d (X a.b.a) l (q1 aY.L (M2 Z7 (W g) (aY.q b.a b.j b.g (b.b+1)))) 100 4,blk g0 [vP u 0, T Z6 (X M.a.b.a) P, T Z8 (X M.a.a.a) Z4, Y M.a.g, T ax (X S.b.a) ay] 92,jV ax (X S.b.a) ay (q1 dC.L S.b.a) 211 2,blk x [T af (X Z3.a.a) ag] 111,row af (X Z3.a.a) ag (q1 aH.L ah) 159 6,sepL (q1 Kj ah),blk u (kB a G (X a.a.b.a) I s (X a.a.g.a) h J (X a.a.j.a) K a.a.t B d (X a.b.a) l x) 78,row Z6 (X M.a.b.a) P (q1 bM.L Q) 47 21,sepL (q1 Km Q),row s (X a.a.g.a) h (q1 bA.L j) 80 2,sepL (q1 Ky j),blk B [T F (X C.a.a) E] 29,sepL (q1 Kq (M2 Z7 (W g) (aY.q b.a b.j b.g (b.b+1))))]:=by rw [mM (f:=Kq) (y:=(aY.q b.a b.j b.g (b.b+1))) Z0 Z]; exact j6
 have l6:X (M2 Z7 (W g) (aY.q b.a b.j b.g (b.b+1)))=X (M2 p (W g) (bK.q b.a (N b.j.a) (N b.g.a) (b.b+1))):=bf (fq aj Z)
 have l7:X (M2 p (W g) (bK.q b.a (N b.j.a) (N b.g.a) (b.b+1)))=X p:=N0
 refine WL.nil (bN ?_)
 exact Kb (ax,ay,S.b.a,af,ag,ah,Z3.a.a,(M2 Z7 (W g) (aY.q b.a b.j b.g (b.b+1))),(M2 p (W g) (bK.q b.a (N b.j.a) (N b.g.a) (b.b+1))),iC) ⟨Z,Z,Z,Z,ZV⟩ (eB.2 ⟨(kg.px [6] [] [0,11,3,12,2,4,5]),by exact(fq aj Z),by first | omega | (simp only [N0] <;> omega) | (simp only [O5]),by exact aR,by first | assumption | (refine Tk.bump ?_ av rfl rfl rfl ?_; assumption; (dsimp only; omega)),by first | assumption | exact wm.set f8 av rfl | exact mR (Tk.a f8) (aJ.trans (congrArg (λ q=>(_,q)) aM)),by first | omega | (have q9:=GR (by assumption:Tk a.b.a _ _) (W g); omega),U,Eq.trans (bz) (Eq.trans (ae (bG av)) (Eq.trans (ZJ dn) (Eq.trans (ae (bG bC)) (Eq.trans (ae aI) (Eq.trans (ZJ bg) (Eq.trans (ae bq) (Eq.trans (ZK bS) (ZK dA))))))))⟩) (by show iC < iC+1; omega)
 refine jT (dT bg) (sr (Mz Z (An Z (rt (tR (bR (tR (bR (tR (rs ?_))))))))))
 have aW:X a.b.a=X p:=by first | omega | (simp only [N0]; done) | (simp only [N0,o3,q6,L0,o1,o2,O5]; omega)
 have kr:Own w D jH [row bF (X aP) bI (q1 (eN .u64) aP) 33 1,row bP (X aQ) bQ (q1 (eN .u64) aQ) 33 1,blk x [T af (X Z3.a.a) ag] 111,row af (X Z3.a.a) ag (q1 aH.L ah) 159 6,sepL (q1 Kj ah),blk u (kB a G (X a.a.b.a) I s (X a.a.g.a) h J (X a.a.j.a) K a.a.t B d (X p) l x) 78,blk g0 [vP u 0, T Z6 (X M.a.b.a) P, T Z8 (X M.a.a.a) Z4, Y M.a.g, T aN (X Z2) aO] 92,row Z6 (X M.a.b.a) P (q1 bM.L Q) 47 21,sepL (q1 Km Q),row s (X a.a.g.a) h (q1 bA.L j) 80 2,sepL (q1 Ky j),row d (X p) l (q1 aY.L Z7) 100 4,blk B [T F (X C.a.a) E] 29,sepL (q1 Kq Z7),jV aN (X Z2) aO (q1 dC.L Z2) 211 2]:=by first | (rw [<- aW]; exact aZ) | (have q9:=aZ; rw [aW] at q9; exact q9)
 obtain⟨rfl,rfl,rfl,rfl⟩:=eQ (zj hr (show _=(aK,bD.q M.a (N Z2),aB.q a.a (N p),Z3) from V (ae aJ) (V (ip aM) (iX (V (bz) (V (ae (bG av)) (V (ip dn) (V (ae (bG bC)) (V (ae aI) (iN bg))))))))))
 exact⟨Z6,P,Q,aN,aO,s,h,j,d,l,Z7,af,ag,ah,(by first | rfl | (rw [<- aW]; done) | (rw [<- aW]; rfl) | (rw [aW]; first | done | rfl)),(kr.px [6,7,8,14] [0,1] [12,2,3,4]),aD,R,aj,aR⟩
 refine jF (dF dn) (Wp.exit (Ka ?_))
 have iQ:gI M p1 a C g ((gm a.b.a (W g))+1) M.b.a Z5.a.a a.b.a=Sum.inl (Z2,aC,p,(aY.abs b)):=V (bz) (V (ae (bG av)) (iN dn))
 refine Ka (Kh (JY (sr (Mz Z (Mz Z (Kz (Zz (Zv ⟨ab d,ao d+(W g) *4,Zk⟩)) (fw (Zq (Zb (aY.L b))) (J5 Z (J7 (cs:=(aY.L b)) Tryz.isAgg100 Tryz.sizeOf100 ((iD.rds (i:=6) Z).elem aY.len Z0 f7))) (WL.do Z (Ki Tryz.call138 Z ?_ (λ _ _ k=>k))))))))))
 refine cb Tryz.func138 ?_
 refine sr (cB (aY.L b) 100 iD ?_)
 intro bU _ kv
 refine An Z (JS (kL 9 [] (J6 Kg) (kv.pb [1,5,6,7,10]) ?_))
 intro kz gU
 refine qv 0 Z Z (qp g0 0 1 Z (qp g0 0 2 Z (ql 3 Z 1 S5 Z Z Z (qp bU 0 4 Z (ql 5 Z 0 E0 Z Z Z (GX.do 6 Z f1 (Ki Tryz.call86 Z ?_ (λ _ _ k=>k))))))))
 refine cb Tryz.func86 ?_
 refine sr (Mz Z (Mz Z ?_))
 have aX:X a.b.a=X p:=by first | omega | (simp only [N0]; done) | (simp only [N0,o3,q6,L0,o1,o2,O5]; omega)
 have kC:Own w D kz [blk bU (aY.L b) 100,blk g0 [vP u 0, T Z6 (X M.a.b.a) P, T Z8 (X M.a.a.a) Z4, Y M.a.g, T aN (X Z2) aO] 92,row Z6 (X M.a.b.a) P (q1 bM.L Q) 47 21,sepL (q1 Km Q),blk B [T F (X C.a.a) E] 29,blk x [T dh (X aC) dm] 111,jV aN (X Z2) aO (q1 dC.L Z2) 211 2,row dh (X aC) dm (q1 aH.L bv) 159 6,sepL (q1 Kj bv),blk u (kB a G (X a.a.b.a) I s (X a.a.g.a) h J (X a.a.j.a) K a.a.t B d (X p) l x) 78,row s (X a.a.g.a) h (q1 bA.L j) 80 2,sepL (q1 Ky j),row d (X p) l (q1 aY.L Z7) 100 4,sepL (q1 Kq Z7)]:=by first | (rw [<- aX]; exact gU) | (have q9:=gU; rw [aX] at q9; exact q9)
 have dE:=kC.pf [9]
 have l8:=zr 12 dE
 obtain⟨⟨dH,gV⟩,fE⟩:∃ q:Int × Bool,cK (aB.q a.a (N p)) b.a=q:=⟨_,Z⟩
 obtain⟨_,iR,_,iT,dw⟩:=Kt dE
 refine cl Tryz.call78 (jM _ _ u (aB.q a.a (N p)) G I s h J K d l Z7 B x b.a dH gV iR aj (dw _ 11 _ Z bB) U (λ x9 h9=>⟨dw _ 12 _ Z (bL (P6.2 ⟨x9,h9,b3⟩) bB),di (φ:=λ _=>_) dE (i:=13) Z (bL (P6.2 ⟨x9,h9,b3⟩) dD),dw _ 12 _ Z (bL (P6.2 ⟨x9,h9, .tail _ b3⟩) bB),di (φ:=λ _=>_) dE (i:=13) Z (bL (P6.2 ⟨x9,h9, .tail _ b3⟩) dD)⟩) f2 fE) ?_
 rintro _ _ ⟨rfl,iU,fF,fG⟩
 have gW:=iT _ _ iU
 replace fF:0<=dH/\dH<=(X p:Int):=fF
 replace fG:Zd gV=0\/dH < (X p:Int):=fG
 obtain⟨iW,iY⟩:=fI ((ui (m:=(aB.q a.a (N p))) (i:=(W g)) (Tk.a f8) ⟨_,av,Z⟩).symm.trans fE)
 subst iW iY
 refine Mz Z (Kz (vJ (W g)) (Kz (Y Zj) (Az Z (Ar Z (Mn Z (jt (JW (Mz Z (Mz Z (Kz (vP u 0) (Kz (vP u 18) (Lz (T d (X p) l) gW 0 Tryz.isAgg75 (Mz Z (Mz Z (fw (vJ (W g+1)) (J4 (e:=IntKind.i64.wrap (((W g:Nat):Int)+1)) yk f4) ?_)))))))))))))))
 obtain⟨_,iZ,_,ja,_⟩:=KE (gW.pf [12,13])
 refine cl Tryz.call141 (uQ _ _ d (X p) l Z7 p ((W g:Nat):Int) ((W g+1:Nat):Int) (W g) b iZ U aj U U U Z0) ?_
 rintro _ _ ⟨dJ,dK,rfl,jb⟩
 have fJ:=ja _ _ jb
 have mg:X (u2 (W g) Z7++r8 ((W g)+1) Z7)=X (u2 (W g) p++r8 ((W g)+1) p):=by exact bf (oP aj)
 have mh:X (u2 (W g) p++r8 ((W g)+1) p)+1=X p:=by simp only [o3,o1,o2]; omega
 have mo:=zr 2 fJ
 have mq:=zr 3 fJ
 refine Kz (vP u 0) (Kz (vP u 18) (cu [T dJ (X (u2 (W g) p++r8 ((W g)+1) p)) dK] 18 (fJ.pf [4]) Tryz.sizeOf75 ?_))
 intro _ kF
 refine WL.nil (KD (res0 Z) ?_)
 have dL:=kF.pb [0,1,2,3,4,14,15]
 refine⟨.inr ⟨_,dL⟩, (qn (JY (sr (Kz (vP bU 0) (Lz (vU b.a) dL 0 E0 (Kz (vP bU 1) (Lz (T b.j.A (X b.j.a) b.j.c) dL 0 Tryz.isAgg44 (Kz (Zq #[vU b.a, T b.j.A (X b.j.a) b.j.c]) (cB [.int .u64 0, T Zk 0 0] 80 dL ?_)))))))))⟩
 intro _ _ kG
 refine cu [vU b.a, T b.j.A (X b.j.a) b.j.c] 0 kG R7 ?_
 intro _ kI
 refine nt (JS (kL 17 [] (J6 Kg) kI ?_))
 intro _ kJ
 refine qv 0 Z Z (qp g0 0 1 Z (qp g0 0 2 Z (ql 3 Z 2 S5 Z Z Z (qp bU 0 4 Z (ql 5 Z 1 E0 Z Z Z ?_)))))
 have fK:=kJ.pf [10]
 have mr:=zr 15 fK
 obtain⟨⟨L,fM⟩,fO⟩:∃ q:Int × Bool,eG (aB.q a.a (N (u2 (W g) p++r8 ((W g)+1) p))) b.a=q:=⟨_,Z⟩
 obtain⟨_,jd,_,je,fQ⟩:=Kt fK
 refine qd 6 Z (Ki Tryz.call76 Z (nU _ _ u (aB.q a.a (N (u2 (W g) p++r8 ((W g)+1) p))) G I s h j J K dJ dK B x b.a L fM jd R (fQ _ 14 _ Z bB) U (λ x9 h9=>⟨fQ _ 15 _ Z (bL (P6.2 ⟨x9,h9,b3⟩) bB),di (φ:=λ _=>_) fK (i:=16) Z (bL (P6.2 ⟨x9,h9,b3⟩) dD)⟩) f2 fO) ?_)
 rintro _ _ ⟨rfl,jf,fT,fU⟩
 replace fT:0<=L/\L<=(X a.a.g.a:Int):=fT
 replace fU:Zd fM=0\/L < (X a.a.g.a:Int):=fU
 have gX:=(je _ _ jf).pb [0,11,12,13,14,15,16]
 refine⟨.inr ⟨_,gX⟩, (qv 7 Z Z (qk (vI L) 8 Z (qk (Y fM) 9 Z (qa 10 Z Z (qa 11 Z Z (qn (JY (JS ?_))))))))⟩
 have kN:=(gX.px [] [1] []).pf [0,1,4,5,9]
 refine DJ [19] (J6 Kg) kN ?_
 intro _ kP
 refine qv 0 Z Z (qp g0 0 1 Z (qp g0 0 2 Z (ql 3 Z 1 S5 Z Z Z (qv 4 Z Z (qp g0 0 5 Z (qp g0 0 6 Z (ql 7 Z 1 S5 Z Z Z (qp u 0 8 Z (qp u 0 9 Z (qp u 6 10 Z (ql 11 Z 4 Tryz.isAgg35 Z Z Z (qv 12 Z Z (qb 13 Z 0 Tryz.isAgg80 R7 Z Z Z (qd 14 Z (K6 (cs:= [vU b.a, T b.j.A (X b.j.a) b.j.c]) (t:=80) (sz:=2) (m:=1) kP Z Z ZY Z ?_)))))))))))))))
 intro gZ _ fV
 replace fV:=Ku (y:=mF gZ 1 (q1 bA.L ([(bA.q b.a (Sv.q b.j.A b.j.c b.j.a))])) 80 2) Z fV
 have ib:=fV.pf [1,2,3,4,5]
 refine⟨.inr ⟨_,ib⟩, ?_⟩
 obtain⟨_,jg,_,jh,_⟩:=K7 (ib.pf [15,5,16,13])
 refine qd 15 Z (Ki Tryz.call181 Z (AO _ _ s (X a.a.g.a) h j a.a.g.a L (W L) gZ (bA.q b.a (Sv.q b.j.A b.j.c b.j.a)) (dG.q b.a (N b.j.a)) jg U R Z U U U) ?_)
 rintro _ _ ⟨fZ,gp,rfl,ji⟩
 have mH:X (u2 (W L) j++((bA.q b.a (Sv.q b.j.A b.j.c b.j.a))::r8 (W L) j))=X (u2 (W L) a.a.g.a++((dG.q b.a (N b.j.a))::r8 (W L) a.a.g.a)):=by exact bf (kw (z:=(dG.q b.a (N b.j.a))) R Z)
 have mI:X (u2 (W L) a.a.g.a++((dG.q b.a (N b.j.a))::r8 (W L) a.a.g.a))=X a.a.g.a+1:=by simp only [o3,o1,q6,o2]; omega
 have ic:=(jh _ _ ji).pf [2,3,4,5,6]
 refine⟨.inr ⟨_,ic⟩, (qp u 0 16 Z (qp u 0 17 Z (qp u 6 18 Z (qe 19 Z (Do.store (vs:= [T fZ (X (u2 (W L) a.a.g.a++((dG.q b.a (N b.j.a))::r8 (W L) a.a.g.a))) gp]) (o:=6) (ic.pf [4]) Z Z Tryz.sizeOf35 Z Z Z Z ?_)))))⟩
 intro _ ig
 refine⟨.inl f1, (qn (JY (sr (Mz Z (La ([vU b.a, T b.j.A (X b.j.a) b.j.c]) ig 1 Tryz.isAgg80 R7 ?_)))))⟩
 obtain⟨⟨il,gq⟩,gu⟩:∃ q:Int × bD,gY (bD.q M.a (N Z2)) (dG.q b.a (N b.j.a)) (aB.q (bH.q a.a.r a.a.y a.a.u a.a.z a.a.k (N a.a.b.a) (N (u2 (W L) a.a.g.a++((dG.q b.a (N b.j.a))::r8 (W L) a.a.g.a))) (N a.a.j.a) a.a.t a.a.B a.a.s a.a.a) (N (u2 (W g) p++r8 ((W g)+1) p))) C=q:=⟨_,Z⟩
 obtain⟨_,jk,gy,jl,jm⟩:=Lh (ig.pf [2,7,8,0,3])
 refine cl Tryz.call77 (sP _ _ g0 (bD.q M.a (N Z2)) Z6 P Q Z8 Z4 aN aO (dG.q b.a (N b.j.a)) b.j.A (X b.j.a) b.j.c u (aB.q (bH.q a.a.r a.a.y a.a.u a.a.z a.a.k (N a.a.b.a) (N (u2 (W L) a.a.g.a++((dG.q b.a (N b.j.a))::r8 (W L) a.a.g.a))) (N a.a.j.a) a.a.t a.a.B a.a.s a.a.a) (N (u2 (W g) p++r8 ((W g)+1) p))) G I fZ gp J K dJ dK x B C F E il gq jk aD (gy _ iA) U Z (jm _ 3 _ Z (bL (P6.2 ⟨_,List.mem_append_right _ b3,b3⟩) bB)) U (gy _ bX) U f2 gu) ?_
 rintro _ _ ⟨kU,kW,kX,rfl,jo,gz,gB⟩
 have iq:=jl _ _ jo
 have mJ:=bf gz
 have mO:=zr 1 iq
 replace gB:X gq.a.b.a<=X M.a.b.a+1:=gB
 refine An Z (rt (rs (An Z (rt (rs ?_)))))
 obtain⟨rfl,rfl,rfl,rfl⟩:=eQ (zj hr (show _=(il,bD.q (bY.q (N gq.a.b.a) (N M.a.a.a) M.a.g) (N Z2),aB.q (bH.q a.a.r a.a.y a.a.u a.a.z a.a.k (N a.a.b.a) (N (u2 (W L) a.a.g.a++((dG.q b.a (N b.j.a))::r8 (W L) a.a.g.a))) (N a.a.j.a) a.a.t a.a.B a.a.s a.a.a) (N (u2 (W g) p++r8 ((W g)+1) p)),bn.q (N aC)) from V (ae aJ) (V (ip aM) (V (kH iQ) (V (ae fO) (ae gu))))))
 exact⟨kU,kW,kX,aN,aO,fZ,gp,(u2 (W L) j++((bA.q b.a (Sv.q b.j.A b.j.c b.j.a))::r8 (W L) j)),dJ,dK,(u2 (W g) Z7++r8 ((W g)+1) Z7),dh,dm,bv,(by first | rfl | (rw [<- aX]; done) | (rw [<- aX]; rfl) | (rw [aX]; first | done | rfl)),(iq.px [0,1,2,9] [5,14] [4,6,10,11]),gz,(kw (z:=(dG.q b.a (N b.j.a))) R Z),(oP aj),eH⟩
 have h36t:Zd df=0:=by rw [aM]; rfl
 refine jT (cn aM) (sr (An Z (rt (tR (rs ?_)))))
 obtain⟨rfl,rfl,rfl,rfl⟩:=eQ (zj hr (show _=(0,M,a,Z5) from V (ae aJ) (eD aM))).symm
 exact⟨Z6,P,Q,dx,dz,s,h,j,d,l,aa,ak,au,Z1,Z,(bu.pf [1,2,3,4]),aD,R,ai,az⟩
end
open List renaming mem_append->U3,mem_filter->U4,mem_map->U8,mem_singleton->m6,nodup_append->v6,nodup_nil->W3,not_mem_nil->y2,pairwise_append->U2,pairwise_cons->N5,pairwise_map->U7
open Nat renaming ne_of_lt->W2
theorem put_mem {l:List aS} {t:Nat} {x:aL} {q:aS} (h:q ∈ jb l t x):(q.a=t/\q.j=O)\/(q ∈ l/\q.a≠t):=by
  unfold jb at h
  rcases U3.1 h with h | h
  . have:=U4.1 h
    exact .inr ⟨this.1,W2 (of_decide_eq_true this.2)⟩
  . rcases List.mem_cons.1 h with h | h
    . rw [h]; exact .inl ⟨Z,Z⟩
    . have:=U4.1 h
      exact .inr ⟨this.1,Nat.ne_of_gt (of_decide_eq_true this.2)⟩
theorem zP {t:Nat} {x:aL} {q:aS} (h:dies t x q=Zj):q.j=Zj:=by unfold dies at h; exact(Bool.and_eq_true _ _ ▸ h).1
theorem wo {l:List aS} {t:Nat} {x:aL} {n:Nat} (h:n ∈ s0 (λ q:aS=>q.a) ((jb l t x).filter (dies t x))):∃ q ∈ l,q.a=n/\q.j=Zj/\n≠t:=by
  obtain⟨q,hq,rfl⟩:=U8.1 h
  obtain⟨c,b⟩:=U4.1 hq
  rcases put_mem c with ⟨_,a⟩ | ⟨a,d⟩
  . rw [zP b] at a; cases a
  . exact⟨q,a,Z,zP b,d⟩
theorem Cz {l:List aS} (hs:Up l) {t:Nat} {x:aL} {n:Nat} (h:n ∈ s0 (λ q:aS=>q.a) ((jb l t x).filter (dies t x))):∀ r ∈ (jb l t x).filter (λ s=> !dies t x s),r.a≠n:=λ r hr e=>by
  obtain⟨q,hq,rfl⟩:=U8.1 h
  obtain⟨b,c⟩:=U4.1 hq
  obtain⟨d,a⟩:=U4.1 hr
  have:=zH (sJ hs t x) d b e
  subst this
  rw [c] at a
  exact absurd a f7
theorem Bh {l:List aS} (hs:Up l) {t:Nat} {x:aL}:(s0 (λ q:aS=>q.a) ((jb l t x).filter (dies t x))).Nodup:=
  U7.2 (((sJ hs t x).filter _).imp λ e=>W2 e)
structure Se (m0 l:List aS) (g d:List Nat):Prop where q::
  wt:∀ r ∈ l,r.j=Zj->∃ s ∈ m0,s.a=r.a/\s.j=Zj
  b:∀ n ∈ g, ∃ s ∈ m0,s.a=n/\s.j=Zj
  a:∀ n ∈ d, ∃ s ∈ m0,s.a=n/\s.j=Zj
  j:∀ n ∈ d, ∀ r ∈ l,r.a≠n
  t:∀ n ∈ g, ∀ r ∈ l,r.a=n->r.j=O
  u:(g++d).Nodup
theorem Se.step {o l:List aS} {g d:List Nat} {r:aS} (hf:Fit l) (h:Se o l g d) (hr:r ∈ l) (hw:r.j=Zj):
    Se o ((jb l r.a r.g).filter λ s=> !dies r.a r.g s) (g++ [r.a]) (d++s0 (λ q:aS=>q.a) ((jb l r.a r.g).filter (dies r.a r.g))) where
  wt:=λ q hq hqw=>by
    rcases put_mem (U4.1 hq).1 with ⟨_,c⟩ | ⟨c,_⟩
    . rw [hqw] at c; cases c
    . exact h.wt q c hqw
  b:=λ n hn=>by
    rcases U3.1 hn with e | e
    . exact h.b n e
    . rw [m6.1 e]; exact h.wt r hr hw
  a:=λ n hn=>by
    rcases U3.1 hn with e | e
    . exact h.a n e
    . obtain⟨q,i,rfl,c,_⟩:=wo e
      exact h.wt q i c
  j:=λ n hn q hq=>by
    rcases U3.1 hn with e | e
    . rcases put_mem (U4.1 hq).1 with ⟨c,_⟩ | ⟨c,_⟩
      . rw [c]; exact h.j n e r hr
      . exact h.j n e q c
    . exact Cz hf.up e q hq
  t:=λ n hn q hq hqn=>by
    rcases put_mem (U4.1 hq).1 with ⟨_,c⟩ | ⟨c,m⟩
    . exact c
    . rcases U3.1 hn with e | e
      . exact h.t n e q c hqn
      . exact absurd (hqn.trans (m6.1 e)) m
  u:=by
    have p:r.a ∉ g:=λ e=>by have:=h.t _ e r hr Z; rw [hw] at this; cases this
    have t:r.a ∉ d:=λ e=>h.j _ e r hr Z
    obtain⟨u,v,w⟩:=v6.1 h.u
    refine v6.2 ⟨v6.2 ⟨u,by simp,λ a ha b hb e=>by rw [m6.1 hb] at e; exact p (e ▸ ha)⟩,v6.2 ⟨v,Bh hf.up,λ a ha b hb e=> ?_⟩,λ a ha b hb e=> ?_⟩
    . obtain⟨q,i,j,_⟩:=wo hb
      exact h.j a ha q i (by rw [j,e])
    . subst e
      rcases U3.1 ha with k | k
      . rcases U3.1 hb with f | f
        . exact w a k a f Z
        . obtain⟨q,i,j,c,_⟩:=wo f
          have:=h.t a k q i j
          rw [c] at this; cases this
      . rw [m6.1 k] at hb
        rcases U3.1 hb with f | f
        . exact t f
        . obtain⟨q,i,j,c,m⟩:=wo f
          exact m Z
theorem xU {a m:List aS} {g d:List Nat} (hf:Fit m) (h:Se a m g d):Se a (dE (Wt m+1) m g d).1 (dE (Wt m+1) m g d).2.1 (dE (Wt m+1) m g d).2.2:=
  (uu (I:=λ l g' d'=>Se a l g' d') (λ l g' d' r hf hI hr hw _=>hI.step hf hr hw) (Wt m+1) m g d U hf h).1
structure Sf (k:Nat) (m0 l:List aS) (g d:List Nat):Prop where q::
  wt:∀ r ∈ l,r.j=Zj->r.a=k\/∃ s ∈ m0,s.a=r.a/\s.j=Zj
  b:∀ n ∈ g, ∃ s ∈ m0,s.a=n/\s.j=Zj
  a:∀ n ∈ d, ∃ s ∈ m0,s.a=n/\s.j=Zj
  j:∀ n ∈ d, ∀ r ∈ l,r.a≠n
  t:∀ n ∈ g, ∀ r ∈ l,r.a=n->r.j=O
  u:(g++d).Nodup
theorem Se.sf {k:Nat} {a l:List aS} {g d:List Nat} (h:Se a l g d):Sf k a l (sK g) (sK d) where
  wt:=λ r hr hw=> .inr (h.wt r hr hw)
  b:=λ n hn=>h.b n (yl.1 hn)
  a:=λ n hn=>h.a n (yl.1 hn)
  j:=λ n hn=>h.j n (yl.1 hn)
  t:=λ n hn=>h.t n (yl.1 hn)
  u:=(((yZ g).append (yZ d)).nodup_iff).2 h.u
theorem ww (k:Nat) (m:List aS):Sf k m m [] []:=⟨λ r hr hw=> .inr ⟨r,hr,Z,hw⟩,λ _ h=>absurd h y2,λ _ h=>absurd h y2,λ _ h=>absurd h y2,λ _ h=>absurd h y2,W3⟩
theorem CB {m:List aS} (hs:Up m) (t:Nat) (x:aL):Se m (gR m t x) [] (gD m t x) where
  wt:=λ q hq hqw=>by
    rcases put_mem (U4.1 hq).1 with ⟨_,a⟩ | ⟨a,_⟩
    . rw [hqw] at a; cases a
    . exact⟨q,a,Z,hqw⟩
  b:=λ _ h=>absurd h y2
  a:=λ n hn=>by
    obtain⟨q,b,c,a,_⟩:=wo hn
    exact⟨q,b,c,a⟩
  j:=λ n hn=>Cz hs hn
  t:=λ _ h=>absurd h y2
  u:=Bh hs
theorem Gj {m:List aS} {t:Nat} {x:aL} {q:aS} (h:q ∈ p8 m t x):q.a=t\/q ∈ m:=by
  unfold p8 at h
  rcases U3.1 h with h | h
  . exact .inr (U4.1 h).1
  . rcases List.mem_cons.1 h with h | h
    . rw [h]; exact .inl Z
    . exact .inr (U4.1 h).1
theorem Dc {m:List aS} (hs:Up m) {t:Nat} (h:gU (bn.q (N m)) t≠Zj):∀ r ∈ m,r.a=t->r.j=O:=λ r hr e=>by
  unfold gU at h
  rw [bI] at h
  rcases ni hs t with ⟨a,p,q,rfl,hp,ha,hq,hf⟩ | ⟨a,q,rfl,ha,hq,hf⟩
  . rw [hf,ZJ Z,bI] at h
    simp only [Int.toNat_natCast,gd] at h
    have:r=p:=zH hs hr i2 (by rw [e,hp])
    rw [this]; exact Bool.eq_false_iff.2 h
  . rcases U3.1 hr with b | b
    . exact absurd e (W2 (ha r b))
    . exact absurd e (Nat.ne_of_gt (hq r b))
theorem Hu {m:List aS} (h:jZ m) (t:Nat) (x:aL):Sf t m (oU m t x).2.2.2.2 (oU m t x).2.1 (oU m t x).2.2.1/\((oU m t x).2.2.2.1=0->∀ r ∈ m,r.a=t->r.j=O):=by
  have nw:=Dc (t:=t) h.up
  unfold oU
  by_cases b:dP x.j=0
  . rw [ZJ b]
    by_cases a:gU (bn.q (N m)) t=Zj
    . rw [ZJ a]; exact⟨ww t m,λ e=>absurd (show (4:Int)=0 from e) f7⟩
    . rw [ZK a]
      by_cases c:kN (bn.q (N m)) t x=Zj
      . rw [ZJ c]; exact⟨ww t m,λ _=>nw a⟩
      . rw [ZK c]
        by_cases d:192<=lv m
        . rw [ZJ d]; exact⟨ww t m,λ _=>nw a⟩
        . rw [ZK d]
          by_cases f:ed (bn.q (N m)) t x= []
          . rw [ZJ f]
            obtain⟨j,k⟩:=vZ m h.up t x
            have l:=wI m h.up t x
            have n:=h.len
            have o:=h.tot
            have i:lv (gR m t x)<=lv (jb m t x):=mP _ _
            have p:X (gR m t x)<=X (jb m t x):=List.length_filter_le _ _
            have hf:Fit (gR m t x):=⟨(sJ h.up t x).filter _,U,U⟩
            exact⟨(xU hf (CB h.up t x)).sf,λ _=>nw a⟩
          . rw [ZK f]
            by_cases g:List.getD (ed (bn.q (N m)) t x) 0 Zy < t
            . rw [ZJ g]; exact⟨ww t m,λ _=>nw a⟩
            . rw [ZK g]
              refine⟨⟨λ r hr hw=> ?_,λ _ h=>absurd h y2,λ _ h=>absurd h y2,λ _ h=>absurd h y2,λ _ h=>absurd h y2,W3⟩,λ _=>nw a⟩
              rcases Gj hr with e | e
              . exact .inl e
              . exact .inr ⟨r,e,Z,hw⟩
  . rw [ZK b]; exact⟨ww t m,λ e=>absurd (show (21:Int)=0 from e) f7⟩
theorem IR {m:List aS} (h:jZ m) {t:Nat} {x:aL} {s e:Int} {g d:List Nat} {r:bn} (hr:jc (bn.q (N m)) t x=(s,g,d,e,r)):
    Sf t m r.a.a g d/\(e=0->∀ r ∈ m,r.a=t->r.j=O):=by
  rw [wN h] at hr
  have b:g=_:=(ZX (λ q=>q.2.1) hr).symm
  have c:d=_:=(ZX (λ q=>q.2.2.1) hr).symm
  have f:e=_:=(ZX (λ q=>q.2.2.2.1) hr).symm
  have i:r=_:=(ZX (λ q=>q.2.2.2.2) hr).symm
  rw [b,c,f,i]
  exact Hu h t x
theorem Eu {m:List aS} (h:jZ m) {t:Nat} {g d:List Nat} {r:bn} (hr:jg (bn.q (N m)) t=(g,d,r)):Sf t m r.a.a g d/\∀ n,n ∈ g\/n ∈ d->n≠t:=by
  unfold jg at hr
  rw [bI,bI,rR h.up,tV] at hr
  have b:g=_:=(ZX (λ q=>q.1) hr).symm
  have c:d=_:=(ZX (λ q=>q.2.1) hr).symm
  have f:r=_:=(ZX (λ q=>q.2.2) hr).symm
  have hf:Fit (but t m):=h.fit.filter _
  have i:Se (but t m) (but t m) [] []:=⟨λ r hr hw=>⟨r,hr,Z,hw⟩,λ _ h=>absurd h y2,λ _ h=>absurd h y2,λ _ h=>absurd h y2,λ _ h=>absurd h y2,W3⟩
  have a:Sf t (but t m) r.a.a g d:=by rw [b,c,f]; exact(xU hf i).sf
  have up:∀ n,(∃ s ∈ but t m,s.a=n/\s.j=Zj)->(∃ s ∈ m,s.a=n/\s.j=Zj)/\n≠t:=λ n ⟨s,hs,e,w⟩=>by
    obtain⟨j,k2⟩:=U4.1 hs
    exact⟨⟨s,j,e,w⟩,by rw [<- e]; exact of_decide_eq_true k2⟩
  refine⟨⟨λ r hr hw=> ?_,λ n hn=>(up n (a.b n hn)).1,λ n hn=>(up n (a.a n hn)).1,a.j,a.t,a.u⟩,λ n hn=> ?_⟩
  . rcases a.wt r hr hw with e | e
    . exact .inl e
    . exact .inr (up _ e).1
  . rcases hn with e | e
    . exact(up n (a.b n e)).2
    . exact(up n (a.a n e)).2
structure Li (line:List dC) (rs:List aS):Prop where q::
  dead:∀ f ∈ line,f.g=Zj->∀ r ∈ rs,r.a≠f.a
  g:∀ f ∈ line,f.g=O->∀ r ∈ rs,r.a=f.a->r.j=O
  FV:line.Pairwise λ a b=>a.a≠b.a
theorem zQ (rs:List aS):Li [] rs:=⟨λ _ h=>absurd h y2,λ _ h=>absurd h y2,List.Pairwise.nil⟩
theorem Li.tail {f:dC} {l:List dC} {rs:List aS} (h:Li (f::l) rs):Li l rs/\∀ q ∈ l,q.a≠f.a:=
  ⟨⟨λ q hq=>h.dead q (.tail _ hq),λ q hq=>h.g q (.tail _ hq),(N5.1 h.FV).2⟩,λ q hq=>((N5.1 h.FV).1 q hq).symm⟩
theorem Li.step {line:List dC} {rs rs':List aS} {g d:List Nat} {k:Nat} (h:Li line rs) (hk:∀ f ∈ line,f.a≠k) (hin:∀ q ∈ rs',q.a=k\/∃ s ∈ rs,s.a=q.a) (hs:Sf k rs rs' g d):
    Li ((line++d.map λ n=>dC.q n Zj)++g.map λ n=>dC.q n O) rs' where
  dead:=λ f hf hd r hr e=>by
    rcases U3.1 hf with i | i
    . rcases U3.1 i with a | a
      . rcases hin r hr with c | ⟨s,b,c⟩
        . exact hk f a (by rw [<- e,c])
        . exact h.dead f a hd s b (by rw [c,e])
      . obtain⟨n,hn,rfl⟩:=U8.1 a
        exact hs.j n hn r hr e
    . obtain⟨n,hn,rfl⟩:=U8.1 i
      cases hd
  g:=λ f hf hd r hr e=>by
    rcases U3.1 hf with i | i
    . rcases U3.1 i with a | a
      . cases hw:r.j with
        | false=>rfl
        | true=>
          rcases hs.wt r hr hw with c | ⟨s,b,c,j⟩
          . exact absurd (by rw [<- e,c]) (hk f a)
          . have:=h.g f a hd s b (by rw [c,e])
            rw [j] at this; cases this
      . obtain⟨n,hn,rfl⟩:=U8.1 a
        cases hd
    . obtain⟨n,hn,rfl⟩:=U8.1 i
      exact hs.t n hn r hr e
  FV:=by
    obtain⟨o,l,p⟩:=v6.1 hs.u
    have old:∀ f ∈ line, ∀ n,(∃ s ∈ rs,s.a=n/\s.j=Zj)->f.a≠n:=λ f hf n ⟨s,b,e,hw⟩ c=>by
      cases hd:f.g with
      | true=>exact h.dead f hf hd s b (by rw [e,c])
      | false=>have:=h.g f hf hd s b (by rw [e,c]); rw [hw] at this; cases this
    refine U2.2 ⟨U2.2 ⟨h.FV,U7.2 l,λ f hf q hq=> ?_⟩,U7.2 o,λ f hf q hq=> ?_⟩
    . obtain⟨n,hn,rfl⟩:=U8.1 hq
      exact old f hf n (hs.a n hn)
    . obtain⟨n,hn,rfl⟩:=U8.1 hq
      rcases U3.1 hf with a | a
      . exact old f a n (hs.b n hn)
      . obtain⟨l,m,rfl⟩:=U8.1 a
        exact(p n hn l m).symm
open Int renaming toNat_natCast->O0
open List renaming filter_append->W6,filter_eq_self->W4,getElem?_eq_some_iff->p2,length_map->r5,map_cons->t0,mem_append_left->q7,mem_cons->v1,mem_iff_getElem?->N9,mem_of_mem_drop->W7,mem_of_mem_take->M1,sum_cons->P8,take_append_drop->s3,take_left'->u9
open Nat renaming le_refl->s2,le_succ->W8,ne_of_gt->W5,succ_le_succ->W9
theorem Jv (p:bD) (g:List Nat):∀ (d:List Nat) (l:List dC),jh p g d l=l++d.map λ n=>dC.q n Zj
  | [],l=>by simp [jh]
  | x::d,l=>by rw [jh,Jv p g d]; simp
theorem Jw (p:bD):∀ (g:List Nat) (l:List dC),ji p g l=l++g.map λ n=>dC.q n O
  | [],l=>by simp [ji]
  | x::g,l=>by rw [ji,Jw p g]; simp
theorem tX (p:bD) (g d:List Nat):lU p g d=bD.q p.a (N ((p.b.a++d.map λ n=>dC.q n Zj)++g.map λ n=>dC.q n O)):=by
  unfold lU
  simp only [bI,Jv,Jw]
def qV (k:Nat) (l:List bK):List bK:=l.filter λ w=>decide (w.a≠k)
theorem zR (m:aB) (k:Nat):cK m k=bQ m.b.a k:=Z
theorem hfind (m:aB) (k:Nat):eG m k=bU m.a.g.a k:=Z
theorem rA {m:aB} (hs:ug m.b.a) (k:Nat):eP m k=aB.q m.a (N (qV k m.b.a)):=by
  unfold eP
  rw [bI,zR]
  unfold qV
  rcases uh hs k with ⟨a,p,q,b,hp,ha,hq,h⟩ | ⟨a,q,b,ha,hq,h⟩
  . rw [h,ZJ Z]
    simp only [O0]
    have e:u2 (X a) m.b.a=a:=by rw [b]; exact u9 Z
    have f:r8 (X a+1) m.b.a=q:=by rw [b]; simp
    have c:=W4.2 λ r hr=>decide_eq_true (W2 (ha r hr))
    have d:=W4.2 λ r hr=>decide_eq_true (W5 (hq r hr))
    rw [e,f,b,W6,List.filter_cons_of_neg (by simp [hp]),c,d]
  . rw [h,ZK i2]
    have g:m.b.a.filter (λ w=>decide (w.a≠k))=m.b.a:=by rw [b,W6,(W4.2 λ r hr=>decide_eq_true (W2 (ha r hr))),(W4.2 λ r hr=>decide_eq_true (W5 (hq r hr)))]
    rw [g]
def sg (ws:List bK):Nat:=(ws.map λ w=>W ((X w.g.a:Int) - w.b)).sum
def ku (line:List dC) (ws:List bK) (rs:List aS):Nat:=2 *sg ws+Wt rs+X line
theorem xV (p:bK->Bool):∀ l:List bK,sg (l.filter p)<=sg l
  | []=>s2 _
  | a::l=>by
    have ih:=xV p l
    rw [List.filter_cons]
    unfold sg at ih ⊢
    by_cases h:p a=Zj
    . rw [ZJ h]; simp only [t0,P8]; omega
    . rw [ZK h]; simp only [t0,P8]; omega
theorem zS (a b:List bK):sg (a++b)=sg a+sg b:=by unfold sg; rw [List.map_append,List.sum_append]
theorem yn (a:bK) (b:List bK):sg (a::b)=W ((X a.g.a:Int) - a.b)+sg b:=by unfold sg; rw [t0,P8]
theorem rU {α:Type} {l:List α} {i:Nat} {x:α} (hx:l[i]? =Zv x):l=u2 i l++x::r8 (i+1) l/\X (u2 i l)=i:=by
  have h:=(p2.1 hx).1
  refine⟨?_,by rw [o1]; omega⟩
  conv=>lhs; rw [<- s3 i l]
  rw [drop_at hx]
theorem Fz {α:Type} {l:List α} {i:Nat} {x y:α} (hx:l[i]? =Zv x):M2 l i y=u2 i l++y::r8 (i+1) l:=by
  rw [List.set_eq_take_append_cons_drop,ZJ ((p2.1 hx).1)]
theorem FB {ws:List bK} {i:Nat} {x y:bK} (hx:ws[i]? =Zv x) (hl:y.g=x.g) (hy:y.b=x.b+1):sg (M2 ws i y)+(if x.b < (X x.g.a:Int) then 1 else 0)=sg ws:=by
  rw [Fz hx]
  conv=>rhs; rw [((rU hx).1)]
  rw [zS,zS,yn,yn,hl,hy]
  split <;> omega
theorem FC {ws:List bK} (i:Nat):sg (u2 i ws++r8 (i+1) ws)<=sg ws:=by
  have h:sg ws=sg (u2 i ws)+sg (r8 i ws):=by rw [<- zS,s3]
  have a:sg (r8 (i+1) ws)<=sg (r8 i ws):=by
    cases e:ws[i]? with
    | none=>have:=List.getElem?_eq_none_iff.1 e; rw [List.drop_eq_nil_of_le U]; exact Nt _
    | some x=>rw [drop_at e,yn]; omega
  rw [zS]; omega
def Tx (ws:List bK) (hs:List dG) (n:Nat):Prop:=(∃ w ∈ ws,w.a=n)\/∃ h ∈ hs,h.r=n
theorem Tk.gone {ws:List bK} {hs:List dG} {rs rs':List aS} {k:Nat} (h:Tk ws hs rs) (hr:∀ q ∈ rs',q.a≠k/\∃ s ∈ rs,s.a=q.a) (hs':jZ rs'):Tk (qV k ws) hs rs' where
  a:=h.a.filter _
  hu:=h.hu
  k:=λ w hw z hz=>h.k w (U4.1 hw).1 z hz
  n:=by have:=h.n; have:=List.length_filter_le (λ w:bK=>decide (w.a≠k)) ws; unfold qV; omega
  j:=λ w hw=>h.j w (U4.1 hw).1
  b:=h.b
  snd:=hs'
  g:=λ q hq=>by
    obtain⟨b,s,c,a⟩:=hr q hq
    rcases h.g s c with ⟨w,hw,e⟩ | ⟨z,hz,e⟩
    . exact .inl ⟨w,U4.2 ⟨hw,decide_eq_true (by rw [e,a]; exact b)⟩,by rw [e,a]⟩
    . exact .inr ⟨z,hz,by rw [e,a]⟩
theorem Hw {hs:List dG} (hu:wW hs) {z:dG} {j:Int} {b:Bool} (hf:bU hs z.r=(j,b)) (hn:∀ h ∈ hs,h.r≠z.r):wW (u2 (W j) hs++(z::r8 (W j) hs)):=by
  rcases qE hu z.r with ⟨a,p,q,c,hp,ha,hq,h⟩ | ⟨a,q,c,ha,hq,h⟩
  . exact absurd hp (hn p (by rw [c]; simp))
  . rw [h] at hf
    have d:j=(X a:Int):=(ZX Prod.fst hf).symm
    rw [d,O0,c,u9 Z,List.drop_left' Z]
    rw [c] at hu
    obtain⟨f,g,i⟩:=U2.1 hu
    exact U2.2 ⟨f,N5.2 ⟨hq,g⟩,λ r hr s hs=>by
      rcases v1.1 hs with e | e
      . rw [e]; exact ha r hr
      . exact i r hr s e⟩
theorem mJ {α:Type} {l:List α} {i:Nat} {z x:α}:x ∈ u2 i l++(z::r8 i l)↔x=z\/x ∈ l:=by
  rw [U3,v1]
  constructor
  . rintro (h | h | h)
    . exact .inr (M1 h)
    . exact .inl h
    . exact .inr (W7 h)
  . rintro (h | h)
    . exact .inr (.inl h)
    . rw [<- s3 i l] at h
      rcases U3.1 h with h | h
      . exact .inl h
      . exact .inr (.inr h)
theorem Tk.hold {ws:List bK} {hs:List dG} {rs:List aS} {i:Nat} {x:bK} {j:Int} {b:Bool} (h:Tk ws hs rs) (hx:ws[i]? =Zv x) (hf:bU hs x.a=(j,b)):
    Tk (u2 i ws++r8 (i+1) ws) (u2 (W j) hs++((dG.q x.a (N x.j.a))::r8 (W j) hs)) rs where
  a:=by
    have d:=h.a
    rw [(rU hx).1] at d
    obtain⟨a,b,c⟩:=U2.1 d
    exact U2.2 ⟨a,(N5.1 b).2,λ r hr s hs=>c r hr s (.tail _ hs)⟩
  hu:=Hw (z:=dG.q x.a (N x.j.a)) h.hu hf λ z hz=>(h.k x (G4 hx) z hz).symm
  k:=λ w hw z hz=>by
    have d:=h.a
    rw [(rU hx).1] at d
    obtain⟨a,b,c⟩:=U2.1 d
    have hne:w.a≠x.a:=by
      rcases U3.1 hw with e | e
      . exact W2 (c w e x b3)
      . exact W5 ((N5.1 b).1 w e)
    have hm:w ∈ ws:=by
      rcases U3.1 hw with e | e
      . exact M1 e
      . exact W7 e
    rcases mJ.1 hz with e | e
    . rw [e]; exact hne
    . exact h.k w hm z e
  n:=by
    have:=h.n
    have d:=(p2.1 hx).1
    simp only [o3,q6,o1,List.length_drop]
    omega
  j:=λ w hw=>h.j w (by
    rcases U3.1 hw with e | e
    . exact M1 e
    . exact W7 e)
  b:=λ z hz=>by
    rcases mJ.1 hz with e | e
    . rw [e]; exact(h.wat hx).2.1
    . exact h.b z e
  snd:=h.snd
  g:=λ r hr=>by
    rcases h.g r hr with ⟨w,hw,e⟩ | ⟨z,hz,e⟩
    . rw [(rU hx).1] at hw
      rcases U3.1 hw with f | f
      . exact .inl ⟨w,q7 _ f,e⟩
      . rcases v1.1 f with g | g
        . exact .inr ⟨_,mJ.2 (.inl Z),by rw [<- e,g]⟩
        . exact .inl ⟨w,List.mem_append_right _ g,e⟩
    . exact .inr ⟨z,mJ.2 (.inr hz),e⟩
theorem FD {p:bD} {z:dG} {m:aB} {s:StoreT} {e:Int} {t:bD} (h:gY p z m s=(e,t)):t.b=p.b/\t.a.a=p.a.a/\t.a.g=p.a.g/\X t.a.b.a<=X p.a.b.a+1:=by
  unfold gY at h
  rw [bI] at h
  split at h
  . obtain⟨_,rfl⟩:=fI h; exact⟨rfl,rfl,rfl,by simp⟩
  . obtain⟨_,rfl⟩:=fI h; exact⟨rfl,rfl,rfl,W8 _⟩
theorem CE {p:bD} {k:Nat} {m:aB} {tb:bn} (hs:jZ tb.a.a) {t:bD} {tb':bn} (h:fP p k m tb=(t,tb')):
    t.a=p.a/\(∀ q ∈ tb'.a.a,q.a≠k/\∃ s ∈ tb.a.a,s.a=q.a)/\jZ tb'.a.a/\X t.b.a+Wt tb'.a.a<=X p.b.a+Wt tb.a.a/\
      (Li p.b.a tb.a.a->(∀ f ∈ p.b.a,f.a≠k)->Li t.b.a tb'.a.a):=by
  unfold fP at h
  rw [bI,bI] at h
  cases hr:jg tb k with
  | mk g q=>cases q with
    | mk d e=>
      rw [hr,tX] at h
      obtain⟨rfl,rfl⟩:=fI h
      have c:=Db (m:=tb.a.a) hs hr
      refine⟨Z,c.1,Bw hs hr, ?_,λ a b=>a.step b (λ q hq=> .inr (c.1 q hq).2) (Eu hs hr).1⟩
      simp only [o3,r5]
      have:=c.2
      omega
structure Gn (p:bD) (m:aB) (tb:bn) (t:bD) (m':aB) (tb':bn):Prop where q::
  tk:Tk m'.b.a m'.a.g.a tb'.a.a
  a:∀ n,Tx m'.b.a m'.a.g.a n->Tx m.b.a m.a.g.a n
  out:X t.a.b.a<=X p.a.b.a+1
  wr:t.a.a=p.a.a
  st:m'.a= { m.a with g:=m'.a.g }
  b:Li t.b.a tb'.a.a
  gt:Gt m'.b.a
theorem FE {ws:List bK} {hs:List dG} {i:Nat} {x y:bK} (hx:ws[i]? =Zv x) (ht:y.a=x.a) (n:Nat) (h:Tx (M2 ws i y) hs n):Tx ws hs n:=by
  rcases h with h | h
  . rw [zO,ym hx ht, <- zO] at h; exact .inl h
  . exact .inr h
theorem go_loop (p:bD) (k:Nat) (m:aB) (s:StoreT) (r:Int):∀ (q:Nat) (l:List dC) (rs:List aS) (ws:List bK),Tk ws m.a.g.a rs->wm ws (W r) k->gm ws (W r) < q->Li l rs->(∀ f ∈ l,f.a≠k)->Gx k ws->
    (∀ n,Tx ws m.a.g.a n->Tx m.b.a m.a.g.a n)->
    (∀ l' rs' ws' x,gI p k m s r q l rs ws= .inl (l',rs',ws',x)->Tk ws' m.a.g.a rs'/\ws'[W r]? =Zv x/\ku l' ws' rs'<=ku l ws rs/\(∀ n,Tx ws' m.a.g.a n->Tx m.b.a m.a.g.a n)/\Li l' rs'/\Gx k ws'/\x.a=k)/\
    (∀ e t m' tb',gI p k m s r q l rs ws= .inr (e,t,m',tb')->Gn p m (bn.q (N rs)) t m' tb'/\0 < gm ws (W r)/\ku t.b.a m'.b.a tb'.a.a<=ku l ws rs+1):=by
  intro q
  induction q with
  | zero=>intro l rs ws _ _ h; omega
  | succ q ih=>
    intro l rs ws hk hw _ hli hlk hgx htx
    obtain⟨x,hx,hxt⟩:=id hw
    obtain⟨⟨_,_⟩,_,_⟩:=hk.wat hx
    rw [gI]
    simp only [bI,bG hx]
    by_cases v:x.b < ((X x.g.a:Nat):Int)
    . rw [ZJ v]
      have hgt:Gt ws:=λ w z=>by
        by_cases e:w.a=k
        . obtain⟨j,hj⟩:=N9.1 z
          have A:=ui (m:=aB.q m.a (N ws)) hk.a ⟨w,hj,e⟩
          have u:=ui (m:=aB.q m.a (N ws)) hk.a hw
          rw [A] at u
          rw [(Int.ofNat.inj (ZX Prod.fst u)),hx] at hj
          cases hj
          exact v
        . exact hgx w z e
      have hpos:0 < gm ws (W r):=by rw [(zM hx)]; omega
      cases ha:jc (bn.q (N rs)) k (List.getD x.g.a (W x.b) Zy) with
      | mk sv I=>cases I with
        | mk g J=>cases J with
          | mk d K=>cases K with
            | mk e tb=>
              have b:=hk.ask hw ha
              have hpsi:=(AP hk.snd ha).2
              have hsf:=IR hk.snd ha
              have a:=hli.step hlk (AP hk.snd ha).1 hsf.1
              simp only [tX]
              have hlen:X ((l++d.map λ n=>dC.q n Zj)++g.map λ n=>dC.q n O)=X l+X d+X g:=by simp only [o3,r5]
              by_cases C:e=0
              . rw [ZJ C]
                have i:∀ f ∈ (l++d.map λ n=>dC.q n Zj)++g.map λ n=>dC.q n O,f.a≠k:=λ f hf o=>by
                  have hno:∀ n,(∃ s ∈ rs,s.a=n/\s.j=Zj)->n≠k:=λ n ⟨s,hs,L,D⟩ M=>by
                    have:=hsf.2 C s hs (by rw [L,M]); rw [D] at this; cases this
                  rcases U3.1 hf with A | A
                  . rcases U3.1 A with u | u
                    . exact hlk f u o
                    . obtain⟨n,hn,rfl⟩:=List.mem_map.1 u
                      exact hno n (hsf.1.a n hn) o
                  . obtain⟨n,hn,rfl⟩:=List.mem_map.1 A
                    exact hno n (hsf.1.b n hn) o
                by_cases B:sv=2
                . rw [ZJ B]
                  refine⟨λ _ _ _ _ h=>(by cases h),λ o t m' tb' h=> ?_⟩
                  obtain⟨_,rfl,rfl,rfl⟩:=eQ (Sum.inr.inj h)
                  refine⟨⟨b,htx,W8 _,Z,Z,a,hgt⟩,hpos, ?_⟩
                  rw [ZJ B] at hpsi
                  unfold ku
                  simp only [hlen]
                  omega
                . rw [ZK B]
                  rw [ZK B] at hpsi
                  by_cases G:sv=3
                  . rw [ZJ G]
                    refine⟨λ _ _ _ _ h=>(by cases h),λ o t m' tb' h=> ?_⟩
                    unfold iV at h
                    rw [bI,rA (m:=aB.q m.a (N ws)) hk.a] at h
                    simp only at h
                    cases hr:fP (bD.q (bY.q (N (p.a.b.a++ [(cz.q 4 m.a.r 0 0 5 0 0 0 k 0 0 0 0 0 0 O (ai.q [] []) (N []) (N []) (N []))])) (N p.a.a.a) p.a.g) (N ((l++d.map λ n=>dC.q n Zj)++g.map λ n=>dC.q n O))) k (aB.q m.a (N (qV k ws))) tb with
                    | mk Z5 E=>
                      rw [hr] at h
                      obtain⟨_,rfl,rfl,rfl⟩:=eQ (Sum.inr.inj h)
                      obtain⟨_,Z6,P,Q,R⟩:=CE b.snd hr
                      refine⟨⟨b.gone Z6 P,λ n hn=>htx n ?_,by simp,Z,Z,R a i,λ w hw=>hgt w (U4.1 hw).1⟩,hpos, ?_⟩
                      . rcases hn with ⟨w,hw,e⟩ | hn
                        . exact .inl ⟨w,(U4.1 hw).1,e⟩
                        . exact .inr hn
                      . have h5:=xV (λ w=>decide (w.a≠k)) ws
                        simp only [hlen] at Q
                        unfold ku
                        show 2 *sg (qV k ws)+Wt E.a.a+X Z5.b.a<=_
                        unfold qV
                        omega
                  . rw [ZK G]
                    have S:=zN (y:=bK.q x.a (N x.j.a) (N x.g.a) (x.b+1)) hx v Z Z
                    have F:=FB (y:=bK.q x.a (N x.j.a) (N x.g.a) (x.b+1)) hx Z Z
                    rw [ZJ v] at F
                    have Z7:ku ((l++d.map λ n=>dC.q n Zj)++g.map λ n=>dC.q n O) (M2 ws (W r) (bK.q x.a (N x.j.a) (N x.g.a) (x.b+1))) tb.a.a+2<=ku l ws rs:=by
                      unfold ku
                      rw [hlen]
                      omega
                    have hi:=ih ((l++d.map λ n=>dC.q n Zj)++g.map λ n=>dC.q n O) tb.a.a (M2 ws (W r) (bK.q x.a (N x.j.a) (N x.g.a) (x.b+1))) (b.bump (y:=bK.q x.a (N x.j.a) (N x.g.a) (x.b+1)) hx Z Z Z (show (0:Int)<=x.b+1/\x.b+1<=((X x.g.a:Nat):Int) by omega)) (hw.set hx Z) U a i (hgx.set hxt) (λ n hn=>htx n (FE (y:=bK.q x.a (N x.j.a) (N x.g.a) (x.b+1)) hx Z n hn))
                    refine⟨λ l' rs' ws' x' h=> ?_,λ o t m' tb' h=> ?_⟩
                    . obtain⟨c,Z3,Z4,Z8,Z1,Z2,Z0⟩:=hi.1 l' rs' ws' x' h
                      exact⟨c,Z3,U,Z8,Z1,Z2,Z0⟩
                    . obtain⟨c,_,Z4⟩:=hi.2 o t m' tb' h
                      exact⟨⟨c.tk,c.a,c.out,c.wr,c.st,c.b,c.gt⟩,hpos,U⟩
              . rw [ZK C]
                refine⟨λ _ _ _ _ h=>(by cases h),λ o t m' tb' h=> ?_⟩
                obtain⟨_,rfl,rfl,rfl⟩:=eQ (Sum.inr.inj h)
                refine⟨⟨b,htx,W8 _,Z,Z,⟨λ f hf=>a.dead f (q7 _ (q7 _ hf)),λ f hf=>a.g f (q7 _ (q7 _ hf)),hli.FV⟩,hgt⟩,hpos, ?_⟩
                unfold ku
                show 2 *sg ws+Wt tb.a.a+X l<=_
                split at hpsi <;> omega
    . rw [ZK v]
      refine⟨λ l' rs' ws' x' h=> ?_,λ _ _ _ _ h=>(by cases h)⟩
      obtain⟨rfl,rfl,rfl,rfl⟩:=eQ (Sum.inl.inj h)
      exact⟨hk,hx,s2 _,htx,hli,hgx,hxt⟩
theorem tL {p:bD} {k:Nat} {m:aB} {s:StoreT} {tb:bn} (hk:Tk m.b.a m.a.g.a tb.a.a) (hli:Li p.b.a tb.a.a) (hlk:∀ f ∈ p.b.a,f.a≠k) (hgx:Gx k m.b.a) {e:Int} {t:bD} {m':aB} {tb':bn} (h:fH p k m s tb=(e,t,m',tb')):
    Gn p m tb t m' tb'/\(ku t.b.a m'.b.a tb'.a.a<=ku p.b.a m.b.a tb.a.a+1)/\((∀ i,wm m.b.a i k->gm m.b.a i=0)->ku t.b.a m'.b.a tb'.a.a<=ku p.b.a m.b.a tb.a.a):=by
  unfold fH at h
  rw [bI] at h
  cases hf:cK m k with
  | mk i b=>
    rw [hf] at h
    cases b with
    | false=>
      rw [ZK i2] at h
      obtain⟨_,rfl,rfl,rfl⟩:=eQ h
      refine⟨⟨hk,λ _ h=>h,W8 _,Z,Z,hli,λ w hw=>hgx w hw λ d=> ?_⟩,W8 _,λ _=>s2 _⟩
      obtain⟨j,hj⟩:=N9.1 hw
      rw [ui hk.a ⟨w,hj,d⟩] at hf
      exact Bool.noConfusion (show Zj=O from ZX Prod.snd hf)
    | true=>
      rw [ZJ Z] at h
      have hw:=mR hk.a hf
      obtain⟨hl,hr⟩:=go_loop p k m s i (gm m.b.a (W i)+1) p.b.a tb.a.a m.b.a hk hw U hli hlk hgx (λ _ h=>h)
      cases hg:gI p k m s i (gm m.b.a (W i)+1) p.b.a tb.a.a m.b.a with
      | inr z=>
        obtain⟨d,C,D,u⟩:=z
        simp only at h
        rw [hg] at h
        obtain⟨rfl,rfl,rfl,rfl⟩:=eQ (show (d,C,D,u)=(e,t,m',tb') from h)
        obtain⟨g,q,r⟩:=hr _ _ _ _ hg
        exact⟨⟨g.tk,g.a,g.out,g.wr,g.st,g.b,g.gt⟩,r,λ E=>by have:=E _ hw; omega⟩
      | inl z=>
        obtain⟨l2,l,o,x⟩:=z
        simp only at h
        rw [hg] at h
        obtain⟨g,q,r,F,G,y,I⟩:=hl _ _ _ _ hg
        simp only [lp,bI,hfind] at h
        cases hj:bU m.a.g.a x.a with
        | mk j J=>
          rw [hj] at h
          generalize hv:gY _ _ _ _=v at h
          obtain⟨A,K⟩:=v
          obtain⟨L,M,_,H⟩:=FD hv
          obtain⟨_,rfl,rfl,rfl⟩:=eQ h
          refine⟨⟨(g.hold q hj),λ n hn=>F n ?_,H,Z,Z,G,λ w hw=> ?_⟩, ?_,λ _=> ?_⟩
          . rcases hn with ⟨w,hw,e⟩ | ⟨z,hz,e⟩
            . refine .inl ⟨w, ?_,e⟩
              rcases U3.1 hw with d | d
              . exact M1 d
              . exact W7 d
            . rcases mJ.1 hz with d | d
              . exact .inl ⟨x,G4 q,by rw [<- e,d]⟩
              . exact .inr ⟨z,d,e⟩
          . have B:=g.a
            rw [(rU q).1] at B
            obtain⟨a,b,c⟩:=U2.1 B
            rcases U3.1 hw with d | d
            . exact y w (M1 d) λ A=>by have:=c w d x b3; omega
            . exact y w (W7 d) λ A=>by have:=(N5.1 b).1 w d; omega
          . have:=FC (ws:=o) (W i)
            unfold ku at r ⊢
            show 2 *sg (u2 _ _++r8 _ _)+Wt l+X l2<=_
            omega
          . have:=FC (ws:=o) (W i)
            unfold ku at r ⊢
            show 2 *sg (u2 _ _++r8 _ _)+Wt l+X l2<=_
            omega
theorem drop1 {α:Type} {l:List α} {f:α} (h:l[0]? =Zv f):l=f::r8 1 l:=by
  cases l with
  | nil=>cases h
  | cons a l=>cases h; rfl
theorem wO {line:List dC} {f:dC} {m:aB} {hs:List dG} {rs:List aS} {p t:bD} {m':aB} (hk:Tk m.b.a hs rs) (hg:Gt m.b.a) (hli:Li line rs) (hf:line[0]? =Zv f) (hd:f.g=Zj) (h:iV p f.a m=(t,m')):
    Tk m'.b.a hs rs/\Gt m'.b.a/\Li (r8 1 line) rs/\ku (r8 1 line) m'.b.a rs+1<=ku line m.b.a rs:=by
  have e:=drop1 hf
  rw [e] at hli
  unfold iV at h
  rw [bI,rA hk.a] at h
  obtain⟨_,rfl⟩:=fI h
  refine⟨hk.gone (λ q hq=>⟨hli.dead f b3 hd q hq,q,hq,Z⟩) hk.snd,λ w hw=>hg w (U4.1 hw).1,hli.tail.1, ?_⟩
  have a:=xV (λ w=>decide (w.a≠f.a)) m.b.a
  conv=>rhs; rw [e]
  unfold ku
  show 2 *sg (qV f.a m.b.a)+_+_+1<=_
  unfold qV
  simp only [q6]
  omega
theorem yu {line:List dC} {f:dC} {m c:aB} {tb:bn} {i:Int} {x:bK} {p:bD} {s:StoreT} {e:Int} {t:bD} {m':aB} {tb':bn} (hk:Tk m.b.a m.a.g.a tb.a.a) (hg:Gt m.b.a) (hli:Li line tb.a.a) (hf:line[0]? =Zv f)
    (hi:cK m f.a=(i,Zj)) (hx:m.b.a[W i]? =Zv x) (hp:p.b.a=r8 1 line) (hm:c=aB.q m.a (N (M2 m.b.a (W i) (bK.q x.a (N x.j.a) (N x.g.a) (x.b+1)))))
    (h:fH p f.a c s tb=(e,t,m',tb')):
    Tk m'.b.a m'.a.g.a tb'.a.a/\Gt m'.b.a/\Li t.b.a tb'.a.a/\ku t.b.a m'.b.a tb'.a.a+1<=ku line m.b.a tb.a.a/\X t.a.b.a<=X p.a.b.a+1:=by
  have d:=drop1 hf
  rw [d] at hli
  obtain⟨⟨j,k⟩,l,n⟩:=hk.wat hx
  have hgx:=hg.wat hx
  obtain⟨y,hy,hyt⟩:=id (mR hk.a hi)
  rw [hx] at hy; cases hy
  subst hm
  have b:=FB (y:=bK.q x.a (N x.j.a) (N x.g.a) (x.b+1)) hx Z Z
  rw [ZJ hgx] at b
  obtain⟨a,g,_⟩:=tL (m:=aB.q m.a (N _)) (hk.bump (y:=bK.q x.a (N x.j.a) (N x.g.a) (x.b+1)) hx Z Z Z (show (0:Int)<=x.b+1/\x.b+1<=((X x.g.a:Nat):Int) by omega)) (by rw [hp]; exact hli.tail.1) (by rw [hp]; exact hli.tail.2) ((hg.gx f.a).set hyt) h
  refine⟨a.tk,a.gt,a.b, ?_,a.out⟩
  conv=>rhs; rw [d]
  rw [hp] at g
  refine Nat.le_trans (W9 g) ?_
  unfold ku
  show 2 *sg (M2 _ _ _)+_+_+1+1<=_
  simp only [q6]
  omega
theorem yw {line:List dC} {f:dC} {m:aB} {tb:bn} {i:Int} {b:Bool} {p:bD} {s:StoreT} {e:Int} {t:bD} {m':aB} {tb':bn} (hk:Tk m.b.a m.a.g.a tb.a.a) (hg:Gt m.b.a) (hli:Li line tb.a.a) (hf:line[0]? =Zv f)
    (hi:cK m f.a=(i,b)) (hb: ¬ b=Zj) (hp:p.b.a=r8 1 line) (h:fH p f.a m s tb=(e,t,m',tb')):
    Tk m'.b.a m'.a.g.a tb'.a.a/\Gt m'.b.a/\Li t.b.a tb'.a.a/\ku t.b.a m'.b.a tb'.a.a+1<=ku line m.b.a tb.a.a/\X t.a.b.a<=X p.a.b.a+1:=by
  have c:=drop1 hf
  rw [c] at hli
  obtain⟨a,_,g⟩:=tL hk (by rw [hp]; exact hli.tail.1) (by rw [hp]; exact hli.tail.2) (hg.gx f.a) h
  have d:=g λ j hj=>by
    rw [ui hk.a hj] at hi
    exact absurd (ZX Prod.snd hi).symm hb
  refine⟨a.tk,a.gt,a.b, ?_,a.out⟩
  conv=>rhs; rw [c]
  rw [hp] at d
  refine Nat.le_trans (W9 d) ?_
  unfold ku
  simp only [q6]
  omega
open _root_.Go.Proofs.Tryz renaming isAgg90->X0
section
open Go.RowKit
def fG (k:bD) (a:aB) (d:StoreT):Nat->List cz->List dC->List dG->List bK->List aS->((List cz) × (List dC) × (List dG) × (List bK) × (List aS)) ⊕ (Int × bD × aB × bn)
  | 0,l,f,h,i,m=>Sum.inl Zy
  | o+1,l,f,h,i,m=>if((X f:Nat):Int) > 0 then bnd (List.getD f 0 Zy) λ g=>if g.g=Zj then bnd (iV (bD.q (bY.q (N l) (N k.a.a.a) k.a.g) (N (r8 1 f))) g.a (aB.q (bH.q a.a.r a.a.y a.a.u a.a.z a.a.k (N a.a.b.a) (N h) (N a.a.j.a) a.a.t a.a.B a.a.s a.a.a) (N i))) λ n=>fG k a d o n.1.a.b.a (r8 1 f) h n.2.b.a m else bnd (cK (aB.q (bH.q a.a.r a.a.y a.a.u a.a.z a.a.k (N a.a.b.a) (N h) (N a.a.j.a) a.a.t a.a.B a.a.s a.a.a) (N i)) g.a) λ j=>if j.2=Zj then bnd (List.getD i (W j.1) Zy) λ e=>bnd (fH (bD.q (bY.q (N l) (N k.a.a.a) k.a.g) (N (r8 1 f))) g.a (aB.q (bH.q a.a.r a.a.y a.a.u a.a.z a.a.k (N a.a.b.a) (N h) (N a.a.j.a) a.a.t a.a.B a.a.s a.a.a) (N (M2 i (W j.1) (bK.q e.a (N e.j.a) (N e.g.a) (e.b+1))))) d (bn.q (N m))) λ b=>if b.1=0 then fG k a d o b.2.1.a.b.a b.2.1.b.a b.2.2.1.a.g.a b.2.2.1.b.a b.2.2.2.a.a else Sum.inr (b.1,bD.q (bY.q (N b.2.1.a.b.a) (N k.a.a.a) k.a.g) (N b.2.1.b.a),aB.q (bH.q a.a.r a.a.y a.a.u a.a.z a.a.k (N a.a.b.a) (N b.2.2.1.a.g.a) (N a.a.j.a) a.a.t a.a.B a.a.s a.a.a) (N b.2.2.1.b.a),b.2.2.2) else bnd (fH (bD.q (bY.q (N l) (N k.a.a.a) k.a.g) (N (r8 1 f))) g.a (aB.q (bH.q a.a.r a.a.y a.a.u a.a.z a.a.k (N a.a.b.a) (N h) (N a.a.j.a) a.a.t a.a.B a.a.s a.a.a) (N i)) d (bn.q (N m))) λ c=>if c.1=0 then fG k a d o c.2.1.a.b.a c.2.1.b.a c.2.2.1.a.g.a c.2.2.1.b.a c.2.2.2.a.a else Sum.inr (c.1,bD.q (bY.q (N c.2.1.a.b.a) (N k.a.a.a) k.a.g) (N c.2.1.b.a),aB.q (bH.q a.a.r a.a.y a.a.u a.a.z a.a.k (N a.a.b.a) (N c.2.2.1.a.g.a) (N a.a.j.a) a.a.t a.a.B a.a.s a.a.a) (N c.2.2.1.b.a),c.2.2.2) else Sum.inl (l,f,h,i,m)
def eu (d:bD) (a:aB) (c:StoreT) (b:bn):Int × bD × aB × bn:=
 lp (fG d a c ((ku d.b.a a.b.a b.a.a)+1) d.a.b.a d.b.a a.a.g.a a.b.a b.a.a) λ sLrL=>(0,bD.q (bY.q (N sLrL.1) (N d.a.a.a) d.a.g) (N sLrL.2.1),aB.q (bH.q a.a.r a.a.y a.a.u a.a.z a.a.k (N a.a.b.a) (N sLrL.2.2.1) (N a.a.j.a) a.a.t a.a.B a.a.s a.a.a) (N sLrL.2.2.2.1),bn.q (N sLrL.2.2.2.2))
theorem oz (w D g0) (A:bD) (dK dL dB Z6 J dN dO x) (a:aB) (B C aR aT aD E F aU aW aF j) (d:StoreT) (s r l) (t:bn) (ak au S r0) (r1:bD) (r2:aB) (r3:bn) (H:Own w D w [blk g0 [Zz (Zv ⟨x,0,Zk⟩), T dK (X A.a.b.a) dL, T Z6 (X A.a.a.a) J, Y A.a.g, T dN (X A.b.a) dO] 92,row dK (X A.a.b.a) dL (q1 bM.L dB) 47 21,sepL (q1 Km dB),jV dN (X A.b.a) dO (q1 dC.L A.b.a) 211 2,blk x (kB a B (X a.a.b.a) C aR (X a.a.g.a) aT E (X a.a.j.a) F a.a.t j aU (X a.b.a) aW l) 78,row aR (X a.a.g.a) aT (q1 bA.L aD) 80 2,sepL (q1 Ky aD),row aU (X a.b.a) aW (q1 aY.L aF) 100 4,sepL (q1 Kq aF),blk j [T s (X d.a.a) r] 29,blk l [T ak (X t.a.a) au] 111,row ak (X t.a.a) au (q1 aH.L S) 159 6,sepL (q1 Kj S)]) (dP:s0 bM.abs dB=A.a.b.a) (dQ:Ro w D λ w'=>bV w' 6 Z6 (X A.a.a.a) (q1 aV.L A.a.a.a)) (jC:X A.a.a.a<=J/\X A.a.a.a<=9223372036854775807) (bu:s0 bA.abs aD=a.a.g.a) (bv:s0 aY.abs aF=a.b.a) (aI:Ro w D λ w'=>bV w' 2 s (X d.a.a) (q1 aG.L d.a.a)) (il:X d.a.a<=r/\X d.a.a<=9223372036854775807) (aJ:s0 aH.abs S=t.a.a) (lV:Tk a.b.a a.a.g.a t.a.a) (lW:Gt a.b.a) (lX:Li A.b.a t.a.a) (lY:X a.b.a+X a.a.g.a<=6) (lZ:X t.a.a<=6) (l5:X A.a.b.a+ku A.b.a a.b.a t.a.a<=80000/\X A.a.a.a<=1000/\X d.a.a<=4000) (hr:eu A a d t=(r0,r1,r2,r3)):
    Calls Tryz.prog 83 #[vP g0 0] w (dI λ v w'=> ∃ dR dS bU dU dV dW dX bW dY dZ bX d9 ed bZ,v=vI r0/\Own w D w' [blk g0 [vP x 0, T dR (X r1.a.b.a) dS, T Z6 (X A.a.a.a) J, Y A.a.g, T dU (X r1.b.a) dV] 92,row dR (X r1.a.b.a) dS (q1 bM.L bU) 47 21,sepL (q1 Km bU),jV dU (X r1.b.a) dV (q1 dC.L r1.b.a) 211 2,blk x (kB a B (X a.a.b.a) C dW (X r2.a.g.a) dX E (X a.a.j.a) F a.a.t j dY (X r2.b.a) dZ l) 78,row dW (X r2.a.g.a) dX (q1 bA.L bW) 80 2,sepL (q1 Ky bW),row dY (X r2.b.a) dZ (q1 aY.L bX) 100 4,sepL (q1 Kq bX),blk j [T s (X d.a.a) r] 29,blk l [T d9 (X r3.a.a) ed] 111,row d9 (X r3.a.a) ed (q1 aH.L bZ) 159 6,sepL (q1 Kj bZ)]/\(s0 bM.abs bU=r1.a.b.a)/\(s0 bA.abs bW=r2.a.g.a)/\(s0 aY.abs bX=r2.b.a)/\(s0 aH.abs bZ=r3.a.a)):=by
 have jy:=bf dP
 have iJ:=bf bu
 have iK:=bf bv
 have fQ:=bf aJ
 have jD:=zr 1 H
 have jE:=H.rowCQ (i:=3) Z
 have iL:=zr 5 H
 have iM:=zr 7 H
 refine cb Tryz.func83 ?_
 refine sr (An Z (JS (bo ?_)))
 obtain⟨jH,bz⟩:=JB λ Z8 (Z1:Nat) Z7 I av (Z2:Nat) g P (Q:Nat) Z3 z G (Z5:Nat) L h Z0 (aa:Nat) Z4 u (ek:Nat) w'=>Own w D w' [blk g0 [vP x 0, T Z8 (X I) Z1, T Z6 (X A.a.a.a) J, Y A.a.g, T av (X g) Z2] 92,blk x (kB a B (X a.a.b.a) C P (X z) Q E (X a.a.j.a) F a.a.t j G (X h) Z5 l) 78,blk j [T s (X d.a.a) r] 29,blk l [T Z0 (X u) aa] 111,row Z8 (X I) Z1 (q1 bM.L Z7) 47 21,sepL (q1 Km Z7),jV av (X g) Z2 (q1 dC.L g) 211 2,row P (X z) Q (q1 bA.L Z3) 80 2,sepL (q1 Ky Z3),row G (X h) Z5 (q1 aY.L L) 100 4,sepL (q1 Kq L),row Z0 (X u) aa (q1 aH.L Z4) 159 6,sepL (q1 Kj Z4)]/\s0 bM.abs Z7=I/\s0 bA.abs Z3=z/\s0 aY.abs L=h/\s0 aH.abs Z4=u/\Gt h/\Tk h z u/\Li g u/\X I+ku g h u<=80000/\ku g h u < ek/\fG A a d ((ku A.b.a a.b.a t.a.a)+1) A.a.b.a A.b.a a.a.g.a a.b.a t.a.a=fG A a d ek I g z h u
 refine Wp.loop (λ i:(Option Addr) × Nat × (List bM) × (List cz) × (Option Addr) × Nat × (List dC) × (Option Addr) × Nat × (List bA) × (List dG) × (Option Addr) × Nat × (List aY) × (List bK) × (Option Addr) × Nat × (List aH) × (List aS) × Nat=> [(2,vI 0),(0,vP g0 0)]) jH (λ i=>i.2.2.2.2.2.2.2.2.2.2.2.2.2.2.2.2.2.2.2) (dK,dL,dB,A.a.b.a,dN,dO,A.b.a,aR,aT,aD,a.a.g.a,aU,aW,aF,a.b.a,ak,au,S,t.a.a,(ku A.b.a a.b.a t.a.a)+1) ⟨Z,Z,ZV⟩ (bz.2 ⟨(H.pf [0,4,9,10]),by exact dP,by exact bu,by exact bv,by exact aJ,f8,f8,f8,U,U,Z⟩) ?_
 rintro ⟨Z8,Z1,Z7,I,av,Z2,g,P,Q,Z3,z,G,Z5,L,h,Z0,aa,Z4,u,ek⟩ _ iO
 show Wp _ _ _ [(2,vI 0),(0,vP g0 0)] _ _
 obtain⟨cO,bC,bE,ay,bF,_,_,_,_,_,aL⟩:=bz.1 iO
 have lm:=bf bC
 have lq:=bf bE
 have lu:=bf ay
 have lv:=bf bF
 obtain⟨aX,iP⟩:∃ q,ek=q+1:=⟨ek - 1,U⟩
 subst iP
 refine JS (sr (Mz Z (Kz (vP g0 0) (Kz (vP g0 4) (Lz (T av (X g) Z2) cO 0 X0 (Kz (vJ (X g)) (Kz (Za ((X g:Int) > 0)) (nt ?_))))))))
 by_cases bI:(X g:Int) > 0
 refine jT (dT bI) (sk (bo (sr (Mz Z (Kz (vP g0 0) (Kz (vP g0 4) (Lz (T av (X g) Z2) cO 0 X0 ?_)))))))
 obtain⟨K,ah⟩:=dM (ls:=g) (i:=0) dC.len f7 (cO.rdsQ (i:=6) Z) f5
 have lw:X u<=6:=Tk.rows (ws:=h) (hs:=z) f8
 have lC:X h+X z<=6:=Tk.n (rs:=u) f8
 have lD:X g<=ku g h u:=Nat.le_add_left _ _
 refine fw (Zz (Zv ⟨ab av,ao av+0 *2,Zk⟩)) (J9 (Er) Z Z ((cO.rdsQ (i:=6) Z).addr (i:=0) U) U) (fw (Zq (Zb (dC.L K))) (J5 Z (J7 (cs:=(dC.L K)) Tryz.isAgg211 Tryz.sizeOf211 ((cO.rdsQ (i:=6) Z).elem dC.len ah f7))) (cB [.int .u64 0, Y O] 211 cO ?_))
 intro aZ _ jI
 refine cu (dC.L K) 0 jI Tryz.sizeOf211 ?_
 intro _ iQ
 refine ns (Mz Z (Mz Z (Kz (vP g0 0) (Kz (vP g0 4) (Lz (T av (X g) Z2) iQ 1 X0 (fw (T (fA av 1 2 Z2) (X g - 1) (Z2 - 1)) (Kv (Er) Z Z U) (Kz (vP g0 0) (Kz (vP g0 4) (cu [T (fA av 1 2 Z2) (X g - 1) (Z2 - 1)] 4 (iQ.pf [1]) Tryz.sizeOf90 ?_)))))))))
 intro iR jK
 have iT:X (r8 1 g)=X g - 1:=o2
 have jN:Own w D iR [jV (fA av 1 2 Z2) (X g - 1) (Z2 - 1) (q1 dC.L (r8 1 g)) 211 2,blk g0 [vP x 0, T Z8 (X I) Z1, T Z6 (X A.a.a.a) J, Y A.a.g, T (fA av 1 2 Z2) (X g - 1) (Z2 - 1)] 92,blk aZ (dC.L K) 211,blk x (kB a B (X a.a.b.a) C P (X z) Q E (X a.a.j.a) F a.a.t j G (X h) Z5 l) 78,blk j [T s (X d.a.a) r] 29,blk l [T Z0 (X u) aa] 111,row Z8 (X I) Z1 (q1 bM.L Z7) 47 21,sepL (q1 Km Z7),row P (X z) Q (q1 bA.L Z3) 80 2,sepL (q1 Ky Z3),row G (X h) Z5 (q1 aY.L L) 100 4,sepL (q1 Kq L),row Z0 (X u) aa (q1 aH.L Z4) 159 6,sepL (q1 Kj Z4)]:=MO (jK.pf [7]) U (tY dC.len _ _)
 obtain⟨bP,bQ,eB⟩:∃ A9 c9,Own w D iR [jV A9 (X (r8 1 g)) c9 (q1 dC.L (r8 1 g)) 211 2,blk g0 [vP x 0, T Z8 (X I) Z1, T Z6 (X A.a.a.a) J, Y A.a.g, T A9 (X (r8 1 g)) c9] 92,blk aZ (dC.L K) 211,blk x (kB a B (X a.a.b.a) C P (X z) Q E (X a.a.j.a) F a.a.t j G (X h) Z5 l) 78,blk j [T s (X d.a.a) r] 29,blk l [T Z0 (X u) aa] 111,row Z8 (X I) Z1 (q1 bM.L Z7) 47 21,sepL (q1 Km Z7),row P (X z) Q (q1 bA.L Z3) 80 2,sepL (q1 Ky Z3),row G (X h) Z5 (q1 aY.L L) 100 4,sepL (q1 Kq L),row Z0 (X u) aa (q1 aH.L Z4) 159 6,sepL (q1 Kj Z4)]:=⟨_,_,by rw [iT]; exact jN⟩
 have lH:=eB.rowCQ (i:=0) Z
 refine nt (JS (sr (Kz (vP aZ 1) (Lz (Y K.g) eB 2 Tryz.isAgg4 (nt ?_)))))
 rcases Nv (K.g) with bg | bg
 refine jT bg (sr (Mz Z (Kz (vP aZ 0) (Lz (vU K.a) eB 2 E0 ?_))))
 obtain⟨⟨iq,eF⟩,eG⟩:∃ q:bD × aB,iV (bD.q (bY.q (N I) (N A.a.a.a) A.a.g) (N (r8 1 g))) K.a (aB.q (bH.q a.a.r a.a.y a.a.u a.a.z a.a.k (N a.a.b.a) (N z) (N a.a.j.a) a.a.t a.a.B a.a.s a.a.a) (N h))=q:=⟨_,Z⟩
 obtain⟨_,iU,_,iW,_⟩:=KS (eB.pf [1,6,7,3,10,11])
 refine cl Tryz.call137 (uT _ _ g0 (bD.q (bY.q (N I) (N A.a.a.a) A.a.g) (N (r8 1 g))) Z8 Z1 Z7 Z6 J bP bQ K.a x (aB.q (bH.q a.a.r a.a.y a.a.u a.a.z a.a.k (N a.a.b.a) (N z) (N a.a.j.a) a.a.t a.a.B a.a.s a.a.a) (N h)) B C P Q E F G Z5 L j l iq eF iU bC ay f2 eG) ?_
 rintro _ _ ⟨jP,jQ,iY,iZ,ja,jb,rfl,jc,eH,eO,eP⟩
 have iw:=iW _ _ jc
 have jR:=bf eH
 have jS:=bf eO
 have jU:=zr 1 iw
 have jW:=zr 4 iw
 replace eP:X iq.a.b.a=X I+1:=eP
 obtain⟨eT,eU,eX,eY⟩:=wO (m:=(aB.q (bH.q a.a.r a.a.y a.a.u a.a.z a.a.k (N a.a.b.a) (N z) (N a.a.j.a) a.a.t a.a.B a.a.s a.a.a) (N h))) (line:=g) f8 f8 f8 ah bg eG
 replace eT:Tk eF.b.a z u:=eT
 replace eU:Gt eF.b.a:=eU
 replace eX:Li (r8 1 g) u:=eX
 replace eY:ku (r8 1 g) eF.b.a u+1<=ku g h u:=eY
 exact nt (Wp.exit (Ka (Kh (Kb (jP,jQ,iY,iq.a.b.a,bP,bQ,(r8 1 g),P,Q,Z3,z,iZ,ja,jb,eF.b.a,Z0,aa,Z4,u,aX) ⟨Z,Z,ZV⟩ (bz.2 ⟨(iw.px [0,3,8,9] [7] [4,5,12,13]),by exact eH,by exact bE,by exact eO,by exact bF,f8,f8,f8,U,U,V (aL) (V (ip bI) (V (ae (bG ah)) (V (ip bg) (ae eG))))⟩) (by show aX < aX+1; omega)))))
 refine jF bg (sk (JS (JS (kL 14 [] (J6 (J6 (bJ.block (J6 (bJ.block (J6 Kg)))))) eB ?_))))
 intro _ je
 refine qv 0 Z Z (qp g0 0 1 Z (qp g0 0 2 Z (ql 3 Z 1 Tryz.isAgg30 Z Z Z (qp aZ 0 4 Z (ql 5 Z 2 E0 Z Z Z ?_)))))
 have dE:=je.pf [3]
 have jX:=zr 10 dE
 obtain⟨⟨p,aM⟩,af⟩:∃ q:Int × Bool,cK (aB.q (bH.q a.a.r a.a.y a.a.u a.a.z a.a.k (N a.a.b.a) (N z) (N a.a.j.a) a.a.t a.a.B a.a.s a.a.a) (N h)) K.a=q:=⟨_,Z⟩
 obtain⟨_,iy,_,iA,cZ⟩:=Kt dE
 refine qd 6 Z (Ki Tryz.call78 Z (jM _ _ x (aB.q (bH.q a.a.r a.a.y a.a.u a.a.z a.a.k (N a.a.b.a) (N z) (N a.a.j.a) a.a.t a.a.B a.a.s a.a.a) (N h)) B C P Q E F G Z5 L j l K.a p aM iy ay (cZ _ 9 _ Z bB) U (λ x9 h9=>⟨cZ _ 10 _ Z (bL (P6.2 ⟨x9,h9,b3⟩) bB),di (φ:=λ _=>_) dE (i:=11) Z (bL (P6.2 ⟨x9,h9,b3⟩) dD),cZ _ 10 _ Z (bL (P6.2 ⟨x9,h9, .tail _ b3⟩) bB),di (φ:=λ _=>_) dE (i:=11) Z (bL (P6.2 ⟨x9,h9, .tail _ b3⟩) dD)⟩) f2 af) ?_)
 rintro _ _ ⟨rfl,iB,eZ,fe⟩
 replace eZ:0<=p/\p<=(X h:Int):=eZ
 replace fe:Zd aM=0\/p < (X h:Int):=fe
 have M:=(iA _ _ iB).pf [1,2,3]
 refine⟨.inr ⟨_,M⟩, (qv 7 Z Z (qk (vI p) 8 Z (qk (Y aM) 9 Z (qa 10 Z Z (qa 11 Z Z (qn (JY (sr (Mn Z ?_)))))))))⟩
 rcases Nv (aM) with R | R
 have h144t:Zd aM=1:=by rw [R]; rfl
 refine jT R (JW (Mz Z (Kz (vP g0 0) (Kz (vP g0 0) (Lz (vP x 0) M 1 Tryz.isAgg30 (Kz (vP x 0) (Kz (vP x 18) (Lz (T G (X h) Z5) M 3 Tryz.isAgg75 (fw (vJ (W p)) (J4 (e:=p) (J3 Z) U) ?_)))))))))
 obtain⟨b,ag⟩:=dM (ls:=L) (i:=W p) aY.len f7 (M.rds (i:=10) Z) f5
 have ax:=ik ay ag
 have jZ:X b.j.a<=b.j.c/\X b.j.a<=9223372036854775807:=di M (i:=11) Z (φ:=λ _=>_) (bL (P6.2 ⟨b,G4 ag,b3⟩) dD)
 have j4:X b.g.a<=b.g.c/\X b.g.a<=9223372036854775807:=di M (i:=11) Z (φ:=λ _=>_) (bL (P6.2 ⟨b,G4 ag, .tail _ b3⟩) dD)
 obtain⟨_,_,_⟩:(0<=b.b/\b.b<=(X b.g.a:Int))/\X b.j.a<=24/\X b.g.a<=24:=Tk.wat (ws:=h) f8 ax
 have ko:b.b < (X b.g.a:Int):=Gt.wat (ws:=h) f8 ax
 refine fw (Zz (Zv ⟨ab G,ao G+(W p) *4,Zk⟩)) (J9 (mi) Z Z ((M.rds (i:=10) Z).addr (i:=W p) U) U) (Kz (Zz (Zv ⟨ab G,ao G+(W p) *4+3,Zk⟩)) (fw (vI b.b) (J5 Z (bO.one Tryz.isAgg3 (((M.rds (i:=10) Z).elem aY.len ag f7).at_ (k:=3) Z))) (fw (vI (b.b+1)) (J4 (e:=IntKind.i64.wrap (b.b+1)) yk i7) (fw (Zz (Zv ⟨ab G,ao G+(W p) *4,Zk⟩)) (J9 (mi) Z Z ((M.rds (i:=10) Z).addr (i:=W p) U) U) (Kz (Zz (Zv ⟨ab G,ao G+(W p) *4+3,Zk⟩)) (KO (Do.storeRow (vs:= [vI (b.b+1)]) (o:=(W p) *4+3) (q:=ao G+(W p) *4+3) (M.pf [10]) Z U Z Tryz.sizeOf3 Z Z (Nr Z) (j3 aY.len ag (Nr Z)) (kV (y:=(aY.q b.a b.j b.g (b.b+1))) aY.len Z (Nr Z) ag) ?_)))))))
 intro fT jh
 have fo:Own w D fT [row G (X h) Z5 (q1 aY.L (M2 L (W p) (aY.q b.a b.j b.g (b.b+1)))) 100 4,jV bP (X (r8 1 g)) bQ (q1 dC.L (r8 1 g)) 211 2,blk g0 [vP x 0, T Z8 (X I) Z1, T Z6 (X A.a.a.a) J, Y A.a.g, T bP (X (r8 1 g)) bQ] 92,blk aZ (dC.L K) 211,blk x (kB a B (X a.a.b.a) C P (X z) Q E (X a.a.j.a) F a.a.t j G (X h) Z5 l) 78,blk j [T s (X d.a.a) r] 29,blk l [T Z0 (X u) aa] 111,row Z8 (X I) Z1 (q1 bM.L Z7) 47 21,sepL (q1 Km Z7),row P (X z) Q (q1 bA.L Z3) 80 2,sepL (q1 Ky Z3),sepL (q1 Kq (M2 L (W p) (aY.q b.a b.j b.g (b.b+1)))),row Z0 (X u) aa (q1 aH.L Z4) 159 6,sepL (q1 Kj Z4)]:=by rw [mM (f:=Kq) (y:=(aY.q b.a b.j b.g (b.b+1))) ag Z]; exact jh
 have kr:X (M2 L (W p) (aY.q b.a b.j b.g (b.b+1)))=X (M2 h (W p) (bK.q b.a (N b.j.a) (N b.g.a) (b.b+1))):=bf (fq ay Z)
 have kv:X (M2 h (W p) (bK.q b.a (N b.j.a) (N b.g.a) (b.b+1)))=X h:=N0
 refine ns (Mz Z (Kz (vP aZ 0) (Lz (vU K.a) fo 3 E0 ?_)))
 have kw:Tk (M2 h (W p) (bK.q b.a (N b.j.a) (N b.g.a) (b.b+1))) z u:=Tk.bump f8 ax Z Z Z (show (0:Int)<=b.b+1/\b.b+1<=(X b.g.a:Int) from by omega)
 have aK:X h=X (M2 h (W p) (bK.q b.a (N b.j.a) (N b.g.a) (b.b+1))):=by first | omega | (simp only [N0]; done) | (simp only [N0,List.length_append,List.length_cons,List.length_nil,List.length_take,o2,List.length_replicate]; omega)
 have ji:Own w D fT [row G (X (M2 h (W p) (bK.q b.a (N b.j.a) (N b.g.a) (b.b+1)))) Z5 (q1 aY.L (M2 L (W p) (aY.q b.a b.j b.g (b.b+1)))) 100 4,jV bP (X (r8 1 g)) bQ (q1 dC.L (r8 1 g)) 211 2,blk g0 [vP x 0, T Z8 (X I) Z1, T Z6 (X A.a.a.a) J, Y A.a.g, T bP (X (r8 1 g)) bQ] 92,blk aZ (dC.L K) 211,blk x (kB a B (X a.a.b.a) C P (X z) Q E (X a.a.j.a) F a.a.t j G (X (M2 h (W p) (bK.q b.a (N b.j.a) (N b.g.a) (b.b+1)))) Z5 l) 78,blk j [T s (X d.a.a) r] 29,blk l [T Z0 (X u) aa] 111,row Z8 (X I) Z1 (q1 bM.L Z7) 47 21,sepL (q1 Km Z7),row P (X z) Q (q1 bA.L Z3) 80 2,sepL (q1 Ky Z3),sepL (q1 Kq (M2 L (W p) (aY.q b.a b.j b.g (b.b+1)))),row Z0 (X u) aa (q1 aH.L Z4) 159 6,sepL (q1 Kj Z4)]:=by first | (rw [<- aK]; exact fo) | (have q9:=fo; rw [aK] at q9; exact q9)
 obtain⟨⟨bS,az,ai,aN⟩,bi⟩:∃ q:Int × bD × aB × bn,fH (bD.q (bY.q (N I) (N A.a.a.a) A.a.g) (N (r8 1 g))) K.a (aB.q (bH.q a.a.r a.a.y a.a.u a.a.z a.a.k (N a.a.b.a) (N z) (N a.a.j.a) a.a.t a.a.B a.a.s a.a.a) (N (M2 h (W p) (bK.q b.a (N b.j.a) (N b.g.a) (b.b+1))))) d (bn.q (N u))=q:=⟨_,Z⟩
 obtain⟨_,iC,fu,iD,_⟩:=K4 (ji.px [2,7,8] [] [0,11,5,6,12,13,3])
 refine cl Tryz.call82 (qU _ _ g0 (bD.q (bY.q (N I) (N A.a.a.a) A.a.g) (N (r8 1 g))) Z8 Z1 Z7 Z6 J bP bQ K.a x (aB.q (bH.q a.a.r a.a.y a.a.u a.a.z a.a.k (N a.a.b.a) (N z) (N a.a.j.a) a.a.t a.a.B a.a.s a.a.a) (N (M2 h (W p) (bK.q b.a (N b.j.a) (N b.g.a) (b.b+1))))) B C P Q Z3 E F G Z5 (M2 L (W p) (aY.q b.a b.j b.g (b.b+1))) j d s r l (bn.q (N u)) Z0 aa Z4 bS az ai aN iC bC (fu _ dQ) U bE (fq ay Z) (fu _ aI) U bF f8 (by first | omega | exact Tk.n f8) (by first | omega | exact Tk.rows f8) f2 bi) ?_
 rintro _ _ ⟨fU,fV,fZ,gm,gp,gq,gu,gy,gz,gB,gD,gF,gG,gH,rfl,iE,df,dh,dm,dn⟩
 have aO:=iD _ _ iE
 have kz:=bf df
 have kC:=bf dh
 have kD:=bf dm
 have kE:=bf dn
 have kF:=zr 1 aO
 have kG:=aO.rowCQ (i:=3) Z
 have kI:=zr 5 aO
 have kJ:=zr 7 aO
 have kK:=zr 11 aO
 obtain⟨fB,fC,fD,fE,fF⟩:=yu (m:=(aB.q (bH.q a.a.r a.a.y a.a.u a.a.z a.a.k (N a.a.b.a) (N z) (N a.a.j.a) a.a.t a.a.B a.a.s a.a.a) (N h))) (tb:=(bn.q (N u))) (line:=g) f8 f8 f8 ah (af.trans (ZX (λ q=>(_,q)) R)) ax Z Z bi
 replace fB:Tk ai.b.a ai.a.g.a aN.a.a:=fB
 replace fC:Gt ai.b.a:=fC
 replace fD:Li az.b.a aN.a.a:=fD
 replace fE:ku az.b.a ai.b.a aN.a.a+1<=ku g h u:=fE
 replace fF:X az.a.b.a<=X I+1:=fF
 refine An Z (JS ?_)
 have gI:=aO.px [] [13] []
 refine JW (Mz Z (fw (Za (¬ (bS=0))) (Kc (e:= !(Zw (bS=0))) yk ZW) (nt ?_)))
 by_cases dH:bS=0
 exact jF (dF (Nu dH)) (Ko (bN (Kb (fU,fV,fZ,az.a.b.a,gm,gp,az.b.a,gq,gu,gy,ai.a.g.a,gz,gB,gD,ai.b.a,gF,gG,gH,aN.a.a,aX) ⟨Z,Z,ZV⟩ (bz.2 ⟨(gI.pf [0,4,9,10]),by exact df,by exact dh,by exact dm,by exact dn,f8,f8,f8,U,U,V (aL) (V (ip bI) (V (ae (bG ah)) (V (eD bg) (V (ae af) (V (ip R) (V (ae (bG ax)) (V (ae bi) (ip dH))))))))⟩) (by show aX < aX+1; omega))))
 refine jT (dT dH) (sr (Mz Z (An Z (rt (bR (tR (bR (tR (rs ?_)))))))))
 obtain⟨rfl,rfl,rfl,rfl⟩:=eQ (zj hr (show _=(bS,bD.q (bY.q (N az.a.b.a) (N A.a.a.a) A.a.g) (N az.b.a),aB.q (bH.q a.a.r a.a.y a.a.u a.a.z a.a.k (N a.a.b.a) (N ai.a.g.a) (N a.a.j.a) a.a.t a.a.B a.a.s a.a.a) (N ai.b.a),aN) from iX (V (aL) (V (ip bI) (V (ae (bG ah)) (V (eD bg) (V (ae af) (V (ip R) (V (ae (bG ax)) (V (ae bi) (iN dH)))))))))))
 exact⟨fU,fV,fZ,gm,gp,gq,gu,gy,gz,gB,gD,gF,gG,gH,(by first | rfl | (rw [<- aK]; done) | (rw [<- aK]; rfl) | (rw [aK]; first | done | rfl)),(gI.pf []),df,dh,dm,dn⟩
 have h144t:Zd aM=0:=by rw [R]; rfl
 refine jF R (sk (sr (Mz Z (Kz (vP aZ 0) (Lz (vU K.a) M 2 E0 ?_)))))
 obtain⟨⟨bT,aA,aj,aP⟩,bq⟩:∃ q:Int × bD × aB × bn,fH (bD.q (bY.q (N I) (N A.a.a.a) A.a.g) (N (r8 1 g))) K.a (aB.q (bH.q a.a.r a.a.y a.a.u a.a.z a.a.k (N a.a.b.a) (N z) (N a.a.j.a) a.a.t a.a.B a.a.s a.a.a) (N h)) d (bn.q (N u))=q:=⟨_,Z⟩
 obtain⟨_,iF,fI,iG,_⟩:=K4 (M.px [1,6,7] [] [4,5,12,13,2])
 refine cl Tryz.call82 (qU _ _ g0 (bD.q (bY.q (N I) (N A.a.a.a) A.a.g) (N (r8 1 g))) Z8 Z1 Z7 Z6 J bP bQ K.a x (aB.q (bH.q a.a.r a.a.y a.a.u a.a.z a.a.k (N a.a.b.a) (N z) (N a.a.j.a) a.a.t a.a.B a.a.s a.a.a) (N h)) B C P Q Z3 E F G Z5 L j d s r l (bn.q (N u)) Z0 aa Z4 bT aA aj aP iF bC (fI _ dQ) U bE ay (fI _ aI) U bF f8 (by first | omega | exact Tk.n f8) (by first | omega | exact Tk.rows f8) f2 bq) ?_
 rintro _ _ ⟨gJ,gK,gL,gM,gN,gP,gQ,gT,gU,gV,gW,gX,gY,gZ,rfl,iH,dw,dx,dz,dA⟩
 have aQ:=iG _ _ iH
 have kN:=bf dw
 have kP:=bf dx
 have kQ:=bf dz
 have kR:=bf dA
 have kS:=zr 1 aQ
 have kT:=aQ.rowCQ (i:=3) Z
 have kU:=zr 5 aQ
 have kW:=zr 7 aQ
 have kX:=zr 11 aQ
 obtain⟨fJ,fK,fM,fO,fP⟩:=yw (m:=(aB.q (bH.q a.a.r a.a.y a.a.u a.a.z a.a.k (N a.a.b.a) (N z) (N a.a.j.a) a.a.t a.a.B a.a.s a.a.a) (N h))) (tb:=(bn.q (N u))) (line:=g) f8 f8 f8 ah af (by rw [R]; decide) Z bq
 replace fJ:Tk aj.b.a aj.a.g.a aP.a.a:=fJ
 replace fK:Gt aj.b.a:=fK
 replace fM:Li aA.b.a aP.a.a:=fM
 replace fO:ku aA.b.a aj.b.a aP.a.a+1<=ku g h u:=fO
 replace fP:X aA.a.b.a<=X I+1:=fP
 refine An Z (JS ?_)
 have ib:=aQ.px [] [13] []
 refine JW (Mz Z (fw (Za (¬ (bT=0))) (Kc (e:= !(Zw (bT=0))) yk ZW) (nt ?_)))
 by_cases dJ:bT=0
 exact jF (dF (Nu dJ)) (Ko (bN (Kb (gJ,gK,gL,aA.a.b.a,gM,gN,aA.b.a,gP,gQ,gT,aj.a.g.a,gU,gV,gW,aj.b.a,gX,gY,gZ,aP.a.a,aX) ⟨Z,Z,ZV⟩ (bz.2 ⟨(ib.pf [0,4,9,10]),by exact dw,by exact dx,by exact dz,by exact dA,f8,f8,f8,U,U,V (aL) (V (ip bI) (V (ae (bG ah)) (V (eD bg) (V (ae af) (V (eD R) (V (ae bq) (ip dJ)))))))⟩) (by show aX < aX+1; omega))))
 refine jT (dT dJ) (sr (Mz Z (An Z (rt (bR (tR (bR (tR (rs ?_)))))))))
 obtain⟨rfl,rfl,rfl,rfl⟩:=eQ (zj hr (show _=(bT,bD.q (bY.q (N aA.a.b.a) (N A.a.a.a) A.a.g) (N aA.b.a),aB.q (bH.q a.a.r a.a.y a.a.u a.a.z a.a.k (N a.a.b.a) (N aj.a.g.a) (N a.a.j.a) a.a.t a.a.B a.a.s a.a.a) (N aj.b.a),aP) from iX (V (aL) (V (ip bI) (V (ae (bG ah)) (V (eD bg) (V (ae af) (V (eD R) (V (ae bq) (iN dJ))))))))))
 exact⟨gJ,gK,gL,gM,gN,gP,gQ,gT,gU,gV,gW,gX,gY,gZ,Z,(ib.pf []),dw,dx,dz,dA⟩
 refine jF (dF bI) (Wp.exit (Ka ?_))
 have iI:fG A a d ((ku A.b.a a.b.a t.a.a)+1) A.a.b.a A.b.a a.a.g.a a.b.a t.a.a=Sum.inl (I,g,z,h,u):=V (aL) (iN bI)
 refine Ka (Kh (JY (sr (An Z (rt (rs ?_))))))
 obtain⟨rfl,rfl,rfl,rfl⟩:=eQ (zj hr (show _=(0,bD.q (bY.q (N I) (N A.a.a.a) A.a.g) (N g),aB.q (bH.q a.a.r a.a.y a.a.u a.a.z a.a.k (N a.a.b.a) (N z) (N a.a.j.a) a.a.t a.a.B a.a.s a.a.a) (N h),bn.q (N u)) from kH iI))
 exact⟨Z8,Z1,Z7,av,Z2,P,Q,Z3,G,Z5,L,Z0,aa,Z4,Z,(cO.px [0,4,5,6] [] [2,3,11,12]),bC,bE,ay,bF⟩
end
open List renaming length_filter_le->Q0
open Nat renaming le_of_lt_succ->X2,lt_of_lt_of_le->X1
structure IU (p:bD) (m:aB) (t:bD) (m':aB) (tb':bn):Prop where q::
  tk:Tk m'.b.a m'.a.g.a tb'.a.a
  gt:Gt m'.b.a
  a:∀ n,Tx m'.b.a m'.a.g.a n->Tx m.b.a m.a.g.a n
  wr:t.a.a=p.a.a
  st:m'.a= { m.a with g:=m'.a.g }
theorem Hy {k:Nat} {ws:List bK} {hs:List dG} {n:Nat} (h:Tx (qV k ws) hs n):Tx ws hs n:=by
  rcases h with ⟨w,hw,e⟩ | h
  . exact .inl ⟨w,(U4.1 hw).1,e⟩
  . exact .inr h
theorem FH (p:bD) (m:aB) (s:StoreT):∀ (q:Nat) (o:List cz) (l:List dC) (hs:List dG) (ws:List bK) (rs:List aS),Tk ws hs rs->Gt ws->Li l rs->ku l ws rs < q->
    (∀ n,Tx ws hs n->Tx m.b.a m.a.g.a n)->
    (∀ o' l' hs' ws' rs',fG p m s q o l hs ws rs= .inl (o',l',hs',ws',rs')->Tk ws' hs' rs'/\Gt ws'/\(∀ n,Tx ws' hs' n->Tx m.b.a m.a.g.a n))/\
    (∀ e t m' tb',fG p m s q o l hs ws rs= .inr (e,t,m',tb')->IU p m t m' tb'):=by
  intro q
  induction q with
  | zero=>intro o l hs ws rs _ _ _ h; omega
  | succ q ih=>
    intro o l hs ws rs hk hg hli hq htx
    rw [fG]
    simp only [bI]
    by_cases B:((X l:Nat):Int) > 0
    . rw [ZJ B]
      obtain⟨f,hf⟩:∃ f,l[0]? =Zv f:=⟨_,List.getElem?_eq_getElem U⟩
      rw [bG hf]
      by_cases u:f.g=Zj
      . rw [ZJ u]
        generalize hd:iV _ _ _=v
        obtain⟨C,a⟩:=v
        obtain⟨c,d,j,k⟩:=wO hk hg hli hf u hd
        have g:∀ n,Tx a.b.a hs n->Tx m.b.a m.a.g.a n:=λ n hn=>htx n (by
          unfold iV at hd
          rw [bI,rA hk.a] at hd
          obtain⟨_,rfl⟩:=fI hd
          exact Hy hn)
        exact ih _ _ _ _ _ c d j (X1 k (X2 hq)) g
      . rw [ZK u]
        generalize hfd:cK _ _=D
        obtain⟨i,b⟩:=D
        cases b with
        | true=>
          simp only [if_true]
          obtain⟨x,hx,hxt⟩:=mR hk.a hfd
          have hx':=hx
          have hgx:=hg.wat hx'
          rw [bG hx']
          generalize hgo:fH _ _ _ _ _=v
          obtain⟨w,C,a,z⟩:=v
          obtain⟨c,d,j,k,_⟩:=yu (tb:=bn.q (N rs)) hk hg hli hf hfd hx Z Z hgo
          have hb:=hk.bump (y:=bK.q x.a (N x.j.a) (N x.g.a) (x.b+1)) hx' Z Z Z (by have:=hk.wat hx'; exact⟨show (0:Int)<=x.b+1 by omega,show x.b+1<=((X x.g.a:Nat):Int) by omega⟩)
          have A:=drop1 hf
          rw [A] at hli
          have hG:=(tL (tb:=bn.q (N rs)) hb hli.tail.1 hli.tail.2 (Gx.set (y:=bK.q x.a (N x.j.a) (N x.g.a) (x.b+1)) (hg.gx f.a) hxt) hgo).1
          have g:∀ n,Tx a.b.a a.a.g.a n->Tx m.b.a m.a.g.a n:=λ n hn=>htx n (FE (y:=bK.q x.a (N x.j.a) (N x.g.a) (x.b+1)) hx' Z n (hG.a n hn))
          by_cases r:w=0
          . rw [ZJ r]
            exact ih _ _ _ _ _ c d j (X1 k (X2 hq)) g
          . rw [ZK r]
            refine⟨λ _ _ _ _ _ h=>(by cases h),λ e t m' tb' h=> ?_⟩
            obtain⟨_,rfl,rfl,rfl⟩:=eQ (Sum.inr.inj h)
            exact⟨c,d,g,Z,Z⟩
        | false=>
          simp only [Bool.false_eq_true,if_false]
          generalize hgo:fH _ _ _ _ _=v
          obtain⟨w,C,a,z⟩:=v
          obtain⟨c,d,j,k,_⟩:=yw (tb:=bn.q (N rs)) hk hg hli hf hfd f7 Z hgo
          rw [(drop1 hf)] at hli
          have g:∀ n,Tx a.b.a a.a.g.a n->Tx m.b.a m.a.g.a n:=λ n hn=>htx n (((tL (tb:=bn.q (N rs)) hk hli.tail.1 hli.tail.2 (hg.gx f.a) hgo).1).a n hn)
          by_cases r:w=0
          . rw [ZJ r]
            exact ih _ _ _ _ _ c d j (X1 k (X2 hq)) g
          . rw [ZK r]
            refine⟨λ _ _ _ _ _ h=>(by cases h),λ e t m' tb' h=> ?_⟩
            obtain⟨_,rfl,rfl,rfl⟩:=eQ (Sum.inr.inj h)
            exact⟨c,d,g,Z,Z⟩
    . rw [ZK B]
      refine⟨λ o' l' hs' ws' rs' h=> ?_,λ _ _ _ _ h=>(by cases h)⟩
      injection h with h
      obtain⟨_,h⟩:=fI h
      obtain⟨_,rfl,rfl,rfl⟩:=eQ h
      exact⟨hk,hg,htx⟩
theorem FI {p:bD} {m:aB} {s:StoreT} {tb:bn} (hk:Tk m.b.a m.a.g.a tb.a.a) (hg:Gt m.b.a) (hli:Li p.b.a tb.a.a) {e:Int} {t:bD} {m':aB} {tb':bn} (h:eu p m s tb=(e,t,m',tb')):IU p m t m' tb':=by
  unfold eu at h
  obtain⟨hl,hr⟩:=FH p m s (ku p.b.a m.b.a tb.a.a+1) p.a.b.a p.b.a m.a.g.a m.b.a tb.a.a hk hg hli (Nat.lt_succ_self _) (λ _ h=>h)
  cases a:fG p m s (ku p.b.a m.b.a tb.a.a+1) p.a.b.a p.b.a m.a.g.a m.b.a tb.a.a with
  | inr z=>
    obtain⟨c,d,f,b⟩:=z
    rw [a] at h
    obtain⟨_,rfl,rfl,rfl⟩:=eQ (show (c,d,f,b)=(e,t,m',tb') from h)
    exact hr _ _ _ _ a
  | inl z=>
    obtain⟨o,_,g,i,j⟩:=z
    rw [a] at h
    obtain⟨k,l,n⟩:=hl _ _ _ _ _ a
    obtain⟨_,rfl,rfl,rfl⟩:=eQ h
    exact⟨k,l,n,Z,Z⟩
theorem Jk {ws:List bK} {hs:List dG} {rs:List aS} (h:Tk ws hs rs):sg ws<=24 *X ws:=by
  have key:∀ l:List bK,(∀ w ∈ l,(0<=w.b/\w.b<=((X w.g.a:Nat):Int))/\X w.j.a<=24/\X w.g.a<=24)->sg l<=24 *X l:=by
    intro l
    induction l with
    | nil=>intro _; exact Nat.le_refl _
    | cons a l ih=>
      intro h
      have b:=h a b3
      have c:=ih λ w hw=>h w (.tail _ hw)
      rw [yn,q6]
      omega
  exact key ws h.j
theorem CF {ws:List bK} {hs:List dG} {rs:List aS} (h:Tk ws hs rs) (l:List dC):ku l ws rs<=300+X l:=by
  have a:=Jk h
  have b:=h.n
  have c:=h.rows
  have d:=zI rs
  unfold ku
  omega
theorem JN:∀ (l:List aV) (o:List aL) (r:(List aL)),gX l o=r->X r<=X o+X l:=by
  intro l
  induction l with
  | nil=>intro o r h; rw [gX] at h; rw [<- h]; exact Nat.le_refl _
  | cons a l ih=>
    intro o r h
    have key:∀ y:aL,gX l (o++ [y])=r->X r<=X o+X (a::l):=λ y hy=>by
      have:=ih _ _ hy
      simp only [o3,q6,L0] at this ⊢
      omega
    rw [gX] at h
    simp only [bI] at h
    repeat' split at h
    all_goals exact key _ h
theorem xW {l:List aV} {r:List aL} {e:Int} (h:o9 l=(r,e)):X r<=X l:=by
  unfold o9 at h
  rw [bI] at h
  split at h
  . rw [bI] at h
    obtain⟨rfl,_⟩:=fI h
    have:=JN l [] _ Z
    simpa using this
  . obtain⟨rfl,_⟩:=fI h; exact Nt _
theorem wP {m:aB} {x:cz} {b:Bool} (h:jr m x=b) (hb:b=O) (f:X m.a.g.a<=1000) (g:X m.b.a<=1000) (i:X m.a.j.a<=1000):
    X m.a.g.a+X m.b.a < 6/\X m.a.g.a+X m.b.a+X m.a.j.a < 64:=by
  subst hb
  unfold jr at h
  have c:IntKind.i64.wrap (((X m.a.g.a:Nat):Int)+((X m.b.a:Nat):Int))=((X m.a.g.a:Nat):Int)+((X m.b.a:Nat):Int):=Ns _ U
  have d:IntKind.i64.wrap (((X m.a.g.a:Nat):Int)+((X m.b.a:Nat):Int)+((X m.a.j.a:Nat):Int))=((X m.a.g.a:Nat):Int)+((X m.b.a:Nat):Int)+((X m.a.j.a:Nat):Int):=Ns _ U
  rw [c,d] at h
  by_cases a:((X m.a.g.a:Nat):Int)+((X m.b.a:Nat):Int) >= 6
  . rw [ZJ a] at h; cases h
  . rw [ZK a] at h
    by_cases e:((X m.a.g.a:Nat):Int)+((X m.b.a:Nat):Int)+((X m.a.j.a:Nat):Int) >= 64
    . rw [ZJ e] at h; cases h
    . exact⟨U,U⟩
theorem CG {P:Prop} (h:Zj=O):P:=Bool.noConfusion h
theorem hnot {hs:List dG} (hu:wW hs) {k:Nat} {j:Int} (hf:bU hs k=(j,O)):∀ h ∈ hs,h.r≠k:=λ z hz e=>by
  rcases qE hu k with ⟨a,p,q,c,hp,ha,hq,h⟩ | ⟨a,q,c,ha,hq,h⟩
  . rw [h] at hf; exact CG (ZX Prod.snd hf)
  . rw [c] at hz
    rcases U3.1 hz with b | b
    . have:=ha z b; omega
    . have:=hq z b; omega
theorem Ev {ws:List bK} (hu:ug ws) {k:Nat} {j:Int} (hf:bQ ws k=(j,O)):∀ w ∈ ws,w.a≠k:=λ z hz e=>by
  rcases uh hu k with ⟨a,p,q,c,hp,ha,hq,h⟩ | ⟨a,q,c,ha,hq,h⟩
  . rw [h] at hf; exact CG (ZX Prod.snd hf)
  . rw [c] at hz
    rcases U3.1 hz with b | b
    . have:=ha z b; omega
    . have:=hq z b; omega
theorem Hz {ws:List bK} (hu:ug ws) {z:bK} {j:Int} {b:Bool} (hf:bQ ws z.a=(j,b)) (hn:∀ w ∈ ws,w.a≠z.a):ug (u2 (W j) ws++(z::r8 (W j) ws)):=by
  rcases uh hu z.a with ⟨a,p,q,c,hp,ha,hq,h⟩ | ⟨a,q,c,ha,hq,h⟩
  . exact absurd hp (hn p (by rw [c]; simp))
  . rw [h] at hf
    have d:j=(X a:Int):=(ZX Prod.fst hf).symm
    rw [d,O0,c,u9 Z,List.drop_left' Z]
    rw [c] at hu
    obtain⟨f,g,i⟩:=U2.1 hu
    exact U2.2 ⟨f,List.pairwise_cons.2 ⟨hq,g⟩,λ r hr s hs=>by
      rcases List.mem_cons.1 hs with e | e
      . rw [e]; exact ha r hr
      . exact i r hr s e⟩
theorem CJ {m:aB} {rs:List aS} {k:Nat} {i j:Int} {bw bh:Bool} {o:List aV} {l:List aL} (h:Tk m.b.a m.a.g.a rs) (hg:Gt m.b.a) (hh:eG m k=(j,bh)) (hb:bh=O) (hw:cK m k=(i,bw)) (hc:bw=O)
    (hn:X m.a.g.a+X m.b.a < 6) (ho:X o<=24) (hl:X l<=24):
    Tk (u2 (W i) m.b.a++((bK.q k (N o) (N l) 0)::r8 (W i) m.b.a)) m.a.g.a rs/\Gx k (u2 (W i) m.b.a++((bK.q k (N o) (N l) 0)::r8 (W i) m.b.a)):=by
  subst hb hc
  rw [hfind] at hh
  rw [zR] at hw
  refine⟨⟨Hz (z:=bK.q k (N o) (N l) 0) h.a hw (Ev h.a hw),h.hu,λ w hw z hz=> ?_, ?_,λ w hw=> ?_,h.b,h.snd,λ r hr=> ?_⟩,λ w hw hk=> ?_⟩
  . rcases mJ.1 hw with e | e
    . rw [e]; exact((hnot h.hu hh) z hz).symm
    . exact h.k w e z hz
  . have a:X (u2 (W i) m.b.a)+X (r8 (W i) m.b.a)=X m.b.a:=by rw [<- o3,List.take_append_drop]
    rw [o3,q6]; omega
  . rcases mJ.1 hw with e | e
    . rw [e]; exact⟨⟨Int.le_refl _,by show (0:Int)<=_; omega⟩,ho,hl⟩
    . exact h.j w e
  . rcases h.g r hr with ⟨w,hw,e⟩ | e
    . exact .inl ⟨w,mJ.2 (.inr hw),e⟩
    . exact .inr e
  . rcases mJ.1 hw with e | e
    . rw [e] at hk; exact absurd Z hk
    . exact hg w e
def zg (k:Nat) (l:List dG):List dG:=l.filter λ h=>decide (h.r≠k)
theorem DZ {hs:List dG} (hu:wW hs) {k:Nat} {j:Int} (hf:bU hs k=(j,Zj)):u2 (W j) hs++r8 (W j+1) hs=zg k hs:=by
  rcases qE hu k with ⟨a,p,q,b,hp,ha,hq,h⟩ | ⟨a,q,b,ha,hq,h⟩
  . rw [h] at hf
    have c:j=(X a:Int):=(ZX Prod.fst hf).symm
    have d:a.filter (λ w=>decide (w.r≠k))=a:=W4.2 λ r hr=>decide_eq_true (Nat.ne_of_lt (ha r hr))
    have e:q.filter (λ w=>decide (w.r≠k))=q:=W4.2 λ r hr=>decide_eq_true (Nat.ne_of_gt (hq r hr))
    have f:u2 (X a) hs=a:=by rw [b]; exact u9 Z
    have g:r8 (X a+1) hs=q:=by rw [b]; simp
    rw [c,O0,f,g]
    unfold zg
    rw [b,List.filter_append,List.filter_cons_of_neg (by simp [hp]),d,e]
  . rw [h] at hf; exact Bool.noConfusion (show O=Zj from ZX Prod.snd hf)
theorem D5 {hs:List dG} {k:Nat} (h:∀ z ∈ hs,z.r≠k):zg k hs=hs:=W4.2 λ z hz=>decide_eq_true (h z hz)
theorem IV {ws:List bK} {hs:List dG} {rs rs':List aS} {k:Nat} (h:Tk ws hs rs) (hr:∀ q ∈ rs',q.a≠k/\∃ s ∈ rs,s.a=q.a) (hs':jZ rs'):Tk (qV k ws) (zg k hs) rs' where
  a:=h.a.filter _
  hu:=h.hu.filter _
  k:=λ w hw z hz=>h.k w (U4.1 hw).1 z (U4.1 hz).1
  n:=by
    have:=h.n
    have b:=Q0 (λ w:bK=>decide (w.a≠k)) ws
    have c:=Q0 (λ w:dG=>decide (w.r≠k)) hs
    unfold qV zg; omega
  j:=λ w hw=>h.j w (U4.1 hw).1
  b:=λ w hw=>h.b w (U4.1 hw).1
  snd:=hs'
  g:=λ q hq=>by
    obtain⟨b,s,c,a⟩:=hr q hq
    rcases h.g s c with ⟨w,hw,e⟩ | ⟨z,hz,e⟩
    . exact .inl ⟨w,U4.2 ⟨hw,decide_eq_true (by rw [e,a]; exact b)⟩,by rw [e,a]⟩
    . exact .inr ⟨z,U4.2 ⟨hz,decide_eq_true (by rw [e,a]; exact b)⟩,by rw [e,a]⟩
theorem zT {m m1 r:aB} {tb tb':bn} {k:Nat} {j:Int} {b:Bool} {hs':List dG} {p t:bD} {mr:aB} (h:Tk m.b.a m.a.g.a tb.a.a) (hg:Gt m.b.a) (hf:eG m k=(j,b))
    (a:(b=Zj/\hs'=u2 (W j) m.a.g.a++r8 (W j+1) m.a.g.a)\/(b=O/\hs'=m.a.g.a)) (hm:m1.b=m.b) (hd:eP m1 k=r) (hl:p.b.a= []) (hr:fP p k mr tb=(t,tb')):
    Tk r.b.a hs' tb'.a.a/\Gt r.b.a/\Li t.b.a tb'.a.a/\X t.b.a<=6:=by
  obtain⟨i,f,g,c,d⟩:=CE h.snd hr
  have hw:ug m1.b.a:=by rw [hm]; exact h.a
  rw [rA hw] at hd
  subst hd
  rw [hfind] at hf
  have e:hs'=zg k m.a.g.a:=by
    rcases a with ⟨rfl,e⟩ | ⟨rfl,e⟩
    . rw [e]; exact DZ h.hu hf
    . rw [e]; exact(D5 (hnot h.hu hf)).symm
  rw [e]
  have l:=h.rows
  have n:=zI tb.a.a
  rw [hl] at c d
  refine⟨?_,λ w hw=>hg w ?_,d (zQ _) (λ _ h=>absurd h y2),by simp only [L0] at c; omega⟩
  . show Tk (qV k m1.b.a) _ _
    rw [hm]; exact IV h f g
  . have:=(U4.1 hw).1
    rw [hm] at this; exact this
theorem goes {p:bD} {k:Nat} {m:aB} {s:StoreT} {tb:bn} {e:Int} {t:bD} {m':aB} {tb':bn} (hk:Tk m.b.a m.a.g.a tb.a.a) (hg:Gx k m.b.a) (hl:p.b.a= []) (h:fH p k m s tb=(e,t,m',tb')):
    Tk m'.b.a m'.a.g.a tb'.a.a/\Gt m'.b.a/\Li t.b.a tb'.a.a/\X t.a.b.a<=X p.a.b.a+1/\ku t.b.a m'.b.a tb'.a.a<=302:=by
  obtain⟨a,b,_⟩:=tL hk (by rw [hl]; exact zQ _) (by rw [hl]; exact λ _ h=>absurd h y2) hg h
  have c:=CF hk p.b.a
  have d:X p.b.a=0:=by rw [hl]; rfl
  exact⟨a.tk,a.gt,a.b,a.out,U⟩
open _root_.Go.Proofs.Tryz renaming call83->X3,isAgg35->D4
section
open Go.RowKit
def jA (f:bD) (j:cz) (a:aB) (g:StoreT) (d:bn):Int × bD × aB × bn:=
 bnd (iB a j.t) λ b=>bnd (dV b.a.j.a j.r) λ o=>if o.2=Zj then(0,f,aB.q (bH.q a.a.r a.a.y a.a.u a.a.z a.a.k (N a.a.b.a) (N a.a.g.a) (N b.a.j.a) b.a.t a.a.B a.a.s a.a.a) (N a.b.a),d) else if((j.r:Nat):Int) < ((b.a.t:Nat):Int) then(0,f,aB.q (bH.q a.a.r a.a.y a.a.u a.a.z a.a.k (N a.a.b.a) (N a.a.g.a) (N b.a.j.a) b.a.t a.a.B a.a.s a.a.a) (N a.b.a),d) else bnd (eG (aB.q (bH.q a.a.r a.a.y a.a.u a.a.z a.a.k (N a.a.b.a) (N a.a.g.a) (N b.a.j.a) b.a.t a.a.B a.a.s a.a.a) (N a.b.a)) j.r) λ k=>if k.2=Zj then bnd (List.getD a.a.g.a (W k.1) Zy) λ l=>bnd (gY f (dG.q l.r (N l.a.a)) (aB.q (bH.q a.a.r a.a.y a.a.u a.a.z a.a.k (N a.a.b.a) (N a.a.g.a) (N b.a.j.a) b.a.t a.a.B a.a.s a.a.a) (N a.b.a)) g) λ m=>(m.1,bD.q (bY.q (N m.2.a.b.a) (N f.a.a.a) f.a.g) (N f.b.a),aB.q (bH.q a.a.r a.a.y a.a.u a.a.z a.a.k (N a.a.b.a) (N a.a.g.a) (N b.a.j.a) b.a.t a.a.B a.a.s a.a.a) (N a.b.a),d) else bnd (cK (aB.q (bH.q a.a.r a.a.y a.a.u a.a.z a.a.k (N a.a.b.a) (N a.a.g.a) (N b.a.j.a) b.a.t a.a.B a.a.s a.a.a) (N a.b.a)) j.r) λ h=>if h.2=Zj then(0,f,aB.q (bH.q a.a.r a.a.y a.a.u a.a.z a.a.k (N a.a.b.a) (N a.a.g.a) (N b.a.j.a) b.a.t a.a.B a.a.s a.a.a) (N a.b.a),d) else bnd (jr (aB.q (bH.q a.a.r a.a.y a.a.u a.a.z a.a.k (N a.a.b.a) (N a.a.g.a) (N b.a.j.a) b.a.t a.a.B a.a.s a.a.a) (N a.b.a)) j) λ n=>if n=Zj then(0,bD.q (bY.q (N (f.a.b.a++ [(cz.q 4 a.a.r 0 0 4 0 0 0 j.r 0 0 0 0 0 0 O (ai.q [] []) (N []) (N []) (N []))])) (N f.a.a.a) f.a.g) (N f.b.a),aB.q (bH.q a.a.r a.a.y a.a.u a.a.z a.a.k (N a.a.b.a) (N a.a.g.a) (N b.a.j.a) b.a.t a.a.B a.a.s a.a.a) (N a.b.a),d) else bnd (o9 j.a.a) λ i=>if i.2=0 then bnd (fH f j.r (aB.q (bH.q a.a.r a.a.y a.a.u a.a.z a.a.k (N a.a.b.a) (N a.a.g.a) (N b.a.j.a) b.a.t a.a.B a.a.s a.a.a) (N (u2 (W h.1) a.b.a++((bK.q j.r (N j.a.a) (N i.1) 0)::r8 (W h.1) a.b.a)))) g d) λ c=>if c.1=0 then bnd (eu (bD.q (bY.q (N c.2.1.a.b.a) (N f.a.a.a) f.a.g) (N c.2.1.b.a)) (aB.q (bH.q a.a.r a.a.y a.a.u a.a.z a.a.k (N a.a.b.a) (N c.2.2.1.a.g.a) (N b.a.j.a) b.a.t a.a.B a.a.s a.a.a) (N c.2.2.1.b.a)) g c.2.2.2) λ e=>(e.1,bD.q (bY.q (N e.2.1.a.b.a) (N f.a.a.a) f.a.g) (N e.2.1.b.a),aB.q (bH.q a.a.r a.a.y a.a.u a.a.z a.a.k (N a.a.b.a) (N e.2.2.1.a.g.a) (N b.a.j.a) b.a.t a.a.B a.a.s a.a.a) (N e.2.2.1.b.a),e.2.2.2) else(c.1,bD.q (bY.q (N c.2.1.a.b.a) (N f.a.a.a) f.a.g) (N c.2.1.b.a),aB.q (bH.q a.a.r a.a.y a.a.u a.a.z a.a.k (N a.a.b.a) (N c.2.2.1.a.g.a) (N b.a.j.a) b.a.t a.a.B a.a.s a.a.a) (N c.2.2.1.b.a),c.2.2.2) else(i.2,f,aB.q (bH.q a.a.r a.a.y a.a.u a.a.z a.a.k (N a.a.b.a) (N a.a.g.a) (N b.a.j.a) b.a.t a.a.B a.a.s a.a.a) (N a.b.a),d)
theorem yC (w D g0) (Z7:bD) (aK aM Z1 bq aC aj ak) (b:cz) (aD gD au bu gF aR dK bv gG aS h) (a:aB) (Z3 Q j p Z6 bP bQ F u B R) (g:StoreT) (Z4 J S) (r:bn) (K L E r0) (r1:bD) (r2:aB) (r3:bn) (H:Own w D w [blk g0 [Zz (Zv ⟨h,0,Zk⟩), T aK (X Z7.a.b.a) aM, T bq (X Z7.a.a.a) aC, Y Z7.a.g, T aj (X Z7.b.a) ak] 92,row aK (X Z7.a.b.a) aM (q1 bM.L Z1) 47 21,sepL (q1 Km Z1),jV aj (X Z7.b.a) ak (q1 dC.L Z7.b.a) 211 2,blk h (kB a Z3 (X a.a.b.a) Q j (X a.a.g.a) p bP (X a.a.j.a) bQ a.a.t R F (X a.b.a) u S) 78,row j (X a.a.g.a) p (q1 bA.L Z6) 80 2,sepL (q1 Ky Z6),row bP (X a.a.j.a) bQ (q1 (eN .u64) a.a.j.a) 33 1,row F (X a.b.a) u (q1 aY.L B) 100 4,sepL (q1 Kq B),blk R [T Z4 (X g.a.a) J] 29,blk S [T K (X r.a.a) L] 111,row K (X r.a.a) L (q1 aH.L E) 159 6,sepL (q1 Kj E)]) (Z8:s0 bM.abs Z1=Z7.a.b.a) (cZ:Ro w D λ w'=>bV w' 6 bq (X Z7.a.a.a) (q1 aV.L Z7.a.a.a)) (mr:X Z7.a.a.a<=aC/\X Z7.a.a.a<=9223372036854775807) (iY:gD=X b.a.a) (df:Ro w D λ w'=>bV w' 6 aD (X b.a.a) (q1 aV.L b.a.a)) (mD:X b.a.a<=au/\X b.a.a<=9223372036854775807) (dR:s0 aQ.abs dK=b.B.a) (iZ:gF=X b.B.a) (ja:Ro w D λ w'=>bV w' 3 bu (X b.B.a) (q1 aQ.L dK)) (mE:X b.B.a<=aR/\X b.B.a<=9223372036854775807) (dS:∀ x ∈ dK,Ro w D (λ w'=>bV w' 2 x.a.A (X x.a.a) (q1 aG.L x.a.a))/\(X x.a.a<=x.a.c/\X x.a.a<=9223372036854775807)) (jb:gG=X b.b.a) (jc:Ro w D λ w'=>bV w' 2 bv (X b.b.a) (q1 bF.L b.b.a)) (mG:X b.b.a<=aS/\X b.b.a<=9223372036854775807) (dU:Ro w D λ w'=>bV w' 2 Z3 (X a.a.b.a) (q1 bF.L a.a.b.a)) (jZ:X a.a.b.a<=Q/\X a.a.b.a<=9223372036854775807) (Z5:s0 bA.abs Z6=a.a.g.a) (G:s0 aY.abs B=a.b.a) (ax:Ro w D λ w'=>bV w' 2 Z4 (X g.a.a) (q1 aG.L g.a.a)) (jd:X g.a.a<=J/\X g.a.a<=9223372036854775807) (I:s0 aH.abs E=r.a.a) (pR:Tk a.b.a a.a.g.a r.a.a) (pU:Gt a.b.a) (pV:Z7.b.a= []) (pW:X a.b.a+X a.a.g.a<=6) (pX:X r.a.a<=6) (pY:X Z7.b.a<=0/\X Z7.a.b.a<=1000/\X Z7.a.a.a<=100/\X g.a.a<=4000/\X a.a.b.a<=1000/\X a.a.j.a<=999) (p8: ¬ (b.g=3)\/X b.a.a<=24) (p9:b.g=3) (hr:jA Z7 b a g r=(r0,r1,r2,r3)):
    Calls Tryz.prog 38 #[vP g0 0, Zq (Zb (fT b.g b.D b.E b.J b.F b.I b.G b.y b.r b.t b.u b.z b.k b.s b.C b.H b.j.a b.j.b aD gD au bu gF aR bv gG aS))] w (dI λ v w'=> ∃ dW dX dh dY dZ d9 ed dm ek eB eF eH dn eP eT dw,v=vI r0/\Own w D w' [blk g0 [vP h 0, T dW (X r1.a.b.a) dX, T bq (X Z7.a.a.a) aC, Y Z7.a.g, T dY (X r1.b.a) dZ] 92,row dW (X r1.a.b.a) dX (q1 bM.L dh) 47 21,sepL (q1 Km dh),jV dY (X r1.b.a) dZ (q1 dC.L r1.b.a) 211 2,blk h (kB a Z3 (X a.a.b.a) Q d9 (X r2.a.g.a) ed ek (X r2.a.j.a) eB r2.a.t R eF (X r2.b.a) eH S) 78,row d9 (X r2.a.g.a) ed (q1 bA.L dm) 80 2,sepL (q1 Ky dm),row ek (X r2.a.j.a) eB (q1 (eN .u64) r2.a.j.a) 33 1,row eF (X r2.b.a) eH (q1 aY.L dn) 100 4,sepL (q1 Kq dn),blk R [T Z4 (X g.a.a) J] 29,blk S [T eP (X r3.a.a) eT] 111,row eP (X r3.a.a) eT (q1 aH.L dw) 159 6,sepL (q1 Kj dw)]/\(s0 bM.abs dh=r1.a.b.a)/\(s0 bA.abs dm=r2.a.g.a)/\(s0 aY.abs dn=r2.b.a)/\(s0 aH.abs dw=r3.a.a)):=by
 subst iY iZ jb
 have mo:=bf Z8
 have mq:=bf dR
 have jX:=bf Z5
 have jY:=bf G
 have gH:=bf I
 have mH:=zr 1 H
 have mI:=H.rowCQ (i:=3) Z
 have j3:=zr 5 H
 have j4:=zr 7 H
 have j5:=zr 8 H
 refine cb Tryz.func38 ?_
 refine sr (cB (jP b aD au bu aR bv aS) 47 H ?_)
 intro bg _ mJ
 refine An Z (JS (kL 9 [] (J6 Kg) (mJ.pb [5,6,7,8,9,10]) ?_))
 intro _ mM
 refine qv 0 Z Z (qp g0 0 1 Z (qp g0 0 2 Z (ql 3 Z 1 S5 Z Z Z (qp bg 9 4 Z (ql 5 Z 0 E0 Z Z Z ?_)))))
 obtain⟨d,aF⟩:∃ q,iB a b.t=q:=⟨_,Z⟩
 obtain⟨_,j6,_,kg,_⟩:=KE (mM.pf [9,12])
 refine qd 6 Z (Ki Tryz.call74 Z (uR _ _ h a Z3 Q j p bP bQ F u R S b.t d j6 f2 aF) ?_)
 rintro _ _ ⟨ay,az,rfl,ko,gI⟩
 have kr:=kg _ _ ko
 have oF:=zr 1 kr
 replace gI:X d.a.j.a<=X a.a.j.a:=gI
 have kv:=kr.pb [0,1,11,12,13,14]
 refine⟨.inr ⟨_,kv⟩, (qn (JY (JS (JS (kL 15 [] (J6 (J6 Kg)) kv ?_)))))⟩
 intro _ mP
 refine qv 0 Z Z (qp g0 0 1 Z (qp g0 0 2 Z (ql 3 Z 1 S5 Z Z Z (qp h 0 4 Z (qp h 0 5 Z (qp h 7 6 Z (ql 7 Z 9 Tryz.isAgg36 Z Z Z (qp bg 8 8 Z (ql 9 Z 0 E0 Z Z Z ?_)))))))))
 obtain⟨⟨gz,je⟩,aI⟩:∃ q:Int × Bool,dV d.a.j.a b.r=q:=⟨_,Z⟩
 obtain⟨_,ky,_,kz,kC⟩:=JZ mP
 refine qd 10 Z (Ki Tryz.call75 Z (lm _ _ ay (X d.a.j.a) az d.a.j.a b.r gz je ky (kC _ 10 _ Z bB) Z U aI) ?_)
 rintro _ _ ⟨rfl,kD,gJ⟩
 have kE:=kz _ _ kD
 replace gJ:0<=gz/\gz<=(X d.a.j.a:Int):=gJ
 refine⟨.inr ⟨_,kE⟩, (qv 11 Z Z (qk (vI gz) 12 Z (qk (Y je) 13 Z (qa 14 Z Z (qa 15 Z Z (qn (JY (JS (kL 15 [] (J6 (J6 Kg)) kE ?_)))))))))⟩
 intro _ jf
 refine qv 0 Z Z (qv 1 Z Z ?_)
 rcases Nv (je) with M | M
 refine JV (rs:= []) 2 Z Z Z M f1 (JV (rs:= []) 3 Z Z Z M f1 (JV (rs:= []) 4 Z Z Z M f1 (JV (rs:= []) 5 Z Z Z M f1 (JV (rs:= []) 6 Z Z Z M f1 (JV (rs:= []) 7 Z Z Z M f1 (JV (rs:= []) 8 Z Z Z M f1 (JV (rs:= []) 9 Z Z Z M f1 (JV (rs:= []) 10 Z Z Z M f1 (JV (rs:= []) 11 Z Z Z M f1 (JV (rs:= []) 12 Z Z Z M f1 (qt (v:= Y Zj) 13 Z (λ _ _=>JX Z M Z) (qn (JY (jt (sr (An Z (rt (tR (rs ?_)))))))))))))))))))
 obtain⟨rfl,rfl,rfl,rfl⟩:=eQ (zj hr (show _=(0,Z7,aB.q (bH.q a.a.r a.a.y a.a.u a.a.z a.a.k (N a.a.b.a) (N a.a.g.a) (N d.a.j.a) d.a.t a.a.B a.a.s a.a.a) (N a.b.a),r) from V (ae aF) (V (ae aI) (ip M)))).symm
 exact⟨aK,aM,Z1,aj,ak,j,p,Z6,ay,az,F,u,B,K,L,E,Z,(jf.px [] [0] [10,13,14,5,6,7,8]),Z8,Z5,G,I⟩
 refine J2 (v:=vP bg 8) (rs:= []) 2 Z Z Z M f1 (λ _ _=>yk) (J2 (v:=vU b.r) (rs:= []) 3 Z Z Z M f1 (λ _ ⟨_,H9⟩=>J5 Z (bO.one E0 (Kw (H9.cls (i:=0) Z) Z))) (J2 (v:=vP g0 0) (rs:= []) 4 Z Z Z M f1 (λ _ _=>J3 Z) (J2 (v:=vP g0 0) (rs:= []) 5 Z Z Z M f1 (λ _ _=>yk) (J2 (v:=vP g0 0) (rs:= []) 6 Z Z Z M f1 (λ _ _=>yk) (J2 (v:=vP h 0) (rs:= []) 7 Z Z Z M f1 (λ _ ⟨_,H9⟩=>J5 Z (bO.one S5 (Kw (H9.cls (i:=1) Z) Z))) (J2 (v:=vP h 0) (rs:= []) 8 Z Z Z M f1 (λ _ _=>yk) (J2 (v:=vP h 0) (rs:= []) 9 Z Z Z M f1 (λ _ _=>yk) (J2 (v:=vP h 8) (rs:= []) 10 Z Z Z M f1 (λ _ _=>yk) (J2 (v:=vU d.a.t) (rs:= []) 11 Z Z Z M f1 (λ _ ⟨_,H9⟩=>J5 Z (bO.one E0 (Kw (H9.cls (i:=9) Z) Z))) (J2 (v:= Za ((b.r:Int) < (d.a.t:Int))) (rs:= []) 12 Z Z Z M f1 (λ _ _=>yk) (qt (v:= Za ((b.r:Int) < (d.a.t:Int))) 13 Z (λ _ _=>JU Z M Z) (qn (JY ?_)))))))))))))
 by_cases bR:(b.r:Int) < (d.a.t:Int)
 refine jT (dT bR) (sr (An Z (rt (tR (rs ?_)))))
 obtain⟨rfl,rfl,rfl,rfl⟩:=eQ (zj hr (show _=(0,Z7,aB.q (bH.q a.a.r a.a.y a.a.u a.a.z a.a.k (N a.a.b.a) (N a.a.g.a) (N d.a.j.a) d.a.t a.a.B a.a.s a.a.a) (N a.b.a),r) from V (ae aF) (V (ae aI) (V (eD M) (ip bR))))).symm
 exact⟨aK,aM,Z1,aj,ak,j,p,Z6,ay,az,F,u,B,K,L,E,Z,(jf.px [] [0] [10,13,14,5,6,7,8]),Z8,Z5,G,I⟩
 refine jF (dF bR) (sk (JS (JS (kL 15 [] (J6 (J6 Kg)) jf ?_))))
 intro _ mU
 refine qv 0 Z Z (qp g0 0 1 Z (qp g0 0 2 Z (ql 3 Z 1 S5 Z Z Z (qp bg 8 4 Z (ql 5 Z 0 E0 Z Z Z ?_)))))
 have jg:=mU.pf [9]
 have oH:=zr 11 jg
 obtain⟨⟨bi,dP⟩,aN⟩:∃ q:Int × Bool,eG (aB.q (bH.q a.a.r a.a.y a.a.u a.a.z a.a.k (N a.a.b.a) (N a.a.g.a) (N d.a.j.a) d.a.t a.a.B a.a.s a.a.a) (N a.b.a)) b.r=q:=⟨_,Z⟩
 obtain⟨_,kF,_,kG,gK⟩:=Kt jg
 refine qd 6 Z (Ki Tryz.call76 Z (nU _ _ h (aB.q (bH.q a.a.r a.a.y a.a.u a.a.z a.a.k (N a.a.b.a) (N a.a.g.a) (N d.a.j.a) d.a.t a.a.B a.a.s a.a.a) (N a.b.a)) Z3 Q j p Z6 ay az F u R S b.r bi dP kF Z5 (gK _ 10 _ Z bB) U (λ x9 h9=>⟨gK _ 11 _ Z (bL (P6.2 ⟨x9,h9,b3⟩) bB),di (φ:=λ _=>_) jg (i:=12) Z (bL (P6.2 ⟨x9,h9,b3⟩) dD)⟩) f2 aN) ?_)
 rintro _ _ ⟨rfl,kH,gL,gM⟩
 replace gL:0<=bi/\bi<=(X a.a.g.a:Int):=gL
 replace gM:Zd dP=0\/bi < (X a.a.g.a:Int):=gM
 have bS:=(kG _ _ kH).pb [0,10,11,12,13,14]
 refine⟨.inr ⟨_,bS⟩, (qv 7 Z Z (qk (vI bi) 8 Z (qk (Y dP) 9 Z (qa 10 Z Z (qa 11 Z Z (qn (JY (sr (Mn Z ?_)))))))))⟩
 rcases Nv (dP) with aP | aP
 have h87t:Zd dP=1:=by rw [aP]; rfl
 refine jT aP (sr (Mz Z (Mz Z (Kz (vP g0 0) (Kz (vP g0 0) (Lz (vP h 0) bS 1 S5 (Kz (vP h 0) (Kz (vP h 0) (Kz (vP h 6) (Lz (T j (X a.a.g.a) p) bS 9 D4 (fw (vJ (W bi)) (J4 (e:=bi) (J3 Z) U) ?_)))))))))))
 obtain⟨aa,dL⟩:=dM (ls:=Z6) (i:=W bi) bA.len f7 (bS.rds (i:=11) Z) f5
 have gN:=ik Z5 dL
 have oJ:X aa.a.a<=aa.a.c/\X aa.a.a<=9223372036854775807:=di bS (i:=12) Z (φ:=λ _=>_) (bL (P6.2 ⟨aa,G4 dL,b3⟩) dD)
 have oK:X aa.a.a<=24:=MF (hs:=a.a.g.a) f8 gN
 refine fw (Zz (Zv ⟨ab j,ao j+(W bi) *2,Zk⟩)) (J9 (kY) Z Z ((bS.rds (i:=11) Z).addr (i:=W bi) U) U) (fw (Zq (Zb (bA.L aa))) (J5 Z (J7 (cs:=(bA.L aa)) Tryz.isAgg80 Tryz.sizeOf80 ((bS.rds (i:=11) Z).elem bA.len dL f7))) ?_)
 obtain⟨⟨kI,eU⟩,eX⟩:∃ q:Int × bD,gY Z7 (dG.q aa.r (N aa.a.a)) (aB.q (bH.q a.a.r a.a.y a.a.u a.a.z a.a.k (N a.a.b.a) (N a.a.g.a) (N d.a.j.a) d.a.t a.a.B a.a.s a.a.a) (N a.b.a)) g=q:=⟨_,Z⟩
 obtain⟨_,kJ,gP,kK,kM⟩:=Lh (bS.pf [1,2,3,9,5])
 refine cl Tryz.call77 (sP _ _ g0 Z7 aK aM Z1 bq aC aj ak (dG.q aa.r (N aa.a.a)) aa.a.A (X aa.a.a) aa.a.c h (aB.q (bH.q a.a.r a.a.y a.a.u a.a.z a.a.k (N a.a.b.a) (N a.a.g.a) (N d.a.j.a) d.a.t a.a.B a.a.s a.a.a) (N a.b.a)) Z3 Q j p ay az F u S R g Z4 J kI eU kJ Z8 (gP _ cZ) U Z (kM _ 7 _ Z (bL (P6.2 ⟨aa,G4 dL,b3⟩) bB)) U (gP _ ax) U f2 eX) ?_
 rintro _ _ ⟨kN,kP,kQ,rfl,jh,eY,eZ⟩
 have gQ:=kK _ _ jh
 have mX:=bf eY
 have mY:=zr 1 gQ
 replace eZ:X eU.a.b.a<=X Z7.a.b.a+1:=eZ
 refine An Z (rt (tR (rs ?_)))
 obtain⟨rfl,rfl,rfl,rfl⟩:=eQ (zj hr (show _=(kI,bD.q (bY.q (N eU.a.b.a) (N Z7.a.a.a) Z7.a.g) (N Z7.b.a),aB.q (bH.q a.a.r a.a.y a.a.u a.a.z a.a.k (N a.a.b.a) (N a.a.g.a) (N d.a.j.a) d.a.t a.a.B a.a.s a.a.a) (N a.b.a),r) from V (ae aF) (V (ae aI) (V (eD M) (V (iN bR) (V (ae aN) (V (ip aP) (V (ae (bG gN)) (ae eX))))))))).symm
 exact⟨kN,kP,kQ,aj,ak,j,p,Z6,ay,az,F,u,B,K,L,E,Z,(gQ.px [] [5] [3,11,12,10,13,14,4,7,8,9]),eY,Z5,G,I⟩
 have h87t:Zd dP=0:=by rw [aP]; rfl
 refine jF aP (sk (JS (kL 15 [] (J6 Kg) bS ?_)))
 intro _ kS
 refine qv 0 Z Z (qp g0 0 1 Z (qp g0 0 2 Z (ql 3 Z 1 S5 Z Z Z (qp bg 8 4 Z (ql 5 Z 0 E0 Z Z Z ?_)))))
 have dN:=kS.pf [9]
 have mZ:=zr 13 dN
 obtain⟨⟨C,bz⟩,aA⟩:∃ q:Int × Bool,cK (aB.q (bH.q a.a.r a.a.y a.a.u a.a.z a.a.k (N a.a.b.a) (N a.a.g.a) (N d.a.j.a) d.a.t a.a.B a.a.s a.a.a) (N a.b.a)) b.r=q:=⟨_,Z⟩
 obtain⟨_,ji,_,jk,dx⟩:=Kt dN
 refine qd 6 Z (Ki Tryz.call78 Z (jM _ _ h (aB.q (bH.q a.a.r a.a.y a.a.u a.a.z a.a.k (N a.a.b.a) (N a.a.g.a) (N d.a.j.a) d.a.t a.a.B a.a.s a.a.a) (N a.b.a)) Z3 Q j p ay az F u B R S b.r C bz ji G (dx _ 12 _ Z bB) U (λ x9 h9=>⟨dx _ 13 _ Z (bL (P6.2 ⟨x9,h9,b3⟩) bB),di (φ:=λ _=>_) dN (i:=14) Z (bL (P6.2 ⟨x9,h9,b3⟩) dD),dx _ 13 _ Z (bL (P6.2 ⟨x9,h9, .tail _ b3⟩) bB),di (φ:=λ _=>_) dN (i:=14) Z (bL (P6.2 ⟨x9,h9, .tail _ b3⟩) dD)⟩) f2 aA) ?_)
 rintro _ _ ⟨rfl,jl,fe,fo⟩
 replace fe:0<=C/\C<=(X a.b.a:Int):=fe
 replace fo:Zd bz=0\/C < (X a.b.a:Int):=fo
 have fq:=(jk _ _ jl).pb [0,10,11,12,13,14]
 refine⟨.inr ⟨_,fq⟩, (qv 7 Z Z (qk (vI C) 8 Z (qk (Y bz) 9 Z (qa 10 Z Z (qa 11 Z Z (qn (JY (JS (sr (Mn Z ?_))))))))))⟩
 rcases Nv (bz) with af | af
 have h135t:Zd bz=1:=by rw [af]; rfl
 refine jT af (sr (An Z (rt (tR (rs ?_)))))
 obtain⟨rfl,rfl,rfl,rfl⟩:=eQ (zj hr (show _=(0,Z7,aB.q (bH.q a.a.r a.a.y a.a.u a.a.z a.a.k (N a.a.b.a) (N a.a.g.a) (N d.a.j.a) d.a.t a.a.B a.a.s a.a.a) (N a.b.a),r) from V (ae aF) (V (ae aI) (V (eD M) (V (iN bR) (V (ae aN) (V (eD aP) (V (ae aA) (ip af))))))))).symm
 exact⟨aK,aM,Z1,aj,ak,j,p,Z6,ay,az,F,u,B,K,L,E,Z,(fq.px [] [0] [10,13,14,5,6,7,8]),Z8,Z5,G,I⟩
 have h135t:Zd bz=0:=by rw [af]; rfl
 refine jF af (sk (JS (JS (kL 15 [] (J6 (J6 Kg)) fq ?_))))
 intro _ kV
 refine qv 0 Z Z (qp g0 0 1 Z (qp g0 0 2 Z (ql 3 Z 1 S5 Z Z Z (qt (v:= Zq (Zb (jP b aD au bu aR bv aS))) 4 Z (λ _ ⟨_,H9⟩=>J5 Z (J7 (cs:=(jP b aD au bu aR bv aS)) I0 I2 ((H9.cls (i:=0) Z).lit (k:=0) (m:=21) Z))) ?_))))
 obtain⟨gT,aJ⟩:∃ q,jr (aB.q (bH.q a.a.r a.a.y a.a.u a.a.z a.a.k (N a.a.b.a) (N a.a.g.a) (N d.a.j.a) d.a.t a.a.B a.a.s a.a.a) (N a.b.a)) b=q:=⟨_,Z⟩
 obtain⟨_,jm,aT,jo,_⟩:=Kt (kV.pf [9])
 refine qd 5 Z (Ki Tryz.call79 Z (uX _ _ h (aB.q (bH.q a.a.r a.a.y a.a.u a.a.z a.a.k (N a.a.b.a) (N a.a.g.a) (N d.a.j.a) d.a.t a.a.B a.a.s a.a.a) (N a.b.a)) Z3 Q j p ay az F u R S b aD (X b.a.a) au bu (X b.B.a) aR dK bv (X b.b.a) aS gT jm (aT _ dU) U Z (aT _ df) U dR Z (aT _ ja) U (λ x9 h9=>⟨aT _ (dS x9 h9).1,(dS x9 h9).2⟩) Z (aT _ jc) U f2 aJ) ?_)
 rintro _ _ ⟨rfl,jq⟩
 have bU:=(jo _ _ jq).pb [0,10,11,12,13,14]
 refine⟨.inr ⟨_,bU⟩, (qn (JY ?_))⟩
 rcases Nv (gT) with aO | aO
 refine jT aO (sr (Mz Z (Kz (vP bg 8) (Lz (vU b.r) bU 0 E0 (Kz (Zq (Zb (fT 4 0 0 0 4 0 0 0 b.r 0 0 0 0 0 0 O [] [] Zk 0 0 Zk 0 0 Zk 0 0))) (WL.do Z (Ki Tryz.call80 Z ?_ (λ _ _ k=>k))))))))
 refine cb Tryz.func80 ?_
 refine sr (cB (fT 4 0 0 0 4 0 0 0 b.r 0 0 0 0 0 0 O [] [] Zk 0 0 Zk 0 0 Zk 0 0) 47 bU ?_)
 intro fu _ fA
 refine ns (Mz Z (Kz (vP g0 0) (Kz (vP g0 0) (Lz (vP h 0) fA 2 S5 (Kz (vP h 0) (Kz (vP h 0) (Kz (vP h 0) (Lz (vI a.a.r) fA 10 Tryz.isAgg3 (Kz (vP fu 1) (cu [vI a.a.r] 1 fA Tryz.sizeOf3 ?_))))))))))
 intro _ gU
 refine ns (Kz (vP fu 18) (Lz (T Zk 0 0) gU 0 Q9 ?_))
 obtain⟨_,jv,_,jw,_⟩:=JZ gU
 refine cl V9 (fJ _ _ Zk 0 0 [] [] jv (λ _ _=>bV.nil _ _ _) Z i2 Z) ?_
 rintro _ _ ⟨Z2,Z0,rfl,jy⟩
 have gV:=jw _ _ jy
 have ny:=zr 0 gV
 refine Kz (vP fu 18) (cu [T Z2 0 Z0] 18 (gV.pf [1]) Tryz.sizeOf44 ?_)
 intro _ lc
 refine nt (kL 17 [8,12] Kg lc ?_)
 intro _ lg
 refine Kr (v:=vP g0 0) 0 Z f1 (λ _=>J3 Z) (qv 1 Z Z (qp g0 0 2 Z (qp g0 1 3 Z (qp g0 1 4 Z (ql 5 Z 3 Tryz.isAgg50 Z Z Z (qt (v:= Zq (Zb (fT 4 a.a.r 0 0 4 0 0 0 b.r 0 0 0 0 0 0 O [] [] Z2 0 Z0 Zk 0 0 Zk 0 0))) 6 Z (λ _ ⟨_,H9⟩=>J5 Z (J7 (cs:=(fT 4 a.a.r 0 0 4 0 0 0 b.r 0 0 0 0 0 0 O [] [] Z2 0 Z0 Zk 0 0 Zk 0 0)) I0 I2 ((H9.cls (i:=0) Z).lit (k:=0) (m:=21) Z))) (qd 7 Z (KF (cs:=(fT 4 a.a.r 0 0 4 0 0 0 b.r 0 0 0 0 0 0 O [] [] Z2 0 Z0 Zk 0 0 Zk 0 0)) (t:=47) (sz:=21) (m:=1) lg Z Z ZY Z f7 ?_))))))))
 intro lh fB fC
 replace fC:=Ku (y:=row lh 1 1 (q1 bM.L ([(bM.q 4 a.a.r 0 0 4 0 0 0 b.r 0 0 0 0 0 0 O (ai.q [] []) (O4 Z2 Z0 []) (O4 Zk 0 []) (O4 Zk 0 []))])) 47 21) Z fC
 have gW:=fC.pb [0]
 refine⟨.inr ⟨_,gW⟩, ?_⟩
 have ll:Own w D fB (sepL (q1 Kl [])::_):=gW.sepNil
 have lq:Own w D fB (row Zk 0 0 (q1 aQ.L []) 65 3::_):=ll.free (bW 65 3)
 have lu:Own w D fB (row Zk 0 0 (q1 bF.L []) 83 2::_):=lq.free (bW 83 2)
 have gX:=lu.pf [7,8,4,1]
 refine qd 8 Z (Kk (k:=X Z7.a.b.a) (m:=1) (qC) gX Z Z (eO S7 (gX.rds (i:=20) Z) (cO bM.one ([(bM.q 4 a.a.r 0 0 4 0 0 0 b.r 0 0 0 0 0 0 O (ai.q [] []) (O4 Z2 Z0 []) (O4 Zk 0 []) (O4 Zk 0 []))]))) Z U (s:=X (Z7.a.b.a++ [(cz.q 4 a.a.r 0 0 4 0 0 0 b.r 0 0 0 0 0 0 O (ai.q [] []) (N []) (N []) (N []))])) f6 (u3).symm ?_)
 intro gZ ib lv lw
 have lD:Own w D lv (sepL (q1 Km (Z1++ [(bM.q 4 a.a.r 0 0 4 0 0 0 b.r 0 0 0 0 0 0 O (ai.q [] []) (O4 Z2 Z0 []) (O4 Zk 0 []) (O4 Zk 0 []))]))::_):=(lw.pf [1,2,3,4,5]).sepAdd (L2:= [row Z2 0 Z0 (q1 aV.L []) 62 6,row Zk 0 0 (q1 aQ.L []) 65 3,row Zk 0 0 (q1 bF.L []) 83 2,sepL (q1 Kl [])]) (u3 (f:=Km) (xs:=Z1) (ys:= [(bM.q 4 a.a.r 0 0 4 0 0 0 b.r 0 0 0 0 0 0 O (ai.q [] []) (O4 Z2 Z0 []) (O4 Zk 0 []) (O4 Zk 0 []))])).symm
 have nz:X (Z7.a.b.a++ [(cz.q 4 a.a.r 0 0 4 0 0 0 b.r 0 0 0 0 0 0 O (ai.q [] []) (N []) (N []) (N []))])=X Z7.a.b.a+1:=by simp only [o3,q6,L0]
 have nA:=bf (iP (es:= [(bM.q 4 a.a.r 0 0 4 0 0 0 b.r 0 0 0 0 0 0 O (ai.q [] []) (O4 Z2 Z0 []) (O4 Zk 0 []) (O4 Zk 0 []))]) (ms:= [(cz.q 4 a.a.r 0 0 4 0 0 0 b.r 0 0 0 0 0 0 O (ai.q [] []) (N []) (N []) (N []))]) Z8 Z)
 refine⟨.inl f1, (Kr (v:=vP g0 0) 9 Z f1 (λ _=>yk) (Kr (v:=vP g0 1) 10 Z f1 (λ _=>yk) (Kr (v:=vP g0 1) 11 Z f1 (λ _=>yk) (qe 12 Z (Do.store (vs:= [T gZ (X (Z7.a.b.a++ [(cz.q 4 a.a.r 0 0 4 0 0 0 b.r 0 0 0 0 0 0 O (ai.q [] []) (N []) (N []) (N []))])) ib]) (o:=1) (lD.pf [4]) Z Z Tryz.sizeOf50 Z Z Z Z ?_)))))⟩
 intro _ lG
 refine⟨.inl f1, (qn (KD (res0 Z) (nt (JS (JW (An Z (rt (tR (rs ?_)))))))))⟩
 have lI:=(lG.px [] [3,16] []).px [0,2] [3] [10,13,14,5,6,7,8]
 obtain⟨rfl,rfl,rfl,rfl⟩:=eQ (zj hr (show _=(0,bD.q (bY.q (N (Z7.a.b.a++ [(cz.q 4 a.a.r 0 0 4 0 0 0 b.r 0 0 0 0 0 0 O (ai.q [] []) (N []) (N []) (N []))])) (N Z7.a.a.a) Z7.a.g) (N Z7.b.a),aB.q (bH.q a.a.r a.a.y a.a.u a.a.z a.a.k (N a.a.b.a) (N a.a.g.a) (N d.a.j.a) d.a.t a.a.B a.a.s a.a.a) (N a.b.a),r) from V (ae aF) (V (ae aI) (V (eD M) (V (iN bR) (V (ae aN) (V (eD aP) (V (ae aA) (V (eD af) (V (ae aJ) (ip aO))))))))))).symm
 exact⟨gZ,ib,(Z1++ [(bM.q 4 a.a.r 0 0 4 0 0 0 b.r 0 0 0 0 0 0 O (ai.q [] []) (O4 Z2 Z0 []) (O4 Zk 0 []) (O4 Zk 0 []))]),aj,ak,j,p,Z6,ay,az,F,u,B,K,L,E,Z,lI,(iP (es:= [(bM.q 4 a.a.r 0 0 4 0 0 0 b.r 0 0 0 0 0 0 O (ai.q [] []) (O4 Z2 Z0 []) (O4 Zk 0 []) (O4 Zk 0 []))]) (ms:= [(cz.q 4 a.a.r 0 0 4 0 0 0 b.r 0 0 0 0 0 0 O (ai.q [] []) (N []) (N []) (N []))]) Z8 Z),Z5,G,I⟩
 refine jF aO (sk (sr (Kz (vP bg 18) (Lz (T aD (X b.a.a) au) bU 0 Q9 ?_))))
 obtain⟨⟨P,bC⟩,aU⟩:∃ q:(List aL) × Int,o9 b.a.a=q:=⟨_,Z⟩
 obtain⟨_,jB,jC,jD,_⟩:=JZ bU
 refine cl Tryz.call36 (C9 _ _ aD (X b.a.a) au b.a.a P bC jB (jC _ df) Z U aU) ?_
 rintro _ _ ⟨aW,aX,rfl,jE⟩
 have fD:=jD _ _ jE
 have nD:=zr 0 fD
 have nE:X P<=X b.a.a:=xW aU
 refine Mz Z (Kz (T aW (X P) aX) (Kz (vI bC) (Az Z (An Z (JS (sr (Mz Z (fw (Za (¬ (bC=0))) (Kc (e:= !(Zw (bC=0))) yk ZW) (nt ?_)))))))))
 by_cases bX:bC=0
 refine jF (dF (Nu bX)) (sk (JS (DJ [23] (J6 Kg) (fD.pf [1,2,6,7,10]) ?_)))
 intro _ lK
 refine qv 0 Z Z (qp g0 0 1 Z (qp g0 0 2 Z (ql 3 Z 1 S5 Z Z Z (qv 4 Z Z (qp g0 0 5 Z (qp g0 0 6 Z (ql 7 Z 1 S5 Z Z Z (qp h 0 8 Z (qp h 18 9 Z (ql 10 Z 4 Tryz.isAgg75 Z Z Z (qv 11 Z Z (qp bg 8 12 Z (ql 13 Z 0 E0 Z Z Z (qp bg 18 14 Z (ql 15 Z 0 Q9 Z Z Z (qv 17 Z Z ?_))))))))))))))))
 obtain⟨_,jG,jH,jI,_⟩:=JZ lK
 refine qd 16 Z (Ki V9 Z (fJ _ _ aD (X b.a.a) au b.a.a b.a.a jG (jH _ df) Z U Z) ?_)
 rintro _ _ ⟨bE,bI,rfl,jJ⟩
 have ic:=jI _ _ jJ
 have nH:=zr 0 ic
 have ig:=ic.pf [1,2,3,4,5]
 refine⟨.inr ⟨_,ig⟩, (qk (Zq #[vU b.r, T bE (X b.a.a) bI, T aW (X P) aX,vI 0]) 18 Z (qd 19 Z (K6 (cs:= [vU b.r, T bE (X b.a.a) bI, T aW (X P) aX,vI 0]) (t:=100) (sz:=4) (m:=1) ig Z Z ZY Z ?_)))⟩
 intro il _ fE
 replace fE:=Ku (y:=mF il 1 (q1 aY.L ([(aY.q b.r (O4 bE bI b.a.a) (O4 aW aX P) 0)])) 100 4) Z fE
 have iq:=fE.pf [1,2,3,4,5]
 refine⟨.inr ⟨_,iq⟩, ?_⟩
 obtain⟨_,jK,_,jL,_⟩:=Lh (iq.pf [16,5,17,6,7])
 refine qd 20 Z (Ki Tryz.call81 Z (y8 _ _ F (X a.b.a) u B a.b.a C (W C) il (aY.q b.r (O4 bE bI b.a.a) (O4 aW aX P) 0) (bK.q b.r (N b.a.a) (N P) 0) jK U G Z U U U) ?_)
 rintro _ _ ⟨iw,iy,rfl,jN⟩
 have nK:X (u2 (W C) B++((aY.q b.r (O4 bE bI b.a.a) (O4 aW aX P) 0)::r8 (W C) B))=X (u2 (W C) a.b.a++((bK.q b.r (N b.a.a) (N P) 0)::r8 (W C) a.b.a)):=by exact bf (kw (z:=(bK.q b.r (N b.a.a) (N P) 0)) G Z)
 have nL:X (u2 (W C) a.b.a++((bK.q b.r (N b.a.a) (N P) 0)::r8 (W C) a.b.a))=X a.b.a+1:=by simp only [o3,o1,q6,o2]; omega
 have iA:=(jL _ _ jN).pf [2,3,4,5,6]
 refine⟨.inr ⟨_,iA⟩, (qp h 0 21 Z (qp h 18 22 Z (qe 23 Z (Do.store (vs:= [T iw (X (u2 (W C) a.b.a++((bK.q b.r (N b.a.a) (N P) 0)::r8 (W C) a.b.a))) iy]) (o:=18) (iA.pf [4]) Z Z Tryz.sizeOf75 Z Z Z Z ?_))))⟩
 intro _ iC
 refine⟨.inl f1, (qn (JY (JS (sr (Mz Z (Kz (vP bg 8) (Lz (vU b.r) iC 1 E0 ?_)))))))⟩
 obtain⟨dz,dA⟩:=CJ (m:=(aB.q (bH.q a.a.r a.a.y a.a.u a.a.z a.a.k (N a.a.b.a) (N a.a.g.a) (N d.a.j.a) d.a.t a.a.B a.a.s a.a.a) (N a.b.a))) (rs:=r.a.a) (o:=b.a.a) (l:=P) f8 f8 aN aP aA af (wP aJ aO g4 g4 g4).1 U U
 replace dz:Tk (u2 (W C) a.b.a++((bK.q b.r (N b.a.a) (N P) 0)::r8 (W C) a.b.a)) a.a.g.a r.a.a:=dz
 replace dA:Gx b.r (u2 (W C) a.b.a++((bK.q b.r (N b.a.a) (N P) 0)::r8 (W C) a.b.a)):=dA
 obtain⟨⟨bZ,av,ag,aZ⟩,bT⟩:=qq (fH Z7 b.r (aB.q (bH.q a.a.r a.a.y a.a.u a.a.z a.a.k (N a.a.b.a) (N a.a.g.a) (N d.a.j.a) d.a.t a.a.B a.a.s a.a.a) (N (u2 (W C) a.b.a++((bK.q b.r (N b.a.a) (N P) 0)::r8 (W C) a.b.a)))) g r)
 obtain⟨_,jO,fF,jQ,_⟩:=K4 (iC.pb [0,13,14,5,6,3,4,10,11,1,12])
 refine cl Tryz.call82 (qU _ _ g0 Z7 aK aM Z1 bq aC aj ak b.r h (aB.q (bH.q a.a.r a.a.y a.a.u a.a.z a.a.k (N a.a.b.a) (N a.a.g.a) (N d.a.j.a) d.a.t a.a.B a.a.s a.a.a) (N (u2 (W C) a.b.a++((bK.q b.r (N b.a.a) (N P) 0)::r8 (W C) a.b.a)))) Z3 Q j p Z6 ay az iw iy (u2 (W C) B++((aY.q b.r (O4 bE bI b.a.a) (O4 aW aX P) 0)::r8 (W C) B)) R g Z4 J S r K L E bZ av ag aZ jO Z8 (fF _ cZ) U Z5 (kw (z:=(bK.q b.r (N b.a.a) (N P) 0)) G Z) (fF _ ax) U I f8 (by first | omega | exact Tk.n f8) (by first | omega | exact Tk.rows f8) f2 bT) ?_
 rintro _ _ ⟨iD,iE,iF,iG,iH,iI,iJ,iK,iL,iM,iO,iQ,iR,iT,rfl,jR,dB,dE,dH,dJ⟩
 have bJ:=jQ _ _ jR
 have nN:=bf dB
 have nO:=bf dE
 have nP:=bf dH
 have nQ:=bf dJ
 have nR:=zr 1 bJ
 have nS:=bJ.rowCQ (i:=3) Z
 have nT:=zr 5 bJ
 have nV:=zr 7 bJ
 have nW:=zr 11 bJ
 obtain⟨fG,fI,fK,fM,fO⟩:=goes dz dA j0 bT
 replace fG:=fG
 replace fI:=fI
 replace fK:=fK
 replace fM:=fM
 replace fO:=fO
 refine An Z (JS ?_)
 have iU:=bJ.px [] [13] []
 refine JW (Mz Z (fw (Za (¬ (bZ=0))) (Kc (e:= !(Zw (bZ=0))) yk ZW) (nt ?_)))
 by_cases dO:bZ=0
 refine jF (dF (Nu dO)) (sk (sr (Mz Z ?_)))
 obtain⟨⟨iV,fP,fQ,iW⟩,fU⟩:=qq (eu (bD.q (bY.q (N av.a.b.a) (N Z7.a.a.a) Z7.a.g) (N av.b.a)) (aB.q (bH.q a.a.r a.a.y a.a.u a.a.z a.a.k (N a.a.b.a) (N ag.a.g.a) (N d.a.j.a) d.a.t a.a.B a.a.s a.a.a) (N ag.b.a)) g aZ)
 obtain⟨_,jS,fV,jU,_⟩:=K4 iU
 refine cl X3 (oz _ _ g0 (bD.q (bY.q (N av.a.b.a) (N Z7.a.a.a) Z7.a.g) (N av.b.a)) iD iE iF bq aC iG iH h (aB.q (bH.q a.a.r a.a.y a.a.u a.a.z a.a.k (N a.a.b.a) (N ag.a.g.a) (N d.a.j.a) d.a.t a.a.B a.a.s a.a.a) (N ag.b.a)) Z3 Q iI iJ iK ay az iL iM iO R g Z4 J S aZ iQ iR iT iV fP fQ iW jS dB (fV _ cZ) U dE dH (fV _ ax) U dJ f8 f8 f8 (by first | omega | exact Tk.n f8) (by first | omega | exact Tk.rows f8) f2 fU) ?_
 rintro _ _ ⟨lS,lT,lU,lV,lW,lX,lY,lZ,l5,l6,l7,l8,l9,ma,rfl,jW,fZ,gm,gp,gq⟩
 have bN:=jU _ _ jW
 have nY:=bf fZ
 have nZ:=bf gm
 have og:=bf gp
 have oh:=bf gq
 have ol:=zr 1 bN
 have om:=bN.rowCQ (i:=3) Z
 have oo:=zr 5 bN
 have oq:=zr 7 bN
 have ou:=zr 11 bN
 refine An Z (rt (rs ?_))
 obtain⟨rfl,rfl,rfl,rfl⟩:=eQ (zj hr (show _=(iV,bD.q (bY.q (N fP.a.b.a) (N Z7.a.a.a) Z7.a.g) (N fP.b.a),aB.q (bH.q a.a.r a.a.y a.a.u a.a.z a.a.k (N a.a.b.a) (N fQ.a.g.a) (N d.a.j.a) d.a.t a.a.B a.a.s a.a.a) (N fQ.b.a),iW) from V (ae aF) (V (ae aI) (V (eD M) (V (iN bR) (V (ae aN) (V (eD aP) (V (ae aA) (V (eD af) (V (ae aJ) (V (eD aO) (V (ae aU) (V (ip bX) (V (ae bT) (V (ip dO) (ae fU))))))))))))))))
 exact⟨lS,lT,lU,lV,lW,lX,lY,lZ,ay,az,l5,l6,l7,l8,l9,ma,Z,(bN.pb [7,8,9,10,11,12]),fZ,gm,gp,gq⟩
 refine jT (dT dO) (sr (Mz Z (An Z (rt (tR (rs ?_))))))
 obtain⟨rfl,rfl,rfl,rfl⟩:=eQ (zj hr (show _=(bZ,bD.q (bY.q (N av.a.b.a) (N Z7.a.a.a) Z7.a.g) (N av.b.a),aB.q (bH.q a.a.r a.a.y a.a.u a.a.z a.a.k (N a.a.b.a) (N ag.a.g.a) (N d.a.j.a) d.a.t a.a.B a.a.s a.a.a) (N ag.b.a),aZ) from V (ae aF) (V (ae aI) (V (eD M) (V (iN bR) (V (ae aN) (V (eD aP) (V (ae aA) (V (eD af) (V (ae aJ) (V (eD aO) (V (ae aU) (V (ip bX) (V (ae bT) (iN dO)))))))))))))))
 exact⟨iD,iE,iF,iG,iH,iI,iJ,iK,ay,az,iL,iM,iO,iQ,iR,iT,Z,(iU.pb [7,8,9,10,11,12]),dB,dE,dH,dJ⟩
 refine jT (dT bX) (sr (Mz Z (An Z (rt (tR (rs ?_))))))
 obtain⟨rfl,rfl,rfl,rfl⟩:=eQ (zj hr (show _=(bC,Z7,aB.q (bH.q a.a.r a.a.y a.a.u a.a.z a.a.k (N a.a.b.a) (N a.a.g.a) (N d.a.j.a) d.a.t a.a.B a.a.s a.a.a) (N a.b.a),r) from V (ae aF) (V (ae aI) (V (eD M) (V (iN bR) (V (ae aN) (V (eD aP) (V (ae aA) (V (eD af) (V (ae aJ) (V (eD aO) (V (ae aU) (iN bX))))))))))))).symm
 exact⟨aK,aM,Z1,aj,ak,j,p,Z6,ay,az,F,u,B,K,L,E,Z,(fD.px [] [0,1] [11,14,15,6,7,8,9]),Z8,Z5,G,I⟩
def iU (e:bD) (g:cz) (a:aB) (l:StoreT) (f:bn):Int × bD × aB × bn:=
 bnd (eG a g.r) λ b=>bnd (cK a g.r) λ q=>if b.2=Zj then bnd (List.getD a.a.g.a (W b.1) Zy) λ o=>bnd (if g.H=Zj then bnd (jW (bD.q (bY.q (N (e.a.b.a++ [(cz.q 6 a.a.r 0 0 0 0 0 0 g.r 0 0 0 0 0 0 O (ai.q [] []) (N []) (N []) (N []))])) (N e.a.a.a) e.a.g) (N e.b.a)) o.a.a (aB.q (bH.q a.a.r a.a.y a.a.u a.a.z a.a.k (N a.a.b.a) (N (u2 (W b.1) a.a.g.a++r8 ((W b.1)+1) a.a.g.a)) (N a.a.j.a) a.a.t a.a.B a.a.s a.a.a) (N a.b.a))) λ p=>p.a.a.a else e.a.a.a) λ sJrbbtbJ=>bnd (eP (aB.q (bH.q a.a.r a.a.y a.a.u a.a.z a.a.k (N a.a.b.a) (N (u2 (W b.1) a.a.g.a++r8 ((W b.1)+1) a.a.g.a)) (N a.a.j.a) a.a.t a.a.B a.a.s a.a.a) (N a.b.a)) g.r) λ h=>bnd (iG (aB.q (bH.q a.a.r a.a.y a.a.u a.a.z a.a.k (N a.a.b.a) (N (u2 (W b.1) a.a.g.a++r8 ((W b.1)+1) a.a.g.a)) (N a.a.j.a) a.a.t a.a.B a.a.s a.a.a) (N h.b.a)) g.r) λ i=>bnd (fP (bD.q (bY.q (N (e.a.b.a++ [(cz.q 6 a.a.r 0 0 0 0 0 0 g.r 0 0 0 0 0 0 O (ai.q [] []) (N []) (N []) (N []))])) (N sJrbbtbJ) e.a.g) (N e.b.a)) g.r (aB.q (bH.q a.a.r a.a.y a.a.u a.a.z a.a.k (N a.a.b.a) (N (u2 (W b.1) a.a.g.a++r8 ((W b.1)+1) a.a.g.a)) (N i.a.j.a) a.a.t a.a.B a.a.s a.a.a) (N h.b.a)) f) λ m=>bnd (eu (bD.q (bY.q (N (e.a.b.a++ [(cz.q 6 a.a.r 0 0 0 0 0 0 g.r 0 0 0 0 0 0 O (ai.q [] []) (N []) (N []) (N []))])) (N sJrbbtbJ) e.a.g) (N m.1.b.a)) (aB.q (bH.q a.a.r a.a.y a.a.u a.a.z a.a.k (N a.a.b.a) (N (u2 (W b.1) a.a.g.a++r8 ((W b.1)+1) a.a.g.a)) (N i.a.j.a) a.a.t a.a.B a.a.s a.a.a) (N h.b.a)) l m.2) λ c=>(c.1,bD.q (bY.q (N c.2.1.a.b.a) (N sJrbbtbJ) e.a.g) (N c.2.1.b.a),aB.q (bH.q a.a.r a.a.y a.a.u a.a.z a.a.k (N a.a.b.a) (N c.2.2.1.a.g.a) (N i.a.j.a) a.a.t a.a.B a.a.s a.a.a) (N c.2.2.1.b.a),c.2.2.2) else if q.2=Zj then bnd (eP a g.r) λ j=>bnd (iG (aB.q a.a (N j.b.a)) g.r) λ k=>bnd (fP (bD.q (bY.q (N (e.a.b.a++ [(cz.q 6 a.a.r 0 0 0 0 0 0 g.r 0 0 0 0 0 0 O (ai.q [] []) (N []) (N []) (N []))])) (N e.a.a.a) e.a.g) (N e.b.a)) g.r (aB.q (bH.q a.a.r a.a.y a.a.u a.a.z a.a.k (N a.a.b.a) (N a.a.g.a) (N k.a.j.a) a.a.t a.a.B a.a.s a.a.a) (N j.b.a)) f) λ n=>bnd (eu (bD.q (bY.q (N (e.a.b.a++ [(cz.q 6 a.a.r 0 0 0 0 0 0 g.r 0 0 0 0 0 0 O (ai.q [] []) (N []) (N []) (N []))])) (N e.a.a.a) e.a.g) (N n.1.b.a)) (aB.q (bH.q a.a.r a.a.y a.a.u a.a.z a.a.k (N a.a.b.a) (N a.a.g.a) (N k.a.j.a) a.a.t a.a.B a.a.s a.a.a) (N j.b.a)) l n.2) λ d=>(d.1,bD.q (bY.q (N d.2.1.a.b.a) (N e.a.a.a) e.a.g) (N d.2.1.b.a),aB.q (bH.q a.a.r a.a.y a.a.u a.a.z a.a.k (N a.a.b.a) (N d.2.2.1.a.g.a) (N k.a.j.a) a.a.t a.a.B a.a.s a.a.a) (N d.2.2.1.b.a),d.2.2.2) else(0,bD.q (bY.q (N (e.a.b.a++ [(cz.q 6 a.a.r 0 0 0 0 0 0 g.r 0 0 0 0 0 0 O (ai.q [] []) (N []) (N []) (N []))])) (N e.a.a.a) e.a.g) (N e.b.a),a,f)
theorem xg (w D Z4) (u:bD) (gz gB Z0 ak ah au av) (d:cz) (bJ gD bK bN gF bP bT bQ gG bR g) (a:aB) (z B r E p F G Z6 L R h) (j:StoreT) (S I l) (C:bn) (M Z5 J r0) (r1:bD) (r2:aB) (r3:bn) (H:Own w D w [blk Z4 [Zz (Zv ⟨g,0,Zk⟩), T gz (X u.a.b.a) gB, T ak (X u.a.a.a) ah, Y u.a.g, T au (X u.b.a) av] 92,row gz (X u.a.b.a) gB (q1 bM.L Z0) 47 21,sepL (q1 Km Z0),row ak (X u.a.a.a) ah (q1 aV.L u.a.a.a) 62 6,jV au (X u.b.a) av (q1 dC.L u.b.a) 211 2,blk g (kB a z (X a.a.b.a) B r (X a.a.g.a) E F (X a.a.j.a) G a.a.t h Z6 (X a.b.a) L l) 78,row r (X a.a.g.a) E (q1 bA.L p) 80 2,sepL (q1 Ky p),row F (X a.a.j.a) G (q1 (eN .u64) a.a.j.a) 33 1,row Z6 (X a.b.a) L (q1 aY.L R) 100 4,sepL (q1 Kq R),blk h [T S (X j.a.a) I] 29,blk l [T M (X C.a.a) Z5] 111,row M (X C.a.a) Z5 (q1 aH.L J) 159 6,sepL (q1 Kj J)]) (az:s0 bM.abs Z0=u.a.b.a) (iw:gD=X d.a.a) (mK:Ro w D λ w'=>bV w' 6 bJ (X d.a.a) (q1 aV.L d.a.a)) (mM:X d.a.a<=bK/\X d.a.a<=9223372036854775807) (iy:s0 aQ.abs bT=d.B.a) (iA:gF=X d.B.a) (mO:Ro w D λ w'=>bV w' 3 bN (X d.B.a) (q1 aQ.L bT)) (mP:X d.B.a<=bP/\X d.B.a<=9223372036854775807) (mQ:∀ x ∈ bT,Ro w D (λ w'=>bV w' 2 x.a.A (X x.a.a) (q1 aG.L x.a.a))/\(X x.a.a<=x.a.c/\X x.a.a<=9223372036854775807)) (iB:gG=X d.b.a) (mR:Ro w D λ w'=>bV w' 2 bQ (X d.b.a) (q1 bF.L d.b.a)) (mU:X d.b.a<=bR/\X d.b.a<=9223372036854775807) (P:s0 bA.abs p=a.a.g.a) (Z2:s0 aY.abs R=a.b.a) (aA:Ro w D λ w'=>bV w' 2 S (X j.a.a) (q1 aG.L j.a.a)) (iC:X j.a.a<=I/\X j.a.a<=9223372036854775807) (Z3:s0 aH.abs J=C.a.a) (qV:Tk a.b.a a.a.g.a C.a.a) (qW:Gt a.b.a) (qX:u.b.a= []) (qY:X a.b.a+X a.a.g.a<=6) (qZ:X C.a.a<=6) (q8:X u.b.a<=0/\X u.a.b.a<=1000/\X u.a.a.a<=100/\X j.a.a<=4000/\X a.a.b.a<=1000/\X a.a.j.a<=999) (q9: ¬ (d.g=3)\/X d.a.a<=24) (hr:iU u d a j C=(r0,r1,r2,r3)):
    Calls Tryz.prog 39 #[vP Z4 0, Zq (Zb (fT d.g d.D d.E d.J d.F d.I d.G d.y d.r d.t d.u d.z d.k d.s d.C d.H d.j.a d.j.b bJ gD bK bN gF bP bQ gG bR))] w (dI λ v w'=> ∃ bU bX aZ bZ cZ df dh dm dn bg dw dx dz dA bi dB dE bq,v=vI r0/\Own w D w' [blk Z4 [vP g 0, T bU (X r1.a.b.a) bX, T bZ (X r1.a.a.a) cZ, Y u.a.g, T df (X r1.b.a) dh] 92,row bU (X r1.a.b.a) bX (q1 bM.L aZ) 47 21,sepL (q1 Km aZ),row bZ (X r1.a.a.a) cZ (q1 aV.L r1.a.a.a) 62 6,jV df (X r1.b.a) dh (q1 dC.L r1.b.a) 211 2,blk g (kB a z (X a.a.b.a) B dm (X r2.a.g.a) dn dw (X r2.a.j.a) dx a.a.t h dz (X r2.b.a) dA l) 78,row dm (X r2.a.g.a) dn (q1 bA.L bg) 80 2,sepL (q1 Ky bg),row dw (X r2.a.j.a) dx (q1 (eN .u64) r2.a.j.a) 33 1,row dz (X r2.b.a) dA (q1 aY.L bi) 100 4,sepL (q1 Kq bi),blk h [T S (X j.a.a) I] 29,blk l [T dB (X r3.a.a) dE] 111,row dB (X r3.a.a) dE (q1 aH.L bq) 159 6,sepL (q1 Kj bq)]/\(s0 bM.abs aZ=r1.a.b.a)/\(s0 bA.abs bg=r2.a.g.a)/\(s0 aY.abs bi=r2.b.a)/\(s0 aH.abs bq=r3.a.a)):=by
 subst iw iA iB
 have mI:=bf az
 have mJ:=bf iy
 have jK:=bf P
 have jL:=bf Z2
 have gH:=bf Z3
 have mV:=zr 1 H
 have mW:=zr 3 H
 have mX:=H.rowCQ (i:=4) Z
 have jN:=zr 6 H
 have jO:=zr 8 H
 have jQ:=zr 9 H
 refine cb Tryz.func39 ?_
 refine sr (cB (jP d bJ bK bN bP bQ bR) 47 H ?_)
 intro aj _ jR
 refine Ar Z (Mz Z (Kz (vP aj 8) (Lz (vU d.r) jR 0 E0 (Kz (Zq (Zb (fT 6 0 0 0 0 0 0 0 d.r 0 0 0 0 0 0 O [] [] Zk 0 0 Zk 0 0 Zk 0 0))) (WL.do Z (Ki Tryz.call80 Z ?_ (λ _ _ k=>k)))))))
 refine cb Tryz.func80 ?_
 refine sr (cB (fT 6 0 0 0 0 0 0 0 d.r 0 0 0 0 0 0 O [] [] Zk 0 0 Zk 0 0 Zk 0 0) 47 jR ?_)
 intro iD _ iE
 refine ns (Mz Z (Kz (vP Z4 0) (Kz (vP Z4 0) (Lz (vP g 0) iE 2 S5 (Kz (vP g 0) (Kz (vP g 0) (Kz (vP g 0) (Lz (vI a.a.r) iE 7 Tryz.isAgg3 (Kz (vP iD 1) (cu [vI a.a.r] 1 iE Tryz.sizeOf3 ?_))))))))))
 intro _ jS
 refine ns (Kz (vP iD 18) (Lz (T Zk 0 0) jS 0 Q9 ?_))
 obtain⟨_,jU,_,jX,_⟩:=JZ jS
 refine cl V9 (fJ _ _ Zk 0 0 [] [] jU (λ _ _=>bV.nil _ _ _) Z i2 Z) ?_
 rintro _ _ ⟨Z8,Z1,rfl,jY⟩
 have jZ:=jX _ _ jY
 have pY:=zr 0 jZ
 refine Kz (vP iD 18) (cu [T Z8 0 Z1] 18 (jZ.pf [1]) Tryz.sizeOf44 ?_)
 intro _ mZ
 refine nt (kL 18 [8,12] Kg mZ ?_)
 intro _ ng
 refine Kr (v:=vP Z4 0) 0 Z f1 (λ _=>J3 Z) (qv 1 Z Z (qp Z4 0 2 Z (qp Z4 1 3 Z (qp Z4 1 4 Z (ql 5 Z 3 Tryz.isAgg50 Z Z Z (qt (v:= Zq (Zb (fT 6 a.a.r 0 0 0 0 0 0 d.r 0 0 0 0 0 0 O [] [] Z8 0 Z1 Zk 0 0 Zk 0 0))) 6 Z (λ _ ⟨_,H9⟩=>J5 Z (J7 (cs:=(fT 6 a.a.r 0 0 0 0 0 0 d.r 0 0 0 0 0 0 O [] [] Z8 0 Z1 Zk 0 0 Zk 0 0)) I0 I2 ((H9.cls (i:=0) Z).lit (k:=0) (m:=21) Z))) (qd 7 Z (KF (cs:=(fT 6 a.a.r 0 0 0 0 0 0 d.r 0 0 0 0 0 0 O [] [] Z8 0 Z1 Zk 0 0 Zk 0 0)) (t:=47) (sz:=21) (m:=1) ng Z Z ZY Z f7 ?_))))))))
 intro ni iF iH
 replace iH:=Ku (y:=row ni 1 1 (q1 bM.L ([(bM.q 6 a.a.r 0 0 0 0 0 0 d.r 0 0 0 0 0 0 O (ai.q [] []) (O4 Z8 Z1 []) (O4 Zk 0 []) (O4 Zk 0 []))])) 47 21) Z iH
 have j3:=iH.pb [0]
 refine⟨.inr ⟨_,j3⟩, ?_⟩
 have ny:=j3.sepNil.free (bW 65 3)
 have nz:=ny.free (bW 83 2)
 have j4:=nz.pf [7,8,4,1]
 refine qd 8 Z (Kk (k:=X u.a.b.a) (m:=1) (qC) j4 Z Z (eO S7 (j4.rds (i:=21) Z) (cO bM.one ([(bM.q 6 a.a.r 0 0 0 0 0 0 d.r 0 0 0 0 0 0 O (ai.q [] []) (O4 Z8 Z1 []) (O4 Zk 0 []) (O4 Zk 0 []))]))) Z U (s:=X (u.a.b.a++ [(cz.q 6 a.a.r 0 0 0 0 0 0 d.r 0 0 0 0 0 0 O (ai.q [] []) (N []) (N []) (N []))])) f6 (u3).symm ?_)
 intro aS aT nA nC
 have nE:=(nC.pf [1,2,3,4,5]).sepAdd (L2:= [row Z8 0 Z1 (q1 aV.L []) 62 6,row Zk 0 0 (q1 aQ.L []) 65 3,row Zk 0 0 (q1 bF.L []) 83 2,sepL (q1 Kl [])]) (u3 (f:=Km) (xs:=Z0) (ys:= [(bM.q 6 a.a.r 0 0 0 0 0 0 d.r 0 0 0 0 0 0 O (ai.q [] []) (O4 Z8 Z1 []) (O4 Zk 0 []) (O4 Zk 0 []))])).symm
 have p8:X (u.a.b.a++ [(cz.q 6 a.a.r 0 0 0 0 0 0 d.r 0 0 0 0 0 0 O (ai.q [] []) (N []) (N []) (N []))])=X u.a.b.a+1:=by simp only [o3,q6,L0]
 have p9:=bf (iP (es:= [(bM.q 6 a.a.r 0 0 0 0 0 0 d.r 0 0 0 0 0 0 O (ai.q [] []) (O4 Z8 Z1 []) (O4 Zk 0 []) (O4 Zk 0 []))]) (ms:= [(cz.q 6 a.a.r 0 0 0 0 0 0 d.r 0 0 0 0 0 0 O (ai.q [] []) (N []) (N []) (N []))]) az Z)
 refine⟨.inl f1, (Kr (v:=vP Z4 0) 9 Z f1 (λ _=>yk) (Kr (v:=vP Z4 1) 10 Z f1 (λ _=>yk) (Kr (v:=vP Z4 1) 11 Z f1 (λ _=>yk) ?_)))⟩
 have nG:=nE.pf [4]
 refine qe 12 Z (Do.store (vs:= [T aS (X (u.a.b.a++ [(cz.q 6 a.a.r 0 0 0 0 0 0 d.r 0 0 0 0 0 0 O (ai.q [] []) (N []) (N []) (N []))])) aT]) (o:=1) nG Z Z Tryz.sizeOf50 Z Z Z Z ?_)
 intro _ nH
 refine⟨.inl f1, (qn (KD (res0 Z) (nt (JS (kL 16 [] (J6 Kg) (nH.px [] [3,17] []) ?_)))))⟩
 intro _ nJ
 refine qv 0 Z Z (qp Z4 0 1 Z (qp Z4 0 2 Z (ql 3 Z 0 S5 Z Z Z (qp aj 8 4 Z (ql 5 Z 3 E0 Z Z Z ?_)))))
 have iI:=nJ.pf [6]
 have qb:=zr 7 iI
 obtain⟨⟨b,bu⟩,aL⟩:=qq (eG a d.r)
 obtain⟨_,j5,_,j6,gI⟩:=Kt iI
 refine qd 6 Z (Ki Tryz.call76 Z (nU _ _ g a z B r E p F G Z6 L h l d.r b bu j5 P (gI _ 6 _ Z bB) U (λ x9 h9=>⟨gI _ 7 _ Z (bL (P6.2 ⟨x9,h9,b3⟩) bB),di (φ:=λ _=>_) iI (i:=8) Z (bL (P6.2 ⟨x9,h9,b3⟩) dD)⟩) f2 aL) ?_)
 rintro _ _ ⟨rfl,kg,gJ,gK⟩
 replace gJ:=gJ
 replace gK:=gK
 have ko:=(j6 _ _ kg).pf [1,2,3,4,5,6]
 refine⟨.inr ⟨_,ko⟩, (qv 7 Z Z (qk (vI b) 8 Z (qk (Y bu) 9 Z (qa 10 Z Z (qa 11 Z Z (qn (JY (JS (kL 16 [] (J6 Kg) ko ?_)))))))))⟩
 intro _ nL
 refine qv 0 Z Z (qp Z4 0 1 Z (qp Z4 0 2 Z (ql 3 Z 0 S5 Z Z Z (qp aj 8 4 Z (ql 5 Z 3 E0 Z Z Z ?_)))))
 have gy:=nL.pf [6]
 have qf:=zr 10 gy
 obtain⟨⟨dF,aU⟩,bS⟩:=qq (cK a d.r)
 obtain⟨_,kr,_,kv,dG⟩:=Kt gy
 refine qd 6 Z (Ki Tryz.call78 Z (jM _ _ g a z B r E F G Z6 L R h l d.r dF aU kr Z2 (dG _ 9 _ Z bB) U (λ x9 h9=>⟨dG _ 10 _ Z (bL (P6.2 ⟨x9,h9,b3⟩) bB),di (φ:=λ _=>_) gy (i:=11) Z (bL (P6.2 ⟨x9,h9,b3⟩) dD),dG _ 10 _ Z (bL (P6.2 ⟨x9,h9, .tail _ b3⟩) bB),di (φ:=λ _=>_) gy (i:=11) Z (bL (P6.2 ⟨x9,h9, .tail _ b3⟩) dD)⟩) f2 bS) ?_)
 rintro _ _ ⟨rfl,kw,gL,gM⟩
 replace gL:0<=dF/\dF<=(X a.b.a:Int):=gL
 replace gM:Zd aU=0\/dF < (X a.b.a:Int):=gM
 have aa:=(kv _ _ kw).pf [1,2,3,4,5,6]
 refine⟨.inr ⟨_,aa⟩, (qv 7 Z Z (qk (vI dF) 8 Z (qk (Y aU) 9 Z (qa 10 Z Z (qa 11 Z Z (qn (JY (JS (sr (Mz Z (Kz (Y (!bu)) (Mz Z ?_))))))))))))⟩
 rcases Nv (bu) with Q | Q
 have h101t:Zd bu=1:=by rw [Q]; rfl
 refine Sz (cn Q) (Sz (cn Q) (fw (Y O) (JU Z (cn Q) Z) (nt (jf (sk (JS (sr (Mn Z (jT Q (sr (Mz Z (Kz (vP Z4 0) (Kz (vP Z4 0) (Lz (vP g 0) aa 0 S5 (Kz (vP g 0) (Kz (vP g 0) (Kz (vP g 6) (Lz (T r (X a.a.g.a) E) aa 6 D4 (fw (vJ (W b)) (J4 (e:=b) (J3 Z) U) ?_)))))))))))))))))))
 obtain⟨K,aW⟩:=dM (ls:=p) (i:=W b) bA.len f7 (aa.rds (i:=7) Z) f5
 have dH:=ik P aW
 have nN:X K.a.a<=K.a.c/\X K.a.a<=9223372036854775807:=di aa (i:=8) Z (φ:=λ _=>_) (bL (P6.2 ⟨K,G4 aW,b3⟩) dD)
 have nO:X K.a.a<=24:=MF (hs:=a.a.g.a) f8 dH
 refine fw (Zz (Zv ⟨ab r,ao r+(W b) *2,Zk⟩)) (J9 (kY) Z Z ((aa.rds (i:=7) Z).addr (i:=W b) U) U) (Kz (Zz (Zv ⟨ab r,ao r+(W b) *2+1,Zk⟩)) (fw (T K.a.A (X K.a.a) K.a.c) (J5 Z (bO.one Q9 (((aa.rds (i:=7) Z).elem bA.len aW f7).at_ (k:=1) Z))) (An Z (JS (DJ [19] (J6 (J6 Kg)) (aa.pf [0,3,6,12,13]) ?_)))))
 intro _ kz
 refine qv 0 Z Z (qp Z4 0 1 Z (qp Z4 0 2 Z (ql 3 Z 0 S5 Z Z Z (qv 4 Z Z (qp Z4 0 5 Z (qp Z4 0 6 Z (ql 7 Z 0 S5 Z Z Z (qp g 0 8 Z (qp g 0 9 Z (qp g 6 10 Z (ql 11 Z 2 D4 Z Z Z (qv 12 Z Z (qv 13 Z Z (qt (v:=vI (b+1)) 14 Z (λ _ _=>J4 (e:=IntKind.i64.wrap (b+1)) yk i7) ?_))))))))))))))
 obtain⟨_,iL,_,iM,_⟩:=KE (kz.pf [9,10])
 refine qd 15 Z (Ki Tryz.call84 Z (AJ _ _ r (X a.a.g.a) E p a.a.g.a b (b+1) (W b) K iL U P U U U aW) ?_)
 rintro _ _ ⟨ax,ay,rfl,iN⟩
 have gN:=iM _ _ iN
 have nR:X (u2 (W b) p++r8 ((W b)+1) p)=X (u2 (W b) a.a.g.a++r8 ((W b)+1) a.a.g.a):=by exact bf (oP P)
 have nS:X (u2 (W b) a.a.g.a++r8 ((W b)+1) a.a.g.a)+1=X a.a.g.a:=by simp only [o3,o1,o2]; omega
 have nT:=zr 2 gN
 have gP:=gN.pf [3,4,5,6,7]
 refine⟨.inr ⟨_,gP⟩, (qp g 0 16 Z (qp g 0 17 Z (qp g 6 18 Z (qe 19 Z (Do.store (vs:= [T ax (X (u2 (W b) a.a.g.a++r8 ((W b)+1) a.a.g.a)) ay]) (o:=6) (gP.pf [2]) Z Z Tryz.sizeOf35 Z Z Z Z ?_)))))⟩
 intro _ dJ
 refine⟨.inl f1, (qn (JY (sr (Kz (vP aj 15) (Lz (Y d.H) dJ 2 Tryz.isAgg4 (nt ?_))))))⟩
 obtain⟨kE,bv⟩:=yG λ aM (aC:Nat) Z7 w'=>Own w D w' [blk g (kB a z (X a.a.b.a) B ax (X (u2 (W b) a.a.g.a++r8 ((W b)+1) a.a.g.a)) ay F (X a.a.j.a) G a.a.t h Z6 (X a.b.a) L l) 78,blk Z4 [vP g 0, T aS (X (u.a.b.a++ [(cz.q 6 a.a.r 0 0 0 0 0 0 d.r 0 0 0 0 0 0 O (ai.q [] []) (N []) (N []) (N []))])) aT, T aM (X Z7) aC, Y u.a.g, T au (X u.b.a) av] 92,blk aj (jP d bJ bK bN bP bQ bR) 47,blk h [T S (X j.a.a) I] 29,blk l [T M (X C.a.a) Z5] 111,row ax (X (u2 (W b) a.a.g.a++r8 ((W b)+1) a.a.g.a)) ay (q1 bA.L (u2 (W b) p++r8 ((W b)+1) p)) 80 2,sepL (q1 Ky (u2 (W b) p++r8 ((W b)+1) p)),row K.a.A (X K.a.a) K.a.c (q1 aV.L K.a.a) 62 6,sepL (q1 Km (Z0++ [(bM.q 6 a.a.r 0 0 0 0 0 0 d.r 0 0 0 0 0 0 O (ai.q [] []) (O4 Z8 Z1 []) (O4 Zk 0 []) (O4 Zk 0 []))])),row aS (X (u.a.b.a++ [(cz.q 6 a.a.r 0 0 0 0 0 0 d.r 0 0 0 0 0 0 O (ai.q [] []) (N []) (N []) (N []))])) aT (q1 bM.L (Z0++ [(bM.q 6 a.a.r 0 0 0 0 0 0 d.r 0 0 0 0 0 0 O (ai.q [] []) (O4 Z8 Z1 []) (O4 Zk 0 []) (O4 Zk 0 []))])) 47 21,jV au (X u.b.a) av (q1 dC.L u.b.a) 211 2,row F (X a.a.j.a) G (q1 (eN .u64) a.a.j.a) 33 1,row Z6 (X a.b.a) L (q1 aY.L R) 100 4,sepL (q1 Kq R),row M (X C.a.a) Z5 (q1 aH.L J) 159 6,sepL (q1 Kj J),row aM (X Z7) aC (q1 aV.L Z7) 62 6]/\X Z7<=200/\(if d.H=Zj then bnd (jW (bD.q (bY.q (N (u.a.b.a++ [(cz.q 6 a.a.r 0 0 0 0 0 0 d.r 0 0 0 0 0 0 O (ai.q [] []) (N []) (N []) (N []))])) (N u.a.a.a) u.a.g) (N u.b.a)) K.a.a (aB.q (bH.q a.a.r a.a.y a.a.u a.a.z a.a.k (N a.a.b.a) (N (u2 (W b) a.a.g.a++r8 ((W b)+1) a.a.g.a)) (N a.a.j.a) a.a.t a.a.B a.a.s a.a.a) (N a.b.a))) λ iO=>iO.a.a.a else u.a.a.a)=Z7
 refine K5 (λ i:(Option Addr) × Nat × (List aV)=> [(4,vI 0),(3,vP aj 0),(0,vP Z4 0)]) kE ?_ ?_
 rcases Nv (d.H) with aX | aX
 refine jT aX (JW (Mz Z (Mz Z ?_)))
 obtain⟨dK,dL⟩:∃ q,jW (bD.q (bY.q (N (u.a.b.a++ [(cz.q 6 a.a.r 0 0 0 0 0 0 d.r 0 0 0 0 0 0 O (ai.q [] []) (N []) (N []) (N []))])) (N u.a.a.a) u.a.g) (N u.b.a)) K.a.a (aB.q (bH.q a.a.r a.a.y a.a.u a.a.z a.a.k (N a.a.b.a) (N (u2 (W b) a.a.g.a++r8 ((W b)+1) a.a.g.a)) (N a.a.j.a) a.a.t a.a.B a.a.s a.a.a) (N a.b.a))=q:=⟨_,Z⟩
 obtain⟨_,iQ,_,iR,iT⟩:=KR (dJ.pf [1,10])
 refine cl Tryz.call85 (wZ _ _ Z4 (bD.q (bY.q (N (u.a.b.a++ [(cz.q 6 a.a.r 0 0 0 0 0 0 d.r 0 0 0 0 0 0 O (ai.q [] []) (N []) (N []) (N []))])) (N u.a.a.a) u.a.g) (N u.b.a)) aS aT ak ah au av K.a.A (X K.a.a) K.a.c K.a.a g (aB.q (bH.q a.a.r a.a.y a.a.u a.a.z a.a.k (N a.a.b.a) (N (u2 (W b) a.a.g.a++r8 ((W b)+1) a.a.g.a)) (N a.a.j.a) a.a.t a.a.B a.a.s a.a.a) (N a.b.a)) z B ax ay F G Z6 L h l dK iQ (iT _ 5 _ Z bB) Z U f2 dL) ?_
 rintro _ _ ⟨kG,kH,rfl,iV,dN⟩
 have gQ:=iR _ _ iV
 have nW:=zr 1 gQ
 replace dN:X dK.a.a.a<=X u.a.a.a+X K.a.a:=dN
 exact WL.nil (KM (kG,kH,dK.a.a.a) ⟨Z,Z,Z,ZV⟩ (bv.2 ⟨(gQ.px [2] [] [1]),U,V (ip aX) (ae dL)⟩))
 exact jF aX (Ko (KM (ak,ah,u.a.a.a) ⟨Z,Z,Z,ZV⟩ (bv.2 ⟨(dJ.pb [10]),U,eD aX⟩)))
 rintro ⟨aM,aC,Z7⟩ _ iW
 show Wp _ _ _ [(4,vI 0),(3,vP aj 0),(0,vP Z4 0)] _ _
 obtain⟨kK,_,iX⟩:=bv.1 iW
 refine JS ?_
 have kN:=(kK.px [] [7] []).pb [0,5,6,10,11,12]
 refine kL 10 [] (J6 Kg) kN ?_
 intro _ kP
 refine qv 0 Z Z (qp Z4 0 1 Z (qp Z4 0 2 Z (ql 3 Z 0 S5 Z Z Z (qp aj 8 4 Z (ql 5 Z 1 E0 Z Z Z ?_)))))
 obtain⟨af,bz⟩:=qq (eP (aB.q (bH.q a.a.r a.a.y a.a.u a.a.z a.a.k (N a.a.b.a) (N (u2 (W b) a.a.g.a++r8 ((W b)+1) a.a.g.a)) (N a.a.j.a) a.a.t a.a.B a.a.s a.a.a) (N a.b.a)) d.r)
 obtain⟨_,iY,_,iZ,_⟩:=KR (kP.pf [10,14,15])
 refine qd 6 Z (Ki Tryz.call86 Z (nk _ _ g (aB.q (bH.q a.a.r a.a.y a.a.u a.a.z a.a.k (N a.a.b.a) (N (u2 (W b) a.a.g.a++r8 ((W b)+1) a.a.g.a)) (N a.a.j.a) a.a.t a.a.B a.a.s a.a.a) (N a.b.a)) z B ax ay F G Z6 L R h l d.r af iY Z2 f2 bz) ?_)
 rintro _ _ ⟨dO,dP,kR,rfl,ja,dQ⟩
 have gT:=iZ _ _ ja
 have og:=bf dQ
 have oh:=zr 1 gT
 have gU:=gT.pb [0,1,2,13,14,15]
 refine⟨.inr ⟨_,gU⟩, (qn (JY (JS (kL 10 [] (J6 Kg) gU ?_))))⟩
 intro _ kS
 refine qv 0 Z Z (qp Z4 0 1 Z (qp Z4 0 2 Z (ql 3 Z 0 S5 Z Z Z (qp aj 8 4 Z (ql 5 Z 1 E0 Z Z Z ?_)))))
 obtain⟨aD,dR⟩:=qq (iG (aB.q (bH.q a.a.r a.a.y a.a.u a.a.z a.a.k (N a.a.b.a) (N (u2 (W b) a.a.g.a++r8 ((W b)+1) a.a.g.a)) (N a.a.j.a) a.a.t a.a.B a.a.s a.a.a) (N af.b.a)) d.r)
 obtain⟨_,jb,_,jc,_⟩:=KE (kS.pf [10,15])
 refine qd 6 Z (Ki Tryz.call87 Z (ry _ _ g (aB.q (bH.q a.a.r a.a.y a.a.u a.a.z a.a.k (N a.a.b.a) (N (u2 (W b) a.a.g.a++r8 ((W b)+1) a.a.g.a)) (N a.a.j.a) a.a.t a.a.B a.a.s a.a.a) (N af.b.a)) z B ax ay F G dO dP h l d.r aD jb f2 dR) ?_)
 rintro _ _ ⟨dS,dU,rfl,jd,dV⟩
 have gV:=jc _ _ jd
 have oo:=zr 1 gV
 replace dV:=dV
 have dW:=gV.pb [0,1,12,13,14,15]
 refine⟨.inr ⟨_,dW⟩, (qn (JY (sr (Mz Z (Kz (vP aj 8) (Lz (vU d.r) dW 1 E0 ?_))))))⟩
 obtain⟨⟨aF,aN⟩,bC⟩:=qq (fP (bD.q (bY.q (N (u.a.b.a++ [(cz.q 6 a.a.r 0 0 0 0 0 0 d.r 0 0 0 0 0 0 O (ai.q [] []) (N []) (N []) (N []))])) (N Z7) u.a.g) (N u.b.a)) d.r (aB.q (bH.q a.a.r a.a.y a.a.u a.a.z a.a.k (N a.a.b.a) (N (u2 (W b) a.a.g.a++r8 ((W b)+1) a.a.g.a)) (N aD.a.j.a) a.a.t a.a.B a.a.s a.a.a) (N af.b.a)) C)
 obtain⟨_,je,_,jg,_⟩:=KS (dW.pf [0,6,10,3,7,8])
 refine cl Tryz.call88 (pE _ _ Z4 (bD.q (bY.q (N (u.a.b.a++ [(cz.q 6 a.a.r 0 0 0 0 0 0 d.r 0 0 0 0 0 0 O (ai.q [] []) (N []) (N []) (N []))])) (N Z7) u.a.g) (N u.b.a)) aS aT aM aC au av d.r g (aB.q (bH.q a.a.r a.a.y a.a.u a.a.z a.a.k (N a.a.b.a) (N (u2 (W b) a.a.g.a++r8 ((W b)+1) a.a.g.a)) (N aD.a.j.a) a.a.t a.a.B a.a.s a.a.a) (N af.b.a)) z B ax ay dS dU dO dP h l C M Z5 J aF aN je Z3 f2 (by first | assumption | exact Tk.snd f8) bC) ?_
 rintro _ _ ⟨kV,kW,kX,kZ,lc,rfl,jh,dX,dY⟩
 have dZ:=jg _ _ jh
 have ow:=bf dX
 have oC:=dZ.rowCQ (i:=1) Z
 have oD:=zr 4 dZ
 replace dY:=dY
 obtain⟨d9,ed,ek,eB⟩:=zT (m:=a) (m1:=(aB.q (bH.q a.a.r a.a.y a.a.u a.a.z a.a.k (N a.a.b.a) (N (u2 (W b) a.a.g.a++r8 ((W b)+1) a.a.g.a)) (N a.a.j.a) a.a.t a.a.B a.a.s a.a.a) (N a.b.a))) (hs':=(u2 (W b) a.a.g.a++r8 ((W b)+1) a.a.g.a)) f8 f8 aL (.inl ⟨Q,Z⟩) Z bz j0 bC
 replace d9:=d9
 replace ed:=ed
 replace ek:=ek
 replace eB:=eB
 have oF:ku aF.b.a af.b.a aN.a.a<=306:=Nat.le_trans (CF f8 _) U
 refine nt (JS (JW (Mz Z ?_)))
 have gW:=(dZ.px [] [6] []).pf [0,8,7,1,2,13,14,11,12,6]
 have oG:=zr 13 gW
 obtain⟨⟨gX,eF,eH,gY⟩,eT⟩:=qq (eu (bD.q (bY.q (N (u.a.b.a++ [(cz.q 6 a.a.r 0 0 0 0 0 0 d.r 0 0 0 0 0 0 O (ai.q [] []) (N []) (N []) (N []))])) (N Z7) u.a.g) (N aF.b.a)) (aB.q (bH.q a.a.r a.a.y a.a.u a.a.z a.a.k (N a.a.b.a) (N (u2 (W b) a.a.g.a++r8 ((W b)+1) a.a.g.a)) (N aD.a.j.a) a.a.t a.a.B a.a.s a.a.a) (N af.b.a)) j aN)
 obtain⟨_,ji,jk,jl,jm⟩:=K4 gW
 refine cl X3 (oz _ _ Z4 (bD.q (bY.q (N (u.a.b.a++ [(cz.q 6 a.a.r 0 0 0 0 0 0 d.r 0 0 0 0 0 0 O (ai.q [] []) (N []) (N []) (N []))])) (N Z7) u.a.g) (N aF.b.a)) aS aT (Z0++ [(bM.q 6 a.a.r 0 0 0 0 0 0 d.r 0 0 0 0 0 0 O (ai.q [] []) (O4 Z8 Z1 []) (O4 Zk 0 []) (O4 Zk 0 []))]) aM aC kV kW g (aB.q (bH.q a.a.r a.a.y a.a.u a.a.z a.a.k (N a.a.b.a) (N (u2 (W b) a.a.g.a++r8 ((W b)+1) a.a.g.a)) (N aD.a.j.a) a.a.t a.a.B a.a.s a.a.a) (N af.b.a)) z B ax ay (u2 (W b) p++r8 ((W b)+1) p) dS dU dO dP kR h j S I l aN kX kZ lc gX eF eH gY ji (iP (es:= [(bM.q 6 a.a.r 0 0 0 0 0 0 d.r 0 0 0 0 0 0 O (ai.q [] []) (O4 Z8 Z1 []) (O4 Zk 0 []) (O4 Zk 0 []))]) (ms:= [(cz.q 6 a.a.r 0 0 0 0 0 0 d.r 0 0 0 0 0 0 O (ai.q [] []) (N []) (N []) (N []))]) az Z) (jm _ 0 _ Z bB) U (oP P) dQ (jk _ aA) U dX f8 f8 f8 (by first | omega | exact Tk.n f8) (by first | omega | exact Tk.rows f8) f2 eT) ?_
 rintro _ _ ⟨lh,ll,lm,lq,lu,lv,lw,lC,lD,lF,lG,lH,lI,lJ,rfl,jo,eU,eX,eY,eZ⟩
 have aO:=jl _ _ jo
 have oH:=bf eU
 have oI:=bf eX
 have oJ:=bf eY
 have oK:=bf eZ
 have oL:=zr 1 aO
 have oM:=aO.rowCQ (i:=3) Z
 have oN:=zr 5 aO
 have oO:=zr 7 aO
 have oQ:=zr 11 aO
 refine An Z (rt (rs ?_))
 obtain⟨rfl,rfl,rfl,rfl⟩:=eQ (zj hr (show _=(gX,bD.q (bY.q (N eF.a.b.a) (N Z7) u.a.g) (N eF.b.a),aB.q (bH.q a.a.r a.a.y a.a.u a.a.z a.a.k (N a.a.b.a) (N eH.a.g.a) (N aD.a.j.a) a.a.t a.a.B a.a.s a.a.a) (N eH.b.a),gY) from V (ae aL) (V (ae bS) (V (ip Q) (V (ae (bG dH)) (V (ae iX) (V (ae bz) (V (ae dR) (V (ae bC) (ae eT))))))))))
 exact⟨lh,ll,lm,aM,aC,lq,lu,lv,lw,lC,dS,dU,lD,lF,lG,lH,lI,lJ,Z,(aO.pf [0,1,2,13,3,4,5,6,14]),eU,eX,eY,eZ⟩
 have h101t:Zd bu=0:=by rw [Q]; rfl
 refine gw (Y aU) (cn Q) (J3 Z) (Gz (Y (!aU)) (cn Q) (fw (Y (!aU)) (JX Z (cn Q) Z) (nt ?_)))
 rcases Nv (aU) with aI | aI
 have h293t:Zd aU=1:=by rw [aI]; rfl
 refine jF (cn aI) (sk (JS (sr (Mn Z (jF Q (sk (JS (kL 10 [] (J6 Kg) (aa.pb [6,7,8,9,10,11]) ?_))))))))
 intro _ lM
 refine qv 0 Z Z (qp Z4 0 1 Z (qp Z4 0 2 Z (ql 3 Z 0 S5 Z Z Z (qp aj 8 4 Z (ql 5 Z 3 E0 Z Z Z ?_)))))
 obtain⟨ag,bE⟩:=qq (eP a d.r)
 obtain⟨_,jq,_,jr,_⟩:=KR (lM.pf [10,14,15])
 refine qd 6 Z (Ki Tryz.call86 Z (nk _ _ g a z B r E F G Z6 L R h l d.r ag jq Z2 f2 bE) ?_)
 rintro _ _ ⟨fe,fo,lQ,rfl,jv,fq⟩
 have gZ:=jr _ _ jv
 have oW:=bf fq
 have oZ:=zr 1 gZ
 have ib:=gZ.pb [0,1,2,13,14,15]
 refine⟨.inr ⟨_,ib⟩, (qn (JY (JS (kL 10 [] (J6 Kg) ib ?_))))⟩
 intro _ lS
 refine qv 0 Z Z (qp Z4 0 1 Z (qp Z4 0 2 Z (ql 3 Z 0 S5 Z Z Z (qp aj 8 4 Z (ql 5 Z 3 E0 Z Z Z ?_)))))
 obtain⟨aJ,fu⟩:=qq (iG (aB.q a.a (N ag.b.a)) d.r)
 obtain⟨_,jw,_,jy,_⟩:=KE (lS.pf [10,15])
 refine qd 6 Z (Ki Tryz.call87 Z (ry _ _ g (aB.q a.a (N ag.b.a)) z B r E F G fe fo h l d.r aJ jw f2 fu) ?_)
 rintro _ _ ⟨fA,fB,rfl,jA,fC⟩
 have ic:=jy _ _ jA
 have o7:=zr 1 ic
 replace fC:=fC
 have fD:=ic.pb [0,1,12,13,14,15]
 refine⟨.inr ⟨_,fD⟩, (qn (JY (sr (Mz Z (Kz (vP aj 8) (Lz (vU d.r) fD 3 E0 ?_))))))⟩
 obtain⟨⟨aK,aP⟩,bI⟩:=qq (fP (bD.q (bY.q (N (u.a.b.a++ [(cz.q 6 a.a.r 0 0 0 0 0 0 d.r 0 0 0 0 0 0 O (ai.q [] []) (N []) (N []) (N []))])) (N u.a.a.a) u.a.g) (N u.b.a)) d.r (aB.q (bH.q a.a.r a.a.y a.a.u a.a.z a.a.k (N a.a.b.a) (N a.a.g.a) (N aJ.a.j.a) a.a.t a.a.B a.a.s a.a.a) (N ag.b.a)) C)
 obtain⟨_,jB,_,jC,_⟩:=KS (fD.pf [0,5,10,7,8,9])
 refine cl Tryz.call88 (pE _ _ Z4 (bD.q (bY.q (N (u.a.b.a++ [(cz.q 6 a.a.r 0 0 0 0 0 0 d.r 0 0 0 0 0 0 O (ai.q [] []) (N []) (N []) (N []))])) (N u.a.a.a) u.a.g) (N u.b.a)) aS aT ak ah au av d.r g (aB.q (bH.q a.a.r a.a.y a.a.u a.a.z a.a.k (N a.a.b.a) (N a.a.g.a) (N aJ.a.j.a) a.a.t a.a.B a.a.s a.a.a) (N ag.b.a)) z B r E fA fB fe fo h l C M Z5 J aK aP jB Z3 f2 (by first | assumption | exact Tk.snd f8) bI) ?_
 rintro _ _ ⟨lV,lW,lX,lY,lZ,rfl,jD,fE,fF⟩
 have fG:=jC _ _ jD
 have pg:=bf fE
 have pq:=fG.rowCQ (i:=1) Z
 have pu:=zr 4 fG
 replace fF:=fF
 obtain⟨fH,fI,fK,fM⟩:=zT (m:=a) (m1:=a) (hs':=a.a.g.a) f8 f8 aL (by first | exact .inl ⟨Q,Z⟩ | exact .inr ⟨Q,Z⟩) Z bE j0 bI
 replace fH:=fH
 replace fI:=fI
 replace fK:=fK
 replace fM:=fM
 have pz:ku aK.b.a ag.b.a aP.a.a<=306:=Nat.le_trans (CF f8 _) U
 refine nt (JS (JW (Mz Z ?_)))
 have ig:=(fG.px [] [8] []).pf [0,7,6,1,2,13,14,11,12,9]
 have pF:=zr 13 ig
 obtain⟨⟨il,fO,fQ,iq⟩,fU⟩:=qq (eu (bD.q (bY.q (N (u.a.b.a++ [(cz.q 6 a.a.r 0 0 0 0 0 0 d.r 0 0 0 0 0 0 O (ai.q [] []) (N []) (N []) (N []))])) (N u.a.a.a) u.a.g) (N aK.b.a)) (aB.q (bH.q a.a.r a.a.y a.a.u a.a.z a.a.k (N a.a.b.a) (N a.a.g.a) (N aJ.a.j.a) a.a.t a.a.B a.a.s a.a.a) (N ag.b.a)) j aP)
 obtain⟨_,jE,jG,jH,jI⟩:=K4 ig
 refine cl X3 (oz _ _ Z4 (bD.q (bY.q (N (u.a.b.a++ [(cz.q 6 a.a.r 0 0 0 0 0 0 d.r 0 0 0 0 0 0 O (ai.q [] []) (N []) (N []) (N []))])) (N u.a.a.a) u.a.g) (N aK.b.a)) aS aT (Z0++ [(bM.q 6 a.a.r 0 0 0 0 0 0 d.r 0 0 0 0 0 0 O (ai.q [] []) (O4 Z8 Z1 []) (O4 Zk 0 []) (O4 Zk 0 []))]) ak ah lV lW g (aB.q (bH.q a.a.r a.a.y a.a.u a.a.z a.a.k (N a.a.b.a) (N a.a.g.a) (N aJ.a.j.a) a.a.t a.a.B a.a.s a.a.a) (N ag.b.a)) z B r E p fA fB fe fo lQ h j S I l aP lX lY lZ il fO fQ iq jE (iP (es:= [(bM.q 6 a.a.r 0 0 0 0 0 0 d.r 0 0 0 0 0 0 O (ai.q [] []) (O4 Z8 Z1 []) (O4 Zk 0 []) (O4 Zk 0 []))]) (ms:= [(cz.q 6 a.a.r 0 0 0 0 0 0 d.r 0 0 0 0 0 0 O (ai.q [] []) (N []) (N []) (N []))]) az Z) (jI _ 0 _ Z bB) U P fq (jG _ aA) U fE f8 f8 f8 (by first | omega | exact Tk.n f8) (by first | omega | exact Tk.rows f8) f2 fU) ?_
 rintro _ _ ⟨l6,l7,l8,l9,ma,mf,mg,mh,mi,mo,mq,mr,mD,mE,rfl,jJ,fV,fZ,gm,gp⟩
 have aR:=jH _ _ jJ
 have pG:=bf fV
 have pI:=bf fZ
 have pJ:=bf gm
 have pK:=bf gp
 have pM:=zr 1 aR
 have pO:=aR.rowCQ (i:=3) Z
 have pQ:=zr 5 aR
 have pR:=zr 7 aR
 have pU:=zr 11 aR
 refine An Z (rt (rs ?_))
 obtain⟨rfl,rfl,rfl,rfl⟩:=eQ (zj hr (show _=(il,bD.q (bY.q (N fO.a.b.a) (N u.a.a.a) u.a.g) (N fO.b.a),aB.q (bH.q a.a.r a.a.y a.a.u a.a.z a.a.k (N a.a.b.a) (N fQ.a.g.a) (N aJ.a.j.a) a.a.t a.a.B a.a.s a.a.a) (N fQ.b.a),iq) from V (ae aL) (V (ae bS) (V (eD Q) (V (ip aI) (V (ae bE) (V (ae fu) (V (ae bI) (ae fU)))))))))
 exact⟨l6,l7,l8,ak,ah,l9,ma,mf,mg,mh,fA,fB,mi,mo,mq,mr,mD,mE,Z,(aR.pf [0,1,2,13,3,4,5,6,14]),fV,fZ,gm,gp⟩
 have h293t:Zd aU=0:=by rw [aI]; rfl
 refine jT (cn aI) (sr (An Z (rt (tR (rs ?_)))))
 obtain⟨rfl,rfl,rfl,rfl⟩:=eQ (zj hr (show _=(0,bD.q (bY.q (N (u.a.b.a++ [(cz.q 6 a.a.r 0 0 0 0 0 0 d.r 0 0 0 0 0 0 O (ai.q [] []) (N []) (N []) (N []))])) (N u.a.a.a) u.a.g) (N u.b.a),a,C) from V (ae aL) (V (ae bS) (V (eD Q) (eD aI))))).symm
 exact⟨aS,aT,(Z0++ [(bM.q 6 a.a.r 0 0 0 0 0 0 d.r 0 0 0 0 0 0 O (ai.q [] []) (O4 Z8 Z1 []) (O4 Zk 0 []) (O4 Zk 0 []))]),ak,ah,au,av,r,E,p,F,G,Z6,L,R,M,Z5,J,Z,(aa.px [0,2] [3] []),(iP (es:= [(bM.q 6 a.a.r 0 0 0 0 0 0 d.r 0 0 0 0 0 0 O (ai.q [] []) (O4 Z8 Z1 []) (O4 Zk 0 []) (O4 Zk 0 []))]) (ms:= [(cz.q 6 a.a.r 0 0 0 0 0 0 d.r 0 0 0 0 0 0 O (ai.q [] []) (N []) (N []) (N []))]) az Z),P,Z2,Z3⟩
end
section
open Go.RowKit
theorem CK {x:cz}:∀ {l:List Int},lp (kE x l) (λ _=>Zj)=Zj->∀ f ∈ l,o8 x f=Zj
  | [],_,f,hf=>by cases hf
  | y::l,h,f,hf=>by
    simp only [kE,bnd] at h
    by_cases e:o8 x y=Zj
    . rw [ZJ e] at h
      rcases List.mem_cons.1 hf with rfl | hf
      . exact e
      . exact CK h f hf
    . rw [ZK e] at h; cases h
theorem zU {x:cz} {r:Int} (h:fU x=r) (a:r=0) (hk:x.g=3):mO 3 x.a.a=Zj:=by
  subst a
  unfold fU qY at h
  simp only [bnd] at h
  rcases el:pI x.g with ⟨y,ok⟩
  rw [el] at h
  split at h
  case isFalse=>cases h
  split at h
  case isFalse=>cases h
  split at h
  case isFalse=>cases h
  split at h
  case isFalse=>cases h
  split at h
  case isFalse=>cases h
  rename_i hm
  have b:(7:Int) ∈ y.a.a:=by
    rw [hk] at el
    have:y=gK.q 0 1 (Ll.q ([4,5,6,7])):=(ZX Prod.fst el).symm
    rw [this]; decide
  have:=CK hm 7 b
  simp only [o8,bnd,Int.reduceEq, ↓reduceIte] at this
  rw [hk] at this
  exact this
theorem rV {x:cz} {r:Int} (h:fU x=r): ¬ (r=0)\/¬ (x.g=3)\/X x.a.a<=24:=by
  by_cases a:r=0
  . by_cases hk:x.g=3
    . have:=zU h a hk
      unfold mO at this
      rw [ZK f7,ZJ Z] at this
      refine .inr (.inr ?_)
      split at this
      . split at this
        . omega
        . cases this
      . cases this
    . exact .inr (.inl hk)
  . exact .inl a
section
variable {κ ν:Type} [DecidableEq κ] {P:Program} {n:Nat} {F:List (Nat × ZQ)} {w0 w:ZZ} {D:Nat->Prop} {L:List HP} {ty t kt e:TypeId} {ek:κ->ZQ} {vv:ν->ZQ} {m:List (κ × ν)} {g:Nat} {K:ZQ->ZZ->Prop} {x y q:Operand}
theorem K9 {k:κ} {v:ν} (H:Own w0 D w (nX g ek vv m::L)) (K':Ah P kt ek) (ht:P.underlying t=Zv (.map kt e)) (hx:ev F x=Zv (.map (Zv g))) (hy:ev F y=Zv (ek k)) (hq:ev F q=Zv (vv v))
    (h:∀ w',Own w0 D w' (nX g ek vv (fe m k v)::L)->K undef w'):Do P n F w (.insert t x y q) ty K:=λ a ha op b c next Q hnx=>by
  have d:execOp a.eval op=execOp a.eval { op with op:= .mapUpdate t x y q }:=by unfold execOp; rw [b]
  rw [d]
  exact Mg H K' ht hx hy hq h a ha { op with op:= .mapUpdate t x y q } Z c next Q hnx
end
def vF:Option Nat->ZQ
  | some f=> .func (.func f) #[] #[]
  | none=> Zx
theorem HV {k:Int} {a b c d e f:Option Nat} (h: ¬ k=12) (i: ¬ k=11) (j: ¬ k=10) (l: ¬ k=8) (o: ¬ k=5) (p: ¬ k=3):vC (fe (fe (fe (fe (fe (fe ([]:List (Int × Option Nat)) 3 a) 5 b) 8 c) 10 d) 11 e) 12 f) k=Zk:=by
  simp [fe,vC,Ne.symm p,Ne.symm o,Ne.symm l,Ne.symm j,Ne.symm i,Ne.symm h]
end
section
open Go.RowKit
theorem D6 {x:cz} {r:Int} (h:fU x=r) (a:r=0) {y:gK} {ok:Bool} (el:pI x.g=(y,ok)):∀ f ∈ y.a.a,o8 x f=Zj:=by
  subst a
  unfold fU qY at h
  simp only [bnd] at h
  rw [el] at h
  split at h
  case isFalse=>cases h
  split at h
  case isFalse=>cases h
  split at h
  case isFalse=>cases h
  split at h
  case isFalse=>cases h
  split at h
  case isFalse=>cases h
  rename_i hm
  exact CK hm
theorem Bi {x:cz} {r:Int} (h:fU x=r) (a:r=0) (hk:x.g=11):mO 11 x.a.a=Zj:=by
  have:=D6 h a (y:=gK.q 1 1 (Ll.q ([10,14,15,13,7]))) (ok:=Zj) (by rw [hk]; rfl) 7 f7
  simp only [o8,bnd,Int.reduceEq, ↓reduceIte] at this
  rw [hk] at this
  exact this
theorem AR {x:cz} {r:Int} (h:fU x=r) (a:r=0) (hk:x.g=8):lq x.b.a=0:=by
  have:=D6 h a (y:=gK.q 0 1 (Ll.q ([9,6,10,11]))) (ok:=Zj) (by rw [hk]; rfl) 11 f7
  simp only [o8,bnd,Int.reduceEq, ↓reduceIte] at this
  exact of_decide_eq_true this
theorem AU {l:List bF} (h:lq l=0):X l<=6:=by
  unfold lq at h
  by_cases c:((X l:Nat):Int) < 1
  . rw [ZJ c] at h; cases h
  rw [ZK c] at h
  by_cases a:((X l:Nat):Int) > 6
  . rw [ZJ a] at h; cases h
  omega
theorem rW {x:cz} {r:Int} (h:fU x=r): ¬ (r=0)\/¬ (x.g=11)\/X x.a.a<=6:=by
  by_cases a:r=0
  . by_cases hk:x.g=11
    . have:=Bi h a hk
      unfold mO at this
      rw [ZK f7,ZK f7] at this
      refine .inr (.inr ?_)
      split at this
      . omega
      . cases this
    . exact .inr (.inl hk)
  . exact .inl a
theorem tN {x:cz} {r:Int} (h:fU x=r): ¬ (r=0)\/¬ (x.g=8)\/X x.b.a<=6:=by
  by_cases a:r=0
  . by_cases hk:x.g=8
    . exact .inr (.inr (AU (AR h a hk)))
    . exact .inr (.inl hk)
  . exact .inl a
end
end Go.Proofs.YtnpdpklckacpnaaGreat
