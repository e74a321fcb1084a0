/- The layers told, part 3. Conditions: none beyond each law's own. -/
import Derived.Lib.Hide
import Derived.Shelf.Small.Bits
import Derived.Ground.NamesProg
import Derived.Shelf.SlGeneric
import Derived.Sort.LotA
import Derived.Sort.LotB
import Derived.Sort.LotC
import Derived.Sort.LotD3
import Derived.Sort.LotD5
import Derived.Sort.WalkA14
import Derived.Test.YtndamapfnpihpaaGreatJb
namespace Go.Proofs.YtndamapfnpihpaaGreat
set_option maxRecDepth 100000
set_option linter.unusedVariables false
set_option linter.unusedSimpArgs false
set_option linter.unusedSectionVars false
open Int renaming toNat->G0
open IntKind renaming i64->B5
open List renaming drop->s0,flatMap->q2,getD->y2,length->q7,length_append->o0,length_cons->r5,length_drop->m9,length_nil->K1,length_set->L7,length_take->m8,mem_of_mem_take->L5,set->L6,take->t6,toArray->v0
open Ll renaming mk->F2
open _root_.Go.Proofs.Tryz renaming call160->L0,isAgg70->L4,isAgg9->y4,prog->u9,sizeOf101->K2,sizeOf70->L3,underlying25->G3
section
open Go.RowKit
def lD (a:List UInt8) (b:List UInt8):Int:=
 Lib.compareBytes a b
theorem qi (w D a b d) (H:Own w D w []) (hr:lD a b=d):
    Calls u9 223 #[.string ⟨v0 a⟩, .string ⟨v0 b⟩] w (dI λ v w'=>v=vI d/\Own w D w' []):=by
 refine cb Tryz.func223 ?_
 refine sr (Ar rfl (Mz rfl (Mz rfl (fw (vI (Lib.compareBytes a b)) (Ko (run_callFunc_extern Tryz.func233 e9 e9 e9 (e:=Extern.BytealgCompare.compare) e9) rfl) (An rfl (rt (rs ?_)))))))
 have c:=H.pk []
 obtain rfl:_=Lib.compareBytes a b:=zj hr rfl
 exact⟨rfl,c⟩
def strings_Compare (b:List UInt8) (c:List UInt8):Int:=
 bnd (lD b c) λ a=>a
theorem wJ (w D f g j) (H:Own w D w []) (hr:strings_Compare f g=j):
    Calls u9 201 #[.string ⟨v0 f⟩, .string ⟨v0 g⟩] w (dI λ v w'=>v=vI j/\Own w D w' []):=by
 unfold strings_Compare at hr
 refine cb Tryz.func201 ?_
 refine sr (Ar rfl (Mz rfl (Mz rfl ?_)))
 obtain⟨b,a⟩:∃ q,lD f g=q:=⟨_,rfl⟩
 obtain⟨m,c,k,d,l⟩:=Ia H
 refine cl Tryz.call223 (qi _ _ f g b c a) ?_
 rintro _ n ⟨rfl,e⟩
 have h:=d _ _ e
 refine An rfl (rt (rs ?_))
 have i:=h.pk []
 obtain rfl:=zj hr zq1
 exact⟨rfl,i⟩
def ol (b:az) (c:List UInt8):Int:=
 bnd (strings_Compare b.aZ c) λ a=>a
theorem wK (w D) (b:az) (h l) (H:Own w D w []) (hr:ol b h=l):
    Calls u9 200 #[.agg (az.cells b).toArray, .string ⟨v0 h⟩] w (dI λ v w'=>v=vI l/\Own w D w' []):=by
 unfold ol at hr
 refine cb Tryz.func200 ?_
 refine sr ?_
 refine bW (az.cells b) 101 H ?_
 intro i o c
 refine Ar rfl (Kz (vP i 0) (Lz (.string ⟨v0 b.aZ⟩) c 0 y4 (Mz rfl ?_)))
 obtain⟨d,a⟩:∃ q,strings_Compare b.aZ h=q:=⟨_,rfl⟩
 obtain⟨p,e,m,f,n⟩:=Ia c
 refine cl Tryz.call201 (wJ _ _ b.aZ h d e a) ?_
 rintro _ r ⟨rfl,g⟩
 have j:=f _ _ g
 refine An rfl (rt (rs ?_))
 have k:=j.pk []
 obtain rfl:=zj hr zq1
 exact⟨rfl,k⟩
def dS (f:List az) (g:List UInt8):Nat->Nat->Nat->Nat
  | 0,a,b=>default
  | c+1,a,b=>if(a:Int) < (b:Int) then bnd (y2 f ((a+b) / 2) default) λ d=>bnd (ol d g) λ e=>if e < 0 then dS f g c (((a+b) / 2)+1) b else dS f g c a ((a+b) / 2) else a
def gW (a:List az) (d:List UInt8):Int × Bool:=
 bnd (dS a d ((a.length - 0)+1) 0 a.length) λ sLrL=>if(sLrL:Int) < (a.length:Int) then bnd (y2 a sLrL default) λ b=>bnd (ol b d) λ c=>((sLrL:Int),decide (c=0)) else((sLrL:Int),false)
theorem mo (w D r P O d k C Q) (H:Own w D w []) (h:Ro w D λ w'=>bO w' 2 r P (q2 az.cells d)) (R:P=d.length) (ak:d.length *32<=211106232532992) (hr:gW d k=(C,Q)):
    Calls u9 199 #[.slice r P O, .string ⟨v0 k⟩, .func (.func 200) #[] #[]] w (dI λ v w'=>v= .tuple #[vI C, .bool Q]/\Own w D w' []/\(0<=C/\C<=((d.length:Nat):Int))/\(Bool.toNat Q=0\/C < ((d.length:Nat):Int))):=by
 unfold gW at hr
 subst R
 refine cb Tryz.func199 ?_
 refine sr (Az rfl (Ar rfl (Mz rfl (Kz (vJ d.length) (Ar rfl (Mz rfl (Az rfl (An rfl (H7 (bo ?_))))))))))
 have S:=H.pk []
 obtain⟨T,g⟩:=yu λ (a:Nat) (b:Nat) (l:Nat) w'=>Own w D w' []/\a<=b/\b<=d.length/\b - a < l/\dS d k ((d.length - 0)+1) 0 d.length=dS d k l a b
 refine Wp.loop (λ i:Nat × Nat × Nat=> [(9,vJ i.1),(10,vJ i.2.1),(8,vJ d.length),(7, .bool false),(6,vI 0),(0, .slice r d.length O),(1, .string ⟨v0 k⟩),(2, .func (.func 200) #[] #[])]) T (λ i=>i.2.2) (0,d.length,(d.length - 0)+1) ⟨rfl,rfl,rfl,rfl,rfl,rfl,rfl,rfl,trivial⟩ (g.2 ⟨S,e8,e8,e8,rfl⟩) ?_
 rintro ⟨a,b,l⟩ au E
 show Wp _ _ _ [(9,vJ a),(10,vJ b),(8,vJ d.length),(7, .bool false),(6,vI 0),(0, .slice r d.length O),(1, .string ⟨v0 k⟩),(2, .func (.func 200) #[] #[])] _ _
 obtain⟨f,Z,aa,af,m⟩:=g.1 E
 obtain⟨j,F⟩:∃ q,l=q+1:=⟨l - 1,e8⟩
 subst F
 refine H7 (sr (Mz rfl (Mz rfl (Kz (.bool (decide ((a:Int) < (b:Int)))) (nt ?_)))))
 by_cases n:(a:Int) < (b:Int)
 refine jT (dT n) (sk (bo (sr (Mz rfl (Mz rfl (fw (vJ (a+b)) (Ig (e:=B5.wrap ((a:Int)+(b:Int))) yk f1) (fw (vU (a+b)) (Ig (e:=IntKind.u64.wrap ((a+b:Nat):Int)) yk (IntWalk.u64_in _ e8)) (fw (vU ((a+b) / 2)) (Ig (e:=Int.fdiv ((a+b:Nat):Int) 2) yk (uG _ 1 _ f5)) (fw (vJ ((a+b) / 2)) (Ig (e:=B5.wrap (((a+b) / 2:Nat):Int)) yk (Lj _ e8)) (Ar rfl (Mz rfl (Mz rfl (Mz rfl ?_)))))))))))))
 obtain⟨s,o⟩:=dG (ls:=d) (i:=(a+b) / 2) az.len f5 (f.ro h) f2
 refine fw (.pointer (some ⟨ab r,ao r+((a+b) / 2) *2,none⟩)) (Im (iP) rfl rfl ((f.ro h).addr (i:=(a+b) / 2) e8) e8) (fw (.agg (az.cells s).toArray) (Il rfl (Io (cs:=(az.cells s)) Tryz.isAgg101 K2 ((f.ro h).elem az.len o f5))) (Mz rfl ?_))
 obtain⟨B,p⟩:∃ q,ol s k=q:=⟨_,rfl⟩
 obtain⟨av,G,ag,I,ah⟩:=Ia f
 refine WL.do rfl (IM Tryz.call200 rfl rfl (wK _ _ s k B G p) ?_)
 rintro _ ax ⟨rfl,J⟩
 have K:=I _ _ J
 refine Kz (.bool (decide (B < 0))) (nt ?_)
 by_cases t:B < 0
 refine jT (dT t) (H8 (Mz rfl (fw (vI ((((a+b) / 2)+1:Nat):Int)) (Ig (e:=B5.wrap ((((a+b) / 2:Nat):Int)+1)) yk f1) (Az rfl (WL.nil (bN ?_))))))
 have U:=K.pk []
 exact Iq (((a+b) / 2)+1,b,j) ⟨rfl,rfl,rfl,rfl,rfl,rfl,rfl,rfl,trivial⟩ (g.2 ⟨U,e8,e8,e8,et (m) (et (ip n) (et (ae (bu o)) (et (ae p) (ip t))))⟩) (by show j < j+1; omega)
 refine jF (dF t) (H8 (Mz rfl (Az rfl (WL.nil (bN ?_)))))
 have V:=K.pk []
 exact Iq (a,(a+b) / 2,j) ⟨rfl,rfl,rfl,rfl,rfl,rfl,rfl,rfl,trivial⟩ (g.2 ⟨V,e8,e8,e8,et (m) (et (ip n) (et (ae (bu o)) (et (ae p) (iN t))))⟩) (by show j < j+1; omega)
 refine jF (dF n) (Wp.exit (Ip ?_))
 have y:dS d k ((d.length - 0)+1) 0 d.length=a:=et (m) (iN n)
 refine Ip (Iz (Ib (sr (Mz rfl (Mz rfl (Mz rfl (Kz (.bool (decide ((a:Int) < (d.length:Int)))) (Mz rfl ?_))))))))
 by_cases c:(a:Int) < (d.length:Int)
 refine gw (.func (.func 200) #[] #[]) (dT c) (Ie rfl) (gw (.slice r d.length O) (dT c) (Ie rfl) (gw (vJ a) (dT c) (Ie rfl) ?_))
 obtain⟨u,z⟩:=dG (ls:=d) (i:=a) az.len f5 (f.ro h) f2
 refine gw (.pointer (some ⟨ab r,ao r+a *2,none⟩)) (dT c) (Im (iP) rfl rfl ((f.ro h).addr (i:=a) e8) e8) (gw (.agg (az.cells u).toArray) (dT c) (Il rfl (Io (cs:=(az.cells u)) Tryz.isAgg101 K2 ((f.ro h).elem az.len z f5))) (gw (.string ⟨v0 k⟩) (dT c) (Ie rfl) ?_))
 obtain⟨x,A⟩:∃ q,ol u k=q:=⟨_,rfl⟩
 obtain⟨ay,L,ai,M,aj⟩:=Ia f
 refine I9 rfl rfl (dT c) rfl (IM Tryz.call200 rfl rfl (wK _ _ u k x L A) ?_)
 rintro _ aA ⟨rfl,N⟩
 have W:=M _ _ N
 refine Gz (.bool (decide (x=0))) (dT c) (fw (.bool (decide (x=0))) (Ic rfl (dT c) rfl) (Az rfl (An rfl (rt (Ir (kD rfl rfl rfl) ?_)))))
 have X:=W.pk []
 obtain⟨rfl,rfl⟩:=fB (zj hr zq4)
 exact⟨rfl,X,e8,i1⟩
 refine Sz (dF c) (Sz (dF c) (Sz (dF c) (Sz (dF c) (Sz (dF c) (Sz (dF c) (Sz (dF c) (Sz (dF c) (fw (.bool false) (H6 rfl (dF c) rfl) (Az rfl (An rfl (rt (Ir (kD rfl rfl rfl) ?_))))))))))))
 have Y:=f.pk []
 obtain⟨rfl,rfl⟩:=fB (zj hr zq2)
 exact⟨rfl,Y,e8,i1⟩
def il (b:List az) (c:List UInt8):Int × Bool:=
 bnd (gW b c) λ a=>(a.1,a.2)
theorem qX (w D m n u b l g o) (H:Own w D w []) (p:Ro w D λ w'=>bO w' 2 m n (q2 az.cells b)) (r:n=b.length) (y:b.length *32<=211106232532992) (hr:il b l=(g,o)):
    Calls u9 160 #[.slice m n u, .string ⟨v0 l⟩] w (dI λ v w'=>v= .tuple #[vI g, .bool o]/\Own w D w' []/\(0<=g/\g<=((b.length:Nat):Int))/\(Bool.toNat o=0\/g < ((b.length:Nat):Int))):=by
 unfold il at hr
 subst r
 refine cb Tryz.func160 ?_
 refine sr (Az rfl (Ar rfl (Mz rfl (Mz rfl ?_))))
 obtain⟨⟨a,c⟩,d⟩:∃ q:Int × Bool,gW b l=q:=⟨_,rfl⟩
 obtain⟨z,h,i,j,x⟩:=Ia H
 refine cl Tryz.call199 (mo _ _ m b.length u b l a c h (i _ p) rfl e8 d) ?_
 rintro _ A ⟨rfl,k,e,f⟩
 have s:=j _ _ k
 replace e:0<=a/\a<=(b.length:Int):=e
 replace f:Bool.toNat c=0\/a < (b.length:Int):=f
 refine Kz (vI a) (Kz (.bool c) (Az rfl (An rfl (rt (Ir (kD rfl rfl rfl) ?_)))))
 have t:=s.pk []
 obtain⟨rfl,rfl⟩:=fB (zj hr zq1)
 exact⟨rfl,t,e8,i1⟩
def tV (c:List az) (d:aX):(List az) × dh:=
 bnd (il c d.aZ) λ a=>if a.2=true then bnd (y2 c (G0 a.1) default) λ b=>(c,dh.mk true b.aO (F2 [])) else(c,dh.mk false [] (F2 []))
theorem Dr (w D g J j b) (u:aX) (y) (x:dh) (H:Own w D w [row g J j (q2 az.cells b) 101 2]) (K:J=b.length) (ag:b.length *32<=211106232532992) (ah:(b.length+1) *32<=211106232532992) (hr:tV b u=(y,x)):
    Calls u9 102 #[.slice g J j, .agg (aX.cells u).toArray] w (dI λ v w'=> ∃ Z b0 l n,v= .tuple #[.slice Z y.length b0, .agg #[.bool x.dP, .string ⟨v0 x.aO⟩, .slice l x.bz.ls.length n]]/\Own w D w' [row Z y.length b0 (q2 az.cells y) 101 2,row l x.bz.ls.length n (q2 az.cells x.bz.ls) 101 2]/\(y.length<=b.length+1)):=by
 unfold tV at hr
 subst K
 have ai:=H.rowC (i:=0) rfl
 refine cb Tryz.func102 ?_
 refine sr ?_
 refine bW (aX.cells u) 68 H ?_
 intro L aj M
 refine Az rfl ?_
 refine bW [.bool false, .string ⟨v0 []⟩, .slice none 0 0] 70 M ?_
 intro z ak A
 refine ns (Mz rfl (Kz (vP L 1) (Lz (.string ⟨v0 u.aZ⟩) A 1 y4 ?_)))
 obtain⟨⟨a,c⟩,h⟩:∃ q:Int × Bool,il b u.aZ=q:=⟨_,rfl⟩
 obtain⟨au,B,af,C,E⟩:=Ia A
 refine cl L0 (qX _ _ g b.length j b u.aZ a c B (E _ 2 _ rfl bP) rfl e8 h) ?_
 rintro _ av ⟨rfl,F,p,r⟩
 have N:=C _ _ F
 replace p:0<=a/\a<=(b.length:Int):=p
 replace r:Bool.toNat c=0\/a < (b.length:Int):=r
 refine Mz rfl (Kz (vI a) (Kz (.bool c) (Az rfl (An rfl (H7 (H7 ?_))))))
 have G:=N.pk [0,2]
 refine H8 (Mz rfl (Kz (.bool (!c)) (nt ?_)))
 rcases Lr (c) with d | d
 have h41t:Bool.toNat c=1:=by rw [d]; rfl
 refine jF (cn d) (sk (H7 ?_))
 have O:=G.pb [0]
 refine Cf [] (Ik Iw) O ?_
 intro ax P
 refine qv 0 rfl rfl (qv 1 rfl rfl (qt (v:=vJ (G0 a)) 2 rfl (λ _ _=>Ig (e:=a) (Ie rfl) e8) ?_))
 obtain⟨f,s⟩:=mY (ls:=b) (i:=G0 a) f2
 refine qt (v:= .pointer (some ⟨ab g,ao g+(G0 a) *2,none⟩)) 3 rfl (λ _ ⟨_,Q⟩=>Im (iP) rfl rfl ((Q.rds (i:=0) rfl).addr (i:=G0 a) e8) e8) (qk (.pointer (some ⟨ab g,ao g+(G0 a) *2+1,none⟩)) 4 rfl (qt (v:= .string ⟨v0 f.aO⟩) 5 rfl (λ _ ⟨_,Q⟩=>Il rfl (bQ.one y4 (((Q.rds (i:=0) rfl).elem az.len s f5).at_ (k:=1) rfl))) (qk (.agg #[.bool true, .string ⟨v0 f.aO⟩, .slice none 0 0]) 6 rfl (qa 7 rfl rfl ?_))))
 have R:=P.pb [0]
 refine qe 8 rfl (Do.store (vs:= [.bool true, .string ⟨v0 f.aO⟩, .slice none 0 0]) (o:=0) R rfl rfl L3 rfl rfl rfl rfl ?_)
 intro S T
 have t:=T.pb [0]
 refine⟨.inr ⟨_,t⟩, ?_⟩
 refine qn (Ib (rt (Ir (gq (vs:= [.slice g b.length j, .agg #[.bool true, .string ⟨v0 f.aO⟩, .slice none 0 0]]) rfl (bT.tmp rfl (bT.cell rfl (Io (cs:= [.bool true, .string ⟨v0 f.aO⟩, .slice none 0 0]) L4 L3 ((t.cls (i:=1) rfl).lit (k:=0) (m:=3) rfl)) bT.nil)) (Lh rfl)) ?_)))
 have U:Own w D S [row none 0 0 (q2 az.cells []) 101 2,row g b.length j (q2 az.cells b) 101 2,blk z [.bool true, .string ⟨v0 f.aO⟩, .slice none 0 0] 70]:=t.free (bZ 101 2)
 have V:=U.pk [1,0]
 obtain⟨rfl,rfl⟩:=fB (zj hr zq3)
 exact⟨g,j,none,0,rfl,V,e8⟩
 have h41t:Bool.toNat c=0:=by rw [d]; rfl
 refine jT (cn d) (sr (Mz rfl (Kz (.agg #[.bool false, .string ⟨v0 []⟩, .slice none 0 0]) (Az rfl ?_))))
 refine cu [.bool false, .string ⟨v0 []⟩, .slice none 0 0] 0 G L3 ?_
 intro W I
 refine nt (rt (tR (Ir (gq (vs:= [.slice g b.length j, .agg #[.bool false, .string ⟨v0 []⟩, .slice none 0 0]]) rfl (bT.tmp rfl (bT.cell rfl (Io (cs:= [.bool false, .string ⟨v0 []⟩, .slice none 0 0]) L4 L3 ((I.cls (i:=0) rfl).lit (k:=0) (m:=3) rfl)) bT.nil)) (Lh rfl)) ?_)))
 have X:Own w D W [row none 0 0 (q2 az.cells []) 101 2,blk z [.bool false, .string ⟨v0 []⟩, .slice none 0 0] 70,row g b.length j (q2 az.cells b) 101 2]:=I.free (bZ 101 2)
 have Y:=X.pk [2,0]
 obtain⟨rfl,rfl⟩:=fB (zj hr zq2)
 exact⟨g,j,none,0,rfl,Y,e8⟩
def iA (a:List az) (b:Int) (c:az):(List az):=
 if((G0 b:Nat):Int)=(a.length:Int) then(a++ [c]) else(t6 (G0 b) a++(c::s0 (G0 b) a))
theorem pW (w D f E d b a C) (c:az) (y) (H:Own w D w [row f E d (q2 az.cells b) 101 2,lN C 1 (q2 az.cells ([c])) 101 2]) (F:E=b.length) (ag:b.length *32<=211106232532992) (ah:0<=a/\a<=((b.length:Nat):Int)/\(b.length+1) *32<=211106232532992) (hr:iA b a c=y):
    Calls u9 162 #[.slice f E d,vI a, .slice C 1 1] w (dI λ v w'=> ∃ X Y,v= .slice X y.length Y/\Own w D w' [row X y.length Y (q2 az.cells y) 101 2]/\(y.length=b.length+1)):=by
 unfold iA at hr
 subst F
 have ai:=H.rowC (i:=0) rfl
 refine cb Tryz.func162 ?_
 refine sr (Ar rfl (Mz rfl (fw (vJ (G0 a)) (Ig (e:=a) (Ie rfl) e8) (fw (.slice (eO f (G0 a) 2 d) (b.length - (G0 a)) (d - (G0 a))) (II (iP) rfl rfl e8) (ns (Mz rfl (Kz (vI 1) (An rfl (H7 (sr (Mz rfl (Kz (.bool false) (nt (jf (sk (sr (Mz rfl (Kz (vJ b.length) (An rfl (H7 (sr (fw (vJ (G0 a)) (Ig (e:=a) (Ie rfl) e8) ?_))))))))))))))))))))))
 refine Mz rfl (Kz (.bool (decide (((G0 a:Nat):Int)=(b.length:Int)))) (nt ?_))
 by_cases h:((G0 a:Nat):Int)=(b.length:Int)
 refine jT (dT h) (sr (Mz rfl (Mz rfl ?_)))
 refine WL.do rfl (IC (k:=b.length) (m:=1) (iP) H rfl rfl (eY G3 (dC H (i:=1) rfl lh) (cZ az.one ([c]))) rfl e8 (s:=q7 (b++ [c])) f3 (List.flatMap_append).symm ?_)
 intro G I aj J
 have Z:q7 (b++ [c])=b.length+1:=by simp only [o0,r5,K1]
 refine An rfl (rt (tR (rs ?_)))
 have K:=J.pk [0]
 obtain rfl:=zj hr zq1
 exact⟨G,I,rfl,K,e8⟩
 refine jF (dF h) (sk (H7 (sr (Mz rfl (Mz rfl (fw (vJ (b.length+1)) (Ig (e:=B5.wrap ((b.length:Int)+1)) yk f1) (Mz rfl (Kz (vJ d) (Kz (.bool (decide (((b.length+1:Nat):Int) > (d:Int)))) (nt ?_))))))))))
 by_cases z:((b.length+1:Nat):Int) > (d:Int)
 refine jT (dT z) (sr (Mz rfl (fw (vJ (G0 a)) (Ig (e:=a) (Ie rfl) e8) (fw (.slice f (G0 a) d) (I4 (iP) rfl rfl e8) (Mz rfl (Mz rfl (fw (vJ (b.length+1)) (Ig (e:=B5.wrap ((b.length:Int)+1)) yk f1) (fw (vJ (G0 a)) (Ig (e:=a) (Ie rfl) e8) (fw (vJ ((b.length+1) - (G0 a))) (Ig (e:=B5.wrap (((b.length+1:Nat):Int) - ((G0 a:Nat):Int))) yk f1) ?_)))))))))
 have aa:q7 (t6 (G0 a) b++(c::s0 (G0 a) b))=b.length+1:=by simp only [o0,m8,r5,m9]; omega
 refine WL.do rfl (Jg (k:=G0 a) (m:=(b.length+1) - (G0 a)) (iP) Tryz.underlying3 H rfl rfl e8 e8 e8 rfl e8 (s:=q7 (t6 (G0 a) b++(c::s0 (G0 a) b))) e8 ?_)
 intro j g ae ak A n
 have L:=n.rowLe (i:=0) rfl
 refine Ar rfl (Mz rfl (fw (vJ (G0 a)) (Ig (e:=a) (Ie rfl) e8) (fw (.slice (eO j (G0 a) 2 g) ((q7 (t6 (G0 a) b++(c::s0 (G0 a) b))) - (G0 a)) (g - (G0 a))) (II (iP) rfl rfl e8) (Mz rfl ?_))))
 refine WL.do rfl (IY (lo:=G0 a) (k:=1) (iP) n rfl (λ _=>gu ((n.rds (i:=0) rfl).isSome e8) e8) e8 rfl (dC n (i:=2) rfl lh) e8 (λ u hu=>cZ az.one _ u (L5 hu)) rfl ?_)
 intro au M
 refine nt (H7 ?_)
 refine yw [8] (Ik (Ik Iw)) M ?_
 intro av o
 refine qv 0 rfl rfl (qt (v:=vJ (G0 a)) 1 rfl (λ _ _=>Ig (e:=a) (Ie rfl) e8) (qv 2 rfl rfl (qt (v:=vJ (G0 a+1)) 3 rfl (λ _ _=>Ig (e:=B5.wrap (((G0 a:Nat):Int)+1)) yk f1) (qt (v:= .slice (eO j (G0 a+1) 2 g) ((q7 (t6 (G0 a) b++(c::s0 (G0 a) b))) - (G0 a+1)) (g - (G0 a+1))) 4 rfl (λ _ _=>II (iP) rfl rfl e8) (qv 5 rfl rfl (qt (v:=vJ (G0 a)) 6 rfl (λ _ _=>Ig (e:=a) (Ie rfl) e8) (qt (v:= .slice (eO f (G0 a) 2 d) (b.length - (G0 a)) (d - (G0 a))) 7 rfl (λ _ _=>II (iP) rfl rfl e8) ?_)))))))
 refine qd 8 rfl (IY (lo:=G0 a+1) (k:=b.length - G0 a) (iP) o rfl (λ _=>gu ((o.rds (i:=0) rfl).isSome e8) e8) e8 rfl (I7 (lo:=G0 a) az.len (o.rds (i:=1) rfl) e8 e8 f5) e8 (λ u hu=>cZ az.one _ u (L5 hu)) rfl ?_)
 intro N O
 refine⟨.inl e9, ?_⟩
 refine qn (Ib (sr (Mz rfl (An rfl (rt (tR (rs ?_)))))))
 have P:Own w D N [row j (q7 (t6 (G0 a) b++(c::s0 (G0 a) b))) g (q2 az.cells (t6 (G0 a) b++(c::s0 (G0 a) b))) 101 2,row f b.length d (q2 az.cells b) 101 2,lN C 1 (q2 az.cells ([c])) 101 2]:=O.rowPart e8 (tF (l:=b) (k2:=b.length - G0 a) az.len e8 A rfl rfl e8)
 have Q:=P.pk [0]
 obtain rfl:=zj hr zq1
 exact⟨j,g,rfl,Q,e8⟩
 refine jF (dF z) (sk (sr ?_))
 have B:q7 (t6 (G0 a) b++(c::s0 (G0 a) b))=b.length+1:=by simp only [o0,m8,r5,m9]; omega
 obtain⟨af,p,R⟩:=H.rowFull
 refine Mz rfl (Mz rfl (Mz rfl (fw (vJ (b.length+1)) (Ig (e:=B5.wrap ((b.length:Int)+1)) yk f1) (fw (.slice f (q7 (t6 (G0 a) b++(c::s0 (G0 a) b))) d) (Yl.to (I4 (iP) rfl rfl e8) (congrArg (λ q=>Value.slice f q d) B.symm)) (An rfl (H7 (sr (Mz rfl (Mz rfl (fw (vJ (G0 a)) (Ig (e:=a) (Ie rfl) e8) (Mz rfl (fw (vJ (G0 a+1)) (Ig (e:=B5.wrap (((G0 a:Nat):Int)+1)) yk f1) (fw (.slice (eO f (G0 a+1) 2 d) ((q7 (t6 (G0 a) b++(c::s0 (G0 a) b))) - (G0 a+1)) (d - (G0 a+1))) (II (iP) rfl rfl e8) ?_)))))))))))))
 have r:=R.pb [0]
 refine fw (.bool false) (Ji (lo:=G0 a+1) (run_callFunc_extern Tryz.func202 e9 e9 e9 (e:=Extern.SlicesOverlaps.overlaps #[25,25] #[4]) e9) G3 K2 r f5 e8 rfl (gu ((r.rds (i:=1) rfl).isSome e8) e8)) (Kz (.bool true) (nt (jt (H7 ?_))))
 refine oO [8] (Ik (Ik Iw)) r ?_
 intro ax S
 refine qv 0 rfl rfl (qt (v:=vJ (G0 a)) 1 rfl (λ _ _=>Ig (e:=a) (Ie rfl) e8) (qv 2 rfl rfl (qt (v:=vJ (G0 a+1)) 3 rfl (λ _ _=>Ig (e:=B5.wrap (((G0 a:Nat):Int)+1)) yk f1) (qt (v:= .slice (eO f (G0 a+1) 2 d) ((q7 (t6 (G0 a) b++(c::s0 (G0 a) b))) - (G0 a+1)) (d - (G0 a+1))) 4 rfl (λ _ _=>II (iP) rfl rfl e8) (qv 5 rfl rfl (qt (v:=vJ (G0 a)) 6 rfl (λ _ _=>Ig (e:=a) (Ie rfl) e8) (qt (v:= .slice (eO f (G0 a) 2 d) ((q7 (t6 (G0 a) b++(c::s0 (G0 a) b))) - (G0 a)) (d - (G0 a))) 7 rfl (λ _ _=>II (iP) rfl rfl e8) ?_)))))))
 have t:=S.pb [0]
 refine qd 8 rfl (IY (lo:=G0 a+1) (k:=b.length - G0 a) (iP) t rfl (λ _=>gu ((t.rds (i:=0) rfl).isSome e8) e8) e8 rfl (bO.cut (lo:=G0 a) (hi:=q7 (t6 (G0 a) b++(c::s0 (G0 a) b))) (t.rds (i:=0) rfl) e8 e8 e8) e8 (λ u hu=>cZ az.one _ u (by rw [tH az.len e8 rfl e8] at hu; exact hu)) rfl ?_)
 intro ay x
 refine⟨.inl e9, ?_⟩
 refine qn (Ib (sr (Mz rfl (fw (vJ (G0 a)) (Ig (e:=a) (Ie rfl) e8) (fw (.slice (eO f (G0 a) 2 d) ((q7 (t6 (G0 a) b++(c::s0 (G0 a) b))) - (G0 a)) (d - (G0 a))) (II (iP) rfl rfl e8) (Mz rfl ?_))))))
 refine WL.do rfl (IY (lo:=G0 a) (k:=1) (iP) x rfl (λ _=>gu ((x.rds (i:=0) rfl).isSome e8) e8) e8 rfl (dC x (i:=1) rfl lh) e8 (λ u hu=>cZ az.one _ u (L5 hu)) rfl ?_)
 intro T U
 refine ns (Mz rfl (An rfl (rt (tR (rs ?_)))))
 have V:Own w D T [row f (q7 (t6 (G0 a) b++(c::s0 (G0 a) b))) d (q2 az.cells (t6 (G0 a) b++(c::s0 (G0 a) b))) 101 2,lN C 1 (q2 az.cells ([c])) 101 2]:=U.rowPart e8 (tJ (l:=b) (m:=(q7 (t6 (G0 a) b++(c::s0 (G0 a) b))) - G0 a) (k2:=b.length - G0 a) az.len e8 (by rw [p]; exact Nat.le_mul_of_pos_left 2 e8) rfl rfl e8 e8)
 have W:=V.pk [0]
 obtain rfl:=zj hr zq1
 exact⟨f,d,rfl,W,e8⟩
def uL (d:List az) (e:aX):(List az) × dh:=
 bnd (il d e.aZ) λ a=>bnd (if a.2=true then d else bnd (iA d a.1 (az.mk e.aZ [])) λ b=>b) λ sJrbJ=>bnd (y2 sJrbJ (G0 a.1) default) λ c=>((L6 sJrbJ (G0 a.1) (az.mk c.aZ e.aO)),dh.mk false [] (F2 []))
theorem Dt (w D M n0 N f) (d:aX) (O) (L:dh) (H:Own w D w [row M n0 N (q2 az.cells f) 101 2]) (aj:n0=f.length) (aT:f.length *32<=211106232532992) (aU:(f.length+1) *32<=211106232532992) (hr:uL f d=(O,L)):
    Calls u9 105 #[.slice M n0 N, .agg (aX.cells d).toArray] w (dI λ v w'=> ∃ B0 b0 z A,v= .tuple #[.slice B0 O.length b0, .agg #[.bool L.dP, .string ⟨v0 L.aO⟩, .slice z L.bz.ls.length A]]/\Own w D w' [row B0 O.length b0 (q2 az.cells O) 101 2,row z L.bz.ls.length A (q2 az.cells L.bz.ls) 101 2]/\(O.length<=f.length+1)):=by
 unfold uL at hr
 subst aj
 have aV:=H.rowC (i:=0) rfl
 refine cb Tryz.func105 ?_
 refine sr ?_
 refine bW (aX.cells d) 68 H ?_
 intro p aW ak
 refine Az rfl ?_
 refine bW [.bool false, .string ⟨v0 []⟩, .slice none 0 0] 70 ak ?_
 intro r aY P
 refine ns (Mz rfl (Kz (vP p 1) (Lz (.string ⟨v0 d.aZ⟩) P 1 y4 ?_)))
 obtain⟨⟨a,g⟩,B⟩:∃ q:Int × Bool,il f d.aZ=q:=⟨_,rfl⟩
 obtain⟨aZ,Q,aM,R,S⟩:=Ia P
 refine cl L0 (qX _ _ M f.length N f d.aZ a g Q (S _ 2 _ rfl bP) rfl e8 B) ?_
 rintro _ bf ⟨rfl,T,C,E⟩
 have I:=R _ _ T
 replace C:0<=a/\a<=(f.length:Int):=C
 replace E:Bool.toNat g=0\/a < (f.length:Int):=E
 refine Mz rfl (Kz (vI a) (Kz (.bool g) (Az rfl (An rfl (H7 (sr (Mz rfl (Kz (.bool (!g)) (nt ?_)))))))))
 obtain⟨au,s⟩:=yu λ c (h:Nat) b w'=>Own w D w' [blk r [.bool false, .string ⟨v0 []⟩, .slice none 0 0] 70,blk p (aX.cells d) 68,row c b.length h (q2 az.cells b) 101 2]/\b.length<=f.length+1/\f.length<=b.length/\a < (b.length:Int)/\(if g=true then f else bnd (iA f a (az.mk d.aZ [])) λ U=>U)=b
 refine Jl (λ i:(Option Addr) × Nat × (List az)=> [(0, .slice i.1 i.2.2.length i.2.1),(6,vI a),(5,vP r 0),(4, .slice none 0 0),(3,vP p 0)]) au ?_ ?_
 rcases Lr (g) with j | j
 have h45t:Bool.toNat g=1:=by rw [j]; rfl
 refine jF (cn j) (IG ?_)
 have av:=I.pf []
 exact I1 (M,N,f) ⟨rfl,rfl,rfl,rfl,rfl,trivial⟩ (s.2 ⟨av,e8,e8,e8,ip j⟩)
 have h45t:Bool.toNat g=0:=by rw [j]; rfl
 refine jT (cn j) (H8 (Mz rfl (Mz rfl (Kz (vP p 1) (Lz (.string ⟨v0 d.aZ⟩) I 1 y4 (Kz (.agg #[.string ⟨v0 d.aZ⟩, .string ⟨v0 []⟩]) ?_))))))
 refine WL.do rfl (Jn (cs:= [.string ⟨v0 d.aZ⟩, .string ⟨v0 []⟩]) (t:=101) (sz:=2) (m:=1) I rfl rfl (λ _=>by kernel_rfl) rfl ?_)
 intro V bg J
 replace J:=IL (y:=lN V 1 (q2 az.cells ([(az.mk d.aZ [])])) 101 2) rfl J
 have ax:=J.pf [3]
 obtain⟨K,F⟩:∃ q,iA f a (az.mk d.aZ [])=q:=⟨_,rfl⟩
 obtain⟨bi,W,aN,X,aO⟩:=IX ax
 refine cl Tryz.call162 (pW _ _ M f.length N f a V (az.mk d.aZ []) K W rfl e8 e8 F) ?_
 rintro _ bn ⟨ay,aA,rfl,Y,G⟩
 have Z:=X _ _ Y
 have aP:=Z.rowC (i:=0) rfl
 replace G:K.length=f.length+1:=G
 refine Az rfl (WL.nil ?_)
 have aB:=Z.pb [0]
 exact I1 (ay,aA,K) ⟨rfl,rfl,rfl,rfl,rfl,trivial⟩ (s.2 ⟨aB,e8,e8,e8,et (eF j) (ae F)⟩)
 rintro ⟨c,h,b⟩ bq aa
 show Wp _ _ _ [(0, .slice c b.length h),(6,vI a),(5,vP r 0),(4, .slice none 0 0),(3,vP p 0)] _ _
 obtain⟨x,aQ,aR,aS,af⟩:=s.1 aa
 refine sr (Mz rfl (fw (vJ (G0 a)) (Ig (e:=a) (Ie rfl) e8) (Kz (vP p 2) (Lz (.string ⟨v0 d.aO⟩) x 1 y4 ?_))))
 obtain⟨l,u⟩:=dG (ls:=b) (i:=G0 a) az.len f5 (x.rds (i:=2) rfl) f2
 refine fw (.pointer (some ⟨ab c,ao c+(G0 a) *2,none⟩)) (Im (iP) rfl rfl ((x.rds (i:=2) rfl).addr (i:=G0 a) e8) e8) (Kz (.pointer (some ⟨ab c,ao c+(G0 a) *2+1,none⟩)) ?_)
 have aC:=x.pf [2]
 refine I5 (Do.storeRow (vs:= [.string ⟨v0 d.aO⟩]) (o:=(G0 a) *2+1) (q:=ao c+(G0 a) *2+1) aC rfl e8 rfl Tryz.sizeOf9 rfl rfl (Lh rfl) (jA az.len u (Lh rfl)) (j6 (y:=(az.mk l.aZ d.aO)) az.len rfl (Lh rfl) u) ?_)
 intro bv aD
 refine nt (H7 ?_)
 have aF:=aD.pk [0,1]
 refine H8 (Mz rfl (Kz (.agg #[.bool false, .string ⟨v0 []⟩, .slice none 0 0]) (Az rfl ?_)))
 have aG:=aF.pb [0]
 refine cu [.bool false, .string ⟨v0 []⟩, .slice none 0 0] 0 aG L3 ?_
 intro ag ah
 refine nt (rt (Ir (gq (vs:= [.slice c b.length h, .agg #[.bool false, .string ⟨v0 []⟩, .slice none 0 0]]) rfl (bT.tmp rfl (bT.cell rfl (Io (cs:= [.bool false, .string ⟨v0 []⟩, .slice none 0 0]) L4 L3 ((ah.cls (i:=0) rfl).lit (k:=0) (m:=3) rfl)) bT.nil)) (Lh rfl)) ?_))
 have n:b.length=q7 (L6 b (G0 a) (az.mk l.aZ d.aO)):=by first | omega | (simp only [L7]; done) | (simp only [L7,o0,r5,K1,m8,m9,List.length_replicate]; omega)
 have aH:Own w D ag [blk r [.bool false, .string ⟨v0 []⟩, .slice none 0 0] 70,row c (q7 (L6 b (G0 a) (az.mk l.aZ d.aO))) h (q2 az.cells (L6 b (G0 a) (az.mk l.aZ d.aO))) 101 2]:=by rw [<- n]; exact ah
 have aI:Own w D ag [row none 0 0 (q2 az.cells []) 101 2,blk r [.bool false, .string ⟨v0 []⟩, .slice none 0 0] 70,row c (q7 (L6 b (G0 a) (az.mk l.aZ d.aO))) h (q2 az.cells (L6 b (G0 a) (az.mk l.aZ d.aO))) 101 2]:=aH.free (bZ 101 2)
 have aJ:=aI.pk [2,0]
 obtain⟨rfl,rfl⟩:=fB (zj hr (show _=((L6 b (G0 a) (az.mk l.aZ d.aO)),dh.mk false ([]) (F2 ([]))) from et (ae B) (et (ae af) (ae (bu u)))))
 exact⟨c,h,none,0,(by first | rfl | (rw [<- n]; done) | (rw [<- n]; rfl) | (rw [n]; first | done | rfl)),aJ,e8⟩
def gM (a:List az) (b:Int) (c:Int):(List az):=
 if b=c then a else(t6 (G0 b) a++s0 (G0 c) a)
theorem mq (w D f o d a c b j) (H:Own w D w [row f o d (q2 az.cells a) 101 2]) (p:o=a.length) (J:a.length *32<=211106232532992) (K:0<=c/\c<=b/\b<=((a.length:Nat):Int)) (hr:gM a c b=j):
    Calls u9 163 #[.slice f o d,vI c,vI b] w (dI λ v w'=> ∃ B C,v= .slice B j.length C/\Own w D w' [row B j.length C (q2 az.cells j) 101 2]/\(j.length<=a.length)):=by
 unfold gM at hr
 subst p
 have L:=H.rowC (i:=0) rfl
 refine cb Tryz.func163 ?_
 refine sr (Ar rfl (Mz rfl (fw (vJ (G0 c)) (Ig (e:=c) (Ie rfl) e8) (fw (vJ (G0 b)) (Ig (e:=b) (Ie rfl) e8) (Mz rfl (Kz (vJ a.length) (fw (.slice (eO f (G0 c) 2 a.length) ((G0 b) - (G0 c)) (a.length - (G0 c))) (JB (iP) rfl rfl rfl rfl e8 e8 e8) (nt (H7 (sr (Mz rfl (Mz rfl (Kz (.bool (decide (c=b))) (nt ?_))))))))))))))
 by_cases h:c=b
 refine jT (dT h) (sr (Mz rfl (An rfl (rt (tR (rs ?_))))))
 have q:=H.pf []
 obtain rfl:=zj hr zq1
 exact⟨f,d,rfl,q,e8⟩
 refine jF (dF h) (sk (sr (Mz rfl (Kz (vJ a.length) (An rfl (H7 ?_))))))
 have g:=H.drew
 refine Jm [6] (λ W=> ∃ L',Own w D W ([row f a.length d (q2 az.cells a) 101 2]++L')) e9 e9 (Ik Iw) ⟨_,g⟩ ?_
 revert g
 generalize World.drew w=r
 intro g
 refine qv 0 rfl rfl (qt (v:=vJ (G0 c)) 1 rfl (λ _ _=>Ig (e:=c) (Ie rfl) e8) (qt (v:= .slice f (G0 c) d) 2 rfl (λ _ _=>I4 (iP) rfl rfl e8) (qv 3 rfl rfl (qt (v:=vJ (G0 b)) 4 rfl (λ _ _=>Ig (e:=b) (Ie rfl) e8) (qt (v:= .slice (eO f (G0 b) 2 d) (a.length - (G0 b)) (d - (G0 b))) 5 rfl (λ _ _=>II (iP) rfl rfl e8) ?_)))))
 have E:q7 (t6 (G0 c) a++s0 (G0 b) a)=G0 c+(a.length - G0 b):=by simp only [o0,m8,m9]; omega
 have l:Src u9 2 25 (.slice (eO f (G0 b) 2 d) (a.length - (G0 b)) (d - (G0 b))) (a.length - G0 b) (q2 az.cells (s0 (G0 b) a)) r:=eY G3 (I7 (lo:=G0 b) az.len (g.rds (i:=0) rfl) e8 e8 f5) (cZ az.one (s0 (G0 b) a))
 obtain⟨F,t,u⟩:=g.rowFull
 refine qd 6 rfl (Jh (k:=G0 c) (m:=a.length - G0 b) (iP) u rfl rfl l e8 (s:=q7 (t6 (G0 c) a++s0 (G0 b) a)) e8 ?_)
 intro M n
 refine⟨.inl e9, ?_⟩
 refine IP (v:= .slice f (q7 (t6 (G0 c) a++s0 (G0 b) a)) d) 7 rfl e9 (λ _=>Jc rfl) (qn (Ib (sr (Mz rfl (Mz rfl (Kz (vI ((q7 (t6 (G0 c) a++s0 (G0 b) a):Nat):Int)) (Mz rfl (fw (.slice (eO f (q7 (t6 (G0 c) a++s0 (G0 b) a)) 2 d) (a.length - (q7 (t6 (G0 c) a++s0 (G0 b) a))) (d - (q7 (t6 (G0 c) a++s0 (G0 b) a)))) (Yl.cut (iP) rfl rfl rfl e8 e8) ?_))))))))
 refine I5 (Jv (z0:=(.agg #[.string ⟨v0 []⟩, .string ⟨v0 []⟩])) (lo:=q7 (t6 (G0 c) a++s0 (G0 b) a)) (nd:=(a.length - (q7 (t6 (G0 c) a++s0 (G0 b) a)))) e9 rfl (iP) n rfl (λ _=>gu ((n.rds (i:=0) rfl).isSome e8) e8) e8 ?_)
 intro x G I y
 refine ns (Mz rfl (An rfl (rt (rs ?_))))
 have z:Own w D x [row f (q7 (t6 (G0 c) a++s0 (G0 b) a)) d (q2 az.cells (t6 (G0 c) a++s0 (G0 b) a)) 101 2]:=y.rowPart e8 (rY az.len e8 e8 rfl)
 have A:=z.pf []
 obtain rfl:=zj hr zq1
 exact⟨f,d,rfl,A,e8⟩
def uM (c:List az) (d:aX):(List az) × dh:=
 bnd (il c d.aZ) λ a=>if a.2=true then bnd (gM c a.1 (a.1+1)) λ b=>(b,dh.mk false [] (F2 [])) else(c,dh.mk false [] (F2 []))
theorem Du (w D r P s b) (x:aX) (z) (y:dh) (H:Own w D w [row r P s (q2 az.cells b) 101 2]) (Q:P=b.length) (av:b.length *32<=211106232532992) (ax:(b.length+1) *32<=211106232532992) (hr:uM b x=(z,y)):
    Calls u9 106 #[.slice r P s, .agg (aX.cells x).toArray] w (dI λ v w'=> ∃ B0 b0 h j,v= .tuple #[.slice B0 z.length b0, .agg #[.bool y.dP, .string ⟨v0 y.aO⟩, .slice h y.bz.ls.length j]]/\Own w D w' [row B0 z.length b0 (q2 az.cells z) 101 2,row h y.bz.ls.length j (q2 az.cells y.bz.ls) 101 2]/\(z.length<=b.length+1)):=by
 unfold uM at hr
 subst Q
 have ay:=H.rowC (i:=0) rfl
 refine cb Tryz.func106 ?_
 refine sr ?_
 refine bW (aX.cells x) 68 H ?_
 intro R aA S
 refine Az rfl ?_
 refine bW [.bool false, .string ⟨v0 []⟩, .slice none 0 0] 70 S ?_
 intro A aB B
 refine nt (H7 (sr (Mz rfl (Kz (vP R 1) (Lz (.string ⟨v0 x.aZ⟩) B 1 y4 ?_)))))
 obtain⟨⟨a,d⟩,g⟩:∃ q:Int × Bool,il b x.aZ=q:=⟨_,rfl⟩
 obtain⟨aC,C,ai,E,F⟩:=Ia B
 refine cl L0 (qX _ _ r b.length s b x.aZ a d C (F _ 2 _ rfl bP) rfl e8 g) ?_
 rintro _ aD ⟨rfl,G,l,n⟩
 have T:=E _ _ G
 replace l:0<=a/\a<=(b.length:Int):=l
 replace n:Bool.toNat d=0\/a < (b.length:Int):=n
 refine Mz rfl (Kz (vI a) (Kz (.bool d) (Az rfl (An rfl (H7 ?_)))))
 have I:=T.pk [0,2]
 refine H8 (Mn rfl ?_)
 rcases Lr (d) with c | c
 have h41t:Bool.toNat d=1:=by rw [c]; rfl
 refine jT c (H8 (Mz rfl (Mz rfl (Mz rfl (fw (vI (a+1)) (Ig (e:=B5.wrap (a+1)) yk i5) ?_)))))
 have U:=I.pb [0]
 obtain⟨f,o⟩:∃ q,gM b a (a+1)=q:=⟨_,rfl⟩
 obtain⟨aF,J,aj,K,ak⟩:=IE U
 refine cl Tryz.call163 (mq _ _ r b.length s b a (a+1) f J rfl e8 e8 o) ?_
 rintro _ aG ⟨t,u,rfl,L,p⟩
 have M:=K _ _ L
 have au:=M.rowC (i:=0) rfl
 replace p:f.length<=b.length:=p
 refine Ar rfl (Mz rfl (Kz (.agg #[.bool false, .string ⟨v0 []⟩, .slice none 0 0]) (Az rfl ?_)))
 have V:=M.pb [0]
 refine cu [.bool false, .string ⟨v0 []⟩, .slice none 0 0] 0 V L3 ?_
 intro W N
 refine nt (rt (Ir (gq (vs:= [.slice t f.length u, .agg #[.bool false, .string ⟨v0 []⟩, .slice none 0 0]]) rfl (bT.tmp rfl (bT.cell rfl (Io (cs:= [.bool false, .string ⟨v0 []⟩, .slice none 0 0]) L4 L3 ((N.cls (i:=0) rfl).lit (k:=0) (m:=3) rfl)) bT.nil)) (Lh rfl)) ?_))
 have X:Own w D W [row none 0 0 (q2 az.cells []) 101 2,blk A [.bool false, .string ⟨v0 []⟩, .slice none 0 0] 70,row t f.length u (q2 az.cells f) 101 2]:=N.free (bZ 101 2)
 have Y:=X.pk [2,0]
 obtain⟨rfl,rfl⟩:=fB (zj hr zq3)
 exact⟨t,u,none,0,rfl,Y,e8⟩
 have h41t:Bool.toNat d=0:=by rw [c]; rfl
 refine jF c (sk (sr (Mz rfl (Kz (.agg #[.bool false, .string ⟨v0 []⟩, .slice none 0 0]) (Az rfl ?_)))))
 refine cu [.bool false, .string ⟨v0 []⟩, .slice none 0 0] 0 I L3 ?_
 intro Z O
 refine nt (rt (Ir (gq (vs:= [.slice r b.length s, .agg #[.bool false, .string ⟨v0 []⟩, .slice none 0 0]]) rfl (bT.tmp rfl (bT.cell rfl (Io (cs:= [.bool false, .string ⟨v0 []⟩, .slice none 0 0]) L4 L3 ((O.cls (i:=0) rfl).lit (k:=0) (m:=3) rfl)) bT.nil)) (Lh rfl)) ?_))
 have aa:Own w D Z [row none 0 0 (q2 az.cells []) 101 2,blk A [.bool false, .string ⟨v0 []⟩, .slice none 0 0] 70,row r b.length s (q2 az.cells b) 101 2]:=O.free (bZ 101 2)
 have af:=aa.pk [2,0]
 obtain⟨rfl,rfl⟩:=fB (zj hr zq2)
 exact⟨r,s,none,0,rfl,af,e8⟩
def jR (c:List az) (d:aj):Int × Int:=
 bnd (il c d.aN) λ a=>if d.aT=[] then(a.1,(c.length:Int)) else bnd (il c d.aT) λ b=>(a.1,b.1)
theorem wL (w D C G I a) (d:aj) (E F) (H:Own w D w []) (p:Ro w D λ w'=>bO w' 2 C G (q2 az.cells a)) (J:G=a.length) (P:a.length *32<=211106232532992) (hr:jR a d=(E,F)):
    Calls u9 164 #[.slice C G I, .agg (aj.cells d).toArray] w (dI λ v w'=>v= .tuple #[vI E,vI F]/\Own w D w' []/\(0<=E/\E<=((a.length:Nat):Int)/\0<=F/\F<=((a.length:Nat):Int))):=by
 unfold jR at hr
 subst J
 refine cb Tryz.func164 ?_
 refine sr ?_
 refine bW (aj.cells d) 37 H ?_
 intro m Q r
 refine Az rfl (Ar rfl (Mz rfl (Kz (vP m 0) (Lz (.string ⟨v0 d.aN⟩) r 0 y4 ?_))))
 obtain⟨⟨b,n⟩,e⟩:∃ q:Int × Bool,il a d.aN=q:=⟨_,rfl⟩
 obtain⟨R,s,t,u,N⟩:=Ia r
 refine cl L0 (qX _ _ C a.length I a d.aN b n s (t _ p) rfl e8 e) ?_
 rintro _ S ⟨rfl,x,h,i⟩
 have f:=u _ _ x
 replace h:0<=b/\b<=(a.length:Int):=h
 replace i:Bool.toNat n=0\/b < (a.length:Int):=i
 refine Mz rfl (Kz (vI b) (Kz (.bool n) (Az rfl (An rfl (H7 (sr (Kz (vP m 1) (Lz (.string ⟨v0 d.aT⟩) f 0 y4 (fw (.bool (decide (d.aT=[]))) (Jq rfl rfl) (nt ?_))))))))))
 by_cases g:d.aT=[]
 refine jT (dT g) (sr (Mz rfl (Mz rfl (Kz (vJ a.length) (Az rfl (An rfl (rt (tR (Ir (kD rfl rfl rfl) ?_)))))))))
 have K:=f.pk []
 obtain⟨rfl,rfl⟩:=fB (zj hr zq2)
 exact⟨rfl,K,e8⟩
 refine jF (dF g) (sk (sr (Mz rfl (Kz (vP m 1) (Lz (.string ⟨v0 d.aT⟩) f 0 y4 ?_)))))
 obtain⟨⟨c,o⟩,j⟩:∃ q:Int × Bool,il a d.aT=q:=⟨_,rfl⟩
 obtain⟨T,y,z,A,O⟩:=Ia f
 refine cl L0 (qX _ _ C a.length I a d.aT c o y (z _ p) rfl e8 j) ?_
 rintro _ U ⟨rfl,B,k,l⟩
 have L:=A _ _ B
 replace k:0<=c/\c<=(a.length:Int):=k
 replace l:Bool.toNat o=0\/c < (a.length:Int):=l
 refine Mz rfl (Kz (vI c) (Kz (.bool o) (Az rfl (Ar rfl (Mz rfl (Mz rfl (Az rfl (An rfl (rt (Ir (kD rfl rfl rfl) ?_))))))))))
 have M:=L.pk []
 obtain⟨rfl,rfl⟩:=fB (zj hr zq3)
 exact⟨rfl,M,e8⟩
def qY (a:List az):(List az):=
 a
theorem mK (w D e g x a f) (H:Own w D w []) (d:Ro w D λ w'=>bO w' 2 e g (q2 az.cells a)) (h:g=a.length) (y:a.length *32<=211106232532992) (hr:qY a=f):
    Calls u9 165 #[.slice e g x] w (dI λ v w'=> ∃ t u,v= .slice t f.length u/\Own w D w' [row t f.length u (q2 az.cells f) 101 2]):=by
 subst h
 refine cb Tryz.func165 ?_
 refine sr (An rfl (H7 (sr (Mz rfl (fw (.bool (Option.isNone e)) (Jj G3 rfl rfl) (nt ?_))))))
 rcases Lr (Option.isNone e) with b | b
 obtain rfl:a= []:=rH (enc:=az.cells) (H.ro d) b
 refine jT b (sr (An rfl (rt (tR (rs ?_)))))
 have i:Own w D w [row none 0 0 (q2 az.cells []) 101 2]:=H.free (bZ 101 2)
 have j:=i.pf []
 obtain rfl:_=[]:=zj hr rfl
 exact⟨none,0,rfl,j⟩
 refine jF b (sk (sr ?_))
 refine jN [] 101 2 0 H ?_
 intro l n c
 replace c:Own w D n [row l 0 0 (q2 az.cells []) 101 2]:=c
 refine Mz rfl ?_
 refine WL.do rfl (IC (k:=0) (m:=a.length) (iP) c rfl rfl (eY G3 (c.ro d) (cZ az.one a)) rfl e8 (s:=a.length) e8 rfl ?_)
 intro o p z q
 refine An rfl (rt (rs ?_))
 have r:=q.pf []
 obtain rfl:_=a:=zj hr rfl
 exact⟨o,p,rfl,r⟩
def sZ (c:List az) (d:aX):(List az) × dh:=
 bnd (fD d) λ b=>bnd (jR c b) λ a=>(c,dh.mk false [] (F2 (t6 ((G0 (min a.2 (a.1+d.bS))) - (G0 a.1)) (s0 (G0 a.1) c))))
theorem CG (w D r O l d) (c:aX) (u) (t:dh) (H:Own w D w [row r O l (q2 az.cells d) 101 2]) (P:O=d.length) (ak:d.length *32<=211106232532992) (au:(d.length+1) *32<=211106232532992) (Q:(jR d (fD c)).1<=(jR d (fD c)).2) (av:1<=c.bS/\c.bS<=4) (hr:sZ d c=(u,t)):
    Calls u9 110 #[.slice r O l, .agg (aX.cells c).toArray] w (dI λ v w'=> ∃ X Y n o,v= .tuple #[.slice X u.length Y, .agg #[.bool t.dP, .string ⟨v0 t.aO⟩, .slice n t.bz.ls.length o]]/\Own w D w' [row X u.length Y (q2 az.cells u) 101 2,row n t.bz.ls.length o (q2 az.cells t.bz.ls) 101 2]/\(u.length<=d.length+1)):=by
 unfold sZ at hr
 subst P
 have ax:=H.rowC (i:=0) rfl
 refine cb Tryz.func110 ?_
 refine sr ?_
 refine bW (aX.cells c) 68 H ?_
 intro R ay S
 refine Az rfl ?_
 refine bW [.bool false, .string ⟨v0 []⟩, .slice none 0 0] 70 S ?_
 intro aA aB x
 refine ns (Mz rfl (La (aX.cells c) x 1 Tryz.isAgg68 Tryz.sizeOf68 ?_))
 obtain⟨s,f⟩:∃ q,fD c=q:=⟨_,rfl⟩
 obtain⟨aC,y,Z,z,aa⟩:=Ia x
 refine cl Tryz.call109 (lC _ _ c s y f) ?_
 rintro _ aD ⟨rfl,A⟩
 have T:=z _ _ A
 obtain⟨⟨a,b⟩,g⟩:∃ q:Int × Int,jR d s=q:=⟨_,rfl⟩
 obtain⟨aF,B,af,C,E⟩:=Ia T
 refine cl Tryz.call164 (wL _ _ r d.length l d s a b B (E _ 2 _ rfl bP) rfl e8 g) ?_
 rintro _ aG ⟨rfl,F,p⟩
 have G:=C _ _ F
 replace p:0<=a/\a<=(d.length:Int)/\0<=b/\b<=(d.length:Int):=p
 have ag:a<=b:=by
    have q:=Q
    rw [f,g] at q
    exact q
 refine Mz rfl (Kz (vI a) (Kz (vI b) (Az rfl (Ar rfl (Mz rfl (Mz rfl (Kz (vP R 5) (Lz (vI c.bS) G 1 Tryz.isAgg3 (fw (vI (a+c.bS)) (Ig (e:=B5.wrap (a+c.bS)) yk i5) (fw (vI (min b (a+c.bS))) (Ig (e:=if a+c.bS < b then a+c.bS else b) yk e8) (An rfl (H7 ?_))))))))))))
 have U:=G.pk [0,2]
 refine H8 (Mz rfl (Mz rfl (fw (vJ (G0 a)) (Ig (e:=a) (Ie rfl) e8) (fw (vI ((G0 (min b (a+c.bS)):Nat):Int)) (Ig (e:=min b (a+c.bS)) (Ie rfl) e8) (fw (.slice (eO r (G0 a) 2 l) ((G0 (min b (a+c.bS))) - (G0 a)) (l - (G0 a))) (Yl.cut (iP) rfl rfl rfl e8 e8) ?_)))))
 have ah:(G0 (min b (a+c.bS))) - (G0 a)=q7 (t6 ((G0 (min b (a+c.bS))) - (G0 a)) (s0 (G0 a) d)):=g6
 obtain⟨aH,I,ai,J,K⟩:=Ia U
 refine cl Tryz.call165 (mK _ _ (eO r (G0 a) 2 l) ((G0 (min b (a+c.bS))) - (G0 a)) (l - (G0 a)) (t6 ((G0 (min b (a+c.bS))) - (G0 a)) (s0 (G0 a) d)) (t6 ((G0 (min b (a+c.bS))) - (G0 a)) (s0 (G0 a) d)) I (λ w9 h9=>bO.cutE (lo:=G0 a) (hi:=G0 (min b (a+c.bS))) az.len ((K _ 1 _ rfl bP) w9 h9) e8 e8 e8) g6 i6 rfl) ?_
 rintro _ aK ⟨h,j,rfl,L⟩
 have M:=J _ _ L
 have aj:=M.rowC (i:=0) rfl
 refine Kz (.agg #[.bool false, .string ⟨v0 []⟩, .slice h (q7 (t6 ((G0 (min b (a+c.bS))) - (G0 a)) (s0 (G0 a) d))) j]) (Az rfl ?_)
 have V:=M.pf [1]
 refine cu [.bool false, .string ⟨v0 []⟩, .slice h (q7 (t6 ((G0 (min b (a+c.bS))) - (G0 a)) (s0 (G0 a) d))) j] 0 V L3 ?_
 intro aL N
 refine nt (rt (Ir (gq (vs:= [.slice r d.length l, .agg #[.bool false, .string ⟨v0 []⟩, .slice h (q7 (t6 ((G0 (min b (a+c.bS))) - (G0 a)) (s0 (G0 a) d))) j]]) rfl (bT.tmp rfl (bT.cell rfl (Io (cs:= [.bool false, .string ⟨v0 []⟩, .slice h (q7 (t6 ((G0 (min b (a+c.bS))) - (G0 a)) (s0 (G0 a) d))) j]) L4 L3 ((N.cls (i:=0) rfl).lit (k:=0) (m:=3) rfl)) bT.nil)) (Lh rfl)) ?_))
 have W:=N.pk [2,1]
 obtain⟨rfl,rfl⟩:=fB (zj hr zq2)
 exact⟨r,l,h,j,rfl,W,e8⟩
def tq (d:List az) (e:aX):(List az) × dh:=
 bnd (fD e) λ b=>bnd (jR d b) λ a=>bnd (gM d a.1 a.2) λ c=>(c,dh.mk false [] (F2 []))
theorem CJ (w D M O N a) (g:aX) (u) (t:dh) (H:Own w D w [row M O N (q2 az.cells a) 101 2]) (P:O=a.length) (ay:a.length *32<=211106232532992) (aA:(a.length+1) *32<=211106232532992) (Q:(jR a (fD g)).1<=(jR a (fD g)).2) (hr:tq a g=(u,t)):
    Calls u9 113 #[.slice M O N, .agg (aX.cells g).toArray] w (dI λ v w'=> ∃ B0 b0 h j,v= .tuple #[.slice B0 u.length b0, .agg #[.bool t.dP, .string ⟨v0 t.aO⟩, .slice h t.bz.ls.length j]]/\Own w D w' [row B0 u.length b0 (q2 az.cells u) 101 2,row h t.bz.ls.length j (q2 az.cells t.bz.ls) 101 2]/\(u.length<=a.length+1)):=by
 unfold tq at hr
 subst P
 have aB:=H.rowC (i:=0) rfl
 refine cb Tryz.func113 ?_
 refine sr ?_
 refine bW (aX.cells g) 68 H ?_
 intro aC aD R
 refine Az rfl ?_
 refine bW [.bool false, .string ⟨v0 []⟩, .slice none 0 0] 70 R ?_
 intro S aF x
 refine ns (Mz rfl (La (aX.cells g) x 1 Tryz.isAgg68 Tryz.sizeOf68 ?_))
 obtain⟨p,e⟩:∃ q,fD g=q:=⟨_,rfl⟩
 obtain⟨aG,y,ah,z,ai⟩:=Ia x
 refine cl Tryz.call109 (lC _ _ g p y e) ?_
 rintro _ aH ⟨rfl,A⟩
 have T:=z _ _ A
 obtain⟨⟨b,c⟩,f⟩:∃ q:Int × Int,jR a p=q:=⟨_,rfl⟩
 obtain⟨aI,B,aj,C,E⟩:=Ia T
 refine cl Tryz.call164 (wL _ _ M a.length N a p b c B (E _ 2 _ rfl bP) rfl e8 f) ?_
 rintro _ aJ ⟨rfl,F,l⟩
 have U:=C _ _ F
 replace l:0<=b/\b<=(a.length:Int)/\0<=c/\c<=(a.length:Int):=l
 have ak:b<=c:=by
    have q:=Q
    rw [e,f] at q
    exact q
 refine Mz rfl (Kz (vI b) (Kz (vI c) (Az rfl (An rfl (H7 ?_)))))
 have V:=U.pk [0,2]
 refine H8 (Mz rfl (Mz rfl (Mz rfl ?_)))
 have W:=V.pb [0]
 obtain⟨d,n⟩:∃ q,gM a b c=q:=⟨_,rfl⟩
 obtain⟨aK,G,au,I,av⟩:=IE W
 refine cl Tryz.call163 (mq _ _ M a.length N a b c d G rfl e8 e8 n) ?_
 rintro _ aL ⟨r,s,rfl,J,o⟩
 have K:=I _ _ J
 have ax:=K.rowC (i:=0) rfl
 replace o:d.length<=a.length:=o
 refine Kz (.agg #[.bool false, .string ⟨v0 []⟩, .slice none 0 0]) (Az rfl ?_)
 have X:=K.pb [0]
 refine cu [.bool false, .string ⟨v0 []⟩, .slice none 0 0] 0 X L3 ?_
 intro Y L
 refine nt (rt (Ir (gq (vs:= [.slice r d.length s, .agg #[.bool false, .string ⟨v0 []⟩, .slice none 0 0]]) rfl (bT.tmp rfl (bT.cell rfl (Io (cs:= [.bool false, .string ⟨v0 []⟩, .slice none 0 0]) L4 L3 ((L.cls (i:=0) rfl).lit (k:=0) (m:=3) rfl)) bT.nil)) (Lh rfl)) ?_))
 have Z:Own w D Y [row none 0 0 (q2 az.cells []) 101 2,blk S [.bool false, .string ⟨v0 []⟩, .slice none 0 0] 70,row r d.length s (q2 az.cells d) 101 2]:=L.free (bZ 101 2)
 have aa:=Z.pk [2,0]
 obtain⟨rfl,rfl⟩:=fB (zj hr zq3)
 exact⟨r,s,none,0,rfl,aa,e8⟩
end
open List renaming flatMap_append->t7
open Sum renaming inl->y0,inr->y3
open _root_.Go.Proofs.Tryz renaming call26->L8,call97->L9,isAgg101->M0,isAgg3->B3,isAgg37->C6,sizeOf37->C5,sizeOf68->C2,underlying9->v2
open WL renaming nil->B6
open Wp renaming exit->B7,loop->y6
section
open Go.RowKit
def iW (a:List UInt8):Int:=
 if(a.length:Int) < 1 then 20 else if(a.length:Int) > 12 then 20 else 0
theorem l7 (w D b d) (H:Own w D w []) (hr:iW b=d):
    Calls u9 26 #[.string ⟨v0 b⟩] w (dI λ v w'=>v=vI d/\Own w D w' []/\(¬ (d=0)\/(1<=b.length/\b.length<=12))):=by
 unfold iW at hr
 refine cb Tryz.func26 ?_
 refine sr (An rfl (H7 (sr (Mz rfl (Kz (vJ b.length) (Kz (.bool (decide ((b.length:Int) < 1))) (Mz rfl ?_)))))))
 by_cases a:(b.length:Int) < 1
 refine Sz (dT a) (Sz (dT a) (Sz (dT a) (fw (.bool true) (Ic rfl (dT a) rfl) (nt (jt (sr (An rfl (rt (tR (rs ?_))))))))))
 have e:=H.pk []
 obtain rfl:=zj hr zq1
 exact⟨rfl,e,e8⟩
 refine gw (.string ⟨v0 b⟩) (dF a) (Ie rfl) (Gz (vJ b.length) (dF a) (Gz (.bool (decide ((b.length:Int) > 12))) (dF a) (fw (.bool (decide ((b.length:Int) > 12))) (H6 rfl (dF a) rfl) (nt ?_))))
 by_cases c:(b.length:Int) > 12
 refine jT (dT c) (sr (An rfl (rt (tR (rs ?_)))))
 have f:=H.pk []
 obtain rfl:=zj hr zq2
 exact⟨rfl,f,e8⟩
 refine jF (dF c) (sk (sr (An rfl (rt (rs ?_)))))
 have g:=H.pk []
 obtain rfl:=zj hr zq2
 exact⟨rfl,g,e8⟩
def kr (d:List UInt8):Nat->Nat->Nat
  | 0,a=>default
  | c+1,a=>if(a:Int) > 0 then bnd (y2 d (a - 1) default) λ b=>if(b.toNat:Int)=255 then kr d c (a - 1) else a else a
def pu (a:List UInt8):aj × Int:=
 bnd (iW a) λ b=>if b=0 then if(a.length:Int) < 12 then(aj.mk a (a++([0])),0) else bnd (bnd (kr a (12+1) 12) λ sLrbtfJjL=>sLrbtfJjL) λ sJrbtfJ=>if(sJrbtfJ:Int)=0 then(aj.mk a [],0) else bnd (y2 a (sJrbtfJ - 1) default) λ c=>(aj.mk a ((t6 (sJrbtfJ - 1) a)++([(c+(1:UInt8))])),0) else(aj.mk [] [],b)
theorem AP (w D a) (r0:aj) (r1) (H:Own w D w []) (hr:pu a=(r0,r1)):
    Calls u9 58 #[.string ⟨v0 a⟩] w (dI λ v w'=>v= .tuple #[.agg (aj.cells r0).toArray,vI r1]/\Own w D w' []):=by
 unfold pu at hr
 refine cb Tryz.func58 ?_
 refine sr ?_
 refine bW [.string ⟨v0 []⟩, .string ⟨v0 []⟩] 37 H ?_
 intro j aK X
 refine An rfl (H7 (sr (Mz rfl ?_)))
 obtain⟨h,g⟩:∃ q,iW a=q:=⟨_,rfl⟩
 obtain⟨aL,N,aD,O,aF⟩:=Ia X
 refine cl L8 (l7 _ _ a h N g) ?_
 rintro _ aM ⟨rfl,P,F⟩
 have J:=O _ _ P
 replace F: ¬ (h=0)\/(1<=a.length/\a.length<=12):=F
 refine Ar rfl (Mz rfl (fw (.bool (decide (¬ (h=0)))) (Iu (e:= !(decide (h=0))) yk decide_not.symm) (nt ?_)))
 by_cases n:h=0
 refine jF (dF (Lp n)) (sk (H7 (sr (Mz rfl (Kz (vJ a.length) (Kz (.bool (decide ((a.length:Int) < 12))) (nt ?_)))))))
 by_cases p:(a.length:Int) < 12
 refine jT (decide_eq_true p) (sr (Mz rfl (Mz rfl (fw (.string ⟨v0 (a++([0]))⟩) (Jw rfl rfl g5) (Kz (.agg #[.string ⟨v0 a⟩, .string ⟨v0 (a++([0]))⟩]) ?_)))))
 refine cu [.string ⟨v0 a⟩, .string ⟨v0 (a++([0]))⟩] 0 J C5 ?_
 intro aN Q
 refine An rfl (rt (tR (Ir (gq (vs:= [.agg #[.string ⟨v0 a⟩, .string ⟨v0 (a++([0]))⟩],vI 0]) rfl (bT.cell rfl (Io (cs:= [.string ⟨v0 a⟩, .string ⟨v0 (a++([0]))⟩]) C6 C5 ((Q.cls (i:=0) rfl).lit (k:=0) (m:=2) rfl)) (bT.tmp rfl bT.nil)) (Lh rfl)) ?_)))
 have Y:=Q.pk []
 obtain⟨rfl,rfl⟩:=fB (zj hr zq3)
 exact⟨rfl,Y⟩
 refine jF (dF p) (sk (sr (An rfl (H7 ?_))))
 obtain⟨Z,r⟩:=mI λ (b:Nat) w'=>Own w D w' [blk j [.string ⟨v0 []⟩, .string ⟨v0 []⟩] 37]/\b<=9223372036854775807/\b<=a.length/\(bnd (kr a (12+1) 12) λ sLrbtfJjL=>sLrbtfJjL)=b
 refine Jl (λ i:Nat=> [(5,vJ i),(3,vI 0),(2,vP j 0),(0, .string ⟨v0 a⟩)]) Z ?_ ?_
 refine bo ?_
 have aa:=J.pf []
 obtain⟨af,s⟩:=FT λ (c:Nat) (u:Nat) w'=>Own w D w' [blk j [.string ⟨v0 []⟩, .string ⟨v0 []⟩] 37]/\c<=a.length/\c < u/\kr a (12+1) 12=kr a u c
 refine y6 (λ i:Nat × Nat=> [(5,vJ i.1),(3,vI 0),(2,vP j 0),(0, .string ⟨v0 a⟩)]) af (λ i=>i.2) (12,12+1) ⟨rfl,rfl,rfl,rfl,trivial⟩ (s.2 ⟨aa,e8,e8,rfl⟩) ?_
 rintro ⟨c,u⟩ aO R
 show Wp _ _ _ [(5,vJ c),(3,vI 0),(2,vP j 0),(0, .string ⟨v0 a⟩)] _ _
 obtain⟨K,aG,aH,x⟩:=s.1 R
 obtain⟨L,S⟩:∃ q,u=q+1:=⟨u - 1,e8⟩
 subst S
 refine H7 (sr (Mz rfl (Kz (.bool (decide ((c:Int) > 0))) (Mz rfl ?_))))
 by_cases d:(c:Int) > 0
 refine gw (.string ⟨v0 a⟩) (dT d) (Ie rfl) (gw (vJ c) (dT d) (Ie rfl) (gw (vJ (c - 1)) (dT d) (Ig (e:=B5.wrap ((c:Int) - 1)) yk f1) ?_))
 obtain⟨B,z⟩:=mY (ls:=a) (i:=c - 1) e8
 refine gw (.int .u8 (B.toNat:Int)) (dT d) (Jr v2 rfl rfl z) (Gz (.bool (decide ((B.toNat:Int)=255))) (dT d) (fw (.bool (decide ((B.toNat:Int)=255))) (Ic rfl (dT d) rfl) (nt ?_)))
 by_cases C:(B.toNat:Int)=255
 refine jT (dT C) (sk (bo (H8 (Mz rfl (fw (vJ (c - 1)) (Ig (e:=B5.wrap ((c:Int) - 1)) yk f1) (Az rfl (B6 (bN ?_))))))))
 have ag:=K.pf []
 exact Iq (c - 1,L) ⟨rfl,rfl,rfl,rfl,trivial⟩ (s.2 ⟨ag,e8,e8,et (x) (et (ip d) (et (ae (bu z)) (ip C)))⟩) (by show L < L+1; omega)
 refine jF (dF C) (B7 (Ip (Ip (Iz ?_))))
 have ah:=K.pf []
 exact I1 c ⟨rfl,rfl,rfl,rfl,trivial⟩ (r.2 ⟨ah,e8,e8,ae (et (x) (et (ip d) (et (ae (bu z)) (iN C))))⟩)
 refine Sz (dF d) (Sz (dF d) (Sz (dF d) (Sz (dF d) (Sz (dF d) (fw (.bool false) (H6 rfl (dF d) rfl) (nt (jf (B7 (Ip (Ip (Iz ?_)))))))))))
 have ai:=K.pf []
 exact I1 c ⟨rfl,rfl,rfl,rfl,trivial⟩ (r.2 ⟨ai,e8,e8,ae (et (x) (iN d))⟩)
 rintro b aP T
 show Wp _ _ _ [(5,vJ b),(3,vI 0),(2,vP j 0),(0, .string ⟨v0 a⟩)] _ _
 obtain⟨U,aI,aJ,G⟩:=r.1 T
 refine H7 (sr (Mz rfl (Kz (.bool (decide ((b:Int)=0))) (nt ?_))))
 by_cases E:(b:Int)=0
 refine jT (dT E) (sr (Mz rfl (Kz (.agg #[.string ⟨v0 a⟩, .string ⟨v0 []⟩]) ?_)))
 refine cu [.string ⟨v0 a⟩, .string ⟨v0 []⟩] 0 U C5 ?_
 intro aQ V
 refine An rfl (rt (tR (Ir (gq (vs:= [.agg #[.string ⟨v0 a⟩, .string ⟨v0 []⟩],vI 0]) rfl (bT.cell rfl (Io (cs:= [.string ⟨v0 a⟩, .string ⟨v0 []⟩]) C6 C5 ((V.cls (i:=0) rfl).lit (k:=0) (m:=2) rfl)) (bT.tmp rfl bT.nil)) (Lh rfl)) ?_)))
 have ak:=V.pk []
 obtain⟨rfl,rfl⟩:=fB (zj hr zq5)
 exact⟨rfl,ak⟩
 refine jF (dF E) (sk (H7 ?_))
 refine Ce [] (Ik Iw) U ?_
 intro aR au
 refine qv 0 rfl rfl (qv 1 rfl rfl (qv 2 rfl rfl (qt (v:=vJ (b - 1)) 3 rfl (λ _ _=>Ig (e:=B5.wrap ((b:Int) - 1)) yk f1) (qt (v:= .string ⟨v0 (t6 (b - 1) a)⟩) 4 rfl (λ _ _=>J4 v2 rfl rfl g5) (qv 5 rfl rfl (qv 6 rfl rfl (qt (v:=vJ (b - 1)) 7 rfl (λ _ _=>Ig (e:=B5.wrap ((b:Int) - 1)) yk f1) ?_)))))))
 obtain⟨f,I⟩:=mY (ls:=a) (i:=b - 1) e8
 refine qt (v:= .int .u8 (f.toNat:Int)) 8 rfl (λ _ _=>Jr v2 rfl rfl I) (qt (v:= .int .u8 (((f+(1:UInt8)).toNat:Nat):Int)) 9 rfl (λ _ _=>Ig (e:=IntKind.u8.wrap ((f.toNat:Int)+1)) yk (Dc f (1:UInt8))) ?_)
 refine qd 10 rfl (IZ (cs:= [.int .u8 (((f+(1:UInt8)).toNat:Nat):Int)]) (t:=5) (sz:=1) (m:=1) au rfl rfl (λ _=>by kernel_rfl) rfl f5 ?_)
 intro av aS A
 replace A:=IL (y:=row av 1 1 (q2 eB ([(f+(1:UInt8))])) 5 1) rfl A
 refine⟨.inr ⟨_,A⟩, ?_⟩
 refine GR A (qt (v:= .string ⟨v0 ([(f+(1:UInt8))])⟩) 11 rfl (λ _ ⟨_,H9⟩=>JI (l:= [(f+(1:UInt8))]) Tryz.underlying186 Tryz.underlying5 v2 (H9.rds (i:=0) rfl) rfl) (qt (v:= .string ⟨v0 ((t6 (b - 1) a)++([(f+(1:UInt8))]))⟩) 12 rfl (λ _ _=>Jw rfl rfl g5) (qk (.agg #[.string ⟨v0 a⟩, .string ⟨v0 ((t6 (b - 1) a)++([(f+(1:UInt8))]))⟩]) 13 rfl ?_)))
 have ax:=A.pb [0]
 refine qe 14 rfl (Do.store (vs:= [.string ⟨v0 a⟩, .string ⟨v0 ((t6 (b - 1) a)++([(f+(1:UInt8))]))⟩]) (o:=0) ax rfl rfl C5 rfl rfl rfl rfl ?_)
 intro aU ay
 have M:=ay.pb [0]
 refine⟨.inr ⟨_,M⟩, ?_⟩
 refine qa 15 rfl rfl (qn (Ib (rt (Ir (gq (vs:= [.agg #[.string ⟨v0 a⟩, .string ⟨v0 ((t6 (b - 1) a)++([(f+(1:UInt8))]))⟩],vI 0]) rfl (bT.cell rfl (Io (cs:= [.string ⟨v0 a⟩, .string ⟨v0 ((t6 (b - 1) a)++([(f+(1:UInt8))]))⟩]) C6 C5 ((M.cls (i:=1) rfl).lit (k:=0) (m:=2) rfl)) (bT.tmp rfl bT.nil)) (Lh rfl)) ?_))))
 have az:=M.pk []
 obtain⟨rfl,rfl⟩:=fB (zj hr zq6)
 exact⟨rfl,az⟩
 refine jT (dT n) (sr (Kz (.agg #[.string ⟨v0 []⟩, .string ⟨v0 []⟩]) (Mz rfl ?_)))
 refine cu [.string ⟨v0 []⟩, .string ⟨v0 []⟩] 0 J C5 ?_
 intro aV W
 refine An rfl (rt (tR (Ir (gq (vs:= [.agg #[.string ⟨v0 []⟩, .string ⟨v0 []⟩],vI h]) rfl (bT.cell rfl (Io (cs:= [.string ⟨v0 []⟩, .string ⟨v0 []⟩]) C6 C5 ((W.cls (i:=0) rfl).lit (k:=0) (m:=2) rfl)) (bT.tmp rfl bT.nil)) (Lh rfl)) ?_)))
 have aA:=W.pk []
 obtain⟨rfl,rfl⟩:=fB (zj hr zq2)
 exact⟨rfl,aA⟩
def pz (a:aj):Int:=
 if(a.aN.length:Int) > 12 then 21 else if(a.aT.length:Int) > 12 then 21 else if a.aT≠[] then if a.aT<=a.aN then 21 else 0 else 0
theorem tX (w D) (d:aj) (n) (H:Own w D w []) (hr:pz d=n):
    Calls u9 97 #[.agg (aj.cells d).toArray] w (dI λ v w'=>v=vI n/\Own w D w' []):=by
 unfold pz at hr
 refine cb Tryz.func97 ?_
 refine sr ?_
 refine bW (aj.cells d) 37 H ?_
 intro g o f
 refine An rfl (H7 (sr (Kz (vP g 0) (Lz (.string ⟨v0 d.aN⟩) f 0 y4 (Kz (vJ d.aN.length) (Kz (.bool (decide ((d.aN.length:Int) > 12))) (Mz rfl ?_)))))))
 by_cases b:(d.aN.length:Int) > 12
 refine Sz (dT b) (Sz (dT b) (Sz (dT b) (Sz (dT b) (fw (.bool true) (Ic rfl (dT b) rfl) (Mz rfl (Sz rfl (Sz rfl (Sz rfl (Sz rfl (Ij rfl rfl rfl (Ij rfl rfl rfl (Ij rfl rfl rfl (Ij rfl rfl rfl (Ij rfl rfl rfl (Sz rfl (fw (.bool true) (Ic rfl rfl rfl) (nt (jt (sr (An rfl (rt (tR (rs ?_)))))))))))))))))))))))
 have i:=f.pk []
 obtain rfl:=zj hr zq1
 exact⟨rfl,i⟩
 refine Gz (vP g 1) (dF b) (Gl (.string ⟨v0 d.aT⟩) (dF b) f 0 y4 (Gz (vJ d.aT.length) (dF b) (Gz (.bool (decide ((d.aT.length:Int) > 12))) (dF b) (fw (.bool (decide ((d.aT.length:Int) > 12))) (H6 rfl (dF b) rfl) (Mz rfl ?_)))))
 by_cases a:(d.aT.length:Int) > 12
 refine Sz (dT a) (Sz (dT a) (Sz (dT a) (Sz (dT a) (Ij rfl rfl rfl (Ij rfl rfl rfl (Ij rfl rfl rfl (Ij rfl rfl rfl (Ij rfl rfl rfl (Sz (dT a) (fw (.bool true) (Ic rfl (dT a) rfl) (nt (jt (sr (An rfl (rt (tR (rs ?_)))))))))))))))))
 have j:=f.pk []
 obtain rfl:=zj hr zq2
 exact⟨rfl,j⟩
 refine Gz (vP g 1) (dF a) (Gl (.string ⟨v0 d.aT⟩) (dF a) f 0 y4 (gw (.bool (decide (d.aT≠[]))) (dF a) (IW rfl rfl) (gw (.bool (decide (d.aT≠[]))) (dF a) (Ie rfl) ?_)))
 by_cases c:d.aT≠[]
 refine Gz (vP g 0) (dT c) (Gl (.string ⟨v0 d.aN⟩) (dT c) f 0 y4 (Gz (vP g 1) (dT c) (Gl (.string ⟨v0 d.aT⟩) (dT c) f 0 y4 (gw (.bool (decide (d.aT<=d.aN))) (dT c) (Iu (e:= !(Op.bytesLess d.aN d.aT)) (JD rfl rfl) (Aa _ _)) (gw (.bool (decide (d.aT<=d.aN))) (dF a) (Ic rfl (dT c) rfl) (fw (.bool (decide (d.aT<=d.aN))) (H6 rfl (dF a) rfl) (nt ?_)))))))
 by_cases h:d.aT<=d.aN
 refine jT (dT h) (sr (An rfl (rt (tR (rs ?_)))))
 have k:=f.pk []
 obtain rfl:=zj hr zq4
 exact⟨rfl,k⟩
 refine jF (dF h) (sk (sr (An rfl (rt (rs ?_)))))
 have l:=f.pk []
 obtain rfl:=zj hr zq4
 exact⟨rfl,l⟩
 refine Sz (dF c) (Sz (dF c) (Sz (dF c) (Sz (dF c) (Sz (dF c) (gw (.bool false) (dF a) (H6 rfl (dF c) rfl) (fw (.bool false) (H6 rfl (dF a) rfl) (nt (jf (sk (sr (An rfl (rt (rs ?_)))))))))))))
 have m:=f.pk []
 obtain rfl:=zj hr zq3
 exact⟨rfl,m⟩
def uz (a:aX):Int:=
 if a.aB=1 then if a.aN≠[] then 40 else if a.aT≠[] then 40 else if a.aO≠[] then 40 else if a.bS=0 then bnd (iW a.aZ) λ d=>if d=0 then if(a.aO.length:Int) > 16 then 2 else 0 else 20 else 40 else if a.aB=2 then if a.aN≠[] then 40 else if a.aT≠[] then 40 else if a.bS=0 then bnd (iW a.aZ) λ e=>if e=0 then if(a.aO.length:Int) > 16 then 2 else 0 else 20 else 40 else if a.aB=4 then if a.aZ≠[] then 40 else if a.aO≠[] then 40 else if(a.aO.length:Int) > 16 then 2 else bnd (pz (aj.mk a.aN a.aT)) λ f=>if f=0 then if a.bS < 1 then 1 else if a.bS > 4 then 1 else 0 else 21 else if a.aB=3 then if a.aN≠[] then 40 else if a.aT≠[] then 40 else if a.aO≠[] then 40 else if a.bS=0 then bnd (iW a.aZ) λ b=>if b=0 then if(a.aO.length:Int) > 16 then 2 else 0 else 20 else 40 else if a.aB=5 then if a.aZ≠[] then 40 else if a.aO≠[] then 40 else if a.bS=0 then if(a.aO.length:Int) > 16 then 2 else bnd (pz (aj.mk a.aN a.aT)) λ c=>if c=0 then 0 else 21 else 40 else 40
theorem zi (w D) (a:aX) (r0) (H:Own w D w []) (hr:uz a=r0):
    Calls u9 55 #[.agg (aX.cells a).toArray] w (dI λ v w'=>v=vI r0/\Own w D w' []/\(¬ (r0=0)\/(1<=a.aB/\a.aB<=5))):=by
 unfold uz at hr
 refine cb Tryz.func55 ?_
 refine sr ?_
 refine bW (aX.cells a) 68 H ?_
 intro d dJ b
 refine Ar rfl (Kz (vP d 0) (Lz (vI a.aB) b 0 B3 (Kz (.bool (decide (a.aB=1))) (Mz rfl ?_))))
 by_cases g:a.aB=1
 refine Sz (dT g) (Sz (dT g) (Sz (dT g) (fw (.bool true) (Ic rfl (dT g) rfl) (Mz rfl (Sz rfl (Sz rfl (Sz rfl (fw (.bool true) (Ic rfl rfl rfl) (Ar rfl (Kz (vP d 0) (Lz (vI a.aB) b 0 B3 (Kz (.bool (decide (a.aB=4))) (Mz rfl ?_)))))))))))))
 have z:(decide (a.aB=4))=false:=(dF e8)
 refine Gz (vP d 0) z (Gl (vI a.aB) z b 0 B3 (Gz (.bool (decide (a.aB=5))) z (fw (.bool (decide (a.aB=5))) (H6 rfl z rfl) (An rfl (H7 (sr (Mz rfl (Kz (.bool false) (Mz rfl (Sz rfl (Sz rfl (fw (.bool false) (H6 rfl rfl rfl) (Mz rfl (gw (.bool true) rfl (Ie rfl) (gw (.bool true) rfl (Ie rfl) (Gz (vP d 3) rfl (Gl (.string ⟨v0 a.aN⟩) rfl b 0 y4 (gw (.bool (decide (a.aN≠[]))) rfl (IW rfl rfl) (gw (.bool (decide (a.aN≠[]))) rfl (Ie rfl) ?_)))))))))))))))))))
 by_cases B:a.aN≠[]
 refine Sz (dT B) (Sz (dT B) (Sz (dT B) (gw (.bool true) rfl (Ic rfl (dT B) rfl) (gw (.bool true) rfl (Ic rfl rfl rfl) (fw (.bool true) (H6 rfl rfl rfl) (Mz rfl (Sz rfl (Sz rfl (Ij rfl rfl rfl (Ij rfl rfl rfl (Ij rfl rfl rfl (Sz rfl (fw (.bool true) (Ic rfl rfl rfl) (Mz rfl (Sz rfl (Sz rfl (Sz rfl (Sz rfl (Ij rfl rfl rfl (Ij rfl rfl rfl (Ij rfl rfl rfl (Sz rfl (fw (.bool true) (Ic rfl rfl rfl) (Mz rfl (Sz rfl (Sz rfl (Sz rfl (Sz rfl (Ij rfl rfl rfl (Ij rfl rfl rfl (Ij rfl rfl rfl (Sz rfl (fw (.bool true) (Ic rfl rfl rfl) (nt (jt (sr (Az rfl ?_)))))))))))))))))))))))))))))))))))))
 refine nt (rt (tR (rs ?_)))
 have bQ:=b.pk []
 obtain rfl:=zj hr zq2
 exact⟨rfl,bQ,e8⟩
 refine Gz (vP d 4) (dF B) (Gl (.string ⟨v0 a.aT⟩) (dF B) b 0 y4 (gw (.bool (decide (a.aT≠[]))) (dF B) (IW rfl rfl) (gw (.bool (decide (a.aT≠[]))) rfl (H6 rfl (dF B) rfl) (gw (.bool (decide (a.aT≠[]))) rfl (Ic rfl rfl rfl) (fw (.bool (decide (a.aT≠[]))) (H6 rfl rfl rfl) (Mz rfl ?_))))))
 by_cases C:a.aT≠[]
 refine Sz (dT C) (Sz (dT C) (Ij rfl rfl rfl (Ij rfl rfl rfl (Ij rfl rfl rfl (Sz (dT C) (fw (.bool true) (Ic rfl (dT C) rfl) (Mz rfl (Sz rfl (Sz rfl (Sz rfl (Sz rfl (Ij rfl rfl rfl (Ij rfl rfl rfl (Ij rfl rfl rfl (Sz rfl (fw (.bool true) (Ic rfl rfl rfl) (Mz rfl (Sz rfl (Sz rfl (Sz rfl (Sz rfl (Ij rfl rfl rfl (Ij rfl rfl rfl (Ij rfl rfl rfl (Sz rfl (fw (.bool true) (Ic rfl rfl rfl) (nt (jt (sr (An rfl (rt (tR (rs ?_)))))))))))))))))))))))))))))))))
 have bR:=b.pk []
 obtain rfl:=zj hr zq3
 exact⟨rfl,bR,e8⟩
 refine gw (.bool (decide (a.aB=5))) (dF C) (Ie rfl) (gw (.bool (decide (a.aB=5))) (dF C) (Ie rfl) ?_)
 have r:(decide (a.aB=5))=false:=(dF e8)
 refine Sz r (Sz r (Sz r (gw (.bool false) (dF C) (H6 rfl r rfl) (fw (.bool false) (H6 rfl (dF C) rfl) (Mz rfl (Gz (vP d 0) rfl (Gl (vI a.aB) rfl b 0 B3 (gw (.bool (decide (¬ (a.aB=2)))) rfl (Iu (e:= !(decide (a.aB=2))) yk decide_not.symm) (gw (.bool (decide (¬ (a.aB=2)))) rfl (Ie rfl) ?_)))))))))
 have Y:(decide (¬ (a.aB=2)))=true:=(dT e8)
 refine Gz (vP d 2) Y (Gl (.string ⟨v0 a.aO⟩) Y b 0 y4 (IQ (v:= .bool (decide (a.aO≠[]))) rfl rfl Y rfl (IW rfl rfl) (gw (.bool (decide (a.aO≠[]))) rfl (Ic rfl Y rfl) (fw (.bool (decide (a.aO≠[]))) (H6 rfl rfl rfl) (Mz rfl ?_)))))
 by_cases u:a.aO≠[]
 refine Sz (dT u) (Sz (dT u) (Sz (dT u) (Sz (dT u) (Ij rfl rfl rfl (Ij rfl rfl rfl (Ij rfl rfl rfl (Sz (dT u) (fw (.bool true) (Ic rfl (dT u) rfl) (nt (jt (sr (An rfl (rt (tR (rs ?_)))))))))))))))
 have bS:=b.pk []
 obtain rfl:=zj hr zq4
 exact⟨rfl,bS,e8⟩
 refine Gz (vP d 0) (dF u) (Gl (vI a.aB) (dF u) b 0 B3 (gw (.bool (decide (¬ (a.aB=4)))) (dF u) (Iu (e:= !(decide (a.aB=4))) yk decide_not.symm) (gw (.bool (decide (¬ (a.aB=4)))) (dF u) (Ie rfl) ?_)))
 have Z:(decide (¬ (a.aB=4)))=true:=(dT e8)
 refine Gz (vP d 5) Z (Gl (vI a.bS) Z b 0 B3 (IQ (v:= .bool (decide (¬ (a.bS=0)))) rfl rfl Z rfl (Iu (e:= !(decide (a.bS=0))) yk decide_not.symm) (gw (.bool (decide (¬ (a.bS=0)))) (dF u) (Ic rfl Z rfl) (fw (.bool (decide (¬ (a.bS=0)))) (H6 rfl (dF u) rfl) (nt ?_)))))
 by_cases ay:a.bS=0
 refine jF (dF (Lp ay)) (sk (H7 (sr (Mz rfl (Mz rfl (Gz (vP d 1) rfl (Gl (.string ⟨v0 a.aZ⟩) rfl b 0 y4 ?_)))))))
 obtain⟨az,aa⟩:∃ q,iW a.aZ=q:=⟨_,rfl⟩
 obtain⟨dK,aV,dw,aW,dx⟩:=Ia b
 refine oh rfl L8 (l7 _ _ a.aZ az aV aa) ?_
 rintro _ dL ⟨rfl,aY,aN⟩
 have aC:=aW _ _ aY
 replace aN: ¬ (az=0)\/(1<=a.aZ.length/\a.aZ.length<=12):=aN
 refine gw (.bool (decide (¬ (az=0)))) rfl (Iu (e:= !(decide (az=0))) yk decide_not.symm) (fw (.bool (decide (¬ (az=0)))) (Ic rfl rfl rfl) (nt ?_))
 by_cases aD:az=0
 refine jF (dF (Lp aD)) (sk (H7 (sr (Kz (vP d 2) (Lz (.string ⟨v0 a.aO⟩) aC 0 y4 (Kz (vJ a.aO.length) (Kz (.bool (decide ((a.aO.length:Int) > 16))) (nt ?_))))))))
 by_cases aL:(a.aO.length:Int) > 16
 refine jT (dT aL) (sr (An rfl (rt (tR (rs ?_)))))
 have bT:=aC.pk []
 obtain rfl:=zj hr zq8
 exact⟨rfl,bT,e8⟩
 refine jF (dF aL) (sk (H7 (sr (Mz rfl (Mz rfl (Sz r (Sz r (Sz r (Sz r (Sz r (Sz r (Sz r (fw (.bool false) (H6 rfl r rfl) (nt (jf (sk (H7 (sr (Kz (vP d 0) (Lz (vI a.aB) aC 0 B3 (Kz (.bool (decide (a.aB=4))) (Mz rfl (Sz z (Sz z (Sz z (Sz z (Ij rfl rfl rfl (Ij rfl rfl rfl (Ij rfl rfl rfl (Sz z (fw (.bool false) (H6 rfl z rfl) (nt (jf ?_)))))))))))))))))))))))))))))))))
 refine sk (sr (An rfl (rt (rs ?_))))
 have bU:=aC.pk []
 obtain rfl:=zj hr zq8
 exact⟨rfl,bU,e8⟩
 refine jT (dT aD) (sr (An rfl (rt (tR (rs ?_)))))
 have bV:=aC.pk []
 obtain rfl:=zj hr zq7
 exact⟨rfl,bV,e8⟩
 refine jT (dT ay) (sr (An rfl (rt (tR (rs ?_)))))
 have bX:=b.pk []
 obtain rfl:=zj hr zq5
 exact⟨rfl,bX,e8⟩
 refine Gz (vP d 0) (dF g) (Gl (vI a.aB) (dF g) b 0 B3 (Gz (.bool (decide (a.aB=2))) (dF g) (fw (.bool (decide (a.aB=2))) (H6 rfl (dF g) rfl) (Mz rfl ?_))))
 by_cases i:a.aB=2
 refine Sz (dT i) (Sz (dT i) (Sz (dT i) (fw (.bool true) (Ic rfl (dT i) rfl) (Ar rfl (Kz (vP d 0) (Lz (vI a.aB) b 0 B3 (Kz (.bool (decide (a.aB=4))) (Mz rfl ?_))))))))
 have A:(decide (a.aB=4))=false:=(dF e8)
 refine Gz (vP d 0) A (Gl (vI a.aB) A b 0 B3 (Gz (.bool (decide (a.aB=5))) A (fw (.bool (decide (a.aB=5))) (H6 rfl A rfl) (An rfl (H7 (sr (Mz rfl (Kz (.bool false) (Mz rfl (Sz rfl (Sz rfl (fw (.bool false) (H6 rfl rfl rfl) (Mz rfl (gw (.bool true) rfl (Ie rfl) (gw (.bool true) rfl (Ie rfl) (Gz (vP d 3) rfl (Gl (.string ⟨v0 a.aN⟩) rfl b 0 y4 (gw (.bool (decide (a.aN≠[]))) rfl (IW rfl rfl) (gw (.bool (decide (a.aN≠[]))) rfl (Ie rfl) ?_)))))))))))))))))))
 by_cases E:a.aN≠[]
 refine Sz (dT E) (Sz (dT E) (Sz (dT E) (gw (.bool true) rfl (Ic rfl (dT E) rfl) (gw (.bool true) rfl (Ic rfl rfl rfl) (fw (.bool true) (H6 rfl rfl rfl) (Mz rfl (Sz rfl (Sz rfl (Ij rfl rfl rfl (Ij rfl rfl rfl (Ij rfl rfl rfl (Sz rfl (fw (.bool true) (Ic rfl rfl rfl) (Mz rfl (Sz rfl (Sz rfl (Sz rfl (Sz rfl (Ij rfl rfl rfl (Ij rfl rfl rfl (Ij rfl rfl rfl (Sz rfl (fw (.bool true) (Ic rfl rfl rfl) (Mz rfl (Sz rfl (Sz rfl (Sz rfl (Sz rfl (Ij rfl rfl rfl (Ij rfl rfl rfl (Ij rfl rfl rfl (Sz rfl (fw (.bool true) (Ic rfl rfl rfl) (nt (jt (sr (Az rfl ?_)))))))))))))))))))))))))))))))))))))
 refine nt (rt (tR (rs ?_)))
 have bY:=b.pk []
 obtain rfl:=zj hr zq3
 exact⟨rfl,bY,e8⟩
 refine Gz (vP d 4) (dF E) (Gl (.string ⟨v0 a.aT⟩) (dF E) b 0 y4 (gw (.bool (decide (a.aT≠[]))) (dF E) (IW rfl rfl) (gw (.bool (decide (a.aT≠[]))) rfl (H6 rfl (dF E) rfl) (gw (.bool (decide (a.aT≠[]))) rfl (Ic rfl rfl rfl) (fw (.bool (decide (a.aT≠[]))) (H6 rfl rfl rfl) (Mz rfl ?_))))))
 by_cases F:a.aT≠[]
 refine Sz (dT F) (Sz (dT F) (Ij rfl rfl rfl (Ij rfl rfl rfl (Ij rfl rfl rfl (Sz (dT F) (fw (.bool true) (Ic rfl (dT F) rfl) (Mz rfl (Sz rfl (Sz rfl (Sz rfl (Sz rfl (Ij rfl rfl rfl (Ij rfl rfl rfl (Ij rfl rfl rfl (Sz rfl (fw (.bool true) (Ic rfl rfl rfl) (Mz rfl (Sz rfl (Sz rfl (Sz rfl (Sz rfl (Ij rfl rfl rfl (Ij rfl rfl rfl (Ij rfl rfl rfl (Sz rfl (fw (.bool true) (Ic rfl rfl rfl) (nt (jt (sr (An rfl (rt (tR (rs ?_)))))))))))))))))))))))))))))))))
 have bZ:=b.pk []
 obtain rfl:=zj hr zq4
 exact⟨rfl,bZ,e8⟩
 refine gw (.bool (decide (a.aB=5))) (dF F) (Ie rfl) (gw (.bool (decide (a.aB=5))) (dF F) (Ie rfl) ?_)
 have s:(decide (a.aB=5))=false:=(dF e8)
 refine Sz s (Sz s (Sz s (gw (.bool false) (dF F) (H6 rfl s rfl) (fw (.bool false) (H6 rfl (dF F) rfl) (Mz rfl (Gz (vP d 0) rfl (Gl (vI a.aB) rfl b 0 B3 (gw (.bool (decide (¬ (a.aB=2)))) rfl (Iu (e:= !(decide (a.aB=2))) yk decide_not.symm) (gw (.bool (decide (¬ (a.aB=2)))) rfl (Ie rfl) ?_)))))))))
 have af:(decide (¬ (a.aB=2)))=false:=(dF e8)
 refine Sz af (Sz af (Sz af (gw (.bool false) rfl (H6 rfl af rfl) (fw (.bool false) (H6 rfl rfl rfl) (Mz rfl (Gz (vP d 0) rfl (Gl (vI a.aB) rfl b 0 B3 (gw (.bool (decide (¬ (a.aB=4)))) rfl (Iu (e:= !(decide (a.aB=4))) yk decide_not.symm) (gw (.bool (decide (¬ (a.aB=4)))) rfl (Ie rfl) ?_)))))))))
 have ag:(decide (¬ (a.aB=4)))=true:=(dT e8)
 refine Gz (vP d 5) ag (Gl (vI a.bS) ag b 0 B3 (IQ (v:= .bool (decide (¬ (a.bS=0)))) rfl rfl ag rfl (Iu (e:= !(decide (a.bS=0))) yk decide_not.symm) (gw (.bool (decide (¬ (a.bS=0)))) rfl (Ic rfl ag rfl) (fw (.bool (decide (¬ (a.bS=0)))) (H6 rfl rfl rfl) (nt ?_)))))
 by_cases aA:a.bS=0
 refine jF (dF (Lp aA)) (sk (H7 (sr (Mz rfl (Mz rfl (Gz (vP d 1) rfl (Gl (.string ⟨v0 a.aZ⟩) rfl b 0 y4 ?_)))))))
 obtain⟨aB,ah⟩:∃ q,iW a.aZ=q:=⟨_,rfl⟩
 obtain⟨dM,aZ,dz,bf,dA⟩:=Ia b
 refine oh rfl L8 (l7 _ _ a.aZ aB aZ ah) ?_
 rintro _ dN ⟨rfl,bg,aO⟩
 have aF:=bf _ _ bg
 replace aO: ¬ (aB=0)\/(1<=a.aZ.length/\a.aZ.length<=12):=aO
 refine gw (.bool (decide (¬ (aB=0)))) rfl (Iu (e:= !(decide (aB=0))) yk decide_not.symm) (fw (.bool (decide (¬ (aB=0)))) (Ic rfl rfl rfl) (nt ?_))
 by_cases aG:aB=0
 refine jF (dF (Lp aG)) (sk (H7 (sr (Kz (vP d 2) (Lz (.string ⟨v0 a.aO⟩) aF 0 y4 (Kz (vJ a.aO.length) (Kz (.bool (decide ((a.aO.length:Int) > 16))) (nt ?_))))))))
 by_cases aM:(a.aO.length:Int) > 16
 refine jT (dT aM) (sr (An rfl (rt (tR (rs ?_)))))
 have cu:=aF.pk []
 obtain rfl:=zj hr zq8
 exact⟨rfl,cu,e8⟩
 refine jF (dF aM) (sk (H7 (sr (Mz rfl (Mz rfl (Sz s (Sz s (Sz s (Sz s (Sz s (Sz s (Sz s (fw (.bool false) (H6 rfl s rfl) (nt (jf (sk (H7 (sr (Kz (vP d 0) (Lz (vI a.aB) aF 0 B3 (Kz (.bool (decide (a.aB=4))) (Mz rfl (Sz A (Sz A (Sz A (Sz A (Ij rfl rfl rfl (Ij rfl rfl rfl (Ij rfl rfl rfl (Sz A (fw (.bool false) (H6 rfl A rfl) (nt (jf ?_)))))))))))))))))))))))))))))))))
 refine sk (sr (An rfl (rt (rs ?_))))
 have cz:=aF.pk []
 obtain rfl:=zj hr zq8
 exact⟨rfl,cz,e8⟩
 refine jT (dT aG) (sr (An rfl (rt (tR (rs ?_)))))
 have cB:=aF.pk []
 obtain rfl:=zj hr zq7
 exact⟨rfl,cB,e8⟩
 refine jT (dT aA) (sr (An rfl (rt (tR (rs ?_)))))
 have cK:=b.pk []
 obtain rfl:=zj hr zq5
 exact⟨rfl,cK,e8⟩
 refine Gz (vP d 0) (dF i) (Gl (vI a.aB) (dF i) b 0 B3 (Gz (.bool (decide (a.aB=3))) (dF i) (fw (.bool (decide (a.aB=3))) (H6 rfl (dF i) rfl) (Ar rfl (Kz (vP d 0) (Lz (vI a.aB) b 0 B3 (Kz (.bool (decide (a.aB=4))) (Mz rfl ?_))))))))
 by_cases f:a.aB=4
 refine Sz (dT f) (Sz (dT f) (Sz (dT f) (fw (.bool true) (Ic rfl (dT f) rfl) (An rfl (H7 (sr (Mz rfl (fw (.bool (decide (¬ (a.aB=3)))) (Iu (e:= !(decide (a.aB=3))) yk decide_not.symm) (Mz rfl ?_)))))))))
 have aH:(decide (¬ (a.aB=3)))=true:=(dT e8)
 refine IQ (v:= .bool true) rfl rfl aH rfl (Ie rfl) (Gz (.bool false) aH (fw (.bool false) (Ic rfl aH rfl) (Mz rfl (gw (.bool (decide (a.aB=3))) rfl (Ie rfl) (gw (.bool (decide (a.aB=3))) rfl (Ie rfl) ?_)))))
 have x:(decide (a.aB=3))=false:=(dF e8)
 refine Sz x (Sz x (Sz x (Sz x (Ij rfl rfl rfl (Ij rfl rfl rfl (Ij rfl rfl rfl (Sz x (gw (.bool false) rfl (H6 rfl x rfl) (fw (.bool false) (H6 rfl rfl rfl) (Mz rfl (gw (.bool true) rfl (Ie rfl) (gw (.bool true) rfl (Ie rfl) (Gz (vP d 1) rfl (Gl (.string ⟨v0 a.aZ⟩) rfl b 0 y4 (gw (.bool (decide (a.aZ≠[]))) rfl (IW rfl rfl) (gw (.bool (decide (a.aZ≠[]))) rfl (Ic rfl rfl rfl) (fw (.bool (decide (a.aZ≠[]))) (H6 rfl rfl rfl) (Mz rfl ?_))))))))))))))))))
 by_cases p:a.aZ≠[]
 refine Sz (dT p) (Sz (dT p) (Sz (dT p) (Sz (dT p) (Ij rfl rfl rfl (Ij rfl rfl rfl (Ij rfl rfl rfl (Sz (dT p) (fw (.bool true) (Ic rfl (dT p) rfl) (Mz rfl (Sz rfl (Sz rfl (Sz rfl (Sz rfl (Ij rfl rfl rfl (Ij rfl rfl rfl (Ij rfl rfl rfl (Sz rfl (fw (.bool true) (Ic rfl rfl rfl) (nt (jt (sr (An rfl (rt (tR (rs ?_)))))))))))))))))))))))))
 have cO:=b.pk []
 obtain rfl:=zj hr zq4
 exact⟨rfl,cO,e8⟩
 refine Gz (vP d 0) (dF p) (Gl (vI a.aB) (dF p) b 0 B3 (gw (.bool (decide (¬ (a.aB=2)))) (dF p) (Iu (e:= !(decide (a.aB=2))) yk decide_not.symm) (gw (.bool (decide (¬ (a.aB=2)))) (dF p) (Ie rfl) ?_)))
 have ai:(decide (¬ (a.aB=2)))=true:=(dT e8)
 refine Gz (vP d 2) ai (Gl (.string ⟨v0 a.aO⟩) ai b 0 y4 (IQ (v:= .bool (decide (a.aO≠[]))) rfl rfl ai rfl (IW rfl rfl) (gw (.bool (decide (a.aO≠[]))) (dF p) (Ic rfl ai rfl) (fw (.bool (decide (a.aO≠[]))) (H6 rfl (dF p) rfl) (Mz rfl ?_)))))
 by_cases t:a.aO≠[]
 refine Sz (dT t) (Sz (dT t) (Sz (dT t) (Sz (dT t) (Ij rfl rfl rfl (Ij rfl rfl rfl (Ij rfl rfl rfl (Sz (dT t) (fw (.bool true) (Ic rfl (dT t) rfl) (nt (jt (sr (An rfl (rt (tR (rs ?_)))))))))))))))
 have cZ:=b.pk []
 obtain rfl:=zj hr zq5
 exact⟨rfl,cZ,e8⟩
 refine Gz (vP d 0) (dF t) (Gl (vI a.aB) (dF t) b 0 B3 (gw (.bool (decide (¬ (a.aB=4)))) (dF t) (Iu (e:= !(decide (a.aB=4))) yk decide_not.symm) (gw (.bool (decide (¬ (a.aB=4)))) (dF t) (Ie rfl) ?_)))
 have ak:(decide (¬ (a.aB=4)))=false:=(dF e8)
 refine Sz ak (Sz ak (Sz ak (gw (.bool false) (dF t) (H6 rfl ak rfl) (fw (.bool false) (H6 rfl (dF t) rfl) (nt (jf (sk (H7 (sr (Mz rfl (Mz rfl (Sz x (Sz x (Sz x (Sz x (fw (.bool false) (H6 rfl x rfl) (nt (jf (sk (H7 (sr (Kz (vP d 2) (Lz (.string ⟨v0 a.aO⟩) b 0 y4 (Kz (vJ a.aO.length) (Kz (.bool (decide ((a.aO.length:Int) > 16))) (nt ?_))))))))))))))))))))))))))
 by_cases W:(a.aO.length:Int) > 16
 refine jT (dT W) (sr (An rfl (rt (tR (rs ?_)))))
 have df:=b.pk []
 obtain rfl:=zj hr zq6
 exact⟨rfl,df,e8⟩
 refine jF (dF W) (sk (H7 (sr (Mz rfl (Mz rfl (Gz (vP d 3) rfl (Gl (.string ⟨v0 a.aN⟩) rfl b 0 y4 (Gz (vP d 4) rfl (Gl (.string ⟨v0 a.aT⟩) rfl b 0 y4 (Gz (.agg #[.string ⟨v0 a.aN⟩, .string ⟨v0 a.aT⟩]) rfl ?_))))))))))
 obtain⟨aI,R⟩:∃ q,pz (aj.mk a.aN a.aT)=q:=⟨_,rfl⟩
 obtain⟨dO,bi,dB,bn,dC⟩:=Ia b
 refine oh rfl L9 (tX _ _ (aj.mk a.aN a.aT) aI bi R) ?_
 rintro _ dP ⟨rfl,bq⟩
 have G:=bn _ _ bq
 refine gw (.bool (decide (¬ (aI=0)))) rfl (Iu (e:= !(decide (aI=0))) yk decide_not.symm) (fw (.bool (decide (¬ (aI=0)))) (Ic rfl rfl rfl) (nt ?_))
 by_cases I:aI=0
 refine jF (dF (Lp I)) (sk (H7 (sr (Kz (vP d 0) (Lz (vI a.aB) G 0 B3 (Kz (.bool (decide (a.aB=4))) (Mz rfl (Gz (vP d 5) (dT f) (Gl (vI a.bS) (dT f) G 0 B3 (Gz (.bool (decide (a.bS < 1))) (dT f) (gw (.bool (decide (a.bS < 1))) (dT f) (Ie rfl) ?_)))))))))))
 by_cases y:a.bS < 1
 refine Sz (dT y) (Sz (dT y) (Sz (dT y) (gw (.bool true) (dT f) (Ic rfl (dT y) rfl) (fw (.bool true) (Ic rfl (dT f) rfl) (nt (jt (sr (An rfl (rt (tR (rs ?_)))))))))))
 have bu:=G.pk []
 obtain rfl:=zj hr zq9
 exact⟨rfl,bu,e8⟩
 refine Gz (vP d 5) (dF y) (Gl (vI a.bS) (dF y) G 0 B3 (Gz (.bool (decide (a.bS > 4))) (dF y) (gw (.bool (decide (a.bS > 4))) (dT f) (H6 rfl (dF y) rfl) (fw (.bool (decide (a.bS > 4))) (Ic rfl (dT f) rfl) (nt ?_)))))
 by_cases au:a.bS > 4
 refine jT (dT au) (sr (An rfl (rt (tR (rs ?_)))))
 have bv:=G.pk []
 obtain rfl:=zj hr zq10
 exact⟨rfl,bv,e8⟩
 refine jF (dF au) (sk (sr (An rfl (rt (rs ?_)))))
 have bz:=G.pk []
 obtain rfl:=zj hr zq10
 exact⟨rfl,bz,e8⟩
 refine jT (dT I) (sr (An rfl (rt (tR (rs ?_)))))
 have bA:=G.pk []
 obtain rfl:=zj hr zq8
 exact⟨rfl,bA,e8⟩
 refine Gz (vP d 0) (dF f) (Gl (vI a.aB) (dF f) b 0 B3 (Gz (.bool (decide (a.aB=5))) (dF f) (fw (.bool (decide (a.aB=5))) (H6 rfl (dF f) rfl) (An rfl (H7 (sr (Mz rfl (fw (.bool (decide (¬ (a.aB=3)))) (Iu (e:= !(decide (a.aB=3))) yk decide_not.symm) (Mz rfl ?_)))))))))
 by_cases c:a.aB=3
 refine Sk rfl rfl (dF (Lp c)) rfl (Sk rfl rfl (dF (Lp c)) rfl (fw (.bool false) (H6 rfl (dF (Lp c)) rfl) (Mz rfl (gw (.bool (decide (a.aB=3))) rfl (Ie rfl) (gw (.bool (decide (a.aB=3))) rfl (Ie rfl) (Gz (vP d 3) (dT c) (Gl (.string ⟨v0 a.aN⟩) (dT c) b 0 y4 (gw (.bool (decide (a.aN≠[]))) (dT c) (IW rfl rfl) (gw (.bool (decide (a.aN≠[]))) (dT c) (Ie rfl) ?_)))))))))
 by_cases n:a.aN≠[]
 refine Sz (dT n) (Sz (dT n) (Sz (dT n) (gw (.bool true) (dT c) (Ic rfl (dT n) rfl) (gw (.bool true) rfl (Ic rfl (dT c) rfl) (fw (.bool true) (H6 rfl rfl rfl) (Mz rfl (Sz rfl (Sz rfl (Ij rfl rfl rfl (Ij rfl rfl rfl (Ij rfl rfl rfl (Sz rfl (fw (.bool true) (Ic rfl rfl rfl) (Mz rfl (Sz rfl (Sz rfl (Sz rfl (Sz rfl (Ij rfl rfl rfl (Ij rfl rfl rfl (Ij rfl rfl rfl (Sz rfl (fw (.bool true) (Ic rfl rfl rfl) (Mz rfl (Sz rfl (Sz rfl (Sz rfl (Sz rfl (Ij rfl rfl rfl (Ij rfl rfl rfl (Ij rfl rfl rfl (Sz rfl (fw (.bool true) (Ic rfl rfl rfl) (nt (jt (sr (Az rfl ?_)))))))))))))))))))))))))))))))))))))
 refine nt (rt (tR (rs ?_)))
 have bB:=b.pk []
 obtain rfl:=zj hr zq5
 exact⟨rfl,bB,e8⟩
 refine Gz (vP d 4) (dF n) (Gl (.string ⟨v0 a.aT⟩) (dF n) b 0 y4 (gw (.bool (decide (a.aT≠[]))) (dF n) (IW rfl rfl) (gw (.bool (decide (a.aT≠[]))) (dT c) (H6 rfl (dF n) rfl) (gw (.bool (decide (a.aT≠[]))) rfl (Ic rfl (dT c) rfl) (fw (.bool (decide (a.aT≠[]))) (H6 rfl rfl rfl) (Mz rfl ?_))))))
 by_cases o:a.aT≠[]
 refine Sz (dT o) (Sz (dT o) (Ij rfl rfl rfl (Ij rfl rfl rfl (Ij rfl rfl rfl (Sz (dT o) (fw (.bool true) (Ic rfl (dT o) rfl) (Mz rfl (Sz rfl (Sz rfl (Sz rfl (Sz rfl (Ij rfl rfl rfl (Ij rfl rfl rfl (Ij rfl rfl rfl (Sz rfl (fw (.bool true) (Ic rfl rfl rfl) (Mz rfl (Sz rfl (Sz rfl (Sz rfl (Sz rfl (Ij rfl rfl rfl (Ij rfl rfl rfl (Ij rfl rfl rfl (Sz rfl (fw (.bool true) (Ic rfl rfl rfl) (nt (jt (sr (An rfl (rt (tR (rs ?_)))))))))))))))))))))))))))))))))
 have bC:=b.pk []
 obtain rfl:=zj hr zq6
 exact⟨rfl,bC,e8⟩
 refine gw (.bool (decide (a.aB=5))) (dF o) (Ie rfl) (gw (.bool (decide (a.aB=5))) (dF o) (Ie rfl) ?_)
 have m:(decide (a.aB=5))=false:=(dF e8)
 refine Sz m (Sz m (Sz m (gw (.bool false) (dF o) (H6 rfl m rfl) (fw (.bool false) (H6 rfl (dF o) rfl) (Mz rfl (Gz (vP d 0) rfl (Gl (vI a.aB) rfl b 0 B3 (gw (.bool (decide (¬ (a.aB=2)))) rfl (Iu (e:= !(decide (a.aB=2))) yk decide_not.symm) (gw (.bool (decide (¬ (a.aB=2)))) rfl (Ie rfl) ?_)))))))))
 have M:(decide (¬ (a.aB=2)))=true:=(dT e8)
 refine Gz (vP d 2) M (Gl (.string ⟨v0 a.aO⟩) M b 0 y4 (IQ (v:= .bool (decide (a.aO≠[]))) rfl rfl M rfl (IW rfl rfl) (gw (.bool (decide (a.aO≠[]))) rfl (Ic rfl M rfl) (fw (.bool (decide (a.aO≠[]))) (H6 rfl rfl rfl) (Mz rfl ?_)))))
 by_cases k:a.aO≠[]
 refine Sz (dT k) (Sz (dT k) (Sz (dT k) (Sz (dT k) (Ij rfl rfl rfl (Ij rfl rfl rfl (Ij rfl rfl rfl (Sz (dT k) (fw (.bool true) (Ic rfl (dT k) rfl) (nt (jt (sr (An rfl (rt (tR (rs ?_)))))))))))))))
 have bD:=b.pk []
 obtain rfl:=zj hr zq7
 exact⟨rfl,bD,e8⟩
 refine Gz (vP d 0) (dF k) (Gl (vI a.aB) (dF k) b 0 B3 (gw (.bool (decide (¬ (a.aB=4)))) (dF k) (Iu (e:= !(decide (a.aB=4))) yk decide_not.symm) (gw (.bool (decide (¬ (a.aB=4)))) (dF k) (Ie rfl) ?_)))
 have N:(decide (¬ (a.aB=4)))=true:=(dT e8)
 refine Gz (vP d 5) N (Gl (vI a.bS) N b 0 B3 (IQ (v:= .bool (decide (¬ (a.bS=0)))) rfl rfl N rfl (Iu (e:= !(decide (a.bS=0))) yk decide_not.symm) (gw (.bool (decide (¬ (a.bS=0)))) (dF k) (Ic rfl N rfl) (fw (.bool (decide (¬ (a.bS=0)))) (H6 rfl (dF k) rfl) (nt ?_)))))
 by_cases J:a.bS=0
 refine jF (dF (Lp J)) (sk (H7 (sr (Mz rfl (Mz rfl (Gz (vP d 1) (dT c) (Gl (.string ⟨v0 a.aZ⟩) (dT c) b 0 y4 ?_)))))))
 obtain⟨K,O⟩:∃ q,iW a.aZ=q:=⟨_,rfl⟩
 obtain⟨dD,aP,dh,aQ,di⟩:=Ia b
 refine oh (dT c) L8 (l7 _ _ a.aZ K aP O) ?_
 rintro _ dE ⟨rfl,aR,aJ⟩
 have S:=aQ _ _ aR
 replace aJ: ¬ (K=0)\/(1<=a.aZ.length/\a.aZ.length<=12):=aJ
 refine gw (.bool (decide (¬ (K=0)))) (dT c) (Iu (e:= !(decide (K=0))) yk decide_not.symm) (fw (.bool (decide (¬ (K=0)))) (Ic rfl (dT c) rfl) (nt ?_))
 by_cases T:K=0
 refine jF (dF (Lp T)) (sk (H7 (sr (Kz (vP d 2) (Lz (.string ⟨v0 a.aO⟩) S 0 y4 (Kz (vJ a.aO.length) (Kz (.bool (decide ((a.aO.length:Int) > 16))) (nt ?_))))))))
 by_cases av:(a.aO.length:Int) > 16
 refine jT (dT av) (sr (An rfl (rt (tR (rs ?_)))))
 have bE:=S.pk []
 obtain rfl:=zj hr zq11
 exact⟨rfl,bE,e8⟩
 refine jF (dF av) (sk (H7 (sr (Mz rfl (Mz rfl (Sz m (Sz m (Sz m (Sz m (Sz m (Sz m (Sz m (fw (.bool false) (H6 rfl m rfl) (nt (jf (sk (H7 (sr (Kz (vP d 0) (Lz (vI a.aB) S 0 B3 (Kz (.bool (decide (a.aB=4))) (Mz rfl (Sz (dF f) (Sz (dF f) (Sz (dF f) (Sz (dF f) (Ij rfl rfl rfl (Ij rfl rfl rfl (Ij rfl rfl rfl (Sz (dF f) (fw (.bool false) (H6 rfl (dF f) rfl) (nt (jf ?_)))))))))))))))))))))))))))))))))
 refine sk (sr (An rfl (rt (rs ?_))))
 have bF:=S.pk []
 obtain rfl:=zj hr zq11
 exact⟨rfl,bF,e8⟩
 refine jT (dT T) (sr (An rfl (rt (tR (rs ?_)))))
 have bG:=S.pk []
 obtain rfl:=zj hr zq10
 exact⟨rfl,bG,e8⟩
 refine jT (dT J) (sr (An rfl (rt (tR (rs ?_)))))
 have bH:=b.pk []
 obtain rfl:=zj hr zq8
 exact⟨rfl,bH,e8⟩
 refine gw (.bool (decide (a.aB=5))) (dT c) (Ie rfl) (gw (.bool (decide (¬ (a.aB=5)))) (dT c) (Iu (e:= !(decide (a.aB=5))) yk decide_not.symm) (fw (.bool (decide (¬ (a.aB=5)))) (Ic rfl (dT c) rfl) (Mz rfl ?_)))
 by_cases h:a.aB=5
 refine gw (.bool (decide (a.aB=3))) (dF (Lp h)) (Ie rfl) (gw (.bool (decide (a.aB=3))) (dF (Lp h)) (Ie rfl) (Sz (dF c) (Sz (dF c) (Sz (dF c) (Sz (dF c) (Ij rfl rfl rfl (Ij rfl rfl rfl (Ij rfl rfl rfl (Sz (dF c) (gw (.bool false) (dF (Lp h)) (H6 rfl (dF c) rfl) (fw (.bool false) (H6 rfl (dF (Lp h)) rfl) (Mz rfl (gw (.bool (decide (a.aB=5))) rfl (Ie rfl) (gw (.bool (decide (a.aB=5))) rfl (Ie rfl) (Gz (vP d 1) (dT h) (Gl (.string ⟨v0 a.aZ⟩) (dT h) b 0 y4 (gw (.bool (decide (a.aZ≠[]))) (dT h) (IW rfl rfl) (gw (.bool (decide (a.aZ≠[]))) rfl (Ic rfl (dT h) rfl) (fw (.bool (decide (a.aZ≠[]))) (H6 rfl rfl rfl) (Mz rfl ?_))))))))))))))))))))
 by_cases j:a.aZ≠[]
 refine Sz (dT j) (Sz (dT j) (Sz (dT j) (Sz (dT j) (Ij rfl rfl rfl (Ij rfl rfl rfl (Ij rfl rfl rfl (Sz (dT j) (fw (.bool true) (Ic rfl (dT j) rfl) (Mz rfl (Sz rfl (Sz rfl (Sz rfl (Sz rfl (Ij rfl rfl rfl (Ij rfl rfl rfl (Ij rfl rfl rfl (Sz rfl (fw (.bool true) (Ic rfl rfl rfl) (nt (jt (sr (An rfl (rt (tR (rs ?_)))))))))))))))))))))))))
 have bI:=b.pk []
 obtain rfl:=zj hr zq6
 exact⟨rfl,bI,e8⟩
 refine Gz (vP d 0) (dF j) (Gl (vI a.aB) (dF j) b 0 B3 (gw (.bool (decide (¬ (a.aB=2)))) (dF j) (Iu (e:= !(decide (a.aB=2))) yk decide_not.symm) (gw (.bool (decide (¬ (a.aB=2)))) (dF j) (Ie rfl) ?_)))
 have P:(decide (¬ (a.aB=2)))=true:=(dT e8)
 refine Gz (vP d 2) P (Gl (.string ⟨v0 a.aO⟩) P b 0 y4 (IQ (v:= .bool (decide (a.aO≠[]))) rfl rfl P rfl (IW rfl rfl) (gw (.bool (decide (a.aO≠[]))) (dF j) (Ic rfl P rfl) (fw (.bool (decide (a.aO≠[]))) (H6 rfl (dF j) rfl) (Mz rfl ?_)))))
 by_cases l:a.aO≠[]
 refine Sz (dT l) (Sz (dT l) (Sz (dT l) (Sz (dT l) (Ij rfl rfl rfl (Ij rfl rfl rfl (Ij rfl rfl rfl (Sz (dT l) (fw (.bool true) (Ic rfl (dT l) rfl) (nt (jt (sr (An rfl (rt (tR (rs ?_)))))))))))))))
 have bJ:=b.pk []
 obtain rfl:=zj hr zq7
 exact⟨rfl,bJ,e8⟩
 refine Gz (vP d 0) (dF l) (Gl (vI a.aB) (dF l) b 0 B3 (gw (.bool (decide (¬ (a.aB=4)))) (dF l) (Iu (e:= !(decide (a.aB=4))) yk decide_not.symm) (gw (.bool (decide (¬ (a.aB=4)))) (dF l) (Ie rfl) ?_)))
 have Q:(decide (¬ (a.aB=4)))=true:=(dT e8)
 refine Gz (vP d 5) Q (Gl (vI a.bS) Q b 0 B3 (IQ (v:= .bool (decide (¬ (a.bS=0)))) rfl rfl Q rfl (Iu (e:= !(decide (a.bS=0))) yk decide_not.symm) (gw (.bool (decide (¬ (a.bS=0)))) (dF l) (Ic rfl Q rfl) (fw (.bool (decide (¬ (a.bS=0)))) (H6 rfl (dF l) rfl) (nt ?_)))))
 by_cases L:a.bS=0
 refine jF (dF (Lp L)) (sk (H7 (sr (Mz rfl (Mz rfl (Sz (dF c) (Sz (dF c) (Sz (dF c) (Sz (dF c) (fw (.bool false) (H6 rfl (dF c) rfl) (nt (jf (sk (H7 (sr (Kz (vP d 2) (Lz (.string ⟨v0 a.aO⟩) b 0 y4 (Kz (vJ a.aO.length) (Kz (.bool (decide ((a.aO.length:Int) > 16))) (nt ?_))))))))))))))))))))
 by_cases U:(a.aO.length:Int) > 16
 refine jT (dT U) (sr (An rfl (rt (tR (rs ?_)))))
 have bK:=b.pk []
 obtain rfl:=zj hr zq9
 exact⟨rfl,bK,e8⟩
 refine jF (dF U) (sk (H7 (sr (Mz rfl (Mz rfl (Gz (vP d 3) (dT h) (Gl (.string ⟨v0 a.aN⟩) (dT h) b 0 y4 (Gz (vP d 4) (dT h) (Gl (.string ⟨v0 a.aT⟩) (dT h) b 0 y4 (Gz (.agg #[.string ⟨v0 a.aN⟩, .string ⟨v0 a.aT⟩]) (dT h) ?_))))))))))
 obtain⟨V,X⟩:∃ q,pz (aj.mk a.aN a.aT)=q:=⟨_,rfl⟩
 obtain⟨dG,aS,dm,aT,dn⟩:=Ia b
 refine oh (dT h) L9 (tX _ _ (aj.mk a.aN a.aT) V aS X) ?_
 rintro _ dH ⟨rfl,aU⟩
 have aK:=aT _ _ aU
 refine gw (.bool (decide (¬ (V=0)))) (dT h) (Iu (e:= !(decide (V=0))) yk decide_not.symm) (fw (.bool (decide (¬ (V=0)))) (Ic rfl (dT h) rfl) (nt ?_))
 by_cases ax:V=0
 refine jF (dF (Lp ax)) (sk (H7 (sr (Kz (vP d 0) (Lz (vI a.aB) aK 0 B3 (Kz (.bool (decide (a.aB=4))) (Mz rfl (Sz (dF f) (Sz (dF f) (Sz (dF f) (Sz (dF f) (Ij rfl rfl rfl (Ij rfl rfl rfl (Ij rfl rfl rfl (Sz (dF f) (fw (.bool false) (H6 rfl (dF f) rfl) (nt (jf (sk (sr (An rfl (rt (rs ?_)))))))))))))))))))))))
 have bL:=aK.pk []
 obtain rfl:=zj hr zq11
 exact⟨rfl,bL,e8⟩
 refine jT (dT ax) (sr (An rfl (rt (tR (rs ?_)))))
 have bM:=aK.pk []
 obtain rfl:=zj hr zq11
 exact⟨rfl,bM,e8⟩
 refine jT (dT L) (sr (An rfl (rt (tR (rs ?_)))))
 have bN:=b.pk []
 obtain rfl:=zj hr zq8
 exact⟨rfl,bN,e8⟩
 refine Sz (dT h) (Sz (dT h) (Ij rfl rfl rfl (Ij rfl rfl rfl (Ij rfl rfl rfl (Ij rfl rfl rfl (Ij rfl rfl rfl (Ij rfl rfl rfl (Ij rfl rfl rfl (Ij rfl rfl rfl (Sz (dT h) (fw (.bool true) (Ic rfl (dT h) rfl) (Mz rfl (Sz rfl (Sz rfl (Ij rfl rfl rfl (Ij rfl rfl rfl (Ij rfl rfl rfl (Sz rfl (fw (.bool true) (Ic rfl rfl rfl) (Mz rfl (Sz rfl (Sz rfl (Sz rfl (Sz rfl (Ij rfl rfl rfl (Ij rfl rfl rfl (Ij rfl rfl rfl (Sz rfl (fw (.bool true) (Ic rfl rfl rfl) (Mz rfl (Sz rfl (Sz rfl (Sz rfl (Sz rfl (Ij rfl rfl rfl (Ij rfl rfl rfl (Ij rfl rfl rfl (Sz rfl (fw (.bool true) (Ic rfl rfl rfl) ?_)))))))))))))))))))))))))))))))))))))))
 refine nt (jt (sr (An rfl (rt (tR (rs ?_))))))
 have bO:=b.pk []
 obtain rfl:=zj hr zq5
 exact⟨rfl,bO,e8⟩
def nD:List aX->Unit ⊕ Int
  | []=>y0 ()
  | b::c=>bnd (uz b) λ a=>if a=0 then nD c else y3 (a)
def zk (a:List aX):Int:=
 lp (nD a) λ _=>0
theorem CK (w D p B C b M) (H:Own w D w []) (o:Ro w D λ w'=>bO w' 6 p B (q2 aX.cells b)) (E:B=b.length) (Q:b.length<=9223372036854775807) (hr:zk b=M):
    Calls u9 24 #[.slice p B C] w (dI λ v w'=>v=vI M/\Own w D w' []):=by
 subst E
 refine cb Tryz.func24 ?_
 refine sr (An rfl (H7 (sr (Mz rfl (Kz (vJ b.length) (Mn rfl (bo ?_)))))))
 have F:=H.pk []
 obtain⟨G,f⟩:=mI λ (a:Nat) w'=>Own w D w' []/\a<=b.length/\nD b=nD (s0 a b)
 refine y6 (λ i:Nat=> [(2,vI 0),(8,vJ i),(7,vJ b.length),(6, .slice p b.length C)]) G (λ i=>b.length - i) 0 ⟨rfl,rfl,rfl,rfl,trivial⟩ (f.2 ⟨F,e8,rfl⟩) ?_
 rintro a R r
 show Wp _ _ _ [(2,vI 0),(8,vJ a),(7,vJ b.length),(6, .slice p b.length C)] _ _
 obtain⟨g,N,h⟩:=f.1 r
 refine sr (Kz (.bool (decide ((a:Int) < (b.length:Int)))) (nt (H7 ?_)))
 by_cases s:(a:Int) < (b.length:Int)
 obtain⟨c,l⟩:=dG (ls:=b) (i:=a) aX.len f5 (g.ro o) f2
 have m:=drop_at l
 refine jT (dT s) (sk (H7 (bo (sr (fw (.pointer (some ⟨ab p,ao p+a *6,none⟩)) (Im (nN) rfl rfl ((g.ro o).addr (i:=a) e8) e8) (fw (.agg (aX.cells c).toArray) (Il rfl (Io (cs:=(aX.cells c)) Tryz.isAgg68 C2 ((g.ro o).elem aX.len l f5))) ?_))))))
 refine bW [vI 0, .string ⟨v0 []⟩, .string ⟨v0 []⟩, .string ⟨v0 []⟩, .string ⟨v0 []⟩,vI 0] 68 g ?_
 intro S T I
 refine cu (aX.cells c) 0 I C2 ?_
 intro U t
 refine ns (La (aX.cells c) t 0 Tryz.isAgg68 C2 ?_)
 obtain⟨d,j⟩:∃ q,uz c=q:=⟨_,rfl⟩
 obtain⟨V,u,O,x,P⟩:=Ia t
 refine cl Tryz.call55 (zi _ _ c d u j) ?_
 rintro _ W ⟨rfl,y,n⟩
 have z:=x _ _ y
 replace n: ¬ (d=0)\/(1<=c.aB/\c.aB<=5):=n
 refine Ar rfl (Mz rfl (fw (.bool (decide (¬ (d=0)))) (Iu (e:= !(decide (d=0))) yk decide_not.symm) (nt ?_)))
 by_cases k:d=0
 refine jF (dF (Lp k)) (IG (bN (Ib (H8 (fw (vJ (a+1)) (Ig (e:=B5.wrap ((a:Int)+1)) yk f1) (Mz rfl (B6 ?_)))))))
 have J:=z.pk []
 exact Iq (a+1) ⟨rfl,rfl,rfl,rfl,trivial⟩ (f.2 ⟨J,e8,et (h) (et (congrArg (λ q=>nD q) m) (et (ae j) (ip k)))⟩) (by show b.length - (a+1) < b.length - a; omega)
 refine jT (dT k) (sr (Mz rfl (An rfl (rt (bR (tR (tR (bR (tR (rs ?_))))))))))
 have K:=z.pk []
 obtain rfl:_=d:=zj hr (iG (et (h) (et (congrArg (λ q=>nD q) m) (et (ae j) (iN k)))))
 exact⟨rfl,K⟩
 refine jF (dF s) (B7 (Ip ?_))
 have A:nD b=y0 ():=et (h) (et (congrArg (λ q=>nD q) (eX (ls:=b) (i:=a) e8)) rfl)
 refine Ip (Iz (Ib (sr (An rfl (rt (rs ?_))))))
 have L:=g.pk []
 obtain rfl:_=0:=zj hr (lw A)
 exact⟨rfl,L⟩
def iR (f:List az):List az->Nat->Unit ⊕ Int
  | [],a=>y0 ()
  | b::c,a=>bnd (iW b.aZ) λ d=>if d=0 then if(b.aO.length:Int) > 16 then y3 (2) else if(a:Int) > 0 then bnd (y2 f (a - 1) default) λ e=>if b.aZ<=e.aZ then y3 (1) else iR f c (a+1) else iR f c (a+1) else y3 (20)
def tY (a:List az):Int:=
 lp (iR a a 0) λ _=>0
theorem yE (w D m N C c Y) (H:Own w D w []) (o:Ro w D λ w'=>bO w' 2 m N (q2 az.cells c)) (O:N=c.length) (ag:c.length *32<=211106232532992) (hr:tY c=Y):
    Calls u9 14 #[.slice m N C] w (dI λ v w'=>v=vI Y/\Own w D w' []):=by
 subst O
 refine cb Tryz.func14 ?_
 refine sr (An rfl (H7 (sr (Mz rfl (Kz (vJ c.length) (Mn rfl (bo ?_)))))))
 have P:=H.pk []
 obtain⟨Q,l⟩:=mI λ (a:Nat) w'=>Own w D w' []/\a<=c.length/\iR c c 0=iR c (s0 a c) a
 refine y6 (λ i:Nat=> [(2,vI 0),(7,vJ i),(6,vJ c.length),(5, .slice m c.length C),(0, .slice m c.length C)]) Q (λ i=>c.length - i) 0 ⟨rfl,rfl,rfl,rfl,rfl,trivial⟩ (l.2 ⟨P,e8,rfl⟩) ?_
 rintro a ah E
 show Wp _ _ _ [(2,vI 0),(7,vJ a),(6,vJ c.length),(5, .slice m c.length C),(0, .slice m c.length C)] _ _
 obtain⟨p,Z,f⟩:=l.1 E
 refine sr (Kz (.bool (decide ((a:Int) < (c.length:Int)))) (nt (H7 ?_)))
 by_cases F:(a:Int) < (c.length:Int)
 obtain⟨d,y⟩:=dG (ls:=c) (i:=a) az.len f5 (p.ro o) f2
 have h:=drop_at y
 refine jT (dT F) (sk (H7 (bo (sr (Mz rfl (fw (.pointer (some ⟨ab m,ao m+a *2,none⟩)) (Im (iP) rfl rfl ((p.ro o).addr (i:=a) e8) e8) (fw (.agg (az.cells d).toArray) (Il rfl (Io (cs:=(az.cells d)) M0 K2 ((p.ro o).elem az.len y f5))) ?_)))))))
 refine bW [.string ⟨v0 []⟩, .string ⟨v0 []⟩] 101 p ?_
 intro A ai R
 refine Az rfl ?_
 refine cu (az.cells d) 0 R K2 ?_
 intro aj G
 refine nt (H7 (sr (Kz (vP A 0) (Lz (.string ⟨v0 d.aZ⟩) G 0 y4 ?_))))
 obtain⟨r,g⟩:∃ q,iW d.aZ=q:=⟨_,rfl⟩
 obtain⟨ak,I,aa,J,af⟩:=Ia G
 refine cl L8 (l7 _ _ d.aZ r I g) ?_
 rintro _ au ⟨rfl,K,z⟩
 have u:=J _ _ K
 replace z: ¬ (r=0)\/(1<=d.aZ.length/\d.aZ.length<=12):=z
 refine fw (.bool (decide (¬ (r=0)))) (Iu (e:= !(decide (r=0))) yk decide_not.symm) (nt ?_)
 by_cases j:r=0
 refine jF (dF (Lp j)) (sk (H7 (sr (Kz (vP A 1) (Lz (.string ⟨v0 d.aO⟩) u 0 y4 (Kz (vJ d.aO.length) (Kz (.bool (decide ((d.aO.length:Int) > 16))) (nt ?_))))))))
 by_cases n:(d.aO.length:Int) > 16
 refine jT (dT n) (sr (An rfl (rt (tR (bR (tR (tR (bR (tR (rs ?_))))))))))
 have S:=u.pk []
 obtain rfl:_=2:=zj hr (iG (et (f) (et (congrArg (λ q=>iR c q a) h) (et (ae g) (et (ip j) (ip n))))))
 exact⟨rfl,S⟩
 refine jF (dF n) (sk (H7 ?_))
 refine Cf [] (Ik (bH.block (Ik (Ik (bH.block (Ik Iw)))))) u ?_
 intro av B
 refine qv 0 rfl rfl (qk (.bool (decide ((a:Int) > 0))) 1 rfl (qv 2 rfl rfl ?_))
 by_cases b:(a:Int) > 0
 refine Ii (v:= .slice m c.length C) (rs:= []) 3 rfl rfl rfl (dT b) e9 (λ _ _=>Ie rfl) (Ii (v:=vJ a) (rs:= []) 4 rfl rfl rfl (dT b) e9 (λ _ _=>Ie rfl) (Ii (v:=vJ (a - 1)) (rs:= []) 5 rfl rfl rfl (dT b) e9 (λ _ _=>Ig (e:=B5.wrap ((a:Int) - 1)) yk f1) ?_))
 obtain⟨s,t⟩:=mY (ls:=c) (i:=a - 1) f2
 refine Ii (v:= .pointer (some ⟨ab m,ao m+(a - 1) *2,none⟩)) (rs:= []) 6 rfl rfl rfl (dT b) e9 (λ _ ⟨_,L⟩=>Im (iP) rfl rfl ((L.ro o).addr (i:=a - 1) e8) e8) (Ii (v:= .pointer (some ⟨ab m,ao m+(a - 1) *2,none⟩)) (rs:= []) 7 rfl rfl rfl (dT b) e9 (λ _ _=>yk) (Ii (v:= .string ⟨v0 s.aZ⟩) (rs:= []) 8 rfl rfl rfl (dT b) e9 (λ _ ⟨_,L⟩=>Il rfl (bQ.one y4 (((L.ro o).elem az.len t f5).at_ (k:=0) rfl))) (Ii (v:=vP A 0) (rs:= []) 9 rfl rfl rfl (dT b) e9 (λ _ _=>yk) (Ii (v:= .string ⟨v0 d.aZ⟩) (rs:= []) 10 rfl rfl rfl (dT b) e9 (λ _ ⟨_,L⟩=>Il rfl (bQ.one y4 (IU (L.cls (i:=0) rfl) rfl))) (Ii (v:= .bool (decide (d.aZ<=s.aZ))) (rs:= []) 11 rfl rfl rfl (dT b) e9 (λ _ _=>Iu (e:= !(Op.bytesLess s.aZ d.aZ)) (JD rfl rfl) (Aa _ _)) (qt (v:= .bool (decide (d.aZ<=s.aZ))) 12 rfl (λ _ _=>Ic rfl (dT b) rfl) (qn (Ib ?_))))))))
 by_cases x:d.aZ<=s.aZ
 refine jT (dT x) (sr (An rfl (rt (bR (tR (tR (bR (tR (rs ?_)))))))))
 have T:=B.pk []
 obtain rfl:_=1:=zj hr (iG (et (f) (et (congrArg (λ q=>iR c q a) h) (et (ae g) (et (ip j) (et (iN n) (et (ip b) (et (ae (bu t)) (ip x)))))))))
 exact⟨rfl,T⟩
 refine jF (dF x) (IG (bN (Ib (H8 (fw (vJ (a+1)) (Ig (e:=B5.wrap ((a:Int)+1)) yk f1) (Mz rfl (B6 ?_)))))))
 have U:=B.pk []
 exact Iq (a+1) ⟨rfl,rfl,rfl,rfl,rfl,trivial⟩ (l.2 ⟨U,e8,et (f) (et (congrArg (λ q=>iR c q a) h) (et (ae g) (et (ip j) (et (iN n) (et (ip b) (et (ae (bu t)) (iN x)))))))⟩) (by show c.length - (a+1) < c.length - a; omega)
 refine Ih (rs:= []) 3 rfl rfl rfl (dF b) e9 (Ih (rs:= []) 4 rfl rfl rfl (dF b) e9 (Ih (rs:= []) 5 rfl rfl rfl (dF b) e9 (Ih (rs:= []) 6 rfl rfl rfl (dF b) e9 (Ih (rs:= []) 7 rfl rfl rfl (dF b) e9 (Ih (rs:= []) 8 rfl rfl rfl (dF b) e9 (Ih (rs:= []) 9 rfl rfl rfl (dF b) e9 (Ih (rs:= []) 10 rfl rfl rfl (dF b) e9 (Ih (rs:= []) 11 rfl rfl rfl (dF b) e9 (qt (v:= .bool false) 12 rfl (λ _ _=>H6 rfl (dF b) rfl) (qn (Ib (jf (IG (bN (Ib (H8 (fw (vJ (a+1)) (Ig (e:=B5.wrap ((a:Int)+1)) yk f1) (Mz rfl (B6 ?_)))))))))))))))))))
 have V:=B.pk []
 exact Iq (a+1) ⟨rfl,rfl,rfl,rfl,rfl,trivial⟩ (l.2 ⟨V,e8,et (f) (et (congrArg (λ q=>iR c q a) h) (et (ae g) (et (ip j) (et (iN n) (iN b)))))⟩) (by show c.length - (a+1) < c.length - a; omega)
 refine jT (dT j) (sr (An rfl (rt (tR (bR (tR (tR (bR (tR (rs ?_))))))))))
 have W:=u.pk []
 obtain rfl:_=20:=zj hr (iG (et (f) (et (congrArg (λ q=>iR c q a) h) (et (ae g) (iN j)))))
 exact⟨rfl,W⟩
 refine jF (dF F) (B7 (Ip ?_))
 have M:iR c c 0=y0 ():=et (f) (et (congrArg (λ q=>iR c q a) (eX (ls:=c) (i:=a) e8)) rfl)
 refine Ip (Iz (Ib (sr (An rfl (rt (rs ?_))))))
 have X:=p.pk []
 obtain rfl:_=0:=zj hr (lw M)
 exact⟨rfl,X⟩
def kY (c:List UInt8):List az->Unit ⊕ ((List UInt8) × Bool)
  | []=>y0 ()
  | a::b=>if a.aZ=c then y3 (a.aO,true) else kY c b
def qA (a:List az) (b:List UInt8):(List UInt8) × Bool:=
 lp (kY b a) λ _=>([],false)
theorem xA (w D o u x b d G I) (H:Own w D w []) (n:Ro w D λ w'=>bO w' 2 o u (q2 az.cells b)) (y:u=b.length) (K:b.length *32<=211106232532992) (hr:qA b d=(G,I)):
    Calls u9 56 #[.slice o u x, .string ⟨v0 d⟩] w (dI λ v w'=>v= .tuple #[.string ⟨v0 G⟩, .bool I]/\Own w D w' []):=by
 subst y
 refine cb Tryz.func56 ?_
 refine sr (Az rfl (An rfl (H7 (sr (Mz rfl (Kz (vJ b.length) (Mn rfl (bo ?_))))))))
 have z:=H.pk []
 obtain⟨A,f⟩:=mI λ (a:Nat) w'=>Own w D w' []/\a<=b.length/\kY d b=kY d (s0 a b)
 refine y6 (λ i:Nat=> [(4, .string ⟨v0 []⟩),(5, .bool false),(10,vJ i),(9,vJ b.length),(8, .slice o b.length x),(1, .string ⟨v0 d⟩)]) A (λ i=>b.length - i) 0 ⟨rfl,rfl,rfl,rfl,rfl,rfl,trivial⟩ (f.2 ⟨z,e8,rfl⟩) ?_
 rintro a L p
 show Wp _ _ _ [(4, .string ⟨v0 []⟩),(5, .bool false),(10,vJ a),(9,vJ b.length),(8, .slice o b.length x),(1, .string ⟨v0 d⟩)] _ _
 obtain⟨g,J,h⟩:=f.1 p
 refine sr (Kz (.bool (decide ((a:Int) < (b.length:Int)))) (nt (H7 ?_)))
 by_cases r:(a:Int) < (b.length:Int)
 obtain⟨c,l⟩:=dG (ls:=b) (i:=a) az.len f5 (g.ro n) f2
 have m:=drop_at l
 refine jT (dT r) (sk (H7 (bo (sr (fw (.pointer (some ⟨ab o,ao o+a *2,none⟩)) (Im (iP) rfl rfl ((g.ro n).addr (i:=a) e8) e8) (fw (.agg (az.cells c).toArray) (Il rfl (Io (cs:=(az.cells c)) M0 K2 ((g.ro n).elem az.len l f5))) ?_))))))
 refine bW [.string ⟨v0 []⟩, .string ⟨v0 []⟩] 101 g ?_
 intro s M B
 refine cu (az.cells c) 0 B K2 ?_
 intro N j
 refine ns (Kz (vP s 0) (Lz (.string ⟨v0 c.aZ⟩) j 0 y4 (Mz rfl (fw (.bool (decide (c.aZ=d))) (Jq rfl rfl) (nt ?_)))))
 by_cases k:c.aZ=d
 refine jT (dT k) (sr (Kz (vP s 1) (Lz (.string ⟨v0 c.aO⟩) j 0 y4 (Az rfl (An rfl (rt (bR (tR (tR (bR (tR (Ir (kD rfl rfl rfl) ?_))))))))))))
 have C:=j.pk []
 obtain⟨rfl,rfl⟩:=fB (zj hr (show _=(c.aO,true) from iG (et (h) (et (congrArg (λ q=>kY d q) m) (ip k)))))
 exact⟨rfl,C⟩
 refine jF (dF k) (IG (bN (Ib (H8 (fw (vJ (a+1)) (Ig (e:=B5.wrap ((a:Int)+1)) yk f1) (Mz rfl (B6 ?_)))))))
 have E:=j.pk []
 exact Iq (a+1) ⟨rfl,rfl,rfl,rfl,rfl,rfl,trivial⟩ (f.2 ⟨E,e8,et (h) (et (congrArg (λ q=>kY d q) m) (iN k))⟩) (by show b.length - (a+1) < b.length - a; omega)
 refine jF (dF r) (B7 (Ip ?_))
 have t:kY d b=y0 ():=et (h) (et (congrArg (λ q=>kY d q) (eX (ls:=b) (i:=a) e8)) rfl)
 refine Ip (Iz (Ib (sr (Az rfl (An rfl (rt (Ir (kD rfl rfl rfl) ?_)))))))
 have F:=g.pk []
 obtain⟨rfl,rfl⟩:=fB (zj hr (show _=([],false) from lw t))
 exact⟨rfl,F⟩
def uN (c:aj) (d:List UInt8):Bool:=
 bnd (pz c) λ a=>if a=0 then bnd (iW d) λ b=>if b=0 then if c.aN<=d then if c.aT=[] then true else decide (d < c.aT) else false else false else false
theorem yF (w D) (f:aj) (h F) (H:Own w D w []) (hr:uN f h=F):
    Calls u9 98 #[.agg (aj.cells f).toArray, .string ⟨v0 h⟩] w (dI λ v w'=>v= .bool F/\Own w D w' []):=by
 unfold uN at hr
 refine cb Tryz.func98 ?_
 refine sr ?_
 refine bW (aj.cells f) 37 H ?_
 intro m L o
 refine Ar rfl (La (aj.cells f) o 0 C6 C5 ?_)
 obtain⟨n,g⟩:∃ q,pz f=q:=⟨_,rfl⟩
 obtain⟨M,p,G,r,I⟩:=Ia o
 refine cl L9 (tX _ _ f n p g) ?_
 rintro _ N ⟨rfl,s⟩
 have t:=r _ _ s
 refine Kz (.bool (decide (n=0))) (Mz rfl ?_)
 by_cases c:n=0
 refine gw (.string ⟨v0 h⟩) (dT c) (Ie rfl) ?_
 obtain⟨k,i⟩:∃ q,iW h=q:=⟨_,rfl⟩
 obtain⟨O,u,J,x,K⟩:=Ia t
 refine oh (dT c) L8 (l7 _ _ h k u i) ?_
 rintro _ P ⟨rfl,y,l⟩
 have j:=x _ _ y
 replace l: ¬ (k=0)\/(1<=h.length/\h.length<=12):=l
 refine Gz (.bool (decide (k=0))) (dT c) (fw (.bool (decide (k=0))) (Ic rfl (dT c) rfl) (Mz rfl ?_))
 by_cases b:k=0
 refine gw (.string ⟨v0 h⟩) (dT b) (Ie rfl) (Gz (vP m 0) (dT b) (Gl (.string ⟨v0 f.aN⟩) (dT b) j 0 y4 (gw (.bool (decide (f.aN<=h))) (dT b) (Iu (e:= !(Op.bytesLess h f.aN)) (JD rfl rfl) (Aa _ _)) (fw (.bool (decide (f.aN<=h))) (Ic rfl (dT b) rfl) (Mz rfl ?_)))))
 by_cases a:f.aN<=h
 refine Gz (vP m 1) (dT a) (Gl (.string ⟨v0 f.aT⟩) (dT a) j 0 y4 (gw (.bool (decide (f.aT=[]))) (dT a) (Jq rfl rfl) (gw (.bool (decide (f.aT=[]))) (dT a) (Ie rfl) ?_)))
 by_cases d:f.aT=[]
 refine Sz (dT d) (Sz (dT d) (Sz (dT d) (Sz (dT d) (gw (.bool true) (dT a) (Ic rfl (dT d) rfl) (fw (.bool true) (Ic rfl (dT a) rfl) (An rfl (rt (rs ?_))))))))
 have z:=j.pk []
 obtain rfl:=zj hr zq6
 exact⟨rfl,z⟩
 refine gw (.string ⟨v0 h⟩) (dF d) (Ie rfl) (Gz (vP m 1) (dF d) (Gl (.string ⟨v0 f.aT⟩) (dF d) j 0 y4 (gw (.bool (decide (h < f.aT))) (dF d) (Iu (e:=Op.bytesLess h f.aT) (JP rfl rfl) (yl _ _)) (gw (.bool (decide (h < f.aT))) (dT a) (H6 rfl (dF d) rfl) (fw (.bool (decide (h < f.aT))) (Ic rfl (dT a) rfl) (An rfl (rt (rs ?_))))))))
 have A:=j.pk []
 obtain rfl:=zj hr zq6
 exact⟨rfl,A⟩
 refine Sz (dF a) (Sz (dF a) (Sz (dF a) (Sz (dF a) (Ij rfl rfl rfl (Ij rfl rfl rfl (Ij rfl rfl rfl (Ij rfl rfl rfl (Sz (dF a) (fw (.bool false) (H6 rfl (dF a) rfl) (An rfl (rt (rs ?_))))))))))))
 have B:=j.pk []
 obtain rfl:=zj hr zq5
 exact⟨rfl,B⟩
 refine Sz (dF b) (Sz (dF b) (Sz (dF b) (Sz (dF b) (fw (.bool false) (H6 rfl (dF b) rfl) (Mz rfl (Sz rfl (Sz rfl (Sz rfl (Sz rfl (Ij rfl rfl rfl (Ij rfl rfl rfl (Ij rfl rfl rfl (Ij rfl rfl rfl (Sz rfl (fw (.bool false) (H6 rfl rfl rfl) (An rfl (rt (rs ?_))))))))))))))))))
 have C:=j.pk []
 obtain rfl:=zj hr zq4
 exact⟨rfl,C⟩
 refine Sz (dF c) (Sz (dF c) (Sz (dF c) (fw (.bool false) (H6 rfl (dF c) rfl) (Mz rfl (Sz rfl (Sz rfl (Sz rfl (Sz rfl (fw (.bool false) (H6 rfl rfl rfl) (Mz rfl (Sz rfl (Sz rfl (Sz rfl (Sz rfl (Ij rfl rfl rfl (Ij rfl rfl rfl (Ij rfl rfl rfl (Ij rfl rfl rfl (Sz rfl (fw (.bool false) (H6 rfl rfl rfl) (An rfl (rt (rs ?_)))))))))))))))))))))))
 have E:=t.pk []
 obtain rfl:=zj hr zq2
 exact⟨rfl,E⟩
def iQ (e:aj):List az->List az->(List az)
  | [],a=>a
  | b::c,a=>bnd (uN e b.aZ) λ d=>if d=true then iQ e c a else iQ e c (a++ [b])
def nH (a:List az) (b:aj):(List az):=
 bnd (iQ b a []) λ sLrL=>sLrL
theorem uO (w D E O P d) (f:aj) (F) (H:Own w D w []) (x:Ro w D λ w'=>bO w' 2 E O (q2 az.cells d)) (Q:O=d.length) (aD:d.length *32<=211106232532992) (hr:nH d f=F):
    Calls u9 59 #[.slice E O P, .agg (aj.cells f).toArray] w (dI λ v w'=> ∃ B0 b0,v= .slice B0 F.length b0/\Own w D w' [row B0 F.length b0 (q2 az.cells F) 101 2]/\(F.length<=d.length)):=by
 unfold nH at hr
 subst Q
 refine cb Tryz.func59 ?_
 refine sr ?_
 refine bW (aj.cells f) 37 H ?_
 intro r R S
 refine Ar rfl (An rfl (H7 (sr (Mz rfl (Kz (vJ d.length) (Mn rfl (bo ?_)))))))
 have T:Own w D R [row none 0 0 (q2 az.cells []) 101 2,blk r (aj.cells f) 37]:=S.free (bZ 101 2)
 have U:=T.pb [0]
 obtain⟨V,g⟩:=vQ λ h (j:Nat) b (a:Nat) w'=>Own w D w' [blk r (aj.cells f) 37,row h b.length j (q2 az.cells b) 101 2]/\a<=d.length/\b.length<=a/\iQ f d []=iQ f (s0 a d) b
 refine y6 (λ i:(Option Addr) × Nat × (List az) × Nat=> [(5, .slice i.1 i.2.2.1.length i.2.1),(10,vJ i.2.2.2),(9,vJ d.length),(8, .slice E d.length P),(4, .slice none 0 0),(3,vP r 0)]) V (λ i=>d.length - i.2.2.2) (none,0, [],0) ⟨rfl,rfl,rfl,rfl,rfl,rfl,trivial⟩ (g.2 ⟨U,(show 0<=d.length/\0<=0/\iQ f d []=iQ f (s0 0 d) [] from ⟨e8,e8,rfl⟩)⟩) ?_
 rintro ⟨h,j,b,a⟩ aF G
 show Wp _ _ _ [(5, .slice h b.length j),(10,vJ a),(9,vJ d.length),(8, .slice E d.length P),(4, .slice none 0 0),(3,vP r 0)] _ _
 obtain⟨l,ax,ay,n⟩:=g.1 G
 refine sr (Kz (.bool (decide ((a:Int) < (d.length:Int)))) (nt (H7 ?_)))
 by_cases I:(a:Int) < (d.length:Int)
 obtain⟨c,t⟩:=dG (ls:=d) (i:=a) az.len f5 (l.ro x) f2
 have u:=drop_at t
 refine jT (dT I) (sk (H7 (bo (sr (fw (.pointer (some ⟨ab E,ao E+a *2,none⟩)) (Im (iP) rfl rfl ((l.ro x).addr (i:=a) e8) e8) (fw (.agg (az.cells c).toArray) (Il rfl (Io (cs:=(az.cells c)) M0 K2 ((l.ro x).elem az.len t f5))) ?_))))))
 refine bW [.string ⟨v0 []⟩, .string ⟨v0 []⟩] 101 l ?_
 intro W aG X
 refine cu (az.cells c) 0 X K2 ?_
 intro aH z
 refine ns (La (aj.cells f) z 1 C6 C5 (Kz (vP W 0) (Lz (.string ⟨v0 c.aZ⟩) z 0 y4 ?_)))
 obtain⟨A,o⟩:∃ q,uN f c.aZ=q:=⟨_,rfl⟩
 obtain⟨aI,J,aA,K,aB⟩:=Ia z
 refine cl Tryz.call98 (yF _ _ f c.aZ A J o) ?_
 rintro _ aJ ⟨rfl,L⟩
 have B:=K _ _ L
 refine Kz (.bool (!A)) (nt ?_)
 rcases Lr (A) with p | p
 refine jF (cn p) (IG (bN (Ib (H8 (fw (vJ (a+1)) (Ig (e:=B5.wrap ((a:Int)+1)) yk f1) (Mz rfl (B6 ?_)))))))
 have Y:=B.pk [1,2]
 exact Iq (h,j,b,a+1) ⟨rfl,rfl,rfl,rfl,rfl,rfl,trivial⟩ (g.2 ⟨Y,e8,e8,et (n) (et (congrArg (λ q=>iQ f q b) u) (et (ae o) (ip p)))⟩) (by show d.length - (a+1) < d.length - a; omega)
 refine jT (cn p) (H8 (Mz rfl (La (az.cells c) B 0 M0 K2 ?_)))
 refine jN (az.cells c) 101 2 1 B ?_
 intro Z aK C
 replace C:=IL (y:=row Z 1 1 (q2 az.cells ([c])) 101 2) rfl C
 have M:=C.pf [3]
 refine WL.do rfl (IC (k:=b.length) (m:=1) (iP) M rfl rfl (eY G3 (M.rds (i:=1) rfl) (cZ az.one ([c]))) rfl e8 (s:=q7 (b++ [c])) f3 (t7).symm ?_)
 intro aa af aL ag
 have aC:q7 (b++ [c])=b.length+1:=by simp only [o0,r5,K1]
 refine Az rfl (B6 (bN (Ib (H8 (fw (vJ (a+1)) (Ig (e:=B5.wrap ((a:Int)+1)) yk f1) (Mz rfl (B6 ?_)))))))
 have ah:=ag.pk [3,0]
 exact Iq (aa,af,(b++ [c]),a+1) ⟨rfl,rfl,rfl,rfl,rfl,rfl,trivial⟩ (g.2 ⟨ah,e8,e8,et (n) (et (congrArg (λ q=>iQ f q b) u) (et (ae o) (eF p)))⟩) (by show d.length - (a+1) < d.length - a; omega)
 refine jF (dF I) (B7 (Ip ?_))
 have N:iQ f d []=b:=et (n) (et (congrArg (λ q=>iQ f q b) (eX (ls:=d) (i:=a) e8)) rfl)
 refine Ip (Iz (Ib (H7 ?_)))
 have ai:=l.pk [1]
 refine H8 (Mz rfl (An rfl (rt (rs ?_))))
 have ak:=ai.pf []
 obtain rfl:=zj hr zq1
 exact⟨h,j,rfl,ak,i0⟩
def fK (e:az):List az->List az->Bool->(List az) × Bool
  | [],a,b=>(a,b)
  | c::d,a,b=>if b=true then if c.aZ≠e.aZ then fK e d (a++ [c]) b else fK e d a b else if e.aZ<=c.aZ then if c.aZ≠e.aZ then fK e d ((a++ [e])++ [c]) true else fK e d (a++ [e]) true else if c.aZ≠e.aZ then fK e d (a++ [c]) b else fK e d a b
def xc (b:List az) (a:az):(List az):=
 bnd (fK a b [] false) λ sLrL=>if sLrL.2=true then sLrL.1 else(sLrL.1++ [a])
theorem CL (w D Q n0 c0 h) (d:az) (R) (H:Own w D w []) (L:Ro w D λ w'=>bO w' 2 Q n0 (q2 az.cells h)) (ak:n0=h.length) (bD:h.length *32<=211106232532992) (bE:(h.length+1) *32<=211106232532992) (hr:xc h d=R):
    Calls u9 57 #[.slice Q n0 c0, .agg (az.cells d).toArray] w (dI λ v w'=> ∃ B0 b0,v= .slice B0 R.length b0/\Own w D w' [row B0 R.length b0 (q2 az.cells R) 101 2]/\(R.length<=h.length+1)):=by
 unfold xc at hr
 subst ak
 refine cb Tryz.func57 ?_
 refine sr ?_
 refine bW (az.cells d) 101 H ?_
 intro p au av
 refine Ar rfl (Ar rfl (An rfl (H7 (sr (Mz rfl (Kz (vJ h.length) (Mn rfl (bo ?_))))))))
 have ax:Own w D au [row none 0 0 (q2 az.cells []) 101 2,blk p (az.cells d) 101]:=av.free (bZ 101 2)
 have ay:=ax.pb [0]
 obtain⟨aA,l⟩:=FU λ u (x:Nat) b f (a:Nat) w'=>Own w D w' [blk p (az.cells d) 101,row u b.length x (q2 az.cells b) 101 2]/\a<=h.length/\b.length<=a+Bool.toNat f/\fK d h [] false=fK d (s0 a h) b f
 refine y6 (λ i:(Option Addr) × Nat × (List az) × Bool × Nat=> [(5, .slice i.1 i.2.2.1.length i.2.1),(6, .bool i.2.2.2.1),(11,vJ i.2.2.2.2),(10,vJ h.length),(9, .slice Q h.length c0),(4, .slice none 0 0),(3,vP p 0)]) aA (λ i=>h.length - i.2.2.2.2) (none,0, [],false,0) ⟨rfl,rfl,rfl,rfl,rfl,rfl,rfl,trivial⟩ (l.2 ⟨ay,(show 0<=h.length/\0<=0+0/\fK d h [] false=fK d (s0 0 h) [] false from ⟨e8,e8,rfl⟩)⟩) ?_
 rintro ⟨u,x,b,f,a⟩ bF S
 show Wp _ _ _ [(5, .slice u b.length x),(6, .bool f),(11,vJ a),(10,vJ h.length),(9, .slice Q h.length c0),(4, .slice none 0 0),(3,vP p 0)] _ _
 obtain⟨r,bn,bq,n⟩:=l.1 S
 refine sr (Kz (.bool (decide ((a:Int) < (h.length:Int)))) (nt (H7 ?_)))
 by_cases T:(a:Int) < (h.length:Int)
 obtain⟨c,I⟩:=dG (ls:=h) (i:=a) az.len f5 (r.ro L) f2
 have o:=drop_at I
 refine jT (dT T) (sk (H7 (bo (sr (fw (.pointer (some ⟨ab Q,ao Q+a *2,none⟩)) (Im (iP) rfl rfl ((r.ro L).addr (i:=a) e8) e8) (fw (.agg (az.cells c).toArray) (Il rfl (Io (cs:=(az.cells c)) M0 K2 ((r.ro L).elem az.len I f5))) ?_))))))
 refine bW [.string ⟨v0 []⟩, .string ⟨v0 []⟩] 101 r ?_
 intro C bG aB
 refine cu (az.cells c) 0 aB K2 ?_
 intro bH j
 refine nt (H7 (sr (Mz rfl (Kz (.bool (!f)) (Mz rfl ?_)))))
 rcases Lr (f) with g | g
 have h49t:Bool.toNat f=1:=by rw [g]; rfl
 refine Sz (cn g) (Sz (cn g) (Sz (cn g) (Sz (cn g) (Sz (cn g) (fw (.bool false) (H6 rfl (cn g) rfl) (nt (jf (sk (sr (Kz (vP C 0) (Lz (.string ⟨v0 c.aZ⟩) j 0 y4 (Kz (vP p 0) (Lz (.string ⟨v0 d.aZ⟩) j 1 y4 (fw (.bool (decide (c.aZ≠d.aZ))) (IW rfl rfl) (nt ?_)))))))))))))))
 by_cases E:c.aZ≠d.aZ
 refine jT (dT E) (H8 (Mz rfl (La (az.cells c) j 0 M0 K2 ?_)))
 refine jN (az.cells c) 101 2 1 j ?_
 intro aC bI M
 replace M:=IL (y:=row aC 1 1 (q2 az.cells ([c])) 101 2) rfl M
 have U:=M.pf [3]
 refine WL.do rfl (IC (k:=b.length) (m:=1) (iP) U rfl rfl (eY G3 (U.rds (i:=1) rfl) (cZ az.one ([c]))) rfl e8 (s:=q7 (b++ [c])) f3 (t7).symm ?_)
 intro aD aF bJ aG
 have bu:q7 (b++ [c])=b.length+1:=by simp only [o0,r5,K1]
 refine Az rfl (B6 (bN (Ib (H8 (fw (vJ (a+1)) (Ig (e:=B5.wrap ((a:Int)+1)) yk f1) (Mz rfl (B6 ?_)))))))
 have aH:=aG.pk [3,0]
 exact Iq (aD,aF,(b++ [c]),f,a+1) ⟨rfl,rfl,rfl,rfl,rfl,rfl,rfl,trivial⟩ (l.2 ⟨aH,e8,e8,et (n) (et (congrArg (λ q=>fK d q b f) o) (et (ip g) (ip E)))⟩) (by show h.length - (a+1) < h.length - a; omega)
 refine jF (dF E) (IG (bN (Ib (H8 (fw (vJ (a+1)) (Ig (e:=B5.wrap ((a:Int)+1)) yk f1) (Mz rfl (B6 ?_)))))))
 have aI:=j.pk [1,2]
 exact Iq (u,x,b,f,a+1) ⟨rfl,rfl,rfl,rfl,rfl,rfl,rfl,trivial⟩ (l.2 ⟨aI,e8,e8,et (n) (et (congrArg (λ q=>fK d q b f) o) (et (ip g) (iN E)))⟩) (by show h.length - (a+1) < h.length - a; omega)
 have h49t:Bool.toNat f=0:=by rw [g]; rfl
 refine Gz (vP C 0) (cn g) (Gl (.string ⟨v0 c.aZ⟩) (cn g) j 0 y4 (Gz (vP p 0) (cn g) (Gl (.string ⟨v0 d.aZ⟩) (cn g) j 1 y4 (gw (.bool (decide (d.aZ<=c.aZ))) (cn g) (Iu (e:= !(Op.bytesLess c.aZ d.aZ)) (JD rfl rfl) (Aa _ _)) (fw (.bool (decide (d.aZ<=c.aZ))) (Ic rfl (cn g) rfl) (nt ?_))))))
 by_cases z:d.aZ<=c.aZ
 refine jT (dT z) (sr (Mz rfl (La (az.cells d) j 1 M0 K2 ?_)))
 refine jN (az.cells d) 101 2 1 j ?_
 intro aJ bK N
 replace N:=IL (y:=row aJ 1 1 (q2 az.cells ([d])) 101 2) rfl N
 have V:=N.pf [3]
 refine WL.do rfl (IC (k:=b.length) (m:=1) (iP) V rfl rfl (eY G3 (V.rds (i:=1) rfl) (cZ az.one ([d]))) rfl e8 (s:=q7 (b++ [d])) f3 (t7).symm ?_)
 intro aK aL bL A
 have bv:q7 (b++ [d])=b.length+1:=by simp only [o0,r5,K1]
 refine An rfl (H8 (Ar rfl (Kz (vP C 0) (Lz (.string ⟨v0 c.aZ⟩) A 2 y4 (Kz (vP p 0) (Lz (.string ⟨v0 d.aZ⟩) A 3 y4 (fw (.bool (decide (c.aZ≠d.aZ))) (IW rfl rfl) (nt ?_))))))))
 by_cases F:c.aZ≠d.aZ
 refine jT (dT F) (H8 (Mz rfl (La (az.cells c) A 2 M0 K2 ?_)))
 refine jN (az.cells c) 101 2 1 A ?_
 intro aM bM O
 replace O:=IL (y:=row aM 1 1 (q2 az.cells ([c])) 101 2) rfl O
 have W:=O.pf [1]
 refine WL.do rfl (IC (k:=q7 (b++ [d])) (m:=1) (iP) W rfl rfl (eY G3 (W.rds (i:=1) rfl) (cZ az.one ([c]))) rfl e8 (s:=q7 ((b++ [d])++ [c])) f3 (t7).symm ?_)
 intro aN aO bP aP
 have bz:q7 ((b++ [d])++ [c])=(q7 (b++ [d]))+1:=by simp only [o0,r5,K1]
 refine Az rfl (B6 (bN (Ib (H8 (fw (vJ (a+1)) (Ig (e:=B5.wrap ((a:Int)+1)) yk f1) (Mz rfl (B6 ?_)))))))
 have aQ:=aP.pk [4,0]
 exact Iq (aN,aO,((b++ [d])++ [c]),true,a+1) ⟨rfl,rfl,rfl,rfl,rfl,rfl,rfl,trivial⟩ (l.2 ⟨aQ,(show (a+1)<=h.length/\q7 ((b++ [d])++ [c])<=(a+1)+1/\fK d h [] false=fK d (s0 (a+1) h) ((b++ [d])++ [c]) true from ⟨e8,e8,et (n) (et (congrArg (λ q=>fK d q b f) o) (et (eF g) (et (ip z) (ip F))))⟩)⟩) (by show h.length - (a+1) < h.length - a; omega)
 refine jF (dF F) (IG (bN (Ib (H8 (fw (vJ (a+1)) (Ig (e:=B5.wrap ((a:Int)+1)) yk f1) (Mz rfl (B6 ?_)))))))
 have aR:=A.pk [3,0]
 exact Iq (aK,aL,(b++ [d]),true,a+1) ⟨rfl,rfl,rfl,rfl,rfl,rfl,rfl,trivial⟩ (l.2 ⟨aR,(show (a+1)<=h.length/\q7 (b++ [d])<=(a+1)+1/\fK d h [] false=fK d (s0 (a+1) h) (b++ [d]) true from ⟨e8,e8,et (n) (et (congrArg (λ q=>fK d q b f) o) (et (eF g) (et (ip z) (iN F))))⟩)⟩) (by show h.length - (a+1) < h.length - a; omega)
 refine jF (dF z) (sk (sr (Kz (vP C 0) (Lz (.string ⟨v0 c.aZ⟩) j 0 y4 (Kz (vP p 0) (Lz (.string ⟨v0 d.aZ⟩) j 1 y4 (fw (.bool (decide (c.aZ≠d.aZ))) (IW rfl rfl) (nt ?_))))))))
 by_cases G:c.aZ≠d.aZ
 refine jT (dT G) (H8 (Mz rfl (La (az.cells c) j 0 M0 K2 ?_)))
 refine jN (az.cells c) 101 2 1 j ?_
 intro aS bQ P
 replace P:=IL (y:=row aS 1 1 (q2 az.cells ([c])) 101 2) rfl P
 have X:=P.pf [3]
 refine WL.do rfl (IC (k:=b.length) (m:=1) (iP) X rfl rfl (eY G3 (X.rds (i:=1) rfl) (cZ az.one ([c]))) rfl e8 (s:=q7 (b++ [c])) f3 (t7).symm ?_)
 intro aT aU bR aV
 have bA:q7 (b++ [c])=b.length+1:=by simp only [o0,r5,K1]
 refine Az rfl (B6 (bN (Ib (H8 (fw (vJ (a+1)) (Ig (e:=B5.wrap ((a:Int)+1)) yk f1) (Mz rfl (B6 ?_)))))))
 have aW:=aV.pk [3,0]
 exact Iq (aT,aU,(b++ [c]),f,a+1) ⟨rfl,rfl,rfl,rfl,rfl,rfl,rfl,trivial⟩ (l.2 ⟨aW,e8,e8,et (n) (et (congrArg (λ q=>fK d q b f) o) (et (eF g) (et (iN z) (ip G))))⟩) (by show h.length - (a+1) < h.length - a; omega)
 refine jF (dF G) (IG (bN (Ib (H8 (fw (vJ (a+1)) (Ig (e:=B5.wrap ((a:Int)+1)) yk f1) (Mz rfl (B6 ?_)))))))
 have aX:=j.pk [1,2]
 exact Iq (u,x,b,f,a+1) ⟨rfl,rfl,rfl,rfl,rfl,rfl,rfl,trivial⟩ (l.2 ⟨aX,e8,e8,et (n) (et (congrArg (λ q=>fK d q b f) o) (et (eF g) (et (iN z) (iN G))))⟩) (by show h.length - (a+1) < h.length - a; omega)
 refine jF (dF T) (B7 (Ip ?_))
 have J:fK d h [] false=(b,f):=et (n) (et (congrArg (λ q=>fK d q b f) (eX (ls:=h) (i:=a) e8)) rfl)
 refine Ip (Iz (Ib (H7 (sr (Mz rfl (Kz (.bool (!f)) (nt ?_)))))))
 rcases Lr (f) with t | t
 have h97t:Bool.toNat f=1:=by rw [t]; rfl
 refine jF (cn t) (sk (H7 ?_))
 have aY:=r.pk [1]
 refine H8 (Mz rfl (An rfl (rt (rs ?_))))
 have aZ:=aY.pf []
 obtain rfl:=zj hr zq2
 exact⟨u,x,rfl,aZ,e8⟩
 have h97t:Bool.toNat f=0:=by rw [t]; rfl
 refine jT (cn t) (H8 (Mz rfl (La (az.cells d) r 0 M0 K2 ?_)))
 refine jN (az.cells d) 101 2 1 r ?_
 intro Y bB B
 replace B:=IL (y:=row Y 1 1 (q2 az.cells ([d])) 101 2) rfl B
 have K:=B.pf [2]
 refine WL.do rfl (IC (k:=b.length) (m:=1) (iP) K rfl rfl (eY G3 (K.rds (i:=1) rfl) (cZ az.one ([d]))) rfl e8 (s:=q7 (b++ [d])) f3 (t7).symm ?_)
 intro Z aa bC af
 have bf:q7 (b++ [d])=b.length+1:=by simp only [o0,r5,K1]
 refine An rfl (H7 ?_)
 have ag:=af.pk [0]
 refine H8 (Mz rfl (An rfl (rt (rs ?_))))
 have ah:=ag.pf []
 obtain rfl:_=(b++ [d]):=zj hr (et (ae J) (eF t))
 exact⟨Z,aa,rfl,ah,e8⟩
def gG (e:aj) (d:Int):List az->List az->(List az)
  | [],a=>a
  | c::b,a=>bnd (uN e c.aZ) λ f=>if f=true then if d < 0 then gG e d b (a++ [c]) else if(a.length:Int) < d then gG e d b (a++ [c]) else gG e d b a else gG e d b a
def pK (a:List az) (b:aj) (c:Int):(List az):=
 bnd (gG b c a []) λ sLrL=>sLrL
theorem vS (w D I T U f) (l:aj) (h J) (H:Own w D w []) (C:Ro w D λ w'=>bO w' 2 I T (q2 az.cells f)) (V:T=f.length) (aQ:f.length *32<=211106232532992) (hr:pK f l h=J):
    Calls u9 60 #[.slice I T U, .agg (aj.cells l).toArray,vI h] w (dI λ v w'=> ∃ B0 b0,v= .slice B0 J.length b0/\Own w D w' [row B0 J.length b0 (q2 az.cells J) 101 2]/\(J.length<=f.length)):=by
 unfold pK at hr
 subst V
 refine cb Tryz.func60 ?_
 refine sr ?_
 refine bW (aj.cells l) 37 H ?_
 intro z W X
 refine Ar rfl (An rfl (H7 (sr (Mz rfl (Kz (vJ f.length) (Mn rfl (bo ?_)))))))
 have Y:Own w D W [row none 0 0 (q2 az.cells []) 101 2,blk z (aj.cells l) 37]:=X.free (bZ 101 2)
 have Z:=Y.pb [0]
 obtain⟨aa,j⟩:=vQ λ p (r:Nat) a (b:Nat) w'=>Own w D w' [blk z (aj.cells l) 37,row p a.length r (q2 az.cells a) 101 2]/\b<=f.length/\a.length<=b/\gG l h f []=gG l h (s0 b f) a
 refine y6 (λ i:(Option Addr) × Nat × (List az) × Nat=> [(7, .slice i.1 i.2.2.1.length i.2.1),(12,vJ i.2.2.2),(11,vJ f.length),(10, .slice I f.length U),(6, .slice none 0 0),(4,vP z 0),(2,vI h)]) aa (λ i=>f.length - i.2.2.2) (none,0, [],0) ⟨rfl,rfl,rfl,rfl,rfl,rfl,rfl,trivial⟩ (j.2 ⟨Z,(show 0<=f.length/\0<=0/\gG l h f []=gG l h (s0 0 f) [] from ⟨e8,e8,rfl⟩)⟩) ?_
 rintro ⟨p,r,a,b⟩ aR K
 show Wp _ _ _ [(7, .slice p a.length r),(12,vJ b),(11,vJ f.length),(10, .slice I f.length U),(6, .slice none 0 0),(4,vP z 0),(2,vI h)] _ _
 obtain⟨x,aK,aL,n⟩:=j.1 K
 refine sr (Kz (.bool (decide ((b:Int) < (f.length:Int)))) (nt (H7 ?_)))
 by_cases L:(b:Int) < (f.length:Int)
 obtain⟨c,B⟩:=dG (ls:=f) (i:=b) az.len f5 (x.ro C) f2
 have t:=drop_at B
 refine jT (dT L) (sk (H7 (bo (sr (fw (.pointer (some ⟨ab I,ao I+b *2,none⟩)) (Im (iP) rfl rfl ((x.ro C).addr (i:=b) e8) e8) (fw (.agg (az.cells c).toArray) (Il rfl (Io (cs:=(az.cells c)) M0 K2 ((x.ro C).elem az.len B f5))) ?_))))))
 refine bW [.string ⟨v0 []⟩, .string ⟨v0 []⟩] 101 x ?_
 intro af aS ag
 refine cu (az.cells c) 0 ag K2 ?_
 intro aT E
 refine ns (La (aj.cells l) E 1 C6 C5 (Kz (vP af 0) (Lz (.string ⟨v0 c.aZ⟩) E 0 y4 ?_)))
 obtain⟨M,o⟩:∃ q,uN l c.aZ=q:=⟨_,rfl⟩
 obtain⟨aU,N,aM,O,aN⟩:=Ia E
 refine cl Tryz.call98 (yF _ _ l c.aZ M N o) ?_
 rintro _ aV ⟨rfl,P⟩
 have u:=O _ _ P
 refine Mz rfl ?_
 rcases Lr (M) with d | d
 refine IQ (v:=vI h) rfl rfl d rfl (Ie rfl) (Gz (.bool (decide (h < 0))) d (IQ (v:= .bool (decide (h < 0))) rfl rfl d rfl (Ie rfl) ?_))
 by_cases g:h < 0
 refine Sz (dT g) (Sz (dT g) (Sz (dT g) (Sz (dT g) (IQ (v:= .bool true) rfl rfl d rfl (Ic rfl (dT g) rfl) (fw (.bool true) (Ic rfl d rfl) (nt (jt (H8 (Mz rfl (La (az.cells c) u 0 M0 K2 ?_))))))))))
 refine jN (az.cells c) 101 2 1 u ?_
 intro ah aW F
 replace F:=IL (y:=row ah 1 1 (q2 az.cells ([c])) 101 2) rfl F
 have Q:=F.pf [3]
 refine WL.do rfl (IC (k:=a.length) (m:=1) (iP) Q rfl rfl (eY G3 (Q.rds (i:=1) rfl) (cZ az.one ([c]))) rfl e8 (s:=q7 (a++ [c])) f3 (t7).symm ?_)
 intro ai ak aX au
 have aO:q7 (a++ [c])=a.length+1:=by simp only [o0,r5,K1]
 refine Az rfl (B6 (bN (Ib (H8 (fw (vJ (b+1)) (Ig (e:=B5.wrap ((b:Int)+1)) yk f1) (Mz rfl (B6 ?_)))))))
 have av:=au.pk [3,0]
 exact Iq (ai,ak,(a++ [c]),b+1) ⟨rfl,rfl,rfl,rfl,rfl,rfl,rfl,trivial⟩ (j.2 ⟨av,e8,e8,et (n) (et (congrArg (λ q=>gG l h q a) t) (et (ae o) (et (ip d) (ip g))))⟩) (by show f.length - (b+1) < f.length - b; omega)
 refine gw (.slice p a.length r) (dF g) (Ie rfl) (Gz (vJ a.length) (dF g) (gw (vI h) (dF g) (Ie rfl) (Gz (.bool (decide ((a.length:Int) < h))) (dF g) (IQ (v:= .bool (decide ((a.length:Int) < h))) rfl rfl d rfl (H6 rfl (dF g) rfl) (fw (.bool (decide ((a.length:Int) < h))) (Ic rfl d rfl) (nt ?_))))))
 by_cases A:(a.length:Int) < h
 refine jT (dT A) (H8 (Mz rfl (La (az.cells c) u 0 M0 K2 ?_)))
 refine jN (az.cells c) 101 2 1 u ?_
 intro ax aY G
 replace G:=IL (y:=row ax 1 1 (q2 az.cells ([c])) 101 2) rfl G
 have R:=G.pf [3]
 refine WL.do rfl (IC (k:=a.length) (m:=1) (iP) R rfl rfl (eY G3 (R.rds (i:=1) rfl) (cZ az.one ([c]))) rfl e8 (s:=q7 (a++ [c])) f3 (t7).symm ?_)
 intro ay aA aZ aB
 have aP:q7 (a++ [c])=a.length+1:=by simp only [o0,r5,K1]
 refine Az rfl (B6 (bN (Ib (H8 (fw (vJ (b+1)) (Ig (e:=B5.wrap ((b:Int)+1)) yk f1) (Mz rfl (B6 ?_)))))))
 have aC:=aB.pk [3,0]
 exact Iq (ay,aA,(a++ [c]),b+1) ⟨rfl,rfl,rfl,rfl,rfl,rfl,rfl,trivial⟩ (j.2 ⟨aC,e8,e8,et (n) (et (congrArg (λ q=>gG l h q a) t) (et (ae o) (et (ip d) (et (iN g) (ip A)))))⟩) (by show f.length - (b+1) < f.length - b; omega)
 refine jF (dF A) (IG (bN (Ib (H8 (fw (vJ (b+1)) (Ig (e:=B5.wrap ((b:Int)+1)) yk f1) (Mz rfl (B6 ?_)))))))
 have aD:=u.pk [1,2]
 exact Iq (p,r,a,b+1) ⟨rfl,rfl,rfl,rfl,rfl,rfl,rfl,trivial⟩ (j.2 ⟨aD,e8,e8,et (n) (et (congrArg (λ q=>gG l h q a) t) (et (ae o) (et (ip d) (et (iN g) (iN A)))))⟩) (by show f.length - (b+1) < f.length - b; omega)
 refine Sz d (Sz d (Sz d (Ij rfl rfl rfl (Ij rfl rfl rfl (Ij rfl rfl rfl (Ij rfl rfl rfl (Sz d (fw (.bool false) (H6 rfl d rfl) (nt (jf (IG (bN (Ib (H8 (fw (vJ (b+1)) (Ig (e:=B5.wrap ((b:Int)+1)) yk f1) (Mz rfl (B6 ?_)))))))))))))))))
 have aF:=u.pk [1,2]
 exact Iq (p,r,a,b+1) ⟨rfl,rfl,rfl,rfl,rfl,rfl,rfl,trivial⟩ (j.2 ⟨aF,e8,e8,et (n) (et (congrArg (λ q=>gG l h q a) t) (et (ae o) (eF d)))⟩) (by show f.length - (b+1) < f.length - b; omega)
 refine jF (dF L) (B7 (Ip ?_))
 have S:gG l h f []=a:=et (n) (et (congrArg (λ q=>gG l h q a) (eX (ls:=f) (i:=b) e8)) rfl)
 refine Ip (Iz (Ib (H7 ?_)))
 have aG:=x.pk [1]
 refine H8 (Mz rfl (An rfl (rt (rs ?_))))
 have aH:=aG.pf []
 obtain rfl:=zj hr zq1
 exact⟨p,r,rfl,aH,i0⟩
end
end Go.Proofs.YtndamapfnpihpaaGreat
namespace Go.Proofs.YtndamapfnpihpaaGreat.M
set_option maxRecDepth 100000
set_option linter.unusedVariables false
set_option linter.unusedSimpArgs false
set_option linter.unusedSectionVars false
abbrev L:=List UInt8
def K (k:L):Prop:=1<=k.length/\k.length<=12
def R (l h:L):Prop:=(l= []\/K l)/\(h= []\/(K h/\l < h))
def B (k h:L):Prop:=h= []\/k < h
def H (l h k:L):Prop:=R l h/\K k/\l<=k/\B k h
def mx (a b:L):L:=if a < b then b else a
def ls (a b:L):L:=if a= [] then b else if b= [] then a else if b < a then b else a
def M (l1 a b c:L):Prop:=R l1 a/\R b c/\B (mx l1 b) (ls a c)
theorem nil_le (a:L): []<=a:=List.nil_le a
theorem not_lt_nil (a:L): ¬ a < []:=List.not_lt_nil a
theorem nil_lt {a:L} (h:a≠ []): [] < a:=by
  cases a with
  | nil=>exact absurd rfl h
  | cons x xs=>exact List.nil_lt_cons x xs
theorem He {k:L} (h:K k):k≠ []:=by rintro rfl; simp [K] at h
theorem Dv {l1 a d b:L} (h:M l1 a d b):R (mx l1 d) (ls a b):=by
  obtain⟨⟨f,g⟩,⟨i,j⟩,c⟩:=h
  refine⟨?_, ?_⟩
  . unfold mx; split <;> assumption
  . rcases c with c | c
    . exact .inl c
    . by_cases e:ls a b= []
      . exact .inl e
      . refine .inr ⟨?_,c⟩
        unfold ls at e ⊢
        grind
theorem Es (a b c:L):mx (mx a b) c=mx a (mx b c):=by unfold mx; grind
theorem Et (a b c:L):ls (ls a b) c=ls a (ls b c):=by unfold ls; grind
theorem parts {a b c d e f:L} (g:M a b c d) (i:M c d e f):(M (mx a c) (ls b d) e f↔M a b (mx c e) (ls d f)):=by
  have j:=Dv g
  have k:=Dv i
  unfold M
  rw [Es,Et]
  exact⟨fun⟨_,_,h⟩=>⟨g.1,k,h⟩,fun⟨_,_,h⟩=>⟨j,i.2.1,h⟩⟩
def C (l1 c a b:L):Prop:=M l1 c a b/\mx l1 a=a/\ls c b=b
theorem cut {l h at_ k:L} (r:R l h) (ka:K at_) (hl:l < at_) (hb:B at_ h):(H l h k↔(H l at_ k\/H at_ h k))/\¬ (H l at_ k/\H at_ h k):=by
  have c:R l at_:=⟨r.1, .inr ⟨ka,hl⟩⟩
  have d:R at_ h:=⟨.inr ka,by
    rcases r.2 with e | ⟨e,_⟩
    . exact .inl e
    . rcases hb with e' | e'
      . exact .inl e'
      . exact .inr ⟨e,e'⟩⟩
  have hne:=He ka
  unfold H B at *
  refine⟨⟨?_, ?_⟩, ?_⟩
  . rintro ⟨_,kk,a,b⟩
    by_cases hk:k < at_
    . exact .inl ⟨c,kk,a, .inr hk⟩
    . exact .inr ⟨d,kk,List.not_lt.1 hk,b⟩
  . rintro (⟨_,kk,a,b⟩ | ⟨_,kk,a,b⟩)
    . refine⟨r,kk,a, ?_⟩; grind
    . refine⟨r,kk, ?_,b⟩; grind
  . rintro ⟨⟨_,_,_,b⟩,⟨_,_,a,_⟩⟩; grind
theorem lt_snoc0:∀ (o k:L),o < k++ [0]↔o<=k
  | [], []=>by simp [nil_lt]
  | [],y::ys=>by simp [nil_le]
  | x::xs, []=>by
    simp only [List.nil_append]
    constructor
    . intro h
      rcases List.cons_lt_cons_iff.1 h with h | ⟨_,h⟩
      . exact absurd h i3
      . exact absurd h (not_lt_nil _)
    . intro h; exact absurd (List.le_antisymm h (nil_le _)) i3
  | x::xs,y::ys=>by
    rw [List.cons_append,List.cons_lt_cons_iff,List.cons_le_cons_iff,lt_snoc0 xs ys]
def nx:L->L
  | []=> []
  | a::k=>if nx k= [] then(if a.toNat=255 then [] else [a+1]) else a::nx k
theorem nx_gt:∀ (k:L),nx k= []\/k < nx k
  | []=> .inl rfl
  | a::k=>by
    unfold nx
    by_cases e:nx k= []
    . rw [if_pos e]
      by_cases ea:a.toNat=255
      . rw [if_pos ea]; exact .inl rfl
      . rw [if_neg ea]
        right
        rw [List.cons_lt_cons_iff]
        left
        have:=a.toNat_lt
        have e:(a+1).toNat=a.toNat+1:=by rw [UInt8.toNat_add]; show (a.toNat+1) % 256=_; omega
        rw [UInt8.lt_iff_toNat_lt,e]; omega
    . rw [if_neg e]
      right
      rw [List.cons_lt_cons_iff]
      exact .inr ⟨rfl,(nx_gt k).resolve_left e⟩
theorem nx_len:∀ (k:L),(nx k).length<=k.length
  | []=>Nat.le_refl _
  | a::k=>by
    have:=nx_len k
    unfold nx
    split
    . split <;> simp
    . simp; omega
end Go.Proofs.YtndamapfnpihpaaGreat.M
namespace Go.Proofs.YtndamapfnpihpaaGreat
set_option maxRecDepth 100000
set_option linter.unusedVariables false
set_option linter.unusedSimpArgs false
set_option linter.unusedSectionVars false
open List renaming cons_append->M4,drop->s0,getElem?_append_left->u7,getElem?_drop->m4,getElem?_eq_getElem->p5,getElem?_eq_some_iff->p4,length->q7,mem_cons_of_mem->M3,mem_iff_getElem?->M6,mem_of_getElem?->D4,not_lt->M1,pairwise_cons->M2,take->t6,take_append_drop->s4
open Nat renaming le_refl->s3,lt_or_ge->M5
section
open Go.RowKit
@[reducible] def Key:Type:=List UInt8
theorem Gs (a:Key): ¬ a < a:=List.lt_irrefl a
theorem zm {a b c:Key} (d:a < b) (e:b < c):a < c:=List.lt_trans d e
theorem Ab {a b:Key}: ¬ a < b↔b<=a:=M1
theorem E9 {a b:Key} (h:a < b):a<=b:=List.le_of_lt h
theorem ES (a b:Key):a < b\/a=b\/b < a:=by
  by_cases c:a < b
  . exact .inl c
  . by_cases d:b < a
    . exact .inr (.inr d)
    . exact .inr (.inl (List.le_antisymm (M1.1 d) (M1.1 c)))
theorem Dw:∀ (a b:Key),Lib.compareBytes a b < 0↔a < b
  | [], []=>by simp [Lib.compareBytes]
  | [],_::_=>by simp [Lib.compareBytes]
  | _::_, []=>by simp [Lib.compareBytes]
  | x::a,y::b=>by
    unfold Lib.compareBytes
    rw [List.cons_lt_cons_iff]
    by_cases c:x < y
    . simp [c]
    . rw [if_neg c]
      by_cases d:y < x
      . rw [if_pos d]
        have:x≠y:=λ e=>by subst e; exact c d
        simp [c,this]
      . rw [if_neg d]
        have:x=y:=UInt8.le_antisymm (UInt8.not_lt.1 d) (UInt8.not_lt.1 c)
        subst this
        simp [Dw a b]
theorem AQ:∀ (a b:Key),Lib.compareBytes a b=0↔a=b
  | [], []=>by simp [Lib.compareBytes]
  | [],_::_=>by simp [Lib.compareBytes]
  | _::_, []=>by simp [Lib.compareBytes]
  | x::a,y::b=>by
    unfold Lib.compareBytes
    by_cases c:x < y
    . have:x≠y:=λ e=>by subst e; exact absurd c (UInt8.lt_irrefl _)
      simp [c,this]
    . rw [if_neg c]
      by_cases d:y < x
      . have:x≠y:=λ e=>by subst e; exact c d
        simp [d,this]
      . rw [if_neg d]
        have:x=y:=UInt8.le_antisymm (UInt8.not_lt.1 d) (UInt8.not_lt.1 c)
        subst this
        simp [AQ a b]
theorem bK {α β:Type} (x:α) (f:α->β):bnd x f=f x:=rfl
def qF (m:List az):Prop:=m.Pairwise λ a b=>a.aZ < b.aZ
def wM (k:Key):Prop:=1<=q7 k/\q7 k<=12
def zH (p:az):Prop:=wM p.aZ/\q7 p.aO<=16
theorem rU {k:Key}:dY k=0↔wM k:=by
  unfold dY wM
  split
  . constructor <;> intro h <;> omega
  . split
    . constructor <;> intro h <;> omega
    . constructor <;> intro h <;> omega
theorem Ch (l:List az):∀ (q pre:List az),l=pre++q->(fV l q pre.length= .inl ()↔(∀ p ∈ q,zH p)/\(∀ a ∈ pre.getLast?, ∀ b ∈ q.head?,a.aZ < b.aZ)/\qF q)/\(∀ e,fV l q pre.length= .inr e->e≠0)
  | [],pre,_=>by simp [fV,qF]
  | x::q,pre,hl=>by
    have ih:=Ch l q (pre++ [x]) (by rw [hl,List.append_assoc]; rfl)
    have hlen:(pre++ [x]).length=pre.length+1:=by simp
    rw [hlen] at ih
    simp only [fV,bnd,ni]
    by_cases d:dY x.aZ=0
    . rw [if_pos d]
      by_cases i:((q7 x.aO:Nat):Int) > 16
      . simp only [if_pos i]
        rw [if_neg f5]
        refine⟨⟨λ h=>(by cases h),λ h=> ?_⟩,λ e he=>by injection he with he; omega⟩
        have:=(h.1 x i3).2
        omega
      . simp only [if_neg i,if_true]
        have hx:zH x:=⟨rU.1 d,e8⟩
        have hsrt:qF (x::q)↔(∀ b ∈ q.head?,x.aZ < b.aZ)/\qF q:=by
          unfold qF
          rw [M2]
          constructor
          . rintro ⟨h,h'⟩
            exact⟨λ b hb=>h b (List.mem_of_mem_head? hb),h'⟩
          . rintro ⟨h,h'⟩
            refine⟨λ b hb=> ?_,h'⟩
            cases q with
            | nil=>cases hb
            | cons y q=>
              have hy:=h y rfl
              rcases List.mem_cons.1 hb with rfl | hb
              . exact hy
              . exact zm hy ((M2.1 h').1 b hb)
        have hlast:(pre++ [x]).getLast?=some x:=by simp
        rw [hlast] at ih
        have hcore:(fV l q (pre.length+1)= .inl ()↔(∀ p ∈ x::q,zH p)/\qF (x::q)):=by
          rw [ih.1,hsrt]
          constructor
          . rintro ⟨a,b,c⟩
            exact⟨λ p hp=>by rcases List.mem_cons.1 hp with rfl | hp; exact hx; exact a p hp,b x rfl,c⟩
          . rintro ⟨a,b,c⟩
            exact⟨λ p hp=>a p (M3 _ hp),λ a' ha'=>by cases ha'; exact b,c⟩
        by_cases g:((pre.length:Nat):Int) > 0
        . rw [if_pos g]
          have hpre:pre≠ []:=λ e=>by subst e; simp at g
          obtain⟨y,hy⟩:∃ y,pre.getLast?=some y:=⟨_,List.getLast?_eq_some_getLast hpre⟩
          have hg:List.getD l (pre.length - 1) default=y:=by
            rw [hl,List.getD_eq_getElem?_getD,u7 e8]
            rw [List.getLast?_eq_getElem?] at hy
            rw [hy]; rfl
          rw [hg]
          by_cases f:x.aZ<=y.aZ
          . rw [if_pos f]
            refine⟨⟨λ h=>(by cases h),λ h=> ?_⟩,λ e he=>by injection he with he; omega⟩
            exact absurd (h.2.1 y hy x rfl) (Ab.2 f)
          . rw [if_neg f]
            refine⟨?_,ih.2⟩
            rw [hcore]
            have j:y.aZ < x.aZ:=by rcases ES y.aZ x.aZ with h | h | h; exact h; exact absurd (Ab.1 (h ▸ Gs _)) f; exact absurd (E9 h) f
            constructor
            . rintro ⟨a,b⟩
              exact⟨a,λ a' ha' b' hb'=>by rw [hy] at ha'; cases ha'; cases hb'; exact j,b⟩
            . rintro ⟨a,_,b⟩
              exact⟨a,b⟩
        . rw [if_neg g]
          have hpre:pre= []:=List.eq_nil_of_length_eq_zero e8
          refine⟨?_,ih.2⟩
          rw [hcore,hpre]
          simp
    . rw [if_neg d]
      refine⟨⟨λ h=>(by cases h),λ h=> ?_⟩,λ e he=>by injection he with he; rw [<- he]; exact d⟩
      exact absurd (rU.2 (h.1 x i3).1) d
theorem rV {l:List az}:gy l=0↔(∀ p ∈ l,zH p)/\qF l:=by
  have h:=Ch l l [] rfl
  unfold gy
  simp only [List.length_nil] at h
  cases e:fV l l 0 with
  | inl u=>
    have:=h.1.1 e
    exact⟨λ _=>⟨this.1,this.2.2⟩,λ _=>rfl⟩
  | inr r=>
    refine⟨λ a=>absurd a (h.2 r e),λ a=> ?_⟩
    have:=h.1.2 ⟨a.1,by simp,a.2⟩
    rw [e] at this
    cases this
theorem kK {k:Key}:wM k↔M.K k:=Iff.rfl
theorem AR {k:Key}:k≠ []↔1<=k.length:=by cases k <;> simp
theorem CO {r:aj}:dU r=0↔M.R r.aN r.aT:=by
  have a:=rU (k:=r.aN); have b:=rU (k:=r.aT)
  have la:=AR (k:=r.aN); have lb:=AR (k:=r.aT)
  have nn:= @Ab r.aN r.aT
  unfold dU M.R
  rw [<- kK, <- kK]
  simp only [bnd]
  by_cases f:r.aN= []
  . by_cases d:r.aT= []
    . simp [f,d]
    . by_cases c:dY r.aT=0
      . have g:=M.nil_lt d
        have i: ¬ r.aT<= []:=λ q=>Ab.2 q g
        simp [f,d,c,b.1 c,g,i]
      . have h3': ¬ wM r.aT:=λ q=>c (b.2 q)
        simp [f,d,c,h3']
  . by_cases e:dY r.aN=0
    . by_cases d:r.aT= []
      . simp [f,d,e,a.1 e]
      . by_cases c:dY r.aT=0
        . by_cases h:r.aT<=r.aN
          . simp [f,d,c,e,h,a.1 e,b.1 c]
          . simp [f,d,c,e,h,a.1 e,b.1 c]; grind
        . have h3': ¬ wM r.aT:=λ q=>c (b.2 q)
          simp [f,d,c,e,h3']
    . have h0': ¬ wM r.aN:=λ q=>e (a.2 q)
      simp [f,e,h0']
theorem Dx:∀ {b:Key},(∀ x ∈ b,x.toNat=255)->M.nx b= []
  | [],_=>rfl
  | x::b,h=>by
    unfold M.nx
    rw [if_pos (Dx λ y hy=>h y (M3 _ hy)),if_pos (h x i3)]
theorem Dy {b:Key} (hb:M.nx b= []):∀ a:Key,M.nx (a++b)=M.nx a
  | []=>hb
  | x::a=>by
    rw [M4]
    unfold M.nx
    rw [Dy hb a]
theorem Ci {x:UInt8} (hx:x.toNat≠255):∀ p:Key,M.nx (p++ [x])=p++ [x+1]
  | []=>by simp [M.nx,hx]
  | a::p=>by
    rw [M4]
    unfold M.nx
    rw [Ci hx p,if_neg i3]
    rfl
theorem Cj (k:Key):∀ (f n:Nat),n < f->n<=k.length->(∀ j x,k[j]? =some x->n<=j->x.toNat=255)->
    ∃ t,kr k f n=t/\t<=n/\(∀ j x,k[j]? =some x->t<=j->x.toNat=255)/\(t=0\/∃ x,k[t - 1]? =some x/\x.toNat≠255)
  | 0,n,h,_,_=>e8
  | f+1,n,h,hl,hq=>by
    unfold kr
    simp only [bnd]
    by_cases g:((n:Nat):Int) > 0
    . obtain⟨x,hx⟩:∃ x,k[n - 1]? =some x:=⟨_,p5 e8⟩
      rw [if_pos g,bu hx]
      by_cases i:((x.toNat:Nat):Int)=255
      . rw [if_pos i]
        obtain⟨t,a,b,c,d⟩:=Cj k f (n - 1) e8 e8 λ j y hy hj=>by
          rcases M5 j n with e | e
          . have:j=n - 1:=e8
            subst this
            rw [hx] at hy
            cases hy
            omega
          . exact hq j y hy e
        exact⟨t,a,e8,c,d⟩
      . rw [if_neg i]
        exact⟨n,rfl,s3 _,hq, .inr ⟨x,hx,e8⟩⟩
    . rw [if_neg g]
      exact⟨n,rfl,s3 _,hq, .inl e8⟩
def ph (k:Key):Key:=if k.length < 12 then k++ [0] else M.nx k
theorem Gu {k:Key} (hk:wM k):pu k=(aj.mk k (ph k),0):=by
  have hc:iW k=0:=rU.2 hk
  unfold pu ph
  rw [bK,hc,if_pos rfl]
  by_cases f:k.length < 12
  . rw [if_pos e8,if_pos f]
  . rw [if_neg e8,if_neg f,bK,bK]
    have hl:k.length=12:=by have:=hk.2; omega
    obtain⟨t,a,b,c,d⟩:=Cj k 13 12 e8 e8 λ j x hx hj=>by
      have:=(p4.1 hx).1; omega
    rw [show (12:Nat)+1=13 from rfl,a]
    have hkt:k=t6 t k++s0 t k:=(s4 t k).symm
    have e:M.nx (s0 t k)= []:=Dx λ x hx=>by
      obtain⟨j,hj⟩:=M6.1 hx
      rw [m4] at hj
      exact c _ x hj e8
    have hn:M.nx k=M.nx (t6 t k):=(congrArg M.nx hkt).trans (Dy e _)
    rcases d with d | ⟨x,hx,d⟩
    . subst d
      rw [if_pos f5,hn]; rfl
    . by_cases g:t=0
      . subst g
        rw [if_pos f5,hn]; rfl
      . rw [if_neg e8,bK,bu hx,hn]
        have:t6 t k=t6 (t - 1) k++ [x]:=by
          obtain⟨q,rfl⟩:∃ q,t=q+1:=⟨t - 1,e8⟩
          obtain⟨hq,rfl⟩:=p4.1 hx
          exact List.take_succ_eq_append_getElem hq
        rw [this,Ci d]
theorem Gv {k:Key}:ph k= []\/k < ph k:=by
  unfold ph
  split
  . right; rw [M.lt_snoc0]; exact List.le_refl _
  . exact M.nx_gt _
theorem Hf {k:Key} (hk:wM k):M.R k (ph k):=by
  refine⟨.inr hk, ?_⟩
  rcases Gv (k:=k) with h | h
  . exact .inl h
  . right
    have hne:ph k≠ []:=λ e=>M.not_lt_nil _ (e ▸ h)
    refine⟨⟨AR.1 hne, ?_⟩,h⟩
    unfold ph
    have:=hk.2
    split
    . simp; omega
    . exact Nat.le_trans (M.nx_len k) this
theorem Ac {p:az} {k:Key}:ol p k < 0↔p.aZ < k:=Dw _ _
theorem Fa {p:az} {k:Key}:ol p k=0↔p.aZ=k:=AQ _ _
theorem Dz {m:List az} (hs:qF m) {i j:Nat} {a b:az} (ha:m[i]? =some a) (hb:m[j]? =some b) (h:i < j):a.aZ < b.aZ:=by
  obtain⟨c,rfl⟩:=p4.1 ha
  obtain⟨d,rfl⟩:=p4.1 hb
  exact List.pairwise_iff_getElem.1 hs i j c d h
theorem zn {m:List az} (hs:qF m) (k:Key):∀ (f i j:Nat),j - i < f->i<=j->j<=m.length->(∀ q p,m[q]? =some p->q < i->p.aZ < k)->(∀ q p,m[q]? =some p->j<=q->¬ p.aZ < k)->
    ∃ r,dS m k f i j=r/\r<=m.length/\(∀ q p,m[q]? =some p->q < r->p.aZ < k)/\(∀ q p,m[q]? =some p->r<=q->¬ p.aZ < k)
  | 0,i,j,h,_,_,_,_=>e8
  | f+1,i,j,h,hij,hj,hl,hg=>by
    unfold dS
    by_cases b:((i:Nat):Int) < ((j:Nat):Int)
    . obtain⟨x,hx⟩:∃ x,m[(i+j) / 2]? =some x:=⟨_,p5 e8⟩
      rw [if_pos b,bK,bK,bu hx]
      by_cases a:ol x k < 0
      . rw [if_pos a]
        refine zn hs k f _ j e8 e8 hj (λ q p hq hlt=> ?_) hg
        rcases M5 q ((i+j) / 2) with e | e
        . exact zm (Dz hs hq hx e) (Ac.1 a)
        . have:q=(i+j) / 2:=e8
          subst this
          rw [hx] at hq; cases hq
          exact Ac.1 a
      . rw [if_neg a]
        refine zn hs k f i _ e8 e8 e8 hl (λ q p hq hge hlt=> ?_)
        rcases M5 ((i+j) / 2) q with e | e
        . exact a (Ac.2 (zm (Dz hs hx hq e) hlt))
        . have:q=(i+j) / 2:=e8
          subst this
          rw [hx] at hq; cases hq
          exact a (Ac.2 hlt)
    . rw [if_neg b]
      have:i=j:=e8
      subst this
      exact⟨i,rfl,hj,hl,hg⟩
structure Cut (m:List az) (k:Key) (a b:List az):Prop where
  app:m=a++b
  lo:∀ p ∈ a,p.aZ < k
  hi:∀ p ∈ b, ¬ p.aZ < k
theorem tZ {m:List az} (hs:qF m) (k:Key):∃ a b,Cut m k a b/\(il m k).1=((a.length:Nat):Int)/\((il m k).2=true↔∃ p q,b=p::q/\p.aZ=k):=by
  obtain⟨r,d,i,f,g⟩:=zn hs k (m.length - 0+1) 0 m.length e8 e8 (s3 _) (λ q p _ h=>e8) (λ q p hq h=>by have:=(p4.1 hq).1; omega)
  have hlen:(t6 r m).length=r:=by rw [List.length_take]; omega
  have e:il m k=(((r:Nat):Int),(il m k).2)/\((il m k).2=true↔∃ p,m[r]? =some p/\p.aZ=k):=by
    unfold il gW
    rw [bK,bK,d]
    by_cases c:((r:Nat):Int) < ((q7 m:Nat):Int)
    . obtain⟨x,hx⟩:∃ x,m[r]? =some x:=⟨_,p5 e8⟩
      rw [if_pos c,bK,bK,bu hx]
      refine⟨rfl, ?_⟩
      simp only [decide_eq_true_eq,Fa,hx,Option.some.injEq,exists_eq_left']
    . rw [if_neg c]
      refine⟨rfl, ?_⟩
      have:m[r]? =none:=List.getElem?_eq_none e8
      simp [this]
  refine⟨t6 r m,s0 r m,⟨(s4 r m).symm,λ p hp=> ?_,λ p hp=> ?_⟩, ?_, ?_⟩
  . obtain⟨j,hj⟩:=M6.1 hp
    have hjr:j < r:=by have:=(p4.1 hj).1; omega
    rw [List.getElem?_take,if_pos hjr] at hj
    exact f j p hj hjr
  . obtain⟨j,hj⟩:=M6.1 hp
    rw [m4] at hj
    exact g _ p hj e8
  . rw [e.1,hlen]
  . rw [e.2]
    constructor
    . rintro ⟨p,hp,hk⟩
      exact⟨p,s0 (r+1) m,drop_at hp,hk⟩
    . rintro ⟨p,q,hp,hk⟩
      refine⟨p, ?_,hk⟩
      have:(s0 r m)[0]? =some p:=by rw [hp]; rfl
      rwa [m4,Nat.add_zero] at this
theorem Cut.two {m:List az} {j k:Key} {a b c d:List az} (h:j < k) (x:Cut m j a b) (y:Cut m k c d):a.length<=c.length:=by
  rcases M5 c.length a.length with e | e
  . exfalso
    obtain⟨p,hp⟩:∃ p,a[c.length]? =some p:=⟨_,p5 e⟩
    have f:m[c.length]? =some p:=by rw [x.app,u7 e]; exact hp
    rw [y.app,List.getElem?_append_right (s3 _),Nat.sub_self] at f
    exact y.hi p (D4 f) (zm (x.lo p (D4 hp)) h)
  . exact e
def owns (x o:aX):Prop:=(x.aB=o.aB)/\(x.aZ=o.aZ)/\(x.aO=o.aO)/\(x.aN=o.aN)/\(x.aT=o.aT)/\(x.bS=o.bS)
theorem Gw (o:aX):l9 o=dU (aj.mk o.aN o.aT):=rfl
theorem ET (o:aX):o8 o=if dU (aj.mk o.aN o.aT)=0 then(if o.bS < 1 then 1 else if o.bS > 4 then 1 else 0) else dU (aj.mk o.aN o.aT):=rfl
theorem CP (o:aX):o7 o=if dY o.aZ=0 then(if((q7 o.aO:Nat):Int) > 16 then 2 else 0) else dY o.aZ:=rfl
theorem GU {o:aX} (h:o.aB=1\/o.aB=3):dW o=if o.aO= []/\o.aN= []/\o.aT= []/\o.bS=0 then dY o.aZ else 40:=by
  unfold dW
  rcases h with h | h
  . rw [if_pos h]
    show (if _ then _ else _)=_
    simp only [o6,nG,bnd]
    congr 1
    simp [eq_comm]
  . rw [if_neg e8,if_neg e8,if_pos h]
    show (if _ then _ else _)=_
    simp only [o6,nG,bnd]
    congr 1
    simp [eq_comm]
theorem F4 {o:aX} (h:o.aB=2):dW o=if o.aN= []/\o.aT= []/\o.bS=0 then o7 o else 40:=by
  unfold dW
  rw [if_neg e8,if_pos h]
  show (if _ then _ else _)=_
  simp only [sQ,bnd]
  congr 1
  simp [eq_comm]
theorem GV {o:aX} (h:o.aB=4):dW o=if o.aZ= []/\o.aO= [] then o8 o else 40:=by
  unfold dW
  rw [if_neg e8,if_neg e8,if_neg e8,if_pos h]
  show (if _ then _ else _)=_
  simp only [sS,bnd]
  congr 1
  simp [eq_comm]
theorem Hz {o:aX} (h:o.aB=5):dW o=if o.aZ= []/\o.aO= []/\o.bS=0 then l9 o else 40:=by
  unfold dW
  rw [if_neg e8,if_neg e8,if_neg e8,if_neg e8,if_pos h]
  show (if _ then _ else _)=_
  simp only [rR,bnd]
  congr 1
  simp [eq_comm]
theorem HV {o:aX} (h: ¬ (1<=o.aB/\o.aB<=5)):dW o=40:=by
  unfold dW
  rw [if_neg e8,if_neg e8,if_neg e8,if_neg e8,if_neg e8]
theorem uZ {o:aX} (h:dW o=0) (hk:o.aB=4\/o.aB=5):M.R o.aN o.aT:=by
  rcases hk with hk | hk
  . rw [GV hk] at h
    by_cases a:o.aZ= []/\o.aO= []
    . rw [if_pos a,ET] at h
      by_cases b:dU (aj.mk o.aN o.aT)=0
      . exact CO.1 b
      . rw [if_neg b] at h; exact absurd h b
    . rw [if_neg a] at h; cases h
  . rw [Hz hk] at h
    by_cases a:o.aZ= []/\o.aO= []/\o.bS=0
    . rw [if_pos a,Gw] at h
      exact CO.1 h
    . rw [if_neg a] at h; cases h
theorem wN {m:List az} {o:aX} (hm:gy m=0) (ho:dW o=0) (hk:o.aB=4\/o.aB=5):(jR m (fD o)).1<=(jR m (fD o)).2:=by
  have hs:=(rV.1 hm).2
  obtain⟨a,b,hc,f,_⟩:=tZ hs o.aN
  unfold jR fD
  rw [bK]
  by_cases h:o.aT= []
  . rw [if_pos h]
    show (il m o.aN).1<=_
    rw [f,hc.app,List.length_append]
    simp only
    omega
  . rw [if_neg h,bK]
    obtain⟨c,d,e,g,_⟩:=tZ hs o.aT
    show (il m o.aN).1<=(il m o.aT).1
    rw [f,g]
    have hlt:o.aN < o.aT:=((uZ ho hk).2.resolve_left h).2
    have:=hc.two hlt e
    omega
theorem Ck {o:aX} (ho:dW o=0) (hk:o.aB=4):1<=o.bS/\o.bS<=4:=by
  rw [GV hk] at ho
  by_cases b:o.aZ= []/\o.aO= []
  . rw [if_pos b,ET] at ho
    by_cases a:dU (aj.mk o.aN o.aT)=0
    . rw [if_pos a] at ho
      by_cases c:o.bS < 1
      . rw [if_pos c] at ho; cases ho
      . rw [if_neg c] at ho
        by_cases d:o.bS > 4
        . rw [if_pos d] at ho; cases ho
        . omega
    . rw [if_neg a] at ho; exact absurd ho a
  . rw [if_neg b] at ho; cases ho
theorem j0 {p:Prop}(h:p:=by exact wN (by assumption) (by assumption) (e8)):p:=h
end
open Int renaming toNat_natCast->M7
open List renaming getD->y2,length_append->o0,length_eq_zero_iff->M8,mem_cons->u3,sublist_append_right->M9
section
open Go.ChangeShapes
abbrev EU:dh:=dh.mk false [] (Ll.mk [])
structure C3 (m:List az) (k:Key) (a e d:List az):Prop where
  app:m=a++(e++d)
  lo:∀ p ∈ a,p.aZ < k
  mid:e= []\/∃ v,e= [az.mk k v]
  hi:∀ p ∈ d,k < p.aZ
theorem Cm {a b:List az}:qF (a++b)↔qF a/\qF b/\∀ x ∈ a, ∀ y ∈ b,x.aZ < y.aZ:=List.pairwise_append
theorem xL {x:az} {b:List az}:qF (x::b)↔(∀ y ∈ b,x.aZ < y.aZ)/\qF b:=List.pairwise_cons
theorem CQ {m:List az} (hs:qF m) (k:Key):∃ a e d,C3 m k a e d/\(il m k).1=((a.length:Nat):Int)/\((il m k).2=true↔e≠ []):=by
  obtain⟨a,b,hc,c,f⟩:=tZ hs k
  have hb:qF b:=by rw [hc.app] at hs; exact(Cm.1 hs).2.1
  cases b with
  | nil=>exact⟨a, [], [],⟨by rw [hc.app]; rfl,hc.lo, .inl rfl,λ p hp=>by cases hp⟩,c,by rw [f]; constructor <;> intro h <;> simp at h⟩
  | cons p q=>
    by_cases hk:p.aZ=k
    . refine⟨a, [p],q,⟨by rw [hc.app]; rfl,hc.lo, .inr ⟨p.aO,by rw [<- hk]⟩,λ y hy=>by rw [<- hk]; exact(xL.1 hb).1 y hy⟩,c, ?_⟩
      rw [f]
      exact⟨λ _=>by simp,λ _=>⟨p,q,rfl,hk⟩⟩
    . have hp:k < p.aZ:=by
        rcases ES k p.aZ with h | h | h
        . exact h
        . exact absurd h.symm hk
        . exact absurd h (hc.hi p b3)
      refine⟨a, [],p::q,⟨by rw [hc.app]; rfl,hc.lo, .inl rfl,λ y hy=> ?_⟩,c, ?_⟩
      . rcases u3.1 hy with rfl | hy
        . exact hp
        . exact zm hp ((xL.1 hb).1 y hy)
      . rw [f]
        constructor
        . rintro ⟨p',q',e,h⟩
          cases e
          exact absurd h hk
        . intro h; exact absurd rfl h
theorem AU {α:Type} [Inhabited α] (a:List α) (x:α) (d:List α):y2 (a++x::d) a.length default=x:=by
  rw [List.getD_eq_getElem?_getD,List.getElem?_append_right (Nat.le_refl _),Nat.sub_self]; rfl
theorem DC {α:Type} (a:List α) (x y:α) (d:List α):List.set (a++x::d) a.length y=a++y::d:=by
  induction a with
  | nil=>rfl
  | cons z a ih=>exact congrArg (z:: ·) ih
theorem zo {α:Type} (a b:List α):List.take a.length (a++b)=a:=by simp
theorem uP {α:Type} (a b:List α):List.drop a.length (a++b)=b:=by simp
theorem Hg {m a e d:List az} {o:aX} (h:C3 m o.aZ a e d) (g:(il m o.aZ).1=((a.length:Nat):Int)) (c:(il m o.aZ).2=true↔e≠ []):
    uL m o=(a++az.mk o.aZ o.aO::d,EU):=by
  unfold uL
  rw [bK]
  generalize il m o.aZ=f at g c ⊢
  obtain⟨i,b⟩:=f
  simp only at g c
  subst g
  simp only [M7]
  rcases h.mid with he | ⟨v,he⟩
  . subst he
    have hb: ¬ b=true:=λ hb=>c.1 hb rfl
    rw [if_neg hb,bK,bK,bK]
    have j:iA m (a.length:Int) (az.mk o.aZ [])=a++az.mk o.aZ []::d:=by
      unfold iA
      rw [h.app,List.nil_append]
      simp only [M7]
      by_cases hl:(a.length:Int)=(((a++d).length:Nat):Int)
      . rw [if_pos hl]
        have:d= []:=M8.1 (by rw [o0] at hl; omega)
        subst this
        simp
      . rw [if_neg hl,zo,uP]
    rw [j,AU,DC]
  . subst he
    have hb:b=true:=c.2 i3
    rw [if_pos hb,bK,bK,h.app]
    show (List.set (a++_::d) _ (az.mk (y2 (a++_::d) _ _).aZ _),_)=_
    rw [AU,DC]
theorem Hl {m a e d:List az} {o:aX} (h:C3 m o.aZ a e d) (g:(il m o.aZ).1=((a.length:Nat):Int)) (c:(il m o.aZ).2=true↔e≠ []):
    uM m o=(a++d,EU):=by
  unfold uM
  rw [bK]
  generalize il m o.aZ=f at g c ⊢
  obtain⟨i,b⟩:=f
  simp only at g c
  subst g
  rcases h.mid with he | ⟨v,he⟩
  . subst he
    have hb: ¬ b=true:=λ hb=>c.1 hb rfl
    rw [if_neg hb,h.app]; rfl
  . subst he
    have hb:b=true:=c.2 i3
    rw [if_pos hb,bK]
    unfold gM
    rw [if_neg e8,show (a.length:Int)+1=((a.length+1:Nat):Int) from rfl]
    simp only [M7]
    rw [h.app,zo]
    congr 2
    rw [<- List.drop_drop,uP]; rfl
theorem Hm {m a e d:List az} {o:aX} (h:C3 m o.aZ a e d) (g:(il m o.aZ).1=((a.length:Nat):Int)) (c:(il m o.aZ).2=true↔e≠ []):
    (e= []/\tV m o=(m,EU))\/(∃ v,e= [az.mk o.aZ v]/\tV m o=(m,dh.mk true v (Ll.mk []))):=by
  unfold tV
  rw [bK]
  generalize il m o.aZ=f at g c ⊢
  obtain⟨i,b⟩:=f
  simp only at g c
  subst g
  simp only [M7]
  rcases h.mid with he | ⟨v,he⟩
  . have hb: ¬ b=true:=λ hb=>c.1 hb he
    rw [if_neg hb]
    exact .inl ⟨he,rfl⟩
  . have hb:b=true:=c.2 (by rw [he]; simp)
    rw [if_pos hb,bK]
    refine .inr ⟨v,he, ?_⟩
    have:y2 m a.length default=az.mk o.aZ v:=by rw [h.app,he]; exact AU _ _ _
    rw [this]
structure Mid (m:List az) (u v:Key) (a b c:List az):Prop where
  app:m=a++(b++c)
  lo:∀ p ∈ a,p.aZ < u
  mid:∀ p ∈ b, ¬ p.aZ < u/\(v= []\/p.aZ < v)
  hi:∀ p ∈ c,v≠ []/\¬ p.aZ < v
theorem Co {m:List az} {r:aj} (hs:qF m) (hr:M.R r.aN r.aT):∃ a b c,Mid m r.aN r.aT a b c/\jR m r=(((a.length:Nat):Int),((a.length+b.length:Nat):Int)):=by
  obtain⟨a,b,hc,k,_⟩:=tZ hs r.aN
  unfold jR
  rw [bK,k]
  by_cases h:r.aT= []
  . rw [if_pos h]
    refine⟨a,b, [],⟨by rw [hc.app,List.append_nil],hc.lo,λ p hp=>⟨hc.hi p hp, .inl h⟩,λ p hp=>by cases hp⟩, ?_⟩
    rw [hc.app,o0]
  . rw [if_neg h,bK]
    obtain⟨c,d,f,l,_⟩:=tZ hs r.aT
    have hlt:r.aN < r.aT:=(hr.2.resolve_left h).2
    have hl:=hc.two hlt f
    rw [l]
    obtain⟨x,hx,g⟩:∃ x,c=a++x/\b=x++d:=by
      have e:a++b=c++d:=by rw [<- hc.app, <- f.app]
      rcases List.append_eq_append_iff.1 e with ⟨x,i,j⟩ | ⟨x,i,j⟩
      . exact⟨x,i,j⟩
      . have:x= []:=M8.1 (by rw [i,o0] at hl; omega)
        subst this
        exact⟨[],by rw [i]; simp,by rw [j]; rfl⟩
    refine⟨a,x,d,⟨by rw [hc.app,g],hc.lo,λ p hp=>⟨hc.hi p (by rw [g]; exact List.mem_append_left _ hp), .inr (f.lo p (by rw [hx]; exact List.mem_append_right _ hp))⟩,λ p hp=>⟨h,f.hi p hp⟩⟩, ?_⟩
    rw [hx,o0]
theorem Gy {m a b c:List az} {o:aX} (h:Mid m o.aN o.aT a b c) (e:jR m (aj.mk o.aN o.aT)=(((a.length:Nat):Int),((a.length+b.length:Nat):Int))):
    tq m o=(a++c,EU):=by
  unfold tq
  rw [bK,show fD o=aj.mk o.aN o.aT from rfl,bK,e,bK]
  unfold gM
  simp only [M7]
  by_cases hb:(a.length:Int)=((a.length+b.length:Nat):Int)
  . rw [if_pos hb]
    have:b= []:=M8.1 e8
    rw [h.app,this]; rfl
  . rw [if_neg hb,h.app,zo, <- List.drop_drop,uP,uP]
theorem GA {m a b c:List az} {o:aX} (h:Mid m o.aN o.aT a b c) (e:jR m (aj.mk o.aN o.aT)=(((a.length:Nat):Int),((a.length+b.length:Nat):Int))) (hm:1<=o.bS):
    sZ m o=(m,dh.mk false [] (Ll.mk (List.take o.bS.toNat b))):=by
  unfold sZ
  rw [bK,show fD o=aj.mk o.aN o.aT from rfl,bK,e]
  simp only [M7]
  congr 3
  rw [h.app,uP]
  obtain⟨n,hn⟩:∃ n:Nat,o.bS=n:=⟨o.bS.toNat,e8⟩
  rw [hn,show (a.length:Int)+(n:Int)=((a.length+n:Nat):Int) from rfl]
  have d:(min ((a.length+b.length:Nat):Int) ((a.length+n:Nat):Int)).toNat - a.length=min n b.length:=e8
  rw [d,M7]
  rw [List.take_append_of_le_length (Nat.min_le_right _ _)]
  rw [List.take_eq_take_iff]; omega
theorem zq {a b:List az} (h:a.Sublist b) (hs:qF b):qF a:=List.Pairwise.sublist h hs
theorem yG {o:aX} (h:dW o=0) (hk:o.aB=1\/o.aB=2\/o.aB=3):wM o.aZ:=by
  rcases hk with hk | hk | hk
  . rw [GU (.inl hk)] at h
    split at h
    . exact rU.1 h
    . cases h
  . rw [F4 hk] at h
    split at h
    . rw [CP] at h
      by_cases a:dY o.aZ=0
      . exact rU.1 a
      . rw [if_neg a] at h; exact absurd h a
    . cases h
  . rw [GU (.inr hk)] at h
    split at h
    . exact rU.1 h
    . cases h
theorem DD {o:aX} (h:dW o=0) (hk:o.aB=2):o.aO.length<=16:=by
  rw [F4 hk] at h
  split at h
  . rw [CP] at h
    by_cases a:dY o.aZ=0
    . rw [if_pos a] at h
      split at h
      . cases h
      . omega
    . rw [if_neg a] at h; exact absurd h a
  . cases h
theorem F5 {m:List az} {o:aX} {r} (h:uL m o=r) (hm:gy m=0) (ho:dW o=0) (hk:o.aB=2):gy r.1=0:=by
  obtain⟨hp,hs⟩:=rV.1 hm
  obtain⟨a,e,d,b,f,g⟩:=CQ hs o.aZ
  rw [<- h,Hg b f g]
  have hma:a.Sublist m:=by rw [b.app]; exact List.sublist_append_left _ _
  have hmd:d.Sublist m:=by rw [b.app]; exact(M9 e d).trans (M9 a _)
  refine rV.2 ⟨λ p c=> ?_,Cm.2 ⟨zq hma hs,xL.2 ⟨b.hi,zq hmd hs⟩,λ x hx y hy=> ?_⟩⟩
  . rcases List.mem_append.1 c with hx | hx
    . exact hp p (hma.subset hx)
    . rcases u3.1 hx with rfl | hx
      . exact⟨yG ho (.inr (.inl hk)),DD ho hk⟩
      . exact hp p (hmd.subset hx)
  . rcases u3.1 hy with rfl | hy
    . exact b.lo x hx
    . exact zm (b.lo x hx) (b.hi y hy)
theorem DF {m n:List az} (h:n.Sublist m) (hm:gy m=0):gy n=0:=
  rV.2 ⟨λ p hp=>(rV.1 hm).1 p (h.subset hp),zq h (rV.1 hm).2⟩
theorem F6 {m:List az} {o:aX} {r} (h:uM m o=r) (hm:gy m=0):gy r.1=0:=by
  obtain⟨a,e,d,b,c,f⟩:=CQ (rV.1 hm).2 o.aZ
  rw [<- h,Hl b c f]
  refine DF ?_ hm
  rw [b.app]
  exact(List.Sublist.refl a).append (M9 e d)
theorem F7 {m:List az} {o:aX} {r} (h:tV m o=r) (hm:gy m=0):gy r.1=0:=by
  obtain⟨a,e,d,c,f,g⟩:=CQ (rV.1 hm).2 o.aZ
  rcases Hm c f g with ⟨_,b⟩ | ⟨v,_,b⟩ <;> rw [<- h,b] <;> exact hm
theorem Fb {m:List az} {o:aX} {r} (h:sZ m o=r) (hm:gy m=0) (ho:dW o=0) (hk:o.aB=4):gy r.1=0:=by
  obtain⟨a,b,c,d,e⟩:=Co (r:=aj.mk o.aN o.aT) (rV.1 hm).2 (uZ ho (.inl hk))
  rw [<- h,GA d e (Ck ho hk).1]; exact hm
theorem Fe {m:List az} {o:aX} {r} (h:tq m o=r) (hm:gy m=0) (ho:dW o=0) (hk:o.aB=5):gy r.1=0:=by
  obtain⟨a,b,c,d,e⟩:=Co (r:=aj.mk o.aN o.aT) (rV.1 hm).2 (uZ ho (.inr hk))
  rw [<- h,Gy d e]
  refine DF ?_ hm
  rw [d.app]
  exact(List.Sublist.refl a).append (M9 b c)
end
open IntKind renaming i64->B5
open List renaming flatMap->q2,flatMap_append->t7,length_cons->r5,length_nil->K1,toArray->v0
open Sv renaming mk->N1
open _root_.Go.Proofs.Tryz renaming call67->D0,isAgg68->C4,isAgg70->L4,isAgg96->N0,sizeOf149->C1,sizeOf68->C2,sizeOf70->L3,underlying45->G4
open WL renaming nil->B6
section
open Go.RowKit
def gJ:List aX->List az->List dh->(List az) × (List dh)
  | [],b,c=>(b,c)
  | a::d,b,c=>if a.aB=1 then bnd (tV b a) λ e=>gJ d e.1 (c++ [e.2]) else if a.aB=2 then bnd (uL b a) λ f=>gJ d f.1 (c++ [f.2]) else if a.aB=3 then bnd (uM b a) λ g=>gJ d g.1 (c++ [g.2]) else if a.aB=4 then bnd (sZ b a) λ h=>gJ d h.1 (c++ [h.2]) else bnd (tq b a) λ i=>gJ d i.1 (c++ [i.2])
def qB (c:List az) (l1:List aX):(List az) × (List dh) × Int:=
 bnd (gy c) λ a=>if a=0 then bnd (jB l1) λ b=>if b=0 then bnd (gJ l1 c []) λ sLrbtbtL=>(sLrbtbtL.1,sLrbtbtL.2,0) else(([]:List az),([]:List dh),b) else(([]:List az),([]:List dh),a)
theorem BG (w D A0 n0 c0 I A1 n1 c1 l1 r0 r1 r2) (H:Own w D w []) (dU:Ro w D λ w'=>bO w' 2 A0 n0 (q2 az.cells I)) (jg:n0=I.length) (mI:I.length *32<=211106232532992) (aV:Ro w D λ w'=>bO w' 6 A1 n1 (q2 aX.cells l1)) (jh:n1=l1.length) (mJ:l1.length *80<=211106232532992) (mM:(I.length+l1.length) *32<=211106232532992) (hr:qB I l1=(r0,r1,r2)):
    Calls Tryz.prog 177 #[.slice A0 n0 c0, .slice A1 n1 c1] w (dI λ v w'=> ∃ B0 b0 B1 b1 e1,v= .tuple #[.slice B0 r0.length b0, .slice B1 r1.length b1,vI r2]/\Own w D w' [row B0 r0.length b0 (q2 az.cells r0) 101 2,row B1 r1.length b1 (q2 aR.cells e1) 70 3,sepL (q2 IJ e1)]/\(List.map aR.abs e1=r1)/\(r0.length<=I.length+l1.length)/\(r1.length<=l1.length)):=by
 subst jg jh
 refine cb Tryz.func177 ?_
 refine sr (Az rfl (Az rfl (An rfl (H7 (sr (Mz rfl ?_))))))
 obtain⟨aj,N⟩:∃ q,gy I=q:=⟨_,rfl⟩
 obtain⟨mO,dV,dX,dY,kK⟩:=Ia H
 refine cl Tryz.call215 (zh _ _ A0 I.length c0 I aj dV (dX _ dU) rfl e8 N) ?_
 rintro _ bQ ⟨rfl,dZ⟩
 have d9:=dY _ _ dZ
 refine Ar rfl (Mz rfl (fw (.bool (decide (¬ (aj=0)))) (Iu (e:= !(decide (aj=0))) yk decide_not.symm) (nt ?_)))
 by_cases ak:aj=0
 refine jF (dF (Lp ak)) (sk (H7 (sr (Mz rfl ?_))))
 obtain⟨au,O⟩:∃ q,jB l1=q:=⟨_,rfl⟩
 obtain⟨mP,ed,ek,eu,kL⟩:=Ia d9
 refine cl Tryz.call66 (qU _ _ A1 l1.length c1 l1 au ed (ek _ aV) rfl e8 O) ?_
 rintro _ bR ⟨rfl,eB⟩
 have eD:=eu _ _ eB
 refine Ar rfl (Mz rfl (fw (.bool (decide (¬ (au=0)))) (Iu (e:= !(decide (au=0))) yk decide_not.symm) (nt ?_)))
 by_cases aW:au=0
 refine jF (dF (Lp aW)) (sk (sr (Mz rfl ?_)))
 obtain⟨mQ,eF,eG,eH,kM⟩:=Ia eD
 refine cl Tryz.call165 (mK _ _ A0 I.length c0 I I eF (eG _ dU) rfl e8 rfl) ?_
 rintro _ eO ⟨bS,bT,rfl,eP⟩
 have eQ:=eH _ _ eP
 have kN:=eQ.rowC (i:=0) rfl
 refine Ar rfl (An rfl (H7 (sr (Mz rfl (Kz (vJ l1.length) (Mn rfl (bo ?_)))))))
 have jk:Own w D eO [sepL (q2 IJ []),row bS I.length bT (q2 az.cells I) 101 2]:=eQ.sepNil
 have jl:Own w D eO [row none 0 0 (q2 aR.cells []) 70 3,sepL (q2 IJ []),row bS I.length bT (q2 az.cells I) 101 2]:=jk.free (bZ 70 3)
 have jm:=jl.pf [2]
 obtain⟨jo,J⟩:=GN λ L (M:Nat) n aZ (bf:Nat) p h (j:Nat) w'=>Own w D w' [row L n.length M (q2 az.cells n) 101 2,row aZ h.length bf (q2 aR.cells p) 70 3,sepL (q2 IJ p)]/\List.map aR.abs p=h/\j<=l1.length/\n.length<=I.length+j/\h.length=j/\h.length<=j/\gy n=0/\gJ l1 I []=gJ (List.drop j l1) n h
 refine Wp.loop (λ i:(Option Addr) × Nat × (List az) × (Option Addr) × Nat × (List aR) × (List dh) × Nat=> [(0, .slice i.1 i.2.2.1.length i.2.1),(9, .slice i.2.2.2.1 i.2.2.2.2.2.2.1.length i.2.2.2.2.1),(29,vJ i.2.2.2.2.2.2.2),(28,vJ l1.length),(27, .slice A1 l1.length c1),(6,vI 0),(5, .slice none 0 0),(4, .slice none 0 0)]) jo (λ i=>l1.length - i.2.2.2.2.2.2.2) (bS,bT,I,none,0, [], [],0) ⟨rfl,rfl,rfl,rfl,rfl,rfl,rfl,rfl,trivial⟩ (J.2 ⟨jm,(show List.map aR.abs []=[]/\0<=l1.length/\I.length<=I.length/\0=0/\0<=0/\gy I=0/\gJ l1 I []=gJ (List.drop 0 l1) I [] from ⟨by exact rfl,e8,e8,e8,e8,by rw [N]; omega,rfl⟩)⟩) ?_
 rintro ⟨L,M,n,aZ,bf,p,h,j⟩ mR eT
 show Wp _ _ _ [(0, .slice L n.length M),(9, .slice aZ h.length bf),(29,vJ j),(28,vJ l1.length),(27, .slice A1 l1.length c1),(6,vI 0),(5, .slice none 0 0),(4, .slice none 0 0)] _ _
 obtain⟨av,r,kP,kQ,kR,kS,kT,K⟩:=J.1 eT
 have kU:=aY r
 refine sr (Kz (.bool (decide ((j:Int) < (l1.length:Int)))) (nt (H7 ?_)))
 by_cases eU:(j:Int) < (l1.length:Int)
 obtain⟨o,W⟩:=dG (ls:=l1) (i:=j) aX.len f5 (av.ro aV) f2
 have kV:=Cg (l:=l1) (by rw [O]; omega) W
 have kW:dW o=0:=xz (l:=l1) (by rw [O]; omega) _ (List.mem_of_getElem? W)
 have P:=drop_at W
 refine jT (dT eU) (sk (H7 (bo (sr (fw (.pointer (some ⟨ab A1,ao A1+j *6,none⟩)) (Im (nN) rfl rfl ((av.ro aV).addr (i:=j) e8) e8) (fw (.agg (aX.cells o).toArray) (Il rfl (Io (cs:=(aX.cells o)) C4 C2 ((av.ro aV).elem aX.len W f5))) ?_))))))
 refine bW [vI 0, .string ⟨v0 []⟩, .string ⟨v0 []⟩, .string ⟨v0 []⟩, .string ⟨v0 []⟩,vI 0] 68 av ?_
 intro jq mU jr
 refine cu (aX.cells o) 0 jr C2 ?_
 intro mV ah
 refine ns (Kz (vP jq 0) (Lz (vI o.aB) ah 0 Tryz.isAgg3 ?_))
 by_cases ai:o.aB=1
 obtain⟨mW,eZ,kX,fe,kY⟩:=Ia ah
 refine cl D0 (nO _ _ o.aB eZ (of_decide_eq_true (dT ai))) ?_
 rintro _ mX ⟨rfl,fo⟩
 have jv:=fe _ _ fo
 refine Mz rfl (Kz (.agg o2k.toArray) (Kz (.bool true) ?_))
 refine bW [.bool false, .nilFunc, .nilFunc, .nilFunc, .nilFunc] 149 jv ?_
 intro fq kZ fu
 refine cu o2k 0 fu C1 ?_
 intro lc fA
 refine Ar rfl ?_
 refine bW [.bool false, .string ⟨v0 []⟩, .slice none 0 0] 70 fA ?_
 intro lg lh ax
 refine ns (Kz (vP fq 4) (Lz (.func (.func 102) #[] #[]) ax 1 N0 (Mz rfl (La (aX.cells o) ax 2 C4 C2 ?_))))
 have fB:=ax.pf [3]
 obtain⟨⟨X,a⟩,R⟩:∃ q:(List az) × dh,tV n o=q:=⟨_,rfl⟩
 obtain⟨ll,bU,jw,bV,jy⟩:=IE fB
 refine WL.do rfl (IM Tryz.call102 rfl rfl (Dr _ _ L n.length M n o X a bU rfl e8 e8 R) ?_)
 rintro _ lm ⟨bg,bi,t,u,rfl,bX,ay⟩
 have aA:=bV _ _ bX
 have jA:=aA.rowC (i:=0) rfl
 have jC:=aA.rowC (i:=1) rfl
 replace ay:X.length<=n.length+1:=ay
 refine Mz rfl (Kz (.slice bg X.length bi) (Kz (.agg #[.bool a.dP, .string ⟨v0 a.aO⟩, .slice t a.bz.ls.length u]) (Az rfl ?_)))
 have fC:=aA.pf [2]
 refine cu [.bool a.dP, .string ⟨v0 a.aO⟩, .slice t a.bz.ls.length u] 0 fC L3 ?_
 intro lq bn
 refine nt (H8 (Mz rfl (La ([.bool a.dP, .string ⟨v0 a.aO⟩, .slice t a.bz.ls.length u]) bn 0 L4 L3 ?_)))
 refine jN [.bool a.dP, .string ⟨v0 a.aO⟩, .slice t a.bz.ls.length u] 70 3 1 bn ?_
 intro fD lu aB
 replace aB:=IL (y:=row fD 1 1 (q2 aR.cells ([(aR.mk a.dP a.aO (N1 t u a.bz.ls))])) 70 3) rfl aB
 have bq:=aB.pf [6,7,3]
 refine WL.do rfl (IC (k:=h.length) (m:=1) (uw) bq rfl rfl (eY G4 (bq.rds (i:=3) rfl) (cZ aR.one ([(aR.mk a.dP a.aO (N1 t u a.bz.ls))]))) rfl e8 (s:=q7 (h++ [a])) f3 (t7).symm ?_)
 intro fE fF fG fH
 have fI:=fH.pf [1,2]
 have fJ:Own w D fG (sepL (q2 IJ (p++ [(aR.mk a.dP a.aO (N1 t u a.bz.ls))]))::_):=fI.sepAdd (L2:= [row t a.bz.ls.length u (q2 az.cells a.bz.ls) 101 2]) (t7 (f:=IJ) (xs:=p) (ys:= [(aR.mk a.dP a.aO (N1 t u a.bz.ls))])).symm
 have jD:q7 (h++ [a])=h.length+1:=by simp only [o0,r5,K1]
 have jE:=aY (jI (es:= [(aR.mk a.dP a.aO (N1 t u a.bz.ls))]) (ms:= [a]) r rfl)
 refine Az rfl (B6 (bN (Ib (H8 (fw (vJ (j+1)) (Ig (e:=B5.wrap ((j:Int)+1)) yk f1) (Mz rfl (B6 ?_)))))))
 have fK:=fJ.pk [4,1,0]
 exact Iq (bg,bi,X,fE,fF,(p++ [(aR.mk a.dP a.aO (N1 t u a.bz.ls))]),(h++ [a]),j+1) ⟨rfl,rfl,rfl,rfl,rfl,rfl,rfl,rfl,trivial⟩ (J.2 ⟨fK,by exact(jI (es:= [(aR.mk a.dP a.aO (N1 t u a.bz.ls))]) (ms:= [a]) r rfl),e8,e8,e8,e8,by exact F7 R f6,et (K) (et (congrArg (λ q=>gJ q n h) P) (et (ip ai) (ae R)))⟩) (by show l1.length - (j+1) < l1.length - j; omega)
 by_cases Q:o.aB=2
 obtain⟨lv,bY,jG,cz,jH⟩:=Ia ah
 refine cl D0 (nP _ _ o.aB bY (of_decide_eq_true (dT Q))) ?_
 rintro _ lw ⟨rfl,cB⟩
 have fM:=cz _ _ cB
 refine Mz rfl (Kz (.agg o3k.toArray) (Kz (.bool true) ?_))
 refine bW [.bool false, .nilFunc, .nilFunc, .nilFunc, .nilFunc] 149 fM ?_
 intro fO lC fP
 refine cu o3k 0 fP C1 ?_
 intro lD fQ
 refine Ar rfl ?_
 refine bW [.bool false, .string ⟨v0 []⟩, .slice none 0 0] 70 fQ ?_
 intro lF lG aC
 refine ns (Kz (vP fO 4) (Lz (.func (.func 105) #[] #[]) aC 1 N0 (Mz rfl (La (aX.cells o) aC 2 C4 C2 ?_))))
 have fT:=aC.pf [3]
 obtain⟨⟨Y,b⟩,S⟩:∃ q:(List az) × dh,uL n o=q:=⟨_,rfl⟩
 obtain⟨lH,cK,jJ,cO,jK⟩:=IE fT
 refine WL.do rfl (IM Tryz.call105 rfl rfl (Dt _ _ L n.length M n o Y b cK rfl e8 e8 S) ?_)
 rintro _ lI ⟨bu,bv,x,z,rfl,df,aD⟩
 have aF:=cO _ _ df
 have jL:=aF.rowC (i:=0) rfl
 have jM:=aF.rowC (i:=1) rfl
 replace aD:Y.length<=n.length+1:=aD
 refine Mz rfl (Kz (.slice bu Y.length bv) (Kz (.agg #[.bool b.dP, .string ⟨v0 b.aO⟩, .slice x b.bz.ls.length z]) (Az rfl ?_)))
 have fU:=aF.pf [2]
 refine cu [.bool b.dP, .string ⟨v0 b.aO⟩, .slice x b.bz.ls.length z] 0 fU L3 ?_
 intro lJ bz
 refine nt (H8 (Mz rfl (La ([.bool b.dP, .string ⟨v0 b.aO⟩, .slice x b.bz.ls.length z]) bz 0 L4 L3 ?_)))
 refine jN [.bool b.dP, .string ⟨v0 b.aO⟩, .slice x b.bz.ls.length z] 70 3 1 bz ?_
 intro fV lK aG
 replace aG:=IL (y:=row fV 1 1 (q2 aR.cells ([(aR.mk b.dP b.aO (N1 x z b.bz.ls))])) 70 3) rfl aG
 have bA:=aG.pf [6,7,3]
 refine WL.do rfl (IC (k:=h.length) (m:=1) (uw) bA rfl rfl (eY G4 (bA.rds (i:=3) rfl) (cZ aR.one ([(aR.mk b.dP b.aO (N1 x z b.bz.ls))]))) rfl e8 (s:=q7 (h++ [b])) f3 (t7).symm ?_)
 intro fZ gm gp gq
 have gu:=gq.pf [1,2]
 have gz:Own w D gp (sepL (q2 IJ (p++ [(aR.mk b.dP b.aO (N1 x z b.bz.ls))]))::_):=gu.sepAdd (L2:= [row x b.bz.ls.length z (q2 az.cells b.bz.ls) 101 2]) (t7 (f:=IJ) (xs:=p) (ys:= [(aR.mk b.dP b.aO (N1 x z b.bz.ls))])).symm
 have jO:q7 (h++ [b])=h.length+1:=by simp only [o0,r5,K1]
 have jP:=aY (jI (es:= [(aR.mk b.dP b.aO (N1 x z b.bz.ls))]) (ms:= [b]) r rfl)
 refine Az rfl (B6 (bN (Ib (H8 (fw (vJ (j+1)) (Ig (e:=B5.wrap ((j:Int)+1)) yk f1) (Mz rfl (B6 ?_)))))))
 have gB:=gz.pk [4,1,0]
 exact Iq (bu,bv,Y,fZ,gm,(p++ [(aR.mk b.dP b.aO (N1 x z b.bz.ls))]),(h++ [b]),j+1) ⟨rfl,rfl,rfl,rfl,rfl,rfl,rfl,rfl,trivial⟩ (J.2 ⟨gB,by exact(jI (es:= [(aR.mk b.dP b.aO (N1 x z b.bz.ls))]) (ms:= [b]) r rfl),e8,e8,e8,e8,by exact F5 S f6 f6 e8,et (K) (et (congrArg (λ q=>gJ q n h) P) (et (iN ai) (et (ip Q) (ae S))))⟩) (by show l1.length - (j+1) < l1.length - j; omega)
 by_cases Z:o.aB=3
 obtain⟨lL,di,jQ,dm,jR⟩:=Ia ah
 refine cl D0 (nQ _ _ o.aB di (of_decide_eq_true (dT Z))) ?_
 rintro _ lM ⟨rfl,dn⟩
 have gD:=dm _ _ dn
 refine Mz rfl (Kz (.agg o4k.toArray) (Kz (.bool true) ?_))
 refine bW [.bool false, .nilFunc, .nilFunc, .nilFunc, .nilFunc] 149 gD ?_
 intro gF lN gG
 refine cu o4k 0 gG C1 ?_
 intro lQ gH
 refine Ar rfl ?_
 refine bW [.bool false, .string ⟨v0 []⟩, .slice none 0 0] 70 gH ?_
 intro lS lT aH
 refine ns (Kz (vP gF 4) (Lz (.func (.func 106) #[] #[]) aH 1 N0 (Mz rfl (La (aX.cells o) aH 2 C4 C2 ?_))))
 have gI:=aH.pf [3]
 obtain⟨⟨aa,c⟩,T⟩:∃ q:(List az) × dh,uM n o=q:=⟨_,rfl⟩
 obtain⟨lU,dw,jS,dx,jU⟩:=IE gI
 refine WL.do rfl (IM Tryz.call106 rfl rfl (Du _ _ L n.length M n o aa c dw rfl e8 e8 T) ?_)
 rintro _ lV ⟨bB,bC,A,B,rfl,dz,aI⟩
 have aJ:=dx _ _ dz
 have jV:=aJ.rowC (i:=0) rfl
 have jW:=aJ.rowC (i:=1) rfl
 replace aI:aa.length<=n.length+1:=aI
 refine Mz rfl (Kz (.slice bB aa.length bC) (Kz (.agg #[.bool c.dP, .string ⟨v0 c.aO⟩, .slice A c.bz.ls.length B]) (Az rfl ?_)))
 have gK:=aJ.pf [2]
 refine cu [.bool c.dP, .string ⟨v0 c.aO⟩, .slice A c.bz.ls.length B] 0 gK L3 ?_
 intro lW bD
 refine nt (H8 (Mz rfl (La ([.bool c.dP, .string ⟨v0 c.aO⟩, .slice A c.bz.ls.length B]) bD 0 L4 L3 ?_)))
 refine jN [.bool c.dP, .string ⟨v0 c.aO⟩, .slice A c.bz.ls.length B] 70 3 1 bD ?_
 intro gL lX aK
 replace aK:=IL (y:=row gL 1 1 (q2 aR.cells ([(aR.mk c.dP c.aO (N1 A B c.bz.ls))])) 70 3) rfl aK
 have bE:=aK.pf [6,7,3]
 refine WL.do rfl (IC (k:=h.length) (m:=1) (uw) bE rfl rfl (eY G4 (bE.rds (i:=3) rfl) (cZ aR.one ([(aR.mk c.dP c.aO (N1 A B c.bz.ls))]))) rfl e8 (s:=q7 (h++ [c])) f3 (t7).symm ?_)
 intro gM gN gP gQ
 have gT:=gQ.pf [1,2]
 have gU:Own w D gP (sepL (q2 IJ (p++ [(aR.mk c.dP c.aO (N1 A B c.bz.ls))]))::_):=gT.sepAdd (L2:= [row A c.bz.ls.length B (q2 az.cells c.bz.ls) 101 2]) (t7 (f:=IJ) (xs:=p) (ys:= [(aR.mk c.dP c.aO (N1 A B c.bz.ls))])).symm
 have jX:q7 (h++ [c])=h.length+1:=by simp only [o0,r5,K1]
 have jY:=aY (jI (es:= [(aR.mk c.dP c.aO (N1 A B c.bz.ls))]) (ms:= [c]) r rfl)
 refine Az rfl (B6 (bN (Ib (H8 (fw (vJ (j+1)) (Ig (e:=B5.wrap ((j:Int)+1)) yk f1) (Mz rfl (B6 ?_)))))))
 have gV:=gU.pk [4,1,0]
 exact Iq (bB,bC,aa,gM,gN,(p++ [(aR.mk c.dP c.aO (N1 A B c.bz.ls))]),(h++ [c]),j+1) ⟨rfl,rfl,rfl,rfl,rfl,rfl,rfl,rfl,trivial⟩ (J.2 ⟨gV,by exact(jI (es:= [(aR.mk c.dP c.aO (N1 A B c.bz.ls))]) (ms:= [c]) r rfl),e8,e8,e8,e8,by exact F6 T f6,et (K) (et (congrArg (λ q=>gJ q n h) P) (et (iN ai) (et (iN Q) (et (ip Z) (ae T)))))⟩) (by show l1.length - (j+1) < l1.length - j; omega)
 by_cases aL:o.aB=4
 obtain⟨lY,dA,jZ,dB,j3⟩:=Ia ah
 refine cl D0 (nR _ _ o.aB dA (of_decide_eq_true (dT aL))) ?_
 rintro _ lZ ⟨rfl,dC⟩
 have gW:=dB _ _ dC
 refine Mz rfl (Kz (.agg o5k.toArray) (Kz (.bool true) ?_))
 refine bW [.bool false, .nilFunc, .nilFunc, .nilFunc, .nilFunc] 149 gW ?_
 intro gX l5 gY
 refine cu o5k 0 gY C1 ?_
 intro l6 gZ
 refine Ar rfl ?_
 refine bW [.bool false, .string ⟨v0 []⟩, .slice none 0 0] 70 gZ ?_
 intro l7 l8 aM
 refine ns (Kz (vP gX 4) (Lz (.func (.func 110) #[] #[]) aM 1 N0 (Mz rfl (La (aX.cells o) aM 2 C4 C2 ?_))))
 have ib:=aM.pf [3]
 obtain⟨⟨af,d⟩,U⟩:∃ q:(List az) × dh,sZ n o=q:=⟨_,rfl⟩
 obtain⟨l9,dD,j4,dE,j5⟩:=IE ib
 refine WL.do rfl (IM Tryz.call110 rfl rfl (CG _ _ L n.length M n o af d dD rfl e8 e8 j0 (by exact Ck f6 e8) U) ?_)
 rintro _ ma ⟨bF,bG,C,E,rfl,dH,aN⟩
 have aO:=dE _ _ dH
 have j6:=aO.rowC (i:=0) rfl
 have kg:=aO.rowC (i:=1) rfl
 replace aN:af.length<=n.length+1:=aN
 refine Mz rfl (Kz (.slice bF af.length bG) (Kz (.agg #[.bool d.dP, .string ⟨v0 d.aO⟩, .slice C d.bz.ls.length E]) (Az rfl ?_)))
 have ic:=aO.pf [2]
 refine cu [.bool d.dP, .string ⟨v0 d.aO⟩, .slice C d.bz.ls.length E] 0 ic L3 ?_
 intro mf bH
 refine nt (H8 (Mz rfl (La ([.bool d.dP, .string ⟨v0 d.aO⟩, .slice C d.bz.ls.length E]) bH 0 L4 L3 ?_)))
 refine jN [.bool d.dP, .string ⟨v0 d.aO⟩, .slice C d.bz.ls.length E] 70 3 1 bH ?_
 intro ig mg aP
 replace aP:=IL (y:=row ig 1 1 (q2 aR.cells ([(aR.mk d.dP d.aO (N1 C E d.bz.ls))])) 70 3) rfl aP
 have bI:=aP.pf [6,7,3]
 refine WL.do rfl (IC (k:=h.length) (m:=1) (uw) bI rfl rfl (eY G4 (bI.rds (i:=3) rfl) (cZ aR.one ([(aR.mk d.dP d.aO (N1 C E d.bz.ls))]))) rfl e8 (s:=q7 (h++ [d])) f3 (t7).symm ?_)
 intro ik il iq iw
 have iy:=iw.pf [1,2]
 have iA:Own w D iq (sepL (q2 IJ (p++ [(aR.mk d.dP d.aO (N1 C E d.bz.ls))]))::_):=iy.sepAdd (L2:= [row C d.bz.ls.length E (q2 az.cells d.bz.ls) 101 2]) (t7 (f:=IJ) (xs:=p) (ys:= [(aR.mk d.dP d.aO (N1 C E d.bz.ls))])).symm
 have ko:q7 (h++ [d])=h.length+1:=by simp only [o0,r5,K1]
 have kr:=aY (jI (es:= [(aR.mk d.dP d.aO (N1 C E d.bz.ls))]) (ms:= [d]) r rfl)
 refine Az rfl (B6 (bN (Ib (H8 (fw (vJ (j+1)) (Ig (e:=B5.wrap ((j:Int)+1)) yk f1) (Mz rfl (B6 ?_)))))))
 have iB:=iA.pk [4,1,0]
 exact Iq (bF,bG,af,ik,il,(p++ [(aR.mk d.dP d.aO (N1 C E d.bz.ls))]),(h++ [d]),j+1) ⟨rfl,rfl,rfl,rfl,rfl,rfl,rfl,rfl,trivial⟩ (J.2 ⟨iB,by exact(jI (es:= [(aR.mk d.dP d.aO (N1 C E d.bz.ls))]) (ms:= [d]) r rfl),e8,e8,e8,e8,by exact Fb U f6 f6 e8,et (K) (et (congrArg (λ q=>gJ q n h) P) (et (iN ai) (et (iN Q) (et (iN Z) (et (ip aL) (ae U))))))⟩) (by show l1.length - (j+1) < l1.length - j; omega)
 have dJ:(decide (o.aB=5))=true:=(dT e8)
 obtain⟨mh,dK,ku,dL,kv⟩:=Ia ah
 refine cl D0 (nS _ _ o.aB dK (of_decide_eq_true dJ)) ?_
 rintro _ mi ⟨rfl,dM⟩
 have iC:=dL _ _ dM
 refine Mz rfl (Kz (.agg o6k.toArray) (Kz (.bool true) ?_))
 refine bW [.bool false, .nilFunc, .nilFunc, .nilFunc, .nilFunc] 149 iC ?_
 intro iD mo iE
 refine cu o6k 0 iE C1 ?_
 intro mq iF
 refine Ar rfl ?_
 refine bW [.bool false, .string ⟨v0 []⟩, .slice none 0 0] 70 iF ?_
 intro mr mD aQ
 refine ns (Kz (vP iD 4) (Lz (.func (.func 113) #[] #[]) aQ 1 N0 (Mz rfl (La (aX.cells o) aQ 2 C4 C2 ?_))))
 have iG:=aQ.pf [3]
 obtain⟨⟨ag,g⟩,V⟩:∃ q:(List az) × dh,tq n o=q:=⟨_,rfl⟩
 obtain⟨mE,dN,kw,dO,ky⟩:=IE iG
 refine WL.do rfl (IM Tryz.call113 rfl rfl (CJ _ _ L n.length M n o ag g dN rfl e8 e8 j0 V) ?_)
 rintro _ mF ⟨bJ,bK,F,G,rfl,dP,aS⟩
 have aT:=dO _ _ dP
 have kz:=aT.rowC (i:=0) rfl
 have kC:=aT.rowC (i:=1) rfl
 replace aS:ag.length<=n.length+1:=aS
 refine Mz rfl (Kz (.slice bJ ag.length bK) (Kz (.agg #[.bool g.dP, .string ⟨v0 g.aO⟩, .slice F g.bz.ls.length G]) (Az rfl ?_)))
 have iH:=aT.pf [2]
 refine cu [.bool g.dP, .string ⟨v0 g.aO⟩, .slice F g.bz.ls.length G] 0 iH L3 ?_
 intro mG bL
 refine nt (H8 (Mz rfl (La ([.bool g.dP, .string ⟨v0 g.aO⟩, .slice F g.bz.ls.length G]) bL 0 L4 L3 ?_)))
 refine jN [.bool g.dP, .string ⟨v0 g.aO⟩, .slice F g.bz.ls.length G] 70 3 1 bL ?_
 intro iI mH aU
 replace aU:=IL (y:=row iI 1 1 (q2 aR.cells ([(aR.mk g.dP g.aO (N1 F G g.bz.ls))])) 70 3) rfl aU
 have bM:=aU.pf [6,7,3]
 refine WL.do rfl (IC (k:=h.length) (m:=1) (uw) bM rfl rfl (eY G4 (bM.rds (i:=3) rfl) (cZ aR.one ([(aR.mk g.dP g.aO (N1 F G g.bz.ls))]))) rfl e8 (s:=q7 (h++ [g])) f3 (t7).symm ?_)
 intro iJ iK iL iM
 have iO:=iM.pf [1,2]
 have iP:Own w D iL (sepL (q2 IJ (p++ [(aR.mk g.dP g.aO (N1 F G g.bz.ls))]))::_):=iO.sepAdd (L2:= [row F g.bz.ls.length G (q2 az.cells g.bz.ls) 101 2]) (t7 (f:=IJ) (xs:=p) (ys:= [(aR.mk g.dP g.aO (N1 F G g.bz.ls))])).symm
 have kD:q7 (h++ [g])=h.length+1:=by simp only [o0,r5,K1]
 have kE:=aY (jI (es:= [(aR.mk g.dP g.aO (N1 F G g.bz.ls))]) (ms:= [g]) r rfl)
 refine Az rfl (B6 (bN (Ib (H8 (fw (vJ (j+1)) (Ig (e:=B5.wrap ((j:Int)+1)) yk f1) (Mz rfl (B6 ?_)))))))
 have iQ:=iP.pk [4,1,0]
 exact Iq (bJ,bK,ag,iJ,iK,(p++ [(aR.mk g.dP g.aO (N1 F G g.bz.ls))]),(h++ [g]),j+1) ⟨rfl,rfl,rfl,rfl,rfl,rfl,rfl,rfl,trivial⟩ (J.2 ⟨iQ,by exact(jI (es:= [(aR.mk g.dP g.aO (N1 F G g.bz.ls))]) (ms:= [g]) r rfl),e8,e8,e8,e8,by exact Fe V f6 f6 e8,et (K) (et (congrArg (λ q=>gJ q n h) P) (et (iN ai) (et (iN Q) (et (iN Z) (et (iN aL) (ae V))))))⟩) (by show l1.length - (j+1) < l1.length - j; omega)
 refine jF (dF eU) (Wp.exit (Ip ?_))
 have dQ:gJ l1 I []=(n,h):=et (K) (et (congrArg (λ q=>gJ q n h) (eX (ls:=l1) (i:=j) e8)) rfl)
 refine Ip (Iz (Ib (sr (Mz rfl (Mz rfl (Az rfl (Az rfl (An rfl (rt (Ir (xC rfl rfl rfl rfl) ?_))))))))))
 have iR:=av.pf []
 obtain⟨rfl,rfl,rfl⟩:=ym (zj hr (show _=(n,h,0) from et (ae N) (et (ip ak) (et (ae O) (et (ip aW) (ae dQ))))))
 exact⟨L,M,aZ,bf,p,rfl,iR,r,i0,i0⟩
 refine jT (dT aW) (sr (Mz rfl (Az rfl (Az rfl (An rfl (rt (tR (Ir (xC rfl rfl rfl rfl) ?_))))))))
 have iT:Own w D bR [row none 0 0 (q2 az.cells []) 101 2]:=eD.free (bZ 101 2)
 have iU:Own w D bR [sepL (q2 IJ []),row none 0 0 (q2 az.cells []) 101 2]:=iT.sepNil
 have iV:Own w D bR [row none 0 0 (q2 aR.cells []) 70 3,sepL (q2 IJ []),row none 0 0 (q2 az.cells []) 101 2]:=iU.free (bZ 70 3)
 have iW:=iV.pf [2]
 obtain⟨rfl,rfl,rfl⟩:=ym (zj hr (show _=(([]:List az),([]:List dh),au) from et (ae N) (et (ip ak) (et (ae O) (iN aW)))))
 exact⟨none,0,none,0, [],rfl,iW,rfl,i0,i0⟩
 refine jT (dT ak) (sr (Mz rfl (Az rfl (Az rfl (An rfl (rt (tR (Ir (xC rfl rfl rfl rfl) ?_))))))))
 have iX:Own w D bQ [row none 0 0 (q2 az.cells []) 101 2]:=d9.free (bZ 101 2)
 have iY:Own w D bQ [sepL (q2 IJ []),row none 0 0 (q2 az.cells []) 101 2]:=iX.sepNil
 have iZ:Own w D bQ [row none 0 0 (q2 aR.cells []) 70 3,sepL (q2 IJ []),row none 0 0 (q2 az.cells []) 101 2]:=iY.free (bZ 70 3)
 have ja:=iZ.pf [2]
 obtain⟨rfl,rfl,rfl⟩:=ym (zj hr (show _=(([]:List az),([]:List dh),aj) from et (ae N) (iN ak)))
 exact⟨none,0,none,0, [],rfl,ja,rfl,i0,i0⟩
end
open Ll renaming mk->F2
open _root_.Go.Proofs.Tryz renaming isAgg37->C6,isAgg9->y4,sizeOf37->C5
section
open Go.RowKit
def wO (c:List az) (a:aX):(List az) × dh:=
 if a.aB=1 then bnd (qA c a.aZ) λ b=>(c,dh.mk b.2 b.1 (F2 [])) else if a.aB=2 then bnd (xc c (az.mk a.aZ a.aO)) λ f=>(f,dh.mk false [] (F2 [])) else if a.aB=3 then bnd (pu a.aZ) λ g=>bnd (nH c g.1) λ h=>(h,dh.mk false [] (F2 [])) else if a.aB=4 then bnd (pK c (aj.mk a.aN a.aT) a.bS) λ d=>(c,dh.mk false [] (F2 d)) else bnd (nH c (aj.mk a.aN a.aT)) λ e=>(e,dh.mk false [] (F2 []))
theorem DI (w D s n0 t b) (a:aX) (r0) (r1:dh) (H:Own w D w [row s n0 t (q2 az.cells b) 101 2]) (bA:n0=b.length) (dC:b.length *32<=211106232532992) (dD:(b.length+1) *32<=211106232532992) (hr:wO b a=(r0,r1)):
    Calls Tryz.prog 25 #[.slice s n0 t, .agg (aX.cells a).toArray] w (dI λ v w'=> ∃ B0 b0 F G,v= .tuple #[.slice B0 r0.length b0, .agg #[.bool r1.dP, .string ⟨v0 r1.aO⟩, .slice F r1.bz.ls.length G]]/\Own w D w' [row B0 r0.length b0 (q2 az.cells r0) 101 2,row F r1.bz.ls.length G (q2 az.cells r1.bz.ls) 101 2]/\(r0.length<=b.length+1)):=by
 unfold wO at hr
 subst bA
 have dE:=H.rowC (i:=0) rfl
 refine cb Tryz.func25 ?_
 refine sr ?_
 refine bW (aX.cells a) 68 H ?_
 intro e dG bB
 refine Az rfl ?_
 refine bW [.bool false, .string ⟨v0 []⟩, .slice none 0 0] 70 bB ?_
 intro dH dJ V
 refine ns (Kz (vP e 3) (Lz (.string ⟨v0 a.aN⟩) V 1 y4 (Kz (vP e 4) (Lz (.string ⟨v0 a.aT⟩) V 1 y4 (Kz (.agg #[.string ⟨v0 a.aN⟩, .string ⟨v0 a.aT⟩]) ?_)))))
 refine bW [.string ⟨v0 []⟩, .string ⟨v0 []⟩] 37 V ?_
 intro dK dL bC
 refine cu [.string ⟨v0 a.aN⟩, .string ⟨v0 a.aT⟩] 0 bC C5 ?_
 intro dM c
 refine nt (H7 (sr (Kz (vP e 0) (Lz (vI a.aB) c 2 Tryz.isAgg3 (nt (bo (sr (Kz (.bool (decide (a.aB=1))) (An rfl ?_)))))))))
 by_cases h:a.aB=1
 refine jT (dT h) (sr (Mz rfl (Kz (vP e 1) (Lz (.string ⟨v0 a.aZ⟩) c 2 y4 ?_))))
 obtain⟨⟨j,l⟩,I⟩:∃ q:(List UInt8) × Bool,qA b a.aZ=q:=⟨_,rfl⟩
 obtain⟨dN,au,cO,av,ax⟩:=Ia c
 refine cl Tryz.call56 (xA _ _ s b.length t b a.aZ j l au (ax _ 3 _ rfl bP) rfl e8 I) ?_
 rintro _ dO ⟨rfl,ay⟩
 have bD:=av _ _ ay
 refine Mz rfl (Kz (.string ⟨v0 j⟩) (Kz (.bool l) (Az rfl (An rfl (H7 ?_)))))
 have bE:=bD.pk [0,1,3]
 refine H8 (Mz rfl (Mz rfl (Mz rfl (Kz (.agg #[.bool l, .string ⟨v0 j⟩, .slice none 0 0]) (Az rfl ?_)))))
 have bF:=bE.pf [1]
 refine cu [.bool l, .string ⟨v0 j⟩, .slice none 0 0] 0 bF L3 ?_
 intro bG aA
 refine nt (rt (bR (tR (Ir (gq (vs:= [.slice s b.length t, .agg #[.bool l, .string ⟨v0 j⟩, .slice none 0 0]]) rfl (bT.tmp rfl (bT.cell rfl (Io (cs:= [.bool l, .string ⟨v0 j⟩, .slice none 0 0]) L4 L3 ((aA.cls (i:=0) rfl).lit (k:=0) (m:=3) rfl)) bT.nil)) (Lh rfl)) ?_))))
 have bH:Own w D bG (row none 0 0 (q2 az.cells []) 101 2::_):=aA.free (bZ 101 2)
 have bI:=bH.pk [3,0]
 obtain⟨rfl,rfl⟩:=fB (zj hr zq2)
 exact⟨s,t,none,0,rfl,bI,e8⟩
 refine jF (dF h) (sr (Kz (.bool (decide (a.aB=2))) (An rfl ?_)))
 by_cases p:a.aB=2
 refine jT (dT p) (sr (Mz rfl (Kz (vP e 1) (Lz (.string ⟨v0 a.aZ⟩) c 2 y4 (Kz (vP e 2) (Lz (.string ⟨v0 a.aO⟩) c 2 y4 (Kz (.agg #[.string ⟨v0 a.aZ⟩, .string ⟨v0 a.aO⟩]) ?_)))))))
 obtain⟨C,J⟩:∃ q,xc b (az.mk a.aZ a.aO)=q:=⟨_,rfl⟩
 obtain⟨dP,aB,cZ,aC,aD⟩:=Ia c
 refine cl Tryz.call57 (CL _ _ s b.length t b (az.mk a.aZ a.aO) C aB (aD _ 3 _ rfl bP) rfl e8 e8 J) ?_
 rintro _ dQ ⟨aF,aG,rfl,aH,K⟩
 have aI:=aC _ _ aH
 have df:=aI.rowC (i:=0) rfl
 replace K:C.length<=b.length+1:=K
 refine Kz (.agg #[.bool false, .string ⟨v0 []⟩, .slice none 0 0]) (Az rfl ?_)
 have bJ:=aI.pf [2]
 refine cu [.bool false, .string ⟨v0 []⟩, .slice none 0 0] 0 bJ L3 ?_
 intro bK aJ
 refine nt (rt (bR (tR (Ir (gq (vs:= [.slice aF C.length aG, .agg #[.bool false, .string ⟨v0 []⟩, .slice none 0 0]]) rfl (bT.tmp rfl (bT.cell rfl (Io (cs:= [.bool false, .string ⟨v0 []⟩, .slice none 0 0]) L4 L3 ((aJ.cls (i:=0) rfl).lit (k:=0) (m:=3) rfl)) bT.nil)) (Lh rfl)) ?_))))
 have bL:Own w D bK (row none 0 0 (q2 az.cells []) 101 2::_):=aJ.free (bZ 101 2)
 have bM:=bL.pk [2,0]
 obtain⟨rfl,rfl⟩:=fB (zj hr zq3)
 exact⟨aF,aG,none,0,rfl,bM,e8⟩
 refine jF (dF p) (sr (Kz (.bool (decide (a.aB=3))) (An rfl ?_)))
 by_cases u:a.aB=3
 refine jT (dT u) (sr (Kz (vP e 1) (Lz (.string ⟨v0 a.aZ⟩) c 2 y4 ?_)))
 obtain⟨⟨r,aK⟩,L⟩:∃ q:aj × Int,pu a.aZ=q:=⟨_,rfl⟩
 obtain⟨dR,aL,di,aM,dm⟩:=Ia c
 refine cl Tryz.call58 (AP _ _ a.aZ r aK aL L) ?_
 rintro _ dS ⟨rfl,aN⟩
 have bO:=aM _ _ aN
 refine Mz rfl (Kz (.agg (aj.cells r).toArray) (Kz (vI aK) ?_))
 refine bW [.string ⟨v0 []⟩, .string ⟨v0 []⟩] 37 bO ?_
 intro dU dV bQ
 refine cu (aj.cells r) 0 bQ C5 ?_
 intro dW bS
 refine An rfl (H7 ?_)
 have aO:=bS.px [] [3] []
 refine H8 (Mz rfl (La (aj.cells r) aO 0 C6 C5 ?_))
 obtain⟨E,M⟩:∃ q,nH b r=q:=⟨_,rfl⟩
 obtain⟨dX,aP,dn,aQ,aR⟩:=Ia aO
 refine cl Tryz.call59 (uO _ _ s b.length t b r E aP (aR _ 3 _ rfl bP) rfl e8 M) ?_
 rintro _ dY ⟨aS,aT,rfl,aU,x⟩
 have aV:=aQ _ _ aU
 have bU:=aV.rowC (i:=0) rfl
 replace x:E.length<=b.length:=x
 refine Kz (.agg #[.bool false, .string ⟨v0 []⟩, .slice none 0 0]) (Az rfl ?_)
 have aW:=aV.pf [3]
 refine cu [.bool false, .string ⟨v0 []⟩, .slice none 0 0] 0 aW L3 ?_
 intro aY N
 refine nt (rt (bR (tR (Ir (gq (vs:= [.slice aS E.length aT, .agg #[.bool false, .string ⟨v0 []⟩, .slice none 0 0]]) rfl (bT.tmp rfl (bT.cell rfl (Io (cs:= [.bool false, .string ⟨v0 []⟩, .slice none 0 0]) L4 L3 ((N.cls (i:=0) rfl).lit (k:=0) (m:=3) rfl)) bT.nil)) (Lh rfl)) ?_))))
 have aZ:Own w D aY (row none 0 0 (q2 az.cells []) 101 2::_):=N.free (bZ 101 2)
 have bf:=aZ.pk [2,0]
 obtain⟨rfl,rfl⟩:=fB (zj hr zq5)
 exact⟨aS,aT,none,0,rfl,bf,e8⟩
 refine jF (dF u) (sr (Kz (.bool (decide (a.aB=4))) (An rfl ?_)))
 by_cases n:a.aB=4
 refine jT (dT n) (sr (Mz rfl (Mz rfl (La ([.string ⟨v0 a.aN⟩, .string ⟨v0 a.aT⟩]) c 0 C6 C5 (Kz (vP e 5) (Lz (vI a.bS) c 2 Tryz.isAgg3 ?_))))))
 obtain⟨d,y⟩:∃ q,pK b (aj.mk a.aN a.aT) a.bS=q:=⟨_,rfl⟩
 obtain⟨dw,W,bV,X,Y⟩:=Ia c
 refine cl Tryz.call60 (vS _ _ s b.length t b (aj.mk a.aN a.aT) a.bS d W (Y _ 3 _ rfl bP) rfl e8 y) ?_
 rintro _ dx ⟨f,g,rfl,Z,z⟩
 have O:=X _ _ Z
 have bX:=O.rowC (i:=0) rfl
 replace z:d.length<=b.length:=z
 refine Kz (.agg #[.bool false, .string ⟨v0 []⟩, .slice f d.length g]) (Az rfl ?_)
 have bg:=O.pf [2]
 refine cu [.bool false, .string ⟨v0 []⟩, .slice f d.length g] 0 bg L3 ?_
 intro dz P
 refine nt (rt (bR (tR (Ir (gq (vs:= [.slice s b.length t, .agg #[.bool false, .string ⟨v0 []⟩, .slice f d.length g]]) rfl (bT.tmp rfl (bT.cell rfl (Io (cs:= [.bool false, .string ⟨v0 []⟩, .slice f d.length g]) L4 L3 ((P.cls (i:=0) rfl).lit (k:=0) (m:=3) rfl)) bT.nil)) (Lh rfl)) ?_))))
 have bi:=P.pk [4,1]
 obtain⟨rfl,rfl⟩:=fB (zj hr zq5)
 exact⟨s,t,f,g,rfl,bi,e8⟩
 refine jF (dF n) (IG (bN (Ib (H7 ?_))))
 have Q:=c.pk [0,1,3]
 refine H8 (Mz rfl (La ([.string ⟨v0 a.aN⟩, .string ⟨v0 a.aT⟩]) Q 0 C6 C5 ?_))
 obtain⟨o,A⟩:∃ q,nH b (aj.mk a.aN a.aT)=q:=⟨_,rfl⟩
 obtain⟨dA,aa,bY,af,ag⟩:=Ia Q
 refine cl Tryz.call59 (uO _ _ s b.length t b (aj.mk a.aN a.aT) o aa (ag _ 2 _ rfl bP) rfl e8 A) ?_
 rintro _ dB ⟨R,S,rfl,ah,B⟩
 have T:=af _ _ ah
 have cz:=T.rowC (i:=0) rfl
 replace B:o.length<=b.length:=B
 refine Kz (.agg #[.bool false, .string ⟨v0 []⟩, .slice none 0 0]) (Az rfl ?_)
 have bn:=T.pf [2]
 refine cu [.bool false, .string ⟨v0 []⟩, .slice none 0 0] 0 bn L3 ?_
 intro bq U
 refine nt (rt (Ir (gq (vs:= [.slice R o.length S, .agg #[.bool false, .string ⟨v0 []⟩, .slice none 0 0]]) rfl (bT.tmp rfl (bT.cell rfl (Io (cs:= [.bool false, .string ⟨v0 []⟩, .slice none 0 0]) L4 L3 ((U.cls (i:=0) rfl).lit (k:=0) (m:=3) rfl)) bT.nil)) (Lh rfl)) ?_))
 have bu:Own w D bq (row none 0 0 (q2 az.cells []) 101 2::_):=U.free (bZ 101 2)
 have bv:=bu.pk [2,0]
 obtain⟨rfl,rfl⟩:=fB (zj hr zq5)
 exact⟨R,S,none,0,rfl,bv,e8⟩
def ku:List aX->List az->List dh->(List az) × (List dh)
  | [],b,c=>(b,c)
  | d::e,b,c=>bnd (wO b d) λ a=>ku e a.1 (c++ [a.2])
def qG (c:List az) (l1:List aX):(List az) × (List dh) × Int:=
 bnd (tY c) λ a=>if a=0 then bnd (zk l1) λ b=>if b=0 then bnd (ku l1 c []) λ sLrbtbtL=>(sLrbtbtL.1,sLrbtbtL.2,0) else(([]:List az),([]:List dh),b) else(([]:List az),([]:List dh),a)
theorem AV (w D A0 n0 c0 j S n1 c1 l1 Y Z r2) (H:Own w D w []) (aa:Ro w D λ w'=>bO w' 2 A0 n0 (q2 az.cells j)) (bD:n0=j.length) (dD:j.length *32<=211106232532992) (F:Ro w D λ w'=>bO w' 6 S n1 (q2 aX.cells l1)) (bE:n1=l1.length) (dE:l1.length *80<=211106232532992) (dH:(j.length+l1.length) *32<=211106232532992) (hr:qG j l1=(Y,Z,r2)):
    Calls Tryz.prog 10 #[.slice A0 n0 c0, .slice S n1 c1] w (dI λ v w'=> ∃ B0 b0 B1 b1 e1,v= .tuple #[.slice B0 Y.length b0, .slice B1 Z.length b1,vI r2]/\Own w D w' [row B0 Y.length b0 (q2 az.cells Y) 101 2,row B1 Z.length b1 (q2 aR.cells e1) 70 3,sepL (q2 IJ e1)]/\(List.map aR.abs e1=Z)/\(Y.length<=j.length+l1.length)/\(Z.length<=l1.length)):=by
 subst bD bE
 refine cb Tryz.func10 ?_
 refine sr (Az rfl (Az rfl (An rfl (H7 (sr (Mz rfl ?_))))))
 obtain⟨r,n⟩:∃ q,tY j=q:=⟨_,rfl⟩
 obtain⟨dJ,af,ag,ah,bY⟩:=Ia H
 refine cl Tryz.call14 (yE _ _ A0 j.length c0 j r af (ag _ aa) rfl e8 n) ?_
 rintro _ T ⟨rfl,ai⟩
 have aj:=ah _ _ ai
 refine Ar rfl (Mz rfl (fw (.bool (decide (¬ (r=0)))) (Iu (e:= !(decide (r=0))) yk decide_not.symm) (nt ?_)))
 by_cases t:r=0
 refine jF (dF (Lp t)) (sk (H7 (sr (Mz rfl ?_))))
 obtain⟨u,x⟩:∃ q,zk l1=q:=⟨_,rfl⟩
 obtain⟨dK,ak,au,av,cz⟩:=Ia aj
 refine cl Tryz.call24 (CK _ _ S l1.length c1 l1 u ak (au _ F) rfl e8 x) ?_
 rintro _ G ⟨rfl,ax⟩
 have ay:=av _ _ ax
 refine Ar rfl (Mz rfl (fw (.bool (decide (¬ (u=0)))) (Iu (e:= !(decide (u=0))) yk decide_not.symm) (nt ?_)))
 by_cases I:u=0
 refine jF (dF (Lp I)) (sk (sr (Mz rfl ?_)))
 have aA:Own w D G [row none 0 0 (q2 az.cells []) 101 2]:=ay.free (bZ 101 2)
 refine WL.do rfl (IC (k:=0) (m:=j.length) (iP) aA rfl rfl (eY Tryz.underlying25 (aA.ro aa) (cZ az.one j)) rfl e8 (s:=j.length) e8 rfl ?_)
 intro U V aB bG
 refine Ar rfl (An rfl (H7 (sr (Mz rfl (Kz (vJ l1.length) (Mn rfl (bo ?_)))))))
 have bH:Own w D aB [sepL (q2 IJ []),row U j.length V (q2 az.cells j) 101 2]:=bG.sepNil
 have bI:Own w D aB [row none 0 0 (q2 aR.cells []) 70 3,sepL (q2 IJ []),row U j.length V (q2 az.cells j) 101 2]:=bH.free (bZ 70 3)
 have bJ:=bI.pf [2]
 obtain⟨bK,z⟩:=GN λ A (B:Nat) d J (K:Nat) l c (b:Nat) w'=>Own w D w' [row A d.length B (q2 az.cells d) 101 2,row J c.length K (q2 aR.cells l) 70 3,sepL (q2 IJ l)]/\List.map aR.abs l=c/\b<=l1.length/\d.length<=j.length+b/\c.length=b/\c.length<=b/\ku l1 j []=ku (List.drop b l1) d c
 refine Wp.loop (λ i:(Option Addr) × Nat × (List az) × (Option Addr) × Nat × (List aR) × (List dh) × Nat=> [(0, .slice i.1 i.2.2.1.length i.2.1),(9, .slice i.2.2.2.1 i.2.2.2.2.2.2.1.length i.2.2.2.2.1),(28,vJ i.2.2.2.2.2.2.2),(27,vJ l1.length),(26, .slice S l1.length c1),(6,vI 0),(5, .slice none 0 0),(4, .slice none 0 0)]) bK (λ i=>l1.length - i.2.2.2.2.2.2.2) (U,V,j,none,0, [], [],0) ⟨rfl,rfl,rfl,rfl,rfl,rfl,rfl,rfl,trivial⟩ (z.2 ⟨bJ,(show List.map aR.abs []=[]/\0<=l1.length/\j.length<=j.length/\0=0/\0<=0/\ku l1 j []=ku (List.drop 0 l1) j [] from ⟨by exact rfl,e8,e8,e8,e8,rfl⟩)⟩) ?_
 rintro ⟨A,B,d,J,K,l,c,b⟩ dL aC
 show Wp _ _ _ [(0, .slice A d.length B),(9, .slice J c.length K),(28,vJ b),(27,vJ l1.length),(26, .slice S l1.length c1),(6,vI 0),(5, .slice none 0 0),(4, .slice none 0 0)] _ _
 obtain⟨C,o,cB,cK,cO,df,M⟩:=z.1 aC
 have di:=aY o
 refine sr (Kz (.bool (decide ((b:Int) < (l1.length:Int)))) (nt (H7 ?_)))
 by_cases aD:(b:Int) < (l1.length:Int)
 obtain⟨p,N⟩:=dG (ls:=l1) (i:=b) aX.len f5 (C.ro F) f2
 have aF:=drop_at N
 refine jT (dT aD) (sk (H7 (bo (sr (fw (.pointer (some ⟨ab S,ao S+b *6,none⟩)) (Im (nN) rfl rfl ((C.ro F).addr (i:=b) e8) e8) (fw (.agg (aX.cells p).toArray) (Il rfl (Io (cs:=(aX.cells p)) Tryz.isAgg68 C2 ((C.ro F).elem aX.len N f5))) ?_))))))
 refine bW [vI 0, .string ⟨v0 []⟩, .string ⟨v0 []⟩, .string ⟨v0 []⟩, .string ⟨v0 []⟩,vI 0] 68 C ?_
 intro dM dN bL
 refine cu (aX.cells p) 0 bL C2 ?_
 intro dO aG
 refine ns (Mz rfl (La (aX.cells p) aG 0 Tryz.isAgg68 C2 ?_))
 have bM:=aG.pf [1]
 obtain⟨⟨L,a⟩,O⟩:∃ q:(List az) × dh,wO d p=q:=⟨_,rfl⟩
 obtain⟨dP,aH,dm,aI,dn⟩:=IE bM
 refine cl Tryz.call25 (DI _ _ A d.length B d p L a aH rfl e8 e8 O) ?_
 rintro _ dQ ⟨aJ,aK,g,h,rfl,aL,P⟩
 have W:=aI _ _ aL
 have dw:=W.rowC (i:=0) rfl
 have dx:=W.rowC (i:=1) rfl
 replace P:L.length<=d.length+1:=P
 refine Mz rfl (Kz (.slice aJ L.length aK) (Kz (.agg #[.bool a.dP, .string ⟨v0 a.aO⟩, .slice g a.bz.ls.length h]) ?_))
 refine bW [.bool false, .string ⟨v0 []⟩, .slice none 0 0] 70 W ?_
 intro dz dA aM
 refine Az rfl ?_
 refine cu [.bool a.dP, .string ⟨v0 a.aO⟩, .slice g a.bz.ls.length h] 0 aM L3 ?_
 intro dB Q
 refine ns (Mz rfl (An rfl (H8 (Mz rfl (La ([.bool a.dP, .string ⟨v0 a.aO⟩, .slice g a.bz.ls.length h]) Q 0 L4 L3 ?_)))))
 refine jN [.bool a.dP, .string ⟨v0 a.aO⟩, .slice g a.bz.ls.length h] 70 3 1 Q ?_
 intro aN dC E
 replace E:=IL (y:=row aN 1 1 (q2 aR.cells ([(aR.mk a.dP a.aO (N1 g h a.bz.ls))])) 70 3) rfl E
 have R:=E.pf [5,6,3]
 refine WL.do rfl (IC (k:=c.length) (m:=1) (uw) R rfl rfl (eY Tryz.underlying45 (R.rds (i:=3) rfl) (cZ aR.one ([(aR.mk a.dP a.aO (N1 g h a.bz.ls))]))) rfl e8 (s:=List.length (c++ [a])) f3 (t7).symm ?_)
 intro aO aP aQ aS
 have aT:=aS.pf [1,2]
 have aU:Own w D aQ (sepL (q2 IJ (l++ [(aR.mk a.dP a.aO (N1 g h a.bz.ls))]))::_):=aT.sepAdd (L2:= [row g a.bz.ls.length h (q2 az.cells a.bz.ls) 101 2]) (t7 (f:=IJ) (xs:=l) (ys:= [(aR.mk a.dP a.aO (N1 g h a.bz.ls))])).symm
 have bP:List.length (c++ [a])=c.length+1:=by simp only [List.length_append,List.length_cons,List.length_nil]
 have bQ:=aY (jI (es:= [(aR.mk a.dP a.aO (N1 g h a.bz.ls))]) (ms:= [a]) o rfl)
 refine Az rfl (WL.nil (bN (Ib (H8 (fw (vJ (b+1)) (Ig (e:=IntKind.i64.wrap ((b:Int)+1)) yk f1) (Mz rfl (WL.nil ?_)))))))
 have aV:=aU.pk [4,1,0]
 exact Iq (aJ,aK,L,aO,aP,(l++ [(aR.mk a.dP a.aO (N1 g h a.bz.ls))]),(c++ [a]),b+1) ⟨rfl,rfl,rfl,rfl,rfl,rfl,rfl,rfl,trivial⟩ (z.2 ⟨aV,by exact(jI (es:= [(aR.mk a.dP a.aO (N1 g h a.bz.ls))]) (ms:= [a]) o rfl),e8,e8,e8,e8,et (M) (et (congrArg (λ q=>ku q d c) aF) (ae O))⟩) (by show l1.length - (b+1) < l1.length - b; omega)
 refine jF (dF aD) (Wp.exit (Ip ?_))
 have X:ku l1 j []=(d,c):=et (M) (et (congrArg (λ q=>ku q d c) (eX (ls:=l1) (i:=b) e8)) rfl)
 refine Ip (Iz (Ib (sr (Mz rfl (Mz rfl (Az rfl (Az rfl (An rfl (rt (Ir (xC rfl rfl rfl rfl) ?_))))))))))
 have aW:=C.pf []
 obtain⟨rfl,rfl,rfl⟩:=ym (zj hr (show _=(d,c,0) from et (ae n) (et (ip t) (et (ae x) (et (ip I) (ae X))))))
 exact⟨A,B,J,K,l,rfl,aW,o,i0,i0⟩
 refine jT (dT I) (sr (Mz rfl (Az rfl (Az rfl (An rfl (rt (tR (Ir (xC rfl rfl rfl rfl) ?_))))))))
 have aZ:Own w D G [row none 0 0 (q2 az.cells []) 101 2]:=ay.free (bZ 101 2)
 have bf:Own w D G [sepL (q2 IJ []),row none 0 0 (q2 az.cells []) 101 2]:=aZ.sepNil
 have bg:Own w D G [row none 0 0 (q2 aR.cells []) 70 3,sepL (q2 IJ []),row none 0 0 (q2 az.cells []) 101 2]:=bf.free (bZ 70 3)
 have bi:=bg.pf [2]
 obtain⟨rfl,rfl,rfl⟩:=ym (zj hr (show _=(([]:List az),([]:List dh),u) from et (ae n) (et (ip t) (et (ae x) (iN I)))))
 exact⟨none,0,none,0, [],rfl,bi,rfl,i0,i0⟩
 refine jT (dT t) (sr (Mz rfl (Az rfl (Az rfl (An rfl (rt (tR (Ir (xC rfl rfl rfl rfl) ?_))))))))
 have bn:Own w D T [row none 0 0 (q2 az.cells []) 101 2]:=aj.free (bZ 101 2)
 have bq:Own w D T [sepL (q2 IJ []),row none 0 0 (q2 az.cells []) 101 2]:=bn.sepNil
 have bu:Own w D T [row none 0 0 (q2 aR.cells []) 70 3,sepL (q2 IJ []),row none 0 0 (q2 az.cells []) 101 2]:=bq.free (bZ 70 3)
 have bv:=bu.pf [2]
 obtain⟨rfl,rfl,rfl⟩:=ym (zj hr (show _=(([]:List az),([]:List dh),r) from et (ae n) (iN t)))
 exact⟨none,0,none,0, [],rfl,bv,rfl,i0,i0⟩
end
end Go.Proofs.YtndamapfnpihpaaGreat
namespace Go.Proofs
set_option maxRecDepth 100000
set_option linter.unusedVariables false
set_option linter.unusedSimpArgs false
set_option linter.unusedSectionVars false
section
open Go.RowKit Go.Maps Go.Sort Go.Shelf
def JO:Go.Shelf.Ren:=⟨λ | 125=>172 | 128=>212 | 129=>213 | n=>n,λ | 46=>200 | 3=>3 | 51=>278 | 53=>32 | 4=>4 | 5=>5 | 9=>9 | n=>n,λ | n=>n⟩
theorem JX:Go.Proofs.Lays.n125 Tryz.prog JO:= {
  mixed:=by kernel_rfl
  f125:=Tryz.func172.trans (congrArg some (by kernel_rfl))
  f128:=Tryz.func212.trans (congrArg some (by kernel_rfl))
  f129:=Tryz.func213.trans (congrArg some (by kernel_rfl))
  t3:=Tryz.underlying3
  a3:=Tryz.isAgg3
  z3:=Tryz.sizeOf3
  v3:=Tryz.zeroValue3
  t4:=Tryz.underlying4
  a4:=Tryz.isAgg4
  z4:=Tryz.sizeOf4
  v4:=Tryz.zeroValue4
  t5:=Tryz.underlying5
  a5:=Tryz.isAgg5
  z5:=Tryz.sizeOf5
  v5:=Tryz.zeroValue5
  t9:=Tryz.underlying9
  a9:=Tryz.isAgg9
  z9:=Tryz.sizeOf9
  v9:=Tryz.zeroValue9
  t46:=Tryz.underlying200
  a46:=Tryz.isAgg200
  z46:=Tryz.sizeOf200
  v46:=Tryz.zeroValue200
  t51:=Tryz.underlying278
  a51:=Tryz.isAgg278
  z51:=Tryz.sizeOf278
  v51:=Tryz.zeroValue278
  t53:=Tryz.underlying32
  a53:=Tryz.isAgg32
  z53:=Tryz.sizeOf32
  v53:=Tryz.zeroValue32 }
end
end Go.Proofs
namespace Go.Proofs.YtndamapfnpihpaaGreat
set_option maxRecDepth 100000
set_option linter.unusedVariables false
set_option linter.unusedSimpArgs false
set_option linter.unusedSectionVars false
section
open Go.RowKit Go.Maps Go.Sort Go.Shelf
theorem Eu (w D) (x:Nat) (H:Own w D w []) (hx:x<=18446744073709551615):
    Calls Tryz.prog 172 #[.int .u64 (x:Int)] w (dI λ v w'=>v= .int .i64 ((bitsLen x:Nat):Int)/\Own w D w' []):=by
  refine(Any.bits_Len JX (x:Int) w e8 e8).mono ?_
  rintro e w' ⟨rfl,rfl⟩
  refine⟨_,rfl, ?_,H⟩
  rw [Int.toNat_natCast,bitLen_eq x e8]
end
open Int renaming toNat->G0
open IntKind renaming i64->B5
open List renaming flatMap->q2,length_replicate->N2,length_set->L7,set->L6
open _root_.Go.Proofs.Tryz renaming isAgg32->E1,prog->u9
section
open Go.RowKit
def iX (a:Nat):Bool:=
 false
theorem mZ (w D a c) (H:Own w D w []) (hr:iX a=c):
    Calls u9 175 #[vU a] w (dI λ v w'=>v= .bool c/\Own w D w' []):=by
 refine cb Tryz.func175 ?_
 refine sr (Ar rfl (Mz rfl (Mz rfl (fw (.bool false) (Iu (e:= !(decide ((a:Int)=(a:Int)))) yk i3) (An rfl (rt (rs ?_)))))))
 have b:=H.pk []
 obtain rfl:_=false:=zj hr rfl
 exact⟨rfl,b⟩
def lF (c:Nat) (d:Nat):Bool:=
 bnd (iX c) λ a=>if a=true then bnd (iX d) λ b=>if b=true then decide ((c:Int) < (d:Int)) else true else decide ((c:Int) < (d:Int))
theorem rZ (w D e d u) (H:Own w D w []) (hr:lF e d=u):
    Calls u9 125 #[vU e,vU d] w (dI λ v w'=>v= .bool u/\Own w D w' []):=by
 unfold lF at hr
 refine cb Tryz.func125 ?_
 refine sr (Ar rfl (Mz rfl ?_))
 obtain⟨h,c⟩:∃ q,iX e=q:=⟨_,rfl⟩
 obtain⟨B,i,x,j,y⟩:=Ia H
 refine cl Tryz.call175 (mZ _ _ e h i c) ?_
 rintro _ C ⟨rfl,k⟩
 have l:=j _ _ k
 refine Mz rfl ?_
 rcases Lr (h) with a | a
 refine IQ (v:=vU d) rfl rfl a rfl (Ie rfl) ?_
 obtain⟨g,f⟩:∃ q,iX d=q:=⟨_,rfl⟩
 obtain⟨E,m,z,n,A⟩:=Ia l
 refine I9 rfl rfl a rfl (IB Tryz.call175 rfl (mZ _ _ d g m f) ?_)
 rintro _ F ⟨rfl,o⟩
 have p:=n _ _ o
 refine Gz (.bool (!g)) a (fw (.bool (!g)) (Ic rfl a rfl) (Mz rfl ?_))
 rcases Lr (g) with b | b
 refine gw (vU e) (cn b) (Ie rfl) (gw (vU d) (cn b) (Ie rfl) (Gz (.bool (decide ((e:Int) < (d:Int)))) (cn b) (fw (.bool (decide ((e:Int) < (d:Int)))) (H6 rfl (cn b) rfl) (An rfl (rt (rs ?_))))))
 have r:=p.pk []
 obtain rfl:=zj hr zq4
 exact⟨rfl,r⟩
 refine Sz (cn b) (Sz (cn b) (Sz (cn b) (fw (.bool true) (Ic rfl (cn b) rfl) (An rfl (rt (rs ?_))))))
 have s:=p.pk []
 obtain rfl:=zj hr zq4
 exact⟨rfl,s⟩
 refine Sz a (Sz a (Sz a (fw (.bool false) (H6 rfl a rfl) (Mz rfl (gw (vU e) rfl (Ie rfl) (gw (vU d) rfl (Ie rfl) (Gz (.bool (decide ((e:Int) < (d:Int)))) rfl (fw (.bool (decide ((e:Int) < (d:Int)))) (H6 rfl rfl rfl) (An rfl (rt (rs ?_)))))))))))
 have t:=l.pk []
 obtain rfl:=zj hr zq2
 exact⟨rfl,t⟩
def eP (g:Int):Nat->Int->List Nat->(List Nat)
  | 0,a,b=>default
  | f+1,a,b=>if a > g then bnd (List.getD b (G0 a) default) λ c=>bnd (List.getD b (G0 (a - 1)) default) λ d=>bnd (lF c d) λ e=>if e=true then eP g f (a - 1) (L6 (L6 b (G0 a) d) (G0 (a - 1)) c) else b else b
def eQ (c:Int) (e:Int):Nat->Int->List Nat->(List Nat)
  | 0,a,b=>default
  | d+1,a,b=>if a < e then bnd (bnd (eP c ((G0 (a - c))+1) a b) λ sLrLstJjL=>sLrLstJjL) λ sJrLstJ=>eQ c e d (a+1) sJrLstJ else b
def iJ (c:List Nat) (a:Int) (b:Int):(List Nat):=
 bnd (eQ a b ((G0 (b - (a+1)))+1) (a+1) c) λ sLrL=>sLrL
theorem oU (w D f n0 r h d j r0) (H:Own w D w [row f n0 r (q2 (eN .u64) h) 32 1]) (ai:n0=h.length) (aT:h.length *8<=211106232532992) (aU:0<=d/\d<=j/\j<=((h.length:Nat):Int)) (hr:iJ h d j=r0):
    Calls u9 204 #[.slice f n0 r,vI d,vI j] w (dI λ v w'=>v= .tuple #[]/\Own w D w' [row f n0 r (q2 (eN .u64) r0) 32 1]/\(r0.length=h.length)):=by
 unfold iJ at hr
 subst ai
 have aV:=H.rowC (i:=0) rfl
 refine cb Tryz.func204 ?_
 refine sr (Mz rfl (fw (vI (d+1)) (Ig (e:=B5.wrap (d+1)) yk i5) (An rfl (bo ?_))))
 have aj:=H.pf []
 obtain⟨ak,u⟩:=yu λ (c:Int) m (x:Nat) w'=>Own w D w' [row f h.length r (q2 (eN .u64) m) 32 1]/\m.length=h.length/\d+1<=c/\G0 (j - c) < x/\eQ d j ((G0 (j - (d+1)))+1) (d+1) h=eQ d j x c m
 refine Wp.loop (λ i:Int × (List Nat) × Nat=> [(6,vI i.1),(0, .slice f h.length r),(1,vI d),(2,vI j)]) ak (λ i=>i.2.2) (d+1,h,(G0 (j - (d+1)))+1) ⟨rfl,rfl,rfl,rfl,trivial⟩ (u.2 ⟨aj,by first | omega | (simp only [L7] <;> omega) | (simp only [N2]),e8,e8,rfl⟩) ?_
 rintro ⟨c,m,x⟩ aW Q
 show Wp _ _ _ [(6,vI c),(0, .slice f h.length r),(1,vI d),(2,vI j)] _ _
 obtain⟨R,aI,aJ,aK,J⟩:=u.1 Q
 obtain⟨L,S⟩:∃ q,x=q+1:=⟨x - 1,e8⟩
 subst S
 refine H7 (sr (Mz rfl (Mz rfl (Kz (.bool (decide (c < j))) (nt ?_)))))
 by_cases I:c < j
 refine jT (dT I) (sk (H7 ?_))
 obtain⟨au,z⟩:=mI λ A w'=>Own w D w' [row f h.length r (q2 (eN .u64) A) 32 1]/\A.length=h.length/\(bnd (eP d ((G0 (c - d))+1) c m) λ sLrLstJjL=>sLrLstJjL)=A
 refine Jl (λ i:(List Nat)=> [(6,vI c),(0, .slice f h.length r),(1,vI d),(2,vI j)]) au ?_ ?_
 refine bo (sr (Mz rfl (An rfl (bo ?_))))
 have av:=R.pf []
 obtain⟨ax,B⟩:=yu λ (a:Int) g (C:Nat) w'=>Own w D w' [row f h.length r (q2 (eN .u64) g) 32 1]/\g.length=h.length/\(d<=a/\a < j)/\G0 (a - d) < C/\eP d ((G0 (c - d))+1) c m=eP d C a g
 refine Wp.loop (λ i:Int × (List Nat) × Nat=> [(7,vI i.1),(6,vI c),(0, .slice f h.length r),(1,vI d),(2,vI j)]) ax (λ i=>i.2.2) (c,m,(G0 (c - d))+1) ⟨rfl,rfl,rfl,rfl,rfl,trivial⟩ (B.2 ⟨av,by first | omega | (simp only [L7] <;> omega) | (simp only [N2]),e8,e8,rfl⟩) ?_
 rintro ⟨a,g,C⟩ aX T
 show Wp _ _ _ [(7,vI a),(6,vI c),(0, .slice f h.length r),(1,vI d),(2,vI j)] _ _
 obtain⟨ay,aL,aM,aN,E⟩:=B.1 T
 obtain⟨M,U⟩:∃ q,C=q+1:=⟨C - 1,e8⟩
 subst U
 refine H7 (H7 ?_)
 refine Cf [] (Ik (Ik (Ik (bH.block (bH.block (Ik (Ik (bH.block Iw)))))))) ay ?_
 intro aY V
 refine qv 0 rfl rfl (qv 1 rfl rfl (qk (.bool (decide (a > d))) 2 rfl (qv 3 rfl rfl ?_)))
 by_cases b:a > d
 refine Ii (v:= .slice f h.length r) (rs:= []) 4 rfl rfl rfl (dT b) e9 (λ _ _=>Ie rfl) (Ii (v:=vJ (G0 a)) (rs:= []) 5 rfl rfl rfl (dT b) e9 (λ _ _=>Ig (e:=a) (Ie rfl) e8) ?_)
 obtain⟨s,l⟩:=mY (ls:=g) (i:=G0 a) f2
 refine Ii (v:= .pointer (some ⟨ab f,ao f+(G0 a) *1,none⟩)) (rs:= []) 6 rfl rfl rfl (dT b) e9 (λ _ ⟨_,p⟩=>Im (iH) rfl rfl ((p.rds (i:=0) rfl).addr (i:=G0 a) e8) e8) (Ii (v:=vU s) (rs:= []) 7 rfl rfl rfl (dT b) e9 (λ _ ⟨_,p⟩=>Il rfl (bQ.one E1 (((p.rds (i:=0) rfl).elem gT l f5).at_ (k:=0) rfl))) (Ii (v:= .slice f h.length r) (rs:= []) 8 rfl rfl rfl (dT b) e9 (λ _ _=>Ie rfl) (Ii (v:=vI a) (rs:= []) 9 rfl rfl rfl (dT b) e9 (λ _ _=>Ie rfl) (Ii (v:=vJ (G0 (a - 1))) (rs:= []) 10 rfl rfl rfl (dT b) e9 (λ _ _=>Ig (e:=B5.wrap (a - 1)) yk f1) ?_))))
 obtain⟨n,t⟩:=mY (ls:=g) (i:=G0 (a - 1)) f2
 refine Ii (v:= .pointer (some ⟨ab f,ao f+(G0 (a - 1)) *1,none⟩)) (rs:= []) 11 rfl rfl rfl (dT b) e9 (λ _ ⟨_,p⟩=>Im (iH) rfl rfl ((p.rds (i:=0) rfl).addr (i:=G0 (a - 1)) e8) e8) (Ii (v:=vU n) (rs:= []) 12 rfl rfl rfl (dT b) e9 (λ _ ⟨_,p⟩=>Il rfl (bQ.one E1 (((p.rds (i:=0) rfl).elem gT t f5).at_ (k:=0) rfl))) ?_)
 obtain⟨N,F⟩:∃ q,lF s n=q:=⟨_,rfl⟩
 obtain⟨aZ,W,aO,X,aP⟩:=Ia V
 refine Ja 13 rfl rfl rfl (dT b) e9 (IB Tryz.call125 rfl (rZ _ _ s n N W F) ?_)
 rintro _ bf ⟨rfl,Y⟩
 have O:=X _ _ Y
 refine⟨.inr ⟨_,O⟩, ?_⟩
 refine qt (v:= .bool N) 14 rfl (λ _ _=>Ic rfl (dT b) rfl) (qn (Ib ?_))
 rcases Lr (N) with G | G
 refine jT G (sk (H7 (bo ?_)))
 refine Cf [15,17] (bH.block (Ik (Ik (bH.block (bH.block (Ik (Ik (bH.block Iw)))))))) O ?_
 intro bg az
 refine qv 0 rfl rfl (qt (v:=vJ (G0 a)) 1 rfl (λ _ _=>Ig (e:=a) (Ie rfl) e8) (IP (v:= .slice f h.length r) 2 rfl e9 (λ _=>Ie rfl) (IP (v:=vI a) 3 rfl e9 (λ _=>Ie rfl) (IP (v:=vJ (G0 (a - 1))) 4 rfl e9 (λ _=>Ig (e:=B5.wrap (a - 1)) yk f1) (qv 5 rfl rfl (qv 6 rfl rfl (qt (v:=vJ (G0 (a - 1))) 7 rfl (λ _ _=>Ig (e:=B5.wrap (a - 1)) yk f1) (qt (v:= .pointer (some ⟨ab f,ao f+(G0 (a - 1)) *1,none⟩)) 8 rfl (λ _ ⟨_,p⟩=>Im (iH) rfl rfl ((p.rds (i:=0) rfl).addr (i:=G0 (a - 1)) e8) e8) (qt (v:=vU n) 9 rfl (λ _ ⟨_,p⟩=>Il rfl (bQ.one E1 (((p.rds (i:=0) rfl).elem gT t f5).at_ (k:=0) rfl))) (qv 10 rfl rfl (qt (v:=vJ (G0 a)) 11 rfl (λ _ _=>Ig (e:=a) (Ie rfl) e8) (qt (v:= .pointer (some ⟨ab f,ao f+(G0 a) *1,none⟩)) 12 rfl (λ _ ⟨_,p⟩=>Im (iH) rfl rfl ((p.rds (i:=0) rfl).addr (i:=G0 a) e8) e8) (qt (v:=vU s) 13 rfl (λ _ ⟨_,p⟩=>Il rfl (bQ.one E1 (((p.rds (i:=0) rfl).elem gT l f5).at_ (k:=0) rfl))) (qt (v:= .pointer (some ⟨ab f,ao f+(G0 a) *1,none⟩)) 14 rfl (λ _ ⟨_,p⟩=>Im (iH) rfl rfl ((p.rds (i:=0) rfl).addr (i:=G0 a) e8) e8) ?_))))))))))))))
 refine qe 15 rfl (Do.storeRow (vs:= [vU n]) (o:=(G0 a) *1+0) (q:=ao f+(G0 a) *1) az rfl e8 rfl Tryz.sizeOf32 rfl rfl (Lh rfl) (jA gT l (Lh rfl)) (j6 (y:=n) gT rfl (Lh rfl) l) ?_)
 intro bi P
 refine⟨.inl e9, ?_⟩
 obtain⟨bn,aQ⟩:=mY (ls:=g) (i:=G0 (a - 1)) f2
 obtain⟨bq,aR⟩:=dG (ls:=(L6 g (G0 a) n)) (i:=G0 (a - 1)) gT f5 (P.rds (i:=0) rfl) f2
 refine IP (v:= .pointer (some ⟨ab f,ao f+(G0 (a - 1)) *1,none⟩)) 16 rfl e9 (λ _=>Im (iH) rfl rfl ((P.rds (i:=0) rfl).addr (i:=G0 (a - 1)) e8) e8) ?_
 obtain⟨bv,K⟩:=mY (ls:=(L6 g (G0 a) n)) (i:=G0 (a - 1)) f2
 refine qe 17 rfl (Do.storeRow (vs:= [vU s]) (o:=(G0 (a - 1)) *1+0) (q:=ao f+(G0 (a - 1)) *1) P rfl e8 rfl Tryz.sizeOf32 rfl rfl (Lh rfl) (jA gT K (Lh rfl)) (j6 (y:=s) gT rfl (Lh rfl) K) ?_)
 intro bz aA
 refine⟨.inl e9, ?_⟩
 refine qn (bN (Ib (H8 (Mz rfl (fw (vI (a - 1)) (Ig (e:=B5.wrap (a - 1)) yk i5) (Az rfl (WL.nil ?_)))))))
 have aB:=aA.pf []
 exact Iq (a - 1,(L6 (L6 g (G0 a) n) (G0 (a - 1)) s),M) ⟨rfl,rfl,rfl,rfl,rfl,trivial⟩ (B.2 ⟨aB,by first | omega | (simp only [L7] <;> omega) | (simp only [N2]),e8,e8,Eq.trans (E) (Eq.trans (if_pos b) (Eq.trans (ae (bu l)) (Eq.trans (ae (bu t)) (Eq.trans (ae F) (if_pos G)))))⟩) (by show M < M+1; omega)
 refine jF G (Wp.exit (Ip (Ip (Iz (bN ?_)))))
 have aC:=O.pf []
 exact I1 g ⟨rfl,rfl,rfl,rfl,trivial⟩ (z.2 ⟨aC,by first | omega | (simp only [L7] <;> omega) | (simp only [N2]),ae (Eq.trans (E) (Eq.trans (if_pos b) (Eq.trans (ae (bu l)) (Eq.trans (ae (bu t)) (Eq.trans (ae F) (eF G))))))⟩)
 refine Ih (rs:= []) 4 rfl rfl rfl (dF b) e9 (Ih (rs:= []) 5 rfl rfl rfl (dF b) e9 (Ih (rs:= []) 6 rfl rfl rfl (dF b) e9 (Ih (rs:= []) 7 rfl rfl rfl (dF b) e9 (Ih (rs:= []) 8 rfl rfl rfl (dF b) e9 (Ih (rs:= []) 9 rfl rfl rfl (dF b) e9 (Ih (rs:= []) 10 rfl rfl rfl (dF b) e9 (Ih (rs:= []) 11 rfl rfl rfl (dF b) e9 (Ih (rs:= []) 12 rfl rfl rfl (dF b) e9 (Ih (rs:= []) 13 rfl rfl rfl (dF b) e9 (qt (v:= .bool false) 14 rfl (λ _ _=>H6 rfl (dF b) rfl) (qn (Ib (jf (Wp.exit (Ip (Ip (Iz (bN ?_))))))))))))))))))
 have aD:=V.pf []
 exact I1 g ⟨rfl,rfl,rfl,rfl,trivial⟩ (z.2 ⟨aD,by first | omega | (simp only [L7] <;> omega) | (simp only [N2]),ae (Eq.trans (E) (if_neg b))⟩)
 rintro A bA Z
 show Wp _ _ _ [(6,vI c),(0, .slice f h.length r),(1,vI d),(2,vI j)] _ _
 obtain⟨aF,aS,aa⟩:=z.1 Z
 refine H8 (Mz rfl (fw (vI (c+1)) (Ig (e:=B5.wrap (c+1)) yk i5) (Az rfl (WL.nil ?_))))
 have aG:=aF.pf []
 exact Iq (c+1,A,L) ⟨rfl,rfl,rfl,rfl,trivial⟩ (u.2 ⟨aG,by first | omega | (simp only [L7] <;> omega) | (simp only [N2]),e8,e8,Eq.trans (J) (Eq.trans (if_pos I) (ae aa))⟩) (by show L < L+1; omega)
 refine jF (dF I) (Wp.exit (Ip ?_))
 have af:eQ d j ((G0 (j - (d+1)))+1) (d+1) h=m:=et (J) (iN I)
 refine Ip (Iz (IV (res0 rfl) ?_))
 have aH:=R.pf []
 obtain rfl:=zj hr zq1
 exact⟨rfl,aH,i7⟩
def jC (b:List Nat) (c:Int) (d:Int) (e:Int):(List Nat):=
 bnd (iJ b c d) λ a=>a
theorem qL (w D n o p c a b u r) (H:Own w D w [row n o p (q2 (eN .u64) c) 32 1]) (s:o=c.length) (A:c.length *8<=211106232532992) (B:0<=a/\a<=b/\b<=((c.length:Nat):Int)) (C:b - a<=12) (hr:jC c a b u=r):
    Calls u9 171 #[.slice n o p,vI a,vI b,vI u] w (dI λ v w'=>v= .tuple #[]/\Own w D w' [row n o p (q2 (eN .u64) r) 32 1]/\(r.length=c.length)):=by
 unfold jC at hr
 subst s
 have E:=H.rowC (i:=0) rfl
 refine cb Tryz.func171 ?_
 refine sr (Ar rfl (An rfl (bo (JK 200 (bo (sr (Mz rfl (Mz rfl (fw (vI (b - a)) (Ig (e:=B5.wrap (b - a)) yk i5) (An rfl (H7 (sr (Mz rfl (Kz (.bool (decide (b - a<=12))) (nt ?_)))))))))))))))
 have h:(decide (b - a<=12))=true:=(dT e8)
 refine jT h (sr (Mz rfl (Mz rfl (Mz rfl ?_))))
 obtain⟨g,d⟩:∃ q,iJ c a b=q:=⟨_,rfl⟩
 obtain⟨F,j,x,k,y⟩:=IE H
 refine cl Tryz.call204 (oU _ _ n c.length p c a b g j rfl e8 e8 d) ?_
 rintro _ G ⟨rfl,l,f⟩
 have m:=k _ _ l
 have z:=m.rowC (i:=0) rfl
 replace f:g.length=c.length:=f
 refine nt (rt (tR (bR (tR (bR (Ir (res0 rfl) ?_))))))
 have t:=m.pf []
 obtain rfl:=zj hr zq1
 exact⟨rfl,t,i7⟩
def gK (b:List Nat):(List Nat):=
 bnd (jC b 0 (b.length:Int) ((Go.Sort.bitsLen b.length:Nat):Int)) λ a=>a
theorem nT (w D n o p a r) (H:Own w D w [row n o p (q2 (eN .u64) a) 32 1]) (s:o=a.length) (C:a.length *8<=211106232532992) (E:a.length<=12) (hr:gK a=r):
    Calls u9 122 #[.slice n o p] w (dI λ v w'=>v= .tuple #[]/\Own w D w' [row n o p (q2 (eN .u64) r) 32 1]/\(r.length=a.length)):=by
 unfold gK at hr
 subst s
 have F:=H.rowC (i:=0) rfl
 refine cb Tryz.func122 ?_
 refine sr (Mz rfl (Kz (vJ a.length) (An rfl (H8 (Mz rfl (Mz rfl (Mz rfl (fw (vU a.length) (Ig (e:=IntKind.u64.wrap (a.length:Int)) yk (IntWalk.u64_in _ e8)) ?_))))))))
 obtain⟨G,f,x,g,y⟩:=Ia H
 refine cl Tryz.call172 (Eu _ _ a.length f e8) ?_
 rintro _ I ⟨rfl,h⟩
 have t:=g _ _ h
 obtain⟨d,b⟩:∃ q,jC a 0 (a.length:Int) ((Go.Sort.bitsLen a.length:Nat):Int)=q:=⟨_,rfl⟩
 obtain⟨J,j,z,k,A⟩:=IE t
 refine cl Tryz.call171 (qL _ _ n a.length p a 0 (a.length:Int) ((Go.Sort.bitsLen a.length:Nat):Int) d j rfl e8 e8 e8 b) ?_
 rintro _ K ⟨rfl,l,c⟩
 have m:=k _ _ l
 have B:=m.rowC (i:=0) rfl
 replace c:d.length=a.length:=c
 refine WL.nil (IV (res0 rfl) ?_)
 have u:=m.pf []
 obtain rfl:=zj hr zq1
 exact⟨rfl,u,i7⟩
end
open List renaming drop->s0,getD->y2,map->s1,mem_cons->u3,mem_of_getElem?->D4,not_mem_nil->v1,toArray->v0
open Sum renaming inl->y0,inr->y3
open _root_.Go.Proofs.Tryz renaming isAgg112->N5,isAgg118->N6,isAgg164->N3,isAgg37->C6,isAgg4->H2,isAgg97->N8,sizeOf118->N7,sizeOf164->N4,sizeOf194->N9,sizeOf37->C5
open WL renaming nil->B6
open Wp renaming exit->B7,loop->y6
section
open Go.RowKit
structure ay where
 au:Nat
 aG:Sv aF
 bn:Bool
 bg:aF
def ay.cells (x:ay):List Value:= [.int .u64 ((x.au:Nat):Int), .slice x.aG.A x.aG.ls.length x.aG.c, .bool x.bn, .string ⟨v0 x.bg.aA.aN⟩, .string ⟨v0 x.bg.aA.aT⟩, .bool x.bg.eU]
instance:Bk ay:=⟨λ x _=>bk x.au+(bk x.aG+(bk x.bn+(bk x.bg+(0))))⟩
theorem ay.len:∀ x,(ay.cells x).length=6:=λ _=>rfl
theorem ay.one:∀ x, ∀ u ∈ ay.cells x,u.oneCell'=true:=λ x u hu=>by
 simp only [ay.cells,u3,v1,or_false] at hu
 rcases hu with rfl | rfl | rfl | rfl | rfl | rfl <;> rfl
def KL (w:World) (x:ay):Prop:=(x.au<=18446744073709551615)/\(mM w 3 40 aF.cells (JG w) x.aG)/\(True)/\(JG w x.bg)
instance:Inhabited ay:=⟨⟨default,default,default,default⟩⟩
structure aM where
 au:Nat
 aG:Ll aF
 bn:Bool
 bg:aF
instance:Inhabited aM:=⟨⟨default,default,default,default⟩⟩
def ay.abs (x:ay):aM:=⟨x.au,⟨x.aG.ls⟩,x.bn,x.bg⟩
def Iy (x:ay):List HP:= [row x.aG.A x.aG.ls.length x.aG.c (q2 aF.cells x.aG.ls) 118 3]
def Hd (l:List aM):Prop:=∀ r ∈ l,r.aG.ls.length<=1000000
def eG (c:Nat) (d:Nat):Int:=
 bnd (iX c) λ b=>bnd (iX d) λ a=>if b=true then if a=true then 0 else(-1) else if a=true then 1 else if(c:Int) < (d:Int) then(-1) else if(c:Int) > (d:Int) then 1 else 0
theorem l8 (w D i j C) (H:Own w D w []) (hr:eG i j=C):
    Calls u9 129 #[vU i,vU j] w (dI λ v w'=>v=vI C/\Own w D w' []):=by
 unfold eG at hr
 refine cb Tryz.func129 ?_
 refine sr (Ar rfl (Mz rfl ?_))
 obtain⟨l,a⟩:∃ q,iX i=q:=⟨_,rfl⟩
 obtain⟨J,m,E,n,F⟩:=Ia H
 refine cl Tryz.call175 (mZ _ _ i l m a) ?_
 rintro _ K ⟨rfl,o⟩
 have t:=n _ _ o
 refine Ar rfl (Mz rfl ?_)
 obtain⟨k,b⟩:∃ q,iX j=q:=⟨_,rfl⟩
 obtain⟨L,p,G,r,I⟩:=Ia t
 refine cl Tryz.call175 (mZ _ _ j k p b) ?_
 rintro _ M ⟨rfl,s⟩
 have e:=r _ _ s
 refine An rfl (H7 (sr (Mn rfl ?_)))
 rcases Lr (l) with c | c
 refine jT c (H7 (sr (Mn rfl ?_)))
 rcases Lr (k) with f | f
 refine jT f (sr (An rfl (rt (tR (tR (rs ?_))))))
 have u:=e.pk []
 obtain rfl:=zj hr zq4
 exact⟨rfl,u⟩
 refine jF f (sk (sr (An rfl (rt (tR (rs ?_))))))
 have x:=e.pk []
 obtain rfl:=zj hr zq4
 exact⟨rfl,x⟩
 refine jF c (sk (H7 (sr (Mn rfl ?_))))
 rcases Lr (k) with d | d
 refine jT d (sr (An rfl (rt (tR (rs ?_)))))
 have y:=e.pk []
 obtain rfl:=zj hr zq4
 exact⟨rfl,y⟩
 refine jF d (sk (H7 (sr (Mz rfl (Mz rfl (Kz (.bool (decide ((i:Int) < (j:Int)))) (nt ?_)))))))
 by_cases g:(i:Int) < (j:Int)
 refine jT (dT g) (sr (An rfl (rt (tR (rs ?_)))))
 have z:=e.pk []
 obtain rfl:=zj hr zq5
 exact⟨rfl,z⟩
 refine jF (dF g) (sk (H7 (sr (Mz rfl (Mz rfl (Kz (.bool (decide ((i:Int) > (j:Int)))) (nt ?_)))))))
 by_cases h:(i:Int) > (j:Int)
 refine jT (dT h) (sr (An rfl (rt (tR (rs ?_)))))
 have A:=e.pk []
 obtain rfl:=zj hr zq6
 exact⟨rfl,A⟩
 refine jF (dF h) (sk (sr (An rfl (rt (rs ?_)))))
 have B:=e.pk []
 obtain rfl:=zj hr zq6
 exact⟨rfl,B⟩
theorem jk:Elem u9 112 164 6 80:=l6 (z:= .agg #[.int .u64 0, .slice none 0 0, .bool false, .string ⟨v0 []⟩, .string ⟨v0 []⟩, .bool false]) Tryz.underlying112 e9 rfl f5
structure mU where
 ai:Sv ay
def mU.cells (x:mU):List Value:= [.slice x.ai.A x.ai.ls.length x.ai.c]
instance:Bk mU:=⟨λ x _=>bk x.ai+(0)⟩
theorem mU.len:∀ x,(mU.cells x).length=1:=λ _=>rfl
theorem mU.one:∀ x, ∀ u ∈ mU.cells x,u.oneCell'=true:=λ x u hu=>by
 simp only [mU.cells,u3,v1,or_false] at hu
 rcases hu with rfl <;> rfl
def K7 (w:World) (x:mU):Prop:=(mM w 6 80 ay.cells (KL w) x.ai)
instance:Inhabited mU:=⟨⟨default⟩⟩
structure aW where
 ai:Ll aM
instance:Inhabited aW:=⟨⟨default⟩⟩
def mU.abs (x:mU):aW:=⟨⟨s1 ay.abs x.ai.ls⟩⟩
def KV (x:mU):List HP:= [row x.ai.A x.ai.ls.length x.ai.c (q2 ay.cells x.ai.ls) 164 6,sepL (q2 Iy x.ai.ls)]
def dO (f:List aM) (g:Nat):Nat->Nat->Nat->Nat
  | 0,a,b=>default
  | c+1,a,b=>if(a:Int) < (b:Int) then bnd (y2 f ((a+b) / 2) default) λ d=>bnd (eG d.au g) λ e=>if e < 0 then dO f g c (((a+b) / 2)+1) b else dO f g c a ((a+b) / 2) else a
def gL (a:List aM) (d:Nat):Int × Bool:=
 bnd (dO a d ((a.length - 0)+1) 0 a.length) λ sLrL=>if(sLrL:Int) < (a.length:Int) then bnd (y2 a sLrL default) λ b=>bnd (eG b.au d) λ c=>((sLrL:Int),decide (c=0)) else((sLrL:Int),false)
theorem l5 (w D z Z Y d0 f o K r1) (H:Own w D w []) (I:s1 ay.abs d0=f) (j:Ro w D λ w'=>bO w' 6 z Z (q2 ay.cells d0)) (L:∀ x ∈ d0,Ro w D (λ w'=>bO w' 3 x.aG.A x.aG.ls.length (q2 aF.cells x.aG.ls))/\(x.aG.ls.length<=x.aG.c/\x.aG.ls.length<=9223372036854775807)) (af:Z=f.length) (aN:f.length *80<=211106232532992) (hr:gL f o=(K,r1)):
    Calls u9 166 #[.slice z Z Y,vU o, .func (.func 167) #[] #[]] w (dI λ v w'=>v= .tuple #[vI K, .bool r1]/\Own w D w' []/\(0<=K/\K<=((f.length:Nat):Int))/\(Bool.toNat r1=0\/K < ((f.length:Nat):Int))):=by
 unfold gL at hr
 subst af
 have aA:=aY I
 refine cb Tryz.func166 ?_
 refine sr (Az rfl (Ar rfl (Mz rfl (Kz (vJ f.length) (Ar rfl (Mz rfl (Az rfl (An rfl (H7 (bo ?_))))))))))
 have ag:=H.pk []
 obtain⟨ah,h⟩:=yu λ (a:Nat) (b:Nat) (p:Nat) w'=>Own w D w' []/\a<=b/\b<=f.length/\b - a < p/\dO f o ((f.length - 0)+1) 0 f.length=dO f o p a b
 refine y6 (λ i:Nat × Nat × Nat=> [(9,vJ i.1),(10,vJ i.2.1),(8,vJ f.length),(7, .bool false),(6,vI 0),(0, .slice z f.length Y),(1,vU o),(2, .func (.func 167) #[] #[])]) ah (λ i=>i.2.2) (0,f.length,(f.length - 0)+1) ⟨rfl,rfl,rfl,rfl,rfl,rfl,rfl,rfl,trivial⟩ (h.2 ⟨ag,e8,e8,e8,rfl⟩) ?_
 rintro ⟨a,b,p⟩ aO M
 show Wp _ _ _ [(9,vJ a),(10,vJ b),(8,vJ f.length),(7, .bool false),(6,vI 0),(0, .slice z f.length Y),(1,vU o),(2, .func (.func 167) #[] #[])] _ _
 obtain⟨g,aB,aC,aD,r⟩:=h.1 M
 obtain⟨l,N⟩:∃ q,p=q+1:=⟨p - 1,e8⟩
 subst N
 refine H7 (sr (Mz rfl (Mz rfl (Kz (.bool (decide ((a:Int) < (b:Int)))) (nt ?_)))))
 by_cases s:(a:Int) < (b:Int)
 refine jT (dT s) (sk (bo (sr (Mz rfl (Mz rfl (fw (vJ (a+b)) (Ig (e:=B5.wrap ((a:Int)+(b:Int))) yk f1) (fw (vU (a+b)) (Ig (e:=IntKind.u64.wrap ((a+b:Nat):Int)) yk (IntWalk.u64_in _ e8)) (fw (vU ((a+b) / 2)) (Ig (e:=Int.fdiv ((a+b:Nat):Int) 2) yk (uG _ 1 _ f5)) (fw (vJ ((a+b) / 2)) (Ig (e:=B5.wrap (((a+b) / 2:Nat):Int)) yk (Lj _ e8)) (Ar rfl (Mz rfl (Mz rfl (Mz rfl ?_)))))))))))))
 obtain⟨m,t⟩:=dG (ls:=d0) (i:=(a+b) / 2) ay.len f5 (g.ro j) f2
 have E:=fO I t
 have aG:=(L _ (D4 t)).2
 refine fw (.pointer (some ⟨ab z,ao z+((a+b) / 2) *6,none⟩)) (Im (jk) rfl rfl ((g.ro j).addr (i:=(a+b) / 2) e8) e8) (fw (.agg (ay.cells m).toArray) (Il rfl (Io (cs:=(ay.cells m)) N3 N4 ((g.ro j).elem ay.len t f5))) (Mz rfl ?_))
 refine WL.do rfl (IM Tryz.call167 rfl rfl ?_ (λ _ _ k=>k))
 refine cb Tryz.func167 ?_
 refine sr ?_
 refine bW (ay.cells m) 164 g ?_
 intro ai aP O
 refine Ar rfl (Kz (vP ai 0) (Lz (vU m.au) O 0 E1 (Mz rfl ?_)))
 obtain⟨J,u⟩:∃ q,eG m.au o=q:=⟨_,rfl⟩
 obtain⟨aQ,P,aH,Q,aI⟩:=Ia O
 refine cl Tryz.call129 (l8 _ _ m.au o J P u) ?_
 rintro _ aR ⟨rfl,R⟩
 have S:=Q _ _ R
 refine An rfl (rt (rs (Kz (.bool (decide (J < 0))) (nt ?_))))
 by_cases B:J < 0
 refine jT (dT B) (H8 (Mz rfl (fw (vI ((((a+b) / 2)+1:Nat):Int)) (Ig (e:=B5.wrap ((((a+b) / 2:Nat):Int)+1)) yk f1) (Az rfl (B6 (bN ?_))))))
 have aj:=S.pk []
 exact Iq (((a+b) / 2)+1,b,l) ⟨rfl,rfl,rfl,rfl,rfl,rfl,rfl,rfl,trivial⟩ (h.2 ⟨aj,e8,e8,e8,et (r) (et (ip s) (et (ae (bu E)) (et (ae u) (ip B))))⟩) (by show l < l+1; omega)
 refine jF (dF B) (H8 (Mz rfl (Az rfl (B6 (bN ?_)))))
 have ak:=S.pk []
 exact Iq (a,(a+b) / 2,l) ⟨rfl,rfl,rfl,rfl,rfl,rfl,rfl,rfl,trivial⟩ (h.2 ⟨ak,e8,e8,e8,et (r) (et (ip s) (et (ae (bu E)) (et (ae u) (iN B))))⟩) (by show l < l+1; omega)
 refine jF (dF s) (B7 (Ip ?_))
 have F:dO f o ((f.length - 0)+1) 0 f.length=a:=et (r) (iN s)
 refine Ip (Iz (Ib (sr (Mz rfl (Mz rfl (Mz rfl (Kz (.bool (decide ((a:Int) < (f.length:Int)))) (Mz rfl ?_))))))))
 by_cases d:(a:Int) < (f.length:Int)
 refine gw (.func (.func 167) #[] #[]) (dT d) (Ie rfl) (gw (.slice z f.length Y) (dT d) (Ie rfl) (gw (vJ a) (dT d) (Ie rfl) ?_))
 obtain⟨n,y⟩:=dG (ls:=d0) (i:=a) ay.len f5 (g.ro j) f2
 have T:=fO I y
 have aJ:=(L _ (D4 y)).2
 refine gw (.pointer (some ⟨ab z,ao z+a *6,none⟩)) (dT d) (Im (jk) rfl rfl ((g.ro j).addr (i:=a) e8) e8) (gw (.agg (ay.cells n).toArray) (dT d) (Il rfl (Io (cs:=(ay.cells n)) N3 N4 ((g.ro j).elem ay.len y f5))) (gw (vU o) (dT d) (Ie rfl) ?_))
 refine I9 rfl rfl (dT d) rfl (IM Tryz.call167 rfl rfl ?_ (λ _ _ k=>k))
 refine cb Tryz.func167 ?_
 refine sr ?_
 refine bW (ay.cells n) 164 g ?_
 intro au aS U
 refine Ar rfl (Kz (vP au 0) (Lz (vU n.au) U 0 E1 (Mz rfl ?_)))
 obtain⟨C,G⟩:∃ q,eG n.au o=q:=⟨_,rfl⟩
 obtain⟨aT,V,aK,W,aL⟩:=Ia U
 refine cl Tryz.call129 (l8 _ _ n.au o C V G) ?_
 rintro _ aU ⟨rfl,X⟩
 have av:=W _ _ X
 refine An rfl (rt (rs (Gz (.bool (decide (C=0))) (dT d) (fw (.bool (decide (C=0))) (Ic rfl (dT d) rfl) (Az rfl (An rfl (rt (Ir (kD rfl rfl rfl) ?_))))))))
 have ax:=av.pk []
 obtain⟨rfl,rfl⟩:=fB (zj hr (show _=(((a:Nat):Int),decide (C=0)) from et (ae F) (et (ip d) (et (ae (bu T)) (ae G)))))
 exact⟨rfl,ax,e8,i1⟩
 refine Sz (dF d) (Sz (dF d) (Sz (dF d) (Sz (dF d) (Sz (dF d) (Sz (dF d) (Sz (dF d) (Sz (dF d) (fw (.bool false) (H6 rfl (dF d) rfl) (Az rfl (An rfl (rt (Ir (kD rfl rfl rfl) ?_))))))))))))
 have az:=g.pk []
 obtain⟨rfl,rfl⟩:=fB (zj hr zq2)
 exact⟨rfl,az,e8,i1⟩
def eT (b:aW) (c:Nat):Int × Bool:=
 bnd (gL b.ai.ls c) λ a=>(a.1,a.2)
theorem lL (w D o) (d:aW) (a b e u p z) (H:Own w D w [blk o [.slice a d.ai.ls.length b] 114]) (g:s1 ay.abs e=d.ai.ls) (n:Ro w D λ w'=>bO w' 6 a d.ai.ls.length (q2 ay.cells e)) (B:d.ai.ls.length<=b/\d.ai.ls.length<=9223372036854775807) (h:∀ x ∈ e,Ro w D (λ w'=>bO w' 3 x.aG.A x.aG.ls.length (q2 aF.cells x.aG.ls))/\(x.aG.ls.length<=x.aG.c/\x.aG.ls.length<=9223372036854775807)) (J:d.ai.ls.length<=1000000) (hr:eT d u=(p,z)):
    Calls u9 114 #[vP o 0,vU u] w (dI λ v w'=>v= .tuple #[vI p, .bool z]/\Own w D w' [blk o [.slice a d.ai.ls.length b] 114]/\(0<=p/\p<=((d.ai.ls.length:Nat):Int))/\(Bool.toNat z=0\/p < ((d.ai.ls.length:Nat):Int))):=by
 unfold eT at hr
 have y:=aY g
 refine cb Tryz.func114 ?_
 refine sr (Az rfl (Ar rfl (Mz rfl (Kz (vP o 0) (Kz (vP o 0) (Lz (.slice a d.ai.ls.length b) H 0 N5 (Mz rfl ?_)))))))
 obtain⟨⟨f,i⟩,j⟩:∃ q:Int × Bool,gL d.ai.ls u=q:=⟨_,rfl⟩
 obtain⟨K,r,k,s,F⟩:=Ia H
 refine cl Tryz.call166 (l5 _ _ a d.ai.ls.length b e d.ai.ls u f i r g (k _ n) (λ G I=>⟨k _ (h G I).1,(h G I).2⟩) rfl e8 j) ?_
 rintro _ L ⟨rfl,t,l,m⟩
 have C:=s _ _ t
 replace l:0<=f/\f<=(d.ai.ls.length:Int):=l
 replace m:Bool.toNat i=0\/f < (d.ai.ls.length:Int):=m
 refine Kz (vI f) (Kz (.bool i) (Az rfl (An rfl (rt (Ir (kD rfl rfl rfl) ?_)))))
 have E:=C.pf []
 obtain⟨rfl,rfl⟩:=fB (zj hr zq1)
 exact⟨rfl,E,e8,i1⟩
def fI (c:aW) (d:Nat):Bool:=
 bnd (eT c d) λ a=>if a.2=true then bnd (y2 c.ai.ls (G0 a.1) default) λ b=>b.bn else false
theorem uA (w D y) (j:aW) (b f h G M) (H:Own w D w [blk y [.slice b j.ai.ls.length f] 114]) (l:s1 ay.abs h=j.ai.ls) (g:Ro w D λ w'=>bO w' 6 b j.ai.ls.length (q2 ay.cells h)) (J:j.ai.ls.length<=f/\j.ai.ls.length<=9223372036854775807) (m:∀ x ∈ h,Ro w D (λ w'=>bO w' 3 x.aG.A x.aG.ls.length (q2 aF.cells x.aG.ls))/\(x.aG.ls.length<=x.aG.c/\x.aG.ls.length<=9223372036854775807)) (R:j.ai.ls.length<=1000000) (hr:fI j G=M):
    Calls u9 68 #[vP y 0,vU G] w (dI λ v w'=>v= .bool M/\Own w D w' [blk y [.slice b j.ai.ls.length f] 114]):=by
 unfold fI at hr
 have I:=aY l
 refine cb Tryz.func68 ?_
 refine sr (Ar rfl (Mz rfl (Mz rfl ?_)))
 obtain⟨⟨d,n⟩,p⟩:∃ q:Int × Bool,eT j G=q:=⟨_,rfl⟩
 obtain⟨S,B,s,C,N⟩:=IE H
 refine cl Tryz.call114 (lL _ _ y j b f h G d n B l (s _ g) e8 (λ O P=>⟨s _ (m O P).1,(m O P).2⟩) f9 p) ?_
 rintro _ T ⟨rfl,E,t,u⟩
 have o:=C _ _ E
 replace t:0<=d/\d<=(j.ai.ls.length:Int):=t
 replace u:Bool.toNat n=0\/d < (j.ai.ls.length:Int):=u
 refine Mz rfl (Kz (vI d) (Kz (.bool n) (Az rfl (Ar rfl (Mz rfl (Mz rfl ?_))))))
 rcases Lr (n) with a | a
 have h34t:Bool.toNat n=1:=by rw [a]; rfl
 refine IQ (v:=vP y 0) rfl rfl a rfl (Ie rfl) (Gz (vP y 0) a (Gz (vP y 0) a (Gl (.slice b j.ai.ls.length f) a o 0 N5 (IQ (v:=vJ (G0 d)) rfl rfl a rfl (Ig (e:=d) (Ie rfl) e8) ?_))))
 obtain⟨z,r⟩:=dG (ls:=h) (i:=G0 d) ay.len f5 (o.ro g) f2
 have F:=fO l r
 have Q:=(m _ (D4 r)).2
 refine IQ (v:= .pointer (some ⟨ab b,ao b+(G0 d) *6,none⟩)) rfl rfl a rfl (Im (jk) rfl rfl ((o.ro g).addr (i:=G0 d) e8) e8) (Gz (.pointer (some ⟨ab b,ao b+(G0 d) *6+2,none⟩)) a (IQ (v:= .bool z.bn) rfl rfl a rfl (Il rfl (bQ.one H2 (((o.ro g).elem ay.len r f5).at_ (k:=2) rfl))) (fw (.bool z.bn) (Ic rfl a rfl) (An rfl (rt (rs ?_))))))
 have K:=o.pf []
 obtain rfl:=zj hr zq3
 exact⟨rfl,K⟩
 have h34t:Bool.toNat n=0:=by rw [a]; rfl
 refine Sz a (Sz a (Sz a (Sz a (Sz a (Sz a (Sz a (Sz a (fw (.bool false) (H6 rfl a rfl) (An rfl (rt (rs ?_)))))))))))
 have L:=o.pf []
 obtain rfl:=zj hr zq2
 exact⟨rfl,L⟩
def dV (a:aF):List aF->Nat->Unit ⊕ Int
  | [],b=>y0 ()
  | c::d,b=>bnd (qh c.aA a.aA) λ e=>if e=true then if c.eU=true then y3 (b:Int) else if a.eU=true then dV a d (b+1) else y3 (b:Int) else dV a d (b+1)
def kP (b:List aF) (a:aF):Int:=
 lp (dV a b 0) λ _=>(-1)
theorem oV (w D x I J g d) (a:aF) (W) (H:Own w D w [blk d (aF.cells a) 118]) (t:Ro w D λ w'=>bO w' 3 x I (q2 aF.cells g)) (K:I=g.length) (aa:g.length<=9223372036854775807) (hr:kP g a=W):
    Calls u9 168 #[.slice x I J, .func (.func 116) #[] #[vP d 0]] w (dI λ v w'=>v=vI W/\Own w D w' [blk d (aF.cells a) 118]):=by
 subst K
 refine cb Tryz.func168 ?_
 refine sr (An rfl (H7 (sr (Mz rfl (Kz (vJ g.length) (Mn rfl (bo ?_)))))))
 have L:=H.pf []
 obtain⟨M,m⟩:=mI λ (b:Nat) w'=>Own w D w' [blk d (aF.cells a) 118]/\b<=g.length/\dV a g 0=dV a (s0 b g) b
 refine y6 (λ i:Nat=> [(4,vI 0),(8,vJ i),(7,vJ g.length),(0, .slice x g.length J),(1, .func (.func 116) #[] #[vP d 0])]) M (λ i=>g.length - i) 0 ⟨rfl,rfl,rfl,rfl,rfl,trivial⟩ (m.2 ⟨L,e8,rfl⟩) ?_
 rintro b af y
 show Wp _ _ _ [(4,vI 0),(8,vJ b),(7,vJ g.length),(0, .slice x g.length J),(1, .func (.func 116) #[] #[vP d 0])] _ _
 obtain⟨p,X,j⟩:=m.1 y
 refine sr (Kz (.bool (decide ((b:Int) < (g.length:Int)))) (nt (H7 ?_)))
 by_cases z:(b:Int) < (g.length:Int)
 obtain⟨h,s⟩:=dG (ls:=g) (i:=b) aF.len f5 (p.ro t) f2
 have n:=drop_at s
 refine jT (dT z) (sk (H7 (bo (sr (Mz rfl (Ar rfl (Mz rfl (Mz rfl (Mz rfl (fw (.pointer (some ⟨ab x,ao x+b *3,none⟩)) (Im (uy) rfl rfl ((p.ro t).addr (i:=b) e8) e8) (fw (.agg (aF.cells h).toArray) (Il rfl (Io (cs:=(aF.cells h)) N6 N7 ((p.ro t).elem aF.len s f5))) ?_)))))))))))
 refine WL.do rfl (IM Tryz.call116 rfl rfl ?_ (λ _ _ k=>k))
 refine cb Tryz.func116 ?_
 refine sr ?_
 refine bW (aF.cells h) 118 p ?_
 intro A ag u
 refine Ar rfl (Kz (vP A 0) (La (aj.cells h.aA) u 0 C6 C5 (Kz (vP d 0) (La (aj.cells a.aA) u 1 C6 C5 ?_))))
 obtain⟨B,l⟩:∃ q,qh h.aA a.aA=q:=⟨_,rfl⟩
 obtain⟨ah,C,Y,E,Z⟩:=Ia u
 refine cl Tryz.call117 (uJ _ _ h.aA a.aA B C l) ?_
 rintro _ ai ⟨rfl,F⟩
 have o:=E _ _ F
 refine Mz rfl ?_
 rcases Lr (B) with c | c
 refine Gz (vP A 2) c (Gl (.bool h.eU) c o 0 H2 (IQ (v:= .bool h.eU) rfl rfl c rfl (Ie rfl) ?_))
 rcases Lr (h.eU) with f | f
 refine Sz f (Sz f (Sz f (IQ (v:= .bool true) rfl rfl c rfl (Ic rfl f rfl) (fw (.bool true) (Ic rfl c rfl) (An rfl (rt (rs (nt (jt (H7 ?_))))))))))
 have N:=o.pk [1]
 refine H8 (Mz rfl (An rfl (rt (bR (tR (tR (bR (tR (rs ?_)))))))))
 have O:=N.pf []
 obtain rfl:_=(b:Int):=zj hr (iG (et (j) (et (congrArg (λ q=>dV a q b) n) (et (ae l) (et (ip c) (ip f))))))
 exact⟨rfl,O⟩
 refine Gz (vP d 2) f (Gl (.bool a.eU) f o 1 H2 (Gz (.bool (!a.eU)) f (IQ (v:= .bool (!a.eU)) rfl rfl c rfl (H6 rfl f rfl) (fw (.bool (!a.eU)) (Ic rfl c rfl) (An rfl (rt (rs (nt ?_))))))))
 rcases Lr (a.eU) with r | r
 refine jF (cn r) (IG (bN (Ib ?_)))
 have P:=o.pk [1]
 refine H8 (fw (vJ (b+1)) (Ig (e:=B5.wrap ((b:Int)+1)) yk f1) (Mz rfl (B6 ?_)))
 have Q:=P.pf []
 exact Iq (b+1) ⟨rfl,rfl,rfl,rfl,rfl,trivial⟩ (m.2 ⟨Q,e8,et (j) (et (congrArg (λ q=>dV a q b) n) (et (ae l) (et (ip c) (et (eF f) (ip r)))))⟩) (by show g.length - (b+1) < g.length - b; omega)
 refine jT (cn r) (H7 ?_)
 have R:=o.pk [1]
 refine H8 (Mz rfl (An rfl (rt (bR (tR (tR (bR (tR (rs ?_)))))))))
 have S:=R.pf []
 obtain rfl:_=(b:Int):=zj hr (iG (et (j) (et (congrArg (λ q=>dV a q b) n) (et (ae l) (et (ip c) (et (eF f) (eF r)))))))
 exact⟨rfl,S⟩
 refine Sz c (Sz c (Sz c (Ij rfl rfl rfl (Ij rfl rfl rfl (Ij rfl rfl rfl (Sz c (fw (.bool false) (H6 rfl c rfl) (An rfl (rt (rs (nt (jf (IG (bN (Ib ?_)))))))))))))))
 have T:=o.pk [1]
 refine H8 (fw (vJ (b+1)) (Ig (e:=B5.wrap ((b:Int)+1)) yk f1) (Mz rfl (B6 ?_)))
 have U:=T.pf []
 exact Iq (b+1) ⟨rfl,rfl,rfl,rfl,rfl,trivial⟩ (m.2 ⟨U,e8,et (j) (et (congrArg (λ q=>dV a q b) n) (et (ae l) (eF c)))⟩) (by show g.length - (b+1) < g.length - b; omega)
 refine jF (dF z) (B7 (Ip ?_))
 have G:dV a g 0=y0 ():=et (j) (et (congrArg (λ q=>dV a q b) (eX (ls:=g) (i:=b) e8)) rfl)
 refine Ip (Iz (Ib (sr (An rfl (rt (rs ?_))))))
 have V:=p.pf []
 obtain rfl:_=(-1):=zj hr (lw G)
 exact⟨rfl,V⟩
def jY (c:List aF) (a:aF):Bool:=
 bnd (kP c a) λ b=>decide (b >= 0)
theorem ou (w D j k p d b) (a:aF) (r) (H:Own w D w [blk b (aF.cells a) 118]) (l:Ro w D λ w'=>bO w' 3 j k (q2 aF.cells d)) (m:k=d.length) (t:d.length<=9223372036854775807) (hr:jY d a=r):
    Calls u9 115 #[.slice j k p, .func (.func 116) #[] #[vP b 0]] w (dI λ v w'=>v= .bool r/\Own w D w' [blk b (aF.cells a) 118]):=by
 unfold jY at hr
 subst m
 refine cb Tryz.func115 ?_
 refine sr (Ar rfl (Mz rfl (Mz rfl ?_)))
 obtain⟨e,c⟩:∃ q,kP d a=q:=⟨_,rfl⟩
 obtain⟨u,f,g,h,s⟩:=IE H
 refine cl Tryz.call168 (oV _ _ j d.length p d b a e f (g _ l) rfl e8 c) ?_
 rintro _ x ⟨rfl,i⟩
 have n:=h _ _ i
 refine Kz (.bool (decide (e >= 0))) (An rfl (rt (rs ?_)))
 have o:=n.pf []
 obtain rfl:=zj hr zq1
 exact⟨rfl,o⟩
def jW (d:aW) (e:Nat) (f:aF):Bool:=
 bnd (eT d e) λ a=>if a.2=true then bnd (y2 d.ai.ls (G0 a.1) default) λ b=>bnd (jY b.aG.ls f) λ c=>c else false
theorem wP (w D B) (m:aW) (b f j P) (E:aF) (Y) (H:Own w D w [blk B [.slice b m.ai.ls.length f] 114]) (n:s1 ay.abs j=m.ai.ls) (g:Ro w D λ w'=>bO w' 6 b m.ai.ls.length (q2 ay.cells j)) (R:m.ai.ls.length<=f/\m.ai.ls.length<=9223372036854775807) (h:∀ x ∈ j,Ro w D (λ w'=>bO w' 3 x.aG.A x.aG.ls.length (q2 aF.cells x.aG.ls))/\(x.aG.ls.length<=x.aG.c/\x.aG.ls.length<=9223372036854775807)) (ai:m.ai.ls.length<=1000000) (hr:jW m P E=Y):
    Calls u9 69 #[vP B 0,vU P, .agg (aF.cells E).toArray] w (dI λ v w'=>v= .bool Y/\Own w D w' [blk B [.slice b m.ai.ls.length f] 114]):=by
 unfold jW at hr
 have Q:=aY n
 refine cb Tryz.func69 ?_
 refine sr ?_
 refine bW (aF.cells E) 118 H ?_
 intro F aj S
 refine Ar rfl (Mz rfl (Mz rfl ?_))
 have T:=S.pb [0]
 obtain⟨⟨d,p⟩,s⟩:∃ q:Int × Bool,eT m P=q:=⟨_,rfl⟩
 obtain⟨ak,G,t,I,Z⟩:=IE T
 refine cl Tryz.call114 (lL _ _ B m b f j P d p G n (t _ g) e8 (λ x9 h9=>⟨t _ (h x9 h9).1,(h x9 h9).2⟩) f9 s) ?_
 rintro _ au ⟨rfl,J,u,y⟩
 have r:=I _ _ J
 replace u:0<=d/\d<=(m.ai.ls.length:Int):=u
 replace y:Bool.toNat p=0\/d < (m.ai.ls.length:Int):=y
 refine Mz rfl (Kz (vI d) (Kz (.bool p) (Az rfl (Ar rfl (Mz rfl (Mz rfl ?_))))))
 rcases Lr (p) with a | a
 have h38t:Bool.toNat p=1:=by rw [a]; rfl
 refine IQ (v:=vP B 0) rfl rfl a rfl (Ie rfl) (Gz (vP B 0) a (Gz (vP B 0) a (Gl (.slice b m.ai.ls.length f) a r 0 N5 (IQ (v:=vJ (G0 d)) rfl rfl a rfl (Ig (e:=d) (Ie rfl) e8) ?_))))
 obtain⟨l,o⟩:=dG (ls:=j) (i:=G0 d) ay.len f5 (r.ro g) f2
 have K:=fO n o
 have ag:=(h _ (D4 o)).2
 refine IQ (v:= .pointer (some ⟨ab b,ao b+(G0 d) *6,none⟩)) rfl rfl a rfl (Im (jk) rfl rfl ((r.ro g).addr (i:=G0 d) e8) e8) (Gz (.pointer (some ⟨ab b,ao b+(G0 d) *6+1,none⟩)) a (IQ (v:= .slice l.aG.A l.aG.ls.length l.aG.c) rfl rfl a rfl (Il rfl (bQ.one N8 (((r.ro g).elem ay.len o f5).at_ (k:=1) rfl))) (Gz (.func (.func 116) #[] #[vP F 0]) a ?_)))
 have U:=r.pb [0]
 obtain⟨C,z⟩:∃ q,jY l.aG.ls E=q:=⟨_,rfl⟩
 obtain⟨av,L,M,N,ah⟩:=IE U
 refine I9 rfl rfl a rfl (IB Tryz.call115 rfl (ou _ _ l.aG.A l.aG.ls.length l.aG.c l.aG.ls F E C L (M _ (h _ (D4 o)).1) rfl e8 z) ?_)
 rintro _ ax ⟨rfl,O⟩
 have V:=N _ _ O
 refine fw (.bool C) (Ic rfl a rfl) (An rfl (rt (rs ?_)))
 have W:=V.pk [1]
 obtain rfl:_=C:=zj hr (et (ae s) (et (ip a) (et (ae (bu K)) (ae z))))
 exact⟨rfl,W⟩
 have h38t:Bool.toNat p=0:=by rw [a]; rfl
 refine Sz a (Sz a (Sz a (Sz a (Sz a (Sz a (Sz a (Sz a (Sz a (Sz a (fw (.bool false) (H6 rfl a rfl) (An rfl (rt (rs ?_)))))))))))))
 have X:=r.pk [0]
 obtain rfl:=zj hr zq2
 exact⟨rfl,X⟩
def gX:List aM->Int->Int
  | [],a=>a
  | b::c,a=>if b.bn=true then gX c (B5.wrap ((B5.wrap (a+(b.aG.ls.length:Int)))+1)) else gX c (B5.wrap (a+(b.aG.ls.length:Int)))
def mD (a:aW):Int:=
 bnd (gX a.ai.ls 0) λ sLrL=>sLrL
theorem ve (w D y) (d:aW) (b h k R) (H:Own w D w [blk y [.slice b d.ai.ls.length h] 114]) (m:s1 ay.abs k=d.ai.ls) (j:Ro w D λ w'=>bO w' 6 b d.ai.ls.length (q2 ay.cells k)) (I:d.ai.ls.length<=h/\d.ai.ls.length<=9223372036854775807) (u:∀ x ∈ k,Ro w D (λ w'=>bO w' 3 x.aG.A x.aG.ls.length (q2 aF.cells x.aG.ls))/\(x.aG.ls.length<=x.aG.c/\x.aG.ls.length<=9223372036854775807)) (U:d.ai.ls.length<=1000000) (hr:mD d=R):
    Calls u9 70 #[vP y 0] w (dI λ v w'=>v=vI R/\Own w D w' [blk y [.slice b d.ai.ls.length h] 114]):=by
 unfold mD at hr
 have G:=aY m
 refine cb Tryz.func70 ?_
 refine sr (Ar rfl (An rfl (H7 (sr (Mz rfl (Kz (vP y 0) (Kz (vP y 0) (Lz (.slice b d.ai.ls.length h) H 0 N5 (Kz (vJ d.ai.ls.length) (Mn rfl (bo ?_)))))))))))
 have J:=H.pf []
 obtain⟨K,l⟩:=FT λ (g:Int) (a:Nat) w'=>Own w D w' [blk y [.slice b d.ai.ls.length h] 114]/\a<=d.ai.ls.length/\gX d.ai.ls 0=gX (s0 a d.ai.ls) g
 refine y6 (λ i:Int × Nat=> [(3,vI i.1),(11,vJ i.2),(10,vJ d.ai.ls.length),(9, .slice b d.ai.ls.length h),(2,vI 0)]) K (λ i=>d.ai.ls.length - i.2) (0,0) ⟨rfl,rfl,rfl,rfl,rfl,trivial⟩ (l.2 ⟨J,e8,rfl⟩) ?_
 rintro ⟨g,a⟩ V z
 show Wp _ _ _ [(3,vI g),(11,vJ a),(10,vJ d.ai.ls.length),(9, .slice b d.ai.ls.length h),(2,vI 0)] _ _
 obtain⟨n,S,o⟩:=l.1 z
 refine sr (Kz (.bool (decide ((a:Int) < (d.ai.ls.length:Int)))) (nt (H7 ?_)))
 by_cases B:(a:Int) < (d.ai.ls.length:Int)
 obtain⟨f,p⟩:=dG (ls:=k) (i:=a) ay.len f5 (n.ro j) f2
 have C:=fO m p
 have T:=(u _ (D4 p)).2
 have t:=drop_at C
 refine jT (dT B) (sk (H7 (bo (sr (fw (.pointer (some ⟨ab b,ao b+a *6,none⟩)) (Im (jk) rfl rfl ((n.ro j).addr (i:=a) e8) e8) (fw (.agg (ay.cells f).toArray) (Il rfl (Io (cs:=(ay.cells f)) N3 N4 ((n.ro j).elem ay.len p f5))) ?_))))))
 refine bW [.int .u64 0, .slice none 0 0, .bool false, .string ⟨v0 []⟩, .string ⟨v0 []⟩, .bool false] 164 n ?_
 intro E W L
 refine cu (ay.cells f) 0 L N4 ?_
 intro X s
 refine ns (Mz rfl (Kz (vP E 1) (Lz (.slice f.aG.A f.aG.ls.length f.aG.c) s 0 N8 (Kz (vJ f.aG.ls.length) (Kz (vI (B5.wrap (g+(f.aG.ls.length:Int)))) (Ar rfl (Kz (vP E 2) (Lz (.bool f.bn) s 0 H2 (nt ?_)))))))))
 rcases Lr (f.bn) with r | r
 refine jT r ?_
 have M:=s.pk [1]
 refine H8 (Mz rfl (Kz (vI (B5.wrap ((B5.wrap (g+(f.aG.ls.length:Int)))+1))) (Az rfl (B6 (bN (Ib (H8 (fw (vJ (a+1)) (Ig (e:=B5.wrap ((a:Int)+1)) yk f1) (Mz rfl (B6 ?_))))))))))
 have N:=M.pf []
 exact Iq (B5.wrap ((B5.wrap (g+(f.aG.ls.length:Int)))+1),a+1) ⟨rfl,rfl,rfl,rfl,rfl,trivial⟩ (l.2 ⟨N,e8,et (o) (et (congrArg (λ q=>gX q g) t) (ip r))⟩) (by show d.ai.ls.length - (a+1) < d.ai.ls.length - a; omega)
 refine jF r (IG (bN (Ib ?_)))
 have O:=s.pk [1]
 refine H8 (fw (vJ (a+1)) (Ig (e:=B5.wrap ((a:Int)+1)) yk f1) (Mz rfl (B6 ?_)))
 have P:=O.pf []
 exact Iq (B5.wrap (g+(f.aG.ls.length:Int)),a+1) ⟨rfl,rfl,rfl,rfl,rfl,trivial⟩ (l.2 ⟨P,e8,et (o) (et (congrArg (λ q=>gX q g) t) (eF r))⟩) (by show d.ai.ls.length - (a+1) < d.ai.ls.length - a; omega)
 refine jF (dF B) (B7 (Ip ?_))
 have F:gX d.ai.ls 0=g:=et (o) (et (congrArg (λ q=>gX q g) (eX (ls:=d.ai.ls) (i:=a) e8)) rfl)
 refine Ip (Iz (Ib (sr (Mz rfl (An rfl (rt (rs ?_)))))))
 have Q:=n.pf []
 obtain rfl:=zj hr zq1
 exact⟨rfl,Q⟩
def dJ (p1c0i0:aF) (p1c0i1:Nat) (a:aM):List aF->Nat->Unit ⊕ Int
  | [],b=>y0 ()
  | d::c,b=>bnd (kT p1c0i0.aA d.aA) λ e=>if(a.au:Int)=(p1c0i1:Int) then dJ p1c0i0 p1c0i1 a c (b+1) else if e.2=true then if p1c0i0.eU=true then y3 (b:Int) else if d.eU=true then y3 (b:Int) else dJ p1c0i0 p1c0i1 a c (b+1) else dJ p1c0i0 p1c0i1 a c (b+1)
def kH (b:List aF) (p1c0i0:aF) (p1c0i1:Nat) (a:aM):Int:=
 lp (dJ p1c0i0 p1c0i1 a b 0) λ _=>(-1)
theorem oK (w D F Q R f g1c0i0) (p1c0i0:aF) (g1c0i1 p1c0i1 m j) (a:aM) (g h r0) (H:Own w D w [blk g1c0i0 (aF.cells p1c0i0) 118,blk g1c0i1 [.int .u64 ((p1c0i1:Nat):Int)] 32,blk m [.func (.func 169) #[] #[.pointer (some ⟨g1c0i0,0,none⟩), .pointer (some ⟨g1c0i1,0,none⟩)]] 153,blk j [.int .u64 ((a.au:Nat):Int), .slice g a.aG.ls.length h, .bool a.bn, .string ⟨v0 a.bg.aA.aN⟩, .string ⟨v0 a.bg.aA.aT⟩, .bool a.bg.eU] 164]) (B:Ro w D λ w'=>bO w' 3 F Q (q2 aF.cells f)) (S:Q=f.length) (aC:f.length<=9223372036854775807) (G:Ro w D λ w'=>bO w' 3 g a.aG.ls.length (q2 aF.cells a.aG.ls)) (I:a.aG.ls.length<=h/\a.aG.ls.length<=9223372036854775807) (hr:kH f p1c0i0 p1c0i1 a=r0):
    Calls u9 168 #[.slice F Q R, .func (.func 119) #[] #[vP m 0,vP j 0]] w (dI λ v w'=>v=vI r0/\Own w D w' [blk g1c0i0 (aF.cells p1c0i0) 118,blk g1c0i1 [vU p1c0i1] 32,blk m [.func (.func 169) #[] #[vP g1c0i0 0,vP g1c0i1 0]] 153,blk j [vU a.au, .slice g a.aG.ls.length h, .bool a.bn, .string ⟨v0 a.bg.aA.aN⟩, .string ⟨v0 a.bg.aA.aT⟩, .bool a.bg.eU] 164]):=by
 subst S
 refine cb Tryz.func168 ?_
 refine sr (An rfl (H7 (sr (Mz rfl (Kz (vJ f.length) (Mn rfl (bo ?_)))))))
 have T:=H.pf []
 obtain⟨U,r⟩:=mI λ (b:Nat) w'=>Own w D w' [blk g1c0i0 (aF.cells p1c0i0) 118,blk g1c0i1 [vU p1c0i1] 32,blk m [.func (.func 169) #[] #[vP g1c0i0 0,vP g1c0i1 0]] 153,blk j [vU a.au, .slice g a.aG.ls.length h, .bool a.bn, .string ⟨v0 a.bg.aA.aN⟩, .string ⟨v0 a.bg.aA.aT⟩, .bool a.bg.eU] 164]/\b<=f.length/\dJ p1c0i0 p1c0i1 a f 0=dJ p1c0i0 p1c0i1 a (s0 b f) b
 refine y6 (λ i:Nat=> [(4,vI 0),(8,vJ i),(7,vJ f.length),(0, .slice F f.length R),(1, .func (.func 119) #[] #[vP m 0,vP j 0])]) U (λ i=>f.length - i) 0 ⟨rfl,rfl,rfl,rfl,rfl,trivial⟩ (r.2 ⟨T,e8,rfl⟩) ?_
 rintro b aD J
 show Wp _ _ _ [(4,vI 0),(8,vJ b),(7,vJ f.length),(0, .slice F f.length R),(1, .func (.func 119) #[] #[vP m 0,vP j 0])] _ _
 obtain⟨u,az,n⟩:=r.1 J
 refine sr (Kz (.bool (decide ((b:Int) < (f.length:Int)))) (nt (H7 ?_)))
 by_cases K:(b:Int) < (f.length:Int)
 obtain⟨d,A⟩:=dG (ls:=f) (i:=b) aF.len f5 (u.ro B) f2
 have s:=drop_at A
 refine jT (dT K) (sk (H7 (bo (sr (Mz rfl (Ar rfl (Mz rfl (Mz rfl (Mz rfl (fw (.pointer (some ⟨ab F,ao F+b *3,none⟩)) (Im (uy) rfl rfl ((u.ro B).addr (i:=b) e8) e8) (fw (.agg (aF.cells d).toArray) (Il rfl (Io (cs:=(aF.cells d)) N6 N7 ((u.ro B).elem aF.len A f5))) ?_)))))))))))
 refine WL.do rfl (IM Tryz.call119 rfl rfl ?_ (λ _ _ k=>k))
 refine cb Tryz.func119 ?_
 refine sr ?_
 refine bW (aF.cells d) 118 u ?_
 intro aG aH z
 refine Ar rfl (Lz (.func (.func 169) #[] #[vP g1c0i0 0,vP g1c0i1 0]) z 3 Tryz.isAgg153 (Kz (vP j 0) (Lz (vU a.au) z 4 E1 (La (aF.cells d) z 0 N6 N7 ?_))))
 refine WL.do rfl (IM Tryz.call169 rfl rfl ?_ (λ _ _ k=>k))
 refine cb Tryz.func169 ?_
 refine sr ?_
 refine bW (aF.cells d) 118 z ?_
 intro L aI C
 refine Ar rfl (Kz (vP g1c0i0 0) (La (aj.cells p1c0i0.aA) C 2 C6 C5 (Kz (vP L 0) (La (aj.cells d.aA) C 0 C6 C5 ?_))))
 obtain⟨⟨E,x⟩,o⟩:∃ q:aj × Bool,kT p1c0i0.aA d.aA=q:=⟨_,rfl⟩
 obtain⟨aJ,M,aA,N,aB⟩:=Ia C
 refine cl Tryz.call152 (pq _ _ p1c0i0.aA d.aA E x M o) ?_
 rintro _ aK ⟨rfl,O⟩
 have V:=N _ _ O
 refine Mz rfl (Kz (.agg (aj.cells E).toArray) (Kz (.bool x) ?_))
 refine bW [.string ⟨v0 []⟩, .string ⟨v0 []⟩] 37 V ?_
 intro aL aN W
 refine cu (aj.cells E) 0 W C5 ?_
 intro aO X
 refine An rfl (H7 ?_)
 have t:=X.px [] [0] []
 refine H8 (Mz rfl (Lz (vU p1c0i1) t 3 E1 (fw (.bool (decide (¬ ((a.au:Int)=(p1c0i1:Int))))) (Iu (e:= !(decide ((a.au:Int)=(p1c0i1:Int)))) yk decide_not.symm) (Mz rfl ?_))))
 by_cases p:(a.au:Int)=(p1c0i1:Int)
 refine Sk rfl rfl (dF (Lp p)) rfl (fw (.bool false) (H6 rfl (dF (Lp p)) rfl) (Mz rfl (Sz rfl (Sz rfl (Sz rfl (Ij rfl rfl rfl (Ij rfl rfl rfl (Sz rfl (fw (.bool false) (H6 rfl rfl rfl) (An rfl (rt (rs (An rfl (rt (rs (nt (jf (IG (bN (Ib ?_))))))))))))))))))))
 have Y:=t.pk [2,3,4,5]
 refine H8 (fw (vJ (b+1)) (Ig (e:=B5.wrap ((b:Int)+1)) yk f1) (Mz rfl (B6 ?_)))
 have Z:=Y.pf []
 exact Iq (b+1) ⟨rfl,rfl,rfl,rfl,rfl,trivial⟩ (r.2 ⟨Z,e8,et (n) (et (congrArg (λ q=>dJ p1c0i0 p1c0i1 a q b) s) (et (ae o) (ip p)))⟩) (by show f.length - (b+1) < f.length - b; omega)
 refine gw (.bool x) (dT p) (Ie rfl) (fw (.bool x) (Ic rfl (dT p) rfl) (Mz rfl ?_))
 rcases Lr (x) with c | c
 refine Gz (vP g1c0i0 2) c (Gl (.bool p1c0i0.eU) c t 2 H2 (IQ (v:= .bool p1c0i0.eU) rfl rfl c rfl (Ie rfl) ?_))
 rcases Lr (p1c0i0.eU) with l | l
 refine Sz l (Sz l (IQ (v:= .bool true) rfl rfl c rfl (Ic rfl l rfl) (fw (.bool true) (Ic rfl c rfl) (An rfl (rt (rs (An rfl (rt (rs (nt (jt (H7 ?_))))))))))))
 have aa:=t.pk [2,3,4,5]
 refine H8 (Mz rfl (An rfl (rt (bR (tR (tR (bR (tR (rs ?_)))))))))
 have af:=aa.pf []
 obtain rfl:_=(b:Int):=zj hr (iG (et (n) (et (congrArg (λ q=>dJ p1c0i0 p1c0i1 a q b) s) (et (ae o) (et (iN p) (et (ip c) (ip l)))))))
 exact⟨rfl,af⟩
 refine Gz (vP L 2) l (Gl (.bool d.eU) l t 0 H2 (IQ (v:= .bool d.eU) rfl rfl c rfl (H6 rfl l rfl) (fw (.bool d.eU) (Ic rfl c rfl) (An rfl (rt (rs (An rfl (rt (rs (nt ?_))))))))))
 rcases Lr (d.eU) with y | y
 refine jT y (H7 ?_)
 have ag:=t.pk [2,3,4,5]
 refine H8 (Mz rfl (An rfl (rt (bR (tR (tR (bR (tR (rs ?_)))))))))
 have ah:=ag.pf []
 obtain rfl:_=(b:Int):=zj hr (iG (et (n) (et (congrArg (λ q=>dJ p1c0i0 p1c0i1 a q b) s) (et (ae o) (et (iN p) (et (ip c) (et (eF l) (ip y))))))))
 exact⟨rfl,ah⟩
 refine jF y (IG (bN (Ib ?_)))
 have ai:=t.pk [2,3,4,5]
 refine H8 (fw (vJ (b+1)) (Ig (e:=B5.wrap ((b:Int)+1)) yk f1) (Mz rfl (B6 ?_)))
 have ak:=ai.pf []
 exact Iq (b+1) ⟨rfl,rfl,rfl,rfl,rfl,trivial⟩ (r.2 ⟨ak,e8,et (n) (et (congrArg (λ q=>dJ p1c0i0 p1c0i1 a q b) s) (et (ae o) (et (iN p) (et (ip c) (et (eF l) (eF y))))))⟩) (by show f.length - (b+1) < f.length - b; omega)
 refine Sz c (Sz c (Sz c (Ij rfl rfl rfl (Ij rfl rfl rfl (Sz c (fw (.bool false) (H6 rfl c rfl) (An rfl (rt (rs (An rfl (rt (rs (nt (jf (IG (bN (Ib ?_)))))))))))))))))
 have au:=t.pk [2,3,4,5]
 refine H8 (fw (vJ (b+1)) (Ig (e:=B5.wrap ((b:Int)+1)) yk f1) (Mz rfl (B6 ?_)))
 have av:=au.pf []
 exact Iq (b+1) ⟨rfl,rfl,rfl,rfl,rfl,trivial⟩ (r.2 ⟨av,e8,et (n) (et (congrArg (λ q=>dJ p1c0i0 p1c0i1 a q b) s) (et (ae o) (et (iN p) (eF c))))⟩) (by show f.length - (b+1) < f.length - b; omega)
 refine jF (dF K) (B7 (Ip ?_))
 have P:dJ p1c0i0 p1c0i1 a f 0=y0 ():=et (n) (et (congrArg (λ q=>dJ p1c0i0 p1c0i1 a q b) (eX (ls:=f) (i:=b) e8)) rfl)
 refine Ip (Iz (Ib (sr (An rfl (rt (rs ?_))))))
 have ax:=u.pf []
 obtain rfl:_=(-1):=zj hr (lw P)
 exact⟨rfl,ax⟩
def jV (c:List aF) (p1c0i0:aF) (p1c0i1:Nat) (a:aM):Bool:=
 bnd (kH c p1c0i0 p1c0i1 a) λ b=>decide (b >= 0)
theorem nY (w D o p x i g1c0i0) (p1c0i0:aF) (g1c0i1 p1c0i1 d e) (a:aM) (c b y) (H:Own w D w [blk g1c0i0 (aF.cells p1c0i0) 118,blk g1c0i1 [.int .u64 ((p1c0i1:Nat):Int)] 32,blk d [.func (.func 169) #[] #[.pointer (some ⟨g1c0i0,0,none⟩), .pointer (some ⟨g1c0i1,0,none⟩)]] 153,blk e [.int .u64 ((a.au:Nat):Int), .slice c a.aG.ls.length b, .bool a.bn, .string ⟨v0 a.bg.aA.aN⟩, .string ⟨v0 a.bg.aA.aT⟩, .bool a.bg.eU] 164]) (r:Ro w D λ w'=>bO w' 3 o p (q2 aF.cells i)) (s:p=i.length) (A:i.length<=9223372036854775807) (f:Ro w D λ w'=>bO w' 3 c a.aG.ls.length (q2 aF.cells a.aG.ls)) (k:a.aG.ls.length<=b/\a.aG.ls.length<=9223372036854775807) (hr:jV i p1c0i0 p1c0i1 a=y):
    Calls u9 115 #[.slice o p x, .func (.func 119) #[] #[vP d 0,vP e 0]] w (dI λ v w'=>v= .bool y/\Own w D w' [blk g1c0i0 (aF.cells p1c0i0) 118,blk g1c0i1 [vU p1c0i1] 32,blk d [.func (.func 169) #[] #[vP g1c0i0 0,vP g1c0i1 0]] 153,blk e [vU a.au, .slice c a.aG.ls.length b, .bool a.bn, .string ⟨v0 a.bg.aA.aN⟩, .string ⟨v0 a.bg.aA.aT⟩, .bool a.bg.eU] 164]):=by
 unfold jV at hr
 subst s
 refine cb Tryz.func115 ?_
 refine sr (Ar rfl (Mz rfl (Mz rfl ?_)))
 obtain⟨j,g⟩:∃ q,kH i p1c0i0 p1c0i1 a=q:=⟨_,rfl⟩
 obtain⟨B,l,h,m,z⟩:=Jp H
 refine cl Tryz.call168 (oK _ _ o i.length x i g1c0i0 p1c0i0 g1c0i1 p1c0i1 d e a c b j l (h _ r) rfl e8 (h _ f) e8 g) ?_
 rintro _ C ⟨rfl,n⟩
 have t:=m _ _ n
 refine Kz (.bool (decide (j >= 0))) (An rfl (rt (rs ?_)))
 have u:=t.pf []
 obtain rfl:=zj hr zq1
 exact⟨rfl,u⟩
def gz (e:Nat) (f:aF):List aM->List Nat->(List Nat)
  | [],b=>b
  | a::c,b=>bnd (jV a.aG.ls f e (aM.mk a.au (Ll.mk a.aG.ls) a.bn a.bg)) λ d=>if d=true then gz e f c (b++ [a.au]) else gz e f c b
def dX (a:aW) (b:Nat) (c:aF):(List Nat):=
 bnd (gz b c a.ai.ls []) λ sLrL=>sLrL
theorem qj (w D Q) (f:aW) (g h p r) (l:aF) (r0) (H:Own w D w [blk Q [.slice g f.ai.ls.length h] 114]) (u:s1 ay.abs p=f.ai.ls) (n:Ro w D λ w'=>bO w' 6 g f.ai.ls.length (q2 ay.cells p)) (aj:f.ai.ls.length<=h/\f.ai.ls.length<=9223372036854775807) (o:∀ x ∈ p,Ro w D (λ w'=>bO w' 3 x.aG.A x.aG.ls.length (q2 aF.cells x.aG.ls))/\(x.aG.ls.length<=x.aG.c/\x.aG.ls.length<=9223372036854775807)) (bg:f.ai.ls.length<=1000000) (hr:dX f r l=r0):
    Calls u9 71 #[vP Q 0,vU r, .agg (aF.cells l).toArray] w (dI λ v w'=> ∃ B0 b0,v= .slice B0 r0.length b0/\Own w D w' [row B0 r0.length b0 (q2 (eN .u64) r0) 32 1,blk Q [.slice g f.ai.ls.length h] 114]):=by
 unfold dX at hr
 have ai:=aY u
 refine cb Tryz.func71 ?_
 refine sr ?_
 refine bW (aF.cells l) 118 H ?_
 intro bi bn R
 refine Ar rfl (Mz rfl (La (aF.cells l) R 0 N6 N7 ?_))
 refine WL.do rfl (IB Tryz.call118 rfl ?_ (λ _ _ k=>k))
 refine cb Tryz.func118 ?_
 refine sr ?_
 refine bW [vU r] 32 R ?_
 intro z bq ak
 refine bW (aF.cells l) 118 ak ?_
 intro B bu au
 refine Ar rfl (Kz (.func (.func 169) #[] #[vP B 0,vP z 0]) (An rfl (rt (rs ?_))))
 refine bW [.nilFunc] 153 au ?_
 intro C bv av
 refine cu [.func (.func 169) #[] #[vP B 0,vP z 0]] 0 av Tryz.sizeOf153 ?_
 intro ax az
 refine nt (H7 ?_)
 have S:=az.px [] [3] []
 refine H8 (An rfl (H7 (sr (Mz rfl (Kz (vP Q 0) (Kz (vP Q 0) (Lz (.slice g f.ai.ls.length h) S 3 N5 (Kz (vJ f.ai.ls.length) (Mn rfl (bo ?_))))))))))
 have aA:Own w D ax (row none 0 0 (q2 (eN .u64) []) 32 1::_):=S.free (bZ 32 1)
 have aB:=aA.pb [0]
 obtain⟨aC,t⟩:=vQ λ E (F:Nat) d (b:Nat) w'=>Own w D w' [blk C [.func (.func 169) #[] #[vP B 0,vP z 0]] 153,blk B (aF.cells l) 118,blk z [vU r] 32,blk Q [.slice g f.ai.ls.length h] 114,row E d.length F (q2 (eN .u64) d) 32 1]/\b<=f.ai.ls.length/\d.length<=b/\gz r l f.ai.ls []=gz r l (s0 b f.ai.ls) d
 refine y6 (λ i:(Option Addr) × Nat × (List Nat) × Nat=> [(8, .slice i.1 i.2.2.1.length i.2.1),(19,vJ i.2.2.2),(18,vJ f.ai.ls.length),(17, .slice g f.ai.ls.length h),(7,vP C 0),(6, .slice none 0 0)]) aC (λ i=>f.ai.ls.length - i.2.2.2) (none,0, [],0) ⟨rfl,rfl,rfl,rfl,rfl,rfl,trivial⟩ (t.2 ⟨aB,(show 0<=f.ai.ls.length/\0<=0/\gz r l f.ai.ls []=gz r l (s0 0 f.ai.ls) [] from ⟨e8,e8,rfl⟩)⟩) ?_
 rintro ⟨E,F,d,b⟩ bz T
 show Wp _ _ _ [(8, .slice E d.length F),(19,vJ b),(18,vJ f.ai.ls.length),(17, .slice g f.ai.ls.length h),(7,vP C 0),(6, .slice none 0 0)] _ _
 obtain⟨G,aU,aV,I⟩:=t.1 T
 refine sr (Kz (.bool (decide ((b:Int) < (f.ai.ls.length:Int)))) (nt (H7 ?_)))
 by_cases U:(b:Int) < (f.ai.ls.length:Int)
 obtain⟨a,j⟩:=dG (ls:=p) (i:=b) ay.len f5 (G.ro n) f2
 have V:=fO u j
 have aX:=(o _ (D4 j)).2
 have M:=drop_at V
 refine jT (dT U) (sk (H7 (bo (sr (fw (.pointer (some ⟨ab g,ao g+b *6,none⟩)) (Im (jk) rfl rfl ((G.ro n).addr (i:=b) e8) e8) (fw (.agg (ay.cells a).toArray) (Il rfl (Io (cs:=(ay.cells a)) N3 N4 ((G.ro n).elem ay.len j f5))) ?_))))))
 refine bW [.int .u64 0, .slice none 0 0, .bool false, .string ⟨v0 []⟩, .string ⟨v0 []⟩, .bool false] 164 G ?_
 intro L bA aD
 refine cu (ay.cells a) 0 aD N4 ?_
 intro bB W
 refine ns (Kz (vP L 1) (Lz (.slice a.aG.A a.aG.ls.length a.aG.c) W 0 N8 (Kz (.func (.func 119) #[] #[vP C 0,vP L 0]) ?_)))
 have aG:=W.pf [2,3,1]
 obtain⟨X,J⟩:∃ q,jV a.aG.ls l r (aM.mk a.au (Ll.mk a.aG.ls) a.bn a.bg)=q:=⟨_,rfl⟩
 obtain⟨bC,Y,N,Z,aZ⟩:=Jp aG
 refine cl Tryz.call115 (nY _ _ a.aG.A a.aG.ls.length a.aG.c a.aG.ls B l z r C L (aM.mk a.au (Ll.mk a.aG.ls) a.bn a.bg) a.aG.A a.aG.c X Y (N _ (o _ (D4 j)).1) rfl e8 (N _ (o _ (D4 j)).1) e8 J) ?_
 rintro _ bD ⟨rfl,aa⟩
 have O:=Z _ _ aa
 refine nt ?_
 rcases Lr (X) with K | K
 refine jT K (H8 (Mz rfl (Kz (vP L 0) (Lz (vU a.au) O 3 E1 ?_))))
 refine jN [vU a.au] 32 1 1 O ?_
 intro aH bE P
 replace P:=IL (y:=row aH 1 1 (q2 (eN .u64) ([a.au])) 32 1) rfl P
 have af:=P.pf [6]
 refine WL.do rfl (IC (k:=d.length) (m:=1) (iH) af rfl rfl (eY Tryz.underlying35 (af.rds (i:=1) rfl) (cZ mi ([a.au]))) rfl e8 (s:=List.length (d++ [a.au])) f3 (List.flatMap_append).symm ?_)
 intro aI aJ bF aK
 have bf:List.length (d++ [a.au])=d.length+1:=by simp only [List.length_append,List.length_cons,List.length_nil]
 refine Az rfl (B6 (bN (Ib ?_)))
 have aL:=aK.px [] [1,5] []
 refine H8 (fw (vJ (b+1)) (Ig (e:=B5.wrap ((b:Int)+1)) yk f1) (Mz rfl (B6 ?_)))
 have aN:=aL.px [3] [] [0]
 exact Iq (aI,aJ,(d++ [a.au]),b+1) ⟨rfl,rfl,rfl,rfl,rfl,rfl,trivial⟩ (t.2 ⟨aN,e8,e8,et (I) (et (congrArg (λ q=>gz r l q d) M) (et (ae J) (ip K)))⟩) (by show f.ai.ls.length - (b+1) < f.ai.ls.length - b; omega)
 refine jF K (IG (bN (Ib ?_)))
 have aO:=O.px [] [3] []
 refine H8 (fw (vJ (b+1)) (Ig (e:=B5.wrap ((b:Int)+1)) yk f1) (Mz rfl (B6 ?_)))
 have aP:=aO.pf [2]
 exact Iq (E,F,d,b+1) ⟨rfl,rfl,rfl,rfl,rfl,rfl,trivial⟩ (t.2 ⟨aP,e8,e8,et (I) (et (congrArg (λ q=>gz r l q d) M) (et (ae J) (eF K)))⟩) (by show f.ai.ls.length - (b+1) < f.ai.ls.length - b; omega)
 refine jF (dF U) (B7 (Ip ?_))
 have ag:gz r l f.ai.ls []=d:=et (I) (et (congrArg (λ q=>gz r l q d) (eX (ls:=f.ai.ls) (i:=b) e8)) rfl)
 refine Ip (Iz (Ib (H7 ?_)))
 have aQ:=G.pk [3,4]
 refine H8 (Mz rfl (An rfl (rt (rs ?_))))
 have aR:=aQ.pb [0]
 obtain rfl:=zj hr zq1
 exact⟨E,F,rfl,aR⟩
structure lS where
 aU:Nat
 nL:aF
def lS.cells (x:lS):List Value:= [.int .u64 ((x.aU:Nat):Int), .string ⟨v0 x.nL.aA.aN⟩, .string ⟨v0 x.nL.aA.aT⟩, .bool x.nL.eU]
instance:Bk lS:=⟨λ x _=>bk x.aU+(bk x.nL+(0))⟩
theorem lS.len:∀ x,(lS.cells x).length=4:=λ _=>rfl
theorem lS.one:∀ x, ∀ u ∈ lS.cells x,u.oneCell'=true:=λ x u hu=>by
 simp only [lS.cells,u3,v1,or_false] at hu
 rcases hu with rfl | rfl | rfl | rfl <;> rfl
def Lf (w:World) (x:lS):Prop:=(x.aU<=18446744073709551615)/\(JG w x.nL)
instance:Inhabited lS:=⟨⟨default,default⟩⟩
def gP (d:aW):List aM->Unit ⊕ (lS × Bool)
  | []=>y0 ()
  | a::b=>if a.bn=true then bnd (dX d a.au a.bg) λ c=>if(c.length:Int)=0 then y3 (lS.mk a.au a.bg,true) else gP d b else gP d b
def kv (a:aW):lS × Bool:=
 lp (gP a a.ai.ls) λ _=>(lS.mk 0 (aF.mk (aj.mk [] []) false),false)
theorem vW (w D E) (f:aW) (g h l) (r0:lS) (r1) (H:Own w D w [blk E [.slice g f.ai.ls.length h] 114]) (n:s1 ay.abs l=f.ai.ls) (j:Ro w D λ w'=>bO w' 6 g f.ai.ls.length (q2 ay.cells l)) (W:f.ai.ls.length<=h/\f.ai.ls.length<=9223372036854775807) (o:∀ x ∈ l,Ro w D (λ w'=>bO w' 3 x.aG.A x.aG.ls.length (q2 aF.cells x.aG.ls))/\(x.aG.ls.length<=x.aG.c/\x.aG.ls.length<=9223372036854775807)) (aI:f.ai.ls.length<=1000000) (hr:kv f=(r0,r1)):
    Calls u9 121 #[vP E 0] w (dI λ v w'=>v= .tuple #[.agg (lS.cells r0).toArray, .bool r1]/\Own w D w' [blk E [.slice g f.ai.ls.length h] 114]):=by
 have V:=aY n
 refine cb Tryz.func121 ?_
 refine sr ?_
 refine bW [.int .u64 0, .string ⟨v0 []⟩, .string ⟨v0 []⟩, .bool false] 194 H ?_
 intro I aJ L
 refine An rfl (H7 (sr (Mz rfl (Kz (vP E 0) (Kz (vP E 0) (Lz (.slice g f.ai.ls.length h) L 1 N5 (Kz (vJ f.ai.ls.length) (Mn rfl (bo ?_)))))))))
 have X:=L.pf []
 obtain⟨Y,p⟩:=mI λ (d:Nat) w'=>Own w D w' [blk I [.int .u64 0, .string ⟨v0 []⟩, .string ⟨v0 []⟩, .bool false] 194,blk E [.slice g f.ai.ls.length h] 114]/\d<=f.ai.ls.length/\gP f f.ai.ls=gP f (s0 d f.ai.ls)
 refine y6 (λ i:Nat=> [(3, .bool false),(11,vJ i),(10,vJ f.ai.ls.length),(9, .slice g f.ai.ls.length h),(2,vP I 0),(0,vP E 0)]) Y (λ i=>f.ai.ls.length - i) 0 ⟨rfl,rfl,rfl,rfl,rfl,rfl,trivial⟩ (p.2 ⟨X,e8,rfl⟩) ?_
 rintro d aK M
 show Wp _ _ _ [(3, .bool false),(11,vJ d),(10,vJ f.ai.ls.length),(9, .slice g f.ai.ls.length h),(2,vP I 0),(0,vP E 0)] _ _
 obtain⟨s,aA,r⟩:=p.1 M
 refine sr (Kz (.bool (decide ((d:Int) < (f.ai.ls.length:Int)))) (nt (H7 ?_)))
 by_cases N:(d:Int) < (f.ai.ls.length:Int)
 obtain⟨a,t⟩:=dG (ls:=l) (i:=d) ay.len f5 (s.ro j) f2
 have O:=fO n t
 have aB:=(o _ (D4 t)).2
 have u:=drop_at O
 refine jT (dT N) (sk (H7 (bo (sr (fw (.pointer (some ⟨ab g,ao g+d *6,none⟩)) (Im (jk) rfl rfl ((s.ro j).addr (i:=d) e8) e8) (fw (.agg (ay.cells a).toArray) (Il rfl (Io (cs:=(ay.cells a)) N3 N4 ((s.ro j).elem ay.len t f5))) ?_))))))
 refine bW [.int .u64 0, .slice none 0 0, .bool false, .string ⟨v0 []⟩, .string ⟨v0 []⟩, .bool false] 164 s ?_
 intro y aL Z
 refine cu (ay.cells a) 0 Z N4 ?_
 intro aM z
 refine ns (Kz (vP y 2) (Lz (.bool a.bn) z 0 H2 (Mz rfl ?_)))
 rcases Lr (a.bn) with b | b
 refine IQ (v:=vP E 0) rfl rfl b rfl (Ie rfl) (Gz (vP y 0) b (Gl (vU a.au) b z 0 E1 (Gz (vP y 3) b (Ga (aF.cells a.bg) b z 0 N6 N7 ?_))))
 have aa:=z.pf [2]
 obtain⟨B,C⟩:∃ q,dX f a.au a.bg=q:=⟨_,rfl⟩
 obtain⟨aN,P,G,Q,aC⟩:=IE aa
 refine I9 rfl rfl b rfl (IB Tryz.call71 rfl (qj _ _ E f g h l a.au a.bg B P n (G _ j) e8 (λ x9 h9=>⟨G _ (o x9 h9).1,(o x9 h9).2⟩) f9 C) ?_)
 rintro _ aO ⟨aP,aQ,rfl,R⟩
 have J:=Q _ _ R
 have aH:=J.rowC (i:=0) rfl
 refine Gz (vJ B.length) b (Gz (.bool (decide ((B.length:Int)=0))) b (fw (.bool (decide ((B.length:Int)=0))) (Ic rfl b rfl) (nt ?_)))
 by_cases F:(B.length:Int)=0
 refine jT (dT F) (H7 ?_)
 have K:=J.pk [1,2,3]
 refine H8 (Kz (vP y 0) (Lz (vU a.au) K 1 E1 (Kz (vP y 3) (La (aF.cells a.bg) K 1 N6 N7 (Kz (.agg #[vU a.au, .string ⟨v0 a.bg.aA.aN⟩, .string ⟨v0 a.bg.aA.aT⟩, .bool a.bg.eU]) ?_)))))
 have af:=K.pf [2]
 refine cu [vU a.au, .string ⟨v0 a.bg.aA.aN⟩, .string ⟨v0 a.bg.aA.aT⟩, .bool a.bg.eU] 0 af N9 ?_
 intro aR S
 refine An rfl (rt (bR (tR (tR (bR (tR (Ir (gq (vs:= [.agg #[vU a.au, .string ⟨v0 a.bg.aA.aN⟩, .string ⟨v0 a.bg.aA.aT⟩, .bool a.bg.eU], .bool true]) rfl (bT.cell rfl (Io (cs:= [vU a.au, .string ⟨v0 a.bg.aA.aN⟩, .string ⟨v0 a.bg.aA.aT⟩, .bool a.bg.eU]) Tryz.isAgg194 N9 ((S.cls (i:=0) rfl).lit (k:=0) (m:=4) rfl)) (bT.tmp rfl bT.nil)) (Lh rfl)) ?_)))))))
 have ag:=S.pk [1]
 obtain⟨rfl,rfl⟩:=fB (zj hr (show _=(lS.mk a.au a.bg,true) from iG (et (r) (et (congrArg (λ q=>gP f q) u) (et (ip b) (et (ae C) (ip F)))))))
 exact⟨rfl,ag⟩
 refine jF (dF F) (IG (bN (Ib ?_)))
 have ah:=J.pk [1,3]
 refine H8 (fw (vJ (d+1)) (Ig (e:=B5.wrap ((d:Int)+1)) yk f1) (Mz rfl (B6 ?_)))
 have ai:=ah.pb [0]
 exact Iq (d+1) ⟨rfl,rfl,rfl,rfl,rfl,rfl,trivial⟩ (p.2 ⟨ai,e8,et (r) (et (congrArg (λ q=>gP f q) u) (et (ip b) (et (ae C) (iN F))))⟩) (by show f.ai.ls.length - (d+1) < f.ai.ls.length - d; omega)
 refine Sz b (Sz b (Sz b (Sz b (Sz b (Sz b (Sz b (Sz b (fw (.bool false) (H6 rfl b rfl) (nt (jf (IG (bN (Ib ?_)))))))))))))
 have ak:=z.pk [1,2]
 refine H8 (fw (vJ (d+1)) (Ig (e:=B5.wrap ((d:Int)+1)) yk f1) (Mz rfl (B6 ?_)))
 have au:=ak.pf []
 exact Iq (d+1) ⟨rfl,rfl,rfl,rfl,rfl,rfl,trivial⟩ (p.2 ⟨au,e8,et (r) (et (congrArg (λ q=>gP f q) u) (eF b))⟩) (by show f.ai.ls.length - (d+1) < f.ai.ls.length - d; omega)
 refine jF (dF N) (B7 (Ip ?_))
 have T:gP f f.ai.ls=y0 ():=et (r) (et (congrArg (λ q=>gP f q) (eX (ls:=f.ai.ls) (i:=d) e8)) rfl)
 refine Ip (Iz (Ib (sr (Kz (.agg #[.int .u64 0, .string ⟨v0 []⟩, .string ⟨v0 []⟩, .bool false]) ?_))))
 refine cu [.int .u64 0, .string ⟨v0 []⟩, .string ⟨v0 []⟩, .bool false] 0 s N9 ?_
 intro aS U
 refine An rfl (rt (Ir (gq (vs:= [.agg #[.int .u64 0, .string ⟨v0 []⟩, .string ⟨v0 []⟩, .bool false], .bool false]) rfl (bT.cell rfl (Io (cs:= [.int .u64 0, .string ⟨v0 []⟩, .string ⟨v0 []⟩, .bool false]) Tryz.isAgg194 N9 ((U.cls (i:=0) rfl).lit (k:=0) (m:=4) rfl)) (bT.tmp rfl bT.nil)) (Lh rfl)) ?_))
 have av:=U.pk [1]
 obtain⟨rfl,rfl⟩:=fB (zj hr (show _=(lS.mk 0 (aF.mk (aj.mk [] []) false),false) from lw T))
 exact⟨rfl,av⟩
end
section
open Go.RowKit
def kZ (a:List ay) (b:Int) (c:Int):(List ay):=
 if b=c then a else(List.take (Int.toNat b) a++List.drop (Int.toNat c) a)
theorem pE (w D g p d a c b l) (H:Own w D w [row g p d (List.flatMap ay.cells a) 164 6]) (q:p=a.length) (K:a.length *80<=211106232532992) (M:0<=c/\c<=b/\b<=((a.length:Nat):Int)) (hr:kZ a c b=l):
    Calls Tryz.prog 170 #[.slice g p d,vI c,vI b] w (dI λ v w'=> ∃ C E,v= .slice C l.length E/\Own w D w' [row C l.length E (List.flatMap ay.cells l) 164 6]/\(l.length<=a.length)):=by
 unfold kZ at hr
 subst q
 have N:=H.rowC (i:=0) rfl
 refine cb Tryz.func170 ?_
 refine sr (Ar rfl (Mz rfl (fw (vJ (Int.toNat c)) (Ig (e:=c) (Ie rfl) e8) (fw (vJ (Int.toNat b)) (Ig (e:=b) (Ie rfl) e8) (Mz rfl (Kz (vJ a.length) (fw (.slice (eO g (Int.toNat c) 6 a.length) ((Int.toNat b) - (Int.toNat c)) (a.length - (Int.toNat c))) (JB (jk) rfl rfl rfl rfl e8 e8 e8) (nt (H7 (sr (Mz rfl (Mz rfl (Kz (.bool (decide (c=b))) (nt ?_))))))))))))))
 by_cases j:c=b
 refine jT (dT j) (sr (Mz rfl (An rfl (rt (tR (rs ?_))))))
 have r:=H.pf []
 obtain rfl:=zj hr zq1
 exact⟨g,d,rfl,r,e8⟩
 refine jF (dF j) (sk (sr (Mz rfl (Kz (vJ a.length) (An rfl (H7 ?_))))))
 have h:=H.drew
 refine Jm [6] (λ W=> ∃ L',Own w D W ([row g a.length d (List.flatMap ay.cells a) 164 6]++L')) e9 e9 (Ik Iw) ⟨_,h⟩ ?_
 revert h
 generalize World.drew w=t
 intro h
 refine qv 0 rfl rfl (qt (v:=vJ (Int.toNat c)) 1 rfl (λ _ _=>Ig (e:=c) (Ie rfl) e8) (qt (v:= .slice g (Int.toNat c) d) 2 rfl (λ _ _=>I4 (jk) rfl rfl e8) (qv 3 rfl rfl (qt (v:=vJ (Int.toNat b)) 4 rfl (λ _ _=>Ig (e:=b) (Ie rfl) e8) (qt (v:= .slice (eO g (Int.toNat b) 6 d) (a.length - (Int.toNat b)) (d - (Int.toNat b))) 5 rfl (λ _ _=>II (jk) rfl rfl e8) ?_)))))
 have F:List.length (List.take (Int.toNat c) a++List.drop (Int.toNat b) a)=Int.toNat c+(a.length - Int.toNat b):=by simp only [List.length_append,List.length_take,List.length_drop]; omega
 have n:Src Tryz.prog 6 112 (.slice (eO g (Int.toNat b) 6 d) (a.length - (Int.toNat b)) (d - (Int.toNat b))) (a.length - Int.toNat b) (List.flatMap ay.cells (List.drop (Int.toNat b) a)) t:=eY Tryz.underlying112 (I7 (lo:=Int.toNat b) ay.len (h.rds (i:=0) rfl) e8 e8 f5) (cZ ay.one (List.drop (Int.toNat b) a))
 obtain⟨G,u,x⟩:=h.rowFull
 refine qd 6 rfl (Jh (k:=Int.toNat c) (m:=a.length - Int.toNat b) (jk) x rfl rfl n e8 (s:=List.length (List.take (Int.toNat c) a++List.drop (Int.toNat b) a)) e8 ?_)
 intro O o
 refine⟨.inl e9, ?_⟩
 refine IP (v:= .slice g (List.length (List.take (Int.toNat c) a++List.drop (Int.toNat b) a)) d) 7 rfl e9 (λ _=>Jc rfl) (qn (Ib (sr (Mz rfl (Mz rfl (Kz (vI ((List.length (List.take (Int.toNat c) a++List.drop (Int.toNat b) a):Nat):Int)) (Mz rfl (fw (.slice (eO g (List.length (List.take (Int.toNat c) a++List.drop (Int.toNat b) a)) 6 d) (a.length - (List.length (List.take (Int.toNat c) a++List.drop (Int.toNat b) a))) (d - (List.length (List.take (Int.toNat c) a++List.drop (Int.toNat b) a)))) (Yl.cut (jk) rfl rfl rfl e8 e8) ?_))))))))
 refine I5 (Jv (z0:=(.agg #[.int .u64 0, .slice none 0 0, .bool false, .string ⟨List.toArray []⟩, .string ⟨List.toArray []⟩, .bool false])) (lo:=List.length (List.take (Int.toNat c) a++List.drop (Int.toNat b) a)) (nd:=(a.length - (List.length (List.take (Int.toNat c) a++List.drop (Int.toNat b) a)))) e9 rfl (jk) o rfl (λ _=>gu ((o.rds (i:=0) rfl).isSome e8) e8) e8 ?_)
 intro y I J z
 refine ns (Mz rfl (An rfl (rt (rs ?_))))
 have A:Own w D y [row g (List.length (List.take (Int.toNat c) a++List.drop (Int.toNat b) a)) d (List.flatMap ay.cells (List.take (Int.toNat c) a++List.drop (Int.toNat b) a)) 164 6]:=z.rowPart e8 (rY ay.len e8 e8 rfl)
 have B:=A.pf []
 obtain rfl:=zj hr zq1
 exact⟨g,d,rfl,B,e8⟩
def lg (a:List ay) (b:Int) (c:ay):(List ay):=
 if((Int.toNat b:Nat):Int)=(a.length:Int) then(a++ [c]) else(List.take (Int.toNat b) a++(c::List.drop (Int.toNat b) a))
theorem pF (w D g F d b a E) (c:ay) (z) (H:Own w D w [row g F d (List.flatMap ay.cells b) 164 6,lN E 1 (List.flatMap ay.cells ([c])) 164 6]) (G:F=b.length) (ai:b.length *80<=211106232532992) (aj:0<=a/\a<=((b.length:Nat):Int)/\(b.length+1) *80<=211106232532992) (hr:lg b a c=z):
    Calls Tryz.prog 123 #[.slice g F d,vI a, .slice E 1 1] w (dI λ v w'=> ∃ Z b0,v= .slice Z z.length b0/\Own w D w' [row Z z.length b0 (List.flatMap ay.cells z) 164 6]/\(z.length=b.length+1)):=by
 unfold lg at hr
 subst G
 have ak:=H.rowC (i:=0) rfl
 refine cb Tryz.func123 ?_
 refine sr (Ar rfl (Mz rfl (fw (vJ (Int.toNat a)) (Ig (e:=a) (Ie rfl) e8) (fw (.slice (eO g (Int.toNat a) 6 d) (b.length - (Int.toNat a)) (d - (Int.toNat a))) (II (jk) rfl rfl e8) (ns (Mz rfl (Kz (vI 1) (An rfl (H7 (sr (Mz rfl (Kz (.bool false) (nt (jf (sk (sr (Mz rfl (Kz (vJ b.length) (An rfl (H7 (sr (fw (vJ (Int.toNat a)) (Ig (e:=a) (Ie rfl) e8) ?_))))))))))))))))))))))
 refine Mz rfl (Kz (.bool (decide (((Int.toNat a:Nat):Int)=(b.length:Int)))) (nt ?_))
 by_cases j:((Int.toNat a:Nat):Int)=(b.length:Int)
 refine jT (dT j) (sr (Mz rfl (Mz rfl ?_)))
 refine WL.do rfl (IC (k:=b.length) (m:=1) (jk) H rfl rfl (eY Tryz.underlying112 (dC H (i:=1) rfl lh) (cZ ay.one ([c]))) rfl e8 (s:=List.length (b++ [c])) f3 (List.flatMap_append).symm ?_)
 intro I J au K
 have ae:List.length (b++ [c])=b.length+1:=by simp only [List.length_append,List.length_cons,List.length_nil]
 refine An rfl (rt (tR (rs ?_)))
 have M:=K.pk [0]
 obtain rfl:=zj hr zq1
 exact⟨I,J,rfl,M,e8⟩
 refine jF (dF j) (sk (H7 (sr (Mz rfl (Mz rfl (fw (vJ (b.length+1)) (Ig (e:=IntKind.i64.wrap ((b.length:Int)+1)) yk f1) (Mz rfl (Kz (vJ d) (Kz (.bool (decide (((b.length+1:Nat):Int) > (d:Int)))) (nt ?_))))))))))
 by_cases A:((b.length+1:Nat):Int) > (d:Int)
 refine jT (dT A) (sr (Mz rfl (fw (vJ (Int.toNat a)) (Ig (e:=a) (Ie rfl) e8) (fw (.slice g (Int.toNat a) d) (I4 (jk) rfl rfl e8) (Mz rfl (Mz rfl (fw (vJ (b.length+1)) (Ig (e:=IntKind.i64.wrap ((b.length:Int)+1)) yk f1) (fw (vJ (Int.toNat a)) (Ig (e:=a) (Ie rfl) e8) (fw (vJ ((b.length+1) - (Int.toNat a))) (Ig (e:=IntKind.i64.wrap (((b.length+1:Nat):Int) - ((Int.toNat a:Nat):Int))) yk f1) ?_)))))))))
 have af:List.length (List.take (Int.toNat a) b++(c::List.drop (Int.toNat a) b))=b.length+1:=by simp only [List.length_append,List.length_take,List.length_cons,List.length_drop]; omega
 refine WL.do rfl (Jg (k:=Int.toNat a) (m:=(b.length+1) - (Int.toNat a)) (jk) Tryz.underlying3 H rfl rfl e8 e8 e8 rfl e8 (s:=List.length (List.take (Int.toNat a) b++(c::List.drop (Int.toNat a) b))) e8 ?_)
 intro n h ag av B o
 have N:=o.rowLe (i:=0) rfl
 refine Ar rfl (Mz rfl (fw (vJ (Int.toNat a)) (Ig (e:=a) (Ie rfl) e8) (fw (.slice (eO n (Int.toNat a) 6 h) ((List.length (List.take (Int.toNat a) b++(c::List.drop (Int.toNat a) b))) - (Int.toNat a)) (h - (Int.toNat a))) (II (jk) rfl rfl e8) (Mz rfl ?_))))
 refine WL.do rfl (IY (lo:=Int.toNat a) (k:=1) (jk) o rfl (λ _=>gu ((o.rds (i:=0) rfl).isSome e8) e8) e8 rfl (dC o (i:=2) rfl lh) e8 (λ u hu=>cZ ay.one _ u (List.mem_of_mem_take hu)) rfl ?_)
 intro ax O
 refine nt (H7 ?_)
 refine yw [8] (Ik (Ik Iw)) O ?_
 intro az p
 refine qv 0 rfl rfl (qt (v:=vJ (Int.toNat a)) 1 rfl (λ _ _=>Ig (e:=a) (Ie rfl) e8) (qv 2 rfl rfl (qt (v:=vJ (Int.toNat a+1)) 3 rfl (λ _ _=>Ig (e:=IntKind.i64.wrap (((Int.toNat a:Nat):Int)+1)) yk f1) (qt (v:= .slice (eO n (Int.toNat a+1) 6 h) ((List.length (List.take (Int.toNat a) b++(c::List.drop (Int.toNat a) b))) - (Int.toNat a+1)) (h - (Int.toNat a+1))) 4 rfl (λ _ _=>II (jk) rfl rfl e8) (qv 5 rfl rfl (qt (v:=vJ (Int.toNat a)) 6 rfl (λ _ _=>Ig (e:=a) (Ie rfl) e8) (qt (v:= .slice (eO g (Int.toNat a) 6 d) (b.length - (Int.toNat a)) (d - (Int.toNat a))) 7 rfl (λ _ _=>II (jk) rfl rfl e8) ?_)))))))
 refine qd 8 rfl (IY (lo:=Int.toNat a+1) (k:=b.length - Int.toNat a) (jk) p rfl (λ _=>gu ((p.rds (i:=0) rfl).isSome e8) e8) e8 rfl (I7 (lo:=Int.toNat a) ay.len (p.rds (i:=1) rfl) e8 e8 f5) e8 (λ u hu=>cZ ay.one _ u (List.mem_of_mem_take hu)) rfl ?_)
 intro P Q
 refine⟨.inl e9, ?_⟩
 refine qn (Ib (sr (Mz rfl (An rfl (rt (tR (rs ?_)))))))
 have R:Own w D P [row n (List.length (List.take (Int.toNat a) b++(c::List.drop (Int.toNat a) b))) h (List.flatMap ay.cells (List.take (Int.toNat a) b++(c::List.drop (Int.toNat a) b))) 164 6,row g b.length d (List.flatMap ay.cells b) 164 6,lN E 1 (List.flatMap ay.cells ([c])) 164 6]:=Q.rowPart e8 (tF (l:=b) (k2:=b.length - Int.toNat a) ay.len e8 B rfl rfl e8)
 have S:=R.pk [0]
 obtain rfl:=zj hr zq1
 exact⟨n,h,rfl,S,e8⟩
 refine jF (dF A) (sk (sr ?_))
 have C:List.length (List.take (Int.toNat a) b++(c::List.drop (Int.toNat a) b))=b.length+1:=by simp only [List.length_append,List.length_take,List.length_cons,List.length_drop]; omega
 obtain⟨ah,r,T⟩:=H.rowFull
 refine Mz rfl (Mz rfl (Mz rfl (fw (vJ (b.length+1)) (Ig (e:=IntKind.i64.wrap ((b.length:Int)+1)) yk f1) (fw (.slice g (List.length (List.take (Int.toNat a) b++(c::List.drop (Int.toNat a) b))) d) (Yl.to (I4 (jk) rfl rfl e8) (congrArg (λ q=>Value.slice g q d) C.symm)) (An rfl (H7 (sr (Mz rfl (Mz rfl (fw (vJ (Int.toNat a)) (Ig (e:=a) (Ie rfl) e8) (Mz rfl (fw (vJ (Int.toNat a+1)) (Ig (e:=IntKind.i64.wrap (((Int.toNat a:Nat):Int)+1)) yk f1) (fw (.slice (eO g (Int.toNat a+1) 6 d) ((List.length (List.take (Int.toNat a) b++(c::List.drop (Int.toNat a) b))) - (Int.toNat a+1)) (d - (Int.toNat a+1))) (II (jk) rfl rfl e8) ?_)))))))))))))
 have t:=T.pb [0]
 refine fw (.bool false) (Ji (lo:=Int.toNat a+1) (run_callFunc_extern Tryz.func173 e9 e9 e9 (e:=Extern.SlicesOverlaps.overlaps #[112,112] #[4]) e9) Tryz.underlying112 Tryz.sizeOf164 t f5 e8 rfl (gu ((t.rds (i:=1) rfl).isSome e8) e8)) (Kz (.bool true) (nt (jt (H7 ?_))))
 refine oO [8] (Ik (Ik Iw)) t ?_
 intro aA U
 refine qv 0 rfl rfl (qt (v:=vJ (Int.toNat a)) 1 rfl (λ _ _=>Ig (e:=a) (Ie rfl) e8) (qv 2 rfl rfl (qt (v:=vJ (Int.toNat a+1)) 3 rfl (λ _ _=>Ig (e:=IntKind.i64.wrap (((Int.toNat a:Nat):Int)+1)) yk f1) (qt (v:= .slice (eO g (Int.toNat a+1) 6 d) ((List.length (List.take (Int.toNat a) b++(c::List.drop (Int.toNat a) b))) - (Int.toNat a+1)) (d - (Int.toNat a+1))) 4 rfl (λ _ _=>II (jk) rfl rfl e8) (qv 5 rfl rfl (qt (v:=vJ (Int.toNat a)) 6 rfl (λ _ _=>Ig (e:=a) (Ie rfl) e8) (qt (v:= .slice (eO g (Int.toNat a) 6 d) ((List.length (List.take (Int.toNat a) b++(c::List.drop (Int.toNat a) b))) - (Int.toNat a)) (d - (Int.toNat a))) 7 rfl (λ _ _=>II (jk) rfl rfl e8) ?_)))))))
 have x:=U.pb [0]
 refine qd 8 rfl (IY (lo:=Int.toNat a+1) (k:=b.length - Int.toNat a) (jk) x rfl (λ _=>gu ((x.rds (i:=0) rfl).isSome e8) e8) e8 rfl (bO.cut (lo:=Int.toNat a) (hi:=List.length (List.take (Int.toNat a) b++(c::List.drop (Int.toNat a) b))) (x.rds (i:=0) rfl) e8 e8 e8) e8 (λ u hu=>cZ ay.one _ u (by rw [tH ay.len e8 rfl e8] at hu; exact hu)) rfl ?_)
 intro aB y
 refine⟨.inl e9, ?_⟩
 refine qn (Ib (sr (Mz rfl (fw (vJ (Int.toNat a)) (Ig (e:=a) (Ie rfl) e8) (fw (.slice (eO g (Int.toNat a) 6 d) ((List.length (List.take (Int.toNat a) b++(c::List.drop (Int.toNat a) b))) - (Int.toNat a)) (d - (Int.toNat a))) (II (jk) rfl rfl e8) (Mz rfl ?_))))))
 refine WL.do rfl (IY (lo:=Int.toNat a) (k:=1) (jk) y rfl (λ _=>gu ((y.rds (i:=0) rfl).isSome e8) e8) e8 rfl (dC y (i:=1) rfl lh) e8 (λ u hu=>cZ ay.one _ u (List.mem_of_mem_take hu)) rfl ?_)
 intro V W
 refine ns (Mz rfl (An rfl (rt (tR (rs ?_)))))
 have X:Own w D V [row g (List.length (List.take (Int.toNat a) b++(c::List.drop (Int.toNat a) b))) d (List.flatMap ay.cells (List.take (Int.toNat a) b++(c::List.drop (Int.toNat a) b))) 164 6,lN E 1 (List.flatMap ay.cells ([c])) 164 6]:=W.rowPart e8 (tJ (l:=b) (m:=(List.length (List.take (Int.toNat a) b++(c::List.drop (Int.toNat a) b))) - Int.toNat a) (k2:=b.length - Int.toNat a) ay.len e8 (by rw [r]; exact Nat.le_mul_of_pos_left 6 e8) rfl rfl e8 e8)
 have Y:=X.pk [0]
 obtain rfl:=zj hr zq1
 exact⟨g,d,rfl,Y,e8⟩
end
open List renaming Perm->O0,append_assoc->q3,flatMap_append->t7,length->q7,map_append->O2,perm_append_comm->O1,take->t6,take_append_drop->s4
section
variable {α:Type} {w0 w:World} {D:Nat->Prop} {L:List HP} {f:α->List HP}
theorem Own.dropL {L1 L2:List HP} (H:Own w0 D w (L1++L2)):Own w0 D w L2:=H.to λ h hs=>by
  obtain⟨a,b,c,d,e,g,_⟩:=j4.app.1 hs
  exact d.mono g
theorem Own.sepDel {ds:List α} {i j:Nat} (h:i<=j) (H:Own w0 D w (sepL (q2 f ds)::L)):Own w0 D w (sepL (q2 f (t6 i ds++s0 j ds))::L):=by
  have e:ds=t6 i ds++(t6 (j - i) (s0 i ds)++s0 j ds):=by
    conv=>lhs; rw [<- s4 i ds]
    congr 1
    conv=>lhs; rw [<- s4 (j - i) (s0 i ds)]
    rw [List.drop_drop,show i+(j - i)=j by omega]
  rw [e,t7,t7] at H
  have a:=H.flat
  have p:((q2 f (t6 i ds)++(q2 f (t6 (j - i) (s0 i ds))++q2 f (s0 j ds)))++L).Perm (q2 f (t6 (j - i) (s0 i ds))++((q2 f (t6 i ds)++q2 f (s0 j ds))++L)):=by
    rw [<- q3, <- q3]
    refine O0.append_right L ?_
    rw [<- q3]
    exact O0.append_right _ O1
  have b:=(a.perm p).dropL
  rw [t7]
  exact b.pack
theorem Own.sepIns {ds:List α} {i:Nat} {y:α} (H:Own w0 D w (f y++(sepL (q2 f ds)::L))):Own w0 D w (sepL (q2 f (t6 i ds++(y::s0 i ds)))::L):=by
  have a:Own w0 D w (sepL (q2 f ds)::(f y++L)):=H.perm List.perm_middle
  have b:=a.flat
  have e:(q2 f ds++(f y++L)).Perm ((q2 f (t6 i ds)++(f y++q2 f (s0 i ds)))++L):=by
    conv=>lhs; rw [<- s4 i ds,t7]
    rw [<- q3]
    refine O0.append_right L ?_
    rw [q3]
    exact O0.append_left _ O1
  rw [t7,List.flatMap_cons]
  exact(b.perm e).pack
theorem nU {β:Type} {g:α->β} {ds:List α} {ls:List β} {i j:Nat} (h:s1 g ds=ls):s1 g (t6 i ds++s0 j ds)=t6 i ls++s0 j ls:=by rw [O2,List.map_take,List.map_drop,h]
theorem jJ {β:Type} {g:α->β} {ds:List α} {ls:List β} {i:Nat} {y:α} {z:β} (h:s1 g ds=ls) (hy:g y=z):s1 g (t6 i ds++(y::s0 i ds))=t6 i ls++(z::s0 i ls):=by rw [O2,List.map_cons,List.map_take,List.map_drop,h,hy]
end
theorem yH {l:List aM} {i:Nat} {x:aM} (h:Hd l) (hx:q7 x.aG.ls<=1000000):Hd (t6 i l++(x::s0 i l)):=λ r hr=>by
  rcases List.mem_append.1 hr with a | a
  . exact h r (List.mem_of_mem_take a)
  . rcases List.mem_cons.1 a with b | b
    . rw [b]; exact hx
    . exact h r (List.mem_of_mem_drop b)
theorem Ev (d:List ay) (i j:Int) (h:0<=i/\i<=j):kZ d i j=t6 (G0 i) d++s0 (G0 j) d:=by
  unfold kZ
  by_cases c:i=j
  . rw [if_pos c,c,s4]
  . rw [if_neg c]
theorem Ew (d:List ay) (i:Int) (x:ay) (h:0<=i/\i<=(q7 d:Int)):lg d i x=t6 (G0 i) d++(x::s0 (G0 i) d):=by
  unfold lg
  by_cases c:((G0 i:Nat):Int)=(d.length:Int)
  . rw [if_pos c,List.take_of_length_le e8,List.drop_eq_nil_of_le e8]
  . rw [if_neg c]
theorem Ex (w D A n c d l i j) (H:Own w D w [row A n c (q2 ay.cells d) 164 6,sepL (q2 Iy d)]) (hn:n=q7 d) (hd:s1 ay.abs d=l) (hl:q7 d<=1000000) (hh:0<=i/\i<=j/\j<=(q7 d:Int)):
    Calls Tryz.prog 170 #[.slice A n c, .int .i64 i, .int .i64 j] w (dI λ v w'=> ∃ B b,v= .slice B (q7 (t6 (G0 i) l++s0 (G0 j) l)) b/\
      Own w D w' [row B (q7 (t6 (G0 i) l++s0 (G0 j) l)) b (q2 ay.cells (t6 (G0 i) d++s0 (G0 j) d)) 164 6,sepL (q2 Iy (t6 (G0 i) d++s0 (G0 j) d))]):=by
  obtain⟨a,e,ro,bk,rr⟩:=IE H
  refine(pE w a A n c d i j _ e hn e8 hh (Ev d i j ⟨hh.1,hh.2.1⟩)).mono ?_
  rintro _ w' ⟨v,rfl,B,b,rfl,HQ,_⟩
  rw [aY (nU (i:=G0 i) (j:=G0 j) hd)] at HQ ⊢
  have g:=bk _ _ HQ
  exact⟨_,rfl,B,b,rfl,((g.perm (O0.swap _ _ _)).sepDel e8).perm (O0.swap _ _ _)⟩
theorem AX (w D A n c d i a) (y:ay) (l) (z:aM) (H:Own w D w [row A n c (q2 ay.cells d) 164 6,lN a 1 (q2 ay.cells [y]) 164 6,sepL (q2 Iy d),row y.aG.A (q7 y.aG.ls) y.aG.c (q2 aF.cells y.aG.ls) 118 3]) (hn:n=q7 d) (hd:s1 ay.abs d=l) (hz:ay.abs y=z) (hl:q7 d<=1000000) (hh:0<=i/\i<=(q7 d:Int)):
    Calls Tryz.prog 123 #[.slice A n c, .int .i64 i, .slice a 1 1] w (dI λ v w'=> ∃ B b,v= .slice B (q7 (t6 (G0 i) l++(z::s0 (G0 i) l))) b/\
      Own w D w' [row B (q7 (t6 (G0 i) l++(z::s0 (G0 i) l))) b (q2 ay.cells (t6 (G0 i) d++(y::s0 (G0 i) d))) 164 6,sepL (q2 Iy (t6 (G0 i) d++(y::s0 (G0 i) d)))]):=by
  obtain⟨e,g,ro,bk,rr⟩:=IX H
  refine(pF w e A n c d i a y _ g hn e8 ⟨hh.1,hh.2,e8⟩ (Ew d i y hh)).mono ?_
  rintro _ w' ⟨v,rfl,B,b,rfl,HQ,_⟩
  rw [aY (jJ (i:=G0 i) hd hz)] at HQ ⊢
  have h:=bk _ _ HQ
  refine⟨_,rfl,B,b,rfl, ?_⟩
  have j:Own w D w' (Iy y++(sepL (q2 Iy d):: [row B (q7 (t6 (G0 i) l++(z::s0 (G0 i) l))) b (q2 ay.cells (t6 (G0 i) d++(y::s0 (G0 i) d))) 164 6])):=
    h.perm (by
      refine(O1 (l₁:= [_]) (l₂:= [_,_])).trans ?_
      exact O1 (l₁:= [_]) (l₂:= [_]) |>.append_right [_])
  exact j.sepIns.perm (O0.swap _ _ _)
theorem j2 {p:Prop}(h:p:=by first | exact fq | exact yH fq (Lm _)):p:=h
end Go.Proofs.YtndamapfnpihpaaGreat
