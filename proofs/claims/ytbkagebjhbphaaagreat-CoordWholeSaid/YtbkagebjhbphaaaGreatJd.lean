/- The layers told, part 4. Conditions: none beyond each law's own. -/
import Derived.Test.YtbkagebjhbphaaaGreatJc
namespace Go.Proofs.YtbkagebjhbphaaaGreat
set_option maxHeartbeats 4000000
set_option maxRecDepth 100000
set_option linter.unusedVariables false
set_option linter.unusedSimpArgs false
set_option linter.unusedSectionVars false
open Int renaming toNat->C6
open IntKind renaming i64->C3,u64->C7,u8->O8
open List renaming drop->r4,flatMap->q4,flatMap_append->r5,length->s0,length_append->o2,length_cons->s1,length_map->s3,length_nil->E7,mem_of_getElem?->D1,toArray->v6
open Ll renaming mk->E0
open _root_.Go.Proofs.Tryz renaming call119->O9,call77->P0,call79->P2,func77->P1,isAgg153->J0,isAgg28->D2,isAgg3->C2,isAgg9->C0,prog->v5,sizeOf149->E3,sizeOf153->J1,underlying134->O7
open WL renaming nil->C4
open Wp renaming exit->C5,loop->C1
section
open Go.RowKit
def mW:Nat->Nat->List UInt8->Nat × (List UInt8)
  | 0,a,b=>default
  | c+1,a,b=>if(a:Int) >= 128 then mW c (a / 128) (b++ [((UInt8.ofNat a) ||| (128:UInt8))]) else(a,b)
def rO (a:Nat):(List UInt8):=
 bnd (mW (a+1) a []) λ sLrL=>(sLrL.2++ [(UInt8.ofNat sLrL.1)])
theorem vZ (w D c j) (H:Own w D w []) (t:c<=18446744073709551615) (hr:rO c=j):
    Calls v5 117 #[vU c] w (dA λ v w'=> ∃ U V,v= .slice U j.length V/\Own w D w' [row U j.length V (q4 eB j) 5 1]/\(1<=j.length/\j.length<=10)/\(c >= 128\/j.length=1)):=by
 unfold rO at hr
 refine cb Tryz.func117 ?_
 refine sr (Ar rfl ?_)
 refine WL.do rfl (KR (m:=10) (size:=1) (bytes:=1) (z:= .int .u8 0) O7 e7 H rfl rfl e6 (by unfold maxLen; omega) ?_)
 intro F ag G
 refine An rfl (Ik (bo ?_))
 have I:=G.pf []
 obtain⟨J,d⟩:=ED λ (a:Nat) l (n:Nat) b (f:Nat) w'=>Own w D w' [row l b.length n (q4 eB b) 5 1]/\lJ b.length a/\b.length<=9/\(c >= 128\/(b.length=0/\a=c))/\a < f/\mW (c+1) c []=mW f a b
 refine C1 (λ i:Nat × (Option Addr) × Nat × (List UInt8) × Nat=> [(0,vU i.1),(3, .slice i.2.1 i.2.2.2.1.length i.2.2.1),(2, .slice none 0 0)]) J (λ i=>i.2.2.2.2) (c,F,10, [],c+1) ⟨rfl,rfl,rfl,trivial⟩ (d.2 ⟨I,(show lJ (0) c/\0<=9/\(c >= 128\/(0=0/\c=c))/\c < (c+1)/\mW (c+1) c []=mW (c+1) c [] from ⟨by first | exact lJ.zero t | exact lJ.step f5 j1,by first | exact Lp _ | (have q9:=lJ.le f5 e6; simp only [o2,s1,E7]; omega),e6,e6,rfl⟩)⟩) ?_
 rintro ⟨a,l,n,b,f⟩ ai u
 obtain⟨x,W,X,Y,Z,h⟩:=d.1 u
 obtain⟨o,A⟩:∃ q,f=q+1:=⟨f - 1,e6⟩
 subst A
 refine Ik (sr (Mz rfl (Kz (.bool (decide ((a:Int) >= 128))) (nt ?_))))
 by_cases g:(a:Int) >= 128
 refine jT (dT g) (sk (bo (sr (Mz rfl (Mz rfl (fw (.int .u8 (((UInt8.ofNat a).toNat:Nat):Int)) (Ir (e:=O8.wrap (a:Int)) yk (yA _)) (fw (.int .u8 ((((UInt8.ofNat a) ||| (128:UInt8)).toNat:Nat):Int)) (Ir (e:=O8.wrap (((BitVec.ofInt 8 (((UInt8.ofNat a).toNat:Nat):Int) ||| BitVec.ofInt 8 128).toNat:Nat):Int)) yk (u8_or (UInt8.ofNat a) (128:UInt8))) ?_)))))))
 refine jV [.int .u8 ((((UInt8.ofNat a) ||| (128:UInt8)).toNat:Nat):Int)] 5 1 1 x ?_
 intro K aj p
 replace p:=IX (y:=row K 1 1 (q4 eB ([((UInt8.ofNat a) ||| (128:UInt8))])) 5 1) rfl p
 have B:=p.pb [0]
 refine WL.do rfl (IW (k:=b.length) (m:=1) (xQ) B rfl rfl (gN O7 (B.rds (i:=1) rfl) (dX xJ ([((UInt8.ofNat a) ||| (128:UInt8))]))) rfl e6 (s:=s0 (b++ [((UInt8.ofNat a) ||| (128:UInt8))])) f7 (r5).symm ?_)
 intro L M ak N
 have aa:s0 (b++ [((UInt8.ofNat a) ||| (128:UInt8))])=b.length+1:=by simp only [o2,s1,E7]
 refine An rfl (Il (Mz rfl (fw (vU (a / 128)) (Ir (e:=Int.fdiv (a:Int) 128) yk (ny _ 7 _ f2)) (Az rfl (C4 (bN ?_))))))
 have O:=N.pk [0]
 exact II (a / 128,L,M,(b++ [((UInt8.ofNat a) ||| (128:UInt8))]),o) ⟨rfl,rfl,rfl,trivial⟩ (d.2 ⟨O,by first | exact lJ.zero t | exact lJ.step f5 j1,by first | exact Lp _ | (have q9:=lJ.le f5 e6; simp only [o2,s1,E7]; omega),e6,e6,Eq.trans (h) (if_pos g)⟩) (by show o < o+1; omega)
 refine jF (dF g) (C5 (IC ?_))
 have C:mW (c+1) c []=(a,b):=et (h) (iN g)
 refine IC (IK (Iq (sr (Mz rfl (Mz rfl (fw (.int .u8 (((UInt8.ofNat a).toNat:Nat):Int)) (Ir (e:=O8.wrap (a:Int)) yk (yA _)) ?_))))))
 refine jV [.int .u8 (((UInt8.ofNat a).toNat:Nat):Int)] 5 1 1 x ?_
 intro P au r
 replace r:=IX (y:=row P 1 1 (q4 eB ([(UInt8.ofNat a)])) 5 1) rfl r
 have E:=r.pb [0]
 refine WL.do rfl (IW (k:=b.length) (m:=1) (xQ) E rfl rfl (gN O7 (E.rds (i:=1) rfl) (dX xJ ([(UInt8.ofNat a)]))) rfl e6 (s:=s0 (b++ [(UInt8.ofNat a)])) f7 (r5).symm ?_)
 intro Q R av S
 have af:s0 (b++ [(UInt8.ofNat a)])=b.length+1:=by simp only [o2,s1,E7]
 refine An rfl (rt (rs ?_))
 have T:=S.pk [0]
 obtain rfl:=zj hr zq1
 exact⟨Q,R,rfl,T,f9,f9⟩
def uV (b:List UInt8):(List UInt8):=
 bnd (rO b.length) λ a=>(a++b)
theorem zx (w D b g) (H:Own w D w []) (C:b.length<=140737488351232) (hr:uV b=g):
    Calls v5 141 #[.string ⟨v6 b⟩] w (dA λ v w'=> ∃ u x,v= .slice u g.length x/\Own w D w' [row u g.length x (q4 eB g) 5 1]/\(g.length<=b.length+10)/\(b.length >= 128\/g.length=b.length+1)):=by
 unfold uV at hr
 refine cb Tryz.func141 ?_
 refine sr (Ar rfl (Mz rfl (Kz (vJ b.length) (fw (vU b.length) (Ir (e:=C7.wrap (b.length:Int)) yk (IntWalk.u64_in _ e6)) ?_))))
 obtain⟨a,c⟩:∃ q,rO b.length=q:=⟨_,rfl⟩
 obtain⟨E,h,y,j,z⟩:=Iu H
 refine cl Tryz.call117 (vZ _ _ b.length a h e6 c) ?_
 rintro _ F ⟨G,I,rfl,l,d,f⟩
 have n:=j _ _ l
 have A:=zr 0 n
 replace d:1<=a.length/\a.length<=10:=d
 replace f:b.length >= 128\/a.length=1:=f
 refine Mz rfl ?_
 refine WL.do rfl (IW (k:=a.length) (m:=b.length) (xQ) n rfl rfl (Fb Tryz.underlying9 rfl) rfl e6 (s:=s0 (a++b)) f7 (r5).symm ?_)
 intro o p J r
 have B:s0 (a++b)=a.length+b.length:=by simp only [o2,s1,E7]
 refine An rfl (rt (rs ?_))
 have t:=r.pf []
 obtain rfl:=zj hr zq1
 exact⟨o,p,rfl,t,f9,f9⟩
def bS (b:dz) (c:Nat):dz:=
 bnd (rO c) λ a=>dz.mk (E0 (b.xb.ls++a))
theorem dJ (w D g) (b:dz) (c d p) (r:dz) (H:Own w D w [blk g [.slice c b.xb.ls.length d] 159,row c b.xb.ls.length d (q4 eB b.xb.ls) 5 1]) (O:b.xb.ls.length<=9000000000/\p<=18446744073709551615) (hr:bS b p=r):
    Calls v5 79 #[vP g 0,vU p] w (dA λ v w'=> ∃ e f,v= .tuple #[]/\Own w D w' [blk g [.slice e r.xb.ls.length f] 159,row e r.xb.ls.length f (q4 eB r.xb.ls) 5 1]/\(r.xb.ls.length<=b.xb.ls.length+10)):=by
 unfold bS at hr
 have E:=zr 1 H
 refine cb Tryz.func79 ?_
 have h:=H.drew
 refine Jr [7,10] (λ W=> ∃ L',Own w D W ([blk g [.slice c b.xb.ls.length d] 159,row c b.xb.ls.length d (q4 eB b.xb.ls) 5 1]++L')) e7 e7 IQ ⟨_,h⟩ ?_
 revert h
 generalize World.drew w=P
 intro h
 refine I4 (v:=vP g 0) 0 rfl e7 (λ _=>IA rfl) (qv 1 rfl rfl (qp g 0 2 rfl (qp g 0 3 rfl (ql 4 rfl 0 Tryz.isAgg134 rfl rfl rfl (qv 5 rfl rfl ?_)))))
 obtain⟨a,j⟩:∃ q,rO p=q:=⟨_,rfl⟩
 obtain⟨Q,t,K,u,L⟩:=Iu h
 refine qd 6 rfl (IP Tryz.call117 rfl (vZ _ _ p a t e6 j) ?_)
 rintro _ R ⟨S,T,rfl,x,l,n⟩
 have y:=u _ _ x
 have M:=zr 0 y
 replace l:1<=a.length/\a.length<=10:=l
 replace n:p >= 128\/a.length=1:=n
 have z:=y.pb [0]
 refine⟨.inr ⟨_,z⟩, ?_⟩
 have A:=z.pf [1]
 refine qd 7 rfl (IW (k:=b.xb.ls.length) (m:=a.length) (xQ) A rfl rfl (gN O7 (A.rds (i:=2) rfl) (dX xJ a)) rfl e6 (s:=s0 (b.xb.ls++a)) f7 (r5).symm ?_)
 intro B C U F
 have N:s0 (b.xb.ls++a)=b.xb.ls.length+a.length:=by simp only [o2,s1,E7]
 refine⟨.inl e7, ?_⟩
 refine I4 (v:=vP g 0) 8 rfl e7 (λ _=>yk) (I4 (v:=vP g 0) 9 rfl e7 (λ _=>yk) ?_)
 have G:=F.pf [1]
 refine qe 10 rfl (Do.store (vs:= [.slice B (s0 (b.xb.ls++a)) C]) (o:=0) G rfl rfl Tryz.sizeOf134 rfl rfl rfl rfl ?_)
 intro V I
 refine⟨.inl e7, ?_⟩
 refine qn (IL (res0 rfl) ?_)
 have J:=I.pk [0,1]
 obtain rfl:=zj hr zq1
 exact⟨B,C,rfl,J,f9⟩
def iE (b:dz) (c:List UInt8):dz:=
 bnd (uV c) λ a=>dz.mk (E0 (b.xb.ls++a))
theorem kW (w D g) (b:dz) (c d j) (r:dz) (H:Own w D w [blk g [.slice c b.xb.ls.length d] 159,row c b.xb.ls.length d (q4 eB b.xb.ls) 5 1]) (O:b.xb.ls.length<=9000000000/\j.length<=16) (hr:iE b j=r):
    Calls v5 119 #[vP g 0, .string ⟨v6 j⟩] w (dA λ v w'=> ∃ e f,v= .tuple #[]/\Own w D w' [blk g [.slice e r.xb.ls.length f] 159,row e r.xb.ls.length f (q4 eB r.xb.ls) 5 1]/\(r.xb.ls.length<=b.xb.ls.length+26)):=by
 unfold iE at hr
 have E:=zr 1 H
 refine cb Tryz.func119 ?_
 have h:=H.drew
 refine Jr [7,10] (λ W=> ∃ L',Own w D W ([blk g [.slice c b.xb.ls.length d] 159,row c b.xb.ls.length d (q4 eB b.xb.ls) 5 1]++L')) e7 e7 IQ ⟨_,h⟩ ?_
 revert h
 generalize World.drew w=P
 intro h
 refine I4 (v:=vP g 0) 0 rfl e7 (λ _=>IA rfl) (qv 1 rfl rfl (qp g 0 2 rfl (qp g 0 3 rfl (ql 4 rfl 0 Tryz.isAgg134 rfl rfl rfl (qv 5 rfl rfl ?_)))))
 obtain⟨a,l⟩:∃ q,uV j=q:=⟨_,rfl⟩
 obtain⟨Q,t,K,u,L⟩:=Iu h
 refine qd 6 rfl (IP Tryz.call141 rfl (zx _ _ j a t e6 l) ?_)
 rintro _ R ⟨S,T,rfl,x,n,p⟩
 have y:=u _ _ x
 have M:=zr 0 y
 replace n:a.length<=j.length+10:=n
 replace p:j.length >= 128\/a.length=j.length+1:=p
 have z:=y.pb [0]
 refine⟨.inr ⟨_,z⟩, ?_⟩
 have A:=z.pf [1]
 refine qd 7 rfl (IW (k:=b.xb.ls.length) (m:=a.length) (xQ) A rfl rfl (gN O7 (A.rds (i:=2) rfl) (dX xJ a)) rfl e6 (s:=s0 (b.xb.ls++a)) f7 (r5).symm ?_)
 intro B C U F
 have N:s0 (b.xb.ls++a)=b.xb.ls.length+a.length:=by simp only [o2,s1,E7]
 refine⟨.inl e7, ?_⟩
 refine I4 (v:=vP g 0) 8 rfl e7 (λ _=>yk) (I4 (v:=vP g 0) 9 rfl e7 (λ _=>yk) ?_)
 have G:=F.pf [1]
 refine qe 10 rfl (Do.store (vs:= [.slice B (s0 (b.xb.ls++a)) C]) (o:=0) G rfl rfl Tryz.sizeOf134 rfl rfl rfl rfl ?_)
 intro V I
 refine⟨.inl e7, ?_⟩
 refine qn (IL (res0 rfl) ?_)
 have J:=I.pk [0,1]
 obtain rfl:=zj hr zq1
 exact⟨B,C,rfl,J,f9⟩
def oP (d:dz) (c:aM):dz:=
 bnd (iE d c.aJ) λ a=>bnd (bS a (C6 (C7.wrap c.bE))) λ b=>b
theorem um (w D r) (h:dz) (b c) (a:aM) (s:dz) (H:Own w D w [blk r [.slice b h.xb.ls.length c] 159,row b h.xb.ls.length c (q4 eB h.xb.ls) 5 1]) (U:h.xb.ls.length<=8000000000) (V:(a.aJ.length<=12)) (hr:oP h a=s):
    Calls v5 81 #[vP r 0, .agg (aM.cells a).toArray] w (dA λ v w'=> ∃ d f,v= .tuple #[]/\Own w D w' [blk r [.slice d s.xb.ls.length f] 159,row d s.xb.ls.length f (q4 eB s.xb.ls) 5 1]/\(s.xb.ls.length<=h.xb.ls.length+40)):=by
 unfold oP at hr
 have F:=zr 1 H
 refine cb Tryz.func81 ?_
 refine sr ?_
 refine dn (aM.cells a) 89 H ?_
 intro t W u
 refine ns (Mz rfl (Kz (vP t 0) (Lz (.string ⟨v6 a.aJ⟩) u 0 C0 ?_)))
 have G:=u.pb [0]
 obtain⟨g,j⟩:∃ q,iE h a.aJ=q:=⟨_,rfl⟩
 obtain⟨X,x,N,y,O⟩:=IV G
 refine cl O9 (kW _ _ r h b c a.aJ g x f4 j) ?_
 rintro _ Y ⟨I,J,rfl,z,l⟩
 have o:=y _ _ z
 have P:=zr 1 o
 replace l:g.xb.ls.length<=h.xb.ls.length+26:=l
 refine nt (Il (Mz rfl (Kz (vP t 1) (Lz (vI a.bE) o 2 C2 ?_))))
 refine WL.do rfl (IP P0 rfl ?_ (λ _ _ k=>k))
 refine cb P1 ?_
 refine Il (Mz rfl (Mz rfl ?_))
 have Q:C6 (C7.wrap a.bE)<=18446744073709551615:=lV _
 refine fw (vU (C6 (C7.wrap a.bE))) (Ir (e:=C7.wrap a.bE) yk (fB _)) ?_
 obtain⟨p,m⟩:∃ q,bS g (C6 (C7.wrap a.bE))=q:=⟨_,rfl⟩
 obtain⟨Z,A,R,B,S⟩:=IV o
 refine cl P2 (dJ _ _ r g I J (C6 (C7.wrap a.bE)) p A f4 m) ?_
 rintro _ aa ⟨K,L,rfl,C,n⟩
 have E:=B _ _ C
 have T:=zr 1 E
 replace n:p.xb.ls.length<=g.xb.ls.length+10:=n
 refine C4 (IL (res0 rfl) (C4 (IL (res0 rfl) ?_)))
 have M:=E.pk [0,1]
 obtain rfl:=zj hr zq2
 exact⟨K,L,rfl,M,f9⟩
def lX (d:dz) (c:aH):dz:=
 bnd (iE d c.aZ) λ a=>bnd (iE a c.aG) λ b=>b
theorem qx (w D m) (j:dz) (c d) (a:aH) (u:dz) (H:Own w D w [blk m [.slice c j.xb.ls.length d] 159,row c j.xb.ls.length d (q4 eB j.xb.ls) 5 1]) (X:j.xb.ls.length<=8000000000) (Y:(a.aZ.length<=12/\a.aG.length<=16)) (hr:lX j a=u):
    Calls v5 145 #[vP m 0, .agg (aH.cells a).toArray] w (dA λ v w'=> ∃ e f,v= .tuple #[]/\Own w D w' [blk m [.slice e u.xb.ls.length f] 159,row e u.xb.ls.length f (q4 eB u.xb.ls) 5 1]/\(u.xb.ls.length<=j.xb.ls.length+60)):=by
 unfold lX at hr
 have K:=zr 1 H
 refine cb Tryz.func145 ?_
 refine sr ?_
 refine dn (aH.cells a) 153 H ?_
 intro x Z s
 refine nt (Il (Mz rfl (Kz (.func (.func 119) #[vP m 0] #[]) (Kz (vP x 0) (Lz (.string ⟨v6 a.aZ⟩) s 0 C0 (Kz (vP x 1) (Lz (.string ⟨v6 a.aG⟩) s 0 C0 ?_)))))))
 refine jV [.string ⟨v6 a.aZ⟩, .string ⟨v6 a.aG⟩] 9 1 2 s ?_
 intro b aa g
 replace g:=IX (y:=row b 2 2 (q4 eS ([a.aZ,a.aG])) 9 1) rfl g
 refine WL.do rfl (IP Tryz.call161 rfl ?_ (λ _ _ k=>k))
 refine cb Tryz.func161 ?_
 refine sr (Mz rfl (Kz (vI 2) (Mn rfl (bo (JG 200 (sr (Kz (.bool true) (nt (Ik (jt (sk (Ik (bo (sr ?_))))))))))))))
 have z:([a.aZ,a.aG]:List (List UInt8))[0]? =some a.aZ:=rfl
 refine fw (.pointer (some ⟨ab b,ao b+0 *1,none⟩)) (Iz (EI) rfl rfl ((g.rds (i:=0) rfl).addr (i:=0) e6) e6) (fw (.string ⟨v6 a.aZ⟩) (IB rfl (bJ.one C0 (((g.rds (i:=0) rfl).elem zP z f2).at_ (k:=0) rfl))) (An rfl (Il (Mz rfl (Mz rfl ?_)))))
 have L:=g.pb [0,1]
 obtain⟨h,n⟩:∃ q,iE j a.aZ=q:=⟨_,rfl⟩
 obtain⟨af,A,R,B,S⟩:=IV L
 refine WL.do rfl (IY O9 rfl rfl (kW _ _ m j c d a.aZ h A f4 n) ?_)
 rintro _ ag ⟨M,N,rfl,C,o⟩
 have l:=B _ _ C
 have T:=zr 1 l
 replace o:h.xb.ls.length<=j.xb.ls.length+26:=o
 refine C4 (bN (Iq (Il (Kz (vI 1) (Mz rfl (C4 (Jh [(8,vI 1),(7,vI 2),(6, .slice b 2 2),(0, .func (.func 119) #[vP m 0] #[])] ⟨rfl,rfl,rfl,rfl,trivial⟩ (sr (Kz (.bool true) (nt (Ik (jt (sk (Ik (bo (sr ?_))))))))))))))))
 have E:([a.aZ,a.aG]:List (List UInt8))[1]? =some a.aG:=rfl
 refine fw (.pointer (some ⟨ab b,ao b+1 *1,none⟩)) (Iz (EI) rfl rfl ((l.rds (i:=2) rfl).addr (i:=1) e6) e6) (fw (.string ⟨v6 a.aG⟩) (IB rfl (bJ.one C0 (((l.rds (i:=2) rfl).elem zP E f2).at_ (k:=0) rfl))) (An rfl (Il (Mz rfl (Mz rfl ?_)))))
 obtain⟨t,p⟩:∃ q,iE h a.aG=q:=⟨_,rfl⟩
 obtain⟨ah,F,U,G,V⟩:=IV l
 refine WL.do rfl (IY O9 rfl rfl (kW _ _ m h M N a.aG t F f4 p) ?_)
 rintro _ ai ⟨O,P,rfl,I,r⟩
 have J:=G _ _ I
 have W:=zr 1 J
 replace r:t.xb.ls.length<=h.xb.ls.length+26:=r
 refine C4 (bN (Iq (Il (Kz (vI 2) (Mz rfl (C4 (Jh [(8,vI 2),(7,vI 2),(6, .slice b 2 2),(0, .func (.func 119) #[vP m 0] #[])] ⟨rfl,rfl,rfl,rfl,trivial⟩ (sr (Kz (.bool false) (nt (Ik (jf (C5 (IC (IC (IK (IL (res0 rfl) (C4 (IL (res0 rfl) ?_)))))))))))))))))))
 have Q:=J.pk [0,1]
 obtain rfl:=zj hr zq2
 exact⟨O,P,rfl,Q,f9⟩
def jg:List aH->List UInt8->(List UInt8)
  | [],a=>a
  | c::d,a=>bnd (lX (dz.mk (E0 a)) c) λ b=>jg d b.xb.ls
def jh:List aH->List UInt8->(List UInt8)
  | [],a=>a
  | c::d,a=>bnd (lX (dz.mk (E0 a)) c) λ b=>jh d b.xb.ls
def oG (h:dz) (a:aQ):dz:=
 if a.dV=true then bnd (bS h 1) λ e=>bnd (iE e a.aG) λ f=>bnd (bS f a.aj.ls.length) λ g=>bnd (jg a.aj.ls g.xb.ls) λ sLrtbbbL=>dz.mk (E0 sLrtbbbL) else bnd (bS h 0) λ b=>bnd (iE b a.aG) λ c=>bnd (bS c a.aj.ls.length) λ d=>bnd (jh a.aj.ls d.xb.ls) λ sLrfbbbL=>dz.mk (E0 sLrfbbbL)
theorem uf (w D n) (E:dz) (A B) (a:aQ) (c ai f) (r0:dz) (H:Own w D w [blk n [.slice A E.xb.ls.length B] 159,row A E.xb.ls.length B (q4 eB E.xb.ls) 5 1]) (aI:ai=a.aj.ls.length) (h:Ro w D λ w'=>aY w' 2 c a.aj.ls.length (q4 aH.cells a.aj.ls)) (dD:a.aj.ls.length<=f/\a.aj.ls.length<=9223372036854775807) (fZ:E.xb.ls.length<=7000000000) (ah:(a.aG.length<=16/\a.aj.ls.length<=4/\∀ q ∈ a.aj.ls,q.aZ.length<=12/\q.aG.length<=16)) (hr:oG E a=r0):
    Calls v5 124 #[vP n 0, .agg #[.bool a.dV, .string ⟨v6 a.aG⟩, .slice c ai f]] w (dA λ v w'=> ∃ F G,v= .tuple #[]/\Own w D w' [blk n [.slice F r0.xb.ls.length G] 159,row F r0.xb.ls.length G (q4 eB r0.xb.ls) 5 1]/\(r0.xb.ls.length<=E.xb.ls.length+300)):=by
 unfold oG at hr
 subst aI
 have dE:=zr 1 H
 have eP:=ah.1
 have eQ:=ah.2.1
 refine cb Tryz.func124 ?_
 refine sr ?_
 refine dn [.bool a.dV, .string ⟨v6 a.aG⟩, .slice c a.aj.ls.length f] 149 H ?_
 intro x gm aJ
 refine ns (An rfl (Ik (sr (Kz (vP x 0) (Lz (.bool a.dV) aJ 0 Tryz.isAgg4 (nt ?_))))))
 rcases Ls (a.dV) with I | I
 refine jT I (Il (Ar rfl (Mz rfl (Mz rfl ?_))))
 refine WL.do rfl (IP P0 rfl ?_ (λ _ _ k=>k))
 refine cb P1 ?_
 refine Il (Mz rfl (Mz rfl (fw (.int .u64 1) (Ir (e:=C7.wrap 1) yk (IntWalk.u64_in _ e6)) ?_)))
 have dG:=aJ.pb [0]
 obtain⟨J,aj⟩:∃ q,bS E 1=q:=⟨_,rfl⟩
 obtain⟨gp,bA,eT,bB,eU⟩:=IV dG
 refine cl P2 (dJ _ _ n E A B 1 J bA f4 aj) ?_
 rintro _ gq ⟨dH,dI,rfl,bC,ak⟩
 have aK:=bB _ _ bC
 have eX:=zr 1 aK
 replace ak:J.xb.ls.length<=E.xb.ls.length+10:=ak
 refine C4 (IL (res0 rfl) (ns (Mz rfl (Kz (vP x 1) (Lz (.string ⟨v6 a.aG⟩) aK 2 C0 ?_)))))
 obtain⟨K,au⟩:∃ q,iE J a.aG=q:=⟨_,rfl⟩
 obtain⟨gu,bD,eY,bE,eZ⟩:=IV aK
 refine cl O9 (kW _ _ n J dH dI a.aG K bD f4 au) ?_
 rintro _ gy ⟨dK,dL,rfl,bF,av⟩
 have aL:=bE _ _ bF
 have fe:=zr 1 aL
 replace av:K.xb.ls.length<=J.xb.ls.length+26:=av
 refine nt (Il (Mz rfl (Kz (vP x 2) (Lz (.slice c a.aj.ls.length f) aL 2 Tryz.isAgg147 (Mz rfl (Kz (.func (.func 145) #[vP n 0] #[]) ?_))))))
 refine WL.do rfl (IP Tryz.call144 rfl ?_ (λ _ _ k=>k))
 refine cb Tryz.func144 ?_
 refine sr (Mz rfl (Mz rfl (Kz (vJ a.aj.ls.length) ?_)))
 refine WL.do rfl (IP P0 rfl ?_ (λ _ _ k=>k))
 refine cb P1 ?_
 refine Il (Mz rfl (Mz rfl (fw (vU a.aj.ls.length) (Ir (e:=C7.wrap (a.aj.ls.length:Int)) yk (IntWalk.u64_in _ e6)) ?_)))
 obtain⟨C,ax⟩:∃ q,bS K a.aj.ls.length=q:=⟨_,rfl⟩
 obtain⟨gz,bG,fo,bH,fq⟩:=IV aL
 refine cl P2 (dJ _ _ n K dK dL a.aj.ls.length C bG f4 ax) ?_
 rintro _ gB ⟨dM,dN,rfl,bI,ay⟩
 have bJ:=bH _ _ bI
 have fu:=zr 1 bJ
 replace ay:C.xb.ls.length<=K.xb.ls.length+10:=ay
 refine C4 (IL (res0 rfl) (nt (Il (Mz rfl (Mz rfl ?_)))))
 refine WL.do rfl (IP Tryz.call160 rfl ?_ (λ _ _ k=>k))
 refine cb Tryz.func160 ?_
 refine sr (Mz rfl (Kz (vJ a.aj.ls.length) (Mn rfl (bo ?_))))
 have dO:=bJ.pb [1]
 obtain⟨dP,L⟩:=tq λ (g:Nat) M (N:Nat) j w'=>Own w D w' [blk n [.slice M j.length N] 159,blk x [.bool a.dV, .string ⟨v6 a.aG⟩, .slice c a.aj.ls.length f] 149,row M j.length N (q4 eB j) 5 1]/\g<=a.aj.ls.length/\(j.length:Int)<=(C.xb.ls.length:Int)+60 *(g:Int)/\jg a.aj.ls C.xb.ls=jg (r4 g a.aj.ls) j
 refine C1 (λ i:Nat × (Option Addr) × Nat × (List UInt8)=> [(8,vJ i.1),(7,vJ a.aj.ls.length),(6, .slice c a.aj.ls.length f),(0, .func (.func 145) #[vP n 0] #[])]) dP (λ i=>a.aj.ls.length - i.1) (0,dM,dN,C.xb.ls) ⟨rfl,rfl,rfl,rfl,trivial⟩ (L.2 ⟨dO,e6,e6,rfl⟩) ?_
 rintro ⟨g,M,N,j⟩ gD bK
 obtain⟨O,fA,fB,az⟩:=L.1 bK
 refine sr (Kz (.bool (decide ((g:Int) < (a.aj.ls.length:Int)))) (nt (Ik ?_)))
 by_cases bL:(g:Int) < (a.aj.ls.length:Int)
 obtain⟨o,P⟩:=dh (ls:=a.aj.ls) (i:=g) aH.len f2 (O.ro h) e9
 have bM:o.aZ.length<=12/\o.aG.length<=16:=ah.2.2 _ (D1 P)
 have bO:=drop_at P
 refine jT (dT bL) (sk (Ik (bo (sr (fw (.pointer (some ⟨ab c,ao c+g *2,none⟩)) (Iz (jL) rfl rfl ((O.ro h).addr (i:=g) e6) e6) (fw (.agg (aH.cells o).toArray) (IB rfl (IJ (cs:=(aH.cells o)) J0 J1 ((O.ro h).elem aH.len P f2))) ?_))))))
 refine dn [.string ⟨v6 []⟩, .string ⟨v6 []⟩] 153 O ?_
 intro gF gG dQ
 refine df (aH.cells o) 0 dQ J1 ?_
 intro gH bP
 refine nt (Il (Mz rfl (La (aH.cells o) bP 0 J0 J1 ?_)))
 have dR:=bP.pb [0,2]
 obtain⟨aM,aA⟩:∃ q,lX (dz.mk (E0 j)) o=q:=⟨_,rfl⟩
 obtain⟨gI,bQ,fC,bR,fD⟩:=IV dR
 refine WL.do rfl (IY Tryz.call145 rfl rfl (qx _ _ n (dz.mk (E0 j)) M N o aM bQ f4 (by exact bM) aA) ?_)
 rintro _ fE ⟨bT,bU,rfl,aN,Q⟩
 have aB:=bR _ _ aN
 have dS:=zr 1 aB
 replace Q:aM.xb.ls.length<=j.length+60:=Q
 refine C4 (bN (Iq (Il (fw (vJ (g+1)) (Ir (e:=C3.wrap ((g:Int)+1)) yk f0) (Mz rfl (C4 ?_))))))
 have bV:=aB.pk [0,3,1]
 exact II (g+1,bT,bU,aM.xb.ls) ⟨rfl,rfl,rfl,rfl,trivial⟩ (L.2 ⟨bV,e6,e6,et (az) (et (congrArg (λ q=>jg q j) bO) (ae aA))⟩) (by show a.aj.ls.length - (g+1) < a.aj.ls.length - g; omega)
 refine jF (dF bL) (C5 (IC ?_))
 have aO:jg a.aj.ls C.xb.ls=j:=et (az) (et (congrArg (λ q=>jg q j) (dZ (ls:=a.aj.ls) (i:=g) e6)) rfl)
 refine IC (IK (IL (res0 rfl) (C4 (IL (res0 rfl) (C4 (IL (res0 rfl) ?_))))))
 have bW:=O.pk [0,2]
 obtain rfl:=zj hr zq5
 exact⟨M,N,rfl,bW,f9⟩
 refine jF I (sk (sr (Mz rfl (Mz rfl ?_))))
 refine WL.do rfl (IP P0 rfl ?_ (λ _ _ k=>k))
 refine cb P1 ?_
 refine Il (Mz rfl (Mz rfl (fw (.int .u64 0) (Ir (e:=C7.wrap 0) yk (IntWalk.u64_in _ e6)) ?_)))
 have bX:=aJ.pb [0]
 obtain⟨p,R⟩:∃ q,bS E 0=q:=⟨_,rfl⟩
 obtain⟨fF,aP,dU,aR,dV⟩:=IV bX
 refine cl P2 (dJ _ _ n E A B 0 p aP f4 R) ?_
 rintro _ fG ⟨bY,bZ,rfl,aS,S⟩
 have T:=aR _ _ aS
 have dW:=zr 1 T
 replace S:p.xb.ls.length<=E.xb.ls.length+10:=S
 refine C4 (IL (res0 rfl) (ns (Mz rfl (Kz (vP x 1) (Lz (.string ⟨v6 a.aG⟩) T 2 C0 ?_)))))
 obtain⟨r,U⟩:∃ q,iE p a.aG=q:=⟨_,rfl⟩
 obtain⟨fH,aT,dX,aU,dY⟩:=IV T
 refine cl O9 (kW _ _ n p bY bZ a.aG r aT f4 U) ?_
 rintro _ fI ⟨cu,cz,rfl,aV,V⟩
 have W:=aU _ _ aV
 have d9:=zr 1 W
 replace V:r.xb.ls.length<=p.xb.ls.length+26:=V
 refine nt (Il (Mz rfl (Kz (vP x 2) (Lz (.slice c a.aj.ls.length f) W 2 Tryz.isAgg147 (Mz rfl (Kz (.func (.func 145) #[vP n 0] #[]) ?_))))))
 refine WL.do rfl (IP Tryz.call144 rfl ?_ (λ _ _ k=>k))
 refine cb Tryz.func144 ?_
 refine sr (Mz rfl (Mz rfl (Kz (vJ a.aj.ls.length) ?_)))
 refine WL.do rfl (IP P0 rfl ?_ (λ _ _ k=>k))
 refine cb P1 ?_
 refine Il (Mz rfl (Mz rfl (fw (vU a.aj.ls.length) (Ir (e:=C7.wrap (a.aj.ls.length:Int)) yk (IntWalk.u64_in _ e6)) ?_)))
 obtain⟨m,X⟩:∃ q,bS r a.aj.ls.length=q:=⟨_,rfl⟩
 obtain⟨fJ,aW,ed,aX,ek⟩:=IV W
 refine cl P2 (dJ _ _ n r cu cz a.aj.ls.length m aW f4 X) ?_
 rintro _ fK ⟨cB,cK,rfl,aZ,Y⟩
 have aC:=aX _ _ aZ
 have eu:=zr 1 aC
 replace Y:m.xb.ls.length<=r.xb.ls.length+10:=Y
 refine C4 (IL (res0 rfl) (nt (Il (Mz rfl (Mz rfl ?_)))))
 refine WL.do rfl (IP Tryz.call160 rfl ?_ (λ _ _ k=>k))
 refine cb Tryz.func160 ?_
 refine sr (Mz rfl (Kz (vJ a.aj.ls.length) (Mn rfl (bo ?_))))
 have cO:=aC.pb [1]
 obtain⟨cZ,y⟩:=tq λ (b:Nat) s (t:Nat) d w'=>Own w D w' [blk n [.slice s d.length t] 159,blk x [.bool a.dV, .string ⟨v6 a.aG⟩, .slice c a.aj.ls.length f] 149,row s d.length t (q4 eB d) 5 1]/\b<=a.aj.ls.length/\(d.length:Int)<=(m.xb.ls.length:Int)+60 *(b:Int)/\jh a.aj.ls m.xb.ls=jh (r4 b a.aj.ls) d
 refine C1 (λ i:Nat × (Option Addr) × Nat × (List UInt8)=> [(8,vJ i.1),(7,vJ a.aj.ls.length),(6, .slice c a.aj.ls.length f),(0, .func (.func 145) #[vP n 0] #[])]) cZ (λ i=>a.aj.ls.length - i.1) (0,cB,cK,m.xb.ls) ⟨rfl,rfl,rfl,rfl,trivial⟩ (y.2 ⟨cO,e6,e6,rfl⟩) ?_
 rintro ⟨b,s,t,d⟩ fM bf
 obtain⟨u,eD,eF,Z⟩:=y.1 bf
 refine sr (Kz (.bool (decide ((b:Int) < (a.aj.ls.length:Int)))) (nt (Ik ?_)))
 by_cases aD:(b:Int) < (a.aj.ls.length:Int)
 obtain⟨l,z⟩:=dh (ls:=a.aj.ls) (i:=b) aH.len f2 (u.ro h) e9
 have bg:l.aZ.length<=12/\l.aG.length<=16:=ah.2.2 _ (D1 z)
 have bi:=drop_at z
 refine jT (dT aD) (sk (Ik (bo (sr (fw (.pointer (some ⟨ab c,ao c+b *2,none⟩)) (Iz (jL) rfl rfl ((u.ro h).addr (i:=b) e6) e6) (fw (.agg (aH.cells l).toArray) (IB rfl (IJ (cs:=(aH.cells l)) J0 J1 ((u.ro h).elem aH.len z f2))) ?_))))))
 refine dn [.string ⟨v6 []⟩, .string ⟨v6 []⟩] 153 u ?_
 intro fO fQ di
 refine df (aH.cells l) 0 di J1 ?_
 intro fT aF
 refine nt (Il (Mz rfl (La (aH.cells l) aF 0 J0 J1 ?_)))
 have dm:=aF.pb [0,2]
 obtain⟨aa,af⟩:∃ q,lX (dz.mk (E0 d)) l=q:=⟨_,rfl⟩
 obtain⟨fU,bn,eG,bq,eH⟩:=IV dm
 refine WL.do rfl (IY Tryz.call145 rfl rfl (qx _ _ n (dz.mk (E0 d)) s t l aa bn f4 (by exact bg) af) ?_)
 rintro _ fV ⟨dw,dx,rfl,bu,ag⟩
 have aG:=bq _ _ bu
 have eO:=zr 1 aG
 replace ag:aa.xb.ls.length<=d.length+60:=ag
 refine C4 (bN (Iq (Il (fw (vJ (b+1)) (Ir (e:=C3.wrap ((b:Int)+1)) yk f0) (Mz rfl (C4 ?_))))))
 have dB:=aG.pk [0,3,1]
 exact II (b+1,dw,dx,aa.xb.ls) ⟨rfl,rfl,rfl,rfl,trivial⟩ (y.2 ⟨dB,e6,e6,et (Z) (et (congrArg (λ q=>jh q d) bi) (ae af))⟩) (by show a.aj.ls.length - (b+1) < a.aj.ls.length - b; omega)
 refine jF (dF aD) (C5 (IC ?_))
 have bv:jh a.aj.ls m.xb.ls=d:=et (Z) (et (congrArg (λ q=>jh q d) (dZ (ls:=a.aj.ls) (i:=b) e6)) rfl)
 refine IC (IK (IL (res0 rfl) (C4 (IL (res0 rfl) (C4 (IL (res0 rfl) ?_))))))
 have dC:=u.pk [0,2]
 obtain rfl:=zj hr zq5
 exact⟨s,t,rfl,dC,f9⟩
def iR:List Int->List UInt8->(List UInt8)
  | [],a=>a
  | c::d,a=>bnd (bS (dz.mk (E0 a)) (C6 (C7.wrap c))) λ b=>iR d b.xb.ls
def nH (g:dz) (a:bH):dz:=
 bnd (bS g a.aX) λ b=>bnd (bS b (C6 (C7.wrap a.aP))) λ c=>bnd (bS c a.ax) λ d=>bnd (bS d a.aU) λ e=>bnd (bS e a.au.ls.length) λ f=>bnd (iR a.au.ls f.xb.ls) λ sLrbbbbbL=>dz.mk (E0 sLrbbbbbL)
theorem sK (w D m) (N:dz) (t u) (a:bH) (d R f) (r0:dz) (H:Own w D w [blk m [.slice t N.xb.ls.length u] 159,row t N.xb.ls.length u (q4 eB N.xb.ls) 5 1]) (ah:R=a.au.ls.length) (n:Ro w D λ w'=>aY w' 1 d a.au.ls.length (q4 (eI .i64) a.au.ls)) (bu:a.au.ls.length<=f/\a.au.ls.length<=9223372036854775807) (dI:N.xb.ls.length<=7000000000) (O:(a.aX<=18446744073709551615/\a.ax<=18446744073709551615/\a.aU<=18446744073709551615/\a.au.ls.length<=4)) (hr:nH N a=r0):
    Calls v5 83 #[vP m 0, .agg #[vU a.aX,vI a.aP,vU a.ax,vU a.aU, .slice d R f]] w (dA λ v w'=> ∃ x z,v= .tuple #[]/\Own w D w' [blk m [.slice x r0.xb.ls.length z] 159,row x r0.xb.ls.length z (q4 eB r0.xb.ls) 5 1]/\(r0.xb.ls.length<=N.xb.ls.length+100)):=by
 unfold nH at hr
 subst ah
 have bv:=zr 1 H
 have bV:=O.1
 have bW:=O.2.1
 have bX:=O.2.2.1
 have bY:=O.2.2.2
 refine cb Tryz.func83 ?_
 refine sr ?_
 refine dn [vU a.aX,vI a.aP,vU a.ax,vU a.aU, .slice d a.au.ls.length f] 60 H ?_
 intro r dK aA
 refine ns (Mz rfl (Kz (vP r 0) (Lz (vU a.aX) aA 0 D2 ?_)))
 have bz:=aA.pb [0]
 obtain⟨A,S⟩:∃ q,bS N a.aX=q:=⟨_,rfl⟩
 obtain⟨dL,aB,bZ,aC,cu⟩:=IV bz
 refine cl P2 (dJ _ _ m N t u a.aX A aB f4 S) ?_
 rintro _ dM ⟨bA,bB,rfl,aD,T⟩
 have ai:=aC _ _ aD
 have cz:=zr 1 ai
 replace T:A.xb.ls.length<=N.xb.ls.length+10:=T
 refine ns (Mz rfl (Kz (vP r 1) (Lz (vI a.aP) ai 2 C2 ?_)))
 refine WL.do rfl (IP P0 rfl ?_ (λ _ _ k=>k))
 refine cb P1 ?_
 refine Il (Mz rfl (Mz rfl ?_))
 have cB:C6 (C7.wrap a.aP)<=18446744073709551615:=lV _
 refine fw (vU (C6 (C7.wrap a.aP))) (Ir (e:=C7.wrap a.aP) yk (fB _)) ?_
 obtain⟨B,U⟩:∃ q,bS A (C6 (C7.wrap a.aP))=q:=⟨_,rfl⟩
 obtain⟨dN,aF,cK,aG,cO⟩:=IV ai
 refine cl P2 (dJ _ _ m A bA bB (C6 (C7.wrap a.aP)) B aF f4 U) ?_
 rintro _ dO ⟨bC,bD,rfl,aH,V⟩
 have P:=aG _ _ aH
 have cZ:=zr 1 P
 replace V:B.xb.ls.length<=A.xb.ls.length+10:=V
 refine C4 (IL (res0 rfl) (ns (Mz rfl (Kz (.func (.func 79) #[vP m 0] #[]) (Kz (vP r 2) (Lz (vU a.ax) P 2 D2 (Kz (vP r 3) (Lz (vU a.aU) P 2 D2 ?_))))))))
 refine jV [vU a.ax,vU a.aU] 28 1 2 P ?_
 intro o dP C
 replace C:=IX (y:=row o 2 2 (q4 (eN .u64) ([a.ax,a.aU])) 28 1) rfl C
 refine WL.do rfl (IP Tryz.call78 rfl ?_ (λ _ _ k=>k))
 refine cb Tryz.func78 ?_
 refine sr (Mz rfl (Kz (vI 2) (Mn rfl (bo (JG 200 (sr (Kz (.bool true) (nt (Ik (jt (sk (Ik (bo (sr ?_))))))))))))))
 have aI:([a.ax,a.aU]:List Nat)[0]? =some a.ax:=rfl
 refine fw (.pointer (some ⟨ab o,ao o+0 *1,none⟩)) (Iz (xc) rfl rfl ((C.rds (i:=0) rfl).addr (i:=0) e6) e6) (fw (vU a.ax) (IB rfl (bJ.one D2 (((C.rds (i:=0) rfl).elem rG aI f2).at_ (k:=0) rfl))) (An rfl (Il (Mz rfl (Mz rfl ?_)))))
 have bE:=C.pb [0,3]
 obtain⟨E,W⟩:∃ q,bS B a.ax=q:=⟨_,rfl⟩
 obtain⟨dQ,aJ,df,aK,di⟩:=IV bE
 refine WL.do rfl (IY P2 rfl rfl (dJ _ _ m B bC bD a.ax E aJ f4 W) ?_)
 rintro _ dR ⟨bF,bG,rfl,aL,X⟩
 have Q:=aK _ _ aL
 have dm:=zr 1 Q
 replace X:E.xb.ls.length<=B.xb.ls.length+10:=X
 refine C4 (bN (Iq (Il (Kz (vI 1) (Mz rfl (C4 (Jh [(8,vI 1),(7,vI 2),(6, .slice o 2 2),(0, .func (.func 79) #[vP m 0] #[])] ⟨rfl,rfl,rfl,rfl,trivial⟩ (sr (Kz (.bool true) (nt (Ik (jt (sk (Ik (bo (sr ?_))))))))))))))))
 have aM:([a.ax,a.aU]:List Nat)[1]? =some a.aU:=rfl
 refine fw (.pointer (some ⟨ab o,ao o+1 *1,none⟩)) (Iz (xc) rfl rfl ((Q.rds (i:=2) rfl).addr (i:=1) e6) e6) (fw (vU a.aU) (IB rfl (bJ.one D2 (((Q.rds (i:=2) rfl).elem rG aM f2).at_ (k:=0) rfl))) (An rfl (Il (Mz rfl (Mz rfl ?_)))))
 obtain⟨F,Y⟩:∃ q,bS E a.aU=q:=⟨_,rfl⟩
 obtain⟨dS,aN,dw,aO,dx⟩:=IV Q
 refine WL.do rfl (IY P2 rfl rfl (dJ _ _ m E bF bG a.aU F aN f4 Y) ?_)
 rintro _ dU ⟨bI,bK,rfl,aP,Z⟩
 have aQ:=aO _ _ aP
 have dB:=zr 1 aQ
 replace Z:F.xb.ls.length<=E.xb.ls.length+10:=Z
 refine C4 (bN (Iq (Il (Kz (vI 2) (Mz rfl (C4 (Jh [(8,vI 2),(7,vI 2),(6, .slice o 2 2),(0, .func (.func 79) #[vP m 0] #[])] ⟨rfl,rfl,rfl,rfl,trivial⟩ (sr (Kz (.bool false) (nt (Ik (jf (C5 (IC (IC (IK (IL (res0 rfl) (nt ?_))))))))))))))))))
 have aR:=aQ.pk [0,1,3]
 refine Il (Mz rfl (Kz (vP r 4) (Lz (.slice d a.au.ls.length f) aR 2 Tryz.isAgg58 (Mz rfl (Kz (.func (.func 77) #[vP m 0] #[]) ?_)))))
 refine WL.do rfl (IP Tryz.call121 rfl ?_ (λ _ _ k=>k))
 refine cb Tryz.func121 ?_
 refine sr (Mz rfl (Mz rfl (Kz (vJ a.au.ls.length) ?_)))
 refine WL.do rfl (IP P0 rfl ?_ (λ _ _ k=>k))
 refine cb P1 ?_
 refine Il (Mz rfl (Mz rfl (fw (vU a.au.ls.length) (Ir (e:=C7.wrap (a.au.ls.length:Int)) yk (IntWalk.u64_in _ e6)) ?_)))
 obtain⟨s,aa⟩:∃ q,bS F a.au.ls.length=q:=⟨_,rfl⟩
 obtain⟨dV,aS,dC,aT,dD⟩:=IV aR
 refine cl P2 (dJ _ _ m F bI bK a.au.ls.length s aS f4 aa) ?_
 rintro _ dW ⟨bL,aU,rfl,aV,G⟩
 have aW:=aT _ _ aV
 have bM:=zr 1 aW
 replace G:s.xb.ls.length<=F.xb.ls.length+10:=G
 refine C4 (IL (res0 rfl) (nt (Il (Mz rfl (Mz rfl ?_)))))
 refine WL.do rfl (IP Tryz.call142 rfl ?_ (λ _ _ k=>k))
 refine cb Tryz.func142 ?_
 refine sr (Mz rfl (Kz (vJ a.au.ls.length) (Mn rfl (bo ?_))))
 have aX:=aW.pb [1]
 obtain⟨aZ,p⟩:=tq λ (b:Nat) h (j:Nat) c w'=>Own w D w' [blk m [.slice h c.length j] 159,blk r [vU a.aX,vI a.aP,vU a.ax,vU a.aU, .slice d a.au.ls.length f] 60,row h c.length j (q4 eB c) 5 1]/\b<=a.au.ls.length/\(c.length:Int)<=(s.xb.ls.length:Int)+10 *(b:Int)/\iR a.au.ls s.xb.ls=iR (r4 b a.au.ls) c
 refine C1 (λ i:Nat × (Option Addr) × Nat × (List UInt8)=> [(8,vJ i.1),(7,vJ a.au.ls.length),(6, .slice d a.au.ls.length f),(0, .func (.func 77) #[vP m 0] #[])]) aZ (λ i=>a.au.ls.length - i.1) (0,bL,aU,s.xb.ls) ⟨rfl,rfl,rfl,rfl,trivial⟩ (p.2 ⟨aX,e6,e6,rfl⟩) ?_
 rintro ⟨b,h,j,c⟩ dE aj
 obtain⟨l,bO,bP,I⟩:=p.1 aj
 refine sr (Kz (.bool (decide ((b:Int) < (a.au.ls.length:Int)))) (nt (Ik ?_)))
 by_cases af:(b:Int) < (a.au.ls.length:Int)
 obtain⟨g,J⟩:=dh (ls:=a.au.ls) (i:=b) iL f2 (l.ro n) e9
 have ak:=drop_at J
 refine jT (dT af) (sk (Ik (bo (sr (fw (.pointer (some ⟨ab d,ao d+b *1,none⟩)) (Iz (mq) rfl rfl ((l.ro n).addr (i:=b) e6) e6) (fw (vI g) (IB rfl (bJ.one C2 (((l.ro n).elem iL J f2).at_ (k:=0) rfl))) (An rfl (Il (Mz rfl (Mz rfl ?_))))))))))
 refine WL.do rfl (IY P0 rfl rfl ?_ (λ _ _ k=>k))
 refine cb P1 ?_
 refine Il (Mz rfl (Mz rfl ?_))
 have bQ:C6 (C7.wrap g)<=18446744073709551615:=lV _
 refine fw (vU (C6 (C7.wrap g))) (Ir (e:=C7.wrap g) yk (fB _)) ?_
 have bf:=l.pb [1]
 obtain⟨K,L⟩:∃ q,bS (dz.mk (E0 c)) (C6 (C7.wrap g))=q:=⟨_,rfl⟩
 obtain⟨dG,au,bR,av,bT⟩:=IV bf
 refine cl P2 (dJ _ _ m (dz.mk (E0 c)) h j (C6 (C7.wrap g)) K au f4 L) ?_
 rintro _ dH ⟨bg,bi,rfl,ax,M⟩
 have ag:=av _ _ ax
 have bU:=zr 1 ag
 replace M:K.xb.ls.length<=c.length+10:=M
 refine C4 (IL (res0 rfl) (C4 (bN (Iq (Il (fw (vJ (b+1)) (Ir (e:=C3.wrap ((b:Int)+1)) yk f0) (Mz rfl (C4 ?_))))))))
 have bn:=ag.pb [1]
 exact II (b+1,bg,bi,K.xb.ls) ⟨rfl,rfl,rfl,rfl,trivial⟩ (p.2 ⟨bn,e6,e6,et (I) (et (congrArg (λ q=>iR q c) ak) (ae L))⟩) (by show a.au.ls.length - (b+1) < a.au.ls.length - b; omega)
 refine jF (dF af) (C5 (IC ?_))
 have ay:iR a.au.ls s.xb.ls=c:=et (I) (et (congrArg (λ q=>iR q c) (dZ (ls:=a.au.ls) (i:=b) e6)) rfl)
 refine IC (IK (IL (res0 rfl) (C4 (IL (res0 rfl) (C4 (IL (res0 rfl) ?_))))))
 have bq:=l.pk [0,2]
 obtain rfl:=zj hr zq6
 exact⟨h,j,rfl,bq,f9⟩
def jD:List aQ->List UInt8->(List UInt8)
  | [],b=>b
  | a::d,b=>bnd (oG (dz.mk (E0 b)) (aQ.mk a.dV a.aG (E0 a.aj.ls))) λ c=>jD d c.xb.ls
def pF (f:dz) (a:fF):dz:=
 bnd (bS f (C6 (C7.wrap a.aP))) λ b=>bnd (bS b a.ax) λ c=>bnd (bS c a.aU) λ d=>bnd (bS d a.ah.ls.length) λ e=>bnd (jD a.ah.ls e.xb.ls) λ sLrbbbbL=>dz.mk (E0 sLrbbbbL)
theorem uG (w D l) (U:dz) (s t) (a:fF) (f Y h p) (r0:dz) (H:Own w D w [blk l [.slice s U.xb.ls.length t] 159,row s U.xb.ls.length t (q4 eB U.xb.ls) 5 1]) (u:List.map af.abs p=a.ah.ls) (aB:Y=a.ah.ls.length) (m:Ro w D λ w'=>aY w' 3 f a.ah.ls.length (q4 af.cells p)) (bH:a.ah.ls.length<=h/\a.ah.ls.length<=9223372036854775807) (B:∀ x ∈ p,Ro w D (λ w'=>aY w' 2 x.aj.A x.aj.ls.length (q4 aH.cells x.aj.ls))/\(x.aj.ls.length<=x.aj.c/\x.aj.ls.length<=9223372036854775807)) (dR:U.xb.ls.length<=6000000000) (V:(a.ax<=18446744073709551615/\a.aU<=18446744073709551615/\a.ah.ls.length<=24/\∀ z ∈ a.ah.ls,z.aG.length<=16/\z.aj.ls.length<=4/\∀ q ∈ z.aj.ls,q.aZ.length<=12/\q.aG.length<=16)) (hr:pF U a=r0):
    Calls v5 85 #[vP l 0, .agg #[vI a.aP,vU a.ax,vU a.aU, .slice f Y h]] w (dA λ v w'=> ∃ C E,v= .tuple #[]/\Own w D w' [blk l [.slice C r0.xb.ls.length E] 159,row C r0.xb.ls.length E (q4 eB r0.xb.ls) 5 1]/\(r0.xb.ls.length<=U.xb.ls.length+8000)):=by
 unfold pF at hr
 subst aB
 have bG:=aA u
 have bI:=zr 1 H
 have cK:=V.1
 have cO:=V.2.1
 have cZ:=V.2.2.1
 refine cb Tryz.func85 ?_
 refine sr ?_
 refine dn [vI a.aP,vU a.ax,vU a.aU, .slice f a.ah.ls.length h] 56 H ?_
 intro F dS aN
 refine ns (Mz rfl (Kz (vP F 0) (Lz (vI a.aP) aN 0 C2 ?_)))
 refine WL.do rfl (IP P0 rfl ?_ (λ _ _ k=>k))
 refine cb P1 ?_
 refine Il (Mz rfl (Mz rfl ?_))
 have di:C6 (C7.wrap a.aP)<=18446744073709551615:=lV _
 refine fw (vU (C6 (C7.wrap a.aP))) (Ir (e:=C7.wrap a.aP) yk (fB _)) ?_
 have bK:=aN.pb [0]
 obtain⟨G,Z⟩:∃ q,bS U (C6 (C7.wrap a.aP))=q:=⟨_,rfl⟩
 obtain⟨dU,aO,dm,aP,dw⟩:=IV bK
 refine cl P2 (dJ _ _ l U s t (C6 (C7.wrap a.aP)) G aO f4 Z) ?_
 rintro _ dV ⟨bL,bM,rfl,aR,aa⟩
 have W:=aP _ _ aR
 have dx:=zr 1 W
 replace aa:G.xb.ls.length<=U.xb.ls.length+10:=aa
 refine C4 (IL (res0 rfl) (ns (Mz rfl (Kz (.func (.func 79) #[vP l 0] #[]) (Kz (vP F 1) (Lz (vU a.ax) W 2 D2 (Kz (vP F 2) (Lz (vU a.aU) W 2 D2 ?_))))))))
 refine jV [vU a.ax,vU a.aU] 28 1 2 W ?_
 intro n dW I
 replace I:=IX (y:=row n 2 2 (q4 (eN .u64) ([a.ax,a.aU])) 28 1) rfl I
 refine WL.do rfl (IP Tryz.call78 rfl ?_ (λ _ _ k=>k))
 refine cb Tryz.func78 ?_
 refine sr (Mz rfl (Kz (vI 2) (Mn rfl (bo (JG 200 (sr (Kz (.bool true) (nt (Ik (jt (sk (Ik (bo (sr ?_))))))))))))))
 have aS:([a.ax,a.aU]:List Nat)[0]? =some a.ax:=rfl
 refine fw (.pointer (some ⟨ab n,ao n+0 *1,none⟩)) (Iz (xc) rfl rfl ((I.rds (i:=0) rfl).addr (i:=0) e6) e6) (fw (vU a.ax) (IB rfl (bJ.one D2 (((I.rds (i:=0) rfl).elem rG aS f2).at_ (k:=0) rfl))) (An rfl (Il (Mz rfl (Mz rfl ?_)))))
 have bO:=I.pb [0,3]
 obtain⟨J,ag⟩:∃ q,bS G a.ax=q:=⟨_,rfl⟩
 obtain⟨dX,aT,dB,aU,dC⟩:=IV bO
 refine WL.do rfl (IY P2 rfl rfl (dJ _ _ l G bL bM a.ax J aT f4 ag) ?_)
 rintro _ dY ⟨bP,bQ,rfl,aV,ah⟩
 have X:=aU _ _ aV
 have dD:=zr 1 X
 replace ah:J.xb.ls.length<=G.xb.ls.length+10:=ah
 refine C4 (bN (Iq (Il (Kz (vI 1) (Mz rfl (C4 (Jh [(8,vI 1),(7,vI 2),(6, .slice n 2 2),(0, .func (.func 79) #[vP l 0] #[])] ⟨rfl,rfl,rfl,rfl,trivial⟩ (sr (Kz (.bool true) (nt (Ik (jt (sk (Ik (bo (sr ?_))))))))))))))))
 have aW:([a.ax,a.aU]:List Nat)[1]? =some a.aU:=rfl
 refine fw (.pointer (some ⟨ab n,ao n+1 *1,none⟩)) (Iz (xc) rfl rfl ((X.rds (i:=2) rfl).addr (i:=1) e6) e6) (fw (vU a.aU) (IB rfl (bJ.one D2 (((X.rds (i:=2) rfl).elem rG aW f2).at_ (k:=0) rfl))) (An rfl (Il (Mz rfl (Mz rfl ?_)))))
 obtain⟨K,ai⟩:∃ q,bS J a.aU=q:=⟨_,rfl⟩
 obtain⟨d9,aX,dE,aZ,dG⟩:=IV X
 refine WL.do rfl (IY P2 rfl rfl (dJ _ _ l J bP bQ a.aU K aX f4 ai) ?_)
 rintro _ ed ⟨bR,bT,rfl,bf,ak⟩
 have bg:=aZ _ _ bf
 have dH:=zr 1 bg
 replace ak:K.xb.ls.length<=J.xb.ls.length+10:=ak
 refine C4 (bN (Iq (Il (Kz (vI 2) (Mz rfl (C4 (Jh [(8,vI 2),(7,vI 2),(6, .slice n 2 2),(0, .func (.func 79) #[vP l 0] #[])] ⟨rfl,rfl,rfl,rfl,trivial⟩ (sr (Kz (.bool false) (nt (Ik (jf (C5 (IC (IC (IK (IL (res0 rfl) (nt ?_))))))))))))))))))
 have bi:=bg.pk [0,1,3]
 refine Il (Mz rfl (Kz (vP F 3) (Lz (.slice f a.ah.ls.length h) bi 2 Tryz.isAgg40 (Mz rfl (Kz (.func (.func 124) #[vP l 0] #[]) ?_)))))
 refine WL.do rfl (IP Tryz.call123 rfl ?_ (λ _ _ k=>k))
 refine cb Tryz.func123 ?_
 refine sr (Mz rfl (Mz rfl (Kz (vJ a.ah.ls.length) ?_)))
 refine WL.do rfl (IP P0 rfl ?_ (λ _ _ k=>k))
 refine cb P1 ?_
 refine Il (Mz rfl (Mz rfl (fw (vU a.ah.ls.length) (Ir (e:=C7.wrap (a.ah.ls.length:Int)) yk (IntWalk.u64_in _ e6)) ?_)))
 obtain⟨r,au⟩:∃ q,bS K a.ah.ls.length=q:=⟨_,rfl⟩
 obtain⟨ek,bn,dI,bq,dK⟩:=IV bi
 refine cl P2 (dJ _ _ l K bR bT a.ah.ls.length r bn f4 au) ?_
 rintro _ eu ⟨bU,bV,rfl,bu,av⟩
 have bv:=bq _ _ bu
 have dL:=zr 1 bv
 replace av:r.xb.ls.length<=K.xb.ls.length+10:=av
 refine C4 (IL (res0 rfl) (nt (Il (Mz rfl (Mz rfl ?_)))))
 refine WL.do rfl (IP Tryz.call143 rfl ?_ (λ _ _ k=>k))
 refine cb Tryz.func143 ?_
 refine sr (Mz rfl (Kz (vJ a.ah.ls.length) (Mn rfl (bo ?_))))
 have bW:=bv.pb [1]
 obtain⟨bX,L⟩:=tq λ (d:Nat) M (N:Nat) g w'=>Own w D w' [blk l [.slice M g.length N] 159,blk F [vI a.aP,vU a.ax,vU a.aU, .slice f a.ah.ls.length h] 56,row M g.length N (q4 eB g) 5 1]/\d<=a.ah.ls.length/\(g.length:Int)<=(r.xb.ls.length:Int)+300 *(d:Int)/\jD a.ah.ls r.xb.ls=jD (r4 d a.ah.ls) g
 refine C1 (λ i:Nat × (Option Addr) × Nat × (List UInt8)=> [(8,vJ i.1),(7,vJ a.ah.ls.length),(6, .slice f a.ah.ls.length h),(0, .func (.func 124) #[vP l 0] #[])]) bX (λ i=>a.ah.ls.length - i.1) (0,bU,bV,r.xb.ls) ⟨rfl,rfl,rfl,rfl,trivial⟩ (L.2 ⟨bW,e6,e6,rfl⟩) ?_
 rintro ⟨d,M,N,g⟩ eD bz
 obtain⟨O,bY,bZ,P⟩:=L.1 bz
 refine sr (Kz (.bool (decide ((d:Int) < (a.ah.ls.length:Int)))) (nt (Ik ?_)))
 by_cases ax:(d:Int) < (a.ah.ls.length:Int)
 obtain⟨b,j⟩:=dh (ls:=p) (i:=d) af.len f2 (O.ro m) e9
 have Q:=eY u j
 have cu:=(B _ (D1 j)).2
 have o:s0 (af.abs b).aG<=16/\s0 (af.abs b).aj.ls<=4/\∀ q ∈ (af.abs b).aj.ls,q.aZ.length<=12/\q.aG.length<=16:=V.2.2.2 _ (D1 Q)
 have hz108p0:b.aG.length<=16:=by have q9:=o.1; first | exact q9 | (simp only [af.abs,s3] at q9; exact q9)
 have hz108p1:b.aj.ls.length<=4:=by have q9:=o.2.1; first | exact q9 | (simp only [af.abs,s3] at q9; exact q9)
 have aD:=drop_at Q
 refine jT (dT ax) (sk (Ik (bo (sr (fw (.pointer (some ⟨ab f,ao f+d *3,none⟩)) (Iz (rX) rfl rfl ((O.ro m).addr (i:=d) e6) e6) (fw (.agg (af.cells b).toArray) (IB rfl (IJ (cs:=(af.cells b)) Tryz.isAgg149 E3 ((O.ro m).elem af.len j f2))) ?_))))))
 refine dn [.bool false, .string ⟨v6 []⟩, .slice none 0 0] 149 O ?_
 intro dM dN bA
 refine df (af.cells b) 0 bA E3 ?_
 intro dO ay
 refine nt (Il (Mz rfl (La (af.cells b) ay 0 Tryz.isAgg149 E3 ?_)))
 have bB:=ay.pb [0,2]
 obtain⟨R,S⟩:∃ q,oG (dz.mk (E0 g)) (aQ.mk b.dV b.aG (E0 b.aj.ls))=q:=⟨_,rfl⟩
 obtain⟨dP,aF,aI,aJ,cz⟩:=IV bB
 refine WL.do rfl (IY Tryz.call124 rfl rfl (uf _ _ l (dz.mk (E0 g)) M N (aQ.mk b.dV b.aG (E0 b.aj.ls)) b.aj.A b.aj.ls.length b.aj.c R aF rfl (aI _ (B _ (D1 j)).1) e6 f4 (by exact o) S) ?_)
 rintro _ dQ ⟨bC,bD,rfl,aK,T⟩
 have az:=aJ _ _ aK
 have cB:=zr 1 az
 replace T:R.xb.ls.length<=g.length+300:=T
 refine C4 (bN (Iq (Il (fw (vJ (d+1)) (Ir (e:=C3.wrap ((d:Int)+1)) yk f0) (Mz rfl (C4 ?_))))))
 have bE:=az.pk [0,3,1]
 exact II (d+1,bC,bD,R.xb.ls) ⟨rfl,rfl,rfl,rfl,trivial⟩ (L.2 ⟨bE,e6,e6,et (P) (et (congrArg (λ q=>jD q g) aD) (ae S))⟩) (by show a.ah.ls.length - (d+1) < a.ah.ls.length - d; omega)
 refine jF (dF ax) (C5 (IC ?_))
 have aL:jD a.ah.ls r.xb.ls=g:=et (P) (et (congrArg (λ q=>jD q g) (dZ (ls:=a.ah.ls) (i:=d) e6)) rfl)
 refine IC (IK (IL (res0 rfl) (C4 (IL (res0 rfl) (C4 (IL (res0 rfl) ?_))))))
 have bF:=O.pk [0,2]
 obtain rfl:=zj hr zq5
 exact⟨M,N,rfl,bF,f9⟩
end
open List renaming map->s5
open _root_.Go.Proofs.Tryz renaming sizeOf56->P5,sizeOf60->P4,sizeOf89->P3
section
open Go.RowKit
def jE (e:bZ):List aM->List UInt8->(List UInt8)
  | [],a=>a
  | c::d,a=>bnd (oP (dz.mk (E0 a)) c) λ b=>jE e d b.xb.ls
def jG (e:bZ):List bH->List UInt8->(List UInt8)
  | [],b=>b
  | a::d,b=>bnd (nH (dz.mk (E0 b)) (bH.mk a.aX a.aP a.ax a.aU (E0 a.au.ls))) λ c=>jG e d c.xb.ls
def jH:List fF->List UInt8->(List UInt8)
  | [],b=>b
  | a::d,b=>bnd (pF (dz.mk (E0 b)) (fF.mk a.aP a.ax a.aU (E0 a.ah.ls))) λ c=>jH d c.xb.ls
def ji (a:bZ):(List UInt8) × Int:=
 bnd (gq a) λ b=>if b=0 then bnd (bS (dz.mk (E0 ([67]))) (C6 (C7.wrap a.au))) λ g=>bnd (bS g a.ax) λ h=>bnd (bS h a.bG) λ i=>bnd (bS i a.aF) λ c=>bnd (bS c a.ag.ls.length) λ d=>bnd (jE a a.ag.ls d.xb.ls) λ sLrbtbbbbbL=>bnd (bS (dz.mk (E0 sLrbtbbbbbL)) a.ak.ls.length) λ e=>bnd (jG a a.ak.ls e.xb.ls) λ sLrbtbbbbbLabL=>bnd (bS (dz.mk (E0 sLrbtbbbbbLabL)) a.aK.ls.length) λ f=>bnd (jH a.aK.ls f.xb.ls) λ sLrbtbbbbbLabLabL=>(sLrbtbbbbbLabLabL,0) else(([]:List UInt8),b)
theorem ma (w D) (a:bZ) (n bW s o bX t aa p bY u ag r0 r1) (H:Own w D w []) (dL:bW=a.ag.ls.length) (U:Ro w D λ w'=>aY w' 2 n a.ag.ls.length (q4 aM.cells a.ag.ls)) (iL:a.ag.ls.length<=s/\a.ag.ls.length<=9223372036854775807) (aB:s5 ay.abs aa=a.ak.ls) (dM:bX=a.ak.ls.length) (V:Ro w D λ w'=>aY w' 5 o a.ak.ls.length (q4 ay.cells aa)) (iM:a.ak.ls.length<=t/\a.ak.ls.length<=9223372036854775807) (W:∀ x ∈ aa,Ro w D (λ w'=>aY w' 1 x.au.A x.au.ls.length (q4 (eI .i64) x.au.ls))/\(x.au.ls.length<=x.au.c/\x.au.ls.length<=9223372036854775807)) (aC:s5 aS.abs ag=a.aK.ls) (dN:bY=a.aK.ls.length) (X:Ro w D λ w'=>aY w' 4 p a.aK.ls.length (q4 aS.cells ag)) (iO:a.aK.ls.length<=u/\a.aK.ls.length<=9223372036854775807) (C:∀ x ∈ ag,Ro w D (λ w'=>aY w' 3 x.ah.A x.ah.ls.length (q4 af.cells x.ah.ls))/\(x.ah.ls.length<=x.ah.c/\x.ah.ls.length<=9223372036854775807)/\(∀ y1 ∈ x.ah.ls,Ro w D (λ w'=>aY w' 2 y1.aj.A y1.aj.ls.length (q4 aH.cells y1.aj.ls))/\(y1.aj.ls.length<=y1.aj.c/\y1.aj.ls.length<=9223372036854775807))) (ll:a.ag.ls.length<=140737488355328/\a.ak.ls.length<=140737488355328/\a.aK.ls.length<=140737488355328) (iP:zb a) (hr:ji a=(r0,r1)):
    Calls Tryz.prog 54 #[.agg #[vI a.au,vU a.ax,vU a.bG,vU a.aF, .slice n bW s, .slice o bX t, .slice p bY u]] w (dA λ v w'=> ∃ B0 b0,v= .tuple #[.slice B0 r0.length b0,vI r1]/\Own w D w' [row B0 r0.length b0 (q4 eB r0) 5 1]/\(r0.length<=100000)):=by
 unfold ji at hr
 subst dL dM dN
 have iJ:=aA aB
 have iK:=aA aC
 refine cb Tryz.func54 ?_
 refine sr ?_
 refine dn [vI a.au,vU a.ax,vU a.bG,vU a.aF, .slice n a.ag.ls.length s, .slice o a.ak.ls.length t, .slice p a.aK.ls.length u] 33 H ?_
 intro I lm fI
 refine Az rfl (An rfl (Ik (sr (La ([vI a.au,vU a.ax,vU a.bG,vU a.aF, .slice n a.ag.ls.length s, .slice o a.ak.ls.length t, .slice p a.aK.ls.length u]) fI 0 Tryz.isAgg33 Tryz.sizeOf33 ?_))))
 obtain⟨aL,aJ⟩:∃ q,gq a=q:=⟨_,rfl⟩
 obtain⟨lq,fJ,L,fK,jS⟩:=Iu fI
 refine cl Tryz.call19 (oC _ _ a n a.ag.ls.length s o a.ak.ls.length t aa p a.aK.ls.length u ag aL fJ rfl (L _ U) e6 aB rfl (L _ V) e6 (λ x9 h9=>⟨L _ (W x9 h9).1,(W x9 h9).2⟩) aC rfl (L _ X) e6 (λ x9 h9=>⟨L _ (C x9 h9).1,(C x9 h9).2.1,(λ y1 k1=>⟨L _ ((C x9 h9).2.2 y1 k1).1,((C x9 h9).2.2 y1 k1).2⟩)⟩) e8 aJ) ?_
 rintro _ iQ ⟨rfl,fM⟩
 have fO:=fK _ _ fM
 refine Ar rfl (Mz rfl (fw (.bool (decide (¬ (aL=0)))) (IM (e:= !(decide (aL=0))) yk decide_not.symm) (nt ?_)))
 by_cases bR:aL=0
 refine jF (dF (Lr bR)) (sk (sr ?_))
 have B:=AB (by rw [aJ]; omega) iP
 have jW:a.ag.ls.length<=6:=B.1
 have jX:a.ak.ls.length<=8:=B.2.2.1
 have jY:a.aK.ls.length<=4:=B.2.2.2.2.1
 have jZ:a.ax<=18446744073709551615:=B.2.2.2.2.2.2.1
 have j3:a.bG<=18446744073709551615:=B.2.2.2.2.2.2.2.1
 have j4:a.aF<=18446744073709551615:=B.2.2.2.2.2.2.2.2
 refine jV [.int .u8 67] 5 1 1 fO ?_
 intro bT lu dO
 replace dO:=IX (y:=row bT 1 1 (q4 eB ([67])) 5 1) rfl dO
 refine Kz (.agg #[.slice bT 1 1]) ?_
 refine dn [.slice bT 1 1] 159 dO ?_
 intro f lv fP
 refine Ar rfl (Mz rfl (Kz (vP I 0) (Lz (vI a.au) fP 2 Tryz.isAgg3 ?_)))
 refine WL.do rfl (IP P0 rfl ?_ (λ _ _ k=>k))
 refine cb P1 ?_
 refine Il (Mz rfl (Mz rfl ?_))
 have j5:C6 (C7.wrap a.au)<=18446744073709551615:=lV _
 refine fw (vU (C6 (C7.wrap a.au))) (Ir (e:=C7.wrap a.au) yk (fB _)) ?_
 obtain⟨aN,cu⟩:∃ q,bS (dz.mk (E0 ([67]))) (C6 (C7.wrap a.au))=q:=⟨_,rfl⟩
 obtain⟨lw,fQ,j6,fT,kg⟩:=IV fP
 refine cl P2 (dJ _ _ f (dz.mk (E0 ([67]))) bT 1 (C6 (C7.wrap a.au)) aN fQ f4 cu) ?_
 rintro _ lC ⟨iR,iT,rfl,fU,cz⟩
 have aO:=fT _ _ fU
 have ko:=zr 1 aO
 replace cz:aN.xb.ls.length<=1+10:=cz
 refine C4 (IL (res0 rfl) (ns (Mz rfl (Kz (.func (.func 79) #[vP f 0] #[]) (Kz (vP I 1) (Lz (vU a.ax) aO 2 D2 (Kz (vP I 2) (Lz (vU a.bG) aO 2 D2 (Kz (vP I 3) (Lz (vU a.aF) aO 2 D2 ?_))))))))))
 refine jV [vU a.ax,vU a.bG,vU a.aF] 28 1 3 aO ?_
 intro E lD aP
 replace aP:=IX (y:=row E 3 3 (q4 (eN .u64) ([a.ax,a.bG,a.aF])) 28 1) rfl aP
 refine WL.do rfl (IP Tryz.call78 rfl ?_ (λ _ _ k=>k))
 refine cb Tryz.func78 ?_
 refine sr (Mz rfl (Kz (vI 3) (Mn rfl (bo (JG 200 (sr (Kz (.bool true) (nt (Ik (jt (sk (Ik (bo (sr ?_))))))))))))))
 have fV:([a.ax,a.bG,a.aF]:List Nat)[0]? =some a.ax:=rfl
 refine fw (.pointer (some ⟨ab E,ao E+0 *1,none⟩)) (Iz (xc) rfl rfl ((aP.rds (i:=0) rfl).addr (i:=0) e6) e6) (fw (vU a.ax) (IB rfl (bJ.one D2 (((aP.rds (i:=0) rfl).elem rG fV f2).at_ (k:=0) rfl))) (An rfl (Il (Mz rfl (Mz rfl ?_)))))
 have iU:=aP.pb [0,3]
 obtain⟨aQ,cB⟩:∃ q,bS aN a.ax=q:=⟨_,rfl⟩
 obtain⟨lF,fZ,kr,gm,ku⟩:=IV iU
 refine WL.do rfl (IY P2 rfl rfl (dJ _ _ f aN iR iT a.ax aQ fZ f4 cB) ?_)
 rintro _ lG ⟨iV,iW,rfl,gp,cK⟩
 have bU:=gm _ _ gp
 have kv:=zr 1 bU
 replace cK:aQ.xb.ls.length<=aN.xb.ls.length+10:=cK
 refine C4 (bN (Iq (Il (Kz (vI 1) (Mz rfl (C4 (Jh [(8,vI 1),(7,vI 3),(6, .slice E 3 3),(0, .func (.func 79) #[vP f 0] #[])] ⟨rfl,rfl,rfl,rfl,trivial⟩ (sr (Kz (.bool true) (nt (Ik (jt (sk (Ik (bo (sr ?_))))))))))))))))
 have gu:([a.ax,a.bG,a.aF]:List Nat)[1]? =some a.bG:=rfl
 refine fw (.pointer (some ⟨ab E,ao E+1 *1,none⟩)) (Iz (xc) rfl rfl ((bU.rds (i:=2) rfl).addr (i:=1) e6) e6) (fw (vU a.bG) (IB rfl (bJ.one D2 (((bU.rds (i:=2) rfl).elem rG gu f2).at_ (k:=0) rfl))) (An rfl (Il (Mz rfl (Mz rfl ?_)))))
 obtain⟨aR,cO⟩:∃ q,bS aQ a.bG=q:=⟨_,rfl⟩
 obtain⟨lI,gy,kw,gz,ky⟩:=IV bU
 refine WL.do rfl (IY P2 rfl rfl (dJ _ _ f aQ iV iW a.bG aR gy f4 cO) ?_)
 rintro _ lJ ⟨iX,iY,rfl,gB,cZ⟩
 have bV:=gz _ _ gB
 have kz:=zr 1 bV
 replace cZ:aR.xb.ls.length<=aQ.xb.ls.length+10:=cZ
 refine C4 (bN (Iq (Il (Kz (vI 2) (Mz rfl (C4 (Jh [(8,vI 2),(7,vI 3),(6, .slice E 3 3),(0, .func (.func 79) #[vP f 0] #[])] ⟨rfl,rfl,rfl,rfl,trivial⟩ (sr (Kz (.bool true) (nt (Ik (jt (sk (Ik (bo (sr ?_))))))))))))))))
 have gD:([a.ax,a.bG,a.aF]:List Nat)[2]? =some a.aF:=rfl
 refine fw (.pointer (some ⟨ab E,ao E+2 *1,none⟩)) (Iz (xc) rfl rfl ((bV.rds (i:=2) rfl).addr (i:=2) e6) e6) (fw (vU a.aF) (IB rfl (bJ.one D2 (((bV.rds (i:=2) rfl).elem rG gD f2).at_ (k:=0) rfl))) (An rfl (Il (Mz rfl (Mz rfl ?_)))))
 obtain⟨ai,aT⟩:∃ q,bS aR a.aF=q:=⟨_,rfl⟩
 obtain⟨lK,gF,iZ,dP,ja⟩:=IV bV
 refine WL.do rfl (IY P2 rfl rfl (dJ _ _ f aR iX iY a.aF ai gF f4 aT) ?_)
 rintro _ kC ⟨gG,gH,rfl,dQ,aV⟩
 have aW:=dP _ _ dQ
 have jb:=zr 1 aW
 replace aV:ai.xb.ls.length<=aR.xb.ls.length+10:=aV
 refine C4 (bN (Iq (Il (Kz (vI 3) (Mz rfl (C4 (Jh [(8,vI 3),(7,vI 3),(6, .slice E 3 3),(0, .func (.func 79) #[vP f 0] #[])] ⟨rfl,rfl,rfl,rfl,trivial⟩ (sr (Kz (.bool false) (nt (Ik (jf (C5 (IC (IC (IK (IL (res0 rfl) (ns (Mz rfl (Kz (vP I 4) (Lz (.slice n a.ag.ls.length s) aW 3 Tryz.isAgg29 (Mz rfl (Kz (.func (.func 81) #[vP f 0] #[]) ?_)))))))))))))))))))))))
 refine WL.do rfl (IP Tryz.call80 rfl ?_ (λ _ _ k=>k))
 refine cb Tryz.func80 ?_
 refine sr (Mz rfl (Mz rfl (Kz (vJ a.ag.ls.length) ?_)))
 refine WL.do rfl (IP P0 rfl ?_ (λ _ _ k=>k))
 refine cb P1 ?_
 refine Il (Mz rfl (Mz rfl (fw (vU a.ag.ls.length) (Ir (e:=C7.wrap (a.ag.ls.length:Int)) yk (IntWalk.u64_in _ e6)) ?_)))
 obtain⟨M,aZ⟩:∃ q,bS ai a.ag.ls.length=q:=⟨_,rfl⟩
 obtain⟨kD,dR,jc,dS,jd⟩:=IV aW
 refine cl P2 (dJ _ _ f ai gG gH a.ag.ls.length M dR f4 aZ) ?_
 rintro _ kE ⟨gI,gJ,rfl,dU,bf⟩
 have di:=dS _ _ dU
 have je:=zr 1 di
 replace bf:M.xb.ls.length<=ai.xb.ls.length+10:=bf
 refine C4 (IL (res0 rfl) (nt (Il (Mz rfl (Mz rfl ?_)))))
 refine WL.do rfl (IP Tryz.call118 rfl ?_ (λ _ _ k=>k))
 refine cb Tryz.func118 ?_
 refine sr (Mz rfl (Kz (vJ a.ag.ls.length) (Mn rfl (bo ?_))))
 have gK:=di.pb [1]
 obtain⟨gL,aD⟩:=tq λ (g:Nat) aj (ak:Nat) l w'=>Own w D w' [blk f [.slice aj l.length ak] 159,row E 3 3 (q4 (eN .u64) ([a.ax,a.bG,a.aF])) 28 1,blk I [vI a.au,vU a.ax,vU a.bG,vU a.aF, .slice n a.ag.ls.length s, .slice o a.ak.ls.length t, .slice p a.aK.ls.length u] 33,row aj l.length ak (q4 eB l) 5 1]/\g<=a.ag.ls.length/\(l.length:Int)<=(M.xb.ls.length:Int)+40 *(g:Int)/\jE a a.ag.ls M.xb.ls=jE a (r4 g a.ag.ls) l
 refine Wp.loop (λ i:Nat × (Option Addr) × Nat × (List UInt8)=> [(8,vJ i.1),(7,vJ a.ag.ls.length),(6, .slice n a.ag.ls.length s),(0, .func (.func 81) #[vP f 0] #[])]) gL (λ i=>a.ag.ls.length - i.1) (0,gI,gJ,M.xb.ls) ⟨rfl,rfl,rfl,rfl,trivial⟩ (aD.2 ⟨gK,e6,e6,rfl⟩) ?_
 rintro ⟨g,aj,ak,l⟩ kF dV
 obtain⟨N,jg,jh,bg⟩:=aD.1 dV
 refine sr (Kz (.bool (decide ((g:Int) < (a.ag.ls.length:Int)))) (nt (Ik ?_)))
 by_cases dm:(g:Int) < (a.ag.ls.length:Int)
 obtain⟨J,aF⟩:=dh (ls:=a.ag.ls) (i:=g) aM.len f2 (N.ro U) e9
 have dW:J.aJ.length<=12:=B.2.1 _ (D1 aF)
 have dX:=drop_at aF
 refine jT (dT dm) (sk (Ik (bo (sr (fw (.pointer (some ⟨ab n,ao n+g *2,none⟩)) (Iz (nE) rfl rfl ((N.ro U).addr (i:=g) e6) e6) (fw (.agg (aM.cells J).toArray) (IB rfl (IJ (cs:=(aM.cells J)) Tryz.isAgg89 P3 ((N.ro U).elem aM.len aF f2))) ?_))))))
 refine dn [.string ⟨List.toArray []⟩,vI 0] 89 N ?_
 intro kG kH gM
 refine df (aM.cells J) 0 gM P3 ?_
 intro kI dw
 refine nt (Il (Mz rfl (La (aM.cells J) dw 0 Tryz.isAgg89 P3 ?_)))
 have gN:=dw.pf [1,4]
 obtain⟨bi,bn⟩:∃ q,oP (dz.mk (E0 l)) J=q:=⟨_,rfl⟩
 obtain⟨kJ,dY,jk,d9,jl⟩:=IV gN
 refine WL.do rfl (IY Tryz.call81 rfl rfl (um _ _ f (dz.mk (E0 l)) aj ak J bi dY f4 (by exact dW) bn) ?_)
 rintro _ kK ⟨gP,gQ,rfl,ed,bq⟩
 have dx:=d9 _ _ ed
 have jm:=zr 1 dx
 replace bq:bi.xb.ls.length<=l.length+40:=bq
 refine C4 (bN (Iq (Il (fw (vJ (g+1)) (Ir (e:=C3.wrap ((g:Int)+1)) yk f0) (Mz rfl (C4 ?_))))))
 have gT:=dx.px [] [2] [1]
 exact II (g+1,gP,gQ,bi.xb.ls) ⟨rfl,rfl,rfl,rfl,trivial⟩ (aD.2 ⟨gT,e6,e6,et (bg) (et (congrArg (λ q=>jE a q l) dX) (ae bn))⟩) (by show a.ag.ls.length - (g+1) < a.ag.ls.length - g; omega)
 refine jF (dF dm) (C5 (IC ?_))
 have ek:jE a a.ag.ls M.xb.ls=l:=et (bg) (et (congrArg (λ q=>jE a q l) (dZ (ls:=a.ag.ls) (i:=g) e6)) rfl)
 refine IC (IK (IL (res0 rfl) (C4 (IL (res0 rfl) (ns (Mz rfl (Kz (vP I 5) (Lz (.slice o a.ak.ls.length t) N 2 Tryz.isAgg30 (Mz rfl (Kz (.func (.func 83) #[vP f 0] #[]) ?_))))))))))
 refine WL.do rfl (IP Tryz.call82 rfl ?_ (λ _ _ k=>k))
 refine cb Tryz.func82 ?_
 refine sr (Mz rfl (Mz rfl (Kz (vJ a.ak.ls.length) ?_)))
 refine WL.do rfl (IP P0 rfl ?_ (λ _ _ k=>k))
 refine cb P1 ?_
 refine Il (Mz rfl (Mz rfl (fw (vU a.ak.ls.length) (Ir (e:=C7.wrap (a.ak.ls.length:Int)) yk (IntWalk.u64_in _ e6)) ?_)))
 have gU:=N.pb [1,2]
 obtain⟨O,bu⟩:∃ q,bS (dz.mk (E0 l)) a.ak.ls.length=q:=⟨_,rfl⟩
 obtain⟨kL,eu,jo,eD,jq⟩:=IV gU
 refine cl P2 (dJ _ _ f (dz.mk (E0 l)) aj ak a.ak.ls.length O eu f4 bu) ?_
 rintro _ kN ⟨gV,gW,rfl,eF,bv⟩
 have dB:=eD _ _ eF
 have jr:=zr 1 dB
 replace bv:O.xb.ls.length<=l.length+10:=bv
 refine C4 (IL (res0 rfl) (nt (Il (Mz rfl (Mz rfl ?_)))))
 refine WL.do rfl (IP Tryz.call120 rfl ?_ (λ _ _ k=>k))
 refine cb Tryz.func120 ?_
 refine sr (Mz rfl (Kz (vJ a.ak.ls.length) (Mn rfl (bo ?_))))
 have gX:=dB.pb [1]
 obtain⟨gY,aG⟩:=tq λ (h:Nat) av (az:Nat) m w'=>Own w D w' [blk f [.slice av m.length az] 159,row E 3 3 (q4 (eN .u64) ([a.ax,a.bG,a.aF])) 28 1,blk I [vI a.au,vU a.ax,vU a.bG,vU a.aF, .slice n a.ag.ls.length s, .slice o a.ak.ls.length t, .slice p a.aK.ls.length u] 33,row av m.length az (q4 eB m) 5 1]/\h<=a.ak.ls.length/\(m.length:Int)<=(O.xb.ls.length:Int)+100 *(h:Int)/\jG a a.ak.ls O.xb.ls=jG a (r4 h a.ak.ls) m
 refine Wp.loop (λ i:Nat × (Option Addr) × Nat × (List UInt8)=> [(8,vJ i.1),(7,vJ a.ak.ls.length),(6, .slice o a.ak.ls.length t),(0, .func (.func 83) #[vP f 0] #[])]) gY (λ i=>a.ak.ls.length - i.1) (0,gV,gW,O.xb.ls) ⟨rfl,rfl,rfl,rfl,trivial⟩ (aG.2 ⟨gX,e6,e6,rfl⟩) ?_
 rintro ⟨h,av,az,m⟩ kP eG
 obtain⟨P,jv,jw,bz⟩:=aG.1 eG
 refine sr (Kz (.bool (decide ((h:Int) < (a.ak.ls.length:Int)))) (nt (Ik ?_)))
 by_cases dC:(h:Int) < (a.ak.ls.length:Int)
 obtain⟨d,Y⟩:=dh (ls:=aa) (i:=h) ay.len f2 (P.ro V) e9
 have bA:=eY aB Y
 have jy:=(W _ (D1 Y)).2
 have K:(ay.abs d).aX<=18446744073709551615/\(ay.abs d).ax<=18446744073709551615/\(ay.abs d).aU<=18446744073709551615/\s0 (ay.abs d).au.ls<=4:=B.2.2.2.1 _ (D1 bA)
 have hz201p0:d.aX<=18446744073709551615:=by have F:=K.1; first | exact F | (simp only [ay.abs,s3] at F; exact F)
 have hz201p1:d.ax<=18446744073709551615:=by have F:=K.2.1; first | exact F | (simp only [ay.abs,s3] at F; exact F)
 have hz201p2:d.aU<=18446744073709551615:=by have F:=K.2.2.1; first | exact F | (simp only [ay.abs,s3] at F; exact F)
 have hz201p3:d.au.ls.length<=4:=by have F:=K.2.2.2; first | exact F | (simp only [ay.abs,s3] at F; exact F)
 have eH:=drop_at bA
 refine jT (dT dC) (sk (Ik (bo (sr (fw (.pointer (some ⟨ab o,ao o+h *5,none⟩)) (Iz (kM) rfl rfl ((P.ro V).addr (i:=h) e6) e6) (fw (.agg (ay.cells d).toArray) (IB rfl (IJ (cs:=(ay.cells d)) Tryz.isAgg60 P4 ((P.ro V).elem ay.len Y f2))) ?_))))))
 refine dn [.int .u64 0,vI 0, .int .u64 0, .int .u64 0, .slice none 0 0] 60 P ?_
 intro kQ kR gZ
 refine df (ay.cells d) 0 gZ P4 ?_
 intro kS dD
 refine nt (Il (Mz rfl (La (ay.cells d) dD 0 Tryz.isAgg60 P4 ?_)))
 have ib:=dD.pf [1,4]
 obtain⟨bB,bC⟩:∃ q,nH (dz.mk (E0 m)) (bH.mk d.aX d.aP d.ax d.aU (E0 d.au.ls))=q:=⟨_,rfl⟩
 obtain⟨kT,eO,eQ,eT,jA⟩:=IV ib
 refine WL.do rfl (IY Tryz.call83 rfl rfl (sK _ _ f (dz.mk (E0 m)) av az (bH.mk d.aX d.aP d.ax d.aU (E0 d.au.ls)) d.au.A d.au.ls.length d.au.c bB eO rfl (eQ _ (W _ (D1 Y)).1) e6 f4 (by exact K) bC) ?_)
 rintro _ kU ⟨ic,ig,rfl,eU,bD⟩
 have dE:=eT _ _ eU
 have jB:=zr 1 dE
 replace bD:bB.xb.ls.length<=m.length+100:=bD
 refine C4 (bN (Iq (Il (fw (vJ (h+1)) (Ir (e:=C3.wrap ((h:Int)+1)) yk f0) (Mz rfl (C4 ?_))))))
 have ik:=dE.px [] [2] [1]
 exact II (h+1,ic,ig,bB.xb.ls) ⟨rfl,rfl,rfl,rfl,trivial⟩ (aG.2 ⟨ik,e6,e6,et (bz) (et (congrArg (λ q=>jG a q m) eH) (ae bC))⟩) (by show a.ak.ls.length - (h+1) < a.ak.ls.length - h; omega)
 refine jF (dF dC) (C5 (IC ?_))
 have eX:jG a a.ak.ls O.xb.ls=m:=et (bz) (et (congrArg (λ q=>jG a q m) (dZ (ls:=a.ak.ls) (i:=h) e6)) rfl)
 refine IC (IK (IL (res0 rfl) (C4 (IL (res0 rfl) (ns (Mz rfl (Kz (vP I 6) (Lz (.slice p a.aK.ls.length u) P 2 Tryz.isAgg31 (Mz rfl (Kz (.func (.func 85) #[vP f 0] #[]) ?_))))))))))
 refine WL.do rfl (IP Tryz.call84 rfl ?_ (λ _ _ k=>k))
 refine cb Tryz.func84 ?_
 refine sr (Mz rfl (Mz rfl (Kz (vJ a.aK.ls.length) ?_)))
 refine WL.do rfl (IP P0 rfl ?_ (λ _ _ k=>k))
 refine cb P1 ?_
 refine Il (Mz rfl (Mz rfl (fw (vU a.aK.ls.length) (Ir (e:=C7.wrap (a.aK.ls.length:Int)) yk (IntWalk.u64_in _ e6)) ?_)))
 have il:=P.pb [1,2]
 obtain⟨Q,bE⟩:∃ q,bS (dz.mk (E0 m)) a.aK.ls.length=q:=⟨_,rfl⟩
 obtain⟨kV,eZ,jC,fe,jD⟩:=IV il
 refine cl P2 (dJ _ _ f (dz.mk (E0 m)) av az a.aK.ls.length Q eZ f4 bE) ?_
 rintro _ kW ⟨iq,iw,rfl,fo,bF⟩
 have dG:=fe _ _ fo
 have jI:=zr 1 dG
 replace bF:Q.xb.ls.length<=m.length+10:=bF
 refine C4 (IL (res0 rfl) (nt (Il (Mz rfl (Mz rfl ?_)))))
 refine WL.do rfl (IP Tryz.call122 rfl ?_ (λ _ _ k=>k))
 refine cb Tryz.func122 ?_
 refine sr (Mz rfl (Kz (vJ a.aK.ls.length) (Mn rfl (bo ?_))))
 have iy:=dG.pb [1]
 obtain⟨iA,aI⟩:=tq λ (j:Nat) R (S:Nat) r w'=>Own w D w' [blk f [.slice R r.length S] 159,row E 3 3 (q4 (eN .u64) ([a.ax,a.bG,a.aF])) 28 1,blk I [vI a.au,vU a.ax,vU a.bG,vU a.aF, .slice n a.ag.ls.length s, .slice o a.ak.ls.length t, .slice p a.aK.ls.length u] 33,row R r.length S (q4 eB r) 5 1]/\j<=a.aK.ls.length/\(r.length:Int)<=(Q.xb.ls.length:Int)+8000 *(j:Int)/\jH a.aK.ls Q.xb.ls=jH (r4 j a.aK.ls) r
 refine Wp.loop (λ i:Nat × (Option Addr) × Nat × (List UInt8)=> [(8,vJ i.1),(7,vJ a.aK.ls.length),(6, .slice p a.aK.ls.length u),(0, .func (.func 85) #[vP f 0] #[])]) iA (λ i=>a.aK.ls.length - i.1) (0,iq,iw,Q.xb.ls) ⟨rfl,rfl,rfl,rfl,trivial⟩ (aI.2 ⟨iy,e6,e6,rfl⟩) ?_
 rintro ⟨j,R,S,r⟩ kX fq
 obtain⟨T,jJ,jK,bG⟩:=aI.1 fq
 refine sr (Kz (.bool (decide ((j:Int) < (a.aK.ls.length:Int)))) (nt (Ik ?_)))
 by_cases dH:(j:Int) < (a.aK.ls.length:Int)
 obtain⟨b,G⟩:=dh (ls:=ag) (i:=j) aS.len f2 (T.ro X) e9
 have bI:=eY aC G
 have jL:=(C _ (D1 G)).2.1
 have jM:s0 (s5 af.abs b.ah.ls)=b.ah.ls.length:=s3 ..
 have Z:(aS.abs b).ax<=18446744073709551615/\(aS.abs b).aU<=18446744073709551615/\s0 (aS.abs b).ah.ls<=24/\∀ z ∈ (aS.abs b).ah.ls,z.aG.length<=16/\z.aj.ls.length<=4/\∀ q ∈ z.aj.ls,q.aZ.length<=12/\q.aG.length<=16:=B.2.2.2.2.2.1 _ (D1 bI)
 have hz260p0:b.ax<=18446744073709551615:=by have F:=Z.1; first | exact F | (simp only [aS.abs,s3] at F; exact F)
 have hz260p1:b.aU<=18446744073709551615:=by have F:=Z.2.1; first | exact F | (simp only [aS.abs,s3] at F; exact F)
 have hz260p2:b.ah.ls.length<=24:=by have F:=Z.2.2.1; first | exact F | (simp only [aS.abs,s3] at F; exact F)
 have fu:=drop_at bI
 refine jT (dT dH) (sk (Ik (bo (sr (fw (.pointer (some ⟨ab p,ao p+j *4,none⟩)) (Iz (lW) rfl rfl ((T.ro X).addr (i:=j) e6) e6) (fw (.agg (aS.cells b).toArray) (IB rfl (IJ (cs:=(aS.cells b)) Tryz.isAgg56 P5 ((T.ro X).elem aS.len G f2))) ?_))))))
 refine dn [vI 0, .int .u64 0, .int .u64 0, .slice none 0 0] 56 T ?_
 intro kY kZ iB
 refine df (aS.cells b) 0 iB P5 ?_
 intro lc dI
 refine nt (Il (Mz rfl (La (aS.cells b) dI 0 Tryz.isAgg56 P5 ?_)))
 have iC:=dI.pf [1,4]
 obtain⟨bK,bL⟩:∃ q,pF (dz.mk (E0 r)) (fF.mk b.aP b.ax b.aU (E0 (s5 af.abs b.ah.ls)))=q:=⟨_,rfl⟩
 obtain⟨lg,fA,bM,fC,jN⟩:=IV iC
 refine WL.do rfl (IY Tryz.call85 rfl rfl (uG _ _ f (dz.mk (E0 r)) R S (fF.mk b.aP b.ax b.aU (E0 (s5 af.abs b.ah.ls))) b.ah.A b.ah.ls.length b.ah.c b.ah.ls bK fA (rfl:s5 af.abs b.ah.ls=s5 af.abs b.ah.ls) f1 (λ w9 h9=>sZ (aA (rfl:s5 af.abs b.ah.ls=s5 af.abs b.ah.ls)) ((bM _ (C _ (D1 G)).1) w9 h9)) e6 (λ x9 h9=>⟨bM _ ((C _ (D1 G)).2.2 x9 h9).1,((C _ (D1 G)).2.2 x9 h9).2⟩) f4 (by exact Z) bL) ?_)
 rintro _ lh ⟨iD,iE,rfl,fE,bO⟩
 have dK:=fC _ _ fE
 have jO:=zr 1 dK
 replace bO:bK.xb.ls.length<=r.length+8000:=bO
 refine C4 (bN (Iq (Il (fw (vJ (j+1)) (Ir (e:=C3.wrap ((j:Int)+1)) yk f0) (Mz rfl (C4 ?_))))))
 have iF:=dK.px [] [2] [1]
 exact II (j+1,iD,iE,bK.xb.ls) ⟨rfl,rfl,rfl,rfl,trivial⟩ (aI.2 ⟨iF,e6,e6,et (bG) (et (congrArg (λ q=>jH q r) fu) (ae bL))⟩) (by show a.aK.ls.length - (j+1) < a.aK.ls.length - j; omega)
 refine jF (dF dH) (C5 (IC ?_))
 have fG:jH a.aK.ls Q.xb.ls=r:=et (bG) (et (congrArg (λ q=>jH q r) (dZ (ls:=a.aK.ls) (i:=j) e6)) rfl)
 refine IC (IK (IL (res0 rfl) (C4 (IL (res0 rfl) (ns (Mz rfl (Kz (vP f 0) (Kz (vP f 0) (Lz (.slice R r.length S) T 0 Tryz.isAgg134 (Az rfl (An rfl (rt (Fin.res (lH rfl rfl rfl) ?_)))))))))))))
 have iG:=T.pk [3]
 obtain⟨rfl,rfl⟩:=fD (zj hr zq12)
 exact⟨R,S,rfl,iG,(by first | omega | exact Lp _)⟩
 refine jT (dT bR) (sr (Mz rfl (Az rfl (An rfl (rt (tR (Fin.res (lH rfl rfl rfl) ?_)))))))
 have iH:Own w D iQ [row none 0 0 (q4 eB []) 5 1,blk I [vI a.au,vU a.ax,vU a.bG,vU a.aF, .slice n a.ag.ls.length s, .slice o a.ak.ls.length t, .slice p a.aK.ls.length u] 33]:=fO.free (eP 5 1)
 have iI:=iH.pk [0]
 obtain⟨rfl,rfl⟩:=fD (zj hr zq2)
 exact⟨none,0,rfl,iI,(by first | omega | exact Lp _)⟩
end
open List renaming getD->B8,not_mem_nil->v7
open _root_.Go.Proofs.Tryz renaming call65->P9,call89->P7,func89->P8,isAgg24->P6,sizeOf81->Q0
section
open Go.RowKit
def gu (a:aD):Nat:=
 C6 (C7.wrap (((C6 (C7.wrap (((fQ a.aa.ax 32:Nat):Int)+(a.bT:Int))):Nat):Int)+1))
theorem qy (w D x) (a:aD) (b c d f g h i j k l n o p q r s t u z) (H:Own w D w [mK x a b a.aa.ag.ls.length c d f g h i j k l n o p q r s t u]) (hr:gu a=z):
    Calls v5 126 #[vP x 0] w (dA λ v w'=>v=vU z/\Own w D w' [mK x a b a.aa.ag.ls.length c d f g h i j k l n o p q r s t u]/\(z<=18446744073709551615)):=by
 refine cb Tryz.func126 ?_
 refine sr (An rfl (Ik ?_))
 have y:=H.drew
 refine Jr [] (λ W=> ∃ L',Own w D W ([mK x a b a.aa.ag.ls.length c d f g h i j k l n o p q r s t u]++L')) e7 e7 (IE IQ) ⟨_,y⟩ ?_
 revert y
 generalize World.drew w=C
 intro y
 refine qv 0 rfl rfl (qp x 0 1 rfl (qp x 0 2 rfl (qp x 1 3 rfl (ql 4 rfl 0 D2 rfl rfl rfl ?_))))
 have B:fQ a.aa.ax 32<=18446744073709551615:=pq _ _
 refine qt (v:=vU (fQ a.aa.ax 32)) 5 rfl (λ _ _=>Ir (JO (m:=32) rfl rfl) (fB _)) (qv 6 rfl rfl (qp x 0 7 rfl (qp x 7 8 rfl (ql 9 rfl 0 D2 rfl rfl rfl (qt (v:= .int .u64 ((C6 (C7.wrap (((fQ a.aa.ax 32:Nat):Int)+(a.bT:Int))):Nat):Int)) 10 rfl (λ _ _=>Ir (e:=C7.wrap (((fQ a.aa.ax 32:Nat):Int)+(a.bT:Int))) yk (fB _)) (qt (v:= .int .u64 ((C6 (C7.wrap (((C6 (C7.wrap (((fQ a.aa.ax 32:Nat):Int)+(a.bT:Int))):Nat):Int)+1)):Nat):Int)) 11 rfl (λ _ _=>Ir (e:=C7.wrap (((C6 (C7.wrap (((fQ a.aa.ax 32:Nat):Int)+(a.bT:Int))):Nat):Int)+1)) yk (fB _)) (qa 12 rfl rfl (qn (Iq (rt (rs ?_)))))))))))
 have A:=y.pf []
 obtain rfl:_=C6 (C7.wrap (((C6 (C7.wrap (((fQ a.aa.ax 32:Nat):Int)+(a.bT:Int))):Nat):Int)+1)):=zj hr rfl
 exact⟨rfl,A,(by first | exact lV _ | omega)⟩
def gQ (b:aD):Nat:=
 bnd (gu b) λ a=>bnd (if(b.aC.ls.length:Int) > 0 then bnd (B8 b.aC.ls 0 default) λ c=>min a c.bI else a) λ sJrbJ=>if(b.aa.ak.ls.length:Int) > 0 then bnd (B8 b.aa.ak.ls 0 default) λ d=>min sJrbJ d.aX else sJrbJ
theorem qO (w D p) (d:aD) (y z a f B C E b g F G I J K L M N O P Q r0) (H:Own w D w [mK p d y d.aa.ag.ls.length z a f C E b g G I J K L M N O P Q]) (R:s5 ay.abs B=d.aa.ak.ls) (r:Ro w D λ w'=>aY w' 5 a d.aa.ak.ls.length (q4 ay.cells B)) (aF:d.aa.ak.ls.length<=f/\d.aa.ak.ls.length<=9223372036854775807) (ag:∀ x ∈ B,Ro w D (λ w'=>aY w' 1 x.au.A x.au.ls.length (q4 (eI .i64) x.au.ls))/\(x.au.ls.length<=x.au.c/\x.au.ls.length<=9223372036854775807)) (S:s5 bK.abs F=d.aC.ls) (s:Ro w D λ w'=>aY w' 9 b d.aC.ls.length (q4 bK.cells F)) (aG:d.aC.ls.length<=g/\d.aC.ls.length<=9223372036854775807) (m:∀ x ∈ F,Ro w D (λ w'=>aY w' 6 x.cB.A x.cB.ls.length (q4 aN.cells x.cB.ls))/\(x.cB.ls.length<=x.cB.c/\x.cB.ls.length<=9223372036854775807)/\Ro w D (λ w'=>aY w' 3 x.aO.A x.aO.ls.length (q4 bO.cells x.aO.ls))/\(x.aO.ls.length<=x.aO.c/\x.aO.ls.length<=9223372036854775807)/\(∀ j ∈ x.aO.ls,Ro w D (λ w'=>aY w' 6 j.aB.A j.aB.ls.length (q4 aN.cells j.aB.ls))/\(j.aB.ls.length<=j.aB.c/\j.aB.ls.length<=9223372036854775807)/\Ro w D (λ w'=>aY w' 1 j.aI.A j.aI.ls.length (q4 (eI .i64) j.aI.ls))/\(j.aI.ls.length<=j.aI.c/\j.aI.ls.length<=9223372036854775807))/\Ro w D (λ w'=>aY w' 1 x.bL.A x.bL.ls.length (q4 eL x.bL.ls))/\(x.bL.ls.length<=x.bL.c/\x.bL.ls.length<=9223372036854775807)/\Ro w D (λ w'=>aY w' 1 x.ai.A x.ai.ls.length (q4 (I9 (β:=af)) x.ai.ls))/\(x.ai.ls.length<=x.ai.c/\x.ai.ls.length<=9223372036854775807)/\(∀ j ∈ x.ai.ls,Ro w D (λ w'=>aY w' 3 j.A j.ls.length (q4 af.cells j.ls))/\(j.ls.length<=j.c/\j.ls.length<=9223372036854775807)/\(∀ y2 ∈ j.ls,Ro w D (λ w'=>aY w' 2 y2.aj.A y2.aj.ls.length (q4 aH.cells y2.aj.ls))/\(y2.aj.ls.length<=y2.aj.c/\y2.aj.ls.length<=9223372036854775807)))) (bg:d.aa.ag.ls.length<=1000/\d.aa.ak.ls.length<=1000/\d.aa.aK.ls.length<=1000/\d.aC.ls.length<=1000) (hr:gQ d=r0):
    Calls v5 108 #[vP p 0] w (dA λ v w'=>v=vU r0/\Own w D w' [mK p d y d.aa.ag.ls.length z a f C E b g G I J K L M N O P Q]):=by
 unfold gQ at hr
 have aB:=aA R
 have aC:=aA S
 refine cb Tryz.func108 ?_
 refine sr (Ar rfl (Mz rfl ?_))
 obtain⟨h,T⟩:∃ q,gu d=q:=⟨_,rfl⟩
 obtain⟨bi,ai,aP,aj,aQ⟩:=IZ H
 refine cl Tryz.call126 (qy _ _ p d y z a f C E b g G I J K L M N O P Q h ai T) ?_
 rintro _ bn ⟨rfl,ak,Z⟩
 have t:=aj _ _ ak
 replace Z:h<=18446744073709551615:=Z
 refine An rfl (Ik (sr (Mz rfl (Kz (vP p 0) (Kz (vP p 8) (Lz (.slice b d.aC.ls.length g) t 0 Tryz.isAgg79 (Kz (vJ d.aC.ls.length) (Kz (.bool (decide ((d.aC.ls.length:Int) > 0))) (nt ?_)))))))))
 obtain⟨aI,U⟩:=lF λ (n:Nat) w'=>Own w D w' [mK p d y d.aa.ag.ls.length z a f C E b g G I J K L M N O P Q]/\n<=h/\(if(d.aC.ls.length:Int) > 0 then bnd (B8 d.aC.ls 0 default) λ au=>min h au.bI else h)=n
 refine Jg (λ i:Nat=> [(3,vU i),(2, .int .u64 0),(0,vP p 0)]) aI ?_ ?_
 by_cases X:(d.aC.ls.length:Int) > 0
 refine jT (dT X) (Il (Mz rfl (Mz rfl (Kz (vP p 0) (Kz (vP p 8) (Lz (.slice b d.aC.ls.length g) t 0 Tryz.isAgg79 ?_))))))
 obtain⟨o,l⟩:=dh (ls:=F) (i:=0) bK.len f2 (t.ro s) e9
 have av:=eY S l
 have aR:=(m _ (D1 l)).2.1
 have aS:=(m _ (D1 l)).2.2.2.1
 have aU:s0 (s5 bO.abs o.aO.ls)=o.aO.ls.length:=s3 ..
 have aV:=(m _ (D1 l)).2.2.2.2.2.2.1
 have aW:=(m _ (D1 l)).2.2.2.2.2.2.2.2.1
 have aX:s0 (s5 bP.abs o.ai.ls)=o.ai.ls.length:=s3 ..
 refine fw (.pointer (some ⟨ab b,ao b+0 *9,none⟩)) (Iz (qF) rfl rfl ((t.ro s).addr (i:=0) e6) e6) (Kz (.pointer (some ⟨ab b,ao b+0 *9,none⟩)) (fw (vU o.bI) (IB rfl (bJ.one D2 (((t.ro s).elem bK.len l f2).at_ (k:=0) rfl))) (fw (vU (min h o.bI)) (Ir (e:=if(o.bI:Int) < (h:Int) then(o.bI:Int) else(h:Int)) yk e6) (Az rfl (C4 ?_)))))
 have aJ:=t.pf []
 exact I8 (min h o.bI) ⟨rfl,rfl,rfl,trivial⟩ (U.2 ⟨aJ,e6,et (ip X) (ae (aT av))⟩)
 refine jF (dF X) (IU ?_)
 have aK:=t.pf []
 exact I8 h ⟨rfl,rfl,rfl,trivial⟩ (U.2 ⟨aK,e6,iN X⟩)
 rintro n bq ax
 obtain⟨u,aZ,aa⟩:=U.1 ax
 refine Ik (sr (Mz rfl (Kz (vP p 0) (Kz (vP p 0) (Kz (vP p 5) (Lz (.slice a d.aa.ak.ls.length f) u 0 Tryz.isAgg30 (Kz (vJ d.aa.ak.ls.length) (Kz (.bool (decide ((d.aa.ak.ls.length:Int) > 0))) (nt ?_)))))))))
 by_cases Y:(d.aa.ak.ls.length:Int) > 0
 refine jT (dT Y) (Il (Mz rfl (Mz rfl (Kz (vP p 0) (Kz (vP p 0) (Kz (vP p 5) (Lz (.slice a d.aa.ak.ls.length f) u 0 Tryz.isAgg30 ?_)))))))
 obtain⟨V,W⟩:=dh (ls:=B) (i:=0) ay.len f2 (u.ro r) e9
 have az:=eY R W
 have bf:=(ag _ (D1 W)).2
 refine fw (.pointer (some ⟨ab a,ao a+0 *5,none⟩)) (Iz (kM) rfl rfl ((u.ro r).addr (i:=0) e6) e6) (Kz (.pointer (some ⟨ab a,ao a+0 *5,none⟩)) (fw (vU V.aX) (IB rfl (bJ.one D2 (((u.ro r).elem ay.len W f2).at_ (k:=0) rfl))) (fw (vU (min n V.aX)) (Ir (e:=if(V.aX:Int) < (n:Int) then(V.aX:Int) else(n:Int)) yk e6) (Ar rfl (Mz rfl (An rfl (rt (rs ?_))))))))
 have aL:=u.pf []
 obtain rfl:=zj hr zq4
 exact⟨rfl,aL⟩
 refine jF (dF Y) (sk (sr (Mz rfl (An rfl (rt (rs ?_))))))
 have aM:=u.pf []
 obtain rfl:=zj hr zq3
 exact⟨rfl,aM⟩
def eU (g:bU) (e:Int) (d:bW) (a:aD):List fF->Unit ⊕ bU
  | []=>Sum.inl ()
  | b::c=>if b.aP=e then if(b.ax:Int)=(d.ax:Int) then if(b.aU:Int)=(d.aU:Int) then bnd (dM g (bW.mk 2 0 (C3.wrap (10+e)) 0 1 0 d.aU a.aa.ax 0 0 0 0 0 0 0 false (aL.mk [] []) (E0 []) (E0 b.ah.ls) (E0 []))) λ f=>Sum.inr (f) else eU g e d a c else eU g e d a c else eU g e d a c
def lK (c:bU) (d:Int) (e:bW) (a:aD):bU:=
 lp (eU c d e a a.aa.aK.ls) λ _=>bnd (dM c (bW.mk 2 0 (C3.wrap (10+d)) 0 2 0 e.aU a.aa.ax 0 0 0 0 0 0 0 false (aL.mk [] []) (E0 []) (E0 []) (E0 []))) λ b=>b
theorem uo (w D g0) (K:bU) (L M G J) (f:bW) (av aV ax ay aW az aG aB aX aC d) (a:aD) (O P Q R h j p S T r s U t u V y z W B C X E F Y) (r0:bU) (H:Own w D w [blk g0 [.pointer (some ⟨d,0,none⟩), .slice L K.bF.ls.length M] 98,row L K.bF.ls.length M (q4 bz.cells G) 42 21,sepL (q4 bz.own G),mK d a O a.aa.ag.ls.length P Q R h j S T r s t u y z B C E F]) (ai:s5 bz.abs G=K.bF.ls) (bA:aV=f.aB.ls.length) (dQ:Ro w D λ w'=>aY w' 6 av f.aB.ls.length (q4 aN.cells f.aB.ls)) (dR:f.aB.ls.length<=ax/\f.aB.ls.length<=9223372036854775807) (bB:s5 af.abs aG=f.ah.ls) (bC:aW=f.ah.ls.length) (dS:Ro w D λ w'=>aY w' 3 ay f.ah.ls.length (q4 af.cells aG)) (dU:f.ah.ls.length<=az/\f.ah.ls.length<=9223372036854775807) (dV:∀ x ∈ aG,Ro w D (λ w'=>aY w' 2 x.aj.A x.aj.ls.length (q4 aH.cells x.aj.ls))/\(x.aj.ls.length<=x.aj.c/\x.aj.ls.length<=9223372036854775807)) (bD:aX=f.ag.ls.length) (dW:Ro w D λ w'=>aY w' 2 aB f.ag.ls.length (q4 aM.cells f.ag.ls)) (dX:f.ag.ls.length<=aC/\f.ag.ls.length<=9223372036854775807) (Z:s5 aS.abs p=a.aa.aK.ls) (I:Ro w D λ w'=>aY w' 4 h a.aa.aK.ls.length (q4 aS.cells p)) (bQ:a.aa.aK.ls.length<=j/\a.aa.aK.ls.length<=9223372036854775807) (n:∀ x ∈ p,Ro w D (λ w'=>aY w' 3 x.ah.A x.ah.ls.length (q4 af.cells x.ah.ls))/\(x.ah.ls.length<=x.ah.c/\x.ah.ls.length<=9223372036854775807)/\(∀ y1 ∈ x.ah.ls,Ro w D (λ w'=>aY w' 2 y1.aj.A y1.aj.ls.length (q4 aH.cells y1.aj.ls))/\(y1.aj.ls.length<=y1.aj.c/\y1.aj.ls.length<=9223372036854775807))) (aI:s5 af.abs U=a.bM.ai.ls) (bS:Ro w D λ w'=>aY w' 3 r a.bM.ai.ls.length (q4 af.cells U)) (bT:a.bM.ai.ls.length<=s/\a.bM.ai.ls.length<=9223372036854775807) (bV:∀ x ∈ U,Ro w D (λ w'=>aY w' 2 x.aj.A x.aj.ls.length (q4 aH.cells x.aj.ls))/\(x.aj.ls.length<=x.aj.c/\x.aj.ls.length<=9223372036854775807)) (aJ:s5 af.abs V=a.bD.ai.ls) (bX:Ro w D λ w'=>aY w' 3 t a.bD.ai.ls.length (q4 af.cells V)) (bY:a.bD.ai.ls.length<=u/\a.bD.ai.ls.length<=9223372036854775807) (bZ:∀ x ∈ V,Ro w D (λ w'=>aY w' 2 x.aj.A x.aj.ls.length (q4 aH.cells x.aj.ls))/\(x.aj.ls.length<=x.aj.c/\x.aj.ls.length<=9223372036854775807)) (aK:s5 af.abs W=a.bA.ai.ls) (cu:Ro w D λ w'=>aY w' 3 y a.bA.ai.ls.length (q4 af.cells W)) (cz:a.bA.ai.ls.length<=z/\a.bA.ai.ls.length<=9223372036854775807) (cB:∀ x ∈ W,Ro w D (λ w'=>aY w' 2 x.aj.A x.aj.ls.length (q4 aH.cells x.aj.ls))/\(x.aj.ls.length<=x.aj.c/\x.aj.ls.length<=9223372036854775807)) (aO:s5 af.abs X=a.bC.ai.ls) (cK:Ro w D λ w'=>aY w' 3 B a.bC.ai.ls.length (q4 af.cells X)) (cO:a.bC.ai.ls.length<=C/\a.bC.ai.ls.length<=9223372036854775807) (cZ:∀ x ∈ X,Ro w D (λ w'=>aY w' 2 x.aj.A x.aj.ls.length (q4 aH.cells x.aj.ls))/\(x.aj.ls.length<=x.aj.c/\x.aj.ls.length<=9223372036854775807)) (aP:s5 af.abs Y=a.bB.ai.ls) (di:Ro w D λ w'=>aY w' 3 E a.bB.ai.ls.length (q4 af.cells Y)) (dm:a.bB.ai.ls.length<=F/\a.bB.ai.ls.length<=9223372036854775807) (dw:∀ x ∈ Y,Ro w D (λ w'=>aY w' 2 x.aj.A x.aj.ls.length (q4 aH.cells x.aj.ls))/\(x.aj.ls.length<=x.aj.c/\x.aj.ls.length<=9223372036854775807)) (fM:a.aa.ag.ls.length<=1000/\a.aa.ak.ls.length<=1000/\a.aa.aK.ls.length<=1000/\a.aC.ls.length<=1000/\K.bF.ls.length<=100000) (fO:Mk a) (hr:lK K J f a=r0):
    Calls v5 86 #[vP g0 0,vI J, .agg (iA f.av f.aI f.eO f.aP f.dK f.fA f.aU f.ax f.aX f.eQ f.bG f.aF f.eG f.cZ f.xN f.fe f.cu.aJ f.cu.aR av aV ax ay aW az aB aX aC).toArray] w (dA λ v w'=> ∃ aQ aR aj,v= .tuple #[]/\Own w D w' [blk g0 [vP d 0, .slice aQ r0.bF.ls.length aR] 98,row aQ r0.bF.ls.length aR (q4 bz.cells aj) 42 21,sepL (q4 bz.own aj),mK d a O a.aa.ag.ls.length P Q R h j S T r s t u y z B C E F]/\(s5 bz.abs aj=r0.bF.ls)):=by
 subst bA bC bD
 have dO:=aA ai
 have dP:=aA bB
 have bI:=aA Z
 have bJ:=aA aI
 have bK:=aA aJ
 have bL:=aA aK
 have bM:=aA aO
 have bO:=aA aP
 have dY:=zr 1 H
 refine cb Tryz.func86 ?_
 refine sr ?_
 refine dn (gK f av ax ay az aB aC) 42 H ?_
 intro ak fP bE
 refine nt (Ik (sr (Mz rfl (Kz (vP g0 0) (Kz (vP g0 0) (Lz (vP d 0) bE 1 P6 (Kz (vP d 0) (Kz (vP d 0) (Kz (vP d 6) (Lz (.slice h a.aa.aK.ls.length j) bE 4 Tryz.isAgg31 (Kz (vJ a.aa.aK.ls.length) (Mn rfl (bo ?_)))))))))))))
 have ed:=bE.pf []
 obtain⟨ek,aa⟩:=lF λ (g:Nat) w'=>Own w D w' [blk ak (gK f av ax ay az aB aC) 42,blk g0 [vP d 0, .slice L K.bF.ls.length M] 98,row L K.bF.ls.length M (q4 bz.cells G) 42 21,sepL (q4 bz.own G),mK d a O a.aa.ag.ls.length P Q R h j S T r s t u y z B C E F]/\g<=a.aa.aK.ls.length/\eU K J f a a.aa.aK.ls=eU K J f a (List.drop g a.aa.aK.ls)
 refine Wp.loop (λ i:Nat=> [(17,vJ i),(16,vJ a.aa.aK.ls.length),(15, .slice h a.aa.aK.ls.length j),(5,vP ak 0),(0,vP g0 0),(1,vI J)]) ek (λ i=>a.aa.aK.ls.length - i) 0 ⟨rfl,rfl,rfl,rfl,rfl,rfl,trivial⟩ (aa.2 ⟨ed,e6,rfl⟩) ?_
 rintro g fQ dx
 obtain⟨ag,fq,ah⟩:=aa.1 dx
 refine sr (Kz (.bool (decide ((g:Int) < (a.aa.aK.ls.length:Int)))) (nt (Ik ?_)))
 by_cases dz:(g:Int) < (a.aa.aK.ls.length:Int)
 obtain⟨b,N⟩:=dh (ls:=p) (i:=g) aS.len f2 (ag.ro I) e9
 have aZ:=eY Z N
 have fu:=(n _ (D1 N)).2.1
 have fA:s0 (s5 af.abs b.ah.ls)=b.ah.ls.length:=s3 ..
 have dB:mV (s5 af.abs b.ah.ls):=Fp f5 aZ
 have fB:b.ah.ls.length<=1000:=by have q9:=dB.1; rw [s3] at q9; exact q9
 have aF:=drop_at aZ
 refine jT (dT dz) (sk (Ik (bo (sr (fw (.pointer (some ⟨ab h,ao h+g *4,none⟩)) (Iz (lW) rfl rfl ((ag.ro I).addr (i:=g) e6) e6) (fw (.agg (aS.cells b).toArray) (IB rfl (IJ (cs:=(aS.cells b)) Tryz.isAgg56 Tryz.sizeOf56 ((ag.ro I).elem aS.len N f2))) ?_))))))
 refine dn [vI 0, .int .u64 0, .int .u64 0, .slice none 0 0] 56 ag ?_
 intro aT fT eu
 refine df (aS.cells b) 0 eu Tryz.sizeOf56 ?_
 intro fU o
 refine ns (Kz (vP aT 0) (Lz (vI b.aP) o 0 Tryz.isAgg3 (Mz rfl (Kz (.bool (decide (b.aP=J))) (Mz rfl ?_)))))
 by_cases l:b.aP=J
 refine Gz (vP aT 1) (dT l) (Gl (vU b.ax) (dT l) o 0 D2 (Gz (vP ak 7) (dT l) (Gl (vU f.ax) (dT l) o 1 D2 (Gz (.bool (decide ((b.ax:Int)=(f.ax:Int)))) (dT l) (fw (.bool (decide ((b.ax:Int)=(f.ax:Int)))) (Iw rfl (dT l) rfl) (Mz rfl ?_))))))
 by_cases m:(b.ax:Int)=(f.ax:Int)
 refine Gz (vP aT 2) (dT m) (Gl (vU b.aU) (dT m) o 0 D2 (Gz (vP ak 6) (dT m) (Gl (vU f.aU) (dT m) o 1 D2 (Gz (.bool (decide ((b.aU:Int)=(f.aU:Int)))) (dT m) (fw (.bool (decide ((b.aU:Int)=(f.aU:Int)))) (Iw rfl (dT m) rfl) (nt ?_))))))
 by_cases aU:(b.aU:Int)=(f.aU:Int)
 refine jT (dT aU) (sr (Mz rfl (Mz rfl (Kz (vP ak 6) (Lz (vU f.aU) o 1 D2 (Kz (vP aT 3) (Lz (.slice b.ah.A b.ah.ls.length b.ah.c) o 0 Tryz.isAgg40 ?_)))))))
 refine WL.do rfl (IP P7 rfl ?_ (λ _ _ k=>k))
 refine cb P8 ?_
 refine Il (Mz rfl (Mz rfl (Kz (vI (C3.wrap (10+J))) (Mz rfl (Mz rfl (Kz (vP g0 0) (Kz (vP g0 0) (Lz (vP d 0) o 2 P6 (Kz (vP d 0) (Kz (vP d 0) (Kz (vP d 1) (Lz (vU a.aa.ax) o 5 D2 (Mz rfl (Mz rfl (Kz (.agg (iA 2 0 (C3.wrap (10+J)) 0 1 0 f.aU a.aa.ax 0 0 0 0 0 0 0 false [] [] none 0 0 b.ah.A b.ah.ls.length b.ah.c none 0 0).toArray) ?_)))))))))))))))
 have eB:=o.pb [0,1,5]
 obtain⟨bF,bf⟩:∃ q,dM K (bW.mk 2 0 (C3.wrap (10+J)) 0 1 0 f.aU a.aa.ax 0 0 0 0 0 0 0 false (aL.mk [] []) (E0 []) (E0 (s5 af.abs b.ah.ls)) (E0 []))=q:=⟨_,rfl⟩
 obtain⟨fV,dC,bg,dD,fD⟩:=Ja eB
 refine cl P9 (gV _ _ g0 K L M G d (bW.mk 2 0 (C3.wrap (10+J)) 0 1 0 f.aU a.aa.ax 0 0 0 0 0 0 0 false (aL.mk [] []) (E0 []) (E0 (s5 af.abs b.ah.ls)) (E0 [])) none 0 0 b.ah.A b.ah.ls.length b.ah.c b.ah.ls none 0 0 bF dC ai rfl (λ _ _=>aY.nil _ _ _) f3 (rfl:s5 af.abs b.ah.ls=s5 af.abs b.ah.ls) f1 (λ w9 h9=>sZ (aA (rfl:s5 af.abs b.ah.ls=s5 af.abs b.ah.ls)) ((bg _ (n _ (D1 N)).1) w9 h9)) e6 (λ x9 h9=>⟨bg _ ((n _ (D1 N)).2.2 x9 h9).1,((n _ (D1 N)).2.2 x9 h9).2⟩) rfl (λ _ _=>aY.nil _ _ _) f3 e8 (by first | assumption | exact d9 f5 | exact λ x hx=>absurd hx v7 | exact d9 (Mk.nK f5).1 | exact d9 (Mk.mh f5).1 | exact d9 (Mk.nV f5).1 | exact d9 (Mk.nW f5).1 | exact d9 (Mk.nX f5).1) bf) ?_
 rintro _ gm ⟨eD,eF,eG,rfl,dE,bi,bn⟩
 have dG:=dD _ _ dE
 have fF:=aA bi
 have fG:=zr 1 dG
 replace bn:bF.bF.ls.length=K.bF.ls.length+1:=bn
 refine C4 (IL (res0 rfl) (nt (rt (bR (tR (tR (bR (tR (Fin.res (res0 rfl) ?_)))))))))
 have eH:=dG.pk [0,1,2,5]
 obtain rfl:_=bF:=zj hr (gL (et (ah) (et (congrArg (λ q=>eU K J f a q) aF) (et (ip l) (et (ip m) (et (ip aU) (ae bf)))))))
 exact⟨eD,eF,eG,rfl,eH,bi⟩
 refine jF (dF aU) (IU (bN (Iq (Il (fw (vJ (g+1)) (Ir (e:=C3.wrap ((g:Int)+1)) yk f0) (Mz rfl (C4 ?_)))))))
 have eO:=o.px [] [0] []
 exact II (g+1) ⟨rfl,rfl,rfl,rfl,rfl,rfl,trivial⟩ (aa.2 ⟨eO,e6,et (ah) (et (congrArg (λ q=>eU K J f a q) aF) (et (ip l) (et (ip m) (iN aU))))⟩) (by show a.aa.aK.ls.length - (g+1) < a.aa.aK.ls.length - g; omega)
 refine Sz (dF m) (Sz (dF m) (Sz (dF m) (Sz (dF m) (Sz (dF m) (fw (.bool false) (Io rfl (dF m) rfl) (nt (jf (IU (bN (Iq (Il (fw (vJ (g+1)) (Ir (e:=C3.wrap ((g:Int)+1)) yk f0) (Mz rfl (C4 ?_))))))))))))))
 have eP:=o.px [] [0] []
 exact II (g+1) ⟨rfl,rfl,rfl,rfl,rfl,rfl,trivial⟩ (aa.2 ⟨eP,e6,et (ah) (et (congrArg (λ q=>eU K J f a q) aF) (et (ip l) (iN m)))⟩) (by show a.aa.aK.ls.length - (g+1) < a.aa.aK.ls.length - g; omega)
 refine Sz (dF l) (Sz (dF l) (Sz (dF l) (Sz (dF l) (Sz (dF l) (fw (.bool false) (Io rfl (dF l) rfl) (Mz rfl (Sz rfl (Sz rfl (Sz rfl (Sz rfl (Sz rfl (fw (.bool false) (Io rfl rfl rfl) (nt (jf (IU (bN (Iq (Il (fw (vJ (g+1)) (Ir (e:=C3.wrap ((g:Int)+1)) yk f0) (Mz rfl (C4 ?_)))))))))))))))))))))
 have eQ:=o.px [] [0] []
 exact II (g+1) ⟨rfl,rfl,rfl,rfl,rfl,rfl,trivial⟩ (aa.2 ⟨eQ,e6,et (ah) (et (congrArg (λ q=>eU K J f a q) aF) (iN l))⟩) (by show a.aa.aK.ls.length - (g+1) < a.aa.aK.ls.length - g; omega)
 refine jF (dF dz) (Wp.exit (IC ?_))
 have dH:eU K J f a a.aa.aK.ls=Sum.inl ():=et (ah) (et (congrArg (λ q=>eU K J f a q) (dZ (ls:=a.aa.aK.ls) (i:=g) e6)) rfl)
 refine IC (IK (Iq (Il (Mz rfl (Mz rfl (Kz (vP ak 6) (Lz (vU f.aU) ag 0 D2 ?_)))))))
 refine WL.do rfl (IP P7 rfl ?_ (λ _ _ k=>k))
 refine cb P8 ?_
 refine Il (Mz rfl (Mz rfl (Kz (vI (C3.wrap (10+J))) (Mz rfl (Mz rfl (Kz (vP g0 0) (Kz (vP g0 0) (Lz (vP d 0) ag 1 P6 (Kz (vP d 0) (Kz (vP d 0) (Kz (vP d 1) (Lz (vU a.aa.ax) ag 4 D2 (Mz rfl (Mz rfl (Kz (.agg (iA 2 0 (C3.wrap (10+J)) 0 2 0 f.aU a.aa.ax 0 0 0 0 0 0 0 false [] [] none 0 0 none 0 0 none 0 0).toArray) ?_)))))))))))))))
 have eT:=ag.pb [0,4]
 obtain⟨bG,bq⟩:∃ q,dM K (bW.mk 2 0 (C3.wrap (10+J)) 0 2 0 f.aU a.aa.ax 0 0 0 0 0 0 0 false (aL.mk [] []) (E0 []) (E0 []) (E0 []))=q:=⟨_,rfl⟩
 obtain⟨gp,dI,fH,dJ,fI⟩:=Ja eT
 refine cl P9 (gV _ _ g0 K L M G d (bW.mk 2 0 (C3.wrap (10+J)) 0 2 0 f.aU a.aa.ax 0 0 0 0 0 0 0 false (aL.mk [] []) (E0 []) (E0 []) (E0 [])) none 0 0 none 0 0 [] none 0 0 bG dI ai rfl (λ _ _=>aY.nil _ _ _) f3 rfl rfl (λ _ _=>aY.nil _ _ _) f3 (λ _ h9=>absurd h9 v7) rfl (λ _ _=>aY.nil _ _ _) f3 e8 (by first | assumption | exact d9 f5 | exact λ x hx=>absurd hx v7 | exact d9 (Mk.nK f5).1 | exact d9 (Mk.mh f5).1 | exact d9 (Mk.nV f5).1 | exact d9 (Mk.nW f5).1 | exact d9 (Mk.nX f5).1) bq) ?_
 rintro _ gq ⟨eX,eZ,fe,rfl,dK,bu,bv⟩
 have dL:=dJ _ _ dK
 have fJ:=aA bu
 have fK:=zr 1 dL
 replace bv:bG.bF.ls.length=K.bF.ls.length+1:=bv
 refine C4 (IL (res0 rfl) (C4 (IL (res0 rfl) ?_)))
 have fo:=dL.px [] [3] []
 obtain rfl:_=bG:=zj hr (et (mF dH) (ae bq))
 exact⟨eX,eZ,fe,rfl,fo,bu⟩
def dL (k:bU) (e:Int) (c:Nat) (d:Int) (g:List aQ) (a:aD):bU × aD:=
 bnd (iT g) λ b=>if((C6 e:Nat):Int)=1 then bnd (dM k (bW.mk 2 0 (10+e) 0 d 0 c a.aa.ax 0 0 0 0 0 0 0 false (aL.mk [] []) (E0 []) (E0 g) (E0 []))) λ h=>(h,aD.mk a.aa a.bT (E0 a.aC.ls) a.bM (dU.mk true c d (E0 b)) a.bA a.bC a.bB a.dO a.dG a.dH a.dD a.dE) else if((C6 e:Nat):Int)=2 then bnd (dM k (bW.mk 2 0 (10+e) 0 d 0 c a.aa.ax 0 0 0 0 0 0 0 false (aL.mk [] []) (E0 []) (E0 g) (E0 []))) λ i=>(i,aD.mk a.aa a.bT (E0 a.aC.ls) a.bM a.bD (dU.mk true c d (E0 b)) a.bC a.bB a.dO a.dG a.dH a.dD a.dE) else if((C6 e:Nat):Int)=3 then bnd (dM k (bW.mk 2 0 (10+e) 0 d 0 c a.aa.ax 0 0 0 0 0 0 0 false (aL.mk [] []) (E0 []) (E0 g) (E0 []))) λ j=>(j,aD.mk a.aa a.bT (E0 a.aC.ls) a.bM a.bD a.bA (dU.mk true c d (E0 b)) a.bB a.dO a.dG a.dH a.dD a.dE) else bnd (dM k (bW.mk 2 0 (10+e) 0 d 0 c a.aa.ax 0 0 0 0 0 0 0 false (aL.mk [] []) (E0 []) (E0 g) (E0 []))) λ f=>(f,aD.mk a.aa a.bT (E0 a.aC.ls) a.bM a.bD a.bA a.bC (dU.mk true c d (E0 b)) a.dO a.dG a.dH a.dD a.dE)
theorem jM (w D W) (V:bU) (R S L s M N A4 n4 Z d4 h b) (a:aD) (au av ax ay az aB aC aF j l f t u m y z n B C p E F r) (r0:bU) (d:aD) (H:Own w D w [blk W [.pointer (some ⟨b,0,none⟩), .slice R V.bF.ls.length S] 98,row R V.bF.ls.length S (q4 bz.cells L) 42 21,sepL (q4 bz.own L),mK b a au a.aa.ag.ls.length av ax ay az aB aC aF j l t u y z B C E F,row j a.bM.ai.ls.length l (q4 af.cells f) 149 3,sepL (q4 af.own f),row t a.bD.ai.ls.length u (q4 af.cells m) 149 3,sepL (q4 af.own m),row y a.bA.ai.ls.length z (q4 af.cells n) 149 3,sepL (q4 af.own n),row B a.bC.ai.ls.length C (q4 af.cells p) 149 3,sepL (q4 af.own p),row E a.bB.ai.ls.length F (q4 af.cells r) 149 3,sepL (q4 af.own r)]) (O:s5 bz.abs L=V.bF.ls) (aK:s5 af.abs d4=h) (aN:Ro w D λ w'=>aY w' 3 A4 n4 (q4 af.cells d4)) (P:∀ x ∈ d4,Ro w D (λ w'=>aY w' 2 x.aj.A x.aj.ls.length (q4 aH.cells x.aj.ls))/\(x.aj.ls.length<=x.aj.c/\x.aj.ls.length<=9223372036854775807)) (eP:n4=h.length) (gF:h.length *48<=211106232532992) (gG:h.length<=Z) (g:s5 af.abs f=a.bM.ai.ls) (G:s5 af.abs m=a.bD.ai.ls) (I:s5 af.abs n=a.bA.ai.ls) (J:s5 af.abs p=a.bC.ai.ls) (K:s5 af.abs r=a.bB.ai.ls) (gH:V.bF.ls.length<=100000) (gI:1<=s/\s<=4) (gJ:h.length<=1000) (gK:mV h) (hr:dL V s M N h a=(r0,d)):
    Calls v5 106 #[vP W 0,vI s,vU M,vI N, .slice A4 n4 Z] w (dA λ v w'=> ∃ aO aP aa aR aS ag aT aU ah aV aW ai aX aZ aj bf bg ak,v= .tuple #[]/\Own w D w' [blk W [vP b 0, .slice aO r0.bF.ls.length aP] 98,row aO r0.bF.ls.length aP (q4 bz.cells aa) 42 21,sepL (q4 bz.own aa),blk b [vI d.aa.au,vU d.aa.ax,vU d.aa.bG,vU d.aa.aF, .slice au a.aa.ag.ls.length av, .slice ax a.aa.ak.ls.length ay, .slice az a.aa.aK.ls.length aB,vU d.bT, .slice aC a.aC.ls.length aF, .bool d.bM.dB,vU d.bM.bi,vI d.bM.dP, .slice aR d.bM.ai.ls.length aS, .bool d.bD.dB,vU d.bD.bi,vI d.bD.dP, .slice aT d.bD.ai.ls.length aU, .bool d.bA.dB,vU d.bA.bi,vI d.bA.dP, .slice aV d.bA.ai.ls.length aW, .bool d.bC.dB,vU d.bC.bi,vI d.bC.dP, .slice aX d.bC.ai.ls.length aZ, .bool d.bB.dB,vU d.bB.bi,vI d.bB.dP, .slice bf d.bB.ai.ls.length bg,vU d.dO,vU d.dG,vU d.dH,vU d.dD,vU d.dE, .pointer none] 86,row aR d.bM.ai.ls.length aS (q4 af.cells ag) 149 3,sepL (q4 af.own ag),row aT d.bD.ai.ls.length aU (q4 af.cells ah) 149 3,sepL (q4 af.own ah),row aV d.bA.ai.ls.length aW (q4 af.cells ai) 149 3,sepL (q4 af.own ai),row aX d.bC.ai.ls.length aZ (q4 af.cells aj) 149 3,sepL (q4 af.own aj),row bf d.bB.ai.ls.length bg (q4 af.cells ak) 149 3,sepL (q4 af.own ak)]/\(s5 bz.abs aa=r0.bF.ls)/\(s5 af.abs ag=d.bM.ai.ls)/\(s5 af.abs ah=d.bD.ai.ls)/\(s5 af.abs ai=d.bA.ai.ls)/\(s5 af.abs aj=d.bC.ai.ls)/\(s5 af.abs ak=d.bB.ai.ls)/\(r0.bF.ls.length=V.bF.ls.length+1)):=by
 unfold dL at hr
 subst eP
 have fP:=aA aK
 have eH:=aA O
 have df:=aA g
 have dh:=aA G
 have di:=aA I
 have dm:=aA J
 have dn:=aA K
 have eQ:=zr 1 H
 have dx:=zr 4 H
 have dz:=zr 6 H
 have dB:=zr 8 H
 have dC:=zr 10 H
 have dD:=zr 12 H
 refine cb Tryz.func106 ?_
 refine Ik ?_
 have eT:=H.pb [3]
 refine oV 13 [] (IE IQ) eT ?_
 intro gL eU
 refine qv 0 rfl rfl (qp W 0 1 rfl (qp W 0 2 rfl (ql 3 rfl 0 P6 rfl rfl rfl (qt (v:=vJ (C6 s)) 4 rfl (λ _ _=>Ir (e:=s) (IA rfl) e6) (qv 5 rfl rfl (qv 6 rfl rfl (qv 7 rfl rfl (qp b 0 10 rfl (qp b 9 11 rfl ?_)))))))))
 obtain⟨Q,X⟩:∃ q,iT h=q:=⟨_,rfl⟩
 obtain⟨gM,dE,bJ,dF,fQ⟩:=Iu eU
 refine qd 8 rfl (IP Tryz.call48 rfl (l8 _ _ A4 h.length Z d4 h Q dE aK (bJ _ aN) (λ x9 h9=>⟨bJ _ (P x9 h9).1,(P x9 h9).2⟩) rfl e6 (by first | assumption | exact d9 f5 | (intro x hx; exact absurd hx v7)) X) ?_)
 rintro _ gN ⟨T,U,bD,rfl,dG,Y⟩
 have dH:=dF _ _ dG
 have fT:=aA Y
 have fU:=zr 0 dH
 have bi:=dH.pb [0,1,15]
 refine⟨.inr ⟨_,bi⟩, ?_⟩
 refine qk (.agg #[.bool true,vU M,vI N, .slice T Q.length U]) 9 rfl ?_
 by_cases bE:((C6 s:Nat):Int)=1
 refine qt (v:=vP b 13) 12 rfl (λ _ _=>by(try unfold vJ); rw [show ((C6 s:Nat):Int)=1 from by omega]; exact yk) ?_
 have eX:=bi.pf [15]
 refine qe 13 rfl (Do.store (vs:= [.bool true,vU M,vI N, .slice T Q.length U]) (o:=13) eX rfl rfl Q0 rfl rfl rfl rfl ?_)
 intro gP eY
 have bF:=eY.pb [0,14,15]
 refine⟨.inr ⟨_,bF⟩, ?_⟩
 refine qn (Iq (Il (Mz rfl (Mz rfl (Mz rfl (Mz rfl (Mz rfl ?_)))))))
 refine WL.do rfl (IP P7 rfl ?_ (λ _ _ k=>k))
 refine cb P8 ?_
 refine Il (Mz rfl (Mz rfl (fw (vI (10+s)) (Ir (e:=C3.wrap (10+s)) yk g1) (Mz rfl (Mz rfl (Kz (vP W 0) (Kz (vP W 0) (Lz (vP b 0) bF 0 P6 (Kz (vP b 0) (Kz (vP b 0) (Kz (vP b 1) (Lz (vU a.aa.ax) bF 13 D2 (Mz rfl (Mz rfl (Kz (.agg (iA 2 0 (10+s) 0 N 0 M a.aa.ax 0 0 0 0 0 0 0 false [] [] none 0 0 A4 h.length Z none 0 0).toArray) ?_)))))))))))))))
 obtain⟨bY,bK⟩:∃ q,dM V (bW.mk 2 0 (10+s) 0 N 0 M a.aa.ax 0 0 0 0 0 0 0 false (aL.mk [] []) (E0 []) (E0 h) (E0 []))=q:=⟨_,rfl⟩
 obtain⟨gQ,dI,bL,dJ,fV⟩:=Ja bF
 refine cl P9 (gV _ _ W V R S L b (bW.mk 2 0 (10+s) 0 N 0 M a.aa.ax 0 0 0 0 0 0 0 false (aL.mk [] []) (E0 []) (E0 h) (E0 [])) none 0 0 A4 h.length Z d4 none 0 0 bY dI O rfl (λ _ _=>aY.nil _ _ _) f3 aK rfl (bL _ aN) e6 (λ x9 h9=>⟨bL _ (P x9 h9).1,(P x9 h9).2⟩) rfl (λ _ _=>aY.nil _ _ _) f3 e8 (by first | assumption | exact d9 f5 | exact λ x hx=>absurd hx v7 | exact d9 (Mk.nK f5).1 | exact d9 (Mk.mh f5).1 | exact d9 (Mk.nV f5).1 | exact d9 (Mk.nW f5).1 | exact d9 (Mk.nX f5).1) bK) ?_
 rintro _ gT ⟨eZ,fe,fo,rfl,dK,bM,bN⟩
 have dN:=dJ _ _ dK
 have fZ:=aA bM
 have gm:=zr 1 dN
 replace bN:bY.bF.ls.length=V.bF.ls.length+1:=bN
 refine C4 (IL (res0 rfl) (C4 (IL (res0 rfl) ?_)))
 have fq:=dN.px [0,1,2,13,3,4,14,15] [5,6] []
 obtain⟨rfl,rfl⟩:=fD (zj hr zq3)
 exact⟨eZ,fe,fo,j,l,f,T,U,bD,y,z,n,B,C,p,E,F,r,rfl,fq,bM,g,Y,I,J,K,i2⟩
 by_cases bZ:((C6 s:Nat):Int)=2
 refine qt (v:=vP b 17) 12 rfl (λ _ _=>by(try unfold vJ); rw [show ((C6 s:Nat):Int)=2 from by omega]; exact yk) ?_
 have fu:=bi.pf [15]
 refine qe 13 rfl (Do.store (vs:= [.bool true,vU M,vI N, .slice T Q.length U]) (o:=17) fu rfl rfl Q0 rfl rfl rfl rfl ?_)
 intro gU fA
 have bG:=fA.pb [0,14,15]
 refine⟨.inr ⟨_,bG⟩, ?_⟩
 refine qn (Iq (Il (Mz rfl (Mz rfl (Mz rfl (Mz rfl (Mz rfl ?_)))))))
 refine WL.do rfl (IP P7 rfl ?_ (λ _ _ k=>k))
 refine cb P8 ?_
 refine Il (Mz rfl (Mz rfl (fw (vI (10+s)) (Ir (e:=C3.wrap (10+s)) yk g1) (Mz rfl (Mz rfl (Kz (vP W 0) (Kz (vP W 0) (Lz (vP b 0) bG 0 P6 (Kz (vP b 0) (Kz (vP b 0) (Kz (vP b 1) (Lz (vU a.aa.ax) bG 13 D2 (Mz rfl (Mz rfl (Kz (.agg (iA 2 0 (10+s) 0 N 0 M a.aa.ax 0 0 0 0 0 0 0 false [] [] none 0 0 A4 h.length Z none 0 0).toArray) ?_)))))))))))))))
 obtain⟨cu,bO⟩:∃ q,dM V (bW.mk 2 0 (10+s) 0 N 0 M a.aa.ax 0 0 0 0 0 0 0 false (aL.mk [] []) (E0 []) (E0 h) (E0 []))=q:=⟨_,rfl⟩
 obtain⟨gW,dO,bP,dP,gp⟩:=Ja bG
 refine cl P9 (gV _ _ W V R S L b (bW.mk 2 0 (10+s) 0 N 0 M a.aa.ax 0 0 0 0 0 0 0 false (aL.mk [] []) (E0 []) (E0 h) (E0 [])) none 0 0 A4 h.length Z d4 none 0 0 cu dO O rfl (λ _ _=>aY.nil _ _ _) f3 aK rfl (bP _ aN) e6 (λ x9 h9=>⟨bP _ (P x9 h9).1,(P x9 h9).2⟩) rfl (λ _ _=>aY.nil _ _ _) f3 e8 (by first | assumption | exact d9 f5 | exact λ x hx=>absurd hx v7 | exact d9 (Mk.nK f5).1 | exact d9 (Mk.mh f5).1 | exact d9 (Mk.nV f5).1 | exact d9 (Mk.nW f5).1 | exact d9 (Mk.nX f5).1) bO) ?_
 rintro _ gX ⟨fB,fC,fE,rfl,dQ,bQ,bR⟩
 have dR:=dP _ _ dQ
 have gq:=aA bQ
 have gu:=zr 1 dR
 replace bR:cu.bF.ls.length=V.bF.ls.length+1:=bR
 refine C4 (IL (res0 rfl) (C4 (IL (res0 rfl) ?_)))
 have fF:=dR.px [0,1,2,13] [7,8] [9,10,11,12]
 obtain⟨rfl,rfl⟩:=fD (zj hr zq4)
 exact⟨fB,fC,fE,j,l,f,t,u,m,T,U,bD,B,C,p,E,F,r,rfl,fF,bQ,g,G,Y,J,K,i2⟩
 by_cases dS:((C6 s:Nat):Int)=3
 refine qt (v:=vP b 21) 12 rfl (λ _ _=>by(try unfold vJ); rw [show ((C6 s:Nat):Int)=3 from by omega]; exact yk) ?_
 have fG:=bi.pf [15]
 refine qe 13 rfl (Do.store (vs:= [.bool true,vU M,vI N, .slice T Q.length U]) (o:=21) fG rfl rfl Q0 rfl rfl rfl rfl ?_)
 intro gY fH
 have bH:=fH.pb [0,14,15]
 refine⟨.inr ⟨_,bH⟩, ?_⟩
 refine qn (Iq (Il (Mz rfl (Mz rfl (Mz rfl (Mz rfl (Mz rfl ?_)))))))
 refine WL.do rfl (IP P7 rfl ?_ (λ _ _ k=>k))
 refine cb P8 ?_
 refine Il (Mz rfl (Mz rfl (fw (vI (10+s)) (Ir (e:=C3.wrap (10+s)) yk g1) (Mz rfl (Mz rfl (Kz (vP W 0) (Kz (vP W 0) (Lz (vP b 0) bH 0 P6 (Kz (vP b 0) (Kz (vP b 0) (Kz (vP b 1) (Lz (vU a.aa.ax) bH 13 D2 (Mz rfl (Mz rfl (Kz (.agg (iA 2 0 (10+s) 0 N 0 M a.aa.ax 0 0 0 0 0 0 0 false [] [] none 0 0 A4 h.length Z none 0 0).toArray) ?_)))))))))))))))
 obtain⟨cz,bS⟩:∃ q,dM V (bW.mk 2 0 (10+s) 0 N 0 M a.aa.ax 0 0 0 0 0 0 0 false (aL.mk [] []) (E0 []) (E0 h) (E0 []))=q:=⟨_,rfl⟩
 obtain⟨gZ,dV,bT,dW,gy⟩:=Ja bH
 refine cl P9 (gV _ _ W V R S L b (bW.mk 2 0 (10+s) 0 N 0 M a.aa.ax 0 0 0 0 0 0 0 false (aL.mk [] []) (E0 []) (E0 h) (E0 [])) none 0 0 A4 h.length Z d4 none 0 0 cz dV O rfl (λ _ _=>aY.nil _ _ _) f3 aK rfl (bT _ aN) e6 (λ x9 h9=>⟨bT _ (P x9 h9).1,(P x9 h9).2⟩) rfl (λ _ _=>aY.nil _ _ _) f3 e8 (by first | assumption | exact d9 f5 | exact λ x hx=>absurd hx v7 | exact d9 (Mk.nK f5).1 | exact d9 (Mk.mh f5).1 | exact d9 (Mk.nV f5).1 | exact d9 (Mk.nW f5).1 | exact d9 (Mk.nX f5).1) bS) ?_
 rintro _ ib ⟨dX,dY,dZ,rfl,cB,bn,bq⟩
 have bV:=dW _ _ cB
 have fI:=aA bn
 have fJ:=zr 1 bV
 replace bq:cz.bF.ls.length=V.bF.ls.length+1:=bq
 refine C4 (IL (res0 rfl) (C4 (IL (res0 rfl) ?_)))
 have ed:=bV.px [0,1,2,13] [9,10] [11,12]
 obtain⟨rfl,rfl⟩:=fD (zj hr zq5)
 exact⟨dX,dY,dZ,j,l,f,t,u,m,y,z,n,T,U,bD,E,F,r,rfl,ed,bn,g,G,I,Y,K,i2⟩
 refine qt (v:=vP b 25) 12 rfl (λ _ _=>by(try unfold vJ); rw [show ((C6 s:Nat):Int)=4 from by omega]; exact yk) ?_
 have ek:=bi.pf [15]
 refine qe 13 rfl (Do.store (vs:= [.bool true,vU M,vI N, .slice T Q.length U]) (o:=25) ek rfl rfl Q0 rfl rfl rfl rfl ?_)
 intro gz eu
 have aJ:=eu.pb [0,14,15]
 refine⟨.inr ⟨_,aJ⟩, ?_⟩
 refine qn (Iq (Il (Mz rfl (Mz rfl (Mz rfl (Mz rfl (Mz rfl ?_)))))))
 refine WL.do rfl (IP P7 rfl ?_ (λ _ _ k=>k))
 refine cb P8 ?_
 refine Il (Mz rfl (Mz rfl (fw (vI (10+s)) (Ir (e:=C3.wrap (10+s)) yk g1) (Mz rfl (Mz rfl (Kz (vP W 0) (Kz (vP W 0) (Lz (vP b 0) aJ 0 P6 (Kz (vP b 0) (Kz (vP b 0) (Kz (vP b 1) (Lz (vU a.aa.ax) aJ 13 D2 (Mz rfl (Mz rfl (Kz (.agg (iA 2 0 (10+s) 0 N 0 M a.aa.ax 0 0 0 0 0 0 0 false [] [] none 0 0 A4 h.length Z none 0 0).toArray) ?_)))))))))))))))
 obtain⟨bu,bv⟩:∃ q,dM V (bW.mk 2 0 (10+s) 0 N 0 M a.aa.ax 0 0 0 0 0 0 0 false (aL.mk [] []) (E0 []) (E0 h) (E0 []))=q:=⟨_,rfl⟩
 obtain⟨gB,cK,bA,cO,fK⟩:=Ja aJ
 refine cl P9 (gV _ _ W V R S L b (bW.mk 2 0 (10+s) 0 N 0 M a.aa.ax 0 0 0 0 0 0 0 false (aL.mk [] []) (E0 []) (E0 h) (E0 [])) none 0 0 A4 h.length Z d4 none 0 0 bu cK O rfl (λ _ _=>aY.nil _ _ _) f3 aK rfl (bA _ aN) e6 (λ x9 h9=>⟨bA _ (P x9 h9).1,(P x9 h9).2⟩) rfl (λ _ _=>aY.nil _ _ _) f3 e8 (by first | assumption | exact d9 f5 | exact λ x hx=>absurd hx v7 | exact d9 (Mk.nK f5).1 | exact d9 (Mk.mh f5).1 | exact d9 (Mk.nV f5).1 | exact d9 (Mk.nW f5).1 | exact d9 (Mk.nX f5).1) bv) ?_
 rintro _ gD ⟨eB,eD,eF,rfl,cZ,bB,bC⟩
 have bX:=cO _ _ cZ
 have fM:=aA bB
 have fO:=zr 1 bX
 replace bC:bu.bF.ls.length=V.bF.ls.length+1:=bC
 refine C4 (IL (res0 rfl) (C4 (IL (res0 rfl) ?_)))
 have eG:=bX.px [0,1,2,13] [11,12] []
 obtain⟨rfl,rfl⟩:=fD (zj hr zq5)
 exact⟨eB,eD,eF,j,l,f,t,u,m,y,z,n,B,C,p,T,U,bD,rfl,eG,bB,g,G,I,J,Y,i2⟩
def gP (e:Nat) (f:Bool):List Int->List bW->(List bW)
  | [],a=>a
  | c::d,a=>bnd (dM (bU.mk (E0 a)) (bW.mk 5 0 c 0 0 0 0 0 e 0 0 0 0 0 0 f (aL.mk [] []) (E0 []) (E0 []) (E0 []))) λ b=>gP e f d b.bF.ls
def fV (a:bU) (b:Nat) (c:List Int) (d:Bool):bU:=
 bnd (gP b d c a.bF.ls) λ sLrL=>bU.mk (E0 sLrL)
theorem lm (w D J) (A:bU) (m n f g j M X Y c l) (V:bU) (H:Own w D w [blk J [.pointer (some ⟨g,0,none⟩), .slice m A.bF.ls.length n] 98,row m A.bF.ls.length n (q4 bz.cells f) 42 21,sepL (q4 bz.own f)]) (o:s5 bz.abs f=A.bF.ls) (K:Ro w D λ w'=>aY w' 1 M X (q4 (eI .i64) c)) (Z:X=c.length) (aG:c.length *8<=211106232532992) (aH:A.bF.ls.length+c.length<=1000000) (hr:fV A j c l=V):
    Calls v5 27 #[vP J 0,vU j, .slice M X Y, .bool l] w (dA λ v w'=> ∃ p r d,v= .tuple #[]/\Own w D w' [blk J [vP g 0, .slice p V.bF.ls.length r] 98,row p V.bF.ls.length r (q4 bz.cells d) 42 21,sepL (q4 bz.own d)]/\(s5 bz.abs d=V.bF.ls)):=by
 unfold fV at hr
 subst Z
 have W:=aA o
 have aa:=zr 1 H
 refine cb Tryz.func27 ?_
 refine sr (Mz rfl (Kz (vJ c.length) (Mn rfl (bo ?_))))
 have af:=H.pf []
 obtain⟨ag,s⟩:=ED λ (a:Nat) t (u:Nat) h b w'=>Own w D w' [blk J [vP g 0, .slice t b.length u] 98,row t b.length u (q4 bz.cells h) 42 21,sepL (q4 bz.own h)]/\s5 bz.abs h=b/\a<=c.length/\b.length=A.bF.ls.length+a/\b.length<=A.bF.ls.length+a/\gP j l c A.bF.ls=gP j l (List.drop a c) b
 refine Wp.loop (λ i:Nat × (Option Addr) × Nat × (List bz) × (List bW)=> [(12,vJ i.1),(11,vJ c.length),(10, .slice M c.length Y),(0,vP J 0),(1,vU j),(3, .bool l)]) ag (λ i=>c.length - i.1) (0,m,n,f,A.bF.ls) ⟨rfl,rfl,rfl,rfl,rfl,rfl,trivial⟩ (s.2 ⟨af,by exact o,e6,e6,e6,rfl⟩) ?_
 rintro ⟨a,t,u,h,b⟩ aI N
 obtain⟨y,z,av,ax,ay,C⟩:=s.1 N
 have az:=aA z
 refine sr (Kz (.bool (decide ((a:Int) < (c.length:Int)))) (nt (Ik ?_)))
 by_cases O:(a:Int) < (c.length:Int)
 obtain⟨B,E⟩:=dh (ls:=c) (i:=a) iL f2 (y.ro K) e9
 have P:=drop_at E
 refine jT (dT O) (sk (Ik (bo (sr (fw (.pointer (some ⟨ab M,ao M+a *1,none⟩)) (Iz (mq) rfl rfl ((y.ro K).addr (i:=a) e6) e6) (fw (vI B) (IB rfl (bJ.one Tryz.isAgg3 (((y.ro K).elem iL E f2).at_ (k:=0) rfl))) (An rfl (Il (Mz rfl (Mz rfl (Mz rfl (Mz rfl (Kz (.agg (iA 5 0 B 0 0 0 0 0 j 0 0 0 0 0 0 l [] [] none 0 0 none 0 0 none 0 0).toArray) ?_)))))))))))))
 obtain⟨L,F⟩:∃ q,dM (bU.mk (E0 b)) (bW.mk 5 0 B 0 0 0 0 0 j 0 0 0 0 0 0 l (aL.mk [] []) (E0 []) (E0 []) (E0 []))=q:=⟨_,rfl⟩
 obtain⟨aJ,Q,aB,R,aC⟩:=Ja y
 refine cl P9 (gV _ _ J (bU.mk (E0 b)) t u h g (bW.mk 5 0 B 0 0 0 0 0 j 0 0 0 0 0 0 l (aL.mk [] []) (E0 []) (E0 []) (E0 [])) none 0 0 none 0 0 [] none 0 0 L Q z rfl (λ _ _=>aY.nil _ _ _) f3 rfl rfl (λ _ _=>aY.nil _ _ _) f3 (λ _ h9=>absurd h9 v7) rfl (λ _ _=>aY.nil _ _ _) f3 e8 (by first | assumption | exact d9 f5 | exact λ x hx=>absurd hx v7 | exact d9 (Mk.nK f5).1 | exact d9 (Mk.mh f5).1 | exact d9 (Mk.nV f5).1 | exact d9 (Mk.nW f5).1 | exact d9 (Mk.nX f5).1) F) ?_
 rintro _ aM ⟨ah,ai,aj,rfl,S,G,I⟩
 have T:=R _ _ S
 have aD:=aA G
 have aF:=zr 1 T
 replace I:L.bF.ls.length=b.length+1:=I
 refine C4 (bN (Iq (Il (fw (vJ (a+1)) (Ir (e:=C3.wrap ((a:Int)+1)) yk f0) (Mz rfl (C4 ?_))))))
 have ak:=T.pf []
 exact II (a+1,ah,ai,aj,L.bF.ls) ⟨rfl,rfl,rfl,rfl,rfl,rfl,trivial⟩ (s.2 ⟨ak,by exact G,e6,e6,e6,et (C) (et (congrArg (λ q=>gP j l q b) P) (ae F))⟩) (by show c.length - (a+1) < c.length - a; omega)
 refine jF (dF O) (Wp.exit (IC ?_))
 have U:gP j l c A.bF.ls=b:=et (C) (et (congrArg (λ q=>gP j l q b) (dZ (ls:=c) (i:=a) e6)) rfl)
 refine IC (IK (IL (res0 rfl) ?_))
 have au:=y.pf []
 obtain rfl:=zj hr zq1
 exact⟨t,u,h,rfl,au,z⟩
theorem Dr (a:Nat) (b:Bool):∀ (l:List Int) (o:List bW),s0 (gP a b l o)=o.length+l.length
  | [],o=>rfl
  | x::q,o=>by
    simp only [gP,bnd]
    rw [Dr a b q]
    simp only [dM,bnd,List.length_append,List.length_cons,List.length_nil]; omega
theorem Cw {a:bU} {c:Nat} {l:List Int} {b:Bool} {r:bU} (h:fV a c l b=r):r.bF.ls.length=a.bF.ls.length+l.length:=by
 rw [<- h]; exact Dr c b l _
end
open List renaming length_drop->o1,length_replicate->H0,length_set->G4,length_take->o0,mem_flatMap->Q6,set->I3,take->r3
open Sv renaming mk->G3
open _root_.Go.Proofs.Tryz renaming call104->Q1,call27->Q5,isAgg107->Q2,isAgg30->D0,isAgg79->Q4,sizeOf107->Q3
section
open Go.RowKit
def lS (a:Nat):Bool:=
 false
theorem qU (w D a c) (H:Own w D w []) (hr:lS a=c):
    Calls v5 136 #[vU a] w (dA λ v w'=>v= .bool c/\Own w D w' []):=by
 refine cb Tryz.func136 ?_
 refine sr (Ar rfl (Mz rfl (Mz rfl (fw (.bool false) (IM (e:= !(decide ((a:Int)=(a:Int)))) yk i7) (An rfl (rt (rs ?_)))))))
 have b:=H.pk []
 obtain rfl:_=false:=zj hr rfl
 exact⟨rfl,b⟩
def gZ (c:Nat) (d:Nat):Int:=
 bnd (lS c) λ b=>bnd (lS d) λ a=>if b=true then if a=true then 0 else(-1) else if a=true then 1 else if(c:Int) < (d:Int) then(-1) else if(c:Int) > (d:Int) then 1 else 0
theorem mf (w D i j C) (H:Own w D w []) (hr:gZ i j=C):
    Calls v5 104 #[vU i,vU j] w (dA λ v w'=>v=vI C/\Own w D w' []):=by
 unfold gZ at hr
 refine cb Tryz.func104 ?_
 refine sr (Ar rfl (Mz rfl ?_))
 obtain⟨l,a⟩:∃ q,lS i=q:=⟨_,rfl⟩
 obtain⟨J,m,E,n,F⟩:=Iu H
 refine cl Tryz.call136 (qU _ _ i l m a) ?_
 rintro _ K ⟨rfl,o⟩
 have t:=n _ _ o
 refine Ar rfl (Mz rfl ?_)
 obtain⟨k,b⟩:∃ q,lS j=q:=⟨_,rfl⟩
 obtain⟨L,p,G,r,I⟩:=Iu t
 refine cl Tryz.call136 (qU _ _ j k p b) ?_
 rintro _ M ⟨rfl,s⟩
 have e:=r _ _ s
 refine An rfl (Ik (sr (Mn rfl ?_)))
 rcases Ls (l) with c | c
 refine jT c (Ik (sr (Mn rfl ?_)))
 rcases Ls (k) with f | f
 refine jT f (sr (An rfl (rt (tR (tR (rs ?_))))))
 have u:=e.pk []
 obtain rfl:=zj hr zq4
 exact⟨rfl,u⟩
 refine jF f (sk (sr (An rfl (rt (tR (rs ?_))))))
 have x:=e.pk []
 obtain rfl:=zj hr zq4
 exact⟨rfl,x⟩
 refine jF c (sk (Ik (sr (Mn rfl ?_))))
 rcases Ls (k) with d | d
 refine jT d (sr (An rfl (rt (tR (rs ?_)))))
 have y:=e.pk []
 obtain rfl:=zj hr zq4
 exact⟨rfl,y⟩
 refine jF d (sk (Ik (sr (Mz rfl (Mz rfl (Kz (.bool (decide ((i:Int) < (j:Int)))) (nt ?_)))))))
 by_cases g:(i:Int) < (j:Int)
 refine jT (dT g) (sr (An rfl (rt (tR (rs ?_)))))
 have z:=e.pk []
 obtain rfl:=zj hr zq5
 exact⟨rfl,z⟩
 refine jF (dF g) (sk (Ik (sr (Mz rfl (Mz rfl (Kz (.bool (decide ((i:Int) > (j:Int)))) (nt ?_)))))))
 by_cases h:(i:Int) > (j:Int)
 refine jT (dT h) (sr (An rfl (rt (tR (rs ?_)))))
 have A:=e.pk []
 obtain rfl:=zj hr zq6
 exact⟨rfl,A⟩
 refine jF (dF h) (sk (sr (An rfl (rt (rs ?_)))))
 have B:=e.pk []
 obtain rfl:=zj hr zq6
 exact⟨rfl,B⟩
def di (l0:List bH) (f:Nat):Nat->Nat->Nat->Nat
  | 0,a,b=>default
  | c+1,a,b=>if(a:Int) < (b:Int) then bnd (B8 l0 ((a+b) / 2) default) λ d=>bnd (gZ d.aX f) λ e=>if e < 0 then di l0 f c (((a+b) / 2)+1) b else di l0 f c a ((a+b) / 2) else a
def bQ (l0:List bH) (c:Nat):Int × Bool:=
 bnd (di l0 c ((l0.length - 0)+1) 0 l0.length) λ sLrL=>if(sLrL:Int) < (l0.length:Int) then bnd (B8 l0 sLrL default) λ a=>bnd (gZ a.aX c) λ b=>((sLrL:Int),decide (b=0)) else((sLrL:Int),false)
theorem gU (w D y Z Y J l0 n K r1) (H:Own w D w []) (G:s5 ay.abs J=l0) (h:Ro w D λ w'=>aY w' 5 y Z (q4 ay.cells J)) (L:∀ x ∈ J,Ro w D (λ w'=>aY w' 1 x.au.A x.au.ls.length (q4 (eI .i64) x.au.ls))/\(x.au.ls.length<=x.au.c/\x.au.ls.length<=9223372036854775807)) (af:Z=l0.length) (aM:l0.length *56<=211106232532992) (hr:bQ l0 n=(K,r1)):
    Calls v5 132 #[.slice y Z Y,vU n, .func (.func 133) #[] #[]] w (dA λ v w'=>v= .tuple #[vI K, .bool r1]/\Own w D w' []/\(0<=K/\K<=((l0.length:Nat):Int))/\(Bool.toNat r1=0\/K < ((l0.length:Nat):Int))):=by
 unfold bQ at hr
 subst af
 have aB:=aA G
 refine cb Tryz.func132 ?_
 refine sr (Az rfl (Ar rfl (Mz rfl (Kz (vJ l0.length) (Ar rfl (Mz rfl (Az rfl (An rfl (Ik (bo ?_))))))))))
 have ag:=H.pk []
 obtain⟨ah,g⟩:=rJ λ (a:Nat) (b:Nat) (o:Nat) w'=>Own w D w' []/\a<=b/\b<=l0.length/\b - a < o/\di l0 n ((l0.length - 0)+1) 0 l0.length=di l0 n o a b
 refine C1 (λ i:Nat × Nat × Nat=> [(9,vJ i.1),(10,vJ i.2.1),(8,vJ l0.length),(7, .bool false),(6,vI 0),(0, .slice y l0.length Y),(1,vU n),(2, .func (.func 133) #[] #[])]) ah (λ i=>i.2.2) (0,l0.length,(l0.length - 0)+1) ⟨rfl,rfl,rfl,rfl,rfl,rfl,rfl,rfl,trivial⟩ (g.2 ⟨ag,e6,e6,e6,rfl⟩) ?_
 rintro ⟨a,b,o⟩ aN M
 obtain⟨f,aC,aD,aF,p⟩:=g.1 M
 obtain⟨j,N⟩:∃ q,o=q+1:=⟨o - 1,e6⟩
 subst N
 refine Ik (sr (Mz rfl (Mz rfl (Kz (.bool (decide ((a:Int) < (b:Int)))) (nt ?_)))))
 by_cases r:(a:Int) < (b:Int)
 refine jT (dT r) (sk (bo (sr (Mz rfl (Mz rfl (fw (vJ (a+b)) (Ir (e:=C3.wrap ((a:Int)+(b:Int))) yk f0) (fw (vU (a+b)) (Ir (e:=IntKind.u64.wrap ((a+b:Nat):Int)) yk (IntWalk.u64_in _ e6)) (fw (vU ((a+b) / 2)) (Ir (e:=Int.fdiv ((a+b:Nat):Int) 2) yk (ny _ 1 _ f2)) (fw (vJ ((a+b) / 2)) (Ir (e:=C3.wrap (((a+b) / 2:Nat):Int)) yk (Lm _ e6)) (Ar rfl (Mz rfl (Mz rfl (Mz rfl ?_)))))))))))))
 obtain⟨l,s⟩:=dh (ls:=J) (i:=(a+b) / 2) ay.len f2 (f.ro h) e9
 have C:=eY G s
 have aG:=(L _ (D1 s)).2
 refine fw (.pointer (some ⟨ab y,ao y+((a+b) / 2) *5,none⟩)) (Iz (kM) rfl rfl ((f.ro h).addr (i:=(a+b) / 2) e6) e6) (fw (.agg (ay.cells l).toArray) (IB rfl (IJ (cs:=(ay.cells l)) Tryz.isAgg60 Tryz.sizeOf60 ((f.ro h).elem ay.len s f2))) (Mz rfl ?_))
 refine WL.do rfl (IY Tryz.call133 rfl rfl ?_ (λ _ _ k=>k))
 refine cb Tryz.func133 ?_
 refine sr ?_
 refine dn (ay.cells l) 60 f ?_
 intro ai aO O
 refine Ar rfl (Kz (vP ai 0) (Lz (vU l.aX) O 0 D2 (Mz rfl ?_)))
 obtain⟨I,t⟩:∃ q,gZ l.aX n=q:=⟨_,rfl⟩
 obtain⟨aP,P,aH,Q,aI⟩:=Iu O
 refine cl Q1 (mf _ _ l.aX n I P t) ?_
 rintro _ aQ ⟨rfl,R⟩
 have S:=Q _ _ R
 refine An rfl (rt (rs (Kz (.bool (decide (I < 0))) (nt ?_))))
 by_cases z:I < 0
 refine jT (dT z) (Il (Mz rfl (fw (vI ((((a+b) / 2)+1:Nat):Int)) (Ir (e:=C3.wrap ((((a+b) / 2:Nat):Int)+1)) yk f0) (Az rfl (C4 (bN ?_))))))
 have aj:=S.pk []
 exact II (((a+b) / 2)+1,b,j) ⟨rfl,rfl,rfl,rfl,rfl,rfl,rfl,rfl,trivial⟩ (g.2 ⟨aj,e6,e6,e6,et (p) (et (ip r) (et (ae (aT C)) (et (ae t) (ip z))))⟩) (by show j < j+1; omega)
 refine jF (dF z) (Il (Mz rfl (Az rfl (C4 (bN ?_)))))
 have ak:=S.pk []
 exact II (a,(a+b) / 2,j) ⟨rfl,rfl,rfl,rfl,rfl,rfl,rfl,rfl,trivial⟩ (g.2 ⟨ak,e6,e6,e6,et (p) (et (ip r) (et (ae (aT C)) (et (ae t) (iN z))))⟩) (by show j < j+1; omega)
 refine jF (dF r) (C5 (IC ?_))
 have E:di l0 n ((l0.length - 0)+1) 0 l0.length=a:=et (p) (iN r)
 refine IC (IK (Iq (sr (Mz rfl (Mz rfl (Mz rfl (Kz (.bool (decide ((a:Int) < (l0.length:Int)))) (Mz rfl ?_))))))))
 by_cases d:(a:Int) < (l0.length:Int)
 refine gw (.func (.func 133) #[] #[]) (dT d) (IA rfl) (gw (.slice y l0.length Y) (dT d) (IA rfl) (gw (vJ a) (dT d) (IA rfl) ?_))
 obtain⟨m,u⟩:=dh (ls:=J) (i:=a) ay.len f2 (f.ro h) e9
 have T:=eY G u
 have aJ:=(L _ (D1 u)).2
 refine gw (.pointer (some ⟨ab y,ao y+a *5,none⟩)) (dT d) (Iz (kM) rfl rfl ((f.ro h).addr (i:=a) e6) e6) (gw (.agg (ay.cells m).toArray) (dT d) (IB rfl (IJ (cs:=(ay.cells m)) Tryz.isAgg60 Tryz.sizeOf60 ((f.ro h).elem ay.len u f2))) (gw (vU n) (dT d) (IA rfl) ?_))
 refine Ju rfl rfl (dT d) rfl (IY Tryz.call133 rfl rfl ?_ (λ _ _ k=>k))
 refine cb Tryz.func133 ?_
 refine sr ?_
 refine dn (ay.cells m) 60 f ?_
 intro au aR U
 refine Ar rfl (Kz (vP au 0) (Lz (vU m.aX) U 0 D2 (Mz rfl ?_)))
 obtain⟨B,F⟩:∃ q,gZ m.aX n=q:=⟨_,rfl⟩
 obtain⟨aS,V,aK,W,aL⟩:=Iu U
 refine cl Q1 (mf _ _ m.aX n B V F) ?_
 rintro _ aU ⟨rfl,X⟩
 have av:=W _ _ X
 refine An rfl (rt (rs (Gz (.bool (decide (B=0))) (dT d) (fw (.bool (decide (B=0))) (Iw rfl (dT d) rfl) (Az rfl (An rfl (rt (Fin.res (lH rfl rfl rfl) ?_))))))))
 have ax:=av.pk []
 obtain⟨rfl,rfl⟩:=fD (zj hr (show _=(((a:Nat):Int),decide (B=0)) from et (ae E) (et (ip d) (et (ae (aT T)) (ae F)))))
 exact⟨rfl,ax,e6,i8⟩
 refine Sz (dF d) (Sz (dF d) (Sz (dF d) (Sz (dF d) (Sz (dF d) (Sz (dF d) (Sz (dF d) (Sz (dF d) (fw (.bool false) (Io rfl (dF d) rfl) (Az rfl (An rfl (rt (Fin.res (lH rfl rfl rfl) ?_))))))))))))
 have az:=f.pk []
 obtain⟨rfl,rfl⟩:=fD (zj hr zq2)
 exact⟨rfl,az,e6,i8⟩
def eF (l0:List ed) (f:Nat):Nat->Nat->Nat->Nat
  | 0,a,b=>default
  | c+1,a,b=>if(a:Int) < (b:Int) then bnd (B8 l0 ((a+b) / 2) default) λ d=>bnd (gZ d.bI f) λ e=>if e < 0 then eF l0 f c (((a+b) / 2)+1) b else eF l0 f c a ((a+b) / 2) else a
def dN (l0:List ed) (c:Nat):Int × Bool:=
 bnd (eF l0 c ((l0.length - 0)+1) 0 l0.length) λ sLrL=>if(sLrL:Int) < (l0.length:Int) then bnd (B8 l0 sLrL default) λ a=>bnd (gZ a.bI c) λ b=>((sLrL:Int),decide (b=0)) else((sLrL:Int),false)
theorem jN (w D B n0 c0 M l0 s N r1) (H:Own w D w []) (J:s5 bK.abs M=l0) (p:Ro w D λ w'=>aY w' 9 B n0 (q4 bK.cells M)) (n:∀ x ∈ M,Ro w D (λ w'=>aY w' 6 x.cB.A x.cB.ls.length (q4 aN.cells x.cB.ls))/\(x.cB.ls.length<=x.cB.c/\x.cB.ls.length<=9223372036854775807)/\Ro w D (λ w'=>aY w' 3 x.aO.A x.aO.ls.length (q4 bO.cells x.aO.ls))/\(x.aO.ls.length<=x.aO.c/\x.aO.ls.length<=9223372036854775807)/\(∀ h ∈ x.aO.ls,Ro w D (λ w'=>aY w' 6 h.aB.A h.aB.ls.length (q4 aN.cells h.aB.ls))/\(h.aB.ls.length<=h.aB.c/\h.aB.ls.length<=9223372036854775807)/\Ro w D (λ w'=>aY w' 1 h.aI.A h.aI.ls.length (q4 (eI .i64) h.aI.ls))/\(h.aI.ls.length<=h.aI.c/\h.aI.ls.length<=9223372036854775807))/\Ro w D (λ w'=>aY w' 1 x.bL.A x.bL.ls.length (q4 eL x.bL.ls))/\(x.bL.ls.length<=x.bL.c/\x.bL.ls.length<=9223372036854775807)/\Ro w D (λ w'=>aY w' 1 x.ai.A x.ai.ls.length (q4 (I9 (β:=af)) x.ai.ls))/\(x.ai.ls.length<=x.ai.c/\x.ai.ls.length<=9223372036854775807)/\(∀ h ∈ x.ai.ls,Ro w D (λ w'=>aY w' 3 h.A h.ls.length (q4 af.cells h.ls))/\(h.ls.length<=h.c/\h.ls.length<=9223372036854775807)/\(∀ L ∈ h.ls,Ro w D (λ w'=>aY w' 2 L.aj.A L.aj.ls.length (q4 aH.cells L.aj.ls))/\(L.aj.ls.length<=L.aj.c/\L.aj.ls.length<=9223372036854775807)))) (ai:n0=l0.length) (bi:l0.length *136<=211106232532992) (hr:dN l0 s=(N,r1)):
    Calls v5 102 #[.slice B n0 c0,vU s, .func (.func 103) #[] #[]] w (dA λ v w'=>v= .tuple #[vI N, .bool r1]/\Own w D w' []/\(0<=N/\N<=((l0.length:Nat):Int))/\(Bool.toNat r1=0\/N < ((l0.length:Nat):Int))):=by
 unfold dN at hr
 subst ai
 have aD:=aA J
 refine cb Tryz.func102 ?_
 refine sr (Az rfl (Ar rfl (Mz rfl (Kz (vJ l0.length) (Ar rfl (Mz rfl (Az rfl (An rfl (Ik (bo ?_))))))))))
 have aj:=H.pk []
 obtain⟨ak,o⟩:=rJ λ (a:Nat) (b:Nat) (t:Nat) w'=>Own w D w' []/\a<=b/\b<=l0.length/\b - a < t/\eF l0 s ((l0.length - 0)+1) 0 l0.length=eF l0 s t a b
 refine C1 (λ i:Nat × Nat × Nat=> [(9,vJ i.1),(10,vJ i.2.1),(8,vJ l0.length),(7, .bool false),(6,vI 0),(0, .slice B l0.length c0),(1,vU s),(2, .func (.func 103) #[] #[])]) ak (λ i=>i.2.2) (0,l0.length,(l0.length - 0)+1) ⟨rfl,rfl,rfl,rfl,rfl,rfl,rfl,rfl,trivial⟩ (o.2 ⟨aj,e6,e6,e6,rfl⟩) ?_
 rintro ⟨a,b,t⟩ bn O
 obtain⟨m,aF,aG,aI,u⟩:=o.1 O
 obtain⟨r,P⟩:∃ q,t=q+1:=⟨t - 1,e6⟩
 subst P
 refine Ik (sr (Mz rfl (Mz rfl (Kz (.bool (decide ((a:Int) < (b:Int)))) (nt ?_)))))
 by_cases y:(a:Int) < (b:Int)
 refine jT (dT y) (sk (bo (sr (Mz rfl (Mz rfl (fw (vJ (a+b)) (Ir (e:=C3.wrap ((a:Int)+(b:Int))) yk f0) (fw (vU (a+b)) (Ir (e:=IntKind.u64.wrap ((a+b:Nat):Int)) yk (IntWalk.u64_in _ e6)) (fw (vU ((a+b) / 2)) (Ir (e:=Int.fdiv ((a+b:Nat):Int) 2) yk (ny _ 1 _ f2)) (fw (vJ ((a+b) / 2)) (Ir (e:=C3.wrap (((a+b) / 2:Nat):Int)) yk (Lm _ e6)) (Ar rfl (Mz rfl (Mz rfl (Mz rfl ?_)))))))))))))
 obtain⟨f,j⟩:=dh (ls:=M) (i:=(a+b) / 2) bK.len f2 (m.ro p) e9
 have F:=eY J j
 have aJ:=(n _ (D1 j)).2.1
 have aK:=(n _ (D1 j)).2.2.2.1
 have aL:s0 (s5 bO.abs f.aO.ls)=f.aO.ls.length:=s3 ..
 have aM:=(n _ (D1 j)).2.2.2.2.2.2.1
 have aO:=(n _ (D1 j)).2.2.2.2.2.2.2.2.1
 have aP:s0 (s5 bP.abs f.ai.ls)=f.ai.ls.length:=s3 ..
 refine fw (.pointer (some ⟨ab B,ao B+((a+b) / 2) *9,none⟩)) (Iz (qF) rfl rfl ((m.ro p).addr (i:=(a+b) / 2) e6) e6) (fw (.agg (bK.cells f).toArray) (IB rfl (IJ (cs:=(bK.cells f)) Q2 Q3 ((m.ro p).elem bK.len j f2))) (Mz rfl ?_))
 refine WL.do rfl (IY Tryz.call103 rfl rfl ?_ (λ _ _ k=>k))
 refine cb Tryz.func103 ?_
 refine sr ?_
 refine dn (bK.cells f) 107 m ?_
 intro au bq Q
 refine Ar rfl (Kz (vP au 0) (Lz (vU f.bI) Q 0 D2 (Mz rfl ?_)))
 obtain⟨K,z⟩:∃ q,gZ f.bI s=q:=⟨_,rfl⟩
 obtain⟨bu,R,aQ,S,aR⟩:=Iu Q
 refine cl Q1 (mf _ _ f.bI s K R z) ?_
 rintro _ bv ⟨rfl,T⟩
 have U:=S _ _ T
 refine An rfl (rt (rs (Kz (.bool (decide (K < 0))) (nt ?_))))
 by_cases C:K < 0
 refine jT (dT C) (Il (Mz rfl (fw (vI ((((a+b) / 2)+1:Nat):Int)) (Ir (e:=C3.wrap ((((a+b) / 2:Nat):Int)+1)) yk f0) (Az rfl (C4 (bN ?_))))))
 have av:=U.pk []
 exact II (((a+b) / 2)+1,b,r) ⟨rfl,rfl,rfl,rfl,rfl,rfl,rfl,rfl,trivial⟩ (o.2 ⟨av,e6,e6,e6,et (u) (et (ip y) (et (ae (aT F)) (et (ae z) (ip C))))⟩) (by show r < r+1; omega)
 refine jF (dF C) (Il (Mz rfl (Az rfl (C4 (bN ?_)))))
 have ax:=U.pk []
 exact II (a,(a+b) / 2,r) ⟨rfl,rfl,rfl,rfl,rfl,rfl,rfl,rfl,trivial⟩ (o.2 ⟨ax,e6,e6,e6,et (u) (et (ip y) (et (ae (aT F)) (et (ae z) (iN C))))⟩) (by show r < r+1; omega)
 refine jF (dF y) (C5 (IC ?_))
 have G:eF l0 s ((l0.length - 0)+1) 0 l0.length=a:=et (u) (iN y)
 refine IC (IK (Iq (sr (Mz rfl (Mz rfl (Mz rfl (Kz (.bool (decide ((a:Int) < (l0.length:Int)))) (Mz rfl ?_))))))))
 by_cases d:(a:Int) < (l0.length:Int)
 refine gw (.func (.func 103) #[] #[]) (dT d) (IA rfl) (gw (.slice B l0.length c0) (dT d) (IA rfl) (gw (vJ a) (dT d) (IA rfl) ?_))
 obtain⟨g,l⟩:=dh (ls:=M) (i:=a) bK.len f2 (m.ro p) e9
 have V:=eY J l
 have aS:=(n _ (D1 l)).2.1
 have aU:=(n _ (D1 l)).2.2.2.1
 have aV:s0 (s5 bO.abs g.aO.ls)=g.aO.ls.length:=s3 ..
 have aW:=(n _ (D1 l)).2.2.2.2.2.2.1
 have aX:=(n _ (D1 l)).2.2.2.2.2.2.2.2.1
 have aZ:s0 (s5 bP.abs g.ai.ls)=g.ai.ls.length:=s3 ..
 refine gw (.pointer (some ⟨ab B,ao B+a *9,none⟩)) (dT d) (Iz (qF) rfl rfl ((m.ro p).addr (i:=a) e6) e6) (gw (.agg (bK.cells g).toArray) (dT d) (IB rfl (IJ (cs:=(bK.cells g)) Q2 Q3 ((m.ro p).elem bK.len l f2))) (gw (vU s) (dT d) (IA rfl) ?_))
 refine Ju rfl rfl (dT d) rfl (IY Tryz.call103 rfl rfl ?_ (λ _ _ k=>k))
 refine cb Tryz.func103 ?_
 refine sr ?_
 refine dn (bK.cells g) 107 m ?_
 intro ay bz W
 refine Ar rfl (Kz (vP ay 0) (Lz (vU g.bI) W 0 D2 (Mz rfl ?_)))
 obtain⟨E,I⟩:∃ q,gZ g.bI s=q:=⟨_,rfl⟩
 obtain⟨bA,X,bf,Y,bg⟩:=Iu W
 refine cl Q1 (mf _ _ g.bI s E X I) ?_
 rintro _ bB ⟨rfl,Z⟩
 have az:=Y _ _ Z
 refine An rfl (rt (rs (Gz (.bool (decide (E=0))) (dT d) (fw (.bool (decide (E=0))) (Iw rfl (dT d) rfl) (Az rfl (An rfl (rt (Fin.res (lH rfl rfl rfl) ?_))))))))
 have aB:=az.pk []
 obtain⟨rfl,rfl⟩:=fD (zj hr (show _=(((a:Nat):Int),decide (E=0)) from et (ae G) (et (ip d) (et (ae (aT V)) (ae I)))))
 exact⟨rfl,aB,e6,i8⟩
 refine Sz (dF d) (Sz (dF d) (Sz (dF d) (Sz (dF d) (Sz (dF d) (Sz (dF d) (Sz (dF d) (Sz (dF d) (fw (.bool false) (Io rfl (dF d) rfl) (Az rfl (An rfl (rt (Fin.res (lH rfl rfl rfl) ?_))))))))))))
 have aC:=m.pk []
 obtain⟨rfl,rfl⟩:=fD (zj hr zq2)
 exact⟨rfl,aC,e6,i8⟩
def mP (g:bU) (c:bW) (b:aD):bU:=
 bnd (bQ b.aa.ak.ls c.aX) λ a=>bnd (dN b.aC.ls c.aX) λ d=>if a.2=true then bnd (fV g c.aX ([c.aI]) a.2) λ e=>e else if d.2=true then g else bnd (fV g c.aX ([c.aI]) a.2) λ f=>f
theorem wM (w D g0) (p0:bU) (C E t) (d:bW) (ak aQ au av aR ax az aB aS aC e) (b:aD) (M N g h o O P j l p Q R S T U V W X Y Z) (r0:bU) (H:Own w D w [blk g0 [.pointer (some ⟨e,0,none⟩), .slice C p0.bF.ls.length E] 98,row C p0.bF.ls.length E (q4 bz.cells t) 42 21,sepL (q4 bz.own t),mK e b M b.aa.ag.ls.length N g h O P j l Q R S T U V W X Y Z]) (u:s5 bz.abs t=p0.bF.ls) (bq:aQ=d.aB.ls.length) (dz:Ro w D λ w'=>aY w' 6 ak d.aB.ls.length (q4 aN.cells d.aB.ls)) (dB:d.aB.ls.length<=au/\d.aB.ls.length<=9223372036854775807) (bu:s5 af.abs az=d.ah.ls) (bv:aR=d.ah.ls.length) (dC:Ro w D λ w'=>aY w' 3 av d.ah.ls.length (q4 af.cells az)) (dD:d.ah.ls.length<=ax/\d.ah.ls.length<=9223372036854775807) (dE:∀ x ∈ az,Ro w D (λ w'=>aY w' 2 x.aj.A x.aj.ls.length (q4 aH.cells x.aj.ls))/\(x.aj.ls.length<=x.aj.c/\x.aj.ls.length<=9223372036854775807)) (bA:aS=d.ag.ls.length) (dF:Ro w D λ w'=>aY w' 2 aB d.ag.ls.length (q4 aM.cells d.ag.ls)) (dG:d.ag.ls.length<=aC/\d.ag.ls.length<=9223372036854775807) (F:s5 ay.abs o=b.aa.ak.ls) (aF:Ro w D λ w'=>aY w' 5 g b.aa.ak.ls.length (q4 ay.cells o)) (bF:b.aa.ak.ls.length<=h/\b.aa.ak.ls.length<=9223372036854775807) (G:∀ x ∈ o,Ro w D (λ w'=>aY w' 1 x.au.A x.au.ls.length (q4 (eI .i64) x.au.ls))/\(x.au.ls.length<=x.au.c/\x.au.ls.length<=9223372036854775807)) (I:s5 bK.abs p=b.aC.ls) (aG:Ro w D λ w'=>aY w' 9 j b.aC.ls.length (q4 bK.cells p)) (bG:b.aC.ls.length<=l/\b.aC.ls.length<=9223372036854775807) (a:∀ x ∈ p,Ro w D (λ w'=>aY w' 6 x.cB.A x.cB.ls.length (q4 aN.cells x.cB.ls))/\(x.cB.ls.length<=x.cB.c/\x.cB.ls.length<=9223372036854775807)/\Ro w D (λ w'=>aY w' 3 x.aO.A x.aO.ls.length (q4 bO.cells x.aO.ls))/\(x.aO.ls.length<=x.aO.c/\x.aO.ls.length<=9223372036854775807)/\(∀ f ∈ x.aO.ls,Ro w D (λ w'=>aY w' 6 f.aB.A f.aB.ls.length (q4 aN.cells f.aB.ls))/\(f.aB.ls.length<=f.aB.c/\f.aB.ls.length<=9223372036854775807)/\Ro w D (λ w'=>aY w' 1 f.aI.A f.aI.ls.length (q4 (eI .i64) f.aI.ls))/\(f.aI.ls.length<=f.aI.c/\f.aI.ls.length<=9223372036854775807))/\Ro w D (λ w'=>aY w' 1 x.bL.A x.bL.ls.length (q4 eL x.bL.ls))/\(x.bL.ls.length<=x.bL.c/\x.bL.ls.length<=9223372036854775807)/\Ro w D (λ w'=>aY w' 1 x.ai.A x.ai.ls.length (q4 (I9 (β:=af)) x.ai.ls))/\(x.ai.ls.length<=x.ai.c/\x.ai.ls.length<=9223372036854775807)/\(∀ f ∈ x.ai.ls,Ro w D (λ w'=>aY w' 3 f.A f.ls.length (q4 af.cells f.ls))/\(f.ls.length<=f.c/\f.ls.length<=9223372036854775807)/\(∀ y2 ∈ f.ls,Ro w D (λ w'=>aY w' 2 y2.aj.A y2.aj.ls.length (q4 aH.cells y2.aj.ls))/\(y2.aj.ls.length<=y2.aj.c/\y2.aj.ls.length<=9223372036854775807)))) (eB:b.aa.ag.ls.length<=1000/\b.aa.ak.ls.length<=1000/\b.aa.aK.ls.length<=1000/\b.aC.ls.length<=1000/\p0.bF.ls.length<=100000) (hr:mP p0 d b=r0):
    Calls v5 59 #[vP g0 0, .agg (iA d.av d.aI d.eO d.aP d.dK d.fA d.aU d.ax d.aX d.eQ d.bG d.aF d.eG d.cZ d.xN d.fe d.cu.aJ d.cu.aR ak aQ au av aR ax aB aS aC).toArray] w (dA λ v w'=> ∃ aI aJ K,v= .tuple #[]/\Own w D w' [blk g0 [vP e 0, .slice aI r0.bF.ls.length aJ] 98,row aI r0.bF.ls.length aJ (q4 bz.cells K) 42 21,sepL (q4 bz.own K),mK e b M b.aa.ag.ls.length N g h O P j l Q R S T U V W X Y Z]/\(s5 bz.abs K=r0.bF.ls)):=by
 unfold mP at hr
 subst bq bv bA
 have dw:=aA u
 have dx:=aA bu
 have bD:=aA F
 have bE:=aA I
 have dH:=zr 1 H
 refine cb Tryz.func59 ?_
 refine sr ?_
 refine dn (gK d ak au av ax aB aC) 42 H ?_
 intro ah eD dI
 refine nt (Ik ?_)
 refine Db [] (IE IQ) dI ?_
 intro eF bH
 refine qv 0 rfl rfl (qp g0 0 1 rfl (qp g0 0 2 rfl (ql 3 rfl 1 P6 rfl rfl rfl (qp ah 8 4 rfl (ql 5 rfl 0 D2 rfl rfl rfl ?_)))))
 refine GX.do 6 rfl e7 (IP Tryz.call95 rfl ?_ (λ _ _ k=>k))
 refine cb Tryz.func95 ?_
 refine sr (Az rfl (Ar rfl (Mz rfl (Kz (vP e 0) (Kz (vP e 0) (Kz (vP e 5) (Lz (.slice g b.aa.ak.ls.length h) bH 4 D0 (Mz rfl ?_))))))))
 obtain⟨⟨ai,r⟩,aa⟩:∃ q:Int × Bool,bQ b.aa.ak.ls d.aX=q:=⟨_,rfl⟩
 obtain⟨eG,bI,aT,bJ,dW⟩:=Iu bH
 refine cl Tryz.call132 (gU _ _ g b.aa.ak.ls.length h o b.aa.ak.ls d.aX ai r bI F (aT _ aF) (λ z B=>⟨aT _ (G z B).1,(G z B).2⟩) rfl e6 aa) ?_
 rintro _ eH ⟨rfl,bL,aU,aV⟩
 have bM:=bJ _ _ bL
 replace aU:0<=ai/\ai<=(b.aa.ak.ls.length:Int):=aU
 replace aV:Bool.toNat r=0\/ai < (b.aa.ak.ls.length:Int):=aV
 refine Kz (vI ai) (Kz (.bool r) (Az rfl (An rfl (rt (Fin.res (lH rfl rfl rfl) ?_)))))
 refine⟨.inr ⟨_,bM⟩, ?_⟩
 refine qv 7 rfl rfl (qk (vI ai) 8 rfl (qk (.bool r) 9 rfl (qa 10 rfl rfl (qa 11 rfl rfl (qn (Iq (Ik ?_)))))))
 refine Db [] (IE IQ) bM ?_
 intro eO bN
 refine qv 0 rfl rfl (qp g0 0 1 rfl (qp g0 0 2 rfl (ql 3 rfl 1 P6 rfl rfl rfl (qp ah 8 4 rfl (ql 5 rfl 0 D2 rfl rfl rfl ?_)))))
 refine GX.do 6 rfl e7 (IP Tryz.call62 rfl ?_ (λ _ _ k=>k))
 refine cb Tryz.func62 ?_
 refine sr (Az rfl (Ar rfl (Mz rfl (Kz (vP e 0) (Kz (vP e 8) (Lz (.slice j b.aC.ls.length l) bN 4 Q4 (Mz rfl ?_)))))))
 obtain⟨⟨aj,s⟩,ag⟩:∃ q:Int × Bool,dN b.aC.ls d.aX=q:=⟨_,rfl⟩
 obtain⟨eP,bP,m,bR,dX⟩:=Iu bN
 refine cl Tryz.call102 (jN _ _ j b.aC.ls.length l p b.aC.ls d.aX aj s bP I (m _ aG) (λ z B=>⟨m _ (a z B).1,(a z B).2.1,m _ (a z B).2.2.1,(a z B).2.2.2.1,(λ f k1=>⟨m _ ((a z B).2.2.2.2.1 f k1).1,((a z B).2.2.2.2.1 f k1).2.1,m _ ((a z B).2.2.2.2.1 f k1).2.2.1,((a z B).2.2.2.2.1 f k1).2.2.2⟩),m _ (a z B).2.2.2.2.2.1,(a z B).2.2.2.2.2.2.1,m _ (a z B).2.2.2.2.2.2.2.1,(a z B).2.2.2.2.2.2.2.2.1,(λ f k1=>⟨m _ ((a z B).2.2.2.2.2.2.2.2.2 f k1).1,((a z B).2.2.2.2.2.2.2.2.2 f k1).2.1,(λ y2 k2=>⟨m _ (((a z B).2.2.2.2.2.2.2.2.2 f k1).2.2 y2 k2).1,(((a z B).2.2.2.2.2.2.2.2.2 f k1).2.2 y2 k2).2⟩)⟩)⟩) rfl e6 ag) ?_
 rintro _ eQ ⟨rfl,bS,aX,aZ⟩
 have J:=bR _ _ bS
 replace aX:0<=aj/\aj<=(b.aC.ls.length:Int):=aX
 replace aZ:Bool.toNat s=0\/aj < (b.aC.ls.length:Int):=aZ
 refine Kz (vI aj) (Kz (.bool s) (Az rfl (An rfl (rt (Fin.res (lH rfl rfl rfl) ?_)))))
 refine⟨.inr ⟨_,J⟩, ?_⟩
 refine qv 7 rfl rfl (qk (vI aj) 8 rfl (qk (.bool s) 9 rfl (qa 10 rfl rfl (qa 11 rfl rfl (qn (Iq (sr (Mz rfl (Mz rfl ?_)))))))))
 rcases Ls (r) with n | n
 have h54t:Bool.toNat r=1:=by rw [n]; rfl
 refine Sz n (Sz n (fw (.bool true) (Iw rfl n rfl) (nt (jt (Il (Mz rfl (Kz (vP ah 8) (Lz (vU d.aX) J 0 D2 (Kz (vP ah 1) (Lz (vI d.aI) J 0 C2 ?_))))))))))
 refine jV [vI d.aI] 3 1 1 J ?_
 intro bT eT bB
 replace bB:=IX (y:=row bT 1 1 (q4 (eI .i64) ([d.aI])) 3 1) rfl bB
 refine Mz rfl ?_
 have dJ:=bB.pb [0,1,5]
 obtain⟨bV,bf⟩:∃ q,fV p0 d.aX ([d.aI]) r=q:=⟨_,rfl⟩
 obtain⟨eU,bX,dY,bY,bZ⟩:=Ja dJ
 refine cl Q5 (lm _ _ g0 p0 C E t e d.aX bT 1 1 ([d.aI]) r bV bX u (bZ _ 0 _ rfl aW) rfl i7 i0 bf) ?_
 rintro _ eX ⟨dK,dL,dM,rfl,cu,bg⟩
 have cz:=bY _ _ cu
 have dZ:=aA bg
 have d9:=zr 1 cz
 refine C4 (IL (res0 rfl) ?_)
 have dO:=cz.pk [0,1,2,5]
 obtain rfl:=zj hr zq4
 exact⟨dK,dL,dM,rfl,dO,bg⟩
 have h54t:Bool.toNat r=0:=by rw [n]; rfl
 refine I7 (v:= .bool s) rfl rfl n rfl (IA rfl) (Gz (.bool (!s)) n (fw (.bool (!s)) (Io rfl n rfl) (nt ?_)))
 rcases Ls (s) with L | L
 have h76t:Bool.toNat s=1:=by rw [L]; rfl
 refine jF (cn L) (IU (IL (res0 rfl) ?_))
 have dP:=J.px [] [0] []
 obtain rfl:=zj hr zq4
 exact⟨C,E,t,rfl,dP,u⟩
 have h76t:Bool.toNat s=0:=by rw [L]; rfl
 refine jT (cn L) (Il (Mz rfl (Kz (vP ah 8) (Lz (vU d.aX) J 0 D2 (Kz (vP ah 1) (Lz (vI d.aI) J 0 C2 ?_))))))
 refine jV [vI d.aI] 3 1 1 J ?_
 intro cB eY bC
 replace bC:=IX (y:=row cB 1 1 (q4 (eI .i64) ([d.aI])) 3 1) rfl bC
 refine Mz rfl ?_
 have dQ:=bC.pb [0,1,5]
 obtain⟨cK,bi⟩:∃ q,fV p0 d.aX ([d.aI]) r=q:=⟨_,rfl⟩
 obtain⟨eZ,cO,ed,cZ,df⟩:=Ja dQ
 refine cl Q5 (lm _ _ g0 p0 C E t e d.aX cB 1 1 ([d.aI]) r cK cO u (df _ 0 _ rfl aW) rfl i7 i0 bi) ?_
 rintro _ fe ⟨dR,dS,dU,rfl,dh,bn⟩
 have di:=cZ _ _ dh
 have ek:=aA bn
 have eu:=zr 1 di
 refine C4 (IL (res0 rfl) ?_)
 have dV:=di.pk [0,1,2,5]
 obtain rfl:=zj hr zq5
 exact⟨dR,dS,dU,rfl,dV,bn⟩
def gM (a:bW):List Int->Nat->Unit ⊕ Int
  | [],b=>Sum.inl ()
  | c::d,b=>if c=a.aI then Sum.inr (b:Int) else gM a d (b+1)
def mY (l0:List Int) (a:bW):Int:=
 lp (gM a l0 0) λ _=>(-1)
theorem rP (w D C R S l0 m) (a:bW) (d f g h n j l Q) (H:Own w D w [blk m (gK a d f g h j l) 42]) (z:Ro w D λ w'=>aY w' 1 C R (q4 (eI .i64) l0)) (T:R=l0.length) (aa:l0.length<=9223372036854775807) (F:Ro w D λ w'=>aY w' 6 d a.aB.ls.length (q4 aN.cells a.aB.ls)) (G:a.aB.ls.length<=f/\a.aB.ls.length<=9223372036854775807) (p:s5 af.abs n=a.ah.ls) (I:Ro w D λ w'=>aY w' 3 g a.ah.ls.length (q4 af.cells n)) (J:a.ah.ls.length<=h/\a.ah.ls.length<=9223372036854775807) (K:∀ x ∈ n,Ro w D (λ w'=>aY w' 2 x.aj.A x.aj.ls.length (q4 aH.cells x.aj.ls))/\(x.aj.ls.length<=x.aj.c/\x.aj.ls.length<=9223372036854775807)) (L:Ro w D λ w'=>aY w' 2 j a.ag.ls.length (q4 aM.cells a.ag.ls)) (M:a.ag.ls.length<=l/\a.ag.ls.length<=9223372036854775807) (hr:mY l0 a=Q):
    Calls v5 134 #[.slice C R S, .func (.func 97) #[] #[vP m 0]] w (dA λ v w'=>v=vI Q/\Own w D w' [blk m (gK a d f g h j l) 42]/\(-1<=Q/\Q < ((l0.length:Nat):Int))):=by
 subst T
 have E:=aA p
 refine cb Tryz.func134 ?_
 refine sr (An rfl (Ik (sr (Mz rfl (Kz (vJ l0.length) (Mn rfl (bo ?_)))))))
 have U:=H.pf []
 obtain⟨V,r⟩:=lF λ (b:Nat) w'=>Own w D w' [blk m (gK a d f g h j l) 42]/\b<=l0.length/\gM a l0 0=gM a (r4 b l0) b
 refine C1 (λ i:Nat=> [(4,vI 0),(8,vJ i),(7,vJ l0.length),(0, .slice C l0.length S),(1, .func (.func 97) #[] #[vP m 0])]) V (λ i=>l0.length - i) 0 ⟨rfl,rfl,rfl,rfl,rfl,trivial⟩ (r.2 ⟨U,e6,rfl⟩) ?_
 rintro b ae N
 obtain⟨o,Z,s⟩:=r.1 N
 refine sr (Kz (.bool (decide ((b:Int) < (l0.length:Int)))) (nt (Ik ?_)))
 by_cases O:(b:Int) < (l0.length:Int)
 obtain⟨B,u⟩:=dh (ls:=l0) (i:=b) iL f2 (o.ro z) e9
 have y:=drop_at u
 refine jT (dT O) (sk (Ik (bo (sr (Mz rfl (Ar rfl (Mz rfl (Mz rfl (Mz rfl (fw (.pointer (some ⟨ab C,ao C+b *1,none⟩)) (Iz (mq) rfl rfl ((o.ro z).addr (i:=b) e6) e6) (fw (vI B) (IB rfl (bJ.one C2 (((o.ro z).elem iL u f2).at_ (k:=0) rfl))) ?_)))))))))))
 refine WL.do rfl (IY Tryz.call97 rfl rfl ?_ (λ _ _ k=>k))
 refine cb Tryz.func97 ?_
 refine sr (Ar rfl (Mz rfl (Kz (vP m 1) (Lz (vI a.aI) o 0 C2 (Kz (.bool (decide (B=a.aI))) (An rfl (rt (rs (nt ?_)))))))))
 by_cases t:B=a.aI
 refine jT (dT t) (sr (Mz rfl (An rfl (rt (bR (tR (tR (bR (tR (rs ?_))))))))))
 have W:=o.pf []
 obtain rfl:_=(b:Int):=zj hr (gL (et (s) (et (congrArg (λ q=>gM a q b) y) (ip t))))
 exact⟨rfl,W,e6⟩
 refine jF (dF t) (IU (bN (Iq (Il (fw (vJ (b+1)) (Ir (e:=C3.wrap ((b:Int)+1)) yk f0) (Mz rfl (C4 ?_)))))))
 have X:=o.pf []
 exact II (b+1) ⟨rfl,rfl,rfl,rfl,rfl,trivial⟩ (r.2 ⟨X,e6,et (s) (et (congrArg (λ q=>gM a q b) y) (iN t))⟩) (by show l0.length - (b+1) < l0.length - b; omega)
 refine jF (dF O) (C5 (IC ?_))
 have P:gM a l0 0=Sum.inl ():=et (s) (et (congrArg (λ q=>gM a q b) (dZ (ls:=l0) (i:=b) e6)) rfl)
 refine IC (IK (Iq (sr (An rfl (rt (rs ?_))))))
 have Y:=o.pf []
 obtain rfl:_=(-1):=zj hr (mF P)
 exact⟨rfl,Y,e6⟩
def gJ (l0:List Int) (a:bW):Nat->Int->Int->List Int->Int × (List Int)
  | 0,b,c,d=>default
  | f+1,b,c,d=>if c < (l0.length:Int) then bnd (B8 d (C6 c) default) λ e=>if e=a.aI then gJ l0 a f b (c+1) d else gJ l0 a f (b+1) (c+1) (I3 d (C6 b) e) else(b,d)
def ig (l0:List Int) (b:bW):(List Int):=
 bnd (mY l0 b) λ a=>if a=(-1) then l0 else bnd (gJ l0 b ((C6 ((l0.length:Int) - (a+1)))+1) a (a+1) l0) λ sLrbfL=>(r3 (C6 sLrbfL.1) sLrbfL.2)
theorem rf (w D u n0 G l0 p) (a:bW) (h d j f s l g X) (H:Own w D w [row u n0 G (q4 (eI .i64) l0) 3 1,blk p (gK a h d j f l g) 42]) (aC:n0=l0.length) (bB:l0.length *8<=211106232532992) (J:Ro w D λ w'=>aY w' 6 h a.aB.ls.length (q4 aN.cells a.aB.ls)) (Y:a.aB.ls.length<=d/\a.aB.ls.length<=9223372036854775807) (z:s5 af.abs s=a.ah.ls) (K:Ro w D λ w'=>aY w' 3 j a.ah.ls.length (q4 af.cells s)) (Z:a.ah.ls.length<=f/\a.ah.ls.length<=9223372036854775807) (B:∀ x ∈ s,Ro w D (λ w'=>aY w' 2 x.aj.A x.aj.ls.length (q4 aH.cells x.aj.ls))/\(x.aj.ls.length<=x.aj.c/\x.aj.ls.length<=9223372036854775807)) (L:Ro w D λ w'=>aY w' 2 l a.ag.ls.length (q4 aM.cells a.ag.ls)) (aa:a.ag.ls.length<=g/\a.ag.ls.length<=9223372036854775807) (bC:l0.length<=1000000) (hr:ig l0 a=X):
    Calls v5 96 #[.slice u n0 G, .func (.func 97) #[] #[vP p 0]] w (dA λ v w'=> ∃ B0 b0,v= .slice B0 X.length b0/\Own w D w' [row B0 X.length b0 (q4 (eI .i64) X) 3 1,blk p (gK a h d j f l g) 42]/\(X.length<=l0.length)):=by
 unfold ig at hr
 subst aC
 have W:=aA z
 have bD:=zr 0 H
 refine cb Tryz.func96 ?_
 refine sr (Ar rfl (Mz rfl (Mz rfl ?_)))
 have aD:=H.pb [0]
 obtain⟨n,M⟩:∃ q,mY l0 a=q:=⟨_,rfl⟩
 obtain⟨bE,ag,E,ah,ai⟩:=IZ aD
 refine cl Tryz.call134 (rP _ _ u l0.length G l0 p a h d j f s l g n ag (ai _ 0 _ rfl aW) rfl e6 (E _ J) e6 z (E _ K) e6 (λ x9 h9=>⟨E _ (B x9 h9).1,(B x9 h9).2⟩) (E _ L) e6 M) ?_
 rintro _ bF ⟨rfl,aj,U⟩
 have ak:=ah _ _ aj
 replace U: -1<=n/\n < (l0.length:Int):=U
 refine An rfl (Ik (sr (Mz rfl (Kz (.bool (decide (n=(-1)))) (nt ?_)))))
 by_cases S:n=(-1)
 refine jT (dT S) (sr (Mz rfl (An rfl (rt (tR (rs ?_))))))
 have aF:=ak.pb [0]
 obtain rfl:=zj hr zq2
 exact⟨u,G,rfl,aF,j8⟩
 refine jF (dF S) (sk (Ik (sr (Mz rfl (fw (vI (n+1)) (Ir (e:=C3.wrap (n+1)) yk g1) (An rfl (bo ?_)))))))
 have aG:=ak.pf []
 obtain⟨aI,F⟩:=tq λ (b:Int) (m:Int) r (N:Nat) w'=>Own w D w' [blk p (gK a h d j f l g) 42,row u l0.length G (q4 (eI .i64) r) 3 1]/\r.length=l0.length/\(0<=b/\b<=m/\m<=(l0.length:Int))/\C6 ((l0.length:Int) - m) < N/\gJ l0 a ((C6 ((l0.length:Int) - (n+1)))+1) n (n+1) l0=gJ l0 a N b m r
 refine C1 (λ i:Int × Int × (List Int) × Nat=> [(5,vI i.1),(6,vI i.2.1),(4, .slice none 0 0),(0, .slice u l0.length G),(1, .func (.func 97) #[] #[vP p 0])]) aI (λ i=>i.2.2.2) (n,n+1,l0,(C6 ((l0.length:Int) - (n+1)))+1) ⟨rfl,rfl,rfl,rfl,rfl,trivial⟩ (F.2 ⟨aG,by first | omega | (simp only [G4] <;> omega) | (simp only [H0]),e6,e6,rfl⟩) ?_
 rintro ⟨b,m,r,N⟩ bG au
 obtain⟨t,bi,bn,bq,O⟩:=F.1 au
 obtain⟨I,av⟩:∃ q,N=q+1:=⟨N - 1,e6⟩
 subst av
 refine Ik (sr (Mz rfl (Mz rfl (Kz (vJ l0.length) (Kz (.bool (decide (m < (l0.length:Int)))) (nt ?_))))))
 by_cases P:m < (l0.length:Int)
 refine jT (dT P) (sk (Ik (bo (sr (Mz rfl (fw (vJ (C6 m)) (Ir (e:=m) (IA rfl) e6) ?_))))))
 obtain⟨C,Q⟩:=dh (ls:=r) (i:=C6 m) iL f2 (t.rds (i:=1) rfl) e9
 refine fw (.pointer (some ⟨ab u,ao u+(C6 m) *1,none⟩)) (Iz (mq) rfl rfl ((t.rds (i:=1) rfl).addr (i:=C6 m) e6) e6) (fw (vI C) (IB rfl (bJ.one C2 (((t.rds (i:=1) rfl).elem iL Q f2).at_ (k:=0) rfl))) (Ar rfl (Mz rfl (Mz rfl ?_))))
 refine WL.do rfl (IY Tryz.call97 rfl rfl ?_ (λ _ _ k=>k))
 refine cb Tryz.func97 ?_
 refine sr (Ar rfl (Mz rfl (Kz (vP p 1) (Lz (vI a.aI) t 0 C2 (Kz (.bool (decide (C=a.aI))) (An rfl (rt (rs (fw (.bool (decide (¬ (C=a.aI)))) (IM (e:= !(decide (C=a.aI))) yk decide_not.symm) (nt ?_))))))))))
 by_cases T:C=a.aI
 refine jF (dF (Lr T)) (IU (bN (Iq (Il (Mz rfl (fw (vI (m+1)) (Ir (e:=C3.wrap (m+1)) yk g1) (Az rfl (C4 ?_))))))))
 have aJ:=t.pf []
 exact II (b,m+1,r,I) ⟨rfl,rfl,rfl,rfl,rfl,trivial⟩ (F.2 ⟨aJ,by first | omega | (simp only [G4] <;> omega) | (simp only [H0]),e6,e6,Eq.trans (O) (Eq.trans (if_pos P) (Eq.trans (ae (aT Q)) (if_pos T)))⟩) (by show I < I+1; omega)
 refine jT (dT T) (sr (Mz rfl (fw (vJ (C6 b)) (Ir (e:=b) (IA rfl) e6) (Mz rfl ?_))))
 obtain⟨bH,V⟩:=dh (ls:=r) (i:=C6 b) iL f2 (t.rds (i:=1) rfl) e9
 refine fw (.pointer (some ⟨ab u,ao u+(C6 b) *1,none⟩)) (Iz (mq) rfl rfl ((t.rds (i:=1) rfl).addr (i:=C6 b) e6) e6) ?_
 have aK:=t.pb [0]
 refine Jz (Do.storeRow (vs:= [vI C]) (o:=(C6 b) *1+0) (q:=ao u+(C6 b) *1) aK rfl e6 rfl Tryz.sizeOf3 rfl rfl (Lj rfl) (ja iL V (Lj rfl)) (jJ (y:=C) iL rfl (Lj rfl) V) ?_)
 intro bI aL
 refine nt (Il (Mz rfl (fw (vI (b+1)) (Ir (e:=C3.wrap (b+1)) yk g1) (Az rfl (C4 (bN (Iq (Il (Mz rfl (fw (vI (m+1)) (Ir (e:=C3.wrap (m+1)) yk g1) (Az rfl (C4 ?_))))))))))))
 have aO:=aL.pb [0]
 exact II (b+1,m+1,(I3 r (C6 b) C),I) ⟨rfl,rfl,rfl,rfl,rfl,trivial⟩ (F.2 ⟨aO,by first | omega | (simp only [G4] <;> omega) | (simp only [H0]),e6,e6,Eq.trans (O) (Eq.trans (if_pos P) (Eq.trans (ae (aT Q)) (if_neg T)))⟩) (by show I < I+1; omega)
 refine jF (dF P) (C5 (IC ?_))
 have ax:gJ l0 a ((C6 ((l0.length:Int) - (n+1)))+1) n (n+1) l0=(b,r):=et (O) (iN P)
 refine IC (IK (Iq (sr (Mz rfl (fw (vJ (C6 b)) (Ir (e:=b) (IA rfl) e6) (fw (.slice (jw u (C6 b) 1 G) (l0.length - (C6 b)) (G - (C6 b))) (I5 (mq) rfl rfl e6) ?_))))))
 have aP:=t.pb [0]
 obtain⟨bu,aQ,ay⟩:=aP.rowFull
 refine Jz (JV (z0:=(vI 0)) (lo:=C6 b) (nd:=(l0.length - (C6 b))) e7 rfl (mq) ay rfl (λ _=>kS ((ay.rds (i:=0) rfl).isSome e6) e6) e6 ?_)
 intro az bv bz aR
 refine ns (Mz rfl (fw (vJ (C6 b)) (Ir (e:=b) (IA rfl) e6) (fw (.slice u (C6 b) G) (Jk (mq) rfl rfl e6) (An rfl (rt (rs ?_))))))
 have aS:Own w D az [row u (C6 b) G (q4 (eI .i64) (r3 (C6 b) r)) 3 1,blk p (gK a h d j f l g) 42]:=aR.rowPart e6 (Eh iL e6)
 have bA:s0 (r3 (C6 b) r)=C6 b:=by rw [o0]; omega
 have R:C6 b=s0 (r3 (C6 b) r):=by first | omega | (simp only [G4]; done) | (simp only [G4,o2,s1,E7,o0,o1,H0]; omega)
 have aU:Own w D az [row u (s0 (r3 (C6 b) r)) G (q4 (eI .i64) (r3 (C6 b) r)) 3 1,blk p (gK a h d j f l g) 42]:=by rw [<- R]; exact aS
 have aV:=aU.pf []
 obtain rfl:=zj hr zq3
 exact⟨u,G,(by first | rfl | (rw [<- R]; done) | (rw [<- R]; rfl)),aV,j8⟩
def lT (f:bU) (g:bW) (a:aD):bU × aD:=
 bnd (bQ a.aa.ak.ls g.aX) λ c=>if c.2=true then bnd (B8 a.aa.ak.ls (C6 c.1) default) λ b=>bnd (ig b.au.ls g) λ d=>bnd (B8 (I3 a.aa.ak.ls (C6 c.1) (bH.mk b.aX b.aP b.ax b.aU (E0 d))) (C6 c.1) default) λ e=>if(e.au.ls.length:Int)=0 then(f,aD.mk (bZ.mk a.aa.au a.aa.ax a.aa.bG a.aa.aF (E0 a.aa.ag.ls) (E0 (r3 (C6 c.1) (I3 a.aa.ak.ls (C6 c.1) (bH.mk b.aX b.aP b.ax b.aU (E0 d)))++r4 ((C6 c.1)+1) (I3 a.aa.ak.ls (C6 c.1) (bH.mk b.aX b.aP b.ax b.aU (E0 d))))) (E0 a.aa.aK.ls)) a.bT (E0 a.aC.ls) a.bM a.bD a.bA a.bC a.bB a.dO a.dG a.dH a.dD a.dE) else(f,aD.mk (bZ.mk a.aa.au a.aa.ax a.aa.bG a.aa.aF (E0 a.aa.ag.ls) (E0 (I3 a.aa.ak.ls (C6 c.1) (bH.mk b.aX b.aP b.ax b.aU (E0 d)))) (E0 a.aa.aK.ls)) a.bT (E0 a.aC.ls) a.bM a.bD a.bA a.bC a.bB a.dO a.dG a.dH a.dD a.dE) else(f,a)
theorem wN (w D g0) (p0:bU) (u z t) (p:bW) (au bf Y av bg Z ax aB bi aa l) (a:aD) (C E g n h F G I J K L M N O P Q R S T) (r0:bU) (B:aD) (H:Own w D w [blk g0 [.pointer (some ⟨l,0,none⟩), .slice u p0.bF.ls.length z] 98,row u p0.bF.ls.length z (q4 bz.cells t) 42 21,sepL (q4 bz.own t),mK l a C a.aa.ag.ls.length E g n F G I J K L M N O P Q R S T,row g a.aa.ak.ls.length n (q4 ay.cells h) 60 5,sepL (q4 ay.own h)]) (W:s5 bz.abs t=p0.bF.ls) (bD:bf=p.aB.ls.length) (bE:Ro w D λ w'=>aY w' 6 au p.aB.ls.length (q4 aN.cells p.aB.ls)) (dH:p.aB.ls.length<=Y/\p.aB.ls.length<=9223372036854775807) (aK:s5 af.abs ax=p.ah.ls) (bF:bg=p.ah.ls.length) (bG:Ro w D λ w'=>aY w' 3 av p.ah.ls.length (q4 af.cells ax)) (dI:p.ah.ls.length<=Z/\p.ah.ls.length<=9223372036854775807) (aL:∀ x ∈ ax,Ro w D (λ w'=>aY w' 2 x.aj.A x.aj.ls.length (q4 aH.cells x.aj.ls))/\(x.aj.ls.length<=x.aj.c/\x.aj.ls.length<=9223372036854775807)) (bI:bi=p.ag.ls.length) (bK:Ro w D λ w'=>aY w' 2 aB p.ag.ls.length (q4 aM.cells p.ag.ls)) (dJ:p.ag.ls.length<=aa/\p.ag.ls.length<=9223372036854775807) (m:s5 ay.abs h=a.aa.ak.ls) (fe:a.aa.ag.ls.length<=1000/\a.aa.ak.ls.length<=1000/\a.aa.aK.ls.length<=1000/\a.aC.ls.length<=1000/\p0.bF.ls.length<=100000) (fo:Dk a.aa.ak.ls) (hr:lT p0 p a=(r0,B)):
    Calls v5 58 #[vP g0 0, .agg (iA p.av p.aI p.eO p.aP p.dK p.fA p.aU p.ax p.aX p.eQ p.bG p.aF p.eG p.cZ p.xN p.fe p.cu.aJ p.cu.aR au bf Y av bg Z aB bi aa).toArray] w (dA λ v w'=> ∃ aO aP ai aQ aR aj,v= .tuple #[]/\Own w D w' [blk g0 [vP l 0, .slice aO r0.bF.ls.length aP] 98,row aO r0.bF.ls.length aP (q4 bz.cells ai) 42 21,sepL (q4 bz.own ai),blk l [vI B.aa.au,vU B.aa.ax,vU B.aa.bG,vU B.aa.aF, .slice C a.aa.ag.ls.length E, .slice aQ B.aa.ak.ls.length aR, .slice F a.aa.aK.ls.length G,vU B.bT, .slice I a.aC.ls.length J, .bool B.bM.dB,vU B.bM.bi,vI B.bM.dP, .slice K a.bM.ai.ls.length L, .bool B.bD.dB,vU B.bD.bi,vI B.bD.dP, .slice M a.bD.ai.ls.length N, .bool B.bA.dB,vU B.bA.bi,vI B.bA.dP, .slice O a.bA.ai.ls.length P, .bool B.bC.dB,vU B.bC.bi,vI B.bC.dP, .slice Q a.bC.ai.ls.length R, .bool B.bB.dB,vU B.bB.bi,vI B.bB.dP, .slice S a.bB.ai.ls.length T,vU B.dO,vU B.dG,vU B.dH,vU B.dD,vU B.dE, .pointer none] 86,row aQ B.aa.ak.ls.length aR (q4 ay.cells aj) 60 5,sepL (q4 ay.own aj)]/\(s5 bz.abs ai=r0.bF.ls)/\(s5 ay.abs aj=B.aa.ak.ls)):=by
 unfold lT at hr
 subst bD bF bI
 have dE:=aA W
 have dG:=aA aK
 have bN:=aA m
 have dK:=zr 1 H
 have bO:=zr 4 H
 refine cb Tryz.func58 ?_
 refine sr ?_
 refine dn (gK p au Y av Z aB aa) 42 H ?_
 intro bL fq dL
 refine nt (Ik ?_)
 refine Db [] (IE IQ) dL ?_
 intro fu bM
 refine qv 0 rfl rfl (qp g0 0 1 rfl (qp g0 0 2 rfl (ql 3 rfl 1 P6 rfl rfl rfl (qp bL 8 4 rfl (ql 5 rfl 0 D2 rfl rfl rfl ?_)))))
 refine GX.do 6 rfl e7 (IP Tryz.call95 rfl ?_ (λ _ _ k=>k))
 refine cb Tryz.func95 ?_
 refine sr (Az rfl (Ar rfl (Mz rfl (Kz (vP l 0) (Kz (vP l 0) (Kz (vP l 5) (Lz (.slice g a.aa.ak.ls.length n) bM 4 D0 (Mz rfl ?_))))))))
 obtain⟨⟨d,ag⟩,aC⟩:∃ q:Int × Bool,bQ a.aa.ak.ls p.aX=q:=⟨_,rfl⟩
 obtain⟨fA,bP,ek,bR,bu⟩:=Iu bM
 refine cl Tryz.call132 (gU _ _ g a.aa.ak.ls.length n h a.aa.ak.ls p.aX d ag bP m (bu _ 5 _ rfl aW) (λ x9 h9=>⟨bu _ 6 _ rfl (az (Q6.2 ⟨x9,h9,b1⟩) aW),bq (φ:=λ _=>_) bM (i:=6) rfl (az (Q6.2 ⟨x9,h9,b1⟩) bn)⟩) rfl e6 aC) ?_
 rintro _ dM ⟨rfl,bV,bv,bA⟩
 have X:=bR _ _ bV
 replace bv:0<=d/\d<=(a.aa.ak.ls.length:Int):=bv
 replace bA:Bool.toNat ag=0\/d < (a.aa.ak.ls.length:Int):=bA
 refine Kz (vI d) (Kz (.bool ag) (Az rfl (An rfl (rt (Fin.res (lH rfl rfl rfl) ?_)))))
 refine⟨.inr ⟨_,X⟩, ?_⟩
 refine qv 7 rfl rfl (qk (vI d) 8 rfl (qk (.bool ag) 9 rfl (qa 10 rfl rfl (qa 11 rfl rfl (qn (Iq (Ik (sr (Mz rfl (Kz (.bool (!ag)) (nt ?_)))))))))))
 rcases Ls (ag) with ah | ah
 have h39t:Bool.toNat ag=1:=by rw [ah]; rfl
 refine jF (cn ah) (sk (sr (Mz rfl (Kz (vP g0 0) (Kz (vP g0 0) (Lz (vP l 0) X 1 P6 (Kz (vP l 0) (Kz (vP l 0) (Kz (vP l 5) (Lz (.slice g a.aa.ak.ls.length n) X 4 D0 (fw (vJ (C6 d)) (Ir (e:=d) (IA rfl) e6) ?_)))))))))))
 obtain⟨b,U⟩:=dh (ls:=h) (i:=C6 d) ay.len f2 (X.rds (i:=5) rfl) e9
 have aS:=eY m U
 have eu:b.au.ls.length<=b.au.c/\b.au.ls.length<=9223372036854775807:=bq X (i:=6) rfl (φ:=λ _=>_) (az (Q6.2 ⟨b,D1 U,b1⟩) bn)
 have eB:b.au.ls.length<=1000:=GI f5 aS
 refine fw (.pointer (some ⟨ab g,ao g+(C6 d) *5,none⟩)) (Iz (kM) rfl rfl ((X.rds (i:=5) rfl).addr (i:=C6 d) e6) e6) (Ar rfl (Mz rfl (Mz rfl (Kz (.pointer (some ⟨ab g,ao g+(C6 d) *5,none⟩)) (Kz (.pointer (some ⟨ab g,ao g+(C6 d) *5+4,none⟩)) (fw (.slice b.au.A b.au.ls.length b.au.c) (IB rfl (bJ.one Tryz.isAgg58 (((X.rds (i:=5) rfl).elem ay.len U f2).at_ (k:=4) rfl))) (Kz (.func (.func 97) #[] #[vP bL 0]) ?_)))))))
 have dN:=X.pf [6]
 have bX:Own w D dM (row b.au.A b.au.ls.length b.au.c (q4 (eI .i64) b.au.ls) 3 1::sepL (q4 ay.own (r3 (C6 d) h)++q4 ay.own (r4 (C6 d+1) h))::_):=Jm (f:=ay.own) (i:=C6 d) U dN
 have eD:=zr 0 bX
 have dO:=bX.pf [0,2]
 obtain⟨j,aU⟩:∃ q,ig b.au.ls p=q:=⟨_,rfl⟩
 obtain⟨fB,bY,aF,cu,eF⟩:=IV dO
 refine cl Tryz.call96 (rf _ _ b.au.A b.au.ls.length b.au.c b.au.ls bL p au Y av Z ax aB aa j bY rfl e6 (aF _ bE) e6 aK (aF _ bG) e6 (λ x9 h9=>⟨aF _ (aL x9 h9).1,(aL x9 h9).2⟩) (aF _ bK) e6 e6 aU) ?_
 rintro _ dP ⟨r,s,rfl,cz,bB⟩
 have cB:=cu _ _ cz
 have eG:=zr 0 cB
 replace bB:j.length<=b.au.ls.length:=bB
 refine Kz (.pointer (some ⟨ab g,ao g+(C6 d) *5,none⟩)) (Kz (.pointer (some ⟨ab g,ao g+(C6 d) *5+4,none⟩)) ?_)
 have dQ:=cB.pf [0,2]
 have dR:Own w D dP (sepL (q4 ay.own (I3 h (C6 d) (ay.mk b.aX b.aP b.ax b.aU (G3 r s j))))::_):=Je (f:=ay.own) (y:=(ay.mk b.aX b.aP b.ax b.aU (G3 r s j))) U dQ
 have dS:=dR.pf [6]
 refine Jz (Do.storeRow (vs:= [.slice r j.length s]) (o:=(C6 d) *5+4) (q:=ao g+(C6 d) *5+4) dS rfl e6 rfl Tryz.sizeOf58 rfl rfl (Lj rfl) (ja ay.len U (Lj rfl)) (jJ (y:=(ay.mk b.aX b.aP b.ax b.aU (G3 r s j))) ay.len rfl (Lj rfl) U) ?_)
 intro cK dU
 have eH:s0 (I3 h (C6 d) (ay.mk b.aX b.aP b.ax b.aU (G3 r s j)))=s0 (I3 a.aa.ak.ls (C6 d) (bH.mk b.aX b.aP b.ax b.aU (E0 j))):=aA (jl m rfl)
 have eO:s0 (I3 a.aa.ak.ls (C6 d) (bH.mk b.aX b.aP b.ax b.aU (E0 j)))=a.aa.ak.ls.length:=G4
 refine nt (Ik ?_)
 have aV:=dU.px [] [2] []
 refine Il (Mz rfl (Kz (.pointer (some ⟨ab g,ao g+(C6 d) *5,none⟩)) (Kz (.pointer (some ⟨ab g,ao g+(C6 d) *5+4,none⟩)) ?_)))
 obtain⟨V,aG⟩:=dh (ls:=(I3 h (C6 d) (ay.mk b.aX b.aP b.ax b.aU (G3 r s j)))) (i:=C6 d) ay.len f2 (aV.rds (i:=0) rfl) e9
 have bC:=eY (jl m rfl) aG
 have eP:V.au.ls.length<=V.au.c/\V.au.ls.length<=9223372036854775807:=bq aV (i:=1) rfl (φ:=λ _=>_) (az (Q6.2 ⟨V,D1 aG,b1⟩) bn)
 refine fw (.slice V.au.A V.au.ls.length V.au.c) (IB rfl (bJ.one Tryz.isAgg58 (((aV.rds (i:=0) rfl).elem ay.len aG f2).at_ (k:=4) rfl))) (Kz (vJ V.au.ls.length) (Kz (.bool (decide ((V.au.ls.length:Int)=0))) (nt ?_)))
 by_cases aZ:(V.au.ls.length:Int)=0
 refine jT (dT aZ) ?_
 have aX:a.aa.ak.ls.length=s0 (I3 a.aa.ak.ls (C6 d) (bH.mk b.aX b.aP b.ax b.aU (E0 j))):=by first | omega | (simp only [G4]; done) | (simp only [G4,o2,s1,E7,o0,o1,H0]; omega)
 have dV:Own w D cK [row g (s0 (I3 a.aa.ak.ls (C6 d) (bH.mk b.aX b.aP b.ax b.aU (E0 j)))) n (q4 ay.cells (I3 h (C6 d) (ay.mk b.aX b.aP b.ax b.aU (G3 r s j)))) 60 5,sepL (q4 ay.own (I3 h (C6 d) (ay.mk b.aX b.aP b.ax b.aU (G3 r s j)))),blk g0 [vP l 0, .slice u p0.bF.ls.length z] 98,row u p0.bF.ls.length z (q4 bz.cells t) 42 21,sepL (q4 bz.own t),blk l [vI a.aa.au,vU a.aa.ax,vU a.aa.bG,vU a.aa.aF, .slice C a.aa.ag.ls.length E, .slice g (s0 (I3 a.aa.ak.ls (C6 d) (bH.mk b.aX b.aP b.ax b.aU (E0 j)))) n, .slice F a.aa.aK.ls.length G,vU a.bT, .slice I a.aC.ls.length J, .bool a.bM.dB,vU a.bM.bi,vI a.bM.dP, .slice K a.bM.ai.ls.length L, .bool a.bD.dB,vU a.bD.bi,vI a.bD.dP, .slice M a.bD.ai.ls.length N, .bool a.bA.dB,vU a.bA.bi,vI a.bA.dP, .slice O a.bA.ai.ls.length P, .bool a.bC.dB,vU a.bC.bi,vI a.bC.dP, .slice Q a.bC.ai.ls.length R, .bool a.bB.dB,vU a.bB.bi,vI a.bB.dP, .slice S a.bB.ai.ls.length T,vU a.dO,vU a.dG,vU a.dH,vU a.dD,vU a.dE, .pointer none] 86]:=by rw [<- aX]; exact aV
 have dW:=dV.pf [2,5]
 refine pM [19] IQ dW ?_
 intro fC dX
 refine qv 0 rfl rfl (qp g0 0 1 rfl (qp g0 0 2 rfl (ql 3 rfl 0 P6 rfl rfl rfl (qv 4 rfl rfl (qp g0 0 5 rfl (qp g0 0 6 rfl (ql 7 rfl 0 P6 rfl rfl rfl (qp l 0 8 rfl (qp l 0 9 rfl (qp l 5 10 rfl (ql 11 rfl 1 D0 rfl rfl rfl (qv 12 rfl rfl (qv 13 rfl rfl (qt (v:=vI (d+1)) 14 rfl (λ _ _=>Ir (e:=C3.wrap (d+1)) yk g1) ?_))))))))))))))
 have dY:=dX.pf [2,3]
 obtain⟨fE,cO,eQ,cZ,eT⟩:=IV dY
 refine qd 15 rfl (IP Tryz.call98 rfl (vL _ _ g (s0 (I3 a.aa.ak.ls (C6 d) (bH.mk b.aX b.aP b.ax b.aU (E0 j)))) n (I3 h (C6 d) (ay.mk b.aX b.aP b.ax b.aU (G3 r s j))) (I3 a.aa.ak.ls (C6 d) (bH.mk b.aX b.aP b.ax b.aU (E0 j))) d (d+1) (C6 d) V cO e6 (jl m rfl) e6 e6 e6 aG) ?_)
 rintro _ fF ⟨df,di,rfl,dm⟩
 have dw:=cZ _ _ dm
 have eU:s0 (r3 (C6 d) (I3 h (C6 d) (ay.mk b.aX b.aP b.ax b.aU (G3 r s j)))++r4 ((C6 d)+1) (I3 h (C6 d) (ay.mk b.aX b.aP b.ax b.aU (G3 r s j))))=s0 (r3 (C6 d) (I3 a.aa.ak.ls (C6 d) (bH.mk b.aX b.aP b.ax b.aU (E0 j)))++r4 ((C6 d)+1) (I3 a.aa.ak.ls (C6 d) (bH.mk b.aX b.aP b.ax b.aU (E0 j)))):=by exact aA (pK (jl m rfl))
 have eX:s0 (r3 (C6 d) (I3 a.aa.ak.ls (C6 d) (bH.mk b.aX b.aP b.ax b.aU (E0 j)))++r4 ((C6 d)+1) (I3 a.aa.ak.ls (C6 d) (bH.mk b.aX b.aP b.ax b.aU (E0 j))))+1=s0 (I3 a.aa.ak.ls (C6 d) (bH.mk b.aX b.aP b.ax b.aU (E0 j))):=by simp only [o2,o0,o1]; omega
 have eZ:=zr 2 dw
 have dx:=dw.pf [3,4]
 refine⟨.inr ⟨_,dx⟩, ?_⟩
 refine qp l 0 16 rfl (qp l 0 17 rfl (qp l 5 18 rfl ?_))
 have dZ:=dx.pf [1]
 refine qe 19 rfl (Do.store (vs:= [.slice df (s0 (r3 (C6 d) (I3 a.aa.ak.ls (C6 d) (bH.mk b.aX b.aP b.ax b.aU (E0 j)))++r4 ((C6 d)+1) (I3 a.aa.ak.ls (C6 d) (bH.mk b.aX b.aP b.ax b.aU (E0 j))))) di]) (o:=5) dZ rfl rfl Tryz.sizeOf30 rfl rfl rfl rfl ?_)
 intro fG d9
 refine⟨.inl e7, ?_⟩
 refine qn (IL (res0 rfl) ?_)
 have ed:=d9.px [] [4] [0,2,3]
 obtain⟨rfl,rfl⟩:=fD (zj hr (show _=(p0,aD.mk (bZ.mk a.aa.au a.aa.ax a.aa.bG a.aa.aF (E0 a.aa.ag.ls) (E0 (r3 (C6 d) (I3 a.aa.ak.ls (C6 d) (bH.mk b.aX b.aP b.ax b.aU (E0 j)))++r4 ((C6 d)+1) (I3 a.aa.ak.ls (C6 d) (bH.mk b.aX b.aP b.ax b.aU (E0 j))))) (E0 a.aa.aK.ls)) a.bT (E0 a.aC.ls) a.bM a.bD a.bA a.bC a.bB a.dO a.dG a.dH a.dD a.dE) from et (ae aC) (et (ip ah) (et (ae (aT aS)) (et (ae aU) (et (ae (aT bC)) (ip aZ)))))))
 exact⟨u,z,t,df,di,(r3 (C6 d) (I3 h (C6 d) (ay.mk b.aX b.aP b.ax b.aU (G3 r s j)))++r4 ((C6 d)+1) (I3 h (C6 d) (ay.mk b.aX b.aP b.ax b.aU (G3 r s j)))),(by first | rfl | (rw [<- aX]; done) | (rw [<- aX]; rfl)),ed,W,(pK (jl m rfl))⟩
 refine jF (dF aZ) (IU (IL (res0 rfl) ?_))
 have ak:a.aa.ak.ls.length=s0 (I3 a.aa.ak.ls (C6 d) (bH.mk b.aX b.aP b.ax b.aU (E0 j))):=by first | omega | (simp only [G4]; done) | (simp only [G4,o2,s1,E7,o0,o1,H0]; omega)
 have dz:Own w D cK [row g (s0 (I3 a.aa.ak.ls (C6 d) (bH.mk b.aX b.aP b.ax b.aU (E0 j)))) n (q4 ay.cells (I3 h (C6 d) (ay.mk b.aX b.aP b.ax b.aU (G3 r s j)))) 60 5,sepL (q4 ay.own (I3 h (C6 d) (ay.mk b.aX b.aP b.ax b.aU (G3 r s j)))),blk g0 [vP l 0, .slice u p0.bF.ls.length z] 98,row u p0.bF.ls.length z (q4 bz.cells t) 42 21,sepL (q4 bz.own t),blk l [vI a.aa.au,vU a.aa.ax,vU a.aa.bG,vU a.aa.aF, .slice C a.aa.ag.ls.length E, .slice g (s0 (I3 a.aa.ak.ls (C6 d) (bH.mk b.aX b.aP b.ax b.aU (E0 j)))) n, .slice F a.aa.aK.ls.length G,vU a.bT, .slice I a.aC.ls.length J, .bool a.bM.dB,vU a.bM.bi,vI a.bM.dP, .slice K a.bM.ai.ls.length L, .bool a.bD.dB,vU a.bD.bi,vI a.bD.dP, .slice M a.bD.ai.ls.length N, .bool a.bA.dB,vU a.bA.bi,vI a.bA.dP, .slice O a.bA.ai.ls.length P, .bool a.bC.dB,vU a.bC.bi,vI a.bC.dP, .slice Q a.bC.ai.ls.length R, .bool a.bB.dB,vU a.bB.bi,vI a.bB.dP, .slice S a.bB.ai.ls.length T,vU a.dO,vU a.dG,vU a.dH,vU a.dD,vU a.dE, .pointer none] 86]:=by rw [<- ak]; exact aV
 have dB:=dz.pb [0,1]
 obtain⟨rfl,rfl⟩:=fD (zj hr (show _=(p0,aD.mk (bZ.mk a.aa.au a.aa.ax a.aa.bG a.aa.aF (E0 a.aa.ag.ls) (E0 (I3 a.aa.ak.ls (C6 d) (bH.mk b.aX b.aP b.ax b.aU (E0 j)))) (E0 a.aa.aK.ls)) a.bT (E0 a.aC.ls) a.bM a.bD a.bA a.bC a.bB a.dO a.dG a.dH a.dD a.dE) from et (ae aC) (et (ip ah) (et (ae (aT aS)) (et (ae aU) (et (ae (aT bC)) (iN aZ)))))))
 exact⟨u,z,t,g,n,(I3 h (C6 d) (ay.mk b.aX b.aP b.ax b.aU (G3 r s j))),(by first | rfl | (rw [<- ak]; done) | (rw [<- ak]; rfl)),dB,W,(jl m rfl)⟩
 have h39t:Bool.toNat ag=0:=by rw [ah]; rfl
 refine jT (cn ah) (rt (tR (Fin.res (res0 rfl) ?_)))
 have dC:=X.px [] [0] []
 obtain⟨rfl,rfl⟩:=fD (zj hr zq2)
 exact⟨u,z,t,g,n,h,rfl,dC,W,m⟩
def gB:List fu->List Int->(List Int)
  | [],a=>a
  | b::c,a=>gB c (a++ [b.bE])
def kr (a:ed):(List Int):=
 bnd (gB a.aO.ls []) λ sLrL=>sLrL
theorem qV (w D L) (a:ed) (j l f g u n o p r B W) (H:Own w D w [blk L (Cs a j l f g n o p r) 107]) (Z:Ro w D λ w'=>aY w' 6 j a.cB.ls.length (q4 aN.cells a.cB.ls)) (aa:a.cB.ls.length<=l/\a.cB.ls.length<=9223372036854775807) (C:s5 bO.abs u=a.aO.ls) (t:Ro w D λ w'=>aY w' 3 f a.aO.ls.length (q4 bO.cells u)) (ag:a.aO.ls.length<=g/\a.aO.ls.length<=9223372036854775807) (E:∀ x ∈ u,Ro w D (λ w'=>aY w' 6 x.aB.A x.aB.ls.length (q4 aN.cells x.aB.ls))/\(x.aB.ls.length<=x.aB.c/\x.aB.ls.length<=9223372036854775807)/\Ro w D (λ w'=>aY w' 1 x.aI.A x.aI.ls.length (q4 (eI .i64) x.aI.ls))/\(x.aI.ls.length<=x.aI.c/\x.aI.ls.length<=9223372036854775807)) (ah:Ro w D λ w'=>aY w' 1 n a.bL.ls.length (q4 eL a.bL.ls)) (ai:a.bL.ls.length<=o/\a.bL.ls.length<=9223372036854775807) (M:s5 bP.abs B=a.ai.ls) (aj:Ro w D λ w'=>aY w' 1 p a.ai.ls.length (q4 (I9 (β:=af)) B)) (ak:a.ai.ls.length<=r/\a.ai.ls.length<=9223372036854775807) (au:∀ x ∈ B,Ro w D (λ w'=>aY w' 3 x.A x.ls.length (q4 af.cells x.ls))/\(x.ls.length<=x.c/\x.ls.length<=9223372036854775807)/\(∀ O ∈ x.ls,Ro w D (λ w'=>aY w' 2 O.aj.A O.aj.ls.length (q4 aH.cells O.aj.ls))/\(O.aj.ls.length<=O.aj.c/\O.aj.ls.length<=9223372036854775807))) (aT:a.aO.ls.length<=1000) (hr:kr a=W):
    Calls v5 107 #[vP L 0] w (dA λ v w'=> ∃ B0 b0,v= .slice B0 W.length b0/\Own w D w' [row B0 W.length b0 (q4 (eI .i64) W) 3 1,blk L (Cs a j l f g n o p r) 107]):=by
 unfold kr at hr
 have X:=aA C
 have Y:=aA M
 refine cb Tryz.func107 ?_
 refine sr (Ar rfl (An rfl (Ik (sr (Mz rfl (Kz (vP L 0) (Kz (vP L 5) (Lz (.slice f a.aO.ls.length g) H 0 Tryz.isAgg103 (Kz (vJ a.aO.ls.length) (Mn rfl (bo ?_)))))))))))
 have av:Own w D w [row none 0 0 (q4 (eI .i64) []) 3 1,blk L (Cs a j l f g n o p r) 107]:=H.free (eP 3 1)
 have ax:=av.pb [0]
 obtain⟨ay,F⟩:=tq λ I (J:Nat) d (b:Nat) w'=>Own w D w' [blk L (Cs a j l f g n o p r) 107,row I d.length J (q4 (eI .i64) d) 3 1]/\b<=a.aO.ls.length/\d.length=b/\d.length<=b/\gB a.aO.ls []=gB (r4 b a.aO.ls) d
 refine C1 (λ i:(Option Addr) × Nat × (List Int) × Nat=> [(3, .slice i.1 i.2.2.1.length i.2.1),(11,vJ i.2.2.2),(10,vJ a.aO.ls.length),(9, .slice f a.aO.ls.length g),(2, .slice none 0 0)]) ay (λ i=>a.aO.ls.length - i.2.2.2) (none,0, [],0) ⟨rfl,rfl,rfl,rfl,rfl,trivial⟩ (F.2 ⟨ax,(show 0<=a.aO.ls.length/\0=0/\0<=0/\gB a.aO.ls []=gB (r4 0 a.aO.ls) [] from ⟨e6,e6,e6,rfl⟩)⟩) ?_
 rintro ⟨I,J,d,b⟩ aU P
 obtain⟨G,aM,aO,aP,K⟩:=F.1 P
 refine sr (Kz (.bool (decide ((b:Int) < (a.aO.ls.length:Int)))) (nt (Ik ?_)))
 by_cases Q:(b:Int) < (a.aO.ls.length:Int)
 obtain⟨h,z⟩:=dh (ls:=u) (i:=b) bO.len f2 (G.ro t) e9
 have R:=eY C z
 have aQ:=(E _ (D1 z)).2.1
 have aR:=(E _ (D1 z)).2.2.2
 have S:=drop_at R
 refine jT (dT Q) (sk (Ik (bo (sr (fw (.pointer (some ⟨ab f,ao f+b *3,none⟩)) (Iz (uR) rfl rfl ((G.ro t).addr (i:=b) e6) e6) (fw (.agg (bO.cells h).toArray) (IB rfl (IJ (cs:=(bO.cells h)) Tryz.isAgg172 Tryz.sizeOf172 ((G.ro t).elem bO.len z f2))) ?_))))))
 refine dn [vI 0, .slice none 0 0, .slice none 0 0] 172 G ?_
 intro az aV aB
 refine df (bO.cells h) 0 aB Tryz.sizeOf172 ?_
 intro aW T
 refine nt (Il (Mz rfl (Kz (vP az 0) (Lz (vI h.bE) T 0 C2 ?_))))
 refine jV [vI h.bE] 3 1 1 T ?_
 intro aC aX N
 replace N:=IX (y:=row aC 1 1 (q4 (eI .i64) ([h.bE])) 3 1) rfl N
 have U:=N.pf [3]
 refine WL.do rfl (IW (k:=d.length) (m:=1) (mq) U rfl rfl (gN Tryz.underlying58 (U.rds (i:=1) rfl) (dX qB ([h.bE]))) rfl e6 (s:=s0 (d++ [h.bE])) f7 (List.flatMap_append).symm ?_)
 intro aD aF aZ aG
 have aS:s0 (d++ [h.bE])=d.length+1:=by simp only [o2,s1,E7]
 refine Az rfl (C4 (bN (Iq (Il (fw (vJ (b+1)) (Ir (e:=C3.wrap ((b:Int)+1)) yk f0) (Mz rfl (C4 ?_)))))))
 have aI:=aG.pk [3,0]
 exact II (aD,aF,(d++ [h.bE]),b+1) ⟨rfl,rfl,rfl,rfl,rfl,trivial⟩ (F.2 ⟨aI,e6,e6,e6,et (K) (et (congrArg (λ q=>gB q d) S) rfl)⟩) (by show a.aO.ls.length - (b+1) < a.aO.ls.length - b; omega)
 refine jF (dF Q) (C5 (IC ?_))
 have V:gB a.aO.ls []=d:=et (K) (et (congrArg (λ q=>gB q d) (dZ (ls:=a.aO.ls) (i:=b) e6)) rfl)
 refine IC (IK (Iq (sr (Mz rfl (An rfl (rt (rs ?_)))))))
 have aJ:=G.pb [0]
 obtain rfl:=zj hr zq1
 exact⟨I,J,rfl,aJ⟩
theorem AJ:∀ (l:List fu) (o:List Int),s0 (gB l o)=o.length+l.length
  | [],o=>rfl
  | x::q,o=>by
    simp only [gB]
    rw [AJ q]
    simp only [o2,s1,E7]; omega
theorem yg {x:ed} {r:List Int} (h:kr x=r):r.length=x.aO.ls.length:=by
 rw [<- h]; exact(AJ x.aO.ls []).trans (Nat.zero_add _)
def iy (g:bU) (f:Int) (a:aD):bU × aD:=
 bnd (B8 a.aC.ls (C6 f) default) λ c=>bnd (dL g c.bf c.bi 2 [] (aD.mk a.aa a.bT (E0 (r3 (C6 f) a.aC.ls++r4 ((C6 f)+1) a.aC.ls)) a.bM a.bD a.bA a.bC a.bB a.dO a.dG a.dH a.dD a.dE)) λ b=>bnd (kr (ed.mk c.bI c.bf c.bi c.fE (E0 c.cB.ls) (E0 c.aO.ls) (E0 c.bL.ls) (E0 c.ai.ls) c.iI)) λ d=>bnd (fV b.1 c.bI d false) λ e=>(e,aD.mk (bZ.mk b.2.aa.au b.2.aa.ax b.2.aa.bG b.2.aa.aF (E0 a.aa.ag.ls) (E0 a.aa.ak.ls) (E0 a.aa.aK.ls)) b.2.bT (E0 (r3 (C6 f) a.aC.ls++r4 ((C6 f)+1) a.aC.ls)) b.2.bM b.2.bD b.2.bA b.2.bC b.2.bB b.2.dO b.2.dG b.2.dH b.2.dD b.2.dE)
theorem oQ (w D g0) (p0:bU) (aF aG aB m g) (a:aD) (z B C E F G k p d I J r K L s M N t O P u Q R x) (r0:bU) (f:aD) (H:Own w D w [blk g0 [.pointer (some ⟨g,0,none⟩), .slice aF p0.bF.ls.length aG] 98,row aF p0.bF.ls.length aG (q4 bz.cells aB) 42 21,sepL (q4 bz.own aB),mK g a z a.aa.ag.ls.length B C E F G k p I J K L M N O P Q R,row k a.aC.ls.length p (q4 bK.cells d) 107 9,sepL (q4 bK.own d),row I a.bM.ai.ls.length J (q4 af.cells r) 149 3,sepL (q4 af.own r),row K a.bD.ai.ls.length L (q4 af.cells s) 149 3,sepL (q4 af.own s),row M a.bA.ai.ls.length N (q4 af.cells t) 149 3,sepL (q4 af.own t),row O a.bC.ai.ls.length P (q4 af.cells u) 149 3,sepL (q4 af.own u),row Q a.bB.ai.ls.length R (q4 af.cells x) 149 3,sepL (q4 af.own x)]) (aH:s5 bz.abs aB=p0.bF.ls) (h:s5 bK.abs d=a.aC.ls) (S:s5 af.abs r=a.bM.ai.ls) (T:s5 af.abs s=a.bD.ai.ls) (U:s5 af.abs t=a.bA.ai.ls) (V:s5 af.abs u=a.bC.ai.ls) (W:s5 af.abs x=a.bB.ai.ls) (iU:a.aa.ag.ls.length<=1000/\a.aa.ak.ls.length<=1000/\a.aa.aK.ls.length<=1000/\a.aC.ls.length<=1000/\p0.bF.ls.length<=100000) (iV:Ak a.aC.ls) (iW:0<=m/\m < ((a.aC.ls.length:Nat):Int)) (hr:iy p0 m a=(r0,f)):
    Calls v5 63 #[vP g0 0,vI m] w (dA λ v w'=> ∃ aI aJ Z aK aL aa aM aN ag aO aP ah aQ aR ai aS aU aj aV aX ak,v= .tuple #[]/\Own w D w' [blk g0 [vP g 0, .slice aI r0.bF.ls.length aJ] 98,row aI r0.bF.ls.length aJ (q4 bz.cells Z) 42 21,sepL (q4 bz.own Z),blk g [vI f.aa.au,vU f.aa.ax,vU f.aa.bG,vU f.aa.aF, .slice z a.aa.ag.ls.length B, .slice C a.aa.ak.ls.length E, .slice F a.aa.aK.ls.length G,vU f.bT, .slice aK f.aC.ls.length aL, .bool f.bM.dB,vU f.bM.bi,vI f.bM.dP, .slice aM f.bM.ai.ls.length aN, .bool f.bD.dB,vU f.bD.bi,vI f.bD.dP, .slice aO f.bD.ai.ls.length aP, .bool f.bA.dB,vU f.bA.bi,vI f.bA.dP, .slice aQ f.bA.ai.ls.length aR, .bool f.bC.dB,vU f.bC.bi,vI f.bC.dP, .slice aS f.bC.ai.ls.length aU, .bool f.bB.dB,vU f.bB.bi,vI f.bB.dP, .slice aV f.bB.ai.ls.length aX,vU f.dO,vU f.dG,vU f.dH,vU f.dD,vU f.dE, .pointer none] 86,row aK f.aC.ls.length aL (q4 bK.cells aa) 107 9,sepL (q4 bK.own aa),row aM f.bM.ai.ls.length aN (q4 af.cells ag) 149 3,sepL (q4 af.own ag),row aO f.bD.ai.ls.length aP (q4 af.cells ah) 149 3,sepL (q4 af.own ah),row aQ f.bA.ai.ls.length aR (q4 af.cells ai) 149 3,sepL (q4 af.own ai),row aS f.bC.ai.ls.length aU (q4 af.cells aj) 149 3,sepL (q4 af.own aj),row aV f.bB.ai.ls.length aX (q4 af.cells ak) 149 3,sepL (q4 af.own ak)]/\(s5 bz.abs Z=r0.bF.ls)/\(s5 bK.abs aa=f.aC.ls)/\(s5 af.abs ag=f.bM.ai.ls)/\(s5 af.abs ah=f.bD.ai.ls)/\(s5 af.abs ai=f.bA.ai.ls)/\(s5 af.abs aj=f.bC.ai.ls)/\(s5 af.abs ak=f.bB.ai.ls)):=by
 unfold iy at hr
 have fe:=aA aH
 have di:=aA h
 have dm:=aA S
 have dw:=aA T
 have dx:=aA U
 have dz:=aA V
 have dB:=aA W
 have fo:=zr 1 H
 have dC:=zr 4 H
 have dD:=zr 6 H
 have dE:=zr 8 H
 have dF:=zr 10 H
 have dG:=zr 12 H
 have dH:=zr 14 H
 refine cb Tryz.func63 ?_
 refine sr (Mz rfl (Kz (vP g0 0) (Kz (vP g0 0) (Lz (vP g 0) H 0 P6 (Kz (vP g 0) (Kz (vP g 8) (Lz (.slice k a.aC.ls.length p) H 3 Q4 (fw (vJ (C6 m)) (Ir (e:=m) (IA rfl) e6) ?_))))))))
 obtain⟨b,y⟩:=dh (ls:=d) (i:=C6 m) bK.len f2 (H.rds (i:=4) rfl) e9
 have bJ:=eY h y
 have gY:b.cB.ls.length<=b.cB.c/\b.cB.ls.length<=9223372036854775807:=bq H (i:=5) rfl (φ:=λ _=>_) (az (Q6.2 ⟨b,D1 y,b1⟩) bn)
 have gZ:b.aO.ls.length<=b.aO.c/\b.aO.ls.length<=9223372036854775807:=bq H (i:=5) rfl (φ:=λ _=>_) (az (Q6.2 ⟨b,D1 y, .tail _ b1⟩) bn)
 have ib:b.bL.ls.length<=b.bL.c/\b.bL.ls.length<=9223372036854775807:=bq H (i:=5) rfl (φ:=λ _=>_) (az (Q6.2 ⟨b,D1 y, .tail _ b2⟩) bn)
 have ic:b.ai.ls.length<=b.ai.c/\b.ai.ls.length<=9223372036854775807:=bq H (i:=5) rfl (φ:=λ _=>_) (az (Q6.2 ⟨b,D1 y, .tail _ b3⟩) bn)
 have X:Tok (bK.abs b):=Cv g5 bJ
 have ig:1<=b.bf/\b.bf<=4:=X.D7
 have ik:b.bL.ls.length=b.aO.ls.length:=by have q9:=X.yes; simp only [bK.abs,s3] at q9; exact q9
 have il:b.ai.ls.length=b.aO.ls.length:=by have q9:=X.res; simp only [bK.abs,s3] at q9; exact q9
 have iq:b.aO.ls.length<=5:=by have q9:=X.len; simp only [bK.abs,s3] at q9; exact q9
 have iw:b.cB.ls.length<=24:=X.ops.1
 refine fw (.pointer (some ⟨ab k,ao k+(C6 m) *9,none⟩)) (Iz (qF) rfl rfl ((H.rds (i:=4) rfl).addr (i:=C6 m) e6) e6) (fw (.agg (bK.cells b).toArray) (IB rfl (IJ (cs:=(bK.cells b)) Q2 Q3 ((H.rds (i:=4) rfl).elem bK.len y f2))) ?_)
 refine dn (rZ 0 0 0 0 none 0 0 none 0 0 none 0 0 none 0 0 0) 107 H ?_
 intro bF iX fq
 refine df (bK.cells b) 0 fq Q3 ?_
 intro iY fu
 refine nt (Ik ?_)
 have fA:=fu.pf [1,4]
 refine pM [17] (IE IQ) fA ?_
 intro iZ fB
 refine qv 0 rfl rfl (qp g0 0 1 rfl (qp g0 0 2 rfl (ql 3 rfl 0 P6 rfl rfl rfl (qv 4 rfl rfl (qp g0 0 5 rfl (qp g0 0 6 rfl (ql 7 rfl 0 P6 rfl rfl rfl (qp g 0 8 rfl (qp g 8 9 rfl (ql 10 rfl 1 Q4 rfl rfl rfl (qv 11 rfl rfl (qv 12 rfl rfl (qt (v:=vI (m+1)) 13 rfl (λ _ _=>Ir (e:=C3.wrap (m+1)) yk g1) ?_)))))))))))))
 have fC:=fB.pf [5,6]
 obtain⟨ja,dI,iA,dJ,iB⟩:=IV fC
 refine qd 14 rfl (IP Tryz.call105 rfl (vw _ _ k a.aC.ls.length p d a.aC.ls m (m+1) (C6 m) b dI e6 h e6 e6 e6 y) ?_)
 rintro _ jb ⟨bV,bW,rfl,dK⟩
 have aZ:=dJ _ _ dK
 have iC:s0 (r3 (C6 m) d++r4 ((C6 m)+1) d)=s0 (r3 (C6 m) a.aC.ls++r4 ((C6 m)+1) a.aC.ls):=by exact aA (pK h)
 have iD:s0 (r3 (C6 m) a.aC.ls++r4 ((C6 m)+1) a.aC.ls)+1=a.aC.ls.length:=by simp only [o2,o0,o1]; omega
 have iE:b.aO.ls.length=s0 (s5 bO.abs b.aO.ls):=by exact(s3 _).symm
 have iF:b.ai.ls.length=s0 (s5 bP.abs b.ai.ls):=by exact(s3 _).symm
 have iG:=zr 2 aZ
 have iH:=zr 3 aZ
 have iI:=zr 4 aZ
 have iJ:=zr 5 aZ
 have dM:=aZ.pf [8,9]
 refine⟨.inr ⟨_,dM⟩, ?_⟩
 refine qp g 0 15 rfl (qp g 8 16 rfl ?_)
 have fE:=dM.pf [1]
 refine qe 17 rfl (Do.store (vs:= [.slice bV (s0 (r3 (C6 m) a.aC.ls++r4 ((C6 m)+1) a.aC.ls)) bW]) (o:=8) fE rfl rfl Tryz.sizeOf79 rfl rfl rfl rfl ?_)
 intro jc bX
 refine⟨.inl e7, ?_⟩
 refine qn (Iq (sr (Mz rfl (Kz (vP bF 1) (Lz (vI b.bf) bX 10 C2 (Kz (vP bF 2) (Lz (vU b.bi) bX 10 D2 ?_)))))))
 have fF:=bX.px [1,11,12] [] [2,3,4,5,6,7,8,9,10]
 obtain⟨⟨bG,l⟩,bL⟩:∃ q:bU × aD,dL p0 b.bf b.bi 2 [] (aD.mk a.aa a.bT (E0 (r3 (C6 m) a.aC.ls++r4 ((C6 m)+1) a.aC.ls)) a.bM a.bD a.bA a.bC a.bB a.dO a.dG a.dH a.dD a.dE)=q:=⟨_,rfl⟩
 obtain⟨jd,dN,iK,dO,iL⟩:=Jj fF
 refine cl Tryz.call106 (jM _ _ g0 p0 aF aG aB b.bf b.bi 2 none 0 0 [] [] g (aD.mk a.aa a.bT (E0 (r3 (C6 m) a.aC.ls++r4 ((C6 m)+1) a.aC.ls)) a.bM a.bD a.bA a.bC a.bB a.dO a.dG a.dH a.dD a.dE) z B C E F G bV bW I J r K L s M N t O P u Q R x bG l dN aH rfl (λ _ _=>aY.nil _ _ _) (λ _ h9=>absurd h9 List.not_mem_nil) rfl i7 g6 S T U V W e8 g2 g2 i1 bL) ?_
 rintro _ je ⟨fG,fH,fI,fJ,fK,fM,fO,fP,dP,fQ,fT,dQ,fU,fZ,dR,gm,gp,dS,rfl,dU,bM,bg,bi,bu,bv,bA,bB⟩
 have au:=dO _ _ dU
 have gq:=aA bM
 have gu:=aA bg
 have gy:=aA bi
 have gz:=aA bu
 have gB:=aA bv
 have gD:=aA bA
 have gF:=zr 1 au
 have gG:=zr 4 au
 have gH:=zr 6 au
 have gI:=zr 8 au
 have gJ:=zr 10 au
 have gK:=zr 12 au
 replace bB:bG.bF.ls.length=p0.bF.ls.length+1:=bB
 refine nt ?_
 have av:b.aO.ls.length=s0 (s5 bO.abs b.aO.ls):=by first | omega | (simp only [G4]; done) | (simp only [G4,o2,s1,E7,o0,o1,H0]; omega)
 have dV:=au.pf [17]
 have dW:=Jc av dV
 have dX:=dW.pf [22]
 have dY:=Jp 5 av dX
 have dZ:=dY.pb [1,19,20,21,22,0]
 have ax:b.ai.ls.length=s0 (s5 bP.abs b.ai.ls):=by first | omega | (simp only [G4]; done) | (simp only [G4,o2,s1,E7,o0,o1,H0]; omega)
 have d9:=dZ.pf [19]
 have ek:=Jc ax d9
 have eu:=ek.pf [22]
 have eB:=Jp 7 ax eu
 have eD:=eB.pb [1,21,22,0]
 have eF:=eD.pf [0,3]
 refine pM [4] IQ eF ?_
 intro iM eG
 refine qv 0 rfl rfl (qp bF 0 1 rfl ?_)
 have bN:=eG.pf [0,1,22]
 refine BC bN (ql 2 rfl 2 D2 rfl rfl rfl ?_)
 have n:=bN.pf [2]
 have gL:=zr 17 n
 have gM:=zr 18 n
 have gN:=zr 19 n
 have gP:=zr 20 n
 obtain⟨Y,ay⟩:∃ q,kr (ed.mk b.bI b.bf b.bi b.fE (E0 b.cB.ls) (E0 (s5 bO.abs b.aO.ls)) (E0 b.bL.ls) (E0 (s5 bP.abs b.ai.ls)) b.iI)=q:=⟨_,rfl⟩
 obtain⟨iN,bY,gQ,cu,j⟩:=IZ n
 refine qd 3 rfl (IP Tryz.call107 rfl (qV _ _ bF (ed.mk b.bI b.bf b.bi b.fE (E0 b.cB.ls) (E0 (s5 bO.abs b.aO.ls)) (E0 b.bL.ls) (E0 (s5 bP.abs b.ai.ls)) b.iI) b.cB.A b.cB.c b.aO.A b.aO.c b.aO.ls b.bL.A b.bL.c b.ai.A b.ai.c b.ai.ls Y bY (j _ 16 _ rfl aW) e6 (rfl:s5 bO.abs b.aO.ls=s5 bO.abs b.aO.ls) (j _ 17 _ rfl aW) e6 (λ x9 h9=>⟨j _ 20 _ rfl (az (Q6.2 ⟨x9,h9,b1⟩) aW),bq (φ:=λ _=>_) n (i:=21) rfl (az (Q6.2 ⟨x9,h9,b1⟩) bn),j _ 20 _ rfl (az (Q6.2 ⟨x9,h9, .tail _ b1⟩) aW),bq (φ:=λ _=>_) n (i:=21) rfl (az (Q6.2 ⟨x9,h9, .tail _ b1⟩) bn)⟩) (j _ 18 _ rfl aW) e6 (rfl:s5 bP.abs b.ai.ls=s5 bP.abs b.ai.ls) (j _ 19 _ rfl aW) e6 (λ x9 h9=>⟨j _ 21 _ rfl (az (Q6.2 ⟨x9,h9,b1⟩) aW),bq (φ:=λ _=>_) n (i:=22) rfl (az (Q6.2 ⟨x9,h9,b1⟩) bn),(λ y1 k1=>⟨j _ 21 _ rfl (az (Q6.2 ⟨x9,h9, .tail _ b1⟩) (az (Q6.2 ⟨y1,k1,b1⟩) aW)),bq (φ:=λ _=>_) n (i:=22) rfl (az (Q6.2 ⟨x9,h9, .tail _ b1⟩) (az (Q6.2 ⟨y1,k1,b1⟩) bn))⟩)⟩) e8 ay) ?_)
 rintro _ iQ ⟨eH,eO,rfl,cz⟩
 have bQ:=cu _ _ cz
 have gT:=zr 0 bQ
 have gU:Y.length<=5:=by have q9:=yg ay; simp only [s3] at q9; omega
 have bR:=bQ.pf [2,3,1]
 refine⟨.inr ⟨_,bR⟩, ?_⟩
 have eP:=bR.pf [0,4,5]
 obtain⟨bS,bC⟩:∃ q,fV bG b.bI Y false=q:=⟨_,rfl⟩
 obtain⟨iR,cB,gV,cK,cO⟩:=Ja eP
 refine qd 4 rfl (IP Q5 rfl (lm _ _ g0 bG fG fH fI g b.bI eH Y.length eO Y false bS cB bM (cO _ 2 _ rfl aW) rfl e6 i0 bC) ?_)
 rintro _ iT ⟨eQ,eT,eU,rfl,cZ,bD⟩
 have bT:=cK _ _ cZ
 have gW:=aA bD
 have gX:=zr 1 bT
 refine⟨.inl e7, ?_⟩
 refine qn (IL (res0 rfl) ?_)
 have eX:=bT.px [0,1,2,3,16,17] [4,5,18,19,20,21,22,23] []
 obtain⟨rfl,rfl⟩:=fD (zj hr (show _=(bS,aD.mk (bZ.mk l.aa.au l.aa.ax l.aa.bG l.aa.aF (E0 a.aa.ag.ls) (E0 a.aa.ak.ls) (E0 a.aa.aK.ls)) l.bT (E0 (r3 (C6 m) a.aC.ls++r4 ((C6 m)+1) a.aC.ls)) l.bM l.bD l.bA l.bC l.bB l.dO l.dG l.dH l.dD l.dE) from et (ae (aT bJ)) (et (ae bL) (et (ae ay) (ae bC)))))
 exact⟨eQ,eT,eU,bV,bW,(r3 (C6 m) d++r4 ((C6 m)+1) d),fJ,fK,fM,fO,fP,dP,fQ,fT,dQ,fU,fZ,dR,gm,gp,dS,(by(first | rw [<- av] | skip); (first | rw [<- ax] | skip); first | done | rfl),eX,bD,(pK h),bg,bi,bu,bv,bA⟩
end
open List renaming cons->Q8,mem_append_right->u5
open _root_.Go.Proofs.Tryz renaming isAgg31->H1,isAgg56->Q7
section
open Go.RowKit
def cmp_isNaN_int (a:Int):Bool:=
 false
theorem tQ (w D a c) (H:Own w D w []) (hr:cmp_isNaN_int a=c):
    Calls v5 169 #[vI a] w (dA λ v w'=>v= .bool c/\Own w D w' []):=by
 refine cb Tryz.func169 ?_
 refine sr (Ar rfl (Mz rfl (Mz rfl (fw (.bool false) (IM (e:= !(decide (a=a))) yk i7) (An rfl (rt (rs ?_)))))))
 have b:=H.pk []
 obtain rfl:_=false:=zj hr rfl
 exact⟨rfl,b⟩
def cmp_Compare_int (c:Int) (d:Int):Int:=
 bnd (cmp_isNaN_int c) λ b=>bnd (cmp_isNaN_int d) λ a=>if b=true then if a=true then 0 else(-1) else if a=true then 1 else if c < d then(-1) else if c > d then 1 else 0
theorem rQ (w D i j C) (H:Own w D w []) (hr:cmp_Compare_int i j=C):
    Calls v5 154 #[vI i,vI j] w (dA λ v w'=>v=vI C/\Own w D w' []):=by
 unfold cmp_Compare_int at hr
 refine cb Tryz.func154 ?_
 refine sr (Ar rfl (Mz rfl ?_))
 obtain⟨l,a⟩:∃ q,cmp_isNaN_int i=q:=⟨_,rfl⟩
 obtain⟨J,m,E,n,F⟩:=Iu H
 refine cl Tryz.call169 (tQ _ _ i l m a) ?_
 rintro _ K ⟨rfl,o⟩
 have t:=n _ _ o
 refine Ar rfl (Mz rfl ?_)
 obtain⟨k,b⟩:∃ q,cmp_isNaN_int j=q:=⟨_,rfl⟩
 obtain⟨L,p,G,r,I⟩:=Iu t
 refine cl Tryz.call169 (tQ _ _ j k p b) ?_
 rintro _ M ⟨rfl,s⟩
 have e:=r _ _ s
 refine An rfl (Ik (sr (Mn rfl ?_)))
 rcases Ls (l) with c | c
 refine jT c (Ik (sr (Mn rfl ?_)))
 rcases Ls (k) with f | f
 refine jT f (sr (An rfl (rt (tR (tR (rs ?_))))))
 have u:=e.pk []
 obtain rfl:=zj hr zq4
 exact⟨rfl,u⟩
 refine jF f (sk (sr (An rfl (rt (tR (rs ?_))))))
 have x:=e.pk []
 obtain rfl:=zj hr zq4
 exact⟨rfl,x⟩
 refine jF c (sk (Ik (sr (Mn rfl ?_))))
 rcases Ls (k) with d | d
 refine jT d (sr (An rfl (rt (tR (rs ?_)))))
 have y:=e.pk []
 obtain rfl:=zj hr zq4
 exact⟨rfl,y⟩
 refine jF d (sk (Ik (sr (Mz rfl (Mz rfl (Kz (.bool (decide (i < j))) (nt ?_)))))))
 by_cases g:i < j
 refine jT (dT g) (sr (An rfl (rt (tR (rs ?_)))))
 have z:=e.pk []
 obtain rfl:=zj hr zq5
 exact⟨rfl,z⟩
 refine jF (dF g) (sk (Ik (sr (Mz rfl (Mz rfl (Kz (.bool (decide (i > j))) (nt ?_)))))))
 by_cases h:i > j
 refine jT (dT h) (sr (An rfl (rt (tR (rs ?_)))))
 have A:=e.pk []
 obtain rfl:=zj hr zq6
 exact⟨rfl,A⟩
 refine jF (dF h) (sk (sr (An rfl (rt (rs ?_)))))
 have B:=e.pk []
 obtain rfl:=zj hr zq6
 exact⟨rfl,B⟩
def fq (l0:List fF) (f:Int):Nat->Nat->Nat->Nat
  | 0,a,b=>default
  | c+1,a,b=>if(a:Int) < (b:Int) then bnd (B8 l0 ((a+b) / 2) default) λ d=>bnd (cmp_Compare_int d.aP f) λ e=>if e < 0 then fq l0 f c (((a+b) / 2)+1) b else fq l0 f c a ((a+b) / 2) else a
def ik (l0:List fF) (c:Int):Int × Bool:=
 bnd (fq l0 c ((l0.length - 0)+1) 0 l0.length) λ sLrL=>if(sLrL:Int) < (l0.length:Int) then bnd (B8 l0 sLrL default) λ a=>bnd (cmp_Compare_int a.aP c) λ b=>((sLrL:Int),decide (b=0)) else((sLrL:Int),false)
theorem mZ (w D y n0 Z K l0 n L r1) (H:Own w D w []) (G:s5 aS.abs K=l0) (l:Ro w D λ w'=>aY w' 4 y n0 (q4 aS.cells K)) (M:∀ x ∈ K,Ro w D (λ w'=>aY w' 3 x.ah.A x.ah.ls.length (q4 af.cells x.ah.ls))/\(x.ah.ls.length<=x.ah.c/\x.ah.ls.length<=9223372036854775807)/\(∀ J ∈ x.ah.ls,Ro w D (λ w'=>aY w' 2 J.aj.A J.aj.ls.length (q4 aH.cells J.aj.ls))/\(J.aj.ls.length<=J.aj.c/\J.aj.ls.length<=9223372036854775807))) (ah:n0=l0.length) (aQ:l0.length *48<=211106232532992) (hr:ik l0 n=(L,r1)):
    Calls v5 152 #[.slice y n0 Z,vI n, .func (.func 153) #[] #[]] w (dA λ v w'=>v= .tuple #[vI L, .bool r1]/\Own w D w' []/\(0<=L/\L<=((l0.length:Nat):Int))/\(Bool.toNat r1=0\/L < ((l0.length:Nat):Int))):=by
 unfold ik at hr
 subst ah
 have aC:=aA G
 refine cb Tryz.func152 ?_
 refine sr (Az rfl (Ar rfl (Mz rfl (Kz (vJ l0.length) (Ar rfl (Mz rfl (Az rfl (An rfl (Ik (bo ?_))))))))))
 have ai:=H.pk []
 obtain⟨aj,j⟩:=rJ λ (a:Nat) (b:Nat) (o:Nat) w'=>Own w D w' []/\a<=b/\b<=l0.length/\b - a < o/\fq l0 n ((l0.length - 0)+1) 0 l0.length=fq l0 n o a b
 refine Wp.loop (λ i:Nat × Nat × Nat=> [(9,vJ i.1),(10,vJ i.2.1),(8,vJ l0.length),(7, .bool false),(6,vI 0),(0, .slice y l0.length Z),(1,vI n),(2, .func (.func 153) #[] #[])]) aj (λ i=>i.2.2) (0,l0.length,(l0.length - 0)+1) ⟨rfl,rfl,rfl,rfl,rfl,rfl,rfl,rfl,trivial⟩ (j.2 ⟨ai,e6,e6,e6,rfl⟩) ?_
 rintro ⟨a,b,o⟩ aR N
 obtain⟨f,aD,aF,aG,p⟩:=j.1 N
 obtain⟨m,O⟩:∃ q,o=q+1:=⟨o - 1,e6⟩
 subst O
 refine Ik (sr (Mz rfl (Mz rfl (Kz (.bool (decide ((a:Int) < (b:Int)))) (nt ?_)))))
 by_cases r:(a:Int) < (b:Int)
 refine jT (dT r) (sk (bo (sr (Mz rfl (Mz rfl (fw (vJ (a+b)) (Ir (e:=C3.wrap ((a:Int)+(b:Int))) yk f0) (fw (vU (a+b)) (Ir (e:=IntKind.u64.wrap ((a+b:Nat):Int)) yk (IntWalk.u64_in _ e6)) (fw (vU ((a+b) / 2)) (Ir (e:=Int.fdiv ((a+b:Nat):Int) 2) yk (ny _ 1 _ f2)) (fw (vJ ((a+b) / 2)) (Ir (e:=C3.wrap (((a+b) / 2:Nat):Int)) yk (Lm _ e6)) (Ar rfl (Mz rfl (Mz rfl (Mz rfl ?_)))))))))))))
 obtain⟨g,s⟩:=dh (ls:=K) (i:=(a+b) / 2) aS.len f2 (f.ro l) e9
 have C:=eY G s
 have aI:=(M _ (D1 s)).2.1
 have aJ:s0 (s5 af.abs g.ah.ls)=g.ah.ls.length:=s3 ..
 refine fw (.pointer (some ⟨ab y,ao y+((a+b) / 2) *4,none⟩)) (Iz (lW) rfl rfl ((f.ro l).addr (i:=(a+b) / 2) e6) e6) (fw (.agg (aS.cells g).toArray) (IB rfl (IJ (cs:=(aS.cells g)) Q7 P5 ((f.ro l).elem aS.len s f2))) (Mz rfl ?_))
 refine WL.do rfl (IY Tryz.call153 rfl rfl ?_ (λ _ _ k=>k))
 refine cb Tryz.func153 ?_
 refine sr ?_
 refine dn (aS.cells g) 56 f ?_
 intro ak aU P
 refine Ar rfl (Kz (vP ak 0) (Lz (vI g.aP) P 0 C2 (Mz rfl ?_)))
 obtain⟨I,t⟩:∃ q,cmp_Compare_int g.aP n=q:=⟨_,rfl⟩
 obtain⟨aV,Q,aK,R,aL⟩:=Iu P
 refine cl Tryz.call154 (rQ _ _ g.aP n I Q t) ?_
 rintro _ aW ⟨rfl,S⟩
 have T:=R _ _ S
 refine An rfl (rt (rs (Kz (.bool (decide (I < 0))) (nt ?_))))
 by_cases z:I < 0
 refine jT (dT z) (Il (Mz rfl (fw (vI ((((a+b) / 2)+1:Nat):Int)) (Ir (e:=C3.wrap ((((a+b) / 2:Nat):Int)+1)) yk f0) (Az rfl (WL.nil (bN ?_))))))
 have au:=T.pk []
 exact II (((a+b) / 2)+1,b,m) ⟨rfl,rfl,rfl,rfl,rfl,rfl,rfl,rfl,trivial⟩ (j.2 ⟨au,e6,e6,e6,et (p) (et (ip r) (et (ae (aT C)) (et (ae t) (ip z))))⟩) (by show m < m+1; omega)
 refine jF (dF z) (Il (Mz rfl (Az rfl (WL.nil (bN ?_)))))
 have av:=T.pk []
 exact II (a,(a+b) / 2,m) ⟨rfl,rfl,rfl,rfl,rfl,rfl,rfl,rfl,trivial⟩ (j.2 ⟨av,e6,e6,e6,et (p) (et (ip r) (et (ae (aT C)) (et (ae t) (iN z))))⟩) (by show m < m+1; omega)
 refine jF (dF r) (Wp.exit (IC ?_))
 have E:fq l0 n ((l0.length - 0)+1) 0 l0.length=a:=et (p) (iN r)
 refine IC (IK (Iq (sr (Mz rfl (Mz rfl (Mz rfl (Kz (.bool (decide ((a:Int) < (l0.length:Int)))) (Mz rfl ?_))))))))
 by_cases d:(a:Int) < (l0.length:Int)
 refine gw (.func (.func 153) #[] #[]) (dT d) (IA rfl) (gw (.slice y l0.length Z) (dT d) (IA rfl) (gw (vJ a) (dT d) (IA rfl) ?_))
 obtain⟨h,u⟩:=dh (ls:=K) (i:=a) aS.len f2 (f.ro l) e9
 have U:=eY G u
 have aM:=(M _ (D1 u)).2.1
 have aN:s0 (s5 af.abs h.ah.ls)=h.ah.ls.length:=s3 ..
 refine gw (.pointer (some ⟨ab y,ao y+a *4,none⟩)) (dT d) (Iz (lW) rfl rfl ((f.ro l).addr (i:=a) e6) e6) (gw (.agg (aS.cells h).toArray) (dT d) (IB rfl (IJ (cs:=(aS.cells h)) Q7 P5 ((f.ro l).elem aS.len u f2))) (gw (vI n) (dT d) (IA rfl) ?_))
 refine Ju rfl rfl (dT d) rfl (IY Tryz.call153 rfl rfl ?_ (λ _ _ k=>k))
 refine cb Tryz.func153 ?_
 refine sr ?_
 refine dn (aS.cells h) 56 f ?_
 intro ax aX V
 refine Ar rfl (Kz (vP ax 0) (Lz (vI h.aP) V 0 C2 (Mz rfl ?_)))
 obtain⟨B,F⟩:∃ q,cmp_Compare_int h.aP n=q:=⟨_,rfl⟩
 obtain⟨aZ,W,aO,X,aP⟩:=Iu V
 refine cl Tryz.call154 (rQ _ _ h.aP n B W F) ?_
 rintro _ bf ⟨rfl,Y⟩
 have ay:=X _ _ Y
 refine An rfl (rt (rs (Gz (.bool (decide (B=0))) (dT d) (fw (.bool (decide (B=0))) (Iw rfl (dT d) rfl) (Az rfl (An rfl (rt (Fin.res (lH rfl rfl rfl) ?_))))))))
 have az:=ay.pk []
 obtain⟨rfl,rfl⟩:=fD (zj hr (show _=(((a:Nat):Int),decide (B=0)) from et (ae E) (et (ip d) (et (ae (aT U)) (ae F)))))
 exact⟨rfl,az,e6,i8⟩
 refine Sz (dF d) (Sz (dF d) (Sz (dF d) (Sz (dF d) (Sz (dF d) (Sz (dF d) (Sz (dF d) (Sz (dF d) (fw (.bool false) (Io rfl (dF d) rfl) (Az rfl (An rfl (rt (Fin.res (lH rfl rfl rfl) ?_))))))))))))
 have aB:=f.pk []
 obtain⟨rfl,rfl⟩:=fD (zj hr zq2)
 exact⟨rfl,aB,e6,i8⟩
def lC (m:bU) (j:Int) (a:aD):bU × aD:=
 bnd (B8 a.aC.ls (C6 j) default) λ b=>bnd (nQ b.cB.ls b.aO.ls b.ai.ls) λ i=>if i.2=0 then bnd (kr (ed.mk b.bI b.bf b.bi b.fE (E0 b.cB.ls) (E0 b.aO.ls) (E0 b.bL.ls) (E0 b.ai.ls) b.iI)) λ h=>bnd (bQ a.aa.ak.ls b.bI) λ f=>bnd (ik a.aa.aK.ls b.bf) λ g=>if g.2=true then bnd (dL m b.bf b.bi 1 i.1 (aD.mk (bZ.mk a.aa.au a.aa.ax a.aa.bG a.aa.aF (E0 a.aa.ag.ls) (E0 (r3 (C6 f.1) a.aa.ak.ls++((bH.mk b.bI b.bf a.aa.ax b.bi (E0 h))::r4 (C6 f.1) a.aa.ak.ls))) (E0 (I3 a.aa.aK.ls (C6 g.1) (fF.mk b.bf a.aa.ax b.bi (E0 i.1))))) a.bT (E0 (r3 (C6 j) a.aC.ls++r4 ((C6 j)+1) a.aC.ls)) a.bM a.bD a.bA a.bC a.bB a.dO a.dG a.dH a.dD a.dE)) λ d=>bnd (fV d.1 b.bI h true) λ k=>(k,aD.mk (bZ.mk d.2.aa.au d.2.aa.ax d.2.aa.bG d.2.aa.aF (E0 a.aa.ag.ls) (E0 (r3 (C6 f.1) a.aa.ak.ls++((bH.mk b.bI b.bf a.aa.ax b.bi (E0 h))::r4 (C6 f.1) a.aa.ak.ls))) (E0 (I3 a.aa.aK.ls (C6 g.1) (fF.mk b.bf a.aa.ax b.bi (E0 i.1))))) d.2.bT (E0 (r3 (C6 j) a.aC.ls++r4 ((C6 j)+1) a.aC.ls)) d.2.bM d.2.bD d.2.bA d.2.bC d.2.bB d.2.dO d.2.dG d.2.dH d.2.dD d.2.dE) else bnd (dL m b.bf b.bi 1 i.1 (aD.mk (bZ.mk a.aa.au a.aa.ax a.aa.bG a.aa.aF (E0 a.aa.ag.ls) (E0 (r3 (C6 f.1) a.aa.ak.ls++((bH.mk b.bI b.bf a.aa.ax b.bi (E0 h))::r4 (C6 f.1) a.aa.ak.ls))) (E0 (r3 (C6 g.1) a.aa.aK.ls++((fF.mk b.bf a.aa.ax b.bi (E0 i.1))::r4 (C6 g.1) a.aa.aK.ls)))) a.bT (E0 (r3 (C6 j) a.aC.ls++r4 ((C6 j)+1) a.aC.ls)) a.bM a.bD a.bA a.bC a.bB a.dO a.dG a.dH a.dD a.dE)) λ e=>bnd (fV e.1 b.bI h true) λ l=>(l,aD.mk (bZ.mk e.2.aa.au e.2.aa.ax e.2.aa.bG e.2.aa.aF (E0 a.aa.ag.ls) (E0 (r3 (C6 f.1) a.aa.ak.ls++((bH.mk b.bI b.bf a.aa.ax b.bi (E0 h))::r4 (C6 f.1) a.aa.ak.ls))) (E0 (r3 (C6 g.1) a.aa.aK.ls++((fF.mk b.bf a.aa.ax b.bi (E0 i.1))::r4 (C6 g.1) a.aa.aK.ls)))) e.2.bT (E0 (r3 (C6 j) a.aC.ls++r4 ((C6 j)+1) a.aC.ls)) e.2.bM e.2.bD e.2.bA e.2.bC e.2.bB e.2.dO e.2.dG e.2.dH e.2.dD e.2.dE) else bnd (iy m j a) λ c=>(c.1,aD.mk (bZ.mk c.2.aa.au c.2.aa.ax c.2.aa.bG c.2.aa.aF (E0 a.aa.ag.ls) (E0 a.aa.ak.ls) (E0 a.aa.aK.ls)) c.2.bT (E0 c.2.aC.ls) c.2.bM c.2.bD c.2.bA c.2.bC c.2.bB c.2.dO c.2.dG c.2.dH c.2.dD c.2.dE)
theorem uW (w D Z) (p0:bU) (bG bI bA O d) (a:aD) (aa ag U V p B P l W aM r aO aP ah aR aU ai aV aX aj aY aZ ak bf bg au) (r0:bU) (r1:aD) (H:Own w D w (blk Z [.pointer (some ⟨d,0,none⟩), .slice bG p0.bF.ls.length bI] 98::row bG p0.bF.ls.length bI (q4 bz.cells bA) 42 21::sepL (q4 bz.own bA)::mX d a aa a.aa.ag.ls.length ag U V p B P l W aM r aO aP ah aR aU ai aV aX aj aY aZ ak bf bg au [])) (bC:s5 bz.abs bA=p0.bF.ls) (G:s5 ay.abs p=a.aa.ak.ls) (s:s5 aS.abs l=a.aa.aK.ls) (I:s5 bK.abs r=a.aC.ls) (av:s5 af.abs ah=a.bM.ai.ls) (ax:s5 af.abs ai=a.bD.ai.ls) (aB:s5 af.abs aj=a.bA.ai.ls) (aC:s5 af.abs ak=a.bC.ai.ls) (aF:s5 af.abs au=a.bB.ai.ls) (uO:a.aa.ag.ls.length<=1000/\a.aa.ak.ls.length<=1000/\a.aa.aK.ls.length<=1000/\a.aC.ls.length<=1000/\p0.bF.ls.length<=100000) (uP:Ak a.aC.ls) (uQ:0<=O/\O < ((a.aC.ls.length:Nat):Int)) (hr:lC p0 O a=(r0,r1)):
    Calls v5 94 #[vP Z 0,vI O] w (dA λ v w'=> ∃ cZ di bS ib ic dm ig il dw iq iw dx iA iB dz iC iD dB iE iF dC iH iI dD iJ iK dE,v= .tuple #[]/\Own w D w' (blk Z [vP d 0, .slice cZ r0.bF.ls.length di] 98::row cZ r0.bF.ls.length di (q4 bz.cells bS) 42 21::sepL (q4 bz.own bS)::mX d r1 aa a.aa.ag.ls.length ag ib ic dm ig il dw iq iw dx iA iB dz iC iD dB iE iF dC iH iI dD iJ iK dE [])/\(s5 bz.abs bS=r0.bF.ls)/\(s5 ay.abs dm=r1.aa.ak.ls)/\(s5 aS.abs dw=r1.aa.aK.ls)/\(s5 bK.abs dx=r1.aC.ls)/\(s5 af.abs dz=r1.bM.ai.ls)/\(s5 af.abs dB=r1.bD.ai.ls)/\(s5 af.abs dC=r1.bA.ai.ls)/\(s5 af.abs dD=r1.bC.ai.ls)/\(s5 af.abs dE=r1.bB.ai.ls)):=by
 unfold lC at hr
 have oD:=aA bC
 have jE:=aA G
 have jG:=aA s
 have jH:=aA I
 have jI:=aA av
 have jK:=aA ax
 have jL:=aA aB
 have jN:=aA aC
 have jO:=aA aF
 have oF:=zr 1 H
 have jP:=zr 4 H
 have jQ:=zr 6 H
 have jR:=zr 8 H
 have jS:=zr 10 H
 have jU:=zr 12 H
 have jV:=zr 14 H
 have jW:=zr 16 H
 have jX:=zr 18 H
 refine cb Tryz.func94 ?_
 refine sr (Mz rfl (Kz (vP Z 0) (Kz (vP Z 0) (Lz (vP d 0) H 0 P6 (Kz (vP d 0) (Kz (vP d 8) (Lz (.slice W a.aC.ls.length aM) H 3 Tryz.isAgg79 (fw (vJ (C6 O)) (Ir (e:=O) (IA rfl) e6) ?_))))))))
 obtain⟨b,u⟩:=dh (ls:=r) (i:=C6 O) bK.len f2 (H.rds (i:=8) rfl) e9
 have bY:=eY I u
 have rQ:b.cB.ls.length<=b.cB.c/\b.cB.ls.length<=9223372036854775807:=bq H (i:=9) rfl (φ:=λ _=>_) (az (Q6.2 ⟨b,D1 u,b1⟩) bn)
 have rR:b.aO.ls.length<=b.aO.c/\b.aO.ls.length<=9223372036854775807:=bq H (i:=9) rfl (φ:=λ _=>_) (az (Q6.2 ⟨b,D1 u, .tail _ b1⟩) bn)
 have rT:b.bL.ls.length<=b.bL.c/\b.bL.ls.length<=9223372036854775807:=bq H (i:=9) rfl (φ:=λ _=>_) (az (Q6.2 ⟨b,D1 u, .tail _ b2⟩) bn)
 have rU:b.ai.ls.length<=b.ai.c/\b.ai.ls.length<=9223372036854775807:=bq H (i:=9) rfl (φ:=λ _=>_) (az (Q6.2 ⟨b,D1 u, .tail _ b3⟩) bn)
 have R:Tok (bK.abs b):=Cv g5 bY
 have rV:1<=b.bf/\b.bf<=4:=R.D7
 have rW:b.bL.ls.length=b.aO.ls.length:=by have q9:=R.yes; simp only [bK.abs,s3] at q9; exact q9
 have rX:b.ai.ls.length=b.aO.ls.length:=by have q9:=R.res; simp only [bK.abs,s3] at q9; exact q9
 have rY:b.aO.ls.length<=5:=by have q9:=R.len; simp only [bK.abs,s3] at q9; exact q9
 have r9:b.cB.ls.length<=24:=R.ops.1
 have si:tt (s5 bP.abs b.ai.ls)<=100000000:=F9 R
 refine fw (.pointer (some ⟨ab W,ao W+(C6 O) *9,none⟩)) (Iz (qF) rfl rfl ((H.rds (i:=8) rfl).addr (i:=C6 O) e6) e6) (fw (.agg (bK.cells b).toArray) (IB rfl (IJ (cs:=(bK.cells b)) Tryz.isAgg107 Tryz.sizeOf107 ((H.rds (i:=8) rfl).elem bK.len u f2))) ?_)
 refine dn (rZ 0 0 0 0 none 0 0 none 0 0 none 0 0 none 0 0 0) 107 H ?_
 intro X uR oG
 refine df (bK.cells b) 0 oG Tryz.sizeOf107 ?_
 intro uS oH
 refine ns (Kz (vP X 4) ?_)
 have oI:=oH.pf [10]
 have aL:=J6 (f:=bK.own) (i:=C6 O) (row b.cB.A b.cB.ls.length b.cB.c (q4 aN.cells b.cB.ls) 72 6) (row b.aO.A b.aO.ls.length b.aO.c (q4 bO.cells b.aO.ls) 172 3) (row b.bL.A b.bL.ls.length b.bL.c (q4 eL b.bL.ls) 4 1) (row b.ai.A b.ai.ls.length b.ai.c (q4 (I9 (β:=af)) b.ai.ls) 40 1) (sepL (q4 bO.own b.aO.ls)) (sepL (q4 bP.own b.ai.ls)) rfl u oI
 have sj:=zr 0 aL
 have su:=zr 1 aL
 have sw:b.aO.ls.length=s0 (s5 bO.abs b.aO.ls):=aA (rfl:s5 bO.abs b.aO.ls=s5 bO.abs b.aO.ls)
 have sD:=zr 2 aL
 have sF:=zr 3 aL
 have sG:b.ai.ls.length=s0 (s5 bP.abs b.ai.ls):=aA (rfl:s5 bP.abs b.ai.ls=s5 bP.abs b.ai.ls)
 refine Lz (.slice b.cB.A b.cB.ls.length b.cB.c) aL 7 Tryz.isAgg39 (Kz (vP X 5) (Lz (.slice b.aO.A b.aO.ls.length b.aO.c) aL 7 Tryz.isAgg103 (Kz (vP X 7) (Lz (.slice b.ai.A b.ai.ls.length b.ai.c) aL 7 Tryz.isAgg105 ?_))))
 have sH:b.aO.ls.length=s0 (s5 bO.abs b.aO.ls):=f1
 have sI:b.ai.ls.length=s0 (s5 bP.abs b.ai.ls):=f1
 obtain⟨⟨n,dG⟩,bJ⟩:∃ q:(List aQ) × Int,nQ b.cB.ls (s5 bO.abs b.aO.ls) (s5 bP.abs b.ai.ls)=q:=⟨_,rfl⟩
 obtain⟨uT,jY,sJ,jZ,bi⟩:=Iu aL
 refine cl Tryz.call129 (xU _ _ b.cB.A b.cB.ls.length b.cB.c b.cB.ls b.aO.A b.aO.ls.length b.aO.c b.aO.ls (s5 bO.abs b.aO.ls) b.ai.A b.ai.ls.length b.ai.c b.ai.ls (s5 bP.abs b.ai.ls) n dG jY (bi _ 0 _ rfl aW) rfl e6 (rfl:s5 bO.abs b.aO.ls=s5 bO.abs b.aO.ls) (bi _ 1 _ rfl aW) (λ Y Q=>⟨bi _ 4 _ rfl (az (Q6.2 ⟨Y,Q,b1⟩) aW),bq (φ:=λ _=>_) aL (i:=4) rfl (az (Q6.2 ⟨Y,Q,b1⟩) bn),bi _ 4 _ rfl (az (Q6.2 ⟨Y,Q, .tail _ b1⟩) aW),bq (φ:=λ _=>_) aL (i:=4) rfl (az (Q6.2 ⟨Y,Q, .tail _ b1⟩) bn)⟩) f1 g3 (rfl:s5 bP.abs b.ai.ls=s5 bP.abs b.ai.ls) (bi _ 3 _ rfl aW) (λ Y Q=>⟨bi _ 5 _ rfl (az (Q6.2 ⟨Y,Q,b1⟩) aW),bq (φ:=λ _=>_) aL (i:=5) rfl (az (Q6.2 ⟨Y,Q,b1⟩) bn),(λ y1 k1=>⟨bi _ 5 _ rfl (az (Q6.2 ⟨Y,Q, .tail _ b1⟩) (az (Q6.2 ⟨y1,k1,b1⟩) aW)),bq (φ:=λ _=>_) aL (i:=5) rfl (az (Q6.2 ⟨Y,Q, .tail _ b1⟩) (az (Q6.2 ⟨y1,k1,b1⟩) bn))⟩)⟩) f1 g3 (by first | assumption | omega) bJ) ?_
 rintro _ uU ⟨J,K,aG,rfl,j3,N⟩
 have iL:=jZ _ _ j3
 have sK:=aA N
 have sM:=zr 0 iL
 have j4:mV n:=yf bJ R.ops.1 R.ops.2 R.Ci
 have sN:n.length<=1000:=j4.1
 refine Mz rfl (Kz (.slice J n.length K) (Kz (vI dG) (Az rfl (An rfl (Ik (sr (Mz rfl (fw (.bool (decide (¬ (dG=0)))) (IM (e:= !(decide (dG=0))) yk decide_not.symm) (nt ?_)))))))))
 by_cases dH:dG=0
 refine jF (dF (Lr dH)) (sk (Ik ?_))
 have oJ:=iL.pf [10,13]
 refine pM [17] (IE IQ) oJ ?_
 intro uV oK
 have oL:=oK.pf [4,5,6,7,8,9,10]
 have dI:=qX (f:=bK.own) u oL
 have sO:b.cB.ls.length<=b.cB.c/\b.cB.ls.length<=9223372036854775807:=bq dI (i:=0) rfl (φ:=λ _=>_) (az (Q6.2 ⟨b,D1 u,b1⟩) bn)
 have sP:b.aO.ls.length<=b.aO.c/\b.aO.ls.length<=9223372036854775807:=bq dI (i:=0) rfl (φ:=λ _=>_) (az (Q6.2 ⟨b,D1 u, .tail _ b1⟩) bn)
 have sQ:b.bL.ls.length<=b.bL.c/\b.bL.ls.length<=9223372036854775807:=bq dI (i:=0) rfl (φ:=λ _=>_) (az (Q6.2 ⟨b,D1 u, .tail _ b2⟩) bn)
 have sS:b.ai.ls.length<=b.ai.c/\b.ai.ls.length<=9223372036854775807:=bq dI (i:=0) rfl (φ:=λ _=>_) (az (Q6.2 ⟨b,D1 u, .tail _ b3⟩) bn)
 refine qv 0 rfl rfl (qp Z 0 1 rfl (qp Z 0 2 rfl (ql 3 rfl 0 P6 rfl rfl rfl (qv 4 rfl rfl (qp Z 0 5 rfl (qp Z 0 6 rfl (ql 7 rfl 0 P6 rfl rfl rfl (qp d 0 8 rfl (qp d 8 9 rfl (ql 10 rfl 1 Tryz.isAgg79 rfl rfl rfl (qv 11 rfl rfl (qv 12 rfl rfl (qt (v:=vI (O+1)) 13 rfl (λ _ _=>Ir (e:=C3.wrap (O+1)) yk g1) ?_)))))))))))))
 have oM:=dI.pf [12]
 obtain⟨uX,j5,sU,j6,sV⟩:=IV oM
 refine qd 14 rfl (IP Tryz.call105 rfl (vw _ _ W a.aC.ls.length aM r a.aC.ls O (O+1) (C6 O) b j5 e6 I e6 e6 e6 u) ?_)
 rintro _ uY ⟨dJ,dK,rfl,kg⟩
 have dM:=j6 _ _ kg
 have sW:s0 (r3 (C6 O) r++r4 ((C6 O)+1) r)=s0 (r3 (C6 O) a.aC.ls++r4 ((C6 O)+1) a.aC.ls):=by exact aA (pK I)
 have tq:s0 (r3 (C6 O) a.aC.ls++r4 ((C6 O)+1) a.aC.ls)+1=a.aC.ls.length:=by simp only [o2,o0,o1]; omega
 have tu:b.aO.ls.length=s0 (s5 bO.abs b.aO.ls):=by exact(s3 _).symm
 have tC:b.ai.ls.length=s0 (s5 bP.abs b.ai.ls):=by exact(s3 _).symm
 have tF:=zr 2 dM
 have tH:=zr 3 dM
 have tJ:=zr 4 dM
 have tK:=zr 5 dM
 have ko:=dM.pf [8,9]
 refine⟨.inr ⟨_,ko⟩, ?_⟩
 refine qp d 0 15 rfl (qp d 8 16 rfl ?_)
 have oN:=ko.pf [1]
 refine qe 17 rfl (Do.store (vs:= [.slice dJ (s0 (r3 (C6 O) a.aC.ls++r4 ((C6 O)+1) a.aC.ls)) dK]) (o:=8) oN rfl rfl Tryz.sizeOf79 rfl rfl rfl rfl ?_)
 intro tL ku
 refine⟨.inl e7, ?_⟩
 refine qn (Iq (Ik ?_))
 have bD:b.aO.ls.length=s0 (s5 bO.abs b.aO.ls):=by first | omega | (simp only [G4]; done) | (simp only [G4,o2,s1,E7,o0,o1,H0]; omega)
 have kv:=ku.pf [5]
 have kw:=Jc bD kv
 have ky:=kw.pf [12]
 have kz:=Jp 5 bD ky
 have kC:=kz.pf [2,3,4,5,6,1,7,8,9,10,11,12]
 have bE:b.ai.ls.length=s0 (s5 bP.abs b.ai.ls):=by first | omega | (simp only [G4]; done) | (simp only [G4,o2,s1,E7,o0,o1,H0]; omega)
 have kD:=kC.pf [7]
 have kE:=Jc bE kD
 have kF:=kE.pf [12]
 have kG:=Jp 7 bE kF
 have kH:=kG.pf [2,3,4,5,6,7,8,1,9,10,11,12]
 refine pM [] (IE IQ) kH ?_
 intro tN kI
 refine qp X 0 0 rfl ?_
 have gy:=kI.pf [0,1,12]
 refine BC gy (ql 1 rfl 2 D2 rfl rfl rfl (qp X 1 2 rfl (ql 3 rfl 2 C2 rfl rfl rfl (qv 4 rfl rfl (qp Z 0 5 rfl (qp Z 0 6 rfl (ql 7 rfl 1 P6 rfl rfl rfl (qp d 0 8 rfl (qp d 0 9 rfl (qp d 1 10 rfl (ql 11 rfl 0 D2 rfl rfl rfl (qp X 2 12 rfl (ql 13 rfl 2 D2 rfl rfl rfl ?_)))))))))))))
 obtain⟨h,bF⟩:∃ q,kr (ed.mk b.bI b.bf b.bi b.fE (E0 b.cB.ls) (E0 (s5 bO.abs b.aO.ls)) (E0 b.bL.ls) (E0 (s5 bP.abs b.ai.ls)) b.iI)=q:=⟨_,rfl⟩
 have oO:h.length<=5:=by have q9:=yg bF; simp only [s3] at q9; omega
 refine EG ⟨14,_,_,_,_,_,Option Addr × Nat,λ g9=> .slice g9.1 h.length g9.2,λ _=>True,λ g9=> [row g9.1 h.length g9.2 (q4 (eI .i64) h) 3 1]⟩ ⟨16,_,_,_,_,_,Nat,λ g9=>vP g9 0,λ _=>True,λ g9=> [blk g9 [.int .u64 0,vI 0, .int .u64 0, .int .u64 0, .slice none 0 0] 60]⟩ 15 3 gy ⟨⟨rfl,rfl,rfl, ?_⟩,⟨rfl,rfl,rfl, ?_⟩,trivial⟩ rfl ?_
 intro tO L' kJ
 refine(Jb (cs:= [.int .u64 0,vI 0, .int .u64 0, .int .u64 0, .slice none 0 0]) (t:=60) kJ rfl rfl (λ _=>by kernel_rfl) ?_)
 intro bL tQ kK
 exact⟨bL,rfl,trivial,kK⟩
 intro tT L' kL
 have aH:=kL.pf [3]
 have oP:=zr 6 aH
 have oU:=zr 7 aH
 have oW:=zr 8 aH
 have oZ:=zr 9 aH
 obtain⟨tV,iM,o5,iO,S⟩:=IZ aH
 refine(IP Tryz.call107 rfl (qV _ _ X (ed.mk b.bI b.bf b.bi b.fE (E0 b.cB.ls) (E0 (s5 bO.abs b.aO.ls)) (E0 b.bL.ls) (E0 (s5 bP.abs b.ai.ls)) b.iI) b.cB.A b.cB.c b.aO.A b.aO.c b.aO.ls b.bL.A b.bL.c b.ai.A b.ai.c b.ai.ls h iM (S _ 5 _ rfl aW) e6 (rfl:s5 bO.abs b.aO.ls=s5 bO.abs b.aO.ls) (S _ 6 _ rfl aW) e6 (λ Y Q=>⟨S _ 9 _ rfl (az (Q6.2 ⟨Y,Q,b1⟩) aW),bq (φ:=λ _=>_) aH (i:=10) rfl (az (Q6.2 ⟨Y,Q,b1⟩) bn),S _ 9 _ rfl (az (Q6.2 ⟨Y,Q, .tail _ b1⟩) aW),bq (φ:=λ _=>_) aH (i:=10) rfl (az (Q6.2 ⟨Y,Q, .tail _ b1⟩) bn)⟩) (S _ 7 _ rfl aW) e6 (rfl:s5 bP.abs b.ai.ls=s5 bP.abs b.ai.ls) (S _ 8 _ rfl aW) e6 (λ Y Q=>⟨S _ 10 _ rfl (az (Q6.2 ⟨Y,Q,b1⟩) aW),bq (φ:=λ _=>_) aH (i:=11) rfl (az (Q6.2 ⟨Y,Q,b1⟩) bn),(λ y1 k1=>⟨S _ 10 _ rfl (az (Q6.2 ⟨Y,Q, .tail _ b1⟩) (az (Q6.2 ⟨y1,k1,b1⟩) aW)),bq (φ:=λ _=>_) aH (i:=11) rfl (az (Q6.2 ⟨Y,Q, .tail _ b1⟩) (az (Q6.2 ⟨y1,k1,b1⟩) bn))⟩)⟩) e8 bF) ?_)
 rintro _ tX ⟨L,M,rfl,iP⟩
 have kM:=iO _ _ iP
 have kN:=kM.pf [0,2,3,4]
 exact⟨(L,M),rfl,trivial,kN⟩
 rintro ⟨L,M⟩ _
 refine⟨.agg #[vU b.bI,vI b.bf,vU a.aa.ax,vU b.bi, .slice L h.length M],λ _=>yk, ?_⟩
 rintro bL _
 intro kP kQ
 have gz:Own w D kP (blk bL [.int .u64 0,vI 0, .int .u64 0, .int .u64 0, .slice none 0 0] 60::row L h.length M (q4 (eI .i64) h) 3 1::_):=kQ.flat.pf []
 have o6:=zr 1 gz
 have kR:=gz.pf [2,3,4]
 have kS:=kR.pf [3]
 refine qe 17 rfl (Do.store (vs:= [vU b.bI,vI b.bf,vU a.aa.ax,vU b.bi, .slice L h.length M]) (o:=0) kS rfl rfl Tryz.sizeOf60 rfl rfl rfl rfl ?_)
 intro tY kT
 have gB:=kT.pf [1,2,3]
 refine⟨.inr ⟨_,gB⟩, ?_⟩
 refine qn (Iq (Ik ?_))
 have kU:=gB.pf [1,2,3,4,7,8,9,10,11,12,13,14,15,16]
 refine oV 14 [] (IE IQ) kU ?_
 intro tZ dN
 refine qv 0 rfl rfl (qp Z 0 1 rfl (qp Z 0 2 rfl (ql 3 rfl 0 P6 rfl rfl rfl (qp X 0 4 rfl (ql 5 rfl 1 D2 rfl rfl rfl ?_)))))
 refine GX.do 6 rfl e7 (IP Tryz.call95 rfl ?_ (λ _ _ k=>k))
 refine cb Tryz.func95 ?_
 refine sr (Az rfl (Ar rfl (Mz rfl (Kz (vP d 0) (Kz (vP d 0) (Kz (vP d 5) (Lz (.slice U a.aa.ak.ls.length V) dN 14 Tryz.isAgg30 (Mz rfl ?_))))))))
 obtain⟨⟨j,cu⟩,bT⟩:∃ q:Int × Bool,bQ a.aa.ak.ls b.bI=q:=⟨_,rfl⟩
 obtain⟨uf,iQ,o7,iR,dO⟩:=Iu dN
 refine cl Tryz.call132 (gU _ _ U a.aa.ak.ls.length V p a.aa.ak.ls b.bI j cu iQ G (dO _ 17 _ rfl aW) (λ Y Q=>⟨dO _ 18 _ rfl (az (Q6.2 ⟨Y,Q,b1⟩) aW),bq (φ:=λ _=>_) dN (i:=18) rfl (az (Q6.2 ⟨Y,Q,b1⟩) bn)⟩) rfl e6 bT) ?_
 rintro _ ug ⟨rfl,iT,dP,dQ⟩
 have gD:=iR _ _ iT
 replace dP:0<=j/\j<=(a.aa.ak.ls.length:Int):=dP
 replace dQ:Bool.toNat cu=0\/j < (a.aa.ak.ls.length:Int):=dQ
 refine Kz (vI j) (Kz (.bool cu) (Az rfl (An rfl (rt (Fin.res (lH rfl rfl rfl) ?_)))))
 refine⟨.inr ⟨_,gD⟩, ?_⟩
 refine qv 7 rfl rfl (qk (vI j) 8 rfl (qk (.bool cu) 9 rfl (qa 10 rfl rfl (qa 11 rfl rfl (qn (Iq (Ik ?_)))))))
 have kV:=gD.pf [0,14]
 refine pM [19] (IE IQ) kV ?_
 intro uh kW
 refine qv 0 rfl rfl (qp Z 0 1 rfl (qp Z 0 2 rfl (ql 3 rfl 0 P6 rfl rfl rfl (qv 4 rfl rfl (qp Z 0 5 rfl (qp Z 0 6 rfl (ql 7 rfl 0 P6 rfl rfl rfl (qp d 0 8 rfl (qp d 0 9 rfl (qp d 5 10 rfl (ql 11 rfl 1 Tryz.isAgg30 rfl rfl rfl (qv 12 rfl rfl ?_))))))))))))
 have gF:=kW.pf [0,1,3]
 refine BC gF (qb 13 rfl 2 Tryz.isAgg60 Tryz.sizeOf60 rfl rfl rfl ?_)
 refine qd 14 rfl (JX (cs:= [vU b.bI,vI b.bf,vU a.aa.ax,vU b.bi, .slice L h.length M]) (t:=60) (sz:=5) (m:=1) gF rfl rfl (λ _=>by kernel_rfl) rfl ?_)
 intro gG ui dR
 replace dR:=IX (y:=qC gG 1 (q4 ay.cells ([(ay.mk b.bI b.bf a.aa.ax b.bi (G3 L M h))])) 60 5) rfl dR
 have gH:=dR.pf [1,2,3]
 refine⟨.inr ⟨_,gH⟩, ?_⟩
 have kX:=gH.pf [18,3,19,5]
 obtain⟨uj,iU,o8,iV,o9⟩:=Jf kX
 refine qd 15 rfl (IP Tryz.call130 rfl (vN _ _ U a.aa.ak.ls.length V p a.aa.ak.ls j (C6 j) gG (ay.mk b.bI b.bf a.aa.ax b.bi (G3 L M h)) (bH.mk b.bI b.bf a.aa.ax b.bi (E0 h)) iU e6 G rfl e6 e6 e6) ?_)
 rintro _ uk ⟨bM,bN,rfl,iW⟩
 have kY:=iV _ _ iW
 have pg:s0 (r3 (C6 j) p++((ay.mk b.bI b.bf a.aa.ax b.bi (G3 L M h))::r4 (C6 j) p))=s0 (r3 (C6 j) a.aa.ak.ls++((bH.mk b.bI b.bf a.aa.ax b.bi (E0 h))::r4 (C6 j) a.aa.ak.ls)):=by exact aA (qZ (z:=(bH.mk b.bI b.bf a.aa.ax b.bi (E0 h))) G rfl)
 have pq:s0 (r3 (C6 j) a.aa.ak.ls++((bH.mk b.bI b.bf a.aa.ax b.bi (E0 h))::r4 (C6 j) a.aa.ak.ls))=a.aa.ak.ls.length+1:=by simp only [o2,o0,s1,o1]; omega
 have gI:=kY.pf [2,3,4]
 refine⟨.inr ⟨_,gI⟩, ?_⟩
 refine qp d 0 16 rfl (qp d 0 17 rfl (qp d 5 18 rfl ?_))
 have kZ:=gI.pf [1]
 refine qe 19 rfl (Do.store (vs:= [.slice bM (s0 (r3 (C6 j) a.aa.ak.ls++((bH.mk b.bI b.bf a.aa.ax b.bi (E0 h))::r4 (C6 j) a.aa.ak.ls))) bN]) (o:=5) kZ rfl rfl Tryz.sizeOf30 rfl rfl rfl rfl ?_)
 intro ul lc
 refine⟨.inl e7, ?_⟩
 refine qn (Iq (Ik ?_))
 refine pM [15] (IE IQ) lc ?_
 intro um lg
 refine qv 0 rfl rfl (qp X 1 1 rfl ?_)
 have gJ:=lg.pf [0,1,5]
 refine BC gJ (ql 2 rfl 2 C2 rfl rfl rfl (qv 3 rfl rfl (qp Z 0 4 rfl (qp Z 0 5 rfl (ql 6 rfl 1 P6 rfl rfl rfl (qp d 0 7 rfl (qp d 0 8 rfl (qp d 1 9 rfl (ql 10 rfl 0 D2 rfl rfl rfl (qp X 2 11 rfl (ql 12 rfl 2 D2 rfl rfl rfl (qv 13 rfl rfl (qk (.agg #[vI b.bf,vU a.aa.ax,vU b.bi, .slice J n.length K]) 14 rfl ?_)))))))))))))
 refine GX.do 15 rfl e7 (IP Tryz.call131 rfl ?_ (λ _ _ k=>k))
 refine cb Tryz.func131 ?_
 refine sr ?_
 refine dn [vI b.bf,vU a.aa.ax,vU b.bi, .slice J n.length K] 56 gJ ?_
 intro lh uo ll
 refine nt (Ik ?_)
 refine oV 31 [] (IE IQ) ll ?_
 intro uq dS
 refine qv 0 rfl rfl (qp Z 0 1 rfl (qp Z 0 2 rfl (ql 3 rfl 2 P6 rfl rfl rfl (qp d 0 4 rfl (qp d 0 5 rfl (qp d 6 6 rfl (ql 7 rfl 1 H1 rfl rfl rfl (qp lh 0 8 rfl (ql 9 rfl 0 C2 rfl rfl rfl ?_)))))))))
 obtain⟨⟨g,bB⟩,bV⟩:∃ q:Int × Bool,ik a.aa.aK.ls b.bf=q:=⟨_,rfl⟩
 obtain⟨ut,iX,pu,iY,bW⟩:=Iu dS
 refine qd 10 rfl (IP Tryz.call152 rfl (mZ _ _ B a.aa.aK.ls.length P l a.aa.aK.ls b.bf g bB iX s (bW _ 19 _ rfl aW) (λ Y Q=>⟨bW _ 20 _ rfl (az (Q6.2 ⟨Y,Q,b1⟩) aW),bq (φ:=λ _=>_) dS (i:=20) rfl (az (Q6.2 ⟨Y,Q,b1⟩) bn),(λ y1 k1=>⟨bW _ 20 _ rfl (az (Q6.2 ⟨Y,Q, .tail _ b1⟩) (az (Q6.2 ⟨y1,k1,b1⟩) aW)),bq (φ:=λ _=>_) dS (i:=20) rfl (az (Q6.2 ⟨Y,Q, .tail _ b1⟩) (az (Q6.2 ⟨y1,k1,b1⟩) bn))⟩)⟩) rfl e6 bV) ?_)
 rintro _ uu ⟨rfl,iZ,dU,dV⟩
 have dW:=iY _ _ iZ
 replace dU:0<=g/\g<=(a.aa.aK.ls.length:Int):=dU
 replace dV:Bool.toNat bB=0\/g < (a.aa.aK.ls.length:Int):=dV
 refine⟨.inr ⟨_,dW⟩, ?_⟩
 refine qv 11 rfl rfl (qk (vI g) 12 rfl (qk (.bool bB) 13 rfl (qa 14 rfl rfl (qa 15 rfl rfl (qn (Iq (Ik (sr (Mn rfl ?_)))))))))
 rcases Ls (bB) with bu | bu
 have h217t:Bool.toNat bB=1:=by rw [bu]; rfl
 refine jT bu (Ik ?_)
 have lq:=dW.pf [1,2]
 refine pM [11] (IE (IE IQ)) lq ?_
 intro uw gK
 refine qv 0 rfl rfl (qp Z 0 1 rfl (qp Z 0 2 rfl (ql 3 rfl 1 P6 rfl rfl rfl (qp d 0 4 rfl (qp d 0 5 rfl (qp d 6 6 rfl (ql 7 rfl 0 H1 rfl rfl rfl (qt (v:=vJ (C6 g)) 8 rfl (λ _ _=>Ir (e:=g) (IA rfl) e6) (BC gK (qb 9 rfl 2 Q7 P5 rfl rfl rfl ?_))))))))))
 have gL:=gK.pf [0,1,2,19]
 refine Ic gL ?_
 obtain⟨bv,T⟩:=iG (ls:=l) (i:=C6 g) e9
 have pz:=eY s T
 refine qt (v:= .pointer (some ⟨ab B,ao B+(C6 g) *4,none⟩)) 10 rfl (λ _ ⟨_,H9⟩=>Iz (lW) rfl rfl ((H9.rds (i:=3) rfl).addr (i:=C6 g) e6) e6) ?_
 have lu:=gL.pf [20]
 have lv:=J5 (f:=aS.own) (i:=C6 g) (row bv.ah.A bv.ah.ls.length bv.ah.c (q4 af.cells bv.ah.ls) 149 3) (sepL (q4 af.own bv.ah.ls)) rfl T lu
 have lw:=lv.px [] [0,1] []
 have lD:=lw.pf [15,16]
 have lF:=Jc (aA N).symm lD
 have lG:=Je (f:=aS.own) (y:=(aS.mk b.bf a.aa.ax b.bi (G3 J K aG))) T lF
 have lI:=lG.pf [4]
 refine qe 11 rfl (Do.storeRow (vs:= [vI b.bf,vU a.aa.ax,vU b.bi, .slice J n.length K]) (o:=(C6 g) *4+0) (q:=ao B+(C6 g) *4) lI rfl e6 rfl P5 rfl rfl (Lj rfl) (ja aS.len T (Lj rfl)) (jJ (x:=bv) (f:=0) (vs:= [vI b.bf,vU a.aa.ax,vU b.bi, .slice J n.length K]) (y:=(aS.mk b.bf a.aa.ax b.bi (G3 J K aG))) aS.len (show put (aS.cells bv) 0 ([vI b.bf,vU a.aa.ax,vU b.bi, .slice J n.length K]:List Value)=aS.cells (aS.mk b.bf a.aa.ax b.bi (G3 J K aG)) from congrArg (λ z9=>([vI b.bf,vU a.aa.ax,vU b.bi, .slice J z9 K]:List Value)) (aA N).symm) (Lj rfl) T) ?_)
 intro uy lJ
 have pE:s0 (I3 l (C6 g) (aS.mk b.bf a.aa.ax b.bi (G3 J K aG)))=s0 (I3 a.aa.aK.ls (C6 g) (fF.mk b.bf a.aa.ax b.bi (E0 n))):=aA (jl s (congrArg (λ z9=>fF.mk b.bf a.aa.ax b.bi (E0 z9)) N))
 have pF:s0 (I3 a.aa.aK.ls (C6 g) (fF.mk b.bf a.aa.ax b.bi (E0 n)))=a.aa.aK.ls.length:=G4
 refine⟨.inl e7, ?_⟩
 refine qn (Iq (rt (tR (Fin.res (res0 rfl) ?_))))
 refine⟨.inl e7, ?_⟩
 refine qn (Iq (Ik ?_))
 have dX:=lJ.px [] [4] []
 refine Il (Mz rfl (Kz (vP X 1) (Lz (vI b.bf) dX 4 C2 (Kz (vP X 2) (Lz (vU b.bi) dX 4 D2 (Mz rfl ?_))))))
 have bX:a.aa.aK.ls.length=s0 (I3 a.aa.aK.ls (C6 g) (fF.mk b.bf a.aa.ax b.bi (E0 n))):=by first | omega | (simp only [G4]; done) | (simp only [G4,o2,s1,E7,o0,o1,H0]; omega)
 have lK:=Jc bX dX
 have lL:=lK.pf [2]
 have lM:=Jp 6 bX lL
 have lN:=lM.pf [1,2]
 have gM:=lN.pf [3,14,15,2,18,19,20,21,22,23,24,25,26,27]
 obtain⟨⟨cz,E⟩,dY⟩:∃ q:bU × aD,dL p0 b.bf b.bi 1 n (aD.mk (bZ.mk a.aa.au a.aa.ax a.aa.bG a.aa.aF (E0 a.aa.ag.ls) (E0 (r3 (C6 j) a.aa.ak.ls++((bH.mk b.bI b.bf a.aa.ax b.bi (E0 h))::r4 (C6 j) a.aa.ak.ls))) (E0 (I3 a.aa.aK.ls (C6 g) (fF.mk b.bf a.aa.ax b.bi (E0 n))))) a.bT (E0 (r3 (C6 O) a.aC.ls++r4 ((C6 O)+1) a.aC.ls)) a.bM a.bD a.bA a.bC a.bB a.dO a.dG a.dH a.dD a.dE)=q:=⟨_,rfl⟩
 obtain⟨uz,jb,pG,jc,dZ⟩:=Jj gM
 refine cl Tryz.call106 (jM _ _ Z p0 bG bI bA b.bf b.bi 1 J n.length K aG n d (aD.mk (bZ.mk a.aa.au a.aa.ax a.aa.bG a.aa.aF (E0 a.aa.ag.ls) (E0 (r3 (C6 j) a.aa.ak.ls++((bH.mk b.bI b.bf a.aa.ax b.bi (E0 h))::r4 (C6 j) a.aa.ak.ls))) (E0 (I3 a.aa.aK.ls (C6 g) (fF.mk b.bf a.aa.ax b.bi (E0 n))))) a.bT (E0 (r3 (C6 O) a.aC.ls++r4 ((C6 O)+1) a.aC.ls)) a.bM a.bD a.bA a.bC a.bB a.dO a.dG a.dH a.dD a.dE) aa ag bM bN B P dJ dK aO aP ah aR aU ai aV aX aj aY aZ ak bf bg au cz E jb bC N (dZ _ 1 _ rfl (az (Q6.2 ⟨_,(wY (aS.mk b.bf a.aa.ax b.bi (G3 J K aG)) T),b1⟩) (λ w9 Q a9 b9=>sZ (aA N) (aW w9 Q a9 b9)))) (λ Y Q=>⟨dZ _ 1 _ rfl (az (Q6.2 ⟨_,(wY (aS.mk b.bf a.aa.ax b.bi (G3 J K aG)) T), .tail _ b1⟩) (az (Q6.2 ⟨Y,Q,b1⟩) aW)),bq (φ:=λ _=>_) gM (i:=15) rfl (az (Q6.2 ⟨_,(wY (aS.mk b.bf a.aa.ax b.bi (G3 J K aG)) T), .tail _ b1⟩) (az (Q6.2 ⟨Y,Q,b1⟩) bn))⟩) rfl e6 g6 av ax aB aC aF e8 g2 g2 i1 dY) ?_
 rintro _ uA ⟨lQ,lS,lT,lU,lV,lX,lY,lZ,l5,l6,l7,l8,ma,mf,mg,mh,mi,mo,rfl,jd,d9,ek,eu,eB,eD,eF,eG⟩
 have aI:=jc _ _ jd
 have pQ:=aA d9
 have pR:=aA ek
 have pU:=aA eu
 have pV:=aA eB
 have pW:=aA eD
 have pX:=aA eF
 have pY:=zr 1 aI
 have p8:=zr 4 aI
 have p9:=zr 6 aI
 have qc:=zr 8 aI
 have qf:=zr 10 aI
 have qg:=zr 12 aI
 replace eG:cz.bF.ls.length=p0.bF.ls.length+1:=eG
 refine nt (Il (Mz rfl (Kz (vP X 0) (Lz (vU b.bI) aI 16 D2 (Kz (vP bL 4) (Lz (.slice L h.length M) aI 17 Tryz.isAgg58 ?_))))))
 obtain⟨gN,eH⟩:∃ q,fV cz b.bI h true=q:=⟨_,rfl⟩
 obtain⟨uB,je,qh,jf,jg⟩:=Ja aI
 refine cl Tryz.call27 (lm _ _ Z cz lQ lS lT d b.bI L h.length M h true gN je d9 (jg _ 16 _ rfl (az (Q6.2 ⟨_,u5 _ b1,b1⟩) aW)) rfl e6 i0 eH) ?_
 rintro _ uC ⟨mq,mr,mD,rfl,jh,eO⟩
 have gP:=jf _ _ jh
 have qi:=aA eO
 have qj:=zr 1 gP
 refine WL.nil (IL (res0 rfl) ?_)
 have mE:=gP.pk [0,1,2,3,18,19,14,15,26,27,4,5,6,7,8,9,10,11,12,13]
 obtain⟨rfl,rfl⟩:=fD (zj hr (show _=(gN,aD.mk (bZ.mk E.aa.au E.aa.ax E.aa.bG E.aa.aF (E0 a.aa.ag.ls) (E0 (r3 (C6 j) a.aa.ak.ls++((bH.mk b.bI b.bf a.aa.ax b.bi (E0 h))::r4 (C6 j) a.aa.ak.ls))) (E0 (I3 a.aa.aK.ls (C6 g) (fF.mk b.bf a.aa.ax b.bi (E0 n))))) E.bT (E0 (r3 (C6 O) a.aC.ls++r4 ((C6 O)+1) a.aC.ls)) E.bM E.bD E.bA E.bC E.bB E.dO E.dG E.dH E.dD E.dE) from et (ae (aT bY)) (et (ae bJ) (et (ip dH) (et (ae bF) (et (ae bT) (et (ae bV) (et (ip bu) (et (ae dY) (ae eH))))))))))
 exact⟨mq,mr,mD,bM,bN,(r3 (C6 j) p++((ay.mk b.bI b.bf a.aa.ax b.bi (G3 L M h))::r4 (C6 j) p)),B,P,(I3 l (C6 g) (aS.mk b.bf a.aa.ax b.bi (G3 J K aG))),dJ,dK,(r3 (C6 O) r++r4 ((C6 O)+1) r),lU,lV,lX,lY,lZ,l5,l6,l7,l8,ma,mf,mg,mh,mi,mo,(by(first | rw [<- bD] | skip); (first | rw [<- bE] | skip); (first | rw [<- bX] | skip); first | done | rfl),mE,eO,(qZ (z:=(bH.mk b.bI b.bf a.aa.ax b.bi (E0 h))) G rfl),(jl s (congrArg (λ z9=>fF.mk b.bf a.aa.ax b.bi (E0 z9)) N)),(pK I),ek,eu,eB,eD,eF⟩
 have h217t:Bool.toNat bB=0:=by rw [bu]; rfl
 refine jF bu (sk ?_)
 have mF:=dW.pf [1,2]
 refine pM [19] IQ mF ?_
 intro uD gQ
 refine qv 0 rfl rfl (qp Z 0 1 rfl (qp Z 0 2 rfl (ql 3 rfl 1 P6 rfl rfl rfl (qv 4 rfl rfl (qp Z 0 5 rfl (qp Z 0 6 rfl (ql 7 rfl 1 P6 rfl rfl rfl (qp d 0 8 rfl (qp d 0 9 rfl (qp d 6 10 rfl (ql 11 rfl 0 H1 rfl rfl rfl (qv 12 rfl rfl (BC gQ (qb 13 rfl 2 Q7 P5 rfl rfl rfl ?_))))))))))))))
 refine qd 14 rfl (JX (cs:= [vI b.bf,vU a.aa.ax,vU b.bi, .slice J n.length K]) (t:=56) (sz:=4) (m:=1) gQ rfl rfl (λ _=>by kernel_rfl) rfl ?_)
 intro eP uE eQ
 replace eQ:=IX (y:=qC eP 1 (q4 aS.cells ([(aS.mk b.bf a.aa.ax b.bi (G3 J K aG))])) 56 4) (congrArg (λ z9=>qC eP 1 [vI b.bf,vU a.aa.ax,vU b.bi, .slice J z9 K] 56 4) (aA N).symm) eQ
 have gT:=eQ.pf [1,2,3]
 refine⟨.inr ⟨_,gT⟩, ?_⟩
 have mG:=gT.pf [14]
 have mH:=Jc (aA N).symm mG
 have mI:=mH.pf [20,4,21,0,15]
 obtain⟨uF,ji,qm,jk,qo⟩:=KA mI
 refine qd 15 rfl (IP Tryz.call155 rfl (yD _ _ B a.aa.aK.ls.length P l a.aa.aK.ls g (C6 g) eP (aS.mk b.bf a.aa.ax b.bi (G3 J K aG)) (fF.mk b.bf a.aa.ax b.bi (E0 n)) ji e6 s (Q8.inj (congrArg (λ z9=> [fF.mk b.bf a.aa.ax b.bi (E0 z9)]) N)).1 e6 e6 e6) ?_)
 rintro _ uG ⟨eT,eU,rfl,jm⟩
 have mJ:=jk _ _ jm
 have qw:s0 (r3 (C6 g) l++((aS.mk b.bf a.aa.ax b.bi (G3 J K aG))::r4 (C6 g) l))=s0 (r3 (C6 g) a.aa.aK.ls++((fF.mk b.bf a.aa.ax b.bi (E0 n))::r4 (C6 g) a.aa.aK.ls)):=by exact aA (qZ (z:=(fF.mk b.bf a.aa.ax b.bi (E0 n))) s (Q8.inj (congrArg (λ z9=> [fF.mk b.bf a.aa.ax b.bi (E0 z9)]) N)).1)
 have qx:s0 (r3 (C6 g) a.aa.aK.ls++((fF.mk b.bf a.aa.ax b.bi (E0 n))::r4 (C6 g) a.aa.aK.ls))=a.aa.aK.ls.length+1:=by simp only [o2,o0,s1,o1]; omega
 have gV:=mJ.pf [2,3,4]
 refine⟨.inr ⟨_,gV⟩, ?_⟩
 refine qp d 0 16 rfl (qp d 0 17 rfl (qp d 6 18 rfl ?_))
 refine qe 19 rfl (Do.store (vs:= [.slice eT (s0 (r3 (C6 g) a.aa.aK.ls++((fF.mk b.bf a.aa.ax b.bi (E0 n))::r4 (C6 g) a.aa.aK.ls))) eU]) (o:=6) gV rfl rfl Tryz.sizeOf31 rfl rfl rfl rfl ?_)
 intro uH mK
 refine⟨.inl e7, ?_⟩
 refine qn (IL (res0 rfl) ?_)
 refine⟨.inl e7, ?_⟩
 refine qn (Iq (Ik ?_))
 have eX:=mK.px [] [2] []
 refine Il (Mz rfl (Kz (vP X 1) (Lz (vI b.bf) eX 4 C2 (Kz (vP X 2) (Lz (vU b.bi) eX 4 D2 (Mz rfl ?_))))))
 have gW:=eX.pf [1,14,15,0,18,19,20,21,22,23,24,25,26,27]
 obtain⟨⟨cB,F⟩,eZ⟩:∃ q:bU × aD,dL p0 b.bf b.bi 1 n (aD.mk (bZ.mk a.aa.au a.aa.ax a.aa.bG a.aa.aF (E0 a.aa.ag.ls) (E0 (r3 (C6 j) a.aa.ak.ls++((bH.mk b.bI b.bf a.aa.ax b.bi (E0 h))::r4 (C6 j) a.aa.ak.ls))) (E0 (r3 (C6 g) a.aa.aK.ls++((fF.mk b.bf a.aa.ax b.bi (E0 n))::r4 (C6 g) a.aa.aK.ls)))) a.bT (E0 (r3 (C6 O) a.aC.ls++r4 ((C6 O)+1) a.aC.ls)) a.bM a.bD a.bA a.bC a.bB a.dO a.dG a.dH a.dD a.dE)=q:=⟨_,rfl⟩
 obtain⟨uI,jo,qy,jq,fe⟩:=Jj gW
 refine cl Tryz.call106 (jM _ _ Z p0 bG bI bA b.bf b.bi 1 J n.length K aG n d (aD.mk (bZ.mk a.aa.au a.aa.ax a.aa.bG a.aa.aF (E0 a.aa.ag.ls) (E0 (r3 (C6 j) a.aa.ak.ls++((bH.mk b.bI b.bf a.aa.ax b.bi (E0 h))::r4 (C6 j) a.aa.ak.ls))) (E0 (r3 (C6 g) a.aa.aK.ls++((fF.mk b.bf a.aa.ax b.bi (E0 n))::r4 (C6 g) a.aa.aK.ls)))) a.bT (E0 (r3 (C6 O) a.aC.ls++r4 ((C6 O)+1) a.aC.ls)) a.bM a.bD a.bA a.bC a.bB a.dO a.dG a.dH a.dD a.dE) aa ag bM bN eT eU dJ dK aO aP ah aR aU ai aV aX aj aY aZ ak bf bg au cB F jo bC N (fe _ 1 _ rfl (az (Q6.2 ⟨_,u5 _ b1,b1⟩) (λ w9 Q a9 b9=>sZ (aA N) (aW w9 Q a9 b9)))) (λ Y Q=>⟨fe _ 1 _ rfl (az (Q6.2 ⟨_,u5 _ b1, .tail _ b1⟩) (az (Q6.2 ⟨Y,Q,b1⟩) aW)),bq (φ:=λ _=>_) gW (i:=15) rfl (az (Q6.2 ⟨_,u5 _ b1, .tail _ b1⟩) (az (Q6.2 ⟨Y,Q,b1⟩) bn))⟩) rfl e6 g6 av ax aB aC aF e8 g2 g2 i1 eZ) ?_
 rintro _ uJ ⟨mM,mO,mP,mQ,mR,mU,mW,mY,ng,ni,nk,nu,ny,nz,nA,nC,nD,nE,rfl,jr,fo,fq,fu,fA,fB,fC,fE⟩
 have aJ:=jq _ _ jr
 have qz:=aA fo
 have qA:=aA fq
 have qB:=aA fu
 have qD:=aA fA
 have qE:=aA fB
 have qG:=aA fC
 have qH:=zr 1 aJ
 have qI:=zr 4 aJ
 have qJ:=zr 6 aJ
 have qK:=zr 8 aJ
 have qL:=zr 10 aJ
 have qM:=zr 12 aJ
 replace fE:cB.bF.ls.length=p0.bF.ls.length+1:=fE
 refine nt (Il (Mz rfl (Kz (vP X 0) (Lz (vU b.bI) aJ 16 D2 (Kz (vP bL 4) (Lz (.slice L h.length M) aJ 17 Tryz.isAgg58 ?_))))))
 obtain⟨gX,fG⟩:∃ q,fV cB b.bI h true=q:=⟨_,rfl⟩
 obtain⟨uK,jv,qO,jw,jy⟩:=Ja aJ
 refine cl Tryz.call27 (lm _ _ Z cB mM mO mP d b.bI L h.length M h true gX jv fo (jy _ 16 _ rfl (az (Q6.2 ⟨_,u5 _ b1,b1⟩) aW)) rfl e6 i0 fG) ?_
 rintro _ uL ⟨nG,nH,nI,rfl,jA,fH⟩
 have gY:=jw _ _ jA
 have qP:=aA fH
 have qQ:=zr 1 gY
 refine WL.nil (IL (res0 rfl) ?_)
 have nJ:=gY.pk [0,1,2,3,18,19,14,15,26,27,4,5,6,7,8,9,10,11,12,13]
 obtain⟨rfl,rfl⟩:=fD (zj hr (show _=(gX,aD.mk (bZ.mk F.aa.au F.aa.ax F.aa.bG F.aa.aF (E0 a.aa.ag.ls) (E0 (r3 (C6 j) a.aa.ak.ls++((bH.mk b.bI b.bf a.aa.ax b.bi (E0 h))::r4 (C6 j) a.aa.ak.ls))) (E0 (r3 (C6 g) a.aa.aK.ls++((fF.mk b.bf a.aa.ax b.bi (E0 n))::r4 (C6 g) a.aa.aK.ls)))) F.bT (E0 (r3 (C6 O) a.aC.ls++r4 ((C6 O)+1) a.aC.ls)) F.bM F.bD F.bA F.bC F.bB F.dO F.dG F.dH F.dD F.dE) from et (ae (aT bY)) (et (ae bJ) (et (ip dH) (et (ae bF) (et (ae bT) (et (ae bV) (et (fP bu) (et (ae eZ) (ae fG))))))))))
 exact⟨nG,nH,nI,bM,bN,(r3 (C6 j) p++((ay.mk b.bI b.bf a.aa.ax b.bi (G3 L M h))::r4 (C6 j) p)),eT,eU,(r3 (C6 g) l++((aS.mk b.bf a.aa.ax b.bi (G3 J K aG))::r4 (C6 g) l)),dJ,dK,(r3 (C6 O) r++r4 ((C6 O)+1) r),mQ,mR,mU,mW,mY,ng,ni,nk,nu,ny,nz,nA,nC,nD,nE,(by(first | rw [<- bD] | skip); (first | rw [<- bE] | skip); first | done | rfl),nJ,fH,(qZ (z:=(bH.mk b.bI b.bf a.aa.ax b.bi (E0 h))) G rfl),(qZ (z:=(fF.mk b.bf a.aa.ax b.bi (E0 n))) s (Q8.inj (congrArg (λ z9=> [fF.mk b.bf a.aa.ax b.bi (E0 z9)]) N)).1),(pK I),fq,fu,fA,fB,fC⟩
 refine jT (dT dH) (sr ?_)
 have nK:=iL.pf [2,3,4,5,6,7,8]
 have bR:=qX (f:=bK.own) u nK
 have qR:b.cB.ls.length<=b.cB.c/\b.cB.ls.length<=9223372036854775807:=bq bR (i:=0) rfl (φ:=λ _=>_) (az (Q6.2 ⟨b,D1 u,b1⟩) bn)
 have qU:b.aO.ls.length<=b.aO.c/\b.aO.ls.length<=9223372036854775807:=bq bR (i:=0) rfl (φ:=λ _=>_) (az (Q6.2 ⟨b,D1 u, .tail _ b1⟩) bn)
 have qW:b.bL.ls.length<=b.bL.c/\b.bL.ls.length<=9223372036854775807:=bq bR (i:=0) rfl (φ:=λ _=>_) (az (Q6.2 ⟨b,D1 u, .tail _ b2⟩) bn)
 have qY:b.ai.ls.length<=b.ai.c/\b.ai.ls.length<=9223372036854775807:=bq bR (i:=0) rfl (φ:=λ _=>_) (az (Q6.2 ⟨b,D1 u, .tail _ b3⟩) bn)
 refine Mz rfl (Mz rfl ?_)
 have nL:=bR.px [4,5,6,7,12] [] [1,2,3,8,9,10,11]
 obtain⟨⟨gZ,C⟩,fI⟩:∃ q:bU × aD,iy p0 O a=q:=⟨_,rfl⟩
 obtain⟨uM,jB,rf,jC,rq⟩:=JH nL
 refine cl Tryz.call63 (oQ _ _ Z p0 bG bI bA O d a aa ag U V B P W aM r aO aP ah aR aU ai aV aX aj aY aZ ak bf bg au gZ C jB bC I av ax aB aC aF e8 (by first | assumption | exact Mk.act f5 | exact qN g5 (q8 (x:=bK.abs b) R f5) | exact qN g5 (wJ (x:=bK.abs b) R _)) e8 fI) ?_
 rintro _ uN ⟨nM,nN,nO,nP,nR,nS,nT,nU,nV,nW,nX,nY,nZ,og,oh,ol,om,oo,oq,ou,ow,rfl,jD,fJ,fK,fM,fO,fQ,fT,fU⟩
 have aK:=jC _ _ jD
 have ru:=aA fJ
 have ry:=aA fK
 have rz:=aA fM
 have rA:=aA fO
 have rC:=aA fQ
 have rD:=aA fT
 have rE:=aA fU
 have rF:=zr 1 aK
 have rG:=zr 4 aK
 have rH:=zr 6 aK
 have rJ:=zr 8 aK
 have rM:=zr 10 aK
 have rO:=zr 12 aK
 have rP:=zr 14 aK
 refine nt (rt (tR (Fin.res (res0 rfl) ?_)))
 have oz:=aK.px [0,1,2,3,19,20,21,22] [16,17,18] []
 obtain⟨rfl,rfl⟩:=fD (zj hr (show _=(gZ,aD.mk (bZ.mk C.aa.au C.aa.ax C.aa.bG C.aa.aF (E0 a.aa.ag.ls) (E0 a.aa.ak.ls) (E0 a.aa.aK.ls)) C.bT (E0 C.aC.ls) C.bM C.bD C.bA C.bC C.bB C.dO C.dG C.dH C.dD C.dE) from et (ae (aT bY)) (et (ae bJ) (et (iN dH) (ae fI)))))
 exact⟨nM,nN,nO,U,V,p,B,P,l,nP,nR,nS,nT,nU,nV,nW,nX,nY,nZ,og,oh,ol,om,oo,oq,ou,ow,rfl,oz,fJ,G,s,fK,fM,fO,fQ,fT,fU⟩
end
open Sum renaming inl->B7
open _root_.Go.Proofs.Tryz renaming isAgg104->Q9
section
open Go.RowKit
def eH (a:bW):List fu->Nat->Unit ⊕ Int
  | [],b=>B7 ()
  | c::d,b=>if c.bE=a.aI then Sum.inr (b:Int) else eH a d (b+1)
def ic (l0:List fu) (a:bW):Int:=
 lp (eH a l0 0) λ _=>(-1)
theorem nZ (w D E W X U l0 m) (a:bW) (d f g h n j l V) (H:Own w D w [blk m (gK a d f g h j l) 42]) (G:s5 bO.abs U=l0) (C:Ro w D λ w'=>aY w' 3 E W (q4 bO.cells U)) (I:∀ x ∈ U,Ro w D (λ w'=>aY w' 6 x.aB.A x.aB.ls.length (q4 aN.cells x.aB.ls))/\(x.aB.ls.length<=x.aB.c/\x.aB.ls.length<=9223372036854775807)/\Ro w D (λ w'=>aY w' 1 x.aI.A x.aI.ls.length (q4 (eI .i64) x.aI.ls))/\(x.aI.ls.length<=x.aI.c/\x.aI.ls.length<=9223372036854775807)) (Y:W=l0.length) (az:l0.length<=9223372036854775807) (J:Ro w D λ w'=>aY w' 6 d a.aB.ls.length (q4 aN.cells a.aB.ls)) (K:a.aB.ls.length<=f/\a.aB.ls.length<=9223372036854775807) (r:s5 af.abs n=a.ah.ls) (L:Ro w D λ w'=>aY w' 3 g a.ah.ls.length (q4 af.cells n)) (M:a.ah.ls.length<=h/\a.ah.ls.length<=9223372036854775807) (N:∀ x ∈ n,Ro w D (λ w'=>aY w' 2 x.aj.A x.aj.ls.length (q4 aH.cells x.aj.ls))/\(x.aj.ls.length<=x.aj.c/\x.aj.ls.length<=9223372036854775807)) (O:Ro w D λ w'=>aY w' 2 j a.ag.ls.length (q4 aM.cells a.ag.ls)) (P:a.ag.ls.length<=l/\a.ag.ls.length<=9223372036854775807) (hr:ic l0 a=V):
    Calls v5 91 #[.slice E W X, .func (.func 92) #[] #[vP m 0]] w (dA λ v w'=>v=vI V/\Own w D w' [blk m (gK a d f g h j l) 42]/\(-1<=V/\V < ((l0.length:Nat):Int))):=by
 subst Y
 have au:=aA G
 have F:=aA r
 refine cb Tryz.func91 ?_
 refine sr (An rfl (Ik (sr (Mz rfl (Kz (vJ l0.length) (Mn rfl (bo ?_)))))))
 have Z:=H.pf []
 obtain⟨aa,s⟩:=lF λ (b:Nat) w'=>Own w D w' [blk m (gK a d f g h j l) 42]/\b<=l0.length/\eH a l0 0=eH a (List.drop b l0) b
 refine Wp.loop (λ i:Nat=> [(4,vI 0),(8,vJ i),(7,vJ l0.length),(0, .slice E l0.length X),(1, .func (.func 92) #[] #[vP m 0])]) aa (λ i=>l0.length - i) 0 ⟨rfl,rfl,rfl,rfl,rfl,trivial⟩ (s.2 ⟨Z,e6,rfl⟩) ?_
 rintro b aB Q
 obtain⟨t,av,u⟩:=s.1 Q
 refine sr (Kz (.bool (decide ((b:Int) < (l0.length:Int)))) (nt (Ik ?_)))
 by_cases R:(b:Int) < (l0.length:Int)
 obtain⟨p,o⟩:=dh (ls:=U) (i:=b) bO.len f2 (t.ro C) e9
 have S:=eY G o
 have ax:=(I _ (D1 o)).2.1
 have ay:=(I _ (D1 o)).2.2.2
 have B:=drop_at S
 refine jT (dT R) (sk (Ik (bo (sr (Mz rfl (Ar rfl (Mz rfl (Mz rfl (Mz rfl (fw (.pointer (some ⟨ab E,ao E+b *3,none⟩)) (Iz (uR) rfl rfl ((t.ro C).addr (i:=b) e6) e6) (fw (.agg (bO.cells p).toArray) (IB rfl (IJ (cs:=(bO.cells p)) Tryz.isAgg172 Tryz.sizeOf172 ((t.ro C).elem bO.len o f2))) ?_)))))))))))
 refine WL.do rfl (IY Tryz.call92 rfl rfl ?_ (λ _ _ k=>k))
 refine cb Tryz.func92 ?_
 refine sr ?_
 refine dn (bO.cells p) 172 t ?_
 intro ae aC y
 refine Ar rfl (Kz (vP ae 0) (Lz (vI p.bE) y 0 C2 (Kz (vP m 1) (Lz (vI a.aI) y 1 C2 (Kz (.bool (decide (p.bE=a.aI))) (An rfl (rt (rs (nt ?_)))))))))
 by_cases z:p.bE=a.aI
 refine jT (dT z) (Ik ?_)
 have ag:=y.pk [1]
 refine Il (Mz rfl (An rfl (rt (bR (tR (tR (bR (tR (rs ?_)))))))))
 have ah:=ag.pf []
 obtain rfl:_=(b:Int):=zj hr (gL (et (u) (et (congrArg (λ q=>eH a q b) B) (ip z))))
 exact⟨rfl,ah,e6⟩
 refine jF (dF z) (IU (bN (Iq ?_)))
 have ai:=y.pk [1]
 refine Il (fw (vJ (b+1)) (Ir (e:=IntKind.i64.wrap ((b:Int)+1)) yk f0) (Mz rfl (WL.nil ?_)))
 have aj:=ai.pf []
 exact II (b+1) ⟨rfl,rfl,rfl,rfl,rfl,trivial⟩ (s.2 ⟨aj,e6,et (u) (et (congrArg (λ q=>eH a q b) B) (iN z))⟩) (by show l0.length - (b+1) < l0.length - b; omega)
 refine jF (dF R) (Wp.exit (IC ?_))
 have T:eH a l0 0=B7 ():=et (u) (et (congrArg (λ q=>eH a q b) (dZ (ls:=l0) (i:=b) e6)) rfl)
 refine IC (IK (Iq (sr (An rfl (rt (rs ?_))))))
 have ak:=t.pf []
 obtain rfl:_=(-1):=zj hr (mF T)
 exact⟨rfl,ak,e6⟩
def il (d:Bool):List Bool->Nat->Unit ⊕ Int
  | [],a=>B7 ()
  | b::c,a=>if d=b then Sum.inr (a:Int) else il d c (a+1)
def nI (l0:List Bool) (a:Bool):Int:=
 lp (il a l0 0) λ _=>(-1)
theorem sM (w D n t u l0 b s) (H:Own w D w []) (m:Ro w D λ w'=>aY w' 1 n t (q4 eL l0)) (x:t=l0.length) (F:l0.length<=9223372036854775807) (hr:nI l0 b=s):
    Calls v5 128 #[.slice n t u, .bool b] w (dA λ v w'=>v=vI s/\Own w D w' []/\(-1<=s/\s < ((l0.length:Nat):Int))):=by
 subst x
 refine cb Tryz.func128 ?_
 refine sr (An rfl (Ik (sr (Mz rfl (Kz (vJ l0.length) (Mn rfl (bo ?_)))))))
 have y:=H.pk []
 obtain⟨z,d⟩:=lF λ (a:Nat) w'=>Own w D w' []/\a<=l0.length/\il b l0 0=il b (List.drop a l0) a
 refine Wp.loop (λ i:Nat=> [(4,vI 0),(8,vJ i),(7,vJ l0.length),(0, .slice n l0.length u),(1, .bool b)]) z (λ i=>l0.length - i) 0 ⟨rfl,rfl,rfl,rfl,rfl,trivial⟩ (d.2 ⟨y,e6,rfl⟩) ?_
 rintro a G o
 obtain⟨c,E,f⟩:=d.1 o
 refine sr (Kz (.bool (decide ((a:Int) < (l0.length:Int)))) (nt (Ik ?_)))
 by_cases p:(a:Int) < (l0.length:Int)
 obtain⟨g,j⟩:=dh (ls:=l0) (i:=a) pV f2 (c.ro m) e9
 have l:=drop_at j
 refine jT (decide_eq_true p) (sk (Ik (bo (sr (Mz rfl (Ar rfl (Mz rfl (Mz rfl (Mz rfl (fw (.pointer (some ⟨ab n,ao n+a *1,none⟩)) (Iz (zA) rfl rfl ((c.ro m).addr (i:=a) e6) e6) (fw (.bool g) (IB rfl (bJ.one Tryz.isAgg4 (((c.ro m).elem pV j f2).at_ (k:=0) rfl))) (fw (.bool (decide (b=g))) (IM (e:=(b==g)) yk (by first | exact Bool.beq_eq_decide_eq _ _ | (by_cases q:b=g <;> simp [q]))) (nt ?_)))))))))))))
 by_cases h:b=g
 refine jT (dT h) (sr (Mz rfl (An rfl (rt (bR (tR (tR (bR (tR (rs ?_))))))))))
 have A:=c.pk []
 obtain rfl:_=(a:Int):=zj hr (gL (et (f) (et (congrArg (λ q=>il b q a) l) (ip h))))
 exact⟨rfl,A,e6⟩
 refine jF (dF h) (IU (bN (Iq (Il (fw (vJ (a+1)) (Ir (e:=IntKind.i64.wrap ((a:Int)+1)) yk f0) (Mz rfl (WL.nil ?_)))))))
 have B:=c.pk []
 exact II (a+1) ⟨rfl,rfl,rfl,rfl,rfl,trivial⟩ (d.2 ⟨B,e6,et (f) (et (congrArg (λ q=>il b q a) l) (iN h))⟩) (by show l0.length - (a+1) < l0.length - a; omega)
 refine jF (dF p) (Wp.exit (IC ?_))
 have r:il b l0 0=B7 ():=et (f) (et (congrArg (λ q=>il b q a) (dZ (ls:=l0) (i:=a) e6)) rfl)
 refine IC (IK (Iq (sr (An rfl (rt (rs ?_))))))
 have C:=c.pk []
 obtain rfl:_=(-1):=zj hr (mF r)
 exact⟨rfl,C,e6⟩
def mI (l0:List Bool) (b:Bool):Bool:=
 bnd (nI l0 b) λ a=>decide (a >= 0)
theorem rq (w D i j o l0 h p) (H:Own w D w []) (k:Ro w D λ w'=>aY w' 1 i j (q4 eL l0)) (l:j=l0.length) (s:l0.length<=9223372036854775807) (hr:mI l0 h=p):
    Calls v5 93 #[.slice i j o, .bool h] w (dA λ v w'=>v= .bool p/\Own w D w' []):=by
 unfold mI at hr
 subst l
 refine cb Tryz.func93 ?_
 refine sr (Ar rfl (Mz rfl (Mz rfl ?_)))
 obtain⟨a,b⟩:∃ q,nI l0 h=q:=⟨_,rfl⟩
 obtain⟨t,d,e,f,r⟩:=Iu H
 refine cl Tryz.call128 (sM _ _ i l0.length o l0 h a d (e _ k) rfl e6 b) ?_
 rintro _ u ⟨rfl,g,c⟩
 have m:=f _ _ g
 replace c: -1<=a/\a < (l0.length:Int):=c
 refine Kz (.bool (decide (a >= 0))) (An rfl (rt (rs ?_)))
 have n:=m.pk []
 obtain rfl:=zj hr zq1
 exact⟨rfl,n⟩
def lq (i:bU) (k:bW) (a:aD):bU × aD:=
 bnd (dN a.aC.ls k.aX) λ g=>if g.2=true then bnd (B8 a.aC.ls (C6 g.1) default) λ e=>bnd (ic e.aO.ls k) λ f=>if f < 0 then(i,a) else bnd (B8 e.bL.ls (C6 f) default) λ l=>if l=true then(i,a) else if k.dK=3 then bnd (B8 e.aO.ls (C6 f) default) λ m=>if(k.ah.ls.length:Int)=(m.aB.ls.length:Int) then bnd (iT k.ah.ls) λ h=>bnd (mI (I3 e.bL.ls (C6 f) true) false) λ j=>if j=true then(i,aD.mk a.aa a.bT (E0 (I3 a.aC.ls (C6 g.1) (ed.mk e.bI e.bf e.bi e.fE (E0 e.cB.ls) (E0 e.aO.ls) (E0 (I3 e.bL.ls (C6 f) true)) (E0 (I3 e.ai.ls (C6 f) (E0 h))) e.iI))) a.bM a.bD a.bA a.bC a.bB a.dO a.dG a.dH a.dD a.dE) else bnd (lC i g.1 (aD.mk a.aa a.bT (E0 (I3 a.aC.ls (C6 g.1) (ed.mk e.bI e.bf e.bi e.fE (E0 e.cB.ls) (E0 e.aO.ls) (E0 (I3 e.bL.ls (C6 f) true)) (E0 (I3 e.ai.ls (C6 f) (E0 h))) e.iI))) a.bM a.bD a.bA a.bC a.bB a.dO a.dG a.dH a.dD a.dE)) λ b=>(b.1,aD.mk (bZ.mk b.2.aa.au b.2.aa.ax b.2.aa.bG b.2.aa.aF (E0 a.aa.ag.ls) (E0 b.2.aa.ak.ls) (E0 b.2.aa.aK.ls)) b.2.bT (E0 b.2.aC.ls) b.2.bM b.2.bD b.2.bA b.2.bC b.2.bB b.2.dO b.2.dG b.2.dH b.2.dD b.2.dE) else bnd (iy i g.1 a) λ c=>(c.1,aD.mk (bZ.mk c.2.aa.au c.2.aa.ax c.2.aa.bG c.2.aa.aF (E0 a.aa.ag.ls) (E0 a.aa.ak.ls) (E0 a.aa.aK.ls)) c.2.bT (E0 c.2.aC.ls) c.2.bM c.2.bD c.2.bA c.2.bC c.2.bB c.2.dO c.2.dG c.2.dH c.2.dD c.2.dE) else bnd (iy i g.1 a) λ d=>(d.1,aD.mk (bZ.mk d.2.aa.au d.2.aa.ax d.2.aa.bG d.2.aa.aF (E0 a.aa.ag.ls) (E0 a.aa.ak.ls) (E0 a.aa.aK.ls)) d.2.bT (E0 d.2.aC.ls) d.2.bM d.2.bD d.2.bA d.2.bC d.2.bB d.2.dO d.2.dG d.2.dH d.2.dD d.2.dE) else(i,a)
theorem wh (w D g0) (p0:bU) (ag ah aa) (W:bW) (cZ fJ bI bF fK bu bL df fM bM X) (b:aD) (aG aI r s z t u B d m l K L C M N E O P F Q R G S T I) (r0:bU) (r1:aD) (H:Own w D w (blk g0 [.pointer (some ⟨X,0,none⟩), .slice ag p0.bF.ls.length ah] 98::row ag p0.bF.ls.length ah (q4 bz.cells aa) 42 21::sepL (q4 bz.own aa)::mX X b aG b.aa.ag.ls.length aI r s z t u B d m l K L C M N E O P F Q R G S T I [])) (aK:s5 bz.abs aa=p0.bF.ls) (gD:fJ=W.aB.ls.length) (gF:Ro w D λ w'=>aY w' 6 cZ W.aB.ls.length (q4 aN.cells W.aB.ls)) (ng:W.aB.ls.length<=bI/\W.aB.ls.length<=9223372036854775807) (bX:s5 af.abs bL=W.ah.ls) (gG:fK=W.ah.ls.length) (dB:Ro w D λ w'=>aY w' 3 bF W.ah.ls.length (q4 af.cells bL)) (ni:W.ah.ls.length<=bu/\W.ah.ls.length<=9223372036854775807) (bG:∀ x ∈ bL,Ro w D (λ w'=>aY w' 2 x.aj.A x.aj.ls.length (q4 aH.cells x.aj.ls))/\(x.aj.ls.length<=x.aj.c/\x.aj.ls.length<=9223372036854775807)) (gH:fM=W.ag.ls.length) (gI:Ro w D λ w'=>aY w' 2 df W.ag.ls.length (q4 aM.cells W.ag.ls)) (nk:W.ag.ls.length<=bM/\W.ag.ls.length<=9223372036854775807) (ai:s5 ay.abs z=b.aa.ak.ls) (aj:s5 aS.abs B=b.aa.aK.ls) (U:s5 bK.abs l=b.aC.ls) (ak:s5 af.abs C=b.bM.ai.ls) (au:s5 af.abs E=b.bD.ai.ls) (av:s5 af.abs F=b.bA.ai.ls) (ax:s5 af.abs G=b.bC.ai.ls) (aB:s5 af.abs I=b.bB.ai.ls) (rF:b.aa.ag.ls.length<=1000/\b.aa.ak.ls.length<=1000/\b.aa.aK.ls.length<=1000/\b.aC.ls.length<=1000/\p0.bF.ls.length<=100000) (rG:Ak b.aC.ls) (rH:W.aB.ls.length<=24/\W.ag.ls.length<=1000/\W.ah.ls.length<=1000/\jR W.aU) (rJ:mV W.ah.ls) (hr:lq p0 W b=(r0,r1)):
    Calls v5 57 #[vP g0 0, .agg (iA W.av W.aI W.eO W.aP W.dK W.fA W.aU W.ax W.aX W.eQ W.bG W.aF W.eG W.cZ W.xN W.fe W.cu.aJ W.cu.aR cZ fJ bI bF fK bu df fM bM).toArray] w (dA λ v w'=> ∃ dC dD bY gJ gL dE gM gN dG gP gQ dH gT gU dI gV gW dJ gX gY dK gZ ib dL ig ik dM,v= .tuple #[]/\Own w D w' (blk g0 [vP X 0, .slice dC r0.bF.ls.length dD] 98::row dC r0.bF.ls.length dD (q4 bz.cells bY) 42 21::sepL (q4 bz.own bY)::mX X r1 aG b.aa.ag.ls.length aI gJ gL dE gM gN dG gP gQ dH gT gU dI gV gW dJ gX gY dK gZ ib dL ig ik dM [])/\(s5 bz.abs bY=r0.bF.ls)/\(s5 ay.abs dE=r1.aa.ak.ls)/\(s5 aS.abs dG=r1.aa.aK.ls)/\(s5 bK.abs dH=r1.aC.ls)/\(s5 af.abs dI=r1.bM.ai.ls)/\(s5 af.abs dJ=r1.bD.ai.ls)/\(s5 af.abs dK=r1.bA.ai.ls)/\(s5 af.abs dL=r1.bC.ai.ls)/\(s5 af.abs dM=r1.bB.ai.ls)):=by
 unfold lq at hr
 subst gD gG gH
 have mY:=aA aK
 have mZ:=aA bX
 have iV:=aA ai
 have iW:=aA aj
 have iX:=aA U
 have iY:=aA ak
 have iZ:=aA au
 have jb:=aA av
 have jc:=aA ax
 have jd:=aA aB
 have nu:=zr 1 H
 have je:=zr 4 H
 have jf:=zr 6 H
 have jg:=zr 8 H
 have jh:=zr 10 H
 have ji:=zr 12 H
 have jk:=zr 14 H
 have jm:=zr 16 H
 have jo:=zr 18 H
 refine cb Tryz.func57 ?_
 refine sr ?_
 refine dn (gK W cZ bI bF bu df bM) 42 H ?_
 intro dw rM ny
 refine nt (Ik ?_)
 refine Db [] (IE IQ) ny ?_
 intro rO bE
 refine qv 0 rfl rfl (qp g0 0 1 rfl (qp g0 0 2 rfl (ql 3 rfl 1 Tryz.isAgg24 rfl rfl rfl (qp dw 8 4 rfl (ql 5 rfl 0 Tryz.isAgg28 rfl rfl rfl ?_)))))
 refine GX.do 6 rfl e7 (IP Tryz.call62 rfl ?_ (λ _ _ k=>k))
 refine cb Tryz.func62 ?_
 refine sr (Az rfl (Ar rfl (Mz rfl (Kz (vP X 0) (Kz (vP X 8) (Lz (.slice d b.aC.ls.length m) bE 4 Tryz.isAgg79 (Mz rfl ?_)))))))
 obtain⟨⟨h,bN⟩,aV⟩:∃ q:Int × Bool,dN b.aC.ls W.aX=q:=⟨_,rfl⟩
 obtain⟨rP,jq,qh,jr,aQ⟩:=Iu bE
 refine cl Tryz.call102 (jN _ _ d b.aC.ls.length m l b.aC.ls W.aX h bN jq U (aQ _ 9 _ rfl aW) (λ x9 h9=>⟨aQ _ 10 _ rfl (az (Q6.2 ⟨x9,h9,b1⟩) aW),bq (φ:=λ _=>_) bE (i:=10) rfl (az (Q6.2 ⟨x9,h9,b1⟩) bn),aQ _ 10 _ rfl (az (Q6.2 ⟨x9,h9, .tail _ b1⟩) aW),bq (φ:=λ _=>_) bE (i:=10) rfl (az (Q6.2 ⟨x9,h9, .tail _ b1⟩) bn),(λ y1 k1=>⟨aQ _ 10 _ rfl (az (Q6.2 ⟨x9,h9, .tail _ b4⟩) (az (Q6.2 ⟨y1,k1,b1⟩) aW)),bq (φ:=λ _=>_) bE (i:=10) rfl (az (Q6.2 ⟨x9,h9, .tail _ b4⟩) (az (Q6.2 ⟨y1,k1,b1⟩) bn)),aQ _ 10 _ rfl (az (Q6.2 ⟨x9,h9, .tail _ b4⟩) (az (Q6.2 ⟨y1,k1, .tail _ b1⟩) aW)),bq (φ:=λ _=>_) bE (i:=10) rfl (az (Q6.2 ⟨x9,h9, .tail _ b4⟩) (az (Q6.2 ⟨y1,k1, .tail _ b1⟩) bn))⟩),aQ _ 10 _ rfl (az (Q6.2 ⟨x9,h9, .tail _ b2⟩) aW),bq (φ:=λ _=>_) bE (i:=10) rfl (az (Q6.2 ⟨x9,h9, .tail _ b2⟩) bn),aQ _ 10 _ rfl (az (Q6.2 ⟨x9,h9, .tail _ b3⟩) aW),bq (φ:=λ _=>_) bE (i:=10) rfl (az (Q6.2 ⟨x9,h9, .tail _ b3⟩) bn),(λ y1 k1=>⟨aQ _ 10 _ rfl (az (Q6.2 ⟨x9,h9, .tail _ b5⟩) (az (Q6.2 ⟨y1,k1,b1⟩) aW)),bq (φ:=λ _=>_) bE (i:=10) rfl (az (Q6.2 ⟨x9,h9, .tail _ b5⟩) (az (Q6.2 ⟨y1,k1,b1⟩) bn)),(λ y2 k2=>⟨aQ _ 10 _ rfl (az (Q6.2 ⟨x9,h9, .tail _ b5⟩) (az (Q6.2 ⟨y1,k1, .tail _ b1⟩) (az (Q6.2 ⟨y2,k2,b1⟩) aW))),bq (φ:=λ _=>_) bE (i:=10) rfl (az (Q6.2 ⟨x9,h9, .tail _ b5⟩) (az (Q6.2 ⟨y1,k1, .tail _ b1⟩) (az (Q6.2 ⟨y2,k2,b1⟩) bn)))⟩)⟩)⟩) rfl e6 aV) ?_
 rintro _ rQ ⟨rfl,jv,fO,fQ⟩
 have bv:=jr _ _ jv
 replace fO:0<=h/\h<=(b.aC.ls.length:Int):=fO
 replace fQ:Bool.toNat bN=0\/h < (b.aC.ls.length:Int):=fQ
 refine Kz (vI h) (Kz (.bool bN) (Az rfl (An rfl (rt (Fin.res (lH rfl rfl rfl) ?_)))))
 refine⟨.inr ⟨_,bv⟩, ?_⟩
 refine qv 7 rfl rfl (qk (vI h) 8 rfl (qk (.bool bN) 9 rfl (qa 10 rfl rfl (qa 11 rfl rfl (qn (Iq (Ik (sr (Mz rfl (Kz (.bool (!bN)) (nt ?_)))))))))))
 rcases Ls (bN) with bg | bg
 have h39t:Bool.toNat bN=1:=by rw [bg]; rfl
 refine jF (cn bg) (sk (sr (Mz rfl (Kz (vP g0 0) (Kz (vP g0 0) (Lz (vP X 0) bv 1 Tryz.isAgg24 (Kz (vP X 0) (Kz (vP X 8) (Lz (.slice d b.aC.ls.length m) bv 4 Tryz.isAgg79 (fw (vJ (C6 h)) (Ir (e:=h) (IA rfl) e6) ?_))))))))))
 obtain⟨a,j⟩:=dh (ls:=l) (i:=C6 h) bK.len f2 (bv.rds (i:=9) rfl) e9
 have bA:=eY U j
 have qj:a.cB.ls.length<=a.cB.c/\a.cB.ls.length<=9223372036854775807:=bq bv (i:=10) rfl (φ:=λ _=>_) (az (Q6.2 ⟨a,D1 j,b1⟩) bn)
 have qm:a.aO.ls.length<=a.aO.c/\a.aO.ls.length<=9223372036854775807:=bq bv (i:=10) rfl (φ:=λ _=>_) (az (Q6.2 ⟨a,D1 j, .tail _ b1⟩) bn)
 have qo:a.bL.ls.length<=a.bL.c/\a.bL.ls.length<=9223372036854775807:=bq bv (i:=10) rfl (φ:=λ _=>_) (az (Q6.2 ⟨a,D1 j, .tail _ b2⟩) bn)
 have qw:a.ai.ls.length<=a.ai.c/\a.ai.ls.length<=9223372036854775807:=bq bv (i:=10) rfl (φ:=λ _=>_) (az (Q6.2 ⟨a,D1 j, .tail _ b3⟩) bn)
 have aL:Tok (bK.abs a):=Cv g5 bA
 have qx:1<=a.bf/\a.bf<=4:=aL.D7
 have qy:a.bL.ls.length=a.aO.ls.length:=by have q9:=aL.yes; simp only [bK.abs,s3] at q9; exact q9
 have qz:a.ai.ls.length=a.aO.ls.length:=by have q9:=aL.res; simp only [bK.abs,s3] at q9; exact q9
 have qA:a.aO.ls.length<=5:=by have q9:=aL.len; simp only [bK.abs,s3] at q9; exact q9
 have qB:a.cB.ls.length<=24:=aL.ops.1
 refine fw (.pointer (some ⟨ab d,ao d+(C6 h) *9,none⟩)) (Iz (qF) rfl rfl ((bv.rds (i:=9) rfl).addr (i:=C6 h) e6) e6) (Ar rfl ?_)
 have nz:=bv.pf [10]
 have dx:=J6 (f:=bK.own) (i:=C6 h) (row a.cB.A a.cB.ls.length a.cB.c (q4 aN.cells a.cB.ls) 72 6) (row a.aO.A a.aO.ls.length a.aO.c (q4 bO.cells a.aO.ls) 172 3) (row a.bL.A a.bL.ls.length a.bL.c (q4 eL a.bL.ls) 4 1) (row a.ai.A a.ai.ls.length a.ai.c (q4 (I9 (β:=af)) a.ai.ls) 40 1) (sepL (q4 bO.own a.aO.ls)) (sepL (q4 bP.own a.ai.ls)) rfl j nz
 have qC:=zr 0 dx
 have qD:=zr 1 dx
 have qE:a.aO.ls.length=s0 (s5 bO.abs a.aO.ls):=aA (rfl:s5 bO.abs a.aO.ls=s5 bO.abs a.aO.ls)
 have qG:=zr 2 dx
 have qH:=zr 3 dx
 have qI:a.ai.ls.length=s0 (s5 bP.abs a.ai.ls):=aA (rfl:s5 bP.abs a.ai.ls=s5 bP.abs a.ai.ls)
 refine Mz rfl (Kz (.pointer (some ⟨ab d,ao d+(C6 h) *9,none⟩)) (Kz (.pointer (some ⟨ab d,ao d+(C6 h) *9+5,none⟩)) (fw (.slice a.aO.A a.aO.ls.length a.aO.c) (IB rfl (bJ.one Tryz.isAgg103 (((dx.rds (i:=16) rfl).elem bK.len j f2).at_ (k:=5) rfl))) (Kz (.func (.func 92) #[] #[vP dw 0]) ?_))))
 have il:=dx.pf [7]
 have qJ:a.aO.ls.length=s0 (s5 bO.abs a.aO.ls):=f1
 obtain⟨g,bB⟩:∃ q,ic (s5 bO.abs a.aO.ls) W=q:=⟨_,rfl⟩
 obtain⟨rR,jw,di,jy,dO⟩:=IZ il
 refine cl Tryz.call91 (nZ _ _ a.aO.A a.aO.ls.length a.aO.c a.aO.ls (s5 bO.abs a.aO.ls) dw W cZ bI bF bu bL df bM g jw (rfl:s5 bO.abs a.aO.ls=s5 bO.abs a.aO.ls) (dO _ 1 _ rfl aW) (λ x9 h9=>⟨dO _ 4 _ rfl (az (Q6.2 ⟨x9,h9,b1⟩) aW),bq (φ:=λ _=>_) il (i:=5) rfl (az (Q6.2 ⟨x9,h9,b1⟩) bn),dO _ 4 _ rfl (az (Q6.2 ⟨x9,h9, .tail _ b1⟩) aW),bq (φ:=λ _=>_) il (i:=5) rfl (az (Q6.2 ⟨x9,h9, .tail _ b1⟩) bn)⟩) f1 g3 (di _ gF) e6 bX (di _ dB) e6 (λ x9 h9=>⟨di _ (bG x9 h9).1,(bG x9 h9).2⟩) (di _ gI) e6 bB) ?_
 rintro _ rT ⟨rfl,jA,fU⟩
 have cu:=jy _ _ jA
 replace fU: -1<=g/\g < ((s0 (s5 bO.abs a.aO.ls):Nat):Int):=fU
 refine An rfl (Ik (sr (Mz rfl (Kz (.bool (decide (g < 0))) (Mz rfl ?_)))))
 by_cases aJ:g < 0
 refine Sz (dT aJ) (Sz (dT aJ) (Sz (dT aJ) (Sz (dT aJ) (Sz (dT aJ) (Sz (dT aJ) (Sz (dT aJ) (fw (.bool true) (Iw rfl (dT aJ) rfl) (nt (jt (rt (tR (Fin.res (res0 rfl) ?_))))))))))))
 have nA:=cu.pf [1,2,3,4,5,6,7]
 have dP:=qX (f:=bK.own) j nA
 have qK:a.cB.ls.length<=a.cB.c/\a.cB.ls.length<=9223372036854775807:=bq dP (i:=0) rfl (φ:=λ _=>_) (az (Q6.2 ⟨a,D1 j,b1⟩) bn)
 have qL:a.aO.ls.length<=a.aO.c/\a.aO.ls.length<=9223372036854775807:=bq dP (i:=0) rfl (φ:=λ _=>_) (az (Q6.2 ⟨a,D1 j, .tail _ b1⟩) bn)
 have qM:a.bL.ls.length<=a.bL.c/\a.bL.ls.length<=9223372036854775807:=bq dP (i:=0) rfl (φ:=λ _=>_) (az (Q6.2 ⟨a,D1 j, .tail _ b2⟩) bn)
 have qO:a.ai.ls.length<=a.ai.c/\a.ai.ls.length<=9223372036854775807:=bq dP (i:=0) rfl (φ:=λ _=>_) (az (Q6.2 ⟨a,D1 j, .tail _ b3⟩) bn)
 have nC:=dP.px [2,3,4,5,6,7,8,9,10] [1] []
 obtain⟨rfl,rfl⟩:=fD (zj hr (show _=(p0,b) from et (ae aV) (et (ip bg) (et (ae (aT bA)) (et (ae bB) (ip aJ))))))
 exact⟨ag,ah,aa,r,s,z,t,u,B,d,m,l,K,L,C,M,N,E,O,P,F,Q,R,G,S,T,I,rfl,nC,aK,ai,aj,U,ak,au,av,ax,aB⟩
 refine gw (.pointer (some ⟨ab d,ao d+(C6 h) *9,none⟩)) (dF aJ) (IA rfl) (Gz (.pointer (some ⟨ab d,ao d+(C6 h) *9,none⟩)) (dF aJ) (Gz (.pointer (some ⟨ab d,ao d+(C6 h) *9+6,none⟩)) (dF aJ) (gw (.slice a.bL.A a.bL.ls.length a.bL.c) (dF aJ) (IB rfl (bJ.one Q9 (((cu.rds (i:=16) rfl).elem bK.len j f2).at_ (k:=6) rfl))) (gw (vJ (C6 g)) (dF aJ) (Ir (e:=g) (IA rfl) e6) ?_))))
 obtain⟨iq,aX⟩:=dh (ls:=a.bL.ls) (i:=C6 g) pV f2 (cu.rds (i:=3) rfl) e9
 refine gw (.pointer (some ⟨ab a.bL.A,ao a.bL.A+(C6 g) *1,none⟩)) (dF aJ) (Iz (zA) rfl rfl ((cu.rds (i:=3) rfl).addr (i:=C6 g) e6) e6) (gw (.bool iq) (dF aJ) (IB rfl (bJ.one Tryz.isAgg4 (((cu.rds (i:=3) rfl).elem pV aX f2).at_ (k:=0) rfl))) (fw (.bool iq) (Io rfl (dF aJ) rfl) (nt ?_)))
 rcases Ls (iq) with bQ | bQ
 refine jT bQ (rt (tR (Fin.res (res0 rfl) ?_)))
 have nD:=cu.pf [1,2,3,4,5,6,7]
 have dQ:=qX (f:=bK.own) j nD
 have qP:a.cB.ls.length<=a.cB.c/\a.cB.ls.length<=9223372036854775807:=bq dQ (i:=0) rfl (φ:=λ _=>_) (az (Q6.2 ⟨a,D1 j,b1⟩) bn)
 have qQ:a.aO.ls.length<=a.aO.c/\a.aO.ls.length<=9223372036854775807:=bq dQ (i:=0) rfl (φ:=λ _=>_) (az (Q6.2 ⟨a,D1 j, .tail _ b1⟩) bn)
 have qR:a.bL.ls.length<=a.bL.c/\a.bL.ls.length<=9223372036854775807:=bq dQ (i:=0) rfl (φ:=λ _=>_) (az (Q6.2 ⟨a,D1 j, .tail _ b2⟩) bn)
 have qU:a.ai.ls.length<=a.ai.c/\a.ai.ls.length<=9223372036854775807:=bq dQ (i:=0) rfl (φ:=λ _=>_) (az (Q6.2 ⟨a,D1 j, .tail _ b3⟩) bn)
 have nE:=dQ.px [2,3,4,5,6,7,8,9,10] [1] []
 obtain⟨rfl,rfl⟩:=fD (zj hr (show _=(p0,b) from et (ae aV) (et (ip bg) (et (ae (aT bA)) (et (ae bB) (et (iN aJ) (et (ae (aT aX)) (ip bQ))))))))
 exact⟨ag,ah,aa,r,s,z,t,u,B,d,m,l,K,L,C,M,N,E,O,P,F,Q,R,G,S,T,I,rfl,nE,aK,ai,aj,U,ak,au,av,ax,aB⟩
 refine jF bQ (sk (Ik (Ik ?_)))
 refine oV 27 [] (IE (IE IQ)) cu ?_
 intro rU iw
 refine qp dw 4 0 rfl (ql 1 rfl 0 C2 rfl rfl rfl (qt (v:= .bool (decide (¬ (W.dK=3)))) 2 rfl (λ _ _=>IM (e:= !(decide (W.dK=3))) yk decide_not.symm) (qv 3 rfl rfl ?_)))
 by_cases V:W.dK=3
 refine Iy (v:=vP dw 19) (rs:= []) 4 rfl rfl rfl (dF (Lr V)) e7 (λ _ _=>yk) (Iy (v:= .slice bF W.ah.ls.length bu) (rs:= []) 5 rfl rfl rfl (dF (Lr V)) e7 (λ _ ⟨_,H9⟩=>IB rfl (bJ.one Tryz.isAgg40 (I1 (H9.cls (i:=0) rfl) rfl))) (Iy (v:=vJ W.ah.ls.length) (rs:= []) 6 rfl rfl rfl (dF (Lr V)) e7 (λ _ _=>yk) (Iy (v:= .pointer (some ⟨ab d,ao d+(C6 h) *9,none⟩)) (rs:= []) 7 rfl rfl rfl (dF (Lr V)) e7 (λ _ _=>IA rfl) (Iy (v:= .pointer (some ⟨ab d,ao d+(C6 h) *9,none⟩)) (rs:= []) 8 rfl rfl rfl (dF (Lr V)) e7 (λ _ _=>yk) (Iy (v:= .pointer (some ⟨ab d,ao d+(C6 h) *9+5,none⟩)) (rs:= []) 9 rfl rfl rfl (dF (Lr V)) e7 (λ _ _=>yk) (Iy (v:= .slice a.aO.A a.aO.ls.length a.aO.c) (rs:= []) 10 rfl rfl rfl (dF (Lr V)) e7 (λ _ ⟨_,H9⟩=>IB rfl (bJ.one Tryz.isAgg103 (((H9.rds (i:=16) rfl).elem bK.len j f2).at_ (k:=5) rfl))) (Iy (v:=vJ (C6 g)) (rs:= []) 11 rfl rfl rfl (dF (Lr V)) e7 (λ _ _=>Ir (e:=g) (IA rfl) e6) ?_)))))))
 obtain⟨bR,fV⟩:=iG (ls:=a.aO.ls) (i:=C6 g) e9
 have dR:=eY (rfl:s5 bO.abs a.aO.ls=s5 bO.abs a.aO.ls) fV
 refine Iy (v:= .pointer (some ⟨ab a.aO.A,ao a.aO.A+(C6 g) *3,none⟩)) (rs:= []) 12 rfl rfl rfl (dF (Lr V)) e7 (λ _ ⟨_,H9⟩=>Iz (uR) rfl rfl ((H9.rds (i:=2) rfl).addr (i:=C6 g) e6) e6) (Iy (v:= .pointer (some ⟨ab a.aO.A,ao a.aO.A+(C6 g) *3+1,none⟩)) (rs:= []) 13 rfl rfl rfl (dF (Lr V)) e7 (λ _ _=>yk) (Iy (v:= .slice bR.aB.A bR.aB.ls.length bR.aB.c) (rs:= []) 14 rfl rfl rfl (dF (Lr V)) e7 (λ _ ⟨_,H9⟩=>IB rfl (bJ.one Tryz.isAgg39 (((H9.rds (i:=2) rfl).elem bO.len fV f2).at_ (k:=1) rfl))) (Iy (v:=vJ bR.aB.ls.length) (rs:= []) 15 rfl rfl rfl (dF (Lr V)) e7 (λ _ _=>yk) (Iy (v:= .bool (decide (¬ ((W.ah.ls.length:Int)=(bR.aB.ls.length:Int))))) (rs:= []) 16 rfl rfl rfl (dF (Lr V)) e7 (λ _ _=>IM (e:= !(decide ((W.ah.ls.length:Int)=(bR.aB.ls.length:Int)))) yk decide_not.symm) (qt (v:= .bool (decide (¬ ((W.ah.ls.length:Int)=(bR.aB.ls.length:Int))))) 17 rfl (λ _ _=>Io rfl (dF (Lr V)) rfl) (qn (Iq ?_)))))))
 by_cases dS:(W.ah.ls.length:Int)=(bR.aB.ls.length:Int)
 refine jF (dF (Lr dS)) (sk (Ik ?_))
 refine oV 27 [14,16] (IE IQ) iw ?_
 intro rV jB
 refine qv 0 rfl rfl (qk (.pointer (some ⟨ab d,ao d+(C6 h) *9,none⟩)) 1 rfl (qk (.pointer (some ⟨ab d,ao d+(C6 h) *9+6,none⟩)) 2 rfl (qt (v:= .slice a.bL.A a.bL.ls.length a.bL.c) 3 rfl (λ _ ⟨_,H9⟩=>IB rfl (bJ.one Q9 (((H9.rds (i:=16) rfl).elem bK.len j f2).at_ (k:=6) rfl))) (qt (v:=vJ (C6 g)) 4 rfl (λ _ _=>Ir (e:=g) (IA rfl) e6) (qv 5 rfl rfl (qk (.pointer (some ⟨ab d,ao d+(C6 h) *9,none⟩)) 6 rfl (qk (.pointer (some ⟨ab d,ao d+(C6 h) *9+7,none⟩)) 7 rfl (qt (v:= .slice a.ai.A a.ai.ls.length a.ai.c) 8 rfl (λ _ ⟨_,H9⟩=>IB rfl (bJ.one Tryz.isAgg105 (((H9.rds (i:=16) rfl).elem bK.len j f2).at_ (k:=7) rfl))) (I4 (v:=vJ (C6 g)) 9 rfl e7 (λ _=>Ir (e:=g) (IA rfl) e6) (qp dw 19 10 rfl (ql 11 rfl 0 Tryz.isAgg40 rfl rfl rfl ?_)))))))))))
 obtain⟨Y,bH⟩:∃ q,iT W.ah.ls=q:=⟨_,rfl⟩
 obtain⟨qV,iB,dU,iC,nG⟩:=Iu jB
 refine qd 12 rfl (IP Tryz.call48 rfl (l8 _ _ bF W.ah.ls.length bu bL W.ah.ls Y iB bX (dU _ dB) (λ x9 h9=>⟨dU _ (bG x9 h9).1,(bG x9 h9).2⟩) rfl e6 (by first | assumption | exact d9 f5 | (intro x hx; exact absurd hx List.not_mem_nil)) bH) ?_)
 rintro _ qW ⟨n,p,J,rfl,iD,aO⟩
 have fZ:=iC _ _ iD
 have nH:=aA aO
 have nI:=zr 0 fZ
 have nJ:mV Y:=by rw [<- bH]; show mV W.ah.ls; assumption
 have gm:=fZ.pb [0,1]
 refine⟨.inr ⟨_,gm⟩, ?_⟩
 refine qt (v:= .pointer (some ⟨ab a.bL.A,ao a.bL.A+(C6 g) *1,none⟩)) 13 rfl (λ _ ⟨_,H9⟩=>Iz (zA) rfl rfl ((H9.rds (i:=3) rfl).addr (i:=C6 g) e6) e6) ?_
 have jC:=gm.pf [3]
 refine qe 14 rfl (Do.storeRow (vs:= [.bool true]) (o:=(C6 g) *1+0) (q:=ao a.bL.A+(C6 g) *1) jC rfl e6 rfl Tryz.sizeOf4 rfl rfl (Lj rfl) (ja pV aX (Lj rfl)) (jJ (y:=true) pV rfl (Lj rfl) aX) ?_)
 intro qY gp
 refine⟨.inl e7, ?_⟩
 obtain⟨bC,bD⟩:=iG (ls:=a.ai.ls) (i:=C6 g) e9
 have nK:=eY (rfl:s5 bP.abs a.ai.ls=s5 bP.abs a.ai.ls) bD
 refine I4 (v:= .pointer (some ⟨ab a.ai.A,ao a.ai.A+(C6 g) *1,none⟩)) 15 rfl e7 (λ _=>Iz (wE) rfl rfl ((gp.rds (i:=4) rfl).addr (i:=C6 g) e6) e6) ?_
 have jD:=gp.pf [6]
 have jE:=J5 (f:=bP.own) (i:=C6 g) (row bC.A bC.ls.length bC.c (q4 af.cells bC.ls) 149 3) (sepL (q4 af.own bC.ls)) rfl bD jD
 have jG:=jE.px [] [0,1] []
 have jH:=jG.pf [27,28]
 have jI:=Jc (aA aO).symm jH
 have jK:=Je (f:=bP.own) (y:=(G3 n p J)) bD jI
 have jL:=jK.pf [5]
 refine qe 16 rfl (Do.storeRow (vs:= [.slice n Y.length p]) (o:=(C6 g) *1+0) (q:=ao a.ai.A+(C6 g) *1) jL rfl e6 rfl Tryz.sizeOf40 rfl rfl (Lj rfl) (ja rC bD (Lj rfl)) (jJ (x:=bC) (f:=0) (vs:= [.slice n Y.length p]) (y:=(G3 n p J)) rC (show put ((I9 (β:=af)) bC) 0 ([.slice n Y.length p]:List Value)=(I9 (β:=af)) (G3 n p J) from congrArg (λ z9=>([.slice n z9 p]:List Value)) (aA aO).symm) (Lj rfl) bD) ?_)
 intro qZ jM
 have nL:s0 (I3 a.ai.ls (C6 g) (G3 n p J))=s0 (I3 (s5 bP.abs a.ai.ls) (C6 g) (E0 Y)):=aA (jl (rfl:s5 bP.abs a.ai.ls=s5 bP.abs a.ai.ls) (congrArg E0 aO))
 have nM:s0 (I3 (s5 bP.abs a.ai.ls) (C6 g) (E0 Y))=s0 (s5 bP.abs a.ai.ls):=G4
 refine⟨.inl e7, ?_⟩
 refine qn (Iq (Ik ?_))
 have gq:=jM.px [] [3] []
 refine Il (Mz rfl (Kz (.pointer (some ⟨ab d,ao d+(C6 h) *9,none⟩)) (Kz (.pointer (some ⟨ab d,ao d+(C6 h) *9+6,none⟩)) (fw (.slice a.bL.A a.bL.ls.length a.bL.c) (IB rfl (bJ.one Q9 (((gq.rds (i:=15) rfl).elem bK.len j f2).at_ (k:=6) rfl))) ?_))))
 have nN:a.bL.ls.length=s0 (I3 a.bL.ls (C6 g) true):=f1
 obtain⟨dV,cz⟩:∃ q,mI (I3 a.bL.ls (C6 g) true) false=q:=⟨_,rfl⟩
 obtain⟨rf,iE,nO,iF,iH⟩:=Iu gq
 refine cl Tryz.call93 (rq _ _ a.bL.A a.bL.ls.length a.bL.c (I3 a.bL.ls (C6 g) true) false dV iE (iH _ 2 _ rfl aW) f1 g3 cz) ?_
 rintro _ dm ⟨rfl,iI⟩
 have gu:=iF _ _ iI
 refine Kz (.bool (!dV)) (nt ?_)
 rcases Ls (dV) with bS | bS
 refine jF (cn bS) (IU (IL (res0 rfl) ?_))
 have jO:=gu.pf [2]
 have jP:=IX (y:=row a.bL.A (s0 (I3 a.bL.ls (C6 g) true)) a.bL.c (q4 eL (I3 a.bL.ls (C6 g) true)) 4 1) (congrArg (λ z9=>row a.bL.A z9 a.bL.c (q4 eL (I3 a.bL.ls (C6 g) true)) 4 1) (by simp only [G4]:a.bL.ls.length=s0 (I3 a.bL.ls (C6 g) true))) jO
 have jQ:=jP.pf [1]
 have jS:=IX (y:=row a.ai.A (s0 (I3 a.ai.ls (C6 g) (G3 n p J))) a.ai.c (q4 (I9 (β:=af)) (I3 a.ai.ls (C6 g) (G3 n p J))) 40 1) (congrArg (λ z9=>row a.ai.A z9 a.ai.c (q4 (I9 (β:=af)) (I3 a.ai.ls (C6 g) (G3 n p J))) 40 1) (by simp only [G4]:a.ai.ls.length=s0 (I3 a.ai.ls (C6 g) (G3 n p J)))) jQ
 have jU:=jS.pf [3,4,1,0,5]
 have jV:=Je (f:=bK.own) (y:=(bK.mk a.bI a.bf a.bi a.fE a.cB a.aO (G3 a.bL.A a.bL.c (I3 a.bL.ls (C6 g) true)) (G3 a.ai.A a.ai.c (I3 a.ai.ls (C6 g) (G3 n p J))) a.iI)) j jU
 have jW:Own w D dm [sepL (q4 bK.own (I3 l (C6 h) (bK.mk a.bI a.bf a.bi a.fE a.cB a.aO (G3 a.bL.A a.bL.c (I3 a.bL.ls (C6 g) true)) (G3 a.ai.A a.ai.c (I3 a.ai.ls (C6 g) (G3 n p J))) a.iI))),blk g0 [vP X 0, .slice ag p0.bF.ls.length ah] 98,row ag p0.bF.ls.length ah (q4 bz.cells aa) 42 21,sepL (q4 bz.own aa),mK X b aG b.aa.ag.ls.length aI r s t u d m K L M N O P Q R S T,row r b.aa.ak.ls.length s (q4 ay.cells z) 60 5,sepL (q4 ay.own z),row t b.aa.aK.ls.length u (q4 aS.cells B) 56 4,sepL (q4 aS.own B),row d b.aC.ls.length m (q4 bK.cells (I3 l (C6 h) (bK.mk a.bI a.bf a.bi a.fE a.cB a.aO (G3 a.bL.A a.bL.c (I3 a.bL.ls (C6 g) true)) (G3 a.ai.A a.ai.c (I3 a.ai.ls (C6 g) (G3 n p J))) a.iI))) 107 9,row K b.bM.ai.ls.length L (q4 af.cells C) 149 3,sepL (q4 af.own C),row M b.bD.ai.ls.length N (q4 af.cells E) 149 3,sepL (q4 af.own E),row O b.bA.ai.ls.length P (q4 af.cells F) 149 3,sepL (q4 af.own F),row Q b.bC.ai.ls.length R (q4 af.cells G) 149 3,sepL (q4 af.own G),row S b.bB.ai.ls.length T (q4 af.cells I) 149 3,sepL (q4 af.own I)]:=by rw [yT (f:=bK.cells) (y:=(bK.mk a.bI a.bf a.bi a.fE a.cB a.aO (G3 a.bL.A a.bL.c (I3 a.bL.ls (C6 g) true)) (G3 a.ai.A a.ai.c (I3 a.ai.ls (C6 g) (G3 n p J))) a.iI)) j (by simp only [bK.cells,G4])]; exact jV
 have nP:s0 (I3 l (C6 h) (bK.mk a.bI a.bf a.bi a.fE a.cB a.aO (G3 a.bL.A a.bL.c (I3 a.bL.ls (C6 g) true)) (G3 a.ai.A a.ai.c (I3 a.ai.ls (C6 g) (G3 n p J))) a.iI))=s0 (I3 b.aC.ls (C6 h) (ed.mk a.bI a.bf a.bi a.fE (E0 a.cB.ls) (E0 (s5 bO.abs a.aO.ls)) (E0 (I3 a.bL.ls (C6 g) true)) (E0 (I3 (s5 bP.abs a.ai.ls) (C6 g) (E0 Y))) a.iI)):=aA (jl U (congrArg (λ z0=>(ed.mk a.bI a.bf a.bi a.fE (E0 a.cB.ls) (E0 (s5 bO.abs a.aO.ls)) (E0 (I3 a.bL.ls (C6 g) true)) (E0 z0) a.iI)) (jl (rfl:s5 bP.abs a.ai.ls=s5 bP.abs a.ai.ls) (congrArg E0 aO))))
 have nQ:s0 (I3 b.aC.ls (C6 h) (ed.mk a.bI a.bf a.bi a.fE (E0 a.cB.ls) (E0 (s5 bO.abs a.aO.ls)) (E0 (I3 a.bL.ls (C6 g) true)) (E0 (I3 (s5 bP.abs a.ai.ls) (C6 g) (E0 Y))) a.iI))=b.aC.ls.length:=G4
 have cB:b.aC.ls.length=s0 (I3 b.aC.ls (C6 h) (ed.mk a.bI a.bf a.bi a.fE (E0 a.cB.ls) (E0 (s5 bO.abs a.aO.ls)) (E0 (I3 a.bL.ls (C6 g) true)) (E0 (I3 (s5 bP.abs a.ai.ls) (C6 g) (E0 Y))) a.iI)):=by first | omega | (simp only [G4]; done) | (simp only [G4,o2,s1,E7,o0,o1,H0]; omega)
 have jX:Own w D dm [sepL (q4 bK.own (I3 l (C6 h) (bK.mk a.bI a.bf a.bi a.fE a.cB a.aO (G3 a.bL.A a.bL.c (I3 a.bL.ls (C6 g) true)) (G3 a.ai.A a.ai.c (I3 a.ai.ls (C6 g) (G3 n p J))) a.iI))),blk g0 [vP X 0, .slice ag p0.bF.ls.length ah] 98,row ag p0.bF.ls.length ah (q4 bz.cells aa) 42 21,sepL (q4 bz.own aa),blk X [vI b.aa.au,vU b.aa.ax,vU b.aa.bG,vU b.aa.aF, .slice aG b.aa.ag.ls.length aI, .slice r b.aa.ak.ls.length s, .slice t b.aa.aK.ls.length u,vU b.bT, .slice d (s0 (I3 b.aC.ls (C6 h) (ed.mk a.bI a.bf a.bi a.fE (E0 a.cB.ls) (E0 (s5 bO.abs a.aO.ls)) (E0 (I3 a.bL.ls (C6 g) true)) (E0 (I3 (s5 bP.abs a.ai.ls) (C6 g) (E0 Y))) a.iI))) m, .bool b.bM.dB,vU b.bM.bi,vI b.bM.dP, .slice K b.bM.ai.ls.length L, .bool b.bD.dB,vU b.bD.bi,vI b.bD.dP, .slice M b.bD.ai.ls.length N, .bool b.bA.dB,vU b.bA.bi,vI b.bA.dP, .slice O b.bA.ai.ls.length P, .bool b.bC.dB,vU b.bC.bi,vI b.bC.dP, .slice Q b.bC.ai.ls.length R, .bool b.bB.dB,vU b.bB.bi,vI b.bB.dP, .slice S b.bB.ai.ls.length T,vU b.dO,vU b.dG,vU b.dH,vU b.dD,vU b.dE, .pointer none] 86,row r b.aa.ak.ls.length s (q4 ay.cells z) 60 5,sepL (q4 ay.own z),row t b.aa.aK.ls.length u (q4 aS.cells B) 56 4,sepL (q4 aS.own B),row d (s0 (I3 b.aC.ls (C6 h) (ed.mk a.bI a.bf a.bi a.fE (E0 a.cB.ls) (E0 (s5 bO.abs a.aO.ls)) (E0 (I3 a.bL.ls (C6 g) true)) (E0 (I3 (s5 bP.abs a.ai.ls) (C6 g) (E0 Y))) a.iI))) m (q4 bK.cells (I3 l (C6 h) (bK.mk a.bI a.bf a.bi a.fE a.cB a.aO (G3 a.bL.A a.bL.c (I3 a.bL.ls (C6 g) true)) (G3 a.ai.A a.ai.c (I3 a.ai.ls (C6 g) (G3 n p J))) a.iI))) 107 9,row K b.bM.ai.ls.length L (q4 af.cells C) 149 3,sepL (q4 af.own C),row M b.bD.ai.ls.length N (q4 af.cells E) 149 3,sepL (q4 af.own E),row O b.bA.ai.ls.length P (q4 af.cells F) 149 3,sepL (q4 af.own F),row Q b.bC.ai.ls.length R (q4 af.cells G) 149 3,sepL (q4 af.own G),row S b.bB.ai.ls.length T (q4 af.cells I) 149 3,sepL (q4 af.own I)]:=by rw [<- cB]; exact jW
 have jY:=jX.pf [1,2,3,4,5,6,7,8,9]
 obtain⟨rfl,rfl⟩:=fD (zj hr (show _=(p0,aD.mk b.aa b.bT (E0 (I3 b.aC.ls (C6 h) (ed.mk a.bI a.bf a.bi a.fE (E0 a.cB.ls) (E0 (s5 bO.abs a.aO.ls)) (E0 (I3 a.bL.ls (C6 g) true)) (E0 (I3 (s5 bP.abs a.ai.ls) (C6 g) (E0 Y))) a.iI))) b.bM b.bD b.bA b.bC b.bB b.dO b.dG b.dH b.dD b.dE) from et (ae aV) (et (ip bg) (et (ae (aT bA)) (et (ae bB) (et (iN aJ) (et (ae (aT aX)) (et (fP bQ) (et (ip V) (et (ae (aT dR)) (et (ip dS) (et (ae bH) (et (ae cz) (ip bS))))))))))))))
 exact⟨ag,ah,aa,r,s,z,t,u,B,d,m,(I3 l (C6 h) (bK.mk a.bI a.bf a.bi a.fE a.cB a.aO (G3 a.bL.A a.bL.c (I3 a.bL.ls (C6 g) true)) (G3 a.ai.A a.ai.c (I3 a.ai.ls (C6 g) (G3 n p J))) a.iI)),K,L,C,M,N,E,O,P,F,Q,R,G,S,T,I,(by first | rfl | (rw [<- cB]; done) | (rw [<- cB]; rfl)),jY,aK,ai,aj,(jl U (congrArg (λ z0=>(ed.mk a.bI a.bf a.bi a.fE (E0 a.cB.ls) (E0 (s5 bO.abs a.aO.ls)) (E0 (I3 a.bL.ls (C6 g) true)) (E0 z0) a.iI)) (jl (rfl:s5 bP.abs a.ai.ls=s5 bP.abs a.ai.ls) (congrArg E0 aO)))),ak,au,av,ax,aB⟩
 refine jT (cn bS) (Il ?_)
 have jZ:=gu.pf [2]
 have j3:=IX (y:=row a.bL.A (s0 (I3 a.bL.ls (C6 g) true)) a.bL.c (q4 eL (I3 a.bL.ls (C6 g) true)) 4 1) (congrArg (λ z9=>row a.bL.A z9 a.bL.c (q4 eL (I3 a.bL.ls (C6 g) true)) 4 1) (by simp only [G4]:a.bL.ls.length=s0 (I3 a.bL.ls (C6 g) true))) jZ
 have j4:=j3.pf [1]
 have j5:=IX (y:=row a.ai.A (s0 (I3 a.ai.ls (C6 g) (G3 n p J))) a.ai.c (q4 (I9 (β:=af)) (I3 a.ai.ls (C6 g) (G3 n p J))) 40 1) (congrArg (λ z9=>row a.ai.A z9 a.ai.c (q4 (I9 (β:=af)) (I3 a.ai.ls (C6 g) (G3 n p J))) 40 1) (by simp only [G4]:a.ai.ls.length=s0 (I3 a.ai.ls (C6 g) (G3 n p J)))) j4
 have j6:=j5.pf [3,4,1,0,5]
 have kg:=Je (f:=bK.own) (y:=(bK.mk a.bI a.bf a.bi a.fE a.cB a.aO (G3 a.bL.A a.bL.c (I3 a.bL.ls (C6 g) true)) (G3 a.ai.A a.ai.c (I3 a.ai.ls (C6 g) (G3 n p J))) a.iI)) j j6
 have ko:Own w D dm [sepL (q4 bK.own (I3 l (C6 h) (bK.mk a.bI a.bf a.bi a.fE a.cB a.aO (G3 a.bL.A a.bL.c (I3 a.bL.ls (C6 g) true)) (G3 a.ai.A a.ai.c (I3 a.ai.ls (C6 g) (G3 n p J))) a.iI))),blk g0 [vP X 0, .slice ag p0.bF.ls.length ah] 98,row ag p0.bF.ls.length ah (q4 bz.cells aa) 42 21,sepL (q4 bz.own aa),mK X b aG b.aa.ag.ls.length aI r s t u d m K L M N O P Q R S T,row r b.aa.ak.ls.length s (q4 ay.cells z) 60 5,sepL (q4 ay.own z),row t b.aa.aK.ls.length u (q4 aS.cells B) 56 4,sepL (q4 aS.own B),row d b.aC.ls.length m (q4 bK.cells (I3 l (C6 h) (bK.mk a.bI a.bf a.bi a.fE a.cB a.aO (G3 a.bL.A a.bL.c (I3 a.bL.ls (C6 g) true)) (G3 a.ai.A a.ai.c (I3 a.ai.ls (C6 g) (G3 n p J))) a.iI))) 107 9,row K b.bM.ai.ls.length L (q4 af.cells C) 149 3,sepL (q4 af.own C),row M b.bD.ai.ls.length N (q4 af.cells E) 149 3,sepL (q4 af.own E),row O b.bA.ai.ls.length P (q4 af.cells F) 149 3,sepL (q4 af.own F),row Q b.bC.ai.ls.length R (q4 af.cells G) 149 3,sepL (q4 af.own G),row S b.bB.ai.ls.length T (q4 af.cells I) 149 3,sepL (q4 af.own I)]:=by rw [yT (f:=bK.cells) (y:=(bK.mk a.bI a.bf a.bi a.fE a.cB a.aO (G3 a.bL.A a.bL.c (I3 a.bL.ls (C6 g) true)) (G3 a.ai.A a.ai.c (I3 a.ai.ls (C6 g) (G3 n p J))) a.iI)) j (by simp only [bK.cells,G4])]; exact kg
 have nR:s0 (I3 l (C6 h) (bK.mk a.bI a.bf a.bi a.fE a.cB a.aO (G3 a.bL.A a.bL.c (I3 a.bL.ls (C6 g) true)) (G3 a.ai.A a.ai.c (I3 a.ai.ls (C6 g) (G3 n p J))) a.iI))=s0 (I3 b.aC.ls (C6 h) (ed.mk a.bI a.bf a.bi a.fE (E0 a.cB.ls) (E0 (s5 bO.abs a.aO.ls)) (E0 (I3 a.bL.ls (C6 g) true)) (E0 (I3 (s5 bP.abs a.ai.ls) (C6 g) (E0 Y))) a.iI)):=aA (jl U (congrArg (λ z0=>(ed.mk a.bI a.bf a.bi a.fE (E0 a.cB.ls) (E0 (s5 bO.abs a.aO.ls)) (E0 (I3 a.bL.ls (C6 g) true)) (E0 z0) a.iI)) (jl (rfl:s5 bP.abs a.ai.ls=s5 bP.abs a.ai.ls) (congrArg E0 aO))))
 have nS:s0 (I3 b.aC.ls (C6 h) (ed.mk a.bI a.bf a.bi a.fE (E0 a.cB.ls) (E0 (s5 bO.abs a.aO.ls)) (E0 (I3 a.bL.ls (C6 g) true)) (E0 (I3 (s5 bP.abs a.ai.ls) (C6 g) (E0 Y))) a.iI))=b.aC.ls.length:=G4
 refine Mz rfl (Mz rfl ?_)
 have cK:b.aC.ls.length=s0 (I3 b.aC.ls (C6 h) (ed.mk a.bI a.bf a.bi a.fE (E0 a.cB.ls) (E0 (s5 bO.abs a.aO.ls)) (E0 (I3 a.bL.ls (C6 g) true)) (E0 (I3 (s5 bP.abs a.ai.ls) (C6 g) (E0 Y))) a.iI)):=by first | omega | (simp only [G4]; done) | (simp only [G4,o2,s1,E7,o0,o1,H0]; omega)
 have kr:Own w D dm [sepL (q4 bK.own (I3 l (C6 h) (bK.mk a.bI a.bf a.bi a.fE a.cB a.aO (G3 a.bL.A a.bL.c (I3 a.bL.ls (C6 g) true)) (G3 a.ai.A a.ai.c (I3 a.ai.ls (C6 g) (G3 n p J))) a.iI))),blk g0 [vP X 0, .slice ag p0.bF.ls.length ah] 98,row ag p0.bF.ls.length ah (q4 bz.cells aa) 42 21,sepL (q4 bz.own aa),blk X [vI b.aa.au,vU b.aa.ax,vU b.aa.bG,vU b.aa.aF, .slice aG b.aa.ag.ls.length aI, .slice r b.aa.ak.ls.length s, .slice t b.aa.aK.ls.length u,vU b.bT, .slice d (s0 (I3 b.aC.ls (C6 h) (ed.mk a.bI a.bf a.bi a.fE (E0 a.cB.ls) (E0 (s5 bO.abs a.aO.ls)) (E0 (I3 a.bL.ls (C6 g) true)) (E0 (I3 (s5 bP.abs a.ai.ls) (C6 g) (E0 Y))) a.iI))) m, .bool b.bM.dB,vU b.bM.bi,vI b.bM.dP, .slice K b.bM.ai.ls.length L, .bool b.bD.dB,vU b.bD.bi,vI b.bD.dP, .slice M b.bD.ai.ls.length N, .bool b.bA.dB,vU b.bA.bi,vI b.bA.dP, .slice O b.bA.ai.ls.length P, .bool b.bC.dB,vU b.bC.bi,vI b.bC.dP, .slice Q b.bC.ai.ls.length R, .bool b.bB.dB,vU b.bB.bi,vI b.bB.dP, .slice S b.bB.ai.ls.length T,vU b.dO,vU b.dG,vU b.dH,vU b.dD,vU b.dE, .pointer none] 86,row r b.aa.ak.ls.length s (q4 ay.cells z) 60 5,sepL (q4 ay.own z),row t b.aa.aK.ls.length u (q4 aS.cells B) 56 4,sepL (q4 aS.own B),row d (s0 (I3 b.aC.ls (C6 h) (ed.mk a.bI a.bf a.bi a.fE (E0 a.cB.ls) (E0 (s5 bO.abs a.aO.ls)) (E0 (I3 a.bL.ls (C6 g) true)) (E0 (I3 (s5 bP.abs a.ai.ls) (C6 g) (E0 Y))) a.iI))) m (q4 bK.cells (I3 l (C6 h) (bK.mk a.bI a.bf a.bi a.fE a.cB a.aO (G3 a.bL.A a.bL.c (I3 a.bL.ls (C6 g) true)) (G3 a.ai.A a.ai.c (I3 a.ai.ls (C6 g) (G3 n p J))) a.iI))) 107 9,row K b.bM.ai.ls.length L (q4 af.cells C) 149 3,sepL (q4 af.own C),row M b.bD.ai.ls.length N (q4 af.cells E) 149 3,sepL (q4 af.own E),row O b.bA.ai.ls.length P (q4 af.cells F) 149 3,sepL (q4 af.own F),row Q b.bC.ai.ls.length R (q4 af.cells G) 149 3,sepL (q4 af.own G),row S b.bB.ai.ls.length T (q4 af.cells I) 149 3,sepL (q4 af.own I)]:=by rw [<- cK]; exact ko
 have ku:=kr.pf [1,2,3,4,5,6,7,8,9]
 obtain⟨⟨gy,Z⟩,dW⟩:∃ q:bU × aD,lC p0 h (aD.mk b.aa b.bT (E0 (I3 b.aC.ls (C6 h) (ed.mk a.bI a.bf a.bi a.fE (E0 a.cB.ls) (E0 (s5 bO.abs a.aO.ls)) (E0 (I3 a.bL.ls (C6 g) true)) (E0 (I3 (s5 bP.abs a.ai.ls) (C6 g) (E0 Y))) a.iI))) b.bM b.bD b.bA b.bC b.bB b.dO b.dG b.dH b.dD b.dE)=q:=⟨_,rfl⟩
 obtain⟨ru,iJ,nT,iK,nU⟩:=JU ku
 refine cl Tryz.call94 (uW _ _ g0 p0 ag ah aa h X (aD.mk b.aa b.bT (E0 (I3 b.aC.ls (C6 h) (ed.mk a.bI a.bf a.bi a.fE (E0 a.cB.ls) (E0 (s5 bO.abs a.aO.ls)) (E0 (I3 a.bL.ls (C6 g) true)) (E0 (I3 (s5 bP.abs a.ai.ls) (C6 g) (E0 Y))) a.iI))) b.bM b.bD b.bA b.bC b.bB b.dO b.dG b.dH b.dD b.dE) aG aI r s z t u B d m (I3 l (C6 h) (bK.mk a.bI a.bf a.bi a.fE a.cB a.aO (G3 a.bL.A a.bL.c (I3 a.bL.ls (C6 g) true)) (G3 a.ai.A a.ai.c (I3 a.ai.ls (C6 g) (G3 n p J))) a.iI)) K L C M N E O P F Q R G S T I gy Z iJ aK ai aj (jl U (congrArg (λ z0=>(ed.mk a.bI a.bf a.bi a.fE (E0 a.cB.ls) (E0 (s5 bO.abs a.aO.ls)) (E0 (I3 a.bL.ls (C6 g) true)) (E0 z0) a.iI)) (jl (rfl:s5 bP.abs a.ai.ls=s5 bP.abs a.ai.ls) (congrArg E0 aO)))) ak au av ax aB e8 (by first | assumption | exact Mk.act f5 | exact qN g5 (q8 (x:=bK.abs a) aL f5) | exact qN g5 (wJ (x:=bK.abs a) aL _)) e8 dW) ?_
 rintro _ ry ⟨kv,kw,ky,kz,kC,kD,kE,kF,kG,kH,kI,kJ,kK,kL,kM,kN,kP,kQ,kR,kS,kT,kU,kV,kW,kX,kY,kZ,rfl,iL,dX,dY,dZ,ek,eu,eB,eD,eF,eG⟩
 have aP:=iK _ _ iL
 have nV:=aA dX
 have nW:=aA dY
 have nX:=aA dZ
 have nY:=aA ek
 have og:=aA eu
 have oh:=aA eB
 have ol:=aA eD
 have om:=aA eF
 have oo:=aA eG
 have oq:=zr 1 aP
 have ou:=zr 4 aP
 have ow:=zr 6 aP
 have oz:=zr 8 aP
 have oC:=zr 10 aP
 have oD:=zr 12 aP
 have oF:=zr 14 aP
 have oG:=zr 16 aP
 have oH:=zr 18 aP
 refine WL.nil (IL (res0 rfl) ?_)
 have lc:=aP.pf []
 obtain⟨rfl,rfl⟩:=fD (zj hr (show _=(gy,aD.mk (bZ.mk Z.aa.au Z.aa.ax Z.aa.bG Z.aa.aF (E0 b.aa.ag.ls) (E0 Z.aa.ak.ls) (E0 Z.aa.aK.ls)) Z.bT (E0 Z.aC.ls) Z.bM Z.bD Z.bA Z.bC Z.bB Z.dO Z.dG Z.dH Z.dD Z.dE) from et (ae aV) (et (ip bg) (et (ae (aT bA)) (et (ae bB) (et (iN aJ) (et (ae (aT aX)) (et (fP bQ) (et (ip V) (et (ae (aT dR)) (et (ip dS) (et (ae bH) (et (ae cz) (et (fP bS) (ae dW)))))))))))))))
 exact⟨kv,kw,ky,kz,kC,kD,kE,kF,kG,kH,kI,kJ,kK,kL,kM,kN,kP,kQ,kR,kS,kT,kU,kV,kW,kX,kY,kZ,(by first | rfl | (rw [<- cK]; done) | (rw [<- cK]; rfl)),lc,dX,dY,dZ,ek,eu,eB,eD,eF,eG⟩
 refine jT (dT dS) (sr ?_)
 have lg:=iw.pf [1,2,3,4,5,6,7]
 have bT:=qX (f:=bK.own) j lg
 have oI:a.cB.ls.length<=a.cB.c/\a.cB.ls.length<=9223372036854775807:=bq bT (i:=0) rfl (φ:=λ _=>_) (az (Q6.2 ⟨a,D1 j,b1⟩) bn)
 have oJ:a.aO.ls.length<=a.aO.c/\a.aO.ls.length<=9223372036854775807:=bq bT (i:=0) rfl (φ:=λ _=>_) (az (Q6.2 ⟨a,D1 j, .tail _ b1⟩) bn)
 have oK:a.bL.ls.length<=a.bL.c/\a.bL.ls.length<=9223372036854775807:=bq bT (i:=0) rfl (φ:=λ _=>_) (az (Q6.2 ⟨a,D1 j, .tail _ b2⟩) bn)
 have oL:a.ai.ls.length<=a.ai.c/\a.ai.ls.length<=9223372036854775807:=bq bT (i:=0) rfl (φ:=λ _=>_) (az (Q6.2 ⟨a,D1 j, .tail _ b3⟩) bn)
 refine Mz rfl (Mz rfl ?_)
 have lh:=bT.px [2,3,4,5,10] [] [1,6,7,8,9]
 obtain⟨⟨gz,aC⟩,eH⟩:∃ q:bU × aD,iy p0 h b=q:=⟨_,rfl⟩
 obtain⟨rz,iM,oM,iO,oN⟩:=JH lh
 refine cl Tryz.call63 (oQ _ _ g0 p0 ag ah aa h X b aG aI r s t u d m l K L C M N E O P F Q R G S T I gz aC iM aK U ak au av ax aB e8 (by first | assumption | exact Mk.act f5 | exact qN g5 (q8 (x:=bK.abs a) aL f5) | exact qN g5 (wJ (x:=bK.abs a) aL _)) e8 eH) ?_
 rintro _ rA ⟨ll,lm,lu,lv,lw,lD,lF,lG,lI,lJ,lK,lL,lM,lN,lQ,lS,lT,lU,lV,lW,lX,rfl,iP,eO,eP,eQ,eT,eU,eX,eZ⟩
 have aZ:=iO _ _ iP
 have oO:=aA eO
 have oP:=aA eP
 have oU:=aA eQ
 have oW:=aA eT
 have oZ:=aA eU
 have o5:=aA eX
 have o6:=aA eZ
 have o7:=zr 1 aZ
 have o8:=zr 4 aZ
 have o9:=zr 6 aZ
 have pg:=zr 8 aZ
 have pq:=zr 10 aZ
 have pu:=zr 12 aZ
 have pz:=zr 14 aZ
 refine nt (rt (tR (Fin.res (res0 rfl) ?_)))
 have lY:=aZ.px [0,1,2,3,17,18,19,20] [16] []
 obtain⟨rfl,rfl⟩:=fD (zj hr (show _=(gz,aD.mk (bZ.mk aC.aa.au aC.aa.ax aC.aa.bG aC.aa.aF (E0 b.aa.ag.ls) (E0 b.aa.ak.ls) (E0 b.aa.aK.ls)) aC.bT (E0 aC.aC.ls) aC.bM aC.bD aC.bA aC.bC aC.bB aC.dO aC.dG aC.dH aC.dD aC.dE) from et (ae aV) (et (ip bg) (et (ae (aT bA)) (et (ae bB) (et (iN aJ) (et (ae (aT aX)) (et (fP bQ) (et (ip V) (et (ae (aT dR)) (et (iN dS) (ae eH))))))))))))
 exact⟨ll,lm,lu,r,s,z,t,u,B,lv,lw,lD,lF,lG,lI,lJ,lK,lL,lM,lN,lQ,lS,lT,lU,lV,lW,lX,rfl,lY,eO,ai,aj,eP,eQ,eT,eU,eX,eZ⟩
 refine Ip (rs:= []) 4 rfl rfl rfl (dT V) e7 (Ip (rs:= []) 5 rfl rfl rfl (dT V) e7 (Ip (rs:= []) 6 rfl rfl rfl (dT V) e7 (Ip (rs:= []) 7 rfl rfl rfl (dT V) e7 (Ip (rs:= []) 8 rfl rfl rfl (dT V) e7 (Ip (rs:= []) 9 rfl rfl rfl (dT V) e7 (Ip (rs:= []) 10 rfl rfl rfl (dT V) e7 (Ip (rs:= []) 11 rfl rfl rfl (dT V) e7 (Ip (rs:= []) 12 rfl rfl rfl (dT V) e7 (Ip (rs:= []) 13 rfl rfl rfl (dT V) e7 (Ip (rs:= []) 14 rfl rfl rfl (dT V) e7 (Ip (rs:= []) 15 rfl rfl rfl (dT V) e7 (Ip (rs:= []) 16 rfl rfl rfl (dT V) e7 (qt (v:= .bool true) 17 rfl (λ _ _=>Iw rfl (dT V) rfl) (qn (Iq (jt (sr ?_)))))))))))))))))
 have lZ:=iw.pf [1,2,3,4,5,6,7]
 have bV:=qX (f:=bK.own) j lZ
 have pE:a.cB.ls.length<=a.cB.c/\a.cB.ls.length<=9223372036854775807:=bq bV (i:=0) rfl (φ:=λ _=>_) (az (Q6.2 ⟨a,D1 j,b1⟩) bn)
 have pF:a.aO.ls.length<=a.aO.c/\a.aO.ls.length<=9223372036854775807:=bq bV (i:=0) rfl (φ:=λ _=>_) (az (Q6.2 ⟨a,D1 j, .tail _ b1⟩) bn)
 have pG:a.bL.ls.length<=a.bL.c/\a.bL.ls.length<=9223372036854775807:=bq bV (i:=0) rfl (φ:=λ _=>_) (az (Q6.2 ⟨a,D1 j, .tail _ b2⟩) bn)
 have pI:a.ai.ls.length<=a.ai.c/\a.ai.ls.length<=9223372036854775807:=bq bV (i:=0) rfl (φ:=λ _=>_) (az (Q6.2 ⟨a,D1 j, .tail _ b3⟩) bn)
 refine Mz rfl (Mz rfl ?_)
 have l5:=bV.px [2,3,4,5,10] [] [1,6,7,8,9]
 obtain⟨⟨gB,aF⟩,fe⟩:∃ q:bU × aD,iy p0 h b=q:=⟨_,rfl⟩
 obtain⟨rD,iQ,pJ,iR,pK⟩:=JH l5
 refine cl Tryz.call63 (oQ _ _ g0 p0 ag ah aa h X b aG aI r s t u d m l K L C M N E O P F Q R G S T I gB aF iQ aK U ak au av ax aB e8 (by first | assumption | exact Mk.act f5 | exact qN g5 (q8 (x:=bK.abs a) aL f5) | exact qN g5 (wJ (x:=bK.abs a) aL _)) e8 fe) ?_
 rintro _ rE ⟨l6,l7,l9,ma,mf,mg,mh,mi,mo,mq,mr,mD,mE,mF,mG,mH,mJ,mM,mO,mP,mQ,rfl,iU,fo,fq,fu,fA,fB,fC,fE⟩
 have bf:=iR _ _ iU
 have pM:=aA fo
 have pO:=aA fq
 have pQ:=aA fu
 have pR:=aA fA
 have pU:=aA fB
 have pW:=aA fC
 have pX:=aA fE
 have pY:=zr 1 bf
 have p8:=zr 4 bf
 have p9:=zr 6 bf
 have qb:=zr 8 bf
 have qc:=zr 10 bf
 have qf:=zr 12 bf
 have qg:=zr 14 bf
 refine nt (rt (tR (Fin.res (res0 rfl) ?_)))
 have mR:=bf.px [0,1,2,3,17,18,19,20] [16] []
 obtain⟨rfl,rfl⟩:=fD (zj hr (show _=(gB,aD.mk (bZ.mk aF.aa.au aF.aa.ax aF.aa.bG aF.aa.aF (E0 b.aa.ag.ls) (E0 b.aa.ak.ls) (E0 b.aa.aK.ls)) aF.bT (E0 aF.aC.ls) aF.bM aF.bD aF.bA aF.bC aF.bB aF.dO aF.dG aF.dH aF.dD aF.dE) from et (ae aV) (et (ip bg) (et (ae (aT bA)) (et (ae bB) (et (iN aJ) (et (ae (aT aX)) (et (fP bQ) (et (iN V) (ae fe))))))))))
 exact⟨l6,l7,l9,r,s,z,t,u,B,ma,mf,mg,mh,mi,mo,mq,mr,mD,mE,mF,mG,mH,mJ,mM,mO,mP,mQ,rfl,mR,fo,ai,aj,fq,fu,fA,fB,fC,fE⟩
 have h39t:Bool.toNat bN=0:=by rw [bg]; rfl
 refine jT (cn bg) (rt (tR (Fin.res (res0 rfl) ?_)))
 have mU:=bv.px [] [0] []
 obtain⟨rfl,rfl⟩:=fD (zj hr zq2)
 exact⟨ag,ah,aa,r,s,z,t,u,B,d,m,l,K,L,C,M,N,E,O,P,F,Q,R,G,S,T,I,rfl,mU,aK,ai,aj,U,ak,au,av,ax,aB⟩
end
open List renaming map_replicate->L9,replicate->r7
open _root_.Go.Proofs.Tryz renaming call106->R7,isAgg39->R6
section
open Go.RowKit
def gD (l:Int) (k:bW) (a:aD) (e:Nat) (d:List fu):List fu->Nat->List bW->(List bW)
  | [],b,c=>c
  | f::g,b,c=>bnd (List.getD (r7 d.length false) b default) λ h=>if h=true then gD l k a e d g (b+1) c else bnd (gQ (aD.mk a.aa (C6 (C7.wrap ((a.bT:Int)+1))) (E0 (a.aC.ls++ [(ed.mk e l k.aU a.aa.aF (E0 k.aB.ls) (E0 d) (E0 (r7 d.length false)) (E0 (r7 d.length (E0 []:Ll aQ))) 0)])) a.bM a.bD a.bA a.bC a.bB a.dO a.dG a.dH a.dD a.dE)) λ i=>bnd (dM (bU.mk (E0 c)) (bW.mk 3 0 f.bE 0 0 0 0 0 e i 0 a.aa.aF 0 0 0 false (aL.mk [] []) (E0 f.aB.ls) (E0 []) (E0 []))) λ j=>gD l k a e d g (b+1) j.bF.ls
def dS (j:bU) (i:Int) (h:bW) (a:aD):bU × aD:=
 bnd (gu a) λ g=>bnd (gQ a) λ k=>bnd (ko a.aa.ag.ls h.aB.ls) λ f=>if(a.aC.ls.length:Int) >= 6 then bnd (dL j i h.aU 2 [] (aD.mk a.aa (C6 (C7.wrap ((a.bT:Int)+1))) (E0 a.aC.ls) a.bM a.bD a.bA a.bC a.bB a.dO a.dG a.dH a.dD a.dE)) λ e=>(e.1,aD.mk (bZ.mk e.2.aa.au e.2.aa.ax e.2.aa.bG e.2.aa.aF (E0 a.aa.ag.ls) (E0 a.aa.ak.ls) (E0 a.aa.aK.ls)) e.2.bT (E0 a.aC.ls) e.2.bM e.2.bD e.2.bA e.2.bC e.2.bB e.2.dO e.2.dG e.2.dH e.2.dD e.2.dE) else if((a.aC.ls.length+a.aa.ak.ls.length:Nat):Int) >= 8 then bnd (dL j i h.aU 2 [] (aD.mk a.aa (C6 (C7.wrap ((a.bT:Int)+1))) (E0 a.aC.ls) a.bM a.bD a.bA a.bC a.bB a.dO a.dG a.dH a.dD a.dE)) λ b=>(b.1,aD.mk (bZ.mk b.2.aa.au b.2.aa.ax b.2.aa.bG b.2.aa.aF (E0 a.aa.ag.ls) (E0 a.aa.ak.ls) (E0 a.aa.aK.ls)) b.2.bT (E0 a.aC.ls) b.2.bM b.2.bD b.2.bA b.2.bC b.2.bB b.2.dO b.2.dG b.2.dH b.2.dD b.2.dE) else if((C6 (C7.wrap ((g:Int) - (k:Int))):Nat):Int) >= 64 then bnd (dL j i h.aU 2 [] (aD.mk a.aa (C6 (C7.wrap ((a.bT:Int)+1))) (E0 a.aC.ls) a.bM a.bD a.bA a.bC a.bB a.dO a.dG a.dH a.dD a.dE)) λ c=>(c.1,aD.mk (bZ.mk c.2.aa.au c.2.aa.ax c.2.aa.bG c.2.aa.aF (E0 a.aa.ag.ls) (E0 a.aa.ak.ls) (E0 a.aa.aK.ls)) c.2.bT (E0 a.aC.ls) c.2.bM c.2.bD c.2.bA c.2.bC c.2.bB c.2.dO c.2.dG c.2.dH c.2.dD c.2.dE) else if f.2=0 then bnd (gD i h a g f.1 f.1 0 j.bF.ls) λ sLrbbbffftL=>(bU.mk (E0 sLrbbbffftL),aD.mk a.aa (C6 (C7.wrap ((a.bT:Int)+1))) (E0 (a.aC.ls++ [(ed.mk g i h.aU a.aa.aF (E0 h.aB.ls) (E0 f.1) (E0 (r7 f.1.length false)) (E0 (r7 f.1.length (E0 []:Ll aQ))) 0)])) a.bM a.bD a.bA a.bC a.bB a.dO a.dG a.dH a.dD a.dE) else bnd (dL j i h.aU 2 [] (aD.mk a.aa (C6 (C7.wrap ((a.bT:Int)+1))) (E0 a.aC.ls) a.bM a.bD a.bA a.bC a.bB a.dO a.dG a.dH a.dD a.dE)) λ d=>(d.1,aD.mk (bZ.mk d.2.aa.au d.2.aa.ax d.2.aa.bG d.2.aa.aF (E0 a.aa.ag.ls) (E0 a.aa.ak.ls) (E0 a.aa.aK.ls)) d.2.bT (E0 a.aC.ls) d.2.bM d.2.bD d.2.bA d.2.bC d.2.bB d.2.dO d.2.dG d.2.dH d.2.dD d.2.dE)
theorem jr (w D g0) (p0:bU) (bL bM bG p1) (d:bW) (dC iV dD eQ iW eT eU eX iX eZ g) (a:aD) (n p r j N C E ah J G I O P ai Q S aj T U ak V W au X Y av) (r0:bU) (r1:aD) (H:Own w D w [blk g0 [.pointer (some ⟨g,0,none⟩), .slice bL p0.bF.ls.length bM] 98,row bL p0.bF.ls.length bM (q4 bz.cells bG) 42 21,sepL (q4 bz.own bG),mK g a n a.aa.ag.ls.length p r j C E J G O P Q S T U V W X Y,row n a.aa.ag.ls.length p (q4 aM.cells a.aa.ag.ls) 89 2,row r a.aa.ak.ls.length j (q4 ay.cells N) 60 5,sepL (q4 ay.own N),row C a.aa.aK.ls.length E (q4 aS.cells ah) 56 4,sepL (q4 aS.own ah),row J a.aC.ls.length G (q4 bK.cells I) 107 9,sepL (q4 bK.own I),row O a.bM.ai.ls.length P (q4 af.cells ai) 149 3,sepL (q4 af.own ai),row Q a.bD.ai.ls.length S (q4 af.cells aj) 149 3,sepL (q4 af.own aj),row T a.bA.ai.ls.length U (q4 af.cells ak) 149 3,sepL (q4 af.own ak),row V a.bC.ai.ls.length W (q4 af.cells au) 149 3,sepL (q4 af.own au),row X a.bB.ai.ls.length Y (q4 af.cells av) 149 3,sepL (q4 af.own av)]) (bF:s5 bz.abs bG=p0.bF.ls) (jm:iV=d.aB.ls.length) (fe:Ro w D λ w'=>aY w' 6 dC d.aB.ls.length (q4 aN.cells d.aB.ls)) (pX:d.aB.ls.length<=dD/\d.aB.ls.length<=9223372036854775807) (jo:s5 af.abs eU=d.ah.ls) (jq:iW=d.ah.ls.length) (pY:Ro w D λ w'=>aY w' 3 eQ d.ah.ls.length (q4 af.cells eU)) (p8:d.ah.ls.length<=eT/\d.ah.ls.length<=9223372036854775807) (p9:∀ x ∈ eU,Ro w D (λ w'=>aY w' 2 x.aj.A x.aj.ls.length (q4 aH.cells x.aj.ls))/\(x.aj.ls.length<=x.aj.c/\x.aj.ls.length<=9223372036854775807)) (jv:iX=d.ag.ls.length) (qb:Ro w D λ w'=>aY w' 2 eX d.ag.ls.length (q4 aM.cells d.ag.ls)) (qc:d.ag.ls.length<=eZ/\d.ag.ls.length<=9223372036854775807) (ax:s5 ay.abs N=a.aa.ak.ls) (aR:s5 aS.abs ah=a.aa.aK.ls) (Z:s5 bK.abs I=a.aC.ls) (aU:s5 af.abs ai=a.bM.ai.ls) (aV:s5 af.abs aj=a.bD.ai.ls) (aX:s5 af.abs ak=a.bA.ai.ls) (aZ:s5 af.abs au=a.bC.ai.ls) (bf:s5 af.abs av=a.bB.ai.ls) (uU:a.aa.ag.ls.length<=1000/\a.aa.ak.ls.length<=1000/\a.aa.aK.ls.length<=1000/\a.aC.ls.length<=1000/\p0.bF.ls.length<=100000) (uV:1<=p1/\p1<=4) (uW:d.aB.ls.length<=24/\d.ag.ls.length<=1000/\d.ah.ls.length<=1000/\jR d.aU) (hr:dS p0 p1 d a=(r0,r1)):
    Calls Tryz.prog 90 #[vP g0 0,vI p1, .agg (iA d.av d.aI d.eO d.aP d.dK d.fA d.aU d.ax d.aX d.eQ d.bG d.aF d.eG d.cZ d.xN d.fe d.cu.aJ d.cu.aR dC iV dD eQ iW eT eX iX eZ).toArray] w (dA λ v w'=> ∃ fo fq dI fA fC fE fF dJ fG fH dK fI fJ dN fK fM dO fO fQ dP fT fU dQ fV fZ dR gm gp dU,v= .tuple #[]/\Own w D w' [blk g0 [vP g 0, .slice fo r0.bF.ls.length fq] 98,row fo r0.bF.ls.length fq (q4 bz.cells dI) 42 21,sepL (q4 bz.own dI),mK g r1 fA r1.aa.ag.ls.length fC fE fF fG fH fI fJ fK fM fO fQ fT fU fV fZ gm gp,row fA r1.aa.ag.ls.length fC (q4 aM.cells r1.aa.ag.ls) 89 2,row fE r1.aa.ak.ls.length fF (q4 ay.cells dJ) 60 5,sepL (q4 ay.own dJ),row fG r1.aa.aK.ls.length fH (q4 aS.cells dK) 56 4,sepL (q4 aS.own dK),row fI r1.aC.ls.length fJ (q4 bK.cells dN) 107 9,sepL (q4 bK.own dN),row fK r1.bM.ai.ls.length fM (q4 af.cells dO) 149 3,sepL (q4 af.own dO),row fO r1.bD.ai.ls.length fQ (q4 af.cells dP) 149 3,sepL (q4 af.own dP),row fT r1.bA.ai.ls.length fU (q4 af.cells dQ) 149 3,sepL (q4 af.own dQ),row fV r1.bC.ai.ls.length fZ (q4 af.cells dR) 149 3,sepL (q4 af.own dR),row gm r1.bB.ai.ls.length gp (q4 af.cells dU) 149 3,sepL (q4 af.own dU)]/\(s5 bz.abs dI=r0.bF.ls)/\(s5 ay.abs dJ=r1.aa.ak.ls)/\(s5 aS.abs dK=r1.aa.aK.ls)/\(s5 bK.abs dN=r1.aC.ls)/\(s5 af.abs dO=r1.bM.ai.ls)/\(s5 af.abs dP=r1.bD.ai.ls)/\(s5 af.abs dQ=r1.bA.ai.ls)/\(s5 af.abs dR=r1.bC.ai.ls)/\(s5 af.abs dU=r1.bB.ai.ls)):=by
 unfold dS at hr
 subst jm jq jv
 have pU:=aA bF
 have pW:=aA jo
 have j4:=aA ax
 have j5:=aA aR
 have j6:=aA Z
 have kg:=aA aU
 have kr:=aA aV
 have ku:=aA aX
 have kv:=aA aZ
 have kw:=aA bf
 have qf:=zr 1 H
 have ky:=zr 4 H
 have kz:=zr 5 H
 have kC:=zr 7 H
 have kD:=zr 9 H
 have kE:=zr 11 H
 have kF:=zr 13 H
 have kG:=zr 15 H
 have kH:=zr 17 H
 have kI:=zr 19 H
 refine cb Tryz.func90 ?_
 refine sr ?_
 refine dn (gK d dC dD eQ eT eX eZ) 42 H ?_
 intro dV uX qg
 refine nt (Ik ?_)
 refine oV 22 [] (IE IQ) qg ?_
 intro uY qh
 refine qv 0 rfl rfl (qp g0 0 1 rfl (qp g0 0 2 rfl (ql 3 rfl 1 P6 rfl rfl rfl (qv 5 rfl rfl (qp g0 0 6 rfl (qp g0 0 7 rfl (ql 8 rfl 1 P6 rfl rfl rfl ?_)))))))
 have qi:=qh.pf [4]
 obtain⟨h,cz⟩:∃ q,gu a=q:=⟨_,rfl⟩
 obtain⟨uZ,kJ,tT,kK,tV⟩:=IZ qi
 refine qd 4 rfl (IP Tryz.call126 rfl (qy _ _ g a n p r j C E J G O P Q S T U V W X Y h kJ cz) ?_)
 rintro _ u6 ⟨rfl,kL,iY⟩
 have qj:=kK _ _ kL
 replace iY:h<=18446744073709551615:=iY
 have kM:=qj.pf [1,2,3,4]
 refine⟨.inr ⟨_,kM⟩, ?_⟩
 have bI:=kM.pf [4]
 have tX:=zr 6 bI
 have tY:=zr 10 bI
 obtain⟨dW,cB⟩:∃ q,gQ a=q:=⟨_,rfl⟩
 obtain⟨u7,kN,tZ,kP,bB⟩:=IZ bI
 refine qd 9 rfl (IP Tryz.call108 rfl (qO _ _ g a n p r j N C E J G I O P Q S T U V W X Y dW kN ax (bB _ 5 _ rfl aW) e6 (λ x9 h9=>⟨bB _ 6 _ rfl (az (Q6.2 ⟨x9,h9,b1⟩) aW),bq (φ:=λ _=>_) bI (i:=7) rfl (az (Q6.2 ⟨x9,h9,b1⟩) bn)⟩) Z (bB _ 9 _ rfl aW) e6 (λ x9 h9=>⟨bB _ 10 _ rfl (az (Q6.2 ⟨x9,h9,b1⟩) aW),bq (φ:=λ _=>_) bI (i:=11) rfl (az (Q6.2 ⟨x9,h9,b1⟩) bn),bB _ 10 _ rfl (az (Q6.2 ⟨x9,h9, .tail _ b1⟩) aW),bq (φ:=λ _=>_) bI (i:=11) rfl (az (Q6.2 ⟨x9,h9, .tail _ b1⟩) bn),(λ y1 k1=>⟨bB _ 10 _ rfl (az (Q6.2 ⟨x9,h9, .tail _ b4⟩) (az (Q6.2 ⟨y1,k1,b1⟩) aW)),bq (φ:=λ _=>_) bI (i:=11) rfl (az (Q6.2 ⟨x9,h9, .tail _ b4⟩) (az (Q6.2 ⟨y1,k1,b1⟩) bn)),bB _ 10 _ rfl (az (Q6.2 ⟨x9,h9, .tail _ b4⟩) (az (Q6.2 ⟨y1,k1, .tail _ b1⟩) aW)),bq (φ:=λ _=>_) bI (i:=11) rfl (az (Q6.2 ⟨x9,h9, .tail _ b4⟩) (az (Q6.2 ⟨y1,k1, .tail _ b1⟩) bn))⟩),bB _ 10 _ rfl (az (Q6.2 ⟨x9,h9, .tail _ b2⟩) aW),bq (φ:=λ _=>_) bI (i:=11) rfl (az (Q6.2 ⟨x9,h9, .tail _ b2⟩) bn),bB _ 10 _ rfl (az (Q6.2 ⟨x9,h9, .tail _ b3⟩) aW),bq (φ:=λ _=>_) bI (i:=11) rfl (az (Q6.2 ⟨x9,h9, .tail _ b3⟩) bn),(λ y1 k1=>⟨bB _ 10 _ rfl (az (Q6.2 ⟨x9,h9, .tail _ b5⟩) (az (Q6.2 ⟨y1,k1,b1⟩) aW)),bq (φ:=λ _=>_) bI (i:=11) rfl (az (Q6.2 ⟨x9,h9, .tail _ b5⟩) (az (Q6.2 ⟨y1,k1,b1⟩) bn)),(λ y2 k2=>⟨bB _ 10 _ rfl (az (Q6.2 ⟨x9,h9, .tail _ b5⟩) (az (Q6.2 ⟨y1,k1, .tail _ b1⟩) (az (Q6.2 ⟨y2,k2,b1⟩) aW))),bq (φ:=λ _=>_) bI (i:=11) rfl (az (Q6.2 ⟨x9,h9, .tail _ b5⟩) (az (Q6.2 ⟨y1,k1, .tail _ b1⟩) (az (Q6.2 ⟨y2,k2,b1⟩) bn)))⟩)⟩)⟩) e8 cB) ?_)
 rintro _ ve ⟨rfl,kR⟩
 have qm:=kP _ _ kR
 have iT:=qm.pf [1,2,3,4]
 refine⟨.inr ⟨_,iT⟩, ?_⟩
 refine qa 10 rfl rfl (qa 11 rfl rfl (qn (Iq (sr (Mz rfl (Kz (vP g0 0) (Kz (vP g0 0) (Lz (vP g 0) iT 1 P6 (Kz (vP g 0) (Kz (vP g 7) (Lz (vU a.bT) iT 4 D2 (fw (.int .u64 ((C6 (C7.wrap ((a.bT:Int)+1)):Nat):Int)) (Ir (e:=C7.wrap ((a.bT:Int)+1)) yk (fB _)) (Kz (vP g 0) (Kz (vP g 7) ?_))))))))))))))
 have qo:=iT.pf [4]
 refine df [.int .u64 ((C6 (C7.wrap ((a.bT:Int)+1)):Nat):Int)] 7 qo Tryz.sizeOf28 ?_
 intro vg qw
 refine nt (Ik ?_)
 refine oV 22 [] (IE IQ) qw ?_
 intro vk qx
 refine qv 0 rfl rfl (qp g0 0 1 rfl (qp g0 0 2 rfl (ql 3 rfl 2 P6 rfl rfl rfl (qp g 0 4 rfl (qp g 0 5 rfl (qp g 4 6 rfl (ql 7 rfl 0 Tryz.isAgg29 rfl rfl rfl (qp dV 18 8 rfl (ql 9 rfl 1 R6 rfl rfl rfl ?_)))))))))
 obtain⟨⟨b,dY⟩,bH⟩:∃ q:(List fu) × Int,ko a.aa.ag.ls d.aB.ls=q:=⟨_,rfl⟩
 obtain⟨vo,kS,kT,kU,kV⟩:=Iu qx
 refine qd 10 rfl (IP Tryz.call127 rfl (AA _ _ n a.aa.ag.ls.length p a.aa.ag.ls dC d.aB.ls.length dD d.aB.ls b dY kS (kV _ 5 _ rfl aW) rfl e6 (kT _ fe) rfl e6 bH) ?_)
 rintro _ vv ⟨ag,aJ,bu,rfl,kW,bD⟩
 have kX:=kU _ _ kW
 have uf:=aA bD
 have ug:=zr 0 kX
 have kY:∀ x ∈ b,x.aB.ls.length<=24024:=BO bH e6 e6
 have uh:b.length<=5:=BL bH
 have kZ:=kX.pb [0,1]
 refine⟨.inr ⟨_,kZ⟩, ?_⟩
 refine qv 11 rfl rfl (qk (.slice ag b.length aJ) 12 rfl (qk (vI dY) 13 rfl (qa 14 rfl rfl (qa 15 rfl rfl (qn (Iq (Ik ?_)))))))
 refine oV 24 [] (IE IQ) kZ ?_
 intro vw dx
 refine qv 0 rfl rfl (qp g0 0 1 rfl (qp g0 0 2 rfl (ql 3 rfl 2 P6 rfl rfl rfl (qp g 0 4 rfl (qp g 8 5 rfl (ql 6 rfl 0 Q4 rfl rfl rfl (qk (vJ a.aC.ls.length) 7 rfl (qk (.bool (decide ((a.aC.ls.length:Int) >= 6))) 8 rfl (qv 9 rfl rfl ?_)))))))))
 by_cases l:(a.aC.ls.length:Int) >= 6
 refine Ip (rs:= []) 10 rfl rfl rfl (dT l) e7 (Ip (rs:= []) 11 rfl rfl rfl (dT l) e7 (Ip (rs:= []) 12 rfl rfl rfl (dT l) e7 (Ip (rs:= []) 13 rfl rfl rfl (dT l) e7 (Ip (rs:= []) 14 rfl rfl rfl (dT l) e7 (Ip (rs:= []) 15 rfl rfl rfl (dT l) e7 (Ip (rs:= []) 16 rfl rfl rfl (dT l) e7 (Ip (rs:= []) 17 rfl rfl rfl (dT l) e7 (Ip (rs:= []) 18 rfl rfl rfl (dT l) e7 (Ip (rs:= []) 19 rfl rfl rfl (dT l) e7 (Ip (rs:= []) 20 rfl rfl rfl (dT l) e7 (Ip (rs:= []) 21 rfl rfl rfl (dT l) e7 (Ip (rs:= []) 22 rfl rfl rfl (dT l) e7 (Ip (rs:= []) 23 rfl rfl rfl (dT l) e7 (Ip (rs:= []) 24 rfl rfl rfl (dT l) e7 (Ip (rs:= []) 25 rfl rfl rfl (dT l) e7 (Ip (rs:= []) 26 rfl rfl rfl (dT l) e7 (Ip (rs:= []) 27 rfl rfl rfl (dT l) e7 (Ip (rs:= []) 28 rfl rfl rfl (dT l) e7 (qt (v:= .bool true) 29 rfl (λ _ _=>Iw rfl (dT l) rfl) (qv 30 rfl rfl (Ip (rs:= []) 31 rfl rfl rfl rfl e7 (Ip (rs:= []) 32 rfl rfl rfl rfl e7 (Ip (rs:= []) 33 rfl rfl rfl rfl e7 (Ip (rs:= []) 34 rfl rfl rfl rfl e7 (qt (v:= .bool true) 35 rfl (λ _ _=>Iw rfl rfl rfl) (qa 36 rfl rfl (qn (Iq (Ik (sr (Mz rfl (Mz rfl (Sz rfl (Sz rfl (fw (.bool true) (Iw rfl rfl rfl) (nt (jt ?_)))))))))))))))))))))))))))))))))))))
 refine sr (Mz rfl (Mz rfl (Kz (vP dV 6) (Lz (vU d.aU) dx 1 D2 ?_))))
 have qz:=dx.px [2,3,4] [] [1,5,6,7,8,9,10,11,22,23]
 obtain⟨⟨jw,bC⟩,iZ⟩:∃ q:bU × aD,dL p0 p1 d.aU 2 [] (aD.mk a.aa (C6 (C7.wrap ((a.bT:Int)+1))) (E0 a.aC.ls) a.bM a.bD a.bA a.bC a.bB a.dO a.dG a.dH a.dD a.dE)=q:=⟨_,rfl⟩
 obtain⟨vz,lc,ui,lg,uj⟩:=Jj qz
 refine cl R7 (jM _ _ g0 p0 bL bM bG p1 d.aU 2 none 0 0 [] [] g (aD.mk a.aa (C6 (C7.wrap ((a.bT:Int)+1))) (E0 a.aC.ls) a.bM a.bD a.bA a.bC a.bB a.dO a.dG a.dH a.dD a.dE) n p r j C E J G O P ai Q S aj T U ak V W au X Y av jw bC lc bF rfl (λ _ _=>aY.nil _ _ _) (λ _ h9=>absurd h9 v7) rfl i7 g6 aU aV aX aZ bf e8 g2 g2 i1 iZ) ?_
 rintro _ vB ⟨qA,qB,qC,lh,ll,lm,lq,lu,lv,lw,lC,lD,lF,lG,lH,lI,lJ,lK,rfl,lL,ja,gq,gy,gz,gB,gF,gG⟩
 have ek:=lg _ _ lL
 have qD:=aA ja
 have qE:=aA gq
 have qG:=aA gy
 have qH:=aA gz
 have qI:=aA gB
 have qJ:=aA gF
 have qK:=zr 1 ek
 have qL:=zr 4 ek
 have qM:=zr 6 ek
 have qN:=zr 8 ek
 have qP:=zr 10 ek
 have qQ:=zr 12 ek
 replace gG:jw.bF.ls.length=p0.bF.ls.length+1:=gG
 refine nt (rt (tR (Fin.res (res0 rfl) ?_)))
 have lM:=ek.px [] [14,22,23] [4,5,6,7,8,9,10,11,12,13]
 obtain⟨rfl,rfl⟩:=fD (zj hr zq5)
 exact⟨qA,qB,qC,n,p,r,j,N,C,E,ah,J,G,I,lh,ll,lm,lq,lu,lv,lw,lC,lD,lF,lG,lH,lI,lJ,lK,rfl,lM,ja,ax,aR,Z,gq,gy,gz,gB,gF⟩
 refine Iy (v:=vP g0 0) (rs:= []) 10 rfl rfl rfl (dF l) e7 (λ _ _=>IA rfl) (Iy (v:=vP g0 0) (rs:= []) 11 rfl rfl rfl (dF l) e7 (λ _ _=>yk) (Iy (v:=vP g0 0) (rs:= []) 12 rfl rfl rfl (dF l) e7 (λ _ _=>yk) (Iy (v:=vP g 0) (rs:= []) 13 rfl rfl rfl (dF l) e7 (λ _ ⟨_,H9⟩=>IB rfl (bJ.one P6 (I1 (H9.cls (i:=2) rfl) rfl))) (Iy (v:=vP g 0) (rs:= []) 14 rfl rfl rfl (dF l) e7 (λ _ _=>yk) (Iy (v:=vP g 8) (rs:= []) 15 rfl rfl rfl (dF l) e7 (λ _ _=>yk) (Iy (v:= .slice J a.aC.ls.length G) (rs:= []) 16 rfl rfl rfl (dF l) e7 (λ _ ⟨_,H9⟩=>IB rfl (bJ.one Q4 (I1 (H9.cls (i:=0) rfl) rfl))) (Iy (v:=vJ a.aC.ls.length) (rs:= []) 17 rfl rfl rfl (dF l) e7 (λ _ _=>yk) (Iy (v:=vP g0 0) (rs:= []) 18 rfl rfl rfl (dF l) e7 (λ _ _=>IA rfl) (Iy (v:=vP g0 0) (rs:= []) 19 rfl rfl rfl (dF l) e7 (λ _ _=>yk) (Iy (v:=vP g0 0) (rs:= []) 20 rfl rfl rfl (dF l) e7 (λ _ _=>yk) (Iy (v:=vP g 0) (rs:= []) 21 rfl rfl rfl (dF l) e7 (λ _ ⟨_,H9⟩=>IB rfl (bJ.one P6 (I1 (H9.cls (i:=2) rfl) rfl))) (Iy (v:=vP g 0) (rs:= []) 22 rfl rfl rfl (dF l) e7 (λ _ _=>yk) (Iy (v:=vP g 0) (rs:= []) 23 rfl rfl rfl (dF l) e7 (λ _ _=>yk) (Iy (v:=vP g 5) (rs:= []) 24 rfl rfl rfl (dF l) e7 (λ _ _=>yk) (Iy (v:= .slice r a.aa.ak.ls.length j) (rs:= []) 25 rfl rfl rfl (dF l) e7 (λ _ ⟨_,H9⟩=>IB rfl (bJ.one Tryz.isAgg30 (I1 (H9.cls (i:=0) rfl) rfl))) (Iy (v:=vJ a.aa.ak.ls.length) (rs:= []) 26 rfl rfl rfl (dF l) e7 (λ _ _=>yk) (Iy (v:=vJ (a.aC.ls.length+a.aa.ak.ls.length)) (rs:= []) 27 rfl rfl rfl (dF l) e7 (λ _ _=>Ir (e:=C3.wrap ((a.aC.ls.length:Int)+(a.aa.ak.ls.length:Int))) yk f0) (Iy (v:= .bool (decide (((a.aC.ls.length+a.aa.ak.ls.length:Nat):Int) >= 8))) (rs:= []) 28 rfl rfl rfl (dF l) e7 (λ _ _=>yk) (qt (v:= .bool (decide (((a.aC.ls.length+a.aa.ak.ls.length:Nat):Int) >= 8))) 29 rfl (λ _ _=>Io rfl (dF l) rfl) (qv 30 rfl rfl ?_))))))))))))))))))))
 by_cases aO:((a.aC.ls.length+a.aa.ak.ls.length:Nat):Int) >= 8
 refine Ip (rs:= []) 31 rfl rfl rfl (dT aO) e7 (Ip (rs:= []) 32 rfl rfl rfl (dT aO) e7 (Ip (rs:= []) 33 rfl rfl rfl (dT aO) e7 (Ip (rs:= []) 34 rfl rfl rfl (dT aO) e7 (qt (v:= .bool true) 35 rfl (λ _ _=>Iw rfl (dT aO) rfl) (qa 36 rfl rfl (qn (Iq (Ik (sr (Mz rfl (Mz rfl (Sz rfl (Sz rfl (fw (.bool true) (Iw rfl rfl rfl) (nt (jt (sr (Mz rfl (Mz rfl (Kz (vP dV 6) (Lz (vU d.aU) dx 1 D2 ?_)))))))))))))))))))))
 have lN:=dx.px [2,3,4] [] [1,5,6,7,8,9,10,11,22,23]
 obtain⟨⟨gH,aC⟩,gI⟩:∃ q:bU × aD,dL p0 p1 d.aU 2 [] (aD.mk a.aa (C6 (C7.wrap ((a.bT:Int)+1))) (E0 a.aC.ls) a.bM a.bD a.bA a.bC a.bB a.dO a.dG a.dH a.dD a.dE)=q:=⟨_,rfl⟩
 obtain⟨uk,jy,qR,jA,qU⟩:=Jj lN
 refine cl R7 (jM _ _ g0 p0 bL bM bG p1 d.aU 2 none 0 0 [] [] g (aD.mk a.aa (C6 (C7.wrap ((a.bT:Int)+1))) (E0 a.aC.ls) a.bM a.bD a.bA a.bC a.bB a.dO a.dG a.dH a.dD a.dE) n p r j C E J G O P ai Q S aj T U ak V W au X Y av gH aC jy bF rfl (λ _ _=>aY.nil _ _ _) (λ _ h9=>absurd h9 v7) rfl i7 g6 aU aV aX aZ bf e8 g2 g2 i1 gI) ?_
 rintro _ ul ⟨lQ,lS,lT,lU,lV,lW,lX,lY,lZ,l5,l6,l7,l8,ma,mf,mg,mh,mi,rfl,jB,gJ,gL,gM,gP,gT,gU,gW⟩
 have bQ:=jA _ _ jB
 have qV:=aA gJ
 have qW:=aA gL
 have qX:=aA gM
 have qY:=aA gP
 have qZ:=aA gT
 have q8:=aA gU
 have q9:=zr 1 bQ
 have rf:=zr 4 bQ
 have rq:=zr 6 bQ
 have ru:=zr 8 bQ
 have ry:=zr 10 bQ
 have rz:=zr 12 bQ
 replace gW:gH.bF.ls.length=p0.bF.ls.length+1:=gW
 refine nt (rt (tR (Fin.res (res0 rfl) ?_)))
 have mo:=bQ.px [] [14,22,23] [4,5,6,7,8,9,10,11,12,13]
 obtain⟨rfl,rfl⟩:=fD (zj hr zq6)
 exact⟨lQ,lS,lT,n,p,r,j,N,C,E,ah,J,G,I,lU,lV,lW,lX,lY,lZ,l5,l6,l7,l8,ma,mf,mg,mh,mi,rfl,mo,gJ,ax,aR,Z,gL,gM,gP,gT,gU⟩
 refine Iy (v:=vU h) (rs:= []) 31 rfl rfl rfl (dF aO) e7 (λ _ _=>IA rfl) (Iy (v:=vU dW) (rs:= []) 32 rfl rfl rfl (dF aO) e7 (λ _ _=>IA rfl) (Iy (v:= .int .u64 ((C6 (C7.wrap ((h:Int) - (dW:Int))):Nat):Int)) (rs:= []) 33 rfl rfl rfl (dF aO) e7 (λ _ _=>Ir (e:=C7.wrap ((h:Int) - (dW:Int))) yk (fB _)) (Iy (v:= .bool (decide (((C6 (C7.wrap ((h:Int) - (dW:Int))):Nat):Int) >= 64))) (rs:= []) 34 rfl rfl rfl (dF aO) e7 (λ _ _=>yk) (qt (v:= .bool (decide (((C6 (C7.wrap ((h:Int) - (dW:Int))):Nat):Int) >= 64))) 35 rfl (λ _ _=>Io rfl (dF aO) rfl) (qa 36 rfl rfl (qn (Iq (Ik (sr (Mz rfl (Mz rfl ?_)))))))))))
 by_cases bE:((C6 (C7.wrap ((h:Int) - (dW:Int))):Nat):Int) >= 64
 refine Sz (dT bE) (Sz (dT bE) (fw (.bool true) (Iw rfl (dT bE) rfl) (nt (jt (sr (Mz rfl (Mz rfl (Kz (vP dV 6) (Lz (vU d.aU) dx 1 D2 ?_)))))))))
 have mq:=dx.px [2,3,4] [] [1,5,6,7,8,9,10,11,22,23]
 obtain⟨⟨gX,aF⟩,gY⟩:∃ q:bU × aD,dL p0 p1 d.aU 2 [] (aD.mk a.aa (C6 (C7.wrap ((a.bT:Int)+1))) (E0 a.aC.ls) a.bM a.bD a.bA a.bC a.bB a.dO a.dG a.dH a.dD a.dE)=q:=⟨_,rfl⟩
 obtain⟨um,jC,rA,jD,rD⟩:=Jj mq
 refine cl R7 (jM _ _ g0 p0 bL bM bG p1 d.aU 2 none 0 0 [] [] g (aD.mk a.aa (C6 (C7.wrap ((a.bT:Int)+1))) (E0 a.aC.ls) a.bM a.bD a.bA a.bC a.bB a.dO a.dG a.dH a.dD a.dE) n p r j C E J G O P ai Q S aj T U ak V W au X Y av gX aF jC bF rfl (λ _ _=>aY.nil _ _ _) (λ _ h9=>absurd h9 v7) rfl i7 g6 aU aV aX aZ bf e8 g2 g2 i1 gY) ?_
 rintro _ uo ⟨mr,mD,mE,mF,mG,mH,mI,mJ,mM,mO,mP,mQ,mR,mU,mV,mW,mX,mY,rfl,jE,gZ,ib,ic,ig,ik,il,iq⟩
 have bR:=jD _ _ jE
 have rE:=aA gZ
 have rF:=aA ib
 have rG:=aA ic
 have rH:=aA ig
 have rJ:=aA ik
 have rM:=aA il
 have rO:=zr 1 bR
 have rP:=zr 4 bR
 have rQ:=zr 6 bR
 have rR:=zr 8 bR
 have rT:=zr 10 bR
 have rU:=zr 12 bR
 replace iq:gX.bF.ls.length=p0.bF.ls.length+1:=iq
 refine nt (rt (tR (Fin.res (res0 rfl) ?_)))
 have mZ:=bR.px [] [14,22,23] [4,5,6,7,8,9,10,11,12,13]
 obtain⟨rfl,rfl⟩:=fD (zj hr zq7)
 exact⟨mr,mD,mE,n,p,r,j,N,C,E,ah,J,G,I,mF,mG,mH,mI,mJ,mM,mO,mP,mQ,mR,mU,mV,mW,mX,mY,rfl,mZ,gZ,ax,aR,Z,ib,ic,ig,ik,il⟩
 refine gw (vI dY) (dF bE) (IA rfl) (gw (.bool (decide (¬ (dY=0)))) (dF bE) (IM (e:= !(decide (dY=0))) yk decide_not.symm) (fw (.bool (decide (¬ (dY=0)))) (Io rfl (dF bE) rfl) (nt ?_)))
 by_cases eG:dY=0
 refine jF (dF (Lr eG)) (sk (sr (Mz rfl (Kz (vJ b.length) (An rfl (Ik ?_))))))
 refine oV 24 [] (IE IQ) dx ?_
 intro uq ng
 refine qv 0 rfl rfl (qv 1 rfl rfl (qp dV 6 2 rfl (ql 3 rfl 1 D2 rfl rfl rfl (qv 4 rfl rfl (qp g0 0 5 rfl (qp g0 0 6 rfl (ql 7 rfl 2 P6 rfl rfl rfl (qp g 0 8 rfl (qp g 0 9 rfl (qp g 3 10 rfl (ql 11 rfl 0 D2 rfl rfl rfl (qp dV 18 12 rfl (ql 13 rfl 1 R6 rfl rfl rfl (qv 15 rfl rfl (qv 16 rfl rfl (qv 18 rfl rfl ?_))))))))))))))))
 have rV:s0 (r7 b.length false)=b.length:=H0
 have rW:s0 (r7 b.length (G3 none 0 []:bP))=b.length:=H0
 have rX:s0 (r7 b.length (E0 []:Ll aQ))=b.length:=H0
 refine GG ⟨14,_,_,_,_,_,Option Addr × Nat,λ g9=> .slice g9.1 d.aB.ls.length g9.2,λ _=>True,λ g9=> [row g9.1 d.aB.ls.length g9.2 (q4 aN.cells d.aB.ls) 72 6]⟩ ⟨17,_,_,_,_,_,Option Addr,λ g9=> .slice g9 b.length b.length,λ _=>True,λ g9=> [row g9 b.length b.length (q4 eL (r7 b.length false)) 4 1]⟩ ⟨19,_,_,_,_,_,Option Addr,λ g9=> .slice g9 b.length b.length,λ _=>True,λ g9=> [sepL (q4 bP.own (r7 b.length (G3 none 0 []:bP))),row g9 b.length b.length (q4 (I9 (β:=af)) (r7 b.length (G3 none 0 []:bP))) 40 1]⟩ ⟨21,_,_,_,_,_,Nat,λ g9=>vP g9 0,λ _=>True,λ g9=> [blk g9 (rZ 0 0 0 0 none 0 0 none 0 0 none 0 0 none 0 0 0) 107]⟩ 20 24 ng ⟨⟨rfl,rfl,rfl, ?_⟩,⟨rfl,rfl,rfl, ?_⟩,⟨rfl,rfl,rfl, ?_⟩,⟨rfl,rfl,rfl, ?_⟩,trivial⟩ rfl ?_
 intro ut L' ni
 refine(Jb (cs:=(rZ 0 0 0 0 none 0 0 none 0 0 none 0 0 none 0 0 0)) (t:=107) ni rfl rfl (λ _=>by kernel_rfl) ?_)
 intro aP uu nk
 exact⟨aP,rfl,trivial,nk⟩
 intro uw L' ny
 obtain⟨uy,jG,jH,jI,rY⟩:=Iu ny
 refine(IP Tryz.call109 rfl (nJ _ _ dC d.aB.ls.length dD d.aB.ls d.aB.ls jG (jH _ fe) rfl e6 rfl) ?_)
 rintro _ uz ⟨K,L,rfl,jJ⟩
 have nz:=jI _ _ jJ
 exact⟨(K,L),rfl,trivial,nz⟩
 intro uA L' nA
 refine(Jt (x0:=false) (z:= .bool false) (k:=b.length) (size:=1) (bytes:=1) pV f2 rfl Tryz.underlying104 e7 nA rfl rfl e6 (by unfold maxLen; omega) ?_)
 intro B uB nC
 exact⟨B,rfl,trivial,nC⟩
 intro uC L' nD
 refine(Jt (x0:=(G3 none 0 []:bP)) (z:= .slice none 0 0) (k:=b.length) (size:=1) (bytes:=24) rC f2 rfl Tryz.underlying105 e7 nD rfl rfl e6 (by unfold maxLen; omega) ?_)
 intro M uD nE
 have nG:=nE.free (R:=sepL (q4 bP.own (r7 b.length (G3 none 0 []:bP)))) (uQ (D9 (eP 149 3) (yU λ _ h9=>absurd h9 v7)))
 exact⟨M,rfl,trivial,nG⟩
 rintro ⟨K,L⟩ _ B _ M _
 refine⟨.agg (rZ h p1 d.aU a.aa.aF K d.aB.ls.length L ag b.length aJ B b.length b.length M b.length b.length 0).toArray,λ _=>yk, ?_⟩
 rintro aP _
 intro nH nI
 have eH:Own w D nH (blk aP (rZ 0 0 0 0 none 0 0 none 0 0 none 0 0 none 0 0 0) 107::sepL (q4 bP.own (r7 b.length (G3 none 0 []:bP)))::row M b.length b.length (q4 (I9 (β:=af)) (r7 b.length (G3 none 0 []:bP))) 40 1::row B b.length b.length (q4 eL (r7 b.length false)) 4 1::row K d.aB.ls.length L (q4 aN.cells d.aB.ls) 72 6::_):=nI.flat.pf []
 have r9:=zr 2 eH
 have si:=zr 3 eH
 have sj:=zr 4 eH
 have nK:=eH.pb [0,1,2,3,4]
 have nL:=nK.pf [24]
 refine qe 22 rfl (Do.store (vs:=(rZ h p1 d.aU a.aa.aF K d.aB.ls.length L ag b.length aJ B b.length b.length M b.length b.length 0)) (o:=0) nL rfl rfl Tryz.sizeOf107 rfl rfl rfl rfl ?_)
 intro uE nM
 have jb:=nM.pb [0,25,26,27,28]
 refine⟨.inr ⟨_,jb⟩, ?_⟩
 refine qn (Iq (Ik ?_))
 have nN:=jb.px [] [1] []
 have eu:b.length=s0 (r7 b.length (E0 []:Ll aQ)):=by first | omega | (simp only [G4]; done) | (simp only [G4,o2,s1,E7,o0,o1,H0]; omega)
 have nO:=nN.pf [23]
 have nP:=Jp 7 eu nO
 have nQ:=nP.pf [25]
 have nR:=Jc eu nQ
 have nS:=nR.pb [1,25,0,26,27]
 have eB:b.length=s0 (r7 b.length false):=by first | omega | (simp only [G4]; done) | (simp only [G4,o2,s1,E7,o0,o1,H0]; omega)
 have nT:=nS.pf [23]
 have nU:=Jp 6 eB nT
 have nV:=nU.pf [26]
 have nW:=Jc eB nV
 have nX:=nW.pb [1,25,26,0,27]
 have nY:=nX.pf [0,1,23]
 refine EF [16] (IE IQ) nY ?_
 intro uF nZ
 refine qv 0 rfl rfl (qp g0 0 1 rfl (qp g0 0 2 rfl (ql 3 rfl 1 P6 rfl rfl rfl (qv 4 rfl rfl (qp g0 0 5 rfl (qp g0 0 6 rfl (ql 7 rfl 1 P6 rfl rfl rfl (qp g 0 8 rfl (qp g 8 9 rfl (ql 10 rfl 0 Q4 rfl rfl rfl (qt (v:= .agg (rZ h p1 d.aU a.aa.aF K d.aB.ls.length L ag b.length aJ B (s0 (r7 b.length false)) b.length M (s0 (r7 b.length (E0 []:Ll aQ))) b.length 0).toArray) 11 rfl (λ _ ⟨_,H9⟩=>IB rfl (IJ (cs:=(rZ h p1 d.aU a.aa.aF K d.aB.ls.length L ag b.length aJ B (s0 (r7 b.length false)) b.length M (s0 (r7 b.length (E0 []:Ll aQ))) b.length 0)) Tryz.isAgg107 Tryz.sizeOf107 ((H9.cls (i:=2) rfl).lit (k:=0) (m:=9) rfl))) ?_)))))))))))
 refine qd 12 rfl (Jq (cs:=(rZ h p1 d.aU a.aa.aF K d.aB.ls.length L ag b.length aJ B (s0 (r7 b.length false)) b.length M (s0 (r7 b.length (E0 []:Ll aQ))) b.length 0)) (t:=107) (sz:=9) (m:=1) nZ rfl rfl (λ _=>by kernel_rfl) rfl f2 ?_)
 intro jc uG iw
 replace iw:=IX (y:=row jc 1 1 (q4 bK.cells ([(bK.mk h p1 d.aU a.aa.aF (G3 K L d.aB.ls) (G3 ag aJ bu) (G3 B b.length (r7 b.length false)) (G3 M b.length (r7 b.length (G3 none 0 []:bP))) 0)])) 107 9) (EN (λ z9 z8=>row jc 1 1 [vU h,vI p1,vU d.aU,vU a.aa.aF, .slice K d.aB.ls.length L, .slice ag z9 aJ, .slice B (s0 (r7 b.length false)) b.length, .slice M z8 b.length,vI 0] 107 9) (aA bD).symm (aA (L9 (f:=bP.abs))).symm) iw
 have jd:=iw.pf [1,2,3]
 refine⟨.inr ⟨_,jd⟩, ?_⟩
 have je:=jd.pf [11,12,28,23,27,26,24,25]
 refine qd 13 rfl (IW (k:=a.aC.ls.length) (m:=1) (qF) je rfl rfl (gN Tryz.underlying79 (je.rds (i:=11) rfl) (dX bK.one ([(bK.mk h p1 d.aU a.aa.aF (G3 K L d.aB.ls) (G3 ag aJ bu) (G3 B b.length (r7 b.length false)) (G3 M b.length (r7 b.length (G3 none 0 []:bP))) 0)]))) rfl e6 (s:=s0 (a.aC.ls++ [(ed.mk h p1 d.aU a.aa.aF (E0 d.aB.ls) (E0 b) (E0 (r7 b.length false)) (E0 (r7 b.length (E0 []:Ll aQ))) 0)])) f7 (r5).symm ?_)
 intro dG cK og oh
 have ol:=oh.pf [3]
 have om:=Jc (aA bD).symm ol
 have oo:=om.pf [5]
 have oq:=Jc (n':=s0 (r7 b.length (G3 none 0 []:bP))) (aA (L9 (f:=bP.abs))).symm oo
 have ou:=oq.pf [3,4,1,5,0,6,7]
 have ow:Own w D og (sepL (q4 bK.own (I++ [(bK.mk h p1 d.aU a.aa.aF (G3 K L d.aB.ls) (G3 ag aJ bu) (G3 B b.length (r7 b.length false)) (G3 M b.length (r7 b.length (G3 none 0 []:bP))) 0)]))::_):=ou.sepAdd (L2:= [row K d.aB.ls.length L (q4 aN.cells d.aB.ls) 72 6,row ag bu.length aJ (q4 bO.cells bu) 172 3,row B (s0 (r7 b.length false)) b.length (q4 eL (r7 b.length false)) 4 1,row M (s0 (r7 b.length (G3 none 0 []:bP))) b.length (q4 (I9 (β:=af)) (r7 b.length (G3 none 0 []:bP))) 40 1,sepL (q4 bO.own bu),sepL (q4 bP.own (r7 b.length (G3 none 0 []:bP)))]) (r5 (f:=bK.own) (xs:=I) (ys:= [(bK.mk h p1 d.aU a.aa.aF (G3 K L d.aB.ls) (G3 ag aJ bu) (G3 B b.length (r7 b.length false)) (G3 M b.length (r7 b.length (G3 none 0 []:bP))) 0)])).symm
 have su:s0 (a.aC.ls++ [(ed.mk h p1 d.aU a.aa.aF (E0 d.aB.ls) (E0 b) (E0 (r7 b.length false)) (E0 (r7 b.length (E0 []:Ll aQ))) 0)])=a.aC.ls.length+1:=by simp only [o2,s1,E7]
 have sw:=aA (nu (es:= [(bK.mk h p1 d.aU a.aa.aF (G3 K L d.aB.ls) (G3 ag aJ bu) (G3 B b.length (r7 b.length false)) (G3 M b.length (r7 b.length (G3 none 0 []:bP))) 0)]) (ms:= [(ed.mk h p1 d.aU a.aa.aF (E0 d.aB.ls) (E0 b) (E0 (r7 b.length false)) (E0 (r7 b.length (E0 []:Ll aQ))) 0)]) Z (EN (λ z9 z8=> [ed.mk h p1 d.aU a.aa.aF (E0 d.aB.ls) (E0 z9) (E0 (r7 b.length false)) (E0 z8) 0]) bD (L9 (f:=bP.abs))))
 have jf:=ow.pf [2,3,4]
 refine⟨.inr ⟨_,jf⟩, ?_⟩
 refine qp g 0 14 rfl (qp g 8 15 rfl ?_)
 refine qe 16 rfl (Do.store (vs:= [.slice dG (s0 (a.aC.ls++ [(ed.mk h p1 d.aU a.aa.aF (E0 d.aB.ls) (E0 b) (E0 (r7 b.length false)) (E0 (r7 b.length (E0 []:Ll aQ))) 0)])) cK]) (o:=8) jf rfl rfl Tryz.sizeOf79 rfl rfl rfl rfl ?_)
 intro uH oz
 refine⟨.inl e7, ?_⟩
 refine qn (Iq ?_)
 have jg:=oz.px [] [5] []
 refine Il (Mz rfl ?_)
 refine WL.do rfl (IP Tryz.call64 rfl ?_ (λ _ _ k=>k))
 refine cb Tryz.func64 ?_
 refine sr (Mz rfl (Kz (vP aP 0) (Kz (vP aP 5) (Lz (.slice ag b.length aJ) jg 2 Tryz.isAgg103 (Kz (vJ b.length) (Mn rfl (bo ?_)))))))
 have oC:=jg.pb [5,6]
 obtain⟨oD,dz⟩:=ED λ (u:Nat) cO (cZ:Nat) bS aG w'=>Own w D w' [blk g [vI a.aa.au,vU a.aa.ax,vU a.aa.bG,vU a.aa.aF, .slice n a.aa.ag.ls.length p, .slice r a.aa.ak.ls.length j, .slice C a.aa.aK.ls.length E, .int .u64 ((C6 (C7.wrap ((a.bT:Int)+1)):Nat):Int), .slice dG (s0 (a.aC.ls++ [(ed.mk h p1 d.aU a.aa.aF (E0 d.aB.ls) (E0 b) (E0 (r7 b.length false)) (E0 (r7 b.length (E0 []:Ll aQ))) 0)])) cK, .bool a.bM.dB,vU a.bM.bi,vI a.bM.dP, .slice O a.bM.ai.ls.length P, .bool a.bD.dB,vU a.bD.bi,vI a.bD.dP, .slice Q a.bD.ai.ls.length S, .bool a.bA.dB,vU a.bA.bi,vI a.bA.dP, .slice T a.bA.ai.ls.length U, .bool a.bC.dB,vU a.bC.bi,vI a.bC.dP, .slice V a.bC.ai.ls.length W, .bool a.bB.dB,vU a.bB.bi,vI a.bB.dP, .slice X a.bB.ai.ls.length Y,vU a.dO,vU a.dG,vU a.dH,vU a.dD,vU a.dE, .pointer none] 86,blk g0 [vP g 0, .slice cO aG.length cZ] 98,blk aP (rZ h p1 d.aU a.aa.aF K d.aB.ls.length L ag b.length aJ B (s0 (r7 b.length false)) b.length M (s0 (r7 b.length (E0 []:Ll aQ))) b.length 0) 107,sepL (q4 bK.own (I++ [(bK.mk h p1 d.aU a.aa.aF (G3 K L d.aB.ls) (G3 ag aJ bu) (G3 B b.length (r7 b.length false)) (G3 M b.length (r7 b.length (G3 none 0 []:bP))) 0)])),row dG (s0 (a.aC.ls++ [(ed.mk h p1 d.aU a.aa.aF (E0 d.aB.ls) (E0 b) (E0 (r7 b.length false)) (E0 (r7 b.length (E0 []:Ll aQ))) 0)])) cK (q4 bK.cells (I++ [(bK.mk h p1 d.aU a.aa.aF (G3 K L d.aB.ls) (G3 ag aJ bu) (G3 B b.length (r7 b.length false)) (G3 M b.length (r7 b.length (G3 none 0 []:bP))) 0)])) 107 9,row n a.aa.ag.ls.length p (q4 aM.cells a.aa.ag.ls) 89 2,row r a.aa.ak.ls.length j (q4 ay.cells N) 60 5,sepL (q4 ay.own N),row C a.aa.aK.ls.length E (q4 aS.cells ah) 56 4,sepL (q4 aS.own ah),row O a.bM.ai.ls.length P (q4 af.cells ai) 149 3,sepL (q4 af.own ai),row Q a.bD.ai.ls.length S (q4 af.cells aj) 149 3,sepL (q4 af.own aj),row T a.bA.ai.ls.length U (q4 af.cells ak) 149 3,sepL (q4 af.own ak),row V a.bC.ai.ls.length W (q4 af.cells au) 149 3,sepL (q4 af.own au),row X a.bB.ai.ls.length Y (q4 af.cells av) 149 3,sepL (q4 af.own av),row cO aG.length cZ (q4 bz.cells bS) 42 21,sepL (q4 bz.own bS)]/\s5 bz.abs bS=aG/\u<=b.length/\aG.length<=p0.bF.ls.length+u/\aG.length<=100000+u/\gD p1 d a h b b 0 p0.bF.ls=gD p1 d a h b (List.drop u b) u aG
 refine Wp.loop (λ i:Nat × (Option Addr) × Nat × (List bz) × (List bW)=> [(11,vJ i.1),(10,vJ b.length),(9, .slice ag b.length aJ),(0,vP g0 0),(1,vP aP 0)]) oD (λ i=>b.length - i.1) (0,bL,bM,bG,p0.bF.ls) ⟨rfl,rfl,rfl,rfl,rfl,trivial⟩ (dz.2 ⟨oC,by exact bF,e6,e6,e6,rfl⟩) ?_
 rintro ⟨u,cO,cZ,bS,aG⟩ uI jN
 obtain⟨bT,dB,sD,sF,sG,eD⟩:=dz.1 jN
 have sH:=aA dB
 refine sr (Kz (.bool (decide ((u:Int) < (b.length:Int)))) (nt (Ik ?_)))
 by_cases jh:(u:Int) < (b.length:Int)
 obtain⟨F,bV⟩:=dh (ls:=bu) (i:=u) bO.len f2 (show aY _ 3 ag b.length (q4 bO.cells bu) from (bq bT (i:=3) rfl (az (Q6.2 ⟨_,u5 _ b1, .tail _ b1⟩) (λ w9 h9 a9 b9=>sZ (aA bD) (aW w9 h9 a9 b9))))) e9
 have iy:=eY bD bV
 have sI:F.aB.ls.length<=F.aB.c/\F.aB.ls.length<=9223372036854775807:=bq bT (i:=3) rfl (φ:=λ _=>_) (az (Q6.2 ⟨_,u5 _ b1, .tail _ b4⟩) (az (Q6.2 ⟨F,D1 bV,b1⟩) bn))
 have sJ:F.aI.ls.length<=F.aI.c/\F.aI.ls.length<=9223372036854775807:=bq bT (i:=3) rfl (φ:=λ _=>_) (az (Q6.2 ⟨_,u5 _ b1, .tail _ b4⟩) (az (Q6.2 ⟨F,D1 bV, .tail _ b1⟩) bn))
 have sK:F.aB.ls.length<=24024:=kY _ (D1 iy)
 have iB:=drop_at iy
 refine jT (dT jh) (sk (Ik (bo (sr (Mz rfl (fw (.pointer (some ⟨ab ag,ao ag+u *3,none⟩)) (Iz (uR) rfl rfl ((show aY _ 3 ag b.length (q4 bO.cells bu) from (bq bT (i:=3) rfl (az (Q6.2 ⟨_,u5 _ b1, .tail _ b1⟩) (λ w9 h9 a9 b9=>sZ (aA bD) (aW w9 h9 a9 b9))))).addr (i:=u) e6) e6) (fw (.agg (bO.cells F).toArray) (IB rfl (IJ (cs:=(bO.cells F)) Tryz.isAgg172 Tryz.sizeOf172 ((show aY _ 3 ag b.length (q4 bO.cells bu) from (bq bT (i:=3) rfl (az (Q6.2 ⟨_,u5 _ b1, .tail _ b1⟩) (λ w9 h9 a9 b9=>sZ (aA bD) (aW w9 h9 a9 b9))))).elem bO.len bV f2))) ?_)))))))
 refine dn [vI 0, .slice none 0 0, .slice none 0 0] 172 bT ?_
 intro ji uJ oI
 refine Az rfl ?_
 refine df (bO.cells F) 0 oI Tryz.sizeOf172 ?_
 intro uK di
 refine ns (Mz rfl (Kz (vP aP 0) (Kz (vP aP 6) (Lz (.slice B (s0 (r7 b.length false)) b.length) di 3 Tryz.isAgg104 (Mz rfl ?_)))))
 obtain⟨iC,eF⟩:=dh (ls:=(r7 b.length false)) (i:=u) pV f2 (show aY _ 1 B (s0 (r7 b.length false)) (q4 eL (r7 b.length false)) from (bq di (i:=4) rfl (az (Q6.2 ⟨_,u5 _ b1, .tail _ b2⟩) aW))) e9
 refine fw (.pointer (some ⟨ab B,ao B+u *1,none⟩)) (Iz (zA) rfl rfl ((show aY _ 1 B (s0 (r7 b.length false)) (q4 eL (r7 b.length false)) from (bq di (i:=4) rfl (az (Q6.2 ⟨_,u5 _ b1, .tail _ b2⟩) aW))).addr (i:=u) e6) e6) (fw (.bool iC) (IB rfl (bJ.one Tryz.isAgg4 (((show aY _ 1 B (s0 (r7 b.length false)) (q4 eL (r7 b.length false)) from (bq di (i:=4) rfl (az (Q6.2 ⟨_,u5 _ b1, .tail _ b2⟩) aW))).elem pV eF f2).at_ (k:=0) rfl))) (Kz (.bool (!iC)) (nt ?_)))
 rcases Ls (iC) with dH | dH
 refine jF (cn dH) (IU (bN (Iq (Il (fw (vJ (u+1)) (Ir (e:=C3.wrap ((u:Int)+1)) yk f0) (Mz rfl (WL.nil ?_)))))))
 have oJ:=di.px [] [0] []
 exact II (u+1,cO,cZ,bS,aG) ⟨rfl,rfl,rfl,rfl,rfl,trivial⟩ (dz.2 ⟨oJ,by exact dB,e6,e6,e6,et (eD) (et (congrArg (λ q=>gD p1 d a h b q u aG) iB) (et (ae (aT eF)) (ip dH)))⟩) (by show b.length - (u+1) < b.length - u; omega)
 refine jT (cn dH) ?_
 refine oV 23 [19] (bv.block (IE (IE (bv.block IQ)))) di ?_
 intro uL oK
 refine qv 0 rfl rfl (qp ji 0 1 rfl (ql 2 rfl 0 Tryz.isAgg3 rfl rfl rfl (qv 3 rfl rfl (qp aP 0 4 rfl (qp aP 0 5 rfl (ql 6 rfl 3 D2 rfl rfl rfl (qv 7 rfl rfl (qp g0 0 8 rfl (qp g0 0 9 rfl (ql 10 rfl 2 P6 rfl rfl rfl (qv 12 rfl rfl (qp aP 0 13 rfl (qp aP 3 14 rfl (ql 15 rfl 3 D2 rfl rfl rfl (qp ji 1 16 rfl (ql 17 rfl 0 R6 rfl rfl rfl ?_))))))))))))))))
 have bi:=oK.pf [1]
 have sM:=zr 7 bi
 have sN:=zr 5 bi
 obtain⟨eO,iD⟩:∃ q,gQ (aD.mk a.aa (C6 (C7.wrap ((a.bT:Int)+1))) (E0 (a.aC.ls++ [(ed.mk h p1 d.aU a.aa.aF (E0 d.aB.ls) (E0 b) (E0 (r7 b.length false)) (E0 (r7 b.length (E0 []:Ll aQ))) 0)])) a.bM a.bD a.bA a.bC a.bB a.dO a.dG a.dH a.dD a.dE)=q:=⟨_,rfl⟩
 obtain⟨uM,jO,sO,jP,aK⟩:=IZ bi
 refine qd 11 rfl (IP Tryz.call108 rfl (qO _ _ g (aD.mk a.aa (C6 (C7.wrap ((a.bT:Int)+1))) (E0 (a.aC.ls++ [(ed.mk h p1 d.aU a.aa.aF (E0 d.aB.ls) (E0 b) (E0 (r7 b.length false)) (E0 (r7 b.length (E0 []:Ll aQ))) 0)])) a.bM a.bD a.bA a.bC a.bB a.dO a.dG a.dH a.dD a.dE) n p r j N C E dG cK (I++ [(bK.mk h p1 d.aU a.aa.aF (G3 K L d.aB.ls) (G3 ag aJ bu) (G3 B b.length (r7 b.length false)) (G3 M b.length (r7 b.length (G3 none 0 []:bP))) 0)]) O P Q S T U V W X Y eO jO ax (aK _ 6 _ rfl aW) e6 (λ x9 h9=>⟨aK _ 7 _ rfl (az (Q6.2 ⟨x9,h9,b1⟩) aW),bq (φ:=λ _=>_) bi (i:=8) rfl (az (Q6.2 ⟨x9,h9,b1⟩) bn)⟩) (nu (es:= [(bK.mk h p1 d.aU a.aa.aF (G3 K L d.aB.ls) (G3 ag aJ bu) (G3 B b.length (r7 b.length false)) (G3 M b.length (r7 b.length (G3 none 0 []:bP))) 0)]) (ms:= [(ed.mk h p1 d.aU a.aa.aF (E0 d.aB.ls) (E0 b) (E0 (r7 b.length false)) (E0 (r7 b.length (E0 []:Ll aQ))) 0)]) Z (EN (λ z9 z8=> [ed.mk h p1 d.aU a.aa.aF (E0 d.aB.ls) (E0 z9) (E0 (r7 b.length false)) (E0 z8) 0]) bD (L9 (f:=bP.abs)))) (aK _ 4 _ rfl aW) e6 (λ x9 h9=>⟨aK _ 3 _ rfl (az (Q6.2 ⟨x9,h9,b1⟩) aW),bq (φ:=λ _=>_) bi (i:=4) rfl (az (Q6.2 ⟨x9,h9,b1⟩) bn),aK _ 3 _ rfl (az (Q6.2 ⟨x9,h9, .tail _ b1⟩) aW),bq (φ:=λ _=>_) bi (i:=4) rfl (az (Q6.2 ⟨x9,h9, .tail _ b1⟩) bn),(λ y1 k1=>⟨aK _ 3 _ rfl (az (Q6.2 ⟨x9,h9, .tail _ b4⟩) (az (Q6.2 ⟨y1,k1,b1⟩) aW)),bq (φ:=λ _=>_) bi (i:=4) rfl (az (Q6.2 ⟨x9,h9, .tail _ b4⟩) (az (Q6.2 ⟨y1,k1,b1⟩) bn)),aK _ 3 _ rfl (az (Q6.2 ⟨x9,h9, .tail _ b4⟩) (az (Q6.2 ⟨y1,k1, .tail _ b1⟩) aW)),bq (φ:=λ _=>_) bi (i:=4) rfl (az (Q6.2 ⟨x9,h9, .tail _ b4⟩) (az (Q6.2 ⟨y1,k1, .tail _ b1⟩) bn))⟩),aK _ 3 _ rfl (az (Q6.2 ⟨x9,h9, .tail _ b2⟩) aW),bq (φ:=λ _=>_) bi (i:=4) rfl (az (Q6.2 ⟨x9,h9, .tail _ b2⟩) bn),aK _ 3 _ rfl (az (Q6.2 ⟨x9,h9, .tail _ b3⟩) aW),bq (φ:=λ _=>_) bi (i:=4) rfl (az (Q6.2 ⟨x9,h9, .tail _ b3⟩) bn),(λ y1 k1=>⟨aK _ 3 _ rfl (az (Q6.2 ⟨x9,h9, .tail _ b5⟩) (az (Q6.2 ⟨y1,k1,b1⟩) aW)),bq (φ:=λ _=>_) bi (i:=4) rfl (az (Q6.2 ⟨x9,h9, .tail _ b5⟩) (az (Q6.2 ⟨y1,k1,b1⟩) bn)),(λ y2 k2=>⟨aK _ 3 _ rfl (az (Q6.2 ⟨x9,h9, .tail _ b5⟩) (az (Q6.2 ⟨y1,k1, .tail _ b1⟩) (az (Q6.2 ⟨y2,k2,b1⟩) aW))),bq (φ:=λ _=>_) bi (i:=4) rfl (az (Q6.2 ⟨x9,h9, .tail _ b5⟩) (az (Q6.2 ⟨y1,k1, .tail _ b1⟩) (az (Q6.2 ⟨y2,k2,b1⟩) bn)))⟩)⟩)⟩) e8 iD) ?_)
 rintro _ uN ⟨rfl,jQ⟩
 have oL:=jP _ _ jQ
 have jk:=oL.pf [1]
 refine⟨.inr ⟨_,jk⟩, ?_⟩
 refine qk (.agg (iA 3 0 F.bE 0 0 0 0 0 h eO 0 a.aa.aF 0 0 0 false [] [] F.aB.A F.aB.ls.length F.aB.c none 0 0 none 0 0).toArray) 18 rfl ?_
 have oM:=jk.pf [2,21,22]
 obtain⟨iE,iF⟩:∃ q,dM (bU.mk (E0 aG)) (bW.mk 3 0 F.bE 0 0 0 0 0 h eO 0 a.aa.aF 0 0 0 false (aL.mk [] []) (E0 F.aB.ls) (E0 []) (E0 []))=q:=⟨_,rfl⟩
 obtain⟨uO,jS,sP,jU,jV⟩:=Ja oM
 refine qd 19 rfl (IP Tryz.call65 rfl (gV _ _ g0 (bU.mk (E0 aG)) cO cZ bS g (bW.mk 3 0 F.bE 0 0 0 0 0 h eO 0 a.aa.aF 0 0 0 false (aL.mk [] []) (E0 F.aB.ls) (E0 []) (E0 [])) F.aB.A F.aB.ls.length F.aB.c none 0 0 [] none 0 0 iE jS dB rfl (jV _ 3 _ rfl (az (Q6.2 ⟨_,u5 _ b1, .tail _ b4⟩) (az (Q6.2 ⟨F,D1 bV,b1⟩) aW))) e6 rfl rfl (λ _ _=>aY.nil _ _ _) f3 (λ _ h9=>absurd h9 v7) rfl (λ _ _=>aY.nil _ _ _) f3 e8 (by first | assumption | exact d9 f5 | exact λ x hx=>absurd hx v7 | exact d9 (Mk.nK f5).1 | exact d9 (Mk.mh f5).1 | exact d9 (Mk.nV f5).1 | exact d9 (Mk.nW f5).1 | exact d9 (Mk.nX f5).1) iF) ?_)
 rintro _ uP ⟨oN,oO,oP,rfl,jW,iG,iH⟩
 have jl:=jU _ _ jW
 have sQ:=aA iG
 have sS:=zr 1 jl
 replace iH:iE.bF.ls.length=aG.length+1:=iH
 refine⟨.inl e7, ?_⟩
 refine qn (bN (Iq (Il (fw (vJ (u+1)) (Ir (e:=C3.wrap ((u:Int)+1)) yk f0) (Mz rfl (WL.nil ?_))))))
 have oQ:=jl.px [4] [3] [1,2]
 exact II (u+1,oN,oO,oP,iE.bF.ls) ⟨rfl,rfl,rfl,rfl,rfl,trivial⟩ (dz.2 ⟨oQ,by exact iG,e6,e6,e6,et (eD) (et (congrArg (λ q=>gD p1 d a h b q u aG) iB) (et (ae (aT eF)) (et (fP dH) (et (ae iD) (ae iF)))))⟩) (by show b.length - (u+1) < b.length - u; omega)
 refine jF (dF jh) (Wp.exit (IC ?_))
 have jX:gD p1 d a h b b 0 p0.bF.ls=aG:=et (eD) (et (congrArg (λ q=>gD p1 d a h b q u aG) (dZ (ls:=b) (i:=u) e6)) rfl)
 refine IC (IK (IL (res0 rfl) (WL.nil (IL (res0 rfl) ?_))))
 have oU:=bT.px [1,20,21,0,5,6,7,8,9,4] [2] []
 obtain⟨rfl,rfl⟩:=fD (zj hr zq8)
 exact⟨cO,cZ,bS,n,p,r,j,N,C,E,ah,dG,cK,(I++ [(bK.mk h p1 d.aU a.aa.aF (G3 K L d.aB.ls) (G3 ag aJ bu) (G3 B b.length (r7 b.length false)) (G3 M b.length (r7 b.length (G3 none 0 []:bP))) 0)]),O,P,ai,Q,S,aj,T,U,ak,V,W,au,X,Y,av,(by(first | rw [<- eu] | skip); (first | rw [<- eB] | skip); first | done | rfl),oU,dB,ax,aR,(nu (es:= [(bK.mk h p1 d.aU a.aa.aF (G3 K L d.aB.ls) (G3 ag aJ bu) (G3 B b.length (r7 b.length false)) (G3 M b.length (r7 b.length (G3 none 0 []:bP))) 0)]) (ms:= [(ed.mk h p1 d.aU a.aa.aF (E0 d.aB.ls) (E0 b) (E0 (r7 b.length false)) (E0 (r7 b.length (E0 []:Ll aQ))) 0)]) Z (EN (λ z9 z8=> [ed.mk h p1 d.aU a.aa.aF (E0 d.aB.ls) (E0 z9) (E0 (r7 b.length false)) (E0 z8) 0]) bD (L9 (f:=bP.abs)))),aU,aV,aX,aZ,bf⟩
 refine jT (dT eG) (sr (Mz rfl (Mz rfl (Kz (vP dV 6) (Lz (vU d.aU) dx 1 D2 ?_)))))
 have oW:=dx.px [2,3,4] [] [1,5,6,7,8,9,10,11,22,23]
 obtain⟨⟨iI,aI⟩,iJ⟩:∃ q:bU × aD,dL p0 p1 d.aU 2 [] (aD.mk a.aa (C6 (C7.wrap ((a.bT:Int)+1))) (E0 a.aC.ls) a.bM a.bD a.bA a.bC a.bB a.dO a.dG a.dH a.dD a.dE)=q:=⟨_,rfl⟩
 obtain⟨uS,jY,sU,jZ,sV⟩:=Jj oW
 refine cl R7 (jM _ _ g0 p0 bL bM bG p1 d.aU 2 none 0 0 [] [] g (aD.mk a.aa (C6 (C7.wrap ((a.bT:Int)+1))) (E0 a.aC.ls) a.bM a.bD a.bA a.bC a.bB a.dO a.dG a.dH a.dD a.dE) n p r j C E J G O P ai Q S aj T U ak V W au X Y av iI aI jY bF rfl (λ _ _=>aY.nil _ _ _) (λ _ h9=>absurd h9 v7) rfl i7 g6 aU aV aX aZ bf e8 g2 g2 i1 iJ) ?_
 rintro _ uT ⟨oZ,o5,o6,o7,o8,o9,pg,pq,pu,pz,pE,pF,pG,pI,pJ,pK,pM,pO,rfl,j3,iK,iL,iM,iO,iP,iQ,iR⟩
 have bX:=jZ _ _ j3
 have sW:=aA iK
 have tq:=aA iL
 have tu:=aA iM
 have tC:=aA iO
 have tF:=aA iP
 have tH:=aA iQ
 have tJ:=zr 1 bX
 have tK:=zr 4 bX
 have tL:=zr 6 bX
 have tN:=zr 8 bX
 have tO:=zr 10 bX
 have tQ:=zr 12 bX
 replace iR:iI.bF.ls.length=p0.bF.ls.length+1:=iR
 refine nt (rt (tR (Fin.res (res0 rfl) ?_)))
 have pQ:=bX.px [] [14,22,23] [4,5,6,7,8,9,10,11,12,13]
 obtain⟨rfl,rfl⟩:=fD (zj hr zq8)
 exact⟨oZ,o5,o6,n,p,r,j,N,C,E,ah,J,G,I,o7,o8,o9,pg,pq,pu,pz,pE,pF,pG,pI,pJ,pK,pM,pO,rfl,pQ,iK,ax,aR,Z,iL,iM,iO,iP,iQ⟩
end
end Go.Proofs.YtbkagebjhbphaaaGreat
