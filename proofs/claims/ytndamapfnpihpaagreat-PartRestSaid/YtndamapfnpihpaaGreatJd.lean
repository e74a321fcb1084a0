/- The layers told, part 4. Conditions: none beyond each law's own. -/
import Derived.Test.YtndamapfnpihpaaGreatJc
namespace Go.Proofs.YtndamapfnpihpaaGreat
set_option maxRecDepth 100000
set_option linter.unusedVariables false
set_option linter.unusedSimpArgs false
set_option linter.unusedSectionVars false
open Int renaming toNat->G0
open IntKind renaming i64->B5
open List renaming drop->s0,flatMap->q2,flatMap_append->t7,getD->y2,length->q7,length_append->o0,length_cons->r5,length_drop->m9,length_nil->K1,length_replicate->N2,length_set->L7,length_take->m8,map->s1,mem_flatMap->O3,mem_of_getElem?->D4,set->L6,take->t6,toArray->v0
open Ll renaming mk->F2
open Sv renaming mk->N1
open _root_.Go.Proofs.Tryz renaming isAgg112->N5,isAgg118->N6,isAgg32->E1,isAgg37->C6,isAgg4->H2,sizeOf118->N7,sizeOf164->N4,sizeOf37->C5,underlying35->O4,underlying97->K0
open WL renaming nil->B6
open Wp renaming exit->B7,loop->y6
section
open Go.RowKit
abbrev ZB:aF:=aF.mk (aj.mk [] []) false
def jr (b:aW) (c:Nat):aW:=
 bnd (eT b c) λ a=>if a.2=true then aW.mk (F2 (t6 (G0 a.1) b.ai.ls++s0 (G0 (a.1+1)) b.ai.ls)) else b
theorem oL (w D o) (d:aW) (g f b G) (u:aW) (H:Own w D w [blk o [.slice g d.ai.ls.length f] 114,row g d.ai.ls.length f (q2 ay.cells b) 164 6,sepL (q2 Iy b)]) (c:s1 ay.abs b=d.ai.ls) (Y:d.ai.ls.length<=1000000) (hr:jr d G=u):
    Calls Tryz.prog 120 #[vP o 0,vU G] w (dI λ v w'=> ∃ l m h,v= .tuple #[]/\Own w D w' [blk o [.slice l u.ai.ls.length m] 114,row l u.ai.ls.length m (q2 ay.cells h) 164 6,sepL (q2 Iy h)]/\(s1 ay.abs h=u.ai.ls)/\(u.ai.ls.length<=d.ai.ls.length)):=by
 unfold jr at hr
 have I:=aY c
 have J:=H.rowC (i:=1) rfl
 refine cb Tryz.func120 ?_
 refine sr (Mz rfl (Mz rfl ?_))
 have Q:=H.rowC (i:=1) rfl
 obtain⟨⟨a,k⟩,n⟩:∃ q:Int × Bool,eT d G=q:=⟨_,rfl⟩
 obtain⟨Z,x,R,y,p⟩:=IE H
 refine cl Tryz.call114 (lL _ _ o d g f b G a k x c (p _ 0 _ rfl bP) e8 (λ S T=>⟨p _ 1 _ rfl (bL (O3.2 ⟨S,T,b3⟩) bP),dC (φ:=λ _=>_) H (i:=2) rfl (bL (O3.2 ⟨S,T,b3⟩) dK)⟩) f9 n) ?_
 rintro _ aa ⟨rfl,z,r,s⟩
 have t:=y _ _ z
 replace r:0<=a/\a<=(d.ai.ls.length:Int):=r
 replace s:Bool.toNat k=0\/a < (d.ai.ls.length:Int):=s
 refine Mz rfl (Kz (vI a) (Kz (.bool k) (Az rfl (Ar rfl (Mn rfl ?_)))))
 rcases Lr (k) with j | j
 have h35t:Bool.toNat k=1:=by rw [j]; rfl
 refine jT j (H8 (Mz rfl (Mz rfl (Kz (vP o 0) (Kz (vP o 0) (Lz (.slice g d.ai.ls.length f) t 0 N5 (Mz rfl (Mz rfl (fw (vI (a+1)) (Ig (e:=B5.wrap (a+1)) yk i5) ?_)))))))))
 have K:=t.pb [0]
 obtain⟨af,A,U,B,V⟩:=IX K
 refine cl Tryz.call170 (Ex _ _ g d.ai.ls.length f b d.ai.ls a (a+1) A e8 c e8 e8) ?_
 rintro _ ag ⟨C,E,rfl,F⟩
 have L:=B _ _ F
 have W:q7 (t6 (G0 a) b++s0 (G0 (a+1)) b)=q7 (t6 (G0 a) d.ai.ls++s0 (G0 (a+1)) d.ai.ls):=by exact aY (nU c)
 have X:q7 (t6 (G0 a) d.ai.ls++s0 (G0 (a+1)) d.ai.ls)+((G0 (a+1)) - (G0 a))=d.ai.ls.length:=by simp only [o0,m8,m9]; omega
 refine Kz (vP o 0) (Kz (vP o 0) ?_)
 have M:=L.pf [2]
 refine cu [.slice C (q7 (t6 (G0 a) d.ai.ls++s0 (G0 (a+1)) d.ai.ls)) E] 0 M Tryz.sizeOf112 ?_
 intro ah N
 refine B6 (IV (res0 rfl) ?_)
 have O:=N.pf []
 obtain rfl:=zj hr zq2
 exact⟨C,E,(t6 (G0 a) b++s0 (G0 (a+1)) b),rfl,O,(nU c),i9⟩
 have h35t:Bool.toNat k=0:=by rw [j]; rfl
 refine jF j (IG (IV (res0 rfl) ?_))
 have P:=t.pf []
 obtain rfl:=zj hr zq2
 exact⟨g,f,b,rfl,P,c,i9⟩
structure lT where
 aS:Sv Nat
 dE:Sv Nat
def lT.cells (x:lT):List Value:= [.slice x.aS.A x.aS.ls.length x.aS.c, .slice x.dE.A x.dE.ls.length x.dE.c]
instance:Bk lT:=⟨λ x _=>bk x.aS+(bk x.dE+(0))⟩
theorem lT.len:∀ x,(lT.cells x).length=2:=λ _=>rfl
theorem lT.one:∀ x, ∀ u ∈ lT.cells x,u.oneCell'=true:=λ x u hu=>by
 simp only [lT.cells,List.mem_cons,List.not_mem_nil,or_false] at hu
 rcases hu with rfl | rfl <;> rfl
def KW (w:World) (x:lT):Prop:=(mM w 1 8 (eN .u64) (λ n=>n<=18446744073709551615) x.aS)/\(mM w 1 8 (eN .u64) (λ n=>n<=18446744073709551615) x.dE)
instance:Inhabited lT:=⟨⟨default,default⟩⟩
structure eZ where
 aS:Ll Nat
 dE:Ll Nat
instance:Inhabited eZ:=⟨⟨default,default⟩⟩
def lT.abs (x:lT):eZ:=⟨⟨x.aS.ls⟩,⟨x.dE.ls⟩⟩
def KS (x:lT):List HP:= [row x.aS.A x.aS.ls.length x.aS.c (q2 (eN .u64) x.aS.ls) 32 1,row x.dE.A x.dE.ls.length x.dE.c (q2 (eN .u64) x.dE.ls) 32 1]
def dQ (j:aW) (k:Nat) (i:aF) (m:eZ) (c:Int) (b:aM) (d:aM) (e:aM):Nat->List Nat->Nat->(List Nat)
  | 0,f,g=>f
  | h+1,f,g=>bnd (y2 (L6 (L6 (L6 j.ai.ls (G0 c) (aM.mk b.au (F2 (b.aG.ls++ [i])) b.bn b.bg)) (G0 c) (aM.mk d.au (F2 d.aG.ls) false d.bg)) (G0 c) (aM.mk e.au (F2 e.aG.ls) e.bn ZB)) g default) λ a=>if a.bn=true then if(a.au:Int) > (k:Int) then bnd (kT i.aA a.bg.aA) λ l=>if l.2=true then if i.eU=true then dQ j k i m c b d e h (f++ [a.au]) (g+1) else if a.bg.eU=true then dQ j k i m c b d e h (f++ [a.au]) (g+1) else dQ j k i m c b d e h f (g+1) else dQ j k i m c b d e h f (g+1) else dQ j k i m c b d e h f (g+1) else dQ j k i m c b d e h f (g+1)
def gY (f:eZ) (e:List Nat):List Nat->List aM->(List aM)
  | [],a=>a
  | c::d,a=>bnd (jr (aW.mk (F2 a)) c) λ b=>gY f e d b.ai.ls
def dR (j:aW) (k:Nat) (i:aF) (m:eZ) (g:Int) (a:aM) (b:aM) (c:aM):Nat->List Nat->Nat->(List Nat)
  | 0,e,f=>e
  | h+1,e,f=>bnd (y2 (L6 (L6 (L6 (t6 (G0 g) j.ai.ls++((aM.mk k (F2 []) false ZB)::s0 (G0 g) j.ai.ls)) (G0 g) (aM.mk a.au (F2 (a.aG.ls++ [i])) a.bn a.bg)) (G0 g) (aM.mk b.au (F2 b.aG.ls) false b.bg)) (G0 g) (aM.mk c.au (F2 c.aG.ls) c.bn ZB)) f default) λ d=>if d.bn=true then if(d.au:Int) > (k:Int) then bnd (kT i.aA d.bg.aA) λ l=>if l.2=true then if i.eU=true then dR j k i m g a b c h (e++ [d.au]) (f+1) else if d.bg.eU=true then dR j k i m g a b c h (e++ [d.au]) (f+1) else dR j k i m g a b c h e (f+1) else dR j k i m g a b c h e (f+1) else dR j k i m g a b c h e (f+1) else dR j k i m g a b c h e (f+1)
def gZ (f:eZ) (c:List Nat):List Nat->List aM->(List aM)
  | [],a=>a
  | d::e,a=>bnd (jr (aW.mk (F2 a)) d) λ b=>gZ f c e b.ai.ls
def ja (g:aW) (i:Nat) (j:aF) (k:eZ):aW × eZ:=
 bnd (eT g i) λ a=>if a.2=true then bnd (y2 g.ai.ls (G0 a.1) default) λ c=>bnd (y2 (L6 g.ai.ls (G0 a.1) (aM.mk c.au (F2 (c.aG.ls++ [j])) c.bn c.bg)) (G0 a.1) default) λ e=>bnd (y2 (L6 (L6 g.ai.ls (G0 a.1) (aM.mk c.au (F2 (c.aG.ls++ [j])) c.bn c.bg)) (G0 a.1) (aM.mk e.au (F2 e.aG.ls) false e.bg)) (G0 a.1) default) λ h=>bnd (dQ g i j k a.1 c e h g.ai.ls.length [] 0) λ sLrbtbbbL=>bnd (gY k sLrbtbbbL sLrbtbbbL (L6 (L6 (L6 g.ai.ls (G0 a.1) (aM.mk c.au (F2 (c.aG.ls++ [j])) c.bn c.bg)) (G0 a.1) (aM.mk e.au (F2 e.aG.ls) false e.bg)) (G0 a.1) (aM.mk h.au (F2 h.aG.ls) h.bn ZB))) λ sLrbtbbbLaL=>(aW.mk (F2 sLrbtbbbLaL),eZ.mk (F2 k.aS.ls) (F2 (k.dE.ls++sLrbtbbbL))) else bnd (y2 (t6 (G0 a.1) g.ai.ls++((aM.mk i (F2 []) false ZB)::s0 (G0 a.1) g.ai.ls)) (G0 a.1) default) λ b=>bnd (y2 (L6 (t6 (G0 a.1) g.ai.ls++((aM.mk i (F2 []) false ZB)::s0 (G0 a.1) g.ai.ls)) (G0 a.1) (aM.mk b.au (F2 (b.aG.ls++ [j])) b.bn b.bg)) (G0 a.1) default) λ d=>bnd (y2 (L6 (L6 (t6 (G0 a.1) g.ai.ls++((aM.mk i (F2 []) false ZB)::s0 (G0 a.1) g.ai.ls)) (G0 a.1) (aM.mk b.au (F2 (b.aG.ls++ [j])) b.bn b.bg)) (G0 a.1) (aM.mk d.au (F2 d.aG.ls) false d.bg)) (G0 a.1) default) λ f=>bnd (dR g i j k a.1 b d f (q7 (t6 (G0 a.1) g.ai.ls++((aM.mk i (F2 []) false ZB)::s0 (G0 a.1) g.ai.ls))) [] 0) λ sLrbfbbbL=>bnd (gZ k sLrbfbbbL sLrbfbbbL (L6 (L6 (L6 (t6 (G0 a.1) g.ai.ls++((aM.mk i (F2 []) false ZB)::s0 (G0 a.1) g.ai.ls)) (G0 a.1) (aM.mk b.au (F2 (b.aG.ls++ [j])) b.bn b.bg)) (G0 a.1) (aM.mk d.au (F2 d.aG.ls) false d.bg)) (G0 a.1) (aM.mk f.au (F2 f.aG.ls) f.bn ZB))) λ sLrbfbbbLaL=>(aW.mk (F2 sLrbfbbbLaL),eZ.mk (F2 k.aS.ls) (F2 (k.dE.ls++sLrbfbbbL)))
theorem qZ (w D g0) (j:aW) (E T p B) (C:aF) (g3) (K:eZ) (N O P Q) (r0:aW) (r1:eZ) (H:Own w D w [blk g0 [.slice E j.ai.ls.length T] 114,row E j.ai.ls.length T (q2 ay.cells p) 164 6,sepL (q2 Iy p),blk g3 [.slice N K.aS.ls.length O, .slice P K.dE.ls.length Q] 157,row N K.aS.ls.length O (q2 (eN .u64) K.aS.ls) 32 1,row P K.dE.ls.length Q (q2 (eN .u64) K.dE.ls) 32 1]) (M:s1 ay.abs p=j.ai.ls) (qN:j.ai.ls.length<=999999) (fq:Hd j.ai.ls) (qO:K.dE.ls.length<=10000000000000) (hr:ja j B C K=(r0,r1)):
    Calls Tryz.prog 72 #[vP g0 0,vU B, .agg (aF.cells C).toArray,vP g3 0] w (dI λ v w'=> ∃ dh di bR dm dn dw dx,v= .tuple #[]/\Own w D w' [blk g0 [.slice dh r0.ai.ls.length di] 114,row dh r0.ai.ls.length di (q2 ay.cells bR) 164 6,sepL (q2 Iy bR),blk g3 [.slice dm r1.aS.ls.length dn, .slice dw r1.dE.ls.length dx] 157,row dm r1.aS.ls.length dn (q2 (eN .u64) r1.aS.ls) 32 1,row dw r1.dE.ls.length dx (q2 (eN .u64) r1.dE.ls) 32 1]/\(s1 ay.abs bR=r0.ai.ls)):=by
 unfold ja at hr
 have mr:=aY M
 have mD:=H.rowC (i:=1) rfl
 have mE:=H.rowC (i:=4) rfl
 have mF:=H.rowC (i:=5) rfl
 refine cb Tryz.func72 ?_
 refine sr ?_
 refine bW (aF.cells C) 118 H ?_
 intro fu qP mG
 refine ns (Mz rfl (Mz rfl ?_))
 refine WL.do rfl (IB Tryz.call74 rfl ?_ (λ _ _ k=>k))
 refine cb Tryz.func74 ?_
 refine sr (Ar rfl (Mz rfl (Mz rfl ?_)))
 have gL:=mG.pf [1]
 have oW:=gL.rowC (i:=2) rfl
 obtain⟨⟨a,bS⟩,dz⟩:∃ q:Int × Bool,eT j B=q:=⟨_,rfl⟩
 obtain⟨qQ,iV,oZ,iW,fA⟩:=IE gL
 refine cl Tryz.call114 (lL _ _ g0 j E T p B a bS iV M (fA _ 1 _ rfl bP) e8 (λ x9 h9=>⟨fA _ 2 _ rfl (bL (O3.2 ⟨x9,h9,b3⟩) bP),dC (φ:=λ _=>_) gL (i:=3) rfl (bL (O3.2 ⟨x9,h9,b3⟩) dK)⟩) f9 dz) ?_
 rintro _ qR ⟨rfl,iX,fC,fD⟩
 have bT:=iW _ _ iX
 replace fC:0<=a/\a<=(j.ai.ls.length:Int):=fC
 replace fD:Bool.toNat bS=0\/a < (j.ai.ls.length:Int):=fD
 refine Mz rfl (Kz (vI a) (Kz (.bool bS) (Az rfl (An rfl (H7 (sr (Mz rfl (Kz (.bool (!bS)) (nt ?_)))))))))
 rcases Lr (bS) with bU | bU
 have h39t:Bool.toNat bS=1:=by rw [bU]; rfl
 refine jF (cn bU) (sk (sr (Mz rfl (Kz (vP g0 0) (Kz (vP g0 0) (Lz (.slice E j.ai.ls.length T) bT 0 N5 (fw (vJ (G0 a)) (Ig (e:=a) (Ie rfl) e8) ?_)))))))
 obtain⟨d,aP⟩:=dG (ls:=p) (i:=G0 a) ay.len f5 (bT.rds (i:=2) rfl) f2
 have fE:=fO M aP
 have o7:d.aG.ls.length<=d.aG.c/\d.aG.ls.length<=9223372036854775807:=dC bT (i:=3) rfl (φ:=λ _=>_) (bL (O3.2 ⟨d,D4 aP,b3⟩) dK)
 have o8:d.aG.ls.length<=1000000:=by have q9:Hd j.ai.ls:=j2; exact q9 _ (D4 fE)
 refine fw (.pointer (some ⟨ab E,ao E+(G0 a) *6,none⟩)) (Im (jk) rfl rfl ((bT.rds (i:=2) rfl).addr (i:=G0 a) e8) e8) (An rfl (rt (rs (An rfl (H7 ?_)))))
 refine mJ 7 [7,10] (Ik Iw) bT ?_
 intro qU mI
 refine IP (v:= .pointer (some ⟨ab E,ao E+(G0 a) *6,none⟩)) 0 rfl e9 (λ _=>Ie rfl) (qv 1 rfl rfl (qk (.pointer (some ⟨ab E,ao E+(G0 a) *6,none⟩)) 2 rfl (qk (.pointer (some ⟨ab E,ao E+(G0 a) *6+1,none⟩)) 3 rfl (qt (v:= .slice d.aG.A d.aG.ls.length d.aG.c) 4 rfl (λ _ ⟨_,H9⟩=>Il rfl (bQ.one Tryz.isAgg97 (((H9.rds (i:=2) rfl).elem ay.len aP f5).at_ (k:=1) rfl))) (qt (v:= .agg (aF.cells C).toArray) 5 rfl (λ _ ⟨_,H9⟩=>Il rfl (Io (cs:=(aF.cells C)) N6 N7 ((H9.cls (i:=1) rfl).lit (k:=0) (m:=3) rfl))) ?_)))))
 refine qd 6 rfl (IZ (cs:=(aF.cells C)) (t:=118) (sz:=3) (m:=1) mI rfl rfl (λ _=>by kernel_rfl) rfl f5 ?_)
 intro mK mM gN
 replace gN:=IL (y:=row mK 1 1 (q2 aF.cells ([C])) 118 3) rfl gN
 have iY:=gN.pb [0]
 refine⟨.inr ⟨_,iY⟩, ?_⟩
 have mO:=iY.pf [3]
 have gP:Own w D mM (row d.aG.A d.aG.ls.length d.aG.c (q2 aF.cells d.aG.ls) 118 3::sepL (q2 Iy (t6 (G0 a) p)++q2 Iy (s0 (G0 a+1) p))::_):=Jy (f:=Iy) (i:=G0 a) aP mO
 have o9:=gP.rowC (i:=0) rfl
 refine qd 7 rfl (IC (k:=d.aG.ls.length) (m:=1) (uy) gP rfl rfl (eY K0 (gP.rds (i:=8) rfl) (cZ aF.one ([C]))) rfl e8 (s:=q7 (d.aG.ls++ [C])) f3 (t7).symm ?_)
 intro av ax mP mQ
 have pg:q7 (d.aG.ls++ [C])=d.aG.ls.length+1:=by simp only [o0,r5,K1]
 refine⟨.inl e9, ?_⟩
 refine IP (v:= .pointer (some ⟨ab E,ao E+(G0 a) *6,none⟩)) 8 rfl e9 (λ _=>yk) (IP (v:= .pointer (some ⟨ab E,ao E+(G0 a) *6+1,none⟩)) 9 rfl e9 (λ _=>yk) ?_)
 have mR:Own w D mP (sepL (q2 Iy (L6 p (G0 a) (ay.mk d.au (N1 av ax (d.aG.ls++ [C])) d.bn d.bg)))::_):=JJ (f:=Iy) (y:=(ay.mk d.au (N1 av ax (d.aG.ls++ [C])) d.bn d.bg)) aP mQ
 have mU:=mR.pf [3]
 refine qe 10 rfl (Do.storeRow (vs:= [.slice av (q7 (d.aG.ls++ [C])) ax]) (o:=(G0 a) *6+1) (q:=ao E+(G0 a) *6+1) mU rfl e8 rfl Tryz.sizeOf97 rfl rfl (Lh rfl) (jA ay.len aP (Lh rfl)) (j6 (y:=(ay.mk d.au (N1 av ax (d.aG.ls++ [C])) d.bn d.bg)) ay.len rfl (Lh rfl) aP) ?_)
 intro qV mV
 have pu:q7 (L6 p (G0 a) (ay.mk d.au (N1 av ax (d.aG.ls++ [C])) d.bn d.bg))=q7 (L6 j.ai.ls (G0 a) (aM.mk d.au (F2 (d.aG.ls++ [C])) d.bn d.bg)):=aY (eH M rfl)
 have pz:q7 (L6 j.ai.ls (G0 a) (aM.mk d.au (F2 (d.aG.ls++ [C])) d.bn d.bg))=j.ai.ls.length:=L7
 refine⟨.inl e9, ?_⟩
 refine qn (Ib (H7 ?_))
 have gQ:=mV.px [] [7] []
 refine H8 (Mz rfl (Mz rfl (Kz (.agg #[.string ⟨v0 []⟩, .string ⟨v0 []⟩, .bool false]) (Kz (.pointer (some ⟨ab E,ao E+(G0 a) *6,none⟩)) (Kz (.pointer (some ⟨ab E,ao E+(G0 a) *6+2,none⟩)) ?_)))))
 obtain⟨l,bB⟩:=dG (ls:=(L6 p (G0 a) (ay.mk d.au (N1 av ax (d.aG.ls++ [C])) d.bn d.bg))) (i:=G0 a) ay.len f5 (gQ.rds (i:=0) rfl) f2
 have iZ:=fO (eH M rfl) bB
 have pE:l.aG.ls.length<=l.aG.c/\l.aG.ls.length<=9223372036854775807:=dC gQ (i:=1) rfl (φ:=λ _=>_) (bL (O3.2 ⟨l,D4 bB,b3⟩) dK)
 refine I5 (Do.storeRow (vs:= [.bool false]) (o:=(G0 a) *6+2) (q:=ao E+(G0 a) *6+2) gQ rfl e8 rfl Tryz.sizeOf4 rfl rfl (Lh rfl) (jA ay.len bB (Lh rfl)) (j6 (y:=(ay.mk l.au l.aG false l.bg)) ay.len rfl (Lh rfl) bB) ?_)
 intro mW mX
 have gU:Own w D mW [row E j.ai.ls.length T (q2 ay.cells (L6 (L6 p (G0 a) (ay.mk d.au (N1 av ax (d.aG.ls++ [C])) d.bn d.bg)) (G0 a) (ay.mk l.au l.aG false l.bg))) 164 6,sepL (q2 Iy (L6 (L6 p (G0 a) (ay.mk d.au (N1 av ax (d.aG.ls++ [C])) d.bn d.bg)) (G0 a) (ay.mk l.au l.aG false l.bg))),blk g0 [.slice E j.ai.ls.length T] 114,blk fu (aF.cells C) 118,blk g3 [.slice N K.aS.ls.length O, .slice P K.dE.ls.length Q] 157,row N K.aS.ls.length O (q2 (eN .u64) K.aS.ls) 32 1,row P K.dE.ls.length Q (q2 (eN .u64) K.dE.ls) 32 1]:=by rw [lU (f:=Iy) (y:=(ay.mk l.au l.aG false l.bg)) bB rfl]; exact mX
 have pF:q7 (L6 (L6 p (G0 a) (ay.mk d.au (N1 av ax (d.aG.ls++ [C])) d.bn d.bg)) (G0 a) (ay.mk l.au l.aG false l.bg))=q7 (L6 (L6 j.ai.ls (G0 a) (aM.mk d.au (F2 (d.aG.ls++ [C])) d.bn d.bg)) (G0 a) (aM.mk l.au (F2 l.aG.ls) false l.bg)):=aY (eH (eH M rfl) rfl)
 have pG:q7 (L6 (L6 j.ai.ls (G0 a) (aM.mk d.au (F2 (d.aG.ls++ [C])) d.bn d.bg)) (G0 a) (aM.mk l.au (F2 l.aG.ls) false l.bg))=q7 (L6 j.ai.ls (G0 a) (aM.mk d.au (F2 (d.aG.ls++ [C])) d.bn d.bg)):=L7
 refine Kz (.pointer (some ⟨ab E,ao E+(G0 a) *6,none⟩)) (Kz (.pointer (some ⟨ab E,ao E+(G0 a) *6+3,none⟩)) ?_)
 obtain⟨x,bC⟩:=dG (ls:=(L6 (L6 p (G0 a) (ay.mk d.au (N1 av ax (d.aG.ls++ [C])) d.bn d.bg)) (G0 a) (ay.mk l.au l.aG false l.bg))) (i:=G0 a) ay.len f5 (gU.rds (i:=0) rfl) f2
 have jb:=fO (eH (eH M rfl) rfl) bC
 have pI:x.aG.ls.length<=x.aG.c/\x.aG.ls.length<=9223372036854775807:=dC gU (i:=1) rfl (φ:=λ _=>_) (bL (O3.2 ⟨x,D4 bC,b3⟩) dK)
 refine I5 (Do.storeRow (vs:= [.string ⟨v0 []⟩, .string ⟨v0 []⟩, .bool false]) (o:=(G0 a) *6+3) (q:=ao E+(G0 a) *6+3) gU rfl e8 rfl N7 rfl rfl (Lh rfl) (jA ay.len bC (Lh rfl)) (j6 (y:=(ay.mk x.au x.aG x.bn ZB)) ay.len rfl (Lh rfl) bC) ?_)
 intro mY mZ
 have jc:Own w D mY [row E j.ai.ls.length T (q2 ay.cells (L6 (L6 (L6 p (G0 a) (ay.mk d.au (N1 av ax (d.aG.ls++ [C])) d.bn d.bg)) (G0 a) (ay.mk l.au l.aG false l.bg)) (G0 a) (ay.mk x.au x.aG x.bn ZB))) 164 6,sepL (q2 Iy (L6 (L6 (L6 p (G0 a) (ay.mk d.au (N1 av ax (d.aG.ls++ [C])) d.bn d.bg)) (G0 a) (ay.mk l.au l.aG false l.bg)) (G0 a) (ay.mk x.au x.aG x.bn ZB))),blk g0 [.slice E j.ai.ls.length T] 114,blk fu (aF.cells C) 118,blk g3 [.slice N K.aS.ls.length O, .slice P K.dE.ls.length Q] 157,row N K.aS.ls.length O (q2 (eN .u64) K.aS.ls) 32 1,row P K.dE.ls.length Q (q2 (eN .u64) K.dE.ls) 32 1]:=by rw [lU (f:=Iy) (y:=(ay.mk x.au x.aG x.bn ZB)) bC rfl]; exact mZ
 have pJ:q7 (L6 (L6 (L6 p (G0 a) (ay.mk d.au (N1 av ax (d.aG.ls++ [C])) d.bn d.bg)) (G0 a) (ay.mk l.au l.aG false l.bg)) (G0 a) (ay.mk x.au x.aG x.bn ZB))=q7 (L6 (L6 (L6 j.ai.ls (G0 a) (aM.mk d.au (F2 (d.aG.ls++ [C])) d.bn d.bg)) (G0 a) (aM.mk l.au (F2 l.aG.ls) false l.bg)) (G0 a) (aM.mk x.au (F2 x.aG.ls) x.bn ZB)):=aY (eH (eH (eH M rfl) rfl) rfl)
 have pK:q7 (L6 (L6 (L6 j.ai.ls (G0 a) (aM.mk d.au (F2 (d.aG.ls++ [C])) d.bn d.bg)) (G0 a) (aM.mk l.au (F2 l.aG.ls) false l.bg)) (G0 a) (aM.mk x.au (F2 x.aG.ls) x.bn ZB))=q7 (L6 (L6 j.ai.ls (G0 a) (aM.mk d.au (F2 (d.aG.ls++ [C])) d.bn d.bg)) (G0 a) (aM.mk l.au (F2 l.aG.ls) false l.bg)):=L7
 refine ns (Mz rfl (La (aF.cells C) jc 3 N6 N7 ?_))
 refine WL.do rfl (IB Tryz.call118 rfl ?_ (λ _ _ k=>k))
 refine cb Tryz.func118 ?_
 refine sr ?_
 refine bW [vU B] 32 jc ?_
 intro dA qW ng
 refine bW (aF.cells C) 118 ng ?_
 intro bV ni nk
 refine Ar rfl (Kz (.func (.func 169) #[] #[vP bV 0,vP dA 0]) (An rfl (rt (rs (An rfl (H7 ?_))))))
 have jd:=nk.px [] [5] []
 refine H8 (An rfl (H7 (sr (Mz rfl (Kz (vP g0 0) (Kz (vP g0 0) (Lz (.slice E j.ai.ls.length T) jd 4 N5 (Kz (vJ j.ai.ls.length) (Mn rfl (bo ?_))))))))))
 have nu:Own w D ni (row none 0 0 (q2 (eN .u64) []) 32 1::_):=jd.free (bZ 32 1)
 have ny:=nu.pb [0]
 obtain⟨je,aA⟩:=vQ λ aG (aL:Nat) F (L:Nat) w'=>Own w D w' [blk bV (aF.cells C) 118,blk dA [vU B] 32,row E j.ai.ls.length T (q2 ay.cells (L6 (L6 (L6 p (G0 a) (ay.mk d.au (N1 av ax (d.aG.ls++ [C])) d.bn d.bg)) (G0 a) (ay.mk l.au l.aG false l.bg)) (G0 a) (ay.mk x.au x.aG x.bn ZB))) 164 6,sepL (q2 Iy (L6 (L6 (L6 p (G0 a) (ay.mk d.au (N1 av ax (d.aG.ls++ [C])) d.bn d.bg)) (G0 a) (ay.mk l.au l.aG false l.bg)) (G0 a) (ay.mk x.au x.aG x.bn ZB))),blk g0 [.slice E j.ai.ls.length T] 114,blk g3 [.slice N K.aS.ls.length O, .slice P K.dE.ls.length Q] 157,row N K.aS.ls.length O (q2 (eN .u64) K.aS.ls) 32 1,row P K.dE.ls.length Q (q2 (eN .u64) K.dE.ls) 32 1,row aG F.length aL (q2 (eN .u64) F) 32 1]/\L<=j.ai.ls.length/\F.length<=L/\dQ j B C K a (ay.abs d) (ay.abs l) (ay.abs x) j.ai.ls.length [] 0=dQ j B C K a (ay.abs d) (ay.abs l) (ay.abs x) (j.ai.ls.length - L) F L
 refine y6 (λ i:(Option Addr) × Nat × (List Nat) × Nat=> [(10, .slice i.1 i.2.2.1.length i.2.1),(43,vJ i.2.2.2),(42,vJ j.ai.ls.length),(41, .slice E j.ai.ls.length T),(9, .func (.func 169) #[] #[vP bV 0,vP dA 0]),(0,vP g0 0),(1,vU B),(3,vP g3 0)]) je (λ i=>j.ai.ls.length - i.2.2.2) (none,0, [],0) ⟨rfl,rfl,rfl,rfl,rfl,rfl,rfl,rfl,trivial⟩ (aA.2 ⟨ny,(show 0<=j.ai.ls.length/\0<=0/\dQ j B C K a (ay.abs d) (ay.abs l) (ay.abs x) j.ai.ls.length [] 0=dQ j B C K a (ay.abs d) (ay.abs l) (ay.abs x) (j.ai.ls.length - 0) [] 0 from ⟨e8,e8,rfl⟩)⟩) ?_
 rintro ⟨aG,aL,F,L⟩ nz gV
 show Wp _ _ _ [(10, .slice aG F.length aL),(43,vJ L),(42,vJ j.ai.ls.length),(41, .slice E j.ai.ls.length T),(9, .func (.func 169) #[] #[vP bV 0,vP dA 0]),(0,vP g0 0),(1,vU B),(3,vP g3 0)] _ _
 obtain⟨df,nA,nC,aH⟩:=aA.1 gV
 refine sr (Kz (.bool (decide ((L:Int) < (j.ai.ls.length:Int)))) (nt (H7 ?_)))
 by_cases fF:(L:Int) < (j.ai.ls.length:Int)
 refine jT (dT fF) (sk (H7 (bo (sr ?_))))
 obtain⟨G,bX⟩:=dG (ls:=(L6 (L6 (L6 p (G0 a) (ay.mk d.au (N1 av ax (d.aG.ls++ [C])) d.bn d.bg)) (G0 a) (ay.mk l.au l.aG false l.bg)) (G0 a) (ay.mk x.au x.aG x.bn ZB))) (i:=L) ay.len f5 (df.rds (i:=2) rfl) f2
 have aN:=fO (eH (eH (eH M rfl) rfl) rfl) bX
 have nD:G.aG.ls.length<=G.aG.c/\G.aG.ls.length<=9223372036854775807:=dC df (i:=3) rfl (φ:=λ _=>_) (bL (O3.2 ⟨G,D4 bX,b3⟩) dK)
 refine fw (.pointer (some ⟨ab E,ao E+L *6,none⟩)) (Im (jk) rfl rfl ((df.rds (i:=2) rfl).addr (i:=L) e8) e8) (fw (.agg (ay.cells G).toArray) (Il rfl (Io (cs:=(ay.cells G)) Tryz.isAgg164 N4 ((df.rds (i:=2) rfl).elem ay.len bX f5))) ?_)
 refine bW [.int .u64 0, .slice none 0 0, .bool false, .string ⟨v0 []⟩, .string ⟨v0 []⟩, .bool false] 164 df ?_
 intro bg pM jg
 refine cu (ay.cells G) 0 jg N4 ?_
 intro pO aQ
 refine ns (Kz (vP bg 2) (Lz (.bool G.bn) aQ 0 H2 (Mz rfl ?_)))
 rcases Lr (G.bn) with W | W
 refine Gz (vP bg 0) W (Gl (vU G.au) W aQ 0 E1 (IQ (v:=vU B) rfl rfl W rfl (Ie rfl) (Gz (.bool (decide ((G.au:Int) > (B:Int)))) W (fw (.bool (decide ((G.au:Int) > (B:Int)))) (Ic rfl W rfl) (Mz rfl ?_)))))
 by_cases R:(G.au:Int) > (B:Int)
 refine gw (.func (.func 169) #[] #[vP bV 0,vP dA 0]) (dT R) (Ie rfl) (Gz (vP bg 0) (dT R) (Gl (vU G.au) (dT R) aQ 0 E1 (Gz (vP bg 3) (dT R) (Ga (aF.cells G.bg) (dT R) aQ 0 N6 N7 ?_))))
 refine I9 rfl rfl (dT R) rfl (IM Tryz.call169 rfl rfl ?_ (λ _ _ k=>k))
 refine cb Tryz.func169 ?_
 refine sr ?_
 refine bW (aF.cells G.bg) 118 aQ ?_
 intro fG pQ dB
 refine Ar rfl (Kz (vP bV 0) (La (aj.cells C.aA) dB 2 C6 C5 (Kz (vP fG 0) (La (aj.cells G.bg.aA) dB 0 C6 C5 ?_))))
 obtain⟨⟨dD,bD⟩,aR⟩:∃ q:aj × Bool,kT C.aA G.bg.aA=q:=⟨_,rfl⟩
 obtain⟨pR,gW,nE,gX,nG⟩:=Ia dB
 refine cl Tryz.call152 (pq _ _ C.aA G.bg.aA dD bD gW aR) ?_
 rintro _ pU ⟨rfl,ib⟩
 have jh:=gX _ _ ib
 refine Mz rfl (Kz (.agg (aj.cells dD).toArray) (Kz (.bool bD) ?_))
 refine bW [.string ⟨v0 []⟩, .string ⟨v0 []⟩] 37 jh ?_
 intro pV pW ji
 refine cu (aj.cells dD) 0 ji C5 ?_
 intro pX jl
 refine An rfl (H7 ?_)
 have aS:=jl.px [] [0] []
 refine H8 (Mz rfl (Lz (vU B) aS 3 E1 (fw (.bool (decide (¬ ((G.au:Int)=(B:Int))))) (Iu (e:= !(decide ((G.au:Int)=(B:Int)))) yk decide_not.symm) (Mz rfl ?_))))
 have dE:(decide (¬ ((G.au:Int)=(B:Int))))=true:=(dT e8)
 refine IQ (v:= .bool bD) rfl rfl dE rfl (Ie rfl) (fw (.bool bD) (Ic rfl dE rfl) (Mz rfl ?_))
 rcases Lr (bD) with X | X
 refine Gz (vP bV 2) X (Gl (.bool C.eU) X aS 2 H2 (IQ (v:= .bool C.eU) rfl rfl X rfl (Ie rfl) ?_))
 rcases Lr (C.eU) with aC | aC
 refine Sz aC (Sz aC (IQ (v:= .bool true) rfl rfl X rfl (Ic rfl aC rfl) (fw (.bool true) (Ic rfl X rfl) (An rfl (rt (rs (fw (.bool true) (Ic rfl (dT R) rfl) (nt (jt ?_)))))))))
 have fH:=aS.px [] [0] []
 refine H8 (Mz rfl (Kz (vP bg 0) (Lz (vU G.au) fH 0 E1 ?_)))
 refine jN [vU G.au] 32 1 1 fH ?_
 intro jm pY dH
 replace dH:=IL (y:=row jm 1 1 (q2 (eN .u64) ([G.au])) 32 1) rfl dH
 have fI:=dH.pf [10]
 refine WL.do rfl (IC (k:=F.length) (m:=1) (iH) fI rfl rfl (eY O4 (fI.rds (i:=1) rfl) (cZ mi ([G.au]))) rfl e8 (s:=q7 (F++ [G.au])) f3 (t7).symm ?_)
 intro jo jq p8 jv
 have nH:q7 (F++ [G.au])=F.length+1:=by simp only [o0,r5,K1]
 refine Az rfl (B6 (bN (Ib ?_)))
 have jw:=jv.px [] [1,2] []
 refine H8 (fw (vJ (L+1)) (Ig (e:=B5.wrap ((L:Int)+1)) yk f1) (Mz rfl (B6 ?_)))
 have jy:=jw.pb [0]
 exact Iq (jo,jq,(F++ [G.au]),L+1) ⟨rfl,rfl,rfl,rfl,rfl,rfl,rfl,rfl,trivial⟩ (aA.2 ⟨jy,e8,e8,et (aH) (et (congrArg (λ q=>dQ j B C K a (ay.abs d) (ay.abs l) (ay.abs x) q F L) (lK (n:=j.ai.ls.length) (i:=L) e8)) (et (ae (bu aN)) (et (ip W) (et (ip R) (et (ae aR) (et (ip X) (ip aC)))))))⟩) (by show j.ai.ls.length - (L+1) < j.ai.ls.length - L; omega)
 refine Gz (vP fG 2) aC (Gl (.bool G.bg.eU) aC aS 0 H2 (IQ (v:= .bool G.bg.eU) rfl rfl X rfl (H6 rfl aC rfl) (fw (.bool G.bg.eU) (Ic rfl X rfl) (An rfl (rt (rs (fw (.bool G.bg.eU) (Ic rfl (dT R) rfl) (nt ?_))))))))
 rcases Lr (G.bg.eU) with bE | bE
 refine jT bE ?_
 have fJ:=aS.px [] [0] []
 refine H8 (Mz rfl (Kz (vP bg 0) (Lz (vU G.au) fJ 0 E1 ?_)))
 refine jN [vU G.au] 32 1 1 fJ ?_
 intro jB p9 dJ
 replace dJ:=IL (y:=row jB 1 1 (q2 (eN .u64) ([G.au])) 32 1) rfl dJ
 have fK:=dJ.pf [10]
 refine WL.do rfl (IC (k:=F.length) (m:=1) (iH) fK rfl rfl (eY O4 (fK.rds (i:=1) rfl) (cZ mi ([G.au]))) rfl e8 (s:=q7 (F++ [G.au])) f3 (t7).symm ?_)
 intro jC jD qa jE
 have nI:q7 (F++ [G.au])=F.length+1:=by simp only [o0,r5,K1]
 refine Az rfl (B6 (bN (Ib ?_)))
 have jG:=jE.px [] [1,2] []
 refine H8 (fw (vJ (L+1)) (Ig (e:=B5.wrap ((L:Int)+1)) yk f1) (Mz rfl (B6 ?_)))
 have jH:=jG.pb [0]
 exact Iq (jC,jD,(F++ [G.au]),L+1) ⟨rfl,rfl,rfl,rfl,rfl,rfl,rfl,rfl,trivial⟩ (aA.2 ⟨jH,e8,e8,et (aH) (et (congrArg (λ q=>dQ j B C K a (ay.abs d) (ay.abs l) (ay.abs x) q F L) (lK (n:=j.ai.ls.length) (i:=L) e8)) (et (ae (bu aN)) (et (ip W) (et (ip R) (et (ae aR) (et (ip X) (et (eF aC) (ip bE))))))))⟩) (by show j.ai.ls.length - (L+1) < j.ai.ls.length - L; omega)
 refine jF bE (IG (bN (Ib ?_)))
 have jI:=aS.px [] [0,1] []
 refine H8 (fw (vJ (L+1)) (Ig (e:=B5.wrap ((L:Int)+1)) yk f1) (Mz rfl (B6 ?_)))
 have jK:=jI.pf []
 exact Iq (aG,aL,F,L+1) ⟨rfl,rfl,rfl,rfl,rfl,rfl,rfl,rfl,trivial⟩ (aA.2 ⟨jK,e8,e8,et (aH) (et (congrArg (λ q=>dQ j B C K a (ay.abs d) (ay.abs l) (ay.abs x) q F L) (lK (n:=j.ai.ls.length) (i:=L) e8)) (et (ae (bu aN)) (et (ip W) (et (ip R) (et (ae aR) (et (ip X) (et (eF aC) (eF bE))))))))⟩) (by show j.ai.ls.length - (L+1) < j.ai.ls.length - L; omega)
 refine Sz X (Sz X (Sz X (Ij rfl rfl rfl (Ij rfl rfl rfl (Sz X (fw (.bool false) (H6 rfl X rfl) (An rfl (rt (rs (fw (.bool false) (Ic rfl (dT R) rfl) (nt (jf (IG (bN (Ib ?_)))))))))))))))
 have jL:=aS.px [] [0,1] []
 refine H8 (fw (vJ (L+1)) (Ig (e:=B5.wrap ((L:Int)+1)) yk f1) (Mz rfl (B6 ?_)))
 have jM:=jL.pf []
 exact Iq (aG,aL,F,L+1) ⟨rfl,rfl,rfl,rfl,rfl,rfl,rfl,rfl,trivial⟩ (aA.2 ⟨jM,e8,e8,et (aH) (et (congrArg (λ q=>dQ j B C K a (ay.abs d) (ay.abs l) (ay.abs x) q F L) (lK (n:=j.ai.ls.length) (i:=L) e8)) (et (ae (bu aN)) (et (ip W) (et (ip R) (et (ae aR) (eF X))))))⟩) (by show j.ai.ls.length - (L+1) < j.ai.ls.length - L; omega)
 refine Sz (dF R) (Sz (dF R) (Sz (dF R) (Sz (dF R) (Sz (dF R) (Sz (dF R) (fw (.bool false) (H6 rfl (dF R) rfl) (nt (jf (IG (bN (Ib ?_)))))))))))
 have jO:=aQ.px [] [0] []
 refine H8 (fw (vJ (L+1)) (Ig (e:=B5.wrap ((L:Int)+1)) yk f1) (Mz rfl (B6 ?_)))
 have jP:=jO.pf []
 exact Iq (aG,aL,F,L+1) ⟨rfl,rfl,rfl,rfl,rfl,rfl,rfl,rfl,trivial⟩ (aA.2 ⟨jP,e8,e8,et (aH) (et (congrArg (λ q=>dQ j B C K a (ay.abs d) (ay.abs l) (ay.abs x) q F L) (lK (n:=j.ai.ls.length) (i:=L) e8)) (et (ae (bu aN)) (et (ip W) (iN R))))⟩) (by show j.ai.ls.length - (L+1) < j.ai.ls.length - L; omega)
 refine Sz W (Sz W (Sz W (Sz W (fw (.bool false) (H6 rfl W rfl) (Mz rfl (Sz rfl (Sz rfl (Sz rfl (Sz rfl (Sz rfl (Sz rfl (fw (.bool false) (H6 rfl rfl rfl) (nt (jf (IG (bN (Ib ?_)))))))))))))))))
 have jQ:=aQ.px [] [0] []
 refine H8 (fw (vJ (L+1)) (Ig (e:=B5.wrap ((L:Int)+1)) yk f1) (Mz rfl (B6 ?_)))
 have jR:=jQ.pf []
 exact Iq (aG,aL,F,L+1) ⟨rfl,rfl,rfl,rfl,rfl,rfl,rfl,rfl,trivial⟩ (aA.2 ⟨jR,e8,e8,et (aH) (et (congrArg (λ q=>dQ j B C K a (ay.abs d) (ay.abs l) (ay.abs x) q F L) (lK (n:=j.ai.ls.length) (i:=L) e8)) (et (ae (bu aN)) (eF W)))⟩) (by show j.ai.ls.length - (L+1) < j.ai.ls.length - L; omega)
 refine jF (dF fF) (B7 (Ip ?_))
 have ic:dQ j B C K a (ay.abs d) (ay.abs l) (ay.abs x) j.ai.ls.length [] 0=F:=et (aH) (et (congrArg (λ q=>dQ j B C K a (ay.abs d) (ay.abs l) (ay.abs x) q F L) (y8 (n:=j.ai.ls.length) (i:=L) e8)) rfl)
 refine Ip (Iz (Ib (H7 (H7 ?_))))
 have jS:=df.px [] [0,1] []
 refine H8 (Mz rfl (Kz (vJ F.length) (Mn rfl (bo ?_))))
 have ig:j.ai.ls.length=q7 (L6 (L6 (L6 j.ai.ls (G0 a) (aM.mk d.au (F2 (d.aG.ls++ [C])) d.bn d.bg)) (G0 a) (aM.mk l.au (F2 l.aG.ls) false l.bg)) (G0 a) (aM.mk x.au (F2 x.aG.ls) x.bn ZB)):=by first | omega | (simp only [L7]; done) | (simp only [L7,o0,r5,K1,m8,m9,N2]; omega)
 have jU:Own w D nz [row E (q7 (L6 (L6 (L6 j.ai.ls (G0 a) (aM.mk d.au (F2 (d.aG.ls++ [C])) d.bn d.bg)) (G0 a) (aM.mk l.au (F2 l.aG.ls) false l.bg)) (G0 a) (aM.mk x.au (F2 x.aG.ls) x.bn ZB))) T (q2 ay.cells (L6 (L6 (L6 p (G0 a) (ay.mk d.au (N1 av ax (d.aG.ls++ [C])) d.bn d.bg)) (G0 a) (ay.mk l.au l.aG false l.bg)) (G0 a) (ay.mk x.au x.aG x.bn ZB))) 164 6,sepL (q2 Iy (L6 (L6 (L6 p (G0 a) (ay.mk d.au (N1 av ax (d.aG.ls++ [C])) d.bn d.bg)) (G0 a) (ay.mk l.au l.aG false l.bg)) (G0 a) (ay.mk x.au x.aG x.bn ZB))),blk g0 [.slice E (q7 (L6 (L6 (L6 j.ai.ls (G0 a) (aM.mk d.au (F2 (d.aG.ls++ [C])) d.bn d.bg)) (G0 a) (aM.mk l.au (F2 l.aG.ls) false l.bg)) (G0 a) (aM.mk x.au (F2 x.aG.ls) x.bn ZB))) T] 114,blk g3 [.slice N K.aS.ls.length O, .slice P K.dE.ls.length Q] 157,row N K.aS.ls.length O (q2 (eN .u64) K.aS.ls) 32 1,row P K.dE.ls.length Q (q2 (eN .u64) K.dE.ls) 32 1,row aG F.length aL (q2 (eN .u64) F) 32 1]:=by rw [<- ig]; exact jS
 have jV:=jU.pb [0,1]
 obtain⟨jW,bY⟩:=FU λ (aa:Nat) bF (bG:Nat) bi ah w'=>Own w D w' [blk g0 [.slice bF ah.length bG] 114,blk g3 [.slice N K.aS.ls.length O, .slice P K.dE.ls.length Q] 157,row N K.aS.ls.length O (q2 (eN .u64) K.aS.ls) 32 1,row P K.dE.ls.length Q (q2 (eN .u64) K.dE.ls) 32 1,row aG F.length aL (q2 (eN .u64) F) 32 1,row bF ah.length bG (q2 ay.cells bi) 164 6,sepL (q2 Iy bi)]/\s1 ay.abs bi=ah/\aa<=F.length/\ah.length<=(q7 (L6 (L6 (L6 j.ai.ls (G0 a) (aM.mk d.au (F2 (d.aG.ls++ [C])) d.bn d.bg)) (G0 a) (aM.mk l.au (F2 l.aG.ls) false l.bg)) (G0 a) (aM.mk x.au (F2 x.aG.ls) x.bn ZB)))+aa/\ah.length<=q7 (L6 (L6 (L6 j.ai.ls (G0 a) (aM.mk d.au (F2 (d.aG.ls++ [C])) d.bn d.bg)) (G0 a) (aM.mk l.au (F2 l.aG.ls) false l.bg)) (G0 a) (aM.mk x.au (F2 x.aG.ls) x.bn ZB))/\gY K F F (L6 (L6 (L6 j.ai.ls (G0 a) (aM.mk d.au (F2 (d.aG.ls++ [C])) d.bn d.bg)) (G0 a) (aM.mk l.au (F2 l.aG.ls) false l.bg)) (G0 a) (aM.mk x.au (F2 x.aG.ls) x.bn ZB))=gY K F (s0 aa F) ah
 refine y6 (λ i:Nat × (Option Addr) × Nat × (List ay) × (List aM)=> [(71,vJ i.1),(70,vJ F.length),(69, .slice aG F.length aL),(10, .slice aG F.length aL),(0,vP g0 0),(3,vP g3 0)]) jW (λ i=>F.length - i.1) (0,E,T,(L6 (L6 (L6 p (G0 a) (ay.mk d.au (N1 av ax (d.aG.ls++ [C])) d.bn d.bg)) (G0 a) (ay.mk l.au l.aG false l.bg)) (G0 a) (ay.mk x.au x.aG x.bn ZB)),(L6 (L6 (L6 j.ai.ls (G0 a) (aM.mk d.au (F2 (d.aG.ls++ [C])) d.bn d.bg)) (G0 a) (aM.mk l.au (F2 l.aG.ls) false l.bg)) (G0 a) (aM.mk x.au (F2 x.aG.ls) x.bn ZB))) ⟨rfl,rfl,rfl,rfl,rfl,rfl,trivial⟩ (bY.2 ⟨jV,by exact(eH (eH (eH M rfl) rfl) rfl),e8,e8,e8,rfl⟩) ?_
 rintro ⟨aa,bF,bG,bi,ah⟩ qb ik
 show Wp _ _ _ [(71,vJ aa),(70,vJ F.length),(69, .slice aG F.length aL),(10, .slice aG F.length aL),(0,vP g0 0),(3,vP g3 0)] _ _
 obtain⟨bn,cz,nJ,nK,nL,dL⟩:=bY.1 ik
 have nM:=aY cz
 refine sr (Kz (.bool (decide ((aa:Int) < (F.length:Int)))) (nt (H7 ?_)))
 by_cases fM:(aa:Int) < (F.length:Int)
 obtain⟨dM,dN⟩:=dG (ls:=F) (i:=aa) gT f5 (bn.rds (i:=4) rfl) f2
 have il:=drop_at dN
 refine jT (dT fM) (sk (H7 (bo (sr (fw (.pointer (some ⟨ab aG,ao aG+aa *1,none⟩)) (Im (iH) rfl rfl ((bn.rds (i:=4) rfl).addr (i:=aa) e8) e8) (fw (vU dM) (Il rfl (bQ.one E1 (((bn.rds (i:=4) rfl).elem gT dN f5).at_ (k:=0) rfl))) (An rfl (H8 (Mz rfl (Mz rfl ?_))))))))))
 have jX:=bn.pf [0,5,6]
 obtain⟨dO,dP⟩:∃ q,jr (aW.mk (F2 ah)) dM=q:=⟨_,rfl⟩
 obtain⟨qc,iq,nN,iw,nO⟩:=Jb jX
 refine cl Tryz.call120 (oL _ _ g0 (aW.mk (F2 ah)) bF bG bi dM dO iq cz f9 dP) ?_
 rintro _ qf ⟨jY,jZ,j3,rfl,iy,dS,dU⟩
 have fP:=iw _ _ iy
 have nP:=aY dS
 have nQ:=fP.rowC (i:=1) rfl
 replace dU:dO.ai.ls.length<=ah.length:=dU
 refine B6 (bN (Ib (H8 (fw (vJ (aa+1)) (Ig (e:=B5.wrap ((aa:Int)+1)) yk f1) (Mz rfl (B6 ?_))))))
 have j4:=fP.pb [1,2]
 exact Iq (aa+1,jY,jZ,j3,dO.ai.ls) ⟨rfl,rfl,rfl,rfl,rfl,rfl,trivial⟩ (bY.2 ⟨j4,by exact dS,e8,e8,e8,et (dL) (et (congrArg (λ q=>gY K F q ah) il) (ae dP))⟩) (by show F.length - (aa+1) < F.length - aa; omega)
 refine jF (dF fM) (B7 (Ip ?_))
 have iA:gY K F F (L6 (L6 (L6 j.ai.ls (G0 a) (aM.mk d.au (F2 (d.aG.ls++ [C])) d.bn d.bg)) (G0 a) (aM.mk l.au (F2 l.aG.ls) false l.bg)) (G0 a) (aM.mk x.au (F2 x.aG.ls) x.bn ZB))=ah:=et (dL) (et (congrArg (λ q=>gY K F q ah) (eX (ls:=F) (i:=aa) e8)) rfl)
 refine Ip (Iz (Ib (H8 (Mz rfl (Mz rfl (Kz (vP g3 0) (Kz (vP g3 1) (Lz (.slice P K.dE.ls.length Q) bn 1 Tryz.isAgg35 (Mz rfl ?_)))))))))
 have fQ:=bn.pf [3]
 refine WL.do rfl (IC (k:=K.dE.ls.length) (m:=F.length) (iH) fQ rfl rfl (eY O4 (fQ.rds (i:=4) rfl) (cZ mi F)) rfl e8 (s:=q7 (K.dE.ls++F)) f3 (t7).symm ?_)
 intro fT fU qg j5
 have nR:q7 (K.dE.ls++F)=K.dE.ls.length+F.length:=by simp only [o0,r5,K1]
 refine Kz (vP g3 0) (Kz (vP g3 1) ?_)
 have kg:=j5.pf [2]
 refine cu [.slice fT (q7 (K.dE.ls++F)) fU] 1 kg Tryz.sizeOf35 ?_
 intro qh ko
 refine B6 (IV (res0 rfl) ?_)
 have kr:=ko.px [] [4] [0,3,1]
 obtain⟨rfl,rfl⟩:=fB (zj hr (show _=(aW.mk (F2 ah),eZ.mk (F2 K.aS.ls) (F2 (K.dE.ls++F))) from et (ae dz) (et (ip bU) (et (ae (bu fE)) (et (ae (bu iZ)) (et (ae (bu jb)) (et (ae ic) (ae iA))))))))
 exact⟨bF,bG,bi,N,O,fT,fU,rfl,kr,cz⟩
 have h39t:Bool.toNat bS=0:=by rw [bU]; rfl
 refine jT (cn bU) (H8 (Mz rfl (Mz rfl (Kz (vP g0 0) (Kz (vP g0 0) (Lz (.slice E j.ai.ls.length T) bT 0 N5 (Mz rfl (Mz rfl (Kz (.agg #[vU B, .slice none 0 0, .bool false, .string ⟨v0 []⟩, .string ⟨v0 []⟩, .bool false]) ?_)))))))))
 refine WL.do rfl (Jn (cs:= [vU B, .slice none 0 0, .bool false, .string ⟨v0 []⟩, .string ⟨v0 []⟩, .bool false]) (t:=164) (sz:=6) (m:=1) bT rfl rfl (λ _=>by kernel_rfl) rfl ?_)
 intro fV ku dV
 replace dV:=IL (y:=lN fV 1 (q2 ay.cells ([(ay.mk B (N1 none 0 []) false ZB)])) 164 6) rfl dV
 have kv:Own w D ku (row none 0 0 (q2 aF.cells []) 118 3::_):=dV.free (bZ 118 3)
 have kw:=kv.pf [4,1,5]
 obtain⟨qi,iB,nS,iC,nT⟩:=Jp kw
 refine cl Tryz.call123 (AX _ _ E j.ai.ls.length T p a fV (ay.mk B (N1 none 0 []) false ZB) j.ai.ls (aM.mk B (F2 []) false ZB) iB e8 M rfl e8 e8) ?_
 rintro _ qj ⟨J,ai,rfl,iD⟩
 have ky:=iC _ _ iD
 have nU:q7 (t6 (G0 a) p++((ay.mk B (N1 none 0 []) false ZB)::s0 (G0 a) p))=q7 (t6 (G0 a) j.ai.ls++((aM.mk B (F2 []) false ZB)::s0 (G0 a) j.ai.ls)):=by exact aY (jJ (z:=(aM.mk B (F2 []) false ZB)) M rfl)
 have nV:q7 (t6 (G0 a) j.ai.ls++((aM.mk B (F2 []) false ZB)::s0 (G0 a) j.ai.ls))=j.ai.ls.length+1:=by simp only [o0,m8,r5,m9]; omega
 refine Kz (vP g0 0) (Kz (vP g0 0) ?_)
 have kz:=ky.pf [2]
 refine cu [.slice J (q7 (t6 (G0 a) j.ai.ls++((aM.mk B (F2 []) false ZB)::s0 (G0 a) j.ai.ls))) ai] 0 kz Tryz.sizeOf112 ?_
 intro ql bH
 refine ns (Mz rfl (Kz (vP g0 0) (Kz (vP g0 0) (Lz (.slice J (q7 (t6 (G0 a) j.ai.ls++((aM.mk B (F2 []) false ZB)::s0 (G0 a) j.ai.ls))) ai) bH 0 N5 (fw (vJ (G0 a)) (Ig (e:=a) (Ie rfl) e8) ?_)))))
 obtain⟨b,aI⟩:=dG (ls:=(t6 (G0 a) p++((ay.mk B (N1 none 0 []) false ZB)::s0 (G0 a) p))) (i:=G0 a) ay.len f5 (bH.rds (i:=1) rfl) f2
 have dW:=fO (jJ (z:=(aM.mk B (F2 []) false ZB)) M rfl) aI
 have nW:b.aG.ls.length<=b.aG.c/\b.aG.ls.length<=9223372036854775807:=dC bH (i:=2) rfl (φ:=λ _=>_) (bL (O3.2 ⟨b,D4 aI,b3⟩) dK)
 have nX:b.aG.ls.length<=1000000:=by have q9:Hd (t6 (G0 a) j.ai.ls++((aM.mk B (F2 []) false ZB)::s0 (G0 a) j.ai.ls)):=j2; exact q9 _ (D4 dW)
 refine fw (.pointer (some ⟨ab J,ao J+(G0 a) *6,none⟩)) (Im (jk) rfl rfl ((bH.rds (i:=1) rfl).addr (i:=G0 a) e8) e8) (An rfl (rt (rs (An rfl (H7 ?_)))))
 refine mJ 7 [7,10] (Ik Iw) bH ?_
 intro qm kC
 refine IP (v:= .pointer (some ⟨ab J,ao J+(G0 a) *6,none⟩)) 0 rfl e9 (λ _=>Ie rfl) (qv 1 rfl rfl (qk (.pointer (some ⟨ab J,ao J+(G0 a) *6,none⟩)) 2 rfl (qk (.pointer (some ⟨ab J,ao J+(G0 a) *6+1,none⟩)) 3 rfl (qt (v:= .slice b.aG.A b.aG.ls.length b.aG.c) 4 rfl (λ _ ⟨_,H9⟩=>Il rfl (bQ.one Tryz.isAgg97 (((H9.rds (i:=1) rfl).elem ay.len aI f5).at_ (k:=1) rfl))) (qt (v:= .agg (aF.cells C).toArray) 5 rfl (λ _ ⟨_,H9⟩=>Il rfl (Io (cs:=(aF.cells C)) N6 N7 ((H9.cls (i:=3) rfl).lit (k:=0) (m:=3) rfl))) ?_)))))
 refine qd 6 rfl (IZ (cs:=(aF.cells C)) (t:=118) (sz:=3) (m:=1) kC rfl rfl (λ _=>by kernel_rfl) rfl f5 ?_)
 intro kD kE dX
 replace dX:=IL (y:=row kD 1 1 (q2 aF.cells ([C])) 118 3) rfl dX
 have fZ:=dX.pb [0]
 refine⟨.inr ⟨_,fZ⟩, ?_⟩
 have kF:=fZ.pf [2]
 have dY:Own w D kE (row b.aG.A b.aG.ls.length b.aG.c (q2 aF.cells b.aG.ls) 118 3::sepL (q2 Iy (t6 (G0 a) (t6 (G0 a) p++((ay.mk B (N1 none 0 []) false ZB)::s0 (G0 a) p)))++q2 Iy (s0 (G0 a+1) (t6 (G0 a) p++((ay.mk B (N1 none 0 []) false ZB)::s0 (G0 a) p))))::_):=Jy (f:=Iy) (i:=G0 a) aI kF
 have nY:=dY.rowC (i:=0) rfl
 refine qd 7 rfl (IC (k:=b.aG.ls.length) (m:=1) (uy) dY rfl rfl (eY K0 (dY.rds (i:=8) rfl) (cZ aF.one ([C]))) rfl e8 (s:=q7 (b.aG.ls++ [C])) f3 (t7).symm ?_)
 intro U V kG kH
 have nZ:q7 (b.aG.ls++ [C])=b.aG.ls.length+1:=by simp only [o0,r5,K1]
 refine⟨.inl e9, ?_⟩
 refine IP (v:= .pointer (some ⟨ab J,ao J+(G0 a) *6,none⟩)) 8 rfl e9 (λ _=>yk) (IP (v:= .pointer (some ⟨ab J,ao J+(G0 a) *6+1,none⟩)) 9 rfl e9 (λ _=>yk) ?_)
 have kI:Own w D kG (sepL (q2 Iy (L6 (t6 (G0 a) p++((ay.mk B (N1 none 0 []) false ZB)::s0 (G0 a) p)) (G0 a) (ay.mk b.au (N1 U V (b.aG.ls++ [C])) b.bn b.bg)))::_):=JJ (f:=Iy) (y:=(ay.mk b.au (N1 U V (b.aG.ls++ [C])) b.bn b.bg)) aI kH
 have kJ:=kI.pf [2]
 refine qe 10 rfl (Do.storeRow (vs:= [.slice U (q7 (b.aG.ls++ [C])) V]) (o:=(G0 a) *6+1) (q:=ao J+(G0 a) *6+1) kJ rfl e8 rfl Tryz.sizeOf97 rfl rfl (Lh rfl) (jA ay.len aI (Lh rfl)) (j6 (y:=(ay.mk b.au (N1 U V (b.aG.ls++ [C])) b.bn b.bg)) ay.len rfl (Lh rfl) aI) ?_)
 intro qo kK
 have og:q7 (L6 (t6 (G0 a) p++((ay.mk B (N1 none 0 []) false ZB)::s0 (G0 a) p)) (G0 a) (ay.mk b.au (N1 U V (b.aG.ls++ [C])) b.bn b.bg))=q7 (L6 (t6 (G0 a) j.ai.ls++((aM.mk B (F2 []) false ZB)::s0 (G0 a) j.ai.ls)) (G0 a) (aM.mk b.au (F2 (b.aG.ls++ [C])) b.bn b.bg)):=aY (eH (jJ (z:=(aM.mk B (F2 []) false ZB)) M rfl) rfl)
 have oh:q7 (L6 (t6 (G0 a) j.ai.ls++((aM.mk B (F2 []) false ZB)::s0 (G0 a) j.ai.ls)) (G0 a) (aM.mk b.au (F2 (b.aG.ls++ [C])) b.bn b.bg))=q7 (t6 (G0 a) j.ai.ls++((aM.mk B (F2 []) false ZB)::s0 (G0 a) j.ai.ls)):=L7
 refine⟨.inl e9, ?_⟩
 refine qn (Ib (H7 ?_))
 have dZ:=kK.px [] [7] []
 refine H8 (Mz rfl (Mz rfl (Kz (.agg #[.string ⟨v0 []⟩, .string ⟨v0 []⟩, .bool false]) (Kz (.pointer (some ⟨ab J,ao J+(G0 a) *6,none⟩)) (Kz (.pointer (some ⟨ab J,ao J+(G0 a) *6+2,none⟩)) ?_)))))
 obtain⟨g,aT⟩:=dG (ls:=(L6 (t6 (G0 a) p++((ay.mk B (N1 none 0 []) false ZB)::s0 (G0 a) p)) (G0 a) (ay.mk b.au (N1 U V (b.aG.ls++ [C])) b.bn b.bg))) (i:=G0 a) ay.len f5 (dZ.rds (i:=0) rfl) f2
 have iE:=fO (eH (jJ (z:=(aM.mk B (F2 []) false ZB)) M rfl) rfl) aT
 have ol:g.aG.ls.length<=g.aG.c/\g.aG.ls.length<=9223372036854775807:=dC dZ (i:=1) rfl (φ:=λ _=>_) (bL (O3.2 ⟨g,D4 aT,b3⟩) dK)
 refine I5 (Do.storeRow (vs:= [.bool false]) (o:=(G0 a) *6+2) (q:=ao J+(G0 a) *6+2) dZ rfl e8 rfl Tryz.sizeOf4 rfl rfl (Lh rfl) (jA ay.len aT (Lh rfl)) (j6 (y:=(ay.mk g.au g.aG false g.bg)) ay.len rfl (Lh rfl) aT) ?_)
 intro kL kM
 have d9:Own w D kL [row J (q7 (t6 (G0 a) j.ai.ls++((aM.mk B (F2 []) false ZB)::s0 (G0 a) j.ai.ls))) ai (q2 ay.cells (L6 (L6 (t6 (G0 a) p++((ay.mk B (N1 none 0 []) false ZB)::s0 (G0 a) p)) (G0 a) (ay.mk b.au (N1 U V (b.aG.ls++ [C])) b.bn b.bg)) (G0 a) (ay.mk g.au g.aG false g.bg))) 164 6,sepL (q2 Iy (L6 (L6 (t6 (G0 a) p++((ay.mk B (N1 none 0 []) false ZB)::s0 (G0 a) p)) (G0 a) (ay.mk b.au (N1 U V (b.aG.ls++ [C])) b.bn b.bg)) (G0 a) (ay.mk g.au g.aG false g.bg))),blk g0 [.slice J (q7 (t6 (G0 a) j.ai.ls++((aM.mk B (F2 []) false ZB)::s0 (G0 a) j.ai.ls))) ai] 114,blk fu (aF.cells C) 118,blk g3 [.slice N K.aS.ls.length O, .slice P K.dE.ls.length Q] 157,row N K.aS.ls.length O (q2 (eN .u64) K.aS.ls) 32 1,row P K.dE.ls.length Q (q2 (eN .u64) K.dE.ls) 32 1]:=by rw [lU (f:=Iy) (y:=(ay.mk g.au g.aG false g.bg)) aT rfl]; exact kM
 have om:q7 (L6 (L6 (t6 (G0 a) p++((ay.mk B (N1 none 0 []) false ZB)::s0 (G0 a) p)) (G0 a) (ay.mk b.au (N1 U V (b.aG.ls++ [C])) b.bn b.bg)) (G0 a) (ay.mk g.au g.aG false g.bg))=q7 (L6 (L6 (t6 (G0 a) j.ai.ls++((aM.mk B (F2 []) false ZB)::s0 (G0 a) j.ai.ls)) (G0 a) (aM.mk b.au (F2 (b.aG.ls++ [C])) b.bn b.bg)) (G0 a) (aM.mk g.au (F2 g.aG.ls) false g.bg)):=aY (eH (eH (jJ (z:=(aM.mk B (F2 []) false ZB)) M rfl) rfl) rfl)
 have oo:q7 (L6 (L6 (t6 (G0 a) j.ai.ls++((aM.mk B (F2 []) false ZB)::s0 (G0 a) j.ai.ls)) (G0 a) (aM.mk b.au (F2 (b.aG.ls++ [C])) b.bn b.bg)) (G0 a) (aM.mk g.au (F2 g.aG.ls) false g.bg))=q7 (L6 (t6 (G0 a) j.ai.ls++((aM.mk B (F2 []) false ZB)::s0 (G0 a) j.ai.ls)) (G0 a) (aM.mk b.au (F2 (b.aG.ls++ [C])) b.bn b.bg)):=L7
 refine Kz (.pointer (some ⟨ab J,ao J+(G0 a) *6,none⟩)) (Kz (.pointer (some ⟨ab J,ao J+(G0 a) *6+3,none⟩)) ?_)
 obtain⟨h,aU⟩:=dG (ls:=(L6 (L6 (t6 (G0 a) p++((ay.mk B (N1 none 0 []) false ZB)::s0 (G0 a) p)) (G0 a) (ay.mk b.au (N1 U V (b.aG.ls++ [C])) b.bn b.bg)) (G0 a) (ay.mk g.au g.aG false g.bg))) (i:=G0 a) ay.len f5 (d9.rds (i:=0) rfl) f2
 have iF:=fO (eH (eH (jJ (z:=(aM.mk B (F2 []) false ZB)) M rfl) rfl) rfl) aU
 have oq:h.aG.ls.length<=h.aG.c/\h.aG.ls.length<=9223372036854775807:=dC d9 (i:=1) rfl (φ:=λ _=>_) (bL (O3.2 ⟨h,D4 aU,b3⟩) dK)
 refine I5 (Do.storeRow (vs:= [.string ⟨v0 []⟩, .string ⟨v0 []⟩, .bool false]) (o:=(G0 a) *6+3) (q:=ao J+(G0 a) *6+3) d9 rfl e8 rfl N7 rfl rfl (Lh rfl) (jA ay.len aU (Lh rfl)) (j6 (y:=(ay.mk h.au h.aG h.bn ZB)) ay.len rfl (Lh rfl) aU) ?_)
 intro kN kP
 have gm:Own w D kN [row J (q7 (t6 (G0 a) j.ai.ls++((aM.mk B (F2 []) false ZB)::s0 (G0 a) j.ai.ls))) ai (q2 ay.cells (L6 (L6 (L6 (t6 (G0 a) p++((ay.mk B (N1 none 0 []) false ZB)::s0 (G0 a) p)) (G0 a) (ay.mk b.au (N1 U V (b.aG.ls++ [C])) b.bn b.bg)) (G0 a) (ay.mk g.au g.aG false g.bg)) (G0 a) (ay.mk h.au h.aG h.bn ZB))) 164 6,sepL (q2 Iy (L6 (L6 (L6 (t6 (G0 a) p++((ay.mk B (N1 none 0 []) false ZB)::s0 (G0 a) p)) (G0 a) (ay.mk b.au (N1 U V (b.aG.ls++ [C])) b.bn b.bg)) (G0 a) (ay.mk g.au g.aG false g.bg)) (G0 a) (ay.mk h.au h.aG h.bn ZB))),blk g0 [.slice J (q7 (t6 (G0 a) j.ai.ls++((aM.mk B (F2 []) false ZB)::s0 (G0 a) j.ai.ls))) ai] 114,blk fu (aF.cells C) 118,blk g3 [.slice N K.aS.ls.length O, .slice P K.dE.ls.length Q] 157,row N K.aS.ls.length O (q2 (eN .u64) K.aS.ls) 32 1,row P K.dE.ls.length Q (q2 (eN .u64) K.dE.ls) 32 1]:=by rw [lU (f:=Iy) (y:=(ay.mk h.au h.aG h.bn ZB)) aU rfl]; exact kP
 have ou:q7 (L6 (L6 (L6 (t6 (G0 a) p++((ay.mk B (N1 none 0 []) false ZB)::s0 (G0 a) p)) (G0 a) (ay.mk b.au (N1 U V (b.aG.ls++ [C])) b.bn b.bg)) (G0 a) (ay.mk g.au g.aG false g.bg)) (G0 a) (ay.mk h.au h.aG h.bn ZB))=q7 (L6 (L6 (L6 (t6 (G0 a) j.ai.ls++((aM.mk B (F2 []) false ZB)::s0 (G0 a) j.ai.ls)) (G0 a) (aM.mk b.au (F2 (b.aG.ls++ [C])) b.bn b.bg)) (G0 a) (aM.mk g.au (F2 g.aG.ls) false g.bg)) (G0 a) (aM.mk h.au (F2 h.aG.ls) h.bn ZB)):=aY (eH (eH (eH (jJ (z:=(aM.mk B (F2 []) false ZB)) M rfl) rfl) rfl) rfl)
 have ow:q7 (L6 (L6 (L6 (t6 (G0 a) j.ai.ls++((aM.mk B (F2 []) false ZB)::s0 (G0 a) j.ai.ls)) (G0 a) (aM.mk b.au (F2 (b.aG.ls++ [C])) b.bn b.bg)) (G0 a) (aM.mk g.au (F2 g.aG.ls) false g.bg)) (G0 a) (aM.mk h.au (F2 h.aG.ls) h.bn ZB))=q7 (L6 (L6 (t6 (G0 a) j.ai.ls++((aM.mk B (F2 []) false ZB)::s0 (G0 a) j.ai.ls)) (G0 a) (aM.mk b.au (F2 (b.aG.ls++ [C])) b.bn b.bg)) (G0 a) (aM.mk g.au (F2 g.aG.ls) false g.bg)):=L7
 refine ns (Mz rfl (La (aF.cells C) gm 3 N6 N7 ?_))
 refine WL.do rfl (IB Tryz.call118 rfl ?_ (λ _ _ k=>k))
 refine cb Tryz.func118 ?_
 refine sr ?_
 refine bW [vU B] 32 gm ?_
 intro bI qp kQ
 refine bW (aF.cells C) 118 kQ ?_
 intro aV kR kS
 refine Ar rfl (Kz (.func (.func 169) #[] #[vP aV 0,vP bI 0]) (An rfl (rt (rs (An rfl (H7 ?_))))))
 have gp:=kS.px [] [5] []
 refine H8 (An rfl (H7 (sr (Mz rfl (Kz (vP g0 0) (Kz (vP g0 0) (Lz (.slice J (q7 (t6 (G0 a) j.ai.ls++((aM.mk B (F2 []) false ZB)::s0 (G0 a) j.ai.ls))) ai) gp 4 N5 (Kz (vI ((q7 (t6 (G0 a) j.ai.ls++((aM.mk B (F2 []) false ZB)::s0 (G0 a) j.ai.ls)):Nat):Int)) (Mn rfl (bo ?_))))))))))
 have kU:Own w D kR (row none 0 0 (q2 (eN .u64) []) 32 1::_):=gp.free (bZ 32 1)
 have kV:=kU.pb [0]
 obtain⟨kW,aB⟩:=vQ λ ag (au:Nat) r (u:Nat) w'=>Own w D w' [blk aV (aF.cells C) 118,blk bI [vU B] 32,row J (q7 (t6 (G0 a) j.ai.ls++((aM.mk B (F2 []) false ZB)::s0 (G0 a) j.ai.ls))) ai (q2 ay.cells (L6 (L6 (L6 (t6 (G0 a) p++((ay.mk B (N1 none 0 []) false ZB)::s0 (G0 a) p)) (G0 a) (ay.mk b.au (N1 U V (b.aG.ls++ [C])) b.bn b.bg)) (G0 a) (ay.mk g.au g.aG false g.bg)) (G0 a) (ay.mk h.au h.aG h.bn ZB))) 164 6,sepL (q2 Iy (L6 (L6 (L6 (t6 (G0 a) p++((ay.mk B (N1 none 0 []) false ZB)::s0 (G0 a) p)) (G0 a) (ay.mk b.au (N1 U V (b.aG.ls++ [C])) b.bn b.bg)) (G0 a) (ay.mk g.au g.aG false g.bg)) (G0 a) (ay.mk h.au h.aG h.bn ZB))),blk g0 [.slice J (q7 (t6 (G0 a) j.ai.ls++((aM.mk B (F2 []) false ZB)::s0 (G0 a) j.ai.ls))) ai] 114,blk g3 [.slice N K.aS.ls.length O, .slice P K.dE.ls.length Q] 157,row N K.aS.ls.length O (q2 (eN .u64) K.aS.ls) 32 1,row P K.dE.ls.length Q (q2 (eN .u64) K.dE.ls) 32 1,row ag r.length au (q2 (eN .u64) r) 32 1]/\u<=q7 (t6 (G0 a) j.ai.ls++((aM.mk B (F2 []) false ZB)::s0 (G0 a) j.ai.ls))/\r.length<=u/\dR j B C K a (ay.abs b) (ay.abs g) (ay.abs h) (q7 (t6 (G0 a) j.ai.ls++((aM.mk B (F2 []) false ZB)::s0 (G0 a) j.ai.ls))) [] 0=dR j B C K a (ay.abs b) (ay.abs g) (ay.abs h) ((q7 (t6 (G0 a) j.ai.ls++((aM.mk B (F2 []) false ZB)::s0 (G0 a) j.ai.ls))) - u) r u
 refine y6 (λ i:(Option Addr) × Nat × (List Nat) × Nat=> [(10, .slice i.1 i.2.2.1.length i.2.1),(43,vJ i.2.2.2),(42,vI ((q7 (t6 (G0 a) j.ai.ls++((aM.mk B (F2 []) false ZB)::s0 (G0 a) j.ai.ls)):Nat):Int)),(41, .slice J (q7 (t6 (G0 a) j.ai.ls++((aM.mk B (F2 []) false ZB)::s0 (G0 a) j.ai.ls))) ai),(9, .func (.func 169) #[] #[vP aV 0,vP bI 0]),(0,vP g0 0),(1,vU B),(3,vP g3 0)]) kW (λ i=>(q7 (t6 (G0 a) j.ai.ls++((aM.mk B (F2 []) false ZB)::s0 (G0 a) j.ai.ls))) - i.2.2.2) (none,0, [],0) ⟨rfl,rfl,rfl,rfl,rfl,rfl,rfl,rfl,trivial⟩ (aB.2 ⟨kV,(show 0<=q7 (t6 (G0 a) j.ai.ls++((aM.mk B (F2 []) false ZB)::s0 (G0 a) j.ai.ls))/\0<=0/\dR j B C K a (ay.abs b) (ay.abs g) (ay.abs h) (q7 (t6 (G0 a) j.ai.ls++((aM.mk B (F2 []) false ZB)::s0 (G0 a) j.ai.ls))) [] 0=dR j B C K a (ay.abs b) (ay.abs g) (ay.abs h) ((q7 (t6 (G0 a) j.ai.ls++((aM.mk B (F2 []) false ZB)::s0 (G0 a) j.ai.ls))) - 0) [] 0 from ⟨e8,e8,rfl⟩)⟩) ?_
 rintro ⟨ag,au,r,u⟩ kX iG
 show Wp _ _ _ [(10, .slice ag r.length au),(43,vJ u),(42,vI ((q7 (t6 (G0 a) j.ai.ls++((aM.mk B (F2 []) false ZB)::s0 (G0 a) j.ai.ls)):Nat):Int)),(41, .slice J (q7 (t6 (G0 a) j.ai.ls++((aM.mk B (F2 []) false ZB)::s0 (G0 a) j.ai.ls))) ai),(9, .func (.func 169) #[] #[vP aV 0,vP bI 0]),(0,vP g0 0),(1,vU B),(3,vP g3 0)] _ _
 obtain⟨bq,oz,oC,aJ⟩:=aB.1 iG
 refine sr (Kz (.bool (decide ((u:Int) < ((q7 (t6 (G0 a) j.ai.ls++((aM.mk B (F2 []) false ZB)::s0 (G0 a) j.ai.ls)):Nat):Int)))) (nt (H7 ?_)))
 by_cases gq:(u:Int) < ((q7 (t6 (G0 a) j.ai.ls++((aM.mk B (F2 []) false ZB)::s0 (G0 a) j.ai.ls)):Nat):Int)
 refine jT (dT gq) (sk (H7 (bo (sr ?_))))
 obtain⟨I,cB⟩:=dG (ls:=(L6 (L6 (L6 (t6 (G0 a) p++((ay.mk B (N1 none 0 []) false ZB)::s0 (G0 a) p)) (G0 a) (ay.mk b.au (N1 U V (b.aG.ls++ [C])) b.bn b.bg)) (G0 a) (ay.mk g.au g.aG false g.bg)) (G0 a) (ay.mk h.au h.aG h.bn ZB))) (i:=u) ay.len f5 (bq.rds (i:=2) rfl) f2
 have aO:=fO (eH (eH (eH (jJ (z:=(aM.mk B (F2 []) false ZB)) M rfl) rfl) rfl) rfl) cB
 have oD:I.aG.ls.length<=I.aG.c/\I.aG.ls.length<=9223372036854775807:=dC bq (i:=3) rfl (φ:=λ _=>_) (bL (O3.2 ⟨I,D4 cB,b3⟩) dK)
 refine fw (.pointer (some ⟨ab J,ao J+u *6,none⟩)) (Im (jk) rfl rfl ((bq.rds (i:=2) rfl).addr (i:=u) e8) e8) (fw (.agg (ay.cells I).toArray) (Il rfl (Io (cs:=(ay.cells I)) Tryz.isAgg164 N4 ((bq.rds (i:=2) rfl).elem ay.len cB f5))) ?_)
 refine bW [.int .u64 0, .slice none 0 0, .bool false, .string ⟨v0 []⟩, .string ⟨v0 []⟩, .bool false] 164 bq ?_
 intro bv qw kY
 refine cu (ay.cells I) 0 kY N4 ?_
 intro qx aX
 refine ns (Kz (vP bv 2) (Lz (.bool I.bn) aX 0 H2 (Mz rfl ?_)))
 rcases Lr (I.bn) with Y | Y
 refine Gz (vP bv 0) Y (Gl (vU I.au) Y aX 0 E1 (IQ (v:=vU B) rfl rfl Y rfl (Ie rfl) (Gz (.bool (decide ((I.au:Int) > (B:Int)))) Y (fw (.bool (decide ((I.au:Int) > (B:Int)))) (Ic rfl Y rfl) (Mz rfl ?_)))))
 by_cases S:(I.au:Int) > (B:Int)
 refine gw (.func (.func 169) #[] #[vP aV 0,vP bI 0]) (dT S) (Ie rfl) (Gz (vP bv 0) (dT S) (Gl (vU I.au) (dT S) aX 0 E1 (Gz (vP bv 3) (dT S) (Ga (aF.cells I.bg) (dT S) aX 0 N6 N7 ?_))))
 refine I9 rfl rfl (dT S) rfl (IM Tryz.call169 rfl rfl ?_ (λ _ _ k=>k))
 refine cb Tryz.func169 ?_
 refine sr ?_
 refine bW (aF.cells I.bg) 118 aX ?_
 intro gu qy ed
 refine Ar rfl (Kz (vP aV 0) (La (aj.cells C.aA) ed 2 C6 C5 (Kz (vP gu 0) (La (aj.cells I.bg.aA) ed 0 C6 C5 ?_))))
 obtain⟨⟨ek,bJ⟩,aZ⟩:∃ q:aj × Bool,kT C.aA I.bg.aA=q:=⟨_,rfl⟩
 obtain⟨qz,iI,oF,iJ,oG⟩:=Ia ed
 refine cl Tryz.call152 (pq _ _ C.aA I.bg.aA ek bJ iI aZ) ?_
 rintro _ qA ⟨rfl,iK⟩
 have kZ:=iJ _ _ iK
 refine Mz rfl (Kz (.agg (aj.cells ek).toArray) (Kz (.bool bJ) ?_))
 refine bW [.string ⟨v0 []⟩, .string ⟨v0 []⟩] 37 kZ ?_
 intro qB qC lc
 refine cu (aj.cells ek) 0 lc C5 ?_
 intro qD lg
 refine An rfl (H7 ?_)
 have bf:=lg.px [] [0] []
 refine H8 (Mz rfl (Lz (vU B) bf 3 E1 (fw (.bool (decide (¬ ((I.au:Int)=(B:Int))))) (Iu (e:= !(decide ((I.au:Int)=(B:Int)))) yk decide_not.symm) (Mz rfl ?_))))
 have eu:(decide (¬ ((I.au:Int)=(B:Int))))=true:=(dT e8)
 refine IQ (v:= .bool bJ) rfl rfl eu rfl (Ie rfl) (fw (.bool bJ) (Ic rfl eu rfl) (Mz rfl ?_))
 rcases Lr (bJ) with Z | Z
 refine Gz (vP aV 2) Z (Gl (.bool C.eU) Z bf 2 H2 (IQ (v:= .bool C.eU) rfl rfl Z rfl (Ie rfl) ?_))
 rcases Lr (C.eU) with aD | aD
 refine Sz aD (Sz aD (IQ (v:= .bool true) rfl rfl Z rfl (Ic rfl aD rfl) (fw (.bool true) (Ic rfl Z rfl) (An rfl (rt (rs (fw (.bool true) (Ic rfl (dT S) rfl) (nt (jt ?_)))))))))
 have gy:=bf.px [] [0] []
 refine H8 (Mz rfl (Kz (vP bv 0) (Lz (vU I.au) gy 0 E1 ?_)))
 refine jN [vU I.au] 32 1 1 gy ?_
 intro lh qE eB
 replace eB:=IL (y:=row lh 1 1 (q2 (eN .u64) ([I.au])) 32 1) rfl eB
 have gz:=eB.pf [10]
 refine WL.do rfl (IC (k:=r.length) (m:=1) (iH) gz rfl rfl (eY O4 (gz.rds (i:=1) rfl) (cZ mi ([I.au]))) rfl e8 (s:=q7 (r++ [I.au])) f3 (t7).symm ?_)
 intro ll lm qF lq
 have oH:q7 (r++ [I.au])=r.length+1:=by simp only [o0,r5,K1]
 refine Az rfl (B6 (bN (Ib ?_)))
 have lu:=lq.px [] [1,2] []
 refine H8 (fw (vJ (u+1)) (Ig (e:=B5.wrap ((u:Int)+1)) yk f1) (Mz rfl (B6 ?_)))
 have lv:=lu.pb [0]
 exact Iq (ll,lm,(r++ [I.au]),u+1) ⟨rfl,rfl,rfl,rfl,rfl,rfl,rfl,rfl,trivial⟩ (aB.2 ⟨lv,e8,e8,et (aJ) (et (congrArg (λ q=>dR j B C K a (ay.abs b) (ay.abs g) (ay.abs h) q r u) (lK (n:=q7 (t6 (G0 a) j.ai.ls++((aM.mk B (F2 []) false ZB)::s0 (G0 a) j.ai.ls))) (i:=u) e8)) (et (ae (bu aO)) (et (ip Y) (et (ip S) (et (ae aZ) (et (ip Z) (ip aD)))))))⟩) (by show (q7 (t6 (G0 a) j.ai.ls++((aM.mk B (F2 []) false ZB)::s0 (G0 a) j.ai.ls))) - (u+1) < (q7 (t6 (G0 a) j.ai.ls++((aM.mk B (F2 []) false ZB)::s0 (G0 a) j.ai.ls))) - u; omega)
 refine Gz (vP gu 2) aD (Gl (.bool I.bg.eU) aD bf 0 H2 (IQ (v:= .bool I.bg.eU) rfl rfl Z rfl (H6 rfl aD rfl) (fw (.bool I.bg.eU) (Ic rfl Z rfl) (An rfl (rt (rs (fw (.bool I.bg.eU) (Ic rfl (dT S) rfl) (nt ?_))))))))
 rcases Lr (I.bg.eU) with bK | bK
 refine jT bK ?_
 have gB:=bf.px [] [0] []
 refine H8 (Mz rfl (Kz (vP bv 0) (Lz (vU I.au) gB 0 E1 ?_)))
 refine jN [vU I.au] 32 1 1 gB ?_
 intro lw qG eD
 replace eD:=IL (y:=row lw 1 1 (q2 (eN .u64) ([I.au])) 32 1) rfl eD
 have gD:=eD.pf [10]
 refine WL.do rfl (IC (k:=r.length) (m:=1) (iH) gD rfl rfl (eY O4 (gD.rds (i:=1) rfl) (cZ mi ([I.au]))) rfl e8 (s:=q7 (r++ [I.au])) f3 (t7).symm ?_)
 intro lC lD qH lF
 have oI:q7 (r++ [I.au])=r.length+1:=by simp only [o0,r5,K1]
 refine Az rfl (B6 (bN (Ib ?_)))
 have lG:=lF.px [] [1,2] []
 refine H8 (fw (vJ (u+1)) (Ig (e:=B5.wrap ((u:Int)+1)) yk f1) (Mz rfl (B6 ?_)))
 have lH:=lG.pb [0]
 exact Iq (lC,lD,(r++ [I.au]),u+1) ⟨rfl,rfl,rfl,rfl,rfl,rfl,rfl,rfl,trivial⟩ (aB.2 ⟨lH,e8,e8,et (aJ) (et (congrArg (λ q=>dR j B C K a (ay.abs b) (ay.abs g) (ay.abs h) q r u) (lK (n:=q7 (t6 (G0 a) j.ai.ls++((aM.mk B (F2 []) false ZB)::s0 (G0 a) j.ai.ls))) (i:=u) e8)) (et (ae (bu aO)) (et (ip Y) (et (ip S) (et (ae aZ) (et (ip Z) (et (eF aD) (ip bK))))))))⟩) (by show (q7 (t6 (G0 a) j.ai.ls++((aM.mk B (F2 []) false ZB)::s0 (G0 a) j.ai.ls))) - (u+1) < (q7 (t6 (G0 a) j.ai.ls++((aM.mk B (F2 []) false ZB)::s0 (G0 a) j.ai.ls))) - u; omega)
 refine jF bK (IG (bN (Ib ?_)))
 have lI:=bf.px [] [0,1] []
 refine H8 (fw (vJ (u+1)) (Ig (e:=B5.wrap ((u:Int)+1)) yk f1) (Mz rfl (B6 ?_)))
 have lJ:=lI.pf []
 exact Iq (ag,au,r,u+1) ⟨rfl,rfl,rfl,rfl,rfl,rfl,rfl,rfl,trivial⟩ (aB.2 ⟨lJ,e8,e8,et (aJ) (et (congrArg (λ q=>dR j B C K a (ay.abs b) (ay.abs g) (ay.abs h) q r u) (lK (n:=q7 (t6 (G0 a) j.ai.ls++((aM.mk B (F2 []) false ZB)::s0 (G0 a) j.ai.ls))) (i:=u) e8)) (et (ae (bu aO)) (et (ip Y) (et (ip S) (et (ae aZ) (et (ip Z) (et (eF aD) (eF bK))))))))⟩) (by show (q7 (t6 (G0 a) j.ai.ls++((aM.mk B (F2 []) false ZB)::s0 (G0 a) j.ai.ls))) - (u+1) < (q7 (t6 (G0 a) j.ai.ls++((aM.mk B (F2 []) false ZB)::s0 (G0 a) j.ai.ls))) - u; omega)
 refine Sz Z (Sz Z (Sz Z (Ij rfl rfl rfl (Ij rfl rfl rfl (Sz Z (fw (.bool false) (H6 rfl Z rfl) (An rfl (rt (rs (fw (.bool false) (Ic rfl (dT S) rfl) (nt (jf (IG (bN (Ib ?_)))))))))))))))
 have lM:=bf.px [] [0,1] []
 refine H8 (fw (vJ (u+1)) (Ig (e:=B5.wrap ((u:Int)+1)) yk f1) (Mz rfl (B6 ?_)))
 have lQ:=lM.pf []
 exact Iq (ag,au,r,u+1) ⟨rfl,rfl,rfl,rfl,rfl,rfl,rfl,rfl,trivial⟩ (aB.2 ⟨lQ,e8,e8,et (aJ) (et (congrArg (λ q=>dR j B C K a (ay.abs b) (ay.abs g) (ay.abs h) q r u) (lK (n:=q7 (t6 (G0 a) j.ai.ls++((aM.mk B (F2 []) false ZB)::s0 (G0 a) j.ai.ls))) (i:=u) e8)) (et (ae (bu aO)) (et (ip Y) (et (ip S) (et (ae aZ) (eF Z))))))⟩) (by show (q7 (t6 (G0 a) j.ai.ls++((aM.mk B (F2 []) false ZB)::s0 (G0 a) j.ai.ls))) - (u+1) < (q7 (t6 (G0 a) j.ai.ls++((aM.mk B (F2 []) false ZB)::s0 (G0 a) j.ai.ls))) - u; omega)
 refine Sz (dF S) (Sz (dF S) (Sz (dF S) (Sz (dF S) (Sz (dF S) (Sz (dF S) (fw (.bool false) (H6 rfl (dF S) rfl) (nt (jf (IG (bN (Ib ?_)))))))))))
 have lS:=aX.px [] [0] []
 refine H8 (fw (vJ (u+1)) (Ig (e:=B5.wrap ((u:Int)+1)) yk f1) (Mz rfl (B6 ?_)))
 have lT:=lS.pf []
 exact Iq (ag,au,r,u+1) ⟨rfl,rfl,rfl,rfl,rfl,rfl,rfl,rfl,trivial⟩ (aB.2 ⟨lT,e8,e8,et (aJ) (et (congrArg (λ q=>dR j B C K a (ay.abs b) (ay.abs g) (ay.abs h) q r u) (lK (n:=q7 (t6 (G0 a) j.ai.ls++((aM.mk B (F2 []) false ZB)::s0 (G0 a) j.ai.ls))) (i:=u) e8)) (et (ae (bu aO)) (et (ip Y) (iN S))))⟩) (by show (q7 (t6 (G0 a) j.ai.ls++((aM.mk B (F2 []) false ZB)::s0 (G0 a) j.ai.ls))) - (u+1) < (q7 (t6 (G0 a) j.ai.ls++((aM.mk B (F2 []) false ZB)::s0 (G0 a) j.ai.ls))) - u; omega)
 refine Sz Y (Sz Y (Sz Y (Sz Y (fw (.bool false) (H6 rfl Y rfl) (Mz rfl (Sz rfl (Sz rfl (Sz rfl (Sz rfl (Sz rfl (Sz rfl (fw (.bool false) (H6 rfl rfl rfl) (nt (jf (IG (bN (Ib ?_)))))))))))))))))
 have lV:=aX.px [] [0] []
 refine H8 (fw (vJ (u+1)) (Ig (e:=B5.wrap ((u:Int)+1)) yk f1) (Mz rfl (B6 ?_)))
 have lW:=lV.pf []
 exact Iq (ag,au,r,u+1) ⟨rfl,rfl,rfl,rfl,rfl,rfl,rfl,rfl,trivial⟩ (aB.2 ⟨lW,e8,e8,et (aJ) (et (congrArg (λ q=>dR j B C K a (ay.abs b) (ay.abs g) (ay.abs h) q r u) (lK (n:=q7 (t6 (G0 a) j.ai.ls++((aM.mk B (F2 []) false ZB)::s0 (G0 a) j.ai.ls))) (i:=u) e8)) (et (ae (bu aO)) (eF Y)))⟩) (by show (q7 (t6 (G0 a) j.ai.ls++((aM.mk B (F2 []) false ZB)::s0 (G0 a) j.ai.ls))) - (u+1) < (q7 (t6 (G0 a) j.ai.ls++((aM.mk B (F2 []) false ZB)::s0 (G0 a) j.ai.ls))) - u; omega)
 refine jF (dF gq) (B7 (Ip ?_))
 have iL:dR j B C K a (ay.abs b) (ay.abs g) (ay.abs h) (q7 (t6 (G0 a) j.ai.ls++((aM.mk B (F2 []) false ZB)::s0 (G0 a) j.ai.ls))) [] 0=r:=et (aJ) (et (congrArg (λ q=>dR j B C K a (ay.abs b) (ay.abs g) (ay.abs h) q r u) (y8 (n:=q7 (t6 (G0 a) j.ai.ls++((aM.mk B (F2 []) false ZB)::s0 (G0 a) j.ai.ls))) (i:=u) e8)) rfl)
 refine Ip (Iz (Ib (H7 (H7 ?_))))
 have lX:=bq.px [] [0,1] []
 refine H8 (Mz rfl (Kz (vJ r.length) (Mn rfl (bo ?_))))
 have iM:q7 (t6 (G0 a) j.ai.ls++((aM.mk B (F2 []) false ZB)::s0 (G0 a) j.ai.ls))=q7 (L6 (L6 (L6 (t6 (G0 a) j.ai.ls++((aM.mk B (F2 []) false ZB)::s0 (G0 a) j.ai.ls)) (G0 a) (aM.mk b.au (F2 (b.aG.ls++ [C])) b.bn b.bg)) (G0 a) (aM.mk g.au (F2 g.aG.ls) false g.bg)) (G0 a) (aM.mk h.au (F2 h.aG.ls) h.bn ZB)):=by first | omega | (simp only [L7]; done) | (simp only [L7,o0,r5,K1,m8,m9,N2]; omega)
 have lY:Own w D kX [row J (q7 (L6 (L6 (L6 (t6 (G0 a) j.ai.ls++((aM.mk B (F2 []) false ZB)::s0 (G0 a) j.ai.ls)) (G0 a) (aM.mk b.au (F2 (b.aG.ls++ [C])) b.bn b.bg)) (G0 a) (aM.mk g.au (F2 g.aG.ls) false g.bg)) (G0 a) (aM.mk h.au (F2 h.aG.ls) h.bn ZB))) ai (q2 ay.cells (L6 (L6 (L6 (t6 (G0 a) p++((ay.mk B (N1 none 0 []) false ZB)::s0 (G0 a) p)) (G0 a) (ay.mk b.au (N1 U V (b.aG.ls++ [C])) b.bn b.bg)) (G0 a) (ay.mk g.au g.aG false g.bg)) (G0 a) (ay.mk h.au h.aG h.bn ZB))) 164 6,sepL (q2 Iy (L6 (L6 (L6 (t6 (G0 a) p++((ay.mk B (N1 none 0 []) false ZB)::s0 (G0 a) p)) (G0 a) (ay.mk b.au (N1 U V (b.aG.ls++ [C])) b.bn b.bg)) (G0 a) (ay.mk g.au g.aG false g.bg)) (G0 a) (ay.mk h.au h.aG h.bn ZB))),blk g0 [.slice J (q7 (L6 (L6 (L6 (t6 (G0 a) j.ai.ls++((aM.mk B (F2 []) false ZB)::s0 (G0 a) j.ai.ls)) (G0 a) (aM.mk b.au (F2 (b.aG.ls++ [C])) b.bn b.bg)) (G0 a) (aM.mk g.au (F2 g.aG.ls) false g.bg)) (G0 a) (aM.mk h.au (F2 h.aG.ls) h.bn ZB))) ai] 114,blk g3 [.slice N K.aS.ls.length O, .slice P K.dE.ls.length Q] 157,row N K.aS.ls.length O (q2 (eN .u64) K.aS.ls) 32 1,row P K.dE.ls.length Q (q2 (eN .u64) K.dE.ls) 32 1,row ag r.length au (q2 (eN .u64) r) 32 1]:=by rw [<- iM]; exact lX
 have lZ:=lY.pb [0,1]
 obtain⟨l5,cK⟩:=FU λ (af:Nat) bM (bO:Nat) bz ak w'=>Own w D w' [blk g0 [.slice bM ak.length bO] 114,blk g3 [.slice N K.aS.ls.length O, .slice P K.dE.ls.length Q] 157,row N K.aS.ls.length O (q2 (eN .u64) K.aS.ls) 32 1,row P K.dE.ls.length Q (q2 (eN .u64) K.dE.ls) 32 1,row ag r.length au (q2 (eN .u64) r) 32 1,row bM ak.length bO (q2 ay.cells bz) 164 6,sepL (q2 Iy bz)]/\s1 ay.abs bz=ak/\af<=r.length/\ak.length<=(q7 (L6 (L6 (L6 (t6 (G0 a) j.ai.ls++((aM.mk B (F2 []) false ZB)::s0 (G0 a) j.ai.ls)) (G0 a) (aM.mk b.au (F2 (b.aG.ls++ [C])) b.bn b.bg)) (G0 a) (aM.mk g.au (F2 g.aG.ls) false g.bg)) (G0 a) (aM.mk h.au (F2 h.aG.ls) h.bn ZB)))+af/\ak.length<=q7 (L6 (L6 (L6 (t6 (G0 a) j.ai.ls++((aM.mk B (F2 []) false ZB)::s0 (G0 a) j.ai.ls)) (G0 a) (aM.mk b.au (F2 (b.aG.ls++ [C])) b.bn b.bg)) (G0 a) (aM.mk g.au (F2 g.aG.ls) false g.bg)) (G0 a) (aM.mk h.au (F2 h.aG.ls) h.bn ZB))/\gZ K r r (L6 (L6 (L6 (t6 (G0 a) j.ai.ls++((aM.mk B (F2 []) false ZB)::s0 (G0 a) j.ai.ls)) (G0 a) (aM.mk b.au (F2 (b.aG.ls++ [C])) b.bn b.bg)) (G0 a) (aM.mk g.au (F2 g.aG.ls) false g.bg)) (G0 a) (aM.mk h.au (F2 h.aG.ls) h.bn ZB))=gZ K r (s0 af r) ak
 refine y6 (λ i:Nat × (Option Addr) × Nat × (List ay) × (List aM)=> [(71,vJ i.1),(70,vJ r.length),(69, .slice ag r.length au),(10, .slice ag r.length au),(0,vP g0 0),(3,vP g3 0)]) l5 (λ i=>r.length - i.1) (0,J,ai,(L6 (L6 (L6 (t6 (G0 a) p++((ay.mk B (N1 none 0 []) false ZB)::s0 (G0 a) p)) (G0 a) (ay.mk b.au (N1 U V (b.aG.ls++ [C])) b.bn b.bg)) (G0 a) (ay.mk g.au g.aG false g.bg)) (G0 a) (ay.mk h.au h.aG h.bn ZB)),(L6 (L6 (L6 (t6 (G0 a) j.ai.ls++((aM.mk B (F2 []) false ZB)::s0 (G0 a) j.ai.ls)) (G0 a) (aM.mk b.au (F2 (b.aG.ls++ [C])) b.bn b.bg)) (G0 a) (aM.mk g.au (F2 g.aG.ls) false g.bg)) (G0 a) (aM.mk h.au (F2 h.aG.ls) h.bn ZB))) ⟨rfl,rfl,rfl,rfl,rfl,rfl,trivial⟩ (cK.2 ⟨lZ,by exact(eH (eH (eH (jJ (z:=(aM.mk B (F2 []) false ZB)) M rfl) rfl) rfl) rfl),e8,e8,e8,rfl⟩) ?_
 rintro ⟨af,bM,bO,bz,ak⟩ qI iO
 show Wp _ _ _ [(71,vJ af),(70,vJ r.length),(69, .slice ag r.length au),(10, .slice ag r.length au),(0,vP g0 0),(3,vP g3 0)] _ _
 obtain⟨bA,cO,oJ,oK,oM,eG⟩:=cK.1 iO
 have oN:=aY cO
 refine sr (Kz (.bool (decide ((af:Int) < (r.length:Int)))) (nt (H7 ?_)))
 by_cases gF:(af:Int) < (r.length:Int)
 obtain⟨eO,eP⟩:=dG (ls:=r) (i:=af) gT f5 (bA.rds (i:=4) rfl) f2
 have iP:=drop_at eP
 refine jT (dT gF) (sk (H7 (bo (sr (fw (.pointer (some ⟨ab ag,ao ag+af *1,none⟩)) (Im (iH) rfl rfl ((bA.rds (i:=4) rfl).addr (i:=af) e8) e8) (fw (vU eO) (Il rfl (bQ.one E1 (((bA.rds (i:=4) rfl).elem gT eP f5).at_ (k:=0) rfl))) (An rfl (H8 (Mz rfl (Mz rfl ?_))))))))))
 have l6:=bA.pf [0,5,6]
 obtain⟨eQ,eU⟩:∃ q,jr (aW.mk (F2 ak)) eO=q:=⟨_,rfl⟩
 obtain⟨qJ,iQ,oO,iR,oP⟩:=Jb l6
 refine cl Tryz.call120 (oL _ _ g0 (aW.mk (F2 ak)) bM bO bz eO eQ iQ cO f9 eU) ?_
 rintro _ qK ⟨l7,l8,l9,rfl,iT,fe,fo⟩
 have gG:=iR _ _ iT
 have oQ:=aY fe
 have oU:=gG.rowC (i:=1) rfl
 replace fo:eQ.ai.ls.length<=ak.length:=fo
 refine B6 (bN (Ib (H8 (fw (vJ (af+1)) (Ig (e:=B5.wrap ((af:Int)+1)) yk f1) (Mz rfl (B6 ?_))))))
 have ma:=gG.pb [1,2]
 exact Iq (af+1,l7,l8,l9,eQ.ai.ls) ⟨rfl,rfl,rfl,rfl,rfl,rfl,trivial⟩ (cK.2 ⟨ma,by exact fe,e8,e8,e8,et (eG) (et (congrArg (λ q=>gZ K r q ak) iP) (ae eU))⟩) (by show r.length - (af+1) < r.length - af; omega)
 refine jF (dF gF) (B7 (Ip ?_))
 have iU:gZ K r r (L6 (L6 (L6 (t6 (G0 a) j.ai.ls++((aM.mk B (F2 []) false ZB)::s0 (G0 a) j.ai.ls)) (G0 a) (aM.mk b.au (F2 (b.aG.ls++ [C])) b.bn b.bg)) (G0 a) (aM.mk g.au (F2 g.aG.ls) false g.bg)) (G0 a) (aM.mk h.au (F2 h.aG.ls) h.bn ZB))=ak:=et (eG) (et (congrArg (λ q=>gZ K r q ak) (eX (ls:=r) (i:=af) e8)) rfl)
 refine Ip (Iz (Ib (H8 (Mz rfl (Mz rfl (Kz (vP g3 0) (Kz (vP g3 1) (Lz (.slice P K.dE.ls.length Q) bA 1 Tryz.isAgg35 (Mz rfl ?_)))))))))
 have gH:=bA.pf [3]
 refine WL.do rfl (IC (k:=K.dE.ls.length) (m:=r.length) (iH) gH rfl rfl (eY O4 (gH.rds (i:=4) rfl) (cZ mi r)) rfl e8 (s:=q7 (K.dE.ls++r)) f3 (t7).symm ?_)
 intro gI gJ qL mf
 have oV:q7 (K.dE.ls++r)=K.dE.ls.length+r.length:=by simp only [o0,r5,K1]
 refine Kz (vP g3 0) (Kz (vP g3 1) ?_)
 have mg:=mf.pf [2]
 refine cu [.slice gI (q7 (K.dE.ls++r)) gJ] 1 mg Tryz.sizeOf35 ?_
 intro qM mh
 refine B6 (IV (res0 rfl) ?_)
 have mo:=mh.px [] [4] [0,3,1]
 obtain⟨rfl,rfl⟩:=fB (zj hr (show _=(aW.mk (F2 ak),eZ.mk (F2 K.aS.ls) (F2 (K.dE.ls++r))) from et (ae dz) (et (eF bU) (et (ae (bu dW)) (et (ae (bu iE)) (et (ae (bu iF)) (et (ae iL) (ae iU))))))))
 exact⟨bM,bO,bz,N,O,gI,gJ,rfl,mo,cO⟩
end
open List renaming filter_append->O6,filter_cons_of_neg->O7,filter_eq_nil_iff->O8,filter_filter->O9,getElem?_drop->m4,getElem?_eq_getElem->p5,getElem?_eq_some_iff->p4,mem_cons->u3,mem_filter->P0,mem_iff_getElem?->M6,pairwise_append->O5,pairwise_cons->M2
open Nat renaming lt_or_ge->M5
def Up (l:List aM):Prop:=l.Pairwise λ a b=>a.au < b.au
theorem Ae {l:List aM} (hs:Up l) {i j:Nat} {a b:aM} (ha:l[i]? =some a) (hb:l[j]? =some b) (h:i < j):a.au < b.au:=by
  obtain⟨c,rfl⟩:=p4.1 ha
  obtain⟨d,rfl⟩:=p4.1 hb
  exact List.pairwise_iff_getElem.1 hs i j c d h
theorem cmp_eq (a b:Nat):eG a b=if a < b then -1 else if a > b then 1 else 0:=by
  unfold eG iX
  simp only [bK]
  rw [if_neg f5,if_neg f5]
  by_cases h:a < b
  . rw [if_pos e8,if_pos h]
  . rw [if_neg e8,if_neg h]
    by_cases c:a > b
    . rw [if_pos e8,if_pos c]
    . rw [if_neg e8,if_neg c]
theorem ny {a b:Nat}:eG a b < 0↔a < b:=by
  rw [cmp_eq]; split
  . omega
  . split <;> omega
theorem wQ {a b:Nat}:eG a b=0↔a=b:=by
  rw [cmp_eq]; split
  . omega
  . split <;> omega
theorem xO {m:List aM} (hs:Up m) (k:Nat):∀ (f i j:Nat),j - i < f->i<=j->j<=m.length->(∀ q p,m[q]? =some p->q < i->p.au < k)->(∀ q p,m[q]? =some p->j<=q->¬ p.au < k)->
    ∃ r,dO m k f i j=r/\r<=m.length/\(∀ q p,m[q]? =some p->q < r->p.au < k)/\(∀ q p,m[q]? =some p->r<=q->¬ p.au < k)
  | 0,i,j,h,_,_,_,_=>e8
  | f+1,i,j,h,hij,hj,hl,hg=>by
    unfold dO
    by_cases b:(i:Int) < (j:Int)
    . obtain⟨x,hx⟩:∃ x,m[(i+j) / 2]? =some x:=⟨_,p5 e8⟩
      rw [if_pos b,bK,bK,bu hx]
      by_cases a:eG x.au k < 0
      . rw [if_pos a]
        refine xO hs k f _ j e8 e8 hj (λ q p hq hlt=> ?_) hg
        rcases M5 q ((i+j) / 2) with e | e
        . exact Nat.lt_trans (Ae hs hq hx e) (ny.1 a)
        . have:q=(i+j) / 2:=e8
          subst this
          rw [hx] at hq; cases hq
          exact ny.1 a
      . rw [if_neg a]
        refine xO hs k f i _ e8 e8 e8 hl (λ q p hq hge hlt=> ?_)
        rcases M5 ((i+j) / 2) q with e | e
        . exact a (ny.2 (Nat.lt_trans (Ae hs hx hq e) hlt))
        . have:q=(i+j) / 2:=e8
          subst this
          rw [hx] at hq; cases hq
          exact a (ny.2 hlt)
    . rw [if_neg b]
      have:i=j:=e8
      subst this
      exact⟨i,rfl,hj,hl,hg⟩
structure Ho (m:List aM) (k:Nat) (a b:List aM):Prop where
  app:m=a++b
  lo:∀ p ∈ a,p.au < k
  hi:∀ p ∈ b,k<=p.au
theorem DJ {m:List aM} (hs:Up m) (k:Nat):∃ a b,Ho m k a b/\(eT (aW.mk (F2 m)) k).1=((a.length:Nat):Int)/\((eT (aW.mk (F2 m)) k).2=true↔∃ p q,b=p::q/\p.au=k):=by
  obtain⟨r,d,i,f,g⟩:=xO hs k (m.length - 0+1) 0 m.length e8 e8 (Nat.le_refl _) (λ q p _ h=>e8) (λ q p hq h=>by have:=(p4.1 hq).1; omega)
  have hlen:(t6 r m).length=r:=by rw [List.length_take]; omega
  have e:eT (aW.mk (F2 m)) k=((r:Int),(eT (aW.mk (F2 m)) k).2)/\((eT (aW.mk (F2 m)) k).2=true↔∃ p,m[r]? =some p/\p.au=k):=by
    unfold eT gL
    simp only [bK,d]
    by_cases c:(r:Int) < ((List.length m:Nat):Int)
    . obtain⟨x,hx⟩:∃ x,m[r]? =some x:=⟨_,p5 e8⟩
      rw [if_pos c,bu hx]
      refine⟨rfl, ?_⟩
      simp only [decide_eq_true_eq,wQ,hx,Option.some.injEq,exists_eq_left']
    . rw [if_neg c]
      refine⟨rfl, ?_⟩
      have:m[r]? =none:=List.getElem?_eq_none e8
      simp [this]
  refine⟨t6 r m,s0 r m,⟨(List.take_append_drop r m).symm,λ p hp=> ?_,λ p hp=> ?_⟩, ?_, ?_⟩
  . obtain⟨j,hj⟩:=M6.1 hp
    have hjr:j < r:=by have:=(p4.1 hj).1; omega
    rw [List.getElem?_take,if_pos hjr] at hj
    exact f j p hj hjr
  . obtain⟨j,hj⟩:=M6.1 hp
    rw [m4] at hj
    exact Nat.le_of_not_lt (g _ p hj e8)
  . rw [e.1,hlen]
  . rw [e.2]
    constructor
    . rintro ⟨p,hp,hk⟩
      exact⟨p,s0 (r+1) m,drop_at hp,hk⟩
    . rintro ⟨p,q,hp,hk⟩
      refine⟨p, ?_,hk⟩
      have:(s0 r m)[0]? =some p:=by rw [hp]; rfl
      rwa [m4,Nat.add_zero] at this
theorem zI {l:List aM} (p:aM->Bool) (h:Up l):Up (l.filter p):=h.filter p
theorem Cq {a b:List aM} {p:aM} (h:Up (a++p::b)):Up a/\Up b/\(∀ r ∈ a,r.au < p.au)/\(∀ r ∈ b,p.au < r.au):=by
  have c:=O5.1 h
  have d:=M2.1 c.2.1
  exact⟨c.1,d.2,λ r hr=>c.2.2 r hr p b3,d.1⟩
theorem ma {m:List aM} (hs:Up m) (t:Nat):
    (∃ a p q,m=a++p::q/\p.au=t/\(∀ r ∈ a,r.au < t)/\(∀ r ∈ q,t < r.au)/\eT (aW.mk (F2 m)) t=((a.length:Int),true))\/
    (∃ a q,m=a++q/\(∀ r ∈ a,r.au < t)/\(∀ r ∈ q,t < r.au)/\eT (aW.mk (F2 m)) t=((a.length:Int),false)):=by
  obtain⟨a,b,hc,f,g⟩:=DJ hs t
  have e:∀ x:Int × Bool,x=(x.1,x.2):=λ _=>rfl
  cases hb:(eT (aW.mk (F2 m)) t).2 with
  | true=>
    obtain⟨p,q,rfl,hp⟩:=g.1 hb
    refine .inl ⟨a,p,q,hc.app,hp,hc.lo,λ r hr=> ?_, ?_⟩
    . have:=(Cq (hc.app ▸ hs)).2.2.2 r hr; omega
    . rw [e (eT _ _),f,hb]
  | false=>
    refine .inr ⟨a,b,hc.app,hc.lo,λ r hr=> ?_, ?_⟩
    . have i:=hc.hi r hr
      rcases M5 t r.au with h | h
      . exact h
      . exfalso
        have c:r.au=t:=e8
        cases b with
        | nil=>cases hr
        | cons p q=>
          have hup:=Cq (hc.app ▸ hs)
          rcases u3.1 hr with d | d
          . exact absurd (g.2 ⟨p,q,rfl,by rw [<- d]; exact c⟩) (by rw [hb]; decide)
          . have:=hup.2.2.2 r d; have:=hc.hi p b3; omega
    . rw [e (eT _ _),f,hb]
def but (t:Nat) (l:List aM):List aM:=l.filter λ r=>decide (r.au≠t)
theorem mV {l:List aM} {p:aM->Bool} (h:∀ r ∈ l,p r=true):l.filter p=l:=List.filter_eq_self.2 h
theorem qH {m:List aM} (hs:Up m) (t:Nat):jr (aW.mk (F2 m)) t=aW.mk (F2 (but t m)):=by
  unfold jr but
  rw [bK]
  rcases ma hs t with ⟨a,p,q,rfl,hp,ha,hq,hf⟩ | ⟨a,q,rfl,ha,hq,hf⟩
  . rw [hf,if_pos rfl]
    have b:List.filter (λ r:aM=>decide (r.au≠t)) (a++p::q)=a++q:=by
      rw [O6,O7 (by simp [hp]),mV (λ r hr=>decide_eq_true (Nat.ne_of_lt (ha r hr))),mV (λ r hr=>decide_eq_true (Nat.ne_of_gt (hq r hr)))]
    rw [b]
    simp only [Int.toNat_natCast,show (a.length:Int)+1=((a.length+1:Nat):Int) from by omega]
    have c:s0 (a.length+1) (a++p::q)=q:=by rw [show a++p::q=(a++ [p])++q by simp]; exact List.drop_left' i3
    have d:t6 a.length (a++p::q)=a:=List.take_left' rfl
    rw [c,d]
  . rw [hf,if_neg i3]
    have b:List.filter (λ r:aM=>decide (r.au≠t)) (a++q)=a++q:=mV λ r hr=>by
      rcases List.mem_append.1 hr with h | h
      . exact decide_eq_true (Nat.ne_of_lt (ha r h))
      . exact decide_eq_true (Nat.ne_of_gt (hq r h))
    rw [b]
def zl:aF:=aF.mk (aj.mk [] []) false
def old (l:List aM) (t:Nat):List aF:=(l.filter λ r=>decide (r.au=t)).flatMap λ r=>r.aG.ls
def iC (l:List aM) (t:Nat) (x:aF):List aM:=(l.filter λ r=>decide (r.au < t))++(aM.mk t (F2 (old l t++ [x])) false zl::l.filter λ r=>decide (t < r.au))
def dies (t:Nat) (x:aF) (r:aM):Bool:=r.bn && (decide (t < r.au) && ((kT x.aA r.bg.aA).2 && (x.eU || r.bg.eU)))
theorem vg {a q:List aM} {p:aM} {t:Nat} (x:aF) (hp:p.au=t) (ha:∀ r ∈ a,r.au < t) (hq:∀ r ∈ q,t < r.au):iC (a++p::q) t x=a++aM.mk t (F2 (p.aG.ls++ [x])) false zl::q:=by
  have fa:∀ {l:List aM} {f:aM->Bool},(∀ r ∈ l,f r=false)->l.filter f= []:=λ {l f} h=>O8.2 λ r hr=>by rw [h r hr]; decide
  unfold iC old
  rw [O6,O6,O6,O7 (by simp [hp]),List.filter_cons_of_pos (by simp [hp]),O7 (by simp [hp])]
  rw [mV (λ r hr=>decide_eq_true (ha r hr)),fa (l:=q) (λ r hr=>decide_eq_false (by have:=hq r hr; omega)),fa (l:=a) (f:=λ r=>decide (t < r.au)) (λ r hr=>decide_eq_false (by have:=ha r hr; omega)),mV (λ r hr=>decide_eq_true (hq r hr)),fa (l:=a) (f:=λ r=>decide (r.au=t)) (λ r hr=>decide_eq_false (by have:=ha r hr; omega)),fa (l:=q) (f:=λ r=>decide (r.au=t)) (λ r hr=>decide_eq_false (by have:=hq r hr; omega))]
  simp
theorem xe {a q:List aM} {t:Nat} (x:aF) (ha:∀ r ∈ a,r.au < t) (hq:∀ r ∈ q,t < r.au):iC (a++q) t x=a++aM.mk t (F2 ([]++ [x])) false zl::q:=by
  have fa:∀ {l:List aM} {f:aM->Bool},(∀ r ∈ l,f r=false)->l.filter f= []:=λ {l f} h=>O8.2 λ r hr=>by rw [h r hr]; decide
  unfold iC old
  rw [O6,O6,O6]
  rw [mV (λ r hr=>decide_eq_true (ha r hr)),fa (l:=q) (λ r hr=>decide_eq_false (by have:=hq r hr; omega)),fa (l:=a) (f:=λ r=>decide (t < r.au)) (λ r hr=>decide_eq_false (by have:=ha r hr; omega)),mV (λ r hr=>decide_eq_true (hq r hr)),fa (l:=a) (f:=λ r=>decide (r.au=t)) (λ r hr=>decide_eq_false (by have:=ha r hr; omega)),fa (l:=q) (f:=λ r=>decide (r.au=t)) (λ r hr=>decide_eq_false (by have:=hq r hr; omega))]
  simp
theorem yI {a q:List aM} {p:aM} {t:Nat} (hs:Up (a++q)) (hp:p.au=t) (ha:∀ r ∈ a,r.au < t) (hq:∀ r ∈ q,t < r.au):Up (a++p::q):=by
  have h:=O5.1 hs
  refine O5.2 ⟨h.1,M2.2 ⟨λ r hr=>by rw [hp]; exact hq r hr,h.2.1⟩,λ r hr s hs=> ?_⟩
  rcases u3.1 hs with e | e
  . rw [e,hp]; exact ha r hr
  . exact h.2.2 r hr s e
theorem q8 {l:List aM} (hs:Up l) (t:Nat) (x:aF):Up (iC l t x):=by
  rcases ma hs t with ⟨a,p,q,rfl,hp,ha,hq,_⟩ | ⟨a,q,rfl,ha,hq,_⟩
  . rw [vg x hp ha hq]
    have h:=O5.1 hs
    have b:=M2.1 h.2.1
    exact yI (O5.2 ⟨h.1,b.2,λ r hr s hs=>h.2.2 r hr s (.tail _ hs)⟩) rfl ha hq
  . rw [xe x ha hq]; exact yI hs rfl ha hq
theorem DK {a:eZ} {z:List Nat}:∀ {l:List aM} (ds:List Nat),Up l->gY a z ds l=l.filter λ r=>decide (r.au ∉ ds)
  | l, [],h=>by rw [gY]; exact(mV λ r hr=>by simp).symm
  | l,d::ds,h=>by
    rw [gY,bK,qH h]
    show gY a z ds (but d l)=_
    have hb:Up (but d l):=zI _ h
    rw [DK ds hb]
    unfold but
    rw [O9]
    congr 1
    funext r
    simp only [u3,not_or, <- Bool.decide_and]
    exact decide_eq_decide.2 ⟨λ h=>⟨h.2,h.1⟩,λ h=>⟨h.2,h.1⟩⟩
theorem DL {a:eZ} {z:List Nat}:∀ {l:List aM} (ds:List Nat),Up l->gZ a z ds l=l.filter λ r=>decide (r.au ∉ ds)
  | l, [],h=>by rw [gZ]; exact(mV λ r hr=>by simp).symm
  | l,d::ds,h=>by
    rw [gZ,bK,qH h]
    show gZ a z ds (but d l)=_
    have hb:Up (but d l):=zI _ h
    rw [DL ds hb]
    unfold but
    rw [O9]
    congr 1
    funext r
    simp only [u3,not_or, <- Bool.decide_and]
    exact decide_eq_decide.2 ⟨λ h=>⟨h.2,h.1⟩,λ h=>⟨h.2,h.1⟩⟩
theorem yJ {l:List aM} (h:Up l) {r s:aM} (hr:r ∈ l) (hs:s ∈ l) (e:r.au=s.au):r=s:=by
  obtain⟨i,hi⟩:=M6.1 hr
  obtain⟨j,hj⟩:=M6.1 hs
  rcases Nat.lt_trichotomy i j with c | c | c
  . have:=Ae h hi hj c; omega
  . rw [c,hj] at hi; exact(Option.some.inj hi).symm
  . have:=Ae h hj hi c; omega
theorem AY {l:List aM} (h:Up l) (f:aM->Bool):(l.filter λ r=>decide (r.au ∉ (l.filter f).map λ q=>q.au))=l.filter λ r=> !f r:=by
  refine List.filter_congr λ r hr=> ?_
  cases hf:f r with
  | true=>
    refine decide_eq_false ?_
    intro hn
    exact hn (List.mem_map.2 ⟨r,P0.2 ⟨hr,hf⟩,rfl⟩)
  | false=>
    refine decide_eq_true λ hn=> ?_
    obtain⟨s,hs,e⟩:=List.mem_map.1 hn
    have:=yJ h (P0.1 hs).1 hr e
    rw [this] at hs
    exact absurd (P0.1 hs).2 (by rw [hf]; decide)
theorem gd {α:Type} [Inhabited α] (a q:List α) (p:α):List.getD (a++p::q) a.length default=p:=by simp
theorem stt {α:Type} (a q:List α) (p y:α):List.set (a++p::q) a.length y=a++y::q:=by simp
theorem lI (t:Nat) (x:aF) (e:aM) (acc:List Nat) (r:List aM) {b:Bool} (hb:dies t x e=b):
    acc++List.map (λ q:aM=>q.au) (List.filter (dies t x) (e::r))=(if b=true then acc++ [e.au] else acc)++List.map (λ q:aM=>q.au) (List.filter (dies t x) r):=by
  cases b with
  | true=>rw [List.filter_cons_of_pos hb,if_pos rfl,List.map_cons,List.append_assoc]; rfl
  | false=>rw [List.filter_cons_of_neg (by rw [hb]; decide),if_neg f5]
theorem HY (o:aW) (t:Nat) (x:aF) (p:eZ) (i:Int) (a b c:aM) (LA:List aM)
    (hLA:(List.set (List.set (List.set o.ai.ls (Int.toNat i) (aM.mk a.au (Ll.mk (a.aG.ls++ [x])) a.bn a.bg)) (Int.toNat i) (aM.mk b.au (Ll.mk b.aG.ls) false b.bg)) (Int.toNat i) (aM.mk c.au (Ll.mk c.aG.ls) c.bn ZB))=LA):
    ∀ (q:Nat) (acc:List Nat) (k:Nat),q=LA.length - k->dQ o t x p i a b c q acc k=acc++List.map (λ q:aM=>q.au) (List.filter (dies t x) (List.drop k LA)):=by
  intro q
  induction q with
  | zero=>intro acc k h; rw [dQ,List.drop_eq_nil_of_le e8]; simp
  | succ q ih=>
    intro acc k h
    obtain⟨e,he⟩:∃ e,LA[k]? =some e:=⟨_,List.getElem?_eq_getElem e8⟩
    rw [dQ,hLA,bK,bu he,drop_at he]
    simp only [bK]
    have g:=ih (acc++ [e.au]) (k+1) e8
    have n:=ih acc (k+1) e8
    by_cases d:e.bn=true
    . rw [if_pos d]
      by_cases m:t < e.au
      . rw [if_pos e8]
        by_cases f:(kT x.aA e.bg.aA).2=true
        . rw [if_pos f]
          by_cases j:x.eU=true
          . rw [if_pos j,lI t x e acc _ (b:=true) (by unfold dies; rw [d,f,j,decide_eq_true m]; rfl),if_pos rfl]; exact g
          . rw [if_neg j]
            by_cases l:e.bg.eU=true
            . rw [if_pos l,lI t x e acc _ (b:=true) (by unfold dies; rw [d,f,l,decide_eq_true m,Bool.or_true]; rfl),if_pos rfl]; exact g
            . rw [if_neg l,lI t x e acc _ (b:=false) (by unfold dies; rw [Bool.eq_false_iff.2 j,Bool.eq_false_iff.2 l]; simp),if_neg f5]; exact n
        . rw [if_neg f,lI t x e acc _ (b:=false) (by unfold dies; rw [Bool.eq_false_iff.2 f]; simp),if_neg f5]; exact n
      . rw [if_neg e8,lI t x e acc _ (b:=false) (by unfold dies; rw [decide_eq_false m]; simp),if_neg f5]; exact n
    . rw [if_neg d,lI t x e acc _ (b:=false) (by unfold dies; rw [Bool.eq_false_iff.2 d]; rfl),if_neg f5]; exact n
theorem HZ (m:aW) (t:Nat) (x:aF) (p:eZ) (i:Int) (a b c:aM) (LA:List aM)
    (hLA:(List.set (List.set (List.set (List.take (Int.toNat i) m.ai.ls++((aM.mk t (Ll.mk []) false ZB)::List.drop (Int.toNat i) m.ai.ls)) (Int.toNat i) (aM.mk a.au (Ll.mk (a.aG.ls++ [x])) a.bn a.bg)) (Int.toNat i) (aM.mk b.au (Ll.mk b.aG.ls) false b.bg)) (Int.toNat i) (aM.mk c.au (Ll.mk c.aG.ls) c.bn ZB))=LA):
    ∀ (q:Nat) (acc:List Nat) (k:Nat),q=LA.length - k->dR m t x p i a b c q acc k=acc++List.map (λ q:aM=>q.au) (List.filter (dies t x) (List.drop k LA)):=by
  intro q
  induction q with
  | zero=>intro acc k h; rw [dR,List.drop_eq_nil_of_le e8]; simp
  | succ q ih=>
    intro acc k h
    obtain⟨e,he⟩:∃ e,LA[k]? =some e:=⟨_,List.getElem?_eq_getElem e8⟩
    rw [dR,hLA,bK,bu he,drop_at he]
    simp only [bK]
    have g:=ih (acc++ [e.au]) (k+1) e8
    have n:=ih acc (k+1) e8
    by_cases d:e.bn=true
    . rw [if_pos d]
      by_cases o:t < e.au
      . rw [if_pos e8]
        by_cases f:(kT x.aA e.bg.aA).2=true
        . rw [if_pos f]
          by_cases j:x.eU=true
          . rw [if_pos j,lI t x e acc _ (b:=true) (by unfold dies; rw [d,f,j,decide_eq_true o]; rfl),if_pos rfl]; exact g
          . rw [if_neg j]
            by_cases l:e.bg.eU=true
            . rw [if_pos l,lI t x e acc _ (b:=true) (by unfold dies; rw [d,f,l,decide_eq_true o,Bool.or_true]; rfl),if_pos rfl]; exact g
            . rw [if_neg l,lI t x e acc _ (b:=false) (by unfold dies; rw [Bool.eq_false_iff.2 j,Bool.eq_false_iff.2 l]; simp),if_neg f5]; exact n
        . rw [if_neg f,lI t x e acc _ (b:=false) (by unfold dies; rw [Bool.eq_false_iff.2 f]; simp),if_neg f5]; exact n
      . rw [if_neg e8,lI t x e acc _ (b:=false) (by unfold dies; rw [decide_eq_false o]; simp),if_neg f5]; exact n
    . rw [if_neg d,lI t x e acc _ (b:=false) (by unfold dies; rw [Bool.eq_false_iff.2 d]; rfl),if_neg f5]; exact n
theorem pM {m:List aM} (hs:Up m) (t:Nat) (x:aF) (c:eZ):ja (aW.mk (Ll.mk m)) t x c=
    (aW.mk (Ll.mk ((iC m t x).filter λ r=> !dies t x r)),eZ.mk (Ll.mk c.aS.ls) (Ll.mk (c.dE.ls++List.map (λ q:aM=>q.au) ((iC m t x).filter (dies t x))))):=by
  have hu:=q8 hs t x
  unfold ja
  rw [bK]
  rcases ma hs t with ⟨a,p,q,rfl,hp,ha,hq,hf⟩ | ⟨a,q,rfl,ha,hq,hf⟩
  . rw [hf,if_pos rfl]
    rw [vg x hp ha hq] at hu ⊢
    simp only [bK,Int.toNat_natCast,gd,stt]
    rw [HY _ t x c _ _ _ _ (a++aM.mk t (Ll.mk (p.aG.ls++ [x])) false zl::q) (by simp only [Int.toNat_natCast,stt, <- hp]; rfl) _ [] 0 i3]
    rw [List.drop_zero,List.nil_append]
    have e:(a++ { au:=p.au,aG:= { ls:=p.aG.ls++ [x] },bn:=false,bg:= { aA:= { aN:= [],aT:= [] },eU:=false } }::q)=(a++aM.mk t (Ll.mk (p.aG.ls++ [x])) false zl::q):=by rw [<- hp]; rfl
    rw [e,DK _ hu,AY hu]
  . rw [hf,if_neg i3]
    rw [xe x ha hq] at hu ⊢
    have b:List.drop a.length (a++q)=q:=List.drop_left' rfl
    have d:List.take a.length (a++q)=a:=List.take_left' rfl
    simp only [bK,Int.toNat_natCast,b,d,gd,stt]
    rw [HZ _ t x c _ _ _ _ (a++aM.mk t (Ll.mk ([]++ [x])) false zl::q) (by simp only [Int.toNat_natCast,b,d,stt]; rfl) _ [] 0 i3]
    rw [List.drop_zero,List.nil_append]
    have e:(a++ { au:=t,aG:= { ls:= []++ [x] },bn:=false,bg:= { aA:= { aN:= [],aT:= [] },eU:=false } }::q)=(a++aM.mk t (Ll.mk ([]++ [x])) false zl::q):=rfl
    rw [e,DL _ hu,AY hu]
open List renaming length_filter_le->P3,map_append->O2,map_cons->s8,sum_append->P4,sum_cons->P1
open Nat renaming le_trans->P2
def oP (r:aM):Nat:=if r.bn=true then 1 else 0
def Wt (l:List aM):Nat:=(l.map oP).sum
def kC (l:List aM):Nat:=(l.map λ r=>q7 r.aG.ls+oP r).sum
theorem lV {f:aM->Nat} (p:aM->Bool):∀ l:List aM,((l.filter p).map f).sum<=(l.map f).sum
  | []=>Nat.le_refl _
  | a::l=>by
    have ih:=lV (f:=f) p l
    rw [List.filter_cons]
    by_cases h:p a=true
    . rw [if_pos h]; simp only [s8,P1]; omega
    . rw [if_neg h]; simp only [s8,P1]; omega
theorem AZ {f:aM->Nat} {r:aM}:∀ {l:List aM},r ∈ l->f r<=(l.map f).sum
  | a::l,h=>by
    simp only [s8,P1]
    rcases List.mem_cons.1 h with e | e
    . rw [e]; omega
    . have:=AZ (f:=f) e; omega
theorem F8 (l:List aM):Wt l<=kC l:=by
  unfold Wt kC
  induction l with
  | nil=>exact Nat.le_refl _
  | cons a l ih=>simp only [s8,P1]; omega
structure Fit (l:List aM):Prop where
  up:Up l
  len:q7 l<=999999
  tot:kC l<=1000000
theorem Fit.hd {l:List aM} (h:Fit l):Hd l:=λ r hr=>by
  have:=AZ (f:=λ r:aM=>q7 r.aG.ls+oP r) hr
  have:=h.tot
  unfold kC at this
  omega
theorem Fit.wt {l:List aM} (h:Fit l):Wt l<=1000000:=P2 (F8 l) h.tot
theorem Fit.filter {l:List aM} (h:Fit l) (p:aM->Bool):Fit (l.filter p):=⟨h.up.filter p,P2 (P3 p l) h.len,P2 (lV p l) h.tot⟩
theorem xP {m:List aM} {a:lS} (h:kv (aW.mk (F2 m))=(a,true)):∃ r ∈ m,r.bn=true/\r.au=a.aU/\r.bg=a.nL/\dX (aW.mk (F2 m)) a.aU a.nL= []:=by
  have go:∀ l:List aM,(∀ r ∈ l,r ∈ m)->lp (gP (aW.mk (F2 m)) l) (λ _=>(lS.mk 0 ZB,false))=(a,true)->∃ r ∈ m,r.bn=true/\r.au=a.aU/\r.bg=a.nL/\dX (aW.mk (F2 m)) a.aU a.nL= []:=by
    intro l
    induction l with
    | nil=>intro _ h; exact Bool.noConfusion (show false=true from congrArg Prod.snd h)
    | cons r l ih=>
      intro hm h
      rw [gP] at h
      by_cases b:r.bn=true
      . rw [if_pos b,bK] at h
        by_cases c:(((dX (aW.mk (F2 m)) r.au r.bg).length:Nat):Int)=0
        . rw [if_pos c] at h
          have e:lS.mk r.au r.bg=a:=congrArg Prod.fst h
          subst e
          exact⟨r,hm r b3,b,rfl,rfl,List.eq_nil_of_length_eq_zero (Int.ofNat.inj c)⟩
        . rw [if_neg c] at h; exact ih (λ s hs=>hm s (.tail _ hs)) h
      . rw [if_neg b] at h; exact ih (λ s hs=>hm s (.tail _ hs)) h
  exact go m (λ _ h=>h) h
theorem vk (l:List aM) (hs:Up l) (t:Nat) (x:aF):q7 (iC l t x)<=q7 l+1:=by
  rcases ma hs t with ⟨a,p,q,rfl,hp,ha,hq,_⟩ | ⟨a,q,rfl,ha,hq,_⟩
  . rw [vg x hp ha hq]; simp only [o0,r5]; omega
  . rw [xe x ha hq]; simp only [o0,r5]; omega
theorem uQ (l:List aM) (hs:Up l) (t:Nat) (x:aF):kC (iC l t x)<=kC l+1/\Wt (iC l t x)<=Wt l:=by
  rcases ma hs t with ⟨a,p,q,rfl,hp,ha,hq,_⟩ | ⟨a,q,rfl,ha,hq,_⟩
  . rw [vg x hp ha hq]; unfold kC Wt oP; simp only [O2,s8,P4,P1,o0,r5,K1]; simp; omega
  . rw [xe x ha hq]; unfold kC Wt oP; simp only [O2,s8,P4,P1,o0,r5,K1]; constructor <;> simp <;> omega
theorem vz {l:List aM} (hs:Up l) {r:aM} (hr:r ∈ l) (hw:r.bn=true) (x:aF):q7 (iC l r.au x)=q7 l/\kC (iC l r.au x)=kC l/\Wt (iC l r.au x)+1=Wt l:=by
  rcases ma hs r.au with ⟨a,p,q,rfl,hp,ha,hq,_⟩ | ⟨a,q,rfl,ha,hq,_⟩
  . have e:p=r:=yJ hs i3 hr hp
    subst e
    rw [vg x rfl ha hq]
    refine⟨by simp, ?_, ?_⟩
    . unfold kC oP; simp only [O2,s8,P4,P1,o0,r5,K1,hw]; simp <;> omega
    . unfold Wt oP; simp only [O2,s8,P4,P1,hw]; simp <;> omega
  . rcases List.mem_append.1 hr with h | h
    . exact absurd (ha r h) (Nat.lt_irrefl _)
    . exact absurd (hq r h) (Nat.lt_irrefl _)
theorem xB {m:List aM} (hf:Fit m) {a:lS} (hn:kv (aW.mk (F2 m))=(a,true)) {c:eZ} {b:aW} {d:eZ} (hg:ja (aW.mk (F2 m)) a.aU a.nL c=(b,d)):
    Fit b.ai.ls/\Wt b.ai.ls+1<=Wt m/\d.aS.ls=c.aS.ls/\q7 d.dE.ls<=q7 c.dE.ls+1000000:=by
  obtain⟨r,hr,hw,ht,hx,_⟩:=xP hn
  rw [pM hf.up] at hg
  obtain⟨rfl,rfl⟩:_=b/\_=d:=⟨congrArg Prod.fst hg,congrArg Prod.snd hg⟩
  rw [<- ht, <- hx]
  obtain⟨e,g,h⟩:=vz hf.up hr hw r.bg
  have hp:Fit (iC m r.au r.bg):=⟨q8 hf.up _ _,by rw [e]; exact hf.len,by rw [g]; exact hf.tot⟩
  refine⟨hp.filter _, ?_,rfl, ?_⟩
  . have:=lV (f:=oP) (λ s=> !dies r.au r.bg s) (iC m r.au r.bg)
    show Wt (List.filter (λ s=> !dies r.au r.bg s) (iC m r.au r.bg))+1<=_
    unfold Wt at this h ⊢
    omega
  . show q7 (c.dE.ls++_)<=_
    rw [o0,List.length_map]
    have:=P3 (dies r.au r.bg) (iC m r.au r.bg)
    have:=hp.len
    omega
theorem zJ {α β γ δ ε:Type} {a x:α} {b y:β} {c z:γ} {d u:δ} {e v:ε} (h:(a,b,c,d,e)=(x,y,z,u,v)):a=x/\b=y/\c=z/\d=u/\e=v:=⟨(fB h).1,gH (fB h).2⟩
def Ne (l:List aM):Prop:=∀ r ∈ l,1<=List.length r.aG.ls+oP r
structure jy (l:List aM):Prop where
  up:Up l
  ne:Ne l
  tot:kC l<=192
theorem zt:∀ {l:List aM},Ne l->List.length l<=kC l
  | [],_=>Nat.le_refl _
  | a::l,h=>by
    have c:=h a b3
    have b:=zt (l:=l) λ r hr=>h r (.tail _ hr)
    unfold kC at b ⊢
    simp only [List.length_cons,List.map_cons,List.sum_cons]
    omega
theorem jy.len {l:List aM} (h:jy l):List.length l<=192:=Nat.le_trans (zt h.ne) h.tot
theorem jy.fit {l:List aM} (h:jy l):Fit l:=⟨h.up,by have:=h.len; omega,by have:=h.tot; omega⟩
theorem jy.hd {l:List aM} (h:jy l):Hd l:=h.fit.hd
def rq (l:List Nat):List Nat:=gK l
theorem Ff (l:List Nat):gK l=rq l:=rfl
theorem A7 (a:Int):∀ (q:Nat) (z:Int) (l:List Nat),Int.toNat (z - a) < q->List.length (eP a q z l)=List.length l
  | 0,z,l,h=>e8
  | q+1,z,l,h=>by
    unfold eP
    by_cases c:z > a
    . rw [if_pos c]
      simp only [bK]
      split
      . rw [A7 a q (z - 1) _ e8,List.length_set,List.length_set]
      . rfl
    . rw [if_neg c]
theorem A8 (b a:Int):∀ (q:Nat) (z:Int) (l:List Nat),Int.toNat (a - z) < q->List.length (eQ b a q z l)=List.length l
  | 0,z,l,h=>e8
  | q+1,z,l,h=>by
    unfold eQ
    by_cases c:z < a
    . rw [if_pos c]
      simp only [bK]
      rw [A8 b a q (z+1) _ e8,A7 b _ z l e8]
    . rw [if_neg c]
theorem GD {l:List Nat} {i:Nat} (h:i+1 < List.length l):(List.set (List.set l (i+1) (List.getD l i default)) i (List.getD l (i+1) default)).Perm l:=by
  have b:l[i]? =some (List.getD l i default):=by rw [List.getD_eq_getElem?_getD,List.getElem?_eq_getElem e8]; rfl
  have c:l[i+1]? =some (List.getD l (i+1) default):=by rw [List.getD_eq_getElem?_getD,List.getElem?_eq_getElem e8]; rfl
  generalize List.getD l i default=x at b ⊢
  generalize List.getD l (i+1) default=y at c ⊢
  have a:l=List.take i l++x::y::List.drop (i+1+1) l:=by
    conv=>lhs; rw [<- List.take_append_drop i l]
    rw [drop_at b,drop_at c]
  have d:List.length (List.take i l)=i:=by rw [List.length_take]; omega
  generalize List.take i l=A at a d
  generalize List.drop (i+1+1) l=B at a
  subst d
  rw [a]
  have e:List.set (A++x::y::B) (A.length+1) x=A++x::x::B:=by
    have:=stt (A++ [x]) B y x
    simp only [List.append_assoc,List.cons_append,List.nil_append,List.length_append,List.length_cons,List.length_nil] at this
    exact this
  rw [e,stt]
  exact List.Perm.append_left A (List.Perm.swap _ _ _)
theorem zK (a:Int) (b:0<=a):∀ (q:Nat) (z:Int) (l:List Nat),Int.toNat (z - a) < q->z < (List.length l:Int)->(eP a q z l).Perm l
  | 0,z,l,h,_=>e8
  | q+1,z,l,h,hz=>by
    unfold eP
    by_cases c:z > a
    . rw [if_pos c]
      simp only [bK]
      split
      . refine(zK a b q (z - 1) _ e8 (by rw [List.length_set,List.length_set]; omega)).trans ?_
        obtain⟨i,rfl⟩:∃ i:Nat,z=((i+1:Nat):Int):=⟨Int.toNat (z - 1),e8⟩
        have d:Int.toNat (((i+1:Nat):Int) - 1)=i:=e8
        rw [d,Int.toNat_natCast]
        exact GD e8
      . exact List.Perm.refl _
    . rw [if_neg c]
theorem zL (a b:Int) (d:0<=a):∀ (q:Nat) (z:Int) (l:List Nat),Int.toNat (b - z) < q->b<=(List.length l:Int)->(eQ a b q z l).Perm l
  | 0,z,l,h,_=>e8
  | q+1,z,l,h,hz=>by
    unfold eQ
    by_cases c:z < b
    . rw [if_pos c]
      simp only [bK]
      have hp:=zK a d (Int.toNat (z - a)+1) z l e8 e8
      exact(zL a b d q (z+1) _ e8 (by rw [hp.length_eq]; exact hz)).trans hp
    . rw [if_neg c]
theorem xQ (l:List Nat):(rq l).Perm l:=by
  unfold rq gK jC iJ
  simp only [bK]
  exact zL _ _ (Int.le_refl _) _ _ _ e8 (Int.le_refl _)
theorem xg {l:List Nat} {n:Nat}:n ∈ rq l↔n ∈ l:=(xQ l).mem_iff
theorem zu (l:List Nat):List.length (rq l)=List.length l:=by
  unfold rq gK jC iJ
  simp only [bK]
  exact A8 _ _ _ _ _ e8
theorem CR (p:aM->Bool):∀ l:List aM,List.length (l.filter p)+List.length (l.filter λ r=> !p r)=List.length l
  | []=>rfl
  | a::l=>by
    have ih:=CR p l
    cases h:p a with
    | true=>rw [List.filter_cons_of_pos h,List.filter_cons_of_neg (by rw [h]; decide)]; simp only [List.length_cons]; omega
    | false=>rw [List.filter_cons_of_neg (by rw [h]; decide),List.filter_cons_of_pos (by rw [h]; rfl)]; simp only [List.length_cons]; omega
theorem yK (l:List aM):Wt l<=List.length l:=by
  unfold Wt
  induction l with
  | nil=>exact Nat.le_refl _
  | cons a l ih=>
    simp only [List.map_cons,List.sum_cons,List.length_cons]
    have:oP a<=1:=by unfold oP; split <;> omega
    omega
theorem Fg {m:List aM} (hf:Fit m) {a:lS} (hn:kv (aW.mk (Ll.mk m))=(a,true)) {c:eZ} {b:aW} {d:eZ} (hg:ja (aW.mk (Ll.mk m)) a.aU a.nL c=(b,d)):
    Fit b.ai.ls/\Wt b.ai.ls+1<=Wt m/\d.aS.ls=c.aS.ls/\List.length d.dE.ls+List.length b.ai.ls<=List.length c.dE.ls+List.length m:=by
  obtain⟨e,f,g,_⟩:=xB hf hn hg
  refine⟨e,f,g, ?_⟩
  obtain⟨r,hr,hw,ht,hx,_⟩:=xP hn
  rw [pM hf.up] at hg
  obtain⟨rfl,rfl⟩:_=b/\_=d:=⟨congrArg Prod.fst hg,congrArg Prod.snd hg⟩
  rw [<- ht, <- hx]
  obtain⟨h,_,_⟩:=vz hf.up hr hw r.bg
  have i:=CR (dies r.au r.bg) (iC m r.au r.bg)
  show List.length (c.dE.ls++_)+List.length (List.filter (λ s=> !dies r.au r.bg s) (iC m r.au r.bg))<=_
  rw [List.length_append,List.length_map]
  omega
theorem GG {m:List aM} (h:jy m) {t:Nat} {a:aW} (hr:jr (aW.mk (Ll.mk m)) t=a):Fit a.ai.ls/\List.length a.ai.ls<=List.length m/\Wt a.ai.ls<=List.length a.ai.ls:=by
  rw [qH h.up] at hr
  subst hr
  exact⟨h.fit.filter _,List.length_filter_le _ m,yK _⟩
theorem Hq {m:List aM} (h:jy m) {t:Nat} {x:aF} {c:eZ} {a:aW} {b:eZ} (hg:ja (aW.mk (Ll.mk m)) t x c=(a,b)):
    Fit a.ai.ls/\List.length b.dE.ls+List.length a.ai.ls<=List.length c.dE.ls+List.length m+1/\Wt a.ai.ls<=List.length a.ai.ls/\b.aS.ls=c.aS.ls:=by
  rw [pM h.up] at hg
  obtain⟨rfl,rfl⟩:_=a/\_=b:=⟨congrArg Prod.fst hg,congrArg Prod.snd hg⟩
  have d:=vk m h.up t x
  obtain⟨e,f⟩:=uQ m h.up t x
  have g:=h.len
  have i:=h.tot
  have hp:Fit (iC m t x):=⟨q8 h.up _ _,e8,e8⟩
  have j:=CR (dies t x) (iC m t x)
  refine⟨hp.filter _, ?_,yK _,rfl⟩
  show List.length (c.dE.ls++_)+List.length (List.filter (λ r=> !dies t x r) (iC m t x))<=_
  rw [List.length_append,List.length_map]
  omega
open _root_.Go.Proofs.Tryz renaming isAgg35->E2
section
open Go.RowKit
def dz:Nat->List aM->List Nat->List Nat->(List aM) × (List Nat) × (List Nat)
  | 0,c,d,e=>default
  | f+1,c,d,e=>bnd (kv (aW.mk (F2 c))) λ a=>if a.2=true then bnd (ja (aW.mk (F2 c)) a.1.aU a.1.nL (eZ.mk (F2 d) (F2 e))) λ b=>dz f b.1.ai.ls (b.2.aS.ls++ [a.1.aU]) b.2.dE.ls else(c,d,e)
def kw (c:aW) (d:eZ):aW × eZ:=
 bnd (dz ((Wt c.ai.ls)+1) c.ai.ls d.aS.ls d.dE.ls) λ sLrL=>bnd (gK sLrL.2.1) λ a=>bnd (gK sLrL.2.2) λ b=>(aW.mk (F2 sLrL.1),eZ.mk (F2 a) (F2 b))
theorem qI (w D g0) (F:aW) (I J B x) (z:eZ) (K L M N) (r0:aW) (r1:eZ) (H:Own w D w [blk g0 [.slice I F.ai.ls.length J] 114,row I F.ai.ls.length J (q2 ay.cells B) 164 6,sepL (q2 Iy B),blk x [.slice K z.aS.ls.length L, .slice M z.dE.ls.length N] 157,row K z.aS.ls.length L (q2 (eN .u64) z.aS.ls) 32 1,row M z.dE.ls.length N (q2 (eN .u64) z.dE.ls) 32 1]) (O:List.map ay.abs B=F.ai.ls) (eH:Fit F.ai.ls) (eO:F.ai.ls.length+z.dE.ls.length<=12) (eP:Wt F.ai.ls+z.aS.ls.length<=12) (hr:kw F z=(r0,r1)):
    Calls Tryz.prog 73 #[vP g0 0,vP x 0] w (dI λ v w'=> ∃ P Q A R S T U,v= .tuple #[]/\Own w D w' [blk g0 [.slice P r0.ai.ls.length Q] 114,row P r0.ai.ls.length Q (q2 ay.cells A) 164 6,sepL (q2 Iy A),blk x [.slice R r1.aS.ls.length S, .slice T r1.dE.ls.length U] 157,row R r1.aS.ls.length S (q2 (eN .u64) r1.aS.ls) 32 1,row T r1.dE.ls.length U (q2 (eN .u64) r1.dE.ls) 32 1]/\(List.map ay.abs A=r0.ai.ls)/\(r1.aS.ls.length<=12/\r1.dE.ls.length<=12)):=by
 unfold kw at hr
 have bS:=aY O
 have bT:=H.rowC (i:=1) rfl
 have bU:=H.rowC (i:=4) rfl
 have bV:=H.rowC (i:=5) rfl
 refine cb Tryz.func73 ?_
 refine H7 (bo ?_)
 have bX:=H.pf [0,3]
 obtain⟨bY,V⟩:=G8 λ u (g:Nat) h a j (l:Nat) c n (p:Nat) b (W:Nat) w'=>Own w D w' [blk g0 [.slice u a.length g] 114,blk x [.slice j c.length l, .slice n b.length p] 157,row u a.length g (q2 ay.cells h) 164 6,sepL (q2 Iy h),row j c.length l (q2 (eN .u64) c) 32 1,row n b.length p (q2 (eN .u64) b) 32 1]/\List.map ay.abs h=a/\Fit a/\Hd a/\a.length+b.length<=12/\c.length+Wt a<=12/\Wt a < W/\dz ((Wt F.ai.ls)+1) F.ai.ls z.aS.ls z.dE.ls=dz W a c b
 refine Wp.loop (λ i:(Option Addr) × Nat × (List ay) × (List aM) × (Option Addr) × Nat × (List Nat) × (Option Addr) × Nat × (List Nat) × Nat=> [(0,vP g0 0),(1,vP x 0)]) bY (λ i=>i.2.2.2.2.2.2.2.2.2.2) (I,J,B,F.ai.ls,K,L,z.aS.ls,M,N,z.dE.ls,(Wt F.ai.ls)+1) ⟨rfl,rfl,trivial⟩ (V.2 ⟨bX,by exact O,f6,by exact Fit.hd f6,e8,e8,e8,rfl⟩) ?_
 rintro ⟨u,g,h,a,j,l,c,n,p,b,W⟩ eQ bn
 show Wp _ _ _ [(0,vP g0 0),(1,vP x 0)] _ _
 obtain⟨aR,C,dG,dH,dJ,dL,dM,aC⟩:=V.1 bn
 have dN:=aY C
 obtain⟨aS,bq⟩:∃ q,W=q+1:=⟨W - 1,e8⟩
 subst bq
 refine bo (sr (Mz rfl ?_))
 have dO:=aR.rowC (i:=2) rfl
 obtain⟨⟨d,az⟩,E⟩:∃ q:lS × Bool,kv (aW.mk (F2 a))=q:=⟨_,rfl⟩
 obtain⟨eT,bu,dP,bv,aD⟩:=IE aR
 refine cl Tryz.call121 (vW _ _ g0 (aW.mk (F2 a)) u g h d az bu C (aD _ 1 _ rfl bP) e8 (λ x9 h9=>⟨aD _ 2 _ rfl (bL (O3.2 ⟨x9,h9,b3⟩) bP),dC (φ:=λ _=>_) aR (i:=3) rfl (bL (O3.2 ⟨x9,h9,b3⟩) dK)⟩) f9 E) ?_
 rintro _ eU ⟨rfl,bz⟩
 have bZ:=bv _ _ bz
 refine Mz rfl (Kz (.agg (lS.cells d).toArray) (Kz (.bool az) ?_))
 refine bW [.int .u64 0, .string ⟨List.toArray []⟩, .string ⟨List.toArray []⟩, .bool false] 194 bZ ?_
 intro aT eX cz
 refine cu (lS.cells d) 0 cz Tryz.sizeOf194 ?_
 intro fe aA
 refine An rfl (H7 (sr (Mz rfl (Kz (.bool (!az)) (nt ?_)))))
 rcases Lr (az) with G | G
 refine jF (cn G) (sk (sr (Mz rfl (Kz (vP aT 0) (Lz (vU d.aU) aA 0 Tryz.isAgg32 (Kz (vP aT 1) (La (aF.cells d.nL) aA 0 Tryz.isAgg118 Tryz.sizeOf118 (Mz rfl ?_))))))))
 have cB:=aA.pb [2,5,6,0]
 obtain⟨⟨X,r⟩,Y⟩:∃ q:aW × eZ,ja (aW.mk (F2 a)) d.aU d.nL (eZ.mk (F2 c) (F2 b))=q:=⟨_,rfl⟩
 obtain⟨fo,bA,dS,bB,dU⟩:=Je cB
 refine cl Tryz.call72 (qZ _ _ g0 (aW.mk (F2 a)) u g h d.aU d.nL x (eZ.mk (F2 c) (F2 b)) j l n p X r bA C f9 f6 j1 Y) ?_
 rintro _ fq ⟨cK,cO,df,fu,fw,dh,di,rfl,bC,aG⟩
 have aB:=bB _ _ bC
 have dV:=aY aG
 have dW:=aB.rowC (i:=1) rfl
 have dX:=aB.rowC (i:=4) rfl
 have dY:=aB.rowC (i:=5) rfl
 obtain⟨bD,aH,Z,aI⟩:=Fg (m:=a) f6 (E.trans (congrArg (λ q=>(_,q)) G)) Y
 replace aH:Wt X.ai.ls+1<=Wt a:=aH
 replace Z:r.aS.ls=c:=Z
 replace aI:r.dE.ls.length+X.ai.ls.length<=b.length+a.length:=aI
 have dZ:r.aS.ls.length=c.length:=by rw [Z]
 have d9:X.ai.ls.length<=999999:=bD.len
 refine nt ?_
 refine mJ 7 [8,11] (bH.block (Ik (bH.block (Ik Iw)))) aB ?_
 intro fA dm
 refine IP (v:=vP x 0) 0 rfl e9 (λ _=>Ie rfl) (qv 1 rfl rfl (qp x 0 2 rfl (qp x 0 3 rfl (ql 4 rfl 3 E2 rfl rfl rfl (qp aT 0 5 rfl (ql 6 rfl 6 Tryz.isAgg32 rfl rfl rfl ?_))))))
 refine qd 7 rfl (IZ (cs:= [vU d.aU]) (t:=32) (sz:=1) (m:=1) dm rfl rfl (λ _=>by kernel_rfl) rfl f5 ?_)
 intro dn ed aa
 replace aa:=IL (y:=row dn 1 1 (q2 (eN .u64) ([d.aU])) 32 1) rfl aa
 have aJ:=aa.pb [0]
 refine⟨.inr ⟨_,aJ⟩, ?_⟩
 have aK:=aJ.pf [4]
 refine qd 8 rfl (IC (k:=r.aS.ls.length) (m:=1) (iH) aK rfl rfl (eY Tryz.underlying35 (aK.rds (i:=7) rfl) (cZ mi ([d.aU]))) rfl e8 (s:=q7 (r.aS.ls++ [d.aU])) f3 (List.flatMap_append).symm ?_)
 intro aL aN ek bE
 have dw:q7 (r.aS.ls++ [d.aU])=r.aS.ls.length+1:=by simp only [o0,r5,K1]
 refine⟨.inl e9, ?_⟩
 refine IP (v:=vP x 0) 9 rfl e9 (λ _=>yk) (IP (v:=vP x 0) 10 rfl e9 (λ _=>yk) ?_)
 have bF:=bE.pf [4]
 refine qe 11 rfl (Do.store (vs:= [.slice aL (q7 (r.aS.ls++ [d.aU])) aN]) (o:=0) bF rfl rfl Tryz.sizeOf35 rfl rfl rfl rfl ?_)
 intro eu bG
 refine⟨.inl e9, ?_⟩
 refine qn (bN ?_)
 have bI:=bG.px [2] [6,7] [1,5]
 exact Iq (cK,cO,df,X.ai.ls,aL,aN,(r.aS.ls++ [d.aU]),dh,di,r.dE.ls,aS) ⟨rfl,rfl,trivial⟩ (V.2 ⟨bI,by exact aG,f6,by exact Fit.hd f6,e8,e8,e8,et (aC) (et (ae E) (et (ip G) (ae Y)))⟩) (by show aS < aS+1; omega)
 refine jT (cn G) (Wp.exit (Ip (Ki rfl ?_)))
 have aU:dz ((Wt F.ai.ls)+1) F.ai.ls z.aS.ls z.dE.ls=(a,c,b):=et (aC) (et (ae E) (eF G))
 refine Ip (Iz (Ib (H7 ?_)))
 have aO:=aA.px [] [0] []
 refine H8 (Mz rfl (Kz (vP x 0) (Kz (vP x 0) (Lz (.slice j c.length l) aO 1 E2 ?_))))
 have bJ:=aO.pf [4]
 obtain⟨e,af⟩:∃ q,gK c=q:=⟨_,rfl⟩
 obtain⟨eB,aV,dx,aX,dA⟩:=IE bJ
 refine cl Tryz.call122 (nT _ _ j c.length l c e aV rfl e8 e8 af) ?_
 rintro _ eD ⟨rfl,aZ,ag⟩
 have ah:=aX _ _ aZ
 have dB:=ah.rowC (i:=0) rfl
 replace ag:e.length=c.length:=ag
 refine nt (H8 (Mz rfl (Kz (vP x 0) (Kz (vP x 1) (Lz (.slice n b.length p) ah 2 E2 ?_)))))
 have bK:=ah.pf [5]
 obtain⟨f,ai⟩:∃ q,gK b=q:=⟨_,rfl⟩
 obtain⟨eG,bf,dD,bg,dE⟩:=IE bK
 refine cl Tryz.call122 (nT _ _ n b.length p b f bf rfl e8 e8 ai) ?_
 rintro _ aP ⟨rfl,bi,aj⟩
 have aQ:=bg _ _ bi
 have dF:=aQ.rowC (i:=0) rfl
 replace aj:f.length=b.length:=aj
 refine WL.nil (IV (res0 rfl) ?_)
 have ak:c.length=e.length:=by first | omega | (simp only [L7]; done) | (simp only [L7,o0,r5,K1,m8,m9,N2]; omega)
 have bM:Own w D aP [row n b.length p (q2 (eN .u64) f) 32 1,row j e.length l (q2 (eN .u64) e) 32 1,blk g0 [.slice u a.length g] 114,blk x [.slice j e.length l, .slice n b.length p] 157,row u a.length g (q2 ay.cells h) 164 6,sepL (q2 Iy h)]:=by rw [<- ak]; exact aQ
 have au:b.length=f.length:=by first | omega | (simp only [L7]; done) | (simp only [L7,o0,r5,K1,m8,m9,N2]; omega)
 have bO:Own w D aP [row n f.length p (q2 (eN .u64) f) 32 1,row j e.length l (q2 (eN .u64) e) 32 1,blk g0 [.slice u a.length g] 114,blk x [.slice j e.length l, .slice n f.length p] 157,row u a.length g (q2 ay.cells h) 164 6,sepL (q2 Iy h)]:=by rw [<- au]; exact bM
 have bQ:=bO.pb [3,1,0]
 obtain⟨rfl,rfl⟩:=fB (zj hr zq3)
 exact⟨u,g,h,j,l,n,p,(by(first | rw [<- ak] | skip); (first | rw [<- au] | skip); first | done | rfl),bQ,C,f9⟩
end
section
open Go.RowKit
def iD (c:aW) (d:Nat):(List Nat) × (List Nat) × aW:=
 bnd (jr c d) λ b=>bnd (kw b (eZ.mk (F2 []) (F2 []))) λ a=>(a.2.aS.ls,a.2.dE.ls,a.1)
theorem uB (w D z) (d:aW) (e f c N A B) (O:aW) (H:Own w D w [blk z [.slice e d.ai.ls.length f] 114,row e d.ai.ls.length f (q2 ay.cells c) 164 6,sepL (q2 Iy c)]) (g:s1 ay.abs c=d.ai.ls) (aM:d.ai.ls.length<=12) (aN:Hd d.ai.ls) (aO:jy d.ai.ls) (hr:iD d N=(A,B,O)):
    Calls Tryz.prog 144 #[vP z 0,vU N] w (dI λ v w'=> ∃ B0 b0 B1 b1 h j a,v= .tuple #[.slice B0 A.length b0, .slice B1 B.length b1]/\Own w D w' [row B0 A.length b0 (q2 (eN .u64) A) 32 1,row B1 B.length b1 (q2 (eN .u64) B) 32 1,blk z [.slice h O.ai.ls.length j] 114,row h O.ai.ls.length j (q2 ay.cells a) 164 6,sepL (q2 Iy a)]/\(s1 ay.abs a=O.ai.ls)/\(A.length<=12/\B.length<=12)):=by
 have P:=aY g
 have Q:=H.rowC (i:=1) rfl
 refine cb Tryz.func144 ?_
 refine sr (Az rfl (Ar rfl (Mz rfl (Mz rfl ?_))))
 obtain⟨b,k⟩:∃ q,jr d N=q:=⟨_,rfl⟩
 obtain⟨aP,C,aA,E,aB⟩:=Jb H
 refine cl Tryz.call120 (oL _ _ z d e f c N b C g f9 k) ?_
 rintro _ aQ ⟨R,S,T,rfl,F,o,p⟩
 have G:=E _ _ F
 have aC:=aY o
 have aD:=G.rowC (i:=1) rfl
 replace p:b.ai.ls.length<=d.ai.ls.length:=p
 obtain⟨aF,r,s⟩:=GG (m:=d.ai.ls) f6 k
 replace r:b.ai.ls.length<=d.ai.ls.length:=r
 replace s:Wt b.ai.ls<=b.ai.ls.length:=s
 refine ns ?_
 refine bW [.slice none 0 0, .slice none 0 0] 157 G ?_
 intro y I U
 refine ns (Mz rfl ?_)
 have V:Own w D I (row none 0 0 (q2 (eN .u64) []) 32 1::_):=U.free (bZ 32 1)
 have W:Own w D I (row none 0 0 (q2 (eN .u64) []) 32 1::_):=V.free (bZ 32 1)
 have X:=W.pb [2,1,0]
 obtain⟨⟨J,l⟩,t⟩:∃ q:aW × eZ,kw b (eZ.mk (F2 []) (F2 []))=q:=⟨_,rfl⟩
 obtain⟨aR,K,aG,L,aH⟩:=Je X
 refine cl Tryz.call73 (qI _ _ z b R S T y (eZ.mk (F2 []) (F2 [])) none 0 none 0 J l K o f6 f8 f8 t) ?_
 rintro _ aS ⟨Y,Z,aa,af,ag,ah,ai,rfl,M,u,x⟩
 have n:=L _ _ M
 have aI:=aY u
 have aJ:=n.rowC (i:=1) rfl
 have aK:=n.rowC (i:=4) rfl
 have aL:=n.rowC (i:=5) rfl
 replace x:l.aS.ls.length<=12/\l.dE.ls.length<=12:=x
 refine nt (H7 ?_)
 refine GQ [] (Ik Iw) n ?_
 intro aT aj
 refine qp y 0 0 rfl (ql 1 rfl 3 E2 rfl rfl rfl (qp y 1 2 rfl (ql 3 rfl 3 E2 rfl rfl rfl (qa 4 rfl rfl (qa 5 rfl rfl (qn (Ib (rt (Ir (kD rfl rfl rfl) ?_)))))))))
 have ak:=aj.px [4,5] [3] []
 obtain⟨rfl,rfl,rfl⟩:=ym (zj hr (show _=(l.aS.ls,l.dE.ls,J) from et (ae k) (ae t)))
 exact⟨af,ag,ah,ai,Y,Z,aa,rfl,ak,u,f8⟩
def iT (d:aW) (i:Nat) (l:aF):Int × (List Nat) × (List Nat) × Int × aW:=
 bnd (dU l.aA) λ m=>if m=0 then bnd (fI d i) λ n=>if n=true then(0,([]:List Nat),([]:List Nat),4,d) else bnd (jW d i l) λ o=>if o=true then(1,([]:List Nat),([]:List Nat),0,d) else bnd (mD d) λ p=>if p >= 192 then(3,([]:List Nat),([]:List Nat),0,d) else bnd (dX d i l) λ j=>if(j.length:Int)=0 then bnd (ja d i l (eZ.mk (F2 []) (F2 []))) λ h=>bnd (kw h.1 h.2) λ e=>(1,e.2.aS.ls,e.2.dE.ls,0,e.1) else bnd (y2 j 0 default) λ k=>if(k:Int) < (i:Int) then(3,([]:List Nat),([]:List Nat),0,d) else bnd (eT d i) λ a=>if a.2=true then bnd (y2 d.ai.ls (G0 a.1) default) λ b=>bnd (y2 (L6 d.ai.ls (G0 a.1) (aM.mk b.au (F2 b.aG.ls) true b.bg)) (G0 a.1) default) λ f=>(2,([]:List Nat),([]:List Nat),0,aW.mk (F2 (L6 (L6 d.ai.ls (G0 a.1) (aM.mk b.au (F2 b.aG.ls) true b.bg)) (G0 a.1) (aM.mk f.au (F2 f.aG.ls) f.bn l)))) else bnd (y2 (t6 (G0 a.1) d.ai.ls++((aM.mk i (F2 []) false ZB)::s0 (G0 a.1) d.ai.ls)) (G0 a.1) default) λ c=>bnd (y2 (L6 (t6 (G0 a.1) d.ai.ls++((aM.mk i (F2 []) false ZB)::s0 (G0 a.1) d.ai.ls)) (G0 a.1) (aM.mk c.au (F2 c.aG.ls) true c.bg)) (G0 a.1) default) λ g=>(2,([]:List Nat),([]:List Nat),0,aW.mk (F2 (L6 (L6 (t6 (G0 a.1) d.ai.ls++((aM.mk i (F2 []) false ZB)::s0 (G0 a.1) d.ai.ls)) (G0 a.1) (aM.mk c.au (F2 c.aG.ls) true c.bg)) (G0 a.1) (aM.mk g.au (F2 g.aG.ls) g.bn l)))) else(0,([]:List Nat),([]:List Nat),21,d)
theorem wR (w D E) (n:aW) (l r g u) (x:aF) (r0 r1 r2 r3) (r4:aW) (H:Own w D w [blk E [.slice l n.ai.ls.length r] 114,row l n.ai.ls.length r (q2 ay.cells g) 164 6,sepL (q2 Iy g)]) (p:s1 ay.abs g=n.ai.ls) (kF:n.ai.ls.length<=11) (bv:Hd n.ai.ls) (kG:jy n.ai.ls) (hr:iT n u x=(r0,r1,r2,r3,r4)):
    Calls Tryz.prog 38 #[vP E 0,vU u, .agg (aF.cells x).toArray] w (dI λ v w'=> ∃ B1 b1 B2 b2 aI aJ af,v= .tuple #[vI r0, .slice B1 r1.length b1, .slice B2 r2.length b2,vI r3]/\Own w D w' [row B1 r1.length b1 (q2 (eN .u64) r1) 32 1,row B2 r2.length b2 (q2 (eN .u64) r2) 32 1,blk E [.slice aI r4.ai.ls.length aJ] 114,row aI r4.ai.ls.length aJ (q2 ay.cells af) 164 6,sepL (q2 Iy af)]/\(s1 ay.abs af=r4.ai.ls)/\(r1.length<=12/\r2.length<=12)):=by
 have ig:=aY p
 have ik:=H.rowC (i:=1) rfl
 refine cb Tryz.func38 ?_
 refine sr ?_
 refine bW (aF.cells x) 118 H ?_
 intro aK kH di
 refine Az rfl (Az rfl (Az rfl (An rfl (H7 (sr (Kz (vP aK 0) (La (aj.cells x.aA) di 0 Tryz.isAgg37 Tryz.sizeOf37 ?_)))))))
 obtain⟨bz,A⟩:∃ q,dU x.aA=q:=⟨_,rfl⟩
 obtain⟨kI,dm,jO,dn,jP⟩:=Ia di
 refine cl Tryz.call65 (jd _ _ x.aA bz dm A) ?_
 rintro _ dw ⟨rfl,dx⟩
 have dz:=dn _ _ dx
 refine fw (.bool (decide (¬ (bz=0)))) (Iu (e:= !(decide (bz=0))) yk decide_not.symm) (nt ?_)
 by_cases O:bz=0
 refine jF (dF (Lp O)) (sk (H7 (sr (Mz rfl (Mz rfl ?_)))))
 have bK:=dz.pf [1]
 have jQ:=bK.rowC (i:=2) rfl
 obtain⟨dA,C⟩:∃ q,fI n u=q:=⟨_,rfl⟩
 obtain⟨kJ,dB,jR,dD,bC⟩:=IE bK
 refine cl Tryz.call68 (uA _ _ E n l r g u dA dB p (bC _ 1 _ rfl bP) e8 (λ x9 h9=>⟨bC _ 2 _ rfl (bL (O3.2 ⟨x9,h9,b3⟩) bP),dC (φ:=λ _=>_) bK (i:=3) rfl (bL (O3.2 ⟨x9,h9,b3⟩) dK)⟩) f9 C) ?_
 rintro _ dE ⟨rfl,dH⟩
 have aL:=dD _ _ dH
 refine nt ?_
 rcases Lr (dA) with P | P
 refine jT P (sr (Az rfl (Az rfl (Az rfl (An rfl (rt (tR (Ir (wh rfl rfl rfl rfl rfl) ?_))))))))
 have il:Own w D dE (row none 0 0 (q2 (eN .u64) []) 32 1::_):=aL.free (bZ 32 1)
 have iq:Own w D dE (row none 0 0 (q2 (eN .u64) []) 32 1::_):=il.free (bZ 32 1)
 have iw:=iq.px [1] [3] []
 obtain⟨rfl,rfl,rfl,rfl,rfl⟩:=zJ (zj hr (show _=(0,([]:List Nat),([]:List Nat),4,n) from et (ae A) (et (ip O) (et (ae C) (ip P))))).symm
 exact⟨none,0,none,0,l,r,g,rfl,iw,p,f8⟩
 refine jF P (sk (H7 (sr (Mz rfl (Mz rfl (La (aF.cells x) aL 1 N6 N7 ?_))))))
 have jS:=aL.rowC (i:=2) rfl
 obtain⟨dJ,F⟩:∃ q,jW n u x=q:=⟨_,rfl⟩
 obtain⟨kK,dL,jU,dM,bD⟩:=IE aL
 refine cl Tryz.call69 (wP _ _ E n l r g u x dJ dL p (bD _ 1 _ rfl bP) e8 (λ x9 h9=>⟨bD _ 2 _ rfl (bL (O3.2 ⟨x9,h9,b3⟩) bP),dC (φ:=λ _=>_) aL (i:=3) rfl (bL (O3.2 ⟨x9,h9,b3⟩) dK)⟩) f9 F) ?_
 rintro _ dN ⟨rfl,dO⟩
 have bA:=dM _ _ dO
 refine nt ?_
 rcases Lr (dJ) with T | T
 refine jT T (sr (Az rfl (Az rfl (Az rfl (An rfl (rt (tR (Ir (wh rfl rfl rfl rfl rfl) ?_))))))))
 have iy:Own w D dN (row none 0 0 (q2 (eN .u64) []) 32 1::_):=bA.free (bZ 32 1)
 have iA:Own w D dN (row none 0 0 (q2 (eN .u64) []) 32 1::_):=iy.free (bZ 32 1)
 have iB:=iA.px [1] [3] []
 obtain⟨rfl,rfl,rfl,rfl,rfl⟩:=zJ (zj hr (show _=(1,([]:List Nat),([]:List Nat),0,n) from et (ae A) (et (ip O) (et (ae C) (et (eF P) (et (ae F) (ip T))))))).symm
 exact⟨none,0,none,0,l,r,g,rfl,iB,p,f8⟩
 refine jF T (sk (H7 (sr (Mz rfl ?_))))
 have jV:=bA.rowC (i:=2) rfl
 obtain⟨bM,Q⟩:∃ q,mD n=q:=⟨_,rfl⟩
 obtain⟨kL,dP,jX,dQ,bE⟩:=IE bA
 refine cl Tryz.call70 (ve _ _ E n l r g bM dP p (bE _ 1 _ rfl bP) e8 (λ x9 h9=>⟨bE _ 2 _ rfl (bL (O3.2 ⟨x9,h9,b3⟩) bP),dC (φ:=λ _=>_) bA (i:=3) rfl (bL (O3.2 ⟨x9,h9,b3⟩) dK)⟩) f9 Q) ?_
 rintro _ dR ⟨rfl,dS⟩
 have aN:=dQ _ _ dS
 refine Kz (.bool (decide (bM >= 192))) (nt ?_)
 by_cases ag:bM >= 192
 refine jT (dT ag) (sr (Az rfl (Az rfl (Az rfl (An rfl (rt (tR (Ir (wh rfl rfl rfl rfl rfl) ?_))))))))
 have iC:Own w D dR (row none 0 0 (q2 (eN .u64) []) 32 1::_):=aN.free (bZ 32 1)
 have iD:Own w D dR (row none 0 0 (q2 (eN .u64) []) 32 1::_):=iC.free (bZ 32 1)
 have iE:=iD.px [1] [3] []
 obtain⟨rfl,rfl,rfl,rfl,rfl⟩:=zJ (zj hr (show _=(3,([]:List Nat),([]:List Nat),0,n) from et (ae A) (et (ip O) (et (ae C) (et (eF P) (et (ae F) (et (eF T) (et (ae Q) (ip ag))))))))).symm
 exact⟨none,0,none,0,l,r,g,rfl,iE,p,f8⟩
 refine jF (dF ag) (sk (sr (Mz rfl (Mz rfl (La (aF.cells x) aN 1 N6 N7 ?_)))))
 have jY:=aN.rowC (i:=2) rfl
 obtain⟨aO,X⟩:∃ q,dX n u x=q:=⟨_,rfl⟩
 obtain⟨kM,dV,jZ,dW,bF⟩:=IE aN
 refine cl Tryz.call71 (qj _ _ E n l r g u x aO dV p (bF _ 1 _ rfl bP) e8 (λ x9 h9=>⟨bF _ 2 _ rfl (bL (O3.2 ⟨x9,h9,b3⟩) bP),dC (φ:=λ _=>_) aN (i:=3) rfl (bL (O3.2 ⟨x9,h9,b3⟩) dK)⟩) f9 X) ?_
 rintro _ dY ⟨dZ,kN,rfl,d9⟩
 have ah:=dW _ _ d9
 have j3:=ah.rowC (i:=0) rfl
 refine An rfl (H7 (sr (Mz rfl (Kz (vJ aO.length) (Kz (.bool (decide ((aO.length:Int)=0))) (nt ?_))))))
 by_cases aH:(aO.length:Int)=0
 refine jT (dT aH) (sr ?_)
 refine bW [.slice none 0 0, .slice none 0 0] 157 ah ?_
 intro bB ed ek
 refine ns (Mz rfl (Mz rfl (La (aF.cells x) ek 3 N6 N7 ?_)))
 have iF:Own w D ed (row none 0 0 (q2 (eN .u64) []) 32 1::_):=ek.free (bZ 32 1)
 have eu:Own w D ed (row none 0 0 (q2 (eN .u64) []) 32 1::_):=iF.free (bZ 32 1)
 have eB:=eu.pb [2,1,0,3,5]
 obtain⟨⟨R,S⟩,ai⟩:∃ q:aW × eZ,ja n u x (eZ.mk (F2 []) (F2 []))=q:=⟨_,rfl⟩
 obtain⟨j4,bN,iG,bO,iI⟩:=Je eB
 refine cl Tryz.call72 (qZ _ _ E n l r g u x bB (eZ.mk (F2 []) (F2 [])) none 0 none 0 R S bN p f9 f6 j1 ai) ?_
 rintro _ j5 ⟨eD,eG,eO,eP,eQ,eU,eX,rfl,bR,aP⟩
 have az:=bO _ _ bR
 have iJ:=aY aP
 have iK:=az.rowC (i:=1) rfl
 have iL:=az.rowC (i:=4) rfl
 have iM:=az.rowC (i:=5) rfl
 obtain⟨iO,aQ,aR,ak⟩:=Hq (m:=n.ai.ls) f6 ai
 replace aQ:S.dE.ls.length+R.ai.ls.length<=0+n.ai.ls.length+1:=aQ
 replace aR:Wt R.ai.ls<=R.ai.ls.length:=aR
 replace ak:S.aS.ls=[]:=ak
 have iP:S.aS.ls.length=0:=by rw [ak]; rfl
 refine ns (Mz rfl ?_)
 obtain⟨⟨bG,Y⟩,aS⟩:∃ q:aW × eZ,kw R S=q:=⟨_,rfl⟩
 obtain⟨kg,bS,iQ,bT,iR⟩:=Je az
 refine cl Tryz.call73 (qI _ _ E R eD eG eO bB S eP eQ eU eX bG Y bS aP f6 f8 f8 aS) ?_
 rintro _ ko ⟨eY,fe,fo,fq,fu,fA,fB,rfl,bU,aT,aU⟩
 have aA:=bT _ _ bU
 have iU:=aY aT
 have iV:=aA.rowC (i:=1) rfl
 have iW:=aA.rowC (i:=4) rfl
 have iX:=aA.rowC (i:=5) rfl
 replace aU:Y.aS.ls.length<=12/\Y.dE.ls.length<=12:=aU
 refine nt (H7 ?_)
 refine mJ 8 [] (Ik (Ik Iw)) aA ?_
 intro kr fC
 refine qp bB 0 0 rfl (ql 1 rfl 3 E2 rfl rfl rfl (qp bB 1 2 rfl (ql 3 rfl 3 E2 rfl rfl rfl (qa 4 rfl rfl (qa 5 rfl rfl (qa 6 rfl rfl (qa 7 rfl rfl (qn (Ib (rt (tR (Ir (wh rfl rfl rfl rfl rfl) ?_))))))))))))
 have fD:=fC.pk [4,5,0,1,2]
 obtain⟨rfl,rfl,rfl,rfl,rfl⟩:=zJ (zj hr (show _=(1,Y.aS.ls,Y.dE.ls,0,bG) from et (ae A) (et (ip O) (et (ae C) (et (eF P) (et (ae F) (et (eF T) (et (ae Q) (et (iN ag) (et (ae X) (et (ip aH) (et (ae ai) (ae aS)))))))))))))
 exact⟨fq,fu,fA,fB,eY,fe,fo,rfl,fD,aT,f8⟩
 refine jF (dF aH) (sk (H7 (sr (Mz rfl ?_))))
 obtain⟨aV,U⟩:=dG (ls:=aO) (i:=0) gT f5 (ah.rds (i:=0) rfl) f2
 refine fw (.pointer (some ⟨ab dZ,ao dZ+0 *1,none⟩)) (Im (iH) rfl rfl ((ah.rds (i:=0) rfl).addr (i:=0) e8) e8) (fw (vU aV) (Il rfl (bQ.one Tryz.isAgg32 (((ah.rds (i:=0) rfl).elem gT U f5).at_ (k:=0) rfl))) (Mz rfl (Kz (.bool (decide ((aV:Int) < (u:Int)))) (nt ?_))))
 by_cases Z:(aV:Int) < (u:Int)
 refine jT (dT Z) (H7 ?_)
 have fE:=ah.px [] [0] []
 refine H8 (Az rfl (Az rfl (Az rfl (An rfl (rt (tR (Ir (wh rfl rfl rfl rfl rfl) ?_)))))))
 have fF:Own w D dY (row none 0 0 (q2 (eN .u64) []) 32 1::_):=fE.free (bZ 32 1)
 have fG:Own w D dY (row none 0 0 (q2 (eN .u64) []) 32 1::_):=fF.free (bZ 32 1)
 have fH:=fG.px [1] [3] []
 obtain⟨rfl,rfl,rfl,rfl,rfl⟩:=zJ (zj hr (show _=(3,([]:List Nat),([]:List Nat),0,n) from et (ae A) (et (ip O) (et (ae C) (et (eF P) (et (ae F) (et (eF T) (et (ae Q) (et (iN ag) (et (ae X) (et (iN aH) (et (ae (bu U)) (ip Z))))))))))))).symm
 exact⟨none,0,none,0,l,r,g,rfl,fH,p,f8⟩
 refine jF (dF Z) (sk (H7 ?_))
 have aX:=ah.px [] [0] []
 refine H8 (Mz rfl (Mz rfl ?_))
 refine WL.do rfl (IB Tryz.call74 rfl ?_ (λ _ _ k=>k))
 refine cb Tryz.func74 ?_
 refine sr (Ar rfl (Mz rfl (Mz rfl ?_)))
 have iY:=aX.rowC (i:=2) rfl
 obtain⟨⟨a,G⟩,au⟩:∃ q:Int × Bool,eT n u=q:=⟨_,rfl⟩
 obtain⟨ku,bV,iZ,bX,aZ⟩:=IE aX
 refine cl Tryz.call114 (lL _ _ E n l r g u a G bV p (aZ _ 1 _ rfl bP) e8 (λ x9 h9=>⟨aZ _ 2 _ rfl (bL (O3.2 ⟨x9,h9,b3⟩) bP),dC (φ:=λ _=>_) aX (i:=3) rfl (bL (O3.2 ⟨x9,h9,b3⟩) dK)⟩) f9 au) ?_
 rintro _ kv ⟨rfl,bY,bf,bg⟩
 have I:=bX _ _ bY
 replace bf:0<=a/\a<=(n.ai.ls.length:Int):=bf
 replace bg:Bool.toNat G=0\/a < (n.ai.ls.length:Int):=bg
 refine Mz rfl (Kz (vI a) (Kz (.bool G) (Az rfl (An rfl (H7 (sr (Mz rfl (Kz (.bool (!G)) (nt ?_)))))))))
 rcases Lr (G) with J | J
 have h179t:Bool.toNat G=1:=by rw [J]; rfl
 refine jF (cn J) (sk (sr (Mz rfl (Kz (vP E 0) (Kz (vP E 0) (Lz (.slice l n.ai.ls.length r) I 0 N5 (fw (vJ (G0 a)) (Ig (e:=a) (Ie rfl) e8) ?_)))))))
 obtain⟨b,K⟩:=dG (ls:=g) (i:=G0 a) ay.len f5 (I.rds (i:=2) rfl) f2
 have bi:=fO p K
 have jb:b.aG.ls.length<=b.aG.c/\b.aG.ls.length<=9223372036854775807:=dC I (i:=3) rfl (φ:=λ _=>_) (bL (O3.2 ⟨b,D4 K,b3⟩) dK)
 have jc:b.aG.ls.length<=1000000:=by have q9:Hd n.ai.ls:=(by first | exact bv | exact yH bv (Lm _)); exact q9 _ (D4 bi)
 refine fw (.pointer (some ⟨ab l,ao l+(G0 a) *6,none⟩)) (Im (jk) rfl rfl ((I.rds (i:=2) rfl).addr (i:=G0 a) e8) e8) (An rfl (rt (rs (An rfl (H7 ?_)))))
 refine oO [] (Ik Iw) I ?_
 intro ky fJ
 refine qv 0 rfl rfl (qv 1 rfl rfl (qt (v:= .agg (aF.cells x).toArray) 2 rfl (λ _ ⟨_,H9⟩=>Il rfl (Io (cs:=(aF.cells x)) N6 N7 ((H9.cls (i:=1) rfl).lit (k:=0) (m:=3) rfl))) (qk (.pointer (some ⟨ab l,ao l+(G0 a) *6,none⟩)) 3 rfl (qk (.pointer (some ⟨ab l,ao l+(G0 a) *6+2,none⟩)) 4 rfl ?_))))
 have fK:=fJ.pf [2]
 refine qe 5 rfl (Do.storeRow (vs:= [.bool true]) (o:=(G0 a) *6+2) (q:=ao l+(G0 a) *6+2) fK rfl e8 rfl Tryz.sizeOf4 rfl rfl (Lh rfl) (jA ay.len K (Lh rfl)) (j6 (y:=(ay.mk b.au b.aG true b.bg)) ay.len rfl (Lh rfl) K) ?_)
 intro fM fP
 have fQ:Own w D fM [row l n.ai.ls.length r (q2 ay.cells (L6 g (G0 a) (ay.mk b.au b.aG true b.bg))) 164 6,blk E [.slice l n.ai.ls.length r] 114,blk aK (aF.cells x) 118,sepL (q2 Iy (L6 g (G0 a) (ay.mk b.au b.aG true b.bg)))]:=by rw [lU (f:=Iy) (y:=(ay.mk b.au b.aG true b.bg)) K rfl]; exact fP
 have jg:q7 (L6 g (G0 a) (ay.mk b.au b.aG true b.bg))=q7 (L6 n.ai.ls (G0 a) (aM.mk b.au (F2 b.aG.ls) true b.bg)):=aY (eH p rfl)
 have jh:q7 (L6 n.ai.ls (G0 a) (aM.mk b.au (F2 b.aG.ls) true b.bg))=n.ai.ls.length:=L7
 have aB:=fQ.pb [0,3]
 refine⟨.inr ⟨_,aB⟩, ?_⟩
 refine qk (.pointer (some ⟨ab l,ao l+(G0 a) *6,none⟩)) 6 rfl (qk (.pointer (some ⟨ab l,ao l+(G0 a) *6+3,none⟩)) 7 rfl ?_)
 obtain⟨h,L⟩:=dG (ls:=(L6 g (G0 a) (ay.mk b.au b.aG true b.bg))) (i:=G0 a) ay.len f5 (aB.rds (i:=2) rfl) f2
 have cz:=fO (eH p rfl) L
 have ji:h.aG.ls.length<=h.aG.c/\h.aG.ls.length<=9223372036854775807:=dC aB (i:=3) rfl (φ:=λ _=>_) (bL (O3.2 ⟨h,D4 L,b3⟩) dK)
 have fT:=aB.pf [2]
 refine qe 8 rfl (Do.storeRow (vs:=(aF.cells x)) (o:=(G0 a) *6+3) (q:=ao l+(G0 a) *6+3) fT rfl e8 rfl N7 rfl rfl (Lh rfl) (jA ay.len L (Lh rfl)) (j6 (y:=(ay.mk h.au h.aG h.bn x)) ay.len rfl (Lh rfl) L) ?_)
 intro aC fU
 have fV:Own w D aC [row l n.ai.ls.length r (q2 ay.cells (L6 (L6 g (G0 a) (ay.mk b.au b.aG true b.bg)) (G0 a) (ay.mk h.au h.aG h.bn x))) 164 6,blk E [.slice l n.ai.ls.length r] 114,blk aK (aF.cells x) 118,sepL (q2 Iy (L6 (L6 g (G0 a) (ay.mk b.au b.aG true b.bg)) (G0 a) (ay.mk h.au h.aG h.bn x)))]:=by rw [lU (f:=Iy) (y:=(ay.mk h.au h.aG h.bn x)) L rfl]; exact fU
 have jl:q7 (L6 (L6 g (G0 a) (ay.mk b.au b.aG true b.bg)) (G0 a) (ay.mk h.au h.aG h.bn x))=q7 (L6 (L6 n.ai.ls (G0 a) (aM.mk b.au (F2 b.aG.ls) true b.bg)) (G0 a) (aM.mk h.au (F2 h.aG.ls) h.bn x)):=aY (eH (eH p rfl) rfl)
 have jm:q7 (L6 (L6 n.ai.ls (G0 a) (aM.mk b.au (F2 b.aG.ls) true b.bg)) (G0 a) (aM.mk h.au (F2 h.aG.ls) h.bn x))=q7 (L6 n.ai.ls (G0 a) (aM.mk b.au (F2 b.aG.ls) true b.bg)):=L7
 have bH:=fV.pb [0,3]
 refine⟨.inr ⟨_,bH⟩, ?_⟩
 refine qn (Ib (H7 ?_))
 have fZ:=bH.pk [0,2,3]
 refine H8 (Az rfl (Az rfl (Az rfl (An rfl (rt (Ir (wh rfl rfl rfl rfl rfl) ?_))))))
 have gm:Own w D aC (row none 0 0 (q2 (eN .u64) []) 32 1::_):=fZ.free (bZ 32 1)
 have gp:Own w D aC (row none 0 0 (q2 (eN .u64) []) 32 1::_):=gm.free (bZ 32 1)
 have V:n.ai.ls.length=q7 (L6 (L6 n.ai.ls (G0 a) (aM.mk b.au (F2 b.aG.ls) true b.bg)) (G0 a) (aM.mk h.au (F2 h.aG.ls) h.bn x)):=by first | omega | (simp only [L7]; done) | (simp only [L7,o0,r5,K1,m8,m9,N2]; omega)
 have gq:Own w D aC [row none 0 0 (q2 (eN .u64) []) 32 1,row none 0 0 (q2 (eN .u64) []) 32 1,blk E [.slice l (q7 (L6 (L6 n.ai.ls (G0 a) (aM.mk b.au (F2 b.aG.ls) true b.bg)) (G0 a) (aM.mk h.au (F2 h.aG.ls) h.bn x))) r] 114,row l (q7 (L6 (L6 n.ai.ls (G0 a) (aM.mk b.au (F2 b.aG.ls) true b.bg)) (G0 a) (aM.mk h.au (F2 h.aG.ls) h.bn x))) r (q2 ay.cells (L6 (L6 g (G0 a) (ay.mk b.au b.aG true b.bg)) (G0 a) (ay.mk h.au h.aG h.bn x))) 164 6,sepL (q2 Iy (L6 (L6 g (G0 a) (ay.mk b.au b.aG true b.bg)) (G0 a) (ay.mk h.au h.aG h.bn x)))]:=by rw [<- V]; exact gp
 have gu:=gq.pf [1]
 obtain⟨rfl,rfl,rfl,rfl,rfl⟩:=zJ (zj hr (show _=(2,([]:List Nat),([]:List Nat),0,aW.mk (F2 (L6 (L6 n.ai.ls (G0 a) (aM.mk b.au (F2 b.aG.ls) true b.bg)) (G0 a) (aM.mk h.au (F2 h.aG.ls) h.bn x)))) from et (ae A) (et (ip O) (et (ae C) (et (eF P) (et (ae F) (et (eF T) (et (ae Q) (et (iN ag) (et (ae X) (et (iN aH) (et (ae (bu U)) (et (iN Z) (et (ae au) (et (ip J) (et (ae (bu bi)) (ae (bu cz))))))))))))))))))
 exact⟨none,0,none,0,l,r,(L6 (L6 g (G0 a) (ay.mk b.au b.aG true b.bg)) (G0 a) (ay.mk h.au h.aG h.bn x)),(by first | rfl | (rw [<- V]; done) | (rw [<- V]; rfl) | (rw [V]; first | done | rfl)),gu,(eH (eH p rfl) rfl),f8⟩
 have h179t:Bool.toNat G=0:=by rw [J]; rfl
 refine jT (cn J) (H8 (Mz rfl (Mz rfl (Kz (vP E 0) (Kz (vP E 0) (Lz (.slice l n.ai.ls.length r) I 0 N5 (Mz rfl (Mz rfl (Kz (.agg #[vU u, .slice none 0 0, .bool false, .string ⟨v0 []⟩, .string ⟨v0 []⟩, .bool false]) ?_)))))))))
 refine WL.do rfl (Jn (cs:= [vU u, .slice none 0 0, .bool false, .string ⟨v0 []⟩, .string ⟨v0 []⟩, .bool false]) (t:=164) (sz:=6) (m:=1) I rfl rfl (λ _=>by kernel_rfl) rfl ?_)
 intro bI gy bn
 replace bn:=IL (y:=lN bI 1 (q2 ay.cells ([(ay.mk u (N1 none 0 []) false ZB)])) 164 6) rfl bn
 have gz:Own w D gy (row none 0 0 (q2 aF.cells []) 118 3::_):=bn.free (bZ 118 3)
 have gB:=gz.pf [4,1,5]
 obtain⟨kz,cB,jo,cK,jq⟩:=Jp gB
 refine cl Tryz.call123 (AX _ _ l n.ai.ls.length r g a bI (ay.mk u (N1 none 0 []) false ZB) n.ai.ls (aM.mk u (F2 []) false ZB) cB e8 p rfl e8 e8) ?_
 rintro _ kC ⟨s,B,rfl,cO⟩
 have gD:=cK _ _ cO
 have jr:q7 (t6 (G0 a) g++((ay.mk u (N1 none 0 []) false ZB)::s0 (G0 a) g))=q7 (t6 (G0 a) n.ai.ls++((aM.mk u (F2 []) false ZB)::s0 (G0 a) n.ai.ls)):=by exact aY (jJ (z:=(aM.mk u (F2 []) false ZB)) p rfl)
 have jv:q7 (t6 (G0 a) n.ai.ls++((aM.mk u (F2 []) false ZB)::s0 (G0 a) n.ai.ls))=n.ai.ls.length+1:=by simp only [o0,m8,r5,m9]; omega
 refine Kz (vP E 0) (Kz (vP E 0) ?_)
 have gF:=gD.pf [2]
 refine cu [.slice s (q7 (t6 (G0 a) n.ai.ls++((aM.mk u (F2 []) false ZB)::s0 (G0 a) n.ai.ls))) B] 0 gF Tryz.sizeOf112 ?_
 intro kD aa
 refine ns (Mz rfl (Kz (vP E 0) (Kz (vP E 0) (Lz (.slice s (q7 (t6 (G0 a) n.ai.ls++((aM.mk u (F2 []) false ZB)::s0 (G0 a) n.ai.ls))) B) aa 0 N5 (fw (vJ (G0 a)) (Ig (e:=a) (Ie rfl) e8) ?_)))))
 obtain⟨d,M⟩:=dG (ls:=(t6 (G0 a) g++((ay.mk u (N1 none 0 []) false ZB)::s0 (G0 a) g))) (i:=G0 a) ay.len f5 (aa.rds (i:=1) rfl) f2
 have bq:=fO (jJ (z:=(aM.mk u (F2 []) false ZB)) p rfl) M
 have jw:d.aG.ls.length<=d.aG.c/\d.aG.ls.length<=9223372036854775807:=dC aa (i:=2) rfl (φ:=λ _=>_) (bL (O3.2 ⟨d,D4 M,b3⟩) dK)
 have jB:d.aG.ls.length<=1000000:=by have q9:Hd (t6 (G0 a) n.ai.ls++((aM.mk u (F2 []) false ZB)::s0 (G0 a) n.ai.ls)):=(by first | exact bv | exact yH bv (Lm _)); exact q9 _ (D4 bq)
 refine fw (.pointer (some ⟨ab s,ao s+(G0 a) *6,none⟩)) (Im (jk) rfl rfl ((aa.rds (i:=1) rfl).addr (i:=G0 a) e8) e8) (An rfl (rt (rs (An rfl (H7 ?_)))))
 have gG:=aa.pb [1,2]
 refine oO [] (Ik Iw) gG ?_
 intro kE gH
 refine qv 0 rfl rfl (qv 1 rfl rfl (qt (v:= .agg (aF.cells x).toArray) 2 rfl (λ _ ⟨_,H9⟩=>Il rfl (Io (cs:=(aF.cells x)) N6 N7 ((H9.cls (i:=1) rfl).lit (k:=0) (m:=3) rfl))) (qk (.pointer (some ⟨ab s,ao s+(G0 a) *6,none⟩)) 3 rfl (qk (.pointer (some ⟨ab s,ao s+(G0 a) *6+2,none⟩)) 4 rfl ?_))))
 have gI:=gH.pf [2]
 refine qe 5 rfl (Do.storeRow (vs:= [.bool true]) (o:=(G0 a) *6+2) (q:=ao s+(G0 a) *6+2) gI rfl e8 rfl Tryz.sizeOf4 rfl rfl (Lh rfl) (jA ay.len M (Lh rfl)) (j6 (y:=(ay.mk d.au d.aG true d.bg)) ay.len rfl (Lh rfl) M) ?_)
 intro gJ gK
 have gL:Own w D gJ [row s (q7 (t6 (G0 a) n.ai.ls++((aM.mk u (F2 []) false ZB)::s0 (G0 a) n.ai.ls))) B (q2 ay.cells (L6 (t6 (G0 a) g++((ay.mk u (N1 none 0 []) false ZB)::s0 (G0 a) g)) (G0 a) (ay.mk d.au d.aG true d.bg))) 164 6,blk E [.slice s (q7 (t6 (G0 a) n.ai.ls++((aM.mk u (F2 []) false ZB)::s0 (G0 a) n.ai.ls))) B] 114,blk aK (aF.cells x) 118,sepL (q2 Iy (L6 (t6 (G0 a) g++((ay.mk u (N1 none 0 []) false ZB)::s0 (G0 a) g)) (G0 a) (ay.mk d.au d.aG true d.bg)))]:=by rw [lU (f:=Iy) (y:=(ay.mk d.au d.aG true d.bg)) M rfl]; exact gK
 have jC:q7 (L6 (t6 (G0 a) g++((ay.mk u (N1 none 0 []) false ZB)::s0 (G0 a) g)) (G0 a) (ay.mk d.au d.aG true d.bg))=q7 (L6 (t6 (G0 a) n.ai.ls++((aM.mk u (F2 []) false ZB)::s0 (G0 a) n.ai.ls)) (G0 a) (aM.mk d.au (F2 d.aG.ls) true d.bg)):=aY (eH (jJ (z:=(aM.mk u (F2 []) false ZB)) p rfl) rfl)
 have jD:q7 (L6 (t6 (G0 a) n.ai.ls++((aM.mk u (F2 []) false ZB)::s0 (G0 a) n.ai.ls)) (G0 a) (aM.mk d.au (F2 d.aG.ls) true d.bg))=q7 (t6 (G0 a) n.ai.ls++((aM.mk u (F2 []) false ZB)::s0 (G0 a) n.ai.ls)):=L7
 have aD:=gL.pb [0,3]
 refine⟨.inr ⟨_,aD⟩, ?_⟩
 refine qk (.pointer (some ⟨ab s,ao s+(G0 a) *6,none⟩)) 6 rfl (qk (.pointer (some ⟨ab s,ao s+(G0 a) *6+3,none⟩)) 7 rfl ?_)
 obtain⟨j,N⟩:=dG (ls:=(L6 (t6 (G0 a) g++((ay.mk u (N1 none 0 []) false ZB)::s0 (G0 a) g)) (G0 a) (ay.mk d.au d.aG true d.bg))) (i:=G0 a) ay.len f5 (aD.rds (i:=2) rfl) f2
 have cZ:=fO (eH (jJ (z:=(aM.mk u (F2 []) false ZB)) p rfl) rfl) N
 have jE:j.aG.ls.length<=j.aG.c/\j.aG.ls.length<=9223372036854775807:=dC aD (i:=3) rfl (φ:=λ _=>_) (bL (O3.2 ⟨j,D4 N,b3⟩) dK)
 have gM:=aD.pf [2]
 refine qe 8 rfl (Do.storeRow (vs:=(aF.cells x)) (o:=(G0 a) *6+3) (q:=ao s+(G0 a) *6+3) gM rfl e8 rfl N7 rfl rfl (Lh rfl) (jA ay.len N (Lh rfl)) (j6 (y:=(ay.mk j.au j.aG j.bn x)) ay.len rfl (Lh rfl) N) ?_)
 intro aG gN
 have gP:Own w D aG [row s (q7 (t6 (G0 a) n.ai.ls++((aM.mk u (F2 []) false ZB)::s0 (G0 a) n.ai.ls))) B (q2 ay.cells (L6 (L6 (t6 (G0 a) g++((ay.mk u (N1 none 0 []) false ZB)::s0 (G0 a) g)) (G0 a) (ay.mk d.au d.aG true d.bg)) (G0 a) (ay.mk j.au j.aG j.bn x))) 164 6,blk E [.slice s (q7 (t6 (G0 a) n.ai.ls++((aM.mk u (F2 []) false ZB)::s0 (G0 a) n.ai.ls))) B] 114,blk aK (aF.cells x) 118,sepL (q2 Iy (L6 (L6 (t6 (G0 a) g++((ay.mk u (N1 none 0 []) false ZB)::s0 (G0 a) g)) (G0 a) (ay.mk d.au d.aG true d.bg)) (G0 a) (ay.mk j.au j.aG j.bn x)))]:=by rw [lU (f:=Iy) (y:=(ay.mk j.au j.aG j.bn x)) N rfl]; exact gN
 have jG:q7 (L6 (L6 (t6 (G0 a) g++((ay.mk u (N1 none 0 []) false ZB)::s0 (G0 a) g)) (G0 a) (ay.mk d.au d.aG true d.bg)) (G0 a) (ay.mk j.au j.aG j.bn x))=q7 (L6 (L6 (t6 (G0 a) n.ai.ls++((aM.mk u (F2 []) false ZB)::s0 (G0 a) n.ai.ls)) (G0 a) (aM.mk d.au (F2 d.aG.ls) true d.bg)) (G0 a) (aM.mk j.au (F2 j.aG.ls) j.bn x)):=aY (eH (eH (jJ (z:=(aM.mk u (F2 []) false ZB)) p rfl) rfl) rfl)
 have jH:q7 (L6 (L6 (t6 (G0 a) n.ai.ls++((aM.mk u (F2 []) false ZB)::s0 (G0 a) n.ai.ls)) (G0 a) (aM.mk d.au (F2 d.aG.ls) true d.bg)) (G0 a) (aM.mk j.au (F2 j.aG.ls) j.bn x))=q7 (L6 (t6 (G0 a) n.ai.ls++((aM.mk u (F2 []) false ZB)::s0 (G0 a) n.ai.ls)) (G0 a) (aM.mk d.au (F2 d.aG.ls) true d.bg)):=L7
 have bJ:=gP.pb [0,3]
 refine⟨.inr ⟨_,bJ⟩, ?_⟩
 refine qn (Ib (H7 ?_))
 have gQ:=bJ.pk [0,2,3]
 refine H8 (Az rfl (Az rfl (Az rfl (An rfl (rt (Ir (wh rfl rfl rfl rfl rfl) ?_))))))
 have gU:Own w D aG (row none 0 0 (q2 (eN .u64) []) 32 1::_):=gQ.free (bZ 32 1)
 have gV:Own w D aG (row none 0 0 (q2 (eN .u64) []) 32 1::_):=gU.free (bZ 32 1)
 have W:q7 (t6 (G0 a) n.ai.ls++((aM.mk u (F2 []) false ZB)::s0 (G0 a) n.ai.ls))=q7 (L6 (L6 (t6 (G0 a) n.ai.ls++((aM.mk u (F2 []) false ZB)::s0 (G0 a) n.ai.ls)) (G0 a) (aM.mk d.au (F2 d.aG.ls) true d.bg)) (G0 a) (aM.mk j.au (F2 j.aG.ls) j.bn x)):=by first | omega | (simp only [L7]; done) | (simp only [L7,o0,r5,K1,m8,m9,N2]; omega)
 have gW:Own w D aG [row none 0 0 (q2 (eN .u64) []) 32 1,row none 0 0 (q2 (eN .u64) []) 32 1,blk E [.slice s (q7 (L6 (L6 (t6 (G0 a) n.ai.ls++((aM.mk u (F2 []) false ZB)::s0 (G0 a) n.ai.ls)) (G0 a) (aM.mk d.au (F2 d.aG.ls) true d.bg)) (G0 a) (aM.mk j.au (F2 j.aG.ls) j.bn x))) B] 114,row s (q7 (L6 (L6 (t6 (G0 a) n.ai.ls++((aM.mk u (F2 []) false ZB)::s0 (G0 a) n.ai.ls)) (G0 a) (aM.mk d.au (F2 d.aG.ls) true d.bg)) (G0 a) (aM.mk j.au (F2 j.aG.ls) j.bn x))) B (q2 ay.cells (L6 (L6 (t6 (G0 a) g++((ay.mk u (N1 none 0 []) false ZB)::s0 (G0 a) g)) (G0 a) (ay.mk d.au d.aG true d.bg)) (G0 a) (ay.mk j.au j.aG j.bn x))) 164 6,sepL (q2 Iy (L6 (L6 (t6 (G0 a) g++((ay.mk u (N1 none 0 []) false ZB)::s0 (G0 a) g)) (G0 a) (ay.mk d.au d.aG true d.bg)) (G0 a) (ay.mk j.au j.aG j.bn x)))]:=by rw [<- W]; exact gV
 have gX:=gW.pf [1]
 obtain⟨rfl,rfl,rfl,rfl,rfl⟩:=zJ (zj hr (show _=(2,([]:List Nat),([]:List Nat),0,aW.mk (F2 (L6 (L6 (t6 (G0 a) n.ai.ls++((aM.mk u (F2 []) false ZB)::s0 (G0 a) n.ai.ls)) (G0 a) (aM.mk d.au (F2 d.aG.ls) true d.bg)) (G0 a) (aM.mk j.au (F2 j.aG.ls) j.bn x)))) from et (ae A) (et (ip O) (et (ae C) (et (eF P) (et (ae F) (et (eF T) (et (ae Q) (et (iN ag) (et (ae X) (et (iN aH) (et (ae (bu U)) (et (iN Z) (et (ae au) (et (eF J) (et (ae (bu bq)) (ae (bu cZ))))))))))))))))))
 exact⟨none,0,none,0,s,B,(L6 (L6 (t6 (G0 a) g++((ay.mk u (N1 none 0 []) false ZB)::s0 (G0 a) g)) (G0 a) (ay.mk d.au d.aG true d.bg)) (G0 a) (ay.mk j.au j.aG j.bn x)),(by first | rfl | (rw [<- W]; done) | (rw [<- W]; rfl) | (rw [W]; first | done | rfl)),gX,(eH (eH (jJ (z:=(aM.mk u (F2 []) false ZB)) p rfl) rfl) rfl),f8⟩
 refine jT (dT O) (sr (Az rfl (Az rfl (Az rfl (An rfl (rt (tR (Ir (wh rfl rfl rfl rfl rfl) ?_))))))))
 have gY:Own w D dw (row none 0 0 (q2 (eN .u64) []) 32 1::_):=dz.free (bZ 32 1)
 have gZ:Own w D dw (row none 0 0 (q2 (eN .u64) []) 32 1::_):=gY.free (bZ 32 1)
 have ib:=gZ.px [1] [2] []
 obtain⟨rfl,rfl,rfl,rfl,rfl⟩:=zJ (zj hr (show _=(0,([]:List Nat),([]:List Nat),21,n) from et (ae A) (iN O))).symm
 exact⟨none,0,none,0,l,r,g,rfl,ib,p,f8⟩
end
open List renaming perm_middle->P5
section
variable {α β:Type} {w0 w:World} {D:Nat->Prop} {L:List HP} {f:α->List HP}
theorem Ey {es:List α} {y:α} (H:Own w0 D w (f y++(sepL (q2 f es)::L))):Own w0 D w (sepL (q2 f (es++ [y]))::L):=by
  have h:=H.sepIns (i:=es.length)
  rw [List.take_length,List.drop_length] at h
  exact h
theorem Ez {d:List α} {k:Nat} {es:List α} (y:α) (he:es.length=k) (hk:k < d.length):List.set (es++s0 k d) k y=(es++ [y])++s0 (k+1) d:=by
  subst he
  rw [List.set_append_right _ _ (Nat.le_refl _),Nat.sub_self,List.drop_eq_getElem_cons hk,List.set_cons_zero,List.append_assoc]
  rfl
theorem Fp {d es:List α} {k:Nat} {x:α} (he:es.length=k) (hx:d[k]? =some x):(es++s0 k d)[k]? =some x:=by
  subst he
  rw [List.getElem?_append_right (Nat.le_refl _),Nat.sub_self,List.getElem?_drop,Nat.add_zero,hx]
theorem EA {f:α->β} {d es:List α} {k:Nat} {x y:α} (h:s1 f es=s1 f (t6 k d)) (hx:d[k]? =some x) (hy:f y=f x):s1 f (es++ [y])=s1 f (t6 (k+1) d):=by
  obtain⟨hk,rfl⟩:=List.getElem?_eq_some_iff.1 hx
  rw [List.take_succ_eq_append_getElem hk,O2,O2,h,List.map_cons,List.map_nil,hy,List.map_cons,List.map_nil]
end
section
variable {α:Type} {w0 w:World} {D:Nat->Prop} {L:List HP} {f:α->List HP}
theorem Ba {ds:List α} {i:Nat} {x:α} (hx:ds[i]? =some x) (H:Own w0 D w (sepL (q2 f ds)::L)):Own w0 D w (sepL (q2 f (t6 i ds++s0 (i+1) ds))::(f x++L)):=by
  have h:=Jy (f:=f) (i:=i) hx H
  rw [List.flatMap_append]
  exact h.perm P5
theorem Bb {ds:List α} {i:Nat} {y:α} (H:Own w0 D w (sepL (q2 f ds)::(f y++L))):Own w0 D w (sepL (q2 f (t6 i ds++(y::s0 i ds)))::L):=Own.sepIns (H.perm P5.symm)
end
open List renaming mem_of_mem_take->L5
open Nat renaming le_mul_of_pos_left->P7
open _root_.Go.Proofs.Tryz renaming prog->u9,underlying3->v6,underlying33->P9,underlying34->P6,underlying44->Q0,underlying45->G4,underlying77->P8
section
open Go.RowKit
structure aP where
 au:Nat
 cz:Sv aX
 bJ:Sv aF
 aS:Int
def aP.cells (x:aP):List Value:= [.int .u64 ((x.au:Nat):Int), .slice x.cz.A x.cz.ls.length x.cz.c, .slice x.bJ.A x.bJ.ls.length x.bJ.c, .int .i64 x.aS]
instance:Bk aP:=⟨λ x _=>bk x.au+(bk x.cz+(bk x.bJ+(bk x.aS+(0))))⟩
theorem aP.len:∀ x,(aP.cells x).length=4:=λ _=>rfl
theorem aP.one:∀ x, ∀ u ∈ aP.cells x,u.oneCell'=true:=λ x u hu=>by
 simp only [aP.cells,List.mem_cons,List.not_mem_nil,or_false] at hu
 rcases hu with rfl | rfl | rfl | rfl <;> rfl
def KX (w:World) (x:aP):Prop:=(x.au<=18446744073709551615)/\(mM w 6 80 aX.cells (JM w) x.cz)/\(mM w 3 40 aF.cells (JG w) x.bJ)/\((-9223372036854775808)<=x.aS/\x.aS<=9223372036854775807)
instance:Inhabited aP:=⟨⟨default,default,default,default⟩⟩
structure bB where
 au:Nat
 cz:Ll aX
 bJ:Ll aF
 aS:Int
instance:Inhabited bB:=⟨⟨default,default,default,default⟩⟩
def aP.abs (x:aP):bB:=⟨x.au,⟨x.cz.ls⟩,⟨x.bJ.ls⟩,x.aS⟩
def IA (x:aP):List HP:= [row x.cz.A x.cz.ls.length x.cz.c (q2 aX.cells x.cz.ls) 68 6,row x.bJ.A x.bJ.ls.length x.bJ.c (q2 aF.cells x.bJ.ls) 118 3]
def lu (a:List bf) (b:Int) (c:Int):(List bf):=
 if b=c then a else(t6 (G0 b) a++s0 (G0 c) a)
theorem pX (w D f o d a c b j) (H:Own w D w [row f o d (q2 bf.cells a) 60 2]) (p:o=a.length) (J:a.length *32<=211106232532992) (K:0<=c/\c<=b/\b<=((a.length:Nat):Int)) (hr:lu a c b=j):
    Calls u9 85 #[.slice f o d,vI c,vI b] w (dI λ v w'=> ∃ B C,v= .slice B j.length C/\Own w D w' [row B j.length C (q2 bf.cells j) 60 2]/\(j.length<=a.length)):=by
 unfold lu at hr
 subst p
 have L:=H.rowC (i:=0) rfl
 refine cb Tryz.func85 ?_
 refine sr (Ar rfl (Mz rfl (fw (vJ (G0 c)) (Ig (e:=c) (Ie rfl) e8) (fw (vJ (G0 b)) (Ig (e:=b) (Ie rfl) e8) (Mz rfl (Kz (vJ a.length) (fw (.slice (eO f (G0 c) 2 a.length) ((G0 b) - (G0 c)) (a.length - (G0 c))) (JB (ko) rfl rfl rfl rfl e8 e8 e8) (nt (H7 (sr (Mz rfl (Mz rfl (Kz (.bool (decide (c=b))) (nt ?_))))))))))))))
 by_cases h:c=b
 refine jT (dT h) (sr (Mz rfl (An rfl (rt (tR (rs ?_))))))
 have q:=H.pf []
 obtain rfl:=zj hr zq1
 exact⟨f,d,rfl,q,e8⟩
 refine jF (dF h) (sk (sr (Mz rfl (Kz (vJ a.length) (An rfl (H7 ?_))))))
 have g:=H.drew
 refine Jm [6] (λ W=> ∃ L',Own w D W ([row f a.length d (q2 bf.cells a) 60 2]++L')) e9 e9 (Ik Iw) ⟨_,g⟩ ?_
 revert g
 generalize World.drew w=r
 intro g
 refine qv 0 rfl rfl (qt (v:=vJ (G0 c)) 1 rfl (λ _ _=>Ig (e:=c) (Ie rfl) e8) (qt (v:= .slice f (G0 c) d) 2 rfl (λ _ _=>I4 (ko) rfl rfl e8) (qv 3 rfl rfl (qt (v:=vJ (G0 b)) 4 rfl (λ _ _=>Ig (e:=b) (Ie rfl) e8) (qt (v:= .slice (eO f (G0 b) 2 d) (a.length - (G0 b)) (d - (G0 b))) 5 rfl (λ _ _=>II (ko) rfl rfl e8) ?_)))))
 have E:q7 (t6 (G0 c) a++s0 (G0 b) a)=G0 c+(a.length - G0 b):=by simp only [o0,m8,m9]; omega
 have l:Src u9 2 34 (.slice (eO f (G0 b) 2 d) (a.length - (G0 b)) (d - (G0 b))) (a.length - G0 b) (q2 bf.cells (s0 (G0 b) a)) r:=eY P6 (I7 (lo:=G0 b) bf.len (g.rds (i:=0) rfl) e8 e8 f5) (cZ bf.one (s0 (G0 b) a))
 obtain⟨F,t,u⟩:=g.rowFull
 refine qd 6 rfl (Jh (k:=G0 c) (m:=a.length - G0 b) (ko) u rfl rfl l e8 (s:=q7 (t6 (G0 c) a++s0 (G0 b) a)) e8 ?_)
 intro M n
 refine⟨.inl e9, ?_⟩
 refine IP (v:= .slice f (q7 (t6 (G0 c) a++s0 (G0 b) a)) d) 7 rfl e9 (λ _=>Jc rfl) (qn (Ib (sr (Mz rfl (Mz rfl (Kz (vI ((q7 (t6 (G0 c) a++s0 (G0 b) a):Nat):Int)) (Mz rfl (fw (.slice (eO f (q7 (t6 (G0 c) a++s0 (G0 b) a)) 2 d) (a.length - (q7 (t6 (G0 c) a++s0 (G0 b) a))) (d - (q7 (t6 (G0 c) a++s0 (G0 b) a)))) (Yl.cut (ko) rfl rfl rfl e8 e8) ?_))))))))
 refine I5 (Jv (z0:=(.agg #[.int .u64 0, .slice none 0 0])) (lo:=q7 (t6 (G0 c) a++s0 (G0 b) a)) (nd:=(a.length - (q7 (t6 (G0 c) a++s0 (G0 b) a)))) e9 rfl (ko) n rfl (λ _=>gu ((n.rds (i:=0) rfl).isSome e8) e8) e8 ?_)
 intro x G I y
 refine ns (Mz rfl (An rfl (rt (rs ?_))))
 have z:Own w D x [row f (q7 (t6 (G0 c) a++s0 (G0 b) a)) d (q2 bf.cells (t6 (G0 c) a++s0 (G0 b) a)) 60 2]:=y.rowPart e8 (rY bf.len e8 e8 rfl)
 have A:=z.pf []
 obtain rfl:=zj hr zq1
 exact⟨f,d,rfl,A,e8⟩
def lv (a:List bf) (b:Int) (c:bf):(List bf):=
 if((G0 b:Nat):Int)=(a.length:Int) then(a++ [c]) else(t6 (G0 b) a++(c::s0 (G0 b) a))
theorem pY (w D f E d b a C) (c:bf) (y) (H:Own w D w [row f E d (q2 bf.cells b) 60 2,lN C 1 (q2 bf.cells ([c])) 60 2]) (F:E=b.length) (ag:b.length *32<=211106232532992) (ah:0<=a/\a<=((b.length:Nat):Int)/\(b.length+1) *32<=211106232532992) (hr:lv b a c=y):
    Calls u9 182 #[.slice f E d,vI a, .slice C 1 1] w (dI λ v w'=> ∃ X Y,v= .slice X y.length Y/\Own w D w' [row X y.length Y (q2 bf.cells y) 60 2]/\(y.length=b.length+1)):=by
 unfold lv at hr
 subst F
 have ai:=H.rowC (i:=0) rfl
 refine cb Tryz.func182 ?_
 refine sr (Ar rfl (Mz rfl (fw (vJ (G0 a)) (Ig (e:=a) (Ie rfl) e8) (fw (.slice (eO f (G0 a) 2 d) (b.length - (G0 a)) (d - (G0 a))) (II (ko) rfl rfl e8) (ns (Mz rfl (Kz (vI 1) (An rfl (H7 (sr (Mz rfl (Kz (.bool false) (nt (jf (sk (sr (Mz rfl (Kz (vJ b.length) (An rfl (H7 (sr (fw (vJ (G0 a)) (Ig (e:=a) (Ie rfl) e8) ?_))))))))))))))))))))))
 refine Mz rfl (Kz (.bool (decide (((G0 a:Nat):Int)=(b.length:Int)))) (nt ?_))
 by_cases h:((G0 a:Nat):Int)=(b.length:Int)
 refine jT (dT h) (sr (Mz rfl (Mz rfl ?_)))
 refine WL.do rfl (IC (k:=b.length) (m:=1) (ko) H rfl rfl (eY P6 (dC H (i:=1) rfl lh) (cZ bf.one ([c]))) rfl e8 (s:=q7 (b++ [c])) f3 (t7).symm ?_)
 intro G I aj J
 have Z:q7 (b++ [c])=b.length+1:=by simp only [o0,r5,K1]
 refine An rfl (rt (tR (rs ?_)))
 have K:=J.pk [0]
 obtain rfl:=zj hr zq1
 exact⟨G,I,rfl,K,e8⟩
 refine jF (dF h) (sk (H7 (sr (Mz rfl (Mz rfl (fw (vJ (b.length+1)) (Ig (e:=B5.wrap ((b.length:Int)+1)) yk f1) (Mz rfl (Kz (vJ d) (Kz (.bool (decide (((b.length+1:Nat):Int) > (d:Int)))) (nt ?_))))))))))
 by_cases z:((b.length+1:Nat):Int) > (d:Int)
 refine jT (dT z) (sr (Mz rfl (fw (vJ (G0 a)) (Ig (e:=a) (Ie rfl) e8) (fw (.slice f (G0 a) d) (I4 (ko) rfl rfl e8) (Mz rfl (Mz rfl (fw (vJ (b.length+1)) (Ig (e:=B5.wrap ((b.length:Int)+1)) yk f1) (fw (vJ (G0 a)) (Ig (e:=a) (Ie rfl) e8) (fw (vJ ((b.length+1) - (G0 a))) (Ig (e:=B5.wrap (((b.length+1:Nat):Int) - ((G0 a:Nat):Int))) yk f1) ?_)))))))))
 have aa:q7 (t6 (G0 a) b++(c::s0 (G0 a) b))=b.length+1:=by simp only [o0,m8,r5,m9]; omega
 refine WL.do rfl (Jg (k:=G0 a) (m:=(b.length+1) - (G0 a)) (ko) v6 H rfl rfl e8 e8 e8 rfl e8 (s:=q7 (t6 (G0 a) b++(c::s0 (G0 a) b))) e8 ?_)
 intro j g ae ak A n
 have L:=n.rowLe (i:=0) rfl
 refine Ar rfl (Mz rfl (fw (vJ (G0 a)) (Ig (e:=a) (Ie rfl) e8) (fw (.slice (eO j (G0 a) 2 g) ((q7 (t6 (G0 a) b++(c::s0 (G0 a) b))) - (G0 a)) (g - (G0 a))) (II (ko) rfl rfl e8) (Mz rfl ?_))))
 refine WL.do rfl (IY (lo:=G0 a) (k:=1) (ko) n rfl (λ _=>gu ((n.rds (i:=0) rfl).isSome e8) e8) e8 rfl (dC n (i:=2) rfl lh) e8 (λ u hu=>cZ bf.one _ u (L5 hu)) rfl ?_)
 intro au M
 refine nt (H7 ?_)
 refine yw [8] (Ik (Ik Iw)) M ?_
 intro av o
 refine qv 0 rfl rfl (qt (v:=vJ (G0 a)) 1 rfl (λ _ _=>Ig (e:=a) (Ie rfl) e8) (qv 2 rfl rfl (qt (v:=vJ (G0 a+1)) 3 rfl (λ _ _=>Ig (e:=B5.wrap (((G0 a:Nat):Int)+1)) yk f1) (qt (v:= .slice (eO j (G0 a+1) 2 g) ((q7 (t6 (G0 a) b++(c::s0 (G0 a) b))) - (G0 a+1)) (g - (G0 a+1))) 4 rfl (λ _ _=>II (ko) rfl rfl e8) (qv 5 rfl rfl (qt (v:=vJ (G0 a)) 6 rfl (λ _ _=>Ig (e:=a) (Ie rfl) e8) (qt (v:= .slice (eO f (G0 a) 2 d) (b.length - (G0 a)) (d - (G0 a))) 7 rfl (λ _ _=>II (ko) rfl rfl e8) ?_)))))))
 refine qd 8 rfl (IY (lo:=G0 a+1) (k:=b.length - G0 a) (ko) o rfl (λ _=>gu ((o.rds (i:=0) rfl).isSome e8) e8) e8 rfl (I7 (lo:=G0 a) bf.len (o.rds (i:=1) rfl) e8 e8 f5) e8 (λ u hu=>cZ bf.one _ u (L5 hu)) rfl ?_)
 intro N O
 refine⟨.inl e9, ?_⟩
 refine qn (Ib (sr (Mz rfl (An rfl (rt (tR (rs ?_)))))))
 have P:Own w D N [row j (q7 (t6 (G0 a) b++(c::s0 (G0 a) b))) g (q2 bf.cells (t6 (G0 a) b++(c::s0 (G0 a) b))) 60 2,row f b.length d (q2 bf.cells b) 60 2,lN C 1 (q2 bf.cells ([c])) 60 2]:=O.rowPart e8 (tF (l:=b) (k2:=b.length - G0 a) bf.len e8 A rfl rfl e8)
 have Q:=P.pk [0]
 obtain rfl:=zj hr zq1
 exact⟨j,g,rfl,Q,e8⟩
 refine jF (dF z) (sk (sr ?_))
 have B:q7 (t6 (G0 a) b++(c::s0 (G0 a) b))=b.length+1:=by simp only [o0,m8,r5,m9]; omega
 obtain⟨af,p,R⟩:=H.rowFull
 refine Mz rfl (Mz rfl (Mz rfl (fw (vJ (b.length+1)) (Ig (e:=B5.wrap ((b.length:Int)+1)) yk f1) (fw (.slice f (q7 (t6 (G0 a) b++(c::s0 (G0 a) b))) d) (Yl.to (I4 (ko) rfl rfl e8) (congrArg (λ q=>Value.slice f q d) B.symm)) (An rfl (H7 (sr (Mz rfl (Mz rfl (fw (vJ (G0 a)) (Ig (e:=a) (Ie rfl) e8) (Mz rfl (fw (vJ (G0 a+1)) (Ig (e:=B5.wrap (((G0 a:Nat):Int)+1)) yk f1) (fw (.slice (eO f (G0 a+1) 2 d) ((q7 (t6 (G0 a) b++(c::s0 (G0 a) b))) - (G0 a+1)) (d - (G0 a+1))) (II (ko) rfl rfl e8) ?_)))))))))))))
 have r:=R.pb [0]
 refine fw (.bool false) (Ji (lo:=G0 a+1) (run_callFunc_extern Tryz.func218 e9 e9 e9 (e:=Extern.SlicesOverlaps.overlaps #[34,34] #[4]) e9) P6 Tryz.sizeOf60 r f5 e8 rfl (gu ((r.rds (i:=1) rfl).isSome e8) e8)) (Kz (.bool true) (nt (jt (H7 ?_))))
 refine oO [8] (Ik (Ik Iw)) r ?_
 intro ax S
 refine qv 0 rfl rfl (qt (v:=vJ (G0 a)) 1 rfl (λ _ _=>Ig (e:=a) (Ie rfl) e8) (qv 2 rfl rfl (qt (v:=vJ (G0 a+1)) 3 rfl (λ _ _=>Ig (e:=B5.wrap (((G0 a:Nat):Int)+1)) yk f1) (qt (v:= .slice (eO f (G0 a+1) 2 d) ((q7 (t6 (G0 a) b++(c::s0 (G0 a) b))) - (G0 a+1)) (d - (G0 a+1))) 4 rfl (λ _ _=>II (ko) rfl rfl e8) (qv 5 rfl rfl (qt (v:=vJ (G0 a)) 6 rfl (λ _ _=>Ig (e:=a) (Ie rfl) e8) (qt (v:= .slice (eO f (G0 a) 2 d) ((q7 (t6 (G0 a) b++(c::s0 (G0 a) b))) - (G0 a)) (d - (G0 a))) 7 rfl (λ _ _=>II (ko) rfl rfl e8) ?_)))))))
 have t:=S.pb [0]
 refine qd 8 rfl (IY (lo:=G0 a+1) (k:=b.length - G0 a) (ko) t rfl (λ _=>gu ((t.rds (i:=0) rfl).isSome e8) e8) e8 rfl (bO.cut (lo:=G0 a) (hi:=q7 (t6 (G0 a) b++(c::s0 (G0 a) b))) (t.rds (i:=0) rfl) e8 e8 e8) e8 (λ u hu=>cZ bf.one _ u (by rw [tH bf.len e8 rfl e8] at hu; exact hu)) rfl ?_)
 intro ay x
 refine⟨.inl e9, ?_⟩
 refine qn (Ib (sr (Mz rfl (fw (vJ (G0 a)) (Ig (e:=a) (Ie rfl) e8) (fw (.slice (eO f (G0 a) 2 d) ((q7 (t6 (G0 a) b++(c::s0 (G0 a) b))) - (G0 a)) (d - (G0 a))) (II (ko) rfl rfl e8) (Mz rfl ?_))))))
 refine WL.do rfl (IY (lo:=G0 a) (k:=1) (ko) x rfl (λ _=>gu ((x.rds (i:=0) rfl).isSome e8) e8) e8 rfl (dC x (i:=1) rfl lh) e8 (λ u hu=>cZ bf.one _ u (L5 hu)) rfl ?_)
 intro T U
 refine ns (Mz rfl (An rfl (rt (tR (rs ?_)))))
 have V:Own w D T [row f (q7 (t6 (G0 a) b++(c::s0 (G0 a) b))) d (q2 bf.cells (t6 (G0 a) b++(c::s0 (G0 a) b))) 60 2,lN C 1 (q2 bf.cells ([c])) 60 2]:=U.rowPart e8 (tJ (l:=b) (m:=(q7 (t6 (G0 a) b++(c::s0 (G0 a) b))) - G0 a) (k2:=b.length - G0 a) bf.len e8 (by rw [p]; exact P7 2 e8) rfl rfl e8 e8)
 have W:=V.pk [0]
 obtain rfl:=zj hr zq1
 exact⟨f,d,rfl,W,e8⟩
theorem lJ:Elem u9 77 99 4 64:=l6 (z:= .agg #[.int .u64 0, .slice none 0 0, .slice none 0 0, .int .i64 0]) P8 e9 rfl f5
def jZ (a:List aP) (b:Int) (c:Int):(List aP):=
 if b=c then a else(t6 (G0 b) a++s0 (G0 c) a)
theorem oz (w D f o d a c b j) (H:Own w D w [row f o d (q2 aP.cells a) 99 4]) (p:o=a.length) (J:a.length *64<=211106232532992) (K:0<=c/\c<=b/\b<=((a.length:Nat):Int)) (hr:jZ a c b=j):
    Calls u9 142 #[.slice f o d,vI c,vI b] w (dI λ v w'=> ∃ B C,v= .slice B j.length C/\Own w D w' [row B j.length C (q2 aP.cells j) 99 4]/\(j.length<=a.length)):=by
 unfold jZ at hr
 subst p
 have L:=H.rowC (i:=0) rfl
 refine cb Tryz.func142 ?_
 refine sr (Ar rfl (Mz rfl (fw (vJ (G0 c)) (Ig (e:=c) (Ie rfl) e8) (fw (vJ (G0 b)) (Ig (e:=b) (Ie rfl) e8) (Mz rfl (Kz (vJ a.length) (fw (.slice (eO f (G0 c) 4 a.length) ((G0 b) - (G0 c)) (a.length - (G0 c))) (JB (lJ) rfl rfl rfl rfl e8 e8 e8) (nt (H7 (sr (Mz rfl (Mz rfl (Kz (.bool (decide (c=b))) (nt ?_))))))))))))))
 by_cases h:c=b
 refine jT (dT h) (sr (Mz rfl (An rfl (rt (tR (rs ?_))))))
 have q:=H.pf []
 obtain rfl:=zj hr zq1
 exact⟨f,d,rfl,q,e8⟩
 refine jF (dF h) (sk (sr (Mz rfl (Kz (vJ a.length) (An rfl (H7 ?_))))))
 have g:=H.drew
 refine Jm [6] (λ W=> ∃ L',Own w D W ([row f a.length d (q2 aP.cells a) 99 4]++L')) e9 e9 (Ik Iw) ⟨_,g⟩ ?_
 revert g
 generalize World.drew w=r
 intro g
 refine qv 0 rfl rfl (qt (v:=vJ (G0 c)) 1 rfl (λ _ _=>Ig (e:=c) (Ie rfl) e8) (qt (v:= .slice f (G0 c) d) 2 rfl (λ _ _=>I4 (lJ) rfl rfl e8) (qv 3 rfl rfl (qt (v:=vJ (G0 b)) 4 rfl (λ _ _=>Ig (e:=b) (Ie rfl) e8) (qt (v:= .slice (eO f (G0 b) 4 d) (a.length - (G0 b)) (d - (G0 b))) 5 rfl (λ _ _=>II (lJ) rfl rfl e8) ?_)))))
 have E:q7 (t6 (G0 c) a++s0 (G0 b) a)=G0 c+(a.length - G0 b):=by simp only [o0,m8,m9]; omega
 have l:Src u9 4 77 (.slice (eO f (G0 b) 4 d) (a.length - (G0 b)) (d - (G0 b))) (a.length - G0 b) (q2 aP.cells (s0 (G0 b) a)) r:=eY P8 (I7 (lo:=G0 b) aP.len (g.rds (i:=0) rfl) e8 e8 f5) (cZ aP.one (s0 (G0 b) a))
 obtain⟨F,t,u⟩:=g.rowFull
 refine qd 6 rfl (Jh (k:=G0 c) (m:=a.length - G0 b) (lJ) u rfl rfl l e8 (s:=q7 (t6 (G0 c) a++s0 (G0 b) a)) e8 ?_)
 intro M n
 refine⟨.inl e9, ?_⟩
 refine IP (v:= .slice f (q7 (t6 (G0 c) a++s0 (G0 b) a)) d) 7 rfl e9 (λ _=>Jc rfl) (qn (Ib (sr (Mz rfl (Mz rfl (Kz (vI ((q7 (t6 (G0 c) a++s0 (G0 b) a):Nat):Int)) (Mz rfl (fw (.slice (eO f (q7 (t6 (G0 c) a++s0 (G0 b) a)) 4 d) (a.length - (q7 (t6 (G0 c) a++s0 (G0 b) a))) (d - (q7 (t6 (G0 c) a++s0 (G0 b) a)))) (Yl.cut (lJ) rfl rfl rfl e8 e8) ?_))))))))
 refine I5 (Jv (z0:=(.agg #[.int .u64 0, .slice none 0 0, .slice none 0 0,vI 0])) (lo:=q7 (t6 (G0 c) a++s0 (G0 b) a)) (nd:=(a.length - (q7 (t6 (G0 c) a++s0 (G0 b) a)))) e9 rfl (lJ) n rfl (λ _=>gu ((n.rds (i:=0) rfl).isSome e8) e8) e8 ?_)
 intro x G I y
 refine ns (Mz rfl (An rfl (rt (rs ?_))))
 have z:Own w D x [row f (q7 (t6 (G0 c) a++s0 (G0 b) a)) d (q2 aP.cells (t6 (G0 c) a++s0 (G0 b) a)) 99 4]:=y.rowPart e8 (rY aP.len e8 e8 rfl)
 have A:=z.pf []
 obtain rfl:=zj hr zq1
 exact⟨f,d,rfl,A,e8⟩
def j3 (a:List aP) (b:Int) (c:aP):(List aP):=
 if((G0 b:Nat):Int)=(a.length:Int) then(a++ [c]) else(t6 (G0 b) a++(c::s0 (G0 b) a))
theorem oC (w D f E d b a C) (c:aP) (y) (H:Own w D w [row f E d (q2 aP.cells b) 99 4,lN C 1 (q2 aP.cells ([c])) 99 4]) (F:E=b.length) (ag:b.length *64<=211106232532992) (ah:0<=a/\a<=((b.length:Nat):Int)/\(b.length+1) *64<=211106232532992) (hr:j3 b a c=y):
    Calls u9 82 #[.slice f E d,vI a, .slice C 1 1] w (dI λ v w'=> ∃ X Y,v= .slice X y.length Y/\Own w D w' [row X y.length Y (q2 aP.cells y) 99 4]/\(y.length=b.length+1)):=by
 unfold j3 at hr
 subst F
 have ai:=H.rowC (i:=0) rfl
 refine cb Tryz.func82 ?_
 refine sr (Ar rfl (Mz rfl (fw (vJ (G0 a)) (Ig (e:=a) (Ie rfl) e8) (fw (.slice (eO f (G0 a) 4 d) (b.length - (G0 a)) (d - (G0 a))) (II (lJ) rfl rfl e8) (ns (Mz rfl (Kz (vI 1) (An rfl (H7 (sr (Mz rfl (Kz (.bool false) (nt (jf (sk (sr (Mz rfl (Kz (vJ b.length) (An rfl (H7 (sr (fw (vJ (G0 a)) (Ig (e:=a) (Ie rfl) e8) ?_))))))))))))))))))))))
 refine Mz rfl (Kz (.bool (decide (((G0 a:Nat):Int)=(b.length:Int)))) (nt ?_))
 by_cases h:((G0 a:Nat):Int)=(b.length:Int)
 refine jT (dT h) (sr (Mz rfl (Mz rfl ?_)))
 refine WL.do rfl (IC (k:=b.length) (m:=1) (lJ) H rfl rfl (eY P8 (dC H (i:=1) rfl lh) (cZ aP.one ([c]))) rfl e8 (s:=q7 (b++ [c])) f3 (t7).symm ?_)
 intro G I aj J
 have Z:q7 (b++ [c])=b.length+1:=by simp only [o0,r5,K1]
 refine An rfl (rt (tR (rs ?_)))
 have K:=J.pk [0]
 obtain rfl:=zj hr zq1
 exact⟨G,I,rfl,K,e8⟩
 refine jF (dF h) (sk (H7 (sr (Mz rfl (Mz rfl (fw (vJ (b.length+1)) (Ig (e:=B5.wrap ((b.length:Int)+1)) yk f1) (Mz rfl (Kz (vJ d) (Kz (.bool (decide (((b.length+1:Nat):Int) > (d:Int)))) (nt ?_))))))))))
 by_cases z:((b.length+1:Nat):Int) > (d:Int)
 refine jT (dT z) (sr (Mz rfl (fw (vJ (G0 a)) (Ig (e:=a) (Ie rfl) e8) (fw (.slice f (G0 a) d) (I4 (lJ) rfl rfl e8) (Mz rfl (Mz rfl (fw (vJ (b.length+1)) (Ig (e:=B5.wrap ((b.length:Int)+1)) yk f1) (fw (vJ (G0 a)) (Ig (e:=a) (Ie rfl) e8) (fw (vJ ((b.length+1) - (G0 a))) (Ig (e:=B5.wrap (((b.length+1:Nat):Int) - ((G0 a:Nat):Int))) yk f1) ?_)))))))))
 have aa:q7 (t6 (G0 a) b++(c::s0 (G0 a) b))=b.length+1:=by simp only [o0,m8,r5,m9]; omega
 refine WL.do rfl (Jg (k:=G0 a) (m:=(b.length+1) - (G0 a)) (lJ) v6 H rfl rfl e8 e8 e8 rfl e8 (s:=q7 (t6 (G0 a) b++(c::s0 (G0 a) b))) e8 ?_)
 intro j g ae ak A n
 have L:=n.rowLe (i:=0) rfl
 refine Ar rfl (Mz rfl (fw (vJ (G0 a)) (Ig (e:=a) (Ie rfl) e8) (fw (.slice (eO j (G0 a) 4 g) ((q7 (t6 (G0 a) b++(c::s0 (G0 a) b))) - (G0 a)) (g - (G0 a))) (II (lJ) rfl rfl e8) (Mz rfl ?_))))
 refine WL.do rfl (IY (lo:=G0 a) (k:=1) (lJ) n rfl (λ _=>gu ((n.rds (i:=0) rfl).isSome e8) e8) e8 rfl (dC n (i:=2) rfl lh) e8 (λ u hu=>cZ aP.one _ u (L5 hu)) rfl ?_)
 intro au M
 refine nt (H7 ?_)
 refine yw [8] (Ik (Ik Iw)) M ?_
 intro av o
 refine qv 0 rfl rfl (qt (v:=vJ (G0 a)) 1 rfl (λ _ _=>Ig (e:=a) (Ie rfl) e8) (qv 2 rfl rfl (qt (v:=vJ (G0 a+1)) 3 rfl (λ _ _=>Ig (e:=B5.wrap (((G0 a:Nat):Int)+1)) yk f1) (qt (v:= .slice (eO j (G0 a+1) 4 g) ((q7 (t6 (G0 a) b++(c::s0 (G0 a) b))) - (G0 a+1)) (g - (G0 a+1))) 4 rfl (λ _ _=>II (lJ) rfl rfl e8) (qv 5 rfl rfl (qt (v:=vJ (G0 a)) 6 rfl (λ _ _=>Ig (e:=a) (Ie rfl) e8) (qt (v:= .slice (eO f (G0 a) 4 d) (b.length - (G0 a)) (d - (G0 a))) 7 rfl (λ _ _=>II (lJ) rfl rfl e8) ?_)))))))
 refine qd 8 rfl (IY (lo:=G0 a+1) (k:=b.length - G0 a) (lJ) o rfl (λ _=>gu ((o.rds (i:=0) rfl).isSome e8) e8) e8 rfl (I7 (lo:=G0 a) aP.len (o.rds (i:=1) rfl) e8 e8 f5) e8 (λ u hu=>cZ aP.one _ u (L5 hu)) rfl ?_)
 intro N O
 refine⟨.inl e9, ?_⟩
 refine qn (Ib (sr (Mz rfl (An rfl (rt (tR (rs ?_)))))))
 have P:Own w D N [row j (q7 (t6 (G0 a) b++(c::s0 (G0 a) b))) g (q2 aP.cells (t6 (G0 a) b++(c::s0 (G0 a) b))) 99 4,row f b.length d (q2 aP.cells b) 99 4,lN C 1 (q2 aP.cells ([c])) 99 4]:=O.rowPart e8 (tF (l:=b) (k2:=b.length - G0 a) aP.len e8 A rfl rfl e8)
 have Q:=P.pk [0]
 obtain rfl:=zj hr zq1
 exact⟨j,g,rfl,Q,e8⟩
 refine jF (dF z) (sk (sr ?_))
 have B:q7 (t6 (G0 a) b++(c::s0 (G0 a) b))=b.length+1:=by simp only [o0,m8,r5,m9]; omega
 obtain⟨af,p,R⟩:=H.rowFull
 refine Mz rfl (Mz rfl (Mz rfl (fw (vJ (b.length+1)) (Ig (e:=B5.wrap ((b.length:Int)+1)) yk f1) (fw (.slice f (q7 (t6 (G0 a) b++(c::s0 (G0 a) b))) d) (Yl.to (I4 (lJ) rfl rfl e8) (congrArg (λ q=>Value.slice f q d) B.symm)) (An rfl (H7 (sr (Mz rfl (Mz rfl (fw (vJ (G0 a)) (Ig (e:=a) (Ie rfl) e8) (Mz rfl (fw (vJ (G0 a+1)) (Ig (e:=B5.wrap (((G0 a:Nat):Int)+1)) yk f1) (fw (.slice (eO f (G0 a+1) 4 d) ((q7 (t6 (G0 a) b++(c::s0 (G0 a) b))) - (G0 a+1)) (d - (G0 a+1))) (II (lJ) rfl rfl e8) ?_)))))))))))))
 have r:=R.pb [0]
 refine fw (.bool false) (Ji (lo:=G0 a+1) (run_callFunc_extern Tryz.func135 e9 e9 e9 (e:=Extern.SlicesOverlaps.overlaps #[77,77] #[4]) e9) P8 Tryz.sizeOf99 r f5 e8 rfl (gu ((r.rds (i:=1) rfl).isSome e8) e8)) (Kz (.bool true) (nt (jt (H7 ?_))))
 refine oO [8] (Ik (Ik Iw)) r ?_
 intro ax S
 refine qv 0 rfl rfl (qt (v:=vJ (G0 a)) 1 rfl (λ _ _=>Ig (e:=a) (Ie rfl) e8) (qv 2 rfl rfl (qt (v:=vJ (G0 a+1)) 3 rfl (λ _ _=>Ig (e:=B5.wrap (((G0 a:Nat):Int)+1)) yk f1) (qt (v:= .slice (eO f (G0 a+1) 4 d) ((q7 (t6 (G0 a) b++(c::s0 (G0 a) b))) - (G0 a+1)) (d - (G0 a+1))) 4 rfl (λ _ _=>II (lJ) rfl rfl e8) (qv 5 rfl rfl (qt (v:=vJ (G0 a)) 6 rfl (λ _ _=>Ig (e:=a) (Ie rfl) e8) (qt (v:= .slice (eO f (G0 a) 4 d) ((q7 (t6 (G0 a) b++(c::s0 (G0 a) b))) - (G0 a)) (d - (G0 a))) 7 rfl (λ _ _=>II (lJ) rfl rfl e8) ?_)))))))
 have t:=S.pb [0]
 refine qd 8 rfl (IY (lo:=G0 a+1) (k:=b.length - G0 a) (lJ) t rfl (λ _=>gu ((t.rds (i:=0) rfl).isSome e8) e8) e8 rfl (bO.cut (lo:=G0 a) (hi:=q7 (t6 (G0 a) b++(c::s0 (G0 a) b))) (t.rds (i:=0) rfl) e8 e8 e8) e8 (λ u hu=>cZ aP.one _ u (by rw [tH aP.len e8 rfl e8] at hu; exact hu)) rfl ?_)
 intro ay x
 refine⟨.inl e9, ?_⟩
 refine qn (Ib (sr (Mz rfl (fw (vJ (G0 a)) (Ig (e:=a) (Ie rfl) e8) (fw (.slice (eO f (G0 a) 4 d) ((q7 (t6 (G0 a) b++(c::s0 (G0 a) b))) - (G0 a)) (d - (G0 a))) (II (lJ) rfl rfl e8) (Mz rfl ?_))))))
 refine WL.do rfl (IY (lo:=G0 a) (k:=1) (lJ) x rfl (λ _=>gu ((x.rds (i:=0) rfl).isSome e8) e8) e8 rfl (dC x (i:=1) rfl lh) e8 (λ u hu=>cZ aP.one _ u (L5 hu)) rfl ?_)
 intro T U
 refine ns (Mz rfl (An rfl (rt (tR (rs ?_)))))
 have V:Own w D T [row f (q7 (t6 (G0 a) b++(c::s0 (G0 a) b))) d (q2 aP.cells (t6 (G0 a) b++(c::s0 (G0 a) b))) 99 4,lN C 1 (q2 aP.cells ([c])) 99 4]:=U.rowPart e8 (tJ (l:=b) (m:=(q7 (t6 (G0 a) b++(c::s0 (G0 a) b))) - G0 a) (k2:=b.length - G0 a) aP.len e8 (by rw [p]; exact P7 4 e8) rfl rfl e8 e8)
 have W:=V.pk [0]
 obtain rfl:=zj hr zq1
 exact⟨f,d,rfl,W,e8⟩
def ru (a:List bf):(List bf):=
 a
theorem qm (w D e g x a f) (H:Own w D w []) (d:Ro w D λ w'=>bO w' 2 e g (q2 bf.cells a)) (h:g=a.length) (y:a.length *32<=211106232532992) (hr:ru a=f):
    Calls u9 35 #[.slice e g x] w (dI λ v w'=> ∃ t u,v= .slice t f.length u/\Own w D w' [row t f.length u (q2 bf.cells f) 60 2]):=by
 subst h
 refine cb Tryz.func35 ?_
 refine sr (An rfl (H7 (sr (Mz rfl (fw (.bool (Option.isNone e)) (Jj P6 rfl rfl) (nt ?_))))))
 rcases Lr (Option.isNone e) with b | b
 obtain rfl:a= []:=rH (enc:=bf.cells) (H.ro d) b
 refine jT b (sr (An rfl (rt (tR (rs ?_)))))
 have i:Own w D w [row none 0 0 (q2 bf.cells []) 60 2]:=H.free (bZ 60 2)
 have j:=i.pf []
 obtain rfl:_=[]:=zj hr rfl
 exact⟨none,0,rfl,j⟩
 refine jF b (sk (sr ?_))
 refine jN [] 60 2 0 H ?_
 intro l n c
 replace c:Own w D n [row l 0 0 (q2 bf.cells []) 60 2]:=c
 refine Mz rfl ?_
 refine WL.do rfl (IC (k:=0) (m:=a.length) (ko) c rfl rfl (eY P6 (c.ro d) (cZ bf.one a)) rfl e8 (s:=a.length) e8 rfl ?_)
 intro o p z q
 refine An rfl (rt (rs ?_))
 have r:=q.pf []
 obtain rfl:_=a:=zj hr rfl
 exact⟨o,p,rfl,r⟩
def p8 (a:List aR):(List aR):=
 a
theorem oW (w D e g x a f) (H:Own w D w []) (d:Ro w D λ w'=>bO w' 3 e g (q2 aR.cells a)) (h:g=a.length) (y:a.length *48<=211106232532992) (hr:p8 a=f):
    Calls u9 178 #[.slice e g x] w (dI λ v w'=> ∃ t u,v= .slice t f.length u/\Own w D w' [row t f.length u (q2 aR.cells f) 70 3]):=by
 subst h
 refine cb Tryz.func178 ?_
 refine sr (An rfl (H7 (sr (Mz rfl (fw (.bool (Option.isNone e)) (Jj G4 rfl rfl) (nt ?_))))))
 rcases Lr (Option.isNone e) with b | b
 obtain rfl:a= []:=rH (enc:=aR.cells) (H.ro d) b
 refine jT b (sr (An rfl (rt (tR (rs ?_)))))
 have i:Own w D w [row none 0 0 (q2 aR.cells []) 70 3]:=H.free (bZ 70 3)
 have j:=i.pf []
 obtain rfl:_=[]:=zj hr rfl
 exact⟨none,0,rfl,j⟩
 refine jF b (sk (sr ?_))
 refine jN [] 70 3 0 H ?_
 intro l n c
 replace c:Own w D n [row l 0 0 (q2 aR.cells []) 70 3]:=c
 refine Mz rfl ?_
 refine WL.do rfl (IC (k:=0) (m:=a.length) (uw) c rfl rfl (eY G4 (c.ro d) (cZ aR.one a)) rfl e8 (s:=a.length) e8 rfl ?_)
 intro o p z q
 refine An rfl (rt (rs ?_))
 have r:=q.pf []
 obtain rfl:_=a:=zj hr rfl
 exact⟨o,p,rfl,r⟩
def sI (a:List Nat):(List Nat):=
 a
theorem rD (w D e g x a f) (H:Own w D w []) (d:Ro w D λ w'=>bO w' 1 e g (q2 (eN .u64) a)) (h:g=a.length) (y:a.length *8<=211106232532992) (hr:sI a=f):
    Calls u9 34 #[.slice e g x] w (dI λ v w'=> ∃ t u,v= .slice t f.length u/\Own w D w' [row t f.length u (q2 (eN .u64) f) 32 1]):=by
 subst h
 refine cb Tryz.func34 ?_
 refine sr (An rfl (H7 (sr (Mz rfl (fw (.bool (Option.isNone e)) (Jj O4 rfl rfl) (nt ?_))))))
 rcases Lr (Option.isNone e) with b | b
 obtain rfl:a= []:=rH (enc:=(eN .u64)) (H.ro d) b
 refine jT b (sr (An rfl (rt (tR (rs ?_)))))
 have i:Own w D w [row none 0 0 (q2 (eN .u64) []) 32 1]:=H.free (bZ 32 1)
 have j:=i.pf []
 obtain rfl:_=[]:=zj hr rfl
 exact⟨none,0,rfl,j⟩
 refine jF b (sk (sr ?_))
 refine jN [] 32 1 0 H ?_
 intro l n c
 replace c:Own w D n [row l 0 0 (q2 (eN .u64) []) 32 1]:=c
 refine Mz rfl ?_
 refine WL.do rfl (IC (k:=0) (m:=a.length) (iH) c rfl rfl (eY O4 (c.ro d) (cZ mi a)) rfl e8 (s:=a.length) e8 rfl ?_)
 intro o p z q
 refine An rfl (rt (rs ?_))
 have r:=q.pf []
 obtain rfl:_=a:=zj hr rfl
 exact⟨o,p,rfl,r⟩
def qC (a:List bM):(List bM):=
 a
theorem pO (w D e g x a f) (H:Own w D w []) (d:Ro w D λ w'=>bO w' 2 e g (q2 bM.cells a)) (h:g=a.length) (y:a.length *24<=211106232532992) (hr:qC a=f):
    Calls u9 33 #[.slice e g x] w (dI λ v w'=> ∃ t u,v= .slice t f.length u/\Own w D w' [row t f.length u (q2 bM.cells f) 83 2]):=by
 subst h
 refine cb Tryz.func33 ?_
 refine sr (An rfl (H7 (sr (Mz rfl (fw (.bool (Option.isNone e)) (Jj P9 rfl rfl) (nt ?_))))))
 rcases Lr (Option.isNone e) with b | b
 obtain rfl:a= []:=rH (enc:=bM.cells) (H.ro d) b
 refine jT b (sr (An rfl (rt (tR (rs ?_)))))
 have i:Own w D w [row none 0 0 (q2 bM.cells []) 83 2]:=H.free (bZ 83 2)
 have j:=i.pf []
 obtain rfl:_=[]:=zj hr rfl
 exact⟨none,0,rfl,j⟩
 refine jF b (sk (sr ?_))
 refine jN [] 83 2 0 H ?_
 intro l n c
 replace c:Own w D n [row l 0 0 (q2 bM.cells []) 83 2]:=c
 refine Mz rfl ?_
 refine WL.do rfl (IC (k:=0) (m:=a.length) (tL) c rfl rfl (eY P9 (c.ro d) (cZ bM.one a)) rfl e8 (s:=a.length) e8 rfl ?_)
 intro o p z q
 refine An rfl (rt (rs ?_))
 have r:=q.pf []
 obtain rfl:_=a:=zj hr rfl
 exact⟨o,p,rfl,r⟩
def sJ (a:List aX):(List aX):=
 a
theorem iK (w D e g x a f) (H:Own w D w []) (d:Ro w D λ w'=>bO w' 6 e g (q2 aX.cells a)) (h:g=a.length) (y:a.length *80<=211106232532992) (hr:sJ a=f):
    Calls u9 36 #[.slice e g x] w (dI λ v w'=> ∃ t u,v= .slice t f.length u/\Own w D w' [row t f.length u (q2 aX.cells f) 68 6]):=by
 subst h
 refine cb Tryz.func36 ?_
 refine sr (An rfl (H7 (sr (Mz rfl (fw (.bool (Option.isNone e)) (Jj Q0 rfl rfl) (nt ?_))))))
 rcases Lr (Option.isNone e) with b | b
 obtain rfl:a= []:=rH (enc:=aX.cells) (H.ro d) b
 refine jT b (sr (An rfl (rt (tR (rs ?_)))))
 have i:Own w D w [row none 0 0 (q2 aX.cells []) 68 6]:=H.free (bZ 68 6)
 have j:=i.pf []
 obtain rfl:_=[]:=zj hr rfl
 exact⟨none,0,rfl,j⟩
 refine jF b (sk (sr ?_))
 refine jN [] 68 6 0 H ?_
 intro l n c
 replace c:Own w D n [row l 0 0 (q2 aX.cells []) 68 6]:=c
 refine Mz rfl ?_
 refine WL.do rfl (IC (k:=0) (m:=a.length) (nN) c rfl rfl (eY Q0 (c.ro d) (cZ aX.one a)) rfl e8 (s:=a.length) e8 rfl ?_)
 intro o p z q
 refine An rfl (rt (rs ?_))
 have r:=q.pf []
 obtain rfl:_=a:=zj hr rfl
 exact⟨o,p,rfl,r⟩
end
section
open Go.RowKit
theorem zw (d:List bf) (i j:Int) (h:0<=i/\i<=j):lu d i j=List.take (Int.toNat i) d++List.drop (Int.toNat j) d:=by
 unfold lu
 by_cases c:i=j
 . rw [ip c,c,List.take_append_drop]
 . rw [iN c]
theorem zx (w D A n c d l i j k) (x:bf) (H:Own w D w [row A n c (List.flatMap bf.cells d) 60 2,sepL (List.flatMap IK d)]) (hn:n=l.length) (hd:List.map bf.abs d=l) (hl:l.length<=1000000) (hk:i=((k:Nat):Int)) (hj:j=i+1) (hx:d[k]? =some x):
    Calls Tryz.prog 85 #[.slice A n c,vI i,vI j] w (dI λ v w'=> ∃ B b,v= .slice B (List.length (List.take k l++List.drop (k+1) l)) b/\
      Own w D w' (row B (List.length (List.take k l++List.drop (k+1) l)) b (List.flatMap bf.cells (List.take k d++List.drop (k+1) d)) 60 2::sepL (List.flatMap IK (List.take k d++List.drop (k+1) d))::IK x)):=by
 obtain⟨a,e,ro,bk,rr⟩:=IE H
 have hdl:d.length=l.length:=by rw [<- hd,List.length_map]
 have hkl:=(List.getElem?_eq_some_iff.1 hx).1
 have f:Int.toNat i=k:=e8
 have g:Int.toNat j=k+1:=e8
 refine(pX w a A n c d i j _ e e8 e8 e8 (zw d i j e8)).mono ?_
 rintro _ w' ⟨v,rfl,B,b,rfl,HQ,_⟩
 rw [f,g,aY (nU (i:=k) (j:=k+1) hd)] at HQ ⊢
 have h:=(bk _ _ HQ).perm (List.Perm.swap _ _ _)
 have m:=Ba hx h
 exact⟨_,rfl,B,b,rfl,m.perm (List.perm_append_comm (l₁:=sepL (List.flatMap IK (List.take k d++List.drop (k+1) d))::IK x) (l₂:= [_]))⟩
theorem zy (d:List bf) (i:Int) (x:bf) (h:0<=i/\i<=(d.length:Int)):lv d i x=List.take (Int.toNat i) d++(x::List.drop (Int.toNat i) d):=by
 unfold lv
 by_cases c:((Int.toNat i:Nat):Int)=(d.length:Int)
 . rw [ip c,List.take_of_length_le e8,List.drop_eq_nil_of_le e8]
 . rw [iN c]
theorem zz (w D A n c d l i k a) (y:bf) (z:dA) (H:Own w D w (row A n c (List.flatMap bf.cells d) 60 2::lN a 1 (List.flatMap bf.cells [y]) 60 2::sepL (List.flatMap IK d)::IK y)) (hn:n=l.length) (hd:List.map bf.abs d=l) (hz:bf.abs y=z) (hl:l.length<=1000000) (hk:i=((k:Nat):Int)) (hi:k<=l.length):
    Calls Tryz.prog 182 #[.slice A n c,vI i, .slice a 1 1] w (dI λ v w'=> ∃ B b,v= .slice B (List.length (List.take k l++(z::List.drop k l))) b/\
      Own w D w' [row B (List.length (List.take k l++(z::List.drop k l))) b (List.flatMap bf.cells (List.take k d++(y::List.drop k d))) 60 2,sepL (List.flatMap IK (List.take k d++(y::List.drop k d)))]):=by
 obtain⟨e,f,ro,bk,rr⟩:=IX H
 have hdl:d.length=l.length:=by rw [<- hd,List.length_map]
 have g:Int.toNat i=k:=e8
 refine(pY w e A n c d i a y _ f e8 e8 e8 (zy d i y e8)).mono ?_
 rintro _ w' ⟨v,rfl,B,b,rfl,HQ,_⟩
 rw [g,aY (jJ (i:=k) hd hz)] at HQ ⊢
 have h:=bk _ _ HQ
 have j:Own w D w' (sepL (List.flatMap IK d)::(IK y++ [row B (List.length (List.take k l++(z::List.drop k l))) b (List.flatMap bf.cells (List.take k d++(y::List.drop k d))) 60 2])):=h.perm (List.perm_append_comm (l₁:= [_]) (l₂:=sepL (List.flatMap IK d)::IK y))
 exact⟨_,rfl,B,b,rfl,(Bb j).perm (List.Perm.swap _ _ _)⟩
theorem xR (d:List aP) (i j:Int) (h:0<=i/\i<=j):jZ d i j=List.take (Int.toNat i) d++List.drop (Int.toNat j) d:=by
 unfold jZ
 by_cases c:i=j
 . rw [ip c,c,List.take_append_drop]
 . rw [iN c]
theorem uf (w D A n c d l i j k) (x:aP) (H:Own w D w [row A n c (List.flatMap aP.cells d) 99 4,sepL (List.flatMap IA d)]) (hn:n=l.length) (hd:List.map aP.abs d=l) (hl:l.length<=1000000) (hk:i=((k:Nat):Int)) (hj:j=i+1) (hx:d[k]? =some x):
    Calls Tryz.prog 142 #[.slice A n c,vI i,vI j] w (dI λ v w'=> ∃ B b,v= .slice B (List.length (List.take k l++List.drop (k+1) l)) b/\
      Own w D w' (row B (List.length (List.take k l++List.drop (k+1) l)) b (List.flatMap aP.cells (List.take k d++List.drop (k+1) d)) 99 4::sepL (List.flatMap IA (List.take k d++List.drop (k+1) d))::IA x)):=by
 obtain⟨a,e,ro,bk,rr⟩:=IE H
 have hdl:d.length=l.length:=by rw [<- hd,List.length_map]
 have hkl:=(List.getElem?_eq_some_iff.1 hx).1
 have f:Int.toNat i=k:=e8
 have g:Int.toNat j=k+1:=e8
 refine(oz w a A n c d i j _ e e8 e8 e8 (xR d i j e8)).mono ?_
 rintro _ w' ⟨v,rfl,B,b,rfl,HQ,_⟩
 rw [f,g,aY (nU (i:=k) (j:=k+1) hd)] at HQ ⊢
 have h:=(bk _ _ HQ).perm (List.Perm.swap _ _ _)
 have m:=Ba hx h
 exact⟨_,rfl,B,b,rfl,m.perm (List.perm_append_comm (l₁:=sepL (List.flatMap IA (List.take k d++List.drop (k+1) d))::IA x) (l₂:= [_]))⟩
theorem xS (d:List aP) (i:Int) (x:aP) (h:0<=i/\i<=(d.length:Int)):j3 d i x=List.take (Int.toNat i) d++(x::List.drop (Int.toNat i) d):=by
 unfold j3
 by_cases c:((Int.toNat i:Nat):Int)=(d.length:Int)
 . rw [ip c,List.take_of_length_le e8,List.drop_eq_nil_of_le e8]
 . rw [iN c]
theorem xU (w D A n c d l i k a) (y:aP) (z:bB) (H:Own w D w (row A n c (List.flatMap aP.cells d) 99 4::lN a 1 (List.flatMap aP.cells [y]) 99 4::sepL (List.flatMap IA d)::IA y)) (hn:n=l.length) (hd:List.map aP.abs d=l) (hz:aP.abs y=z) (hl:l.length<=1000000) (hk:i=((k:Nat):Int)) (hi:k<=l.length):
    Calls Tryz.prog 82 #[.slice A n c,vI i, .slice a 1 1] w (dI λ v w'=> ∃ B b,v= .slice B (List.length (List.take k l++(z::List.drop k l))) b/\
      Own w D w' [row B (List.length (List.take k l++(z::List.drop k l))) b (List.flatMap aP.cells (List.take k d++(y::List.drop k d))) 99 4,sepL (List.flatMap IA (List.take k d++(y::List.drop k d)))]):=by
 obtain⟨e,f,ro,bk,rr⟩:=IX H
 have hdl:d.length=l.length:=by rw [<- hd,List.length_map]
 have g:Int.toNat i=k:=e8
 refine(oC w e A n c d i a y _ f e8 e8 e8 (xS d i y e8)).mono ?_
 rintro _ w' ⟨v,rfl,B,b,rfl,HQ,_⟩
 rw [g,aY (jJ (i:=k) hd hz)] at HQ ⊢
 have h:=bk _ _ HQ
 have j:Own w D w' (sepL (List.flatMap IA d)::(IA y++ [row B (List.length (List.take k l++(z::List.drop k l))) b (List.flatMap aP.cells (List.take k d++(y::List.drop k d))) 99 4])):=h.perm (List.perm_append_comm (l₁:= [_]) (l₂:=sepL (List.flatMap IA d)::IA y))
 exact⟨_,rfl,B,b,rfl,(Bb j).perm (List.Perm.swap _ _ _)⟩
theorem CS (w D A n c d l k) (H:Own w D w [row A n c (List.flatMap aR.cells d) 70 3,sepL (List.flatMap IJ d)]) (hn:n=l.length) (hd:List.map aR.abs d=l) (hl:l.length<=1000000) (hk:k<=l.length) (hc:n<=c):
    Calls Tryz.prog 178 #[.slice (eO A k 3 c) (n - k) (c - k)] w (dI λ v w'=> ∃ B b,v= .slice B (List.length (List.drop k l)) b/\
      Own w D w' [row B (List.length (List.drop k l)) b (List.flatMap aR.cells (List.drop k d)) 70 3,sepL (List.flatMap IJ (List.drop k d))]):=by
 obtain⟨a,e,ro,bk,rr⟩:=Ia H
 have hdl:d.length=l.length:=by rw [<- hd,List.length_map]
 have f:List.length (List.drop k d)=List.length (List.drop k l):=by rw [List.length_drop,List.length_drop,hdl]
 refine(oW w a (eO A k 3 c) (n - k) (c - k) (List.drop k d) (List.drop k d) e (λ g h=>I7 (lo:=k) aR.len ((rr _ 0 _ rfl bP) g h) e8 e8 f5) (by rw [List.length_drop]; omega) (by rw [List.length_drop]; omega) rfl).mono ?_
 rintro _ w' ⟨v,rfl,B,b,rfl,HQ⟩
 rw [f] at HQ ⊢
 have m:=((bk _ _ HQ).pick [2,0] f5 rfl).sepDel (i:=0) (j:=k) (Lm k)
 exact⟨_,rfl,B,b,rfl,m.pk [1,0]⟩
end
section
open Go.RowKit
section
variable {P:Program} {n:Nat} {F:List (Nat × Value)} {w0 w:World} {D:Nat->Prop} {L:List HP} {ty:TypeId} {v:Value} {K:Value->World->Prop}
theorem J9 {rx:Operand} {nm:String} {f:FuncId} {args:List Operand} {vals:List Value} {t:TypeId} {u:Value} {tys:Array TypeId} {R:Value->World->Prop} (hm:∀ (b:Array Value) W,(callMethod (.iface t u) nm b).run P W= .ok (.enter f (#[u]++b)) W) (hx:ev F rx=some (.iface t u)) (ha:vM F args=some vals) (hc:Calls P f (#[u]++vals.toArray) w (dI R))
    (h:∀ v w',R v w'->K v w'):Do P n F w (.call ⟨.invoke rx nm,args.toArray,tys⟩) ty K:=λ a hag o c g next Q hn=>by
  have e:(execOp a.eval o).run P w= .ok (.enter f (#[u]++vals.toArray)) w:=by
    unfold execOp
    rw [c]
    have ex:(#[Value.iface t u]++vals.toArray).extract 1 (#[Value.iface t u]++vals.toArray).size=vals.toArray:=by simp
    have d:(#[Value.iface t u]++vals.toArray)[0]? =some (Value.iface t u):=by simp
    simp only [resolve,hag.eval hx,List.map_toArray,hag.evals ha,Sem.run_bind,Sem.run_pure,Result.andThen_ok,invoke,d,ex,hm]
  rw [e,Oper.upon_enter]
  exact hc.mono λ e w' hR=>by
    obtain⟨v,rfl,hk⟩:=hR
    exact hn _ _ (h _ _ hk)
end
theorem Fq (g:Nat) (b:Array Value) (W:World):(callMethod (.iface 24 (.pointer (some ⟨g,0,none⟩))) "Get" b).run Tryz.prog W= .ok (.enter 252 (#[.pointer (some ⟨g,0,none⟩)]++b)) W:=by kernel_rfl
theorem EB (g:Nat) (b:Array Value) (W:World):(callMethod (.iface 24 (.pointer (some ⟨g,0,none⟩))) "Scan" b).run Tryz.prog W= .ok (.enter 253 (#[.pointer (some ⟨g,0,none⟩)]++b)) W:=by kernel_rfl
end
open IntKind renaming u64->H3
open List renaming not_mem_nil->v1
open Sum renaming inl->y0,inr->y3
open _root_.Go.Proofs.Tryz renaming isAgg33->Q2,isAgg34->D3,isAgg44->E3,isAgg60->Q1,isAgg68->C4,isAgg77->Q6,isAgg9->y4,isAgg99->Q4,sizeOf35->Q3,sizeOf41->E7,sizeOf60->E0,sizeOf68->C2,sizeOf99->Q5,underlying32->F0,underlying37->v8,underlying9->v2
section
open Go.RowKit
structure ax where
 aa:bA
 ag:Ll bB
abbrev kB (a:ax)(A:Option Addr)(n c:Nat)(B:Option Addr)(k d:Nat)(C:Option Addr)(m e l y:Nat)(E:Option Addr)(i u z:Nat):List Value:=[.int .i64 a.aa.bC, .int .u64 ((a.aa.aQ:Nat):Int), .int .u64 ((a.aa.bq:Nat):Int), .int .u64 ((a.aa.aJ:Nat):Int), .int .u64 ((a.aa.aD:Nat):Int), .slice A n c, .slice B k d, .slice C m e, .int .u64 ((l:Nat):Int), .int .u64 ((a.aa.aI:Nat):Int), .string ⟨v0 a.aa.aH.aN⟩, .string ⟨v0 a.aa.aH.aT⟩, .int .u64 ((a.aa.aC.aD:Nat):Int), .int .u64 ((a.aa.aC.bv:Nat):Int), .int .u64 ((a.aa.aC.di:Nat):Int), .string ⟨v0 a.aa.aC.aA.aN⟩, .string ⟨v0 a.aa.aC.aA.aT⟩, .iface 24 (.pointer (some ⟨y,0,none⟩)), .slice E i u, .pointer (some ⟨z,0,none⟩), .pointer none]
instance:Inhabited ax:=⟨⟨default,default⟩⟩
theorem sK:Elem u9 50 47 21 232:=l6 (z:= .agg (iy 0 0 0 0 0 0 0 0 0 0 0 0 0 0 0 false [] [] none 0 0 none 0 0 none 0 0).toArray) Tryz.underlying50 e9 rfl f5
structure oD where
 bD:Sv bV
 aL:Sv aX
 bU:Bool
def oD.cells (x:oD):List Value:= [.slice x.bD.A x.bD.ls.length x.bD.c, .slice x.aL.A x.aL.ls.length x.aL.c, .bool x.bU]
instance:Bk oD:=⟨λ x _=>bk x.bD+(bk x.aL+(bk x.bU+(0)))⟩
theorem oD.len:∀ x,(oD.cells x).length=3:=λ _=>rfl
theorem oD.one:∀ x, ∀ u ∈ oD.cells x,u.oneCell'=true:=λ x u hu=>by
 simp only [oD.cells,u3,v1,or_false] at hu
 rcases hu with rfl | rfl | rfl <;> rfl
def Lc (w:World) (x:oD):Prop:=(mM w 21 232 bV.cells (JV w) x.bD)/\(mM w 6 80 aX.cells (JM w) x.aL)/\(True)
instance:Inhabited oD:=⟨⟨default,default,default⟩⟩
structure dH where
 bD:Ll dL
 aL:Ll aX
 bU:Bool
instance:Inhabited dH:=⟨⟨default,default,default⟩⟩
def oD.abs (x:oD):dH:=⟨⟨s1 bV.abs x.bD.ls⟩,⟨x.aL.ls⟩,x.bU⟩
def K8 (x:oD):List HP:= [row x.bD.A x.bD.ls.length x.bD.c (q2 bV.cells x.bD.ls) 47 21,row x.aL.A x.aL.ls.length x.aL.c (q2 aX.cells x.aL.ls) 68 6,sepL (q2 IR x.bD.ls)]
theorem CU:Elem u9 90 216 2 16:=l6 (z:= .agg #[.int .u64 0, .bool false]) Tryz.underlying90 e9 rfl f5
structure dB where
 au:Nat
 dE:Bool
def dB.cells (x:dB):List Value:= [.int .u64 ((x.au:Nat):Int), .bool x.dE]
instance:Bk dB:=⟨λ x _=>bk x.au+(bk x.dE+(0))⟩
theorem dB.len:∀ x,(dB.cells x).length=2:=λ _=>rfl
theorem dB.one:∀ x, ∀ u ∈ dB.cells x,u.oneCell'=true:=λ x u hu=>by
 simp only [dB.cells,u3,v1,or_false] at hu
 rcases hu with rfl | rfl <;> rfl
def Ld (w:World) (x:dB):Prop:=(x.au<=18446744073709551615)/\(True)
instance:Inhabited dB:=⟨⟨default,default⟩⟩
structure bI where
 av:dH
 bE:Ll dB
instance:Inhabited bI:=⟨⟨default,default⟩⟩
def fC (l1:List bM):List bM->Nat->Unit ⊕ Bool
  | [],b=>y0 ()
  | c::d,b=>bnd (y2 l1 b default) λ a=>if(c.aN=a.aN)/\(c.kM=a.kM) then fC l1 d (b+1) else y3 (false)
def ll (a:List bM) (l1:List bM):Bool:=
 if(a.length:Int)=(l1.length:Int) then lp (fC l1 a 0) λ _=>true else false
theorem pQ (w D r B C b s E F l1 P) (H:Own w D w []) (n:Ro w D λ w'=>bO w' 2 r B (q2 bM.cells b)) (G:B=b.length) (R:b.length<=9223372036854775807) (t:Ro w D λ w'=>bO w' 2 s E (q2 bM.cells l1)) (I:E=l1.length) (S:l1.length<=9223372036854775807) (hr:ll b l1=P):
    Calls u9 52 #[.slice r B C, .slice s E F] w (dI λ v w'=>v= .bool P/\Own w D w' []):=by
 unfold ll at hr
 subst G I
 refine cb Tryz.func52 ?_
 refine sr (An rfl (H7 (sr (Mz rfl (Kz (vJ b.length) (Mz rfl (Kz (vJ l1.length) (fw (.bool (decide (¬ ((b.length:Int)=(l1.length:Int))))) (Iu (e:= !(decide ((b.length:Int)=(l1.length:Int)))) yk decide_not.symm) (nt ?_)))))))))
 by_cases f:(b.length:Int)=(l1.length:Int)
 refine jF (dF (Lp f)) (sk (H7 (sr (Mz rfl (Kz (vJ b.length) (Mn rfl (bo ?_)))))))
 have J:=H.pk []
 obtain⟨K,g⟩:=mI λ (a:Nat) w'=>Own w D w' []/\a<=b.length/\fC l1 b 0=fC l1 (s0 a b) a
 refine y6 (λ i:Nat=> [(4, .bool false),(13,vJ i),(12,vJ b.length),(0, .slice r b.length C),(1, .slice s l1.length F)]) K (λ i=>b.length - i) 0 ⟨rfl,rfl,rfl,rfl,rfl,trivial⟩ (g.2 ⟨J,e8,rfl⟩) ?_
 rintro a T x
 show Wp _ _ _ [(4, .bool false),(13,vJ a),(12,vJ b.length),(0, .slice r b.length C),(1, .slice s l1.length F)] _ _
 obtain⟨o,Q,h⟩:=g.1 x
 refine sr (Kz (.bool (decide ((a:Int) < (b.length:Int)))) (nt (H7 ?_)))
 by_cases y:(a:Int) < (b.length:Int)
 obtain⟨c,l⟩:=dG (ls:=b) (i:=a) bM.len f5 (o.ro n) f2
 have m:=drop_at l
 refine jT (dT y) (sk (H7 (bo (sr (Mz rfl (An rfl (H7 ?_)))))))
 refine Ce [] (Ik (bH.block (Ik (Ik (bH.block (Ik Iw)))))) o ?_
 intro U z
 refine qv 0 rfl rfl (qv 1 rfl rfl (qt (v:= .pointer (some ⟨ab r,ao r+a *2,none⟩)) 2 rfl (λ _ ⟨_,p⟩=>Im (tL) rfl rfl ((p.ro n).addr (i:=a) e8) e8) (qt (v:= .agg (bM.cells c).toArray) 3 rfl (λ _ ⟨_,p⟩=>Il rfl (Io (cs:=(bM.cells c)) Tryz.isAgg83 Tryz.sizeOf83 ((p.ro n).elem bM.len l f5))) (qv 4 rfl rfl (qv 5 rfl rfl ?_)))))
 obtain⟨d,j⟩:=mY (ls:=l1) (i:=a) f2
 refine qt (v:= .pointer (some ⟨ab s,ao s+a *2,none⟩)) 6 rfl (λ _ ⟨_,p⟩=>Im (tL) rfl rfl ((p.ro t).addr (i:=a) e8) e8) (qt (v:= .agg (bM.cells d).toArray) 7 rfl (λ _ ⟨_,p⟩=>Il rfl (Io (cs:=(bM.cells d)) Tryz.isAgg83 Tryz.sizeOf83 ((p.ro t).elem bM.len j f5))) (qt (v:= .bool (decide (¬ ((c.aN=d.aN)/\(c.kM=d.kM))))) 8 rfl (λ _ _=>Iu (e:= !(decide ((c.aN=d.aN)/\(c.kM=d.kM)))) (Jd rfl rfl e9 rfl (fU.struct Tryz.underlying83 e9 (I6 (fq.cons (u:= .string ⟨v0 c.aN⟩) (v:= .string ⟨v0 d.aN⟩) f5 (λ _=>by kernel_rfl) (λ _=>by kernel_rfl) (fU.string v2) (fq.cons (u:=vI c.kM) (v:=vI d.kM) f5 (λ _=>by kernel_rfl) (λ _=>by kernel_rfl) (fU.int v6) (fq.nil.up (Lm _)))) ((congrArg (decide (c.aN=d.aN) && ·) kN).trans fA)))) decide_not.symm) (qn (Ib ?_))))
 by_cases k:(c.aN=d.aN)/\(c.kM=d.kM)
 refine jF (dF (Lp k)) (IG (bN (Ib (H8 (fw (vJ (a+1)) (Ig (e:=B5.wrap ((a:Int)+1)) yk f1) (Mz rfl (B6 ?_)))))))
 have L:=z.pk []
 exact Iq (a+1) ⟨rfl,rfl,rfl,rfl,rfl,trivial⟩ (g.2 ⟨L,e8,et (h) (et (congrArg (λ q=>fC l1 q a) m) (et (ae (bu j)) (ip k)))⟩) (by show b.length - (a+1) < b.length - a; omega)
 refine jT (dT k) (sr (An rfl (rt (bR (tR (tR (bR (tR (rs ?_)))))))))
 have M:=z.pk []
 obtain rfl:_=false:=zj hr (et (ip f) (iG (et (h) (et (congrArg (λ q=>fC l1 q a) m) (et (ae (bu j)) (iN k))))))
 exact⟨rfl,M⟩
 refine jF (dF y) (B7 (Ip ?_))
 have A:fC l1 b 0=y0 ():=et (h) (et (congrArg (λ q=>fC l1 q a) (eX (ls:=b) (i:=a) e8)) rfl)
 refine Ip (Iz (Ib (sr (An rfl (rt (rs ?_))))))
 have N:=o.pk []
 obtain rfl:_=true:=zj hr (et (ip f) (lw A))
 exact⟨rfl,N⟩
 refine jT (dT f) (sr (An rfl (rt (tR (rs ?_)))))
 have O:=H.pk []
 obtain rfl:=zj hr zq1
 exact⟨rfl,O⟩
def gB (l1:List Nat):List Nat->Nat->Unit ⊕ Bool
  | [],a=>y0 ()
  | c::d,a=>bnd (y2 l1 a default) λ b=>if(c:Int)=(b:Int) then gB l1 d (a+1) else y3 (false)
def mf (a:List Nat) (l1:List Nat):Bool:=
 if(a.length:Int)=(l1.length:Int) then lp (gB l1 a 0) λ _=>true else false
theorem rE (w D s B C b t E F l1 P) (H:Own w D w []) (o:Ro w D λ w'=>bO w' 1 s B (q2 (eN .u64) b)) (G:B=b.length) (R:b.length<=9223372036854775807) (u:Ro w D λ w'=>bO w' 1 t E (q2 (eN .u64) l1)) (I:E=l1.length) (S:l1.length<=9223372036854775807) (hr:mf b l1=P):
    Calls u9 53 #[.slice s B C, .slice t E F] w (dI λ v w'=>v= .bool P/\Own w D w' []):=by
 unfold mf at hr
 subst G I
 refine cb Tryz.func53 ?_
 refine sr (An rfl (H7 (sr (Mz rfl (Kz (vJ b.length) (Mz rfl (Kz (vJ l1.length) (fw (.bool (decide (¬ ((b.length:Int)=(l1.length:Int))))) (Iu (e:= !(decide ((b.length:Int)=(l1.length:Int)))) yk decide_not.symm) (nt ?_)))))))))
 by_cases c:(b.length:Int)=(l1.length:Int)
 refine jF (dF (Lp c)) (sk (H7 (sr (Mz rfl (Kz (vJ b.length) (Mn rfl (bo ?_)))))))
 have J:=H.pk []
 obtain⟨K,d⟩:=mI λ (a:Nat) w'=>Own w D w' []/\a<=b.length/\gB l1 b 0=gB l1 (s0 a b) a
 refine y6 (λ i:Nat=> [(4, .bool false),(13,vJ i),(12,vJ b.length),(0, .slice s b.length C),(1, .slice t l1.length F)]) K (λ i=>b.length - i) 0 ⟨rfl,rfl,rfl,rfl,rfl,trivial⟩ (d.2 ⟨J,e8,rfl⟩) ?_
 rintro a T x
 show Wp _ _ _ [(4, .bool false),(13,vJ a),(12,vJ b.length),(0, .slice s b.length C),(1, .slice t l1.length F)] _ _
 obtain⟨p,Q,f⟩:=d.1 x
 refine sr (Kz (.bool (decide ((a:Int) < (b.length:Int)))) (nt (H7 ?_)))
 by_cases y:(a:Int) < (b.length:Int)
 obtain⟨h,m⟩:=dG (ls:=b) (i:=a) gT f5 (p.ro o) f2
 have n:=drop_at m
 refine jT (dT y) (sk (H7 (bo (sr (Mz rfl (An rfl (H7 ?_)))))))
 refine Ce [] (Ik (bH.block (Ik (Ik (bH.block (Ik Iw)))))) p ?_
 intro U z
 refine qv 0 rfl rfl (qv 1 rfl rfl (qt (v:= .pointer (some ⟨ab s,ao s+a *1,none⟩)) 2 rfl (λ _ ⟨_,r⟩=>Im (iH) rfl rfl ((r.ro o).addr (i:=a) e8) e8) (qt (v:=vU h) 3 rfl (λ _ ⟨_,r⟩=>Il rfl (bQ.one E1 (((r.ro o).elem gT m f5).at_ (k:=0) rfl))) (qv 4 rfl rfl (qv 5 rfl rfl ?_)))))
 obtain⟨j,g⟩:=mY (ls:=l1) (i:=a) f2
 refine qt (v:= .pointer (some ⟨ab t,ao t+a *1,none⟩)) 6 rfl (λ _ ⟨_,r⟩=>Im (iH) rfl rfl ((r.ro u).addr (i:=a) e8) e8) (qt (v:=vU j) 7 rfl (λ _ ⟨_,r⟩=>Il rfl (bQ.one E1 (((r.ro u).elem gT g f5).at_ (k:=0) rfl))) (qt (v:= .bool (decide (¬ ((h:Int)=(j:Int))))) 8 rfl (λ _ _=>Iu (e:= !(decide ((h:Int)=(j:Int)))) yk decide_not.symm) (qn (Ib ?_))))
 by_cases l:(h:Int)=(j:Int)
 refine jF (dF (Lp l)) (IG (bN (Ib (H8 (fw (vJ (a+1)) (Ig (e:=B5.wrap ((a:Int)+1)) yk f1) (Mz rfl (B6 ?_)))))))
 have L:=z.pk []
 exact Iq (a+1) ⟨rfl,rfl,rfl,rfl,rfl,trivial⟩ (d.2 ⟨L,e8,et (f) (et (congrArg (λ q=>gB l1 q a) n) (et (ae (bu g)) (ip l)))⟩) (by show b.length - (a+1) < b.length - a; omega)
 refine jT (dT l) (sr (An rfl (rt (bR (tR (tR (bR (tR (rs ?_)))))))))
 have M:=z.pk []
 obtain rfl:_=false:=zj hr (et (ip c) (iG (et (f) (et (congrArg (λ q=>gB l1 q a) n) (et (ae (bu g)) (iN l))))))
 exact⟨rfl,M⟩
 refine jF (dF y) (B7 (Ip ?_))
 have A:gB l1 b 0=y0 ():=et (f) (et (congrArg (λ q=>gB l1 q a) (eX (ls:=b) (i:=a) e8)) rfl)
 refine Ip (Iz (Ib (sr (An rfl (rt (rs ?_))))))
 have N:=p.pk []
 obtain rfl:_=true:=zj hr (et (ip c) (lw A))
 exact⟨rfl,N⟩
 refine jT (dT c) (sr (An rfl (rt (tR (rs ?_)))))
 have O:=H.pk []
 obtain rfl:=zj hr zq1
 exact⟨rfl,O⟩
def gF (l1:List aX):List aX->Nat->Unit ⊕ Bool
  | [],c=>y0 ()
  | b::d,c=>bnd (y2 l1 c default) λ a=>if(b.aB=a.aB)/\(b.aZ=a.aZ)/\(b.aO=a.aO)/\(b.aN=a.aN)/\(b.aT=a.aT)/\(b.bS=a.bS) then gF l1 d (c+1) else y3 (false)
def mg (a:List aX) (l1:List aX):Bool:=
 if(a.length:Int)=(l1.length:Int) then lp (gF l1 a 0) λ _=>true else false
theorem rF (w D r B C d s E F l1 P) (H:Own w D w []) (n:Ro w D λ w'=>bO w' 6 r B (q2 aX.cells d)) (G:B=d.length) (R:d.length<=9223372036854775807) (t:Ro w D λ w'=>bO w' 6 s E (q2 aX.cells l1)) (I:E=l1.length) (S:l1.length<=9223372036854775807) (hr:mg d l1=P):
    Calls u9 51 #[.slice r B C, .slice s E F] w (dI λ v w'=>v= .bool P/\Own w D w' []):=by
 unfold mg at hr
 subst G I
 refine cb Tryz.func51 ?_
 refine sr (An rfl (H7 (sr (Mz rfl (Kz (vJ d.length) (Mz rfl (Kz (vJ l1.length) (fw (.bool (decide (¬ ((d.length:Int)=(l1.length:Int))))) (Iu (e:= !(decide ((d.length:Int)=(l1.length:Int)))) yk decide_not.symm) (nt ?_)))))))))
 by_cases f:(d.length:Int)=(l1.length:Int)
 refine jF (dF (Lp f)) (sk (H7 (sr (Mz rfl (Kz (vJ d.length) (Mn rfl (bo ?_)))))))
 have J:=H.pk []
 obtain⟨K,g⟩:=mI λ (c:Nat) w'=>Own w D w' []/\c<=d.length/\gF l1 d 0=gF l1 (s0 c d) c
 refine y6 (λ i:Nat=> [(4, .bool false),(13,vJ i),(12,vJ d.length),(0, .slice r d.length C),(1, .slice s l1.length F)]) K (λ i=>d.length - i) 0 ⟨rfl,rfl,rfl,rfl,rfl,trivial⟩ (g.2 ⟨J,e8,rfl⟩) ?_
 rintro c T x
 show Wp _ _ _ [(4, .bool false),(13,vJ c),(12,vJ d.length),(0, .slice r d.length C),(1, .slice s l1.length F)] _ _
 obtain⟨o,Q,h⟩:=g.1 x
 refine sr (Kz (.bool (decide ((c:Int) < (d.length:Int)))) (nt (H7 ?_)))
 by_cases y:(c:Int) < (d.length:Int)
 obtain⟨a,l⟩:=dG (ls:=d) (i:=c) aX.len f5 (o.ro n) f2
 have m:=drop_at l
 refine jT (dT y) (sk (H7 (bo (sr (Mz rfl (An rfl (H7 ?_)))))))
 refine Ce [] (Ik (bH.block (Ik (Ik (bH.block (Ik Iw)))))) o ?_
 intro U z
 refine qv 0 rfl rfl (qv 1 rfl rfl (qt (v:= .pointer (some ⟨ab r,ao r+c *6,none⟩)) 2 rfl (λ _ ⟨_,p⟩=>Im (nN) rfl rfl ((p.ro n).addr (i:=c) e8) e8) (qt (v:= .agg (aX.cells a).toArray) 3 rfl (λ _ ⟨_,p⟩=>Il rfl (Io (cs:=(aX.cells a)) C4 C2 ((p.ro n).elem aX.len l f5))) (qv 4 rfl rfl (qv 5 rfl rfl ?_)))))
 obtain⟨b,j⟩:=mY (ls:=l1) (i:=c) f2
 refine qt (v:= .pointer (some ⟨ab s,ao s+c *6,none⟩)) 6 rfl (λ _ ⟨_,p⟩=>Im (nN) rfl rfl ((p.ro t).addr (i:=c) e8) e8) (qt (v:= .agg (aX.cells b).toArray) 7 rfl (λ _ ⟨_,p⟩=>Il rfl (Io (cs:=(aX.cells b)) C4 C2 ((p.ro t).elem aX.len j f5))) (qt (v:= .bool (decide (¬ ((a.aB=b.aB)/\(a.aZ=b.aZ)/\(a.aO=b.aO)/\(a.aN=b.aN)/\(a.aT=b.aT)/\(a.bS=b.bS))))) 8 rfl (λ _ _=>Iu (e:= !(decide ((a.aB=b.aB)/\(a.aZ=b.aZ)/\(a.aO=b.aO)/\(a.aN=b.aN)/\(a.aT=b.aT)/\(a.bS=b.bS)))) (Jd rfl rfl e9 rfl (fU.struct Tryz.underlying68 e9 (I6 (fq.cons (u:=vI a.aB) (v:=vI b.aB) f5 (λ _=>by kernel_rfl) (λ _=>by kernel_rfl) (fU.int v6) (fq.cons (u:= .string ⟨v0 a.aZ⟩) (v:= .string ⟨v0 b.aZ⟩) f5 (λ _=>by kernel_rfl) (λ _=>by kernel_rfl) (fU.string v2) (fq.cons (u:= .string ⟨v0 a.aO⟩) (v:= .string ⟨v0 b.aO⟩) f5 (λ _=>by kernel_rfl) (λ _=>by kernel_rfl) (fU.string v2) (fq.cons (u:= .string ⟨v0 a.aN⟩) (v:= .string ⟨v0 b.aN⟩) f5 (λ _=>by kernel_rfl) (λ _=>by kernel_rfl) (fU.string v2) (fq.cons (u:= .string ⟨v0 a.aT⟩) (v:= .string ⟨v0 b.aT⟩) f5 (λ _=>by kernel_rfl) (λ _=>by kernel_rfl) (fU.string v2) (fq.cons (u:=vI a.bS) (v:=vI b.bS) f5 (λ _=>by kernel_rfl) (λ _=>by kernel_rfl) (fU.int v6) (fq.nil.up (Lm _)))))))) ((congrArg (decide (a.aB=b.aB) && ·) ((congrArg (decide (a.aZ=b.aZ) && ·) ((congrArg (decide (a.aO=b.aO) && ·) ((congrArg (decide (a.aN=b.aN) && ·) ((congrArg (decide (a.aT=b.aT) && ·) kN).trans fA)).trans fA)).trans fA)).trans fA)).trans fA)))) decide_not.symm) (qn (Ib ?_))))
 by_cases k:(a.aB=b.aB)/\(a.aZ=b.aZ)/\(a.aO=b.aO)/\(a.aN=b.aN)/\(a.aT=b.aT)/\(a.bS=b.bS)
 refine jF (dF (Lp k)) (IG (bN (Ib (H8 (fw (vJ (c+1)) (Ig (e:=B5.wrap ((c:Int)+1)) yk f1) (Mz rfl (B6 ?_)))))))
 have L:=z.pk []
 exact Iq (c+1) ⟨rfl,rfl,rfl,rfl,rfl,trivial⟩ (g.2 ⟨L,e8,et (h) (et (congrArg (λ q=>gF l1 q c) m) (et (ae (bu j)) (ip k)))⟩) (by show d.length - (c+1) < d.length - c; omega)
 refine jT (dT k) (sr (An rfl (rt (bR (tR (tR (bR (tR (rs ?_)))))))))
 have M:=z.pk []
 obtain rfl:_=false:=zj hr (et (ip f) (iG (et (h) (et (congrArg (λ q=>gF l1 q c) m) (et (ae (bu j)) (iN k))))))
 exact⟨rfl,M⟩
 refine jF (dF y) (B7 (Ip ?_))
 have A:gF l1 d 0=y0 ():=et (h) (et (congrArg (λ q=>gF l1 q c) (eX (ls:=d) (i:=c) e8)) rfl)
 refine Ip (Iz (Ib (sr (An rfl (rt (rs ?_))))))
 have N:=o.pk []
 obtain rfl:_=true:=zj hr (et (ip f) (lw A))
 exact⟨rfl,N⟩
 refine jT (dT f) (sr (An rfl (rt (tR (rs ?_)))))
 have O:=H.pk []
 obtain rfl:=zj hr zq1
 exact⟨rfl,O⟩
def qD (b:dA) (c:dA):Bool:=
 if(b.aU:Int)=(c.aU:Int) then bnd (mg b.aK.ls c.aK.ls) λ a=>a else false
theorem vX (w D) (f:dA) (b i c) (g:dA) (d j e G) (H:Own w D w []) (m:i=f.aK.ls.length) (n:Ro w D λ w'=>bO w' 6 b f.aK.ls.length (q2 aX.cells f.aK.ls)) (z:f.aK.ls.length<=c/\f.aK.ls.length<=9223372036854775807) (o:j=g.aK.ls.length) (p:Ro w D λ w'=>bO w' 6 d g.aK.ls.length (q2 aX.cells g.aK.ls)) (A:g.aK.ls.length<=e/\g.aK.ls.length<=9223372036854775807) (hr:qD f g=G):
    Calls u9 50 #[.agg #[vU f.aU, .slice b i c], .agg #[vU g.aU, .slice d j e]] w (dI λ v w'=>v= .bool G/\Own w D w' []):=by
 unfold qD at hr
 subst m o
 refine cb Tryz.func50 ?_
 refine sr ?_
 refine bW [vU f.aU, .slice b f.aK.ls.length c] 60 H ?_
 intro s J B
 refine bW [vU g.aU, .slice d g.aK.ls.length e] 60 B ?_
 intro t K h
 refine Ar rfl (Kz (vP s 0) (Lz (vU f.aU) h 1 E1 (Kz (vP t 0) (Lz (vU g.aU) h 0 E1 (Kz (.bool (decide ((f.aU:Int)=(g.aU:Int)))) (Mz rfl ?_))))))
 by_cases a:(f.aU:Int)=(g.aU:Int)
 refine Gz (vP s 1) (dT a) (Gl (.slice b f.aK.ls.length c) (dT a) h 1 E3 (Gz (vP t 1) (dT a) (Gl (.slice d g.aK.ls.length e) (dT a) h 0 E3 ?_)))
 obtain⟨r,k⟩:∃ q,mg f.aK.ls g.aK.ls=q:=⟨_,rfl⟩
 obtain⟨L,u,l,x,I⟩:=Ia h
 refine oh (dT a) Tryz.call51 (rF _ _ b f.aK.ls.length c f.aK.ls d g.aK.ls.length e g.aK.ls r u (l _ n) rfl e8 (l _ p) rfl e8 k) ?_
 rintro _ M ⟨rfl,y⟩
 have C:=x _ _ y
 refine fw (.bool r) (Ic rfl (dT a) rfl) (An rfl (rt (rs ?_)))
 have E:=C.pk []
 obtain rfl:=zj hr zq2
 exact⟨rfl,E⟩
 refine Sz (dF a) (Sz (dF a) (Sz (dF a) (Sz (dF a) (Sz (dF a) (fw (.bool false) (H6 rfl (dF a) rfl) (An rfl (rt (rs ?_))))))))
 have F:=h.pk []
 obtain rfl:=zj hr zq1
 exact⟨rfl,F⟩
def dM (l1:List dA):List dA->Nat->Unit ⊕ Bool
  | [],b=>y0 ()
  | c::e,b=>bnd (y2 l1 b default) λ a=>bnd (qD (dA.mk c.aU (F2 c.aK.ls)) (dA.mk a.aU (F2 a.aK.ls))) λ d=>if d=true then dM l1 e (b+1) else y3 (false)
def iI (a:List dA) (l1:List dA):Bool:=
 if(a.length:Int)=(l1.length:Int) then lp (dM l1 a 0) λ _=>true else false
theorem lW (w D C T U d0 f E V W S l1 r0) (H:Own w D w []) (F:s1 bf.abs d0=f) (u:Ro w D λ w'=>bO w' 2 C T (q2 bf.cells d0)) (G:∀ x ∈ d0,Ro w D (λ w'=>bO w' 6 x.aK.A x.aK.ls.length (q2 aX.cells x.aK.ls))/\(x.aK.ls.length<=x.aK.c/\x.aK.ls.length<=9223372036854775807)) (X:T=f.length) (aF:f.length<=9223372036854775807) (I:s1 bf.abs S=l1) (y:Ro w D λ w'=>bO w' 2 E V (q2 bf.cells S)) (J:∀ x ∈ S,Ro w D (λ w'=>bO w' 6 x.aK.A x.aK.ls.length (q2 aX.cells x.aK.ls))/\(x.aK.ls.length<=x.aK.c/\x.aK.ls.length<=9223372036854775807)) (Y:V=l1.length) (aG:l1.length<=9223372036854775807) (hr:iI f l1=r0):
    Calls u9 54 #[.slice C T U, .slice E V W, .func (.func 50) #[] #[]] w (dI λ v w'=>v= .bool r0/\Own w D w' []):=by
 unfold iI at hr
 subst X Y
 have ay:=aY F
 have az:=aY I
 refine cb Tryz.func54 ?_
 refine sr (An rfl (H7 (sr (Mz rfl (Kz (vJ f.length) (Mz rfl (Kz (vJ l1.length) (fw (.bool (decide (¬ ((f.length:Int)=(l1.length:Int))))) (Iu (e:= !(decide ((f.length:Int)=(l1.length:Int)))) yk decide_not.symm) (nt ?_)))))))))
 by_cases j:(f.length:Int)=(l1.length:Int)
 refine jF (dF (Lp j)) (sk (H7 (sr (Mz rfl (Kz (vJ f.length) (Mn rfl (bo ?_)))))))
 have Z:=H.pk []
 obtain⟨aa,k⟩:=mI λ (a:Nat) w'=>Own w D w' []/\a<=f.length/\dM l1 f 0=dM l1 (s0 a f) a
 refine y6 (λ i:Nat=> [(6, .bool false),(17,vJ i),(16,vJ f.length),(15, .slice C f.length U),(1, .slice E l1.length W),(2, .func (.func 50) #[] #[])]) aa (λ i=>f.length - i) 0 ⟨rfl,rfl,rfl,rfl,rfl,rfl,trivial⟩ (k.2 ⟨Z,e8,rfl⟩) ?_
 rintro a aH K
 show Wp _ _ _ [(6, .bool false),(17,vJ a),(16,vJ f.length),(15, .slice C f.length U),(1, .slice E l1.length W),(2, .func (.func 50) #[] #[])] _ _
 obtain⟨l,aA,m⟩:=k.1 K
 refine sr (Kz (.bool (decide ((a:Int) < (f.length:Int)))) (nt (H7 ?_)))
 by_cases L:(a:Int) < (f.length:Int)
 obtain⟨b,g⟩:=dG (ls:=d0) (i:=a) bf.len f5 (l.ro u) f2
 have M:=fO F g
 have aB:=(G _ (D4 g)).2
 have r:=drop_at M
 refine jT (dT L) (sk (H7 (bo (sr (Mz rfl (fw (.pointer (some ⟨ab C,ao C+a *2,none⟩)) (Im (ko) rfl rfl ((l.ro u).addr (i:=a) e8) e8) (fw (.agg (bf.cells b).toArray) (Il rfl (Io (cs:=(bf.cells b)) Q1 E0 ((l.ro u).elem bf.len g f5))) ?_)))))))
 refine bW [.int .u64 0, .slice none 0 0] 60 l ?_
 intro aI aJ af
 refine Az rfl ?_
 refine cu (bf.cells b) 0 af E0 ?_
 intro aK p
 refine ns (Mz rfl (Mz rfl ?_))
 obtain⟨d,h⟩:=dG (ls:=S) (i:=a) bf.len f5 (p.ro y) f2
 have s:=fO I h
 have aC:=(J _ (D4 h)).2
 refine fw (.pointer (some ⟨ab E,ao E+a *2,none⟩)) (Im (ko) rfl rfl ((p.ro y).addr (i:=a) e8) e8) (fw (.agg (bf.cells d).toArray) (Il rfl (Io (cs:=(bf.cells d)) Q1 E0 ((p.ro y).elem bf.len h f5))) ?_)
 refine bW [.int .u64 0, .slice none 0 0] 60 p ?_
 intro aL aM ag
 refine cu (bf.cells d) 0 ag E0 ?_
 intro aN z
 refine ns (Mz rfl (La (bf.cells b) z 1 Q1 E0 (La (bf.cells d) z 0 Q1 E0 ?_)))
 obtain⟨B,n⟩:∃ q,qD (dA.mk b.aU (F2 b.aK.ls)) (dA.mk d.aU (F2 d.aK.ls))=q:=⟨_,rfl⟩
 obtain⟨aO,N,t,O,aD⟩:=Ia z
 refine WL.do rfl (IM Tryz.call50 rfl rfl (vX _ _ (dA.mk b.aU (F2 b.aK.ls)) b.aK.A b.aK.ls.length b.aK.c (dA.mk d.aU (F2 d.aK.ls)) d.aK.A d.aK.ls.length d.aK.c B N rfl (t _ (G _ (D4 g)).1) e8 rfl (t _ (J _ (D4 h)).1) e8 n) ?_)
 rintro _ aP ⟨rfl,P⟩
 have Q:=O _ _ P
 refine Kz (.bool (!B)) (nt ?_)
 rcases Lr (B) with o | o
 refine jF (cn o) (IG (bN (Ib ?_)))
 have ah:=Q.pk []
 refine H8 (fw (vJ (a+1)) (Ig (e:=B5.wrap ((a:Int)+1)) yk f1) (Mz rfl (B6 ?_)))
 have ai:=ah.pk []
 exact Iq (a+1) ⟨rfl,rfl,rfl,rfl,rfl,rfl,trivial⟩ (k.2 ⟨ai,e8,et (m) (et (congrArg (λ q=>dM l1 q a) r) (et (ae (bu s)) (et (ae n) (ip o))))⟩) (by show f.length - (a+1) < f.length - a; omega)
 refine jT (cn o) (H7 ?_)
 have aj:=Q.pk []
 refine H8 (An rfl (rt (bR (tR (tR (bR (tR (rs ?_))))))))
 have ak:=aj.pk []
 obtain rfl:_=false:=zj hr (et (ip j) (iG (et (m) (et (congrArg (λ q=>dM l1 q a) r) (et (ae (bu s)) (et (ae n) (eF o)))))))
 exact⟨rfl,ak⟩
 refine jF (dF L) (B7 (Ip ?_))
 have R:dM l1 f 0=y0 ():=et (m) (et (congrArg (λ q=>dM l1 q a) (eX (ls:=f) (i:=a) e8)) rfl)
 refine Ip (Iz (Ib (sr (An rfl (rt (rs ?_))))))
 have au:=l.pk []
 obtain rfl:_=true:=zj hr (et (ip j) (lw R))
 exact⟨rfl,au⟩
 refine jT (dT j) (sr (An rfl (rt (tR (rs ?_)))))
 have av:=H.pk []
 obtain rfl:=zj hr zq1
 exact⟨rfl,av⟩
def nV (a:bA) (b:bA):Bool:=
 if(a.aQ:Int)=(b.aQ:Int) then if(a.bq:Int)=(b.bq:Int) then if(a.aJ:Int)=(b.aJ:Int) then if(a.aD:Int)=(b.aD:Int) then if(a.bi:Int)=(b.bi:Int) then if(a.aI:Int)=(b.aI:Int) then if(a.aH.aN=b.aH.aN)/\(a.aH.aT=b.aH.aT) then if((a.aC.aD:Int)=(b.aC.aD:Int))/\((a.aC.bv:Int)=(b.aC.bv:Int))/\((a.aC.di:Int)=(b.aC.di:Int))/\((a.aC.aA.aN=b.aC.aA.aN)/\(a.aC.aA.aT=b.aC.aA.aT)) then bnd (ll a.ah.ls b.ah.ls) λ c=>if c=true then bnd (mf a.af.ls b.af.ls) λ d=>if d=true then bnd (iI a.ak.ls b.ak.ls) λ e=>e else false else false else false else false else false else false else false else false else false else false
theorem sM (w D) (a:bA) (y Z z B aa C N E af F) (b:bA) (G ag I J ah K O L ai M r0) (H:Own w D w []) (ax:Z=a.ah.ls.length) (ay:Ro w D λ w'=>bO w' 2 y a.ah.ls.length (q2 bM.cells a.ah.ls)) (bn:a.ah.ls.length<=z/\a.ah.ls.length<=9223372036854775807) (S:s1 bf.abs N=a.ak.ls) (az:aa=a.ak.ls.length) (aA:Ro w D λ w'=>bO w' 2 B a.ak.ls.length (q2 bf.cells N)) (bq:a.ak.ls.length<=C/\a.ak.ls.length<=9223372036854775807) (T:∀ x ∈ N,Ro w D (λ w'=>bO w' 6 x.aK.A x.aK.ls.length (q2 aX.cells x.aK.ls))/\(x.aK.ls.length<=x.aK.c/\x.aK.ls.length<=9223372036854775807)) (aB:af=a.af.ls.length) (aC:Ro w D λ w'=>bO w' 1 E a.af.ls.length (q2 (eN .u64) a.af.ls)) (bu:a.af.ls.length<=F/\a.af.ls.length<=9223372036854775807) (aD:ag=b.ah.ls.length) (aF:Ro w D λ w'=>bO w' 2 G b.ah.ls.length (q2 bM.cells b.ah.ls)) (bv:b.ah.ls.length<=I/\b.ah.ls.length<=9223372036854775807) (U:s1 bf.abs O=b.ak.ls) (aG:ah=b.ak.ls.length) (aH:Ro w D λ w'=>bO w' 2 J b.ak.ls.length (q2 bf.cells O)) (bz:b.ak.ls.length<=K/\b.ak.ls.length<=9223372036854775807) (V:∀ x ∈ O,Ro w D (λ w'=>bO w' 6 x.aK.A x.aK.ls.length (q2 aX.cells x.aK.ls))/\(x.aK.ls.length<=x.aK.c/\x.aK.ls.length<=9223372036854775807)) (aI:ai=b.af.ls.length) (aJ:Ro w D λ w'=>bO w' 1 L b.af.ls.length (q2 (eN .u64) b.af.ls)) (bB:b.af.ls.length<=M/\b.af.ls.length<=9223372036854775807) (hr:nV a b=r0):
    Calls u9 23 #[.agg (gV a.bC a.aQ a.bq a.aJ a.aD y Z z B aa C E af F a.bi a.aI a.aH.aN a.aH.aT a.aC.aD a.aC.bv a.aC.di a.aC.aA.aN a.aC.aA.aT).toArray, .agg (gV b.bC b.aQ b.bq b.aJ b.aD G ag I J ah K L ai M b.bi b.aI b.aH.aN b.aH.aT b.aC.aD b.aC.bv b.aC.di b.aC.aA.aN b.aC.aA.aT).toArray] w (dI λ v w'=>v= .bool r0/\Own w D w' []):=by
 unfold nV at hr
 subst ax az aB aD aG aI
 have bg:=aY S
 have bi:=aY U
 refine cb Tryz.func23 ?_
 refine sr ?_
 refine bW (iV a y z B C E F) 41 H ?_
 intro r bX bC
 refine bW (iV b G I J K L M) 41 bC ?_
 intro s bY d
 refine An rfl (H7 (sr (Kz (vP r 1) (Lz (vU a.aQ) d 1 E1 (Kz (vP s 1) (Lz (vU b.aQ) d 0 E1 (fw (.bool (decide (¬ ((a.aQ:Int)=(b.aQ:Int))))) (Iu (e:= !(decide ((a.aQ:Int)=(b.aQ:Int)))) yk decide_not.symm) (Mz rfl ?_))))))))
 by_cases f:(a.aQ:Int)=(b.aQ:Int)
 refine gw (vP r 2) (dF (Lp f)) yk (gw (vU a.bq) (dF (Lp f)) (Il rfl (bQ.one E1 (IU (d.cls (i:=1) rfl) rfl))) (gw (vP s 2) (dF (Lp f)) yk (gw (vU b.bq) (dF (Lp f)) (Il rfl (bQ.one E1 (IU (d.cls (i:=0) rfl) rfl))) (gw (.bool (decide (¬ ((a.bq:Int)=(b.bq:Int))))) (dF (Lp f)) (Iu (e:= !(decide ((a.bq:Int)=(b.bq:Int)))) yk decide_not.symm) (fw (.bool (decide (¬ ((a.bq:Int)=(b.bq:Int))))) (H6 rfl (dF (Lp f)) rfl) (Mz rfl ?_))))))
 by_cases g:(a.bq:Int)=(b.bq:Int)
 refine gw (vP r 3) (dF (Lp g)) yk (gw (vU a.aJ) (dF (Lp g)) (Il rfl (bQ.one E1 (IU (d.cls (i:=1) rfl) rfl))) (gw (vP s 3) (dF (Lp g)) yk (gw (vU b.aJ) (dF (Lp g)) (Il rfl (bQ.one E1 (IU (d.cls (i:=0) rfl) rfl))) (gw (.bool (decide (¬ ((a.aJ:Int)=(b.aJ:Int))))) (dF (Lp g)) (Iu (e:= !(decide ((a.aJ:Int)=(b.aJ:Int)))) yk decide_not.symm) (fw (.bool (decide (¬ ((a.aJ:Int)=(b.aJ:Int))))) (H6 rfl (dF (Lp g)) rfl) (Mz rfl ?_))))))
 by_cases h:(a.aJ:Int)=(b.aJ:Int)
 refine gw (vP r 4) (dF (Lp h)) yk (gw (vU a.aD) (dF (Lp h)) (Il rfl (bQ.one E1 (IU (d.cls (i:=1) rfl) rfl))) (gw (vP s 4) (dF (Lp h)) yk (gw (vU b.aD) (dF (Lp h)) (Il rfl (bQ.one E1 (IU (d.cls (i:=0) rfl) rfl))) (gw (.bool (decide (¬ ((a.aD:Int)=(b.aD:Int))))) (dF (Lp h)) (Iu (e:= !(decide ((a.aD:Int)=(b.aD:Int)))) yk decide_not.symm) (fw (.bool (decide (¬ ((a.aD:Int)=(b.aD:Int))))) (H6 rfl (dF (Lp h)) rfl) (nt ?_))))))
 by_cases t:(a.aD:Int)=(b.aD:Int)
 refine jF (dF (Lp t)) (sk (H7 (sr (Kz (vP r 8) (Lz (vU a.bi) d 1 E1 (Kz (vP s 8) (Lz (vU b.bi) d 0 E1 (fw (.bool (decide (¬ ((a.bi:Int)=(b.bi:Int))))) (Iu (e:= !(decide ((a.bi:Int)=(b.bi:Int)))) yk decide_not.symm) (Mz rfl ?_)))))))))
 by_cases j:(a.bi:Int)=(b.bi:Int)
 refine gw (vP r 9) (dF (Lp j)) yk (gw (vU a.aI) (dF (Lp j)) (Il rfl (bQ.one E1 (IU (d.cls (i:=1) rfl) rfl))) (gw (vP s 9) (dF (Lp j)) yk (gw (vU b.aI) (dF (Lp j)) (Il rfl (bQ.one E1 (IU (d.cls (i:=0) rfl) rfl))) (gw (.bool (decide (¬ ((a.aI:Int)=(b.aI:Int))))) (dF (Lp j)) (Iu (e:= !(decide ((a.aI:Int)=(b.aI:Int)))) yk decide_not.symm) (fw (.bool (decide (¬ ((a.aI:Int)=(b.aI:Int))))) (H6 rfl (dF (Lp j)) rfl) (Mz rfl ?_))))))
 by_cases l:(a.aI:Int)=(b.aI:Int)
 refine gw (vP r 10) (dF (Lp l)) yk (gw (.agg (aj.cells a.aH).toArray) (dF (Lp l)) (Il rfl (Io (cs:=(aj.cells a.aH)) C6 C5 ((d.cls (i:=1) rfl).lit (k:=10) (m:=2) rfl))) (gw (vP s 10) (dF (Lp l)) yk (gw (.agg (aj.cells b.aH).toArray) (dF (Lp l)) (Il rfl (Io (cs:=(aj.cells b.aH)) C6 C5 ((d.cls (i:=0) rfl).lit (k:=10) (m:=2) rfl))) (gw (.bool (decide (¬ ((a.aH.aN=b.aH.aN)/\(a.aH.aT=b.aH.aT))))) (dF (Lp l)) (Iu (e:= !(decide ((a.aH.aN=b.aH.aN)/\(a.aH.aT=b.aH.aT)))) (Jd rfl rfl e9 rfl (fU.struct v8 e9 (I6 (fq.cons (u:= .string ⟨v0 a.aH.aN⟩) (v:= .string ⟨v0 b.aH.aN⟩) f5 (λ _=>by kernel_rfl) (λ _=>by kernel_rfl) (fU.string v2) (fq.cons (u:= .string ⟨v0 a.aH.aT⟩) (v:= .string ⟨v0 b.aH.aT⟩) f5 (λ _=>by kernel_rfl) (λ _=>by kernel_rfl) (fU.string v2) (fq.nil.up (Lm _)))) ((congrArg (decide (a.aH.aN=b.aH.aN) && ·) kN).trans fA)))) decide_not.symm) (fw (.bool (decide (¬ ((a.aH.aN=b.aH.aN)/\(a.aH.aT=b.aH.aT))))) (H6 rfl (dF (Lp l)) rfl) (Mz rfl ?_))))))
 by_cases n:(a.aH.aN=b.aH.aN)/\(a.aH.aT=b.aH.aT)
 refine gw (vP r 12) (dF (Lp n)) yk (gw (.agg (iO.cells a.aC).toArray) (dF (Lp n)) (Il rfl (Io (cs:=(iO.cells a.aC)) Tryz.isAgg39 Tryz.sizeOf39 ((d.cls (i:=1) rfl).lit (k:=12) (m:=5) rfl))) (gw (vP s 12) (dF (Lp n)) yk (gw (.agg (iO.cells b.aC).toArray) (dF (Lp n)) (Il rfl (Io (cs:=(iO.cells b.aC)) Tryz.isAgg39 Tryz.sizeOf39 ((d.cls (i:=0) rfl).lit (k:=12) (m:=5) rfl))) (gw (.bool (decide (¬ (((a.aC.aD:Int)=(b.aC.aD:Int))/\((a.aC.bv:Int)=(b.aC.bv:Int))/\((a.aC.di:Int)=(b.aC.di:Int))/\((a.aC.aA.aN=b.aC.aA.aN)/\(a.aC.aA.aT=b.aC.aA.aT)))))) (dF (Lp n)) (Iu (e:= !(decide (((a.aC.aD:Int)=(b.aC.aD:Int))/\((a.aC.bv:Int)=(b.aC.bv:Int))/\((a.aC.di:Int)=(b.aC.di:Int))/\((a.aC.aA.aN=b.aC.aA.aN)/\(a.aC.aA.aT=b.aC.aA.aT))))) (Jd rfl rfl e9 rfl (fU.struct Tryz.underlying39 e9 (I6 (fq.cons (u:=vU a.aC.aD) (v:=vU b.aC.aD) f5 (λ _=>by kernel_rfl) (λ _=>by kernel_rfl) ((fU.int F0).up f5) (fq.cons (u:=vU a.aC.bv) (v:=vU b.aC.bv) f5 (λ _=>by kernel_rfl) (λ _=>by kernel_rfl) ((fU.int F0).up f5) (fq.cons (u:=vU a.aC.di) (v:=vU b.aC.di) f5 (λ _=>by kernel_rfl) (λ _=>by kernel_rfl) ((fU.int F0).up f5) (fq.cons (u:= .agg (aj.cells a.aC.aA).toArray) (v:= .agg (aj.cells b.aC.aA).toArray) f5 (λ _=>by kernel_rfl) (λ _=>by kernel_rfl) (fU.struct v8 e9 (I6 (fq.cons (u:= .string ⟨v0 a.aC.aA.aN⟩) (v:= .string ⟨v0 b.aC.aA.aN⟩) f5 (λ _=>by kernel_rfl) (λ _=>by kernel_rfl) (fU.string v2) (fq.cons (u:= .string ⟨v0 a.aC.aA.aT⟩) (v:= .string ⟨v0 b.aC.aA.aT⟩) f5 (λ _=>by kernel_rfl) (λ _=>by kernel_rfl) (fU.string v2) (fq.nil.up (Lm _)))) ((congrArg (decide (a.aC.aA.aN=b.aC.aA.aN) && ·) kN).trans fA))) (fq.nil.up (Lm _)))))) ((congrArg (decide ((a.aC.aD:Int)=(b.aC.aD:Int)) && ·) ((congrArg (decide ((a.aC.bv:Int)=(b.aC.bv:Int)) && ·) ((congrArg (decide ((a.aC.di:Int)=(b.aC.di:Int)) && ·) kN).trans fA)).trans fA)).trans fA)))) decide_not.symm) (fw (.bool (decide (¬ (((a.aC.aD:Int)=(b.aC.aD:Int))/\((a.aC.bv:Int)=(b.aC.bv:Int))/\((a.aC.di:Int)=(b.aC.di:Int))/\((a.aC.aA.aN=b.aC.aA.aN)/\(a.aC.aA.aT=b.aC.aA.aT)))))) (H6 rfl (dF (Lp n)) rfl) (nt ?_))))))
 by_cases R:((a.aC.aD:Int)=(b.aC.aD:Int))/\((a.aC.bv:Int)=(b.aC.bv:Int))/\((a.aC.di:Int)=(b.aC.di:Int))/\((a.aC.aA.aN=b.aC.aA.aN)/\(a.aC.aA.aT=b.aC.aA.aT))
 refine jF (dF (Lp R)) (sk (sr (Ar rfl (Kz (vP r 5) (Lz (.slice y a.ah.ls.length z) d 1 Q2 (Kz (vP s 5) (Lz (.slice G b.ah.ls.length I) d 0 Q2 ?_)))))))
 obtain⟨aM,P⟩:∃ q,ll a.ah.ls b.ah.ls=q:=⟨_,rfl⟩
 obtain⟨bZ,aN,ak,aO,bT⟩:=Ia d
 refine cl Tryz.call52 (pQ _ _ y a.ah.ls.length z a.ah.ls G b.ah.ls.length I b.ah.ls aM aN (ak _ ay) rfl e8 (ak _ aF) rfl e8 P) ?_
 rintro _ cu ⟨rfl,aP⟩
 have X:=aO _ _ aP
 refine Mz rfl ?_
 rcases Lr (aM) with p | p
 refine Gz (vP r 7) p (Gl (.slice E a.af.ls.length F) p X 1 E2 (Gz (vP s 7) p (Gl (.slice L b.af.ls.length M) p X 0 E2 ?_)))
 obtain⟨aK,W⟩:∃ q,mf a.af.ls b.af.ls=q:=⟨_,rfl⟩
 obtain⟨cz,aQ,au,aR,bU⟩:=Ia X
 refine I9 rfl rfl p rfl (IB Tryz.call53 rfl (rE _ _ E a.af.ls.length F a.af.ls L b.af.ls.length M b.af.ls aK aQ (au _ aC) rfl e8 (au _ aJ) rfl e8 W) ?_)
 rintro _ cB ⟨rfl,aS⟩
 have Y:=aR _ _ aS
 refine fw (.bool aK) (Ic rfl p rfl) (Mz rfl ?_)
 rcases Lr (aK) with o | o
 refine Gz (vP r 6) o (Gl (.slice B a.ak.ls.length C) o Y 1 D3 (Gz (vP s 6) o (Gl (.slice J b.ak.ls.length K) o Y 0 D3 (IQ (v:= .func (.func 50) #[] #[]) rfl rfl o rfl (Ie rfl) ?_))))
 obtain⟨aL,av⟩:∃ q,iI a.ak.ls b.ak.ls=q:=⟨_,rfl⟩
 obtain⟨cK,aT,Q,aU,bV⟩:=Ia Y
 refine I9 rfl rfl o rfl (IB Tryz.call54 rfl (lW _ _ B a.ak.ls.length C N a.ak.ls J b.ak.ls.length K O b.ak.ls aL aT S (Q _ aA) (λ x9 h9=>⟨Q _ (T x9 h9).1,(T x9 h9).2⟩) rfl e8 U (Q _ aH) (λ x9 h9=>⟨Q _ (V x9 h9).1,(V x9 h9).2⟩) rfl e8 av) ?_)
 rintro _ cO ⟨rfl,aZ⟩
 have bD:=aU _ _ aZ
 refine fw (.bool aL) (Ic rfl o rfl) (An rfl (rt (rs ?_)))
 have bE:=bD.pk []
 obtain rfl:=zj hr zq13
 exact⟨rfl,bE⟩
 refine Sz o (Sz o (Sz o (Sz o (Sz o (Sz o (fw (.bool false) (H6 rfl o rfl) (An rfl (rt (rs ?_)))))))))
 have bF:=Y.pk []
 obtain rfl:=zj hr zq12
 exact⟨rfl,bF⟩
 refine Sz p (Sz p (Sz p (Sz p (Sz p (fw (.bool false) (H6 rfl p rfl) (Mz rfl (Sz rfl (Sz rfl (Sz rfl (Sz rfl (Sz rfl (Sz rfl (fw (.bool false) (H6 rfl rfl rfl) (An rfl (rt (rs ?_))))))))))))))))
 have bG:=X.pk []
 obtain rfl:=zj hr zq10
 exact⟨rfl,bG⟩
 refine jT (dT R) (sr (An rfl (rt (tR (rs ?_)))))
 have bH:=d.pk []
 obtain rfl:=zj hr zq8
 exact⟨rfl,bH⟩
 refine Sz (dT n) (Sz (dT n) (Sz (dT n) (Sz (dT n) (Sz (dT n) (fw (.bool true) (Ic rfl (dT n) rfl) (nt (jt (sr (An rfl (rt (tR (rs ?_))))))))))))
 have bI:=d.pk []
 obtain rfl:=zj hr zq7
 exact⟨rfl,bI⟩
 refine Sz (dT l) (Sz (dT l) (Sz (dT l) (Sz (dT l) (Sz (dT l) (fw (.bool true) (Ic rfl (dT l) rfl) (Mz rfl (Sz rfl (Sz rfl (Sz rfl (Sz rfl (Sz rfl (fw (.bool true) (Ic rfl rfl rfl) (nt (jt (sr (An rfl (rt (tR (rs ?_)))))))))))))))))))
 have bJ:=d.pk []
 obtain rfl:=zj hr zq6
 exact⟨rfl,bJ⟩
 refine Sz (dT j) (Sz (dT j) (Sz (dT j) (Sz (dT j) (Sz (dT j) (fw (.bool true) (Ic rfl (dT j) rfl) (Mz rfl (Sz rfl (Sz rfl (Sz rfl (Sz rfl (Sz rfl (fw (.bool true) (Ic rfl rfl rfl) (Mz rfl (Sz rfl (Sz rfl (Sz rfl (Sz rfl (Sz rfl (fw (.bool true) (Ic rfl rfl rfl) (nt (jt (sr (An rfl (rt (tR (rs ?_))))))))))))))))))))))))))
 have bK:=d.pk []
 obtain rfl:=zj hr zq5
 exact⟨rfl,bK⟩
 refine jT (dT t) (sr (An rfl (rt (tR (rs ?_)))))
 have bL:=d.pk []
 obtain rfl:=zj hr zq4
 exact⟨rfl,bL⟩
 refine Sz (dT h) (Sz (dT h) (Sz (dT h) (Sz (dT h) (Sz (dT h) (fw (.bool true) (Ic rfl (dT h) rfl) (nt (jt (sr (An rfl (rt (tR (rs ?_))))))))))))
 have bN:=d.pk []
 obtain rfl:=zj hr zq3
 exact⟨rfl,bN⟩
 refine Sz (dT g) (Sz (dT g) (Sz (dT g) (Sz (dT g) (Sz (dT g) (fw (.bool true) (Ic rfl (dT g) rfl) (Mz rfl (Sz rfl (Sz rfl (Sz rfl (Sz rfl (Sz rfl (fw (.bool true) (Ic rfl rfl rfl) (nt (jt (sr (An rfl (rt (tR (rs ?_)))))))))))))))))))
 have bP:=d.pk []
 obtain rfl:=zj hr zq2
 exact⟨rfl,bP⟩
 refine Sz (dT f) (Sz (dT f) (Sz (dT f) (Sz (dT f) (Sz (dT f) (fw (.bool true) (Ic rfl (dT f) rfl) (Mz rfl (Sz rfl (Sz rfl (Sz rfl (Sz rfl (Sz rfl (fw (.bool true) (Ic rfl rfl rfl) (Mz rfl (Sz rfl (Sz rfl (Sz rfl (Sz rfl (Sz rfl (fw (.bool true) (Ic rfl rfl rfl) (nt (jt (sr (An rfl (rt (tR (rs ?_))))))))))))))))))))))))))
 have bR:=d.pk []
 obtain rfl:=zj hr zq1
 exact⟨rfl,bR⟩
def iU (a:bA):bA:=
 a
set_option maxHeartbeats 1000000 in
theorem lY (w D) (a:bA) (p V r s W t b u X z) (Y:bA) (H:Own w D w []) (aj:V=a.ah.ls.length) (ak:Ro w D λ w'=>bO w' 2 p a.ah.ls.length (q2 bM.cells a.ah.ls)) (bF:a.ah.ls.length<=r/\a.ah.ls.length<=9223372036854775807) (J:s1 bf.abs b=a.ak.ls) (au:W=a.ak.ls.length) (av:Ro w D λ w'=>bO w' 2 s a.ak.ls.length (q2 bf.cells b)) (bG:a.ak.ls.length<=t/\a.ak.ls.length<=9223372036854775807) (M:∀ x ∈ b,Ro w D (λ w'=>bO w' 6 x.aK.A x.aK.ls.length (q2 aX.cells x.aK.ls))/\(x.aK.ls.length<=x.aK.c/\x.aK.ls.length<=9223372036854775807)) (ax:X=a.af.ls.length) (ay:Ro w D λ w'=>bO w' 1 u a.af.ls.length (q2 (eN .u64) a.af.ls)) (bI:a.af.ls.length<=z/\a.af.ls.length<=9223372036854775807) (dx:a.ah.ls.length<=1000000/\a.ak.ls.length<=1000000/\a.af.ls.length<=1000000) (bJ:(∀ x ∈ a.ak.ls,x.aK.ls.length<=1000000)) (hr:iU a=Y):
    Calls u9 18 #[.agg (gV a.bC a.aQ a.bq a.aJ a.aD p V r s W t u X z a.bi a.aI a.aH.aN a.aH.aT a.aC.aD a.aC.bv a.aC.di a.aC.aA.aN a.aC.aA.aT).toArray] w (dI λ v w'=> ∃ Z aa ae af ag ah N,v= .agg (iV Y Z aa ae af ag ah).toArray/\Own w D w' [row Z Y.ah.ls.length aa (q2 bM.cells Y.ah.ls) 83 2,row ae Y.ak.ls.length af (q2 bf.cells N) 60 2,sepL (q2 IK N),row ag Y.af.ls.length ah (q2 (eN .u64) Y.af.ls) 32 1]/\(s1 bf.abs N=Y.ak.ls)):=by
 subst aj au ax
 have bD:=aY J
 refine cb Tryz.func18 ?_
 refine sr ?_
 refine bW (iV a p r s t u z) 41 H ?_
 intro d dz bK
 refine bW (gV 0 0 0 0 0 none 0 0 none 0 0 none 0 0 0 0 [] [] 0 0 0 [] []) 41 bK ?_
 intro U dA aA
 refine ns (Kz (vP d 5) (Lz (.slice p a.ah.ls.length r) aA 1 Q2 ?_))
 obtain⟨dB,aB,aC,aD,cK⟩:=Ia aA
 refine cl Tryz.call33 (pO _ _ p a.ah.ls.length r a.ah.ls a.ah.ls aB (aC _ ak) rfl e8 rfl) ?_
 rintro _ dC ⟨B,C,rfl,aF⟩
 have aG:=aD _ _ aF
 have cO:=aG.rowC (i:=0) rfl
 refine Kz (vP d 5) ?_
 have bL:=aG.pf [2]
 refine cu [.slice B a.ah.ls.length C] 5 bL Tryz.sizeOf33 ?_
 intro dD aH
 refine ns (Kz (vP d 7) (Lz (.slice u a.af.ls.length z) aH 0 E2 ?_))
 obtain⟨dE,aI,aJ,aK,cZ⟩:=Ia aH
 refine cl Tryz.call34 (rD _ _ u a.af.ls.length z a.af.ls a.af.ls aI (aJ _ ay) rfl e8 rfl) ?_
 rintro _ dG ⟨E,F,rfl,aL⟩
 have aM:=aK _ _ aL
 have df:=aM.rowC (i:=0) rfl
 refine Kz (vP d 7) ?_
 have bP:=aM.pf [1]
 refine cu [.slice E a.af.ls.length F] 7 bP Q3 ?_
 intro dH aN
 refine ns (Kz (vP d 6) (Lz (.slice s a.ak.ls.length t) aN 0 D3 ?_))
 obtain⟨dJ,aO,aP,aQ,dh⟩:=Ia aN
 refine cl Tryz.call35 (qm _ _ s _ t b b aO (aP _ av) e8 e8 rfl) ?_
 rintro _ dK ⟨h,n,rfl,aR⟩
 have bR:=aQ _ _ aR
 refine Kz (vP d 6) ?_
 have bS:=bR.pf [1]
 refine cu [.slice h b.length n] 6 bS Tryz.sizeOf34 ?_
 intro dL aS
 refine nt (H7 (sr (Kz (vP d 6) (Lz (.slice h b.length n) aS 0 D3 (Kz (vJ b.length) (Mn rfl (bo ?_)))))))
 have bT:=aS.pb [1]
 have bU:=(bT.sepNil).pick [1,2,3,4,5,0] f5 rfl
 refine y6 (ι:=Nat × (List bf)) (λ i=> [(19,vJ i.1),(18,vJ b.length),(17, .slice h b.length n),(16,vP d 6),(15,vP d 6),(14, .slice h b.length n),(13, .slice s a.ak.ls.length t),(12,vP d 6),(11,vP d 7),(10, .slice E a.af.ls.length F),(9, .slice u a.af.ls.length z),(8,vP d 7),(7,vP d 5),(6, .slice B a.ah.ls.length C),(5, .slice p a.ah.ls.length r),(4,vP d 5),(2,vP U 0),(1,vP d 0),(0, .agg (iV a p r s t u z).toArray)]) (fun(i:Nat × (List bf)) w'=>Own w D w' [blk d (gV a.bC a.aQ a.bq a.aJ a.aD B a.ah.ls.length C h b.length n E a.af.ls.length F a.bi a.aI a.aH.aN a.aH.aT a.aC.aD a.aC.bv a.aC.di a.aC.aA.aN a.aC.aA.aT) 41,row E a.af.ls.length F (q2 (eN .u64) a.af.ls) 32 1,row B a.ah.ls.length C (q2 bM.cells a.ah.ls) 83 2,blk U (gV 0 0 0 0 0 none 0 0 none 0 0 none 0 0 0 0 [] [] 0 0 0 [] []) 41,row h b.length n (q2 bf.cells (i.2++s0 i.1 b)) 60 2,sepL (q2 IK i.2)]/\(i.1<=b.length/\i.2.length=i.1/\s1 bf.abs i.2=s1 bf.abs (t6 i.1 b))) (λ i=>b.length - i.1) (0, []) ⟨rfl,rfl,rfl,rfl,rfl,rfl,rfl,rfl,rfl,rfl,rfl,rfl,rfl,rfl,rfl,rfl,rfl,rfl,rfl,trivial⟩ ⟨bU,(show 0<=b.length/\q7 []=0/\s1 bf.abs []=s1 bf.abs (t6 0 b) from ⟨e8,rfl,rfl⟩)⟩ ?_
 rintro ⟨g,l⟩ dM ⟨aT,O⟩
 show Wp _ _ _ [(19,vJ g),(18,vJ b.length),(17, .slice h b.length n),(16,vP d 6),(15,vP d 6),(14, .slice h b.length n),(13, .slice s a.ak.ls.length t),(12,vP d 6),(11,vP d 7),(10, .slice E a.af.ls.length F),(9, .slice u a.af.ls.length z),(8,vP d 7),(7,vP d 5),(6, .slice B a.ah.ls.length C),(5, .slice p a.ah.ls.length r),(4,vP d 5),(2,vP U 0),(1,vP d 0),(0, .agg (iV a p r s t u z).toArray)] _ _
 replace O:g<=b.length/\l.length=g/\s1 bf.abs l=s1 bf.abs (t6 g b):=O
 obtain⟨di,az,P⟩:=O
 refine sr (Kz (.bool (decide ((g:Int) < (b.length:Int)))) (nt (H7 ?_)))
 by_cases aU:(g:Int) < (b.length:Int)
 refine jT (dT aU) (sk (H7 (bo (sr (Mz rfl (An rfl ?_))))))
 obtain⟨j,I⟩:∃ q,b[g]? =some q:=⟨_,p5 e8⟩
 have Q:(l++s0 g b)[g]? =some j:=Fp e8 I
 have dm:=(M _ (D4 I)).2
 have dn:j.aK.ls.length<=1000000:=by have q9:=bJ _ (D4 (fO J I)); exact q9
 refine GQ [12] (bH.block (Ik (Ik (bH.block (Ik Iw))))) aT ?_
 intro dN bV
 refine qp d 6 0 rfl (ql 1 rfl 0 D3 rfl rfl rfl (qv 2 rfl rfl (qp d 6 3 rfl (ql 4 rfl 0 D3 rfl rfl rfl (qv 5 rfl rfl (qt (v:= .pointer (some ⟨ab h,ao h+g *2,none⟩)) 6 rfl (λ _ ⟨_,H9⟩=>Im (ko) rfl rfl ((H9.rds (i:=4) rfl).addr (i:=g) e8) e8) (qk (.pointer (some ⟨ab h,ao h+g *2+1,none⟩)) 7 rfl (qt (v:= .slice j.aK.A j.aK.ls.length j.aK.c) 8 rfl (λ _ ⟨_,H9⟩=>Il rfl (bQ.one E3 (((H9.rds (i:=4) rfl).elem bf.len Q f5).at_ (k:=1) rfl))) ?_))))))))
 obtain⟨dO,aW,aZ,bg,dw⟩:=Ia bV
 refine qd 9 rfl (IB Tryz.call36 rfl (iK _ _ j.aK.A j.aK.ls.length j.aK.c j.aK.ls j.aK.ls aW (aZ _ (M _ (D4 I)).1) rfl e8 rfl) ?_)
 rintro _ dP ⟨K,L,rfl,bi⟩
 have bX:=bg _ _ bi
 have bn:=bX.pb [0]
 refine⟨.inr ⟨_,bn⟩, ?_⟩
 refine qt (v:= .pointer (some ⟨ab h,ao h+g *2,none⟩)) 10 rfl (λ _ ⟨_,H9⟩=>Im (ko) rfl rfl ((H9.rds (i:=4) rfl).addr (i:=g) e8) e8) (qk (.pointer (some ⟨ab h,ao h+g *2+1,none⟩)) 11 rfl ?_)
 have bY:=bn.pf [4]
 refine qe 12 rfl (Do.storeRow (vs:= [.slice K j.aK.ls.length L]) (o:=g *2+1) (q:=ao h+g *2+1) bY rfl e8 rfl Tryz.sizeOf44 rfl rfl (Lh rfl) (jA bf.len Q (Lh rfl)) (j6 (y:=(bf.mk j.aU (N1 K L j.aK.ls))) bf.len rfl (Lh rfl) Q) ?_)
 intro bZ cz
 refine⟨.inl e9, ?_⟩
 refine qn (bN (Ib (H8 (fw (vJ (g+1)) (Ig (e:=B5.wrap ((g:Int)+1)) yk f1) (Mz rfl (B6 ?_))))))
 have bq:=cz.px [6,5] [] [0]
 have bu:Own w D bZ (sepL (q2 IK (l++ [(bf.mk j.aU (N1 K L j.aK.ls))]))::_):=Ey (f:=IK) (es:=l) (y:=(bf.mk j.aU (N1 K L j.aK.ls))) bq
 have ai:=bu.pk [1,2,3,4,5,0]
 rw [Ez _ e8 e8] at ai
 exact Iq (g+1,l++ [(bf.mk j.aU (N1 K L j.aK.ls))]) ⟨rfl,rfl,rfl,rfl,rfl,rfl,rfl,rfl,rfl,rfl,rfl,rfl,rfl,rfl,rfl,rfl,rfl,rfl,rfl,trivial⟩ ⟨ai,(show (g+1)<=b.length/\q7 (l++ [(bf.mk j.aU (N1 K L j.aK.ls))])=(g+1)/\s1 bf.abs (l++ [(bf.mk j.aU (N1 K L j.aK.ls))])=s1 bf.abs (t6 (g+1) b) from ⟨e8,by simp [az],EA (f:=bf.abs) P I rfl⟩)⟩ (by show b.length - (g+1) < b.length - g; omega)
 refine jF (dF aU) (B7 (Ip (Ip (Iz (Ib (sr ?_))))))
 have R:s1 bf.abs l=a.ak.ls:=by rw [P,List.take_of_length_le e8]; exact J
 have S:=aT
 rw [List.drop_eq_nil_of_le e8,List.append_nil] at S
 have cB:=aY R
 refine La (gV a.bC a.aQ a.bq a.aJ a.aD B a.ah.ls.length C h b.length n E a.af.ls.length F a.bi a.aI a.aH.aN a.aH.aT a.aC.aD a.aC.bv a.aC.di a.aC.aA.aN a.aC.aA.aT) S 0 Tryz.isAgg41 E7 ?_
 have bv:=S.pf [3]
 refine cu (gV a.bC a.aQ a.bq a.aJ a.aD B a.ah.ls.length C h b.length n E a.af.ls.length F a.bi a.aI a.aH.aN a.aH.aT a.aC.aD a.aC.bv a.aC.di a.aC.aA.aN a.aC.aA.aT) 0 bv E7 ?_
 intro bz T
 refine nt (rt (Ir (oZ rfl rfl (Io (cs:=(gV a.bC a.aQ a.bq a.aJ a.aD B a.ah.ls.length C h b.length n E a.af.ls.length F a.bi a.aI a.aH.aN a.aH.aT a.aC.aD a.aC.bv a.aC.di a.aC.aA.aN a.aC.aA.aT)) Tryz.isAgg41 E7 ((T.cls (i:=0) rfl).lit (k:=0) (m:=17) rfl))) ?_))
 have G:b.length=a.ak.ls.length:=by first | omega | (simp only [L7]; done) | (simp only [L7,o0,r5,K1,m8,m9,List.length_replicate]; omega)
 have bB:Own w D bz [blk U (iV a B C h n E F) 41,blk d (iV a B C h n E F) 41,row E a.af.ls.length F (q2 (eN .u64) a.af.ls) 32 1,row B a.ah.ls.length C (q2 bM.cells a.ah.ls) 83 2,row h a.ak.ls.length n (q2 bf.cells l) 60 2,sepL (q2 IK l)]:=by first | (rw [<- G]; exact T) | (have q9:=T; rw [G] at q9; exact q9)
 have bC:=bB.pk [3,4,5,2]
 obtain rfl:_=a:=zj hr rfl
 exact⟨B,C,h,n,E,F,l,(by first | rfl | (rw [<- G]; done) | (rw [<- G]; rfl) | (rw [G]; first | done | rfl)),bC,R⟩
structure mW where
 xM:Sv az
def mW.cells (x:mW):List Value:= [.slice x.xM.A x.xM.ls.length x.xM.c]
instance:Bk mW:=⟨λ x _=>bk x.xM+(0)⟩
theorem mW.len:∀ x,(mW.cells x).length=1:=λ _=>rfl
theorem mW.one:∀ x, ∀ u ∈ mW.cells x,u.oneCell'=true:=λ x u hu=>by
 simp only [mW.cells,u3,v1,or_false] at hu
 rcases hu with rfl <;> rfl
def K9 (w:World) (x:mW):Prop:=(mM w 2 32 az.cells (JR w) x.xM)
instance:Inhabited mW:=⟨⟨default⟩⟩
structure StoreT where
 xM:Ll az
instance:Inhabited StoreT:=⟨⟨default⟩⟩
def mW.abs (x:mW):StoreT:=⟨⟨x.xM.ls⟩⟩
def KY (x:mW):List HP:= [row x.xM.A x.xM.ls.length x.xM.c (q2 az.cells x.xM.ls) 101 2]
def qy (b:StoreT) (c:List UInt8):(List UInt8) × Bool × Int:=
 bnd (qA b.xM.ls c) λ a=>(a.1,a.2,0)
theorem xV (w D h) (c:StoreT) (a b m s t n) (H:Own w D w [blk h [.slice a c.xM.ls.length b] 27]) (e:Ro w D λ w'=>bO w' 2 a c.xM.ls.length (q2 az.cells c.xM.ls)) (o:c.xM.ls.length<=b/\c.xM.ls.length<=9223372036854775807) (x:c.xM.ls.length<=4000) (hr:qy c m=(s,t,n)):
    Calls u9 252 #[vP h 0, .string ⟨v0 m⟩] w (dI λ v w'=>v= .tuple #[.string ⟨v0 s⟩, .bool t,vI n]/\Own w D w' [blk h [.slice a c.xM.ls.length b] 27]/\(n=0)):=by
 refine cb Tryz.func252 ?_
 refine sr (Az rfl (Az rfl (Ar rfl (Mz rfl (Kz (vP h 0) (Kz (vP h 0) (Lz (.slice a c.xM.ls.length b) H 0 Tryz.isAgg25 (Mz rfl ?_))))))))
 obtain⟨⟨f,g⟩,d⟩:∃ q:(List UInt8) × Bool,qA c.xM.ls m=q:=⟨_,rfl⟩
 obtain⟨y,i,j,k,u⟩:=Ia H
 refine cl Tryz.call56 (xA _ _ a c.xM.ls.length b c.xM.ls m f g i (j _ e) rfl e8 d) ?_
 rintro _ z ⟨rfl,l⟩
 have p:=k _ _ l
 refine Mz rfl (Kz (.string ⟨v0 f⟩) (Kz (.bool g) (Az rfl (Ar rfl (Mz rfl (Mz rfl (Az rfl (Az rfl (An rfl (rt (Ir (xC rfl rfl rfl rfl) ?_)))))))))))
 have r:=p.pf []
 obtain⟨rfl,rfl,rfl⟩:=ym (zj hr (show _=(f,g,0) from ae d))
 exact⟨rfl,r,(by rfl)⟩
def pR (b:StoreT) (c:aj) (d:Int):(List az) × Int:=
 bnd (pK b.xM.ls c d) λ a=>(a,0)
theorem xu (w D j) (d:StoreT) (a b) (g:aj) (z l A) (H:Own w D w [blk j [.slice a d.xM.ls.length b] 27]) (h:Ro w D λ w'=>bO w' 2 a d.xM.ls.length (q2 az.cells d.xM.ls)) (B:d.xM.ls.length<=b/\d.xM.ls.length<=9223372036854775807) (P:d.xM.ls.length<=4000) (hr:pR d g z=(l,A)):
    Calls u9 253 #[vP j 0, .agg (aj.cells g).toArray,vI z] w (dI λ v w'=> ∃ L M,v= .tuple #[.slice L l.length M,vI A]/\Own w D w' [row L l.length M (q2 az.cells l) 101 2,blk j [.slice a d.xM.ls.length b] 27]/\(A=0/\l.length<=4000)):=by
 unfold pR at hr
 refine cb Tryz.func253 ?_
 refine sr ?_
 refine bW (aj.cells g) 37 H ?_
 intro Q R C
 refine Az rfl (An rfl (H7 ?_))
 refine oO [] (Ik Iw) C ?_
 intro S E
 refine qv 0 rfl rfl (qp j 0 1 rfl (qp j 0 2 rfl (ql 3 rfl 1 Tryz.isAgg25 rfl rfl rfl (qt (v:= .agg (aj.cells g).toArray) 4 rfl (λ _ ⟨_,T⟩=>Il rfl (Io (cs:=(aj.cells g)) C6 C5 ((T.cls (i:=0) rfl).lit (k:=0) (m:=2) rfl))) (qv 5 rfl rfl ?_)))))
 obtain⟨c,e⟩:∃ q,pK d.xM.ls g z=q:=⟨_,rfl⟩
 obtain⟨U,n,o,p,N⟩:=Ia E
 refine qd 6 rfl (IB Tryz.call60 rfl (vS _ _ a d.xM.ls.length b d.xM.ls g z c n (o _ h) rfl e8 e) ?_)
 rintro _ F ⟨V,W,rfl,r,f⟩
 have t:=p _ _ r
 have O:=t.rowC (i:=0) rfl
 replace f:c.length<=d.xM.ls.length:=f
 have u:=t.pb [0]
 refine⟨.inr ⟨_,u⟩, ?_⟩
 have x:Own w D F (row none 0 0 (q2 az.cells []) 101 2::_):=u.free (bZ 101 2)
 refine qd 7 rfl (IC (k:=0) (m:=c.length) (iP) x rfl rfl (eY Tryz.underlying25 (x.rds (i:=3) rfl) (cZ az.one c)) rfl e8 (s:=c.length) e8 rfl ?_)
 intro G I X J
 have y:=J.pb [0,3]
 refine⟨.inr ⟨_,y⟩, ?_⟩
 refine qa 8 rfl rfl (qa 9 rfl rfl (qn (Ib (rt (Ir (kD rfl rfl rfl) ?_)))))
 have K:=y.pk [2,1]
 obtain⟨rfl,rfl⟩:=fB (zj hr zq1)
 exact⟨G,I,rfl,K,(by first | omega | exact⟨rfl,e8⟩)⟩
def jX (b:bB) (c:Nat):Int:=
 bnd (eG b.au c) λ a=>a
theorem nW (w D) (a:bB) (b f c d g e p A) (H:Own w D w []) (i:f=a.cz.ls.length) (r:Ro w D λ w'=>bO w' 6 b a.cz.ls.length (q2 aX.cells a.cz.ls)) (s:a.cz.ls.length<=c/\a.cz.ls.length<=9223372036854775807) (j:g=a.bJ.ls.length) (t:Ro w D λ w'=>bO w' 3 d a.bJ.ls.length (q2 aF.cells a.bJ.ls)) (u:a.bJ.ls.length<=e/\a.bJ.ls.length<=9223372036854775807) (hr:jX a p=A):
    Calls u9 132 #[.agg #[vU a.au, .slice b f c, .slice d g e,vI a.aS],vU p] w (dI λ v w'=>v=vI A/\Own w D w' []):=by
 unfold jX at hr
 subst i j
 refine cb Tryz.func132 ?_
 refine sr ?_
 refine bW [vU a.au, .slice b a.cz.ls.length c, .slice d a.bJ.ls.length e,vI a.aS] 99 H ?_
 intro x E k
 refine Ar rfl (Kz (vP x 0) (Lz (vU a.au) k 0 E1 (Mz rfl ?_)))
 obtain⟨l,h⟩:∃ q,eG a.au p=q:=⟨_,rfl⟩
 obtain⟨F,m,B,n,C⟩:=Ia k
 refine cl Tryz.call129 (l8 _ _ a.au p l m h) ?_
 rintro _ G ⟨rfl,o⟩
 have y:=n _ _ o
 refine An rfl (rt (rs ?_))
 have z:=y.pk []
 obtain rfl:=zj hr zq1
 exact⟨rfl,z⟩
def df (f:List bB) (g:Nat):Nat->Nat->Nat->Nat
  | 0,a,c=>default
  | d+1,a,c=>if(a:Int) < (c:Int) then bnd (y2 f ((a+c) / 2) default) λ b=>bnd (jX (bB.mk b.au (F2 b.cz.ls) (F2 b.bJ.ls) b.aS) g) λ e=>if e < 0 then df f g d (((a+c) / 2)+1) c else df f g d a ((a+c) / 2) else a
def bF (b:List bB) (d:Nat):Int × Bool:=
 bnd (df b d ((b.length - 0)+1) 0 b.length) λ sLrL=>if(sLrL:Int) < (b.length:Int) then bnd (y2 b sLrL default) λ a=>bnd (jX (bB.mk a.au (F2 a.cz.ls) (F2 a.bJ.ls) a.aS) d) λ c=>((sLrL:Int),decide (c=0)) else((sLrL:Int),false)
theorem lM (w D z Y X d0 h r M Z) (H:Own w D w []) (K:s1 aP.abs d0=h) (o:Ro w D λ w'=>bO w' 4 z Y (q2 aP.cells d0)) (m:∀ x ∈ d0,Ro w D (λ w'=>bO w' 6 x.cz.A x.cz.ls.length (q2 aX.cells x.cz.ls))/\(x.cz.ls.length<=x.cz.c/\x.cz.ls.length<=9223372036854775807)/\Ro w D (λ w'=>bO w' 3 x.bJ.A x.bJ.ls.length (q2 aF.cells x.bJ.ls))/\(x.bJ.ls.length<=x.bJ.c/\x.bJ.ls.length<=9223372036854775807)) (aa:Y=h.length) (aI:h.length *64<=211106232532992) (hr:bF h r=(M,Z)):
    Calls u9 131 #[.slice z Y X,vU r, .func (.func 132) #[] #[]] w (dI λ v w'=>v= .tuple #[vI M, .bool Z]/\Own w D w' []/\(0<=M/\M<=((h.length:Nat):Int))/\(Bool.toNat Z=0\/M < ((h.length:Nat):Int))):=by
 unfold bF at hr
 subst aa
 have av:=aY K
 refine cb Tryz.func131 ?_
 refine sr (Az rfl (Ar rfl (Mz rfl (Kz (vJ h.length) (Ar rfl (Mz rfl (Az rfl (An rfl (H7 (bo ?_))))))))))
 have af:=H.pk []
 obtain⟨ag,n⟩:=yu λ (a:Nat) (b:Nat) (s:Nat) w'=>Own w D w' []/\a<=b/\b<=h.length/\b - a < s/\df h r ((h.length - 0)+1) 0 h.length=df h r s a b
 refine y6 (λ i:Nat × Nat × Nat=> [(9,vJ i.1),(10,vJ i.2.1),(8,vJ h.length),(7, .bool false),(6,vI 0),(0, .slice z h.length X),(1,vU r),(2, .func (.func 132) #[] #[])]) ag (λ i=>i.2.2) (0,h.length,(h.length - 0)+1) ⟨rfl,rfl,rfl,rfl,rfl,rfl,rfl,rfl,trivial⟩ (n.2 ⟨af,e8,e8,e8,rfl⟩) ?_
 rintro ⟨a,b,s⟩ aJ N
 show Wp _ _ _ [(9,vJ a),(10,vJ b),(8,vJ h.length),(7, .bool false),(6,vI 0),(0, .slice z h.length X),(1,vU r),(2, .func (.func 132) #[] #[])] _ _
 obtain⟨l,ax,ay,az,t⟩:=n.1 N
 obtain⟨p,O⟩:∃ q,s=q+1:=⟨s - 1,e8⟩
 subst O
 refine H7 (sr (Mz rfl (Mz rfl (Kz (.bool (decide ((a:Int) < (b:Int)))) (nt ?_)))))
 by_cases u:(a:Int) < (b:Int)
 refine jT (dT u) (sk (bo (sr (Mz rfl (Mz rfl (fw (vJ (a+b)) (Ig (e:=B5.wrap ((a:Int)+(b:Int))) yk f1) (fw (vU (a+b)) (Ig (e:=H3.wrap ((a+b:Nat):Int)) yk (IntWalk.u64_in _ e8)) (fw (vU ((a+b) / 2)) (Ig (e:=Int.fdiv ((a+b:Nat):Int) 2) yk (uG _ 1 _ f5)) (fw (vJ ((a+b) / 2)) (Ig (e:=B5.wrap (((a+b) / 2:Nat):Int)) yk (Lj _ e8)) (Ar rfl (Mz rfl (Mz rfl (Mz rfl ?_)))))))))))))
 obtain⟨d,j⟩:=dG (ls:=d0) (i:=(a+b) / 2) aP.len f5 (l.ro o) f2
 have E:=fO K j
 have aA:=(m _ (D4 j)).2.1
 have aB:=(m _ (D4 j)).2.2.2
 refine fw (.pointer (some ⟨ab z,ao z+((a+b) / 2) *4,none⟩)) (Im (lJ) rfl rfl ((l.ro o).addr (i:=(a+b) / 2) e8) e8) (fw (.agg (aP.cells d).toArray) (Il rfl (Io (cs:=(aP.cells d)) Q4 Q5 ((l.ro o).elem aP.len j f5))) (Mz rfl ?_))
 obtain⟨L,y⟩:∃ q,jX (bB.mk d.au (F2 d.cz.ls) (F2 d.bJ.ls) d.aS) r=q:=⟨_,rfl⟩
 obtain⟨aK,P,F,Q,aC⟩:=Ia l
 refine WL.do rfl (IM Tryz.call132 rfl rfl (nW _ _ (bB.mk d.au (F2 d.cz.ls) (F2 d.bJ.ls) d.aS) d.cz.A d.cz.ls.length d.cz.c d.bJ.A d.bJ.ls.length d.bJ.c r L P rfl (F _ (m _ (D4 j)).1) e8 rfl (F _ (m _ (D4 j)).2.2.1) e8 y) ?_)
 rintro _ aL ⟨rfl,R⟩
 have S:=Q _ _ R
 refine Kz (.bool (decide (L < 0))) (nt ?_)
 by_cases B:L < 0
 refine jT (dT B) (H8 (Mz rfl (fw (vI ((((a+b) / 2)+1:Nat):Int)) (Ig (e:=B5.wrap ((((a+b) / 2:Nat):Int)+1)) yk f1) (Az rfl (B6 (bN ?_))))))
 have ah:=S.pk []
 exact Iq (((a+b) / 2)+1,b,p) ⟨rfl,rfl,rfl,rfl,rfl,rfl,rfl,rfl,trivial⟩ (n.2 ⟨ah,e8,e8,e8,et (t) (et (ip u) (et (ae (bu E)) (et (ae y) (ip B))))⟩) (by show p < p+1; omega)
 refine jF (dF B) (H8 (Mz rfl (Az rfl (B6 (bN ?_)))))
 have ai:=S.pk []
 exact Iq (a,(a+b) / 2,p) ⟨rfl,rfl,rfl,rfl,rfl,rfl,rfl,rfl,trivial⟩ (n.2 ⟨ai,e8,e8,e8,et (t) (et (ip u) (et (ae (bu E)) (et (ae y) (iN B))))⟩) (by show p < p+1; omega)
 refine jF (dF u) (B7 (Ip ?_))
 have G:df h r ((h.length - 0)+1) 0 h.length=a:=et (t) (iN u)
 refine Ip (Iz (Ib (sr (Mz rfl (Mz rfl (Mz rfl (Kz (.bool (decide ((a:Int) < (h.length:Int)))) (Mz rfl ?_))))))))
 by_cases g:(a:Int) < (h.length:Int)
 refine gw (.func (.func 132) #[] #[]) (dT g) (Ie rfl) (gw (.slice z h.length X) (dT g) (Ie rfl) (gw (vJ a) (dT g) (Ie rfl) ?_))
 obtain⟨f,k⟩:=dG (ls:=d0) (i:=a) aP.len f5 (l.ro o) f2
 have T:=fO K k
 have aD:=(m _ (D4 k)).2.1
 have aG:=(m _ (D4 k)).2.2.2
 refine gw (.pointer (some ⟨ab z,ao z+a *4,none⟩)) (dT g) (Im (lJ) rfl rfl ((l.ro o).addr (i:=a) e8) e8) (gw (.agg (aP.cells f).toArray) (dT g) (Il rfl (Io (cs:=(aP.cells f)) Q4 Q5 ((l.ro o).elem aP.len k f5))) (gw (vU r) (dT g) (Ie rfl) ?_))
 obtain⟨C,I⟩:∃ q,jX (bB.mk f.au (F2 f.cz.ls) (F2 f.bJ.ls) f.aS) r=q:=⟨_,rfl⟩
 obtain⟨aM,U,J,V,aH⟩:=Ia l
 refine I9 rfl rfl (dT g) rfl (IM Tryz.call132 rfl rfl (nW _ _ (bB.mk f.au (F2 f.cz.ls) (F2 f.bJ.ls) f.aS) f.cz.A f.cz.ls.length f.cz.c f.bJ.A f.bJ.ls.length f.bJ.c r C U rfl (J _ (m _ (D4 k)).1) e8 rfl (J _ (m _ (D4 k)).2.2.1) e8 I) ?_)
 rintro _ aN ⟨rfl,W⟩
 have aj:=V _ _ W
 refine Gz (.bool (decide (C=0))) (dT g) (fw (.bool (decide (C=0))) (Ic rfl (dT g) rfl) (Az rfl (An rfl (rt (Ir (kD rfl rfl rfl) ?_)))))
 have ak:=aj.pk []
 obtain⟨rfl,rfl⟩:=fB (zj hr (show _=(((a:Nat):Int),decide (C=0)) from et (ae G) (et (ip g) (et (ae (bu T)) (ae I)))))
 exact⟨rfl,ak,e8,i1⟩
 refine Sz (dF g) (Sz (dF g) (Sz (dF g) (Sz (dF g) (Sz (dF g) (Sz (dF g) (Sz (dF g) (Sz (dF g) (fw (.bool false) (H6 rfl (dF g) rfl) (Az rfl (An rfl (rt (Ir (kD rfl rfl rfl) ?_))))))))))))
 have au:=l.pk []
 obtain⟨rfl,rfl⟩:=fB (zj hr zq2)
 exact⟨rfl,au,e8,i1⟩
def bX (b:ax) (c:Nat):Int × Bool:=
 bnd (bF b.ag.ls c) λ a=>(a.1,a.2)
theorem je (w D B) (a:ax) (k l m n o p d e f r s I C M) (H:Own w D w [blk B (kB a k a.aa.ah.ls.length l m a.aa.ak.ls.length n o a.aa.af.ls.length p a.aa.bi r d a.ag.ls.length e s) 80]) (h:s1 aP.abs f=a.ag.ls) (z:Ro w D λ w'=>bO w' 4 d a.ag.ls.length (q2 aP.cells f)) (N:a.ag.ls.length<=e/\a.ag.ls.length<=9223372036854775807) (b:∀ x ∈ f,Ro w D (λ w'=>bO w' 6 x.cz.A x.cz.ls.length (q2 aX.cells x.cz.ls))/\(x.cz.ls.length<=x.cz.c/\x.cz.ls.length<=9223372036854775807)/\Ro w D (λ w'=>bO w' 3 x.bJ.A x.bJ.ls.length (q2 aF.cells x.bJ.ls))/\(x.bJ.ls.length<=x.bJ.c/\x.bJ.ls.length<=9223372036854775807)) (R:a.ag.ls.length<=1000) (hr:bX a I=(C,M)):
    Calls u9 79 #[vP B 0,vU I] w (dI λ v w'=>v= .tuple #[vI C, .bool M]/\Own w D w' [blk B (kB a k a.aa.ah.ls.length l m a.aa.ak.ls.length n o a.aa.af.ls.length p a.aa.bi r d a.ag.ls.length e s) 80]/\(0<=C/\C<=((a.ag.ls.length:Nat):Int))/\(Bool.toNat M=0\/C < ((a.ag.ls.length:Nat):Int))):=by
 unfold bX at hr
 have J:=aY h
 refine cb Tryz.func79 ?_
 refine sr (Az rfl (Ar rfl (Mz rfl (Kz (vP B 0) (Kz (vP B 18) (Lz (.slice d a.ag.ls.length e) H 0 Q6 (Mz rfl ?_)))))))
 obtain⟨⟨g,j⟩,t⟩:∃ q:Int × Bool,bF a.ag.ls I=q:=⟨_,rfl⟩
 obtain⟨S,E,i,F,Q⟩:=Ia H
 refine cl Tryz.call131 (lM _ _ d a.ag.ls.length e f a.ag.ls I g j E h (i _ z) (λ K L=>⟨i _ (b K L).1,(b K L).2.1,i _ (b K L).2.2.1,(b K L).2.2.2⟩) rfl e8 t) ?_
 rintro _ T ⟨rfl,G,u,y⟩
 have O:=F _ _ G
 replace u:0<=g/\g<=(a.ag.ls.length:Int):=u
 replace y:Bool.toNat j=0\/g < (a.ag.ls.length:Int):=y
 refine Kz (vI g) (Kz (.bool j) (Az rfl (An rfl (rt (Ir (kD rfl rfl rfl) ?_)))))
 have P:=O.pf []
 obtain⟨rfl,rfl⟩:=fB (zj hr zq1)
 exact⟨rfl,P,e8,i1⟩
def kL (b:dA) (c:Nat):Int:=
 bnd (eG b.aU c) λ a=>a
theorem oG (w D) (a:dA) (b d c l s) (H:Own w D w []) (f:d=a.aK.ls.length) (m:Ro w D λ w'=>bO w' 6 b a.aK.ls.length (q2 aX.cells a.aK.ls)) (n:a.aK.ls.length<=c/\a.aK.ls.length<=9223372036854775807) (hr:kL a l=s):
    Calls u9 128 #[.agg #[vU a.aU, .slice b d c],vU l] w (dI λ v w'=>v=vI s/\Own w D w' []):=by
 unfold kL at hr
 subst f
 refine cb Tryz.func128 ?_
 refine sr ?_
 refine bW [vU a.aU, .slice b a.aK.ls.length c] 60 H ?_
 intro o x g
 refine Ar rfl (Kz (vP o 0) (Lz (vU a.aU) g 0 E1 (Mz rfl ?_)))
 obtain⟨h,e⟩:∃ q,eG a.aU l=q:=⟨_,rfl⟩
 obtain⟨y,i,t,j,u⟩:=Ia g
 refine cl Tryz.call129 (l8 _ _ a.aU l h i e) ?_
 rintro _ z ⟨rfl,k⟩
 have p:=j _ _ k
 refine An rfl (rt (rs ?_))
 have r:=p.pk []
 obtain rfl:=zj hr zq1
 exact⟨rfl,r⟩
def dD (f:List dA) (g:Nat):Nat->Nat->Nat->Nat
  | 0,a,b=>default
  | d+1,a,b=>if(a:Int) < (b:Int) then bnd (y2 f ((a+b) / 2) default) λ c=>bnd (kL (dA.mk c.aU (F2 c.aK.ls)) g) λ e=>if e < 0 then dD f g d (((a+b) / 2)+1) b else dD f g d a ((a+b) / 2) else a
def bG (b:List dA) (d:Nat):Int × Bool:=
 bnd (dD b d ((b.length - 0)+1) 0 b.length) λ sLrL=>if(sLrL:Int) < (b.length:Int) then bnd (y2 b sLrL default) λ a=>bnd (kL (dA.mk a.aU (F2 a.aK.ls)) d) λ c=>((sLrL:Int),decide (c=0)) else((sLrL:Int),false)
theorem mE (w D y Y X d0 h p K Z) (H:Own w D w []) (I:s1 bf.abs d0=h) (n:Ro w D λ w'=>bO w' 2 y Y (q2 bf.cells d0)) (z:∀ x ∈ d0,Ro w D (λ w'=>bO w' 6 x.aK.A x.aK.ls.length (q2 aX.cells x.aK.ls))/\(x.aK.ls.length<=x.aK.c/\x.aK.ls.length<=9223372036854775807)) (aa:Y=h.length) (aF:h.length *32<=211106232532992) (hr:bG h p=(K,Z)):
    Calls u9 127 #[.slice y Y X,vU p, .func (.func 128) #[] #[]] w (dI λ v w'=>v= .tuple #[vI K, .bool Z]/\Own w D w' []/\(0<=K/\K<=((h.length:Nat):Int))/\(Bool.toNat Z=0\/K < ((h.length:Nat):Int))):=by
 unfold bG at hr
 subst aa
 have av:=aY I
 refine cb Tryz.func127 ?_
 refine sr (Az rfl (Ar rfl (Mz rfl (Kz (vJ h.length) (Ar rfl (Mz rfl (Az rfl (An rfl (H7 (bo ?_))))))))))
 have af:=H.pk []
 obtain⟨ag,k⟩:=yu λ (a:Nat) (b:Nat) (r:Nat) w'=>Own w D w' []/\a<=b/\b<=h.length/\b - a < r/\dD h p ((h.length - 0)+1) 0 h.length=dD h p r a b
 refine y6 (λ i:Nat × Nat × Nat=> [(9,vJ i.1),(10,vJ i.2.1),(8,vJ h.length),(7, .bool false),(6,vI 0),(0, .slice y h.length X),(1,vU p),(2, .func (.func 128) #[] #[])]) ag (λ i=>i.2.2) (0,h.length,(h.length - 0)+1) ⟨rfl,rfl,rfl,rfl,rfl,rfl,rfl,rfl,trivial⟩ (k.2 ⟨af,e8,e8,e8,rfl⟩) ?_
 rintro ⟨a,b,r⟩ aG L
 show Wp _ _ _ [(9,vJ a),(10,vJ b),(8,vJ h.length),(7, .bool false),(6,vI 0),(0, .slice y h.length X),(1,vU p),(2, .func (.func 128) #[] #[])] _ _
 obtain⟨j,ax,ay,az,s⟩:=k.1 L
 obtain⟨o,M⟩:∃ q,r=q+1:=⟨r - 1,e8⟩
 subst M
 refine H7 (sr (Mz rfl (Mz rfl (Kz (.bool (decide ((a:Int) < (b:Int)))) (nt ?_)))))
 by_cases t:(a:Int) < (b:Int)
 refine jT (dT t) (sk (bo (sr (Mz rfl (Mz rfl (fw (vJ (a+b)) (Ig (e:=B5.wrap ((a:Int)+(b:Int))) yk f1) (fw (vU (a+b)) (Ig (e:=H3.wrap ((a+b:Nat):Int)) yk (IntWalk.u64_in _ e8)) (fw (vU ((a+b) / 2)) (Ig (e:=Int.fdiv ((a+b:Nat):Int) 2) yk (uG _ 1 _ f5)) (fw (vJ ((a+b) / 2)) (Ig (e:=B5.wrap (((a+b) / 2:Nat):Int)) yk (Lj _ e8)) (Ar rfl (Mz rfl (Mz rfl (Mz rfl ?_)))))))))))))
 obtain⟨f,l⟩:=dG (ls:=d0) (i:=(a+b) / 2) bf.len f5 (j.ro n) f2
 have E:=fO I l
 have aA:=(z _ (D4 l)).2
 refine fw (.pointer (some ⟨ab y,ao y+((a+b) / 2) *2,none⟩)) (Im (ko) rfl rfl ((j.ro n).addr (i:=(a+b) / 2) e8) e8) (fw (.agg (bf.cells f).toArray) (Il rfl (Io (cs:=(bf.cells f)) Q1 E0 ((j.ro n).elem bf.len l f5))) (Mz rfl ?_))
 obtain⟨J,u⟩:∃ q,kL (dA.mk f.aU (F2 f.aK.ls)) p=q:=⟨_,rfl⟩
 obtain⟨aH,N,O,P,aB⟩:=Ia j
 refine WL.do rfl (IM Tryz.call128 rfl rfl (oG _ _ (dA.mk f.aU (F2 f.aK.ls)) f.aK.A f.aK.ls.length f.aK.c p J N rfl (O _ (z _ (D4 l)).1) e8 u) ?_)
 rintro _ aI ⟨rfl,Q⟩
 have R:=P _ _ Q
 refine Kz (.bool (decide (J < 0))) (nt ?_)
 by_cases B:J < 0
 refine jT (dT B) (H8 (Mz rfl (fw (vI ((((a+b) / 2)+1:Nat):Int)) (Ig (e:=B5.wrap ((((a+b) / 2:Nat):Int)+1)) yk f1) (Az rfl (B6 (bN ?_))))))
 have ah:=R.pk []
 exact Iq (((a+b) / 2)+1,b,o) ⟨rfl,rfl,rfl,rfl,rfl,rfl,rfl,rfl,trivial⟩ (k.2 ⟨ah,e8,e8,e8,et (s) (et (ip t) (et (ae (bu E)) (et (ae u) (ip B))))⟩) (by show o < o+1; omega)
 refine jF (dF B) (H8 (Mz rfl (Az rfl (B6 (bN ?_)))))
 have ai:=R.pk []
 exact Iq (a,(a+b) / 2,o) ⟨rfl,rfl,rfl,rfl,rfl,rfl,rfl,rfl,trivial⟩ (k.2 ⟨ai,e8,e8,e8,et (s) (et (ip t) (et (ae (bu E)) (et (ae u) (iN B))))⟩) (by show o < o+1; omega)
 refine jF (dF t) (B7 (Ip ?_))
 have F:dD h p ((h.length - 0)+1) 0 h.length=a:=et (s) (iN t)
 refine Ip (Iz (Ib (sr (Mz rfl (Mz rfl (Mz rfl (Kz (.bool (decide ((a:Int) < (h.length:Int)))) (Mz rfl ?_))))))))
 by_cases d:(a:Int) < (h.length:Int)
 refine gw (.func (.func 128) #[] #[]) (dT d) (Ie rfl) (gw (.slice y h.length X) (dT d) (Ie rfl) (gw (vJ a) (dT d) (Ie rfl) ?_))
 obtain⟨g,m⟩:=dG (ls:=d0) (i:=a) bf.len f5 (j.ro n) f2
 have S:=fO I m
 have aC:=(z _ (D4 m)).2
 refine gw (.pointer (some ⟨ab y,ao y+a *2,none⟩)) (dT d) (Im (ko) rfl rfl ((j.ro n).addr (i:=a) e8) e8) (gw (.agg (bf.cells g).toArray) (dT d) (Il rfl (Io (cs:=(bf.cells g)) Q1 E0 ((j.ro n).elem bf.len m f5))) (gw (vU p) (dT d) (Ie rfl) ?_))
 obtain⟨C,G⟩:∃ q,kL (dA.mk g.aU (F2 g.aK.ls)) p=q:=⟨_,rfl⟩
 obtain⟨aJ,T,U,V,aD⟩:=Ia j
 refine I9 rfl rfl (dT d) rfl (IM Tryz.call128 rfl rfl (oG _ _ (dA.mk g.aU (F2 g.aK.ls)) g.aK.A g.aK.ls.length g.aK.c p C T rfl (U _ (z _ (D4 m)).1) e8 G) ?_)
 rintro _ aK ⟨rfl,W⟩
 have aj:=V _ _ W
 refine Gz (.bool (decide (C=0))) (dT d) (fw (.bool (decide (C=0))) (Ic rfl (dT d) rfl) (Az rfl (An rfl (rt (Ir (kD rfl rfl rfl) ?_)))))
 have ak:=aj.pk []
 obtain⟨rfl,rfl⟩:=fB (zj hr (show _=(((a:Nat):Int),decide (C=0)) from et (ae F) (et (ip d) (et (ae (bu S)) (ae G)))))
 exact⟨rfl,ak,e8,i1⟩
 refine Sz (dF d) (Sz (dF d) (Sz (dF d) (Sz (dF d) (Sz (dF d) (Sz (dF d) (Sz (dF d) (Sz (dF d) (fw (.bool false) (H6 rfl (dF d) rfl) (Az rfl (An rfl (rt (Ir (kD rfl rfl rfl) ?_))))))))))))
 have au:=j.pk []
 obtain⟨rfl,rfl⟩:=fB (zj hr zq2)
 exact⟨rfl,au,e8,i1⟩
def d9 (b:ax) (c:Nat):Int × Bool:=
 bnd (bG b.aa.ak.ls c) λ a=>(a.1,a.2)
theorem mX (w D B) (a:ax) (j k b d e l m n o p r I C K) (H:Own w D w [blk B (kB a j a.aa.ah.ls.length k b a.aa.ak.ls.length d l a.aa.af.ls.length m a.aa.bi p n a.ag.ls.length o r) 80]) (g:s1 bf.abs e=a.aa.ak.ls) (z:Ro w D λ w'=>bO w' 2 b a.aa.ak.ls.length (q2 bf.cells e)) (L:a.aa.ak.ls.length<=d/\a.aa.ak.ls.length<=9223372036854775807) (h:∀ x ∈ e,Ro w D (λ w'=>bO w' 6 x.aK.A x.aK.ls.length (q2 aX.cells x.aK.ls))/\(x.aK.ls.length<=x.aK.c/\x.aK.ls.length<=9223372036854775807)) (R:a.aa.ak.ls.length<=1000) (hr:d9 a I=(C,K)):
    Calls u9 77 #[vP B 0,vU I] w (dI λ v w'=>v= .tuple #[vI C, .bool K]/\Own w D w' [blk B (kB a j a.aa.ah.ls.length k b a.aa.ak.ls.length d l a.aa.af.ls.length m a.aa.bi p n a.ag.ls.length o r) 80]/\(0<=C/\C<=((a.aa.ak.ls.length:Nat):Int))/\(Bool.toNat K=0\/C < ((a.aa.ak.ls.length:Nat):Int))):=by
 unfold d9 at hr
 have J:=aY g
 refine cb Tryz.func77 ?_
 refine sr (Az rfl (Ar rfl (Mz rfl (Kz (vP B 0) (Kz (vP B 0) (Kz (vP B 6) (Lz (.slice b a.aa.ak.ls.length d) H 0 D3 (Mz rfl ?_))))))))
 obtain⟨⟨f,i⟩,s⟩:∃ q:Int × Bool,bG a.aa.ak.ls I=q:=⟨_,rfl⟩
 obtain⟨S,E,t,F,O⟩:=Ia H
 refine cl Tryz.call127 (mE _ _ b a.aa.ak.ls.length d e a.aa.ak.ls I f i E g (t _ z) (λ P Q=>⟨t _ (h P Q).1,(h P Q).2⟩) rfl e8 s) ?_
 rintro _ T ⟨rfl,G,u,y⟩
 have M:=F _ _ G
 replace u:0<=f/\f<=(a.aa.ak.ls.length:Int):=u
 replace y:Bool.toNat i=0\/f < (a.aa.ak.ls.length:Int):=y
 refine Kz (vI f) (Kz (.bool i) (Az rfl (An rfl (rt (Ir (kD rfl rfl rfl) ?_)))))
 have N:=M.pf []
 obtain⟨rfl,rfl⟩:=fB (zj hr zq1)
 exact⟨rfl,N,e8,i1⟩
def fQ:List bB->List Nat->(List Nat)
  | [],a=>a
  | b::c,a=>fQ c (a++ [b.au])
def jG (a:ax):(List Nat):=
 bnd (fQ a.ag.ls []) λ sLrL=>sLrL
theorem qJ (w D M) (a:ax) (l n o p r t f g u z B V) (H:Own w D w [blk M (kB a l a.aa.ah.ls.length n o a.aa.ak.ls.length p r a.aa.af.ls.length t a.aa.bi z f a.ag.ls.length g B) 80]) (E:s1 aP.abs u=a.ag.ls) (j:Ro w D λ w'=>bO w' 4 f a.ag.ls.length (q2 aP.cells u)) (X:a.ag.ls.length<=g/\a.ag.ls.length<=9223372036854775807) (F:∀ x ∈ u,Ro w D (λ w'=>bO w' 6 x.cz.A x.cz.ls.length (q2 aX.cells x.cz.ls))/\(x.cz.ls.length<=x.cz.c/\x.cz.ls.length<=9223372036854775807)/\Ro w D (λ w'=>bO w' 3 x.bJ.A x.bJ.ls.length (q2 aF.cells x.bJ.ls))/\(x.bJ.ls.length<=x.bJ.c/\x.bJ.ls.length<=9223372036854775807)) (aJ:a.ag.ls.length<=1000) (hr:jG a=V):
    Calls u9 12 #[vP M 0] w (dI λ v w'=> ∃ B0 b0,v= .slice B0 V.length b0/\Own w D w' [row B0 V.length b0 (q2 (eN .u64) V) 32 1,blk M (kB a l a.aa.ah.ls.length n o a.aa.ak.ls.length p r a.aa.af.ls.length t a.aa.bi z f a.ag.ls.length g B) 80]):=by
 unfold jG at hr
 have W:=aY E
 refine cb Tryz.func12 ?_
 refine sr (Ar rfl (An rfl (H7 (sr (Mz rfl (Kz (vP M 0) (Kz (vP M 18) (Lz (.slice f a.ag.ls.length g) H 0 Q6 (Kz (vJ a.ag.ls.length) (Mn rfl (bo ?_)))))))))))
 have Y:Own w D w [row none 0 0 (q2 (eN .u64) []) 32 1,blk M (kB a l a.aa.ah.ls.length n o a.aa.ak.ls.length p r a.aa.af.ls.length t a.aa.bi z f a.ag.ls.length g B) 80]:=H.free (bZ 32 1)
 have Z:=Y.pb [0]
 obtain⟨aa,G⟩:=vQ λ J (K:Nat) d (b:Nat) w'=>Own w D w' [blk M (kB a l a.aa.ah.ls.length n o a.aa.ak.ls.length p r a.aa.af.ls.length t a.aa.bi z f a.ag.ls.length g B) 80,row J d.length K (q2 (eN .u64) d) 32 1]/\b<=a.ag.ls.length/\d.length=b/\d.length<=b/\fQ a.ag.ls []=fQ (s0 b a.ag.ls) d
 refine y6 (λ i:(Option Addr) × Nat × (List Nat) × Nat=> [(3, .slice i.1 i.2.2.1.length i.2.1),(11,vJ i.2.2.2),(10,vJ a.ag.ls.length),(9, .slice f a.ag.ls.length g),(2, .slice none 0 0)]) aa (λ i=>a.ag.ls.length - i.2.2.2) (none,0, [],0) ⟨rfl,rfl,rfl,rfl,rfl,trivial⟩ (G.2 ⟨Z,(show 0<=a.ag.ls.length/\0=0/\0<=0/\fQ a.ag.ls []=fQ (s0 0 a.ag.ls) [] from ⟨e8,e8,e8,rfl⟩)⟩) ?_
 rintro ⟨J,K,d,b⟩ aK O
 show Wp _ _ _ [(3, .slice J d.length K),(11,vJ b),(10,vJ a.ag.ls.length),(9, .slice f a.ag.ls.length g),(2, .slice none 0 0)] _ _
 obtain⟨I,aB,aC,aD,L⟩:=G.1 O
 refine sr (Kz (.bool (decide ((b:Int) < (a.ag.ls.length:Int)))) (nt (H7 ?_)))
 by_cases P:(b:Int) < (a.ag.ls.length:Int)
 obtain⟨h,C⟩:=dG (ls:=u) (i:=b) aP.len f5 (I.ro j) f2
 have Q:=fO E C
 have aG:=(F _ (D4 C)).2.1
 have aH:=(F _ (D4 C)).2.2.2
 have R:=drop_at Q
 refine jT (dT P) (sk (H7 (bo (sr (fw (.pointer (some ⟨ab f,ao f+b *4,none⟩)) (Im (lJ) rfl rfl ((I.ro j).addr (i:=b) e8) e8) (fw (.agg (aP.cells h).toArray) (Il rfl (Io (cs:=(aP.cells h)) Q4 Q5 ((I.ro j).elem aP.len C f5))) ?_))))))
 refine bW [.int .u64 0, .slice none 0 0, .slice none 0 0,vI 0] 99 I ?_
 intro af aL ag
 refine cu (aP.cells h) 0 ag Q5 ?_
 intro aM S
 refine nt (H8 (Mz rfl (Kz (vP af 0) (Lz (vU h.au) S 0 E1 ?_))))
 refine jN [vU h.au] 32 1 1 S ?_
 intro ah aN N
 replace N:=IL (y:=row ah 1 1 (q2 (eN .u64) ([h.au])) 32 1) rfl N
 have T:=N.pf [3]
 refine WL.do rfl (IC (k:=d.length) (m:=1) (iH) T rfl rfl (eY O4 (T.rds (i:=1) rfl) (cZ mi ([h.au]))) rfl e8 (s:=q7 (d++ [h.au])) f3 (t7).symm ?_)
 intro ai aj aO ak
 have aI:q7 (d++ [h.au])=d.length+1:=by simp only [o0,r5,K1]
 refine Az rfl (B6 (bN (Ib ?_)))
 have au:=ak.pk [0,3]
 refine H8 (fw (vJ (b+1)) (Ig (e:=B5.wrap ((b:Int)+1)) yk f1) (Mz rfl (B6 ?_)))
 have av:=au.pb [0]
 exact Iq (ai,aj,(d++ [h.au]),b+1) ⟨rfl,rfl,rfl,rfl,rfl,trivial⟩ (G.2 ⟨av,e8,e8,e8,et (L) (et (congrArg (λ q=>fQ q d) R) rfl)⟩) (by show a.ag.ls.length - (b+1) < a.ag.ls.length - b; omega)
 refine jF (dF P) (B7 (Ip ?_))
 have U:fQ a.ag.ls []=d:=et (L) (et (congrArg (λ q=>fQ q d) (eX (ls:=a.ag.ls) (i:=b) e8)) rfl)
 refine Ip (Iz (Ib (sr (Mz rfl (An rfl (rt (rs ?_)))))))
 have ay:=I.pb [0]
 obtain rfl:=zj hr zq1
 exact⟨J,K,rfl,ay⟩
def kV (a:Nat):Bool:=
 false
theorem qo (w D a c) (H:Own w D w []) (hr:kV a=c):
    Calls u9 126 #[vU a] w (dI λ v w'=>v= .bool c/\Own w D w' []):=by
 refine cb Tryz.func126 ?_
 refine sr (Ar rfl (Mz rfl (Mz rfl (fw (.bool false) (Iu (e:= !(decide ((a:Int)=(a:Int)))) yk i3) (An rfl (rt (rs ?_)))))))
 have b:=H.pk []
 obtain rfl:_=false:=zj hr rfl
 exact⟨rfl,b⟩
def fe (f:List Nat) (g:Nat):Nat->Nat->Nat->Nat
  | 0,a,b=>default
  | c+1,a,b=>if(a:Int) < (b:Int) then bnd (y2 f ((a+b) / 2) default) λ d=>bnd (lF d g) λ e=>if e=true then fe f g c (((a+b) / 2)+1) b else fe f g c a ((a+b) / 2) else a
def eu (b:List Nat) (e:Nat):Int × Bool:=
 bnd (fe b e ((G0 ((b.length:Int) - 0))+1) 0 b.length) λ sLrL=>if(sLrL:Int) < (b.length:Int) then bnd (y2 b sLrL default) λ a=>if(a:Int)=(e:Int) then((sLrL:Int),true) else bnd (kV a) λ c=>if c=true then bnd (kV e) λ d=>((sLrL:Int),d) else((sLrL:Int),false) else((sLrL:Int),false)
theorem ky (w D s Y I f m X r1) (H:Own w D w []) (j:Ro w D λ w'=>bO w' 1 s Y (q2 (eN .u64) f)) (Z:Y=f.length) (aH:f.length *8<=211106232532992) (hr:eu f m=(X,r1)):
    Calls u9 76 #[.slice s Y I,vU m] w (dI λ v w'=>v= .tuple #[vI X, .bool r1]/\Own w D w' []/\(0<=X/\X<=((f.length:Nat):Int))):=by
 unfold eu at hr
 subst Z
 refine cb Tryz.func76 ?_
 refine sr (Az rfl (Ar rfl (Mz rfl (Kz (vJ f.length) (Ar rfl (Mz rfl (Az rfl (An rfl (H7 (bo ?_))))))))))
 have aa:=H.pk []
 obtain⟨af,o⟩:=yu λ (a:Nat) (c:Nat) (t:Nat) w'=>Own w D w' []/\(0<=a/\a<=(c:Int)/\c<=f.length)/\G0 ((c:Int) - a) < t/\fe f m ((G0 ((f.length:Int) - 0))+1) 0 f.length=fe f m t a c
 refine y6 (λ i:Nat × Nat × Nat=> [(7,vJ i.1),(8,vJ i.2.1),(6,vJ f.length),(5, .bool false),(4,vI 0),(0, .slice s f.length I),(1,vU m)]) af (λ i=>i.2.2) (0,f.length,(G0 ((f.length:Int) - 0))+1) ⟨rfl,rfl,rfl,rfl,rfl,rfl,rfl,trivial⟩ (o.2 ⟨aa,e8,e8,rfl⟩) ?_
 rintro ⟨a,c,t⟩ aI J
 show Wp _ _ _ [(7,vJ a),(8,vJ c),(6,vJ f.length),(5, .bool false),(4,vI 0),(0, .slice s f.length I),(1,vU m)] _ _
 obtain⟨g,ay,az,u⟩:=o.1 J
 obtain⟨r,K⟩:∃ q,t=q+1:=⟨t - 1,e8⟩
 subst K
 refine H7 (sr (Mz rfl (Mz rfl (Kz (.bool (decide ((a:Int) < (c:Int)))) (nt ?_)))))
 by_cases x:(a:Int) < (c:Int)
 refine jT (dT x) (sk (bo (sr (Mz rfl (Mz rfl (fw (vJ (a+c)) (Ig (e:=B5.wrap ((a:Int)+(c:Int))) yk f1) (fw (vU (a+c)) (Ig (e:=H3.wrap ((a+c:Nat):Int)) yk (IntWalk.u64_in _ e8)) (fw (vU ((a+c) / 2)) (Ig (e:=Int.fdiv ((a+c:Nat):Int) 2) yk (uG _ 1 _ f5)) (fw (vJ ((a+c) / 2)) (Ig (e:=B5.wrap (((a+c) / 2:Nat):Int)) yk (Lj _ e8)) (Ar rfl (Mz rfl (Mz rfl ?_))))))))))))
 obtain⟨F,y⟩:=dG (ls:=f) (i:=(a+c) / 2) gT f5 (g.ro j) f2
 refine fw (.pointer (some ⟨ab s,ao s+((a+c) / 2) *1,none⟩)) (Im (iH) rfl rfl ((g.ro j).addr (i:=(a+c) / 2) e8) e8) (fw (vU F) (Il rfl (bQ.one E1 (((g.ro j).elem gT y f5).at_ (k:=0) rfl))) (Mz rfl ?_))
 obtain⟨L,z⟩:∃ q,lF F m=q:=⟨_,rfl⟩
 obtain⟨aJ,M,aA,N,aB⟩:=Ia g
 refine cl Tryz.call125 (rZ _ _ F m L M z) ?_
 rintro _ aK ⟨rfl,O⟩
 have P:=N _ _ O
 refine nt ?_
 rcases Lr (L) with A | A
 refine jT A (H8 (Mz rfl (fw (vI ((((a+c) / 2)+1:Nat):Int)) (Ig (e:=B5.wrap ((((a+c) / 2:Nat):Int)+1)) yk f1) (Az rfl (B6 (bN ?_))))))
 have ag:=P.pk []
 exact Iq (((a+c) / 2)+1,c,r) ⟨rfl,rfl,rfl,rfl,rfl,rfl,rfl,trivial⟩ (o.2 ⟨ag,e8,e8,et (u) (et (ip x) (et (ae (bu y)) (et (ae z) (ip A))))⟩) (by show r < r+1; omega)
 refine jF A (H8 (Mz rfl (Az rfl (B6 (bN ?_)))))
 have ah:=P.pk []
 exact Iq (a,(a+c) / 2,r) ⟨rfl,rfl,rfl,rfl,rfl,rfl,rfl,trivial⟩ (o.2 ⟨ah,e8,e8,et (u) (et (ip x) (et (ae (bu y)) (et (ae z) (eF A))))⟩) (by show r < r+1; omega)
 refine jF (dF x) (B7 (Ip ?_))
 have p:fe f m ((G0 ((f.length:Int) - 0))+1) 0 f.length=a:=et (u) (iN x)
 refine Ip (Iz (Ib (sr (Mz rfl (Mz rfl (Mz rfl (Kz (.bool (decide ((a:Int) < (f.length:Int)))) (Mz rfl ?_))))))))
 by_cases b:(a:Int) < (f.length:Int)
 refine gw (.slice s f.length I) (dT b) (Ie rfl) (gw (vJ a) (dT b) (Ie rfl) ?_)
 obtain⟨n,l⟩:=dG (ls:=f) (i:=a) gT f5 (g.ro j) f2
 refine gw (.pointer (some ⟨ab s,ao s+a *1,none⟩)) (dT b) (Im (iH) rfl rfl ((g.ro j).addr (i:=a) e8) e8) (gw (vU n) (dT b) (Il rfl (bQ.one E1 (((g.ro j).elem gT l f5).at_ (k:=0) rfl))) (gw (vU m) (dT b) (Ie rfl) (Gz (.bool (decide ((n:Int)=(m:Int)))) (dT b) (gw (.bool (decide ((n:Int)=(m:Int)))) (dT b) (Ie rfl) ?_))))
 by_cases d:(n:Int)=(m:Int)
 refine Sz (dT d) (Sz (dT d) (Sz (dT d) (Sz (dT d) (Sz (dT d) (Sz (dT d) (Ij rfl rfl rfl (Ij rfl rfl rfl (Sz (dT d) (gw (.bool true) (dT b) (Ic rfl (dT d) rfl) (fw (.bool true) (Ic rfl (dT b) rfl) (Az rfl (An rfl (rt (Ir (kD rfl rfl rfl) ?_))))))))))))))
 have ai:=g.pk []
 obtain⟨rfl,rfl⟩:=fB (zj hr zq4)
 exact⟨rfl,ai,e8⟩
 refine gw (.slice s f.length I) (dF d) (Ie rfl) (gw (vJ a) (dF d) (Ie rfl) (gw (.pointer (some ⟨ab s,ao s+a *1,none⟩)) (dF d) (Im (iH) rfl rfl ((g.ro j).addr (i:=a) e8) e8) (gw (vU n) (dF d) (Il rfl (bQ.one E1 (((g.ro j).elem gT l f5).at_ (k:=0) rfl))) ?_)))
 obtain⟨G,B⟩:∃ q,kV n=q:=⟨_,rfl⟩
 obtain⟨aL,Q,aC,R,aD⟩:=Ia g
 refine oh (dF d) Tryz.call126 (qo _ _ n G Q B) ?_
 rintro _ aM ⟨rfl,S⟩
 have T:=R _ _ S
 refine gw (.bool G) (dF d) (Ie rfl) ?_
 rcases Lr (G) with h | h
 refine IQ (v:=vU m) rfl rfl h rfl (Ie rfl) ?_
 obtain⟨C,E⟩:∃ q,kV m=q:=⟨_,rfl⟩
 obtain⟨aN,U,aF,V,aG⟩:=Ia T
 refine I9 rfl rfl h rfl (IB Tryz.call126 rfl (qo _ _ m C U E) ?_)
 rintro _ aO ⟨rfl,W⟩
 have aj:=V _ _ W
 refine gw (.bool C) (dF d) (Ic rfl h rfl) (gw (.bool C) (dT b) (H6 rfl (dF d) rfl) (fw (.bool C) (Ic rfl (dT b) rfl) (Az rfl (An rfl (rt (Ir (kD rfl rfl rfl) ?_))))))
 have ak:=aj.pk []
 obtain⟨rfl,rfl⟩:=fB (zj hr zq7)
 exact⟨rfl,ak,e8⟩
 refine Sz h (Sz h (gw (.bool false) (dF d) (H6 rfl h rfl) (gw (.bool false) (dT b) (H6 rfl (dF d) rfl) (fw (.bool false) (Ic rfl (dT b) rfl) (Az rfl (An rfl (rt (Ir (kD rfl rfl rfl) ?_))))))))
 have au:=T.pk []
 obtain⟨rfl,rfl⟩:=fB (zj hr zq6)
 exact⟨rfl,au,e8⟩
 refine Sz (dF b) (Sz (dF b) (Sz (dF b) (Sz (dF b) (Sz (dF b) (Sz (dF b) (Sz (dF b) (Ij rfl rfl rfl (Ij rfl rfl rfl (Ij rfl rfl rfl (Ij rfl rfl rfl (Ij rfl rfl rfl (Ij rfl rfl rfl (Ij rfl rfl rfl (Ij rfl rfl rfl (Ij rfl rfl rfl (Sz (dF b) (fw (.bool false) (H6 rfl (dF b) rfl) (Az rfl (An rfl (rt (Ir (kD rfl rfl rfl) ?_)))))))))))))))))))))
 have av:=g.pk []
 obtain⟨rfl,rfl⟩:=fB (zj hr zq2)
 exact⟨rfl,av,e8⟩
def kU (a:List Nat) (b:Int) (c:Int):(List Nat):=
 if b=c then a else(t6 (G0 b) a++s0 (G0 c) a)
theorem ry (w D f o d a c b j) (H:Own w D w [row f o d (q2 (eN .u64) a) 32 1]) (p:o=a.length) (J:a.length *8<=211106232532992) (K:0<=c/\c<=b/\b<=((a.length:Nat):Int)) (hr:kU a c b=j):
    Calls u9 124 #[.slice f o d,vI c,vI b] w (dI λ v w'=> ∃ B C,v= .slice B j.length C/\Own w D w' [row B j.length C (q2 (eN .u64) j) 32 1]/\(j.length<=a.length)):=by
 unfold kU at hr
 subst p
 have L:=H.rowC (i:=0) rfl
 refine cb Tryz.func124 ?_
 refine sr (Ar rfl (Mz rfl (fw (vJ (G0 c)) (Ig (e:=c) (Ie rfl) e8) (fw (vJ (G0 b)) (Ig (e:=b) (Ie rfl) e8) (Mz rfl (Kz (vJ a.length) (fw (.slice (eO f (G0 c) 1 a.length) ((G0 b) - (G0 c)) (a.length - (G0 c))) (JB (iH) rfl rfl rfl rfl e8 e8 e8) (nt (H7 (sr (Mz rfl (Mz rfl (Kz (.bool (decide (c=b))) (nt ?_))))))))))))))
 by_cases h:c=b
 refine jT (dT h) (sr (Mz rfl (An rfl (rt (tR (rs ?_))))))
 have q:=H.pf []
 obtain rfl:=zj hr zq1
 exact⟨f,d,rfl,q,e8⟩
 refine jF (dF h) (sk (sr (Mz rfl (Kz (vJ a.length) (An rfl (H7 ?_))))))
 have g:=H.drew
 refine Jm [6] (λ W=> ∃ L',Own w D W ([row f a.length d (q2 (eN .u64) a) 32 1]++L')) e9 e9 (Ik Iw) ⟨_,g⟩ ?_
 revert g
 generalize World.drew w=r
 intro g
 refine qv 0 rfl rfl (qt (v:=vJ (G0 c)) 1 rfl (λ _ _=>Ig (e:=c) (Ie rfl) e8) (qt (v:= .slice f (G0 c) d) 2 rfl (λ _ _=>I4 (iH) rfl rfl e8) (qv 3 rfl rfl (qt (v:=vJ (G0 b)) 4 rfl (λ _ _=>Ig (e:=b) (Ie rfl) e8) (qt (v:= .slice (eO f (G0 b) 1 d) (a.length - (G0 b)) (d - (G0 b))) 5 rfl (λ _ _=>II (iH) rfl rfl e8) ?_)))))
 have E:q7 (t6 (G0 c) a++s0 (G0 b) a)=G0 c+(a.length - G0 b):=by simp only [o0,m8,m9]; omega
 have l:Src u9 1 35 (.slice (eO f (G0 b) 1 d) (a.length - (G0 b)) (d - (G0 b))) (a.length - G0 b) (q2 (eN .u64) (s0 (G0 b) a)) r:=eY O4 (I7 (lo:=G0 b) gT (g.rds (i:=0) rfl) e8 e8 f5) (cZ mi (s0 (G0 b) a))
 obtain⟨F,t,u⟩:=g.rowFull
 refine qd 6 rfl (Jh (k:=G0 c) (m:=a.length - G0 b) (iH) u rfl rfl l e8 (s:=q7 (t6 (G0 c) a++s0 (G0 b) a)) e8 ?_)
 intro M n
 refine⟨.inl e9, ?_⟩
 refine IP (v:= .slice f (q7 (t6 (G0 c) a++s0 (G0 b) a)) d) 7 rfl e9 (λ _=>Jc rfl) (qn (Ib (sr (Mz rfl (Mz rfl (Kz (vI ((q7 (t6 (G0 c) a++s0 (G0 b) a):Nat):Int)) (Mz rfl (fw (.slice (eO f (q7 (t6 (G0 c) a++s0 (G0 b) a)) 1 d) (a.length - (q7 (t6 (G0 c) a++s0 (G0 b) a))) (d - (q7 (t6 (G0 c) a++s0 (G0 b) a)))) (Yl.cut (iH) rfl rfl rfl e8 e8) ?_))))))))
 refine I5 (Jv (z0:=(.int .u64 0)) (lo:=q7 (t6 (G0 c) a++s0 (G0 b) a)) (nd:=(a.length - (q7 (t6 (G0 c) a++s0 (G0 b) a)))) e9 rfl (iH) n rfl (λ _=>gu ((n.rds (i:=0) rfl).isSome e8) e8) e8 ?_)
 intro x G I y
 refine ns (Mz rfl (An rfl (rt (rs ?_))))
 have z:Own w D x [row f (q7 (t6 (G0 c) a++s0 (G0 b) a)) d (q2 (eN .u64) (t6 (G0 c) a++s0 (G0 b) a)) 32 1]:=y.rowPart e8 (rY gT e8 e8 rfl)
 have A:=z.pf []
 obtain rfl:=zj hr zq1
 exact⟨f,d,rfl,A,e8⟩
def jD (a:ax) (d:Nat):ax:=
 bnd (eu a.aa.af.ls (max a.aa.bi d)) λ b=>bnd (kU a.aa.af.ls 0 b.1) λ c=>ax.mk (bA.mk a.aa.bC a.aa.aQ a.aa.bq a.aa.aJ a.aa.aD (F2 a.aa.ah.ls) (F2 a.aa.ak.ls) (F2 c) (max a.aa.bi d) a.aa.aI a.aa.aH a.aa.aC) (F2 a.ag.ls)
theorem ug (w D b) (a:ax) (l m n o c d p r s t j) (B:ax) (H:Own w D w [blk b (kB a l a.aa.ah.ls.length m n a.aa.ak.ls.length o c a.aa.af.ls.length d a.aa.bi s p a.ag.ls.length r t) 80,row c a.aa.af.ls.length d (q2 (eN .u64) a.aa.af.ls) 32 1]) (aa:a.aa.af.ls.length<=1000) (hr:jD a j=B):
    Calls u9 75 #[vP b 0,vU j] w (dI λ v w'=> ∃ g h,v= .tuple #[]/\Own w D w' [blk b (kB a l a.aa.ah.ls.length m n a.aa.ak.ls.length o g B.aa.af.ls.length h B.aa.bi s p a.ag.ls.length r t) 80,row g B.aa.af.ls.length h (q2 (eN .u64) B.aa.af.ls) 32 1]/\(B.aa.af.ls.length<=a.aa.af.ls.length)):=by
 unfold jD at hr
 have P:=H.rowC (i:=1) rfl
 refine cb Tryz.func75 ?_
 refine sr (Mz rfl (Mz rfl (Kz (vP b 0) (Kz (vP b 0) (Kz (vP b 8) (Lz (vU a.aa.bi) H 0 E1 (Mz rfl (fw (vU (max a.aa.bi j)) (Ig (e:=if(j:Int) > (a.aa.bi:Int) then(j:Int) else(a.aa.bi:Int)) yk e8) (Kz (vP b 0) (Kz (vP b 0) (Kz (vP b 8) ?_)))))))))))
 refine cu [vU (max a.aa.bi j)] 8 H Tryz.sizeOf32 ?_
 intro af Q
 refine nt (H7 ?_)
 refine oO [] (Ik Iw) Q ?_
 intro ag R
 refine qv 0 rfl rfl (qp b 0 1 rfl (qp b 0 2 rfl (qp b 7 3 rfl (ql 4 rfl 0 E2 rfl rfl rfl (qv 5 rfl rfl (qp b 0 6 rfl (qp b 0 7 rfl (qp b 8 8 rfl (ql 9 rfl 0 E1 rfl rfl rfl ?_)))))))))
 obtain⟨⟨f,C⟩,u⟩:∃ q:Int × Bool,eu a.aa.af.ls (max a.aa.bi j)=q:=⟨_,rfl⟩
 obtain⟨ah,E,W,F,G⟩:=Ia R
 refine qd 10 rfl (IB Tryz.call76 rfl (ky _ _ c a.aa.af.ls.length d a.aa.af.ls (max a.aa.bi j) f C E (G _ 1 _ rfl bP) rfl e8 u) ?_)
 rintro _ ai ⟨rfl,I,x⟩
 have A:=F _ _ I
 replace x:0<=f/\f<=(a.aa.af.ls.length:Int):=x
 refine⟨.inr ⟨_,A⟩, ?_⟩
 refine qv 11 rfl rfl (qk (vI f) 12 rfl (qk (.bool C) 13 rfl (qa 14 rfl rfl (qa 15 rfl rfl (qn (Ib (H8 (Mz rfl (Mz rfl (Kz (vP b 0) (Kz (vP b 0) (Kz (vP b 7) (Lz (.slice c a.aa.af.ls.length d) A 0 E2 (Mz rfl ?_))))))))))))))
 have S:=A.pb [0]
 obtain⟨k,y⟩:∃ q,kU a.aa.af.ls 0 f=q:=⟨_,rfl⟩
 obtain⟨aj,J,X,K,Y⟩:=IE S
 refine cl Tryz.call124 (ry _ _ c a.aa.af.ls.length d a.aa.af.ls 0 f k J rfl e8 e8 y) ?_
 rintro _ ak ⟨L,M,rfl,N,z⟩
 have O:=K _ _ N
 have Z:=O.rowC (i:=0) rfl
 replace z:k.length<=a.aa.af.ls.length:=z
 refine Kz (vP b 0) (Kz (vP b 0) (Kz (vP b 7) ?_))
 have T:=O.pb [0]
 refine cu [.slice L k.length M] 7 T Q3 ?_
 intro au U
 refine B6 (IV (res0 rfl) ?_)
 have V:=U.pf []
 obtain rfl:=zj hr zq2
 exact⟨L,M,rfl,V,(by first | omega | (dsimp only; omega) | (simp only [m9,m8,o0]; omega))⟩
def jH (a:List Nat) (b:Int) (c:Nat):(List Nat):=
 if((G0 b:Nat):Int)=(a.length:Int) then(a++ [c]) else(t6 (G0 b) a++(c::s0 (G0 b) a))
theorem rz (w D f E d b a C c y) (H:Own w D w [row f E d (q2 (eN .u64) b) 32 1,lN C 1 (q2 (eN .u64) ([c])) 32 1]) (F:E=b.length) (ag:b.length *8<=211106232532992) (ah:0<=a/\a<=((b.length:Nat):Int)/\(b.length+1) *8<=211106232532992) (hr:jH b a c=y):
    Calls u9 143 #[.slice f E d,vI a, .slice C 1 1] w (dI λ v w'=> ∃ X Y,v= .slice X y.length Y/\Own w D w' [row X y.length Y (q2 (eN .u64) y) 32 1]/\(y.length=b.length+1)):=by
 unfold jH at hr
 subst F
 have ai:=H.rowC (i:=0) rfl
 refine cb Tryz.func143 ?_
 refine sr (Ar rfl (Mz rfl (fw (vJ (G0 a)) (Ig (e:=a) (Ie rfl) e8) (fw (.slice (eO f (G0 a) 1 d) (b.length - (G0 a)) (d - (G0 a))) (II (iH) rfl rfl e8) (ns (Mz rfl (Kz (vI 1) (An rfl (H7 (sr (Mz rfl (Kz (.bool false) (nt (jf (sk (sr (Mz rfl (Kz (vJ b.length) (An rfl (H7 (sr (fw (vJ (G0 a)) (Ig (e:=a) (Ie rfl) e8) ?_))))))))))))))))))))))
 refine Mz rfl (Kz (.bool (decide (((G0 a:Nat):Int)=(b.length:Int)))) (nt ?_))
 by_cases h:((G0 a:Nat):Int)=(b.length:Int)
 refine jT (dT h) (sr (Mz rfl (Mz rfl ?_)))
 refine WL.do rfl (IC (k:=b.length) (m:=1) (iH) H rfl rfl (eY O4 (dC H (i:=1) rfl lh) (cZ mi ([c]))) rfl e8 (s:=q7 (b++ [c])) f3 (t7).symm ?_)
 intro G I aj J
 have Z:q7 (b++ [c])=b.length+1:=by simp only [o0,r5,K1]
 refine An rfl (rt (tR (rs ?_)))
 have K:=J.pk [0]
 obtain rfl:=zj hr zq1
 exact⟨G,I,rfl,K,e8⟩
 refine jF (dF h) (sk (H7 (sr (Mz rfl (Mz rfl (fw (vJ (b.length+1)) (Ig (e:=B5.wrap ((b.length:Int)+1)) yk f1) (Mz rfl (Kz (vJ d) (Kz (.bool (decide (((b.length+1:Nat):Int) > (d:Int)))) (nt ?_))))))))))
 by_cases z:((b.length+1:Nat):Int) > (d:Int)
 refine jT (dT z) (sr (Mz rfl (fw (vJ (G0 a)) (Ig (e:=a) (Ie rfl) e8) (fw (.slice f (G0 a) d) (I4 (iH) rfl rfl e8) (Mz rfl (Mz rfl (fw (vJ (b.length+1)) (Ig (e:=B5.wrap ((b.length:Int)+1)) yk f1) (fw (vJ (G0 a)) (Ig (e:=a) (Ie rfl) e8) (fw (vJ ((b.length+1) - (G0 a))) (Ig (e:=B5.wrap (((b.length+1:Nat):Int) - ((G0 a:Nat):Int))) yk f1) ?_)))))))))
 have aa:q7 (t6 (G0 a) b++(c::s0 (G0 a) b))=b.length+1:=by simp only [o0,m8,r5,m9]; omega
 refine WL.do rfl (Jg (k:=G0 a) (m:=(b.length+1) - (G0 a)) (iH) v6 H rfl rfl e8 e8 e8 rfl e8 (s:=q7 (t6 (G0 a) b++(c::s0 (G0 a) b))) e8 ?_)
 intro j g ae ak A n
 have L:=n.rowLe (i:=0) rfl
 refine Ar rfl (Mz rfl (fw (vJ (G0 a)) (Ig (e:=a) (Ie rfl) e8) (fw (.slice (eO j (G0 a) 1 g) ((q7 (t6 (G0 a) b++(c::s0 (G0 a) b))) - (G0 a)) (g - (G0 a))) (II (iH) rfl rfl e8) (Mz rfl ?_))))
 refine WL.do rfl (IY (lo:=G0 a) (k:=1) (iH) n rfl (λ _=>gu ((n.rds (i:=0) rfl).isSome e8) e8) e8 rfl (dC n (i:=2) rfl lh) e8 (λ u hu=>cZ mi _ u (L5 hu)) rfl ?_)
 intro au M
 refine nt (H7 ?_)
 refine yw [8] (Ik (Ik Iw)) M ?_
 intro av o
 refine qv 0 rfl rfl (qt (v:=vJ (G0 a)) 1 rfl (λ _ _=>Ig (e:=a) (Ie rfl) e8) (qv 2 rfl rfl (qt (v:=vJ (G0 a+1)) 3 rfl (λ _ _=>Ig (e:=B5.wrap (((G0 a:Nat):Int)+1)) yk f1) (qt (v:= .slice (eO j (G0 a+1) 1 g) ((q7 (t6 (G0 a) b++(c::s0 (G0 a) b))) - (G0 a+1)) (g - (G0 a+1))) 4 rfl (λ _ _=>II (iH) rfl rfl e8) (qv 5 rfl rfl (qt (v:=vJ (G0 a)) 6 rfl (λ _ _=>Ig (e:=a) (Ie rfl) e8) (qt (v:= .slice (eO f (G0 a) 1 d) (b.length - (G0 a)) (d - (G0 a))) 7 rfl (λ _ _=>II (iH) rfl rfl e8) ?_)))))))
 refine qd 8 rfl (IY (lo:=G0 a+1) (k:=b.length - G0 a) (iH) o rfl (λ _=>gu ((o.rds (i:=0) rfl).isSome e8) e8) e8 rfl (I7 (lo:=G0 a) gT (o.rds (i:=1) rfl) e8 e8 f5) e8 (λ u hu=>cZ mi _ u (L5 hu)) rfl ?_)
 intro N O
 refine⟨.inl e9, ?_⟩
 refine qn (Ib (sr (Mz rfl (An rfl (rt (tR (rs ?_)))))))
 have P:Own w D N [row j (q7 (t6 (G0 a) b++(c::s0 (G0 a) b))) g (q2 (eN .u64) (t6 (G0 a) b++(c::s0 (G0 a) b))) 32 1,row f b.length d (q2 (eN .u64) b) 32 1,lN C 1 (q2 (eN .u64) ([c])) 32 1]:=O.rowPart e8 (tF (l:=b) (k2:=b.length - G0 a) gT e8 A rfl rfl e8)
 have Q:=P.pk [0]
 obtain rfl:=zj hr zq1
 exact⟨j,g,rfl,Q,e8⟩
 refine jF (dF z) (sk (sr ?_))
 have B:q7 (t6 (G0 a) b++(c::s0 (G0 a) b))=b.length+1:=by simp only [o0,m8,r5,m9]; omega
 obtain⟨af,p,R⟩:=H.rowFull
 refine Mz rfl (Mz rfl (Mz rfl (fw (vJ (b.length+1)) (Ig (e:=B5.wrap ((b.length:Int)+1)) yk f1) (fw (.slice f (q7 (t6 (G0 a) b++(c::s0 (G0 a) b))) d) (Yl.to (I4 (iH) rfl rfl e8) (congrArg (λ q=>Value.slice f q d) B.symm)) (An rfl (H7 (sr (Mz rfl (Mz rfl (fw (vJ (G0 a)) (Ig (e:=a) (Ie rfl) e8) (Mz rfl (fw (vJ (G0 a+1)) (Ig (e:=B5.wrap (((G0 a:Nat):Int)+1)) yk f1) (fw (.slice (eO f (G0 a+1) 1 d) ((q7 (t6 (G0 a) b++(c::s0 (G0 a) b))) - (G0 a+1)) (d - (G0 a+1))) (II (iH) rfl rfl e8) ?_)))))))))))))
 have r:=R.pb [0]
 refine fw (.bool false) (Ji (lo:=G0 a+1) (run_callFunc_extern Tryz.func183 e9 e9 e9 (e:=Extern.SlicesOverlaps.overlaps #[35,35] #[4]) e9) O4 Tryz.sizeOf32 r f5 e8 rfl (gu ((r.rds (i:=1) rfl).isSome e8) e8)) (Kz (.bool true) (nt (jt (H7 ?_))))
 refine oO [8] (Ik (Ik Iw)) r ?_
 intro ax S
 refine qv 0 rfl rfl (qt (v:=vJ (G0 a)) 1 rfl (λ _ _=>Ig (e:=a) (Ie rfl) e8) (qv 2 rfl rfl (qt (v:=vJ (G0 a+1)) 3 rfl (λ _ _=>Ig (e:=B5.wrap (((G0 a:Nat):Int)+1)) yk f1) (qt (v:= .slice (eO f (G0 a+1) 1 d) ((q7 (t6 (G0 a) b++(c::s0 (G0 a) b))) - (G0 a+1)) (d - (G0 a+1))) 4 rfl (λ _ _=>II (iH) rfl rfl e8) (qv 5 rfl rfl (qt (v:=vJ (G0 a)) 6 rfl (λ _ _=>Ig (e:=a) (Ie rfl) e8) (qt (v:= .slice (eO f (G0 a) 1 d) ((q7 (t6 (G0 a) b++(c::s0 (G0 a) b))) - (G0 a)) (d - (G0 a))) 7 rfl (λ _ _=>II (iH) rfl rfl e8) ?_)))))))
 have t:=S.pb [0]
 refine qd 8 rfl (IY (lo:=G0 a+1) (k:=b.length - G0 a) (iH) t rfl (λ _=>gu ((t.rds (i:=0) rfl).isSome e8) e8) e8 rfl (bO.cut (lo:=G0 a) (hi:=q7 (t6 (G0 a) b++(c::s0 (G0 a) b))) (t.rds (i:=0) rfl) e8 e8 e8) e8 (λ u hu=>cZ mi _ u (by rw [tH gT e8 rfl e8] at hu; exact hu)) rfl ?_)
 intro ay x
 refine⟨.inl e9, ?_⟩
 refine qn (Ib (sr (Mz rfl (fw (vJ (G0 a)) (Ig (e:=a) (Ie rfl) e8) (fw (.slice (eO f (G0 a) 1 d) ((q7 (t6 (G0 a) b++(c::s0 (G0 a) b))) - (G0 a)) (d - (G0 a))) (II (iH) rfl rfl e8) (Mz rfl ?_))))))
 refine WL.do rfl (IY (lo:=G0 a) (k:=1) (iH) x rfl (λ _=>gu ((x.rds (i:=0) rfl).isSome e8) e8) e8 rfl (dC x (i:=1) rfl lh) e8 (λ u hu=>cZ mi _ u (L5 hu)) rfl ?_)
 intro T U
 refine ns (Mz rfl (An rfl (rt (tR (rs ?_)))))
 have V:Own w D T [row f (q7 (t6 (G0 a) b++(c::s0 (G0 a) b))) d (q2 (eN .u64) (t6 (G0 a) b++(c::s0 (G0 a) b))) 32 1,lN C 1 (q2 (eN .u64) ([c])) 32 1]:=U.rowPart e8 (tJ (l:=b) (m:=(q7 (t6 (G0 a) b++(c::s0 (G0 a) b))) - G0 a) (k2:=b.length - G0 a) gT e8 (by rw [p]; exact Nat.le_mul_of_pos_left 1 e8) rfl rfl e8 e8)
 have W:=V.pk [0]
 obtain rfl:=zj hr zq1
 exact⟨f,d,rfl,W,e8⟩
def gQ (a:ax) (d:Nat):ax:=
 if(d:Int) < (a.aa.bi:Int) then a else bnd (eu a.aa.af.ls d) λ b=>if b.2=true then a else bnd (jH a.aa.af.ls b.1 d) λ c=>ax.mk (bA.mk a.aa.bC a.aa.aQ a.aa.bq a.aa.aJ a.aa.aD (F2 a.aa.ah.ls) (F2 a.aa.ak.ls) (F2 c) a.aa.bi a.aa.aI a.aa.aH a.aa.aC) (F2 a.ag.ls)
theorem qw (w D d) (a:ax) (p r s u b c x z A B l) (J:ax) (H:Own w D w [blk d (kB a p a.aa.ah.ls.length r s a.aa.ak.ls.length u b a.aa.af.ls.length c a.aa.bi A x a.ag.ls.length z B) 80,row b a.aa.af.ls.length c (q2 (eN .u64) a.aa.af.ls) 32 1]) (ak:a.aa.af.ls.length<=1000) (hr:gQ a l=J):
    Calls u9 88 #[vP d 0,vU l] w (dI λ v w'=> ∃ f g,v= .tuple #[]/\Own w D w' [blk d (kB a p a.aa.ah.ls.length r s a.aa.ak.ls.length u f J.aa.af.ls.length g a.aa.bi A x a.ag.ls.length z B) 80,row f J.aa.af.ls.length g (q2 (eN .u64) J.aa.af.ls) 32 1]/\(J.aa.af.ls.length<=a.aa.af.ls.length+1)):=by
 unfold gQ at hr
 have V:=H.rowC (i:=1) rfl
 refine cb Tryz.func88 ?_
 refine H7 (sr (Mz rfl (Mz rfl (Kz (vP d 0) (Kz (vP d 0) (Kz (vP d 8) (Lz (vU a.aa.bi) H 0 E1 (Kz (.bool (decide ((l:Int) < (a.aa.bi:Int)))) (nt ?_)))))))))
 by_cases h:(l:Int) < (a.aa.bi:Int)
 refine jT (dT h) (rt (tR (Ir (res0 rfl) ?_)))
 have W:=H.pf []
 obtain rfl:=zj hr zq1
 exact⟨b,c,rfl,W,f9⟩
 refine jF (dF h) (sk (sr (Mz rfl (Kz (vP d 0) (Kz (vP d 0) (Kz (vP d 7) (Lz (.slice b a.aa.af.ls.length c) H 0 E2 (Mz rfl ?_))))))))
 obtain⟨⟨e,n⟩,j⟩:∃ q:Int × Bool,eu a.aa.af.ls l=q:=⟨_,rfl⟩
 obtain⟨au,K,ag,L,M⟩:=Ia H
 refine cl Tryz.call76 (ky _ _ b a.aa.af.ls.length c a.aa.af.ls l e n K (M _ 1 _ rfl bP) rfl e8 j) ?_
 rintro _ av ⟨rfl,N,C⟩
 have G:=L _ _ N
 replace C:0<=e/\e<=(a.aa.af.ls.length:Int):=C
 refine Mz rfl (Kz (vI e) (Kz (.bool n) (Az rfl (Ar rfl (Mz rfl (Kz (.bool (!n)) (nt ?_)))))))
 rcases Lr (n) with k | k
 refine jF (cn k) (IG (IV (res0 rfl) ?_))
 have X:=G.pf []
 obtain rfl:=zj hr zq3
 exact⟨b,c,rfl,X,f9⟩
 refine jT (cn k) (H8 (Mz rfl (Mz rfl (Kz (vP d 0) (Kz (vP d 0) (Kz (vP d 7) (Lz (.slice b a.aa.af.ls.length c) G 0 E2 (Mz rfl (Mz rfl ?_)))))))))
 refine WL.do rfl (Jn (cs:= [vU l]) (t:=32) (sz:=1) (m:=1) G rfl rfl (λ _=>by kernel_rfl) rfl ?_)
 intro O ay I
 replace I:=IL (y:=lN O 1 (q2 (eN .u64) ([l])) 32 1) rfl I
 have Y:=I.pf [2]
 obtain⟨o,E⟩:∃ q,jH a.aa.af.ls e l=q:=⟨_,rfl⟩
 obtain⟨az,P,ah,Q,ai⟩:=IX Y
 refine cl Tryz.call143 (rz _ _ b a.aa.af.ls.length c a.aa.af.ls e O l o P rfl e8 e8 E) ?_
 rintro _ aA ⟨R,S,rfl,T,F⟩
 have U:=Q _ _ T
 have aj:=U.rowC (i:=0) rfl
 replace F:o.length=a.aa.af.ls.length+1:=F
 refine Kz (vP d 0) (Kz (vP d 0) (Kz (vP d 7) ?_))
 have Z:=U.pb [0]
 refine cu [.slice R o.length S] 7 Z Q3 ?_
 intro aB aa
 refine B6 (IV (res0 rfl) ?_)
 have af:=aa.pf []
 obtain rfl:=zj hr zq4
 exact⟨R,S,rfl,af,f9⟩
def iL (d:ax):List aX->Nat->Unit ⊕ Bool
  | [],a=>y0 ()
  | e::f,a=>bnd (uK e) λ b=>if b.2=0 then bnd (uY d.aa.ah.ls d.aa.bC b.1) λ c=>if c=true then iL d f (a+1) else y3 (decide (¬ ((a:Int) >= 0))) else y3 (decide (¬ ((a:Int) >= 0)))
def p9 (a:ax) (l1:List aX):Bool:=
 lp (iL a l1 0) λ _=>decide (¬ ((-1) >= 0))
theorem vB (w D h) (a:ax) (d f o p r s t u x y O n1 c1 l1 r0) (H:Own w D w [blk h (kB a d a.aa.ah.ls.length f o a.aa.ak.ls.length p r a.aa.af.ls.length s a.aa.bi x t a.ag.ls.length u y) 80]) (L:Ro w D λ w'=>bO w' 2 d a.aa.ah.ls.length (q2 bM.cells a.aa.ah.ls)) (ah:a.aa.ah.ls.length<=f/\a.aa.ah.ls.length<=9223372036854775807) (M:Ro w D λ w'=>bO w' 6 O n1 (q2 aX.cells l1)) (ai:n1=l1.length) (aP:l1.length<=9223372036854775807) (aQ:a.aa.ah.ls.length<=1000) (hr:p9 a l1=r0):
    Calls u9 133 #[vP h 0, .slice O n1 c1] w (dI λ v w'=>v= .bool r0/\Own w D w' [blk h (kB a d a.aa.ah.ls.length f o a.aa.ak.ls.length p r a.aa.af.ls.length s a.aa.bi x t a.ag.ls.length u y) 80]):=by
 subst ai
 refine cb Tryz.func133 ?_
 refine sr ?_
 refine bW [vP h 0] 28 H ?_
 intro G aR ak
 refine Ar rfl (Mz rfl (Kz (.func (.func 179) #[] #[vP G 0]) ?_))
 refine WL.do rfl (IB Tryz.call153 rfl ?_ (λ _ _ k=>k))
 refine cb Tryz.func153 ?_
 refine sr (Ar rfl (Mz rfl (Mz rfl ?_)))
 refine WL.do rfl (IB Tryz.call195 rfl ?_ (λ _ _ k=>k))
 refine cb Tryz.func195 ?_
 refine sr (An rfl (H7 (sr (Mz rfl (Kz (vJ l1.length) (Mn rfl (bo ?_)))))))
 have au:=ak.pf []
 obtain⟨av,z⟩:=mI λ (c:Nat) w'=>Own w D w' [blk G [vP h 0] 28,blk h (kB a d a.aa.ah.ls.length f o a.aa.ak.ls.length p r a.aa.af.ls.length s a.aa.bi x t a.ag.ls.length u y) 80]/\c<=l1.length/\iL a l1 0=iL a (s0 c l1) c
 refine y6 (λ i:Nat=> [(4,vI 0),(8,vJ i),(7,vJ l1.length),(0, .slice O l1.length c1),(1, .func (.func 179) #[] #[vP G 0])]) av (λ i=>l1.length - i) 0 ⟨rfl,rfl,rfl,rfl,rfl,trivial⟩ (z.2 ⟨au,e8,rfl⟩) ?_
 rintro c aS P
 show Wp _ _ _ [(4,vI 0),(8,vJ c),(7,vJ l1.length),(0, .slice O l1.length c1),(1, .func (.func 179) #[] #[vP G 0])] _ _
 obtain⟨A,aL,j⟩:=z.1 P
 refine sr (Kz (.bool (decide ((c:Int) < (l1.length:Int)))) (nt (H7 ?_)))
 by_cases Q:(c:Int) < (l1.length:Int)
 obtain⟨n,K⟩:=dG (ls:=l1) (i:=c) aX.len f5 (A.ro M) f2
 have B:=drop_at K
 refine jT (dT Q) (sk (H7 (bo (sr (Mz rfl (Ar rfl (Mz rfl (Mz rfl (Mz rfl (fw (.pointer (some ⟨ab O,ao O+c *6,none⟩)) (Im (nN) rfl rfl ((A.ro M).addr (i:=c) e8) e8) (fw (.agg (aX.cells n).toArray) (Il rfl (Io (cs:=(aX.cells n)) C4 C2 ((A.ro M).elem aX.len K f5))) ?_)))))))))))
 refine WL.do rfl (IM Tryz.call179 rfl rfl ?_ (λ _ _ k=>k))
 refine cb Tryz.func179 ?_
 refine sr ?_
 refine bW (aX.cells n) 68 A ?_
 intro aT aU R
 refine Ar rfl (La (aX.cells n) R 0 C4 C2 ?_)
 obtain⟨⟨g,C⟩,l⟩:∃ q:aj × Int,uK n=q:=⟨_,rfl⟩
 obtain⟨aV,S,aM,T,aN⟩:=Ia R
 refine cl Tryz.call155 (yD _ _ n g C S l) ?_
 rintro _ aW ⟨rfl,U⟩
 have ay:=T _ _ U
 refine Mz rfl (Kz (.agg (aj.cells g).toArray) (Kz (vI C) ?_))
 refine bW [.string ⟨v0 []⟩, .string ⟨v0 []⟩] 37 ay ?_
 intro aY aZ az
 refine cu (aj.cells g) 0 az C5 ?_
 intro bf aA
 refine An rfl (H7 ?_)
 have aB:=aA.pk [0,2,3]
 refine yw [] (Ik Iw) aB ?_
 intro bg V
 refine qv 0 rfl rfl (qt (v:= .bool (decide (¬ (C=0)))) 1 rfl (λ _ _=>Iu (e:= !(decide (C=0))) yk decide_not.symm) (qv 2 rfl rfl ?_))
 by_cases b:C=0
 refine Ii (v:=vP h 0) (rs:= []) 3 rfl rfl rfl (dF (Lp b)) e9 (λ _ ⟨_,I⟩=>Il rfl (bQ.one Tryz.isAgg28 (IU (I.cls (i:=1) rfl) rfl))) (Ii (v:=vP h 0) (rs:= []) 4 rfl rfl rfl (dF (Lp b)) e9 (λ _ _=>yk) (Ii (v:=vP h 0) (rs:= []) 5 rfl rfl rfl (dF (Lp b)) e9 (λ _ _=>yk) (Ii (v:=vP h 5) (rs:= []) 6 rfl rfl rfl (dF (Lp b)) e9 (λ _ _=>yk) (Ii (v:= .slice d a.aa.ah.ls.length f) (rs:= []) 7 rfl rfl rfl (dF (Lp b)) e9 (λ _ ⟨_,I⟩=>Il rfl (bQ.one Q2 (IU (I.cls (i:=2) rfl) rfl))) (Ii (v:=vP h 0) (rs:= []) 8 rfl rfl rfl (dF (Lp b)) e9 (λ _ ⟨_,I⟩=>Il rfl (bQ.one Tryz.isAgg28 (IU (I.cls (i:=1) rfl) rfl))) (Ii (v:=vP h 0) (rs:= []) 9 rfl rfl rfl (dF (Lp b)) e9 (λ _ _=>yk) (Ii (v:=vP h 0) (rs:= []) 10 rfl rfl rfl (dF (Lp b)) e9 (λ _ _=>yk) (Ii (v:=vP h 0) (rs:= []) 11 rfl rfl rfl (dF (Lp b)) e9 (λ _ _=>yk) (Ii (v:=vI a.aa.bC) (rs:= []) 12 rfl rfl rfl (dF (Lp b)) e9 (λ _ ⟨_,I⟩=>Il rfl (bQ.one Tryz.isAgg3 (IU (I.cls (i:=2) rfl) rfl))) (Ii (v:= .agg (aj.cells g).toArray) (rs:= []) 13 rfl rfl rfl (dF (Lp b)) e9 (λ _ ⟨_,I⟩=>Il rfl (Io (cs:=(aj.cells g)) C6 C5 ((I.cls (i:=0) rfl).lit (k:=0) (m:=2) rfl))) ?_))))))))))
 obtain⟨J,E⟩:∃ q,uY a.aa.ah.ls a.aa.bC g=q:=⟨_,rfl⟩
 obtain⟨bi,W,X,Y,aO⟩:=Ia V
 refine Ja 14 rfl rfl rfl (dF (Lp b)) e9 (IB Tryz.call91 rfl (zX _ _ d a.aa.ah.ls.length f a.aa.ah.ls a.aa.bC g J W (X _ L) rfl e8 E) ?_)
 rintro _ bn ⟨rfl,Z⟩
 have N:=Y _ _ Z
 refine⟨.inr ⟨_,N⟩, ?_⟩
 refine Ii (v:= .bool (!J)) (rs:= []) 15 rfl rfl rfl (dF (Lp b)) e9 (λ _ _=>yk) (qt (v:= .bool (!J)) 16 rfl (λ _ _=>H6 rfl (dF (Lp b)) rfl) (qa 17 rfl rfl (qn (Ib (rt (rs (nt ?_)))))))
 rcases Lr (J) with F | F
 refine jF (cn F) (IG (bN (Ib ?_)))
 have aC:=N.pk [1,2]
 refine H8 (fw (vJ (c+1)) (Ig (e:=B5.wrap ((c:Int)+1)) yk f1) (Mz rfl (B6 ?_)))
 have aD:=aC.pf []
 exact Iq (c+1) ⟨rfl,rfl,rfl,rfl,rfl,trivial⟩ (z.2 ⟨aD,e8,et (j) (et (congrArg (λ q=>iL a q c) B) (et (ae l) (et (ip b) (et (ae E) (ip F)))))⟩) (by show l1.length - (c+1) < l1.length - c; omega)
 refine jT (cn F) (H7 ?_)
 have aF:=N.pk [1,2]
 refine H8 (Mz rfl (An rfl (rt (bR (tR (tR (bR (tR (rs (Kz (.bool (decide ((c:Int) >= 0))) (An rfl (rt (rs (fw (.bool (decide (¬ ((c:Int) >= 0)))) (Iu (e:= !(decide ((c:Int) >= 0))) yk decide_not.symm) (An rfl (rt (rs ?_)))))))))))))))))
 have aG:=aF.pk [1]
 obtain rfl:_=decide (¬ ((c:Int) >= 0)):=zj hr (iG (et (j) (et (congrArg (λ q=>iL a q c) B) (et (ae l) (et (ip b) (et (ae E) (eF F)))))))
 exact⟨rfl,aG⟩
 refine Ih (rs:= []) 3 rfl rfl rfl (dT b) e9 (Ih (rs:= []) 4 rfl rfl rfl (dT b) e9 (Ih (rs:= []) 5 rfl rfl rfl (dT b) e9 (Ih (rs:= []) 6 rfl rfl rfl (dT b) e9 (Ih (rs:= []) 7 rfl rfl rfl (dT b) e9 (Ih (rs:= []) 8 rfl rfl rfl (dT b) e9 (Ih (rs:= []) 9 rfl rfl rfl (dT b) e9 (Ih (rs:= []) 10 rfl rfl rfl (dT b) e9 (Ih (rs:= []) 11 rfl rfl rfl (dT b) e9 (Ih (rs:= []) 12 rfl rfl rfl (dT b) e9 (Ih (rs:= []) 13 rfl rfl rfl (dT b) e9 (Ih (rs:= []) 14 rfl rfl rfl (dT b) e9 (Ih (rs:= []) 15 rfl rfl rfl (dT b) e9 (qt (v:= .bool true) 16 rfl (λ _ _=>Ic rfl (dT b) rfl) (qa 17 rfl rfl (qn (Ib (rt (rs (nt (jt (H7 ?_)))))))))))))))))))))
 have aH:=V.pk [1,2]
 refine H8 (Mz rfl (An rfl (rt (bR (tR (tR (bR (tR (rs (Kz (.bool (decide ((c:Int) >= 0))) (An rfl (rt (rs (fw (.bool (decide (¬ ((c:Int) >= 0)))) (Iu (e:= !(decide ((c:Int) >= 0))) yk decide_not.symm) (An rfl (rt (rs ?_)))))))))))))))))
 have aI:=aH.pk [1]
 obtain rfl:_=decide (¬ ((c:Int) >= 0)):=zj hr (iG (et (j) (et (congrArg (λ q=>iL a q c) B) (et (ae l) (iN b)))))
 exact⟨rfl,aI⟩
 refine jF (dF Q) (B7 (Ip ?_))
 have aa:iL a l1 0=y0 ():=et (j) (et (congrArg (λ q=>iL a q c) (eX (ls:=l1) (i:=c) e8)) rfl)
 refine Ip (Iz (Ib (sr (An rfl (rt (rs (Kz (.bool (decide ((-1) >= 0))) (An rfl (rt (rs (fw (.bool (decide (¬ ((-1) >= 0)))) (Iu (e:= !(decide ((-1) >= 0))) yk decide_not.symm) (An rfl (rt (rs ?_))))))))))))))
 have aJ:=A.pk [1]
 obtain rfl:_=decide (¬ ((-1) >= 0)):=zj hr (lw aa)
 exact⟨rfl,aJ⟩
def jE (e:aj):List aX->Nat->Unit ⊕ Bool
  | [],a=>y0 ()
  | f::c,a=>bnd (uK f) λ b=>bnd (kT b.1 e) λ d=>if b.2=0 then if d.2=true then y3 (decide ((a:Int) >= 0)) else jE e c (a+1) else jE e c (a+1)
def uh (a:List aX) (b:aj):Bool:=
 lp (jE b a 0) λ _=>decide ((-1) >= 0)
theorem yL (w D B O P b) (d:aj) (r0) (H:Own w D w []) (x:Ro w D λ w'=>bO w' 6 B O (q2 aX.cells b)) (Q:O=b.length) (az:b.length<=9223372036854775807) (hr:uh b d=r0):
    Calls u9 180 #[.slice B O P, .agg (aj.cells d).toArray] w (dI λ v w'=>v= .bool r0/\Own w D w' []):=by
 subst Q
 refine cb Tryz.func180 ?_
 refine sr ?_
 refine bW (aj.cells d) 37 H ?_
 intro s aA R
 refine Ar rfl (Mz rfl (Kz (.func (.func 216) #[] #[vP s 0]) ?_))
 refine WL.do rfl (IB Tryz.call153 rfl ?_ (λ _ _ k=>k))
 refine cb Tryz.func153 ?_
 refine sr (Ar rfl (Mz rfl (Mz rfl ?_)))
 refine WL.do rfl (IB Tryz.call195 rfl ?_ (λ _ _ k=>k))
 refine cb Tryz.func195 ?_
 refine sr (An rfl (H7 (sr (Mz rfl (Kz (vJ b.length) (Mn rfl (bo ?_)))))))
 have S:=R.pf []
 obtain⟨T,f⟩:=mI λ (a:Nat) w'=>Own w D w' [blk s (aj.cells d) 37]/\a<=b.length/\jE d b 0=jE d (s0 a b) a
 refine y6 (λ i:Nat=> [(4,vI 0),(8,vJ i),(7,vJ b.length),(0, .slice B b.length P),(1, .func (.func 216) #[] #[vP s 0])]) T (λ i=>b.length - i) 0 ⟨rfl,rfl,rfl,rfl,rfl,trivial⟩ (f.2 ⟨S,e8,rfl⟩) ?_
 rintro a aB C
 show Wp _ _ _ [(4,vI 0),(8,vJ a),(7,vJ b.length),(0, .slice B b.length P),(1, .func (.func 216) #[] #[vP s 0])] _ _
 obtain⟨n,ak,g⟩:=f.1 C
 refine sr (Kz (.bool (decide ((a:Int) < (b.length:Int)))) (nt (H7 ?_)))
 by_cases E:(a:Int) < (b.length:Int)
 obtain⟨l,u⟩:=dG (ls:=b) (i:=a) aX.len f5 (n.ro x) f2
 have o:=drop_at u
 refine jT (dT E) (sk (H7 (bo (sr (Mz rfl (Ar rfl (Mz rfl (Mz rfl (Mz rfl (fw (.pointer (some ⟨ab B,ao B+a *6,none⟩)) (Im (nN) rfl rfl ((n.ro x).addr (i:=a) e8) e8) (fw (.agg (aX.cells l).toArray) (Il rfl (Io (cs:=(aX.cells l)) C4 C2 ((n.ro x).elem aX.len u f5))) ?_)))))))))))
 refine WL.do rfl (IM Tryz.call216 rfl rfl ?_ (λ _ _ k=>k))
 refine cb Tryz.func216 ?_
 refine sr ?_
 refine bW (aX.cells l) 68 n ?_
 intro aC aD F
 refine Ar rfl (La (aX.cells l) F 0 C4 C2 ?_)
 obtain⟨⟨m,t⟩,h⟩:∃ q:aj × Int,uK l=q:=⟨_,rfl⟩
 obtain⟨aF,G,au,I,av⟩:=Ia F
 refine cl Tryz.call155 (yD _ _ l m t G h) ?_
 rintro _ aG ⟨rfl,J⟩
 have U:=I _ _ J
 refine Mz rfl (Kz (.agg (aj.cells m).toArray) (Kz (vI t) ?_))
 refine bW [.string ⟨v0 []⟩, .string ⟨v0 []⟩] 37 U ?_
 intro aH aI V
 refine cu (aj.cells m) 0 V C5 ?_
 intro aJ W
 refine An rfl (H7 ?_)
 have y:=W.pk [0,2]
 refine H8 (La (aj.cells m) y 0 C6 C5 (La (aj.cells d) y 1 C6 C5 ?_))
 obtain⟨⟨z,p⟩,j⟩:∃ q:aj × Bool,kT m d=q:=⟨_,rfl⟩
 obtain⟨aK,K,ax,L,ay⟩:=Ia y
 refine cl Tryz.call152 (pq _ _ m d z p K j) ?_
 rintro _ aL ⟨rfl,M⟩
 have X:=L _ _ M
 refine Mz rfl (Kz (.agg (aj.cells z).toArray) (Kz (.bool p) ?_))
 refine bW [.string ⟨v0 []⟩, .string ⟨v0 []⟩] 37 X ?_
 intro aM aN Y
 refine cu (aj.cells z) 0 Y C5 ?_
 intro aO Z
 refine An rfl (H7 ?_)
 have A:=Z.pk [2]
 refine H8 (Mz rfl (Kz (.bool (decide (t=0))) (Mz rfl ?_)))
 by_cases c:t=0
 refine gw (.bool p) (dT c) (Ie rfl) (fw (.bool p) (Ic rfl (dT c) rfl) (An rfl (rt (rs (nt ?_)))))
 rcases Lr (p) with r | r
 refine jT r (sr (Mz rfl (An rfl (rt (bR (tR (tR (bR (tR (rs (Kz (.bool (decide ((a:Int) >= 0))) (An rfl (rt (rs (An rfl (rt (rs ?_)))))))))))))))))
 have aa:=A.pk []
 obtain rfl:_=decide ((a:Int) >= 0):=zj hr (iG (et (g) (et (congrArg (λ q=>jE d q a) o) (et (ae h) (et (ae j) (et (ip c) (ip r)))))))
 exact⟨rfl,aa⟩
 refine jF r (IG (bN (Ib (H8 (fw (vJ (a+1)) (Ig (e:=B5.wrap ((a:Int)+1)) yk f1) (Mz rfl (B6 ?_)))))))
 have af:=A.pf []
 exact Iq (a+1) ⟨rfl,rfl,rfl,rfl,rfl,trivial⟩ (f.2 ⟨af,e8,et (g) (et (congrArg (λ q=>jE d q a) o) (et (ae h) (et (ae j) (et (ip c) (eF r)))))⟩) (by show b.length - (a+1) < b.length - a; omega)
 refine Sz (dF c) (fw (.bool false) (H6 rfl (dF c) rfl) (An rfl (rt (rs (nt (jf (IG (bN (Ib (H8 (fw (vJ (a+1)) (Ig (e:=B5.wrap ((a:Int)+1)) yk f1) (Mz rfl (B6 ?_)))))))))))))
 have ag:=A.pf []
 exact Iq (a+1) ⟨rfl,rfl,rfl,rfl,rfl,trivial⟩ (f.2 ⟨ag,e8,et (g) (et (congrArg (λ q=>jE d q a) o) (et (ae h) (et (ae j) (iN c))))⟩) (by show b.length - (a+1) < b.length - a; omega)
 refine jF (dF E) (B7 (Ip ?_))
 have N:jE d b 0=y0 ():=et (g) (et (congrArg (λ q=>jE d q a) (eX (ls:=b) (i:=a) e8)) rfl)
 refine Ip (Iz (Ib (sr (An rfl (rt (rs (Kz (.bool (decide ((-1) >= 0))) (An rfl (rt (rs (An rfl (rt (rs ?_)))))))))))))
 have ah:=n.pk []
 obtain rfl:_=decide ((-1) >= 0):=zj hr (lw N)
 exact⟨rfl,ah⟩
def oM (b:ax) (l1:List aX):Bool:=
 if(b.aa.aI:Int)=0 then false else bnd (uh l1 b.aa.aH) λ a=>if a=true then true else false
theorem uC (w D c) (a:ax) (g h i j k l m n o p z A B l1 J) (H:Own w D w [blk c (kB a g a.aa.ah.ls.length h i a.aa.ak.ls.length j k a.aa.af.ls.length l a.aa.bi o m a.ag.ls.length n p) 80]) (C:Ro w D λ w'=>bO w' 6 z A (q2 aX.cells l1)) (E:A=l1.length) (L:l1.length<=9223372036854775807) (hr:oM a l1=J):
    Calls u9 134 #[vP c 0, .slice z A B] w (dI λ v w'=>v= .bool J/\Own w D w' [blk c (kB a g a.aa.ah.ls.length h i a.aa.ak.ls.length j k a.aa.af.ls.length l a.aa.bi o m a.ag.ls.length n p) 80]):=by
 unfold oM at hr
 subst E
 refine cb Tryz.func134 ?_
 refine sr (An rfl (H7 (sr (Mz rfl (Kz (vP c 0) (Kz (vP c 0) (Kz (vP c 9) (Lz (vU a.aa.aI) H 0 E1 (fw (.bool (decide (¬ ((a.aa.aI:Int)=0)))) (Iu (e:= !(decide ((a.aa.aI:Int)=0))) yk decide_not.symm) (Mz rfl ?_))))))))))
 by_cases b:(a.aa.aI:Int)=0
 refine Sk rfl rfl (dF (Lp b)) rfl (Sk rfl rfl (dF (Lp b)) rfl (Sk rfl rfl (dF (Lp b)) rfl (Sk rfl rfl (dF (Lp b)) rfl (Sk rfl rfl (dF (Lp b)) rfl (Sk rfl rfl (dF (Lp b)) rfl (Sk rfl rfl (dF (Lp b)) rfl (fw (.bool false) (H6 rfl (dF (Lp b)) rfl) (nt (jf (sk (sr (Mz rfl (Kz (vP c 0) (Kz (vP c 20) (Lz (.pointer none) H 0 Tryz.isAgg78 (Kz (.bool false) (Mz rfl (Sz rfl (Sz rfl (Sz rfl (Sz rfl (Sz rfl (Sz rfl (Sz rfl (fw (.bool false) (H6 rfl rfl rfl) (Mz rfl (Sz rfl (Sz rfl (Sz rfl (Sz rfl (Sz rfl (Sz rfl (Sz rfl (Sz rfl (Sz rfl (fw (.bool false) (H6 rfl rfl rfl) ?_))))))))))))))))))))))))))))))))))))
 refine An rfl (rt (rs ?_))
 have F:=H.pf []
 obtain rfl:=zj hr zq1
 exact⟨rfl,F⟩
 refine gw (.slice z l1.length B) (dT b) (Ie rfl) (gw (vP c 0) (dT b) (Ie rfl) (Gz (vP c 0) (dT b) (Gz (vP c 0) (dT b) (Gz (vP c 10) (dT b) (Ga (aj.cells a.aa.aH) (dT b) H 0 C6 C5 ?_)))))
 obtain⟨r,d⟩:∃ q,uh l1 a.aa.aH=q:=⟨_,rfl⟩
 obtain⟨M,t,u,x,K⟩:=Ia H
 refine oh (dT b) Tryz.call180 (yL _ _ z l1.length B l1 a.aa.aH r t (u _ C) rfl e8 d) ?_
 rintro _ N ⟨rfl,y⟩
 have s:=x _ _ y
 refine fw (.bool r) (Ic rfl (dT b) rfl) (nt ?_)
 rcases Lr (r) with f | f
 refine jT f (sr (An rfl (rt (tR (rs ?_)))))
 have G:=s.pf []
 obtain rfl:=zj hr zq3
 exact⟨rfl,G⟩
 refine jF f (sk (sr (Mz rfl (Kz (vP c 0) (Kz (vP c 20) (Lz (.pointer none) s 0 Tryz.isAgg78 (Kz (.bool false) (Mz rfl (Sz rfl (Sz rfl (Sz rfl (Sz rfl (Sz rfl (Sz rfl (Sz rfl (fw (.bool false) (H6 rfl rfl rfl) (Mz rfl (Sz rfl (Sz rfl (Sz rfl (Sz rfl (Sz rfl (Sz rfl (Sz rfl (Sz rfl (Sz rfl (fw (.bool false) (H6 rfl rfl rfl) (An rfl (rt (rs ?_))))))))))))))))))))))))))))))
 have I:=s.pf []
 obtain rfl:=zj hr zq3
 exact⟨rfl,I⟩
def jM (a:ax) (d:dL):Bool:=
 if B5.wrap ((a.aa.ak.ls.length:Int)+(a.ag.ls.length:Int)) >= 6 then true else if B5.wrap ((B5.wrap ((a.aa.ak.ls.length:Int)+(a.ag.ls.length:Int)))+(a.aa.af.ls.length:Int)) >= 64 then true else if(d.aJ:Int)=(a.aa.aJ:Int) then bnd (p9 a d.aK.ls) λ b=>if b=true then bnd (oM a d.aK.ls) λ c=>c else true else true
theorem uk (w D l) (a:ax) (n m r s o p t u y z) (d:dL) (j L k B M C E F N G r0) (H:Own w D w [blk l (kB a n a.aa.ah.ls.length m r a.aa.ak.ls.length s o a.aa.af.ls.length p a.aa.bi y t a.ag.ls.length u z) 80]) (Q:Ro w D λ w'=>bO w' 2 n a.aa.ah.ls.length (q2 bM.cells a.aa.ah.ls)) (aA:a.aa.ah.ls.length<=m/\a.aa.ah.ls.length<=9223372036854775807) (R:L=d.aK.ls.length) (I:Ro w D λ w'=>bO w' 6 j d.aK.ls.length (q2 aX.cells d.aK.ls)) (aB:d.aK.ls.length<=k/\d.aK.ls.length<=9223372036854775807) (S:s1 aR.abs E=d.aV.ls) (T:M=d.aV.ls.length) (aC:Ro w D λ w'=>bO w' 3 B d.aV.ls.length (q2 aR.cells E)) (aD:d.aV.ls.length<=C/\d.aV.ls.length<=9223372036854775807) (aF:∀ x ∈ E,Ro w D (λ w'=>bO w' 2 x.bz.A x.bz.ls.length (q2 az.cells x.bz.ls))/\(x.bz.ls.length<=x.bz.c/\x.bz.ls.length<=9223372036854775807)) (U:N=d.ah.ls.length) (aG:Ro w D λ w'=>bO w' 2 F d.ah.ls.length (q2 bM.cells d.ah.ls)) (aH:d.ah.ls.length<=G/\d.ah.ls.length<=9223372036854775807) (aZ:a.aa.ah.ls.length<=1000) (hr:jM a d=r0):
    Calls u9 80 #[vP l 0, .agg (iy d.aB d.jo d.jU d.iq d.gp d.iZ d.gN d.aQ d.aU d.bi d.bq d.aJ d.aD d.bv d.xN d.ik d.aA.aN d.aA.aT j L k B M C F N G).toArray] w (dI λ v w'=>v= .bool r0/\Own w D w' [blk l (kB a n a.aa.ah.ls.length m r a.aa.ak.ls.length s o a.aa.af.ls.length p a.aa.bi y t a.ag.ls.length u z) 80]):=by
 unfold jM at hr
 subst R T U
 have ay:=aY S
 refine cb Tryz.func80 ?_
 refine sr ?_
 refine bW (lX d j k B C F G) 47 H ?_
 intro V bf aI
 refine An rfl (H7 ?_)
 refine oO [] (Ik Iw) aI ?_
 intro bg W
 refine qv 0 rfl rfl (qp l 0 1 rfl (qp l 0 2 rfl (qp l 6 3 rfl (ql 4 rfl 1 D3 rfl rfl rfl (qk (vJ a.aa.ak.ls.length) 5 rfl (qv 6 rfl rfl (qp l 0 7 rfl (qp l 18 8 rfl (ql 9 rfl 1 Q6 rfl rfl rfl (qk (vJ a.ag.ls.length) 10 rfl (qk (vI (B5.wrap ((a.aa.ak.ls.length:Int)+(a.ag.ls.length:Int)))) 11 rfl (qa 12 rfl rfl (qn (Ib (sr (Mz rfl (Kz (.bool (decide (B5.wrap ((a.aa.ak.ls.length:Int)+(a.ag.ls.length:Int)) >= 6))) (Mz rfl ?_))))))))))))))))))
 by_cases b:B5.wrap ((a.aa.ak.ls.length:Int)+(a.ag.ls.length:Int)) >= 6
 refine Sz (dT b) (Sz (dT b) (Sz (dT b) (Sz (dT b) (Sz (dT b) (Sz (dT b) (Sz (dT b) (Sz (dT b) (Sz (dT b) (fw (.bool true) (Ic rfl (dT b) rfl) (An rfl (H7 ?_)))))))))))
 refine oO [] (Ik Iw) W ?_
 intro bi aJ
 refine qv 0 rfl rfl (qv 1 rfl rfl (Ih (rs:= []) 2 rfl rfl rfl rfl e9 (Ih (rs:= []) 3 rfl rfl rfl rfl e9 (Ih (rs:= []) 4 rfl rfl rfl rfl e9 (Ih (rs:= []) 5 rfl rfl rfl rfl e9 (Ih (rs:= []) 6 rfl rfl rfl rfl e9 (Ih (rs:= []) 7 rfl rfl rfl rfl e9 (Ih (rs:= []) 8 rfl rfl rfl rfl e9 (Ih (rs:= []) 9 rfl rfl rfl rfl e9 (qt (v:= .bool true) 10 rfl (λ _ _=>Ic rfl rfl rfl) (qv 11 rfl rfl (Ih (rs:= []) 12 rfl rfl rfl rfl e9 (Ih (rs:= []) 13 rfl rfl rfl rfl e9 (Ih (rs:= []) 14 rfl rfl rfl rfl e9 (Ih (rs:= []) 15 rfl rfl rfl rfl e9 (Ih (rs:= []) 16 rfl rfl rfl rfl e9 (qt (v:= .bool true) 17 rfl (λ _ _=>Ic rfl rfl rfl) (qv 18 rfl rfl (Ih (rs:= []) 19 rfl rfl rfl rfl e9 (Ih (rs:= []) 20 rfl rfl rfl rfl e9 (Ih (rs:= []) 21 rfl rfl rfl rfl e9 (Ih (rs:= []) 22 rfl rfl rfl rfl e9 (qt (v:= .bool true) 23 rfl (λ _ _=>Ic rfl rfl rfl) (qa 24 rfl rfl (qn (Ib (rt (rs ?_))))))))))))))))))))))))))))
 have aK:=aJ.pk [1]
 obtain rfl:=zj hr zq1
 exact⟨rfl,aK⟩
 refine gw (vI (B5.wrap ((a.aa.ak.ls.length:Int)+(a.ag.ls.length:Int)))) (dF b) (Ie rfl) (gw (vP l 0) (dF b) (Ie rfl) (Gz (vP l 0) (dF b) (Gz (vP l 0) (dF b) (Gz (vP l 7) (dF b) (Gl (.slice o a.aa.af.ls.length p) (dF b) W 1 E2 (Gz (vJ a.aa.af.ls.length) (dF b) (Gz (vI (B5.wrap ((B5.wrap ((a.aa.ak.ls.length:Int)+(a.ag.ls.length:Int)))+(a.aa.af.ls.length:Int)))) (dF b) (Gz (.bool (decide (B5.wrap ((B5.wrap ((a.aa.ak.ls.length:Int)+(a.ag.ls.length:Int)))+(a.aa.af.ls.length:Int)) >= 64))) (dF b) (fw (.bool (decide (B5.wrap ((B5.wrap ((a.aa.ak.ls.length:Int)+(a.ag.ls.length:Int)))+(a.aa.af.ls.length:Int)) >= 64))) (H6 rfl (dF b) rfl) (An rfl (H7 ?_)))))))))))
 refine oO [] (Ik Iw) W ?_
 intro bn X
 refine qv 0 rfl rfl (qv 1 rfl rfl ?_)
 by_cases f:B5.wrap ((B5.wrap ((a.aa.ak.ls.length:Int)+(a.ag.ls.length:Int)))+(a.aa.af.ls.length:Int)) >= 64
 refine Ih (rs:= []) 2 rfl rfl rfl (dT f) e9 (Ih (rs:= []) 3 rfl rfl rfl (dT f) e9 (Ih (rs:= []) 4 rfl rfl rfl (dT f) e9 (Ih (rs:= []) 5 rfl rfl rfl (dT f) e9 (Ih (rs:= []) 6 rfl rfl rfl (dT f) e9 (Ih (rs:= []) 7 rfl rfl rfl (dT f) e9 (Ih (rs:= []) 8 rfl rfl rfl (dT f) e9 (Ih (rs:= []) 9 rfl rfl rfl (dT f) e9 (qt (v:= .bool true) 10 rfl (λ _ _=>Ic rfl (dT f) rfl) (qv 11 rfl rfl (Ih (rs:= []) 12 rfl rfl rfl rfl e9 (Ih (rs:= []) 13 rfl rfl rfl rfl e9 (Ih (rs:= []) 14 rfl rfl rfl rfl e9 (Ih (rs:= []) 15 rfl rfl rfl rfl e9 (Ih (rs:= []) 16 rfl rfl rfl rfl e9 (qt (v:= .bool true) 17 rfl (λ _ _=>Ic rfl rfl rfl) (qv 18 rfl rfl (Ih (rs:= []) 19 rfl rfl rfl rfl e9 (Ih (rs:= []) 20 rfl rfl rfl rfl e9 (Ih (rs:= []) 21 rfl rfl rfl rfl e9 (Ih (rs:= []) 22 rfl rfl rfl rfl e9 (qt (v:= .bool true) 23 rfl (λ _ _=>Ic rfl rfl rfl) (qa 24 rfl rfl (qn (Ib (rt (rs ?_))))))))))))))))))))))))))
 have aL:=X.pk [1]
 obtain rfl:=zj hr zq2
 exact⟨rfl,aL⟩
 refine Ii (v:=vP V 11) (rs:= []) 2 rfl rfl rfl (dF f) e9 (λ _ _=>yk) (Ii (v:=vU d.aJ) (rs:= []) 3 rfl rfl rfl (dF f) e9 (λ _ ⟨_,Y⟩=>Il rfl (bQ.one E1 (IU (Y.cls (i:=0) rfl) rfl))) (Ii (v:=vP l 0) (rs:= []) 4 rfl rfl rfl (dF f) e9 (λ _ _=>Ie rfl) (Ii (v:=vP l 0) (rs:= []) 5 rfl rfl rfl (dF f) e9 (λ _ _=>yk) (Ii (v:=vP l 0) (rs:= []) 6 rfl rfl rfl (dF f) e9 (λ _ _=>yk) (Ii (v:=vP l 3) (rs:= []) 7 rfl rfl rfl (dF f) e9 (λ _ _=>yk) (Ii (v:=vU a.aa.aJ) (rs:= []) 8 rfl rfl rfl (dF f) e9 (λ _ ⟨_,Y⟩=>Il rfl (bQ.one E1 (IU (Y.cls (i:=1) rfl) rfl))) (Ii (v:= .bool (decide (¬ ((d.aJ:Int)=(a.aa.aJ:Int))))) (rs:= []) 9 rfl rfl rfl (dF f) e9 (λ _ _=>Iu (e:= !(decide ((d.aJ:Int)=(a.aa.aJ:Int)))) yk decide_not.symm) (qt (v:= .bool (decide (¬ ((d.aJ:Int)=(a.aa.aJ:Int))))) 10 rfl (λ _ _=>H6 rfl (dF f) rfl) (qv 11 rfl rfl ?_)))))))))
 by_cases g:(d.aJ:Int)=(a.aa.aJ:Int)
 refine Ii (v:=vP l 0) (rs:= []) 12 rfl rfl rfl (dF (Lp g)) e9 (λ _ _=>Ie rfl) (Ii (v:=vP V 18) (rs:= []) 13 rfl rfl rfl (dF (Lp g)) e9 (λ _ _=>yk) (Ii (v:= .slice j d.aK.ls.length k) (rs:= []) 14 rfl rfl rfl (dF (Lp g)) e9 (λ _ ⟨_,Y⟩=>Il rfl (bQ.one E3 (IU (Y.cls (i:=0) rfl) rfl))) ?_))
 have aM:=X.pb [0]
 obtain⟨K,J⟩:∃ q,p9 a d.aK.ls=q:=⟨_,rfl⟩
 obtain⟨bq,af,O,ag,aV⟩:=IE aM
 refine Ja 15 rfl rfl rfl (decide_eq_false (Lp g)) e9 (IB Tryz.call133 rfl (vB _ _ l a n m r s o p t u y z j d.aK.ls.length k d.aK.ls K af (O _ Q) e8 (O _ I) rfl e8 f0 J) ?_)
 rintro _ bu ⟨rfl,ah⟩
 have aN:=ag _ _ ah
 have Z:=aN.pb [0]
 refine⟨.inr ⟨_,Z⟩, ?_⟩
 refine Ii (v:= .bool (!K)) (rs:= []) 16 rfl rfl rfl (dF (Lp g)) e9 (λ _ _=>yk) (qt (v:= .bool (!K)) 17 rfl (λ _ _=>H6 rfl (dF (Lp g)) rfl) (qv 18 rfl rfl ?_))
 rcases Lr (K) with h | h
 refine Ii (v:=vP l 0) (rs:= []) 19 rfl rfl rfl (cn h) e9 (λ _ _=>Ie rfl) (Ii (v:=vP V 18) (rs:= []) 20 rfl rfl rfl (cn h) e9 (λ _ _=>yk) (Ii (v:= .slice j d.aK.ls.length k) (rs:= []) 21 rfl rfl rfl (cn h) e9 (λ _ ⟨_,Y⟩=>Il rfl (bQ.one E3 (IU (Y.cls (i:=0) rfl) rfl))) ?_))
 have aO:=Z.pb [0]
 obtain⟨aa,P⟩:∃ q,oM a d.aK.ls=q:=⟨_,rfl⟩
 obtain⟨bv,ai,aj,ak,aW⟩:=IE aO
 refine Ja 22 rfl rfl rfl (cn h) e9 (IB Tryz.call134 rfl (uC _ _ l a n m r s o p t u y z j d.aK.ls.length k d.aK.ls aa ai (aj _ I) rfl e8 P) ?_)
 rintro _ bz ⟨rfl,au⟩
 have aP:=ak _ _ au
 have av:=aP.pb [0]
 refine⟨.inr ⟨_,av⟩, ?_⟩
 refine qt (v:= .bool aa) 23 rfl (λ _ _=>H6 rfl (cn h) rfl) (qa 24 rfl rfl (qn (Ib (rt (rs ?_)))))
 have aQ:=av.pk [1]
 obtain rfl:=zj hr zq6
 exact⟨rfl,aQ⟩
 refine Ih (rs:= []) 19 rfl rfl rfl (cn h) e9 (Ih (rs:= []) 20 rfl rfl rfl (cn h) e9 (Ih (rs:= []) 21 rfl rfl rfl (cn h) e9 (Ih (rs:= []) 22 rfl rfl rfl (cn h) e9 (qt (v:= .bool true) 23 rfl (λ _ _=>Ic rfl (cn h) rfl) (qa 24 rfl rfl (qn (Ib (rt (rs ?_)))))))))
 have aS:=Z.pk [1]
 obtain rfl:=zj hr zq5
 exact⟨rfl,aS⟩
 refine Ih (rs:= []) 12 rfl rfl rfl (dT g) e9 (Ih (rs:= []) 13 rfl rfl rfl (dT g) e9 (Ih (rs:= []) 14 rfl rfl rfl (dT g) e9 (Ih (rs:= []) 15 rfl rfl rfl (dT g) e9 (Ih (rs:= []) 16 rfl rfl rfl (dT g) e9 (qt (v:= .bool true) 17 rfl (λ _ _=>Ic rfl (dT g) rfl) (qv 18 rfl rfl (Ih (rs:= []) 19 rfl rfl rfl rfl e9 (Ih (rs:= []) 20 rfl rfl rfl rfl e9 (Ih (rs:= []) 21 rfl rfl rfl rfl e9 (Ih (rs:= []) 22 rfl rfl rfl rfl e9 (qt (v:= .bool true) 23 rfl (λ _ _=>Ic rfl rfl rfl) (qa 24 rfl rfl (qn (Ib (rt (rs ?_))))))))))))))))
 have aT:=X.pk [1]
 obtain rfl:=zj hr zq3
 exact⟨rfl,aT⟩
def dZ (b:ax) (c:Nat):ax:=
 bnd (bX b c) λ a=>if a.2=true then ax.mk b.aa (F2 (t6 (G0 a.1) b.ag.ls++s0 ((G0 a.1)+1) b.ag.ls)) else b
theorem mh (w D A) (a:ax) (l m n o p r g f c s t Q) (R:ax) (H:Own w D w [blk A (kB a l a.aa.ah.ls.length m n a.aa.ak.ls.length o p a.aa.af.ls.length r a.aa.bi s g a.ag.ls.length f t) 80,row g a.ag.ls.length f (q2 aP.cells c) 99 4,sepL (q2 IA c)]) (d:s1 aP.abs c=a.ag.ls) (az:a.ag.ls.length<=1000) (hr:dZ a Q=R):
    Calls u9 87 #[vP A 0,vU Q] w (dI λ v w'=> ∃ u x h,v= .tuple #[]/\Own w D w' [blk A (kB a l a.aa.ah.ls.length m n a.aa.ak.ls.length o p a.aa.af.ls.length r a.aa.bi s u R.ag.ls.length x t) 80,row u R.ag.ls.length x (q2 aP.cells h) 99 4,sepL (q2 IA h)]/\(s1 aP.abs h=R.ag.ls)):=by
 unfold dZ at hr
 have S:=aY d
 have V:=H.rowC (i:=1) rfl
 refine cb Tryz.func87 ?_
 refine sr (Mz rfl (Mz rfl ?_))
 have ag:=H.rowC (i:=1) rfl
 obtain⟨⟨b,k⟩,y⟩:∃ q:Int × Bool,bX a Q=q:=⟨_,rfl⟩
 obtain⟨aA,G,ah,I,z⟩:=IE H
 refine cl Tryz.call79 (je _ _ A a l m n o p r g f c s t Q b k G d (z _ 0 _ rfl bP) e8 (λ T U=>⟨z _ 1 _ rfl (bL (O3.2 ⟨T,U,b3⟩) bP),dC (φ:=λ _=>_) H (i:=2) rfl (bL (O3.2 ⟨T,U,b3⟩) dK),z _ 1 _ rfl (bL (O3.2 ⟨T,U, .tail _ b3⟩) bP),dC (φ:=λ _=>_) H (i:=2) rfl (bL (O3.2 ⟨T,U, .tail _ b3⟩) dK)⟩) f0 y) ?_
 rintro _ aB ⟨rfl,J,B,C⟩
 have E:=I _ _ J
 replace B:0<=b/\b<=(a.ag.ls.length:Int):=B
 replace C:Bool.toNat k=0\/b < (a.ag.ls.length:Int):=C
 refine Mz rfl (Kz (vI b) (Kz (.bool k) (Az rfl (Ar rfl (Mn rfl ?_)))))
 rcases Lr (k) with j | j
 have h35t:Bool.toNat k=1:=by rw [j]; rfl
 refine jT j (H8 (Mz rfl (Mz rfl (Kz (vP A 0) (Kz (vP A 18) (Lz (.slice g a.ag.ls.length f) E 0 Q6 (Mz rfl (Mz rfl (fw (vI (b+1)) (Ig (e:=B5.wrap (b+1)) yk i5) ?_)))))))))
 obtain⟨W,K⟩:∃ q,c[G0 b]? =some q:=⟨_,p5 e8⟩
 have X:=E.pb [0]
 obtain⟨aC,L,ai,M,aj⟩:=IX X
 refine cl Tryz.call142 (uf _ _ g a.ag.ls.length f c a.ag.ls b (b+1) (G0 b) W L e8 d e8 e8 e8 K) ?_
 rintro _ aD ⟨N,O,rfl,P⟩
 have F:=M _ _ P
 have ak:q7 (t6 (G0 b) c++s0 ((G0 b)+1) c)=q7 (t6 (G0 b) a.ag.ls++s0 ((G0 b)+1) a.ag.ls):=by exact aY (nU d)
 have au:q7 (t6 (G0 b) a.ag.ls++s0 ((G0 b)+1) a.ag.ls)+1=a.ag.ls.length:=by simp only [o0,m8,m9]; omega
 have av:=F.rowC (i:=2) rfl
 have ay:=F.rowC (i:=3) rfl
 refine Kz (vP A 0) (Kz (vP A 18) ?_)
 have Y:=F.pf [4]
 refine cu [.slice N (q7 (t6 (G0 b) a.ag.ls++s0 ((G0 b)+1) a.ag.ls)) O] 18 Y Tryz.sizeOf77 ?_
 intro aF Z
 refine B6 (IV (res0 rfl) ?_)
 have aa:=Z.pk [0,1,2]
 obtain rfl:=zj hr zq2
 exact⟨N,O,(t6 (G0 b) c++s0 ((G0 b)+1) c),rfl,aa,(nU d)⟩
 have h35t:Bool.toNat k=0:=by rw [j]; rfl
 refine jF j (IG (IV (res0 rfl) ?_))
 have af:=E.pf []
 obtain rfl:=zj hr zq2
 exact⟨g,f,c,rfl,af,d⟩
def mF (e:ax) (d:aX) (b:StoreT):(List az) × Int:=
 if d.aB=1 then bnd (qy b d.aZ) λ a=>if a.2.1=true then([(az.mk d.aZ a.1)],0) else(([]:List az),a.2.2) else if d.aB=4 then bnd (pR b (aj.mk d.aN d.aT) 2147483647) λ c=>(c.1,c.2) else(([]:List az),0)
theorem vC (w D L) (a:ax) (n o p r s t u x z) (g:aX) (f) (b:StoreT) (d c Q r1) (H:Own w D w [blk L (kB a n a.aa.ah.ls.length o p a.aa.ak.ls.length r s a.aa.af.ls.length t a.aa.bi f u a.ag.ls.length x z) 80,blk f [.slice d b.xM.ls.length c] 27]) (h:Ro w D λ w'=>bO w' 2 d b.xM.ls.length (q2 az.cells b.xM.ls)) (R:b.xM.ls.length<=c/\b.xM.ls.length<=9223372036854775807) (aR:b.xM.ls.length<=4000) (hr:mF a g b=(Q,r1)):
    Calls u9 176 #[vP L 0, .agg (aX.cells g).toArray] w (dI λ v w'=> ∃ B0 b0,v= .tuple #[.slice B0 Q.length b0,vI r1]/\Own w D w' [row B0 Q.length b0 (q2 az.cells Q) 101 2,blk L (kB a n a.aa.ah.ls.length o p a.aa.ak.ls.length r s a.aa.af.ls.length t a.aa.bi f u a.ag.ls.length x z) 80,blk f [.slice d b.xM.ls.length c] 27]/\(r1=0/\Q.length<=4000)):=by
 unfold mF at hr
 refine cb Tryz.func176 ?_
 refine sr ?_
 refine bW (aX.cells g) 68 H ?_
 intro A au F
 refine Az rfl (An rfl (H7 (sr (Kz (vP A 0) (Lz (vI g.aB) F 0 Tryz.isAgg3 (nt (bo (sr (Kz (.bool (decide (g.aB=1))) (An rfl ?_))))))))))
 by_cases k:g.aB=1
 refine jT (dT k) (H7 ?_)
 refine yw [] (Ik (bH.block (Ik Iw))) F ?_
 intro aS av
 refine qv 0 rfl rfl (qp L 0 1 rfl (qp L 17 2 rfl (ql 3 rfl 1 Tryz.isAgg72 rfl rfl rfl (qp A 1 4 rfl (ql 5 rfl 0 y4 rfl rfl rfl ?_)))))
 have ay:=av.pf [2]
 obtain⟨⟨l,m,j⟩,B⟩:∃ q:(List UInt8) × Bool × Int,qy b g.aZ=q:=⟨_,rfl⟩
 obtain⟨aT,S,T,U,aO⟩:=IE ay
 refine qd 6 rfl (J9 (Fq _) rfl rfl (xV _ _ f b d c g.aZ l m j S (T _ h) e8 f0 B) ?_)
 rintro _ aA ⟨rfl,V,M⟩
 have aB:=U _ _ V
 replace M:j=0:=M
 have G:=aB.pb [0]
 refine⟨.inr ⟨_,G⟩, ?_⟩
 refine qv 7 rfl rfl (qk (.string ⟨v0 l⟩) 8 rfl (qk (.bool m) 9 rfl (qk (vI j) 10 rfl (qa 11 rfl rfl (qa 12 rfl rfl (qa 13 rfl rfl (qn (Ib (H7 (sr (Mz rfl (fw (.bool (decide (¬ (j=0)))) (Iu (e:= !(decide (j=0))) yk decide_not.symm) (Mz rfl ?_)))))))))))))
 have C:(decide (¬ (j=0)))=false:=(dF e8)
 refine IQ (v:= .bool m) rfl rfl C rfl (Ie rfl) (Gz (.bool (!m)) C (fw (.bool (!m)) (H6 rfl C rfl) (nt ?_)))
 rcases Lr (m) with E | E
 refine jF (cn E) (sk (sr (Kz (vP A 1) (Lz (.string ⟨v0 g.aZ⟩) G 0 y4 (Mz rfl (Kz (.agg #[.string ⟨v0 g.aZ⟩, .string ⟨v0 l⟩]) ?_))))))
 refine jN [.string ⟨v0 g.aZ⟩, .string ⟨v0 l⟩] 101 2 1 G ?_
 intro W aU P
 replace P:=IL (y:=row W 1 1 (q2 az.cells ([(az.mk g.aZ l)])) 101 2) rfl P
 refine Az rfl (An rfl (rt (bR (tR (Ir (kD rfl rfl rfl) ?_)))))
 have aC:=P.pk [0,2,3]
 obtain⟨rfl,rfl⟩:=fB (zj hr zq3)
 exact⟨W,1,rfl,aC,i2⟩
 refine jT (cn E) (sr (Mz rfl (Az rfl (An rfl (rt (tR (bR (tR (Ir (kD rfl rfl rfl) ?_)))))))))
 have aD:Own w D aA (row none 0 0 (q2 az.cells []) 101 2::_):=G.free (bZ 101 2)
 have aF:=aD.pk [0,2,3]
 obtain⟨rfl,rfl⟩:=fB (zj hr zq3)
 exact⟨none,0,rfl,aF,i2⟩
 refine jF (dF k) (sr (Kz (.bool (decide (g.aB=4))) (An rfl ?_)))
 by_cases I:g.aB=4
 refine jT (dT I) (H7 ?_)
 refine yw [] (Ik (bH.block (Ik Iw))) F ?_
 intro aV aG
 refine qv 0 rfl rfl (qp L 0 1 rfl (qp L 17 2 rfl (ql 3 rfl 1 Tryz.isAgg72 rfl rfl rfl (qp A 3 4 rfl (ql 5 rfl 0 y4 rfl rfl rfl (qp A 4 6 rfl (ql 7 rfl 0 y4 rfl rfl rfl (qk (.agg #[.string ⟨v0 g.aN⟩, .string ⟨v0 g.aT⟩]) 8 rfl ?_))))))))
 have aH:=aG.pf [2]
 obtain⟨⟨J,K⟩,N⟩:∃ q:(List az) × Int,pR b (aj.mk g.aN g.aT) 2147483647=q:=⟨_,rfl⟩
 obtain⟨aW,X,Y,Z,aP⟩:=IE aH
 refine qd 9 rfl (J9 (EB _) rfl rfl (xu _ _ f b d c (aj.mk g.aN g.aT) 2147483647 J K X (Y _ h) e8 f0 N) ?_)
 rintro _ aY ⟨aa,af,rfl,ag,O⟩
 have ah:=Z _ _ ag
 have aQ:=ah.rowC (i:=0) rfl
 replace O:K=0/\J.length<=4000:=O
 have ai:=ah.pb [1,0]
 refine⟨.inr ⟨_,ai⟩, ?_⟩
 refine qk (.slice aa J.length af) 10 rfl (qk (vI K) 11 rfl (qa 12 rfl rfl (qa 13 rfl rfl (qn (Ib (rt (bR (tR (Ir (kD rfl rfl rfl) ?_)))))))))
 have aI:=ai.pk [3,1,2]
 obtain⟨rfl,rfl⟩:=fB (zj hr zq3)
 exact⟨aa,af,rfl,aI,i2⟩
 refine jF (dF I) (IG (bN (Ib (H7 ?_))))
 have aJ:=F.pk [1,2]
 refine H8 (Az rfl (An rfl (rt (Ir (kD rfl rfl rfl) ?_))))
 have aK:Own w D au [row none 0 0 (q2 az.cells []) 101 2,blk L (kB a n a.aa.ah.ls.length o p a.aa.ak.ls.length r s a.aa.af.ls.length t a.aa.bi f u a.ag.ls.length x z) 80,blk f [.slice d b.xM.ls.length c] 27]:=aJ.free (bZ 101 2)
 have aL:=aK.pf []
 obtain⟨rfl,rfl⟩:=fB (zj hr zq2)
 exact⟨none,0,rfl,aL,i2⟩
end
end Go.Proofs.YtndamapfnpihpaaGreat
