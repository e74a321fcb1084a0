/- The layers told, part 5. Conditions: none beyond each law's own. -/
import Derived.Test.YtndamapfnpihpaaGreatJd
namespace Go.Proofs.YtndamapfnpihpaaGreat
set_option maxHeartbeats 4000000
set_option maxRecDepth 100000
set_option linter.unusedVariables false
set_option linter.unusedSimpArgs false
set_option linter.unusedSectionVars false
open Int renaming toNat->E0
open IntKind renaming i64->v7,u64->F1
open List renaming drop->r7,flatMap->q0,flatMap_append->t2,getD->v1,getElem?_eq_getElem->p3,length->q5,length_append->m8,length_cons->q6,length_drop->m7,length_nil->H2,length_set->J1,length_take->m6,map->r8,mem_cons->t7,mem_flatMap->M5,mem_of_getElem?->C1,mem_of_mem_take->I3,not_mem_nil->u4,take->t1,toArray->u3
open Ll renaming mk->D4
open Sum renaming inl->v0,inr->v2
open Sv renaming mk->L3
open _root_.Go.Proofs.Tryz renaming isAgg32->C4,isAgg33->O4,isAgg34->C0,isAgg35->C5,isAgg37->B5,isAgg44->C6,isAgg60->O3,isAgg68->B3,isAgg77->O8,isAgg9->v3,isAgg99->O6,prog->u2,sizeOf35->O5,sizeOf37->B4,sizeOf41->D1,sizeOf60->C2,sizeOf68->y6,sizeOf99->O7,underlying3->u6,underlying32->D2,underlying35->M6,underlying37->u9,underlying9->u5
open WL renaming nil->v8
open Wp renaming exit->v9,loop->v4
section
open Go.RowKit
structure ax where
 aa:bA
 ag:Ll bG
instance:Inhabited ax:=⟨⟨default,default⟩⟩
theorem tL:Elem u2 50 47 21 232:=mh (z:= .agg (ic 0 0 0 0 0 0 0 0 0 0 0 0 0 0 0 false [] [] none 0 0 none 0 0 none 0 0).toArray) Tryz.underlying50 e9 rfl f5
structure nY where
 bE:Sv bV
 aI:Sv aY
 bU:Bool
def nY.cells (x:nY):List Value:= [.slice x.bE.A x.bE.ls.length x.bE.c, .slice x.aI.A x.aI.ls.length x.aI.c, .bool x.bU]
instance:Bk nY:=⟨λ x _=>bk x.bE+(bk x.aI+(bk x.bU+(0)))⟩
theorem nY.len:∀ x,(nY.cells x).length=3:=λ _=>rfl
theorem nY.one:∀ x, ∀ u ∈ nY.cells x,u.oneCell'=true:=λ x u hu=>by
 simp only [nY.cells,t7,u4,or_false] at hu
 rcases hu with rfl | rfl | rfl <;> rfl
def Ke (w:World) (x:nY):Prop:=(mZ w 21 232 bV.cells (Ja w) x.bE)/\(mZ w 6 80 aY.cells (IY w) x.aI)/\(True)
instance:Inhabited nY:=⟨⟨default,default,default⟩⟩
structure dH where
 bE:Ll dM
 aI:Ll aY
 bU:Bool
instance:Inhabited dH:=⟨⟨default,default,default⟩⟩
def nY.abs (x:nY):dH:=⟨⟨r8 bV.abs x.bE.ls⟩,⟨x.aI.ls⟩,x.bU⟩
def Ka (x:nY):List HP:= [row x.bE.A x.bE.ls.length x.bE.c (q0 bV.cells x.bE.ls) 47 21,row x.aI.A x.aI.ls.length x.aI.c (q0 aY.cells x.aI.ls) 68 6,sepL (q0 Hl x.bE.ls)]
theorem Ce:Elem u2 90 216 2 16:=mh (z:= .agg #[.int .u64 0, .bool false]) Tryz.underlying90 e9 rfl f5
structure di where
 au:Nat
 dC:Bool
def di.cells (x:di):List Value:= [.int .u64 ((x.au:Nat):Int), .bool x.dC]
instance:Bk di:=⟨λ x _=>bk x.au+(bk x.dC+(0))⟩
theorem di.len:∀ x,(di.cells x).length=2:=λ _=>rfl
theorem di.one:∀ x, ∀ u ∈ di.cells x,u.oneCell'=true:=λ x u hu=>by
 simp only [di.cells,t7,u4,or_false] at hu
 rcases hu with rfl | rfl <;> rfl
def Kg (w:World) (x:di):Prop:=(x.au<=18446744073709551615)/\(True)
instance:Inhabited di:=⟨⟨default,default⟩⟩
structure bJ where
 av:dH
 bD:Ll di
instance:Inhabited bJ:=⟨⟨default,default⟩⟩
def fq (l1:List bL):List bL->Nat->Unit ⊕ Bool
  | [],b=>v0 ()
  | c::d,b=>bnd (v1 l1 b default) λ a=>if(c.aO=a.aO)/\(c.ky=a.ky) then fq l1 d (b+1) else v2 (false)
def kT (a:List bL) (l1:List bL):Bool:=
 if(a.length:Int)=(l1.length:Int) then lp (fq l1 a 0) λ _=>true else false
theorem pq (w D r B C b s E F l1 P) (H:Own w D w []) (n:Ro w D λ w'=>bM w' 2 r B (q0 bL.cells b)) (G:B=b.length) (R:b.length<=9223372036854775807) (t:Ro w D λ w'=>bM w' 2 s E (q0 bL.cells l1)) (I:E=l1.length) (S:l1.length<=9223372036854775807) (hr:kT b l1=P):
    Calls u2 52 #[.slice r B C, .slice s E F] w (dG λ v w'=>v= .bool P/\Own w D w' []):=by
 unfold kT at hr
 subst G I
 refine cb Tryz.func52 ?_
 refine sr (An rfl (Gp (sr (Mz rfl (Kz (vJ b.length) (Mz rfl (Kz (vJ l1.length) (fw (.bool (decide (¬ ((b.length:Int)=(l1.length:Int))))) (GN (e:= !(decide ((b.length:Int)=(l1.length:Int)))) yk decide_not.symm) (nt ?_)))))))))
 by_cases f:(b.length:Int)=(l1.length:Int)
 refine jF (dF (Ko f)) (sk (Gp (sr (Mz rfl (Kz (vJ b.length) (Mn rfl (bo ?_)))))))
 have J:=H.pk []
 obtain⟨K,g⟩:=mP λ (a:Nat) w'=>Own w D w' []/\a<=b.length/\fq l1 b 0=fq l1 (r7 a b) a
 refine v4 (λ i:Nat=> [(4, .bool false),(13,vJ i),(12,vJ b.length),(0, .slice r b.length C),(1, .slice s l1.length F)]) K (λ i=>b.length - i) 0 ⟨rfl,rfl,rfl,rfl,rfl,trivial⟩ (g.2 ⟨J,e8,rfl⟩) ?_
 rintro a T x
 show Wp _ _ _ [(4, .bool false),(13,vJ a),(12,vJ b.length),(0, .slice r b.length C),(1, .slice s l1.length F)] _ _
 obtain⟨o,Q,h⟩:=g.1 x
 refine sr (Kz (.bool (decide ((a:Int) < (b.length:Int)))) (nt (Gp ?_)))
 by_cases y:(a:Int) < (b.length:Int)
 obtain⟨c,l⟩:=dI (ls:=b) (i:=a) bL.len f5 (o.ro n) f2
 have m:=drop_at l
 refine jT (dT y) (sk (Gp (bo (sr (Mz rfl (An rfl (Gp ?_)))))))
 refine Bq [] (GD (bH.block (GD (GD (bH.block (GD GQ)))))) o ?_
 intro U z
 refine qv 0 rfl rfl (qv 1 rfl rfl (qt (v:= .pointer (some ⟨ab r,ao r+a *2,none⟩)) 2 rfl (λ _ ⟨_,p⟩=>GI (sS) rfl rfl ((p.ro n).addr (i:=a) e8) e8) (qt (v:= .agg (bL.cells c).toArray) 3 rfl (λ _ ⟨_,p⟩=>GH rfl (GJ (cs:=(bL.cells c)) Tryz.isAgg83 Tryz.sizeOf83 ((p.ro n).elem bL.len l f5))) (qv 4 rfl rfl (qv 5 rfl rfl ?_)))))
 obtain⟨d,j⟩:=mK (ls:=l1) (i:=a) f2
 refine qt (v:= .pointer (some ⟨ab s,ao s+a *2,none⟩)) 6 rfl (λ _ ⟨_,p⟩=>GI (sS) rfl rfl ((p.ro t).addr (i:=a) e8) e8) (qt (v:= .agg (bL.cells d).toArray) 7 rfl (λ _ ⟨_,p⟩=>GH rfl (GJ (cs:=(bL.cells d)) Tryz.isAgg83 Tryz.sizeOf83 ((p.ro t).elem bL.len j f5))) (qt (v:= .bool (decide (¬ ((c.aO=d.aO)/\(c.ky=d.ky))))) 8 rfl (λ _ _=>GN (e:= !(decide ((c.aO=d.aO)/\(c.ky=d.ky)))) (Ib rfl rfl e9 rfl (fI.struct Tryz.underlying83 e9 (HV (fe.cons (u:= .string ⟨u3 c.aO⟩) (v:= .string ⟨u3 d.aO⟩) f5 (λ _=>by kernel_rfl) (λ _=>by kernel_rfl) (fI.string u5) (fe.cons (u:=vI c.ky) (v:=vI d.ky) f5 (λ _=>by kernel_rfl) (λ _=>by kernel_rfl) (fI.int u6) (fe.nil.up (Km _)))) ((congrArg (decide (c.aO=d.aO) && ·) kz).trans fo)))) decide_not.symm) (qn (Gs ?_))))
 by_cases k:(c.aO=d.aO)/\(c.ky=d.ky)
 refine jF (dF (Ko k)) (G7 (bN (Gs (Gq (fw (vJ (a+1)) (Gw (e:=v7.wrap ((a:Int)+1)) yk f1) (Mz rfl (v8 ?_)))))))
 have L:=z.pk []
 exact GL (a+1) ⟨rfl,rfl,rfl,rfl,rfl,trivial⟩ (g.2 ⟨L,e8,et (h) (et (congrArg (λ q=>fq l1 q a) m) (et (ae (bz j)) (ip k)))⟩) (by show b.length - (a+1) < b.length - a; omega)
 refine jT (dT k) (sr (An rfl (rt (bR (tR (tR (bR (tR (rs ?_)))))))))
 have M:=z.pk []
 obtain rfl:_=false:=zj hr (et (ip f) (iG (et (h) (et (congrArg (λ q=>fq l1 q a) m) (et (ae (bz j)) (iN k))))))
 exact⟨rfl,M⟩
 refine jF (dF y) (v9 (GK ?_))
 have A:fq l1 b 0=v0 ():=et (h) (et (congrArg (λ q=>fq l1 q a) (eP (ls:=b) (i:=a) e8)) rfl)
 refine GK (GR (Gs (sr (An rfl (rt (rs ?_))))))
 have N:=o.pk []
 obtain rfl:_=true:=zj hr (et (ip f) (kZ A))
 exact⟨rfl,N⟩
 refine jT (dT f) (sr (An rfl (rt (tR (rs ?_)))))
 have O:=H.pk []
 obtain rfl:=zj hr zq1
 exact⟨rfl,O⟩
def fT (l1:List Nat):List Nat->Nat->Unit ⊕ Bool
  | [],a=>v0 ()
  | c::d,a=>bnd (v1 l1 a default) λ b=>if(c:Int)=(b:Int) then fT l1 d (a+1) else v2 (false)
def lW (a:List Nat) (l1:List Nat):Bool:=
 if(a.length:Int)=(l1.length:Int) then lp (fT l1 a 0) λ _=>true else false
theorem qV (w D s B C b t E F l1 P) (H:Own w D w []) (o:Ro w D λ w'=>bM w' 1 s B (q0 (eN .u64) b)) (G:B=b.length) (R:b.length<=9223372036854775807) (u:Ro w D λ w'=>bM w' 1 t E (q0 (eN .u64) l1)) (I:E=l1.length) (S:l1.length<=9223372036854775807) (hr:lW b l1=P):
    Calls u2 53 #[.slice s B C, .slice t E F] w (dG λ v w'=>v= .bool P/\Own w D w' []):=by
 unfold lW at hr
 subst G I
 refine cb Tryz.func53 ?_
 refine sr (An rfl (Gp (sr (Mz rfl (Kz (vJ b.length) (Mz rfl (Kz (vJ l1.length) (fw (.bool (decide (¬ ((b.length:Int)=(l1.length:Int))))) (GN (e:= !(decide ((b.length:Int)=(l1.length:Int)))) yk decide_not.symm) (nt ?_)))))))))
 by_cases c:(b.length:Int)=(l1.length:Int)
 refine jF (dF (Ko c)) (sk (Gp (sr (Mz rfl (Kz (vJ b.length) (Mn rfl (bo ?_)))))))
 have J:=H.pk []
 obtain⟨K,d⟩:=mP λ (a:Nat) w'=>Own w D w' []/\a<=b.length/\fT l1 b 0=fT l1 (r7 a b) a
 refine v4 (λ i:Nat=> [(4, .bool false),(13,vJ i),(12,vJ b.length),(0, .slice s b.length C),(1, .slice t l1.length F)]) K (λ i=>b.length - i) 0 ⟨rfl,rfl,rfl,rfl,rfl,trivial⟩ (d.2 ⟨J,e8,rfl⟩) ?_
 rintro a T x
 show Wp _ _ _ [(4, .bool false),(13,vJ a),(12,vJ b.length),(0, .slice s b.length C),(1, .slice t l1.length F)] _ _
 obtain⟨p,Q,f⟩:=d.1 x
 refine sr (Kz (.bool (decide ((a:Int) < (b.length:Int)))) (nt (Gp ?_)))
 by_cases y:(a:Int) < (b.length:Int)
 obtain⟨h,m⟩:=dI (ls:=b) (i:=a) gT f5 (p.ro o) f2
 have n:=drop_at m
 refine jT (dT y) (sk (Gp (bo (sr (Mz rfl (An rfl (Gp ?_)))))))
 refine Bq [] (GD (bH.block (GD (GD (bH.block (GD GQ)))))) p ?_
 intro U z
 refine qv 0 rfl rfl (qv 1 rfl rfl (qt (v:= .pointer (some ⟨ab s,ao s+a *1,none⟩)) 2 rfl (λ _ ⟨_,r⟩=>GI (iC) rfl rfl ((r.ro o).addr (i:=a) e8) e8) (qt (v:=vU h) 3 rfl (λ _ ⟨_,r⟩=>GH rfl (bS.one C4 (((r.ro o).elem gT m f5).at_ (k:=0) rfl))) (qv 4 rfl rfl (qv 5 rfl rfl ?_)))))
 obtain⟨j,g⟩:=mK (ls:=l1) (i:=a) f2
 refine qt (v:= .pointer (some ⟨ab t,ao t+a *1,none⟩)) 6 rfl (λ _ ⟨_,r⟩=>GI (iC) rfl rfl ((r.ro u).addr (i:=a) e8) e8) (qt (v:=vU j) 7 rfl (λ _ ⟨_,r⟩=>GH rfl (bS.one C4 (((r.ro u).elem gT g f5).at_ (k:=0) rfl))) (qt (v:= .bool (decide (¬ ((h:Int)=(j:Int))))) 8 rfl (λ _ _=>GN (e:= !(decide ((h:Int)=(j:Int)))) yk decide_not.symm) (qn (Gs ?_))))
 by_cases l:(h:Int)=(j:Int)
 refine jF (dF (Ko l)) (G7 (bN (Gs (Gq (fw (vJ (a+1)) (Gw (e:=v7.wrap ((a:Int)+1)) yk f1) (Mz rfl (v8 ?_)))))))
 have L:=z.pk []
 exact GL (a+1) ⟨rfl,rfl,rfl,rfl,rfl,trivial⟩ (d.2 ⟨L,e8,et (f) (et (congrArg (λ q=>fT l1 q a) n) (et (ae (bz g)) (ip l)))⟩) (by show b.length - (a+1) < b.length - a; omega)
 refine jT (dT l) (sr (An rfl (rt (bR (tR (tR (bR (tR (rs ?_)))))))))
 have M:=z.pk []
 obtain rfl:_=false:=zj hr (et (ip c) (iG (et (f) (et (congrArg (λ q=>fT l1 q a) n) (et (ae (bz g)) (iN l))))))
 exact⟨rfl,M⟩
 refine jF (dF y) (v9 (GK ?_))
 have A:fT l1 b 0=v0 ():=et (f) (et (congrArg (λ q=>fT l1 q a) (eP (ls:=b) (i:=a) e8)) rfl)
 refine GK (GR (Gs (sr (An rfl (rt (rs ?_))))))
 have N:=p.pk []
 obtain rfl:_=true:=zj hr (et (ip c) (kZ A))
 exact⟨rfl,N⟩
 refine jT (dT c) (sr (An rfl (rt (tR (rs ?_)))))
 have O:=H.pk []
 obtain rfl:=zj hr zq1
 exact⟨rfl,O⟩
def fU (l1:List aY):List aY->Nat->Unit ⊕ Bool
  | [],c=>v0 ()
  | b::d,c=>bnd (v1 l1 c default) λ a=>if(b.az=a.az)/\(b.aX=a.aX)/\(b.aN=a.aN)/\(b.aO=a.aO)/\(b.aS=a.aS)/\(b.bO=a.bO) then fU l1 d (c+1) else v2 (false)
def lX (a:List aY) (l1:List aY):Bool:=
 if(a.length:Int)=(l1.length:Int) then lp (fU l1 a 0) λ _=>true else false
theorem qW (w D r B C d s E F l1 P) (H:Own w D w []) (n:Ro w D λ w'=>bM w' 6 r B (q0 aY.cells d)) (G:B=d.length) (R:d.length<=9223372036854775807) (t:Ro w D λ w'=>bM w' 6 s E (q0 aY.cells l1)) (I:E=l1.length) (S:l1.length<=9223372036854775807) (hr:lX d l1=P):
    Calls u2 51 #[.slice r B C, .slice s E F] w (dG λ v w'=>v= .bool P/\Own w D w' []):=by
 unfold lX at hr
 subst G I
 refine cb Tryz.func51 ?_
 refine sr (An rfl (Gp (sr (Mz rfl (Kz (vJ d.length) (Mz rfl (Kz (vJ l1.length) (fw (.bool (decide (¬ ((d.length:Int)=(l1.length:Int))))) (GN (e:= !(decide ((d.length:Int)=(l1.length:Int)))) yk decide_not.symm) (nt ?_)))))))))
 by_cases f:(d.length:Int)=(l1.length:Int)
 refine jF (dF (Ko f)) (sk (Gp (sr (Mz rfl (Kz (vJ d.length) (Mn rfl (bo ?_)))))))
 have J:=H.pk []
 obtain⟨K,g⟩:=mP λ (c:Nat) w'=>Own w D w' []/\c<=d.length/\fU l1 d 0=fU l1 (r7 c d) c
 refine v4 (λ i:Nat=> [(4, .bool false),(13,vJ i),(12,vJ d.length),(0, .slice r d.length C),(1, .slice s l1.length F)]) K (λ i=>d.length - i) 0 ⟨rfl,rfl,rfl,rfl,rfl,trivial⟩ (g.2 ⟨J,e8,rfl⟩) ?_
 rintro c T x
 show Wp _ _ _ [(4, .bool false),(13,vJ c),(12,vJ d.length),(0, .slice r d.length C),(1, .slice s l1.length F)] _ _
 obtain⟨o,Q,h⟩:=g.1 x
 refine sr (Kz (.bool (decide ((c:Int) < (d.length:Int)))) (nt (Gp ?_)))
 by_cases y:(c:Int) < (d.length:Int)
 obtain⟨a,l⟩:=dI (ls:=d) (i:=c) aY.len f5 (o.ro n) f2
 have m:=drop_at l
 refine jT (dT y) (sk (Gp (bo (sr (Mz rfl (An rfl (Gp ?_)))))))
 refine Bq [] (GD (bH.block (GD (GD (bH.block (GD GQ)))))) o ?_
 intro U z
 refine qv 0 rfl rfl (qv 1 rfl rfl (qt (v:= .pointer (some ⟨ab r,ao r+c *6,none⟩)) 2 rfl (λ _ ⟨_,p⟩=>GI (nD) rfl rfl ((p.ro n).addr (i:=c) e8) e8) (qt (v:= .agg (aY.cells a).toArray) 3 rfl (λ _ ⟨_,p⟩=>GH rfl (GJ (cs:=(aY.cells a)) B3 y6 ((p.ro n).elem aY.len l f5))) (qv 4 rfl rfl (qv 5 rfl rfl ?_)))))
 obtain⟨b,j⟩:=mK (ls:=l1) (i:=c) f2
 refine qt (v:= .pointer (some ⟨ab s,ao s+c *6,none⟩)) 6 rfl (λ _ ⟨_,p⟩=>GI (nD) rfl rfl ((p.ro t).addr (i:=c) e8) e8) (qt (v:= .agg (aY.cells b).toArray) 7 rfl (λ _ ⟨_,p⟩=>GH rfl (GJ (cs:=(aY.cells b)) B3 y6 ((p.ro t).elem aY.len j f5))) (qt (v:= .bool (decide (¬ ((a.az=b.az)/\(a.aX=b.aX)/\(a.aN=b.aN)/\(a.aO=b.aO)/\(a.aS=b.aS)/\(a.bO=b.bO))))) 8 rfl (λ _ _=>GN (e:= !(decide ((a.az=b.az)/\(a.aX=b.aX)/\(a.aN=b.aN)/\(a.aO=b.aO)/\(a.aS=b.aS)/\(a.bO=b.bO)))) (Ib rfl rfl e9 rfl (fI.struct Tryz.underlying68 e9 (HV (fe.cons (u:=vI a.az) (v:=vI b.az) f5 (λ _=>by kernel_rfl) (λ _=>by kernel_rfl) (fI.int u6) (fe.cons (u:= .string ⟨u3 a.aX⟩) (v:= .string ⟨u3 b.aX⟩) f5 (λ _=>by kernel_rfl) (λ _=>by kernel_rfl) (fI.string u5) (fe.cons (u:= .string ⟨u3 a.aN⟩) (v:= .string ⟨u3 b.aN⟩) f5 (λ _=>by kernel_rfl) (λ _=>by kernel_rfl) (fI.string u5) (fe.cons (u:= .string ⟨u3 a.aO⟩) (v:= .string ⟨u3 b.aO⟩) f5 (λ _=>by kernel_rfl) (λ _=>by kernel_rfl) (fI.string u5) (fe.cons (u:= .string ⟨u3 a.aS⟩) (v:= .string ⟨u3 b.aS⟩) f5 (λ _=>by kernel_rfl) (λ _=>by kernel_rfl) (fI.string u5) (fe.cons (u:=vI a.bO) (v:=vI b.bO) f5 (λ _=>by kernel_rfl) (λ _=>by kernel_rfl) (fI.int u6) (fe.nil.up (Km _)))))))) ((congrArg (decide (a.az=b.az) && ·) ((congrArg (decide (a.aX=b.aX) && ·) ((congrArg (decide (a.aN=b.aN) && ·) ((congrArg (decide (a.aO=b.aO) && ·) ((congrArg (decide (a.aS=b.aS) && ·) kz).trans fo)).trans fo)).trans fo)).trans fo)).trans fo)))) decide_not.symm) (qn (Gs ?_))))
 by_cases k:(a.az=b.az)/\(a.aX=b.aX)/\(a.aN=b.aN)/\(a.aO=b.aO)/\(a.aS=b.aS)/\(a.bO=b.bO)
 refine jF (dF (Ko k)) (G7 (bN (Gs (Gq (fw (vJ (c+1)) (Gw (e:=v7.wrap ((c:Int)+1)) yk f1) (Mz rfl (v8 ?_)))))))
 have L:=z.pk []
 exact GL (c+1) ⟨rfl,rfl,rfl,rfl,rfl,trivial⟩ (g.2 ⟨L,e8,et (h) (et (congrArg (λ q=>fU l1 q c) m) (et (ae (bz j)) (ip k)))⟩) (by show d.length - (c+1) < d.length - c; omega)
 refine jT (dT k) (sr (An rfl (rt (bR (tR (tR (bR (tR (rs ?_)))))))))
 have M:=z.pk []
 obtain rfl:_=false:=zj hr (et (ip f) (iG (et (h) (et (congrArg (λ q=>fU l1 q c) m) (et (ae (bz j)) (iN k))))))
 exact⟨rfl,M⟩
 refine jF (dF y) (v9 (GK ?_))
 have A:fU l1 d 0=v0 ():=et (h) (et (congrArg (λ q=>fU l1 q c) (eP (ls:=d) (i:=c) e8)) rfl)
 refine GK (GR (Gs (sr (An rfl (rt (rs ?_))))))
 have N:=o.pk []
 obtain rfl:_=true:=zj hr (et (ip f) (kZ A))
 exact⟨rfl,N⟩
 refine jT (dT f) (sr (An rfl (rt (tR (rs ?_)))))
 have O:=H.pk []
 obtain rfl:=zj hr zq1
 exact⟨rfl,O⟩
def qh (b:dD) (c:dD):Bool:=
 if(b.aV:Int)=(c.aV:Int) then bnd (lX b.aJ.ls c.aJ.ls) λ a=>a else false
theorem vD (w D) (f:dD) (b i c) (g:dD) (d j e G) (H:Own w D w []) (m:i=f.aJ.ls.length) (n:Ro w D λ w'=>bM w' 6 b f.aJ.ls.length (q0 aY.cells f.aJ.ls)) (z:f.aJ.ls.length<=c/\f.aJ.ls.length<=9223372036854775807) (o:j=g.aJ.ls.length) (p:Ro w D λ w'=>bM w' 6 d g.aJ.ls.length (q0 aY.cells g.aJ.ls)) (A:g.aJ.ls.length<=e/\g.aJ.ls.length<=9223372036854775807) (hr:qh f g=G):
    Calls u2 50 #[.agg #[vU f.aV, .slice b i c], .agg #[vU g.aV, .slice d j e]] w (dG λ v w'=>v= .bool G/\Own w D w' []):=by
 unfold qh at hr
 subst m o
 refine cb Tryz.func50 ?_
 refine sr ?_
 refine bW [vU f.aV, .slice b f.aJ.ls.length c] 60 H ?_
 intro s J B
 refine bW [vU g.aV, .slice d g.aJ.ls.length e] 60 B ?_
 intro t K h
 refine Ar rfl (Kz (vP s 0) (Lz (vU f.aV) h 1 C4 (Kz (vP t 0) (Lz (vU g.aV) h 0 C4 (Kz (.bool (decide ((f.aV:Int)=(g.aV:Int)))) (Mz rfl ?_))))))
 by_cases a:(f.aV:Int)=(g.aV:Int)
 refine Gz (vP s 1) (dT a) (Gl (.slice b f.aJ.ls.length c) (dT a) h 1 C6 (Gz (vP t 1) (dT a) (Gl (.slice d g.aJ.ls.length e) (dT a) h 0 C6 ?_)))
 obtain⟨r,k⟩:∃ q,lX f.aJ.ls g.aJ.ls=q:=⟨_,rfl⟩
 obtain⟨L,u,l,x,I⟩:=Gr h
 refine nQ (dT a) Tryz.call51 (qW _ _ b f.aJ.ls.length c f.aJ.ls d g.aJ.ls.length e g.aJ.ls r u (l _ n) rfl e8 (l _ p) rfl e8 k) ?_
 rintro _ M ⟨rfl,y⟩
 have C:=x _ _ y
 refine fw (.bool r) (Gu rfl (dT a) rfl) (An rfl (rt (rs ?_)))
 have E:=C.pk []
 obtain rfl:=zj hr zq2
 exact⟨rfl,E⟩
 refine Sz (dF a) (Sz (dF a) (Sz (dF a) (Sz (dF a) (Sz (dF a) (fw (.bool false) (Gm rfl (dF a) rfl) (An rfl (rt (rs ?_))))))))
 have F:=h.pk []
 obtain rfl:=zj hr zq1
 exact⟨rfl,F⟩
def dK (l1:List dD):List dD->Nat->Unit ⊕ Bool
  | [],b=>v0 ()
  | c::e,b=>bnd (v1 l1 b default) λ a=>bnd (qh (dD.mk c.aV (D4 c.aJ.ls)) (dD.mk a.aV (D4 a.aJ.ls))) λ d=>if d=true then dK l1 e (b+1) else v2 (false)
def iA (a:List dD) (l1:List dD):Bool:=
 if(a.length:Int)=(l1.length:Int) then lp (dK l1 a 0) λ _=>true else false
theorem lM (w D C T U d0 f E V W S l1 r0) (H:Own w D w []) (F:r8 bg.abs d0=f) (u:Ro w D λ w'=>bM w' 2 C T (q0 bg.cells d0)) (G:∀ x ∈ d0,Ro w D (λ w'=>bM w' 6 x.aJ.A x.aJ.ls.length (q0 aY.cells x.aJ.ls))/\(x.aJ.ls.length<=x.aJ.c/\x.aJ.ls.length<=9223372036854775807)) (X:T=f.length) (aF:f.length<=9223372036854775807) (I:r8 bg.abs S=l1) (y:Ro w D λ w'=>bM w' 2 E V (q0 bg.cells S)) (J:∀ x ∈ S,Ro w D (λ w'=>bM w' 6 x.aJ.A x.aJ.ls.length (q0 aY.cells x.aJ.ls))/\(x.aJ.ls.length<=x.aJ.c/\x.aJ.ls.length<=9223372036854775807)) (Y:V=l1.length) (aG:l1.length<=9223372036854775807) (hr:iA f l1=r0):
    Calls u2 54 #[.slice C T U, .slice E V W, .func (.func 50) #[] #[]] w (dG λ v w'=>v= .bool r0/\Own w D w' []):=by
 unfold iA at hr
 subst X Y
 have ay:=aW F
 have az:=aW I
 refine cb Tryz.func54 ?_
 refine sr (An rfl (Gp (sr (Mz rfl (Kz (vJ f.length) (Mz rfl (Kz (vJ l1.length) (fw (.bool (decide (¬ ((f.length:Int)=(l1.length:Int))))) (GN (e:= !(decide ((f.length:Int)=(l1.length:Int)))) yk decide_not.symm) (nt ?_)))))))))
 by_cases j:(f.length:Int)=(l1.length:Int)
 refine jF (dF (Ko j)) (sk (Gp (sr (Mz rfl (Kz (vJ f.length) (Mn rfl (bo ?_)))))))
 have Z:=H.pk []
 obtain⟨aa,k⟩:=mP λ (a:Nat) w'=>Own w D w' []/\a<=f.length/\dK l1 f 0=dK l1 (r7 a f) a
 refine v4 (λ i:Nat=> [(6, .bool false),(17,vJ i),(16,vJ f.length),(15, .slice C f.length U),(1, .slice E l1.length W),(2, .func (.func 50) #[] #[])]) aa (λ i=>f.length - i) 0 ⟨rfl,rfl,rfl,rfl,rfl,rfl,trivial⟩ (k.2 ⟨Z,e8,rfl⟩) ?_
 rintro a aH K
 show Wp _ _ _ [(6, .bool false),(17,vJ a),(16,vJ f.length),(15, .slice C f.length U),(1, .slice E l1.length W),(2, .func (.func 50) #[] #[])] _ _
 obtain⟨l,aA,m⟩:=k.1 K
 refine sr (Kz (.bool (decide ((a:Int) < (f.length:Int)))) (nt (Gp ?_)))
 by_cases L:(a:Int) < (f.length:Int)
 obtain⟨b,g⟩:=dI (ls:=d0) (i:=a) bg.len f5 (l.ro u) f2
 have M:=fO F g
 have aB:=(G _ (C1 g)).2
 have r:=drop_at M
 refine jT (dT L) (sk (Gp (bo (sr (Mz rfl (fw (.pointer (some ⟨ab C,ao C+a *2,none⟩)) (GI (kg) rfl rfl ((l.ro u).addr (i:=a) e8) e8) (fw (.agg (bg.cells b).toArray) (GH rfl (GJ (cs:=(bg.cells b)) O3 C2 ((l.ro u).elem bg.len g f5))) ?_)))))))
 refine bW [.int .u64 0, .slice none 0 0] 60 l ?_
 intro aI aJ af
 refine Az rfl ?_
 refine bY (bg.cells b) 0 af C2 ?_
 intro aK p
 refine ns (Mz rfl (Mz rfl ?_))
 obtain⟨d,h⟩:=dI (ls:=S) (i:=a) bg.len f5 (p.ro y) f2
 have s:=fO I h
 have aC:=(J _ (C1 h)).2
 refine fw (.pointer (some ⟨ab E,ao E+a *2,none⟩)) (GI (kg) rfl rfl ((p.ro y).addr (i:=a) e8) e8) (fw (.agg (bg.cells d).toArray) (GH rfl (GJ (cs:=(bg.cells d)) O3 C2 ((p.ro y).elem bg.len h f5))) ?_)
 refine bW [.int .u64 0, .slice none 0 0] 60 p ?_
 intro aL aM ag
 refine bY (bg.cells d) 0 ag C2 ?_
 intro aN z
 refine ns (Mz rfl (La (bg.cells b) z 1 O3 C2 (La (bg.cells d) z 0 O3 C2 ?_)))
 obtain⟨B,n⟩:∃ q,qh (dD.mk b.aV (D4 b.aJ.ls)) (dD.mk d.aV (D4 d.aJ.ls))=q:=⟨_,rfl⟩
 obtain⟨aO,N,t,O,aD⟩:=Gr z
 refine WL.do rfl (Hg Tryz.call50 rfl rfl (vD _ _ (dD.mk b.aV (D4 b.aJ.ls)) b.aJ.A b.aJ.ls.length b.aJ.c (dD.mk d.aV (D4 d.aJ.ls)) d.aJ.A d.aJ.ls.length d.aJ.c B N rfl (t _ (G _ (C1 g)).1) e8 rfl (t _ (J _ (C1 h)).1) e8 n) ?_)
 rintro _ aP ⟨rfl,P⟩
 have Q:=O _ _ P
 refine Kz (.bool (!B)) (nt ?_)
 rcases Kq (B) with o | o
 refine jF (cn o) (G7 (bN (Gs ?_)))
 have ah:=Q.pk []
 refine Gq (fw (vJ (a+1)) (Gw (e:=v7.wrap ((a:Int)+1)) yk f1) (Mz rfl (v8 ?_)))
 have ai:=ah.pk []
 exact GL (a+1) ⟨rfl,rfl,rfl,rfl,rfl,rfl,trivial⟩ (k.2 ⟨ai,e8,et (m) (et (congrArg (λ q=>dK l1 q a) r) (et (ae (bz s)) (et (ae n) (ip o))))⟩) (by show f.length - (a+1) < f.length - a; omega)
 refine jT (cn o) (Gp ?_)
 have aj:=Q.pk []
 refine Gq (An rfl (rt (bR (tR (tR (bR (tR (rs ?_))))))))
 have ak:=aj.pk []
 obtain rfl:_=false:=zj hr (et (ip j) (iG (et (m) (et (congrArg (λ q=>dK l1 q a) r) (et (ae (bz s)) (et (ae n) (dY o)))))))
 exact⟨rfl,ak⟩
 refine jF (dF L) (v9 (GK ?_))
 have R:dK l1 f 0=v0 ():=et (m) (et (congrArg (λ q=>dK l1 q a) (eP (ls:=f) (i:=a) e8)) rfl)
 refine GK (GR (Gs (sr (An rfl (rt (rs ?_))))))
 have au:=l.pk []
 obtain rfl:_=true:=zj hr (et (ip j) (kZ R))
 exact⟨rfl,au⟩
 refine jT (dT j) (sr (An rfl (rt (tR (rs ?_)))))
 have av:=H.pk []
 obtain rfl:=zj hr zq1
 exact⟨rfl,av⟩
def nM (a:bA) (b:bA):Bool:=
 if(a.aT:Int)=(b.aT:Int) then if(a.bv:Int)=(b.bv:Int) then if(a.aL:Int)=(b.aL:Int) then if(a.aG:Int)=(b.aG:Int) then if(a.bi:Int)=(b.bi:Int) then if(a.aM:Int)=(b.aM:Int) then if(a.aH.aO=b.aH.aO)/\(a.aH.aS=b.aH.aS) then if((a.aF.aG:Int)=(b.aF.aG:Int))/\((a.aF.bu:Int)=(b.aF.bu:Int))/\((a.aF.dA:Int)=(b.aF.dA:Int))/\((a.aF.aB.aO=b.aF.aB.aO)/\(a.aF.aB.aS=b.aF.aB.aS)) then bnd (kT a.ah.ls b.ah.ls) λ c=>if c=true then bnd (lW a.af.ls b.af.ls) λ d=>if d=true then bnd (iA a.ak.ls b.ak.ls) λ e=>e else false else false else false else false else false else false else false else false else false else false
theorem si (w D) (a:bA) (y Z z B aa C N E af F) (b:bA) (G ag I J ah K O L ai M r0) (H:Own w D w []) (ax:Z=a.ah.ls.length) (ay:Ro w D λ w'=>bM w' 2 y a.ah.ls.length (q0 bL.cells a.ah.ls)) (bn:a.ah.ls.length<=z/\a.ah.ls.length<=9223372036854775807) (S:r8 bg.abs N=a.ak.ls) (az:aa=a.ak.ls.length) (aA:Ro w D λ w'=>bM w' 2 B a.ak.ls.length (q0 bg.cells N)) (bq:a.ak.ls.length<=C/\a.ak.ls.length<=9223372036854775807) (T:∀ x ∈ N,Ro w D (λ w'=>bM w' 6 x.aJ.A x.aJ.ls.length (q0 aY.cells x.aJ.ls))/\(x.aJ.ls.length<=x.aJ.c/\x.aJ.ls.length<=9223372036854775807)) (aB:af=a.af.ls.length) (aC:Ro w D λ w'=>bM w' 1 E a.af.ls.length (q0 (eN .u64) a.af.ls)) (bu:a.af.ls.length<=F/\a.af.ls.length<=9223372036854775807) (aD:ag=b.ah.ls.length) (aF:Ro w D λ w'=>bM w' 2 G b.ah.ls.length (q0 bL.cells b.ah.ls)) (bv:b.ah.ls.length<=I/\b.ah.ls.length<=9223372036854775807) (U:r8 bg.abs O=b.ak.ls) (aG:ah=b.ak.ls.length) (aH:Ro w D λ w'=>bM w' 2 J b.ak.ls.length (q0 bg.cells O)) (bz:b.ak.ls.length<=K/\b.ak.ls.length<=9223372036854775807) (V:∀ x ∈ O,Ro w D (λ w'=>bM w' 6 x.aJ.A x.aJ.ls.length (q0 aY.cells x.aJ.ls))/\(x.aJ.ls.length<=x.aJ.c/\x.aJ.ls.length<=9223372036854775807)) (aI:ai=b.af.ls.length) (aJ:Ro w D λ w'=>bM w' 1 L b.af.ls.length (q0 (eN .u64) b.af.ls)) (bB:b.af.ls.length<=M/\b.af.ls.length<=9223372036854775807) (hr:nM a b=r0):
    Calls u2 23 #[.agg (gU a.bC a.aT a.bv a.aL a.aG y Z z B aa C E af F a.bi a.aM a.aH.aO a.aH.aS a.aF.aG a.aF.bu a.aF.dA a.aF.aB.aO a.aF.aB.aS).toArray, .agg (gU b.bC b.aT b.bv b.aL b.aG G ag I J ah K L ai M b.bi b.aM b.aH.aO b.aH.aS b.aF.aG b.aF.bu b.aF.dA b.aF.aB.aO b.aF.aB.aS).toArray] w (dG λ v w'=>v= .bool r0/\Own w D w' []):=by
 unfold nM at hr
 subst ax az aB aD aG aI
 have bf:=aW S
 have bi:=aW U
 refine cb Tryz.func23 ?_
 refine sr ?_
 refine bW (iU a y z B C E F) 41 H ?_
 intro r bX bC
 refine bW (iU b G I J K L M) 41 bC ?_
 intro s bY d
 refine An rfl (Gp (sr (Kz (vP r 1) (Lz (vU a.aT) d 1 C4 (Kz (vP s 1) (Lz (vU b.aT) d 0 C4 (fw (.bool (decide (¬ ((a.aT:Int)=(b.aT:Int))))) (GN (e:= !(decide ((a.aT:Int)=(b.aT:Int)))) yk decide_not.symm) (Mz rfl ?_))))))))
 by_cases f:(a.aT:Int)=(b.aT:Int)
 refine gw (vP r 2) (dF (Ko f)) yk (gw (vU a.bv) (dF (Ko f)) (GH rfl (bS.one C4 (Ho (d.cls (i:=1) rfl) rfl))) (gw (vP s 2) (dF (Ko f)) yk (gw (vU b.bv) (dF (Ko f)) (GH rfl (bS.one C4 (Ho (d.cls (i:=0) rfl) rfl))) (gw (.bool (decide (¬ ((a.bv:Int)=(b.bv:Int))))) (dF (Ko f)) (GN (e:= !(decide ((a.bv:Int)=(b.bv:Int)))) yk decide_not.symm) (fw (.bool (decide (¬ ((a.bv:Int)=(b.bv:Int))))) (Gm rfl (dF (Ko f)) rfl) (Mz rfl ?_))))))
 by_cases g:(a.bv:Int)=(b.bv:Int)
 refine gw (vP r 3) (dF (Ko g)) yk (gw (vU a.aL) (dF (Ko g)) (GH rfl (bS.one C4 (Ho (d.cls (i:=1) rfl) rfl))) (gw (vP s 3) (dF (Ko g)) yk (gw (vU b.aL) (dF (Ko g)) (GH rfl (bS.one C4 (Ho (d.cls (i:=0) rfl) rfl))) (gw (.bool (decide (¬ ((a.aL:Int)=(b.aL:Int))))) (dF (Ko g)) (GN (e:= !(decide ((a.aL:Int)=(b.aL:Int)))) yk decide_not.symm) (fw (.bool (decide (¬ ((a.aL:Int)=(b.aL:Int))))) (Gm rfl (dF (Ko g)) rfl) (Mz rfl ?_))))))
 by_cases h:(a.aL:Int)=(b.aL:Int)
 refine gw (vP r 4) (dF (Ko h)) yk (gw (vU a.aG) (dF (Ko h)) (GH rfl (bS.one C4 (Ho (d.cls (i:=1) rfl) rfl))) (gw (vP s 4) (dF (Ko h)) yk (gw (vU b.aG) (dF (Ko h)) (GH rfl (bS.one C4 (Ho (d.cls (i:=0) rfl) rfl))) (gw (.bool (decide (¬ ((a.aG:Int)=(b.aG:Int))))) (dF (Ko h)) (GN (e:= !(decide ((a.aG:Int)=(b.aG:Int)))) yk decide_not.symm) (fw (.bool (decide (¬ ((a.aG:Int)=(b.aG:Int))))) (Gm rfl (dF (Ko h)) rfl) (nt ?_))))))
 by_cases t:(a.aG:Int)=(b.aG:Int)
 refine jF (dF (Ko t)) (sk (Gp (sr (Kz (vP r 8) (Lz (vU a.bi) d 1 C4 (Kz (vP s 8) (Lz (vU b.bi) d 0 C4 (fw (.bool (decide (¬ ((a.bi:Int)=(b.bi:Int))))) (GN (e:= !(decide ((a.bi:Int)=(b.bi:Int)))) yk decide_not.symm) (Mz rfl ?_)))))))))
 by_cases j:(a.bi:Int)=(b.bi:Int)
 refine gw (vP r 9) (dF (Ko j)) yk (gw (vU a.aM) (dF (Ko j)) (GH rfl (bS.one C4 (Ho (d.cls (i:=1) rfl) rfl))) (gw (vP s 9) (dF (Ko j)) yk (gw (vU b.aM) (dF (Ko j)) (GH rfl (bS.one C4 (Ho (d.cls (i:=0) rfl) rfl))) (gw (.bool (decide (¬ ((a.aM:Int)=(b.aM:Int))))) (dF (Ko j)) (GN (e:= !(decide ((a.aM:Int)=(b.aM:Int)))) yk decide_not.symm) (fw (.bool (decide (¬ ((a.aM:Int)=(b.aM:Int))))) (Gm rfl (dF (Ko j)) rfl) (Mz rfl ?_))))))
 by_cases l:(a.aM:Int)=(b.aM:Int)
 refine gw (vP r 10) (dF (Ko l)) yk (gw (.agg (aj.cells a.aH).toArray) (dF (Ko l)) (GH rfl (GJ (cs:=(aj.cells a.aH)) B5 B4 ((d.cls (i:=1) rfl).lit (k:=10) (m:=2) rfl))) (gw (vP s 10) (dF (Ko l)) yk (gw (.agg (aj.cells b.aH).toArray) (dF (Ko l)) (GH rfl (GJ (cs:=(aj.cells b.aH)) B5 B4 ((d.cls (i:=0) rfl).lit (k:=10) (m:=2) rfl))) (gw (.bool (decide (¬ ((a.aH.aO=b.aH.aO)/\(a.aH.aS=b.aH.aS))))) (dF (Ko l)) (GN (e:= !(decide ((a.aH.aO=b.aH.aO)/\(a.aH.aS=b.aH.aS)))) (Ib rfl rfl e9 rfl (fI.struct u9 e9 (HV (fe.cons (u:= .string ⟨u3 a.aH.aO⟩) (v:= .string ⟨u3 b.aH.aO⟩) f5 (λ _=>by kernel_rfl) (λ _=>by kernel_rfl) (fI.string u5) (fe.cons (u:= .string ⟨u3 a.aH.aS⟩) (v:= .string ⟨u3 b.aH.aS⟩) f5 (λ _=>by kernel_rfl) (λ _=>by kernel_rfl) (fI.string u5) (fe.nil.up (Km _)))) ((congrArg (decide (a.aH.aO=b.aH.aO) && ·) kz).trans fo)))) decide_not.symm) (fw (.bool (decide (¬ ((a.aH.aO=b.aH.aO)/\(a.aH.aS=b.aH.aS))))) (Gm rfl (dF (Ko l)) rfl) (Mz rfl ?_))))))
 by_cases n:(a.aH.aO=b.aH.aO)/\(a.aH.aS=b.aH.aS)
 refine gw (vP r 12) (dF (Ko n)) yk (gw (.agg (iJ.cells a.aF).toArray) (dF (Ko n)) (GH rfl (GJ (cs:=(iJ.cells a.aF)) Tryz.isAgg39 Tryz.sizeOf39 ((d.cls (i:=1) rfl).lit (k:=12) (m:=5) rfl))) (gw (vP s 12) (dF (Ko n)) yk (gw (.agg (iJ.cells b.aF).toArray) (dF (Ko n)) (GH rfl (GJ (cs:=(iJ.cells b.aF)) Tryz.isAgg39 Tryz.sizeOf39 ((d.cls (i:=0) rfl).lit (k:=12) (m:=5) rfl))) (gw (.bool (decide (¬ (((a.aF.aG:Int)=(b.aF.aG:Int))/\((a.aF.bu:Int)=(b.aF.bu:Int))/\((a.aF.dA:Int)=(b.aF.dA:Int))/\((a.aF.aB.aO=b.aF.aB.aO)/\(a.aF.aB.aS=b.aF.aB.aS)))))) (dF (Ko n)) (GN (e:= !(decide (((a.aF.aG:Int)=(b.aF.aG:Int))/\((a.aF.bu:Int)=(b.aF.bu:Int))/\((a.aF.dA:Int)=(b.aF.dA:Int))/\((a.aF.aB.aO=b.aF.aB.aO)/\(a.aF.aB.aS=b.aF.aB.aS))))) (Ib rfl rfl e9 rfl (fI.struct Tryz.underlying39 e9 (HV (fe.cons (u:=vU a.aF.aG) (v:=vU b.aF.aG) f5 (λ _=>by kernel_rfl) (λ _=>by kernel_rfl) ((fI.int D2).up f5) (fe.cons (u:=vU a.aF.bu) (v:=vU b.aF.bu) f5 (λ _=>by kernel_rfl) (λ _=>by kernel_rfl) ((fI.int D2).up f5) (fe.cons (u:=vU a.aF.dA) (v:=vU b.aF.dA) f5 (λ _=>by kernel_rfl) (λ _=>by kernel_rfl) ((fI.int D2).up f5) (fe.cons (u:= .agg (aj.cells a.aF.aB).toArray) (v:= .agg (aj.cells b.aF.aB).toArray) f5 (λ _=>by kernel_rfl) (λ _=>by kernel_rfl) (fI.struct u9 e9 (HV (fe.cons (u:= .string ⟨u3 a.aF.aB.aO⟩) (v:= .string ⟨u3 b.aF.aB.aO⟩) f5 (λ _=>by kernel_rfl) (λ _=>by kernel_rfl) (fI.string u5) (fe.cons (u:= .string ⟨u3 a.aF.aB.aS⟩) (v:= .string ⟨u3 b.aF.aB.aS⟩) f5 (λ _=>by kernel_rfl) (λ _=>by kernel_rfl) (fI.string u5) (fe.nil.up (Km _)))) ((congrArg (decide (a.aF.aB.aO=b.aF.aB.aO) && ·) kz).trans fo))) (fe.nil.up (Km _)))))) ((congrArg (decide ((a.aF.aG:Int)=(b.aF.aG:Int)) && ·) ((congrArg (decide ((a.aF.bu:Int)=(b.aF.bu:Int)) && ·) ((congrArg (decide ((a.aF.dA:Int)=(b.aF.dA:Int)) && ·) kz).trans fo)).trans fo)).trans fo)))) decide_not.symm) (fw (.bool (decide (¬ (((a.aF.aG:Int)=(b.aF.aG:Int))/\((a.aF.bu:Int)=(b.aF.bu:Int))/\((a.aF.dA:Int)=(b.aF.dA:Int))/\((a.aF.aB.aO=b.aF.aB.aO)/\(a.aF.aB.aS=b.aF.aB.aS)))))) (Gm rfl (dF (Ko n)) rfl) (nt ?_))))))
 by_cases R:((a.aF.aG:Int)=(b.aF.aG:Int))/\((a.aF.bu:Int)=(b.aF.bu:Int))/\((a.aF.dA:Int)=(b.aF.dA:Int))/\((a.aF.aB.aO=b.aF.aB.aO)/\(a.aF.aB.aS=b.aF.aB.aS))
 refine jF (dF (Ko R)) (sk (sr (Ar rfl (Kz (vP r 5) (Lz (.slice y a.ah.ls.length z) d 1 O4 (Kz (vP s 5) (Lz (.slice G b.ah.ls.length I) d 0 O4 ?_)))))))
 obtain⟨aM,P⟩:∃ q,kT a.ah.ls b.ah.ls=q:=⟨_,rfl⟩
 obtain⟨bZ,aN,ak,aO,bT⟩:=Gr d
 refine cl Tryz.call52 (pq _ _ y a.ah.ls.length z a.ah.ls G b.ah.ls.length I b.ah.ls aM aN (ak _ ay) rfl e8 (ak _ aF) rfl e8 P) ?_
 rintro _ cu ⟨rfl,aP⟩
 have X:=aO _ _ aP
 refine Mz rfl ?_
 rcases Kq (aM) with p | p
 refine Gz (vP r 7) p (Gl (.slice E a.af.ls.length F) p X 1 C5 (Gz (vP s 7) p (Gl (.slice L b.af.ls.length M) p X 0 C5 ?_)))
 obtain⟨aK,W⟩:∃ q,lW a.af.ls b.af.ls=q:=⟨_,rfl⟩
 obtain⟨cz,aQ,au,aR,bU⟩:=Gr X
 refine H7 rfl rfl p rfl (GV Tryz.call53 rfl (qV _ _ E a.af.ls.length F a.af.ls L b.af.ls.length M b.af.ls aK aQ (au _ aC) rfl e8 (au _ aJ) rfl e8 W) ?_)
 rintro _ cB ⟨rfl,aS⟩
 have Y:=aR _ _ aS
 refine fw (.bool aK) (Gu rfl p rfl) (Mz rfl ?_)
 rcases Kq (aK) with o | o
 refine Gz (vP r 6) o (Gl (.slice B a.ak.ls.length C) o Y 1 C0 (Gz (vP s 6) o (Gl (.slice J b.ak.ls.length K) o Y 0 C0 (Hm (v:= .func (.func 50) #[] #[]) rfl rfl o rfl (Gv rfl) ?_))))
 obtain⟨aL,av⟩:∃ q,iA a.ak.ls b.ak.ls=q:=⟨_,rfl⟩
 obtain⟨cK,aT,Q,aU,bV⟩:=Gr Y
 refine H7 rfl rfl o rfl (GV Tryz.call54 rfl (lM _ _ B a.ak.ls.length C N a.ak.ls J b.ak.ls.length K O b.ak.ls aL aT S (Q _ aA) (λ x9 h9=>⟨Q _ (T x9 h9).1,(T x9 h9).2⟩) rfl e8 U (Q _ aH) (λ x9 h9=>⟨Q _ (V x9 h9).1,(V x9 h9).2⟩) rfl e8 av) ?_)
 rintro _ cO ⟨rfl,aZ⟩
 have bD:=aU _ _ aZ
 refine fw (.bool aL) (Gu rfl o rfl) (An rfl (rt (rs ?_)))
 have bE:=bD.pk []
 obtain rfl:=zj hr zq13
 exact⟨rfl,bE⟩
 refine Sz o (Sz o (Sz o (Sz o (Sz o (Sz o (fw (.bool false) (Gm rfl o rfl) (An rfl (rt (rs ?_)))))))))
 have bF:=Y.pk []
 obtain rfl:=zj hr zq12
 exact⟨rfl,bF⟩
 refine Sz p (Sz p (Sz p (Sz p (Sz p (fw (.bool false) (Gm rfl p rfl) (Mz rfl (Sz rfl (Sz rfl (Sz rfl (Sz rfl (Sz rfl (Sz rfl (fw (.bool false) (Gm rfl rfl rfl) (An rfl (rt (rs ?_))))))))))))))))
 have bG:=X.pk []
 obtain rfl:=zj hr zq10
 exact⟨rfl,bG⟩
 refine jT (dT R) (sr (An rfl (rt (tR (rs ?_)))))
 have bH:=d.pk []
 obtain rfl:=zj hr zq8
 exact⟨rfl,bH⟩
 refine Sz (dT n) (Sz (dT n) (Sz (dT n) (Sz (dT n) (Sz (dT n) (fw (.bool true) (Gu rfl (dT n) rfl) (nt (jt (sr (An rfl (rt (tR (rs ?_))))))))))))
 have bI:=d.pk []
 obtain rfl:=zj hr zq7
 exact⟨rfl,bI⟩
 refine Sz (dT l) (Sz (dT l) (Sz (dT l) (Sz (dT l) (Sz (dT l) (fw (.bool true) (Gu rfl (dT l) rfl) (Mz rfl (Sz rfl (Sz rfl (Sz rfl (Sz rfl (Sz rfl (fw (.bool true) (Gu rfl rfl rfl) (nt (jt (sr (An rfl (rt (tR (rs ?_)))))))))))))))))))
 have bJ:=d.pk []
 obtain rfl:=zj hr zq6
 exact⟨rfl,bJ⟩
 refine Sz (dT j) (Sz (dT j) (Sz (dT j) (Sz (dT j) (Sz (dT j) (fw (.bool true) (Gu rfl (dT j) rfl) (Mz rfl (Sz rfl (Sz rfl (Sz rfl (Sz rfl (Sz rfl (fw (.bool true) (Gu rfl rfl rfl) (Mz rfl (Sz rfl (Sz rfl (Sz rfl (Sz rfl (Sz rfl (fw (.bool true) (Gu rfl rfl rfl) (nt (jt (sr (An rfl (rt (tR (rs ?_))))))))))))))))))))))))))
 have bK:=d.pk []
 obtain rfl:=zj hr zq5
 exact⟨rfl,bK⟩
 refine jT (dT t) (sr (An rfl (rt (tR (rs ?_)))))
 have bN:=d.pk []
 obtain rfl:=zj hr zq4
 exact⟨rfl,bN⟩
 refine Sz (dT h) (Sz (dT h) (Sz (dT h) (Sz (dT h) (Sz (dT h) (fw (.bool true) (Gu rfl (dT h) rfl) (nt (jt (sr (An rfl (rt (tR (rs ?_))))))))))))
 have bO:=d.pk []
 obtain rfl:=zj hr zq3
 exact⟨rfl,bO⟩
 refine Sz (dT g) (Sz (dT g) (Sz (dT g) (Sz (dT g) (Sz (dT g) (fw (.bool true) (Gu rfl (dT g) rfl) (Mz rfl (Sz rfl (Sz rfl (Sz rfl (Sz rfl (Sz rfl (fw (.bool true) (Gu rfl rfl rfl) (nt (jt (sr (An rfl (rt (tR (rs ?_)))))))))))))))))))
 have bP:=d.pk []
 obtain rfl:=zj hr zq2
 exact⟨rfl,bP⟩
 refine Sz (dT f) (Sz (dT f) (Sz (dT f) (Sz (dT f) (Sz (dT f) (fw (.bool true) (Gu rfl (dT f) rfl) (Mz rfl (Sz rfl (Sz rfl (Sz rfl (Sz rfl (Sz rfl (fw (.bool true) (Gu rfl rfl rfl) (Mz rfl (Sz rfl (Sz rfl (Sz rfl (Sz rfl (Sz rfl (fw (.bool true) (Gu rfl rfl rfl) (nt (jt (sr (An rfl (rt (tR (rs ?_))))))))))))))))))))))))))
 have bQ:=d.pk []
 obtain rfl:=zj hr zq1
 exact⟨rfl,bQ⟩
def iM (a:bA):bA:=
 a
theorem lQ (w D) (a:bA) (p V r s W t b u X z) (Y:bA) (H:Own w D w []) (aj:V=a.ah.ls.length) (ak:Ro w D λ w'=>bM w' 2 p a.ah.ls.length (q0 bL.cells a.ah.ls)) (bF:a.ah.ls.length<=r/\a.ah.ls.length<=9223372036854775807) (J:r8 bg.abs b=a.ak.ls) (au:W=a.ak.ls.length) (av:Ro w D λ w'=>bM w' 2 s a.ak.ls.length (q0 bg.cells b)) (bG:a.ak.ls.length<=t/\a.ak.ls.length<=9223372036854775807) (M:∀ x ∈ b,Ro w D (λ w'=>bM w' 6 x.aJ.A x.aJ.ls.length (q0 aY.cells x.aJ.ls))/\(x.aJ.ls.length<=x.aJ.c/\x.aJ.ls.length<=9223372036854775807)) (ax:X=a.af.ls.length) (ay:Ro w D λ w'=>bM w' 1 u a.af.ls.length (q0 (eN .u64) a.af.ls)) (bI:a.af.ls.length<=z/\a.af.ls.length<=9223372036854775807) (dx:a.ah.ls.length<=1000000/\a.ak.ls.length<=1000000/\a.af.ls.length<=1000000) (bJ:(∀ x ∈ a.ak.ls,x.aJ.ls.length<=1000000)) (hr:iM a=Y):
    Calls u2 18 #[.agg (gU a.bC a.aT a.bv a.aL a.aG p V r s W t u X z a.bi a.aM a.aH.aO a.aH.aS a.aF.aG a.aF.bu a.aF.dA a.aF.aB.aO a.aF.aB.aS).toArray] w (dG λ v w'=> ∃ Z aa ae af ag ah N,v= .agg (iU Y Z aa ae af ag ah).toArray/\Own w D w' [row Z Y.ah.ls.length aa (q0 bL.cells Y.ah.ls) 83 2,row ae Y.ak.ls.length af (q0 bg.cells N) 60 2,sepL (q0 He N),row ag Y.af.ls.length ah (q0 (eN .u64) Y.af.ls) 32 1]/\(r8 bg.abs N=Y.ak.ls)):=by
 subst aj au ax
 have bD:=aW J
 refine cb Tryz.func18 ?_
 refine sr ?_
 refine bW (iU a p r s t u z) 41 H ?_
 intro d dz bK
 refine bW (gU 0 0 0 0 0 none 0 0 none 0 0 none 0 0 0 0 [] [] 0 0 0 [] []) 41 bK ?_
 intro U dA aA
 refine ns (Kz (vP d 5) (Lz (.slice p a.ah.ls.length r) aA 1 O4 ?_))
 obtain⟨dB,aB,aC,aD,cK⟩:=Gr aA
 refine cl Tryz.call33 (pg _ _ p a.ah.ls.length r a.ah.ls a.ah.ls aB (aC _ ak) rfl e8 rfl) ?_
 rintro _ dC ⟨B,C,rfl,aF⟩
 have aG:=aD _ _ aF
 have cO:=aG.rowC (i:=0) rfl
 refine Kz (vP d 5) ?_
 have bO:=aG.pf [2]
 refine bY [.slice B a.ah.ls.length C] 5 bO Tryz.sizeOf33 ?_
 intro dD aH
 refine ns (Kz (vP d 7) (Lz (.slice u a.af.ls.length z) aH 0 C5 ?_))
 obtain⟨dE,aI,aJ,aK,cZ⟩:=Gr aH
 refine cl Tryz.call34 (qU _ _ u a.af.ls.length z a.af.ls a.af.ls aI (aJ _ ay) rfl e8 rfl) ?_
 rintro _ dH ⟨E,F,rfl,aL⟩
 have aM:=aK _ _ aL
 have df:=aM.rowC (i:=0) rfl
 refine Kz (vP d 7) ?_
 have bP:=aM.pf [1]
 refine bY [.slice E a.af.ls.length F] 7 bP O5 ?_
 intro dI aN
 refine ns (Kz (vP d 6) (Lz (.slice s a.ak.ls.length t) aN 0 C0 ?_))
 obtain⟨dJ,aO,aP,aQ,dh⟩:=Gr aN
 refine cl Tryz.call35 (pY _ _ s _ t b b aO (aP _ av) e8 e8 rfl) ?_
 rintro _ dK ⟨h,n,rfl,aR⟩
 have bQ:=aQ _ _ aR
 refine Kz (vP d 6) ?_
 have bR:=bQ.pf [1]
 refine bY [.slice h b.length n] 6 bR Tryz.sizeOf34 ?_
 intro dL aS
 refine nt (Gp (sr (Kz (vP d 6) (Lz (.slice h b.length n) aS 0 C0 (Kz (vJ b.length) (Mn rfl (bo ?_)))))))
 have bT:=aS.pb [1]
 have bU:=(bT.sepNil).pick [1,2,3,4,5,0] f5 rfl
 refine v4 (ι:=Nat × (List bg)) (λ i=> [(19,vJ i.1),(18,vJ b.length),(17, .slice h b.length n),(16,vP d 6),(15,vP d 6),(14, .slice h b.length n),(13, .slice s a.ak.ls.length t),(12,vP d 6),(11,vP d 7),(10, .slice E a.af.ls.length F),(9, .slice u a.af.ls.length z),(8,vP d 7),(7,vP d 5),(6, .slice B a.ah.ls.length C),(5, .slice p a.ah.ls.length r),(4,vP d 5),(2,vP U 0),(1,vP d 0),(0, .agg (iU a p r s t u z).toArray)]) (fun(i:Nat × (List bg)) w'=>Own w D w' [blk d (gU a.bC a.aT a.bv a.aL a.aG B a.ah.ls.length C h b.length n E a.af.ls.length F a.bi a.aM a.aH.aO a.aH.aS a.aF.aG a.aF.bu a.aF.dA a.aF.aB.aO a.aF.aB.aS) 41,row E a.af.ls.length F (q0 (eN .u64) a.af.ls) 32 1,row B a.ah.ls.length C (q0 bL.cells a.ah.ls) 83 2,blk U (gU 0 0 0 0 0 none 0 0 none 0 0 none 0 0 0 0 [] [] 0 0 0 [] []) 41,row h b.length n (q0 bg.cells (i.2++r7 i.1 b)) 60 2,sepL (q0 He i.2)]/\(i.1<=b.length/\i.2.length=i.1/\r8 bg.abs i.2=r8 bg.abs (t1 i.1 b))) (λ i=>b.length - i.1) (0, []) ⟨rfl,rfl,rfl,rfl,rfl,rfl,rfl,rfl,rfl,rfl,rfl,rfl,rfl,rfl,rfl,rfl,rfl,rfl,rfl,trivial⟩ ⟨bU,(show 0<=b.length/\q5 []=0/\r8 bg.abs []=r8 bg.abs (t1 0 b) from ⟨e8,rfl,rfl⟩)⟩ ?_
 rintro ⟨g,l⟩ dM ⟨aT,O⟩
 show Wp _ _ _ [(19,vJ g),(18,vJ b.length),(17, .slice h b.length n),(16,vP d 6),(15,vP d 6),(14, .slice h b.length n),(13, .slice s a.ak.ls.length t),(12,vP d 6),(11,vP d 7),(10, .slice E a.af.ls.length F),(9, .slice u a.af.ls.length z),(8,vP d 7),(7,vP d 5),(6, .slice B a.ah.ls.length C),(5, .slice p a.ah.ls.length r),(4,vP d 5),(2,vP U 0),(1,vP d 0),(0, .agg (iU a p r s t u z).toArray)] _ _
 replace O:g<=b.length/\l.length=g/\r8 bg.abs l=r8 bg.abs (t1 g b):=O
 obtain⟨di,az,P⟩:=O
 refine sr (Kz (.bool (decide ((g:Int) < (b.length:Int)))) (nt (Gp ?_)))
 by_cases aU:(g:Int) < (b.length:Int)
 refine jT (dT aU) (sk (Gp (bo (sr (Mz rfl (An rfl ?_))))))
 obtain⟨j,I⟩:∃ q,b[g]? =some q:=⟨_,p3 e8⟩
 have Q:(l++r7 g b)[g]? =some j:=Ex e8 I
 have dm:=(M _ (C1 I)).2
 have dn:j.aJ.ls.length<=1000000:=by have q9:=bJ _ (C1 (fO J I)); exact q9
 refine FM [12] (bH.block (GD (GD (bH.block (GD GQ))))) aT ?_
 intro dN bV
 refine qp d 6 0 rfl (ql 1 rfl 0 C0 rfl rfl rfl (qv 2 rfl rfl (qp d 6 3 rfl (ql 4 rfl 0 C0 rfl rfl rfl (qv 5 rfl rfl (qt (v:= .pointer (some ⟨ab h,ao h+g *2,none⟩)) 6 rfl (λ _ ⟨_,H9⟩=>GI (kg) rfl rfl ((H9.rds (i:=4) rfl).addr (i:=g) e8) e8) (qk (.pointer (some ⟨ab h,ao h+g *2+1,none⟩)) 7 rfl (qt (v:= .slice j.aJ.A j.aJ.ls.length j.aJ.c) 8 rfl (λ _ ⟨_,H9⟩=>GH rfl (bS.one C6 (((H9.rds (i:=4) rfl).elem bg.len Q f5).at_ (k:=1) rfl))) ?_))))))))
 obtain⟨dO,aX,aZ,bf,dw⟩:=Gr bV
 refine qd 9 rfl (GV Tryz.call36 rfl (iF _ _ j.aJ.A j.aJ.ls.length j.aJ.c j.aJ.ls j.aJ.ls aX (aZ _ (M _ (C1 I)).1) rfl e8 rfl) ?_)
 rintro _ dP ⟨K,L,rfl,bi⟩
 have bX:=bf _ _ bi
 have bn:=bX.pb [0]
 refine⟨.inr ⟨_,bn⟩, ?_⟩
 refine qt (v:= .pointer (some ⟨ab h,ao h+g *2,none⟩)) 10 rfl (λ _ ⟨_,H9⟩=>GI (kg) rfl rfl ((H9.rds (i:=4) rfl).addr (i:=g) e8) e8) (qk (.pointer (some ⟨ab h,ao h+g *2+1,none⟩)) 11 rfl ?_)
 have bZ:=bn.pf [4]
 refine qe 12 rfl (Do.storeRow (vs:= [.slice K j.aJ.ls.length L]) (o:=g *2+1) (q:=ao h+g *2+1) bZ rfl e8 rfl Tryz.sizeOf44 rfl rfl (Kk rfl) (jg bg.len Q (Kk rfl)) (jU (y:=(bg.mk j.aV (L3 K L j.aJ.ls))) bg.len rfl (Kk rfl) Q) ?_)
 intro cu cz
 refine⟨.inl e9, ?_⟩
 refine qn (bN (Gs (Gq (fw (vJ (g+1)) (Gw (e:=v7.wrap ((g:Int)+1)) yk f1) (Mz rfl (v8 ?_))))))
 have bq:=cz.px [6,5] [] [0]
 have bu:Own w D cu (sepL (q0 He (l++ [(bg.mk j.aV (L3 K L j.aJ.ls))]))::_):=DU (f:=He) (es:=l) (y:=(bg.mk j.aV (L3 K L j.aJ.ls))) bq
 have ai:=bu.pk [1,2,3,4,5,0]
 rw [DV _ e8 e8] at ai
 exact GL (g+1,l++ [(bg.mk j.aV (L3 K L j.aJ.ls))]) ⟨rfl,rfl,rfl,rfl,rfl,rfl,rfl,rfl,rfl,rfl,rfl,rfl,rfl,rfl,rfl,rfl,rfl,rfl,rfl,trivial⟩ ⟨ai,(show (g+1)<=b.length/\q5 (l++ [(bg.mk j.aV (L3 K L j.aJ.ls))])=(g+1)/\r8 bg.abs (l++ [(bg.mk j.aV (L3 K L j.aJ.ls))])=r8 bg.abs (t1 (g+1) b) from ⟨e8,by simp [az],DW (f:=bg.abs) P I rfl⟩)⟩ (by show b.length - (g+1) < b.length - g; omega)
 refine jF (dF aU) (v9 (GK (GK (GR (Gs (sr ?_))))))
 have R:r8 bg.abs l=a.ak.ls:=by rw [P,List.take_of_length_le e8]; exact J
 have S:=aT
 rw [List.drop_eq_nil_of_le e8,List.append_nil] at S
 have cB:=aW R
 refine La (gU a.bC a.aT a.bv a.aL a.aG B a.ah.ls.length C h b.length n E a.af.ls.length F a.bi a.aM a.aH.aO a.aH.aS a.aF.aG a.aF.bu a.aF.dA a.aF.aB.aO a.aF.aB.aS) S 0 Tryz.isAgg41 D1 ?_
 have bv:=S.pf [3]
 refine bY (gU a.bC a.aT a.bv a.aL a.aG B a.ah.ls.length C h b.length n E a.af.ls.length F a.bi a.aM a.aH.aO a.aH.aS a.aF.aG a.aF.bu a.aF.dA a.aF.aB.aO a.aF.aB.aS) 0 bv D1 ?_
 intro bz T
 refine nt (rt (GM (oK rfl rfl (GJ (cs:=(gU a.bC a.aT a.bv a.aL a.aG B a.ah.ls.length C h b.length n E a.af.ls.length F a.bi a.aM a.aH.aO a.aH.aS a.aF.aG a.aF.bu a.aF.dA a.aF.aB.aO a.aF.aB.aS)) Tryz.isAgg41 D1 ((T.cls (i:=0) rfl).lit (k:=0) (m:=17) rfl))) ?_))
 have G:b.length=a.ak.ls.length:=by first | omega | (simp only [J1]; done) | (simp only [J1,m8,q6,H2,m6,m7,List.length_replicate]; omega)
 have bB:Own w D bz [blk U (iU a B C h n E F) 41,blk d (iU a B C h n E F) 41,row E a.af.ls.length F (q0 (eN .u64) a.af.ls) 32 1,row B a.ah.ls.length C (q0 bL.cells a.ah.ls) 83 2,row h a.ak.ls.length n (q0 bg.cells l) 60 2,sepL (q0 He l)]:=by first | (rw [<- G]; exact T) | (have q9:=T; rw [G] at q9; exact q9)
 have bC:=bB.pk [3,4,5,2]
 obtain rfl:_=a:=zj hr rfl
 exact⟨B,C,h,n,E,F,l,(by first | rfl | (rw [<- G]; done) | (rw [<- G]; rfl) | (rw [G]; first | done | rfl)),bC,R⟩
structure mI where
 xM:Sv aA
def mI.cells (x:mI):List Value:= [.slice x.xM.A x.xM.ls.length x.xM.c]
instance:Bk mI:=⟨λ x _=>bk x.xM+(0)⟩
theorem mI.len:∀ x,(mI.cells x).length=1:=λ _=>rfl
theorem mI.one:∀ x, ∀ u ∈ mI.cells x,u.oneCell'=true:=λ x u hu=>by
 simp only [mI.cells,t7,u4,or_false] at hu
 rcases hu with rfl <;> rfl
def Kb (w:World) (x:mI):Prop:=(mZ w 2 32 aA.cells (I6 w) x.xM)
instance:Inhabited mI:=⟨⟨default⟩⟩
structure StoreT where
 xM:Ll aA
instance:Inhabited StoreT:=⟨⟨default⟩⟩
def mI.abs (x:mI):StoreT:=⟨⟨x.xM.ls⟩⟩
def J4 (x:mI):List HP:= [row x.xM.A x.xM.ls.length x.xM.c (q0 aA.cells x.xM.ls) 101 2]
def r9 (b:StoreT) (c:List UInt8):(List UInt8) × Bool × Int:=
 bnd (tF b.xM.ls c) λ a=>(a.1,a.2,0)
theorem xG (w D h) (c:StoreT) (a b m s t n) (H:Own w D w [blk h [.slice a c.xM.ls.length b] 27]) (e:Ro w D λ w'=>bM w' 2 a c.xM.ls.length (q0 aA.cells c.xM.ls)) (o:c.xM.ls.length<=b/\c.xM.ls.length<=9223372036854775807) (x:c.xM.ls.length<=4000) (hr:r9 c m=(s,t,n)):
    Calls u2 252 #[vP h 0, .string ⟨u3 m⟩] w (dG λ v w'=>v= .tuple #[.string ⟨u3 s⟩, .bool t,vI n]/\Own w D w' [blk h [.slice a c.xM.ls.length b] 27]/\(n=0)):=by
 refine cb Tryz.func252 ?_
 refine sr (Az rfl (Az rfl (Ar rfl (Mz rfl (Kz (vP h 0) (Kz (vP h 0) (Lz (.slice a c.xM.ls.length b) H 0 Tryz.isAgg25 (Mz rfl ?_))))))))
 obtain⟨⟨f,g⟩,d⟩:∃ q:(List UInt8) × Bool,tF c.xM.ls m=q:=⟨_,rfl⟩
 obtain⟨y,i,j,k,u⟩:=Gr H
 refine cl Tryz.call56 (wX _ _ a c.xM.ls.length b c.xM.ls m f g i (j _ e) rfl e8 d) ?_
 rintro _ z ⟨rfl,l⟩
 have p:=k _ _ l
 refine Mz rfl (Kz (.string ⟨u3 f⟩) (Kz (.bool g) (Az rfl (Ar rfl (Mz rfl (Mz rfl (Az rfl (Az rfl (An rfl (rt (GM (xc rfl rfl rfl rfl) ?_)))))))))))
 have r:=p.pf []
 obtain⟨rfl,rfl,rfl⟩:=xU (zj hr (show _=(f,g,0) from ae d))
 exact⟨rfl,r,(by rfl)⟩
def rz (b:StoreT) (c:aj) (d:Int):(List aA) × Int:=
 bnd (qI b.xM.ls c d) λ a=>(a,0)
theorem wS (w D j) (d:StoreT) (a b) (g:aj) (z l A) (H:Own w D w [blk j [.slice a d.xM.ls.length b] 27]) (h:Ro w D λ w'=>bM w' 2 a d.xM.ls.length (q0 aA.cells d.xM.ls)) (B:d.xM.ls.length<=b/\d.xM.ls.length<=9223372036854775807) (P:d.xM.ls.length<=4000) (hr:rz d g z=(l,A)):
    Calls u2 253 #[vP j 0, .agg (aj.cells g).toArray,vI z] w (dG λ v w'=> ∃ L M,v= .tuple #[.slice L l.length M,vI A]/\Own w D w' [row L l.length M (q0 aA.cells l) 101 2,blk j [.slice a d.xM.ls.length b] 27]/\(A=0/\l.length<=4000)):=by
 unfold rz at hr
 refine cb Tryz.func253 ?_
 refine sr ?_
 refine bW (aj.cells g) 37 H ?_
 intro Q R C
 refine Az rfl (An rfl (Gp ?_))
 refine oD [] (GD GQ) C ?_
 intro S E
 refine qv 0 rfl rfl (qp j 0 1 rfl (qp j 0 2 rfl (ql 3 rfl 1 Tryz.isAgg25 rfl rfl rfl (qt (v:= .agg (aj.cells g).toArray) 4 rfl (λ _ ⟨_,T⟩=>GH rfl (GJ (cs:=(aj.cells g)) B5 B4 ((T.cls (i:=0) rfl).lit (k:=0) (m:=2) rfl))) (qv 5 rfl rfl ?_)))))
 obtain⟨c,e⟩:∃ q,qI d.xM.ls g z=q:=⟨_,rfl⟩
 obtain⟨U,n,o,p,N⟩:=Gr E
 refine qd 6 rfl (GV Tryz.call60 rfl (vw _ _ a d.xM.ls.length b d.xM.ls g z c n (o _ h) rfl e8 e) ?_)
 rintro _ F ⟨V,W,rfl,r,f⟩
 have t:=p _ _ r
 have O:=t.rowC (i:=0) rfl
 replace f:c.length<=d.xM.ls.length:=f
 have u:=t.pb [0]
 refine⟨.inr ⟨_,u⟩, ?_⟩
 have x:Own w D F (row none 0 0 (q0 aA.cells []) 101 2::_):=u.free (bX 101 2)
 refine qd 7 rfl (GZ (k:=0) (m:=c.length) (iK) x rfl rfl (eT Tryz.underlying25 (x.rds (i:=3) rfl) (cB aA.one c)) rfl e8 (s:=c.length) e8 rfl ?_)
 intro G I X J
 have y:=J.pb [0,3]
 refine⟨.inr ⟨_,y⟩, ?_⟩
 refine qa 8 rfl rfl (qa 9 rfl rfl (qn (Gs (rt (GM (j6 rfl rfl rfl) ?_)))))
 have K:=y.pk [2,1]
 obtain⟨rfl,rfl⟩:=fC (zj hr zq1)
 exact⟨G,I,rfl,K,(by first | omega | exact⟨rfl,e8⟩)⟩
def jL (b:bG) (c:Nat):Int:=
 bnd (dZ b.au c) λ a=>a
theorem nN (w D) (a:bG) (b f c d g e p A) (H:Own w D w []) (i:f=a.cK.ls.length) (r:Ro w D λ w'=>bM w' 6 b a.cK.ls.length (q0 aY.cells a.cK.ls)) (s:a.cK.ls.length<=c/\a.cK.ls.length<=9223372036854775807) (j:g=a.bK.ls.length) (t:Ro w D λ w'=>bM w' 3 d a.bK.ls.length (q0 aD.cells a.bK.ls)) (u:a.bK.ls.length<=e/\a.bK.ls.length<=9223372036854775807) (hr:jL a p=A):
    Calls u2 132 #[.agg #[vU a.au, .slice b f c, .slice d g e,vI a.aU],vU p] w (dG λ v w'=>v=vI A/\Own w D w' []):=by
 unfold jL at hr
 subst i j
 refine cb Tryz.func132 ?_
 refine sr ?_
 refine bW [vU a.au, .slice b a.cK.ls.length c, .slice d a.bK.ls.length e,vI a.aU] 99 H ?_
 intro x E k
 refine Ar rfl (Kz (vP x 0) (Lz (vU a.au) k 0 C4 (Mz rfl ?_)))
 obtain⟨l,h⟩:∃ q,dZ a.au p=q:=⟨_,rfl⟩
 obtain⟨F,m,B,n,C⟩:=Gr k
 refine cl Tryz.call129 (lU _ _ a.au p l m h) ?_
 rintro _ G ⟨rfl,o⟩
 have y:=n _ _ o
 refine An rfl (rt (rs ?_))
 have z:=y.pk []
 obtain rfl:=zj hr zq1
 exact⟨rfl,z⟩
def cO (f:List bG) (g:Nat):Nat->Nat->Nat->Nat
  | 0,a,c=>default
  | d+1,a,c=>if(a:Int) < (c:Int) then bnd (v1 f ((a+c) / 2) default) λ b=>bnd (jL (bG.mk b.au (D4 b.cK.ls) (D4 b.bK.ls) b.aU) g) λ e=>if e < 0 then cO f g d (((a+c) / 2)+1) c else cO f g d a ((a+c) / 2) else a
def bF (b:List bG) (d:Nat):Int × Bool:=
 bnd (cO b d ((b.length - 0)+1) 0 b.length) λ sLrL=>if(sLrL:Int) < (b.length:Int) then bnd (v1 b sLrL default) λ a=>bnd (jL (bG.mk a.au (D4 a.cK.ls) (D4 a.bK.ls) a.aU) d) λ c=>((sLrL:Int),decide (c=0)) else((sLrL:Int),false)
theorem lF (w D z Y X d0 h r M Z) (H:Own w D w []) (K:r8 aR.abs d0=h) (o:Ro w D λ w'=>bM w' 4 z Y (q0 aR.cells d0)) (m:∀ x ∈ d0,Ro w D (λ w'=>bM w' 6 x.cK.A x.cK.ls.length (q0 aY.cells x.cK.ls))/\(x.cK.ls.length<=x.cK.c/\x.cK.ls.length<=9223372036854775807)/\Ro w D (λ w'=>bM w' 3 x.bK.A x.bK.ls.length (q0 aD.cells x.bK.ls))/\(x.bK.ls.length<=x.bK.c/\x.bK.ls.length<=9223372036854775807)) (aa:Y=h.length) (aI:h.length *64<=211106232532992) (hr:bF h r=(M,Z)):
    Calls u2 131 #[.slice z Y X,vU r, .func (.func 132) #[] #[]] w (dG λ v w'=>v= .tuple #[vI M, .bool Z]/\Own w D w' []/\(0<=M/\M<=((h.length:Nat):Int))/\(Bool.toNat Z=0\/M < ((h.length:Nat):Int))):=by
 unfold bF at hr
 subst aa
 have av:=aW K
 refine cb Tryz.func131 ?_
 refine sr (Az rfl (Ar rfl (Mz rfl (Kz (vJ h.length) (Ar rfl (Mz rfl (Az rfl (An rfl (Gp (bo ?_))))))))))
 have af:=H.pk []
 obtain⟨ag,n⟩:=xW λ (a:Nat) (b:Nat) (s:Nat) w'=>Own w D w' []/\a<=b/\b<=h.length/\b - a < s/\cO h r ((h.length - 0)+1) 0 h.length=cO h r s a b
 refine v4 (λ i:Nat × Nat × Nat=> [(9,vJ i.1),(10,vJ i.2.1),(8,vJ h.length),(7, .bool false),(6,vI 0),(0, .slice z h.length X),(1,vU r),(2, .func (.func 132) #[] #[])]) ag (λ i=>i.2.2) (0,h.length,(h.length - 0)+1) ⟨rfl,rfl,rfl,rfl,rfl,rfl,rfl,rfl,trivial⟩ (n.2 ⟨af,e8,e8,e8,rfl⟩) ?_
 rintro ⟨a,b,s⟩ aJ N
 show Wp _ _ _ [(9,vJ a),(10,vJ b),(8,vJ h.length),(7, .bool false),(6,vI 0),(0, .slice z h.length X),(1,vU r),(2, .func (.func 132) #[] #[])] _ _
 obtain⟨l,ax,ay,az,t⟩:=n.1 N
 obtain⟨p,O⟩:∃ q,s=q+1:=⟨s - 1,e8⟩
 subst O
 refine Gp (sr (Mz rfl (Mz rfl (Kz (.bool (decide ((a:Int) < (b:Int)))) (nt ?_)))))
 by_cases u:(a:Int) < (b:Int)
 refine jT (dT u) (sk (bo (sr (Mz rfl (Mz rfl (fw (vJ (a+b)) (Gw (e:=v7.wrap ((a:Int)+(b:Int))) yk f1) (fw (vU (a+b)) (Gw (e:=F1.wrap ((a+b:Nat):Int)) yk (IntWalk.u64_in _ e8)) (fw (vU ((a+b) / 2)) (Gw (e:=Int.fdiv ((a+b:Nat):Int) 2) yk (uw _ 1 _ f5)) (fw (vJ ((a+b) / 2)) (Gw (e:=v7.wrap (((a+b) / 2:Nat):Int)) yk (Kl _ e8)) (Ar rfl (Mz rfl (Mz rfl (Mz rfl ?_)))))))))))))
 obtain⟨d,j⟩:=dI (ls:=d0) (i:=(a+b) / 2) aR.len f5 (l.ro o) f2
 have E:=fO K j
 have aA:=(m _ (C1 j)).2.1
 have aB:=(m _ (C1 j)).2.2.2
 refine fw (.pointer (some ⟨ab z,ao z+((a+b) / 2) *4,none⟩)) (GI (lC) rfl rfl ((l.ro o).addr (i:=(a+b) / 2) e8) e8) (fw (.agg (aR.cells d).toArray) (GH rfl (GJ (cs:=(aR.cells d)) O6 O7 ((l.ro o).elem aR.len j f5))) (Mz rfl ?_))
 obtain⟨L,y⟩:∃ q,jL (bG.mk d.au (D4 d.cK.ls) (D4 d.bK.ls) d.aU) r=q:=⟨_,rfl⟩
 obtain⟨aK,P,F,Q,aC⟩:=Gr l
 refine WL.do rfl (Hg Tryz.call132 rfl rfl (nN _ _ (bG.mk d.au (D4 d.cK.ls) (D4 d.bK.ls) d.aU) d.cK.A d.cK.ls.length d.cK.c d.bK.A d.bK.ls.length d.bK.c r L P rfl (F _ (m _ (C1 j)).1) e8 rfl (F _ (m _ (C1 j)).2.2.1) e8 y) ?_)
 rintro _ aL ⟨rfl,R⟩
 have S:=Q _ _ R
 refine Kz (.bool (decide (L < 0))) (nt ?_)
 by_cases B:L < 0
 refine jT (dT B) (Gq (Mz rfl (fw (vI ((((a+b) / 2)+1:Nat):Int)) (Gw (e:=v7.wrap ((((a+b) / 2:Nat):Int)+1)) yk f1) (Az rfl (v8 (bN ?_))))))
 have ah:=S.pk []
 exact GL (((a+b) / 2)+1,b,p) ⟨rfl,rfl,rfl,rfl,rfl,rfl,rfl,rfl,trivial⟩ (n.2 ⟨ah,e8,e8,e8,et (t) (et (ip u) (et (ae (bz E)) (et (ae y) (ip B))))⟩) (by show p < p+1; omega)
 refine jF (dF B) (Gq (Mz rfl (Az rfl (v8 (bN ?_)))))
 have ai:=S.pk []
 exact GL (a,(a+b) / 2,p) ⟨rfl,rfl,rfl,rfl,rfl,rfl,rfl,rfl,trivial⟩ (n.2 ⟨ai,e8,e8,e8,et (t) (et (ip u) (et (ae (bz E)) (et (ae y) (iN B))))⟩) (by show p < p+1; omega)
 refine jF (dF u) (v9 (GK ?_))
 have G:cO h r ((h.length - 0)+1) 0 h.length=a:=et (t) (iN u)
 refine GK (GR (Gs (sr (Mz rfl (Mz rfl (Mz rfl (Kz (.bool (decide ((a:Int) < (h.length:Int)))) (Mz rfl ?_))))))))
 by_cases g:(a:Int) < (h.length:Int)
 refine gw (.func (.func 132) #[] #[]) (dT g) (Gv rfl) (gw (.slice z h.length X) (dT g) (Gv rfl) (gw (vJ a) (dT g) (Gv rfl) ?_))
 obtain⟨f,k⟩:=dI (ls:=d0) (i:=a) aR.len f5 (l.ro o) f2
 have T:=fO K k
 have aF:=(m _ (C1 k)).2.1
 have aG:=(m _ (C1 k)).2.2.2
 refine gw (.pointer (some ⟨ab z,ao z+a *4,none⟩)) (dT g) (GI (lC) rfl rfl ((l.ro o).addr (i:=a) e8) e8) (gw (.agg (aR.cells f).toArray) (dT g) (GH rfl (GJ (cs:=(aR.cells f)) O6 O7 ((l.ro o).elem aR.len k f5))) (gw (vU r) (dT g) (Gv rfl) ?_))
 obtain⟨C,I⟩:∃ q,jL (bG.mk f.au (D4 f.cK.ls) (D4 f.bK.ls) f.aU) r=q:=⟨_,rfl⟩
 obtain⟨aM,U,J,V,aH⟩:=Gr l
 refine H7 rfl rfl (dT g) rfl (Hg Tryz.call132 rfl rfl (nN _ _ (bG.mk f.au (D4 f.cK.ls) (D4 f.bK.ls) f.aU) f.cK.A f.cK.ls.length f.cK.c f.bK.A f.bK.ls.length f.bK.c r C U rfl (J _ (m _ (C1 k)).1) e8 rfl (J _ (m _ (C1 k)).2.2.1) e8 I) ?_)
 rintro _ aN ⟨rfl,W⟩
 have aj:=V _ _ W
 refine Gz (.bool (decide (C=0))) (dT g) (fw (.bool (decide (C=0))) (Gu rfl (dT g) rfl) (Az rfl (An rfl (rt (GM (j6 rfl rfl rfl) ?_)))))
 have ak:=aj.pk []
 obtain⟨rfl,rfl⟩:=fC (zj hr (show _=(((a:Nat):Int),decide (C=0)) from et (ae G) (et (ip g) (et (ae (bz T)) (ae I)))))
 exact⟨rfl,ak,e8,i2⟩
 refine Sz (dF g) (Sz (dF g) (Sz (dF g) (Sz (dF g) (Sz (dF g) (Sz (dF g) (Sz (dF g) (Sz (dF g) (fw (.bool false) (Gm rfl (dF g) rfl) (Az rfl (An rfl (rt (GM (j6 rfl rfl rfl) ?_))))))))))))
 have au:=l.pk []
 obtain⟨rfl,rfl⟩:=fC (zj hr zq2)
 exact⟨rfl,au,e8,i2⟩
def dh (b:ax) (c:Nat):Int × Bool:=
 bnd (bF b.ag.ls c) λ a=>(a.1,a.2)
theorem iY (w D B) (a:ax) (k l m n o p d e f r s I C M) (H:Own w D w [blk B [.int .i64 a.aa.bC, .int .u64 ((a.aa.aT:Nat):Int), .int .u64 ((a.aa.bv:Nat):Int), .int .u64 ((a.aa.aL:Nat):Int), .int .u64 ((a.aa.aG:Nat):Int), .slice k a.aa.ah.ls.length l, .slice m a.aa.ak.ls.length n, .slice o a.aa.af.ls.length p, .int .u64 ((a.aa.bi:Nat):Int), .int .u64 ((a.aa.aM:Nat):Int), .string ⟨u3 a.aa.aH.aO⟩, .string ⟨u3 a.aa.aH.aS⟩, .int .u64 ((a.aa.aF.aG:Nat):Int), .int .u64 ((a.aa.aF.bu:Nat):Int), .int .u64 ((a.aa.aF.dA:Nat):Int), .string ⟨u3 a.aa.aF.aB.aO⟩, .string ⟨u3 a.aa.aF.aB.aS⟩, .iface 24 (.pointer (some ⟨r,0,none⟩)), .slice d a.ag.ls.length e, .pointer (some ⟨s,0,none⟩), .pointer none] 80]) (h:r8 aR.abs f=a.ag.ls) (z:Ro w D λ w'=>bM w' 4 d a.ag.ls.length (q0 aR.cells f)) (N:a.ag.ls.length<=e/\a.ag.ls.length<=9223372036854775807) (b:∀ x ∈ f,Ro w D (λ w'=>bM w' 6 x.cK.A x.cK.ls.length (q0 aY.cells x.cK.ls))/\(x.cK.ls.length<=x.cK.c/\x.cK.ls.length<=9223372036854775807)/\Ro w D (λ w'=>bM w' 3 x.bK.A x.bK.ls.length (q0 aD.cells x.bK.ls))/\(x.bK.ls.length<=x.bK.c/\x.bK.ls.length<=9223372036854775807)) (R:a.ag.ls.length<=1000) (hr:dh a I=(C,M)):
    Calls u2 79 #[vP B 0,vU I] w (dG λ v w'=>v= .tuple #[vI C, .bool M]/\Own w D w' [blk B [vI a.aa.bC,vU a.aa.aT,vU a.aa.bv,vU a.aa.aL,vU a.aa.aG, .slice k a.aa.ah.ls.length l, .slice m a.aa.ak.ls.length n, .slice o a.aa.af.ls.length p,vU a.aa.bi,vU a.aa.aM, .string ⟨u3 a.aa.aH.aO⟩, .string ⟨u3 a.aa.aH.aS⟩,vU a.aa.aF.aG,vU a.aa.aF.bu,vU a.aa.aF.dA, .string ⟨u3 a.aa.aF.aB.aO⟩, .string ⟨u3 a.aa.aF.aB.aS⟩, .iface 24 (vP r 0), .slice d a.ag.ls.length e,vP s 0, .pointer none] 80]/\(0<=C/\C<=((a.ag.ls.length:Nat):Int))/\(Bool.toNat M=0\/C < ((a.ag.ls.length:Nat):Int))):=by
 unfold dh at hr
 have J:=aW h
 refine cb Tryz.func79 ?_
 refine sr (Az rfl (Ar rfl (Mz rfl (Kz (vP B 0) (Kz (vP B 18) (Lz (.slice d a.ag.ls.length e) H 0 O8 (Mz rfl ?_)))))))
 obtain⟨⟨g,j⟩,t⟩:∃ q:Int × Bool,bF a.ag.ls I=q:=⟨_,rfl⟩
 obtain⟨S,E,i,F,Q⟩:=Gr H
 refine cl Tryz.call131 (lF _ _ d a.ag.ls.length e f a.ag.ls I g j E h (i _ z) (λ K L=>⟨i _ (b K L).1,(b K L).2.1,i _ (b K L).2.2.1,(b K L).2.2.2⟩) rfl e8 t) ?_
 rintro _ T ⟨rfl,G,u,y⟩
 have O:=F _ _ G
 replace u:0<=g/\g<=(a.ag.ls.length:Int):=u
 replace y:Bool.toNat j=0\/g < (a.ag.ls.length:Int):=y
 refine Kz (vI g) (Kz (.bool j) (Az rfl (An rfl (rt (GM (j6 rfl rfl rfl) ?_)))))
 have P:=O.pf []
 obtain⟨rfl,rfl⟩:=fC (zj hr zq1)
 exact⟨rfl,P,e8,i2⟩
def kw (b:dD) (c:Nat):Int:=
 bnd (dZ b.aV c) λ a=>a
theorem om (w D) (a:dD) (b d c l s) (H:Own w D w []) (f:d=a.aJ.ls.length) (m:Ro w D λ w'=>bM w' 6 b a.aJ.ls.length (q0 aY.cells a.aJ.ls)) (n:a.aJ.ls.length<=c/\a.aJ.ls.length<=9223372036854775807) (hr:kw a l=s):
    Calls u2 128 #[.agg #[vU a.aV, .slice b d c],vU l] w (dG λ v w'=>v=vI s/\Own w D w' []):=by
 unfold kw at hr
 subst f
 refine cb Tryz.func128 ?_
 refine sr ?_
 refine bW [vU a.aV, .slice b a.aJ.ls.length c] 60 H ?_
 intro o x g
 refine Ar rfl (Kz (vP o 0) (Lz (vU a.aV) g 0 C4 (Mz rfl ?_)))
 obtain⟨h,e⟩:∃ q,dZ a.aV l=q:=⟨_,rfl⟩
 obtain⟨y,i,t,j,u⟩:=Gr g
 refine cl Tryz.call129 (lU _ _ a.aV l h i e) ?_
 rintro _ z ⟨rfl,k⟩
 have p:=j _ _ k
 refine An rfl (rt (rs ?_))
 have r:=p.pk []
 obtain rfl:=zj hr zq1
 exact⟨rfl,r⟩
def dB (f:List dD) (g:Nat):Nat->Nat->Nat->Nat
  | 0,a,b=>default
  | d+1,a,b=>if(a:Int) < (b:Int) then bnd (v1 f ((a+b) / 2) default) λ c=>bnd (kw (dD.mk c.aV (D4 c.aJ.ls)) g) λ e=>if e < 0 then dB f g d (((a+b) / 2)+1) b else dB f g d a ((a+b) / 2) else a
def bI (b:List dD) (d:Nat):Int × Bool:=
 bnd (dB b d ((b.length - 0)+1) 0 b.length) λ sLrL=>if(sLrL:Int) < (b.length:Int) then bnd (v1 b sLrL default) λ a=>bnd (kw (dD.mk a.aV (D4 a.aJ.ls)) d) λ c=>((sLrL:Int),decide (c=0)) else((sLrL:Int),false)
theorem l9 (w D y Y X d0 h p K Z) (H:Own w D w []) (I:r8 bg.abs d0=h) (n:Ro w D λ w'=>bM w' 2 y Y (q0 bg.cells d0)) (z:∀ x ∈ d0,Ro w D (λ w'=>bM w' 6 x.aJ.A x.aJ.ls.length (q0 aY.cells x.aJ.ls))/\(x.aJ.ls.length<=x.aJ.c/\x.aJ.ls.length<=9223372036854775807)) (aa:Y=h.length) (aF:h.length *32<=211106232532992) (hr:bI h p=(K,Z)):
    Calls u2 127 #[.slice y Y X,vU p, .func (.func 128) #[] #[]] w (dG λ v w'=>v= .tuple #[vI K, .bool Z]/\Own w D w' []/\(0<=K/\K<=((h.length:Nat):Int))/\(Bool.toNat Z=0\/K < ((h.length:Nat):Int))):=by
 unfold bI at hr
 subst aa
 have av:=aW I
 refine cb Tryz.func127 ?_
 refine sr (Az rfl (Ar rfl (Mz rfl (Kz (vJ h.length) (Ar rfl (Mz rfl (Az rfl (An rfl (Gp (bo ?_))))))))))
 have af:=H.pk []
 obtain⟨ag,k⟩:=xW λ (a:Nat) (b:Nat) (r:Nat) w'=>Own w D w' []/\a<=b/\b<=h.length/\b - a < r/\dB h p ((h.length - 0)+1) 0 h.length=dB h p r a b
 refine v4 (λ i:Nat × Nat × Nat=> [(9,vJ i.1),(10,vJ i.2.1),(8,vJ h.length),(7, .bool false),(6,vI 0),(0, .slice y h.length X),(1,vU p),(2, .func (.func 128) #[] #[])]) ag (λ i=>i.2.2) (0,h.length,(h.length - 0)+1) ⟨rfl,rfl,rfl,rfl,rfl,rfl,rfl,rfl,trivial⟩ (k.2 ⟨af,e8,e8,e8,rfl⟩) ?_
 rintro ⟨a,b,r⟩ aG L
 show Wp _ _ _ [(9,vJ a),(10,vJ b),(8,vJ h.length),(7, .bool false),(6,vI 0),(0, .slice y h.length X),(1,vU p),(2, .func (.func 128) #[] #[])] _ _
 obtain⟨j,ax,ay,az,s⟩:=k.1 L
 obtain⟨o,M⟩:∃ q,r=q+1:=⟨r - 1,e8⟩
 subst M
 refine Gp (sr (Mz rfl (Mz rfl (Kz (.bool (decide ((a:Int) < (b:Int)))) (nt ?_)))))
 by_cases t:(a:Int) < (b:Int)
 refine jT (dT t) (sk (bo (sr (Mz rfl (Mz rfl (fw (vJ (a+b)) (Gw (e:=v7.wrap ((a:Int)+(b:Int))) yk f1) (fw (vU (a+b)) (Gw (e:=F1.wrap ((a+b:Nat):Int)) yk (IntWalk.u64_in _ e8)) (fw (vU ((a+b) / 2)) (Gw (e:=Int.fdiv ((a+b:Nat):Int) 2) yk (uw _ 1 _ f5)) (fw (vJ ((a+b) / 2)) (Gw (e:=v7.wrap (((a+b) / 2:Nat):Int)) yk (Kl _ e8)) (Ar rfl (Mz rfl (Mz rfl (Mz rfl ?_)))))))))))))
 obtain⟨f,l⟩:=dI (ls:=d0) (i:=(a+b) / 2) bg.len f5 (j.ro n) f2
 have E:=fO I l
 have aA:=(z _ (C1 l)).2
 refine fw (.pointer (some ⟨ab y,ao y+((a+b) / 2) *2,none⟩)) (GI (kg) rfl rfl ((j.ro n).addr (i:=(a+b) / 2) e8) e8) (fw (.agg (bg.cells f).toArray) (GH rfl (GJ (cs:=(bg.cells f)) O3 C2 ((j.ro n).elem bg.len l f5))) (Mz rfl ?_))
 obtain⟨J,u⟩:∃ q,kw (dD.mk f.aV (D4 f.aJ.ls)) p=q:=⟨_,rfl⟩
 obtain⟨aH,N,O,P,aB⟩:=Gr j
 refine WL.do rfl (Hg Tryz.call128 rfl rfl (om _ _ (dD.mk f.aV (D4 f.aJ.ls)) f.aJ.A f.aJ.ls.length f.aJ.c p J N rfl (O _ (z _ (C1 l)).1) e8 u) ?_)
 rintro _ aI ⟨rfl,Q⟩
 have R:=P _ _ Q
 refine Kz (.bool (decide (J < 0))) (nt ?_)
 by_cases B:J < 0
 refine jT (dT B) (Gq (Mz rfl (fw (vI ((((a+b) / 2)+1:Nat):Int)) (Gw (e:=v7.wrap ((((a+b) / 2:Nat):Int)+1)) yk f1) (Az rfl (v8 (bN ?_))))))
 have ah:=R.pk []
 exact GL (((a+b) / 2)+1,b,o) ⟨rfl,rfl,rfl,rfl,rfl,rfl,rfl,rfl,trivial⟩ (k.2 ⟨ah,e8,e8,e8,et (s) (et (ip t) (et (ae (bz E)) (et (ae u) (ip B))))⟩) (by show o < o+1; omega)
 refine jF (dF B) (Gq (Mz rfl (Az rfl (v8 (bN ?_)))))
 have ai:=R.pk []
 exact GL (a,(a+b) / 2,o) ⟨rfl,rfl,rfl,rfl,rfl,rfl,rfl,rfl,trivial⟩ (k.2 ⟨ai,e8,e8,e8,et (s) (et (ip t) (et (ae (bz E)) (et (ae u) (iN B))))⟩) (by show o < o+1; omega)
 refine jF (dF t) (v9 (GK ?_))
 have F:dB h p ((h.length - 0)+1) 0 h.length=a:=et (s) (iN t)
 refine GK (GR (Gs (sr (Mz rfl (Mz rfl (Mz rfl (Kz (.bool (decide ((a:Int) < (h.length:Int)))) (Mz rfl ?_))))))))
 by_cases d:(a:Int) < (h.length:Int)
 refine gw (.func (.func 128) #[] #[]) (dT d) (Gv rfl) (gw (.slice y h.length X) (dT d) (Gv rfl) (gw (vJ a) (dT d) (Gv rfl) ?_))
 obtain⟨g,m⟩:=dI (ls:=d0) (i:=a) bg.len f5 (j.ro n) f2
 have S:=fO I m
 have aC:=(z _ (C1 m)).2
 refine gw (.pointer (some ⟨ab y,ao y+a *2,none⟩)) (dT d) (GI (kg) rfl rfl ((j.ro n).addr (i:=a) e8) e8) (gw (.agg (bg.cells g).toArray) (dT d) (GH rfl (GJ (cs:=(bg.cells g)) O3 C2 ((j.ro n).elem bg.len m f5))) (gw (vU p) (dT d) (Gv rfl) ?_))
 obtain⟨C,G⟩:∃ q,kw (dD.mk g.aV (D4 g.aJ.ls)) p=q:=⟨_,rfl⟩
 obtain⟨aJ,T,U,V,aD⟩:=Gr j
 refine H7 rfl rfl (dT d) rfl (Hg Tryz.call128 rfl rfl (om _ _ (dD.mk g.aV (D4 g.aJ.ls)) g.aJ.A g.aJ.ls.length g.aJ.c p C T rfl (U _ (z _ (C1 m)).1) e8 G) ?_)
 rintro _ aK ⟨rfl,W⟩
 have aj:=V _ _ W
 refine Gz (.bool (decide (C=0))) (dT d) (fw (.bool (decide (C=0))) (Gu rfl (dT d) rfl) (Az rfl (An rfl (rt (GM (j6 rfl rfl rfl) ?_)))))
 have ak:=aj.pk []
 obtain⟨rfl,rfl⟩:=fC (zj hr (show _=(((a:Nat):Int),decide (C=0)) from et (ae F) (et (ip d) (et (ae (bz S)) (ae G)))))
 exact⟨rfl,ak,e8,i2⟩
 refine Sz (dF d) (Sz (dF d) (Sz (dF d) (Sz (dF d) (Sz (dF d) (Sz (dF d) (Sz (dF d) (Sz (dF d) (fw (.bool false) (Gm rfl (dF d) rfl) (Az rfl (An rfl (rt (GM (j6 rfl rfl rfl) ?_))))))))))))
 have au:=j.pk []
 obtain⟨rfl,rfl⟩:=fC (zj hr zq2)
 exact⟨rfl,au,e8,i2⟩
def eY (b:ax) (c:Nat):Int × Bool:=
 bnd (bI b.aa.ak.ls c) λ a=>(a.1,a.2)
theorem mJ (w D B) (a:ax) (j k b d e l m n o p r I C K) (H:Own w D w [blk B [.int .i64 a.aa.bC, .int .u64 ((a.aa.aT:Nat):Int), .int .u64 ((a.aa.bv:Nat):Int), .int .u64 ((a.aa.aL:Nat):Int), .int .u64 ((a.aa.aG:Nat):Int), .slice j a.aa.ah.ls.length k, .slice b a.aa.ak.ls.length d, .slice l a.aa.af.ls.length m, .int .u64 ((a.aa.bi:Nat):Int), .int .u64 ((a.aa.aM:Nat):Int), .string ⟨u3 a.aa.aH.aO⟩, .string ⟨u3 a.aa.aH.aS⟩, .int .u64 ((a.aa.aF.aG:Nat):Int), .int .u64 ((a.aa.aF.bu:Nat):Int), .int .u64 ((a.aa.aF.dA:Nat):Int), .string ⟨u3 a.aa.aF.aB.aO⟩, .string ⟨u3 a.aa.aF.aB.aS⟩, .iface 24 (.pointer (some ⟨p,0,none⟩)), .slice n a.ag.ls.length o, .pointer (some ⟨r,0,none⟩), .pointer none] 80]) (g:r8 bg.abs e=a.aa.ak.ls) (z:Ro w D λ w'=>bM w' 2 b a.aa.ak.ls.length (q0 bg.cells e)) (L:a.aa.ak.ls.length<=d/\a.aa.ak.ls.length<=9223372036854775807) (h:∀ x ∈ e,Ro w D (λ w'=>bM w' 6 x.aJ.A x.aJ.ls.length (q0 aY.cells x.aJ.ls))/\(x.aJ.ls.length<=x.aJ.c/\x.aJ.ls.length<=9223372036854775807)) (R:a.aa.ak.ls.length<=1000) (hr:eY a I=(C,K)):
    Calls u2 77 #[vP B 0,vU I] w (dG λ v w'=>v= .tuple #[vI C, .bool K]/\Own w D w' [blk B [vI a.aa.bC,vU a.aa.aT,vU a.aa.bv,vU a.aa.aL,vU a.aa.aG, .slice j a.aa.ah.ls.length k, .slice b a.aa.ak.ls.length d, .slice l a.aa.af.ls.length m,vU a.aa.bi,vU a.aa.aM, .string ⟨u3 a.aa.aH.aO⟩, .string ⟨u3 a.aa.aH.aS⟩,vU a.aa.aF.aG,vU a.aa.aF.bu,vU a.aa.aF.dA, .string ⟨u3 a.aa.aF.aB.aO⟩, .string ⟨u3 a.aa.aF.aB.aS⟩, .iface 24 (vP p 0), .slice n a.ag.ls.length o,vP r 0, .pointer none] 80]/\(0<=C/\C<=((a.aa.ak.ls.length:Nat):Int))/\(Bool.toNat K=0\/C < ((a.aa.ak.ls.length:Nat):Int))):=by
 unfold eY at hr
 have J:=aW g
 refine cb Tryz.func77 ?_
 refine sr (Az rfl (Ar rfl (Mz rfl (Kz (vP B 0) (Kz (vP B 0) (Kz (vP B 6) (Lz (.slice b a.aa.ak.ls.length d) H 0 C0 (Mz rfl ?_))))))))
 obtain⟨⟨f,i⟩,s⟩:∃ q:Int × Bool,bI a.aa.ak.ls I=q:=⟨_,rfl⟩
 obtain⟨S,E,t,F,O⟩:=Gr H
 refine cl Tryz.call127 (l9 _ _ b a.aa.ak.ls.length d e a.aa.ak.ls I f i E g (t _ z) (λ P Q=>⟨t _ (h P Q).1,(h P Q).2⟩) rfl e8 s) ?_
 rintro _ T ⟨rfl,G,u,y⟩
 have M:=F _ _ G
 replace u:0<=f/\f<=(a.aa.ak.ls.length:Int):=u
 replace y:Bool.toNat i=0\/f < (a.aa.ak.ls.length:Int):=y
 refine Kz (vI f) (Kz (.bool i) (Az rfl (An rfl (rt (GM (j6 rfl rfl rfl) ?_)))))
 have N:=M.pf []
 obtain⟨rfl,rfl⟩:=fC (zj hr zq1)
 exact⟨rfl,N,e8,i2⟩
def ig:List bG->List Nat->(List Nat)
  | [],a=>a
  | b::c,a=>ig c (a++ [b.au])
def o6 (a:ax):(List Nat):=
 bnd (ig a.ag.ls []) λ sLrL=>sLrL
theorem uH (w D M) (a:ax) (l n o p r t f g u z B V) (H:Own w D w [blk M [.int .i64 a.aa.bC, .int .u64 ((a.aa.aT:Nat):Int), .int .u64 ((a.aa.bv:Nat):Int), .int .u64 ((a.aa.aL:Nat):Int), .int .u64 ((a.aa.aG:Nat):Int), .slice l a.aa.ah.ls.length n, .slice o a.aa.ak.ls.length p, .slice r a.aa.af.ls.length t, .int .u64 ((a.aa.bi:Nat):Int), .int .u64 ((a.aa.aM:Nat):Int), .string ⟨u3 a.aa.aH.aO⟩, .string ⟨u3 a.aa.aH.aS⟩, .int .u64 ((a.aa.aF.aG:Nat):Int), .int .u64 ((a.aa.aF.bu:Nat):Int), .int .u64 ((a.aa.aF.dA:Nat):Int), .string ⟨u3 a.aa.aF.aB.aO⟩, .string ⟨u3 a.aa.aF.aB.aS⟩, .iface 24 (.pointer (some ⟨z,0,none⟩)), .slice f a.ag.ls.length g, .pointer (some ⟨B,0,none⟩), .pointer none] 80]) (E:r8 aR.abs u=a.ag.ls) (j:Ro w D λ w'=>bM w' 4 f a.ag.ls.length (q0 aR.cells u)) (X:a.ag.ls.length<=g/\a.ag.ls.length<=9223372036854775807) (F:∀ x ∈ u,Ro w D (λ w'=>bM w' 6 x.cK.A x.cK.ls.length (q0 aY.cells x.cK.ls))/\(x.cK.ls.length<=x.cK.c/\x.cK.ls.length<=9223372036854775807)/\Ro w D (λ w'=>bM w' 3 x.bK.A x.bK.ls.length (q0 aD.cells x.bK.ls))/\(x.bK.ls.length<=x.bK.c/\x.bK.ls.length<=9223372036854775807)) (aJ:a.ag.ls.length<=1000) (hr:o6 a=V):
    Calls u2 12 #[vP M 0] w (dG λ v w'=> ∃ B0 b0,v= .slice B0 V.length b0/\Own w D w' [row B0 V.length b0 (q0 (eN .u64) V) 32 1,blk M [vI a.aa.bC,vU a.aa.aT,vU a.aa.bv,vU a.aa.aL,vU a.aa.aG, .slice l a.aa.ah.ls.length n, .slice o a.aa.ak.ls.length p, .slice r a.aa.af.ls.length t,vU a.aa.bi,vU a.aa.aM, .string ⟨u3 a.aa.aH.aO⟩, .string ⟨u3 a.aa.aH.aS⟩,vU a.aa.aF.aG,vU a.aa.aF.bu,vU a.aa.aF.dA, .string ⟨u3 a.aa.aF.aB.aO⟩, .string ⟨u3 a.aa.aF.aB.aS⟩, .iface 24 (vP z 0), .slice f a.ag.ls.length g,vP B 0, .pointer none] 80]):=by
 unfold o6 at hr
 have W:=aW E
 refine cb Tryz.func12 ?_
 refine sr (Ar rfl (An rfl (Gp (sr (Mz rfl (Kz (vP M 0) (Kz (vP M 18) (Lz (.slice f a.ag.ls.length g) H 0 O8 (Kz (vJ a.ag.ls.length) (Mn rfl (bo ?_)))))))))))
 have Y:Own w D w [row none 0 0 (q0 (eN .u64) []) 32 1,blk M [vI a.aa.bC,vU a.aa.aT,vU a.aa.bv,vU a.aa.aL,vU a.aa.aG, .slice l a.aa.ah.ls.length n, .slice o a.aa.ak.ls.length p, .slice r a.aa.af.ls.length t,vU a.aa.bi,vU a.aa.aM, .string ⟨u3 a.aa.aH.aO⟩, .string ⟨u3 a.aa.aH.aS⟩,vU a.aa.aF.aG,vU a.aa.aF.bu,vU a.aa.aF.dA, .string ⟨u3 a.aa.aF.aB.aO⟩, .string ⟨u3 a.aa.aF.aB.aS⟩, .iface 24 (vP z 0), .slice f a.ag.ls.length g,vP B 0, .pointer none] 80]:=H.free (bX 32 1)
 have Z:=Y.pb [0]
 obtain⟨aa,G⟩:=vk λ J (K:Nat) d (b:Nat) w'=>Own w D w' [blk M [vI a.aa.bC,vU a.aa.aT,vU a.aa.bv,vU a.aa.aL,vU a.aa.aG, .slice l a.aa.ah.ls.length n, .slice o a.aa.ak.ls.length p, .slice r a.aa.af.ls.length t,vU a.aa.bi,vU a.aa.aM, .string ⟨u3 a.aa.aH.aO⟩, .string ⟨u3 a.aa.aH.aS⟩,vU a.aa.aF.aG,vU a.aa.aF.bu,vU a.aa.aF.dA, .string ⟨u3 a.aa.aF.aB.aO⟩, .string ⟨u3 a.aa.aF.aB.aS⟩, .iface 24 (vP z 0), .slice f a.ag.ls.length g,vP B 0, .pointer none] 80,row J d.length K (q0 (eN .u64) d) 32 1]/\b<=a.ag.ls.length/\d.length=b/\d.length<=b/\ig a.ag.ls []=ig (r7 b a.ag.ls) d
 refine v4 (λ i:(Option Addr) × Nat × (List Nat) × Nat=> [(3, .slice i.1 i.2.2.1.length i.2.1),(11,vJ i.2.2.2),(10,vJ a.ag.ls.length),(9, .slice f a.ag.ls.length g),(2, .slice none 0 0)]) aa (λ i=>a.ag.ls.length - i.2.2.2) (none,0, [],0) ⟨rfl,rfl,rfl,rfl,rfl,trivial⟩ (G.2 ⟨Z,(show 0<=a.ag.ls.length/\0=0/\0<=0/\ig a.ag.ls []=ig (r7 0 a.ag.ls) [] from ⟨e8,e8,e8,rfl⟩)⟩) ?_
 rintro ⟨J,K,d,b⟩ aK O
 show Wp _ _ _ [(3, .slice J d.length K),(11,vJ b),(10,vJ a.ag.ls.length),(9, .slice f a.ag.ls.length g),(2, .slice none 0 0)] _ _
 obtain⟨I,aB,aC,aF,L⟩:=G.1 O
 refine sr (Kz (.bool (decide ((b:Int) < (a.ag.ls.length:Int)))) (nt (Gp ?_)))
 by_cases P:(b:Int) < (a.ag.ls.length:Int)
 obtain⟨h,C⟩:=dI (ls:=u) (i:=b) aR.len f5 (I.ro j) f2
 have Q:=fO E C
 have aG:=(F _ (C1 C)).2.1
 have aH:=(F _ (C1 C)).2.2.2
 have R:=drop_at Q
 refine jT (dT P) (sk (Gp (bo (sr (fw (.pointer (some ⟨ab f,ao f+b *4,none⟩)) (GI (lC) rfl rfl ((I.ro j).addr (i:=b) e8) e8) (fw (.agg (aR.cells h).toArray) (GH rfl (GJ (cs:=(aR.cells h)) O6 O7 ((I.ro j).elem aR.len C f5))) ?_))))))
 refine bW [.int .u64 0, .slice none 0 0, .slice none 0 0,vI 0] 99 I ?_
 intro af aL ag
 refine bY (aR.cells h) 0 ag O7 ?_
 intro aM S
 refine nt (Gq (Mz rfl (Kz (vP af 0) (Lz (vU h.au) S 0 C4 ?_))))
 refine jE [vU h.au] 32 1 1 S ?_
 intro ah aN N
 replace N:=Ha (y:=row ah 1 1 (q0 (eN .u64) ([h.au])) 32 1) rfl N
 have T:=N.pf [3]
 refine WL.do rfl (GZ (k:=d.length) (m:=1) (iC) T rfl rfl (eT M6 (T.rds (i:=1) rfl) (cB lZ ([h.au]))) rfl e8 (s:=q5 (d++ [h.au])) f4 (t2).symm ?_)
 intro ai aj aO ak
 have aI:q5 (d++ [h.au])=d.length+1:=by simp only [m8,q6,H2]
 refine Az rfl (v8 (bN (Gs ?_)))
 have au:=ak.pk [0,3]
 refine Gq (fw (vJ (b+1)) (Gw (e:=v7.wrap ((b:Int)+1)) yk f1) (Mz rfl (v8 ?_)))
 have av:=au.pb [0]
 exact GL (ai,aj,(d++ [h.au]),b+1) ⟨rfl,rfl,rfl,rfl,rfl,trivial⟩ (G.2 ⟨av,e8,e8,e8,et (L) (et (congrArg (λ q=>ig q d) R) rfl)⟩) (by show a.ag.ls.length - (b+1) < a.ag.ls.length - b; omega)
 refine jF (dF P) (v9 (GK ?_))
 have U:ig a.ag.ls []=d:=et (L) (et (congrArg (λ q=>ig q d) (eP (ls:=a.ag.ls) (i:=b) e8)) rfl)
 refine GK (GR (Gs (sr (Mz rfl (An rfl (rt (rs ?_)))))))
 have ay:=I.pb [0]
 obtain rfl:=zj hr zq1
 exact⟨J,K,rfl,ay⟩
def kJ (a:Nat):Bool:=
 false
theorem p8 (w D a c) (H:Own w D w []) (hr:kJ a=c):
    Calls u2 126 #[vU a] w (dG λ v w'=>v= .bool c/\Own w D w' []):=by
 refine cb Tryz.func126 ?_
 refine sr (Ar rfl (Mz rfl (Mz rfl (fw (.bool false) (GN (e:= !(decide ((a:Int)=(a:Int)))) yk i5) (An rfl (rt (rs ?_)))))))
 have b:=H.pk []
 obtain rfl:_=false:=zj hr rfl
 exact⟨rfl,b⟩
def eZ (f:List Nat) (g:Nat):Nat->Nat->Nat->Nat
  | 0,a,b=>default
  | c+1,a,b=>if(a:Int) < (b:Int) then bnd (v1 f ((a+b) / 2) default) λ d=>bnd (lu d g) λ e=>if e=true then eZ f g c (((a+b) / 2)+1) b else eZ f g c a ((a+b) / 2) else a
def eO (b:List Nat) (e:Nat):Int × Bool:=
 bnd (eZ b e ((E0 ((b.length:Int) - 0))+1) 0 b.length) λ sLrL=>if(sLrL:Int) < (b.length:Int) then bnd (v1 b sLrL default) λ a=>if(a:Int)=(e:Int) then((sLrL:Int),true) else bnd (kJ a) λ c=>if c=true then bnd (kJ e) λ d=>((sLrL:Int),d) else((sLrL:Int),false) else((sLrL:Int),false)
theorem jZ (w D s Y I f m X r1) (H:Own w D w []) (j:Ro w D λ w'=>bM w' 1 s Y (q0 (eN .u64) f)) (Z:Y=f.length) (aH:f.length *8<=211106232532992) (hr:eO f m=(X,r1)):
    Calls u2 76 #[.slice s Y I,vU m] w (dG λ v w'=>v= .tuple #[vI X, .bool r1]/\Own w D w' []/\(0<=X/\X<=((f.length:Nat):Int))):=by
 unfold eO at hr
 subst Z
 refine cb Tryz.func76 ?_
 refine sr (Az rfl (Ar rfl (Mz rfl (Kz (vJ f.length) (Ar rfl (Mz rfl (Az rfl (An rfl (Gp (bo ?_))))))))))
 have aa:=H.pk []
 obtain⟨af,o⟩:=xW λ (a:Nat) (c:Nat) (t:Nat) w'=>Own w D w' []/\(0<=a/\a<=(c:Int)/\c<=f.length)/\E0 ((c:Int) - a) < t/\eZ f m ((E0 ((f.length:Int) - 0))+1) 0 f.length=eZ f m t a c
 refine v4 (λ i:Nat × Nat × Nat=> [(7,vJ i.1),(8,vJ i.2.1),(6,vJ f.length),(5, .bool false),(4,vI 0),(0, .slice s f.length I),(1,vU m)]) af (λ i=>i.2.2) (0,f.length,(E0 ((f.length:Int) - 0))+1) ⟨rfl,rfl,rfl,rfl,rfl,rfl,rfl,trivial⟩ (o.2 ⟨aa,e8,e8,rfl⟩) ?_
 rintro ⟨a,c,t⟩ aI J
 show Wp _ _ _ [(7,vJ a),(8,vJ c),(6,vJ f.length),(5, .bool false),(4,vI 0),(0, .slice s f.length I),(1,vU m)] _ _
 obtain⟨g,ay,az,u⟩:=o.1 J
 obtain⟨r,K⟩:∃ q,t=q+1:=⟨t - 1,e8⟩
 subst K
 refine Gp (sr (Mz rfl (Mz rfl (Kz (.bool (decide ((a:Int) < (c:Int)))) (nt ?_)))))
 by_cases x:(a:Int) < (c:Int)
 refine jT (dT x) (sk (bo (sr (Mz rfl (Mz rfl (fw (vJ (a+c)) (Gw (e:=v7.wrap ((a:Int)+(c:Int))) yk f1) (fw (vU (a+c)) (Gw (e:=F1.wrap ((a+c:Nat):Int)) yk (IntWalk.u64_in _ e8)) (fw (vU ((a+c) / 2)) (Gw (e:=Int.fdiv ((a+c:Nat):Int) 2) yk (uw _ 1 _ f5)) (fw (vJ ((a+c) / 2)) (Gw (e:=v7.wrap (((a+c) / 2:Nat):Int)) yk (Kl _ e8)) (Ar rfl (Mz rfl (Mz rfl ?_))))))))))))
 obtain⟨F,y⟩:=dI (ls:=f) (i:=(a+c) / 2) gT f5 (g.ro j) f2
 refine fw (.pointer (some ⟨ab s,ao s+((a+c) / 2) *1,none⟩)) (GI (iC) rfl rfl ((g.ro j).addr (i:=(a+c) / 2) e8) e8) (fw (vU F) (GH rfl (bS.one C4 (((g.ro j).elem gT y f5).at_ (k:=0) rfl))) (Mz rfl ?_))
 obtain⟨L,z⟩:∃ q,lu F m=q:=⟨_,rfl⟩
 obtain⟨aJ,M,aA,N,aB⟩:=Gr g
 refine cl Tryz.call125 (rJ _ _ F m L M z) ?_
 rintro _ aK ⟨rfl,O⟩
 have P:=N _ _ O
 refine nt ?_
 rcases Kq (L) with A | A
 refine jT A (Gq (Mz rfl (fw (vI ((((a+c) / 2)+1:Nat):Int)) (Gw (e:=v7.wrap ((((a+c) / 2:Nat):Int)+1)) yk f1) (Az rfl (v8 (bN ?_))))))
 have ag:=P.pk []
 exact GL (((a+c) / 2)+1,c,r) ⟨rfl,rfl,rfl,rfl,rfl,rfl,rfl,trivial⟩ (o.2 ⟨ag,e8,e8,et (u) (et (ip x) (et (ae (bz y)) (et (ae z) (ip A))))⟩) (by show r < r+1; omega)
 refine jF A (Gq (Mz rfl (Az rfl (v8 (bN ?_)))))
 have ah:=P.pk []
 exact GL (a,(a+c) / 2,r) ⟨rfl,rfl,rfl,rfl,rfl,rfl,rfl,trivial⟩ (o.2 ⟨ah,e8,e8,et (u) (et (ip x) (et (ae (bz y)) (et (ae z) (dY A))))⟩) (by show r < r+1; omega)
 refine jF (dF x) (v9 (GK ?_))
 have p:eZ f m ((E0 ((f.length:Int) - 0))+1) 0 f.length=a:=et (u) (iN x)
 refine GK (GR (Gs (sr (Mz rfl (Mz rfl (Mz rfl (Kz (.bool (decide ((a:Int) < (f.length:Int)))) (Mz rfl ?_))))))))
 by_cases b:(a:Int) < (f.length:Int)
 refine gw (.slice s f.length I) (dT b) (Gv rfl) (gw (vJ a) (dT b) (Gv rfl) ?_)
 obtain⟨n,l⟩:=dI (ls:=f) (i:=a) gT f5 (g.ro j) f2
 refine gw (.pointer (some ⟨ab s,ao s+a *1,none⟩)) (dT b) (GI (iC) rfl rfl ((g.ro j).addr (i:=a) e8) e8) (gw (vU n) (dT b) (GH rfl (bS.one C4 (((g.ro j).elem gT l f5).at_ (k:=0) rfl))) (gw (vU m) (dT b) (Gv rfl) (Gz (.bool (decide ((n:Int)=(m:Int)))) (dT b) (gw (.bool (decide ((n:Int)=(m:Int)))) (dT b) (Gv rfl) ?_))))
 by_cases d:(n:Int)=(m:Int)
 refine Sz (dT d) (Sz (dT d) (Sz (dT d) (Sz (dT d) (Sz (dT d) (Sz (dT d) (GA rfl rfl rfl (GA rfl rfl rfl (Sz (dT d) (gw (.bool true) (dT b) (Gu rfl (dT d) rfl) (fw (.bool true) (Gu rfl (dT b) rfl) (Az rfl (An rfl (rt (GM (j6 rfl rfl rfl) ?_))))))))))))))
 have ai:=g.pk []
 obtain⟨rfl,rfl⟩:=fC (zj hr zq4)
 exact⟨rfl,ai,e8⟩
 refine gw (.slice s f.length I) (dF d) (Gv rfl) (gw (vJ a) (dF d) (Gv rfl) (gw (.pointer (some ⟨ab s,ao s+a *1,none⟩)) (dF d) (GI (iC) rfl rfl ((g.ro j).addr (i:=a) e8) e8) (gw (vU n) (dF d) (GH rfl (bS.one C4 (((g.ro j).elem gT l f5).at_ (k:=0) rfl))) ?_)))
 obtain⟨G,B⟩:∃ q,kJ n=q:=⟨_,rfl⟩
 obtain⟨aL,Q,aC,R,aD⟩:=Gr g
 refine nQ (dF d) Tryz.call126 (p8 _ _ n G Q B) ?_
 rintro _ aM ⟨rfl,S⟩
 have T:=R _ _ S
 refine gw (.bool G) (dF d) (Gv rfl) ?_
 rcases Kq (G) with h | h
 refine Hm (v:=vU m) rfl rfl h rfl (Gv rfl) ?_
 obtain⟨C,E⟩:∃ q,kJ m=q:=⟨_,rfl⟩
 obtain⟨aN,U,aF,V,aG⟩:=Gr T
 refine H7 rfl rfl h rfl (GV Tryz.call126 rfl (p8 _ _ m C U E) ?_)
 rintro _ aO ⟨rfl,W⟩
 have aj:=V _ _ W
 refine gw (.bool C) (dF d) (Gu rfl h rfl) (gw (.bool C) (dT b) (Gm rfl (dF d) rfl) (fw (.bool C) (Gu rfl (dT b) rfl) (Az rfl (An rfl (rt (GM (j6 rfl rfl rfl) ?_))))))
 have ak:=aj.pk []
 obtain⟨rfl,rfl⟩:=fC (zj hr zq7)
 exact⟨rfl,ak,e8⟩
 refine Sz h (Sz h (gw (.bool false) (dF d) (Gm rfl h rfl) (gw (.bool false) (dT b) (Gm rfl (dF d) rfl) (fw (.bool false) (Gu rfl (dT b) rfl) (Az rfl (An rfl (rt (GM (j6 rfl rfl rfl) ?_))))))))
 have au:=T.pk []
 obtain⟨rfl,rfl⟩:=fC (zj hr zq6)
 exact⟨rfl,au,e8⟩
 refine Sz (dF b) (Sz (dF b) (Sz (dF b) (Sz (dF b) (Sz (dF b) (Sz (dF b) (Sz (dF b) (GA rfl rfl rfl (GA rfl rfl rfl (GA rfl rfl rfl (GA rfl rfl rfl (GA rfl rfl rfl (GA rfl rfl rfl (GA rfl rfl rfl (GA rfl rfl rfl (GA rfl rfl rfl (Sz (dF b) (fw (.bool false) (Gm rfl (dF b) rfl) (Az rfl (An rfl (rt (GM (j6 rfl rfl rfl) ?_)))))))))))))))))))))
 have av:=g.pk []
 obtain⟨rfl,rfl⟩:=fC (zj hr zq2)
 exact⟨rfl,av,e8⟩
def kH (a:List Nat) (b:Int) (c:Int):(List Nat):=
 if b=c then a else(t1 (E0 b) a++r7 (E0 c) a)
theorem qM (w D f o d a c b j) (H:Own w D w [row f o d (q0 (eN .u64) a) 32 1]) (p:o=a.length) (J:a.length *8<=211106232532992) (K:0<=c/\c<=b/\b<=((a.length:Nat):Int)) (hr:kH a c b=j):
    Calls u2 124 #[.slice f o d,vI c,vI b] w (dG λ v w'=> ∃ B C,v= .slice B j.length C/\Own w D w' [row B j.length C (q0 (eN .u64) j) 32 1]/\(j.length<=a.length)):=by
 unfold kH at hr
 subst p
 have L:=H.rowC (i:=0) rfl
 refine cb Tryz.func124 ?_
 refine sr (Ar rfl (Mz rfl (fw (vJ (E0 c)) (Gw (e:=c) (Gv rfl) e8) (fw (vJ (E0 b)) (Gw (e:=b) (Gv rfl) e8) (Mz rfl (Kz (vJ a.length) (fw (.slice (eu f (E0 c) 1 a.length) ((E0 b) - (E0 c)) (a.length - (E0 c))) (II (iC) rfl rfl rfl rfl e8 e8 e8) (nt (Gp (sr (Mz rfl (Mz rfl (Kz (.bool (decide (c=b))) (nt ?_))))))))))))))
 by_cases h:c=b
 refine jT (dT h) (sr (Mz rfl (An rfl (rt (tR (rs ?_))))))
 have q:=H.pf []
 obtain rfl:=zj hr zq1
 exact⟨f,d,rfl,q,e8⟩
 refine jF (dF h) (sk (sr (Mz rfl (Kz (vJ a.length) (An rfl (Gp ?_))))))
 have g:=H.drew
 refine Im [6] (λ W=> ∃ L',Own w D W ([row f a.length d (q0 (eN .u64) a) 32 1]++L')) e9 e9 (GD GQ) ⟨_,g⟩ ?_
 revert g
 generalize World.drew w=r
 intro g
 refine qv 0 rfl rfl (qt (v:=vJ (E0 c)) 1 rfl (λ _ _=>Gw (e:=c) (Gv rfl) e8) (qt (v:= .slice f (E0 c) d) 2 rfl (λ _ _=>Hy (iC) rfl rfl e8) (qv 3 rfl rfl (qt (v:=vJ (E0 b)) 4 rfl (λ _ _=>Gw (e:=b) (Gv rfl) e8) (qt (v:= .slice (eu f (E0 b) 1 d) (a.length - (E0 b)) (d - (E0 b))) 5 rfl (λ _ _=>G6 (iC) rfl rfl e8) ?_)))))
 have E:q5 (t1 (E0 c) a++r7 (E0 b) a)=E0 c+(a.length - E0 b):=by simp only [m8,m6,m7]; omega
 have l:Src u2 1 35 (.slice (eu f (E0 b) 1 d) (a.length - (E0 b)) (d - (E0 b))) (a.length - E0 b) (q0 (eN .u64) (r7 (E0 b) a)) r:=eT M6 (HY (lo:=E0 b) gT (g.rds (i:=0) rfl) e8 e8 f5) (cB lZ (r7 (E0 b) a))
 obtain⟨F,t,u⟩:=g.rowFull
 refine qd 6 rfl (Ih (k:=E0 c) (m:=a.length - E0 b) (iC) u rfl rfl l e8 (s:=q5 (t1 (E0 c) a++r7 (E0 b) a)) e8 ?_)
 intro M n
 refine⟨.inl e9, ?_⟩
 refine Hf (v:= .slice f (q5 (t1 (E0 c) a++r7 (E0 b) a)) d) 7 rfl e9 (λ _=>H8 rfl) (qn (Gs (sr (Mz rfl (Mz rfl (Kz (vI ((q5 (t1 (E0 c) a++r7 (E0 b) a):Nat):Int)) (Mz rfl (fw (.slice (eu f (q5 (t1 (E0 c) a++r7 (E0 b) a)) 1 d) (a.length - (q5 (t1 (E0 c) a++r7 (E0 b) a))) (d - (q5 (t1 (E0 c) a++r7 (E0 b) a)))) (Yl.cut (iC) rfl rfl rfl e8 e8) ?_))))))))
 refine Hz (IA (z0:=(.int .u64 0)) (lo:=q5 (t1 (E0 c) a++r7 (E0 b) a)) (nd:=(a.length - (q5 (t1 (E0 c) a++r7 (E0 b) a)))) e9 rfl (iC) n rfl (λ _=>fM ((n.rds (i:=0) rfl).isSome e8) e8) e8 ?_)
 intro x G I y
 refine ns (Mz rfl (An rfl (rt (rs ?_))))
 have z:Own w D x [row f (q5 (t1 (E0 c) a++r7 (E0 b) a)) d (q0 (eN .u64) (t1 (E0 c) a++r7 (E0 b) a)) 32 1]:=y.rowPart e8 (rG gT e8 e8 rfl)
 have A:=z.pf []
 obtain rfl:=zj hr zq1
 exact⟨f,d,rfl,A,e8⟩
def jP (a:ax) (d:Nat):ax:=
 bnd (eO a.aa.af.ls (max a.aa.bi d)) λ b=>bnd (kH a.aa.af.ls 0 b.1) λ c=>ax.mk (bA.mk a.aa.bC a.aa.aT a.aa.bv a.aa.aL a.aa.aG (D4 a.aa.ah.ls) (D4 a.aa.ak.ls) (D4 c) (max a.aa.bi d) a.aa.aM a.aa.aH a.aa.aF) (D4 a.ag.ls)
theorem tN (w D b) (a:ax) (l m n o c d p r s t j) (B:ax) (H:Own w D w [blk b [.int .i64 a.aa.bC, .int .u64 ((a.aa.aT:Nat):Int), .int .u64 ((a.aa.bv:Nat):Int), .int .u64 ((a.aa.aL:Nat):Int), .int .u64 ((a.aa.aG:Nat):Int), .slice l a.aa.ah.ls.length m, .slice n a.aa.ak.ls.length o, .slice c a.aa.af.ls.length d, .int .u64 ((a.aa.bi:Nat):Int), .int .u64 ((a.aa.aM:Nat):Int), .string ⟨u3 a.aa.aH.aO⟩, .string ⟨u3 a.aa.aH.aS⟩, .int .u64 ((a.aa.aF.aG:Nat):Int), .int .u64 ((a.aa.aF.bu:Nat):Int), .int .u64 ((a.aa.aF.dA:Nat):Int), .string ⟨u3 a.aa.aF.aB.aO⟩, .string ⟨u3 a.aa.aF.aB.aS⟩, .iface 24 (.pointer (some ⟨s,0,none⟩)), .slice p a.ag.ls.length r, .pointer (some ⟨t,0,none⟩), .pointer none] 80,row c a.aa.af.ls.length d (q0 (eN .u64) a.aa.af.ls) 32 1]) (aa:a.aa.af.ls.length<=1000) (hr:jP a j=B):
    Calls u2 75 #[vP b 0,vU j] w (dG λ v w'=> ∃ g h,v= .tuple #[]/\Own w D w' [blk b [vI a.aa.bC,vU a.aa.aT,vU a.aa.bv,vU a.aa.aL,vU a.aa.aG, .slice l a.aa.ah.ls.length m, .slice n a.aa.ak.ls.length o, .slice g B.aa.af.ls.length h,vU B.aa.bi,vU a.aa.aM, .string ⟨u3 a.aa.aH.aO⟩, .string ⟨u3 a.aa.aH.aS⟩,vU a.aa.aF.aG,vU a.aa.aF.bu,vU a.aa.aF.dA, .string ⟨u3 a.aa.aF.aB.aO⟩, .string ⟨u3 a.aa.aF.aB.aS⟩, .iface 24 (vP s 0), .slice p a.ag.ls.length r,vP t 0, .pointer none] 80,row g B.aa.af.ls.length h (q0 (eN .u64) B.aa.af.ls) 32 1]/\(B.aa.af.ls.length<=a.aa.af.ls.length)):=by
 unfold jP at hr
 have P:=H.rowC (i:=1) rfl
 refine cb Tryz.func75 ?_
 refine sr (Mz rfl (Mz rfl (Kz (vP b 0) (Kz (vP b 0) (Kz (vP b 8) (Lz (vU a.aa.bi) H 0 C4 (Mz rfl (fw (vU (max a.aa.bi j)) (Gw (e:=if(j:Int) > (a.aa.bi:Int) then(j:Int) else(a.aa.bi:Int)) yk e8) (Kz (vP b 0) (Kz (vP b 0) (Kz (vP b 8) ?_)))))))))))
 refine bY [vU (max a.aa.bi j)] 8 H Tryz.sizeOf32 ?_
 intro af Q
 refine nt (Gp ?_)
 refine oD [] (GD GQ) Q ?_
 intro ag R
 refine qv 0 rfl rfl (qp b 0 1 rfl (qp b 0 2 rfl (qp b 7 3 rfl (ql 4 rfl 0 C5 rfl rfl rfl (qv 5 rfl rfl (qp b 0 6 rfl (qp b 0 7 rfl (qp b 8 8 rfl (ql 9 rfl 0 C4 rfl rfl rfl ?_)))))))))
 obtain⟨⟨f,C⟩,u⟩:∃ q:Int × Bool,eO a.aa.af.ls (max a.aa.bi j)=q:=⟨_,rfl⟩
 obtain⟨ah,E,W,F,G⟩:=Gr R
 refine qd 10 rfl (GV Tryz.call76 rfl (jZ _ _ c a.aa.af.ls.length d a.aa.af.ls (max a.aa.bi j) f C E (G _ 1 _ rfl bQ) rfl e8 u) ?_)
 rintro _ ai ⟨rfl,I,x⟩
 have A:=F _ _ I
 replace x:0<=f/\f<=(a.aa.af.ls.length:Int):=x
 refine⟨.inr ⟨_,A⟩, ?_⟩
 refine qv 11 rfl rfl (qk (vI f) 12 rfl (qk (.bool C) 13 rfl (qa 14 rfl rfl (qa 15 rfl rfl (qn (Gs (Gq (Mz rfl (Mz rfl (Kz (vP b 0) (Kz (vP b 0) (Kz (vP b 7) (Lz (.slice c a.aa.af.ls.length d) A 0 C5 (Mz rfl ?_))))))))))))))
 have S:=A.pb [0]
 obtain⟨k,y⟩:∃ q,kH a.aa.af.ls 0 f=q:=⟨_,rfl⟩
 obtain⟨aj,J,X,K,Y⟩:=G9 S
 refine cl Tryz.call124 (qM _ _ c a.aa.af.ls.length d a.aa.af.ls 0 f k J rfl e8 e8 y) ?_
 rintro _ ak ⟨L,M,rfl,N,z⟩
 have O:=K _ _ N
 have Z:=O.rowC (i:=0) rfl
 replace z:k.length<=a.aa.af.ls.length:=z
 refine Kz (vP b 0) (Kz (vP b 0) (Kz (vP b 7) ?_))
 have T:=O.pb [0]
 refine bY [.slice L k.length M] 7 T O5 ?_
 intro au U
 refine v8 (Hq (res0 rfl) ?_)
 have V:=U.pf []
 obtain rfl:=zj hr zq2
 exact⟨L,M,rfl,V,(by first | omega | (dsimp only; omega) | (simp only [m7,m6,m8]; omega))⟩
def jw (a:List Nat) (b:Int) (c:Nat):(List Nat):=
 if((E0 b:Nat):Int)=(a.length:Int) then(a++ [c]) else(t1 (E0 b) a++(c::r7 (E0 b) a))
theorem qN (w D f E d b a C c y) (H:Own w D w [row f E d (q0 (eN .u64) b) 32 1,lG C 1 (q0 (eN .u64) ([c])) 32 1]) (F:E=b.length) (ag:b.length *8<=211106232532992) (ah:0<=a/\a<=((b.length:Nat):Int)/\(b.length+1) *8<=211106232532992) (hr:jw b a c=y):
    Calls u2 143 #[.slice f E d,vI a, .slice C 1 1] w (dG λ v w'=> ∃ X Y,v= .slice X y.length Y/\Own w D w' [row X y.length Y (q0 (eN .u64) y) 32 1]/\(y.length=b.length+1)):=by
 unfold jw at hr
 subst F
 have ai:=H.rowC (i:=0) rfl
 refine cb Tryz.func143 ?_
 refine sr (Ar rfl (Mz rfl (fw (vJ (E0 a)) (Gw (e:=a) (Gv rfl) e8) (fw (.slice (eu f (E0 a) 1 d) (b.length - (E0 a)) (d - (E0 a))) (G6 (iC) rfl rfl e8) (ns (Mz rfl (Kz (vI 1) (An rfl (Gp (sr (Mz rfl (Kz (.bool false) (nt (jf (sk (sr (Mz rfl (Kz (vJ b.length) (An rfl (Gp (sr (fw (vJ (E0 a)) (Gw (e:=a) (Gv rfl) e8) ?_))))))))))))))))))))))
 refine Mz rfl (Kz (.bool (decide (((E0 a:Nat):Int)=(b.length:Int)))) (nt ?_))
 by_cases h:((E0 a:Nat):Int)=(b.length:Int)
 refine jT (dT h) (sr (Mz rfl (Mz rfl ?_)))
 refine WL.do rfl (GZ (k:=b.length) (m:=1) (iC) H rfl rfl (eT M6 (dJ H (i:=1) rfl kS) (cB lZ ([c]))) rfl e8 (s:=q5 (b++ [c])) f4 (t2).symm ?_)
 intro G I aj J
 have Z:q5 (b++ [c])=b.length+1:=by simp only [m8,q6,H2]
 refine An rfl (rt (tR (rs ?_)))
 have K:=J.pk [0]
 obtain rfl:=zj hr zq1
 exact⟨G,I,rfl,K,e8⟩
 refine jF (dF h) (sk (Gp (sr (Mz rfl (Mz rfl (fw (vJ (b.length+1)) (Gw (e:=v7.wrap ((b.length:Int)+1)) yk f1) (Mz rfl (Kz (vJ d) (Kz (.bool (decide (((b.length+1:Nat):Int) > (d:Int)))) (nt ?_))))))))))
 by_cases z:((b.length+1:Nat):Int) > (d:Int)
 refine jT (dT z) (sr (Mz rfl (fw (vJ (E0 a)) (Gw (e:=a) (Gv rfl) e8) (fw (.slice f (E0 a) d) (Hy (iC) rfl rfl e8) (Mz rfl (Mz rfl (fw (vJ (b.length+1)) (Gw (e:=v7.wrap ((b.length:Int)+1)) yk f1) (fw (vJ (E0 a)) (Gw (e:=a) (Gv rfl) e8) (fw (vJ ((b.length+1) - (E0 a))) (Gw (e:=v7.wrap (((b.length+1:Nat):Int) - ((E0 a:Nat):Int))) yk f1) ?_)))))))))
 have aa:q5 (t1 (E0 a) b++(c::r7 (E0 a) b))=b.length+1:=by simp only [m8,m6,q6,m7]; omega
 refine WL.do rfl (Ig (k:=E0 a) (m:=(b.length+1) - (E0 a)) (iC) u6 H rfl rfl e8 e8 e8 rfl e8 (s:=q5 (t1 (E0 a) b++(c::r7 (E0 a) b))) e8 ?_)
 intro j g ae ak A n
 have L:=n.rowLe (i:=0) rfl
 refine Ar rfl (Mz rfl (fw (vJ (E0 a)) (Gw (e:=a) (Gv rfl) e8) (fw (.slice (eu j (E0 a) 1 g) ((q5 (t1 (E0 a) b++(c::r7 (E0 a) b))) - (E0 a)) (g - (E0 a))) (G6 (iC) rfl rfl e8) (Mz rfl ?_))))
 refine WL.do rfl (Hu (lo:=E0 a) (k:=1) (iC) n rfl (λ _=>fM ((n.rds (i:=0) rfl).isSome e8) e8) e8 rfl (dJ n (i:=2) rfl kS) e8 (λ u hu=>cB lZ _ u (I3 hu)) rfl ?_)
 intro au M
 refine nt (Gp ?_)
 refine xX [8] (GD (GD GQ)) M ?_
 intro av o
 refine qv 0 rfl rfl (qt (v:=vJ (E0 a)) 1 rfl (λ _ _=>Gw (e:=a) (Gv rfl) e8) (qv 2 rfl rfl (qt (v:=vJ (E0 a+1)) 3 rfl (λ _ _=>Gw (e:=v7.wrap (((E0 a:Nat):Int)+1)) yk f1) (qt (v:= .slice (eu j (E0 a+1) 1 g) ((q5 (t1 (E0 a) b++(c::r7 (E0 a) b))) - (E0 a+1)) (g - (E0 a+1))) 4 rfl (λ _ _=>G6 (iC) rfl rfl e8) (qv 5 rfl rfl (qt (v:=vJ (E0 a)) 6 rfl (λ _ _=>Gw (e:=a) (Gv rfl) e8) (qt (v:= .slice (eu f (E0 a) 1 d) (b.length - (E0 a)) (d - (E0 a))) 7 rfl (λ _ _=>G6 (iC) rfl rfl e8) ?_)))))))
 refine qd 8 rfl (Hu (lo:=E0 a+1) (k:=b.length - E0 a) (iC) o rfl (λ _=>fM ((o.rds (i:=0) rfl).isSome e8) e8) e8 rfl (HY (lo:=E0 a) gT (o.rds (i:=1) rfl) e8 e8 f5) e8 (λ u hu=>cB lZ _ u (I3 hu)) rfl ?_)
 intro N O
 refine⟨.inl e9, ?_⟩
 refine qn (Gs (sr (Mz rfl (An rfl (rt (tR (rs ?_)))))))
 have P:Own w D N [row j (q5 (t1 (E0 a) b++(c::r7 (E0 a) b))) g (q0 (eN .u64) (t1 (E0 a) b++(c::r7 (E0 a) b))) 32 1,row f b.length d (q0 (eN .u64) b) 32 1,lG C 1 (q0 (eN .u64) ([c])) 32 1]:=O.rowPart e8 (sN (l:=b) (k2:=b.length - E0 a) gT e8 A rfl rfl e8)
 have Q:=P.pk [0]
 obtain rfl:=zj hr zq1
 exact⟨j,g,rfl,Q,e8⟩
 refine jF (dF z) (sk (sr ?_))
 have B:q5 (t1 (E0 a) b++(c::r7 (E0 a) b))=b.length+1:=by simp only [m8,m6,q6,m7]; omega
 obtain⟨af,p,R⟩:=H.rowFull
 refine Mz rfl (Mz rfl (Mz rfl (fw (vJ (b.length+1)) (Gw (e:=v7.wrap ((b.length:Int)+1)) yk f1) (fw (.slice f (q5 (t1 (E0 a) b++(c::r7 (E0 a) b))) d) (Yl.to (Hy (iC) rfl rfl e8) (congrArg (λ q=>Value.slice f q d) B.symm)) (An rfl (Gp (sr (Mz rfl (Mz rfl (fw (vJ (E0 a)) (Gw (e:=a) (Gv rfl) e8) (Mz rfl (fw (vJ (E0 a+1)) (Gw (e:=v7.wrap (((E0 a:Nat):Int)+1)) yk f1) (fw (.slice (eu f (E0 a+1) 1 d) ((q5 (t1 (E0 a) b++(c::r7 (E0 a) b))) - (E0 a+1)) (d - (E0 a+1))) (G6 (iC) rfl rfl e8) ?_)))))))))))))
 have r:=R.pb [0]
 refine fw (.bool false) (Ii (lo:=E0 a+1) (run_callFunc_extern Tryz.func183 e9 e9 e9 (e:=Extern.SlicesOverlaps.overlaps #[35,35] #[4]) e9) M6 Tryz.sizeOf32 r f5 e8 rfl (fM ((r.rds (i:=1) rfl).isSome e8) e8)) (Kz (.bool true) (nt (jt (Gp ?_))))
 refine oD [8] (GD (GD GQ)) r ?_
 intro ax S
 refine qv 0 rfl rfl (qt (v:=vJ (E0 a)) 1 rfl (λ _ _=>Gw (e:=a) (Gv rfl) e8) (qv 2 rfl rfl (qt (v:=vJ (E0 a+1)) 3 rfl (λ _ _=>Gw (e:=v7.wrap (((E0 a:Nat):Int)+1)) yk f1) (qt (v:= .slice (eu f (E0 a+1) 1 d) ((q5 (t1 (E0 a) b++(c::r7 (E0 a) b))) - (E0 a+1)) (d - (E0 a+1))) 4 rfl (λ _ _=>G6 (iC) rfl rfl e8) (qv 5 rfl rfl (qt (v:=vJ (E0 a)) 6 rfl (λ _ _=>Gw (e:=a) (Gv rfl) e8) (qt (v:= .slice (eu f (E0 a) 1 d) ((q5 (t1 (E0 a) b++(c::r7 (E0 a) b))) - (E0 a)) (d - (E0 a))) 7 rfl (λ _ _=>G6 (iC) rfl rfl e8) ?_)))))))
 have t:=S.pb [0]
 refine qd 8 rfl (Hu (lo:=E0 a+1) (k:=b.length - E0 a) (iC) t rfl (λ _=>fM ((t.rds (i:=0) rfl).isSome e8) e8) e8 rfl (bM.cut (lo:=E0 a) (hi:=q5 (t1 (E0 a) b++(c::r7 (E0 a) b))) (t.rds (i:=0) rfl) e8 e8 e8) e8 (λ u hu=>cB lZ _ u (by rw [sO gT e8 rfl e8] at hu; exact hu)) rfl ?_)
 intro ay x
 refine⟨.inl e9, ?_⟩
 refine qn (Gs (sr (Mz rfl (fw (vJ (E0 a)) (Gw (e:=a) (Gv rfl) e8) (fw (.slice (eu f (E0 a) 1 d) ((q5 (t1 (E0 a) b++(c::r7 (E0 a) b))) - (E0 a)) (d - (E0 a))) (G6 (iC) rfl rfl e8) (Mz rfl ?_))))))
 refine WL.do rfl (Hu (lo:=E0 a) (k:=1) (iC) x rfl (λ _=>fM ((x.rds (i:=0) rfl).isSome e8) e8) e8 rfl (dJ x (i:=1) rfl kS) e8 (λ u hu=>cB lZ _ u (I3 hu)) rfl ?_)
 intro T U
 refine ns (Mz rfl (An rfl (rt (tR (rs ?_)))))
 have V:Own w D T [row f (q5 (t1 (E0 a) b++(c::r7 (E0 a) b))) d (q0 (eN .u64) (t1 (E0 a) b++(c::r7 (E0 a) b))) 32 1,lG C 1 (q0 (eN .u64) ([c])) 32 1]:=U.rowPart e8 (sP (l:=b) (m:=(q5 (t1 (E0 a) b++(c::r7 (E0 a) b))) - E0 a) (k2:=b.length - E0 a) gT e8 (by rw [p]; exact Nat.le_mul_of_pos_left 1 e8) rfl rfl e8 e8)
 have W:=V.pk [0]
 obtain rfl:=zj hr zq1
 exact⟨f,d,rfl,W,e8⟩
def il (a:ax) (d:Nat):ax:=
 if(d:Int) < (a.aa.bi:Int) then a else bnd (eO a.aa.af.ls d) λ b=>if b.2=true then a else bnd (jw a.aa.af.ls b.1 d) λ c=>ax.mk (bA.mk a.aa.bC a.aa.aT a.aa.bv a.aa.aL a.aa.aG (D4 a.aa.ah.ls) (D4 a.aa.ak.ls) (D4 c) a.aa.bi a.aa.aM a.aa.aH a.aa.aF) (D4 a.ag.ls)
theorem p9 (w D d) (a:ax) (p r s u b c x z A B l) (J:ax) (H:Own w D w [blk d [.int .i64 a.aa.bC, .int .u64 ((a.aa.aT:Nat):Int), .int .u64 ((a.aa.bv:Nat):Int), .int .u64 ((a.aa.aL:Nat):Int), .int .u64 ((a.aa.aG:Nat):Int), .slice p a.aa.ah.ls.length r, .slice s a.aa.ak.ls.length u, .slice b a.aa.af.ls.length c, .int .u64 ((a.aa.bi:Nat):Int), .int .u64 ((a.aa.aM:Nat):Int), .string ⟨u3 a.aa.aH.aO⟩, .string ⟨u3 a.aa.aH.aS⟩, .int .u64 ((a.aa.aF.aG:Nat):Int), .int .u64 ((a.aa.aF.bu:Nat):Int), .int .u64 ((a.aa.aF.dA:Nat):Int), .string ⟨u3 a.aa.aF.aB.aO⟩, .string ⟨u3 a.aa.aF.aB.aS⟩, .iface 24 (.pointer (some ⟨A,0,none⟩)), .slice x a.ag.ls.length z, .pointer (some ⟨B,0,none⟩), .pointer none] 80,row b a.aa.af.ls.length c (q0 (eN .u64) a.aa.af.ls) 32 1]) (ak:a.aa.af.ls.length<=1000) (hr:il a l=J):
    Calls u2 88 #[vP d 0,vU l] w (dG λ v w'=> ∃ f g,v= .tuple #[]/\Own w D w' [blk d [vI a.aa.bC,vU a.aa.aT,vU a.aa.bv,vU a.aa.aL,vU a.aa.aG, .slice p a.aa.ah.ls.length r, .slice s a.aa.ak.ls.length u, .slice f J.aa.af.ls.length g,vU a.aa.bi,vU a.aa.aM, .string ⟨u3 a.aa.aH.aO⟩, .string ⟨u3 a.aa.aH.aS⟩,vU a.aa.aF.aG,vU a.aa.aF.bu,vU a.aa.aF.dA, .string ⟨u3 a.aa.aF.aB.aO⟩, .string ⟨u3 a.aa.aF.aB.aS⟩, .iface 24 (vP A 0), .slice x a.ag.ls.length z,vP B 0, .pointer none] 80,row f J.aa.af.ls.length g (q0 (eN .u64) J.aa.af.ls) 32 1]/\(J.aa.af.ls.length<=a.aa.af.ls.length+1)):=by
 unfold il at hr
 have V:=H.rowC (i:=1) rfl
 refine cb Tryz.func88 ?_
 refine Gp (sr (Mz rfl (Mz rfl (Kz (vP d 0) (Kz (vP d 0) (Kz (vP d 8) (Lz (vU a.aa.bi) H 0 C4 (Kz (.bool (decide ((l:Int) < (a.aa.bi:Int)))) (nt ?_)))))))))
 by_cases h:(l:Int) < (a.aa.bi:Int)
 refine jT (dT h) (rt (tR (GM (res0 rfl) ?_)))
 have W:=H.pf []
 obtain rfl:=zj hr zq1
 exact⟨b,c,rfl,W,f9⟩
 refine jF (dF h) (sk (sr (Mz rfl (Kz (vP d 0) (Kz (vP d 0) (Kz (vP d 7) (Lz (.slice b a.aa.af.ls.length c) H 0 C5 (Mz rfl ?_))))))))
 obtain⟨⟨e,n⟩,j⟩:∃ q:Int × Bool,eO a.aa.af.ls l=q:=⟨_,rfl⟩
 obtain⟨au,K,ag,L,M⟩:=Gr H
 refine cl Tryz.call76 (jZ _ _ b a.aa.af.ls.length c a.aa.af.ls l e n K (M _ 1 _ rfl bQ) rfl e8 j) ?_
 rintro _ av ⟨rfl,N,C⟩
 have G:=L _ _ N
 replace C:0<=e/\e<=(a.aa.af.ls.length:Int):=C
 refine Mz rfl (Kz (vI e) (Kz (.bool n) (Az rfl (Ar rfl (Mz rfl (Kz (.bool (!n)) (nt ?_)))))))
 rcases Kq (n) with k | k
 refine jF (cn k) (G7 (Hq (res0 rfl) ?_))
 have X:=G.pf []
 obtain rfl:=zj hr zq3
 exact⟨b,c,rfl,X,f9⟩
 refine jT (cn k) (Gq (Mz rfl (Mz rfl (Kz (vP d 0) (Kz (vP d 0) (Kz (vP d 7) (Lz (.slice b a.aa.af.ls.length c) G 0 C5 (Mz rfl (Mz rfl ?_)))))))))
 refine WL.do rfl (Il (cs:= [vU l]) (t:=32) (sz:=1) (m:=1) G rfl rfl (λ _=>by kernel_rfl) rfl ?_)
 intro O ay I
 replace I:=Ha (y:=lG O 1 (q0 (eN .u64) ([l])) 32 1) rfl I
 have Y:=I.pf [2]
 obtain⟨o,E⟩:∃ q,jw a.aa.af.ls e l=q:=⟨_,rfl⟩
 obtain⟨az,P,ah,Q,ai⟩:=Ht Y
 refine cl Tryz.call143 (qN _ _ b a.aa.af.ls.length c a.aa.af.ls e O l o P rfl e8 e8 E) ?_
 rintro _ aA ⟨R,S,rfl,T,F⟩
 have U:=Q _ _ T
 have aj:=U.rowC (i:=0) rfl
 replace F:o.length=a.aa.af.ls.length+1:=F
 refine Kz (vP d 0) (Kz (vP d 0) (Kz (vP d 7) ?_))
 have Z:=U.pb [0]
 refine bY [.slice R o.length S] 7 Z O5 ?_
 intro aB aa
 refine v8 (Hq (res0 rfl) ?_)
 have af:=aa.pf []
 obtain rfl:=zj hr zq4
 exact⟨R,S,rfl,af,f9⟩
def iH (d:ax):List aY->Nat->Unit ⊕ Bool
  | [],a=>v0 ()
  | e::f,a=>bnd (uB e) λ b=>if b.2=0 then bnd (uP d.aa.ah.ls d.aa.bC b.1) λ c=>if c=true then iH d f (a+1) else v2 (decide (¬ ((a:Int) >= 0))) else v2 (decide (¬ ((a:Int) >= 0)))
def pI (a:ax) (l1:List aY):Bool:=
 lp (iH a l1 0) λ _=>decide (¬ ((-1) >= 0))
theorem uV (w D h) (a:ax) (d f o p r s t u x y O n1 c1 l1 r0) (H:Own w D w [blk h [.int .i64 a.aa.bC, .int .u64 ((a.aa.aT:Nat):Int), .int .u64 ((a.aa.bv:Nat):Int), .int .u64 ((a.aa.aL:Nat):Int), .int .u64 ((a.aa.aG:Nat):Int), .slice d a.aa.ah.ls.length f, .slice o a.aa.ak.ls.length p, .slice r a.aa.af.ls.length s, .int .u64 ((a.aa.bi:Nat):Int), .int .u64 ((a.aa.aM:Nat):Int), .string ⟨u3 a.aa.aH.aO⟩, .string ⟨u3 a.aa.aH.aS⟩, .int .u64 ((a.aa.aF.aG:Nat):Int), .int .u64 ((a.aa.aF.bu:Nat):Int), .int .u64 ((a.aa.aF.dA:Nat):Int), .string ⟨u3 a.aa.aF.aB.aO⟩, .string ⟨u3 a.aa.aF.aB.aS⟩, .iface 24 (.pointer (some ⟨x,0,none⟩)), .slice t a.ag.ls.length u, .pointer (some ⟨y,0,none⟩), .pointer none] 80]) (L:Ro w D λ w'=>bM w' 2 d a.aa.ah.ls.length (q0 bL.cells a.aa.ah.ls)) (ah:a.aa.ah.ls.length<=f/\a.aa.ah.ls.length<=9223372036854775807) (M:Ro w D λ w'=>bM w' 6 O n1 (q0 aY.cells l1)) (ai:n1=l1.length) (aP:l1.length<=9223372036854775807) (aQ:a.aa.ah.ls.length<=1000) (hr:pI a l1=r0):
    Calls u2 133 #[vP h 0, .slice O n1 c1] w (dG λ v w'=>v= .bool r0/\Own w D w' [blk h [vI a.aa.bC,vU a.aa.aT,vU a.aa.bv,vU a.aa.aL,vU a.aa.aG, .slice d a.aa.ah.ls.length f, .slice o a.aa.ak.ls.length p, .slice r a.aa.af.ls.length s,vU a.aa.bi,vU a.aa.aM, .string ⟨u3 a.aa.aH.aO⟩, .string ⟨u3 a.aa.aH.aS⟩,vU a.aa.aF.aG,vU a.aa.aF.bu,vU a.aa.aF.dA, .string ⟨u3 a.aa.aF.aB.aO⟩, .string ⟨u3 a.aa.aF.aB.aS⟩, .iface 24 (vP x 0), .slice t a.ag.ls.length u,vP y 0, .pointer none] 80]):=by
 subst ai
 refine cb Tryz.func133 ?_
 refine sr ?_
 refine bW [vP h 0] 28 H ?_
 intro G aR ak
 refine Ar rfl (Mz rfl (Kz (.func (.func 179) #[] #[vP G 0]) ?_))
 refine WL.do rfl (GV Tryz.call153 rfl ?_ (λ _ _ k=>k))
 refine cb Tryz.func153 ?_
 refine sr (Ar rfl (Mz rfl (Mz rfl ?_)))
 refine WL.do rfl (GV Tryz.call195 rfl ?_ (λ _ _ k=>k))
 refine cb Tryz.func195 ?_
 refine sr (An rfl (Gp (sr (Mz rfl (Kz (vJ l1.length) (Mn rfl (bo ?_)))))))
 have au:=ak.pf []
 obtain⟨av,z⟩:=mP λ (c:Nat) w'=>Own w D w' [blk G [vP h 0] 28,blk h [vI a.aa.bC,vU a.aa.aT,vU a.aa.bv,vU a.aa.aL,vU a.aa.aG, .slice d a.aa.ah.ls.length f, .slice o a.aa.ak.ls.length p, .slice r a.aa.af.ls.length s,vU a.aa.bi,vU a.aa.aM, .string ⟨u3 a.aa.aH.aO⟩, .string ⟨u3 a.aa.aH.aS⟩,vU a.aa.aF.aG,vU a.aa.aF.bu,vU a.aa.aF.dA, .string ⟨u3 a.aa.aF.aB.aO⟩, .string ⟨u3 a.aa.aF.aB.aS⟩, .iface 24 (vP x 0), .slice t a.ag.ls.length u,vP y 0, .pointer none] 80]/\c<=l1.length/\iH a l1 0=iH a (r7 c l1) c
 refine v4 (λ i:Nat=> [(4,vI 0),(8,vJ i),(7,vJ l1.length),(0, .slice O l1.length c1),(1, .func (.func 179) #[] #[vP G 0])]) av (λ i=>l1.length - i) 0 ⟨rfl,rfl,rfl,rfl,rfl,trivial⟩ (z.2 ⟨au,e8,rfl⟩) ?_
 rintro c aS P
 show Wp _ _ _ [(4,vI 0),(8,vJ c),(7,vJ l1.length),(0, .slice O l1.length c1),(1, .func (.func 179) #[] #[vP G 0])] _ _
 obtain⟨A,aL,j⟩:=z.1 P
 refine sr (Kz (.bool (decide ((c:Int) < (l1.length:Int)))) (nt (Gp ?_)))
 by_cases Q:(c:Int) < (l1.length:Int)
 obtain⟨n,K⟩:=dI (ls:=l1) (i:=c) aY.len f5 (A.ro M) f2
 have B:=drop_at K
 refine jT (dT Q) (sk (Gp (bo (sr (Mz rfl (Ar rfl (Mz rfl (Mz rfl (Mz rfl (fw (.pointer (some ⟨ab O,ao O+c *6,none⟩)) (GI (nD) rfl rfl ((A.ro M).addr (i:=c) e8) e8) (fw (.agg (aY.cells n).toArray) (GH rfl (GJ (cs:=(aY.cells n)) B3 y6 ((A.ro M).elem aY.len K f5))) ?_)))))))))))
 refine WL.do rfl (Hg Tryz.call179 rfl rfl ?_ (λ _ _ k=>k))
 refine cb Tryz.func179 ?_
 refine sr ?_
 refine bW (aY.cells n) 68 A ?_
 intro aT aU R
 refine Ar rfl (La (aY.cells n) R 0 B3 y6 ?_)
 obtain⟨⟨g,C⟩,l⟩:∃ q:aj × Int,uB n=q:=⟨_,rfl⟩
 obtain⟨aV,S,aM,T,aN⟩:=Gr R
 refine cl Tryz.call155 (yg _ _ n g C S l) ?_
 rintro _ aW ⟨rfl,U⟩
 have ay:=T _ _ U
 refine Mz rfl (Kz (.agg (aj.cells g).toArray) (Kz (vI C) ?_))
 refine bW [.string ⟨u3 []⟩, .string ⟨u3 []⟩] 37 ay ?_
 intro aX aZ az
 refine bY (aj.cells g) 0 az B4 ?_
 intro bf aA
 refine An rfl (Gp ?_)
 have aB:=aA.pk [0,2,3]
 refine xX [] (GD GQ) aB ?_
 intro bg V
 refine qv 0 rfl rfl (qt (v:= .bool (decide (¬ (C=0)))) 1 rfl (λ _ _=>GN (e:= !(decide (C=0))) yk decide_not.symm) (qv 2 rfl rfl ?_))
 by_cases b:C=0
 refine GG (v:=vP h 0) (rs:= []) 3 rfl rfl rfl (dF (Ko b)) e9 (λ _ ⟨_,I⟩=>GH rfl (bS.one Tryz.isAgg28 (Ho (I.cls (i:=1) rfl) rfl))) (GG (v:=vP h 0) (rs:= []) 4 rfl rfl rfl (dF (Ko b)) e9 (λ _ _=>yk) (GG (v:=vP h 0) (rs:= []) 5 rfl rfl rfl (dF (Ko b)) e9 (λ _ _=>yk) (GG (v:=vP h 5) (rs:= []) 6 rfl rfl rfl (dF (Ko b)) e9 (λ _ _=>yk) (GG (v:= .slice d a.aa.ah.ls.length f) (rs:= []) 7 rfl rfl rfl (dF (Ko b)) e9 (λ _ ⟨_,I⟩=>GH rfl (bS.one O4 (Ho (I.cls (i:=2) rfl) rfl))) (GG (v:=vP h 0) (rs:= []) 8 rfl rfl rfl (dF (Ko b)) e9 (λ _ ⟨_,I⟩=>GH rfl (bS.one Tryz.isAgg28 (Ho (I.cls (i:=1) rfl) rfl))) (GG (v:=vP h 0) (rs:= []) 9 rfl rfl rfl (dF (Ko b)) e9 (λ _ _=>yk) (GG (v:=vP h 0) (rs:= []) 10 rfl rfl rfl (dF (Ko b)) e9 (λ _ _=>yk) (GG (v:=vP h 0) (rs:= []) 11 rfl rfl rfl (dF (Ko b)) e9 (λ _ _=>yk) (GG (v:=vI a.aa.bC) (rs:= []) 12 rfl rfl rfl (dF (Ko b)) e9 (λ _ ⟨_,I⟩=>GH rfl (bS.one Tryz.isAgg3 (Ho (I.cls (i:=2) rfl) rfl))) (GG (v:= .agg (aj.cells g).toArray) (rs:= []) 13 rfl rfl rfl (dF (Ko b)) e9 (λ _ ⟨_,I⟩=>GH rfl (GJ (cs:=(aj.cells g)) B5 B4 ((I.cls (i:=0) rfl).lit (k:=0) (m:=2) rfl))) ?_))))))))))
 obtain⟨J,E⟩:∃ q,uP a.aa.ah.ls a.aa.bC g=q:=⟨_,rfl⟩
 obtain⟨bi,W,X,Y,aO⟩:=Gr V
 refine H5 14 rfl rfl rfl (dF (Ko b)) e9 (GV Tryz.call91 rfl (zy _ _ d a.aa.ah.ls.length f a.aa.ah.ls a.aa.bC g J W (X _ L) rfl e8 E) ?_)
 rintro _ bn ⟨rfl,Z⟩
 have N:=Y _ _ Z
 refine⟨.inr ⟨_,N⟩, ?_⟩
 refine GG (v:= .bool (!J)) (rs:= []) 15 rfl rfl rfl (dF (Ko b)) e9 (λ _ _=>yk) (qt (v:= .bool (!J)) 16 rfl (λ _ _=>Gm rfl (dF (Ko b)) rfl) (qa 17 rfl rfl (qn (Gs (rt (rs (nt ?_)))))))
 rcases Kq (J) with F | F
 refine jF (cn F) (G7 (bN (Gs ?_)))
 have aC:=N.pk [1,2]
 refine Gq (fw (vJ (c+1)) (Gw (e:=v7.wrap ((c:Int)+1)) yk f1) (Mz rfl (v8 ?_)))
 have aD:=aC.pf []
 exact GL (c+1) ⟨rfl,rfl,rfl,rfl,rfl,trivial⟩ (z.2 ⟨aD,e8,et (j) (et (congrArg (λ q=>iH a q c) B) (et (ae l) (et (ip b) (et (ae E) (ip F)))))⟩) (by show l1.length - (c+1) < l1.length - c; omega)
 refine jT (cn F) (Gp ?_)
 have aF:=N.pk [1,2]
 refine Gq (Mz rfl (An rfl (rt (bR (tR (tR (bR (tR (rs (Kz (.bool (decide ((c:Int) >= 0))) (An rfl (rt (rs (fw (.bool (decide (¬ ((c:Int) >= 0)))) (GN (e:= !(decide ((c:Int) >= 0))) yk decide_not.symm) (An rfl (rt (rs ?_)))))))))))))))))
 have aG:=aF.pk [1]
 obtain rfl:_=decide (¬ ((c:Int) >= 0)):=zj hr (iG (et (j) (et (congrArg (λ q=>iH a q c) B) (et (ae l) (et (ip b) (et (ae E) (dY F)))))))
 exact⟨rfl,aG⟩
 refine Gy (rs:= []) 3 rfl rfl rfl (dT b) e9 (Gy (rs:= []) 4 rfl rfl rfl (dT b) e9 (Gy (rs:= []) 5 rfl rfl rfl (dT b) e9 (Gy (rs:= []) 6 rfl rfl rfl (dT b) e9 (Gy (rs:= []) 7 rfl rfl rfl (dT b) e9 (Gy (rs:= []) 8 rfl rfl rfl (dT b) e9 (Gy (rs:= []) 9 rfl rfl rfl (dT b) e9 (Gy (rs:= []) 10 rfl rfl rfl (dT b) e9 (Gy (rs:= []) 11 rfl rfl rfl (dT b) e9 (Gy (rs:= []) 12 rfl rfl rfl (dT b) e9 (Gy (rs:= []) 13 rfl rfl rfl (dT b) e9 (Gy (rs:= []) 14 rfl rfl rfl (dT b) e9 (Gy (rs:= []) 15 rfl rfl rfl (dT b) e9 (qt (v:= .bool true) 16 rfl (λ _ _=>Gu rfl (dT b) rfl) (qa 17 rfl rfl (qn (Gs (rt (rs (nt (jt (Gp ?_)))))))))))))))))))))
 have aH:=V.pk [1,2]
 refine Gq (Mz rfl (An rfl (rt (bR (tR (tR (bR (tR (rs (Kz (.bool (decide ((c:Int) >= 0))) (An rfl (rt (rs (fw (.bool (decide (¬ ((c:Int) >= 0)))) (GN (e:= !(decide ((c:Int) >= 0))) yk decide_not.symm) (An rfl (rt (rs ?_)))))))))))))))))
 have aI:=aH.pk [1]
 obtain rfl:_=decide (¬ ((c:Int) >= 0)):=zj hr (iG (et (j) (et (congrArg (λ q=>iH a q c) B) (et (ae l) (iN b)))))
 exact⟨rfl,aI⟩
 refine jF (dF Q) (v9 (GK ?_))
 have aa:iH a l1 0=v0 ():=et (j) (et (congrArg (λ q=>iH a q c) (eP (ls:=l1) (i:=c) e8)) rfl)
 refine GK (GR (Gs (sr (An rfl (rt (rs (Kz (.bool (decide ((-1) >= 0))) (An rfl (rt (rs (fw (.bool (decide (¬ ((-1) >= 0)))) (GN (e:= !(decide ((-1) >= 0))) yk decide_not.symm) (An rfl (rt (rs ?_))))))))))))))
 have aJ:=A.pk [1]
 obtain rfl:_=decide (¬ ((-1) >= 0)):=zj hr (kZ aa)
 exact⟨rfl,aJ⟩
def jv (e:aj):List aY->Nat->Unit ⊕ Bool
  | [],a=>v0 ()
  | f::c,a=>bnd (uB f) λ b=>bnd (kF b.1 e) λ d=>if b.2=0 then if d.2=true then v2 (decide ((a:Int) >= 0)) else jv e c (a+1) else jv e c (a+1)
def tO (a:List aY) (b:aj):Bool:=
 lp (jv b a 0) λ _=>decide ((-1) >= 0)
theorem yw (w D B O P b) (d:aj) (r0) (H:Own w D w []) (x:Ro w D λ w'=>bM w' 6 B O (q0 aY.cells b)) (Q:O=b.length) (az:b.length<=9223372036854775807) (hr:tO b d=r0):
    Calls u2 180 #[.slice B O P, .agg (aj.cells d).toArray] w (dG λ v w'=>v= .bool r0/\Own w D w' []):=by
 subst Q
 refine cb Tryz.func180 ?_
 refine sr ?_
 refine bW (aj.cells d) 37 H ?_
 intro s aA R
 refine Ar rfl (Mz rfl (Kz (.func (.func 216) #[] #[vP s 0]) ?_))
 refine WL.do rfl (GV Tryz.call153 rfl ?_ (λ _ _ k=>k))
 refine cb Tryz.func153 ?_
 refine sr (Ar rfl (Mz rfl (Mz rfl ?_)))
 refine WL.do rfl (GV Tryz.call195 rfl ?_ (λ _ _ k=>k))
 refine cb Tryz.func195 ?_
 refine sr (An rfl (Gp (sr (Mz rfl (Kz (vJ b.length) (Mn rfl (bo ?_)))))))
 have S:=R.pf []
 obtain⟨T,f⟩:=mP λ (a:Nat) w'=>Own w D w' [blk s (aj.cells d) 37]/\a<=b.length/\jv d b 0=jv d (r7 a b) a
 refine v4 (λ i:Nat=> [(4,vI 0),(8,vJ i),(7,vJ b.length),(0, .slice B b.length P),(1, .func (.func 216) #[] #[vP s 0])]) T (λ i=>b.length - i) 0 ⟨rfl,rfl,rfl,rfl,rfl,trivial⟩ (f.2 ⟨S,e8,rfl⟩) ?_
 rintro a aB C
 show Wp _ _ _ [(4,vI 0),(8,vJ a),(7,vJ b.length),(0, .slice B b.length P),(1, .func (.func 216) #[] #[vP s 0])] _ _
 obtain⟨n,ak,g⟩:=f.1 C
 refine sr (Kz (.bool (decide ((a:Int) < (b.length:Int)))) (nt (Gp ?_)))
 by_cases E:(a:Int) < (b.length:Int)
 obtain⟨l,u⟩:=dI (ls:=b) (i:=a) aY.len f5 (n.ro x) f2
 have o:=drop_at u
 refine jT (dT E) (sk (Gp (bo (sr (Mz rfl (Ar rfl (Mz rfl (Mz rfl (Mz rfl (fw (.pointer (some ⟨ab B,ao B+a *6,none⟩)) (GI (nD) rfl rfl ((n.ro x).addr (i:=a) e8) e8) (fw (.agg (aY.cells l).toArray) (GH rfl (GJ (cs:=(aY.cells l)) B3 y6 ((n.ro x).elem aY.len u f5))) ?_)))))))))))
 refine WL.do rfl (Hg Tryz.call216 rfl rfl ?_ (λ _ _ k=>k))
 refine cb Tryz.func216 ?_
 refine sr ?_
 refine bW (aY.cells l) 68 n ?_
 intro aC aD F
 refine Ar rfl (La (aY.cells l) F 0 B3 y6 ?_)
 obtain⟨⟨m,t⟩,h⟩:∃ q:aj × Int,uB l=q:=⟨_,rfl⟩
 obtain⟨aF,G,au,I,av⟩:=Gr F
 refine cl Tryz.call155 (yg _ _ l m t G h) ?_
 rintro _ aG ⟨rfl,J⟩
 have U:=I _ _ J
 refine Mz rfl (Kz (.agg (aj.cells m).toArray) (Kz (vI t) ?_))
 refine bW [.string ⟨u3 []⟩, .string ⟨u3 []⟩] 37 U ?_
 intro aH aI V
 refine bY (aj.cells m) 0 V B4 ?_
 intro aJ W
 refine An rfl (Gp ?_)
 have y:=W.pk [0,2]
 refine Gq (La (aj.cells m) y 0 B5 B4 (La (aj.cells d) y 1 B5 B4 ?_))
 obtain⟨⟨z,p⟩,j⟩:∃ q:aj × Bool,kF m d=q:=⟨_,rfl⟩
 obtain⟨aK,K,ax,L,ay⟩:=Gr y
 refine cl Tryz.call152 (oU _ _ m d z p K j) ?_
 rintro _ aL ⟨rfl,M⟩
 have X:=L _ _ M
 refine Mz rfl (Kz (.agg (aj.cells z).toArray) (Kz (.bool p) ?_))
 refine bW [.string ⟨u3 []⟩, .string ⟨u3 []⟩] 37 X ?_
 intro aM aN Y
 refine bY (aj.cells z) 0 Y B4 ?_
 intro aO Z
 refine An rfl (Gp ?_)
 have A:=Z.pk [2]
 refine Gq (Mz rfl (Kz (.bool (decide (t=0))) (Mz rfl ?_)))
 by_cases c:t=0
 refine gw (.bool p) (dT c) (Gv rfl) (fw (.bool p) (Gu rfl (dT c) rfl) (An rfl (rt (rs (nt ?_)))))
 rcases Kq (p) with r | r
 refine jT r (sr (Mz rfl (An rfl (rt (bR (tR (tR (bR (tR (rs (Kz (.bool (decide ((a:Int) >= 0))) (An rfl (rt (rs (An rfl (rt (rs ?_)))))))))))))))))
 have aa:=A.pk []
 obtain rfl:_=decide ((a:Int) >= 0):=zj hr (iG (et (g) (et (congrArg (λ q=>jv d q a) o) (et (ae h) (et (ae j) (et (ip c) (ip r)))))))
 exact⟨rfl,aa⟩
 refine jF r (G7 (bN (Gs (Gq (fw (vJ (a+1)) (Gw (e:=v7.wrap ((a:Int)+1)) yk f1) (Mz rfl (v8 ?_)))))))
 have af:=A.pf []
 exact GL (a+1) ⟨rfl,rfl,rfl,rfl,rfl,trivial⟩ (f.2 ⟨af,e8,et (g) (et (congrArg (λ q=>jv d q a) o) (et (ae h) (et (ae j) (et (ip c) (dY r)))))⟩) (by show b.length - (a+1) < b.length - a; omega)
 refine Sz (dF c) (fw (.bool false) (Gm rfl (dF c) rfl) (An rfl (rt (rs (nt (jf (G7 (bN (Gs (Gq (fw (vJ (a+1)) (Gw (e:=v7.wrap ((a:Int)+1)) yk f1) (Mz rfl (v8 ?_)))))))))))))
 have ag:=A.pf []
 exact GL (a+1) ⟨rfl,rfl,rfl,rfl,rfl,trivial⟩ (f.2 ⟨ag,e8,et (g) (et (congrArg (λ q=>jv d q a) o) (et (ae h) (et (ae j) (iN c))))⟩) (by show b.length - (a+1) < b.length - a; omega)
 refine jF (dF E) (v9 (GK ?_))
 have N:jv d b 0=v0 ():=et (g) (et (congrArg (λ q=>jv d q a) (eP (ls:=b) (i:=a) e8)) rfl)
 refine GK (GR (Gs (sr (An rfl (rt (rs (Kz (.bool (decide ((-1) >= 0))) (An rfl (rt (rs (An rfl (rt (rs ?_)))))))))))))
 have ah:=n.pk []
 obtain rfl:_=decide ((-1) >= 0):=zj hr (kZ N)
 exact⟨rfl,ah⟩
def oC (b:ax) (l1:List aY):Bool:=
 if(b.aa.aM:Int)=0 then false else bnd (tO l1 b.aa.aH) λ a=>if a=true then true else false
theorem uq (w D c) (a:ax) (g h i j k l m n o p z A B l1 J) (H:Own w D w [blk c [.int .i64 a.aa.bC, .int .u64 ((a.aa.aT:Nat):Int), .int .u64 ((a.aa.bv:Nat):Int), .int .u64 ((a.aa.aL:Nat):Int), .int .u64 ((a.aa.aG:Nat):Int), .slice g a.aa.ah.ls.length h, .slice i a.aa.ak.ls.length j, .slice k a.aa.af.ls.length l, .int .u64 ((a.aa.bi:Nat):Int), .int .u64 ((a.aa.aM:Nat):Int), .string ⟨u3 a.aa.aH.aO⟩, .string ⟨u3 a.aa.aH.aS⟩, .int .u64 ((a.aa.aF.aG:Nat):Int), .int .u64 ((a.aa.aF.bu:Nat):Int), .int .u64 ((a.aa.aF.dA:Nat):Int), .string ⟨u3 a.aa.aF.aB.aO⟩, .string ⟨u3 a.aa.aF.aB.aS⟩, .iface 24 (.pointer (some ⟨o,0,none⟩)), .slice m a.ag.ls.length n, .pointer (some ⟨p,0,none⟩), .pointer none] 80]) (C:Ro w D λ w'=>bM w' 6 z A (q0 aY.cells l1)) (E:A=l1.length) (L:l1.length<=9223372036854775807) (hr:oC a l1=J):
    Calls u2 134 #[vP c 0, .slice z A B] w (dG λ v w'=>v= .bool J/\Own w D w' [blk c [vI a.aa.bC,vU a.aa.aT,vU a.aa.bv,vU a.aa.aL,vU a.aa.aG, .slice g a.aa.ah.ls.length h, .slice i a.aa.ak.ls.length j, .slice k a.aa.af.ls.length l,vU a.aa.bi,vU a.aa.aM, .string ⟨u3 a.aa.aH.aO⟩, .string ⟨u3 a.aa.aH.aS⟩,vU a.aa.aF.aG,vU a.aa.aF.bu,vU a.aa.aF.dA, .string ⟨u3 a.aa.aF.aB.aO⟩, .string ⟨u3 a.aa.aF.aB.aS⟩, .iface 24 (vP o 0), .slice m a.ag.ls.length n,vP p 0, .pointer none] 80]):=by
 unfold oC at hr
 subst E
 refine cb Tryz.func134 ?_
 refine sr (An rfl (Gp (sr (Mz rfl (Kz (vP c 0) (Kz (vP c 0) (Kz (vP c 9) (Lz (vU a.aa.aM) H 0 C4 (fw (.bool (decide (¬ ((a.aa.aM:Int)=0)))) (GN (e:= !(decide ((a.aa.aM:Int)=0))) yk decide_not.symm) (Mz rfl ?_))))))))))
 by_cases b:(a.aa.aM:Int)=0
 refine Sk rfl rfl (dF (Ko b)) rfl (Sk rfl rfl (dF (Ko b)) rfl (Sk rfl rfl (dF (Ko b)) rfl (Sk rfl rfl (dF (Ko b)) rfl (Sk rfl rfl (dF (Ko b)) rfl (Sk rfl rfl (dF (Ko b)) rfl (Sk rfl rfl (dF (Ko b)) rfl (fw (.bool false) (Gm rfl (dF (Ko b)) rfl) (nt (jf (sk (sr (Mz rfl (Kz (vP c 0) (Kz (vP c 20) (Lz (.pointer none) H 0 Tryz.isAgg78 (Kz (.bool false) (Mz rfl (Sz rfl (Sz rfl (Sz rfl (Sz rfl (Sz rfl (Sz rfl (Sz rfl (fw (.bool false) (Gm rfl rfl rfl) (Mz rfl (Sz rfl (Sz rfl (Sz rfl (Sz rfl (Sz rfl (Sz rfl (Sz rfl (Sz rfl (Sz rfl (fw (.bool false) (Gm rfl rfl rfl) ?_))))))))))))))))))))))))))))))))))))
 refine An rfl (rt (rs ?_))
 have F:=H.pf []
 obtain rfl:=zj hr zq1
 exact⟨rfl,F⟩
 refine gw (.slice z l1.length B) (dT b) (Gv rfl) (gw (vP c 0) (dT b) (Gv rfl) (Gz (vP c 0) (dT b) (Gz (vP c 0) (dT b) (Gz (vP c 10) (dT b) (Ga (aj.cells a.aa.aH) (dT b) H 0 B5 B4 ?_)))))
 obtain⟨r,d⟩:∃ q,tO l1 a.aa.aH=q:=⟨_,rfl⟩
 obtain⟨M,t,u,x,K⟩:=Gr H
 refine nQ (dT b) Tryz.call180 (yw _ _ z l1.length B l1 a.aa.aH r t (u _ C) rfl e8 d) ?_
 rintro _ N ⟨rfl,y⟩
 have s:=x _ _ y
 refine fw (.bool r) (Gu rfl (dT b) rfl) (nt ?_)
 rcases Kq (r) with f | f
 refine jT f (sr (An rfl (rt (tR (rs ?_)))))
 have G:=s.pf []
 obtain rfl:=zj hr zq3
 exact⟨rfl,G⟩
 refine jF f (sk (sr (Mz rfl (Kz (vP c 0) (Kz (vP c 20) (Lz (.pointer none) s 0 Tryz.isAgg78 (Kz (.bool false) (Mz rfl (Sz rfl (Sz rfl (Sz rfl (Sz rfl (Sz rfl (Sz rfl (Sz rfl (fw (.bool false) (Gm rfl rfl rfl) (Mz rfl (Sz rfl (Sz rfl (Sz rfl (Sz rfl (Sz rfl (Sz rfl (Sz rfl (Sz rfl (Sz rfl (fw (.bool false) (Gm rfl rfl rfl) (An rfl (rt (rs ?_))))))))))))))))))))))))))))))
 have I:=s.pf []
 obtain rfl:=zj hr zq3
 exact⟨rfl,I⟩
def kv (a:ax) (d:dM):Bool:=
 if v7.wrap ((a.aa.ak.ls.length:Int)+(a.ag.ls.length:Int)) >= 6 then true else if v7.wrap ((v7.wrap ((a.aa.ak.ls.length:Int)+(a.ag.ls.length:Int)))+(a.aa.af.ls.length:Int)) >= 64 then true else if(d.aL:Int)=(a.aa.aL:Int) then bnd (pI a d.aJ.ls) λ b=>if b=true then bnd (oC a d.aJ.ls) λ c=>c else true else true
theorem tV (w D l) (a:ax) (n m r s o p t u y z) (d:dM) (j L k B M C E F N G r0) (H:Own w D w [blk l [.int .i64 a.aa.bC, .int .u64 ((a.aa.aT:Nat):Int), .int .u64 ((a.aa.bv:Nat):Int), .int .u64 ((a.aa.aL:Nat):Int), .int .u64 ((a.aa.aG:Nat):Int), .slice n a.aa.ah.ls.length m, .slice r a.aa.ak.ls.length s, .slice o a.aa.af.ls.length p, .int .u64 ((a.aa.bi:Nat):Int), .int .u64 ((a.aa.aM:Nat):Int), .string ⟨u3 a.aa.aH.aO⟩, .string ⟨u3 a.aa.aH.aS⟩, .int .u64 ((a.aa.aF.aG:Nat):Int), .int .u64 ((a.aa.aF.bu:Nat):Int), .int .u64 ((a.aa.aF.dA:Nat):Int), .string ⟨u3 a.aa.aF.aB.aO⟩, .string ⟨u3 a.aa.aF.aB.aS⟩, .iface 24 (.pointer (some ⟨y,0,none⟩)), .slice t a.ag.ls.length u, .pointer (some ⟨z,0,none⟩), .pointer none] 80]) (Q:Ro w D λ w'=>bM w' 2 n a.aa.ah.ls.length (q0 bL.cells a.aa.ah.ls)) (az:a.aa.ah.ls.length<=m/\a.aa.ah.ls.length<=9223372036854775807) (R:L=d.aJ.ls.length) (I:Ro w D λ w'=>bM w' 6 j d.aJ.ls.length (q0 aY.cells d.aJ.ls)) (aB:d.aJ.ls.length<=k/\d.aJ.ls.length<=9223372036854775807) (S:r8 aP.abs E=d.aQ.ls) (T:M=d.aQ.ls.length) (aC:Ro w D λ w'=>bM w' 3 B d.aQ.ls.length (q0 aP.cells E)) (aD:d.aQ.ls.length<=C/\d.aQ.ls.length<=9223372036854775807) (aF:∀ x ∈ E,Ro w D (λ w'=>bM w' 2 x.bq.A x.bq.ls.length (q0 aA.cells x.bq.ls))/\(x.bq.ls.length<=x.bq.c/\x.bq.ls.length<=9223372036854775807)) (U:N=d.ah.ls.length) (aG:Ro w D λ w'=>bM w' 2 F d.ah.ls.length (q0 bL.cells d.ah.ls)) (aH:d.ah.ls.length<=G/\d.ah.ls.length<=9223372036854775807) (aZ:a.aa.ah.ls.length<=1000) (hr:kv a d=r0):
    Calls u2 80 #[vP l 0, .agg (ic d.az d.iO d.jD d.gJ d.fG d.iB d.gp d.aT d.aV d.bi d.bv d.aL d.aG d.bu d.xN d.fZ d.aB.aO d.aB.aS j L k B M C F N G).toArray] w (dG λ v w'=>v= .bool r0/\Own w D w' [blk l [vI a.aa.bC,vU a.aa.aT,vU a.aa.bv,vU a.aa.aL,vU a.aa.aG, .slice n a.aa.ah.ls.length m, .slice r a.aa.ak.ls.length s, .slice o a.aa.af.ls.length p,vU a.aa.bi,vU a.aa.aM, .string ⟨u3 a.aa.aH.aO⟩, .string ⟨u3 a.aa.aH.aS⟩,vU a.aa.aF.aG,vU a.aa.aF.bu,vU a.aa.aF.dA, .string ⟨u3 a.aa.aF.aB.aO⟩, .string ⟨u3 a.aa.aF.aB.aS⟩, .iface 24 (vP y 0), .slice t a.ag.ls.length u,vP z 0, .pointer none] 80]):=by
 unfold kv at hr
 subst R T U
 have ay:=aW S
 refine cb Tryz.func80 ?_
 refine sr ?_
 refine bW (lN d j k B C F G) 47 H ?_
 intro V bf aI
 refine An rfl (Gp ?_)
 refine oD [] (GD GQ) aI ?_
 intro bg W
 refine qv 0 rfl rfl (qp l 0 1 rfl (qp l 0 2 rfl (qp l 6 3 rfl (ql 4 rfl 1 C0 rfl rfl rfl (qk (vJ a.aa.ak.ls.length) 5 rfl (qv 6 rfl rfl (qp l 0 7 rfl (qp l 18 8 rfl (ql 9 rfl 1 O8 rfl rfl rfl (qk (vJ a.ag.ls.length) 10 rfl (qk (vI (v7.wrap ((a.aa.ak.ls.length:Int)+(a.ag.ls.length:Int)))) 11 rfl (qa 12 rfl rfl (qn (Gs (sr (Mz rfl (Kz (.bool (decide (v7.wrap ((a.aa.ak.ls.length:Int)+(a.ag.ls.length:Int)) >= 6))) (Mz rfl ?_))))))))))))))))))
 by_cases b:v7.wrap ((a.aa.ak.ls.length:Int)+(a.ag.ls.length:Int)) >= 6
 refine Sz (dT b) (Sz (dT b) (Sz (dT b) (Sz (dT b) (Sz (dT b) (Sz (dT b) (Sz (dT b) (Sz (dT b) (Sz (dT b) (fw (.bool true) (Gu rfl (dT b) rfl) (An rfl (Gp ?_)))))))))))
 refine oD [] (GD GQ) W ?_
 intro bi aJ
 refine qv 0 rfl rfl (qv 1 rfl rfl (Gy (rs:= []) 2 rfl rfl rfl rfl e9 (Gy (rs:= []) 3 rfl rfl rfl rfl e9 (Gy (rs:= []) 4 rfl rfl rfl rfl e9 (Gy (rs:= []) 5 rfl rfl rfl rfl e9 (Gy (rs:= []) 6 rfl rfl rfl rfl e9 (Gy (rs:= []) 7 rfl rfl rfl rfl e9 (Gy (rs:= []) 8 rfl rfl rfl rfl e9 (Gy (rs:= []) 9 rfl rfl rfl rfl e9 (qt (v:= .bool true) 10 rfl (λ _ _=>Gu rfl rfl rfl) (qv 11 rfl rfl (Gy (rs:= []) 12 rfl rfl rfl rfl e9 (Gy (rs:= []) 13 rfl rfl rfl rfl e9 (Gy (rs:= []) 14 rfl rfl rfl rfl e9 (Gy (rs:= []) 15 rfl rfl rfl rfl e9 (Gy (rs:= []) 16 rfl rfl rfl rfl e9 (qt (v:= .bool true) 17 rfl (λ _ _=>Gu rfl rfl rfl) (qv 18 rfl rfl (Gy (rs:= []) 19 rfl rfl rfl rfl e9 (Gy (rs:= []) 20 rfl rfl rfl rfl e9 (Gy (rs:= []) 21 rfl rfl rfl rfl e9 (Gy (rs:= []) 22 rfl rfl rfl rfl e9 (qt (v:= .bool true) 23 rfl (λ _ _=>Gu rfl rfl rfl) (qa 24 rfl rfl (qn (Gs (rt (rs ?_))))))))))))))))))))))))))))
 have aK:=aJ.pk [1]
 obtain rfl:=zj hr zq1
 exact⟨rfl,aK⟩
 refine gw (vI (v7.wrap ((a.aa.ak.ls.length:Int)+(a.ag.ls.length:Int)))) (dF b) (Gv rfl) (gw (vP l 0) (dF b) (Gv rfl) (Gz (vP l 0) (dF b) (Gz (vP l 0) (dF b) (Gz (vP l 7) (dF b) (Gl (.slice o a.aa.af.ls.length p) (dF b) W 1 C5 (Gz (vJ a.aa.af.ls.length) (dF b) (Gz (vI (v7.wrap ((v7.wrap ((a.aa.ak.ls.length:Int)+(a.ag.ls.length:Int)))+(a.aa.af.ls.length:Int)))) (dF b) (Gz (.bool (decide (v7.wrap ((v7.wrap ((a.aa.ak.ls.length:Int)+(a.ag.ls.length:Int)))+(a.aa.af.ls.length:Int)) >= 64))) (dF b) (fw (.bool (decide (v7.wrap ((v7.wrap ((a.aa.ak.ls.length:Int)+(a.ag.ls.length:Int)))+(a.aa.af.ls.length:Int)) >= 64))) (Gm rfl (dF b) rfl) (An rfl (Gp ?_)))))))))))
 refine oD [] (GD GQ) W ?_
 intro bn X
 refine qv 0 rfl rfl (qv 1 rfl rfl ?_)
 by_cases f:v7.wrap ((v7.wrap ((a.aa.ak.ls.length:Int)+(a.ag.ls.length:Int)))+(a.aa.af.ls.length:Int)) >= 64
 refine Gy (rs:= []) 2 rfl rfl rfl (dT f) e9 (Gy (rs:= []) 3 rfl rfl rfl (dT f) e9 (Gy (rs:= []) 4 rfl rfl rfl (dT f) e9 (Gy (rs:= []) 5 rfl rfl rfl (dT f) e9 (Gy (rs:= []) 6 rfl rfl rfl (dT f) e9 (Gy (rs:= []) 7 rfl rfl rfl (dT f) e9 (Gy (rs:= []) 8 rfl rfl rfl (dT f) e9 (Gy (rs:= []) 9 rfl rfl rfl (dT f) e9 (qt (v:= .bool true) 10 rfl (λ _ _=>Gu rfl (dT f) rfl) (qv 11 rfl rfl (Gy (rs:= []) 12 rfl rfl rfl rfl e9 (Gy (rs:= []) 13 rfl rfl rfl rfl e9 (Gy (rs:= []) 14 rfl rfl rfl rfl e9 (Gy (rs:= []) 15 rfl rfl rfl rfl e9 (Gy (rs:= []) 16 rfl rfl rfl rfl e9 (qt (v:= .bool true) 17 rfl (λ _ _=>Gu rfl rfl rfl) (qv 18 rfl rfl (Gy (rs:= []) 19 rfl rfl rfl rfl e9 (Gy (rs:= []) 20 rfl rfl rfl rfl e9 (Gy (rs:= []) 21 rfl rfl rfl rfl e9 (Gy (rs:= []) 22 rfl rfl rfl rfl e9 (qt (v:= .bool true) 23 rfl (λ _ _=>Gu rfl rfl rfl) (qa 24 rfl rfl (qn (Gs (rt (rs ?_))))))))))))))))))))))))))
 have aL:=X.pk [1]
 obtain rfl:=zj hr zq2
 exact⟨rfl,aL⟩
 refine GG (v:=vP V 11) (rs:= []) 2 rfl rfl rfl (dF f) e9 (λ _ _=>yk) (GG (v:=vU d.aL) (rs:= []) 3 rfl rfl rfl (dF f) e9 (λ _ ⟨_,Y⟩=>GH rfl (bS.one C4 (Ho (Y.cls (i:=0) rfl) rfl))) (GG (v:=vP l 0) (rs:= []) 4 rfl rfl rfl (dF f) e9 (λ _ _=>Gv rfl) (GG (v:=vP l 0) (rs:= []) 5 rfl rfl rfl (dF f) e9 (λ _ _=>yk) (GG (v:=vP l 0) (rs:= []) 6 rfl rfl rfl (dF f) e9 (λ _ _=>yk) (GG (v:=vP l 3) (rs:= []) 7 rfl rfl rfl (dF f) e9 (λ _ _=>yk) (GG (v:=vU a.aa.aL) (rs:= []) 8 rfl rfl rfl (dF f) e9 (λ _ ⟨_,Y⟩=>GH rfl (bS.one C4 (Ho (Y.cls (i:=1) rfl) rfl))) (GG (v:= .bool (decide (¬ ((d.aL:Int)=(a.aa.aL:Int))))) (rs:= []) 9 rfl rfl rfl (dF f) e9 (λ _ _=>GN (e:= !(decide ((d.aL:Int)=(a.aa.aL:Int)))) yk decide_not.symm) (qt (v:= .bool (decide (¬ ((d.aL:Int)=(a.aa.aL:Int))))) 10 rfl (λ _ _=>Gm rfl (dF f) rfl) (qv 11 rfl rfl ?_)))))))))
 by_cases g:(d.aL:Int)=(a.aa.aL:Int)
 refine GG (v:=vP l 0) (rs:= []) 12 rfl rfl rfl (dF (Ko g)) e9 (λ _ _=>Gv rfl) (GG (v:=vP V 18) (rs:= []) 13 rfl rfl rfl (dF (Ko g)) e9 (λ _ _=>yk) (GG (v:= .slice j d.aJ.ls.length k) (rs:= []) 14 rfl rfl rfl (dF (Ko g)) e9 (λ _ ⟨_,Y⟩=>GH rfl (bS.one C6 (Ho (Y.cls (i:=0) rfl) rfl))) ?_))
 have aM:=X.pb [0]
 obtain⟨K,J⟩:∃ q,pI a d.aJ.ls=q:=⟨_,rfl⟩
 obtain⟨bq,af,O,ag,aV⟩:=G9 aM
 refine H5 15 rfl rfl rfl (decide_eq_false (Ko g)) e9 (GV Tryz.call133 rfl (uV _ _ l a n m r s o p t u y z j d.aJ.ls.length k d.aJ.ls K af (O _ Q) e8 (O _ I) rfl e8 f0 J) ?_)
 rintro _ bu ⟨rfl,ah⟩
 have aN:=ag _ _ ah
 have Z:=aN.pb [0]
 refine⟨.inr ⟨_,Z⟩, ?_⟩
 refine GG (v:= .bool (!K)) (rs:= []) 16 rfl rfl rfl (dF (Ko g)) e9 (λ _ _=>yk) (qt (v:= .bool (!K)) 17 rfl (λ _ _=>Gm rfl (dF (Ko g)) rfl) (qv 18 rfl rfl ?_))
 rcases Kq (K) with h | h
 refine GG (v:=vP l 0) (rs:= []) 19 rfl rfl rfl (cn h) e9 (λ _ _=>Gv rfl) (GG (v:=vP V 18) (rs:= []) 20 rfl rfl rfl (cn h) e9 (λ _ _=>yk) (GG (v:= .slice j d.aJ.ls.length k) (rs:= []) 21 rfl rfl rfl (cn h) e9 (λ _ ⟨_,Y⟩=>GH rfl (bS.one C6 (Ho (Y.cls (i:=0) rfl) rfl))) ?_))
 have aO:=Z.pb [0]
 obtain⟨aa,P⟩:∃ q,oC a d.aJ.ls=q:=⟨_,rfl⟩
 obtain⟨bv,ai,aj,ak,aX⟩:=G9 aO
 refine H5 22 rfl rfl rfl (cn h) e9 (GV Tryz.call134 rfl (uq _ _ l a n m r s o p t u y z j d.aJ.ls.length k d.aJ.ls aa ai (aj _ I) rfl e8 P) ?_)
 rintro _ bz ⟨rfl,au⟩
 have aQ:=ak _ _ au
 have av:=aQ.pb [0]
 refine⟨.inr ⟨_,av⟩, ?_⟩
 refine qt (v:= .bool aa) 23 rfl (λ _ _=>Gm rfl (cn h) rfl) (qa 24 rfl rfl (qn (Gs (rt (rs ?_)))))
 have aR:=av.pk [1]
 obtain rfl:=zj hr zq6
 exact⟨rfl,aR⟩
 refine Gy (rs:= []) 19 rfl rfl rfl (cn h) e9 (Gy (rs:= []) 20 rfl rfl rfl (cn h) e9 (Gy (rs:= []) 21 rfl rfl rfl (cn h) e9 (Gy (rs:= []) 22 rfl rfl rfl (cn h) e9 (qt (v:= .bool true) 23 rfl (λ _ _=>Gu rfl (cn h) rfl) (qa 24 rfl rfl (qn (Gs (rt (rs ?_)))))))))
 have aS:=Z.pk [1]
 obtain rfl:=zj hr zq5
 exact⟨rfl,aS⟩
 refine Gy (rs:= []) 12 rfl rfl rfl (dT g) e9 (Gy (rs:= []) 13 rfl rfl rfl (dT g) e9 (Gy (rs:= []) 14 rfl rfl rfl (dT g) e9 (Gy (rs:= []) 15 rfl rfl rfl (dT g) e9 (Gy (rs:= []) 16 rfl rfl rfl (dT g) e9 (qt (v:= .bool true) 17 rfl (λ _ _=>Gu rfl (dT g) rfl) (qv 18 rfl rfl (Gy (rs:= []) 19 rfl rfl rfl rfl e9 (Gy (rs:= []) 20 rfl rfl rfl rfl e9 (Gy (rs:= []) 21 rfl rfl rfl rfl e9 (Gy (rs:= []) 22 rfl rfl rfl rfl e9 (qt (v:= .bool true) 23 rfl (λ _ _=>Gu rfl rfl rfl) (qa 24 rfl rfl (qn (Gs (rt (rs ?_))))))))))))))))
 have aT:=X.pk [1]
 obtain rfl:=zj hr zq3
 exact⟨rfl,aT⟩
def eU (b:ax) (c:Nat):ax:=
 bnd (dh b c) λ a=>if a.2=true then ax.mk b.aa (D4 (t1 (E0 a.1) b.ag.ls++r7 ((E0 a.1)+1) b.ag.ls)) else b
theorem lY (w D A) (a:ax) (l m n o p r g f c s t Q) (R:ax) (H:Own w D w [blk A [.int .i64 a.aa.bC, .int .u64 ((a.aa.aT:Nat):Int), .int .u64 ((a.aa.bv:Nat):Int), .int .u64 ((a.aa.aL:Nat):Int), .int .u64 ((a.aa.aG:Nat):Int), .slice l a.aa.ah.ls.length m, .slice n a.aa.ak.ls.length o, .slice p a.aa.af.ls.length r, .int .u64 ((a.aa.bi:Nat):Int), .int .u64 ((a.aa.aM:Nat):Int), .string ⟨u3 a.aa.aH.aO⟩, .string ⟨u3 a.aa.aH.aS⟩, .int .u64 ((a.aa.aF.aG:Nat):Int), .int .u64 ((a.aa.aF.bu:Nat):Int), .int .u64 ((a.aa.aF.dA:Nat):Int), .string ⟨u3 a.aa.aF.aB.aO⟩, .string ⟨u3 a.aa.aF.aB.aS⟩, .iface 24 (.pointer (some ⟨s,0,none⟩)), .slice g a.ag.ls.length f, .pointer (some ⟨t,0,none⟩), .pointer none] 80,row g a.ag.ls.length f (q0 aR.cells c) 99 4,sepL (q0 G5 c)]) (d:r8 aR.abs c=a.ag.ls) (az:a.ag.ls.length<=1000) (hr:eU a Q=R):
    Calls u2 87 #[vP A 0,vU Q] w (dG λ v w'=> ∃ u x h,v= .tuple #[]/\Own w D w' [blk A [vI a.aa.bC,vU a.aa.aT,vU a.aa.bv,vU a.aa.aL,vU a.aa.aG, .slice l a.aa.ah.ls.length m, .slice n a.aa.ak.ls.length o, .slice p a.aa.af.ls.length r,vU a.aa.bi,vU a.aa.aM, .string ⟨u3 a.aa.aH.aO⟩, .string ⟨u3 a.aa.aH.aS⟩,vU a.aa.aF.aG,vU a.aa.aF.bu,vU a.aa.aF.dA, .string ⟨u3 a.aa.aF.aB.aO⟩, .string ⟨u3 a.aa.aF.aB.aS⟩, .iface 24 (vP s 0), .slice u R.ag.ls.length x,vP t 0, .pointer none] 80,row u R.ag.ls.length x (q0 aR.cells h) 99 4,sepL (q0 G5 h)]/\(r8 aR.abs h=R.ag.ls)):=by
 unfold eU at hr
 have S:=aW d
 have V:=H.rowC (i:=1) rfl
 refine cb Tryz.func87 ?_
 refine sr (Mz rfl (Mz rfl ?_))
 have ag:=H.rowC (i:=1) rfl
 obtain⟨⟨b,k⟩,y⟩:∃ q:Int × Bool,dh a Q=q:=⟨_,rfl⟩
 obtain⟨aA,G,ah,I,z⟩:=G9 H
 refine cl Tryz.call79 (iY _ _ A a l m n o p r g f c s t Q b k G d (z _ 0 _ rfl bQ) e8 (λ T U=>⟨z _ 1 _ rfl (bP (M5.2 ⟨T,U,b3⟩) bQ),dJ (φ:=λ _=>_) H (i:=2) rfl (bP (M5.2 ⟨T,U,b3⟩) dN),z _ 1 _ rfl (bP (M5.2 ⟨T,U, .tail _ b3⟩) bQ),dJ (φ:=λ _=>_) H (i:=2) rfl (bP (M5.2 ⟨T,U, .tail _ b3⟩) dN)⟩) f0 y) ?_
 rintro _ aB ⟨rfl,J,B,C⟩
 have E:=I _ _ J
 replace B:0<=b/\b<=(a.ag.ls.length:Int):=B
 replace C:Bool.toNat k=0\/b < (a.ag.ls.length:Int):=C
 refine Mz rfl (Kz (vI b) (Kz (.bool k) (Az rfl (Ar rfl (Mn rfl ?_)))))
 rcases Kq (k) with j | j
 have h35t:Bool.toNat k=1:=by rw [j]; rfl
 refine jT j (Gq (Mz rfl (Mz rfl (Kz (vP A 0) (Kz (vP A 18) (Lz (.slice g a.ag.ls.length f) E 0 O8 (Mz rfl (Mz rfl (fw (vI (b+1)) (Gw (e:=v7.wrap (b+1)) yk i4) ?_)))))))))
 obtain⟨W,K⟩:∃ q,c[E0 b]? =some q:=⟨_,p3 e8⟩
 have X:=E.pb [0]
 obtain⟨aC,L,ai,M,aj⟩:=Ht X
 refine cl Tryz.call142 (tK _ _ g a.ag.ls.length f c a.ag.ls b (b+1) (E0 b) W L e8 d e8 e8 e8 K) ?_
 rintro _ aD ⟨N,O,rfl,P⟩
 have F:=M _ _ P
 have ak:q5 (t1 (E0 b) c++r7 ((E0 b)+1) c)=q5 (t1 (E0 b) a.ag.ls++r7 ((E0 b)+1) a.ag.ls):=by exact aW (nL d)
 have au:q5 (t1 (E0 b) a.ag.ls++r7 ((E0 b)+1) a.ag.ls)+1=a.ag.ls.length:=by simp only [m8,m6,m7]; omega
 have av:=F.rowC (i:=2) rfl
 have ay:=F.rowC (i:=3) rfl
 refine Kz (vP A 0) (Kz (vP A 18) ?_)
 have Y:=F.pf [4]
 refine bY [.slice N (q5 (t1 (E0 b) a.ag.ls++r7 ((E0 b)+1) a.ag.ls)) O] 18 Y Tryz.sizeOf77 ?_
 intro aF Z
 refine v8 (Hq (res0 rfl) ?_)
 have aa:=Z.pk [0,1,2]
 obtain rfl:=zj hr zq2
 exact⟨N,O,(t1 (E0 b) c++r7 ((E0 b)+1) c),rfl,aa,(nL d)⟩
 have h35t:Bool.toNat k=0:=by rw [j]; rfl
 refine jF j (G7 (Hq (res0 rfl) ?_))
 have af:=E.pf []
 obtain rfl:=zj hr zq2
 exact⟨g,f,c,rfl,af,d⟩
def pJ (e:ax) (d:aY) (b:StoreT):(List aA) × Int:=
 if d.az=1 then bnd (r9 b d.aX) λ a=>if a.2.1=true then([(aA.mk d.aX a.1)],0) else(([]:List aA),a.2.2) else if d.az=4 then bnd (rz b (aj.mk d.aO d.aS) 2147483647) λ c=>(c.1,c.2) else(([]:List aA),0)
theorem uW (w D L) (a:ax) (n o p r s t u x z) (g:aY) (f) (b:StoreT) (d c Q r1) (H:Own w D w [blk L [.int .i64 a.aa.bC, .int .u64 ((a.aa.aT:Nat):Int), .int .u64 ((a.aa.bv:Nat):Int), .int .u64 ((a.aa.aL:Nat):Int), .int .u64 ((a.aa.aG:Nat):Int), .slice n a.aa.ah.ls.length o, .slice p a.aa.ak.ls.length r, .slice s a.aa.af.ls.length t, .int .u64 ((a.aa.bi:Nat):Int), .int .u64 ((a.aa.aM:Nat):Int), .string ⟨u3 a.aa.aH.aO⟩, .string ⟨u3 a.aa.aH.aS⟩, .int .u64 ((a.aa.aF.aG:Nat):Int), .int .u64 ((a.aa.aF.bu:Nat):Int), .int .u64 ((a.aa.aF.dA:Nat):Int), .string ⟨u3 a.aa.aF.aB.aO⟩, .string ⟨u3 a.aa.aF.aB.aS⟩, .iface 24 (.pointer (some ⟨f,0,none⟩)), .slice u a.ag.ls.length x, .pointer (some ⟨z,0,none⟩), .pointer none] 80,blk f [.slice d b.xM.ls.length c] 27]) (h:Ro w D λ w'=>bM w' 2 d b.xM.ls.length (q0 aA.cells b.xM.ls)) (R:b.xM.ls.length<=c/\b.xM.ls.length<=9223372036854775807) (aR:b.xM.ls.length<=4000) (hr:pJ a g b=(Q,r1)):
    Calls u2 176 #[vP L 0, .agg (aY.cells g).toArray] w (dG λ v w'=> ∃ B0 b0,v= .tuple #[.slice B0 Q.length b0,vI r1]/\Own w D w' [row B0 Q.length b0 (q0 aA.cells Q) 101 2,blk L [vI a.aa.bC,vU a.aa.aT,vU a.aa.bv,vU a.aa.aL,vU a.aa.aG, .slice n a.aa.ah.ls.length o, .slice p a.aa.ak.ls.length r, .slice s a.aa.af.ls.length t,vU a.aa.bi,vU a.aa.aM, .string ⟨u3 a.aa.aH.aO⟩, .string ⟨u3 a.aa.aH.aS⟩,vU a.aa.aF.aG,vU a.aa.aF.bu,vU a.aa.aF.dA, .string ⟨u3 a.aa.aF.aB.aO⟩, .string ⟨u3 a.aa.aF.aB.aS⟩, .iface 24 (vP f 0), .slice u a.ag.ls.length x,vP z 0, .pointer none] 80,blk f [.slice d b.xM.ls.length c] 27]/\(r1=0/\Q.length<=4000)):=by
 unfold pJ at hr
 refine cb Tryz.func176 ?_
 refine sr ?_
 refine bW (aY.cells g) 68 H ?_
 intro A au F
 refine Az rfl (An rfl (Gp (sr (Kz (vP A 0) (Lz (vI g.az) F 0 Tryz.isAgg3 (nt (bo (sr (Kz (.bool (decide (g.az=1))) (An rfl ?_))))))))))
 by_cases k:g.az=1
 refine jT (dT k) (Gp ?_)
 refine xX [] (GD (bH.block (GD GQ))) F ?_
 intro aS av
 refine qv 0 rfl rfl (qp L 0 1 rfl (qp L 17 2 rfl (ql 3 rfl 1 Tryz.isAgg72 rfl rfl rfl (qp A 1 4 rfl (ql 5 rfl 0 v3 rfl rfl rfl ?_)))))
 have ay:=av.pf [2]
 obtain⟨⟨l,m,j⟩,B⟩:∃ q:(List UInt8) × Bool × Int,r9 b g.aX=q:=⟨_,rfl⟩
 obtain⟨aT,S,T,U,aO⟩:=G9 ay
 refine qd 6 rfl (Jk (Ey _) rfl rfl (xG _ _ f b d c g.aX l m j S (T _ h) e8 f0 B) ?_)
 rintro _ az ⟨rfl,V,M⟩
 have aB:=U _ _ V
 replace M:j=0:=M
 have G:=aB.pb [0]
 refine⟨.inr ⟨_,G⟩, ?_⟩
 refine qv 7 rfl rfl (qk (.string ⟨u3 l⟩) 8 rfl (qk (.bool m) 9 rfl (qk (vI j) 10 rfl (qa 11 rfl rfl (qa 12 rfl rfl (qa 13 rfl rfl (qn (Gs (Gp (sr (Mz rfl (fw (.bool (decide (¬ (j=0)))) (GN (e:= !(decide (j=0))) yk decide_not.symm) (Mz rfl ?_)))))))))))))
 have C:(decide (¬ (j=0)))=false:=(dF e8)
 refine Hm (v:= .bool m) rfl rfl C rfl (Gv rfl) (Gz (.bool (!m)) C (fw (.bool (!m)) (Gm rfl C rfl) (nt ?_)))
 rcases Kq (m) with E | E
 refine jF (cn E) (sk (sr (Kz (vP A 1) (Lz (.string ⟨u3 g.aX⟩) G 0 v3 (Mz rfl (Kz (.agg #[.string ⟨u3 g.aX⟩, .string ⟨u3 l⟩]) ?_))))))
 refine jE [.string ⟨u3 g.aX⟩, .string ⟨u3 l⟩] 101 2 1 G ?_
 intro W aU P
 replace P:=Ha (y:=row W 1 1 (q0 aA.cells ([(aA.mk g.aX l)])) 101 2) rfl P
 refine Az rfl (An rfl (rt (bR (tR (GM (j6 rfl rfl rfl) ?_)))))
 have aC:=P.pk [0,2,3]
 obtain⟨rfl,rfl⟩:=fC (zj hr zq3)
 exact⟨W,1,rfl,aC,i3⟩
 refine jT (cn E) (sr (Mz rfl (Az rfl (An rfl (rt (tR (bR (tR (GM (j6 rfl rfl rfl) ?_)))))))))
 have aD:Own w D az (row none 0 0 (q0 aA.cells []) 101 2::_):=G.free (bX 101 2)
 have aF:=aD.pk [0,2,3]
 obtain⟨rfl,rfl⟩:=fC (zj hr zq3)
 exact⟨none,0,rfl,aF,i3⟩
 refine jF (dF k) (sr (Kz (.bool (decide (g.az=4))) (An rfl ?_)))
 by_cases I:g.az=4
 refine jT (dT I) (Gp ?_)
 refine xX [] (GD (bH.block (GD GQ))) F ?_
 intro aV aG
 refine qv 0 rfl rfl (qp L 0 1 rfl (qp L 17 2 rfl (ql 3 rfl 1 Tryz.isAgg72 rfl rfl rfl (qp A 3 4 rfl (ql 5 rfl 0 v3 rfl rfl rfl (qp A 4 6 rfl (ql 7 rfl 0 v3 rfl rfl rfl (qk (.agg #[.string ⟨u3 g.aO⟩, .string ⟨u3 g.aS⟩]) 8 rfl ?_))))))))
 have aH:=aG.pf [2]
 obtain⟨⟨J,K⟩,N⟩:∃ q:(List aA) × Int,rz b (aj.mk g.aO g.aS) 2147483647=q:=⟨_,rfl⟩
 obtain⟨aW,X,Y,Z,aP⟩:=G9 aH
 refine qd 9 rfl (Jk (DX _) rfl rfl (wS _ _ f b d c (aj.mk g.aO g.aS) 2147483647 J K X (Y _ h) e8 f0 N) ?_)
 rintro _ aX ⟨aa,af,rfl,ag,O⟩
 have ah:=Z _ _ ag
 have aQ:=ah.rowC (i:=0) rfl
 replace O:K=0/\J.length<=4000:=O
 have ai:=ah.pb [1,0]
 refine⟨.inr ⟨_,ai⟩, ?_⟩
 refine qk (.slice aa J.length af) 10 rfl (qk (vI K) 11 rfl (qa 12 rfl rfl (qa 13 rfl rfl (qn (Gs (rt (bR (tR (GM (j6 rfl rfl rfl) ?_)))))))))
 have aI:=ai.pk [3,1,2]
 obtain⟨rfl,rfl⟩:=fC (zj hr zq3)
 exact⟨aa,af,rfl,aI,i3⟩
 refine jF (dF I) (G7 (bN (Gs (Gp ?_))))
 have aJ:=F.pk [1,2]
 refine Gq (Az rfl (An rfl (rt (GM (j6 rfl rfl rfl) ?_))))
 have aK:Own w D au [row none 0 0 (q0 aA.cells []) 101 2,blk L [vI a.aa.bC,vU a.aa.aT,vU a.aa.bv,vU a.aa.aL,vU a.aa.aG, .slice n a.aa.ah.ls.length o, .slice p a.aa.ak.ls.length r, .slice s a.aa.af.ls.length t,vU a.aa.bi,vU a.aa.aM, .string ⟨u3 a.aa.aH.aO⟩, .string ⟨u3 a.aa.aH.aS⟩,vU a.aa.aF.aG,vU a.aa.aF.bu,vU a.aa.aF.dA, .string ⟨u3 a.aa.aF.aB.aO⟩, .string ⟨u3 a.aa.aF.aB.aS⟩, .iface 24 (vP f 0), .slice u a.ag.ls.length x,vP z 0, .pointer none] 80,blk f [.slice d b.xM.ls.length c] 27]:=aJ.free (bX 101 2)
 have aL:=aK.pf []
 obtain⟨rfl,rfl⟩:=fC (zj hr zq2)
 exact⟨none,0,rfl,aL,i3⟩
end
section
open Go.RowKit
def je (A:Option Addr) (n c:Nat) (xs:List Value) (t:TypeId) (sz:Nat):HP:=
  EL (λ x:Option Addr × Nat × Nat × Nat × List Value=>x.2.1+n=x.2.2.1/\x.2.1+c=x.2.2.2.1/\(0 < c->A=eu x.1 x.2.1 sz x.2.2.2.1)/\xs=x.2.2.2.2.drop (x.2.1 *sz)) (λ x=> [row x.1 x.2.2.1 x.2.2.2.1 x.2.2.2.2 t sz])
section
variable {P:Program} {F:List (Nat × Value)} {w w0:World} {D:Nat->Prop} {L:List HP} {A:Option Addr} {n c sz:Nat} {xs:List Value} {t:TypeId}
theorem Own.upQ (H:Own w0 D w (row A n c xs t sz::L)):Own w0 D w (je A n c xs t sz::L):=
  IL (A,0,n,c,xs) ⟨by simp,by simp,λ _=>(Co A sz c).symm,by simp⟩ H
theorem Own.tlQ {R:HP} (H:Own w0 D w (R::L)):Own w0 D w L:=H.to λ h hs=>by
  obtain⟨a,b,c,d,e,g,_⟩:=jR.app.1 (show jR ([R]++L) h from hs)
  exact d.mono g
theorem BB {h:Nat->Option Obj} (H:je A n c xs t sz h):∃ (b:Option Addr) (k d a:Nat) (ys:List Value) (f:Nat->Option Obj),row b d a ys t sz f/\(∀ k o,f k=some o->h k=some o)/\k+n=d/\k+c=a/\(0 < c->A=eu b k sz a)/\xs=ys.drop (k *sz):=by
  obtain⟨⟨b,k,d,a,ys⟩,⟨e,g,i,j⟩,f,l,m,_⟩:=H
  exact⟨b,k,d,a,ys,f 0,l 0 _ rfl,λ k o hk=>m 0 k o hk,e,g,i,j⟩
theorem Own.rowCQ {i:Nat} (H:Own w0 D w L) (hi:L[i]? =some (je A n c xs t sz)):n<=c/\c<=9223372036854775807:=by
  obtain⟨h,hr,a⟩:=H.get hi
  obtain⟨d,k,e,j,ys,f,⟨hl,hr⟩,hf,l,m,o,p⟩:=BB hr
  rcases hr with ⟨_,q,b⟩ | ⟨g,cur,fz,_,_,b,a,_⟩
  . omega
  . unfold maxLen at a; omega
theorem DY (w:World) (h:Nat->Option Obj) (hr:je A n c xs t sz h) (j:∀ k o,h k=some o->w.heap[k]? =some o):bM w sz A n xs:=by
  obtain⟨m,k,a,b,ys,f,hr,hf,p,q,l,d⟩:=BB hr
  have hR:=bQ w f hr λ k o hk=>j k o (hf k o hk)
  have hle:a<=b:=by
    obtain⟨_,hr⟩:=hr
    rcases hr with ⟨_,r,i⟩ | ⟨g,cur,fz,_,_,i,_⟩
    . omega
    . exact i
  have hlen:xs.length=n *sz:=by
    rw [d,List.length_drop,hR.1, <- Nat.sub_mul]
    congr 1; omega
  rcases Nat.eq_zero_or_pos n with e | e
  . subst e
    have:xs= []:=List.eq_nil_of_length_eq_zero (by rw [hlen,Nat.zero_mul])
    subst this
    exact bM.nil w sz A
  . have hc:=hR.cut (c:=b) (lo:=k) (hi:=a) e8 (Nat.le_refl _) hle
    rw [<- l e8,show a - k=n by omega, <- d,List.take_of_length_le (by rw [hlen]; exact Nat.le_refl _)] at hc
    exact hc
theorem Own.rdsQ {i:Nat} (H:Own w0 D w L) (hi:L[i]? =some (je A n c xs t sz)):bM w sz A n xs:=by
  obtain⟨h,hr,a⟩:=H.get hi
  exact DY w h hr a
theorem DZ (a:Addr) (x y:Nat):(a.add x).add y=a.add (x+y):=by
  cases a
  simp only [Addr.add]
  by_cases hx:x=0 <;> by_cases hy:y=0 <;> simp [hx,hy,Nat.add_assoc]
theorem JL {lo:Nat} {ys:List Value} (H:Own w0 D w (je A n c xs t sz::L)) (h:lo<=n) (hys:xs.drop (lo *sz)=ys):Own w0 D w (je (eu A lo sz c) (n - lo) (c - lo) ys t sz::L):=by
  have hle:=(H.rowCQ (i:=0) rfl).1
  obtain⟨⟨d,k,e,b,zs⟩,⟨j,f,l,g⟩,m⟩:=I7 H
  refine IL (d,k+lo,e,b,zs) ⟨by show k+lo+(n - lo)=e; simp only at j; omega,by show k+lo+(c - lo)=b; simp only at f; omega,λ hp=> ?_, ?_⟩ m
  . have hc:0 < c:=e8
    have ea:=l hc
    simp only at ea f
    show eu A lo sz c=eu d (k+lo) sz b
    rw [ea]
    unfold eu
    rw [if_neg (show ¬ c=lo by omega),if_neg (show ¬ b=k by omega),if_neg (show ¬ b=k+lo by omega)]
    cases d with
    | none=>rfl
    | some a=>simp only [Option.map_some,DZ,Nat.add_mul]
  . show ys=zs.drop ((k+lo) *sz)
    simp only at g
    rw [<- hys,g,List.drop_drop,Nat.add_mul]
theorem CY {a sp news:List Value} {o:Nat} (h:a.length=o):(put (a++sp) o news).take (o+news.length)=a++news:=by
  subst h
  unfold put
  rw [List.take_left' rfl]
  rw [List.take_append_of_le_length i5,List.take_of_length_le i5]
theorem Own.appendQ {k m e size bytes:Nat} {news:List Value} {u:Value} {tx:TypeId} (el:Elem P t e size bytes) (H:Own w0 D w (je A k c xs e size::L)) (hs:Src P size tx u m news w) (hm:m=1) (ty:TypeId)
    (h:k+m<=maxLen) (hgs:∀ old,old < k+m->Builtin.nextslicecap (k+m) old *bytes<=281474976710656):
    ∃ A' c' w',(Builtin.append_ #[t,tx] ty #[.slice A k c,u]).run P w= .ok (.slice A' (k+m) c') w'/\Own w0 D w' (je A' (k+m) c' (xs++news) e size::L):=by
  have hle:=H.rowCQ (i:=0) rfl
  by_cases hroom:k+m<=c
  . obtain⟨⟨a,d,b,o,zs⟩,⟨j,p,l,q⟩,g⟩:=I7 H
    simp only at j p l q
    replace g:Own w0 D w (row a b o zs e size::L):=g
    have hzl:=(g.rowLe (i:=0) rfl).2.2
    obtain⟨sp,hsp,r⟩:=g.rowFull
    have hsz:0 < size:=el.pos
    obtain⟨w',hst,s⟩:=r.room (P:=P) (k:=b) hsz hs e8
    have hnl:=hs.newsLen
    have f:=(r.rds (i:=0) rfl).isSome e8
    have hA:A=some ⟨ab a,ao a+d *size,none⟩:=by rw [l e8]; exact fM f e8
    have v:=s.rowTake (k:=b+m) e8 (ys:=zs++news) (by rw [Nat.add_mul, <- hnl]; exact CY hzl)
    refine⟨A,c,w', ?_,IL (a,d,b+m,o,zs++news) ⟨by show d+(k+m)=b+m; omega,p,λ _=>l e8, ?_⟩ v⟩
    . obtain⟨i,z,ht,hi,hz,rfl,rfl,hzs,hsz⟩:=el
      have hadd:ao a+d *i.size+k *i.size=ao a+b *i.size:=by rw [<- j,Nat.add_mul,Nat.add_assoc]
      rw [f] at hst
      simp only [add0,ab,ao] at hst
      simp only [ab,ao] at hadd hA
      rw [hA]
      rcases hs.kind with ⟨e',hk⟩ | hk <;> simp [Builtin.append_,run_underlying ht,run_underlying hk,sizeOf,typeInfo,hi,hs.len,hroom,hs.cells,add0,hadd,hst]
    . show xs++news=(zs++news).drop (d *size)
      rw [List.drop_append_of_le_length (by rw [hzl, <- j]; exact Nat.mul_le_mul_right _ e8),q]
  . have hck:c=k:=e8
    subst hck
    obtain⟨A',c',w',hr,H'⟩:=H.tlQ.appendNew (P:=P) el (H.rdsQ (i:=0) rfl) hs e8 ty h hgs
    exact⟨A',c',w',hr,H'.upQ⟩
theorem Do.appendQ {nn:Nat} {ty:TypeId} {K:Value->World->Prop} {x y:Operand} {k m e size bytes:Nat} {news:List Value} {u:Value} {tx:TypeId} (el:Elem P t e size bytes) (H:Own w0 D w (je A k c xs e size::L)) (hx:ev F x=some (.slice A k c)) (hy:ev F y=some u) (hs:Src P size tx u m news w)
    (hb:Nat.ble bytes 1048576=true) (hbytes:k+m<=9223372036854775807/\(k+m) *bytes<=211106232532992) {s:Nat} {ys:List Value} (hsum:k+m=s) (hys:xs++news=ys) (h:∀ A' c' w',Own w0 D w' (je A' s c' ys e size::L)->K (.slice A' s c') w') (hm:m=1:=by rfl):
    Do P nn F w (.call ⟨.builtin .append, [x,y].toArray, [t,tx].toArray⟩) ty K:=λ a ha o b d next Q hn=>by
  obtain⟨A',c',w',hr,H'⟩:=H.appendQ (P:=P) el hs hm o.type (by unfold maxLen; omega) λ _ ho'=>growslice_fits_wide ho' (vN hbytes.2 hb)
  unfold execOp
  rw [b]
  simp only [resolve,invoke,builtin,Sem.run_bind,Sem.run_pure,Result.andThen_ok,List.map_toArray,List.map_cons,List.map_nil,ha.eval hx,ha.eval hy,hr]
  subst hsum hys
  exact hn _ _ (h A' c' w' H')
end
end
theorem Ff:∀ (l:List aY) (m:List aA) (o:List cZ),q5 (gz l m o).2=q5 o+q5 l
  | [],m,o=>by rw [gz]; rfl
  | x::l,m,o=>by
    have h:∀ (m':List aA) (y:cZ),q5 (gz l m' (o++ [y])).2=q5 o+q5 (x::l):=λ m' y=>by
      rw [Ff l m' (o++ [y])]; simp only [List.length_append,List.length_cons,List.length_nil]; omega
    rw [gz]
    simp only [dz]
    split
    . exact h _ _
    . split
      . exact h _ _
      . split
        . exact h _ _
        . split
          . exact h _ _
          . exact h _ _
theorem CZ {m:List aA} {l:List aY} {f:List aA} {b:List cZ} {a:Int} (h:tJ m l=(f,b,a)): ¬ (a=0)\/q5 b=q5 l:=by
  unfold tJ at h
  simp only [dz] at h
  by_cases c:gy m=0
  . rw [if_pos c] at h
    by_cases d:jW l=0
    . rw [if_pos d] at h
      refine .inr ?_
      have e:b=(gz l m []).2:=(congrArg (λ q=>q.2.1) h).symm
      rw [e,Ff]; simp
    . rw [if_neg d] at h
      have e:jW l=a:=congrArg (λ q=>q.2.2) h
      exact .inl (e ▸ d)
  . rw [if_neg c] at h
    have e:gy m=a:=congrArg (λ q=>q.2.2) h
    exact .inl (e ▸ c)
theorem zr {L:List HP}{A:Option Addr}{m c sz t:Nat}{xs:List Value}{w0 w:World}{D:Nat->Prop}(i:Nat)(H:Own w0 D w L)(hi:L[i]? =some (row A m c xs t sz):=by exact rfl):m<=c/\c<=9223372036854775807:=H.rowC hi
open _root_.Go.Proofs.Tryz renaming isAgg28->P0,sizeOf44->P1,underlying44->O2,underlying50->P2,underlying90->O9
section
open Go.RowKit
def iq (d:bJ) (l1:List Nat):List Nat->List di->(List di)
  | [],a=>a
  | b::c,a=>iq d l1 c (a++ [(di.mk b true)])
def iw (d:bJ):List Nat->List di->(List di)
  | [],a=>a
  | b::c,a=>iw d c (a++ [(di.mk b false)])
def kV (a:bJ) (l1:List Nat) (b:List Nat):bJ:=
 bnd (iq a l1 b a.bD.ls) λ sLrL=>bnd (iw a l1 sLrL) λ sLrLaL=>bJ.mk a.av (D4 sLrLaL)
theorem qX (w D p) (c:bJ) (h j l n C E o M n1 U l1 T n2 c2 g) (V:bJ) (H:Own w D w [blk p [.pointer (some ⟨o,0,none⟩), .slice h c.av.bE.ls.length j, .slice l c.av.aI.ls.length n, .bool c.av.bU, .slice C c.bD.ls.length E] 92,je C c.bD.ls.length E (q0 di.cells c.bD.ls) 216 2]) (R:Ro w D λ w'=>bM w' 1 M n1 (q0 (eN .u64) l1)) (aB:n1=l1.length) (bv:l1.length *8<=211106232532992) (S:Ro w D λ w'=>bM w' 1 T n2 (q0 (eN .u64) g)) (aC:n2=g.length) (bz:g.length *8<=211106232532992) (bA:c.bD.ls.length<=100000/\l1.length<=12/\g.length<=12) (hr:kV c l1 g=V):
    Calls u2 137 #[vP p 0, .slice M n1 U, .slice T n2 c2] w (dG λ v w'=> ∃ F G,v= .tuple #[]/\Own w D w' [blk p [vP o 0, .slice h c.av.bE.ls.length j, .slice l c.av.aI.ls.length n, .bool c.av.bU, .slice F V.bD.ls.length G] 92,je F V.bD.ls.length G (q0 di.cells V.bD.ls) 216 2]/\(V.bD.ls.length=c.bD.ls.length+l1.length+g.length)):=by
 unfold kV at hr
 subst aB aC
 have aD:=H.rowCQ (i:=1) rfl
 refine cb Tryz.func137 ?_
 refine Gp (sr (Mz rfl (Kz (vJ g.length) (Mn rfl (bo ?_)))))
 have aF:=H.pf []
 obtain⟨aG,I⟩:=vk λ (d:Nat) u (x:Nat) a w'=>Own w D w' [blk p [vP o 0, .slice h c.av.bE.ls.length j, .slice l c.av.aI.ls.length n, .bool c.av.bU, .slice u a.length x] 92,je u a.length x (q0 di.cells a) 216 2]/\d<=g.length/\a.length=c.bD.ls.length+d/\a.length<=c.bD.ls.length+d/\iq c l1 g c.bD.ls=iq c l1 (r7 d g) a
 refine v4 (λ i:Nat × (Option Addr) × Nat × (List di)=> [(12,vJ i.1),(11,vJ g.length),(10, .slice T g.length c2),(0,vP p 0),(1, .slice M l1.length U)]) aG (λ i=>g.length - i.1) (0,C,E,c.bD.ls) ⟨rfl,rfl,rfl,rfl,rfl,trivial⟩ (I.2 ⟨aF,e8,e8,e8,rfl⟩) ?_
 rintro ⟨d,u,x,a⟩ bB W
 show Wp _ _ _ [(12,vJ d),(11,vJ g.length),(10, .slice T g.length c2),(0,vP p 0),(1, .slice M l1.length U)] _ _
 obtain⟨A,aY,aZ,bf,N⟩:=I.1 W
 refine sr (Kz (.bool (decide ((d:Int) < (g.length:Int)))) (nt (Gp ?_)))
 by_cases X:(d:Int) < (g.length:Int)
 obtain⟨r,O⟩:=dI (ls:=g) (i:=d) gT f5 (A.ro S) f2
 have Y:=drop_at O
 refine jT (dT X) (sk (Gp (bo (sr (fw (.pointer (some ⟨ab T,ao T+d *1,none⟩)) (GI (iC) rfl rfl ((A.ro S).addr (i:=d) e8) e8) (fw (vU r) (GH rfl (bS.one C4 (((A.ro S).elem gT O f5).at_ (k:=0) rfl))) (An rfl (Gq (Mz rfl (Mz rfl (Kz (vP p 0) (Kz (vP p 4) (Lz (.slice u a.length x) A 0 Tryz.isAgg90 (Mz rfl (Kz (.agg #[vU r, .bool true]) ?_)))))))))))))))
 refine jE [vU r, .bool true] 216 2 1 A ?_
 intro aH aI J
 replace J:=Own.upQ J
 replace J:Own w D aI [je aH 1 1 (q0 di.cells ([(di.mk r true)])) 216 2,blk p [vP o 0, .slice h c.av.bE.ls.length j, .slice l c.av.aI.ls.length n, .bool c.av.bU, .slice u a.length x] 92,je u a.length x (q0 di.cells a) 216 2]:=J
 have Z:=J.pf [2]
 refine WL.do rfl (Do.appendQ (k:=a.length) (m:=1) (Ce) Z rfl rfl (eT O9 (Z.rdsQ (i:=1) rfl) (cB di.one ([(di.mk r true)]))) rfl e8 (s:=q5 (a++ [(di.mk r true)])) f4 (t2).symm ?_)
 intro aa af bC aJ
 have bg:q5 (a++ [(di.mk r true)])=a.length+1:=by simp only [m8,q6,H2]
 refine Kz (vP p 0) (Kz (vP p 4) ?_)
 have aK:=aJ.pf [2]
 refine bY [.slice aa (q5 (a++ [(di.mk r true)])) af] 4 aK Tryz.sizeOf90 ?_
 intro bD aL
 refine v8 (bN (Gs ?_))
 have aM:=aL.pk [0,1]
 refine Gq (fw (vJ (d+1)) (Gw (e:=v7.wrap ((d:Int)+1)) yk f1) (Mz rfl (v8 ?_)))
 have aN:=aM.pf []
 exact GL (d+1,aa,af,(a++ [(di.mk r true)])) ⟨rfl,rfl,rfl,rfl,rfl,trivial⟩ (I.2 ⟨aN,e8,e8,e8,et (N) (et (congrArg (λ q=>iq c l1 q a) Y) rfl)⟩) (by show g.length - (d+1) < g.length - d; omega)
 refine jF (dF X) (v9 (GK ?_))
 have ag:iq c l1 g c.bD.ls=a:=et (N) (et (congrArg (λ q=>iq c l1 q a) (eP (ls:=g) (i:=d) e8)) rfl)
 refine GK (GR (Gs (sr (Mz rfl (Kz (vJ l1.length) (Mn rfl (bo ?_)))))))
 have aO:=A.pf []
 obtain⟨aP,K⟩:=vk λ (f:Nat) y (z:Nat) b w'=>Own w D w' [blk p [vP o 0, .slice h c.av.bE.ls.length j, .slice l c.av.aI.ls.length n, .bool c.av.bU, .slice y b.length z] 92,je y b.length z (q0 di.cells b) 216 2]/\f<=l1.length/\b.length=a.length+f/\b.length<=a.length+f/\iw c l1 a=iw c (r7 f l1) b
 refine v4 (λ i:Nat × (Option Addr) × Nat × (List di)=> [(30,vJ i.1),(29,vJ l1.length),(28, .slice M l1.length U),(0,vP p 0)]) aP (λ i=>l1.length - i.1) (0,u,x,a) ⟨rfl,rfl,rfl,rfl,trivial⟩ (K.2 ⟨aO,e8,e8,e8,rfl⟩) ?_
 rintro ⟨f,y,z,b⟩ bE ah
 show Wp _ _ _ [(30,vJ f),(29,vJ l1.length),(28, .slice M l1.length U),(0,vP p 0)] _ _
 obtain⟨B,bi,bn,bq,P⟩:=K.1 ah
 refine sr (Kz (.bool (decide ((f:Int) < (l1.length:Int)))) (nt (Gp ?_)))
 by_cases ai:(f:Int) < (l1.length:Int)
 obtain⟨t,Q⟩:=dI (ls:=l1) (i:=f) gT f5 (B.ro R) f2
 have aj:=drop_at Q
 refine jT (dT ai) (sk (Gp (bo (sr (fw (.pointer (some ⟨ab M,ao M+f *1,none⟩)) (GI (iC) rfl rfl ((B.ro R).addr (i:=f) e8) e8) (fw (vU t) (GH rfl (bS.one C4 (((B.ro R).elem gT Q f5).at_ (k:=0) rfl))) (An rfl (Gq (Mz rfl (Mz rfl (Kz (vP p 0) (Kz (vP p 4) (Lz (.slice y b.length z) B 0 Tryz.isAgg90 (Mz rfl (Kz (.agg #[vU t, .bool false]) ?_)))))))))))))))
 refine jE [vU t, .bool false] 216 2 1 B ?_
 intro aQ aR L
 replace L:=Own.upQ L
 replace L:Own w D aR [je aQ 1 1 (q0 di.cells ([(di.mk t false)])) 216 2,blk p [vP o 0, .slice h c.av.bE.ls.length j, .slice l c.av.aI.ls.length n, .bool c.av.bU, .slice y b.length z] 92,je y b.length z (q0 di.cells b) 216 2]:=L
 have ak:=L.pf [2]
 refine WL.do rfl (Do.appendQ (k:=b.length) (m:=1) (Ce) ak rfl rfl (eT O9 (ak.rdsQ (i:=1) rfl) (cB di.one ([(di.mk t false)]))) rfl e8 (s:=q5 (b++ [(di.mk t false)])) f4 (t2).symm ?_)
 intro au av bF aS
 have bu:q5 (b++ [(di.mk t false)])=b.length+1:=by simp only [m8,q6,H2]
 refine Kz (vP p 0) (Kz (vP p 4) ?_)
 have aT:=aS.pf [2]
 refine bY [.slice au (q5 (b++ [(di.mk t false)])) av] 4 aT Tryz.sizeOf90 ?_
 intro bG aU
 refine v8 (bN (Gs ?_))
 have aV:=aU.pk [0,1]
 refine Gq (fw (vJ (f+1)) (Gw (e:=v7.wrap ((f:Int)+1)) yk f1) (Mz rfl (v8 ?_)))
 have aW:=aV.pf []
 exact GL (f+1,au,av,(b++ [(di.mk t false)])) ⟨rfl,rfl,rfl,rfl,trivial⟩ (K.2 ⟨aW,e8,e8,e8,et (P) (et (congrArg (λ q=>iw c q b) aj) rfl)⟩) (by show l1.length - (f+1) < l1.length - f; omega)
 refine jF (dF ai) (v9 (GK ?_))
 have ax:iw c l1 a=b:=et (P) (et (congrArg (λ q=>iw c q b) (eP (ls:=l1) (i:=f) e8)) rfl)
 refine GK (GR (Hq (res0 rfl) ?_))
 have aX:=B.pf []
 obtain rfl:=zj hr zq2
 exact⟨y,z,rfl,aX,f0⟩
def gu (d:bJ) (f:Nat) (e:ax) (b:aZ):bJ × aZ:=
 bnd (ik b f) λ a=>bnd (kV d a.1 a.2.1) λ c=>(bJ.mk d.av (D4 c.bD.ls),a.2.2)
theorem nZ (w D U) (j:bJ) (z A B C E F p1 g) (a:ax) (n o p r s t u x y c) (b:aZ) (e f d) (V:bJ) (r1:aZ) (H:Own w D w [blk U [.pointer (some ⟨g,0,none⟩), .slice z j.av.bE.ls.length A, .slice B j.av.aI.ls.length C, .bool j.av.bU, .slice E j.bD.ls.length F] 92,je E j.bD.ls.length F (q0 di.cells j.bD.ls) 216 2,blk g [.int .i64 a.aa.bC, .int .u64 ((a.aa.aT:Nat):Int), .int .u64 ((a.aa.bv:Nat):Int), .int .u64 ((a.aa.aL:Nat):Int), .int .u64 ((a.aa.aG:Nat):Int), .slice n a.aa.ah.ls.length o, .slice p a.aa.ak.ls.length r, .slice s a.aa.af.ls.length t, .int .u64 ((a.aa.bi:Nat):Int), .int .u64 ((a.aa.aM:Nat):Int), .string ⟨u3 a.aa.aH.aO⟩, .string ⟨u3 a.aa.aH.aS⟩, .int .u64 ((a.aa.aF.aG:Nat):Int), .int .u64 ((a.aa.aF.bu:Nat):Int), .int .u64 ((a.aa.aF.dA:Nat):Int), .string ⟨u3 a.aa.aF.aB.aO⟩, .string ⟨u3 a.aa.aF.aB.aS⟩, .iface 24 (.pointer (some ⟨y,0,none⟩)), .slice u a.ag.ls.length x, .pointer (some ⟨c,0,none⟩), .pointer none] 80,blk c [.slice e b.ai.ls.length f] 114,row e b.ai.ls.length f (q0 ay.cells d) 164 6,sepL (q0 GU d)]) (h:r8 ay.abs d=b.ai.ls) (aS:j.bD.ls.length<=99000/\b.ai.ls.length<=12) (aT:jh b.ai.ls) (hr:gu j p1 a b=(V,r1)):
    Calls u2 89 #[vP U 0,vU p1] w (dG λ v w'=> ∃ G I J K k,v= .tuple #[]/\Own w D w' [blk U [vP g 0, .slice z j.av.bE.ls.length A, .slice B j.av.aI.ls.length C, .bool j.av.bU, .slice G V.bD.ls.length I] 92,je G V.bD.ls.length I (q0 di.cells V.bD.ls) 216 2,blk g [vI a.aa.bC,vU a.aa.aT,vU a.aa.bv,vU a.aa.aL,vU a.aa.aG, .slice n a.aa.ah.ls.length o, .slice p a.aa.ak.ls.length r, .slice s a.aa.af.ls.length t,vU a.aa.bi,vU a.aa.aM, .string ⟨u3 a.aa.aH.aO⟩, .string ⟨u3 a.aa.aH.aS⟩,vU a.aa.aF.aG,vU a.aa.aF.bu,vU a.aa.aF.dA, .string ⟨u3 a.aa.aF.aB.aO⟩, .string ⟨u3 a.aa.aF.aB.aS⟩, .iface 24 (vP y 0), .slice u a.ag.ls.length x,vP c 0, .pointer none] 80,blk c [.slice J r1.ai.ls.length K] 114,row J r1.ai.ls.length K (q0 ay.cells k) 164 6,sepL (q0 GU k)]/\(r8 ay.abs k=r1.ai.ls)/\(V.bD.ls.length<=j.bD.ls.length+24)):=by
 unfold gu at hr
 have M:=aW h
 have aA:=H.rowCQ (i:=1) rfl
 refine cb Tryz.func89 ?_
 refine Gq (Mz rfl (Mz rfl (Kz (vP U 0) (Kz (vP U 0) (Lz (vP g 0) H 0 P0 (Kz (vP g 0) (Kz (vP g 19) (Lz (vP c 0) H 2 Tryz.isAgg75 (Mz rfl ?_)))))))))
 have aB:=H.pb [0,1,2]
 obtain⟨⟨l,m,W⟩,N⟩:∃ q:(List Nat) × (List Nat) × aZ,ik b p1=q:=⟨_,rfl⟩
 obtain⟨aU,X,aK,Y,aL⟩:=H6 aB
 refine cl Tryz.call144 (uo _ _ c b e f d p1 l m W X h f9 (by first | assumption | exact jh.hd f6 | exact(Tk.snd f6).hd) (by first | assumption | exact Tk.snd f6) N) ?_
 rintro _ aV ⟨Z,aa,af,ag,aC,aD,aF,rfl,ah,O,P⟩
 have L:=Y _ _ ah
 have aM:=aW O
 have aN:=zr 0 L
 have aO:=zr 1 L
 have aP:=zr 3 L
 replace P:l.length<=12/\m.length<=12:=P
 refine Kz (.slice Z l.length aa) (Kz (.slice af m.length ag) ?_)
 have aG:=L.pf [5,6]
 obtain⟨T,Q⟩:∃ q,kV j l m=q:=⟨_,rfl⟩
 obtain⟨aX,ai,aQ,aj,R⟩:=Ht aG
 refine cl Tryz.call137 (qX _ _ U j z A B C E F g Z l.length aa l af m.length ag m T ai (R _ 0 _ rfl bQ) rfl e8 (R _ 1 _ rfl bQ) rfl e8 f0 Q) ?_
 rintro _ aY ⟨aH,aI,rfl,ak,S⟩
 have au:=aj _ _ ak
 have aR:=au.rowCQ (i:=1) rfl
 replace S:T.bD.ls.length=j.bD.ls.length+l.length+m.length:=S
 refine v8 (Hq (res0 rfl) ?_)
 have aJ:=au.pk [0,1,7,4,5,6]
 obtain⟨rfl,rfl⟩:=fC (zj hr zq2)
 exact⟨aH,aI,aC,aD,aF,rfl,aJ,O,f0⟩
def j5 (c:bJ) (d:Nat) (a:ax):bJ × ax:=
 bnd (eU a d) λ b=>(bJ.mk (dH.mk (D4 (c.av.bE.ls++ [(dM.mk 4 a.aa.bC 0 0 5 0 0 0 d 0 0 0 0 0 0 false (aj.mk [] []) (D4 []) (D4 []) (D4 []))])) (D4 c.av.aI.ls) c.av.bU) (D4 c.bD.ls),ax.mk a.aa (D4 b.ag.ls))
theorem tQ (w D J) (h:bJ) (O P j Q R S T g b) (a:ax) (l n p r u x z A e B C) (r0:bJ) (r1:ax) (H:Own w D w [blk J [.pointer (some ⟨b,0,none⟩), .slice O h.av.bE.ls.length P, .slice Q h.av.aI.ls.length R, .bool h.av.bU, .slice S h.bD.ls.length T] 92,row O h.av.bE.ls.length P (q0 bV.cells j) 47 21,sepL (q0 Hl j),blk b [.int .i64 a.aa.bC, .int .u64 ((a.aa.aT:Nat):Int), .int .u64 ((a.aa.bv:Nat):Int), .int .u64 ((a.aa.aL:Nat):Int), .int .u64 ((a.aa.aG:Nat):Int), .slice l a.aa.ah.ls.length n, .slice p a.aa.ak.ls.length r, .slice u a.aa.af.ls.length x, .int .u64 ((a.aa.bi:Nat):Int), .int .u64 ((a.aa.aM:Nat):Int), .string ⟨u3 a.aa.aH.aO⟩, .string ⟨u3 a.aa.aH.aS⟩, .int .u64 ((a.aa.aF.aG:Nat):Int), .int .u64 ((a.aa.aF.bu:Nat):Int), .int .u64 ((a.aa.aF.dA:Nat):Int), .string ⟨u3 a.aa.aF.aB.aO⟩, .string ⟨u3 a.aa.aF.aB.aS⟩, .iface 24 (.pointer (some ⟨B,0,none⟩)), .slice z a.ag.ls.length A, .pointer (some ⟨C,0,none⟩), .pointer none] 80,row z a.ag.ls.length A (q0 aR.cells e) 99 4,sepL (q0 G5 e)]) (F:r8 bV.abs j=h.av.bE.ls) (E:r8 aR.abs e=a.ag.ls) (bI:h.av.bE.ls.length<=100000/\a.ag.ls.length<=1000) (hr:j5 h g a=(r0,r1)):
    Calls u2 138 #[vP J 0,vU g] w (dG λ v w'=> ∃ K L G M N I,v= .tuple #[]/\Own w D w' [blk J [vP b 0, .slice K r0.av.bE.ls.length L, .slice Q h.av.aI.ls.length R, .bool h.av.bU, .slice S h.bD.ls.length T] 92,row K r0.av.bE.ls.length L (q0 bV.cells G) 47 21,sepL (q0 Hl G),blk b [vI a.aa.bC,vU a.aa.aT,vU a.aa.bv,vU a.aa.aL,vU a.aa.aG, .slice l a.aa.ah.ls.length n, .slice p a.aa.ak.ls.length r, .slice u a.aa.af.ls.length x,vU a.aa.bi,vU a.aa.aM, .string ⟨u3 a.aa.aH.aO⟩, .string ⟨u3 a.aa.aH.aS⟩,vU a.aa.aF.aG,vU a.aa.aF.bu,vU a.aa.aF.dA, .string ⟨u3 a.aa.aF.aB.aO⟩, .string ⟨u3 a.aa.aF.aB.aS⟩, .iface 24 (vP B 0), .slice M r1.ag.ls.length N,vP C 0, .pointer none] 80,row M r1.ag.ls.length N (q0 aR.cells I) 99 4,sepL (q0 G5 I)]/\(r8 bV.abs G=r0.av.bE.ls)/\(r8 aR.abs I=r1.ag.ls)/\(r0.av.bE.ls.length=h.av.bE.ls.length+1)):=by
 unfold j5 at hr
 have aJ:=aW F
 have aa:=aW E
 have aK:=zr 1 H
 have ag:=zr 4 H
 refine cb Tryz.func138 ?_
 refine sr (Mz rfl (Kz (vP J 0) (Kz (vP J 0) (Lz (vP b 0) H 0 P0 (Mz rfl ?_)))))
 have aL:=H.pb [0,1,2]
 obtain⟨ah,U⟩:∃ q,eU a g=q:=⟨_,rfl⟩
 obtain⟨bK,ai,bz,ak,bA⟩:=H6 aL
 refine cl Tryz.call87 (lY _ _ b a l n p r u x z A e B C g ah ai E f0 U) ?_
 rintro _ bN ⟨aM,aN,aO,rfl,au,V⟩
 have av:=ak _ _ au
 have bB:=aW V
 have bC:=zr 1 av
 refine nt (Gq (Mz rfl (Mz rfl (Kz (.agg (ic 4 0 0 0 5 0 0 0 g 0 0 0 0 0 0 false [] [] none 0 0 none 0 0 none 0 0).toArray) ?_))))
 refine WL.do rfl (GV Tryz.call81 rfl ?_ (λ _ _ k=>k))
 refine cb Tryz.func81 ?_
 refine sr ?_
 refine bW (ic 4 0 0 0 5 0 0 0 g 0 0 0 0 0 0 false [] [] none 0 0 none 0 0 none 0 0) 47 av ?_
 intro W bO X
 refine ns (Mz rfl (Kz (vP J 0) (Kz (vP J 0) (Lz (vP b 0) X 4 P0 (Kz (vP b 0) (Kz (vP b 0) (Kz (vP b 0) (Lz (vI a.aa.bC) X 1 Tryz.isAgg3 (Kz (vP W 1) ?_)))))))))
 refine bY [vI a.aa.bC] 1 X Tryz.sizeOf3 ?_
 intro bP ay
 refine ns (Kz (vP W 18) (Lz (.slice none 0 0) ay 0 C6 ?_))
 obtain⟨bQ,az,bD,aA,bE⟩:=Gr ay
 refine cl Tryz.call36 (iF _ _ none 0 0 [] [] az (λ _ _=>bM.nil _ _ _) rfl i5 rfl) ?_
 rintro _ bR ⟨c,d,rfl,aB⟩
 have aC:=aA _ _ aB
 have bF:=zr 0 aC
 refine Kz (vP W 18) ?_
 have aQ:=aC.pf [1]
 refine bY [.slice c 0 d] 18 aQ P1 ?_
 intro bS aS
 refine nt ?_
 refine l5 8 [8,12] GQ aS ?_
 intro bT aT
 refine Hf (v:=vP J 0) 0 rfl e9 (λ _=>Gv rfl) (qv 1 rfl rfl (qp J 0 2 rfl (qp J 1 3 rfl (qp J 1 4 rfl (ql 5 rfl 5 Tryz.isAgg50 rfl rfl rfl (qt (v:= .agg (ic 4 a.aa.bC 0 0 5 0 0 0 g 0 0 0 0 0 0 false [] [] c 0 d none 0 0 none 0 0).toArray) 6 rfl (λ _ ⟨_,H9⟩=>GH rfl (GJ (cs:=(ic 4 a.aa.bC 0 0 5 0 0 0 g 0 0 0 0 0 0 false [] [] c 0 d none 0 0 none 0 0)) Tryz.isAgg47 Tryz.sizeOf47 ((H9.cls (i:=0) rfl).lit (k:=0) (m:=21) rfl))) ?_))))))
 refine qd 7 rfl (Hw (cs:=(ic 4 a.aa.bC 0 0 5 0 0 0 g 0 0 0 0 0 0 false [] [] c 0 d none 0 0 none 0 0)) (t:=47) (sz:=21) (m:=1) aT rfl rfl (λ _=>by kernel_rfl) rfl f5 ?_)
 intro aU Y Z
 replace Z:=Ha (y:=row aU 1 1 (q0 bV.cells ([(bV.mk 4 a.aa.bC 0 0 5 0 0 0 g 0 0 0 0 0 0 false (aj.mk [] []) (L3 c d []) (L3 none 0 []) (L3 none 0 []))])) 47 21) rfl Z
 have aD:=Z.pb [0]
 refine⟨.inr ⟨_,aD⟩, ?_⟩
 have aV:Own w D Y (sepL (q0 G8 [])::_):=aD.sepNil
 have aX:Own w D Y (row none 0 0 (q0 aP.cells []) 70 3::_):=aV.free (bX 70 3)
 have aZ:Own w D Y (row none 0 0 (q0 bL.cells []) 83 2::_):=aX.free (bX 83 2)
 have aF:=aZ.pf [9,10,4,1]
 refine qd 8 rfl (GZ (k:=h.av.bE.ls.length) (m:=1) (tL) aF rfl rfl (eT P2 (aF.rds (i:=11) rfl) (cB bV.one ([(bV.mk 4 a.aa.bC 0 0 5 0 0 0 g 0 0 0 0 0 0 false (aj.mk [] []) (L3 c d []) (L3 none 0 []) (L3 none 0 []))]))) rfl e8 (s:=q5 (h.av.bE.ls++ [(dM.mk 4 a.aa.bC 0 0 5 0 0 0 g 0 0 0 0 0 0 false (aj.mk [] []) (D4 []) (D4 []) (D4 []))])) f4 (t2).symm ?_)
 intro aG aH bf bg
 have bi:=bg.pf [1,2,3,4,5]
 have bn:Own w D bf (sepL (q0 Hl (j++ [(bV.mk 4 a.aa.bC 0 0 5 0 0 0 g 0 0 0 0 0 0 false (aj.mk [] []) (L3 c d []) (L3 none 0 []) (L3 none 0 []))]))::_):=bi.sepAdd (L2:= [row c 0 d (q0 aY.cells []) 68 6,row none 0 0 (q0 aP.cells []) 70 3,row none 0 0 (q0 bL.cells []) 83 2,sepL (q0 G8 [])]) (t2 (f:=Hl) (xs:=j) (ys:= [(bV.mk 4 a.aa.bC 0 0 5 0 0 0 g 0 0 0 0 0 0 false (aj.mk [] []) (L3 c d []) (L3 none 0 []) (L3 none 0 []))])).symm
 have bG:q5 (h.av.bE.ls++ [(dM.mk 4 a.aa.bC 0 0 5 0 0 0 g 0 0 0 0 0 0 false (aj.mk [] []) (D4 []) (D4 []) (D4 []))])=h.av.bE.ls.length+1:=by simp only [m8,q6,H2]
 have bH:=aW (jy (es:= [(bV.mk 4 a.aa.bC 0 0 5 0 0 0 g 0 0 0 0 0 0 false (aj.mk [] []) (L3 c d []) (L3 none 0 []) (L3 none 0 []))]) (ms:= [(dM.mk 4 a.aa.bC 0 0 5 0 0 0 g 0 0 0 0 0 0 false (aj.mk [] []) (D4 []) (D4 []) (D4 []))]) F rfl)
 refine⟨.inl e9, ?_⟩
 refine Hf (v:=vP J 0) 9 rfl e9 (λ _=>yk) (Hf (v:=vP J 1) 10 rfl e9 (λ _=>yk) (Hf (v:=vP J 1) 11 rfl e9 (λ _=>yk) ?_))
 have bq:=bn.pf [6]
 refine qe 12 rfl (Do.store (vs:= [.slice aG (q5 (h.av.bE.ls++ [(dM.mk 4 a.aa.bC 0 0 5 0 0 0 g 0 0 0 0 0 0 false (aj.mk [] []) (D4 []) (D4 []) (D4 []))])) aH]) (o:=1) bq rfl rfl Tryz.sizeOf50 rfl rfl rfl rfl ?_)
 intro bZ bu
 refine⟨.inl e9, ?_⟩
 refine qn (Hq (res0 rfl) (v8 (Hq (res0 rfl) ?_)))
 have bv:=bu.px [0,2] [3,7] []
 obtain⟨rfl,rfl⟩:=fC (zj hr zq1)
 exact⟨aG,aH,(j++ [(bV.mk 4 a.aa.bC 0 0 5 0 0 0 g 0 0 0 0 0 0 false (aj.mk [] []) (L3 c d []) (L3 none 0 []) (L3 none 0 []))]),aM,aN,aO,rfl,bv,(jy (es:= [(bV.mk 4 a.aa.bC 0 0 5 0 0 0 g 0 0 0 0 0 0 false (aj.mk [] []) (L3 c d []) (L3 none 0 []) (L3 none 0 []))]) (ms:= [(dM.mk 4 a.aa.bC 0 0 5 0 0 0 g 0 0 0 0 0 0 false (aj.mk [] []) (D4 []) (D4 []) (D4 []))]) F rfl),V,f0⟩
def jC:List aA->List aY->(List aY)
  | [],a=>a
  | b::c,a=>jC c (a++ [(aY.mk 2 b.aX b.aN [] [] 0)])
def iI (g:bJ) (l1:List aY) (b:ax) (a:StoreT):List aY->List aY->(List aY)
  | [],c=>c
  | e::f,c=>bnd (pJ b e a) λ d=>bnd (jC d.1 c) λ sLrLsbL=>iI g l1 b a f sLrLsbL
def pK (d:bJ) (l1:List aY) (c:ax) (b:StoreT):(List cZ) × Int:=
 bnd (iI d l1 c b l1 []) λ sLrL=>bnd (tJ [] ((sLrL++d.av.aI.ls)++l1)) λ a=>if a.2.2=0 then((r7 ((q5 ((sLrL++d.av.aI.ls)++l1)) - l1.length) a.2.1),0) else(([]:List cZ),a.2.2)
theorem uX (w D R) (d:bJ) (N O I J P Q Z n1 c1 l1 p) (a:ax) (u x z A B C E F G g) (b:StoreT) (h f r0 r1) (H:Own w D w [blk R [.pointer (some ⟨p,0,none⟩), .slice N d.av.bE.ls.length O, .slice I d.av.aI.ls.length J, .bool d.av.bU, .slice P d.bD.ls.length Q] 92,blk p [.int .i64 a.aa.bC, .int .u64 ((a.aa.aT:Nat):Int), .int .u64 ((a.aa.bv:Nat):Int), .int .u64 ((a.aa.aL:Nat):Int), .int .u64 ((a.aa.aG:Nat):Int), .slice u a.aa.ah.ls.length x, .slice z a.aa.ak.ls.length A, .slice B a.aa.af.ls.length C, .int .u64 ((a.aa.bi:Nat):Int), .int .u64 ((a.aa.aM:Nat):Int), .string ⟨u3 a.aa.aH.aO⟩, .string ⟨u3 a.aa.aH.aS⟩, .int .u64 ((a.aa.aF.aG:Nat):Int), .int .u64 ((a.aa.aF.bu:Nat):Int), .int .u64 ((a.aa.aF.dA:Nat):Int), .string ⟨u3 a.aa.aF.aB.aO⟩, .string ⟨u3 a.aa.aF.aB.aS⟩, .iface 24 (.pointer (some ⟨g,0,none⟩)), .slice E a.ag.ls.length F, .pointer (some ⟨G,0,none⟩), .pointer none] 80,blk g [.slice h b.xM.ls.length f] 27]) (aT:Ro w D λ w'=>bM w' 6 I d.av.aI.ls.length (q0 aY.cells d.av.aI.ls)) (dC:d.av.aI.ls.length<=J/\d.av.aI.ls.length<=9223372036854775807) (aB:Ro w D λ w'=>bM w' 6 Z n1 (q0 aY.cells l1)) (dD:n1=l1.length) (fM:l1.length *80<=211106232532992) (S:Ro w D λ w'=>bM w' 2 h b.xM.ls.length (q0 aA.cells b.xM.ls)) (aU:b.xM.ls.length<=f/\b.xM.ls.length<=9223372036854775807) (fO:l1.length<=24/\d.av.aI.ls.length<=1000/\b.xM.ls.length<=4000) (hr:pK d l1 a b=(r0,r1)):
    Calls u2 130 #[vP R 0, .slice Z n1 c1] w (dG λ v w'=> ∃ B0 b0 e0,v= .tuple #[.slice B0 r0.length b0,vI r1]/\Own w D w' [row B0 r0.length b0 (q0 aP.cells e0) 70 3,sepL (q0 G8 e0),blk R [vP p 0, .slice N d.av.bE.ls.length O, .slice I d.av.aI.ls.length J, .bool d.av.bU, .slice P d.bD.ls.length Q] 92,blk p [vI a.aa.bC,vU a.aa.aT,vU a.aa.bv,vU a.aa.aL,vU a.aa.aG, .slice u a.aa.ah.ls.length x, .slice z a.aa.ak.ls.length A, .slice B a.aa.af.ls.length C,vU a.aa.bi,vU a.aa.aM, .string ⟨u3 a.aa.aH.aO⟩, .string ⟨u3 a.aa.aH.aS⟩,vU a.aa.aF.aG,vU a.aa.aF.bu,vU a.aa.aF.dA, .string ⟨u3 a.aa.aF.aB.aO⟩, .string ⟨u3 a.aa.aF.aB.aS⟩, .iface 24 (vP g 0), .slice E a.ag.ls.length F,vP G 0, .pointer none] 80,blk g [.slice h b.xM.ls.length f] 27]/\(r8 aP.abs e0=r0)/\(r0.length<=24)):=by
 unfold pK at hr
 subst dD
 refine cb Tryz.func130 ?_
 refine sr (Az rfl (Ar rfl (An rfl (Gp (sr (Mz rfl (Kz (vJ l1.length) (Mn rfl (bo ?_)))))))))
 have dH:Own w D w [row none 0 0 (q0 aY.cells []) 68 6,blk R [vP p 0, .slice N d.av.bE.ls.length O, .slice I d.av.aI.ls.length J, .bool d.av.bU, .slice P d.bD.ls.length Q] 92,blk p [vI a.aa.bC,vU a.aa.aT,vU a.aa.bv,vU a.aa.aL,vU a.aa.aG, .slice u a.aa.ah.ls.length x, .slice z a.aa.ak.ls.length A, .slice B a.aa.af.ls.length C,vU a.aa.bi,vU a.aa.aM, .string ⟨u3 a.aa.aH.aO⟩, .string ⟨u3 a.aa.aH.aS⟩,vU a.aa.aF.aG,vU a.aa.aF.bu,vU a.aa.aF.dA, .string ⟨u3 a.aa.aF.aB.aO⟩, .string ⟨u3 a.aa.aF.aB.aS⟩, .iface 24 (vP g 0), .slice E a.ag.ls.length F,vP G 0, .pointer none] 80,blk g [.slice h b.xM.ls.length f] 27]:=H.free (bX 68 6)
 have dJ:=dH.pb [0]
 obtain⟨dK,aa⟩:=vk λ aC (aD:Nat) c (l:Nat) w'=>Own w D w' [blk R [vP p 0, .slice N d.av.bE.ls.length O, .slice I d.av.aI.ls.length J, .bool d.av.bU, .slice P d.bD.ls.length Q] 92,blk p [vI a.aa.bC,vU a.aa.aT,vU a.aa.bv,vU a.aa.aL,vU a.aa.aG, .slice u a.aa.ah.ls.length x, .slice z a.aa.ak.ls.length A, .slice B a.aa.af.ls.length C,vU a.aa.bi,vU a.aa.aM, .string ⟨u3 a.aa.aH.aO⟩, .string ⟨u3 a.aa.aH.aS⟩,vU a.aa.aF.aG,vU a.aa.aF.bu,vU a.aa.aF.dA, .string ⟨u3 a.aa.aF.aB.aO⟩, .string ⟨u3 a.aa.aF.aB.aS⟩, .iface 24 (vP g 0), .slice E a.ag.ls.length F,vP G 0, .pointer none] 80,blk g [.slice h b.xM.ls.length f] 27,row aC c.length aD (q0 aY.cells c) 68 6]/\l<=l1.length/\c.length<=4000 *l/\iI d l1 a b l1 []=iI d l1 a b (r7 l l1) c
 refine v4 (λ i:(Option Addr) × Nat × (List aY) × Nat=> [(4, .slice none 0 0),(5,vI 0),(6, .slice i.1 i.2.2.1.length i.2.1),(18,vJ i.2.2.2),(17,vJ l1.length),(16, .slice Z l1.length c1),(0,vP R 0),(1, .slice Z l1.length c1)]) dK (λ i=>l1.length - i.2.2.2) (none,0, [],0) ⟨rfl,rfl,rfl,rfl,rfl,rfl,rfl,rfl,trivial⟩ (aa.2 ⟨dJ,(show 0<=l1.length/\0<=4000 *0/\iI d l1 a b l1 []=iI d l1 a b (r7 0 l1) [] from ⟨e8,e8,rfl⟩)⟩) ?_
 rintro ⟨aC,aD,c,l⟩ fP bA
 show Wp _ _ _ [(4, .slice none 0 0),(5,vI 0),(6, .slice aC c.length aD),(18,vJ l),(17,vJ l1.length),(16, .slice Z l1.length c1),(0,vP R 0),(1, .slice Z l1.length c1)] _ _
 obtain⟨W,eY,eZ,aI⟩:=aa.1 bA
 refine sr (Kz (.bool (decide ((l:Int) < (l1.length:Int)))) (nt (Gp ?_)))
 by_cases bB:(l:Int) < (l1.length:Int)
 obtain⟨T,aJ⟩:=dI (ls:=l1) (i:=l) aY.len f5 (W.ro aB) f2
 have bC:=drop_at aJ
 refine jT (dT bB) (sk (Gp (bo (sr (fw (.pointer (some ⟨ab Z,ao Z+l *6,none⟩)) (GI (nD) rfl rfl ((W.ro aB).addr (i:=l) e8) e8) (fw (.agg (aY.cells T).toArray) (GH rfl (GJ (cs:=(aY.cells T)) B3 y6 ((W.ro aB).elem aY.len aJ f5))) ?_))))))
 refine bW [vI 0, .string ⟨u3 []⟩, .string ⟨u3 []⟩, .string ⟨u3 []⟩, .string ⟨u3 []⟩,vI 0] 68 W ?_
 intro fQ fT dL
 refine bY (aY.cells T) 0 dL y6 ?_
 intro fU dM
 refine nt (Gp ?_)
 refine Ec [] (GD (bH.block (GD (GD (bH.block (GD GQ)))))) dM ?_
 intro fV dN
 refine qv 0 rfl rfl (qp R 0 1 rfl (qp R 0 2 rfl (ql 3 rfl 1 P0 rfl rfl rfl (qt (v:= .agg (aY.cells T).toArray) 4 rfl (λ _ ⟨_,H9⟩=>GH rfl (GJ (cs:=(aY.cells T)) B3 y6 ((H9.cls (i:=0) rfl).lit (k:=0) (m:=6) rfl))) ?_))))
 have dO:=dN.pf [2,3]
 obtain⟨⟨j,X⟩,aK⟩:∃ q:(List aA) × Int,pJ a T b=q:=⟨_,rfl⟩
 obtain⟨gm,bD,bE,bF,fe⟩:=Ht dO
 refine qd 5 rfl (GV Tryz.call176 rfl (uW _ _ p a u x z A B C E F G T g b h f j X bD (bE _ S) e8 f0 aK) ?_)
 rintro _ gp ⟨Y,aF,rfl,bG,aL⟩
 have bI:=bF _ _ bG
 have fo:=zr 0 bI
 replace aL:X=0/\j.length<=4000:=aL
 have bK:=bI.px [3,4] [] [0]
 refine⟨.inr ⟨_,bK⟩, ?_⟩
 refine qv 6 rfl rfl (qk (.slice Y j.length aF) 7 rfl (qk (vI X) 8 rfl (qa 9 rfl rfl (qa 10 rfl rfl (qn (Gs (Gp (Gp ?_))))))))
 have dP:=bK.px [] [0] []
 refine Gq (Mz rfl (fw (.bool (decide (¬ (X=0)))) (GN (e:= !(decide (X=0))) yk decide_not.symm) (nt ?_)))
 have bL:(decide (¬ (X=0)))=false:=(dF e8)
 refine jF bL (sk (sr (Mz rfl (Kz (vJ j.length) (Mn rfl (bo ?_))))))
 have dQ:=dP.pb [3]
 obtain⟨dR,af⟩:=vk λ aG (aH:Nat) r (o:Nat) w'=>Own w D w' [blk R [vP p 0, .slice N d.av.bE.ls.length O, .slice I d.av.aI.ls.length J, .bool d.av.bU, .slice P d.bD.ls.length Q] 92,blk p [vI a.aa.bC,vU a.aa.aT,vU a.aa.bv,vU a.aa.aL,vU a.aa.aG, .slice u a.aa.ah.ls.length x, .slice z a.aa.ak.ls.length A, .slice B a.aa.af.ls.length C,vU a.aa.bi,vU a.aa.aM, .string ⟨u3 a.aa.aH.aO⟩, .string ⟨u3 a.aa.aH.aS⟩,vU a.aa.aF.aG,vU a.aa.aF.bu,vU a.aa.aF.dA, .string ⟨u3 a.aa.aF.aB.aO⟩, .string ⟨u3 a.aa.aF.aB.aS⟩, .iface 24 (vP g 0), .slice E a.ag.ls.length F,vP G 0, .pointer none] 80,blk g [.slice h b.xM.ls.length f] 27,row Y j.length aF (q0 aA.cells j) 101 2,row aG r.length aH (q0 aY.cells r) 68 6]/\o<=j.length/\r.length=c.length+o/\r.length<=c.length+o/\r.length<=4000 *l+o/\jC j c=jC (r7 o j) r
 refine v4 (λ i:(Option Addr) × Nat × (List aY) × Nat=> [(6, .slice i.1 i.2.2.1.length i.2.1),(36,vJ i.2.2.2),(35,vJ j.length),(34, .slice Y j.length aF),(4, .slice none 0 0),(5,vI 0),(18,vJ l),(17,vJ l1.length),(16, .slice Z l1.length c1),(0,vP R 0),(1, .slice Z l1.length c1)]) dR (λ i=>j.length - i.2.2.2) (aC,aD,c,0) ⟨rfl,rfl,rfl,rfl,rfl,rfl,rfl,rfl,rfl,rfl,rfl,trivial⟩ (af.2 ⟨dQ,e8,e8,e8,e8,rfl⟩) ?_
 rintro ⟨aG,aH,r,o⟩ gq bO
 show Wp _ _ _ [(6, .slice aG r.length aH),(36,vJ o),(35,vJ j.length),(34, .slice Y j.length aF),(4, .slice none 0 0),(5,vI 0),(18,vJ l),(17,vJ l1.length),(16, .slice Z l1.length c1),(0,vP R 0),(1, .slice Z l1.length c1)] _ _
 obtain⟨ag,fq,fu,fA,fB,aM⟩:=af.1 bO
 refine sr (Kz (.bool (decide ((o:Int) < (j.length:Int)))) (nt (Gp ?_)))
 by_cases bP:(o:Int) < (j.length:Int)
 obtain⟨n,aN⟩:=dI (ls:=j) (i:=o) aA.len f5 (ag.rds (i:=3) rfl) f2
 have bR:=drop_at aN
 refine jT (dT bP) (sk (Gp (bo (sr (fw (.pointer (some ⟨ab Y,ao Y+o *2,none⟩)) (GI (iK) rfl rfl ((ag.rds (i:=3) rfl).addr (i:=o) e8) e8) (fw (.agg (aA.cells n).toArray) (GH rfl (GJ (cs:=(aA.cells n)) Tryz.isAgg101 Tryz.sizeOf101 ((ag.rds (i:=3) rfl).elem aA.len aN f5))) ?_))))))
 refine bW [.string ⟨u3 []⟩, .string ⟨u3 []⟩] 101 ag ?_
 intro bS gu dS
 refine bY (aA.cells n) 0 dS Tryz.sizeOf101 ?_
 intro gy aV
 refine nt (Gq (Mz rfl (Kz (vP bS 0) (Lz (.string ⟨u3 n.aX⟩) aV 0 Tryz.isAgg9 (Kz (vP bS 1) (Lz (.string ⟨u3 n.aN⟩) aV 0 Tryz.isAgg9 (Kz (.agg #[vI 2, .string ⟨u3 n.aX⟩, .string ⟨u3 n.aN⟩, .string ⟨u3 []⟩, .string ⟨u3 []⟩,vI 0]) ?_)))))))
 refine jE [vI 2, .string ⟨u3 n.aX⟩, .string ⟨u3 n.aN⟩, .string ⟨u3 []⟩, .string ⟨u3 []⟩,vI 0] 68 6 1 aV ?_
 intro dU gz aX
 replace aX:=Ha (y:=row dU 1 1 (q0 aY.cells ([(aY.mk 2 n.aX n.aN [] [] 0)])) 68 6) rfl aX
 have bT:=aX.pf [6]
 refine WL.do rfl (GZ (k:=r.length) (m:=1) (nD) bT rfl rfl (eT O2 (bT.rds (i:=1) rfl) (cB aY.one ([(aY.mk 2 n.aX n.aN [] [] 0)]))) rfl e8 (s:=q5 (r++ [(aY.mk 2 n.aX n.aN [] [] 0)])) f4 (t2).symm ?_)
 intro dV dW gB dX
 have fD:q5 (r++ [(aY.mk 2 n.aX n.aN [] [] 0)])=r.length+1:=by simp only [m8,q6,H2]
 refine Az rfl (v8 (bN (Gs ?_)))
 have bU:=dX.px [] [1,2] []
 refine Gq (fw (vJ (o+1)) (Gw (e:=v7.wrap ((o:Int)+1)) yk f1) (Mz rfl (v8 ?_)))
 have bV:=bU.pb [0]
 exact GL (dV,dW,(r++ [(aY.mk 2 n.aX n.aN [] [] 0)]),o+1) ⟨rfl,rfl,rfl,rfl,rfl,rfl,rfl,rfl,rfl,rfl,rfl,trivial⟩ (af.2 ⟨bV,e8,e8,e8,e8,et (aM) (et (congrArg (λ q=>jC q r) bR) rfl)⟩) (by show j.length - (o+1) < j.length - o; omega)
 refine jF (dF bP) (v9 (GK ?_))
 have aZ:jC j c=r:=et (aM) (et (congrArg (λ q=>jC q r) (eP (ls:=j) (i:=o) e8)) rfl)
 refine GK (GR (bN (Gs ?_)))
 have bZ:=ag.px [] [3] []
 refine Gq (fw (vJ (l+1)) (Gw (e:=v7.wrap ((l:Int)+1)) yk f1) (Mz rfl (v8 ?_)))
 have cu:=bZ.pf []
 exact GL (aG,aH,r,l+1) ⟨rfl,rfl,rfl,rfl,rfl,rfl,rfl,rfl,trivial⟩ (aa.2 ⟨cu,e8,e8,et (aI) (et (congrArg (λ q=>iI d l1 a b q c) bC) (et (ae aK) (ae aZ)))⟩) (by show l1.length - (l+1) < l1.length - l; omega)
 refine jF (dF bB) (v9 (GK ?_))
 have ah:iI d l1 a b l1 []=c:=et (aI) (et (congrArg (λ q=>iI d l1 a b q c) (eP (ls:=l1) (i:=l) e8)) rfl)
 refine GK (GR (Gs (sr (Mz rfl (Mz rfl (Kz (vP R 0) (Kz (vP R 1) (Kz (vP R 2) (Lz (.slice I d.av.aI.ls.length J) W 0 C6 ?_)))))))))
 have aO:=W.pf [3]
 refine WL.do rfl (GZ (k:=c.length) (m:=d.av.aI.ls.length) (nD) aO rfl rfl (eT O2 (aO.ro aT) (cB aY.one d.av.aI.ls)) rfl e8 (s:=q5 (c++d.av.aI.ls)) f4 (t2).symm ?_)
 intro fE fF fG aQ
 have dY:q5 (c++d.av.aI.ls)=c.length+d.av.aI.ls.length:=by simp only [m8,q6,H2]
 refine Mz rfl ?_
 refine WL.do rfl (GZ (k:=q5 (c++d.av.aI.ls)) (m:=l1.length) (nD) aQ rfl rfl (eT O2 (aQ.ro aB) (cB aY.one l1)) rfl e8 (s:=q5 ((c++d.av.aI.ls)++l1)) f4 (t2).symm ?_)
 intro cz cK fH cO
 have dZ:q5 ((c++d.av.aI.ls)++l1)=(q5 (c++d.av.aI.ls))+l1.length:=by simp only [m8,q6,H2]
 refine Ar rfl (Mz rfl ?_)
 obtain⟨⟨ai,t,K⟩,L⟩:∃ q:(List aA) × (List cZ) × Int,tJ [] ((c++d.av.aI.ls)++l1)=q:=⟨_,rfl⟩
 obtain⟨fI,bf,d9,bg,bi⟩:=Gr cO
 refine cl Tryz.call177 (AV _ _ none 0 0 [] cz (q5 ((c++d.av.aI.ls)++l1)) cK ((c++d.av.aI.ls)++l1) ai t K bf (λ _ _=>bM.nil _ _ _) rfl i5 (bi _ 0 _ rfl bQ) rfl i6 i0 L) ?_
 rintro _ aR ⟨df,dh,aj,U,ak,rfl,bn,M,au,av⟩
 have ay:=bg _ _ bn
 have ed:=aW M
 have ek:=zr 0 ay
 have eB:=zr 1 ay
 replace au:ai.length<=0+q5 ((c++d.av.aI.ls)++l1):=au
 replace av:t.length<=q5 ((c++d.av.aI.ls)++l1):=av
 have eD: ¬ (K=0)\/t.length=q5 ((c++d.av.aI.ls)++l1):=CZ L
 refine Mz rfl (Kz (.slice df ai.length dh) (Kz (.slice aj t.length U) (Kz (vI K) (Az rfl (Az rfl (An rfl (Gp (Gp ?_))))))))
 have aS:=ay.px [] [0] []
 refine Gq (Mz rfl (fw (.bool (decide (¬ (K=0)))) (GN (e:= !(decide (K=0))) yk decide_not.symm) (nt ?_)))
 by_cases V:K=0
 refine jF (dF (Ko V)) (sk (sr (Mz rfl (Mz rfl (Kz (vI ((q5 ((c++d.av.aI.ls)++l1):Nat):Int)) (Mz rfl (Kz (vJ l1.length) (fw (vI (((q5 ((c++d.av.aI.ls)++l1)) - l1.length:Nat):Int)) (Gw (e:=v7.wrap (((q5 ((c++d.av.aI.ls)++l1):Nat):Int) - (l1.length:Int))) yk f1) (fw (.slice (eu aj ((q5 ((c++d.av.aI.ls)++l1)) - l1.length) 3 U) (t.length - ((q5 ((c++d.av.aI.ls)++l1)) - l1.length)) (U - ((q5 ((c++d.av.aI.ls)++l1)) - l1.length))) (G6 (ui) rfl rfl e8) ?_)))))))))
 obtain⟨fJ,bq,eF,bu,eG⟩:=Ht aS
 refine cl Tryz.call178 (Cc _ _ aj t.length U ak t ((q5 ((c++d.av.aI.ls)++l1)) - l1.length) bq rfl M e8 e8 e8) ?_
 rintro _ fK ⟨di,dm,rfl,bv⟩
 have dn:=bu _ _ bv
 have eH:q5 (r7 ((q5 ((c++d.av.aI.ls)++l1)) - l1.length) t)=t.length - ((q5 ((c++d.av.aI.ls)++l1)) - l1.length):=by rw [List.length_drop]
 have eO:q5 (r7 ((q5 ((c++d.av.aI.ls)++l1)) - l1.length) ak)=q5 (r7 ((q5 ((c++d.av.aI.ls)++l1)) - l1.length) t):=by exact aW (by rw [List.map_drop,M])
 refine Az rfl (An rfl (rt (GM (j6 rfl rfl rfl) ?_)))
 have dw:=dn.px [] [2] []
 obtain⟨rfl,rfl⟩:=fC (zj hr zq3)
 exact⟨di,dm,(r7 ((q5 ((c++d.av.aI.ls)++l1)) - l1.length) ak),rfl,dw,(by rw [List.map_drop,M]),f0⟩
 refine jT (dT V) (sr (Mz rfl (Az rfl (An rfl (rt (tR (GM (j6 rfl rfl rfl) ?_)))))))
 have dx:Own w D aR (sepL (q0 G8 [])::_):=aS.sepNil
 have dz:Own w D aR (row none 0 0 (q0 aP.cells []) 70 3::_):=dx.free (bX 70 3)
 have dA:=dz.pk [0,1,5,6,7]
 obtain⟨rfl,rfl⟩:=fC (zj hr zq3)
 exact⟨none,0, [],rfl,dA,rfl,f0⟩
def ji (d:bJ) (e:dD) (c:ax) (b:StoreT):Int × bJ:=
 bnd (pK d e.aJ.ls c b) λ a=>if a.2=0 then(0,bJ.mk (dH.mk (D4 (d.av.bE.ls++ [(dM.mk 4 c.aa.bC 0 0 3 0 0 0 e.aV 0 0 0 0 0 0 false (aj.mk [] []) (D4 []) (D4 a.1) (D4 []))])) (D4 d.av.aI.ls) d.av.bU) (D4 d.bD.ls)) else(a.2,d)
theorem qO (w D W) (h:bJ) (T U z V N Y Z) (d:dD) (O au P n) (a:ax) (B C E F G I J K L p) (b:StoreT) (g c r0) (r1:bJ) (H:Own w D w [blk W [.pointer (some ⟨n,0,none⟩), .slice T h.av.bE.ls.length U, .slice V h.av.aI.ls.length N, .bool h.av.bU, .slice Y h.bD.ls.length Z] 92,row T h.av.bE.ls.length U (q0 bV.cells z) 47 21,sepL (q0 Hl z),blk n [.int .i64 a.aa.bC, .int .u64 ((a.aa.aT:Nat):Int), .int .u64 ((a.aa.bv:Nat):Int), .int .u64 ((a.aa.aL:Nat):Int), .int .u64 ((a.aa.aG:Nat):Int), .slice B a.aa.ah.ls.length C, .slice E a.aa.ak.ls.length F, .slice G a.aa.af.ls.length I, .int .u64 ((a.aa.bi:Nat):Int), .int .u64 ((a.aa.aM:Nat):Int), .string ⟨u3 a.aa.aH.aO⟩, .string ⟨u3 a.aa.aH.aS⟩, .int .u64 ((a.aa.aF.aG:Nat):Int), .int .u64 ((a.aa.aF.bu:Nat):Int), .int .u64 ((a.aa.aF.dA:Nat):Int), .string ⟨u3 a.aa.aF.aB.aO⟩, .string ⟨u3 a.aa.aF.aB.aS⟩, .iface 24 (.pointer (some ⟨p,0,none⟩)), .slice J a.ag.ls.length K, .pointer (some ⟨L,0,none⟩), .pointer none] 80,blk p [.slice g b.xM.ls.length c] 27]) (M:r8 bV.abs z=h.av.bE.ls) (ay:Ro w D λ w'=>bM w' 6 V h.av.aI.ls.length (q0 aY.cells h.av.aI.ls)) (bi:h.av.aI.ls.length<=N/\h.av.aI.ls.length<=9223372036854775807) (az:au=d.aJ.ls.length) (aB:Ro w D λ w'=>bM w' 6 O d.aJ.ls.length (q0 aY.cells d.aJ.ls)) (bn:d.aJ.ls.length<=P/\d.aJ.ls.length<=9223372036854775807) (R:Ro w D λ w'=>bM w' 2 g b.xM.ls.length (q0 aA.cells b.xM.ls)) (aC:b.xM.ls.length<=c/\b.xM.ls.length<=9223372036854775807) (df:h.av.bE.ls.length<=100000/\d.aJ.ls.length<=24/\h.av.aI.ls.length<=1000/\b.xM.ls.length<=4000) (hr:ji h d a b=(r0,r1)):
    Calls u2 78 #[vP W 0, .agg #[vU d.aV, .slice O au P]] w (dG λ v w'=> ∃ aa af S,v=vI r0/\Own w D w' [blk W [vP n 0, .slice aa r1.av.bE.ls.length af, .slice V h.av.aI.ls.length N, .bool h.av.bU, .slice Y h.bD.ls.length Z] 92,row aa r1.av.bE.ls.length af (q0 bV.cells S) 47 21,sepL (q0 Hl S),blk n [vI a.aa.bC,vU a.aa.aT,vU a.aa.bv,vU a.aa.aL,vU a.aa.aG, .slice B a.aa.ah.ls.length C, .slice E a.aa.ak.ls.length F, .slice G a.aa.af.ls.length I,vU a.aa.bi,vU a.aa.aM, .string ⟨u3 a.aa.aH.aO⟩, .string ⟨u3 a.aa.aH.aS⟩,vU a.aa.aF.aG,vU a.aa.aF.bu,vU a.aa.aF.dA, .string ⟨u3 a.aa.aF.aB.aO⟩, .string ⟨u3 a.aa.aF.aB.aS⟩, .iface 24 (vP p 0), .slice J a.ag.ls.length K,vP L 0, .pointer none] 80,blk p [.slice g b.xM.ls.length c] 27]/\(r8 bV.abs S=r1.av.bE.ls)/\(r1.av.bE.ls.length<=h.av.bE.ls.length+1)):=by
 unfold ji at hr
 subst az
 have bg:=aW M
 have bq:=zr 1 H
 refine cb Tryz.func78 ?_
 refine sr ?_
 refine bW [vU d.aV, .slice O d.aJ.ls.length P] 60 H ?_
 intro aI dh aJ
 refine Ar rfl (Mz rfl (Kz (vP aI 1) (Lz (.slice O d.aJ.ls.length P) aJ 0 C6 ?_)))
 have bu:=aJ.pb [0,2,3]
 obtain⟨⟨r,X⟩,ag⟩:∃ q:(List cZ) × Int,pK h d.aJ.ls a b=q:=⟨_,rfl⟩
 obtain⟨di,aK,ah,aL,bS⟩:=H6 bu
 refine cl Tryz.call130 (uX _ _ W h T U V N Y Z O d.aJ.ls.length P d.aJ.ls n a B C E F G I J K L p b g c r X aK (ah _ ay) e8 (ah _ aB) rfl e8 (ah _ R) e8 f0 ag) ?_
 rintro _ dm ⟨j,l,A,rfl,aM,Q,av⟩
 have ai:=aL _ _ aM
 have bT:=aW Q
 have bU:=zr 0 ai
 replace av:r.length<=24:=av
 refine Mz rfl (Kz (.slice j r.length l) (Kz (vI X) (Az rfl (An rfl (Gp (sr (Mz rfl (fw (.bool (decide (¬ (X=0)))) (GN (e:= !(decide (X=0))) yk decide_not.symm) (nt ?_)))))))))
 by_cases ak:X=0
 refine jF (dF (Ko ak)) (sk (sr (Mz rfl (Kz (vP aI 0) (Lz (vU d.aV) ai 5 C4 (Mz rfl (Kz (.agg (ic 4 0 0 0 3 0 0 0 d.aV 0 0 0 0 0 0 false [] [] none 0 0 j r.length l none 0 0).toArray) ?_)))))))
 refine WL.do rfl (GV Tryz.call81 rfl ?_ (λ _ _ k=>k))
 refine cb Tryz.func81 ?_
 refine sr ?_
 refine bW (ic 4 0 0 0 3 0 0 0 d.aV 0 0 0 0 0 0 false [] [] none 0 0 j r.length l none 0 0) 47 ai ?_
 intro aD dn aF
 refine ns (Mz rfl (Kz (vP W 0) (Kz (vP W 0) (Lz (vP n 0) aF 3 P0 (Kz (vP n 0) (Kz (vP n 0) (Kz (vP n 0) (Lz (vI a.aa.bC) aF 4 Tryz.isAgg3 (Kz (vP aD 1) ?_)))))))))
 refine bY [vI a.aa.bC] 1 aF Tryz.sizeOf3 ?_
 intro dw aN
 refine ns (Kz (vP aD 18) (Lz (.slice none 0 0) aN 0 C6 ?_))
 obtain⟨dx,aO,bZ,aQ,cu⟩:=Gr aN
 refine cl Tryz.call36 (iF _ _ none 0 0 [] [] aO (λ _ _=>bM.nil _ _ _) rfl i5 rfl) ?_
 rintro _ dz ⟨u,x,rfl,aR⟩
 have aS:=aQ _ _ aR
 have cz:=zr 0 aS
 refine Kz (vP aD 18) ?_
 have bv:=aS.pf [1]
 refine bY [.slice u 0 x] 18 bv P1 ?_
 intro dA bz
 refine nt ?_
 refine l5 10 [8,12] GQ bz ?_
 intro dB bA
 refine Hf (v:=vP W 0) 0 rfl e9 (λ _=>Gv rfl) (qv 1 rfl rfl (qp W 0 2 rfl (qp W 1 3 rfl (qp W 1 4 rfl (ql 5 rfl 4 Tryz.isAgg50 rfl rfl rfl (qt (v:= .agg (ic 4 a.aa.bC 0 0 3 0 0 0 d.aV 0 0 0 0 0 0 false [] [] u 0 x j r.length l none 0 0).toArray) 6 rfl (λ _ ⟨_,H9⟩=>GH rfl (GJ (cs:=(ic 4 a.aa.bC 0 0 3 0 0 0 d.aV 0 0 0 0 0 0 false [] [] u 0 x j r.length l none 0 0)) Tryz.isAgg47 Tryz.sizeOf47 ((H9.cls (i:=0) rfl).lit (k:=0) (m:=21) rfl))) ?_))))))
 refine qd 7 rfl (Hw (cs:=(ic 4 a.aa.bC 0 0 3 0 0 0 d.aV 0 0 0 0 0 0 false [] [] u 0 x j r.length l none 0 0)) (t:=47) (sz:=21) (m:=1) bA rfl rfl (λ _=>by kernel_rfl) rfl f5 ?_)
 intro aT bB aG
 replace aG:=Ha (y:=row aT 1 1 (q0 bV.cells ([(bV.mk 4 a.aa.bC 0 0 3 0 0 0 d.aV 0 0 0 0 0 0 false (aj.mk [] []) (L3 u x []) (L3 j l A) (L3 none 0 []))])) 47 21) (congrArg (λ z9=>row aT 1 1 [vI 4,vI a.aa.bC,vI 0,vI 0,vI 3,vI 0, .int .u64 0, .int .u64 0,vU d.aV, .int .u64 0, .int .u64 0, .int .u64 0, .int .u64 0, .int .u64 0, .int .u64 0, .bool false, .string ⟨u3 []⟩, .string ⟨u3 []⟩, .slice u 0 x, .slice j z9 l, .slice none 0 0] 47 21) (aW Q).symm) aG
 have aV:=aG.pb [0]
 refine⟨.inr ⟨_,aV⟩, ?_⟩
 have bC:Own w D bB (row none 0 0 (q0 bL.cells []) 83 2::_):=aV.free (bX 83 2)
 have aX:=bC.pf [9,10,2,3,0,4]
 refine qd 8 rfl (GZ (k:=h.av.bE.ls.length) (m:=1) (tL) aX rfl rfl (eT P2 (aX.rds (i:=11) rfl) (cB bV.one ([(bV.mk 4 a.aa.bC 0 0 3 0 0 0 d.aV 0 0 0 0 0 0 false (aj.mk [] []) (L3 u x []) (L3 j l A) (L3 none 0 []))]))) rfl e8 (s:=q5 (h.av.bE.ls++ [(dM.mk 4 a.aa.bC 0 0 3 0 0 0 d.aV 0 0 0 0 0 0 false (aj.mk [] []) (D4 []) (D4 r) (D4 []))])) f4 (t2).symm ?_)
 intro aZ bf bD bE
 have bF:=bE.pf [3]
 have bG:=JJ (aW Q).symm bF
 have bH:=bG.pf [2,3,0,4,5]
 have bI:Own w D bD (sepL (q0 Hl (z++ [(bV.mk 4 a.aa.bC 0 0 3 0 0 0 d.aV 0 0 0 0 0 0 false (aj.mk [] []) (L3 u x []) (L3 j l A) (L3 none 0 []))]))::_):=bH.sepAdd (L2:= [row u 0 x (q0 aY.cells []) 68 6,row j A.length l (q0 aP.cells A) 70 3,row none 0 0 (q0 bL.cells []) 83 2,sepL (q0 G8 A)]) (t2 (f:=Hl) (xs:=z) (ys:= [(bV.mk 4 a.aa.bC 0 0 3 0 0 0 d.aV 0 0 0 0 0 0 false (aj.mk [] []) (L3 u x []) (L3 j l A) (L3 none 0 []))])).symm
 have cK:q5 (h.av.bE.ls++ [(dM.mk 4 a.aa.bC 0 0 3 0 0 0 d.aV 0 0 0 0 0 0 false (aj.mk [] []) (D4 []) (D4 r) (D4 []))])=h.av.bE.ls.length+1:=by simp only [m8,q6,H2]
 have cO:=aW (jy (es:= [(bV.mk 4 a.aa.bC 0 0 3 0 0 0 d.aV 0 0 0 0 0 0 false (aj.mk [] []) (L3 u x []) (L3 j l A) (L3 none 0 []))]) (ms:= [(dM.mk 4 a.aa.bC 0 0 3 0 0 0 d.aV 0 0 0 0 0 0 false (aj.mk [] []) (D4 []) (D4 r) (D4 []))]) M (congrArg (λ z9=> [dM.mk 4 a.aa.bC 0 0 3 0 0 0 d.aV 0 0 0 0 0 0 false (aj.mk [] []) (D4 []) (D4 z9) (D4 [])]) Q))
 refine⟨.inl e9, ?_⟩
 refine Hf (v:=vP W 0) 9 rfl e9 (λ _=>yk) (Hf (v:=vP W 1) 10 rfl e9 (λ _=>yk) (Hf (v:=vP W 1) 11 rfl e9 (λ _=>yk) ?_))
 have bK:=bI.pf [3]
 refine qe 12 rfl (Do.store (vs:= [.slice aZ (q5 (h.av.bE.ls++ [(dM.mk 4 a.aa.bC 0 0 3 0 0 0 d.aV 0 0 0 0 0 0 false (aj.mk [] []) (D4 []) (D4 r) (D4 []))])) bf]) (o:=1) bK rfl rfl Tryz.sizeOf50 rfl rfl rfl rfl ?_)
 intro dE bN
 refine⟨.inl e9, ?_⟩
 refine qn (Hq (res0 rfl) (nt (Gp ?_)))
 have bO:=bN.pk [0,1,2,4,5]
 refine Gq (An rfl (rt (rs ?_)))
 have bP:=bO.pf [0,2]
 obtain⟨rfl,rfl⟩:=fC (zj hr zq2)
 exact⟨aZ,bf,(z++ [(bV.mk 4 a.aa.bC 0 0 3 0 0 0 d.aV 0 0 0 0 0 0 false (aj.mk [] []) (L3 u x []) (L3 j l A) (L3 none 0 []))]),rfl,bP,(jy (es:= [(bV.mk 4 a.aa.bC 0 0 3 0 0 0 d.aV 0 0 0 0 0 0 false (aj.mk [] []) (L3 u x []) (L3 j l A) (L3 none 0 []))]) (ms:= [(dM.mk 4 a.aa.bC 0 0 3 0 0 0 d.aV 0 0 0 0 0 0 false (aj.mk [] []) (D4 []) (D4 r) (D4 []))]) M (congrArg (λ z9=> [dM.mk 4 a.aa.bC 0 0 3 0 0 0 d.aV 0 0 0 0 0 0 false (aj.mk [] []) (D4 []) (D4 z9) (D4 [])]) Q)),f0⟩
 refine jT (dT ak) (sr (Mz rfl (An rfl (rt (tR (rs ?_))))))
 have bQ:=ai.pk [2,6,7,3,4]
 obtain⟨rfl,rfl⟩:=fC (zj hr zq2).symm
 exact⟨T,U,z,rfl,bQ,M,f0⟩
def gV (e:bJ):List aY->List aY->(List aY)
  | [],a=>a
  | b::c,a=>bnd (qi b) λ d=>if d=true then gV e c (a++ [b]) else gV e c a
def kW (a:bJ) (l1:List aY) (b:ax):bJ:=
 bnd (gV a l1 a.av.aI.ls) λ sLrL=>bJ.mk (dH.mk (D4 a.av.bE.ls) (D4 sLrL) a.av.bU) (D4 a.bD.ls)
theorem vE (w D z) (g:bJ) (E F G I J K Y n1 c1 l1 d) (a:ax) (h j l n o p r t u x) (Z:bJ) (H:Own w D w [blk z [.pointer (some ⟨d,0,none⟩), .slice E g.av.bE.ls.length F, .slice G g.av.aI.ls.length I, .bool g.av.bU, .slice J g.bD.ls.length K] 92,row G g.av.aI.ls.length I (q0 aY.cells g.av.aI.ls) 68 6,blk d [.int .i64 a.aa.bC, .int .u64 ((a.aa.aT:Nat):Int), .int .u64 ((a.aa.bv:Nat):Int), .int .u64 ((a.aa.aL:Nat):Int), .int .u64 ((a.aa.aG:Nat):Int), .slice h a.aa.ah.ls.length j, .slice l a.aa.ak.ls.length n, .slice o a.aa.af.ls.length p, .int .u64 ((a.aa.bi:Nat):Int), .int .u64 ((a.aa.aM:Nat):Int), .string ⟨u3 a.aa.aH.aO⟩, .string ⟨u3 a.aa.aH.aS⟩, .int .u64 ((a.aa.aF.aG:Nat):Int), .int .u64 ((a.aa.aF.bu:Nat):Int), .int .u64 ((a.aa.aF.dA:Nat):Int), .string ⟨u3 a.aa.aF.aB.aO⟩, .string ⟨u3 a.aa.aF.aB.aS⟩, .iface 24 (.pointer (some ⟨u,0,none⟩)), .slice r a.ag.ls.length t, .pointer (some ⟨x,0,none⟩), .pointer none] 80]) (U:Ro w D λ w'=>bM w' 6 Y n1 (q0 aY.cells l1)) (aB:n1=l1.length) (aV:l1.length *80<=211106232532992) (aW:l1.length<=24/\g.av.aI.ls.length<=100) (hr:kW g l1 a=Z):
    Calls u2 86 #[vP z 0, .slice Y n1 c1] w (dG λ v w'=> ∃ L M,v= .tuple #[]/\Own w D w' [blk z [vP d 0, .slice E g.av.bE.ls.length F, .slice L Z.av.aI.ls.length M, .bool g.av.bU, .slice J g.bD.ls.length K] 92,row L Z.av.aI.ls.length M (q0 aY.cells Z.av.aI.ls) 68 6,blk d [vI a.aa.bC,vU a.aa.aT,vU a.aa.bv,vU a.aa.aL,vU a.aa.aG, .slice h a.aa.ah.ls.length j, .slice l a.aa.ak.ls.length n, .slice o a.aa.af.ls.length p,vU a.aa.bi,vU a.aa.aM, .string ⟨u3 a.aa.aH.aO⟩, .string ⟨u3 a.aa.aH.aS⟩,vU a.aa.aF.aG,vU a.aa.aF.bu,vU a.aa.aF.dA, .string ⟨u3 a.aa.aF.aB.aO⟩, .string ⟨u3 a.aa.aF.aB.aS⟩, .iface 24 (vP u 0), .slice r a.ag.ls.length t,vP x 0, .pointer none] 80]/\(Z.av.aI.ls.length<=g.av.aI.ls.length+l1.length)):=by
 unfold kW at hr
 subst aB
 have aC:=zr 1 H
 refine cb Tryz.func86 ?_
 refine sr (Mz rfl (Kz (vJ l1.length) (Mn rfl (bo ?_))))
 have aD:=H.pb [1]
 obtain⟨aF,A⟩:=vk λ (b:Nat) B (C:Nat) c w'=>Own w D w' [blk z [vP d 0, .slice E g.av.bE.ls.length F, .slice B c.length C, .bool g.av.bU, .slice J g.bD.ls.length K] 92,blk d [vI a.aa.bC,vU a.aa.aT,vU a.aa.bv,vU a.aa.aL,vU a.aa.aG, .slice h a.aa.ah.ls.length j, .slice l a.aa.ak.ls.length n, .slice o a.aa.af.ls.length p,vU a.aa.bi,vU a.aa.aM, .string ⟨u3 a.aa.aH.aO⟩, .string ⟨u3 a.aa.aH.aS⟩,vU a.aa.aF.aG,vU a.aa.aF.bu,vU a.aa.aF.dA, .string ⟨u3 a.aa.aF.aB.aO⟩, .string ⟨u3 a.aa.aF.aB.aS⟩, .iface 24 (vP u 0), .slice r a.ag.ls.length t,vP x 0, .pointer none] 80,row B c.length C (q0 aY.cells c) 68 6]/\b<=l1.length/\c.length<=g.av.aI.ls.length+b/\gV g l1 g.av.aI.ls=gV g (r7 b l1) c
 refine v4 (λ i:Nat × (Option Addr) × Nat × (List aY)=> [(8,vJ i.1),(7,vJ l1.length),(6, .slice Y l1.length c1),(0,vP z 0)]) aF (λ i=>l1.length - i.1) (0,G,I,g.av.aI.ls) ⟨rfl,rfl,rfl,rfl,trivial⟩ (A.2 ⟨aD,e8,e8,rfl⟩) ?_
 rintro ⟨b,B,C,c⟩ aX aa
 show Wp _ _ _ [(8,vJ b),(7,vJ l1.length),(6, .slice Y l1.length c1),(0,vP z 0)] _ _
 obtain⟨N,aQ,aR,O⟩:=A.1 aa
 refine sr (Kz (.bool (decide ((b:Int) < (l1.length:Int)))) (nt (Gp ?_)))
 by_cases af:(b:Int) < (l1.length:Int)
 obtain⟨f,S⟩:=dI (ls:=l1) (i:=b) aY.len f5 (N.ro U) f2
 have T:=drop_at S
 refine jT (dT af) (sk (Gp (bo (sr (fw (.pointer (some ⟨ab Y,ao Y+b *6,none⟩)) (GI (nD) rfl rfl ((N.ro U).addr (i:=b) e8) e8) (fw (.agg (aY.cells f).toArray) (GH rfl (GJ (cs:=(aY.cells f)) B3 y6 ((N.ro U).elem aY.len S f5))) ?_))))))
 refine bW [vI 0, .string ⟨u3 []⟩, .string ⟨u3 []⟩, .string ⟨u3 []⟩, .string ⟨u3 []⟩,vI 0] 68 N ?_
 intro aZ bf aG
 refine bY (aY.cells f) 0 aG y6 ?_
 intro bg ag
 refine nt (Gp (sr (La (aY.cells f) ag 0 B3 y6 ?_)))
 obtain⟨V,P⟩:∃ q,qi f=q:=⟨_,rfl⟩
 obtain⟨bi,ah,aS,ai,aT⟩:=Gr ag
 refine cl Tryz.call140 (vY _ _ f V ah P) ?_
 rintro _ bn ⟨rfl,aj⟩
 have W:=ai _ _ aj
 refine Kz (.bool (!V)) (nt ?_)
 rcases Kq (V) with Q | Q
 refine jF (cn Q) (sk (sr (Mz rfl (La (aY.cells f) W 0 B3 y6 ?_))))
 refine jE (aY.cells f) 68 6 1 W ?_
 intro aH bq R
 replace R:=Ha (y:=row aH 1 1 (q0 aY.cells ([f])) 68 6) rfl R
 refine WL.do rfl (GV Tryz.call95 rfl ?_ (λ _ _ k=>k))
 refine cb Tryz.func95 ?_
 refine Gq (Mz rfl (Mz rfl (Kz (vP z 0) (Kz (vP z 1) (Kz (vP z 2) (Lz (.slice B c.length C) R 2 C6 (Mz rfl ?_)))))))
 have ak:=R.pf [4]
 refine WL.do rfl (GZ (k:=c.length) (m:=1) (nD) ak rfl rfl (eT O2 (ak.rds (i:=1) rfl) (cB aY.one ([f]))) rfl e8 (s:=q5 (c++ [f])) f4 (t2).symm ?_)
 intro au av bu aI
 have aU:q5 (c++ [f])=c.length+1:=by simp only [m8,q6,H2]
 refine Kz (vP z 0) (Kz (vP z 1) (Kz (vP z 2) ?_))
 have aJ:=aI.pf [3]
 refine bY [.slice au (q5 (c++ [f])) av] 2 aJ P1 ?_
 intro bv aK
 refine v8 (Hq (res0 rfl) (nt (Gp ?_)))
 have X:=aK.px [] [2] []
 refine Gq (Mz rfl (Kz (vP z 0) (Kz (vP z 0) (Lz (vP d 0) X 0 P0 (Kz (vP d 0) (Kz (vP d 20) (Lz (.pointer none) X 3 Tryz.isAgg78 (Kz (.bool false) (nt (jf (G7 (bN (Gs ?_)))))))))))))
 have aL:=X.pk [0,1,3]
 refine Gq (fw (vJ (b+1)) (Gw (e:=v7.wrap ((b:Int)+1)) yk f1) (Mz rfl (v8 ?_)))
 have aM:=aL.pb [1]
 exact GL (b+1,au,av,(c++ [f])) ⟨rfl,rfl,rfl,rfl,trivial⟩ (A.2 ⟨aM,e8,e8,et (O) (et (congrArg (λ q=>gV g q c) T) (et (ae P) (ip Q)))⟩) (by show l1.length - (b+1) < l1.length - b; omega)
 refine jT (cn Q) (v9 (GK (GR (Gs ?_))))
 have aN:=W.pk [1,2,3]
 refine Gq (fw (vJ (b+1)) (Gw (e:=v7.wrap ((b:Int)+1)) yk f1) (Mz rfl (v8 ?_)))
 have aO:=aN.pf []
 exact GL (b+1,B,C,c) ⟨rfl,rfl,rfl,rfl,trivial⟩ (A.2 ⟨aO,e8,e8,et (O) (et (congrArg (λ q=>gV g q c) T) (et (ae P) (dY Q)))⟩) (by show l1.length - (b+1) < l1.length - b; omega)
 refine jF (dF af) (v9 (GK ?_))
 have ay:gV g l1 g.av.aI.ls=c:=et (O) (et (congrArg (λ q=>gV g q c) (eP (ls:=l1) (i:=b) e8)) rfl)
 refine GK (GR (Hq (res0 rfl) ?_))
 have aP:=N.pb [1]
 obtain rfl:=zj hr zq1
 exact⟨B,C,rfl,aP,f0⟩
end
theorem wE {l:List aK} (h:Ne l) (p:aK->Bool):Ne (l.filter p):=λ r hr=>h r (List.mem_filter.1 hr).1
theorem C8 {l:List aK} (hs:Up l) (h:Ne l) (t:Nat) (x:aD):Ne (iE l t x):=by
  rcases mG hs t with ⟨a,p,q,rfl,hp,ha,hq,_⟩ | ⟨a,q,rfl,ha,hq,_⟩
  . rw [uT x hp ha hq]
    intro r hr
    rcases List.mem_append.1 hr with b | b
    . exact h r (List.mem_append_left _ b)
    . rcases List.mem_cons.1 b with c | c
      . rw [c]; simp only [List.length_append,List.length_cons]; omega
      . exact h r (List.mem_append_right _ (.tail _ c))
  . rw [wL x ha hq]
    intro r hr
    rcases List.mem_append.1 hr with b | b
    . exact h r (List.mem_append_left _ b)
    . rcases List.mem_cons.1 b with c | c
      . rw [c]; simp only [List.length_append,List.length_cons]; omega
      . exact h r (List.mem_append_right _ c)
theorem sD {I:List aK->List Nat->List Nat->Prop}
    (step:∀ (m:List aK) (g d:List Nat) (r:aK),Fit m->I m g d->r ∈ m->r.bn=true->dX (aZ.mk (Ll.mk m)) r.au r.bf= []->
      I ((iE m r.au r.bf).filter λ s=> !dies r.au r.bf s) (g++ [r.au]) (d++List.map (λ q:aK=>q.au) ((iE m r.au r.bf).filter (dies r.au r.bf)))):
    ∀ (q:Nat) (l:List aK) (g d:List Nat),Wt l < q->Fit l->I l g d->I (df q l g d).1 (df q l g d).2.1 (df q l g d).2.2/\Fit (df q l g d).1/\(jX (aZ.mk (Ll.mk (df q l g d).1))).2=false:=by
  intro q
  induction q with
  | zero=>intro l g d h; omega
  | succ q ih=>
    intro l g d hq hf hI
    rw [df]
    simp only [dz]
    cases hn:jX (aZ.mk (Ll.mk l)) with
    | mk a b=>
      cases b with
      | false=>simp only [Bool.false_eq_true,if_false]; exact⟨hI,hf,by rw [hn]⟩
      | true=>
        simp only [if_true]
        obtain⟨r,hr,hw,ht,hx,hh⟩:=xz hn
        have hs:=wY hf hn (o9 hf.up a.aV a.nA (eX.mk (Ll.mk g) (Ll.mk d)))
        rw [o9 hf.up]
        rw [<- ht, <- hx] at hs hh ⊢
        exact ih _ _ _ (Nat.lt_of_lt_of_le hs.2.1 (Nat.le_of_lt_succ hq)) hs.1 (step l g d r hf hI hr hw hh)
theorem rE (m:List aK) (c:eX):jY (aZ.mk (Ll.mk m)) c=
    (aZ.mk (Ll.mk (df (Wt m+1) m c.aU.ls c.dC.ls).1),eX.mk (Ll.mk (qK (df (Wt m+1) m c.aU.ls c.dC.ls).2.1)) (Ll.mk (qK (df (Wt m+1) m c.aU.ls c.dC.ls).2.2))):=by
  unfold jY
  simp only [dz,Ev]
theorem wF {m:List aK} (hf:Fit m) (hn:Ne m) (ht:kQ m<=192) (g d:List Nat):jh (df (Wt m+1) m g d).1:=by
  have h:=sD (I:=λ l _ _=>Ne l/\kQ l<=192) (λ m g d r hf hI hr hw _=>by
    obtain⟨_,a,_⟩:=uU hf.up hr hw r.bf
    exact⟨wE (C8 hf.up hI.1 _ _) _,Nat.le_trans (ma _ _) (show kQ (iE m r.au r.bf)<=192 by rw [a]; exact hI.2)⟩) (Wt m+1) m g d e8 hf ⟨hn,ht⟩
  exact⟨h.2.1.up,h.1.1,h.1.2⟩
theorem zA {m:List aK} (h:jh m) {t:Nat} {g d:List Nat} {r:aZ} (hr:ik (aZ.mk (Ll.mk m)) t=(g,d,r)):jh r.ai.ls:=by
  unfold ik at hr
  rw [dz,dz,qm h.up,rE] at hr
  have e:r=_:=(congrArg (λ q=>q.2.2) hr).symm
  rw [e]
  exact wF (h.fit.filter _) (wE h.ne _) (Nat.le_trans (ma _ _) h.tot) _ _
theorem Cf {l:List aK} (h:kQ l<=192):l8 (aZ.mk (Ll.mk l))=(kQ l:Int):=by
  have go:∀ (l:List aK) (z:Nat),z+kQ l<=192->gN l (z:Int)=((z+kQ l:Nat):Int):=by
    intro l
    induction l with
    | nil=>intro z h; rfl
    | cons a l ih=>
      intro z h
      unfold kQ oF at h
      simp only [List.map_cons,List.sum_cons] at h
      rw [gN]
      by_cases c:a.bn=true
      . rw [if_pos c] at h
        rw [if_pos c,Kl (IntKind.i64.wrap _+1) f1,Kl _ e8,show (z:Int)+(a.aC.ls.length:Int)+1=((z+(a.aC.ls.length+1):Nat):Int) from by omega,ih _ (by unfold kQ oF; omega)]
        unfold kQ oF
        simp only [List.map_cons,List.sum_cons,if_pos c]
        omega
      . rw [if_neg c] at h
        rw [if_neg c,Kl _ e8,show (z:Int)+(a.aC.ls.length:Int)=((z+a.aC.ls.length:Nat):Int) from by omega,ih _ (by unfold kQ oF; omega)]
        unfold kQ oF
        simp only [List.map_cons,List.sum_cons,if_neg c]
        omega
  unfold l8
  rw [dz]
  have:=go l 0 e8
  rw [Nat.zero_add] at this
  exact this
def oG (l:List aK) (t:Nat) (x:aD):List aK:=(l.filter λ r=>decide (r.au < t))++(aK.mk t (Ll.mk (old l t)) true x::l.filter λ r=>decide (t < r.au))
theorem Al {a q:List aK} {p:aK} {t:Nat} (x:aD) (hp:p.au=t) (ha:∀ r ∈ a,r.au < t) (hq:∀ r ∈ q,t < r.au):oG (a++p::q) t x=a++aK.mk t (Ll.mk p.aC.ls) true x::q:=by
  have h:=uT x hp ha hq
  unfold iE at h
  unfold oG
  have b:=List.append_inj h (by
    have:(List.filter (λ r:aK=>decide (r.au < t)) (a++p::q))=a:=by
      rw [List.filter_append,List.filter_cons_of_neg (by simp [hp]),mH (λ r hr=>decide_eq_true (ha r hr)),List.filter_eq_nil_iff.2 (λ r hr=>by simp; have:=hq r hr; omega),List.append_nil]
    rw [this])
  have c:=List.cons.inj b.2
  rw [b.1,c.2]
  have d:old (a++p::q) t++ [x]=p.aC.ls++ [x]:=congrArg (λ r:aK=>r.aC.ls) c.1
  rw [(List.append_inj' d rfl).1]
theorem Am {a q:List aK} {t:Nat} (x:aD) (ha:∀ r ∈ a,r.au < t) (hq:∀ r ∈ q,t < r.au):oG (a++q) t x=a++aK.mk t (Ll.mk []) true x::q:=by
  have h:=wL x ha hq
  unfold iE at h
  unfold oG
  have b:=List.append_inj h (by
    have:(List.filter (λ r:aK=>decide (r.au < t)) (a++q))=a:=by
      rw [List.filter_append,mH (λ r hr=>decide_eq_true (ha r hr)),List.filter_eq_nil_iff.2 (λ r hr=>by simp; have:=hq r hr; omega),List.append_nil]
    rw [this])
  have c:=List.cons.inj b.2
  rw [b.1,c.2]
  have d:old (a++q) t++ [x]= []++ [x]:=congrArg (λ r:aK=>r.aC.ls) c.1
  rw [(List.append_inj' d rfl).1]
open Int renaming toNat_natCast->K7
open List renaming map_append->M4,mem_append->P3,mem_append_left->q7,mem_append_right->u0,pairwise_append->M7,sum_append->N6
def gR (m:List aK) (t:Nat) (x:aD):List aK:=(iE m t x).filter λ r=> !dies t x r
def gD (m:List aK) (t:Nat) (x:aD):List Nat:=List.map (λ q:aK=>q.au) ((iE m t x).filter (dies t x))
def og (m:List aK) (t:Nat) (x:aD):Int × List Nat × List Nat × Int × List aK:=
  if dW x.aB=0 then
    if gH (aZ.mk (D4 m)) t=true then(0, [], [],4,m)
    else if kG (aZ.mk (D4 m)) t x=true then(1, [], [],0,m)
    else if 192<=kQ m then(3, [], [],0,m)
    else if dX (aZ.mk (D4 m)) t x= [] then
      (1,qK (df (Wt (gR m t x)+1) (gR m t x) [] (gD m t x)).2.1,qK (df (Wt (gR m t x)+1) (gR m t x) [] (gD m t x)).2.2,0,(df (Wt (gR m t x)+1) (gR m t x) [] (gD m t x)).1)
    else if v1 (dX (aZ.mk (D4 m)) t x) 0 default < t then(3, [], [],0,m)
    else(2, [], [],0,oG m t x)
  else(0, [], [],21,m)
theorem xH {m:List aK} (h:jh m) (t:Nat) (x:aD):jr (aZ.mk (D4 m)) t x=((og m t x).1,(og m t x).2.1,(og m t x).2.2.1,(og m t x).2.2.2.1,aZ.mk (D4 (og m t x).2.2.2.2)):=by
  unfold jr og
  simp only [dz]
  by_cases b:dW x.aB=0
  . rw [if_pos b,if_pos b]
    by_cases c:gH (aZ.mk (D4 m)) t=true
    . rw [if_pos c,if_pos c]
    . rw [if_neg c,if_neg c]
      by_cases d:kG (aZ.mk (D4 m)) t x=true
      . rw [if_pos d,if_pos d]
      . rw [if_neg d,if_neg d,Cf h.tot]
        by_cases g:192<=kQ m
        . rw [if_pos e8,if_pos g]
        . rw [if_neg e8,if_neg g]
          by_cases f:dX (aZ.mk (D4 m)) t x= []
          . rw [if_pos (by rw [f]; rfl),if_pos f,o9 h.up]
            simp only
            rw [rE]
            rfl
          . rw [if_neg (show ¬ ((List.length (dX (aZ.mk (D4 m)) t x):Nat):Int)=0 from λ e=>f (List.eq_nil_of_length_eq_zero (Int.ofNat.inj e))),if_neg f]
            by_cases i:v1 (dX (aZ.mk (D4 m)) t x) 0 default < t
            . rw [if_pos e8,if_pos i]
            . rw [if_neg e8,if_neg i]
              rcases mG h.up t with ⟨a,p,q,rfl,hp,ha,hq,hf⟩ | ⟨a,q,rfl,ha,hq,hf⟩
              . rw [hf,if_pos rfl,Al x hp ha hq]
                simp only [K7,gd,stt]
                rw [<- hp]
              . have j:List.drop a.length (a++q)=q:=List.drop_left' rfl
                have k:List.take a.length (a++q)=a:=List.take_left' rfl
                rw [hf,if_neg i5,Am x ha hq]
                simp only [K7,j,k,gd,stt]
  . rw [if_neg b,if_neg b]
theorem D5 {m:List aK} (hs:Up m) (t:Nat) (x:aD) (hw:gH (aZ.mk (D4 m)) t≠true):Up (oG m t x)/\(Ne m->Ne (oG m t x))/\kQ (oG m t x)=kQ m+1:=by
  unfold gH at hw
  rw [dz] at hw
  rcases mG hs t with ⟨a,p,q,rfl,hp,ha,hq,hf⟩ | ⟨a,q,rfl,ha,hq,hf⟩
  . rw [hf,if_pos rfl,dz] at hw
    simp only [K7,gd] at hw
    rw [Al x hp ha hq]
    have h:=M7.1 hs
    have b:=List.pairwise_cons.1 h.2.1
    refine⟨ym (M7.2 ⟨h.1,b.2,λ r hr s hs=>h.2.2 r hr s (.tail _ hs)⟩) rfl ha hq,λ hn r hr=> ?_, ?_⟩
    . rcases P3.1 hr with c | c
      . exact hn r (q7 _ c)
      . rcases List.mem_cons.1 c with b | b
        . rw [b]; unfold oF; rw [if_pos rfl]; omega
        . exact hn r (u0 _ (.tail _ b))
    . unfold kQ oF; simp only [M4,List.map_cons,N6,List.sum_cons]; rw [if_neg hw]; simp; omega
  . rw [Am x ha hq]
    refine⟨ym hs rfl ha hq,λ hn r hr=> ?_, ?_⟩
    . rcases P3.1 hr with c | c
      . exact hn r (q7 _ c)
      . rcases List.mem_cons.1 c with b | b
        . rw [b]; unfold oF; rw [if_pos rfl]; omega
        . exact hn r (u0 _ b)
    . unfold kQ oF; simp only [M4,List.map_cons,N6,List.sum_cons]; simp; omega
theorem Cg {m:List aK} (h:jh m) (t:Nat) (x:aD):jh (og m t x).2.2.2.2:=by
  unfold og
  by_cases b:dW x.aB=0
  . rw [if_pos b]
    by_cases a:gH (aZ.mk (D4 m)) t=true
    . rw [if_pos a]; exact h
    . rw [if_neg a]
      by_cases c:kG (aZ.mk (D4 m)) t x=true
      . rw [if_pos c]; exact h
      . rw [if_neg c]
        by_cases d:192<=kQ m
        . rw [if_pos d]; exact h
        . rw [if_neg d]
          by_cases e:dX (aZ.mk (D4 m)) t x= []
          . rw [if_pos e]
            obtain⟨n,o⟩:=wM m h.up t x
            have i:Ne (iE m t x):=C8 h.up h.ne t x
            have j:kQ (gR m t x)<=192:=Nat.le_trans (ma _ _) (show kQ (iE m t x)<=192 by omega)
            have f:Ne (gR m t x):=wE i _
            exact wF ⟨(rM h.up t x).filter _,show List.length (gR m t x)<=999999 by have:=yV f; omega,show kQ (gR m t x)<=1000000 by omega⟩ f j _ _
          . rw [if_neg e]
            by_cases g:v1 (dX (aZ.mk (D4 m)) t x) 0 default < t
            . rw [if_pos g]; exact h
            . rw [if_neg g]
              obtain⟨k,l,p⟩:=D5 h.up t x a
              exact⟨k,l h.ne,by show kQ (oG m t x)<=192; omega⟩
  . rw [if_neg b]; exact h
theorem C9 {m:List aK} (h:jh m) {t:Nat} {x:aD} {s e:Int} {g d:List Nat} {r:aZ} (hr:jr (aZ.mk (D4 m)) t x=(s,g,d,e,r)):jh r.ai.ls:=by
  rw [xH h] at hr
  have e:r=_:=(congrArg (λ q=>q.2.2.2.2) hr).symm
  rw [e]
  exact Cg h t x
theorem Da:jh []:=⟨List.Pairwise.nil,λ r hr=>(by cases hr),Km _⟩
open List renaming getElem?_drop->m3,getElem?_eq_none->P6,getElem?_eq_some_iff->p2,getElem?_take->m2,mem_iff_getElem?->K6,pairwise_cons->K4,pairwise_iff_getElem->P4,take_append_drop->s2
open Nat renaming le_of_not_lt->P7,lt_or_ge->K5,lt_trans->P5
def rO (l:List bG):Prop:=l.Pairwise λ a b=>a.au < b.au
theorem yx {l:List bG} (hs:rO l) {i j:Nat} {a b:bG} (ha:l[i]? =some a) (hb:l[j]? =some b) (h:i < j):a.au < b.au:=by
  obtain⟨c,rfl⟩:=p2.1 ha
  obtain⟨d,rfl⟩:=p2.1 hb
  exact P4.1 hs i j c d h
theorem xI {m:List bG} (hs:rO m) (k:Nat):∀ (f i j:Nat),j - i < f->i<=j->j<=m.length->(∀ q p,m[q]? =some p->q < i->p.au < k)->(∀ q p,m[q]? =some p->j<=q->¬ p.au < k)->
    ∃ r,cO m k f i j=r/\r<=m.length/\(∀ q p,m[q]? =some p->q < r->p.au < k)/\(∀ q p,m[q]? =some p->r<=q->¬ p.au < k)
  | 0,i,j,h,_,_,_,_=>e8
  | f+1,i,j,h,hij,hj,hl,hg=>by
    unfold cO
    by_cases b:(i:Int) < (j:Int)
    . obtain⟨x,hx⟩:∃ x,m[(i+j) / 2]? =some x:=⟨_,p3 e8⟩
      rw [if_pos b,dz,dz,bz hx]
      show ∃ r,(if dZ x.au k < 0 then cO m k f ((i+j) / 2+1) j else cO m k f i ((i+j) / 2))=r/\_
      by_cases a:dZ x.au k < 0
      . rw [if_pos a]
        refine xI hs k f _ j e8 e8 hj (λ q p hq hlt=> ?_) hg
        rcases K5 q ((i+j) / 2) with e | e
        . exact P5 (yx hs hq hx e) (mV.1 a)
        . have:q=(i+j) / 2:=e8
          subst this
          rw [hx] at hq; cases hq
          exact mV.1 a
      . rw [if_neg a]
        refine xI hs k f i _ e8 e8 e8 hl (λ q p hq hge hlt=> ?_)
        rcases K5 ((i+j) / 2) q with e | e
        . exact a (mV.2 (P5 (yx hs hx hq e) hlt))
        . have:q=(i+j) / 2:=e8
          subst this
          rw [hx] at hq; cases hq
          exact a (mV.2 hlt)
    . rw [if_neg b]
      have:i=j:=e8
      subst this
      exact⟨i,rfl,hj,hl,hg⟩
structure F9 (m:List bG) (k:Nat) (a b:List bG):Prop where
  app:m=a++b
  lo:∀ p ∈ a,p.au < k
  hi:∀ p ∈ b,k<=p.au
theorem Db {m:List bG} (hs:rO m) (k:Nat):∃ a b,F9 m k a b/\(bF m k).1=((a.length:Nat):Int)/\((bF m k).2=true↔∃ p q,b=p::q/\p.au=k):=by
  obtain⟨r,d,i,f,g⟩:=xI hs k (m.length - 0+1) 0 m.length e8 e8 (Nat.le_refl _) (λ q p _ h=>e8) (λ q p hq h=>by have:=(p2.1 hq).1; omega)
  have hlen:(t1 r m).length=r:=by rw [m6]; omega
  have e:bF m k=((r:Int),(bF m k).2)/\((bF m k).2=true↔∃ p,m[r]? =some p/\p.au=k):=by
    unfold bF
    simp only [dz,d]
    by_cases c:(r:Int) < ((List.length m:Nat):Int)
    . obtain⟨x,hx⟩:∃ x,m[r]? =some x:=⟨_,p3 e8⟩
      rw [if_pos c,bz hx]
      refine⟨rfl, ?_⟩
      show decide (dZ x.au k=0)=true↔_
      simp only [decide_eq_true_eq,wC,hx,Option.some.injEq,exists_eq_left']
    . rw [if_neg c]
      refine⟨rfl, ?_⟩
      have:m[r]? =none:=P6 e8
      simp [this]
  refine⟨t1 r m,r7 r m,⟨(s2 r m).symm,λ p hp=> ?_,λ p hp=> ?_⟩, ?_, ?_⟩
  . obtain⟨j,hj⟩:=K6.1 hp
    have hjr:j < r:=by have:=(p2.1 hj).1; omega
    rw [m2,if_pos hjr] at hj
    exact f j p hj hjr
  . obtain⟨j,hj⟩:=K6.1 hp
    rw [m3] at hj
    exact P7 (g _ p hj e8)
  . rw [e.1,hlen]
  . rw [e.2]
    constructor
    . rintro ⟨p,hp,hk⟩
      exact⟨p,r7 (r+1) m,drop_at hp,hk⟩
    . rintro ⟨p,q,hp,hk⟩
      refine⟨p, ?_,hk⟩
      have:(r7 r m)[0]? =some p:=by rw [hp]; rfl
      rwa [m3,Nat.add_zero] at this
theorem Ao {a b:List bG} {p:bG} (h:rO (a++p::b)):rO a/\rO b/\(∀ r ∈ a,r.au < p.au)/\(∀ r ∈ b,p.au < r.au):=by
  have c:=M7.1 h
  have d:=K4.1 c.2.1
  exact⟨c.1,d.2,λ r hr=>c.2.2 r hr p b3,d.1⟩
theorem rP {m:List bG} (hs:rO m) (t:Nat):
    (∃ a p q,m=a++p::q/\p.au=t/\(∀ r ∈ a,r.au < t)/\(∀ r ∈ q,t < r.au)/\bF m t=((a.length:Int),true))\/
    (∃ a q,m=a++q/\(∀ r ∈ a,r.au < t)/\(∀ r ∈ q,t < r.au)/\bF m t=((a.length:Int),false)):=by
  obtain⟨a,b,hc,f,g⟩:=Db hs t
  have e:∀ x:Int × Bool,x=(x.1,x.2):=λ _=>rfl
  cases hb:(bF m t).2 with
  | true=>
    obtain⟨p,q,rfl,hp⟩:=g.1 hb
    refine .inl ⟨a,p,q,hc.app,hp,hc.lo,λ r hr=> ?_, ?_⟩
    . have:=(Ao (hc.app ▸ hs)).2.2.2 r hr; omega
    . rw [e (bF _ _),f,hb]
  | false=>
    refine .inr ⟨a,b,hc.app,hc.lo,λ r hr=> ?_, ?_⟩
    . have i:=hc.hi r hr
      rcases K5 t r.au with h | h
      . exact h
      . exfalso
        have c:r.au=t:=e8
        cases b with
        | nil=>cases hr
        | cons p q=>
          have hup:=Ao (hc.app ▸ hs)
          rcases List.mem_cons.1 hr with d | d
          . exact absurd (g.2 ⟨p,q,rfl,by rw [<- d]; exact c⟩) (by rw [hb]; decide)
          . have:=hup.2.2.2 r d; have:=hc.hi p b3; omega
    . rw [e (bF _ _),f,hb]
def vz (l:List dD):Prop:=l.Pairwise λ a b=>a.aV < b.aV
theorem Dc {l:List dD} (hs:vz l) {i j:Nat} {a b:dD} (ha:l[i]? =some a) (hb:l[j]? =some b) (h:i < j):a.aV < b.aV:=by
  obtain⟨c,rfl⟩:=p2.1 ha
  obtain⟨d,rfl⟩:=p2.1 hb
  exact P4.1 hs i j c d h
theorem xJ {m:List dD} (hs:vz m) (k:Nat):∀ (f i j:Nat),j - i < f->i<=j->j<=m.length->(∀ q p,m[q]? =some p->q < i->p.aV < k)->(∀ q p,m[q]? =some p->j<=q->¬ p.aV < k)->
    ∃ r,dB m k f i j=r/\r<=m.length/\(∀ q p,m[q]? =some p->q < r->p.aV < k)/\(∀ q p,m[q]? =some p->r<=q->¬ p.aV < k)
  | 0,i,j,h,_,_,_,_=>e8
  | f+1,i,j,h,hij,hj,hl,hg=>by
    unfold dB
    by_cases b:(i:Int) < (j:Int)
    . obtain⟨x,hx⟩:∃ x,m[(i+j) / 2]? =some x:=⟨_,p3 e8⟩
      rw [if_pos b,dz,dz,bz hx]
      show ∃ r,(if dZ x.aV k < 0 then dB m k f ((i+j) / 2+1) j else dB m k f i ((i+j) / 2))=r/\_
      by_cases a:dZ x.aV k < 0
      . rw [if_pos a]
        refine xJ hs k f _ j e8 e8 hj (λ q p hq hlt=> ?_) hg
        rcases K5 q ((i+j) / 2) with e | e
        . exact P5 (Dc hs hq hx e) (mV.1 a)
        . have:q=(i+j) / 2:=e8
          subst this
          rw [hx] at hq; cases hq
          exact mV.1 a
      . rw [if_neg a]
        refine xJ hs k f i _ e8 e8 e8 hl (λ q p hq hge hlt=> ?_)
        rcases K5 ((i+j) / 2) q with e | e
        . exact a (mV.2 (P5 (Dc hs hx hq e) hlt))
        . have:q=(i+j) / 2:=e8
          subst this
          rw [hx] at hq; cases hq
          exact a (mV.2 hlt)
    . rw [if_neg b]
      have:i=j:=e8
      subst this
      exact⟨i,rfl,hj,hl,hg⟩
structure Gb (m:List dD) (k:Nat) (a b:List dD):Prop where
  app:m=a++b
  lo:∀ p ∈ a,p.aV < k
  hi:∀ p ∈ b,k<=p.aV
theorem De {m:List dD} (hs:vz m) (k:Nat):∃ a b,Gb m k a b/\(bI m k).1=((a.length:Nat):Int)/\((bI m k).2=true↔∃ p q,b=p::q/\p.aV=k):=by
  obtain⟨r,d,i,f,g⟩:=xJ hs k (m.length - 0+1) 0 m.length e8 e8 (Nat.le_refl _) (λ q p _ h=>e8) (λ q p hq h=>by have:=(p2.1 hq).1; omega)
  have hlen:(t1 r m).length=r:=by rw [m6]; omega
  have e:bI m k=((r:Int),(bI m k).2)/\((bI m k).2=true↔∃ p,m[r]? =some p/\p.aV=k):=by
    unfold bI
    simp only [dz,d]
    by_cases c:(r:Int) < ((List.length m:Nat):Int)
    . obtain⟨x,hx⟩:∃ x,m[r]? =some x:=⟨_,p3 e8⟩
      rw [if_pos c,bz hx]
      refine⟨rfl, ?_⟩
      show decide (dZ x.aV k=0)=true↔_
      simp only [decide_eq_true_eq,wC,hx,Option.some.injEq,exists_eq_left']
    . rw [if_neg c]
      refine⟨rfl, ?_⟩
      have:m[r]? =none:=P6 e8
      simp [this]
  refine⟨t1 r m,r7 r m,⟨(s2 r m).symm,λ p hp=> ?_,λ p hp=> ?_⟩, ?_, ?_⟩
  . obtain⟨j,hj⟩:=K6.1 hp
    have hjr:j < r:=by have:=(p2.1 hj).1; omega
    rw [m2,if_pos hjr] at hj
    exact f j p hj hjr
  . obtain⟨j,hj⟩:=K6.1 hp
    rw [m3] at hj
    exact P7 (g _ p hj e8)
  . rw [e.1,hlen]
  . rw [e.2]
    constructor
    . rintro ⟨p,hp,hk⟩
      exact⟨p,r7 (r+1) m,drop_at hp,hk⟩
    . rintro ⟨p,q,hp,hk⟩
      refine⟨p, ?_,hk⟩
      have:(r7 r m)[0]? =some p:=by rw [hp]; rfl
      rwa [m3,Nat.add_zero] at this
theorem Ap {a b:List dD} {p:dD} (h:vz (a++p::b)):vz a/\vz b/\(∀ r ∈ a,r.aV < p.aV)/\(∀ r ∈ b,p.aV < r.aV):=by
  have c:=M7.1 h
  have d:=K4.1 c.2.1
  exact⟨c.1,d.2,λ r hr=>c.2.2 r hr p b3,d.1⟩
theorem ug {m:List dD} (hs:vz m) (t:Nat):
    (∃ a p q,m=a++p::q/\p.aV=t/\(∀ r ∈ a,r.aV < t)/\(∀ r ∈ q,t < r.aV)/\bI m t=((a.length:Int),true))\/
    (∃ a q,m=a++q/\(∀ r ∈ a,r.aV < t)/\(∀ r ∈ q,t < r.aV)/\bI m t=((a.length:Int),false)):=by
  obtain⟨a,b,hc,f,g⟩:=De hs t
  have e:∀ x:Int × Bool,x=(x.1,x.2):=λ _=>rfl
  cases hb:(bI m t).2 with
  | true=>
    obtain⟨p,q,rfl,hp⟩:=g.1 hb
    refine .inl ⟨a,p,q,hc.app,hp,hc.lo,λ r hr=> ?_, ?_⟩
    . have:=(Ap (hc.app ▸ hs)).2.2.2 r hr; omega
    . rw [e (bI _ _),f,hb]
  | false=>
    refine .inr ⟨a,b,hc.app,hc.lo,λ r hr=> ?_, ?_⟩
    . have i:=hc.hi r hr
      rcases K5 t r.aV with h | h
      . exact h
      . exfalso
        have c:r.aV=t:=e8
        cases b with
        | nil=>cases hr
        | cons p q=>
          have hup:=Ap (hc.app ▸ hs)
          rcases List.mem_cons.1 hr with d | d
          . exact absurd (g.2 ⟨p,q,rfl,by rw [<- d]; exact c⟩) (by rw [hb]; decide)
          . have:=hup.2.2.2 r d; have:=hc.hi p b3; omega
    . rw [e (bI _ _),f,hb]
open List renaming filter_cons_of_neg->M9,filter_cons_of_pos->P8,length_map->r5,map_cons->s6,mem_filter->N2,mem_map->Q0,mem_or_eq_of_mem_set->Q1,pairwise_map->P9,set->J0,sum_cons->N3
theorem Df:∀ (l m:List Nat),l.Nodup->(∀ x ∈ l,x ∈ m)->q5 l<=q5 m
  | [],m,_,_=>Km _
  | a::l,m,hn,h=>by
    have hn:=List.nodup_cons.1 hn
    have ha:=h a b3
    have b:=Df l (m.erase a) hn.2 λ x hx=>(List.mem_erase_of_ne (λ e=>hn.1 (by rw [<- e]; exact hx))).2 (h x (.tail _ hx))
    have c:=List.length_erase_of_mem ha
    have d:=List.length_pos_of_mem ha
    simp only [q6]
    omega
theorem Dh {l:List aK} (hs:Up l) {t:Nat} {x:aD} {r:aK} (hr:r ∈ iE l t x):r.au=t\/∃ s ∈ l,s.au=r.au:=by
  unfold iE at hr
  rcases P3.1 hr with h | h
  . exact .inr ⟨r,(N2.1 h).1,rfl⟩
  . rcases List.mem_cons.1 h with h | h
    . rw [h]; exact .inl rfl
    . exact .inr ⟨r,(N2.1 h).1,rfl⟩
theorem zh {S:Nat->Prop} {m:List aK} (hf:Fit m) (h:∀ r ∈ m,S r.au) (g d:List Nat):∀ r ∈ (df (Wt m+1) m g d).1,S r.au:=
  (sD (I:=λ l _ _=> ∀ r ∈ l,S r.au) (λ l g' d' r hf hI hr hw _=>λ q hq=>by
    rcases Dh hf.up (N2.1 hq).1 with e | ⟨s,hs,e⟩
    . rw [e]; exact hI r hr
    . rw [<- e]; exact hI s hs) (Wt m+1) m g d e8 hf h).1
theorem xK {t:Nat} {x:aD}:∀ l:List aK,Wt (l.filter λ r=> !dies t x r)+q5 (l.filter (dies t x))=Wt l
  | []=>rfl
  | a::l=>by
    have ih:=xK (t:=t) (x:=x) l
    cases h:dies t x a with
    | true=>
      rw [P8 h,M9 (p:=λ r=> !dies t x r) (by show ¬ (!dies t x a)=true; rw [h]; decide)]
      have hw:a.bn=true:=by unfold dies at h; exact(Bool.and_eq_true _ _ ▸ h).1
      have b:oF a=1:=by unfold oF; rw [if_pos hw]
      unfold Wt at ih ⊢
      simp only [q6,s6,N3]; omega
    | false=>
      rw [M9 (p:=dies t x) (by rw [h]; decide),P8 (p:=λ r=> !dies t x r) (by show (!dies t x a)=true; rw [h]; rfl)]
      unfold Wt at ih ⊢
      simp only [s6,N3]; omega
theorem yz {m:List aK} (hf:Fit m) (g d:List Nat):q5 (df (Wt m+1) m g d).2.1+q5 (df (Wt m+1) m g d).2.2+Wt (df (Wt m+1) m g d).1<=q5 g+q5 d+Wt m:=
  (sD (I:=λ l g' d'=>q5 g'+q5 d'+Wt l<=q5 g+q5 d+Wt m) (λ l g' d' r hf hI hr hw _=>by
    obtain⟨_,_,a⟩:=uU hf.up hr hw r.bf
    have b:=xK (t:=r.au) (x:=r.bf) (iE l r.au r.bf)
    rw [m8,m8,r5]; simp only [q6,H2]; omega) (Wt m+1) m g d e8 hf (Nat.le_refl _)).1
theorem Ez {m:List aK} (hs:Up m) (t:Nat) (x:aD):Wt (oG m t x)<=Wt m+1:=by
  rcases mG hs t with ⟨a,p,q,rfl,hp,ha,hq,_⟩ | ⟨a,q,rfl,ha,hq,_⟩
  . rw [Al x hp ha hq]; unfold Wt oF; simp only [M4,s6,N6,N3]; simp; omega
  . rw [Am x ha hq]; unfold Wt oF; simp only [M4,s6,N6,N3]; simp; omega
theorem EA {m:List aK} {t:Nat} {x:aD} {r:aK} (hr:r ∈ oG m t x):r.au=t\/∃ s ∈ m,s.au=r.au:=by
  unfold oG at hr
  rcases P3.1 hr with h | h
  . exact .inr ⟨r,(N2.1 h).1,rfl⟩
  . rcases List.mem_cons.1 h with h | h
    . rw [h]; exact .inl rfl
    . exact .inr ⟨r,(N2.1 h).1,rfl⟩
theorem D6 {m:List aK} (h:jh m) (t:Nat) (x:aD):(∀ r ∈ (og m t x).2.2.2.2,r.au=t\/∃ s ∈ m,s.au=r.au)/\q5 (og m t x).2.1+q5 (og m t x).2.2.1+Wt (og m t x).2.2.2.2<=Wt m+(if(og m t x).1=2 then 1 else 0):=by
  have triv:∀ r ∈ m,r.au=t\/∃ s ∈ m,s.au=r.au:=λ r hr=> .inr ⟨r,hr,rfl⟩
  unfold og
  by_cases a:dW x.aB=0
  . rw [if_pos a]
    by_cases b:gH (aZ.mk (D4 m)) t=true
    . rw [if_pos b]; exact⟨triv,by simp⟩
    . rw [if_neg b]
      by_cases c:kG (aZ.mk (D4 m)) t x=true
      . rw [if_pos c]; exact⟨triv,by simp⟩
      . rw [if_neg c]
        by_cases d:192<=kQ m
        . rw [if_pos d]; exact⟨triv,by simp⟩
        . rw [if_neg d]
          by_cases e:dX (aZ.mk (D4 m)) t x= []
          . rw [if_pos e]
            obtain⟨l,o⟩:=wM m h.up t x
            have p:=xA m h.up t x
            have q:=h.len
            have u:=h.tot
            have v:=xK (t:=t) (x:=x) (iE m t x)
            have g:kQ (gR m t x)<=kQ (iE m t x):=ma _ _
            have w:q5 (gR m t x)<=q5 (iE m t x):=List.length_filter_le _ _
            have hf:Fit (gR m t x):=⟨(rM h.up t x).filter _,e8,e8⟩
            refine⟨zh (S:=λ n=>n=t\/∃ s ∈ m,s.au=n) hf (λ r hr=> ?_) _ _, ?_⟩
            . exact Dh h.up (N2.1 hr).1
            . have i:=yz hf [] (gD m t x)
              have j:q5 (gD m t x)=q5 ((iE m t x).filter (dies t x)):=r5 ..
              have k:Wt (gR m t x)=Wt ((iE m t x).filter λ r=> !dies t x r):=rfl
              simp only [yX]
              simp only [H2] at i
              omega
          . rw [if_neg e]
            by_cases f:List.getD (dX (aZ.mk (D4 m)) t x) 0 default < t
            . rw [if_pos f]; exact⟨triv,by simp⟩
            . rw [if_neg f]
              refine⟨λ r hr=>EA hr, ?_⟩
              have:=Ez h.up t x
              simpa using this
  . rw [if_neg a]; exact⟨triv,by simp⟩
theorem y8 {m:List aK} (h:jh m) {t:Nat} {x:aD} {s e:Int} {g d:List Nat} {r:aZ} (hr:jr (aZ.mk (D4 m)) t x=(s,g,d,e,r)):
    (∀ q ∈ r.ai.ls,q.au=t\/∃ s ∈ m,s.au=q.au)/\q5 g+q5 d+Wt r.ai.ls<=Wt m+(if s=2 then 1 else 0):=by
  have a:=D6 h t x
  rw [xH h] at hr
  have b:s=_:=(congrArg (λ q=>q.1) hr).symm
  have c:g=_:=(congrArg (λ q=>q.2.1) hr).symm
  have f:d=_:=(congrArg (λ q=>q.2.2.1) hr).symm
  have i:r=_:=(congrArg (λ q=>q.2.2.2.2) hr).symm
  rw [b,c,f,i]
  exact a
theorem AX {m:List aK} (h:jh m) {t:Nat} {g d:List Nat} {r:aZ} (hr:ik (aZ.mk (D4 m)) t=(g,d,r)):
    (∀ q ∈ r.ai.ls,q.au≠t/\∃ s ∈ m,s.au=q.au)/\q5 g+q5 d+Wt r.ai.ls<=Wt m:=by
  unfold ik at hr
  rw [dz,dz,qm h.up,rE] at hr
  have a:g=_:=(congrArg (λ q=>q.1) hr).symm
  have b:d=_:=(congrArg (λ q=>q.2.1) hr).symm
  have c:r=_:=(congrArg (λ q=>q.2.2) hr).symm
  have hf:Fit (but t m):=h.fit.filter _
  rw [a,b,c]
  refine⟨zh (S:=λ n=>n≠t/\∃ s ∈ m,s.au=n) hf (λ r hr=> ?_) _ _, ?_⟩
  . have:=N2.1 hr
    exact⟨of_decide_eq_true this.2,r,this.1,rfl⟩
  . have e:=yz hf [] []
    have f:Wt (but t m)<=Wt m:=ma _ _
    show q5 (qK (df (Wt (but t m)+1) (but t m) [] []).2.1)+q5 (qK (df (Wt (but t m)+1) (but t m) [] []).2.2)+Wt (df (Wt (but t m)+1) (but t m) [] []).1<=_
    rw [yX,yX]
    simp only [H2] at e
    omega
structure Tk (ws:List bG) (hs:List dD) (rs:List aK):Prop where
  wu:rO ws
  hu:vz hs
  dj:∀ w ∈ ws, ∀ h ∈ hs,w.au≠h.aV
  n:q5 ws+q5 hs<=6
  gr:∀ w ∈ ws,(0<=w.aU/\w.aU<=((q5 w.bK.ls:Nat):Int))/\q5 w.cK.ls<=24/\q5 w.bK.ls<=24
  ho:∀ h ∈ hs,q5 h.aJ.ls<=24
  snd:jh rs
  vB:∀ r ∈ rs,(∃ w ∈ ws,w.au=r.au)\/(∃ h ∈ hs,h.aV=r.au)
theorem Tk.wat {ws:List bG} {hs:List dD} {rs:List aK} {i:Nat} {x:bG} (h:Tk ws hs rs) (hx:ws[i]? =some x):(0<=x.aU/\x.aU<=((q5 x.bK.ls:Nat):Int))/\q5 x.cK.ls<=24/\q5 x.bK.ls<=24:=h.gr x (C1 hx)
theorem JC {ws:List bG} {hs:List dD} {rs:List aK} {i:Nat} {x:dD} (h:Tk ws hs rs) (hx:hs[i]? =some x):q5 x.aJ.ls<=24:=h.ho x (C1 hx)
theorem Tk.hops {ws:List bG} {hs:List dD} {rs:List aK} (h:Tk ws hs rs):∀ x ∈ hs,q5 x.aJ.ls<=1000000:=λ x hx=>Nat.le_trans (h.ho x hx) f5
theorem Tk.rows {ws:List bG} {hs:List dD} {rs:List aK} (h:Tk ws hs rs):q5 rs<=6:=by
  have a:=Df (rs.map λ r=>r.au) (ws.map (λ w=>w.au)++hs.map λ x=>x.aV) (P9.2 (h.snd.up.imp λ e=>Nat.ne_of_lt e)) λ x hx=>by
    obtain⟨r,hr,rfl⟩:=Q0.1 hx
    rcases h.vB r hr with ⟨w,hw,e⟩ | ⟨y,hy,e⟩
    . exact List.mem_append_left _ (Q0.2 ⟨w,hw,e⟩)
    . exact List.mem_append_right _ (Q0.2 ⟨y,hy,e⟩)
  have:=h.n
  simp only [r5,m8] at a
  omega
def wG (ws:List bG) (i k:Nat):Prop:=∃ x,ws[i]? =some x/\x.au=k
def gm (ws:List bG) (i:Nat):Nat:=match ws[i]? with
  | some x=>E0 ((q5 x.bK.ls:Int) - x.aU)
  | none=>0
theorem Ch {ws:List bG} {i:Nat} {x:bG} (hx:ws[i]? =some x):gm ws i=E0 ((q5 x.bK.ls:Int) - x.aU):=by unfold gm; rw [hx]
theorem El {ws:List bG} {hs:List dD} {rs:List aK} (h:Tk ws hs rs) (i:Nat):gm ws i<=24:=by
  unfold gm
  cases hx:ws[i]? with
  | none=>exact Km _
  | some x=>have:=h.wat hx; show E0 _<=24; omega
theorem at_set {α:Type} {l:List α} {i:Nat} {x y:α} (hx:l[i]? =some x):(J0 l i y)[i]? =some y:=by
  have:=(p2.1 hx).1
  rw [List.getElem?_set_self this]
theorem Di {ws:List bG} {i:Nat} {x y:bG} (hx:ws[i]? =some x) (hg:x.aU < (q5 x.bK.ls:Int)) (hl:y.bK=x.bK) (hy:y.aU=x.aU+1):gm (J0 ws i y) i+1=gm ws i:=by
  rw [Ch (at_set hx),Ch hx,hl,hy]
  omega
theorem wG.set {ws:List bG} {i k:Nat} {x y:bG} (h:wG ws i k) (hx:ws[i]? =some x) (ht:y.au=x.au):wG (J0 ws i y) i k:=by
  obtain⟨z,hz,e⟩:=h
  rw [hx] at hz; cases hz
  exact⟨y,at_set hx,by rw [ht]; exact e⟩
theorem wO {ws:List bG} {i:Nat} {x y:bG} (hx:ws[i]? =some x) (ht:y.au=x.au):r8 (λ w:bG=>w.au) (J0 ws i y)=r8 (λ w:bG=>w.au) ws:=by
  rw [List.map_set,ht]
  obtain⟨a,rfl⟩:=p2.1 hx
  refine List.ext_getElem? λ j=> ?_
  rw [List.getElem?_set]
  by_cases e:i=j
  . subst e; rw [if_pos rfl,if_pos (by rw [r5]; exact a),List.getElem?_map,hx]; rfl
  . rw [if_neg e]
theorem BC {l:List bG}:rO l↔(r8 (λ w:bG=>w.au) l).Pairwise (· < ·):=P9.symm
theorem yA {l:List bG} {n:Nat}:(∃ w ∈ l,w.au=n)↔n ∈ r8 (λ w:bG=>w.au) l:=Q0.symm
theorem Tk.bump {ws:List bG} {hs:List dD} {rs:List aK} {i:Nat} {x y:bG} (h:Tk ws hs rs) (hx:ws[i]? =some x) (ht:y.au=x.au) (ho:y.cK=x.cK) (hl:y.bK=x.bK) (hg:0<=y.aU/\y.aU<=((q5 y.bK.ls:Nat):Int)):Tk (J0 ws i y) hs rs where
  wu:=by rw [BC,wO hx ht, <- BC]; exact h.wu
  hu:=h.hu
  dj:=λ w hw z hz=>by
    have a:w.au ∈ r8 (λ w:bG=>w.au) ws:=by rw [<- wO hx ht]; exact Q0.2 ⟨w,hw,rfl⟩
    obtain⟨v,hv,e⟩:=Q0.1 a
    rw [<- e]; exact h.dj v hv z hz
  n:=by rw [List.length_set]; exact h.n
  gr:=λ w hw=>by
    rcases Q1 hw with a | a
    . exact h.gr w a
    . rw [a]; refine⟨hg, ?_⟩; rw [ho,hl]; exact(h.wat hx).2
  ho:=h.ho
  snd:=h.snd
  vB:=λ r hr=>by
    rw [yA,wO hx ht, <- yA]; exact h.vB r hr
theorem Tk.ask {ws:List bG} {hs:List dD} {rs:List aK} {i k:Nat} (h:Tk ws hs rs) (hw:wG ws i k) {x:aD} {s e:Int} {g d:List Nat} {r:aZ} (hr:jr (aZ.mk (D4 rs)) k x=(s,g,d,e,r)):Tk ws hs r.ai.ls where
  wu:=h.wu
  hu:=h.hu
  dj:=h.dj
  n:=h.n
  gr:=h.gr
  ho:=h.ho
  snd:=C9 h.snd hr
  vB:=λ q hq=>by
    rcases (y8 h.snd hr).1 q hq with e | ⟨z,hz,e⟩
    . obtain⟨y,hy,a⟩:=hw
      exact .inl ⟨y,C1 hy,by rw [a,e]⟩
    . rw [<- e]; exact h.vB z hz
theorem rQ {m:ax} (hs:rO m.ag.ls) {k:Nat} {i:Int} (hf:dh m k=(i,true)):wG m.ag.ls (E0 i) k:=by
  have e:dh m k=bF m.ag.ls k:=rfl
  rw [e] at hf
  rcases rP hs k with ⟨a,p,q,b,hp,ha,hq,h⟩ | ⟨a,q,b,ha,hq,h⟩
  . rw [h] at hf
    have c:i=(a.length:Int):=(congrArg Prod.fst hf).symm
    refine⟨p, ?_,hp⟩
    rw [b,c,Int.toNat_natCast]; simp
  . rw [h] at hf
    exact Bool.noConfusion (show false=true from congrArg Prod.snd hf)
theorem rR {m:ax} (hs:rO m.ag.ls) {k:Nat} {i:Nat} (hw:wG m.ag.ls i k):dh m k=((i:Int),true):=by
  obtain⟨x,hx,f⟩:=hw
  have e:dh m k=bF m.ag.ls k:=rfl
  rw [e]
  rcases rP hs k with ⟨a,p,q,c,hp,ha,hq,h⟩ | ⟨a,q,c,ha,hq,h⟩
  . rw [h]
    have d:m.ag.ls[a.length]? =some p:=by rw [c]; simp
    rcases Nat.lt_trichotomy i a.length with b | b | b
    . have:=yx hs hx d b; omega
    . rw [b]
    . have:=yx hs d hx b; omega
  . exfalso
    rw [c] at hx
    have hm:=C1 hx
    rcases P3.1 hm with b | b
    . have:=ha x b; omega
    . have:=hq x b; omega
def Gt (ws:List bG):Prop:=∀ w ∈ ws,w.aU < ((q5 w.bK.ls:Nat):Int)
def Gx (k:Nat) (ws:List bG):Prop:=∀ w ∈ ws,w.au≠k->w.aU < ((q5 w.bK.ls:Nat):Int)
theorem Gt.wat {ws:List bG} {i:Nat} {x:bG} (h:Gt ws) (hx:ws[i]? =some x):x.aU < ((q5 x.bK.ls:Nat):Int):=h x (C1 hx)
theorem Gt.gx {ws:List bG} (h:Gt ws) (k:Nat):Gx k ws:=λ w hw _=>h w hw
theorem Gx.set {ws:List bG} {i k:Nat} {y:bG} (h:Gx k ws) (hy:y.au=k):Gx k (J0 ws i y):=λ w hw hn=>by
  rcases Q1 hw with e | e
  . exact h w e hn
  . rw [e] at hn; exact absurd hy hn
open List renaming length_replicate->L4
open _root_.Go.Proofs.Tryz renaming isAgg3->v5
section
open Go.RowKit
def jk (h:bJ) (n:Nat) (c:ax) (i:StoreT) (k:Int):Nat->List di->List aK->List bG->((List di) × (List aK) × (List bG) × bG) ⊕ (Int × bJ × ax × aZ)
  | 0,j,l,f=>Sum.inl default
  | o+1,j,l,f=>bnd (List.getD f (E0 k) default) λ b=>if b.aU < (b.bK.ls.length:Int) then bnd (List.getD b.bK.ls (E0 b.aU) default) λ m=>bnd (jr (aZ.mk (D4 l)) n m) λ a=>if a.2.2.2.1=0 then bnd (kV (bJ.mk h.av (D4 j)) a.2.1 a.2.2.1) λ d=>if a.1=2 then Sum.inr (0,bJ.mk h.av (D4 d.bD.ls),ax.mk c.aa (D4 f),a.2.2.2.2) else if a.1=3 then bnd (j5 (bJ.mk h.av (D4 d.bD.ls)) n (ax.mk c.aa (D4 f))) λ e=>bnd (gu (bJ.mk (dH.mk (D4 e.1.av.bE.ls) (D4 h.av.aI.ls) h.av.bU) (D4 d.bD.ls)) n (ax.mk c.aa (D4 e.2.ag.ls)) a.2.2.2.2) λ g=>Sum.inr (0,bJ.mk (dH.mk (D4 e.1.av.bE.ls) (D4 h.av.aI.ls) h.av.bU) (D4 g.1.bD.ls),ax.mk c.aa (D4 e.2.ag.ls),g.2) else jk h n c i k o d.bD.ls a.2.2.2.2.ai.ls (J0 f (E0 k) (bG.mk b.au (D4 b.cK.ls) (D4 b.bK.ls) (b.aU+1))) else Sum.inr (a.2.2.2.1,bJ.mk h.av (D4 j),ax.mk c.aa (D4 f),a.2.2.2.2) else Sum.inl (j,l,f,b)
def gX (g:bJ) (h:Nat) (a:ax) (d:StoreT) (e:aZ):Int × bJ × ax × aZ:=
 bnd (dh a h) λ b=>if b.2=true then lp (jk g h a d b.1 ((gm a.ag.ls (E0 b.1))+1) g.bD.ls e.ai.ls a.ag.ls) λ sLrbtbL=>bnd (eY (ax.mk a.aa (D4 (t1 (E0 b.1) sLrbtbL.2.2.1++r7 ((E0 b.1)+1) sLrbtbL.2.2.1))) sLrbtbL.2.2.2.au) λ c=>bnd (ji (bJ.mk g.av (D4 sLrbtbL.1)) (dD.mk sLrbtbL.2.2.2.au (D4 sLrbtbL.2.2.2.cK.ls)) (ax.mk (bA.mk a.aa.bC a.aa.aT a.aa.bv a.aa.aL a.aa.aG (D4 a.aa.ah.ls) (D4 (t1 (E0 c.1) a.aa.ak.ls++((dD.mk sLrbtbL.2.2.2.au (D4 sLrbtbL.2.2.2.cK.ls))::r7 (E0 c.1) a.aa.ak.ls))) (D4 a.aa.af.ls) a.aa.bi a.aa.aM a.aa.aH a.aa.aF) (D4 (t1 (E0 b.1) sLrbtbL.2.2.1++r7 ((E0 b.1)+1) sLrbtbL.2.2.1))) d) λ f=>(f.1,bJ.mk (dH.mk (D4 f.2.av.bE.ls) (D4 g.av.aI.ls) g.av.bU) (D4 sLrbtbL.1),ax.mk (bA.mk a.aa.bC a.aa.aT a.aa.bv a.aa.aL a.aa.aG (D4 a.aa.ah.ls) (D4 (t1 (E0 c.1) a.aa.ak.ls++((dD.mk sLrbtbL.2.2.2.au (D4 sLrbtbL.2.2.2.cK.ls))::r7 (E0 c.1) a.aa.ak.ls))) (D4 a.aa.af.ls) a.aa.bi a.aa.aM a.aa.aH a.aa.aF) (D4 (t1 (E0 b.1) sLrbtbL.2.2.1++r7 ((E0 b.1)+1) sLrbtbL.2.2.1)),aZ.mk (D4 sLrbtbL.2.1)) else(0,g,a,e)
theorem pM (w D g0) (M:bJ) (O P Q W V dw dx p1 u) (a:ax) (G I s h j J K d l aa B) (C:StoreT) (F E x) (N:aZ) (ak au X r0) (r1:bJ) (r2:ax) (r3:aZ) (H:Own w D w [blk g0 [.pointer (some ⟨u,0,none⟩), .slice O M.av.bE.ls.length P, .slice W M.av.aI.ls.length V, .bool M.av.bU, .slice dw M.bD.ls.length dx] 92,row O M.av.bE.ls.length P (q0 bV.cells Q) 47 21,sepL (q0 Hl Q),je dw M.bD.ls.length dx (q0 di.cells M.bD.ls) 216 2,blk u [.int .i64 a.aa.bC, .int .u64 ((a.aa.aT:Nat):Int), .int .u64 ((a.aa.bv:Nat):Int), .int .u64 ((a.aa.aL:Nat):Int), .int .u64 ((a.aa.aG:Nat):Int), .slice G a.aa.ah.ls.length I, .slice s a.aa.ak.ls.length h, .slice J a.aa.af.ls.length K, .int .u64 ((a.aa.bi:Nat):Int), .int .u64 ((a.aa.aM:Nat):Int), .string ⟨u3 a.aa.aH.aO⟩, .string ⟨u3 a.aa.aH.aS⟩, .int .u64 ((a.aa.aF.aG:Nat):Int), .int .u64 ((a.aa.aF.bu:Nat):Int), .int .u64 ((a.aa.aF.dA:Nat):Int), .string ⟨u3 a.aa.aF.aB.aO⟩, .string ⟨u3 a.aa.aF.aB.aS⟩, .iface 24 (.pointer (some ⟨B,0,none⟩)), .slice d a.ag.ls.length l, .pointer (some ⟨x,0,none⟩), .pointer none] 80,row s a.aa.ak.ls.length h (q0 bg.cells j) 60 2,sepL (q0 He j),row d a.ag.ls.length l (q0 aR.cells aa) 99 4,sepL (q0 G5 aa),blk B [.slice F C.xM.ls.length E] 27,blk x [.slice ak N.ai.ls.length au] 114,row ak N.ai.ls.length au (q0 ay.cells X) 164 6,sepL (q0 GU X)]) (aH:r8 bV.abs Q=M.av.bE.ls) (iq:Ro w D λ w'=>bM w' 6 W M.av.aI.ls.length (q0 aY.cells M.av.aI.ls)) (lh:M.av.aI.ls.length<=V/\M.av.aI.ls.length<=9223372036854775807) (R:r8 bg.abs j=a.aa.ak.ls) (ai:r8 aR.abs aa=a.ag.ls) (bZ:Ro w D λ w'=>bM w' 2 F C.xM.ls.length (q0 aA.cells C.xM.ls)) (iw:C.xM.ls.length<=E/\C.xM.ls.length<=9223372036854775807) (aC:r8 ay.abs X=N.ai.ls) (oG:Tk a.ag.ls a.aa.ak.ls N.ai.ls) (oH:a.ag.ls.length+a.aa.ak.ls.length<=6) (oI:N.ai.ls.length<=6) (oJ:M.av.bE.ls.length<=90000/\M.bD.ls.length<=90000/\M.av.aI.ls.length<=1000/\C.xM.ls.length<=4000) (hr:gX M p1 a C N=(r0,r1,r2,r3)):
    Calls Tryz.prog 83 #[vP g0 0,vU p1] w (dG λ v w'=> ∃ dQ dR cu dS dU dV dW cz dX dZ cB ed ek cK,v=vI r0/\Own w D w' [blk g0 [vP u 0, .slice dQ r1.av.bE.ls.length dR, .slice W M.av.aI.ls.length V, .bool M.av.bU, .slice dS r1.bD.ls.length dU] 92,row dQ r1.av.bE.ls.length dR (q0 bV.cells cu) 47 21,sepL (q0 Hl cu),je dS r1.bD.ls.length dU (q0 di.cells r1.bD.ls) 216 2,blk u [vI a.aa.bC,vU a.aa.aT,vU a.aa.bv,vU a.aa.aL,vU a.aa.aG, .slice G a.aa.ah.ls.length I, .slice dV r2.aa.ak.ls.length dW, .slice J a.aa.af.ls.length K,vU a.aa.bi,vU a.aa.aM, .string ⟨u3 a.aa.aH.aO⟩, .string ⟨u3 a.aa.aH.aS⟩,vU a.aa.aF.aG,vU a.aa.aF.bu,vU a.aa.aF.dA, .string ⟨u3 a.aa.aF.aB.aO⟩, .string ⟨u3 a.aa.aF.aB.aS⟩, .iface 24 (vP B 0), .slice dX r2.ag.ls.length dZ,vP x 0, .pointer none] 80,row dV r2.aa.ak.ls.length dW (q0 bg.cells cz) 60 2,sepL (q0 He cz),row dX r2.ag.ls.length dZ (q0 aR.cells cB) 99 4,sepL (q0 G5 cB),blk B [.slice F C.xM.ls.length E] 27,blk x [.slice ed r3.ai.ls.length ek] 114,row ed r3.ai.ls.length ek (q0 ay.cells cK) 164 6,sepL (q0 GU cK)]/\(r8 bV.abs cu=r1.av.bE.ls)/\(r8 bg.abs cz=r2.aa.ak.ls)/\(r8 aR.abs cB=r2.ag.ls)/\(r8 ay.abs cK=r3.ai.ls)):=by
 have lg:=aW aH
 have jw:=aW R
 have jy:=aW ai
 have gF:=aW aC
 have ll:=zr 1 H
 have lm:=H.rowCQ (i:=3) rfl
 have jB:=zr 5 H
 have jC:=zr 7 H
 refine cb Tryz.func83 ?_
 refine sr (Ar rfl (Mz rfl (Kz (vP g0 0) (Kz (vP g0 0) (Lz (vP u 0) H 0 P0 (Mz rfl ?_))))))
 have gB:=H.pf [4]
 have mR:=zr 7 gB
 obtain⟨⟨g,cO⟩,aL⟩:∃ q:Int × Bool,dh a p1=q:=⟨_,rfl⟩
 obtain⟨oK,jD,mU,jE,eu⟩:=G9 gB
 refine cl Tryz.call79 (iY _ _ u a G I s h J K d l aa B x p1 g cO jD ai (eu _ 6 _ rfl bQ) e8 (λ x9 h9=>⟨eu _ 7 _ rfl (bP (M5.2 ⟨x9,h9,b3⟩) bQ),dJ (φ:=λ _=>_) gB (i:=8) rfl (bP (M5.2 ⟨x9,h9,b3⟩) dN),eu _ 7 _ rfl (bP (M5.2 ⟨x9,h9, .tail _ b3⟩) bQ),dJ (φ:=λ _=>_) gB (i:=8) rfl (bP (M5.2 ⟨x9,h9, .tail _ b3⟩) dN)⟩) f0 aL) ?_
 rintro _ oL ⟨rfl,jG,gG,gH⟩
 have bv:=jE _ _ jG
 replace gG:0<=g/\g<=(a.ag.ls.length:Int):=gG
 replace gH:Bool.toNat cO=0\/g < (a.ag.ls.length:Int):=gH
 refine Mz rfl (Kz (vI g) (Kz (.bool cO) (Az rfl (An rfl (Gp (sr (Mz rfl (Kz (.bool (!cO)) (nt ?_)))))))))
 rcases Kq (cO) with aN | aN
 have h36t:Bool.toNat cO=1:=by rw [aN]; rfl
 refine jF (cn aN) (sk (sr (Mz rfl (Kz (vP g0 0) (Kz (vP g0 0) (Lz (vP u 0) bv 1 P0 (Kz (vP u 0) (Kz (vP u 18) (Lz (.slice d a.ag.ls.length l) bv 0 Tryz.isAgg77 (fw (vJ (E0 g)) (Gw (e:=g) (Gv rfl) e8) ?_))))))))))
 obtain⟨aI,eB⟩:=dI (ls:=aa) (i:=E0 g) aR.len f5 (bv.rds (i:=7) rfl) f2
 have eD:=fO ai eB
 have mV:aI.cK.ls.length<=aI.cK.c/\aI.cK.ls.length<=9223372036854775807:=dJ bv (i:=8) rfl (φ:=λ _=>_) (bP (M5.2 ⟨aI,C1 eB,b3⟩) dN)
 have mW:aI.bK.ls.length<=aI.bK.c/\aI.bK.ls.length<=9223372036854775807:=dJ bv (i:=8) rfl (φ:=λ _=>_) (bP (M5.2 ⟨aI,C1 eB, .tail _ b3⟩) dN)
 obtain⟨mX,mY,mZ⟩:(0<=aI.aU/\aI.aU<=(aI.bK.ls.length:Int))/\aI.cK.ls.length<=24/\aI.bK.ls.length<=24:=Tk.wat (ws:=a.ag.ls) f6 eD
 have ng:N.ai.ls.length<=6:=Tk.rows (ws:=a.ag.ls) (hs:=a.aa.ak.ls) f6
 have ni:a.ag.ls.length+a.aa.ak.ls.length<=6:=Tk.n (ws:=a.ag.ls) (rs:=N.ai.ls) f6
 refine fw (.pointer (some ⟨ab d,ao d+(E0 g) *4,none⟩)) (GI (lC) rfl rfl ((bv.rds (i:=7) rfl).addr (i:=E0 g) e8) e8) (An rfl (Gp (bo ?_)))
 have lq:=bv.pb [8,4,11,12]
 obtain⟨lu,eF⟩:=FV λ aO (aP:Nat) Y cZ (df:Nat) bB aG T p (eG:Nat) w'=>Own w D w' [blk u [vI a.aa.bC,vU a.aa.aT,vU a.aa.bv,vU a.aa.aL,vU a.aa.aG, .slice G a.aa.ah.ls.length I, .slice s a.aa.ak.ls.length h, .slice J a.aa.af.ls.length K,vU a.aa.bi,vU a.aa.aM, .string ⟨u3 a.aa.aH.aO⟩, .string ⟨u3 a.aa.aH.aS⟩,vU a.aa.aF.aG,vU a.aa.aF.bu,vU a.aa.aF.dA, .string ⟨u3 a.aa.aF.aB.aO⟩, .string ⟨u3 a.aa.aF.aB.aS⟩, .iface 24 (vP B 0), .slice d a.ag.ls.length l,vP x 0, .pointer none] 80,blk g0 [vP u 0, .slice O M.av.bE.ls.length P, .slice W M.av.aI.ls.length V, .bool M.av.bU, .slice aO Y.length aP] 92,row O M.av.bE.ls.length P (q0 bV.cells Q) 47 21,sepL (q0 Hl Q),row s a.aa.ak.ls.length h (q0 bg.cells j) 60 2,sepL (q0 He j),row d a.ag.ls.length l (q0 aR.cells T) 99 4,blk B [.slice F C.xM.ls.length E] 27,blk x [.slice cZ aG.length df] 114,sepL (q0 G5 T),je aO Y.length aP (q0 di.cells Y) 216 2,row cZ aG.length df (q0 ay.cells bB) 164 6,sepL (q0 GU bB)]/\r8 aR.abs T=p/\p.length=a.ag.ls.length/\r8 ay.abs bB=aG/\Tk p a.aa.ak.ls aG/\wG p (E0 g) p1/\Y.length+24 *gm p (E0 g)<=91000/\gm p (E0 g) < eG/\jk M p1 a C g ((gm a.ag.ls (E0 g))+1) M.bD.ls N.ai.ls a.ag.ls=jk M p1 a C g eG Y aG p
 refine Wp.loop (λ i:(Option Addr) × Nat × (List di) × (Option Addr) × Nat × (List ay) × (List aK) × (List aR) × (List bG) × Nat=> [(4,vI 0),(7, .pointer (some ⟨ab d,ao d+(E0 g) *4,none⟩)),(0,vP g0 0),(1,vU p1)]) lu (λ i=>i.2.2.2.2.2.2.2.2.2) (dw,dx,M.bD.ls,ak,au,X,N.ai.ls,aa,a.ag.ls,(gm a.ag.ls (E0 g))+1) ⟨rfl,rfl,rfl,rfl,trivial⟩ (eF.2 ⟨lq,by exact ai,by first | omega | (simp only [J1] <;> omega) | (simp only [L4]),by exact aC,by first | assumption | (refine Tk.bump ?_ eD rfl rfl rfl ?_; assumption; (dsimp only; omega)),by first | assumption | exact wG.set f6 eD rfl | exact rQ (Tk.wu f6) (aL.trans (congrArg (λ q=>(_,q)) aN)),by first | omega | (have q9:=El (by assumption:Tk a.ag.ls _ _) (E0 g); omega),e8,rfl⟩) ?_
 rintro ⟨aO,aP,Y,cZ,df,bB,aG,T,p,eG⟩ oM jH
 show Wp _ _ _ [(4,vI 0),(7, .pointer (some ⟨ab d,ao d+(E0 g) *4,none⟩)),(0,vP g0 0),(1,vU p1)] _ _
 obtain⟨lv,aj,nk,eH,nu,ny,nz,nA,bC⟩:=eF.1 jH
 have nC:=aW aj
 have nD:=aW eH
 obtain⟨iy,jI⟩:∃ q,eG=q+1:=⟨eG - 1,e8⟩
 subst jI
 refine Gp (Gp ?_)
 refine l5 13 [] (GD (GD (GD (bH.block (GD GQ))))) lv ?_
 intro oN iA
 refine qv 0 rfl rfl (qk (.pointer (some ⟨ab d,ao d+(E0 g) *4,none⟩)) 1 rfl (qk (.pointer (some ⟨ab d,ao d+(E0 g) *4+3,none⟩)) 2 rfl ?_))
 obtain⟨b,Z⟩:=mK (ls:=T) (i:=E0 g) f2
 have av:=fO aj Z
 obtain⟨nE,nG,nH⟩:(0<=b.aU/\b.aU<=(b.bK.ls.length:Int))/\b.cK.ls.length<=24/\b.bK.ls.length<=24:=Tk.wat (ws:=p) f6 av
 have nI:aG.length<=6:=Tk.rows (ws:=p) (hs:=a.aa.ak.ls) f6
 have nJ:p.length+a.aa.ak.ls.length<=6:=Tk.n (ws:=p) (rs:=aG) f6
 refine qt (v:=vI b.aU) 3 rfl (λ _ ⟨_,H9⟩=>GH rfl (bS.one v5 (((H9.rds (i:=6) rfl).elem aR.len Z f5).at_ (k:=3) rfl))) (qv 4 rfl rfl (qk (.pointer (some ⟨ab d,ao d+(E0 g) *4,none⟩)) 5 rfl (qk (.pointer (some ⟨ab d,ao d+(E0 g) *4+2,none⟩)) 6 rfl (qt (v:= .slice b.bK.A b.bK.ls.length b.bK.c) 7 rfl (λ _ ⟨_,H9⟩=>GH rfl (bS.one Tryz.isAgg97 (((H9.rds (i:=6) rfl).elem aR.len Z f5).at_ (k:=2) rfl))) (qk (vJ b.bK.ls.length) 8 rfl (qk (.bool (decide (b.aU < (b.bK.ls.length:Int)))) 9 rfl (qn (Gs ?_))))))))
 by_cases dm:b.aU < (b.bK.ls.length:Int)
 refine jT (dT dm) (sk (bo (Gp ?_)))
 refine l5 13 [18] (GD (bH.block (GD (bH.block (GD GQ))))) iA ?_
 intro oO lw
 refine qv 0 rfl rfl (qp g0 0 1 rfl (qp g0 0 2 rfl (ql 3 rfl 1 P0 rfl rfl rfl (qp u 0 4 rfl (qp u 19 5 rfl (ql 6 rfl 0 Tryz.isAgg75 rfl rfl rfl (qv 7 rfl rfl (qv 8 rfl rfl (qk (.pointer (some ⟨ab d,ao d+(E0 g) *4,none⟩)) 9 rfl (qk (.pointer (some ⟨ab d,ao d+(E0 g) *4+2,none⟩)) 10 rfl (qt (v:= .slice b.bK.A b.bK.ls.length b.bK.c) 11 rfl (λ _ ⟨_,H9⟩=>GH rfl (bS.one Tryz.isAgg97 (((H9.rds (i:=6) rfl).elem aR.len Z f5).at_ (k:=2) rfl))) (qv 12 rfl rfl (qk (.pointer (some ⟨ab d,ao d+(E0 g) *4,none⟩)) 13 rfl (qk (.pointer (some ⟨ab d,ao d+(E0 g) *4+3,none⟩)) 14 rfl (qt (v:=vI b.aU) 15 rfl (λ _ ⟨_,H9⟩=>GH rfl (bS.one v5 (((H9.rds (i:=6) rfl).elem aR.len Z f5).at_ (k:=3) rfl))) ?_)))))))))))))))
 obtain⟨gD,bD⟩:=mK (ls:=b.bK.ls) (i:=E0 b.aU) f2
 refine qt (v:= .pointer (some ⟨ab b.bK.A,ao b.bK.A+(E0 b.aU) *3,none⟩)) 16 rfl (λ _ ⟨_,H9⟩=>GI (uk) rfl (EP (r:=b.aU) rfl e8) ((dJ H9 (i:=9) rfl (bP (M5.2 ⟨b,C1 Z, .tail _ b3⟩) bQ)).addr (i:=E0 b.aU) e8) e8) (qt (v:= .agg (aD.cells gD).toArray) 17 rfl (λ _ ⟨_,H9⟩=>GH rfl (GJ (cs:=(aD.cells gD)) Tryz.isAgg118 Tryz.sizeOf118 ((dJ H9 (i:=9) rfl (bP (M5.2 ⟨b,C1 Z, .tail _ b3⟩) bQ)).elem aD.len bD f5))) ?_)
 have lD:=lw.pf [8,11,12]
 obtain⟨⟨bE,aQ,aS,aM,U⟩,aJ⟩:∃ q:Int × (List Nat) × (List Nat) × Int × aZ,jr (aZ.mk (D4 aG)) p1 gD=q:=⟨_,rfl⟩
 obtain⟨oP,jJ,nK,jK,nM⟩:=H6 lD
 refine qd 18 rfl (GV Tryz.call38 rfl (wD _ _ x (aZ.mk (D4 aG)) cZ df bB p1 gD bE aQ aS aM U jJ eH f9 (by first | assumption | exact jh.hd f6 | exact(Tk.snd f6).hd) (by first | assumption | exact Tk.snd f6) aJ) ?_)
 rintro _ jL ⟨bF,bI,bK,bL,af,ag,ah,rfl,iB,aT,eP⟩
 have bi:=jK _ _ iB
 have lF:=aW aT
 have lH:=zr 0 bi
 have lI:=zr 1 bi
 have lJ:=zr 3 bi
 replace eP:aQ.length<=12/\aS.length<=12:=eP
 have iC:Tk p a.aa.ak.ls U.ai.ls:=Tk.ask f6 f6 aJ
 have lL:U.ai.ls.length<=6:=Tk.rows iC
 refine⟨.inl e9, ?_⟩
 refine Hf (v:= .tuple #[vI bE, .slice bF aQ.length bI, .slice bK aS.length bL,vI aM]) 19 rfl e9 (λ _=>Gv rfl) (Hf (v:=vI bE) 20 rfl e9 (λ _=>yk) (Hf (v:= .slice bF aQ.length bI) 21 rfl e9 (λ _=>yk) (Hf (v:= .slice bK aS.length bL) 22 rfl e9 (λ _=>yk) (Hf (v:=vI aM) 23 rfl e9 (λ _=>yk) (Hf (v:=vI bE) 24 rfl e9 (λ _=>H8 rfl) (Hf (v:= .slice bF aQ.length bI) 25 rfl e9 (λ _=>H8 rfl) (Hf (v:= .slice bK aS.length bL) 26 rfl e9 (λ _=>H8 rfl) (Hf (v:=vI aM) 27 rfl e9 (λ _=>H8 rfl) (qn (Gs (Gp (sr (Mz rfl (fw (.bool (decide (¬ (aM=0)))) (GN (e:= !(decide (aM=0))) yk decide_not.symm) (nt ?_)))))))))))))))
 by_cases bn:aM=0
 refine jF (dF (Ko bn)) (sk (sr (Mz rfl (Mz rfl (Mz rfl ?_)))))
 have jM:=bi.pf [6,14]
 obtain⟨S,bu⟩:∃ q,kV (bJ.mk M.av (D4 Y)) aQ aS=q:=⟨_,rfl⟩
 obtain⟨nN,iD,lM,iE,eQ⟩:=Ht jM
 refine cl Tryz.call137 (qX _ _ g0 (bJ.mk M.av (D4 Y)) O P W V aO aP u bF aQ.length bI aQ bK aS.length bL aS S iD (eQ _ 0 _ rfl bQ) rfl e8 (eQ _ 1 _ rfl bQ) rfl e8 f0 bu) ?_
 rintro _ gI ⟨az,aB,rfl,iF,eT⟩
 have gJ:=iE _ _ iF
 have lN:=gJ.rowCQ (i:=1) rfl
 replace eT:S.bD.ls.length=Y.length+aQ.length+aS.length:=eT
 have lQ:gm (J0 p (E0 g) (bG.mk b.au (D4 b.cK.ls) (D4 b.bK.ls) (b.aU+1))) (E0 g)+1=gm p (E0 g):=Di (ws:=p) (y:=(bG.mk b.au (D4 b.cK.ls) (D4 b.bK.ls) (b.aU+1))) av (show b.aU < (b.bK.ls.length:Int) from by omega) rfl rfl
 refine nt (Gp (Gp ?_))
 have bq:=gJ.px [] [2,3] []
 refine Gq (Mn rfl (bo (sr (Kz (.bool (decide (bE=2))) (An rfl ?_)))))
 by_cases bO:bE=2
 refine jT (dT bO) (sr (An rfl (rt (bR (tR (bR (tR (bR (tR (rs ?_))))))))))
 have aU:a.ag.ls.length=p.length:=by first | omega | (simp only [J1]; done) | (simp only [J1,m8,q6,H2,m6,m7,L4]; omega)
 have jN:Own w D gI [blk g0 [vP u 0, .slice O M.av.bE.ls.length P, .slice W M.av.aI.ls.length V, .bool M.av.bU, .slice az S.bD.ls.length aB] 92,je az S.bD.ls.length aB (q0 di.cells S.bD.ls) 216 2,blk x [.slice af U.ai.ls.length ag] 114,row af U.ai.ls.length ag (q0 ay.cells ah) 164 6,sepL (q0 GU ah),blk u [vI a.aa.bC,vU a.aa.aT,vU a.aa.bv,vU a.aa.aL,vU a.aa.aG, .slice G a.aa.ah.ls.length I, .slice s a.aa.ak.ls.length h, .slice J a.aa.af.ls.length K,vU a.aa.bi,vU a.aa.aM, .string ⟨u3 a.aa.aH.aO⟩, .string ⟨u3 a.aa.aH.aS⟩,vU a.aa.aF.aG,vU a.aa.aF.bu,vU a.aa.aF.dA, .string ⟨u3 a.aa.aF.aB.aO⟩, .string ⟨u3 a.aa.aF.aB.aS⟩, .iface 24 (vP B 0), .slice d p.length l,vP x 0, .pointer none] 80,row O M.av.bE.ls.length P (q0 bV.cells Q) 47 21,sepL (q0 Hl Q),row s a.aa.ak.ls.length h (q0 bg.cells j) 60 2,sepL (q0 He j),row d p.length l (q0 aR.cells T) 99 4,blk B [.slice F C.xM.ls.length E] 27,sepL (q0 G5 T)]:=by first | (rw [<- aU]; exact bq) | (have q9:=bq; rw [aU] at q9; exact q9)
 have jO:=jN.px [0,6,7] [] [11,2,3,4]
 obtain⟨rfl,rfl,rfl,rfl⟩:=iR (zj hr (show _=(0,bJ.mk M.av (D4 S.bD.ls),ax.mk a.aa (D4 p),U) from et (ae aL) (et (ip aN) (iG (et (bC) (et (ae (bz av)) (et (ip dm) (et (ae (bz bD)) (et (ae aJ) (et (ip bn) (et (ae bu) (ip bO))))))))))))
 exact⟨O,P,Q,az,aB,s,h,j,d,l,T,af,ag,ah,(by first | rfl | (rw [<- aU]; done) | (rw [<- aU]; rfl) | (rw [aU]; first | done | rfl)),jO,aH,R,aj,aT⟩
 refine jF (dF bO) (sr (Kz (.bool (decide (bE=3))) (An rfl ?_)))
 by_cases dz:bE=3
 refine jT (dT dz) (sr (Mz rfl (Mz rfl ?_)))
 have aV:a.ag.ls.length=p.length:=by first | omega | (simp only [J1]; done) | (simp only [J1,m8,q6,H2,m6,m7,L4]; omega)
 have jP:Own w D gI [blk g0 [vP u 0, .slice O M.av.bE.ls.length P, .slice W M.av.aI.ls.length V, .bool M.av.bU, .slice az S.bD.ls.length aB] 92,je az S.bD.ls.length aB (q0 di.cells S.bD.ls) 216 2,blk x [.slice af U.ai.ls.length ag] 114,row af U.ai.ls.length ag (q0 ay.cells ah) 164 6,sepL (q0 GU ah),blk u [vI a.aa.bC,vU a.aa.aT,vU a.aa.bv,vU a.aa.aL,vU a.aa.aG, .slice G a.aa.ah.ls.length I, .slice s a.aa.ak.ls.length h, .slice J a.aa.af.ls.length K,vU a.aa.bi,vU a.aa.aM, .string ⟨u3 a.aa.aH.aO⟩, .string ⟨u3 a.aa.aH.aS⟩,vU a.aa.aF.aG,vU a.aa.aF.bu,vU a.aa.aF.dA, .string ⟨u3 a.aa.aF.aB.aO⟩, .string ⟨u3 a.aa.aF.aB.aS⟩, .iface 24 (vP B 0), .slice d p.length l,vP x 0, .pointer none] 80,row O M.av.bE.ls.length P (q0 bV.cells Q) 47 21,sepL (q0 Hl Q),row s a.aa.ak.ls.length h (q0 bg.cells j) 60 2,sepL (q0 He j),row d p.length l (q0 aR.cells T) 99 4,blk B [.slice F C.xM.ls.length E] 27,sepL (q0 G5 T)]:=by first | (rw [<- aV]; exact bq) | (have q9:=bq; rw [aV] at q9; exact q9)
 have jQ:=jP.pf [0,6,7,5,10,12]
 obtain⟨⟨bT,dA⟩,eU⟩:∃ q:bJ × ax,j5 (bJ.mk M.av (D4 S.bD.ls)) p1 (ax.mk a.aa (D4 p))=q:=⟨_,rfl⟩
 obtain⟨nO,iH,lS,iI,lT⟩:=Ic jQ
 refine cl Tryz.call138 (tQ _ _ g0 (bJ.mk M.av (D4 S.bD.ls)) O P Q W V az aB p1 u (ax.mk a.aa (D4 p)) G I s h J K d l T B x bT dA iH aH aj f0 eU) ?_
 rintro _ nP ⟨gK,gL,jR,gM,gN,jS,rfl,iJ,eX,eZ,fe⟩
 have fo:=iI _ _ iJ
 have lU:=aW eX
 have lV:=aW eZ
 have lW:=zr 1 fo
 have lX:=zr 4 fo
 replace fe:bT.av.bE.ls.length=M.av.bE.ls.length+1:=fe
 refine ns (Mz rfl (Mz rfl ?_))
 have jV:=fo.pf [0,6,3,7,8,9]
 obtain⟨⟨fq,gP⟩,fu⟩:∃ q:bJ × aZ,gu (bJ.mk (dH.mk (D4 bT.av.bE.ls) (D4 M.av.aI.ls) M.av.bU) (D4 S.bD.ls)) p1 (ax.mk a.aa (D4 dA.ag.ls)) U=q:=⟨_,rfl⟩
 obtain⟨nQ,iK,lY,iL,lZ⟩:=Ic jV
 refine cl Tryz.call89 (nZ _ _ g0 (bJ.mk (dH.mk (D4 bT.av.bE.ls) (D4 M.av.aI.ls) M.av.bU) (D4 S.bD.ls)) gK gL W V az aB p1 u (ax.mk a.aa (D4 dA.ag.ls)) G I s h J K gM gN B x U af ag ah fq gP iK aT f0 (by first | assumption | exact Tk.snd f6) fu) ?_
 rintro _ nR ⟨jW,jX,jY,jZ,j3,rfl,iM,fA,fB⟩
 have fD:=iL _ _ iM
 have l6:=aW fA
 have l7:=fD.rowCQ (i:=1) rfl
 have l8:=zr 4 fD
 replace fB:fq.bD.ls.length<=S.bD.ls.length+24:=fB
 refine ns (An rfl (rt (bR (tR (bR (tR (bR (tR (rs ?_)))))))))
 have j4:=fD.px [0,6,7] [] [8,9,12,3,4,5]
 obtain⟨rfl,rfl,rfl,rfl⟩:=iR (zj hr (show _=(0,bJ.mk (dH.mk (D4 bT.av.bE.ls) (D4 M.av.aI.ls) M.av.bU) (D4 fq.bD.ls),ax.mk a.aa (D4 dA.ag.ls),gP) from et (ae aL) (et (ip aN) (iG (et (bC) (et (ae (bz av)) (et (ip dm) (et (ae (bz bD)) (et (ae aJ) (et (ip bn) (et (ae bu) (et (iN bO) (et (ip dz) (et (ae eU) (ae fu)))))))))))))))
 exact⟨gK,gL,jR,jW,jX,s,h,j,gM,gN,jS,jY,jZ,j3,(by first | rfl | (rw [<- aV]; done) | (rw [<- aV]; rfl) | (rw [aV]; first | done | rfl)),j4,eX,R,eZ,fA⟩
 refine jF (dF dz) (G7 (bN (Gs (Gq (Mz rfl (Kz (.pointer (some ⟨ab d,ao d+(E0 g) *4,none⟩)) (Kz (.pointer (some ⟨ab d,ao d+(E0 g) *4+3,none⟩)) (fw (vI b.aU) (GH rfl (bS.one v5 (((bq.rds (i:=10) rfl).elem aR.len Z f5).at_ (k:=3) rfl))) (fw (vI (b.aU+1)) (Gw (e:=IntKind.i64.wrap (b.aU+1)) yk i4) (Kz (.pointer (some ⟨ab d,ao d+(E0 g) *4,none⟩)) (Kz (.pointer (some ⟨ab d,ao d+(E0 g) *4+3,none⟩)) ?_)))))))))))
 have j6:=bq.pf [10]
 refine Hz (Do.storeRow (vs:= [vI (b.aU+1)]) (o:=(E0 g) *4+3) (q:=ao d+(E0 g) *4+3) j6 rfl e8 rfl Tryz.sizeOf3 rfl rfl (Kk rfl) (jg aR.len Z (Kk rfl)) (jU (y:=(aR.mk b.au b.cK b.bK (b.aU+1))) aR.len rfl (Kk rfl) Z) ?_)
 intro kg ko
 have kr:Own w D kg [row d a.ag.ls.length l (q0 aR.cells (J0 T (E0 g) (aR.mk b.au b.cK b.bK (b.aU+1)))) 99 4,blk g0 [vP u 0, .slice O M.av.bE.ls.length P, .slice W M.av.aI.ls.length V, .bool M.av.bU, .slice az S.bD.ls.length aB] 92,je az S.bD.ls.length aB (q0 di.cells S.bD.ls) 216 2,blk x [.slice af U.ai.ls.length ag] 114,row af U.ai.ls.length ag (q0 ay.cells ah) 164 6,sepL (q0 GU ah),blk u [vI a.aa.bC,vU a.aa.aT,vU a.aa.bv,vU a.aa.aL,vU a.aa.aG, .slice G a.aa.ah.ls.length I, .slice s a.aa.ak.ls.length h, .slice J a.aa.af.ls.length K,vU a.aa.bi,vU a.aa.aM, .string ⟨u3 a.aa.aH.aO⟩, .string ⟨u3 a.aa.aH.aS⟩,vU a.aa.aF.aG,vU a.aa.aF.bu,vU a.aa.aF.dA, .string ⟨u3 a.aa.aF.aB.aO⟩, .string ⟨u3 a.aa.aF.aB.aS⟩, .iface 24 (vP B 0), .slice d a.ag.ls.length l,vP x 0, .pointer none] 80,row O M.av.bE.ls.length P (q0 bV.cells Q) 47 21,sepL (q0 Hl Q),row s a.aa.ak.ls.length h (q0 bg.cells j) 60 2,sepL (q0 He j),blk B [.slice F C.xM.ls.length E] 27,sepL (q0 G5 (J0 T (E0 g) (aR.mk b.au b.cK b.bK (b.aU+1))))]:=by rw [lK (f:=G5) (y:=(aR.mk b.au b.cK b.bK (b.aU+1))) Z rfl]; exact ko
 have l9:q5 (J0 T (E0 g) (aR.mk b.au b.cK b.bK (b.aU+1)))=q5 (J0 p (E0 g) (bG.mk b.au (D4 b.cK.ls) (D4 b.bK.ls) (b.aU+1))):=aW (d9 aj rfl)
 have ma:q5 (J0 p (E0 g) (bG.mk b.au (D4 b.cK.ls) (D4 b.bK.ls) (b.aU+1)))=p.length:=J1
 refine WL.nil (bN ?_)
 have ku:=kr.px [6] [] [0,11,3,12,2,4,5]
 exact GL (az,aB,S.bD.ls,af,ag,ah,U.ai.ls,(J0 T (E0 g) (aR.mk b.au b.cK b.bK (b.aU+1))),(J0 p (E0 g) (bG.mk b.au (D4 b.cK.ls) (D4 b.bK.ls) (b.aU+1))),iy) ⟨rfl,rfl,rfl,rfl,trivial⟩ (eF.2 ⟨ku,by exact(d9 aj rfl),by first | omega | (simp only [J1] <;> omega) | (simp only [L4]),by exact aT,by first | assumption | (refine Tk.bump ?_ av rfl rfl rfl ?_; assumption; (dsimp only; omega)),by first | assumption | exact wG.set f6 av rfl | exact rQ (Tk.wu f6) (aL.trans (congrArg (λ q=>(_,q)) aN)),by first | omega | (have q9:=El (by assumption:Tk a.ag.ls _ _) (E0 g); omega),e8,Eq.trans (bC) (Eq.trans (ae (bz av)) (Eq.trans (if_pos dm) (Eq.trans (ae (bz bD)) (Eq.trans (ae aJ) (Eq.trans (if_pos bn) (Eq.trans (ae bu) (Eq.trans (if_neg bO) (if_neg dz))))))))⟩) (by show iy < iy+1; omega)
 refine jT (dT bn) (sr (Mz rfl (An rfl (rt (tR (bR (tR (bR (tR (rs ?_))))))))))
 have aX:a.ag.ls.length=p.length:=by first | omega | (simp only [J1]; done) | (simp only [J1,m8,q6,H2,m6,m7,L4]; omega)
 have kv:Own w D jL [row bF aQ.length bI (q0 (eN .u64) aQ) 32 1,row bK aS.length bL (q0 (eN .u64) aS) 32 1,blk x [.slice af U.ai.ls.length ag] 114,row af U.ai.ls.length ag (q0 ay.cells ah) 164 6,sepL (q0 GU ah),blk u [vI a.aa.bC,vU a.aa.aT,vU a.aa.bv,vU a.aa.aL,vU a.aa.aG, .slice G a.aa.ah.ls.length I, .slice s a.aa.ak.ls.length h, .slice J a.aa.af.ls.length K,vU a.aa.bi,vU a.aa.aM, .string ⟨u3 a.aa.aH.aO⟩, .string ⟨u3 a.aa.aH.aS⟩,vU a.aa.aF.aG,vU a.aa.aF.bu,vU a.aa.aF.dA, .string ⟨u3 a.aa.aF.aB.aO⟩, .string ⟨u3 a.aa.aF.aB.aS⟩, .iface 24 (vP B 0), .slice d p.length l,vP x 0, .pointer none] 80,blk g0 [vP u 0, .slice O M.av.bE.ls.length P, .slice W M.av.aI.ls.length V, .bool M.av.bU, .slice aO Y.length aP] 92,row O M.av.bE.ls.length P (q0 bV.cells Q) 47 21,sepL (q0 Hl Q),row s a.aa.ak.ls.length h (q0 bg.cells j) 60 2,sepL (q0 He j),row d p.length l (q0 aR.cells T) 99 4,blk B [.slice F C.xM.ls.length E] 27,sepL (q0 G5 T),je aO Y.length aP (q0 di.cells Y) 216 2]:=by first | (rw [<- aX]; exact bi) | (have q9:=bi; rw [aX] at q9; exact q9)
 have kw:=kv.px [6,7,8,14] [0,1] [12,2,3,4]
 obtain⟨rfl,rfl,rfl,rfl⟩:=iR (zj hr (show _=(aM,bJ.mk M.av (D4 Y),ax.mk a.aa (D4 p),U) from et (ae aL) (et (ip aN) (iG (et (bC) (et (ae (bz av)) (et (ip dm) (et (ae (bz bD)) (et (ae aJ) (iN bn))))))))))
 exact⟨O,P,Q,aO,aP,s,h,j,d,l,T,af,ag,ah,(by first | rfl | (rw [<- aX]; done) | (rw [<- aX]; rfl) | (rw [aX]; first | done | rfl)),kw,aH,R,aj,aT⟩
 refine jF (dF dm) (Wp.exit (GK ?_))
 have iO:jk M p1 a C g ((gm a.ag.ls (E0 g))+1) M.bD.ls N.ai.ls a.ag.ls=Sum.inl (Y,aG,p,(aR.abs b)):=et (bC) (et (ae (bz av)) (iN dm))
 refine GK (GR (Gs (sr (Mz rfl (Mz rfl (Kz (.pointer (some ⟨ab d,ao d+(E0 g) *4,none⟩)) (fw (.agg (aR.cells b).toArray) (GH rfl (GJ (cs:=(aR.cells b)) Tryz.isAgg99 Tryz.sizeOf99 ((iA.rds (i:=6) rfl).elem aR.len Z f5))) ?_)))))))
 refine WL.do rfl (GV Tryz.call139 rfl ?_ (λ _ _ k=>k))
 refine cb Tryz.func139 ?_
 refine sr ?_
 refine bW (aR.cells b) 99 iA ?_
 intro bU nS ky
 refine An rfl (Gp ?_)
 have kz:=ky.pb [1,5,6,7,10]
 refine l5 9 [] (GD GQ) kz ?_
 intro kC gQ
 refine qv 0 rfl rfl (qp g0 0 1 rfl (qp g0 0 2 rfl (ql 3 rfl 1 P0 rfl rfl rfl (qp bU 0 4 rfl (ql 5 rfl 0 C4 rfl rfl rfl ?_)))))
 refine GX.do 6 rfl e9 (GV Tryz.call87 rfl ?_ (λ _ _ k=>k))
 refine cb Tryz.func87 ?_
 refine sr (Mz rfl (Mz rfl ?_))
 have bf:a.ag.ls.length=p.length:=by first | omega | (simp only [J1]; done) | (simp only [J1,m8,q6,H2,m6,m7,L4]; omega)
 have kD:Own w D kC [blk bU (aR.cells b) 99,blk g0 [vP u 0, .slice O M.av.bE.ls.length P, .slice W M.av.aI.ls.length V, .bool M.av.bU, .slice aO Y.length aP] 92,row O M.av.bE.ls.length P (q0 bV.cells Q) 47 21,sepL (q0 Hl Q),blk B [.slice F C.xM.ls.length E] 27,blk x [.slice cZ aG.length df] 114,je aO Y.length aP (q0 di.cells Y) 216 2,row cZ aG.length df (q0 ay.cells bB) 164 6,sepL (q0 GU bB),blk u [vI a.aa.bC,vU a.aa.aT,vU a.aa.bv,vU a.aa.aL,vU a.aa.aG, .slice G a.aa.ah.ls.length I, .slice s a.aa.ak.ls.length h, .slice J a.aa.af.ls.length K,vU a.aa.bi,vU a.aa.aM, .string ⟨u3 a.aa.aH.aO⟩, .string ⟨u3 a.aa.aH.aS⟩,vU a.aa.aF.aG,vU a.aa.aF.bu,vU a.aa.aF.dA, .string ⟨u3 a.aa.aF.aB.aO⟩, .string ⟨u3 a.aa.aF.aB.aS⟩, .iface 24 (vP B 0), .slice d p.length l,vP x 0, .pointer none] 80,row s a.aa.ak.ls.length h (q0 bg.cells j) 60 2,sepL (q0 He j),row d p.length l (q0 aR.cells T) 99 4,sepL (q0 G5 T)]:=by first | (rw [<- bf]; exact gQ) | (have q9:=gQ; rw [bf] at q9; exact q9)
 have dB:=kD.pf [9]
 have mf:=zr 12 dB
 obtain⟨⟨dC,gT⟩,fE⟩:∃ q:Int × Bool,dh (ax.mk a.aa (D4 p)) b.au=q:=⟨_,rfl⟩
 obtain⟨nT,iP,mg,iQ,dn⟩:=G9 dB
 refine cl Tryz.call79 (iY _ _ u (ax.mk a.aa (D4 p)) G I s h J K d l T B x b.au dC gT iP aj (dn _ 11 _ rfl bQ) e8 (λ x9 h9=>⟨dn _ 12 _ rfl (bP (M5.2 ⟨x9,h9,b3⟩) bQ),dJ (φ:=λ _=>_) dB (i:=13) rfl (bP (M5.2 ⟨x9,h9,b3⟩) dN),dn _ 12 _ rfl (bP (M5.2 ⟨x9,h9, .tail _ b3⟩) bQ),dJ (φ:=λ _=>_) dB (i:=13) rfl (bP (M5.2 ⟨x9,h9, .tail _ b3⟩) dN)⟩) f0 fE) ?_
 rintro _ nU ⟨rfl,iT,fF,fG⟩
 have gU:=iQ _ _ iT
 replace fF:0<=dC/\dC<=(p.length:Int):=fF
 replace fG:Bool.toNat gT=0\/dC < (p.length:Int):=fG
 obtain⟨iU,iV⟩:=fC ((rR (m:=(ax.mk a.aa (D4 p))) (i:=(E0 g)) (Tk.wu f6) ⟨_,av,rfl⟩).symm.trans fE)
 subst iU iV
 refine Mz rfl (Kz (vJ (E0 g)) (Kz (.bool true) (Az rfl (Ar rfl (Mn rfl (jt (Gq (Mz rfl (Mz rfl (Kz (vP u 0) (Kz (vP u 18) (Lz (.slice d p.length l) gU 0 Tryz.isAgg77 (Mz rfl (Mz rfl (fw (vJ (E0 g+1)) (Gw (e:=IntKind.i64.wrap (((E0 g:Nat):Int)+1)) yk f1) ?_)))))))))))))))
 have kE:=gU.pf [12,13]
 obtain⟨nV,iW,mh,iX,mi⟩:=Ht kE
 refine cl Tryz.call142 (tK _ _ d p.length l T p ((E0 g:Nat):Int) ((E0 g+1:Nat):Int) (E0 g) b iW e8 aj e8 e8 e8 Z) ?_
 rintro _ nW ⟨dE,dK,rfl,iZ⟩
 have fH:=iX _ _ iZ
 have mo:q5 (t1 (E0 g) T++r7 ((E0 g)+1) T)=q5 (t1 (E0 g) p++r7 ((E0 g)+1) p):=by exact aW (nL aj)
 have mq:q5 (t1 (E0 g) p++r7 ((E0 g)+1) p)+1=p.length:=by simp only [m8,m6,m7]; omega
 have mr:=zr 2 fH
 have mD:=zr 3 fH
 refine Kz (vP u 0) (Kz (vP u 18) ?_)
 have kF:=fH.pf [4]
 refine bY [.slice dE (q5 (t1 (E0 g) p++r7 ((E0 g)+1) p)) dK] 18 kF Tryz.sizeOf77 ?_
 intro nX kG
 refine WL.nil (Hq (res0 rfl) ?_)
 have dL:=kG.pb [0,1,2,3,4,14,15]
 refine⟨.inr ⟨_,dL⟩, ?_⟩
 refine qn (Gs (sr (Kz (vP bU 0) (Lz (vU b.au) dL 0 C4 (Kz (vP bU 1) (Lz (.slice b.cK.A b.cK.ls.length b.cK.c) dL 0 Tryz.isAgg44 (Kz (.agg #[vU b.au, .slice b.cK.A b.cK.ls.length b.cK.c]) ?_)))))))
 refine bW [.int .u64 0, .slice none 0 0] 60 dL ?_
 intro nY og kH
 refine bY [vU b.au, .slice b.cK.A b.cK.ls.length b.cK.c] 0 kH C2 ?_
 intro oh kI
 refine nt (Gp ?_)
 refine l5 17 [] (GD GQ) kI ?_
 intro ol kJ
 refine qv 0 rfl rfl (qp g0 0 1 rfl (qp g0 0 2 rfl (ql 3 rfl 2 P0 rfl rfl rfl (qp bU 0 4 rfl (ql 5 rfl 1 C4 rfl rfl rfl ?_)))))
 have fI:=kJ.pf [10]
 have mE:=zr 15 fI
 obtain⟨⟨L,fJ⟩,fK⟩:∃ q:Int × Bool,eY (ax.mk a.aa (D4 (t1 (E0 g) p++r7 ((E0 g)+1) p))) b.au=q:=⟨_,rfl⟩
 obtain⟨om,ja,mF,jb,fM⟩:=G9 fI
 refine qd 6 rfl (GV Tryz.call77 rfl (mJ _ _ u (ax.mk a.aa (D4 (t1 (E0 g) p++r7 ((E0 g)+1) p))) G I s h j J K dE dK B x b.au L fJ ja R (fM _ 14 _ rfl bQ) e8 (λ x9 h9=>⟨fM _ 15 _ rfl (bP (M5.2 ⟨x9,h9,b3⟩) bQ),dJ (φ:=λ _=>_) fI (i:=16) rfl (bP (M5.2 ⟨x9,h9,b3⟩) dN)⟩) f0 fK) ?_)
 rintro _ oo ⟨rfl,jc,fP,fQ⟩
 have kK:=jb _ _ jc
 replace fP:0<=L/\L<=(a.aa.ak.ls.length:Int):=fP
 replace fQ:Bool.toNat fJ=0\/L < (a.aa.ak.ls.length:Int):=fQ
 have gV:=kK.pb [0,11,12,13,14,15,16]
 refine⟨.inr ⟨_,gV⟩, ?_⟩
 refine qv 7 rfl rfl (qk (vI L) 8 rfl (qk (.bool fJ) 9 rfl (qa 10 rfl rfl (qa 11 rfl rfl (qn (Gs (Gp ?_)))))))
 have kL:=gV.px [] [1] []
 have kM:=kL.pf [0,1,4,5,9]
 refine Ec [19] (GD GQ) kM ?_
 intro oq kN
 refine qv 0 rfl rfl (qp g0 0 1 rfl (qp g0 0 2 rfl (ql 3 rfl 1 P0 rfl rfl rfl (qv 4 rfl rfl (qp g0 0 5 rfl (qp g0 0 6 rfl (ql 7 rfl 1 P0 rfl rfl rfl (qp u 0 8 rfl (qp u 0 9 rfl (qp u 6 10 rfl (ql 11 rfl 4 Tryz.isAgg34 rfl rfl rfl (qv 12 rfl rfl (qb 13 rfl 0 Tryz.isAgg60 C2 rfl rfl rfl ?_)))))))))))))
 refine qd 14 rfl (Il (cs:= [vU b.au, .slice b.cK.A b.cK.ls.length b.cK.c]) (t:=60) (sz:=2) (m:=1) kN rfl rfl (λ _=>by kernel_rfl) rfl ?_)
 intro gW ou fT
 replace fT:=Ha (y:=lG gW 1 (q0 bg.cells ([(bg.mk b.au (Sv.mk b.cK.A b.cK.c b.cK.ls))])) 60 2) rfl fT
 have gY:=fT.pf [1,2,3,4,5]
 refine⟨.inr ⟨_,gY⟩, ?_⟩
 have kP:=gY.pf [15,5,16,13]
 obtain⟨ow,jd,mG,jf,mH⟩:=Ip kP
 refine qd 15 rfl (GV Tryz.call182 rfl (y7 _ _ s a.aa.ak.ls.length h j a.aa.ak.ls L (E0 L) gW (bg.mk b.au (Sv.mk b.cK.A b.cK.c b.cK.ls)) (dD.mk b.au (D4 b.cK.ls)) jd e8 R rfl e8 e8 e8) ?_)
 rintro _ oz ⟨fU,fV,rfl,jl⟩
 have kQ:=jf _ _ jl
 have mI:q5 (t1 (E0 L) j++((bg.mk b.au (Sv.mk b.cK.A b.cK.c b.cK.ls))::r7 (E0 L) j))=q5 (t1 (E0 L) a.aa.ak.ls++((dD.mk b.au (D4 b.cK.ls))::r7 (E0 L) a.aa.ak.ls)):=by exact aW (jA (z:=(dD.mk b.au (D4 b.cK.ls))) R rfl)
 have mM:q5 (t1 (E0 L) a.aa.ak.ls++((dD.mk b.au (D4 b.cK.ls))::r7 (E0 L) a.aa.ak.ls))=a.aa.ak.ls.length+1:=by simp only [m8,m6,q6,m7]; omega
 have gZ:=kQ.pf [2,3,4,5,6]
 refine⟨.inr ⟨_,gZ⟩, ?_⟩
 refine qp u 0 16 rfl (qp u 0 17 rfl (qp u 6 18 rfl ?_))
 have kR:=gZ.pf [4]
 refine qe 19 rfl (Do.store (vs:= [.slice fU (q5 (t1 (E0 L) a.aa.ak.ls++((dD.mk b.au (D4 b.cK.ls))::r7 (E0 L) a.aa.ak.ls))) fV]) (o:=6) kR rfl rfl Tryz.sizeOf34 rfl rfl rfl rfl ?_)
 intro oC ib
 refine⟨.inl e9, ?_⟩
 refine qn (Gs (sr (Mz rfl (La ([vU b.au, .slice b.cK.A b.cK.ls.length b.cK.c]) ib 1 Tryz.isAgg60 C2 ?_))))
 have kS:=ib.pf [2,7,8,0,3]
 obtain⟨⟨ic,fZ⟩,gp⟩:∃ q:Int × bJ,ji (bJ.mk M.av (D4 Y)) (dD.mk b.au (D4 b.cK.ls)) (ax.mk (bA.mk a.aa.bC a.aa.aT a.aa.bv a.aa.aL a.aa.aG (D4 a.aa.ah.ls) (D4 (t1 (E0 L) a.aa.ak.ls++((dD.mk b.au (D4 b.cK.ls))::r7 (E0 L) a.aa.ak.ls))) (D4 a.aa.af.ls) a.aa.bi a.aa.aM a.aa.aH a.aa.aF) (D4 (t1 (E0 g) p++r7 ((E0 g)+1) p))) C=q:=⟨_,rfl⟩
 obtain⟨oD,jm,gq,jo,jq⟩:=IM kS
 refine cl Tryz.call78 (qO _ _ g0 (bJ.mk M.av (D4 Y)) O P Q W V aO aP (dD.mk b.au (D4 b.cK.ls)) b.cK.A b.cK.ls.length b.cK.c u (ax.mk (bA.mk a.aa.bC a.aa.aT a.aa.bv a.aa.aL a.aa.aG (D4 a.aa.ah.ls) (D4 (t1 (E0 L) a.aa.ak.ls++((dD.mk b.au (D4 b.cK.ls))::r7 (E0 L) a.aa.ak.ls))) (D4 a.aa.af.ls) a.aa.bi a.aa.aM a.aa.aH a.aa.aF) (D4 (t1 (E0 g) p++r7 ((E0 g)+1) p))) G I fU fV J K dE dK x B C F E ic fZ jm aH (gq _ iq) e8 rfl (jq _ 3 _ rfl (bP (M5.2 ⟨_,List.mem_append_right _ b3,b3⟩) bQ)) e8 (gq _ bZ) e8 f0 gp) ?_
 rintro _ oF ⟨kT,kU,kW,rfl,jv,gy,gz⟩
 have ig:=jo _ _ jv
 have mO:=aW gy
 have mP:=zr 1 ig
 replace gz:fZ.av.bE.ls.length<=M.av.bE.ls.length+1:=gz
 refine An rfl (rt (rs (An rfl (rt (rs ?_)))))
 have kX:=ig.px [0,1,2,9] [5,14] [4,6,10,11]
 obtain⟨rfl,rfl,rfl,rfl⟩:=iR (zj hr (show _=(ic,bJ.mk (dH.mk (D4 fZ.av.bE.ls) (D4 M.av.aI.ls) M.av.bU) (D4 Y),ax.mk (bA.mk a.aa.bC a.aa.aT a.aa.bv a.aa.aL a.aa.aG (D4 a.aa.ah.ls) (D4 (t1 (E0 L) a.aa.ak.ls++((dD.mk b.au (D4 b.cK.ls))::r7 (E0 L) a.aa.ak.ls))) (D4 a.aa.af.ls) a.aa.bi a.aa.aM a.aa.aH a.aa.aF) (D4 (t1 (E0 g) p++r7 ((E0 g)+1) p)),aZ.mk (D4 aG)) from et (ae aL) (et (ip aN) (et (kZ iO) (et (ae fK) (ae gp))))))
 exact⟨kT,kU,kW,aO,aP,fU,fV,(t1 (E0 L) j++((bg.mk b.au (Sv.mk b.cK.A b.cK.c b.cK.ls))::r7 (E0 L) j)),dE,dK,(t1 (E0 g) T++r7 ((E0 g)+1) T),cZ,df,bB,(by first | rfl | (rw [<- bf]; done) | (rw [<- bf]; rfl) | (rw [bf]; first | done | rfl)),kX,gy,(jA (z:=(dD.mk b.au (D4 b.cK.ls))) R rfl),(nL aj),eH⟩
 have h36t:Bool.toNat cO=0:=by rw [aN]; rfl
 refine jT (cn aN) (sr (An rfl (rt (tR (rs ?_)))))
 have kY:=bv.pf [1,2,3,4]
 obtain⟨rfl,rfl,rfl,rfl⟩:=iR (zj hr (show _=(0,M,a,N) from et (ae aL) (dY aN))).symm
 exact⟨O,P,Q,dw,dx,s,h,j,d,l,aa,ak,au,X,rfl,kY,aH,R,ai,aC⟩
end
open List renaming mem_singleton->l4,nodup_append->t9,nodup_nil->Q3
open Nat renaming ne_of_lt->Q2
theorem put_mem {l:List aK} {t:Nat} {x:aD} {q:aK} (h:q ∈ iE l t x):(q.au=t/\q.bn=false)\/(q ∈ l/\q.au≠t):=by
  unfold iE at h
  rcases P3.1 h with h | h
  . have:=N2.1 h
    exact .inr ⟨this.1,Q2 (of_decide_eq_true this.2)⟩
  . rcases List.mem_cons.1 h with h | h
    . rw [h]; exact .inl ⟨rfl,rfl⟩
    . have:=N2.1 h
      exact .inr ⟨this.1,Nat.ne_of_gt (of_decide_eq_true this.2)⟩
theorem yB {t:Nat} {x:aD} {q:aK} (h:dies t x q=true):q.bn=true:=by unfold dies at h; exact(Bool.and_eq_true _ _ ▸ h).1
theorem uI {l:List aK} {t:Nat} {x:aD} {n:Nat} (h:n ∈ r8 (λ q:aK=>q.au) ((iE l t x).filter (dies t x))):∃ q ∈ l,q.au=n/\q.bn=true/\n≠t:=by
  obtain⟨q,hq,rfl⟩:=Q0.1 h
  obtain⟨c,b⟩:=N2.1 hq
  rcases put_mem c with ⟨_,a⟩ | ⟨a,d⟩
  . rw [yB b] at a; cases a
  . exact⟨q,a,rfl,yB b,d⟩
theorem Aq {l:List aK} (hs:Up l) {t:Nat} {x:aD} {n:Nat} (h:n ∈ r8 (λ q:aK=>q.au) ((iE l t x).filter (dies t x))):∀ r ∈ (iE l t x).filter (λ s=> !dies t x s),r.au≠n:=λ r hr e=>by
  obtain⟨q,hq,rfl⟩:=Q0.1 h
  obtain⟨b,c⟩:=N2.1 hq
  obtain⟨d,a⟩:=N2.1 hr
  have:=yn (rM hs t x) d b e
  subst this
  rw [c] at a
  exact absurd a f5
theorem zi {l:List aK} (hs:Up l) {t:Nat} {x:aD}:(r8 (λ q:aK=>q.au) ((iE l t x).filter (dies t x))).Nodup:=
  P9.2 (((rM hs t x).filter _).imp λ e=>Q2 e)
structure Se (m0 l:List aK) (g d:List Nat):Prop where
  wt:∀ r ∈ l,r.bn=true->∃ s ∈ m0,s.au=r.au/\s.bn=true
  gw:∀ n ∈ g, ∃ s ∈ m0,s.au=n/\s.bn=true
  dw:∀ n ∈ d, ∃ s ∈ m0,s.au=n/\s.bn=true
  dn:∀ n ∈ d, ∀ r ∈ l,r.au≠n
  gn:∀ n ∈ g, ∀ r ∈ l,r.au=n->r.bn=false
  nd:(g++d).Nodup
theorem Se.step {o l:List aK} {g d:List Nat} {r:aK} (hf:Fit l) (h:Se o l g d) (hr:r ∈ l) (hw:r.bn=true):
    Se o ((iE l r.au r.bf).filter λ s=> !dies r.au r.bf s) (g++ [r.au]) (d++r8 (λ q:aK=>q.au) ((iE l r.au r.bf).filter (dies r.au r.bf))) where
  wt:=λ q hq hqw=>by
    rcases put_mem (N2.1 hq).1 with ⟨_,c⟩ | ⟨c,_⟩
    . rw [hqw] at c; cases c
    . exact h.wt q c hqw
  gw:=λ n hn=>by
    rcases P3.1 hn with e | e
    . exact h.gw n e
    . rw [l4.1 e]; exact h.wt r hr hw
  dw:=λ n hn=>by
    rcases P3.1 hn with e | e
    . exact h.dw n e
    . obtain⟨q,i,rfl,c,_⟩:=uI e
      exact h.wt q i c
  dn:=λ n hn q hq=>by
    rcases P3.1 hn with e | e
    . rcases put_mem (N2.1 hq).1 with ⟨c,_⟩ | ⟨c,_⟩
      . rw [c]; exact h.dn n e r hr
      . exact h.dn n e q c
    . exact Aq hf.up e q hq
  gn:=λ n hn q hq hqn=>by
    rcases put_mem (N2.1 hq).1 with ⟨_,c⟩ | ⟨c,m⟩
    . exact c
    . rcases P3.1 hn with e | e
      . exact h.gn n e q c hqn
      . exact absurd (hqn.trans (l4.1 e)) m
  nd:=by
    have p:r.au ∉ g:=λ e=>by have:=h.gn _ e r hr rfl; rw [hw] at this; cases this
    have t:r.au ∉ d:=λ e=>h.dn _ e r hr rfl
    obtain⟨u,v,w⟩:=t9.1 h.nd
    refine t9.2 ⟨t9.2 ⟨u,by simp,λ a ha b hb e=>by rw [l4.1 hb] at e; exact p (e ▸ ha)⟩,t9.2 ⟨v,zi hf.up,λ a ha b hb e=> ?_⟩,λ a ha b hb e=> ?_⟩
    . obtain⟨q,i,j,_⟩:=uI hb
      exact h.dn a ha q i (by rw [j,e])
    . subst e
      rcases P3.1 ha with k | k
      . rcases P3.1 hb with f | f
        . exact w a k a f rfl
        . obtain⟨q,i,j,c,_⟩:=uI f
          have:=h.gn a k q i j
          rw [c] at this; cases this
      . rw [l4.1 k] at hb
        rcases P3.1 hb with f | f
        . exact t f
        . obtain⟨q,i,j,c,m⟩:=uI f
          exact m rfl
theorem zk {a m:List aK} {g d:List Nat} (hf:Fit m) (h:Se a m g d):Se a (df (Wt m+1) m g d).1 (df (Wt m+1) m g d).2.1 (df (Wt m+1) m g d).2.2:=
  (sD (I:=λ l g' d'=>Se a l g' d') (λ l g' d' r hf hI hr hw _=>hI.step hf hr hw) (Wt m+1) m g d e8 hf h).1
structure Sf (k:Nat) (m0 l:List aK) (g d:List Nat):Prop where
  wt:∀ r ∈ l,r.bn=true->r.au=k\/∃ s ∈ m0,s.au=r.au/\s.bn=true
  gw:∀ n ∈ g, ∃ s ∈ m0,s.au=n/\s.bn=true
  dw:∀ n ∈ d, ∃ s ∈ m0,s.au=n/\s.bn=true
  dn:∀ n ∈ d, ∀ r ∈ l,r.au≠n
  gn:∀ n ∈ g, ∀ r ∈ l,r.au=n->r.bn=false
  nd:(g++d).Nodup
theorem Se.sf {k:Nat} {a l:List aK} {g d:List Nat} (h:Se a l g d):Sf k a l (qK g) (qK d) where
  wt:=λ r hr hw=> .inr (h.wt r hr hw)
  gw:=λ n hn=>h.gw n (wN.1 hn)
  dw:=λ n hn=>h.dw n (wN.1 hn)
  dn:=λ n hn=>h.dn n (wN.1 hn)
  gn:=λ n hn=>h.gn n (wN.1 hn)
  nd:=(((xB g).append (xB d)).nodup_iff).2 h.nd
theorem uJ (k:Nat) (m:List aK):Sf k m m [] []:=⟨λ r hr hw=> .inr ⟨r,hr,rfl,hw⟩,λ _ h=>absurd h u4,λ _ h=>absurd h u4,λ _ h=>absurd h u4,λ _ h=>absurd h u4,Q3⟩
theorem D7 {m:List aK} (hs:Up m) (t:Nat) (x:aD):Se m (gR m t x) [] (gD m t x) where
  wt:=λ q hq hqw=>by
    rcases put_mem (N2.1 hq).1 with ⟨_,a⟩ | ⟨a,_⟩
    . rw [hqw] at a; cases a
    . exact⟨q,a,rfl,hqw⟩
  gw:=λ _ h=>absurd h u4
  dw:=λ n hn=>by
    obtain⟨q,b,c,a,_⟩:=uI hn
    exact⟨q,b,c,a⟩
  dn:=λ n hn=>Aq hs hn
  gn:=λ _ h=>absurd h u4
  nd:=zi hs
theorem D8 {m:List aK} {t:Nat} {x:aD} {q:aK} (h:q ∈ oG m t x):q.au=t\/q ∈ m:=by
  unfold oG at h
  rcases P3.1 h with h | h
  . exact .inr (N2.1 h).1
  . rcases List.mem_cons.1 h with h | h
    . rw [h]; exact .inl rfl
    . exact .inr (N2.1 h).1
theorem AY {m:List aK} (hs:Up m) {t:Nat} (h:gH (aZ.mk (D4 m)) t≠true):∀ r ∈ m,r.au=t->r.bn=false:=λ r hr e=>by
  unfold gH at h
  rw [dz] at h
  rcases mG hs t with ⟨a,p,q,rfl,hp,ha,hq,hf⟩ | ⟨a,q,rfl,ha,hq,hf⟩
  . rw [hf,if_pos rfl,dz] at h
    simp only [Int.toNat_natCast,gd] at h
    have:r=p:=yn hs hr i5 (by rw [e,hp])
    rw [this]; exact Bool.eq_false_iff.2 h
  . rcases P3.1 hr with b | b
    . exact absurd e (Q2 (ha r b))
    . exact absurd e (Nat.ne_of_gt (hq r b))
theorem EB {m:List aK} (h:jh m) (t:Nat) (x:aD):Sf t m (og m t x).2.2.2.2 (og m t x).2.1 (og m t x).2.2.1/\((og m t x).2.2.2.1=0->∀ r ∈ m,r.au=t->r.bn=false):=by
  have nw:=AY (t:=t) h.up
  unfold og
  by_cases b:dW x.aB=0
  . rw [if_pos b]
    by_cases a:gH (aZ.mk (D4 m)) t=true
    . rw [if_pos a]; exact⟨uJ t m,λ e=>absurd (show (4:Int)=0 from e) f5⟩
    . rw [if_neg a]
      by_cases c:kG (aZ.mk (D4 m)) t x=true
      . rw [if_pos c]; exact⟨uJ t m,λ _=>nw a⟩
      . rw [if_neg c]
        by_cases d:192<=kQ m
        . rw [if_pos d]; exact⟨uJ t m,λ _=>nw a⟩
        . rw [if_neg d]
          by_cases f:dX (aZ.mk (D4 m)) t x= []
          . rw [if_pos f]
            obtain⟨j,k⟩:=wM m h.up t x
            have l:=xA m h.up t x
            have n:=h.len
            have o:=h.tot
            have i:kQ (gR m t x)<=kQ (iE m t x):=ma _ _
            have p:List.length (gR m t x)<=List.length (iE m t x):=List.length_filter_le _ _
            have hf:Fit (gR m t x):=⟨(rM h.up t x).filter _,e8,e8⟩
            exact⟨(zk hf (D7 h.up t x)).sf,λ _=>nw a⟩
          . rw [if_neg f]
            by_cases g:List.getD (dX (aZ.mk (D4 m)) t x) 0 default < t
            . rw [if_pos g]; exact⟨uJ t m,λ _=>nw a⟩
            . rw [if_neg g]
              refine⟨⟨λ r hr hw=> ?_,λ _ h=>absurd h u4,λ _ h=>absurd h u4,λ _ h=>absurd h u4,λ _ h=>absurd h u4,Q3⟩,λ _=>nw a⟩
              rcases D8 hr with e | e
              . exact .inl e
              . exact .inr ⟨r,e,rfl,hw⟩
  . rw [if_neg b]; exact⟨uJ t m,λ e=>absurd (show (21:Int)=0 from e) f5⟩
theorem Fg {m:List aK} (h:jh m) {t:Nat} {x:aD} {s e:Int} {g d:List Nat} {r:aZ} (hr:jr (aZ.mk (D4 m)) t x=(s,g,d,e,r)):
    Sf t m r.ai.ls g d/\(e=0->∀ r ∈ m,r.au=t->r.bn=false):=by
  have a:=EB h t x
  rw [xH h] at hr
  have b:g=_:=(congrArg (λ q=>q.2.1) hr).symm
  have c:d=_:=(congrArg (λ q=>q.2.2.1) hr).symm
  have f:e=_:=(congrArg (λ q=>q.2.2.2.1) hr).symm
  have i:r=_:=(congrArg (λ q=>q.2.2.2.2) hr).symm
  rw [b,c,f,i]
  exact a
theorem Ci {m:List aK} (h:jh m) {t:Nat} {g d:List Nat} {r:aZ} (hr:ik (aZ.mk (D4 m)) t=(g,d,r)):Sf t m r.ai.ls g d/\∀ n,n ∈ g\/n ∈ d->n≠t:=by
  unfold ik at hr
  rw [dz,dz,qm h.up,rE] at hr
  have b:g=_:=(congrArg (λ q=>q.1) hr).symm
  have c:d=_:=(congrArg (λ q=>q.2.1) hr).symm
  have f:r=_:=(congrArg (λ q=>q.2.2) hr).symm
  have hf:Fit (but t m):=h.fit.filter _
  have i:Se (but t m) (but t m) [] []:=⟨λ r hr hw=>⟨r,hr,rfl,hw⟩,λ _ h=>absurd h u4,λ _ h=>absurd h u4,λ _ h=>absurd h u4,λ _ h=>absurd h u4,Q3⟩
  have a:Sf t (but t m) r.ai.ls g d:=by rw [b,c,f]; exact(zk hf i).sf
  have up:∀ n,(∃ s ∈ but t m,s.au=n/\s.bn=true)->(∃ s ∈ m,s.au=n/\s.bn=true)/\n≠t:=λ n ⟨s,hs,e,w⟩=>by
    obtain⟨j,k2⟩:=N2.1 hs
    exact⟨⟨s,j,e,w⟩,by rw [<- e]; exact of_decide_eq_true k2⟩
  refine⟨⟨λ r hr hw=> ?_,λ n hn=>(up n (a.gw n hn)).1,λ n hn=>(up n (a.dw n hn)).1,a.dn,a.gn,a.nd⟩,λ n hn=> ?_⟩
  . rcases a.wt r hr hw with e | e
    . exact .inl e
    . exact .inr (up _ e).1
  . rcases hn with e | e
    . exact(up n (a.gw n e)).2
    . exact(up n (a.dw n e)).2
structure Li (line:List di) (rs:List aK):Prop where
  dead:∀ f ∈ line,f.dC=true->∀ r ∈ rs,r.au≠f.au
  AC:∀ f ∈ line,f.dC=false->∀ r ∈ rs,r.au=f.au->r.bn=false
  Dy:line.Pairwise λ a b=>a.au≠b.au
theorem Au (rs:List aK):Li [] rs:=⟨λ _ h=>absurd h u4,λ _ h=>absurd h u4,List.Pairwise.nil⟩
theorem Li.tail {f:di} {l:List di} {rs:List aK} (h:Li (f::l) rs):Li l rs/\∀ q ∈ l,q.au≠f.au:=
  ⟨⟨λ q hq=>h.dead q (.tail _ hq),λ q hq=>h.AC q (.tail _ hq),(K4.1 h.Dy).2⟩,λ q hq=>((K4.1 h.Dy).1 q hq).symm⟩
theorem Li.step {line:List di} {rs rs':List aK} {g d:List Nat} {k:Nat} (h:Li line rs) (hk:∀ f ∈ line,f.au≠k) (hin:∀ q ∈ rs',q.au=k\/∃ s ∈ rs,s.au=q.au) (hs:Sf k rs rs' g d):
    Li ((line++d.map λ n=>di.mk n true)++g.map λ n=>di.mk n false) rs' where
  dead:=λ f hf hd r hr e=>by
    rcases P3.1 hf with i | i
    . rcases P3.1 i with a | a
      . rcases hin r hr with c | ⟨s,b,c⟩
        . exact hk f a (by rw [<- e,c])
        . exact h.dead f a hd s b (by rw [c,e])
      . obtain⟨n,hn,rfl⟩:=Q0.1 a
        exact hs.dn n hn r hr e
    . obtain⟨n,hn,rfl⟩:=Q0.1 i
      cases hd
  AC:=λ f hf hd r hr e=>by
    rcases P3.1 hf with i | i
    . rcases P3.1 i with a | a
      . cases hw:r.bn with
        | false=>rfl
        | true=>
          rcases hs.wt r hr hw with c | ⟨s,b,c,j⟩
          . exact absurd (by rw [<- e,c]) (hk f a)
          . have:=h.AC f a hd s b (by rw [c,e])
            rw [j] at this; cases this
      . obtain⟨n,hn,rfl⟩:=Q0.1 a
        cases hd
    . obtain⟨n,hn,rfl⟩:=Q0.1 i
      exact hs.gn n hn r hr e
  Dy:=by
    obtain⟨o,l,p⟩:=t9.1 hs.nd
    have old:∀ f ∈ line, ∀ n,(∃ s ∈ rs,s.au=n/\s.bn=true)->f.au≠n:=λ f hf n ⟨s,b,e,hw⟩ c=>by
      cases hd:f.dC with
      | true=>exact h.dead f hf hd s b (by rw [e,c])
      | false=>have:=h.AC f hf hd s b (by rw [e,c]); rw [hw] at this; cases this
    refine M7.2 ⟨M7.2 ⟨h.Dy,P9.2 l,λ f hf q hq=> ?_⟩,P9.2 o,λ f hf q hq=> ?_⟩
    . obtain⟨n,hn,rfl⟩:=Q0.1 hq
      exact old f hf n (hs.dw n hn)
    . obtain⟨n,hn,rfl⟩:=Q0.1 hq
      rcases P3.1 hf with a | a
      . exact old f a n (hs.gw n hn)
      . obtain⟨l,m,rfl⟩:=Q0.1 a
        exact(p n hn l m).symm
open List renaming filter_append->M8,filter_eq_self->Q4,mem_of_mem_drop->Q6,take_left'->t5
open Nat renaming le_refl->s1,le_succ->Q7,ne_of_gt->Q5,succ_le_succ->Q8
theorem FR (p:bJ) (g:List Nat):∀ (d:List Nat) (l:List di),iq p g d l=l++d.map λ n=>di.mk n true
  | [],l=>by simp [iq]
  | x::d,l=>by rw [iq,FR p g d]; simp
theorem FT (p:bJ):∀ (g:List Nat) (l:List di),iw p g l=l++g.map λ n=>di.mk n false
  | [],l=>by simp [iw]
  | x::g,l=>by rw [iw,FT p g]; simp
theorem wZ (p:bJ) (g d:List Nat):kV p g d=bJ.mk p.av (D4 ((p.bD.ls++d.map λ n=>di.mk n true)++g.map λ n=>di.mk n false)):=by
  unfold kV
  simp only [dz,FR,FT]
def qP (k:Nat) (l:List bG):List bG:=l.filter λ w=>decide (w.au≠k)
theorem Em (m:ax) (k:Nat):dh m k=bF m.ag.ls k:=rfl
theorem hfind (m:ax) (k:Nat):eY m k=bI m.aa.ak.ls k:=rfl
theorem wH {m:ax} (hs:rO m.ag.ls) (k:Nat):eU m k=ax.mk m.aa (D4 (qP k m.ag.ls)):=by
  unfold eU
  rw [dz,Em]
  unfold qP
  rcases rP hs k with ⟨a,p,q,b,hp,ha,hq,h⟩ | ⟨a,q,b,ha,hq,h⟩
  . rw [h,if_pos rfl]
    simp only [K7]
    have e:t1 a.length m.ag.ls=a:=by rw [b]; exact t5 rfl
    have f:r7 (a.length+1) m.ag.ls=q:=by rw [b]; simp
    have c:a.filter (λ w=>decide (w.au≠k))=a:=Q4.2 λ r hr=>decide_eq_true (Q2 (ha r hr))
    have d:q.filter (λ w=>decide (w.au≠k))=q:=Q4.2 λ r hr=>decide_eq_true (Q5 (hq r hr))
    rw [e,f,b,M8,List.filter_cons_of_neg (by simp [hp]),c,d]
  . rw [h,if_neg i5]
    have c:a.filter (λ w=>decide (w.au≠k))=a:=Q4.2 λ r hr=>decide_eq_true (Q2 (ha r hr))
    have d:q.filter (λ w=>decide (w.au≠k))=q:=Q4.2 λ r hr=>decide_eq_true (Q5 (hq r hr))
    have g:m.ag.ls.filter (λ w=>decide (w.au≠k))=m.ag.ls:=by rw [b,M8,c,d]
    rw [g]
def sg (ws:List bG):Nat:=(ws.map λ w=>E0 ((q5 w.bK.ls:Int) - w.aU)).sum
def jQ (line:List di) (ws:List bG) (rs:List aK):Nat:=2 *sg ws+Wt rs+q5 line
theorem wI (p:bG->Bool):∀ l:List bG,sg (l.filter p)<=sg l
  | []=>s1 _
  | a::l=>by
    have ih:=wI p l
    rw [List.filter_cons]
    unfold sg at ih ⊢
    by_cases h:p a=true
    . rw [if_pos h]; simp only [s6,N3]; omega
    . rw [if_neg h]; simp only [s6,N3]; omega
theorem yC (a b:List bG):sg (a++b)=sg a+sg b:=by unfold sg; rw [List.map_append,List.sum_append]
theorem wP (a:bG) (b:List bG):sg (a::b)=E0 ((q5 a.bK.ls:Int) - a.aU)+sg b:=by unfold sg; rw [s6,N3]
theorem rT {α:Type} {l:List α} {i:Nat} {x:α} (hx:l[i]? =some x):l=t1 i l++x::r7 (i+1) l/\q5 (t1 i l)=i:=by
  have h:=(p2.1 hx).1
  refine⟨?_,by rw [m6]; omega⟩
  conv=>lhs; rw [<- s2 i l]
  rw [drop_at hx]
theorem Dj {α:Type} {l:List α} {i:Nat} {x y:α} (hx:l[i]? =some x):J0 l i y=t1 i l++y::r7 (i+1) l:=by
  have h:=(p2.1 hx).1
  rw [List.set_eq_take_append_cons_drop,if_pos h]
theorem Dk {ws:List bG} {i:Nat} {x y:bG} (hx:ws[i]? =some x) (hl:y.bK=x.bK) (hy:y.aU=x.aU+1):sg (J0 ws i y)+(if x.aU < (q5 x.bK.ls:Int) then 1 else 0)=sg ws:=by
  have a:=(rT hx).1
  rw [Dj hx]
  conv=>rhs; rw [a]
  rw [yC,yC,wP,wP,hl,hy]
  split <;> omega
theorem Dl {ws:List bG} (i:Nat):sg (t1 i ws++r7 (i+1) ws)<=sg ws:=by
  have h:sg ws=sg (t1 i ws)+sg (r7 i ws):=by rw [<- yC,s2]
  have a:sg (r7 (i+1) ws)<=sg (r7 i ws):=by
    cases e:ws[i]? with
    | none=>have:=List.getElem?_eq_none_iff.1 e; rw [List.drop_eq_nil_of_le e8]; exact Km _
    | some x=>rw [drop_at e,wP]; omega
  rw [yC]; omega
def Tx (ws:List bG) (hs:List dD) (n:Nat):Prop:=(∃ w ∈ ws,w.au=n)\/∃ h ∈ hs,h.aV=n
theorem Tk.gone {ws:List bG} {hs:List dD} {rs rs':List aK} {k:Nat} (h:Tk ws hs rs) (hr:∀ q ∈ rs',q.au≠k/\∃ s ∈ rs,s.au=q.au) (hs':jh rs'):Tk (qP k ws) hs rs' where
  wu:=h.wu.filter _
  hu:=h.hu
  dj:=λ w hw z hz=>h.dj w (N2.1 hw).1 z hz
  n:=by have:=h.n; have:=List.length_filter_le (λ w:bG=>decide (w.au≠k)) ws; unfold qP; omega
  gr:=λ w hw=>h.gr w (N2.1 hw).1
  ho:=h.ho
  snd:=hs'
  vB:=λ q hq=>by
    obtain⟨b,s,c,a⟩:=hr q hq
    rcases h.vB s c with ⟨w,hw,e⟩ | ⟨z,hz,e⟩
    . exact .inl ⟨w,N2.2 ⟨hw,decide_eq_true (by rw [e,a]; exact b)⟩,by rw [e,a]⟩
    . exact .inr ⟨z,hz,by rw [e,a]⟩
theorem EC {hs:List dD} (hu:vz hs) {z:dD} {j:Int} {b:Bool} (hf:bI hs z.aV=(j,b)) (hn:∀ h ∈ hs,h.aV≠z.aV):vz (t1 (E0 j) hs++(z::r7 (E0 j) hs)):=by
  rcases ug hu z.aV with ⟨a,p,q,c,hp,ha,hq,h⟩ | ⟨a,q,c,ha,hq,h⟩
  . exact absurd hp (hn p (by rw [c]; simp))
  . rw [h] at hf
    have d:j=(a.length:Int):=(congrArg Prod.fst hf).symm
    rw [d,K7,c,t5 rfl,List.drop_left' rfl]
    rw [c] at hu
    obtain⟨f,g,i⟩:=M7.1 hu
    exact M7.2 ⟨f,K4.2 ⟨hq,g⟩,λ r hr s hs=>by
      rcases t7.1 hs with e | e
      . rw [e]; exact ha r hr
      . exact i r hr s e⟩
theorem oq {α:Type} {l:List α} {i:Nat} {z x:α}:x ∈ t1 i l++(z::r7 i l)↔x=z\/x ∈ l:=by
  rw [P3,t7]
  constructor
  . rintro (h | h | h)
    . exact .inr (I3 h)
    . exact .inl h
    . exact .inr (Q6 h)
  . rintro (h | h)
    . exact .inr (.inl h)
    . rw [<- s2 i l] at h
      rcases P3.1 h with h | h
      . exact .inl h
      . exact .inr (.inr h)
theorem Tk.hold {ws:List bG} {hs:List dD} {rs:List aK} {i:Nat} {x:bG} {j:Int} {b:Bool} (h:Tk ws hs rs) (hx:ws[i]? =some x) (hf:bI hs x.au=(j,b)):
    Tk (t1 i ws++r7 (i+1) ws) (t1 (E0 j) hs++((dD.mk x.au (D4 x.cK.ls))::r7 (E0 j) hs)) rs where
  wu:=by
    have d:=h.wu
    rw [(rT hx).1] at d
    obtain⟨a,b,c⟩:=M7.1 d
    exact M7.2 ⟨a,(K4.1 b).2,λ r hr s hs=>c r hr s (.tail _ hs)⟩
  hu:=EC (z:=dD.mk x.au (D4 x.cK.ls)) h.hu hf λ z hz=>(h.dj x (C1 hx) z hz).symm
  dj:=λ w hw z hz=>by
    have d:=h.wu
    rw [(rT hx).1] at d
    obtain⟨a,b,c⟩:=M7.1 d
    have hne:w.au≠x.au:=by
      rcases P3.1 hw with e | e
      . exact Q2 (c w e x b3)
      . exact Q5 ((K4.1 b).1 w e)
    have hm:w ∈ ws:=by
      rcases P3.1 hw with e | e
      . exact I3 e
      . exact Q6 e
    rcases oq.1 hz with e | e
    . rw [e]; exact hne
    . exact h.dj w hm z e
  n:=by
    have:=h.n
    have d:=(p2.1 hx).1
    simp only [m8,q6,m6,List.length_drop]
    omega
  gr:=λ w hw=>h.gr w (by
    rcases P3.1 hw with e | e
    . exact I3 e
    . exact Q6 e)
  ho:=λ z hz=>by
    rcases oq.1 hz with e | e
    . rw [e]; exact(h.wat hx).2.1
    . exact h.ho z e
  snd:=h.snd
  vB:=λ r hr=>by
    rcases h.vB r hr with ⟨w,hw,e⟩ | ⟨z,hz,e⟩
    . rw [(rT hx).1] at hw
      rcases P3.1 hw with f | f
      . exact .inl ⟨w,q7 _ f,e⟩
      . rcases t7.1 f with g | g
        . exact .inr ⟨_,oq.2 (.inl rfl),by rw [<- e,g]⟩
        . exact .inl ⟨w,List.mem_append_right _ g,e⟩
    . exact .inr ⟨z,oq.2 (.inr hz),e⟩
theorem Dm {p:bJ} {z:dD} {m:ax} {s:StoreT} {e:Int} {t:bJ} (h:ji p z m s=(e,t)):t.bD=p.bD/\t.av.aI=p.av.aI/\t.av.bU=p.av.bU/\q5 t.av.bE.ls<=q5 p.av.bE.ls+1:=by
  unfold ji at h
  rw [dz] at h
  split at h
  . obtain⟨_,rfl⟩:=fC h; exact⟨rfl,rfl,rfl,by simp⟩
  . obtain⟨_,rfl⟩:=fC h; exact⟨rfl,rfl,rfl,Q7 _⟩
theorem Av {p:bJ} {k:Nat} {m:ax} {tb:aZ} (hs:jh tb.ai.ls) {t:bJ} {tb':aZ} (h:gu p k m tb=(t,tb')):
    t.av=p.av/\(∀ q ∈ tb'.ai.ls,q.au≠k/\∃ s ∈ tb.ai.ls,s.au=q.au)/\jh tb'.ai.ls/\q5 t.bD.ls+Wt tb'.ai.ls<=q5 p.bD.ls+Wt tb.ai.ls/\
      (Li p.bD.ls tb.ai.ls->(∀ f ∈ p.bD.ls,f.au≠k)->Li t.bD.ls tb'.ai.ls):=by
  unfold gu at h
  rw [dz,dz] at h
  cases hr:ik tb k with
  | mk g q=>cases q with
    | mk d e=>
      rw [hr,wZ] at h
      obtain⟨rfl,rfl⟩:=fC h
      have c:=AX (m:=tb.ai.ls) hs hr
      refine⟨rfl,c.1,zA hs hr, ?_,λ a b=>a.step b (λ q hq=> .inr (c.1 q hq).2) (Ci hs hr).1⟩
      simp only [m8,r5]
      have:=c.2
      omega
structure Gn (p:bJ) (m:ax) (tb:aZ) (t:bJ) (m':ax) (tb':aZ):Prop where
  tk:Tk m'.ag.ls m'.aa.ak.ls tb'.ai.ls
  tx:∀ n,Tx m'.ag.ls m'.aa.ak.ls n->Tx m.ag.ls m.aa.ak.ls n
  out:q5 t.av.bE.ls<=q5 p.av.bE.ls+1
  wr:t.av.aI=p.av.aI
  st:m'.aa= { m.aa with ak:=m'.aa.ak }
  li:Li t.bD.ls tb'.ai.ls
  gt:Gt m'.ag.ls
theorem Dp {ws:List bG} {hs:List dD} {i:Nat} {x y:bG} (hx:ws[i]? =some x) (ht:y.au=x.au) (n:Nat) (h:Tx (J0 ws i y) hs n):Tx ws hs n:=by
  rcases h with h | h
  . rw [yA,wO hx ht, <- yA] at h; exact .inl h
  . exact .inr h
theorem go_loop (p:bJ) (k:Nat) (m:ax) (s:StoreT) (r:Int):∀ (q:Nat) (l:List di) (rs:List aK) (ws:List bG),Tk ws m.aa.ak.ls rs->wG ws (E0 r) k->gm ws (E0 r) < q->Li l rs->(∀ f ∈ l,f.au≠k)->Gx k ws->
    (∀ n,Tx ws m.aa.ak.ls n->Tx m.ag.ls m.aa.ak.ls n)->
    (∀ l' rs' ws' x,jk p k m s r q l rs ws= .inl (l',rs',ws',x)->Tk ws' m.aa.ak.ls rs'/\ws'[E0 r]? =some x/\jQ l' ws' rs'<=jQ l ws rs/\(∀ n,Tx ws' m.aa.ak.ls n->Tx m.ag.ls m.aa.ak.ls n)/\Li l' rs'/\Gx k ws'/\x.au=k)/\
    (∀ e t m' tb',jk p k m s r q l rs ws= .inr (e,t,m',tb')->Gn p m (aZ.mk (D4 rs)) t m' tb'/\0 < gm ws (E0 r)/\jQ t.bD.ls m'.ag.ls tb'.ai.ls<=jQ l ws rs+1):=by
  intro q
  induction q with
  | zero=>intro l rs ws _ _ h; omega
  | succ q ih=>
    intro l rs ws hk hw hq hli hlk hgx htx
    obtain⟨x,hx,hxt⟩:=id hw
    have hgm:=Ch hx
    obtain⟨⟨g0,g9⟩,g1,g2⟩:=hk.wat hx
    rw [jk]
    simp only [dz,bz hx]
    by_cases v:x.aU < ((q5 x.bK.ls:Nat):Int)
    . rw [if_pos v]
      have hgt:Gt ws:=λ w z=>by
        by_cases e:w.au=k
        . obtain⟨j,hj⟩:=K6.1 z
          have A:=rR (m:=ax.mk m.aa (D4 ws)) hk.wu ⟨w,hj,e⟩
          have u:=rR (m:=ax.mk m.aa (D4 ws)) hk.wu hw
          rw [A] at u
          have H:j=E0 r:=Int.ofNat.inj (congrArg Prod.fst u)
          rw [H,hx] at hj
          cases hj
          exact v
        . exact hgx w z e
      have hpos:0 < gm ws (E0 r):=by rw [hgm]; omega
      cases ha:jr (aZ.mk (D4 rs)) k (List.getD x.bK.ls (E0 x.aU) default) with
      | mk sv I=>cases I with
        | mk g J=>cases J with
          | mk d K=>cases K with
            | mk e tb=>
              have b:=hk.ask hw ha
              have hpsi:=(y8 hk.snd ha).2
              have hsf:=Fg hk.snd ha
              have a:=hli.step hlk (y8 hk.snd ha).1 hsf.1
              simp only [wZ]
              have hlen:q5 ((l++d.map λ n=>di.mk n true)++g.map λ n=>di.mk n false)=q5 l+q5 d+q5 g:=by simp only [m8,r5]
              by_cases C:e=0
              . rw [if_pos C]
                have i:∀ f ∈ (l++d.map λ n=>di.mk n true)++g.map λ n=>di.mk n false,f.au≠k:=λ f hf o=>by
                  have hno:∀ n,(∃ s ∈ rs,s.au=n/\s.bn=true)->n≠k:=λ n ⟨s,hs,L,D⟩ M=>by
                    have:=hsf.2 C s hs (by rw [L,M]); rw [D] at this; cases this
                  rcases P3.1 hf with A | A
                  . rcases P3.1 A with u | u
                    . exact hlk f u o
                    . obtain⟨n,hn,rfl⟩:=List.mem_map.1 u
                      exact hno n (hsf.1.dw n hn) o
                  . obtain⟨n,hn,rfl⟩:=List.mem_map.1 A
                    exact hno n (hsf.1.gw n hn) o
                by_cases B:sv=2
                . rw [if_pos B]
                  refine⟨λ _ _ _ _ h=>(by cases h),λ o t m' tb' h=> ?_⟩
                  obtain⟨_,rfl,rfl,rfl⟩:=iR (Sum.inr.inj h)
                  refine⟨⟨b,htx,Q7 _,rfl,rfl,a,hgt⟩,hpos, ?_⟩
                  rw [if_pos B] at hpsi
                  unfold jQ
                  simp only [hlen]
                  omega
                . rw [if_neg B]
                  rw [if_neg B] at hpsi
                  by_cases G:sv=3
                  . rw [if_pos G]
                    refine⟨λ _ _ _ _ h=>(by cases h),λ o t m' tb' h=> ?_⟩
                    unfold j5 at h
                    rw [dz,wH (m:=ax.mk m.aa (D4 ws)) hk.wu] at h
                    simp only at h
                    cases hr:gu (bJ.mk (dH.mk (D4 (p.av.bE.ls++ [(dM.mk 4 m.aa.bC 0 0 5 0 0 0 k 0 0 0 0 0 0 false (aj.mk [] []) (D4 []) (D4 []) (D4 []))])) (D4 p.av.aI.ls) p.av.bU) (D4 ((l++d.map λ n=>di.mk n true)++g.map λ n=>di.mk n false))) k (ax.mk m.aa (D4 (qP k ws))) tb with
                    | mk N E=>
                      rw [hr] at h
                      obtain⟨_,rfl,rfl,rfl⟩:=iR (Sum.inr.inj h)
                      obtain⟨r1,O,P,Q,R⟩:=Av b.snd hr
                      refine⟨⟨b.gone O P,λ n hn=>htx n ?_,by simp,rfl,rfl,R a i,λ w hw=>hgt w (N2.1 hw).1⟩,hpos, ?_⟩
                      . rcases hn with ⟨w,hw,e⟩ | hn
                        . exact .inl ⟨w,(N2.1 hw).1,e⟩
                        . exact .inr hn
                      . have h5:=wI (λ w=>decide (w.au≠k)) ws
                        simp only [hlen] at Q
                        unfold jQ
                        show 2 *sg (qP k ws)+Wt E.ai.ls+q5 N.bD.ls<=_
                        unfold qP
                        omega
                  . rw [if_neg G]
                    have hbump:=b.bump (y:=bG.mk x.au (D4 x.cK.ls) (D4 x.bK.ls) (x.aU+1)) hx rfl rfl rfl (show (0:Int)<=x.aU+1/\x.aU+1<=((q5 x.bK.ls:Nat):Int) by omega)
                    have S:=Di (y:=bG.mk x.au (D4 x.cK.ls) (D4 x.bK.ls) (x.aU+1)) hx v rfl rfl
                    have F:=Dk (y:=bG.mk x.au (D4 x.cK.ls) (D4 x.bK.ls) (x.aU+1)) hx rfl rfl
                    rw [if_pos v] at F
                    have T:jQ ((l++d.map λ n=>di.mk n true)++g.map λ n=>di.mk n false) (J0 ws (E0 r) (bG.mk x.au (D4 x.cK.ls) (D4 x.bK.ls) (x.aU+1))) tb.ai.ls+2<=jQ l ws rs:=by
                      unfold jQ
                      rw [hlen]
                      omega
                    have hi:=ih ((l++d.map λ n=>di.mk n true)++g.map λ n=>di.mk n false) tb.ai.ls (J0 ws (E0 r) (bG.mk x.au (D4 x.cK.ls) (D4 x.bK.ls) (x.aU+1))) hbump (hw.set hx rfl) e8 a i (hgx.set hxt) (λ n hn=>htx n (Dp (y:=bG.mk x.au (D4 x.cK.ls) (D4 x.bK.ls) (x.aU+1)) hx rfl n hn))
                    refine⟨λ l' rs' ws' x' h=> ?_,λ o t m' tb' h=> ?_⟩
                    . obtain⟨c,U,V,W,X,Y,Z⟩:=hi.1 l' rs' ws' x' h
                      exact⟨c,U,e8,W,X,Y,Z⟩
                    . obtain⟨c,_,V⟩:=hi.2 o t m' tb' h
                      exact⟨⟨c.tk,c.tx,c.out,c.wr,c.st,c.li,c.gt⟩,hpos,e8⟩
              . rw [if_neg C]
                refine⟨λ _ _ _ _ h=>(by cases h),λ o t m' tb' h=> ?_⟩
                obtain⟨_,rfl,rfl,rfl⟩:=iR (Sum.inr.inj h)
                refine⟨⟨b,htx,Q7 _,rfl,rfl,⟨λ f hf=>a.dead f (q7 _ (q7 _ hf)),λ f hf=>a.AC f (q7 _ (q7 _ hf)),hli.Dy⟩,hgt⟩,hpos, ?_⟩
                unfold jQ
                show 2 *sg ws+Wt tb.ai.ls+q5 l<=_
                split at hpsi <;> omega
    . rw [if_neg v]
      refine⟨λ l' rs' ws' x' h=> ?_,λ _ _ _ _ h=>(by cases h)⟩
      obtain⟨rfl,rfl,rfl,rfl⟩:=iR (Sum.inl.inj h)
      exact⟨hk,hx,s1 _,htx,hli,hgx,hxt⟩
theorem sJ {p:bJ} {k:Nat} {m:ax} {s:StoreT} {tb:aZ} (hk:Tk m.ag.ls m.aa.ak.ls tb.ai.ls) (hli:Li p.bD.ls tb.ai.ls) (hlk:∀ f ∈ p.bD.ls,f.au≠k) (hgx:Gx k m.ag.ls) {e:Int} {t:bJ} {m':ax} {tb':aZ} (h:gX p k m s tb=(e,t,m',tb')):
    Gn p m tb t m' tb'/\(jQ t.bD.ls m'.ag.ls tb'.ai.ls<=jQ p.bD.ls m.ag.ls tb.ai.ls+1)/\((∀ i,wG m.ag.ls i k->gm m.ag.ls i=0)->jQ t.bD.ls m'.ag.ls tb'.ai.ls<=jQ p.bD.ls m.ag.ls tb.ai.ls):=by
  unfold gX at h
  rw [dz] at h
  cases hf:dh m k with
  | mk i b=>
    rw [hf] at h
    cases b with
    | false=>
      rw [if_neg i5] at h
      obtain⟨_,rfl,rfl,rfl⟩:=iR h
      refine⟨⟨hk,λ _ h=>h,Q7 _,rfl,rfl,hli,λ w hw=>hgx w hw λ d=> ?_⟩,Q7 _,λ _=>s1 _⟩
      obtain⟨j,hj⟩:=K6.1 hw
      rw [rR hk.wu ⟨w,hj,d⟩] at hf
      exact Bool.noConfusion (show true=false from congrArg Prod.snd hf)
    | true=>
      rw [if_pos rfl] at h
      have hw:=rQ hk.wu hf
      obtain⟨hl,hr⟩:=go_loop p k m s i (gm m.ag.ls (E0 i)+1) p.bD.ls tb.ai.ls m.ag.ls hk hw e8 hli hlk hgx (λ _ h=>h)
      cases hg:jk p k m s i (gm m.ag.ls (E0 i)+1) p.bD.ls tb.ai.ls m.ag.ls with
      | inr z=>
        obtain⟨d,D,E,u⟩:=z
        simp only at h
        rw [hg] at h
        obtain⟨rfl,rfl,rfl,rfl⟩:=iR (show (d,D,E,u)=(e,t,m',tb') from h)
        obtain⟨g,q,r⟩:=hr _ _ _ _ hg
        exact⟨⟨g.tk,g.tx,g.out,g.wr,g.st,g.li,g.gt⟩,r,λ F=>by have:=F _ hw; omega⟩
      | inl z=>
        obtain⟨y,l,o,x⟩:=z
        simp only at h
        rw [hg] at h
        obtain⟨g,q,r,G,H,A,J⟩:=hl _ _ _ _ hg
        simp only [lp,dz,hfind] at h
        cases hj:bI m.aa.ak.ls x.au with
        | mk j K=>
          rw [hj] at h
          have hh:=g.hold q hj
          generalize hv:ji _ _ _ _=v at h
          obtain⟨B,L⟩:=v
          obtain⟨M,N,O,I⟩:=Dm hv
          obtain⟨_,rfl,rfl,rfl⟩:=iR h
          refine⟨⟨hh,λ n hn=>G n ?_,I,rfl,rfl,H,λ w hw=> ?_⟩, ?_,λ _=> ?_⟩
          . rcases hn with ⟨w,hw,e⟩ | ⟨z,hz,e⟩
            . refine .inl ⟨w, ?_,e⟩
              rcases P3.1 hw with d | d
              . exact I3 d
              . exact Q6 d
            . rcases oq.1 hz with d | d
              . exact .inl ⟨x,C1 q,by rw [<- e,d]⟩
              . exact .inr ⟨z,d,e⟩
          . have C:=g.wu
            rw [(rT q).1] at C
            obtain⟨a,b,c⟩:=M7.1 C
            rcases P3.1 hw with d | d
            . exact A w (I3 d) λ B=>by have:=c w d x b3; omega
            . exact A w (Q6 d) λ B=>by have:=(K4.1 b).1 w d; omega
          . have:=Dl (ws:=o) (E0 i)
            unfold jQ at r ⊢
            show 2 *sg (t1 _ _++r7 _ _)+Wt l+q5 y<=_
            omega
          . have:=Dl (ws:=o) (E0 i)
            unfold jQ at r ⊢
            show 2 *sg (t1 _ _++r7 _ _)+Wt l+q5 y<=_
            omega
theorem drop1 {α:Type} {l:List α} {f:α} (h:l[0]? =some f):l=f::r7 1 l:=by
  cases l with
  | nil=>cases h
  | cons a l=>cases h; rfl
theorem Aw {line:List di} {f:di} {m:ax} {hs:List dD} {rs:List aK} {p t:bJ} {m':ax} (hk:Tk m.ag.ls hs rs) (hg:Gt m.ag.ls) (hli:Li line rs) (hf:line[0]? =some f) (hd:f.dC=true) (h:j5 p f.au m=(t,m')):
    Tk m'.ag.ls hs rs/\Gt m'.ag.ls/\Li (r7 1 line) rs/\jQ (r7 1 line) m'.ag.ls rs+1<=jQ line m.ag.ls rs:=by
  have e:=drop1 hf
  rw [e] at hli
  unfold j5 at h
  rw [dz,wH hk.wu] at h
  obtain⟨_,rfl⟩:=fC h
  refine⟨hk.gone (λ q hq=>⟨hli.dead f b3 hd q hq,q,hq,rfl⟩) hk.snd,λ w hw=>hg w (N2.1 hw).1,hli.tail.1, ?_⟩
  have a:=wI (λ w=>decide (w.au≠f.au)) m.ag.ls
  conv=>rhs; rw [e]
  unfold jQ
  show 2 *sg (qP f.au m.ag.ls)+_+_+1<=_
  unfold qP
  simp only [q6]
  omega
theorem BD {line:List di} {f:di} {m c:ax} {tb:aZ} {i:Int} {x:bG} {p:bJ} {s:StoreT} {e:Int} {t:bJ} {m':ax} {tb':aZ} (hk:Tk m.ag.ls m.aa.ak.ls tb.ai.ls) (hg:Gt m.ag.ls) (hli:Li line tb.ai.ls) (hf:line[0]? =some f)
    (hi:dh m f.au=(i,true)) (hx:m.ag.ls[E0 i]? =some x) (hp:p.bD.ls=r7 1 line) (hm:c=ax.mk m.aa (D4 (J0 m.ag.ls (E0 i) (bG.mk x.au (D4 x.cK.ls) (D4 x.bK.ls) (x.aU+1)))))
    (h:gX p f.au c s tb=(e,t,m',tb')):
    Tk m'.ag.ls m'.aa.ak.ls tb'.ai.ls/\Gt m'.ag.ls/\Li t.bD.ls tb'.ai.ls/\jQ t.bD.ls m'.ag.ls tb'.ai.ls+1<=jQ line m.ag.ls tb.ai.ls/\q5 t.av.bE.ls<=q5 p.av.bE.ls+1:=by
  have d:=drop1 hf
  rw [d] at hli
  obtain⟨⟨j,k⟩,l,n⟩:=hk.wat hx
  have hgx:=hg.wat hx
  have hw:=rQ hk.wu hi
  obtain⟨y,hy,hyt⟩:=id hw
  rw [hx] at hy; cases hy
  subst hm
  have hb:=hk.bump (y:=bG.mk x.au (D4 x.cK.ls) (D4 x.bK.ls) (x.aU+1)) hx rfl rfl rfl (show (0:Int)<=x.aU+1/\x.aU+1<=((q5 x.bK.ls:Nat):Int) by omega)
  have b:=Dk (y:=bG.mk x.au (D4 x.cK.ls) (D4 x.bK.ls) (x.aU+1)) hx rfl rfl
  rw [if_pos hgx] at b
  obtain⟨a,g,_⟩:=sJ (m:=ax.mk m.aa (D4 _)) hb (by rw [hp]; exact hli.tail.1) (by rw [hp]; exact hli.tail.2) ((hg.gx f.au).set hyt) h
  refine⟨a.tk,a.gt,a.li, ?_,a.out⟩
  conv=>rhs; rw [d]
  rw [hp] at g
  refine Nat.le_trans (Q8 g) ?_
  unfold jQ
  show 2 *sg (J0 _ _ _)+_+_+1+1<=_
  simp only [q6]
  omega
theorem BF {line:List di} {f:di} {m:ax} {tb:aZ} {i:Int} {b:Bool} {p:bJ} {s:StoreT} {e:Int} {t:bJ} {m':ax} {tb':aZ} (hk:Tk m.ag.ls m.aa.ak.ls tb.ai.ls) (hg:Gt m.ag.ls) (hli:Li line tb.ai.ls) (hf:line[0]? =some f)
    (hi:dh m f.au=(i,b)) (hb: ¬ b=true) (hp:p.bD.ls=r7 1 line) (h:gX p f.au m s tb=(e,t,m',tb')):
    Tk m'.ag.ls m'.aa.ak.ls tb'.ai.ls/\Gt m'.ag.ls/\Li t.bD.ls tb'.ai.ls/\jQ t.bD.ls m'.ag.ls tb'.ai.ls+1<=jQ line m.ag.ls tb.ai.ls/\q5 t.av.bE.ls<=q5 p.av.bE.ls+1:=by
  have c:=drop1 hf
  rw [c] at hli
  obtain⟨a,_,g⟩:=sJ hk (by rw [hp]; exact hli.tail.1) (by rw [hp]; exact hli.tail.2) (hg.gx f.au) h
  have d:=g λ j hj=>by
    rw [rR hk.wu hj] at hi
    exact absurd (congrArg Prod.snd hi).symm hb
  refine⟨a.tk,a.gt,a.li, ?_,a.out⟩
  conv=>rhs; rw [c]
  rw [hp] at d
  refine Nat.le_trans (Q8 d) ?_
  unfold jQ
  simp only [q6]
  omega
end Go.Proofs.YtndamapfnpihpaaGreat
