/-
 owner: operations cut.
-/
import Derived.Test.YtbkagebjhbphaaaGreatWc
namespace Go.Proofs.YtbkagebjhbphaaaGreat
open Int renaming fdiv→J0,toNat→D0
open IntKind renaming i64→C5,u64→D1
open List renaming drop→r3,flatMap→q3,flatMap_append→r4,getD→C0,length→r8,length_append→o1,length_cons→s0,length_drop→o0,length_nil→F2,length_replicate→H2,length_set→H1,length_take→m9,replicate→r6,take→q7,toArray→v9
open Ll renaming mk→E2
open Sv renaming mk→H0
open _root_.Go.Proofs.Tryz renaming call156→N8,call163→N9,isAgg3→C4,isAgg38→M7,isAgg9→C2,prog→v8,sizeOf38→M6,underlying39→y4,underlying58→G2
open WL renaming nil→C6
open Wp renaming exit→C7,loop→C3
set_option maxRecDepth 100000
open Go.RowKit
set_option linter.unusedVariables false
set_option linter.unusedSectionVars false
set_option linter.unusedSimpArgs false
def jW (d:List UInt8):List aY→Nat→Nat→Nat
  | [],b,a=>b
  | e::c,b,a=>if e.bF≤d then jW d c a (a+1) else jW d c b (a+1)
def qD (l0:List aY) (a:List UInt8):Int:=
 bnd (jW a l0 0 0) fun sLrL=>((sLrL:Nat):Int)
theorem yZ (w D l u x l0 c t) (H:Own w D w []) (o:Ro w D fun w'=>bE w' 2 l u (q3 aY.cells l0)) (y:u=l0.length) (M:l0.length *24≤211106232532992) (N:1≤l0.length) (hr:qD l0 c=t):
    Calls v8 162 #[.slice l u x, .string ⟨v9 c⟩] w (d9 fun v w'=>v=vI t∧Own w D w' []∧(0≤t∧t < ((l0.length:Nat):Int))):=by
 subst y
 refine cb Tryz.func162 ?_
 refine sr (Ar rfl (An rfl (Ic (sr (Mz rfl (Kz (vJ l0.length) (Mn rfl (bo ?_))))))))
 have z:=H.pk []
 obtain⟨A,d⟩:=Fz fun (b:Nat) (a:Nat) w'=>Own w D w' []∧a≤l0.length∧b≤a∧b≤a∧b≤l0.length∧0≤b∧b < l0.length∧jW c l0 0 0=jW c (r3 a l0) b a
 refine C3 (fun i:Nat × Nat=> [(5,vJ i.1),(9,vJ i.2),(8,vJ l0.length),(4,vI 0),(0, .slice l l0.length x),(1, .string ⟨v9 c⟩)]) A (fun i=>l0.length - i.2) (0,0) ⟨rfl,rfl,rfl,rfl,rfl,rfl,trivial⟩ (d.2 ⟨z,e6,e6,e6,e6,e6,e6,rfl⟩) ?_
 rintro ⟨b,a⟩ O p
 obtain⟨f,F,G,I,J,K,L,g⟩:=d.1 p
 refine sr (Kz (.bool (decide (((a:Nat):Int) < ((l0.length:Nat):Int)))) (nt (Ic ?_)))
 by_cases r:((a:Nat):Int) < ((l0.length:Nat):Int)
 obtain⟨h,m⟩:=dN (ls:=l0) (i:=a) aY.len f4 (f.ro o) e9
 have n:=drop_at m
 refine jT (dT r) (sk (Ic (bo (sr (Mz rfl (Ar rfl (Mz rfl (Mz rfl (fw (.pointer (some ⟨ab l,ao l+a *2,none⟩)) (Ij (qY) rfl rfl ((f.ro o).addr (i:=a) e6) e6) (Kz (.pointer (some ⟨ab l,ao l+a *2,none⟩)) (fw (.string ⟨v9 h.bF⟩) (Io rfl (bZ.one C2 (((f.ro o).elem aY.len m f4).at_ (k:=0) rfl))) (Mz rfl (fw (.bool (decide (h.bF≤c))) (IG (e:=Op.bytesLess h.bF c || decide (h.bF=c)) (JA rfl rfl) (zN _ _)) (nt ?_))))))))))))))
 by_cases j:h.bF≤c
 refine jT (dT j) (Ib (Mz rfl (Az rfl (C6 (bN (Ig (Ib (fw (vJ (a+1)) (Ie (e:=C5.wrap (((a:Nat):Int)+1)) yk f0) (Mz rfl (C6 ?_))))))))))
 have B:=f.pk []
 exact Ir (a,a+1) ⟨rfl,rfl,rfl,rfl,rfl,rfl,trivial⟩ (d.2 ⟨B,e6,e6,e6,e6,e6,e6,et (g) (et (congrArg (fun q=>jW c q b a) n) (ip j))⟩) (by show l0.length - (a+1) < l0.length - a; omega)
 refine jF (dF j) (IE (bN (Ig (Ib (fw (vJ (a+1)) (Ie (e:=C5.wrap (((a:Nat):Int)+1)) yk f0) (Mz rfl (C6 ?_)))))))
 have C:=f.pk []
 exact Ir (b,a+1) ⟨rfl,rfl,rfl,rfl,rfl,rfl,trivial⟩ (d.2 ⟨C,e6,e6,e6,e6,e6,e6,et (g) (et (congrArg (fun q=>jW c q b a) n) (iN j))⟩) (by show l0.length - (a+1) < l0.length - a; omega)
 refine jF (dF r) (C7 (Il ?_))
 have s:jW c l0 0 0=b:=et (g) (et (congrArg (fun q=>jW c q b a) (fB (ls:=l0) (i:=a) e6)) rfl)
 refine Il (IB (Ig (sr (Mz rfl (An rfl (rt (rs ?_)))))))
 have E:=f.pk []
 obtain rfl:_=((b:Nat):Int):=hr.symm.trans (ah s)
 exact⟨rfl,E,e6⟩
def mM (l0:List aY) (c:Int):bC:=
 bnd (C0 l0 (D0 c) default) fun a=>if c+1 < ((l0.length:Nat):Int) then bnd (C0 l0 (D0 (c+1)) default) fun b=>bC.mk a.bF b.bF else bC.mk a.bF ([])
theorem o5 (w D h r C l0 b) (B:bC) (H:Own w D w []) (c:Ro w D fun w'=>bE w' 2 h r (q3 aY.cells l0)) (s:r=l0.length) (E:l0.length *24≤211106232532992) (F:0≤b∧b < ((l0.length:Nat):Int)) (hr:mM l0 b=B):
    Calls v8 156 #[.slice h r C,vI b] w (d9 fun v w'=>v= .agg (bC.cells B).toArray∧Own w D w' []):=by
 subst s
 refine cb Tryz.func156 ?_
 refine sr ?_
 refine dV [.string ⟨v9 ([])⟩, .string ⟨v9 ([])⟩] 38 H ?_
 intro G I j
 refine ns (Mz rfl (fw (vJ (D0 b)) (Ie (e:=b) (Iq rfl) e6) ?_))
 obtain⟨a,g⟩:=dN (ls:=l0) (i:=D0 b) aY.len f4 (j.ro c) e9
 refine fw (.pointer (some ⟨ab h,ao h+(D0 b) *2,none⟩)) (Ij (qY) rfl rfl ((j.ro c).addr (i:=D0 b) e6) e6) (Kz (.pointer (some ⟨ab h,ao h+(D0 b) *2,none⟩)) (fw (.string ⟨v9 a.bF⟩) (Io rfl (bZ.one C2 (((j.ro c).elem aY.len g f4).at_ (k:=0) rfl))) (Kz (.agg #[.string ⟨v9 a.bF⟩, .string ⟨v9 ([])⟩]) ?_)))
 refine dV [.string ⟨v9 ([])⟩, .string ⟨v9 ([])⟩] 38 j ?_
 intro t J u
 refine dS [.string ⟨v9 a.bF⟩, .string ⟨v9 ([])⟩] 0 u M6 ?_
 intro K d
 refine nt (Ic (sr (Mz rfl (fw (vI (b+1)) (Ie (e:=C5.wrap (b+1)) yk g2) (Mz rfl (Kz (vJ l0.length) (Kz (.bool (decide (b+1 < ((l0.length:Nat):Int)))) (nt ?_))))))))
 by_cases l:b+1 < ((l0.length:Nat):Int)
 refine jT (dT l) (Ib (Mz rfl (Mz rfl (fw (vJ (D0 (b+1))) (Ie (e:=C5.wrap (b+1)) yk f0) ?_))))
 obtain⟨f,n⟩:=dN (ls:=l0) (i:=D0 (b+1)) aY.len f4 (d.ro c) e9
 refine fw (.pointer (some ⟨ab h,ao h+(D0 (b+1)) *2,none⟩)) (Ij (qY) rfl rfl ((d.ro c).addr (i:=D0 (b+1)) e6) e6) (Kz (.pointer (some ⟨ab h,ao h+(D0 (b+1)) *2,none⟩)) (fw (.string ⟨v9 f.bF⟩) (Io rfl (bZ.one C2 (((d.ro c).elem aY.len n f4).at_ (k:=0) rfl))) (Kz (vP t 1) ?_)))
 refine dS [.string ⟨v9 f.bF⟩] 1 d Tryz.sizeOf9 ?_
 intro L o
 refine ns (La ([.string ⟨v9 a.bF⟩, .string ⟨v9 f.bF⟩]) o 0 M7 M6 ?_)
 have x:=o.pb [0]
 refine dS [.string ⟨v9 a.bF⟩, .string ⟨v9 f.bF⟩] 0 x M6 ?_
 intro M p
 refine nt (rt (Fin.res (ol rfl rfl (Iy (cs:= [.string ⟨v9 a.bF⟩, .string ⟨v9 f.bF⟩]) M7 M6 ((p.cls (i:=0) rfl).lit (k:=0) (m:=2) rfl))) ?_))
 have y:=p.pk []
 obtain rfl:_=bC.mk a.bF f.bF:=hr.symm.trans (et (ah (bJ g)) (et (ip l) (ah (bJ n))))
 exact⟨rfl,y⟩
 refine jF (dF l) (sk (sr (La ([.string ⟨v9 a.bF⟩, .string ⟨v9 ([])⟩]) d 0 M7 M6 ?_)))
 have z:=d.pb [0]
 refine dS [.string ⟨v9 a.bF⟩, .string ⟨v9 ([])⟩] 0 z M6 ?_
 intro N q
 refine nt (rt (Fin.res (ol rfl rfl (Iy (cs:= [.string ⟨v9 a.bF⟩, .string ⟨v9 ([])⟩]) M7 M6 ((q.cls (i:=0) rfl).lit (k:=0) (m:=2) rfl))) ?_))
 have A:=q.pk []
 obtain rfl:_=bC.mk a.bF ([]):=hr.symm.trans (et (ah (bJ g)) (iN l))
 exact⟨rfl,A⟩
def mO (a:List UInt8) (b:List UInt8):(List UInt8):=
 if a=([]) then b else if b≠([]) then if b < a then b else a else a
theorem xO (w D d c k) (H:Own w D w []) (hr:mO d c=k):
    Calls v8 187 #[.string ⟨v9 d⟩, .string ⟨v9 c⟩] w (d9 fun v w'=>v= .string ⟨v9 k⟩∧Own w D w' []):=by
 refine cb Tryz.func187 ?_
 refine sr (An rfl (Ic (sr (Mz rfl (fw (.bool (decide (d=([])))) (JJ rfl rfl) (Mz rfl ?_))))))
 by_cases a:d=([])
 refine Sz (dT a) (Sz (dT a) (Sz (dT a) (IR rfl rfl rfl (IR rfl rfl rfl (IR rfl rfl rfl (Sz (dT a) (fw (.bool true) (Iw rfl (dT a) rfl) (nt (jt (sr (Mz rfl (An rfl (rt (tR (rs ?_)))))))))))))))
 have g:=H.pk []
 obtain rfl:_=c:=hr.symm.trans (ip a)
 exact⟨rfl,g⟩
 refine gw (.string ⟨v9 c⟩) (dF a) (Iq rfl) (gw (.bool (decide (c≠([])))) (dF a) (Js rfl rfl) (gw (.bool (decide (c≠([])))) (dF a) (Iq rfl) ?_))
 by_cases b:c≠([])
 refine gw (.string ⟨v9 c⟩) (dT b) (Iq rfl) (gw (.string ⟨v9 d⟩) (dT b) (Iq rfl) (gw (.bool (decide (c < d))) (dT b) (IG (e:=Op.bytesLess c d) (J3 rfl rfl) (Cu _ _)) (gw (.bool (decide (c < d))) (dF a) (Iw rfl (dT b) rfl) (fw (.bool (decide (c < d))) (Ih rfl (dF a) rfl) (nt ?_)))))
 by_cases f:c < d
 refine jT (dT f) (sr (Mz rfl (An rfl (rt (tR (rs ?_))))))
 have h:=H.pk []
 obtain rfl:_=c:=hr.symm.trans (et (iN a) (et (ip b) (ip f)))
 exact⟨rfl,h⟩
 refine jF (dF f) (sk (sr (Mz rfl (An rfl (rt (rs ?_))))))
 have i:=H.pk []
 obtain rfl:_=d:=hr.symm.trans (et (iN a) (et (ip b) (iN f)))
 exact⟨rfl,i⟩
 refine Sz (dF b) (Sz (dF b) (Sz (dF b) (gw (.bool false) (dF a) (Ih rfl (dF b) rfl) (fw (.bool false) (Ih rfl (dF a) rfl) (nt (jf (sk (sr (Mz rfl (An rfl (rt (rs ?_))))))))))))
 have j:=H.pk []
 obtain rfl:_=d:=hr.symm.trans (et (iN a) (iN b))
 exact⟨rfl,j⟩
def o6 (b:List UInt8) (a:List UInt8):Bool:=
 if a=([]) then true else decide (b < a)
theorem zL (w D c b g) (H:Own w D w []) (hr:o6 c b=g):
    Calls v8 188 #[.string ⟨v9 c⟩, .string ⟨v9 b⟩] w (d9 fun v w'=>v= .bool g∧Own w D w' []):=by
 refine cb Tryz.func188 ?_
 refine sr (Ar rfl (Mz rfl (fw (.bool (decide (b=([])))) (JJ rfl rfl) (Mz rfl ?_))))
 by_cases a:b=([])
 refine Sz (dT a) (Sz (dT a) (Sz (dT a) (fw (.bool true) (Iw rfl (dT a) rfl) (An rfl (rt (rs ?_))))))
 have d:=H.pk []
 obtain rfl:_=true:=hr.symm.trans (ip a)
 exact⟨rfl,d⟩
 refine gw (.string ⟨v9 c⟩) (dF a) (Iq rfl) (gw (.string ⟨v9 b⟩) (dF a) (Iq rfl) (gw (.bool (decide (c < b))) (dF a) (IG (e:=Op.bytesLess c b) (J3 rfl rfl) (Cu _ _)) (fw (.bool (decide (c < b))) (Ih rfl (dF a) rfl) (An rfl (rt (rs ?_))))))
 have f:=H.pk []
 obtain rfl:_=decide (c < b):=hr.symm.trans (iN a)
 exact⟨rfl,f⟩
def iK (e:bC) (f:bC):bC × Bool:=
 bnd (kG e) fun b=>if b=0 then bnd (kG f) fun c=>if c=0 then bnd (mO e.bT f.bT) fun a=>bnd (o6 (pG e.bF f.bF) a) fun d=>if d=true then(bC.mk (pG e.bF f.bF) a,true) else(bC.mk ([]) ([]),false) else(bC.mk ([]) ([]),false) else(bC.mk ([]) ([]),false)
theorem oK (w D) (d:bC) (c:bC) (r0:bC) (r1) (H:Own w D w []) (hr:iK d c=(r0,r1)):
    Calls v8 163 #[.agg (bC.cells d).toArray, .agg (bC.cells c).toArray] w (d9 fun v w'=>v= .tuple #[.agg (bC.cells r0).toArray, .bool r1]∧Own w D w' []):=by
 refine cb Tryz.func163 ?_
 refine sr ?_
 refine dV (bC.cells d) 38 H ?_
 intro B aP Z
 refine dV (bC.cells c) 38 Z ?_
 intro C aQ aa
 refine dV [.string ⟨v9 ([])⟩, .string ⟨v9 ([])⟩] 38 aa ?_
 intro aR aS E
 refine An rfl (Ic (sr (La (bC.cells d) E 2 M7 M6 ?_)))
 obtain⟨s,f⟩:∃ q,kG d=q:=⟨_,rfl⟩
 obtain⟨aT,F,aG,G,aH⟩:=Ii E
 refine cl Tryz.call116 (qG _ _ d s F f) ?_
 rintro _ aU ⟨rfl,I⟩
 have x:=G _ _ I
 refine fw (.bool (decide (¬ (s=0)))) (IG (e:= !(decide (s=0))) yk decide_not.symm) (Mz rfl ?_)
 by_cases a:s=0
 refine gw (.agg (bC.cells c).toArray) (dF (Lh a)) (Io rfl (Iy (cs:=(bC.cells c)) M7 M6 ((x.cls (i:=1) rfl).lit (k:=0) (m:=2) rfl))) ?_
 obtain⟨h,g⟩:∃ q,kG c=q:=⟨_,rfl⟩
 obtain⟨aV,J,aI,K,aJ⟩:=Ii x
 refine vR (dF (Lh a)) Tryz.call116 (qG _ _ c h J g) ?_
 rintro _ aW ⟨rfl,L⟩
 have M:=K _ _ L
 refine gw (.bool (decide (¬ (h=0)))) (dF (Lh a)) (IG (e:= !(decide (h=0))) yk decide_not.symm) (fw (.bool (decide (¬ (h=0)))) (Ih rfl (dF (Lh a)) rfl) (nt ?_))
 by_cases j:h=0
 refine jF (dF (Lh j)) (sk (Ic ?_))
 refine Es [] (Iu IC) M ?_
 intro aX ae
 refine qp B 0 0 rfl (ql 1 rfl 2 C2 rfl rfl rfl (qp C 0 2 rfl (ql 3 rfl 1 C2 rfl rfl rfl (qt (v:= .string ⟨v9 (pG d.bF c.bF)⟩) 4 rfl (fun _ _=>Kw rfl) (qp B 1 5 rfl (ql 6 rfl 2 C2 rfl rfl rfl (qp C 1 7 rfl (ql 8 rfl 1 C2 rfl rfl rfl ?_))))))))
 obtain⟨b,l⟩:∃ q,mO d.bT c.bT=q:=⟨_,rfl⟩
 refine Eu ⟨9,_,_,_,_,_,Unit,fun N=> .string ⟨v9 b⟩,fun _=>True,fun N=> []⟩ ⟨11,_,_,_,_,_,Nat,fun N=>vP N 0,fun _=>True,fun N=> [blk N [.string ⟨v9 ([])⟩, .string ⟨v9 ([])⟩] 38]⟩ 10 3 ae ⟨⟨rfl,rfl,rfl, ?_⟩,⟨rfl,rfl,rfl, ?_⟩,trivial⟩ rfl ?_
 intro aY L' af
 refine(IY (cs:= [.string ⟨v9 ([])⟩, .string ⟨v9 ([])⟩]) (t:=38) af rfl rfl (fun _=>by kernel_rfl) ?_)
 intro n aZ ag
 exact⟨n,rfl,trivial,ag⟩
 intro bf L' ai
 obtain⟨bg,O,aK,P,aL⟩:=Ii ai
 refine(Iz Tryz.call187 rfl (xO _ _ d.bT c.bT b O l) ?_)
 rintro _ bi ⟨rfl,Q⟩
 have aj:=P _ _ Q
 exact⟨(),rfl,trivial,aj⟩
 rintro ⟨⟩ _
 refine⟨.agg #[.string ⟨v9 (pG d.bF c.bF)⟩, .string ⟨v9 b⟩],fun _=>yk, ?_⟩
 rintro n _
 intro ak au
 have av:Own w D ak (blk n [.string ⟨v9 ([])⟩, .string ⟨v9 ([])⟩] 38::_):=au.flat.pf []
 have ax:=av.pb [0]
 have ay:=ax.pf [3]
 refine qe 12 rfl (Do.store (vs:= [.string ⟨v9 (pG d.bF c.bF)⟩, .string ⟨v9 b⟩]) (o:=0) ay rfl rfl M6 rfl rfl rfl rfl ?_)
 intro bn az
 have R:=az.pb [0]
 refine⟨.inr ⟨_,R⟩, ?_⟩
 refine qn (Ig (Ic (Ic ?_)))
 have y:=R.pk [0,3]
 refine Ib (Kz (vP n 0) (Lz (.string ⟨v9 (pG d.bF c.bF)⟩) y 1 C2 (Kz (vP n 1) (Lz (.string ⟨v9 b⟩) y 1 C2 ?_))))
 obtain⟨z,p⟩:∃ q,o6 (pG d.bF c.bF) b=q:=⟨_,rfl⟩
 obtain⟨bq,S,aM,T,aN⟩:=Ii y
 refine cl Tryz.call188 (zL _ _ (pG d.bF c.bF) b z S p) ?_
 rintro _ bu ⟨rfl,U⟩
 have A:=T _ _ U
 refine Kz (.bool (!z)) (nt ?_)
 rcases Li (z) with r | r
 refine jF (cn r) (sk (sr (La ([.string ⟨v9 (pG d.bF c.bF)⟩, .string ⟨v9 b⟩]) A 1 M7 M6 ?_)))
 refine dS [.string ⟨v9 (pG d.bF c.bF)⟩, .string ⟨v9 b⟩] 0 A M6 ?_
 intro bv V
 refine An rfl (rt (Fin.res (kS (vs:= [.agg #[.string ⟨v9 (pG d.bF c.bF)⟩, .string ⟨v9 b⟩], .bool true]) rfl (eu.cell rfl (Iy (cs:= [.string ⟨v9 (pG d.bF c.bF)⟩, .string ⟨v9 b⟩]) M7 M6 ((V.cls (i:=0) rfl).lit (k:=0) (m:=2) rfl)) (eu.tmp rfl eu.nil)) (Le rfl)) ?_))
 have aA:=V.pk []
 obtain⟨rfl,rfl⟩:=ic (hr.symm.trans (show _=(bC.mk (pG d.bF c.bF) b,true) from et (ah f) (et (ip a) (et (ah g) (et (ip j) (et (ah l) (et (ah p) (ip r))))))))
 exact⟨rfl,aA⟩
 refine jT (cn r) (sr (Kz (.agg #[.string ⟨v9 ([])⟩, .string ⟨v9 ([])⟩]) ?_))
 refine dS [.string ⟨v9 ([])⟩, .string ⟨v9 ([])⟩] 0 A M6 ?_
 intro bz W
 refine An rfl (rt (tR (Fin.res (kS (vs:= [.agg #[.string ⟨v9 ([])⟩, .string ⟨v9 ([])⟩], .bool false]) rfl (eu.cell rfl (Iy (cs:= [.string ⟨v9 ([])⟩, .string ⟨v9 ([])⟩]) M7 M6 ((W.cls (i:=0) rfl).lit (k:=0) (m:=2) rfl)) (eu.tmp rfl eu.nil)) (Le rfl)) ?_)))
 have aB:=W.pk []
 obtain⟨rfl,rfl⟩:=ic (hr.symm.trans (show _=(bC.mk ([]) ([]),false) from et (ah f) (et (ip a) (et (ah g) (et (ip j) (et (ah l) (et (ah p) (gm r))))))))
 exact⟨rfl,aB⟩
 refine jT (dT j) (sr (Kz (.agg #[.string ⟨v9 ([])⟩, .string ⟨v9 ([])⟩]) ?_))
 refine dS [.string ⟨v9 ([])⟩, .string ⟨v9 ([])⟩] 0 M M6 ?_
 intro bA X
 refine An rfl (rt (tR (Fin.res (kS (vs:= [.agg #[.string ⟨v9 ([])⟩, .string ⟨v9 ([])⟩], .bool false]) rfl (eu.cell rfl (Iy (cs:= [.string ⟨v9 ([])⟩, .string ⟨v9 ([])⟩]) M7 M6 ((X.cls (i:=0) rfl).lit (k:=0) (m:=2) rfl)) (eu.tmp rfl eu.nil)) (Le rfl)) ?_)))
 have aC:=X.pk []
 obtain⟨rfl,rfl⟩:=ic (hr.symm.trans (show _=(bC.mk ([]) ([]),false) from et (ah f) (et (ip a) (et (ah g) (iN j)))))
 exact⟨rfl,aC⟩
 refine Sz (dT a) (Sz (dT a) (Sz (dT a) (fw (.bool true) (Iw rfl (dT a) rfl) (nt (jt (sr (Kz (.agg #[.string ⟨v9 ([])⟩, .string ⟨v9 ([])⟩]) ?_)))))))
 refine dS [.string ⟨v9 ([])⟩, .string ⟨v9 ([])⟩] 0 x M6 ?_
 intro aO u
 refine An rfl (rt (tR (Fin.res (kS (vs:= [.agg #[.string ⟨v9 ([])⟩, .string ⟨v9 ([])⟩], .bool false]) rfl (eu.cell rfl (Iy (cs:= [.string ⟨v9 ([])⟩, .string ⟨v9 ([])⟩]) M7 M6 ((u.cls (i:=0) rfl).lit (k:=0) (m:=2) rfl)) (eu.tmp rfl eu.nil)) (Le rfl)) ?_)))
 have Y:=u.pk []
 obtain⟨rfl,rfl⟩:=ic (hr.symm.trans (show _=(bC.mk ([]) ([]),false) from et (ah f) (iN a)))
 exact⟨rfl,Y⟩
def gy (l0:List aY) (f:Int) (p2:bi):List aY→List bi→Nat→(List bi)
  | [],b,c=>b
  | g::d,b,c=>if g.eG=f then bnd (mM l0 ((c:Nat):Int)) fun e=>bnd (iK (bC.mk p2.bF p2.bT) e) fun a=>if a.2=true then gy l0 f p2 d (b++ [(bi.mk p2.aD ([]) ([]) a.1.bF a.1.bT p2.bS)]) (c+1) else gy l0 f p2 d b (c+1) else gy l0 f p2 d b (c+1)
def gz (l0:List aY) (g:Int) (p2:bi):List aY→List bi→Nat→(List bi)
  | [],a,b=>a
  | f::d,a,b=>if f.eG=g then bnd (mM l0 ((b:Nat):Int)) fun e=>bnd (iK (bC.mk p2.bF p2.bT) e) fun c=>if c.2=true then gz l0 g p2 d (a++ [(bi.mk p2.aD ([]) ([]) c.1.bF c.1.bT p2.bS)]) (b+1) else gz l0 g p2 d a (b+1) else gz l0 g p2 d a (b+1)
def jc (l0:List aY) (c:Int) (p2:bi):(List bi):=
 if p2.aD=4 then bnd (gy l0 c p2 l0 ([]) 0) fun sLrtL=>sLrtL else if p2.aD=5 then bnd (gz l0 c p2 l0 ([]) 0) fun sLrftL=>sLrftL else bnd (qD l0 p2.bY) fun a=>bnd (C0 l0 (D0 a) default) fun b=>bnd (if b.eG=c then [p2] else []) fun sJrffbbJ=>sJrffbbJ
theorem za (w D L n0 c0 l0 n) (p2:bi) (r0) (H:Own w D w []) (B:Ro w D fun w'=>bE w' 2 L n0 (q3 aY.cells l0)) (jg:n0=l0.length) (lJ:l0.length *24≤211106232532992) (lK:1≤l0.length∧l0.length≤6) (hr:jc l0 n p2=r0):
    Calls v8 146 #[.slice L n0 c0,vI n, .agg (bi.cells p2).toArray] w (d9 fun v w'=> ∃ B0 b0,v= .slice B0 r0.length b0∧Own w D w' [row B0 r0.length b0 (q3 bi.cells r0) 72 6]∧(r0.length≤6)):=by
 subst jg
 refine cb Tryz.func146 ?_
 refine sr ?_
 refine dV (bi.cells p2) 72 H ?_
 intro f eQ aJ
 refine Ar rfl (An rfl (Ic (sr (Kz (vP f 0) (Lz (vI p2.aD) aJ 0 C4 (fw (.bool (decide (¬ (p2.aD=4)))) (IG (e:= !(decide (p2.aD=4))) yk decide_not.symm) (Mz rfl ?_)))))))
 by_cases M:p2.aD=4
 refine Sk rfl rfl (dF (Lh M)) rfl (Sk rfl rfl (dF (Lh M)) rfl (Sk rfl rfl (dF (Lh M)) rfl (fw (.bool false) (Ih rfl (dF (Lh M)) rfl) (nt (jf (sk (Ic (sr (Mz rfl (Kz (vJ l0.length) (Mn rfl (bo ?_))))))))))))
 have jh:Own w D eQ [row none 0 0 (q3 bi.cells ([])) 72 6,blk f (bi.cells p2) 72]:=aJ.free (eZ 72 6)
 have ji:=jh.pb [0]
 obtain⟨jk,C⟩:=sQ fun Y (Z:Nat) d (b:Nat) w'=>Own w D w' [blk f (bi.cells p2) 72,row Y d.length Z (q3 bi.cells d) 72 6]∧b≤l0.length∧d.length≤b∧gy l0 n p2 l0 ([]) 0=gy l0 n p2 (r3 b l0) d b
 refine C3 (fun i:(Option Addr) × Nat × (List bi) × Nat=> [(7, .slice i.1 i.2.2.1.length i.2.1),(36,vJ i.2.2.2),(35,vJ l0.length),(6, .slice none 0 0),(5,vP f 0),(0, .slice L l0.length c0),(1,vI n)]) jk (fun i=>l0.length - i.2.2.2) (none,0, [],0) ⟨rfl,rfl,rfl,rfl,rfl,rfl,rfl,trivial⟩ (C.2 ⟨ji,(show 0≤l0.length∧0≤0∧gy l0 n p2 l0 ([]) 0=gy l0 n p2 (r3 0 l0) ([]) 0 from ⟨e6,e6,rfl⟩)⟩) ?_
 rintro ⟨Y,Z,d,b⟩ lL eT
 obtain⟨aK,j5,j6,F⟩:=C.1 eT
 refine sr (Kz (.bool (decide (((b:Nat):Int) < ((l0.length:Nat):Int)))) (nt (Ic ?_)))
 by_cases eU:((b:Nat):Int) < ((l0.length:Nat):Int)
 obtain⟨bB,bD⟩:=dN (ls:=l0) (i:=b) aY.len f4 (aK.ro B) e9
 have N:=drop_at bD
 refine jT (dT eU) (sk (Ic (bo (sr (Mz rfl (An rfl (Ic (sr (Mz rfl (Mz rfl (fw (.pointer (some ⟨ab L,ao L+b *2,none⟩)) (Ij (qY) rfl rfl ((aK.ro B).addr (i:=b) e6) e6) (Kz (.pointer (some ⟨ab L,ao L+b *2+1,none⟩)) (fw (vI bB.eG) (Io rfl (bZ.one C4 (((aK.ro B).elem aY.len bD f4).at_ (k:=1) rfl))) (Mz rfl (fw (.bool (decide (¬ (bB.eG=n)))) (IG (e:= !(decide (bB.eG=n))) yk decide_not.symm) (nt ?_))))))))))))))))
 by_cases X:bB.eG=n
 refine jF (dF (Lh X)) (sk (Ic ?_))
 refine qy [] (Iu (bQ.block (Iu (Iu (bQ.block (Iu IC)))))) aK ?_
 intro lM eX
 refine qp f 3 0 rfl (ql 1 rfl 0 C2 rfl rfl rfl (qp f 4 2 rfl (ql 3 rfl 0 C2 rfl rfl rfl (qk (.agg #[.string ⟨v9 p2.bF⟩, .string ⟨v9 p2.bT⟩]) 4 rfl (qv 5 rfl rfl (qv 6 rfl rfl ?_))))))
 refine Jj 7 12 e7 ?_ ?_
 obtain⟨aM,aa⟩:∃ q,mM l0 ((b:Nat):Int)=q:=⟨_,rfl⟩
 obtain⟨lN,eY,fe,fo,kg⟩:=Ii eX
 refine GY.do 7 rfl e7 (Iz N8 rfl (o5 _ _ L l0.length c0 l0 ((b:Nat):Int) aM eY (fe _ B) rfl e6 e6 aa) ?_)
 rintro _ lQ ⟨rfl,fq⟩
 have dh:=fo _ _ fq
 refine⟨.inr ⟨_,dh⟩, ?_⟩
 refine Jj 8 12 e7 ?_ ?_
 obtain⟨⟨p,di⟩,aN⟩:∃ q:bC × Bool,iK (bC.mk p2.bF p2.bT) aM=q:=⟨_,rfl⟩
 obtain⟨lS,fu,ko,fA,kr⟩:=Ii dh
 refine GY.do 8 rfl e7 (Iz N9 rfl (oK _ _ (bC.mk p2.bF p2.bT) aM p di fu aN) ?_)
 rintro _ lT ⟨rfl,fC⟩
 have fD:=fA _ _ fC
 refine⟨.inr ⟨_,fD⟩, ?_⟩
 refine qv 9 rfl rfl (qk (.agg (bC.cells p).toArray) 10 rfl (qk (.bool di) 11 rfl ?_))
 refine qd 12 rfl (IY (cs:= [.string ⟨v9 ([])⟩, .string ⟨v9 ([])⟩]) (t:=38) fD rfl rfl (fun _=>by kernel_rfl) ?_)
 intro fE lU jl
 have fF:=jl.pb [0]
 refine⟨.inr ⟨_,fF⟩, ?_⟩
 have jm:=fF.pf [2]
 refine qe 13 rfl (Do.store (vs:=(bC.cells p)) (o:=0) jm rfl rfl M6 rfl rfl rfl rfl ?_)
 intro lV jo
 have au:=jo.pb [0]
 refine⟨.inr ⟨_,au⟩, ?_⟩
 refine qa 14 rfl rfl (qn (Ig (sr (Mn rfl ?_))))
 rcases Li (di) with aO | aO
 refine jT aO (Ib (Mz rfl (Kz (vP f 0) (Lz (vI p2.aD) au 0 C4 (Kz (vP fE 0) (Lz (.string ⟨v9 p.bF⟩) au 2 C2 (Kz (vP fE 1) (Lz (.string ⟨v9 p.bT⟩) au 2 C2 (Kz (vP f 5) (Lz (vI p2.bS) au 0 C4 (Kz (.agg #[vI p2.aD, .string ⟨v9 ([])⟩, .string ⟨v9 ([])⟩, .string ⟨v9 p.bF⟩, .string ⟨v9 p.bT⟩,vI p2.bS]) ?_)))))))))))
 refine lg [vI p2.aD, .string ⟨v9 ([])⟩, .string ⟨v9 ([])⟩, .string ⟨v9 p.bF⟩, .string ⟨v9 p.bT⟩,vI p2.bS] 72 6 1 au ?_
 intro jq lW dm
 replace dm:=IL (y:=row jq 1 1 (q3 bi.cells ([(bi.mk p2.aD ([]) ([]) p.bF p.bT p2.bS)])) 72 6) rfl dm
 have fG:=dm.pf [2]
 refine WL.do rfl (IM (k:=d.length) (m:=1) (qX) fG rfl rfl (jv y4 (fG.rds (i:=1) rfl) (fU bi.one ([(bi.mk p2.aD ([]) ([]) p.bF p.bT p2.bS)]))) rfl e6 (s:=r8 (d++ [(bi.mk p2.aD ([]) ([]) p.bF p.bT p2.bS)])) f7 (r4).symm ?_)
 intro jr jw lX jy
 have ku:r8 (d++ [(bi.mk p2.aD ([]) ([]) p.bF p.bT p2.bS)])=d.length+1:=by simp only [o1,s0,F2]
 refine Az rfl (C6 (bN (Ig (Ib (fw (vJ (b+1)) (Ie (e:=C5.wrap (((b:Nat):Int)+1)) yk f0) (Mz rfl (C6 ?_)))))))
 have jA:=jy.pk [2,0]
 exact Ir (jr,jw,(d++ [(bi.mk p2.aD ([]) ([]) p.bF p.bT p2.bS)]),b+1) ⟨rfl,rfl,rfl,rfl,rfl,rfl,rfl,trivial⟩ (C.2 ⟨jA,e6,e6,et (F) (et (congrArg (fun q=>gy l0 n p2 q d b) N) (et (ip X) (et (ah aa) (et (ah aN) (ip aO)))))⟩) (by show l0.length - (b+1) < l0.length - b; omega)
 refine jF aO (IE (bN (Ig (Ib (fw (vJ (b+1)) (Ie (e:=C5.wrap (((b:Nat):Int)+1)) yk f0) (Mz rfl (C6 ?_)))))))
 have jB:=au.pk [0,1]
 exact Ir (Y,Z,d,b+1) ⟨rfl,rfl,rfl,rfl,rfl,rfl,rfl,trivial⟩ (C.2 ⟨jB,e6,e6,et (F) (et (congrArg (fun q=>gy l0 n p2 q d b) N) (et (ip X) (et (ah aa) (et (ah aN) (gm aO)))))⟩) (by show l0.length - (b+1) < l0.length - b; omega)
 refine GY.do 12 rfl e7 (IY (cs:= [.string ⟨v9 ([])⟩, .string ⟨v9 ([])⟩]) (t:=38) dh rfl rfl (fun _=>by kernel_rfl) ?_)
 intro fH lY jC
 have fI:=jC.pb [0]
 refine⟨.inr ⟨_,fI⟩, ?_⟩
 obtain⟨⟨u,dn⟩,aP⟩:∃ q:bC × Bool,iK (bC.mk p2.bF p2.bT) aM=q:=⟨_,rfl⟩
 obtain⟨lZ,fJ,kv,fK,kw⟩:=Ii fI
 refine qd 8 rfl (Iz N9 rfl (oK _ _ (bC.mk p2.bF p2.bT) aM u dn fJ aP) ?_)
 rintro _ ky ⟨rfl,dw⟩
 have bF:=fK _ _ dw
 refine⟨.inr ⟨_,bF⟩, ?_⟩
 refine qv 9 rfl rfl (qk (.agg (bC.cells u).toArray) 10 rfl (qk (.bool dn) 11 rfl ?_))
 have fM:=bF.pf [2]
 refine qe 13 rfl (Do.store (vs:=(bC.cells u)) (o:=0) fM rfl rfl M6 rfl rfl rfl rfl ?_)
 intro kz fO
 have O:=fO.pb [0]
 refine⟨.inr ⟨_,O⟩, ?_⟩
 refine qa 14 rfl rfl (qn (Ig (sr (Mn rfl ?_))))
 rcases Li (dn) with ae | ae
 refine jT ae (Ib (Mz rfl (Kz (vP f 0) (Lz (vI p2.aD) O 0 C4 (Kz (vP fH 0) (Lz (.string ⟨v9 u.bF⟩) O 2 C2 (Kz (vP fH 1) (Lz (.string ⟨v9 u.bT⟩) O 2 C2 (Kz (vP f 5) (Lz (vI p2.bS) O 0 C4 (Kz (.agg #[vI p2.aD, .string ⟨v9 ([])⟩, .string ⟨v9 ([])⟩, .string ⟨v9 u.bF⟩, .string ⟨v9 u.bT⟩,vI p2.bS]) ?_)))))))))))
 refine lg [vI p2.aD, .string ⟨v9 ([])⟩, .string ⟨v9 ([])⟩, .string ⟨v9 u.bF⟩, .string ⟨v9 u.bT⟩,vI p2.bS] 72 6 1 O ?_
 intro fP kC aQ
 replace aQ:=IL (y:=row fP 1 1 (q3 bi.cells ([(bi.mk p2.aD ([]) ([]) u.bF u.bT p2.bS)])) 72 6) rfl aQ
 have bG:=aQ.pf [2]
 refine WL.do rfl (IM (k:=d.length) (m:=1) (qX) bG rfl rfl (jv y4 (bG.rds (i:=1) rfl) (fU bi.one ([(bi.mk p2.aD ([]) ([]) u.bF u.bT p2.bS)]))) rfl e6 (s:=r8 (d++ [(bi.mk p2.aD ([]) ([]) u.bF u.bT p2.bS)])) f7 (r4).symm ?_)
 intro fQ fT kD fV
 have jD:r8 (d++ [(bi.mk p2.aD ([]) ([]) u.bF u.bT p2.bS)])=d.length+1:=by simp only [o1,s0,F2]
 refine Az rfl (C6 (bN (Ig (Ib (fw (vJ (b+1)) (Ie (e:=C5.wrap (((b:Nat):Int)+1)) yk f0) (Mz rfl (C6 ?_)))))))
 have fZ:=fV.pk [2,0]
 exact Ir (fQ,fT,(d++ [(bi.mk p2.aD ([]) ([]) u.bF u.bT p2.bS)]),b+1) ⟨rfl,rfl,rfl,rfl,rfl,rfl,rfl,trivial⟩ (C.2 ⟨fZ,e6,e6,et (F) (et (congrArg (fun q=>gy l0 n p2 q d b) N) (et (ip X) (et (ah aa) (et (ah aP) (ip ae)))))⟩) (by show l0.length - (b+1) < l0.length - b; omega)
 refine jF ae (IE (bN (Ig (Ib (fw (vJ (b+1)) (Ie (e:=C5.wrap (((b:Nat):Int)+1)) yk f0) (Mz rfl (C6 ?_)))))))
 have gp:=O.pk [0,1]
 exact Ir (Y,Z,d,b+1) ⟨rfl,rfl,rfl,rfl,rfl,rfl,rfl,trivial⟩ (C.2 ⟨gp,e6,e6,et (F) (et (congrArg (fun q=>gy l0 n p2 q d b) N) (et (ip X) (et (ah aa) (et (ah aP) (gm ae)))))⟩) (by show l0.length - (b+1) < l0.length - b; omega)
 refine GY.do 12 rfl e7 (IY (cs:= [.string ⟨v9 ([])⟩, .string ⟨v9 ([])⟩]) (t:=38) eX rfl rfl (fun _=>by kernel_rfl) ?_)
 intro bH kE gq
 have bI:=gq.pb [0]
 refine⟨.inr ⟨_,bI⟩, ?_⟩
 obtain⟨aR,av⟩:∃ q,mM l0 ((b:Nat):Int)=q:=⟨_,rfl⟩
 obtain⟨kF,dx,dz,dA,jE⟩:=Ii bI
 refine qd 7 rfl (Iz N8 rfl (o5 _ _ L l0.length c0 l0 ((b:Nat):Int) aR dx (dz _ B) rfl e6 e6 av) ?_)
 rintro _ kG ⟨rfl,dB⟩
 have bK:=dA _ _ dB
 refine⟨.inr ⟨_,bK⟩, ?_⟩
 obtain⟨⟨g,aS⟩,ax⟩:∃ q:bC × Bool,iK (bC.mk p2.bF p2.bT) aR=q:=⟨_,rfl⟩
 obtain⟨kH,dC,jG,dD,jH⟩:=Ii bK
 refine qd 8 rfl (Iz N9 rfl (oK _ _ (bC.mk p2.bF p2.bT) aR g aS dC ax) ?_)
 rintro _ kI ⟨rfl,dE⟩
 have bL:=dD _ _ dE
 refine⟨.inr ⟨_,bL⟩, ?_⟩
 refine qv 9 rfl rfl (qk (.agg (bC.cells g).toArray) 10 rfl (qk (.bool aS) 11 rfl ?_))
 have gu:=bL.pf [2]
 refine qe 13 rfl (Do.store (vs:=(bC.cells g)) (o:=0) gu rfl rfl M6 rfl rfl rfl rfl ?_)
 intro kJ gB
 have P:=gB.pb [0]
 refine⟨.inr ⟨_,P⟩, ?_⟩
 refine qa 14 rfl rfl (qn (Ig (sr (Mn rfl ?_))))
 rcases Li (aS) with af | af
 refine jT af (Ib (Mz rfl (Kz (vP f 0) (Lz (vI p2.aD) P 0 C4 (Kz (vP bH 0) (Lz (.string ⟨v9 g.bF⟩) P 2 C2 (Kz (vP bH 1) (Lz (.string ⟨v9 g.bT⟩) P 2 C2 (Kz (vP f 5) (Lz (vI p2.bS) P 0 C4 (Kz (.agg #[vI p2.aD, .string ⟨v9 ([])⟩, .string ⟨v9 ([])⟩, .string ⟨v9 g.bF⟩, .string ⟨v9 g.bT⟩,vI p2.bS]) ?_)))))))))))
 refine lg [vI p2.aD, .string ⟨v9 ([])⟩, .string ⟨v9 ([])⟩, .string ⟨v9 g.bF⟩, .string ⟨v9 g.bT⟩,vI p2.bS] 72 6 1 P ?_
 intro gD kK aT
 replace aT:=IL (y:=row gD 1 1 (q3 bi.cells ([(bi.mk p2.aD ([]) ([]) g.bF g.bT p2.bS)])) 72 6) rfl aT
 have bM:=aT.pf [2]
 refine WL.do rfl (IM (k:=d.length) (m:=1) (qX) bM rfl rfl (jv y4 (bM.rds (i:=1) rfl) (fU bi.one ([(bi.mk p2.aD ([]) ([]) g.bF g.bT p2.bS)]))) rfl e6 (s:=r8 (d++ [(bi.mk p2.aD ([]) ([]) g.bF g.bT p2.bS)])) f7 (r4).symm ?_)
 intro gF gG kL gH
 have jI:r8 (d++ [(bi.mk p2.aD ([]) ([]) g.bF g.bT p2.bS)])=d.length+1:=by simp only [o1,s0,F2]
 refine Az rfl (C6 (bN (Ig (Ib (fw (vJ (b+1)) (Ie (e:=C5.wrap (((b:Nat):Int)+1)) yk f0) (Mz rfl (C6 ?_)))))))
 have gI:=gH.pk [2,0]
 exact Ir (gF,gG,(d++ [(bi.mk p2.aD ([]) ([]) g.bF g.bT p2.bS)]),b+1) ⟨rfl,rfl,rfl,rfl,rfl,rfl,rfl,trivial⟩ (C.2 ⟨gI,e6,e6,et (F) (et (congrArg (fun q=>gy l0 n p2 q d b) N) (et (ip X) (et (ah av) (et (ah ax) (ip af)))))⟩) (by show l0.length - (b+1) < l0.length - b; omega)
 refine jF af (IE (bN (Ig (Ib (fw (vJ (b+1)) (Ie (e:=C5.wrap (((b:Nat):Int)+1)) yk f0) (Mz rfl (C6 ?_)))))))
 have gJ:=P.pk [0,1]
 exact Ir (Y,Z,d,b+1) ⟨rfl,rfl,rfl,rfl,rfl,rfl,rfl,trivial⟩ (C.2 ⟨gJ,e6,e6,et (F) (et (congrArg (fun q=>gy l0 n p2 q d b) N) (et (ip X) (et (ah av) (et (ah ax) (gm af)))))⟩) (by show l0.length - (b+1) < l0.length - b; omega)
 refine jT (dT X) (C7 (Il (IB (Ig (Ib (fw (vJ (b+1)) (Ie (e:=C5.wrap (((b:Nat):Int)+1)) yk f0) (Mz rfl (C6 ?_))))))))
 have gK:=aK.pf []
 exact Ir (Y,Z,d,b+1) ⟨rfl,rfl,rfl,rfl,rfl,rfl,rfl,trivial⟩ (C.2 ⟨gK,e6,e6,et (F) (et (congrArg (fun q=>gy l0 n p2 q d b) N) (iN X))⟩) (by show l0.length - (b+1) < l0.length - b; omega)
 refine jF (dF eU) (C7 (Il ?_))
 have dG:gy l0 n p2 l0 ([]) 0=d:=et (F) (et (congrArg (fun q=>gy l0 n p2 q d b) (fB (ls:=l0) (i:=b) e6)) rfl)
 refine Il (IB (Ig (Ic ?_)))
 have gL:=aK.pk [1]
 refine Ib (Mz rfl (An rfl (rt (rs ?_))))
 have gM:=gL.pf []
 obtain rfl:_=d:=hr.symm.trans (et (ip M) (ah dG))
 exact⟨Y,Z,rfl,gM,i5⟩
 refine Gz (vP f 0) (dT M) (Gl (vI p2.aD) (dT M) aJ 0 C4 (gw (.bool (decide (¬ (p2.aD=5)))) (dT M) (IG (e:= !(decide (p2.aD=5))) yk decide_not.symm) (fw (.bool (decide (¬ (p2.aD=5)))) (Iw rfl (dT M) rfl) (nt ?_))))
 by_cases aD:p2.aD=5
 refine jF (dF (Lh aD)) (sk (Ic (sr (Mz rfl (Kz (vJ l0.length) (Mn rfl (bo ?_)))))))
 have gN:Own w D eQ [row none 0 0 (q3 bi.cells ([])) 72 6,blk f (bi.cells p2) 72]:=aJ.free (eZ 72 6)
 have gP:=gN.pb [0]
 obtain⟨gQ,x⟩:=sQ fun G (I:Nat) c (a:Nat) w'=>Own w D w' [blk f (bi.cells p2) 72,row G c.length I (q3 bi.cells c) 72 6]∧a≤l0.length∧c.length≤a∧gz l0 n p2 l0 ([]) 0=gz l0 n p2 (r3 a l0) c a
 refine C3 (fun i:(Option Addr) × Nat × (List bi) × Nat=> [(7, .slice i.1 i.2.2.1.length i.2.1),(36,vJ i.2.2.2),(35,vJ l0.length),(6, .slice none 0 0),(5,vP f 0),(0, .slice L l0.length c0),(1,vI n)]) gQ (fun i=>l0.length - i.2.2.2) (none,0, [],0) ⟨rfl,rfl,rfl,rfl,rfl,rfl,rfl,trivial⟩ (x.2 ⟨gP,(show 0≤l0.length∧0≤0∧gz l0 n p2 l0 ([]) 0=gz l0 n p2 (r3 0 l0) ([]) 0 from ⟨e6,e6,rfl⟩)⟩) ?_
 rintro ⟨G,I,c,a⟩ kM dH
 obtain⟨U,jJ,jK,z⟩:=x.1 dH
 refine sr (Kz (.bool (decide (((a:Nat):Int) < ((l0.length:Nat):Int)))) (nt (Ic ?_)))
 by_cases bO:((a:Nat):Int) < ((l0.length:Nat):Int)
 obtain⟨aF,aU⟩:=dN (ls:=l0) (i:=a) aY.len f4 (U.ro B) e9
 have A:=drop_at aU
 refine jT (dT bO) (sk (Ic (bo (sr (Mz rfl (An rfl (Ic (sr (Mz rfl (Mz rfl (fw (.pointer (some ⟨ab L,ao L+a *2,none⟩)) (Ij (qY) rfl rfl ((U.ro B).addr (i:=a) e6) e6) (Kz (.pointer (some ⟨ab L,ao L+a *2+1,none⟩)) (fw (vI aF.eG) (Io rfl (bZ.one C4 (((U.ro B).elem aY.len aU f4).at_ (k:=1) rfl))) (Mz rfl (fw (.bool (decide (¬ (aF.eG=n)))) (IG (e:= !(decide (aF.eG=n))) yk decide_not.symm) (nt ?_))))))))))))))))
 by_cases E:aF.eG=n
 refine jF (dF (Lh E)) (sk (Ic ?_))
 refine qy [] (Iu (bQ.block (Iu (Iu (bQ.block (Iu IC)))))) U ?_
 intro kN bP
 refine qp f 3 0 rfl (ql 1 rfl 0 C2 rfl rfl rfl (qp f 4 2 rfl (ql 3 rfl 0 C2 rfl rfl rfl (qk (.agg #[.string ⟨v9 p2.bF⟩, .string ⟨v9 p2.bT⟩]) 4 rfl (qv 5 rfl rfl (qv 6 rfl rfl ?_))))))
 refine Jj 7 12 e7 ?_ ?_
 obtain⟨ag,Q⟩:∃ q,mM l0 ((a:Nat):Int)=q:=⟨_,rfl⟩
 obtain⟨kP,dI,dJ,dK,jL⟩:=Ii bP
 refine GY.do 7 rfl e7 (Iz N8 rfl (o5 _ _ L l0.length c0 l0 ((a:Nat):Int) ag dI (dJ _ B) rfl e6 e6 Q) ?_)
 rintro _ kQ ⟨rfl,dL⟩
 have aV:=dK _ _ dL
 refine⟨.inr ⟨_,aV⟩, ?_⟩
 refine Jj 8 12 e7 ?_ ?_
 obtain⟨⟨h,aW⟩,ay⟩:∃ q:bC × Bool,iK (bC.mk p2.bF p2.bT) ag=q:=⟨_,rfl⟩
 obtain⟨kR,dM,jM,dO,jN⟩:=Ii aV
 refine GY.do 8 rfl e7 (Iz N9 rfl (oK _ _ (bC.mk p2.bF p2.bT) ag h aW dM ay) ?_)
 rintro _ kS ⟨rfl,dP⟩
 have bR:=dO _ _ dP
 refine⟨.inr ⟨_,bR⟩, ?_⟩
 refine qv 9 rfl rfl (qk (.agg (bC.cells h).toArray) 10 rfl (qk (.bool aW) 11 rfl ?_))
 refine qd 12 rfl (IY (cs:= [.string ⟨v9 ([])⟩, .string ⟨v9 ([])⟩]) (t:=38) bR rfl rfl (fun _=>by kernel_rfl) ?_)
 intro bS kT gT
 have bT:=gT.pb [0]
 refine⟨.inr ⟨_,bT⟩, ?_⟩
 have gU:=bT.pf [2]
 refine qe 13 rfl (Do.store (vs:=(bC.cells h)) (o:=0) gU rfl rfl M6 rfl rfl rfl rfl ?_)
 intro kU gV
 have R:=gV.pb [0]
 refine⟨.inr ⟨_,R⟩, ?_⟩
 refine qa 14 rfl rfl (qn (Ig (sr (Mn rfl ?_))))
 rcases Li (aW) with ai | ai
 refine jT ai (Ib (Mz rfl (Kz (vP f 0) (Lz (vI p2.aD) R 0 C4 (Kz (vP bS 0) (Lz (.string ⟨v9 h.bF⟩) R 2 C2 (Kz (vP bS 1) (Lz (.string ⟨v9 h.bT⟩) R 2 C2 (Kz (vP f 5) (Lz (vI p2.bS) R 0 C4 (Kz (.agg #[vI p2.aD, .string ⟨v9 ([])⟩, .string ⟨v9 ([])⟩, .string ⟨v9 h.bF⟩, .string ⟨v9 h.bT⟩,vI p2.bS]) ?_)))))))))))
 refine lg [vI p2.aD, .string ⟨v9 ([])⟩, .string ⟨v9 ([])⟩, .string ⟨v9 h.bF⟩, .string ⟨v9 h.bT⟩,vI p2.bS] 72 6 1 R ?_
 intro gW kV aX
 replace aX:=IL (y:=row gW 1 1 (q3 bi.cells ([(bi.mk p2.aD ([]) ([]) h.bF h.bT p2.bS)])) 72 6) rfl aX
 have bU:=aX.pf [2]
 refine WL.do rfl (IM (k:=c.length) (m:=1) (qX) bU rfl rfl (jv y4 (bU.rds (i:=1) rfl) (fU bi.one ([(bi.mk p2.aD ([]) ([]) h.bF h.bT p2.bS)]))) rfl e6 (s:=r8 (c++ [(bi.mk p2.aD ([]) ([]) h.bF h.bT p2.bS)])) f7 (r4).symm ?_)
 intro gX gY kW gZ
 have jO:r8 (c++ [(bi.mk p2.aD ([]) ([]) h.bF h.bT p2.bS)])=c.length+1:=by simp only [o1,s0,F2]
 refine Az rfl (C6 (bN (Ig (Ib (fw (vJ (a+1)) (Ie (e:=C5.wrap (((a:Nat):Int)+1)) yk f0) (Mz rfl (C6 ?_)))))))
 have ib:=gZ.pk [2,0]
 exact Ir (gX,gY,(c++ [(bi.mk p2.aD ([]) ([]) h.bF h.bT p2.bS)]),a+1) ⟨rfl,rfl,rfl,rfl,rfl,rfl,rfl,trivial⟩ (x.2 ⟨ib,e6,e6,et (z) (et (congrArg (fun q=>gz l0 n p2 q c a) A) (et (ip E) (et (ah Q) (et (ah ay) (ip ai)))))⟩) (by show l0.length - (a+1) < l0.length - a; omega)
 refine jF ai (IE (bN (Ig (Ib (fw (vJ (a+1)) (Ie (e:=C5.wrap (((a:Nat):Int)+1)) yk f0) (Mz rfl (C6 ?_)))))))
 have ic:=R.pk [0,1]
 exact Ir (G,I,c,a+1) ⟨rfl,rfl,rfl,rfl,rfl,rfl,rfl,trivial⟩ (x.2 ⟨ic,e6,e6,et (z) (et (congrArg (fun q=>gz l0 n p2 q c a) A) (et (ip E) (et (ah Q) (et (ah ay) (gm ai)))))⟩) (by show l0.length - (a+1) < l0.length - a; omega)
 refine GY.do 12 rfl e7 (IY (cs:= [.string ⟨v9 ([])⟩, .string ⟨v9 ([])⟩]) (t:=38) aV rfl rfl (fun _=>by kernel_rfl) ?_)
 intro bV kX ig
 have bW:=ig.pb [0]
 refine⟨.inr ⟨_,bW⟩, ?_⟩
 obtain⟨⟨j,aZ⟩,az⟩:∃ q:bC × Bool,iK (bC.mk p2.bF p2.bT) ag=q:=⟨_,rfl⟩
 obtain⟨kY,dQ,jP,dR,jQ⟩:=Ii bW
 refine qd 8 rfl (Iz N9 rfl (oK _ _ (bC.mk p2.bF p2.bT) ag j aZ dQ az) ?_)
 rintro _ kZ ⟨rfl,dS⟩
 have bX:=dR _ _ dS
 refine⟨.inr ⟨_,bX⟩, ?_⟩
 refine qv 9 rfl rfl (qk (.agg (bC.cells j).toArray) 10 rfl (qk (.bool aZ) 11 rfl ?_))
 have ik:=bX.pf [2]
 refine qe 13 rfl (Do.store (vs:=(bC.cells j)) (o:=0) ik rfl rfl M6 rfl rfl rfl rfl ?_)
 intro lc il
 have S:=il.pb [0]
 refine⟨.inr ⟨_,S⟩, ?_⟩
 refine qa 14 rfl rfl (qn (Ig (sr (Mn rfl ?_))))
 rcases Li (aZ) with aj | aj
 refine jT aj (Ib (Mz rfl (Kz (vP f 0) (Lz (vI p2.aD) S 0 C4 (Kz (vP bV 0) (Lz (.string ⟨v9 j.bF⟩) S 2 C2 (Kz (vP bV 1) (Lz (.string ⟨v9 j.bT⟩) S 2 C2 (Kz (vP f 5) (Lz (vI p2.bS) S 0 C4 (Kz (.agg #[vI p2.aD, .string ⟨v9 ([])⟩, .string ⟨v9 ([])⟩, .string ⟨v9 j.bF⟩, .string ⟨v9 j.bT⟩,vI p2.bS]) ?_)))))))))))
 refine lg [vI p2.aD, .string ⟨v9 ([])⟩, .string ⟨v9 ([])⟩, .string ⟨v9 j.bF⟩, .string ⟨v9 j.bT⟩,vI p2.bS] 72 6 1 S ?_
 intro iq lh bf
 replace bf:=IL (y:=row iq 1 1 (q3 bi.cells ([(bi.mk p2.aD ([]) ([]) j.bF j.bT p2.bS)])) 72 6) rfl bf
 have bY:=bf.pf [2]
 refine WL.do rfl (IM (k:=c.length) (m:=1) (qX) bY rfl rfl (jv y4 (bY.rds (i:=1) rfl) (fU bi.one ([(bi.mk p2.aD ([]) ([]) j.bF j.bT p2.bS)]))) rfl e6 (s:=r8 (c++ [(bi.mk p2.aD ([]) ([]) j.bF j.bT p2.bS)])) f7 (r4).symm ?_)
 intro iw iy ll iA
 have jR:r8 (c++ [(bi.mk p2.aD ([]) ([]) j.bF j.bT p2.bS)])=c.length+1:=by simp only [o1,s0,F2]
 refine Az rfl (C6 (bN (Ig (Ib (fw (vJ (a+1)) (Ie (e:=C5.wrap (((a:Nat):Int)+1)) yk f0) (Mz rfl (C6 ?_)))))))
 have iB:=iA.pk [2,0]
 exact Ir (iw,iy,(c++ [(bi.mk p2.aD ([]) ([]) j.bF j.bT p2.bS)]),a+1) ⟨rfl,rfl,rfl,rfl,rfl,rfl,rfl,trivial⟩ (x.2 ⟨iB,e6,e6,et (z) (et (congrArg (fun q=>gz l0 n p2 q c a) A) (et (ip E) (et (ah Q) (et (ah az) (ip aj)))))⟩) (by show l0.length - (a+1) < l0.length - a; omega)
 refine jF aj (IE (bN (Ig (Ib (fw (vJ (a+1)) (Ie (e:=C5.wrap (((a:Nat):Int)+1)) yk f0) (Mz rfl (C6 ?_)))))))
 have iC:=S.pk [0,1]
 exact Ir (G,I,c,a+1) ⟨rfl,rfl,rfl,rfl,rfl,rfl,rfl,trivial⟩ (x.2 ⟨iC,e6,e6,et (z) (et (congrArg (fun q=>gz l0 n p2 q c a) A) (et (ip E) (et (ah Q) (et (ah az) (gm aj)))))⟩) (by show l0.length - (a+1) < l0.length - a; omega)
 refine GY.do 12 rfl e7 (IY (cs:= [.string ⟨v9 ([])⟩, .string ⟨v9 ([])⟩]) (t:=38) bP rfl rfl (fun _=>by kernel_rfl) ?_)
 intro cu lm iD
 have cz:=iD.pb [0]
 refine⟨.inr ⟨_,cz⟩, ?_⟩
 obtain⟨bg,aA⟩:∃ q,mM l0 ((a:Nat):Int)=q:=⟨_,rfl⟩
 obtain⟨lq,dU,dW,dX,jS⟩:=Ii cz
 refine qd 7 rfl (Iz N8 rfl (o5 _ _ L l0.length c0 l0 ((a:Nat):Int) bg dU (dW _ B) rfl e6 e6 aA) ?_)
 rintro _ lu ⟨rfl,dY⟩
 have cB:=dX _ _ dY
 refine⟨.inr ⟨_,cB⟩, ?_⟩
 obtain⟨⟨l,bn⟩,aB⟩:∃ q:bC × Bool,iK (bC.mk p2.bF p2.bT) bg=q:=⟨_,rfl⟩
 obtain⟨lv,dZ,jU,ed,jV⟩:=Ii cB
 refine qd 8 rfl (Iz N9 rfl (oK _ _ (bC.mk p2.bF p2.bT) bg l bn dZ aB) ?_)
 rintro _ lw ⟨rfl,ek⟩
 have cK:=ed _ _ ek
 refine⟨.inr ⟨_,cK⟩, ?_⟩
 refine qv 9 rfl rfl (qk (.agg (bC.cells l).toArray) 10 rfl (qk (.bool bn) 11 rfl ?_))
 have iE:=cK.pf [2]
 refine qe 13 rfl (Do.store (vs:=(bC.cells l)) (o:=0) iE rfl rfl M6 rfl rfl rfl rfl ?_)
 intro lC iF
 have T:=iF.pb [0]
 refine⟨.inr ⟨_,T⟩, ?_⟩
 refine qa 14 rfl rfl (qn (Ig (sr (Mn rfl ?_))))
 rcases Li (bn) with ak | ak
 refine jT ak (Ib (Mz rfl (Kz (vP f 0) (Lz (vI p2.aD) T 0 C4 (Kz (vP cu 0) (Lz (.string ⟨v9 l.bF⟩) T 2 C2 (Kz (vP cu 1) (Lz (.string ⟨v9 l.bT⟩) T 2 C2 (Kz (vP f 5) (Lz (vI p2.bS) T 0 C4 (Kz (.agg #[vI p2.aD, .string ⟨v9 ([])⟩, .string ⟨v9 ([])⟩, .string ⟨v9 l.bF⟩, .string ⟨v9 l.bT⟩,vI p2.bS]) ?_)))))))))))
 refine lg [vI p2.aD, .string ⟨v9 ([])⟩, .string ⟨v9 ([])⟩, .string ⟨v9 l.bF⟩, .string ⟨v9 l.bT⟩,vI p2.bS] 72 6 1 T ?_
 intro iG lD bq
 replace bq:=IL (y:=row iG 1 1 (q3 bi.cells ([(bi.mk p2.aD ([]) ([]) l.bF l.bT p2.bS)])) 72 6) rfl bq
 have cO:=bq.pf [2]
 refine WL.do rfl (IM (k:=c.length) (m:=1) (qX) cO rfl rfl (jv y4 (cO.rds (i:=1) rfl) (fU bi.one ([(bi.mk p2.aD ([]) ([]) l.bF l.bT p2.bS)]))) rfl e6 (s:=r8 (c++ [(bi.mk p2.aD ([]) ([]) l.bF l.bT p2.bS)])) f7 (r4).symm ?_)
 intro iH iI lF iJ
 have jW:r8 (c++ [(bi.mk p2.aD ([]) ([]) l.bF l.bT p2.bS)])=c.length+1:=by simp only [o1,s0,F2]
 refine Az rfl (C6 (bN (Ig (Ib (fw (vJ (a+1)) (Ie (e:=C5.wrap (((a:Nat):Int)+1)) yk f0) (Mz rfl (C6 ?_)))))))
 have iL:=iJ.pk [2,0]
 exact Ir (iH,iI,(c++ [(bi.mk p2.aD ([]) ([]) l.bF l.bT p2.bS)]),a+1) ⟨rfl,rfl,rfl,rfl,rfl,rfl,rfl,trivial⟩ (x.2 ⟨iL,e6,e6,et (z) (et (congrArg (fun q=>gz l0 n p2 q c a) A) (et (ip E) (et (ah aA) (et (ah aB) (ip ak)))))⟩) (by show l0.length - (a+1) < l0.length - a; omega)
 refine jF ak (IE (bN (Ig (Ib (fw (vJ (a+1)) (Ie (e:=C5.wrap (((a:Nat):Int)+1)) yk f0) (Mz rfl (C6 ?_)))))))
 have iM:=T.pk [0,1]
 exact Ir (G,I,c,a+1) ⟨rfl,rfl,rfl,rfl,rfl,rfl,rfl,trivial⟩ (x.2 ⟨iM,e6,e6,et (z) (et (congrArg (fun q=>gz l0 n p2 q c a) A) (et (ip E) (et (ah aA) (et (ah aB) (gm ak)))))⟩) (by show l0.length - (a+1) < l0.length - a; omega)
 refine jT (dT E) (C7 (Il (IB (Ig (Ib (fw (vJ (a+1)) (Ie (e:=C5.wrap (((a:Nat):Int)+1)) yk f0) (Mz rfl (C6 ?_))))))))
 have iO:=U.pf []
 exact Ir (G,I,c,a+1) ⟨rfl,rfl,rfl,rfl,rfl,rfl,rfl,trivial⟩ (x.2 ⟨iO,e6,e6,et (z) (et (congrArg (fun q=>gz l0 n p2 q c a) A) (iN E))⟩) (by show l0.length - (a+1) < l0.length - a; omega)
 refine jF (dF bO) (C7 (Il ?_))
 have eu:gz l0 n p2 l0 ([]) 0=c:=et (z) (et (congrArg (fun q=>gz l0 n p2 q c a) (fB (ls:=l0) (i:=a) e6)) rfl)
 refine Il (IB (Ig (Ic ?_)))
 have iP:=U.pk [1]
 refine Ib (Mz rfl (An rfl (rt (rs ?_))))
 have iQ:=iP.pf []
 obtain rfl:_=c:=hr.symm.trans (et (iN M) (et (ip aD) (ah eu)))
 exact⟨G,I,rfl,iQ,i5⟩
 refine jT (dT aD) (Ic (sr (Mz rfl (Mz rfl (Kz (vP f 1) (Lz (.string ⟨v9 p2.bY⟩) aJ 0 C2 ?_))))))
 obtain⟨J,bu⟩:∃ q,qD l0 p2.bY=q:=⟨_,rfl⟩
 obtain⟨lG,eB,eD,eF,jX⟩:=Ii aJ
 refine cl Tryz.call162 (yZ _ _ L l0.length c0 l0 p2.bY J eB (eD _ B) rfl e6 i5 bu) ?_
 rintro _ iR ⟨rfl,eG,bv⟩
 have V:=eF _ _ eG
 replace bv:0≤J∧J < ((l0.length:Nat):Int):=bv
 obtain⟨W,bz⟩:=dN (ls:=l0) (i:=D0 J) aY.len f4 (V.ro B) e9
 refine fw (.pointer (some ⟨ab L,ao L+(D0 J) *2,none⟩)) (Ij (qY) rfl (Fy (r:=J) rfl e6) ((V.ro B).addr (i:=D0 J) e6) e6) (Kz (.pointer (some ⟨ab L,ao L+(D0 J) *2+1,none⟩)) (fw (vI W.eG) (Io rfl (bZ.one C4 (((V.ro B).elem aY.len bz f4).at_ (k:=1) rfl))) (Mz rfl (Kz (.bool (decide (W.eG=n))) (nt ?_)))))
 obtain⟨iT,aC⟩:=rz fun aG (aH:Nat) K w'=>Own w D w' [blk f (bi.cells p2) 72,row aG K.length aH (q3 bi.cells K) 72 6]∧0≤K.length∧K.length≤1∧(if W.eG=n then [p2] else [])=K
 refine IZ (fun i:(Option Addr) × Nat × (List bi)=> [(7, .slice i.1 i.2.2.length i.2.1),(6, .slice none 0 0),(5,vP f 0),(0, .slice L l0.length c0),(1,vI n)]) iT ?_ ?_
 by_cases aI:W.eG=n
 refine jT (dT aI) (Ib (Mz rfl (La (bi.cells p2) V 0 Tryz.isAgg72 Tryz.sizeOf72 ?_)))
 refine lg (bi.cells p2) 72 6 1 V ?_
 intro cZ iU bA
 replace bA:=IL (y:=row cZ 1 1 (q3 bi.cells ([p2])) 72 6) rfl bA
 have df:Own w D iU [row none 0 0 (q3 bi.cells ([])) 72 6,row cZ 1 1 (q3 bi.cells ([p2])) 72 6,blk f (bi.cells p2) 72]:=bA.free (eZ 72 6)
 refine WL.do rfl (IM (k:=0) (m:=1) (qX) df rfl rfl (jv y4 (df.rds (i:=1) rfl) (fU bi.one ([p2]))) rfl e6 (s:=1) e6 rfl ?_)
 intro iV iW lH iX
 refine Az rfl (C6 ?_)
 have iY:=iX.pk [2,0]
 exact IQ (iV,iW, [p2]) ⟨rfl,rfl,rfl,rfl,rfl,trivial⟩ (aC.2 ⟨iY,(show 0≤r8 ([p2])∧r8 ([p2])≤1∧(if W.eG=n then [p2] else [])=([p2]) from ⟨e6,by first | omega | exact Nat.le_refl _ | exact Lg _,ip aI⟩)⟩)
 refine jF (dF aI) (IE ?_)
 have iZ:Own w D iR [row none 0 0 (q3 bi.cells ([])) 72 6,blk f (bi.cells p2) 72]:=V.free (eZ 72 6)
 have ja:=iZ.pb [0]
 exact IQ (none,0, []) ⟨rfl,rfl,rfl,rfl,rfl,trivial⟩ (aC.2 ⟨ja,(show 0≤r8 ([])∧0≤1∧(if W.eG=n then [p2] else [])=([]) from ⟨e6,by first | omega | exact Nat.le_refl _ | exact Lg _,iN aI⟩)⟩)
 rintro ⟨aG,aH,K⟩ lI eH
 obtain⟨jb,jY,jZ,eO⟩:=aC.1 eH
 refine sr (Mz rfl (An rfl (rt (tR (rs ?_)))))
 have jd:=jb.pk [1]
 obtain rfl:_=K:=hr.symm.trans (et (iN M) (et (iN aD) (et (ah bu) (et (ah (bJ bz)) (ah eO)))))
 exact⟨aG,aH,rfl,jd,i5⟩
def ry (a:Nat):Nat × Nat:=
 (((0 *(a / 4294967296))+(((0 *(a % 4294967296))+((1 *(a % 4294967296)) / 4294967296)) / 4294967296))+(((((0 *(a % 4294967296))+((1 *(a % 4294967296)) / 4294967296)) % 4294967296)+(1 *(a / 4294967296))) / 4294967296),1 *a)
theorem wF (w D g a b c) (H:Own w D w []) (d:g=1) (h:a≤9223372036854775807) (hr:ry a=(b,c)):
    Calls v8 190 #[.int .u64 g,vU a] w (d9 fun v w'=>v= .tuple #[vU b,vU c]∧Own w D w' []∧(b=0∧c=a)):=by
 subst d
 refine cb Tryz.func190 ?_
 refine sr (Az rfl (Ar rfl (Mz rfl (Kz (.int .u64 1) (Ar rfl (Mz rfl (Kz (.int .u64 0) (Ar rfl (Mz rfl (fw (vU (a % 4294967296)) (Ie (e:=D1.wrap (((BitVec.ofInt 64 ((a:Nat):Int) &&& BitVec.ofInt 64 4294967295).toNat:Nat):Int)) yk (Aj _ 32 f4 _ f4)) (Ar rfl (Mz rfl (fw (vU (a / 4294967296)) (Ie (e:=J0 ((a:Nat):Int) 4294967296) yk (nV _ 32 _ f4)) (Ar rfl (Mz rfl (Mz rfl (fw (vU (1 *(a % 4294967296))) (Ie (e:=D1.wrap (1 *((a % 4294967296:Nat):Int))) yk g8) (Az rfl ?_))))))))))))))))))
 refine ns (Mz rfl (Mz rfl (fw (vU (0 *(a % 4294967296))) (Ie (e:=D1.wrap (0 *((a % 4294967296:Nat):Int))) yk g8) (Mz rfl (fw (.int .u64 (((1 *(a % 4294967296)) / 4294967296:Nat):Int)) (Ie (e:=J0 ((1 *(a % 4294967296):Nat):Int) 4294967296) yk (nV _ 32 _ f4)) (fw (.int .u64 (((0 *(a % 4294967296))+((1 *(a % 4294967296)) / 4294967296):Nat):Int)) (Ie (e:=D1.wrap (((0 *(a % 4294967296):Nat):Int)+(((1 *(a % 4294967296)) / 4294967296:Nat):Int))) yk g8) (Ar rfl (Mz rfl (fw (.int .u64 ((((0 *(a % 4294967296))+((1 *(a % 4294967296)) / 4294967296)) % 4294967296:Nat):Int)) (Ie (e:=D1.wrap (((BitVec.ofInt 64 (((0 *(a % 4294967296))+((1 *(a % 4294967296)) / 4294967296):Nat):Int) &&& BitVec.ofInt 64 4294967295).toNat:Nat):Int)) yk (Aj _ 32 f4 _ f4)) (Ar rfl (Mz rfl (fw (.int .u64 ((((0 *(a % 4294967296))+((1 *(a % 4294967296)) / 4294967296)) / 4294967296:Nat):Int)) (Ie (e:=J0 (((0 *(a % 4294967296))+((1 *(a % 4294967296)) / 4294967296):Nat):Int) 4294967296) yk (nV _ 32 _ f4)) (Ar rfl (Mz rfl (Mz rfl (Mz rfl (fw (vU (1 *(a / 4294967296))) (Ie (e:=D1.wrap (1 *((a / 4294967296:Nat):Int))) yk g8) (fw (.int .u64 (((((0 *(a % 4294967296))+((1 *(a % 4294967296)) / 4294967296)) % 4294967296)+(1 *(a / 4294967296)):Nat):Int)) (Ie (e:=D1.wrap (((((0 *(a % 4294967296))+((1 *(a % 4294967296)) / 4294967296)) % 4294967296:Nat):Int)+((1 *(a / 4294967296):Nat):Int))) yk g8) (Ar rfl (Mz rfl ?_))))))))))))))))))))
 refine Mz rfl (fw (vU (0 *(a / 4294967296))) (Ie (e:=D1.wrap (0 *((a / 4294967296:Nat):Int))) yk g8) (Mz rfl (fw (.int .u64 (((0 *(a / 4294967296))+(((0 *(a % 4294967296))+((1 *(a % 4294967296)) / 4294967296)) / 4294967296):Nat):Int)) (Ie (e:=D1.wrap (((0 *(a / 4294967296):Nat):Int)+((((0 *(a % 4294967296))+((1 *(a % 4294967296)) / 4294967296)) / 4294967296:Nat):Int))) yk g8) (Mz rfl (fw (.int .u64 ((((((0 *(a % 4294967296))+((1 *(a % 4294967296)) / 4294967296)) % 4294967296)+(1 *(a / 4294967296))) / 4294967296:Nat):Int)) (Ie (e:=J0 (((((0 *(a % 4294967296))+((1 *(a % 4294967296)) / 4294967296)) % 4294967296)+(1 *(a / 4294967296)):Nat):Int) 4294967296) yk (nV _ 32 _ f4)) (fw (.int .u64 ((((0 *(a / 4294967296))+(((0 *(a % 4294967296))+((1 *(a % 4294967296)) / 4294967296)) / 4294967296))+(((((0 *(a % 4294967296))+((1 *(a % 4294967296)) / 4294967296)) % 4294967296)+(1 *(a / 4294967296))) / 4294967296):Nat):Int)) (Ie (e:=D1.wrap ((((0 *(a / 4294967296))+(((0 *(a % 4294967296))+((1 *(a % 4294967296)) / 4294967296)) / 4294967296):Nat):Int)+((((((0 *(a % 4294967296))+((1 *(a % 4294967296)) / 4294967296)) % 4294967296)+(1 *(a / 4294967296))) / 4294967296:Nat):Int))) yk g8) (Ar rfl (Mz rfl (Mz rfl (fw (vU (1 *a)) (Ie (e:=D1.wrap (1 *((a:Nat):Int))) yk g8) (An rfl (rt (Fin.res (lW rfl rfl rfl) ?_)))))))))))))
 have f:=H.pk []
 obtain⟨rfl,rfl⟩:=ic (hr.symm.trans (show _=(((0 *(a / 4294967296))+(((0 *(a % 4294967296))+((1 *(a % 4294967296)) / 4294967296)) / 4294967296))+(((((0 *(a % 4294967296))+((1 *(a % 4294967296)) / 4294967296)) % 4294967296)+(1 *(a / 4294967296))) / 4294967296),1 *a) from rfl))
 exact⟨rfl,f,e6⟩
def sO (b:Nat):Nat × Nat:=
 bnd (ry b) fun a=>(a.1,a.2)
theorem xP (w D n e i j) (H:Own w D w []) (k:n=1) (r:e≤9223372036854775807) (hr:sO e=(i,j)):
    Calls v8 164 #[.int .u64 n,vU e] w (d9 fun v w'=>v= .tuple #[vU i,vU j]∧Own w D w' []∧(i=0∧j=e)):=by
 subst k
 refine cb Tryz.func164 ?_
 refine sr (Az rfl (An rfl (Ic (jf (sk (sr (Mz rfl (Mz rfl ?_))))))))
 obtain⟨⟨a,b⟩,c⟩:∃ q:Nat × Nat,ry e=q:=⟨_,rfl⟩
 obtain⟨s,f,o,g,p⟩:=Ii H
 refine cl Tryz.call190 (wF _ _ 1 e a b f rfl e6 c) ?_
 rintro _ t ⟨rfl,h,d⟩
 have l:=g _ _ h
 replace d:a=0∧b=e:=d
 refine Mz rfl (Kz (vU a) (Kz (vU b) (Az rfl (Ar rfl (Mz rfl (Mz rfl (Az rfl (An rfl (rt (Fin.res (lW rfl rfl rfl) ?_))))))))))
 have m:=l.pk []
 obtain⟨rfl,rfl⟩:=ic (hr.symm.trans (show _=(a,b) from ah c))
 exact⟨rfl,m,e6⟩
def kP (b:Nat):Nat→Nat→List Int→(List Int)
  | 0,a,c=>default
  | d+1,a,c=>if((a:Nat):Int) < ((b:Nat):Int) then kP b d (a+(min a (b - a))) (q7 a c++(q7 (min a (b - a)) (q7 a c)++r3 (a+(min a (b - a))) c)) else c
def oL (l0:List Int) (b:Int):(List Int):=
 bnd (sO (D0 b)) fun a=>bnd (kP a.2 ((D0 b - (min l0.length a.2))+1) (min l0.length a.2) (q7 0 (r6 a.2 (0:Int))++(q7 (min l0.length a.2) l0++r3 (0+(min l0.length a.2)) (r6 a.2 (0:Int))))) fun sLrbL=>sLrbL
theorem tV (w D W K c0 l0 d x) (H:Own w D w []) (L:Ro w D fun w'=>bE w' 1 W K (q3 (eI .i64) l0)) (M:K=l0.length) (ax:l0.length *8≤211106232532992) (ay:l0.length=1∧0≤d∧d *8≤140737488351232) (hr:oL l0 d=x):
    Calls v8 147 #[.slice W K c0,vI d] w (d9 fun v w'=> ∃ X Y,v= .slice X x.length Y∧Own w D w' [row X x.length Y (q3 (eI .i64) x) 3 1]∧(((x.length:Nat):Int)=d)):=by
 subst M
 refine cb Tryz.func147 ?_
 refine sr (An rfl (Ic (sr (Mz rfl (Kz (.bool (decide (d < 0))) (nt ?_))))))
 have y:(decide (d < 0))=false:=(dF e6)
 refine jF y (sk (sr (Mz rfl (Kz (vJ l0.length) (fw (vU l0.length) (Ie (e:=D1.wrap ((l0.length:Nat):Int)) yk (IntWalk.u64_in _ e6)) (fw (vJ (D0 d)) (Ie (e:=d) (Iq rfl) e6) (fw (vU (D0 d)) (Ie (e:=D1.wrap ((D0 d:Nat):Int)) yk (IntWalk.u64_in _ e6)) ?_)))))))
 obtain⟨⟨g,a⟩,o⟩:∃ q:Nat × Nat,sO (D0 d)=q:=⟨_,rfl⟩
 obtain⟨az,A,Z,B,aa⟩:=Ii H
 refine cl Tryz.call164 (xP _ _ ((l0.length:Nat):Int) (D0 d) g a A e6 e6 o) ?_
 rintro _ aA ⟨rfl,C,p⟩
 have N:=B _ _ C
 replace p:g=0∧a=(D0 d):=p
 refine Mz rfl (Kz (vU g) (Kz (vU a) (Az rfl (An rfl (Ic (sr (Mz rfl (Kz (.bool (decide (((g:Nat):Int) > 0))) (Mz rfl ?_)))))))))
 have h:(decide (((g:Nat):Int) > 0))=false:=(dF e6)
 refine I1 (v:=vU a) rfl rfl h rfl (Iq rfl) (Gz (.bool (decide (((a:Nat):Int) > 9223372036854775807))) h (fw (.bool (decide (((a:Nat):Int) > 9223372036854775807))) (Ih rfl h rfl) (nt ?_)))
 have E:(decide (((a:Nat):Int) > 9223372036854775807))=false:=(dF e6)
 refine jF E (sk (sr (Mz rfl (fw (vJ a) (Ie (e:=C5.wrap ((a:Nat):Int)) yk (Lf _ e6)) ?_))))
 refine WL.do rfl (Jl (x0:=(0:Int)) (z:=vI 0) (k:=a) (size:=1) (bytes:=8) jd f4 rfl G2 e7 N rfl rfl e6 (by unfold maxLen; omega) ?_)
 intro f aB s
 have ae:r8 (r6 a (0:Int))=a:=H2
 refine Ar rfl (Mz rfl (Mz rfl ?_))
 refine WL.do rfl (Kg (lo:=0) (k:=min l0.length a) (om) s rfl (fun hp=>by rw [Nat.zero_mul,Nat.add_zero]; exact(s.rds (i:=0) rfl).isSome e6) e6 rfl (s.ro L) (fU vO l0) e6 (zZ jd _ _ _ _ e9) ?_)
 intro aC O
 have af:r8 (q7 0 (r6 a (0:Int))++(q7 (min l0.length a) l0++r3 (0+(min l0.length a)) (r6 a (0:Int))))=a:=by simp only [o1,m9,o0,H2]; omega
 refine An rfl (Ic (bo ?_))
 have P:=O.pf []
 obtain⟨Q,j⟩:=rz fun (b:Nat) c (l:Nat) w'=>Own w D w' [row f a a (q3 (eI .i64) c) 3 1]∧c.length=a∧((b:Nat):Int)≤d∧(1≤b∨d=0)∧D0 d - b < l∧kP a ((D0 d - (min l0.length a))+1) (min l0.length a) (q7 0 (r6 a (0:Int))++(q7 (min l0.length a) l0++r3 (0+(min l0.length a)) (r6 a (0:Int))))=kP a l b c
 refine C3 (fun i:Nat × (List Int) × Nat=> [(8,vJ i.1),(7, .slice f a a),(4, .slice none 0 0)]) Q (fun i=>i.2.2) (min l0.length a,(q7 0 (r6 a (0:Int))++(q7 (min l0.length a) l0++r3 (0+(min l0.length a)) (r6 a (0:Int)))),(D0 d - (min l0.length a))+1) ⟨rfl,rfl,rfl,trivial⟩ (j.2 ⟨P,by first | omega | (simp only [H1] <;> omega) | (simp only [H2]),e6,e6,e6,rfl⟩) ?_
 rintro ⟨b,c,l⟩ R F
 obtain⟨G,ag,ai,aj,ak,r⟩:=j.1 F
 obtain⟨t,I⟩:∃ q,l=q+1:=⟨l - 1,e6⟩
 subst I
 refine Ic (sr (Mz rfl (Mz rfl (Kz (vJ a) (Kz (.bool (decide (((b:Nat):Int) < ((a:Nat):Int)))) (nt ?_))))))
 by_cases n:((b:Nat):Int) < ((a:Nat):Int)
 refine jT (dT n) (sk (bo ?_))
 refine vW [7] (bQ.block (Iu (bQ.block (Iu IC)))) G ?_
 intro aD u
 refine IP (v:=vJ b) 0 rfl e7 (fun _=>Iq rfl) (qv 1 rfl rfl (qv 2 rfl rfl (qt (v:= .slice (jS f b 1 a) (a - b) (a - b)) 3 rfl (fun _ _=>IV (om) rfl rfl e6) (qv 4 rfl rfl (qv 5 rfl rfl (qt (v:= .slice f b a) 6 rfl (fun _ _=>Jc (om) rfl rfl e6) ?_))))))
 refine qd 7 rfl (Kg (lo:=b) (k:=min b (a - b)) (om) u rfl (fun _=>lq ((u.rds (i:=0) rfl).addr (i:=b) e6) e6) e6 rfl (Ke (hi:=b) jd (u.rds (i:=0) rfl) e6) (fU vO (q7 b c)) e6 (zZ jd _ _ _ _ e9) ?_)
 intro aF S
 have au:r8 (q7 b c++(q7 (min b (a - b)) (q7 b c)++r3 (b+(min b (a - b))) c))=a:=by simp only [o1,m9,o0,H2]; omega
 refine⟨.inl e7, ?_⟩
 refine IP (v:=vI ((b+(min b (a - b)):Nat):Int)) 8 rfl e7 (fun _=>Ie (e:=C5.wrap (((b:Nat):Int)+((min b (a - b):Nat):Int))) yk f0) (IP (v:=vI ((b+(min b (a - b)):Nat):Int)) 9 rfl e7 (fun _=>Jo rfl) (qn (bN ?_)))
 have T:=S.pf []
 exact Ir (b+(min b (a - b)),(q7 b c++(q7 (min b (a - b)) (q7 b c)++r3 (b+(min b (a - b))) c)),t) ⟨rfl,rfl,rfl,trivial⟩ (j.2 ⟨T,by first | omega | (simp only [H1] <;> omega) | (simp only [H2]),e6,e6,e6,Eq.trans (r) (if_pos n)⟩) (by show t < t+1; omega)
 refine jF (dF n) (C7 (Il ?_))
 have J:kP a ((D0 d - (min l0.length a))+1) (min l0.length a) (q7 0 (r6 a (0:Int))++(q7 (min l0.length a) l0++r3 (0+(min l0.length a)) (r6 a (0:Int))))=c:=et (r) (iN n)
 refine Il (IB (Ig (sr (Mz rfl (An rfl (rt (rs ?_)))))))
 have m:a=c.length:=by first | omega | (simp only [H1]; done) | (simp only [H1,o1,s0,F2,m9,o0,H2]; omega)
 have U:Own w D R [row f c.length a (q3 (eI .i64) c) 3 1]:=by rw [← m]; exact G
 have V:=U.pf []
 obtain rfl:_=c:=hr.symm.trans (et (ah o) (ah J))
 exact⟨f,a,(by first | rfl | (rw [← m]; done) | (rw [← m]; rfl)),V,e6⟩
def jX (l0:List aY) (g:List gF) (f:Nat):List bi→Nat→List bi→List Int→(List bi) × (List Int)
  | [],b,c,d=>(c,d)
  | h::i,b,c,d=>bnd (jc l0 ((f:Nat):Int) h) fun a=>bnd (oL ([((b:Nat):Int)]) ((a.length:Nat):Int)) fun e=>jX l0 g f i (b+1) (c++a) (d++e)
def iE (l0:List aY) (l1:List bi):Nat→List gF→Nat→(List gF)
  | 0,a,b=>a
  | c+1,a,b=>bnd (jX l0 a b l1 0 ([]) ([])) fun sLrbtbtLsL=>if((sLrbtbtLsL.1.length:Nat):Int) > 0 then iE l0 l1 c (a++ [(gF.mk ((b:Nat):Int) (E2 sLrbtbtLsL.1) (E2 sLrbtbtLsL.2))]) (b+1) else iE l0 l1 c a (b+1)
def lF (l0:List aY) (l1:List bi):(List gF) × Int:=
 bnd (kR l0) fun a=>if a=0 then bnd (oo l1) fun b=>if b=0 then bnd (iE l0 l1 5 ([]) 0) fun sLrbtbtL=>(sLrbtbtL,0) else(([]:List gF),b) else(([]:List gF),a)
theorem A9 (w D A0 n0 c0 l0 L n1 c1 l1 r0 r1) (H:Own w D w []) (aQ:Ro w D fun w'=>bE w' 2 A0 n0 (q3 aY.cells l0)) (dw:n0=l0.length) (fE:l0.length *24≤211106232532992) (Y:Ro w D fun w'=>bE w' 6 L n1 (q3 bi.cells l1)) (dx:n1=l1.length) (fF:l1.length *80≤211106232532992) (hr:lF l0 l1=(r0,r1)):
    Calls v8 127 #[.slice A0 n0 c0, .slice L n1 c1] w (d9 fun v w'=> ∃ B0 b0 e0,v= .tuple #[.slice B0 r0.length b0,vI r1]∧Own w D w' [row B0 r0.length b0 (q3 bG.cells e0) 172 3,sepL (q3 bG.own e0)]∧(List.map bG.abs e0=r0)):=by
 subst dw dx
 refine cb Tryz.func127 ?_
 refine sr (Az rfl (An rfl (Ic (sr (Mz rfl ?_)))))
 obtain⟨J,F⟩:∃ q,kR l0=q:=⟨_,rfl⟩
 obtain⟨fG,aR,aS,aT,dZ⟩:=Ii H
 refine cl Tryz.call72 (rM _ _ A0 l0.length c0 l0 J aR (aS _ aQ) rfl e6 F) ?_
 rintro _ aU ⟨rfl,aV,ag⟩
 have aW:=aT _ _ aV
 replace ag: ¬ (J=0)∨(1≤l0.length∧l0.length≤6):=ag
 refine Ar rfl (Mz rfl (fw (.bool (decide (¬ (J=0)))) (IG (e:= !(decide (J=0))) yk decide_not.symm) (nt ?_)))
 by_cases M:J=0
 refine jF (dF (Lh M)) (sk (Ic (sr (Mz rfl ?_))))
 obtain⟨K,N⟩:∃ q,oo l1=q:=⟨_,rfl⟩
 obtain⟨fH,aX,aZ,bf,ed⟩:=Ii aW
 refine cl Tryz.call137 (xw _ _ L l1.length c1 l1 K aX (aZ _ Y) rfl e6 N) ?_
 rintro _ Z ⟨rfl,bg,ai⟩
 have bn:=bf _ _ bg
 replace ai: ¬ (K=0)∨(1≤l1.length∧l1.length≤4):=ai
 refine Ar rfl (Mz rfl (fw (.bool (decide (¬ (K=0)))) (IG (e:= !(decide (K=0))) yk decide_not.symm) (nt ?_)))
 by_cases aa:K=0
 refine jF (dF (Lh aa)) (sk (sr (An rfl (Ic (sr (Mn rfl (bo ?_)))))))
 have dA:Own w D Z [sepL (q3 bG.own ([]))]:=bn.sepNil
 have dB:Own w D Z [row none 0 0 (q3 bG.cells ([])) 172 3,sepL (q3 bG.own ([]))]:=dA.free (eZ 172 3)
 have dC:=dB.pf []
 obtain⟨dD,G⟩:=Au fun z (A:Nat) x d (a:Nat) w'=>Own w D w' [row z d.length A (q3 bG.cells x) 172 3,sepL (q3 bG.own x)]∧List.map bG.abs x=d∧a≤5∧d.length≤a∧iE l0 l1 5 ([]) 0=iE l0 l1 (5 - a) d a
 refine C3 (fun i:(Option Addr) × Nat × (List bG) × (List gF) × Nat=> [(8, .slice i.1 i.2.2.2.1.length i.2.1),(23,vJ i.2.2.2.2),(5,vI 0),(4, .slice none 0 0),(0, .slice A0 l0.length c0),(1, .slice L l1.length c1)]) dD (fun i=>5 - i.2.2.2.2) (none,0, [], [],0) ⟨rfl,rfl,rfl,rfl,rfl,rfl,trivial⟩ (G.2 ⟨dC,(show List.map bG.abs ([])=([])∧0≤5∧0≤0∧iE l0 l1 5 ([]) 0=iE l0 l1 (5 - 0) ([]) 0 from ⟨by exact rfl,e6,e6,rfl⟩)⟩) ?_
 rintro ⟨z,A,x,d,a⟩ fI bq
 obtain⟨bu,B,ek,eu,O⟩:=G.1 bq
 have eB:=aB B
 refine sr (Kz (.bool (decide (((a:Nat):Int) < 5))) (nt (Ic ?_)))
 by_cases bv:((a:Nat):Int) < 5
 refine jT (dT bv) (sk (Ic (bo (sr (Mz rfl (Ar rfl (Mz rfl (Kz (.agg #[vJ a, .slice none 0 0, .slice none 0 0]) ?_))))))))
 refine dV [vI 0, .slice none 0 0, .slice none 0 0] 172 bu ?_
 intro C fJ dE
 refine dS [vJ a, .slice none 0 0, .slice none 0 0] 0 dE Tryz.sizeOf172 ?_
 intro bz dG
 refine nt (Ic (sr (Mz rfl (Kz (vJ l1.length) (Mn rfl (bo ?_))))))
 have dH:Own w D bz (row none 0 0 (q3 bi.cells ([])) 72 6::_):=dG.free (eZ 72 6)
 have dI:Own w D bz (row none 0 0 (q3 (eI .i64) ([])) 3 1::_):=dH.free (eZ 3 1)
 have dJ:=dI.pb [1,0]
 obtain⟨dK,P⟩:=GM fun (g:Nat) h (j:Nat) b p (r:Nat) c w'=>Own w D w' [blk C [vJ a, .slice h b.length j, .slice p c.length r] 172,row z d.length A (q3 bG.cells x) 172 3,sepL (q3 bG.own x),row h b.length j (q3 bi.cells b) 72 6,row p c.length r (q3 (eI .i64) c) 3 1]∧g≤l1.length∧b.length≤6 *g∧c.length≤6 *g∧jX l0 d a l1 0 ([]) ([])=jX l0 d a (r3 g l1) g b c
 refine C3 (fun i:Nat × (Option Addr) × Nat × (List bi) × (Option Addr) × Nat × (List Int)=> [(30,vJ i.1),(29,vJ l1.length),(28, .slice L l1.length c1),(10,vP C 0),(27, .agg #[vJ a, .slice none 0 0, .slice none 0 0]),(26,vJ a),(9,vJ a),(25,vJ a),(24, .bool (decide (((a:Nat):Int) < 5))),(8, .slice z d.length A),(23,vJ a),(5,vI 0),(4, .slice none 0 0),(0, .slice A0 l0.length c0),(1, .slice L l1.length c1)]) dK (fun i=>l1.length - i.1) (0,none,0, [],none,0, []) ⟨rfl,rfl,rfl,rfl,rfl,rfl,rfl,rfl,rfl,rfl,rfl,rfl,rfl,rfl,rfl,trivial⟩ (P.2 ⟨dJ,(show 0≤l1.length∧0≤6 *0∧0≤6 *0∧jX l0 d a l1 0 ([]) ([])=jX l0 d a (r3 0 l1) 0 ([]) ([]) from ⟨e6,e6,e6,rfl⟩)⟩) ?_
 rintro ⟨g,h,j,b,p,r,c⟩ fK bA
 obtain⟨E,eD,eF,eG,aj⟩:=P.1 bA
 refine sr (Kz (.bool (decide (((g:Nat):Int) < ((l1.length:Nat):Int)))) (nt (Ic ?_)))
 by_cases bB:((g:Nat):Int) < ((l1.length:Nat):Int)
 obtain⟨ae,ak⟩:=dN (ls:=l1) (i:=g) bi.len f4 (E.ro Y) e9
 have bC:=drop_at ak
 refine jT (dT bB) (sk (Ic (bo (sr (Mz rfl (Ar rfl (Mz rfl (Mz rfl (Mz rfl (Mz rfl (fw (.pointer (some ⟨ab L,ao L+g *6,none⟩)) (Ij (qX) rfl rfl ((E.ro Y).addr (i:=g) e6) e6) (fw (.agg (bi.cells ae).toArray) (Io rfl (Iy (cs:=(bi.cells ae)) Tryz.isAgg72 Tryz.sizeOf72 ((E.ro Y).elem bi.len ak f4))) ?_))))))))))))
 obtain⟨u,Q⟩:∃ q,jc l0 ((a:Nat):Int) ae=q:=⟨_,rfl⟩
 obtain⟨fM,bD,bF,bH,eH⟩:=Ii E
 refine cl Tryz.call146 (za _ _ A0 l0.length c0 l0 ((a:Nat):Int) ae u bD (bF _ aQ) rfl e6 e6 Q) ?_
 rintro _ eO ⟨eP,eQ,rfl,aJ,R⟩
 have S:=bH _ _ aJ
 have dL:=S.rowC (i:=0) rfl
 replace R:u.length≤6:=R
 refine Ar rfl (Kz (vP C 1) (Lz (.slice h b.length j) S 1 Tryz.isAgg39 (Mz rfl ?_)))
 have au:=S.pf [4]
 refine WL.do rfl (IM (k:=b.length) (m:=u.length) (qX) au rfl rfl (jv y4 (au.rds (i:=1) rfl) (fU bi.one u)) rfl e6 (s:=r8 (b++u)) f7 (r4).symm ?_)
 intro av ax eT bI
 have dM:r8 (b++u)=b.length+u.length:=by simp only [o1,s0,F2]
 refine Kz (vP C 1) ?_
 have bJ:=bI.pf [2]
 refine dS [.slice av (r8 (b++u)) ax] 1 bJ Tryz.sizeOf39 ?_
 intro eU bK
 refine nt ?_
 refine Hq [7,9] (bQ.block (Iu (Iu (bQ.block (Iu (bQ.block (Iu (Iu (bQ.block (Iu IC)))))))))) bK ?_
 intro eX bL
 refine qp C 2 0 rfl (ql 1 rfl 0 Tryz.isAgg58 rfl rfl rfl (qv 2 rfl rfl (qv 4 rfl rfl (qk (vJ u.length) 5 rfl ?_))))
 refine qd 3 rfl (Jp (cs:= [vJ g]) (t:=3) (sz:=1) (m:=1) bL rfl rfl (fun _=>by kernel_rfl) rfl f4 ?_)
 intro ay eY T
 replace T:=IL (y:=row ay 1 1 (q3 (eI .i64) ([((g:Nat):Int)])) 3 1) rfl T
 have az:=T.pb [0]
 refine⟨.inr ⟨_,az⟩, ?_⟩
 obtain⟨l,U⟩:∃ q,oL ([((g:Nat):Int)]) ((u.length:Nat):Int)=q:=⟨_,rfl⟩
 obtain⟨fe,aK,dO,aL,aM⟩:=Ii az
 refine qd 6 rfl (Iz Tryz.call147 rfl (tV _ _ ay 1 1 ([((g:Nat):Int)]) ((u.length:Nat):Int) l aK (aM _ 6 _ rfl aO) rfl i8 (by first | omega | exact⟨rfl,e6,e6⟩) U) ?_)
 rintro _ fo ⟨fq,fu,rfl,aN,V⟩
 have aA:=aL _ _ aN
 have dP:=aA.rowC (i:=0) rfl
 replace V:((l.length:Nat):Int)=((u.length:Nat):Int):=V
 have aC:=aA.pb [0,7]
 refine⟨.inr ⟨_,aC⟩, ?_⟩
 have aD:=aC.pf [5]
 refine qd 7 rfl (IM (k:=c.length) (m:=l.length) (om) aD rfl rfl (jv G2 (aD.rds (i:=6) rfl) (fU vO l)) rfl e6 (s:=r8 (c++l)) f7 (r4).symm ?_)
 intro aF aG fA bM
 have dQ:r8 (c++l)=c.length+l.length:=by simp only [o1,s0,F2]
 refine⟨.inl e7, ?_⟩
 refine IP (v:=vP C 2) 8 rfl e7 (fun _=>yk) ?_
 have bO:=bM.pf [1]
 refine qe 9 rfl (Do.store (vs:= [.slice aF (r8 (c++l)) aG]) (o:=2) bO rfl rfl Tryz.sizeOf58 rfl rfl rfl rfl ?_)
 intro fC bP
 refine⟨.inl e7, ?_⟩
 refine qn (bN (Ig (Ib (fw (vJ (g+1)) (Ie (e:=C5.wrap (((g:Nat):Int)+1)) yk f0) (Mz rfl (C6 ?_))))))
 have bR:=bP.pk [0,4,5,2,1]
 exact Ir (g+1,av,ax,(b++u),aF,aG,(c++l)) ⟨rfl,rfl,rfl,rfl,rfl,rfl,rfl,rfl,rfl,rfl,rfl,rfl,rfl,rfl,rfl,trivial⟩ (P.2 ⟨bR,e6,e6,e6,et (aj) (et (congrArg (fun q=>jX l0 d a q g b c) bC) (et (ah Q) (ah U)))⟩) (by show l1.length - (g+1) < l1.length - g; omega)
 refine jF (dF bB) (C7 (Il ?_))
 have W:jX l0 d a l1 0 ([]) ([])=(b,c):=et (aj) (et (congrArg (fun q=>jX l0 d a q g b c) (fB (ls:=l1) (i:=g) e6)) rfl)
 refine Il (IB (Ig (sr (Kz (vP C 1) (Lz (.slice h b.length j) E 0 Tryz.isAgg39 (Kz (vJ b.length) (Kz (.bool (decide (((b.length:Nat):Int) > 0))) (nt ?_))))))))
 by_cases I:((b.length:Nat):Int) > 0
 refine jT (dT I) (Ib (Mz rfl (La ([vJ a, .slice h b.length j, .slice p c.length r]) E 0 Tryz.isAgg172 Tryz.sizeOf172 ?_)))
 refine lg [vJ a, .slice h b.length j, .slice p c.length r] 172 3 1 E ?_
 intro bS fD X
 replace X:=IL (y:=row bS 1 1 (q3 bG.cells ([(bG.mk ((a:Nat):Int) (H0 h j b) (H0 p r c))])) 172 3) rfl X
 have aH:=X.pb [0,1]
 refine WL.do rfl (IM (k:=d.length) (m:=1) (um) aH rfl rfl (jv Tryz.underlying103 (aH.rds (i:=4) rfl) (fU bG.one ([(bG.mk ((a:Nat):Int) (H0 h j b) (H0 p r c))]))) rfl e6 (s:=r8 (d++ [(gF.mk ((a:Nat):Int) (E2 b) (E2 c))])) f7 (r4).symm ?_)
 intro bT bU bV bW
 have bX:=bW.pb [0,4,5]
 have bY:Own w D bV (sepL (q3 bG.own (x++ [(bG.mk ((a:Nat):Int) (H0 h j b) (H0 p r c))]))::_):=bX.sepAdd (L2:= [row h b.length j (q3 bi.cells b) 72 6,row p c.length r (q3 (eI .i64) c) 3 1]) (r4 (f:=bG.own) (xs:=x) (ys:= [(bG.mk ((a:Nat):Int) (H0 h j b) (H0 p r c))])).symm
 have dR:r8 (d++ [(gF.mk ((a:Nat):Int) (E2 b) (E2 c))])=d.length+1:=by simp only [o1,s0,F2]
 have dU:=aB (pF (es:= [(bG.mk ((a:Nat):Int) (H0 h j b) (H0 p r c))]) (ms:= [(gF.mk ((a:Nat):Int) (E2 b) (E2 c))]) B rfl)
 refine Az rfl (C6 (bN (Ig (Ib (fw (vJ (a+1)) (Ie (e:=C5.wrap (((a:Nat):Int)+1)) yk f0) (Mz rfl (C6 ?_)))))))
 have bZ:=bY.pk [1,0]
 exact Ir (bT,bU,(x++ [(bG.mk ((a:Nat):Int) (H0 h j b) (H0 p r c))]),(d++ [(gF.mk ((a:Nat):Int) (E2 b) (E2 c))]),a+1) ⟨rfl,rfl,rfl,rfl,rfl,rfl,trivial⟩ (G.2 ⟨bZ,by exact(pF (es:= [(bG.mk ((a:Nat):Int) (H0 h j b) (H0 p r c))]) (ms:= [(gF.mk ((a:Nat):Int) (E2 b) (E2 c))]) B rfl),e6,e6,et (O) (et (congrArg (fun q=>iE l0 l1 q d a) (rY (n:=5) (i:=a) e6)) (et (ah W) (ip I)))⟩) (by show 5 - (a+1) < 5 - a; omega)
 refine jF (dF I) (IE (bN (Ig (Ib (fw (vJ (a+1)) (Ie (e:=C5.wrap (((a:Nat):Int)+1)) yk f0) (Mz rfl (C6 ?_)))))))
 have cu:=E.pk [1,2]
 exact Ir (z,A,x,d,a+1) ⟨rfl,rfl,rfl,rfl,rfl,rfl,trivial⟩ (G.2 ⟨cu,by exact B,e6,e6,et (O) (et (congrArg (fun q=>iE l0 l1 q d a) (rY (n:=5) (i:=a) e6)) (et (ah W) (iN I)))⟩) (by show 5 - (a+1) < 5 - a; omega)
 refine jF (dF bv) (C7 (Il ?_))
 have aP:iE l0 l1 5 ([]) 0=d:=et (O) (et (congrArg (fun q=>iE l0 l1 q d a) (wT (n:=5) (i:=a) e6)) rfl)
 refine Il (IB (Ig (sr (Mz rfl (Az rfl (An rfl (rt (Fin.res (lW rfl rfl rfl) ?_))))))))
 have cz:=bu.pf []
 obtain⟨rfl,rfl⟩:=ic (hr.symm.trans (show _=(d,0) from et (ah F) (et (ip M) (et (ah N) (et (ip aa) (ah aP))))))
 exact⟨z,A,x,rfl,cz,B⟩
 refine jT (dT aa) (sr (Mz rfl (Az rfl (An rfl (rt (tR (Fin.res (lW rfl rfl rfl) ?_)))))))
 have cB:Own w D Z [sepL (q3 bG.own ([]))]:=bn.sepNil
 have cK:Own w D Z [row none 0 0 (q3 bG.cells ([])) 172 3,sepL (q3 bG.own ([]))]:=cB.free (eZ 172 3)
 have cO:=cK.pf []
 obtain⟨rfl,rfl⟩:=ic (hr.symm.trans (show _=(([]:List gF),K) from et (ah F) (et (ip M) (et (ah N) (iN aa)))))
 exact⟨none,0, [],rfl,cO,rfl⟩
 refine jT (dT M) (sr (Mz rfl (Az rfl (An rfl (rt (tR (Fin.res (lW rfl rfl rfl) ?_)))))))
 have cZ:Own w D aU [sepL (q3 bG.own ([]))]:=aW.sepNil
 have df:Own w D aU [row none 0 0 (q3 bG.cells ([])) 172 3,sepL (q3 bG.own ([]))]:=cZ.free (eZ 172 3)
 have dh:=df.pf []
 obtain⟨rfl,rfl⟩:=ic (hr.symm.trans (show _=(([]:List gF),J) from et (ah F) (iN M)))
 exact⟨none,0, [],rfl,dh,rfl⟩
end Go.Proofs.YtbkagebjhbphaaaGreat
