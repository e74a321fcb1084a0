/-
 owner: operations cut.
-/
import Derived.Test.YtbkagebjhbphaaaGreatWc
namespace Go.Proofs.YtbkagebjhbphaaaGreat
open Int renaming fdiv→K1,toNat→C6
open IntKind renaming i64→C3,u64→C7
open List renaming drop→r4,flatMap→q4,flatMap_append→r5,getD→B8,length→s0,length_append→o2,length_cons→s1,length_drop→o1,length_nil→E7,length_replicate→H0,length_set→G4,length_take→o0,replicate→r7,take→r3,toArray→v6
open Ll renaming mk→E0
open Sv renaming mk→G3
open _root_.Go.Proofs.Tryz renaming call156→O1,call163→O2,isAgg3→C2,isAgg38→N0,isAgg9→C0,prog→v5,sizeOf38→M9,underlying39→F2,underlying58→y4
open WL renaming nil→C4
open Wp renaming exit→C5,loop→C1
set_option maxRecDepth 100000
open Go.RowKit
set_option linter.unusedVariables false
set_option linter.unusedSectionVars false
set_option linter.unusedSimpArgs false
def jB (d:List UInt8):List aM→Nat→Nat→Nat
  | [],b,a=>b
  | e::c,b,a=>if e.aJ≤d then jB d c a (a+1) else jB d c b (a+1)
def qc (l0:List aM) (a:List UInt8):Int:=
 bnd (jB a l0 0 0) fun sLrL=>((sLrL:Nat):Int)
theorem yK (w D l u x l0 c t) (H:Own w D w []) (o:Ro w D fun w'=>aY w' 2 l u (q4 aM.cells l0)) (y:u=l0.length) (M:l0.length *24≤211106232532992) (N:1≤l0.length) (hr:qc l0 c=t):
    Calls v5 162 #[.slice l u x, .string ⟨v6 c⟩] w (dA fun v w'=>v=vI t∧Own w D w' []∧(0≤t∧t < ((l0.length:Nat):Int))):=by
 subst y
 refine cb Tryz.func162 ?_
 refine sr (Ar rfl (An rfl (Ik (sr (Mz rfl (Kz (vJ l0.length) (Mn rfl (bo ?_))))))))
 have z:=H.pk []
 obtain⟨A,d⟩:=FI fun (b:Nat) (a:Nat) w'=>Own w D w' []∧a≤l0.length∧b≤a∧b≤a∧b≤l0.length∧0≤b∧b < l0.length∧jB c l0 0 0=jB c (r4 a l0) b a
 refine C1 (fun i:Nat × Nat=> [(5,vJ i.1),(9,vJ i.2),(8,vJ l0.length),(4,vI 0),(0, .slice l l0.length x),(1, .string ⟨v6 c⟩)]) A (fun i=>l0.length - i.2) (0,0) ⟨rfl,rfl,rfl,rfl,rfl,rfl,trivial⟩ (d.2 ⟨z,e6,e6,e6,e6,e6,e6,rfl⟩) ?_
 rintro ⟨b,a⟩ O p
 obtain⟨f,F,G,I,J,K,L,g⟩:=d.1 p
 refine sr (Kz (.bool (decide (((a:Nat):Int) < ((l0.length:Nat):Int)))) (nt (Ik ?_)))
 by_cases r:((a:Nat):Int) < ((l0.length:Nat):Int)
 obtain⟨h,m⟩:=dh (ls:=l0) (i:=a) aM.len f2 (f.ro o) e9
 have n:=drop_at m
 refine jT (dT r) (sk (Ik (bo (sr (Mz rfl (Ar rfl (Mz rfl (Mz rfl (fw (.pointer (some ⟨ab l,ao l+a *2,none⟩)) (Iz (nE) rfl rfl ((f.ro o).addr (i:=a) e6) e6) (Kz (.pointer (some ⟨ab l,ao l+a *2,none⟩)) (fw (.string ⟨v6 h.aJ⟩) (IB rfl (bJ.one C0 (((f.ro o).elem aM.len m f2).at_ (k:=0) rfl))) (Mz rfl (fw (.bool (decide (h.aJ≤c))) (IM (e:=Op.bytesLess h.aJ c || decide (h.aJ=c)) (JD rfl rfl) (xI _ _)) (nt ?_))))))))))))))
 by_cases j:h.aJ≤c
 refine jT (dT j) (Il (Mz rfl (Az rfl (C4 (bN (Iq (Il (fw (vJ (a+1)) (Ir (e:=C3.wrap (((a:Nat):Int)+1)) yk f0) (Mz rfl (C4 ?_))))))))))
 have B:=f.pk []
 exact II (a,a+1) ⟨rfl,rfl,rfl,rfl,rfl,rfl,trivial⟩ (d.2 ⟨B,e6,e6,e6,e6,e6,e6,et (g) (et (congrArg (fun q=>jB c q b a) n) (ip j))⟩) (by show l0.length - (a+1) < l0.length - a; omega)
 refine jF (dF j) (IU (bN (Iq (Il (fw (vJ (a+1)) (Ir (e:=C3.wrap (((a:Nat):Int)+1)) yk f0) (Mz rfl (C4 ?_)))))))
 have C:=f.pk []
 exact II (b,a+1) ⟨rfl,rfl,rfl,rfl,rfl,rfl,trivial⟩ (d.2 ⟨C,e6,e6,e6,e6,e6,e6,et (g) (et (congrArg (fun q=>jB c q b a) n) (iN j))⟩) (by show l0.length - (a+1) < l0.length - a; omega)
 refine jF (dF r) (C5 (IC ?_))
 have s:jB c l0 0 0=b:=et (g) (et (congrArg (fun q=>jB c q b a) (dZ (ls:=l0) (i:=a) e6)) rfl)
 refine IC (IK (Iq (sr (Mz rfl (An rfl (rt (rs ?_)))))))
 have E:=f.pk []
 obtain rfl:_=((b:Nat):Int):=hr.symm.trans (ae s)
 exact⟨rfl,E,e6⟩
def kv (l0:List aM) (c:Int):aL:=
 bnd (B8 l0 (C6 c) default) fun a=>if c+1 < ((l0.length:Nat):Int) then bnd (B8 l0 (C6 (c+1)) default) fun b=>aL.mk a.aJ b.aJ else aL.mk a.aJ ([])
theorem oF (w D h r C l0 b) (B:aL) (H:Own w D w []) (c:Ro w D fun w'=>aY w' 2 h r (q4 aM.cells l0)) (s:r=l0.length) (E:l0.length *24≤211106232532992) (F:0≤b∧b < ((l0.length:Nat):Int)) (hr:kv l0 b=B):
    Calls v5 156 #[.slice h r C,vI b] w (dA fun v w'=>v= .agg (aL.cells B).toArray∧Own w D w' []):=by
 subst s
 refine cb Tryz.func156 ?_
 refine sr ?_
 refine dn [.string ⟨v6 ([])⟩, .string ⟨v6 ([])⟩] 38 H ?_
 intro G I j
 refine ns (Mz rfl (fw (vJ (C6 b)) (Ir (e:=b) (IA rfl) e6) ?_))
 obtain⟨a,g⟩:=dh (ls:=l0) (i:=C6 b) aM.len f2 (j.ro c) e9
 refine fw (.pointer (some ⟨ab h,ao h+(C6 b) *2,none⟩)) (Iz (nE) rfl rfl ((j.ro c).addr (i:=C6 b) e6) e6) (Kz (.pointer (some ⟨ab h,ao h+(C6 b) *2,none⟩)) (fw (.string ⟨v6 a.aJ⟩) (IB rfl (bJ.one C0 (((j.ro c).elem aM.len g f2).at_ (k:=0) rfl))) (Kz (.agg #[.string ⟨v6 a.aJ⟩, .string ⟨v6 ([])⟩]) ?_)))
 refine dn [.string ⟨v6 ([])⟩, .string ⟨v6 ([])⟩] 38 j ?_
 intro t J u
 refine df [.string ⟨v6 a.aJ⟩, .string ⟨v6 ([])⟩] 0 u M9 ?_
 intro K d
 refine nt (Ik (sr (Mz rfl (fw (vI (b+1)) (Ir (e:=C3.wrap (b+1)) yk g1) (Mz rfl (Kz (vJ l0.length) (Kz (.bool (decide (b+1 < ((l0.length:Nat):Int)))) (nt ?_))))))))
 by_cases l:b+1 < ((l0.length:Nat):Int)
 refine jT (dT l) (Il (Mz rfl (Mz rfl (fw (vJ (C6 (b+1))) (Ir (e:=C3.wrap (b+1)) yk f0) ?_))))
 obtain⟨f,n⟩:=dh (ls:=l0) (i:=C6 (b+1)) aM.len f2 (d.ro c) e9
 refine fw (.pointer (some ⟨ab h,ao h+(C6 (b+1)) *2,none⟩)) (Iz (nE) rfl rfl ((d.ro c).addr (i:=C6 (b+1)) e6) e6) (Kz (.pointer (some ⟨ab h,ao h+(C6 (b+1)) *2,none⟩)) (fw (.string ⟨v6 f.aJ⟩) (IB rfl (bJ.one C0 (((d.ro c).elem aM.len n f2).at_ (k:=0) rfl))) (Kz (vP t 1) ?_)))
 refine df [.string ⟨v6 f.aJ⟩] 1 d Tryz.sizeOf9 ?_
 intro L o
 refine ns (La ([.string ⟨v6 a.aJ⟩, .string ⟨v6 f.aJ⟩]) o 0 N0 M9 ?_)
 have x:=o.pb [0]
 refine df [.string ⟨v6 a.aJ⟩, .string ⟨v6 f.aJ⟩] 0 x M9 ?_
 intro M p
 refine nt (rt (Fin.res (oo rfl rfl (IJ (cs:= [.string ⟨v6 a.aJ⟩, .string ⟨v6 f.aJ⟩]) N0 M9 ((p.cls (i:=0) rfl).lit (k:=0) (m:=2) rfl))) ?_))
 have y:=p.pk []
 obtain rfl:_=aL.mk a.aJ f.aJ:=hr.symm.trans (et (ae (aT g)) (et (ip l) (ae (aT n))))
 exact⟨rfl,y⟩
 refine jF (dF l) (sk (sr (La ([.string ⟨v6 a.aJ⟩, .string ⟨v6 ([])⟩]) d 0 N0 M9 ?_)))
 have z:=d.pb [0]
 refine df [.string ⟨v6 a.aJ⟩, .string ⟨v6 ([])⟩] 0 z M9 ?_
 intro N q
 refine nt (rt (Fin.res (oo rfl rfl (IJ (cs:= [.string ⟨v6 a.aJ⟩, .string ⟨v6 ([])⟩]) N0 M9 ((q.cls (i:=0) rfl).lit (k:=0) (m:=2) rfl))) ?_))
 have A:=q.pk []
 obtain rfl:_=aL.mk a.aJ ([]):=hr.symm.trans (et (ae (aT g)) (iN l))
 exact⟨rfl,A⟩
def oK (a:List UInt8) (b:List UInt8):(List UInt8):=
 if a=([]) then b else if b≠([]) then if b < a then b else a else a
theorem xy (w D d c k) (H:Own w D w []) (hr:oK d c=k):
    Calls v5 187 #[.string ⟨v6 d⟩, .string ⟨v6 c⟩] w (dA fun v w'=>v= .string ⟨v6 k⟩∧Own w D w' []):=by
 refine cb Tryz.func187 ?_
 refine sr (An rfl (Ik (sr (Mz rfl (fw (.bool (decide (d=([])))) (JC rfl rfl) (Mz rfl ?_))))))
 by_cases a:d=([])
 refine Sz (dT a) (Sz (dT a) (Sz (dT a) (IG rfl rfl rfl (IG rfl rfl rfl (IG rfl rfl rfl (Sz (dT a) (fw (.bool true) (Iw rfl (dT a) rfl) (nt (jt (sr (Mz rfl (An rfl (rt (tR (rs ?_)))))))))))))))
 have g:=H.pk []
 obtain rfl:_=c:=hr.symm.trans (ip a)
 exact⟨rfl,g⟩
 refine gw (.string ⟨v6 c⟩) (dF a) (IA rfl) (gw (.bool (decide (c≠([])))) (dF a) (I6 rfl rfl) (gw (.bool (decide (c≠([])))) (dF a) (IA rfl) ?_))
 by_cases b:c≠([])
 refine gw (.string ⟨v6 c⟩) (dT b) (IA rfl) (gw (.string ⟨v6 d⟩) (dT b) (IA rfl) (gw (.bool (decide (c < d))) (dT b) (IM (e:=Op.bytesLess c d) (JK rfl rfl) (wz _ _)) (gw (.bool (decide (c < d))) (dF a) (Iw rfl (dT b) rfl) (fw (.bool (decide (c < d))) (Io rfl (dF a) rfl) (nt ?_)))))
 by_cases f:c < d
 refine jT (dT f) (sr (Mz rfl (An rfl (rt (tR (rs ?_))))))
 have h:=H.pk []
 obtain rfl:_=c:=hr.symm.trans (et (iN a) (et (ip b) (ip f)))
 exact⟨rfl,h⟩
 refine jF (dF f) (sk (sr (Mz rfl (An rfl (rt (rs ?_))))))
 have i:=H.pk []
 obtain rfl:_=d:=hr.symm.trans (et (iN a) (et (ip b) (iN f)))
 exact⟨rfl,i⟩
 refine Sz (dF b) (Sz (dF b) (Sz (dF b) (gw (.bool false) (dF a) (Io rfl (dF b) rfl) (fw (.bool false) (Io rfl (dF a) rfl) (nt (jf (sk (sr (Mz rfl (An rfl (rt (rs ?_))))))))))))
 have j:=H.pk []
 obtain rfl:_=d:=hr.symm.trans (et (iN a) (iN b))
 exact⟨rfl,j⟩
def qL (b:List UInt8) (a:List UInt8):Bool:=
 if a=([]) then true else decide (b < a)
theorem zw (w D c b g) (H:Own w D w []) (hr:qL c b=g):
    Calls v5 188 #[.string ⟨v6 c⟩, .string ⟨v6 b⟩] w (dA fun v w'=>v= .bool g∧Own w D w' []):=by
 refine cb Tryz.func188 ?_
 refine sr (Ar rfl (Mz rfl (fw (.bool (decide (b=([])))) (JC rfl rfl) (Mz rfl ?_))))
 by_cases a:b=([])
 refine Sz (dT a) (Sz (dT a) (Sz (dT a) (fw (.bool true) (Iw rfl (dT a) rfl) (An rfl (rt (rs ?_))))))
 have d:=H.pk []
 obtain rfl:_=true:=hr.symm.trans (ip a)
 exact⟨rfl,d⟩
 refine gw (.string ⟨v6 c⟩) (dF a) (IA rfl) (gw (.string ⟨v6 b⟩) (dF a) (IA rfl) (gw (.bool (decide (c < b))) (dF a) (IM (e:=Op.bytesLess c b) (JK rfl rfl) (wz _ _)) (fw (.bool (decide (c < b))) (Io rfl (dF a) rfl) (An rfl (rt (rs ?_))))))
 have f:=H.pk []
 obtain rfl:_=decide (c < b):=hr.symm.trans (iN a)
 exact⟨rfl,f⟩
def kJ (e:aL) (f:aL):aL × Bool:=
 bnd (iB e) fun b=>if b=0 then bnd (iB f) fun c=>if c=0 then bnd (oK e.aR f.aR) fun a=>bnd (qL (jK e.aJ f.aJ) a) fun d=>if d=true then(aL.mk (jK e.aJ f.aJ) a,true) else(aL.mk ([]) ([]),false) else(aL.mk ([]) ([]),false) else(aL.mk ([]) ([]),false)
theorem nS (w D) (d:aL) (c:aL) (r0:aL) (r1) (H:Own w D w []) (hr:kJ d c=(r0,r1)):
    Calls v5 163 #[.agg (aL.cells d).toArray, .agg (aL.cells c).toArray] w (dA fun v w'=>v= .tuple #[.agg (aL.cells r0).toArray, .bool r1]∧Own w D w' []):=by
 refine cb Tryz.func163 ?_
 refine sr ?_
 refine dn (aL.cells d) 38 H ?_
 intro B aQ Z
 refine dn (aL.cells c) 38 Z ?_
 intro C aR aa
 refine dn [.string ⟨v6 ([])⟩, .string ⟨v6 ([])⟩] 38 aa ?_
 intro aS aT E
 refine An rfl (Ik (sr (La (aL.cells d) E 2 N0 M9 ?_)))
 obtain⟨s,f⟩:∃ q,iB d=q:=⟨_,rfl⟩
 obtain⟨aU,F,aG,G,aH⟩:=Iu E
 refine cl Tryz.call116 (qf _ _ d s F f) ?_
 rintro _ aV ⟨rfl,I⟩
 have x:=G _ _ I
 refine fw (.bool (decide (¬ (s=0)))) (IM (e:= !(decide (s=0))) yk decide_not.symm) (Mz rfl ?_)
 by_cases a:s=0
 refine gw (.agg (aL.cells c).toArray) (dF (Lr a)) (IB rfl (IJ (cs:=(aL.cells c)) N0 M9 ((x.cls (i:=1) rfl).lit (k:=0) (m:=2) rfl))) ?_
 obtain⟨h,g⟩:∃ q,iB c=q:=⟨_,rfl⟩
 obtain⟨aW,J,aI,K,aJ⟩:=Iu x
 refine pW (dF (Lr a)) Tryz.call116 (qf _ _ c h J g) ?_
 rintro _ aX ⟨rfl,L⟩
 have M:=K _ _ L
 refine gw (.bool (decide (¬ (h=0)))) (dF (Lr a)) (IM (e:= !(decide (h=0))) yk decide_not.symm) (fw (.bool (decide (¬ (h=0)))) (Io rfl (dF (Lr a)) rfl) (nt ?_))
 by_cases j:h=0
 refine jF (dF (Lr j)) (sk (Ik ?_))
 refine EF [] (IE IQ) M ?_
 intro aY af
 refine qp B 0 0 rfl (ql 1 rfl 2 C0 rfl rfl rfl (qp C 0 2 rfl (ql 3 rfl 1 C0 rfl rfl rfl (qt (v:= .string ⟨v6 (jK d.aJ c.aJ)⟩) 4 rfl (fun _ _=>J4 rfl) (qp B 1 5 rfl (ql 6 rfl 2 C0 rfl rfl rfl (qp C 1 7 rfl (ql 8 rfl 1 C0 rfl rfl rfl ?_))))))))
 obtain⟨b,l⟩:∃ q,oK d.aR c.aR=q:=⟨_,rfl⟩
 refine EG ⟨9,_,_,_,_,_,Unit,fun N=> .string ⟨v6 b⟩,fun _=>True,fun N=> []⟩ ⟨11,_,_,_,_,_,Nat,fun N=>vP N 0,fun _=>True,fun N=> [blk N [.string ⟨v6 ([])⟩, .string ⟨v6 ([])⟩] 38]⟩ 10 3 af ⟨⟨rfl,rfl,rfl, ?_⟩,⟨rfl,rfl,rfl, ?_⟩,trivial⟩ rfl ?_
 intro aZ L' ag
 refine(Jb (cs:= [.string ⟨v6 ([])⟩, .string ⟨v6 ([])⟩]) (t:=38) ag rfl rfl (fun _=>by kernel_rfl) ?_)
 intro n bf ah
 exact⟨n,rfl,trivial,ah⟩
 intro bg L' ai
 obtain⟨bi,O,aK,P,aM⟩:=Iu ai
 refine(IP Tryz.call187 rfl (xy _ _ d.aR c.aR b O l) ?_)
 rintro _ bn ⟨rfl,Q⟩
 have aj:=P _ _ Q
 exact⟨(),rfl,trivial,aj⟩
 rintro ⟨⟩ _
 refine⟨.agg #[.string ⟨v6 (jK d.aJ c.aJ)⟩, .string ⟨v6 b⟩],fun _=>yk, ?_⟩
 rintro n _
 intro ak au
 have av:Own w D ak (blk n [.string ⟨v6 ([])⟩, .string ⟨v6 ([])⟩] 38::_):=au.flat.pf []
 have ax:=av.pb [0]
 have ay:=ax.pf [3]
 refine qe 12 rfl (Do.store (vs:= [.string ⟨v6 (jK d.aJ c.aJ)⟩, .string ⟨v6 b⟩]) (o:=0) ay rfl rfl M9 rfl rfl rfl rfl ?_)
 intro bq az
 have R:=az.pb [0]
 refine⟨.inr ⟨_,R⟩, ?_⟩
 refine qn (Iq (Ik (Ik ?_)))
 have y:=R.pk [0,3]
 refine Il (Kz (vP n 0) (Lz (.string ⟨v6 (jK d.aJ c.aJ)⟩) y 1 C0 (Kz (vP n 1) (Lz (.string ⟨v6 b⟩) y 1 C0 ?_))))
 obtain⟨z,p⟩:∃ q,qL (jK d.aJ c.aJ) b=q:=⟨_,rfl⟩
 obtain⟨bu,S,aN,T,aO⟩:=Iu y
 refine cl Tryz.call188 (zw _ _ (jK d.aJ c.aJ) b z S p) ?_
 rintro _ bv ⟨rfl,U⟩
 have A:=T _ _ U
 refine Kz (.bool (!z)) (nt ?_)
 rcases Ls (z) with r | r
 refine jF (cn r) (sk (sr (La ([.string ⟨v6 (jK d.aJ c.aJ)⟩, .string ⟨v6 b⟩]) A 1 N0 M9 ?_)))
 refine df [.string ⟨v6 (jK d.aJ c.aJ)⟩, .string ⟨v6 b⟩] 0 A M9 ?_
 intro bz V
 refine An rfl (rt (Fin.res (jb (vs:= [.agg #[.string ⟨v6 (jK d.aJ c.aJ)⟩, .string ⟨v6 b⟩], .bool true]) rfl (cK.cell rfl (IJ (cs:= [.string ⟨v6 (jK d.aJ c.aJ)⟩, .string ⟨v6 b⟩]) N0 M9 ((V.cls (i:=0) rfl).lit (k:=0) (m:=2) rfl)) (cK.tmp rfl cK.nil)) (Lj rfl)) ?_))
 have aA:=V.pk []
 obtain⟨rfl,rfl⟩:=fD (hr.symm.trans (show _=(aL.mk (jK d.aJ c.aJ) b,true) from et (ae f) (et (ip a) (et (ae g) (et (ip j) (et (ae l) (et (ae p) (ip r))))))))
 exact⟨rfl,aA⟩
 refine jT (cn r) (sr (Kz (.agg #[.string ⟨v6 ([])⟩, .string ⟨v6 ([])⟩]) ?_))
 refine df [.string ⟨v6 ([])⟩, .string ⟨v6 ([])⟩] 0 A M9 ?_
 intro bA W
 refine An rfl (rt (tR (Fin.res (jb (vs:= [.agg #[.string ⟨v6 ([])⟩, .string ⟨v6 ([])⟩], .bool false]) rfl (cK.cell rfl (IJ (cs:= [.string ⟨v6 ([])⟩, .string ⟨v6 ([])⟩]) N0 M9 ((W.cls (i:=0) rfl).lit (k:=0) (m:=2) rfl)) (cK.tmp rfl cK.nil)) (Lj rfl)) ?_)))
 have aB:=W.pk []
 obtain⟨rfl,rfl⟩:=fD (hr.symm.trans (show _=(aL.mk ([]) ([]),false) from et (ae f) (et (ip a) (et (ae g) (et (ip j) (et (ae l) (et (ae p) (fP r))))))))
 exact⟨rfl,aB⟩
 refine jT (dT j) (sr (Kz (.agg #[.string ⟨v6 ([])⟩, .string ⟨v6 ([])⟩]) ?_))
 refine df [.string ⟨v6 ([])⟩, .string ⟨v6 ([])⟩] 0 M M9 ?_
 intro bB X
 refine An rfl (rt (tR (Fin.res (jb (vs:= [.agg #[.string ⟨v6 ([])⟩, .string ⟨v6 ([])⟩], .bool false]) rfl (cK.cell rfl (IJ (cs:= [.string ⟨v6 ([])⟩, .string ⟨v6 ([])⟩]) N0 M9 ((X.cls (i:=0) rfl).lit (k:=0) (m:=2) rfl)) (cK.tmp rfl cK.nil)) (Lj rfl)) ?_)))
 have aC:=X.pk []
 obtain⟨rfl,rfl⟩:=fD (hr.symm.trans (show _=(aL.mk ([]) ([]),false) from et (ae f) (et (ip a) (et (ae g) (iN j)))))
 exact⟨rfl,aC⟩
 refine Sz (dT a) (Sz (dT a) (Sz (dT a) (fw (.bool true) (Iw rfl (dT a) rfl) (nt (jt (sr (Kz (.agg #[.string ⟨v6 ([])⟩, .string ⟨v6 ([])⟩]) ?_)))))))
 refine df [.string ⟨v6 ([])⟩, .string ⟨v6 ([])⟩] 0 x M9 ?_
 intro aP u
 refine An rfl (rt (tR (Fin.res (jb (vs:= [.agg #[.string ⟨v6 ([])⟩, .string ⟨v6 ([])⟩], .bool false]) rfl (cK.cell rfl (IJ (cs:= [.string ⟨v6 ([])⟩, .string ⟨v6 ([])⟩]) N0 M9 ((u.cls (i:=0) rfl).lit (k:=0) (m:=2) rfl)) (cK.tmp rfl cK.nil)) (Lj rfl)) ?_)))
 have Y:=u.pk []
 obtain⟨rfl,rfl⟩:=fD (hr.symm.trans (show _=(aL.mk ([]) ([]),false) from et (ae f) (iN a)))
 exact⟨rfl,Y⟩
def dW (l0:List aM) (g:Int) (d:aN):List aM→List aN→Nat→(List aN)
  | [],b,c=>b
  | h::e,b,c=>if h.bE=g then bnd (kv l0 ((c:Nat):Int)) fun f=>bnd (kJ (aL.mk d.aJ d.aR) f) fun a=>if a.2=true then dW l0 g d e (b++ [(aN.mk d.av ([]) ([]) a.1.aJ a.1.aR d.aV)]) (c+1) else dW l0 g d e b (c+1) else dW l0 g d e b (c+1)
def fH (l0:List aM) (h:Int) (e:aN):List aM→List aN→Nat→(List aN)
  | [],a,b=>a
  | g::d,a,b=>if g.bE=h then bnd (kv l0 ((b:Nat):Int)) fun f=>bnd (kJ (aL.mk e.aJ e.aR) f) fun c=>if c.2=true then fH l0 h e d (a++ [(aN.mk e.av ([]) ([]) c.1.aJ c.1.aR e.aV)]) (b+1) else fH l0 h e d a (b+1) else fH l0 h e d a (b+1)
def je (l0:List aM) (d:Int) (c:aN):(List aN):=
 if c.av=4 then bnd (dW l0 d c l0 ([]) 0) fun sLrtL=>sLrtL else if c.av=5 then bnd (fH l0 d c l0 ([]) 0) fun sLrftL=>sLrftL else bnd (qc l0 c.aZ) fun a=>bnd (B8 l0 (C6 a) default) fun b=>bnd (if b.bE=d then [c] else []) fun sJrffbbJ=>sJrffbbJ
theorem yL (w D M n0 c0 l0 p) (a:aN) (r0) (H:Own w D w []) (C:Ro w D fun w'=>aY w' 2 M n0 (q4 aM.cells l0)) (jh:n0=l0.length) (lL:l0.length *24≤211106232532992) (lM:1≤l0.length∧l0.length≤6) (hr:je l0 p a=r0):
    Calls v5 146 #[.slice M n0 c0,vI p, .agg (aN.cells a).toArray] w (dA fun v w'=> ∃ B0 b0,v= .slice B0 r0.length b0∧Own w D w' [row B0 r0.length b0 (q4 aN.cells r0) 72 6]∧(r0.length≤6)):=by
 subst jh
 refine cb Tryz.func146 ?_
 refine sr ?_
 refine dn (aN.cells a) 72 H ?_
 intro g eZ aK
 refine Ar rfl (An rfl (Ik (sr (Kz (vP g 0) (Lz (vI a.av) aK 0 C2 (fw (.bool (decide (¬ (a.av=4)))) (IM (e:= !(decide (a.av=4))) yk decide_not.symm) (Mz rfl ?_)))))))
 by_cases N:a.av=4
 refine Sk rfl rfl (dF (Lr N)) rfl (Sk rfl rfl (dF (Lr N)) rfl (Sk rfl rfl (dF (Lr N)) rfl (fw (.bool false) (Io rfl (dF (Lr N)) rfl) (nt (jf (sk (Ik (sr (Mz rfl (Kz (vJ l0.length) (Mn rfl (bo ?_))))))))))))
 have ji:Own w D eZ [row none 0 0 (q4 aN.cells ([])) 72 6,blk g (aN.cells a) 72]:=aK.free (eP 72 6)
 have jk:=ji.pb [0]
 obtain⟨jl,E⟩:=tq fun Z (aa:Nat) f (c:Nat) w'=>Own w D w' [blk g (aN.cells a) 72,row Z f.length aa (q4 aN.cells f) 72 6]∧c≤l0.length∧f.length≤c∧dW l0 p a l0 ([]) 0=dW l0 p a (r4 c l0) f c
 refine C1 (fun i:(Option Addr) × Nat × (List aN) × Nat=> [(7, .slice i.1 i.2.2.1.length i.2.1),(36,vJ i.2.2.2),(35,vJ l0.length),(6, .slice none 0 0),(5,vP g 0),(0, .slice M l0.length c0),(1,vI p)]) jl (fun i=>l0.length - i.2.2.2) (none,0, [],0) ⟨rfl,rfl,rfl,rfl,rfl,rfl,rfl,trivial⟩ (E.2 ⟨jk,(show 0≤l0.length∧0≤0∧dW l0 p a l0 ([]) 0=dW l0 p a (r4 0 l0) ([]) 0 from ⟨e6,e6,rfl⟩)⟩) ?_
 rintro ⟨Z,aa,f,c⟩ lN fe
 obtain⟨aO,j6,kg,G⟩:=E.1 fe
 refine sr (Kz (.bool (decide (((c:Nat):Int) < ((l0.length:Nat):Int)))) (nt (Ik ?_)))
 by_cases fo:((c:Nat):Int) < ((l0.length:Nat):Int)
 obtain⟨bG,bH⟩:=dh (ls:=l0) (i:=c) aM.len f2 (aO.ro C) e9
 have O:=drop_at bH
 refine jT (dT fo) (sk (Ik (bo (sr (Mz rfl (An rfl (Ik (sr (Mz rfl (Mz rfl (fw (.pointer (some ⟨ab M,ao M+c *2,none⟩)) (Iz (nE) rfl rfl ((aO.ro C).addr (i:=c) e6) e6) (Kz (.pointer (some ⟨ab M,ao M+c *2+1,none⟩)) (fw (vI bG.bE) (IB rfl (bJ.one C2 (((aO.ro C).elem aM.len bH f2).at_ (k:=1) rfl))) (Mz rfl (fw (.bool (decide (¬ (bG.bE=p)))) (IM (e:= !(decide (bG.bE=p))) yk decide_not.symm) (nt ?_))))))))))))))))
 by_cases Y:bG.bE=p
 refine jF (dF (Lr Y)) (sk (Ik ?_))
 refine pM [] (IE (bv.block (IE (IE (bv.block (IE IQ)))))) aO ?_
 intro lQ fq
 refine qp g 3 0 rfl (ql 1 rfl 0 C0 rfl rfl rfl (qp g 4 2 rfl (ql 3 rfl 0 C0 rfl rfl rfl (qk (.agg #[.string ⟨v6 a.aJ⟩, .string ⟨v6 a.aR⟩]) 4 rfl (qv 5 rfl rfl (qv 6 rfl rfl ?_))))))
 refine Jy 7 12 e7 ?_ ?_
 obtain⟨aQ,af⟩:∃ q,kv l0 ((c:Nat):Int)=q:=⟨_,rfl⟩
 obtain⟨lS,fu,fA,fB,ko⟩:=Iu fq
 refine GY.do 7 rfl e7 (IP O1 rfl (oF _ _ M l0.length c0 l0 ((c:Nat):Int) aQ fu (fA _ C) rfl e6 e6 af) ?_)
 rintro _ lT ⟨rfl,fC⟩
 have dm:=fB _ _ fC
 refine⟨.inr ⟨_,dm⟩, ?_⟩
 refine Jy 8 12 e7 ?_ ?_
 obtain⟨⟨u,dw⟩,aR⟩:∃ q:aL × Bool,kJ (aL.mk a.aJ a.aR) aQ=q:=⟨_,rfl⟩
 obtain⟨lU,fD,kr,fE,ku⟩:=Iu dm
 refine GY.do 8 rfl e7 (IP O2 rfl (nS _ _ (aL.mk a.aJ a.aR) aQ u dw fD aR) ?_)
 rintro _ lV ⟨rfl,fF⟩
 have fG:=fE _ _ fF
 refine⟨.inr ⟨_,fG⟩, ?_⟩
 refine qv 9 rfl rfl (qk (.agg (aL.cells u).toArray) 10 rfl (qk (.bool dw) 11 rfl ?_))
 refine qd 12 rfl (Jb (cs:= [.string ⟨v6 ([])⟩, .string ⟨v6 ([])⟩]) (t:=38) fG rfl rfl (fun _=>by kernel_rfl) ?_)
 intro fI lW jm
 have fJ:=jm.pb [0]
 refine⟨.inr ⟨_,fJ⟩, ?_⟩
 have jo:=fJ.pf [2]
 refine qe 13 rfl (Do.store (vs:=(aL.cells u)) (o:=0) jo rfl rfl M9 rfl rfl rfl rfl ?_)
 intro lX jq
 have av:=jq.pb [0]
 refine⟨.inr ⟨_,av⟩, ?_⟩
 refine qa 14 rfl rfl (qn (Iq (sr (Mn rfl ?_))))
 rcases Ls (dw) with aS | aS
 refine jT aS (Il (Mz rfl (Kz (vP g 0) (Lz (vI a.av) av 0 C2 (Kz (vP fI 0) (Lz (.string ⟨v6 u.aJ⟩) av 2 C0 (Kz (vP fI 1) (Lz (.string ⟨v6 u.aR⟩) av 2 C0 (Kz (vP g 5) (Lz (vI a.aV) av 0 C2 (Kz (.agg #[vI a.av, .string ⟨v6 ([])⟩, .string ⟨v6 ([])⟩, .string ⟨v6 u.aJ⟩, .string ⟨v6 u.aR⟩,vI a.aV]) ?_)))))))))))
 refine jV [vI a.av, .string ⟨v6 ([])⟩, .string ⟨v6 ([])⟩, .string ⟨v6 u.aJ⟩, .string ⟨v6 u.aR⟩,vI a.aV] 72 6 1 av ?_
 intro jr lY dx
 replace dx:=IX (y:=row jr 1 1 (q4 aN.cells ([(aN.mk a.av ([]) ([]) u.aJ u.aR a.aV)])) 72 6) rfl dx
 have fK:=dx.pf [2]
 refine WL.do rfl (IW (k:=f.length) (m:=1) (mG) fK rfl rfl (gN F2 (fK.rds (i:=1) rfl) (dX aN.one ([(aN.mk a.av ([]) ([]) u.aJ u.aR a.aV)]))) rfl e6 (s:=s0 (f++ [(aN.mk a.av ([]) ([]) u.aJ u.aR a.aV)])) f7 (r5).symm ?_)
 intro jv jw lZ jy
 have kw:s0 (f++ [(aN.mk a.av ([]) ([]) u.aJ u.aR a.aV)])=f.length+1:=by simp only [o2,s1,E7]
 refine Az rfl (C4 (bN (Iq (Il (fw (vJ (c+1)) (Ir (e:=C3.wrap (((c:Nat):Int)+1)) yk f0) (Mz rfl (C4 ?_)))))))
 have jA:=jy.pk [2,0]
 exact II (jv,jw,(f++ [(aN.mk a.av ([]) ([]) u.aJ u.aR a.aV)]),c+1) ⟨rfl,rfl,rfl,rfl,rfl,rfl,rfl,trivial⟩ (E.2 ⟨jA,e6,e6,et (G) (et (congrArg (fun q=>dW l0 p a q f c) O) (et (ip Y) (et (ae af) (et (ae aR) (ip aS)))))⟩) (by show l0.length - (c+1) < l0.length - c; omega)
 refine jF aS (IU (bN (Iq (Il (fw (vJ (c+1)) (Ir (e:=C3.wrap (((c:Nat):Int)+1)) yk f0) (Mz rfl (C4 ?_)))))))
 have jB:=av.pk [0,1]
 exact II (Z,aa,f,c+1) ⟨rfl,rfl,rfl,rfl,rfl,rfl,rfl,trivial⟩ (E.2 ⟨jB,e6,e6,et (G) (et (congrArg (fun q=>dW l0 p a q f c) O) (et (ip Y) (et (ae af) (et (ae aR) (fP aS)))))⟩) (by show l0.length - (c+1) < l0.length - c; omega)
 refine GY.do 12 rfl e7 (Jb (cs:= [.string ⟨v6 ([])⟩, .string ⟨v6 ([])⟩]) (t:=38) dm rfl rfl (fun _=>by kernel_rfl) ?_)
 intro fM l5 jC
 have fO:=jC.pb [0]
 refine⟨.inr ⟨_,fO⟩, ?_⟩
 obtain⟨⟨x,dz⟩,aU⟩:∃ q:aL × Bool,kJ (aL.mk a.aJ a.aR) aQ=q:=⟨_,rfl⟩
 obtain⟨l6,fQ,ky,fT,kz⟩:=Iu fO
 refine qd 8 rfl (IP O2 rfl (nS _ _ (aL.mk a.aJ a.aR) aQ x dz fQ aU) ?_)
 rintro _ kC ⟨rfl,dB⟩
 have bI:=fT _ _ dB
 refine⟨.inr ⟨_,bI⟩, ?_⟩
 refine qv 9 rfl rfl (qk (.agg (aL.cells x).toArray) 10 rfl (qk (.bool dz) 11 rfl ?_))
 have fU:=bI.pf [2]
 refine qe 13 rfl (Do.store (vs:=(aL.cells x)) (o:=0) fU rfl rfl M9 rfl rfl rfl rfl ?_)
 intro kD fV
 have P:=fV.pb [0]
 refine⟨.inr ⟨_,P⟩, ?_⟩
 refine qa 14 rfl rfl (qn (Iq (sr (Mn rfl ?_))))
 rcases Ls (dz) with ag | ag
 refine jT ag (Il (Mz rfl (Kz (vP g 0) (Lz (vI a.av) P 0 C2 (Kz (vP fM 0) (Lz (.string ⟨v6 x.aJ⟩) P 2 C0 (Kz (vP fM 1) (Lz (.string ⟨v6 x.aR⟩) P 2 C0 (Kz (vP g 5) (Lz (vI a.aV) P 0 C2 (Kz (.agg #[vI a.av, .string ⟨v6 ([])⟩, .string ⟨v6 ([])⟩, .string ⟨v6 x.aJ⟩, .string ⟨v6 x.aR⟩,vI a.aV]) ?_)))))))))))
 refine jV [vI a.av, .string ⟨v6 ([])⟩, .string ⟨v6 ([])⟩, .string ⟨v6 x.aJ⟩, .string ⟨v6 x.aR⟩,vI a.aV] 72 6 1 P ?_
 intro fZ kE aV
 replace aV:=IX (y:=row fZ 1 1 (q4 aN.cells ([(aN.mk a.av ([]) ([]) x.aJ x.aR a.aV)])) 72 6) rfl aV
 have bK:=aV.pf [2]
 refine WL.do rfl (IW (k:=f.length) (m:=1) (mG) bK rfl rfl (gN F2 (bK.rds (i:=1) rfl) (dX aN.one ([(aN.mk a.av ([]) ([]) x.aJ x.aR a.aV)]))) rfl e6 (s:=s0 (f++ [(aN.mk a.av ([]) ([]) x.aJ x.aR a.aV)])) f7 (r5).symm ?_)
 intro gm gp kF gq
 have jD:s0 (f++ [(aN.mk a.av ([]) ([]) x.aJ x.aR a.aV)])=f.length+1:=by simp only [o2,s1,E7]
 refine Az rfl (C4 (bN (Iq (Il (fw (vJ (c+1)) (Ir (e:=C3.wrap (((c:Nat):Int)+1)) yk f0) (Mz rfl (C4 ?_)))))))
 have gu:=gq.pk [2,0]
 exact II (gm,gp,(f++ [(aN.mk a.av ([]) ([]) x.aJ x.aR a.aV)]),c+1) ⟨rfl,rfl,rfl,rfl,rfl,rfl,rfl,trivial⟩ (E.2 ⟨gu,e6,e6,et (G) (et (congrArg (fun q=>dW l0 p a q f c) O) (et (ip Y) (et (ae af) (et (ae aU) (ip ag)))))⟩) (by show l0.length - (c+1) < l0.length - c; omega)
 refine jF ag (IU (bN (Iq (Il (fw (vJ (c+1)) (Ir (e:=C3.wrap (((c:Nat):Int)+1)) yk f0) (Mz rfl (C4 ?_)))))))
 have gy:=P.pk [0,1]
 exact II (Z,aa,f,c+1) ⟨rfl,rfl,rfl,rfl,rfl,rfl,rfl,trivial⟩ (E.2 ⟨gy,e6,e6,et (G) (et (congrArg (fun q=>dW l0 p a q f c) O) (et (ip Y) (et (ae af) (et (ae aU) (fP ag)))))⟩) (by show l0.length - (c+1) < l0.length - c; omega)
 refine GY.do 12 rfl e7 (Jb (cs:= [.string ⟨v6 ([])⟩, .string ⟨v6 ([])⟩]) (t:=38) fq rfl rfl (fun _=>by kernel_rfl) ?_)
 intro bL kG gz
 have bM:=gz.pb [0]
 refine⟨.inr ⟨_,bM⟩, ?_⟩
 obtain⟨aW,ax⟩:∃ q,kv l0 ((c:Nat):Int)=q:=⟨_,rfl⟩
 obtain⟨kH,dC,dD,dE,jE⟩:=Iu bM
 refine qd 7 rfl (IP O1 rfl (oF _ _ M l0.length c0 l0 ((c:Nat):Int) aW dC (dD _ C) rfl e6 e6 ax) ?_)
 rintro _ kI ⟨rfl,dG⟩
 have bO:=dE _ _ dG
 refine⟨.inr ⟨_,bO⟩, ?_⟩
 obtain⟨⟨h,aX⟩,ay⟩:∃ q:aL × Bool,kJ (aL.mk a.aJ a.aR) aW=q:=⟨_,rfl⟩
 obtain⟨kK,dH,jG,dI,jH⟩:=Iu bO
 refine qd 8 rfl (IP O2 rfl (nS _ _ (aL.mk a.aJ a.aR) aW h aX dH ay) ?_)
 rintro _ kL ⟨rfl,dJ⟩
 have bP:=dI _ _ dJ
 refine⟨.inr ⟨_,bP⟩, ?_⟩
 refine qv 9 rfl rfl (qk (.agg (aL.cells h).toArray) 10 rfl (qk (.bool aX) 11 rfl ?_))
 have gB:=bP.pf [2]
 refine qe 13 rfl (Do.store (vs:=(aL.cells h)) (o:=0) gB rfl rfl M9 rfl rfl rfl rfl ?_)
 intro kM gD
 have Q:=gD.pb [0]
 refine⟨.inr ⟨_,Q⟩, ?_⟩
 refine qa 14 rfl rfl (qn (Iq (sr (Mn rfl ?_))))
 rcases Ls (aX) with ah | ah
 refine jT ah (Il (Mz rfl (Kz (vP g 0) (Lz (vI a.av) Q 0 C2 (Kz (vP bL 0) (Lz (.string ⟨v6 h.aJ⟩) Q 2 C0 (Kz (vP bL 1) (Lz (.string ⟨v6 h.aR⟩) Q 2 C0 (Kz (vP g 5) (Lz (vI a.aV) Q 0 C2 (Kz (.agg #[vI a.av, .string ⟨v6 ([])⟩, .string ⟨v6 ([])⟩, .string ⟨v6 h.aJ⟩, .string ⟨v6 h.aR⟩,vI a.aV]) ?_)))))))))))
 refine jV [vI a.av, .string ⟨v6 ([])⟩, .string ⟨v6 ([])⟩, .string ⟨v6 h.aJ⟩, .string ⟨v6 h.aR⟩,vI a.aV] 72 6 1 Q ?_
 intro gF kN aZ
 replace aZ:=IX (y:=row gF 1 1 (q4 aN.cells ([(aN.mk a.av ([]) ([]) h.aJ h.aR a.aV)])) 72 6) rfl aZ
 have bQ:=aZ.pf [2]
 refine WL.do rfl (IW (k:=f.length) (m:=1) (mG) bQ rfl rfl (gN F2 (bQ.rds (i:=1) rfl) (dX aN.one ([(aN.mk a.av ([]) ([]) h.aJ h.aR a.aV)]))) rfl e6 (s:=s0 (f++ [(aN.mk a.av ([]) ([]) h.aJ h.aR a.aV)])) f7 (r5).symm ?_)
 intro gG gH kP gI
 have jI:s0 (f++ [(aN.mk a.av ([]) ([]) h.aJ h.aR a.aV)])=f.length+1:=by simp only [o2,s1,E7]
 refine Az rfl (C4 (bN (Iq (Il (fw (vJ (c+1)) (Ir (e:=C3.wrap (((c:Nat):Int)+1)) yk f0) (Mz rfl (C4 ?_)))))))
 have gJ:=gI.pk [2,0]
 exact II (gG,gH,(f++ [(aN.mk a.av ([]) ([]) h.aJ h.aR a.aV)]),c+1) ⟨rfl,rfl,rfl,rfl,rfl,rfl,rfl,trivial⟩ (E.2 ⟨gJ,e6,e6,et (G) (et (congrArg (fun q=>dW l0 p a q f c) O) (et (ip Y) (et (ae ax) (et (ae ay) (ip ah)))))⟩) (by show l0.length - (c+1) < l0.length - c; omega)
 refine jF ah (IU (bN (Iq (Il (fw (vJ (c+1)) (Ir (e:=C3.wrap (((c:Nat):Int)+1)) yk f0) (Mz rfl (C4 ?_)))))))
 have gK:=Q.pk [0,1]
 exact II (Z,aa,f,c+1) ⟨rfl,rfl,rfl,rfl,rfl,rfl,rfl,trivial⟩ (E.2 ⟨gK,e6,e6,et (G) (et (congrArg (fun q=>dW l0 p a q f c) O) (et (ip Y) (et (ae ax) (et (ae ay) (fP ah)))))⟩) (by show l0.length - (c+1) < l0.length - c; omega)
 refine jT (dT Y) (C5 (IC (IK (Iq (Il (fw (vJ (c+1)) (Ir (e:=C3.wrap (((c:Nat):Int)+1)) yk f0) (Mz rfl (C4 ?_))))))))
 have gL:=aO.pf []
 exact II (Z,aa,f,c+1) ⟨rfl,rfl,rfl,rfl,rfl,rfl,rfl,trivial⟩ (E.2 ⟨gL,e6,e6,et (G) (et (congrArg (fun q=>dW l0 p a q f c) O) (iN Y))⟩) (by show l0.length - (c+1) < l0.length - c; omega)
 refine jF (dF fo) (C5 (IC ?_))
 have dK:dW l0 p a l0 ([]) 0=f:=et (G) (et (congrArg (fun q=>dW l0 p a q f c) (dZ (ls:=l0) (i:=c) e6)) rfl)
 refine IC (IK (Iq (Ik ?_)))
 have gM:=aO.pk [1]
 refine Il (Mz rfl (An rfl (rt (rs ?_))))
 have gP:=gM.pf []
 obtain rfl:_=f:=hr.symm.trans (et (ip N) (ae dK))
 exact⟨Z,aa,rfl,gP,i5⟩
 refine Gz (vP g 0) (dT N) (Gl (vI a.av) (dT N) aK 0 C2 (gw (.bool (decide (¬ (a.av=5)))) (dT N) (IM (e:= !(decide (a.av=5))) yk decide_not.symm) (fw (.bool (decide (¬ (a.av=5)))) (Iw rfl (dT N) rfl) (nt ?_))))
 by_cases aF:a.av=5
 refine jF (dF (Lr aF)) (sk (Ik (sr (Mz rfl (Kz (vJ l0.length) (Mn rfl (bo ?_)))))))
 have gQ:Own w D eZ [row none 0 0 (q4 aN.cells ([])) 72 6,blk g (aN.cells a) 72]:=aK.free (eP 72 6)
 have gT:=gQ.pb [0]
 obtain⟨gU,z⟩:=tq fun I (J:Nat) d (b:Nat) w'=>Own w D w' [blk g (aN.cells a) 72,row I d.length J (q4 aN.cells d) 72 6]∧b≤l0.length∧d.length≤b∧fH l0 p a l0 ([]) 0=fH l0 p a (r4 b l0) d b
 refine C1 (fun i:(Option Addr) × Nat × (List aN) × Nat=> [(7, .slice i.1 i.2.2.1.length i.2.1),(36,vJ i.2.2.2),(35,vJ l0.length),(6, .slice none 0 0),(5,vP g 0),(0, .slice M l0.length c0),(1,vI p)]) gU (fun i=>l0.length - i.2.2.2) (none,0, [],0) ⟨rfl,rfl,rfl,rfl,rfl,rfl,rfl,trivial⟩ (z.2 ⟨gT,(show 0≤l0.length∧0≤0∧fH l0 p a l0 ([]) 0=fH l0 p a (r4 0 l0) ([]) 0 from ⟨e6,e6,rfl⟩)⟩) ?_
 rintro ⟨I,J,d,b⟩ kQ dL
 obtain⟨V,jJ,jK,A⟩:=z.1 dL
 refine sr (Kz (.bool (decide (((b:Nat):Int) < ((l0.length:Nat):Int)))) (nt (Ik ?_)))
 by_cases bR:((b:Nat):Int) < ((l0.length:Nat):Int)
 obtain⟨aG,bf⟩:=dh (ls:=l0) (i:=b) aM.len f2 (V.ro C) e9
 have B:=drop_at bf
 refine jT (dT bR) (sk (Ik (bo (sr (Mz rfl (An rfl (Ik (sr (Mz rfl (Mz rfl (fw (.pointer (some ⟨ab M,ao M+b *2,none⟩)) (Iz (nE) rfl rfl ((V.ro C).addr (i:=b) e6) e6) (Kz (.pointer (some ⟨ab M,ao M+b *2+1,none⟩)) (fw (vI aG.bE) (IB rfl (bJ.one C2 (((V.ro C).elem aM.len bf f2).at_ (k:=1) rfl))) (Mz rfl (fw (.bool (decide (¬ (aG.bE=p)))) (IM (e:= !(decide (aG.bE=p))) yk decide_not.symm) (nt ?_))))))))))))))))
 by_cases F:aG.bE=p
 refine jF (dF (Lr F)) (sk (Ik ?_))
 refine pM [] (IE (bv.block (IE (IE (bv.block (IE IQ)))))) V ?_
 intro kR bS
 refine qp g 3 0 rfl (ql 1 rfl 0 C0 rfl rfl rfl (qp g 4 2 rfl (ql 3 rfl 0 C0 rfl rfl rfl (qk (.agg #[.string ⟨v6 a.aJ⟩, .string ⟨v6 a.aR⟩]) 4 rfl (qv 5 rfl rfl (qv 6 rfl rfl ?_))))))
 refine Jy 7 12 e7 ?_ ?_
 obtain⟨ai,R⟩:∃ q,kv l0 ((b:Nat):Int)=q:=⟨_,rfl⟩
 obtain⟨kS,dM,dN,dO,jL⟩:=Iu bS
 refine GY.do 7 rfl e7 (IP O1 rfl (oF _ _ M l0.length c0 l0 ((b:Nat):Int) ai dM (dN _ C) rfl e6 e6 R) ?_)
 rintro _ kT ⟨rfl,dP⟩
 have bg:=dO _ _ dP
 refine⟨.inr ⟨_,bg⟩, ?_⟩
 refine Jy 8 12 e7 ?_ ?_
 obtain⟨⟨j,bi⟩,az⟩:∃ q:aL × Bool,kJ (aL.mk a.aJ a.aR) ai=q:=⟨_,rfl⟩
 obtain⟨kU,dQ,jM,dR,jN⟩:=Iu bg
 refine GY.do 8 rfl e7 (IP O2 rfl (nS _ _ (aL.mk a.aJ a.aR) ai j bi dQ az) ?_)
 rintro _ kV ⟨rfl,dS⟩
 have bT:=dR _ _ dS
 refine⟨.inr ⟨_,bT⟩, ?_⟩
 refine qv 9 rfl rfl (qk (.agg (aL.cells j).toArray) 10 rfl (qk (.bool bi) 11 rfl ?_))
 refine qd 12 rfl (Jb (cs:= [.string ⟨v6 ([])⟩, .string ⟨v6 ([])⟩]) (t:=38) bT rfl rfl (fun _=>by kernel_rfl) ?_)
 intro bU kW gV
 have bV:=gV.pb [0]
 refine⟨.inr ⟨_,bV⟩, ?_⟩
 have gW:=bV.pf [2]
 refine qe 13 rfl (Do.store (vs:=(aL.cells j)) (o:=0) gW rfl rfl M9 rfl rfl rfl rfl ?_)
 intro kX gX
 have S:=gX.pb [0]
 refine⟨.inr ⟨_,S⟩, ?_⟩
 refine qa 14 rfl rfl (qn (Iq (sr (Mn rfl ?_))))
 rcases Ls (bi) with aj | aj
 refine jT aj (Il (Mz rfl (Kz (vP g 0) (Lz (vI a.av) S 0 C2 (Kz (vP bU 0) (Lz (.string ⟨v6 j.aJ⟩) S 2 C0 (Kz (vP bU 1) (Lz (.string ⟨v6 j.aR⟩) S 2 C0 (Kz (vP g 5) (Lz (vI a.aV) S 0 C2 (Kz (.agg #[vI a.av, .string ⟨v6 ([])⟩, .string ⟨v6 ([])⟩, .string ⟨v6 j.aJ⟩, .string ⟨v6 j.aR⟩,vI a.aV]) ?_)))))))))))
 refine jV [vI a.av, .string ⟨v6 ([])⟩, .string ⟨v6 ([])⟩, .string ⟨v6 j.aJ⟩, .string ⟨v6 j.aR⟩,vI a.aV] 72 6 1 S ?_
 intro gY kY bn
 replace bn:=IX (y:=row gY 1 1 (q4 aN.cells ([(aN.mk a.av ([]) ([]) j.aJ j.aR a.aV)])) 72 6) rfl bn
 have bW:=bn.pf [2]
 refine WL.do rfl (IW (k:=d.length) (m:=1) (mG) bW rfl rfl (gN F2 (bW.rds (i:=1) rfl) (dX aN.one ([(aN.mk a.av ([]) ([]) j.aJ j.aR a.aV)]))) rfl e6 (s:=s0 (d++ [(aN.mk a.av ([]) ([]) j.aJ j.aR a.aV)])) f7 (r5).symm ?_)
 intro gZ ib kZ ic
 have jO:s0 (d++ [(aN.mk a.av ([]) ([]) j.aJ j.aR a.aV)])=d.length+1:=by simp only [o2,s1,E7]
 refine Az rfl (C4 (bN (Iq (Il (fw (vJ (b+1)) (Ir (e:=C3.wrap (((b:Nat):Int)+1)) yk f0) (Mz rfl (C4 ?_)))))))
 have ig:=ic.pk [2,0]
 exact II (gZ,ib,(d++ [(aN.mk a.av ([]) ([]) j.aJ j.aR a.aV)]),b+1) ⟨rfl,rfl,rfl,rfl,rfl,rfl,rfl,trivial⟩ (z.2 ⟨ig,e6,e6,et (A) (et (congrArg (fun q=>fH l0 p a q d b) B) (et (ip F) (et (ae R) (et (ae az) (ip aj)))))⟩) (by show l0.length - (b+1) < l0.length - b; omega)
 refine jF aj (IU (bN (Iq (Il (fw (vJ (b+1)) (Ir (e:=C3.wrap (((b:Nat):Int)+1)) yk f0) (Mz rfl (C4 ?_)))))))
 have ik:=S.pk [0,1]
 exact II (I,J,d,b+1) ⟨rfl,rfl,rfl,rfl,rfl,rfl,rfl,trivial⟩ (z.2 ⟨ik,e6,e6,et (A) (et (congrArg (fun q=>fH l0 p a q d b) B) (et (ip F) (et (ae R) (et (ae az) (fP aj)))))⟩) (by show l0.length - (b+1) < l0.length - b; omega)
 refine GY.do 12 rfl e7 (Jb (cs:= [.string ⟨v6 ([])⟩, .string ⟨v6 ([])⟩]) (t:=38) bg rfl rfl (fun _=>by kernel_rfl) ?_)
 intro bX lc il
 have bY:=il.pb [0]
 refine⟨.inr ⟨_,bY⟩, ?_⟩
 obtain⟨⟨l,bq⟩,aA⟩:∃ q:aL × Bool,kJ (aL.mk a.aJ a.aR) ai=q:=⟨_,rfl⟩
 obtain⟨lg,dU,jP,dV,jQ⟩:=Iu bY
 refine qd 8 rfl (IP O2 rfl (nS _ _ (aL.mk a.aJ a.aR) ai l bq dU aA) ?_)
 rintro _ lh ⟨rfl,dY⟩
 have bZ:=dV _ _ dY
 refine⟨.inr ⟨_,bZ⟩, ?_⟩
 refine qv 9 rfl rfl (qk (.agg (aL.cells l).toArray) 10 rfl (qk (.bool bq) 11 rfl ?_))
 have iq:=bZ.pf [2]
 refine qe 13 rfl (Do.store (vs:=(aL.cells l)) (o:=0) iq rfl rfl M9 rfl rfl rfl rfl ?_)
 intro ll iw
 have T:=iw.pb [0]
 refine⟨.inr ⟨_,T⟩, ?_⟩
 refine qa 14 rfl rfl (qn (Iq (sr (Mn rfl ?_))))
 rcases Ls (bq) with ak | ak
 refine jT ak (Il (Mz rfl (Kz (vP g 0) (Lz (vI a.av) T 0 C2 (Kz (vP bX 0) (Lz (.string ⟨v6 l.aJ⟩) T 2 C0 (Kz (vP bX 1) (Lz (.string ⟨v6 l.aR⟩) T 2 C0 (Kz (vP g 5) (Lz (vI a.aV) T 0 C2 (Kz (.agg #[vI a.av, .string ⟨v6 ([])⟩, .string ⟨v6 ([])⟩, .string ⟨v6 l.aJ⟩, .string ⟨v6 l.aR⟩,vI a.aV]) ?_)))))))))))
 refine jV [vI a.av, .string ⟨v6 ([])⟩, .string ⟨v6 ([])⟩, .string ⟨v6 l.aJ⟩, .string ⟨v6 l.aR⟩,vI a.aV] 72 6 1 T ?_
 intro iy lm bu
 replace bu:=IX (y:=row iy 1 1 (q4 aN.cells ([(aN.mk a.av ([]) ([]) l.aJ l.aR a.aV)])) 72 6) rfl bu
 have cu:=bu.pf [2]
 refine WL.do rfl (IW (k:=d.length) (m:=1) (mG) cu rfl rfl (gN F2 (cu.rds (i:=1) rfl) (dX aN.one ([(aN.mk a.av ([]) ([]) l.aJ l.aR a.aV)]))) rfl e6 (s:=s0 (d++ [(aN.mk a.av ([]) ([]) l.aJ l.aR a.aV)])) f7 (r5).symm ?_)
 intro iA iB lq iC
 have jR:s0 (d++ [(aN.mk a.av ([]) ([]) l.aJ l.aR a.aV)])=d.length+1:=by simp only [o2,s1,E7]
 refine Az rfl (C4 (bN (Iq (Il (fw (vJ (b+1)) (Ir (e:=C3.wrap (((b:Nat):Int)+1)) yk f0) (Mz rfl (C4 ?_)))))))
 have iD:=iC.pk [2,0]
 exact II (iA,iB,(d++ [(aN.mk a.av ([]) ([]) l.aJ l.aR a.aV)]),b+1) ⟨rfl,rfl,rfl,rfl,rfl,rfl,rfl,trivial⟩ (z.2 ⟨iD,e6,e6,et (A) (et (congrArg (fun q=>fH l0 p a q d b) B) (et (ip F) (et (ae R) (et (ae aA) (ip ak)))))⟩) (by show l0.length - (b+1) < l0.length - b; omega)
 refine jF ak (IU (bN (Iq (Il (fw (vJ (b+1)) (Ir (e:=C3.wrap (((b:Nat):Int)+1)) yk f0) (Mz rfl (C4 ?_)))))))
 have iE:=T.pk [0,1]
 exact II (I,J,d,b+1) ⟨rfl,rfl,rfl,rfl,rfl,rfl,rfl,trivial⟩ (z.2 ⟨iE,e6,e6,et (A) (et (congrArg (fun q=>fH l0 p a q d b) B) (et (ip F) (et (ae R) (et (ae aA) (fP ak)))))⟩) (by show l0.length - (b+1) < l0.length - b; omega)
 refine GY.do 12 rfl e7 (Jb (cs:= [.string ⟨v6 ([])⟩, .string ⟨v6 ([])⟩]) (t:=38) bS rfl rfl (fun _=>by kernel_rfl) ?_)
 intro cz lu iF
 have cB:=iF.pb [0]
 refine⟨.inr ⟨_,cB⟩, ?_⟩
 obtain⟨bz,aB⟩:∃ q,kv l0 ((b:Nat):Int)=q:=⟨_,rfl⟩
 obtain⟨lv,d9,ed,ek,jS⟩:=Iu cB
 refine qd 7 rfl (IP O1 rfl (oF _ _ M l0.length c0 l0 ((b:Nat):Int) bz d9 (ed _ C) rfl e6 e6 aB) ?_)
 rintro _ lw ⟨rfl,eu⟩
 have cK:=ek _ _ eu
 refine⟨.inr ⟨_,cK⟩, ?_⟩
 obtain⟨⟨n,bA⟩,aC⟩:∃ q:aL × Bool,kJ (aL.mk a.aJ a.aR) bz=q:=⟨_,rfl⟩
 obtain⟨lC,eB,jU,eD,jW⟩:=Iu cK
 refine qd 8 rfl (IP O2 rfl (nS _ _ (aL.mk a.aJ a.aR) bz n bA eB aC) ?_)
 rintro _ lD ⟨rfl,eF⟩
 have cO:=eD _ _ eF
 refine⟨.inr ⟨_,cO⟩, ?_⟩
 refine qv 9 rfl rfl (qk (.agg (aL.cells n).toArray) 10 rfl (qk (.bool bA) 11 rfl ?_))
 have iG:=cO.pf [2]
 refine qe 13 rfl (Do.store (vs:=(aL.cells n)) (o:=0) iG rfl rfl M9 rfl rfl rfl rfl ?_)
 intro lF iH
 have U:=iH.pb [0]
 refine⟨.inr ⟨_,U⟩, ?_⟩
 refine qa 14 rfl rfl (qn (Iq (sr (Mn rfl ?_))))
 rcases Ls (bA) with au | au
 refine jT au (Il (Mz rfl (Kz (vP g 0) (Lz (vI a.av) U 0 C2 (Kz (vP cz 0) (Lz (.string ⟨v6 n.aJ⟩) U 2 C0 (Kz (vP cz 1) (Lz (.string ⟨v6 n.aR⟩) U 2 C0 (Kz (vP g 5) (Lz (vI a.aV) U 0 C2 (Kz (.agg #[vI a.av, .string ⟨v6 ([])⟩, .string ⟨v6 ([])⟩, .string ⟨v6 n.aJ⟩, .string ⟨v6 n.aR⟩,vI a.aV]) ?_)))))))))))
 refine jV [vI a.av, .string ⟨v6 ([])⟩, .string ⟨v6 ([])⟩, .string ⟨v6 n.aJ⟩, .string ⟨v6 n.aR⟩,vI a.aV] 72 6 1 U ?_
 intro iI lG bB
 replace bB:=IX (y:=row iI 1 1 (q4 aN.cells ([(aN.mk a.av ([]) ([]) n.aJ n.aR a.aV)])) 72 6) rfl bB
 have cZ:=bB.pf [2]
 refine WL.do rfl (IW (k:=d.length) (m:=1) (mG) cZ rfl rfl (gN F2 (cZ.rds (i:=1) rfl) (dX aN.one ([(aN.mk a.av ([]) ([]) n.aJ n.aR a.aV)]))) rfl e6 (s:=s0 (d++ [(aN.mk a.av ([]) ([]) n.aJ n.aR a.aV)])) f7 (r5).symm ?_)
 intro iJ iK lH iL
 have jX:s0 (d++ [(aN.mk a.av ([]) ([]) n.aJ n.aR a.aV)])=d.length+1:=by simp only [o2,s1,E7]
 refine Az rfl (C4 (bN (Iq (Il (fw (vJ (b+1)) (Ir (e:=C3.wrap (((b:Nat):Int)+1)) yk f0) (Mz rfl (C4 ?_)))))))
 have iM:=iL.pk [2,0]
 exact II (iJ,iK,(d++ [(aN.mk a.av ([]) ([]) n.aJ n.aR a.aV)]),b+1) ⟨rfl,rfl,rfl,rfl,rfl,rfl,rfl,trivial⟩ (z.2 ⟨iM,e6,e6,et (A) (et (congrArg (fun q=>fH l0 p a q d b) B) (et (ip F) (et (ae aB) (et (ae aC) (ip au)))))⟩) (by show l0.length - (b+1) < l0.length - b; omega)
 refine jF au (IU (bN (Iq (Il (fw (vJ (b+1)) (Ir (e:=C3.wrap (((b:Nat):Int)+1)) yk f0) (Mz rfl (C4 ?_)))))))
 have iO:=U.pk [0,1]
 exact II (I,J,d,b+1) ⟨rfl,rfl,rfl,rfl,rfl,rfl,rfl,trivial⟩ (z.2 ⟨iO,e6,e6,et (A) (et (congrArg (fun q=>fH l0 p a q d b) B) (et (ip F) (et (ae aB) (et (ae aC) (fP au)))))⟩) (by show l0.length - (b+1) < l0.length - b; omega)
 refine jT (dT F) (C5 (IC (IK (Iq (Il (fw (vJ (b+1)) (Ir (e:=C3.wrap (((b:Nat):Int)+1)) yk f0) (Mz rfl (C4 ?_))))))))
 have iP:=V.pf []
 exact II (I,J,d,b+1) ⟨rfl,rfl,rfl,rfl,rfl,rfl,rfl,trivial⟩ (z.2 ⟨iP,e6,e6,et (A) (et (congrArg (fun q=>fH l0 p a q d b) B) (iN F))⟩) (by show l0.length - (b+1) < l0.length - b; omega)
 refine jF (dF bR) (C5 (IC ?_))
 have eG:fH l0 p a l0 ([]) 0=d:=et (A) (et (congrArg (fun q=>fH l0 p a q d b) (dZ (ls:=l0) (i:=b) e6)) rfl)
 refine IC (IK (Iq (Ik ?_)))
 have iQ:=V.pk [1]
 refine Il (Mz rfl (An rfl (rt (rs ?_))))
 have iR:=iQ.pf []
 obtain rfl:_=d:=hr.symm.trans (et (iN N) (et (ip aF) (ae eG)))
 exact⟨I,J,rfl,iR,i5⟩
 refine jT (dT aF) (Ik (sr (Mz rfl (Mz rfl (Kz (vP g 1) (Lz (.string ⟨v6 a.aZ⟩) aK 0 C0 ?_))))))
 obtain⟨K,bC⟩:∃ q,qc l0 a.aZ=q:=⟨_,rfl⟩
 obtain⟨lI,eH,eO,eQ,jY⟩:=Iu aK
 refine cl Tryz.call162 (yK _ _ M l0.length c0 l0 a.aZ K eH (eO _ C) rfl e6 i5 bC) ?_
 rintro _ iT ⟨rfl,eT,bD⟩
 have W:=eQ _ _ eT
 replace bD:0≤K∧K < ((l0.length:Nat):Int):=bD
 obtain⟨X,bE⟩:=dh (ls:=l0) (i:=C6 K) aM.len f2 (W.ro C) e9
 refine fw (.pointer (some ⟨ab M,ao M+(C6 K) *2,none⟩)) (Iz (nE) rfl (FH (r:=K) rfl e6) ((W.ro C).addr (i:=C6 K) e6) e6) (Kz (.pointer (some ⟨ab M,ao M+(C6 K) *2+1,none⟩)) (fw (vI X.bE) (IB rfl (bJ.one C2 (((W.ro C).elem aM.len bE f2).at_ (k:=1) rfl))) (Mz rfl (Kz (.bool (decide (X.bE=p))) (nt ?_)))))
 obtain⟨iU,aD⟩:=rJ fun aH (aI:Nat) L w'=>Own w D w' [blk g (aN.cells a) 72,row aH L.length aI (q4 aN.cells L) 72 6]∧0≤L.length∧L.length≤1∧(if X.bE=p then [a] else [])=L
 refine Jg (fun i:(Option Addr) × Nat × (List aN)=> [(7, .slice i.1 i.2.2.length i.2.1),(6, .slice none 0 0),(5,vP g 0),(0, .slice M l0.length c0),(1,vI p)]) iU ?_ ?_
 by_cases aJ:X.bE=p
 refine jT (dT aJ) (Il (Mz rfl (La (aN.cells a) W 0 Tryz.isAgg72 Tryz.sizeOf72 ?_)))
 refine jV (aN.cells a) 72 6 1 W ?_
 intro df iV bF
 replace bF:=IX (y:=row df 1 1 (q4 aN.cells ([a])) 72 6) rfl bF
 have di:Own w D iV [row none 0 0 (q4 aN.cells ([])) 72 6,row df 1 1 (q4 aN.cells ([a])) 72 6,blk g (aN.cells a) 72]:=bF.free (eP 72 6)
 refine WL.do rfl (IW (k:=0) (m:=1) (mG) di rfl rfl (gN F2 (di.rds (i:=1) rfl) (dX aN.one ([a]))) rfl e6 (s:=1) e6 rfl ?_)
 intro iW iX lJ iY
 refine Az rfl (C4 ?_)
 have iZ:=iY.pk [2,0]
 exact I8 (iW,iX, [a]) ⟨rfl,rfl,rfl,rfl,rfl,trivial⟩ (aD.2 ⟨iZ,(show 0≤s0 ([a])∧s0 ([a])≤1∧(if X.bE=p then [a] else [])=([a]) from ⟨e6,by first | omega | exact Nat.le_refl _ | exact Lp _,ip aJ⟩)⟩)
 refine jF (dF aJ) (IU ?_)
 have ja:Own w D iT [row none 0 0 (q4 aN.cells ([])) 72 6,blk g (aN.cells a) 72]:=W.free (eP 72 6)
 have jb:=ja.pb [0]
 exact I8 (none,0, []) ⟨rfl,rfl,rfl,rfl,rfl,trivial⟩ (aD.2 ⟨jb,(show 0≤s0 ([])∧0≤1∧(if X.bE=p then [a] else [])=([]) from ⟨e6,by first | omega | exact Nat.le_refl _ | exact Lp _,iN aJ⟩)⟩)
 rintro ⟨aH,aI,L⟩ lK eU
 obtain⟨jc,jZ,j3,eX⟩:=aD.1 eU
 refine sr (Mz rfl (An rfl (rt (tR (rs ?_)))))
 have jd:=jc.pk [1]
 obtain rfl:_=L:=hr.symm.trans (et (iN N) (et (iN aF) (et (ae bC) (et (ae (aT bE)) (ae eX)))))
 exact⟨aH,aI,rfl,jd,i5⟩
def qM (a:Nat):Nat × Nat:=
 (((0 *(a / 4294967296))+(((0 *(a % 4294967296))+((1 *(a % 4294967296)) / 4294967296)) / 4294967296))+(((((0 *(a % 4294967296))+((1 *(a % 4294967296)) / 4294967296)) % 4294967296)+(1 *(a / 4294967296))) / 4294967296),1 *a)
theorem vY (w D g a b c) (H:Own w D w []) (d:g=1) (h:a≤9223372036854775807) (hr:qM a=(b,c)):
    Calls v5 190 #[.int .u64 g,vU a] w (dA fun v w'=>v= .tuple #[vU b,vU c]∧Own w D w' []∧(b=0∧c=a)):=by
 subst d
 refine cb Tryz.func190 ?_
 refine sr (Az rfl (Ar rfl (Mz rfl (Kz (.int .u64 1) (Ar rfl (Mz rfl (Kz (.int .u64 0) (Ar rfl (Mz rfl (fw (vU (a % 4294967296)) (Ir (e:=C7.wrap (((BitVec.ofInt 64 ((a:Nat):Int) &&& BitVec.ofInt 64 4294967295).toNat:Nat):Int)) yk (zV _ 32 f2 _ f2)) (Ar rfl (Mz rfl (fw (vU (a / 4294967296)) (Ir (e:=K1 ((a:Nat):Int) 4294967296) yk (ny _ 32 _ f2)) (Ar rfl (Mz rfl (Mz rfl (fw (vU (1 *(a % 4294967296))) (Ir (e:=C7.wrap (1 *((a % 4294967296:Nat):Int))) yk g7) (Az rfl ?_))))))))))))))))))
 refine ns (Mz rfl (Mz rfl (fw (vU (0 *(a % 4294967296))) (Ir (e:=C7.wrap (0 *((a % 4294967296:Nat):Int))) yk g7) (Mz rfl (fw (.int .u64 (((1 *(a % 4294967296)) / 4294967296:Nat):Int)) (Ir (e:=K1 ((1 *(a % 4294967296):Nat):Int) 4294967296) yk (ny _ 32 _ f2)) (fw (.int .u64 (((0 *(a % 4294967296))+((1 *(a % 4294967296)) / 4294967296):Nat):Int)) (Ir (e:=C7.wrap (((0 *(a % 4294967296):Nat):Int)+(((1 *(a % 4294967296)) / 4294967296:Nat):Int))) yk g7) (Ar rfl (Mz rfl (fw (.int .u64 ((((0 *(a % 4294967296))+((1 *(a % 4294967296)) / 4294967296)) % 4294967296:Nat):Int)) (Ir (e:=C7.wrap (((BitVec.ofInt 64 (((0 *(a % 4294967296))+((1 *(a % 4294967296)) / 4294967296):Nat):Int) &&& BitVec.ofInt 64 4294967295).toNat:Nat):Int)) yk (zV _ 32 f2 _ f2)) (Ar rfl (Mz rfl (fw (.int .u64 ((((0 *(a % 4294967296))+((1 *(a % 4294967296)) / 4294967296)) / 4294967296:Nat):Int)) (Ir (e:=K1 (((0 *(a % 4294967296))+((1 *(a % 4294967296)) / 4294967296):Nat):Int) 4294967296) yk (ny _ 32 _ f2)) (Ar rfl (Mz rfl (Mz rfl (Mz rfl (fw (vU (1 *(a / 4294967296))) (Ir (e:=C7.wrap (1 *((a / 4294967296:Nat):Int))) yk g7) (fw (.int .u64 (((((0 *(a % 4294967296))+((1 *(a % 4294967296)) / 4294967296)) % 4294967296)+(1 *(a / 4294967296)):Nat):Int)) (Ir (e:=C7.wrap (((((0 *(a % 4294967296))+((1 *(a % 4294967296)) / 4294967296)) % 4294967296:Nat):Int)+((1 *(a / 4294967296):Nat):Int))) yk g7) (Ar rfl (Mz rfl ?_))))))))))))))))))))
 refine Mz rfl (fw (vU (0 *(a / 4294967296))) (Ir (e:=C7.wrap (0 *((a / 4294967296:Nat):Int))) yk g7) (Mz rfl (fw (.int .u64 (((0 *(a / 4294967296))+(((0 *(a % 4294967296))+((1 *(a % 4294967296)) / 4294967296)) / 4294967296):Nat):Int)) (Ir (e:=C7.wrap (((0 *(a / 4294967296):Nat):Int)+((((0 *(a % 4294967296))+((1 *(a % 4294967296)) / 4294967296)) / 4294967296:Nat):Int))) yk g7) (Mz rfl (fw (.int .u64 ((((((0 *(a % 4294967296))+((1 *(a % 4294967296)) / 4294967296)) % 4294967296)+(1 *(a / 4294967296))) / 4294967296:Nat):Int)) (Ir (e:=K1 (((((0 *(a % 4294967296))+((1 *(a % 4294967296)) / 4294967296)) % 4294967296)+(1 *(a / 4294967296)):Nat):Int) 4294967296) yk (ny _ 32 _ f2)) (fw (.int .u64 ((((0 *(a / 4294967296))+(((0 *(a % 4294967296))+((1 *(a % 4294967296)) / 4294967296)) / 4294967296))+(((((0 *(a % 4294967296))+((1 *(a % 4294967296)) / 4294967296)) % 4294967296)+(1 *(a / 4294967296))) / 4294967296):Nat):Int)) (Ir (e:=C7.wrap ((((0 *(a / 4294967296))+(((0 *(a % 4294967296))+((1 *(a % 4294967296)) / 4294967296)) / 4294967296):Nat):Int)+((((((0 *(a % 4294967296))+((1 *(a % 4294967296)) / 4294967296)) % 4294967296)+(1 *(a / 4294967296))) / 4294967296:Nat):Int))) yk g7) (Ar rfl (Mz rfl (Mz rfl (fw (vU (1 *a)) (Ir (e:=C7.wrap (1 *((a:Nat):Int))) yk g7) (An rfl (rt (Fin.res (lH rfl rfl rfl) ?_)))))))))))))
 have f:=H.pk []
 obtain⟨rfl,rfl⟩:=fD (hr.symm.trans (show _=(((0 *(a / 4294967296))+(((0 *(a % 4294967296))+((1 *(a % 4294967296)) / 4294967296)) / 4294967296))+(((((0 *(a % 4294967296))+((1 *(a % 4294967296)) / 4294967296)) % 4294967296)+(1 *(a / 4294967296))) / 4294967296),1 *a) from rfl))
 exact⟨rfl,f,e6⟩
def su (b:Nat):Nat × Nat:=
 bnd (qM b) fun a=>(a.1,a.2)
theorem xz (w D n e i j) (H:Own w D w []) (k:n=1) (r:e≤9223372036854775807) (hr:su e=(i,j)):
    Calls v5 164 #[.int .u64 n,vU e] w (dA fun v w'=>v= .tuple #[vU i,vU j]∧Own w D w' []∧(i=0∧j=e)):=by
 subst k
 refine cb Tryz.func164 ?_
 refine sr (Az rfl (An rfl (Ik (jf (sk (sr (Mz rfl (Mz rfl ?_))))))))
 obtain⟨⟨a,b⟩,c⟩:∃ q:Nat × Nat,qM e=q:=⟨_,rfl⟩
 obtain⟨s,f,o,g,p⟩:=Iu H
 refine cl Tryz.call190 (vY _ _ 1 e a b f rfl e6 c) ?_
 rintro _ t ⟨rfl,h,d⟩
 have l:=g _ _ h
 replace d:a=0∧b=e:=d
 refine Mz rfl (Kz (vU a) (Kz (vU b) (Az rfl (Ar rfl (Mz rfl (Mz rfl (Az rfl (An rfl (rt (Fin.res (lH rfl rfl rfl) ?_))))))))))
 have m:=l.pk []
 obtain⟨rfl,rfl⟩:=fD (hr.symm.trans (show _=(a,b) from ae c))
 exact⟨rfl,m,e6⟩
def kg (b:Nat):Nat→Nat→List Int→(List Int)
  | 0,a,c=>default
  | d+1,a,c=>if((a:Nat):Int) < ((b:Nat):Int) then kg b d (a+(min a (b - a))) (r3 a c++(r3 (min a (b - a)) (r3 a c)++r4 (a+(min a (b - a))) c)) else c
def nT (l0:List Int) (b:Int):(List Int):=
 bnd (su (C6 b)) fun a=>bnd (kg a.2 ((C6 b - (min l0.length a.2))+1) (min l0.length a.2) (r3 0 (r7 a.2 (0:Int))++(r3 (min l0.length a.2) l0++r4 (0+(min l0.length a.2)) (r7 a.2 (0:Int))))) fun sLrbL=>sLrbL
theorem tO (w D W K c0 l0 d x) (H:Own w D w []) (L:Ro w D fun w'=>aY w' 1 W K (q4 (eI .i64) l0)) (M:K=l0.length) (ax:l0.length *8≤211106232532992) (ay:l0.length=1∧0≤d∧d *8≤140737488351232) (hr:nT l0 d=x):
    Calls v5 147 #[.slice W K c0,vI d] w (dA fun v w'=> ∃ X Y,v= .slice X x.length Y∧Own w D w' [row X x.length Y (q4 (eI .i64) x) 3 1]∧(((x.length:Nat):Int)=d)):=by
 subst M
 refine cb Tryz.func147 ?_
 refine sr (An rfl (Ik (sr (Mz rfl (Kz (.bool (decide (d < 0))) (nt ?_))))))
 have y:(decide (d < 0))=false:=(dF e6)
 refine jF y (sk (sr (Mz rfl (Kz (vJ l0.length) (fw (vU l0.length) (Ir (e:=C7.wrap ((l0.length:Nat):Int)) yk (IntWalk.u64_in _ e6)) (fw (vJ (C6 d)) (Ir (e:=d) (IA rfl) e6) (fw (vU (C6 d)) (Ir (e:=C7.wrap ((C6 d:Nat):Int)) yk (IntWalk.u64_in _ e6)) ?_)))))))
 obtain⟨⟨g,a⟩,o⟩:∃ q:Nat × Nat,su (C6 d)=q:=⟨_,rfl⟩
 obtain⟨az,A,Z,B,aa⟩:=Iu H
 refine cl Tryz.call164 (xz _ _ ((l0.length:Nat):Int) (C6 d) g a A e6 e6 o) ?_
 rintro _ aA ⟨rfl,C,p⟩
 have N:=B _ _ C
 replace p:g=0∧a=(C6 d):=p
 refine Mz rfl (Kz (vU g) (Kz (vU a) (Az rfl (An rfl (Ik (sr (Mz rfl (Kz (.bool (decide (((g:Nat):Int) > 0))) (Mz rfl ?_)))))))))
 have h:(decide (((g:Nat):Int) > 0))=false:=(dF e6)
 refine I7 (v:=vU a) rfl rfl h rfl (IA rfl) (Gz (.bool (decide (((a:Nat):Int) > 9223372036854775807))) h (fw (.bool (decide (((a:Nat):Int) > 9223372036854775807))) (Io rfl h rfl) (nt ?_)))
 have E:(decide (((a:Nat):Int) > 9223372036854775807))=false:=(dF e6)
 refine jF E (sk (sr (Mz rfl (fw (vJ a) (Ir (e:=C3.wrap ((a:Nat):Int)) yk (Lm _ e6)) ?_))))
 refine WL.do rfl (Jt (x0:=(0:Int)) (z:=vI 0) (k:=a) (size:=1) (bytes:=8) iL f2 rfl y4 e7 N rfl rfl e6 (by unfold maxLen; omega) ?_)
 intro f aB s
 have af:s0 (r7 a (0:Int))=a:=H0
 refine Ar rfl (Mz rfl (Mz rfl ?_))
 refine WL.do rfl (Km (lo:=0) (k:=min l0.length a) (mq) s rfl (fun hp=>by rw [Nat.zero_mul,Nat.add_zero]; exact(s.rds (i:=0) rfl).isSome e6) e6 rfl (s.ro L) (dX qB l0) e6 (zM iL _ _ _ _ e9) ?_)
 intro aC O
 have ag:s0 (r3 0 (r7 a (0:Int))++(r3 (min l0.length a) l0++r4 (0+(min l0.length a)) (r7 a (0:Int))))=a:=by simp only [o2,o0,o1,H0]; omega
 refine An rfl (Ik (bo ?_))
 have P:=O.pf []
 obtain⟨Q,j⟩:=rJ fun (b:Nat) c (l:Nat) w'=>Own w D w' [row f a a (q4 (eI .i64) c) 3 1]∧c.length=a∧((b:Nat):Int)≤d∧(1≤b∨d=0)∧C6 d - b < l∧kg a ((C6 d - (min l0.length a))+1) (min l0.length a) (r3 0 (r7 a (0:Int))++(r3 (min l0.length a) l0++r4 (0+(min l0.length a)) (r7 a (0:Int))))=kg a l b c
 refine C1 (fun i:Nat × (List Int) × Nat=> [(8,vJ i.1),(7, .slice f a a),(4, .slice none 0 0)]) Q (fun i=>i.2.2) (min l0.length a,(r3 0 (r7 a (0:Int))++(r3 (min l0.length a) l0++r4 (0+(min l0.length a)) (r7 a (0:Int)))),(C6 d - (min l0.length a))+1) ⟨rfl,rfl,rfl,trivial⟩ (j.2 ⟨P,by first | omega | (simp only [G4] <;> omega) | (simp only [H0]),e6,e6,e6,rfl⟩) ?_
 rintro ⟨b,c,l⟩ R F
 obtain⟨G,ah,ai,aj,ak,r⟩:=j.1 F
 obtain⟨t,I⟩:∃ q,l=q+1:=⟨l - 1,e6⟩
 subst I
 refine Ik (sr (Mz rfl (Mz rfl (Kz (vJ a) (Kz (.bool (decide (((b:Nat):Int) < ((a:Nat):Int)))) (nt ?_))))))
 by_cases n:((b:Nat):Int) < ((a:Nat):Int)
 refine jT (dT n) (sk (bo ?_))
 refine vo [7] (bv.block (IE (bv.block (IE IQ)))) G ?_
 intro aD u
 refine I4 (v:=vJ b) 0 rfl e7 (fun _=>IA rfl) (qv 1 rfl rfl (qv 2 rfl rfl (qt (v:= .slice (jw f b 1 a) (a - b) (a - b)) 3 rfl (fun _ _=>I5 (mq) rfl rfl e6) (qv 4 rfl rfl (qv 5 rfl rfl (qt (v:= .slice f b a) 6 rfl (fun _ _=>Jk (mq) rfl rfl e6) ?_))))))
 refine qd 7 rfl (Km (lo:=b) (k:=min b (a - b)) (mq) u rfl (fun _=>kS ((u.rds (i:=0) rfl).addr (i:=b) e6) e6) e6 rfl (Kl (hi:=b) iL (u.rds (i:=0) rfl) e6) (dX qB (r3 b c)) e6 (zM iL _ _ _ _ e9) ?_)
 intro aF S
 have au:s0 (r3 b c++(r3 (min b (a - b)) (r3 b c)++r4 (b+(min b (a - b))) c))=a:=by simp only [o2,o0,o1,H0]; omega
 refine⟨.inl e7, ?_⟩
 refine I4 (v:=vI ((b+(min b (a - b)):Nat):Int)) 8 rfl e7 (fun _=>Ir (e:=C3.wrap (((b:Nat):Int)+((min b (a - b):Nat):Int))) yk f0) (I4 (v:=vI ((b+(min b (a - b)):Nat):Int)) 9 rfl e7 (fun _=>Jv rfl) (qn (bN ?_)))
 have T:=S.pf []
 exact II (b+(min b (a - b)),(r3 b c++(r3 (min b (a - b)) (r3 b c)++r4 (b+(min b (a - b))) c)),t) ⟨rfl,rfl,rfl,trivial⟩ (j.2 ⟨T,by first | omega | (simp only [G4] <;> omega) | (simp only [H0]),e6,e6,e6,Eq.trans (r) (if_pos n)⟩) (by show t < t+1; omega)
 refine jF (dF n) (C5 (IC ?_))
 have J:kg a ((C6 d - (min l0.length a))+1) (min l0.length a) (r3 0 (r7 a (0:Int))++(r3 (min l0.length a) l0++r4 (0+(min l0.length a)) (r7 a (0:Int))))=c:=et (r) (iN n)
 refine IC (IK (Iq (sr (Mz rfl (An rfl (rt (rs ?_)))))))
 have m:a=c.length:=by first | omega | (simp only [G4]; done) | (simp only [G4,o2,s1,E7,o0,o1,H0]; omega)
 have U:Own w D R [row f c.length a (q4 (eI .i64) c) 3 1]:=by rw [← m]; exact G
 have V:=U.pf []
 obtain rfl:_=c:=hr.symm.trans (et (ae o) (ae J))
 exact⟨f,a,(by first | rfl | (rw [← m]; done) | (rw [← m]; rfl)),V,e6⟩
def jC (l0:List aM) (g:List fu) (f:Nat):List aN→Nat→List aN→List Int→(List aN) × (List Int)
  | [],b,c,d=>(c,d)
  | h::i,b,c,d=>bnd (je l0 ((f:Nat):Int) h) fun a=>bnd (nT ([((b:Nat):Int)]) ((a.length:Nat):Int)) fun e=>jC l0 g f i (b+1) (c++a) (d++e)
def gp (l0:List aM) (l1:List aN):Nat→List fu→Nat→(List fu)
  | 0,a,b=>a
  | c+1,a,b=>bnd (jC l0 a b l1 0 ([]) ([])) fun sLrbtbtLsL=>if((sLrbtbtLsL.1.length:Nat):Int) > 0 then gp l0 l1 c (a++ [(fu.mk ((b:Nat):Int) (E0 sLrbtbtLsL.1) (E0 sLrbtbtLsL.2))]) (b+1) else gp l0 l1 c a (b+1)
def ko (l0:List aM) (l1:List aN):(List fu) × Int:=
 bnd (jc l0) fun a=>if a=0 then bnd (kC l1) fun b=>if b=0 then bnd (gp l0 l1 5 ([]) 0) fun sLrbtbtL=>(sLrbtbtL,0) else(([]:List fu),b) else(([]:List fu),a)
theorem AA (w D A0 n0 c0 l0 L n1 c1 l1 r0 r1) (H:Own w D w []) (aS:Ro w D fun w'=>aY w' 2 A0 n0 (q4 aM.cells l0)) (dC:n0=l0.length) (fI:l0.length *24≤211106232532992) (Y:Ro w D fun w'=>aY w' 6 L n1 (q4 aN.cells l1)) (dD:n1=l1.length) (fJ:l1.length *80≤211106232532992) (hr:ko l0 l1=(r0,r1)):
    Calls v5 127 #[.slice A0 n0 c0, .slice L n1 c1] w (dA fun v w'=> ∃ B0 b0 e0,v= .tuple #[.slice B0 r0.length b0,vI r1]∧Own w D w' [row B0 r0.length b0 (q4 bO.cells e0) 172 3,sepL (q4 bO.own e0)]∧(List.map bO.abs e0=r0)):=by
 subst dC dD
 refine cb Tryz.func127 ?_
 refine sr (Az rfl (An rfl (Ik (sr (Mz rfl ?_)))))
 obtain⟨J,F⟩:∃ q,jc l0=q:=⟨_,rfl⟩
 obtain⟨fK,aT,aU,aV,eu⟩:=Iu H
 refine cl Tryz.call72 (qY _ _ A0 l0.length c0 l0 J aT (aU _ aS) rfl e6 F) ?_
 rintro _ aX ⟨rfl,aZ,ai⟩
 have bf:=aV _ _ aZ
 replace ai: ¬ (J=0)∨(1≤l0.length∧l0.length≤6):=ai
 refine Ar rfl (Mz rfl (fw (.bool (decide (¬ (J=0)))) (IM (e:= !(decide (J=0))) yk decide_not.symm) (nt ?_)))
 by_cases M:J=0
 refine jF (dF (Lr M)) (sk (Ik (sr (Mz rfl ?_))))
 obtain⟨K,N⟩:∃ q,kC l1=q:=⟨_,rfl⟩
 obtain⟨fM,bg,bi,bn,eB⟩:=Iu bf
 refine cl Tryz.call137 (wT _ _ L l1.length c1 l1 K bg (bi _ Y) rfl e6 N) ?_
 rintro _ Z ⟨rfl,bq,aj⟩
 have bu:=bn _ _ bq
 replace aj: ¬ (K=0)∨(1≤l1.length∧l1.length≤4):=aj
 refine Ar rfl (Mz rfl (fw (.bool (decide (¬ (K=0)))) (IM (e:= !(decide (K=0))) yk decide_not.symm) (nt ?_)))
 by_cases aa:K=0
 refine jF (dF (Lr aa)) (sk (sr (An rfl (Ik (sr (Mn rfl (bo ?_)))))))
 have dG:Own w D Z [sepL (q4 bO.own ([]))]:=bu.sepNil
 have dH:Own w D Z [row none 0 0 (q4 bO.cells ([])) 172 3,sepL (q4 bO.own ([]))]:=dG.free (eP 172 3)
 have dI:=dH.pf []
 obtain⟨dJ,G⟩:=ED fun z (A:Nat) x d (a:Nat) w'=>Own w D w' [row z d.length A (q4 bO.cells x) 172 3,sepL (q4 bO.own x)]∧List.map bO.abs x=d∧a≤5∧d.length≤a∧gp l0 l1 5 ([]) 0=gp l0 l1 (5 - a) d a
 refine C1 (fun i:(Option Addr) × Nat × (List bO) × (List fu) × Nat=> [(8, .slice i.1 i.2.2.2.1.length i.2.1),(23,vJ i.2.2.2.2),(5,vI 0),(4, .slice none 0 0),(0, .slice A0 l0.length c0),(1, .slice L l1.length c1)]) dJ (fun i=>5 - i.2.2.2.2) (none,0, [], [],0) ⟨rfl,rfl,rfl,rfl,rfl,rfl,trivial⟩ (G.2 ⟨dI,(show List.map bO.abs ([])=([])∧0≤5∧0≤0∧gp l0 l1 5 ([]) 0=gp l0 l1 (5 - 0) ([]) 0 from ⟨by exact rfl,e6,e6,rfl⟩)⟩) ?_
 rintro ⟨z,A,x,d,a⟩ fO bz
 obtain⟨bA,B,eD,eF,O⟩:=G.1 bz
 have eG:=aA B
 refine sr (Kz (.bool (decide (((a:Nat):Int) < 5))) (nt (Ik ?_)))
 by_cases bB:((a:Nat):Int) < 5
 refine jT (dT bB) (sk (Ik (bo (sr (Mz rfl (Ar rfl (Mz rfl (Kz (.agg #[vJ a, .slice none 0 0, .slice none 0 0]) ?_))))))))
 refine dn [vI 0, .slice none 0 0, .slice none 0 0] 172 bA ?_
 intro C fP dK
 refine df [vJ a, .slice none 0 0, .slice none 0 0] 0 dK Tryz.sizeOf172 ?_
 intro bC dL
 refine nt (Ik (sr (Mz rfl (Kz (vJ l1.length) (Mn rfl (bo ?_))))))
 have dM:Own w D bC (row none 0 0 (q4 aN.cells ([])) 72 6::_):=dL.free (eP 72 6)
 have dN:Own w D bC (row none 0 0 (q4 (eI .i64) ([])) 3 1::_):=dM.free (eP 3 1)
 have dO:=dN.pb [1,0]
 obtain⟨dP,P⟩:=FJ fun (g:Nat) h (j:Nat) b p (r:Nat) c w'=>Own w D w' [blk C [vJ a, .slice h b.length j, .slice p c.length r] 172,row z d.length A (q4 bO.cells x) 172 3,sepL (q4 bO.own x),row h b.length j (q4 aN.cells b) 72 6,row p c.length r (q4 (eI .i64) c) 3 1]∧g≤l1.length∧b.length≤6 *g∧c.length≤6 *g∧jC l0 d a l1 0 ([]) ([])=jC l0 d a (r4 g l1) g b c
 refine C1 (fun i:Nat × (Option Addr) × Nat × (List aN) × (Option Addr) × Nat × (List Int)=> [(30,vJ i.1),(29,vJ l1.length),(28, .slice L l1.length c1),(10,vP C 0),(27, .agg #[vJ a, .slice none 0 0, .slice none 0 0]),(26,vJ a),(9,vJ a),(25,vJ a),(24, .bool (decide (((a:Nat):Int) < 5))),(8, .slice z d.length A),(23,vJ a),(5,vI 0),(4, .slice none 0 0),(0, .slice A0 l0.length c0),(1, .slice L l1.length c1)]) dP (fun i=>l1.length - i.1) (0,none,0, [],none,0, []) ⟨rfl,rfl,rfl,rfl,rfl,rfl,rfl,rfl,rfl,rfl,rfl,rfl,rfl,rfl,rfl,trivial⟩ (P.2 ⟨dO,(show 0≤l1.length∧0≤6 *0∧0≤6 *0∧jC l0 d a l1 0 ([]) ([])=jC l0 d a (r4 0 l1) 0 ([]) ([]) from ⟨e6,e6,e6,rfl⟩)⟩) ?_
 rintro ⟨g,h,j,b,p,r,c⟩ fQ bD
 obtain⟨E,eH,eO,eQ,ak⟩:=P.1 bD
 refine sr (Kz (.bool (decide (((g:Nat):Int) < ((l1.length:Nat):Int)))) (nt (Ik ?_)))
 by_cases bE:((g:Nat):Int) < ((l1.length:Nat):Int)
 obtain⟨af,au⟩:=dh (ls:=l1) (i:=g) aN.len f2 (E.ro Y) e9
 have bF:=drop_at au
 refine jT (dT bE) (sk (Ik (bo (sr (Mz rfl (Ar rfl (Mz rfl (Mz rfl (Mz rfl (Mz rfl (fw (.pointer (some ⟨ab L,ao L+g *6,none⟩)) (Iz (mG) rfl rfl ((E.ro Y).addr (i:=g) e6) e6) (fw (.agg (aN.cells af).toArray) (IB rfl (IJ (cs:=(aN.cells af)) Tryz.isAgg72 Tryz.sizeOf72 ((E.ro Y).elem aN.len au f2))) ?_))))))))))))
 obtain⟨u,Q⟩:∃ q,je l0 ((a:Nat):Int) af=q:=⟨_,rfl⟩
 obtain⟨fT,bG,bH,bI,eT⟩:=Iu E
 refine cl Tryz.call146 (yL _ _ A0 l0.length c0 l0 ((a:Nat):Int) af u bG (bH _ aS) rfl e6 e6 Q) ?_
 rintro _ eU ⟨eX,eY,rfl,aK,R⟩
 have S:=bI _ _ aK
 have dQ:=S.rowC (i:=0) rfl
 replace R:u.length≤6:=R
 refine Ar rfl (Kz (vP C 1) (Lz (.slice h b.length j) S 1 Tryz.isAgg39 (Mz rfl ?_)))
 have av:=S.pf [4]
 refine WL.do rfl (IW (k:=b.length) (m:=u.length) (mG) av rfl rfl (gN F2 (av.rds (i:=1) rfl) (dX aN.one u)) rfl e6 (s:=s0 (b++u)) f7 (r5).symm ?_)
 intro ax ay eZ bJ
 have dR:s0 (b++u)=b.length+u.length:=by simp only [o2,s1,E7]
 refine Kz (vP C 1) ?_
 have bK:=bJ.pf [2]
 refine df [.slice ax (s0 (b++u)) ay] 1 bK Tryz.sizeOf39 ?_
 intro fe bL
 refine nt ?_
 refine Ha [7,9] (bv.block (IE (IE (bv.block (IE (bv.block (IE (IE (bv.block (IE IQ)))))))))) bL ?_
 intro fo bM
 refine qp C 2 0 rfl (ql 1 rfl 0 Tryz.isAgg58 rfl rfl rfl (qv 2 rfl rfl (qv 4 rfl rfl (qk (vJ u.length) 5 rfl ?_))))
 refine qd 3 rfl (Jq (cs:= [vJ g]) (t:=3) (sz:=1) (m:=1) bM rfl rfl (fun _=>by kernel_rfl) rfl f2 ?_)
 intro az fq T
 replace T:=IX (y:=row az 1 1 (q4 (eI .i64) ([((g:Nat):Int)])) 3 1) rfl T
 have aB:=T.pb [0]
 refine⟨.inr ⟨_,aB⟩, ?_⟩
 obtain⟨l,U⟩:∃ q,nT ([((g:Nat):Int)]) ((u.length:Nat):Int)=q:=⟨_,rfl⟩
 obtain⟨fA,aL,dS,aO,aP⟩:=Iu aB
 refine qd 6 rfl (IP Tryz.call147 rfl (tO _ _ az 1 1 ([((g:Nat):Int)]) ((u.length:Nat):Int) l aL (aP _ 6 _ rfl aW) rfl i7 (by first | omega | exact⟨rfl,e6,e6⟩) U) ?_)
 rintro _ fB ⟨fC,fE,rfl,aQ,V⟩
 have aC:=aO _ _ aQ
 have dU:=aC.rowC (i:=0) rfl
 replace V:((l.length:Nat):Int)=((u.length:Nat):Int):=V
 have aD:=aC.pb [0,7]
 refine⟨.inr ⟨_,aD⟩, ?_⟩
 have aF:=aD.pf [5]
 refine qd 7 rfl (IW (k:=c.length) (m:=l.length) (mq) aF rfl rfl (gN y4 (aF.rds (i:=6) rfl) (dX qB l)) rfl e6 (s:=s0 (c++l)) f7 (r5).symm ?_)
 intro aG aH fF bP
 have dV:s0 (c++l)=c.length+l.length:=by simp only [o2,s1,E7]
 refine⟨.inl e7, ?_⟩
 refine I4 (v:=vP C 2) 8 rfl e7 (fun _=>yk) ?_
 have bQ:=bP.pf [1]
 refine qe 9 rfl (Do.store (vs:= [.slice aG (s0 (c++l)) aH]) (o:=2) bQ rfl rfl Tryz.sizeOf58 rfl rfl rfl rfl ?_)
 intro fG bR
 refine⟨.inl e7, ?_⟩
 refine qn (bN (Iq (Il (fw (vJ (g+1)) (Ir (e:=C3.wrap (((g:Nat):Int)+1)) yk f0) (Mz rfl (C4 ?_))))))
 have bS:=bR.pk [0,4,5,2,1]
 exact II (g+1,ax,ay,(b++u),aG,aH,(c++l)) ⟨rfl,rfl,rfl,rfl,rfl,rfl,rfl,rfl,rfl,rfl,rfl,rfl,rfl,rfl,rfl,trivial⟩ (P.2 ⟨bS,e6,e6,e6,et (ak) (et (congrArg (fun q=>jC l0 d a q g b c) bF) (et (ae Q) (ae U)))⟩) (by show l1.length - (g+1) < l1.length - g; omega)
 refine jF (dF bE) (C5 (IC ?_))
 have W:jC l0 d a l1 0 ([]) ([])=(b,c):=et (ak) (et (congrArg (fun q=>jC l0 d a q g b c) (dZ (ls:=l1) (i:=g) e6)) rfl)
 refine IC (IK (Iq (sr (Kz (vP C 1) (Lz (.slice h b.length j) E 0 Tryz.isAgg39 (Kz (vJ b.length) (Kz (.bool (decide (((b.length:Nat):Int) > 0))) (nt ?_))))))))
 by_cases I:((b.length:Nat):Int) > 0
 refine jT (dT I) (Il (Mz rfl (La ([vJ a, .slice h b.length j, .slice p c.length r]) E 0 Tryz.isAgg172 Tryz.sizeOf172 ?_)))
 refine jV [vJ a, .slice h b.length j, .slice p c.length r] 172 3 1 E ?_
 intro bT fH X
 replace X:=IX (y:=row bT 1 1 (q4 bO.cells ([(bO.mk ((a:Nat):Int) (G3 h j b) (G3 p r c))])) 172 3) rfl X
 have aI:=X.pb [0,1]
 refine WL.do rfl (IW (k:=d.length) (m:=1) (uR) aI rfl rfl (gN Tryz.underlying103 (aI.rds (i:=4) rfl) (dX bO.one ([(bO.mk ((a:Nat):Int) (G3 h j b) (G3 p r c))]))) rfl e6 (s:=s0 (d++ [(fu.mk ((a:Nat):Int) (E0 b) (E0 c))])) f7 (r5).symm ?_)
 intro bU bV bW bX
 have bY:=bX.pb [0,4,5]
 have bZ:Own w D bW (sepL (q4 bO.own (x++ [(bO.mk ((a:Nat):Int) (G3 h j b) (G3 p r c))]))::_):=bY.sepAdd (L2:= [row h b.length j (q4 aN.cells b) 72 6,row p c.length r (q4 (eI .i64) c) 3 1]) (r5 (f:=bO.own) (xs:=x) (ys:= [(bO.mk ((a:Nat):Int) (G3 h j b) (G3 p r c))])).symm
 have dW:s0 (d++ [(fu.mk ((a:Nat):Int) (E0 b) (E0 c))])=d.length+1:=by simp only [o2,s1,E7]
 have dY:=aA (nu (es:= [(bO.mk ((a:Nat):Int) (G3 h j b) (G3 p r c))]) (ms:= [(fu.mk ((a:Nat):Int) (E0 b) (E0 c))]) B rfl)
 refine Az rfl (C4 (bN (Iq (Il (fw (vJ (a+1)) (Ir (e:=C3.wrap (((a:Nat):Int)+1)) yk f0) (Mz rfl (C4 ?_)))))))
 have cu:=bZ.pk [1,0]
 exact II (bU,bV,(x++ [(bO.mk ((a:Nat):Int) (G3 h j b) (G3 p r c))]),(d++ [(fu.mk ((a:Nat):Int) (E0 b) (E0 c))]),a+1) ⟨rfl,rfl,rfl,rfl,rfl,rfl,trivial⟩ (G.2 ⟨cu,by exact(nu (es:= [(bO.mk ((a:Nat):Int) (G3 h j b) (G3 p r c))]) (ms:= [(fu.mk ((a:Nat):Int) (E0 b) (E0 c))]) B rfl),e6,e6,et (O) (et (congrArg (fun q=>gp l0 l1 q d a) (rH (n:=5) (i:=a) e6)) (et (ae W) (ip I)))⟩) (by show 5 - (a+1) < 5 - a; omega)
 refine jF (dF I) (IU (bN (Iq (Il (fw (vJ (a+1)) (Ir (e:=C3.wrap (((a:Nat):Int)+1)) yk f0) (Mz rfl (C4 ?_)))))))
 have cz:=E.pk [1,2]
 exact II (z,A,x,d,a+1) ⟨rfl,rfl,rfl,rfl,rfl,rfl,trivial⟩ (G.2 ⟨cz,by exact B,e6,e6,et (O) (et (congrArg (fun q=>gp l0 l1 q d a) (rH (n:=5) (i:=a) e6)) (et (ae W) (iN I)))⟩) (by show 5 - (a+1) < 5 - a; omega)
 refine jF (dF bB) (C5 (IC ?_))
 have aR:gp l0 l1 5 ([]) 0=d:=et (O) (et (congrArg (fun q=>gp l0 l1 q d a) (wC (n:=5) (i:=a) e6)) rfl)
 refine IC (IK (Iq (sr (Mz rfl (Az rfl (An rfl (rt (Fin.res (lH rfl rfl rfl) ?_))))))))
 have cB:=bA.pf []
 obtain⟨rfl,rfl⟩:=fD (hr.symm.trans (show _=(d,0) from et (ae F) (et (ip M) (et (ae N) (et (ip aa) (ae aR))))))
 exact⟨z,A,x,rfl,cB,B⟩
 refine jT (dT aa) (sr (Mz rfl (Az rfl (An rfl (rt (tR (Fin.res (lH rfl rfl rfl) ?_)))))))
 have cK:Own w D Z [sepL (q4 bO.own ([]))]:=bu.sepNil
 have cO:Own w D Z [row none 0 0 (q4 bO.cells ([])) 172 3,sepL (q4 bO.own ([]))]:=cK.free (eP 172 3)
 have cZ:=cO.pf []
 obtain⟨rfl,rfl⟩:=fD (hr.symm.trans (show _=(([]:List fu),K) from et (ae F) (et (ip M) (et (ae N) (iN aa)))))
 exact⟨none,0, [],rfl,cZ,rfl⟩
 refine jT (dT M) (sr (Mz rfl (Az rfl (An rfl (rt (tR (Fin.res (lH rfl rfl rfl) ?_)))))))
 have di:Own w D aX [sepL (q4 bO.own ([]))]:=bf.sepNil
 have dm:Own w D aX [row none 0 0 (q4 bO.cells ([])) 172 3,sepL (q4 bO.own ([]))]:=di.free (eP 172 3)
 have dw:=dm.pf []
 obtain⟨rfl,rfl⟩:=fD (hr.symm.trans (show _=(([]:List fu),J) from et (ae F) (iN M)))
 exact⟨none,0, [],rfl,dw,rfl⟩
end Go.Proofs.YtbkagebjhbphaaaGreat
