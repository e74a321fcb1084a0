/-
 owner: operations cut.
-/
import Derived.Test.YtbkagebjhbphaaaGreatWc
namespace Go.Proofs.YtbkagebjhbphaaaGreat
open Int renaming fdiv→J5,toNat→D2
open IntKind renaming i64→C7,u64→D3
open List renaming drop→r6,flatMap→q6,flatMap_append→r7,getD→C2,length→s2,length_append→p5,length_cons→s3,length_drop→p4,length_nil→G1,length_replicate→H7,length_set→H6,length_take→p3,replicate→s0,take→r5,toArray→y6
open Ll renaming mk→E4
open Sv renaming mk→H5
open _root_.Go.Proofs.Tryz renaming call156→M8,call163→M9,isAgg3→C6,isAgg38→L7,isAgg9→C4,prog→y4,sizeOf38→L6,underlying39→B1,underlying58→G4
open WL renaming nil→D0
open Wp renaming exit→D1,loop→C5
set_option maxRecDepth 100000
open Go.RowKit
set_option linter.unusedVariables false
set_option linter.unusedSectionVars false
set_option linter.unusedSimpArgs false
def kE (d:List UInt8):List bv→Nat→Nat→Nat
  | [],b,a=>b
  | e::c,b,a=>if e.bK≤d then kE d c a (a+1) else kE d c b (a+1)
def tO (l0:List bv) (a:List UInt8):Int:=
 bnd (kE a l0 0 0) fun sLrL=>((sLrL:Nat):Int)
theorem yx (w:World) (D:Nat→Prop) (l:Option Addr) (u x:Nat) (l0:List bv) (c:List UInt8) (t:Int) (H:Own w D w []) (o:Ro w D fun w'=>bD w' 2 l u (q6 bv.cells l0)) (y:u=l0.length) (M:l0.length *24≤211106232532992) (N:1≤l0.length) (hr:tO l0 c=t):
    Calls y4 162 #[.slice l u x, .string ⟨y6 c⟩] w (dR fun v w'=>v=vI t∧Own w D w' []∧(0≤t∧t < ((l0.length:Nat):Int))):=by
 subst y
 refine cb Tryz.func162 ?_
 refine sr (Ar rfl (An rfl (FU (sr (Mz rfl (Kz (vJ l0.length) (Mn rfl (bo ?_))))))))
 have z:=H.pk []
 obtain⟨A,d⟩:=Ej fun(b:Nat) (a:Nat) (w':World)=>Own w D w' []∧a≤l0.length∧b≤a∧b≤a∧b≤l0.length∧0≤b∧b < l0.length∧kE c l0 0 0=kE c (r6 a l0) b a
 refine C5 (fun i:Nat × Nat=> [(5,vJ i.1),(9,vJ i.2),(8,vJ l0.length),(4,vI 0),(0, .slice l l0.length x),(1, .string ⟨y6 c⟩)]) A (fun i=>l0.length - i.2) (0,0) ⟨rfl,rfl,rfl,rfl,rfl,rfl,trivial⟩ (d.2 ⟨z,e6,e6,e6,e6,e6,e6,rfl⟩) ?_
 rintro ⟨b,a⟩ O p
 obtain⟨f,F,G,I,J,K,L,g⟩:=d.1 p
 refine sr (Kz (.bool (decide (((a:Nat):Int) < ((l0.length:Nat):Int)))) (nt (FU ?_)))
 by_cases r:((a:Nat):Int) < ((l0.length:Nat):Int)
 obtain⟨h,m⟩:=dK (ls:=l0) (i:=a) bv.len f3 (f.ro o) e9
 have n:=drop_at m
 refine jT (dT r) (sk (FU (bo (sr (Mz rfl (Ar rfl (Mz rfl (Mz rfl (fw (.pointer (some ⟨ab l,ao l+a *2,none⟩)) (FZ (qy) rfl rfl ((f.ro o).addr (i:=a) e6) e6) (Kz (.pointer (some ⟨ab l,ao l+a *2,none⟩)) (fw (.string ⟨y6 h.bK⟩) (F5 rfl (bZ.one C4 (((f.ro o).elem bv.len m f3).at_ (k:=0) rfl))) (Mz rfl (fw (.bool (decide (h.bK≤c))) (Gi (e:=Op.bytesLess h.bK c || decide (h.bK=c)) (Hy rfl rfl) (za _ _)) (nt ?_))))))))))))))
 by_cases j:h.bK≤c
 refine jT (dT j) (FT (Mz rfl (Az rfl (D0 (bN (FW (FT (fw (vJ (a+1)) (FV (e:=C7.wrap (((a:Nat):Int)+1)) yk f1) (Mz rfl (D0 ?_))))))))))
 have B:=f.pk []
 exact F9 (a,a+1) ⟨rfl,rfl,rfl,rfl,rfl,rfl,trivial⟩ (d.2 ⟨B,e6,e6,e6,e6,e6,e6,et (g) (et (congrArg (fun q=>kE c q b a) n) (ip j))⟩) (by show l0.length - (a+1) < l0.length - a; omega)
 refine jF (dF j) (Gj (bN (FW (FT (fw (vJ (a+1)) (FV (e:=C7.wrap (((a:Nat):Int)+1)) yk f1) (Mz rfl (D0 ?_)))))))
 have C:=f.pk []
 exact F9 (b,a+1) ⟨rfl,rfl,rfl,rfl,rfl,rfl,trivial⟩ (d.2 ⟨C,e6,e6,e6,e6,e6,e6,et (g) (et (congrArg (fun q=>kE c q b a) n) (iN j))⟩) (by show l0.length - (a+1) < l0.length - a; omega)
 refine jF (dF r) (D1 (F4 ?_))
 have s:kE c l0 0 0=b:=et (g) (et (congrArg (fun q=>kE c q b a) (eZ (ls:=l0) (i:=a) e6)) rfl)
 refine F4 (Gg (FW (sr (Mz rfl (An rfl (rt (rs ?_)))))))
 have E:=f.pk []
 obtain rfl:_=((b:Nat):Int):=hr.symm.trans (ai s)
 exact⟨rfl,E,e6⟩
def l5 (l0:List bv) (c:Int):bL:=
 bnd (C2 l0 (D2 c) default) fun a=>if c+1 < ((l0.length:Nat):Int) then bnd (C2 l0 (D2 (c+1)) default) fun b=>bL.mk a.bK b.bK else bL.mk a.bK ([])
theorem nY (w:World) (D:Nat→Prop) (h:Option Addr) (r C:Nat) (l0:List bv) (b:Int) (B:bL) (H:Own w D w []) (c:Ro w D fun w'=>bD w' 2 h r (q6 bv.cells l0)) (s:r=l0.length) (E:l0.length *24≤211106232532992) (F:0≤b∧b < ((l0.length:Nat):Int)) (hr:l5 l0 b=B):
    Calls y4 156 #[.slice h r C,vI b] w (dR fun v w'=>v= .agg (bL.cells B).toArray∧Own w D w' []):=by
 subst s
 refine cb Tryz.func156 ?_
 refine sr ?_
 refine dM [.string ⟨y6 ([])⟩, .string ⟨y6 ([])⟩] 38 H ?_
 intro G I j
 refine ns (Mz rfl (fw (vJ (D2 b)) (FV (e:=b) (F7 rfl) e6) ?_))
 obtain⟨a,g⟩:=dK (ls:=l0) (i:=D2 b) bv.len f3 (j.ro c) e9
 refine fw (.pointer (some ⟨ab h,ao h+(D2 b) *2,none⟩)) (FZ (qy) rfl rfl ((j.ro c).addr (i:=D2 b) e6) e6) (Kz (.pointer (some ⟨ab h,ao h+(D2 b) *2,none⟩)) (fw (.string ⟨y6 a.bK⟩) (F5 rfl (bZ.one C4 (((j.ro c).elem bv.len g f3).at_ (k:=0) rfl))) (Kz (.agg #[.string ⟨y6 a.bK⟩, .string ⟨y6 ([])⟩]) ?_)))
 refine dM [.string ⟨y6 ([])⟩, .string ⟨y6 ([])⟩] 38 j ?_
 intro t J u
 refine dN [.string ⟨y6 a.bK⟩, .string ⟨y6 ([])⟩] 0 u L6 ?_
 intro K d
 refine nt (FU (sr (Mz rfl (fw (vI (b+1)) (FV (e:=C7.wrap (b+1)) yk g2) (Mz rfl (Kz (vJ l0.length) (Kz (.bool (decide (b+1 < ((l0.length:Nat):Int)))) (nt ?_))))))))
 by_cases l:b+1 < ((l0.length:Nat):Int)
 refine jT (dT l) (FT (Mz rfl (Mz rfl (fw (vJ (D2 (b+1))) (FV (e:=C7.wrap (b+1)) yk f1) ?_))))
 obtain⟨f,n⟩:=dK (ls:=l0) (i:=D2 (b+1)) bv.len f3 (d.ro c) e9
 refine fw (.pointer (some ⟨ab h,ao h+(D2 (b+1)) *2,none⟩)) (FZ (qy) rfl rfl ((d.ro c).addr (i:=D2 (b+1)) e6) e6) (Kz (.pointer (some ⟨ab h,ao h+(D2 (b+1)) *2,none⟩)) (fw (.string ⟨y6 f.bK⟩) (F5 rfl (bZ.one C4 (((d.ro c).elem bv.len n f3).at_ (k:=0) rfl))) (Kz (vP t 1) ?_)))
 refine dN [.string ⟨y6 f.bK⟩] 1 d Tryz.sizeOf9 ?_
 intro L o
 refine ns (La ([.string ⟨y6 a.bK⟩, .string ⟨y6 f.bK⟩]) o 0 L7 L6 ?_)
 have x:=o.pb [0]
 refine dN [.string ⟨y6 a.bK⟩, .string ⟨y6 f.bK⟩] 0 x L6 ?_
 intro M p
 refine nt (rt (Fin.res (mZ rfl rfl (Gc (cs:= [.string ⟨y6 a.bK⟩, .string ⟨y6 f.bK⟩]) L7 L6 ((p.cls (i:=0) rfl).lit (k:=0) (m:=2) rfl))) ?_))
 have y:=p.pk []
 obtain rfl:_=bL.mk a.bK f.bK:=hr.symm.trans (et (ai (bJ g)) (et (ip l) (ai (bJ n))))
 exact⟨rfl,y⟩
 refine jF (dF l) (sk (sr (La ([.string ⟨y6 a.bK⟩, .string ⟨y6 ([])⟩]) d 0 L7 L6 ?_)))
 have z:=d.pb [0]
 refine dN [.string ⟨y6 a.bK⟩, .string ⟨y6 ([])⟩] 0 z L6 ?_
 intro N q
 refine nt (rt (Fin.res (mZ rfl rfl (Gc (cs:= [.string ⟨y6 a.bK⟩, .string ⟨y6 ([])⟩]) L7 L6 ((q.cls (i:=0) rfl).lit (k:=0) (m:=2) rfl))) ?_))
 have A:=q.pk []
 obtain rfl:_=bL.mk a.bK ([]):=hr.symm.trans (et (ai (bJ g)) (iN l))
 exact⟨rfl,A⟩
def rV (a:List UInt8) (b:List UInt8):(List UInt8):=
 if a=([]) then b else if b≠([]) then if b < a then b else a else a
theorem xc (w:World) (D:Nat→Prop) (d:List UInt8) (c:List UInt8) (k:List UInt8) (H:Own w D w []) (hr:rV d c=k):
    Calls y4 187 #[.string ⟨y6 d⟩, .string ⟨y6 c⟩] w (dR fun v w'=>v= .string ⟨y6 k⟩∧Own w D w' []):=by
 refine cb Tryz.func187 ?_
 refine sr (An rfl (FU (sr (Mz rfl (fw (.bool (decide (d=([])))) (Ih rfl rfl) (Mz rfl ?_))))))
 by_cases a:d=([])
 refine Sz (dT a) (Sz (dT a) (Sz (dT a) (Gu rfl rfl rfl (Gu rfl rfl rfl (Gu rfl rfl rfl (Sz (dT a) (fw (.bool true) (Gb rfl (dT a) rfl) (nt (jt (sr (Mz rfl (An rfl (rt (tR (rs ?_)))))))))))))))
 have g:=H.pk []
 obtain rfl:_=c:=hr.symm.trans (ip a)
 exact⟨rfl,g⟩
 refine gw (.string ⟨y6 c⟩) (dF a) (F7 rfl) (gw (.bool (decide (c≠([])))) (dF a) (Hm rfl rfl) (gw (.bool (decide (c≠([])))) (dF a) (F7 rfl) ?_))
 by_cases b:c≠([])
 refine gw (.string ⟨y6 c⟩) (dT b) (F7 rfl) (gw (.string ⟨y6 d⟩) (dT b) (F7 rfl) (gw (.bool (decide (c < d))) (dT b) (Gi (e:=Op.bytesLess c d) (IE rfl rfl) (Bv _ _)) (gw (.bool (decide (c < d))) (dF a) (Gb rfl (dT b) rfl) (fw (.bool (decide (c < d))) (FX rfl (dF a) rfl) (nt ?_)))))
 by_cases f:c < d
 refine jT (dT f) (sr (Mz rfl (An rfl (rt (tR (rs ?_))))))
 have h:=H.pk []
 obtain rfl:_=c:=hr.symm.trans (et (iN a) (et (ip b) (ip f)))
 exact⟨rfl,h⟩
 refine jF (dF f) (sk (sr (Mz rfl (An rfl (rt (rs ?_))))))
 have i:=H.pk []
 obtain rfl:_=d:=hr.symm.trans (et (iN a) (et (ip b) (iN f)))
 exact⟨rfl,i⟩
 refine Sz (dF b) (Sz (dF b) (Sz (dF b) (gw (.bool false) (dF a) (FX rfl (dF b) rfl) (fw (.bool false) (FX rfl (dF a) rfl) (nt (jf (sk (sr (Mz rfl (An rfl (rt (rs ?_))))))))))))
 have j:=H.pk []
 obtain rfl:_=d:=hr.symm.trans (et (iN a) (iN b))
 exact⟨rfl,j⟩
def uI (b:List UInt8) (a:List UInt8):Bool:=
 if a=([]) then true else decide (b < a)
theorem yY (w:World) (D:Nat→Prop) (c:List UInt8) (b:List UInt8) (g:Bool) (H:Own w D w []) (hr:uI c b=g):
    Calls y4 188 #[.string ⟨y6 c⟩, .string ⟨y6 b⟩] w (dR fun v w'=>v= .bool g∧Own w D w' []):=by
 refine cb Tryz.func188 ?_
 refine sr (Ar rfl (Mz rfl (fw (.bool (decide (b=([])))) (Ih rfl rfl) (Mz rfl ?_))))
 by_cases a:b=([])
 refine Sz (dT a) (Sz (dT a) (Sz (dT a) (fw (.bool true) (Gb rfl (dT a) rfl) (An rfl (rt (rs ?_))))))
 have d:=H.pk []
 obtain rfl:_=true:=hr.symm.trans (ip a)
 exact⟨rfl,d⟩
 refine gw (.string ⟨y6 c⟩) (dF a) (F7 rfl) (gw (.string ⟨y6 b⟩) (dF a) (F7 rfl) (gw (.bool (decide (c < b))) (dF a) (Gi (e:=Op.bytesLess c b) (IE rfl rfl) (Bv _ _)) (fw (.bool (decide (c < b))) (FX rfl (dF a) rfl) (An rfl (rt (rs ?_))))))
 have f:=H.pk []
 obtain rfl:_=decide (c < b):=hr.symm.trans (iN a)
 exact⟨rfl,f⟩
def mY (e:bL) (f:bL):bL × Bool:=
 bnd (ma e) fun b=>if b=0 then bnd (ma f) fun c=>if c=0 then bnd (rV e.bW f.bW) fun a=>bnd (uI (o7 e.bK f.bK) a) fun d=>if d=true then(bL.mk (o7 e.bK f.bK) a,true) else(bL.mk ([]) ([]),false) else(bL.mk ([]) ([]),false) else(bL.mk ([]) ([]),false)
theorem nJ (w:World) (D:Nat→Prop) (d:bL) (c:bL) (r0:bL) (r1:Bool) (H:Own w D w []) (hr:mY d c=(r0,r1)):
    Calls y4 163 #[.agg (bL.cells d).toArray, .agg (bL.cells c).toArray] w (dR fun v w'=>v= .tuple #[.agg (bL.cells r0).toArray, .bool r1]∧Own w D w' []):=by
 refine cb Tryz.func163 ?_
 refine sr ?_
 refine dM (bL.cells d) 38 H ?_
 intro B aP Z
 refine dM (bL.cells c) 38 Z ?_
 intro C aQ aa
 refine dM [.string ⟨y6 ([])⟩, .string ⟨y6 ([])⟩] 38 aa ?_
 intro aR aS E
 refine An rfl (FU (sr (La (bL.cells d) E 2 L7 L6 ?_)))
 obtain⟨s,f⟩:∃ q,ma d=q:=⟨_,rfl⟩
 obtain⟨aT,F,aG,G,aH⟩:=FY E
 refine cl Tryz.call116 (pR _ _ d s F f) ?_
 rintro _ aU ⟨rfl,I⟩
 have x:=G _ _ I
 refine fw (.bool (decide (¬ (s=0)))) (Gi (e:= !(decide (s=0))) yk decide_not.symm) (Mz rfl ?_)
 by_cases a:s=0
 refine gw (.agg (bL.cells c).toArray) (dF (JP a)) (F5 rfl (Gc (cs:=(bL.cells c)) L7 L6 ((x.cls (i:=1) rfl).lit (k:=0) (m:=2) rfl))) ?_
 obtain⟨h,g⟩:∃ q,ma c=q:=⟨_,rfl⟩
 obtain⟨aV,J,aI,K,aJ⟩:=FY x
 refine uX (dF (JP a)) Tryz.call116 (pR _ _ c h J g) ?_
 rintro _ aW ⟨rfl,L⟩
 have M:=K _ _ L
 refine gw (.bool (decide (¬ (h=0)))) (dF (JP a)) (Gi (e:= !(decide (h=0))) yk decide_not.symm) (fw (.bool (decide (¬ (h=0)))) (FX rfl (dF (JP a)) rfl) (nt ?_))
 by_cases j:h=0
 refine jF (dF (JP j)) (sk (FU ?_))
 refine Ca [] (F8 Gh) M ?_
 intro aX ae
 refine qp B 0 0 rfl (ql 1 rfl 2 C4 rfl rfl rfl (qp C 0 2 rfl (ql 3 rfl 1 C4 rfl rfl rfl (qt (v:= .string ⟨y6 (o7 d.bK c.bK)⟩) 4 rfl (fun _ _=>Ja rfl) (qp B 1 5 rfl (ql 6 rfl 2 C4 rfl rfl rfl (qp C 1 7 rfl (ql 8 rfl 1 C4 rfl rfl rfl ?_))))))))
 obtain⟨b,l⟩:∃ q,rV d.bW c.bW=q:=⟨_,rfl⟩
 refine Dv ⟨9,_,_,_,_,_,Unit,fun N=> .string ⟨y6 b⟩,fun _=>True,fun N=> []⟩ ⟨11,_,_,_,_,_,Nat,fun N=>vP N 0,fun _=>True,fun N=> [blk N [.string ⟨y6 ([])⟩, .string ⟨y6 ([])⟩] 38]⟩ 10 3 ae ⟨⟨rfl,rfl,rfl, ?_⟩,⟨rfl,rfl,rfl, ?_⟩,trivial⟩ rfl ?_
 intro aY L' af
 refine(GD (cs:= [.string ⟨y6 ([])⟩, .string ⟨y6 ([])⟩]) (t:=38) af rfl rfl (fun _=>by kernel_rfl) ?_)
 intro n aZ ag
 exact⟨n,rfl,trivial,ag⟩
 intro bf L' ah
 obtain⟨bg,O,aK,P,aL⟩:=FY ah
 refine(Gd Tryz.call187 rfl (xc _ _ d.bW c.bW b O l) ?_)
 rintro _ bi ⟨rfl,Q⟩
 have aj:=P _ _ Q
 exact⟨(),rfl,trivial,aj⟩
 rintro ⟨⟩ _
 refine⟨.agg #[.string ⟨y6 (o7 d.bK c.bK)⟩, .string ⟨y6 b⟩],fun _=>yk, ?_⟩
 rintro n _
 intro ak au
 have av:Own w D ak (blk n [.string ⟨y6 ([])⟩, .string ⟨y6 ([])⟩] 38::_):=au.flat.pf []
 have ax:=av.pb [0]
 have ay:=ax.pf [3]
 refine qe 12 rfl (Do.store (vs:= [.string ⟨y6 (o7 d.bK c.bK)⟩, .string ⟨y6 b⟩]) (o:=0) ay rfl rfl L6 rfl rfl rfl rfl ?_)
 intro bn az
 have R:=az.pb [0]
 refine⟨.inr ⟨_,R⟩, ?_⟩
 refine qn (FW (FU (FU ?_)))
 have y:=R.pk [0,3]
 refine FT (Kz (vP n 0) (Lz (.string ⟨y6 (o7 d.bK c.bK)⟩) y 1 C4 (Kz (vP n 1) (Lz (.string ⟨y6 b⟩) y 1 C4 ?_))))
 obtain⟨z,p⟩:∃ q,uI (o7 d.bK c.bK) b=q:=⟨_,rfl⟩
 obtain⟨bq,S,aM,T,aN⟩:=FY y
 refine cl Tryz.call188 (yY _ _ (o7 d.bK c.bK) b z S p) ?_
 rintro _ bu ⟨rfl,U⟩
 have A:=T _ _ U
 refine Kz (.bool (!z)) (nt ?_)
 rcases JQ (z) with r | r
 refine jF (cn r) (sk (sr (La ([.string ⟨y6 (o7 d.bK c.bK)⟩, .string ⟨y6 b⟩]) A 1 L7 L6 ?_)))
 refine dN [.string ⟨y6 (o7 d.bK c.bK)⟩, .string ⟨y6 b⟩] 0 A L6 ?_
 intro bv V
 refine An rfl (rt (Fin.res (kC (vs:= [.agg #[.string ⟨y6 (o7 d.bK c.bK)⟩, .string ⟨y6 b⟩], .bool true]) rfl (dS.cell rfl (Gc (cs:= [.string ⟨y6 (o7 d.bK c.bK)⟩, .string ⟨y6 b⟩]) L7 L6 ((V.cls (i:=0) rfl).lit (k:=0) (m:=2) rfl)) (dS.tmp rfl dS.nil)) (JM rfl)) ?_))
 have aA:=V.pk []
 obtain⟨rfl,rfl⟩:=gm (hr.symm.trans (show _=(bL.mk (o7 d.bK c.bK) b,true) from et (ai f) (et (ip a) (et (ai g) (et (ip j) (et (ai l) (et (ai p) (ip r))))))))
 exact⟨rfl,aA⟩
 refine jT (cn r) (sr (Kz (.agg #[.string ⟨y6 ([])⟩, .string ⟨y6 ([])⟩]) ?_))
 refine dN [.string ⟨y6 ([])⟩, .string ⟨y6 ([])⟩] 0 A L6 ?_
 intro bz W
 refine An rfl (rt (tR (Fin.res (kC (vs:= [.agg #[.string ⟨y6 ([])⟩, .string ⟨y6 ([])⟩], .bool false]) rfl (dS.cell rfl (Gc (cs:= [.string ⟨y6 ([])⟩, .string ⟨y6 ([])⟩]) L7 L6 ((W.cls (i:=0) rfl).lit (k:=0) (m:=2) rfl)) (dS.tmp rfl dS.nil)) (JM rfl)) ?_)))
 have aB:=W.pk []
 obtain⟨rfl,rfl⟩:=gm (hr.symm.trans (show _=(bL.mk ([]) ([]),false) from et (ai f) (et (ip a) (et (ai g) (et (ip j) (et (ai l) (et (ai p) (gB r))))))))
 exact⟨rfl,aB⟩
 refine jT (dT j) (sr (Kz (.agg #[.string ⟨y6 ([])⟩, .string ⟨y6 ([])⟩]) ?_))
 refine dN [.string ⟨y6 ([])⟩, .string ⟨y6 ([])⟩] 0 M L6 ?_
 intro bA X
 refine An rfl (rt (tR (Fin.res (kC (vs:= [.agg #[.string ⟨y6 ([])⟩, .string ⟨y6 ([])⟩], .bool false]) rfl (dS.cell rfl (Gc (cs:= [.string ⟨y6 ([])⟩, .string ⟨y6 ([])⟩]) L7 L6 ((X.cls (i:=0) rfl).lit (k:=0) (m:=2) rfl)) (dS.tmp rfl dS.nil)) (JM rfl)) ?_)))
 have aC:=X.pk []
 obtain⟨rfl,rfl⟩:=gm (hr.symm.trans (show _=(bL.mk ([]) ([]),false) from et (ai f) (et (ip a) (et (ai g) (iN j)))))
 exact⟨rfl,aC⟩
 refine Sz (dT a) (Sz (dT a) (Sz (dT a) (fw (.bool true) (Gb rfl (dT a) rfl) (nt (jt (sr (Kz (.agg #[.string ⟨y6 ([])⟩, .string ⟨y6 ([])⟩]) ?_)))))))
 refine dN [.string ⟨y6 ([])⟩, .string ⟨y6 ([])⟩] 0 x L6 ?_
 intro aO u
 refine An rfl (rt (tR (Fin.res (kC (vs:= [.agg #[.string ⟨y6 ([])⟩, .string ⟨y6 ([])⟩], .bool false]) rfl (dS.cell rfl (Gc (cs:= [.string ⟨y6 ([])⟩, .string ⟨y6 ([])⟩]) L7 L6 ((u.cls (i:=0) rfl).lit (k:=0) (m:=2) rfl)) (dS.tmp rfl dS.nil)) (JM rfl)) ?_)))
 have Y:=u.pk []
 obtain⟨rfl,rfl⟩:=gm (hr.symm.trans (show _=(bL.mk ([]) ([]),false) from et (ai f) (iN a)))
 exact⟨rfl,Y⟩
def gy (l0:List bv) (g:Int) (d:bC):List bv→List bC→Nat→(List bC)
  | [],b,c=>b
  | h::e,b,c=>if h.dV=g then bnd (l5 l0 ((c:Nat):Int)) fun f=>bnd (mY (bL.mk d.bK d.bW) f) fun a=>if a.2=true then gy l0 g d e (b++ [(bC.mk d.aH ([]) ([]) a.1.bK a.1.bW d.bU)]) (c+1) else gy l0 g d e b (c+1) else gy l0 g d e b (c+1)
def gz (l0:List bv) (h:Int) (e:bC):List bv→List bC→Nat→(List bC)
  | [],a,b=>a
  | g::d,a,b=>if g.dV=h then bnd (l5 l0 ((b:Nat):Int)) fun f=>bnd (mY (bL.mk e.bK e.bW) f) fun c=>if c.2=true then gz l0 h e d (a++ [(bC.mk e.aH ([]) ([]) c.1.bK c.1.bW e.bU)]) (b+1) else gz l0 h e d a (b+1) else gz l0 h e d a (b+1)
def pM (l0:List bv) (d:Int) (c:bC):(List bC):=
 if c.aH=4 then bnd (gy l0 d c l0 ([]) 0) fun sLrtL=>sLrtL else if c.aH=5 then bnd (gz l0 d c l0 ([]) 0) fun sLrftL=>sLrftL else bnd (tO l0 c.bY) fun a=>bnd (C2 l0 (D2 a) default) fun b=>bnd (if b.dV=d then [c] else []) fun sJrffbbJ=>sJrffbbJ
theorem yz (w:World) (D:Nat→Prop) (M:Option Addr) (n0 c0:Nat) (l0:List bv) (p:Int) (a:bC) (r0:List bC) (H:Own w D w []) (C:Ro w D fun w'=>bD w' 2 M n0 (q6 bv.cells l0)) (jg:n0=l0.length) (lI:l0.length *24≤211106232532992) (lJ:1≤l0.length∧l0.length≤6) (hr:pM l0 p a=r0):
    Calls y4 146 #[.slice M n0 c0,vI p, .agg (bC.cells a).toArray] w (dR fun v w'=> ∃ (B0:Option Addr) (b0:Nat),v= .slice B0 r0.length b0∧Own w D w' [row B0 r0.length b0 (q6 bC.cells r0) 72 6]∧(r0.length≤6)):=by
 subst jg
 refine cb Tryz.func146 ?_
 refine sr ?_
 refine dM (bC.cells a) 72 H ?_
 intro g eT aK
 refine Ar rfl (An rfl (FU (sr (Kz (vP g 0) (Lz (vI a.aH) aK 0 C6 (fw (.bool (decide (¬ (a.aH=4)))) (Gi (e:= !(decide (a.aH=4))) yk decide_not.symm) (Mz rfl ?_)))))))
 by_cases N:a.aH=4
 refine Sk rfl rfl (dF (JP N)) rfl (Sk rfl rfl (dF (JP N)) rfl (Sk rfl rfl (dF (JP N)) rfl (fw (.bool false) (FX rfl (dF (JP N)) rfl) (nt (jf (sk (FU (sr (Mz rfl (Kz (vJ l0.length) (Mn rfl (bo ?_))))))))))))
 have jh:Own w D eT [row none 0 0 (q6 bC.cells ([])) 72 6,blk g (bC.cells a) 72]:=aK.free (fB 72 6)
 have ji:=jh.pb [0]
 obtain⟨jk,E⟩:=rX fun(Z:Option Addr) (aa:Nat) (f:List bC) (c:Nat) (w':World)=>Own w D w' [blk g (bC.cells a) 72,row Z f.length aa (q6 bC.cells f) 72 6]∧c≤l0.length∧f.length≤c∧gy l0 p a l0 ([]) 0=gy l0 p a (r6 c l0) f c
 refine C5 (fun i:(Option Addr) × Nat × (List bC) × Nat=> [(7, .slice i.1 i.2.2.1.length i.2.1),(36,vJ i.2.2.2),(35,vJ l0.length),(6, .slice none 0 0),(5,vP g 0),(0, .slice M l0.length c0),(1,vI p)]) jk (fun i=>l0.length - i.2.2.2) (none,0, [],0) ⟨rfl,rfl,rfl,rfl,rfl,rfl,rfl,trivial⟩ (E.2 ⟨ji,(show 0≤l0.length∧0≤0∧gy l0 p a l0 ([]) 0=gy l0 p a (r6 0 l0) ([]) 0 from ⟨e6,e6,rfl⟩)⟩) ?_
 rintro ⟨Z,aa,f,c⟩ lK eU
 obtain⟨aL,j4,j5,G⟩:=E.1 eU
 refine sr (Kz (.bool (decide (((c:Nat):Int) < ((l0.length:Nat):Int)))) (nt (FU ?_)))
 by_cases eX:((c:Nat):Int) < ((l0.length:Nat):Int)
 obtain⟨bB,bE⟩:=dK (ls:=l0) (i:=c) bv.len f3 (aL.ro C) e9
 have O:=drop_at bE
 refine jT (dT eX) (sk (FU (bo (sr (Mz rfl (An rfl (FU (sr (Mz rfl (Mz rfl (fw (.pointer (some ⟨ab M,ao M+c *2,none⟩)) (FZ (qy) rfl rfl ((aL.ro C).addr (i:=c) e6) e6) (Kz (.pointer (some ⟨ab M,ao M+c *2+1,none⟩)) (fw (vI bB.dV) (F5 rfl (bZ.one C6 (((aL.ro C).elem bv.len bE f3).at_ (k:=1) rfl))) (Mz rfl (fw (.bool (decide (¬ (bB.dV=p)))) (Gi (e:= !(decide (bB.dV=p))) yk decide_not.symm) (nt ?_))))))))))))))))
 by_cases Y:bB.dV=p
 refine jF (dF (JP Y)) (sk (FU ?_))
 refine pG [] (F8 (bP.block (F8 (F8 (bP.block (F8 Gh)))))) aL ?_
 intro lL eY
 refine qp g 3 0 rfl (ql 1 rfl 0 C4 rfl rfl rfl (qp g 4 2 rfl (ql 3 rfl 0 C4 rfl rfl rfl (qk (.agg #[.string ⟨y6 a.bK⟩, .string ⟨y6 a.bW⟩]) 4 rfl (qv 5 rfl rfl (qv 6 rfl rfl ?_))))))
 refine Hg 7 12 e7 ?_ ?_
 obtain⟨aN,ae⟩:∃ q,l5 l0 ((c:Nat):Int)=q:=⟨_,rfl⟩
 obtain⟨lM,fe,fo,fq,j6⟩:=FY eY
 refine GY.do 7 rfl e7 (Gd M8 rfl (nY _ _ M l0.length c0 l0 ((c:Nat):Int) aN fe (fo _ C) rfl e6 e6 ae) ?_)
 rintro _ lN ⟨rfl,fu⟩
 have di:=fq _ _ fu
 refine⟨.inr ⟨_,di⟩, ?_⟩
 refine Hg 8 12 e7 ?_ ?_
 obtain⟨⟨u,dm⟩,aO⟩:∃ q:bL × Bool,mY (bL.mk a.bK a.bW) aN=q:=⟨_,rfl⟩
 obtain⟨lQ,fA,kg,fC,ko⟩:=FY di
 refine GY.do 8 rfl e7 (Gd M9 rfl (nJ _ _ (bL.mk a.bK a.bW) aN u dm fA aO) ?_)
 rintro _ lS ⟨rfl,fD⟩
 have fE:=fC _ _ fD
 refine⟨.inr ⟨_,fE⟩, ?_⟩
 refine qv 9 rfl rfl (qk (.agg (bL.cells u).toArray) 10 rfl (qk (.bool dm) 11 rfl ?_))
 refine qd 12 rfl (GD (cs:= [.string ⟨y6 ([])⟩, .string ⟨y6 ([])⟩]) (t:=38) fE rfl rfl (fun _=>by kernel_rfl) ?_)
 intro fG lT jl
 have fH:=jl.pb [0]
 refine⟨.inr ⟨_,fH⟩, ?_⟩
 have jm:=fH.pf [2]
 refine qe 13 rfl (Do.store (vs:=(bL.cells u)) (o:=0) jm rfl rfl L6 rfl rfl rfl rfl ?_)
 intro lU jo
 have av:=jo.pb [0]
 refine⟨.inr ⟨_,av⟩, ?_⟩
 refine qa 14 rfl rfl (qn (FW (sr (Mn rfl ?_))))
 rcases JQ (dm) with aP | aP
 refine jT aP (FT (Mz rfl (Kz (vP g 0) (Lz (vI a.aH) av 0 C6 (Kz (vP fG 0) (Lz (.string ⟨y6 u.bK⟩) av 2 C4 (Kz (vP fG 1) (Lz (.string ⟨y6 u.bW⟩) av 2 C4 (Kz (vP g 5) (Lz (vI a.bU) av 0 C6 (Kz (.agg #[vI a.aH, .string ⟨y6 ([])⟩, .string ⟨y6 ([])⟩, .string ⟨y6 u.bK⟩, .string ⟨y6 u.bW⟩,vI a.bU]) ?_)))))))))))
 refine kL [vI a.aH, .string ⟨y6 ([])⟩, .string ⟨y6 ([])⟩, .string ⟨y6 u.bK⟩, .string ⟨y6 u.bW⟩,vI a.bU] 72 6 1 av ?_
 intro jq lV dn
 replace dn:=Gq (y:=row jq 1 1 (q6 bC.cells ([(bC.mk a.aH ([]) ([]) u.bK u.bW a.bU)])) 72 6) rfl dn
 have fI:=dn.pf [2]
 refine WL.do rfl (Gr (k:=f.length) (m:=1) (qx) fI rfl rfl (iU B1 (fI.rds (i:=1) rfl) (fF bC.one ([(bC.mk a.aH ([]) ([]) u.bK u.bW a.bU)]))) rfl e6 (s:=s2 (f++ [(bC.mk a.aH ([]) ([]) u.bK u.bW a.bU)])) f7 (r7).symm ?_)
 intro jr jv lW jw
 have kr:s2 (f++ [(bC.mk a.aH ([]) ([]) u.bK u.bW a.bU)])=f.length+1:=by simp only [p5,s3,G1]
 refine Az rfl (D0 (bN (FW (FT (fw (vJ (c+1)) (FV (e:=C7.wrap (((c:Nat):Int)+1)) yk f1) (Mz rfl (D0 ?_)))))))
 have jy:=jw.pk [2,0]
 exact F9 (jr,jv,(f++ [(bC.mk a.aH ([]) ([]) u.bK u.bW a.bU)]),c+1) ⟨rfl,rfl,rfl,rfl,rfl,rfl,rfl,trivial⟩ (E.2 ⟨jy,e6,e6,et (G) (et (congrArg (fun q=>gy l0 p a q f c) O) (et (ip Y) (et (ai ae) (et (ai aO) (ip aP)))))⟩) (by show l0.length - (c+1) < l0.length - c; omega)
 refine jF aP (Gj (bN (FW (FT (fw (vJ (c+1)) (FV (e:=C7.wrap (((c:Nat):Int)+1)) yk f1) (Mz rfl (D0 ?_)))))))
 have jA:=av.pk [0,1]
 exact F9 (Z,aa,f,c+1) ⟨rfl,rfl,rfl,rfl,rfl,rfl,rfl,trivial⟩ (E.2 ⟨jA,e6,e6,et (G) (et (congrArg (fun q=>gy l0 p a q f c) O) (et (ip Y) (et (ai ae) (et (ai aO) (gB aP)))))⟩) (by show l0.length - (c+1) < l0.length - c; omega)
 refine GY.do 12 rfl e7 (GD (cs:= [.string ⟨y6 ([])⟩, .string ⟨y6 ([])⟩]) (t:=38) di rfl rfl (fun _=>by kernel_rfl) ?_)
 intro fJ lX jB
 have fK:=jB.pb [0]
 refine⟨.inr ⟨_,fK⟩, ?_⟩
 obtain⟨⟨x,dw⟩,aQ⟩:∃ q:bL × Bool,mY (bL.mk a.bK a.bW) aN=q:=⟨_,rfl⟩
 obtain⟨lY,fM,ku,fO,kv⟩:=FY fK
 refine qd 8 rfl (Gd M9 rfl (nJ _ _ (bL.mk a.bK a.bW) aN x dw fM aQ) ?_)
 rintro _ kw ⟨rfl,dx⟩
 have bF:=fO _ _ dx
 refine⟨.inr ⟨_,bF⟩, ?_⟩
 refine qv 9 rfl rfl (qk (.agg (bL.cells x).toArray) 10 rfl (qk (.bool dw) 11 rfl ?_))
 have fP:=bF.pf [2]
 refine qe 13 rfl (Do.store (vs:=(bL.cells x)) (o:=0) fP rfl rfl L6 rfl rfl rfl rfl ?_)
 intro ky fQ
 have P:=fQ.pb [0]
 refine⟨.inr ⟨_,P⟩, ?_⟩
 refine qa 14 rfl rfl (qn (FW (sr (Mn rfl ?_))))
 rcases JQ (dw) with af | af
 refine jT af (FT (Mz rfl (Kz (vP g 0) (Lz (vI a.aH) P 0 C6 (Kz (vP fJ 0) (Lz (.string ⟨y6 x.bK⟩) P 2 C4 (Kz (vP fJ 1) (Lz (.string ⟨y6 x.bW⟩) P 2 C4 (Kz (vP g 5) (Lz (vI a.bU) P 0 C6 (Kz (.agg #[vI a.aH, .string ⟨y6 ([])⟩, .string ⟨y6 ([])⟩, .string ⟨y6 x.bK⟩, .string ⟨y6 x.bW⟩,vI a.bU]) ?_)))))))))))
 refine kL [vI a.aH, .string ⟨y6 ([])⟩, .string ⟨y6 ([])⟩, .string ⟨y6 x.bK⟩, .string ⟨y6 x.bW⟩,vI a.bU] 72 6 1 P ?_
 intro fT kz aR
 replace aR:=Gq (y:=row fT 1 1 (q6 bC.cells ([(bC.mk a.aH ([]) ([]) x.bK x.bW a.bU)])) 72 6) rfl aR
 have bG:=aR.pf [2]
 refine WL.do rfl (Gr (k:=f.length) (m:=1) (qx) bG rfl rfl (iU B1 (bG.rds (i:=1) rfl) (fF bC.one ([(bC.mk a.aH ([]) ([]) x.bK x.bW a.bU)]))) rfl e6 (s:=s2 (f++ [(bC.mk a.aH ([]) ([]) x.bK x.bW a.bU)])) f7 (r7).symm ?_)
 intro fU fV kC fZ
 have jC:s2 (f++ [(bC.mk a.aH ([]) ([]) x.bK x.bW a.bU)])=f.length+1:=by simp only [p5,s3,G1]
 refine Az rfl (D0 (bN (FW (FT (fw (vJ (c+1)) (FV (e:=C7.wrap (((c:Nat):Int)+1)) yk f1) (Mz rfl (D0 ?_)))))))
 have gm:=fZ.pk [2,0]
 exact F9 (fU,fV,(f++ [(bC.mk a.aH ([]) ([]) x.bK x.bW a.bU)]),c+1) ⟨rfl,rfl,rfl,rfl,rfl,rfl,rfl,trivial⟩ (E.2 ⟨gm,e6,e6,et (G) (et (congrArg (fun q=>gy l0 p a q f c) O) (et (ip Y) (et (ai ae) (et (ai aQ) (ip af)))))⟩) (by show l0.length - (c+1) < l0.length - c; omega)
 refine jF af (Gj (bN (FW (FT (fw (vJ (c+1)) (FV (e:=C7.wrap (((c:Nat):Int)+1)) yk f1) (Mz rfl (D0 ?_)))))))
 have gp:=P.pk [0,1]
 exact F9 (Z,aa,f,c+1) ⟨rfl,rfl,rfl,rfl,rfl,rfl,rfl,trivial⟩ (E.2 ⟨gp,e6,e6,et (G) (et (congrArg (fun q=>gy l0 p a q f c) O) (et (ip Y) (et (ai ae) (et (ai aQ) (gB af)))))⟩) (by show l0.length - (c+1) < l0.length - c; omega)
 refine GY.do 12 rfl e7 (GD (cs:= [.string ⟨y6 ([])⟩, .string ⟨y6 ([])⟩]) (t:=38) eY rfl rfl (fun _=>by kernel_rfl) ?_)
 intro bH kD gq
 have bI:=gq.pb [0]
 refine⟨.inr ⟨_,bI⟩, ?_⟩
 obtain⟨aS,ax⟩:∃ q,l5 l0 ((c:Nat):Int)=q:=⟨_,rfl⟩
 obtain⟨kE,dz,dA,dB,jD⟩:=FY bI
 refine qd 7 rfl (Gd M8 rfl (nY _ _ M l0.length c0 l0 ((c:Nat):Int) aS dz (dA _ C) rfl e6 e6 ax) ?_)
 rintro _ kF ⟨rfl,dC⟩
 have bK:=dB _ _ dC
 refine⟨.inr ⟨_,bK⟩, ?_⟩
 obtain⟨⟨h,aT⟩,ay⟩:∃ q:bL × Bool,mY (bL.mk a.bK a.bW) aS=q:=⟨_,rfl⟩
 obtain⟨kG,dD,jE,dE,jG⟩:=FY bK
 refine qd 8 rfl (Gd M9 rfl (nJ _ _ (bL.mk a.bK a.bW) aS h aT dD ay) ?_)
 rintro _ kH ⟨rfl,dG⟩
 have bM:=dE _ _ dG
 refine⟨.inr ⟨_,bM⟩, ?_⟩
 refine qv 9 rfl rfl (qk (.agg (bL.cells h).toArray) 10 rfl (qk (.bool aT) 11 rfl ?_))
 have gu:=bM.pf [2]
 refine qe 13 rfl (Do.store (vs:=(bL.cells h)) (o:=0) gu rfl rfl L6 rfl rfl rfl rfl ?_)
 intro kI gD
 have Q:=gD.pb [0]
 refine⟨.inr ⟨_,Q⟩, ?_⟩
 refine qa 14 rfl rfl (qn (FW (sr (Mn rfl ?_))))
 rcases JQ (aT) with ag | ag
 refine jT ag (FT (Mz rfl (Kz (vP g 0) (Lz (vI a.aH) Q 0 C6 (Kz (vP bH 0) (Lz (.string ⟨y6 h.bK⟩) Q 2 C4 (Kz (vP bH 1) (Lz (.string ⟨y6 h.bW⟩) Q 2 C4 (Kz (vP g 5) (Lz (vI a.bU) Q 0 C6 (Kz (.agg #[vI a.aH, .string ⟨y6 ([])⟩, .string ⟨y6 ([])⟩, .string ⟨y6 h.bK⟩, .string ⟨y6 h.bW⟩,vI a.bU]) ?_)))))))))))
 refine kL [vI a.aH, .string ⟨y6 ([])⟩, .string ⟨y6 ([])⟩, .string ⟨y6 h.bK⟩, .string ⟨y6 h.bW⟩,vI a.bU] 72 6 1 Q ?_
 intro gF kJ aU
 replace aU:=Gq (y:=row gF 1 1 (q6 bC.cells ([(bC.mk a.aH ([]) ([]) h.bK h.bW a.bU)])) 72 6) rfl aU
 have bO:=aU.pf [2]
 refine WL.do rfl (Gr (k:=f.length) (m:=1) (qx) bO rfl rfl (iU B1 (bO.rds (i:=1) rfl) (fF bC.one ([(bC.mk a.aH ([]) ([]) h.bK h.bW a.bU)]))) rfl e6 (s:=s2 (f++ [(bC.mk a.aH ([]) ([]) h.bK h.bW a.bU)])) f7 (r7).symm ?_)
 intro gG gH kK gI
 have jH:s2 (f++ [(bC.mk a.aH ([]) ([]) h.bK h.bW a.bU)])=f.length+1:=by simp only [p5,s3,G1]
 refine Az rfl (D0 (bN (FW (FT (fw (vJ (c+1)) (FV (e:=C7.wrap (((c:Nat):Int)+1)) yk f1) (Mz rfl (D0 ?_)))))))
 have gJ:=gI.pk [2,0]
 exact F9 (gG,gH,(f++ [(bC.mk a.aH ([]) ([]) h.bK h.bW a.bU)]),c+1) ⟨rfl,rfl,rfl,rfl,rfl,rfl,rfl,trivial⟩ (E.2 ⟨gJ,e6,e6,et (G) (et (congrArg (fun q=>gy l0 p a q f c) O) (et (ip Y) (et (ai ax) (et (ai ay) (ip ag)))))⟩) (by show l0.length - (c+1) < l0.length - c; omega)
 refine jF ag (Gj (bN (FW (FT (fw (vJ (c+1)) (FV (e:=C7.wrap (((c:Nat):Int)+1)) yk f1) (Mz rfl (D0 ?_)))))))
 have gK:=Q.pk [0,1]
 exact F9 (Z,aa,f,c+1) ⟨rfl,rfl,rfl,rfl,rfl,rfl,rfl,trivial⟩ (E.2 ⟨gK,e6,e6,et (G) (et (congrArg (fun q=>gy l0 p a q f c) O) (et (ip Y) (et (ai ax) (et (ai ay) (gB ag)))))⟩) (by show l0.length - (c+1) < l0.length - c; omega)
 refine jT (dT Y) (D1 (F4 (Gg (FW (FT (fw (vJ (c+1)) (FV (e:=C7.wrap (((c:Nat):Int)+1)) yk f1) (Mz rfl (D0 ?_))))))))
 have gL:=aL.pf []
 exact F9 (Z,aa,f,c+1) ⟨rfl,rfl,rfl,rfl,rfl,rfl,rfl,trivial⟩ (E.2 ⟨gL,e6,e6,et (G) (et (congrArg (fun q=>gy l0 p a q f c) O) (iN Y))⟩) (by show l0.length - (c+1) < l0.length - c; omega)
 refine jF (dF eX) (D1 (F4 ?_))
 have dH:gy l0 p a l0 ([]) 0=f:=et (G) (et (congrArg (fun q=>gy l0 p a q f c) (eZ (ls:=l0) (i:=c) e6)) rfl)
 refine F4 (Gg (FW (FU ?_)))
 have gM:=aL.pk [1]
 refine FT (Mz rfl (An rfl (rt (rs ?_))))
 have gN:=gM.pf []
 obtain rfl:_=f:=hr.symm.trans (et (ip N) (ai dH))
 exact⟨Z,aa,rfl,gN,i5⟩
 refine Gz (vP g 0) (dT N) (Gl (vI a.aH) (dT N) aK 0 C6 (gw (.bool (decide (¬ (a.aH=5)))) (dT N) (Gi (e:= !(decide (a.aH=5))) yk decide_not.symm) (fw (.bool (decide (¬ (a.aH=5)))) (Gb rfl (dT N) rfl) (nt ?_))))
 by_cases aF:a.aH=5
 refine jF (dF (JP aF)) (sk (FU (sr (Mz rfl (Kz (vJ l0.length) (Mn rfl (bo ?_)))))))
 have gP:Own w D eT [row none 0 0 (q6 bC.cells ([])) 72 6,blk g (bC.cells a) 72]:=aK.free (fB 72 6)
 have gQ:=gP.pb [0]
 obtain⟨gT,z⟩:=rX fun(I:Option Addr) (J:Nat) (d:List bC) (b:Nat) (w':World)=>Own w D w' [blk g (bC.cells a) 72,row I d.length J (q6 bC.cells d) 72 6]∧b≤l0.length∧d.length≤b∧gz l0 p a l0 ([]) 0=gz l0 p a (r6 b l0) d b
 refine C5 (fun i:(Option Addr) × Nat × (List bC) × Nat=> [(7, .slice i.1 i.2.2.1.length i.2.1),(36,vJ i.2.2.2),(35,vJ l0.length),(6, .slice none 0 0),(5,vP g 0),(0, .slice M l0.length c0),(1,vI p)]) gT (fun i=>l0.length - i.2.2.2) (none,0, [],0) ⟨rfl,rfl,rfl,rfl,rfl,rfl,rfl,trivial⟩ (z.2 ⟨gQ,(show 0≤l0.length∧0≤0∧gz l0 p a l0 ([]) 0=gz l0 p a (r6 0 l0) ([]) 0 from ⟨e6,e6,rfl⟩)⟩) ?_
 rintro ⟨I,J,d,b⟩ kM dI
 obtain⟨V,jI,jJ,A⟩:=z.1 dI
 refine sr (Kz (.bool (decide (((b:Nat):Int) < ((l0.length:Nat):Int)))) (nt (FU ?_)))
 by_cases bQ:((b:Nat):Int) < ((l0.length:Nat):Int)
 obtain⟨aG,aV⟩:=dK (ls:=l0) (i:=b) bv.len f3 (V.ro C) e9
 have B:=drop_at aV
 refine jT (dT bQ) (sk (FU (bo (sr (Mz rfl (An rfl (FU (sr (Mz rfl (Mz rfl (fw (.pointer (some ⟨ab M,ao M+b *2,none⟩)) (FZ (qy) rfl rfl ((V.ro C).addr (i:=b) e6) e6) (Kz (.pointer (some ⟨ab M,ao M+b *2+1,none⟩)) (fw (vI aG.dV) (F5 rfl (bZ.one C6 (((V.ro C).elem bv.len aV f3).at_ (k:=1) rfl))) (Mz rfl (fw (.bool (decide (¬ (aG.dV=p)))) (Gi (e:= !(decide (aG.dV=p))) yk decide_not.symm) (nt ?_))))))))))))))))
 by_cases F:aG.dV=p
 refine jF (dF (JP F)) (sk (FU ?_))
 refine pG [] (F8 (bP.block (F8 (F8 (bP.block (F8 Gh)))))) V ?_
 intro kN bR
 refine qp g 3 0 rfl (ql 1 rfl 0 C4 rfl rfl rfl (qp g 4 2 rfl (ql 3 rfl 0 C4 rfl rfl rfl (qk (.agg #[.string ⟨y6 a.bK⟩, .string ⟨y6 a.bW⟩]) 4 rfl (qv 5 rfl rfl (qv 6 rfl rfl ?_))))))
 refine Hg 7 12 e7 ?_ ?_
 obtain⟨ah,R⟩:∃ q,l5 l0 ((b:Nat):Int)=q:=⟨_,rfl⟩
 obtain⟨kP,dJ,dL,dN,jK⟩:=FY bR
 refine GY.do 7 rfl e7 (Gd M8 rfl (nY _ _ M l0.length c0 l0 ((b:Nat):Int) ah dJ (dL _ C) rfl e6 e6 R) ?_)
 rintro _ kQ ⟨rfl,dO⟩
 have aW:=dN _ _ dO
 refine⟨.inr ⟨_,aW⟩, ?_⟩
 refine Hg 8 12 e7 ?_ ?_
 obtain⟨⟨j,aX⟩,az⟩:∃ q:bL × Bool,mY (bL.mk a.bK a.bW) ah=q:=⟨_,rfl⟩
 obtain⟨kR,dP,jL,dQ,jM⟩:=FY aW
 refine GY.do 8 rfl e7 (Gd M9 rfl (nJ _ _ (bL.mk a.bK a.bW) ah j aX dP az) ?_)
 rintro _ kS ⟨rfl,dS⟩
 have bS:=dQ _ _ dS
 refine⟨.inr ⟨_,bS⟩, ?_⟩
 refine qv 9 rfl rfl (qk (.agg (bL.cells j).toArray) 10 rfl (qk (.bool aX) 11 rfl ?_))
 refine qd 12 rfl (GD (cs:= [.string ⟨y6 ([])⟩, .string ⟨y6 ([])⟩]) (t:=38) bS rfl rfl (fun _=>by kernel_rfl) ?_)
 intro bT kT gU
 have bU:=gU.pb [0]
 refine⟨.inr ⟨_,bU⟩, ?_⟩
 have gV:=bU.pf [2]
 refine qe 13 rfl (Do.store (vs:=(bL.cells j)) (o:=0) gV rfl rfl L6 rfl rfl rfl rfl ?_)
 intro kU gW
 have S:=gW.pb [0]
 refine⟨.inr ⟨_,S⟩, ?_⟩
 refine qa 14 rfl rfl (qn (FW (sr (Mn rfl ?_))))
 rcases JQ (aX) with aj | aj
 refine jT aj (FT (Mz rfl (Kz (vP g 0) (Lz (vI a.aH) S 0 C6 (Kz (vP bT 0) (Lz (.string ⟨y6 j.bK⟩) S 2 C4 (Kz (vP bT 1) (Lz (.string ⟨y6 j.bW⟩) S 2 C4 (Kz (vP g 5) (Lz (vI a.bU) S 0 C6 (Kz (.agg #[vI a.aH, .string ⟨y6 ([])⟩, .string ⟨y6 ([])⟩, .string ⟨y6 j.bK⟩, .string ⟨y6 j.bW⟩,vI a.bU]) ?_)))))))))))
 refine kL [vI a.aH, .string ⟨y6 ([])⟩, .string ⟨y6 ([])⟩, .string ⟨y6 j.bK⟩, .string ⟨y6 j.bW⟩,vI a.bU] 72 6 1 S ?_
 intro gX kV aY
 replace aY:=Gq (y:=row gX 1 1 (q6 bC.cells ([(bC.mk a.aH ([]) ([]) j.bK j.bW a.bU)])) 72 6) rfl aY
 have bV:=aY.pf [2]
 refine WL.do rfl (Gr (k:=d.length) (m:=1) (qx) bV rfl rfl (iU B1 (bV.rds (i:=1) rfl) (fF bC.one ([(bC.mk a.aH ([]) ([]) j.bK j.bW a.bU)]))) rfl e6 (s:=s2 (d++ [(bC.mk a.aH ([]) ([]) j.bK j.bW a.bU)])) f7 (r7).symm ?_)
 intro gY gZ kW ib
 have jN:s2 (d++ [(bC.mk a.aH ([]) ([]) j.bK j.bW a.bU)])=d.length+1:=by simp only [p5,s3,G1]
 refine Az rfl (D0 (bN (FW (FT (fw (vJ (b+1)) (FV (e:=C7.wrap (((b:Nat):Int)+1)) yk f1) (Mz rfl (D0 ?_)))))))
 have ic:=ib.pk [2,0]
 exact F9 (gY,gZ,(d++ [(bC.mk a.aH ([]) ([]) j.bK j.bW a.bU)]),b+1) ⟨rfl,rfl,rfl,rfl,rfl,rfl,rfl,trivial⟩ (z.2 ⟨ic,e6,e6,et (A) (et (congrArg (fun q=>gz l0 p a q d b) B) (et (ip F) (et (ai R) (et (ai az) (ip aj)))))⟩) (by show l0.length - (b+1) < l0.length - b; omega)
 refine jF aj (Gj (bN (FW (FT (fw (vJ (b+1)) (FV (e:=C7.wrap (((b:Nat):Int)+1)) yk f1) (Mz rfl (D0 ?_)))))))
 have ig:=S.pk [0,1]
 exact F9 (I,J,d,b+1) ⟨rfl,rfl,rfl,rfl,rfl,rfl,rfl,trivial⟩ (z.2 ⟨ig,e6,e6,et (A) (et (congrArg (fun q=>gz l0 p a q d b) B) (et (ip F) (et (ai R) (et (ai az) (gB aj)))))⟩) (by show l0.length - (b+1) < l0.length - b; omega)
 refine GY.do 12 rfl e7 (GD (cs:= [.string ⟨y6 ([])⟩, .string ⟨y6 ([])⟩]) (t:=38) aW rfl rfl (fun _=>by kernel_rfl) ?_)
 intro bW kX ik
 have bX:=ik.pb [0]
 refine⟨.inr ⟨_,bX⟩, ?_⟩
 obtain⟨⟨l,aZ⟩,aA⟩:∃ q:bL × Bool,mY (bL.mk a.bK a.bW) ah=q:=⟨_,rfl⟩
 obtain⟨kY,dU,jO,dV,jP⟩:=FY bX
 refine qd 8 rfl (Gd M9 rfl (nJ _ _ (bL.mk a.bK a.bW) ah l aZ dU aA) ?_)
 rintro _ kZ ⟨rfl,dW⟩
 have bY:=dV _ _ dW
 refine⟨.inr ⟨_,bY⟩, ?_⟩
 refine qv 9 rfl rfl (qk (.agg (bL.cells l).toArray) 10 rfl (qk (.bool aZ) 11 rfl ?_))
 have il:=bY.pf [2]
 refine qe 13 rfl (Do.store (vs:=(bL.cells l)) (o:=0) il rfl rfl L6 rfl rfl rfl rfl ?_)
 intro lc iq
 have T:=iq.pb [0]
 refine⟨.inr ⟨_,T⟩, ?_⟩
 refine qa 14 rfl rfl (qn (FW (sr (Mn rfl ?_))))
 rcases JQ (aZ) with ak | ak
 refine jT ak (FT (Mz rfl (Kz (vP g 0) (Lz (vI a.aH) T 0 C6 (Kz (vP bW 0) (Lz (.string ⟨y6 l.bK⟩) T 2 C4 (Kz (vP bW 1) (Lz (.string ⟨y6 l.bW⟩) T 2 C4 (Kz (vP g 5) (Lz (vI a.bU) T 0 C6 (Kz (.agg #[vI a.aH, .string ⟨y6 ([])⟩, .string ⟨y6 ([])⟩, .string ⟨y6 l.bK⟩, .string ⟨y6 l.bW⟩,vI a.bU]) ?_)))))))))))
 refine kL [vI a.aH, .string ⟨y6 ([])⟩, .string ⟨y6 ([])⟩, .string ⟨y6 l.bK⟩, .string ⟨y6 l.bW⟩,vI a.bU] 72 6 1 T ?_
 intro iw lg bf
 replace bf:=Gq (y:=row iw 1 1 (q6 bC.cells ([(bC.mk a.aH ([]) ([]) l.bK l.bW a.bU)])) 72 6) rfl bf
 have cu:=bf.pf [2]
 refine WL.do rfl (Gr (k:=d.length) (m:=1) (qx) cu rfl rfl (iU B1 (cu.rds (i:=1) rfl) (fF bC.one ([(bC.mk a.aH ([]) ([]) l.bK l.bW a.bU)]))) rfl e6 (s:=s2 (d++ [(bC.mk a.aH ([]) ([]) l.bK l.bW a.bU)])) f7 (r7).symm ?_)
 intro iy iA lh iB
 have jQ:s2 (d++ [(bC.mk a.aH ([]) ([]) l.bK l.bW a.bU)])=d.length+1:=by simp only [p5,s3,G1]
 refine Az rfl (D0 (bN (FW (FT (fw (vJ (b+1)) (FV (e:=C7.wrap (((b:Nat):Int)+1)) yk f1) (Mz rfl (D0 ?_)))))))
 have iC:=iB.pk [2,0]
 exact F9 (iy,iA,(d++ [(bC.mk a.aH ([]) ([]) l.bK l.bW a.bU)]),b+1) ⟨rfl,rfl,rfl,rfl,rfl,rfl,rfl,trivial⟩ (z.2 ⟨iC,e6,e6,et (A) (et (congrArg (fun q=>gz l0 p a q d b) B) (et (ip F) (et (ai R) (et (ai aA) (ip ak)))))⟩) (by show l0.length - (b+1) < l0.length - b; omega)
 refine jF ak (Gj (bN (FW (FT (fw (vJ (b+1)) (FV (e:=C7.wrap (((b:Nat):Int)+1)) yk f1) (Mz rfl (D0 ?_)))))))
 have iD:=T.pk [0,1]
 exact F9 (I,J,d,b+1) ⟨rfl,rfl,rfl,rfl,rfl,rfl,rfl,trivial⟩ (z.2 ⟨iD,e6,e6,et (A) (et (congrArg (fun q=>gz l0 p a q d b) B) (et (ip F) (et (ai R) (et (ai aA) (gB ak)))))⟩) (by show l0.length - (b+1) < l0.length - b; omega)
 refine GY.do 12 rfl e7 (GD (cs:= [.string ⟨y6 ([])⟩, .string ⟨y6 ([])⟩]) (t:=38) bR rfl rfl (fun _=>by kernel_rfl) ?_)
 intro cz ll iE
 have cB:=iE.pb [0]
 refine⟨.inr ⟨_,cB⟩, ?_⟩
 obtain⟨bg,aB⟩:∃ q,l5 l0 ((b:Nat):Int)=q:=⟨_,rfl⟩
 obtain⟨lm,dX,dY,dZ,jR⟩:=FY cB
 refine qd 7 rfl (Gd M8 rfl (nY _ _ M l0.length c0 l0 ((b:Nat):Int) bg dX (dY _ C) rfl e6 e6 aB) ?_)
 rintro _ lq ⟨rfl,d9⟩
 have cK:=dZ _ _ d9
 refine⟨.inr ⟨_,cK⟩, ?_⟩
 obtain⟨⟨n,bi⟩,aC⟩:∃ q:bL × Bool,mY (bL.mk a.bK a.bW) bg=q:=⟨_,rfl⟩
 obtain⟨lu,ed,jS,ek,jU⟩:=FY cK
 refine qd 8 rfl (Gd M9 rfl (nJ _ _ (bL.mk a.bK a.bW) bg n bi ed aC) ?_)
 rintro _ lv ⟨rfl,eu⟩
 have cO:=ek _ _ eu
 refine⟨.inr ⟨_,cO⟩, ?_⟩
 refine qv 9 rfl rfl (qk (.agg (bL.cells n).toArray) 10 rfl (qk (.bool bi) 11 rfl ?_))
 have iF:=cO.pf [2]
 refine qe 13 rfl (Do.store (vs:=(bL.cells n)) (o:=0) iF rfl rfl L6 rfl rfl rfl rfl ?_)
 intro lw iG
 have U:=iG.pb [0]
 refine⟨.inr ⟨_,U⟩, ?_⟩
 refine qa 14 rfl rfl (qn (FW (sr (Mn rfl ?_))))
 rcases JQ (bi) with au | au
 refine jT au (FT (Mz rfl (Kz (vP g 0) (Lz (vI a.aH) U 0 C6 (Kz (vP cz 0) (Lz (.string ⟨y6 n.bK⟩) U 2 C4 (Kz (vP cz 1) (Lz (.string ⟨y6 n.bW⟩) U 2 C4 (Kz (vP g 5) (Lz (vI a.bU) U 0 C6 (Kz (.agg #[vI a.aH, .string ⟨y6 ([])⟩, .string ⟨y6 ([])⟩, .string ⟨y6 n.bK⟩, .string ⟨y6 n.bW⟩,vI a.bU]) ?_)))))))))))
 refine kL [vI a.aH, .string ⟨y6 ([])⟩, .string ⟨y6 ([])⟩, .string ⟨y6 n.bK⟩, .string ⟨y6 n.bW⟩,vI a.bU] 72 6 1 U ?_
 intro iH lC bn
 replace bn:=Gq (y:=row iH 1 1 (q6 bC.cells ([(bC.mk a.aH ([]) ([]) n.bK n.bW a.bU)])) 72 6) rfl bn
 have cZ:=bn.pf [2]
 refine WL.do rfl (Gr (k:=d.length) (m:=1) (qx) cZ rfl rfl (iU B1 (cZ.rds (i:=1) rfl) (fF bC.one ([(bC.mk a.aH ([]) ([]) n.bK n.bW a.bU)]))) rfl e6 (s:=s2 (d++ [(bC.mk a.aH ([]) ([]) n.bK n.bW a.bU)])) f7 (r7).symm ?_)
 intro iI iJ lD iK
 have jV:s2 (d++ [(bC.mk a.aH ([]) ([]) n.bK n.bW a.bU)])=d.length+1:=by simp only [p5,s3,G1]
 refine Az rfl (D0 (bN (FW (FT (fw (vJ (b+1)) (FV (e:=C7.wrap (((b:Nat):Int)+1)) yk f1) (Mz rfl (D0 ?_)))))))
 have iL:=iK.pk [2,0]
 exact F9 (iI,iJ,(d++ [(bC.mk a.aH ([]) ([]) n.bK n.bW a.bU)]),b+1) ⟨rfl,rfl,rfl,rfl,rfl,rfl,rfl,trivial⟩ (z.2 ⟨iL,e6,e6,et (A) (et (congrArg (fun q=>gz l0 p a q d b) B) (et (ip F) (et (ai aB) (et (ai aC) (ip au)))))⟩) (by show l0.length - (b+1) < l0.length - b; omega)
 refine jF au (Gj (bN (FW (FT (fw (vJ (b+1)) (FV (e:=C7.wrap (((b:Nat):Int)+1)) yk f1) (Mz rfl (D0 ?_)))))))
 have iM:=U.pk [0,1]
 exact F9 (I,J,d,b+1) ⟨rfl,rfl,rfl,rfl,rfl,rfl,rfl,trivial⟩ (z.2 ⟨iM,e6,e6,et (A) (et (congrArg (fun q=>gz l0 p a q d b) B) (et (ip F) (et (ai aB) (et (ai aC) (gB au)))))⟩) (by show l0.length - (b+1) < l0.length - b; omega)
 refine jT (dT F) (D1 (F4 (Gg (FW (FT (fw (vJ (b+1)) (FV (e:=C7.wrap (((b:Nat):Int)+1)) yk f1) (Mz rfl (D0 ?_))))))))
 have iO:=V.pf []
 exact F9 (I,J,d,b+1) ⟨rfl,rfl,rfl,rfl,rfl,rfl,rfl,trivial⟩ (z.2 ⟨iO,e6,e6,et (A) (et (congrArg (fun q=>gz l0 p a q d b) B) (iN F))⟩) (by show l0.length - (b+1) < l0.length - b; omega)
 refine jF (dF bQ) (D1 (F4 ?_))
 have eB:gz l0 p a l0 ([]) 0=d:=et (A) (et (congrArg (fun q=>gz l0 p a q d b) (eZ (ls:=l0) (i:=b) e6)) rfl)
 refine F4 (Gg (FW (FU ?_)))
 have iP:=V.pk [1]
 refine FT (Mz rfl (An rfl (rt (rs ?_))))
 have iQ:=iP.pf []
 obtain rfl:_=d:=hr.symm.trans (et (iN N) (et (ip aF) (ai eB)))
 exact⟨I,J,rfl,iQ,i5⟩
 refine jT (dT aF) (FU (sr (Mz rfl (Mz rfl (Kz (vP g 1) (Lz (.string ⟨y6 a.bY⟩) aK 0 C4 ?_))))))
 obtain⟨K,bq⟩:∃ q,tO l0 a.bY=q:=⟨_,rfl⟩
 obtain⟨lF,eD,eF,eG,jW⟩:=FY aK
 refine cl Tryz.call162 (yx _ _ M l0.length c0 l0 a.bY K eD (eF _ C) rfl e6 i5 bq) ?_
 rintro _ iR ⟨rfl,eH,bu⟩
 have W:=eG _ _ eH
 replace bu:0≤K∧K < ((l0.length:Nat):Int):=bu
 obtain⟨X,bz⟩:=dK (ls:=l0) (i:=D2 K) bv.len f3 (W.ro C) e9
 refine fw (.pointer (some ⟨ab M,ao M+(D2 K) *2,none⟩)) (FZ (qy) rfl (Ei (r:=K) rfl e6) ((W.ro C).addr (i:=D2 K) e6) e6) (Kz (.pointer (some ⟨ab M,ao M+(D2 K) *2+1,none⟩)) (fw (vI X.dV) (F5 rfl (bZ.one C6 (((W.ro C).elem bv.len bz f3).at_ (k:=1) rfl))) (Mz rfl (Kz (.bool (decide (X.dV=p))) (nt ?_)))))
 obtain⟨iT,aD⟩:=qI fun(aH:Option Addr) (aI:Nat) (L:List bC) (w':World)=>Own w D w' [blk g (bC.cells a) 72,row aH L.length aI (q6 bC.cells L) 72 6]∧0≤L.length∧L.length≤1∧(if X.dV=p then [a] else [])=L
 refine GA (fun i:(Option Addr) × Nat × (List bC)=> [(7, .slice i.1 i.2.2.length i.2.1),(6, .slice none 0 0),(5,vP g 0),(0, .slice M l0.length c0),(1,vI p)]) iT ?_ ?_
 by_cases aJ:X.dV=p
 refine jT (dT aJ) (FT (Mz rfl (La (bC.cells a) W 0 Tryz.isAgg72 Tryz.sizeOf72 ?_)))
 refine kL (bC.cells a) 72 6 1 W ?_
 intro df iV bA
 replace bA:=Gq (y:=row df 1 1 (q6 bC.cells ([a])) 72 6) rfl bA
 have dh:Own w D iV [row none 0 0 (q6 bC.cells ([])) 72 6,row df 1 1 (q6 bC.cells ([a])) 72 6,blk g (bC.cells a) 72]:=bA.free (fB 72 6)
 refine WL.do rfl (Gr (k:=0) (m:=1) (qx) dh rfl rfl (iU B1 (dh.rds (i:=1) rfl) (fF bC.one ([a]))) rfl e6 (s:=1) e6 rfl ?_)
 intro iW iX lG iY
 refine Az rfl (D0 ?_)
 have iZ:=iY.pk [2,0]
 exact Gt (iW,iX, [a]) ⟨rfl,rfl,rfl,rfl,rfl,trivial⟩ (aD.2 ⟨iZ,(show 0≤s2 ([a])∧s2 ([a])≤1∧(if X.dV=p then [a] else [])=([a]) from ⟨e6,by first | omega | exact Nat.le_refl _ | exact JO _,ip aJ⟩)⟩)
 refine jF (dF aJ) (Gj ?_)
 have ja:Own w D iR [row none 0 0 (q6 bC.cells ([])) 72 6,blk g (bC.cells a) 72]:=W.free (fB 72 6)
 have jb:=ja.pb [0]
 exact Gt (none,0, []) ⟨rfl,rfl,rfl,rfl,rfl,trivial⟩ (aD.2 ⟨jb,(show 0≤s2 ([])∧0≤1∧(if X.dV=p then [a] else [])=([]) from ⟨e6,by first | omega | exact Nat.le_refl _ | exact JO _,iN aJ⟩)⟩)
 rintro ⟨aH,aI,L⟩ lH eO
 obtain⟨jc,jX,jY,eP⟩:=aD.1 eO
 refine sr (Mz rfl (An rfl (rt (tR (rs ?_)))))
 have jd:=jc.pk [1]
 obtain rfl:_=L:=hr.symm.trans (et (iN N) (et (iN aF) (et (ai bq) (et (ai (bJ bz)) (ai eP)))))
 exact⟨aH,aI,rfl,jd,i5⟩
def qH (a:Nat):Nat × Nat:=
 (((0 *(a / 4294967296))+(((0 *(a % 4294967296))+((1 *(a % 4294967296)) / 4294967296)) / 4294967296))+(((((0 *(a % 4294967296))+((1 *(a % 4294967296)) / 4294967296)) % 4294967296)+(1 *(a / 4294967296))) / 4294967296),1 *a)
theorem vM (w:World) (D:Nat→Prop) (g:Int) (a:Nat) (b:Nat) (c:Nat) (H:Own w D w []) (d:g=1) (h:a≤9223372036854775807) (hr:qH a=(b,c)):
    Calls y4 190 #[.int .u64 g,vU a] w (dR fun v w'=>v= .tuple #[vU b,vU c]∧Own w D w' []∧(b=0∧c=a)):=by
 subst d
 refine cb Tryz.func190 ?_
 refine sr (Az rfl (Ar rfl (Mz rfl (Kz (.int .u64 1) (Ar rfl (Mz rfl (Kz (.int .u64 0) (Ar rfl (Mz rfl (fw (vU (a % 4294967296)) (FV (e:=D3.wrap (((BitVec.ofInt 64 ((a:Nat):Int) &&& BitVec.ofInt 64 4294967295).toNat:Nat):Int)) yk (zy _ 32 f3 _ f3)) (Ar rfl (Mz rfl (fw (vU (a / 4294967296)) (FV (e:=J5 ((a:Nat):Int) 4294967296) yk (mV _ 32 _ f3)) (Ar rfl (Mz rfl (Mz rfl (fw (vU (1 *(a % 4294967296))) (FV (e:=D3.wrap (1 *((a % 4294967296:Nat):Int))) yk g8) (Az rfl ?_))))))))))))))))))
 refine ns (Mz rfl (Mz rfl (fw (vU (0 *(a % 4294967296))) (FV (e:=D3.wrap (0 *((a % 4294967296:Nat):Int))) yk g8) (Mz rfl (fw (.int .u64 (((1 *(a % 4294967296)) / 4294967296:Nat):Int)) (FV (e:=J5 ((1 *(a % 4294967296):Nat):Int) 4294967296) yk (mV _ 32 _ f3)) (fw (.int .u64 (((0 *(a % 4294967296))+((1 *(a % 4294967296)) / 4294967296):Nat):Int)) (FV (e:=D3.wrap (((0 *(a % 4294967296):Nat):Int)+(((1 *(a % 4294967296)) / 4294967296:Nat):Int))) yk g8) (Ar rfl (Mz rfl (fw (.int .u64 ((((0 *(a % 4294967296))+((1 *(a % 4294967296)) / 4294967296)) % 4294967296:Nat):Int)) (FV (e:=D3.wrap (((BitVec.ofInt 64 (((0 *(a % 4294967296))+((1 *(a % 4294967296)) / 4294967296):Nat):Int) &&& BitVec.ofInt 64 4294967295).toNat:Nat):Int)) yk (zy _ 32 f3 _ f3)) (Ar rfl (Mz rfl (fw (.int .u64 ((((0 *(a % 4294967296))+((1 *(a % 4294967296)) / 4294967296)) / 4294967296:Nat):Int)) (FV (e:=J5 (((0 *(a % 4294967296))+((1 *(a % 4294967296)) / 4294967296):Nat):Int) 4294967296) yk (mV _ 32 _ f3)) (Ar rfl (Mz rfl (Mz rfl (Mz rfl (fw (vU (1 *(a / 4294967296))) (FV (e:=D3.wrap (1 *((a / 4294967296:Nat):Int))) yk g8) (fw (.int .u64 (((((0 *(a % 4294967296))+((1 *(a % 4294967296)) / 4294967296)) % 4294967296)+(1 *(a / 4294967296)):Nat):Int)) (FV (e:=D3.wrap (((((0 *(a % 4294967296))+((1 *(a % 4294967296)) / 4294967296)) % 4294967296:Nat):Int)+((1 *(a / 4294967296):Nat):Int))) yk g8) (Ar rfl (Mz rfl ?_))))))))))))))))))))
 refine Mz rfl (fw (vU (0 *(a / 4294967296))) (FV (e:=D3.wrap (0 *((a / 4294967296:Nat):Int))) yk g8) (Mz rfl (fw (.int .u64 (((0 *(a / 4294967296))+(((0 *(a % 4294967296))+((1 *(a % 4294967296)) / 4294967296)) / 4294967296):Nat):Int)) (FV (e:=D3.wrap (((0 *(a / 4294967296):Nat):Int)+((((0 *(a % 4294967296))+((1 *(a % 4294967296)) / 4294967296)) / 4294967296:Nat):Int))) yk g8) (Mz rfl (fw (.int .u64 ((((((0 *(a % 4294967296))+((1 *(a % 4294967296)) / 4294967296)) % 4294967296)+(1 *(a / 4294967296))) / 4294967296:Nat):Int)) (FV (e:=J5 (((((0 *(a % 4294967296))+((1 *(a % 4294967296)) / 4294967296)) % 4294967296)+(1 *(a / 4294967296)):Nat):Int) 4294967296) yk (mV _ 32 _ f3)) (fw (.int .u64 ((((0 *(a / 4294967296))+(((0 *(a % 4294967296))+((1 *(a % 4294967296)) / 4294967296)) / 4294967296))+(((((0 *(a % 4294967296))+((1 *(a % 4294967296)) / 4294967296)) % 4294967296)+(1 *(a / 4294967296))) / 4294967296):Nat):Int)) (FV (e:=D3.wrap ((((0 *(a / 4294967296))+(((0 *(a % 4294967296))+((1 *(a % 4294967296)) / 4294967296)) / 4294967296):Nat):Int)+((((((0 *(a % 4294967296))+((1 *(a % 4294967296)) / 4294967296)) % 4294967296)+(1 *(a / 4294967296))) / 4294967296:Nat):Int))) yk g8) (Ar rfl (Mz rfl (Mz rfl (fw (vU (1 *a)) (FV (e:=D3.wrap (1 *((a:Nat):Int))) yk g8) (An rfl (rt (Fin.res (lY rfl rfl rfl) ?_)))))))))))))
 have f:=H.pk []
 obtain⟨rfl,rfl⟩:=gm (hr.symm.trans (show _=(((0 *(a / 4294967296))+(((0 *(a % 4294967296))+((1 *(a % 4294967296)) / 4294967296)) / 4294967296))+(((((0 *(a % 4294967296))+((1 *(a % 4294967296)) / 4294967296)) % 4294967296)+(1 *(a / 4294967296))) / 4294967296),1 *a) from rfl))
 exact⟨rfl,f,e6⟩
def rW (b:Nat):Nat × Nat:=
 bnd (qH b) fun a=>(a.1,a.2)
theorem xe (w:World) (D:Nat→Prop) (n:Int) (e:Nat) (i:Nat) (j:Nat) (H:Own w D w []) (k:n=1) (r:e≤9223372036854775807) (hr:rW e=(i,j)):
    Calls y4 164 #[.int .u64 n,vU e] w (dR fun v w'=>v= .tuple #[vU i,vU j]∧Own w D w' []∧(i=0∧j=e)):=by
 subst k
 refine cb Tryz.func164 ?_
 refine sr (Az rfl (An rfl (FU (jf (sk (sr (Mz rfl (Mz rfl ?_))))))))
 obtain⟨⟨a,b⟩,c⟩:∃ q:Nat × Nat,qH e=q:=⟨_,rfl⟩
 obtain⟨s,f,o,g,p⟩:=FY H
 refine cl Tryz.call190 (vM _ _ 1 e a b f rfl e6 c) ?_
 rintro _ t ⟨rfl,h,d⟩
 have l:=g _ _ h
 replace d:a=0∧b=e:=d
 refine Mz rfl (Kz (vU a) (Kz (vU b) (Az rfl (Ar rfl (Mz rfl (Mz rfl (Az rfl (An rfl (rt (Fin.res (lY rfl rfl rfl) ?_))))))))))
 have m:=l.pk []
 obtain⟨rfl,rfl⟩:=gm (hr.symm.trans (show _=(a,b) from ai c))
 exact⟨rfl,m,e6⟩
def ky (b:Nat):Nat→Nat→List Int→(List Int)
  | 0,a,c=>default
  | d+1,a,c=>if((a:Nat):Int) < ((b:Nat):Int) then ky b d (a+(min a (b - a))) (r5 a c++(r5 (min a (b - a)) (r5 a c)++r6 (a+(min a (b - a))) c)) else c
def nK (l0:List Int) (b:Int):(List Int):=
 bnd (rW (D2 b)) fun a=>bnd (ky a.2 ((D2 b - (min l0.length a.2))+1) (min l0.length a.2) (r5 0 (s0 a.2 (0:Int))++(r5 (min l0.length a.2) l0++r6 (0+(min l0.length a.2)) (s0 a.2 (0:Int))))) fun sLrbL=>sLrbL
theorem sS (w:World) (D:Nat→Prop) (W:Option Addr) (K c0:Nat) (l0:List Int) (d:Int) (x:List Int) (H:Own w D w []) (L:Ro w D fun w'=>bD w' 1 W K (q6 (eI .i64) l0)) (M:K=l0.length) (ax:l0.length *8≤211106232532992) (ay:l0.length=1∧0≤d∧d *8≤140737488351232) (hr:nK l0 d=x):
    Calls y4 147 #[.slice W K c0,vI d] w (dR fun v w'=> ∃ (X:Option Addr) (Y:Nat),v= .slice X x.length Y∧Own w D w' [row X x.length Y (q6 (eI .i64) x) 3 1]∧(((x.length:Nat):Int)=d)):=by
 subst M
 refine cb Tryz.func147 ?_
 refine sr (An rfl (FU (sr (Mz rfl (Kz (.bool (decide (d < 0))) (nt ?_))))))
 have y:(decide (d < 0))=false:=(dF e6)
 refine jF y (sk (sr (Mz rfl (Kz (vJ l0.length) (fw (vU l0.length) (FV (e:=D3.wrap ((l0.length:Nat):Int)) yk (IntWalk.u64_in _ e6)) (fw (vJ (D2 d)) (FV (e:=d) (F7 rfl) e6) (fw (vU (D2 d)) (FV (e:=D3.wrap ((D2 d:Nat):Int)) yk (IntWalk.u64_in _ e6)) ?_)))))))
 obtain⟨⟨g,a⟩,o⟩:∃ q:Nat × Nat,rW (D2 d)=q:=⟨_,rfl⟩
 obtain⟨az,A,Z,B,aa⟩:=FY H
 refine cl Tryz.call164 (xe _ _ ((l0.length:Nat):Int) (D2 d) g a A e6 e6 o) ?_
 rintro _ aA ⟨rfl,C,p⟩
 have N:=B _ _ C
 replace p:g=0∧a=(D2 d):=p
 refine Mz rfl (Kz (vU g) (Kz (vU a) (Az rfl (An rfl (FU (sr (Mz rfl (Kz (.bool (decide (((g:Nat):Int) > 0))) (Mz rfl ?_)))))))))
 have h:(decide (((g:Nat):Int) > 0))=false:=(dF e6)
 refine GK (v:=vU a) rfl rfl h rfl (F7 rfl) (Gz (.bool (decide (((a:Nat):Int) > 9223372036854775807))) h (fw (.bool (decide (((a:Nat):Int) > 9223372036854775807))) (FX rfl h rfl) (nt ?_)))
 have E:(decide (((a:Nat):Int) > 9223372036854775807))=false:=(dF e6)
 refine jF E (sk (sr (Mz rfl (fw (vJ a) (FV (e:=C7.wrap ((a:Nat):Int)) yk (JN _ e6)) ?_))))
 refine WL.do rfl (G8 (x0:=(0:Int)) (z:=vI 0) (k:=a) (size:=1) (bytes:=8) iI f3 rfl G4 e7 N rfl rfl e6 (by unfold maxLen; omega) ?_)
 intro f aB s
 have ae:s2 (s0 a (0:Int))=a:=H7
 refine Ar rfl (Mz rfl (Mz rfl ?_))
 refine WL.do rfl (IU (lo:=0) (k:=min l0.length a) (ng) s rfl (fun hp=>by rw [Nat.zero_mul,Nat.add_zero]; exact(s.rds (i:=0) rfl).isSome e6) e6 rfl (s.ro L) (fF uV l0) e6 (zm iI _ _ _ _ e9) ?_)
 intro aC O
 have af:s2 (r5 0 (s0 a (0:Int))++(r5 (min l0.length a) l0++r6 (0+(min l0.length a)) (s0 a (0:Int))))=a:=by simp only [p5,p3,p4,H7]; omega
 refine An rfl (FU (bo ?_))
 have P:=O.pf []
 obtain⟨Q,j⟩:=qI fun(b:Nat) (c:List Int) (l:Nat) (w':World)=>Own w D w' [row f a a (q6 (eI .i64) c) 3 1]∧c.length=a∧((b:Nat):Int)≤d∧(1≤b∨d=0)∧D2 d - b < l∧ky a ((D2 d - (min l0.length a))+1) (min l0.length a) (r5 0 (s0 a (0:Int))++(r5 (min l0.length a) l0++r6 (0+(min l0.length a)) (s0 a (0:Int))))=ky a l b c
 refine C5 (fun i:Nat × (List Int) × Nat=> [(8,vJ i.1),(7, .slice f a a),(4, .slice none 0 0)]) Q (fun i=>i.2.2) (min l0.length a,(r5 0 (s0 a (0:Int))++(r5 (min l0.length a) l0++r6 (0+(min l0.length a)) (s0 a (0:Int)))),(D2 d - (min l0.length a))+1) ⟨rfl,rfl,rfl,trivial⟩ (j.2 ⟨P,by first | omega | (simp only [H6] <;> omega) | (simp only [H7]),e6,e6,e6,rfl⟩) ?_
 rintro ⟨b,c,l⟩ R F
 obtain⟨G,ag,ah,aj,ak,r⟩:=j.1 F
 obtain⟨t,I⟩:∃ q,l=q+1:=⟨l - 1,e6⟩
 subst I
 refine FU (sr (Mz rfl (Mz rfl (Kz (vJ a) (Kz (.bool (decide (((b:Nat):Int) < ((a:Nat):Int)))) (nt ?_))))))
 by_cases n:((b:Nat):Int) < ((a:Nat):Int)
 refine jT (dT n) (sk (bo ?_))
 refine vg [7] (bP.block (F8 (bP.block (F8 Gh)))) G ?_
 intro aD u
 refine Gs (v:=vJ b) 0 rfl e7 (fun _=>F7 rfl) (qv 1 rfl rfl (qv 2 rfl rfl (qt (v:= .slice (jC f b 1 a) (a - b) (a - b)) 3 rfl (fun _ _=>Gw (ng) rfl rfl e6) (qv 4 rfl rfl (qv 5 rfl rfl (qt (v:= .slice f b a) 6 rfl (fun _ _=>GQ (ng) rfl rfl e6) ?_))))))
 refine qd 7 rfl (IU (lo:=b) (k:=min b (a - b)) (ng) u rfl (fun _=>kR ((u.rds (i:=0) rfl).addr (i:=b) e6) e6) e6 rfl (IR (hi:=b) iI (u.rds (i:=0) rfl) e6) (fF uV (r5 b c)) e6 (zm iI _ _ _ _ e9) ?_)
 intro aF S
 have au:s2 (r5 b c++(r5 (min b (a - b)) (r5 b c)++r6 (b+(min b (a - b))) c))=a:=by simp only [p5,p3,p4,H7]; omega
 refine⟨.inl e7, ?_⟩
 refine Gs (v:=vI ((b+(min b (a - b)):Nat):Int)) 8 rfl e7 (fun _=>FV (e:=C7.wrap (((b:Nat):Int)+((min b (a - b):Nat):Int))) yk f1) (Gs (v:=vI ((b+(min b (a - b)):Nat):Int)) 9 rfl e7 (fun _=>Hd rfl) (qn (bN ?_)))
 have T:=S.pf []
 exact F9 (b+(min b (a - b)),(r5 b c++(r5 (min b (a - b)) (r5 b c)++r6 (b+(min b (a - b))) c)),t) ⟨rfl,rfl,rfl,trivial⟩ (j.2 ⟨T,by first | omega | (simp only [H6] <;> omega) | (simp only [H7]),e6,e6,e6,Eq.trans (r) (if_pos n)⟩) (by show t < t+1; omega)
 refine jF (dF n) (D1 (F4 ?_))
 have J:ky a ((D2 d - (min l0.length a))+1) (min l0.length a) (r5 0 (s0 a (0:Int))++(r5 (min l0.length a) l0++r6 (0+(min l0.length a)) (s0 a (0:Int))))=c:=et (r) (iN n)
 refine F4 (Gg (FW (sr (Mz rfl (An rfl (rt (rs ?_)))))))
 have m:a=c.length:=by first | omega | (simp only [H6]; done) | (simp only [H6,p5,s3,G1,p3,p4,H7]; omega)
 have U:Own w D R [row f c.length a (q6 (eI .i64) c) 3 1]:=by rw [← m]; exact G
 have V:=U.pf []
 obtain rfl:_=c:=hr.symm.trans (et (ai o) (ai J))
 exact⟨f,a,(by first | rfl | (rw [← m]; done) | (rw [← m]; rfl)),V,e6⟩
def kz (l0:List bv) (g:List gq) (f:Nat):List bC→Nat→List bC→List Int→(List bC) × (List Int)
  | [],b,c,d=>(c,d)
  | h::i,b,c,d=>bnd (pM l0 ((f:Nat):Int) h) fun a=>bnd (nK ([((b:Nat):Int)]) ((a.length:Nat):Int)) fun e=>kz l0 g f i (b+1) (c++a) (d++e)
def iY (l0:List bv) (l1:List bC):Nat→List gq→Nat→(List gq)
  | 0,a,b=>a
  | c+1,a,b=>bnd (kz l0 a b l1 0 ([]) ([])) fun sLrbtbtLsL=>if((sLrbtbtLsL.1.length:Nat):Int) > 0 then iY l0 l1 c (a++ [(gq.mk ((b:Nat):Int) (E4 sLrbtbtLsL.1) (E4 sLrbtbtLsL.2))]) (b+1) else iY l0 l1 c a (b+1)
def lQ (l0:List bv) (l1:List bC):(List gq) × Int:=
 bnd (kM l0) fun a=>if a=0 then bnd (nX l1) fun b=>if b=0 then bnd (iY l0 l1 5 ([]) 0) fun sLrbtbtL=>(sLrbtbtL,0) else(([]:List gq),b) else(([]:List gq),a)
theorem zX (w:World) (D:Nat→Prop) (A0:Option Addr) (n0 c0:Nat) (l0:List bv) (L:Option Addr) (n1 c1:Nat) (l1:List bC) (r0:List gq) (r1:Int) (H:Own w D w []) (aQ:Ro w D fun w'=>bD w' 2 A0 n0 (q6 bv.cells l0)) (dx:n0=l0.length) (fG:l0.length *24≤211106232532992) (Y:Ro w D fun w'=>bD w' 6 L n1 (q6 bC.cells l1)) (dz:n1=l1.length) (fH:l1.length *80≤211106232532992) (hr:lQ l0 l1=(r0,r1)):
    Calls y4 127 #[.slice A0 n0 c0, .slice L n1 c1] w (dR fun v w'=> ∃ (B0:Option Addr) (b0:Nat) (e0:List bG),v= .tuple #[.slice B0 r0.length b0,vI r1]∧Own w D w' [row B0 r0.length b0 (q6 bG.cells e0) 172 3,sepL (q6 bG.own e0)]∧(List.map bG.abs e0=r0)):=by
 subst dx dz
 refine cb Tryz.func127 ?_
 refine sr (Az rfl (An rfl (FU (sr (Mz rfl ?_)))))
 obtain⟨J,F⟩:∃ q,kM l0=q:=⟨_,rfl⟩
 obtain⟨fI,aR,aS,aT,ed⟩:=FY H
 refine cl Tryz.call72 (qQ _ _ A0 l0.length c0 l0 J aR (aS _ aQ) rfl e6 F) ?_
 rintro _ aU ⟨rfl,aW,ah⟩
 have aX:=aT _ _ aW
 replace ah: ¬ (J=0)∨(1≤l0.length∧l0.length≤6):=ah
 refine Ar rfl (Mz rfl (fw (.bool (decide (¬ (J=0)))) (Gi (e:= !(decide (J=0))) yk decide_not.symm) (nt ?_)))
 by_cases M:J=0
 refine jF (dF (JP M)) (sk (FU (sr (Mz rfl ?_))))
 obtain⟨K,N⟩:∃ q,nX l1=q:=⟨_,rfl⟩
 obtain⟨fJ,aY,aZ,bf,ek⟩:=FY aX
 refine cl Tryz.call137 (wK _ _ L l1.length c1 l1 K aY (aZ _ Y) rfl e6 N) ?_
 rintro _ Z ⟨rfl,bg,aj⟩
 have bi:=bf _ _ bg
 replace aj: ¬ (K=0)∨(1≤l1.length∧l1.length≤4):=aj
 refine Ar rfl (Mz rfl (fw (.bool (decide (¬ (K=0)))) (Gi (e:= !(decide (K=0))) yk decide_not.symm) (nt ?_)))
 by_cases aa:K=0
 refine jF (dF (JP aa)) (sk (sr (An rfl (FU (sr (Mn rfl (bo ?_)))))))
 have dB:Own w D Z [sepL (q6 bG.own ([]))]:=bi.sepNil
 have dC:Own w D Z [row none 0 0 (q6 bG.cells ([])) 172 3,sepL (q6 bG.own ([]))]:=dB.free (fB 172 3)
 have dD:=dC.pf []
 obtain⟨dE,G⟩:=AQ fun(z:Option Addr) (A:Nat) (x:List bG) (d:List gq) (a:Nat) (w':World)=>Own w D w' [row z d.length A (q6 bG.cells x) 172 3,sepL (q6 bG.own x)]∧List.map bG.abs x=d∧a≤5∧d.length≤a∧iY l0 l1 5 ([]) 0=iY l0 l1 (5 - a) d a
 refine C5 (fun i:(Option Addr) × Nat × (List bG) × (List gq) × Nat=> [(8, .slice i.1 i.2.2.2.1.length i.2.1),(23,vJ i.2.2.2.2),(5,vI 0),(4, .slice none 0 0),(0, .slice A0 l0.length c0),(1, .slice L l1.length c1)]) dE (fun i=>5 - i.2.2.2.2) (none,0, [], [],0) ⟨rfl,rfl,rfl,rfl,rfl,rfl,trivial⟩ (G.2 ⟨dD,(show List.map bG.abs ([])=([])∧0≤5∧0≤0∧iY l0 l1 5 ([]) 0=iY l0 l1 (5 - 0) ([]) 0 from ⟨by exact rfl,e6,e6,rfl⟩)⟩) ?_
 rintro ⟨z,A,x,d,a⟩ fK bn
 obtain⟨bq,B,eu,eB,O⟩:=G.1 bn
 have eD:=az B
 refine sr (Kz (.bool (decide (((a:Nat):Int) < 5))) (nt (FU ?_)))
 by_cases bu:((a:Nat):Int) < 5
 refine jT (dT bu) (sk (FU (bo (sr (Mz rfl (Ar rfl (Mz rfl (Kz (.agg #[vJ a, .slice none 0 0, .slice none 0 0]) ?_))))))))
 refine dM [vI 0, .slice none 0 0, .slice none 0 0] 172 bq ?_
 intro C fM dG
 refine dN [vJ a, .slice none 0 0, .slice none 0 0] 0 dG Tryz.sizeOf172 ?_
 intro bz dH
 refine nt (FU (sr (Mz rfl (Kz (vJ l1.length) (Mn rfl (bo ?_))))))
 have dI:Own w D bz (row none 0 0 (q6 bC.cells ([])) 72 6::_):=dH.free (fB 72 6)
 have dJ:Own w D bz (row none 0 0 (q6 (eI .i64) ([])) 3 1::_):=dI.free (fB 3 1)
 have dL:=dJ.pb [1,0]
 obtain⟨dO,P⟩:=FL fun(g:Nat) (h:Option Addr) (j:Nat) (b:List bC) (p:Option Addr) (r:Nat) (c:List Int) (w':World)=>Own w D w' [blk C [vJ a, .slice h b.length j, .slice p c.length r] 172,row z d.length A (q6 bG.cells x) 172 3,sepL (q6 bG.own x),row h b.length j (q6 bC.cells b) 72 6,row p c.length r (q6 (eI .i64) c) 3 1]∧g≤l1.length∧b.length≤6 *g∧c.length≤6 *g∧kz l0 d a l1 0 ([]) ([])=kz l0 d a (r6 g l1) g b c
 refine C5 (fun i:Nat × (Option Addr) × Nat × (List bC) × (Option Addr) × Nat × (List Int)=> [(30,vJ i.1),(29,vJ l1.length),(28, .slice L l1.length c1),(10,vP C 0),(27, .agg #[vJ a, .slice none 0 0, .slice none 0 0]),(26,vJ a),(9,vJ a),(25,vJ a),(24, .bool (decide (((a:Nat):Int) < 5))),(8, .slice z d.length A),(23,vJ a),(5,vI 0),(4, .slice none 0 0),(0, .slice A0 l0.length c0),(1, .slice L l1.length c1)]) dO (fun i=>l1.length - i.1) (0,none,0, [],none,0, []) ⟨rfl,rfl,rfl,rfl,rfl,rfl,rfl,rfl,rfl,rfl,rfl,rfl,rfl,rfl,rfl,trivial⟩ (P.2 ⟨dL,(show 0≤l1.length∧0≤6 *0∧0≤6 *0∧kz l0 d a l1 0 ([]) ([])=kz l0 d a (r6 0 l1) 0 ([]) ([]) from ⟨e6,e6,e6,rfl⟩)⟩) ?_
 rintro ⟨g,h,j,b,p,r,c⟩ fO bA
 obtain⟨E,eF,eG,eH,ak⟩:=P.1 bA
 refine sr (Kz (.bool (decide (((g:Nat):Int) < ((l1.length:Nat):Int)))) (nt (FU ?_)))
 by_cases bB:((g:Nat):Int) < ((l1.length:Nat):Int)
 obtain⟨ae,au⟩:=dK (ls:=l1) (i:=g) bC.len f3 (E.ro Y) e9
 have bE:=drop_at au
 refine jT (dT bB) (sk (FU (bo (sr (Mz rfl (Ar rfl (Mz rfl (Mz rfl (Mz rfl (Mz rfl (fw (.pointer (some ⟨ab L,ao L+g *6,none⟩)) (FZ (qx) rfl rfl ((E.ro Y).addr (i:=g) e6) e6) (fw (.agg (bC.cells ae).toArray) (F5 rfl (Gc (cs:=(bC.cells ae)) Tryz.isAgg72 Tryz.sizeOf72 ((E.ro Y).elem bC.len au f3))) ?_))))))))))))
 obtain⟨u,Q⟩:∃ q,pM l0 ((a:Nat):Int) ae=q:=⟨_,rfl⟩
 obtain⟨fP,bF,bH,bI,eO⟩:=FY E
 refine cl Tryz.call146 (yz _ _ A0 l0.length c0 l0 ((a:Nat):Int) ae u bF (bH _ aQ) rfl e6 e6 Q) ?_
 rintro _ eP ⟨eQ,eT,rfl,aK,R⟩
 have S:=bI _ _ aK
 have dP:=S.rowC (i:=0) rfl
 replace R:u.length≤6:=R
 refine Ar rfl (Kz (vP C 1) (Lz (.slice h b.length j) S 1 Tryz.isAgg39 (Mz rfl ?_)))
 have av:=S.pf [4]
 refine WL.do rfl (Gr (k:=b.length) (m:=u.length) (qx) av rfl rfl (iU B1 (av.rds (i:=1) rfl) (fF bC.one u)) rfl e6 (s:=s2 (b++u)) f7 (r7).symm ?_)
 intro ax ay eU bJ
 have dQ:s2 (b++u)=b.length+u.length:=by simp only [p5,s3,G1]
 refine Kz (vP C 1) ?_
 have bK:=bJ.pf [2]
 refine dN [.slice ax (s2 (b++u)) ay] 1 bK Tryz.sizeOf39 ?_
 intro eX bL
 refine nt ?_
 refine FO [7,9] (bP.block (F8 (F8 (bP.block (F8 (bP.block (F8 (F8 (bP.block (F8 Gh)))))))))) bL ?_
 intro eY bM
 refine qp C 2 0 rfl (ql 1 rfl 0 Tryz.isAgg58 rfl rfl rfl (qv 2 rfl rfl (qv 4 rfl rfl (qk (vJ u.length) 5 rfl ?_))))
 refine qd 3 rfl (He (cs:= [vJ g]) (t:=3) (sz:=1) (m:=1) bM rfl rfl (fun _=>by kernel_rfl) rfl f3 ?_)
 intro aA fe T
 replace T:=Gq (y:=row aA 1 1 (q6 (eI .i64) ([((g:Nat):Int)])) 3 1) rfl T
 have aB:=T.pb [0]
 refine⟨.inr ⟨_,aB⟩, ?_⟩
 obtain⟨l,U⟩:∃ q,nK ([((g:Nat):Int)]) ((u.length:Nat):Int)=q:=⟨_,rfl⟩
 obtain⟨fo,aL,dS,aM,aN⟩:=FY aB
 refine qd 6 rfl (Gd Tryz.call147 rfl (sS _ _ aA 1 1 ([((g:Nat):Int)]) ((u.length:Nat):Int) l aL (aN _ 6 _ rfl aV) rfl i8 (by first | omega | exact⟨rfl,e6,e6⟩) U) ?_)
 rintro _ fq ⟨fu,fA,rfl,aO,V⟩
 have aC:=aM _ _ aO
 have dU:=aC.rowC (i:=0) rfl
 replace V:((l.length:Nat):Int)=((u.length:Nat):Int):=V
 have aD:=aC.pb [0,7]
 refine⟨.inr ⟨_,aD⟩, ?_⟩
 have aF:=aD.pf [5]
 refine qd 7 rfl (Gr (k:=c.length) (m:=l.length) (ng) aF rfl rfl (iU G4 (aF.rds (i:=6) rfl) (fF uV l)) rfl e6 (s:=s2 (c++l)) f7 (r7).symm ?_)
 intro aG aH fC bO
 have dV:s2 (c++l)=c.length+l.length:=by simp only [p5,s3,G1]
 refine⟨.inl e7, ?_⟩
 refine Gs (v:=vP C 2) 8 rfl e7 (fun _=>yk) ?_
 have bQ:=bO.pf [1]
 refine qe 9 rfl (Do.store (vs:= [.slice aG (s2 (c++l)) aH]) (o:=2) bQ rfl rfl Tryz.sizeOf58 rfl rfl rfl rfl ?_)
 intro fD bR
 refine⟨.inl e7, ?_⟩
 refine qn (bN (FW (FT (fw (vJ (g+1)) (FV (e:=C7.wrap (((g:Nat):Int)+1)) yk f1) (Mz rfl (D0 ?_))))))
 have bS:=bR.pk [0,4,5,2,1]
 exact F9 (g+1,ax,ay,(b++u),aG,aH,(c++l)) ⟨rfl,rfl,rfl,rfl,rfl,rfl,rfl,rfl,rfl,rfl,rfl,rfl,rfl,rfl,rfl,trivial⟩ (P.2 ⟨bS,e6,e6,e6,et (ak) (et (congrArg (fun q=>kz l0 d a q g b c) bE) (et (ai Q) (ai U)))⟩) (by show l1.length - (g+1) < l1.length - g; omega)
 refine jF (dF bB) (D1 (F4 ?_))
 have W:kz l0 d a l1 0 ([]) ([])=(b,c):=et (ak) (et (congrArg (fun q=>kz l0 d a q g b c) (eZ (ls:=l1) (i:=g) e6)) rfl)
 refine F4 (Gg (FW (sr (Kz (vP C 1) (Lz (.slice h b.length j) E 0 Tryz.isAgg39 (Kz (vJ b.length) (Kz (.bool (decide (((b.length:Nat):Int) > 0))) (nt ?_))))))))
 by_cases I:((b.length:Nat):Int) > 0
 refine jT (dT I) (FT (Mz rfl (La ([vJ a, .slice h b.length j, .slice p c.length r]) E 0 Tryz.isAgg172 Tryz.sizeOf172 ?_)))
 refine kL [vJ a, .slice h b.length j, .slice p c.length r] 172 3 1 E ?_
 intro bT fE X
 replace X:=Gq (y:=row bT 1 1 (q6 bG.cells ([(bG.mk ((a:Nat):Int) (H5 h j b) (H5 p r c))])) 172 3) rfl X
 have aI:=X.pb [0,1]
 refine WL.do rfl (Gr (k:=d.length) (m:=1) (tH) aI rfl rfl (iU Tryz.underlying103 (aI.rds (i:=4) rfl) (fF bG.one ([(bG.mk ((a:Nat):Int) (H5 h j b) (H5 p r c))]))) rfl e6 (s:=s2 (d++ [(gq.mk ((a:Nat):Int) (E4 b) (E4 c))])) f7 (r7).symm ?_)
 intro bU bV bW bX
 have bY:=bX.pb [0,4,5]
 have bZ:Own w D bW (sepL (q6 bG.own (x++ [(bG.mk ((a:Nat):Int) (H5 h j b) (H5 p r c))]))::_):=bY.sepAdd (L2:= [row h b.length j (q6 bC.cells b) 72 6,row p c.length r (q6 (eI .i64) c) 3 1]) (r7 (f:=bG.own) (xs:=x) (ys:= [(bG.mk ((a:Nat):Int) (H5 h j b) (H5 p r c))])).symm
 have dW:s2 (d++ [(gq.mk ((a:Nat):Int) (E4 b) (E4 c))])=d.length+1:=by simp only [p5,s3,G1]
 have dX:=az (oD (es:= [(bG.mk ((a:Nat):Int) (H5 h j b) (H5 p r c))]) (ms:= [(gq.mk ((a:Nat):Int) (E4 b) (E4 c))]) B rfl)
 refine Az rfl (D0 (bN (FW (FT (fw (vJ (a+1)) (FV (e:=C7.wrap (((a:Nat):Int)+1)) yk f1) (Mz rfl (D0 ?_)))))))
 have cu:=bZ.pk [1,0]
 exact F9 (bU,bV,(x++ [(bG.mk ((a:Nat):Int) (H5 h j b) (H5 p r c))]),(d++ [(gq.mk ((a:Nat):Int) (E4 b) (E4 c))]),a+1) ⟨rfl,rfl,rfl,rfl,rfl,rfl,trivial⟩ (G.2 ⟨cu,by exact(oD (es:= [(bG.mk ((a:Nat):Int) (H5 h j b) (H5 p r c))]) (ms:= [(gq.mk ((a:Nat):Int) (E4 b) (E4 c))]) B rfl),e6,e6,et (O) (et (congrArg (fun q=>iY l0 l1 q d a) (ry (n:=5) (i:=a) e6)) (et (ai W) (ip I)))⟩) (by show 5 - (a+1) < 5 - a; omega)
 refine jF (dF I) (Gj (bN (FW (FT (fw (vJ (a+1)) (FV (e:=C7.wrap (((a:Nat):Int)+1)) yk f1) (Mz rfl (D0 ?_)))))))
 have cz:=E.pk [1,2]
 exact F9 (z,A,x,d,a+1) ⟨rfl,rfl,rfl,rfl,rfl,rfl,trivial⟩ (G.2 ⟨cz,by exact B,e6,e6,et (O) (et (congrArg (fun q=>iY l0 l1 q d a) (ry (n:=5) (i:=a) e6)) (et (ai W) (iN I)))⟩) (by show 5 - (a+1) < 5 - a; omega)
 refine jF (dF bu) (D1 (F4 ?_))
 have aP:iY l0 l1 5 ([]) 0=d:=et (O) (et (congrArg (fun q=>iY l0 l1 q d a) (vZ (n:=5) (i:=a) e6)) rfl)
 refine F4 (Gg (FW (sr (Mz rfl (Az rfl (An rfl (rt (Fin.res (lY rfl rfl rfl) ?_))))))))
 have cB:=bq.pf []
 obtain⟨rfl,rfl⟩:=gm (hr.symm.trans (show _=(d,0) from et (ai F) (et (ip M) (et (ai N) (et (ip aa) (ai aP))))))
 exact⟨z,A,x,rfl,cB,B⟩
 refine jT (dT aa) (sr (Mz rfl (Az rfl (An rfl (rt (tR (Fin.res (lY rfl rfl rfl) ?_)))))))
 have cK:Own w D Z [sepL (q6 bG.own ([]))]:=bi.sepNil
 have cO:Own w D Z [row none 0 0 (q6 bG.cells ([])) 172 3,sepL (q6 bG.own ([]))]:=cK.free (fB 172 3)
 have cZ:=cO.pf []
 obtain⟨rfl,rfl⟩:=gm (hr.symm.trans (show _=(([]:List gq),K) from et (ai F) (et (ip M) (et (ai N) (iN aa)))))
 exact⟨none,0, [],rfl,cZ,rfl⟩
 refine jT (dT M) (sr (Mz rfl (Az rfl (An rfl (rt (tR (Fin.res (lY rfl rfl rfl) ?_)))))))
 have df:Own w D aU [sepL (q6 bG.own ([]))]:=aX.sepNil
 have dh:Own w D aU [row none 0 0 (q6 bG.cells ([])) 172 3,sepL (q6 bG.own ([]))]:=df.free (fB 172 3)
 have di:=dh.pf []
 obtain⟨rfl,rfl⟩:=gm (hr.symm.trans (show _=(([]:List gq),J) from et (ai F) (iN M)))
 exact⟨none,0, [],rfl,di,rfl⟩
end Go.Proofs.YtbkagebjhbphaaaGreat
