/-
 owner: operations cut.
-/
import Derived.Test.YtbkagebjhbphaaaGreatWc
namespace Go.Proofs.YtbkagebjhbphaaaGreat
open Int renaming fdiv→J4,toNat→D2
open IntKind renaming i64→C7,u64→D3
open List renaming drop→r6,flatMap→q6,flatMap_append→r7,getD→C2,length→s2,length_append→p5,length_cons→s3,length_drop→p4,length_nil→G0,length_replicate→H6,length_set→H5,length_take→p3,replicate→s0,take→r5,toArray→y6
open Ll renaming mk→E4
open Sv renaming mk→H3
open _root_.Go.Proofs.Tryz renaming call156→M7,call163→M8,isAgg3→C6,isAgg38→L6,isAgg9→C4,prog→y4,sizeOf38→L5,underlying39→B1,underlying58→G3
open WL renaming nil→D0
open Wp renaming exit→D1,loop→C5
set_option maxRecDepth 100000
open Go.RowKit
set_option linter.unusedVariables false
set_option linter.unusedSectionVars false
set_option linter.unusedSimpArgs false
def kE (d:List UInt8):List aW→Nat→Nat→Nat
  | [],b,a=>b
  | e::c,b,a=>if e.bG≤d then kE d c a (a+1) else kE d c b (a+1)
def tT (l0:List aW) (a:List UInt8):Int:=
 bnd (kE a l0 0 0) fun sLrL=>((sLrL:Nat):Int)
theorem yA (w D l u x l0 c t) (H:Own w D w []) (o:Ro w D fun w'=>bA w' 2 l u (q6 aW.cells l0)) (y:u=l0.length) (M:l0.length *24≤211106232532992) (N:1≤l0.length) (hr:tT l0 c=t):
    Calls y4 162 #[.slice l u x, .string ⟨y6 c⟩] w (dR fun v w'=>v=vI t∧Own w D w' []∧(0≤t∧t < ((l0.length:Nat):Int))):=by
 subst y
 refine cb Tryz.func162 ?_
 refine sr (Ar rfl (An rfl (FW (sr (Mz rfl (Kz (vJ l0.length) (Mn rfl (bo ?_))))))))
 have z:=H.pk []
 obtain⟨A,d⟩:=Em fun (b:Nat) (a:Nat) w'=>Own w D w' []∧a≤l0.length∧b≤a∧b≤a∧b≤l0.length∧0≤b∧b < l0.length∧kE c l0 0 0=kE c (r6 a l0) b a
 refine C5 (fun i:Nat × Nat=> [(5,vJ i.1),(9,vJ i.2),(8,vJ l0.length),(4,vI 0),(0, .slice l l0.length x),(1, .string ⟨y6 c⟩)]) A (fun i=>l0.length - i.2) (0,0) ⟨rfl,rfl,rfl,rfl,rfl,rfl,trivial⟩ (d.2 ⟨z,e6,e6,e6,e6,e6,e6,rfl⟩) ?_
 rintro ⟨b,a⟩ O p
 obtain⟨f,F,G,I,J,K,L,g⟩:=d.1 p
 refine sr (Kz (.bool (decide (((a:Nat):Int) < ((l0.length:Nat):Int)))) (nt (FW ?_)))
 by_cases r:((a:Nat):Int) < ((l0.length:Nat):Int)
 obtain⟨h,m⟩:=dK (ls:=l0) (i:=a) aW.len f3 (f.ro o) e9
 have n:=drop_at m
 refine jT (dT r) (sk (FW (bo (sr (Mz rfl (Ar rfl (Mz rfl (Mz rfl (fw (.pointer (some ⟨ab l,ao l+a *2,none⟩)) (F4 (qA) rfl rfl ((f.ro o).addr (i:=a) e6) e6) (Kz (.pointer (some ⟨ab l,ao l+a *2,none⟩)) (fw (.string ⟨y6 h.bG⟩) (F7 rfl (bX.one C4 (((f.ro o).elem aW.len m f3).at_ (k:=0) rfl))) (Mz rfl (fw (.bool (decide (h.bG≤c))) (Gm (e:=Op.bytesLess h.bG c || decide (h.bG=c)) (HV rfl rfl) (ze _ _)) (nt ?_))))))))))))))
 by_cases j:h.bG≤c
 refine jT (dT j) (FV (Mz rfl (Az rfl (D0 (bN (FY (FV (fw (vJ (a+1)) (FX (e:=C7.wrap (((a:Nat):Int)+1)) yk f1) (Mz rfl (D0 ?_))))))))))
 have B:=f.pk []
 exact Gc (a,a+1) ⟨rfl,rfl,rfl,rfl,rfl,rfl,trivial⟩ (d.2 ⟨B,e6,e6,e6,e6,e6,e6,et (g) (et (congrArg (fun q=>kE c q b a) n) (ip j))⟩) (by show l0.length - (a+1) < l0.length - a; omega)
 refine jF (dF j) (Gn (bN (FY (FV (fw (vJ (a+1)) (FX (e:=C7.wrap (((a:Nat):Int)+1)) yk f1) (Mz rfl (D0 ?_)))))))
 have C:=f.pk []
 exact Gc (b,a+1) ⟨rfl,rfl,rfl,rfl,rfl,rfl,trivial⟩ (d.2 ⟨C,e6,e6,e6,e6,e6,e6,et (g) (et (congrArg (fun q=>kE c q b a) n) (iN j))⟩) (by show l0.length - (a+1) < l0.length - a; omega)
 refine jF (dF r) (D1 (F6 ?_))
 have s:kE c l0 0 0=b:=et (g) (et (congrArg (fun q=>kE c q b a) (eZ (ls:=l0) (i:=a) e6)) rfl)
 refine F6 (Gi (FY (sr (Mz rfl (An rfl (rt (rs ?_)))))))
 have E:=f.pk []
 obtain rfl:_=((b:Nat):Int):=hr.symm.trans (ai s)
 exact⟨rfl,E,e6⟩
def l5 (l0:List aW) (c:Int):bI:=
 bnd (C2 l0 (D2 c) default) fun a=>if c+1 < ((l0.length:Nat):Int) then bnd (C2 l0 (D2 (c+1)) default) fun b=>bI.mk a.bG b.bG else bI.mk a.bG ([])
theorem og (w D h r C l0 b) (B:bI) (H:Own w D w []) (c:Ro w D fun w'=>bA w' 2 h r (q6 aW.cells l0)) (s:r=l0.length) (E:l0.length *24≤211106232532992) (F:0≤b∧b < ((l0.length:Nat):Int)) (hr:l5 l0 b=B):
    Calls y4 156 #[.slice h r C,vI b] w (dR fun v w'=>v= .agg (bI.cells B).toArray∧Own w D w' []):=by
 subst s
 refine cb Tryz.func156 ?_
 refine sr ?_
 refine dM [.string ⟨y6 ([])⟩, .string ⟨y6 ([])⟩] 38 H ?_
 intro G I j
 refine ns (Mz rfl (fw (vJ (D2 b)) (FX (e:=b) (F9 rfl) e6) ?_))
 obtain⟨a,g⟩:=dK (ls:=l0) (i:=D2 b) aW.len f3 (j.ro c) e9
 refine fw (.pointer (some ⟨ab h,ao h+(D2 b) *2,none⟩)) (F4 (qA) rfl rfl ((j.ro c).addr (i:=D2 b) e6) e6) (Kz (.pointer (some ⟨ab h,ao h+(D2 b) *2,none⟩)) (fw (.string ⟨y6 a.bG⟩) (F7 rfl (bX.one C4 (((j.ro c).elem aW.len g f3).at_ (k:=0) rfl))) (Kz (.agg #[.string ⟨y6 a.bG⟩, .string ⟨y6 ([])⟩]) ?_)))
 refine dM [.string ⟨y6 ([])⟩, .string ⟨y6 ([])⟩] 38 j ?_
 intro t J u
 refine dN [.string ⟨y6 a.bG⟩, .string ⟨y6 ([])⟩] 0 u L5 ?_
 intro K d
 refine nt (FW (sr (Mz rfl (fw (vI (b+1)) (FX (e:=C7.wrap (b+1)) yk g2) (Mz rfl (Kz (vJ l0.length) (Kz (.bool (decide (b+1 < ((l0.length:Nat):Int)))) (nt ?_))))))))
 by_cases l:b+1 < ((l0.length:Nat):Int)
 refine jT (dT l) (FV (Mz rfl (Mz rfl (fw (vJ (D2 (b+1))) (FX (e:=C7.wrap (b+1)) yk f1) ?_))))
 obtain⟨f,n⟩:=dK (ls:=l0) (i:=D2 (b+1)) aW.len f3 (d.ro c) e9
 refine fw (.pointer (some ⟨ab h,ao h+(D2 (b+1)) *2,none⟩)) (F4 (qA) rfl rfl ((d.ro c).addr (i:=D2 (b+1)) e6) e6) (Kz (.pointer (some ⟨ab h,ao h+(D2 (b+1)) *2,none⟩)) (fw (.string ⟨y6 f.bG⟩) (F7 rfl (bX.one C4 (((d.ro c).elem aW.len n f3).at_ (k:=0) rfl))) (Kz (vP t 1) ?_)))
 refine dN [.string ⟨y6 f.bG⟩] 1 d Tryz.sizeOf9 ?_
 intro L o
 refine ns (La ([.string ⟨y6 a.bG⟩, .string ⟨y6 f.bG⟩]) o 0 L6 L5 ?_)
 have x:=o.pb [0]
 refine dN [.string ⟨y6 a.bG⟩, .string ⟨y6 f.bG⟩] 0 x L5 ?_
 intro M p
 refine nt (rt (Fin.res (ni rfl rfl (Gf (cs:= [.string ⟨y6 a.bG⟩, .string ⟨y6 f.bG⟩]) L6 L5 ((p.cls (i:=0) rfl).lit (k:=0) (m:=2) rfl))) ?_))
 have y:=p.pk []
 obtain rfl:_=bI.mk a.bG f.bG:=hr.symm.trans (et (ai (bF g)) (et (ip l) (ai (bF n))))
 exact⟨rfl,y⟩
 refine jF (dF l) (sk (sr (La ([.string ⟨y6 a.bG⟩, .string ⟨y6 ([])⟩]) d 0 L6 L5 ?_)))
 have z:=d.pb [0]
 refine dN [.string ⟨y6 a.bG⟩, .string ⟨y6 ([])⟩] 0 z L5 ?_
 intro N q
 refine nt (rt (Fin.res (ni rfl rfl (Gf (cs:= [.string ⟨y6 a.bG⟩, .string ⟨y6 ([])⟩]) L6 L5 ((q.cls (i:=0) rfl).lit (k:=0) (m:=2) rfl))) ?_))
 have A:=q.pk []
 obtain rfl:_=bI.mk a.bG ([]):=hr.symm.trans (et (ai (bF g)) (iN l))
 exact⟨rfl,A⟩
def rX (a:List UInt8) (b:List UInt8):(List UInt8):=
 if a=([]) then b else if b≠([]) then if b < a then b else a else a
theorem xg (w D d c k) (H:Own w D w []) (hr:rX d c=k):
    Calls y4 187 #[.string ⟨y6 d⟩, .string ⟨y6 c⟩] w (dR fun v w'=>v= .string ⟨y6 k⟩∧Own w D w' []):=by
 refine cb Tryz.func187 ?_
 refine sr (An rfl (FW (sr (Mz rfl (fw (.bool (decide (d=([])))) (Ij rfl rfl) (Mz rfl ?_))))))
 by_cases a:d=([])
 refine Sz (dT a) (Sz (dT a) (Sz (dT a) (Gw rfl rfl rfl (Gw rfl rfl rfl (Gw rfl rfl rfl (Sz (dT a) (fw (.bool true) (Gd rfl (dT a) rfl) (nt (jt (sr (Mz rfl (An rfl (rt (tR (rs ?_)))))))))))))))
 have g:=H.pk []
 obtain rfl:_=c:=hr.symm.trans (ip a)
 exact⟨rfl,g⟩
 refine gw (.string ⟨y6 c⟩) (dF a) (F9 rfl) (gw (.bool (decide (c≠([])))) (dF a) (Hq rfl rfl) (gw (.bool (decide (c≠([])))) (dF a) (F9 rfl) ?_))
 by_cases b:c≠([])
 refine gw (.string ⟨y6 c⟩) (dT b) (F9 rfl) (gw (.string ⟨y6 d⟩) (dT b) (F9 rfl) (gw (.bool (decide (c < d))) (dT b) (Gm (e:=Op.bytesLess c d) (II rfl rfl) (Bz _ _)) (gw (.bool (decide (c < d))) (dF a) (Gd rfl (dT b) rfl) (fw (.bool (decide (c < d))) (FZ rfl (dF a) rfl) (nt ?_)))))
 by_cases f:c < d
 refine jT (dT f) (sr (Mz rfl (An rfl (rt (tR (rs ?_))))))
 have h:=H.pk []
 obtain rfl:_=c:=hr.symm.trans (et (iN a) (et (ip b) (ip f)))
 exact⟨rfl,h⟩
 refine jF (dF f) (sk (sr (Mz rfl (An rfl (rt (rs ?_))))))
 have i:=H.pk []
 obtain rfl:_=d:=hr.symm.trans (et (iN a) (et (ip b) (iN f)))
 exact⟨rfl,i⟩
 refine Sz (dF b) (Sz (dF b) (Sz (dF b) (gw (.bool false) (dF a) (FZ rfl (dF b) rfl) (fw (.bool false) (FZ rfl (dF a) rfl) (nt (jf (sk (sr (Mz rfl (An rfl (rt (rs ?_))))))))))))
 have j:=H.pk []
 obtain rfl:_=d:=hr.symm.trans (et (iN a) (iN b))
 exact⟨rfl,j⟩
def uK (b:List UInt8) (a:List UInt8):Bool:=
 if a=([]) then true else decide (b < a)
theorem za (w D c b g) (H:Own w D w []) (hr:uK c b=g):
    Calls y4 188 #[.string ⟨y6 c⟩, .string ⟨y6 b⟩] w (dR fun v w'=>v= .bool g∧Own w D w' []):=by
 refine cb Tryz.func188 ?_
 refine sr (Ar rfl (Mz rfl (fw (.bool (decide (b=([])))) (Ij rfl rfl) (Mz rfl ?_))))
 by_cases a:b=([])
 refine Sz (dT a) (Sz (dT a) (Sz (dT a) (fw (.bool true) (Gd rfl (dT a) rfl) (An rfl (rt (rs ?_))))))
 have d:=H.pk []
 obtain rfl:_=true:=hr.symm.trans (ip a)
 exact⟨rfl,d⟩
 refine gw (.string ⟨y6 c⟩) (dF a) (F9 rfl) (gw (.string ⟨y6 b⟩) (dF a) (F9 rfl) (gw (.bool (decide (c < b))) (dF a) (Gm (e:=Op.bytesLess c b) (II rfl rfl) (Bz _ _)) (fw (.bool (decide (c < b))) (FZ rfl (dF a) rfl) (An rfl (rt (rs ?_))))))
 have f:=H.pk []
 obtain rfl:_=decide (c < b):=hr.symm.trans (iN a)
 exact⟨rfl,f⟩
def ng (e:bI) (f:bI):bI × Bool:=
 bnd (ma e) fun b=>if b=0 then bnd (ma f) fun c=>if c=0 then bnd (rX e.bU f.bU) fun a=>bnd (uK (o9 e.bG f.bG) a) fun d=>if d=true then(bI.mk (o9 e.bG f.bG) a,true) else(bI.mk ([]) ([]),false) else(bI.mk ([]) ([]),false) else(bI.mk ([]) ([]),false)
theorem nL (w D) (d:bI) (c:bI) (r0:bI) (r1) (H:Own w D w []) (hr:ng d c=(r0,r1)):
    Calls y4 163 #[.agg (bI.cells d).toArray, .agg (bI.cells c).toArray] w (dR fun v w'=>v= .tuple #[.agg (bI.cells r0).toArray, .bool r1]∧Own w D w' []):=by
 refine cb Tryz.func163 ?_
 refine sr ?_
 refine dM (bI.cells d) 38 H ?_
 intro B aP Z
 refine dM (bI.cells c) 38 Z ?_
 intro C aQ aa
 refine dM [.string ⟨y6 ([])⟩, .string ⟨y6 ([])⟩] 38 aa ?_
 intro aR aS E
 refine An rfl (FW (sr (La (bI.cells d) E 2 L6 L5 ?_)))
 obtain⟨s,f⟩:∃ q,ma d=q:=⟨_,rfl⟩
 obtain⟨aT,F,aG,G,aH⟩:=F3 E
 refine cl Tryz.call116 (pV _ _ d s F f) ?_
 rintro _ aU ⟨rfl,I⟩
 have x:=G _ _ I
 refine fw (.bool (decide (¬ (s=0)))) (Gm (e:= !(decide (s=0))) yk decide_not.symm) (Mz rfl ?_)
 by_cases a:s=0
 refine gw (.agg (bI.cells c).toArray) (dF (JR a)) (F7 rfl (Gf (cs:=(bI.cells c)) L6 L5 ((x.cls (i:=1) rfl).lit (k:=0) (m:=2) rfl))) ?_
 obtain⟨h,g⟩:∃ q,ma c=q:=⟨_,rfl⟩
 obtain⟨aV,J,aI,K,aJ⟩:=F3 x
 refine uZ (dF (JR a)) Tryz.call116 (pV _ _ c h J g) ?_
 rintro _ aW ⟨rfl,L⟩
 have M:=K _ _ L
 refine gw (.bool (decide (¬ (h=0)))) (dF (JR a)) (Gm (e:= !(decide (h=0))) yk decide_not.symm) (fw (.bool (decide (¬ (h=0)))) (FZ rfl (dF (JR a)) rfl) (nt ?_))
 by_cases j:h=0
 refine jF (dF (JR j)) (sk (FW ?_))
 refine Cc [] (Gb Gj) M ?_
 intro aX ae
 refine qp B 0 0 rfl (ql 1 rfl 2 C4 rfl rfl rfl (qp C 0 2 rfl (ql 3 rfl 1 C4 rfl rfl rfl (qt (v:= .string ⟨y6 (o9 d.bG c.bG)⟩) 4 rfl (fun _ _=>Jc rfl) (qp B 1 5 rfl (ql 6 rfl 2 C4 rfl rfl rfl (qp C 1 7 rfl (ql 8 rfl 1 C4 rfl rfl rfl ?_))))))))
 obtain⟨b,l⟩:∃ q,rX d.bU c.bU=q:=⟨_,rfl⟩
 refine Dx ⟨9,_,_,_,_,_,Unit,fun N=> .string ⟨y6 b⟩,fun _=>True,fun N=> []⟩ ⟨11,_,_,_,_,_,Nat,fun N=>vP N 0,fun _=>True,fun N=> [blk N [.string ⟨y6 ([])⟩, .string ⟨y6 ([])⟩] 38]⟩ 10 3 ae ⟨⟨rfl,rfl,rfl, ?_⟩,⟨rfl,rfl,rfl, ?_⟩,trivial⟩ rfl ?_
 intro aY L' af
 refine(GH (cs:= [.string ⟨y6 ([])⟩, .string ⟨y6 ([])⟩]) (t:=38) af rfl rfl (fun _=>by kernel_rfl) ?_)
 intro n aZ ag
 exact⟨n,rfl,trivial,ag⟩
 intro bf L' ah
 obtain⟨bg,O,aK,P,aL⟩:=F3 ah
 refine(Gg Tryz.call187 rfl (xg _ _ d.bU c.bU b O l) ?_)
 rintro _ bi ⟨rfl,Q⟩
 have aj:=P _ _ Q
 exact⟨(),rfl,trivial,aj⟩
 rintro ⟨⟩ _
 refine⟨.agg #[.string ⟨y6 (o9 d.bG c.bG)⟩, .string ⟨y6 b⟩],fun _=>yk, ?_⟩
 rintro n _
 intro ak au
 have av:Own w D ak (blk n [.string ⟨y6 ([])⟩, .string ⟨y6 ([])⟩] 38::_):=au.flat.pf []
 have ax:=av.pb [0]
 have ay:=ax.pf [3]
 refine qe 12 rfl (Do.store (vs:= [.string ⟨y6 (o9 d.bG c.bG)⟩, .string ⟨y6 b⟩]) (o:=0) ay rfl rfl L5 rfl rfl rfl rfl ?_)
 intro bn az
 have R:=az.pb [0]
 refine⟨.inr ⟨_,R⟩, ?_⟩
 refine qn (FY (FW (FW ?_)))
 have y:=R.pk [0,3]
 refine FV (Kz (vP n 0) (Lz (.string ⟨y6 (o9 d.bG c.bG)⟩) y 1 C4 (Kz (vP n 1) (Lz (.string ⟨y6 b⟩) y 1 C4 ?_))))
 obtain⟨z,p⟩:∃ q,uK (o9 d.bG c.bG) b=q:=⟨_,rfl⟩
 obtain⟨bq,S,aM,T,aN⟩:=F3 y
 refine cl Tryz.call188 (za _ _ (o9 d.bG c.bG) b z S p) ?_
 rintro _ bu ⟨rfl,U⟩
 have A:=T _ _ U
 refine Kz (.bool (!z)) (nt ?_)
 rcases JS (z) with r | r
 refine jF (cn r) (sk (sr (La ([.string ⟨y6 (o9 d.bG c.bG)⟩, .string ⟨y6 b⟩]) A 1 L6 L5 ?_)))
 refine dN [.string ⟨y6 (o9 d.bG c.bG)⟩, .string ⟨y6 b⟩] 0 A L5 ?_
 intro bv V
 refine An rfl (rt (Fin.res (kC (vs:= [.agg #[.string ⟨y6 (o9 d.bG c.bG)⟩, .string ⟨y6 b⟩], .bool true]) rfl (dS.cell rfl (Gf (cs:= [.string ⟨y6 (o9 d.bG c.bG)⟩, .string ⟨y6 b⟩]) L6 L5 ((V.cls (i:=0) rfl).lit (k:=0) (m:=2) rfl)) (dS.tmp rfl dS.nil)) (JO rfl)) ?_))
 have aA:=V.pk []
 obtain⟨rfl,rfl⟩:=gm (hr.symm.trans (show _=(bI.mk (o9 d.bG c.bG) b,true) from et (ai f) (et (ip a) (et (ai g) (et (ip j) (et (ai l) (et (ai p) (ip r))))))))
 exact⟨rfl,aA⟩
 refine jT (cn r) (sr (Kz (.agg #[.string ⟨y6 ([])⟩, .string ⟨y6 ([])⟩]) ?_))
 refine dN [.string ⟨y6 ([])⟩, .string ⟨y6 ([])⟩] 0 A L5 ?_
 intro bz W
 refine An rfl (rt (tR (Fin.res (kC (vs:= [.agg #[.string ⟨y6 ([])⟩, .string ⟨y6 ([])⟩], .bool false]) rfl (dS.cell rfl (Gf (cs:= [.string ⟨y6 ([])⟩, .string ⟨y6 ([])⟩]) L6 L5 ((W.cls (i:=0) rfl).lit (k:=0) (m:=2) rfl)) (dS.tmp rfl dS.nil)) (JO rfl)) ?_)))
 have aB:=W.pk []
 obtain⟨rfl,rfl⟩:=gm (hr.symm.trans (show _=(bI.mk ([]) ([]),false) from et (ai f) (et (ip a) (et (ai g) (et (ip j) (et (ai l) (et (ai p) (gB r))))))))
 exact⟨rfl,aB⟩
 refine jT (dT j) (sr (Kz (.agg #[.string ⟨y6 ([])⟩, .string ⟨y6 ([])⟩]) ?_))
 refine dN [.string ⟨y6 ([])⟩, .string ⟨y6 ([])⟩] 0 M L5 ?_
 intro bA X
 refine An rfl (rt (tR (Fin.res (kC (vs:= [.agg #[.string ⟨y6 ([])⟩, .string ⟨y6 ([])⟩], .bool false]) rfl (dS.cell rfl (Gf (cs:= [.string ⟨y6 ([])⟩, .string ⟨y6 ([])⟩]) L6 L5 ((X.cls (i:=0) rfl).lit (k:=0) (m:=2) rfl)) (dS.tmp rfl dS.nil)) (JO rfl)) ?_)))
 have aC:=X.pk []
 obtain⟨rfl,rfl⟩:=gm (hr.symm.trans (show _=(bI.mk ([]) ([]),false) from et (ai f) (et (ip a) (et (ai g) (iN j)))))
 exact⟨rfl,aC⟩
 refine Sz (dT a) (Sz (dT a) (Sz (dT a) (fw (.bool true) (Gd rfl (dT a) rfl) (nt (jt (sr (Kz (.agg #[.string ⟨y6 ([])⟩, .string ⟨y6 ([])⟩]) ?_)))))))
 refine dN [.string ⟨y6 ([])⟩, .string ⟨y6 ([])⟩] 0 x L5 ?_
 intro aO u
 refine An rfl (rt (tR (Fin.res (kC (vs:= [.agg #[.string ⟨y6 ([])⟩, .string ⟨y6 ([])⟩], .bool false]) rfl (dS.cell rfl (Gf (cs:= [.string ⟨y6 ([])⟩, .string ⟨y6 ([])⟩]) L6 L5 ((u.cls (i:=0) rfl).lit (k:=0) (m:=2) rfl)) (dS.tmp rfl dS.nil)) (JO rfl)) ?_)))
 have Y:=u.pk []
 obtain⟨rfl,rfl⟩:=gm (hr.symm.trans (show _=(bI.mk ([]) ([]),false) from et (ai f) (iN a)))
 exact⟨rfl,Y⟩
def gy (l0:List aW) (g:Int) (d:bv):List aW→List bv→Nat→(List bv)
  | [],b,c=>b
  | h::e,b,c=>if h.dV=g then bnd (l5 l0 ((c:Nat):Int)) fun f=>bnd (ng (bI.mk d.bG d.bU) f) fun a=>if a.2=true then gy l0 g d e (b++ [(bv.mk d.aG ([]) ([]) a.1.bG a.1.bU d.bS)]) (c+1) else gy l0 g d e b (c+1) else gy l0 g d e b (c+1)
def gz (l0:List aW) (h:Int) (e:bv):List aW→List bv→Nat→(List bv)
  | [],a,b=>a
  | g::d,a,b=>if g.dV=h then bnd (l5 l0 ((b:Nat):Int)) fun f=>bnd (ng (bI.mk e.bG e.bU) f) fun c=>if c.2=true then gz l0 h e d (a++ [(bv.mk e.aG ([]) ([]) c.1.bG c.1.bU e.bS)]) (b+1) else gz l0 h e d a (b+1) else gz l0 h e d a (b+1)
def pQ (l0:List aW) (d:Int) (c:bv):(List bv):=
 if c.aG=4 then bnd (gy l0 d c l0 ([]) 0) fun sLrtL=>sLrtL else if c.aG=5 then bnd (gz l0 d c l0 ([]) 0) fun sLrftL=>sLrftL else bnd (tT l0 c.bW) fun a=>bnd (C2 l0 (D2 a) default) fun b=>bnd (if b.dV=d then [c] else []) fun sJrffbbJ=>sJrffbbJ
theorem yB (w D M n0 c0 l0 p) (a:bv) (r0) (H:Own w D w []) (C:Ro w D fun w'=>bA w' 2 M n0 (q6 aW.cells l0)) (jg:n0=l0.length) (lI:l0.length *24≤211106232532992) (lJ:1≤l0.length∧l0.length≤6) (hr:pQ l0 p a=r0):
    Calls y4 146 #[.slice M n0 c0,vI p, .agg (bv.cells a).toArray] w (dR fun v w'=> ∃ B0 b0,v= .slice B0 r0.length b0∧Own w D w' [row B0 r0.length b0 (q6 bv.cells r0) 72 6]∧(r0.length≤6)):=by
 subst jg
 refine cb Tryz.func146 ?_
 refine sr ?_
 refine dM (bv.cells a) 72 H ?_
 intro g eT aK
 refine Ar rfl (An rfl (FW (sr (Kz (vP g 0) (Lz (vI a.aG) aK 0 C6 (fw (.bool (decide (¬ (a.aG=4)))) (Gm (e:= !(decide (a.aG=4))) yk decide_not.symm) (Mz rfl ?_)))))))
 by_cases N:a.aG=4
 refine Sk rfl rfl (dF (JR N)) rfl (Sk rfl rfl (dF (JR N)) rfl (Sk rfl rfl (dF (JR N)) rfl (fw (.bool false) (FZ rfl (dF (JR N)) rfl) (nt (jf (sk (FW (sr (Mz rfl (Kz (vJ l0.length) (Mn rfl (bo ?_))))))))))))
 have jh:Own w D eT [row none 0 0 (q6 bv.cells ([])) 72 6,blk g (bv.cells a) 72]:=aK.free (fB 72 6)
 have ji:=jh.pb [0]
 obtain⟨jk,E⟩:=rZ fun Z (aa:Nat) f (c:Nat) w'=>Own w D w' [blk g (bv.cells a) 72,row Z f.length aa (q6 bv.cells f) 72 6]∧c≤l0.length∧f.length≤c∧gy l0 p a l0 ([]) 0=gy l0 p a (r6 c l0) f c
 refine C5 (fun i:(Option Addr) × Nat × (List bv) × Nat=> [(7, .slice i.1 i.2.2.1.length i.2.1),(36,vJ i.2.2.2),(35,vJ l0.length),(6, .slice none 0 0),(5,vP g 0),(0, .slice M l0.length c0),(1,vI p)]) jk (fun i=>l0.length - i.2.2.2) (none,0, [],0) ⟨rfl,rfl,rfl,rfl,rfl,rfl,rfl,trivial⟩ (E.2 ⟨ji,(show 0≤l0.length∧0≤0∧gy l0 p a l0 ([]) 0=gy l0 p a (r6 0 l0) ([]) 0 from ⟨e6,e6,rfl⟩)⟩) ?_
 rintro ⟨Z,aa,f,c⟩ lK eU
 obtain⟨aL,j4,j5,G⟩:=E.1 eU
 refine sr (Kz (.bool (decide (((c:Nat):Int) < ((l0.length:Nat):Int)))) (nt (FW ?_)))
 by_cases eX:((c:Nat):Int) < ((l0.length:Nat):Int)
 obtain⟨bD,bE⟩:=dK (ls:=l0) (i:=c) aW.len f3 (aL.ro C) e9
 have O:=drop_at bE
 refine jT (dT eX) (sk (FW (bo (sr (Mz rfl (An rfl (FW (sr (Mz rfl (Mz rfl (fw (.pointer (some ⟨ab M,ao M+c *2,none⟩)) (F4 (qA) rfl rfl ((aL.ro C).addr (i:=c) e6) e6) (Kz (.pointer (some ⟨ab M,ao M+c *2+1,none⟩)) (fw (vI bD.dV) (F7 rfl (bX.one C6 (((aL.ro C).elem aW.len bE f3).at_ (k:=1) rfl))) (Mz rfl (fw (.bool (decide (¬ (bD.dV=p)))) (Gm (e:= !(decide (bD.dV=p))) yk decide_not.symm) (nt ?_))))))))))))))))
 by_cases Y:bD.dV=p
 refine jF (dF (JR Y)) (sk (FW ?_))
 refine pJ [] (Gb (bL.block (Gb (Gb (bL.block (Gb Gj)))))) aL ?_
 intro lL eY
 refine qp g 3 0 rfl (ql 1 rfl 0 C4 rfl rfl rfl (qp g 4 2 rfl (ql 3 rfl 0 C4 rfl rfl rfl (qk (.agg #[.string ⟨y6 a.bG⟩, .string ⟨y6 a.bU⟩]) 4 rfl (qv 5 rfl rfl (qv 6 rfl rfl ?_))))))
 refine Hm 7 12 e7 ?_ ?_
 obtain⟨aN,ae⟩:∃ q,l5 l0 ((c:Nat):Int)=q:=⟨_,rfl⟩
 obtain⟨lM,fe,fo,fq,j6⟩:=F3 eY
 refine GY.do 7 rfl e7 (Gg M7 rfl (og _ _ M l0.length c0 l0 ((c:Nat):Int) aN fe (fo _ C) rfl e6 e6 ae) ?_)
 rintro _ lN ⟨rfl,fu⟩
 have di:=fq _ _ fu
 refine⟨.inr ⟨_,di⟩, ?_⟩
 refine Hm 8 12 e7 ?_ ?_
 obtain⟨⟨u,dm⟩,aO⟩:∃ q:bI × Bool,ng (bI.mk a.bG a.bU) aN=q:=⟨_,rfl⟩
 obtain⟨lQ,fA,kg,fC,ko⟩:=F3 di
 refine GY.do 8 rfl e7 (Gg M8 rfl (nL _ _ (bI.mk a.bG a.bU) aN u dm fA aO) ?_)
 rintro _ lS ⟨rfl,fD⟩
 have fE:=fC _ _ fD
 refine⟨.inr ⟨_,fE⟩, ?_⟩
 refine qv 9 rfl rfl (qk (.agg (bI.cells u).toArray) 10 rfl (qk (.bool dm) 11 rfl ?_))
 refine qd 12 rfl (GH (cs:= [.string ⟨y6 ([])⟩, .string ⟨y6 ([])⟩]) (t:=38) fE rfl rfl (fun _=>by kernel_rfl) ?_)
 intro fG lT jl
 have fH:=jl.pb [0]
 refine⟨.inr ⟨_,fH⟩, ?_⟩
 have jm:=fH.pf [2]
 refine qe 13 rfl (Do.store (vs:=(bI.cells u)) (o:=0) jm rfl rfl L5 rfl rfl rfl rfl ?_)
 intro lU jo
 have av:=jo.pb [0]
 refine⟨.inr ⟨_,av⟩, ?_⟩
 refine qa 14 rfl rfl (qn (FY (sr (Mn rfl ?_))))
 rcases JS (dm) with aP | aP
 refine jT aP (FV (Mz rfl (Kz (vP g 0) (Lz (vI a.aG) av 0 C6 (Kz (vP fG 0) (Lz (.string ⟨y6 u.bG⟩) av 2 C4 (Kz (vP fG 1) (Lz (.string ⟨y6 u.bU⟩) av 2 C4 (Kz (vP g 5) (Lz (vI a.bS) av 0 C6 (Kz (.agg #[vI a.aG, .string ⟨y6 ([])⟩, .string ⟨y6 ([])⟩, .string ⟨y6 u.bG⟩, .string ⟨y6 u.bU⟩,vI a.bS]) ?_)))))))))))
 refine kL [vI a.aG, .string ⟨y6 ([])⟩, .string ⟨y6 ([])⟩, .string ⟨y6 u.bG⟩, .string ⟨y6 u.bU⟩,vI a.bS] 72 6 1 av ?_
 intro jq lV dn
 replace dn:=Gs (y:=row jq 1 1 (q6 bv.cells ([(bv.mk a.aG ([]) ([]) u.bG u.bU a.bS)])) 72 6) rfl dn
 have fI:=dn.pf [2]
 refine WL.do rfl (Gt (k:=f.length) (m:=1) (qz) fI rfl rfl (iU B1 (fI.rds (i:=1) rfl) (fF bv.one ([(bv.mk a.aG ([]) ([]) u.bG u.bU a.bS)]))) rfl e6 (s:=s2 (f++ [(bv.mk a.aG ([]) ([]) u.bG u.bU a.bS)])) f7 (r7).symm ?_)
 intro jr jv lW jw
 have kr:s2 (f++ [(bv.mk a.aG ([]) ([]) u.bG u.bU a.bS)])=f.length+1:=by simp only [p5,s3,G0]
 refine Az rfl (D0 (bN (FY (FV (fw (vJ (c+1)) (FX (e:=C7.wrap (((c:Nat):Int)+1)) yk f1) (Mz rfl (D0 ?_)))))))
 have jy:=jw.pk [2,0]
 exact Gc (jr,jv,(f++ [(bv.mk a.aG ([]) ([]) u.bG u.bU a.bS)]),c+1) ⟨rfl,rfl,rfl,rfl,rfl,rfl,rfl,trivial⟩ (E.2 ⟨jy,e6,e6,et (G) (et (congrArg (fun q=>gy l0 p a q f c) O) (et (ip Y) (et (ai ae) (et (ai aO) (ip aP)))))⟩) (by show l0.length - (c+1) < l0.length - c; omega)
 refine jF aP (Gn (bN (FY (FV (fw (vJ (c+1)) (FX (e:=C7.wrap (((c:Nat):Int)+1)) yk f1) (Mz rfl (D0 ?_)))))))
 have jA:=av.pk [0,1]
 exact Gc (Z,aa,f,c+1) ⟨rfl,rfl,rfl,rfl,rfl,rfl,rfl,trivial⟩ (E.2 ⟨jA,e6,e6,et (G) (et (congrArg (fun q=>gy l0 p a q f c) O) (et (ip Y) (et (ai ae) (et (ai aO) (gB aP)))))⟩) (by show l0.length - (c+1) < l0.length - c; omega)
 refine GY.do 12 rfl e7 (GH (cs:= [.string ⟨y6 ([])⟩, .string ⟨y6 ([])⟩]) (t:=38) di rfl rfl (fun _=>by kernel_rfl) ?_)
 intro fJ lX jB
 have fK:=jB.pb [0]
 refine⟨.inr ⟨_,fK⟩, ?_⟩
 obtain⟨⟨x,dw⟩,aQ⟩:∃ q:bI × Bool,ng (bI.mk a.bG a.bU) aN=q:=⟨_,rfl⟩
 obtain⟨lY,fM,ku,fO,kv⟩:=F3 fK
 refine qd 8 rfl (Gg M8 rfl (nL _ _ (bI.mk a.bG a.bU) aN x dw fM aQ) ?_)
 rintro _ kw ⟨rfl,dx⟩
 have bG:=fO _ _ dx
 refine⟨.inr ⟨_,bG⟩, ?_⟩
 refine qv 9 rfl rfl (qk (.agg (bI.cells x).toArray) 10 rfl (qk (.bool dw) 11 rfl ?_))
 have fP:=bG.pf [2]
 refine qe 13 rfl (Do.store (vs:=(bI.cells x)) (o:=0) fP rfl rfl L5 rfl rfl rfl rfl ?_)
 intro ky fQ
 have P:=fQ.pb [0]
 refine⟨.inr ⟨_,P⟩, ?_⟩
 refine qa 14 rfl rfl (qn (FY (sr (Mn rfl ?_))))
 rcases JS (dw) with af | af
 refine jT af (FV (Mz rfl (Kz (vP g 0) (Lz (vI a.aG) P 0 C6 (Kz (vP fJ 0) (Lz (.string ⟨y6 x.bG⟩) P 2 C4 (Kz (vP fJ 1) (Lz (.string ⟨y6 x.bU⟩) P 2 C4 (Kz (vP g 5) (Lz (vI a.bS) P 0 C6 (Kz (.agg #[vI a.aG, .string ⟨y6 ([])⟩, .string ⟨y6 ([])⟩, .string ⟨y6 x.bG⟩, .string ⟨y6 x.bU⟩,vI a.bS]) ?_)))))))))))
 refine kL [vI a.aG, .string ⟨y6 ([])⟩, .string ⟨y6 ([])⟩, .string ⟨y6 x.bG⟩, .string ⟨y6 x.bU⟩,vI a.bS] 72 6 1 P ?_
 intro fT kz aR
 replace aR:=Gs (y:=row fT 1 1 (q6 bv.cells ([(bv.mk a.aG ([]) ([]) x.bG x.bU a.bS)])) 72 6) rfl aR
 have bH:=aR.pf [2]
 refine WL.do rfl (Gt (k:=f.length) (m:=1) (qz) bH rfl rfl (iU B1 (bH.rds (i:=1) rfl) (fF bv.one ([(bv.mk a.aG ([]) ([]) x.bG x.bU a.bS)]))) rfl e6 (s:=s2 (f++ [(bv.mk a.aG ([]) ([]) x.bG x.bU a.bS)])) f7 (r7).symm ?_)
 intro fU fV kC fZ
 have jC:s2 (f++ [(bv.mk a.aG ([]) ([]) x.bG x.bU a.bS)])=f.length+1:=by simp only [p5,s3,G0]
 refine Az rfl (D0 (bN (FY (FV (fw (vJ (c+1)) (FX (e:=C7.wrap (((c:Nat):Int)+1)) yk f1) (Mz rfl (D0 ?_)))))))
 have gm:=fZ.pk [2,0]
 exact Gc (fU,fV,(f++ [(bv.mk a.aG ([]) ([]) x.bG x.bU a.bS)]),c+1) ⟨rfl,rfl,rfl,rfl,rfl,rfl,rfl,trivial⟩ (E.2 ⟨gm,e6,e6,et (G) (et (congrArg (fun q=>gy l0 p a q f c) O) (et (ip Y) (et (ai ae) (et (ai aQ) (ip af)))))⟩) (by show l0.length - (c+1) < l0.length - c; omega)
 refine jF af (Gn (bN (FY (FV (fw (vJ (c+1)) (FX (e:=C7.wrap (((c:Nat):Int)+1)) yk f1) (Mz rfl (D0 ?_)))))))
 have gp:=P.pk [0,1]
 exact Gc (Z,aa,f,c+1) ⟨rfl,rfl,rfl,rfl,rfl,rfl,rfl,trivial⟩ (E.2 ⟨gp,e6,e6,et (G) (et (congrArg (fun q=>gy l0 p a q f c) O) (et (ip Y) (et (ai ae) (et (ai aQ) (gB af)))))⟩) (by show l0.length - (c+1) < l0.length - c; omega)
 refine GY.do 12 rfl e7 (GH (cs:= [.string ⟨y6 ([])⟩, .string ⟨y6 ([])⟩]) (t:=38) eY rfl rfl (fun _=>by kernel_rfl) ?_)
 intro bJ kD gq
 have bK:=gq.pb [0]
 refine⟨.inr ⟨_,bK⟩, ?_⟩
 obtain⟨aS,ax⟩:∃ q,l5 l0 ((c:Nat):Int)=q:=⟨_,rfl⟩
 obtain⟨kE,dz,dA,dB,jD⟩:=F3 bK
 refine qd 7 rfl (Gg M7 rfl (og _ _ M l0.length c0 l0 ((c:Nat):Int) aS dz (dA _ C) rfl e6 e6 ax) ?_)
 rintro _ kF ⟨rfl,dC⟩
 have bM:=dB _ _ dC
 refine⟨.inr ⟨_,bM⟩, ?_⟩
 obtain⟨⟨h,aT⟩,ay⟩:∃ q:bI × Bool,ng (bI.mk a.bG a.bU) aS=q:=⟨_,rfl⟩
 obtain⟨kG,dD,jE,dE,jG⟩:=F3 bM
 refine qd 8 rfl (Gg M8 rfl (nL _ _ (bI.mk a.bG a.bU) aS h aT dD ay) ?_)
 rintro _ kH ⟨rfl,dG⟩
 have bO:=dE _ _ dG
 refine⟨.inr ⟨_,bO⟩, ?_⟩
 refine qv 9 rfl rfl (qk (.agg (bI.cells h).toArray) 10 rfl (qk (.bool aT) 11 rfl ?_))
 have gu:=bO.pf [2]
 refine qe 13 rfl (Do.store (vs:=(bI.cells h)) (o:=0) gu rfl rfl L5 rfl rfl rfl rfl ?_)
 intro kI gD
 have Q:=gD.pb [0]
 refine⟨.inr ⟨_,Q⟩, ?_⟩
 refine qa 14 rfl rfl (qn (FY (sr (Mn rfl ?_))))
 rcases JS (aT) with ag | ag
 refine jT ag (FV (Mz rfl (Kz (vP g 0) (Lz (vI a.aG) Q 0 C6 (Kz (vP bJ 0) (Lz (.string ⟨y6 h.bG⟩) Q 2 C4 (Kz (vP bJ 1) (Lz (.string ⟨y6 h.bU⟩) Q 2 C4 (Kz (vP g 5) (Lz (vI a.bS) Q 0 C6 (Kz (.agg #[vI a.aG, .string ⟨y6 ([])⟩, .string ⟨y6 ([])⟩, .string ⟨y6 h.bG⟩, .string ⟨y6 h.bU⟩,vI a.bS]) ?_)))))))))))
 refine kL [vI a.aG, .string ⟨y6 ([])⟩, .string ⟨y6 ([])⟩, .string ⟨y6 h.bG⟩, .string ⟨y6 h.bU⟩,vI a.bS] 72 6 1 Q ?_
 intro gF kJ aU
 replace aU:=Gs (y:=row gF 1 1 (q6 bv.cells ([(bv.mk a.aG ([]) ([]) h.bG h.bU a.bS)])) 72 6) rfl aU
 have bP:=aU.pf [2]
 refine WL.do rfl (Gt (k:=f.length) (m:=1) (qz) bP rfl rfl (iU B1 (bP.rds (i:=1) rfl) (fF bv.one ([(bv.mk a.aG ([]) ([]) h.bG h.bU a.bS)]))) rfl e6 (s:=s2 (f++ [(bv.mk a.aG ([]) ([]) h.bG h.bU a.bS)])) f7 (r7).symm ?_)
 intro gG gH kK gI
 have jH:s2 (f++ [(bv.mk a.aG ([]) ([]) h.bG h.bU a.bS)])=f.length+1:=by simp only [p5,s3,G0]
 refine Az rfl (D0 (bN (FY (FV (fw (vJ (c+1)) (FX (e:=C7.wrap (((c:Nat):Int)+1)) yk f1) (Mz rfl (D0 ?_)))))))
 have gJ:=gI.pk [2,0]
 exact Gc (gG,gH,(f++ [(bv.mk a.aG ([]) ([]) h.bG h.bU a.bS)]),c+1) ⟨rfl,rfl,rfl,rfl,rfl,rfl,rfl,trivial⟩ (E.2 ⟨gJ,e6,e6,et (G) (et (congrArg (fun q=>gy l0 p a q f c) O) (et (ip Y) (et (ai ax) (et (ai ay) (ip ag)))))⟩) (by show l0.length - (c+1) < l0.length - c; omega)
 refine jF ag (Gn (bN (FY (FV (fw (vJ (c+1)) (FX (e:=C7.wrap (((c:Nat):Int)+1)) yk f1) (Mz rfl (D0 ?_)))))))
 have gK:=Q.pk [0,1]
 exact Gc (Z,aa,f,c+1) ⟨rfl,rfl,rfl,rfl,rfl,rfl,rfl,trivial⟩ (E.2 ⟨gK,e6,e6,et (G) (et (congrArg (fun q=>gy l0 p a q f c) O) (et (ip Y) (et (ai ax) (et (ai ay) (gB ag)))))⟩) (by show l0.length - (c+1) < l0.length - c; omega)
 refine jT (dT Y) (D1 (F6 (Gi (FY (FV (fw (vJ (c+1)) (FX (e:=C7.wrap (((c:Nat):Int)+1)) yk f1) (Mz rfl (D0 ?_))))))))
 have gL:=aL.pf []
 exact Gc (Z,aa,f,c+1) ⟨rfl,rfl,rfl,rfl,rfl,rfl,rfl,trivial⟩ (E.2 ⟨gL,e6,e6,et (G) (et (congrArg (fun q=>gy l0 p a q f c) O) (iN Y))⟩) (by show l0.length - (c+1) < l0.length - c; omega)
 refine jF (dF eX) (D1 (F6 ?_))
 have dH:gy l0 p a l0 ([]) 0=f:=et (G) (et (congrArg (fun q=>gy l0 p a q f c) (eZ (ls:=l0) (i:=c) e6)) rfl)
 refine F6 (Gi (FY (FW ?_)))
 have gM:=aL.pk [1]
 refine FV (Mz rfl (An rfl (rt (rs ?_))))
 have gN:=gM.pf []
 obtain rfl:_=f:=hr.symm.trans (et (ip N) (ai dH))
 exact⟨Z,aa,rfl,gN,i5⟩
 refine Gz (vP g 0) (dT N) (Gl (vI a.aG) (dT N) aK 0 C6 (gw (.bool (decide (¬ (a.aG=5)))) (dT N) (Gm (e:= !(decide (a.aG=5))) yk decide_not.symm) (fw (.bool (decide (¬ (a.aG=5)))) (Gd rfl (dT N) rfl) (nt ?_))))
 by_cases aF:a.aG=5
 refine jF (dF (JR aF)) (sk (FW (sr (Mz rfl (Kz (vJ l0.length) (Mn rfl (bo ?_)))))))
 have gP:Own w D eT [row none 0 0 (q6 bv.cells ([])) 72 6,blk g (bv.cells a) 72]:=aK.free (fB 72 6)
 have gQ:=gP.pb [0]
 obtain⟨gT,z⟩:=rZ fun I (J:Nat) d (b:Nat) w'=>Own w D w' [blk g (bv.cells a) 72,row I d.length J (q6 bv.cells d) 72 6]∧b≤l0.length∧d.length≤b∧gz l0 p a l0 ([]) 0=gz l0 p a (r6 b l0) d b
 refine C5 (fun i:(Option Addr) × Nat × (List bv) × Nat=> [(7, .slice i.1 i.2.2.1.length i.2.1),(36,vJ i.2.2.2),(35,vJ l0.length),(6, .slice none 0 0),(5,vP g 0),(0, .slice M l0.length c0),(1,vI p)]) gT (fun i=>l0.length - i.2.2.2) (none,0, [],0) ⟨rfl,rfl,rfl,rfl,rfl,rfl,rfl,trivial⟩ (z.2 ⟨gQ,(show 0≤l0.length∧0≤0∧gz l0 p a l0 ([]) 0=gz l0 p a (r6 0 l0) ([]) 0 from ⟨e6,e6,rfl⟩)⟩) ?_
 rintro ⟨I,J,d,b⟩ kM dI
 obtain⟨V,jI,jJ,A⟩:=z.1 dI
 refine sr (Kz (.bool (decide (((b:Nat):Int) < ((l0.length:Nat):Int)))) (nt (FW ?_)))
 by_cases bQ:((b:Nat):Int) < ((l0.length:Nat):Int)
 obtain⟨aG,aV⟩:=dK (ls:=l0) (i:=b) aW.len f3 (V.ro C) e9
 have B:=drop_at aV
 refine jT (dT bQ) (sk (FW (bo (sr (Mz rfl (An rfl (FW (sr (Mz rfl (Mz rfl (fw (.pointer (some ⟨ab M,ao M+b *2,none⟩)) (F4 (qA) rfl rfl ((V.ro C).addr (i:=b) e6) e6) (Kz (.pointer (some ⟨ab M,ao M+b *2+1,none⟩)) (fw (vI aG.dV) (F7 rfl (bX.one C6 (((V.ro C).elem aW.len aV f3).at_ (k:=1) rfl))) (Mz rfl (fw (.bool (decide (¬ (aG.dV=p)))) (Gm (e:= !(decide (aG.dV=p))) yk decide_not.symm) (nt ?_))))))))))))))))
 by_cases F:aG.dV=p
 refine jF (dF (JR F)) (sk (FW ?_))
 refine pJ [] (Gb (bL.block (Gb (Gb (bL.block (Gb Gj)))))) V ?_
 intro kN bR
 refine qp g 3 0 rfl (ql 1 rfl 0 C4 rfl rfl rfl (qp g 4 2 rfl (ql 3 rfl 0 C4 rfl rfl rfl (qk (.agg #[.string ⟨y6 a.bG⟩, .string ⟨y6 a.bU⟩]) 4 rfl (qv 5 rfl rfl (qv 6 rfl rfl ?_))))))
 refine Hm 7 12 e7 ?_ ?_
 obtain⟨ah,R⟩:∃ q,l5 l0 ((b:Nat):Int)=q:=⟨_,rfl⟩
 obtain⟨kP,dJ,dL,dN,jK⟩:=F3 bR
 refine GY.do 7 rfl e7 (Gg M7 rfl (og _ _ M l0.length c0 l0 ((b:Nat):Int) ah dJ (dL _ C) rfl e6 e6 R) ?_)
 rintro _ kQ ⟨rfl,dO⟩
 have aX:=dN _ _ dO
 refine⟨.inr ⟨_,aX⟩, ?_⟩
 refine Hm 8 12 e7 ?_ ?_
 obtain⟨⟨j,aY⟩,az⟩:∃ q:bI × Bool,ng (bI.mk a.bG a.bU) ah=q:=⟨_,rfl⟩
 obtain⟨kR,dP,jL,dQ,jM⟩:=F3 aX
 refine GY.do 8 rfl e7 (Gg M8 rfl (nL _ _ (bI.mk a.bG a.bU) ah j aY dP az) ?_)
 rintro _ kS ⟨rfl,dS⟩
 have bS:=dQ _ _ dS
 refine⟨.inr ⟨_,bS⟩, ?_⟩
 refine qv 9 rfl rfl (qk (.agg (bI.cells j).toArray) 10 rfl (qk (.bool aY) 11 rfl ?_))
 refine qd 12 rfl (GH (cs:= [.string ⟨y6 ([])⟩, .string ⟨y6 ([])⟩]) (t:=38) bS rfl rfl (fun _=>by kernel_rfl) ?_)
 intro bT kT gU
 have bU:=gU.pb [0]
 refine⟨.inr ⟨_,bU⟩, ?_⟩
 have gV:=bU.pf [2]
 refine qe 13 rfl (Do.store (vs:=(bI.cells j)) (o:=0) gV rfl rfl L5 rfl rfl rfl rfl ?_)
 intro kU gW
 have S:=gW.pb [0]
 refine⟨.inr ⟨_,S⟩, ?_⟩
 refine qa 14 rfl rfl (qn (FY (sr (Mn rfl ?_))))
 rcases JS (aY) with aj | aj
 refine jT aj (FV (Mz rfl (Kz (vP g 0) (Lz (vI a.aG) S 0 C6 (Kz (vP bT 0) (Lz (.string ⟨y6 j.bG⟩) S 2 C4 (Kz (vP bT 1) (Lz (.string ⟨y6 j.bU⟩) S 2 C4 (Kz (vP g 5) (Lz (vI a.bS) S 0 C6 (Kz (.agg #[vI a.aG, .string ⟨y6 ([])⟩, .string ⟨y6 ([])⟩, .string ⟨y6 j.bG⟩, .string ⟨y6 j.bU⟩,vI a.bS]) ?_)))))))))))
 refine kL [vI a.aG, .string ⟨y6 ([])⟩, .string ⟨y6 ([])⟩, .string ⟨y6 j.bG⟩, .string ⟨y6 j.bU⟩,vI a.bS] 72 6 1 S ?_
 intro gX kV aZ
 replace aZ:=Gs (y:=row gX 1 1 (q6 bv.cells ([(bv.mk a.aG ([]) ([]) j.bG j.bU a.bS)])) 72 6) rfl aZ
 have bV:=aZ.pf [2]
 refine WL.do rfl (Gt (k:=d.length) (m:=1) (qz) bV rfl rfl (iU B1 (bV.rds (i:=1) rfl) (fF bv.one ([(bv.mk a.aG ([]) ([]) j.bG j.bU a.bS)]))) rfl e6 (s:=s2 (d++ [(bv.mk a.aG ([]) ([]) j.bG j.bU a.bS)])) f7 (r7).symm ?_)
 intro gY gZ kW ib
 have jN:s2 (d++ [(bv.mk a.aG ([]) ([]) j.bG j.bU a.bS)])=d.length+1:=by simp only [p5,s3,G0]
 refine Az rfl (D0 (bN (FY (FV (fw (vJ (b+1)) (FX (e:=C7.wrap (((b:Nat):Int)+1)) yk f1) (Mz rfl (D0 ?_)))))))
 have ic:=ib.pk [2,0]
 exact Gc (gY,gZ,(d++ [(bv.mk a.aG ([]) ([]) j.bG j.bU a.bS)]),b+1) ⟨rfl,rfl,rfl,rfl,rfl,rfl,rfl,trivial⟩ (z.2 ⟨ic,e6,e6,et (A) (et (congrArg (fun q=>gz l0 p a q d b) B) (et (ip F) (et (ai R) (et (ai az) (ip aj)))))⟩) (by show l0.length - (b+1) < l0.length - b; omega)
 refine jF aj (Gn (bN (FY (FV (fw (vJ (b+1)) (FX (e:=C7.wrap (((b:Nat):Int)+1)) yk f1) (Mz rfl (D0 ?_)))))))
 have ig:=S.pk [0,1]
 exact Gc (I,J,d,b+1) ⟨rfl,rfl,rfl,rfl,rfl,rfl,rfl,trivial⟩ (z.2 ⟨ig,e6,e6,et (A) (et (congrArg (fun q=>gz l0 p a q d b) B) (et (ip F) (et (ai R) (et (ai az) (gB aj)))))⟩) (by show l0.length - (b+1) < l0.length - b; omega)
 refine GY.do 12 rfl e7 (GH (cs:= [.string ⟨y6 ([])⟩, .string ⟨y6 ([])⟩]) (t:=38) aX rfl rfl (fun _=>by kernel_rfl) ?_)
 intro bW kX ik
 have bY:=ik.pb [0]
 refine⟨.inr ⟨_,bY⟩, ?_⟩
 obtain⟨⟨l,bf⟩,aA⟩:∃ q:bI × Bool,ng (bI.mk a.bG a.bU) ah=q:=⟨_,rfl⟩
 obtain⟨kY,dU,jO,dV,jP⟩:=F3 bY
 refine qd 8 rfl (Gg M8 rfl (nL _ _ (bI.mk a.bG a.bU) ah l bf dU aA) ?_)
 rintro _ kZ ⟨rfl,dW⟩
 have bZ:=dV _ _ dW
 refine⟨.inr ⟨_,bZ⟩, ?_⟩
 refine qv 9 rfl rfl (qk (.agg (bI.cells l).toArray) 10 rfl (qk (.bool bf) 11 rfl ?_))
 have il:=bZ.pf [2]
 refine qe 13 rfl (Do.store (vs:=(bI.cells l)) (o:=0) il rfl rfl L5 rfl rfl rfl rfl ?_)
 intro lc iq
 have T:=iq.pb [0]
 refine⟨.inr ⟨_,T⟩, ?_⟩
 refine qa 14 rfl rfl (qn (FY (sr (Mn rfl ?_))))
 rcases JS (bf) with ak | ak
 refine jT ak (FV (Mz rfl (Kz (vP g 0) (Lz (vI a.aG) T 0 C6 (Kz (vP bW 0) (Lz (.string ⟨y6 l.bG⟩) T 2 C4 (Kz (vP bW 1) (Lz (.string ⟨y6 l.bU⟩) T 2 C4 (Kz (vP g 5) (Lz (vI a.bS) T 0 C6 (Kz (.agg #[vI a.aG, .string ⟨y6 ([])⟩, .string ⟨y6 ([])⟩, .string ⟨y6 l.bG⟩, .string ⟨y6 l.bU⟩,vI a.bS]) ?_)))))))))))
 refine kL [vI a.aG, .string ⟨y6 ([])⟩, .string ⟨y6 ([])⟩, .string ⟨y6 l.bG⟩, .string ⟨y6 l.bU⟩,vI a.bS] 72 6 1 T ?_
 intro iw lg bg
 replace bg:=Gs (y:=row iw 1 1 (q6 bv.cells ([(bv.mk a.aG ([]) ([]) l.bG l.bU a.bS)])) 72 6) rfl bg
 have cu:=bg.pf [2]
 refine WL.do rfl (Gt (k:=d.length) (m:=1) (qz) cu rfl rfl (iU B1 (cu.rds (i:=1) rfl) (fF bv.one ([(bv.mk a.aG ([]) ([]) l.bG l.bU a.bS)]))) rfl e6 (s:=s2 (d++ [(bv.mk a.aG ([]) ([]) l.bG l.bU a.bS)])) f7 (r7).symm ?_)
 intro iy iA lh iB
 have jQ:s2 (d++ [(bv.mk a.aG ([]) ([]) l.bG l.bU a.bS)])=d.length+1:=by simp only [p5,s3,G0]
 refine Az rfl (D0 (bN (FY (FV (fw (vJ (b+1)) (FX (e:=C7.wrap (((b:Nat):Int)+1)) yk f1) (Mz rfl (D0 ?_)))))))
 have iC:=iB.pk [2,0]
 exact Gc (iy,iA,(d++ [(bv.mk a.aG ([]) ([]) l.bG l.bU a.bS)]),b+1) ⟨rfl,rfl,rfl,rfl,rfl,rfl,rfl,trivial⟩ (z.2 ⟨iC,e6,e6,et (A) (et (congrArg (fun q=>gz l0 p a q d b) B) (et (ip F) (et (ai R) (et (ai aA) (ip ak)))))⟩) (by show l0.length - (b+1) < l0.length - b; omega)
 refine jF ak (Gn (bN (FY (FV (fw (vJ (b+1)) (FX (e:=C7.wrap (((b:Nat):Int)+1)) yk f1) (Mz rfl (D0 ?_)))))))
 have iD:=T.pk [0,1]
 exact Gc (I,J,d,b+1) ⟨rfl,rfl,rfl,rfl,rfl,rfl,rfl,trivial⟩ (z.2 ⟨iD,e6,e6,et (A) (et (congrArg (fun q=>gz l0 p a q d b) B) (et (ip F) (et (ai R) (et (ai aA) (gB ak)))))⟩) (by show l0.length - (b+1) < l0.length - b; omega)
 refine GY.do 12 rfl e7 (GH (cs:= [.string ⟨y6 ([])⟩, .string ⟨y6 ([])⟩]) (t:=38) bR rfl rfl (fun _=>by kernel_rfl) ?_)
 intro cz ll iE
 have cB:=iE.pb [0]
 refine⟨.inr ⟨_,cB⟩, ?_⟩
 obtain⟨bi,aB⟩:∃ q,l5 l0 ((b:Nat):Int)=q:=⟨_,rfl⟩
 obtain⟨lm,dX,dY,dZ,jR⟩:=F3 cB
 refine qd 7 rfl (Gg M7 rfl (og _ _ M l0.length c0 l0 ((b:Nat):Int) bi dX (dY _ C) rfl e6 e6 aB) ?_)
 rintro _ lq ⟨rfl,d9⟩
 have cK:=dZ _ _ d9
 refine⟨.inr ⟨_,cK⟩, ?_⟩
 obtain⟨⟨n,bn⟩,aC⟩:∃ q:bI × Bool,ng (bI.mk a.bG a.bU) bi=q:=⟨_,rfl⟩
 obtain⟨lu,ed,jS,ek,jU⟩:=F3 cK
 refine qd 8 rfl (Gg M8 rfl (nL _ _ (bI.mk a.bG a.bU) bi n bn ed aC) ?_)
 rintro _ lv ⟨rfl,eu⟩
 have cO:=ek _ _ eu
 refine⟨.inr ⟨_,cO⟩, ?_⟩
 refine qv 9 rfl rfl (qk (.agg (bI.cells n).toArray) 10 rfl (qk (.bool bn) 11 rfl ?_))
 have iF:=cO.pf [2]
 refine qe 13 rfl (Do.store (vs:=(bI.cells n)) (o:=0) iF rfl rfl L5 rfl rfl rfl rfl ?_)
 intro lw iG
 have U:=iG.pb [0]
 refine⟨.inr ⟨_,U⟩, ?_⟩
 refine qa 14 rfl rfl (qn (FY (sr (Mn rfl ?_))))
 rcases JS (bn) with au | au
 refine jT au (FV (Mz rfl (Kz (vP g 0) (Lz (vI a.aG) U 0 C6 (Kz (vP cz 0) (Lz (.string ⟨y6 n.bG⟩) U 2 C4 (Kz (vP cz 1) (Lz (.string ⟨y6 n.bU⟩) U 2 C4 (Kz (vP g 5) (Lz (vI a.bS) U 0 C6 (Kz (.agg #[vI a.aG, .string ⟨y6 ([])⟩, .string ⟨y6 ([])⟩, .string ⟨y6 n.bG⟩, .string ⟨y6 n.bU⟩,vI a.bS]) ?_)))))))))))
 refine kL [vI a.aG, .string ⟨y6 ([])⟩, .string ⟨y6 ([])⟩, .string ⟨y6 n.bG⟩, .string ⟨y6 n.bU⟩,vI a.bS] 72 6 1 U ?_
 intro iH lC bq
 replace bq:=Gs (y:=row iH 1 1 (q6 bv.cells ([(bv.mk a.aG ([]) ([]) n.bG n.bU a.bS)])) 72 6) rfl bq
 have cZ:=bq.pf [2]
 refine WL.do rfl (Gt (k:=d.length) (m:=1) (qz) cZ rfl rfl (iU B1 (cZ.rds (i:=1) rfl) (fF bv.one ([(bv.mk a.aG ([]) ([]) n.bG n.bU a.bS)]))) rfl e6 (s:=s2 (d++ [(bv.mk a.aG ([]) ([]) n.bG n.bU a.bS)])) f7 (r7).symm ?_)
 intro iI iJ lD iK
 have jV:s2 (d++ [(bv.mk a.aG ([]) ([]) n.bG n.bU a.bS)])=d.length+1:=by simp only [p5,s3,G0]
 refine Az rfl (D0 (bN (FY (FV (fw (vJ (b+1)) (FX (e:=C7.wrap (((b:Nat):Int)+1)) yk f1) (Mz rfl (D0 ?_)))))))
 have iL:=iK.pk [2,0]
 exact Gc (iI,iJ,(d++ [(bv.mk a.aG ([]) ([]) n.bG n.bU a.bS)]),b+1) ⟨rfl,rfl,rfl,rfl,rfl,rfl,rfl,trivial⟩ (z.2 ⟨iL,e6,e6,et (A) (et (congrArg (fun q=>gz l0 p a q d b) B) (et (ip F) (et (ai aB) (et (ai aC) (ip au)))))⟩) (by show l0.length - (b+1) < l0.length - b; omega)
 refine jF au (Gn (bN (FY (FV (fw (vJ (b+1)) (FX (e:=C7.wrap (((b:Nat):Int)+1)) yk f1) (Mz rfl (D0 ?_)))))))
 have iM:=U.pk [0,1]
 exact Gc (I,J,d,b+1) ⟨rfl,rfl,rfl,rfl,rfl,rfl,rfl,trivial⟩ (z.2 ⟨iM,e6,e6,et (A) (et (congrArg (fun q=>gz l0 p a q d b) B) (et (ip F) (et (ai aB) (et (ai aC) (gB au)))))⟩) (by show l0.length - (b+1) < l0.length - b; omega)
 refine jT (dT F) (D1 (F6 (Gi (FY (FV (fw (vJ (b+1)) (FX (e:=C7.wrap (((b:Nat):Int)+1)) yk f1) (Mz rfl (D0 ?_))))))))
 have iO:=V.pf []
 exact Gc (I,J,d,b+1) ⟨rfl,rfl,rfl,rfl,rfl,rfl,rfl,trivial⟩ (z.2 ⟨iO,e6,e6,et (A) (et (congrArg (fun q=>gz l0 p a q d b) B) (iN F))⟩) (by show l0.length - (b+1) < l0.length - b; omega)
 refine jF (dF bQ) (D1 (F6 ?_))
 have eB:gz l0 p a l0 ([]) 0=d:=et (A) (et (congrArg (fun q=>gz l0 p a q d b) (eZ (ls:=l0) (i:=b) e6)) rfl)
 refine F6 (Gi (FY (FW ?_)))
 have iP:=V.pk [1]
 refine FV (Mz rfl (An rfl (rt (rs ?_))))
 have iQ:=iP.pf []
 obtain rfl:_=d:=hr.symm.trans (et (iN N) (et (ip aF) (ai eB)))
 exact⟨I,J,rfl,iQ,i5⟩
 refine jT (dT aF) (FW (sr (Mz rfl (Mz rfl (Kz (vP g 1) (Lz (.string ⟨y6 a.bW⟩) aK 0 C4 ?_))))))
 obtain⟨K,bu⟩:∃ q,tT l0 a.bW=q:=⟨_,rfl⟩
 obtain⟨lF,eD,eF,eG,jW⟩:=F3 aK
 refine cl Tryz.call162 (yA _ _ M l0.length c0 l0 a.bW K eD (eF _ C) rfl e6 i5 bu) ?_
 rintro _ iR ⟨rfl,eH,bz⟩
 have W:=eG _ _ eH
 replace bz:0≤K∧K < ((l0.length:Nat):Int):=bz
 obtain⟨X,bB⟩:=dK (ls:=l0) (i:=D2 K) aW.len f3 (W.ro C) e9
 refine fw (.pointer (some ⟨ab M,ao M+(D2 K) *2,none⟩)) (F4 (qA) rfl (El (r:=K) rfl e6) ((W.ro C).addr (i:=D2 K) e6) e6) (Kz (.pointer (some ⟨ab M,ao M+(D2 K) *2+1,none⟩)) (fw (vI X.dV) (F7 rfl (bX.one C6 (((W.ro C).elem aW.len bB f3).at_ (k:=1) rfl))) (Mz rfl (Kz (.bool (decide (X.dV=p))) (nt ?_)))))
 obtain⟨iT,aD⟩:=qK fun aH (aI:Nat) L w'=>Own w D w' [blk g (bv.cells a) 72,row aH L.length aI (q6 bv.cells L) 72 6]∧0≤L.length∧L.length≤1∧(if X.dV=p then [a] else [])=L
 refine GG (fun i:(Option Addr) × Nat × (List bv)=> [(7, .slice i.1 i.2.2.length i.2.1),(6, .slice none 0 0),(5,vP g 0),(0, .slice M l0.length c0),(1,vI p)]) iT ?_ ?_
 by_cases aJ:X.dV=p
 refine jT (dT aJ) (FV (Mz rfl (La (bv.cells a) W 0 Tryz.isAgg72 Tryz.sizeOf72 ?_)))
 refine kL (bv.cells a) 72 6 1 W ?_
 intro df iV bC
 replace bC:=Gs (y:=row df 1 1 (q6 bv.cells ([a])) 72 6) rfl bC
 have dh:Own w D iV [row none 0 0 (q6 bv.cells ([])) 72 6,row df 1 1 (q6 bv.cells ([a])) 72 6,blk g (bv.cells a) 72]:=bC.free (fB 72 6)
 refine WL.do rfl (Gt (k:=0) (m:=1) (qz) dh rfl rfl (iU B1 (dh.rds (i:=1) rfl) (fF bv.one ([a]))) rfl e6 (s:=1) e6 rfl ?_)
 intro iW iX lG iY
 refine Az rfl (D0 ?_)
 have iZ:=iY.pk [2,0]
 exact Gv (iW,iX, [a]) ⟨rfl,rfl,rfl,rfl,rfl,trivial⟩ (aD.2 ⟨iZ,(show 0≤s2 ([a])∧s2 ([a])≤1∧(if X.dV=p then [a] else [])=([a]) from ⟨e6,by first | omega | exact Nat.le_refl _ | exact JQ _,ip aJ⟩)⟩)
 refine jF (dF aJ) (Gn ?_)
 have ja:Own w D iR [row none 0 0 (q6 bv.cells ([])) 72 6,blk g (bv.cells a) 72]:=W.free (fB 72 6)
 have jb:=ja.pb [0]
 exact Gv (none,0, []) ⟨rfl,rfl,rfl,rfl,rfl,trivial⟩ (aD.2 ⟨jb,(show 0≤s2 ([])∧0≤1∧(if X.dV=p then [a] else [])=([]) from ⟨e6,by first | omega | exact Nat.le_refl _ | exact JQ _,iN aJ⟩)⟩)
 rintro ⟨aH,aI,L⟩ lH eO
 obtain⟨jc,jX,jY,eP⟩:=aD.1 eO
 refine sr (Mz rfl (An rfl (rt (tR (rs ?_)))))
 have jd:=jc.pk [1]
 obtain rfl:_=L:=hr.symm.trans (et (iN N) (et (iN aF) (et (ai bu) (et (ai (bF bB)) (ai eP)))))
 exact⟨aH,aI,rfl,jd,i5⟩
def qJ (a:Nat):Nat × Nat:=
 (((0 *(a / 4294967296))+(((0 *(a % 4294967296))+((1 *(a % 4294967296)) / 4294967296)) / 4294967296))+(((((0 *(a % 4294967296))+((1 *(a % 4294967296)) / 4294967296)) % 4294967296)+(1 *(a / 4294967296))) / 4294967296),1 *a)
theorem vO (w D g a b c) (H:Own w D w []) (d:g=1) (h:a≤9223372036854775807) (hr:qJ a=(b,c)):
    Calls y4 190 #[.int .u64 g,vU a] w (dR fun v w'=>v= .tuple #[vU b,vU c]∧Own w D w' []∧(b=0∧c=a)):=by
 subst d
 refine cb Tryz.func190 ?_
 refine sr (Az rfl (Ar rfl (Mz rfl (Kz (.int .u64 1) (Ar rfl (Mz rfl (Kz (.int .u64 0) (Ar rfl (Mz rfl (fw (vU (a % 4294967296)) (FX (e:=D3.wrap (((BitVec.ofInt 64 ((a:Nat):Int) &&& BitVec.ofInt 64 4294967295).toNat:Nat):Int)) yk (zA _ 32 f3 _ f3)) (Ar rfl (Mz rfl (fw (vU (a / 4294967296)) (FX (e:=J4 ((a:Nat):Int) 4294967296) yk (mW _ 32 _ f3)) (Ar rfl (Mz rfl (Mz rfl (fw (vU (1 *(a % 4294967296))) (FX (e:=D3.wrap (1 *((a % 4294967296:Nat):Int))) yk g8) (Az rfl ?_))))))))))))))))))
 refine ns (Mz rfl (Mz rfl (fw (vU (0 *(a % 4294967296))) (FX (e:=D3.wrap (0 *((a % 4294967296:Nat):Int))) yk g8) (Mz rfl (fw (.int .u64 (((1 *(a % 4294967296)) / 4294967296:Nat):Int)) (FX (e:=J4 ((1 *(a % 4294967296):Nat):Int) 4294967296) yk (mW _ 32 _ f3)) (fw (.int .u64 (((0 *(a % 4294967296))+((1 *(a % 4294967296)) / 4294967296):Nat):Int)) (FX (e:=D3.wrap (((0 *(a % 4294967296):Nat):Int)+(((1 *(a % 4294967296)) / 4294967296:Nat):Int))) yk g8) (Ar rfl (Mz rfl (fw (.int .u64 ((((0 *(a % 4294967296))+((1 *(a % 4294967296)) / 4294967296)) % 4294967296:Nat):Int)) (FX (e:=D3.wrap (((BitVec.ofInt 64 (((0 *(a % 4294967296))+((1 *(a % 4294967296)) / 4294967296):Nat):Int) &&& BitVec.ofInt 64 4294967295).toNat:Nat):Int)) yk (zA _ 32 f3 _ f3)) (Ar rfl (Mz rfl (fw (.int .u64 ((((0 *(a % 4294967296))+((1 *(a % 4294967296)) / 4294967296)) / 4294967296:Nat):Int)) (FX (e:=J4 (((0 *(a % 4294967296))+((1 *(a % 4294967296)) / 4294967296):Nat):Int) 4294967296) yk (mW _ 32 _ f3)) (Ar rfl (Mz rfl (Mz rfl (Mz rfl (fw (vU (1 *(a / 4294967296))) (FX (e:=D3.wrap (1 *((a / 4294967296:Nat):Int))) yk g8) (fw (.int .u64 (((((0 *(a % 4294967296))+((1 *(a % 4294967296)) / 4294967296)) % 4294967296)+(1 *(a / 4294967296)):Nat):Int)) (FX (e:=D3.wrap (((((0 *(a % 4294967296))+((1 *(a % 4294967296)) / 4294967296)) % 4294967296:Nat):Int)+((1 *(a / 4294967296):Nat):Int))) yk g8) (Ar rfl (Mz rfl ?_))))))))))))))))))))
 refine Mz rfl (fw (vU (0 *(a / 4294967296))) (FX (e:=D3.wrap (0 *((a / 4294967296:Nat):Int))) yk g8) (Mz rfl (fw (.int .u64 (((0 *(a / 4294967296))+(((0 *(a % 4294967296))+((1 *(a % 4294967296)) / 4294967296)) / 4294967296):Nat):Int)) (FX (e:=D3.wrap (((0 *(a / 4294967296):Nat):Int)+((((0 *(a % 4294967296))+((1 *(a % 4294967296)) / 4294967296)) / 4294967296:Nat):Int))) yk g8) (Mz rfl (fw (.int .u64 ((((((0 *(a % 4294967296))+((1 *(a % 4294967296)) / 4294967296)) % 4294967296)+(1 *(a / 4294967296))) / 4294967296:Nat):Int)) (FX (e:=J4 (((((0 *(a % 4294967296))+((1 *(a % 4294967296)) / 4294967296)) % 4294967296)+(1 *(a / 4294967296)):Nat):Int) 4294967296) yk (mW _ 32 _ f3)) (fw (.int .u64 ((((0 *(a / 4294967296))+(((0 *(a % 4294967296))+((1 *(a % 4294967296)) / 4294967296)) / 4294967296))+(((((0 *(a % 4294967296))+((1 *(a % 4294967296)) / 4294967296)) % 4294967296)+(1 *(a / 4294967296))) / 4294967296):Nat):Int)) (FX (e:=D3.wrap ((((0 *(a / 4294967296))+(((0 *(a % 4294967296))+((1 *(a % 4294967296)) / 4294967296)) / 4294967296):Nat):Int)+((((((0 *(a % 4294967296))+((1 *(a % 4294967296)) / 4294967296)) % 4294967296)+(1 *(a / 4294967296))) / 4294967296:Nat):Int))) yk g8) (Ar rfl (Mz rfl (Mz rfl (fw (vU (1 *a)) (FX (e:=D3.wrap (1 *((a:Nat):Int))) yk g8) (An rfl (rt (Fin.res (lY rfl rfl rfl) ?_)))))))))))))
 have f:=H.pk []
 obtain⟨rfl,rfl⟩:=gm (hr.symm.trans (show _=(((0 *(a / 4294967296))+(((0 *(a % 4294967296))+((1 *(a % 4294967296)) / 4294967296)) / 4294967296))+(((((0 *(a % 4294967296))+((1 *(a % 4294967296)) / 4294967296)) % 4294967296)+(1 *(a / 4294967296))) / 4294967296),1 *a) from rfl))
 exact⟨rfl,f,e6⟩
def rY (b:Nat):Nat × Nat:=
 bnd (qJ b) fun a=>(a.1,a.2)
theorem xh (w D n e i j) (H:Own w D w []) (k:n=1) (r:e≤9223372036854775807) (hr:rY e=(i,j)):
    Calls y4 164 #[.int .u64 n,vU e] w (dR fun v w'=>v= .tuple #[vU i,vU j]∧Own w D w' []∧(i=0∧j=e)):=by
 subst k
 refine cb Tryz.func164 ?_
 refine sr (Az rfl (An rfl (FW (jf (sk (sr (Mz rfl (Mz rfl ?_))))))))
 obtain⟨⟨a,b⟩,c⟩:∃ q:Nat × Nat,qJ e=q:=⟨_,rfl⟩
 obtain⟨s,f,o,g,p⟩:=F3 H
 refine cl Tryz.call190 (vO _ _ 1 e a b f rfl e6 c) ?_
 rintro _ t ⟨rfl,h,d⟩
 have l:=g _ _ h
 replace d:a=0∧b=e:=d
 refine Mz rfl (Kz (vU a) (Kz (vU b) (Az rfl (Ar rfl (Mz rfl (Mz rfl (Az rfl (An rfl (rt (Fin.res (lY rfl rfl rfl) ?_))))))))))
 have m:=l.pk []
 obtain⟨rfl,rfl⟩:=gm (hr.symm.trans (show _=(a,b) from ai c))
 exact⟨rfl,m,e6⟩
def ky (b:Nat):Nat→Nat→List Int→(List Int)
  | 0,a,c=>default
  | d+1,a,c=>if((a:Nat):Int) < ((b:Nat):Int) then ky b d (a+(min a (b - a))) (r5 a c++(r5 (min a (b - a)) (r5 a c)++r6 (a+(min a (b - a))) c)) else c
def nM (l0:List Int) (b:Int):(List Int):=
 bnd (rY (D2 b)) fun a=>bnd (ky a.2 ((D2 b - (min l0.length a.2))+1) (min l0.length a.2) (r5 0 (s0 a.2 (0:Int))++(r5 (min l0.length a.2) l0++r6 (0+(min l0.length a.2)) (s0 a.2 (0:Int))))) fun sLrbL=>sLrbL
theorem sV (w D W K c0 l0 d x) (H:Own w D w []) (L:Ro w D fun w'=>bA w' 1 W K (q6 (eI .i64) l0)) (M:K=l0.length) (ax:l0.length *8≤211106232532992) (ay:l0.length=1∧0≤d∧d *8≤140737488351232) (hr:nM l0 d=x):
    Calls y4 147 #[.slice W K c0,vI d] w (dR fun v w'=> ∃ X Y,v= .slice X x.length Y∧Own w D w' [row X x.length Y (q6 (eI .i64) x) 3 1]∧(((x.length:Nat):Int)=d)):=by
 subst M
 refine cb Tryz.func147 ?_
 refine sr (An rfl (FW (sr (Mz rfl (Kz (.bool (decide (d < 0))) (nt ?_))))))
 have y:(decide (d < 0))=false:=(dF e6)
 refine jF y (sk (sr (Mz rfl (Kz (vJ l0.length) (fw (vU l0.length) (FX (e:=D3.wrap ((l0.length:Nat):Int)) yk (IntWalk.u64_in _ e6)) (fw (vJ (D2 d)) (FX (e:=d) (F9 rfl) e6) (fw (vU (D2 d)) (FX (e:=D3.wrap ((D2 d:Nat):Int)) yk (IntWalk.u64_in _ e6)) ?_)))))))
 obtain⟨⟨g,a⟩,o⟩:∃ q:Nat × Nat,rY (D2 d)=q:=⟨_,rfl⟩
 obtain⟨az,A,Z,B,aa⟩:=F3 H
 refine cl Tryz.call164 (xh _ _ ((l0.length:Nat):Int) (D2 d) g a A e6 e6 o) ?_
 rintro _ aA ⟨rfl,C,p⟩
 have N:=B _ _ C
 replace p:g=0∧a=(D2 d):=p
 refine Mz rfl (Kz (vU g) (Kz (vU a) (Az rfl (An rfl (FW (sr (Mz rfl (Kz (.bool (decide (((g:Nat):Int) > 0))) (Mz rfl ?_)))))))))
 have h:(decide (((g:Nat):Int) > 0))=false:=(dF e6)
 refine GM (v:=vU a) rfl rfl h rfl (F9 rfl) (Gz (.bool (decide (((a:Nat):Int) > 9223372036854775807))) h (fw (.bool (decide (((a:Nat):Int) > 9223372036854775807))) (FZ rfl h rfl) (nt ?_)))
 have E:(decide (((a:Nat):Int) > 9223372036854775807))=false:=(dF e6)
 refine jF E (sk (sr (Mz rfl (fw (vJ a) (FX (e:=C7.wrap ((a:Nat):Int)) yk (JP _ e6)) ?_))))
 refine WL.do rfl (Ha (x0:=(0:Int)) (z:=vI 0) (k:=a) (size:=1) (bytes:=8) iI f3 rfl G3 e7 N rfl rfl e6 (by unfold maxLen; omega) ?_)
 intro f aB s
 have ae:s2 (s0 a (0:Int))=a:=H6
 refine Ar rfl (Mz rfl (Mz rfl ?_))
 refine WL.do rfl (IW (lo:=0) (k:=min l0.length a) (nk) s rfl (fun hp=>by rw [Nat.zero_mul,Nat.add_zero]; exact(s.rds (i:=0) rfl).isSome e6) e6 rfl (s.ro L) (fF uX l0) e6 (zo iI _ _ _ _ e9) ?_)
 intro aC O
 have af:s2 (r5 0 (s0 a (0:Int))++(r5 (min l0.length a) l0++r6 (0+(min l0.length a)) (s0 a (0:Int))))=a:=by simp only [p5,p3,p4,H6]; omega
 refine An rfl (FW (bo ?_))
 have P:=O.pf []
 obtain⟨Q,j⟩:=qK fun (b:Nat) c (l:Nat) w'=>Own w D w' [row f a a (q6 (eI .i64) c) 3 1]∧c.length=a∧((b:Nat):Int)≤d∧(1≤b∨d=0)∧D2 d - b < l∧ky a ((D2 d - (min l0.length a))+1) (min l0.length a) (r5 0 (s0 a (0:Int))++(r5 (min l0.length a) l0++r6 (0+(min l0.length a)) (s0 a (0:Int))))=ky a l b c
 refine C5 (fun i:Nat × (List Int) × Nat=> [(8,vJ i.1),(7, .slice f a a),(4, .slice none 0 0)]) Q (fun i=>i.2.2) (min l0.length a,(r5 0 (s0 a (0:Int))++(r5 (min l0.length a) l0++r6 (0+(min l0.length a)) (s0 a (0:Int)))),(D2 d - (min l0.length a))+1) ⟨rfl,rfl,rfl,trivial⟩ (j.2 ⟨P,by first | omega | (simp only [H5] <;> omega) | (simp only [H6]),e6,e6,e6,rfl⟩) ?_
 rintro ⟨b,c,l⟩ R F
 obtain⟨G,ag,ah,aj,ak,r⟩:=j.1 F
 obtain⟨t,I⟩:∃ q,l=q+1:=⟨l - 1,e6⟩
 subst I
 refine FW (sr (Mz rfl (Mz rfl (Kz (vJ a) (Kz (.bool (decide (((b:Nat):Int) < ((a:Nat):Int)))) (nt ?_))))))
 by_cases n:((b:Nat):Int) < ((a:Nat):Int)
 refine jT (dT n) (sk (bo ?_))
 refine vo [7] (bL.block (Gb (bL.block (Gb Gj)))) G ?_
 intro aD u
 refine Gu (v:=vJ b) 0 rfl e7 (fun _=>F9 rfl) (qv 1 rfl rfl (qv 2 rfl rfl (qt (v:= .slice (jC f b 1 a) (a - b) (a - b)) 3 rfl (fun _ _=>Gy (nk) rfl rfl e6) (qv 4 rfl rfl (qv 5 rfl rfl (qt (v:= .slice f b a) 6 rfl (fun _ _=>GU (nk) rfl rfl e6) ?_))))))
 refine qd 7 rfl (IW (lo:=b) (k:=min b (a - b)) (nk) u rfl (fun _=>kR ((u.rds (i:=0) rfl).addr (i:=b) e6) e6) e6 rfl (IV (hi:=b) iI (u.rds (i:=0) rfl) e6) (fF uX (r5 b c)) e6 (zo iI _ _ _ _ e9) ?_)
 intro aF S
 have au:s2 (r5 b c++(r5 (min b (a - b)) (r5 b c)++r6 (b+(min b (a - b))) c))=a:=by simp only [p5,p3,p4,H6]; omega
 refine⟨.inl e7, ?_⟩
 refine Gu (v:=vI ((b+(min b (a - b)):Nat):Int)) 8 rfl e7 (fun _=>FX (e:=C7.wrap (((b:Nat):Int)+((min b (a - b):Nat):Int))) yk f1) (Gu (v:=vI ((b+(min b (a - b)):Nat):Int)) 9 rfl e7 (fun _=>Hf rfl) (qn (bN ?_)))
 have T:=S.pf []
 exact Gc (b+(min b (a - b)),(r5 b c++(r5 (min b (a - b)) (r5 b c)++r6 (b+(min b (a - b))) c)),t) ⟨rfl,rfl,rfl,trivial⟩ (j.2 ⟨T,by first | omega | (simp only [H5] <;> omega) | (simp only [H6]),e6,e6,e6,Eq.trans (r) (if_pos n)⟩) (by show t < t+1; omega)
 refine jF (dF n) (D1 (F6 ?_))
 have J:ky a ((D2 d - (min l0.length a))+1) (min l0.length a) (r5 0 (s0 a (0:Int))++(r5 (min l0.length a) l0++r6 (0+(min l0.length a)) (s0 a (0:Int))))=c:=et (r) (iN n)
 refine F6 (Gi (FY (sr (Mz rfl (An rfl (rt (rs ?_)))))))
 have m:a=c.length:=by first | omega | (simp only [H5]; done) | (simp only [H5,p5,s3,G0,p3,p4,H6]; omega)
 have U:Own w D R [row f c.length a (q6 (eI .i64) c) 3 1]:=by rw [← m]; exact G
 have V:=U.pf []
 obtain rfl:_=c:=hr.symm.trans (et (ai o) (ai J))
 exact⟨f,a,(by first | rfl | (rw [← m]; done) | (rw [← m]; rfl)),V,e6⟩
def kz (l0:List aW) (g:List gq) (f:Nat):List bv→Nat→List bv→List Int→(List bv) × (List Int)
  | [],b,c,d=>(c,d)
  | h::i,b,c,d=>bnd (pQ l0 ((f:Nat):Int) h) fun a=>bnd (nM ([((b:Nat):Int)]) ((a.length:Nat):Int)) fun e=>kz l0 g f i (b+1) (c++a) (d++e)
def iY (l0:List aW) (l1:List bv):Nat→List gq→Nat→(List gq)
  | 0,a,b=>a
  | c+1,a,b=>bnd (kz l0 a b l1 0 ([]) ([])) fun sLrbtbtLsL=>if((sLrbtbtLsL.1.length:Nat):Int) > 0 then iY l0 l1 c (a++ [(gq.mk ((b:Nat):Int) (E4 sLrbtbtLsL.1) (E4 sLrbtbtLsL.2))]) (b+1) else iY l0 l1 c a (b+1)
def lQ (l0:List aW) (l1:List bv):(List gq) × Int:=
 bnd (kM l0) fun a=>if a=0 then bnd (nZ l1) fun b=>if b=0 then bnd (iY l0 l1 5 ([]) 0) fun sLrbtbtL=>(sLrbtbtL,0) else(([]:List gq),b) else(([]:List gq),a)
theorem zZ (w D A0 n0 c0 l0 L n1 c1 l1 r0 r1) (H:Own w D w []) (aR:Ro w D fun w'=>bA w' 2 A0 n0 (q6 aW.cells l0)) (dx:n0=l0.length) (fG:l0.length *24≤211106232532992) (Y:Ro w D fun w'=>bA w' 6 L n1 (q6 bv.cells l1)) (dz:n1=l1.length) (fH:l1.length *80≤211106232532992) (hr:lQ l0 l1=(r0,r1)):
    Calls y4 127 #[.slice A0 n0 c0, .slice L n1 c1] w (dR fun v w'=> ∃ B0 b0 e0,v= .tuple #[.slice B0 r0.length b0,vI r1]∧Own w D w' [row B0 r0.length b0 (q6 bD.cells e0) 172 3,sepL (q6 bD.own e0)]∧(List.map bD.abs e0=r0)):=by
 subst dx dz
 refine cb Tryz.func127 ?_
 refine sr (Az rfl (An rfl (FW (sr (Mz rfl ?_)))))
 obtain⟨J,F⟩:∃ q,kM l0=q:=⟨_,rfl⟩
 obtain⟨fI,aS,aT,aU,ed⟩:=F3 H
 refine cl Tryz.call72 (qU _ _ A0 l0.length c0 l0 J aS (aT _ aR) rfl e6 F) ?_
 rintro _ aV ⟨rfl,aX,ah⟩
 have aY:=aU _ _ aX
 replace ah: ¬ (J=0)∨(1≤l0.length∧l0.length≤6):=ah
 refine Ar rfl (Mz rfl (fw (.bool (decide (¬ (J=0)))) (Gm (e:= !(decide (J=0))) yk decide_not.symm) (nt ?_)))
 by_cases M:J=0
 refine jF (dF (JR M)) (sk (FW (sr (Mz rfl ?_))))
 obtain⟨K,N⟩:∃ q,nZ l1=q:=⟨_,rfl⟩
 obtain⟨fJ,aZ,bf,bg,ek⟩:=F3 aY
 refine cl Tryz.call137 (wM _ _ L l1.length c1 l1 K aZ (bf _ Y) rfl e6 N) ?_
 rintro _ Z ⟨rfl,bi,aj⟩
 have bn:=bg _ _ bi
 replace aj: ¬ (K=0)∨(1≤l1.length∧l1.length≤4):=aj
 refine Ar rfl (Mz rfl (fw (.bool (decide (¬ (K=0)))) (Gm (e:= !(decide (K=0))) yk decide_not.symm) (nt ?_)))
 by_cases aa:K=0
 refine jF (dF (JR aa)) (sk (sr (An rfl (FW (sr (Mn rfl (bo ?_)))))))
 have dB:Own w D Z [sepL (q6 bD.own ([]))]:=bn.sepNil
 have dC:Own w D Z [row none 0 0 (q6 bD.cells ([])) 172 3,sepL (q6 bD.own ([]))]:=dB.free (fB 172 3)
 have dD:=dC.pf []
 obtain⟨dE,G⟩:=AU fun z (A:Nat) x d (a:Nat) w'=>Own w D w' [row z d.length A (q6 bD.cells x) 172 3,sepL (q6 bD.own x)]∧List.map bD.abs x=d∧a≤5∧d.length≤a∧iY l0 l1 5 ([]) 0=iY l0 l1 (5 - a) d a
 refine C5 (fun i:(Option Addr) × Nat × (List bD) × (List gq) × Nat=> [(8, .slice i.1 i.2.2.2.1.length i.2.1),(23,vJ i.2.2.2.2),(5,vI 0),(4, .slice none 0 0),(0, .slice A0 l0.length c0),(1, .slice L l1.length c1)]) dE (fun i=>5 - i.2.2.2.2) (none,0, [], [],0) ⟨rfl,rfl,rfl,rfl,rfl,rfl,trivial⟩ (G.2 ⟨dD,(show List.map bD.abs ([])=([])∧0≤5∧0≤0∧iY l0 l1 5 ([]) 0=iY l0 l1 (5 - 0) ([]) 0 from ⟨by exact rfl,e6,e6,rfl⟩)⟩) ?_
 rintro ⟨z,A,x,d,a⟩ fK bq
 obtain⟨bu,B,eu,eB,O⟩:=G.1 bq
 have eD:=az B
 refine sr (Kz (.bool (decide (((a:Nat):Int) < 5))) (nt (FW ?_)))
 by_cases bz:((a:Nat):Int) < 5
 refine jT (dT bz) (sk (FW (bo (sr (Mz rfl (Ar rfl (Mz rfl (Kz (.agg #[vJ a, .slice none 0 0, .slice none 0 0]) ?_))))))))
 refine dM [vI 0, .slice none 0 0, .slice none 0 0] 172 bu ?_
 intro C fM dG
 refine dN [vJ a, .slice none 0 0, .slice none 0 0] 0 dG Tryz.sizeOf172 ?_
 intro bB dH
 refine nt (FW (sr (Mz rfl (Kz (vJ l1.length) (Mn rfl (bo ?_))))))
 have dI:Own w D bB (row none 0 0 (q6 bv.cells ([])) 72 6::_):=dH.free (fB 72 6)
 have dJ:Own w D bB (row none 0 0 (q6 (eI .i64) ([])) 3 1::_):=dI.free (fB 3 1)
 have dL:=dJ.pb [1,0]
 obtain⟨dO,P⟩:=FN fun (g:Nat) h (j:Nat) b p (r:Nat) c w'=>Own w D w' [blk C [vJ a, .slice h b.length j, .slice p c.length r] 172,row z d.length A (q6 bD.cells x) 172 3,sepL (q6 bD.own x),row h b.length j (q6 bv.cells b) 72 6,row p c.length r (q6 (eI .i64) c) 3 1]∧g≤l1.length∧b.length≤6 *g∧c.length≤6 *g∧kz l0 d a l1 0 ([]) ([])=kz l0 d a (r6 g l1) g b c
 refine C5 (fun i:Nat × (Option Addr) × Nat × (List bv) × (Option Addr) × Nat × (List Int)=> [(30,vJ i.1),(29,vJ l1.length),(28, .slice L l1.length c1),(10,vP C 0),(27, .agg #[vJ a, .slice none 0 0, .slice none 0 0]),(26,vJ a),(9,vJ a),(25,vJ a),(24, .bool (decide (((a:Nat):Int) < 5))),(8, .slice z d.length A),(23,vJ a),(5,vI 0),(4, .slice none 0 0),(0, .slice A0 l0.length c0),(1, .slice L l1.length c1)]) dO (fun i=>l1.length - i.1) (0,none,0, [],none,0, []) ⟨rfl,rfl,rfl,rfl,rfl,rfl,rfl,rfl,rfl,rfl,rfl,rfl,rfl,rfl,rfl,trivial⟩ (P.2 ⟨dL,(show 0≤l1.length∧0≤6 *0∧0≤6 *0∧kz l0 d a l1 0 ([]) ([])=kz l0 d a (r6 0 l1) 0 ([]) ([]) from ⟨e6,e6,e6,rfl⟩)⟩) ?_
 rintro ⟨g,h,j,b,p,r,c⟩ fO bC
 obtain⟨E,eF,eG,eH,ak⟩:=P.1 bC
 refine sr (Kz (.bool (decide (((g:Nat):Int) < ((l1.length:Nat):Int)))) (nt (FW ?_)))
 by_cases bE:((g:Nat):Int) < ((l1.length:Nat):Int)
 obtain⟨ae,au⟩:=dK (ls:=l1) (i:=g) bv.len f3 (E.ro Y) e9
 have bF:=drop_at au
 refine jT (dT bE) (sk (FW (bo (sr (Mz rfl (Ar rfl (Mz rfl (Mz rfl (Mz rfl (Mz rfl (fw (.pointer (some ⟨ab L,ao L+g *6,none⟩)) (F4 (qz) rfl rfl ((E.ro Y).addr (i:=g) e6) e6) (fw (.agg (bv.cells ae).toArray) (F7 rfl (Gf (cs:=(bv.cells ae)) Tryz.isAgg72 Tryz.sizeOf72 ((E.ro Y).elem bv.len au f3))) ?_))))))))))))
 obtain⟨u,Q⟩:∃ q,pQ l0 ((a:Nat):Int) ae=q:=⟨_,rfl⟩
 obtain⟨fP,bG,bH,bI,eO⟩:=F3 E
 refine cl Tryz.call146 (yB _ _ A0 l0.length c0 l0 ((a:Nat):Int) ae u bG (bH _ aR) rfl e6 e6 Q) ?_
 rintro _ eP ⟨eQ,eT,rfl,aK,R⟩
 have S:=bI _ _ aK
 have dP:=S.rowC (i:=0) rfl
 replace R:u.length≤6:=R
 refine Ar rfl (Kz (vP C 1) (Lz (.slice h b.length j) S 1 Tryz.isAgg39 (Mz rfl ?_)))
 have av:=S.pf [4]
 refine WL.do rfl (Gt (k:=b.length) (m:=u.length) (qz) av rfl rfl (iU B1 (av.rds (i:=1) rfl) (fF bv.one u)) rfl e6 (s:=s2 (b++u)) f7 (r7).symm ?_)
 intro ax ay eU bJ
 have dQ:s2 (b++u)=b.length+u.length:=by simp only [p5,s3,G0]
 refine Kz (vP C 1) ?_
 have bK:=bJ.pf [2]
 refine dN [.slice ax (s2 (b++u)) ay] 1 bK Tryz.sizeOf39 ?_
 intro eX bM
 refine nt ?_
 refine FQ [7,9] (bL.block (Gb (Gb (bL.block (Gb (bL.block (Gb (Gb (bL.block (Gb Gj)))))))))) bM ?_
 intro eY bO
 refine qp C 2 0 rfl (ql 1 rfl 0 Tryz.isAgg58 rfl rfl rfl (qv 2 rfl rfl (qv 4 rfl rfl (qk (vJ u.length) 5 rfl ?_))))
 refine qd 3 rfl (Hg (cs:= [vJ g]) (t:=3) (sz:=1) (m:=1) bO rfl rfl (fun _=>by kernel_rfl) rfl f3 ?_)
 intro aA fe T
 replace T:=Gs (y:=row aA 1 1 (q6 (eI .i64) ([((g:Nat):Int)])) 3 1) rfl T
 have aB:=T.pb [0]
 refine⟨.inr ⟨_,aB⟩, ?_⟩
 obtain⟨l,U⟩:∃ q,nM ([((g:Nat):Int)]) ((u.length:Nat):Int)=q:=⟨_,rfl⟩
 obtain⟨fo,aL,dS,aM,aN⟩:=F3 aB
 refine qd 6 rfl (Gg Tryz.call147 rfl (sV _ _ aA 1 1 ([((g:Nat):Int)]) ((u.length:Nat):Int) l aL (aN _ 6 _ rfl aP) rfl i8 (by first | omega | exact⟨rfl,e6,e6⟩) U) ?_)
 rintro _ fq ⟨fu,fA,rfl,aO,V⟩
 have aC:=aM _ _ aO
 have dU:=aC.rowC (i:=0) rfl
 replace V:((l.length:Nat):Int)=((u.length:Nat):Int):=V
 have aD:=aC.pb [0,7]
 refine⟨.inr ⟨_,aD⟩, ?_⟩
 have aF:=aD.pf [5]
 refine qd 7 rfl (Gt (k:=c.length) (m:=l.length) (nk) aF rfl rfl (iU G3 (aF.rds (i:=6) rfl) (fF uX l)) rfl e6 (s:=s2 (c++l)) f7 (r7).symm ?_)
 intro aG aH fC bP
 have dV:s2 (c++l)=c.length+l.length:=by simp only [p5,s3,G0]
 refine⟨.inl e7, ?_⟩
 refine Gu (v:=vP C 2) 8 rfl e7 (fun _=>yk) ?_
 have bQ:=bP.pf [1]
 refine qe 9 rfl (Do.store (vs:= [.slice aG (s2 (c++l)) aH]) (o:=2) bQ rfl rfl Tryz.sizeOf58 rfl rfl rfl rfl ?_)
 intro fD bR
 refine⟨.inl e7, ?_⟩
 refine qn (bN (FY (FV (fw (vJ (g+1)) (FX (e:=C7.wrap (((g:Nat):Int)+1)) yk f1) (Mz rfl (D0 ?_))))))
 have bS:=bR.pk [0,4,5,2,1]
 exact Gc (g+1,ax,ay,(b++u),aG,aH,(c++l)) ⟨rfl,rfl,rfl,rfl,rfl,rfl,rfl,rfl,rfl,rfl,rfl,rfl,rfl,rfl,rfl,trivial⟩ (P.2 ⟨bS,e6,e6,e6,et (ak) (et (congrArg (fun q=>kz l0 d a q g b c) bF) (et (ai Q) (ai U)))⟩) (by show l1.length - (g+1) < l1.length - g; omega)
 refine jF (dF bE) (D1 (F6 ?_))
 have W:kz l0 d a l1 0 ([]) ([])=(b,c):=et (ak) (et (congrArg (fun q=>kz l0 d a q g b c) (eZ (ls:=l1) (i:=g) e6)) rfl)
 refine F6 (Gi (FY (sr (Kz (vP C 1) (Lz (.slice h b.length j) E 0 Tryz.isAgg39 (Kz (vJ b.length) (Kz (.bool (decide (((b.length:Nat):Int) > 0))) (nt ?_))))))))
 by_cases I:((b.length:Nat):Int) > 0
 refine jT (dT I) (FV (Mz rfl (La ([vJ a, .slice h b.length j, .slice p c.length r]) E 0 Tryz.isAgg172 Tryz.sizeOf172 ?_)))
 refine kL [vJ a, .slice h b.length j, .slice p c.length r] 172 3 1 E ?_
 intro bT fE X
 replace X:=Gs (y:=row bT 1 1 (q6 bD.cells ([(bD.mk ((a:Nat):Int) (H3 h j b) (H3 p r c))])) 172 3) rfl X
 have aI:=X.pb [0,1]
 refine WL.do rfl (Gt (k:=d.length) (m:=1) (tK) aI rfl rfl (iU Tryz.underlying103 (aI.rds (i:=4) rfl) (fF bD.one ([(bD.mk ((a:Nat):Int) (H3 h j b) (H3 p r c))]))) rfl e6 (s:=s2 (d++ [(gq.mk ((a:Nat):Int) (E4 b) (E4 c))])) f7 (r7).symm ?_)
 intro bU bV bW bX
 have bY:=bX.pb [0,4,5]
 have bZ:Own w D bW (sepL (q6 bD.own (x++ [(bD.mk ((a:Nat):Int) (H3 h j b) (H3 p r c))]))::_):=bY.sepAdd (L2:= [row h b.length j (q6 bv.cells b) 72 6,row p c.length r (q6 (eI .i64) c) 3 1]) (r7 (f:=bD.own) (xs:=x) (ys:= [(bD.mk ((a:Nat):Int) (H3 h j b) (H3 p r c))])).symm
 have dW:s2 (d++ [(gq.mk ((a:Nat):Int) (E4 b) (E4 c))])=d.length+1:=by simp only [p5,s3,G0]
 have dX:=az (oG (es:= [(bD.mk ((a:Nat):Int) (H3 h j b) (H3 p r c))]) (ms:= [(gq.mk ((a:Nat):Int) (E4 b) (E4 c))]) B rfl)
 refine Az rfl (D0 (bN (FY (FV (fw (vJ (a+1)) (FX (e:=C7.wrap (((a:Nat):Int)+1)) yk f1) (Mz rfl (D0 ?_)))))))
 have cu:=bZ.pk [1,0]
 exact Gc (bU,bV,(x++ [(bD.mk ((a:Nat):Int) (H3 h j b) (H3 p r c))]),(d++ [(gq.mk ((a:Nat):Int) (E4 b) (E4 c))]),a+1) ⟨rfl,rfl,rfl,rfl,rfl,rfl,trivial⟩ (G.2 ⟨cu,by exact(oG (es:= [(bD.mk ((a:Nat):Int) (H3 h j b) (H3 p r c))]) (ms:= [(gq.mk ((a:Nat):Int) (E4 b) (E4 c))]) B rfl),e6,e6,et (O) (et (congrArg (fun q=>iY l0 l1 q d a) (rA (n:=5) (i:=a) e6)) (et (ai W) (ip I)))⟩) (by show 5 - (a+1) < 5 - a; omega)
 refine jF (dF I) (Gn (bN (FY (FV (fw (vJ (a+1)) (FX (e:=C7.wrap (((a:Nat):Int)+1)) yk f1) (Mz rfl (D0 ?_)))))))
 have cz:=E.pk [1,2]
 exact Gc (z,A,x,d,a+1) ⟨rfl,rfl,rfl,rfl,rfl,rfl,trivial⟩ (G.2 ⟨cz,by exact B,e6,e6,et (O) (et (congrArg (fun q=>iY l0 l1 q d a) (rA (n:=5) (i:=a) e6)) (et (ai W) (iN I)))⟩) (by show 5 - (a+1) < 5 - a; omega)
 refine jF (dF bz) (D1 (F6 ?_))
 have aQ:iY l0 l1 5 ([]) 0=d:=et (O) (et (congrArg (fun q=>iY l0 l1 q d a) (wm (n:=5) (i:=a) e6)) rfl)
 refine F6 (Gi (FY (sr (Mz rfl (Az rfl (An rfl (rt (Fin.res (lY rfl rfl rfl) ?_))))))))
 have cB:=bu.pf []
 obtain⟨rfl,rfl⟩:=gm (hr.symm.trans (show _=(d,0) from et (ai F) (et (ip M) (et (ai N) (et (ip aa) (ai aQ))))))
 exact⟨z,A,x,rfl,cB,B⟩
 refine jT (dT aa) (sr (Mz rfl (Az rfl (An rfl (rt (tR (Fin.res (lY rfl rfl rfl) ?_)))))))
 have cK:Own w D Z [sepL (q6 bD.own ([]))]:=bn.sepNil
 have cO:Own w D Z [row none 0 0 (q6 bD.cells ([])) 172 3,sepL (q6 bD.own ([]))]:=cK.free (fB 172 3)
 have cZ:=cO.pf []
 obtain⟨rfl,rfl⟩:=gm (hr.symm.trans (show _=(([]:List gq),K) from et (ai F) (et (ip M) (et (ai N) (iN aa)))))
 exact⟨none,0, [],rfl,cZ,rfl⟩
 refine jT (dT M) (sr (Mz rfl (Az rfl (An rfl (rt (tR (Fin.res (lY rfl rfl rfl) ?_)))))))
 have df:Own w D aV [sepL (q6 bD.own ([]))]:=aY.sepNil
 have dh:Own w D aV [row none 0 0 (q6 bD.cells ([])) 172 3,sepL (q6 bD.own ([]))]:=df.free (fB 172 3)
 have di:=dh.pf []
 obtain⟨rfl,rfl⟩:=gm (hr.symm.trans (show _=(([]:List gq),J) from et (ai F) (iN M)))
 exact⟨none,0, [],rfl,di,rfl⟩
end Go.Proofs.YtbkagebjhbphaaaGreat
