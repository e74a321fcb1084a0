/-
 owner: operations cut.
-/
import Derived.Test.YtbkagebjhbphaaaGreatWc
namespace Go.Proofs.YtbkagebjhbphaaaGreat
open Int renaming fdiv→I9,toNat→D2
open IntKind renaming i64→C7,u64→D3
open List renaming drop→r6,flatMap→q6,flatMap_append→r7,getD→C2,length→s2,length_append→p5,length_cons→s3,length_drop→p4,length_nil→G1,length_replicate→H4,length_set→H3,length_take→p3,replicate→s0,take→r5,toArray→y6
open Ll renaming mk→E4
open Sv renaming mk→H2
open _root_.Go.Proofs.Tryz renaming call156→M2,call163→M3,isAgg3→C6,isAgg38→K9,isAgg9→C4,prog→y4,sizeOf38→K8,underlying39→B1,underlying58→G4
open WL renaming nil→D0
open Wp renaming exit→D1,loop→C5
set_option maxRecDepth 100000
open Go.RowKit
set_option linter.unusedVariables false
set_option linter.unusedSectionVars false
set_option linter.unusedSimpArgs false
def ky (d:List UInt8):List bv→Nat→Nat→Nat
  | [],b,a=>b
  | e::c,b,a=>if e.bJ≤d then ky d c a (a+1) else ky d c b (a+1)
def sS (l0:List bv) (a:List UInt8):Int:=
 bnd (ky a l0 0 0) fun sLrL=>((sLrL:Nat):Int)
theorem xM (w:World) (D:Nat→Prop) (l:Option Addr) (u x:Nat) (l0:List bv) (c:List UInt8) (t:Int) (H:Own w D w []) (o:Ro w D fun w'=>bD w' 2 l u (q6 bv.cells l0)) (y:u=l0.length) (M:l0.length *24≤211106232532992) (N:1≤l0.length) (hr:sS l0 c=t):
    Calls y4 162 #[.slice l u x, .string ⟨y6 c⟩] w (dS fun v w'=>v=vI t∧Own w D w' []∧(0≤t∧t < ((l0.length:Nat):Int))):=by
 subst y
 refine cb Tryz.func162 ?_
 refine sr (Ar rfl (An rfl (EP (sr (Mz rfl (Kz (vJ l0.length) (Mn rfl (bo ?_))))))))
 have z:=H.pk []
 obtain⟨A,d⟩:=Dt fun(b:Nat) (a:Nat) (w':World)=>Own w D w' []∧a≤l0.length∧b≤a∧b≤a∧b≤l0.length∧0≤b∧b < l0.length∧ky c l0 0 0=ky c (r6 a l0) b a
 refine C5 (fun i:Nat × Nat=> [(5,vJ i.1),(9,vJ i.2),(8,vJ l0.length),(4,vI 0),(0, .slice l l0.length x),(1, .string ⟨y6 c⟩)]) A (fun i=>l0.length - i.2) (0,0) ⟨rfl,rfl,rfl,rfl,rfl,rfl,trivial⟩ (d.2 ⟨z,e6,e6,e6,e6,e6,e6,rfl⟩) ?_
 rintro ⟨b,a⟩ O p
 obtain⟨f,F,G,I,J,K,L,g⟩:=d.1 p
 refine sr (Kz (.bool (decide (((a:Nat):Int) < ((l0.length:Nat):Int)))) (nt (EP ?_)))
 by_cases r:((a:Nat):Int) < ((l0.length:Nat):Int)
 obtain⟨h,m⟩:=dG (ls:=l0) (i:=a) bv.len f3 (f.ro o) e9
 have n:=drop_at m
 refine jT (dT r) (sk (EP (bo (sr (Mz rfl (Ar rfl (Mz rfl (Mz rfl (fw (.pointer (some ⟨ab l,ao l+a *2,none⟩)) (ET (pX) rfl rfl ((f.ro o).addr (i:=a) e6) e6) (Kz (.pointer (some ⟨ab l,ao l+a *2,none⟩)) (fw (.string ⟨y6 h.bJ⟩) (EY rfl (bZ.one C4 (((f.ro o).elem bv.len m f3).at_ (k:=0) rfl))) (Mz rfl (fw (.bool (decide (h.bJ≤c))) (Fs (e:=Op.bytesLess h.bJ c || decide (h.bJ=c)) (Gn rfl rfl) (yB _ _)) (nt ?_))))))))))))))
 by_cases j:h.bJ≤c
 refine jT (dT j) (EO (Mz rfl (Az rfl (D0 (bN (ER (EO (fw (vJ (a+1)) (EQ (e:=C7.wrap (((a:Nat):Int)+1)) yk f1) (Mz rfl (D0 ?_))))))))))
 have B:=f.pk []
 exact E8 (a,a+1) ⟨rfl,rfl,rfl,rfl,rfl,rfl,trivial⟩ (d.2 ⟨B,e6,e6,e6,e6,e6,e6,et (g) (et (congrArg (fun q=>ky c q b a) n) (ip j))⟩) (by show l0.length - (a+1) < l0.length - a; omega)
 refine jF (dF j) (Fq (bN (ER (EO (fw (vJ (a+1)) (EQ (e:=C7.wrap (((a:Nat):Int)+1)) yk f1) (Mz rfl (D0 ?_)))))))
 have C:=f.pk []
 exact E8 (b,a+1) ⟨rfl,rfl,rfl,rfl,rfl,rfl,trivial⟩ (d.2 ⟨C,e6,e6,e6,e6,e6,e6,et (g) (et (congrArg (fun q=>ky c q b a) n) (iN j))⟩) (by show l0.length - (a+1) < l0.length - a; omega)
 refine jF (dF r) (D1 (EX ?_))
 have s:ky c l0 0 0=b:=et (g) (et (congrArg (fun q=>ky c q b a) (eD (ls:=l0) (i:=a) e6)) rfl)
 refine EX (Fg (ER (sr (Mz rfl (An rfl (rt (rs ?_)))))))
 have E:=f.pk []
 obtain rfl:_=((b:Nat):Int):=hr.symm.trans (ah s)
 exact⟨rfl,E,e6⟩
def lV (l0:List bv) (c:Int):bK:=
 bnd (C2 l0 (D2 c) default) fun a=>if c+1 < ((l0.length:Nat):Int) then bnd (C2 l0 (D2 (c+1)) default) fun b=>bK.mk a.bJ b.bJ else bK.mk a.bJ ([])
theorem nO (w:World) (D:Nat→Prop) (h:Option Addr) (r C:Nat) (l0:List bv) (b:Int) (B:bK) (H:Own w D w []) (c:Ro w D fun w'=>bD w' 2 h r (q6 bv.cells l0)) (s:r=l0.length) (E:l0.length *24≤211106232532992) (F:0≤b∧b < ((l0.length:Nat):Int)) (hr:lV l0 b=B):
    Calls y4 156 #[.slice h r C,vI b] w (dS fun v w'=>v= .agg (bK.cells B).toArray∧Own w D w' []):=by
 subst s
 refine cb Tryz.func156 ?_
 refine sr ?_
 refine dK [.string ⟨y6 ([])⟩, .string ⟨y6 ([])⟩] 38 H ?_
 intro G I j
 refine ns (Mz rfl (fw (vJ (D2 b)) (EQ (e:=b) (E5 rfl) e6) ?_))
 obtain⟨a,g⟩:=dG (ls:=l0) (i:=D2 b) bv.len f3 (j.ro c) e9
 refine fw (.pointer (some ⟨ab h,ao h+(D2 b) *2,none⟩)) (ET (pX) rfl rfl ((j.ro c).addr (i:=D2 b) e6) e6) (Kz (.pointer (some ⟨ab h,ao h+(D2 b) *2,none⟩)) (fw (.string ⟨y6 a.bJ⟩) (EY rfl (bZ.one C4 (((j.ro c).elem bv.len g f3).at_ (k:=0) rfl))) (Kz (.agg #[.string ⟨y6 a.bJ⟩, .string ⟨y6 ([])⟩]) ?_)))
 refine dK [.string ⟨y6 ([])⟩, .string ⟨y6 ([])⟩] 38 j ?_
 intro t J u
 refine dN [.string ⟨y6 a.bJ⟩, .string ⟨y6 ([])⟩] 0 u K8 ?_
 intro K d
 refine nt (EP (sr (Mz rfl (fw (vI (b+1)) (EQ (e:=C7.wrap (b+1)) yk g2) (Mz rfl (Kz (vJ l0.length) (Kz (.bool (decide (b+1 < ((l0.length:Nat):Int)))) (nt ?_))))))))
 by_cases l:b+1 < ((l0.length:Nat):Int)
 refine jT (dT l) (EO (Mz rfl (Mz rfl (fw (vJ (D2 (b+1))) (EQ (e:=C7.wrap (b+1)) yk f1) ?_))))
 obtain⟨f,n⟩:=dG (ls:=l0) (i:=D2 (b+1)) bv.len f3 (d.ro c) e9
 refine fw (.pointer (some ⟨ab h,ao h+(D2 (b+1)) *2,none⟩)) (ET (pX) rfl rfl ((d.ro c).addr (i:=D2 (b+1)) e6) e6) (Kz (.pointer (some ⟨ab h,ao h+(D2 (b+1)) *2,none⟩)) (fw (.string ⟨y6 f.bJ⟩) (EY rfl (bZ.one C4 (((d.ro c).elem bv.len n f3).at_ (k:=0) rfl))) (Kz (vP t 1) ?_)))
 refine dN [.string ⟨y6 f.bJ⟩] 1 d Tryz.sizeOf9 ?_
 intro L o
 refine ns (La ([.string ⟨y6 a.bJ⟩, .string ⟨y6 f.bJ⟩]) o 0 K9 K8 ?_)
 have x:=o.pb [0]
 refine dN [.string ⟨y6 a.bJ⟩, .string ⟨y6 f.bJ⟩] 0 x K8 ?_
 intro M p
 refine nt (rt (Fin.res (mP rfl rfl (Fb (cs:= [.string ⟨y6 a.bJ⟩, .string ⟨y6 f.bJ⟩]) K9 K8 ((p.cls (i:=0) rfl).lit (k:=0) (m:=2) rfl))) ?_))
 have y:=p.pk []
 obtain rfl:_=bK.mk a.bJ f.bJ:=hr.symm.trans (et (ah (bI g)) (et (ip l) (ah (bI n))))
 exact⟨rfl,y⟩
 refine jF (dF l) (sk (sr (La ([.string ⟨y6 a.bJ⟩, .string ⟨y6 ([])⟩]) d 0 K9 K8 ?_)))
 have z:=d.pb [0]
 refine dN [.string ⟨y6 a.bJ⟩, .string ⟨y6 ([])⟩] 0 z K8 ?_
 intro N q
 refine nt (rt (Fin.res (mP rfl rfl (Fb (cs:= [.string ⟨y6 a.bJ⟩, .string ⟨y6 ([])⟩]) K9 K8 ((q.cls (i:=0) rfl).lit (k:=0) (m:=2) rfl))) ?_))
 have A:=q.pk []
 obtain rfl:_=bK.mk a.bJ ([]):=hr.symm.trans (et (ah (bI g)) (iN l))
 exact⟨rfl,A⟩
def rA (a:List UInt8) (b:List UInt8):(List UInt8):=
 if a=([]) then b else if b≠([]) then if b < a then b else a else a
theorem wJ (w:World) (D:Nat→Prop) (d:List UInt8) (c:List UInt8) (k:List UInt8) (H:Own w D w []) (hr:rA d c=k):
    Calls y4 187 #[.string ⟨y6 d⟩, .string ⟨y6 c⟩] w (dS fun v w'=>v= .string ⟨y6 k⟩∧Own w D w' []):=by
 refine cb Tryz.func187 ?_
 refine sr (An rfl (EP (sr (Mz rfl (fw (.bool (decide (d=([])))) (Gy rfl rfl) (Mz rfl ?_))))))
 by_cases a:d=([])
 refine Sz (dT a) (Sz (dT a) (Sz (dT a) (FB rfl rfl rfl (FB rfl rfl rfl (FB rfl rfl rfl (Sz (dT a) (fw (.bool true) (Fa rfl (dT a) rfl) (nt (jt (sr (Mz rfl (An rfl (rt (tR (rs ?_)))))))))))))))
 have g:=H.pk []
 obtain rfl:_=c:=hr.symm.trans (ip a)
 exact⟨rfl,g⟩
 refine gw (.string ⟨y6 c⟩) (dF a) (E5 rfl) (gw (.bool (decide (c≠([])))) (dF a) (Gd rfl rfl) (gw (.bool (decide (c≠([])))) (dF a) (E5 rfl) ?_))
 by_cases b:c≠([])
 refine gw (.string ⟨y6 c⟩) (dT b) (E5 rfl) (gw (.string ⟨y6 d⟩) (dT b) (E5 rfl) (gw (.bool (decide (c < d))) (dT b) (Fs (e:=Op.bytesLess c d) (G5 rfl rfl) (AQ _ _)) (gw (.bool (decide (c < d))) (dF a) (Fa rfl (dT b) rfl) (fw (.bool (decide (c < d))) (ES rfl (dF a) rfl) (nt ?_)))))
 by_cases f:c < d
 refine jT (dT f) (sr (Mz rfl (An rfl (rt (tR (rs ?_))))))
 have h:=H.pk []
 obtain rfl:_=c:=hr.symm.trans (et (iN a) (et (ip b) (ip f)))
 exact⟨rfl,h⟩
 refine jF (dF f) (sk (sr (Mz rfl (An rfl (rt (rs ?_))))))
 have i:=H.pk []
 obtain rfl:_=d:=hr.symm.trans (et (iN a) (et (ip b) (iN f)))
 exact⟨rfl,i⟩
 refine Sz (dF b) (Sz (dF b) (Sz (dF b) (gw (.bool false) (dF a) (ES rfl (dF b) rfl) (fw (.bool false) (ES rfl (dF a) rfl) (nt (jf (sk (sr (Mz rfl (An rfl (rt (rs ?_))))))))))))
 have j:=H.pk []
 obtain rfl:_=d:=hr.symm.trans (et (iN a) (iN b))
 exact⟨rfl,j⟩
def uo (b:List UInt8) (a:List UInt8):Bool:=
 if a=([]) then true else decide (b < a)
theorem yz (w:World) (D:Nat→Prop) (c:List UInt8) (b:List UInt8) (g:Bool) (H:Own w D w []) (hr:uo c b=g):
    Calls y4 188 #[.string ⟨y6 c⟩, .string ⟨y6 b⟩] w (dS fun v w'=>v= .bool g∧Own w D w' []):=by
 refine cb Tryz.func188 ?_
 refine sr (Ar rfl (Mz rfl (fw (.bool (decide (b=([])))) (Gy rfl rfl) (Mz rfl ?_))))
 by_cases a:b=([])
 refine Sz (dT a) (Sz (dT a) (Sz (dT a) (fw (.bool true) (Fa rfl (dT a) rfl) (An rfl (rt (rs ?_))))))
 have d:=H.pk []
 obtain rfl:_=true:=hr.symm.trans (ip a)
 exact⟨rfl,d⟩
 refine gw (.string ⟨y6 c⟩) (dF a) (E5 rfl) (gw (.string ⟨y6 b⟩) (dF a) (E5 rfl) (gw (.bool (decide (c < b))) (dF a) (Fs (e:=Op.bytesLess c b) (G5 rfl rfl) (AQ _ _)) (fw (.bool (decide (c < b))) (ES rfl (dF a) rfl) (An rfl (rt (rs ?_))))))
 have f:=H.pk []
 obtain rfl:_=decide (c < b):=hr.symm.trans (iN a)
 exact⟨rfl,f⟩
def mO (e:bK) (f:bK):bK × Bool:=
 bnd (lZ e) fun b=>if b=0 then bnd (lZ f) fun c=>if c=0 then bnd (rA e.bX f.bX) fun a=>bnd (uo (oP e.bJ f.bJ) a) fun d=>if d=true then(bK.mk (oP e.bJ f.bJ) a,true) else(bK.mk ([]) ([]),false) else(bK.mk ([]) ([]),false) else(bK.mk ([]) ([]),false)
theorem nu (w:World) (D:Nat→Prop) (d:bK) (c:bK) (r0:bK) (r1:Bool) (H:Own w D w []) (hr:mO d c=(r0,r1)):
    Calls y4 163 #[.agg (bK.cells d).toArray, .agg (bK.cells c).toArray] w (dS fun v w'=>v= .tuple #[.agg (bK.cells r0).toArray, .bool r1]∧Own w D w' []):=by
 refine cb Tryz.func163 ?_
 refine sr ?_
 refine dK (bK.cells d) 38 H ?_
 intro B aP Z
 refine dK (bK.cells c) 38 Z ?_
 intro C aQ aa
 refine dK [.string ⟨y6 ([])⟩, .string ⟨y6 ([])⟩] 38 aa ?_
 intro aR aS E
 refine An rfl (EP (sr (La (bK.cells d) E 2 K9 K8 ?_)))
 obtain⟨s,f⟩:∃ q,lZ d=q:=⟨_,rfl⟩
 obtain⟨aT,F,aG,G,aH⟩:=EU E
 refine cl Tryz.call116 (pu _ _ d s F f) ?_
 rintro _ aU ⟨rfl,I⟩
 have x:=G _ _ I
 refine fw (.bool (decide (¬ (s=0)))) (Fs (e:= !(decide (s=0))) yk decide_not.symm) (Mz rfl ?_)
 by_cases a:s=0
 refine gw (.agg (bK.cells c).toArray) (dF (IV a)) (EY rfl (Fb (cs:=(bK.cells c)) K9 K8 ((x.cls (i:=1) rfl).lit (k:=0) (m:=2) rfl))) ?_
 obtain⟨h,g⟩:∃ q,lZ c=q:=⟨_,rfl⟩
 obtain⟨aV,J,aI,K,aJ⟩:=EU x
 refine uM (dF (IV a)) Tryz.call116 (pu _ _ c h J g) ?_
 rintro _ aW ⟨rfl,L⟩
 have M:=K _ _ L
 refine gw (.bool (decide (¬ (h=0)))) (dF (IV a)) (Fs (e:= !(decide (h=0))) yk decide_not.symm) (fw (.bool (decide (¬ (h=0)))) (ES rfl (dF (IV a)) rfl) (nt ?_))
 by_cases j:h=0
 refine jF (dF (IV j)) (sk (EP ?_))
 refine CG [] (E9 Fp) M ?_
 intro aX ae
 refine qp B 0 0 rfl (ql 1 rfl 2 C4 rfl rfl rfl (qp C 0 2 rfl (ql 3 rfl 1 C4 rfl rfl rfl (qt (v:= .string ⟨y6 (oP d.bJ c.bJ)⟩) 4 rfl (fun _ _=>HZ rfl) (qp B 1 5 rfl (ql 6 rfl 2 C4 rfl rfl rfl (qp C 1 7 rfl (ql 8 rfl 1 C4 rfl rfl rfl ?_))))))))
 obtain⟨b,l⟩:∃ q,rA d.bX c.bX=q:=⟨_,rfl⟩
 refine CJ ⟨9,_,_,_,_,_,Unit,fun N=> .string ⟨y6 b⟩,fun _=>True,fun N=> []⟩ ⟨11,_,_,_,_,_,Nat,fun N=>vP N 0,fun _=>True,fun N=> [blk N [.string ⟨y6 ([])⟩, .string ⟨y6 ([])⟩] 38]⟩ 10 3 ae ⟨⟨rfl,rfl,rfl, ?_⟩,⟨rfl,rfl,rfl, ?_⟩,trivial⟩ rfl ?_
 intro aY L' af
 refine(FQ (cs:= [.string ⟨y6 ([])⟩, .string ⟨y6 ([])⟩]) (t:=38) af rfl rfl (fun _=>by kernel_rfl) ?_)
 intro n aZ ag
 exact⟨n,rfl,trivial,ag⟩
 intro bf L' ai
 obtain⟨bg,O,aK,P,aL⟩:=EU ai
 refine(Fe Tryz.call187 rfl (wJ _ _ d.bX c.bX b O l) ?_)
 rintro _ bi ⟨rfl,Q⟩
 have aj:=P _ _ Q
 exact⟨(),rfl,trivial,aj⟩
 rintro ⟨⟩ _
 refine⟨.agg #[.string ⟨y6 (oP d.bJ c.bJ)⟩, .string ⟨y6 b⟩],fun _=>yk, ?_⟩
 rintro n _
 intro ak au
 have av:Own w D ak (blk n [.string ⟨y6 ([])⟩, .string ⟨y6 ([])⟩] 38::_):=au.flat.pf []
 have ax:=av.pb [0]
 have ay:=ax.pf [3]
 refine qe 12 rfl (Do.store (vs:= [.string ⟨y6 (oP d.bJ c.bJ)⟩, .string ⟨y6 b⟩]) (o:=0) ay rfl rfl K8 rfl rfl rfl rfl ?_)
 intro bn az
 have R:=az.pb [0]
 refine⟨.inr ⟨_,R⟩, ?_⟩
 refine qn (ER (EP (EP ?_)))
 have y:=R.pk [0,3]
 refine EO (Kz (vP n 0) (Lz (.string ⟨y6 (oP d.bJ c.bJ)⟩) y 1 C4 (Kz (vP n 1) (Lz (.string ⟨y6 b⟩) y 1 C4 ?_))))
 obtain⟨z,p⟩:∃ q,uo (oP d.bJ c.bJ) b=q:=⟨_,rfl⟩
 obtain⟨bq,S,aM,T,aN⟩:=EU y
 refine cl Tryz.call188 (yz _ _ (oP d.bJ c.bJ) b z S p) ?_
 rintro _ bu ⟨rfl,U⟩
 have A:=T _ _ U
 refine Kz (.bool (!z)) (nt ?_)
 rcases IW (z) with r | r
 refine jF (cn r) (sk (sr (La ([.string ⟨y6 (oP d.bJ c.bJ)⟩, .string ⟨y6 b⟩]) A 1 K9 K8 ?_)))
 refine dN [.string ⟨y6 (oP d.bJ c.bJ)⟩, .string ⟨y6 b⟩] 0 A K8 ?_
 intro bv V
 refine An rfl (rt (Fin.res (ku (vs:= [.agg #[.string ⟨y6 (oP d.bJ c.bJ)⟩, .string ⟨y6 b⟩], .bool true]) rfl (dR.cell rfl (Fb (cs:= [.string ⟨y6 (oP d.bJ c.bJ)⟩, .string ⟨y6 b⟩]) K9 K8 ((V.cls (i:=0) rfl).lit (k:=0) (m:=2) rfl)) (dR.tmp rfl dR.nil)) (IQ rfl)) ?_))
 have aA:=V.pk []
 obtain⟨rfl,rfl⟩:=fT (hr.symm.trans (show _=(bK.mk (oP d.bJ c.bJ) b,true) from et (ah f) (et (ip a) (et (ah g) (et (ip j) (et (ah l) (et (ah p) (ip r))))))))
 exact⟨rfl,aA⟩
 refine jT (cn r) (sr (Kz (.agg #[.string ⟨y6 ([])⟩, .string ⟨y6 ([])⟩]) ?_))
 refine dN [.string ⟨y6 ([])⟩, .string ⟨y6 ([])⟩] 0 A K8 ?_
 intro bz W
 refine An rfl (rt (tR (Fin.res (ku (vs:= [.agg #[.string ⟨y6 ([])⟩, .string ⟨y6 ([])⟩], .bool false]) rfl (dR.cell rfl (Fb (cs:= [.string ⟨y6 ([])⟩, .string ⟨y6 ([])⟩]) K9 K8 ((W.cls (i:=0) rfl).lit (k:=0) (m:=2) rfl)) (dR.tmp rfl dR.nil)) (IQ rfl)) ?_)))
 have aB:=W.pk []
 obtain⟨rfl,rfl⟩:=fT (hr.symm.trans (show _=(bK.mk ([]) ([]),false) from et (ah f) (et (ip a) (et (ah g) (et (ip j) (et (ah l) (et (ah p) (fU r))))))))
 exact⟨rfl,aB⟩
 refine jT (dT j) (sr (Kz (.agg #[.string ⟨y6 ([])⟩, .string ⟨y6 ([])⟩]) ?_))
 refine dN [.string ⟨y6 ([])⟩, .string ⟨y6 ([])⟩] 0 M K8 ?_
 intro bA X
 refine An rfl (rt (tR (Fin.res (ku (vs:= [.agg #[.string ⟨y6 ([])⟩, .string ⟨y6 ([])⟩], .bool false]) rfl (dR.cell rfl (Fb (cs:= [.string ⟨y6 ([])⟩, .string ⟨y6 ([])⟩]) K9 K8 ((X.cls (i:=0) rfl).lit (k:=0) (m:=2) rfl)) (dR.tmp rfl dR.nil)) (IQ rfl)) ?_)))
 have aC:=X.pk []
 obtain⟨rfl,rfl⟩:=fT (hr.symm.trans (show _=(bK.mk ([]) ([]),false) from et (ah f) (et (ip a) (et (ah g) (iN j)))))
 exact⟨rfl,aC⟩
 refine Sz (dT a) (Sz (dT a) (Sz (dT a) (fw (.bool true) (Fa rfl (dT a) rfl) (nt (jt (sr (Kz (.agg #[.string ⟨y6 ([])⟩, .string ⟨y6 ([])⟩]) ?_)))))))
 refine dN [.string ⟨y6 ([])⟩, .string ⟨y6 ([])⟩] 0 x K8 ?_
 intro aO u
 refine An rfl (rt (tR (Fin.res (ku (vs:= [.agg #[.string ⟨y6 ([])⟩, .string ⟨y6 ([])⟩], .bool false]) rfl (dR.cell rfl (Fb (cs:= [.string ⟨y6 ([])⟩, .string ⟨y6 ([])⟩]) K9 K8 ((u.cls (i:=0) rfl).lit (k:=0) (m:=2) rfl)) (dR.tmp rfl dR.nil)) (IQ rfl)) ?_)))
 have Y:=u.pk []
 obtain⟨rfl,rfl⟩:=fT (hr.symm.trans (show _=(bK.mk ([]) ([]),false) from et (ah f) (iN a)))
 exact⟨rfl,Y⟩
def gp (l0:List bv) (g:Int) (d:bC):List bv→List bC→Nat→(List bC)
  | [],b,c=>b
  | h::e,b,c=>if h.dU=g then bnd (lV l0 ((c:Nat):Int)) fun f=>bnd (mO (bK.mk d.bJ d.bX) f) fun a=>if a.2=true then gp l0 g d e (b++ [(bC.mk d.aM ([]) ([]) a.1.bJ a.1.bX d.bT)]) (c+1) else gp l0 g d e b (c+1) else gp l0 g d e b (c+1)
def gq (l0:List bv) (h:Int) (e:bC):List bv→List bC→Nat→(List bC)
  | [],a,b=>a
  | g::d,a,b=>if g.dU=h then bnd (lV l0 ((b:Nat):Int)) fun f=>bnd (mO (bK.mk e.bJ e.bX) f) fun c=>if c.2=true then gq l0 h e d (a++ [(bC.mk e.aM ([]) ([]) c.1.bJ c.1.bX e.bT)]) (b+1) else gq l0 h e d a (b+1) else gq l0 h e d a (b+1)
def o9 (l0:List bv) (d:Int) (c:bC):(List bC):=
 if c.aM=4 then bnd (gp l0 d c l0 ([]) 0) fun sLrtL=>sLrtL else if c.aM=5 then bnd (gq l0 d c l0 ([]) 0) fun sLrftL=>sLrftL else bnd (sS l0 c.bY) fun a=>bnd (C2 l0 (D2 a) default) fun b=>bnd (if b.dU=d then [c] else []) fun sJrffbbJ=>sJrffbbJ
theorem xO (w:World) (D:Nat→Prop) (M:Option Addr) (n0 c0:Nat) (l0:List bv) (p:Int) (a:bC) (r0:List bC) (H:Own w D w []) (C:Ro w D fun w'=>bD w' 2 M n0 (q6 bv.cells l0)) (jg:n0=l0.length) (lI:l0.length *24≤211106232532992) (lJ:1≤l0.length∧l0.length≤6) (hr:o9 l0 p a=r0):
    Calls y4 146 #[.slice M n0 c0,vI p, .agg (bC.cells a).toArray] w (dS fun v w'=> ∃ (B0:Option Addr) (b0:Nat),v= .slice B0 r0.length b0∧Own w D w' [row B0 r0.length b0 (q6 bC.cells r0) 72 6]∧(r0.length≤6)):=by
 subst jg
 refine cb Tryz.func146 ?_
 refine sr ?_
 refine dK (bC.cells a) 72 H ?_
 intro g eU aK
 refine Ar rfl (An rfl (EP (sr (Kz (vP g 0) (Lz (vI a.aM) aK 0 C6 (fw (.bool (decide (¬ (a.aM=4)))) (Fs (e:= !(decide (a.aM=4))) yk decide_not.symm) (Mz rfl ?_)))))))
 by_cases N:a.aM=4
 refine Sk rfl rfl (dF (IV N)) rfl (Sk rfl rfl (dF (IV N)) rfl (Sk rfl rfl (dF (IV N)) rfl (fw (.bool false) (ES rfl (dF (IV N)) rfl) (nt (jf (sk (EP (sr (Mz rfl (Kz (vJ l0.length) (Mn rfl (bo ?_))))))))))))
 have jh:Own w D eU [row none 0 0 (q6 bC.cells ([])) 72 6,blk g (bC.cells a) 72]:=aK.free (eZ 72 6)
 have ji:=jh.pb [0]
 obtain⟨jk,E⟩:=rD fun(Z:Option Addr) (aa:Nat) (f:List bC) (c:Nat) (w':World)=>Own w D w' [blk g (bC.cells a) 72,row Z f.length aa (q6 bC.cells f) 72 6]∧c≤l0.length∧f.length≤c∧gp l0 p a l0 ([]) 0=gp l0 p a (r6 c l0) f c
 refine C5 (fun i:(Option Addr) × Nat × (List bC) × Nat=> [(7, .slice i.1 i.2.2.1.length i.2.1),(36,vJ i.2.2.2),(35,vJ l0.length),(6, .slice none 0 0),(5,vP g 0),(0, .slice M l0.length c0),(1,vI p)]) jk (fun i=>l0.length - i.2.2.2) (none,0, [],0) ⟨rfl,rfl,rfl,rfl,rfl,rfl,rfl,trivial⟩ (E.2 ⟨ji,(show 0≤l0.length∧0≤0∧gp l0 p a l0 ([]) 0=gp l0 p a (r6 0 l0) ([]) 0 from ⟨e6,e6,rfl⟩)⟩) ?_
 rintro ⟨Z,aa,f,c⟩ lK eX
 obtain⟨aL,j4,j5,G⟩:=E.1 eX
 refine sr (Kz (.bool (decide (((c:Nat):Int) < ((l0.length:Nat):Int)))) (nt (EP ?_)))
 by_cases eY:((c:Nat):Int) < ((l0.length:Nat):Int)
 obtain⟨bB,bE⟩:=dG (ls:=l0) (i:=c) bv.len f3 (aL.ro C) e9
 have O:=drop_at bE
 refine jT (dT eY) (sk (EP (bo (sr (Mz rfl (An rfl (EP (sr (Mz rfl (Mz rfl (fw (.pointer (some ⟨ab M,ao M+c *2,none⟩)) (ET (pX) rfl rfl ((aL.ro C).addr (i:=c) e6) e6) (Kz (.pointer (some ⟨ab M,ao M+c *2+1,none⟩)) (fw (vI bB.dU) (EY rfl (bZ.one C6 (((aL.ro C).elem bv.len bE f3).at_ (k:=1) rfl))) (Mz rfl (fw (.bool (decide (¬ (bB.dU=p)))) (Fs (e:= !(decide (bB.dU=p))) yk decide_not.symm) (nt ?_))))))))))))))))
 by_cases Y:bB.dU=p
 refine jF (dF (IV Y)) (sk (EP ?_))
 refine o5 [] (E9 (bP.block (E9 (E9 (bP.block (E9 Fp)))))) aL ?_
 intro lL fe
 refine qp g 3 0 rfl (ql 1 rfl 0 C4 rfl rfl rfl (qp g 4 2 rfl (ql 3 rfl 0 C4 rfl rfl rfl (qk (.agg #[.string ⟨y6 a.bJ⟩, .string ⟨y6 a.bX⟩]) 4 rfl (qv 5 rfl rfl (qv 6 rfl rfl ?_))))))
 refine Gw 7 12 e7 ?_ ?_
 obtain⟨aN,ae⟩:∃ q,lV l0 ((c:Nat):Int)=q:=⟨_,rfl⟩
 obtain⟨lM,fo,fq,fA,j6⟩:=EU fe
 refine GY.do 7 rfl e7 (Fe M2 rfl (nO _ _ M l0.length c0 l0 ((c:Nat):Int) aN fo (fq _ C) rfl e6 e6 ae) ?_)
 rintro _ lN ⟨rfl,fB⟩
 have di:=fA _ _ fB
 refine⟨.inr ⟨_,di⟩, ?_⟩
 refine Gw 8 12 e7 ?_ ?_
 obtain⟨⟨u,dm⟩,aO⟩:∃ q:bK × Bool,mO (bK.mk a.bJ a.bX) aN=q:=⟨_,rfl⟩
 obtain⟨lQ,fC,kg,fD,ko⟩:=EU di
 refine GY.do 8 rfl e7 (Fe M3 rfl (nu _ _ (bK.mk a.bJ a.bX) aN u dm fC aO) ?_)
 rintro _ lS ⟨rfl,fE⟩
 have fF:=fD _ _ fE
 refine⟨.inr ⟨_,fF⟩, ?_⟩
 refine qv 9 rfl rfl (qk (.agg (bK.cells u).toArray) 10 rfl (qk (.bool dm) 11 rfl ?_))
 refine qd 12 rfl (FQ (cs:= [.string ⟨y6 ([])⟩, .string ⟨y6 ([])⟩]) (t:=38) fF rfl rfl (fun _=>by kernel_rfl) ?_)
 intro fG lT jl
 have fH:=jl.pb [0]
 refine⟨.inr ⟨_,fH⟩, ?_⟩
 have jm:=fH.pf [2]
 refine qe 13 rfl (Do.store (vs:=(bK.cells u)) (o:=0) jm rfl rfl K8 rfl rfl rfl rfl ?_)
 intro lU jo
 have av:=jo.pb [0]
 refine⟨.inr ⟨_,av⟩, ?_⟩
 refine qa 14 rfl rfl (qn (ER (sr (Mn rfl ?_))))
 rcases IW (dm) with aP | aP
 refine jT aP (EO (Mz rfl (Kz (vP g 0) (Lz (vI a.aM) av 0 C6 (Kz (vP fG 0) (Lz (.string ⟨y6 u.bJ⟩) av 2 C4 (Kz (vP fG 1) (Lz (.string ⟨y6 u.bX⟩) av 2 C4 (Kz (vP g 5) (Lz (vI a.bT) av 0 C6 (Kz (.agg #[vI a.aM, .string ⟨y6 ([])⟩, .string ⟨y6 ([])⟩, .string ⟨y6 u.bJ⟩, .string ⟨y6 u.bX⟩,vI a.bT]) ?_)))))))))))
 refine kG [vI a.aM, .string ⟨y6 ([])⟩, .string ⟨y6 ([])⟩, .string ⟨y6 u.bJ⟩, .string ⟨y6 u.bX⟩,vI a.bT] 72 6 1 av ?_
 intro jq lW dn
 replace dn:=Fx (y:=row jq 1 1 (q6 bC.cells ([(bC.mk a.aM ([]) ([]) u.bJ u.bX a.bT)])) 72 6) rfl dn
 have fI:=dn.pf [2]
 refine WL.do rfl (Fy (k:=f.length) (m:=1) (pW) fI rfl rfl (iM B1 (fI.rds (i:=1) rfl) (fu bC.one ([(bC.mk a.aM ([]) ([]) u.bJ u.bX a.bT)]))) rfl e6 (s:=s2 (f++ [(bC.mk a.aM ([]) ([]) u.bJ u.bX a.bT)])) f7 (r7).symm ?_)
 intro jr jv lX jw
 have kr:s2 (f++ [(bC.mk a.aM ([]) ([]) u.bJ u.bX a.bT)])=f.length+1:=by simp only [p5,s3,G1]
 refine Az rfl (D0 (bN (ER (EO (fw (vJ (c+1)) (EQ (e:=C7.wrap (((c:Nat):Int)+1)) yk f1) (Mz rfl (D0 ?_)))))))
 have jy:=jw.pk [2,0]
 exact E8 (jr,jv,(f++ [(bC.mk a.aM ([]) ([]) u.bJ u.bX a.bT)]),c+1) ⟨rfl,rfl,rfl,rfl,rfl,rfl,rfl,trivial⟩ (E.2 ⟨jy,e6,e6,et (G) (et (congrArg (fun q=>gp l0 p a q f c) O) (et (ip Y) (et (ah ae) (et (ah aO) (ip aP)))))⟩) (by show l0.length - (c+1) < l0.length - c; omega)
 refine jF aP (Fq (bN (ER (EO (fw (vJ (c+1)) (EQ (e:=C7.wrap (((c:Nat):Int)+1)) yk f1) (Mz rfl (D0 ?_)))))))
 have jA:=av.pk [0,1]
 exact E8 (Z,aa,f,c+1) ⟨rfl,rfl,rfl,rfl,rfl,rfl,rfl,trivial⟩ (E.2 ⟨jA,e6,e6,et (G) (et (congrArg (fun q=>gp l0 p a q f c) O) (et (ip Y) (et (ah ae) (et (ah aO) (fU aP)))))⟩) (by show l0.length - (c+1) < l0.length - c; omega)
 refine GY.do 12 rfl e7 (FQ (cs:= [.string ⟨y6 ([])⟩, .string ⟨y6 ([])⟩]) (t:=38) di rfl rfl (fun _=>by kernel_rfl) ?_)
 intro fJ lY jB
 have fK:=jB.pb [0]
 refine⟨.inr ⟨_,fK⟩, ?_⟩
 obtain⟨⟨x,dw⟩,aQ⟩:∃ q:bK × Bool,mO (bK.mk a.bJ a.bX) aN=q:=⟨_,rfl⟩
 obtain⟨lZ,fM,ku,fO,kv⟩:=EU fK
 refine qd 8 rfl (Fe M3 rfl (nu _ _ (bK.mk a.bJ a.bX) aN x dw fM aQ) ?_)
 rintro _ kw ⟨rfl,dx⟩
 have bF:=fO _ _ dx
 refine⟨.inr ⟨_,bF⟩, ?_⟩
 refine qv 9 rfl rfl (qk (.agg (bK.cells x).toArray) 10 rfl (qk (.bool dw) 11 rfl ?_))
 have fP:=bF.pf [2]
 refine qe 13 rfl (Do.store (vs:=(bK.cells x)) (o:=0) fP rfl rfl K8 rfl rfl rfl rfl ?_)
 intro ky fQ
 have P:=fQ.pb [0]
 refine⟨.inr ⟨_,P⟩, ?_⟩
 refine qa 14 rfl rfl (qn (ER (sr (Mn rfl ?_))))
 rcases IW (dw) with af | af
 refine jT af (EO (Mz rfl (Kz (vP g 0) (Lz (vI a.aM) P 0 C6 (Kz (vP fJ 0) (Lz (.string ⟨y6 x.bJ⟩) P 2 C4 (Kz (vP fJ 1) (Lz (.string ⟨y6 x.bX⟩) P 2 C4 (Kz (vP g 5) (Lz (vI a.bT) P 0 C6 (Kz (.agg #[vI a.aM, .string ⟨y6 ([])⟩, .string ⟨y6 ([])⟩, .string ⟨y6 x.bJ⟩, .string ⟨y6 x.bX⟩,vI a.bT]) ?_)))))))))))
 refine kG [vI a.aM, .string ⟨y6 ([])⟩, .string ⟨y6 ([])⟩, .string ⟨y6 x.bJ⟩, .string ⟨y6 x.bX⟩,vI a.bT] 72 6 1 P ?_
 intro fT kz aR
 replace aR:=Fx (y:=row fT 1 1 (q6 bC.cells ([(bC.mk a.aM ([]) ([]) x.bJ x.bX a.bT)])) 72 6) rfl aR
 have bG:=aR.pf [2]
 refine WL.do rfl (Fy (k:=f.length) (m:=1) (pW) bG rfl rfl (iM B1 (bG.rds (i:=1) rfl) (fu bC.one ([(bC.mk a.aM ([]) ([]) x.bJ x.bX a.bT)]))) rfl e6 (s:=s2 (f++ [(bC.mk a.aM ([]) ([]) x.bJ x.bX a.bT)])) f7 (r7).symm ?_)
 intro fV fZ kC gm
 have jC:s2 (f++ [(bC.mk a.aM ([]) ([]) x.bJ x.bX a.bT)])=f.length+1:=by simp only [p5,s3,G1]
 refine Az rfl (D0 (bN (ER (EO (fw (vJ (c+1)) (EQ (e:=C7.wrap (((c:Nat):Int)+1)) yk f1) (Mz rfl (D0 ?_)))))))
 have gu:=gm.pk [2,0]
 exact E8 (fV,fZ,(f++ [(bC.mk a.aM ([]) ([]) x.bJ x.bX a.bT)]),c+1) ⟨rfl,rfl,rfl,rfl,rfl,rfl,rfl,trivial⟩ (E.2 ⟨gu,e6,e6,et (G) (et (congrArg (fun q=>gp l0 p a q f c) O) (et (ip Y) (et (ah ae) (et (ah aQ) (ip af)))))⟩) (by show l0.length - (c+1) < l0.length - c; omega)
 refine jF af (Fq (bN (ER (EO (fw (vJ (c+1)) (EQ (e:=C7.wrap (((c:Nat):Int)+1)) yk f1) (Mz rfl (D0 ?_)))))))
 have gy:=P.pk [0,1]
 exact E8 (Z,aa,f,c+1) ⟨rfl,rfl,rfl,rfl,rfl,rfl,rfl,trivial⟩ (E.2 ⟨gy,e6,e6,et (G) (et (congrArg (fun q=>gp l0 p a q f c) O) (et (ip Y) (et (ah ae) (et (ah aQ) (fU af)))))⟩) (by show l0.length - (c+1) < l0.length - c; omega)
 refine GY.do 12 rfl e7 (FQ (cs:= [.string ⟨y6 ([])⟩, .string ⟨y6 ([])⟩]) (t:=38) fe rfl rfl (fun _=>by kernel_rfl) ?_)
 intro bH kD gz
 have bJ:=gz.pb [0]
 refine⟨.inr ⟨_,bJ⟩, ?_⟩
 obtain⟨aS,ax⟩:∃ q,lV l0 ((c:Nat):Int)=q:=⟨_,rfl⟩
 obtain⟨kE,dz,dA,dB,jD⟩:=EU bJ
 refine qd 7 rfl (Fe M2 rfl (nO _ _ M l0.length c0 l0 ((c:Nat):Int) aS dz (dA _ C) rfl e6 e6 ax) ?_)
 rintro _ kF ⟨rfl,dC⟩
 have bL:=dB _ _ dC
 refine⟨.inr ⟨_,bL⟩, ?_⟩
 obtain⟨⟨h,aT⟩,ay⟩:∃ q:bK × Bool,mO (bK.mk a.bJ a.bX) aS=q:=⟨_,rfl⟩
 obtain⟨kH,dD,jE,dE,jG⟩:=EU bL
 refine qd 8 rfl (Fe M3 rfl (nu _ _ (bK.mk a.bJ a.bX) aS h aT dD ay) ?_)
 rintro _ kI ⟨rfl,dH⟩
 have bM:=dE _ _ dH
 refine⟨.inr ⟨_,bM⟩, ?_⟩
 refine qv 9 rfl rfl (qk (.agg (bK.cells h).toArray) 10 rfl (qk (.bool aT) 11 rfl ?_))
 have gB:=bM.pf [2]
 refine qe 13 rfl (Do.store (vs:=(bK.cells h)) (o:=0) gB rfl rfl K8 rfl rfl rfl rfl ?_)
 intro kJ gD
 have Q:=gD.pb [0]
 refine⟨.inr ⟨_,Q⟩, ?_⟩
 refine qa 14 rfl rfl (qn (ER (sr (Mn rfl ?_))))
 rcases IW (aT) with ag | ag
 refine jT ag (EO (Mz rfl (Kz (vP g 0) (Lz (vI a.aM) Q 0 C6 (Kz (vP bH 0) (Lz (.string ⟨y6 h.bJ⟩) Q 2 C4 (Kz (vP bH 1) (Lz (.string ⟨y6 h.bX⟩) Q 2 C4 (Kz (vP g 5) (Lz (vI a.bT) Q 0 C6 (Kz (.agg #[vI a.aM, .string ⟨y6 ([])⟩, .string ⟨y6 ([])⟩, .string ⟨y6 h.bJ⟩, .string ⟨y6 h.bX⟩,vI a.bT]) ?_)))))))))))
 refine kG [vI a.aM, .string ⟨y6 ([])⟩, .string ⟨y6 ([])⟩, .string ⟨y6 h.bJ⟩, .string ⟨y6 h.bX⟩,vI a.bT] 72 6 1 Q ?_
 intro gF kK aU
 replace aU:=Fx (y:=row gF 1 1 (q6 bC.cells ([(bC.mk a.aM ([]) ([]) h.bJ h.bX a.bT)])) 72 6) rfl aU
 have bO:=aU.pf [2]
 refine WL.do rfl (Fy (k:=f.length) (m:=1) (pW) bO rfl rfl (iM B1 (bO.rds (i:=1) rfl) (fu bC.one ([(bC.mk a.aM ([]) ([]) h.bJ h.bX a.bT)]))) rfl e6 (s:=s2 (f++ [(bC.mk a.aM ([]) ([]) h.bJ h.bX a.bT)])) f7 (r7).symm ?_)
 intro gG gH kL gI
 have jH:s2 (f++ [(bC.mk a.aM ([]) ([]) h.bJ h.bX a.bT)])=f.length+1:=by simp only [p5,s3,G1]
 refine Az rfl (D0 (bN (ER (EO (fw (vJ (c+1)) (EQ (e:=C7.wrap (((c:Nat):Int)+1)) yk f1) (Mz rfl (D0 ?_)))))))
 have gJ:=gI.pk [2,0]
 exact E8 (gG,gH,(f++ [(bC.mk a.aM ([]) ([]) h.bJ h.bX a.bT)]),c+1) ⟨rfl,rfl,rfl,rfl,rfl,rfl,rfl,trivial⟩ (E.2 ⟨gJ,e6,e6,et (G) (et (congrArg (fun q=>gp l0 p a q f c) O) (et (ip Y) (et (ah ax) (et (ah ay) (ip ag)))))⟩) (by show l0.length - (c+1) < l0.length - c; omega)
 refine jF ag (Fq (bN (ER (EO (fw (vJ (c+1)) (EQ (e:=C7.wrap (((c:Nat):Int)+1)) yk f1) (Mz rfl (D0 ?_)))))))
 have gK:=Q.pk [0,1]
 exact E8 (Z,aa,f,c+1) ⟨rfl,rfl,rfl,rfl,rfl,rfl,rfl,trivial⟩ (E.2 ⟨gK,e6,e6,et (G) (et (congrArg (fun q=>gp l0 p a q f c) O) (et (ip Y) (et (ah ax) (et (ah ay) (fU ag)))))⟩) (by show l0.length - (c+1) < l0.length - c; omega)
 refine jT (dT Y) (D1 (EX (Fg (ER (EO (fw (vJ (c+1)) (EQ (e:=C7.wrap (((c:Nat):Int)+1)) yk f1) (Mz rfl (D0 ?_))))))))
 have gL:=aL.pf []
 exact E8 (Z,aa,f,c+1) ⟨rfl,rfl,rfl,rfl,rfl,rfl,rfl,trivial⟩ (E.2 ⟨gL,e6,e6,et (G) (et (congrArg (fun q=>gp l0 p a q f c) O) (iN Y))⟩) (by show l0.length - (c+1) < l0.length - c; omega)
 refine jF (dF eY) (D1 (EX ?_))
 have dI:gp l0 p a l0 ([]) 0=f:=et (G) (et (congrArg (fun q=>gp l0 p a q f c) (eD (ls:=l0) (i:=c) e6)) rfl)
 refine EX (Fg (ER (EP ?_)))
 have gM:=aL.pk [1]
 refine EO (Mz rfl (An rfl (rt (rs ?_))))
 have gN:=gM.pf []
 obtain rfl:_=f:=hr.symm.trans (et (ip N) (ah dI))
 exact⟨Z,aa,rfl,gN,i5⟩
 refine Gz (vP g 0) (dT N) (Gl (vI a.aM) (dT N) aK 0 C6 (gw (.bool (decide (¬ (a.aM=5)))) (dT N) (Fs (e:= !(decide (a.aM=5))) yk decide_not.symm) (fw (.bool (decide (¬ (a.aM=5)))) (Fa rfl (dT N) rfl) (nt ?_))))
 by_cases aF:a.aM=5
 refine jF (dF (IV aF)) (sk (EP (sr (Mz rfl (Kz (vJ l0.length) (Mn rfl (bo ?_)))))))
 have gP:Own w D eU [row none 0 0 (q6 bC.cells ([])) 72 6,blk g (bC.cells a) 72]:=aK.free (eZ 72 6)
 have gQ:=gP.pb [0]
 obtain⟨gT,z⟩:=rD fun(I:Option Addr) (J:Nat) (d:List bC) (b:Nat) (w':World)=>Own w D w' [blk g (bC.cells a) 72,row I d.length J (q6 bC.cells d) 72 6]∧b≤l0.length∧d.length≤b∧gq l0 p a l0 ([]) 0=gq l0 p a (r6 b l0) d b
 refine C5 (fun i:(Option Addr) × Nat × (List bC) × Nat=> [(7, .slice i.1 i.2.2.1.length i.2.1),(36,vJ i.2.2.2),(35,vJ l0.length),(6, .slice none 0 0),(5,vP g 0),(0, .slice M l0.length c0),(1,vI p)]) gT (fun i=>l0.length - i.2.2.2) (none,0, [],0) ⟨rfl,rfl,rfl,rfl,rfl,rfl,rfl,trivial⟩ (z.2 ⟨gQ,(show 0≤l0.length∧0≤0∧gq l0 p a l0 ([]) 0=gq l0 p a (r6 0 l0) ([]) 0 from ⟨e6,e6,rfl⟩)⟩) ?_
 rintro ⟨I,J,d,b⟩ kM dJ
 obtain⟨V,jI,jJ,A⟩:=z.1 dJ
 refine sr (Kz (.bool (decide (((b:Nat):Int) < ((l0.length:Nat):Int)))) (nt (EP ?_)))
 by_cases bQ:((b:Nat):Int) < ((l0.length:Nat):Int)
 obtain⟨aG,aV⟩:=dG (ls:=l0) (i:=b) bv.len f3 (V.ro C) e9
 have B:=drop_at aV
 refine jT (dT bQ) (sk (EP (bo (sr (Mz rfl (An rfl (EP (sr (Mz rfl (Mz rfl (fw (.pointer (some ⟨ab M,ao M+b *2,none⟩)) (ET (pX) rfl rfl ((V.ro C).addr (i:=b) e6) e6) (Kz (.pointer (some ⟨ab M,ao M+b *2+1,none⟩)) (fw (vI aG.dU) (EY rfl (bZ.one C6 (((V.ro C).elem bv.len aV f3).at_ (k:=1) rfl))) (Mz rfl (fw (.bool (decide (¬ (aG.dU=p)))) (Fs (e:= !(decide (aG.dU=p))) yk decide_not.symm) (nt ?_))))))))))))))))
 by_cases F:aG.dU=p
 refine jF (dF (IV F)) (sk (EP ?_))
 refine o5 [] (E9 (bP.block (E9 (E9 (bP.block (E9 Fp)))))) V ?_
 intro kN bR
 refine qp g 3 0 rfl (ql 1 rfl 0 C4 rfl rfl rfl (qp g 4 2 rfl (ql 3 rfl 0 C4 rfl rfl rfl (qk (.agg #[.string ⟨y6 a.bJ⟩, .string ⟨y6 a.bX⟩]) 4 rfl (qv 5 rfl rfl (qv 6 rfl rfl ?_))))))
 refine Gw 7 12 e7 ?_ ?_
 obtain⟨ai,R⟩:∃ q,lV l0 ((b:Nat):Int)=q:=⟨_,rfl⟩
 obtain⟨kP,dL,dM,dN,jK⟩:=EU bR
 refine GY.do 7 rfl e7 (Fe M2 rfl (nO _ _ M l0.length c0 l0 ((b:Nat):Int) ai dL (dM _ C) rfl e6 e6 R) ?_)
 rintro _ kQ ⟨rfl,dO⟩
 have aW:=dN _ _ dO
 refine⟨.inr ⟨_,aW⟩, ?_⟩
 refine Gw 8 12 e7 ?_ ?_
 obtain⟨⟨j,aX⟩,az⟩:∃ q:bK × Bool,mO (bK.mk a.bJ a.bX) ai=q:=⟨_,rfl⟩
 obtain⟨kR,dP,jL,dQ,jM⟩:=EU aW
 refine GY.do 8 rfl e7 (Fe M3 rfl (nu _ _ (bK.mk a.bJ a.bX) ai j aX dP az) ?_)
 rintro _ kS ⟨rfl,dR⟩
 have bS:=dQ _ _ dR
 refine⟨.inr ⟨_,bS⟩, ?_⟩
 refine qv 9 rfl rfl (qk (.agg (bK.cells j).toArray) 10 rfl (qk (.bool aX) 11 rfl ?_))
 refine qd 12 rfl (FQ (cs:= [.string ⟨y6 ([])⟩, .string ⟨y6 ([])⟩]) (t:=38) bS rfl rfl (fun _=>by kernel_rfl) ?_)
 intro bT kT gU
 have bU:=gU.pb [0]
 refine⟨.inr ⟨_,bU⟩, ?_⟩
 have gV:=bU.pf [2]
 refine qe 13 rfl (Do.store (vs:=(bK.cells j)) (o:=0) gV rfl rfl K8 rfl rfl rfl rfl ?_)
 intro kU gW
 have S:=gW.pb [0]
 refine⟨.inr ⟨_,S⟩, ?_⟩
 refine qa 14 rfl rfl (qn (ER (sr (Mn rfl ?_))))
 rcases IW (aX) with aj | aj
 refine jT aj (EO (Mz rfl (Kz (vP g 0) (Lz (vI a.aM) S 0 C6 (Kz (vP bT 0) (Lz (.string ⟨y6 j.bJ⟩) S 2 C4 (Kz (vP bT 1) (Lz (.string ⟨y6 j.bX⟩) S 2 C4 (Kz (vP g 5) (Lz (vI a.bT) S 0 C6 (Kz (.agg #[vI a.aM, .string ⟨y6 ([])⟩, .string ⟨y6 ([])⟩, .string ⟨y6 j.bJ⟩, .string ⟨y6 j.bX⟩,vI a.bT]) ?_)))))))))))
 refine kG [vI a.aM, .string ⟨y6 ([])⟩, .string ⟨y6 ([])⟩, .string ⟨y6 j.bJ⟩, .string ⟨y6 j.bX⟩,vI a.bT] 72 6 1 S ?_
 intro gX kV aY
 replace aY:=Fx (y:=row gX 1 1 (q6 bC.cells ([(bC.mk a.aM ([]) ([]) j.bJ j.bX a.bT)])) 72 6) rfl aY
 have bV:=aY.pf [2]
 refine WL.do rfl (Fy (k:=d.length) (m:=1) (pW) bV rfl rfl (iM B1 (bV.rds (i:=1) rfl) (fu bC.one ([(bC.mk a.aM ([]) ([]) j.bJ j.bX a.bT)]))) rfl e6 (s:=s2 (d++ [(bC.mk a.aM ([]) ([]) j.bJ j.bX a.bT)])) f7 (r7).symm ?_)
 intro gY gZ kW ib
 have jN:s2 (d++ [(bC.mk a.aM ([]) ([]) j.bJ j.bX a.bT)])=d.length+1:=by simp only [p5,s3,G1]
 refine Az rfl (D0 (bN (ER (EO (fw (vJ (b+1)) (EQ (e:=C7.wrap (((b:Nat):Int)+1)) yk f1) (Mz rfl (D0 ?_)))))))
 have ic:=ib.pk [2,0]
 exact E8 (gY,gZ,(d++ [(bC.mk a.aM ([]) ([]) j.bJ j.bX a.bT)]),b+1) ⟨rfl,rfl,rfl,rfl,rfl,rfl,rfl,trivial⟩ (z.2 ⟨ic,e6,e6,et (A) (et (congrArg (fun q=>gq l0 p a q d b) B) (et (ip F) (et (ah R) (et (ah az) (ip aj)))))⟩) (by show l0.length - (b+1) < l0.length - b; omega)
 refine jF aj (Fq (bN (ER (EO (fw (vJ (b+1)) (EQ (e:=C7.wrap (((b:Nat):Int)+1)) yk f1) (Mz rfl (D0 ?_)))))))
 have ig:=S.pk [0,1]
 exact E8 (I,J,d,b+1) ⟨rfl,rfl,rfl,rfl,rfl,rfl,rfl,trivial⟩ (z.2 ⟨ig,e6,e6,et (A) (et (congrArg (fun q=>gq l0 p a q d b) B) (et (ip F) (et (ah R) (et (ah az) (fU aj)))))⟩) (by show l0.length - (b+1) < l0.length - b; omega)
 refine GY.do 12 rfl e7 (FQ (cs:= [.string ⟨y6 ([])⟩, .string ⟨y6 ([])⟩]) (t:=38) aW rfl rfl (fun _=>by kernel_rfl) ?_)
 intro bW kX ik
 have bX:=ik.pb [0]
 refine⟨.inr ⟨_,bX⟩, ?_⟩
 obtain⟨⟨l,aZ⟩,aA⟩:∃ q:bK × Bool,mO (bK.mk a.bJ a.bX) ai=q:=⟨_,rfl⟩
 obtain⟨kY,dU,jO,dV,jP⟩:=EU bX
 refine qd 8 rfl (Fe M3 rfl (nu _ _ (bK.mk a.bJ a.bX) ai l aZ dU aA) ?_)
 rintro _ kZ ⟨rfl,dW⟩
 have bY:=dV _ _ dW
 refine⟨.inr ⟨_,bY⟩, ?_⟩
 refine qv 9 rfl rfl (qk (.agg (bK.cells l).toArray) 10 rfl (qk (.bool aZ) 11 rfl ?_))
 have il:=bY.pf [2]
 refine qe 13 rfl (Do.store (vs:=(bK.cells l)) (o:=0) il rfl rfl K8 rfl rfl rfl rfl ?_)
 intro lc iq
 have T:=iq.pb [0]
 refine⟨.inr ⟨_,T⟩, ?_⟩
 refine qa 14 rfl rfl (qn (ER (sr (Mn rfl ?_))))
 rcases IW (aZ) with ak | ak
 refine jT ak (EO (Mz rfl (Kz (vP g 0) (Lz (vI a.aM) T 0 C6 (Kz (vP bW 0) (Lz (.string ⟨y6 l.bJ⟩) T 2 C4 (Kz (vP bW 1) (Lz (.string ⟨y6 l.bX⟩) T 2 C4 (Kz (vP g 5) (Lz (vI a.bT) T 0 C6 (Kz (.agg #[vI a.aM, .string ⟨y6 ([])⟩, .string ⟨y6 ([])⟩, .string ⟨y6 l.bJ⟩, .string ⟨y6 l.bX⟩,vI a.bT]) ?_)))))))))))
 refine kG [vI a.aM, .string ⟨y6 ([])⟩, .string ⟨y6 ([])⟩, .string ⟨y6 l.bJ⟩, .string ⟨y6 l.bX⟩,vI a.bT] 72 6 1 T ?_
 intro iw lg bf
 replace bf:=Fx (y:=row iw 1 1 (q6 bC.cells ([(bC.mk a.aM ([]) ([]) l.bJ l.bX a.bT)])) 72 6) rfl bf
 have cu:=bf.pf [2]
 refine WL.do rfl (Fy (k:=d.length) (m:=1) (pW) cu rfl rfl (iM B1 (cu.rds (i:=1) rfl) (fu bC.one ([(bC.mk a.aM ([]) ([]) l.bJ l.bX a.bT)]))) rfl e6 (s:=s2 (d++ [(bC.mk a.aM ([]) ([]) l.bJ l.bX a.bT)])) f7 (r7).symm ?_)
 intro iy iA lh iB
 have jQ:s2 (d++ [(bC.mk a.aM ([]) ([]) l.bJ l.bX a.bT)])=d.length+1:=by simp only [p5,s3,G1]
 refine Az rfl (D0 (bN (ER (EO (fw (vJ (b+1)) (EQ (e:=C7.wrap (((b:Nat):Int)+1)) yk f1) (Mz rfl (D0 ?_)))))))
 have iC:=iB.pk [2,0]
 exact E8 (iy,iA,(d++ [(bC.mk a.aM ([]) ([]) l.bJ l.bX a.bT)]),b+1) ⟨rfl,rfl,rfl,rfl,rfl,rfl,rfl,trivial⟩ (z.2 ⟨iC,e6,e6,et (A) (et (congrArg (fun q=>gq l0 p a q d b) B) (et (ip F) (et (ah R) (et (ah aA) (ip ak)))))⟩) (by show l0.length - (b+1) < l0.length - b; omega)
 refine jF ak (Fq (bN (ER (EO (fw (vJ (b+1)) (EQ (e:=C7.wrap (((b:Nat):Int)+1)) yk f1) (Mz rfl (D0 ?_)))))))
 have iD:=T.pk [0,1]
 exact E8 (I,J,d,b+1) ⟨rfl,rfl,rfl,rfl,rfl,rfl,rfl,trivial⟩ (z.2 ⟨iD,e6,e6,et (A) (et (congrArg (fun q=>gq l0 p a q d b) B) (et (ip F) (et (ah R) (et (ah aA) (fU ak)))))⟩) (by show l0.length - (b+1) < l0.length - b; omega)
 refine GY.do 12 rfl e7 (FQ (cs:= [.string ⟨y6 ([])⟩, .string ⟨y6 ([])⟩]) (t:=38) bR rfl rfl (fun _=>by kernel_rfl) ?_)
 intro cz ll iE
 have cB:=iE.pb [0]
 refine⟨.inr ⟨_,cB⟩, ?_⟩
 obtain⟨bg,aB⟩:∃ q,lV l0 ((b:Nat):Int)=q:=⟨_,rfl⟩
 obtain⟨lm,dX,dY,dZ,jR⟩:=EU cB
 refine qd 7 rfl (Fe M2 rfl (nO _ _ M l0.length c0 l0 ((b:Nat):Int) bg dX (dY _ C) rfl e6 e6 aB) ?_)
 rintro _ lq ⟨rfl,d9⟩
 have cK:=dZ _ _ d9
 refine⟨.inr ⟨_,cK⟩, ?_⟩
 obtain⟨⟨n,bi⟩,aC⟩:∃ q:bK × Bool,mO (bK.mk a.bJ a.bX) bg=q:=⟨_,rfl⟩
 obtain⟨lu,ed,jS,ek,jU⟩:=EU cK
 refine qd 8 rfl (Fe M3 rfl (nu _ _ (bK.mk a.bJ a.bX) bg n bi ed aC) ?_)
 rintro _ lv ⟨rfl,eu⟩
 have cO:=ek _ _ eu
 refine⟨.inr ⟨_,cO⟩, ?_⟩
 refine qv 9 rfl rfl (qk (.agg (bK.cells n).toArray) 10 rfl (qk (.bool bi) 11 rfl ?_))
 have iF:=cO.pf [2]
 refine qe 13 rfl (Do.store (vs:=(bK.cells n)) (o:=0) iF rfl rfl K8 rfl rfl rfl rfl ?_)
 intro lw iG
 have U:=iG.pb [0]
 refine⟨.inr ⟨_,U⟩, ?_⟩
 refine qa 14 rfl rfl (qn (ER (sr (Mn rfl ?_))))
 rcases IW (bi) with au | au
 refine jT au (EO (Mz rfl (Kz (vP g 0) (Lz (vI a.aM) U 0 C6 (Kz (vP cz 0) (Lz (.string ⟨y6 n.bJ⟩) U 2 C4 (Kz (vP cz 1) (Lz (.string ⟨y6 n.bX⟩) U 2 C4 (Kz (vP g 5) (Lz (vI a.bT) U 0 C6 (Kz (.agg #[vI a.aM, .string ⟨y6 ([])⟩, .string ⟨y6 ([])⟩, .string ⟨y6 n.bJ⟩, .string ⟨y6 n.bX⟩,vI a.bT]) ?_)))))))))))
 refine kG [vI a.aM, .string ⟨y6 ([])⟩, .string ⟨y6 ([])⟩, .string ⟨y6 n.bJ⟩, .string ⟨y6 n.bX⟩,vI a.bT] 72 6 1 U ?_
 intro iH lC bn
 replace bn:=Fx (y:=row iH 1 1 (q6 bC.cells ([(bC.mk a.aM ([]) ([]) n.bJ n.bX a.bT)])) 72 6) rfl bn
 have cZ:=bn.pf [2]
 refine WL.do rfl (Fy (k:=d.length) (m:=1) (pW) cZ rfl rfl (iM B1 (cZ.rds (i:=1) rfl) (fu bC.one ([(bC.mk a.aM ([]) ([]) n.bJ n.bX a.bT)]))) rfl e6 (s:=s2 (d++ [(bC.mk a.aM ([]) ([]) n.bJ n.bX a.bT)])) f7 (r7).symm ?_)
 intro iI iJ lD iK
 have jV:s2 (d++ [(bC.mk a.aM ([]) ([]) n.bJ n.bX a.bT)])=d.length+1:=by simp only [p5,s3,G1]
 refine Az rfl (D0 (bN (ER (EO (fw (vJ (b+1)) (EQ (e:=C7.wrap (((b:Nat):Int)+1)) yk f1) (Mz rfl (D0 ?_)))))))
 have iL:=iK.pk [2,0]
 exact E8 (iI,iJ,(d++ [(bC.mk a.aM ([]) ([]) n.bJ n.bX a.bT)]),b+1) ⟨rfl,rfl,rfl,rfl,rfl,rfl,rfl,trivial⟩ (z.2 ⟨iL,e6,e6,et (A) (et (congrArg (fun q=>gq l0 p a q d b) B) (et (ip F) (et (ah aB) (et (ah aC) (ip au)))))⟩) (by show l0.length - (b+1) < l0.length - b; omega)
 refine jF au (Fq (bN (ER (EO (fw (vJ (b+1)) (EQ (e:=C7.wrap (((b:Nat):Int)+1)) yk f1) (Mz rfl (D0 ?_)))))))
 have iO:=U.pk [0,1]
 exact E8 (I,J,d,b+1) ⟨rfl,rfl,rfl,rfl,rfl,rfl,rfl,trivial⟩ (z.2 ⟨iO,e6,e6,et (A) (et (congrArg (fun q=>gq l0 p a q d b) B) (et (ip F) (et (ah aB) (et (ah aC) (fU au)))))⟩) (by show l0.length - (b+1) < l0.length - b; omega)
 refine jT (dT F) (D1 (EX (Fg (ER (EO (fw (vJ (b+1)) (EQ (e:=C7.wrap (((b:Nat):Int)+1)) yk f1) (Mz rfl (D0 ?_))))))))
 have iP:=V.pf []
 exact E8 (I,J,d,b+1) ⟨rfl,rfl,rfl,rfl,rfl,rfl,rfl,trivial⟩ (z.2 ⟨iP,e6,e6,et (A) (et (congrArg (fun q=>gq l0 p a q d b) B) (iN F))⟩) (by show l0.length - (b+1) < l0.length - b; omega)
 refine jF (dF bQ) (D1 (EX ?_))
 have eB:gq l0 p a l0 ([]) 0=d:=et (A) (et (congrArg (fun q=>gq l0 p a q d b) (eD (ls:=l0) (i:=b) e6)) rfl)
 refine EX (Fg (ER (EP ?_)))
 have iQ:=V.pk [1]
 refine EO (Mz rfl (An rfl (rt (rs ?_))))
 have iR:=iQ.pf []
 obtain rfl:_=d:=hr.symm.trans (et (iN N) (et (ip aF) (ah eB)))
 exact⟨I,J,rfl,iR,i5⟩
 refine jT (dT aF) (EP (sr (Mz rfl (Mz rfl (Kz (vP g 1) (Lz (.string ⟨y6 a.bY⟩) aK 0 C4 ?_))))))
 obtain⟨K,bq⟩:∃ q,sS l0 a.bY=q:=⟨_,rfl⟩
 obtain⟨lF,eF,eG,eH,jW⟩:=EU aK
 refine cl Tryz.call162 (xM _ _ M l0.length c0 l0 a.bY K eF (eG _ C) rfl e6 i5 bq) ?_
 rintro _ iT ⟨rfl,eO,bu⟩
 have W:=eH _ _ eO
 replace bu:0≤K∧K < ((l0.length:Nat):Int):=bu
 obtain⟨X,bz⟩:=dG (ls:=l0) (i:=D2 K) bv.len f3 (W.ro C) e9
 refine fw (.pointer (some ⟨ab M,ao M+(D2 K) *2,none⟩)) (ET (pX) rfl (Dr (r:=K) rfl e6) ((W.ro C).addr (i:=D2 K) e6) e6) (Kz (.pointer (some ⟨ab M,ao M+(D2 K) *2+1,none⟩)) (fw (vI X.dU) (EY rfl (bZ.one C6 (((W.ro C).elem bv.len bz f3).at_ (k:=1) rfl))) (Mz rfl (Kz (.bool (decide (X.dU=p))) (nt ?_)))))
 obtain⟨iU,aD⟩:=qo fun(aH:Option Addr) (aI:Nat) (L:List bC) (w':World)=>Own w D w' [blk g (bC.cells a) 72,row aH L.length aI (q6 bC.cells L) 72 6]∧0≤L.length∧L.length≤1∧(if X.dU=p then [a] else [])=L
 refine FK (fun i:(Option Addr) × Nat × (List bC)=> [(7, .slice i.1 i.2.2.length i.2.1),(6, .slice none 0 0),(5,vP g 0),(0, .slice M l0.length c0),(1,vI p)]) iU ?_ ?_
 by_cases aJ:X.dU=p
 refine jT (dT aJ) (EO (Mz rfl (La (bC.cells a) W 0 Tryz.isAgg72 Tryz.sizeOf72 ?_)))
 refine kG (bC.cells a) 72 6 1 W ?_
 intro df iV bA
 replace bA:=Fx (y:=row df 1 1 (q6 bC.cells ([a])) 72 6) rfl bA
 have dh:Own w D iV [row none 0 0 (q6 bC.cells ([])) 72 6,row df 1 1 (q6 bC.cells ([a])) 72 6,blk g (bC.cells a) 72]:=bA.free (eZ 72 6)
 refine WL.do rfl (Fy (k:=0) (m:=1) (pW) dh rfl rfl (iM B1 (dh.rds (i:=1) rfl) (fu bC.one ([a]))) rfl e6 (s:=1) e6 rfl ?_)
 intro iW iX lG iY
 refine Az rfl (D0 ?_)
 have iZ:=iY.pk [2,0]
 exact FD (iW,iX, [a]) ⟨rfl,rfl,rfl,rfl,rfl,trivial⟩ (aD.2 ⟨iZ,(show 0≤s2 ([a])∧s2 ([a])≤1∧(if X.dU=p then [a] else [])=([a]) from ⟨e6,by first | omega | exact Nat.le_refl _ | exact IU _,ip aJ⟩)⟩)
 refine jF (dF aJ) (Fq ?_)
 have ja:Own w D iT [row none 0 0 (q6 bC.cells ([])) 72 6,blk g (bC.cells a) 72]:=W.free (eZ 72 6)
 have jb:=ja.pb [0]
 exact FD (none,0, []) ⟨rfl,rfl,rfl,rfl,rfl,trivial⟩ (aD.2 ⟨jb,(show 0≤s2 ([])∧0≤1∧(if X.dU=p then [a] else [])=([]) from ⟨e6,by first | omega | exact Nat.le_refl _ | exact IU _,iN aJ⟩)⟩)
 rintro ⟨aH,aI,L⟩ lH eP
 obtain⟨jc,jX,jY,eQ⟩:=aD.1 eP
 refine sr (Mz rfl (An rfl (rt (tR (rs ?_)))))
 have jd:=jc.pk [1]
 obtain rfl:_=L:=hr.symm.trans (et (iN N) (et (iN aF) (et (ah bq) (et (ah (bI bz)) (ah eQ)))))
 exact⟨aH,aI,rfl,jd,i5⟩
def qj (a:Nat):Nat × Nat:=
 (((0 *(a / 4294967296))+(((0 *(a % 4294967296))+((1 *(a % 4294967296)) / 4294967296)) / 4294967296))+(((((0 *(a % 4294967296))+((1 *(a % 4294967296)) / 4294967296)) % 4294967296)+(1 *(a / 4294967296))) / 4294967296),1 *a)
theorem vg (w:World) (D:Nat→Prop) (g:Int) (a:Nat) (b:Nat) (c:Nat) (H:Own w D w []) (d:g=1) (h:a≤9223372036854775807) (hr:qj a=(b,c)):
    Calls y4 190 #[.int .u64 g,vU a] w (dS fun v w'=>v= .tuple #[vU b,vU c]∧Own w D w' []∧(b=0∧c=a)):=by
 subst d
 refine cb Tryz.func190 ?_
 refine sr (Az rfl (Ar rfl (Mz rfl (Kz (.int .u64 1) (Ar rfl (Mz rfl (Kz (.int .u64 0) (Ar rfl (Mz rfl (fw (vU (a % 4294967296)) (EQ (e:=D3.wrap (((BitVec.ofInt 64 ((a:Nat):Int) &&& BitVec.ofInt 64 4294967295).toNat:Nat):Int)) yk (yR _ 32 f3 _ f3)) (Ar rfl (Mz rfl (fw (vU (a / 4294967296)) (EQ (e:=I9 ((a:Nat):Int) 4294967296) yk (mK _ 32 _ f3)) (Ar rfl (Mz rfl (Mz rfl (fw (vU (1 *(a % 4294967296))) (EQ (e:=D3.wrap (1 *((a % 4294967296:Nat):Int))) yk g8) (Az rfl ?_))))))))))))))))))
 refine ns (Mz rfl (Mz rfl (fw (vU (0 *(a % 4294967296))) (EQ (e:=D3.wrap (0 *((a % 4294967296:Nat):Int))) yk g8) (Mz rfl (fw (.int .u64 (((1 *(a % 4294967296)) / 4294967296:Nat):Int)) (EQ (e:=I9 ((1 *(a % 4294967296):Nat):Int) 4294967296) yk (mK _ 32 _ f3)) (fw (.int .u64 (((0 *(a % 4294967296))+((1 *(a % 4294967296)) / 4294967296):Nat):Int)) (EQ (e:=D3.wrap (((0 *(a % 4294967296):Nat):Int)+(((1 *(a % 4294967296)) / 4294967296:Nat):Int))) yk g8) (Ar rfl (Mz rfl (fw (.int .u64 ((((0 *(a % 4294967296))+((1 *(a % 4294967296)) / 4294967296)) % 4294967296:Nat):Int)) (EQ (e:=D3.wrap (((BitVec.ofInt 64 (((0 *(a % 4294967296))+((1 *(a % 4294967296)) / 4294967296):Nat):Int) &&& BitVec.ofInt 64 4294967295).toNat:Nat):Int)) yk (yR _ 32 f3 _ f3)) (Ar rfl (Mz rfl (fw (.int .u64 ((((0 *(a % 4294967296))+((1 *(a % 4294967296)) / 4294967296)) / 4294967296:Nat):Int)) (EQ (e:=I9 (((0 *(a % 4294967296))+((1 *(a % 4294967296)) / 4294967296):Nat):Int) 4294967296) yk (mK _ 32 _ f3)) (Ar rfl (Mz rfl (Mz rfl (Mz rfl (fw (vU (1 *(a / 4294967296))) (EQ (e:=D3.wrap (1 *((a / 4294967296:Nat):Int))) yk g8) (fw (.int .u64 (((((0 *(a % 4294967296))+((1 *(a % 4294967296)) / 4294967296)) % 4294967296)+(1 *(a / 4294967296)):Nat):Int)) (EQ (e:=D3.wrap (((((0 *(a % 4294967296))+((1 *(a % 4294967296)) / 4294967296)) % 4294967296:Nat):Int)+((1 *(a / 4294967296):Nat):Int))) yk g8) (Ar rfl (Mz rfl ?_))))))))))))))))))))
 refine Mz rfl (fw (vU (0 *(a / 4294967296))) (EQ (e:=D3.wrap (0 *((a / 4294967296:Nat):Int))) yk g8) (Mz rfl (fw (.int .u64 (((0 *(a / 4294967296))+(((0 *(a % 4294967296))+((1 *(a % 4294967296)) / 4294967296)) / 4294967296):Nat):Int)) (EQ (e:=D3.wrap (((0 *(a / 4294967296):Nat):Int)+((((0 *(a % 4294967296))+((1 *(a % 4294967296)) / 4294967296)) / 4294967296:Nat):Int))) yk g8) (Mz rfl (fw (.int .u64 ((((((0 *(a % 4294967296))+((1 *(a % 4294967296)) / 4294967296)) % 4294967296)+(1 *(a / 4294967296))) / 4294967296:Nat):Int)) (EQ (e:=I9 (((((0 *(a % 4294967296))+((1 *(a % 4294967296)) / 4294967296)) % 4294967296)+(1 *(a / 4294967296)):Nat):Int) 4294967296) yk (mK _ 32 _ f3)) (fw (.int .u64 ((((0 *(a / 4294967296))+(((0 *(a % 4294967296))+((1 *(a % 4294967296)) / 4294967296)) / 4294967296))+(((((0 *(a % 4294967296))+((1 *(a % 4294967296)) / 4294967296)) % 4294967296)+(1 *(a / 4294967296))) / 4294967296):Nat):Int)) (EQ (e:=D3.wrap ((((0 *(a / 4294967296))+(((0 *(a % 4294967296))+((1 *(a % 4294967296)) / 4294967296)) / 4294967296):Nat):Int)+((((((0 *(a % 4294967296))+((1 *(a % 4294967296)) / 4294967296)) % 4294967296)+(1 *(a / 4294967296))) / 4294967296:Nat):Int))) yk g8) (Ar rfl (Mz rfl (Mz rfl (fw (vU (1 *a)) (EQ (e:=D3.wrap (1 *((a:Nat):Int))) yk g8) (An rfl (rt (Fin.res (lT rfl rfl rfl) ?_)))))))))))))
 have f:=H.pk []
 obtain⟨rfl,rfl⟩:=fT (hr.symm.trans (show _=(((0 *(a / 4294967296))+(((0 *(a % 4294967296))+((1 *(a % 4294967296)) / 4294967296)) / 4294967296))+(((((0 *(a % 4294967296))+((1 *(a % 4294967296)) / 4294967296)) % 4294967296)+(1 *(a / 4294967296))) / 4294967296),1 *a) from rfl))
 exact⟨rfl,f,e6⟩
def rC (b:Nat):Nat × Nat:=
 bnd (qj b) fun a=>(a.1,a.2)
theorem wK (w:World) (D:Nat→Prop) (n:Int) (e:Nat) (i:Nat) (j:Nat) (H:Own w D w []) (k:n=1) (r:e≤9223372036854775807) (hr:rC e=(i,j)):
    Calls y4 164 #[.int .u64 n,vU e] w (dS fun v w'=>v= .tuple #[vU i,vU j]∧Own w D w' []∧(i=0∧j=e)):=by
 subst k
 refine cb Tryz.func164 ?_
 refine sr (Az rfl (An rfl (EP (jf (sk (sr (Mz rfl (Mz rfl ?_))))))))
 obtain⟨⟨a,b⟩,c⟩:∃ q:Nat × Nat,qj e=q:=⟨_,rfl⟩
 obtain⟨s,f,o,g,p⟩:=EU H
 refine cl Tryz.call190 (vg _ _ 1 e a b f rfl e6 c) ?_
 rintro _ t ⟨rfl,h,d⟩
 have l:=g _ _ h
 replace d:a=0∧b=e:=d
 refine Mz rfl (Kz (vU a) (Kz (vU b) (Az rfl (Ar rfl (Mz rfl (Mz rfl (Az rfl (An rfl (rt (Fin.res (lT rfl rfl rfl) ?_))))))))))
 have m:=l.pk []
 obtain⟨rfl,rfl⟩:=fT (hr.symm.trans (show _=(a,b) from ah c))
 exact⟨rfl,m,e6⟩
def j5 (b:Nat):Nat→Nat→List Int→(List Int)
  | 0,a,c=>default
  | d+1,a,c=>if((a:Nat):Int) < ((b:Nat):Int) then j5 b d (a+(min a (b - a))) (r5 a c++(r5 (min a (b - a)) (r5 a c)++r6 (a+(min a (b - a))) c)) else c
def ny (l0:List Int) (b:Int):(List Int):=
 bnd (rC (D2 b)) fun a=>bnd (j5 a.2 ((D2 b - (min l0.length a.2))+1) (min l0.length a.2) (r5 0 (s0 a.2 (0:Int))++(r5 (min l0.length a.2) l0++r6 (0+(min l0.length a.2)) (s0 a.2 (0:Int))))) fun sLrbL=>sLrbL
theorem r9 (w:World) (D:Nat→Prop) (W:Option Addr) (K c0:Nat) (l0:List Int) (d:Int) (x:List Int) (H:Own w D w []) (L:Ro w D fun w'=>bD w' 1 W K (q6 (eI .i64) l0)) (M:K=l0.length) (ax:l0.length *8≤211106232532992) (ay:l0.length=1∧0≤d∧d *8≤140737488351232) (hr:ny l0 d=x):
    Calls y4 147 #[.slice W K c0,vI d] w (dS fun v w'=> ∃ (X:Option Addr) (Y:Nat),v= .slice X x.length Y∧Own w D w' [row X x.length Y (q6 (eI .i64) x) 3 1]∧(((x.length:Nat):Int)=d)):=by
 subst M
 refine cb Tryz.func147 ?_
 refine sr (An rfl (EP (sr (Mz rfl (Kz (.bool (decide (d < 0))) (nt ?_))))))
 have y:(decide (d < 0))=false:=(dF e6)
 refine jF y (sk (sr (Mz rfl (Kz (vJ l0.length) (fw (vU l0.length) (EQ (e:=D3.wrap ((l0.length:Nat):Int)) yk (IntWalk.u64_in _ e6)) (fw (vJ (D2 d)) (EQ (e:=d) (E5 rfl) e6) (fw (vU (D2 d)) (EQ (e:=D3.wrap ((D2 d:Nat):Int)) yk (IntWalk.u64_in _ e6)) ?_)))))))
 obtain⟨⟨g,a⟩,o⟩:∃ q:Nat × Nat,rC (D2 d)=q:=⟨_,rfl⟩
 obtain⟨az,A,Z,B,aa⟩:=EU H
 refine cl Tryz.call164 (wK _ _ ((l0.length:Nat):Int) (D2 d) g a A e6 e6 o) ?_
 rintro _ aA ⟨rfl,C,p⟩
 have N:=B _ _ C
 replace p:g=0∧a=(D2 d):=p
 refine Mz rfl (Kz (vU g) (Kz (vU a) (Az rfl (An rfl (EP (sr (Mz rfl (Kz (.bool (decide (((g:Nat):Int) > 0))) (Mz rfl ?_)))))))))
 have h:(decide (((g:Nat):Int) > 0))=false:=(dF e6)
 refine FP (v:=vU a) rfl rfl h rfl (E5 rfl) (Gz (.bool (decide (((a:Nat):Int) > 9223372036854775807))) h (fw (.bool (decide (((a:Nat):Int) > 9223372036854775807))) (ES rfl h rfl) (nt ?_)))
 have E:(decide (((a:Nat):Int) > 9223372036854775807))=false:=(dF e6)
 refine jF E (sk (sr (Mz rfl (fw (vJ a) (EQ (e:=C7.wrap ((a:Nat):Int)) yk (IR _ e6)) ?_))))
 refine WL.do rfl (F5 (x0:=(0:Int)) (z:=vI 0) (k:=a) (size:=1) (bytes:=8) iH f3 rfl G4 e7 N rfl rfl e6 (by unfold maxLen; omega) ?_)
 intro f aB s
 have ae:s2 (s0 a (0:Int))=a:=H4
 refine Ar rfl (Mz rfl (Mz rfl ?_))
 refine WL.do rfl (Hl (lo:=0) (k:=min l0.length a) (mQ) s rfl (fun hp=>by rw [Nat.zero_mul,Nat.add_zero]; exact(s.rds (i:=0) rfl).isSome e6) e6 rfl (s.ro L) (fu uK l0) e6 (yJ iH _ _ _ _ e9) ?_)
 intro aC O
 have af:s2 (r5 0 (s0 a (0:Int))++(r5 (min l0.length a) l0++r6 (0+(min l0.length a)) (s0 a (0:Int))))=a:=by simp only [p5,p3,p4,H4]; omega
 refine An rfl (EP (bo ?_))
 have P:=O.pf []
 obtain⟨Q,j⟩:=qo fun(b:Nat) (c:List Int) (l:Nat) (w':World)=>Own w D w' [row f a a (q6 (eI .i64) c) 3 1]∧c.length=a∧((b:Nat):Int)≤d∧(1≤b∨d=0)∧D2 d - b < l∧j5 a ((D2 d - (min l0.length a))+1) (min l0.length a) (r5 0 (s0 a (0:Int))++(r5 (min l0.length a) l0++r6 (0+(min l0.length a)) (s0 a (0:Int))))=j5 a l b c
 refine C5 (fun i:Nat × (List Int) × Nat=> [(8,vJ i.1),(7, .slice f a a),(4, .slice none 0 0)]) Q (fun i=>i.2.2) (min l0.length a,(r5 0 (s0 a (0:Int))++(r5 (min l0.length a) l0++r6 (0+(min l0.length a)) (s0 a (0:Int)))),(D2 d - (min l0.length a))+1) ⟨rfl,rfl,rfl,trivial⟩ (j.2 ⟨P,by first | omega | (simp only [H3] <;> omega) | (simp only [H4]),e6,e6,e6,rfl⟩) ?_
 rintro ⟨b,c,l⟩ R F
 obtain⟨G,ag,ai,aj,ak,r⟩:=j.1 F
 obtain⟨t,I⟩:∃ q,l=q+1:=⟨l - 1,e6⟩
 subst I
 refine EP (sr (Mz rfl (Mz rfl (Kz (vJ a) (Kz (.bool (decide (((b:Nat):Int) < ((a:Nat):Int)))) (nt ?_))))))
 by_cases n:((b:Nat):Int) < ((a:Nat):Int)
 refine jT (dT n) (sk (bo ?_))
 refine uC [7] (bP.block (E9 (bP.block (E9 Fp)))) G ?_
 intro aD u
 refine Fz (v:=vJ b) 0 rfl e7 (fun _=>E5 rfl) (qv 1 rfl rfl (qv 2 rfl rfl (qt (v:= .slice (jr f b 1 a) (a - b) (a - b)) 3 rfl (fun _ _=>FH (mQ) rfl rfl e6) (qv 4 rfl rfl (qv 5 rfl rfl (qt (v:= .slice f b a) 6 rfl (fun _ _=>FV (mQ) rfl rfl e6) ?_))))))
 refine qd 7 rfl (Hl (lo:=b) (k:=min b (a - b)) (mQ) u rfl (fun _=>kL ((u.rds (i:=0) rfl).addr (i:=b) e6) e6) e6 rfl (Hg (hi:=b) iH (u.rds (i:=0) rfl) e6) (fu uK (r5 b c)) e6 (yJ iH _ _ _ _ e9) ?_)
 intro aF S
 have au:s2 (r5 b c++(r5 (min b (a - b)) (r5 b c)++r6 (b+(min b (a - b))) c))=a:=by simp only [p5,p3,p4,H4]; omega
 refine⟨.inl e7, ?_⟩
 refine Fz (v:=vI ((b+(min b (a - b)):Nat):Int)) 8 rfl e7 (fun _=>EQ (e:=C7.wrap (((b:Nat):Int)+((min b (a - b):Nat):Int))) yk f1) (Fz (v:=vI ((b+(min b (a - b)):Nat):Int)) 9 rfl e7 (fun _=>F8 rfl) (qn (bN ?_)))
 have T:=S.pf []
 exact E8 (b+(min b (a - b)),(r5 b c++(r5 (min b (a - b)) (r5 b c)++r6 (b+(min b (a - b))) c)),t) ⟨rfl,rfl,rfl,trivial⟩ (j.2 ⟨T,by first | omega | (simp only [H3] <;> omega) | (simp only [H4]),e6,e6,e6,Eq.trans (r) (if_pos n)⟩) (by show t < t+1; omega)
 refine jF (dF n) (D1 (EX ?_))
 have J:j5 a ((D2 d - (min l0.length a))+1) (min l0.length a) (r5 0 (s0 a (0:Int))++(r5 (min l0.length a) l0++r6 (0+(min l0.length a)) (s0 a (0:Int))))=c:=et (r) (iN n)
 refine EX (Fg (ER (sr (Mz rfl (An rfl (rt (rs ?_)))))))
 have m:a=c.length:=by first | omega | (simp only [H3]; done) | (simp only [H3,p5,s3,G1,p3,p4,H4]; omega)
 have U:Own w D R [row f c.length a (q6 (eI .i64) c) 3 1]:=by rw [← m]; exact G
 have V:=U.pf []
 obtain rfl:_=c:=hr.symm.trans (et (ah o) (ah J))
 exact⟨f,a,(by first | rfl | (rw [← m]; done) | (rw [← m]; rfl)),V,e6⟩
def j6 (l0:List bv) (g:List fV) (f:Nat):List bC→Nat→List bC→List Int→(List bC) × (List Int)
  | [],b,c,d=>(c,d)
  | h::i,b,c,d=>bnd (o9 l0 ((f:Nat):Int) h) fun a=>bnd (ny ([((b:Nat):Int)]) ((a.length:Nat):Int)) fun e=>j6 l0 g f i (b+1) (c++a) (d++e)
def iR (l0:List bv) (l1:List bC):Nat→List fV→Nat→(List fV)
  | 0,a,b=>a
  | c+1,a,b=>bnd (j6 l0 a b l1 0 ([]) ([])) fun sLrbtbtLsL=>if((sLrbtbtLsL.1.length:Nat):Int) > 0 then iR l0 l1 c (a++ [(fV.mk ((b:Nat):Int) (E4 sLrbtbtLsL.1) (E4 sLrbtbtLsL.2))]) (b+1) else iR l0 l1 c a (b+1)
def l9 (l0:List bv) (l1:List bC):(List fV) × Int:=
 bnd (kH l0) fun a=>if a=0 then bnd (nN l1) fun b=>if b=0 then bnd (iR l0 l1 5 ([]) 0) fun sLrbtbtL=>(sLrbtbtL,0) else(([]:List fV),b) else(([]:List fV),a)
theorem zu (w:World) (D:Nat→Prop) (A0:Option Addr) (n0 c0:Nat) (l0:List bv) (L:Option Addr) (n1 c1:Nat) (l1:List bC) (r0:List fV) (r1:Int) (H:Own w D w []) (aQ:Ro w D fun w'=>bD w' 2 A0 n0 (q6 bv.cells l0)) (dx:n0=l0.length) (fG:l0.length *24≤211106232532992) (Y:Ro w D fun w'=>bD w' 6 L n1 (q6 bC.cells l1)) (dz:n1=l1.length) (fH:l1.length *80≤211106232532992) (hr:l9 l0 l1=(r0,r1)):
    Calls y4 127 #[.slice A0 n0 c0, .slice L n1 c1] w (dS fun v w'=> ∃ (B0:Option Addr) (b0:Nat) (e0:List bG),v= .tuple #[.slice B0 r0.length b0,vI r1]∧Own w D w' [row B0 r0.length b0 (q6 bG.cells e0) 172 3,sepL (q6 bG.own e0)]∧(List.map bG.abs e0=r0)):=by
 subst dx dz
 refine cb Tryz.func127 ?_
 refine sr (Az rfl (An rfl (EP (sr (Mz rfl ?_)))))
 obtain⟨J,F⟩:∃ q,kH l0=q:=⟨_,rfl⟩
 obtain⟨fI,aR,aS,aU,ed⟩:=EU H
 refine cl Tryz.call72 (qD _ _ A0 l0.length c0 l0 J aR (aS _ aQ) rfl e6 F) ?_
 rintro _ aV ⟨rfl,aW,ai⟩
 have aX:=aU _ _ aW
 replace ai: ¬ (J=0)∨(1≤l0.length∧l0.length≤6):=ai
 refine Ar rfl (Mz rfl (fw (.bool (decide (¬ (J=0)))) (Fs (e:= !(decide (J=0))) yk decide_not.symm) (nt ?_)))
 by_cases M:J=0
 refine jF (dF (IV M)) (sk (EP (sr (Mz rfl ?_))))
 obtain⟨K,N⟩:∃ q,nN l1=q:=⟨_,rfl⟩
 obtain⟨fJ,aY,aZ,bf,ek⟩:=EU aX
 refine cl Tryz.call137 (wm _ _ L l1.length c1 l1 K aY (aZ _ Y) rfl e6 N) ?_
 rintro _ Z ⟨rfl,bg,aj⟩
 have bi:=bf _ _ bg
 replace aj: ¬ (K=0)∨(1≤l1.length∧l1.length≤4):=aj
 refine Ar rfl (Mz rfl (fw (.bool (decide (¬ (K=0)))) (Fs (e:= !(decide (K=0))) yk decide_not.symm) (nt ?_)))
 by_cases aa:K=0
 refine jF (dF (IV aa)) (sk (sr (An rfl (EP (sr (Mn rfl (bo ?_)))))))
 have dB:Own w D Z [sepL (q6 bG.own ([]))]:=bi.sepNil
 have dC:Own w D Z [row none 0 0 (q6 bG.cells ([])) 172 3,sepL (q6 bG.own ([]))]:=dB.free (eZ 172 3)
 have dD:=dC.pf []
 obtain⟨dE,G⟩:=zY fun(z:Option Addr) (A:Nat) (x:List bG) (d:List fV) (a:Nat) (w':World)=>Own w D w' [row z d.length A (q6 bG.cells x) 172 3,sepL (q6 bG.own x)]∧List.map bG.abs x=d∧a≤5∧d.length≤a∧iR l0 l1 5 ([]) 0=iR l0 l1 (5 - a) d a
 refine C5 (fun i:(Option Addr) × Nat × (List bG) × (List fV) × Nat=> [(8, .slice i.1 i.2.2.2.1.length i.2.1),(23,vJ i.2.2.2.2),(5,vI 0),(4, .slice none 0 0),(0, .slice A0 l0.length c0),(1, .slice L l1.length c1)]) dE (fun i=>5 - i.2.2.2.2) (none,0, [], [],0) ⟨rfl,rfl,rfl,rfl,rfl,rfl,trivial⟩ (G.2 ⟨dD,(show List.map bG.abs ([])=([])∧0≤5∧0≤0∧iR l0 l1 5 ([]) 0=iR l0 l1 (5 - 0) ([]) 0 from ⟨by exact rfl,e6,e6,rfl⟩)⟩) ?_
 rintro ⟨z,A,x,d,a⟩ fK bn
 obtain⟨bq,B,eu,eB,O⟩:=G.1 bn
 have eF:=az B
 refine sr (Kz (.bool (decide (((a:Nat):Int) < 5))) (nt (EP ?_)))
 by_cases bu:((a:Nat):Int) < 5
 refine jT (dT bu) (sk (EP (bo (sr (Mz rfl (Ar rfl (Mz rfl (Kz (.agg #[vJ a, .slice none 0 0, .slice none 0 0]) ?_))))))))
 refine dK [vI 0, .slice none 0 0, .slice none 0 0] 172 bq ?_
 intro C fM dH
 refine dN [vJ a, .slice none 0 0, .slice none 0 0] 0 dH Tryz.sizeOf172 ?_
 intro bz dI
 refine nt (EP (sr (Mz rfl (Kz (vJ l1.length) (Mn rfl (bo ?_))))))
 have dJ:Own w D bz (row none 0 0 (q6 bC.cells ([])) 72 6::_):=dI.free (eZ 72 6)
 have dL:Own w D bz (row none 0 0 (q6 (eI .i64) ([])) 3 1::_):=dJ.free (eZ 3 1)
 have dM:=dL.pb [1,0]
 obtain⟨dO,P⟩:=EF fun(g:Nat) (h:Option Addr) (j:Nat) (b:List bC) (p:Option Addr) (r:Nat) (c:List Int) (w':World)=>Own w D w' [blk C [vJ a, .slice h b.length j, .slice p c.length r] 172,row z d.length A (q6 bG.cells x) 172 3,sepL (q6 bG.own x),row h b.length j (q6 bC.cells b) 72 6,row p c.length r (q6 (eI .i64) c) 3 1]∧g≤l1.length∧b.length≤6 *g∧c.length≤6 *g∧j6 l0 d a l1 0 ([]) ([])=j6 l0 d a (r6 g l1) g b c
 refine C5 (fun i:Nat × (Option Addr) × Nat × (List bC) × (Option Addr) × Nat × (List Int)=> [(30,vJ i.1),(29,vJ l1.length),(28, .slice L l1.length c1),(10,vP C 0),(27, .agg #[vJ a, .slice none 0 0, .slice none 0 0]),(26,vJ a),(9,vJ a),(25,vJ a),(24, .bool (decide (((a:Nat):Int) < 5))),(8, .slice z d.length A),(23,vJ a),(5,vI 0),(4, .slice none 0 0),(0, .slice A0 l0.length c0),(1, .slice L l1.length c1)]) dO (fun i=>l1.length - i.1) (0,none,0, [],none,0, []) ⟨rfl,rfl,rfl,rfl,rfl,rfl,rfl,rfl,rfl,rfl,rfl,rfl,rfl,rfl,rfl,trivial⟩ (P.2 ⟨dM,(show 0≤l1.length∧0≤6 *0∧0≤6 *0∧j6 l0 d a l1 0 ([]) ([])=j6 l0 d a (r6 0 l1) 0 ([]) ([]) from ⟨e6,e6,e6,rfl⟩)⟩) ?_
 rintro ⟨g,h,j,b,p,r,c⟩ fO bA
 obtain⟨E,eG,eH,eO,ak⟩:=P.1 bA
 refine sr (Kz (.bool (decide (((g:Nat):Int) < ((l1.length:Nat):Int)))) (nt (EP ?_)))
 by_cases bB:((g:Nat):Int) < ((l1.length:Nat):Int)
 obtain⟨ae,au⟩:=dG (ls:=l1) (i:=g) bC.len f3 (E.ro Y) e9
 have bE:=drop_at au
 refine jT (dT bB) (sk (EP (bo (sr (Mz rfl (Ar rfl (Mz rfl (Mz rfl (Mz rfl (Mz rfl (fw (.pointer (some ⟨ab L,ao L+g *6,none⟩)) (ET (pW) rfl rfl ((E.ro Y).addr (i:=g) e6) e6) (fw (.agg (bC.cells ae).toArray) (EY rfl (Fb (cs:=(bC.cells ae)) Tryz.isAgg72 Tryz.sizeOf72 ((E.ro Y).elem bC.len au f3))) ?_))))))))))))
 obtain⟨u,Q⟩:∃ q,o9 l0 ((a:Nat):Int) ae=q:=⟨_,rfl⟩
 obtain⟨fP,bF,bH,bI,eP⟩:=EU E
 refine cl Tryz.call146 (xO _ _ A0 l0.length c0 l0 ((a:Nat):Int) ae u bF (bH _ aQ) rfl e6 e6 Q) ?_
 rintro _ eQ ⟨eT,eU,rfl,aK,R⟩
 have S:=bI _ _ aK
 have dP:=S.rowC (i:=0) rfl
 replace R:u.length≤6:=R
 refine Ar rfl (Kz (vP C 1) (Lz (.slice h b.length j) S 1 Tryz.isAgg39 (Mz rfl ?_)))
 have av:=S.pf [4]
 refine WL.do rfl (Fy (k:=b.length) (m:=u.length) (pW) av rfl rfl (iM B1 (av.rds (i:=1) rfl) (fu bC.one u)) rfl e6 (s:=s2 (b++u)) f7 (r7).symm ?_)
 intro ax ay eX bJ
 have dQ:s2 (b++u)=b.length+u.length:=by simp only [p5,s3,G1]
 refine Kz (vP C 1) ?_
 have bK:=bJ.pf [2]
 refine dN [.slice ax (s2 (b++u)) ay] 1 bK Tryz.sizeOf39 ?_
 intro eY bL
 refine nt ?_
 refine EI [7,9] (bP.block (E9 (E9 (bP.block (E9 (bP.block (E9 (E9 (bP.block (E9 Fp)))))))))) bL ?_
 intro fe bM
 refine qp C 2 0 rfl (ql 1 rfl 0 Tryz.isAgg58 rfl rfl rfl (qv 2 rfl rfl (qv 4 rfl rfl (qk (vJ u.length) 5 rfl ?_))))
 refine qd 3 rfl (F9 (cs:= [vJ g]) (t:=3) (sz:=1) (m:=1) bM rfl rfl (fun _=>by kernel_rfl) rfl f3 ?_)
 intro aA fo T
 replace T:=Fx (y:=row aA 1 1 (q6 (eI .i64) ([((g:Nat):Int)])) 3 1) rfl T
 have aB:=T.pb [0]
 refine⟨.inr ⟨_,aB⟩, ?_⟩
 obtain⟨l,U⟩:∃ q,ny ([((g:Nat):Int)]) ((u.length:Nat):Int)=q:=⟨_,rfl⟩
 obtain⟨fq,aL,dR,aM,aN⟩:=EU aB
 refine qd 6 rfl (Fe Tryz.call147 rfl (r9 _ _ aA 1 1 ([((g:Nat):Int)]) ((u.length:Nat):Int) l aL (aN _ 6 _ rfl aT) rfl i8 (by first | omega | exact⟨rfl,e6,e6⟩) U) ?_)
 rintro _ fA ⟨fB,fC,rfl,aO,V⟩
 have aC:=aM _ _ aO
 have dU:=aC.rowC (i:=0) rfl
 replace V:((l.length:Nat):Int)=((u.length:Nat):Int):=V
 have aD:=aC.pb [0,7]
 refine⟨.inr ⟨_,aD⟩, ?_⟩
 have aF:=aD.pf [5]
 refine qd 7 rfl (Fy (k:=c.length) (m:=l.length) (mQ) aF rfl rfl (iM G4 (aF.rds (i:=6) rfl) (fu uK l)) rfl e6 (s:=s2 (c++l)) f7 (r7).symm ?_)
 intro aG aH fD bO
 have dV:s2 (c++l)=c.length+l.length:=by simp only [p5,s3,G1]
 refine⟨.inl e7, ?_⟩
 refine Fz (v:=vP C 2) 8 rfl e7 (fun _=>yk) ?_
 have bQ:=bO.pf [1]
 refine qe 9 rfl (Do.store (vs:= [.slice aG (s2 (c++l)) aH]) (o:=2) bQ rfl rfl Tryz.sizeOf58 rfl rfl rfl rfl ?_)
 intro fE bR
 refine⟨.inl e7, ?_⟩
 refine qn (bN (ER (EO (fw (vJ (g+1)) (EQ (e:=C7.wrap (((g:Nat):Int)+1)) yk f1) (Mz rfl (D0 ?_))))))
 have bS:=bR.pk [0,4,5,2,1]
 exact E8 (g+1,ax,ay,(b++u),aG,aH,(c++l)) ⟨rfl,rfl,rfl,rfl,rfl,rfl,rfl,rfl,rfl,rfl,rfl,rfl,rfl,rfl,rfl,trivial⟩ (P.2 ⟨bS,e6,e6,e6,et (ak) (et (congrArg (fun q=>j6 l0 d a q g b c) bE) (et (ah Q) (ah U)))⟩) (by show l1.length - (g+1) < l1.length - g; omega)
 refine jF (dF bB) (D1 (EX ?_))
 have W:j6 l0 d a l1 0 ([]) ([])=(b,c):=et (ak) (et (congrArg (fun q=>j6 l0 d a q g b c) (eD (ls:=l1) (i:=g) e6)) rfl)
 refine EX (Fg (ER (sr (Kz (vP C 1) (Lz (.slice h b.length j) E 0 Tryz.isAgg39 (Kz (vJ b.length) (Kz (.bool (decide (((b.length:Nat):Int) > 0))) (nt ?_))))))))
 by_cases I:((b.length:Nat):Int) > 0
 refine jT (dT I) (EO (Mz rfl (La ([vJ a, .slice h b.length j, .slice p c.length r]) E 0 Tryz.isAgg172 Tryz.sizeOf172 ?_)))
 refine kG [vJ a, .slice h b.length j, .slice p c.length r] 172 3 1 E ?_
 intro bT fF X
 replace X:=Fx (y:=row bT 1 1 (q6 bG.cells ([(bG.mk ((a:Nat):Int) (H2 h j b) (H2 p r c))])) 172 3) rfl X
 have aI:=X.pb [0,1]
 refine WL.do rfl (Fy (k:=d.length) (m:=1) (sI) aI rfl rfl (iM Tryz.underlying103 (aI.rds (i:=4) rfl) (fu bG.one ([(bG.mk ((a:Nat):Int) (H2 h j b) (H2 p r c))]))) rfl e6 (s:=s2 (d++ [(fV.mk ((a:Nat):Int) (E4 b) (E4 c))])) f7 (r7).symm ?_)
 intro bU bV bW bX
 have bY:=bX.pb [0,4,5]
 have bZ:Own w D bW (sepL (q6 bG.own (x++ [(bG.mk ((a:Nat):Int) (H2 h j b) (H2 p r c))]))::_):=bY.sepAdd (L2:= [row h b.length j (q6 bC.cells b) 72 6,row p c.length r (q6 (eI .i64) c) 3 1]) (r7 (f:=bG.own) (xs:=x) (ys:= [(bG.mk ((a:Nat):Int) (H2 h j b) (H2 p r c))])).symm
 have dW:s2 (d++ [(fV.mk ((a:Nat):Int) (E4 b) (E4 c))])=d.length+1:=by simp only [p5,s3,G1]
 have dX:=az (nZ (es:= [(bG.mk ((a:Nat):Int) (H2 h j b) (H2 p r c))]) (ms:= [(fV.mk ((a:Nat):Int) (E4 b) (E4 c))]) B rfl)
 refine Az rfl (D0 (bN (ER (EO (fw (vJ (a+1)) (EQ (e:=C7.wrap (((a:Nat):Int)+1)) yk f1) (Mz rfl (D0 ?_)))))))
 have cu:=bZ.pk [1,0]
 exact E8 (bU,bV,(x++ [(bG.mk ((a:Nat):Int) (H2 h j b) (H2 p r c))]),(d++ [(fV.mk ((a:Nat):Int) (E4 b) (E4 c))]),a+1) ⟨rfl,rfl,rfl,rfl,rfl,rfl,trivial⟩ (G.2 ⟨cu,by exact(nZ (es:= [(bG.mk ((a:Nat):Int) (H2 h j b) (H2 p r c))]) (ms:= [(fV.mk ((a:Nat):Int) (E4 b) (E4 c))]) B rfl),e6,e6,et (O) (et (congrArg (fun q=>iR l0 l1 q d a) (qR (n:=5) (i:=a) e6)) (et (ah W) (ip I)))⟩) (by show 5 - (a+1) < 5 - a; omega)
 refine jF (dF I) (Fq (bN (ER (EO (fw (vJ (a+1)) (EQ (e:=C7.wrap (((a:Nat):Int)+1)) yk f1) (Mz rfl (D0 ?_)))))))
 have cz:=E.pk [1,2]
 exact E8 (z,A,x,d,a+1) ⟨rfl,rfl,rfl,rfl,rfl,rfl,trivial⟩ (G.2 ⟨cz,by exact B,e6,e6,et (O) (et (congrArg (fun q=>iR l0 l1 q d a) (qR (n:=5) (i:=a) e6)) (et (ah W) (iN I)))⟩) (by show 5 - (a+1) < 5 - a; omega)
 refine jF (dF bu) (D1 (EX ?_))
 have aP:iR l0 l1 5 ([]) 0=d:=et (O) (et (congrArg (fun q=>iR l0 l1 q d a) (vK (n:=5) (i:=a) e6)) rfl)
 refine EX (Fg (ER (sr (Mz rfl (Az rfl (An rfl (rt (Fin.res (lT rfl rfl rfl) ?_))))))))
 have cB:=bq.pf []
 obtain⟨rfl,rfl⟩:=fT (hr.symm.trans (show _=(d,0) from et (ah F) (et (ip M) (et (ah N) (et (ip aa) (ah aP))))))
 exact⟨z,A,x,rfl,cB,B⟩
 refine jT (dT aa) (sr (Mz rfl (Az rfl (An rfl (rt (tR (Fin.res (lT rfl rfl rfl) ?_)))))))
 have cK:Own w D Z [sepL (q6 bG.own ([]))]:=bi.sepNil
 have cO:Own w D Z [row none 0 0 (q6 bG.cells ([])) 172 3,sepL (q6 bG.own ([]))]:=cK.free (eZ 172 3)
 have cZ:=cO.pf []
 obtain⟨rfl,rfl⟩:=fT (hr.symm.trans (show _=(([]:List fV),K) from et (ah F) (et (ip M) (et (ah N) (iN aa)))))
 exact⟨none,0, [],rfl,cZ,rfl⟩
 refine jT (dT M) (sr (Mz rfl (Az rfl (An rfl (rt (tR (Fin.res (lT rfl rfl rfl) ?_)))))))
 have df:Own w D aV [sepL (q6 bG.own ([]))]:=aX.sepNil
 have dh:Own w D aV [row none 0 0 (q6 bG.cells ([])) 172 3,sepL (q6 bG.own ([]))]:=df.free (eZ 172 3)
 have di:=dh.pf []
 obtain⟨rfl,rfl⟩:=fT (hr.symm.trans (show _=(([]:List fV),J) from et (ah F) (iN M)))
 exact⟨none,0, [],rfl,di,rfl⟩
end Go.Proofs.YtbkagebjhbphaaaGreat
