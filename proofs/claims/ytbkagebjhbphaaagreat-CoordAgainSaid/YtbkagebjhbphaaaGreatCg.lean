/-
 coord: a transaction is committed.
-/
import Derived.Test.YtbkagebjhbphaaaGreatCc
import Derived.Test.YtbkagebjhbphaaaGreatCf
namespace Go.Proofs.YtbkagebjhbphaaaGreat
open Int renaming toNat→D2
open IntKind renaming i64→C7
open List renaming cons→P4,drop→r6,flatMap→q6,getD→C2,length→s2,length_append→p5,length_cons→s3,length_drop→p4,length_map→s6,length_nil→G0,length_replicate→H6,length_set→H5,length_take→p3,map→s8,mem_append_right→v5,mem_flatMap→P2,mem_of_getElem?→E0,set→u5,take→r5
open Ll renaming mk→E4
open Sv renaming mk→H3
open _root_.Go.Proofs.Tryz renaming isAgg24→O2,isAgg28→E1,isAgg3→C6,isAgg31→H7,isAgg56→P3,prog→y4,sizeOf56→O1
set_option maxRecDepth 100000
open Go.RowKit
set_option linter.unusedVariables false
set_option linter.unusedSectionVars false
set_option linter.unusedSimpArgs false
def cmp_isNaN_int (a:Int):Bool:=
 false
theorem sW (w D a c) (H:Own w D w []) (hr:cmp_isNaN_int a=c):
    Calls y4 169 #[vI a] w (dR fun v w'=>v= .bool c∧Own w D w' []):=by
 refine cb Tryz.func169 ?_
 refine sr (Ar rfl (Mz rfl (Mz rfl (fw (.bool false) (Gm (e:= !(decide (a=a))) yk i8) (An rfl (rt (rs ?_)))))))
 have b:=H.pk []
 obtain rfl:_=false:=hr.symm.trans rfl
 exact⟨rfl,b⟩
def cmp_Compare_int (c:Int) (d:Int):Int:=
 bnd (cmp_isNaN_int c) fun b=>bnd (cmp_isNaN_int d) fun a=>if b=true then if a=true then 0 else(-1) else if a=true then 1 else if c < d then(-1) else if c > d then 1 else 0
theorem rJ (w D i j C) (H:Own w D w []) (hr:cmp_Compare_int i j=C):
    Calls y4 154 #[vI i,vI j] w (dR fun v w'=>v=vI C∧Own w D w' []):=by
 refine cb Tryz.func154 ?_
 refine sr (Ar rfl (Mz rfl ?_))
 obtain⟨l,a⟩:∃ q,cmp_isNaN_int i=q:=⟨_,rfl⟩
 obtain⟨J,m,E,n,F⟩:=F3 H
 refine cl Tryz.call169 (sW _ _ i l m a) ?_
 rintro _ K ⟨rfl,o⟩
 have t:=n _ _ o
 refine Ar rfl (Mz rfl ?_)
 obtain⟨k,b⟩:∃ q,cmp_isNaN_int j=q:=⟨_,rfl⟩
 obtain⟨L,p,G,r,I⟩:=F3 t
 refine cl Tryz.call169 (sW _ _ j k p b) ?_
 rintro _ M ⟨rfl,s⟩
 have e:=r _ _ s
 refine An rfl (FW (sr (Mn rfl ?_)))
 rcases JS (l) with c | c
 refine jT c (FW (sr (Mn rfl ?_)))
 rcases JS (k) with f | f
 refine jT f (sr (An rfl (rt (tR (tR (rs ?_))))))
 have u:=e.pk []
 obtain rfl:_=0:=hr.symm.trans (et (ai a) (et (ai b) (et (ip c) (ip f))))
 exact⟨rfl,u⟩
 refine jF f (sk (sr (An rfl (rt (tR (rs ?_))))))
 have x:=e.pk []
 obtain rfl:_=(-1):=hr.symm.trans (et (ai a) (et (ai b) (et (ip c) (gB f))))
 exact⟨rfl,x⟩
 refine jF c (sk (FW (sr (Mn rfl ?_))))
 rcases JS (k) with d | d
 refine jT d (sr (An rfl (rt (tR (rs ?_)))))
 have y:=e.pk []
 obtain rfl:_=1:=hr.symm.trans (et (ai a) (et (ai b) (et (gB c) (ip d))))
 exact⟨rfl,y⟩
 refine jF d (sk (FW (sr (Mz rfl (Mz rfl (Kz (.bool (decide (i < j))) (nt ?_)))))))
 by_cases g:i < j
 refine jT (dT g) (sr (An rfl (rt (tR (rs ?_)))))
 have z:=e.pk []
 obtain rfl:_=(-1):=hr.symm.trans (et (ai a) (et (ai b) (et (gB c) (et (gB d) (ip g)))))
 exact⟨rfl,z⟩
 refine jF (dF g) (sk (FW (sr (Mz rfl (Mz rfl (Kz (.bool (decide (i > j))) (nt ?_)))))))
 by_cases h:i > j
 refine jT (dT h) (sr (An rfl (rt (tR (rs ?_)))))
 have A:=e.pk []
 obtain rfl:_=1:=hr.symm.trans (et (ai a) (et (ai b) (et (gB c) (et (gB d) (et (iN g) (ip h))))))
 exact⟨rfl,A⟩
 refine jF (dF h) (sk (sr (An rfl (rt (rs ?_)))))
 have B:=e.pk []
 obtain rfl:_=0:=hr.symm.trans (et (ai a) (et (ai b) (et (gB c) (et (gB d) (et (iN g) (iN h))))))
 exact⟨rfl,B⟩
def fG (l0:List fE) (f:Int):Nat→Nat→Nat→Nat
  | 0,a,b=>default
  | c+1,a,b=>if((a:Nat):Int) < ((b:Nat):Int) then bnd (C2 l0 ((a+b) / 2) default) fun d=>bnd (cmp_Compare_int d.aN f) fun e=>if e < 0 then fG l0 f c (((a+b) / 2)+1) b else fG l0 f c a ((a+b) / 2) else a
def gI (l0:List fE) (c:Int):Int × Bool:=
 bnd (fG l0 c ((l0.length - 0)+1) 0 l0.length) fun sLrL=>if((sLrL:Nat):Int) < ((l0.length:Nat):Int) then bnd (C2 l0 sLrL default) fun a=>bnd (cmp_Compare_int a.aN c) fun b=>(((sLrL:Nat):Int),decide (b=0)) else(((sLrL:Nat):Int),false)
theorem mO (w D y Z Y d0 l0 n K r1) (H:Own w D w []) (G:s8 aT.abs d0=l0) (l:Ro w D fun w'=>bA w' 4 y Z (q6 aT.cells d0)) (L:∀ x ∈ d0,Ro w D (fun w'=>bA w' 3 x.ah.A x.ah.ls.length (q6 ae.cells x.ah.ls))∧(x.ah.ls.length≤x.ah.c∧x.ah.ls.length≤9223372036854775807)∧(∀ J ∈ x.ah.ls,Ro w D (fun w'=>bA w' 2 J.aj.A J.aj.ls.length (q6 aI.cells J.aj.ls))∧(J.aj.ls.length≤J.aj.c∧J.aj.ls.length≤9223372036854775807))) (af:Z=l0.length) (aP:l0.length *48≤211106232532992) (hr:gI l0 n=(K,r1)):
    Calls y4 152 #[.slice y Z Y,vI n, .func (.func 153) #[] #[]] w (dR fun v w'=>v= .tuple #[vI K, .bool r1]∧Own w D w' []∧(0≤K∧K≤((l0.length:Nat):Int))∧(Bool.toNat r1=0∨K < ((l0.length:Nat):Int))):=by
 subst af
 have aB:=az G
 refine cb Tryz.func152 ?_
 refine sr (Az rfl (Ar rfl (Mz rfl (Kz (vJ l0.length) (Ar rfl (Mz rfl (Az rfl (An rfl (FW (bo ?_))))))))))
 have ag:=H.pk []
 obtain⟨ah,j⟩:=qK fun (a:Nat) (b:Nat) (o:Nat) w'=>Own w D w' []∧a≤b∧b≤l0.length∧b - a < o∧fG l0 n ((l0.length - 0)+1) 0 l0.length=fG l0 n o a b
 refine Wp.loop (fun i:Nat × Nat × Nat=> [(9,vJ i.1),(10,vJ i.2.1),(8,vJ l0.length),(7, .bool false),(6,vI 0),(0, .slice y l0.length Y),(1,vI n),(2, .func (.func 153) #[] #[])]) ah (fun i=>i.2.2) (0,l0.length,(l0.length - 0)+1) ⟨rfl,rfl,rfl,rfl,rfl,rfl,rfl,rfl,trivial⟩ (j.2 ⟨ag,e6,e6,e6,rfl⟩) ?_
 rintro ⟨a,b,o⟩ aQ M
 obtain⟨f,aC,aD,aF,p⟩:=j.1 M
 obtain⟨m,N⟩:∃ q,o=q+1:=⟨o - 1,e6⟩
 subst N
 refine FW (sr (Mz rfl (Mz rfl (Kz (.bool (decide (((a:Nat):Int) < ((b:Nat):Int)))) (nt ?_)))))
 by_cases r:((a:Nat):Int) < ((b:Nat):Int)
 refine jT (dT r) (sk (bo (sr (Mz rfl (Mz rfl (fw (vJ (a+b)) (FX (e:=C7.wrap (((a:Nat):Int)+((b:Nat):Int))) yk f1) (fw (vU (a+b)) (FX (e:=IntKind.u64.wrap ((a+b:Nat):Int)) yk (IntWalk.u64_in _ e6)) (fw (vU ((a+b) / 2)) (FX (e:=Int.fdiv ((a+b:Nat):Int) 2) yk (mW _ 1 _ f3)) (fw (vJ ((a+b) / 2)) (FX (e:=C7.wrap (((a+b) / 2:Nat):Int)) yk (JP _ e6)) (Ar rfl (Mz rfl (Mz rfl (Mz rfl ?_)))))))))))))
 obtain⟨g,s⟩:=dK (ls:=d0) (i:=(a+b) / 2) aT.len f3 (f.ro l) e9
 have C:=fo G s
 have aG:=(L _ (E0 s)).2.1
 have aH:s2 (s8 ae.abs g.ah.ls)=g.ah.ls.length:=s6 ..
 refine fw (.pointer (some ⟨ab y,ao y+((a+b) / 2) *4,none⟩)) (F4 (lN) rfl rfl ((f.ro l).addr (i:=(a+b) / 2) e6) e6) (fw (.agg (aT.cells g).toArray) (F7 rfl (Gf (cs:=(aT.cells g)) P3 O1 ((f.ro l).elem aT.len s f3))) (Mz rfl ?_))
 refine WL.do rfl (Gr Tryz.call153 rfl rfl ?_ (fun _ _ k=>k))
 refine cb Tryz.func153 ?_
 refine sr ?_
 refine dM (aT.cells g) 56 f ?_
 intro aj aR O
 refine Ar rfl (Kz (vP aj 0) (Lz (vI g.aN) O 0 C6 (Mz rfl ?_)))
 obtain⟨I,t⟩:∃ q,cmp_Compare_int g.aN n=q:=⟨_,rfl⟩
 obtain⟨aS,P,aJ,Q,aK⟩:=F3 O
 refine cl Tryz.call154 (rJ _ _ g.aN n I P t) ?_
 rintro _ aU ⟨rfl,R⟩
 have S:=Q _ _ R
 refine An rfl (rt (rs (Kz (.bool (decide (I < 0))) (nt ?_))))
 by_cases z:I < 0
 refine jT (dT z) (FV (Mz rfl (fw (vI ((((a+b) / 2)+1:Nat):Int)) (FX (e:=C7.wrap ((((a+b) / 2:Nat):Int)+1)) yk f1) (Az rfl (WL.nil (bN ?_))))))
 have ak:=S.pk []
 exact Gc (((a+b) / 2)+1,b,m) ⟨rfl,rfl,rfl,rfl,rfl,rfl,rfl,rfl,trivial⟩ (j.2 ⟨ak,e6,e6,e6,et (p) (et (ip r) (et (ai (bF C)) (et (ai t) (ip z))))⟩) (by show m < m+1; omega)
 refine jF (dF z) (FV (Mz rfl (Az rfl (WL.nil (bN ?_)))))
 have au:=S.pk []
 exact Gc (a,(a+b) / 2,m) ⟨rfl,rfl,rfl,rfl,rfl,rfl,rfl,rfl,trivial⟩ (j.2 ⟨au,e6,e6,e6,et (p) (et (ip r) (et (ai (bF C)) (et (ai t) (iN z))))⟩) (by show m < m+1; omega)
 refine jF (dF r) (Wp.exit (F6 ?_))
 have E:fG l0 n ((l0.length - 0)+1) 0 l0.length=a:=et (p) (iN r)
 refine F6 (Gi (FY (sr (Mz rfl (Mz rfl (Mz rfl (Kz (.bool (decide (((a:Nat):Int) < ((l0.length:Nat):Int)))) (Mz rfl ?_))))))))
 by_cases d:((a:Nat):Int) < ((l0.length:Nat):Int)
 refine gw (.func (.func 153) #[] #[]) (dT d) (F9 rfl) (gw (.slice y l0.length Y) (dT d) (F9 rfl) (gw (vJ a) (dT d) (F9 rfl) ?_))
 obtain⟨h,u⟩:=dK (ls:=d0) (i:=a) aT.len f3 (f.ro l) e9
 have T:=fo G u
 have aL:=(L _ (E0 u)).2.1
 have aM:s2 (s8 ae.abs h.ah.ls)=h.ah.ls.length:=s6 ..
 refine gw (.pointer (some ⟨ab y,ao y+a *4,none⟩)) (dT d) (F4 (lN) rfl rfl ((f.ro l).addr (i:=a) e6) e6) (gw (.agg (aT.cells h).toArray) (dT d) (F7 rfl (Gf (cs:=(aT.cells h)) P3 O1 ((f.ro l).elem aT.len u f3))) (gw (vI n) (dT d) (F9 rfl) ?_))
 refine He rfl rfl (dT d) rfl (Gr Tryz.call153 rfl rfl ?_ (fun _ _ k=>k))
 refine cb Tryz.func153 ?_
 refine sr ?_
 refine dM (aT.cells h) 56 f ?_
 intro av aV U
 refine Ar rfl (Kz (vP av 0) (Lz (vI h.aN) U 0 C6 (Mz rfl ?_)))
 obtain⟨B,F⟩:∃ q,cmp_Compare_int h.aN n=q:=⟨_,rfl⟩
 obtain⟨aW,V,aN,W,aO⟩:=F3 U
 refine cl Tryz.call154 (rJ _ _ h.aN n B V F) ?_
 rintro _ aX ⟨rfl,X⟩
 have ax:=W _ _ X
 refine An rfl (rt (rs (Gz (.bool (decide (B=0))) (dT d) (fw (.bool (decide (B=0))) (Gd rfl (dT d) rfl) (Az rfl (An rfl (rt (Fin.res (lY rfl rfl rfl) ?_))))))))
 have ay:=ax.pk []
 obtain⟨rfl,rfl⟩:=gm (hr.symm.trans (show _=(((a:Nat):Int),decide (B=0)) from et (ai E) (et (ip d) (et (ai (bF T)) (ai F)))))
 exact⟨rfl,ay,e6,i7⟩
 refine Sz (dF d) (Sz (dF d) (Sz (dF d) (Sz (dF d) (Sz (dF d) (Sz (dF d) (Sz (dF d) (Sz (dF d) (fw (.bool false) (FZ rfl (dF d) rfl) (Az rfl (An rfl (rt (Fin.res (lY rfl rfl rfl) ?_))))))))))))
 have aA:=f.pk []
 obtain⟨rfl,rfl⟩:=gm (hr.symm.trans (show _=(((a:Nat):Int),false) from et (ai E) (iN d)))
 exact⟨rfl,aA,e6,i7⟩
def jA (m:bE) (j:Int) (a:aB):bE × aB:=
 bnd (C2 a.au.ls (D2 j) default) fun b=>bnd (mH b.bO.ls b.aD.ls b.af.ls) fun i=>if i.2=0 then bnd (jQ (dD.mk b.aR b.aK b.aM b.cz (E4 b.bO.ls) (E4 b.aD.ls) (E4 b.bB.ls) (E4 b.af.ls) b.dO)) fun h=>bnd (bQ a.aa.ak.ls b.aR) fun f=>bnd (gI a.aa.aJ.ls b.aK) fun g=>if g.2=true then bnd (dh m b.aK b.aM 1 i.1 (aB.mk (di.mk a.aa.av a.aa.ay a.aa.aX a.aa.aL (E4 a.aa.ag.ls) (E4 (r5 (D2 f.1) a.aa.ak.ls++((bJ.mk b.aR b.aK a.aa.ay b.aM (E4 h))::r6 (D2 f.1) a.aa.ak.ls))) (E4 (u5 a.aa.aJ.ls (D2 g.1) (fE.mk b.aK a.aa.ay b.aM (E4 i.1))))) a.bP (E4 (r5 (D2 j) a.au.ls++r6 ((D2 j)+1) a.au.ls)) a.bH a.bf a.bi a.bn a.aZ a.dI a.dz a.dB a.dA a.dC)) fun d=>bnd (eG d.1 b.aR h true) fun k=>(k,aB.mk (di.mk d.2.aa.av d.2.aa.ay d.2.aa.aX d.2.aa.aL (E4 a.aa.ag.ls) (E4 (r5 (D2 f.1) a.aa.ak.ls++((bJ.mk b.aR b.aK a.aa.ay b.aM (E4 h))::r6 (D2 f.1) a.aa.ak.ls))) (E4 (u5 a.aa.aJ.ls (D2 g.1) (fE.mk b.aK a.aa.ay b.aM (E4 i.1))))) d.2.bP (E4 (r5 (D2 j) a.au.ls++r6 ((D2 j)+1) a.au.ls)) d.2.bH d.2.bf d.2.bi d.2.bn d.2.aZ d.2.dI d.2.dz d.2.dB d.2.dA d.2.dC) else bnd (dh m b.aK b.aM 1 i.1 (aB.mk (di.mk a.aa.av a.aa.ay a.aa.aX a.aa.aL (E4 a.aa.ag.ls) (E4 (r5 (D2 f.1) a.aa.ak.ls++((bJ.mk b.aR b.aK a.aa.ay b.aM (E4 h))::r6 (D2 f.1) a.aa.ak.ls))) (E4 (r5 (D2 g.1) a.aa.aJ.ls++((fE.mk b.aK a.aa.ay b.aM (E4 i.1))::r6 (D2 g.1) a.aa.aJ.ls)))) a.bP (E4 (r5 (D2 j) a.au.ls++r6 ((D2 j)+1) a.au.ls)) a.bH a.bf a.bi a.bn a.aZ a.dI a.dz a.dB a.dA a.dC)) fun e=>bnd (eG e.1 b.aR h true) fun l=>(l,aB.mk (di.mk e.2.aa.av e.2.aa.ay e.2.aa.aX e.2.aa.aL (E4 a.aa.ag.ls) (E4 (r5 (D2 f.1) a.aa.ak.ls++((bJ.mk b.aR b.aK a.aa.ay b.aM (E4 h))::r6 (D2 f.1) a.aa.ak.ls))) (E4 (r5 (D2 g.1) a.aa.aJ.ls++((fE.mk b.aK a.aa.ay b.aM (E4 i.1))::r6 (D2 g.1) a.aa.aJ.ls)))) e.2.bP (E4 (r5 (D2 j) a.au.ls++r6 ((D2 j)+1) a.au.ls)) e.2.bH e.2.bf e.2.bi e.2.bn e.2.aZ e.2.dI e.2.dz e.2.dB e.2.dA e.2.dC) else bnd (eH m j a) fun c=>(c.1,aB.mk (di.mk c.2.aa.av c.2.aa.ay c.2.aa.aX c.2.aa.aL (E4 a.aa.ag.ls) (E4 a.aa.ak.ls) (E4 a.aa.aJ.ls)) c.2.bP (E4 c.2.au.ls) c.2.bH c.2.bf c.2.bi c.2.bn c.2.aZ c.2.dI c.2.dz c.2.dB c.2.dA c.2.dC)
set_option maxHeartbeats 4000000 in
theorem uM (w D Z) (p0:bE) (bL bM bu O d) (a:aB) (aa af U V p B P l W aM r aN aO ag aQ aR ah aU aW aj aX aZ ak bf bg au) (r0:bE) (r1:aB) (H:Own w D w (blk Z [.pointer (some ⟨d,0,none⟩), .slice bL p0.bq.ls.length bM] 98::row bL p0.bq.ls.length bM (q6 bC.cells bu) 42 21::sepL (q6 bC.own bu)::mX d a aa a.aa.ag.ls.length af U V p B P l W aM r aN aO ag aQ aR ah aU aW aj aX aZ ak bf bg au [])) (bB:s8 bC.abs bu=p0.bq.ls) (G:s8 aA.abs p=a.aa.ak.ls) (s:s8 aT.abs l=a.aa.aJ.ls) (I:s8 bz.abs r=a.au.ls) (av:s8 ae.abs ag=a.bH.af.ls) (ay:s8 ae.abs ah=a.bf.af.ls) (aC:s8 ae.abs aj=a.bi.af.ls) (aD:s8 ae.abs ak=a.bn.af.ls) (aF:s8 ae.abs au=a.aZ.af.ls) (uQ:a.aa.ag.ls.length≤1000∧a.aa.ak.ls.length≤1000∧a.aa.aJ.ls.length≤1000∧a.au.ls.length≤1000∧p0.bq.ls.length≤100000) (uR:Ak a.au.ls) (uT:0≤O∧O < ((a.au.ls.length:Nat):Int)) (hr:jA p0 O a=(r0,r1)):
    Calls y4 94 #[vP Z 0,vI O] w (dR fun v w'=> ∃ cO cZ bT ig ik df il iq dm iw iy dn iA iC dw iD iE dx iF iG dz iH iI dA iJ iL dB,v= .tuple #[]∧Own w D w' (blk Z [vP d 0, .slice cO r0.bq.ls.length cZ] 98::row cO r0.bq.ls.length cZ (q6 bC.cells bT) 42 21::sepL (q6 bC.own bT)::mX d r1 aa a.aa.ag.ls.length af ig ik df il iq dm iw iy dn iA iC dw iD iE dx iF iG dz iH iI dA iJ iL dB [])∧(s8 bC.abs bT=r0.bq.ls)∧(s8 aA.abs df=r1.aa.ak.ls)∧(s8 aT.abs dm=r1.aa.aJ.ls)∧(s8 bz.abs dn=r1.au.ls)∧(s8 ae.abs dw=r1.bH.af.ls)∧(s8 ae.abs dx=r1.bf.af.ls)∧(s8 ae.abs dz=r1.bi.af.ls)∧(s8 ae.abs dA=r1.bn.af.ls)∧(s8 ae.abs dB=r1.aZ.af.ls)):=by
 have oH:=az bB
 have jH:=az G
 have jI:=az s
 have jJ:=az I
 have jK:=az av
 have jL:=az ay
 have jM:=az aC
 have jN:=az aD
 have jO:=az aF
 have oI:=H.rowC (i:=1) rfl
 have jR:=H.rowC (i:=4) rfl
 have jS:=H.rowC (i:=6) rfl
 have jU:=H.rowC (i:=8) rfl
 have jV:=H.rowC (i:=10) rfl
 have jW:=H.rowC (i:=12) rfl
 have jX:=H.rowC (i:=14) rfl
 have jY:=H.rowC (i:=16) rfl
 have jZ:=H.rowC (i:=18) rfl
 refine cb Tryz.func94 ?_
 refine sr (Mz rfl (Kz (vP Z 0) (Kz (vP Z 0) (Lz (vP d 0) H 0 O2 (Kz (vP d 0) (Kz (vP d 8) (Lz (.slice W a.au.ls.length aM) H 3 Tryz.isAgg79 (fw (vJ (D2 O)) (FX (e:=O) (F9 rfl) e6) ?_))))))))
 obtain⟨b,u⟩:=dK (ls:=r) (i:=D2 O) bz.len f3 (H.rds (i:=8) rfl) e9
 have bY:=fo I u
 have rU:b.bO.ls.length≤b.bO.c∧b.bO.ls.length≤9223372036854775807:=aY H (i:=9) rfl (φ:=fun _=>_) (ax (P2.2 ⟨b,E0 u,b1⟩) aV)
 have rV:b.aD.ls.length≤b.aD.c∧b.aD.ls.length≤9223372036854775807:=aY H (i:=9) rfl (φ:=fun _=>_) (ax (P2.2 ⟨b,E0 u, .tail _ b1⟩) aV)
 have rW:b.bB.ls.length≤b.bB.c∧b.bB.ls.length≤9223372036854775807:=aY H (i:=9) rfl (φ:=fun _=>_) (ax (P2.2 ⟨b,E0 u, .tail _ b2⟩) aV)
 have rX:b.af.ls.length≤b.af.c∧b.af.ls.length≤9223372036854775807:=aY H (i:=9) rfl (φ:=fun _=>_) (ax (P2.2 ⟨b,E0 u, .tail _ b3⟩) aV)
 have R:Tok (bz.abs b):=xP f8 bY
 have rY:1≤b.aK∧b.aK≤4:=R.Av
 have rZ:b.bB.ls.length=b.aD.ls.length:=by have q9:=R.yes; simp only [bz.abs,s6] at q9; exact q9
 have r9:b.af.ls.length=b.aD.ls.length:=by have q9:=R.res; simp only [bz.abs,s6] at q9; exact q9
 have si:b.aD.ls.length≤5:=by have q9:=R.len; simp only [bz.abs,s6] at q9; exact q9
 have sj:b.bO.ls.length≤24:=R.ops.1
 have su:tt (s8 bK.abs b.af.ls)≤100000000:=EL R
 refine fw (.pointer (some ⟨ab W,ao W+(D2 O) *9,none⟩)) (F4 (pu) rfl rfl ((H.rds (i:=8) rfl).addr (i:=D2 O) e6) e6) (fw (.agg (bz.cells b).toArray) (F7 rfl (Gf (cs:=(bz.cells b)) Tryz.isAgg107 Tryz.sizeOf107 ((H.rds (i:=8) rfl).elem bz.len u f3))) ?_)
 refine dM (qR 0 0 0 0 none 0 0 none 0 0 none 0 0 none 0 0 0) 107 H ?_
 intro X uU oJ
 refine dN (bz.cells b) 0 oJ Tryz.sizeOf107 ?_
 intro uV oK
 refine ns (Kz (vP X 4) ?_)
 have oM:=oK.pf [10]
 have aL:=Iz (f:=bz.own) (i:=D2 O) (row b.bO.A b.bO.ls.length b.bO.c (q6 bv.cells b.bO.ls) 72 6) (row b.aD.A b.aD.ls.length b.aD.c (q6 bD.cells b.aD.ls) 172 3) (row b.bB.A b.bB.ls.length b.bB.c (q6 eL b.bB.ls) 4 1) (row b.af.A b.af.ls.length b.af.c (q6 (GD (β:=ae)) b.af.ls) 40 1) (sepL (q6 bD.own b.aD.ls)) (sepL (q6 bK.own b.af.ls)) rfl u oM
 have sw:=aL.rowC (i:=0) rfl
 have sD:=aL.rowC (i:=1) rfl
 have sF:b.aD.ls.length=s2 (s8 bD.abs b.aD.ls):=az (rfl:s8 bD.abs b.aD.ls=s8 bD.abs b.aD.ls)
 have sG:=aL.rowC (i:=2) rfl
 have sH:=aL.rowC (i:=3) rfl
 have sI:b.af.ls.length=s2 (s8 bK.abs b.af.ls):=az (rfl:s8 bK.abs b.af.ls=s8 bK.abs b.af.ls)
 refine Lz (.slice b.bO.A b.bO.ls.length b.bO.c) aL 7 Tryz.isAgg39 (Kz (vP X 5) (Lz (.slice b.aD.A b.aD.ls.length b.aD.c) aL 7 Tryz.isAgg103 (Kz (vP X 7) (Lz (.slice b.af.A b.af.ls.length b.af.c) aL 7 Tryz.isAgg105 ?_))))
 have sJ:b.aD.ls.length=s2 (s8 bD.abs b.aD.ls):=f0
 have sK:b.af.ls.length=s2 (s8 bK.abs b.af.ls):=f0
 obtain⟨⟨n,dC⟩,bN⟩:∃ q:(List aS) × Int,mH b.bO.ls (s8 bD.abs b.aD.ls) (s8 bK.abs b.af.ls)=q:=⟨_,rfl⟩
 obtain⟨uW,j3,sM,j4,bi⟩:=F3 aL
 refine cl Tryz.call129 (xH _ _ b.bO.A b.bO.ls.length b.bO.c b.bO.ls b.aD.A b.aD.ls.length b.aD.c b.aD.ls (s8 bD.abs b.aD.ls) b.af.A b.af.ls.length b.af.c b.af.ls (s8 bK.abs b.af.ls) n dC j3 (bi _ 0 _ rfl aP) rfl e6 (rfl:s8 bD.abs b.aD.ls=s8 bD.abs b.aD.ls) (bi _ 1 _ rfl aP) (fun Y Q=>⟨bi _ 4 _ rfl (ax (P2.2 ⟨Y,Q,b1⟩) aP),aY (φ:=fun _=>_) aL (i:=4) rfl (ax (P2.2 ⟨Y,Q,b1⟩) aV),bi _ 4 _ rfl (ax (P2.2 ⟨Y,Q, .tail _ b1⟩) aP),aY (φ:=fun _=>_) aL (i:=4) rfl (ax (P2.2 ⟨Y,Q, .tail _ b1⟩) aV)⟩) f0 g4 (rfl:s8 bK.abs b.af.ls=s8 bK.abs b.af.ls) (bi _ 3 _ rfl aP) (fun Y Q=>⟨bi _ 5 _ rfl (ax (P2.2 ⟨Y,Q,b1⟩) aP),aY (φ:=fun _=>_) aL (i:=5) rfl (ax (P2.2 ⟨Y,Q,b1⟩) aV),(fun y1 k1=>⟨bi _ 5 _ rfl (ax (P2.2 ⟨Y,Q, .tail _ b1⟩) (ax (P2.2 ⟨y1,k1,b1⟩) aP)),aY (φ:=fun _=>_) aL (i:=5) rfl (ax (P2.2 ⟨Y,Q, .tail _ b1⟩) (ax (P2.2 ⟨y1,k1,b1⟩) aV))⟩)⟩) f0 g4 (by first | assumption | omega) bN) ?_
 rintro _ uX ⟨J,K,aG,rfl,j5,N⟩
 have iM:=j4 _ _ j5
 have sN:=az N
 have sO:=iM.rowC (i:=0) rfl
 have j6:mU n:=xQ bN R.ops.1 R.ops.2 R.Bv
 have sP:n.length≤1000:=j6.1
 refine Mz rfl (Kz (.slice J n.length K) (Kz (vI dC) (Az rfl (An rfl (FW (sr (Mz rfl (fw (.bool (decide (¬ (dC=0)))) (Gm (e:= !(decide (dC=0))) yk decide_not.symm) (nt ?_)))))))))
 by_cases dE:dC=0
 refine jF (dF (JR dE)) (sk (FW ?_))
 have oN:=iM.pf [10,13]
 refine pJ [17] (Gb Gj) oN ?_
 intro uY oO
 have oP:=oO.pf [4,5,6,7,8,9,10]
 have dG:=qQ (f:=bz.own) u oP
 have sQ:b.bO.ls.length≤b.bO.c∧b.bO.ls.length≤9223372036854775807:=aY dG (i:=0) rfl (φ:=fun _=>_) (ax (P2.2 ⟨b,E0 u,b1⟩) aV)
 have sS:b.aD.ls.length≤b.aD.c∧b.aD.ls.length≤9223372036854775807:=aY dG (i:=0) rfl (φ:=fun _=>_) (ax (P2.2 ⟨b,E0 u, .tail _ b1⟩) aV)
 have sU:b.bB.ls.length≤b.bB.c∧b.bB.ls.length≤9223372036854775807:=aY dG (i:=0) rfl (φ:=fun _=>_) (ax (P2.2 ⟨b,E0 u, .tail _ b2⟩) aV)
 have sV:b.af.ls.length≤b.af.c∧b.af.ls.length≤9223372036854775807:=aY dG (i:=0) rfl (φ:=fun _=>_) (ax (P2.2 ⟨b,E0 u, .tail _ b3⟩) aV)
 refine qv 0 rfl rfl (qp Z 0 1 rfl (qp Z 0 2 rfl (ql 3 rfl 0 O2 rfl rfl rfl (qv 4 rfl rfl (qp Z 0 5 rfl (qp Z 0 6 rfl (ql 7 rfl 0 O2 rfl rfl rfl (qp d 0 8 rfl (qp d 8 9 rfl (ql 10 rfl 1 Tryz.isAgg79 rfl rfl rfl (qv 11 rfl rfl (qv 12 rfl rfl (qt (v:=vI (O+1)) 13 rfl (fun _ _=>FX (e:=C7.wrap (O+1)) yk g2) ?_)))))))))))))
 have oQ:=dG.pf [12]
 obtain⟨uZ,kg,sW,ko,sZ⟩:=Gp oQ
 refine qd 14 rfl (Gg Tryz.call105 rfl (uS _ _ W a.au.ls.length aM r a.au.ls O (O+1) (D2 O) b kg e6 I e6 e6 e6 u) ?_)
 rintro _ u6 ⟨dH,dI,rfl,kr⟩
 have dJ:=ko _ _ kr
 have tq:s2 (r5 (D2 O) r++r6 ((D2 O)+1) r)=s2 (r5 (D2 O) a.au.ls++r6 ((D2 O)+1) a.au.ls):=by exact az (o6 I)
 have tu:s2 (r5 (D2 O) a.au.ls++r6 ((D2 O)+1) a.au.ls)+1=a.au.ls.length:=by simp only [p5,p3,p4]; omega
 have tC:b.aD.ls.length=s2 (s8 bD.abs b.aD.ls):=by exact(s6 _).symm
 have tF:b.af.ls.length=s2 (s8 bK.abs b.af.ls):=by exact(s6 _).symm
 have tH:=dJ.rowC (i:=2) rfl
 have tJ:=dJ.rowC (i:=3) rfl
 have tK:=dJ.rowC (i:=4) rfl
 have tL:=dJ.rowC (i:=5) rfl
 have ku:=dJ.pf [8,9]
 refine⟨.inr ⟨_,ku⟩, ?_⟩
 refine qp d 0 15 rfl (qp d 8 16 rfl ?_)
 have oU:=ku.pf [1]
 refine qe 17 rfl (Do.store (vs:= [.slice dH (s2 (r5 (D2 O) a.au.ls++r6 ((D2 O)+1) a.au.ls)) dI]) (o:=8) oU rfl rfl Tryz.sizeOf79 rfl rfl rfl rfl ?_)
 intro tN kv
 refine⟨.inl e7, ?_⟩
 refine qn (FY (FW ?_))
 have bG:b.aD.ls.length=s2 (s8 bD.abs b.aD.ls):=by first | omega | (simp only [H5]; done) | (simp only [H5,p5,s3,G0,p3,p4,H6]; omega)
 have kw:=kv.pf [5]
 have ky:=GI bG kw
 have kz:=ky.pf [12]
 have kC:=G7 5 bG kz
 have kD:=kC.pf [2,3,4,5,6,1,7,8,9,10,11,12]
 have bH:b.af.ls.length=s2 (s8 bK.abs b.af.ls):=by first | omega | (simp only [H5]; done) | (simp only [H5,p5,s3,G0,p3,p4,H6]; omega)
 have kE:=kD.pf [7]
 have kG:=GI bH kE
 have kH:=kG.pf [12]
 have kI:=G7 7 bH kH
 have kJ:=kI.pf [2,3,4,5,6,7,8,1,9,10,11,12]
 refine pJ [] (Gb Gj) kJ ?_
 intro tO kK
 refine qp X 0 0 rfl ?_
 have gy:=kK.pf [0,1,12]
 refine AY gy (ql 1 rfl 2 E1 rfl rfl rfl (qp X 1 2 rfl (ql 3 rfl 2 C6 rfl rfl rfl (qv 4 rfl rfl (qp Z 0 5 rfl (qp Z 0 6 rfl (ql 7 rfl 1 O2 rfl rfl rfl (qp d 0 8 rfl (qp d 0 9 rfl (qp d 1 10 rfl (ql 11 rfl 0 E1 rfl rfl rfl (qp X 2 12 rfl (ql 13 rfl 2 E1 rfl rfl rfl ?_)))))))))))))
 obtain⟨h,bI⟩:∃ q,jQ (dD.mk b.aR b.aK b.aM b.cz (E4 b.bO.ls) (E4 (s8 bD.abs b.aD.ls)) (E4 b.bB.ls) (E4 (s8 bK.abs b.af.ls)) b.dO)=q:=⟨_,rfl⟩
 have oV:h.length≤5:=by have q9:=xS bI; simp only [s6] at q9; omega
 refine Dx ⟨14,_,_,_,_,_,Option Addr × Nat,fun g9=> .slice g9.1 h.length g9.2,fun _=>True,fun g9=> [row g9.1 h.length g9.2 (q6 (eI .i64) h) 3 1]⟩ ⟨16,_,_,_,_,_,Nat,fun g9=>vP g9 0,fun _=>True,fun g9=> [blk g9 [.int .u64 0,vI 0, .int .u64 0, .int .u64 0, .slice none 0 0] 60]⟩ 15 3 gy ⟨⟨rfl,rfl,rfl, ?_⟩,⟨rfl,rfl,rfl, ?_⟩,trivial⟩ rfl ?_
 intro tQ L' kL
 refine(GH (cs:= [.int .u64 0,vI 0, .int .u64 0, .int .u64 0, .slice none 0 0]) (t:=60) kL rfl rfl (fun _=>by kernel_rfl) ?_)
 intro bO tT kM
 exact⟨bO,rfl,trivial,kM⟩
 intro tV L' kN
 have aH:=kN.pf [3]
 have oW:=aH.rowC (i:=6) rfl
 have oZ:=aH.rowC (i:=7) rfl
 have o5:=aH.rowC (i:=8) rfl
 have o7:=aH.rowC (i:=9) rfl
 obtain⟨tX,iO,o8,iP,S⟩:=Gq aH
 refine(Gg Tryz.call107 rfl (qN _ _ X (dD.mk b.aR b.aK b.aM b.cz (E4 b.bO.ls) (E4 (s8 bD.abs b.aD.ls)) (E4 b.bB.ls) (E4 (s8 bK.abs b.af.ls)) b.dO) b.bO.A b.bO.c b.aD.A b.aD.c b.aD.ls b.bB.A b.bB.c b.af.A b.af.c b.af.ls h iO (S _ 5 _ rfl aP) (show b.bO.ls.length≤b.bO.c∧b.bO.ls.length≤9223372036854775807 from by omega) (rfl:s8 bD.abs b.aD.ls=s8 bD.abs b.aD.ls) (S _ 6 _ rfl aP) (show s2 (s8 bD.abs b.aD.ls)≤b.aD.c∧s2 (s8 bD.abs b.aD.ls)≤9223372036854775807 from by omega) (fun Y Q=>⟨S _ 9 _ rfl (ax (P2.2 ⟨Y,Q,b1⟩) aP),aY (φ:=fun _=>_) aH (i:=10) rfl (ax (P2.2 ⟨Y,Q,b1⟩) aV),S _ 9 _ rfl (ax (P2.2 ⟨Y,Q, .tail _ b1⟩) aP),aY (φ:=fun _=>_) aH (i:=10) rfl (ax (P2.2 ⟨Y,Q, .tail _ b1⟩) aV)⟩) (S _ 7 _ rfl aP) (show b.bB.ls.length≤b.bB.c∧b.bB.ls.length≤9223372036854775807 from by omega) (rfl:s8 bK.abs b.af.ls=s8 bK.abs b.af.ls) (S _ 8 _ rfl aP) (show s2 (s8 bK.abs b.af.ls)≤b.af.c∧s2 (s8 bK.abs b.af.ls)≤9223372036854775807 from by omega) (fun Y Q=>⟨S _ 10 _ rfl (ax (P2.2 ⟨Y,Q,b1⟩) aP),aY (φ:=fun _=>_) aH (i:=11) rfl (ax (P2.2 ⟨Y,Q,b1⟩) aV),(fun y1 k1=>⟨S _ 10 _ rfl (ax (P2.2 ⟨Y,Q, .tail _ b1⟩) (ax (P2.2 ⟨y1,k1,b1⟩) aP)),aY (φ:=fun _=>_) aH (i:=11) rfl (ax (P2.2 ⟨Y,Q, .tail _ b1⟩) (ax (P2.2 ⟨y1,k1,b1⟩) aV))⟩)⟩) e8 bI) ?_)
 rintro _ tY ⟨L,M,rfl,iQ⟩
 have kP:=iP _ _ iQ
 have kQ:=kP.pf [0,2,3,4]
 exact⟨(L,M),rfl,trivial,kQ⟩
 rintro ⟨L,M⟩ _
 refine⟨.agg #[vU b.aR,vI b.aK,vU a.aa.ay,vU b.aM, .slice L h.length M],fun _=>yk, ?_⟩
 rintro bO _
 intro kR kS
 have gz:Own w D kR (blk bO [.int .u64 0,vI 0, .int .u64 0, .int .u64 0, .slice none 0 0] 60::row L h.length M (q6 (eI .i64) h) 3 1::_):=kS.flat.pf []
 have o9:=gz.rowC (i:=1) rfl
 have kT:=gz.pf [2,3,4]
 have kU:=kT.pf [3]
 refine qe 17 rfl (Do.store (vs:= [vU b.aR,vI b.aK,vU a.aa.ay,vU b.aM, .slice L h.length M]) (o:=0) kU rfl rfl Tryz.sizeOf60 rfl rfl rfl rfl ?_)
 intro tZ kV
 have gD:=kV.pf [1,2,3]
 refine⟨.inr ⟨_,gD⟩, ?_⟩
 refine qn (FY (FW ?_))
 have kW:=gD.pf [1,2,3,4,7,8,9,10,11,12,13,14,15,16]
 refine oL 14 [] (Gb Gj) kW ?_
 intro uf dL
 refine qv 0 rfl rfl (qp Z 0 1 rfl (qp Z 0 2 rfl (ql 3 rfl 0 O2 rfl rfl rfl (qp X 0 4 rfl (ql 5 rfl 1 E1 rfl rfl rfl ?_)))))
 refine GX.do 6 rfl e7 (Gg Tryz.call95 rfl ?_ (fun _ _ k=>k))
 refine cb Tryz.func95 ?_
 refine sr (Az rfl (Ar rfl (Mz rfl (Kz (vP d 0) (Kz (vP d 0) (Kz (vP d 5) (Lz (.slice U a.aa.ak.ls.length V) dL 14 Tryz.isAgg30 (Mz rfl ?_))))))))
 obtain⟨⟨j,bZ⟩,bU⟩:∃ q:Int × Bool,bQ a.aa.ak.ls b.aR=q:=⟨_,rfl⟩
 obtain⟨ug,iR,pq,iT,dO⟩:=F3 dL
 refine cl Tryz.call132 (gW _ _ U a.aa.ak.ls.length V p a.aa.ak.ls b.aR j bZ iR G (dO _ 17 _ rfl aP) (fun Y Q=>⟨dO _ 18 _ rfl (ax (P2.2 ⟨Y,Q,b1⟩) aP),aY (φ:=fun _=>_) dL (i:=18) rfl (ax (P2.2 ⟨Y,Q,b1⟩) aV)⟩) rfl e6 bU) ?_
 rintro _ uh ⟨rfl,iU,dP,dQ⟩
 have gF:=iT _ _ iU
 replace dP:0≤j∧j≤((a.aa.ak.ls.length:Nat):Int):=dP
 replace dQ:Bool.toNat bZ=0∨j < ((a.aa.ak.ls.length:Nat):Int):=dQ
 refine Kz (vI j) (Kz (.bool bZ) (Az rfl (An rfl (rt (Fin.res (lY rfl rfl rfl) ?_)))))
 refine⟨.inr ⟨_,gF⟩, ?_⟩
 refine qv 7 rfl rfl (qk (vI j) 8 rfl (qk (.bool bZ) 9 rfl (qa 10 rfl rfl (qa 11 rfl rfl (qn (FY (FW ?_)))))))
 have kX:=gF.pf [0,14]
 refine pJ [19] (Gb Gj) kX ?_
 intro ui kY
 refine qv 0 rfl rfl (qp Z 0 1 rfl (qp Z 0 2 rfl (ql 3 rfl 0 O2 rfl rfl rfl (qv 4 rfl rfl (qp Z 0 5 rfl (qp Z 0 6 rfl (ql 7 rfl 0 O2 rfl rfl rfl (qp d 0 8 rfl (qp d 0 9 rfl (qp d 5 10 rfl (ql 11 rfl 1 Tryz.isAgg30 rfl rfl rfl (qv 12 rfl rfl ?_))))))))))))
 have gG:=kY.pf [0,1,3]
 refine AY gG (qb 13 rfl 2 Tryz.isAgg60 Tryz.sizeOf60 rfl rfl rfl ?_)
 refine qd 14 rfl (Io (cs:= [vU b.aR,vI b.aK,vU a.aa.ay,vU b.aM, .slice L h.length M]) (t:=60) (sz:=5) (m:=1) gG rfl rfl (fun _=>by kernel_rfl) rfl ?_)
 intro gH uj dS
 replace dS:=Gs (y:=qx gH 1 (q6 aA.cells ([(aA.mk b.aR b.aK a.aa.ay b.aM (H3 L M h))])) 60 5) rfl dS
 have gJ:=dS.pf [1,2,3]
 refine⟨.inr ⟨_,gJ⟩, ?_⟩
 have kZ:=gJ.pf [18,3,19,5]
 obtain⟨uk,iV,pz,iW,pE⟩:=GJ kZ
 refine qd 15 rfl (Gg Tryz.call130 rfl (vD _ _ U a.aa.ak.ls.length V p a.aa.ak.ls j (D2 j) gH (aA.mk b.aR b.aK a.aa.ay b.aM (H3 L M h)) (bJ.mk b.aR b.aK a.aa.ay b.aM (E4 h)) iV e6 G rfl e6 e6 e6) ?_)
 rintro _ ul ⟨bP,bR,rfl,iX⟩
 have lc:=iW _ _ iX
 have pF:s2 (r5 (D2 j) p++((aA.mk b.aR b.aK a.aa.ay b.aM (H3 L M h))::r6 (D2 j) p))=s2 (r5 (D2 j) a.aa.ak.ls++((bJ.mk b.aR b.aK a.aa.ay b.aM (E4 h))::r6 (D2 j) a.aa.ak.ls)):=by exact az (qV (z:=(bJ.mk b.aR b.aK a.aa.ay b.aM (E4 h))) G rfl)
 have pG:s2 (r5 (D2 j) a.aa.ak.ls++((bJ.mk b.aR b.aK a.aa.ay b.aM (E4 h))::r6 (D2 j) a.aa.ak.ls))=a.aa.ak.ls.length+1:=by simp only [p5,p3,s3,p4]; omega
 have gK:=lc.pf [2,3,4]
 refine⟨.inr ⟨_,gK⟩, ?_⟩
 refine qp d 0 16 rfl (qp d 0 17 rfl (qp d 5 18 rfl ?_))
 have lg:=gK.pf [1]
 refine qe 19 rfl (Do.store (vs:= [.slice bP (s2 (r5 (D2 j) a.aa.ak.ls++((bJ.mk b.aR b.aK a.aa.ay b.aM (E4 h))::r6 (D2 j) a.aa.ak.ls))) bR]) (o:=5) lg rfl rfl Tryz.sizeOf30 rfl rfl rfl rfl ?_)
 intro um lh
 refine⟨.inl e7, ?_⟩
 refine qn (FY (FW ?_))
 refine pJ [15] (Gb Gj) lh ?_
 intro uo ll
 refine qv 0 rfl rfl (qp X 1 1 rfl ?_)
 have gL:=ll.pf [0,1,5]
 refine AY gL (ql 2 rfl 2 C6 rfl rfl rfl (qv 3 rfl rfl (qp Z 0 4 rfl (qp Z 0 5 rfl (ql 6 rfl 1 O2 rfl rfl rfl (qp d 0 7 rfl (qp d 0 8 rfl (qp d 1 9 rfl (ql 10 rfl 0 E1 rfl rfl rfl (qp X 2 11 rfl (ql 12 rfl 2 E1 rfl rfl rfl (qv 13 rfl rfl (qk (.agg #[vI b.aK,vU a.aa.ay,vU b.aM, .slice J n.length K]) 14 rfl ?_)))))))))))))
 refine GX.do 15 rfl e7 (Gg Tryz.call131 rfl ?_ (fun _ _ k=>k))
 refine cb Tryz.func131 ?_
 refine sr ?_
 refine dM [vI b.aK,vU a.aa.ay,vU b.aM, .slice J n.length K] 56 gL ?_
 intro lm uq lq
 refine nt (FW ?_)
 refine oL 31 [] (Gb Gj) lq ?_
 intro ut dU
 refine qv 0 rfl rfl (qp Z 0 1 rfl (qp Z 0 2 rfl (ql 3 rfl 2 O2 rfl rfl rfl (qp d 0 4 rfl (qp d 0 5 rfl (qp d 6 6 rfl (ql 7 rfl 1 H7 rfl rfl rfl (qp lm 0 8 rfl (ql 9 rfl 0 C6 rfl rfl rfl ?_)))))))))
 obtain⟨⟨g,bA⟩,bV⟩:∃ q:Int × Bool,gI a.aa.aJ.ls b.aK=q:=⟨_,rfl⟩
 obtain⟨uu,iY,pI,iZ,bW⟩:=F3 dU
 refine qd 10 rfl (Gg Tryz.call152 rfl (mO _ _ B a.aa.aJ.ls.length P l a.aa.aJ.ls b.aK g bA iY s (bW _ 19 _ rfl aP) (fun Y Q=>⟨bW _ 20 _ rfl (ax (P2.2 ⟨Y,Q,b1⟩) aP),aY (φ:=fun _=>_) dU (i:=20) rfl (ax (P2.2 ⟨Y,Q,b1⟩) aV),(fun y1 k1=>⟨bW _ 20 _ rfl (ax (P2.2 ⟨Y,Q, .tail _ b1⟩) (ax (P2.2 ⟨y1,k1,b1⟩) aP)),aY (φ:=fun _=>_) dU (i:=20) rfl (ax (P2.2 ⟨Y,Q, .tail _ b1⟩) (ax (P2.2 ⟨y1,k1,b1⟩) aV))⟩)⟩) rfl e6 bV) ?_)
 rintro _ uw ⟨rfl,ja,dV,dW⟩
 have dX:=iZ _ _ ja
 replace dV:0≤g∧g≤((a.aa.aJ.ls.length:Nat):Int):=dV
 replace dW:Bool.toNat bA=0∨g < ((a.aa.aJ.ls.length:Nat):Int):=dW
 refine⟨.inr ⟨_,dX⟩, ?_⟩
 refine qv 11 rfl rfl (qk (vI g) 12 rfl (qk (.bool bA) 13 rfl (qa 14 rfl rfl (qa 15 rfl rfl (qn (FY (FW (sr (Mn rfl ?_)))))))))
 rcases JS (bA) with bn | bn
 have h217t:Bool.toNat bA=1:=by rw [bn]; rfl
 refine jT bn (FW ?_)
 have lu:=dX.pf [1,2]
 refine pJ [11] (Gb (Gb Gj)) lu ?_
 intro uy gM
 refine qv 0 rfl rfl (qp Z 0 1 rfl (qp Z 0 2 rfl (ql 3 rfl 1 O2 rfl rfl rfl (qp d 0 4 rfl (qp d 0 5 rfl (qp d 6 6 rfl (ql 7 rfl 0 H7 rfl rfl rfl (qt (v:=vJ (D2 g)) 8 rfl (fun _ _=>FX (e:=g) (F9 rfl) e6) (AY gM (qb 9 rfl 2 P3 O1 rfl rfl rfl ?_))))))))))
 have gN:=gM.pf [0,1,2,19]
 refine FR gN ?_
 obtain⟨bq,T⟩:=jo (ls:=l) (i:=D2 g) e9
 have pK:=fo s T
 refine qt (v:= .pointer (some ⟨ab B,ao B+(D2 g) *4,none⟩)) 10 rfl (fun _ ⟨_,H9⟩=>F4 (lN) rfl rfl ((H9.rds (i:=3) rfl).addr (i:=D2 g) e6) e6) ?_
 have lv:=gN.pf [20]
 have lw:=Iy (f:=aT.own) (i:=D2 g) (row bq.ah.A bq.ah.ls.length bq.ah.c (q6 ae.cells bq.ah.ls) 149 3) (sepL (q6 ae.own bq.ah.ls)) rfl T lv
 have lC:=lw.px [] [0,1] []
 have lD:=lC.pf [15,16]
 have lF:=GI (az N).symm lD
 have lG:=GL (f:=aT.own) (y:=(aT.mk b.aK a.aa.ay b.aM (H3 J K aG))) T lF
 have lH:=lG.pf [4]
 refine qe 11 rfl (Do.storeRow (vs:= [vI b.aK,vU a.aa.ay,vU b.aM, .slice J n.length K]) (o:=(D2 g) *4+0) (q:=ao B+(D2 g) *4) lH rfl e6 rfl O1 rfl rfl (JO rfl) (iK aT.len T (JO rfl)) (jE (x:=bq) (f:=0) (vs:= [vI b.aK,vU a.aa.ay,vU b.aM, .slice J n.length K]) (y:=(aT.mk b.aK a.aa.ay b.aM (H3 J K aG))) aT.len (show put (aT.cells bq) 0 ([vI b.aK,vU a.aa.ay,vU b.aM, .slice J n.length K]:List Value)=aT.cells (aT.mk b.aK a.aa.ay b.aM (H3 J K aG)) from congrArg (fun z9=>([vI b.aK,vU a.aa.ay,vU b.aM, .slice J z9 K]:List Value)) (az N).symm) (JO rfl) T) ?_)
 intro uz lI
 have pM:s2 (u5 l (D2 g) (aT.mk b.aK a.aa.ay b.aM (H3 J K aG)))=s2 (u5 a.aa.aJ.ls (D2 g) (fE.mk b.aK a.aa.ay b.aM (E4 n))):=az (iB s (congrArg (fun z9=>fE.mk b.aK a.aa.ay b.aM (E4 z9)) N))
 have pO:s2 (u5 a.aa.aJ.ls (D2 g) (fE.mk b.aK a.aa.ay b.aM (E4 n)))=a.aa.aJ.ls.length:=H5
 refine⟨.inl e7, ?_⟩
 refine qn (FY (rt (tR (Fin.res (res0 rfl) ?_))))
 refine⟨.inl e7, ?_⟩
 refine qn (FY (FW ?_))
 have dY:=lI.px [] [4] []
 refine FV (Mz rfl (Kz (vP X 1) (Lz (vI b.aK) dY 4 C6 (Kz (vP X 2) (Lz (vU b.aM) dY 4 E1 (Mz rfl ?_))))))
 have bX:a.aa.aJ.ls.length=s2 (u5 a.aa.aJ.ls (D2 g) (fE.mk b.aK a.aa.ay b.aM (E4 n))):=by first | omega | (simp only [H5]; done) | (simp only [H5,p5,s3,G0,p3,p4,H6]; omega)
 have lJ:=GI bX dY
 have lK:=lJ.pf [2]
 have lL:=G7 6 bX lK
 have lM:=lL.pf [1,2]
 have gP:=lM.pf [3,14,15,2,18,19,20,21,22,23,24,25,26,27]
 obtain⟨⟨cu,E⟩,dZ⟩:∃ q:bE × aB,dh p0 b.aK b.aM 1 n (aB.mk (di.mk a.aa.av a.aa.ay a.aa.aX a.aa.aL (E4 a.aa.ag.ls) (E4 (r5 (D2 j) a.aa.ak.ls++((bJ.mk b.aR b.aK a.aa.ay b.aM (E4 h))::r6 (D2 j) a.aa.ak.ls))) (E4 (u5 a.aa.aJ.ls (D2 g) (fE.mk b.aK a.aa.ay b.aM (E4 n))))) a.bP (E4 (r5 (D2 O) a.au.ls++r6 ((D2 O)+1) a.au.ls)) a.bH a.bf a.bi a.bn a.aZ a.dI a.dz a.dB a.dA a.dC)=q:=⟨_,rfl⟩
 obtain⟨uA,jb,pQ,jc,d9⟩:=GR gP
 refine cl Tryz.call106 (jP _ _ Z p0 bL bM bu b.aK b.aM 1 J n.length K aG n d (aB.mk (di.mk a.aa.av a.aa.ay a.aa.aX a.aa.aL (E4 a.aa.ag.ls) (E4 (r5 (D2 j) a.aa.ak.ls++((bJ.mk b.aR b.aK a.aa.ay b.aM (E4 h))::r6 (D2 j) a.aa.ak.ls))) (E4 (u5 a.aa.aJ.ls (D2 g) (fE.mk b.aK a.aa.ay b.aM (E4 n))))) a.bP (E4 (r5 (D2 O) a.au.ls++r6 ((D2 O)+1) a.au.ls)) a.bH a.bf a.bi a.bn a.aZ a.dI a.dz a.dB a.dA a.dC) aa af bP bR B P dH dI aN aO ag aQ aR ah aU aW aj aX aZ ak bf bg au cu E jb bB N (d9 _ 1 _ rfl (ax (P2.2 ⟨_,(wR (aT.mk b.aK a.aa.ay b.aM (H3 J K aG)) T),b1⟩) (fun w9 Q a9 b9=>pg (az N) (aP w9 Q a9 b9)))) (fun Y Q=>⟨d9 _ 1 _ rfl (ax (P2.2 ⟨_,(wR (aT.mk b.aK a.aa.ay b.aM (H3 J K aG)) T), .tail _ b1⟩) (ax (P2.2 ⟨Y,Q,b1⟩) aP)),aY (φ:=fun _=>_) gP (i:=15) rfl (ax (P2.2 ⟨_,(wR (aT.mk b.aK a.aa.ay b.aM (H3 J K aG)) T), .tail _ b1⟩) (ax (P2.2 ⟨Y,Q,b1⟩) aV))⟩) rfl e6 g6 av ay aC aD aF e8 g3 g3 i2 dZ) ?_
 rintro _ uB ⟨lQ,lS,lT,lU,lV,lW,lX,lZ,l5,l6,l7,l8,l9,ma,mf,mg,mh,mi,rfl,jd,ed,ek,eu,eB,eD,eF,eO⟩
 have aI:=jc _ _ jd
 have pW:=az ed
 have pX:=az ek
 have pY:=az eu
 have p8:=az eB
 have p9:=az eD
 have qc:=az eF
 have qg:=aI.rowC (i:=1) rfl
 have qh:=aI.rowC (i:=4) rfl
 have qi:=aI.rowC (i:=6) rfl
 have qj:=aI.rowC (i:=8) rfl
 have qm:=aI.rowC (i:=10) rfl
 have qo:=aI.rowC (i:=12) rfl
 replace eO:cu.bq.ls.length=p0.bq.ls.length+1:=eO
 refine nt (FV (Mz rfl (Kz (vP X 0) (Lz (vU b.aR) aI 16 E1 (Kz (vP bO 4) (Lz (.slice L h.length M) aI 17 Tryz.isAgg58 ?_))))))
 obtain⟨gQ,eP⟩:∃ q,eG cu b.aR h true=q:=⟨_,rfl⟩
 obtain⟨uC,je,qw,jf,jg⟩:=Gx aI
 refine cl Tryz.call27 (kF _ _ Z cu lQ lS lT d b.aR L h.length M h true gQ je ed (jg _ 16 _ rfl (ax (P2.2 ⟨_,v5 _ b1,b1⟩) aP)) rfl e6 g7 eP) ?_
 rintro _ uD ⟨mo,mq,mr,rfl,jh,eQ⟩
 have gT:=jf _ _ jh
 have qy:=az eQ
 have qz:=gT.rowC (i:=1) rfl
 refine WL.nil (Gh (res0 rfl) ?_)
 have mE:=gT.pk [0,1,2,3,18,19,14,15,26,27,4,5,6,7,8,9,10,11,12,13]
 obtain⟨rfl,rfl⟩:=gm (hr.symm.trans (show _=(gQ,aB.mk (di.mk E.aa.av E.aa.ay E.aa.aX E.aa.aL (E4 a.aa.ag.ls) (E4 (r5 (D2 j) a.aa.ak.ls++((bJ.mk b.aR b.aK a.aa.ay b.aM (E4 h))::r6 (D2 j) a.aa.ak.ls))) (E4 (u5 a.aa.aJ.ls (D2 g) (fE.mk b.aK a.aa.ay b.aM (E4 n))))) E.bP (E4 (r5 (D2 O) a.au.ls++r6 ((D2 O)+1) a.au.ls)) E.bH E.bf E.bi E.bn E.aZ E.dI E.dz E.dB E.dA E.dC) from et (ai (bF bY)) (et (ai bN) (et (ip dE) (et (ai bI) (et (ai bU) (et (ai bV) (et (ip bn) (et (ai dZ) (ai eP))))))))))
 exact⟨mo,mq,mr,bP,bR,(r5 (D2 j) p++((aA.mk b.aR b.aK a.aa.ay b.aM (H3 L M h))::r6 (D2 j) p)),B,P,(u5 l (D2 g) (aT.mk b.aK a.aa.ay b.aM (H3 J K aG))),dH,dI,(r5 (D2 O) r++r6 ((D2 O)+1) r),lU,lV,lW,lX,lZ,l5,l6,l7,l8,l9,ma,mf,mg,mh,mi,(by(first | rw [← bG] | skip); (first | rw [← bH] | skip); (first | rw [← bX] | skip); first | done | rfl),mE,eQ,(qV (z:=(bJ.mk b.aR b.aK a.aa.ay b.aM (E4 h))) G rfl),(iB s (congrArg (fun z9=>fE.mk b.aK a.aa.ay b.aM (E4 z9)) N)),(o6 I),ek,eu,eB,eD,eF⟩
 have h217t:Bool.toNat bA=0:=by rw [bn]; rfl
 refine jF bn (sk ?_)
 have mF:=dX.pf [1,2]
 refine pJ [19] Gj mF ?_
 intro uE gU
 refine qv 0 rfl rfl (qp Z 0 1 rfl (qp Z 0 2 rfl (ql 3 rfl 1 O2 rfl rfl rfl (qv 4 rfl rfl (qp Z 0 5 rfl (qp Z 0 6 rfl (ql 7 rfl 1 O2 rfl rfl rfl (qp d 0 8 rfl (qp d 0 9 rfl (qp d 6 10 rfl (ql 11 rfl 0 H7 rfl rfl rfl (qv 12 rfl rfl (AY gU (qb 13 rfl 2 P3 O1 rfl rfl rfl ?_))))))))))))))
 refine qd 14 rfl (Io (cs:= [vI b.aK,vU a.aa.ay,vU b.aM, .slice J n.length K]) (t:=56) (sz:=4) (m:=1) gU rfl rfl (fun _=>by kernel_rfl) rfl ?_)
 intro eT uF eU
 replace eU:=Gs (y:=qx eT 1 (q6 aT.cells ([(aT.mk b.aK a.aa.ay b.aM (H3 J K aG))])) 56 4) (congrArg (fun z9=>qx eT 1 [vI b.aK,vU a.aa.ay,vU b.aM, .slice J z9 K] 56 4) (az N).symm) eU
 have gV:=eU.pf [1,2,3]
 refine⟨.inr ⟨_,gV⟩, ?_⟩
 have mG:=gV.pf [14]
 have mJ:=GI (az N).symm mG
 have mK:=mJ.pf [20,4,21,0,15]
 obtain⟨uG,ji,qA,jk,qB⟩:=I7 mK
 refine qd 15 rfl (Gg Tryz.call155 rfl (yl _ _ B a.aa.aJ.ls.length P l a.aa.aJ.ls g (D2 g) eT (aT.mk b.aK a.aa.ay b.aM (H3 J K aG)) (fE.mk b.aK a.aa.ay b.aM (E4 n)) ji e6 s (P4.inj (congrArg (fun z9=> [fE.mk b.aK a.aa.ay b.aM (E4 z9)]) N)).1 e6 e6 e6) ?_)
 rintro _ uH ⟨eX,eY,rfl,jl⟩
 have mM:=jk _ _ jl
 have qC:s2 (r5 (D2 g) l++((aT.mk b.aK a.aa.ay b.aM (H3 J K aG))::r6 (D2 g) l))=s2 (r5 (D2 g) a.aa.aJ.ls++((fE.mk b.aK a.aa.ay b.aM (E4 n))::r6 (D2 g) a.aa.aJ.ls)):=by exact az (qV (z:=(fE.mk b.aK a.aa.ay b.aM (E4 n))) s (P4.inj (congrArg (fun z9=> [fE.mk b.aK a.aa.ay b.aM (E4 z9)]) N)).1)
 have qD:s2 (r5 (D2 g) a.aa.aJ.ls++((fE.mk b.aK a.aa.ay b.aM (E4 n))::r6 (D2 g) a.aa.aJ.ls))=a.aa.aJ.ls.length+1:=by simp only [p5,p3,s3,p4]; omega
 have gX:=mM.pf [2,3,4]
 refine⟨.inr ⟨_,gX⟩, ?_⟩
 refine qp d 0 16 rfl (qp d 0 17 rfl (qp d 6 18 rfl ?_))
 refine qe 19 rfl (Do.store (vs:= [.slice eX (s2 (r5 (D2 g) a.aa.aJ.ls++((fE.mk b.aK a.aa.ay b.aM (E4 n))::r6 (D2 g) a.aa.aJ.ls))) eY]) (o:=6) gX rfl rfl Tryz.sizeOf31 rfl rfl rfl rfl ?_)
 intro uI mP
 refine⟨.inl e7, ?_⟩
 refine qn (Gh (res0 rfl) ?_)
 refine⟨.inl e7, ?_⟩
 refine qn (FY (FW ?_))
 have eZ:=mP.px [] [2] []
 refine FV (Mz rfl (Kz (vP X 1) (Lz (vI b.aK) eZ 4 C6 (Kz (vP X 2) (Lz (vU b.aM) eZ 4 E1 (Mz rfl ?_))))))
 have gY:=eZ.pf [1,14,15,0,18,19,20,21,22,23,24,25,26,27]
 obtain⟨⟨cz,F⟩,fe⟩:∃ q:bE × aB,dh p0 b.aK b.aM 1 n (aB.mk (di.mk a.aa.av a.aa.ay a.aa.aX a.aa.aL (E4 a.aa.ag.ls) (E4 (r5 (D2 j) a.aa.ak.ls++((bJ.mk b.aR b.aK a.aa.ay b.aM (E4 h))::r6 (D2 j) a.aa.ak.ls))) (E4 (r5 (D2 g) a.aa.aJ.ls++((fE.mk b.aK a.aa.ay b.aM (E4 n))::r6 (D2 g) a.aa.aJ.ls)))) a.bP (E4 (r5 (D2 O) a.au.ls++r6 ((D2 O)+1) a.au.ls)) a.bH a.bf a.bi a.bn a.aZ a.dI a.dz a.dB a.dA a.dC)=q:=⟨_,rfl⟩
 obtain⟨uJ,jm,qE,jq,fq⟩:=GR gY
 refine cl Tryz.call106 (jP _ _ Z p0 bL bM bu b.aK b.aM 1 J n.length K aG n d (aB.mk (di.mk a.aa.av a.aa.ay a.aa.aX a.aa.aL (E4 a.aa.ag.ls) (E4 (r5 (D2 j) a.aa.ak.ls++((bJ.mk b.aR b.aK a.aa.ay b.aM (E4 h))::r6 (D2 j) a.aa.ak.ls))) (E4 (r5 (D2 g) a.aa.aJ.ls++((fE.mk b.aK a.aa.ay b.aM (E4 n))::r6 (D2 g) a.aa.aJ.ls)))) a.bP (E4 (r5 (D2 O) a.au.ls++r6 ((D2 O)+1) a.au.ls)) a.bH a.bf a.bi a.bn a.aZ a.dI a.dz a.dB a.dA a.dC) aa af bP bR eX eY dH dI aN aO ag aQ aR ah aU aW aj aX aZ ak bf bg au cz F jm bB N (fq _ 1 _ rfl (ax (P2.2 ⟨_,v5 _ b1,b1⟩) (fun w9 Q a9 b9=>pg (az N) (aP w9 Q a9 b9)))) (fun Y Q=>⟨fq _ 1 _ rfl (ax (P2.2 ⟨_,v5 _ b1, .tail _ b1⟩) (ax (P2.2 ⟨Y,Q,b1⟩) aP)),aY (φ:=fun _=>_) gY (i:=15) rfl (ax (P2.2 ⟨_,v5 _ b1, .tail _ b1⟩) (ax (P2.2 ⟨Y,Q,b1⟩) aV))⟩) rfl e6 g6 av ay aC aD aF e8 g3 g3 i2 fe) ?_
 rintro _ uK ⟨mQ,mV,mW,mY,mZ,ng,ni,nk,nu,ny,nz,nA,nC,nD,nE,nG,nH,nI,rfl,jr,fu,fA,fB,fC,fD,fF,fG⟩
 have aJ:=jq _ _ jr
 have qF:=az fu
 have qG:=az fA
 have qH:=az fB
 have qI:=az fC
 have qJ:=az fD
 have qK:=az fF
 have qL:=aJ.rowC (i:=1) rfl
 have qM:=aJ.rowC (i:=4) rfl
 have qO:=aJ.rowC (i:=6) rfl
 have qP:=aJ.rowC (i:=8) rfl
 have qU:=aJ.rowC (i:=10) rfl
 have qW:=aJ.rowC (i:=12) rfl
 replace fG:cz.bq.ls.length=p0.bq.ls.length+1:=fG
 refine nt (FV (Mz rfl (Kz (vP X 0) (Lz (vU b.aR) aJ 16 E1 (Kz (vP bO 4) (Lz (.slice L h.length M) aJ 17 Tryz.isAgg58 ?_))))))
 obtain⟨gZ,fH⟩:∃ q,eG cz b.aR h true=q:=⟨_,rfl⟩
 obtain⟨uL,jv,qX,jw,jy⟩:=Gx aJ
 refine cl Tryz.call27 (kF _ _ Z cz mQ mV mW d b.aR L h.length M h true gZ jv fu (jy _ 16 _ rfl (ax (P2.2 ⟨_,v5 _ b1,b1⟩) aP)) rfl e6 g7 fH) ?_
 rintro _ uN ⟨nJ,nK,nL,rfl,jB,fI⟩
 have ib:=jw _ _ jB
 have qY:=az fI
 have qZ:=ib.rowC (i:=1) rfl
 refine WL.nil (Gh (res0 rfl) ?_)
 have nM:=ib.pk [0,1,2,3,18,19,14,15,26,27,4,5,6,7,8,9,10,11,12,13]
 obtain⟨rfl,rfl⟩:=gm (hr.symm.trans (show _=(gZ,aB.mk (di.mk F.aa.av F.aa.ay F.aa.aX F.aa.aL (E4 a.aa.ag.ls) (E4 (r5 (D2 j) a.aa.ak.ls++((bJ.mk b.aR b.aK a.aa.ay b.aM (E4 h))::r6 (D2 j) a.aa.ak.ls))) (E4 (r5 (D2 g) a.aa.aJ.ls++((fE.mk b.aK a.aa.ay b.aM (E4 n))::r6 (D2 g) a.aa.aJ.ls)))) F.bP (E4 (r5 (D2 O) a.au.ls++r6 ((D2 O)+1) a.au.ls)) F.bH F.bf F.bi F.bn F.aZ F.dI F.dz F.dB F.dA F.dC) from et (ai (bF bY)) (et (ai bN) (et (ip dE) (et (ai bI) (et (ai bU) (et (ai bV) (et (gB bn) (et (ai fe) (ai fH))))))))))
 exact⟨nJ,nK,nL,bP,bR,(r5 (D2 j) p++((aA.mk b.aR b.aK a.aa.ay b.aM (H3 L M h))::r6 (D2 j) p)),eX,eY,(r5 (D2 g) l++((aT.mk b.aK a.aa.ay b.aM (H3 J K aG))::r6 (D2 g) l)),dH,dI,(r5 (D2 O) r++r6 ((D2 O)+1) r),mY,mZ,ng,ni,nk,nu,ny,nz,nA,nC,nD,nE,nG,nH,nI,(by(first | rw [← bG] | skip); (first | rw [← bH] | skip); first | done | rfl),nM,fI,(qV (z:=(bJ.mk b.aR b.aK a.aa.ay b.aM (E4 h))) G rfl),(qV (z:=(fE.mk b.aK a.aa.ay b.aM (E4 n))) s (P4.inj (congrArg (fun z9=> [fE.mk b.aK a.aa.ay b.aM (E4 z9)]) N)).1),(o6 I),fA,fB,fC,fD,fF⟩
 refine jT (dT dE) (sr ?_)
 have nN:=iM.pf [2,3,4,5,6,7,8]
 have bS:=qQ (f:=bz.own) u nN
 have q8:b.bO.ls.length≤b.bO.c∧b.bO.ls.length≤9223372036854775807:=aY bS (i:=0) rfl (φ:=fun _=>_) (ax (P2.2 ⟨b,E0 u,b1⟩) aV)
 have rf:b.aD.ls.length≤b.aD.c∧b.aD.ls.length≤9223372036854775807:=aY bS (i:=0) rfl (φ:=fun _=>_) (ax (P2.2 ⟨b,E0 u, .tail _ b1⟩) aV)
 have rq:b.bB.ls.length≤b.bB.c∧b.bB.ls.length≤9223372036854775807:=aY bS (i:=0) rfl (φ:=fun _=>_) (ax (P2.2 ⟨b,E0 u, .tail _ b2⟩) aV)
 have ru:b.af.ls.length≤b.af.c∧b.af.ls.length≤9223372036854775807:=aY bS (i:=0) rfl (φ:=fun _=>_) (ax (P2.2 ⟨b,E0 u, .tail _ b3⟩) aV)
 refine Mz rfl (Mz rfl ?_)
 have nO:=bS.px [4,5,6,7,12] [] [1,2,3,8,9,10,11]
 obtain⟨⟨ic,C⟩,fJ⟩:∃ q:bE × aB,eH p0 O a=q:=⟨_,rfl⟩
 obtain⟨uO,jC,ry,jD,rz⟩:=G6 nO
 refine cl Tryz.call63 (mR _ _ Z p0 bL bM bu O d a aa af U V B P W aM r aN aO ag aQ aR ah aU aW aj aX aZ ak bf bg au ic C jC bB I av ay aC aD aF e8 (by first | assumption | exact Mk.act f4 | exact mI f8 (oh (x:=bz.abs b) R f4) | exact mI f8 (qf (x:=bz.abs b) R _)) e8 fJ) ?_
 rintro _ uP ⟨nP,nQ,nR,nS,nT,nU,nV,nW,nX,nY,nZ,og,ol,om,oo,oq,ou,ow,oz,oC,oD,rfl,jG,fK,fM,fO,fP,fQ,fT,fU⟩
 have aK:=jD _ _ jG
 have rA:=az fK
 have rC:=az fM
 have rD:=az fO
 have rE:=az fP
 have rF:=az fQ
 have rG:=az fT
 have rH:=az fU
 have rJ:=aK.rowC (i:=1) rfl
 have rM:=aK.rowC (i:=4) rfl
 have rO:=aK.rowC (i:=6) rfl
 have rP:=aK.rowC (i:=8) rfl
 have rQ:=aK.rowC (i:=10) rfl
 have rR:=aK.rowC (i:=12) rfl
 have rT:=aK.rowC (i:=14) rfl
 refine nt (rt (tR (Fin.res (res0 rfl) ?_)))
 have oF:=aK.px [0,1,2,3,19,20,21,22] [16,17,18] []
 obtain⟨rfl,rfl⟩:=gm (hr.symm.trans (show _=(ic,aB.mk (di.mk C.aa.av C.aa.ay C.aa.aX C.aa.aL (E4 a.aa.ag.ls) (E4 a.aa.ak.ls) (E4 a.aa.aJ.ls)) C.bP (E4 C.au.ls) C.bH C.bf C.bi C.bn C.aZ C.dI C.dz C.dB C.dA C.dC) from et (ai (bF bY)) (et (ai bN) (et (iN dE) (ai fJ)))))
 exact⟨nP,nQ,nR,U,V,p,B,P,l,nS,nT,nU,nV,nW,nX,nY,nZ,og,ol,om,oo,oq,ou,ow,oz,oC,oD,rfl,oF,fK,G,s,fM,fO,fP,fQ,fT,fU⟩
end Go.Proofs.YtbkagebjhbphaaaGreat
