/-
 coord: a transaction is committed.
-/
import Derived.Test.YtbkagebjhbphaaaGreatCc
import Derived.Test.YtbkagebjhbphaaaGreatCf
namespace Go.Proofs.YtbkagebjhbphaaaGreat
open Int renaming toNat→D2
open IntKind renaming i64→C7
open List renaming cons→P5,drop→r6,flatMap→q6,getD→C2,length→s2,length_append→p5,length_cons→s3,length_drop→p4,length_map→s6,length_nil→G1,length_replicate→H7,length_set→H6,length_take→p3,map→s8,mem_append_right→v5,mem_flatMap→P3,mem_of_getElem?→E0,set→u5,take→r5
open Ll renaming mk→E4
open Sv renaming mk→H5
open _root_.Go.Proofs.Tryz renaming isAgg24→O3,isAgg28→E1,isAgg3→C6,isAgg31→H8,isAgg56→P4,prog→y4,sizeOf56→O2
set_option maxRecDepth 100000
open Go.RowKit
set_option linter.unusedVariables false
set_option linter.unusedSectionVars false
set_option linter.unusedSimpArgs false
def cmp_isNaN_int (a:Int):Bool:=
 false
theorem sU (w:World) (D:Nat→Prop) (a:Int) (c:Bool) (H:Own w D w []) (hr:cmp_isNaN_int a=c):
    Calls y4 169 #[vI a] w (dR fun v w'=>v= .bool c∧Own w D w' []):=by
 refine cb Tryz.func169 ?_
 refine sr (Ar rfl (Mz rfl (Mz rfl (fw (.bool false) (Gi (e:= !(decide (a=a))) yk i8) (An rfl (rt (rs ?_)))))))
 have b:=H.pk []
 obtain rfl:_=false:=hr.symm.trans rfl
 exact⟨rfl,b⟩
def cmp_Compare_int (c:Int) (d:Int):Int:=
 bnd (cmp_isNaN_int c) fun b=>bnd (cmp_isNaN_int d) fun a=>if b=true then if a=true then 0 else(-1) else if a=true then 1 else if c < d then(-1) else if c > d then 1 else 0
theorem rG (w:World) (D:Nat→Prop) (i:Int) (j:Int) (C:Int) (H:Own w D w []) (hr:cmp_Compare_int i j=C):
    Calls y4 154 #[vI i,vI j] w (dR fun v w'=>v=vI C∧Own w D w' []):=by
 refine cb Tryz.func154 ?_
 refine sr (Ar rfl (Mz rfl ?_))
 obtain⟨l,a⟩:∃ q,cmp_isNaN_int i=q:=⟨_,rfl⟩
 obtain⟨J,m,E,n,F⟩:=FY H
 refine cl Tryz.call169 (sU _ _ i l m a) ?_
 rintro _ K ⟨rfl,o⟩
 have t:=n _ _ o
 refine Ar rfl (Mz rfl ?_)
 obtain⟨k,b⟩:∃ q,cmp_isNaN_int j=q:=⟨_,rfl⟩
 obtain⟨L,p,G,r,I⟩:=FY t
 refine cl Tryz.call169 (sU _ _ j k p b) ?_
 rintro _ M ⟨rfl,s⟩
 have e:=r _ _ s
 refine An rfl (FU (sr (Mn rfl ?_)))
 rcases JQ (l) with c | c
 refine jT c (FU (sr (Mn rfl ?_)))
 rcases JQ (k) with f | f
 refine jT f (sr (An rfl (rt (tR (tR (rs ?_))))))
 have u:=e.pk []
 obtain rfl:_=0:=hr.symm.trans (et (ai a) (et (ai b) (et (ip c) (ip f))))
 exact⟨rfl,u⟩
 refine jF f (sk (sr (An rfl (rt (tR (rs ?_))))))
 have x:=e.pk []
 obtain rfl:_=(-1):=hr.symm.trans (et (ai a) (et (ai b) (et (ip c) (gB f))))
 exact⟨rfl,x⟩
 refine jF c (sk (FU (sr (Mn rfl ?_))))
 rcases JQ (k) with d | d
 refine jT d (sr (An rfl (rt (tR (rs ?_)))))
 have y:=e.pk []
 obtain rfl:_=1:=hr.symm.trans (et (ai a) (et (ai b) (et (gB c) (ip d))))
 exact⟨rfl,y⟩
 refine jF d (sk (FU (sr (Mz rfl (Mz rfl (Kz (.bool (decide (i < j))) (nt ?_)))))))
 by_cases g:i < j
 refine jT (dT g) (sr (An rfl (rt (tR (rs ?_)))))
 have z:=e.pk []
 obtain rfl:_=(-1):=hr.symm.trans (et (ai a) (et (ai b) (et (gB c) (et (gB d) (ip g)))))
 exact⟨rfl,z⟩
 refine jF (dF g) (sk (FU (sr (Mz rfl (Mz rfl (Kz (.bool (decide (i > j))) (nt ?_)))))))
 by_cases h:i > j
 refine jT (dT h) (sr (An rfl (rt (tR (rs ?_)))))
 have A:=e.pk []
 obtain rfl:_=1:=hr.symm.trans (et (ai a) (et (ai b) (et (gB c) (et (gB d) (et (iN g) (ip h))))))
 exact⟨rfl,A⟩
 refine jF (dF h) (sk (sr (An rfl (rt (rs ?_)))))
 have B:=e.pk []
 obtain rfl:_=0:=hr.symm.trans (et (ai a) (et (ai b) (et (gB c) (et (gB d) (et (iN g) (iN h))))))
 exact⟨rfl,B⟩
def fG (l0:List fE) (f:Int):Nat→Nat→Nat→Nat
  | 0,a,b=>default
  | c+1,a,b=>if((a:Nat):Int) < ((b:Nat):Int) then bnd (C2 l0 ((a+b) / 2) default) fun d=>bnd (cmp_Compare_int d.aS f) fun e=>if e < 0 then fG l0 f c (((a+b) / 2)+1) b else fG l0 f c a ((a+b) / 2) else a
def gI (l0:List fE) (c:Int):Int × Bool:=
 bnd (fG l0 c ((l0.length - 0)+1) 0 l0.length) fun sLrL=>if((sLrL:Nat):Int) < ((l0.length:Nat):Int) then bnd (C2 l0 sLrL default) fun a=>bnd (cmp_Compare_int a.aS c) fun b=>(((sLrL:Nat):Int),decide (b=0)) else(((sLrL:Nat):Int),false)
theorem mM (w:World) (D:Nat→Prop) (y:Option Addr) (Z Y:Nat) (d0:List aZ) (l0:List fE) (n:Int) (K:Int) (r1:Bool) (H:Own w D w []) (G:s8 aZ.abs d0=l0) (l:Ro w D fun w'=>bD w' 4 y Z (q6 aZ.cells d0)) (L:∀ x ∈ d0,Ro w D (fun w'=>bD w' 3 x.ah.A x.ah.ls.length (q6 af.cells x.ah.ls))∧(x.ah.ls.length≤x.ah.c∧x.ah.ls.length≤9223372036854775807)∧(∀ J ∈ x.ah.ls,Ro w D (fun w'=>bD w' 2 J.au.A J.au.ls.length (q6 aL.cells J.au.ls))∧(J.au.ls.length≤J.au.c∧J.au.ls.length≤9223372036854775807))) (ae:Z=l0.length) (aP:l0.length *48≤211106232532992) (hr:gI l0 n=(K,r1)):
    Calls y4 152 #[.slice y Z Y,vI n, .func (.func 153) #[] #[]] w (dR fun v w'=>v= .tuple #[vI K, .bool r1]∧Own w D w' []∧(0≤K∧K≤((l0.length:Nat):Int))∧(Bool.toNat r1=0∨K < ((l0.length:Nat):Int))):=by
 subst ae
 have aB:=az G
 refine cb Tryz.func152 ?_
 refine sr (Az rfl (Ar rfl (Mz rfl (Kz (vJ l0.length) (Ar rfl (Mz rfl (Az rfl (An rfl (FU (bo ?_))))))))))
 have ag:=H.pk []
 obtain⟨ah,j⟩:=qI fun(a:Nat) (b:Nat) (o:Nat) (w':World)=>Own w D w' []∧a≤b∧b≤l0.length∧b - a < o∧fG l0 n ((l0.length - 0)+1) 0 l0.length=fG l0 n o a b
 refine Wp.loop (fun i:Nat × Nat × Nat=> [(9,vJ i.1),(10,vJ i.2.1),(8,vJ l0.length),(7, .bool false),(6,vI 0),(0, .slice y l0.length Y),(1,vI n),(2, .func (.func 153) #[] #[])]) ah (fun i=>i.2.2) (0,l0.length,(l0.length - 0)+1) ⟨rfl,rfl,rfl,rfl,rfl,rfl,rfl,rfl,trivial⟩ (j.2 ⟨ag,e6,e6,e6,rfl⟩) ?_
 rintro ⟨a,b,o⟩ aQ M
 obtain⟨f,aC,aD,aF,p⟩:=j.1 M
 obtain⟨m,N⟩:∃ q,o=q+1:=⟨o - 1,e6⟩
 subst N
 refine FU (sr (Mz rfl (Mz rfl (Kz (.bool (decide (((a:Nat):Int) < ((b:Nat):Int)))) (nt ?_)))))
 by_cases r:((a:Nat):Int) < ((b:Nat):Int)
 refine jT (dT r) (sk (bo (sr (Mz rfl (Mz rfl (fw (vJ (a+b)) (FV (e:=C7.wrap (((a:Nat):Int)+((b:Nat):Int))) yk f1) (fw (vU (a+b)) (FV (e:=IntKind.u64.wrap ((a+b:Nat):Int)) yk (IntWalk.u64_in _ e6)) (fw (vU ((a+b) / 2)) (FV (e:=Int.fdiv ((a+b:Nat):Int) 2) yk (mV _ 1 _ f3)) (fw (vJ ((a+b) / 2)) (FV (e:=C7.wrap (((a+b) / 2:Nat):Int)) yk (JN _ e6)) (Ar rfl (Mz rfl (Mz rfl (Mz rfl ?_)))))))))))))
 obtain⟨g,s⟩:=dK (ls:=d0) (i:=(a+b) / 2) aZ.len f3 (f.ro l) e9
 have C:=fo G s
 have aG:=(L _ (E0 s)).2.1
 have aH:s2 (s8 af.abs g.ah.ls)=g.ah.ls.length:=s6 ..
 refine fw (.pointer (some ⟨ab y,ao y+((a+b) / 2) *4,none⟩)) (FZ (lN) rfl rfl ((f.ro l).addr (i:=(a+b) / 2) e6) e6) (fw (.agg (aZ.cells g).toArray) (F5 rfl (Gc (cs:=(aZ.cells g)) P4 O2 ((f.ro l).elem aZ.len s f3))) (Mz rfl ?_))
 refine WL.do rfl (Gp Tryz.call153 rfl rfl ?_ (fun _ _ k=>k))
 refine cb Tryz.func153 ?_
 refine sr ?_
 refine dM (aZ.cells g) 56 f ?_
 intro aj aR O
 refine Ar rfl (Kz (vP aj 0) (Lz (vI g.aS) O 0 C6 (Mz rfl ?_)))
 obtain⟨I,t⟩:∃ q,cmp_Compare_int g.aS n=q:=⟨_,rfl⟩
 obtain⟨aS,P,aI,Q,aJ⟩:=FY O
 refine cl Tryz.call154 (rG _ _ g.aS n I P t) ?_
 rintro _ aT ⟨rfl,R⟩
 have S:=Q _ _ R
 refine An rfl (rt (rs (Kz (.bool (decide (I < 0))) (nt ?_))))
 by_cases z:I < 0
 refine jT (dT z) (FT (Mz rfl (fw (vI ((((a+b) / 2)+1:Nat):Int)) (FV (e:=C7.wrap ((((a+b) / 2:Nat):Int)+1)) yk f1) (Az rfl (WL.nil (bN ?_))))))
 have ak:=S.pk []
 exact F9 (((a+b) / 2)+1,b,m) ⟨rfl,rfl,rfl,rfl,rfl,rfl,rfl,rfl,trivial⟩ (j.2 ⟨ak,e6,e6,e6,et (p) (et (ip r) (et (ai (bJ C)) (et (ai t) (ip z))))⟩) (by show m < m+1; omega)
 refine jF (dF z) (FT (Mz rfl (Az rfl (WL.nil (bN ?_)))))
 have au:=S.pk []
 exact F9 (a,(a+b) / 2,m) ⟨rfl,rfl,rfl,rfl,rfl,rfl,rfl,rfl,trivial⟩ (j.2 ⟨au,e6,e6,e6,et (p) (et (ip r) (et (ai (bJ C)) (et (ai t) (iN z))))⟩) (by show m < m+1; omega)
 refine jF (dF r) (Wp.exit (F4 ?_))
 have E:fG l0 n ((l0.length - 0)+1) 0 l0.length=a:=et (p) (iN r)
 refine F4 (Gg (FW (sr (Mz rfl (Mz rfl (Mz rfl (Kz (.bool (decide (((a:Nat):Int) < ((l0.length:Nat):Int)))) (Mz rfl ?_))))))))
 by_cases d:((a:Nat):Int) < ((l0.length:Nat):Int)
 refine gw (.func (.func 153) #[] #[]) (dT d) (F7 rfl) (gw (.slice y l0.length Y) (dT d) (F7 rfl) (gw (vJ a) (dT d) (F7 rfl) ?_))
 obtain⟨h,u⟩:=dK (ls:=d0) (i:=a) aZ.len f3 (f.ro l) e9
 have T:=fo G u
 have aK:=(L _ (E0 u)).2.1
 have aM:s2 (s8 af.abs h.ah.ls)=h.ah.ls.length:=s6 ..
 refine gw (.pointer (some ⟨ab y,ao y+a *4,none⟩)) (dT d) (FZ (lN) rfl rfl ((f.ro l).addr (i:=a) e6) e6) (gw (.agg (aZ.cells h).toArray) (dT d) (F5 rfl (Gc (cs:=(aZ.cells h)) P4 O2 ((f.ro l).elem aZ.len u f3))) (gw (vI n) (dT d) (F7 rfl) ?_))
 refine Ha rfl rfl (dT d) rfl (Gp Tryz.call153 rfl rfl ?_ (fun _ _ k=>k))
 refine cb Tryz.func153 ?_
 refine sr ?_
 refine dM (aZ.cells h) 56 f ?_
 intro av aU U
 refine Ar rfl (Kz (vP av 0) (Lz (vI h.aS) U 0 C6 (Mz rfl ?_)))
 obtain⟨B,F⟩:∃ q,cmp_Compare_int h.aS n=q:=⟨_,rfl⟩
 obtain⟨aV,V,aN,W,aO⟩:=FY U
 refine cl Tryz.call154 (rG _ _ h.aS n B V F) ?_
 rintro _ aW ⟨rfl,X⟩
 have ax:=W _ _ X
 refine An rfl (rt (rs (Gz (.bool (decide (B=0))) (dT d) (fw (.bool (decide (B=0))) (Gb rfl (dT d) rfl) (Az rfl (An rfl (rt (Fin.res (lY rfl rfl rfl) ?_))))))))
 have ay:=ax.pk []
 obtain⟨rfl,rfl⟩:=gm (hr.symm.trans (show _=(((a:Nat):Int),decide (B=0)) from et (ai E) (et (ip d) (et (ai (bJ T)) (ai F)))))
 exact⟨rfl,ay,e6,i7⟩
 refine Sz (dF d) (Sz (dF d) (Sz (dF d) (Sz (dF d) (Sz (dF d) (Sz (dF d) (Sz (dF d) (Sz (dF d) (fw (.bool false) (FX rfl (dF d) rfl) (Az rfl (An rfl (rt (Fin.res (lY rfl rfl rfl) ?_))))))))))))
 have aA:=f.pk []
 obtain⟨rfl,rfl⟩:=gm (hr.symm.trans (show _=(((a:Nat):Int),false) from et (ai E) (iN d)))
 exact⟨rfl,aA,e6,i7⟩
def jA (m:bH) (j:Int) (a:aB):bH × aB:=
 bnd (C2 a.ak.ls (D2 j) default) fun b=>bnd (mH b.bS.ls b.aD.ls b.ae.ls) fun i=>if i.2=0 then bnd (jQ (dE.mk b.aX b.aQ b.aF b.dh (E4 b.bS.ls) (E4 b.aD.ls) (E4 b.bE.ls) (E4 b.ae.ls) b.dO)) fun h=>bnd (bT a.aa.aj.ls b.aX) fun f=>bnd (gI a.aa.aI.ls b.aQ) fun g=>if g.2=true then bnd (dB m b.aQ b.aF 1 i.1 (aB.mk (dC.mk a.aa.av a.aa.ax a.aa.bf a.aa.aK (E4 a.aa.ag.ls) (E4 (r5 (D2 f.1) a.aa.aj.ls++((bM.mk b.aX b.aQ a.aa.ax b.aF (E4 h))::r6 (D2 f.1) a.aa.aj.ls))) (E4 (u5 a.aa.aI.ls (D2 g.1) (fE.mk b.aQ a.aa.ax b.aF (E4 i.1))))) a.bI (E4 (r5 (D2 j) a.ak.ls++r6 ((D2 j)+1) a.ak.ls)) a.aR a.aN a.aO a.aP a.aM a.di a.cz a.cK a.cB a.cu)) fun d=>bnd (eG d.1 b.aX h true) fun k=>(k,aB.mk (dC.mk d.2.aa.av d.2.aa.ax d.2.aa.bf d.2.aa.aK (E4 a.aa.ag.ls) (E4 (r5 (D2 f.1) a.aa.aj.ls++((bM.mk b.aX b.aQ a.aa.ax b.aF (E4 h))::r6 (D2 f.1) a.aa.aj.ls))) (E4 (u5 a.aa.aI.ls (D2 g.1) (fE.mk b.aQ a.aa.ax b.aF (E4 i.1))))) d.2.bI (E4 (r5 (D2 j) a.ak.ls++r6 ((D2 j)+1) a.ak.ls)) d.2.aR d.2.aN d.2.aO d.2.aP d.2.aM d.2.di d.2.cz d.2.cK d.2.cB d.2.cu) else bnd (dB m b.aQ b.aF 1 i.1 (aB.mk (dC.mk a.aa.av a.aa.ax a.aa.bf a.aa.aK (E4 a.aa.ag.ls) (E4 (r5 (D2 f.1) a.aa.aj.ls++((bM.mk b.aX b.aQ a.aa.ax b.aF (E4 h))::r6 (D2 f.1) a.aa.aj.ls))) (E4 (r5 (D2 g.1) a.aa.aI.ls++((fE.mk b.aQ a.aa.ax b.aF (E4 i.1))::r6 (D2 g.1) a.aa.aI.ls)))) a.bI (E4 (r5 (D2 j) a.ak.ls++r6 ((D2 j)+1) a.ak.ls)) a.aR a.aN a.aO a.aP a.aM a.di a.cz a.cK a.cB a.cu)) fun e=>bnd (eG e.1 b.aX h true) fun l=>(l,aB.mk (dC.mk e.2.aa.av e.2.aa.ax e.2.aa.bf e.2.aa.aK (E4 a.aa.ag.ls) (E4 (r5 (D2 f.1) a.aa.aj.ls++((bM.mk b.aX b.aQ a.aa.ax b.aF (E4 h))::r6 (D2 f.1) a.aa.aj.ls))) (E4 (r5 (D2 g.1) a.aa.aI.ls++((fE.mk b.aQ a.aa.ax b.aF (E4 i.1))::r6 (D2 g.1) a.aa.aI.ls)))) e.2.bI (E4 (r5 (D2 j) a.ak.ls++r6 ((D2 j)+1) a.ak.ls)) e.2.aR e.2.aN e.2.aO e.2.aP e.2.aM e.2.di e.2.cz e.2.cK e.2.cB e.2.cu) else bnd (eH m j a) fun c=>(c.1,aB.mk (dC.mk c.2.aa.av c.2.aa.ax c.2.aa.bf c.2.aa.aK (E4 a.aa.ag.ls) (E4 a.aa.aj.ls) (E4 a.aa.aI.ls)) c.2.bI (E4 c.2.ak.ls) c.2.aR c.2.aN c.2.aO c.2.aP c.2.aM c.2.di c.2.cz c.2.cK c.2.cB c.2.cu)
set_option maxHeartbeats 4000000 in
theorem uK (w:World) (D:Nat→Prop) (g0:Nat) (p0:bH) (bK:Option Addr) (bL:Nat) (bu:List bF) (Q:Int) (d:Nat) (a:aB) (au:Option Addr) (av:Nat) (R:Option Addr) (S:Nat) (n:List aA) (s:Option Addr) (O:Nat) (l:List aZ) (T:Option Addr) (ax:Nat) (p:List bA) (aC:Option Addr) (aD:Nat) (Y:List af) (aF:Option Addr) (aG:Nat) (Z:List af) (aH:Option Addr) (aI:Nat) (aa:List af) (aJ:Option Addr) (aK:Nat) (ae:List af) (aL:Option Addr) (aM:Nat) (ag:List af) (r0:bH) (E:aB) (H:Own w D w [blk g0 [.pointer (some ⟨d,0,none⟩), .slice bK p0.bB.ls.length bL] 98,row bK p0.bB.ls.length bL (q6 bF.cells bu) 42 21,sepL (q6 bF.own bu),blk d [.int .i64 a.aa.av, .int .u64 ((a.aa.ax:Nat):Int), .int .u64 ((a.aa.bf:Nat):Int), .int .u64 ((a.aa.aK:Nat):Int), .slice au a.aa.ag.ls.length av, .slice R a.aa.aj.ls.length S, .slice s a.aa.aI.ls.length O, .int .u64 ((a.bI:Nat):Int), .slice T a.ak.ls.length ax, .bool a.aR.aT, .int .u64 ((a.aR.aF:Nat):Int), .int .i64 a.aR.bn, .slice aC a.aR.ae.ls.length aD, .bool a.aN.aT, .int .u64 ((a.aN.aF:Nat):Int), .int .i64 a.aN.bn, .slice aF a.aN.ae.ls.length aG, .bool a.aO.aT, .int .u64 ((a.aO.aF:Nat):Int), .int .i64 a.aO.bn, .slice aH a.aO.ae.ls.length aI, .bool a.aP.aT, .int .u64 ((a.aP.aF:Nat):Int), .int .i64 a.aP.bn, .slice aJ a.aP.ae.ls.length aK, .bool a.aM.aT, .int .u64 ((a.aM.aF:Nat):Int), .int .i64 a.aM.bn, .slice aL a.aM.ae.ls.length aM, .int .u64 ((a.di:Nat):Int), .int .u64 ((a.cz:Nat):Int), .int .u64 ((a.cK:Nat):Int), .int .u64 ((a.cB:Nat):Int), .int .u64 ((a.cu:Nat):Int), .pointer none] 86,row R a.aa.aj.ls.length S (q6 aA.cells n) 60 5,sepL (q6 aA.own n),row s a.aa.aI.ls.length O (q6 aZ.cells l) 56 4,sepL (q6 aZ.own l),row T a.ak.ls.length ax (q6 bA.cells p) 107 9,sepL (q6 bA.own p),row aC a.aR.ae.ls.length aD (q6 af.cells Y) 149 3,sepL (q6 af.own Y),row aF a.aN.ae.ls.length aG (q6 af.cells Z) 149 3,sepL (q6 af.own Z),row aH a.aO.ae.ls.length aI (q6 af.cells aa) 149 3,sepL (q6 af.own aa),row aJ a.aP.ae.ls.length aK (q6 af.cells ae) 149 3,sepL (q6 af.own ae),row aL a.aM.ae.ls.length aM (q6 af.cells ag) 149 3,sepL (q6 af.own ag)]) (bB:s8 bF.abs bu=p0.bB.ls) (I:s8 aA.abs n=a.aa.aj.ls) (u:s8 aZ.abs l=a.aa.aI.ls) (J:s8 bA.abs p=a.ak.ls) (aN:s8 af.abs Y=a.aR.ae.ls) (aO:s8 af.abs Z=a.aN.ae.ls) (aP:s8 af.abs aa=a.aO.ae.ls) (aQ:s8 af.abs ae=a.aP.ae.ls) (aR:s8 af.abs ag=a.aM.ae.ls) (uh:a.aa.ag.ls.length≤1000∧a.aa.aj.ls.length≤1000∧a.aa.aI.ls.length≤1000∧a.ak.ls.length≤1000∧p0.bB.ls.length≤100000) (ui:Ak a.ak.ls) (uj:0≤Q∧Q < ((a.ak.ls.length:Nat):Int)) (hr:jA p0 Q a=(r0,E)):
    Calls y4 94 #[vP g0 0,vI Q] w (dR fun v w'=> ∃ (B0ox0:Option Addr) (b0ox0:Nat) (e0ox0:List bF) (B1ox1:Option Addr) (b1ox1:Nat) (e1ox1:List aA) (B1ox2:Option Addr) (b1ox2:Nat) (e1ox2:List aZ) (B1ox3:Option Addr) (b1ox3:Nat) (e1ox3:List bA) (B1ox4:Option Addr) (b1ox4:Nat) (e1ox4:List af) (B1ox5:Option Addr) (b1ox5:Nat) (e1ox5:List af) (B1ox6:Option Addr) (b1ox6:Nat) (e1ox6:List af) (B1ox7:Option Addr) (b1ox7:Nat) (e1ox7:List af) (B1ox8:Option Addr) (b1ox8:Nat) (e1ox8:List af),v= .tuple #[]∧Own w D w' [blk g0 [vP d 0, .slice B0ox0 r0.bB.ls.length b0ox0] 98,row B0ox0 r0.bB.ls.length b0ox0 (q6 bF.cells e0ox0) 42 21,sepL (q6 bF.own e0ox0),blk d [vI E.aa.av,vU E.aa.ax,vU E.aa.bf,vU E.aa.aK, .slice au a.aa.ag.ls.length av, .slice B1ox1 E.aa.aj.ls.length b1ox1, .slice B1ox2 E.aa.aI.ls.length b1ox2,vU E.bI, .slice B1ox3 E.ak.ls.length b1ox3, .bool E.aR.aT,vU E.aR.aF,vI E.aR.bn, .slice B1ox4 E.aR.ae.ls.length b1ox4, .bool E.aN.aT,vU E.aN.aF,vI E.aN.bn, .slice B1ox5 E.aN.ae.ls.length b1ox5, .bool E.aO.aT,vU E.aO.aF,vI E.aO.bn, .slice B1ox6 E.aO.ae.ls.length b1ox6, .bool E.aP.aT,vU E.aP.aF,vI E.aP.bn, .slice B1ox7 E.aP.ae.ls.length b1ox7, .bool E.aM.aT,vU E.aM.aF,vI E.aM.bn, .slice B1ox8 E.aM.ae.ls.length b1ox8,vU E.di,vU E.cz,vU E.cK,vU E.cB,vU E.cu, .pointer none] 86,row B1ox1 E.aa.aj.ls.length b1ox1 (q6 aA.cells e1ox1) 60 5,sepL (q6 aA.own e1ox1),row B1ox2 E.aa.aI.ls.length b1ox2 (q6 aZ.cells e1ox2) 56 4,sepL (q6 aZ.own e1ox2),row B1ox3 E.ak.ls.length b1ox3 (q6 bA.cells e1ox3) 107 9,sepL (q6 bA.own e1ox3),row B1ox4 E.aR.ae.ls.length b1ox4 (q6 af.cells e1ox4) 149 3,sepL (q6 af.own e1ox4),row B1ox5 E.aN.ae.ls.length b1ox5 (q6 af.cells e1ox5) 149 3,sepL (q6 af.own e1ox5),row B1ox6 E.aO.ae.ls.length b1ox6 (q6 af.cells e1ox6) 149 3,sepL (q6 af.own e1ox6),row B1ox7 E.aP.ae.ls.length b1ox7 (q6 af.cells e1ox7) 149 3,sepL (q6 af.own e1ox7),row B1ox8 E.aM.ae.ls.length b1ox8 (q6 af.cells e1ox8) 149 3,sepL (q6 af.own e1ox8)]∧(s8 bF.abs e0ox0=r0.bB.ls)∧(s8 aA.abs e1ox1=E.aa.aj.ls)∧(s8 aZ.abs e1ox2=E.aa.aI.ls)∧(s8 bA.abs e1ox3=E.ak.ls)∧(s8 af.abs e1ox4=E.aR.ae.ls)∧(s8 af.abs e1ox5=E.aN.ae.ls)∧(s8 af.abs e1ox6=E.aO.ae.ls)∧(s8 af.abs e1ox7=E.aP.ae.ls)∧(s8 af.abs e1ox8=E.aM.ae.ls)):=by
 have nK:=az bB
 have iU:=az I
 have iV:=az u
 have iW:=az J
 have iX:=az aN
 have iY:=az aO
 have iZ:=az aP
 have ja:=az aQ
 have jb:=az aR
 have nL:=H.rowC (i:=1) rfl
 have jc:=H.rowC (i:=4) rfl
 have jd:=H.rowC (i:=6) rfl
 have je:=H.rowC (i:=8) rfl
 have jf:=H.rowC (i:=10) rfl
 have jg:=H.rowC (i:=12) rfl
 have jh:=H.rowC (i:=14) rfl
 have ji:=H.rowC (i:=16) rfl
 have jk:=H.rowC (i:=18) rfl
 refine cb Tryz.func94 ?_
 refine sr (Mz rfl (Kz (vP g0 0) (Kz (vP g0 0) (Lz (vP d 0) H 0 O3 (Kz (vP d 0) (Kz (vP d 8) (Lz (.slice T a.ak.ls.length ax) H 3 Tryz.isAgg79 (fw (vJ (D2 Q)) (FV (e:=Q) (F7 rfl) e6) ?_))))))))
 obtain⟨b,B⟩:=dK (ls:=p) (i:=D2 Q) bA.len f3 (H.rds (i:=8) rfl) e9
 have bY:=fo J B
 have qN:b.bS.ls.length≤b.bS.c∧b.bS.ls.length≤9223372036854775807:=bz H (i:=9) rfl (φ:=fun _=>_) (ay (P3.2 ⟨b,E0 B,b1⟩) bq)
 have qQ:b.aD.ls.length≤b.aD.c∧b.aD.ls.length≤9223372036854775807:=bz H (i:=9) rfl (φ:=fun _=>_) (ay (P3.2 ⟨b,E0 B, .tail _ b1⟩) bq)
 have qU:b.bE.ls.length≤b.bE.c∧b.bE.ls.length≤9223372036854775807:=bz H (i:=9) rfl (φ:=fun _=>_) (ay (P3.2 ⟨b,E0 B, .tail _ b2⟩) bq)
 have qV:b.ae.ls.length≤b.ae.c∧b.ae.ls.length≤9223372036854775807:=bz H (i:=9) rfl (φ:=fun _=>_) (ay (P3.2 ⟨b,E0 B, .tail _ b3⟩) bq)
 have V:Tok (bA.abs b):=xM f8 bY
 have qW:1≤b.aQ∧b.aQ≤4:=V.Aq
 have qX:b.bE.ls.length=b.aD.ls.length:=by have q9:=V.yes; simp only [bA.abs,s6] at q9; exact q9
 have qY:b.ae.ls.length=b.aD.ls.length:=by have q9:=V.res; simp only [bA.abs,s6] at q9; exact q9
 have qZ:b.aD.ls.length≤5:=by have q9:=V.len; simp only [bA.abs,s6] at q9; exact q9
 have q8:b.bS.ls.length≤24:=V.ops.1
 have rf:tt (s8 bO.abs b.ae.ls)≤100000000:=EJ V
 refine fw (.pointer (some ⟨ab T,ao T+(D2 Q) *9,none⟩)) (FZ (pg) rfl rfl ((H.rds (i:=8) rfl).addr (i:=D2 Q) e6) e6) (fw (.agg (bA.cells b).toArray) (F5 rfl (Gc (cs:=(bA.cells b)) Tryz.isAgg107 Tryz.sizeOf107 ((H.rds (i:=8) rfl).elem bA.len B f3))) ?_)
 refine dM (qP 0 0 0 0 none 0 0 none 0 0 none 0 0 none 0 0 0) 107 H ?_
 intro ah uk nM
 refine dN (bA.cells b) 0 nM Tryz.sizeOf107 ?_
 intro ul nN
 refine ns (Kz (vP ah 4) ?_)
 have nO:=nN.pf [10]
 have bf:=Iw (f:=bA.own) (i:=D2 Q) (row b.bS.A b.bS.ls.length b.bS.c (q6 bC.cells b.bS.ls) 72 6) (row b.aD.A b.aD.ls.length b.aD.c (q6 bG.cells b.aD.ls) 172 3) (row b.bE.A b.bE.ls.length b.bE.c (q6 eL b.bE.ls) 4 1) (row b.ae.A b.ae.ls.length b.ae.c (q6 (Gy (β:=af)) b.ae.ls) 40 1) (sepL (q6 bG.own b.aD.ls)) (sepL (q6 bO.own b.ae.ls)) rfl B nO
 have rq:=bf.rowC (i:=0) rfl
 have ru:=bf.rowC (i:=1) rfl
 have ry:b.aD.ls.length=s2 (s8 bG.abs b.aD.ls):=az (rfl:s8 bG.abs b.aD.ls=s8 bG.abs b.aD.ls)
 have rz:=bf.rowC (i:=2) rfl
 have rA:=bf.rowC (i:=3) rfl
 have rC:b.ae.ls.length=s2 (s8 bO.abs b.ae.ls):=az (rfl:s8 bO.abs b.ae.ls=s8 bO.abs b.ae.ls)
 refine Lz (.slice b.bS.A b.bS.ls.length b.bS.c) bf 7 Tryz.isAgg39 (Kz (vP ah 5) (Lz (.slice b.aD.A b.aD.ls.length b.aD.c) bf 7 Tryz.isAgg103 (Kz (vP ah 7) (Lz (.slice b.ae.A b.ae.ls.length b.ae.c) bf 7 Tryz.isAgg105 ?_))))
 have rD:b.aD.ls.length=s2 (s8 bG.abs b.aD.ls):=f0
 have rE:b.ae.ls.length=s2 (s8 bO.abs b.ae.ls):=f0
 obtain⟨⟨r,cO⟩,bN⟩:∃ q:(List aY) × Int,mH b.bS.ls (s8 bG.abs b.aD.ls) (s8 bO.abs b.ae.ls)=q:=⟨_,rfl⟩
 obtain⟨um,jl,rF,jm,bg⟩:=FY bf
 refine cl Tryz.call129 (xE _ _ b.bS.A b.bS.ls.length b.bS.c b.bS.ls b.aD.A b.aD.ls.length b.aD.c b.aD.ls (s8 bG.abs b.aD.ls) b.ae.A b.ae.ls.length b.ae.c b.ae.ls (s8 bO.abs b.ae.ls) r cO jl (bg _ 0 _ rfl aV) rfl e6 (rfl:s8 bG.abs b.aD.ls=s8 bG.abs b.aD.ls) (bg _ 1 _ rfl aV) (fun x9 U=>⟨bg _ 4 _ rfl (ay (P3.2 ⟨x9,U,b1⟩) aV),bz (φ:=fun _=>_) bf (i:=4) rfl (ay (P3.2 ⟨x9,U,b1⟩) bq),bg _ 4 _ rfl (ay (P3.2 ⟨x9,U, .tail _ b1⟩) aV),bz (φ:=fun _=>_) bf (i:=4) rfl (ay (P3.2 ⟨x9,U, .tail _ b1⟩) bq)⟩) f0 g4 (rfl:s8 bO.abs b.ae.ls=s8 bO.abs b.ae.ls) (bg _ 3 _ rfl aV) (fun x9 U=>⟨bg _ 5 _ rfl (ay (P3.2 ⟨x9,U,b1⟩) aV),bz (φ:=fun _=>_) bf (i:=5) rfl (ay (P3.2 ⟨x9,U,b1⟩) bq),(fun y1 k1=>⟨bg _ 5 _ rfl (ay (P3.2 ⟨x9,U, .tail _ b1⟩) (ay (P3.2 ⟨y1,k1,b1⟩) aV)),bz (φ:=fun _=>_) bf (i:=5) rfl (ay (P3.2 ⟨x9,U, .tail _ b1⟩) (ay (P3.2 ⟨y1,k1,b1⟩) bq))⟩)⟩) f0 g4 (by first | assumption | omega) bN) ?_
 rintro _ uo ⟨K,L,aS,rfl,jq,P⟩
 have gN:=jm _ _ jq
 have rG:=az P
 have rH:=gN.rowC (i:=0) rfl
 have jr:mR r:=xO bN V.ops.1 V.ops.2 V.Bt
 have rJ:r.length≤1000:=jr.1
 refine Mz rfl (Kz (.slice K r.length L) (Kz (vI cO) (Az rfl (An rfl (FU (sr (Mz rfl (fw (.bool (decide (¬ (cO=0)))) (Gi (e:= !(decide (cO=0))) yk decide_not.symm) (nt ?_)))))))))
 by_cases cZ:cO=0
 refine jF (dF (JP cZ)) (sk (FU ?_))
 have nP:=gN.pf [10,13]
 refine pG [17] (F8 Gh) nP ?_
 intro uq nQ
 have nR:=nQ.pf [4,5,6,7,8,9,10]
 have df:=qO (f:=bA.own) B nR
 have rM:b.bS.ls.length≤b.bS.c∧b.bS.ls.length≤9223372036854775807:=bz df (i:=0) rfl (φ:=fun _=>_) (ay (P3.2 ⟨b,E0 B,b1⟩) bq)
 have rO:b.aD.ls.length≤b.aD.c∧b.aD.ls.length≤9223372036854775807:=bz df (i:=0) rfl (φ:=fun _=>_) (ay (P3.2 ⟨b,E0 B, .tail _ b1⟩) bq)
 have rP:b.bE.ls.length≤b.bE.c∧b.bE.ls.length≤9223372036854775807:=bz df (i:=0) rfl (φ:=fun _=>_) (ay (P3.2 ⟨b,E0 B, .tail _ b2⟩) bq)
 have rQ:b.ae.ls.length≤b.ae.c∧b.ae.ls.length≤9223372036854775807:=bz df (i:=0) rfl (φ:=fun _=>_) (ay (P3.2 ⟨b,E0 B, .tail _ b3⟩) bq)
 refine qv 0 rfl rfl (qp g0 0 1 rfl (qp g0 0 2 rfl (ql 3 rfl 0 O3 rfl rfl rfl (qv 4 rfl rfl (qp g0 0 5 rfl (qp g0 0 6 rfl (ql 7 rfl 0 O3 rfl rfl rfl (qp d 0 8 rfl (qp d 8 9 rfl (ql 10 rfl 1 Tryz.isAgg79 rfl rfl rfl (qv 11 rfl rfl (qv 12 rfl rfl (qt (v:=vI (Q+1)) 13 rfl (fun _ _=>FV (e:=C7.wrap (Q+1)) yk g2) ?_)))))))))))))
 have nS:=df.pf [12]
 obtain⟨ut,jv,rR,jw,rT⟩:=Gm nS
 refine qd 14 rfl (Gd Tryz.call105 rfl (uQ _ _ T a.ak.ls.length ax p a.ak.ls Q (Q+1) (D2 Q) b jv e6 J e6 e6 e6 B) ?_)
 rintro _ uu ⟨dh,di,rfl,jy⟩
 have dm:=jw _ _ jy
 have rU:s2 (r5 (D2 Q) p++r6 ((D2 Q)+1) p)=s2 (r5 (D2 Q) a.ak.ls++r6 ((D2 Q)+1) a.ak.ls):=by exact az (oZ J)
 have rV:s2 (r5 (D2 Q) a.ak.ls++r6 ((D2 Q)+1) a.ak.ls)+1=a.ak.ls.length:=by simp only [p5,p3,p4]; omega
 have rW:b.aD.ls.length=s2 (s8 bG.abs b.aD.ls):=by exact(s6 _).symm
 have rX:b.ae.ls.length=s2 (s8 bO.abs b.ae.ls):=by exact(s6 _).symm
 have rY:=dm.rowC (i:=2) rfl
 have rZ:=dm.rowC (i:=3) rfl
 have r9:=dm.rowC (i:=4) rfl
 have si:=dm.rowC (i:=5) rfl
 have jB:=dm.pf [8,9]
 refine⟨.inr ⟨_,jB⟩, ?_⟩
 refine qp d 0 15 rfl (qp d 8 16 rfl ?_)
 have nT:=jB.pf [1]
 refine qe 17 rfl (Do.store (vs:= [.slice dh (s2 (r5 (D2 Q) a.ak.ls++r6 ((D2 Q)+1) a.ak.ls)) di]) (o:=8) nT rfl rfl Tryz.sizeOf79 rfl rfl rfl rfl ?_)
 intro sj jC
 refine⟨.inl e7, ?_⟩
 refine qn (FW (FU ?_))
 have bD:b.aD.ls.length=s2 (s8 bG.abs b.aD.ls):=by first | omega | (simp only [H6]; done) | (simp only [H6,p5,s3,G1,p3,p4,H7]; omega)
 have jD:=jC.pf [5]
 have jG:=GG bD jD
 have jH:=jG.pf [12]
 have jI:=G5 5 bD jH
 have jJ:=jI.pf [2,3,4,5,6,1,7,8,9,10,11,12]
 have bE:b.ae.ls.length=s2 (s8 bO.abs b.ae.ls):=by first | omega | (simp only [H6]; done) | (simp only [H6,p5,s3,G1,p3,p4,H7]; omega)
 have jK:=jJ.pf [7]
 have jL:=GG bE jK
 have jM:=jL.pf [12]
 have jN:=G5 7 bE jM
 have jO:=jN.pf [2,3,4,5,6,7,8,1,9,10,11,12]
 refine pG [] (F8 Gh) jO ?_
 intro su jR
 refine qp ah 0 0 rfl ?_
 have fM:=jR.pf [0,1,12]
 refine AV fM (ql 1 rfl 2 E1 rfl rfl rfl (qp ah 1 2 rfl (ql 3 rfl 2 C6 rfl rfl rfl (qv 4 rfl rfl (qp g0 0 5 rfl (qp g0 0 6 rfl (ql 7 rfl 1 O3 rfl rfl rfl (qp d 0 8 rfl (qp d 0 9 rfl (qp d 1 10 rfl (ql 11 rfl 0 E1 rfl rfl rfl (qp ah 2 12 rfl (ql 13 rfl 2 E1 rfl rfl rfl ?_)))))))))))))
 obtain⟨h,bI⟩:∃ q,jQ (dE.mk b.aX b.aQ b.aF b.dh (E4 b.bS.ls) (E4 (s8 bG.abs b.aD.ls)) (E4 b.bE.ls) (E4 (s8 bO.abs b.ae.ls)) b.dO)=q:=⟨_,rfl⟩
 have nU:h.length≤5:=by have q9:=xQ bI; simp only [s6] at q9; omega
 refine Dv ⟨14,_,_,_,_,_,Option Addr × Nat,fun g9=> .slice g9.1 h.length g9.2,fun _=>True,fun g9=> [row g9.1 h.length g9.2 (q6 (eI .i64) h) 3 1]⟩ ⟨16,_,_,_,_,_,Nat,fun g9=>vP g9 0,fun _=>True,fun g9=> [blk g9 [.int .u64 0,vI 0, .int .u64 0, .int .u64 0, .slice none 0 0] 60]⟩ 15 3 fM ⟨⟨rfl,rfl,rfl, ?_⟩,⟨rfl,rfl,rfl, ?_⟩,trivial⟩ rfl ?_
 intro sw L' jS
 refine(GD (cs:= [.int .u64 0,vI 0, .int .u64 0, .int .u64 0, .slice none 0 0]) (t:=60) jS rfl rfl (fun _=>by kernel_rfl) ?_)
 intro bP sD jU
 exact⟨bP,rfl,trivial,jU⟩
 intro sF L' jV
 have aT:=jV.pf [3]
 have nV:=aT.rowC (i:=6) rfl
 have nW:=aT.rowC (i:=7) rfl
 have nX:=aT.rowC (i:=8) rfl
 have nY:=aT.rowC (i:=9) rfl
 obtain⟨sG,gP,og,gQ,W⟩:=Gn aT
 refine(Gd Tryz.call107 rfl (qL _ _ ah (dE.mk b.aX b.aQ b.aF b.dh (E4 b.bS.ls) (E4 (s8 bG.abs b.aD.ls)) (E4 b.bE.ls) (E4 (s8 bO.abs b.ae.ls)) b.dO) b.bS.A b.bS.c b.aD.A b.aD.c b.aD.ls b.bE.A b.bE.c b.ae.A b.ae.c b.ae.ls h gP (W _ 5 _ rfl aV) (show b.bS.ls.length≤b.bS.c∧b.bS.ls.length≤9223372036854775807 from by omega) (rfl:s8 bG.abs b.aD.ls=s8 bG.abs b.aD.ls) (W _ 6 _ rfl aV) (show s2 (s8 bG.abs b.aD.ls)≤b.aD.c∧s2 (s8 bG.abs b.aD.ls)≤9223372036854775807 from by omega) (fun x9 U=>⟨W _ 9 _ rfl (ay (P3.2 ⟨x9,U,b1⟩) aV),bz (φ:=fun _=>_) aT (i:=10) rfl (ay (P3.2 ⟨x9,U,b1⟩) bq),W _ 9 _ rfl (ay (P3.2 ⟨x9,U, .tail _ b1⟩) aV),bz (φ:=fun _=>_) aT (i:=10) rfl (ay (P3.2 ⟨x9,U, .tail _ b1⟩) bq)⟩) (W _ 7 _ rfl aV) (show b.bE.ls.length≤b.bE.c∧b.bE.ls.length≤9223372036854775807 from by omega) (rfl:s8 bO.abs b.ae.ls=s8 bO.abs b.ae.ls) (W _ 8 _ rfl aV) (show s2 (s8 bO.abs b.ae.ls)≤b.ae.c∧s2 (s8 bO.abs b.ae.ls)≤9223372036854775807 from by omega) (fun x9 U=>⟨W _ 10 _ rfl (ay (P3.2 ⟨x9,U,b1⟩) aV),bz (φ:=fun _=>_) aT (i:=11) rfl (ay (P3.2 ⟨x9,U,b1⟩) bq),(fun y1 k1=>⟨W _ 10 _ rfl (ay (P3.2 ⟨x9,U, .tail _ b1⟩) (ay (P3.2 ⟨y1,k1,b1⟩) aV)),bz (φ:=fun _=>_) aT (i:=11) rfl (ay (P3.2 ⟨x9,U, .tail _ b1⟩) (ay (P3.2 ⟨y1,k1,b1⟩) bq))⟩)⟩) e8 bI) ?_)
 rintro _ sH ⟨M,N,rfl,gT⟩
 have jW:=gQ _ _ gT
 have jX:=jW.pf [0,2,3,4]
 exact⟨(M,N),rfl,trivial,jX⟩
 rintro ⟨M,N⟩ _
 refine⟨.agg #[vU b.aX,vI b.aQ,vU a.aa.ax,vU b.aF, .slice M h.length N],fun _=>yk, ?_⟩
 rintro bP _
 intro jY jZ
 have fO:Own w D jY (blk bP [.int .u64 0,vI 0, .int .u64 0, .int .u64 0, .slice none 0 0] 60::row M h.length N (q6 (eI .i64) h) 3 1::_):=jZ.flat.pf []
 have oh:=fO.rowC (i:=1) rfl
 have j3:=fO.pf [2,3,4]
 have j4:=j3.pf [3]
 refine qe 17 rfl (Do.store (vs:= [vU b.aX,vI b.aQ,vU a.aa.ax,vU b.aF, .slice M h.length N]) (o:=0) j4 rfl rfl Tryz.sizeOf60 rfl rfl rfl rfl ?_)
 intro sI j5
 have fP:=j5.pf [1,2,3]
 refine⟨.inr ⟨_,fP⟩, ?_⟩
 refine qn (FW (FU ?_))
 have j6:=fP.pf [1,2,3,4,7,8,9,10,11,12,13,14,15,16]
 refine oJ 14 [] (F8 Gh) j6 ?_
 intro sJ dn
 refine qv 0 rfl rfl (qp g0 0 1 rfl (qp g0 0 2 rfl (ql 3 rfl 0 O3 rfl rfl rfl (qp ah 0 4 rfl (ql 5 rfl 1 E1 rfl rfl rfl ?_)))))
 refine GX.do 6 rfl e7 (Gd Tryz.call95 rfl ?_ (fun _ _ k=>k))
 refine cb Tryz.func95 ?_
 refine sr (Az rfl (Ar rfl (Mz rfl (Kz (vP d 0) (Kz (vP d 0) (Kz (vP d 5) (Lz (.slice R a.aa.aj.ls.length S) dn 14 Tryz.isAgg30 (Mz rfl ?_))))))))
 obtain⟨⟨j,bZ⟩,bU⟩:∃ q:Int × Bool,bT a.aa.aj.ls b.aX=q:=⟨_,rfl⟩
 obtain⟨sK,gU,ol,gV,dw⟩:=FY dn
 refine cl Tryz.call132 (gW _ _ R a.aa.aj.ls.length S n a.aa.aj.ls b.aX j bZ gU I (dw _ 17 _ rfl aV) (fun x9 U=>⟨dw _ 18 _ rfl (ay (P3.2 ⟨x9,U,b1⟩) aV),bz (φ:=fun _=>_) dn (i:=18) rfl (ay (P3.2 ⟨x9,U,b1⟩) bq)⟩) rfl e6 bU) ?_
 rintro _ sM ⟨rfl,gX,dx,dz⟩
 have fQ:=gV _ _ gX
 replace dx:0≤j∧j≤((a.aa.aj.ls.length:Nat):Int):=dx
 replace dz:Bool.toNat bZ=0∨j < ((a.aa.aj.ls.length:Nat):Int):=dz
 refine Kz (vI j) (Kz (.bool bZ) (Az rfl (An rfl (rt (Fin.res (lY rfl rfl rfl) ?_)))))
 refine⟨.inr ⟨_,fQ⟩, ?_⟩
 refine qv 7 rfl rfl (qk (vI j) 8 rfl (qk (.bool bZ) 9 rfl (qa 10 rfl rfl (qa 11 rfl rfl (qn (FW (FU ?_)))))))
 have kg:=fQ.pf [0,14]
 refine pG [19] (F8 Gh) kg ?_
 intro sN ko
 refine qv 0 rfl rfl (qp g0 0 1 rfl (qp g0 0 2 rfl (ql 3 rfl 0 O3 rfl rfl rfl (qv 4 rfl rfl (qp g0 0 5 rfl (qp g0 0 6 rfl (ql 7 rfl 0 O3 rfl rfl rfl (qp d 0 8 rfl (qp d 0 9 rfl (qp d 5 10 rfl (ql 11 rfl 1 Tryz.isAgg30 rfl rfl rfl (qv 12 rfl rfl ?_))))))))))))
 have fT:=ko.pf [0,1,3]
 refine AV fT (qb 13 rfl 2 Tryz.isAgg60 Tryz.sizeOf60 rfl rfl rfl ?_)
 refine qd 14 rfl (Ik (cs:= [vU b.aX,vI b.aQ,vU a.aa.ax,vU b.aF, .slice M h.length N]) (t:=60) (sz:=5) (m:=1) fT rfl rfl (fun _=>by kernel_rfl) rfl ?_)
 intro fU sO dA
 replace dA:=Gq (y:=qo fU 1 (q6 aA.cells ([(aA.mk b.aX b.aQ a.aa.ax b.aF (H5 M N h))])) 60 5) rfl dA
 have fV:=dA.pf [1,2,3]
 refine⟨.inr ⟨_,fV⟩, ?_⟩
 have kr:=fV.pf [18,3,19,5]
 obtain⟨sP,gY,om,gZ,oo⟩:=GH kr
 refine qd 15 rfl (Gd Tryz.call130 rfl (vB _ _ R a.aa.aj.ls.length S n a.aa.aj.ls j (D2 j) fU (aA.mk b.aX b.aQ a.aa.ax b.aF (H5 M N h)) (bM.mk b.aX b.aQ a.aa.ax b.aF (E4 h)) gY e6 I rfl e6 e6 e6) ?_)
 rintro _ sQ ⟨bQ,bR,rfl,ib⟩
 have ku:=gZ _ _ ib
 have oq:s2 (r5 (D2 j) n++((aA.mk b.aX b.aQ a.aa.ax b.aF (H5 M N h))::r6 (D2 j) n))=s2 (r5 (D2 j) a.aa.aj.ls++((bM.mk b.aX b.aQ a.aa.ax b.aF (E4 h))::r6 (D2 j) a.aa.aj.ls)):=by exact az (qR (z:=(bM.mk b.aX b.aQ a.aa.ax b.aF (E4 h))) I rfl)
 have ou:s2 (r5 (D2 j) a.aa.aj.ls++((bM.mk b.aX b.aQ a.aa.ax b.aF (E4 h))::r6 (D2 j) a.aa.aj.ls))=a.aa.aj.ls.length+1:=by simp only [p5,p3,s3,p4]; omega
 have fZ:=ku.pf [2,3,4]
 refine⟨.inr ⟨_,fZ⟩, ?_⟩
 refine qp d 0 16 rfl (qp d 0 17 rfl (qp d 5 18 rfl ?_))
 have kv:=fZ.pf [1]
 refine qe 19 rfl (Do.store (vs:= [.slice bQ (s2 (r5 (D2 j) a.aa.aj.ls++((bM.mk b.aX b.aQ a.aa.ax b.aF (E4 h))::r6 (D2 j) a.aa.aj.ls))) bR]) (o:=5) kv rfl rfl Tryz.sizeOf30 rfl rfl rfl rfl ?_)
 intro sS kw
 refine⟨.inl e7, ?_⟩
 refine qn (FW (FU ?_))
 refine pG [15] (F8 Gh) kw ?_
 intro sU ky
 refine qv 0 rfl rfl (qp ah 1 1 rfl ?_)
 have gp:=ky.pf [0,1,5]
 refine AV gp (ql 2 rfl 2 C6 rfl rfl rfl (qv 3 rfl rfl (qp g0 0 4 rfl (qp g0 0 5 rfl (ql 6 rfl 1 O3 rfl rfl rfl (qp d 0 7 rfl (qp d 0 8 rfl (qp d 1 9 rfl (ql 10 rfl 0 E1 rfl rfl rfl (qp ah 2 11 rfl (ql 12 rfl 2 E1 rfl rfl rfl (qv 13 rfl rfl (qk (.agg #[vI b.aQ,vU a.aa.ax,vU b.aF, .slice K r.length L]) 14 rfl ?_)))))))))))))
 refine GX.do 15 rfl e7 (Gd Tryz.call131 rfl ?_ (fun _ _ k=>k))
 refine cb Tryz.func131 ?_
 refine sr ?_
 refine dM [vI b.aQ,vU a.aa.ax,vU b.aF, .slice K r.length L] 56 gp ?_
 intro kz sV kC
 refine nt (FU ?_)
 refine oJ 31 [] (F8 Gh) kC ?_
 intro sW dD
 refine qv 0 rfl rfl (qp g0 0 1 rfl (qp g0 0 2 rfl (ql 3 rfl 2 O3 rfl rfl rfl (qp d 0 4 rfl (qp d 0 5 rfl (qp d 6 6 rfl (ql 7 rfl 1 H8 rfl rfl rfl (qp kz 0 8 rfl (ql 9 rfl 0 C6 rfl rfl rfl ?_)))))))))
 obtain⟨⟨g,bv⟩,bV⟩:∃ q:Int × Bool,gI a.aa.aI.ls b.aQ=q:=⟨_,rfl⟩
 obtain⟨sZ,ic,ow,ig,bW⟩:=FY dD
 refine qd 10 rfl (Gd Tryz.call152 rfl (mM _ _ s a.aa.aI.ls.length O l a.aa.aI.ls b.aQ g bv ic u (bW _ 19 _ rfl aV) (fun x9 U=>⟨bW _ 20 _ rfl (ay (P3.2 ⟨x9,U,b1⟩) aV),bz (φ:=fun _=>_) dD (i:=20) rfl (ay (P3.2 ⟨x9,U,b1⟩) bq),(fun y1 k1=>⟨bW _ 20 _ rfl (ay (P3.2 ⟨x9,U, .tail _ b1⟩) (ay (P3.2 ⟨y1,k1,b1⟩) aV)),bz (φ:=fun _=>_) dD (i:=20) rfl (ay (P3.2 ⟨x9,U, .tail _ b1⟩) (ay (P3.2 ⟨y1,k1,b1⟩) bq))⟩)⟩) rfl e6 bV) ?_)
 rintro _ tq ⟨rfl,ik,dG,dH⟩
 have dI:=ig _ _ ik
 replace dG:0≤g∧g≤((a.aa.aI.ls.length:Nat):Int):=dG
 replace dH:Bool.toNat bv=0∨g < ((a.aa.aI.ls.length:Nat):Int):=dH
 refine⟨.inr ⟨_,dI⟩, ?_⟩
 refine qv 11 rfl rfl (qk (vI g) 12 rfl (qk (.bool bv) 13 rfl (qa 14 rfl rfl (qa 15 rfl rfl (qn (FW (FU (sr (Mn rfl ?_)))))))))
 rcases JQ (bv) with bi | bi
 have h217t:Bool.toNat bv=1:=by rw [bi]; rfl
 refine jT bi (FU ?_)
 have kD:=dI.pf [1,2]
 refine pG [11] (F8 (F8 Gh)) kD ?_
 intro tu gq
 refine qv 0 rfl rfl (qp g0 0 1 rfl (qp g0 0 2 rfl (ql 3 rfl 1 O3 rfl rfl rfl (qp d 0 4 rfl (qp d 0 5 rfl (qp d 6 6 rfl (ql 7 rfl 0 H8 rfl rfl rfl (qt (v:=vJ (D2 g)) 8 rfl (fun _ _=>FV (e:=g) (F7 rfl) e6) (AV gq (qb 9 rfl 2 P4 O2 rfl rfl rfl ?_))))))))))
 have gu:=gq.pf [0,1,2,19]
 refine FP gu ?_
 obtain⟨bn,X⟩:=jo (ls:=l) (i:=D2 g) e9
 have oz:=fo u X
 refine qt (v:= .pointer (some ⟨ab s,ao s+(D2 g) *4,none⟩)) 10 rfl (fun _ ⟨_,H9⟩=>FZ (lN) rfl rfl ((H9.rds (i:=3) rfl).addr (i:=D2 g) e6) e6) ?_
 have kE:=gu.pf [20]
 have kG:=Iu (f:=aZ.own) (i:=D2 g) (row bn.ah.A bn.ah.ls.length bn.ah.c (q6 af.cells bn.ah.ls) 149 3) (sepL (q6 af.own bn.ah.ls)) rfl X kE
 have kH:=kG.px [] [0,1] []
 have kI:=kH.pf [15,16]
 have kJ:=GG (az P).symm kI
 have kK:=GJ (f:=aZ.own) (y:=(aZ.mk b.aQ a.aa.ax b.aF (H5 K L aS))) X kJ
 have kL:=kK.pf [4]
 refine qe 11 rfl (Do.storeRow (vs:= [vI b.aQ,vU a.aa.ax,vU b.aF, .slice K r.length L]) (o:=(D2 g) *4+0) (q:=ao s+(D2 g) *4) kL rfl e6 rfl O2 rfl rfl (JM rfl) (iK aZ.len X (JM rfl)) (jE (x:=bn) (f:=0) (vs:= [vI b.aQ,vU a.aa.ax,vU b.aF, .slice K r.length L]) (y:=(aZ.mk b.aQ a.aa.ax b.aF (H5 K L aS))) aZ.len (show put (aZ.cells bn) 0 ([vI b.aQ,vU a.aa.ax,vU b.aF, .slice K r.length L]:List Value)=aZ.cells (aZ.mk b.aQ a.aa.ax b.aF (H5 K L aS)) from congrArg (fun z9=>([vI b.aQ,vU a.aa.ax,vU b.aF, .slice K z9 L]:List Value)) (az P).symm) (JM rfl) X) ?_)
 intro tC kM
 have oC:s2 (u5 l (D2 g) (aZ.mk b.aQ a.aa.ax b.aF (H5 K L aS)))=s2 (u5 a.aa.aI.ls (D2 g) (fE.mk b.aQ a.aa.ax b.aF (E4 r))):=az (iB u (congrArg (fun z9=>fE.mk b.aQ a.aa.ax b.aF (E4 z9)) P))
 have oD:s2 (u5 a.aa.aI.ls (D2 g) (fE.mk b.aQ a.aa.ax b.aF (E4 r)))=a.aa.aI.ls.length:=H6
 refine⟨.inl e7, ?_⟩
 refine qn (FW (rt (tR (Fin.res (res0 rfl) ?_))))
 refine⟨.inl e7, ?_⟩
 refine qn (FW (FU ?_))
 have dJ:=kM.px [] [4] []
 refine FT (Mz rfl (Kz (vP ah 1) (Lz (vI b.aQ) dJ 4 C6 (Kz (vP ah 2) (Lz (vU b.aF) dJ 4 E1 (Mz rfl ?_))))))
 have bX:a.aa.aI.ls.length=s2 (u5 a.aa.aI.ls (D2 g) (fE.mk b.aQ a.aa.ax b.aF (E4 r))):=by first | omega | (simp only [H6]; done) | (simp only [H6,p5,s3,G1,p3,p4,H7]; omega)
 have kN:=GG bX dJ
 have kP:=kN.pf [2]
 have kQ:=G5 6 bX kP
 have kR:=kQ.pf [1,2]
 have gy:=kR.pf [3,14,15,2,18,19,20,21,22,23,24,25,26,27]
 obtain⟨⟨cu,F⟩,dL⟩:∃ q:bH × aB,dB p0 b.aQ b.aF 1 r (aB.mk (dC.mk a.aa.av a.aa.ax a.aa.bf a.aa.aK (E4 a.aa.ag.ls) (E4 (r5 (D2 j) a.aa.aj.ls++((bM.mk b.aX b.aQ a.aa.ax b.aF (E4 h))::r6 (D2 j) a.aa.aj.ls))) (E4 (u5 a.aa.aI.ls (D2 g) (fE.mk b.aQ a.aa.ax b.aF (E4 r))))) a.bI (E4 (r5 (D2 Q) a.ak.ls++r6 ((D2 Q)+1) a.ak.ls)) a.aR a.aN a.aO a.aP a.aM a.di a.cz a.cK a.cB a.cu)=q:=⟨_,rfl⟩
 obtain⟨tF,il,oF,iq,dO⟩:=GN gy
 refine cl Tryz.call106 (jP _ _ g0 p0 bK bL bu b.aQ b.aF 1 K r.length L aS r d (aB.mk (dC.mk a.aa.av a.aa.ax a.aa.bf a.aa.aK (E4 a.aa.ag.ls) (E4 (r5 (D2 j) a.aa.aj.ls++((bM.mk b.aX b.aQ a.aa.ax b.aF (E4 h))::r6 (D2 j) a.aa.aj.ls))) (E4 (u5 a.aa.aI.ls (D2 g) (fE.mk b.aQ a.aa.ax b.aF (E4 r))))) a.bI (E4 (r5 (D2 Q) a.ak.ls++r6 ((D2 Q)+1) a.ak.ls)) a.aR a.aN a.aO a.aP a.aM a.di a.cz a.cK a.cB a.cu) au av bQ bR s O dh di aC aD Y aF aG Z aH aI aa aJ aK ae aL aM ag cu F il bB P (dO _ 1 _ rfl (ay (P3.2 ⟨_,(wP (aZ.mk b.aQ a.aa.ax b.aF (H5 K L aS)) X),b1⟩) (fun w9 U a9 b9=>o8 (az P) (aV w9 U a9 b9)))) (fun x9 U=>⟨dO _ 1 _ rfl (ay (P3.2 ⟨_,(wP (aZ.mk b.aQ a.aa.ax b.aF (H5 K L aS)) X), .tail _ b1⟩) (ay (P3.2 ⟨x9,U,b1⟩) aV)),bz (φ:=fun _=>_) gy (i:=15) rfl (ay (P3.2 ⟨_,(wP (aZ.mk b.aQ a.aa.ax b.aF (H5 K L aS)) X), .tail _ b1⟩) (ay (P3.2 ⟨x9,U,b1⟩) bq))⟩) rfl e6 g6 aN aO aP aQ aR e8 g3 g3 i2 dL) ?_
 rintro _ tH ⟨kS,kT,kU,kV,kW,kX,kY,kZ,lc,lg,lh,ll,lm,lq,lu,lv,lw,lC,rfl,iw,dP,dQ,dS,dU,dV,dW,dX⟩
 have aU:=iq _ _ iw
 have oK:=az dP
 have oL:=az dQ
 have oM:=az dS
 have oN:=az dU
 have oO:=az dV
 have oP:=az dW
 have oQ:=aU.rowC (i:=1) rfl
 have oU:=aU.rowC (i:=4) rfl
 have oV:=aU.rowC (i:=6) rfl
 have oW:=aU.rowC (i:=8) rfl
 have o5:=aU.rowC (i:=10) rfl
 have o6:=aU.rowC (i:=12) rfl
 replace dX:cu.bB.ls.length=p0.bB.ls.length+1:=dX
 refine nt (FT (Mz rfl (Kz (vP ah 0) (Lz (vU b.aX) aU 16 E1 (Kz (vP bP 4) (Lz (.slice M h.length N) aU 17 Tryz.isAgg58 ?_))))))
 obtain⟨gz,dY⟩:∃ q,eG cu b.aX h true=q:=⟨_,rfl⟩
 obtain⟨tJ,iy,o7,iA,iC⟩:=Gv aU
 refine cl Tryz.call27 (kF _ _ g0 cu kS kT kU d b.aX M h.length N h true gz iy dP (iC _ 16 _ rfl (ay (P3.2 ⟨_,v5 _ b1,b1⟩) aV)) rfl e6 g7 dY) ?_
 rintro _ tK ⟨lD,lF,lG,rfl,iD,dZ⟩
 have gD:=iA _ _ iD
 have o9:=az dZ
 have pq:=gD.rowC (i:=1) rfl
 refine WL.nil (Gf (res0 rfl) ?_)
 have lH:=gD.pk [0,1,2,3,18,19,14,15,26,27,4,5,6,7,8,9,10,11,12,13]
 obtain⟨rfl,rfl⟩:=gm (hr.symm.trans (show _=(gz,aB.mk (dC.mk F.aa.av F.aa.ax F.aa.bf F.aa.aK (E4 a.aa.ag.ls) (E4 (r5 (D2 j) a.aa.aj.ls++((bM.mk b.aX b.aQ a.aa.ax b.aF (E4 h))::r6 (D2 j) a.aa.aj.ls))) (E4 (u5 a.aa.aI.ls (D2 g) (fE.mk b.aQ a.aa.ax b.aF (E4 r))))) F.bI (E4 (r5 (D2 Q) a.ak.ls++r6 ((D2 Q)+1) a.ak.ls)) F.aR F.aN F.aO F.aP F.aM F.di F.cz F.cK F.cB F.cu) from et (ai (bJ bY)) (et (ai bN) (et (ip cZ) (et (ai bI) (et (ai bU) (et (ai bV) (et (ip bi) (et (ai dL) (ai dY))))))))))
 exact⟨lD,lF,lG,bQ,bR,(r5 (D2 j) n++((aA.mk b.aX b.aQ a.aa.ax b.aF (H5 M N h))::r6 (D2 j) n)),s,O,(u5 l (D2 g) (aZ.mk b.aQ a.aa.ax b.aF (H5 K L aS))),dh,di,(r5 (D2 Q) p++r6 ((D2 Q)+1) p),kV,kW,kX,kY,kZ,lc,lg,lh,ll,lm,lq,lu,lv,lw,lC,(by(first | rw [← bD] | skip); (first | rw [← bE] | skip); (first | rw [← bX] | skip); first | done | rfl),lH,dZ,(qR (z:=(bM.mk b.aX b.aQ a.aa.ax b.aF (E4 h))) I rfl),(iB u (congrArg (fun z9=>fE.mk b.aQ a.aa.ax b.aF (E4 z9)) P)),(oZ J),dQ,dS,dU,dV,dW⟩
 have h217t:Bool.toNat bv=0:=by rw [bi]; rfl
 refine jF bi (sk ?_)
 have lI:=dI.pf [1,2]
 refine pG [19] Gh lI ?_
 intro tL gF
 refine qv 0 rfl rfl (qp g0 0 1 rfl (qp g0 0 2 rfl (ql 3 rfl 1 O3 rfl rfl rfl (qv 4 rfl rfl (qp g0 0 5 rfl (qp g0 0 6 rfl (ql 7 rfl 1 O3 rfl rfl rfl (qp d 0 8 rfl (qp d 0 9 rfl (qp d 6 10 rfl (ql 11 rfl 0 H8 rfl rfl rfl (qv 12 rfl rfl (AV gF (qb 13 rfl 2 P4 O2 rfl rfl rfl ?_))))))))))))))
 refine qd 14 rfl (Ik (cs:= [vI b.aQ,vU a.aa.ax,vU b.aF, .slice K r.length L]) (t:=56) (sz:=4) (m:=1) gF rfl rfl (fun _=>by kernel_rfl) rfl ?_)
 intro d9 tN ed
 replace ed:=Gq (y:=qo d9 1 (q6 aZ.cells ([(aZ.mk b.aQ a.aa.ax b.aF (H5 K L aS))])) 56 4) (congrArg (fun z9=>qo d9 1 [vI b.aQ,vU a.aa.ax,vU b.aF, .slice K z9 L] 56 4) (az P).symm) ed
 have gG:=ed.pf [1,2,3]
 refine⟨.inr ⟨_,gG⟩, ?_⟩
 have lJ:=gG.pf [14]
 have lK:=GG (az P).symm lJ
 have lL:=lK.pf [20,4,21,0,15]
 obtain⟨tO,iE,pu,iF,pz⟩:=I5 lL
 refine qd 15 rfl (Gd Tryz.call155 rfl (yh _ _ s a.aa.aI.ls.length O l a.aa.aI.ls g (D2 g) d9 (aZ.mk b.aQ a.aa.ax b.aF (H5 K L aS)) (fE.mk b.aQ a.aa.ax b.aF (E4 r)) iE e6 u (P5.inj (congrArg (fun z9=> [fE.mk b.aQ a.aa.ax b.aF (E4 z9)]) P)).1 e6 e6 e6) ?_)
 rintro _ tQ ⟨ek,eu,rfl,iG⟩
 have lM:=iF _ _ iG
 have pE:s2 (r5 (D2 g) l++((aZ.mk b.aQ a.aa.ax b.aF (H5 K L aS))::r6 (D2 g) l))=s2 (r5 (D2 g) a.aa.aI.ls++((fE.mk b.aQ a.aa.ax b.aF (E4 r))::r6 (D2 g) a.aa.aI.ls)):=by exact az (qR (z:=(fE.mk b.aQ a.aa.ax b.aF (E4 r))) u (P5.inj (congrArg (fun z9=> [fE.mk b.aQ a.aa.ax b.aF (E4 z9)]) P)).1)
 have pF:s2 (r5 (D2 g) a.aa.aI.ls++((fE.mk b.aQ a.aa.ax b.aF (E4 r))::r6 (D2 g) a.aa.aI.ls))=a.aa.aI.ls.length+1:=by simp only [p5,p3,s3,p4]; omega
 have gH:=lM.pf [2,3,4]
 refine⟨.inr ⟨_,gH⟩, ?_⟩
 refine qp d 0 16 rfl (qp d 0 17 rfl (qp d 6 18 rfl ?_))
 refine qe 19 rfl (Do.store (vs:= [.slice ek (s2 (r5 (D2 g) a.aa.aI.ls++((fE.mk b.aQ a.aa.ax b.aF (E4 r))::r6 (D2 g) a.aa.aI.ls))) eu]) (o:=6) gH rfl rfl Tryz.sizeOf31 rfl rfl rfl rfl ?_)
 intro tT lQ
 refine⟨.inl e7, ?_⟩
 refine qn (Gf (res0 rfl) ?_)
 refine⟨.inl e7, ?_⟩
 refine qn (FW (FU ?_))
 have eB:=lQ.px [] [2] []
 refine FT (Mz rfl (Kz (vP ah 1) (Lz (vI b.aQ) eB 4 C6 (Kz (vP ah 2) (Lz (vU b.aF) eB 4 E1 (Mz rfl ?_))))))
 have gJ:=eB.pf [1,14,15,0,18,19,20,21,22,23,24,25,26,27]
 obtain⟨⟨cz,G⟩,eD⟩:∃ q:bH × aB,dB p0 b.aQ b.aF 1 r (aB.mk (dC.mk a.aa.av a.aa.ax a.aa.bf a.aa.aK (E4 a.aa.ag.ls) (E4 (r5 (D2 j) a.aa.aj.ls++((bM.mk b.aX b.aQ a.aa.ax b.aF (E4 h))::r6 (D2 j) a.aa.aj.ls))) (E4 (r5 (D2 g) a.aa.aI.ls++((fE.mk b.aQ a.aa.ax b.aF (E4 r))::r6 (D2 g) a.aa.aI.ls)))) a.bI (E4 (r5 (D2 Q) a.ak.ls++r6 ((D2 Q)+1) a.ak.ls)) a.aR a.aN a.aO a.aP a.aM a.di a.cz a.cK a.cB a.cu)=q:=⟨_,rfl⟩
 obtain⟨tV,iH,pI,iI,eF⟩:=GN gJ
 refine cl Tryz.call106 (jP _ _ g0 p0 bK bL bu b.aQ b.aF 1 K r.length L aS r d (aB.mk (dC.mk a.aa.av a.aa.ax a.aa.bf a.aa.aK (E4 a.aa.ag.ls) (E4 (r5 (D2 j) a.aa.aj.ls++((bM.mk b.aX b.aQ a.aa.ax b.aF (E4 h))::r6 (D2 j) a.aa.aj.ls))) (E4 (r5 (D2 g) a.aa.aI.ls++((fE.mk b.aQ a.aa.ax b.aF (E4 r))::r6 (D2 g) a.aa.aI.ls)))) a.bI (E4 (r5 (D2 Q) a.ak.ls++r6 ((D2 Q)+1) a.ak.ls)) a.aR a.aN a.aO a.aP a.aM a.di a.cz a.cK a.cB a.cu) au av bQ bR ek eu dh di aC aD Y aF aG Z aH aI aa aJ aK ae aL aM ag cz G iH bB P (eF _ 1 _ rfl (ay (P3.2 ⟨_,v5 _ b1,b1⟩) (fun w9 U a9 b9=>o8 (az P) (aV w9 U a9 b9)))) (fun x9 U=>⟨eF _ 1 _ rfl (ay (P3.2 ⟨_,v5 _ b1, .tail _ b1⟩) (ay (P3.2 ⟨x9,U,b1⟩) aV)),bz (φ:=fun _=>_) gJ (i:=15) rfl (ay (P3.2 ⟨_,v5 _ b1, .tail _ b1⟩) (ay (P3.2 ⟨x9,U,b1⟩) bq))⟩) rfl e6 g6 aN aO aP aQ aR e8 g3 g3 i2 eD) ?_
 rintro _ tX ⟨lS,lT,lU,lV,lW,lX,lZ,l5,l6,l7,l8,l9,ma,mf,mg,mh,mi,mo,rfl,iJ,eO,eP,eQ,eT,eU,eX,eY⟩
 have aW:=iI _ _ iJ
 have pJ:=az eO
 have pK:=az eP
 have pM:=az eQ
 have pO:=az eT
 have pQ:=az eU
 have pR:=az eX
 have pU:=aW.rowC (i:=1) rfl
 have pV:=aW.rowC (i:=4) rfl
 have pW:=aW.rowC (i:=6) rfl
 have pX:=aW.rowC (i:=8) rfl
 have pY:=aW.rowC (i:=10) rfl
 have p8:=aW.rowC (i:=12) rfl
 replace eY:cz.bB.ls.length=p0.bB.ls.length+1:=eY
 refine nt (FT (Mz rfl (Kz (vP ah 0) (Lz (vU b.aX) aW 16 E1 (Kz (vP bP 4) (Lz (.slice M h.length N) aW 17 Tryz.isAgg58 ?_))))))
 obtain⟨gK,eZ⟩:∃ q,eG cz b.aX h true=q:=⟨_,rfl⟩
 obtain⟨tY,iL,qc,iM,iO⟩:=Gv aW
 refine cl Tryz.call27 (kF _ _ g0 cz lS lT lU d b.aX M h.length N h true gK iL eO (iO _ 16 _ rfl (ay (P3.2 ⟨_,v5 _ b1,b1⟩) aV)) rfl e6 g7 eZ) ?_
 rintro _ tZ ⟨mq,mr,mE,rfl,iP,fe⟩
 have gL:=iM _ _ iP
 have qf:=az fe
 have qg:=gL.rowC (i:=1) rfl
 refine WL.nil (Gf (res0 rfl) ?_)
 have mF:=gL.pk [0,1,2,3,18,19,14,15,26,27,4,5,6,7,8,9,10,11,12,13]
 obtain⟨rfl,rfl⟩:=gm (hr.symm.trans (show _=(gK,aB.mk (dC.mk G.aa.av G.aa.ax G.aa.bf G.aa.aK (E4 a.aa.ag.ls) (E4 (r5 (D2 j) a.aa.aj.ls++((bM.mk b.aX b.aQ a.aa.ax b.aF (E4 h))::r6 (D2 j) a.aa.aj.ls))) (E4 (r5 (D2 g) a.aa.aI.ls++((fE.mk b.aQ a.aa.ax b.aF (E4 r))::r6 (D2 g) a.aa.aI.ls)))) G.bI (E4 (r5 (D2 Q) a.ak.ls++r6 ((D2 Q)+1) a.ak.ls)) G.aR G.aN G.aO G.aP G.aM G.di G.cz G.cK G.cB G.cu) from et (ai (bJ bY)) (et (ai bN) (et (ip cZ) (et (ai bI) (et (ai bU) (et (ai bV) (et (gB bi) (et (ai eD) (ai eZ))))))))))
 exact⟨mq,mr,mE,bQ,bR,(r5 (D2 j) n++((aA.mk b.aX b.aQ a.aa.ax b.aF (H5 M N h))::r6 (D2 j) n)),ek,eu,(r5 (D2 g) l++((aZ.mk b.aQ a.aa.ax b.aF (H5 K L aS))::r6 (D2 g) l)),dh,di,(r5 (D2 Q) p++r6 ((D2 Q)+1) p),lV,lW,lX,lZ,l5,l6,l7,l8,l9,ma,mf,mg,mh,mi,mo,(by(first | rw [← bD] | skip); (first | rw [← bE] | skip); first | done | rfl),mF,fe,(qR (z:=(bM.mk b.aX b.aQ a.aa.ax b.aF (E4 h))) I rfl),(qR (z:=(fE.mk b.aQ a.aa.ax b.aF (E4 r))) u (P5.inj (congrArg (fun z9=> [fE.mk b.aQ a.aa.ax b.aF (E4 z9)]) P)).1),(oZ J),eP,eQ,eT,eU,eX⟩
 refine jT (dT cZ) (sr ?_)
 have mG:=gN.pf [2,3,4,5,6,7,8]
 have bS:=qO (f:=bA.own) B mG
 have qh:b.bS.ls.length≤b.bS.c∧b.bS.ls.length≤9223372036854775807:=bz bS (i:=0) rfl (φ:=fun _=>_) (ay (P3.2 ⟨b,E0 B,b1⟩) bq)
 have qi:b.aD.ls.length≤b.aD.c∧b.aD.ls.length≤9223372036854775807:=bz bS (i:=0) rfl (φ:=fun _=>_) (ay (P3.2 ⟨b,E0 B, .tail _ b1⟩) bq)
 have qj:b.bE.ls.length≤b.bE.c∧b.bE.ls.length≤9223372036854775807:=bz bS (i:=0) rfl (φ:=fun _=>_) (ay (P3.2 ⟨b,E0 B, .tail _ b2⟩) bq)
 have qm:b.ae.ls.length≤b.ae.c∧b.ae.ls.length≤9223372036854775807:=bz bS (i:=0) rfl (φ:=fun _=>_) (ay (P3.2 ⟨b,E0 B, .tail _ b3⟩) bq)
 refine Mz rfl (Mz rfl ?_)
 have mJ:=bS.px [4,5,6,7,12] [] [1,2,3,8,9,10,11]
 obtain⟨⟨gM,C⟩,fq⟩:∃ q:bH × aB,eH p0 Q a=q:=⟨_,rfl⟩
 obtain⟨uf,iQ,qw,iR,qx⟩:=GZ mJ
 refine cl Tryz.call63 (mQ _ _ g0 p0 bK bL bu Q d a au av R S s O T ax p aC aD Y aF aG Z aH aI aa aJ aK ae aL aM ag gM C iQ bB J aN aO aP aQ aR e8 (by first | assumption | exact Mk.act f4 | exact mI f8 (nZ (x:=bA.abs b) V f4) | exact mI f8 (p9 (x:=bA.abs b) V _)) e8 fq) ?_
 rintro _ ug ⟨mK,mO,mP,mU,mV,mW,mX,mY,mZ,ng,ni,nk,nu,ny,nz,nA,nC,nD,nE,nG,nH,rfl,iT,fu,fA,fB,fC,fD,fF,fG⟩
 have aX:=iR _ _ iT
 have qy:=az fu
 have qz:=az fA
 have qA:=az fB
 have qB:=az fC
 have qC:=az fD
 have qD:=az fF
 have qE:=az fG
 have qF:=aX.rowC (i:=1) rfl
 have qG:=aX.rowC (i:=4) rfl
 have qH:=aX.rowC (i:=6) rfl
 have qI:=aX.rowC (i:=8) rfl
 have qJ:=aX.rowC (i:=10) rfl
 have qK:=aX.rowC (i:=12) rfl
 have qM:=aX.rowC (i:=14) rfl
 refine nt (rt (tR (Fin.res (res0 rfl) ?_)))
 have nI:=aX.px [0,1,2,3,19,20,21,22] [16,17,18] []
 obtain⟨rfl,rfl⟩:=gm (hr.symm.trans (show _=(gM,aB.mk (dC.mk C.aa.av C.aa.ax C.aa.bf C.aa.aK (E4 a.aa.ag.ls) (E4 a.aa.aj.ls) (E4 a.aa.aI.ls)) C.bI (E4 C.ak.ls) C.aR C.aN C.aO C.aP C.aM C.di C.cz C.cK C.cB C.cu) from et (ai (bJ bY)) (et (ai bN) (et (iN cZ) (ai fq)))))
 exact⟨mK,mO,mP,R,S,n,s,O,l,mU,mV,mW,mX,mY,mZ,ng,ni,nk,nu,ny,nz,nA,nC,nD,nE,nG,nH,rfl,nI,fu,I,u,fA,fB,fC,fD,fF,fG⟩
end Go.Proofs.YtbkagebjhbphaaaGreat
