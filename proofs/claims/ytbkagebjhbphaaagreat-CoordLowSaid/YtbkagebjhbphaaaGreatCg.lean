/-
 coord: a transaction is committed.
-/
import Derived.Test.YtbkagebjhbphaaaGreatCc
import Derived.Test.YtbkagebjhbphaaaGreatCf
namespace Go.Proofs.YtbkagebjhbphaaaGreat
open Int renaming toNat→D2
open IntKind renaming i64→C7
open List renaming cons→O9,drop→r6,flatMap→q6,getD→C2,length→s2,length_append→p5,length_cons→s3,length_drop→p4,length_map→s6,length_nil→G1,length_replicate→H4,length_set→H3,length_take→p3,map→s8,mem_append_right→v5,mem_flatMap→O7,mem_of_getElem?→E0,set→u5,take→r5
open Ll renaming mk→E4
open Sv renaming mk→H2
open _root_.Go.Proofs.Tryz renaming isAgg24→N7,isAgg28→E1,isAgg3→C6,isAgg31→I0,isAgg56→O8,prog→y4,sizeOf56→N6
set_option maxRecDepth 100000
open Go.RowKit
set_option linter.unusedVariables false
set_option linter.unusedSectionVars false
set_option linter.unusedSimpArgs false
def cmp_isNaN_int (a:Int):Bool:=
 false
theorem si (w:World) (D:Nat→Prop) (a:Int) (c:Bool) (H:Own w D w []) (hr:cmp_isNaN_int a=c):
    Calls y4 169 #[vI a] w (dS fun v w'=>v= .bool c∧Own w D w' []):=by
 refine cb Tryz.func169 ?_
 refine sr (Ar rfl (Mz rfl (Mz rfl (fw (.bool false) (Fs (e:= !(decide (a=a))) yk i8) (An rfl (rt (rs ?_)))))))
 have b:=H.pk []
 obtain rfl:_=false:=hr.symm.trans rfl
 exact⟨rfl,b⟩
def cmp_Compare_int (c:Int) (d:Int):Int:=
 bnd (cmp_isNaN_int c) fun b=>bnd (cmp_isNaN_int d) fun a=>if b=true then if a=true then 0 else(-1) else if a=true then 1 else if c < d then(-1) else if c > d then 1 else 0
theorem qY (w:World) (D:Nat→Prop) (i:Int) (j:Int) (C:Int) (H:Own w D w []) (hr:cmp_Compare_int i j=C):
    Calls y4 154 #[vI i,vI j] w (dS fun v w'=>v=vI C∧Own w D w' []):=by
 refine cb Tryz.func154 ?_
 refine sr (Ar rfl (Mz rfl ?_))
 obtain⟨l,a⟩:∃ q,cmp_isNaN_int i=q:=⟨_,rfl⟩
 obtain⟨J,m,E,n,F⟩:=EU H
 refine cl Tryz.call169 (si _ _ i l m a) ?_
 rintro _ K ⟨rfl,o⟩
 have t:=n _ _ o
 refine Ar rfl (Mz rfl ?_)
 obtain⟨k,b⟩:∃ q,cmp_isNaN_int j=q:=⟨_,rfl⟩
 obtain⟨L,p,G,r,I⟩:=EU t
 refine cl Tryz.call169 (si _ _ j k p b) ?_
 rintro _ M ⟨rfl,s⟩
 have e:=r _ _ s
 refine An rfl (EP (sr (Mn rfl ?_)))
 rcases IW (l) with c | c
 refine jT c (EP (sr (Mn rfl ?_)))
 rcases IW (k) with f | f
 refine jT f (sr (An rfl (rt (tR (tR (rs ?_))))))
 have u:=e.pk []
 obtain rfl:_=0:=hr.symm.trans (et (ah a) (et (ah b) (et (ip c) (ip f))))
 exact⟨rfl,u⟩
 refine jF f (sk (sr (An rfl (rt (tR (rs ?_))))))
 have x:=e.pk []
 obtain rfl:_=(-1):=hr.symm.trans (et (ah a) (et (ah b) (et (ip c) (fU f))))
 exact⟨rfl,x⟩
 refine jF c (sk (EP (sr (Mn rfl ?_))))
 rcases IW (k) with d | d
 refine jT d (sr (An rfl (rt (tR (rs ?_)))))
 have y:=e.pk []
 obtain rfl:_=1:=hr.symm.trans (et (ah a) (et (ah b) (et (fU c) (ip d))))
 exact⟨rfl,y⟩
 refine jF d (sk (EP (sr (Mz rfl (Mz rfl (Kz (.bool (decide (i < j))) (nt ?_)))))))
 by_cases g:i < j
 refine jT (dT g) (sr (An rfl (rt (tR (rs ?_)))))
 have z:=e.pk []
 obtain rfl:_=(-1):=hr.symm.trans (et (ah a) (et (ah b) (et (fU c) (et (fU d) (ip g)))))
 exact⟨rfl,z⟩
 refine jF (dF g) (sk (EP (sr (Mz rfl (Mz rfl (Kz (.bool (decide (i > j))) (nt ?_)))))))
 by_cases h:i > j
 refine jT (dT h) (sr (An rfl (rt (tR (rs ?_)))))
 have A:=e.pk []
 obtain rfl:_=1:=hr.symm.trans (et (ah a) (et (ah b) (et (fU c) (et (fU d) (et (iN g) (ip h))))))
 exact⟨rfl,A⟩
 refine jF (dF h) (sk (sr (An rfl (rt (rs ?_)))))
 have B:=e.pk []
 obtain rfl:_=0:=hr.symm.trans (et (ah a) (et (ah b) (et (fU c) (et (fU d) (et (iN g) (iN h))))))
 exact⟨rfl,B⟩
def fA (l0:List fF) (f:Int):Nat→Nat→Nat→Nat
  | 0,a,b=>default
  | c+1,a,b=>if((a:Nat):Int) < ((b:Nat):Int) then bnd (C2 l0 ((a+b) / 2) default) fun d=>bnd (cmp_Compare_int d.aS f) fun e=>if e < 0 then fA l0 f c (((a+b) / 2)+1) b else fA l0 f c a ((a+b) / 2) else a
def il (l0:List fF) (c:Int):Int × Bool:=
 bnd (fA l0 c ((l0.length - 0)+1) 0 l0.length) fun sLrL=>if((sLrL:Nat):Int) < ((l0.length:Nat):Int) then bnd (C2 l0 sLrL default) fun a=>bnd (cmp_Compare_int a.aS c) fun b=>(((sLrL:Nat):Int),decide (b=0)) else(((sLrL:Nat):Int),false)
theorem mG (w:World) (D:Nat→Prop) (y:Option Addr) (n0 Z:Nat) (K:List aV) (l0:List fF) (n:Int) (L:Int) (r1:Bool) (H:Own w D w []) (G:s8 aV.abs K=l0) (l:Ro w D fun w'=>bD w' 4 y n0 (q6 aV.cells K)) (M:∀ x ∈ K,Ro w D (fun w'=>bD w' 3 x.ai.A x.ai.ls.length (q6 af.cells x.ai.ls))∧(x.ai.ls.length≤x.ai.c∧x.ai.ls.length≤9223372036854775807)∧(∀ J ∈ x.ai.ls,Ro w D (fun w'=>bD w' 2 J.au.A J.au.ls.length (q6 aJ.cells J.au.ls))∧(J.au.ls.length≤J.au.c∧J.au.ls.length≤9223372036854775807))) (ag:n0=l0.length) (aQ:l0.length *48≤211106232532992) (hr:il l0 n=(L,r1)):
    Calls y4 152 #[.slice y n0 Z,vI n, .func (.func 153) #[] #[]] w (dS fun v w'=>v= .tuple #[vI L, .bool r1]∧Own w D w' []∧(0≤L∧L≤((l0.length:Nat):Int))∧(Bool.toNat r1=0∨L < ((l0.length:Nat):Int))):=by
 subst ag
 have aC:=az G
 refine cb Tryz.func152 ?_
 refine sr (Az rfl (Ar rfl (Mz rfl (Kz (vJ l0.length) (Ar rfl (Mz rfl (Az rfl (An rfl (EP (bo ?_))))))))))
 have ai:=H.pk []
 obtain⟨aj,j⟩:=qo fun(a:Nat) (b:Nat) (o:Nat) (w':World)=>Own w D w' []∧a≤b∧b≤l0.length∧b - a < o∧fA l0 n ((l0.length - 0)+1) 0 l0.length=fA l0 n o a b
 refine Wp.loop (fun i:Nat × Nat × Nat=> [(9,vJ i.1),(10,vJ i.2.1),(8,vJ l0.length),(7, .bool false),(6,vI 0),(0, .slice y l0.length Z),(1,vI n),(2, .func (.func 153) #[] #[])]) aj (fun i=>i.2.2) (0,l0.length,(l0.length - 0)+1) ⟨rfl,rfl,rfl,rfl,rfl,rfl,rfl,rfl,trivial⟩ (j.2 ⟨ai,e6,e6,e6,rfl⟩) ?_
 rintro ⟨a,b,o⟩ aR N
 obtain⟨f,aD,aF,aG,p⟩:=j.1 N
 obtain⟨m,O⟩:∃ q,o=q+1:=⟨o - 1,e6⟩
 subst O
 refine EP (sr (Mz rfl (Mz rfl (Kz (.bool (decide (((a:Nat):Int) < ((b:Nat):Int)))) (nt ?_)))))
 by_cases r:((a:Nat):Int) < ((b:Nat):Int)
 refine jT (dT r) (sk (bo (sr (Mz rfl (Mz rfl (fw (vJ (a+b)) (EQ (e:=C7.wrap (((a:Nat):Int)+((b:Nat):Int))) yk f1) (fw (vU (a+b)) (EQ (e:=IntKind.u64.wrap ((a+b:Nat):Int)) yk (IntWalk.u64_in _ e6)) (fw (vU ((a+b) / 2)) (EQ (e:=Int.fdiv ((a+b:Nat):Int) 2) yk (mK _ 1 _ f3)) (fw (vJ ((a+b) / 2)) (EQ (e:=C7.wrap (((a+b) / 2:Nat):Int)) yk (IR _ e6)) (Ar rfl (Mz rfl (Mz rfl (Mz rfl ?_)))))))))))))
 obtain⟨g,s⟩:=dG (ls:=K) (i:=(a+b) / 2) aV.len f3 (f.ro l) e9
 have C:=eP G s
 have aH:=(M _ (E0 s)).2.1
 have aI:s2 (s8 af.abs g.ai.ls)=g.ai.ls.length:=s6 ..
 refine fw (.pointer (some ⟨ab y,ao y+((a+b) / 2) *4,none⟩)) (ET (lI) rfl rfl ((f.ro l).addr (i:=(a+b) / 2) e6) e6) (fw (.agg (aV.cells g).toArray) (EY rfl (Fb (cs:=(aV.cells g)) O8 N6 ((f.ro l).elem aV.len s f3))) (Mz rfl ?_))
 refine WL.do rfl (Fw Tryz.call153 rfl rfl ?_ (fun _ _ k=>k))
 refine cb Tryz.func153 ?_
 refine sr ?_
 refine dK (aV.cells g) 56 f ?_
 intro ak aS P
 refine Ar rfl (Kz (vP ak 0) (Lz (vI g.aS) P 0 C6 (Mz rfl ?_)))
 obtain⟨I,t⟩:∃ q,cmp_Compare_int g.aS n=q:=⟨_,rfl⟩
 obtain⟨aT,Q,aK,R,aL⟩:=EU P
 refine cl Tryz.call154 (qY _ _ g.aS n I Q t) ?_
 rintro _ aU ⟨rfl,S⟩
 have T:=R _ _ S
 refine An rfl (rt (rs (Kz (.bool (decide (I < 0))) (nt ?_))))
 by_cases z:I < 0
 refine jT (dT z) (EO (Mz rfl (fw (vI ((((a+b) / 2)+1:Nat):Int)) (EQ (e:=C7.wrap ((((a+b) / 2:Nat):Int)+1)) yk f1) (Az rfl (WL.nil (bN ?_))))))
 have au:=T.pk []
 exact E8 (((a+b) / 2)+1,b,m) ⟨rfl,rfl,rfl,rfl,rfl,rfl,rfl,rfl,trivial⟩ (j.2 ⟨au,e6,e6,e6,et (p) (et (ip r) (et (ah (bI C)) (et (ah t) (ip z))))⟩) (by show m < m+1; omega)
 refine jF (dF z) (EO (Mz rfl (Az rfl (WL.nil (bN ?_)))))
 have av:=T.pk []
 exact E8 (a,(a+b) / 2,m) ⟨rfl,rfl,rfl,rfl,rfl,rfl,rfl,rfl,trivial⟩ (j.2 ⟨av,e6,e6,e6,et (p) (et (ip r) (et (ah (bI C)) (et (ah t) (iN z))))⟩) (by show m < m+1; omega)
 refine jF (dF r) (Wp.exit (EX ?_))
 have E:fA l0 n ((l0.length - 0)+1) 0 l0.length=a:=et (p) (iN r)
 refine EX (Fg (ER (sr (Mz rfl (Mz rfl (Mz rfl (Kz (.bool (decide (((a:Nat):Int) < ((l0.length:Nat):Int)))) (Mz rfl ?_))))))))
 by_cases d:((a:Nat):Int) < ((l0.length:Nat):Int)
 refine gw (.func (.func 153) #[] #[]) (dT d) (E5 rfl) (gw (.slice y l0.length Z) (dT d) (E5 rfl) (gw (vJ a) (dT d) (E5 rfl) ?_))
 obtain⟨h,u⟩:=dG (ls:=K) (i:=a) aV.len f3 (f.ro l) e9
 have U:=eP G u
 have aM:=(M _ (E0 u)).2.1
 have aN:s2 (s8 af.abs h.ai.ls)=h.ai.ls.length:=s6 ..
 refine gw (.pointer (some ⟨ab y,ao y+a *4,none⟩)) (dT d) (ET (lI) rfl rfl ((f.ro l).addr (i:=a) e6) e6) (gw (.agg (aV.cells h).toArray) (dT d) (EY rfl (Fb (cs:=(aV.cells h)) O8 N6 ((f.ro l).elem aV.len u f3))) (gw (vI n) (dT d) (E5 rfl) ?_))
 refine F7 rfl rfl (dT d) rfl (Fw Tryz.call153 rfl rfl ?_ (fun _ _ k=>k))
 refine cb Tryz.func153 ?_
 refine sr ?_
 refine dK (aV.cells h) 56 f ?_
 intro ax aW V
 refine Ar rfl (Kz (vP ax 0) (Lz (vI h.aS) V 0 C6 (Mz rfl ?_)))
 obtain⟨B,F⟩:∃ q,cmp_Compare_int h.aS n=q:=⟨_,rfl⟩
 obtain⟨aX,W,aO,X,aP⟩:=EU V
 refine cl Tryz.call154 (qY _ _ h.aS n B W F) ?_
 rintro _ aY ⟨rfl,Y⟩
 have ay:=X _ _ Y
 refine An rfl (rt (rs (Gz (.bool (decide (B=0))) (dT d) (fw (.bool (decide (B=0))) (Fa rfl (dT d) rfl) (Az rfl (An rfl (rt (Fin.res (lT rfl rfl rfl) ?_))))))))
 have aA:=ay.pk []
 obtain⟨rfl,rfl⟩:=fT (hr.symm.trans (show _=(((a:Nat):Int),decide (B=0)) from et (ah E) (et (ip d) (et (ah (bI U)) (ah F)))))
 exact⟨rfl,aA,e6,i7⟩
 refine Sz (dF d) (Sz (dF d) (Sz (dF d) (Sz (dF d) (Sz (dF d) (Sz (dF d) (Sz (dF d) (Sz (dF d) (fw (.bool false) (ES rfl (dF d) rfl) (Az rfl (An rfl (rt (Fin.res (lT rfl rfl rfl) ?_))))))))))))
 have aB:=f.pk []
 obtain⟨rfl,rfl⟩:=fT (hr.symm.trans (show _=(((a:Nat):Int),false) from et (ah E) (iN d)))
 exact⟨rfl,aB,e6,i7⟩
def lg (m:bO) (j:Int) (a:aB):bO × aB:=
 bnd (C2 a.aA.ls (D2 j) default) fun b=>bnd (nk b.bS.ls b.aC.ls b.ae.ls) fun i=>if i.2=0 then bnd (kg (dH.mk b.bq b.aW b.aH b.dw (E4 b.bS.ls) (E4 b.aC.ls) (E4 b.bF.ls) (E4 b.ae.ls) b.dZ)) fun h=>bnd (bU a.aa.aj.ls b.bq) fun f=>bnd (il a.aa.aF.ls b.aW) fun g=>if g.2=true then bnd (dX m b.aW b.aH 1 i.1 (aB.mk (dA.mk a.aa.ak a.aa.ax a.aa.bi a.aa.aI (E4 a.aa.ag.ls) (E4 (r5 (D2 f.1) a.aa.aj.ls++((bL.mk b.bq b.aW a.aa.ax b.aH (E4 h))::r6 (D2 f.1) a.aa.aj.ls))) (E4 (u5 a.aa.aF.ls (D2 g.1) (fF.mk b.aW a.aa.ax b.aH (E4 i.1))))) a.bH (E4 (r5 (D2 j) a.aA.ls++r6 ((D2 j)+1) a.aA.ls)) a.aQ a.aO a.aL a.aN a.aK a.df a.cu a.cz a.cB a.cK)) fun d=>bnd (fq d.1 b.bq h true) fun k=>(k,aB.mk (dA.mk d.2.aa.ak d.2.aa.ax d.2.aa.bi d.2.aa.aI (E4 a.aa.ag.ls) (E4 (r5 (D2 f.1) a.aa.aj.ls++((bL.mk b.bq b.aW a.aa.ax b.aH (E4 h))::r6 (D2 f.1) a.aa.aj.ls))) (E4 (u5 a.aa.aF.ls (D2 g.1) (fF.mk b.aW a.aa.ax b.aH (E4 i.1))))) d.2.bH (E4 (r5 (D2 j) a.aA.ls++r6 ((D2 j)+1) a.aA.ls)) d.2.aQ d.2.aO d.2.aL d.2.aN d.2.aK d.2.df d.2.cu d.2.cz d.2.cB d.2.cK) else bnd (dX m b.aW b.aH 1 i.1 (aB.mk (dA.mk a.aa.ak a.aa.ax a.aa.bi a.aa.aI (E4 a.aa.ag.ls) (E4 (r5 (D2 f.1) a.aa.aj.ls++((bL.mk b.bq b.aW a.aa.ax b.aH (E4 h))::r6 (D2 f.1) a.aa.aj.ls))) (E4 (r5 (D2 g.1) a.aa.aF.ls++((fF.mk b.aW a.aa.ax b.aH (E4 i.1))::r6 (D2 g.1) a.aa.aF.ls)))) a.bH (E4 (r5 (D2 j) a.aA.ls++r6 ((D2 j)+1) a.aA.ls)) a.aQ a.aO a.aL a.aN a.aK a.df a.cu a.cz a.cB a.cK)) fun e=>bnd (fq e.1 b.bq h true) fun l=>(l,aB.mk (dA.mk e.2.aa.ak e.2.aa.ax e.2.aa.bi e.2.aa.aI (E4 a.aa.ag.ls) (E4 (r5 (D2 f.1) a.aa.aj.ls++((bL.mk b.bq b.aW a.aa.ax b.aH (E4 h))::r6 (D2 f.1) a.aa.aj.ls))) (E4 (r5 (D2 g.1) a.aa.aF.ls++((fF.mk b.aW a.aa.ax b.aH (E4 i.1))::r6 (D2 g.1) a.aa.aF.ls)))) e.2.bH (E4 (r5 (D2 j) a.aA.ls++r6 ((D2 j)+1) a.aA.ls)) e.2.aQ e.2.aO e.2.aL e.2.aN e.2.aK e.2.df e.2.cu e.2.cz e.2.cB e.2.cK) else bnd (gz m j a) fun c=>(c.1,aB.mk (dA.mk c.2.aa.ak c.2.aa.ax c.2.aa.bi c.2.aa.aI (E4 a.aa.ag.ls) (E4 a.aa.aj.ls) (E4 a.aa.aF.ls)) c.2.bH (E4 c.2.aA.ls) c.2.aQ c.2.aO c.2.aL c.2.aN c.2.aK c.2.df c.2.cu c.2.cz c.2.cB c.2.cK)
set_option maxHeartbeats 4000000 in
theorem ut (w:World) (D:Nat→Prop) (g0:Nat) (p0:bO) (bJ:Option Addr) (bK:Nat) (bu:List bA) (Q:Int) (d:Nat) (a:aB) (au:Option Addr) (ax:Nat) (R:Option Addr) (S:Nat) (n:List ay) (s:Option Addr) (O:Nat) (l:List aV) (T:Option Addr) (aA:Nat) (p:List bB) (aC:Option Addr) (aD:Nat) (Y:List af) (aF:Option Addr) (aG:Nat) (Z:List af) (aH:Option Addr) (aI:Nat) (aa:List af) (aJ:Option Addr) (aK:Nat) (ae:List af) (aL:Option Addr) (aM:Nat) (ag:List af) (r0:bO) (E:aB) (H:Own w D w [blk g0 [.pointer (some ⟨d,0,none⟩), .slice bJ p0.bE.ls.length bK] 98,row bJ p0.bE.ls.length bK (q6 bA.cells bu) 42 21,sepL (q6 bA.own bu),blk d [.int .i64 a.aa.ak, .int .u64 ((a.aa.ax:Nat):Int), .int .u64 ((a.aa.bi:Nat):Int), .int .u64 ((a.aa.aI:Nat):Int), .slice au a.aa.ag.ls.length ax, .slice R a.aa.aj.ls.length S, .slice s a.aa.aF.ls.length O, .int .u64 ((a.bH:Nat):Int), .slice T a.aA.ls.length aA, .bool a.aQ.aR, .int .u64 ((a.aQ.aH:Nat):Int), .int .i64 a.aQ.aZ, .slice aC a.aQ.ae.ls.length aD, .bool a.aO.aR, .int .u64 ((a.aO.aH:Nat):Int), .int .i64 a.aO.aZ, .slice aF a.aO.ae.ls.length aG, .bool a.aL.aR, .int .u64 ((a.aL.aH:Nat):Int), .int .i64 a.aL.aZ, .slice aH a.aL.ae.ls.length aI, .bool a.aN.aR, .int .u64 ((a.aN.aH:Nat):Int), .int .i64 a.aN.aZ, .slice aJ a.aN.ae.ls.length aK, .bool a.aK.aR, .int .u64 ((a.aK.aH:Nat):Int), .int .i64 a.aK.aZ, .slice aL a.aK.ae.ls.length aM, .int .u64 ((a.df:Nat):Int), .int .u64 ((a.cu:Nat):Int), .int .u64 ((a.cz:Nat):Int), .int .u64 ((a.cB:Nat):Int), .int .u64 ((a.cK:Nat):Int), .pointer none] 86,row R a.aa.aj.ls.length S (q6 ay.cells n) 60 5,sepL (q6 ay.own n),row s a.aa.aF.ls.length O (q6 aV.cells l) 56 4,sepL (q6 aV.own l),row T a.aA.ls.length aA (q6 bB.cells p) 107 9,sepL (q6 bB.own p),row aC a.aQ.ae.ls.length aD (q6 af.cells Y) 149 3,sepL (q6 af.own Y),row aF a.aO.ae.ls.length aG (q6 af.cells Z) 149 3,sepL (q6 af.own Z),row aH a.aL.ae.ls.length aI (q6 af.cells aa) 149 3,sepL (q6 af.own aa),row aJ a.aN.ae.ls.length aK (q6 af.cells ae) 149 3,sepL (q6 af.own ae),row aL a.aK.ae.ls.length aM (q6 af.cells ag) 149 3,sepL (q6 af.own ag)]) (bD:s8 bA.abs bu=p0.bE.ls) (I:s8 ay.abs n=a.aa.aj.ls) (u:s8 aV.abs l=a.aa.aF.ls) (J:s8 bB.abs p=a.aA.ls) (aN:s8 af.abs Y=a.aQ.ae.ls) (aO:s8 af.abs Z=a.aO.ae.ls) (aP:s8 af.abs aa=a.aL.ae.ls) (aQ:s8 af.abs ae=a.aN.ae.ls) (aR:s8 af.abs ag=a.aK.ae.ls) (uh:a.aa.ag.ls.length≤1000∧a.aa.aj.ls.length≤1000∧a.aa.aF.ls.length≤1000∧a.aA.ls.length≤1000∧p0.bE.ls.length≤100000) (ui:Ak a.aA.ls) (uj:0≤Q∧Q < ((a.aA.ls.length:Nat):Int)) (hr:lg p0 Q a=(r0,E)):
    Calls y4 94 #[vP g0 0,vI Q] w (dS fun v w'=> ∃ (B0ox0:Option Addr) (b0ox0:Nat) (e0ox0:List bA) (B1ox1:Option Addr) (b1ox1:Nat) (e1ox1:List ay) (B1ox2:Option Addr) (b1ox2:Nat) (e1ox2:List aV) (B1ox3:Option Addr) (b1ox3:Nat) (e1ox3:List bB) (B1ox4:Option Addr) (b1ox4:Nat) (e1ox4:List af) (B1ox5:Option Addr) (b1ox5:Nat) (e1ox5:List af) (B1ox6:Option Addr) (b1ox6:Nat) (e1ox6:List af) (B1ox7:Option Addr) (b1ox7:Nat) (e1ox7:List af) (B1ox8:Option Addr) (b1ox8:Nat) (e1ox8:List af),v= .tuple #[]∧Own w D w' [blk g0 [vP d 0, .slice B0ox0 r0.bE.ls.length b0ox0] 98,row B0ox0 r0.bE.ls.length b0ox0 (q6 bA.cells e0ox0) 42 21,sepL (q6 bA.own e0ox0),blk d [vI E.aa.ak,vU E.aa.ax,vU E.aa.bi,vU E.aa.aI, .slice au a.aa.ag.ls.length ax, .slice B1ox1 E.aa.aj.ls.length b1ox1, .slice B1ox2 E.aa.aF.ls.length b1ox2,vU E.bH, .slice B1ox3 E.aA.ls.length b1ox3, .bool E.aQ.aR,vU E.aQ.aH,vI E.aQ.aZ, .slice B1ox4 E.aQ.ae.ls.length b1ox4, .bool E.aO.aR,vU E.aO.aH,vI E.aO.aZ, .slice B1ox5 E.aO.ae.ls.length b1ox5, .bool E.aL.aR,vU E.aL.aH,vI E.aL.aZ, .slice B1ox6 E.aL.ae.ls.length b1ox6, .bool E.aN.aR,vU E.aN.aH,vI E.aN.aZ, .slice B1ox7 E.aN.ae.ls.length b1ox7, .bool E.aK.aR,vU E.aK.aH,vI E.aK.aZ, .slice B1ox8 E.aK.ae.ls.length b1ox8,vU E.df,vU E.cu,vU E.cz,vU E.cB,vU E.cK, .pointer none] 86,row B1ox1 E.aa.aj.ls.length b1ox1 (q6 ay.cells e1ox1) 60 5,sepL (q6 ay.own e1ox1),row B1ox2 E.aa.aF.ls.length b1ox2 (q6 aV.cells e1ox2) 56 4,sepL (q6 aV.own e1ox2),row B1ox3 E.aA.ls.length b1ox3 (q6 bB.cells e1ox3) 107 9,sepL (q6 bB.own e1ox3),row B1ox4 E.aQ.ae.ls.length b1ox4 (q6 af.cells e1ox4) 149 3,sepL (q6 af.own e1ox4),row B1ox5 E.aO.ae.ls.length b1ox5 (q6 af.cells e1ox5) 149 3,sepL (q6 af.own e1ox5),row B1ox6 E.aL.ae.ls.length b1ox6 (q6 af.cells e1ox6) 149 3,sepL (q6 af.own e1ox6),row B1ox7 E.aN.ae.ls.length b1ox7 (q6 af.cells e1ox7) 149 3,sepL (q6 af.own e1ox7),row B1ox8 E.aK.ae.ls.length b1ox8 (q6 af.cells e1ox8) 149 3,sepL (q6 af.own e1ox8)]∧(s8 bA.abs e0ox0=r0.bE.ls)∧(s8 ay.abs e1ox1=E.aa.aj.ls)∧(s8 aV.abs e1ox2=E.aa.aF.ls)∧(s8 bB.abs e1ox3=E.aA.ls)∧(s8 af.abs e1ox4=E.aQ.ae.ls)∧(s8 af.abs e1ox5=E.aO.ae.ls)∧(s8 af.abs e1ox6=E.aL.ae.ls)∧(s8 af.abs e1ox7=E.aN.ae.ls)∧(s8 af.abs e1ox8=E.aK.ae.ls)):=by
 have nK:=az bD
 have iU:=az I
 have iV:=az u
 have iW:=az J
 have iX:=az aN
 have iY:=az aO
 have iZ:=az aP
 have ja:=az aQ
 have jb:=az aR
 have nL:=H.rowC (i:=1) rfl
 have jc:=H.rowC (i:=4) rfl
 have jd:=H.rowC (i:=6) rfl
 have je:=H.rowC (i:=8) rfl
 have jf:=H.rowC (i:=10) rfl
 have jg:=H.rowC (i:=12) rfl
 have jh:=H.rowC (i:=14) rfl
 have jk:=H.rowC (i:=16) rfl
 have jl:=H.rowC (i:=18) rfl
 refine cb Tryz.func94 ?_
 refine sr (Mz rfl (Kz (vP g0 0) (Kz (vP g0 0) (Lz (vP d 0) H 0 N7 (Kz (vP d 0) (Kz (vP d 8) (Lz (.slice T a.aA.ls.length aA) H 3 Tryz.isAgg79 (fw (vJ (D2 Q)) (EQ (e:=Q) (E5 rfl) e6) ?_))))))))
 obtain⟨b,B⟩:=dG (ls:=p) (i:=D2 Q) bB.len f3 (H.rds (i:=8) rfl) e9
 have bY:=eP J B
 have qQ:b.bS.ls.length≤b.bS.c∧b.bS.ls.length≤9223372036854775807:=bz H (i:=9) rfl (φ:=fun _=>_) (av (O7.2 ⟨b,E0 B,b1⟩) bn)
 have qR:b.aC.ls.length≤b.aC.c∧b.aC.ls.length≤9223372036854775807:=bz H (i:=9) rfl (φ:=fun _=>_) (av (O7.2 ⟨b,E0 B, .tail _ b1⟩) bn)
 have qU:b.bF.ls.length≤b.bF.c∧b.bF.ls.length≤9223372036854775807:=bz H (i:=9) rfl (φ:=fun _=>_) (av (O7.2 ⟨b,E0 B, .tail _ b2⟩) bn)
 have qV:b.ae.ls.length≤b.ae.c∧b.ae.ls.length≤9223372036854775807:=bz H (i:=9) rfl (φ:=fun _=>_) (av (O7.2 ⟨b,E0 B, .tail _ b3⟩) bn)
 have V:Tok (bB.abs b):=xm f9 bY
 have qW:1≤b.aW∧b.aW≤4:=V.zL
 have qX:b.bF.ls.length=b.aC.ls.length:=by have q9:=V.yes; simp only [bB.abs,s6] at q9; exact q9
 have qY:b.ae.ls.length=b.aC.ls.length:=by have q9:=V.res; simp only [bB.abs,s6] at q9; exact q9
 have qZ:b.aC.ls.length≤5:=by have q9:=V.len; simp only [bB.abs,s6] at q9; exact q9
 have q8:b.bS.ls.length≤24:=V.ops.1
 have rf:tt (s8 bM.abs b.ae.ls)≤100000000:=D7 V
 refine fw (.pointer (some ⟨ab T,ao T+(D2 Q) *9,none⟩)) (ET (oQ) rfl rfl ((H.rds (i:=8) rfl).addr (i:=D2 Q) e6) e6) (fw (.agg (bB.cells b).toArray) (EY rfl (Fb (cs:=(bB.cells b)) Tryz.isAgg107 Tryz.sizeOf107 ((H.rds (i:=8) rfl).elem bB.len B f3))) ?_)
 refine dK (qC 0 0 0 0 none 0 0 none 0 0 none 0 0 none 0 0 0) 107 H ?_
 intro ai uk nM
 refine dN (bB.cells b) 0 nM Tryz.sizeOf107 ?_
 intro ul nN
 refine ns (Kz (vP ai 4) ?_)
 have nO:=nN.pf [10]
 have bf:=GN (f:=bB.own) (i:=D2 Q) (row b.bS.A b.bS.ls.length b.bS.c (q6 bC.cells b.bS.ls) 72 6) (row b.aC.A b.aC.ls.length b.aC.c (q6 bG.cells b.aC.ls) 172 3) (row b.bF.A b.bF.ls.length b.bF.c (q6 eL b.bF.ls) 4 1) (row b.ae.A b.ae.ls.length b.ae.c (q6 (FJ (β:=af)) b.ae.ls) 40 1) (sepL (q6 bG.own b.aC.ls)) (sepL (q6 bM.own b.ae.ls)) rfl B nO
 have rq:=bf.rowC (i:=0) rfl
 have ru:=bf.rowC (i:=1) rfl
 have ry:b.aC.ls.length=s2 (s8 bG.abs b.aC.ls):=az (rfl:s8 bG.abs b.aC.ls=s8 bG.abs b.aC.ls)
 have rz:=bf.rowC (i:=2) rfl
 have rA:=bf.rowC (i:=3) rfl
 have rC:b.ae.ls.length=s2 (s8 bM.abs b.ae.ls):=az (rfl:s8 bM.abs b.ae.ls=s8 bM.abs b.ae.ls)
 refine Lz (.slice b.bS.A b.bS.ls.length b.bS.c) bf 7 Tryz.isAgg39 (Kz (vP ai 5) (Lz (.slice b.aC.A b.aC.ls.length b.aC.c) bf 7 Tryz.isAgg103 (Kz (vP ai 7) (Lz (.slice b.ae.A b.ae.ls.length b.ae.c) bf 7 Tryz.isAgg105 ?_))))
 have rD:b.aC.ls.length=s2 (s8 bG.abs b.aC.ls):=f0
 have rE:b.ae.ls.length=s2 (s8 bM.abs b.ae.ls):=f0
 obtain⟨⟨r,cO⟩,bN⟩:∃ q:(List aX) × Int,nk b.bS.ls (s8 bG.abs b.aC.ls) (s8 bM.abs b.ae.ls)=q:=⟨_,rfl⟩
 obtain⟨um,jm,rF,jo,bg⟩:=EU bf
 refine cl Tryz.call129 (wY _ _ b.bS.A b.bS.ls.length b.bS.c b.bS.ls b.aC.A b.aC.ls.length b.aC.c b.aC.ls (s8 bG.abs b.aC.ls) b.ae.A b.ae.ls.length b.ae.c b.ae.ls (s8 bM.abs b.ae.ls) r cO jm (bg _ 0 _ rfl aT) rfl e6 (rfl:s8 bG.abs b.aC.ls=s8 bG.abs b.aC.ls) (bg _ 1 _ rfl aT) (fun x9 U=>⟨bg _ 4 _ rfl (av (O7.2 ⟨x9,U,b1⟩) aT),bz (φ:=fun _=>_) bf (i:=4) rfl (av (O7.2 ⟨x9,U,b1⟩) bn),bg _ 4 _ rfl (av (O7.2 ⟨x9,U, .tail _ b1⟩) aT),bz (φ:=fun _=>_) bf (i:=4) rfl (av (O7.2 ⟨x9,U, .tail _ b1⟩) bn)⟩) f0 g4 (rfl:s8 bM.abs b.ae.ls=s8 bM.abs b.ae.ls) (bg _ 3 _ rfl aT) (fun x9 U=>⟨bg _ 5 _ rfl (av (O7.2 ⟨x9,U,b1⟩) aT),bz (φ:=fun _=>_) bf (i:=5) rfl (av (O7.2 ⟨x9,U,b1⟩) bn),(fun y1 k1=>⟨bg _ 5 _ rfl (av (O7.2 ⟨x9,U, .tail _ b1⟩) (av (O7.2 ⟨y1,k1,b1⟩) aT)),bz (φ:=fun _=>_) bf (i:=5) rfl (av (O7.2 ⟨x9,U, .tail _ b1⟩) (av (O7.2 ⟨y1,k1,b1⟩) bn))⟩)⟩) f0 g4 (by first | assumption | omega) bN) ?_
 rintro _ uo ⟨K,L,aS,rfl,jq,P⟩
 have gM:=jo _ _ jq
 have rG:=az P
 have rH:=gM.rowC (i:=0) rfl
 have jr:mJ r:=xn bN V.ops.1 V.ops.2 V.AO
 have rJ:r.length≤1000:=jr.1
 refine Mz rfl (Kz (.slice K r.length L) (Kz (vI cO) (Az rfl (An rfl (EP (sr (Mz rfl (fw (.bool (decide (¬ (cO=0)))) (Fs (e:= !(decide (cO=0))) yk decide_not.symm) (nt ?_)))))))))
 by_cases cZ:cO=0
 refine jF (dF (IV cZ)) (sk (EP ?_))
 have nQ:=gM.pf [10,13]
 refine o5 [17] (E9 Fp) nQ ?_
 intro uq nR
 have nS:=nR.pf [4,5,6,7,8,9,10]
 have df:=qB (f:=bB.own) B nS
 have rM:b.bS.ls.length≤b.bS.c∧b.bS.ls.length≤9223372036854775807:=bz df (i:=0) rfl (φ:=fun _=>_) (av (O7.2 ⟨b,E0 B,b1⟩) bn)
 have rO:b.aC.ls.length≤b.aC.c∧b.aC.ls.length≤9223372036854775807:=bz df (i:=0) rfl (φ:=fun _=>_) (av (O7.2 ⟨b,E0 B, .tail _ b1⟩) bn)
 have rP:b.bF.ls.length≤b.bF.c∧b.bF.ls.length≤9223372036854775807:=bz df (i:=0) rfl (φ:=fun _=>_) (av (O7.2 ⟨b,E0 B, .tail _ b2⟩) bn)
 have rQ:b.ae.ls.length≤b.ae.c∧b.ae.ls.length≤9223372036854775807:=bz df (i:=0) rfl (φ:=fun _=>_) (av (O7.2 ⟨b,E0 B, .tail _ b3⟩) bn)
 refine qv 0 rfl rfl (qp g0 0 1 rfl (qp g0 0 2 rfl (ql 3 rfl 0 N7 rfl rfl rfl (qv 4 rfl rfl (qp g0 0 5 rfl (qp g0 0 6 rfl (ql 7 rfl 0 N7 rfl rfl rfl (qp d 0 8 rfl (qp d 8 9 rfl (ql 10 rfl 1 Tryz.isAgg79 rfl rfl rfl (qv 11 rfl rfl (qv 12 rfl rfl (qt (v:=vI (Q+1)) 13 rfl (fun _ _=>EQ (e:=C7.wrap (Q+1)) yk g2) ?_)))))))))))))
 have nT:=df.pf [12]
 obtain⟨uu,jv,rR,jy,rT⟩:=Fv nT
 refine qd 14 rfl (Fe Tryz.call105 rfl (uD _ _ T a.aA.ls.length aA p a.aA.ls Q (Q+1) (D2 Q) b jv e6 J e6 e6 e6 B) ?_)
 rintro _ uw ⟨dh,di,rfl,jA⟩
 have dm:=jy _ _ jA
 have rU:s2 (r5 (D2 Q) p++r6 ((D2 Q)+1) p)=s2 (r5 (D2 Q) a.aA.ls++r6 ((D2 Q)+1) a.aA.ls):=by exact az (oM J)
 have rV:s2 (r5 (D2 Q) a.aA.ls++r6 ((D2 Q)+1) a.aA.ls)+1=a.aA.ls.length:=by simp only [p5,p3,p4]; omega
 have rW:b.aC.ls.length=s2 (s8 bG.abs b.aC.ls):=by exact(s6 _).symm
 have rX:b.ae.ls.length=s2 (s8 bM.abs b.ae.ls):=by exact(s6 _).symm
 have rY:=dm.rowC (i:=2) rfl
 have rZ:=dm.rowC (i:=3) rfl
 have r9:=dm.rowC (i:=4) rfl
 have si:=dm.rowC (i:=5) rfl
 have jB:=dm.pf [8,9]
 refine⟨.inr ⟨_,jB⟩, ?_⟩
 refine qp d 0 15 rfl (qp d 8 16 rfl ?_)
 have nU:=jB.pf [1]
 refine qe 17 rfl (Do.store (vs:= [.slice dh (s2 (r5 (D2 Q) a.aA.ls++r6 ((D2 Q)+1) a.aA.ls)) di]) (o:=8) nU rfl rfl Tryz.sizeOf79 rfl rfl rfl rfl ?_)
 intro sj jC
 refine⟨.inl e7, ?_⟩
 refine qn (ER (EP ?_))
 have bE:b.aC.ls.length=s2 (s8 bG.abs b.aC.ls):=by first | omega | (simp only [H3]; done) | (simp only [H3,p5,s3,G1,p3,p4,H4]; omega)
 have jD:=jC.pf [5]
 have jE:=FL bE jD
 have jG:=jE.pf [12]
 have jH:=FZ 5 bE jG
 have jI:=jH.pf [2,3,4,5,6,1,7,8,9,10,11,12]
 have bF:b.ae.ls.length=s2 (s8 bM.abs b.ae.ls):=by first | omega | (simp only [H3]; done) | (simp only [H3,p5,s3,G1,p3,p4,H4]; omega)
 have jJ:=jI.pf [7]
 have jK:=FL bF jJ
 have jL:=jK.pf [12]
 have jN:=FZ 7 bF jL
 have jO:=jN.pf [2,3,4,5,6,7,8,1,9,10,11,12]
 refine o5 [] (E9 Fp) jO ?_
 intro su jP
 refine qp ai 0 0 rfl ?_
 have fK:=jP.pf [0,1,12]
 refine Ab fK (ql 1 rfl 2 E1 rfl rfl rfl (qp ai 1 2 rfl (ql 3 rfl 2 C6 rfl rfl rfl (qv 4 rfl rfl (qp g0 0 5 rfl (qp g0 0 6 rfl (ql 7 rfl 1 N7 rfl rfl rfl (qp d 0 8 rfl (qp d 0 9 rfl (qp d 1 10 rfl (ql 11 rfl 0 E1 rfl rfl rfl (qp ai 2 12 rfl (ql 13 rfl 2 E1 rfl rfl rfl ?_)))))))))))))
 obtain⟨h,bH⟩:∃ q,kg (dH.mk b.bq b.aW b.aH b.dw (E4 b.bS.ls) (E4 (s8 bG.abs b.aC.ls)) (E4 b.bF.ls) (E4 (s8 bM.abs b.ae.ls)) b.dZ)=q:=⟨_,rfl⟩
 have nV:h.length≤5:=by have q9:=xu bH; simp only [s6] at q9; omega
 refine CJ ⟨14,_,_,_,_,_,Option Addr × Nat,fun g9=> .slice g9.1 h.length g9.2,fun _=>True,fun g9=> [row g9.1 h.length g9.2 (q6 (eI .i64) h) 3 1]⟩ ⟨16,_,_,_,_,_,Nat,fun g9=>vP g9 0,fun _=>True,fun g9=> [blk g9 [.int .u64 0,vI 0, .int .u64 0, .int .u64 0, .slice none 0 0] 60]⟩ 15 3 fK ⟨⟨rfl,rfl,rfl, ?_⟩,⟨rfl,rfl,rfl, ?_⟩,trivial⟩ rfl ?_
 intro sw L' jQ
 refine(FQ (cs:= [.int .u64 0,vI 0, .int .u64 0, .int .u64 0, .slice none 0 0]) (t:=60) jQ rfl rfl (fun _=>by kernel_rfl) ?_)
 intro bP sD jR
 exact⟨bP,rfl,trivial,jR⟩
 intro sF L' jS
 have aU:=jS.pf [3]
 have nW:=aU.rowC (i:=6) rfl
 have nX:=aU.rowC (i:=7) rfl
 have nY:=aU.rowC (i:=8) rfl
 have nZ:=aU.rowC (i:=9) rfl
 obtain⟨sG,gN,og,gP,W⟩:=Fu aU
 refine(Fe Tryz.call107 rfl (qy _ _ ai (dH.mk b.bq b.aW b.aH b.dw (E4 b.bS.ls) (E4 (s8 bG.abs b.aC.ls)) (E4 b.bF.ls) (E4 (s8 bM.abs b.ae.ls)) b.dZ) b.bS.A b.bS.c b.aC.A b.aC.c b.aC.ls b.bF.A b.bF.c b.ae.A b.ae.c b.ae.ls h gN (W _ 5 _ rfl aT) (show b.bS.ls.length≤b.bS.c∧b.bS.ls.length≤9223372036854775807 from by omega) (rfl:s8 bG.abs b.aC.ls=s8 bG.abs b.aC.ls) (W _ 6 _ rfl aT) (show s2 (s8 bG.abs b.aC.ls)≤b.aC.c∧s2 (s8 bG.abs b.aC.ls)≤9223372036854775807 from by omega) (fun x9 U=>⟨W _ 9 _ rfl (av (O7.2 ⟨x9,U,b1⟩) aT),bz (φ:=fun _=>_) aU (i:=10) rfl (av (O7.2 ⟨x9,U,b1⟩) bn),W _ 9 _ rfl (av (O7.2 ⟨x9,U, .tail _ b1⟩) aT),bz (φ:=fun _=>_) aU (i:=10) rfl (av (O7.2 ⟨x9,U, .tail _ b1⟩) bn)⟩) (W _ 7 _ rfl aT) (show b.bF.ls.length≤b.bF.c∧b.bF.ls.length≤9223372036854775807 from by omega) (rfl:s8 bM.abs b.ae.ls=s8 bM.abs b.ae.ls) (W _ 8 _ rfl aT) (show s2 (s8 bM.abs b.ae.ls)≤b.ae.c∧s2 (s8 bM.abs b.ae.ls)≤9223372036854775807 from by omega) (fun x9 U=>⟨W _ 10 _ rfl (av (O7.2 ⟨x9,U,b1⟩) aT),bz (φ:=fun _=>_) aU (i:=11) rfl (av (O7.2 ⟨x9,U,b1⟩) bn),(fun y1 k1=>⟨W _ 10 _ rfl (av (O7.2 ⟨x9,U, .tail _ b1⟩) (av (O7.2 ⟨y1,k1,b1⟩) aT)),bz (φ:=fun _=>_) aU (i:=11) rfl (av (O7.2 ⟨x9,U, .tail _ b1⟩) (av (O7.2 ⟨y1,k1,b1⟩) bn))⟩)⟩) e8 bH) ?_)
 rintro _ sH ⟨M,N,rfl,gQ⟩
 have jU:=gP _ _ gQ
 have jV:=jU.pf [0,2,3,4]
 exact⟨(M,N),rfl,trivial,jV⟩
 rintro ⟨M,N⟩ _
 refine⟨.agg #[vU b.bq,vI b.aW,vU a.aa.ax,vU b.aH, .slice M h.length N],fun _=>yk, ?_⟩
 rintro bP _
 intro jW jX
 have fM:Own w D jW (blk bP [.int .u64 0,vI 0, .int .u64 0, .int .u64 0, .slice none 0 0] 60::row M h.length N (q6 (eI .i64) h) 3 1::_):=jX.flat.pf []
 have oh:=fM.rowC (i:=1) rfl
 have jY:=fM.pf [2,3,4]
 have jZ:=jY.pf [3]
 refine qe 17 rfl (Do.store (vs:= [vU b.bq,vI b.aW,vU a.aa.ax,vU b.aH, .slice M h.length N]) (o:=0) jZ rfl rfl Tryz.sizeOf60 rfl rfl rfl rfl ?_)
 intro sI j3
 have fO:=j3.pf [1,2,3]
 refine⟨.inr ⟨_,fO⟩, ?_⟩
 refine qn (ER (EP ?_))
 have j4:=fO.pf [1,2,3,4,7,8,9,10,11,12,13,14,15,16]
 refine oF 14 [] (E9 Fp) j4 ?_
 intro sJ dn
 refine qv 0 rfl rfl (qp g0 0 1 rfl (qp g0 0 2 rfl (ql 3 rfl 0 N7 rfl rfl rfl (qp ai 0 4 rfl (ql 5 rfl 1 E1 rfl rfl rfl ?_)))))
 refine GX.do 6 rfl e7 (Fe Tryz.call95 rfl ?_ (fun _ _ k=>k))
 refine cb Tryz.func95 ?_
 refine sr (Az rfl (Ar rfl (Mz rfl (Kz (vP d 0) (Kz (vP d 0) (Kz (vP d 5) (Lz (.slice R a.aa.aj.ls.length S) dn 14 Tryz.isAgg30 (Mz rfl ?_))))))))
 obtain⟨⟨j,bZ⟩,bT⟩:∃ q:Int × Bool,bU a.aa.aj.ls b.bq=q:=⟨_,rfl⟩
 obtain⟨sK,gU,ol,gV,dw⟩:=EU dn
 refine cl Tryz.call132 (gT _ _ R a.aa.aj.ls.length S n a.aa.aj.ls b.bq j bZ gU I (dw _ 17 _ rfl aT) (fun x9 U=>⟨dw _ 18 _ rfl (av (O7.2 ⟨x9,U,b1⟩) aT),bz (φ:=fun _=>_) dn (i:=18) rfl (av (O7.2 ⟨x9,U,b1⟩) bn)⟩) rfl e6 bT) ?_
 rintro _ sM ⟨rfl,gW,dx,dz⟩
 have fP:=gV _ _ gW
 replace dx:0≤j∧j≤((a.aa.aj.ls.length:Nat):Int):=dx
 replace dz:Bool.toNat bZ=0∨j < ((a.aa.aj.ls.length:Nat):Int):=dz
 refine Kz (vI j) (Kz (.bool bZ) (Az rfl (An rfl (rt (Fin.res (lT rfl rfl rfl) ?_)))))
 refine⟨.inr ⟨_,fP⟩, ?_⟩
 refine qv 7 rfl rfl (qk (vI j) 8 rfl (qk (.bool bZ) 9 rfl (qa 10 rfl rfl (qa 11 rfl rfl (qn (ER (EP ?_)))))))
 have j5:=fP.pf [0,14]
 refine o5 [19] (E9 Fp) j5 ?_
 intro sN j6
 refine qv 0 rfl rfl (qp g0 0 1 rfl (qp g0 0 2 rfl (ql 3 rfl 0 N7 rfl rfl rfl (qv 4 rfl rfl (qp g0 0 5 rfl (qp g0 0 6 rfl (ql 7 rfl 0 N7 rfl rfl rfl (qp d 0 8 rfl (qp d 0 9 rfl (qp d 5 10 rfl (ql 11 rfl 1 Tryz.isAgg30 rfl rfl rfl (qv 12 rfl rfl ?_))))))))))))
 have fQ:=j6.pf [0,1,3]
 refine Ab fQ (qb 13 rfl 2 Tryz.isAgg60 Tryz.sizeOf60 rfl rfl rfl ?_)
 refine qd 14 rfl (GG (cs:= [vU b.bq,vI b.aW,vU a.aa.ax,vU b.aH, .slice M h.length N]) (t:=60) (sz:=5) (m:=1) fQ rfl rfl (fun _=>by kernel_rfl) rfl ?_)
 intro fV sO dB
 replace dB:=Fx (y:=pU fV 1 (q6 ay.cells ([(ay.mk b.bq b.aW a.aa.ax b.aH (H2 M N h))])) 60 5) rfl dB
 have fZ:=dB.pf [1,2,3]
 refine⟨.inr ⟨_,fZ⟩, ?_⟩
 have ko:=fZ.pf [18,3,19,5]
 obtain⟨sP,gX,om,gY,oo⟩:=FM ko
 refine qd 15 rfl (Fe Tryz.call130 rfl (uS _ _ R a.aa.aj.ls.length S n a.aa.aj.ls j (D2 j) fV (ay.mk b.bq b.aW a.aa.ax b.aH (H2 M N h)) (bL.mk b.bq b.aW a.aa.ax b.aH (E4 h)) gX e6 I rfl e6 e6 e6) ?_)
 rintro _ sQ ⟨bQ,bR,rfl,gZ⟩
 have kr:=gY _ _ gZ
 have oq:s2 (r5 (D2 j) n++((ay.mk b.bq b.aW a.aa.ax b.aH (H2 M N h))::r6 (D2 j) n))=s2 (r5 (D2 j) a.aa.aj.ls++((bL.mk b.bq b.aW a.aa.ax b.aH (E4 h))::r6 (D2 j) a.aa.aj.ls)):=by exact az (qE (z:=(bL.mk b.bq b.aW a.aa.ax b.aH (E4 h))) I rfl)
 have ou:s2 (r5 (D2 j) a.aa.aj.ls++((bL.mk b.bq b.aW a.aa.ax b.aH (E4 h))::r6 (D2 j) a.aa.aj.ls))=a.aa.aj.ls.length+1:=by simp only [p5,p3,s3,p4]; omega
 have gm:=kr.pf [2,3,4]
 refine⟨.inr ⟨_,gm⟩, ?_⟩
 refine qp d 0 16 rfl (qp d 0 17 rfl (qp d 5 18 rfl ?_))
 have ku:=gm.pf [1]
 refine qe 19 rfl (Do.store (vs:= [.slice bQ (s2 (r5 (D2 j) a.aa.aj.ls++((bL.mk b.bq b.aW a.aa.ax b.aH (E4 h))::r6 (D2 j) a.aa.aj.ls))) bR]) (o:=5) ku rfl rfl Tryz.sizeOf30 rfl rfl rfl rfl ?_)
 intro sS kv
 refine⟨.inl e7, ?_⟩
 refine qn (ER (EP ?_))
 refine o5 [15] (E9 Fp) kv ?_
 intro sU kw
 refine qv 0 rfl rfl (qp ai 1 1 rfl ?_)
 have gp:=kw.pf [0,1,5]
 refine Ab gp (ql 2 rfl 2 C6 rfl rfl rfl (qv 3 rfl rfl (qp g0 0 4 rfl (qp g0 0 5 rfl (ql 6 rfl 1 N7 rfl rfl rfl (qp d 0 7 rfl (qp d 0 8 rfl (qp d 1 9 rfl (ql 10 rfl 0 E1 rfl rfl rfl (qp ai 2 11 rfl (ql 12 rfl 2 E1 rfl rfl rfl (qv 13 rfl rfl (qk (.agg #[vI b.aW,vU a.aa.ax,vU b.aH, .slice K r.length L]) 14 rfl ?_)))))))))))))
 refine GX.do 15 rfl e7 (Fe Tryz.call131 rfl ?_ (fun _ _ k=>k))
 refine cb Tryz.func131 ?_
 refine sr ?_
 refine dK [vI b.aW,vU a.aa.ax,vU b.aH, .slice K r.length L] 56 gp ?_
 intro ky sV kC
 refine nt (EP ?_)
 refine oF 31 [] (E9 Fp) kC ?_
 intro sW dC
 refine qv 0 rfl rfl (qp g0 0 1 rfl (qp g0 0 2 rfl (ql 3 rfl 2 N7 rfl rfl rfl (qp d 0 4 rfl (qp d 0 5 rfl (qp d 6 6 rfl (ql 7 rfl 1 I0 rfl rfl rfl (qp ky 0 8 rfl (ql 9 rfl 0 C6 rfl rfl rfl ?_)))))))))
 obtain⟨⟨g,bv⟩,bV⟩:∃ q:Int × Bool,il a.aa.aF.ls b.aW=q:=⟨_,rfl⟩
 obtain⟨sZ,ib,ow,ic,bW⟩:=EU dC
 refine qd 10 rfl (Fe Tryz.call152 rfl (mG _ _ s a.aa.aF.ls.length O l a.aa.aF.ls b.aW g bv ib u (bW _ 19 _ rfl aT) (fun x9 U=>⟨bW _ 20 _ rfl (av (O7.2 ⟨x9,U,b1⟩) aT),bz (φ:=fun _=>_) dC (i:=20) rfl (av (O7.2 ⟨x9,U,b1⟩) bn),(fun y1 k1=>⟨bW _ 20 _ rfl (av (O7.2 ⟨x9,U, .tail _ b1⟩) (av (O7.2 ⟨y1,k1,b1⟩) aT)),bz (φ:=fun _=>_) dC (i:=20) rfl (av (O7.2 ⟨x9,U, .tail _ b1⟩) (av (O7.2 ⟨y1,k1,b1⟩) bn))⟩)⟩) rfl e6 bV) ?_)
 rintro _ tq ⟨rfl,ig,dD,dE⟩
 have dI:=ic _ _ ig
 replace dD:0≤g∧g≤((a.aa.aF.ls.length:Nat):Int):=dD
 replace dE:Bool.toNat bv=0∨g < ((a.aa.aF.ls.length:Nat):Int):=dE
 refine⟨.inr ⟨_,dI⟩, ?_⟩
 refine qv 11 rfl rfl (qk (vI g) 12 rfl (qk (.bool bv) 13 rfl (qa 14 rfl rfl (qa 15 rfl rfl (qn (ER (EP (sr (Mn rfl ?_)))))))))
 rcases IW (bv) with bi | bi
 have h217t:Bool.toNat bv=1:=by rw [bi]; rfl
 refine jT bi (EP ?_)
 have kD:=dI.pf [1,2]
 refine o5 [11] (E9 (E9 Fp)) kD ?_
 intro tu gq
 refine qv 0 rfl rfl (qp g0 0 1 rfl (qp g0 0 2 rfl (ql 3 rfl 1 N7 rfl rfl rfl (qp d 0 4 rfl (qp d 0 5 rfl (qp d 6 6 rfl (ql 7 rfl 0 I0 rfl rfl rfl (qt (v:=vJ (D2 g)) 8 rfl (fun _ _=>EQ (e:=g) (E5 rfl) e6) (Ab gq (qb 9 rfl 2 O8 N6 rfl rfl rfl ?_))))))))))
 have gu:=gq.pf [0,1,2,19]
 refine EJ gu ?_
 obtain⟨bq,X⟩:=ji (ls:=l) (i:=D2 g) e9
 have oz:=eP u X
 refine qt (v:= .pointer (some ⟨ab s,ao s+(D2 g) *4,none⟩)) 10 rfl (fun _ ⟨_,H9⟩=>ET (lI) rfl rfl ((H9.rds (i:=3) rfl).addr (i:=D2 g) e6) e6) ?_
 have kE:=gu.pf [20]
 have kF:=GM (f:=aV.own) (i:=D2 g) (row bq.ai.A bq.ai.ls.length bq.ai.c (q6 af.cells bq.ai.ls) 149 3) (sepL (q6 af.own bq.ai.ls)) rfl X kE
 have kG:=kF.px [] [0,1] []
 have kH:=kG.pf [15,16]
 have kI:=FL (az P).symm kH
 have kJ:=FO (f:=aV.own) (y:=(aV.mk b.aW a.aa.ax b.aH (H2 K L aS))) X kI
 have kK:=kJ.pf [4]
 refine qe 11 rfl (Do.storeRow (vs:= [vI b.aW,vU a.aa.ax,vU b.aH, .slice K r.length L]) (o:=(D2 g) *4+0) (q:=ao s+(D2 g) *4) kK rfl e6 rfl N6 rfl rfl (IQ rfl) (iJ aV.len X (IQ rfl)) (jw (x:=bq) (f:=0) (vs:= [vI b.aW,vU a.aa.ax,vU b.aH, .slice K r.length L]) (y:=(aV.mk b.aW a.aa.ax b.aH (H2 K L aS))) aV.len (show put (aV.cells bq) 0 ([vI b.aW,vU a.aa.ax,vU b.aH, .slice K r.length L]:List Value)=aV.cells (aV.mk b.aW a.aa.ax b.aH (H2 K L aS)) from congrArg (fun z9=>([vI b.aW,vU a.aa.ax,vU b.aH, .slice K z9 L]:List Value)) (az P).symm) (IQ rfl) X) ?_)
 intro tC kL
 have oC:s2 (u5 l (D2 g) (aV.mk b.aW a.aa.ax b.aH (H2 K L aS)))=s2 (u5 a.aa.aF.ls (D2 g) (fF.mk b.aW a.aa.ax b.aH (E4 r))):=az (iA u (congrArg (fun z9=>fF.mk b.aW a.aa.ax b.aH (E4 z9)) P))
 have oG:s2 (u5 a.aa.aF.ls (D2 g) (fF.mk b.aW a.aa.ax b.aH (E4 r)))=a.aa.aF.ls.length:=H3
 refine⟨.inl e7, ?_⟩
 refine qn (ER (rt (tR (Fin.res (res0 rfl) ?_))))
 refine⟨.inl e7, ?_⟩
 refine qn (ER (EP ?_))
 have dJ:=kL.px [] [4] []
 refine EO (Mz rfl (Kz (vP ai 1) (Lz (vI b.aW) dJ 4 C6 (Kz (vP ai 2) (Lz (vU b.aH) dJ 4 E1 (Mz rfl ?_))))))
 have bX:a.aa.aF.ls.length=s2 (u5 a.aa.aF.ls (D2 g) (fF.mk b.aW a.aa.ax b.aH (E4 r))):=by first | omega | (simp only [H3]; done) | (simp only [H3,p5,s3,G1,p3,p4,H4]; omega)
 have kM:=FL bX dJ
 have kN:=kM.pf [2]
 have kP:=FZ 6 bX kN
 have kQ:=kP.pf [1,2]
 have gy:=kQ.pf [3,14,15,2,18,19,20,21,22,23,24,25,26,27]
 obtain⟨⟨cu,F⟩,dL⟩:∃ q:bO × aB,dX p0 b.aW b.aH 1 r (aB.mk (dA.mk a.aa.ak a.aa.ax a.aa.bi a.aa.aI (E4 a.aa.ag.ls) (E4 (r5 (D2 j) a.aa.aj.ls++((bL.mk b.bq b.aW a.aa.ax b.aH (E4 h))::r6 (D2 j) a.aa.aj.ls))) (E4 (u5 a.aa.aF.ls (D2 g) (fF.mk b.aW a.aa.ax b.aH (E4 r))))) a.bH (E4 (r5 (D2 Q) a.aA.ls++r6 ((D2 Q)+1) a.aA.ls)) a.aQ a.aO a.aL a.aN a.aK a.df a.cu a.cz a.cB a.cK)=q:=⟨_,rfl⟩
 obtain⟨tF,ik,oH,iq,dM⟩:=FU gy
 refine cl Tryz.call106 (jM _ _ g0 p0 bJ bK bu b.aW b.aH 1 K r.length L aS r d (aB.mk (dA.mk a.aa.ak a.aa.ax a.aa.bi a.aa.aI (E4 a.aa.ag.ls) (E4 (r5 (D2 j) a.aa.aj.ls++((bL.mk b.bq b.aW a.aa.ax b.aH (E4 h))::r6 (D2 j) a.aa.aj.ls))) (E4 (u5 a.aa.aF.ls (D2 g) (fF.mk b.aW a.aa.ax b.aH (E4 r))))) a.bH (E4 (r5 (D2 Q) a.aA.ls++r6 ((D2 Q)+1) a.aA.ls)) a.aQ a.aO a.aL a.aN a.aK a.df a.cu a.cz a.cB a.cK) au ax bQ bR s O dh di aC aD Y aF aG Z aH aI aa aJ aK ae aL aM ag cu F ik bD P (dM _ 1 _ rfl (av (O7.2 ⟨_,(ww (aV.mk b.aW a.aa.ax b.aH (H2 K L aS)) X),b1⟩) (fun w9 U a9 b9=>oD (az P) (aT w9 U a9 b9)))) (fun x9 U=>⟨dM _ 1 _ rfl (av (O7.2 ⟨_,(ww (aV.mk b.aW a.aa.ax b.aH (H2 K L aS)) X), .tail _ b1⟩) (av (O7.2 ⟨x9,U,b1⟩) aT)),bz (φ:=fun _=>_) gy (i:=15) rfl (av (O7.2 ⟨_,(ww (aV.mk b.aW a.aa.ax b.aH (H2 K L aS)) X), .tail _ b1⟩) (av (O7.2 ⟨x9,U,b1⟩) bn))⟩) rfl e6 g6 aN aO aP aQ aR e8 g3 g3 i2 dL) ?_
 rintro _ tH ⟨kR,kS,kT,kU,kV,kW,kX,kY,kZ,lc,lh,ll,lm,lq,lu,lv,lw,lC,rfl,iw,dO,dP,dQ,dR,dU,dV,dW⟩
 have aW:=iq _ _ iw
 have oL:=az dO
 have oN:=az dP
 have oO:=az dQ
 have oP:=az dR
 have oU:=az dU
 have oV:=az dV
 have oW:=aW.rowC (i:=1) rfl
 have oZ:=aW.rowC (i:=4) rfl
 have o6:=aW.rowC (i:=6) rfl
 have o7:=aW.rowC (i:=8) rfl
 have o8:=aW.rowC (i:=10) rfl
 have o9:=aW.rowC (i:=12) rfl
 replace dW:cu.bE.ls.length=p0.bE.ls.length+1:=dW
 refine nt (EO (Mz rfl (Kz (vP ai 0) (Lz (vU b.bq) aW 16 E1 (Kz (vP bP 4) (Lz (.slice M h.length N) aW 17 Tryz.isAgg58 ?_))))))
 obtain⟨gB,dY⟩:∃ q,fq cu b.bq h true=q:=⟨_,rfl⟩
 obtain⟨tJ,iy,pg,iB,iC⟩:=FC aW
 refine cl Tryz.call27 (kz _ _ g0 cu kR kS kT d b.bq M h.length N h true gB iy dO (iC _ 16 _ rfl (av (O7.2 ⟨_,v5 _ b1,b1⟩) aT)) rfl e6 g7 dY) ?_
 rintro _ tK ⟨lD,lF,lG,rfl,iD,dZ⟩
 have gD:=iB _ _ iD
 have pq:=az dZ
 have pu:=gD.rowC (i:=1) rfl
 refine WL.nil (Ff (res0 rfl) ?_)
 have lH:=gD.pk [0,1,2,3,18,19,14,15,26,27,4,5,6,7,8,9,10,11,12,13]
 obtain⟨rfl,rfl⟩:=fT (hr.symm.trans (show _=(gB,aB.mk (dA.mk F.aa.ak F.aa.ax F.aa.bi F.aa.aI (E4 a.aa.ag.ls) (E4 (r5 (D2 j) a.aa.aj.ls++((bL.mk b.bq b.aW a.aa.ax b.aH (E4 h))::r6 (D2 j) a.aa.aj.ls))) (E4 (u5 a.aa.aF.ls (D2 g) (fF.mk b.aW a.aa.ax b.aH (E4 r))))) F.bH (E4 (r5 (D2 Q) a.aA.ls++r6 ((D2 Q)+1) a.aA.ls)) F.aQ F.aO F.aL F.aN F.aK F.df F.cu F.cz F.cB F.cK) from et (ah (bI bY)) (et (ah bN) (et (ip cZ) (et (ah bH) (et (ah bT) (et (ah bV) (et (ip bi) (et (ah dL) (ah dY))))))))))
 exact⟨lD,lF,lG,bQ,bR,(r5 (D2 j) n++((ay.mk b.bq b.aW a.aa.ax b.aH (H2 M N h))::r6 (D2 j) n)),s,O,(u5 l (D2 g) (aV.mk b.aW a.aa.ax b.aH (H2 K L aS))),dh,di,(r5 (D2 Q) p++r6 ((D2 Q)+1) p),kU,kV,kW,kX,kY,kZ,lc,lh,ll,lm,lq,lu,lv,lw,lC,(by(first | rw [← bE] | skip); (first | rw [← bF] | skip); (first | rw [← bX] | skip); first | done | rfl),lH,dZ,(qE (z:=(bL.mk b.bq b.aW a.aa.ax b.aH (E4 h))) I rfl),(iA u (congrArg (fun z9=>fF.mk b.aW a.aa.ax b.aH (E4 z9)) P)),(oM J),dP,dQ,dR,dU,dV⟩
 have h217t:Bool.toNat bv=0:=by rw [bi]; rfl
 refine jF bi (sk ?_)
 have lJ:=dI.pf [1,2]
 refine o5 [19] Fp lJ ?_
 intro tL gF
 refine qv 0 rfl rfl (qp g0 0 1 rfl (qp g0 0 2 rfl (ql 3 rfl 1 N7 rfl rfl rfl (qv 4 rfl rfl (qp g0 0 5 rfl (qp g0 0 6 rfl (ql 7 rfl 1 N7 rfl rfl rfl (qp d 0 8 rfl (qp d 0 9 rfl (qp d 6 10 rfl (ql 11 rfl 0 I0 rfl rfl rfl (qv 12 rfl rfl (Ab gF (qb 13 rfl 2 O8 N6 rfl rfl rfl ?_))))))))))))))
 refine qd 14 rfl (GG (cs:= [vI b.aW,vU a.aa.ax,vU b.aH, .slice K r.length L]) (t:=56) (sz:=4) (m:=1) gF rfl rfl (fun _=>by kernel_rfl) rfl ?_)
 intro d9 tN ed
 replace ed:=Fx (y:=pU d9 1 (q6 aV.cells ([(aV.mk b.aW a.aa.ax b.aH (H2 K L aS))])) 56 4) (congrArg (fun z9=>pU d9 1 [vI b.aW,vU a.aa.ax,vU b.aH, .slice K z9 L] 56 4) (az P).symm) ed
 have gG:=ed.pf [1,2,3]
 refine⟨.inr ⟨_,gG⟩, ?_⟩
 have lK:=gG.pf [14]
 have lL:=FL (az P).symm lK
 have lM:=lL.pf [20,4,21,0,15]
 obtain⟨tO,iE,pz,iF,pE⟩:=Hw lM
 refine qd 15 rfl (Fe Tryz.call155 rfl (xE _ _ s a.aa.aF.ls.length O l a.aa.aF.ls g (D2 g) d9 (aV.mk b.aW a.aa.ax b.aH (H2 K L aS)) (fF.mk b.aW a.aa.ax b.aH (E4 r)) iE e6 u (O9.inj (congrArg (fun z9=> [fF.mk b.aW a.aa.ax b.aH (E4 z9)]) P)).1 e6 e6 e6) ?_)
 rintro _ tQ ⟨ek,eu,rfl,iG⟩
 have lN:=iF _ _ iG
 have pF:s2 (r5 (D2 g) l++((aV.mk b.aW a.aa.ax b.aH (H2 K L aS))::r6 (D2 g) l))=s2 (r5 (D2 g) a.aa.aF.ls++((fF.mk b.aW a.aa.ax b.aH (E4 r))::r6 (D2 g) a.aa.aF.ls)):=by exact az (qE (z:=(fF.mk b.aW a.aa.ax b.aH (E4 r))) u (O9.inj (congrArg (fun z9=> [fF.mk b.aW a.aa.ax b.aH (E4 z9)]) P)).1)
 have pG:s2 (r5 (D2 g) a.aa.aF.ls++((fF.mk b.aW a.aa.ax b.aH (E4 r))::r6 (D2 g) a.aa.aF.ls))=a.aa.aF.ls.length+1:=by simp only [p5,p3,s3,p4]; omega
 have gH:=lN.pf [2,3,4]
 refine⟨.inr ⟨_,gH⟩, ?_⟩
 refine qp d 0 16 rfl (qp d 0 17 rfl (qp d 6 18 rfl ?_))
 refine qe 19 rfl (Do.store (vs:= [.slice ek (s2 (r5 (D2 g) a.aa.aF.ls++((fF.mk b.aW a.aa.ax b.aH (E4 r))::r6 (D2 g) a.aa.aF.ls))) eu]) (o:=6) gH rfl rfl Tryz.sizeOf31 rfl rfl rfl rfl ?_)
 intro tT lQ
 refine⟨.inl e7, ?_⟩
 refine qn (Ff (res0 rfl) ?_)
 refine⟨.inl e7, ?_⟩
 refine qn (ER (EP ?_))
 have eB:=lQ.px [] [2] []
 refine EO (Mz rfl (Kz (vP ai 1) (Lz (vI b.aW) eB 4 C6 (Kz (vP ai 2) (Lz (vU b.aH) eB 4 E1 (Mz rfl ?_))))))
 have gI:=eB.pf [1,14,15,0,18,19,20,21,22,23,24,25,26,27]
 obtain⟨⟨cz,G⟩,eD⟩:∃ q:bO × aB,dX p0 b.aW b.aH 1 r (aB.mk (dA.mk a.aa.ak a.aa.ax a.aa.bi a.aa.aI (E4 a.aa.ag.ls) (E4 (r5 (D2 j) a.aa.aj.ls++((bL.mk b.bq b.aW a.aa.ax b.aH (E4 h))::r6 (D2 j) a.aa.aj.ls))) (E4 (r5 (D2 g) a.aa.aF.ls++((fF.mk b.aW a.aa.ax b.aH (E4 r))::r6 (D2 g) a.aa.aF.ls)))) a.bH (E4 (r5 (D2 Q) a.aA.ls++r6 ((D2 Q)+1) a.aA.ls)) a.aQ a.aO a.aL a.aN a.aK a.df a.cu a.cz a.cB a.cK)=q:=⟨_,rfl⟩
 obtain⟨tV,iH,pI,iI,eF⟩:=FU gI
 refine cl Tryz.call106 (jM _ _ g0 p0 bJ bK bu b.aW b.aH 1 K r.length L aS r d (aB.mk (dA.mk a.aa.ak a.aa.ax a.aa.bi a.aa.aI (E4 a.aa.ag.ls) (E4 (r5 (D2 j) a.aa.aj.ls++((bL.mk b.bq b.aW a.aa.ax b.aH (E4 h))::r6 (D2 j) a.aa.aj.ls))) (E4 (r5 (D2 g) a.aa.aF.ls++((fF.mk b.aW a.aa.ax b.aH (E4 r))::r6 (D2 g) a.aa.aF.ls)))) a.bH (E4 (r5 (D2 Q) a.aA.ls++r6 ((D2 Q)+1) a.aA.ls)) a.aQ a.aO a.aL a.aN a.aK a.df a.cu a.cz a.cB a.cK) au ax bQ bR ek eu dh di aC aD Y aF aG Z aH aI aa aJ aK ae aL aM ag cz G iH bD P (eF _ 1 _ rfl (av (O7.2 ⟨_,v5 _ b1,b1⟩) (fun w9 U a9 b9=>oD (az P) (aT w9 U a9 b9)))) (fun x9 U=>⟨eF _ 1 _ rfl (av (O7.2 ⟨_,v5 _ b1, .tail _ b1⟩) (av (O7.2 ⟨x9,U,b1⟩) aT)),bz (φ:=fun _=>_) gI (i:=15) rfl (av (O7.2 ⟨_,v5 _ b1, .tail _ b1⟩) (av (O7.2 ⟨x9,U,b1⟩) bn))⟩) rfl e6 g6 aN aO aP aQ aR e8 g3 g3 i2 eD) ?_
 rintro _ tX ⟨lS,lU,lV,lW,lX,lY,lZ,l5,l6,l7,l8,l9,ma,mf,mg,mi,mo,mq,rfl,iK,eG,eH,eO,eQ,eT,eU,eX⟩
 have aY:=iI _ _ iK
 have pJ:=az eG
 have pM:=az eH
 have pO:=az eO
 have pQ:=az eQ
 have pR:=az eT
 have pV:=az eU
 have pW:=aY.rowC (i:=1) rfl
 have pX:=aY.rowC (i:=4) rfl
 have pY:=aY.rowC (i:=6) rfl
 have p8:=aY.rowC (i:=8) rfl
 have p9:=aY.rowC (i:=10) rfl
 have qc:=aY.rowC (i:=12) rfl
 replace eX:cz.bE.ls.length=p0.bE.ls.length+1:=eX
 refine nt (EO (Mz rfl (Kz (vP ai 0) (Lz (vU b.bq) aY 16 E1 (Kz (vP bP 4) (Lz (.slice M h.length N) aY 17 Tryz.isAgg58 ?_))))))
 obtain⟨gJ,eY⟩:∃ q,fq cz b.bq h true=q:=⟨_,rfl⟩
 obtain⟨tY,iL,qf,iM,iO⟩:=FC aY
 refine cl Tryz.call27 (kz _ _ g0 cz lS lU lV d b.bq M h.length N h true gJ iL eG (iO _ 16 _ rfl (av (O7.2 ⟨_,v5 _ b1,b1⟩) aT)) rfl e6 g7 eY) ?_
 rintro _ tZ ⟨mr,mE,mF,rfl,iP,eZ⟩
 have gK:=iM _ _ iP
 have qg:=az eZ
 have qh:=gK.rowC (i:=1) rfl
 refine WL.nil (Ff (res0 rfl) ?_)
 have mH:=gK.pk [0,1,2,3,18,19,14,15,26,27,4,5,6,7,8,9,10,11,12,13]
 obtain⟨rfl,rfl⟩:=fT (hr.symm.trans (show _=(gJ,aB.mk (dA.mk G.aa.ak G.aa.ax G.aa.bi G.aa.aI (E4 a.aa.ag.ls) (E4 (r5 (D2 j) a.aa.aj.ls++((bL.mk b.bq b.aW a.aa.ax b.aH (E4 h))::r6 (D2 j) a.aa.aj.ls))) (E4 (r5 (D2 g) a.aa.aF.ls++((fF.mk b.aW a.aa.ax b.aH (E4 r))::r6 (D2 g) a.aa.aF.ls)))) G.bH (E4 (r5 (D2 Q) a.aA.ls++r6 ((D2 Q)+1) a.aA.ls)) G.aQ G.aO G.aL G.aN G.aK G.df G.cu G.cz G.cB G.cK) from et (ah (bI bY)) (et (ah bN) (et (ip cZ) (et (ah bH) (et (ah bT) (et (ah bV) (et (fU bi) (et (ah eD) (ah eY))))))))))
 exact⟨mr,mE,mF,bQ,bR,(r5 (D2 j) n++((ay.mk b.bq b.aW a.aa.ax b.aH (H2 M N h))::r6 (D2 j) n)),ek,eu,(r5 (D2 g) l++((aV.mk b.aW a.aa.ax b.aH (H2 K L aS))::r6 (D2 g) l)),dh,di,(r5 (D2 Q) p++r6 ((D2 Q)+1) p),lW,lX,lY,lZ,l5,l6,l7,l8,l9,ma,mf,mg,mi,mo,mq,(by(first | rw [← bE] | skip); (first | rw [← bF] | skip); first | done | rfl),mH,eZ,(qE (z:=(bL.mk b.bq b.aW a.aa.ax b.aH (E4 h))) I rfl),(qE (z:=(fF.mk b.aW a.aa.ax b.aH (E4 r))) u (O9.inj (congrArg (fun z9=> [fF.mk b.aW a.aa.ax b.aH (E4 z9)]) P)).1),(oM J),eH,eO,eQ,eT,eU⟩
 refine jT (dT cZ) (sr ?_)
 have mK:=gM.pf [2,3,4,5,6,7,8]
 have bS:=qB (f:=bB.own) B mK
 have qi:b.bS.ls.length≤b.bS.c∧b.bS.ls.length≤9223372036854775807:=bz bS (i:=0) rfl (φ:=fun _=>_) (av (O7.2 ⟨b,E0 B,b1⟩) bn)
 have qj:b.aC.ls.length≤b.aC.c∧b.aC.ls.length≤9223372036854775807:=bz bS (i:=0) rfl (φ:=fun _=>_) (av (O7.2 ⟨b,E0 B, .tail _ b1⟩) bn)
 have qm:b.bF.ls.length≤b.bF.c∧b.bF.ls.length≤9223372036854775807:=bz bS (i:=0) rfl (φ:=fun _=>_) (av (O7.2 ⟨b,E0 B, .tail _ b2⟩) bn)
 have qo:b.ae.ls.length≤b.ae.c∧b.ae.ls.length≤9223372036854775807:=bz bS (i:=0) rfl (φ:=fun _=>_) (av (O7.2 ⟨b,E0 B, .tail _ b3⟩) bn)
 refine Mz rfl (Mz rfl ?_)
 have mM:=bS.px [4,5,6,7,12] [] [1,2,3,8,9,10,11]
 obtain⟨⟨gL,C⟩,fe⟩:∃ q:bO × aB,gz p0 Q a=q:=⟨_,rfl⟩
 obtain⟨uf,iQ,qw,iR,qx⟩:=FY mM
 refine cl Tryz.call63 (mI _ _ g0 p0 bJ bK bu Q d a au ax R S s O T aA p aC aD Y aF aG Z aH aI aa aJ aK ae aL aM ag gL C iQ bD J aN aO aP aQ aR e8 (by first | assumption | exact Mk.act f5 | exact mD f9 (nP (x:=bB.abs b) V f5) | exact mD f9 (pK (x:=bB.abs b) V _)) e8 fe) ?_
 rintro _ ug ⟨mO,mP,mQ,mR,mU,mV,mW,mX,mY,mZ,ng,ni,nu,ny,nz,nA,nC,nD,nE,nG,nH,rfl,iT,fo,fu,fA,fB,fC,fD,fE⟩
 have aZ:=iR _ _ iT
 have qz:=az fo
 have qA:=az fu
 have qD:=az fA
 have qF:=az fB
 have qG:=az fC
 have qH:=az fD
 have qI:=az fE
 have qJ:=aZ.rowC (i:=1) rfl
 have qK:=aZ.rowC (i:=4) rfl
 have qL:=aZ.rowC (i:=6) rfl
 have qM:=aZ.rowC (i:=8) rfl
 have qN:=aZ.rowC (i:=10) rfl
 have qO:=aZ.rowC (i:=12) rfl
 have qP:=aZ.rowC (i:=14) rfl
 refine nt (rt (tR (Fin.res (res0 rfl) ?_)))
 have nI:=aZ.px [0,1,2,3,19,20,21,22] [16,17,18] []
 obtain⟨rfl,rfl⟩:=fT (hr.symm.trans (show _=(gL,aB.mk (dA.mk C.aa.ak C.aa.ax C.aa.bi C.aa.aI (E4 a.aa.ag.ls) (E4 a.aa.aj.ls) (E4 a.aa.aF.ls)) C.bH (E4 C.aA.ls) C.aQ C.aO C.aL C.aN C.aK C.df C.cu C.cz C.cB C.cK) from et (ah (bI bY)) (et (ah bN) (et (iN cZ) (ah fe)))))
 exact⟨mO,mP,mQ,R,S,n,s,O,l,mR,mU,mV,mW,mX,mY,mZ,ng,ni,nu,ny,nz,nA,nC,nD,nE,nG,nH,rfl,nI,fo,I,u,fu,fA,fB,fC,fD,fE⟩
end Go.Proofs.YtbkagebjhbphaaaGreat
