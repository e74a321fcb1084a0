/-
 coord: rows cloned.
-/
import Derived.Test.YtbkagebjhbphaaaGreatCoC
namespace Go.Proofs.YtbkagebjhbphaaaGreat
open Int renaming toNat→D2
open IntKind renaming i64→C7
open List renaming drop→r6,flatMap→q6,flatMap_append→r7,length→s2,length_append→p5,length_cons→s3,length_drop→p4,length_nil→G0,length_take→p3,mem_of_mem_take→G1,take→r5
open Nat renaming le_mul_of_pos_left→G2
open _root_.Go.Proofs.Tryz renaming prog→y4,underlying147→B7,underlying29→B9,underlying3→B4,underlying30→F1,underlying31→F2,underlying39→B1,underlying40→B6,underlying58→G3
set_option maxRecDepth 100000
open Go.RowKit
set_option linter.unusedVariables false
set_option linter.unusedSectionVars false
set_option linter.unusedSimpArgs false
def pz (l0:List ae):(List ae):=
 l0
theorem oN (w D d f u l0 e) (H:Own w D w []) (c:Ro w D fun w'=>bA w' 3 d f (q6 ae.cells l0)) (g:f=l0.length) (x:l0.length *48≤211106232532992) (hr:pz l0=e):
    Calls y4 74 #[.slice d f u] w (dR fun v w'=> ∃ r t,v= .slice r e.length t∧Own w D w' [row r e.length t (q6 ae.cells e) 149 3]):=by
 subst g
 refine cb Tryz.func74 ?_
 refine sr (An rfl (FW (sr (Mz rfl (fw (.bool (Option.isNone d)) (GQ B6 rfl rfl) (nt ?_))))))
 rcases JS (Option.isNone d) with a | a
 obtain rfl:l0= []:=pX (enc:=ae.cells) (H.ro c) a
 refine jT a (sr (An rfl (rt (tR (rs ?_)))))
 have h:Own w D w [row none 0 0 (q6 ae.cells ([])) 149 3]:=H.free (fB 149 3)
 have i:=h.pf []
 obtain rfl:_=([]):=hr.symm.trans rfl
 exact⟨none,0,rfl,i⟩
 refine jF a (sk (sr ?_))
 refine kL [] 149 3 0 H ?_
 intro j l b
 replace b:Own w D l [row j 0 0 (q6 ae.cells ([])) 149 3]:=b
 refine Mz rfl ?_
 refine WL.do rfl (Gt (k:=0) (m:=l0.length) (rR) b rfl rfl (iU B6 (b.ro c) (fF ae.one l0)) rfl e6 (s:=l0.length) e6 rfl ?_)
 intro n o y p
 refine An rfl (rt (rs ?_))
 have q:=p.pf []
 obtain rfl:_=l0:=hr.symm.trans rfl
 exact⟨n,o,rfl,q⟩
def oI (l0:List aA):(List aA):=
 l0
theorem nP (w D d f u l0 e) (H:Own w D w []) (c:Ro w D fun w'=>bA w' 5 d f (q6 aA.cells l0)) (g:f=l0.length) (x:l0.length *56≤211106232532992) (hr:oI l0=e):
    Calls y4 45 #[.slice d f u] w (dR fun v w'=> ∃ r t,v= .slice r e.length t∧Own w D w' [row r e.length t (q6 aA.cells e) 60 5]):=by
 subst g
 refine cb Tryz.func45 ?_
 refine sr (An rfl (FW (sr (Mz rfl (fw (.bool (Option.isNone d)) (GQ F1 rfl rfl) (nt ?_))))))
 rcases JS (Option.isNone d) with a | a
 obtain rfl:l0= []:=pX (enc:=aA.cells) (H.ro c) a
 refine jT a (sr (An rfl (rt (tR (rs ?_)))))
 have h:Own w D w [row none 0 0 (q6 aA.cells ([])) 60 5]:=H.free (fB 60 5)
 have i:=h.pf []
 obtain rfl:_=([]):=hr.symm.trans rfl
 exact⟨none,0,rfl,i⟩
 refine jF a (sk (sr ?_))
 refine kL [] 60 5 0 H ?_
 intro j l b
 replace b:Own w D l [row j 0 0 (q6 aA.cells ([])) 60 5]:=b
 refine Mz rfl ?_
 refine WL.do rfl (Gt (k:=0) (m:=l0.length) (kG) b rfl rfl (iU F1 (b.ro c) (fF aA.one l0)) rfl e6 (s:=l0.length) e6 rfl ?_)
 intro n o y p
 refine An rfl (rt (rs ?_))
 have q:=p.pf []
 obtain rfl:_=l0:=hr.symm.trans rfl
 exact⟨n,o,rfl,q⟩
def qC (l0:List aT):(List aT):=
 l0
theorem pK (w D d f u l0 e) (H:Own w D w []) (c:Ro w D fun w'=>bA w' 4 d f (q6 aT.cells l0)) (g:f=l0.length) (x:l0.length *48≤211106232532992) (hr:qC l0=e):
    Calls y4 47 #[.slice d f u] w (dR fun v w'=> ∃ r t,v= .slice r e.length t∧Own w D w' [row r e.length t (q6 aT.cells e) 56 4]):=by
 subst g
 refine cb Tryz.func47 ?_
 refine sr (An rfl (FW (sr (Mz rfl (fw (.bool (Option.isNone d)) (GQ F2 rfl rfl) (nt ?_))))))
 rcases JS (Option.isNone d) with a | a
 obtain rfl:l0= []:=pX (enc:=aT.cells) (H.ro c) a
 refine jT a (sr (An rfl (rt (tR (rs ?_)))))
 have h:Own w D w [row none 0 0 (q6 aT.cells ([])) 56 4]:=H.free (fB 56 4)
 have i:=h.pf []
 obtain rfl:_=([]):=hr.symm.trans rfl
 exact⟨none,0,rfl,i⟩
 refine jF a (sk (sr ?_))
 refine kL [] 56 4 0 H ?_
 intro j l b
 replace b:Own w D l [row j 0 0 (q6 aT.cells ([])) 56 4]:=b
 refine Mz rfl ?_
 refine WL.do rfl (Gt (k:=0) (m:=l0.length) (lN) b rfl rfl (iU F2 (b.ro c) (fF aT.one l0)) rfl e6 (s:=l0.length) e6 rfl ?_)
 intro n o y p
 refine An rfl (rt (rs ?_))
 have q:=p.pf []
 obtain rfl:_=l0:=hr.symm.trans rfl
 exact⟨n,o,rfl,q⟩
def jS (l0:List aA) (a:Int) (b:Int):(List aA):=
 if a=b then l0 else(r5 (D2 a) l0++r6 (D2 b) l0)
theorem nI (w D d n c l0 b a h) (H:Own w D w [row d n c (q6 aA.cells l0) 60 5]) (o:n=l0.length) (I:l0.length *56≤211106232532992) (J:0≤b∧b≤a∧a≤((l0.length:Nat):Int)) (hr:jS l0 b a=h):
    Calls y4 98 #[.slice d n c,vI b,vI a] w (dR fun v w'=> ∃ A B,v= .slice A h.length B∧Own w D w' [row A h.length B (q6 aA.cells h) 60 5]∧(h.length≤l0.length)):=by
 subst o
 have K:=H.rowC (i:=0) rfl
 refine cb Tryz.func98 ?_
 refine sr (Ar rfl (Mz rfl (fw (vJ (D2 b)) (FX (e:=b) (F9 rfl) e6) (fw (vJ (D2 a)) (FX (e:=a) (F9 rfl) e6) (Mz rfl (Kz (vJ l0.length) (fw (.slice (jC d (D2 b) 5 l0.length) ((D2 a) - (D2 b)) (l0.length - (D2 b))) (IZ (kG) rfl rfl rfl rfl e6 e6 e6) (nt (FW (sr (Mz rfl (Mz rfl (Kz (.bool (decide (b=a))) (nt ?_))))))))))))))
 by_cases g:b=a
 refine jT (dT g) (sr (Mz rfl (An rfl (rt (tR (rs ?_))))))
 have p:=H.pf []
 obtain rfl:_=l0:=hr.symm.trans (ip g)
 exact⟨d,c,rfl,p,e6⟩
 refine jF (dF g) (sk (sr (Mz rfl (Kz (vJ l0.length) (An rfl (FW ?_))))))
 have f:=H.drew
 refine G8 [6] (fun W=> ∃ L',Own w D W ([row d l0.length c (q6 aA.cells l0) 60 5]++L')) e7 e7 (Gb Gj) ⟨_,f⟩ ?_
 revert f
 generalize World.drew w=q
 intro f
 refine qv 0 rfl rfl (qt (v:=vJ (D2 b)) 1 rfl (fun _ _=>FX (e:=b) (F9 rfl) e6) (qt (v:= .slice d (D2 b) c) 2 rfl (fun _ _=>GU (kG) rfl rfl e6) (qv 3 rfl rfl (qt (v:=vJ (D2 a)) 4 rfl (fun _ _=>FX (e:=a) (F9 rfl) e6) (qt (v:= .slice (jC d (D2 a) 5 c) (l0.length - (D2 a)) (c - (D2 a))) 5 rfl (fun _ _=>Gy (kG) rfl rfl e6) ?_)))))
 have C:s2 (r5 (D2 b) l0++r6 (D2 a) l0)=D2 b+(l0.length - D2 a):=by simp only [p5,p3,p4]; omega
 have j:Src y4 5 30 (.slice (jC d (D2 a) 5 c) (l0.length - (D2 a)) (c - (D2 a))) (l0.length - D2 a) (q6 aA.cells (r6 (D2 a) l0)) q:=iU F1 (Hl (lo:=D2 a) aA.len (f.rds (i:=0) rfl) e6 e6 f3) (fF aA.one (r6 (D2 a) l0))
 obtain⟨E,r,t⟩:=f.rowFull
 refine qd 6 rfl (HZ (k:=D2 b) (m:=l0.length - D2 a) (kG) t rfl rfl j e6 (s:=s2 (r5 (D2 b) l0++r6 (D2 a) l0)) e6 ?_)
 intro L l
 refine⟨.inl e7, ?_⟩
 refine Gu (v:= .slice d (s2 (r5 (D2 b) l0++r6 (D2 a) l0)) c) 7 rfl e7 (fun _=>Hf rfl) (qn (FY (sr (Mz rfl (Mz rfl (Kz (vI ((s2 (r5 (D2 b) l0++r6 (D2 a) l0):Nat):Int)) (Mz rfl (fw (.slice (jC d (s2 (r5 (D2 b) l0++r6 (D2 a) l0)) 5 c) (l0.length - (s2 (r5 (D2 b) l0++r6 (D2 a) l0))) (c - (s2 (r5 (D2 b) l0++r6 (D2 a) l0)))) (Yl.cut (kG) rfl rfl rfl e6 e6) ?_))))))))
 refine G5 (Ik (z0:=(.agg #[.int .u64 0,vI 0, .int .u64 0, .int .u64 0, .slice none 0 0])) (lo:=s2 (r5 (D2 b) l0++r6 (D2 a) l0)) (nd:=(l0.length - (s2 (r5 (D2 b) l0++r6 (D2 a) l0)))) e7 rfl (kG) l rfl (fun _=>kR ((l.rds (i:=0) rfl).isSome e6) e6) e6 ?_)
 intro u F G x
 refine ns (Mz rfl (An rfl (rt (rs ?_))))
 have y:Own w D u [row d (s2 (r5 (D2 b) l0++r6 (D2 a) l0)) c (q6 aA.cells (r5 (D2 b) l0++r6 (D2 a) l0)) 60 5]:=x.rowPart e6 (yI aA.len e6 e6 rfl)
 have z:=y.pf []
 obtain rfl:_=(r5 (D2 b) l0++r6 (D2 a) l0):=hr.symm.trans (iN g)
 exact⟨d,c,rfl,z,e6⟩
def kN (l0:List bz) (a:Int) (b:Int):(List bz):=
 if a=b then l0 else(r5 (D2 a) l0++r6 (D2 b) l0)
theorem oU (w D d n c l0 b a h) (H:Own w D w [row d n c (q6 bz.cells l0) 107 9]) (o:n=l0.length) (I:l0.length *136≤211106232532992) (J:0≤b∧b≤a∧a≤((l0.length:Nat):Int)) (hr:kN l0 b a=h):
    Calls y4 105 #[.slice d n c,vI b,vI a] w (dR fun v w'=> ∃ A B,v= .slice A h.length B∧Own w D w' [row A h.length B (q6 bz.cells h) 107 9]∧(h.length≤l0.length)):=by
 subst o
 have K:=H.rowC (i:=0) rfl
 refine cb Tryz.func105 ?_
 refine sr (Ar rfl (Mz rfl (fw (vJ (D2 b)) (FX (e:=b) (F9 rfl) e6) (fw (vJ (D2 a)) (FX (e:=a) (F9 rfl) e6) (Mz rfl (Kz (vJ l0.length) (fw (.slice (jC d (D2 b) 9 l0.length) ((D2 a) - (D2 b)) (l0.length - (D2 b))) (IZ (pu) rfl rfl rfl rfl e6 e6 e6) (nt (FW (sr (Mz rfl (Mz rfl (Kz (.bool (decide (b=a))) (nt ?_))))))))))))))
 by_cases g:b=a
 refine jT (dT g) (sr (Mz rfl (An rfl (rt (tR (rs ?_))))))
 have p:=H.pf []
 obtain rfl:_=l0:=hr.symm.trans (ip g)
 exact⟨d,c,rfl,p,e6⟩
 refine jF (dF g) (sk (sr (Mz rfl (Kz (vJ l0.length) (An rfl (FW ?_))))))
 have f:=H.drew
 refine G8 [6] (fun W=> ∃ L',Own w D W ([row d l0.length c (q6 bz.cells l0) 107 9]++L')) e7 e7 (Gb Gj) ⟨_,f⟩ ?_
 revert f
 generalize World.drew w=q
 intro f
 refine qv 0 rfl rfl (qt (v:=vJ (D2 b)) 1 rfl (fun _ _=>FX (e:=b) (F9 rfl) e6) (qt (v:= .slice d (D2 b) c) 2 rfl (fun _ _=>GU (pu) rfl rfl e6) (qv 3 rfl rfl (qt (v:=vJ (D2 a)) 4 rfl (fun _ _=>FX (e:=a) (F9 rfl) e6) (qt (v:= .slice (jC d (D2 a) 9 c) (l0.length - (D2 a)) (c - (D2 a))) 5 rfl (fun _ _=>Gy (pu) rfl rfl e6) ?_)))))
 have C:s2 (r5 (D2 b) l0++r6 (D2 a) l0)=D2 b+(l0.length - D2 a):=by simp only [p5,p3,p4]; omega
 have j:Src y4 9 79 (.slice (jC d (D2 a) 9 c) (l0.length - (D2 a)) (c - (D2 a))) (l0.length - D2 a) (q6 bz.cells (r6 (D2 a) l0)) q:=iU Tryz.underlying79 (Hl (lo:=D2 a) bz.len (f.rds (i:=0) rfl) e6 e6 f3) (fF bz.one (r6 (D2 a) l0))
 obtain⟨E,r,t⟩:=f.rowFull
 refine qd 6 rfl (HZ (k:=D2 b) (m:=l0.length - D2 a) (pu) t rfl rfl j e6 (s:=s2 (r5 (D2 b) l0++r6 (D2 a) l0)) e6 ?_)
 intro L l
 refine⟨.inl e7, ?_⟩
 refine Gu (v:= .slice d (s2 (r5 (D2 b) l0++r6 (D2 a) l0)) c) 7 rfl e7 (fun _=>Hf rfl) (qn (FY (sr (Mz rfl (Mz rfl (Kz (vI ((s2 (r5 (D2 b) l0++r6 (D2 a) l0):Nat):Int)) (Mz rfl (fw (.slice (jC d (s2 (r5 (D2 b) l0++r6 (D2 a) l0)) 9 c) (l0.length - (s2 (r5 (D2 b) l0++r6 (D2 a) l0))) (c - (s2 (r5 (D2 b) l0++r6 (D2 a) l0)))) (Yl.cut (pu) rfl rfl rfl e6 e6) ?_))))))))
 refine G5 (Ik (z0:=(.agg (qR 0 0 0 0 none 0 0 none 0 0 none 0 0 none 0 0 0).toArray)) (lo:=s2 (r5 (D2 b) l0++r6 (D2 a) l0)) (nd:=(l0.length - (s2 (r5 (D2 b) l0++r6 (D2 a) l0)))) e7 rfl (pu) l rfl (fun _=>kR ((l.rds (i:=0) rfl).isSome e6) e6) e6 ?_)
 intro u F G x
 refine ns (Mz rfl (An rfl (rt (rs ?_))))
 have y:Own w D u [row d (s2 (r5 (D2 b) l0++r6 (D2 a) l0)) c (q6 bz.cells (r5 (D2 b) l0++r6 (D2 a) l0)) 107 9]:=x.rowPart e6 (yI bz.len e6 e6 rfl)
 have z:=y.pf []
 obtain rfl:_=(r5 (D2 b) l0++r6 (D2 a) l0):=hr.symm.trans (iN g)
 exact⟨d,c,rfl,z,e6⟩
def jU (l0:List aA) (a:Int) (b:aA):(List aA):=
 if((D2 a:Nat):Int)=((l0.length:Nat):Int) then(l0++ [b]) else(r5 (D2 a) l0++(b::r6 (D2 a) l0))
theorem nJ (w D d C c l0 a B) (b:aA) (x) (H:Own w D w [row d C c (q6 aA.cells l0) 60 5,qx B 1 (q6 aA.cells ([b])) 60 5]) (E:C=l0.length) (af:l0.length *56≤211106232532992) (ag:0≤a∧a≤((l0.length:Nat):Int)∧(l0.length+1) *56≤211106232532992) (hr:jU l0 a b=x):
    Calls y4 130 #[.slice d C c,vI a, .slice B 1 1] w (dR fun v w'=> ∃ W X,v= .slice W x.length X∧Own w D w' [row W x.length X (q6 aA.cells x) 60 5]∧(x.length=l0.length+1)):=by
 subst E
 have ah:=H.rowC (i:=0) rfl
 refine cb Tryz.func130 ?_
 refine sr (Ar rfl (Mz rfl (fw (vJ (D2 a)) (FX (e:=a) (F9 rfl) e6) (fw (.slice (jC d (D2 a) 5 c) (l0.length - (D2 a)) (c - (D2 a))) (Gy (kG) rfl rfl e6) (ns (Mz rfl (Kz (vI 1) (An rfl (FW (sr (Mz rfl (Kz (.bool false) (nt (jf (sk (sr (Mz rfl (Kz (vJ l0.length) (An rfl (FW (sr (fw (vJ (D2 a)) (FX (e:=a) (F9 rfl) e6) ?_))))))))))))))))))))))
 refine Mz rfl (Kz (.bool (decide (((D2 a:Nat):Int)=((l0.length:Nat):Int)))) (nt ?_))
 by_cases g:((D2 a:Nat):Int)=((l0.length:Nat):Int)
 refine jT (dT g) (sr (Mz rfl (Mz rfl ?_)))
 refine WL.do rfl (Gt (k:=l0.length) (m:=1) (kG) H rfl rfl (iU F1 (aY H (i:=1) rfl qP) (fF aA.one ([b]))) rfl e6 (s:=s2 (l0++ [b])) f7 (r7).symm ?_)
 intro F G ai I
 have Y:s2 (l0++ [b])=l0.length+1:=by simp only [p5,s3,G0]
 refine An rfl (rt (tR (rs ?_)))
 have J:=I.pk [0]
 obtain rfl:_=(l0++ [b]):=hr.symm.trans (ip g)
 exact⟨F,G,rfl,J,e6⟩
 refine jF (dF g) (sk (FW (sr (Mz rfl (Mz rfl (fw (vJ (l0.length+1)) (FX (e:=C7.wrap (((l0.length:Nat):Int)+1)) yk f1) (Mz rfl (Kz (vJ c) (Kz (.bool (decide (((l0.length+1:Nat):Int) > ((c:Nat):Int)))) (nt ?_))))))))))
 by_cases y:((l0.length+1:Nat):Int) > ((c:Nat):Int)
 refine jT (dT y) (sr (Mz rfl (fw (vJ (D2 a)) (FX (e:=a) (F9 rfl) e6) (fw (.slice d (D2 a) c) (GU (kG) rfl rfl e6) (Mz rfl (Mz rfl (fw (vJ (l0.length+1)) (FX (e:=C7.wrap (((l0.length:Nat):Int)+1)) yk f1) (fw (vJ (D2 a)) (FX (e:=a) (F9 rfl) e6) (fw (vJ ((l0.length+1) - (D2 a))) (FX (e:=C7.wrap (((l0.length+1:Nat):Int) - ((D2 a:Nat):Int))) yk f1) ?_)))))))))
 have Z:s2 (r5 (D2 a) l0++(b::r6 (D2 a) l0))=l0.length+1:=by simp only [p5,p3,s3,p4]; omega
 refine WL.do rfl (Hy (k:=D2 a) (m:=(l0.length+1) - (D2 a)) (kG) B4 H rfl rfl e6 e6 e6 rfl e6 (s:=s2 (r5 (D2 a) l0++(b::r6 (D2 a) l0))) e6 ?_)
 intro h f aa aj z j
 have K:=j.rowLe (i:=0) rfl
 refine Ar rfl (Mz rfl (fw (vJ (D2 a)) (FX (e:=a) (F9 rfl) e6) (fw (.slice (jC h (D2 a) 5 f) ((s2 (r5 (D2 a) l0++(b::r6 (D2 a) l0))) - (D2 a)) (f - (D2 a))) (Gy (kG) rfl rfl e6) (Mz rfl ?_))))
 refine WL.do rfl (GZ (lo:=D2 a) (k:=1) (kG) j rfl (fun _=>kR ((j.rds (i:=0) rfl).isSome e6) e6) e6 rfl (aY j (i:=2) rfl qP) e6 (fun u hu=>fF aA.one _ u (G1 hu)) rfl ?_)
 intro ak L
 refine nt (FW ?_)
 refine Cc [8] (Gb (Gb Gj)) L ?_
 intro au n
 refine qv 0 rfl rfl (qt (v:=vJ (D2 a)) 1 rfl (fun _ _=>FX (e:=a) (F9 rfl) e6) (qv 2 rfl rfl (qt (v:=vJ (D2 a+1)) 3 rfl (fun _ _=>FX (e:=C7.wrap (((D2 a:Nat):Int)+1)) yk f1) (qt (v:= .slice (jC h (D2 a+1) 5 f) ((s2 (r5 (D2 a) l0++(b::r6 (D2 a) l0))) - (D2 a+1)) (f - (D2 a+1))) 4 rfl (fun _ _=>Gy (kG) rfl rfl e6) (qv 5 rfl rfl (qt (v:=vJ (D2 a)) 6 rfl (fun _ _=>FX (e:=a) (F9 rfl) e6) (qt (v:= .slice (jC d (D2 a) 5 c) (l0.length - (D2 a)) (c - (D2 a))) 7 rfl (fun _ _=>Gy (kG) rfl rfl e6) ?_)))))))
 refine qd 8 rfl (GZ (lo:=D2 a+1) (k:=l0.length - D2 a) (kG) n rfl (fun _=>kR ((n.rds (i:=0) rfl).isSome e6) e6) e6 rfl (Hl (lo:=D2 a) aA.len (n.rds (i:=1) rfl) e6 e6 f3) e6 (fun u hu=>fF aA.one _ u (G1 hu)) rfl ?_)
 intro M N
 refine⟨.inl e7, ?_⟩
 refine qn (FY (sr (Mz rfl (An rfl (rt (tR (rs ?_)))))))
 have O:Own w D M [row h (s2 (r5 (D2 a) l0++(b::r6 (D2 a) l0))) f (q6 aA.cells (r5 (D2 a) l0++(b::r6 (D2 a) l0))) 60 5,row d l0.length c (q6 aA.cells l0) 60 5,qx B 1 (q6 aA.cells ([b])) 60 5]:=N.rowPart e6 (zx (l:=l0) (k2:=l0.length - D2 a) aA.len e6 z rfl rfl e6)
 have P:=O.pk [0]
 obtain rfl:_=(r5 (D2 a) l0++(b::r6 (D2 a) l0)):=hr.symm.trans (iN g)
 exact⟨h,f,rfl,P,e6⟩
 refine jF (dF y) (sk (sr ?_))
 have A:s2 (r5 (D2 a) l0++(b::r6 (D2 a) l0))=l0.length+1:=by simp only [p5,p3,s3,p4]; omega
 obtain⟨ae,o,Q⟩:=H.rowFull
 refine Mz rfl (Mz rfl (Mz rfl (fw (vJ (l0.length+1)) (FX (e:=C7.wrap (((l0.length:Nat):Int)+1)) yk f1) (fw (.slice d (s2 (r5 (D2 a) l0++(b::r6 (D2 a) l0))) c) (Yl.to (GU (kG) rfl rfl e6) (congrArg (fun q=>Value.slice d q c) A.symm)) (An rfl (FW (sr (Mz rfl (Mz rfl (fw (vJ (D2 a)) (FX (e:=a) (F9 rfl) e6) (Mz rfl (fw (vJ (D2 a+1)) (FX (e:=C7.wrap (((D2 a:Nat):Int)+1)) yk f1) (fw (.slice (jC d (D2 a+1) 5 c) ((s2 (r5 (D2 a) l0++(b::r6 (D2 a) l0))) - (D2 a+1)) (c - (D2 a+1))) (Gy (kG) rfl rfl e6) ?_)))))))))))))
 have p:=Q.pb [0]
 refine fw (.bool false) (Ia (lo:=D2 a+1) (run_callFunc_extern Tryz.func150 e7 e7 e7 (e:=Extern.SlicesOverlaps.overlaps #[30,30] #[4]) e7) F1 Tryz.sizeOf60 p f3 e6 rfl (kR ((p.rds (i:=1) rfl).isSome e6) e6)) (Kz (.bool true) (nt (jt (FW ?_))))
 refine pJ [8] (Gb (Gb Gj)) p ?_
 intro av R
 refine qv 0 rfl rfl (qt (v:=vJ (D2 a)) 1 rfl (fun _ _=>FX (e:=a) (F9 rfl) e6) (qv 2 rfl rfl (qt (v:=vJ (D2 a+1)) 3 rfl (fun _ _=>FX (e:=C7.wrap (((D2 a:Nat):Int)+1)) yk f1) (qt (v:= .slice (jC d (D2 a+1) 5 c) ((s2 (r5 (D2 a) l0++(b::r6 (D2 a) l0))) - (D2 a+1)) (c - (D2 a+1))) 4 rfl (fun _ _=>Gy (kG) rfl rfl e6) (qv 5 rfl rfl (qt (v:=vJ (D2 a)) 6 rfl (fun _ _=>FX (e:=a) (F9 rfl) e6) (qt (v:= .slice (jC d (D2 a) 5 c) ((s2 (r5 (D2 a) l0++(b::r6 (D2 a) l0))) - (D2 a)) (c - (D2 a))) 7 rfl (fun _ _=>Gy (kG) rfl rfl e6) ?_)))))))
 have r:=R.pb [0]
 refine qd 8 rfl (GZ (lo:=D2 a+1) (k:=l0.length - D2 a) (kG) r rfl (fun _=>kR ((r.rds (i:=0) rfl).isSome e6) e6) e6 rfl (bA.cut (lo:=D2 a) (hi:=s2 (r5 (D2 a) l0++(b::r6 (D2 a) l0))) (r.rds (i:=0) rfl) e6 e6 e6) e6 (fun u hu=>fF aA.one _ u (by rw [zy aA.len e6 rfl e6] at hu; exact hu)) rfl ?_)
 intro ax t
 refine⟨.inl e7, ?_⟩
 refine qn (FY (sr (Mz rfl (fw (vJ (D2 a)) (FX (e:=a) (F9 rfl) e6) (fw (.slice (jC d (D2 a) 5 c) ((s2 (r5 (D2 a) l0++(b::r6 (D2 a) l0))) - (D2 a)) (c - (D2 a))) (Gy (kG) rfl rfl e6) (Mz rfl ?_))))))
 refine WL.do rfl (GZ (lo:=D2 a) (k:=1) (kG) t rfl (fun _=>kR ((t.rds (i:=0) rfl).isSome e6) e6) e6 rfl (aY t (i:=1) rfl qP) e6 (fun u hu=>fF aA.one _ u (G1 hu)) rfl ?_)
 intro S T
 refine ns (Mz rfl (An rfl (rt (tR (rs ?_)))))
 have U:Own w D S [row d (s2 (r5 (D2 a) l0++(b::r6 (D2 a) l0))) c (q6 aA.cells (r5 (D2 a) l0++(b::r6 (D2 a) l0))) 60 5,qx B 1 (q6 aA.cells ([b])) 60 5]:=T.rowPart e6 (zz (l:=l0) (m:=(s2 (r5 (D2 a) l0++(b::r6 (D2 a) l0))) - D2 a) (k2:=l0.length - D2 a) aA.len e6 (by rw [o]; exact G2 5 e6) rfl rfl e6 e6)
 have V:=U.pk [0]
 obtain rfl:_=(r5 (D2 a) l0++(b::r6 (D2 a) l0)):=hr.symm.trans (iN g)
 exact⟨d,c,rfl,V,e6⟩
def kZ (l0:List aT) (a:Int) (b:aT):(List aT):=
 if((D2 a:Nat):Int)=((l0.length:Nat):Int) then(l0++ [b]) else(r5 (D2 a) l0++(b::r6 (D2 a) l0))
theorem pE (w D d C c l0 a B) (b:aT) (x) (H:Own w D w [row d C c (q6 aT.cells l0) 56 4,qx B 1 (q6 aT.cells ([b])) 56 4]) (E:C=l0.length) (af:l0.length *48≤211106232532992) (ag:0≤a∧a≤((l0.length:Nat):Int)∧(l0.length+1) *48≤211106232532992) (hr:kZ l0 a b=x):
    Calls y4 155 #[.slice d C c,vI a, .slice B 1 1] w (dR fun v w'=> ∃ W X,v= .slice W x.length X∧Own w D w' [row W x.length X (q6 aT.cells x) 56 4]∧(x.length=l0.length+1)):=by
 subst E
 have ah:=H.rowC (i:=0) rfl
 refine cb Tryz.func155 ?_
 refine sr (Ar rfl (Mz rfl (fw (vJ (D2 a)) (FX (e:=a) (F9 rfl) e6) (fw (.slice (jC d (D2 a) 4 c) (l0.length - (D2 a)) (c - (D2 a))) (Gy (lN) rfl rfl e6) (ns (Mz rfl (Kz (vI 1) (An rfl (FW (sr (Mz rfl (Kz (.bool false) (nt (jf (sk (sr (Mz rfl (Kz (vJ l0.length) (An rfl (FW (sr (fw (vJ (D2 a)) (FX (e:=a) (F9 rfl) e6) ?_))))))))))))))))))))))
 refine Mz rfl (Kz (.bool (decide (((D2 a:Nat):Int)=((l0.length:Nat):Int)))) (nt ?_))
 by_cases g:((D2 a:Nat):Int)=((l0.length:Nat):Int)
 refine jT (dT g) (sr (Mz rfl (Mz rfl ?_)))
 refine WL.do rfl (Gt (k:=l0.length) (m:=1) (lN) H rfl rfl (iU F2 (aY H (i:=1) rfl qP) (fF aT.one ([b]))) rfl e6 (s:=s2 (l0++ [b])) f7 (r7).symm ?_)
 intro F G ai I
 have Y:s2 (l0++ [b])=l0.length+1:=by simp only [p5,s3,G0]
 refine An rfl (rt (tR (rs ?_)))
 have J:=I.pk [0]
 obtain rfl:_=(l0++ [b]):=hr.symm.trans (ip g)
 exact⟨F,G,rfl,J,e6⟩
 refine jF (dF g) (sk (FW (sr (Mz rfl (Mz rfl (fw (vJ (l0.length+1)) (FX (e:=C7.wrap (((l0.length:Nat):Int)+1)) yk f1) (Mz rfl (Kz (vJ c) (Kz (.bool (decide (((l0.length+1:Nat):Int) > ((c:Nat):Int)))) (nt ?_))))))))))
 by_cases y:((l0.length+1:Nat):Int) > ((c:Nat):Int)
 refine jT (dT y) (sr (Mz rfl (fw (vJ (D2 a)) (FX (e:=a) (F9 rfl) e6) (fw (.slice d (D2 a) c) (GU (lN) rfl rfl e6) (Mz rfl (Mz rfl (fw (vJ (l0.length+1)) (FX (e:=C7.wrap (((l0.length:Nat):Int)+1)) yk f1) (fw (vJ (D2 a)) (FX (e:=a) (F9 rfl) e6) (fw (vJ ((l0.length+1) - (D2 a))) (FX (e:=C7.wrap (((l0.length+1:Nat):Int) - ((D2 a:Nat):Int))) yk f1) ?_)))))))))
 have Z:s2 (r5 (D2 a) l0++(b::r6 (D2 a) l0))=l0.length+1:=by simp only [p5,p3,s3,p4]; omega
 refine WL.do rfl (Hy (k:=D2 a) (m:=(l0.length+1) - (D2 a)) (lN) B4 H rfl rfl e6 e6 e6 rfl e6 (s:=s2 (r5 (D2 a) l0++(b::r6 (D2 a) l0))) e6 ?_)
 intro h f aa aj z j
 have K:=j.rowLe (i:=0) rfl
 refine Ar rfl (Mz rfl (fw (vJ (D2 a)) (FX (e:=a) (F9 rfl) e6) (fw (.slice (jC h (D2 a) 4 f) ((s2 (r5 (D2 a) l0++(b::r6 (D2 a) l0))) - (D2 a)) (f - (D2 a))) (Gy (lN) rfl rfl e6) (Mz rfl ?_))))
 refine WL.do rfl (GZ (lo:=D2 a) (k:=1) (lN) j rfl (fun _=>kR ((j.rds (i:=0) rfl).isSome e6) e6) e6 rfl (aY j (i:=2) rfl qP) e6 (fun u hu=>fF aT.one _ u (G1 hu)) rfl ?_)
 intro ak L
 refine nt (FW ?_)
 refine Cc [8] (Gb (Gb Gj)) L ?_
 intro au n
 refine qv 0 rfl rfl (qt (v:=vJ (D2 a)) 1 rfl (fun _ _=>FX (e:=a) (F9 rfl) e6) (qv 2 rfl rfl (qt (v:=vJ (D2 a+1)) 3 rfl (fun _ _=>FX (e:=C7.wrap (((D2 a:Nat):Int)+1)) yk f1) (qt (v:= .slice (jC h (D2 a+1) 4 f) ((s2 (r5 (D2 a) l0++(b::r6 (D2 a) l0))) - (D2 a+1)) (f - (D2 a+1))) 4 rfl (fun _ _=>Gy (lN) rfl rfl e6) (qv 5 rfl rfl (qt (v:=vJ (D2 a)) 6 rfl (fun _ _=>FX (e:=a) (F9 rfl) e6) (qt (v:= .slice (jC d (D2 a) 4 c) (l0.length - (D2 a)) (c - (D2 a))) 7 rfl (fun _ _=>Gy (lN) rfl rfl e6) ?_)))))))
 refine qd 8 rfl (GZ (lo:=D2 a+1) (k:=l0.length - D2 a) (lN) n rfl (fun _=>kR ((n.rds (i:=0) rfl).isSome e6) e6) e6 rfl (Hl (lo:=D2 a) aT.len (n.rds (i:=1) rfl) e6 e6 f3) e6 (fun u hu=>fF aT.one _ u (G1 hu)) rfl ?_)
 intro M N
 refine⟨.inl e7, ?_⟩
 refine qn (FY (sr (Mz rfl (An rfl (rt (tR (rs ?_)))))))
 have O:Own w D M [row h (s2 (r5 (D2 a) l0++(b::r6 (D2 a) l0))) f (q6 aT.cells (r5 (D2 a) l0++(b::r6 (D2 a) l0))) 56 4,row d l0.length c (q6 aT.cells l0) 56 4,qx B 1 (q6 aT.cells ([b])) 56 4]:=N.rowPart e6 (zx (l:=l0) (k2:=l0.length - D2 a) aT.len e6 z rfl rfl e6)
 have P:=O.pk [0]
 obtain rfl:_=(r5 (D2 a) l0++(b::r6 (D2 a) l0)):=hr.symm.trans (iN g)
 exact⟨h,f,rfl,P,e6⟩
 refine jF (dF y) (sk (sr ?_))
 have A:s2 (r5 (D2 a) l0++(b::r6 (D2 a) l0))=l0.length+1:=by simp only [p5,p3,s3,p4]; omega
 obtain⟨ae,o,Q⟩:=H.rowFull
 refine Mz rfl (Mz rfl (Mz rfl (fw (vJ (l0.length+1)) (FX (e:=C7.wrap (((l0.length:Nat):Int)+1)) yk f1) (fw (.slice d (s2 (r5 (D2 a) l0++(b::r6 (D2 a) l0))) c) (Yl.to (GU (lN) rfl rfl e6) (congrArg (fun q=>Value.slice d q c) A.symm)) (An rfl (FW (sr (Mz rfl (Mz rfl (fw (vJ (D2 a)) (FX (e:=a) (F9 rfl) e6) (Mz rfl (fw (vJ (D2 a+1)) (FX (e:=C7.wrap (((D2 a:Nat):Int)+1)) yk f1) (fw (.slice (jC d (D2 a+1) 4 c) ((s2 (r5 (D2 a) l0++(b::r6 (D2 a) l0))) - (D2 a+1)) (c - (D2 a+1))) (Gy (lN) rfl rfl e6) ?_)))))))))))))
 have p:=Q.pb [0]
 refine fw (.bool false) (Ia (lo:=D2 a+1) (run_callFunc_extern Tryz.func170 e7 e7 e7 (e:=Extern.SlicesOverlaps.overlaps #[31,31] #[4]) e7) F2 Tryz.sizeOf56 p f3 e6 rfl (kR ((p.rds (i:=1) rfl).isSome e6) e6)) (Kz (.bool true) (nt (jt (FW ?_))))
 refine pJ [8] (Gb (Gb Gj)) p ?_
 intro av R
 refine qv 0 rfl rfl (qt (v:=vJ (D2 a)) 1 rfl (fun _ _=>FX (e:=a) (F9 rfl) e6) (qv 2 rfl rfl (qt (v:=vJ (D2 a+1)) 3 rfl (fun _ _=>FX (e:=C7.wrap (((D2 a:Nat):Int)+1)) yk f1) (qt (v:= .slice (jC d (D2 a+1) 4 c) ((s2 (r5 (D2 a) l0++(b::r6 (D2 a) l0))) - (D2 a+1)) (c - (D2 a+1))) 4 rfl (fun _ _=>Gy (lN) rfl rfl e6) (qv 5 rfl rfl (qt (v:=vJ (D2 a)) 6 rfl (fun _ _=>FX (e:=a) (F9 rfl) e6) (qt (v:= .slice (jC d (D2 a) 4 c) ((s2 (r5 (D2 a) l0++(b::r6 (D2 a) l0))) - (D2 a)) (c - (D2 a))) 7 rfl (fun _ _=>Gy (lN) rfl rfl e6) ?_)))))))
 have r:=R.pb [0]
 refine qd 8 rfl (GZ (lo:=D2 a+1) (k:=l0.length - D2 a) (lN) r rfl (fun _=>kR ((r.rds (i:=0) rfl).isSome e6) e6) e6 rfl (bA.cut (lo:=D2 a) (hi:=s2 (r5 (D2 a) l0++(b::r6 (D2 a) l0))) (r.rds (i:=0) rfl) e6 e6 e6) e6 (fun u hu=>fF aT.one _ u (by rw [zy aT.len e6 rfl e6] at hu; exact hu)) rfl ?_)
 intro ax t
 refine⟨.inl e7, ?_⟩
 refine qn (FY (sr (Mz rfl (fw (vJ (D2 a)) (FX (e:=a) (F9 rfl) e6) (fw (.slice (jC d (D2 a) 4 c) ((s2 (r5 (D2 a) l0++(b::r6 (D2 a) l0))) - (D2 a)) (c - (D2 a))) (Gy (lN) rfl rfl e6) (Mz rfl ?_))))))
 refine WL.do rfl (GZ (lo:=D2 a) (k:=1) (lN) t rfl (fun _=>kR ((t.rds (i:=0) rfl).isSome e6) e6) e6 rfl (aY t (i:=1) rfl qP) e6 (fun u hu=>fF aT.one _ u (G1 hu)) rfl ?_)
 intro S T
 refine ns (Mz rfl (An rfl (rt (tR (rs ?_)))))
 have U:Own w D S [row d (s2 (r5 (D2 a) l0++(b::r6 (D2 a) l0))) c (q6 aT.cells (r5 (D2 a) l0++(b::r6 (D2 a) l0))) 56 4,qx B 1 (q6 aT.cells ([b])) 56 4]:=T.rowPart e6 (zz (l:=l0) (m:=(s2 (r5 (D2 a) l0++(b::r6 (D2 a) l0))) - D2 a) (k2:=l0.length - D2 a) aT.len e6 (by rw [o]; exact G2 4 e6) rfl rfl e6 e6)
 have V:=U.pk [0]
 obtain rfl:_=(r5 (D2 a) l0++(b::r6 (D2 a) l0)):=hr.symm.trans (iN g)
 exact⟨d,c,rfl,V,e6⟩
def qD (l0:List aI):(List aI):=
 l0
theorem kP (w D d f u l0 e) (H:Own w D w []) (c:Ro w D fun w'=>bA w' 2 d f (q6 aI.cells l0)) (g:f=l0.length) (x:l0.length *32≤211106232532992) (hr:qD l0=e):
    Calls y4 75 #[.slice d f u] w (dR fun v w'=> ∃ r t,v= .slice r e.length t∧Own w D w' [row r e.length t (q6 aI.cells e) 153 2]):=by
 subst g
 refine cb Tryz.func75 ?_
 refine sr (An rfl (FW (sr (Mz rfl (fw (.bool (Option.isNone d)) (GQ B7 rfl rfl) (nt ?_))))))
 rcases JS (Option.isNone d) with a | a
 obtain rfl:l0= []:=pX (enc:=aI.cells) (H.ro c) a
 refine jT a (sr (An rfl (rt (tR (rs ?_)))))
 have h:Own w D w [row none 0 0 (q6 aI.cells ([])) 153 2]:=H.free (fB 153 2)
 have i:=h.pf []
 obtain rfl:_=([]):=hr.symm.trans rfl
 exact⟨none,0,rfl,i⟩
 refine jF a (sk (sr ?_))
 refine kL [] 153 2 0 H ?_
 intro j l b
 replace b:Own w D l [row j 0 0 (q6 aI.cells ([])) 153 2]:=b
 refine Mz rfl ?_
 refine WL.do rfl (Gt (k:=0) (m:=l0.length) (jO) b rfl rfl (iU B7 (b.ro c) (fF aI.one l0)) rfl e6 (s:=l0.length) e6 rfl ?_)
 intro n o y p
 refine An rfl (rt (rs ?_))
 have q:=p.pf []
 obtain rfl:_=l0:=hr.symm.trans rfl
 exact⟨n,o,rfl,q⟩
def uG (l0:List Int):(List Int):=
 l0
theorem tu (w D d f u l0 e) (H:Own w D w []) (c:Ro w D fun w'=>bA w' 1 d f (q6 (eI .i64) l0)) (g:f=l0.length) (x:l0.length *8≤211106232532992) (hr:uG l0=e):
    Calls y4 46 #[.slice d f u] w (dR fun v w'=> ∃ r t,v= .slice r e.length t∧Own w D w' [row r e.length t (q6 (eI .i64) e) 3 1]):=by
 subst g
 refine cb Tryz.func46 ?_
 refine sr (An rfl (FW (sr (Mz rfl (fw (.bool (Option.isNone d)) (GQ G3 rfl rfl) (nt ?_))))))
 rcases JS (Option.isNone d) with a | a
 obtain rfl:l0= []:=pX (enc:=(eI .i64)) (H.ro c) a
 refine jT a (sr (An rfl (rt (tR (rs ?_)))))
 have h:Own w D w [row none 0 0 (q6 (eI .i64) ([])) 3 1]:=H.free (fB 3 1)
 have i:=h.pf []
 obtain rfl:_=([]):=hr.symm.trans rfl
 exact⟨none,0,rfl,i⟩
 refine jF a (sk (sr ?_))
 refine kL [] 3 1 0 H ?_
 intro j l b
 replace b:Own w D l [row j 0 0 (q6 (eI .i64) ([])) 3 1]:=b
 refine Mz rfl ?_
 refine WL.do rfl (Gt (k:=0) (m:=l0.length) (nk) b rfl rfl (iU G3 (b.ro c) (fF uX l0)) rfl e6 (s:=l0.length) e6 rfl ?_)
 intro n o y p
 refine An rfl (rt (rs ?_))
 have q:=p.pf []
 obtain rfl:_=l0:=hr.symm.trans rfl
 exact⟨n,o,rfl,q⟩
def pY (l0:List aW):(List aW):=
 l0
theorem lU (w D d f u l0 e) (H:Own w D w []) (c:Ro w D fun w'=>bA w' 2 d f (q6 aW.cells l0)) (g:f=l0.length) (x:l0.length *24≤211106232532992) (hr:pY l0=e):
    Calls y4 44 #[.slice d f u] w (dR fun v w'=> ∃ r t,v= .slice r e.length t∧Own w D w' [row r e.length t (q6 aW.cells e) 89 2]):=by
 subst g
 refine cb Tryz.func44 ?_
 refine sr (An rfl (FW (sr (Mz rfl (fw (.bool (Option.isNone d)) (GQ B9 rfl rfl) (nt ?_))))))
 rcases JS (Option.isNone d) with a | a
 obtain rfl:l0= []:=pX (enc:=aW.cells) (H.ro c) a
 refine jT a (sr (An rfl (rt (tR (rs ?_)))))
 have h:Own w D w [row none 0 0 (q6 aW.cells ([])) 89 2]:=H.free (fB 89 2)
 have i:=h.pf []
 obtain rfl:_=([]):=hr.symm.trans rfl
 exact⟨none,0,rfl,i⟩
 refine jF a (sk (sr ?_))
 refine kL [] 89 2 0 H ?_
 intro j l b
 replace b:Own w D l [row j 0 0 (q6 aW.cells ([])) 89 2]:=b
 refine Mz rfl ?_
 refine WL.do rfl (Gt (k:=0) (m:=l0.length) (qA) b rfl rfl (iU B9 (b.ro c) (fF aW.one l0)) rfl e6 (s:=l0.length) e6 rfl ?_)
 intro n o y p
 refine An rfl (rt (rs ?_))
 have q:=p.pf []
 obtain rfl:_=l0:=hr.symm.trans rfl
 exact⟨n,o,rfl,q⟩
def rU (l0:List bv):(List bv):=
 l0
theorem nz (w D d f u l0 e) (H:Own w D w []) (c:Ro w D fun w'=>bA w' 6 d f (q6 bv.cells l0)) (g:f=l0.length) (x:l0.length *80≤211106232532992) (hr:rU l0=e):
    Calls y4 109 #[.slice d f u] w (dR fun v w'=> ∃ r t,v= .slice r e.length t∧Own w D w' [row r e.length t (q6 bv.cells e) 72 6]):=by
 subst g
 refine cb Tryz.func109 ?_
 refine sr (An rfl (FW (sr (Mz rfl (fw (.bool (Option.isNone d)) (GQ B1 rfl rfl) (nt ?_))))))
 rcases JS (Option.isNone d) with a | a
 obtain rfl:l0= []:=pX (enc:=bv.cells) (H.ro c) a
 refine jT a (sr (An rfl (rt (tR (rs ?_)))))
 have h:Own w D w [row none 0 0 (q6 bv.cells ([])) 72 6]:=H.free (fB 72 6)
 have i:=h.pf []
 obtain rfl:_=([]):=hr.symm.trans rfl
 exact⟨none,0,rfl,i⟩
 refine jF a (sk (sr ?_))
 refine kL [] 72 6 0 H ?_
 intro j l b
 replace b:Own w D l [row j 0 0 (q6 bv.cells ([])) 72 6]:=b
 refine Mz rfl ?_
 refine WL.do rfl (Gt (k:=0) (m:=l0.length) (qz) b rfl rfl (iU B1 (b.ro c) (fF bv.one l0)) rfl e6 (s:=l0.length) e6 rfl ?_)
 intro n o y p
 refine An rfl (rt (rs ?_))
 have q:=p.pf []
 obtain rfl:_=l0:=hr.symm.trans rfl
 exact⟨n,o,rfl,q⟩
end Go.Proofs.YtbkagebjhbphaaaGreat
