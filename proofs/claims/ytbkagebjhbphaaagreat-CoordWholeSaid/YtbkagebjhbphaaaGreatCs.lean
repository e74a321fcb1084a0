/-
 coord: rows cloned.
-/
import Derived.Test.YtbkagebjhbphaaaGreatCoC
namespace Go.Proofs.YtbkagebjhbphaaaGreat
open Int renaming toNat→C6
open IntKind renaming i64→C3
open List renaming drop→r4,flatMap→q4,flatMap_append→r5,length→s0,length_append→o2,length_cons→s1,length_drop→o1,length_nil→E7,length_take→o0,mem_of_mem_take→F0,take→r3
open Nat renaming le_mul_of_pos_left→F1
open _root_.Go.Proofs.Tryz renaming prog→v5,underlying147→B1,underlying29→B3,underlying3→v8,underlying30→B6,underlying31→B4,underlying39→F2,underlying40→y6,underlying58→y4
set_option maxRecDepth 100000
open Go.RowKit
set_option linter.unusedVariables false
set_option linter.unusedSectionVars false
set_option linter.unusedSimpArgs false
def pQ (l0:List af):(List af):=
 l0
theorem o6 (w D d f u l0 e) (H:Own w D w []) (c:Ro w D fun w'=>aY w' 3 d f (q4 af.cells l0)) (g:f=l0.length) (x:l0.length *48≤211106232532992) (hr:pQ l0=e):
    Calls v5 74 #[.slice d f u] w (dA fun v w'=> ∃ r t,v= .slice r e.length t∧Own w D w' [row r e.length t (q4 af.cells e) 149 3]):=by
 subst g
 refine cb Tryz.func74 ?_
 refine sr (An rfl (Ik (sr (Mz rfl (fw (.bool (Option.isNone d)) (Ji y6 rfl rfl) (nt ?_))))))
 rcases Ls (Option.isNone d) with a | a
 obtain rfl:l0= []:=qi (enc:=af.cells) (H.ro c) a
 refine jT a (sr (An rfl (rt (tR (rs ?_)))))
 have h:Own w D w [row none 0 0 (q4 af.cells ([])) 149 3]:=H.free (eP 149 3)
 have i:=h.pf []
 obtain rfl:_=([]):=hr.symm.trans rfl
 exact⟨none,0,rfl,i⟩
 refine jF a (sk (sr ?_))
 refine jV [] 149 3 0 H ?_
 intro j l b
 replace b:Own w D l [row j 0 0 (q4 af.cells ([])) 149 3]:=b
 refine Mz rfl ?_
 refine WL.do rfl (IW (k:=0) (m:=l0.length) (rX) b rfl rfl (gN y6 (b.ro c) (dX af.one l0)) rfl e6 (s:=l0.length) e6 rfl ?_)
 intro n o y p
 refine An rfl (rt (rs ?_))
 have q:=p.pf []
 obtain rfl:_=l0:=hr.symm.trans rfl
 exact⟨n,o,rfl,q⟩
def oN (l0:List ay):(List ay):=
 l0
theorem nY (w D d f u l0 e) (H:Own w D w []) (c:Ro w D fun w'=>aY w' 5 d f (q4 ay.cells l0)) (g:f=l0.length) (x:l0.length *56≤211106232532992) (hr:oN l0=e):
    Calls v5 45 #[.slice d f u] w (dA fun v w'=> ∃ r t,v= .slice r e.length t∧Own w D w' [row r e.length t (q4 ay.cells e) 60 5]):=by
 subst g
 refine cb Tryz.func45 ?_
 refine sr (An rfl (Ik (sr (Mz rfl (fw (.bool (Option.isNone d)) (Ji B6 rfl rfl) (nt ?_))))))
 rcases Ls (Option.isNone d) with a | a
 obtain rfl:l0= []:=qi (enc:=ay.cells) (H.ro c) a
 refine jT a (sr (An rfl (rt (tR (rs ?_)))))
 have h:Own w D w [row none 0 0 (q4 ay.cells ([])) 60 5]:=H.free (eP 60 5)
 have i:=h.pf []
 obtain rfl:_=([]):=hr.symm.trans rfl
 exact⟨none,0,rfl,i⟩
 refine jF a (sk (sr ?_))
 refine jV [] 60 5 0 H ?_
 intro j l b
 replace b:Own w D l [row j 0 0 (q4 ay.cells ([])) 60 5]:=b
 refine Mz rfl ?_
 refine WL.do rfl (IW (k:=0) (m:=l0.length) (kM) b rfl rfl (gN B6 (b.ro c) (dX ay.one l0)) rfl e6 (s:=l0.length) e6 rfl ?_)
 intro n o y p
 refine An rfl (rt (rs ?_))
 have q:=p.pf []
 obtain rfl:_=l0:=hr.symm.trans rfl
 exact⟨n,o,rfl,q⟩
def qG (l0:List aS):(List aS):=
 l0
theorem pX (w D d f u l0 e) (H:Own w D w []) (c:Ro w D fun w'=>aY w' 4 d f (q4 aS.cells l0)) (g:f=l0.length) (x:l0.length *48≤211106232532992) (hr:qG l0=e):
    Calls v5 47 #[.slice d f u] w (dA fun v w'=> ∃ r t,v= .slice r e.length t∧Own w D w' [row r e.length t (q4 aS.cells e) 56 4]):=by
 subst g
 refine cb Tryz.func47 ?_
 refine sr (An rfl (Ik (sr (Mz rfl (fw (.bool (Option.isNone d)) (Ji B4 rfl rfl) (nt ?_))))))
 rcases Ls (Option.isNone d) with a | a
 obtain rfl:l0= []:=qi (enc:=aS.cells) (H.ro c) a
 refine jT a (sr (An rfl (rt (tR (rs ?_)))))
 have h:Own w D w [row none 0 0 (q4 aS.cells ([])) 56 4]:=H.free (eP 56 4)
 have i:=h.pf []
 obtain rfl:_=([]):=hr.symm.trans rfl
 exact⟨none,0,rfl,i⟩
 refine jF a (sk (sr ?_))
 refine jV [] 56 4 0 H ?_
 intro j l b
 replace b:Own w D l [row j 0 0 (q4 aS.cells ([])) 56 4]:=b
 refine Mz rfl ?_
 refine WL.do rfl (IW (k:=0) (m:=l0.length) (lW) b rfl rfl (gN B4 (b.ro c) (dX aS.one l0)) rfl e6 (s:=l0.length) e6 rfl ?_)
 intro n o y p
 refine An rfl (rt (rs ?_))
 have q:=p.pf []
 obtain rfl:_=l0:=hr.symm.trans rfl
 exact⟨n,o,rfl,q⟩
def jO (l0:List ay) (a:Int) (b:Int):(List ay):=
 if a=b then l0 else(r3 (C6 a) l0++r4 (C6 b) l0)
theorem nN (w D d n c l0 b a h) (H:Own w D w [row d n c (q4 ay.cells l0) 60 5]) (o:n=l0.length) (I:l0.length *56≤211106232532992) (J:0≤b∧b≤a∧a≤((l0.length:Nat):Int)) (hr:jO l0 b a=h):
    Calls v5 98 #[.slice d n c,vI b,vI a] w (dA fun v w'=> ∃ A B,v= .slice A h.length B∧Own w D w' [row A h.length B (q4 ay.cells h) 60 5]∧(h.length≤l0.length)):=by
 subst o
 have K:=H.rowC (i:=0) rfl
 refine cb Tryz.func98 ?_
 refine sr (Ar rfl (Mz rfl (fw (vJ (C6 b)) (Ir (e:=b) (IA rfl) e6) (fw (vJ (C6 a)) (Ir (e:=a) (IA rfl) e6) (Mz rfl (Kz (vJ l0.length) (fw (.slice (jw d (C6 b) 5 l0.length) ((C6 a) - (C6 b)) (l0.length - (C6 b))) (Kr (kM) rfl rfl rfl rfl e6 e6 e6) (nt (Ik (sr (Mz rfl (Mz rfl (Kz (.bool (decide (b=a))) (nt ?_))))))))))))))
 by_cases g:b=a
 refine jT (dT g) (sr (Mz rfl (An rfl (rt (tR (rs ?_))))))
 have p:=H.pf []
 obtain rfl:_=l0:=hr.symm.trans (ip g)
 exact⟨d,c,rfl,p,e6⟩
 refine jF (dF g) (sk (sr (Mz rfl (Kz (vJ l0.length) (An rfl (Ik ?_))))))
 have f:=H.drew
 refine Jr [6] (fun W=> ∃ L',Own w D W ([row d l0.length c (q4 ay.cells l0) 60 5]++L')) e7 e7 (IE IQ) ⟨_,f⟩ ?_
 revert f
 generalize World.drew w=q
 intro f
 refine qv 0 rfl rfl (qt (v:=vJ (C6 b)) 1 rfl (fun _ _=>Ir (e:=b) (IA rfl) e6) (qt (v:= .slice d (C6 b) c) 2 rfl (fun _ _=>Jk (kM) rfl rfl e6) (qv 3 rfl rfl (qt (v:=vJ (C6 a)) 4 rfl (fun _ _=>Ir (e:=a) (IA rfl) e6) (qt (v:= .slice (jw d (C6 a) 5 c) (l0.length - (C6 a)) (c - (C6 a))) 5 rfl (fun _ _=>I5 (kM) rfl rfl e6) ?_)))))
 have C:s0 (r3 (C6 b) l0++r4 (C6 a) l0)=C6 b+(l0.length - C6 a):=by simp only [o2,o0,o1]; omega
 have j:Src v5 5 30 (.slice (jw d (C6 a) 5 c) (l0.length - (C6 a)) (c - (C6 a))) (l0.length - C6 a) (q4 ay.cells (r4 (C6 a) l0)) q:=gN B6 (Jw (lo:=C6 a) ay.len (f.rds (i:=0) rfl) e6 e6 f2) (dX ay.one (r4 (C6 a) l0))
 obtain⟨E,r,t⟩:=f.rowFull
 refine qd 6 rfl (JM (k:=C6 b) (m:=l0.length - C6 a) (kM) t rfl rfl j e6 (s:=s0 (r3 (C6 b) l0++r4 (C6 a) l0)) e6 ?_)
 intro L l
 refine⟨.inl e7, ?_⟩
 refine I4 (v:= .slice d (s0 (r3 (C6 b) l0++r4 (C6 a) l0)) c) 7 rfl e7 (fun _=>Jv rfl) (qn (Iq (sr (Mz rfl (Mz rfl (Kz (vI ((s0 (r3 (C6 b) l0++r4 (C6 a) l0):Nat):Int)) (Mz rfl (fw (.slice (jw d (s0 (r3 (C6 b) l0++r4 (C6 a) l0)) 5 c) (l0.length - (s0 (r3 (C6 b) l0++r4 (C6 a) l0))) (c - (s0 (r3 (C6 b) l0++r4 (C6 a) l0)))) (Yl.cut (kM) rfl rfl rfl e6 e6) ?_))))))))
 refine Jz (JV (z0:=(.agg #[.int .u64 0,vI 0, .int .u64 0, .int .u64 0, .slice none 0 0])) (lo:=s0 (r3 (C6 b) l0++r4 (C6 a) l0)) (nd:=(l0.length - (s0 (r3 (C6 b) l0++r4 (C6 a) l0)))) e7 rfl (kM) l rfl (fun _=>kS ((l.rds (i:=0) rfl).isSome e6) e6) e6 ?_)
 intro u F G x
 refine ns (Mz rfl (An rfl (rt (rs ?_))))
 have y:Own w D u [row d (s0 (r3 (C6 b) l0++r4 (C6 a) l0)) c (q4 ay.cells (r3 (C6 b) l0++r4 (C6 a) l0)) 60 5]:=x.rowPart e6 (yS ay.len e6 e6 rfl)
 have z:=y.pf []
 obtain rfl:_=(r3 (C6 b) l0++r4 (C6 a) l0):=hr.symm.trans (iN g)
 exact⟨d,c,rfl,z,e6⟩
def kN (l0:List bK) (a:Int) (b:Int):(List bK):=
 if a=b then l0 else(r3 (C6 a) l0++r4 (C6 b) l0)
theorem pu (w D d n c l0 b a h) (H:Own w D w [row d n c (q4 bK.cells l0) 107 9]) (o:n=l0.length) (I:l0.length *136≤211106232532992) (J:0≤b∧b≤a∧a≤((l0.length:Nat):Int)) (hr:kN l0 b a=h):
    Calls v5 105 #[.slice d n c,vI b,vI a] w (dA fun v w'=> ∃ A B,v= .slice A h.length B∧Own w D w' [row A h.length B (q4 bK.cells h) 107 9]∧(h.length≤l0.length)):=by
 subst o
 have K:=H.rowC (i:=0) rfl
 refine cb Tryz.func105 ?_
 refine sr (Ar rfl (Mz rfl (fw (vJ (C6 b)) (Ir (e:=b) (IA rfl) e6) (fw (vJ (C6 a)) (Ir (e:=a) (IA rfl) e6) (Mz rfl (Kz (vJ l0.length) (fw (.slice (jw d (C6 b) 9 l0.length) ((C6 a) - (C6 b)) (l0.length - (C6 b))) (Kr (qF) rfl rfl rfl rfl e6 e6 e6) (nt (Ik (sr (Mz rfl (Mz rfl (Kz (.bool (decide (b=a))) (nt ?_))))))))))))))
 by_cases g:b=a
 refine jT (dT g) (sr (Mz rfl (An rfl (rt (tR (rs ?_))))))
 have p:=H.pf []
 obtain rfl:_=l0:=hr.symm.trans (ip g)
 exact⟨d,c,rfl,p,e6⟩
 refine jF (dF g) (sk (sr (Mz rfl (Kz (vJ l0.length) (An rfl (Ik ?_))))))
 have f:=H.drew
 refine Jr [6] (fun W=> ∃ L',Own w D W ([row d l0.length c (q4 bK.cells l0) 107 9]++L')) e7 e7 (IE IQ) ⟨_,f⟩ ?_
 revert f
 generalize World.drew w=q
 intro f
 refine qv 0 rfl rfl (qt (v:=vJ (C6 b)) 1 rfl (fun _ _=>Ir (e:=b) (IA rfl) e6) (qt (v:= .slice d (C6 b) c) 2 rfl (fun _ _=>Jk (qF) rfl rfl e6) (qv 3 rfl rfl (qt (v:=vJ (C6 a)) 4 rfl (fun _ _=>Ir (e:=a) (IA rfl) e6) (qt (v:= .slice (jw d (C6 a) 9 c) (l0.length - (C6 a)) (c - (C6 a))) 5 rfl (fun _ _=>I5 (qF) rfl rfl e6) ?_)))))
 have C:s0 (r3 (C6 b) l0++r4 (C6 a) l0)=C6 b+(l0.length - C6 a):=by simp only [o2,o0,o1]; omega
 have j:Src v5 9 79 (.slice (jw d (C6 a) 9 c) (l0.length - (C6 a)) (c - (C6 a))) (l0.length - C6 a) (q4 bK.cells (r4 (C6 a) l0)) q:=gN Tryz.underlying79 (Jw (lo:=C6 a) bK.len (f.rds (i:=0) rfl) e6 e6 f2) (dX bK.one (r4 (C6 a) l0))
 obtain⟨E,r,t⟩:=f.rowFull
 refine qd 6 rfl (JM (k:=C6 b) (m:=l0.length - C6 a) (qF) t rfl rfl j e6 (s:=s0 (r3 (C6 b) l0++r4 (C6 a) l0)) e6 ?_)
 intro L l
 refine⟨.inl e7, ?_⟩
 refine I4 (v:= .slice d (s0 (r3 (C6 b) l0++r4 (C6 a) l0)) c) 7 rfl e7 (fun _=>Jv rfl) (qn (Iq (sr (Mz rfl (Mz rfl (Kz (vI ((s0 (r3 (C6 b) l0++r4 (C6 a) l0):Nat):Int)) (Mz rfl (fw (.slice (jw d (s0 (r3 (C6 b) l0++r4 (C6 a) l0)) 9 c) (l0.length - (s0 (r3 (C6 b) l0++r4 (C6 a) l0))) (c - (s0 (r3 (C6 b) l0++r4 (C6 a) l0)))) (Yl.cut (qF) rfl rfl rfl e6 e6) ?_))))))))
 refine Jz (JV (z0:=(.agg (rZ 0 0 0 0 none 0 0 none 0 0 none 0 0 none 0 0 0).toArray)) (lo:=s0 (r3 (C6 b) l0++r4 (C6 a) l0)) (nd:=(l0.length - (s0 (r3 (C6 b) l0++r4 (C6 a) l0)))) e7 rfl (qF) l rfl (fun _=>kS ((l.rds (i:=0) rfl).isSome e6) e6) e6 ?_)
 intro u F G x
 refine ns (Mz rfl (An rfl (rt (rs ?_))))
 have y:Own w D u [row d (s0 (r3 (C6 b) l0++r4 (C6 a) l0)) c (q4 bK.cells (r3 (C6 b) l0++r4 (C6 a) l0)) 107 9]:=x.rowPart e6 (yS bK.len e6 e6 rfl)
 have z:=y.pf []
 obtain rfl:_=(r3 (C6 b) l0++r4 (C6 a) l0):=hr.symm.trans (iN g)
 exact⟨d,c,rfl,z,e6⟩
def jP (l0:List ay) (a:Int) (b:ay):(List ay):=
 if((C6 a:Nat):Int)=((l0.length:Nat):Int) then(l0++ [b]) else(r3 (C6 a) l0++(b::r4 (C6 a) l0))
theorem nO (w D d C c l0 a B) (b:ay) (x) (H:Own w D w [row d C c (q4 ay.cells l0) 60 5,qC B 1 (q4 ay.cells ([b])) 60 5]) (E:C=l0.length) (af:l0.length *56≤211106232532992) (ag:0≤a∧a≤((l0.length:Nat):Int)∧(l0.length+1) *56≤211106232532992) (hr:jP l0 a b=x):
    Calls v5 130 #[.slice d C c,vI a, .slice B 1 1] w (dA fun v w'=> ∃ W X,v= .slice W x.length X∧Own w D w' [row W x.length X (q4 ay.cells x) 60 5]∧(x.length=l0.length+1)):=by
 subst E
 have ah:=H.rowC (i:=0) rfl
 refine cb Tryz.func130 ?_
 refine sr (Ar rfl (Mz rfl (fw (vJ (C6 a)) (Ir (e:=a) (IA rfl) e6) (fw (.slice (jw d (C6 a) 5 c) (l0.length - (C6 a)) (c - (C6 a))) (I5 (kM) rfl rfl e6) (ns (Mz rfl (Kz (vI 1) (An rfl (Ik (sr (Mz rfl (Kz (.bool false) (nt (jf (sk (sr (Mz rfl (Kz (vJ l0.length) (An rfl (Ik (sr (fw (vJ (C6 a)) (Ir (e:=a) (IA rfl) e6) ?_))))))))))))))))))))))
 refine Mz rfl (Kz (.bool (decide (((C6 a:Nat):Int)=((l0.length:Nat):Int)))) (nt ?_))
 by_cases g:((C6 a:Nat):Int)=((l0.length:Nat):Int)
 refine jT (dT g) (sr (Mz rfl (Mz rfl ?_)))
 refine WL.do rfl (IW (k:=l0.length) (m:=1) (kM) H rfl rfl (gN B6 (bq H (i:=1) rfl qW) (dX ay.one ([b]))) rfl e6 (s:=s0 (l0++ [b])) f7 (r5).symm ?_)
 intro F G ai I
 have Y:s0 (l0++ [b])=l0.length+1:=by simp only [o2,s1,E7]
 refine An rfl (rt (tR (rs ?_)))
 have J:=I.pk [0]
 obtain rfl:_=(l0++ [b]):=hr.symm.trans (ip g)
 exact⟨F,G,rfl,J,e6⟩
 refine jF (dF g) (sk (Ik (sr (Mz rfl (Mz rfl (fw (vJ (l0.length+1)) (Ir (e:=C3.wrap (((l0.length:Nat):Int)+1)) yk f0) (Mz rfl (Kz (vJ c) (Kz (.bool (decide (((l0.length+1:Nat):Int) > ((c:Nat):Int)))) (nt ?_))))))))))
 by_cases y:((l0.length+1:Nat):Int) > ((c:Nat):Int)
 refine jT (dT y) (sr (Mz rfl (fw (vJ (C6 a)) (Ir (e:=a) (IA rfl) e6) (fw (.slice d (C6 a) c) (Jk (kM) rfl rfl e6) (Mz rfl (Mz rfl (fw (vJ (l0.length+1)) (Ir (e:=C3.wrap (((l0.length:Nat):Int)+1)) yk f0) (fw (vJ (C6 a)) (Ir (e:=a) (IA rfl) e6) (fw (vJ ((l0.length+1) - (C6 a))) (Ir (e:=C3.wrap (((l0.length+1:Nat):Int) - ((C6 a:Nat):Int))) yk f0) ?_)))))))))
 have Z:s0 (r3 (C6 a) l0++(b::r4 (C6 a) l0))=l0.length+1:=by simp only [o2,o0,s1,o1]; omega
 refine WL.do rfl (JJ (k:=C6 a) (m:=(l0.length+1) - (C6 a)) (kM) v8 H rfl rfl e6 e6 e6 rfl e6 (s:=s0 (r3 (C6 a) l0++(b::r4 (C6 a) l0))) e6 ?_)
 intro h f aa aj z j
 have K:=j.rowLe (i:=0) rfl
 refine Ar rfl (Mz rfl (fw (vJ (C6 a)) (Ir (e:=a) (IA rfl) e6) (fw (.slice (jw h (C6 a) 5 f) ((s0 (r3 (C6 a) l0++(b::r4 (C6 a) l0))) - (C6 a)) (f - (C6 a))) (I5 (kM) rfl rfl e6) (Mz rfl ?_))))
 refine WL.do rfl (Jn (lo:=C6 a) (k:=1) (kM) j rfl (fun _=>kS ((j.rds (i:=0) rfl).isSome e6) e6) e6 rfl (bq j (i:=2) rfl qW) e6 (fun u hu=>dX ay.one _ u (F0 hu)) rfl ?_)
 intro ak L
 refine nt (Ik ?_)
 refine EF [8] (IE (IE IQ)) L ?_
 intro au n
 refine qv 0 rfl rfl (qt (v:=vJ (C6 a)) 1 rfl (fun _ _=>Ir (e:=a) (IA rfl) e6) (qv 2 rfl rfl (qt (v:=vJ (C6 a+1)) 3 rfl (fun _ _=>Ir (e:=C3.wrap (((C6 a:Nat):Int)+1)) yk f0) (qt (v:= .slice (jw h (C6 a+1) 5 f) ((s0 (r3 (C6 a) l0++(b::r4 (C6 a) l0))) - (C6 a+1)) (f - (C6 a+1))) 4 rfl (fun _ _=>I5 (kM) rfl rfl e6) (qv 5 rfl rfl (qt (v:=vJ (C6 a)) 6 rfl (fun _ _=>Ir (e:=a) (IA rfl) e6) (qt (v:= .slice (jw d (C6 a) 5 c) (l0.length - (C6 a)) (c - (C6 a))) 7 rfl (fun _ _=>I5 (kM) rfl rfl e6) ?_)))))))
 refine qd 8 rfl (Jn (lo:=C6 a+1) (k:=l0.length - C6 a) (kM) n rfl (fun _=>kS ((n.rds (i:=0) rfl).isSome e6) e6) e6 rfl (Jw (lo:=C6 a) ay.len (n.rds (i:=1) rfl) e6 e6 f2) e6 (fun u hu=>dX ay.one _ u (F0 hu)) rfl ?_)
 intro M N
 refine⟨.inl e7, ?_⟩
 refine qn (Iq (sr (Mz rfl (An rfl (rt (tR (rs ?_)))))))
 have O:Own w D M [row h (s0 (r3 (C6 a) l0++(b::r4 (C6 a) l0))) f (q4 ay.cells (r3 (C6 a) l0++(b::r4 (C6 a) l0))) 60 5,row d l0.length c (q4 ay.cells l0) 60 5,qC B 1 (q4 ay.cells ([b])) 60 5]:=N.rowPart e6 (zS (l:=l0) (k2:=l0.length - C6 a) ay.len e6 z rfl rfl e6)
 have P:=O.pk [0]
 obtain rfl:_=(r3 (C6 a) l0++(b::r4 (C6 a) l0)):=hr.symm.trans (iN g)
 exact⟨h,f,rfl,P,e6⟩
 refine jF (dF y) (sk (sr ?_))
 have A:s0 (r3 (C6 a) l0++(b::r4 (C6 a) l0))=l0.length+1:=by simp only [o2,o0,s1,o1]; omega
 obtain⟨ae,o,Q⟩:=H.rowFull
 refine Mz rfl (Mz rfl (Mz rfl (fw (vJ (l0.length+1)) (Ir (e:=C3.wrap (((l0.length:Nat):Int)+1)) yk f0) (fw (.slice d (s0 (r3 (C6 a) l0++(b::r4 (C6 a) l0))) c) (Yl.to (Jk (kM) rfl rfl e6) (congrArg (fun q=>Value.slice d q c) A.symm)) (An rfl (Ik (sr (Mz rfl (Mz rfl (fw (vJ (C6 a)) (Ir (e:=a) (IA rfl) e6) (Mz rfl (fw (vJ (C6 a+1)) (Ir (e:=C3.wrap (((C6 a:Nat):Int)+1)) yk f0) (fw (.slice (jw d (C6 a+1) 5 c) ((s0 (r3 (C6 a) l0++(b::r4 (C6 a) l0))) - (C6 a+1)) (c - (C6 a+1))) (I5 (kM) rfl rfl e6) ?_)))))))))))))
 have p:=Q.pb [0]
 refine fw (.bool false) (JN (lo:=C6 a+1) (run_callFunc_extern Tryz.func150 e7 e7 e7 (e:=Extern.SlicesOverlaps.overlaps #[30,30] #[4]) e7) B6 Tryz.sizeOf60 p f2 e6 rfl (kS ((p.rds (i:=1) rfl).isSome e6) e6)) (Kz (.bool true) (nt (jt (Ik ?_))))
 refine pM [8] (IE (IE IQ)) p ?_
 intro av R
 refine qv 0 rfl rfl (qt (v:=vJ (C6 a)) 1 rfl (fun _ _=>Ir (e:=a) (IA rfl) e6) (qv 2 rfl rfl (qt (v:=vJ (C6 a+1)) 3 rfl (fun _ _=>Ir (e:=C3.wrap (((C6 a:Nat):Int)+1)) yk f0) (qt (v:= .slice (jw d (C6 a+1) 5 c) ((s0 (r3 (C6 a) l0++(b::r4 (C6 a) l0))) - (C6 a+1)) (c - (C6 a+1))) 4 rfl (fun _ _=>I5 (kM) rfl rfl e6) (qv 5 rfl rfl (qt (v:=vJ (C6 a)) 6 rfl (fun _ _=>Ir (e:=a) (IA rfl) e6) (qt (v:= .slice (jw d (C6 a) 5 c) ((s0 (r3 (C6 a) l0++(b::r4 (C6 a) l0))) - (C6 a)) (c - (C6 a))) 7 rfl (fun _ _=>I5 (kM) rfl rfl e6) ?_)))))))
 have r:=R.pb [0]
 refine qd 8 rfl (Jn (lo:=C6 a+1) (k:=l0.length - C6 a) (kM) r rfl (fun _=>kS ((r.rds (i:=0) rfl).isSome e6) e6) e6 rfl (aY.cut (lo:=C6 a) (hi:=s0 (r3 (C6 a) l0++(b::r4 (C6 a) l0))) (r.rds (i:=0) rfl) e6 e6 e6) e6 (fun u hu=>dX ay.one _ u (by rw [zT ay.len e6 rfl e6] at hu; exact hu)) rfl ?_)
 intro ax t
 refine⟨.inl e7, ?_⟩
 refine qn (Iq (sr (Mz rfl (fw (vJ (C6 a)) (Ir (e:=a) (IA rfl) e6) (fw (.slice (jw d (C6 a) 5 c) ((s0 (r3 (C6 a) l0++(b::r4 (C6 a) l0))) - (C6 a)) (c - (C6 a))) (I5 (kM) rfl rfl e6) (Mz rfl ?_))))))
 refine WL.do rfl (Jn (lo:=C6 a) (k:=1) (kM) t rfl (fun _=>kS ((t.rds (i:=0) rfl).isSome e6) e6) e6 rfl (bq t (i:=1) rfl qW) e6 (fun u hu=>dX ay.one _ u (F0 hu)) rfl ?_)
 intro S T
 refine ns (Mz rfl (An rfl (rt (tR (rs ?_)))))
 have U:Own w D S [row d (s0 (r3 (C6 a) l0++(b::r4 (C6 a) l0))) c (q4 ay.cells (r3 (C6 a) l0++(b::r4 (C6 a) l0))) 60 5,qC B 1 (q4 ay.cells ([b])) 60 5]:=T.rowPart e6 (zU (l:=l0) (m:=(s0 (r3 (C6 a) l0++(b::r4 (C6 a) l0))) - C6 a) (k2:=l0.length - C6 a) ay.len e6 (by rw [o]; exact F1 5 e6) rfl rfl e6 e6)
 have V:=U.pk [0]
 obtain rfl:_=(r3 (C6 a) l0++(b::r4 (C6 a) l0)):=hr.symm.trans (iN g)
 exact⟨d,c,rfl,V,e6⟩
def kZ (l0:List aS) (a:Int) (b:aS):(List aS):=
 if((C6 a:Nat):Int)=((l0.length:Nat):Int) then(l0++ [b]) else(r3 (C6 a) l0++(b::r4 (C6 a) l0))
theorem pR (w D d C c l0 a B) (b:aS) (x) (H:Own w D w [row d C c (q4 aS.cells l0) 56 4,qC B 1 (q4 aS.cells ([b])) 56 4]) (E:C=l0.length) (af:l0.length *48≤211106232532992) (ag:0≤a∧a≤((l0.length:Nat):Int)∧(l0.length+1) *48≤211106232532992) (hr:kZ l0 a b=x):
    Calls v5 155 #[.slice d C c,vI a, .slice B 1 1] w (dA fun v w'=> ∃ W X,v= .slice W x.length X∧Own w D w' [row W x.length X (q4 aS.cells x) 56 4]∧(x.length=l0.length+1)):=by
 subst E
 have ah:=H.rowC (i:=0) rfl
 refine cb Tryz.func155 ?_
 refine sr (Ar rfl (Mz rfl (fw (vJ (C6 a)) (Ir (e:=a) (IA rfl) e6) (fw (.slice (jw d (C6 a) 4 c) (l0.length - (C6 a)) (c - (C6 a))) (I5 (lW) rfl rfl e6) (ns (Mz rfl (Kz (vI 1) (An rfl (Ik (sr (Mz rfl (Kz (.bool false) (nt (jf (sk (sr (Mz rfl (Kz (vJ l0.length) (An rfl (Ik (sr (fw (vJ (C6 a)) (Ir (e:=a) (IA rfl) e6) ?_))))))))))))))))))))))
 refine Mz rfl (Kz (.bool (decide (((C6 a:Nat):Int)=((l0.length:Nat):Int)))) (nt ?_))
 by_cases g:((C6 a:Nat):Int)=((l0.length:Nat):Int)
 refine jT (dT g) (sr (Mz rfl (Mz rfl ?_)))
 refine WL.do rfl (IW (k:=l0.length) (m:=1) (lW) H rfl rfl (gN B4 (bq H (i:=1) rfl qW) (dX aS.one ([b]))) rfl e6 (s:=s0 (l0++ [b])) f7 (r5).symm ?_)
 intro F G ai I
 have Y:s0 (l0++ [b])=l0.length+1:=by simp only [o2,s1,E7]
 refine An rfl (rt (tR (rs ?_)))
 have J:=I.pk [0]
 obtain rfl:_=(l0++ [b]):=hr.symm.trans (ip g)
 exact⟨F,G,rfl,J,e6⟩
 refine jF (dF g) (sk (Ik (sr (Mz rfl (Mz rfl (fw (vJ (l0.length+1)) (Ir (e:=C3.wrap (((l0.length:Nat):Int)+1)) yk f0) (Mz rfl (Kz (vJ c) (Kz (.bool (decide (((l0.length+1:Nat):Int) > ((c:Nat):Int)))) (nt ?_))))))))))
 by_cases y:((l0.length+1:Nat):Int) > ((c:Nat):Int)
 refine jT (dT y) (sr (Mz rfl (fw (vJ (C6 a)) (Ir (e:=a) (IA rfl) e6) (fw (.slice d (C6 a) c) (Jk (lW) rfl rfl e6) (Mz rfl (Mz rfl (fw (vJ (l0.length+1)) (Ir (e:=C3.wrap (((l0.length:Nat):Int)+1)) yk f0) (fw (vJ (C6 a)) (Ir (e:=a) (IA rfl) e6) (fw (vJ ((l0.length+1) - (C6 a))) (Ir (e:=C3.wrap (((l0.length+1:Nat):Int) - ((C6 a:Nat):Int))) yk f0) ?_)))))))))
 have Z:s0 (r3 (C6 a) l0++(b::r4 (C6 a) l0))=l0.length+1:=by simp only [o2,o0,s1,o1]; omega
 refine WL.do rfl (JJ (k:=C6 a) (m:=(l0.length+1) - (C6 a)) (lW) v8 H rfl rfl e6 e6 e6 rfl e6 (s:=s0 (r3 (C6 a) l0++(b::r4 (C6 a) l0))) e6 ?_)
 intro h f aa aj z j
 have K:=j.rowLe (i:=0) rfl
 refine Ar rfl (Mz rfl (fw (vJ (C6 a)) (Ir (e:=a) (IA rfl) e6) (fw (.slice (jw h (C6 a) 4 f) ((s0 (r3 (C6 a) l0++(b::r4 (C6 a) l0))) - (C6 a)) (f - (C6 a))) (I5 (lW) rfl rfl e6) (Mz rfl ?_))))
 refine WL.do rfl (Jn (lo:=C6 a) (k:=1) (lW) j rfl (fun _=>kS ((j.rds (i:=0) rfl).isSome e6) e6) e6 rfl (bq j (i:=2) rfl qW) e6 (fun u hu=>dX aS.one _ u (F0 hu)) rfl ?_)
 intro ak L
 refine nt (Ik ?_)
 refine EF [8] (IE (IE IQ)) L ?_
 intro au n
 refine qv 0 rfl rfl (qt (v:=vJ (C6 a)) 1 rfl (fun _ _=>Ir (e:=a) (IA rfl) e6) (qv 2 rfl rfl (qt (v:=vJ (C6 a+1)) 3 rfl (fun _ _=>Ir (e:=C3.wrap (((C6 a:Nat):Int)+1)) yk f0) (qt (v:= .slice (jw h (C6 a+1) 4 f) ((s0 (r3 (C6 a) l0++(b::r4 (C6 a) l0))) - (C6 a+1)) (f - (C6 a+1))) 4 rfl (fun _ _=>I5 (lW) rfl rfl e6) (qv 5 rfl rfl (qt (v:=vJ (C6 a)) 6 rfl (fun _ _=>Ir (e:=a) (IA rfl) e6) (qt (v:= .slice (jw d (C6 a) 4 c) (l0.length - (C6 a)) (c - (C6 a))) 7 rfl (fun _ _=>I5 (lW) rfl rfl e6) ?_)))))))
 refine qd 8 rfl (Jn (lo:=C6 a+1) (k:=l0.length - C6 a) (lW) n rfl (fun _=>kS ((n.rds (i:=0) rfl).isSome e6) e6) e6 rfl (Jw (lo:=C6 a) aS.len (n.rds (i:=1) rfl) e6 e6 f2) e6 (fun u hu=>dX aS.one _ u (F0 hu)) rfl ?_)
 intro M N
 refine⟨.inl e7, ?_⟩
 refine qn (Iq (sr (Mz rfl (An rfl (rt (tR (rs ?_)))))))
 have O:Own w D M [row h (s0 (r3 (C6 a) l0++(b::r4 (C6 a) l0))) f (q4 aS.cells (r3 (C6 a) l0++(b::r4 (C6 a) l0))) 56 4,row d l0.length c (q4 aS.cells l0) 56 4,qC B 1 (q4 aS.cells ([b])) 56 4]:=N.rowPart e6 (zS (l:=l0) (k2:=l0.length - C6 a) aS.len e6 z rfl rfl e6)
 have P:=O.pk [0]
 obtain rfl:_=(r3 (C6 a) l0++(b::r4 (C6 a) l0)):=hr.symm.trans (iN g)
 exact⟨h,f,rfl,P,e6⟩
 refine jF (dF y) (sk (sr ?_))
 have A:s0 (r3 (C6 a) l0++(b::r4 (C6 a) l0))=l0.length+1:=by simp only [o2,o0,s1,o1]; omega
 obtain⟨ae,o,Q⟩:=H.rowFull
 refine Mz rfl (Mz rfl (Mz rfl (fw (vJ (l0.length+1)) (Ir (e:=C3.wrap (((l0.length:Nat):Int)+1)) yk f0) (fw (.slice d (s0 (r3 (C6 a) l0++(b::r4 (C6 a) l0))) c) (Yl.to (Jk (lW) rfl rfl e6) (congrArg (fun q=>Value.slice d q c) A.symm)) (An rfl (Ik (sr (Mz rfl (Mz rfl (fw (vJ (C6 a)) (Ir (e:=a) (IA rfl) e6) (Mz rfl (fw (vJ (C6 a+1)) (Ir (e:=C3.wrap (((C6 a:Nat):Int)+1)) yk f0) (fw (.slice (jw d (C6 a+1) 4 c) ((s0 (r3 (C6 a) l0++(b::r4 (C6 a) l0))) - (C6 a+1)) (c - (C6 a+1))) (I5 (lW) rfl rfl e6) ?_)))))))))))))
 have p:=Q.pb [0]
 refine fw (.bool false) (JN (lo:=C6 a+1) (run_callFunc_extern Tryz.func170 e7 e7 e7 (e:=Extern.SlicesOverlaps.overlaps #[31,31] #[4]) e7) B4 Tryz.sizeOf56 p f2 e6 rfl (kS ((p.rds (i:=1) rfl).isSome e6) e6)) (Kz (.bool true) (nt (jt (Ik ?_))))
 refine pM [8] (IE (IE IQ)) p ?_
 intro av R
 refine qv 0 rfl rfl (qt (v:=vJ (C6 a)) 1 rfl (fun _ _=>Ir (e:=a) (IA rfl) e6) (qv 2 rfl rfl (qt (v:=vJ (C6 a+1)) 3 rfl (fun _ _=>Ir (e:=C3.wrap (((C6 a:Nat):Int)+1)) yk f0) (qt (v:= .slice (jw d (C6 a+1) 4 c) ((s0 (r3 (C6 a) l0++(b::r4 (C6 a) l0))) - (C6 a+1)) (c - (C6 a+1))) 4 rfl (fun _ _=>I5 (lW) rfl rfl e6) (qv 5 rfl rfl (qt (v:=vJ (C6 a)) 6 rfl (fun _ _=>Ir (e:=a) (IA rfl) e6) (qt (v:= .slice (jw d (C6 a) 4 c) ((s0 (r3 (C6 a) l0++(b::r4 (C6 a) l0))) - (C6 a)) (c - (C6 a))) 7 rfl (fun _ _=>I5 (lW) rfl rfl e6) ?_)))))))
 have r:=R.pb [0]
 refine qd 8 rfl (Jn (lo:=C6 a+1) (k:=l0.length - C6 a) (lW) r rfl (fun _=>kS ((r.rds (i:=0) rfl).isSome e6) e6) e6 rfl (aY.cut (lo:=C6 a) (hi:=s0 (r3 (C6 a) l0++(b::r4 (C6 a) l0))) (r.rds (i:=0) rfl) e6 e6 e6) e6 (fun u hu=>dX aS.one _ u (by rw [zT aS.len e6 rfl e6] at hu; exact hu)) rfl ?_)
 intro ax t
 refine⟨.inl e7, ?_⟩
 refine qn (Iq (sr (Mz rfl (fw (vJ (C6 a)) (Ir (e:=a) (IA rfl) e6) (fw (.slice (jw d (C6 a) 4 c) ((s0 (r3 (C6 a) l0++(b::r4 (C6 a) l0))) - (C6 a)) (c - (C6 a))) (I5 (lW) rfl rfl e6) (Mz rfl ?_))))))
 refine WL.do rfl (Jn (lo:=C6 a) (k:=1) (lW) t rfl (fun _=>kS ((t.rds (i:=0) rfl).isSome e6) e6) e6 rfl (bq t (i:=1) rfl qW) e6 (fun u hu=>dX aS.one _ u (F0 hu)) rfl ?_)
 intro S T
 refine ns (Mz rfl (An rfl (rt (tR (rs ?_)))))
 have U:Own w D S [row d (s0 (r3 (C6 a) l0++(b::r4 (C6 a) l0))) c (q4 aS.cells (r3 (C6 a) l0++(b::r4 (C6 a) l0))) 56 4,qC B 1 (q4 aS.cells ([b])) 56 4]:=T.rowPart e6 (zU (l:=l0) (m:=(s0 (r3 (C6 a) l0++(b::r4 (C6 a) l0))) - C6 a) (k2:=l0.length - C6 a) aS.len e6 (by rw [o]; exact F1 4 e6) rfl rfl e6 e6)
 have V:=U.pk [0]
 obtain rfl:_=(r3 (C6 a) l0++(b::r4 (C6 a) l0)):=hr.symm.trans (iN g)
 exact⟨d,c,rfl,V,e6⟩
def qH (l0:List aH):(List aH):=
 l0
theorem kP (w D d f u l0 e) (H:Own w D w []) (c:Ro w D fun w'=>aY w' 2 d f (q4 aH.cells l0)) (g:f=l0.length) (x:l0.length *32≤211106232532992) (hr:qH l0=e):
    Calls v5 75 #[.slice d f u] w (dA fun v w'=> ∃ r t,v= .slice r e.length t∧Own w D w' [row r e.length t (q4 aH.cells e) 153 2]):=by
 subst g
 refine cb Tryz.func75 ?_
 refine sr (An rfl (Ik (sr (Mz rfl (fw (.bool (Option.isNone d)) (Ji B1 rfl rfl) (nt ?_))))))
 rcases Ls (Option.isNone d) with a | a
 obtain rfl:l0= []:=qi (enc:=aH.cells) (H.ro c) a
 refine jT a (sr (An rfl (rt (tR (rs ?_)))))
 have h:Own w D w [row none 0 0 (q4 aH.cells ([])) 153 2]:=H.free (eP 153 2)
 have i:=h.pf []
 obtain rfl:_=([]):=hr.symm.trans rfl
 exact⟨none,0,rfl,i⟩
 refine jF a (sk (sr ?_))
 refine jV [] 153 2 0 H ?_
 intro j l b
 replace b:Own w D l [row j 0 0 (q4 aH.cells ([])) 153 2]:=b
 refine Mz rfl ?_
 refine WL.do rfl (IW (k:=0) (m:=l0.length) (jL) b rfl rfl (gN B1 (b.ro c) (dX aH.one l0)) rfl e6 (s:=l0.length) e6 rfl ?_)
 intro n o y p
 refine An rfl (rt (rs ?_))
 have q:=p.pf []
 obtain rfl:_=l0:=hr.symm.trans rfl
 exact⟨n,o,rfl,q⟩
def uT (l0:List Int):(List Int):=
 l0
theorem tZ (w D d f u l0 e) (H:Own w D w []) (c:Ro w D fun w'=>aY w' 1 d f (q4 (eI .i64) l0)) (g:f=l0.length) (x:l0.length *8≤211106232532992) (hr:uT l0=e):
    Calls v5 46 #[.slice d f u] w (dA fun v w'=> ∃ r t,v= .slice r e.length t∧Own w D w' [row r e.length t (q4 (eI .i64) e) 3 1]):=by
 subst g
 refine cb Tryz.func46 ?_
 refine sr (An rfl (Ik (sr (Mz rfl (fw (.bool (Option.isNone d)) (Ji y4 rfl rfl) (nt ?_))))))
 rcases Ls (Option.isNone d) with a | a
 obtain rfl:l0= []:=qi (enc:=(eI .i64)) (H.ro c) a
 refine jT a (sr (An rfl (rt (tR (rs ?_)))))
 have h:Own w D w [row none 0 0 (q4 (eI .i64) ([])) 3 1]:=H.free (eP 3 1)
 have i:=h.pf []
 obtain rfl:_=([]):=hr.symm.trans rfl
 exact⟨none,0,rfl,i⟩
 refine jF a (sk (sr ?_))
 refine jV [] 3 1 0 H ?_
 intro j l b
 replace b:Own w D l [row j 0 0 (q4 (eI .i64) ([])) 3 1]:=b
 refine Mz rfl ?_
 refine WL.do rfl (IW (k:=0) (m:=l0.length) (mq) b rfl rfl (gN y4 (b.ro c) (dX qB l0)) rfl e6 (s:=l0.length) e6 rfl ?_)
 intro n o y p
 refine An rfl (rt (rs ?_))
 have q:=p.pf []
 obtain rfl:_=l0:=hr.symm.trans rfl
 exact⟨n,o,rfl,q⟩
def qj (l0:List aM):(List aM):=
 l0
theorem l7 (w D d f u l0 e) (H:Own w D w []) (c:Ro w D fun w'=>aY w' 2 d f (q4 aM.cells l0)) (g:f=l0.length) (x:l0.length *24≤211106232532992) (hr:qj l0=e):
    Calls v5 44 #[.slice d f u] w (dA fun v w'=> ∃ r t,v= .slice r e.length t∧Own w D w' [row r e.length t (q4 aM.cells e) 89 2]):=by
 subst g
 refine cb Tryz.func44 ?_
 refine sr (An rfl (Ik (sr (Mz rfl (fw (.bool (Option.isNone d)) (Ji B3 rfl rfl) (nt ?_))))))
 rcases Ls (Option.isNone d) with a | a
 obtain rfl:l0= []:=qi (enc:=aM.cells) (H.ro c) a
 refine jT a (sr (An rfl (rt (tR (rs ?_)))))
 have h:Own w D w [row none 0 0 (q4 aM.cells ([])) 89 2]:=H.free (eP 89 2)
 have i:=h.pf []
 obtain rfl:_=([]):=hr.symm.trans rfl
 exact⟨none,0,rfl,i⟩
 refine jF a (sk (sr ?_))
 refine jV [] 89 2 0 H ?_
 intro j l b
 replace b:Own w D l [row j 0 0 (q4 aM.cells ([])) 89 2]:=b
 refine Mz rfl ?_
 refine WL.do rfl (IW (k:=0) (m:=l0.length) (nE) b rfl rfl (gN B3 (b.ro c) (dX aM.one l0)) rfl e6 (s:=l0.length) e6 rfl ?_)
 intro n o y p
 refine An rfl (rt (rs ?_))
 have q:=p.pf []
 obtain rfl:_=l0:=hr.symm.trans rfl
 exact⟨n,o,rfl,q⟩
def r9 (l0:List aN):(List aN):=
 l0
theorem nJ (w D d f u l0 e) (H:Own w D w []) (c:Ro w D fun w'=>aY w' 6 d f (q4 aN.cells l0)) (g:f=l0.length) (x:l0.length *80≤211106232532992) (hr:r9 l0=e):
    Calls v5 109 #[.slice d f u] w (dA fun v w'=> ∃ r t,v= .slice r e.length t∧Own w D w' [row r e.length t (q4 aN.cells e) 72 6]):=by
 subst g
 refine cb Tryz.func109 ?_
 refine sr (An rfl (Ik (sr (Mz rfl (fw (.bool (Option.isNone d)) (Ji F2 rfl rfl) (nt ?_))))))
 rcases Ls (Option.isNone d) with a | a
 obtain rfl:l0= []:=qi (enc:=aN.cells) (H.ro c) a
 refine jT a (sr (An rfl (rt (tR (rs ?_)))))
 have h:Own w D w [row none 0 0 (q4 aN.cells ([])) 72 6]:=H.free (eP 72 6)
 have i:=h.pf []
 obtain rfl:_=([]):=hr.symm.trans rfl
 exact⟨none,0,rfl,i⟩
 refine jF a (sk (sr ?_))
 refine jV [] 72 6 0 H ?_
 intro j l b
 replace b:Own w D l [row j 0 0 (q4 aN.cells ([])) 72 6]:=b
 refine Mz rfl ?_
 refine WL.do rfl (IW (k:=0) (m:=l0.length) (mG) b rfl rfl (gN F2 (b.ro c) (dX aN.one l0)) rfl e6 (s:=l0.length) e6 rfl ?_)
 intro n o y p
 refine An rfl (rt (rs ?_))
 have q:=p.pf []
 obtain rfl:_=l0:=hr.symm.trans rfl
 exact⟨n,o,rfl,q⟩
end Go.Proofs.YtbkagebjhbphaaaGreat
