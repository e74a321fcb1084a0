/-
 coord: rows cloned.
-/
import Derived.Test.YtbkagebjhbphaaaGreatCoC
namespace Go.Proofs.YtbkagebjhbphaaaGreat
open Int renaming toNat→D0
open IntKind renaming i64→C5
open List renaming drop→r3,flatMap→q3,flatMap_append→r4,length→r8,length_append→o1,length_cons→s0,length_drop→o0,length_nil→F2,length_take→m9,mem_of_mem_take→G0,take→q7
open Nat renaming le_mul_of_pos_left→G1
open _root_.Go.Proofs.Tryz renaming prog→v8,underlying147→B5,underlying29→B7,underlying3→B1,underlying30→F0,underlying31→F1,underlying39→y4,underlying40→B4,underlying58→G2
set_option maxRecDepth 100000
open Go.RowKit
set_option linter.unusedVariables false
set_option linter.unusedSectionVars false
set_option linter.unusedSimpArgs false
def qi (l0:List ae):(List ae):=
 l0
theorem pO (w D d f u l0 e) (H:Own w D w []) (c:Ro w D fun w'=>bE w' 3 d f (q3 ae.cells l0)) (g:f=l0.length) (x:l0.length *48≤211106232532992) (hr:qi l0=e):
    Calls v8 74 #[.slice d f u] w (d9 fun v w'=> ∃ r t,v= .slice r e.length t∧Own w D w' [row r e.length t (q3 ae.cells e) 149 3]):=by
 subst g
 refine cb Tryz.func74 ?_
 refine sr (An rfl (Ic (sr (Mz rfl (fw (.bool (Option.isNone d)) (I9 B4 rfl rfl) (nt ?_))))))
 rcases Li (Option.isNone d) with a | a
 obtain rfl:l0= []:=qJ (enc:=ae.cells) (H.ro c) a
 refine jT a (sr (An rfl (rt (tR (rs ?_)))))
 have h:Own w D w [row none 0 0 (q3 ae.cells ([])) 149 3]:=H.free (eZ 149 3)
 have i:=h.pf []
 obtain rfl:_=([]):=hr.symm.trans rfl
 exact⟨none,0,rfl,i⟩
 refine jF a (sk (sr ?_))
 refine lg [] 149 3 0 H ?_
 intro j l b
 replace b:Own w D l [row j 0 0 (q3 ae.cells ([])) 149 3]:=b
 refine Mz rfl ?_
 refine WL.do rfl (IM (k:=0) (m:=l0.length) (sI) b rfl rfl (jv B4 (b.ro c) (fU ae.one l0)) rfl e6 (s:=l0.length) e6 rfl ?_)
 intro n o y p
 refine An rfl (rt (rs ?_))
 have q:=p.pf []
 obtain rfl:_=l0:=hr.symm.trans rfl
 exact⟨n,o,rfl,q⟩
def pI (l0:List aC):(List aC):=
 l0
theorem oO (w D d f u l0 e) (H:Own w D w []) (c:Ro w D fun w'=>bE w' 5 d f (q3 aC.cells l0)) (g:f=l0.length) (x:l0.length *56≤211106232532992) (hr:pI l0=e):
    Calls v8 45 #[.slice d f u] w (d9 fun v w'=> ∃ r t,v= .slice r e.length t∧Own w D w' [row r e.length t (q3 aC.cells e) 60 5]):=by
 subst g
 refine cb Tryz.func45 ?_
 refine sr (An rfl (Ic (sr (Mz rfl (fw (.bool (Option.isNone d)) (I9 F0 rfl rfl) (nt ?_))))))
 rcases Li (Option.isNone d) with a | a
 obtain rfl:l0= []:=qJ (enc:=aC.cells) (H.ro c) a
 refine jT a (sr (An rfl (rt (tR (rs ?_)))))
 have h:Own w D w [row none 0 0 (q3 aC.cells ([])) 60 5]:=H.free (eZ 60 5)
 have i:=h.pf []
 obtain rfl:_=([]):=hr.symm.trans rfl
 exact⟨none,0,rfl,i⟩
 refine jF a (sk (sr ?_))
 refine lg [] 60 5 0 H ?_
 intro j l b
 replace b:Own w D l [row j 0 0 (q3 aC.cells ([])) 60 5]:=b
 refine Mz rfl ?_
 refine WL.do rfl (IM (k:=0) (m:=l0.length) (kW) b rfl rfl (jv F0 (b.ro c) (fU aC.one l0)) rfl e6 (s:=l0.length) e6 rfl ?_)
 intro n o y p
 refine An rfl (rt (rs ?_))
 have q:=p.pf []
 obtain rfl:_=l0:=hr.symm.trans rfl
 exact⟨n,o,rfl,q⟩
def qZ (l0:List aU):(List aU):=
 l0
theorem qz (w D d f u l0 e) (H:Own w D w []) (c:Ro w D fun w'=>bE w' 4 d f (q3 aU.cells l0)) (g:f=l0.length) (x:l0.length *48≤211106232532992) (hr:qZ l0=e):
    Calls v8 47 #[.slice d f u] w (d9 fun v w'=> ∃ r t,v= .slice r e.length t∧Own w D w' [row r e.length t (q3 aU.cells e) 56 4]):=by
 subst g
 refine cb Tryz.func47 ?_
 refine sr (An rfl (Ic (sr (Mz rfl (fw (.bool (Option.isNone d)) (I9 F1 rfl rfl) (nt ?_))))))
 rcases Li (Option.isNone d) with a | a
 obtain rfl:l0= []:=qJ (enc:=aU.cells) (H.ro c) a
 refine jT a (sr (An rfl (rt (tR (rs ?_)))))
 have h:Own w D w [row none 0 0 (q3 aU.cells ([])) 56 4]:=H.free (eZ 56 4)
 have i:=h.pf []
 obtain rfl:_=([]):=hr.symm.trans rfl
 exact⟨none,0,rfl,i⟩
 refine jF a (sk (sr ?_))
 refine lg [] 56 4 0 H ?_
 intro j l b
 replace b:Own w D l [row j 0 0 (q3 aU.cells ([])) 56 4]:=b
 refine Mz rfl ?_
 refine WL.do rfl (IM (k:=0) (m:=l0.length) (l6) b rfl rfl (jv F1 (b.ro c) (fU aU.one l0)) rfl e6 (s:=l0.length) e6 rfl ?_)
 intro n o y p
 refine An rfl (rt (rs ?_))
 have q:=p.pf []
 obtain rfl:_=l0:=hr.symm.trans rfl
 exact⟨n,o,rfl,q⟩
def kv (l0:List aC) (a:Int) (p2:Int):(List aC):=
 if a=p2 then l0 else(q7 (D0 a) l0++r3 (D0 p2) l0)
theorem oH (w D c l b l0 a p2 g) (H:Own w D w [row c l b (q3 aC.cells l0) 60 5]) (n:l=l0.length) (G:l0.length *56≤211106232532992) (I:0≤a∧a≤p2∧p2≤((l0.length:Nat):Int)) (hr:kv l0 a p2=g):
    Calls v8 98 #[.slice c l b,vI a,vI p2] w (d9 fun v w'=> ∃ z A,v= .slice z g.length A∧Own w D w' [row z g.length A (q3 aC.cells g) 60 5]∧(g.length≤l0.length)):=by
 subst n
 have J:=H.rowC (i:=0) rfl
 refine cb Tryz.func98 ?_
 refine sr (Ar rfl (Mz rfl (fw (vJ (D0 a)) (Ie (e:=a) (Iq rfl) e6) (fw (vJ (D0 p2)) (Ie (e:=p2) (Iq rfl) e6) (Mz rfl (Kz (vJ l0.length) (fw (.slice (jS c (D0 a) 5 l0.length) ((D0 p2) - (D0 a)) (l0.length - (D0 a))) (Kj (kW) rfl rfl rfl rfl e6 e6 e6) (nt (Ic (sr (Mz rfl (Mz rfl (Kz (.bool (decide (a=p2))) (nt ?_))))))))))))))
 by_cases f:a=p2
 refine jT (dT f) (sr (Mz rfl (An rfl (rt (tR (rs ?_))))))
 have o:=H.pf []
 obtain rfl:_=l0:=hr.symm.trans (ip f)
 exact⟨c,b,rfl,o,e6⟩
 refine jF (dF f) (sk (sr (Mz rfl (Kz (vJ l0.length) (An rfl (Ic ?_))))))
 have d:=H.drew
 refine Ji [6] (fun W=> ∃ L',Own w D W ([row c l0.length b (q3 aC.cells l0) 60 5]++L')) e7 e7 (Iu IC) ⟨_,d⟩ ?_
 revert d
 generalize World.drew w=p
 intro d
 refine qv 0 rfl rfl (qt (v:=vJ (D0 a)) 1 rfl (fun _ _=>Ie (e:=a) (Iq rfl) e6) (qt (v:= .slice c (D0 a) b) 2 rfl (fun _ _=>Jc (kW) rfl rfl e6) (qv 3 rfl rfl (qt (v:=vJ (D0 p2)) 4 rfl (fun _ _=>Ie (e:=p2) (Iq rfl) e6) (qt (v:= .slice (jS c (D0 p2) 5 b) (l0.length - (D0 p2)) (b - (D0 p2))) 5 rfl (fun _ _=>IV (kW) rfl rfl e6) ?_)))))
 have B:r8 (q7 (D0 a) l0++r3 (D0 p2) l0)=D0 a+(l0.length - D0 p2):=by simp only [o1,m9,o0]; omega
 have h:Src v8 5 30 (.slice (jS c (D0 p2) 5 b) (l0.length - (D0 p2)) (b - (D0 p2))) (l0.length - D0 p2) (q3 aC.cells (r3 (D0 p2) l0)) p:=jv F0 (Jq (lo:=D0 p2) aC.len (d.rds (i:=0) rfl) e6 e6 f4) (fU aC.one (r3 (D0 p2) l0))
 obtain⟨C,q,r⟩:=d.rowFull
 refine qd 6 rfl (JC (k:=D0 a) (m:=l0.length - D0 p2) (kW) r rfl rfl h e6 (s:=r8 (q7 (D0 a) l0++r3 (D0 p2) l0)) e6 ?_)
 intro K j
 refine⟨.inl e7, ?_⟩
 refine IP (v:= .slice c (r8 (q7 (D0 a) l0++r3 (D0 p2) l0)) b) 7 rfl e7 (fun _=>Jo rfl) (qn (Ig (sr (Mz rfl (Mz rfl (Kz (vI ((r8 (q7 (D0 a) l0++r3 (D0 p2) l0):Nat):Int)) (Mz rfl (fw (.slice (jS c (r8 (q7 (D0 a) l0++r3 (D0 p2) l0)) 5 b) (l0.length - (r8 (q7 (D0 a) l0++r3 (D0 p2) l0))) (b - (r8 (q7 (D0 a) l0++r3 (D0 p2) l0)))) (Yl.cut (kW) rfl rfl rfl e6 e6) ?_))))))))
 refine Jb (JK (z0:=(.agg #[.int .u64 0,vI 0, .int .u64 0, .int .u64 0, .slice none 0 0])) (lo:=r8 (q7 (D0 a) l0++r3 (D0 p2) l0)) (nd:=(l0.length - (r8 (q7 (D0 a) l0++r3 (D0 p2) l0)))) e7 rfl (kW) j rfl (fun _=>lq ((j.rds (i:=0) rfl).isSome e6) e6) e6 ?_)
 intro t E F u
 refine ns (Mz rfl (An rfl (rt (rs ?_))))
 have x:Own w D t [row c (r8 (q7 (D0 a) l0++r3 (D0 p2) l0)) b (q3 aC.cells (q7 (D0 a) l0++r3 (D0 p2) l0)) 60 5]:=u.rowPart e6 (zo aC.len e6 e6 rfl)
 have y:=x.pf []
 obtain rfl:_=(q7 (D0 a) l0++r3 (D0 p2) l0):=hr.symm.trans (iN f)
 exact⟨c,b,rfl,y,e6⟩
def lh (l0:List bB) (a:Int) (p2:Int):(List bB):=
 if a=p2 then l0 else(q7 (D0 a) l0++r3 (D0 p2) l0)
theorem pV (w D c l b l0 a p2 g) (H:Own w D w [row c l b (q3 bB.cells l0) 107 9]) (n:l=l0.length) (G:l0.length *136≤211106232532992) (I:0≤a∧a≤p2∧p2≤((l0.length:Nat):Int)) (hr:lh l0 a p2=g):
    Calls v8 105 #[.slice c l b,vI a,vI p2] w (d9 fun v w'=> ∃ z A,v= .slice z g.length A∧Own w D w' [row z g.length A (q3 bB.cells g) 107 9]∧(g.length≤l0.length)):=by
 subst n
 have J:=H.rowC (i:=0) rfl
 refine cb Tryz.func105 ?_
 refine sr (Ar rfl (Mz rfl (fw (vJ (D0 a)) (Ie (e:=a) (Iq rfl) e6) (fw (vJ (D0 p2)) (Ie (e:=p2) (Iq rfl) e6) (Mz rfl (Kz (vJ l0.length) (fw (.slice (jS c (D0 a) 9 l0.length) ((D0 p2) - (D0 a)) (l0.length - (D0 a))) (Kj (qh) rfl rfl rfl rfl e6 e6 e6) (nt (Ic (sr (Mz rfl (Mz rfl (Kz (.bool (decide (a=p2))) (nt ?_))))))))))))))
 by_cases f:a=p2
 refine jT (dT f) (sr (Mz rfl (An rfl (rt (tR (rs ?_))))))
 have o:=H.pf []
 obtain rfl:_=l0:=hr.symm.trans (ip f)
 exact⟨c,b,rfl,o,e6⟩
 refine jF (dF f) (sk (sr (Mz rfl (Kz (vJ l0.length) (An rfl (Ic ?_))))))
 have d:=H.drew
 refine Ji [6] (fun W=> ∃ L',Own w D W ([row c l0.length b (q3 bB.cells l0) 107 9]++L')) e7 e7 (Iu IC) ⟨_,d⟩ ?_
 revert d
 generalize World.drew w=p
 intro d
 refine qv 0 rfl rfl (qt (v:=vJ (D0 a)) 1 rfl (fun _ _=>Ie (e:=a) (Iq rfl) e6) (qt (v:= .slice c (D0 a) b) 2 rfl (fun _ _=>Jc (qh) rfl rfl e6) (qv 3 rfl rfl (qt (v:=vJ (D0 p2)) 4 rfl (fun _ _=>Ie (e:=p2) (Iq rfl) e6) (qt (v:= .slice (jS c (D0 p2) 9 b) (l0.length - (D0 p2)) (b - (D0 p2))) 5 rfl (fun _ _=>IV (qh) rfl rfl e6) ?_)))))
 have B:r8 (q7 (D0 a) l0++r3 (D0 p2) l0)=D0 a+(l0.length - D0 p2):=by simp only [o1,m9,o0]; omega
 have h:Src v8 9 79 (.slice (jS c (D0 p2) 9 b) (l0.length - (D0 p2)) (b - (D0 p2))) (l0.length - D0 p2) (q3 bB.cells (r3 (D0 p2) l0)) p:=jv Tryz.underlying79 (Jq (lo:=D0 p2) bB.len (d.rds (i:=0) rfl) e6 e6 f4) (fU bB.one (r3 (D0 p2) l0))
 obtain⟨C,q,r⟩:=d.rowFull
 refine qd 6 rfl (JC (k:=D0 a) (m:=l0.length - D0 p2) (qh) r rfl rfl h e6 (s:=r8 (q7 (D0 a) l0++r3 (D0 p2) l0)) e6 ?_)
 intro K j
 refine⟨.inl e7, ?_⟩
 refine IP (v:= .slice c (r8 (q7 (D0 a) l0++r3 (D0 p2) l0)) b) 7 rfl e7 (fun _=>Jo rfl) (qn (Ig (sr (Mz rfl (Mz rfl (Kz (vI ((r8 (q7 (D0 a) l0++r3 (D0 p2) l0):Nat):Int)) (Mz rfl (fw (.slice (jS c (r8 (q7 (D0 a) l0++r3 (D0 p2) l0)) 9 b) (l0.length - (r8 (q7 (D0 a) l0++r3 (D0 p2) l0))) (b - (r8 (q7 (D0 a) l0++r3 (D0 p2) l0)))) (Yl.cut (qh) rfl rfl rfl e6 e6) ?_))))))))
 refine Jb (JK (z0:=(.agg (rJ 0 0 0 0 none 0 0 none 0 0 none 0 0 none 0 0 0).toArray)) (lo:=r8 (q7 (D0 a) l0++r3 (D0 p2) l0)) (nd:=(l0.length - (r8 (q7 (D0 a) l0++r3 (D0 p2) l0)))) e7 rfl (qh) j rfl (fun _=>lq ((j.rds (i:=0) rfl).isSome e6) e6) e6 ?_)
 intro t E F u
 refine ns (Mz rfl (An rfl (rt (rs ?_))))
 have x:Own w D t [row c (r8 (q7 (D0 a) l0++r3 (D0 p2) l0)) b (q3 bB.cells (q7 (D0 a) l0++r3 (D0 p2) l0)) 107 9]:=u.rowPart e6 (zo bB.len e6 e6 rfl)
 have y:=x.pf []
 obtain rfl:_=(q7 (D0 a) l0++r3 (D0 p2) l0):=hr.symm.trans (iN f)
 exact⟨c,b,rfl,y,e6⟩
def kw (l0:List aC) (a:Int) (b:aC):(List aC):=
 if((D0 a:Nat):Int)=((l0.length:Nat):Int) then(l0++ [b]) else(q7 (D0 a) l0++(b::r3 (D0 a) l0))
theorem oI (w D d C c l0 a B) (b:aC) (x) (H:Own w D w [row d C c (q3 aC.cells l0) 60 5,qV B 1 (q3 aC.cells ([b])) 60 5]) (E:C=l0.length) (af:l0.length *56≤211106232532992) (ag:0≤a∧a≤((l0.length:Nat):Int)∧(l0.length+1) *56≤211106232532992) (hr:kw l0 a b=x):
    Calls v8 130 #[.slice d C c,vI a, .slice B 1 1] w (d9 fun v w'=> ∃ W X,v= .slice W x.length X∧Own w D w' [row W x.length X (q3 aC.cells x) 60 5]∧(x.length=l0.length+1)):=by
 subst E
 have ah:=H.rowC (i:=0) rfl
 refine cb Tryz.func130 ?_
 refine sr (Ar rfl (Mz rfl (fw (vJ (D0 a)) (Ie (e:=a) (Iq rfl) e6) (fw (.slice (jS d (D0 a) 5 c) (l0.length - (D0 a)) (c - (D0 a))) (IV (kW) rfl rfl e6) (ns (Mz rfl (Kz (vI 1) (An rfl (Ic (sr (Mz rfl (Kz (.bool false) (nt (jf (sk (sr (Mz rfl (Kz (vJ l0.length) (An rfl (Ic (sr (fw (vJ (D0 a)) (Ie (e:=a) (Iq rfl) e6) ?_))))))))))))))))))))))
 refine Mz rfl (Kz (.bool (decide (((D0 a:Nat):Int)=((l0.length:Nat):Int)))) (nt ?_))
 by_cases g:((D0 a:Nat):Int)=((l0.length:Nat):Int)
 refine jT (dT g) (sr (Mz rfl (Mz rfl ?_)))
 refine WL.do rfl (IM (k:=l0.length) (m:=1) (kW) H rfl rfl (jv F0 (aZ H (i:=1) rfl rG) (fU aC.one ([b]))) rfl e6 (s:=r8 (l0++ [b])) f7 (r4).symm ?_)
 intro F G ai I
 have Y:r8 (l0++ [b])=l0.length+1:=by simp only [o1,s0,F2]
 refine An rfl (rt (tR (rs ?_)))
 have J:=I.pk [0]
 obtain rfl:_=(l0++ [b]):=hr.symm.trans (ip g)
 exact⟨F,G,rfl,J,e6⟩
 refine jF (dF g) (sk (Ic (sr (Mz rfl (Mz rfl (fw (vJ (l0.length+1)) (Ie (e:=C5.wrap (((l0.length:Nat):Int)+1)) yk f0) (Mz rfl (Kz (vJ c) (Kz (.bool (decide (((l0.length+1:Nat):Int) > ((c:Nat):Int)))) (nt ?_))))))))))
 by_cases y:((l0.length+1:Nat):Int) > ((c:Nat):Int)
 refine jT (dT y) (sr (Mz rfl (fw (vJ (D0 a)) (Ie (e:=a) (Iq rfl) e6) (fw (.slice d (D0 a) c) (Jc (kW) rfl rfl e6) (Mz rfl (Mz rfl (fw (vJ (l0.length+1)) (Ie (e:=C5.wrap (((l0.length:Nat):Int)+1)) yk f0) (fw (vJ (D0 a)) (Ie (e:=a) (Iq rfl) e6) (fw (vJ ((l0.length+1) - (D0 a))) (Ie (e:=C5.wrap (((l0.length+1:Nat):Int) - ((D0 a:Nat):Int))) yk f0) ?_)))))))))
 have Z:r8 (q7 (D0 a) l0++(b::r3 (D0 a) l0))=l0.length+1:=by simp only [o1,m9,s0,o0]; omega
 refine WL.do rfl (Jz (k:=D0 a) (m:=(l0.length+1) - (D0 a)) (kW) B1 H rfl rfl e6 e6 e6 rfl e6 (s:=r8 (q7 (D0 a) l0++(b::r3 (D0 a) l0))) e6 ?_)
 intro h f aa aj z j
 have K:=j.rowLe (i:=0) rfl
 refine Ar rfl (Mz rfl (fw (vJ (D0 a)) (Ie (e:=a) (Iq rfl) e6) (fw (.slice (jS h (D0 a) 5 f) ((r8 (q7 (D0 a) l0++(b::r3 (D0 a) l0))) - (D0 a)) (f - (D0 a))) (IV (kW) rfl rfl e6) (Mz rfl ?_))))
 refine WL.do rfl (Je (lo:=D0 a) (k:=1) (kW) j rfl (fun _=>lq ((j.rds (i:=0) rfl).isSome e6) e6) e6 rfl (aZ j (i:=2) rfl rG) e6 (fun u hu=>fU aC.one _ u (G0 hu)) rfl ?_)
 intro ak L
 refine nt (Ic ?_)
 refine Es [8] (Iu (Iu IC)) L ?_
 intro au n
 refine qv 0 rfl rfl (qt (v:=vJ (D0 a)) 1 rfl (fun _ _=>Ie (e:=a) (Iq rfl) e6) (qv 2 rfl rfl (qt (v:=vJ (D0 a+1)) 3 rfl (fun _ _=>Ie (e:=C5.wrap (((D0 a:Nat):Int)+1)) yk f0) (qt (v:= .slice (jS h (D0 a+1) 5 f) ((r8 (q7 (D0 a) l0++(b::r3 (D0 a) l0))) - (D0 a+1)) (f - (D0 a+1))) 4 rfl (fun _ _=>IV (kW) rfl rfl e6) (qv 5 rfl rfl (qt (v:=vJ (D0 a)) 6 rfl (fun _ _=>Ie (e:=a) (Iq rfl) e6) (qt (v:= .slice (jS d (D0 a) 5 c) (l0.length - (D0 a)) (c - (D0 a))) 7 rfl (fun _ _=>IV (kW) rfl rfl e6) ?_)))))))
 refine qd 8 rfl (Je (lo:=D0 a+1) (k:=l0.length - D0 a) (kW) n rfl (fun _=>lq ((n.rds (i:=0) rfl).isSome e6) e6) e6 rfl (Jq (lo:=D0 a) aC.len (n.rds (i:=1) rfl) e6 e6 f4) e6 (fun u hu=>fU aC.one _ u (G0 hu)) rfl ?_)
 intro M N
 refine⟨.inl e7, ?_⟩
 refine qn (Ig (sr (Mz rfl (An rfl (rt (tR (rs ?_)))))))
 have O:Own w D M [row h (r8 (q7 (D0 a) l0++(b::r3 (D0 a) l0))) f (q3 aC.cells (q7 (D0 a) l0++(b::r3 (D0 a) l0))) 60 5,row d l0.length c (q3 aC.cells l0) 60 5,qV B 1 (q3 aC.cells ([b])) 60 5]:=N.rowPart e6 (Af (l:=l0) (k2:=l0.length - D0 a) aC.len e6 z rfl rfl e6)
 have P:=O.pk [0]
 obtain rfl:_=(q7 (D0 a) l0++(b::r3 (D0 a) l0)):=hr.symm.trans (iN g)
 exact⟨h,f,rfl,P,e6⟩
 refine jF (dF y) (sk (sr ?_))
 have A:r8 (q7 (D0 a) l0++(b::r3 (D0 a) l0))=l0.length+1:=by simp only [o1,m9,s0,o0]; omega
 obtain⟨ae,o,Q⟩:=H.rowFull
 refine Mz rfl (Mz rfl (Mz rfl (fw (vJ (l0.length+1)) (Ie (e:=C5.wrap (((l0.length:Nat):Int)+1)) yk f0) (fw (.slice d (r8 (q7 (D0 a) l0++(b::r3 (D0 a) l0))) c) (Yl.to (Jc (kW) rfl rfl e6) (congrArg (fun q=>Value.slice d q c) A.symm)) (An rfl (Ic (sr (Mz rfl (Mz rfl (fw (vJ (D0 a)) (Ie (e:=a) (Iq rfl) e6) (Mz rfl (fw (vJ (D0 a+1)) (Ie (e:=C5.wrap (((D0 a:Nat):Int)+1)) yk f0) (fw (.slice (jS d (D0 a+1) 5 c) ((r8 (q7 (D0 a) l0++(b::r3 (D0 a) l0))) - (D0 a+1)) (c - (D0 a+1))) (IV (kW) rfl rfl e6) ?_)))))))))))))
 have p:=Q.pb [0]
 refine fw (.bool false) (JD (lo:=D0 a+1) (run_callFunc_extern Tryz.func150 e7 e7 e7 (e:=Extern.SlicesOverlaps.overlaps #[30,30] #[4]) e7) F0 Tryz.sizeOf60 p f4 e6 rfl (lq ((p.rds (i:=1) rfl).isSome e6) e6)) (Kz (.bool true) (nt (jt (Ic ?_))))
 refine qy [8] (Iu (Iu IC)) p ?_
 intro av R
 refine qv 0 rfl rfl (qt (v:=vJ (D0 a)) 1 rfl (fun _ _=>Ie (e:=a) (Iq rfl) e6) (qv 2 rfl rfl (qt (v:=vJ (D0 a+1)) 3 rfl (fun _ _=>Ie (e:=C5.wrap (((D0 a:Nat):Int)+1)) yk f0) (qt (v:= .slice (jS d (D0 a+1) 5 c) ((r8 (q7 (D0 a) l0++(b::r3 (D0 a) l0))) - (D0 a+1)) (c - (D0 a+1))) 4 rfl (fun _ _=>IV (kW) rfl rfl e6) (qv 5 rfl rfl (qt (v:=vJ (D0 a)) 6 rfl (fun _ _=>Ie (e:=a) (Iq rfl) e6) (qt (v:= .slice (jS d (D0 a) 5 c) ((r8 (q7 (D0 a) l0++(b::r3 (D0 a) l0))) - (D0 a)) (c - (D0 a))) 7 rfl (fun _ _=>IV (kW) rfl rfl e6) ?_)))))))
 have r:=R.pb [0]
 refine qd 8 rfl (Je (lo:=D0 a+1) (k:=l0.length - D0 a) (kW) r rfl (fun _=>lq ((r.rds (i:=0) rfl).isSome e6) e6) e6 rfl (bE.cut (lo:=D0 a) (hi:=r8 (q7 (D0 a) l0++(b::r3 (D0 a) l0))) (r.rds (i:=0) rfl) e6 e6 e6) e6 (fun u hu=>fU aC.one _ u (by rw [Ah aC.len e6 rfl e6] at hu; exact hu)) rfl ?_)
 intro ax t
 refine⟨.inl e7, ?_⟩
 refine qn (Ig (sr (Mz rfl (fw (vJ (D0 a)) (Ie (e:=a) (Iq rfl) e6) (fw (.slice (jS d (D0 a) 5 c) ((r8 (q7 (D0 a) l0++(b::r3 (D0 a) l0))) - (D0 a)) (c - (D0 a))) (IV (kW) rfl rfl e6) (Mz rfl ?_))))))
 refine WL.do rfl (Je (lo:=D0 a) (k:=1) (kW) t rfl (fun _=>lq ((t.rds (i:=0) rfl).isSome e6) e6) e6 rfl (aZ t (i:=1) rfl rG) e6 (fun u hu=>fU aC.one _ u (G0 hu)) rfl ?_)
 intro S T
 refine ns (Mz rfl (An rfl (rt (tR (rs ?_)))))
 have U:Own w D S [row d (r8 (q7 (D0 a) l0++(b::r3 (D0 a) l0))) c (q3 aC.cells (q7 (D0 a) l0++(b::r3 (D0 a) l0))) 60 5,qV B 1 (q3 aC.cells ([b])) 60 5]:=T.rowPart e6 (Ai (l:=l0) (m:=(r8 (q7 (D0 a) l0++(b::r3 (D0 a) l0))) - D0 a) (k2:=l0.length - D0 a) aC.len e6 (by rw [o]; exact G1 5 e6) rfl rfl e6 e6)
 have V:=U.pk [0]
 obtain rfl:_=(q7 (D0 a) l0++(b::r3 (D0 a) l0)):=hr.symm.trans (iN g)
 exact⟨d,c,rfl,V,e6⟩
def lJ (l0:List aU) (a:Int) (b:aU):(List aU):=
 if((D0 a:Nat):Int)=((l0.length:Nat):Int) then(l0++ [b]) else(q7 (D0 a) l0++(b::r3 (D0 a) l0))
theorem qj (w D d C c l0 a B) (b:aU) (x) (H:Own w D w [row d C c (q3 aU.cells l0) 56 4,qV B 1 (q3 aU.cells ([b])) 56 4]) (E:C=l0.length) (af:l0.length *48≤211106232532992) (ag:0≤a∧a≤((l0.length:Nat):Int)∧(l0.length+1) *48≤211106232532992) (hr:lJ l0 a b=x):
    Calls v8 155 #[.slice d C c,vI a, .slice B 1 1] w (d9 fun v w'=> ∃ W X,v= .slice W x.length X∧Own w D w' [row W x.length X (q3 aU.cells x) 56 4]∧(x.length=l0.length+1)):=by
 subst E
 have ah:=H.rowC (i:=0) rfl
 refine cb Tryz.func155 ?_
 refine sr (Ar rfl (Mz rfl (fw (vJ (D0 a)) (Ie (e:=a) (Iq rfl) e6) (fw (.slice (jS d (D0 a) 4 c) (l0.length - (D0 a)) (c - (D0 a))) (IV (l6) rfl rfl e6) (ns (Mz rfl (Kz (vI 1) (An rfl (Ic (sr (Mz rfl (Kz (.bool false) (nt (jf (sk (sr (Mz rfl (Kz (vJ l0.length) (An rfl (Ic (sr (fw (vJ (D0 a)) (Ie (e:=a) (Iq rfl) e6) ?_))))))))))))))))))))))
 refine Mz rfl (Kz (.bool (decide (((D0 a:Nat):Int)=((l0.length:Nat):Int)))) (nt ?_))
 by_cases g:((D0 a:Nat):Int)=((l0.length:Nat):Int)
 refine jT (dT g) (sr (Mz rfl (Mz rfl ?_)))
 refine WL.do rfl (IM (k:=l0.length) (m:=1) (l6) H rfl rfl (jv F1 (aZ H (i:=1) rfl rG) (fU aU.one ([b]))) rfl e6 (s:=r8 (l0++ [b])) f7 (r4).symm ?_)
 intro F G ai I
 have Y:r8 (l0++ [b])=l0.length+1:=by simp only [o1,s0,F2]
 refine An rfl (rt (tR (rs ?_)))
 have J:=I.pk [0]
 obtain rfl:_=(l0++ [b]):=hr.symm.trans (ip g)
 exact⟨F,G,rfl,J,e6⟩
 refine jF (dF g) (sk (Ic (sr (Mz rfl (Mz rfl (fw (vJ (l0.length+1)) (Ie (e:=C5.wrap (((l0.length:Nat):Int)+1)) yk f0) (Mz rfl (Kz (vJ c) (Kz (.bool (decide (((l0.length+1:Nat):Int) > ((c:Nat):Int)))) (nt ?_))))))))))
 by_cases y:((l0.length+1:Nat):Int) > ((c:Nat):Int)
 refine jT (dT y) (sr (Mz rfl (fw (vJ (D0 a)) (Ie (e:=a) (Iq rfl) e6) (fw (.slice d (D0 a) c) (Jc (l6) rfl rfl e6) (Mz rfl (Mz rfl (fw (vJ (l0.length+1)) (Ie (e:=C5.wrap (((l0.length:Nat):Int)+1)) yk f0) (fw (vJ (D0 a)) (Ie (e:=a) (Iq rfl) e6) (fw (vJ ((l0.length+1) - (D0 a))) (Ie (e:=C5.wrap (((l0.length+1:Nat):Int) - ((D0 a:Nat):Int))) yk f0) ?_)))))))))
 have Z:r8 (q7 (D0 a) l0++(b::r3 (D0 a) l0))=l0.length+1:=by simp only [o1,m9,s0,o0]; omega
 refine WL.do rfl (Jz (k:=D0 a) (m:=(l0.length+1) - (D0 a)) (l6) B1 H rfl rfl e6 e6 e6 rfl e6 (s:=r8 (q7 (D0 a) l0++(b::r3 (D0 a) l0))) e6 ?_)
 intro h f aa aj z j
 have K:=j.rowLe (i:=0) rfl
 refine Ar rfl (Mz rfl (fw (vJ (D0 a)) (Ie (e:=a) (Iq rfl) e6) (fw (.slice (jS h (D0 a) 4 f) ((r8 (q7 (D0 a) l0++(b::r3 (D0 a) l0))) - (D0 a)) (f - (D0 a))) (IV (l6) rfl rfl e6) (Mz rfl ?_))))
 refine WL.do rfl (Je (lo:=D0 a) (k:=1) (l6) j rfl (fun _=>lq ((j.rds (i:=0) rfl).isSome e6) e6) e6 rfl (aZ j (i:=2) rfl rG) e6 (fun u hu=>fU aU.one _ u (G0 hu)) rfl ?_)
 intro ak L
 refine nt (Ic ?_)
 refine Es [8] (Iu (Iu IC)) L ?_
 intro au n
 refine qv 0 rfl rfl (qt (v:=vJ (D0 a)) 1 rfl (fun _ _=>Ie (e:=a) (Iq rfl) e6) (qv 2 rfl rfl (qt (v:=vJ (D0 a+1)) 3 rfl (fun _ _=>Ie (e:=C5.wrap (((D0 a:Nat):Int)+1)) yk f0) (qt (v:= .slice (jS h (D0 a+1) 4 f) ((r8 (q7 (D0 a) l0++(b::r3 (D0 a) l0))) - (D0 a+1)) (f - (D0 a+1))) 4 rfl (fun _ _=>IV (l6) rfl rfl e6) (qv 5 rfl rfl (qt (v:=vJ (D0 a)) 6 rfl (fun _ _=>Ie (e:=a) (Iq rfl) e6) (qt (v:= .slice (jS d (D0 a) 4 c) (l0.length - (D0 a)) (c - (D0 a))) 7 rfl (fun _ _=>IV (l6) rfl rfl e6) ?_)))))))
 refine qd 8 rfl (Je (lo:=D0 a+1) (k:=l0.length - D0 a) (l6) n rfl (fun _=>lq ((n.rds (i:=0) rfl).isSome e6) e6) e6 rfl (Jq (lo:=D0 a) aU.len (n.rds (i:=1) rfl) e6 e6 f4) e6 (fun u hu=>fU aU.one _ u (G0 hu)) rfl ?_)
 intro M N
 refine⟨.inl e7, ?_⟩
 refine qn (Ig (sr (Mz rfl (An rfl (rt (tR (rs ?_)))))))
 have O:Own w D M [row h (r8 (q7 (D0 a) l0++(b::r3 (D0 a) l0))) f (q3 aU.cells (q7 (D0 a) l0++(b::r3 (D0 a) l0))) 56 4,row d l0.length c (q3 aU.cells l0) 56 4,qV B 1 (q3 aU.cells ([b])) 56 4]:=N.rowPart e6 (Af (l:=l0) (k2:=l0.length - D0 a) aU.len e6 z rfl rfl e6)
 have P:=O.pk [0]
 obtain rfl:_=(q7 (D0 a) l0++(b::r3 (D0 a) l0)):=hr.symm.trans (iN g)
 exact⟨h,f,rfl,P,e6⟩
 refine jF (dF y) (sk (sr ?_))
 have A:r8 (q7 (D0 a) l0++(b::r3 (D0 a) l0))=l0.length+1:=by simp only [o1,m9,s0,o0]; omega
 obtain⟨ae,o,Q⟩:=H.rowFull
 refine Mz rfl (Mz rfl (Mz rfl (fw (vJ (l0.length+1)) (Ie (e:=C5.wrap (((l0.length:Nat):Int)+1)) yk f0) (fw (.slice d (r8 (q7 (D0 a) l0++(b::r3 (D0 a) l0))) c) (Yl.to (Jc (l6) rfl rfl e6) (congrArg (fun q=>Value.slice d q c) A.symm)) (An rfl (Ic (sr (Mz rfl (Mz rfl (fw (vJ (D0 a)) (Ie (e:=a) (Iq rfl) e6) (Mz rfl (fw (vJ (D0 a+1)) (Ie (e:=C5.wrap (((D0 a:Nat):Int)+1)) yk f0) (fw (.slice (jS d (D0 a+1) 4 c) ((r8 (q7 (D0 a) l0++(b::r3 (D0 a) l0))) - (D0 a+1)) (c - (D0 a+1))) (IV (l6) rfl rfl e6) ?_)))))))))))))
 have p:=Q.pb [0]
 refine fw (.bool false) (JD (lo:=D0 a+1) (run_callFunc_extern Tryz.func170 e7 e7 e7 (e:=Extern.SlicesOverlaps.overlaps #[31,31] #[4]) e7) F1 Tryz.sizeOf56 p f4 e6 rfl (lq ((p.rds (i:=1) rfl).isSome e6) e6)) (Kz (.bool true) (nt (jt (Ic ?_))))
 refine qy [8] (Iu (Iu IC)) p ?_
 intro av R
 refine qv 0 rfl rfl (qt (v:=vJ (D0 a)) 1 rfl (fun _ _=>Ie (e:=a) (Iq rfl) e6) (qv 2 rfl rfl (qt (v:=vJ (D0 a+1)) 3 rfl (fun _ _=>Ie (e:=C5.wrap (((D0 a:Nat):Int)+1)) yk f0) (qt (v:= .slice (jS d (D0 a+1) 4 c) ((r8 (q7 (D0 a) l0++(b::r3 (D0 a) l0))) - (D0 a+1)) (c - (D0 a+1))) 4 rfl (fun _ _=>IV (l6) rfl rfl e6) (qv 5 rfl rfl (qt (v:=vJ (D0 a)) 6 rfl (fun _ _=>Ie (e:=a) (Iq rfl) e6) (qt (v:= .slice (jS d (D0 a) 4 c) ((r8 (q7 (D0 a) l0++(b::r3 (D0 a) l0))) - (D0 a)) (c - (D0 a))) 7 rfl (fun _ _=>IV (l6) rfl rfl e6) ?_)))))))
 have r:=R.pb [0]
 refine qd 8 rfl (Je (lo:=D0 a+1) (k:=l0.length - D0 a) (l6) r rfl (fun _=>lq ((r.rds (i:=0) rfl).isSome e6) e6) e6 rfl (bE.cut (lo:=D0 a) (hi:=r8 (q7 (D0 a) l0++(b::r3 (D0 a) l0))) (r.rds (i:=0) rfl) e6 e6 e6) e6 (fun u hu=>fU aU.one _ u (by rw [Ah aU.len e6 rfl e6] at hu; exact hu)) rfl ?_)
 intro ax t
 refine⟨.inl e7, ?_⟩
 refine qn (Ig (sr (Mz rfl (fw (vJ (D0 a)) (Ie (e:=a) (Iq rfl) e6) (fw (.slice (jS d (D0 a) 4 c) ((r8 (q7 (D0 a) l0++(b::r3 (D0 a) l0))) - (D0 a)) (c - (D0 a))) (IV (l6) rfl rfl e6) (Mz rfl ?_))))))
 refine WL.do rfl (Je (lo:=D0 a) (k:=1) (l6) t rfl (fun _=>lq ((t.rds (i:=0) rfl).isSome e6) e6) e6 rfl (aZ t (i:=1) rfl rG) e6 (fun u hu=>fU aU.one _ u (G0 hu)) rfl ?_)
 intro S T
 refine ns (Mz rfl (An rfl (rt (tR (rs ?_)))))
 have U:Own w D S [row d (r8 (q7 (D0 a) l0++(b::r3 (D0 a) l0))) c (q3 aU.cells (q7 (D0 a) l0++(b::r3 (D0 a) l0))) 56 4,qV B 1 (q3 aU.cells ([b])) 56 4]:=T.rowPart e6 (Ai (l:=l0) (m:=(r8 (q7 (D0 a) l0++(b::r3 (D0 a) l0))) - D0 a) (k2:=l0.length - D0 a) aU.len e6 (by rw [o]; exact G1 4 e6) rfl rfl e6 e6)
 have V:=U.pk [0]
 obtain rfl:_=(q7 (D0 a) l0++(b::r3 (D0 a) l0)):=hr.symm.trans (iN g)
 exact⟨d,c,rfl,V,e6⟩
def q8 (l0:List aI):(List aI):=
 l0
theorem ll (w D d f u l0 e) (H:Own w D w []) (c:Ro w D fun w'=>bE w' 2 d f (q3 aI.cells l0)) (g:f=l0.length) (x:l0.length *32≤211106232532992) (hr:q8 l0=e):
    Calls v8 75 #[.slice d f u] w (d9 fun v w'=> ∃ r t,v= .slice r e.length t∧Own w D w' [row r e.length t (q3 aI.cells e) 153 2]):=by
 subst g
 refine cb Tryz.func75 ?_
 refine sr (An rfl (Ic (sr (Mz rfl (fw (.bool (Option.isNone d)) (I9 B5 rfl rfl) (nt ?_))))))
 rcases Li (Option.isNone d) with a | a
 obtain rfl:l0= []:=qJ (enc:=aI.cells) (H.ro c) a
 refine jT a (sr (An rfl (rt (tR (rs ?_)))))
 have h:Own w D w [row none 0 0 (q3 aI.cells ([])) 153 2]:=H.free (eZ 153 2)
 have i:=h.pf []
 obtain rfl:_=([]):=hr.symm.trans rfl
 exact⟨none,0,rfl,i⟩
 refine jF a (sk (sr ?_))
 refine lg [] 153 2 0 H ?_
 intro j l b
 replace b:Own w D l [row j 0 0 (q3 aI.cells ([])) 153 2]:=b
 refine Mz rfl ?_
 refine WL.do rfl (IM (k:=0) (m:=l0.length) (ko) b rfl rfl (jv B5 (b.ro c) (fU aI.one l0)) rfl e6 (s:=l0.length) e6 rfl ?_)
 intro n o y p
 refine An rfl (rt (rs ?_))
 have q:=p.pf []
 obtain rfl:_=l0:=hr.symm.trans rfl
 exact⟨n,o,rfl,q⟩
def ve (l0:List Int):(List Int):=
 l0
theorem ui (w D d f u l0 e) (H:Own w D w []) (c:Ro w D fun w'=>bE w' 1 d f (q3 (eI .i64) l0)) (g:f=l0.length) (x:l0.length *8≤211106232532992) (hr:ve l0=e):
    Calls v8 46 #[.slice d f u] w (d9 fun v w'=> ∃ r t,v= .slice r e.length t∧Own w D w' [row r e.length t (q3 (eI .i64) e) 3 1]):=by
 subst g
 refine cb Tryz.func46 ?_
 refine sr (An rfl (Ic (sr (Mz rfl (fw (.bool (Option.isNone d)) (I9 G2 rfl rfl) (nt ?_))))))
 rcases Li (Option.isNone d) with a | a
 obtain rfl:l0= []:=qJ (enc:=(eI .i64)) (H.ro c) a
 refine jT a (sr (An rfl (rt (tR (rs ?_)))))
 have h:Own w D w [row none 0 0 (q3 (eI .i64) ([])) 3 1]:=H.free (eZ 3 1)
 have i:=h.pf []
 obtain rfl:_=([]):=hr.symm.trans rfl
 exact⟨none,0,rfl,i⟩
 refine jF a (sk (sr ?_))
 refine lg [] 3 1 0 H ?_
 intro j l b
 replace b:Own w D l [row j 0 0 (q3 (eI .i64) ([])) 3 1]:=b
 refine Mz rfl ?_
 refine WL.do rfl (IM (k:=0) (m:=l0.length) (om) b rfl rfl (jv G2 (b.ro c) (fU vO l0)) rfl e6 (s:=l0.length) e6 rfl ?_)
 intro n o y p
 refine An rfl (rt (rs ?_))
 have q:=p.pf []
 obtain rfl:_=l0:=hr.symm.trans rfl
 exact⟨n,o,rfl,q⟩
def qK (l0:List aY):(List aY):=
 l0
theorem mr (w D d f u l0 e) (H:Own w D w []) (c:Ro w D fun w'=>bE w' 2 d f (q3 aY.cells l0)) (g:f=l0.length) (x:l0.length *24≤211106232532992) (hr:qK l0=e):
    Calls v8 44 #[.slice d f u] w (d9 fun v w'=> ∃ r t,v= .slice r e.length t∧Own w D w' [row r e.length t (q3 aY.cells e) 89 2]):=by
 subst g
 refine cb Tryz.func44 ?_
 refine sr (An rfl (Ic (sr (Mz rfl (fw (.bool (Option.isNone d)) (I9 B7 rfl rfl) (nt ?_))))))
 rcases Li (Option.isNone d) with a | a
 obtain rfl:l0= []:=qJ (enc:=aY.cells) (H.ro c) a
 refine jT a (sr (An rfl (rt (tR (rs ?_)))))
 have h:Own w D w [row none 0 0 (q3 aY.cells ([])) 89 2]:=H.free (eZ 89 2)
 have i:=h.pf []
 obtain rfl:_=([]):=hr.symm.trans rfl
 exact⟨none,0,rfl,i⟩
 refine jF a (sk (sr ?_))
 refine lg [] 89 2 0 H ?_
 intro j l b
 replace b:Own w D l [row j 0 0 (q3 aY.cells ([])) 89 2]:=b
 refine Mz rfl ?_
 refine WL.do rfl (IM (k:=0) (m:=l0.length) (qY) b rfl rfl (jv B7 (b.ro c) (fU aY.one l0)) rfl e6 (s:=l0.length) e6 rfl ?_)
 intro n o y p
 refine An rfl (rt (rs ?_))
 have q:=p.pf []
 obtain rfl:_=l0:=hr.symm.trans rfl
 exact⟨n,o,rfl,q⟩
def sK (l0:List bi):(List bi):=
 l0
theorem oC (w D d f u l0 e) (H:Own w D w []) (c:Ro w D fun w'=>bE w' 6 d f (q3 bi.cells l0)) (g:f=l0.length) (x:l0.length *80≤211106232532992) (hr:sK l0=e):
    Calls v8 109 #[.slice d f u] w (d9 fun v w'=> ∃ r t,v= .slice r e.length t∧Own w D w' [row r e.length t (q3 bi.cells e) 72 6]):=by
 subst g
 refine cb Tryz.func109 ?_
 refine sr (An rfl (Ic (sr (Mz rfl (fw (.bool (Option.isNone d)) (I9 y4 rfl rfl) (nt ?_))))))
 rcases Li (Option.isNone d) with a | a
 obtain rfl:l0= []:=qJ (enc:=bi.cells) (H.ro c) a
 refine jT a (sr (An rfl (rt (tR (rs ?_)))))
 have h:Own w D w [row none 0 0 (q3 bi.cells ([])) 72 6]:=H.free (eZ 72 6)
 have i:=h.pf []
 obtain rfl:_=([]):=hr.symm.trans rfl
 exact⟨none,0,rfl,i⟩
 refine jF a (sk (sr ?_))
 refine lg [] 72 6 0 H ?_
 intro j l b
 replace b:Own w D l [row j 0 0 (q3 bi.cells ([])) 72 6]:=b
 refine Mz rfl ?_
 refine WL.do rfl (IM (k:=0) (m:=l0.length) (qX) b rfl rfl (jv y4 (b.ro c) (fU bi.one l0)) rfl e6 (s:=l0.length) e6 rfl ?_)
 intro n o y p
 refine An rfl (rt (rs ?_))
 have q:=p.pf []
 obtain rfl:_=l0:=hr.symm.trans rfl
 exact⟨n,o,rfl,q⟩
end Go.Proofs.YtbkagebjhbphaaaGreat
