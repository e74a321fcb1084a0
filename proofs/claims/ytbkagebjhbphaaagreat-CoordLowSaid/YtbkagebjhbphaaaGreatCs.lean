/-
 coord: rows cloned.
-/
import Derived.Test.YtbkagebjhbphaaaGreatCoC
namespace Go.Proofs.YtbkagebjhbphaaaGreat
open Int renaming toNat→D2
open IntKind renaming i64→C7
open List renaming drop→r6,flatMap→q6,flatMap_append→r7,length→s2,length_append→p5,length_cons→s3,length_drop→p4,length_nil→G1,length_take→p3,mem_of_mem_take→G2,take→r5
open Nat renaming le_mul_of_pos_left→G3
open _root_.Go.Proofs.Tryz renaming prog→y4,underlying147→B7,underlying29→B9,underlying3→B4,underlying30→F2,underlying31→G0,underlying39→B1,underlying40→B6,underlying58→G4
set_option maxRecDepth 100000
open Go.RowKit
set_option linter.unusedVariables false
set_option linter.unusedSectionVars false
set_option linter.unusedSimpArgs false
def oU (l0:List af):(List af):=
 l0
theorem ou (w:World) (D:Nat→Prop) (d:Option Addr) (f u:Nat) (l0:List af) (e:List af) (H:Own w D w []) (c:Ro w D fun w'=>bD w' 3 d f (q6 af.cells l0)) (g:f=l0.length) (x:l0.length *48≤211106232532992) (hr:oU l0=e):
    Calls y4 74 #[.slice d f u] w (dS fun v w'=> ∃ (r:Option Addr) (t:Nat),v= .slice r e.length t∧Own w D w' [row r e.length t (q6 af.cells e) 149 3]):=by
 subst g
 refine cb Tryz.func74 ?_
 refine sr (An rfl (EP (sr (Mz rfl (fw (.bool (Option.isNone d)) (FT B6 rfl rfl) (nt ?_))))))
 rcases IW (Option.isNone d) with a | a
 obtain rfl:l0= []:=pE (enc:=af.cells) (H.ro c) a
 refine jT a (sr (An rfl (rt (tR (rs ?_)))))
 have h:Own w D w [row none 0 0 (q6 af.cells ([])) 149 3]:=H.free (eZ 149 3)
 have i:=h.pf []
 obtain rfl:_=([]):=hr.symm.trans rfl
 exact⟨none,0,rfl,i⟩
 refine jF a (sk (sr ?_))
 refine kG [] 149 3 0 H ?_
 intro j l b
 replace b:Own w D l [row j 0 0 (q6 af.cells ([])) 149 3]:=b
 refine Mz rfl ?_
 refine WL.do rfl (Fy (k:=0) (m:=l0.length) (rf) b rfl rfl (iM B6 (b.ro c) (fu af.one l0)) rfl e6 (s:=l0.length) e6 rfl ?_)
 intro n o y p
 refine An rfl (rt (rs ?_))
 have q:=p.pf []
 obtain rfl:_=l0:=hr.symm.trans rfl
 exact⟨n,o,rfl,q⟩
def og (l0:List ay):(List ay):=
 l0
theorem nC (w:World) (D:Nat→Prop) (d:Option Addr) (f u:Nat) (l0:List ay) (e:List ay) (H:Own w D w []) (c:Ro w D fun w'=>bD w' 5 d f (q6 ay.cells l0)) (g:f=l0.length) (x:l0.length *56≤211106232532992) (hr:og l0=e):
    Calls y4 45 #[.slice d f u] w (dS fun v w'=> ∃ (r:Option Addr) (t:Nat),v= .slice r e.length t∧Own w D w' [row r e.length t (q6 ay.cells e) 60 5]):=by
 subst g
 refine cb Tryz.func45 ?_
 refine sr (An rfl (EP (sr (Mz rfl (fw (.bool (Option.isNone d)) (FT F2 rfl rfl) (nt ?_))))))
 rcases IW (Option.isNone d) with a | a
 obtain rfl:l0= []:=pE (enc:=ay.cells) (H.ro c) a
 refine jT a (sr (An rfl (rt (tR (rs ?_)))))
 have h:Own w D w [row none 0 0 (q6 ay.cells ([])) 60 5]:=H.free (eZ 60 5)
 have i:=h.pf []
 obtain rfl:_=([]):=hr.symm.trans rfl
 exact⟨none,0,rfl,i⟩
 refine jF a (sk (sr ?_))
 refine kG [] 60 5 0 H ?_
 intro j l b
 replace b:Own w D l [row j 0 0 (q6 ay.cells ([])) 60 5]:=b
 refine Mz rfl ?_
 refine WL.do rfl (Fy (k:=0) (m:=l0.length) (kv) b rfl rfl (iM F2 (b.ro c) (fu ay.one l0)) rfl e6 (s:=l0.length) e6 rfl ?_)
 intro n o y p
 refine An rfl (rt (rs ?_))
 have q:=p.pf []
 obtain rfl:_=l0:=hr.symm.trans rfl
 exact⟨n,o,rfl,q⟩
def p8 (l0:List aV):(List aV):=
 l0
theorem o6 (w:World) (D:Nat→Prop) (d:Option Addr) (f u:Nat) (l0:List aV) (e:List aV) (H:Own w D w []) (c:Ro w D fun w'=>bD w' 4 d f (q6 aV.cells l0)) (g:f=l0.length) (x:l0.length *48≤211106232532992) (hr:p8 l0=e):
    Calls y4 47 #[.slice d f u] w (dS fun v w'=> ∃ (r:Option Addr) (t:Nat),v= .slice r e.length t∧Own w D w' [row r e.length t (q6 aV.cells e) 56 4]):=by
 subst g
 refine cb Tryz.func47 ?_
 refine sr (An rfl (EP (sr (Mz rfl (fw (.bool (Option.isNone d)) (FT G0 rfl rfl) (nt ?_))))))
 rcases IW (Option.isNone d) with a | a
 obtain rfl:l0= []:=pE (enc:=aV.cells) (H.ro c) a
 refine jT a (sr (An rfl (rt (tR (rs ?_)))))
 have h:Own w D w [row none 0 0 (q6 aV.cells ([])) 56 4]:=H.free (eZ 56 4)
 have i:=h.pf []
 obtain rfl:_=([]):=hr.symm.trans rfl
 exact⟨none,0,rfl,i⟩
 refine jF a (sk (sr ?_))
 refine kG [] 56 4 0 H ?_
 intro j l b
 replace b:Own w D l [row j 0 0 (q6 aV.cells ([])) 56 4]:=b
 refine Mz rfl ?_
 refine WL.do rfl (Fy (k:=0) (m:=l0.length) (lI) b rfl rfl (iM G0 (b.ro c) (fu aV.one l0)) rfl e6 (s:=l0.length) e6 rfl ?_)
 intro n o y p
 refine An rfl (rt (rs ?_))
 have q:=p.pf []
 obtain rfl:_=l0:=hr.symm.trans rfl
 exact⟨n,o,rfl,q⟩
def jO (l0:List ay) (a:Int) (b:Int):(List ay):=
 if a=b then l0 else(r5 (D2 a) l0++r6 (D2 b) l0)
theorem mZ (w:World) (D:Nat→Prop) (d:Option Addr) (n c:Nat) (l0:List ay) (b:Int) (a:Int) (h:List ay) (H:Own w D w [row d n c (q6 ay.cells l0) 60 5]) (o:n=l0.length) (I:l0.length *56≤211106232532992) (J:0≤b∧b≤a∧a≤((l0.length:Nat):Int)) (hr:jO l0 b a=h):
    Calls y4 98 #[.slice d n c,vI b,vI a] w (dS fun v w'=> ∃ (A:Option Addr) (B:Nat),v= .slice A h.length B∧Own w D w' [row A h.length B (q6 ay.cells h) 60 5]∧(h.length≤l0.length)):=by
 subst o
 have K:=H.rowC (i:=0) rfl
 refine cb Tryz.func98 ?_
 refine sr (Ar rfl (Mz rfl (fw (vJ (D2 b)) (EQ (e:=b) (E5 rfl) e6) (fw (vJ (D2 a)) (EQ (e:=a) (E5 rfl) e6) (Mz rfl (Kz (vJ l0.length) (fw (.slice (jr d (D2 b) 5 l0.length) ((D2 a) - (D2 b)) (l0.length - (D2 b))) (Hq (kv) rfl rfl rfl rfl e6 e6 e6) (nt (EP (sr (Mz rfl (Mz rfl (Kz (.bool (decide (b=a))) (nt ?_))))))))))))))
 by_cases g:b=a
 refine jT (dT g) (sr (Mz rfl (An rfl (rt (tR (rs ?_))))))
 have p:=H.pf []
 obtain rfl:_=l0:=hr.symm.trans (ip g)
 exact⟨d,c,rfl,p,e6⟩
 refine jF (dF g) (sk (sr (Mz rfl (Kz (vJ l0.length) (An rfl (EP ?_))))))
 have f:=H.drew
 refine F3 [6] (fun W=> ∃ L',Own w D W ([row d l0.length c (q6 ay.cells l0) 60 5]++L')) e7 e7 (E9 Fp) ⟨_,f⟩ ?_
 revert f
 generalize World.drew w=q
 intro f
 refine qv 0 rfl rfl (qt (v:=vJ (D2 b)) 1 rfl (fun _ _=>EQ (e:=b) (E5 rfl) e6) (qt (v:= .slice d (D2 b) c) 2 rfl (fun _ _=>FV (kv) rfl rfl e6) (qv 3 rfl rfl (qt (v:=vJ (D2 a)) 4 rfl (fun _ _=>EQ (e:=a) (E5 rfl) e6) (qt (v:= .slice (jr d (D2 a) 5 c) (l0.length - (D2 a)) (c - (D2 a))) 5 rfl (fun _ _=>FH (kv) rfl rfl e6) ?_)))))
 have C:s2 (r5 (D2 b) l0++r6 (D2 a) l0)=D2 b+(l0.length - D2 a):=by simp only [p5,p3,p4]; omega
 have j:Src y4 5 30 (.slice (jr d (D2 a) 5 c) (l0.length - (D2 a)) (c - (D2 a))) (l0.length - D2 a) (q6 ay.cells (r6 (D2 a) l0)) q:=iM F2 (Gb (lo:=D2 a) ay.len (f.rds (i:=0) rfl) e6 e6 f3) (fu ay.one (r6 (D2 a) l0))
 obtain⟨E,r,t⟩:=f.rowFull
 refine qd 6 rfl (Gq (k:=D2 b) (m:=l0.length - D2 a) (kv) t rfl rfl j e6 (s:=s2 (r5 (D2 b) l0++r6 (D2 a) l0)) e6 ?_)
 intro L l
 refine⟨.inl e7, ?_⟩
 refine Fz (v:= .slice d (s2 (r5 (D2 b) l0++r6 (D2 a) l0)) c) 7 rfl e7 (fun _=>F8 rfl) (qn (ER (sr (Mz rfl (Mz rfl (Kz (vI ((s2 (r5 (D2 b) l0++r6 (D2 a) l0):Nat):Int)) (Mz rfl (fw (.slice (jr d (s2 (r5 (D2 b) l0++r6 (D2 a) l0)) 5 c) (l0.length - (s2 (r5 (D2 b) l0++r6 (D2 a) l0))) (c - (s2 (r5 (D2 b) l0++r6 (D2 a) l0)))) (Yl.cut (kv) rfl rfl rfl e6 e6) ?_))))))))
 refine F6 (GA (z0:=(.agg #[.int .u64 0,vI 0, .int .u64 0, .int .u64 0, .slice none 0 0])) (lo:=s2 (r5 (D2 b) l0++r6 (D2 a) l0)) (nd:=(l0.length - (s2 (r5 (D2 b) l0++r6 (D2 a) l0)))) e7 rfl (kv) l rfl (fun _=>kL ((l.rds (i:=0) rfl).isSome e6) e6) e6 ?_)
 intro u F G x
 refine ns (Mz rfl (An rfl (rt (rs ?_))))
 have y:Own w D u [row d (s2 (r5 (D2 b) l0++r6 (D2 a) l0)) c (q6 ay.cells (r5 (D2 b) l0++r6 (D2 a) l0)) 60 5]:=x.rowPart e6 (xW ay.len e6 e6 rfl)
 have z:=y.pf []
 obtain rfl:_=(r5 (D2 b) l0++r6 (D2 a) l0):=hr.symm.trans (iN g)
 exact⟨d,c,rfl,z,e6⟩
def kI (l0:List bB) (a:Int) (b:Int):(List bB):=
 if a=b then l0 else(r5 (D2 a) l0++r6 (D2 b) l0)
theorem oG (w:World) (D:Nat→Prop) (d:Option Addr) (n c:Nat) (l0:List bB) (b:Int) (a:Int) (h:List bB) (H:Own w D w [row d n c (q6 bB.cells l0) 107 9]) (o:n=l0.length) (I:l0.length *136≤211106232532992) (J:0≤b∧b≤a∧a≤((l0.length:Nat):Int)) (hr:kI l0 b a=h):
    Calls y4 105 #[.slice d n c,vI b,vI a] w (dS fun v w'=> ∃ (A:Option Addr) (B:Nat),v= .slice A h.length B∧Own w D w' [row A h.length B (q6 bB.cells h) 107 9]∧(h.length≤l0.length)):=by
 subst o
 have K:=H.rowC (i:=0) rfl
 refine cb Tryz.func105 ?_
 refine sr (Ar rfl (Mz rfl (fw (vJ (D2 b)) (EQ (e:=b) (E5 rfl) e6) (fw (vJ (D2 a)) (EQ (e:=a) (E5 rfl) e6) (Mz rfl (Kz (vJ l0.length) (fw (.slice (jr d (D2 b) 9 l0.length) ((D2 a) - (D2 b)) (l0.length - (D2 b))) (Hq (oQ) rfl rfl rfl rfl e6 e6 e6) (nt (EP (sr (Mz rfl (Mz rfl (Kz (.bool (decide (b=a))) (nt ?_))))))))))))))
 by_cases g:b=a
 refine jT (dT g) (sr (Mz rfl (An rfl (rt (tR (rs ?_))))))
 have p:=H.pf []
 obtain rfl:_=l0:=hr.symm.trans (ip g)
 exact⟨d,c,rfl,p,e6⟩
 refine jF (dF g) (sk (sr (Mz rfl (Kz (vJ l0.length) (An rfl (EP ?_))))))
 have f:=H.drew
 refine F3 [6] (fun W=> ∃ L',Own w D W ([row d l0.length c (q6 bB.cells l0) 107 9]++L')) e7 e7 (E9 Fp) ⟨_,f⟩ ?_
 revert f
 generalize World.drew w=q
 intro f
 refine qv 0 rfl rfl (qt (v:=vJ (D2 b)) 1 rfl (fun _ _=>EQ (e:=b) (E5 rfl) e6) (qt (v:= .slice d (D2 b) c) 2 rfl (fun _ _=>FV (oQ) rfl rfl e6) (qv 3 rfl rfl (qt (v:=vJ (D2 a)) 4 rfl (fun _ _=>EQ (e:=a) (E5 rfl) e6) (qt (v:= .slice (jr d (D2 a) 9 c) (l0.length - (D2 a)) (c - (D2 a))) 5 rfl (fun _ _=>FH (oQ) rfl rfl e6) ?_)))))
 have C:s2 (r5 (D2 b) l0++r6 (D2 a) l0)=D2 b+(l0.length - D2 a):=by simp only [p5,p3,p4]; omega
 have j:Src y4 9 79 (.slice (jr d (D2 a) 9 c) (l0.length - (D2 a)) (c - (D2 a))) (l0.length - D2 a) (q6 bB.cells (r6 (D2 a) l0)) q:=iM Tryz.underlying79 (Gb (lo:=D2 a) bB.len (f.rds (i:=0) rfl) e6 e6 f3) (fu bB.one (r6 (D2 a) l0))
 obtain⟨E,r,t⟩:=f.rowFull
 refine qd 6 rfl (Gq (k:=D2 b) (m:=l0.length - D2 a) (oQ) t rfl rfl j e6 (s:=s2 (r5 (D2 b) l0++r6 (D2 a) l0)) e6 ?_)
 intro L l
 refine⟨.inl e7, ?_⟩
 refine Fz (v:= .slice d (s2 (r5 (D2 b) l0++r6 (D2 a) l0)) c) 7 rfl e7 (fun _=>F8 rfl) (qn (ER (sr (Mz rfl (Mz rfl (Kz (vI ((s2 (r5 (D2 b) l0++r6 (D2 a) l0):Nat):Int)) (Mz rfl (fw (.slice (jr d (s2 (r5 (D2 b) l0++r6 (D2 a) l0)) 9 c) (l0.length - (s2 (r5 (D2 b) l0++r6 (D2 a) l0))) (c - (s2 (r5 (D2 b) l0++r6 (D2 a) l0)))) (Yl.cut (oQ) rfl rfl rfl e6 e6) ?_))))))))
 refine F6 (GA (z0:=(.agg (qC 0 0 0 0 none 0 0 none 0 0 none 0 0 none 0 0 0).toArray)) (lo:=s2 (r5 (D2 b) l0++r6 (D2 a) l0)) (nd:=(l0.length - (s2 (r5 (D2 b) l0++r6 (D2 a) l0)))) e7 rfl (oQ) l rfl (fun _=>kL ((l.rds (i:=0) rfl).isSome e6) e6) e6 ?_)
 intro u F G x
 refine ns (Mz rfl (An rfl (rt (rs ?_))))
 have y:Own w D u [row d (s2 (r5 (D2 b) l0++r6 (D2 a) l0)) c (q6 bB.cells (r5 (D2 b) l0++r6 (D2 a) l0)) 107 9]:=x.rowPart e6 (xW bB.len e6 e6 rfl)
 have z:=y.pf []
 obtain rfl:_=(r5 (D2 b) l0++r6 (D2 a) l0):=hr.symm.trans (iN g)
 exact⟨d,c,rfl,z,e6⟩
def jP (l0:List ay) (a:Int) (b:ay):(List ay):=
 if((D2 a:Nat):Int)=((l0.length:Nat):Int) then(l0++ [b]) else(r5 (D2 a) l0++(b::r6 (D2 a) l0))
theorem ng (w:World) (D:Nat→Prop) (d:Option Addr) (C c:Nat) (l0:List ay) (a:Int) (B:Option Addr) (b:ay) (x:List ay) (H:Own w D w [row d C c (q6 ay.cells l0) 60 5,pU B 1 (q6 ay.cells ([b])) 60 5]) (E:C=l0.length) (af:l0.length *56≤211106232532992) (ag:0≤a∧a≤((l0.length:Nat):Int)∧(l0.length+1) *56≤211106232532992) (hr:jP l0 a b=x):
    Calls y4 130 #[.slice d C c,vI a, .slice B 1 1] w (dS fun v w'=> ∃ (W:Option Addr) (X:Nat),v= .slice W x.length X∧Own w D w' [row W x.length X (q6 ay.cells x) 60 5]∧(x.length=l0.length+1)):=by
 subst E
 have ah:=H.rowC (i:=0) rfl
 refine cb Tryz.func130 ?_
 refine sr (Ar rfl (Mz rfl (fw (vJ (D2 a)) (EQ (e:=a) (E5 rfl) e6) (fw (.slice (jr d (D2 a) 5 c) (l0.length - (D2 a)) (c - (D2 a))) (FH (kv) rfl rfl e6) (ns (Mz rfl (Kz (vI 1) (An rfl (EP (sr (Mz rfl (Kz (.bool false) (nt (jf (sk (sr (Mz rfl (Kz (vJ l0.length) (An rfl (EP (sr (fw (vJ (D2 a)) (EQ (e:=a) (E5 rfl) e6) ?_))))))))))))))))))))))
 refine Mz rfl (Kz (.bool (decide (((D2 a:Nat):Int)=((l0.length:Nat):Int)))) (nt ?_))
 by_cases g:((D2 a:Nat):Int)=((l0.length:Nat):Int)
 refine jT (dT g) (sr (Mz rfl (Mz rfl ?_)))
 refine WL.do rfl (Fy (k:=l0.length) (m:=1) (kv) H rfl rfl (iM F2 (bz H (i:=1) rfl qA) (fu ay.one ([b]))) rfl e6 (s:=s2 (l0++ [b])) f7 (r7).symm ?_)
 intro F G ai I
 have Y:s2 (l0++ [b])=l0.length+1:=by simp only [p5,s3,G1]
 refine An rfl (rt (tR (rs ?_)))
 have J:=I.pk [0]
 obtain rfl:_=(l0++ [b]):=hr.symm.trans (ip g)
 exact⟨F,G,rfl,J,e6⟩
 refine jF (dF g) (sk (EP (sr (Mz rfl (Mz rfl (fw (vJ (l0.length+1)) (EQ (e:=C7.wrap (((l0.length:Nat):Int)+1)) yk f1) (Mz rfl (Kz (vJ c) (Kz (.bool (decide (((l0.length+1:Nat):Int) > ((c:Nat):Int)))) (nt ?_))))))))))
 by_cases y:((l0.length+1:Nat):Int) > ((c:Nat):Int)
 refine jT (dT y) (sr (Mz rfl (fw (vJ (D2 a)) (EQ (e:=a) (E5 rfl) e6) (fw (.slice d (D2 a) c) (FV (kv) rfl rfl e6) (Mz rfl (Mz rfl (fw (vJ (l0.length+1)) (EQ (e:=C7.wrap (((l0.length:Nat):Int)+1)) yk f1) (fw (vJ (D2 a)) (EQ (e:=a) (E5 rfl) e6) (fw (vJ ((l0.length+1) - (D2 a))) (EQ (e:=C7.wrap (((l0.length+1:Nat):Int) - ((D2 a:Nat):Int))) yk f1) ?_)))))))))
 have Z:s2 (r5 (D2 a) l0++(b::r6 (D2 a) l0))=l0.length+1:=by simp only [p5,p3,s3,p4]; omega
 refine WL.do rfl (Gj (k:=D2 a) (m:=(l0.length+1) - (D2 a)) (kv) B4 H rfl rfl e6 e6 e6 rfl e6 (s:=s2 (r5 (D2 a) l0++(b::r6 (D2 a) l0))) e6 ?_)
 intro h f aa aj z j
 have K:=j.rowLe (i:=0) rfl
 refine Ar rfl (Mz rfl (fw (vJ (D2 a)) (EQ (e:=a) (E5 rfl) e6) (fw (.slice (jr h (D2 a) 5 f) ((s2 (r5 (D2 a) l0++(b::r6 (D2 a) l0))) - (D2 a)) (f - (D2 a))) (FH (kv) rfl rfl e6) (Mz rfl ?_))))
 refine WL.do rfl (FX (lo:=D2 a) (k:=1) (kv) j rfl (fun _=>kL ((j.rds (i:=0) rfl).isSome e6) e6) e6 rfl (bz j (i:=2) rfl qA) e6 (fun u hu=>fu ay.one _ u (G2 hu)) rfl ?_)
 intro ak L
 refine nt (EP ?_)
 refine CG [8] (E9 (E9 Fp)) L ?_
 intro au n
 refine qv 0 rfl rfl (qt (v:=vJ (D2 a)) 1 rfl (fun _ _=>EQ (e:=a) (E5 rfl) e6) (qv 2 rfl rfl (qt (v:=vJ (D2 a+1)) 3 rfl (fun _ _=>EQ (e:=C7.wrap (((D2 a:Nat):Int)+1)) yk f1) (qt (v:= .slice (jr h (D2 a+1) 5 f) ((s2 (r5 (D2 a) l0++(b::r6 (D2 a) l0))) - (D2 a+1)) (f - (D2 a+1))) 4 rfl (fun _ _=>FH (kv) rfl rfl e6) (qv 5 rfl rfl (qt (v:=vJ (D2 a)) 6 rfl (fun _ _=>EQ (e:=a) (E5 rfl) e6) (qt (v:= .slice (jr d (D2 a) 5 c) (l0.length - (D2 a)) (c - (D2 a))) 7 rfl (fun _ _=>FH (kv) rfl rfl e6) ?_)))))))
 refine qd 8 rfl (FX (lo:=D2 a+1) (k:=l0.length - D2 a) (kv) n rfl (fun _=>kL ((n.rds (i:=0) rfl).isSome e6) e6) e6 rfl (Gb (lo:=D2 a) ay.len (n.rds (i:=1) rfl) e6 e6 f3) e6 (fun u hu=>fu ay.one _ u (G2 hu)) rfl ?_)
 intro M N
 refine⟨.inl e7, ?_⟩
 refine qn (ER (sr (Mz rfl (An rfl (rt (tR (rs ?_)))))))
 have O:Own w D M [row h (s2 (r5 (D2 a) l0++(b::r6 (D2 a) l0))) f (q6 ay.cells (r5 (D2 a) l0++(b::r6 (D2 a) l0))) 60 5,row d l0.length c (q6 ay.cells l0) 60 5,pU B 1 (q6 ay.cells ([b])) 60 5]:=N.rowPart e6 (yO (l:=l0) (k2:=l0.length - D2 a) ay.len e6 z rfl rfl e6)
 have P:=O.pk [0]
 obtain rfl:_=(r5 (D2 a) l0++(b::r6 (D2 a) l0)):=hr.symm.trans (iN g)
 exact⟨h,f,rfl,P,e6⟩
 refine jF (dF y) (sk (sr ?_))
 have A:s2 (r5 (D2 a) l0++(b::r6 (D2 a) l0))=l0.length+1:=by simp only [p5,p3,s3,p4]; omega
 obtain⟨ae,o,Q⟩:=H.rowFull
 refine Mz rfl (Mz rfl (Mz rfl (fw (vJ (l0.length+1)) (EQ (e:=C7.wrap (((l0.length:Nat):Int)+1)) yk f1) (fw (.slice d (s2 (r5 (D2 a) l0++(b::r6 (D2 a) l0))) c) (Yl.to (FV (kv) rfl rfl e6) (congrArg (fun q=>Value.slice d q c) A.symm)) (An rfl (EP (sr (Mz rfl (Mz rfl (fw (vJ (D2 a)) (EQ (e:=a) (E5 rfl) e6) (Mz rfl (fw (vJ (D2 a+1)) (EQ (e:=C7.wrap (((D2 a:Nat):Int)+1)) yk f1) (fw (.slice (jr d (D2 a+1) 5 c) ((s2 (r5 (D2 a) l0++(b::r6 (D2 a) l0))) - (D2 a+1)) (c - (D2 a+1))) (FH (kv) rfl rfl e6) ?_)))))))))))))
 have p:=Q.pb [0]
 refine fw (.bool false) (Gr (lo:=D2 a+1) (run_callFunc_extern Tryz.func150 e7 e7 e7 (e:=Extern.SlicesOverlaps.overlaps #[30,30] #[4]) e7) F2 Tryz.sizeOf60 p f3 e6 rfl (kL ((p.rds (i:=1) rfl).isSome e6) e6)) (Kz (.bool true) (nt (jt (EP ?_))))
 refine o5 [8] (E9 (E9 Fp)) p ?_
 intro av R
 refine qv 0 rfl rfl (qt (v:=vJ (D2 a)) 1 rfl (fun _ _=>EQ (e:=a) (E5 rfl) e6) (qv 2 rfl rfl (qt (v:=vJ (D2 a+1)) 3 rfl (fun _ _=>EQ (e:=C7.wrap (((D2 a:Nat):Int)+1)) yk f1) (qt (v:= .slice (jr d (D2 a+1) 5 c) ((s2 (r5 (D2 a) l0++(b::r6 (D2 a) l0))) - (D2 a+1)) (c - (D2 a+1))) 4 rfl (fun _ _=>FH (kv) rfl rfl e6) (qv 5 rfl rfl (qt (v:=vJ (D2 a)) 6 rfl (fun _ _=>EQ (e:=a) (E5 rfl) e6) (qt (v:= .slice (jr d (D2 a) 5 c) ((s2 (r5 (D2 a) l0++(b::r6 (D2 a) l0))) - (D2 a)) (c - (D2 a))) 7 rfl (fun _ _=>FH (kv) rfl rfl e6) ?_)))))))
 have r:=R.pb [0]
 refine qd 8 rfl (FX (lo:=D2 a+1) (k:=l0.length - D2 a) (kv) r rfl (fun _=>kL ((r.rds (i:=0) rfl).isSome e6) e6) e6 rfl (bD.cut (lo:=D2 a) (hi:=s2 (r5 (D2 a) l0++(b::r6 (D2 a) l0))) (r.rds (i:=0) rfl) e6 e6 e6) e6 (fun u hu=>fu ay.one _ u (by rw [yP ay.len e6 rfl e6] at hu; exact hu)) rfl ?_)
 intro ax t
 refine⟨.inl e7, ?_⟩
 refine qn (ER (sr (Mz rfl (fw (vJ (D2 a)) (EQ (e:=a) (E5 rfl) e6) (fw (.slice (jr d (D2 a) 5 c) ((s2 (r5 (D2 a) l0++(b::r6 (D2 a) l0))) - (D2 a)) (c - (D2 a))) (FH (kv) rfl rfl e6) (Mz rfl ?_))))))
 refine WL.do rfl (FX (lo:=D2 a) (k:=1) (kv) t rfl (fun _=>kL ((t.rds (i:=0) rfl).isSome e6) e6) e6 rfl (bz t (i:=1) rfl qA) e6 (fun u hu=>fu ay.one _ u (G2 hu)) rfl ?_)
 intro S T
 refine ns (Mz rfl (An rfl (rt (tR (rs ?_)))))
 have U:Own w D S [row d (s2 (r5 (D2 a) l0++(b::r6 (D2 a) l0))) c (q6 ay.cells (r5 (D2 a) l0++(b::r6 (D2 a) l0))) 60 5,pU B 1 (q6 ay.cells ([b])) 60 5]:=T.rowPart e6 (yQ (l:=l0) (m:=(s2 (r5 (D2 a) l0++(b::r6 (D2 a) l0))) - D2 a) (k2:=l0.length - D2 a) ay.len e6 (by rw [o]; exact G3 5 e6) rfl rfl e6 e6)
 have V:=U.pk [0]
 obtain rfl:_=(r5 (D2 a) l0++(b::r6 (D2 a) l0)):=hr.symm.trans (iN g)
 exact⟨d,c,rfl,V,e6⟩
def kT (l0:List aV) (a:Int) (b:aV):(List aV):=
 if((D2 a:Nat):Int)=((l0.length:Nat):Int) then(l0++ [b]) else(r5 (D2 a) l0++(b::r6 (D2 a) l0))
theorem oV (w:World) (D:Nat→Prop) (d:Option Addr) (C c:Nat) (l0:List aV) (a:Int) (B:Option Addr) (b:aV) (x:List aV) (H:Own w D w [row d C c (q6 aV.cells l0) 56 4,pU B 1 (q6 aV.cells ([b])) 56 4]) (E:C=l0.length) (af:l0.length *48≤211106232532992) (ag:0≤a∧a≤((l0.length:Nat):Int)∧(l0.length+1) *48≤211106232532992) (hr:kT l0 a b=x):
    Calls y4 155 #[.slice d C c,vI a, .slice B 1 1] w (dS fun v w'=> ∃ (W:Option Addr) (X:Nat),v= .slice W x.length X∧Own w D w' [row W x.length X (q6 aV.cells x) 56 4]∧(x.length=l0.length+1)):=by
 subst E
 have ah:=H.rowC (i:=0) rfl
 refine cb Tryz.func155 ?_
 refine sr (Ar rfl (Mz rfl (fw (vJ (D2 a)) (EQ (e:=a) (E5 rfl) e6) (fw (.slice (jr d (D2 a) 4 c) (l0.length - (D2 a)) (c - (D2 a))) (FH (lI) rfl rfl e6) (ns (Mz rfl (Kz (vI 1) (An rfl (EP (sr (Mz rfl (Kz (.bool false) (nt (jf (sk (sr (Mz rfl (Kz (vJ l0.length) (An rfl (EP (sr (fw (vJ (D2 a)) (EQ (e:=a) (E5 rfl) e6) ?_))))))))))))))))))))))
 refine Mz rfl (Kz (.bool (decide (((D2 a:Nat):Int)=((l0.length:Nat):Int)))) (nt ?_))
 by_cases g:((D2 a:Nat):Int)=((l0.length:Nat):Int)
 refine jT (dT g) (sr (Mz rfl (Mz rfl ?_)))
 refine WL.do rfl (Fy (k:=l0.length) (m:=1) (lI) H rfl rfl (iM G0 (bz H (i:=1) rfl qA) (fu aV.one ([b]))) rfl e6 (s:=s2 (l0++ [b])) f7 (r7).symm ?_)
 intro F G ai I
 have Y:s2 (l0++ [b])=l0.length+1:=by simp only [p5,s3,G1]
 refine An rfl (rt (tR (rs ?_)))
 have J:=I.pk [0]
 obtain rfl:_=(l0++ [b]):=hr.symm.trans (ip g)
 exact⟨F,G,rfl,J,e6⟩
 refine jF (dF g) (sk (EP (sr (Mz rfl (Mz rfl (fw (vJ (l0.length+1)) (EQ (e:=C7.wrap (((l0.length:Nat):Int)+1)) yk f1) (Mz rfl (Kz (vJ c) (Kz (.bool (decide (((l0.length+1:Nat):Int) > ((c:Nat):Int)))) (nt ?_))))))))))
 by_cases y:((l0.length+1:Nat):Int) > ((c:Nat):Int)
 refine jT (dT y) (sr (Mz rfl (fw (vJ (D2 a)) (EQ (e:=a) (E5 rfl) e6) (fw (.slice d (D2 a) c) (FV (lI) rfl rfl e6) (Mz rfl (Mz rfl (fw (vJ (l0.length+1)) (EQ (e:=C7.wrap (((l0.length:Nat):Int)+1)) yk f1) (fw (vJ (D2 a)) (EQ (e:=a) (E5 rfl) e6) (fw (vJ ((l0.length+1) - (D2 a))) (EQ (e:=C7.wrap (((l0.length+1:Nat):Int) - ((D2 a:Nat):Int))) yk f1) ?_)))))))))
 have Z:s2 (r5 (D2 a) l0++(b::r6 (D2 a) l0))=l0.length+1:=by simp only [p5,p3,s3,p4]; omega
 refine WL.do rfl (Gj (k:=D2 a) (m:=(l0.length+1) - (D2 a)) (lI) B4 H rfl rfl e6 e6 e6 rfl e6 (s:=s2 (r5 (D2 a) l0++(b::r6 (D2 a) l0))) e6 ?_)
 intro h f aa aj z j
 have K:=j.rowLe (i:=0) rfl
 refine Ar rfl (Mz rfl (fw (vJ (D2 a)) (EQ (e:=a) (E5 rfl) e6) (fw (.slice (jr h (D2 a) 4 f) ((s2 (r5 (D2 a) l0++(b::r6 (D2 a) l0))) - (D2 a)) (f - (D2 a))) (FH (lI) rfl rfl e6) (Mz rfl ?_))))
 refine WL.do rfl (FX (lo:=D2 a) (k:=1) (lI) j rfl (fun _=>kL ((j.rds (i:=0) rfl).isSome e6) e6) e6 rfl (bz j (i:=2) rfl qA) e6 (fun u hu=>fu aV.one _ u (G2 hu)) rfl ?_)
 intro ak L
 refine nt (EP ?_)
 refine CG [8] (E9 (E9 Fp)) L ?_
 intro au n
 refine qv 0 rfl rfl (qt (v:=vJ (D2 a)) 1 rfl (fun _ _=>EQ (e:=a) (E5 rfl) e6) (qv 2 rfl rfl (qt (v:=vJ (D2 a+1)) 3 rfl (fun _ _=>EQ (e:=C7.wrap (((D2 a:Nat):Int)+1)) yk f1) (qt (v:= .slice (jr h (D2 a+1) 4 f) ((s2 (r5 (D2 a) l0++(b::r6 (D2 a) l0))) - (D2 a+1)) (f - (D2 a+1))) 4 rfl (fun _ _=>FH (lI) rfl rfl e6) (qv 5 rfl rfl (qt (v:=vJ (D2 a)) 6 rfl (fun _ _=>EQ (e:=a) (E5 rfl) e6) (qt (v:= .slice (jr d (D2 a) 4 c) (l0.length - (D2 a)) (c - (D2 a))) 7 rfl (fun _ _=>FH (lI) rfl rfl e6) ?_)))))))
 refine qd 8 rfl (FX (lo:=D2 a+1) (k:=l0.length - D2 a) (lI) n rfl (fun _=>kL ((n.rds (i:=0) rfl).isSome e6) e6) e6 rfl (Gb (lo:=D2 a) aV.len (n.rds (i:=1) rfl) e6 e6 f3) e6 (fun u hu=>fu aV.one _ u (G2 hu)) rfl ?_)
 intro M N
 refine⟨.inl e7, ?_⟩
 refine qn (ER (sr (Mz rfl (An rfl (rt (tR (rs ?_)))))))
 have O:Own w D M [row h (s2 (r5 (D2 a) l0++(b::r6 (D2 a) l0))) f (q6 aV.cells (r5 (D2 a) l0++(b::r6 (D2 a) l0))) 56 4,row d l0.length c (q6 aV.cells l0) 56 4,pU B 1 (q6 aV.cells ([b])) 56 4]:=N.rowPart e6 (yO (l:=l0) (k2:=l0.length - D2 a) aV.len e6 z rfl rfl e6)
 have P:=O.pk [0]
 obtain rfl:_=(r5 (D2 a) l0++(b::r6 (D2 a) l0)):=hr.symm.trans (iN g)
 exact⟨h,f,rfl,P,e6⟩
 refine jF (dF y) (sk (sr ?_))
 have A:s2 (r5 (D2 a) l0++(b::r6 (D2 a) l0))=l0.length+1:=by simp only [p5,p3,s3,p4]; omega
 obtain⟨ae,o,Q⟩:=H.rowFull
 refine Mz rfl (Mz rfl (Mz rfl (fw (vJ (l0.length+1)) (EQ (e:=C7.wrap (((l0.length:Nat):Int)+1)) yk f1) (fw (.slice d (s2 (r5 (D2 a) l0++(b::r6 (D2 a) l0))) c) (Yl.to (FV (lI) rfl rfl e6) (congrArg (fun q=>Value.slice d q c) A.symm)) (An rfl (EP (sr (Mz rfl (Mz rfl (fw (vJ (D2 a)) (EQ (e:=a) (E5 rfl) e6) (Mz rfl (fw (vJ (D2 a+1)) (EQ (e:=C7.wrap (((D2 a:Nat):Int)+1)) yk f1) (fw (.slice (jr d (D2 a+1) 4 c) ((s2 (r5 (D2 a) l0++(b::r6 (D2 a) l0))) - (D2 a+1)) (c - (D2 a+1))) (FH (lI) rfl rfl e6) ?_)))))))))))))
 have p:=Q.pb [0]
 refine fw (.bool false) (Gr (lo:=D2 a+1) (run_callFunc_extern Tryz.func170 e7 e7 e7 (e:=Extern.SlicesOverlaps.overlaps #[31,31] #[4]) e7) G0 Tryz.sizeOf56 p f3 e6 rfl (kL ((p.rds (i:=1) rfl).isSome e6) e6)) (Kz (.bool true) (nt (jt (EP ?_))))
 refine o5 [8] (E9 (E9 Fp)) p ?_
 intro av R
 refine qv 0 rfl rfl (qt (v:=vJ (D2 a)) 1 rfl (fun _ _=>EQ (e:=a) (E5 rfl) e6) (qv 2 rfl rfl (qt (v:=vJ (D2 a+1)) 3 rfl (fun _ _=>EQ (e:=C7.wrap (((D2 a:Nat):Int)+1)) yk f1) (qt (v:= .slice (jr d (D2 a+1) 4 c) ((s2 (r5 (D2 a) l0++(b::r6 (D2 a) l0))) - (D2 a+1)) (c - (D2 a+1))) 4 rfl (fun _ _=>FH (lI) rfl rfl e6) (qv 5 rfl rfl (qt (v:=vJ (D2 a)) 6 rfl (fun _ _=>EQ (e:=a) (E5 rfl) e6) (qt (v:= .slice (jr d (D2 a) 4 c) ((s2 (r5 (D2 a) l0++(b::r6 (D2 a) l0))) - (D2 a)) (c - (D2 a))) 7 rfl (fun _ _=>FH (lI) rfl rfl e6) ?_)))))))
 have r:=R.pb [0]
 refine qd 8 rfl (FX (lo:=D2 a+1) (k:=l0.length - D2 a) (lI) r rfl (fun _=>kL ((r.rds (i:=0) rfl).isSome e6) e6) e6 rfl (bD.cut (lo:=D2 a) (hi:=s2 (r5 (D2 a) l0++(b::r6 (D2 a) l0))) (r.rds (i:=0) rfl) e6 e6 e6) e6 (fun u hu=>fu aV.one _ u (by rw [yP aV.len e6 rfl e6] at hu; exact hu)) rfl ?_)
 intro ax t
 refine⟨.inl e7, ?_⟩
 refine qn (ER (sr (Mz rfl (fw (vJ (D2 a)) (EQ (e:=a) (E5 rfl) e6) (fw (.slice (jr d (D2 a) 4 c) ((s2 (r5 (D2 a) l0++(b::r6 (D2 a) l0))) - (D2 a)) (c - (D2 a))) (FH (lI) rfl rfl e6) (Mz rfl ?_))))))
 refine WL.do rfl (FX (lo:=D2 a) (k:=1) (lI) t rfl (fun _=>kL ((t.rds (i:=0) rfl).isSome e6) e6) e6 rfl (bz t (i:=1) rfl qA) e6 (fun u hu=>fu aV.one _ u (G2 hu)) rfl ?_)
 intro S T
 refine ns (Mz rfl (An rfl (rt (tR (rs ?_)))))
 have U:Own w D S [row d (s2 (r5 (D2 a) l0++(b::r6 (D2 a) l0))) c (q6 aV.cells (r5 (D2 a) l0++(b::r6 (D2 a) l0))) 56 4,pU B 1 (q6 aV.cells ([b])) 56 4]:=T.rowPart e6 (yQ (l:=l0) (m:=(s2 (r5 (D2 a) l0++(b::r6 (D2 a) l0))) - D2 a) (k2:=l0.length - D2 a) aV.len e6 (by rw [o]; exact G3 4 e6) rfl rfl e6 e6)
 have V:=U.pk [0]
 obtain rfl:_=(r5 (D2 a) l0++(b::r6 (D2 a) l0)):=hr.symm.trans (iN g)
 exact⟨d,c,rfl,V,e6⟩
def p9 (l0:List aJ):(List aJ):=
 l0
theorem kJ (w:World) (D:Nat→Prop) (d:Option Addr) (f u:Nat) (l0:List aJ) (e:List aJ) (H:Own w D w []) (c:Ro w D fun w'=>bD w' 2 d f (q6 aJ.cells l0)) (g:f=l0.length) (x:l0.length *32≤211106232532992) (hr:p9 l0=e):
    Calls y4 75 #[.slice d f u] w (dS fun v w'=> ∃ (r:Option Addr) (t:Nat),v= .slice r e.length t∧Own w D w' [row r e.length t (q6 aJ.cells e) 153 2]):=by
 subst g
 refine cb Tryz.func75 ?_
 refine sr (An rfl (EP (sr (Mz rfl (fw (.bool (Option.isNone d)) (FT B7 rfl rfl) (nt ?_))))))
 rcases IW (Option.isNone d) with a | a
 obtain rfl:l0= []:=pE (enc:=aJ.cells) (H.ro c) a
 refine jT a (sr (An rfl (rt (tR (rs ?_)))))
 have h:Own w D w [row none 0 0 (q6 aJ.cells ([])) 153 2]:=H.free (eZ 153 2)
 have i:=h.pf []
 obtain rfl:_=([]):=hr.symm.trans rfl
 exact⟨none,0,rfl,i⟩
 refine jF a (sk (sr ?_))
 refine kG [] 153 2 0 H ?_
 intro j l b
 replace b:Own w D l [row j 0 0 (q6 aJ.cells ([])) 153 2]:=b
 refine Mz rfl ?_
 refine WL.do rfl (Fy (k:=0) (m:=l0.length) (jK) b rfl rfl (iM B7 (b.ro c) (fu aJ.one l0)) rfl e6 (s:=l0.length) e6 rfl ?_)
 intro n o y p
 refine An rfl (rt (rs ?_))
 have q:=p.pf []
 obtain rfl:_=l0:=hr.symm.trans rfl
 exact⟨n,o,rfl,q⟩
def uj (l0:List Int):(List Int):=
 l0
theorem sF (w:World) (D:Nat→Prop) (d:Option Addr) (f u:Nat) (l0:List Int) (e:List Int) (H:Own w D w []) (c:Ro w D fun w'=>bD w' 1 d f (q6 (eI .i64) l0)) (g:f=l0.length) (x:l0.length *8≤211106232532992) (hr:uj l0=e):
    Calls y4 46 #[.slice d f u] w (dS fun v w'=> ∃ (r:Option Addr) (t:Nat),v= .slice r e.length t∧Own w D w' [row r e.length t (q6 (eI .i64) e) 3 1]):=by
 subst g
 refine cb Tryz.func46 ?_
 refine sr (An rfl (EP (sr (Mz rfl (fw (.bool (Option.isNone d)) (FT G4 rfl rfl) (nt ?_))))))
 rcases IW (Option.isNone d) with a | a
 obtain rfl:l0= []:=pE (enc:=(eI .i64)) (H.ro c) a
 refine jT a (sr (An rfl (rt (tR (rs ?_)))))
 have h:Own w D w [row none 0 0 (q6 (eI .i64) ([])) 3 1]:=H.free (eZ 3 1)
 have i:=h.pf []
 obtain rfl:_=([]):=hr.symm.trans rfl
 exact⟨none,0,rfl,i⟩
 refine jF a (sk (sr ?_))
 refine kG [] 3 1 0 H ?_
 intro j l b
 replace b:Own w D l [row j 0 0 (q6 (eI .i64) ([])) 3 1]:=b
 refine Mz rfl ?_
 refine WL.do rfl (Fy (k:=0) (m:=l0.length) (mQ) b rfl rfl (iM G4 (b.ro c) (fu uK l0)) rfl e6 (s:=l0.length) e6 rfl ?_)
 intro n o y p
 refine An rfl (rt (rs ?_))
 have q:=p.pf []
 obtain rfl:_=l0:=hr.symm.trans rfl
 exact⟨n,o,rfl,q⟩
def pF (l0:List bv):(List bv):=
 l0
theorem lM (w:World) (D:Nat→Prop) (d:Option Addr) (f u:Nat) (l0:List bv) (e:List bv) (H:Own w D w []) (c:Ro w D fun w'=>bD w' 2 d f (q6 bv.cells l0)) (g:f=l0.length) (x:l0.length *24≤211106232532992) (hr:pF l0=e):
    Calls y4 44 #[.slice d f u] w (dS fun v w'=> ∃ (r:Option Addr) (t:Nat),v= .slice r e.length t∧Own w D w' [row r e.length t (q6 bv.cells e) 89 2]):=by
 subst g
 refine cb Tryz.func44 ?_
 refine sr (An rfl (EP (sr (Mz rfl (fw (.bool (Option.isNone d)) (FT B9 rfl rfl) (nt ?_))))))
 rcases IW (Option.isNone d) with a | a
 obtain rfl:l0= []:=pE (enc:=bv.cells) (H.ro c) a
 refine jT a (sr (An rfl (rt (tR (rs ?_)))))
 have h:Own w D w [row none 0 0 (q6 bv.cells ([])) 89 2]:=H.free (eZ 89 2)
 have i:=h.pf []
 obtain rfl:_=([]):=hr.symm.trans rfl
 exact⟨none,0,rfl,i⟩
 refine jF a (sk (sr ?_))
 refine kG [] 89 2 0 H ?_
 intro j l b
 replace b:Own w D l [row j 0 0 (q6 bv.cells ([])) 89 2]:=b
 refine Mz rfl ?_
 refine WL.do rfl (Fy (k:=0) (m:=l0.length) (pX) b rfl rfl (iM B9 (b.ro c) (fu bv.one l0)) rfl e6 (s:=l0.length) e6 rfl ?_)
 intro n o y p
 refine An rfl (rt (rs ?_))
 have q:=p.pf []
 obtain rfl:_=l0:=hr.symm.trans rfl
 exact⟨n,o,rfl,q⟩
def ru (l0:List bC):(List bC):=
 l0
theorem mV (w:World) (D:Nat→Prop) (d:Option Addr) (f u:Nat) (l0:List bC) (e:List bC) (H:Own w D w []) (c:Ro w D fun w'=>bD w' 6 d f (q6 bC.cells l0)) (g:f=l0.length) (x:l0.length *80≤211106232532992) (hr:ru l0=e):
    Calls y4 109 #[.slice d f u] w (dS fun v w'=> ∃ (r:Option Addr) (t:Nat),v= .slice r e.length t∧Own w D w' [row r e.length t (q6 bC.cells e) 72 6]):=by
 subst g
 refine cb Tryz.func109 ?_
 refine sr (An rfl (EP (sr (Mz rfl (fw (.bool (Option.isNone d)) (FT B1 rfl rfl) (nt ?_))))))
 rcases IW (Option.isNone d) with a | a
 obtain rfl:l0= []:=pE (enc:=bC.cells) (H.ro c) a
 refine jT a (sr (An rfl (rt (tR (rs ?_)))))
 have h:Own w D w [row none 0 0 (q6 bC.cells ([])) 72 6]:=H.free (eZ 72 6)
 have i:=h.pf []
 obtain rfl:_=([]):=hr.symm.trans rfl
 exact⟨none,0,rfl,i⟩
 refine jF a (sk (sr ?_))
 refine kG [] 72 6 0 H ?_
 intro j l b
 replace b:Own w D l [row j 0 0 (q6 bC.cells ([])) 72 6]:=b
 refine Mz rfl ?_
 refine WL.do rfl (Fy (k:=0) (m:=l0.length) (pW) b rfl rfl (iM B1 (b.ro c) (fu bC.one l0)) rfl e6 (s:=l0.length) e6 rfl ?_)
 intro n o y p
 refine An rfl (rt (rs ?_))
 have q:=p.pf []
 obtain rfl:_=l0:=hr.symm.trans rfl
 exact⟨n,o,rfl,q⟩
end Go.Proofs.YtbkagebjhbphaaaGreat
