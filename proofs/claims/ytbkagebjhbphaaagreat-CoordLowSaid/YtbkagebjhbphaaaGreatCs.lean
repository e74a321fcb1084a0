/-
 coord: rows cloned.
-/
import Derived.Test.YtbkagebjhbphaaaGreatCoC
namespace Go.Proofs.YtbkagebjhbphaaaGreat
set_option maxRecDepth 100000
open Go.RowKit
set_option linter.unusedVariables false
set_option linter.unusedSectionVars false
set_option linter.unusedSimpArgs false
def oU (l0:List af):(List af):=
 l0
theorem ou (w:World) (D:Nat→Prop) (d:Option Addr) (f u:Nat) (l0:List af) (e:List af) (H:Own w D w []) (c:Ro w D fun w'=>bD w' 3 d f (List.flatMap af.cells l0)) (g:f=l0.length) (x:l0.length *48≤211106232532992) (hr:oU l0=e):
    Calls Tryz.prog 74 #[.slice d f u] w (dS fun v w'=> ∃ (r:Option Addr) (t:Nat),v= .slice r e.length t∧Own w D w' [row r e.length t (List.flatMap af.cells e) 149 3]):=by
 subst g
 refine cb Tryz.func74 ?_
 refine sr (An rfl (EP (sr (Mz rfl (fw (.bool (Option.isNone d)) (FT Tryz.underlying40 rfl rfl) (nt ?_))))))
 rcases IW (Option.isNone d) with a | a
 obtain rfl:l0= []:=pE (enc:=af.cells) (H.ro c) a
 refine jT a (sr (An rfl (rt (tR (rs ?_)))))
 have h:Own w D w [row none 0 0 (List.flatMap af.cells ([])) 149 3]:=H.free (eZ 149 3)
 have i:=h.pf []
 obtain rfl:_=([]):=hr.symm.trans rfl
 exact⟨none,0,rfl,i⟩
 refine jF a (sk (sr ?_))
 refine kG [] 149 3 0 H ?_
 intro j l b
 replace b:Own w D l [row j 0 0 (List.flatMap af.cells ([])) 149 3]:=b
 refine Mz rfl ?_
 refine WL.do rfl (Fy (k:=0) (m:=l0.length) (rf) b rfl rfl (iM Tryz.underlying40 (b.ro c) (fu af.one l0)) rfl (by omega) (s:=l0.length) (by omega) rfl ?_)
 intro n o y p
 refine An rfl (rt (rs ?_))
 have q:=p.pf []
 obtain rfl:_=l0:=hr.symm.trans rfl
 exact⟨n,o,rfl,q⟩
def og (l0:List ay):(List ay):=
 l0
theorem nC (w:World) (D:Nat→Prop) (d:Option Addr) (f u:Nat) (l0:List ay) (e:List ay) (H:Own w D w []) (c:Ro w D fun w'=>bD w' 5 d f (List.flatMap ay.cells l0)) (g:f=l0.length) (x:l0.length *56≤211106232532992) (hr:og l0=e):
    Calls Tryz.prog 45 #[.slice d f u] w (dS fun v w'=> ∃ (r:Option Addr) (t:Nat),v= .slice r e.length t∧Own w D w' [row r e.length t (List.flatMap ay.cells e) 60 5]):=by
 subst g
 refine cb Tryz.func45 ?_
 refine sr (An rfl (EP (sr (Mz rfl (fw (.bool (Option.isNone d)) (FT Tryz.underlying30 rfl rfl) (nt ?_))))))
 rcases IW (Option.isNone d) with a | a
 obtain rfl:l0= []:=pE (enc:=ay.cells) (H.ro c) a
 refine jT a (sr (An rfl (rt (tR (rs ?_)))))
 have h:Own w D w [row none 0 0 (List.flatMap ay.cells ([])) 60 5]:=H.free (eZ 60 5)
 have i:=h.pf []
 obtain rfl:_=([]):=hr.symm.trans rfl
 exact⟨none,0,rfl,i⟩
 refine jF a (sk (sr ?_))
 refine kG [] 60 5 0 H ?_
 intro j l b
 replace b:Own w D l [row j 0 0 (List.flatMap ay.cells ([])) 60 5]:=b
 refine Mz rfl ?_
 refine WL.do rfl (Fy (k:=0) (m:=l0.length) (kv) b rfl rfl (iM Tryz.underlying30 (b.ro c) (fu ay.one l0)) rfl (by omega) (s:=l0.length) (by omega) rfl ?_)
 intro n o y p
 refine An rfl (rt (rs ?_))
 have q:=p.pf []
 obtain rfl:_=l0:=hr.symm.trans rfl
 exact⟨n,o,rfl,q⟩
def p8 (l0:List aV):(List aV):=
 l0
theorem o6 (w:World) (D:Nat→Prop) (d:Option Addr) (f u:Nat) (l0:List aV) (e:List aV) (H:Own w D w []) (c:Ro w D fun w'=>bD w' 4 d f (List.flatMap aV.cells l0)) (g:f=l0.length) (x:l0.length *48≤211106232532992) (hr:p8 l0=e):
    Calls Tryz.prog 47 #[.slice d f u] w (dS fun v w'=> ∃ (r:Option Addr) (t:Nat),v= .slice r e.length t∧Own w D w' [row r e.length t (List.flatMap aV.cells e) 56 4]):=by
 subst g
 refine cb Tryz.func47 ?_
 refine sr (An rfl (EP (sr (Mz rfl (fw (.bool (Option.isNone d)) (FT Tryz.underlying31 rfl rfl) (nt ?_))))))
 rcases IW (Option.isNone d) with a | a
 obtain rfl:l0= []:=pE (enc:=aV.cells) (H.ro c) a
 refine jT a (sr (An rfl (rt (tR (rs ?_)))))
 have h:Own w D w [row none 0 0 (List.flatMap aV.cells ([])) 56 4]:=H.free (eZ 56 4)
 have i:=h.pf []
 obtain rfl:_=([]):=hr.symm.trans rfl
 exact⟨none,0,rfl,i⟩
 refine jF a (sk (sr ?_))
 refine kG [] 56 4 0 H ?_
 intro j l b
 replace b:Own w D l [row j 0 0 (List.flatMap aV.cells ([])) 56 4]:=b
 refine Mz rfl ?_
 refine WL.do rfl (Fy (k:=0) (m:=l0.length) (lI) b rfl rfl (iM Tryz.underlying31 (b.ro c) (fu aV.one l0)) rfl (by omega) (s:=l0.length) (by omega) rfl ?_)
 intro n o y p
 refine An rfl (rt (rs ?_))
 have q:=p.pf []
 obtain rfl:_=l0:=hr.symm.trans rfl
 exact⟨n,o,rfl,q⟩
def jO (l0:List ay) (a:Int) (b:Int):(List ay):=
 if a=b then l0 else(List.take (Int.toNat a) l0++List.drop (Int.toNat b) l0)
theorem mZ (w:World) (D:Nat→Prop) (d:Option Addr) (n c:Nat) (l0:List ay) (b:Int) (a:Int) (h:List ay) (H:Own w D w [row d n c (List.flatMap ay.cells l0) 60 5]) (o:n=l0.length) (I:l0.length *56≤211106232532992) (J:0≤b∧b≤a∧a≤((l0.length:Nat):Int)) (hr:jO l0 b a=h):
    Calls Tryz.prog 98 #[.slice d n c,vI b,vI a] w (dS fun v w'=> ∃ (A:Option Addr) (B:Nat),v= .slice A h.length B∧Own w D w' [row A h.length B (List.flatMap ay.cells h) 60 5]∧(h.length≤l0.length)):=by
 subst o
 have K:=H.rowC (i:=0) rfl
 refine cb Tryz.func98 ?_
 refine sr (Ar rfl (Mz rfl (fw (vJ (Int.toNat b)) (EQ (e:=b) (E5 rfl) (by omega)) (fw (vJ (Int.toNat a)) (EQ (e:=a) (E5 rfl) (by omega)) (Mz rfl (Kz (vJ l0.length) (fw (.slice (jr d (Int.toNat b) 5 l0.length) ((Int.toNat a) - (Int.toNat b)) (l0.length - (Int.toNat b))) (Hq (kv) rfl rfl rfl rfl (by omega) (by omega) (by omega)) (nt (EP (sr (Mz rfl (Mz rfl (Kz (.bool (decide (b=a))) (nt ?_))))))))))))))
 by_cases g:b=a
 refine jT (dT g) (sr (Mz rfl (An rfl (rt (tR (rs ?_))))))
 have p:=H.pf []
 obtain rfl:_=l0:=hr.symm.trans (ip g)
 exact⟨d,c,rfl,p,(by omega)⟩
 refine jF (dF g) (sk (sr (Mz rfl (Kz (vJ l0.length) (An rfl (EP ?_))))))
 have f:=H.drew
 refine F3 [6] (fun W=> ∃ L',Own w D W ([row d l0.length c (List.flatMap ay.cells l0) 60 5]++L')) (by kernel_rfl) (by kernel_rfl) (E9 Fp) ⟨_,f⟩ ?_
 revert f
 generalize World.drew w=q
 intro f
 refine qv 0 rfl rfl (qt (v:=vJ (Int.toNat b)) 1 rfl (fun _ _=>EQ (e:=b) (E5 rfl) (by omega)) (qt (v:= .slice d (Int.toNat b) c) 2 rfl (fun _ _=>FV (kv) rfl rfl (by omega)) (qv 3 rfl rfl (qt (v:=vJ (Int.toNat a)) 4 rfl (fun _ _=>EQ (e:=a) (E5 rfl) (by omega)) (qt (v:= .slice (jr d (Int.toNat a) 5 c) (l0.length - (Int.toNat a)) (c - (Int.toNat a))) 5 rfl (fun _ _=>FH (kv) rfl rfl (by omega)) ?_)))))
 have C:List.length (List.take (Int.toNat b) l0++List.drop (Int.toNat a) l0)=Int.toNat b+(l0.length - Int.toNat a):=by simp only [List.length_append,List.length_take,List.length_drop]; omega
 have j:Src Tryz.prog 5 30 (.slice (jr d (Int.toNat a) 5 c) (l0.length - (Int.toNat a)) (c - (Int.toNat a))) (l0.length - Int.toNat a) (List.flatMap ay.cells (List.drop (Int.toNat a) l0)) q:=iM Tryz.underlying30 (Gb (lo:=Int.toNat a) ay.len (f.rds (i:=0) rfl) (by omega) (by omega) (by decide)) (fu ay.one (List.drop (Int.toNat a) l0))
 obtain⟨E,r,t⟩:=f.rowFull
 refine qd 6 rfl (Gq (k:=Int.toNat b) (m:=l0.length - Int.toNat a) (kv) t rfl rfl j (by omega) (s:=List.length (List.take (Int.toNat b) l0++List.drop (Int.toNat a) l0)) (by omega) ?_)
 intro L l
 refine⟨.inl (by kernel_rfl), ?_⟩
 refine Fz (v:= .slice d (List.length (List.take (Int.toNat b) l0++List.drop (Int.toNat a) l0)) c) 7 rfl (by kernel_rfl) (fun _=>F8 rfl) (qn (ER (sr (Mz rfl (Mz rfl (Kz (vI ((List.length (List.take (Int.toNat b) l0++List.drop (Int.toNat a) l0):Nat):Int)) (Mz rfl (fw (.slice (jr d (List.length (List.take (Int.toNat b) l0++List.drop (Int.toNat a) l0)) 5 c) (l0.length - (List.length (List.take (Int.toNat b) l0++List.drop (Int.toNat a) l0))) (c - (List.length (List.take (Int.toNat b) l0++List.drop (Int.toNat a) l0)))) (Yl.cut (kv) rfl rfl rfl (by omega) (by omega)) ?_))))))))
 refine F6 (GA (z0:=(.agg #[.int .u64 0,vI 0, .int .u64 0, .int .u64 0, .slice none 0 0])) (lo:=List.length (List.take (Int.toNat b) l0++List.drop (Int.toNat a) l0)) (nd:=(l0.length - (List.length (List.take (Int.toNat b) l0++List.drop (Int.toNat a) l0)))) (by kernel_rfl) rfl (kv) l rfl (fun _=>kL ((l.rds (i:=0) rfl).isSome (by omega)) (by omega)) (by omega) ?_)
 intro u F G x
 refine ns (Mz rfl (An rfl (rt (rs ?_))))
 have y:Own w D u [row d (List.length (List.take (Int.toNat b) l0++List.drop (Int.toNat a) l0)) c (List.flatMap ay.cells (List.take (Int.toNat b) l0++List.drop (Int.toNat a) l0)) 60 5]:=x.rowPart (by omega) (xW ay.len (by omega) (by omega) rfl)
 have z:=y.pf []
 obtain rfl:_=(List.take (Int.toNat b) l0++List.drop (Int.toNat a) l0):=hr.symm.trans (iN g)
 exact⟨d,c,rfl,z,(by omega)⟩
def kI (l0:List bB) (a:Int) (b:Int):(List bB):=
 if a=b then l0 else(List.take (Int.toNat a) l0++List.drop (Int.toNat b) l0)
theorem oG (w:World) (D:Nat→Prop) (d:Option Addr) (n c:Nat) (l0:List bB) (b:Int) (a:Int) (h:List bB) (H:Own w D w [row d n c (List.flatMap bB.cells l0) 107 9]) (o:n=l0.length) (I:l0.length *136≤211106232532992) (J:0≤b∧b≤a∧a≤((l0.length:Nat):Int)) (hr:kI l0 b a=h):
    Calls Tryz.prog 105 #[.slice d n c,vI b,vI a] w (dS fun v w'=> ∃ (A:Option Addr) (B:Nat),v= .slice A h.length B∧Own w D w' [row A h.length B (List.flatMap bB.cells h) 107 9]∧(h.length≤l0.length)):=by
 subst o
 have K:=H.rowC (i:=0) rfl
 refine cb Tryz.func105 ?_
 refine sr (Ar rfl (Mz rfl (fw (vJ (Int.toNat b)) (EQ (e:=b) (E5 rfl) (by omega)) (fw (vJ (Int.toNat a)) (EQ (e:=a) (E5 rfl) (by omega)) (Mz rfl (Kz (vJ l0.length) (fw (.slice (jr d (Int.toNat b) 9 l0.length) ((Int.toNat a) - (Int.toNat b)) (l0.length - (Int.toNat b))) (Hq (oQ) rfl rfl rfl rfl (by omega) (by omega) (by omega)) (nt (EP (sr (Mz rfl (Mz rfl (Kz (.bool (decide (b=a))) (nt ?_))))))))))))))
 by_cases g:b=a
 refine jT (dT g) (sr (Mz rfl (An rfl (rt (tR (rs ?_))))))
 have p:=H.pf []
 obtain rfl:_=l0:=hr.symm.trans (ip g)
 exact⟨d,c,rfl,p,(by omega)⟩
 refine jF (dF g) (sk (sr (Mz rfl (Kz (vJ l0.length) (An rfl (EP ?_))))))
 have f:=H.drew
 refine F3 [6] (fun W=> ∃ L',Own w D W ([row d l0.length c (List.flatMap bB.cells l0) 107 9]++L')) (by kernel_rfl) (by kernel_rfl) (E9 Fp) ⟨_,f⟩ ?_
 revert f
 generalize World.drew w=q
 intro f
 refine qv 0 rfl rfl (qt (v:=vJ (Int.toNat b)) 1 rfl (fun _ _=>EQ (e:=b) (E5 rfl) (by omega)) (qt (v:= .slice d (Int.toNat b) c) 2 rfl (fun _ _=>FV (oQ) rfl rfl (by omega)) (qv 3 rfl rfl (qt (v:=vJ (Int.toNat a)) 4 rfl (fun _ _=>EQ (e:=a) (E5 rfl) (by omega)) (qt (v:= .slice (jr d (Int.toNat a) 9 c) (l0.length - (Int.toNat a)) (c - (Int.toNat a))) 5 rfl (fun _ _=>FH (oQ) rfl rfl (by omega)) ?_)))))
 have C:List.length (List.take (Int.toNat b) l0++List.drop (Int.toNat a) l0)=Int.toNat b+(l0.length - Int.toNat a):=by simp only [List.length_append,List.length_take,List.length_drop]; omega
 have j:Src Tryz.prog 9 79 (.slice (jr d (Int.toNat a) 9 c) (l0.length - (Int.toNat a)) (c - (Int.toNat a))) (l0.length - Int.toNat a) (List.flatMap bB.cells (List.drop (Int.toNat a) l0)) q:=iM Tryz.underlying79 (Gb (lo:=Int.toNat a) bB.len (f.rds (i:=0) rfl) (by omega) (by omega) (by decide)) (fu bB.one (List.drop (Int.toNat a) l0))
 obtain⟨E,r,t⟩:=f.rowFull
 refine qd 6 rfl (Gq (k:=Int.toNat b) (m:=l0.length - Int.toNat a) (oQ) t rfl rfl j (by omega) (s:=List.length (List.take (Int.toNat b) l0++List.drop (Int.toNat a) l0)) (by omega) ?_)
 intro L l
 refine⟨.inl (by kernel_rfl), ?_⟩
 refine Fz (v:= .slice d (List.length (List.take (Int.toNat b) l0++List.drop (Int.toNat a) l0)) c) 7 rfl (by kernel_rfl) (fun _=>F8 rfl) (qn (ER (sr (Mz rfl (Mz rfl (Kz (vI ((List.length (List.take (Int.toNat b) l0++List.drop (Int.toNat a) l0):Nat):Int)) (Mz rfl (fw (.slice (jr d (List.length (List.take (Int.toNat b) l0++List.drop (Int.toNat a) l0)) 9 c) (l0.length - (List.length (List.take (Int.toNat b) l0++List.drop (Int.toNat a) l0))) (c - (List.length (List.take (Int.toNat b) l0++List.drop (Int.toNat a) l0)))) (Yl.cut (oQ) rfl rfl rfl (by omega) (by omega)) ?_))))))))
 refine F6 (GA (z0:=(.agg (qC 0 0 0 0 none 0 0 none 0 0 none 0 0 none 0 0 0).toArray)) (lo:=List.length (List.take (Int.toNat b) l0++List.drop (Int.toNat a) l0)) (nd:=(l0.length - (List.length (List.take (Int.toNat b) l0++List.drop (Int.toNat a) l0)))) (by kernel_rfl) rfl (oQ) l rfl (fun _=>kL ((l.rds (i:=0) rfl).isSome (by omega)) (by omega)) (by omega) ?_)
 intro u F G x
 refine ns (Mz rfl (An rfl (rt (rs ?_))))
 have y:Own w D u [row d (List.length (List.take (Int.toNat b) l0++List.drop (Int.toNat a) l0)) c (List.flatMap bB.cells (List.take (Int.toNat b) l0++List.drop (Int.toNat a) l0)) 107 9]:=x.rowPart (by omega) (xW bB.len (by omega) (by omega) rfl)
 have z:=y.pf []
 obtain rfl:_=(List.take (Int.toNat b) l0++List.drop (Int.toNat a) l0):=hr.symm.trans (iN g)
 exact⟨d,c,rfl,z,(by omega)⟩
def jP (l0:List ay) (a:Int) (b:ay):(List ay):=
 if((Int.toNat a:Nat):Int)=((l0.length:Nat):Int) then(l0++ [b]) else(List.take (Int.toNat a) l0++(b::List.drop (Int.toNat a) l0))
theorem ng (w:World) (D:Nat→Prop) (d:Option Addr) (C c:Nat) (l0:List ay) (a:Int) (B:Option Addr) (b:ay) (x:List ay) (H:Own w D w [row d C c (List.flatMap ay.cells l0) 60 5,pU B 1 (List.flatMap ay.cells ([b])) 60 5]) (E:C=l0.length) (af:l0.length *56≤211106232532992) (ag:0≤a∧a≤((l0.length:Nat):Int)∧(l0.length+1) *56≤211106232532992) (hr:jP l0 a b=x):
    Calls Tryz.prog 130 #[.slice d C c,vI a, .slice B 1 1] w (dS fun v w'=> ∃ (W:Option Addr) (X:Nat),v= .slice W x.length X∧Own w D w' [row W x.length X (List.flatMap ay.cells x) 60 5]∧(x.length=l0.length+1)):=by
 subst E
 have ah:=H.rowC (i:=0) rfl
 refine cb Tryz.func130 ?_
 refine sr (Ar rfl (Mz rfl (fw (vJ (Int.toNat a)) (EQ (e:=a) (E5 rfl) (by omega)) (fw (.slice (jr d (Int.toNat a) 5 c) (l0.length - (Int.toNat a)) (c - (Int.toNat a))) (FH (kv) rfl rfl (by omega)) (ns (Mz rfl (Kz (vI 1) (An rfl (EP (sr (Mz rfl (Kz (.bool false) (nt (jf (sk (sr (Mz rfl (Kz (vJ l0.length) (An rfl (EP (sr (fw (vJ (Int.toNat a)) (EQ (e:=a) (E5 rfl) (by omega)) ?_))))))))))))))))))))))
 refine Mz rfl (Kz (.bool (decide (((Int.toNat a:Nat):Int)=((l0.length:Nat):Int)))) (nt ?_))
 by_cases g:((Int.toNat a:Nat):Int)=((l0.length:Nat):Int)
 refine jT (dT g) (sr (Mz rfl (Mz rfl ?_)))
 refine WL.do rfl (Fy (k:=l0.length) (m:=1) (kv) H rfl rfl (iM Tryz.underlying30 (bz H (i:=1) rfl qA) (fu ay.one ([b]))) rfl (by omega) (s:=List.length (l0++ [b])) (by first | omega | (simp only [List.length_append,List.length_cons,List.length_nil] <;> omega)) (List.flatMap_append).symm ?_)
 intro F G ai I
 have Y:List.length (l0++ [b])=l0.length+1:=by simp only [List.length_append,List.length_cons,List.length_nil]
 refine An rfl (rt (tR (rs ?_)))
 have J:=I.pk [0]
 obtain rfl:_=(l0++ [b]):=hr.symm.trans (ip g)
 exact⟨F,G,rfl,J,(by omega)⟩
 refine jF (dF g) (sk (EP (sr (Mz rfl (Mz rfl (fw (vJ (l0.length+1)) (EQ (e:=IntKind.i64.wrap (((l0.length:Nat):Int)+1)) yk (by rw [IR _ (by omega)]; omega)) (Mz rfl (Kz (vJ c) (Kz (.bool (decide (((l0.length+1:Nat):Int) > ((c:Nat):Int)))) (nt ?_))))))))))
 by_cases y:((l0.length+1:Nat):Int) > ((c:Nat):Int)
 refine jT (dT y) (sr (Mz rfl (fw (vJ (Int.toNat a)) (EQ (e:=a) (E5 rfl) (by omega)) (fw (.slice d (Int.toNat a) c) (FV (kv) rfl rfl (by omega)) (Mz rfl (Mz rfl (fw (vJ (l0.length+1)) (EQ (e:=IntKind.i64.wrap (((l0.length:Nat):Int)+1)) yk (by rw [IR _ (by omega)]; omega)) (fw (vJ (Int.toNat a)) (EQ (e:=a) (E5 rfl) (by omega)) (fw (vJ ((l0.length+1) - (Int.toNat a))) (EQ (e:=IntKind.i64.wrap (((l0.length+1:Nat):Int) - ((Int.toNat a:Nat):Int))) yk (by rw [IR _ (by omega)]; omega)) ?_)))))))))
 have Z:List.length (List.take (Int.toNat a) l0++(b::List.drop (Int.toNat a) l0))=l0.length+1:=by simp only [List.length_append,List.length_take,List.length_cons,List.length_drop]; omega
 refine WL.do rfl (Gj (k:=Int.toNat a) (m:=(l0.length+1) - (Int.toNat a)) (kv) Tryz.underlying3 H rfl rfl (by omega) (by omega) (by omega) rfl (by omega) (s:=List.length (List.take (Int.toNat a) l0++(b::List.drop (Int.toNat a) l0))) (by omega) ?_)
 intro h f aa aj z j
 have K:=j.rowLe (i:=0) rfl
 refine Ar rfl (Mz rfl (fw (vJ (Int.toNat a)) (EQ (e:=a) (E5 rfl) (by omega)) (fw (.slice (jr h (Int.toNat a) 5 f) ((List.length (List.take (Int.toNat a) l0++(b::List.drop (Int.toNat a) l0))) - (Int.toNat a)) (f - (Int.toNat a))) (FH (kv) rfl rfl (by omega)) (Mz rfl ?_))))
 refine WL.do rfl (FX (lo:=Int.toNat a) (k:=1) (kv) j rfl (fun _=>kL ((j.rds (i:=0) rfl).isSome (by omega)) (by omega)) (by omega) rfl (bz j (i:=2) rfl qA) (by omega) (fun u hu=>fu ay.one _ u (List.mem_of_mem_take hu)) rfl ?_)
 intro ak L
 refine nt (EP ?_)
 refine CG [8] (E9 (E9 Fp)) L ?_
 intro au n
 refine qv 0 rfl rfl (qt (v:=vJ (Int.toNat a)) 1 rfl (fun _ _=>EQ (e:=a) (E5 rfl) (by omega)) (qv 2 rfl rfl (qt (v:=vJ (Int.toNat a+1)) 3 rfl (fun _ _=>EQ (e:=IntKind.i64.wrap (((Int.toNat a:Nat):Int)+1)) yk (by rw [IR _ (by omega)]; omega)) (qt (v:= .slice (jr h (Int.toNat a+1) 5 f) ((List.length (List.take (Int.toNat a) l0++(b::List.drop (Int.toNat a) l0))) - (Int.toNat a+1)) (f - (Int.toNat a+1))) 4 rfl (fun _ _=>FH (kv) rfl rfl (by omega)) (qv 5 rfl rfl (qt (v:=vJ (Int.toNat a)) 6 rfl (fun _ _=>EQ (e:=a) (E5 rfl) (by omega)) (qt (v:= .slice (jr d (Int.toNat a) 5 c) (l0.length - (Int.toNat a)) (c - (Int.toNat a))) 7 rfl (fun _ _=>FH (kv) rfl rfl (by omega)) ?_)))))))
 refine qd 8 rfl (FX (lo:=Int.toNat a+1) (k:=l0.length - Int.toNat a) (kv) n rfl (fun _=>kL ((n.rds (i:=0) rfl).isSome (by omega)) (by omega)) (by omega) rfl (Gb (lo:=Int.toNat a) ay.len (n.rds (i:=1) rfl) (by omega) (by omega) (by decide)) (by omega) (fun u hu=>fu ay.one _ u (List.mem_of_mem_take hu)) rfl ?_)
 intro M N
 refine⟨.inl (by kernel_rfl), ?_⟩
 refine qn (ER (sr (Mz rfl (An rfl (rt (tR (rs ?_)))))))
 have O:Own w D M [row h (List.length (List.take (Int.toNat a) l0++(b::List.drop (Int.toNat a) l0))) f (List.flatMap ay.cells (List.take (Int.toNat a) l0++(b::List.drop (Int.toNat a) l0))) 60 5,row d l0.length c (List.flatMap ay.cells l0) 60 5,pU B 1 (List.flatMap ay.cells ([b])) 60 5]:=N.rowPart (by omega) (yO (l:=l0) (k2:=l0.length - Int.toNat a) ay.len (by omega) z rfl rfl (by omega))
 have P:=O.pk [0]
 obtain rfl:_=(List.take (Int.toNat a) l0++(b::List.drop (Int.toNat a) l0)):=hr.symm.trans (iN g)
 exact⟨h,f,rfl,P,(by omega)⟩
 refine jF (dF y) (sk (sr ?_))
 have A:List.length (List.take (Int.toNat a) l0++(b::List.drop (Int.toNat a) l0))=l0.length+1:=by simp only [List.length_append,List.length_take,List.length_cons,List.length_drop]; omega
 obtain⟨ae,o,Q⟩:=H.rowFull
 refine Mz rfl (Mz rfl (Mz rfl (fw (vJ (l0.length+1)) (EQ (e:=IntKind.i64.wrap (((l0.length:Nat):Int)+1)) yk (by rw [IR _ (by omega)]; omega)) (fw (.slice d (List.length (List.take (Int.toNat a) l0++(b::List.drop (Int.toNat a) l0))) c) (Yl.to (FV (kv) rfl rfl (by omega)) (congrArg (fun q=>Value.slice d q c) A.symm)) (An rfl (EP (sr (Mz rfl (Mz rfl (fw (vJ (Int.toNat a)) (EQ (e:=a) (E5 rfl) (by omega)) (Mz rfl (fw (vJ (Int.toNat a+1)) (EQ (e:=IntKind.i64.wrap (((Int.toNat a:Nat):Int)+1)) yk (by rw [IR _ (by omega)]; omega)) (fw (.slice (jr d (Int.toNat a+1) 5 c) ((List.length (List.take (Int.toNat a) l0++(b::List.drop (Int.toNat a) l0))) - (Int.toNat a+1)) (c - (Int.toNat a+1))) (FH (kv) rfl rfl (by omega)) ?_)))))))))))))
 have p:=Q.pb [0]
 refine fw (.bool false) (Gr (lo:=Int.toNat a+1) (run_callFunc_extern Tryz.func150 (by kernel_rfl) (by kernel_rfl) (by kernel_rfl) (e:=Extern.SlicesOverlaps.overlaps #[30,30] #[4]) (by kernel_rfl)) Tryz.underlying30 Tryz.sizeOf60 p (by decide) (by omega) rfl (kL ((p.rds (i:=1) rfl).isSome (by omega)) (by omega))) (Kz (.bool true) (nt (jt (EP ?_))))
 refine o5 [8] (E9 (E9 Fp)) p ?_
 intro av R
 refine qv 0 rfl rfl (qt (v:=vJ (Int.toNat a)) 1 rfl (fun _ _=>EQ (e:=a) (E5 rfl) (by omega)) (qv 2 rfl rfl (qt (v:=vJ (Int.toNat a+1)) 3 rfl (fun _ _=>EQ (e:=IntKind.i64.wrap (((Int.toNat a:Nat):Int)+1)) yk (by rw [IR _ (by omega)]; omega)) (qt (v:= .slice (jr d (Int.toNat a+1) 5 c) ((List.length (List.take (Int.toNat a) l0++(b::List.drop (Int.toNat a) l0))) - (Int.toNat a+1)) (c - (Int.toNat a+1))) 4 rfl (fun _ _=>FH (kv) rfl rfl (by omega)) (qv 5 rfl rfl (qt (v:=vJ (Int.toNat a)) 6 rfl (fun _ _=>EQ (e:=a) (E5 rfl) (by omega)) (qt (v:= .slice (jr d (Int.toNat a) 5 c) ((List.length (List.take (Int.toNat a) l0++(b::List.drop (Int.toNat a) l0))) - (Int.toNat a)) (c - (Int.toNat a))) 7 rfl (fun _ _=>FH (kv) rfl rfl (by omega)) ?_)))))))
 have r:=R.pb [0]
 refine qd 8 rfl (FX (lo:=Int.toNat a+1) (k:=l0.length - Int.toNat a) (kv) r rfl (fun _=>kL ((r.rds (i:=0) rfl).isSome (by omega)) (by omega)) (by omega) rfl (bD.cut (lo:=Int.toNat a) (hi:=List.length (List.take (Int.toNat a) l0++(b::List.drop (Int.toNat a) l0))) (r.rds (i:=0) rfl) (by omega) (by omega) (by omega)) (by omega) (fun u hu=>fu ay.one _ u (by rw [yP ay.len (by omega) rfl (by omega)] at hu; exact hu)) rfl ?_)
 intro ax t
 refine⟨.inl (by kernel_rfl), ?_⟩
 refine qn (ER (sr (Mz rfl (fw (vJ (Int.toNat a)) (EQ (e:=a) (E5 rfl) (by omega)) (fw (.slice (jr d (Int.toNat a) 5 c) ((List.length (List.take (Int.toNat a) l0++(b::List.drop (Int.toNat a) l0))) - (Int.toNat a)) (c - (Int.toNat a))) (FH (kv) rfl rfl (by omega)) (Mz rfl ?_))))))
 refine WL.do rfl (FX (lo:=Int.toNat a) (k:=1) (kv) t rfl (fun _=>kL ((t.rds (i:=0) rfl).isSome (by omega)) (by omega)) (by omega) rfl (bz t (i:=1) rfl qA) (by omega) (fun u hu=>fu ay.one _ u (List.mem_of_mem_take hu)) rfl ?_)
 intro S T
 refine ns (Mz rfl (An rfl (rt (tR (rs ?_)))))
 have U:Own w D S [row d (List.length (List.take (Int.toNat a) l0++(b::List.drop (Int.toNat a) l0))) c (List.flatMap ay.cells (List.take (Int.toNat a) l0++(b::List.drop (Int.toNat a) l0))) 60 5,pU B 1 (List.flatMap ay.cells ([b])) 60 5]:=T.rowPart (by omega) (yQ (l:=l0) (m:=(List.length (List.take (Int.toNat a) l0++(b::List.drop (Int.toNat a) l0))) - Int.toNat a) (k2:=l0.length - Int.toNat a) ay.len (by omega) (by rw [o]; exact Nat.le_mul_of_pos_left 5 (by omega)) rfl rfl (by omega) (by omega))
 have V:=U.pk [0]
 obtain rfl:_=(List.take (Int.toNat a) l0++(b::List.drop (Int.toNat a) l0)):=hr.symm.trans (iN g)
 exact⟨d,c,rfl,V,(by omega)⟩
def kT (l0:List aV) (a:Int) (b:aV):(List aV):=
 if((Int.toNat a:Nat):Int)=((l0.length:Nat):Int) then(l0++ [b]) else(List.take (Int.toNat a) l0++(b::List.drop (Int.toNat a) l0))
theorem oV (w:World) (D:Nat→Prop) (d:Option Addr) (C c:Nat) (l0:List aV) (a:Int) (B:Option Addr) (b:aV) (x:List aV) (H:Own w D w [row d C c (List.flatMap aV.cells l0) 56 4,pU B 1 (List.flatMap aV.cells ([b])) 56 4]) (E:C=l0.length) (af:l0.length *48≤211106232532992) (ag:0≤a∧a≤((l0.length:Nat):Int)∧(l0.length+1) *48≤211106232532992) (hr:kT l0 a b=x):
    Calls Tryz.prog 155 #[.slice d C c,vI a, .slice B 1 1] w (dS fun v w'=> ∃ (W:Option Addr) (X:Nat),v= .slice W x.length X∧Own w D w' [row W x.length X (List.flatMap aV.cells x) 56 4]∧(x.length=l0.length+1)):=by
 subst E
 have ah:=H.rowC (i:=0) rfl
 refine cb Tryz.func155 ?_
 refine sr (Ar rfl (Mz rfl (fw (vJ (Int.toNat a)) (EQ (e:=a) (E5 rfl) (by omega)) (fw (.slice (jr d (Int.toNat a) 4 c) (l0.length - (Int.toNat a)) (c - (Int.toNat a))) (FH (lI) rfl rfl (by omega)) (ns (Mz rfl (Kz (vI 1) (An rfl (EP (sr (Mz rfl (Kz (.bool false) (nt (jf (sk (sr (Mz rfl (Kz (vJ l0.length) (An rfl (EP (sr (fw (vJ (Int.toNat a)) (EQ (e:=a) (E5 rfl) (by omega)) ?_))))))))))))))))))))))
 refine Mz rfl (Kz (.bool (decide (((Int.toNat a:Nat):Int)=((l0.length:Nat):Int)))) (nt ?_))
 by_cases g:((Int.toNat a:Nat):Int)=((l0.length:Nat):Int)
 refine jT (dT g) (sr (Mz rfl (Mz rfl ?_)))
 refine WL.do rfl (Fy (k:=l0.length) (m:=1) (lI) H rfl rfl (iM Tryz.underlying31 (bz H (i:=1) rfl qA) (fu aV.one ([b]))) rfl (by omega) (s:=List.length (l0++ [b])) (by first | omega | (simp only [List.length_append,List.length_cons,List.length_nil] <;> omega)) (List.flatMap_append).symm ?_)
 intro F G ai I
 have Y:List.length (l0++ [b])=l0.length+1:=by simp only [List.length_append,List.length_cons,List.length_nil]
 refine An rfl (rt (tR (rs ?_)))
 have J:=I.pk [0]
 obtain rfl:_=(l0++ [b]):=hr.symm.trans (ip g)
 exact⟨F,G,rfl,J,(by omega)⟩
 refine jF (dF g) (sk (EP (sr (Mz rfl (Mz rfl (fw (vJ (l0.length+1)) (EQ (e:=IntKind.i64.wrap (((l0.length:Nat):Int)+1)) yk (by rw [IR _ (by omega)]; omega)) (Mz rfl (Kz (vJ c) (Kz (.bool (decide (((l0.length+1:Nat):Int) > ((c:Nat):Int)))) (nt ?_))))))))))
 by_cases y:((l0.length+1:Nat):Int) > ((c:Nat):Int)
 refine jT (dT y) (sr (Mz rfl (fw (vJ (Int.toNat a)) (EQ (e:=a) (E5 rfl) (by omega)) (fw (.slice d (Int.toNat a) c) (FV (lI) rfl rfl (by omega)) (Mz rfl (Mz rfl (fw (vJ (l0.length+1)) (EQ (e:=IntKind.i64.wrap (((l0.length:Nat):Int)+1)) yk (by rw [IR _ (by omega)]; omega)) (fw (vJ (Int.toNat a)) (EQ (e:=a) (E5 rfl) (by omega)) (fw (vJ ((l0.length+1) - (Int.toNat a))) (EQ (e:=IntKind.i64.wrap (((l0.length+1:Nat):Int) - ((Int.toNat a:Nat):Int))) yk (by rw [IR _ (by omega)]; omega)) ?_)))))))))
 have Z:List.length (List.take (Int.toNat a) l0++(b::List.drop (Int.toNat a) l0))=l0.length+1:=by simp only [List.length_append,List.length_take,List.length_cons,List.length_drop]; omega
 refine WL.do rfl (Gj (k:=Int.toNat a) (m:=(l0.length+1) - (Int.toNat a)) (lI) Tryz.underlying3 H rfl rfl (by omega) (by omega) (by omega) rfl (by omega) (s:=List.length (List.take (Int.toNat a) l0++(b::List.drop (Int.toNat a) l0))) (by omega) ?_)
 intro h f aa aj z j
 have K:=j.rowLe (i:=0) rfl
 refine Ar rfl (Mz rfl (fw (vJ (Int.toNat a)) (EQ (e:=a) (E5 rfl) (by omega)) (fw (.slice (jr h (Int.toNat a) 4 f) ((List.length (List.take (Int.toNat a) l0++(b::List.drop (Int.toNat a) l0))) - (Int.toNat a)) (f - (Int.toNat a))) (FH (lI) rfl rfl (by omega)) (Mz rfl ?_))))
 refine WL.do rfl (FX (lo:=Int.toNat a) (k:=1) (lI) j rfl (fun _=>kL ((j.rds (i:=0) rfl).isSome (by omega)) (by omega)) (by omega) rfl (bz j (i:=2) rfl qA) (by omega) (fun u hu=>fu aV.one _ u (List.mem_of_mem_take hu)) rfl ?_)
 intro ak L
 refine nt (EP ?_)
 refine CG [8] (E9 (E9 Fp)) L ?_
 intro au n
 refine qv 0 rfl rfl (qt (v:=vJ (Int.toNat a)) 1 rfl (fun _ _=>EQ (e:=a) (E5 rfl) (by omega)) (qv 2 rfl rfl (qt (v:=vJ (Int.toNat a+1)) 3 rfl (fun _ _=>EQ (e:=IntKind.i64.wrap (((Int.toNat a:Nat):Int)+1)) yk (by rw [IR _ (by omega)]; omega)) (qt (v:= .slice (jr h (Int.toNat a+1) 4 f) ((List.length (List.take (Int.toNat a) l0++(b::List.drop (Int.toNat a) l0))) - (Int.toNat a+1)) (f - (Int.toNat a+1))) 4 rfl (fun _ _=>FH (lI) rfl rfl (by omega)) (qv 5 rfl rfl (qt (v:=vJ (Int.toNat a)) 6 rfl (fun _ _=>EQ (e:=a) (E5 rfl) (by omega)) (qt (v:= .slice (jr d (Int.toNat a) 4 c) (l0.length - (Int.toNat a)) (c - (Int.toNat a))) 7 rfl (fun _ _=>FH (lI) rfl rfl (by omega)) ?_)))))))
 refine qd 8 rfl (FX (lo:=Int.toNat a+1) (k:=l0.length - Int.toNat a) (lI) n rfl (fun _=>kL ((n.rds (i:=0) rfl).isSome (by omega)) (by omega)) (by omega) rfl (Gb (lo:=Int.toNat a) aV.len (n.rds (i:=1) rfl) (by omega) (by omega) (by decide)) (by omega) (fun u hu=>fu aV.one _ u (List.mem_of_mem_take hu)) rfl ?_)
 intro M N
 refine⟨.inl (by kernel_rfl), ?_⟩
 refine qn (ER (sr (Mz rfl (An rfl (rt (tR (rs ?_)))))))
 have O:Own w D M [row h (List.length (List.take (Int.toNat a) l0++(b::List.drop (Int.toNat a) l0))) f (List.flatMap aV.cells (List.take (Int.toNat a) l0++(b::List.drop (Int.toNat a) l0))) 56 4,row d l0.length c (List.flatMap aV.cells l0) 56 4,pU B 1 (List.flatMap aV.cells ([b])) 56 4]:=N.rowPart (by omega) (yO (l:=l0) (k2:=l0.length - Int.toNat a) aV.len (by omega) z rfl rfl (by omega))
 have P:=O.pk [0]
 obtain rfl:_=(List.take (Int.toNat a) l0++(b::List.drop (Int.toNat a) l0)):=hr.symm.trans (iN g)
 exact⟨h,f,rfl,P,(by omega)⟩
 refine jF (dF y) (sk (sr ?_))
 have A:List.length (List.take (Int.toNat a) l0++(b::List.drop (Int.toNat a) l0))=l0.length+1:=by simp only [List.length_append,List.length_take,List.length_cons,List.length_drop]; omega
 obtain⟨ae,o,Q⟩:=H.rowFull
 refine Mz rfl (Mz rfl (Mz rfl (fw (vJ (l0.length+1)) (EQ (e:=IntKind.i64.wrap (((l0.length:Nat):Int)+1)) yk (by rw [IR _ (by omega)]; omega)) (fw (.slice d (List.length (List.take (Int.toNat a) l0++(b::List.drop (Int.toNat a) l0))) c) (Yl.to (FV (lI) rfl rfl (by omega)) (congrArg (fun q=>Value.slice d q c) A.symm)) (An rfl (EP (sr (Mz rfl (Mz rfl (fw (vJ (Int.toNat a)) (EQ (e:=a) (E5 rfl) (by omega)) (Mz rfl (fw (vJ (Int.toNat a+1)) (EQ (e:=IntKind.i64.wrap (((Int.toNat a:Nat):Int)+1)) yk (by rw [IR _ (by omega)]; omega)) (fw (.slice (jr d (Int.toNat a+1) 4 c) ((List.length (List.take (Int.toNat a) l0++(b::List.drop (Int.toNat a) l0))) - (Int.toNat a+1)) (c - (Int.toNat a+1))) (FH (lI) rfl rfl (by omega)) ?_)))))))))))))
 have p:=Q.pb [0]
 refine fw (.bool false) (Gr (lo:=Int.toNat a+1) (run_callFunc_extern Tryz.func170 (by kernel_rfl) (by kernel_rfl) (by kernel_rfl) (e:=Extern.SlicesOverlaps.overlaps #[31,31] #[4]) (by kernel_rfl)) Tryz.underlying31 Tryz.sizeOf56 p (by decide) (by omega) rfl (kL ((p.rds (i:=1) rfl).isSome (by omega)) (by omega))) (Kz (.bool true) (nt (jt (EP ?_))))
 refine o5 [8] (E9 (E9 Fp)) p ?_
 intro av R
 refine qv 0 rfl rfl (qt (v:=vJ (Int.toNat a)) 1 rfl (fun _ _=>EQ (e:=a) (E5 rfl) (by omega)) (qv 2 rfl rfl (qt (v:=vJ (Int.toNat a+1)) 3 rfl (fun _ _=>EQ (e:=IntKind.i64.wrap (((Int.toNat a:Nat):Int)+1)) yk (by rw [IR _ (by omega)]; omega)) (qt (v:= .slice (jr d (Int.toNat a+1) 4 c) ((List.length (List.take (Int.toNat a) l0++(b::List.drop (Int.toNat a) l0))) - (Int.toNat a+1)) (c - (Int.toNat a+1))) 4 rfl (fun _ _=>FH (lI) rfl rfl (by omega)) (qv 5 rfl rfl (qt (v:=vJ (Int.toNat a)) 6 rfl (fun _ _=>EQ (e:=a) (E5 rfl) (by omega)) (qt (v:= .slice (jr d (Int.toNat a) 4 c) ((List.length (List.take (Int.toNat a) l0++(b::List.drop (Int.toNat a) l0))) - (Int.toNat a)) (c - (Int.toNat a))) 7 rfl (fun _ _=>FH (lI) rfl rfl (by omega)) ?_)))))))
 have r:=R.pb [0]
 refine qd 8 rfl (FX (lo:=Int.toNat a+1) (k:=l0.length - Int.toNat a) (lI) r rfl (fun _=>kL ((r.rds (i:=0) rfl).isSome (by omega)) (by omega)) (by omega) rfl (bD.cut (lo:=Int.toNat a) (hi:=List.length (List.take (Int.toNat a) l0++(b::List.drop (Int.toNat a) l0))) (r.rds (i:=0) rfl) (by omega) (by omega) (by omega)) (by omega) (fun u hu=>fu aV.one _ u (by rw [yP aV.len (by omega) rfl (by omega)] at hu; exact hu)) rfl ?_)
 intro ax t
 refine⟨.inl (by kernel_rfl), ?_⟩
 refine qn (ER (sr (Mz rfl (fw (vJ (Int.toNat a)) (EQ (e:=a) (E5 rfl) (by omega)) (fw (.slice (jr d (Int.toNat a) 4 c) ((List.length (List.take (Int.toNat a) l0++(b::List.drop (Int.toNat a) l0))) - (Int.toNat a)) (c - (Int.toNat a))) (FH (lI) rfl rfl (by omega)) (Mz rfl ?_))))))
 refine WL.do rfl (FX (lo:=Int.toNat a) (k:=1) (lI) t rfl (fun _=>kL ((t.rds (i:=0) rfl).isSome (by omega)) (by omega)) (by omega) rfl (bz t (i:=1) rfl qA) (by omega) (fun u hu=>fu aV.one _ u (List.mem_of_mem_take hu)) rfl ?_)
 intro S T
 refine ns (Mz rfl (An rfl (rt (tR (rs ?_)))))
 have U:Own w D S [row d (List.length (List.take (Int.toNat a) l0++(b::List.drop (Int.toNat a) l0))) c (List.flatMap aV.cells (List.take (Int.toNat a) l0++(b::List.drop (Int.toNat a) l0))) 56 4,pU B 1 (List.flatMap aV.cells ([b])) 56 4]:=T.rowPart (by omega) (yQ (l:=l0) (m:=(List.length (List.take (Int.toNat a) l0++(b::List.drop (Int.toNat a) l0))) - Int.toNat a) (k2:=l0.length - Int.toNat a) aV.len (by omega) (by rw [o]; exact Nat.le_mul_of_pos_left 4 (by omega)) rfl rfl (by omega) (by omega))
 have V:=U.pk [0]
 obtain rfl:_=(List.take (Int.toNat a) l0++(b::List.drop (Int.toNat a) l0)):=hr.symm.trans (iN g)
 exact⟨d,c,rfl,V,(by omega)⟩
def p9 (l0:List aJ):(List aJ):=
 l0
theorem kJ (w:World) (D:Nat→Prop) (d:Option Addr) (f u:Nat) (l0:List aJ) (e:List aJ) (H:Own w D w []) (c:Ro w D fun w'=>bD w' 2 d f (List.flatMap aJ.cells l0)) (g:f=l0.length) (x:l0.length *32≤211106232532992) (hr:p9 l0=e):
    Calls Tryz.prog 75 #[.slice d f u] w (dS fun v w'=> ∃ (r:Option Addr) (t:Nat),v= .slice r e.length t∧Own w D w' [row r e.length t (List.flatMap aJ.cells e) 153 2]):=by
 subst g
 refine cb Tryz.func75 ?_
 refine sr (An rfl (EP (sr (Mz rfl (fw (.bool (Option.isNone d)) (FT Tryz.underlying147 rfl rfl) (nt ?_))))))
 rcases IW (Option.isNone d) with a | a
 obtain rfl:l0= []:=pE (enc:=aJ.cells) (H.ro c) a
 refine jT a (sr (An rfl (rt (tR (rs ?_)))))
 have h:Own w D w [row none 0 0 (List.flatMap aJ.cells ([])) 153 2]:=H.free (eZ 153 2)
 have i:=h.pf []
 obtain rfl:_=([]):=hr.symm.trans rfl
 exact⟨none,0,rfl,i⟩
 refine jF a (sk (sr ?_))
 refine kG [] 153 2 0 H ?_
 intro j l b
 replace b:Own w D l [row j 0 0 (List.flatMap aJ.cells ([])) 153 2]:=b
 refine Mz rfl ?_
 refine WL.do rfl (Fy (k:=0) (m:=l0.length) (jK) b rfl rfl (iM Tryz.underlying147 (b.ro c) (fu aJ.one l0)) rfl (by omega) (s:=l0.length) (by omega) rfl ?_)
 intro n o y p
 refine An rfl (rt (rs ?_))
 have q:=p.pf []
 obtain rfl:_=l0:=hr.symm.trans rfl
 exact⟨n,o,rfl,q⟩
def uj (l0:List Int):(List Int):=
 l0
theorem sF (w:World) (D:Nat→Prop) (d:Option Addr) (f u:Nat) (l0:List Int) (e:List Int) (H:Own w D w []) (c:Ro w D fun w'=>bD w' 1 d f (List.flatMap (eI .i64) l0)) (g:f=l0.length) (x:l0.length *8≤211106232532992) (hr:uj l0=e):
    Calls Tryz.prog 46 #[.slice d f u] w (dS fun v w'=> ∃ (r:Option Addr) (t:Nat),v= .slice r e.length t∧Own w D w' [row r e.length t (List.flatMap (eI .i64) e) 3 1]):=by
 subst g
 refine cb Tryz.func46 ?_
 refine sr (An rfl (EP (sr (Mz rfl (fw (.bool (Option.isNone d)) (FT Tryz.underlying58 rfl rfl) (nt ?_))))))
 rcases IW (Option.isNone d) with a | a
 obtain rfl:l0= []:=pE (enc:=(eI .i64)) (H.ro c) a
 refine jT a (sr (An rfl (rt (tR (rs ?_)))))
 have h:Own w D w [row none 0 0 (List.flatMap (eI .i64) ([])) 3 1]:=H.free (eZ 3 1)
 have i:=h.pf []
 obtain rfl:_=([]):=hr.symm.trans rfl
 exact⟨none,0,rfl,i⟩
 refine jF a (sk (sr ?_))
 refine kG [] 3 1 0 H ?_
 intro j l b
 replace b:Own w D l [row j 0 0 (List.flatMap (eI .i64) ([])) 3 1]:=b
 refine Mz rfl ?_
 refine WL.do rfl (Fy (k:=0) (m:=l0.length) (mQ) b rfl rfl (iM Tryz.underlying58 (b.ro c) (fu uK l0)) rfl (by omega) (s:=l0.length) (by omega) rfl ?_)
 intro n o y p
 refine An rfl (rt (rs ?_))
 have q:=p.pf []
 obtain rfl:_=l0:=hr.symm.trans rfl
 exact⟨n,o,rfl,q⟩
def pF (l0:List bv):(List bv):=
 l0
theorem lM (w:World) (D:Nat→Prop) (d:Option Addr) (f u:Nat) (l0:List bv) (e:List bv) (H:Own w D w []) (c:Ro w D fun w'=>bD w' 2 d f (List.flatMap bv.cells l0)) (g:f=l0.length) (x:l0.length *24≤211106232532992) (hr:pF l0=e):
    Calls Tryz.prog 44 #[.slice d f u] w (dS fun v w'=> ∃ (r:Option Addr) (t:Nat),v= .slice r e.length t∧Own w D w' [row r e.length t (List.flatMap bv.cells e) 89 2]):=by
 subst g
 refine cb Tryz.func44 ?_
 refine sr (An rfl (EP (sr (Mz rfl (fw (.bool (Option.isNone d)) (FT Tryz.underlying29 rfl rfl) (nt ?_))))))
 rcases IW (Option.isNone d) with a | a
 obtain rfl:l0= []:=pE (enc:=bv.cells) (H.ro c) a
 refine jT a (sr (An rfl (rt (tR (rs ?_)))))
 have h:Own w D w [row none 0 0 (List.flatMap bv.cells ([])) 89 2]:=H.free (eZ 89 2)
 have i:=h.pf []
 obtain rfl:_=([]):=hr.symm.trans rfl
 exact⟨none,0,rfl,i⟩
 refine jF a (sk (sr ?_))
 refine kG [] 89 2 0 H ?_
 intro j l b
 replace b:Own w D l [row j 0 0 (List.flatMap bv.cells ([])) 89 2]:=b
 refine Mz rfl ?_
 refine WL.do rfl (Fy (k:=0) (m:=l0.length) (pX) b rfl rfl (iM Tryz.underlying29 (b.ro c) (fu bv.one l0)) rfl (by omega) (s:=l0.length) (by omega) rfl ?_)
 intro n o y p
 refine An rfl (rt (rs ?_))
 have q:=p.pf []
 obtain rfl:_=l0:=hr.symm.trans rfl
 exact⟨n,o,rfl,q⟩
def ru (l0:List bC):(List bC):=
 l0
theorem mV (w:World) (D:Nat→Prop) (d:Option Addr) (f u:Nat) (l0:List bC) (e:List bC) (H:Own w D w []) (c:Ro w D fun w'=>bD w' 6 d f (List.flatMap bC.cells l0)) (g:f=l0.length) (x:l0.length *80≤211106232532992) (hr:ru l0=e):
    Calls Tryz.prog 109 #[.slice d f u] w (dS fun v w'=> ∃ (r:Option Addr) (t:Nat),v= .slice r e.length t∧Own w D w' [row r e.length t (List.flatMap bC.cells e) 72 6]):=by
 subst g
 refine cb Tryz.func109 ?_
 refine sr (An rfl (EP (sr (Mz rfl (fw (.bool (Option.isNone d)) (FT Tryz.underlying39 rfl rfl) (nt ?_))))))
 rcases IW (Option.isNone d) with a | a
 obtain rfl:l0= []:=pE (enc:=bC.cells) (H.ro c) a
 refine jT a (sr (An rfl (rt (tR (rs ?_)))))
 have h:Own w D w [row none 0 0 (List.flatMap bC.cells ([])) 72 6]:=H.free (eZ 72 6)
 have i:=h.pf []
 obtain rfl:_=([]):=hr.symm.trans rfl
 exact⟨none,0,rfl,i⟩
 refine jF a (sk (sr ?_))
 refine kG [] 72 6 0 H ?_
 intro j l b
 replace b:Own w D l [row j 0 0 (List.flatMap bC.cells ([])) 72 6]:=b
 refine Mz rfl ?_
 refine WL.do rfl (Fy (k:=0) (m:=l0.length) (pW) b rfl rfl (iM Tryz.underlying39 (b.ro c) (fu bC.one l0)) rfl (by omega) (s:=l0.length) (by omega) rfl ?_)
 intro n o y p
 refine An rfl (rt (rs ?_))
 have q:=p.pf []
 obtain rfl:_=l0:=hr.symm.trans rfl
 exact⟨n,o,rfl,q⟩
end Go.Proofs.YtbkagebjhbphaaaGreat
