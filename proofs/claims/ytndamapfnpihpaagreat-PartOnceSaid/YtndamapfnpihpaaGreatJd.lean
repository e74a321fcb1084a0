/- The layers told, part 4. Conditions: none beyond each law's own. -/
import Derived.Test.YtndamapfnpihpaaGreatJc
namespace Go.Proofs.YtndamapfnpihpaaGreat
set_option maxRecDepth 100000
set_option linter.unusedVariables false
set_option linter.unusedSimpArgs false
set_option linter.unusedSectionVars false
section
open Go.RowKit
def kN (a:List ay) (b:Int) (c:Int):(List ay):=
 if b=c then a else(List.take (Int.toNat b) a++List.drop (Int.toNat c) a)
theorem oZ (w D g p d a c b l) (H:Own w D w [row g p d (List.flatMap ay.cells a) 164 6]) (q:p=a.length) (K:a.length *80<=211106232532992) (M:0<=c/\c<=b/\b<=((a.length:Nat):Int)) (hr:kN a c b=l):
    Calls Tryz.prog 170 #[.slice g p d,vI c,vI b] w (dG λ v w'=> ∃ C E,v= .slice C l.length E/\Own w D w' [row C l.length E (List.flatMap ay.cells l) 164 6]/\(l.length<=a.length)):=by
 unfold kN at hr
 subst q
 have N:=H.rowC (i:=0) rfl
 refine cb Tryz.func170 ?_
 refine sr (Ar rfl (Mz rfl (fw (vJ (Int.toNat c)) (Gw (e:=c) (Gv rfl) e8) (fw (vJ (Int.toNat b)) (Gw (e:=b) (Gv rfl) e8) (Mz rfl (Kz (vJ a.length) (fw (.slice (eu g (Int.toNat c) 6 a.length) ((Int.toNat b) - (Int.toNat c)) (a.length - (Int.toNat c))) (II (ja) rfl rfl rfl rfl e8 e8 e8) (nt (Gp (sr (Mz rfl (Mz rfl (Kz (.bool (decide (c=b))) (nt ?_))))))))))))))
 by_cases j:c=b
 refine jT (dT j) (sr (Mz rfl (An rfl (rt (tR (rs ?_))))))
 have r:=H.pf []
 obtain rfl:=zj hr zq1
 exact⟨g,d,rfl,r,e8⟩
 refine jF (dF j) (sk (sr (Mz rfl (Kz (vJ a.length) (An rfl (Gp ?_))))))
 have h:=H.drew
 refine Im [6] (λ W=> ∃ L',Own w D W ([row g a.length d (List.flatMap ay.cells a) 164 6]++L')) e9 e9 (GD GQ) ⟨_,h⟩ ?_
 revert h
 generalize World.drew w=t
 intro h
 refine qv 0 rfl rfl (qt (v:=vJ (Int.toNat c)) 1 rfl (λ _ _=>Gw (e:=c) (Gv rfl) e8) (qt (v:= .slice g (Int.toNat c) d) 2 rfl (λ _ _=>Hy (ja) rfl rfl e8) (qv 3 rfl rfl (qt (v:=vJ (Int.toNat b)) 4 rfl (λ _ _=>Gw (e:=b) (Gv rfl) e8) (qt (v:= .slice (eu g (Int.toNat b) 6 d) (a.length - (Int.toNat b)) (d - (Int.toNat b))) 5 rfl (λ _ _=>G6 (ja) rfl rfl e8) ?_)))))
 have F:List.length (List.take (Int.toNat c) a++List.drop (Int.toNat b) a)=Int.toNat c+(a.length - Int.toNat b):=by simp only [List.length_append,List.length_take,List.length_drop]; omega
 have n:Src Tryz.prog 6 112 (.slice (eu g (Int.toNat b) 6 d) (a.length - (Int.toNat b)) (d - (Int.toNat b))) (a.length - Int.toNat b) (List.flatMap ay.cells (List.drop (Int.toNat b) a)) t:=eT Tryz.underlying112 (HY (lo:=Int.toNat b) ay.len (h.rds (i:=0) rfl) e8 e8 f5) (cB ay.one (List.drop (Int.toNat b) a))
 obtain⟨G,u,x⟩:=h.rowFull
 refine qd 6 rfl (Ih (k:=Int.toNat c) (m:=a.length - Int.toNat b) (ja) x rfl rfl n e8 (s:=List.length (List.take (Int.toNat c) a++List.drop (Int.toNat b) a)) e8 ?_)
 intro O o
 refine⟨.inl e9, ?_⟩
 refine Hf (v:= .slice g (List.length (List.take (Int.toNat c) a++List.drop (Int.toNat b) a)) d) 7 rfl e9 (λ _=>H8 rfl) (qn (Gs (sr (Mz rfl (Mz rfl (Kz (vI ((List.length (List.take (Int.toNat c) a++List.drop (Int.toNat b) a):Nat):Int)) (Mz rfl (fw (.slice (eu g (List.length (List.take (Int.toNat c) a++List.drop (Int.toNat b) a)) 6 d) (a.length - (List.length (List.take (Int.toNat c) a++List.drop (Int.toNat b) a))) (d - (List.length (List.take (Int.toNat c) a++List.drop (Int.toNat b) a)))) (Yl.cut (ja) rfl rfl rfl e8 e8) ?_))))))))
 refine Hz (IA (z0:=(.agg #[.int .u64 0, .slice none 0 0, .bool false, .string ⟨List.toArray []⟩, .string ⟨List.toArray []⟩, .bool false])) (lo:=List.length (List.take (Int.toNat c) a++List.drop (Int.toNat b) a)) (nd:=(a.length - (List.length (List.take (Int.toNat c) a++List.drop (Int.toNat b) a)))) e9 rfl (ja) o rfl (λ _=>fM ((o.rds (i:=0) rfl).isSome e8) e8) e8 ?_)
 intro y I J z
 refine ns (Mz rfl (An rfl (rt (rs ?_))))
 have A:Own w D y [row g (List.length (List.take (Int.toNat c) a++List.drop (Int.toNat b) a)) d (List.flatMap ay.cells (List.take (Int.toNat c) a++List.drop (Int.toNat b) a)) 164 6]:=z.rowPart e8 (rG ay.len e8 e8 rfl)
 have B:=A.pf []
 obtain rfl:=zj hr zq1
 exact⟨g,d,rfl,B,e8⟩
def kP (a:List ay) (b:Int) (c:ay):(List ay):=
 if((Int.toNat b:Nat):Int)=(a.length:Int) then(a++ [c]) else(List.take (Int.toNat b) a++(c::List.drop (Int.toNat b) a))
theorem o5 (w D g F d b a E) (c:ay) (z) (H:Own w D w [row g F d (List.flatMap ay.cells b) 164 6,lG E 1 (List.flatMap ay.cells ([c])) 164 6]) (G:F=b.length) (ai:b.length *80<=211106232532992) (aj:0<=a/\a<=((b.length:Nat):Int)/\(b.length+1) *80<=211106232532992) (hr:kP b a c=z):
    Calls Tryz.prog 123 #[.slice g F d,vI a, .slice E 1 1] w (dG λ v w'=> ∃ Z b0,v= .slice Z z.length b0/\Own w D w' [row Z z.length b0 (List.flatMap ay.cells z) 164 6]/\(z.length=b.length+1)):=by
 unfold kP at hr
 subst G
 have ak:=H.rowC (i:=0) rfl
 refine cb Tryz.func123 ?_
 refine sr (Ar rfl (Mz rfl (fw (vJ (Int.toNat a)) (Gw (e:=a) (Gv rfl) e8) (fw (.slice (eu g (Int.toNat a) 6 d) (b.length - (Int.toNat a)) (d - (Int.toNat a))) (G6 (ja) rfl rfl e8) (ns (Mz rfl (Kz (vI 1) (An rfl (Gp (sr (Mz rfl (Kz (.bool false) (nt (jf (sk (sr (Mz rfl (Kz (vJ b.length) (An rfl (Gp (sr (fw (vJ (Int.toNat a)) (Gw (e:=a) (Gv rfl) e8) ?_))))))))))))))))))))))
 refine Mz rfl (Kz (.bool (decide (((Int.toNat a:Nat):Int)=(b.length:Int)))) (nt ?_))
 by_cases j:((Int.toNat a:Nat):Int)=(b.length:Int)
 refine jT (dT j) (sr (Mz rfl (Mz rfl ?_)))
 refine WL.do rfl (GZ (k:=b.length) (m:=1) (ja) H rfl rfl (eT Tryz.underlying112 (dJ H (i:=1) rfl kS) (cB ay.one ([c]))) rfl e8 (s:=List.length (b++ [c])) f4 (List.flatMap_append).symm ?_)
 intro I J au K
 have ae:List.length (b++ [c])=b.length+1:=by simp only [List.length_append,List.length_cons,List.length_nil]
 refine An rfl (rt (tR (rs ?_)))
 have M:=K.pk [0]
 obtain rfl:=zj hr zq1
 exact⟨I,J,rfl,M,e8⟩
 refine jF (dF j) (sk (Gp (sr (Mz rfl (Mz rfl (fw (vJ (b.length+1)) (Gw (e:=IntKind.i64.wrap ((b.length:Int)+1)) yk f1) (Mz rfl (Kz (vJ d) (Kz (.bool (decide (((b.length+1:Nat):Int) > (d:Int)))) (nt ?_))))))))))
 by_cases A:((b.length+1:Nat):Int) > (d:Int)
 refine jT (dT A) (sr (Mz rfl (fw (vJ (Int.toNat a)) (Gw (e:=a) (Gv rfl) e8) (fw (.slice g (Int.toNat a) d) (Hy (ja) rfl rfl e8) (Mz rfl (Mz rfl (fw (vJ (b.length+1)) (Gw (e:=IntKind.i64.wrap ((b.length:Int)+1)) yk f1) (fw (vJ (Int.toNat a)) (Gw (e:=a) (Gv rfl) e8) (fw (vJ ((b.length+1) - (Int.toNat a))) (Gw (e:=IntKind.i64.wrap (((b.length+1:Nat):Int) - ((Int.toNat a:Nat):Int))) yk f1) ?_)))))))))
 have af:List.length (List.take (Int.toNat a) b++(c::List.drop (Int.toNat a) b))=b.length+1:=by simp only [List.length_append,List.length_take,List.length_cons,List.length_drop]; omega
 refine WL.do rfl (Ig (k:=Int.toNat a) (m:=(b.length+1) - (Int.toNat a)) (ja) Tryz.underlying3 H rfl rfl e8 e8 e8 rfl e8 (s:=List.length (List.take (Int.toNat a) b++(c::List.drop (Int.toNat a) b))) e8 ?_)
 intro n h ag av B o
 have N:=o.rowLe (i:=0) rfl
 refine Ar rfl (Mz rfl (fw (vJ (Int.toNat a)) (Gw (e:=a) (Gv rfl) e8) (fw (.slice (eu n (Int.toNat a) 6 h) ((List.length (List.take (Int.toNat a) b++(c::List.drop (Int.toNat a) b))) - (Int.toNat a)) (h - (Int.toNat a))) (G6 (ja) rfl rfl e8) (Mz rfl ?_))))
 refine WL.do rfl (Hu (lo:=Int.toNat a) (k:=1) (ja) o rfl (λ _=>fM ((o.rds (i:=0) rfl).isSome e8) e8) e8 rfl (dJ o (i:=2) rfl kS) e8 (λ u hu=>cB ay.one _ u (List.mem_of_mem_take hu)) rfl ?_)
 intro ax O
 refine nt (Gp ?_)
 refine xX [8] (GD (GD GQ)) O ?_
 intro az p
 refine qv 0 rfl rfl (qt (v:=vJ (Int.toNat a)) 1 rfl (λ _ _=>Gw (e:=a) (Gv rfl) e8) (qv 2 rfl rfl (qt (v:=vJ (Int.toNat a+1)) 3 rfl (λ _ _=>Gw (e:=IntKind.i64.wrap (((Int.toNat a:Nat):Int)+1)) yk f1) (qt (v:= .slice (eu n (Int.toNat a+1) 6 h) ((List.length (List.take (Int.toNat a) b++(c::List.drop (Int.toNat a) b))) - (Int.toNat a+1)) (h - (Int.toNat a+1))) 4 rfl (λ _ _=>G6 (ja) rfl rfl e8) (qv 5 rfl rfl (qt (v:=vJ (Int.toNat a)) 6 rfl (λ _ _=>Gw (e:=a) (Gv rfl) e8) (qt (v:= .slice (eu g (Int.toNat a) 6 d) (b.length - (Int.toNat a)) (d - (Int.toNat a))) 7 rfl (λ _ _=>G6 (ja) rfl rfl e8) ?_)))))))
 refine qd 8 rfl (Hu (lo:=Int.toNat a+1) (k:=b.length - Int.toNat a) (ja) p rfl (λ _=>fM ((p.rds (i:=0) rfl).isSome e8) e8) e8 rfl (HY (lo:=Int.toNat a) ay.len (p.rds (i:=1) rfl) e8 e8 f5) e8 (λ u hu=>cB ay.one _ u (List.mem_of_mem_take hu)) rfl ?_)
 intro P Q
 refine⟨.inl e9, ?_⟩
 refine qn (Gs (sr (Mz rfl (An rfl (rt (tR (rs ?_)))))))
 have R:Own w D P [row n (List.length (List.take (Int.toNat a) b++(c::List.drop (Int.toNat a) b))) h (List.flatMap ay.cells (List.take (Int.toNat a) b++(c::List.drop (Int.toNat a) b))) 164 6,row g b.length d (List.flatMap ay.cells b) 164 6,lG E 1 (List.flatMap ay.cells ([c])) 164 6]:=Q.rowPart e8 (sN (l:=b) (k2:=b.length - Int.toNat a) ay.len e8 B rfl rfl e8)
 have S:=R.pk [0]
 obtain rfl:=zj hr zq1
 exact⟨n,h,rfl,S,e8⟩
 refine jF (dF A) (sk (sr ?_))
 have C:List.length (List.take (Int.toNat a) b++(c::List.drop (Int.toNat a) b))=b.length+1:=by simp only [List.length_append,List.length_take,List.length_cons,List.length_drop]; omega
 obtain⟨ah,r,T⟩:=H.rowFull
 refine Mz rfl (Mz rfl (Mz rfl (fw (vJ (b.length+1)) (Gw (e:=IntKind.i64.wrap ((b.length:Int)+1)) yk f1) (fw (.slice g (List.length (List.take (Int.toNat a) b++(c::List.drop (Int.toNat a) b))) d) (Yl.to (Hy (ja) rfl rfl e8) (congrArg (λ q=>Value.slice g q d) C.symm)) (An rfl (Gp (sr (Mz rfl (Mz rfl (fw (vJ (Int.toNat a)) (Gw (e:=a) (Gv rfl) e8) (Mz rfl (fw (vJ (Int.toNat a+1)) (Gw (e:=IntKind.i64.wrap (((Int.toNat a:Nat):Int)+1)) yk f1) (fw (.slice (eu g (Int.toNat a+1) 6 d) ((List.length (List.take (Int.toNat a) b++(c::List.drop (Int.toNat a) b))) - (Int.toNat a+1)) (d - (Int.toNat a+1))) (G6 (ja) rfl rfl e8) ?_)))))))))))))
 have t:=T.pb [0]
 refine fw (.bool false) (Ii (lo:=Int.toNat a+1) (run_callFunc_extern Tryz.func173 e9 e9 e9 (e:=Extern.SlicesOverlaps.overlaps #[112,112] #[4]) e9) Tryz.underlying112 Tryz.sizeOf164 t f5 e8 rfl (fM ((t.rds (i:=1) rfl).isSome e8) e8)) (Kz (.bool true) (nt (jt (Gp ?_))))
 refine oD [8] (GD (GD GQ)) t ?_
 intro aA U
 refine qv 0 rfl rfl (qt (v:=vJ (Int.toNat a)) 1 rfl (λ _ _=>Gw (e:=a) (Gv rfl) e8) (qv 2 rfl rfl (qt (v:=vJ (Int.toNat a+1)) 3 rfl (λ _ _=>Gw (e:=IntKind.i64.wrap (((Int.toNat a:Nat):Int)+1)) yk f1) (qt (v:= .slice (eu g (Int.toNat a+1) 6 d) ((List.length (List.take (Int.toNat a) b++(c::List.drop (Int.toNat a) b))) - (Int.toNat a+1)) (d - (Int.toNat a+1))) 4 rfl (λ _ _=>G6 (ja) rfl rfl e8) (qv 5 rfl rfl (qt (v:=vJ (Int.toNat a)) 6 rfl (λ _ _=>Gw (e:=a) (Gv rfl) e8) (qt (v:= .slice (eu g (Int.toNat a) 6 d) ((List.length (List.take (Int.toNat a) b++(c::List.drop (Int.toNat a) b))) - (Int.toNat a)) (d - (Int.toNat a))) 7 rfl (λ _ _=>G6 (ja) rfl rfl e8) ?_)))))))
 have x:=U.pb [0]
 refine qd 8 rfl (Hu (lo:=Int.toNat a+1) (k:=b.length - Int.toNat a) (ja) x rfl (λ _=>fM ((x.rds (i:=0) rfl).isSome e8) e8) e8 rfl (bM.cut (lo:=Int.toNat a) (hi:=List.length (List.take (Int.toNat a) b++(c::List.drop (Int.toNat a) b))) (x.rds (i:=0) rfl) e8 e8 e8) e8 (λ u hu=>cB ay.one _ u (by rw [sO ay.len e8 rfl e8] at hu; exact hu)) rfl ?_)
 intro aB y
 refine⟨.inl e9, ?_⟩
 refine qn (Gs (sr (Mz rfl (fw (vJ (Int.toNat a)) (Gw (e:=a) (Gv rfl) e8) (fw (.slice (eu g (Int.toNat a) 6 d) ((List.length (List.take (Int.toNat a) b++(c::List.drop (Int.toNat a) b))) - (Int.toNat a)) (d - (Int.toNat a))) (G6 (ja) rfl rfl e8) (Mz rfl ?_))))))
 refine WL.do rfl (Hu (lo:=Int.toNat a) (k:=1) (ja) y rfl (λ _=>fM ((y.rds (i:=0) rfl).isSome e8) e8) e8 rfl (dJ y (i:=1) rfl kS) e8 (λ u hu=>cB ay.one _ u (List.mem_of_mem_take hu)) rfl ?_)
 intro V W
 refine ns (Mz rfl (An rfl (rt (tR (rs ?_)))))
 have X:Own w D V [row g (List.length (List.take (Int.toNat a) b++(c::List.drop (Int.toNat a) b))) d (List.flatMap ay.cells (List.take (Int.toNat a) b++(c::List.drop (Int.toNat a) b))) 164 6,lG E 1 (List.flatMap ay.cells ([c])) 164 6]:=W.rowPart e8 (sP (l:=b) (m:=(List.length (List.take (Int.toNat a) b++(c::List.drop (Int.toNat a) b))) - Int.toNat a) (k2:=b.length - Int.toNat a) ay.len e8 (by rw [r]; exact Nat.le_mul_of_pos_left 6 e8) rfl rfl e8 e8)
 have Y:=X.pk [0]
 obtain rfl:=zj hr zq1
 exact⟨g,d,rfl,Y,e8⟩
end
open Int renaming toNat->E0
open List renaming Perm->M2,append_assoc->q1,drop->r7,flatMap->q0,flatMap_append->t2,length->q5,map->r8,map_append->M4,perm_append_comm->M3,take->t1,take_append_drop->s2
section
variable {α:Type} {w0 w:World} {D:Nat->Prop} {L:List HP} {f:α->List HP}
theorem Own.dropL {L1 L2:List HP} (H:Own w0 D w (L1++L2)):Own w0 D w L2:=H.to λ h hs=>by
  obtain⟨a,b,c,d,e,g,_⟩:=jR.app.1 hs
  exact d.mono g
theorem Own.sepDel {ds:List α} {i j:Nat} (h:i<=j) (H:Own w0 D w (sepL (q0 f ds)::L)):Own w0 D w (sepL (q0 f (t1 i ds++r7 j ds))::L):=by
  have e:ds=t1 i ds++(t1 (j - i) (r7 i ds)++r7 j ds):=by
    conv=>lhs; rw [<- s2 i ds]
    congr 1
    conv=>lhs; rw [<- s2 (j - i) (r7 i ds)]
    rw [List.drop_drop,show i+(j - i)=j by omega]
  rw [e,t2,t2] at H
  have a:=H.flat
  have p:((q0 f (t1 i ds)++(q0 f (t1 (j - i) (r7 i ds))++q0 f (r7 j ds)))++L).Perm (q0 f (t1 (j - i) (r7 i ds))++((q0 f (t1 i ds)++q0 f (r7 j ds))++L)):=by
    rw [<- q1, <- q1]
    refine M2.append_right L ?_
    rw [<- q1]
    exact M2.append_right _ M3
  have b:=(a.perm p).dropL
  rw [t2]
  exact b.pack
theorem Own.sepIns {ds:List α} {i:Nat} {y:α} (H:Own w0 D w (f y++(sepL (q0 f ds)::L))):Own w0 D w (sepL (q0 f (t1 i ds++(y::r7 i ds)))::L):=by
  have a:Own w0 D w (sepL (q0 f ds)::(f y++L)):=H.perm List.perm_middle
  have b:=a.flat
  have e:(q0 f ds++(f y++L)).Perm ((q0 f (t1 i ds)++(f y++q0 f (r7 i ds)))++L):=by
    conv=>lhs; rw [<- s2 i ds,t2]
    rw [<- q1]
    refine M2.append_right L ?_
    rw [q1]
    exact M2.append_left _ M3
  rw [t2,List.flatMap_cons]
  exact(b.perm e).pack
theorem nL {β:Type} {g:α->β} {ds:List α} {ls:List β} {i j:Nat} (h:r8 g ds=ls):r8 g (t1 i ds++r7 j ds)=t1 i ls++r7 j ls:=by rw [M4,List.map_take,List.map_drop,h]
theorem jA {β:Type} {g:α->β} {ds:List α} {ls:List β} {i:Nat} {y:α} {z:β} (h:r8 g ds=ls) (hy:g y=z):r8 g (t1 i ds++(y::r7 i ds))=t1 i ls++(z::r7 i ls):=by rw [M4,List.map_cons,List.map_take,List.map_drop,h,hy]
end
theorem yl {l:List aK} {i:Nat} {x:aK} (h:Hd l) (hx:q5 x.aC.ls<=1000000):Hd (t1 i l++(x::r7 i l)):=λ r hr=>by
  rcases List.mem_append.1 hr with a | a
  . exact h r (List.mem_of_mem_take a)
  . rcases List.mem_cons.1 a with b | b
    . rw [b]; exact hx
    . exact h r (List.mem_of_mem_drop b)
theorem DN (d:List ay) (i j:Int) (h:0<=i/\i<=j):kN d i j=t1 (E0 i) d++r7 (E0 j) d:=by
  unfold kN
  by_cases c:i=j
  . rw [if_pos c,c,s2]
  . rw [if_neg c]
theorem DR (d:List ay) (i:Int) (x:ay) (h:0<=i/\i<=(q5 d:Int)):kP d i x=t1 (E0 i) d++(x::r7 (E0 i) d):=by
  unfold kP
  by_cases c:((E0 i:Nat):Int)=(d.length:Int)
  . rw [if_pos c,List.take_of_length_le e8,List.drop_eq_nil_of_le e8]
  . rw [if_neg c]
theorem DT (w D A n c d l i j) (H:Own w D w [row A n c (q0 ay.cells d) 164 6,sepL (q0 GU d)]) (hn:n=q5 d) (hd:r8 ay.abs d=l) (hl:q5 d<=1000000) (hh:0<=i/\i<=j/\j<=(q5 d:Int)):
    Calls Tryz.prog 170 #[.slice A n c, .int .i64 i, .int .i64 j] w (dG λ v w'=> ∃ B b,v= .slice B (q5 (t1 (E0 i) l++r7 (E0 j) l)) b/\
      Own w D w' [row B (q5 (t1 (E0 i) l++r7 (E0 j) l)) b (q0 ay.cells (t1 (E0 i) d++r7 (E0 j) d)) 164 6,sepL (q0 GU (t1 (E0 i) d++r7 (E0 j) d))]):=by
  obtain⟨a,e,ro,bk,rr⟩:=G9 H
  refine(oZ w a A n c d i j _ e hn e8 hh (DN d i j ⟨hh.1,hh.2.1⟩)).mono ?_
  rintro _ w' ⟨v,rfl,B,b,rfl,HQ,_⟩
  rw [aW (nL (i:=E0 i) (j:=E0 j) hd)] at HQ ⊢
  have g:=bk _ _ HQ
  exact⟨_,rfl,B,b,rfl,((g.perm (M2.swap _ _ _)).sepDel e8).perm (M2.swap _ _ _)⟩
theorem Ac (w D A n c d i a) (y:ay) (l) (z:aK) (H:Own w D w [row A n c (q0 ay.cells d) 164 6,lG a 1 (q0 ay.cells [y]) 164 6,sepL (q0 GU d),row y.aC.A (q5 y.aC.ls) y.aC.c (q0 aD.cells y.aC.ls) 118 3]) (hn:n=q5 d) (hd:r8 ay.abs d=l) (hz:ay.abs y=z) (hl:q5 d<=1000000) (hh:0<=i/\i<=(q5 d:Int)):
    Calls Tryz.prog 123 #[.slice A n c, .int .i64 i, .slice a 1 1] w (dG λ v w'=> ∃ B b,v= .slice B (q5 (t1 (E0 i) l++(z::r7 (E0 i) l))) b/\
      Own w D w' [row B (q5 (t1 (E0 i) l++(z::r7 (E0 i) l))) b (q0 ay.cells (t1 (E0 i) d++(y::r7 (E0 i) d))) 164 6,sepL (q0 GU (t1 (E0 i) d++(y::r7 (E0 i) d)))]):=by
  obtain⟨e,g,ro,bk,rr⟩:=Ht H
  refine(o5 w e A n c d i a y _ g hn e8 ⟨hh.1,hh.2,e8⟩ (DR d i y hh)).mono ?_
  rintro _ w' ⟨v,rfl,B,b,rfl,HQ,_⟩
  rw [aW (jA (i:=E0 i) hd hz)] at HQ ⊢
  have h:=bk _ _ HQ
  refine⟨_,rfl,B,b,rfl, ?_⟩
  have j:Own w D w' (GU y++(sepL (q0 GU d):: [row B (q5 (t1 (E0 i) l++(z::r7 (E0 i) l))) b (q0 ay.cells (t1 (E0 i) d++(y::r7 (E0 i) d))) 164 6])):=
    h.perm (by
      refine(M3 (l₁:= [_]) (l₂:= [_,_])).trans ?_
      exact M3 (l₁:= [_]) (l₂:= [_]) |>.append_right [_])
  exact j.sepIns.perm (M2.swap _ _ _)
open IntKind renaming i64->v7
open List renaming getD->v1,length_append->m8,length_cons->q6,length_drop->m7,length_nil->H2,length_replicate->L4,length_set->J1,length_take->m6,mem_flatMap->M5,mem_of_getElem?->C1,set->J0,toArray->u3
open Ll renaming mk->D4
open Sv renaming mk->L3
open _root_.Go.Proofs.Tryz renaming isAgg112->L7,isAgg118->L8,isAgg32->C4,isAgg37->B5,isAgg4->F0,sizeOf118->L9,sizeOf164->L6,sizeOf37->B4,underlying35->M6,underlying97->H1
open WL renaming nil->v8
open Wp renaming exit->v9,loop->v4
section
open Go.RowKit
def jd (b:aZ) (c:Nat):aZ:=
 bnd (eG b c) λ a=>if a.2=true then aZ.mk (D4 (t1 (E0 a.1) b.ai.ls++r7 (E0 (a.1+1)) b.ai.ls)) else b
theorem oz (w D o) (d:aZ) (g f b G) (u:aZ) (H:Own w D w [blk o [.slice g d.ai.ls.length f] 114,row g d.ai.ls.length f (q0 ay.cells b) 164 6,sepL (q0 GU b)]) (c:r8 ay.abs b=d.ai.ls) (Y:d.ai.ls.length<=1000000) (hr:jd d G=u):
    Calls Tryz.prog 120 #[vP o 0,vU G] w (dG λ v w'=> ∃ l m h,v= .tuple #[]/\Own w D w' [blk o [.slice l u.ai.ls.length m] 114,row l u.ai.ls.length m (q0 ay.cells h) 164 6,sepL (q0 GU h)]/\(r8 ay.abs h=u.ai.ls)/\(u.ai.ls.length<=d.ai.ls.length)):=by
 unfold jd at hr
 have I:=aW c
 have J:=H.rowC (i:=1) rfl
 refine cb Tryz.func120 ?_
 refine sr (Mz rfl (Mz rfl ?_))
 have Q:=H.rowC (i:=1) rfl
 obtain⟨⟨a,k⟩,n⟩:∃ q:Int × Bool,eG d G=q:=⟨_,rfl⟩
 obtain⟨Z,x,R,y,p⟩:=G9 H
 refine cl Tryz.call114 (lD _ _ o d g f b G a k x c (p _ 0 _ rfl bQ) e8 (λ S T=>⟨p _ 1 _ rfl (bP (M5.2 ⟨S,T,b3⟩) bQ),dJ (φ:=λ _=>_) H (i:=2) rfl (bP (M5.2 ⟨S,T,b3⟩) dN)⟩) f9 n) ?_
 rintro _ aa ⟨rfl,z,r,s⟩
 have t:=y _ _ z
 replace r:0<=a/\a<=(d.ai.ls.length:Int):=r
 replace s:Bool.toNat k=0\/a < (d.ai.ls.length:Int):=s
 refine Mz rfl (Kz (vI a) (Kz (.bool k) (Az rfl (Ar rfl (Mn rfl ?_)))))
 rcases Kq (k) with j | j
 have h35t:Bool.toNat k=1:=by rw [j]; rfl
 refine jT j (Gq (Mz rfl (Mz rfl (Kz (vP o 0) (Kz (vP o 0) (Lz (.slice g d.ai.ls.length f) t 0 L7 (Mz rfl (Mz rfl (fw (vI (a+1)) (Gw (e:=v7.wrap (a+1)) yk i4) ?_)))))))))
 have K:=t.pb [0]
 obtain⟨af,A,U,B,V⟩:=Ht K
 refine cl Tryz.call170 (DT _ _ g d.ai.ls.length f b d.ai.ls a (a+1) A e8 c e8 e8) ?_
 rintro _ ag ⟨C,E,rfl,F⟩
 have L:=B _ _ F
 have W:q5 (t1 (E0 a) b++r7 (E0 (a+1)) b)=q5 (t1 (E0 a) d.ai.ls++r7 (E0 (a+1)) d.ai.ls):=by exact aW (nL c)
 have X:q5 (t1 (E0 a) d.ai.ls++r7 (E0 (a+1)) d.ai.ls)+((E0 (a+1)) - (E0 a))=d.ai.ls.length:=by simp only [m8,m6,m7]; omega
 refine Kz (vP o 0) (Kz (vP o 0) ?_)
 have M:=L.pf [2]
 refine bY [.slice C (q5 (t1 (E0 a) d.ai.ls++r7 (E0 (a+1)) d.ai.ls)) E] 0 M Tryz.sizeOf112 ?_
 intro ah N
 refine v8 (Hq (res0 rfl) ?_)
 have O:=N.pf []
 obtain rfl:=zj hr zq2
 exact⟨C,E,(t1 (E0 a) b++r7 (E0 (a+1)) b),rfl,O,(nL c),i9⟩
 have h35t:Bool.toNat k=0:=by rw [j]; rfl
 refine jF j (G7 (Hq (res0 rfl) ?_))
 have P:=t.pf []
 obtain rfl:=zj hr zq2
 exact⟨g,f,b,rfl,P,c,i9⟩
structure lJ where
 aU:Sv Nat
 dC:Sv Nat
def lJ.cells (x:lJ):List Value:= [.slice x.aU.A x.aU.ls.length x.aU.c, .slice x.dC.A x.dC.ls.length x.dC.c]
instance:Bk lJ:=⟨λ x _=>bk x.aU+(bk x.dC+(0))⟩
theorem lJ.len:∀ x,(lJ.cells x).length=2:=λ _=>rfl
theorem lJ.one:∀ x, ∀ u ∈ lJ.cells x,u.oneCell'=true:=λ x u hu=>by
 simp only [lJ.cells,List.mem_cons,List.not_mem_nil,or_false] at hu
 rcases hu with rfl | rfl <;> rfl
def J2 (w:World) (x:lJ):Prop:=(mZ w 1 8 (eN .u64) (λ n=>n<=18446744073709551615) x.aU)/\(mZ w 1 8 (eN .u64) (λ n=>n<=18446744073709551615) x.dC)
instance:Inhabited lJ:=⟨⟨default,default⟩⟩
structure eX where
 aU:Ll Nat
 dC:Ll Nat
instance:Inhabited eX:=⟨⟨default,default⟩⟩
def lJ.abs (x:lJ):eX:=⟨⟨x.aU.ls⟩,⟨x.dC.ls⟩⟩
def JW (x:lJ):List HP:= [row x.aU.A x.aU.ls.length x.aU.c (q0 (eN .u64) x.aU.ls) 32 1,row x.dC.A x.dC.ls.length x.dC.c (q0 (eN .u64) x.dC.ls) 32 1]
def dP (j:aZ) (k:Nat) (i:aD) (m:eX) (c:Int) (b:aK) (d:aK) (e:aK):Nat->List Nat->Nat->(List Nat)
  | 0,f,g=>f
  | h+1,f,g=>bnd (v1 (J0 (J0 (J0 j.ai.ls (E0 c) (aK.mk b.au (D4 (b.aC.ls++ [i])) b.bn b.bf)) (E0 c) (aK.mk d.au (D4 d.aC.ls) false d.bf)) (E0 c) (aK.mk e.au (D4 e.aC.ls) e.bn (aD.mk (aj.mk [] []) false))) g default) λ a=>if a.bn=true then if(a.au:Int) > (k:Int) then bnd (kF i.aB a.bf.aB) λ l=>if l.2=true then if i.eH=true then dP j k i m c b d e h (f++ [a.au]) (g+1) else if a.bf.eH=true then dP j k i m c b d e h (f++ [a.au]) (g+1) else dP j k i m c b d e h f (g+1) else dP j k i m c b d e h f (g+1) else dP j k i m c b d e h f (g+1) else dP j k i m c b d e h f (g+1)
def gP (f:eX) (e:List Nat):List Nat->List aK->(List aK)
  | [],a=>a
  | c::d,a=>bnd (jd (aZ.mk (D4 a)) c) λ b=>gP f e d b.ai.ls
def dQ (j:aZ) (k:Nat) (i:aD) (m:eX) (g:Int) (a:aK) (b:aK) (c:aK):Nat->List Nat->Nat->(List Nat)
  | 0,e,f=>e
  | h+1,e,f=>bnd (v1 (J0 (J0 (J0 (t1 (E0 g) j.ai.ls++((aK.mk k (D4 []) false (aD.mk (aj.mk [] []) false))::r7 (E0 g) j.ai.ls)) (E0 g) (aK.mk a.au (D4 (a.aC.ls++ [i])) a.bn a.bf)) (E0 g) (aK.mk b.au (D4 b.aC.ls) false b.bf)) (E0 g) (aK.mk c.au (D4 c.aC.ls) c.bn (aD.mk (aj.mk [] []) false))) f default) λ d=>if d.bn=true then if(d.au:Int) > (k:Int) then bnd (kF i.aB d.bf.aB) λ l=>if l.2=true then if i.eH=true then dQ j k i m g a b c h (e++ [d.au]) (f+1) else if d.bf.eH=true then dQ j k i m g a b c h (e++ [d.au]) (f+1) else dQ j k i m g a b c h e (f+1) else dQ j k i m g a b c h e (f+1) else dQ j k i m g a b c h e (f+1) else dQ j k i m g a b c h e (f+1)
def gQ (f:eX) (c:List Nat):List Nat->List aK->(List aK)
  | [],a=>a
  | d::e,a=>bnd (jd (aZ.mk (D4 a)) d) λ b=>gQ f c e b.ai.ls
def iT (g:aZ) (i:Nat) (j:aD) (k:eX):aZ × eX:=
 bnd (eG g i) λ a=>if a.2=true then bnd (v1 g.ai.ls (E0 a.1) default) λ c=>bnd (v1 (J0 g.ai.ls (E0 a.1) (aK.mk c.au (D4 (c.aC.ls++ [j])) c.bn c.bf)) (E0 a.1) default) λ e=>bnd (v1 (J0 (J0 g.ai.ls (E0 a.1) (aK.mk c.au (D4 (c.aC.ls++ [j])) c.bn c.bf)) (E0 a.1) (aK.mk e.au (D4 e.aC.ls) false e.bf)) (E0 a.1) default) λ h=>bnd (dP g i j k a.1 c e h g.ai.ls.length [] 0) λ sLrbtbbbL=>bnd (gP k sLrbtbbbL sLrbtbbbL (J0 (J0 (J0 g.ai.ls (E0 a.1) (aK.mk c.au (D4 (c.aC.ls++ [j])) c.bn c.bf)) (E0 a.1) (aK.mk e.au (D4 e.aC.ls) false e.bf)) (E0 a.1) (aK.mk h.au (D4 h.aC.ls) h.bn (aD.mk (aj.mk [] []) false)))) λ sLrbtbbbLaL=>(aZ.mk (D4 sLrbtbbbLaL),eX.mk (D4 k.aU.ls) (D4 (k.dC.ls++sLrbtbbbL))) else bnd (v1 (t1 (E0 a.1) g.ai.ls++((aK.mk i (D4 []) false (aD.mk (aj.mk [] []) false))::r7 (E0 a.1) g.ai.ls)) (E0 a.1) default) λ b=>bnd (v1 (J0 (t1 (E0 a.1) g.ai.ls++((aK.mk i (D4 []) false (aD.mk (aj.mk [] []) false))::r7 (E0 a.1) g.ai.ls)) (E0 a.1) (aK.mk b.au (D4 (b.aC.ls++ [j])) b.bn b.bf)) (E0 a.1) default) λ d=>bnd (v1 (J0 (J0 (t1 (E0 a.1) g.ai.ls++((aK.mk i (D4 []) false (aD.mk (aj.mk [] []) false))::r7 (E0 a.1) g.ai.ls)) (E0 a.1) (aK.mk b.au (D4 (b.aC.ls++ [j])) b.bn b.bf)) (E0 a.1) (aK.mk d.au (D4 d.aC.ls) false d.bf)) (E0 a.1) default) λ f=>bnd (dQ g i j k a.1 b d f (q5 (t1 (E0 a.1) g.ai.ls++((aK.mk i (D4 []) false (aD.mk (aj.mk [] []) false))::r7 (E0 a.1) g.ai.ls))) [] 0) λ sLrbfbbbL=>bnd (gQ k sLrbfbbbL sLrbfbbbL (J0 (J0 (J0 (t1 (E0 a.1) g.ai.ls++((aK.mk i (D4 []) false (aD.mk (aj.mk [] []) false))::r7 (E0 a.1) g.ai.ls)) (E0 a.1) (aK.mk b.au (D4 (b.aC.ls++ [j])) b.bn b.bf)) (E0 a.1) (aK.mk d.au (D4 d.aC.ls) false d.bf)) (E0 a.1) (aK.mk f.au (D4 f.aC.ls) f.bn (aD.mk (aj.mk [] []) false)))) λ sLrbfbbbLaL=>(aZ.mk (D4 sLrbfbbbLaL),eX.mk (D4 k.aU.ls) (D4 (k.dC.ls++sLrbfbbbL)))
theorem qJ (w D g0) (j:aZ) (E T p B) (C:aD) (g3) (K:eX) (N O P Q) (r0:aZ) (r1:eX) (H:Own w D w [blk g0 [.slice E j.ai.ls.length T] 114,row E j.ai.ls.length T (q0 ay.cells p) 164 6,sepL (q0 GU p),blk g3 [.slice N K.aU.ls.length O, .slice P K.dC.ls.length Q] 157,row N K.aU.ls.length O (q0 (eN .u64) K.aU.ls) 32 1,row P K.dC.ls.length Q (q0 (eN .u64) K.dC.ls) 32 1]) (M:r8 ay.abs p=j.ai.ls) (qO:j.ai.ls.length<=999999) (fq:Hd j.ai.ls) (qP:K.dC.ls.length<=10000000000000) (hr:iT j B C K=(r0,r1)):
    Calls Tryz.prog 72 #[vP g0 0,vU B, .agg (aD.cells C).toArray,vP g3 0] w (dG λ v w'=> ∃ dh di bO dm dn dw dx,v= .tuple #[]/\Own w D w' [blk g0 [.slice dh r0.ai.ls.length di] 114,row dh r0.ai.ls.length di (q0 ay.cells bO) 164 6,sepL (q0 GU bO),blk g3 [.slice dm r1.aU.ls.length dn, .slice dw r1.dC.ls.length dx] 157,row dm r1.aU.ls.length dn (q0 (eN .u64) r1.aU.ls) 32 1,row dw r1.dC.ls.length dx (q0 (eN .u64) r1.dC.ls) 32 1]/\(r8 ay.abs bO=r0.ai.ls)):=by
 unfold iT at hr
 have mr:=aW M
 have mD:=H.rowC (i:=1) rfl
 have mE:=H.rowC (i:=4) rfl
 have mF:=H.rowC (i:=5) rfl
 refine cb Tryz.func72 ?_
 refine sr ?_
 refine bW (aD.cells C) 118 H ?_
 intro fu qQ mG
 refine ns (Mz rfl (Mz rfl ?_))
 refine WL.do rfl (GV Tryz.call74 rfl ?_ (λ _ _ k=>k))
 refine cb Tryz.func74 ?_
 refine sr (Ar rfl (Mz rfl (Mz rfl ?_)))
 have gL:=mG.pf [1]
 have oZ:=gL.rowC (i:=2) rfl
 obtain⟨⟨a,bR⟩,dz⟩:∃ q:Int × Bool,eG j B=q:=⟨_,rfl⟩
 obtain⟨qR,iW,o5,iX,fA⟩:=G9 gL
 refine cl Tryz.call114 (lD _ _ g0 j E T p B a bR iW M (fA _ 1 _ rfl bQ) e8 (λ x9 h9=>⟨fA _ 2 _ rfl (bP (M5.2 ⟨x9,h9,b3⟩) bQ),dJ (φ:=λ _=>_) gL (i:=3) rfl (bP (M5.2 ⟨x9,h9,b3⟩) dN)⟩) f9 dz) ?_
 rintro _ qU ⟨rfl,iY,fB,fD⟩
 have bT:=iX _ _ iY
 replace fB:0<=a/\a<=(j.ai.ls.length:Int):=fB
 replace fD:Bool.toNat bR=0\/a < (j.ai.ls.length:Int):=fD
 refine Mz rfl (Kz (vI a) (Kz (.bool bR) (Az rfl (An rfl (Gp (sr (Mz rfl (Kz (.bool (!bR)) (nt ?_)))))))))
 rcases Kq (bR) with bU | bU
 have h39t:Bool.toNat bR=1:=by rw [bU]; rfl
 refine jF (cn bU) (sk (sr (Mz rfl (Kz (vP g0 0) (Kz (vP g0 0) (Lz (.slice E j.ai.ls.length T) bT 0 L7 (fw (vJ (E0 a)) (Gw (e:=a) (Gv rfl) e8) ?_)))))))
 obtain⟨d,aP⟩:=dI (ls:=p) (i:=E0 a) ay.len f5 (bT.rds (i:=2) rfl) f2
 have fE:=fO M aP
 have o8:d.aC.ls.length<=d.aC.c/\d.aC.ls.length<=9223372036854775807:=dJ bT (i:=3) rfl (φ:=λ _=>_) (bP (M5.2 ⟨d,C1 aP,b3⟩) dN)
 have o9:d.aC.ls.length<=1000000:=by have q9:Hd j.ai.ls:=(by first | exact fq | exact yl fq (Km _)); exact q9 _ (C1 fE)
 refine fw (.pointer (some ⟨ab E,ao E+(E0 a) *6,none⟩)) (GI (ja) rfl rfl ((bT.rds (i:=2) rfl).addr (i:=E0 a) e8) e8) (An rfl (rt (rs (An rfl (Gp ?_)))))
 refine l5 7 [7,10] (GD GQ) bT ?_
 intro qV mI
 refine Hf (v:= .pointer (some ⟨ab E,ao E+(E0 a) *6,none⟩)) 0 rfl e9 (λ _=>Gv rfl) (qv 1 rfl rfl (qk (.pointer (some ⟨ab E,ao E+(E0 a) *6,none⟩)) 2 rfl (qk (.pointer (some ⟨ab E,ao E+(E0 a) *6+1,none⟩)) 3 rfl (qt (v:= .slice d.aC.A d.aC.ls.length d.aC.c) 4 rfl (λ _ ⟨_,H9⟩=>GH rfl (bS.one Tryz.isAgg97 (((H9.rds (i:=2) rfl).elem ay.len aP f5).at_ (k:=1) rfl))) (qt (v:= .agg (aD.cells C).toArray) 5 rfl (λ _ ⟨_,H9⟩=>GH rfl (GJ (cs:=(aD.cells C)) L8 L9 ((H9.cls (i:=1) rfl).lit (k:=0) (m:=3) rfl))) ?_)))))
 refine qd 6 rfl (Hw (cs:=(aD.cells C)) (t:=118) (sz:=3) (m:=1) mI rfl rfl (λ _=>by kernel_rfl) rfl f5 ?_)
 intro mJ mK gN
 replace gN:=Ha (y:=row mJ 1 1 (q0 aD.cells ([C])) 118 3) rfl gN
 have iZ:=gN.pb [0]
 refine⟨.inr ⟨_,iZ⟩, ?_⟩
 have mM:=iZ.pf [3]
 have gU:Own w D mK (row d.aC.A d.aC.ls.length d.aC.c (q0 aD.cells d.aC.ls) 118 3::sepL (q0 GU (t1 (E0 a) p)++q0 GU (r7 (E0 a+1) p))::_):=IC (f:=GU) (i:=E0 a) aP mM
 have pg:=gU.rowC (i:=0) rfl
 refine qd 7 rfl (GZ (k:=d.aC.ls.length) (m:=1) (uk) gU rfl rfl (eT H1 (gU.rds (i:=8) rfl) (cB aD.one ([C]))) rfl e8 (s:=q5 (d.aC.ls++ [C])) f4 (t2).symm ?_)
 intro av ax mO mP
 have pq:q5 (d.aC.ls++ [C])=d.aC.ls.length+1:=by simp only [m8,q6,H2]
 refine⟨.inl e9, ?_⟩
 refine Hf (v:= .pointer (some ⟨ab E,ao E+(E0 a) *6,none⟩)) 8 rfl e9 (λ _=>yk) (Hf (v:= .pointer (some ⟨ab E,ao E+(E0 a) *6+1,none⟩)) 9 rfl e9 (λ _=>yk) ?_)
 have mQ:Own w D mO (sepL (q0 GU (J0 p (E0 a) (ay.mk d.au (L3 av ax (d.aC.ls++ [C])) d.bn d.bf)))::_):=IU (f:=GU) (y:=(ay.mk d.au (L3 av ax (d.aC.ls++ [C])) d.bn d.bf)) aP mP
 have mR:=mQ.pf [3]
 refine qe 10 rfl (Do.storeRow (vs:= [.slice av (q5 (d.aC.ls++ [C])) ax]) (o:=(E0 a) *6+1) (q:=ao E+(E0 a) *6+1) mR rfl e8 rfl Tryz.sizeOf97 rfl rfl (Kk rfl) (jg ay.len aP (Kk rfl)) (jU (y:=(ay.mk d.au (L3 av ax (d.aC.ls++ [C])) d.bn d.bf)) ay.len rfl (Kk rfl) aP) ?_)
 intro qW mU
 have pu:q5 (J0 p (E0 a) (ay.mk d.au (L3 av ax (d.aC.ls++ [C])) d.bn d.bf))=q5 (J0 j.ai.ls (E0 a) (aK.mk d.au (D4 (d.aC.ls++ [C])) d.bn d.bf)):=aW (d9 M rfl)
 have pz:q5 (J0 j.ai.ls (E0 a) (aK.mk d.au (D4 (d.aC.ls++ [C])) d.bn d.bf))=j.ai.ls.length:=J1
 refine⟨.inl e9, ?_⟩
 refine qn (Gs (Gp ?_))
 have gV:=mU.px [] [7] []
 refine Gq (Mz rfl (Mz rfl (Kz (.agg #[.string ⟨u3 []⟩, .string ⟨u3 []⟩, .bool false]) (Kz (.pointer (some ⟨ab E,ao E+(E0 a) *6,none⟩)) (Kz (.pointer (some ⟨ab E,ao E+(E0 a) *6+2,none⟩)) ?_)))))
 obtain⟨l,bB⟩:=dI (ls:=(J0 p (E0 a) (ay.mk d.au (L3 av ax (d.aC.ls++ [C])) d.bn d.bf))) (i:=E0 a) ay.len f5 (gV.rds (i:=0) rfl) f2
 have jb:=fO (d9 M rfl) bB
 have pE:l.aC.ls.length<=l.aC.c/\l.aC.ls.length<=9223372036854775807:=dJ gV (i:=1) rfl (φ:=λ _=>_) (bP (M5.2 ⟨l,C1 bB,b3⟩) dN)
 refine Hz (Do.storeRow (vs:= [.bool false]) (o:=(E0 a) *6+2) (q:=ao E+(E0 a) *6+2) gV rfl e8 rfl Tryz.sizeOf4 rfl rfl (Kk rfl) (jg ay.len bB (Kk rfl)) (jU (y:=(ay.mk l.au l.aC false l.bf)) ay.len rfl (Kk rfl) bB) ?_)
 intro mV mW
 have gW:Own w D mV [row E j.ai.ls.length T (q0 ay.cells (J0 (J0 p (E0 a) (ay.mk d.au (L3 av ax (d.aC.ls++ [C])) d.bn d.bf)) (E0 a) (ay.mk l.au l.aC false l.bf))) 164 6,sepL (q0 GU (J0 (J0 p (E0 a) (ay.mk d.au (L3 av ax (d.aC.ls++ [C])) d.bn d.bf)) (E0 a) (ay.mk l.au l.aC false l.bf))),blk g0 [.slice E j.ai.ls.length T] 114,blk fu (aD.cells C) 118,blk g3 [.slice N K.aU.ls.length O, .slice P K.dC.ls.length Q] 157,row N K.aU.ls.length O (q0 (eN .u64) K.aU.ls) 32 1,row P K.dC.ls.length Q (q0 (eN .u64) K.dC.ls) 32 1]:=by rw [lK (f:=GU) (y:=(ay.mk l.au l.aC false l.bf)) bB rfl]; exact mW
 have pF:q5 (J0 (J0 p (E0 a) (ay.mk d.au (L3 av ax (d.aC.ls++ [C])) d.bn d.bf)) (E0 a) (ay.mk l.au l.aC false l.bf))=q5 (J0 (J0 j.ai.ls (E0 a) (aK.mk d.au (D4 (d.aC.ls++ [C])) d.bn d.bf)) (E0 a) (aK.mk l.au (D4 l.aC.ls) false l.bf)):=aW (d9 (d9 M rfl) rfl)
 have pG:q5 (J0 (J0 j.ai.ls (E0 a) (aK.mk d.au (D4 (d.aC.ls++ [C])) d.bn d.bf)) (E0 a) (aK.mk l.au (D4 l.aC.ls) false l.bf))=q5 (J0 j.ai.ls (E0 a) (aK.mk d.au (D4 (d.aC.ls++ [C])) d.bn d.bf)):=J1
 refine Kz (.pointer (some ⟨ab E,ao E+(E0 a) *6,none⟩)) (Kz (.pointer (some ⟨ab E,ao E+(E0 a) *6+3,none⟩)) ?_)
 obtain⟨x,bC⟩:=dI (ls:=(J0 (J0 p (E0 a) (ay.mk d.au (L3 av ax (d.aC.ls++ [C])) d.bn d.bf)) (E0 a) (ay.mk l.au l.aC false l.bf))) (i:=E0 a) ay.len f5 (gW.rds (i:=0) rfl) f2
 have jc:=fO (d9 (d9 M rfl) rfl) bC
 have pI:x.aC.ls.length<=x.aC.c/\x.aC.ls.length<=9223372036854775807:=dJ gW (i:=1) rfl (φ:=λ _=>_) (bP (M5.2 ⟨x,C1 bC,b3⟩) dN)
 refine Hz (Do.storeRow (vs:= [.string ⟨u3 []⟩, .string ⟨u3 []⟩, .bool false]) (o:=(E0 a) *6+3) (q:=ao E+(E0 a) *6+3) gW rfl e8 rfl L9 rfl rfl (Kk rfl) (jg ay.len bC (Kk rfl)) (jU (y:=(ay.mk x.au x.aC x.bn (aD.mk (aj.mk [] []) false))) ay.len rfl (Kk rfl) bC) ?_)
 intro mX mY
 have je:Own w D mX [row E j.ai.ls.length T (q0 ay.cells (J0 (J0 (J0 p (E0 a) (ay.mk d.au (L3 av ax (d.aC.ls++ [C])) d.bn d.bf)) (E0 a) (ay.mk l.au l.aC false l.bf)) (E0 a) (ay.mk x.au x.aC x.bn (aD.mk (aj.mk [] []) false)))) 164 6,sepL (q0 GU (J0 (J0 (J0 p (E0 a) (ay.mk d.au (L3 av ax (d.aC.ls++ [C])) d.bn d.bf)) (E0 a) (ay.mk l.au l.aC false l.bf)) (E0 a) (ay.mk x.au x.aC x.bn (aD.mk (aj.mk [] []) false)))),blk g0 [.slice E j.ai.ls.length T] 114,blk fu (aD.cells C) 118,blk g3 [.slice N K.aU.ls.length O, .slice P K.dC.ls.length Q] 157,row N K.aU.ls.length O (q0 (eN .u64) K.aU.ls) 32 1,row P K.dC.ls.length Q (q0 (eN .u64) K.dC.ls) 32 1]:=by rw [lK (f:=GU) (y:=(ay.mk x.au x.aC x.bn (aD.mk (aj.mk [] []) false))) bC rfl]; exact mY
 have pJ:q5 (J0 (J0 (J0 p (E0 a) (ay.mk d.au (L3 av ax (d.aC.ls++ [C])) d.bn d.bf)) (E0 a) (ay.mk l.au l.aC false l.bf)) (E0 a) (ay.mk x.au x.aC x.bn (aD.mk (aj.mk [] []) false)))=q5 (J0 (J0 (J0 j.ai.ls (E0 a) (aK.mk d.au (D4 (d.aC.ls++ [C])) d.bn d.bf)) (E0 a) (aK.mk l.au (D4 l.aC.ls) false l.bf)) (E0 a) (aK.mk x.au (D4 x.aC.ls) x.bn (aD.mk (aj.mk [] []) false))):=aW (d9 (d9 (d9 M rfl) rfl) rfl)
 have pK:q5 (J0 (J0 (J0 j.ai.ls (E0 a) (aK.mk d.au (D4 (d.aC.ls++ [C])) d.bn d.bf)) (E0 a) (aK.mk l.au (D4 l.aC.ls) false l.bf)) (E0 a) (aK.mk x.au (D4 x.aC.ls) x.bn (aD.mk (aj.mk [] []) false)))=q5 (J0 (J0 j.ai.ls (E0 a) (aK.mk d.au (D4 (d.aC.ls++ [C])) d.bn d.bf)) (E0 a) (aK.mk l.au (D4 l.aC.ls) false l.bf)):=J1
 refine ns (Mz rfl (La (aD.cells C) je 3 L8 L9 ?_))
 refine WL.do rfl (GV Tryz.call118 rfl ?_ (λ _ _ k=>k))
 refine cb Tryz.func118 ?_
 refine sr ?_
 refine bW [vU B] 32 je ?_
 intro dA qX mZ
 refine bW (aD.cells C) 118 mZ ?_
 intro bV ng ni
 refine Ar rfl (Kz (.func (.func 169) #[] #[vP bV 0,vP dA 0]) (An rfl (rt (rs (An rfl (Gp ?_))))))
 have jh:=ni.px [] [5] []
 refine Gq (An rfl (Gp (sr (Mz rfl (Kz (vP g0 0) (Kz (vP g0 0) (Lz (.slice E j.ai.ls.length T) jh 4 L7 (Kz (vJ j.ai.ls.length) (Mn rfl (bo ?_))))))))))
 have nk:Own w D ng (row none 0 0 (q0 (eN .u64) []) 32 1::_):=jh.free (bX 32 1)
 have nu:=nk.pb [0]
 obtain⟨ji,aA⟩:=vk λ aG (aM:Nat) F (L:Nat) w'=>Own w D w' [blk bV (aD.cells C) 118,blk dA [vU B] 32,row E j.ai.ls.length T (q0 ay.cells (J0 (J0 (J0 p (E0 a) (ay.mk d.au (L3 av ax (d.aC.ls++ [C])) d.bn d.bf)) (E0 a) (ay.mk l.au l.aC false l.bf)) (E0 a) (ay.mk x.au x.aC x.bn (aD.mk (aj.mk [] []) false)))) 164 6,sepL (q0 GU (J0 (J0 (J0 p (E0 a) (ay.mk d.au (L3 av ax (d.aC.ls++ [C])) d.bn d.bf)) (E0 a) (ay.mk l.au l.aC false l.bf)) (E0 a) (ay.mk x.au x.aC x.bn (aD.mk (aj.mk [] []) false)))),blk g0 [.slice E j.ai.ls.length T] 114,blk g3 [.slice N K.aU.ls.length O, .slice P K.dC.ls.length Q] 157,row N K.aU.ls.length O (q0 (eN .u64) K.aU.ls) 32 1,row P K.dC.ls.length Q (q0 (eN .u64) K.dC.ls) 32 1,row aG F.length aM (q0 (eN .u64) F) 32 1]/\L<=j.ai.ls.length/\F.length<=L/\dP j B C K a (ay.abs d) (ay.abs l) (ay.abs x) j.ai.ls.length [] 0=dP j B C K a (ay.abs d) (ay.abs l) (ay.abs x) (j.ai.ls.length - L) F L
 refine v4 (λ i:(Option Addr) × Nat × (List Nat) × Nat=> [(10, .slice i.1 i.2.2.1.length i.2.1),(43,vJ i.2.2.2),(42,vJ j.ai.ls.length),(41, .slice E j.ai.ls.length T),(9, .func (.func 169) #[] #[vP bV 0,vP dA 0]),(0,vP g0 0),(1,vU B),(3,vP g3 0)]) ji (λ i=>j.ai.ls.length - i.2.2.2) (none,0, [],0) ⟨rfl,rfl,rfl,rfl,rfl,rfl,rfl,rfl,trivial⟩ (aA.2 ⟨nu,(show 0<=j.ai.ls.length/\0<=0/\dP j B C K a (ay.abs d) (ay.abs l) (ay.abs x) j.ai.ls.length [] 0=dP j B C K a (ay.abs d) (ay.abs l) (ay.abs x) (j.ai.ls.length - 0) [] 0 from ⟨e8,e8,rfl⟩)⟩) ?_
 rintro ⟨aG,aM,F,L⟩ ny gX
 show Wp _ _ _ [(10, .slice aG F.length aM),(43,vJ L),(42,vJ j.ai.ls.length),(41, .slice E j.ai.ls.length T),(9, .func (.func 169) #[] #[vP bV 0,vP dA 0]),(0,vP g0 0),(1,vU B),(3,vP g3 0)] _ _
 obtain⟨df,nz,nA,aH⟩:=aA.1 gX
 refine sr (Kz (.bool (decide ((L:Int) < (j.ai.ls.length:Int)))) (nt (Gp ?_)))
 by_cases fF:(L:Int) < (j.ai.ls.length:Int)
 refine jT (dT fF) (sk (Gp (bo (sr ?_))))
 obtain⟨G,bZ⟩:=dI (ls:=(J0 (J0 (J0 p (E0 a) (ay.mk d.au (L3 av ax (d.aC.ls++ [C])) d.bn d.bf)) (E0 a) (ay.mk l.au l.aC false l.bf)) (E0 a) (ay.mk x.au x.aC x.bn (aD.mk (aj.mk [] []) false)))) (i:=L) ay.len f5 (df.rds (i:=2) rfl) f2
 have aN:=fO (d9 (d9 (d9 M rfl) rfl) rfl) bZ
 have nC:G.aC.ls.length<=G.aC.c/\G.aC.ls.length<=9223372036854775807:=dJ df (i:=3) rfl (φ:=λ _=>_) (bP (M5.2 ⟨G,C1 bZ,b3⟩) dN)
 refine fw (.pointer (some ⟨ab E,ao E+L *6,none⟩)) (GI (ja) rfl rfl ((df.rds (i:=2) rfl).addr (i:=L) e8) e8) (fw (.agg (ay.cells G).toArray) (GH rfl (GJ (cs:=(ay.cells G)) Tryz.isAgg164 L6 ((df.rds (i:=2) rfl).elem ay.len bZ f5))) ?_)
 refine bW [.int .u64 0, .slice none 0 0, .bool false, .string ⟨u3 []⟩, .string ⟨u3 []⟩, .bool false] 164 df ?_
 intro bg pM jk
 refine bY (ay.cells G) 0 jk L6 ?_
 intro pO aQ
 refine ns (Kz (vP bg 2) (Lz (.bool G.bn) aQ 0 F0 (Mz rfl ?_)))
 rcases Kq (G.bn) with W | W
 refine Gz (vP bg 0) W (Gl (vU G.au) W aQ 0 C4 (Hm (v:=vU B) rfl rfl W rfl (Gv rfl) (Gz (.bool (decide ((G.au:Int) > (B:Int)))) W (fw (.bool (decide ((G.au:Int) > (B:Int)))) (Gu rfl W rfl) (Mz rfl ?_)))))
 by_cases R:(G.au:Int) > (B:Int)
 refine gw (.func (.func 169) #[] #[vP bV 0,vP dA 0]) (dT R) (Gv rfl) (Gz (vP bg 0) (dT R) (Gl (vU G.au) (dT R) aQ 0 C4 (Gz (vP bg 3) (dT R) (Ga (aD.cells G.bf) (dT R) aQ 0 L8 L9 ?_))))
 refine H7 rfl rfl (dT R) rfl (Hg Tryz.call169 rfl rfl ?_ (λ _ _ k=>k))
 refine cb Tryz.func169 ?_
 refine sr ?_
 refine bW (aD.cells G.bf) 118 aQ ?_
 intro fG pQ dB
 refine Ar rfl (Kz (vP bV 0) (La (aj.cells C.aB) dB 2 B5 B4 (Kz (vP fG 0) (La (aj.cells G.bf.aB) dB 0 B5 B4 ?_))))
 obtain⟨⟨dC,bD⟩,aR⟩:∃ q:aj × Bool,kF C.aB G.bf.aB=q:=⟨_,rfl⟩
 obtain⟨pR,gY,nD,gZ,nE⟩:=Gr dB
 refine cl Tryz.call152 (oU _ _ C.aB G.bf.aB dC bD gY aR) ?_
 rintro _ pU ⟨rfl,ib⟩
 have jl:=gZ _ _ ib
 refine Mz rfl (Kz (.agg (aj.cells dC).toArray) (Kz (.bool bD) ?_))
 refine bW [.string ⟨u3 []⟩, .string ⟨u3 []⟩] 37 jl ?_
 intro pV pW jm
 refine bY (aj.cells dC) 0 jm B4 ?_
 intro pX jo
 refine An rfl (Gp ?_)
 have aS:=jo.px [] [0] []
 refine Gq (Mz rfl (Lz (vU B) aS 3 C4 (fw (.bool (decide (¬ ((G.au:Int)=(B:Int))))) (GN (e:= !(decide ((G.au:Int)=(B:Int)))) yk decide_not.symm) (Mz rfl ?_))))
 have dD:(decide (¬ ((G.au:Int)=(B:Int))))=true:=(dT e8)
 refine Hm (v:= .bool bD) rfl rfl dD rfl (Gv rfl) (fw (.bool bD) (Gu rfl dD rfl) (Mz rfl ?_))
 rcases Kq (bD) with X | X
 refine Gz (vP bV 2) X (Gl (.bool C.eH) X aS 2 F0 (Hm (v:= .bool C.eH) rfl rfl X rfl (Gv rfl) ?_))
 rcases Kq (C.eH) with aC | aC
 refine Sz aC (Sz aC (Hm (v:= .bool true) rfl rfl X rfl (Gu rfl aC rfl) (fw (.bool true) (Gu rfl X rfl) (An rfl (rt (rs (fw (.bool true) (Gu rfl (dT R) rfl) (nt (jt ?_)))))))))
 have fH:=aS.px [] [0] []
 refine Gq (Mz rfl (Kz (vP bg 0) (Lz (vU G.au) fH 0 C4 ?_)))
 refine jE [vU G.au] 32 1 1 fH ?_
 intro jq pY dE
 replace dE:=Ha (y:=row jq 1 1 (q0 (eN .u64) ([G.au])) 32 1) rfl dE
 have fI:=dE.pf [10]
 refine WL.do rfl (GZ (k:=F.length) (m:=1) (iC) fI rfl rfl (eT M6 (fI.rds (i:=1) rfl) (cB lZ ([G.au]))) rfl e8 (s:=q5 (F++ [G.au])) f4 (t2).symm ?_)
 intro jr jv p8 jw
 have nG:q5 (F++ [G.au])=F.length+1:=by simp only [m8,q6,H2]
 refine Az rfl (v8 (bN (Gs ?_)))
 have jy:=jw.px [] [1,2] []
 refine Gq (fw (vJ (L+1)) (Gw (e:=v7.wrap ((L:Int)+1)) yk f1) (Mz rfl (v8 ?_)))
 have jB:=jy.pb [0]
 exact GL (jr,jv,(F++ [G.au]),L+1) ⟨rfl,rfl,rfl,rfl,rfl,rfl,rfl,rfl,trivial⟩ (aA.2 ⟨jB,e8,e8,et (aH) (et (congrArg (λ q=>dP j B C K a (ay.abs d) (ay.abs l) (ay.abs x) q F L) (oh (n:=j.ai.ls.length) (i:=L) e8)) (et (ae (bz aN)) (et (ip W) (et (ip R) (et (ae aR) (et (ip X) (ip aC)))))))⟩) (by show j.ai.ls.length - (L+1) < j.ai.ls.length - L; omega)
 refine Gz (vP fG 2) aC (Gl (.bool G.bf.eH) aC aS 0 F0 (Hm (v:= .bool G.bf.eH) rfl rfl X rfl (Gm rfl aC rfl) (fw (.bool G.bf.eH) (Gu rfl X rfl) (An rfl (rt (rs (fw (.bool G.bf.eH) (Gu rfl (dT R) rfl) (nt ?_))))))))
 rcases Kq (G.bf.eH) with bE | bE
 refine jT bE ?_
 have fJ:=aS.px [] [0] []
 refine Gq (Mz rfl (Kz (vP bg 0) (Lz (vU G.au) fJ 0 C4 ?_)))
 refine jE [vU G.au] 32 1 1 fJ ?_
 intro jC p9 dH
 replace dH:=Ha (y:=row jC 1 1 (q0 (eN .u64) ([G.au])) 32 1) rfl dH
 have fK:=dH.pf [10]
 refine WL.do rfl (GZ (k:=F.length) (m:=1) (iC) fK rfl rfl (eT M6 (fK.rds (i:=1) rfl) (cB lZ ([G.au]))) rfl e8 (s:=q5 (F++ [G.au])) f4 (t2).symm ?_)
 intro jD jG qa jH
 have nH:q5 (F++ [G.au])=F.length+1:=by simp only [m8,q6,H2]
 refine Az rfl (v8 (bN (Gs ?_)))
 have jI:=jH.px [] [1,2] []
 refine Gq (fw (vJ (L+1)) (Gw (e:=v7.wrap ((L:Int)+1)) yk f1) (Mz rfl (v8 ?_)))
 have jJ:=jI.pb [0]
 exact GL (jD,jG,(F++ [G.au]),L+1) ⟨rfl,rfl,rfl,rfl,rfl,rfl,rfl,rfl,trivial⟩ (aA.2 ⟨jJ,e8,e8,et (aH) (et (congrArg (λ q=>dP j B C K a (ay.abs d) (ay.abs l) (ay.abs x) q F L) (oh (n:=j.ai.ls.length) (i:=L) e8)) (et (ae (bz aN)) (et (ip W) (et (ip R) (et (ae aR) (et (ip X) (et (dY aC) (ip bE))))))))⟩) (by show j.ai.ls.length - (L+1) < j.ai.ls.length - L; omega)
 refine jF bE (G7 (bN (Gs ?_)))
 have jK:=aS.px [] [0,1] []
 refine Gq (fw (vJ (L+1)) (Gw (e:=v7.wrap ((L:Int)+1)) yk f1) (Mz rfl (v8 ?_)))
 have jL:=jK.pf []
 exact GL (aG,aM,F,L+1) ⟨rfl,rfl,rfl,rfl,rfl,rfl,rfl,rfl,trivial⟩ (aA.2 ⟨jL,e8,e8,et (aH) (et (congrArg (λ q=>dP j B C K a (ay.abs d) (ay.abs l) (ay.abs x) q F L) (oh (n:=j.ai.ls.length) (i:=L) e8)) (et (ae (bz aN)) (et (ip W) (et (ip R) (et (ae aR) (et (ip X) (et (dY aC) (dY bE))))))))⟩) (by show j.ai.ls.length - (L+1) < j.ai.ls.length - L; omega)
 refine Sz X (Sz X (Sz X (GA rfl rfl rfl (GA rfl rfl rfl (Sz X (fw (.bool false) (Gm rfl X rfl) (An rfl (rt (rs (fw (.bool false) (Gu rfl (dT R) rfl) (nt (jf (G7 (bN (Gs ?_)))))))))))))))
 have jM:=aS.px [] [0,1] []
 refine Gq (fw (vJ (L+1)) (Gw (e:=v7.wrap ((L:Int)+1)) yk f1) (Mz rfl (v8 ?_)))
 have jN:=jM.pf []
 exact GL (aG,aM,F,L+1) ⟨rfl,rfl,rfl,rfl,rfl,rfl,rfl,rfl,trivial⟩ (aA.2 ⟨jN,e8,e8,et (aH) (et (congrArg (λ q=>dP j B C K a (ay.abs d) (ay.abs l) (ay.abs x) q F L) (oh (n:=j.ai.ls.length) (i:=L) e8)) (et (ae (bz aN)) (et (ip W) (et (ip R) (et (ae aR) (dY X))))))⟩) (by show j.ai.ls.length - (L+1) < j.ai.ls.length - L; omega)
 refine Sz (dF R) (Sz (dF R) (Sz (dF R) (Sz (dF R) (Sz (dF R) (Sz (dF R) (fw (.bool false) (Gm rfl (dF R) rfl) (nt (jf (G7 (bN (Gs ?_)))))))))))
 have jO:=aQ.px [] [0] []
 refine Gq (fw (vJ (L+1)) (Gw (e:=v7.wrap ((L:Int)+1)) yk f1) (Mz rfl (v8 ?_)))
 have jP:=jO.pf []
 exact GL (aG,aM,F,L+1) ⟨rfl,rfl,rfl,rfl,rfl,rfl,rfl,rfl,trivial⟩ (aA.2 ⟨jP,e8,e8,et (aH) (et (congrArg (λ q=>dP j B C K a (ay.abs d) (ay.abs l) (ay.abs x) q F L) (oh (n:=j.ai.ls.length) (i:=L) e8)) (et (ae (bz aN)) (et (ip W) (iN R))))⟩) (by show j.ai.ls.length - (L+1) < j.ai.ls.length - L; omega)
 refine Sz W (Sz W (Sz W (Sz W (fw (.bool false) (Gm rfl W rfl) (Mz rfl (Sz rfl (Sz rfl (Sz rfl (Sz rfl (Sz rfl (Sz rfl (fw (.bool false) (Gm rfl rfl rfl) (nt (jf (G7 (bN (Gs ?_)))))))))))))))))
 have jQ:=aQ.px [] [0] []
 refine Gq (fw (vJ (L+1)) (Gw (e:=v7.wrap ((L:Int)+1)) yk f1) (Mz rfl (v8 ?_)))
 have jR:=jQ.pf []
 exact GL (aG,aM,F,L+1) ⟨rfl,rfl,rfl,rfl,rfl,rfl,rfl,rfl,trivial⟩ (aA.2 ⟨jR,e8,e8,et (aH) (et (congrArg (λ q=>dP j B C K a (ay.abs d) (ay.abs l) (ay.abs x) q F L) (oh (n:=j.ai.ls.length) (i:=L) e8)) (et (ae (bz aN)) (dY W)))⟩) (by show j.ai.ls.length - (L+1) < j.ai.ls.length - L; omega)
 refine jF (dF fF) (v9 (GK ?_))
 have ic:dP j B C K a (ay.abs d) (ay.abs l) (ay.abs x) j.ai.ls.length [] 0=F:=et (aH) (et (congrArg (λ q=>dP j B C K a (ay.abs d) (ay.abs l) (ay.abs x) q F L) (Bg (n:=j.ai.ls.length) (i:=L) e8)) rfl)
 refine GK (GR (Gs (Gp (Gp ?_))))
 have jS:=df.px [] [0,1] []
 refine Gq (Mz rfl (Kz (vJ F.length) (Mn rfl (bo ?_))))
 have ig:j.ai.ls.length=q5 (J0 (J0 (J0 j.ai.ls (E0 a) (aK.mk d.au (D4 (d.aC.ls++ [C])) d.bn d.bf)) (E0 a) (aK.mk l.au (D4 l.aC.ls) false l.bf)) (E0 a) (aK.mk x.au (D4 x.aC.ls) x.bn (aD.mk (aj.mk [] []) false))):=by first | omega | (simp only [J1]; done) | (simp only [J1,m8,q6,H2,m6,m7,L4]; omega)
 have jV:Own w D ny [row E (q5 (J0 (J0 (J0 j.ai.ls (E0 a) (aK.mk d.au (D4 (d.aC.ls++ [C])) d.bn d.bf)) (E0 a) (aK.mk l.au (D4 l.aC.ls) false l.bf)) (E0 a) (aK.mk x.au (D4 x.aC.ls) x.bn (aD.mk (aj.mk [] []) false)))) T (q0 ay.cells (J0 (J0 (J0 p (E0 a) (ay.mk d.au (L3 av ax (d.aC.ls++ [C])) d.bn d.bf)) (E0 a) (ay.mk l.au l.aC false l.bf)) (E0 a) (ay.mk x.au x.aC x.bn (aD.mk (aj.mk [] []) false)))) 164 6,sepL (q0 GU (J0 (J0 (J0 p (E0 a) (ay.mk d.au (L3 av ax (d.aC.ls++ [C])) d.bn d.bf)) (E0 a) (ay.mk l.au l.aC false l.bf)) (E0 a) (ay.mk x.au x.aC x.bn (aD.mk (aj.mk [] []) false)))),blk g0 [.slice E (q5 (J0 (J0 (J0 j.ai.ls (E0 a) (aK.mk d.au (D4 (d.aC.ls++ [C])) d.bn d.bf)) (E0 a) (aK.mk l.au (D4 l.aC.ls) false l.bf)) (E0 a) (aK.mk x.au (D4 x.aC.ls) x.bn (aD.mk (aj.mk [] []) false)))) T] 114,blk g3 [.slice N K.aU.ls.length O, .slice P K.dC.ls.length Q] 157,row N K.aU.ls.length O (q0 (eN .u64) K.aU.ls) 32 1,row P K.dC.ls.length Q (q0 (eN .u64) K.dC.ls) 32 1,row aG F.length aM (q0 (eN .u64) F) 32 1]:=by rw [<- ig]; exact jS
 have jW:=jV.pb [0,1]
 obtain⟨jX,cu⟩:=ES λ (aa:Nat) bF (bG:Nat) bi ah w'=>Own w D w' [blk g0 [.slice bF ah.length bG] 114,blk g3 [.slice N K.aU.ls.length O, .slice P K.dC.ls.length Q] 157,row N K.aU.ls.length O (q0 (eN .u64) K.aU.ls) 32 1,row P K.dC.ls.length Q (q0 (eN .u64) K.dC.ls) 32 1,row aG F.length aM (q0 (eN .u64) F) 32 1,row bF ah.length bG (q0 ay.cells bi) 164 6,sepL (q0 GU bi)]/\r8 ay.abs bi=ah/\aa<=F.length/\ah.length<=(q5 (J0 (J0 (J0 j.ai.ls (E0 a) (aK.mk d.au (D4 (d.aC.ls++ [C])) d.bn d.bf)) (E0 a) (aK.mk l.au (D4 l.aC.ls) false l.bf)) (E0 a) (aK.mk x.au (D4 x.aC.ls) x.bn (aD.mk (aj.mk [] []) false))))+aa/\ah.length<=q5 (J0 (J0 (J0 j.ai.ls (E0 a) (aK.mk d.au (D4 (d.aC.ls++ [C])) d.bn d.bf)) (E0 a) (aK.mk l.au (D4 l.aC.ls) false l.bf)) (E0 a) (aK.mk x.au (D4 x.aC.ls) x.bn (aD.mk (aj.mk [] []) false)))/\gP K F F (J0 (J0 (J0 j.ai.ls (E0 a) (aK.mk d.au (D4 (d.aC.ls++ [C])) d.bn d.bf)) (E0 a) (aK.mk l.au (D4 l.aC.ls) false l.bf)) (E0 a) (aK.mk x.au (D4 x.aC.ls) x.bn (aD.mk (aj.mk [] []) false)))=gP K F (r7 aa F) ah
 refine v4 (λ i:Nat × (Option Addr) × Nat × (List ay) × (List aK)=> [(71,vJ i.1),(70,vJ F.length),(69, .slice aG F.length aM),(10, .slice aG F.length aM),(0,vP g0 0),(3,vP g3 0)]) jX (λ i=>F.length - i.1) (0,E,T,(J0 (J0 (J0 p (E0 a) (ay.mk d.au (L3 av ax (d.aC.ls++ [C])) d.bn d.bf)) (E0 a) (ay.mk l.au l.aC false l.bf)) (E0 a) (ay.mk x.au x.aC x.bn (aD.mk (aj.mk [] []) false))),(J0 (J0 (J0 j.ai.ls (E0 a) (aK.mk d.au (D4 (d.aC.ls++ [C])) d.bn d.bf)) (E0 a) (aK.mk l.au (D4 l.aC.ls) false l.bf)) (E0 a) (aK.mk x.au (D4 x.aC.ls) x.bn (aD.mk (aj.mk [] []) false)))) ⟨rfl,rfl,rfl,rfl,rfl,rfl,trivial⟩ (cu.2 ⟨jW,by exact(d9 (d9 (d9 M rfl) rfl) rfl),e8,e8,e8,rfl⟩) ?_
 rintro ⟨aa,bF,bG,bi,ah⟩ qb ik
 show Wp _ _ _ [(71,vJ aa),(70,vJ F.length),(69, .slice aG F.length aM),(10, .slice aG F.length aM),(0,vP g0 0),(3,vP g3 0)] _ _
 obtain⟨bn,cz,nI,nJ,nK,dK⟩:=cu.1 ik
 have nL:=aW cz
 refine sr (Kz (.bool (decide ((aa:Int) < (F.length:Int)))) (nt (Gp ?_)))
 by_cases fM:(aa:Int) < (F.length:Int)
 obtain⟨dL,dM⟩:=dI (ls:=F) (i:=aa) gT f5 (bn.rds (i:=4) rfl) f2
 have il:=drop_at dM
 refine jT (dT fM) (sk (Gp (bo (sr (fw (.pointer (some ⟨ab aG,ao aG+aa *1,none⟩)) (GI (iC) rfl rfl ((bn.rds (i:=4) rfl).addr (i:=aa) e8) e8) (fw (vU dL) (GH rfl (bS.one C4 (((bn.rds (i:=4) rfl).elem gT dM f5).at_ (k:=0) rfl))) (An rfl (Gq (Mz rfl (Mz rfl ?_))))))))))
 have jY:=bn.pf [0,5,6]
 obtain⟨dO,dR⟩:∃ q,jd (aZ.mk (D4 ah)) dL=q:=⟨_,rfl⟩
 obtain⟨qc,iq,nM,iw,nN⟩:=H6 jY
 refine cl Tryz.call120 (oz _ _ g0 (aZ.mk (D4 ah)) bF bG bi dL dO iq cz f9 dR) ?_
 rintro _ qf ⟨jZ,j3,j4,rfl,iy,dS,dU⟩
 have fP:=iw _ _ iy
 have nO:=aW dS
 have nP:=fP.rowC (i:=1) rfl
 replace dU:dO.ai.ls.length<=ah.length:=dU
 refine v8 (bN (Gs (Gq (fw (vJ (aa+1)) (Gw (e:=v7.wrap ((aa:Int)+1)) yk f1) (Mz rfl (v8 ?_))))))
 have j5:=fP.pb [1,2]
 exact GL (aa+1,jZ,j3,j4,dO.ai.ls) ⟨rfl,rfl,rfl,rfl,rfl,rfl,trivial⟩ (cu.2 ⟨j5,by exact dS,e8,e8,e8,et (dK) (et (congrArg (λ q=>gP K F q ah) il) (ae dR))⟩) (by show F.length - (aa+1) < F.length - aa; omega)
 refine jF (dF fM) (v9 (GK ?_))
 have iA:gP K F F (J0 (J0 (J0 j.ai.ls (E0 a) (aK.mk d.au (D4 (d.aC.ls++ [C])) d.bn d.bf)) (E0 a) (aK.mk l.au (D4 l.aC.ls) false l.bf)) (E0 a) (aK.mk x.au (D4 x.aC.ls) x.bn (aD.mk (aj.mk [] []) false)))=ah:=et (dK) (et (congrArg (λ q=>gP K F q ah) (eP (ls:=F) (i:=aa) e8)) rfl)
 refine GK (GR (Gs (Gq (Mz rfl (Mz rfl (Kz (vP g3 0) (Kz (vP g3 1) (Lz (.slice P K.dC.ls.length Q) bn 1 Tryz.isAgg35 (Mz rfl ?_)))))))))
 have fQ:=bn.pf [3]
 refine WL.do rfl (GZ (k:=K.dC.ls.length) (m:=F.length) (iC) fQ rfl rfl (eT M6 (fQ.rds (i:=4) rfl) (cB lZ F)) rfl e8 (s:=q5 (K.dC.ls++F)) f4 (t2).symm ?_)
 intro fT fU qg j6
 have nQ:q5 (K.dC.ls++F)=K.dC.ls.length+F.length:=by simp only [m8,q6,H2]
 refine Kz (vP g3 0) (Kz (vP g3 1) ?_)
 have kg:=j6.pf [2]
 refine bY [.slice fT (q5 (K.dC.ls++F)) fU] 1 kg Tryz.sizeOf35 ?_
 intro qh ko
 refine v8 (Hq (res0 rfl) ?_)
 have kr:=ko.px [] [4] [0,3,1]
 obtain⟨rfl,rfl⟩:=fC (zj hr (show _=(aZ.mk (D4 ah),eX.mk (D4 K.aU.ls) (D4 (K.dC.ls++F))) from et (ae dz) (et (ip bU) (et (ae (bz fE)) (et (ae (bz jb)) (et (ae (bz jc)) (et (ae ic) (ae iA))))))))
 exact⟨bF,bG,bi,N,O,fT,fU,rfl,kr,cz⟩
 have h39t:Bool.toNat bR=0:=by rw [bU]; rfl
 refine jT (cn bU) (Gq (Mz rfl (Mz rfl (Kz (vP g0 0) (Kz (vP g0 0) (Lz (.slice E j.ai.ls.length T) bT 0 L7 (Mz rfl (Mz rfl (Kz (.agg #[vU B, .slice none 0 0, .bool false, .string ⟨u3 []⟩, .string ⟨u3 []⟩, .bool false]) ?_)))))))))
 refine WL.do rfl (Il (cs:= [vU B, .slice none 0 0, .bool false, .string ⟨u3 []⟩, .string ⟨u3 []⟩, .bool false]) (t:=164) (sz:=6) (m:=1) bT rfl rfl (λ _=>by kernel_rfl) rfl ?_)
 intro fV ku dV
 replace dV:=Ha (y:=lG fV 1 (q0 ay.cells ([(ay.mk B (L3 none 0 []) false (aD.mk (aj.mk [] []) false))])) 164 6) rfl dV
 have kv:Own w D ku (row none 0 0 (q0 aD.cells []) 118 3::_):=dV.free (bX 118 3)
 have kw:=kv.pf [4,1,5]
 obtain⟨qi,iB,nR,iD,nS⟩:=Ip kw
 refine cl Tryz.call123 (Ac _ _ E j.ai.ls.length T p a fV (ay.mk B (L3 none 0 []) false (aD.mk (aj.mk [] []) false)) j.ai.ls (aK.mk B (D4 []) false (aD.mk (aj.mk [] []) false)) iB e8 M rfl e8 e8) ?_
 rintro _ qj ⟨J,ai,rfl,iE⟩
 have ky:=iD _ _ iE
 have nT:q5 (t1 (E0 a) p++((ay.mk B (L3 none 0 []) false (aD.mk (aj.mk [] []) false))::r7 (E0 a) p))=q5 (t1 (E0 a) j.ai.ls++((aK.mk B (D4 []) false (aD.mk (aj.mk [] []) false))::r7 (E0 a) j.ai.ls)):=by exact aW (jA (z:=(aK.mk B (D4 []) false (aD.mk (aj.mk [] []) false))) M rfl)
 have nU:q5 (t1 (E0 a) j.ai.ls++((aK.mk B (D4 []) false (aD.mk (aj.mk [] []) false))::r7 (E0 a) j.ai.ls))=j.ai.ls.length+1:=by simp only [m8,m6,q6,m7]; omega
 refine Kz (vP g0 0) (Kz (vP g0 0) ?_)
 have kz:=ky.pf [2]
 refine bY [.slice J (q5 (t1 (E0 a) j.ai.ls++((aK.mk B (D4 []) false (aD.mk (aj.mk [] []) false))::r7 (E0 a) j.ai.ls))) ai] 0 kz Tryz.sizeOf112 ?_
 intro ql bH
 refine ns (Mz rfl (Kz (vP g0 0) (Kz (vP g0 0) (Lz (.slice J (q5 (t1 (E0 a) j.ai.ls++((aK.mk B (D4 []) false (aD.mk (aj.mk [] []) false))::r7 (E0 a) j.ai.ls))) ai) bH 0 L7 (fw (vJ (E0 a)) (Gw (e:=a) (Gv rfl) e8) ?_)))))
 obtain⟨b,aI⟩:=dI (ls:=(t1 (E0 a) p++((ay.mk B (L3 none 0 []) false (aD.mk (aj.mk [] []) false))::r7 (E0 a) p))) (i:=E0 a) ay.len f5 (bH.rds (i:=1) rfl) f2
 have dW:=fO (jA (z:=(aK.mk B (D4 []) false (aD.mk (aj.mk [] []) false))) M rfl) aI
 have nV:b.aC.ls.length<=b.aC.c/\b.aC.ls.length<=9223372036854775807:=dJ bH (i:=2) rfl (φ:=λ _=>_) (bP (M5.2 ⟨b,C1 aI,b3⟩) dN)
 have nW:b.aC.ls.length<=1000000:=by have q9:Hd (t1 (E0 a) j.ai.ls++((aK.mk B (D4 []) false (aD.mk (aj.mk [] []) false))::r7 (E0 a) j.ai.ls)):=(by first | exact fq | exact yl fq (Km _)); exact q9 _ (C1 dW)
 refine fw (.pointer (some ⟨ab J,ao J+(E0 a) *6,none⟩)) (GI (ja) rfl rfl ((bH.rds (i:=1) rfl).addr (i:=E0 a) e8) e8) (An rfl (rt (rs (An rfl (Gp ?_)))))
 refine l5 7 [7,10] (GD GQ) bH ?_
 intro qm kC
 refine Hf (v:= .pointer (some ⟨ab J,ao J+(E0 a) *6,none⟩)) 0 rfl e9 (λ _=>Gv rfl) (qv 1 rfl rfl (qk (.pointer (some ⟨ab J,ao J+(E0 a) *6,none⟩)) 2 rfl (qk (.pointer (some ⟨ab J,ao J+(E0 a) *6+1,none⟩)) 3 rfl (qt (v:= .slice b.aC.A b.aC.ls.length b.aC.c) 4 rfl (λ _ ⟨_,H9⟩=>GH rfl (bS.one Tryz.isAgg97 (((H9.rds (i:=1) rfl).elem ay.len aI f5).at_ (k:=1) rfl))) (qt (v:= .agg (aD.cells C).toArray) 5 rfl (λ _ ⟨_,H9⟩=>GH rfl (GJ (cs:=(aD.cells C)) L8 L9 ((H9.cls (i:=3) rfl).lit (k:=0) (m:=3) rfl))) ?_)))))
 refine qd 6 rfl (Hw (cs:=(aD.cells C)) (t:=118) (sz:=3) (m:=1) kC rfl rfl (λ _=>by kernel_rfl) rfl f5 ?_)
 intro kD kE dX
 replace dX:=Ha (y:=row kD 1 1 (q0 aD.cells ([C])) 118 3) rfl dX
 have fZ:=dX.pb [0]
 refine⟨.inr ⟨_,fZ⟩, ?_⟩
 have kG:=fZ.pf [2]
 have dZ:Own w D kE (row b.aC.A b.aC.ls.length b.aC.c (q0 aD.cells b.aC.ls) 118 3::sepL (q0 GU (t1 (E0 a) (t1 (E0 a) p++((ay.mk B (L3 none 0 []) false (aD.mk (aj.mk [] []) false))::r7 (E0 a) p)))++q0 GU (r7 (E0 a+1) (t1 (E0 a) p++((ay.mk B (L3 none 0 []) false (aD.mk (aj.mk [] []) false))::r7 (E0 a) p))))::_):=IC (f:=GU) (i:=E0 a) aI kG
 have nX:=dZ.rowC (i:=0) rfl
 refine qd 7 rfl (GZ (k:=b.aC.ls.length) (m:=1) (uk) dZ rfl rfl (eT H1 (dZ.rds (i:=8) rfl) (cB aD.one ([C]))) rfl e8 (s:=q5 (b.aC.ls++ [C])) f4 (t2).symm ?_)
 intro U V kH kI
 have nY:q5 (b.aC.ls++ [C])=b.aC.ls.length+1:=by simp only [m8,q6,H2]
 refine⟨.inl e9, ?_⟩
 refine Hf (v:= .pointer (some ⟨ab J,ao J+(E0 a) *6,none⟩)) 8 rfl e9 (λ _=>yk) (Hf (v:= .pointer (some ⟨ab J,ao J+(E0 a) *6+1,none⟩)) 9 rfl e9 (λ _=>yk) ?_)
 have kJ:Own w D kH (sepL (q0 GU (J0 (t1 (E0 a) p++((ay.mk B (L3 none 0 []) false (aD.mk (aj.mk [] []) false))::r7 (E0 a) p)) (E0 a) (ay.mk b.au (L3 U V (b.aC.ls++ [C])) b.bn b.bf)))::_):=IU (f:=GU) (y:=(ay.mk b.au (L3 U V (b.aC.ls++ [C])) b.bn b.bf)) aI kI
 have kK:=kJ.pf [2]
 refine qe 10 rfl (Do.storeRow (vs:= [.slice U (q5 (b.aC.ls++ [C])) V]) (o:=(E0 a) *6+1) (q:=ao J+(E0 a) *6+1) kK rfl e8 rfl Tryz.sizeOf97 rfl rfl (Kk rfl) (jg ay.len aI (Kk rfl)) (jU (y:=(ay.mk b.au (L3 U V (b.aC.ls++ [C])) b.bn b.bf)) ay.len rfl (Kk rfl) aI) ?_)
 intro qo kL
 have nZ:q5 (J0 (t1 (E0 a) p++((ay.mk B (L3 none 0 []) false (aD.mk (aj.mk [] []) false))::r7 (E0 a) p)) (E0 a) (ay.mk b.au (L3 U V (b.aC.ls++ [C])) b.bn b.bf))=q5 (J0 (t1 (E0 a) j.ai.ls++((aK.mk B (D4 []) false (aD.mk (aj.mk [] []) false))::r7 (E0 a) j.ai.ls)) (E0 a) (aK.mk b.au (D4 (b.aC.ls++ [C])) b.bn b.bf)):=aW (d9 (jA (z:=(aK.mk B (D4 []) false (aD.mk (aj.mk [] []) false))) M rfl) rfl)
 have og:q5 (J0 (t1 (E0 a) j.ai.ls++((aK.mk B (D4 []) false (aD.mk (aj.mk [] []) false))::r7 (E0 a) j.ai.ls)) (E0 a) (aK.mk b.au (D4 (b.aC.ls++ [C])) b.bn b.bf))=q5 (t1 (E0 a) j.ai.ls++((aK.mk B (D4 []) false (aD.mk (aj.mk [] []) false))::r7 (E0 a) j.ai.ls)):=J1
 refine⟨.inl e9, ?_⟩
 refine qn (Gs (Gp ?_))
 have ed:=kL.px [] [7] []
 refine Gq (Mz rfl (Mz rfl (Kz (.agg #[.string ⟨u3 []⟩, .string ⟨u3 []⟩, .bool false]) (Kz (.pointer (some ⟨ab J,ao J+(E0 a) *6,none⟩)) (Kz (.pointer (some ⟨ab J,ao J+(E0 a) *6+2,none⟩)) ?_)))))
 obtain⟨g,aT⟩:=dI (ls:=(J0 (t1 (E0 a) p++((ay.mk B (L3 none 0 []) false (aD.mk (aj.mk [] []) false))::r7 (E0 a) p)) (E0 a) (ay.mk b.au (L3 U V (b.aC.ls++ [C])) b.bn b.bf))) (i:=E0 a) ay.len f5 (ed.rds (i:=0) rfl) f2
 have iF:=fO (d9 (jA (z:=(aK.mk B (D4 []) false (aD.mk (aj.mk [] []) false))) M rfl) rfl) aT
 have ol:g.aC.ls.length<=g.aC.c/\g.aC.ls.length<=9223372036854775807:=dJ ed (i:=1) rfl (φ:=λ _=>_) (bP (M5.2 ⟨g,C1 aT,b3⟩) dN)
 refine Hz (Do.storeRow (vs:= [.bool false]) (o:=(E0 a) *6+2) (q:=ao J+(E0 a) *6+2) ed rfl e8 rfl Tryz.sizeOf4 rfl rfl (Kk rfl) (jg ay.len aT (Kk rfl)) (jU (y:=(ay.mk g.au g.aC false g.bf)) ay.len rfl (Kk rfl) aT) ?_)
 intro kM kN
 have ek:Own w D kM [row J (q5 (t1 (E0 a) j.ai.ls++((aK.mk B (D4 []) false (aD.mk (aj.mk [] []) false))::r7 (E0 a) j.ai.ls))) ai (q0 ay.cells (J0 (J0 (t1 (E0 a) p++((ay.mk B (L3 none 0 []) false (aD.mk (aj.mk [] []) false))::r7 (E0 a) p)) (E0 a) (ay.mk b.au (L3 U V (b.aC.ls++ [C])) b.bn b.bf)) (E0 a) (ay.mk g.au g.aC false g.bf))) 164 6,sepL (q0 GU (J0 (J0 (t1 (E0 a) p++((ay.mk B (L3 none 0 []) false (aD.mk (aj.mk [] []) false))::r7 (E0 a) p)) (E0 a) (ay.mk b.au (L3 U V (b.aC.ls++ [C])) b.bn b.bf)) (E0 a) (ay.mk g.au g.aC false g.bf))),blk g0 [.slice J (q5 (t1 (E0 a) j.ai.ls++((aK.mk B (D4 []) false (aD.mk (aj.mk [] []) false))::r7 (E0 a) j.ai.ls))) ai] 114,blk fu (aD.cells C) 118,blk g3 [.slice N K.aU.ls.length O, .slice P K.dC.ls.length Q] 157,row N K.aU.ls.length O (q0 (eN .u64) K.aU.ls) 32 1,row P K.dC.ls.length Q (q0 (eN .u64) K.dC.ls) 32 1]:=by rw [lK (f:=GU) (y:=(ay.mk g.au g.aC false g.bf)) aT rfl]; exact kN
 have om:q5 (J0 (J0 (t1 (E0 a) p++((ay.mk B (L3 none 0 []) false (aD.mk (aj.mk [] []) false))::r7 (E0 a) p)) (E0 a) (ay.mk b.au (L3 U V (b.aC.ls++ [C])) b.bn b.bf)) (E0 a) (ay.mk g.au g.aC false g.bf))=q5 (J0 (J0 (t1 (E0 a) j.ai.ls++((aK.mk B (D4 []) false (aD.mk (aj.mk [] []) false))::r7 (E0 a) j.ai.ls)) (E0 a) (aK.mk b.au (D4 (b.aC.ls++ [C])) b.bn b.bf)) (E0 a) (aK.mk g.au (D4 g.aC.ls) false g.bf)):=aW (d9 (d9 (jA (z:=(aK.mk B (D4 []) false (aD.mk (aj.mk [] []) false))) M rfl) rfl) rfl)
 have oo:q5 (J0 (J0 (t1 (E0 a) j.ai.ls++((aK.mk B (D4 []) false (aD.mk (aj.mk [] []) false))::r7 (E0 a) j.ai.ls)) (E0 a) (aK.mk b.au (D4 (b.aC.ls++ [C])) b.bn b.bf)) (E0 a) (aK.mk g.au (D4 g.aC.ls) false g.bf))=q5 (J0 (t1 (E0 a) j.ai.ls++((aK.mk B (D4 []) false (aD.mk (aj.mk [] []) false))::r7 (E0 a) j.ai.ls)) (E0 a) (aK.mk b.au (D4 (b.aC.ls++ [C])) b.bn b.bf)):=J1
 refine Kz (.pointer (some ⟨ab J,ao J+(E0 a) *6,none⟩)) (Kz (.pointer (some ⟨ab J,ao J+(E0 a) *6+3,none⟩)) ?_)
 obtain⟨h,aU⟩:=dI (ls:=(J0 (J0 (t1 (E0 a) p++((ay.mk B (L3 none 0 []) false (aD.mk (aj.mk [] []) false))::r7 (E0 a) p)) (E0 a) (ay.mk b.au (L3 U V (b.aC.ls++ [C])) b.bn b.bf)) (E0 a) (ay.mk g.au g.aC false g.bf))) (i:=E0 a) ay.len f5 (ek.rds (i:=0) rfl) f2
 have iG:=fO (d9 (d9 (jA (z:=(aK.mk B (D4 []) false (aD.mk (aj.mk [] []) false))) M rfl) rfl) rfl) aU
 have oq:h.aC.ls.length<=h.aC.c/\h.aC.ls.length<=9223372036854775807:=dJ ek (i:=1) rfl (φ:=λ _=>_) (bP (M5.2 ⟨h,C1 aU,b3⟩) dN)
 refine Hz (Do.storeRow (vs:= [.string ⟨u3 []⟩, .string ⟨u3 []⟩, .bool false]) (o:=(E0 a) *6+3) (q:=ao J+(E0 a) *6+3) ek rfl e8 rfl L9 rfl rfl (Kk rfl) (jg ay.len aU (Kk rfl)) (jU (y:=(ay.mk h.au h.aC h.bn (aD.mk (aj.mk [] []) false))) ay.len rfl (Kk rfl) aU) ?_)
 intro kP kQ
 have gm:Own w D kP [row J (q5 (t1 (E0 a) j.ai.ls++((aK.mk B (D4 []) false (aD.mk (aj.mk [] []) false))::r7 (E0 a) j.ai.ls))) ai (q0 ay.cells (J0 (J0 (J0 (t1 (E0 a) p++((ay.mk B (L3 none 0 []) false (aD.mk (aj.mk [] []) false))::r7 (E0 a) p)) (E0 a) (ay.mk b.au (L3 U V (b.aC.ls++ [C])) b.bn b.bf)) (E0 a) (ay.mk g.au g.aC false g.bf)) (E0 a) (ay.mk h.au h.aC h.bn (aD.mk (aj.mk [] []) false)))) 164 6,sepL (q0 GU (J0 (J0 (J0 (t1 (E0 a) p++((ay.mk B (L3 none 0 []) false (aD.mk (aj.mk [] []) false))::r7 (E0 a) p)) (E0 a) (ay.mk b.au (L3 U V (b.aC.ls++ [C])) b.bn b.bf)) (E0 a) (ay.mk g.au g.aC false g.bf)) (E0 a) (ay.mk h.au h.aC h.bn (aD.mk (aj.mk [] []) false)))),blk g0 [.slice J (q5 (t1 (E0 a) j.ai.ls++((aK.mk B (D4 []) false (aD.mk (aj.mk [] []) false))::r7 (E0 a) j.ai.ls))) ai] 114,blk fu (aD.cells C) 118,blk g3 [.slice N K.aU.ls.length O, .slice P K.dC.ls.length Q] 157,row N K.aU.ls.length O (q0 (eN .u64) K.aU.ls) 32 1,row P K.dC.ls.length Q (q0 (eN .u64) K.dC.ls) 32 1]:=by rw [lK (f:=GU) (y:=(ay.mk h.au h.aC h.bn (aD.mk (aj.mk [] []) false))) aU rfl]; exact kQ
 have ou:q5 (J0 (J0 (J0 (t1 (E0 a) p++((ay.mk B (L3 none 0 []) false (aD.mk (aj.mk [] []) false))::r7 (E0 a) p)) (E0 a) (ay.mk b.au (L3 U V (b.aC.ls++ [C])) b.bn b.bf)) (E0 a) (ay.mk g.au g.aC false g.bf)) (E0 a) (ay.mk h.au h.aC h.bn (aD.mk (aj.mk [] []) false)))=q5 (J0 (J0 (J0 (t1 (E0 a) j.ai.ls++((aK.mk B (D4 []) false (aD.mk (aj.mk [] []) false))::r7 (E0 a) j.ai.ls)) (E0 a) (aK.mk b.au (D4 (b.aC.ls++ [C])) b.bn b.bf)) (E0 a) (aK.mk g.au (D4 g.aC.ls) false g.bf)) (E0 a) (aK.mk h.au (D4 h.aC.ls) h.bn (aD.mk (aj.mk [] []) false))):=aW (d9 (d9 (d9 (jA (z:=(aK.mk B (D4 []) false (aD.mk (aj.mk [] []) false))) M rfl) rfl) rfl) rfl)
 have ow:q5 (J0 (J0 (J0 (t1 (E0 a) j.ai.ls++((aK.mk B (D4 []) false (aD.mk (aj.mk [] []) false))::r7 (E0 a) j.ai.ls)) (E0 a) (aK.mk b.au (D4 (b.aC.ls++ [C])) b.bn b.bf)) (E0 a) (aK.mk g.au (D4 g.aC.ls) false g.bf)) (E0 a) (aK.mk h.au (D4 h.aC.ls) h.bn (aD.mk (aj.mk [] []) false)))=q5 (J0 (J0 (t1 (E0 a) j.ai.ls++((aK.mk B (D4 []) false (aD.mk (aj.mk [] []) false))::r7 (E0 a) j.ai.ls)) (E0 a) (aK.mk b.au (D4 (b.aC.ls++ [C])) b.bn b.bf)) (E0 a) (aK.mk g.au (D4 g.aC.ls) false g.bf)):=J1
 refine ns (Mz rfl (La (aD.cells C) gm 3 L8 L9 ?_))
 refine WL.do rfl (GV Tryz.call118 rfl ?_ (λ _ _ k=>k))
 refine cb Tryz.func118 ?_
 refine sr ?_
 refine bW [vU B] 32 gm ?_
 intro bI qp kR
 refine bW (aD.cells C) 118 kR ?_
 intro aV kS kT
 refine Ar rfl (Kz (.func (.func 169) #[] #[vP aV 0,vP bI 0]) (An rfl (rt (rs (An rfl (Gp ?_))))))
 have gp:=kT.px [] [5] []
 refine Gq (An rfl (Gp (sr (Mz rfl (Kz (vP g0 0) (Kz (vP g0 0) (Lz (.slice J (q5 (t1 (E0 a) j.ai.ls++((aK.mk B (D4 []) false (aD.mk (aj.mk [] []) false))::r7 (E0 a) j.ai.ls))) ai) gp 4 L7 (Kz (vI ((q5 (t1 (E0 a) j.ai.ls++((aK.mk B (D4 []) false (aD.mk (aj.mk [] []) false))::r7 (E0 a) j.ai.ls)):Nat):Int)) (Mn rfl (bo ?_))))))))))
 have kU:Own w D kS (row none 0 0 (q0 (eN .u64) []) 32 1::_):=gp.free (bX 32 1)
 have kV:=kU.pb [0]
 obtain⟨kW,aB⟩:=vk λ ag (au:Nat) r (u:Nat) w'=>Own w D w' [blk aV (aD.cells C) 118,blk bI [vU B] 32,row J (q5 (t1 (E0 a) j.ai.ls++((aK.mk B (D4 []) false (aD.mk (aj.mk [] []) false))::r7 (E0 a) j.ai.ls))) ai (q0 ay.cells (J0 (J0 (J0 (t1 (E0 a) p++((ay.mk B (L3 none 0 []) false (aD.mk (aj.mk [] []) false))::r7 (E0 a) p)) (E0 a) (ay.mk b.au (L3 U V (b.aC.ls++ [C])) b.bn b.bf)) (E0 a) (ay.mk g.au g.aC false g.bf)) (E0 a) (ay.mk h.au h.aC h.bn (aD.mk (aj.mk [] []) false)))) 164 6,sepL (q0 GU (J0 (J0 (J0 (t1 (E0 a) p++((ay.mk B (L3 none 0 []) false (aD.mk (aj.mk [] []) false))::r7 (E0 a) p)) (E0 a) (ay.mk b.au (L3 U V (b.aC.ls++ [C])) b.bn b.bf)) (E0 a) (ay.mk g.au g.aC false g.bf)) (E0 a) (ay.mk h.au h.aC h.bn (aD.mk (aj.mk [] []) false)))),blk g0 [.slice J (q5 (t1 (E0 a) j.ai.ls++((aK.mk B (D4 []) false (aD.mk (aj.mk [] []) false))::r7 (E0 a) j.ai.ls))) ai] 114,blk g3 [.slice N K.aU.ls.length O, .slice P K.dC.ls.length Q] 157,row N K.aU.ls.length O (q0 (eN .u64) K.aU.ls) 32 1,row P K.dC.ls.length Q (q0 (eN .u64) K.dC.ls) 32 1,row ag r.length au (q0 (eN .u64) r) 32 1]/\u<=q5 (t1 (E0 a) j.ai.ls++((aK.mk B (D4 []) false (aD.mk (aj.mk [] []) false))::r7 (E0 a) j.ai.ls))/\r.length<=u/\dQ j B C K a (ay.abs b) (ay.abs g) (ay.abs h) (q5 (t1 (E0 a) j.ai.ls++((aK.mk B (D4 []) false (aD.mk (aj.mk [] []) false))::r7 (E0 a) j.ai.ls))) [] 0=dQ j B C K a (ay.abs b) (ay.abs g) (ay.abs h) ((q5 (t1 (E0 a) j.ai.ls++((aK.mk B (D4 []) false (aD.mk (aj.mk [] []) false))::r7 (E0 a) j.ai.ls))) - u) r u
 refine v4 (λ i:(Option Addr) × Nat × (List Nat) × Nat=> [(10, .slice i.1 i.2.2.1.length i.2.1),(43,vJ i.2.2.2),(42,vI ((q5 (t1 (E0 a) j.ai.ls++((aK.mk B (D4 []) false (aD.mk (aj.mk [] []) false))::r7 (E0 a) j.ai.ls)):Nat):Int)),(41, .slice J (q5 (t1 (E0 a) j.ai.ls++((aK.mk B (D4 []) false (aD.mk (aj.mk [] []) false))::r7 (E0 a) j.ai.ls))) ai),(9, .func (.func 169) #[] #[vP aV 0,vP bI 0]),(0,vP g0 0),(1,vU B),(3,vP g3 0)]) kW (λ i=>(q5 (t1 (E0 a) j.ai.ls++((aK.mk B (D4 []) false (aD.mk (aj.mk [] []) false))::r7 (E0 a) j.ai.ls))) - i.2.2.2) (none,0, [],0) ⟨rfl,rfl,rfl,rfl,rfl,rfl,rfl,rfl,trivial⟩ (aB.2 ⟨kV,(show 0<=q5 (t1 (E0 a) j.ai.ls++((aK.mk B (D4 []) false (aD.mk (aj.mk [] []) false))::r7 (E0 a) j.ai.ls))/\0<=0/\dQ j B C K a (ay.abs b) (ay.abs g) (ay.abs h) (q5 (t1 (E0 a) j.ai.ls++((aK.mk B (D4 []) false (aD.mk (aj.mk [] []) false))::r7 (E0 a) j.ai.ls))) [] 0=dQ j B C K a (ay.abs b) (ay.abs g) (ay.abs h) ((q5 (t1 (E0 a) j.ai.ls++((aK.mk B (D4 []) false (aD.mk (aj.mk [] []) false))::r7 (E0 a) j.ai.ls))) - 0) [] 0 from ⟨e8,e8,rfl⟩)⟩) ?_
 rintro ⟨ag,au,r,u⟩ kX iH
 show Wp _ _ _ [(10, .slice ag r.length au),(43,vJ u),(42,vI ((q5 (t1 (E0 a) j.ai.ls++((aK.mk B (D4 []) false (aD.mk (aj.mk [] []) false))::r7 (E0 a) j.ai.ls)):Nat):Int)),(41, .slice J (q5 (t1 (E0 a) j.ai.ls++((aK.mk B (D4 []) false (aD.mk (aj.mk [] []) false))::r7 (E0 a) j.ai.ls))) ai),(9, .func (.func 169) #[] #[vP aV 0,vP bI 0]),(0,vP g0 0),(1,vU B),(3,vP g3 0)] _ _
 obtain⟨bq,oC,oD,aJ⟩:=aB.1 iH
 refine sr (Kz (.bool (decide ((u:Int) < ((q5 (t1 (E0 a) j.ai.ls++((aK.mk B (D4 []) false (aD.mk (aj.mk [] []) false))::r7 (E0 a) j.ai.ls)):Nat):Int)))) (nt (Gp ?_)))
 by_cases gq:(u:Int) < ((q5 (t1 (E0 a) j.ai.ls++((aK.mk B (D4 []) false (aD.mk (aj.mk [] []) false))::r7 (E0 a) j.ai.ls)):Nat):Int)
 refine jT (dT gq) (sk (Gp (bo (sr ?_))))
 obtain⟨I,cK⟩:=dI (ls:=(J0 (J0 (J0 (t1 (E0 a) p++((ay.mk B (L3 none 0 []) false (aD.mk (aj.mk [] []) false))::r7 (E0 a) p)) (E0 a) (ay.mk b.au (L3 U V (b.aC.ls++ [C])) b.bn b.bf)) (E0 a) (ay.mk g.au g.aC false g.bf)) (E0 a) (ay.mk h.au h.aC h.bn (aD.mk (aj.mk [] []) false)))) (i:=u) ay.len f5 (bq.rds (i:=2) rfl) f2
 have aO:=fO (d9 (d9 (d9 (jA (z:=(aK.mk B (D4 []) false (aD.mk (aj.mk [] []) false))) M rfl) rfl) rfl) rfl) cK
 have oF:I.aC.ls.length<=I.aC.c/\I.aC.ls.length<=9223372036854775807:=dJ bq (i:=3) rfl (φ:=λ _=>_) (bP (M5.2 ⟨I,C1 cK,b3⟩) dN)
 refine fw (.pointer (some ⟨ab J,ao J+u *6,none⟩)) (GI (ja) rfl rfl ((bq.rds (i:=2) rfl).addr (i:=u) e8) e8) (fw (.agg (ay.cells I).toArray) (GH rfl (GJ (cs:=(ay.cells I)) Tryz.isAgg164 L6 ((bq.rds (i:=2) rfl).elem ay.len cK f5))) ?_)
 refine bW [.int .u64 0, .slice none 0 0, .bool false, .string ⟨u3 []⟩, .string ⟨u3 []⟩, .bool false] 164 bq ?_
 intro bu qw kY
 refine bY (ay.cells I) 0 kY L6 ?_
 intro qx aX
 refine ns (Kz (vP bu 2) (Lz (.bool I.bn) aX 0 F0 (Mz rfl ?_)))
 rcases Kq (I.bn) with Y | Y
 refine Gz (vP bu 0) Y (Gl (vU I.au) Y aX 0 C4 (Hm (v:=vU B) rfl rfl Y rfl (Gv rfl) (Gz (.bool (decide ((I.au:Int) > (B:Int)))) Y (fw (.bool (decide ((I.au:Int) > (B:Int)))) (Gu rfl Y rfl) (Mz rfl ?_)))))
 by_cases S:(I.au:Int) > (B:Int)
 refine gw (.func (.func 169) #[] #[vP aV 0,vP bI 0]) (dT S) (Gv rfl) (Gz (vP bu 0) (dT S) (Gl (vU I.au) (dT S) aX 0 C4 (Gz (vP bu 3) (dT S) (Ga (aD.cells I.bf) (dT S) aX 0 L8 L9 ?_))))
 refine H7 rfl rfl (dT S) rfl (Hg Tryz.call169 rfl rfl ?_ (λ _ _ k=>k))
 refine cb Tryz.func169 ?_
 refine sr ?_
 refine bW (aD.cells I.bf) 118 aX ?_
 intro gu qy eu
 refine Ar rfl (Kz (vP aV 0) (La (aj.cells C.aB) eu 2 B5 B4 (Kz (vP gu 0) (La (aj.cells I.bf.aB) eu 0 B5 B4 ?_))))
 obtain⟨⟨eB,bJ⟩,aY⟩:∃ q:aj × Bool,kF C.aB I.bf.aB=q:=⟨_,rfl⟩
 obtain⟨qz,iI,oG,iJ,oH⟩:=Gr eu
 refine cl Tryz.call152 (oU _ _ C.aB I.bf.aB eB bJ iI aY) ?_
 rintro _ qA ⟨rfl,iK⟩
 have kZ:=iJ _ _ iK
 refine Mz rfl (Kz (.agg (aj.cells eB).toArray) (Kz (.bool bJ) ?_))
 refine bW [.string ⟨u3 []⟩, .string ⟨u3 []⟩] 37 kZ ?_
 intro qB qC lc
 refine bY (aj.cells eB) 0 lc B4 ?_
 intro qD lg
 refine An rfl (Gp ?_)
 have bf:=lg.px [] [0] []
 refine Gq (Mz rfl (Lz (vU B) bf 3 C4 (fw (.bool (decide (¬ ((I.au:Int)=(B:Int))))) (GN (e:= !(decide ((I.au:Int)=(B:Int)))) yk decide_not.symm) (Mz rfl ?_))))
 have eD:(decide (¬ ((I.au:Int)=(B:Int))))=true:=(dT e8)
 refine Hm (v:= .bool bJ) rfl rfl eD rfl (Gv rfl) (fw (.bool bJ) (Gu rfl eD rfl) (Mz rfl ?_))
 rcases Kq (bJ) with Z | Z
 refine Gz (vP aV 2) Z (Gl (.bool C.eH) Z bf 2 F0 (Hm (v:= .bool C.eH) rfl rfl Z rfl (Gv rfl) ?_))
 rcases Kq (C.eH) with aF | aF
 refine Sz aF (Sz aF (Hm (v:= .bool true) rfl rfl Z rfl (Gu rfl aF rfl) (fw (.bool true) (Gu rfl Z rfl) (An rfl (rt (rs (fw (.bool true) (Gu rfl (dT S) rfl) (nt (jt ?_)))))))))
 have gy:=bf.px [] [0] []
 refine Gq (Mz rfl (Kz (vP bu 0) (Lz (vU I.au) gy 0 C4 ?_)))
 refine jE [vU I.au] 32 1 1 gy ?_
 intro lh qE eF
 replace eF:=Ha (y:=row lh 1 1 (q0 (eN .u64) ([I.au])) 32 1) rfl eF
 have gz:=eF.pf [10]
 refine WL.do rfl (GZ (k:=r.length) (m:=1) (iC) gz rfl rfl (eT M6 (gz.rds (i:=1) rfl) (cB lZ ([I.au]))) rfl e8 (s:=q5 (r++ [I.au])) f4 (t2).symm ?_)
 intro ll lm qF lq
 have oI:q5 (r++ [I.au])=r.length+1:=by simp only [m8,q6,H2]
 refine Az rfl (v8 (bN (Gs ?_)))
 have lu:=lq.px [] [1,2] []
 refine Gq (fw (vJ (u+1)) (Gw (e:=v7.wrap ((u:Int)+1)) yk f1) (Mz rfl (v8 ?_)))
 have lv:=lu.pb [0]
 exact GL (ll,lm,(r++ [I.au]),u+1) ⟨rfl,rfl,rfl,rfl,rfl,rfl,rfl,rfl,trivial⟩ (aB.2 ⟨lv,e8,e8,et (aJ) (et (congrArg (λ q=>dQ j B C K a (ay.abs b) (ay.abs g) (ay.abs h) q r u) (oh (n:=q5 (t1 (E0 a) j.ai.ls++((aK.mk B (D4 []) false (aD.mk (aj.mk [] []) false))::r7 (E0 a) j.ai.ls))) (i:=u) e8)) (et (ae (bz aO)) (et (ip Y) (et (ip S) (et (ae aY) (et (ip Z) (ip aF)))))))⟩) (by show (q5 (t1 (E0 a) j.ai.ls++((aK.mk B (D4 []) false (aD.mk (aj.mk [] []) false))::r7 (E0 a) j.ai.ls))) - (u+1) < (q5 (t1 (E0 a) j.ai.ls++((aK.mk B (D4 []) false (aD.mk (aj.mk [] []) false))::r7 (E0 a) j.ai.ls))) - u; omega)
 refine Gz (vP gu 2) aF (Gl (.bool I.bf.eH) aF bf 0 F0 (Hm (v:= .bool I.bf.eH) rfl rfl Z rfl (Gm rfl aF rfl) (fw (.bool I.bf.eH) (Gu rfl Z rfl) (An rfl (rt (rs (fw (.bool I.bf.eH) (Gu rfl (dT S) rfl) (nt ?_))))))))
 rcases Kq (I.bf.eH) with bK | bK
 refine jT bK ?_
 have gB:=bf.px [] [0] []
 refine Gq (Mz rfl (Kz (vP bu 0) (Lz (vU I.au) gB 0 C4 ?_)))
 refine jE [vU I.au] 32 1 1 gB ?_
 intro lw qG eH
 replace eH:=Ha (y:=row lw 1 1 (q0 (eN .u64) ([I.au])) 32 1) rfl eH
 have gD:=eH.pf [10]
 refine WL.do rfl (GZ (k:=r.length) (m:=1) (iC) gD rfl rfl (eT M6 (gD.rds (i:=1) rfl) (cB lZ ([I.au]))) rfl e8 (s:=q5 (r++ [I.au])) f4 (t2).symm ?_)
 intro lC lF qH lH
 have oJ:q5 (r++ [I.au])=r.length+1:=by simp only [m8,q6,H2]
 refine Az rfl (v8 (bN (Gs ?_)))
 have lI:=lH.px [] [1,2] []
 refine Gq (fw (vJ (u+1)) (Gw (e:=v7.wrap ((u:Int)+1)) yk f1) (Mz rfl (v8 ?_)))
 have lJ:=lI.pb [0]
 exact GL (lC,lF,(r++ [I.au]),u+1) ⟨rfl,rfl,rfl,rfl,rfl,rfl,rfl,rfl,trivial⟩ (aB.2 ⟨lJ,e8,e8,et (aJ) (et (congrArg (λ q=>dQ j B C K a (ay.abs b) (ay.abs g) (ay.abs h) q r u) (oh (n:=q5 (t1 (E0 a) j.ai.ls++((aK.mk B (D4 []) false (aD.mk (aj.mk [] []) false))::r7 (E0 a) j.ai.ls))) (i:=u) e8)) (et (ae (bz aO)) (et (ip Y) (et (ip S) (et (ae aY) (et (ip Z) (et (dY aF) (ip bK))))))))⟩) (by show (q5 (t1 (E0 a) j.ai.ls++((aK.mk B (D4 []) false (aD.mk (aj.mk [] []) false))::r7 (E0 a) j.ai.ls))) - (u+1) < (q5 (t1 (E0 a) j.ai.ls++((aK.mk B (D4 []) false (aD.mk (aj.mk [] []) false))::r7 (E0 a) j.ai.ls))) - u; omega)
 refine jF bK (G7 (bN (Gs ?_)))
 have lL:=bf.px [] [0,1] []
 refine Gq (fw (vJ (u+1)) (Gw (e:=v7.wrap ((u:Int)+1)) yk f1) (Mz rfl (v8 ?_)))
 have lM:=lL.pf []
 exact GL (ag,au,r,u+1) ⟨rfl,rfl,rfl,rfl,rfl,rfl,rfl,rfl,trivial⟩ (aB.2 ⟨lM,e8,e8,et (aJ) (et (congrArg (λ q=>dQ j B C K a (ay.abs b) (ay.abs g) (ay.abs h) q r u) (oh (n:=q5 (t1 (E0 a) j.ai.ls++((aK.mk B (D4 []) false (aD.mk (aj.mk [] []) false))::r7 (E0 a) j.ai.ls))) (i:=u) e8)) (et (ae (bz aO)) (et (ip Y) (et (ip S) (et (ae aY) (et (ip Z) (et (dY aF) (dY bK))))))))⟩) (by show (q5 (t1 (E0 a) j.ai.ls++((aK.mk B (D4 []) false (aD.mk (aj.mk [] []) false))::r7 (E0 a) j.ai.ls))) - (u+1) < (q5 (t1 (E0 a) j.ai.ls++((aK.mk B (D4 []) false (aD.mk (aj.mk [] []) false))::r7 (E0 a) j.ai.ls))) - u; omega)
 refine Sz Z (Sz Z (Sz Z (GA rfl rfl rfl (GA rfl rfl rfl (Sz Z (fw (.bool false) (Gm rfl Z rfl) (An rfl (rt (rs (fw (.bool false) (Gu rfl (dT S) rfl) (nt (jf (G7 (bN (Gs ?_)))))))))))))))
 have lN:=bf.px [] [0,1] []
 refine Gq (fw (vJ (u+1)) (Gw (e:=v7.wrap ((u:Int)+1)) yk f1) (Mz rfl (v8 ?_)))
 have lQ:=lN.pf []
 exact GL (ag,au,r,u+1) ⟨rfl,rfl,rfl,rfl,rfl,rfl,rfl,rfl,trivial⟩ (aB.2 ⟨lQ,e8,e8,et (aJ) (et (congrArg (λ q=>dQ j B C K a (ay.abs b) (ay.abs g) (ay.abs h) q r u) (oh (n:=q5 (t1 (E0 a) j.ai.ls++((aK.mk B (D4 []) false (aD.mk (aj.mk [] []) false))::r7 (E0 a) j.ai.ls))) (i:=u) e8)) (et (ae (bz aO)) (et (ip Y) (et (ip S) (et (ae aY) (dY Z))))))⟩) (by show (q5 (t1 (E0 a) j.ai.ls++((aK.mk B (D4 []) false (aD.mk (aj.mk [] []) false))::r7 (E0 a) j.ai.ls))) - (u+1) < (q5 (t1 (E0 a) j.ai.ls++((aK.mk B (D4 []) false (aD.mk (aj.mk [] []) false))::r7 (E0 a) j.ai.ls))) - u; omega)
 refine Sz (dF S) (Sz (dF S) (Sz (dF S) (Sz (dF S) (Sz (dF S) (Sz (dF S) (fw (.bool false) (Gm rfl (dF S) rfl) (nt (jf (G7 (bN (Gs ?_)))))))))))
 have lS:=aX.px [] [0] []
 refine Gq (fw (vJ (u+1)) (Gw (e:=v7.wrap ((u:Int)+1)) yk f1) (Mz rfl (v8 ?_)))
 have lT:=lS.pf []
 exact GL (ag,au,r,u+1) ⟨rfl,rfl,rfl,rfl,rfl,rfl,rfl,rfl,trivial⟩ (aB.2 ⟨lT,e8,e8,et (aJ) (et (congrArg (λ q=>dQ j B C K a (ay.abs b) (ay.abs g) (ay.abs h) q r u) (oh (n:=q5 (t1 (E0 a) j.ai.ls++((aK.mk B (D4 []) false (aD.mk (aj.mk [] []) false))::r7 (E0 a) j.ai.ls))) (i:=u) e8)) (et (ae (bz aO)) (et (ip Y) (iN S))))⟩) (by show (q5 (t1 (E0 a) j.ai.ls++((aK.mk B (D4 []) false (aD.mk (aj.mk [] []) false))::r7 (E0 a) j.ai.ls))) - (u+1) < (q5 (t1 (E0 a) j.ai.ls++((aK.mk B (D4 []) false (aD.mk (aj.mk [] []) false))::r7 (E0 a) j.ai.ls))) - u; omega)
 refine Sz Y (Sz Y (Sz Y (Sz Y (fw (.bool false) (Gm rfl Y rfl) (Mz rfl (Sz rfl (Sz rfl (Sz rfl (Sz rfl (Sz rfl (Sz rfl (fw (.bool false) (Gm rfl rfl rfl) (nt (jf (G7 (bN (Gs ?_)))))))))))))))))
 have lU:=aX.px [] [0] []
 refine Gq (fw (vJ (u+1)) (Gw (e:=v7.wrap ((u:Int)+1)) yk f1) (Mz rfl (v8 ?_)))
 have lV:=lU.pf []
 exact GL (ag,au,r,u+1) ⟨rfl,rfl,rfl,rfl,rfl,rfl,rfl,rfl,trivial⟩ (aB.2 ⟨lV,e8,e8,et (aJ) (et (congrArg (λ q=>dQ j B C K a (ay.abs b) (ay.abs g) (ay.abs h) q r u) (oh (n:=q5 (t1 (E0 a) j.ai.ls++((aK.mk B (D4 []) false (aD.mk (aj.mk [] []) false))::r7 (E0 a) j.ai.ls))) (i:=u) e8)) (et (ae (bz aO)) (dY Y)))⟩) (by show (q5 (t1 (E0 a) j.ai.ls++((aK.mk B (D4 []) false (aD.mk (aj.mk [] []) false))::r7 (E0 a) j.ai.ls))) - (u+1) < (q5 (t1 (E0 a) j.ai.ls++((aK.mk B (D4 []) false (aD.mk (aj.mk [] []) false))::r7 (E0 a) j.ai.ls))) - u; omega)
 refine jF (dF gq) (v9 (GK ?_))
 have iL:dQ j B C K a (ay.abs b) (ay.abs g) (ay.abs h) (q5 (t1 (E0 a) j.ai.ls++((aK.mk B (D4 []) false (aD.mk (aj.mk [] []) false))::r7 (E0 a) j.ai.ls))) [] 0=r:=et (aJ) (et (congrArg (λ q=>dQ j B C K a (ay.abs b) (ay.abs g) (ay.abs h) q r u) (Bg (n:=q5 (t1 (E0 a) j.ai.ls++((aK.mk B (D4 []) false (aD.mk (aj.mk [] []) false))::r7 (E0 a) j.ai.ls))) (i:=u) e8)) rfl)
 refine GK (GR (Gs (Gp (Gp ?_))))
 have lW:=bq.px [] [0,1] []
 refine Gq (Mz rfl (Kz (vJ r.length) (Mn rfl (bo ?_))))
 have iM:q5 (t1 (E0 a) j.ai.ls++((aK.mk B (D4 []) false (aD.mk (aj.mk [] []) false))::r7 (E0 a) j.ai.ls))=q5 (J0 (J0 (J0 (t1 (E0 a) j.ai.ls++((aK.mk B (D4 []) false (aD.mk (aj.mk [] []) false))::r7 (E0 a) j.ai.ls)) (E0 a) (aK.mk b.au (D4 (b.aC.ls++ [C])) b.bn b.bf)) (E0 a) (aK.mk g.au (D4 g.aC.ls) false g.bf)) (E0 a) (aK.mk h.au (D4 h.aC.ls) h.bn (aD.mk (aj.mk [] []) false))):=by first | omega | (simp only [J1]; done) | (simp only [J1,m8,q6,H2,m6,m7,L4]; omega)
 have lX:Own w D kX [row J (q5 (J0 (J0 (J0 (t1 (E0 a) j.ai.ls++((aK.mk B (D4 []) false (aD.mk (aj.mk [] []) false))::r7 (E0 a) j.ai.ls)) (E0 a) (aK.mk b.au (D4 (b.aC.ls++ [C])) b.bn b.bf)) (E0 a) (aK.mk g.au (D4 g.aC.ls) false g.bf)) (E0 a) (aK.mk h.au (D4 h.aC.ls) h.bn (aD.mk (aj.mk [] []) false)))) ai (q0 ay.cells (J0 (J0 (J0 (t1 (E0 a) p++((ay.mk B (L3 none 0 []) false (aD.mk (aj.mk [] []) false))::r7 (E0 a) p)) (E0 a) (ay.mk b.au (L3 U V (b.aC.ls++ [C])) b.bn b.bf)) (E0 a) (ay.mk g.au g.aC false g.bf)) (E0 a) (ay.mk h.au h.aC h.bn (aD.mk (aj.mk [] []) false)))) 164 6,sepL (q0 GU (J0 (J0 (J0 (t1 (E0 a) p++((ay.mk B (L3 none 0 []) false (aD.mk (aj.mk [] []) false))::r7 (E0 a) p)) (E0 a) (ay.mk b.au (L3 U V (b.aC.ls++ [C])) b.bn b.bf)) (E0 a) (ay.mk g.au g.aC false g.bf)) (E0 a) (ay.mk h.au h.aC h.bn (aD.mk (aj.mk [] []) false)))),blk g0 [.slice J (q5 (J0 (J0 (J0 (t1 (E0 a) j.ai.ls++((aK.mk B (D4 []) false (aD.mk (aj.mk [] []) false))::r7 (E0 a) j.ai.ls)) (E0 a) (aK.mk b.au (D4 (b.aC.ls++ [C])) b.bn b.bf)) (E0 a) (aK.mk g.au (D4 g.aC.ls) false g.bf)) (E0 a) (aK.mk h.au (D4 h.aC.ls) h.bn (aD.mk (aj.mk [] []) false)))) ai] 114,blk g3 [.slice N K.aU.ls.length O, .slice P K.dC.ls.length Q] 157,row N K.aU.ls.length O (q0 (eN .u64) K.aU.ls) 32 1,row P K.dC.ls.length Q (q0 (eN .u64) K.dC.ls) 32 1,row ag r.length au (q0 (eN .u64) r) 32 1]:=by rw [<- iM]; exact lW
 have lY:=lX.pb [0,1]
 obtain⟨l6,cO⟩:=ES λ (af:Nat) bL (bM:Nat) bv ak w'=>Own w D w' [blk g0 [.slice bL ak.length bM] 114,blk g3 [.slice N K.aU.ls.length O, .slice P K.dC.ls.length Q] 157,row N K.aU.ls.length O (q0 (eN .u64) K.aU.ls) 32 1,row P K.dC.ls.length Q (q0 (eN .u64) K.dC.ls) 32 1,row ag r.length au (q0 (eN .u64) r) 32 1,row bL ak.length bM (q0 ay.cells bv) 164 6,sepL (q0 GU bv)]/\r8 ay.abs bv=ak/\af<=r.length/\ak.length<=(q5 (J0 (J0 (J0 (t1 (E0 a) j.ai.ls++((aK.mk B (D4 []) false (aD.mk (aj.mk [] []) false))::r7 (E0 a) j.ai.ls)) (E0 a) (aK.mk b.au (D4 (b.aC.ls++ [C])) b.bn b.bf)) (E0 a) (aK.mk g.au (D4 g.aC.ls) false g.bf)) (E0 a) (aK.mk h.au (D4 h.aC.ls) h.bn (aD.mk (aj.mk [] []) false))))+af/\ak.length<=q5 (J0 (J0 (J0 (t1 (E0 a) j.ai.ls++((aK.mk B (D4 []) false (aD.mk (aj.mk [] []) false))::r7 (E0 a) j.ai.ls)) (E0 a) (aK.mk b.au (D4 (b.aC.ls++ [C])) b.bn b.bf)) (E0 a) (aK.mk g.au (D4 g.aC.ls) false g.bf)) (E0 a) (aK.mk h.au (D4 h.aC.ls) h.bn (aD.mk (aj.mk [] []) false)))/\gQ K r r (J0 (J0 (J0 (t1 (E0 a) j.ai.ls++((aK.mk B (D4 []) false (aD.mk (aj.mk [] []) false))::r7 (E0 a) j.ai.ls)) (E0 a) (aK.mk b.au (D4 (b.aC.ls++ [C])) b.bn b.bf)) (E0 a) (aK.mk g.au (D4 g.aC.ls) false g.bf)) (E0 a) (aK.mk h.au (D4 h.aC.ls) h.bn (aD.mk (aj.mk [] []) false)))=gQ K r (r7 af r) ak
 refine v4 (λ i:Nat × (Option Addr) × Nat × (List ay) × (List aK)=> [(71,vJ i.1),(70,vJ r.length),(69, .slice ag r.length au),(10, .slice ag r.length au),(0,vP g0 0),(3,vP g3 0)]) l6 (λ i=>r.length - i.1) (0,J,ai,(J0 (J0 (J0 (t1 (E0 a) p++((ay.mk B (L3 none 0 []) false (aD.mk (aj.mk [] []) false))::r7 (E0 a) p)) (E0 a) (ay.mk b.au (L3 U V (b.aC.ls++ [C])) b.bn b.bf)) (E0 a) (ay.mk g.au g.aC false g.bf)) (E0 a) (ay.mk h.au h.aC h.bn (aD.mk (aj.mk [] []) false))),(J0 (J0 (J0 (t1 (E0 a) j.ai.ls++((aK.mk B (D4 []) false (aD.mk (aj.mk [] []) false))::r7 (E0 a) j.ai.ls)) (E0 a) (aK.mk b.au (D4 (b.aC.ls++ [C])) b.bn b.bf)) (E0 a) (aK.mk g.au (D4 g.aC.ls) false g.bf)) (E0 a) (aK.mk h.au (D4 h.aC.ls) h.bn (aD.mk (aj.mk [] []) false)))) ⟨rfl,rfl,rfl,rfl,rfl,rfl,trivial⟩ (cO.2 ⟨lY,by exact(d9 (d9 (d9 (jA (z:=(aK.mk B (D4 []) false (aD.mk (aj.mk [] []) false))) M rfl) rfl) rfl) rfl),e8,e8,e8,rfl⟩) ?_
 rintro ⟨af,bL,bM,bv,ak⟩ qI iO
 show Wp _ _ _ [(71,vJ af),(70,vJ r.length),(69, .slice ag r.length au),(10, .slice ag r.length au),(0,vP g0 0),(3,vP g3 0)] _ _
 obtain⟨bA,cZ,oK,oL,oM,eO⟩:=cO.1 iO
 have oN:=aW cZ
 refine sr (Kz (.bool (decide ((af:Int) < (r.length:Int)))) (nt (Gp ?_)))
 by_cases gF:(af:Int) < (r.length:Int)
 obtain⟨eQ,eU⟩:=dI (ls:=r) (i:=af) gT f5 (bA.rds (i:=4) rfl) f2
 have iP:=drop_at eU
 refine jT (dT gF) (sk (Gp (bo (sr (fw (.pointer (some ⟨ab ag,ao ag+af *1,none⟩)) (GI (iC) rfl rfl ((bA.rds (i:=4) rfl).addr (i:=af) e8) e8) (fw (vU eQ) (GH rfl (bS.one C4 (((bA.rds (i:=4) rfl).elem gT eU f5).at_ (k:=0) rfl))) (An rfl (Gq (Mz rfl (Mz rfl ?_))))))))))
 have l7:=bA.pf [0,5,6]
 obtain⟨eY,eZ⟩:∃ q,jd (aZ.mk (D4 ak)) eQ=q:=⟨_,rfl⟩
 obtain⟨qK,iQ,oO,iR,oP⟩:=H6 l7
 refine cl Tryz.call120 (oz _ _ g0 (aZ.mk (D4 ak)) bL bM bv eQ eY iQ cZ f9 eZ) ?_
 rintro _ qL ⟨l8,l9,ma,rfl,iU,fe,fo⟩
 have gG:=iR _ _ iU
 have oQ:=aW fe
 have oV:=gG.rowC (i:=1) rfl
 replace fo:eY.ai.ls.length<=ak.length:=fo
 refine v8 (bN (Gs (Gq (fw (vJ (af+1)) (Gw (e:=v7.wrap ((af:Int)+1)) yk f1) (Mz rfl (v8 ?_))))))
 have mf:=gG.pb [1,2]
 exact GL (af+1,l8,l9,ma,eY.ai.ls) ⟨rfl,rfl,rfl,rfl,rfl,rfl,trivial⟩ (cO.2 ⟨mf,by exact fe,e8,e8,e8,et (eO) (et (congrArg (λ q=>gQ K r q ak) iP) (ae eZ))⟩) (by show r.length - (af+1) < r.length - af; omega)
 refine jF (dF gF) (v9 (GK ?_))
 have iV:gQ K r r (J0 (J0 (J0 (t1 (E0 a) j.ai.ls++((aK.mk B (D4 []) false (aD.mk (aj.mk [] []) false))::r7 (E0 a) j.ai.ls)) (E0 a) (aK.mk b.au (D4 (b.aC.ls++ [C])) b.bn b.bf)) (E0 a) (aK.mk g.au (D4 g.aC.ls) false g.bf)) (E0 a) (aK.mk h.au (D4 h.aC.ls) h.bn (aD.mk (aj.mk [] []) false)))=ak:=et (eO) (et (congrArg (λ q=>gQ K r q ak) (eP (ls:=r) (i:=af) e8)) rfl)
 refine GK (GR (Gs (Gq (Mz rfl (Mz rfl (Kz (vP g3 0) (Kz (vP g3 1) (Lz (.slice P K.dC.ls.length Q) bA 1 Tryz.isAgg35 (Mz rfl ?_)))))))))
 have gH:=bA.pf [3]
 refine WL.do rfl (GZ (k:=K.dC.ls.length) (m:=r.length) (iC) gH rfl rfl (eT M6 (gH.rds (i:=4) rfl) (cB lZ r)) rfl e8 (s:=q5 (K.dC.ls++r)) f4 (t2).symm ?_)
 intro gI gJ qM mg
 have oW:q5 (K.dC.ls++r)=K.dC.ls.length+r.length:=by simp only [m8,q6,H2]
 refine Kz (vP g3 0) (Kz (vP g3 1) ?_)
 have mh:=mg.pf [2]
 refine bY [.slice gI (q5 (K.dC.ls++r)) gJ] 1 mh Tryz.sizeOf35 ?_
 intro qN mi
 refine v8 (Hq (res0 rfl) ?_)
 have mo:=mi.px [] [4] [0,3,1]
 obtain⟨rfl,rfl⟩:=fC (zj hr (show _=(aZ.mk (D4 ak),eX.mk (D4 K.aU.ls) (D4 (K.dC.ls++r))) from et (ae dz) (et (dY bU) (et (ae (bz dW)) (et (ae (bz iF)) (et (ae (bz iG)) (et (ae iL) (ae iV))))))))
 exact⟨bL,bM,bv,N,O,gI,gJ,rfl,mo,cZ⟩
end
open List renaming filter_append->M8,filter_cons_of_neg->M9,filter_eq_nil_iff->N0,filter_filter->N1,getElem?_drop->m3,getElem?_eq_getElem->p3,getElem?_eq_some_iff->p2,mem_cons->t7,mem_filter->N2,mem_iff_getElem?->K6,pairwise_append->M7,pairwise_cons->K4
open Nat renaming lt_or_ge->K5
def Up (l:List aK):Prop:=l.Pairwise λ a b=>a.au < b.au
theorem zH {l:List aK} (hs:Up l) {i j:Nat} {a b:aK} (ha:l[i]? =some a) (hb:l[j]? =some b) (h:i < j):a.au < b.au:=by
  obtain⟨c,rfl⟩:=p2.1 ha
  obtain⟨d,rfl⟩:=p2.1 hb
  exact List.pairwise_iff_getElem.1 hs i j c d h
theorem cmp_eq (a b:Nat):dZ a b=if a < b then -1 else if a > b then 1 else 0:=by
  unfold dZ iP
  simp only [dz]
  rw [if_neg f5,if_neg f5]
  by_cases h:a < b
  . rw [if_pos e8,if_pos h]
  . rw [if_neg e8,if_neg h]
    by_cases c:a > b
    . rw [if_pos e8,if_pos c]
    . rw [if_neg e8,if_neg c]
theorem mV {a b:Nat}:dZ a b < 0↔a < b:=by
  rw [cmp_eq]; split
  . omega
  . split <;> omega
theorem wC {a b:Nat}:dZ a b=0↔a=b:=by
  rw [cmp_eq]; split
  . omega
  . split <;> omega
theorem xy {m:List aK} (hs:Up m) (k:Nat):∀ (f i j:Nat),j - i < f->i<=j->j<=m.length->(∀ q p,m[q]? =some p->q < i->p.au < k)->(∀ q p,m[q]? =some p->j<=q->¬ p.au < k)->
    ∃ r,dL m k f i j=r/\r<=m.length/\(∀ q p,m[q]? =some p->q < r->p.au < k)/\(∀ q p,m[q]? =some p->r<=q->¬ p.au < k)
  | 0,i,j,h,_,_,_,_=>e8
  | f+1,i,j,h,hij,hj,hl,hg=>by
    unfold dL
    by_cases b:(i:Int) < (j:Int)
    . obtain⟨x,hx⟩:∃ x,m[(i+j) / 2]? =some x:=⟨_,p3 e8⟩
      rw [if_pos b,dz,dz,bz hx]
      by_cases a:dZ x.au k < 0
      . rw [if_pos a]
        refine xy hs k f _ j e8 e8 hj (λ q p hq hlt=> ?_) hg
        rcases K5 q ((i+j) / 2) with e | e
        . exact Nat.lt_trans (zH hs hq hx e) (mV.1 a)
        . have:q=(i+j) / 2:=e8
          subst this
          rw [hx] at hq; cases hq
          exact mV.1 a
      . rw [if_neg a]
        refine xy hs k f i _ e8 e8 e8 hl (λ q p hq hge hlt=> ?_)
        rcases K5 ((i+j) / 2) q with e | e
        . exact a (mV.2 (Nat.lt_trans (zH hs hx hq e) hlt))
        . have:q=(i+j) / 2:=e8
          subst this
          rw [hx] at hq; cases hq
          exact a (mV.2 hlt)
    . rw [if_neg b]
      have:i=j:=e8
      subst this
      exact⟨i,rfl,hj,hl,hg⟩
structure F7 (m:List aK) (k:Nat) (a b:List aK):Prop where
  app:m=a++b
  lo:∀ p ∈ a,p.au < k
  hi:∀ p ∈ b,k<=p.au
theorem CV {m:List aK} (hs:Up m) (k:Nat):∃ a b,F7 m k a b/\(eG (aZ.mk (D4 m)) k).1=((a.length:Nat):Int)/\((eG (aZ.mk (D4 m)) k).2=true↔∃ p q,b=p::q/\p.au=k):=by
  obtain⟨r,d,i,f,g⟩:=xy hs k (m.length - 0+1) 0 m.length e8 e8 (Nat.le_refl _) (λ q p _ h=>e8) (λ q p hq h=>by have:=(p2.1 hq).1; omega)
  have hlen:(t1 r m).length=r:=by rw [List.length_take]; omega
  have e:eG (aZ.mk (D4 m)) k=((r:Int),(eG (aZ.mk (D4 m)) k).2)/\((eG (aZ.mk (D4 m)) k).2=true↔∃ p,m[r]? =some p/\p.au=k):=by
    unfold eG gF
    simp only [dz,d]
    by_cases c:(r:Int) < ((List.length m:Nat):Int)
    . obtain⟨x,hx⟩:∃ x,m[r]? =some x:=⟨_,p3 e8⟩
      rw [if_pos c,bz hx]
      refine⟨rfl, ?_⟩
      simp only [decide_eq_true_eq,wC,hx,Option.some.injEq,exists_eq_left']
    . rw [if_neg c]
      refine⟨rfl, ?_⟩
      have:m[r]? =none:=List.getElem?_eq_none e8
      simp [this]
  refine⟨t1 r m,r7 r m,⟨(List.take_append_drop r m).symm,λ p hp=> ?_,λ p hp=> ?_⟩, ?_, ?_⟩
  . obtain⟨j,hj⟩:=K6.1 hp
    have hjr:j < r:=by have:=(p2.1 hj).1; omega
    rw [List.getElem?_take,if_pos hjr] at hj
    exact f j p hj hjr
  . obtain⟨j,hj⟩:=K6.1 hp
    rw [m3] at hj
    exact Nat.le_of_not_lt (g _ p hj e8)
  . rw [e.1,hlen]
  . rw [e.2]
    constructor
    . rintro ⟨p,hp,hk⟩
      exact⟨p,r7 (r+1) m,drop_at hp,hk⟩
    . rintro ⟨p,q,hp,hk⟩
      refine⟨p, ?_,hk⟩
      have:(r7 r m)[0]? =some p:=by rw [hp]; rfl
      rwa [m3,Nat.add_zero] at this
theorem zb {l:List aK} (p:aK->Bool) (h:Up l):Up (l.filter p):=h.filter p
theorem BA {a b:List aK} {p:aK} (h:Up (a++p::b)):Up a/\Up b/\(∀ r ∈ a,r.au < p.au)/\(∀ r ∈ b,p.au < r.au):=by
  have c:=M7.1 h
  have d:=K4.1 c.2.1
  exact⟨c.1,d.2,λ r hr=>c.2.2 r hr p b3,d.1⟩
theorem mG {m:List aK} (hs:Up m) (t:Nat):
    (∃ a p q,m=a++p::q/\p.au=t/\(∀ r ∈ a,r.au < t)/\(∀ r ∈ q,t < r.au)/\eG (aZ.mk (D4 m)) t=((a.length:Int),true))\/
    (∃ a q,m=a++q/\(∀ r ∈ a,r.au < t)/\(∀ r ∈ q,t < r.au)/\eG (aZ.mk (D4 m)) t=((a.length:Int),false)):=by
  obtain⟨a,b,hc,f,g⟩:=CV hs t
  have e:∀ x:Int × Bool,x=(x.1,x.2):=λ _=>rfl
  cases hb:(eG (aZ.mk (D4 m)) t).2 with
  | true=>
    obtain⟨p,q,rfl,hp⟩:=g.1 hb
    refine .inl ⟨a,p,q,hc.app,hp,hc.lo,λ r hr=> ?_, ?_⟩
    . have:=(BA (hc.app ▸ hs)).2.2.2 r hr; omega
    . rw [e (eG _ _),f,hb]
  | false=>
    refine .inr ⟨a,b,hc.app,hc.lo,λ r hr=> ?_, ?_⟩
    . have i:=hc.hi r hr
      rcases K5 t r.au with h | h
      . exact h
      . exfalso
        have c:r.au=t:=e8
        cases b with
        | nil=>cases hr
        | cons p q=>
          have hup:=BA (hc.app ▸ hs)
          rcases t7.1 hr with d | d
          . exact absurd (g.2 ⟨p,q,rfl,by rw [<- d]; exact c⟩) (by rw [hb]; decide)
          . have:=hup.2.2.2 r d; have:=hc.hi p b3; omega
    . rw [e (eG _ _),f,hb]
def but (t:Nat) (l:List aK):List aK:=l.filter λ r=>decide (r.au≠t)
theorem mH {l:List aK} {p:aK->Bool} (h:∀ r ∈ l,p r=true):l.filter p=l:=List.filter_eq_self.2 h
theorem qm {m:List aK} (hs:Up m) (t:Nat):jd (aZ.mk (D4 m)) t=aZ.mk (D4 (but t m)):=by
  unfold jd but
  rw [dz]
  rcases mG hs t with ⟨a,p,q,rfl,hp,ha,hq,hf⟩ | ⟨a,q,rfl,ha,hq,hf⟩
  . rw [hf,if_pos rfl]
    have b:List.filter (λ r:aK=>decide (r.au≠t)) (a++p::q)=a++q:=by
      rw [M8,M9 (by simp [hp]),mH (λ r hr=>decide_eq_true (Nat.ne_of_lt (ha r hr))),mH (λ r hr=>decide_eq_true (Nat.ne_of_gt (hq r hr)))]
    rw [b]
    simp only [Int.toNat_natCast,show (a.length:Int)+1=((a.length+1:Nat):Int) from by omega]
    have c:r7 (a.length+1) (a++p::q)=q:=by rw [show a++p::q=(a++ [p])++q by simp]; exact List.drop_left' i5
    have d:t1 a.length (a++p::q)=a:=List.take_left' rfl
    rw [c,d]
  . rw [hf,if_neg i5]
    have b:List.filter (λ r:aK=>decide (r.au≠t)) (a++q)=a++q:=mH λ r hr=>by
      rcases List.mem_append.1 hr with h | h
      . exact decide_eq_true (Nat.ne_of_lt (ha r h))
      . exact decide_eq_true (Nat.ne_of_gt (hq r h))
    rw [b]
def zl:aD:=aD.mk (aj.mk [] []) false
def old (l:List aK) (t:Nat):List aD:=(l.filter λ r=>decide (r.au=t)).flatMap λ r=>r.aC.ls
def iE (l:List aK) (t:Nat) (x:aD):List aK:=(l.filter λ r=>decide (r.au < t))++(aK.mk t (D4 (old l t++ [x])) false zl::l.filter λ r=>decide (t < r.au))
def dies (t:Nat) (x:aD) (r:aK):Bool:=r.bn && (decide (t < r.au) && ((kF x.aB r.bf.aB).2 && (x.eH || r.bf.eH)))
theorem uT {a q:List aK} {p:aK} {t:Nat} (x:aD) (hp:p.au=t) (ha:∀ r ∈ a,r.au < t) (hq:∀ r ∈ q,t < r.au):iE (a++p::q) t x=a++aK.mk t (D4 (p.aC.ls++ [x])) false zl::q:=by
  have fa:∀ {l:List aK} {f:aK->Bool},(∀ r ∈ l,f r=false)->l.filter f= []:=λ {l f} h=>N0.2 λ r hr=>by rw [h r hr]; decide
  unfold iE old
  rw [M8,M8,M8,M9 (by simp [hp]),List.filter_cons_of_pos (by simp [hp]),M9 (by simp [hp])]
  rw [mH (λ r hr=>decide_eq_true (ha r hr)),fa (l:=q) (λ r hr=>decide_eq_false (by have:=hq r hr; omega)),fa (l:=a) (f:=λ r=>decide (t < r.au)) (λ r hr=>decide_eq_false (by have:=ha r hr; omega)),mH (λ r hr=>decide_eq_true (hq r hr)),fa (l:=a) (f:=λ r=>decide (r.au=t)) (λ r hr=>decide_eq_false (by have:=ha r hr; omega)),fa (l:=q) (f:=λ r=>decide (r.au=t)) (λ r hr=>decide_eq_false (by have:=hq r hr; omega))]
  simp
theorem wL {a q:List aK} {t:Nat} (x:aD) (ha:∀ r ∈ a,r.au < t) (hq:∀ r ∈ q,t < r.au):iE (a++q) t x=a++aK.mk t (D4 ([]++ [x])) false zl::q:=by
  have fa:∀ {l:List aK} {f:aK->Bool},(∀ r ∈ l,f r=false)->l.filter f= []:=λ {l f} h=>N0.2 λ r hr=>by rw [h r hr]; decide
  unfold iE old
  rw [M8,M8,M8]
  rw [mH (λ r hr=>decide_eq_true (ha r hr)),fa (l:=q) (λ r hr=>decide_eq_false (by have:=hq r hr; omega)),fa (l:=a) (f:=λ r=>decide (t < r.au)) (λ r hr=>decide_eq_false (by have:=ha r hr; omega)),mH (λ r hr=>decide_eq_true (hq r hr)),fa (l:=a) (f:=λ r=>decide (r.au=t)) (λ r hr=>decide_eq_false (by have:=ha r hr; omega)),fa (l:=q) (f:=λ r=>decide (r.au=t)) (λ r hr=>decide_eq_false (by have:=hq r hr; omega))]
  simp
theorem ym {a q:List aK} {p:aK} {t:Nat} (hs:Up (a++q)) (hp:p.au=t) (ha:∀ r ∈ a,r.au < t) (hq:∀ r ∈ q,t < r.au):Up (a++p::q):=by
  have h:=M7.1 hs
  refine M7.2 ⟨h.1,K4.2 ⟨λ r hr=>by rw [hp]; exact hq r hr,h.2.1⟩,λ r hr s hs=> ?_⟩
  rcases t7.1 hs with e | e
  . rw [e,hp]; exact ha r hr
  . exact h.2.2 r hr s e
theorem rM {l:List aK} (hs:Up l) (t:Nat) (x:aD):Up (iE l t x):=by
  rcases mG hs t with ⟨a,p,q,rfl,hp,ha,hq,_⟩ | ⟨a,q,rfl,ha,hq,_⟩
  . rw [uT x hp ha hq]
    have h:=M7.1 hs
    have b:=K4.1 h.2.1
    exact ym (M7.2 ⟨h.1,b.2,λ r hr s hs=>h.2.2 r hr s (.tail _ hs)⟩) rfl ha hq
  . rw [wL x ha hq]; exact ym hs rfl ha hq
theorem CW {a:eX} {z:List Nat}:∀ {l:List aK} (ds:List Nat),Up l->gP a z ds l=l.filter λ r=>decide (r.au ∉ ds)
  | l, [],h=>by rw [gP]; exact(mH λ r hr=>by simp).symm
  | l,d::ds,h=>by
    rw [gP,dz,qm h]
    show gP a z ds (but d l)=_
    have hb:Up (but d l):=zb _ h
    rw [CW ds hb]
    unfold but
    rw [N1]
    congr 1
    funext r
    simp only [t7,not_or, <- Bool.decide_and]
    exact decide_eq_decide.2 ⟨λ h=>⟨h.2,h.1⟩,λ h=>⟨h.2,h.1⟩⟩
theorem CX {a:eX} {z:List Nat}:∀ {l:List aK} (ds:List Nat),Up l->gQ a z ds l=l.filter λ r=>decide (r.au ∉ ds)
  | l, [],h=>by rw [gQ]; exact(mH λ r hr=>by simp).symm
  | l,d::ds,h=>by
    rw [gQ,dz,qm h]
    show gQ a z ds (but d l)=_
    have hb:Up (but d l):=zb _ h
    rw [CX ds hb]
    unfold but
    rw [N1]
    congr 1
    funext r
    simp only [t7,not_or, <- Bool.decide_and]
    exact decide_eq_decide.2 ⟨λ h=>⟨h.2,h.1⟩,λ h=>⟨h.2,h.1⟩⟩
theorem yn {l:List aK} (h:Up l) {r s:aK} (hr:r ∈ l) (hs:s ∈ l) (e:r.au=s.au):r=s:=by
  obtain⟨i,hi⟩:=K6.1 hr
  obtain⟨j,hj⟩:=K6.1 hs
  rcases Nat.lt_trichotomy i j with c | c | c
  . have:=zH h hi hj c; omega
  . rw [c,hj] at hi; exact(Option.some.inj hi).symm
  . have:=zH h hj hi c; omega
theorem Ae {l:List aK} (h:Up l) (f:aK->Bool):(l.filter λ r=>decide (r.au ∉ (l.filter f).map λ q=>q.au))=l.filter λ r=> !f r:=by
  refine List.filter_congr λ r hr=> ?_
  cases hf:f r with
  | true=>
    refine decide_eq_false ?_
    intro hn
    exact hn (List.mem_map.2 ⟨r,N2.2 ⟨hr,hf⟩,rfl⟩)
  | false=>
    refine decide_eq_true λ hn=> ?_
    obtain⟨s,hs,e⟩:=List.mem_map.1 hn
    have:=yn h (N2.1 hs).1 hr e
    rw [this] at hs
    exact absurd (N2.1 hs).2 (by rw [hf]; decide)
theorem gd {α:Type} [Inhabited α] (a q:List α) (p:α):List.getD (a++p::q) a.length default=p:=by simp
theorem stt {α:Type} (a q:List α) (p y:α):List.set (a++p::q) a.length y=a++y::q:=by simp
theorem lw (t:Nat) (x:aD) (e:aK) (acc:List Nat) (r:List aK) {b:Bool} (hb:dies t x e=b):
    acc++List.map (λ q:aK=>q.au) (List.filter (dies t x) (e::r))=(if b=true then acc++ [e.au] else acc)++List.map (λ q:aK=>q.au) (List.filter (dies t x) r):=by
  cases b with
  | true=>rw [List.filter_cons_of_pos hb,if_pos rfl,List.map_cons,List.append_assoc]; rfl
  | false=>rw [List.filter_cons_of_neg (by rw [hb]; decide),if_neg f5]
theorem Gh (o:aZ) (t:Nat) (x:aD) (p:eX) (i:Int) (a b c:aK) (LA:List aK)
    (hLA:(List.set (List.set (List.set o.ai.ls (Int.toNat i) (aK.mk a.au (Ll.mk (a.aC.ls++ [x])) a.bn a.bf)) (Int.toNat i) (aK.mk b.au (Ll.mk b.aC.ls) false b.bf)) (Int.toNat i) (aK.mk c.au (Ll.mk c.aC.ls) c.bn (aD.mk (aj.mk [] []) false)))=LA):
    ∀ (q:Nat) (acc:List Nat) (k:Nat),q=LA.length - k->dP o t x p i a b c q acc k=acc++List.map (λ q:aK=>q.au) (List.filter (dies t x) (List.drop k LA)):=by
  intro q
  induction q with
  | zero=>intro acc k h; rw [dP,List.drop_eq_nil_of_le e8]; simp
  | succ q ih=>
    intro acc k h
    obtain⟨e,he⟩:∃ e,LA[k]? =some e:=⟨_,List.getElem?_eq_getElem e8⟩
    rw [dP,hLA,dz,bz he,drop_at he]
    simp only [dz]
    have g:=ih (acc++ [e.au]) (k+1) e8
    have n:=ih acc (k+1) e8
    by_cases d:e.bn=true
    . rw [if_pos d]
      by_cases m:t < e.au
      . rw [if_pos e8]
        by_cases f:(kF x.aB e.bf.aB).2=true
        . rw [if_pos f]
          by_cases j:x.eH=true
          . rw [if_pos j,lw t x e acc _ (b:=true) (by unfold dies; rw [d,f,j,decide_eq_true m]; rfl),if_pos rfl]; exact g
          . rw [if_neg j]
            by_cases l:e.bf.eH=true
            . rw [if_pos l,lw t x e acc _ (b:=true) (by unfold dies; rw [d,f,l,decide_eq_true m,Bool.or_true]; rfl),if_pos rfl]; exact g
            . rw [if_neg l,lw t x e acc _ (b:=false) (by unfold dies; rw [Bool.eq_false_iff.2 j,Bool.eq_false_iff.2 l]; simp),if_neg f5]; exact n
        . rw [if_neg f,lw t x e acc _ (b:=false) (by unfold dies; rw [Bool.eq_false_iff.2 f]; simp),if_neg f5]; exact n
      . rw [if_neg e8,lw t x e acc _ (b:=false) (by unfold dies; rw [decide_eq_false m]; simp),if_neg f5]; exact n
    . rw [if_neg d,lw t x e acc _ (b:=false) (by unfold dies; rw [Bool.eq_false_iff.2 d]; rfl),if_neg f5]; exact n
theorem Gi (m:aZ) (t:Nat) (x:aD) (p:eX) (i:Int) (a b c:aK) (LA:List aK)
    (hLA:(List.set (List.set (List.set (List.take (Int.toNat i) m.ai.ls++((aK.mk t (Ll.mk []) false (aD.mk (aj.mk [] []) false))::List.drop (Int.toNat i) m.ai.ls)) (Int.toNat i) (aK.mk a.au (Ll.mk (a.aC.ls++ [x])) a.bn a.bf)) (Int.toNat i) (aK.mk b.au (Ll.mk b.aC.ls) false b.bf)) (Int.toNat i) (aK.mk c.au (Ll.mk c.aC.ls) c.bn (aD.mk (aj.mk [] []) false)))=LA):
    ∀ (q:Nat) (acc:List Nat) (k:Nat),q=LA.length - k->dQ m t x p i a b c q acc k=acc++List.map (λ q:aK=>q.au) (List.filter (dies t x) (List.drop k LA)):=by
  intro q
  induction q with
  | zero=>intro acc k h; rw [dQ,List.drop_eq_nil_of_le e8]; simp
  | succ q ih=>
    intro acc k h
    obtain⟨e,he⟩:∃ e,LA[k]? =some e:=⟨_,List.getElem?_eq_getElem e8⟩
    rw [dQ,hLA,dz,bz he,drop_at he]
    simp only [dz]
    have g:=ih (acc++ [e.au]) (k+1) e8
    have n:=ih acc (k+1) e8
    by_cases d:e.bn=true
    . rw [if_pos d]
      by_cases o:t < e.au
      . rw [if_pos e8]
        by_cases f:(kF x.aB e.bf.aB).2=true
        . rw [if_pos f]
          by_cases j:x.eH=true
          . rw [if_pos j,lw t x e acc _ (b:=true) (by unfold dies; rw [d,f,j,decide_eq_true o]; rfl),if_pos rfl]; exact g
          . rw [if_neg j]
            by_cases l:e.bf.eH=true
            . rw [if_pos l,lw t x e acc _ (b:=true) (by unfold dies; rw [d,f,l,decide_eq_true o,Bool.or_true]; rfl),if_pos rfl]; exact g
            . rw [if_neg l,lw t x e acc _ (b:=false) (by unfold dies; rw [Bool.eq_false_iff.2 j,Bool.eq_false_iff.2 l]; simp),if_neg f5]; exact n
        . rw [if_neg f,lw t x e acc _ (b:=false) (by unfold dies; rw [Bool.eq_false_iff.2 f]; simp),if_neg f5]; exact n
      . rw [if_neg e8,lw t x e acc _ (b:=false) (by unfold dies; rw [decide_eq_false o]; simp),if_neg f5]; exact n
    . rw [if_neg d,lw t x e acc _ (b:=false) (by unfold dies; rw [Bool.eq_false_iff.2 d]; rfl),if_neg f5]; exact n
theorem o9 {m:List aK} (hs:Up m) (t:Nat) (x:aD) (c:eX):iT (aZ.mk (Ll.mk m)) t x c=
    (aZ.mk (Ll.mk ((iE m t x).filter λ r=> !dies t x r)),eX.mk (Ll.mk c.aU.ls) (Ll.mk (c.dC.ls++List.map (λ q:aK=>q.au) ((iE m t x).filter (dies t x))))):=by
  have hu:=rM hs t x
  unfold iT
  rw [dz]
  rcases mG hs t with ⟨a,p,q,rfl,hp,ha,hq,hf⟩ | ⟨a,q,rfl,ha,hq,hf⟩
  . rw [hf,if_pos rfl]
    rw [uT x hp ha hq] at hu ⊢
    simp only [dz,Int.toNat_natCast,gd,stt]
    rw [Gh _ t x c _ _ _ _ (a++aK.mk t (Ll.mk (p.aC.ls++ [x])) false zl::q) (by simp only [Int.toNat_natCast,stt, <- hp]; rfl) _ [] 0 i5]
    rw [List.drop_zero,List.nil_append]
    have e:(a++ { au:=p.au,aC:= { ls:=p.aC.ls++ [x] },bn:=false,bf:= { aB:= { aO:= [],aS:= [] },eH:=false } }::q)=(a++aK.mk t (Ll.mk (p.aC.ls++ [x])) false zl::q):=by rw [<- hp]; rfl
    rw [e,CW _ hu,Ae hu]
  . rw [hf,if_neg i5]
    rw [wL x ha hq] at hu ⊢
    have b:List.drop a.length (a++q)=q:=List.drop_left' rfl
    have d:List.take a.length (a++q)=a:=List.take_left' rfl
    simp only [dz,Int.toNat_natCast,b,d,gd,stt]
    rw [Gi _ t x c _ _ _ _ (a++aK.mk t (Ll.mk ([]++ [x])) false zl::q) (by simp only [Int.toNat_natCast,b,d,stt]; rfl) _ [] 0 i5]
    rw [List.drop_zero,List.nil_append]
    have e:(a++ { au:=t,aC:= { ls:= []++ [x] },bn:=false,bf:= { aB:= { aO:= [],aS:= [] },eH:=false } }::q)=(a++aK.mk t (Ll.mk ([]++ [x])) false zl::q):=rfl
    rw [e,CX _ hu,Ae hu]
open List renaming length_filter_le->N5,map_cons->s6,sum_append->N6,sum_cons->N3
open Nat renaming le_trans->N4
def oF (r:aK):Nat:=if r.bn=true then 1 else 0
def Wt (l:List aK):Nat:=(l.map oF).sum
def kQ (l:List aK):Nat:=(l.map λ r=>q5 r.aC.ls+oF r).sum
theorem ma {f:aK->Nat} (p:aK->Bool):∀ l:List aK,((l.filter p).map f).sum<=(l.map f).sum
  | []=>Nat.le_refl _
  | a::l=>by
    have ih:=ma (f:=f) p l
    rw [List.filter_cons]
    by_cases h:p a=true
    . rw [if_pos h]; simp only [s6,N3]; omega
    . rw [if_neg h]; simp only [s6,N3]; omega
theorem Af {f:aK->Nat} {r:aK}:∀ {l:List aK},r ∈ l->f r<=(l.map f).sum
  | a::l,h=>by
    simp only [s6,N3]
    rcases List.mem_cons.1 h with e | e
    . rw [e]; omega
    . have:=Af (f:=f) e; omega
theorem Fe (l:List aK):Wt l<=kQ l:=by
  unfold Wt kQ
  induction l with
  | nil=>exact Nat.le_refl _
  | cons a l ih=>simp only [s6,N3]; omega
structure Fit (l:List aK):Prop where
  up:Up l
  len:q5 l<=999999
  tot:kQ l<=1000000
theorem Fit.hd {l:List aK} (h:Fit l):Hd l:=λ r hr=>by
  have:=Af (f:=λ r:aK=>q5 r.aC.ls+oF r) hr
  have:=h.tot
  unfold kQ at this
  omega
theorem Fit.wt {l:List aK} (h:Fit l):Wt l<=1000000:=N4 (Fe l) h.tot
theorem Fit.filter {l:List aK} (h:Fit l) (p:aK->Bool):Fit (l.filter p):=⟨h.up.filter p,N4 (N5 p l) h.len,N4 (ma p l) h.tot⟩
theorem xz {m:List aK} {a:lI} (h:jX (aZ.mk (D4 m))=(a,true)):∃ r ∈ m,r.bn=true/\r.au=a.aV/\r.bf=a.nA/\dX (aZ.mk (D4 m)) a.aV a.nA= []:=by
  have go:∀ l:List aK,(∀ r ∈ l,r ∈ m)->lp (gI (aZ.mk (D4 m)) l) (λ _=>(lI.mk 0 (aD.mk (aj.mk [] []) false),false))=(a,true)->∃ r ∈ m,r.bn=true/\r.au=a.aV/\r.bf=a.nA/\dX (aZ.mk (D4 m)) a.aV a.nA= []:=by
    intro l
    induction l with
    | nil=>intro _ h; exact Bool.noConfusion (show false=true from congrArg Prod.snd h)
    | cons r l ih=>
      intro hm h
      rw [gI] at h
      by_cases b:r.bn=true
      . rw [if_pos b,dz] at h
        by_cases c:(((dX (aZ.mk (D4 m)) r.au r.bf).length:Nat):Int)=0
        . rw [if_pos c] at h
          have e:lI.mk r.au r.bf=a:=congrArg Prod.fst h
          subst e
          exact⟨r,hm r b3,b,rfl,rfl,List.eq_nil_of_length_eq_zero (Int.ofNat.inj c)⟩
        . rw [if_neg c] at h; exact ih (λ s hs=>hm s (.tail _ hs)) h
      . rw [if_neg b] at h; exact ih (λ s hs=>hm s (.tail _ hs)) h
  exact go m (λ _ h=>h) h
theorem xA (l:List aK) (hs:Up l) (t:Nat) (x:aD):q5 (iE l t x)<=q5 l+1:=by
  rcases mG hs t with ⟨a,p,q,rfl,hp,ha,hq,_⟩ | ⟨a,q,rfl,ha,hq,_⟩
  . rw [uT x hp ha hq]; simp only [m8,q6]; omega
  . rw [wL x ha hq]; simp only [m8,q6]; omega
theorem wM (l:List aK) (hs:Up l) (t:Nat) (x:aD):kQ (iE l t x)<=kQ l+1/\Wt (iE l t x)<=Wt l:=by
  rcases mG hs t with ⟨a,p,q,rfl,hp,ha,hq,_⟩ | ⟨a,q,rfl,ha,hq,_⟩
  . rw [uT x hp ha hq]; unfold kQ Wt oF; simp only [M4,s6,N6,N3,m8,q6,H2]; simp; omega
  . rw [wL x ha hq]; unfold kQ Wt oF; simp only [M4,s6,N6,N3,m8,q6,H2]; constructor <;> simp <;> omega
theorem uU {l:List aK} (hs:Up l) {r:aK} (hr:r ∈ l) (hw:r.bn=true) (x:aD):q5 (iE l r.au x)=q5 l/\kQ (iE l r.au x)=kQ l/\Wt (iE l r.au x)+1=Wt l:=by
  rcases mG hs r.au with ⟨a,p,q,rfl,hp,ha,hq,_⟩ | ⟨a,q,rfl,ha,hq,_⟩
  . have e:p=r:=yn hs i5 hr hp
    subst e
    rw [uT x rfl ha hq]
    refine⟨by simp, ?_, ?_⟩
    . unfold kQ oF; simp only [M4,s6,N6,N3,m8,q6,H2,hw]; simp <;> omega
    . unfold Wt oF; simp only [M4,s6,N6,N3,hw]; simp <;> omega
  . rcases List.mem_append.1 hr with h | h
    . exact absurd (ha r h) (Nat.lt_irrefl _)
    . exact absurd (hq r h) (Nat.lt_irrefl _)
theorem wY {m:List aK} (hf:Fit m) {a:lI} (hn:jX (aZ.mk (D4 m))=(a,true)) {c:eX} {b:aZ} {d:eX} (hg:iT (aZ.mk (D4 m)) a.aV a.nA c=(b,d)):
    Fit b.ai.ls/\Wt b.ai.ls+1<=Wt m/\d.aU.ls=c.aU.ls/\q5 d.dC.ls<=q5 c.dC.ls+1000000:=by
  obtain⟨r,hr,hw,ht,hx,_⟩:=xz hn
  rw [o9 hf.up] at hg
  obtain⟨rfl,rfl⟩:_=b/\_=d:=⟨congrArg Prod.fst hg,congrArg Prod.snd hg⟩
  rw [<- ht, <- hx]
  obtain⟨e,g,h⟩:=uU hf.up hr hw r.bf
  have hp:Fit (iE m r.au r.bf):=⟨rM hf.up _ _,by rw [e]; exact hf.len,by rw [g]; exact hf.tot⟩
  refine⟨hp.filter _, ?_,rfl, ?_⟩
  . have:=ma (f:=oF) (λ s=> !dies r.au r.bf s) (iE m r.au r.bf)
    show Wt (List.filter (λ s=> !dies r.au r.bf s) (iE m r.au r.bf))+1<=_
    unfold Wt at this h ⊢
    omega
  . show q5 (c.dC.ls++_)<=_
    rw [m8,List.length_map]
    have:=N5 (dies r.au r.bf) (iE m r.au r.bf)
    have:=hp.len
    omega
theorem ze {α β γ δ ε:Type} {a x:α} {b y:β} {c z:γ} {d u:δ} {e v:ε} (h:(a,b,c,d,e)=(x,y,z,u,v)):a=x/\b=y/\c=z/\d=u/\e=v:=⟨(fC h).1,iR (fC h).2⟩
def Ne (l:List aK):Prop:=∀ r ∈ l,1<=List.length r.aC.ls+oF r
structure jh (l:List aK):Prop where
  up:Up l
  ne:Ne l
  tot:kQ l<=192
theorem yV:∀ {l:List aK},Ne l->List.length l<=kQ l
  | [],_=>Nat.le_refl _
  | a::l,h=>by
    have c:=h a b3
    have b:=yV (l:=l) λ r hr=>h r (.tail _ hr)
    unfold kQ at b ⊢
    simp only [List.length_cons,List.map_cons,List.sum_cons]
    omega
theorem jh.len {l:List aK} (h:jh l):List.length l<=192:=Nat.le_trans (yV h.ne) h.tot
theorem jh.fit {l:List aK} (h:jh l):Fit l:=⟨h.up,by have:=h.len; omega,by have:=h.tot; omega⟩
theorem jh.hd {l:List aK} (h:jh l):Hd l:=h.fit.hd
def qK (l:List Nat):List Nat:=gB l
theorem Ev (l:List Nat):gB l=qK l:=rfl
theorem Ah (a:Int):∀ (q:Nat) (z:Int) (l:List Nat),Int.toNat (z - a) < q->List.length (eD a q z l)=List.length l
  | 0,z,l,h=>e8
  | q+1,z,l,h=>by
    unfold eD
    by_cases c:z > a
    . rw [if_pos c]
      simp only [dz]
      split
      . rw [Ah a q (z - 1) _ e8,List.length_set,List.length_set]
      . rfl
    . rw [if_neg c]
theorem Ai (b a:Int):∀ (q:Nat) (z:Int) (l:List Nat),Int.toNat (a - z) < q->List.length (eF b a q z l)=List.length l
  | 0,z,l,h=>e8
  | q+1,z,l,h=>by
    unfold eF
    by_cases c:z < a
    . rw [if_pos c]
      simp only [dz]
      rw [Ai b a q (z+1) _ e8,Ah b _ z l e8]
    . rw [if_neg c]
theorem FC {l:List Nat} {i:Nat} (h:i+1 < List.length l):(List.set (List.set l (i+1) (List.getD l i default)) i (List.getD l (i+1) default)).Perm l:=by
  have b:l[i]? =some (List.getD l i default):=by rw [List.getD_eq_getElem?_getD,List.getElem?_eq_getElem e8]; rfl
  have c:l[i+1]? =some (List.getD l (i+1) default):=by rw [List.getD_eq_getElem?_getD,List.getElem?_eq_getElem e8]; rfl
  generalize List.getD l i default=x at b ⊢
  generalize List.getD l (i+1) default=y at c ⊢
  have a:l=List.take i l++x::y::List.drop (i+1+1) l:=by
    conv=>lhs; rw [<- List.take_append_drop i l]
    rw [drop_at b,drop_at c]
  have d:List.length (List.take i l)=i:=by rw [List.length_take]; omega
  generalize List.take i l=A at a d
  generalize List.drop (i+1+1) l=B at a
  subst d
  rw [a]
  have e:List.set (A++x::y::B) (A.length+1) x=A++x::x::B:=by
    have:=stt (A++ [x]) B y x
    simp only [List.append_assoc,List.cons_append,List.nil_append,List.length_append,List.length_cons,List.length_nil] at this
    exact this
  rw [e,stt]
  exact List.Perm.append_left A (List.Perm.swap _ _ _)
theorem zf (a:Int) (b:0<=a):∀ (q:Nat) (z:Int) (l:List Nat),Int.toNat (z - a) < q->z < (List.length l:Int)->(eD a q z l).Perm l
  | 0,z,l,h,_=>e8
  | q+1,z,l,h,hz=>by
    unfold eD
    by_cases c:z > a
    . rw [if_pos c]
      simp only [dz]
      split
      . refine(zf a b q (z - 1) _ e8 (by rw [List.length_set,List.length_set]; omega)).trans ?_
        obtain⟨i,rfl⟩:∃ i:Nat,z=((i+1:Nat):Int):=⟨Int.toNat (z - 1),e8⟩
        have d:Int.toNat (((i+1:Nat):Int) - 1)=i:=e8
        rw [d,Int.toNat_natCast]
        exact FC e8
      . exact List.Perm.refl _
    . rw [if_neg c]
theorem zg (a b:Int) (d:0<=a):∀ (q:Nat) (z:Int) (l:List Nat),Int.toNat (b - z) < q->b<=(List.length l:Int)->(eF a b q z l).Perm l
  | 0,z,l,h,_=>e8
  | q+1,z,l,h,hz=>by
    unfold eF
    by_cases c:z < b
    . rw [if_pos c]
      simp only [dz]
      have hp:=zf a d (Int.toNat (z - a)+1) z l e8 e8
      exact(zg a b d q (z+1) _ e8 (by rw [hp.length_eq]; exact hz)).trans hp
    . rw [if_neg c]
theorem xB (l:List Nat):(qK l).Perm l:=by
  unfold qK gB jo iD
  simp only [dz]
  exact zg _ _ (Int.le_refl _) _ _ _ e8 (Int.le_refl _)
theorem wN {l:List Nat} {n:Nat}:n ∈ qK l↔n ∈ l:=(xB l).mem_iff
theorem yX (l:List Nat):List.length (qK l)=List.length l:=by
  unfold qK gB jo iD
  simp only [dz]
  exact Ai _ _ _ _ _ e8
theorem Cb (p:aK->Bool):∀ l:List aK,List.length (l.filter p)+List.length (l.filter λ r=> !p r)=List.length l
  | []=>rfl
  | a::l=>by
    have ih:=Cb p l
    cases h:p a with
    | true=>rw [List.filter_cons_of_pos h,List.filter_cons_of_neg (by rw [h]; decide)]; simp only [List.length_cons]; omega
    | false=>rw [List.filter_cons_of_neg (by rw [h]; decide),List.filter_cons_of_pos (by rw [h]; rfl)]; simp only [List.length_cons]; omega
theorem yu (l:List aK):Wt l<=List.length l:=by
  unfold Wt
  induction l with
  | nil=>exact Nat.le_refl _
  | cons a l ih=>
    simp only [List.map_cons,List.sum_cons,List.length_cons]
    have:oF a<=1:=by unfold oF; split <;> omega
    omega
theorem Ew {m:List aK} (hf:Fit m) {a:lI} (hn:jX (aZ.mk (Ll.mk m))=(a,true)) {c:eX} {b:aZ} {d:eX} (hg:iT (aZ.mk (Ll.mk m)) a.aV a.nA c=(b,d)):
    Fit b.ai.ls/\Wt b.ai.ls+1<=Wt m/\d.aU.ls=c.aU.ls/\List.length d.dC.ls+List.length b.ai.ls<=List.length c.dC.ls+List.length m:=by
  obtain⟨e,f,g,_⟩:=wY hf hn hg
  refine⟨e,f,g, ?_⟩
  obtain⟨r,hr,hw,ht,hx,_⟩:=xz hn
  rw [o9 hf.up] at hg
  obtain⟨rfl,rfl⟩:_=b/\_=d:=⟨congrArg Prod.fst hg,congrArg Prod.snd hg⟩
  rw [<- ht, <- hx]
  obtain⟨h,_,_⟩:=uU hf.up hr hw r.bf
  have i:=Cb (dies r.au r.bf) (iE m r.au r.bf)
  show List.length (c.dC.ls++_)+List.length (List.filter (λ s=> !dies r.au r.bf s) (iE m r.au r.bf))<=_
  rw [List.length_append,List.length_map]
  omega
theorem FD {m:List aK} (h:jh m) {t:Nat} {a:aZ} (hr:jd (aZ.mk (Ll.mk m)) t=a):Fit a.ai.ls/\List.length a.ai.ls<=List.length m/\Wt a.ai.ls<=List.length a.ai.ls:=by
  rw [qm h.up] at hr
  subst hr
  exact⟨h.fit.filter _,List.length_filter_le _ m,yu _⟩
theorem F8 {m:List aK} (h:jh m) {t:Nat} {x:aD} {c:eX} {a:aZ} {b:eX} (hg:iT (aZ.mk (Ll.mk m)) t x c=(a,b)):
    Fit a.ai.ls/\List.length b.dC.ls+List.length a.ai.ls<=List.length c.dC.ls+List.length m+1/\Wt a.ai.ls<=List.length a.ai.ls/\b.aU.ls=c.aU.ls:=by
  rw [o9 h.up] at hg
  obtain⟨rfl,rfl⟩:_=a/\_=b:=⟨congrArg Prod.fst hg,congrArg Prod.snd hg⟩
  have d:=xA m h.up t x
  obtain⟨e,f⟩:=wM m h.up t x
  have g:=h.len
  have i:=h.tot
  have hp:Fit (iE m t x):=⟨rM h.up _ _,e8,e8⟩
  have j:=Cb (dies t x) (iE m t x)
  refine⟨hp.filter _, ?_,yu _,rfl⟩
  show List.length (c.dC.ls++_)+List.length (List.filter (λ r=> !dies t x r) (iE m t x))<=_
  rw [List.length_append,List.length_map]
  omega
open _root_.Go.Proofs.Tryz renaming isAgg35->C5
section
open Go.RowKit
def df:Nat->List aK->List Nat->List Nat->(List aK) × (List Nat) × (List Nat)
  | 0,c,d,e=>default
  | f+1,c,d,e=>bnd (jX (aZ.mk (D4 c))) λ a=>if a.2=true then bnd (iT (aZ.mk (D4 c)) a.1.aV a.1.nA (eX.mk (D4 d) (D4 e))) λ b=>df f b.1.ai.ls (b.2.aU.ls++ [a.1.aV]) b.2.dC.ls else(c,d,e)
def jY (c:aZ) (d:eX):aZ × eX:=
 bnd (df ((Wt c.ai.ls)+1) c.ai.ls d.aU.ls d.dC.ls) λ sLrL=>bnd (gB sLrL.2.1) λ a=>bnd (gB sLrL.2.2) λ b=>(aZ.mk (D4 sLrL.1),eX.mk (D4 a) (D4 b))
theorem qo (w D g0) (F:aZ) (I J B x) (z:eX) (K L M N) (r0:aZ) (r1:eX) (H:Own w D w [blk g0 [.slice I F.ai.ls.length J] 114,row I F.ai.ls.length J (q0 ay.cells B) 164 6,sepL (q0 GU B),blk x [.slice K z.aU.ls.length L, .slice M z.dC.ls.length N] 157,row K z.aU.ls.length L (q0 (eN .u64) z.aU.ls) 32 1,row M z.dC.ls.length N (q0 (eN .u64) z.dC.ls) 32 1]) (O:List.map ay.abs B=F.ai.ls) (eH:Fit F.ai.ls) (eO:F.ai.ls.length+z.dC.ls.length<=12) (eP:Wt F.ai.ls+z.aU.ls.length<=12) (hr:jY F z=(r0,r1)):
    Calls Tryz.prog 73 #[vP g0 0,vP x 0] w (dG λ v w'=> ∃ P Q A R S T U,v= .tuple #[]/\Own w D w' [blk g0 [.slice P r0.ai.ls.length Q] 114,row P r0.ai.ls.length Q (q0 ay.cells A) 164 6,sepL (q0 GU A),blk x [.slice R r1.aU.ls.length S, .slice T r1.dC.ls.length U] 157,row R r1.aU.ls.length S (q0 (eN .u64) r1.aU.ls) 32 1,row T r1.dC.ls.length U (q0 (eN .u64) r1.dC.ls) 32 1]/\(List.map ay.abs A=r0.ai.ls)/\(r1.aU.ls.length<=12/\r1.dC.ls.length<=12)):=by
 unfold jY at hr
 have bS:=aW O
 have bT:=H.rowC (i:=1) rfl
 have bU:=H.rowC (i:=4) rfl
 have bV:=H.rowC (i:=5) rfl
 refine cb Tryz.func73 ?_
 refine Gp (bo ?_)
 have bX:=H.pf [0,3]
 obtain⟨bZ,V⟩:=FW λ u (g:Nat) h a j (l:Nat) c n (p:Nat) b (W:Nat) w'=>Own w D w' [blk g0 [.slice u a.length g] 114,blk x [.slice j c.length l, .slice n b.length p] 157,row u a.length g (q0 ay.cells h) 164 6,sepL (q0 GU h),row j c.length l (q0 (eN .u64) c) 32 1,row n b.length p (q0 (eN .u64) b) 32 1]/\List.map ay.abs h=a/\Fit a/\Hd a/\a.length+b.length<=12/\c.length+Wt a<=12/\Wt a < W/\df ((Wt F.ai.ls)+1) F.ai.ls z.aU.ls z.dC.ls=df W a c b
 refine Wp.loop (λ i:(Option Addr) × Nat × (List ay) × (List aK) × (Option Addr) × Nat × (List Nat) × (Option Addr) × Nat × (List Nat) × Nat=> [(0,vP g0 0),(1,vP x 0)]) bZ (λ i=>i.2.2.2.2.2.2.2.2.2.2) (I,J,B,F.ai.ls,K,L,z.aU.ls,M,N,z.dC.ls,(Wt F.ai.ls)+1) ⟨rfl,rfl,trivial⟩ (V.2 ⟨bX,by exact O,f6,by exact Fit.hd f6,e8,e8,e8,rfl⟩) ?_
 rintro ⟨u,g,h,a,j,l,c,n,p,b,W⟩ eQ bn
 show Wp _ _ _ [(0,vP g0 0),(1,vP x 0)] _ _
 obtain⟨aR,C,dF,dH,dI,dK,dL,aC⟩:=V.1 bn
 have dM:=aW C
 obtain⟨aS,bq⟩:∃ q,W=q+1:=⟨W - 1,e8⟩
 subst bq
 refine bo (sr (Mz rfl ?_))
 have dO:=aR.rowC (i:=2) rfl
 obtain⟨⟨d,az⟩,E⟩:∃ q:lI × Bool,jX (aZ.mk (D4 a))=q:=⟨_,rfl⟩
 obtain⟨eU,bu,dP,bv,aF⟩:=G9 aR
 refine cl Tryz.call121 (vC _ _ g0 (aZ.mk (D4 a)) u g h d az bu C (aF _ 1 _ rfl bQ) e8 (λ x9 h9=>⟨aF _ 2 _ rfl (bP (M5.2 ⟨x9,h9,b3⟩) bQ),dJ (φ:=λ _=>_) aR (i:=3) rfl (bP (M5.2 ⟨x9,h9,b3⟩) dN)⟩) f9 E) ?_
 rintro _ eY ⟨rfl,bz⟩
 have cu:=bv _ _ bz
 refine Mz rfl (Kz (.agg (lI.cells d).toArray) (Kz (.bool az) ?_))
 refine bW [.int .u64 0, .string ⟨List.toArray []⟩, .string ⟨List.toArray []⟩, .bool false] 194 cu ?_
 intro aT eZ cz
 refine bY (lI.cells d) 0 cz Tryz.sizeOf194 ?_
 intro fe aA
 refine An rfl (Gp (sr (Mz rfl (Kz (.bool (!az)) (nt ?_)))))
 rcases Kq (az) with G | G
 refine jF (cn G) (sk (sr (Mz rfl (Kz (vP aT 0) (Lz (vU d.aV) aA 0 Tryz.isAgg32 (Kz (vP aT 1) (La (aD.cells d.nA) aA 0 Tryz.isAgg118 Tryz.sizeOf118 (Mz rfl ?_))))))))
 have cK:=aA.pb [2,5,6,0]
 obtain⟨⟨X,r⟩,Y⟩:∃ q:aZ × eX,iT (aZ.mk (D4 a)) d.aV d.nA (eX.mk (D4 c) (D4 b))=q:=⟨_,rfl⟩
 obtain⟨fo,bA,dS,bB,dU⟩:=Ic cK
 refine cl Tryz.call72 (qJ _ _ g0 (aZ.mk (D4 a)) u g h d.aV d.nA x (eX.mk (D4 c) (D4 b)) j l n p X r bA C f9 f6 j1 Y) ?_
 rintro _ fq ⟨cO,cZ,dh,fu,fw,di,dm,rfl,bC,aG⟩
 have aB:=bB _ _ bC
 have dV:=aW aG
 have dW:=aB.rowC (i:=1) rfl
 have dX:=aB.rowC (i:=4) rfl
 have dZ:=aB.rowC (i:=5) rfl
 obtain⟨bD,aH,Z,aI⟩:=Ew (m:=a) f6 (E.trans (congrArg (λ q=>(_,q)) G)) Y
 replace aH:Wt X.ai.ls+1<=Wt a:=aH
 replace Z:r.aU.ls=c:=Z
 replace aI:r.dC.ls.length+X.ai.ls.length<=b.length+a.length:=aI
 have d9:r.aU.ls.length=c.length:=by rw [Z]
 have ed:X.ai.ls.length<=999999:=bD.len
 refine nt ?_
 refine l5 7 [8,11] (bH.block (GD (bH.block (GD GQ)))) aB ?_
 intro fA dn
 refine Hf (v:=vP x 0) 0 rfl e9 (λ _=>Gv rfl) (qv 1 rfl rfl (qp x 0 2 rfl (qp x 0 3 rfl (ql 4 rfl 3 C5 rfl rfl rfl (qp aT 0 5 rfl (ql 6 rfl 6 Tryz.isAgg32 rfl rfl rfl ?_))))))
 refine qd 7 rfl (Hw (cs:= [vU d.aV]) (t:=32) (sz:=1) (m:=1) dn rfl rfl (λ _=>by kernel_rfl) rfl f5 ?_)
 intro dw ek aa
 replace aa:=Ha (y:=row dw 1 1 (q0 (eN .u64) ([d.aV])) 32 1) rfl aa
 have aJ:=aa.pb [0]
 refine⟨.inr ⟨_,aJ⟩, ?_⟩
 have aL:=aJ.pf [4]
 refine qd 8 rfl (GZ (k:=r.aU.ls.length) (m:=1) (iC) aL rfl rfl (eT Tryz.underlying35 (aL.rds (i:=7) rfl) (cB lZ ([d.aV]))) rfl e8 (s:=q5 (r.aU.ls++ [d.aV])) f4 (List.flatMap_append).symm ?_)
 intro aM aN eu bE
 have dx:q5 (r.aU.ls++ [d.aV])=r.aU.ls.length+1:=by simp only [m8,q6,H2]
 refine⟨.inl e9, ?_⟩
 refine Hf (v:=vP x 0) 9 rfl e9 (λ _=>yk) (Hf (v:=vP x 0) 10 rfl e9 (λ _=>yk) ?_)
 have bF:=bE.pf [4]
 refine qe 11 rfl (Do.store (vs:= [.slice aM (q5 (r.aU.ls++ [d.aV])) aN]) (o:=0) bF rfl rfl Tryz.sizeOf35 rfl rfl rfl rfl ?_)
 intro eB bG
 refine⟨.inl e9, ?_⟩
 refine qn (bN ?_)
 have bI:=bG.px [2] [6,7] [1,5]
 exact GL (cO,cZ,dh,X.ai.ls,aM,aN,(r.aU.ls++ [d.aV]),di,dm,r.dC.ls,aS) ⟨rfl,rfl,trivial⟩ (V.2 ⟨bI,by exact aG,f6,by exact Fit.hd f6,e8,e8,e8,et (aC) (et (ae E) (et (ip G) (ae Y)))⟩) (by show aS < aS+1; omega)
 refine jT (cn G) (Wp.exit (GK (Jr rfl ?_)))
 have aU:df ((Wt F.ai.ls)+1) F.ai.ls z.aU.ls z.dC.ls=(a,c,b):=et (aC) (et (ae E) (dY G))
 refine GK (GR (Gs (Gp ?_)))
 have aO:=aA.px [] [0] []
 refine Gq (Mz rfl (Kz (vP x 0) (Kz (vP x 0) (Lz (.slice j c.length l) aO 1 C5 ?_))))
 have bJ:=aO.pf [4]
 obtain⟨e,af⟩:∃ q,gB c=q:=⟨_,rfl⟩
 obtain⟨eD,aV,dz,aX,dA⟩:=G9 bJ
 refine cl Tryz.call122 (nK _ _ j c.length l c e aV rfl e8 e8 af) ?_
 rintro _ eF ⟨rfl,aY,ag⟩
 have ah:=aX _ _ aY
 have dB:=ah.rowC (i:=0) rfl
 replace ag:e.length=c.length:=ag
 refine nt (Gq (Mz rfl (Kz (vP x 0) (Kz (vP x 1) (Lz (.slice n b.length p) ah 2 C5 ?_)))))
 have bK:=ah.pf [5]
 obtain⟨f,ai⟩:∃ q,gB b=q:=⟨_,rfl⟩
 obtain⟨eG,bf,dC,bg,dD⟩:=G9 bK
 refine cl Tryz.call122 (nK _ _ n b.length p b f bf rfl e8 e8 ai) ?_
 rintro _ aP ⟨rfl,bi,aj⟩
 have aQ:=bg _ _ bi
 have dE:=aQ.rowC (i:=0) rfl
 replace aj:f.length=b.length:=aj
 refine WL.nil (Hq (res0 rfl) ?_)
 have ak:c.length=e.length:=by first | omega | (simp only [J1]; done) | (simp only [J1,m8,q6,H2,m6,m7,L4]; omega)
 have bL:Own w D aP [row n b.length p (q0 (eN .u64) f) 32 1,row j e.length l (q0 (eN .u64) e) 32 1,blk g0 [.slice u a.length g] 114,blk x [.slice j e.length l, .slice n b.length p] 157,row u a.length g (q0 ay.cells h) 164 6,sepL (q0 GU h)]:=by rw [<- ak]; exact aQ
 have au:b.length=f.length:=by first | omega | (simp only [J1]; done) | (simp only [J1,m8,q6,H2,m6,m7,L4]; omega)
 have bM:Own w D aP [row n f.length p (q0 (eN .u64) f) 32 1,row j e.length l (q0 (eN .u64) e) 32 1,blk g0 [.slice u a.length g] 114,blk x [.slice j e.length l, .slice n f.length p] 157,row u a.length g (q0 ay.cells h) 164 6,sepL (q0 GU h)]:=by rw [<- au]; exact bL
 have bO:=bM.pb [3,1,0]
 obtain⟨rfl,rfl⟩:=fC (zj hr zq3)
 exact⟨u,g,h,j,l,n,p,(by(first | rw [<- ak] | skip); (first | rw [<- au] | skip); first | done | rfl),bO,C,f9⟩
end
section
open Go.RowKit
def ik (c:aZ) (d:Nat):(List Nat) × (List Nat) × aZ:=
 bnd (jd c d) λ b=>bnd (jY b (eX.mk (D4 []) (D4 []))) λ a=>(a.2.aU.ls,a.2.dC.ls,a.1)
theorem uo (w D z) (d:aZ) (e f c N A B) (O:aZ) (H:Own w D w [blk z [.slice e d.ai.ls.length f] 114,row e d.ai.ls.length f (q0 ay.cells c) 164 6,sepL (q0 GU c)]) (g:r8 ay.abs c=d.ai.ls) (aM:d.ai.ls.length<=12) (aN:Hd d.ai.ls) (aO:jh d.ai.ls) (hr:ik d N=(A,B,O)):
    Calls Tryz.prog 144 #[vP z 0,vU N] w (dG λ v w'=> ∃ B0 b0 B1 b1 h j a,v= .tuple #[.slice B0 A.length b0, .slice B1 B.length b1]/\Own w D w' [row B0 A.length b0 (q0 (eN .u64) A) 32 1,row B1 B.length b1 (q0 (eN .u64) B) 32 1,blk z [.slice h O.ai.ls.length j] 114,row h O.ai.ls.length j (q0 ay.cells a) 164 6,sepL (q0 GU a)]/\(r8 ay.abs a=O.ai.ls)/\(A.length<=12/\B.length<=12)):=by
 have P:=aW g
 have Q:=H.rowC (i:=1) rfl
 refine cb Tryz.func144 ?_
 refine sr (Az rfl (Ar rfl (Mz rfl (Mz rfl ?_))))
 obtain⟨b,k⟩:∃ q,jd d N=q:=⟨_,rfl⟩
 obtain⟨aP,C,aA,E,aB⟩:=H6 H
 refine cl Tryz.call120 (oz _ _ z d e f c N b C g f9 k) ?_
 rintro _ aQ ⟨R,S,T,rfl,F,o,p⟩
 have G:=E _ _ F
 have aC:=aW o
 have aD:=G.rowC (i:=1) rfl
 replace p:b.ai.ls.length<=d.ai.ls.length:=p
 obtain⟨aF,r,s⟩:=FD (m:=d.ai.ls) f6 k
 replace r:b.ai.ls.length<=d.ai.ls.length:=r
 replace s:Wt b.ai.ls<=b.ai.ls.length:=s
 refine ns ?_
 refine bW [.slice none 0 0, .slice none 0 0] 157 G ?_
 intro y I U
 refine ns (Mz rfl ?_)
 have V:Own w D I (row none 0 0 (q0 (eN .u64) []) 32 1::_):=U.free (bX 32 1)
 have W:Own w D I (row none 0 0 (q0 (eN .u64) []) 32 1::_):=V.free (bX 32 1)
 have X:=W.pb [2,1,0]
 obtain⟨⟨J,l⟩,t⟩:∃ q:aZ × eX,jY b (eX.mk (D4 []) (D4 []))=q:=⟨_,rfl⟩
 obtain⟨aR,K,aG,L,aH⟩:=Ic X
 refine cl Tryz.call73 (qo _ _ z b R S T y (eX.mk (D4 []) (D4 [])) none 0 none 0 J l K o f6 f8 f8 t) ?_
 rintro _ aS ⟨Y,Z,aa,af,ag,ah,ai,rfl,M,u,x⟩
 have n:=L _ _ M
 have aI:=aW u
 have aJ:=n.rowC (i:=1) rfl
 have aK:=n.rowC (i:=4) rfl
 have aL:=n.rowC (i:=5) rfl
 replace x:l.aU.ls.length<=12/\l.dC.ls.length<=12:=x
 refine nt (Gp ?_)
 refine FM [] (GD GQ) n ?_
 intro aT aj
 refine qp y 0 0 rfl (ql 1 rfl 3 C5 rfl rfl rfl (qp y 1 2 rfl (ql 3 rfl 3 C5 rfl rfl rfl (qa 4 rfl rfl (qa 5 rfl rfl (qn (Gs (rt (GM (j6 rfl rfl rfl) ?_)))))))))
 have ak:=aj.px [4,5] [3] []
 obtain⟨rfl,rfl,rfl⟩:=xU (zj hr (show _=(l.aU.ls,l.dC.ls,J) from et (ae k) (ae t)))
 exact⟨af,ag,ah,ai,Y,Z,aa,rfl,ak,u,f8⟩
def jr (d:aZ) (i:Nat) (l:aD):Int × (List Nat) × (List Nat) × Int × aZ:=
 bnd (dW l.aB) λ m=>if m=0 then bnd (gH d i) λ n=>if n=true then(0,([]:List Nat),([]:List Nat),4,d) else bnd (kG d i l) λ o=>if o=true then(1,([]:List Nat),([]:List Nat),0,d) else bnd (l8 d) λ p=>if p >= 192 then(3,([]:List Nat),([]:List Nat),0,d) else bnd (dX d i l) λ j=>if(j.length:Int)=0 then bnd (iT d i l (eX.mk (D4 []) (D4 []))) λ h=>bnd (jY h.1 h.2) λ e=>(1,e.2.aU.ls,e.2.dC.ls,0,e.1) else bnd (v1 j 0 default) λ k=>if(k:Int) < (i:Int) then(3,([]:List Nat),([]:List Nat),0,d) else bnd (eG d i) λ a=>if a.2=true then bnd (v1 d.ai.ls (E0 a.1) default) λ b=>bnd (v1 (J0 d.ai.ls (E0 a.1) (aK.mk b.au (D4 b.aC.ls) true b.bf)) (E0 a.1) default) λ f=>(2,([]:List Nat),([]:List Nat),0,aZ.mk (D4 (J0 (J0 d.ai.ls (E0 a.1) (aK.mk b.au (D4 b.aC.ls) true b.bf)) (E0 a.1) (aK.mk f.au (D4 f.aC.ls) f.bn l)))) else bnd (v1 (t1 (E0 a.1) d.ai.ls++((aK.mk i (D4 []) false (aD.mk (aj.mk [] []) false))::r7 (E0 a.1) d.ai.ls)) (E0 a.1) default) λ c=>bnd (v1 (J0 (t1 (E0 a.1) d.ai.ls++((aK.mk i (D4 []) false (aD.mk (aj.mk [] []) false))::r7 (E0 a.1) d.ai.ls)) (E0 a.1) (aK.mk c.au (D4 c.aC.ls) true c.bf)) (E0 a.1) default) λ g=>(2,([]:List Nat),([]:List Nat),0,aZ.mk (D4 (J0 (J0 (t1 (E0 a.1) d.ai.ls++((aK.mk i (D4 []) false (aD.mk (aj.mk [] []) false))::r7 (E0 a.1) d.ai.ls)) (E0 a.1) (aK.mk c.au (D4 c.aC.ls) true c.bf)) (E0 a.1) (aK.mk g.au (D4 g.aC.ls) g.bn l)))) else(0,([]:List Nat),([]:List Nat),21,d)
theorem wD (w D E) (n:aZ) (l r g u) (x:aD) (r0 r1 r2 r3) (r4:aZ) (H:Own w D w [blk E [.slice l n.ai.ls.length r] 114,row l n.ai.ls.length r (q0 ay.cells g) 164 6,sepL (q0 GU g)]) (p:r8 ay.abs g=n.ai.ls) (kE:n.ai.ls.length<=11) (bu:Hd n.ai.ls) (kF:jh n.ai.ls) (hr:jr n u x=(r0,r1,r2,r3,r4)):
    Calls Tryz.prog 38 #[vP E 0,vU u, .agg (aD.cells x).toArray] w (dG λ v w'=> ∃ B1 b1 B2 b2 aI aJ af,v= .tuple #[vI r0, .slice B1 r1.length b1, .slice B2 r2.length b2,vI r3]/\Own w D w' [row B1 r1.length b1 (q0 (eN .u64) r1) 32 1,row B2 r2.length b2 (q0 (eN .u64) r2) 32 1,blk E [.slice aI r4.ai.ls.length aJ] 114,row aI r4.ai.ls.length aJ (q0 ay.cells af) 164 6,sepL (q0 GU af)]/\(r8 ay.abs af=r4.ai.ls)/\(r1.length<=12/\r2.length<=12)):=by
 have ig:=aW p
 have ik:=H.rowC (i:=1) rfl
 refine cb Tryz.func38 ?_
 refine sr ?_
 refine bW (aD.cells x) 118 H ?_
 intro aL kH di
 refine Az rfl (Az rfl (Az rfl (An rfl (Gp (sr (Kz (vP aL 0) (La (aj.cells x.aB) di 0 Tryz.isAgg37 Tryz.sizeOf37 ?_)))))))
 obtain⟨bv,A⟩:∃ q,dW x.aB=q:=⟨_,rfl⟩
 obtain⟨kI,dm,jO,dn,jP⟩:=Gr di
 refine cl Tryz.call65 (iX _ _ x.aB bv dm A) ?_
 rintro _ dw ⟨rfl,dx⟩
 have dz:=dn _ _ dx
 refine fw (.bool (decide (¬ (bv=0)))) (GN (e:= !(decide (bv=0))) yk decide_not.symm) (nt ?_)
 by_cases O:bv=0
 refine jF (dF (Ko O)) (sk (Gp (sr (Mz rfl (Mz rfl ?_)))))
 have bK:=dz.pf [1]
 have jQ:=bK.rowC (i:=2) rfl
 obtain⟨dA,C⟩:∃ q,gH n u=q:=⟨_,rfl⟩
 obtain⟨kJ,dB,jR,dC,bC⟩:=G9 bK
 refine cl Tryz.call68 (um _ _ E n l r g u dA dB p (bC _ 1 _ rfl bQ) e8 (λ x9 h9=>⟨bC _ 2 _ rfl (bP (M5.2 ⟨x9,h9,b3⟩) bQ),dJ (φ:=λ _=>_) bK (i:=3) rfl (bP (M5.2 ⟨x9,h9,b3⟩) dN)⟩) f9 C) ?_
 rintro _ dD ⟨rfl,dE⟩
 have aM:=dC _ _ dE
 refine nt ?_
 rcases Kq (dA) with P | P
 refine jT P (sr (Az rfl (Az rfl (Az rfl (An rfl (rt (tR (GM (vK rfl rfl rfl rfl rfl) ?_))))))))
 have il:Own w D dD (row none 0 0 (q0 (eN .u64) []) 32 1::_):=aM.free (bX 32 1)
 have iq:Own w D dD (row none 0 0 (q0 (eN .u64) []) 32 1::_):=il.free (bX 32 1)
 have iw:=iq.px [1] [3] []
 obtain⟨rfl,rfl,rfl,rfl,rfl⟩:=ze (zj hr (show _=(0,([]:List Nat),([]:List Nat),4,n) from et (ae A) (et (ip O) (et (ae C) (ip P))))).symm
 exact⟨none,0,none,0,l,r,g,rfl,iw,p,f8⟩
 refine jF P (sk (Gp (sr (Mz rfl (Mz rfl (La (aD.cells x) aM 1 L8 L9 ?_))))))
 have jS:=aM.rowC (i:=2) rfl
 obtain⟨dH,F⟩:∃ q,kG n u x=q:=⟨_,rfl⟩
 obtain⟨kK,dK,jV,dL,bD⟩:=G9 aM
 refine cl Tryz.call69 (wB _ _ E n l r g u x dH dK p (bD _ 1 _ rfl bQ) e8 (λ x9 h9=>⟨bD _ 2 _ rfl (bP (M5.2 ⟨x9,h9,b3⟩) bQ),dJ (φ:=λ _=>_) aM (i:=3) rfl (bP (M5.2 ⟨x9,h9,b3⟩) dN)⟩) f9 F) ?_
 rintro _ dM ⟨rfl,dO⟩
 have bA:=dL _ _ dO
 refine nt ?_
 rcases Kq (dH) with T | T
 refine jT T (sr (Az rfl (Az rfl (Az rfl (An rfl (rt (tR (GM (vK rfl rfl rfl rfl rfl) ?_))))))))
 have iy:Own w D dM (row none 0 0 (q0 (eN .u64) []) 32 1::_):=bA.free (bX 32 1)
 have iA:Own w D dM (row none 0 0 (q0 (eN .u64) []) 32 1::_):=iy.free (bX 32 1)
 have iB:=iA.px [1] [3] []
 obtain⟨rfl,rfl,rfl,rfl,rfl⟩:=ze (zj hr (show _=(1,([]:List Nat),([]:List Nat),0,n) from et (ae A) (et (ip O) (et (ae C) (et (dY P) (et (ae F) (ip T))))))).symm
 exact⟨none,0,none,0,l,r,g,rfl,iB,p,f8⟩
 refine jF T (sk (Gp (sr (Mz rfl ?_))))
 have jW:=bA.rowC (i:=2) rfl
 obtain⟨bL,Q⟩:∃ q,l8 n=q:=⟨_,rfl⟩
 obtain⟨kL,dP,jX,dQ,bE⟩:=G9 bA
 refine cl Tryz.call70 (uS _ _ E n l r g bL dP p (bE _ 1 _ rfl bQ) e8 (λ x9 h9=>⟨bE _ 2 _ rfl (bP (M5.2 ⟨x9,h9,b3⟩) bQ),dJ (φ:=λ _=>_) bA (i:=3) rfl (bP (M5.2 ⟨x9,h9,b3⟩) dN)⟩) f9 Q) ?_
 rintro _ dR ⟨rfl,dS⟩
 have aN:=dQ _ _ dS
 refine Kz (.bool (decide (bL >= 192))) (nt ?_)
 by_cases ag:bL >= 192
 refine jT (dT ag) (sr (Az rfl (Az rfl (Az rfl (An rfl (rt (tR (GM (vK rfl rfl rfl rfl rfl) ?_))))))))
 have iD:Own w D dR (row none 0 0 (q0 (eN .u64) []) 32 1::_):=aN.free (bX 32 1)
 have iE:Own w D dR (row none 0 0 (q0 (eN .u64) []) 32 1::_):=iD.free (bX 32 1)
 have iF:=iE.px [1] [3] []
 obtain⟨rfl,rfl,rfl,rfl,rfl⟩:=ze (zj hr (show _=(3,([]:List Nat),([]:List Nat),0,n) from et (ae A) (et (ip O) (et (ae C) (et (dY P) (et (ae F) (et (dY T) (et (ae Q) (ip ag))))))))).symm
 exact⟨none,0,none,0,l,r,g,rfl,iF,p,f8⟩
 refine jF (dF ag) (sk (sr (Mz rfl (Mz rfl (La (aD.cells x) aN 1 L8 L9 ?_)))))
 have jZ:=aN.rowC (i:=2) rfl
 obtain⟨aO,X⟩:∃ q,dX n u x=q:=⟨_,rfl⟩
 obtain⟨kM,dU,j3,dV,bF⟩:=G9 aN
 refine cl Tryz.call71 (pX _ _ E n l r g u x aO dU p (bF _ 1 _ rfl bQ) e8 (λ x9 h9=>⟨bF _ 2 _ rfl (bP (M5.2 ⟨x9,h9,b3⟩) bQ),dJ (φ:=λ _=>_) aN (i:=3) rfl (bP (M5.2 ⟨x9,h9,b3⟩) dN)⟩) f9 X) ?_
 rintro _ dZ ⟨ed,kN,rfl,ek⟩
 have ah:=dV _ _ ek
 have j4:=ah.rowC (i:=0) rfl
 refine An rfl (Gp (sr (Mz rfl (Kz (vJ aO.length) (Kz (.bool (decide ((aO.length:Int)=0))) (nt ?_))))))
 by_cases aH:(aO.length:Int)=0
 refine jT (dT aH) (sr ?_)
 refine bW [.slice none 0 0, .slice none 0 0] 157 ah ?_
 intro bB eu eB
 refine ns (Mz rfl (Mz rfl (La (aD.cells x) eB 3 L8 L9 ?_)))
 have iG:Own w D eu (row none 0 0 (q0 (eN .u64) []) 32 1::_):=eB.free (bX 32 1)
 have eD:Own w D eu (row none 0 0 (q0 (eN .u64) []) 32 1::_):=iG.free (bX 32 1)
 have eF:=eD.pb [2,1,0,3,5]
 obtain⟨⟨R,S⟩,ai⟩:∃ q:aZ × eX,iT n u x (eX.mk (D4 []) (D4 []))=q:=⟨_,rfl⟩
 obtain⟨j5,bM,iH,bN,iI⟩:=Ic eF
 refine cl Tryz.call72 (qJ _ _ E n l r g u x bB (eX.mk (D4 []) (D4 [])) none 0 none 0 R S bM p f9 f6 j1 ai) ?_
 rintro _ j6 ⟨eH,eO,eP,eQ,eT,eU,eY,rfl,bO,aP⟩
 have az:=bN _ _ bO
 have iJ:=aW aP
 have iK:=az.rowC (i:=1) rfl
 have iL:=az.rowC (i:=4) rfl
 have iM:=az.rowC (i:=5) rfl
 obtain⟨iO,aQ,aR,ak⟩:=F8 (m:=n.ai.ls) f6 ai
 replace aQ:S.dC.ls.length+R.ai.ls.length<=0+n.ai.ls.length+1:=aQ
 replace aR:Wt R.ai.ls<=R.ai.ls.length:=aR
 replace ak:S.aU.ls=[]:=ak
 have iP:S.aU.ls.length=0:=by rw [ak]; rfl
 refine ns (Mz rfl ?_)
 obtain⟨⟨bG,Y⟩,aS⟩:∃ q:aZ × eX,jY R S=q:=⟨_,rfl⟩
 obtain⟨kg,bR,iQ,bT,iR⟩:=Ic az
 refine cl Tryz.call73 (qo _ _ E R eH eO eP bB S eQ eT eU eY bG Y bR aP f6 f8 f8 aS) ?_
 rintro _ ko ⟨eZ,fe,fo,fq,fu,fA,fB,rfl,bU,aT,aU⟩
 have aA:=bT _ _ bU
 have iU:=aW aT
 have iV:=aA.rowC (i:=1) rfl
 have iW:=aA.rowC (i:=4) rfl
 have iY:=aA.rowC (i:=5) rfl
 replace aU:Y.aU.ls.length<=12/\Y.dC.ls.length<=12:=aU
 refine nt (Gp ?_)
 refine l5 8 [] (GD (GD GQ)) aA ?_
 intro kr fC
 refine qp bB 0 0 rfl (ql 1 rfl 3 C5 rfl rfl rfl (qp bB 1 2 rfl (ql 3 rfl 3 C5 rfl rfl rfl (qa 4 rfl rfl (qa 5 rfl rfl (qa 6 rfl rfl (qa 7 rfl rfl (qn (Gs (rt (tR (GM (vK rfl rfl rfl rfl rfl) ?_))))))))))))
 have fD:=fC.pk [4,5,0,1,2]
 obtain⟨rfl,rfl,rfl,rfl,rfl⟩:=ze (zj hr (show _=(1,Y.aU.ls,Y.dC.ls,0,bG) from et (ae A) (et (ip O) (et (ae C) (et (dY P) (et (ae F) (et (dY T) (et (ae Q) (et (iN ag) (et (ae X) (et (ip aH) (et (ae ai) (ae aS)))))))))))))
 exact⟨fq,fu,fA,fB,eZ,fe,fo,rfl,fD,aT,f8⟩
 refine jF (dF aH) (sk (Gp (sr (Mz rfl ?_))))
 obtain⟨aV,U⟩:=dI (ls:=aO) (i:=0) gT f5 (ah.rds (i:=0) rfl) f2
 refine fw (.pointer (some ⟨ab ed,ao ed+0 *1,none⟩)) (GI (iC) rfl rfl ((ah.rds (i:=0) rfl).addr (i:=0) e8) e8) (fw (vU aV) (GH rfl (bS.one Tryz.isAgg32 (((ah.rds (i:=0) rfl).elem gT U f5).at_ (k:=0) rfl))) (Mz rfl (Kz (.bool (decide ((aV:Int) < (u:Int)))) (nt ?_))))
 by_cases Z:(aV:Int) < (u:Int)
 refine jT (dT Z) (Gp ?_)
 have fE:=ah.px [] [0] []
 refine Gq (Az rfl (Az rfl (Az rfl (An rfl (rt (tR (GM (vK rfl rfl rfl rfl rfl) ?_)))))))
 have fF:Own w D dZ (row none 0 0 (q0 (eN .u64) []) 32 1::_):=fE.free (bX 32 1)
 have fG:Own w D dZ (row none 0 0 (q0 (eN .u64) []) 32 1::_):=fF.free (bX 32 1)
 have fH:=fG.px [1] [3] []
 obtain⟨rfl,rfl,rfl,rfl,rfl⟩:=ze (zj hr (show _=(3,([]:List Nat),([]:List Nat),0,n) from et (ae A) (et (ip O) (et (ae C) (et (dY P) (et (ae F) (et (dY T) (et (ae Q) (et (iN ag) (et (ae X) (et (iN aH) (et (ae (bz U)) (ip Z))))))))))))).symm
 exact⟨none,0,none,0,l,r,g,rfl,fH,p,f8⟩
 refine jF (dF Z) (sk (Gp ?_))
 have aX:=ah.px [] [0] []
 refine Gq (Mz rfl (Mz rfl ?_))
 refine WL.do rfl (GV Tryz.call74 rfl ?_ (λ _ _ k=>k))
 refine cb Tryz.func74 ?_
 refine sr (Ar rfl (Mz rfl (Mz rfl ?_)))
 have iZ:=aX.rowC (i:=2) rfl
 obtain⟨⟨a,G⟩,au⟩:∃ q:Int × Bool,eG n u=q:=⟨_,rfl⟩
 obtain⟨ku,bV,jb,bZ,aY⟩:=G9 aX
 refine cl Tryz.call114 (lD _ _ E n l r g u a G bV p (aY _ 1 _ rfl bQ) e8 (λ x9 h9=>⟨aY _ 2 _ rfl (bP (M5.2 ⟨x9,h9,b3⟩) bQ),dJ (φ:=λ _=>_) aX (i:=3) rfl (bP (M5.2 ⟨x9,h9,b3⟩) dN)⟩) f9 au) ?_
 rintro _ kv ⟨rfl,cu,bf,bg⟩
 have I:=bZ _ _ cu
 replace bf:0<=a/\a<=(n.ai.ls.length:Int):=bf
 replace bg:Bool.toNat G=0\/a < (n.ai.ls.length:Int):=bg
 refine Mz rfl (Kz (vI a) (Kz (.bool G) (Az rfl (An rfl (Gp (sr (Mz rfl (Kz (.bool (!G)) (nt ?_)))))))))
 rcases Kq (G) with J | J
 have h179t:Bool.toNat G=1:=by rw [J]; rfl
 refine jF (cn J) (sk (sr (Mz rfl (Kz (vP E 0) (Kz (vP E 0) (Lz (.slice l n.ai.ls.length r) I 0 L7 (fw (vJ (E0 a)) (Gw (e:=a) (Gv rfl) e8) ?_)))))))
 obtain⟨b,K⟩:=dI (ls:=g) (i:=E0 a) ay.len f5 (I.rds (i:=2) rfl) f2
 have bi:=fO p K
 have jc:b.aC.ls.length<=b.aC.c/\b.aC.ls.length<=9223372036854775807:=dJ I (i:=3) rfl (φ:=λ _=>_) (bP (M5.2 ⟨b,C1 K,b3⟩) dN)
 have jd:b.aC.ls.length<=1000000:=by have q9:Hd n.ai.ls:=(by first | exact bu | exact yl bu (Km _)); exact q9 _ (C1 bi)
 refine fw (.pointer (some ⟨ab l,ao l+(E0 a) *6,none⟩)) (GI (ja) rfl rfl ((I.rds (i:=2) rfl).addr (i:=E0 a) e8) e8) (An rfl (rt (rs (An rfl (Gp ?_)))))
 refine oD [] (GD GQ) I ?_
 intro kw fI
 refine qv 0 rfl rfl (qv 1 rfl rfl (qt (v:= .agg (aD.cells x).toArray) 2 rfl (λ _ ⟨_,H9⟩=>GH rfl (GJ (cs:=(aD.cells x)) L8 L9 ((H9.cls (i:=1) rfl).lit (k:=0) (m:=3) rfl))) (qk (.pointer (some ⟨ab l,ao l+(E0 a) *6,none⟩)) 3 rfl (qk (.pointer (some ⟨ab l,ao l+(E0 a) *6+2,none⟩)) 4 rfl ?_))))
 have fJ:=fI.pf [2]
 refine qe 5 rfl (Do.storeRow (vs:= [.bool true]) (o:=(E0 a) *6+2) (q:=ao l+(E0 a) *6+2) fJ rfl e8 rfl Tryz.sizeOf4 rfl rfl (Kk rfl) (jg ay.len K (Kk rfl)) (jU (y:=(ay.mk b.au b.aC true b.bf)) ay.len rfl (Kk rfl) K) ?_)
 intro fK fM
 have fP:Own w D fK [row l n.ai.ls.length r (q0 ay.cells (J0 g (E0 a) (ay.mk b.au b.aC true b.bf))) 164 6,blk E [.slice l n.ai.ls.length r] 114,blk aL (aD.cells x) 118,sepL (q0 GU (J0 g (E0 a) (ay.mk b.au b.aC true b.bf)))]:=by rw [lK (f:=GU) (y:=(ay.mk b.au b.aC true b.bf)) K rfl]; exact fM
 have ji:q5 (J0 g (E0 a) (ay.mk b.au b.aC true b.bf))=q5 (J0 n.ai.ls (E0 a) (aK.mk b.au (D4 b.aC.ls) true b.bf)):=aW (d9 p rfl)
 have jk:q5 (J0 n.ai.ls (E0 a) (aK.mk b.au (D4 b.aC.ls) true b.bf))=n.ai.ls.length:=J1
 have aB:=fP.pb [0,3]
 refine⟨.inr ⟨_,aB⟩, ?_⟩
 refine qk (.pointer (some ⟨ab l,ao l+(E0 a) *6,none⟩)) 6 rfl (qk (.pointer (some ⟨ab l,ao l+(E0 a) *6+3,none⟩)) 7 rfl ?_)
 obtain⟨h,L⟩:=dI (ls:=(J0 g (E0 a) (ay.mk b.au b.aC true b.bf))) (i:=E0 a) ay.len f5 (aB.rds (i:=2) rfl) f2
 have cz:=fO (d9 p rfl) L
 have jl:h.aC.ls.length<=h.aC.c/\h.aC.ls.length<=9223372036854775807:=dJ aB (i:=3) rfl (φ:=λ _=>_) (bP (M5.2 ⟨h,C1 L,b3⟩) dN)
 have fQ:=aB.pf [2]
 refine qe 8 rfl (Do.storeRow (vs:=(aD.cells x)) (o:=(E0 a) *6+3) (q:=ao l+(E0 a) *6+3) fQ rfl e8 rfl L9 rfl rfl (Kk rfl) (jg ay.len L (Kk rfl)) (jU (y:=(ay.mk h.au h.aC h.bn x)) ay.len rfl (Kk rfl) L) ?_)
 intro aC fT
 have fU:Own w D aC [row l n.ai.ls.length r (q0 ay.cells (J0 (J0 g (E0 a) (ay.mk b.au b.aC true b.bf)) (E0 a) (ay.mk h.au h.aC h.bn x))) 164 6,blk E [.slice l n.ai.ls.length r] 114,blk aL (aD.cells x) 118,sepL (q0 GU (J0 (J0 g (E0 a) (ay.mk b.au b.aC true b.bf)) (E0 a) (ay.mk h.au h.aC h.bn x)))]:=by rw [lK (f:=GU) (y:=(ay.mk h.au h.aC h.bn x)) L rfl]; exact fT
 have jm:q5 (J0 (J0 g (E0 a) (ay.mk b.au b.aC true b.bf)) (E0 a) (ay.mk h.au h.aC h.bn x))=q5 (J0 (J0 n.ai.ls (E0 a) (aK.mk b.au (D4 b.aC.ls) true b.bf)) (E0 a) (aK.mk h.au (D4 h.aC.ls) h.bn x)):=aW (d9 (d9 p rfl) rfl)
 have jo:q5 (J0 (J0 n.ai.ls (E0 a) (aK.mk b.au (D4 b.aC.ls) true b.bf)) (E0 a) (aK.mk h.au (D4 h.aC.ls) h.bn x))=q5 (J0 n.ai.ls (E0 a) (aK.mk b.au (D4 b.aC.ls) true b.bf)):=J1
 have bH:=fU.pb [0,3]
 refine⟨.inr ⟨_,bH⟩, ?_⟩
 refine qn (Gs (Gp ?_))
 have fV:=bH.pk [0,2,3]
 refine Gq (Az rfl (Az rfl (Az rfl (An rfl (rt (GM (vK rfl rfl rfl rfl rfl) ?_))))))
 have fZ:Own w D aC (row none 0 0 (q0 (eN .u64) []) 32 1::_):=fV.free (bX 32 1)
 have gm:Own w D aC (row none 0 0 (q0 (eN .u64) []) 32 1::_):=fZ.free (bX 32 1)
 have V:n.ai.ls.length=q5 (J0 (J0 n.ai.ls (E0 a) (aK.mk b.au (D4 b.aC.ls) true b.bf)) (E0 a) (aK.mk h.au (D4 h.aC.ls) h.bn x)):=by first | omega | (simp only [J1]; done) | (simp only [J1,m8,q6,H2,m6,m7,L4]; omega)
 have gp:Own w D aC [row none 0 0 (q0 (eN .u64) []) 32 1,row none 0 0 (q0 (eN .u64) []) 32 1,blk E [.slice l (q5 (J0 (J0 n.ai.ls (E0 a) (aK.mk b.au (D4 b.aC.ls) true b.bf)) (E0 a) (aK.mk h.au (D4 h.aC.ls) h.bn x))) r] 114,row l (q5 (J0 (J0 n.ai.ls (E0 a) (aK.mk b.au (D4 b.aC.ls) true b.bf)) (E0 a) (aK.mk h.au (D4 h.aC.ls) h.bn x))) r (q0 ay.cells (J0 (J0 g (E0 a) (ay.mk b.au b.aC true b.bf)) (E0 a) (ay.mk h.au h.aC h.bn x))) 164 6,sepL (q0 GU (J0 (J0 g (E0 a) (ay.mk b.au b.aC true b.bf)) (E0 a) (ay.mk h.au h.aC h.bn x)))]:=by rw [<- V]; exact gm
 have gq:=gp.pf [1]
 obtain⟨rfl,rfl,rfl,rfl,rfl⟩:=ze (zj hr (show _=(2,([]:List Nat),([]:List Nat),0,aZ.mk (D4 (J0 (J0 n.ai.ls (E0 a) (aK.mk b.au (D4 b.aC.ls) true b.bf)) (E0 a) (aK.mk h.au (D4 h.aC.ls) h.bn x)))) from et (ae A) (et (ip O) (et (ae C) (et (dY P) (et (ae F) (et (dY T) (et (ae Q) (et (iN ag) (et (ae X) (et (iN aH) (et (ae (bz U)) (et (iN Z) (et (ae au) (et (ip J) (et (ae (bz bi)) (ae (bz cz))))))))))))))))))
 exact⟨none,0,none,0,l,r,(J0 (J0 g (E0 a) (ay.mk b.au b.aC true b.bf)) (E0 a) (ay.mk h.au h.aC h.bn x)),(by first | rfl | (rw [<- V]; done) | (rw [<- V]; rfl) | (rw [V]; first | done | rfl)),gq,(d9 (d9 p rfl) rfl),f8⟩
 have h179t:Bool.toNat G=0:=by rw [J]; rfl
 refine jT (cn J) (Gq (Mz rfl (Mz rfl (Kz (vP E 0) (Kz (vP E 0) (Lz (.slice l n.ai.ls.length r) I 0 L7 (Mz rfl (Mz rfl (Kz (.agg #[vU u, .slice none 0 0, .bool false, .string ⟨u3 []⟩, .string ⟨u3 []⟩, .bool false]) ?_)))))))))
 refine WL.do rfl (Il (cs:= [vU u, .slice none 0 0, .bool false, .string ⟨u3 []⟩, .string ⟨u3 []⟩, .bool false]) (t:=164) (sz:=6) (m:=1) I rfl rfl (λ _=>by kernel_rfl) rfl ?_)
 intro bI gu bn
 replace bn:=Ha (y:=lG bI 1 (q0 ay.cells ([(ay.mk u (L3 none 0 []) false (aD.mk (aj.mk [] []) false))])) 164 6) rfl bn
 have gy:Own w D gu (row none 0 0 (q0 aD.cells []) 118 3::_):=bn.free (bX 118 3)
 have gz:=gy.pf [4,1,5]
 obtain⟨ky,cB,jq,cK,jv⟩:=Ip gz
 refine cl Tryz.call123 (Ac _ _ l n.ai.ls.length r g a bI (ay.mk u (L3 none 0 []) false (aD.mk (aj.mk [] []) false)) n.ai.ls (aK.mk u (D4 []) false (aD.mk (aj.mk [] []) false)) cB e8 p rfl e8 e8) ?_
 rintro _ kz ⟨s,B,rfl,cO⟩
 have gB:=cK _ _ cO
 have jw:q5 (t1 (E0 a) g++((ay.mk u (L3 none 0 []) false (aD.mk (aj.mk [] []) false))::r7 (E0 a) g))=q5 (t1 (E0 a) n.ai.ls++((aK.mk u (D4 []) false (aD.mk (aj.mk [] []) false))::r7 (E0 a) n.ai.ls)):=by exact aW (jA (z:=(aK.mk u (D4 []) false (aD.mk (aj.mk [] []) false))) p rfl)
 have jy:q5 (t1 (E0 a) n.ai.ls++((aK.mk u (D4 []) false (aD.mk (aj.mk [] []) false))::r7 (E0 a) n.ai.ls))=n.ai.ls.length+1:=by simp only [m8,m6,q6,m7]; omega
 refine Kz (vP E 0) (Kz (vP E 0) ?_)
 have gD:=gB.pf [2]
 refine bY [.slice s (q5 (t1 (E0 a) n.ai.ls++((aK.mk u (D4 []) false (aD.mk (aj.mk [] []) false))::r7 (E0 a) n.ai.ls))) B] 0 gD Tryz.sizeOf112 ?_
 intro kC aa
 refine ns (Mz rfl (Kz (vP E 0) (Kz (vP E 0) (Lz (.slice s (q5 (t1 (E0 a) n.ai.ls++((aK.mk u (D4 []) false (aD.mk (aj.mk [] []) false))::r7 (E0 a) n.ai.ls))) B) aa 0 L7 (fw (vJ (E0 a)) (Gw (e:=a) (Gv rfl) e8) ?_)))))
 obtain⟨d,M⟩:=dI (ls:=(t1 (E0 a) g++((ay.mk u (L3 none 0 []) false (aD.mk (aj.mk [] []) false))::r7 (E0 a) g))) (i:=E0 a) ay.len f5 (aa.rds (i:=1) rfl) f2
 have bq:=fO (jA (z:=(aK.mk u (D4 []) false (aD.mk (aj.mk [] []) false))) p rfl) M
 have jB:d.aC.ls.length<=d.aC.c/\d.aC.ls.length<=9223372036854775807:=dJ aa (i:=2) rfl (φ:=λ _=>_) (bP (M5.2 ⟨d,C1 M,b3⟩) dN)
 have jC:d.aC.ls.length<=1000000:=by have q9:Hd (t1 (E0 a) n.ai.ls++((aK.mk u (D4 []) false (aD.mk (aj.mk [] []) false))::r7 (E0 a) n.ai.ls)):=(by first | exact bu | exact yl bu (Km _)); exact q9 _ (C1 bq)
 refine fw (.pointer (some ⟨ab s,ao s+(E0 a) *6,none⟩)) (GI (ja) rfl rfl ((aa.rds (i:=1) rfl).addr (i:=E0 a) e8) e8) (An rfl (rt (rs (An rfl (Gp ?_)))))
 have gF:=aa.pb [1,2]
 refine oD [] (GD GQ) gF ?_
 intro kD gG
 refine qv 0 rfl rfl (qv 1 rfl rfl (qt (v:= .agg (aD.cells x).toArray) 2 rfl (λ _ ⟨_,H9⟩=>GH rfl (GJ (cs:=(aD.cells x)) L8 L9 ((H9.cls (i:=1) rfl).lit (k:=0) (m:=3) rfl))) (qk (.pointer (some ⟨ab s,ao s+(E0 a) *6,none⟩)) 3 rfl (qk (.pointer (some ⟨ab s,ao s+(E0 a) *6+2,none⟩)) 4 rfl ?_))))
 have gI:=gG.pf [2]
 refine qe 5 rfl (Do.storeRow (vs:= [.bool true]) (o:=(E0 a) *6+2) (q:=ao s+(E0 a) *6+2) gI rfl e8 rfl Tryz.sizeOf4 rfl rfl (Kk rfl) (jg ay.len M (Kk rfl)) (jU (y:=(ay.mk d.au d.aC true d.bf)) ay.len rfl (Kk rfl) M) ?_)
 intro gJ gK
 have gL:Own w D gJ [row s (q5 (t1 (E0 a) n.ai.ls++((aK.mk u (D4 []) false (aD.mk (aj.mk [] []) false))::r7 (E0 a) n.ai.ls))) B (q0 ay.cells (J0 (t1 (E0 a) g++((ay.mk u (L3 none 0 []) false (aD.mk (aj.mk [] []) false))::r7 (E0 a) g)) (E0 a) (ay.mk d.au d.aC true d.bf))) 164 6,blk E [.slice s (q5 (t1 (E0 a) n.ai.ls++((aK.mk u (D4 []) false (aD.mk (aj.mk [] []) false))::r7 (E0 a) n.ai.ls))) B] 114,blk aL (aD.cells x) 118,sepL (q0 GU (J0 (t1 (E0 a) g++((ay.mk u (L3 none 0 []) false (aD.mk (aj.mk [] []) false))::r7 (E0 a) g)) (E0 a) (ay.mk d.au d.aC true d.bf)))]:=by rw [lK (f:=GU) (y:=(ay.mk d.au d.aC true d.bf)) M rfl]; exact gK
 have jD:q5 (J0 (t1 (E0 a) g++((ay.mk u (L3 none 0 []) false (aD.mk (aj.mk [] []) false))::r7 (E0 a) g)) (E0 a) (ay.mk d.au d.aC true d.bf))=q5 (J0 (t1 (E0 a) n.ai.ls++((aK.mk u (D4 []) false (aD.mk (aj.mk [] []) false))::r7 (E0 a) n.ai.ls)) (E0 a) (aK.mk d.au (D4 d.aC.ls) true d.bf)):=aW (d9 (jA (z:=(aK.mk u (D4 []) false (aD.mk (aj.mk [] []) false))) p rfl) rfl)
 have jE:q5 (J0 (t1 (E0 a) n.ai.ls++((aK.mk u (D4 []) false (aD.mk (aj.mk [] []) false))::r7 (E0 a) n.ai.ls)) (E0 a) (aK.mk d.au (D4 d.aC.ls) true d.bf))=q5 (t1 (E0 a) n.ai.ls++((aK.mk u (D4 []) false (aD.mk (aj.mk [] []) false))::r7 (E0 a) n.ai.ls)):=J1
 have aF:=gL.pb [0,3]
 refine⟨.inr ⟨_,aF⟩, ?_⟩
 refine qk (.pointer (some ⟨ab s,ao s+(E0 a) *6,none⟩)) 6 rfl (qk (.pointer (some ⟨ab s,ao s+(E0 a) *6+3,none⟩)) 7 rfl ?_)
 obtain⟨j,N⟩:=dI (ls:=(J0 (t1 (E0 a) g++((ay.mk u (L3 none 0 []) false (aD.mk (aj.mk [] []) false))::r7 (E0 a) g)) (E0 a) (ay.mk d.au d.aC true d.bf))) (i:=E0 a) ay.len f5 (aF.rds (i:=2) rfl) f2
 have cZ:=fO (d9 (jA (z:=(aK.mk u (D4 []) false (aD.mk (aj.mk [] []) false))) p rfl) rfl) N
 have jG:j.aC.ls.length<=j.aC.c/\j.aC.ls.length<=9223372036854775807:=dJ aF (i:=3) rfl (φ:=λ _=>_) (bP (M5.2 ⟨j,C1 N,b3⟩) dN)
 have gM:=aF.pf [2]
 refine qe 8 rfl (Do.storeRow (vs:=(aD.cells x)) (o:=(E0 a) *6+3) (q:=ao s+(E0 a) *6+3) gM rfl e8 rfl L9 rfl rfl (Kk rfl) (jg ay.len N (Kk rfl)) (jU (y:=(ay.mk j.au j.aC j.bn x)) ay.len rfl (Kk rfl) N) ?_)
 intro aG gN
 have gP:Own w D aG [row s (q5 (t1 (E0 a) n.ai.ls++((aK.mk u (D4 []) false (aD.mk (aj.mk [] []) false))::r7 (E0 a) n.ai.ls))) B (q0 ay.cells (J0 (J0 (t1 (E0 a) g++((ay.mk u (L3 none 0 []) false (aD.mk (aj.mk [] []) false))::r7 (E0 a) g)) (E0 a) (ay.mk d.au d.aC true d.bf)) (E0 a) (ay.mk j.au j.aC j.bn x))) 164 6,blk E [.slice s (q5 (t1 (E0 a) n.ai.ls++((aK.mk u (D4 []) false (aD.mk (aj.mk [] []) false))::r7 (E0 a) n.ai.ls))) B] 114,blk aL (aD.cells x) 118,sepL (q0 GU (J0 (J0 (t1 (E0 a) g++((ay.mk u (L3 none 0 []) false (aD.mk (aj.mk [] []) false))::r7 (E0 a) g)) (E0 a) (ay.mk d.au d.aC true d.bf)) (E0 a) (ay.mk j.au j.aC j.bn x)))]:=by rw [lK (f:=GU) (y:=(ay.mk j.au j.aC j.bn x)) N rfl]; exact gN
 have jH:q5 (J0 (J0 (t1 (E0 a) g++((ay.mk u (L3 none 0 []) false (aD.mk (aj.mk [] []) false))::r7 (E0 a) g)) (E0 a) (ay.mk d.au d.aC true d.bf)) (E0 a) (ay.mk j.au j.aC j.bn x))=q5 (J0 (J0 (t1 (E0 a) n.ai.ls++((aK.mk u (D4 []) false (aD.mk (aj.mk [] []) false))::r7 (E0 a) n.ai.ls)) (E0 a) (aK.mk d.au (D4 d.aC.ls) true d.bf)) (E0 a) (aK.mk j.au (D4 j.aC.ls) j.bn x)):=aW (d9 (d9 (jA (z:=(aK.mk u (D4 []) false (aD.mk (aj.mk [] []) false))) p rfl) rfl) rfl)
 have jI:q5 (J0 (J0 (t1 (E0 a) n.ai.ls++((aK.mk u (D4 []) false (aD.mk (aj.mk [] []) false))::r7 (E0 a) n.ai.ls)) (E0 a) (aK.mk d.au (D4 d.aC.ls) true d.bf)) (E0 a) (aK.mk j.au (D4 j.aC.ls) j.bn x))=q5 (J0 (t1 (E0 a) n.ai.ls++((aK.mk u (D4 []) false (aD.mk (aj.mk [] []) false))::r7 (E0 a) n.ai.ls)) (E0 a) (aK.mk d.au (D4 d.aC.ls) true d.bf)):=J1
 have bJ:=gP.pb [0,3]
 refine⟨.inr ⟨_,bJ⟩, ?_⟩
 refine qn (Gs (Gp ?_))
 have gQ:=bJ.pk [0,2,3]
 refine Gq (Az rfl (Az rfl (Az rfl (An rfl (rt (GM (vK rfl rfl rfl rfl rfl) ?_))))))
 have gU:Own w D aG (row none 0 0 (q0 (eN .u64) []) 32 1::_):=gQ.free (bX 32 1)
 have gV:Own w D aG (row none 0 0 (q0 (eN .u64) []) 32 1::_):=gU.free (bX 32 1)
 have W:q5 (t1 (E0 a) n.ai.ls++((aK.mk u (D4 []) false (aD.mk (aj.mk [] []) false))::r7 (E0 a) n.ai.ls))=q5 (J0 (J0 (t1 (E0 a) n.ai.ls++((aK.mk u (D4 []) false (aD.mk (aj.mk [] []) false))::r7 (E0 a) n.ai.ls)) (E0 a) (aK.mk d.au (D4 d.aC.ls) true d.bf)) (E0 a) (aK.mk j.au (D4 j.aC.ls) j.bn x)):=by first | omega | (simp only [J1]; done) | (simp only [J1,m8,q6,H2,m6,m7,L4]; omega)
 have gW:Own w D aG [row none 0 0 (q0 (eN .u64) []) 32 1,row none 0 0 (q0 (eN .u64) []) 32 1,blk E [.slice s (q5 (J0 (J0 (t1 (E0 a) n.ai.ls++((aK.mk u (D4 []) false (aD.mk (aj.mk [] []) false))::r7 (E0 a) n.ai.ls)) (E0 a) (aK.mk d.au (D4 d.aC.ls) true d.bf)) (E0 a) (aK.mk j.au (D4 j.aC.ls) j.bn x))) B] 114,row s (q5 (J0 (J0 (t1 (E0 a) n.ai.ls++((aK.mk u (D4 []) false (aD.mk (aj.mk [] []) false))::r7 (E0 a) n.ai.ls)) (E0 a) (aK.mk d.au (D4 d.aC.ls) true d.bf)) (E0 a) (aK.mk j.au (D4 j.aC.ls) j.bn x))) B (q0 ay.cells (J0 (J0 (t1 (E0 a) g++((ay.mk u (L3 none 0 []) false (aD.mk (aj.mk [] []) false))::r7 (E0 a) g)) (E0 a) (ay.mk d.au d.aC true d.bf)) (E0 a) (ay.mk j.au j.aC j.bn x))) 164 6,sepL (q0 GU (J0 (J0 (t1 (E0 a) g++((ay.mk u (L3 none 0 []) false (aD.mk (aj.mk [] []) false))::r7 (E0 a) g)) (E0 a) (ay.mk d.au d.aC true d.bf)) (E0 a) (ay.mk j.au j.aC j.bn x)))]:=by rw [<- W]; exact gV
 have gX:=gW.pf [1]
 obtain⟨rfl,rfl,rfl,rfl,rfl⟩:=ze (zj hr (show _=(2,([]:List Nat),([]:List Nat),0,aZ.mk (D4 (J0 (J0 (t1 (E0 a) n.ai.ls++((aK.mk u (D4 []) false (aD.mk (aj.mk [] []) false))::r7 (E0 a) n.ai.ls)) (E0 a) (aK.mk d.au (D4 d.aC.ls) true d.bf)) (E0 a) (aK.mk j.au (D4 j.aC.ls) j.bn x)))) from et (ae A) (et (ip O) (et (ae C) (et (dY P) (et (ae F) (et (dY T) (et (ae Q) (et (iN ag) (et (ae X) (et (iN aH) (et (ae (bz U)) (et (iN Z) (et (ae au) (et (dY J) (et (ae (bz bq)) (ae (bz cZ))))))))))))))))))
 exact⟨none,0,none,0,s,B,(J0 (J0 (t1 (E0 a) g++((ay.mk u (L3 none 0 []) false (aD.mk (aj.mk [] []) false))::r7 (E0 a) g)) (E0 a) (ay.mk d.au d.aC true d.bf)) (E0 a) (ay.mk j.au j.aC j.bn x)),(by first | rfl | (rw [<- W]; done) | (rw [<- W]; rfl) | (rw [W]; first | done | rfl)),gX,(d9 (d9 (jA (z:=(aK.mk u (D4 []) false (aD.mk (aj.mk [] []) false))) p rfl) rfl) rfl),f8⟩
 refine jT (dT O) (sr (Az rfl (Az rfl (Az rfl (An rfl (rt (tR (GM (vK rfl rfl rfl rfl rfl) ?_))))))))
 have gY:Own w D dw (row none 0 0 (q0 (eN .u64) []) 32 1::_):=dz.free (bX 32 1)
 have gZ:Own w D dw (row none 0 0 (q0 (eN .u64) []) 32 1::_):=gY.free (bX 32 1)
 have ib:=gZ.px [1] [2] []
 obtain⟨rfl,rfl,rfl,rfl,rfl⟩:=ze (zj hr (show _=(0,([]:List Nat),([]:List Nat),21,n) from et (ae A) (iN O))).symm
 exact⟨none,0,none,0,l,r,g,rfl,ib,p,f8⟩
end
open List renaming perm_middle->N7
section
variable {α β:Type} {w0 w:World} {D:Nat->Prop} {L:List HP} {f:α->List HP}
theorem DU {es:List α} {y:α} (H:Own w0 D w (f y++(sepL (q0 f es)::L))):Own w0 D w (sepL (q0 f (es++ [y]))::L):=by
  have h:=H.sepIns (i:=es.length)
  rw [List.take_length,List.drop_length] at h
  exact h
theorem DV {d:List α} {k:Nat} {es:List α} (y:α) (he:es.length=k) (hk:k < d.length):List.set (es++r7 k d) k y=(es++ [y])++r7 (k+1) d:=by
  subst he
  rw [List.set_append_right _ _ (Nat.le_refl _),Nat.sub_self,List.drop_eq_getElem_cons hk,List.set_cons_zero,List.append_assoc]
  rfl
theorem Ex {d es:List α} {k:Nat} {x:α} (he:es.length=k) (hx:d[k]? =some x):(es++r7 k d)[k]? =some x:=by
  subst he
  rw [List.getElem?_append_right (Nat.le_refl _),Nat.sub_self,List.getElem?_drop,Nat.add_zero,hx]
theorem DW {f:α->β} {d es:List α} {k:Nat} {x y:α} (h:r8 f es=r8 f (t1 k d)) (hx:d[k]? =some x) (hy:f y=f x):r8 f (es++ [y])=r8 f (t1 (k+1) d):=by
  obtain⟨hk,rfl⟩:=List.getElem?_eq_some_iff.1 hx
  rw [List.take_succ_eq_append_getElem hk,M4,M4,h,List.map_cons,List.map_nil,hy,List.map_cons,List.map_nil]
end
section
variable {α:Type} {w0 w:World} {D:Nat->Prop} {L:List HP} {f:α->List HP}
theorem Aj {ds:List α} {i:Nat} {x:α} (hx:ds[i]? =some x) (H:Own w0 D w (sepL (q0 f ds)::L)):Own w0 D w (sepL (q0 f (t1 i ds++r7 (i+1) ds))::(f x++L)):=by
  have h:=IC (f:=f) (i:=i) hx H
  rw [List.flatMap_append]
  exact h.perm N7
theorem Ak {ds:List α} {i:Nat} {y:α} (H:Own w0 D w (sepL (q0 f ds)::(f y++L))):Own w0 D w (sepL (q0 f (t1 i ds++(y::r7 i ds)))::L):=Own.sepIns (H.perm N7.symm)
end
open List renaming mem_of_mem_take->I3
open Nat renaming le_mul_of_pos_left->N9
open _root_.Go.Proofs.Tryz renaming prog->u2,underlying3->u6,underlying33->O1,underlying34->N8,underlying44->O2,underlying45->E4,underlying77->O0
section
open Go.RowKit
structure aR where
 au:Nat
 cK:Sv aY
 bK:Sv aD
 aU:Int
def aR.cells (x:aR):List Value:= [.int .u64 ((x.au:Nat):Int), .slice x.cK.A x.cK.ls.length x.cK.c, .slice x.bK.A x.bK.ls.length x.bK.c, .int .i64 x.aU]
instance:Bk aR:=⟨λ x _=>bk x.au+(bk x.cK+(bk x.bK+(bk x.aU+(0))))⟩
theorem aR.len:∀ x,(aR.cells x).length=4:=λ _=>rfl
theorem aR.one:∀ x, ∀ u ∈ aR.cells x,u.oneCell'=true:=λ x u hu=>by
 simp only [aR.cells,List.mem_cons,List.not_mem_nil,or_false] at hu
 rcases hu with rfl | rfl | rfl | rfl <;> rfl
def J3 (w:World) (x:aR):Prop:=(x.au<=18446744073709551615)/\(mZ w 6 80 aY.cells (IY w) x.cK)/\(mZ w 3 40 aD.cells (IP w) x.bK)/\((-9223372036854775808)<=x.aU/\x.aU<=9223372036854775807)
instance:Inhabited aR:=⟨⟨default,default,default,default⟩⟩
structure bG where
 au:Nat
 cK:Ll aY
 bK:Ll aD
 aU:Int
instance:Inhabited bG:=⟨⟨default,default,default,default⟩⟩
def aR.abs (x:aR):bG:=⟨x.au,⟨x.cK.ls⟩,⟨x.bK.ls⟩,x.aU⟩
def G5 (x:aR):List HP:= [row x.cK.A x.cK.ls.length x.cK.c (q0 aY.cells x.cK.ls) 68 6,row x.bK.A x.bK.ls.length x.bK.c (q0 aD.cells x.bK.ls) 118 3]
def lg (a:List bg) (b:Int) (c:Int):(List bg):=
 if b=c then a else(t1 (E0 b) a++r7 (E0 c) a)
theorem pE (w D f o d a c b j) (H:Own w D w [row f o d (q0 bg.cells a) 60 2]) (p:o=a.length) (J:a.length *32<=211106232532992) (K:0<=c/\c<=b/\b<=((a.length:Nat):Int)) (hr:lg a c b=j):
    Calls u2 85 #[.slice f o d,vI c,vI b] w (dG λ v w'=> ∃ B C,v= .slice B j.length C/\Own w D w' [row B j.length C (q0 bg.cells j) 60 2]/\(j.length<=a.length)):=by
 unfold lg at hr
 subst p
 have L:=H.rowC (i:=0) rfl
 refine cb Tryz.func85 ?_
 refine sr (Ar rfl (Mz rfl (fw (vJ (E0 c)) (Gw (e:=c) (Gv rfl) e8) (fw (vJ (E0 b)) (Gw (e:=b) (Gv rfl) e8) (Mz rfl (Kz (vJ a.length) (fw (.slice (eu f (E0 c) 2 a.length) ((E0 b) - (E0 c)) (a.length - (E0 c))) (II (kg) rfl rfl rfl rfl e8 e8 e8) (nt (Gp (sr (Mz rfl (Mz rfl (Kz (.bool (decide (c=b))) (nt ?_))))))))))))))
 by_cases h:c=b
 refine jT (dT h) (sr (Mz rfl (An rfl (rt (tR (rs ?_))))))
 have q:=H.pf []
 obtain rfl:=zj hr zq1
 exact⟨f,d,rfl,q,e8⟩
 refine jF (dF h) (sk (sr (Mz rfl (Kz (vJ a.length) (An rfl (Gp ?_))))))
 have g:=H.drew
 refine Im [6] (λ W=> ∃ L',Own w D W ([row f a.length d (q0 bg.cells a) 60 2]++L')) e9 e9 (GD GQ) ⟨_,g⟩ ?_
 revert g
 generalize World.drew w=r
 intro g
 refine qv 0 rfl rfl (qt (v:=vJ (E0 c)) 1 rfl (λ _ _=>Gw (e:=c) (Gv rfl) e8) (qt (v:= .slice f (E0 c) d) 2 rfl (λ _ _=>Hy (kg) rfl rfl e8) (qv 3 rfl rfl (qt (v:=vJ (E0 b)) 4 rfl (λ _ _=>Gw (e:=b) (Gv rfl) e8) (qt (v:= .slice (eu f (E0 b) 2 d) (a.length - (E0 b)) (d - (E0 b))) 5 rfl (λ _ _=>G6 (kg) rfl rfl e8) ?_)))))
 have E:q5 (t1 (E0 c) a++r7 (E0 b) a)=E0 c+(a.length - E0 b):=by simp only [m8,m6,m7]; omega
 have l:Src u2 2 34 (.slice (eu f (E0 b) 2 d) (a.length - (E0 b)) (d - (E0 b))) (a.length - E0 b) (q0 bg.cells (r7 (E0 b) a)) r:=eT N8 (HY (lo:=E0 b) bg.len (g.rds (i:=0) rfl) e8 e8 f5) (cB bg.one (r7 (E0 b) a))
 obtain⟨F,t,u⟩:=g.rowFull
 refine qd 6 rfl (Ih (k:=E0 c) (m:=a.length - E0 b) (kg) u rfl rfl l e8 (s:=q5 (t1 (E0 c) a++r7 (E0 b) a)) e8 ?_)
 intro M n
 refine⟨.inl e9, ?_⟩
 refine Hf (v:= .slice f (q5 (t1 (E0 c) a++r7 (E0 b) a)) d) 7 rfl e9 (λ _=>H8 rfl) (qn (Gs (sr (Mz rfl (Mz rfl (Kz (vI ((q5 (t1 (E0 c) a++r7 (E0 b) a):Nat):Int)) (Mz rfl (fw (.slice (eu f (q5 (t1 (E0 c) a++r7 (E0 b) a)) 2 d) (a.length - (q5 (t1 (E0 c) a++r7 (E0 b) a))) (d - (q5 (t1 (E0 c) a++r7 (E0 b) a)))) (Yl.cut (kg) rfl rfl rfl e8 e8) ?_))))))))
 refine Hz (IA (z0:=(.agg #[.int .u64 0, .slice none 0 0])) (lo:=q5 (t1 (E0 c) a++r7 (E0 b) a)) (nd:=(a.length - (q5 (t1 (E0 c) a++r7 (E0 b) a)))) e9 rfl (kg) n rfl (λ _=>fM ((n.rds (i:=0) rfl).isSome e8) e8) e8 ?_)
 intro x G I y
 refine ns (Mz rfl (An rfl (rt (rs ?_))))
 have z:Own w D x [row f (q5 (t1 (E0 c) a++r7 (E0 b) a)) d (q0 bg.cells (t1 (E0 c) a++r7 (E0 b) a)) 60 2]:=y.rowPart e8 (rG bg.len e8 e8 rfl)
 have A:=z.pf []
 obtain rfl:=zj hr zq1
 exact⟨f,d,rfl,A,e8⟩
def lh (a:List bg) (b:Int) (c:bg):(List bg):=
 if((E0 b:Nat):Int)=(a.length:Int) then(a++ [c]) else(t1 (E0 b) a++(c::r7 (E0 b) a))
theorem pF (w D f E d b a C) (c:bg) (y) (H:Own w D w [row f E d (q0 bg.cells b) 60 2,lG C 1 (q0 bg.cells ([c])) 60 2]) (F:E=b.length) (ag:b.length *32<=211106232532992) (ah:0<=a/\a<=((b.length:Nat):Int)/\(b.length+1) *32<=211106232532992) (hr:lh b a c=y):
    Calls u2 182 #[.slice f E d,vI a, .slice C 1 1] w (dG λ v w'=> ∃ X Y,v= .slice X y.length Y/\Own w D w' [row X y.length Y (q0 bg.cells y) 60 2]/\(y.length=b.length+1)):=by
 unfold lh at hr
 subst F
 have ai:=H.rowC (i:=0) rfl
 refine cb Tryz.func182 ?_
 refine sr (Ar rfl (Mz rfl (fw (vJ (E0 a)) (Gw (e:=a) (Gv rfl) e8) (fw (.slice (eu f (E0 a) 2 d) (b.length - (E0 a)) (d - (E0 a))) (G6 (kg) rfl rfl e8) (ns (Mz rfl (Kz (vI 1) (An rfl (Gp (sr (Mz rfl (Kz (.bool false) (nt (jf (sk (sr (Mz rfl (Kz (vJ b.length) (An rfl (Gp (sr (fw (vJ (E0 a)) (Gw (e:=a) (Gv rfl) e8) ?_))))))))))))))))))))))
 refine Mz rfl (Kz (.bool (decide (((E0 a:Nat):Int)=(b.length:Int)))) (nt ?_))
 by_cases h:((E0 a:Nat):Int)=(b.length:Int)
 refine jT (dT h) (sr (Mz rfl (Mz rfl ?_)))
 refine WL.do rfl (GZ (k:=b.length) (m:=1) (kg) H rfl rfl (eT N8 (dJ H (i:=1) rfl kS) (cB bg.one ([c]))) rfl e8 (s:=q5 (b++ [c])) f4 (t2).symm ?_)
 intro G I aj J
 have Z:q5 (b++ [c])=b.length+1:=by simp only [m8,q6,H2]
 refine An rfl (rt (tR (rs ?_)))
 have K:=J.pk [0]
 obtain rfl:=zj hr zq1
 exact⟨G,I,rfl,K,e8⟩
 refine jF (dF h) (sk (Gp (sr (Mz rfl (Mz rfl (fw (vJ (b.length+1)) (Gw (e:=v7.wrap ((b.length:Int)+1)) yk f1) (Mz rfl (Kz (vJ d) (Kz (.bool (decide (((b.length+1:Nat):Int) > (d:Int)))) (nt ?_))))))))))
 by_cases z:((b.length+1:Nat):Int) > (d:Int)
 refine jT (dT z) (sr (Mz rfl (fw (vJ (E0 a)) (Gw (e:=a) (Gv rfl) e8) (fw (.slice f (E0 a) d) (Hy (kg) rfl rfl e8) (Mz rfl (Mz rfl (fw (vJ (b.length+1)) (Gw (e:=v7.wrap ((b.length:Int)+1)) yk f1) (fw (vJ (E0 a)) (Gw (e:=a) (Gv rfl) e8) (fw (vJ ((b.length+1) - (E0 a))) (Gw (e:=v7.wrap (((b.length+1:Nat):Int) - ((E0 a:Nat):Int))) yk f1) ?_)))))))))
 have aa:q5 (t1 (E0 a) b++(c::r7 (E0 a) b))=b.length+1:=by simp only [m8,m6,q6,m7]; omega
 refine WL.do rfl (Ig (k:=E0 a) (m:=(b.length+1) - (E0 a)) (kg) u6 H rfl rfl e8 e8 e8 rfl e8 (s:=q5 (t1 (E0 a) b++(c::r7 (E0 a) b))) e8 ?_)
 intro j g ae ak A n
 have L:=n.rowLe (i:=0) rfl
 refine Ar rfl (Mz rfl (fw (vJ (E0 a)) (Gw (e:=a) (Gv rfl) e8) (fw (.slice (eu j (E0 a) 2 g) ((q5 (t1 (E0 a) b++(c::r7 (E0 a) b))) - (E0 a)) (g - (E0 a))) (G6 (kg) rfl rfl e8) (Mz rfl ?_))))
 refine WL.do rfl (Hu (lo:=E0 a) (k:=1) (kg) n rfl (λ _=>fM ((n.rds (i:=0) rfl).isSome e8) e8) e8 rfl (dJ n (i:=2) rfl kS) e8 (λ u hu=>cB bg.one _ u (I3 hu)) rfl ?_)
 intro au M
 refine nt (Gp ?_)
 refine xX [8] (GD (GD GQ)) M ?_
 intro av o
 refine qv 0 rfl rfl (qt (v:=vJ (E0 a)) 1 rfl (λ _ _=>Gw (e:=a) (Gv rfl) e8) (qv 2 rfl rfl (qt (v:=vJ (E0 a+1)) 3 rfl (λ _ _=>Gw (e:=v7.wrap (((E0 a:Nat):Int)+1)) yk f1) (qt (v:= .slice (eu j (E0 a+1) 2 g) ((q5 (t1 (E0 a) b++(c::r7 (E0 a) b))) - (E0 a+1)) (g - (E0 a+1))) 4 rfl (λ _ _=>G6 (kg) rfl rfl e8) (qv 5 rfl rfl (qt (v:=vJ (E0 a)) 6 rfl (λ _ _=>Gw (e:=a) (Gv rfl) e8) (qt (v:= .slice (eu f (E0 a) 2 d) (b.length - (E0 a)) (d - (E0 a))) 7 rfl (λ _ _=>G6 (kg) rfl rfl e8) ?_)))))))
 refine qd 8 rfl (Hu (lo:=E0 a+1) (k:=b.length - E0 a) (kg) o rfl (λ _=>fM ((o.rds (i:=0) rfl).isSome e8) e8) e8 rfl (HY (lo:=E0 a) bg.len (o.rds (i:=1) rfl) e8 e8 f5) e8 (λ u hu=>cB bg.one _ u (I3 hu)) rfl ?_)
 intro N O
 refine⟨.inl e9, ?_⟩
 refine qn (Gs (sr (Mz rfl (An rfl (rt (tR (rs ?_)))))))
 have P:Own w D N [row j (q5 (t1 (E0 a) b++(c::r7 (E0 a) b))) g (q0 bg.cells (t1 (E0 a) b++(c::r7 (E0 a) b))) 60 2,row f b.length d (q0 bg.cells b) 60 2,lG C 1 (q0 bg.cells ([c])) 60 2]:=O.rowPart e8 (sN (l:=b) (k2:=b.length - E0 a) bg.len e8 A rfl rfl e8)
 have Q:=P.pk [0]
 obtain rfl:=zj hr zq1
 exact⟨j,g,rfl,Q,e8⟩
 refine jF (dF z) (sk (sr ?_))
 have B:q5 (t1 (E0 a) b++(c::r7 (E0 a) b))=b.length+1:=by simp only [m8,m6,q6,m7]; omega
 obtain⟨af,p,R⟩:=H.rowFull
 refine Mz rfl (Mz rfl (Mz rfl (fw (vJ (b.length+1)) (Gw (e:=v7.wrap ((b.length:Int)+1)) yk f1) (fw (.slice f (q5 (t1 (E0 a) b++(c::r7 (E0 a) b))) d) (Yl.to (Hy (kg) rfl rfl e8) (congrArg (λ q=>Value.slice f q d) B.symm)) (An rfl (Gp (sr (Mz rfl (Mz rfl (fw (vJ (E0 a)) (Gw (e:=a) (Gv rfl) e8) (Mz rfl (fw (vJ (E0 a+1)) (Gw (e:=v7.wrap (((E0 a:Nat):Int)+1)) yk f1) (fw (.slice (eu f (E0 a+1) 2 d) ((q5 (t1 (E0 a) b++(c::r7 (E0 a) b))) - (E0 a+1)) (d - (E0 a+1))) (G6 (kg) rfl rfl e8) ?_)))))))))))))
 have r:=R.pb [0]
 refine fw (.bool false) (Ii (lo:=E0 a+1) (run_callFunc_extern Tryz.func218 e9 e9 e9 (e:=Extern.SlicesOverlaps.overlaps #[34,34] #[4]) e9) N8 Tryz.sizeOf60 r f5 e8 rfl (fM ((r.rds (i:=1) rfl).isSome e8) e8)) (Kz (.bool true) (nt (jt (Gp ?_))))
 refine oD [8] (GD (GD GQ)) r ?_
 intro ax S
 refine qv 0 rfl rfl (qt (v:=vJ (E0 a)) 1 rfl (λ _ _=>Gw (e:=a) (Gv rfl) e8) (qv 2 rfl rfl (qt (v:=vJ (E0 a+1)) 3 rfl (λ _ _=>Gw (e:=v7.wrap (((E0 a:Nat):Int)+1)) yk f1) (qt (v:= .slice (eu f (E0 a+1) 2 d) ((q5 (t1 (E0 a) b++(c::r7 (E0 a) b))) - (E0 a+1)) (d - (E0 a+1))) 4 rfl (λ _ _=>G6 (kg) rfl rfl e8) (qv 5 rfl rfl (qt (v:=vJ (E0 a)) 6 rfl (λ _ _=>Gw (e:=a) (Gv rfl) e8) (qt (v:= .slice (eu f (E0 a) 2 d) ((q5 (t1 (E0 a) b++(c::r7 (E0 a) b))) - (E0 a)) (d - (E0 a))) 7 rfl (λ _ _=>G6 (kg) rfl rfl e8) ?_)))))))
 have t:=S.pb [0]
 refine qd 8 rfl (Hu (lo:=E0 a+1) (k:=b.length - E0 a) (kg) t rfl (λ _=>fM ((t.rds (i:=0) rfl).isSome e8) e8) e8 rfl (bM.cut (lo:=E0 a) (hi:=q5 (t1 (E0 a) b++(c::r7 (E0 a) b))) (t.rds (i:=0) rfl) e8 e8 e8) e8 (λ u hu=>cB bg.one _ u (by rw [sO bg.len e8 rfl e8] at hu; exact hu)) rfl ?_)
 intro ay x
 refine⟨.inl e9, ?_⟩
 refine qn (Gs (sr (Mz rfl (fw (vJ (E0 a)) (Gw (e:=a) (Gv rfl) e8) (fw (.slice (eu f (E0 a) 2 d) ((q5 (t1 (E0 a) b++(c::r7 (E0 a) b))) - (E0 a)) (d - (E0 a))) (G6 (kg) rfl rfl e8) (Mz rfl ?_))))))
 refine WL.do rfl (Hu (lo:=E0 a) (k:=1) (kg) x rfl (λ _=>fM ((x.rds (i:=0) rfl).isSome e8) e8) e8 rfl (dJ x (i:=1) rfl kS) e8 (λ u hu=>cB bg.one _ u (I3 hu)) rfl ?_)
 intro T U
 refine ns (Mz rfl (An rfl (rt (tR (rs ?_)))))
 have V:Own w D T [row f (q5 (t1 (E0 a) b++(c::r7 (E0 a) b))) d (q0 bg.cells (t1 (E0 a) b++(c::r7 (E0 a) b))) 60 2,lG C 1 (q0 bg.cells ([c])) 60 2]:=U.rowPart e8 (sP (l:=b) (m:=(q5 (t1 (E0 a) b++(c::r7 (E0 a) b))) - E0 a) (k2:=b.length - E0 a) bg.len e8 (by rw [p]; exact N9 2 e8) rfl rfl e8 e8)
 have W:=V.pk [0]
 obtain rfl:=zj hr zq1
 exact⟨f,d,rfl,W,e8⟩
theorem lC:Elem u2 77 99 4 64:=mh (z:= .agg #[.int .u64 0, .slice none 0 0, .slice none 0 0, .int .i64 0]) O0 e9 rfl f5
def jN (a:List aR) (b:Int) (c:Int):(List aR):=
 if b=c then a else(t1 (E0 b) a++r7 (E0 c) a)
theorem nW (w D f o d a c b j) (H:Own w D w [row f o d (q0 aR.cells a) 99 4]) (p:o=a.length) (J:a.length *64<=211106232532992) (K:0<=c/\c<=b/\b<=((a.length:Nat):Int)) (hr:jN a c b=j):
    Calls u2 142 #[.slice f o d,vI c,vI b] w (dG λ v w'=> ∃ B C,v= .slice B j.length C/\Own w D w' [row B j.length C (q0 aR.cells j) 99 4]/\(j.length<=a.length)):=by
 unfold jN at hr
 subst p
 have L:=H.rowC (i:=0) rfl
 refine cb Tryz.func142 ?_
 refine sr (Ar rfl (Mz rfl (fw (vJ (E0 c)) (Gw (e:=c) (Gv rfl) e8) (fw (vJ (E0 b)) (Gw (e:=b) (Gv rfl) e8) (Mz rfl (Kz (vJ a.length) (fw (.slice (eu f (E0 c) 4 a.length) ((E0 b) - (E0 c)) (a.length - (E0 c))) (II (lC) rfl rfl rfl rfl e8 e8 e8) (nt (Gp (sr (Mz rfl (Mz rfl (Kz (.bool (decide (c=b))) (nt ?_))))))))))))))
 by_cases h:c=b
 refine jT (dT h) (sr (Mz rfl (An rfl (rt (tR (rs ?_))))))
 have q:=H.pf []
 obtain rfl:=zj hr zq1
 exact⟨f,d,rfl,q,e8⟩
 refine jF (dF h) (sk (sr (Mz rfl (Kz (vJ a.length) (An rfl (Gp ?_))))))
 have g:=H.drew
 refine Im [6] (λ W=> ∃ L',Own w D W ([row f a.length d (q0 aR.cells a) 99 4]++L')) e9 e9 (GD GQ) ⟨_,g⟩ ?_
 revert g
 generalize World.drew w=r
 intro g
 refine qv 0 rfl rfl (qt (v:=vJ (E0 c)) 1 rfl (λ _ _=>Gw (e:=c) (Gv rfl) e8) (qt (v:= .slice f (E0 c) d) 2 rfl (λ _ _=>Hy (lC) rfl rfl e8) (qv 3 rfl rfl (qt (v:=vJ (E0 b)) 4 rfl (λ _ _=>Gw (e:=b) (Gv rfl) e8) (qt (v:= .slice (eu f (E0 b) 4 d) (a.length - (E0 b)) (d - (E0 b))) 5 rfl (λ _ _=>G6 (lC) rfl rfl e8) ?_)))))
 have E:q5 (t1 (E0 c) a++r7 (E0 b) a)=E0 c+(a.length - E0 b):=by simp only [m8,m6,m7]; omega
 have l:Src u2 4 77 (.slice (eu f (E0 b) 4 d) (a.length - (E0 b)) (d - (E0 b))) (a.length - E0 b) (q0 aR.cells (r7 (E0 b) a)) r:=eT O0 (HY (lo:=E0 b) aR.len (g.rds (i:=0) rfl) e8 e8 f5) (cB aR.one (r7 (E0 b) a))
 obtain⟨F,t,u⟩:=g.rowFull
 refine qd 6 rfl (Ih (k:=E0 c) (m:=a.length - E0 b) (lC) u rfl rfl l e8 (s:=q5 (t1 (E0 c) a++r7 (E0 b) a)) e8 ?_)
 intro M n
 refine⟨.inl e9, ?_⟩
 refine Hf (v:= .slice f (q5 (t1 (E0 c) a++r7 (E0 b) a)) d) 7 rfl e9 (λ _=>H8 rfl) (qn (Gs (sr (Mz rfl (Mz rfl (Kz (vI ((q5 (t1 (E0 c) a++r7 (E0 b) a):Nat):Int)) (Mz rfl (fw (.slice (eu f (q5 (t1 (E0 c) a++r7 (E0 b) a)) 4 d) (a.length - (q5 (t1 (E0 c) a++r7 (E0 b) a))) (d - (q5 (t1 (E0 c) a++r7 (E0 b) a)))) (Yl.cut (lC) rfl rfl rfl e8 e8) ?_))))))))
 refine Hz (IA (z0:=(.agg #[.int .u64 0, .slice none 0 0, .slice none 0 0,vI 0])) (lo:=q5 (t1 (E0 c) a++r7 (E0 b) a)) (nd:=(a.length - (q5 (t1 (E0 c) a++r7 (E0 b) a)))) e9 rfl (lC) n rfl (λ _=>fM ((n.rds (i:=0) rfl).isSome e8) e8) e8 ?_)
 intro x G I y
 refine ns (Mz rfl (An rfl (rt (rs ?_))))
 have z:Own w D x [row f (q5 (t1 (E0 c) a++r7 (E0 b) a)) d (q0 aR.cells (t1 (E0 c) a++r7 (E0 b) a)) 99 4]:=y.rowPart e8 (rG aR.len e8 e8 rfl)
 have A:=z.pf []
 obtain rfl:=zj hr zq1
 exact⟨f,d,rfl,A,e8⟩
def jO (a:List aR) (b:Int) (c:aR):(List aR):=
 if((E0 b:Nat):Int)=(a.length:Int) then(a++ [c]) else(t1 (E0 b) a++(c::r7 (E0 b) a))
theorem nX (w D f E d b a C) (c:aR) (y) (H:Own w D w [row f E d (q0 aR.cells b) 99 4,lG C 1 (q0 aR.cells ([c])) 99 4]) (F:E=b.length) (ag:b.length *64<=211106232532992) (ah:0<=a/\a<=((b.length:Nat):Int)/\(b.length+1) *64<=211106232532992) (hr:jO b a c=y):
    Calls u2 82 #[.slice f E d,vI a, .slice C 1 1] w (dG λ v w'=> ∃ X Y,v= .slice X y.length Y/\Own w D w' [row X y.length Y (q0 aR.cells y) 99 4]/\(y.length=b.length+1)):=by
 unfold jO at hr
 subst F
 have ai:=H.rowC (i:=0) rfl
 refine cb Tryz.func82 ?_
 refine sr (Ar rfl (Mz rfl (fw (vJ (E0 a)) (Gw (e:=a) (Gv rfl) e8) (fw (.slice (eu f (E0 a) 4 d) (b.length - (E0 a)) (d - (E0 a))) (G6 (lC) rfl rfl e8) (ns (Mz rfl (Kz (vI 1) (An rfl (Gp (sr (Mz rfl (Kz (.bool false) (nt (jf (sk (sr (Mz rfl (Kz (vJ b.length) (An rfl (Gp (sr (fw (vJ (E0 a)) (Gw (e:=a) (Gv rfl) e8) ?_))))))))))))))))))))))
 refine Mz rfl (Kz (.bool (decide (((E0 a:Nat):Int)=(b.length:Int)))) (nt ?_))
 by_cases h:((E0 a:Nat):Int)=(b.length:Int)
 refine jT (dT h) (sr (Mz rfl (Mz rfl ?_)))
 refine WL.do rfl (GZ (k:=b.length) (m:=1) (lC) H rfl rfl (eT O0 (dJ H (i:=1) rfl kS) (cB aR.one ([c]))) rfl e8 (s:=q5 (b++ [c])) f4 (t2).symm ?_)
 intro G I aj J
 have Z:q5 (b++ [c])=b.length+1:=by simp only [m8,q6,H2]
 refine An rfl (rt (tR (rs ?_)))
 have K:=J.pk [0]
 obtain rfl:=zj hr zq1
 exact⟨G,I,rfl,K,e8⟩
 refine jF (dF h) (sk (Gp (sr (Mz rfl (Mz rfl (fw (vJ (b.length+1)) (Gw (e:=v7.wrap ((b.length:Int)+1)) yk f1) (Mz rfl (Kz (vJ d) (Kz (.bool (decide (((b.length+1:Nat):Int) > (d:Int)))) (nt ?_))))))))))
 by_cases z:((b.length+1:Nat):Int) > (d:Int)
 refine jT (dT z) (sr (Mz rfl (fw (vJ (E0 a)) (Gw (e:=a) (Gv rfl) e8) (fw (.slice f (E0 a) d) (Hy (lC) rfl rfl e8) (Mz rfl (Mz rfl (fw (vJ (b.length+1)) (Gw (e:=v7.wrap ((b.length:Int)+1)) yk f1) (fw (vJ (E0 a)) (Gw (e:=a) (Gv rfl) e8) (fw (vJ ((b.length+1) - (E0 a))) (Gw (e:=v7.wrap (((b.length+1:Nat):Int) - ((E0 a:Nat):Int))) yk f1) ?_)))))))))
 have aa:q5 (t1 (E0 a) b++(c::r7 (E0 a) b))=b.length+1:=by simp only [m8,m6,q6,m7]; omega
 refine WL.do rfl (Ig (k:=E0 a) (m:=(b.length+1) - (E0 a)) (lC) u6 H rfl rfl e8 e8 e8 rfl e8 (s:=q5 (t1 (E0 a) b++(c::r7 (E0 a) b))) e8 ?_)
 intro j g ae ak A n
 have L:=n.rowLe (i:=0) rfl
 refine Ar rfl (Mz rfl (fw (vJ (E0 a)) (Gw (e:=a) (Gv rfl) e8) (fw (.slice (eu j (E0 a) 4 g) ((q5 (t1 (E0 a) b++(c::r7 (E0 a) b))) - (E0 a)) (g - (E0 a))) (G6 (lC) rfl rfl e8) (Mz rfl ?_))))
 refine WL.do rfl (Hu (lo:=E0 a) (k:=1) (lC) n rfl (λ _=>fM ((n.rds (i:=0) rfl).isSome e8) e8) e8 rfl (dJ n (i:=2) rfl kS) e8 (λ u hu=>cB aR.one _ u (I3 hu)) rfl ?_)
 intro au M
 refine nt (Gp ?_)
 refine xX [8] (GD (GD GQ)) M ?_
 intro av o
 refine qv 0 rfl rfl (qt (v:=vJ (E0 a)) 1 rfl (λ _ _=>Gw (e:=a) (Gv rfl) e8) (qv 2 rfl rfl (qt (v:=vJ (E0 a+1)) 3 rfl (λ _ _=>Gw (e:=v7.wrap (((E0 a:Nat):Int)+1)) yk f1) (qt (v:= .slice (eu j (E0 a+1) 4 g) ((q5 (t1 (E0 a) b++(c::r7 (E0 a) b))) - (E0 a+1)) (g - (E0 a+1))) 4 rfl (λ _ _=>G6 (lC) rfl rfl e8) (qv 5 rfl rfl (qt (v:=vJ (E0 a)) 6 rfl (λ _ _=>Gw (e:=a) (Gv rfl) e8) (qt (v:= .slice (eu f (E0 a) 4 d) (b.length - (E0 a)) (d - (E0 a))) 7 rfl (λ _ _=>G6 (lC) rfl rfl e8) ?_)))))))
 refine qd 8 rfl (Hu (lo:=E0 a+1) (k:=b.length - E0 a) (lC) o rfl (λ _=>fM ((o.rds (i:=0) rfl).isSome e8) e8) e8 rfl (HY (lo:=E0 a) aR.len (o.rds (i:=1) rfl) e8 e8 f5) e8 (λ u hu=>cB aR.one _ u (I3 hu)) rfl ?_)
 intro N O
 refine⟨.inl e9, ?_⟩
 refine qn (Gs (sr (Mz rfl (An rfl (rt (tR (rs ?_)))))))
 have P:Own w D N [row j (q5 (t1 (E0 a) b++(c::r7 (E0 a) b))) g (q0 aR.cells (t1 (E0 a) b++(c::r7 (E0 a) b))) 99 4,row f b.length d (q0 aR.cells b) 99 4,lG C 1 (q0 aR.cells ([c])) 99 4]:=O.rowPart e8 (sN (l:=b) (k2:=b.length - E0 a) aR.len e8 A rfl rfl e8)
 have Q:=P.pk [0]
 obtain rfl:=zj hr zq1
 exact⟨j,g,rfl,Q,e8⟩
 refine jF (dF z) (sk (sr ?_))
 have B:q5 (t1 (E0 a) b++(c::r7 (E0 a) b))=b.length+1:=by simp only [m8,m6,q6,m7]; omega
 obtain⟨af,p,R⟩:=H.rowFull
 refine Mz rfl (Mz rfl (Mz rfl (fw (vJ (b.length+1)) (Gw (e:=v7.wrap ((b.length:Int)+1)) yk f1) (fw (.slice f (q5 (t1 (E0 a) b++(c::r7 (E0 a) b))) d) (Yl.to (Hy (lC) rfl rfl e8) (congrArg (λ q=>Value.slice f q d) B.symm)) (An rfl (Gp (sr (Mz rfl (Mz rfl (fw (vJ (E0 a)) (Gw (e:=a) (Gv rfl) e8) (Mz rfl (fw (vJ (E0 a+1)) (Gw (e:=v7.wrap (((E0 a:Nat):Int)+1)) yk f1) (fw (.slice (eu f (E0 a+1) 4 d) ((q5 (t1 (E0 a) b++(c::r7 (E0 a) b))) - (E0 a+1)) (d - (E0 a+1))) (G6 (lC) rfl rfl e8) ?_)))))))))))))
 have r:=R.pb [0]
 refine fw (.bool false) (Ii (lo:=E0 a+1) (run_callFunc_extern Tryz.func135 e9 e9 e9 (e:=Extern.SlicesOverlaps.overlaps #[77,77] #[4]) e9) O0 Tryz.sizeOf99 r f5 e8 rfl (fM ((r.rds (i:=1) rfl).isSome e8) e8)) (Kz (.bool true) (nt (jt (Gp ?_))))
 refine oD [8] (GD (GD GQ)) r ?_
 intro ax S
 refine qv 0 rfl rfl (qt (v:=vJ (E0 a)) 1 rfl (λ _ _=>Gw (e:=a) (Gv rfl) e8) (qv 2 rfl rfl (qt (v:=vJ (E0 a+1)) 3 rfl (λ _ _=>Gw (e:=v7.wrap (((E0 a:Nat):Int)+1)) yk f1) (qt (v:= .slice (eu f (E0 a+1) 4 d) ((q5 (t1 (E0 a) b++(c::r7 (E0 a) b))) - (E0 a+1)) (d - (E0 a+1))) 4 rfl (λ _ _=>G6 (lC) rfl rfl e8) (qv 5 rfl rfl (qt (v:=vJ (E0 a)) 6 rfl (λ _ _=>Gw (e:=a) (Gv rfl) e8) (qt (v:= .slice (eu f (E0 a) 4 d) ((q5 (t1 (E0 a) b++(c::r7 (E0 a) b))) - (E0 a)) (d - (E0 a))) 7 rfl (λ _ _=>G6 (lC) rfl rfl e8) ?_)))))))
 have t:=S.pb [0]
 refine qd 8 rfl (Hu (lo:=E0 a+1) (k:=b.length - E0 a) (lC) t rfl (λ _=>fM ((t.rds (i:=0) rfl).isSome e8) e8) e8 rfl (bM.cut (lo:=E0 a) (hi:=q5 (t1 (E0 a) b++(c::r7 (E0 a) b))) (t.rds (i:=0) rfl) e8 e8 e8) e8 (λ u hu=>cB aR.one _ u (by rw [sO aR.len e8 rfl e8] at hu; exact hu)) rfl ?_)
 intro ay x
 refine⟨.inl e9, ?_⟩
 refine qn (Gs (sr (Mz rfl (fw (vJ (E0 a)) (Gw (e:=a) (Gv rfl) e8) (fw (.slice (eu f (E0 a) 4 d) ((q5 (t1 (E0 a) b++(c::r7 (E0 a) b))) - (E0 a)) (d - (E0 a))) (G6 (lC) rfl rfl e8) (Mz rfl ?_))))))
 refine WL.do rfl (Hu (lo:=E0 a) (k:=1) (lC) x rfl (λ _=>fM ((x.rds (i:=0) rfl).isSome e8) e8) e8 rfl (dJ x (i:=1) rfl kS) e8 (λ u hu=>cB aR.one _ u (I3 hu)) rfl ?_)
 intro T U
 refine ns (Mz rfl (An rfl (rt (tR (rs ?_)))))
 have V:Own w D T [row f (q5 (t1 (E0 a) b++(c::r7 (E0 a) b))) d (q0 aR.cells (t1 (E0 a) b++(c::r7 (E0 a) b))) 99 4,lG C 1 (q0 aR.cells ([c])) 99 4]:=U.rowPart e8 (sP (l:=b) (m:=(q5 (t1 (E0 a) b++(c::r7 (E0 a) b))) - E0 a) (k2:=b.length - E0 a) aR.len e8 (by rw [p]; exact N9 4 e8) rfl rfl e8 e8)
 have W:=V.pk [0]
 obtain rfl:=zj hr zq1
 exact⟨f,d,rfl,W,e8⟩
def qL (a:List bg):(List bg):=
 a
theorem pY (w D e g x a f) (H:Own w D w []) (d:Ro w D λ w'=>bM w' 2 e g (q0 bg.cells a)) (h:g=a.length) (y:a.length *32<=211106232532992) (hr:qL a=f):
    Calls u2 35 #[.slice e g x] w (dG λ v w'=> ∃ t u,v= .slice t f.length u/\Own w D w' [row t f.length u (q0 bg.cells f) 60 2]):=by
 subst h
 refine cb Tryz.func35 ?_
 refine sr (An rfl (Gp (sr (Mz rfl (fw (.bool (Option.isNone e)) (Ij N8 rfl rfl) (nt ?_))))))
 rcases Kq (Option.isNone e) with b | b
 obtain rfl:a= []:=qY (enc:=bg.cells) (H.ro d) b
 refine jT b (sr (An rfl (rt (tR (rs ?_)))))
 have i:Own w D w [row none 0 0 (q0 bg.cells []) 60 2]:=H.free (bX 60 2)
 have j:=i.pf []
 obtain rfl:_=[]:=zj hr rfl
 exact⟨none,0,rfl,j⟩
 refine jF b (sk (sr ?_))
 refine jE [] 60 2 0 H ?_
 intro l n c
 replace c:Own w D n [row l 0 0 (q0 bg.cells []) 60 2]:=c
 refine Mz rfl ?_
 refine WL.do rfl (GZ (k:=0) (m:=a.length) (kg) c rfl rfl (eT N8 (c.ro d) (cB bg.one a)) rfl e8 (s:=a.length) e8 rfl ?_)
 intro o p z q
 refine An rfl (rt (rs ?_))
 have r:=q.pf []
 obtain rfl:_=a:=zj hr rfl
 exact⟨o,p,rfl,r⟩
def pG (a:List aP):(List aP):=
 a
theorem oJ (w D e g x a f) (H:Own w D w []) (d:Ro w D λ w'=>bM w' 3 e g (q0 aP.cells a)) (h:g=a.length) (y:a.length *48<=211106232532992) (hr:pG a=f):
    Calls u2 178 #[.slice e g x] w (dG λ v w'=> ∃ t u,v= .slice t f.length u/\Own w D w' [row t f.length u (q0 aP.cells f) 70 3]):=by
 subst h
 refine cb Tryz.func178 ?_
 refine sr (An rfl (Gp (sr (Mz rfl (fw (.bool (Option.isNone e)) (Ij E4 rfl rfl) (nt ?_))))))
 rcases Kq (Option.isNone e) with b | b
 obtain rfl:a= []:=qY (enc:=aP.cells) (H.ro d) b
 refine jT b (sr (An rfl (rt (tR (rs ?_)))))
 have i:Own w D w [row none 0 0 (q0 aP.cells []) 70 3]:=H.free (bX 70 3)
 have j:=i.pf []
 obtain rfl:_=[]:=zj hr rfl
 exact⟨none,0,rfl,j⟩
 refine jF b (sk (sr ?_))
 refine jE [] 70 3 0 H ?_
 intro l n c
 replace c:Own w D n [row l 0 0 (q0 aP.cells []) 70 3]:=c
 refine Mz rfl ?_
 refine WL.do rfl (GZ (k:=0) (m:=a.length) (ui) c rfl rfl (eT E4 (c.ro d) (cB aP.one a)) rfl e8 (s:=a.length) e8 rfl ?_)
 intro o p z q
 refine An rfl (rt (rs ?_))
 have r:=q.pf []
 obtain rfl:_=a:=zj hr rfl
 exact⟨o,p,rfl,r⟩
def rY (a:List Nat):(List Nat):=
 a
theorem qU (w D e g x a f) (H:Own w D w []) (d:Ro w D λ w'=>bM w' 1 e g (q0 (eN .u64) a)) (h:g=a.length) (y:a.length *8<=211106232532992) (hr:rY a=f):
    Calls u2 34 #[.slice e g x] w (dG λ v w'=> ∃ t u,v= .slice t f.length u/\Own w D w' [row t f.length u (q0 (eN .u64) f) 32 1]):=by
 subst h
 refine cb Tryz.func34 ?_
 refine sr (An rfl (Gp (sr (Mz rfl (fw (.bool (Option.isNone e)) (Ij M6 rfl rfl) (nt ?_))))))
 rcases Kq (Option.isNone e) with b | b
 obtain rfl:a= []:=qY (enc:=(eN .u64)) (H.ro d) b
 refine jT b (sr (An rfl (rt (tR (rs ?_)))))
 have i:Own w D w [row none 0 0 (q0 (eN .u64) []) 32 1]:=H.free (bX 32 1)
 have j:=i.pf []
 obtain rfl:_=[]:=zj hr rfl
 exact⟨none,0,rfl,j⟩
 refine jF b (sk (sr ?_))
 refine jE [] 32 1 0 H ?_
 intro l n c
 replace c:Own w D n [row l 0 0 (q0 (eN .u64) []) 32 1]:=c
 refine Mz rfl ?_
 refine WL.do rfl (GZ (k:=0) (m:=a.length) (iC) c rfl rfl (eT M6 (c.ro d) (cB lZ a)) rfl e8 (s:=a.length) e8 rfl ?_)
 intro o p z q
 refine An rfl (rt (rs ?_))
 have r:=q.pf []
 obtain rfl:_=a:=zj hr rfl
 exact⟨o,p,rfl,r⟩
def qg (a:List bL):(List bL):=
 a
theorem pg (w D e g x a f) (H:Own w D w []) (d:Ro w D λ w'=>bM w' 2 e g (q0 bL.cells a)) (h:g=a.length) (y:a.length *24<=211106232532992) (hr:qg a=f):
    Calls u2 33 #[.slice e g x] w (dG λ v w'=> ∃ t u,v= .slice t f.length u/\Own w D w' [row t f.length u (q0 bL.cells f) 83 2]):=by
 subst h
 refine cb Tryz.func33 ?_
 refine sr (An rfl (Gp (sr (Mz rfl (fw (.bool (Option.isNone e)) (Ij O1 rfl rfl) (nt ?_))))))
 rcases Kq (Option.isNone e) with b | b
 obtain rfl:a= []:=qY (enc:=bL.cells) (H.ro d) b
 refine jT b (sr (An rfl (rt (tR (rs ?_)))))
 have i:Own w D w [row none 0 0 (q0 bL.cells []) 83 2]:=H.free (bX 83 2)
 have j:=i.pf []
 obtain rfl:_=[]:=zj hr rfl
 exact⟨none,0,rfl,j⟩
 refine jF b (sk (sr ?_))
 refine jE [] 83 2 0 H ?_
 intro l n c
 replace c:Own w D n [row l 0 0 (q0 bL.cells []) 83 2]:=c
 refine Mz rfl ?_
 refine WL.do rfl (GZ (k:=0) (m:=a.length) (sS) c rfl rfl (eT O1 (c.ro d) (cB bL.one a)) rfl e8 (s:=a.length) e8 rfl ?_)
 intro o p z q
 refine An rfl (rt (rs ?_))
 have r:=q.pf []
 obtain rfl:_=a:=zj hr rfl
 exact⟨o,p,rfl,r⟩
def rZ (a:List aY):(List aY):=
 a
theorem iF (w D e g x a f) (H:Own w D w []) (d:Ro w D λ w'=>bM w' 6 e g (q0 aY.cells a)) (h:g=a.length) (y:a.length *80<=211106232532992) (hr:rZ a=f):
    Calls u2 36 #[.slice e g x] w (dG λ v w'=> ∃ t u,v= .slice t f.length u/\Own w D w' [row t f.length u (q0 aY.cells f) 68 6]):=by
 subst h
 refine cb Tryz.func36 ?_
 refine sr (An rfl (Gp (sr (Mz rfl (fw (.bool (Option.isNone e)) (Ij O2 rfl rfl) (nt ?_))))))
 rcases Kq (Option.isNone e) with b | b
 obtain rfl:a= []:=qY (enc:=aY.cells) (H.ro d) b
 refine jT b (sr (An rfl (rt (tR (rs ?_)))))
 have i:Own w D w [row none 0 0 (q0 aY.cells []) 68 6]:=H.free (bX 68 6)
 have j:=i.pf []
 obtain rfl:_=[]:=zj hr rfl
 exact⟨none,0,rfl,j⟩
 refine jF b (sk (sr ?_))
 refine jE [] 68 6 0 H ?_
 intro l n c
 replace c:Own w D n [row l 0 0 (q0 aY.cells []) 68 6]:=c
 refine Mz rfl ?_
 refine WL.do rfl (GZ (k:=0) (m:=a.length) (nD) c rfl rfl (eT O2 (c.ro d) (cB aY.one a)) rfl e8 (s:=a.length) e8 rfl ?_)
 intro o p z q
 refine An rfl (rt (rs ?_))
 have r:=q.pf []
 obtain rfl:_=a:=zj hr rfl
 exact⟨o,p,rfl,r⟩
end
section
open Go.RowKit
theorem yY (d:List bg) (i j:Int) (h:0<=i/\i<=j):lg d i j=List.take (Int.toNat i) d++List.drop (Int.toNat j) d:=by
 unfold lg
 by_cases c:i=j
 . rw [ip c,c,List.take_append_drop]
 . rw [iN c]
theorem yZ (w D A n c d l i j k) (x:bg) (H:Own w D w [row A n c (List.flatMap bg.cells d) 60 2,sepL (List.flatMap He d)]) (hn:n=l.length) (hd:List.map bg.abs d=l) (hl:l.length<=1000000) (hk:i=((k:Nat):Int)) (hj:j=i+1) (hx:d[k]? =some x):
    Calls Tryz.prog 85 #[.slice A n c,vI i,vI j] w (dG λ v w'=> ∃ B b,v= .slice B (List.length (List.take k l++List.drop (k+1) l)) b/\
      Own w D w' (row B (List.length (List.take k l++List.drop (k+1) l)) b (List.flatMap bg.cells (List.take k d++List.drop (k+1) d)) 60 2::sepL (List.flatMap He (List.take k d++List.drop (k+1) d))::He x)):=by
 obtain⟨a,e,ro,bk,rr⟩:=G9 H
 have hdl:d.length=l.length:=by rw [<- hd,List.length_map]
 have hkl:=(List.getElem?_eq_some_iff.1 hx).1
 have f:Int.toNat i=k:=e8
 have g:Int.toNat j=k+1:=e8
 refine(pE w a A n c d i j _ e e8 e8 e8 (yY d i j e8)).mono ?_
 rintro _ w' ⟨v,rfl,B,b,rfl,HQ,_⟩
 rw [f,g,aW (nL (i:=k) (j:=k+1) hd)] at HQ ⊢
 have h:=(bk _ _ HQ).perm (List.Perm.swap _ _ _)
 have m:=Aj hx h
 exact⟨_,rfl,B,b,rfl,m.perm (List.perm_append_comm (l₁:=sepL (List.flatMap He (List.take k d++List.drop (k+1) d))::He x) (l₂:= [_]))⟩
theorem y5 (d:List bg) (i:Int) (x:bg) (h:0<=i/\i<=(d.length:Int)):lh d i x=List.take (Int.toNat i) d++(x::List.drop (Int.toNat i) d):=by
 unfold lh
 by_cases c:((Int.toNat i:Nat):Int)=(d.length:Int)
 . rw [ip c,List.take_of_length_le e8,List.drop_eq_nil_of_le e8]
 . rw [iN c]
theorem y7 (w D A n c d l i k a) (y:bg) (z:dD) (H:Own w D w (row A n c (List.flatMap bg.cells d) 60 2::lG a 1 (List.flatMap bg.cells [y]) 60 2::sepL (List.flatMap He d)::He y)) (hn:n=l.length) (hd:List.map bg.abs d=l) (hz:bg.abs y=z) (hl:l.length<=1000000) (hk:i=((k:Nat):Int)) (hi:k<=l.length):
    Calls Tryz.prog 182 #[.slice A n c,vI i, .slice a 1 1] w (dG λ v w'=> ∃ B b,v= .slice B (List.length (List.take k l++(z::List.drop k l))) b/\
      Own w D w' [row B (List.length (List.take k l++(z::List.drop k l))) b (List.flatMap bg.cells (List.take k d++(y::List.drop k d))) 60 2,sepL (List.flatMap He (List.take k d++(y::List.drop k d)))]):=by
 obtain⟨e,f,ro,bk,rr⟩:=Ht H
 have hdl:d.length=l.length:=by rw [<- hd,List.length_map]
 have g:Int.toNat i=k:=e8
 refine(pF w e A n c d i a y _ f e8 e8 e8 (y5 d i y e8)).mono ?_
 rintro _ w' ⟨v,rfl,B,b,rfl,HQ,_⟩
 rw [g,aW (jA (i:=k) hd hz)] at HQ ⊢
 have h:=bk _ _ HQ
 have j:Own w D w' (sepL (List.flatMap He d)::(He y++ [row B (List.length (List.take k l++(z::List.drop k l))) b (List.flatMap bg.cells (List.take k d++(y::List.drop k d))) 60 2])):=h.perm (List.perm_append_comm (l₁:= [_]) (l₂:=sepL (List.flatMap He d)::He y))
 exact⟨_,rfl,B,b,rfl,(Ak j).perm (List.Perm.swap _ _ _)⟩
theorem xC (d:List aR) (i j:Int) (h:0<=i/\i<=j):jN d i j=List.take (Int.toNat i) d++List.drop (Int.toNat j) d:=by
 unfold jN
 by_cases c:i=j
 . rw [ip c,c,List.take_append_drop]
 . rw [iN c]
theorem tK (w D A n c d l i j k) (x:aR) (H:Own w D w [row A n c (List.flatMap aR.cells d) 99 4,sepL (List.flatMap G5 d)]) (hn:n=l.length) (hd:List.map aR.abs d=l) (hl:l.length<=1000000) (hk:i=((k:Nat):Int)) (hj:j=i+1) (hx:d[k]? =some x):
    Calls Tryz.prog 142 #[.slice A n c,vI i,vI j] w (dG λ v w'=> ∃ B b,v= .slice B (List.length (List.take k l++List.drop (k+1) l)) b/\
      Own w D w' (row B (List.length (List.take k l++List.drop (k+1) l)) b (List.flatMap aR.cells (List.take k d++List.drop (k+1) d)) 99 4::sepL (List.flatMap G5 (List.take k d++List.drop (k+1) d))::G5 x)):=by
 obtain⟨a,e,ro,bk,rr⟩:=G9 H
 have hdl:d.length=l.length:=by rw [<- hd,List.length_map]
 have hkl:=(List.getElem?_eq_some_iff.1 hx).1
 have f:Int.toNat i=k:=e8
 have g:Int.toNat j=k+1:=e8
 refine(nW w a A n c d i j _ e e8 e8 e8 (xC d i j e8)).mono ?_
 rintro _ w' ⟨v,rfl,B,b,rfl,HQ,_⟩
 rw [f,g,aW (nL (i:=k) (j:=k+1) hd)] at HQ ⊢
 have h:=(bk _ _ HQ).perm (List.Perm.swap _ _ _)
 have m:=Aj hx h
 exact⟨_,rfl,B,b,rfl,m.perm (List.perm_append_comm (l₁:=sepL (List.flatMap G5 (List.take k d++List.drop (k+1) d))::G5 x) (l₂:= [_]))⟩
theorem xD (d:List aR) (i:Int) (x:aR) (h:0<=i/\i<=(d.length:Int)):jO d i x=List.take (Int.toNat i) d++(x::List.drop (Int.toNat i) d):=by
 unfold jO
 by_cases c:((Int.toNat i:Nat):Int)=(d.length:Int)
 . rw [ip c,List.take_of_length_le e8,List.drop_eq_nil_of_le e8]
 . rw [iN c]
theorem xE (w D A n c d l i k a) (y:aR) (z:bG) (H:Own w D w (row A n c (List.flatMap aR.cells d) 99 4::lG a 1 (List.flatMap aR.cells [y]) 99 4::sepL (List.flatMap G5 d)::G5 y)) (hn:n=l.length) (hd:List.map aR.abs d=l) (hz:aR.abs y=z) (hl:l.length<=1000000) (hk:i=((k:Nat):Int)) (hi:k<=l.length):
    Calls Tryz.prog 82 #[.slice A n c,vI i, .slice a 1 1] w (dG λ v w'=> ∃ B b,v= .slice B (List.length (List.take k l++(z::List.drop k l))) b/\
      Own w D w' [row B (List.length (List.take k l++(z::List.drop k l))) b (List.flatMap aR.cells (List.take k d++(y::List.drop k d))) 99 4,sepL (List.flatMap G5 (List.take k d++(y::List.drop k d)))]):=by
 obtain⟨e,f,ro,bk,rr⟩:=Ht H
 have hdl:d.length=l.length:=by rw [<- hd,List.length_map]
 have g:Int.toNat i=k:=e8
 refine(nX w e A n c d i a y _ f e8 e8 e8 (xD d i y e8)).mono ?_
 rintro _ w' ⟨v,rfl,B,b,rfl,HQ,_⟩
 rw [g,aW (jA (i:=k) hd hz)] at HQ ⊢
 have h:=bk _ _ HQ
 have j:Own w D w' (sepL (List.flatMap G5 d)::(G5 y++ [row B (List.length (List.take k l++(z::List.drop k l))) b (List.flatMap aR.cells (List.take k d++(y::List.drop k d))) 99 4])):=h.perm (List.perm_append_comm (l₁:= [_]) (l₂:=sepL (List.flatMap G5 d)::G5 y))
 exact⟨_,rfl,B,b,rfl,(Ak j).perm (List.Perm.swap _ _ _)⟩
theorem Cc (w D A n c d l k) (H:Own w D w [row A n c (List.flatMap aP.cells d) 70 3,sepL (List.flatMap G8 d)]) (hn:n=l.length) (hd:List.map aP.abs d=l) (hl:l.length<=1000000) (hk:k<=l.length) (hc:n<=c):
    Calls Tryz.prog 178 #[.slice (eu A k 3 c) (n - k) (c - k)] w (dG λ v w'=> ∃ B b,v= .slice B (List.length (List.drop k l)) b/\
      Own w D w' [row B (List.length (List.drop k l)) b (List.flatMap aP.cells (List.drop k d)) 70 3,sepL (List.flatMap G8 (List.drop k d))]):=by
 obtain⟨a,e,ro,bk,rr⟩:=Gr H
 have hdl:d.length=l.length:=by rw [<- hd,List.length_map]
 have f:List.length (List.drop k d)=List.length (List.drop k l):=by rw [List.length_drop,List.length_drop,hdl]
 refine(oJ w a (eu A k 3 c) (n - k) (c - k) (List.drop k d) (List.drop k d) e (λ g h=>HY (lo:=k) aP.len ((rr _ 0 _ rfl bQ) g h) e8 e8 f5) (by rw [List.length_drop]; omega) (by rw [List.length_drop]; omega) rfl).mono ?_
 rintro _ w' ⟨v,rfl,B,b,rfl,HQ⟩
 rw [f] at HQ ⊢
 have m:=((bk _ _ HQ).pick [2,0] f5 rfl).sepDel (i:=0) (j:=k) (Km k)
 exact⟨_,rfl,B,b,rfl,m.pk [1,0]⟩
end
section
open Go.RowKit
section
variable {P:Program} {n:Nat} {F:List (Nat × Value)} {w0 w:World} {D:Nat->Prop} {L:List HP} {ty:TypeId} {v:Value} {K:Value->World->Prop}
theorem Jk {rx:Operand} {nm:String} {f:FuncId} {args:List Operand} {vals:List Value} {t:TypeId} {u:Value} {tys:Array TypeId} {R:Value->World->Prop} (hm:∀ (b:Array Value) W,(callMethod (.iface t u) nm b).run P W= .ok (.enter f (#[u]++b)) W) (hx:ev F rx=some (.iface t u)) (ha:uZ F args=some vals) (hc:Calls P f (#[u]++vals.toArray) w (dG R))
    (h:∀ v w',R v w'->K v w'):Do P n F w (.call ⟨.invoke rx nm,args.toArray,tys⟩) ty K:=λ a hag o c g next Q hn=>by
  have e:(execOp a.eval o).run P w= .ok (.enter f (#[u]++vals.toArray)) w:=by
    unfold execOp
    rw [c]
    have ex:(#[Value.iface t u]++vals.toArray).extract 1 (#[Value.iface t u]++vals.toArray).size=vals.toArray:=by simp
    have d:(#[Value.iface t u]++vals.toArray)[0]? =some (Value.iface t u):=by simp
    simp only [resolve,hag.eval hx,List.map_toArray,hag.evals ha,Sem.run_bind,Sem.run_pure,Result.andThen_ok,invoke,d,ex,hm]
  rw [e,Oper.upon_enter]
  exact hc.mono λ e w' hR=>by
    obtain⟨v,rfl,hk⟩:=hR
    exact hn _ _ (h _ _ hk)
end
theorem Ey (g:Nat) (b:Array Value) (W:World):(callMethod (.iface 24 (.pointer (some ⟨g,0,none⟩))) "Get" b).run Tryz.prog W= .ok (.enter 252 (#[.pointer (some ⟨g,0,none⟩)]++b)) W:=by kernel_rfl
theorem DX (g:Nat) (b:Array Value) (W:World):(callMethod (.iface 24 (.pointer (some ⟨g,0,none⟩))) "Scan" b).run Tryz.prog W= .ok (.enter 253 (#[.pointer (some ⟨g,0,none⟩)]++b)) W:=by kernel_rfl
end
end Go.Proofs.YtndamapfnpihpaaGreat
