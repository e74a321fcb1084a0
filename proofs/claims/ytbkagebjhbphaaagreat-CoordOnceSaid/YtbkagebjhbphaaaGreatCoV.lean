/-
  A coordinator made anew of its state: sizes. Conditions: none beyond each law's own.
-/
import Derived.Test.YtbkagebjhbphaaaGreatLv
import Derived.Test.YtbkagebjhbphaaaGreatWiX
import Derived.Test.YtbkagebjhbphaaaGreatRa
import Derived.Test.YtbkagebjhbphaaaGreatKt
import Derived.Test.YtbkagebjhbphaaaGreatCoG
namespace Go.Proofs.YtbkagebjhbphaaaGreat
theorem DL:vD=true:=by decide+kernel
end Go.Proofs.YtbkagebjhbphaaaGreat
namespace Go.Proofs.YtbkagebjhbphaaaGreat
set_option linter.unusedVariables false
set_option linter.unusedSimpArgs false
open Go.RowKit
@[reducible] def kU (n:Nat):Value:= .int .u64 ((n:Nat):Int)
theorem uf {P:Program} {kt:TypeId} (hk:P.underlying kt=some (.int .u64)):Cx P kt kU:=by
  refine⟨⟨_,hk,fun a=>by simp [Go.MapKept.IsKey]⟩,fun a b h=> ?_,fun a=> ?_⟩
  · injection h with _ h
    exact Int.ofNat.inj h
  · simp [Instr.sameBits]
section
variable {κ ν:Type} [DecidableEq κ] {P:Program} {n:Nat} {F:List (Nat × Value)} {w0 w:World} {D:Nat→Prop} {L:List HP} {ty t kt e:TypeId} {x y:Operand} {ek:κ→Value} {vv:ν→Value} {m:List (κ × ν)} {g i:Nat} {d0:ν}
end
end Go.Proofs.YtbkagebjhbphaaaGreat
namespace Go.Proofs.YtbkagebjhbphaaaGreat
set_option linter.unusedVariables false
set_option linter.unusedSectionVars false
set_option linter.unusedSimpArgs false
set_option maxRecDepth 100000
open Go.RowKit
def lZ (o:Bool) (t b:Nat):Nat:=if o=true then(if((t:Nat):Int)=0 then t else Int.toNat (IntKind.u64.wrap (((eU b 32:Nat):Int)+((t % 16:Nat):Int)))) else t
def ja (o:Bool) (k j:Int) (v b:Nat):Nat:=if o=true then(if k=j then v else b) else b
def nR (o:Bool) (t v:Nat):Nat:=if o=true then(if((t:Nat):Int)=0 then t else v) else t
def yL (x:bf) (b t v m:Nat):List Value:= [vI x.aD,vI x.aJ,vI x.fI,vI x.aK,vI x.dz,vI x.eH,vU x.aP,vU b,vU t,vU x.dY,vU v,vU x.aL,vU m,vU x.cu,vU x.xN, .bool x.cz, .string ⟨List.toArray x.bU.bF⟩, .string ⟨List.toArray x.bU.bT⟩, .slice x.aH.A x.aH.ls.length x.aH.c, .slice x.ai.A x.ai.ls.length x.ai.c, .slice x.ag.A x.ag.ls.length x.ag.c]
theorem qQ (w D) (x:fM) (a b v e s u c1 z A c2 B C c3 mv) (H:Own w D w []):
    Calls Tryz.prog 10 #[.agg (fM.cells x).toArray, .agg #[vI a,vU b,vU v,vU e, .slice s u c1, .slice z A c2, .slice B C c3], .int .u64 ((mv:Nat):Int)] w (d9 fun y w'=>y= .agg (yL x.az (ja x.dE x.az.aD 1 b x.az.av) (lZ x.dE x.az.aN b) (ja x.dE x.az.aD 9 v x.az.aV) (nR x.dE x.az.dL mv)).toArray∧Own w D w' []):=by
  refine cb Tryz.func10 ?_
  refine sr ?_
  refine dV (fM.cells x) 44 H ?_
  intro V w1 X
  refine dV [vI a,vU b,vU v,vU e, .slice s u c1, .slice z A c2, .slice B C c3] 33 X ?_
  intro l w2 Y
  refine dV (gU 0 0 0 0 0 0 0 0 0 0 0 0 0 0 0 false ([]) ([]) none 0 0 none 0 0 none 0 0) 42 Y ?_
  intro h w3 W
  refine ns (Kz (vP V 2) (La (bf.cells x.az) W 2 Tryz.isAgg42 Tryz.sizeOf42 ?_))
  refine dV (gU 0 0 0 0 0 0 0 0 0 0 0 0 0 0 0 false ([]) ([]) none 0 0 none 0 0 none 0 0) 42 W ?_
  intro c w4 Z
  refine dS (bf.cells x.az) 0 Z Tryz.sizeOf42 ?_
  intro w5 K
  refine nt (Ic (sr (Kz (vP V 23) (Lz (.bool x.dE) K 3 Tryz.isAgg4 (Kz (.bool (!x.dE)) (nt ?_))))))
  rcases Li (x.dE) with d | d
  refine jF (cn d) (sk (Ic (Ic ?_)))
  have j:=K.px [] [3] []
  refine Ib (Kz (vP c 8) (Lz (vU x.az.aN) j 0 Tryz.isAgg28 (fw (.bool (decide (¬ (((x.az.aN:Nat):Int)=0)))) (IG (e:= !(decide (((x.az.aN:Nat):Int)=0))) yk decide_not.symm) (nt ?_))))
  refine IZ (fun _:Unit=> [(7,vP c 0),(6,vP h 0),(4,vP l 0),(2, .int .u64 ((mv:Nat):Int))]) (fun _ w'=>Own w D w' [blk c (yL x.az x.az.av (lZ x.dE x.az.aN b) x.az.aV x.az.dL) 42,blk h (gU 0 0 0 0 0 0 0 0 0 0 0 0 0 0 0 false ([]) ([]) none 0 0 none 0 0 none 0 0) 42,blk l [vI a,vU b,vU v,vU e, .slice s u c1, .slice z A c2, .slice B C c3] 33]) ?_ ?_
  by_cases E:((x.az.aN:Nat):Int)=0
  refine jF (dF (Lh E)) (IE ?_)
  have M:lZ x.dE x.az.aN b=x.az.aN:=(if_pos d).trans (if_pos E)
  exact IQ () ⟨rfl,rfl,rfl,rfl,trivial⟩ (by rw [M]; exact j.pf [0,1,2])
  refine jT (dT E) (Ib (Kz (vP l 1) (Lz (vU b) j 2 Tryz.isAgg28 ?_)))
  have hz:eU b 32≤18446744073709551615:=nZ _ _
  have M:lZ x.dE x.az.aN b=Int.toNat (IntKind.u64.wrap (((eU b 32:Nat):Int)+((x.az.aN % 16:Nat):Int))):=(if_pos d).trans (if_neg E)
  refine fw (vU (eU b 32)) (Ie (Jv (m:=32) rfl rfl) (fD _)) (Kz (vP c 8) (Lz (vU x.az.aN) j 0 Tryz.isAgg28 (fw (vU (x.az.aN % 16)) (Ie (e:=Int.tmod ((x.az.aN:Nat):Int) 16) yk (Gw _ _)) (fw (.int .u64 ((Int.toNat (IntKind.u64.wrap (((eU b 32:Nat):Int)+((x.az.aN % 16:Nat):Int))):Nat):Int)) (Ie (e:=IntKind.u64.wrap (((eU b 32:Nat):Int)+((x.az.aN % 16:Nat):Int))) yk (fD _)) (Kz (vP c 8) ?_)))))
  refine dS [.int .u64 ((Int.toNat (IntKind.u64.wrap (((eU b 32:Nat):Int)+((x.az.aN % 16:Nat):Int))):Nat):Int)] 8 j Tryz.sizeOf28 ?_
  intro w6 N
  refine WL.nil ?_
  exact IQ () ⟨rfl,rfl,rfl,rfl,trivial⟩ (by rw [M]; exact N.pf [0,1,2])
  rintro ⟨⟩ w7 o
  refine Ic (sr (Kz (vP c 0) (Lz (vI x.az.aD) o 0 Tryz.isAgg3 (Kz (.bool (decide (x.az.aD=1))) (nt ?_)))))
  refine IZ (fun _:Unit=> [(7,vP c 0),(6,vP h 0),(4,vP l 0),(2, .int .u64 ((mv:Nat):Int))]) (fun _ w'=>Own w D w' [blk c (yL x.az (ja x.dE x.az.aD 1 b x.az.av) (lZ x.dE x.az.aN b) x.az.aV x.az.dL) 42,blk h (gU 0 0 0 0 0 0 0 0 0 0 0 0 0 0 0 false ([]) ([]) none 0 0 none 0 0 none 0 0) 42,blk l [vI a,vU b,vU v,vU e, .slice s u c1, .slice z A c2, .slice B C c3] 33]) ?_ ?_
  by_cases G:x.az.aD=1
  refine jT (dT G) (Ib (Kz (vP l 1) (Lz (vU b) o 2 Tryz.isAgg28 (Kz (vP c 7) ?_))))
  refine dS [vU b] 7 o Tryz.sizeOf28 ?_
  intro w8 H9
  refine WL.nil ?_
  have O:ja x.dE x.az.aD 1 b x.az.av=b:=(if_pos d).trans (if_pos G)
  exact IQ () ⟨rfl,rfl,rfl,rfl,trivial⟩ (by rw [O]; exact H9.pf [])
  refine jF (dF G) (IE ?_)
  have O:ja x.dE x.az.aD 1 b x.az.av=x.az.av:=(if_pos d).trans (if_neg G)
  exact IQ () ⟨rfl,rfl,rfl,rfl,trivial⟩ (by rw [O]; exact o.pf [])
  rintro ⟨⟩ w9 f
  refine Ic (sr (Kz (vP c 0) (Lz (vI x.az.aD) f 0 Tryz.isAgg3 (Kz (.bool (decide (x.az.aD=9))) (nt ?_)))))
  refine IZ (fun _:Unit=> [(7,vP c 0),(6,vP h 0),(2, .int .u64 ((mv:Nat):Int))]) (fun _ w'=>Own w D w' [blk c (yL x.az (ja x.dE x.az.aD 1 b x.az.av) (lZ x.dE x.az.aN b) (ja x.dE x.az.aD 9 v x.az.aV) x.az.dL) 42,blk h (gU 0 0 0 0 0 0 0 0 0 0 0 0 0 0 0 false ([]) ([]) none 0 0 none 0 0 none 0 0) 42]) ?_ ?_
  by_cases I:x.az.aD=9
  refine jT (dT I) (Ib (Kz (vP l 2) (Lz (vU v) f 2 Tryz.isAgg28 (Kz (vP c 10) ?_))))
  refine dS [vU v] 10 f Tryz.sizeOf28 ?_
  intro af Q
  refine WL.nil ?_
  have R:ja x.dE x.az.aD 9 v x.az.aV=v:=(if_pos d).trans (if_pos I)
  exact IQ () ⟨rfl,rfl,rfl,trivial⟩ (by rw [R]; exact Q.px [] [2] [])
  refine jF (dF I) (IE ?_)
  have R:ja x.dE x.az.aD 9 v x.az.aV=x.az.aV:=(if_pos d).trans (if_neg I)
  exact IQ () ⟨rfl,rfl,rfl,trivial⟩ (by rw [R]; exact f.px [] [2] [])
  rintro ⟨⟩ ag p
  refine Ic (Ic ?_)
  refine Ib (Kz (vP c 12) (Lz (vU x.az.dL) p 0 Tryz.isAgg28 (fw (.bool (decide (¬ (((x.az.dL:Nat):Int)=0)))) (IG (e:= !(decide (((x.az.dL:Nat):Int)=0))) yk decide_not.symm) (nt ?_))))
  refine IZ (fun _:Unit=> [(7,vP c 0),(6,vP h 0)]) (fun _ w'=>Own w D w' [blk c (yL x.az (ja x.dE x.az.aD 1 b x.az.av) (lZ x.dE x.az.aN b) (ja x.dE x.az.aD 9 v x.az.aV) (nR x.dE x.az.dL mv)) 42,blk h (gU 0 0 0 0 0 0 0 0 0 0 0 0 0 0 0 false ([]) ([]) none 0 0 none 0 0 none 0 0) 42]) ?_ ?_
  by_cases J:((x.az.dL:Nat):Int)=0
  refine jF (dF (Lh J)) (IE ?_)
  have S:nR x.dE x.az.dL mv=x.az.dL:=(if_pos d).trans (if_pos J)
  exact IQ () ⟨rfl,rfl,trivial⟩ (by rw [S]; exact p.pf [])
  refine jT (dT J) (Ib (Mz rfl (Kz (vP c 12) ?_)))
  refine dS [.int .u64 ((mv:Nat):Int)] 12 p Tryz.sizeOf28 ?_
  intro ah T
  refine WL.nil ?_
  have S:nR x.dE x.az.dL mv=mv:=(if_pos d).trans (if_neg J)
  exact IQ () ⟨rfl,rfl,trivial⟩ (by rw [S]; exact T.pf [])
  rintro ⟨⟩ ai q
  refine sr (La (yL x.az (ja x.dE x.az.aD 1 b x.az.av) (lZ x.dE x.az.aN b) (ja x.dE x.az.aD 9 v x.az.aV) (nR x.dE x.az.dL mv)) q 0 Tryz.isAgg42 Tryz.sizeOf42 ?_)
  have U:=q.pf [1]
  refine dS (yL x.az (ja x.dE x.az.aD 1 b x.az.av) (lZ x.dE x.az.aN b) (ja x.dE x.az.aD 9 v x.az.aV) (nR x.dE x.az.dL mv)) 0 U Tryz.sizeOf42 ?_
  intro aj r
  refine nt (rt (Fin.res (ol rfl rfl (Iy (cs:=yL x.az (ja x.dE x.az.aD 1 b x.az.av) (lZ x.dE x.az.aN b) (ja x.dE x.az.aD 9 v x.az.aV) (nR x.dE x.az.dL mv)) Tryz.isAgg42 Tryz.sizeOf42 ((r.cls (i:=0) rfl).lit (k:=0) (m:=21) rfl))) ?_))
  exact⟨rfl,r.pk []⟩
  refine jT (cn d) (Ic ?_)
  have j:=K.px [] [3] []
  refine Ib (La (bf.cells x.az) j 0 Tryz.isAgg42 Tryz.sizeOf42 ?_)
  have N:=j.pf [1]
  refine dS (bf.cells x.az) 0 N Tryz.sizeOf42 ?_
  intro w6 o
  refine nt (rt (tR (Fin.res (ol rfl rfl (Iy (cs:=(bf.cells x.az)) Tryz.isAgg42 Tryz.sizeOf42 ((o.cls (i:=0) rfl).lit (k:=0) (m:=21) rfl))) ?_)))
  have e0:yL x.az (ja x.dE x.az.aD 1 b x.az.av) (lZ x.dE x.az.aN b) (ja x.dE x.az.aD 9 v x.az.aV) (nR x.dE x.az.dL mv)=bf.cells x.az:=by
    unfold lZ ja nR; rw [d]; rfl
  rw [e0]
  exact⟨rfl,o.pk []⟩
end Go.Proofs.YtbkagebjhbphaaaGreat
namespace Go.Proofs.YtbkagebjhbphaaaGreat
open List renaming length→r8
set_option linter.unusedVariables false
set_option linter.unusedSimpArgs false
theorem En {m m':aA} {y r:cZ} (M:Mk m) (a:eQ m=y) (b:gW y=r) (e:qo r=m'):Mk m':=by
  subst a; subst b; subst e
  have z:nI []∧ky 0:=⟨mE,Lg _⟩
  exact⟨(by dsimp only [qo]; exact mh _),(by dsimp only [qo]; exact nZ _ _),M.qF,Lg _,M.dec,M.mH,fun x hx=>(by cases hx),z,z,z,z,z⟩
theorem CR {m m':aA} {y r:cZ} {k:Nat} (h:r8 m.aa.ag.ls≤1000∧m.aa.au≤4∧r8 m.ay.ls+r8 m.aa.aj.ls≤8∧r8 m.aa.aF.ls≤k) (a:eQ m=y) (b:gW y=r) (e:qo r=m'):r8 m'.aa.ag.ls≤1000∧m'.aa.au≤4∧r8 m'.ay.ls+r8 m'.aa.aj.ls≤8∧r8 m'.aa.aF.ls≤r8 m.aa.aF.ls+1:=by
  subst a; subst b; subst e
  refine⟨h.1,h.2.1, ?_,Nat.le_succ _⟩
  show 0+r8 m.aa.aj.ls≤8
  have:=h.2.2.1; omega
theorem uT {m:aA} {y:cZ} {k:Nat} (M:Mk m) (h:r8 m.aa.ag.ls≤1000∧m.aa.au≤4∧r8 m.ay.ls+r8 m.aa.aj.ls≤8∧r8 m.aa.aF.ls≤k) (a:eQ m=y):(r8 y.ag.ls≤1000∧r8 y.aj.ls≤8∧r8 y.aF.ls≤k)∧(∀ x ∈ y.aj.ls,r8 x.au.ls≤1000000)∧∀ x ∈ y.aF.ls,r8 x.ai.ls≤1000000∧∀ z ∈ x.ai.ls,r8 z.ak.ls≤1000000:=by
  subst a
  exact⟨⟨h.1,(show r8 m.aa.aj.ls≤8 by omega),h.2.2.2⟩,wM M,wN M⟩
end Go.Proofs.YtbkagebjhbphaaaGreat
