/-
  A step's message, as Own says: what turned answers. Conditions: none beyond each law's own.
-/
import Derived.Test.YtbkagebjhbphaaaGreatLv
import Derived.Test.YtbkagebjhbphaaaGreatWiX
import Derived.Test.YtbkagebjhbphaaaGreatRa
import Derived.Test.YtbkagebjhbphaaaGreatKt
namespace Go.Proofs.YtbkagebjhbphaaaGreat
theorem CO:uO=true:=by decide+kernel
end Go.Proofs.YtbkagebjhbphaaaGreat
namespace Go.Proofs.YtbkagebjhbphaaaGreat
set_option linter.unusedVariables false
set_option linter.unusedSimpArgs false
open Go.RowKit
section
variable {κ ν:Type} [DecidableEq κ] {P:Program} {n:Nat} {F:List (Nat × Value)} {w0 w:World} {D:Nat→Prop} {L:List HP} {ty t kt e:TypeId} {x y:Operand} {ek:κ→Value} {vv:ν→Value} {m:List (κ × ν)} {g i:Nat} {d0:ν}
theorem Ip {k:κ} {o:Option ν} (H:Own w0 D w L) (hi:L[i]? =some (pq g ek vv m)) (K:yg P kt ek) (ht:P.underlying t=some (.map kt e)) (hz:∀ W,(zeroValue e).run P W= .ok (vv d0) W) (hx:ev F x=some (.map (some g))) (hy:ev F y=some (ek k)) (ho:oH m k=o):
    Yl P n F w (.lookup t x y false) ty (vv (o.getD d0)):=fun a ha op b _=>by
  subst ho
  obtain⟨es,clock,hb,_,hn,hf⟩:=H.mapAtG hi K k
  unfold execOp
  rw [b]
  simp only [ha.eval hx,ha.eval hy]
  rcases hf with ⟨hf,hno⟩ | ⟨j,v,hf,hj⟩
  · rw [ve hno]
    simp [Instr.lookup,run_underlying ht,Go.MapKept.run_getObj_map hb,K.check,hf,hz w,Result.andThen]
  · rw [yc hn hj]
    simp [Instr.lookup,run_underlying ht,Go.MapKept.run_getObj_map hb,K.check,hf,Result.andThen]
end
end Go.Proofs.YtbkagebjhbphaaaGreat
namespace Go.Proofs.YtbkagebjhbphaaaGreat
open Int renaming toNat→D2
open IntKind renaming u64→D3
open _root_.Go.Proofs.Tryz renaming isAgg28→E1,isAgg42→M4,sizeOf28→M6,sizeOf42→M5
set_option linter.unusedVariables false
set_option linter.unusedSectionVars false
set_option linter.unusedSimpArgs false
set_option maxRecDepth 100000
open Go.RowKit
def nT (o:Bool) (t b:Nat):Nat:=if o=true then(if((t:Nat):Int)=0 then t else D2 (D3.wrap (((fD b 32:Nat):Int)+((t % 16:Nat):Int)))) else t
def ko (o:Bool) (k j:Int) (v b:Nat):Nat:=if o=true then(if k=j then v else b) else b
def oD (o:Bool) (t v:Nat):Nat:=if o=true then(if((t:Nat):Int)=0 then t else v) else t
def xY (x:bC) (b t v m:Nat):List Value:= [vI x.aG,vI x.aH,vI x.eP,vI x.aN,vI x.cZ,vI x.eu,vU x.aO,vU b,vU t,vU x.dW,vU v,vU x.aL,vU m,vU x.bZ,vU x.xN, .bool x.d9, .string ⟨List.toArray x.bT.bG⟩, .string ⟨List.toArray x.bT.bU⟩, .slice x.aF.A x.aF.ls.length x.aF.c, .slice x.ah.A x.ah.ls.length x.ah.c, .slice x.ag.A x.ag.ls.length x.ag.c]
theorem vW (w D) (x:fU) (a b v e s u z A B C E G I mv) (H:Own w D w []):
    Calls Tryz.prog 10 #[.agg (fU.cells x).toArray, .agg #[vI a,vU b,vU v,vU e, .slice s u z, .slice A B C, .slice E G I], .int .u64 ((mv:Nat):Int)] w (dR fun y w'=>y= .agg (xY x.aC (ko x.ed x.aC.aG 1 b x.aC.ay) (nT x.ed x.aC.aU b) (ko x.ed x.aC.aG 9 v x.aC.aX) (oD x.ed x.aC.dH mv)).toArray∧Own w D w' []):=by
  refine cb Tryz.func10 ?_
  refine sr ?_
  refine dM (fU.cells x) 44 H ?_
  intro Y w1 H1
  refine dM [vI a,vU b,vU v,vU e, .slice s u z, .slice A B C, .slice E G I] 33 H1 ?_
  intro l w2 H2
  refine dM (gD 0 0 0 0 0 0 0 0 0 0 0 0 0 0 0 false ([]) ([]) none 0 0 none 0 0 none 0 0) 42 H2 ?_
  intro h w3 Z
  refine ns (Kz (vP Y 2) (La (bC.cells x.aC) Z 2 M4 M5 ?_))
  refine dM (gD 0 0 0 0 0 0 0 0 0 0 0 0 0 0 0 false ([]) ([]) none 0 0 none 0 0 none 0 0) 42 Z ?_
  intro c w4 H4
  refine dN (bC.cells x.aC) 0 H4 M5 ?_
  intro w5 O
  refine nt (FW (sr (Kz (vP Y 23) (Lz (.bool x.ed) O 3 Tryz.isAgg4 (Kz (.bool (!x.ed)) (nt ?_))))))
  rcases JS (x.ed) with d | d
  refine jF (cn d) (sk (FW (FW ?_)))
  have j:=O.px [] [3] []
  refine FV (Kz (vP c 8) (Lz (vU x.aC.aU) j 0 E1 (fw (.bool (decide (¬ (((x.aC.aU:Nat):Int)=0)))) (Gm (e:= !(decide (((x.aC.aU:Nat):Int)=0))) yk decide_not.symm) (nt ?_))))
  refine GG (fun _:Unit=> [(7,vP c 0),(6,vP h 0),(4,vP l 0),(2, .int .u64 ((mv:Nat):Int))]) (fun _ w'=>Own w D w' [blk c (xY x.aC x.aC.ay (nT x.ed x.aC.aU b) x.aC.aX x.aC.dH) 42,blk h (gD 0 0 0 0 0 0 0 0 0 0 0 0 0 0 0 false ([]) ([]) none 0 0 none 0 0 none 0 0) 42,blk l [vI a,vU b,vU v,vU e, .slice s u z, .slice A B C, .slice E G I] 33]) ?_ ?_
  by_cases J:((x.aC.aU:Nat):Int)=0
  refine jF (dF (JR J)) (Gn ?_)
  have Q:nT x.ed x.aC.aU b=x.aC.aU:=(if_pos d).trans (if_pos J)
  exact Gv () ⟨rfl,rfl,rfl,rfl,trivial⟩ (by rw [Q]; exact j.pf [0,1,2])
  refine jT (dT J) (FV (Kz (vP l 1) (Lz (vU b) j 2 E1 ?_)))
  have hz:fD b 32≤18446744073709551615:=oQ _ _
  have Q:nT x.ed x.aC.aU b=D2 (D3.wrap (((fD b 32:Nat):Int)+((x.aC.aU % 16:Nat):Int))):=(if_pos d).trans (if_neg J)
  refine fw (vU (fD b 32)) (FX (Hz (m:=32) rfl rfl) (fC _)) (Kz (vP c 8) (Lz (vU x.aC.aU) j 0 E1 (fw (vU (x.aC.aU % 16)) (FX (e:=Int.tmod ((x.aC.aU:Nat):Int) 16) yk (E9 _ _)) (fw (.int .u64 ((D2 (D3.wrap (((fD b 32:Nat):Int)+((x.aC.aU % 16:Nat):Int))):Nat):Int)) (FX (e:=D3.wrap (((fD b 32:Nat):Int)+((x.aC.aU % 16:Nat):Int))) yk (fC _)) (Kz (vP c 8) ?_)))))
  refine dN [.int .u64 ((D2 (D3.wrap (((fD b 32:Nat):Int)+((x.aC.aU % 16:Nat):Int))):Nat):Int)] 8 j M6 ?_
  intro w6 R
  refine WL.nil ?_
  exact Gv () ⟨rfl,rfl,rfl,rfl,trivial⟩ (by rw [Q]; exact R.pf [0,1,2])
  rintro ⟨⟩ w7 o
  refine FW (sr (Kz (vP c 0) (Lz (vI x.aC.aG) o 0 Tryz.isAgg3 (Kz (.bool (decide (x.aC.aG=1))) (nt ?_)))))
  refine GG (fun _:Unit=> [(7,vP c 0),(6,vP h 0),(4,vP l 0),(2, .int .u64 ((mv:Nat):Int))]) (fun _ w'=>Own w D w' [blk c (xY x.aC (ko x.ed x.aC.aG 1 b x.aC.ay) (nT x.ed x.aC.aU b) x.aC.aX x.aC.dH) 42,blk h (gD 0 0 0 0 0 0 0 0 0 0 0 0 0 0 0 false ([]) ([]) none 0 0 none 0 0 none 0 0) 42,blk l [vI a,vU b,vU v,vU e, .slice s u z, .slice A B C, .slice E G I] 33]) ?_ ?_
  by_cases K:x.aC.aG=1
  refine jT (dT K) (FV (Kz (vP l 1) (Lz (vU b) o 2 E1 (Kz (vP c 7) ?_))))
  refine dN [vU b] 7 o M6 ?_
  intro w8 H9
  refine WL.nil ?_
  have S:ko x.ed x.aC.aG 1 b x.aC.ay=b:=(if_pos d).trans (if_pos K)
  exact Gv () ⟨rfl,rfl,rfl,rfl,trivial⟩ (by rw [S]; exact H9.pf [])
  refine jF (dF K) (Gn ?_)
  have S:ko x.ed x.aC.aG 1 b x.aC.ay=x.aC.ay:=(if_pos d).trans (if_neg K)
  exact Gv () ⟨rfl,rfl,rfl,rfl,trivial⟩ (by rw [S]; exact o.pf [])
  rintro ⟨⟩ w9 f
  refine FW (sr (Kz (vP c 0) (Lz (vI x.aC.aG) f 0 Tryz.isAgg3 (Kz (.bool (decide (x.aC.aG=9))) (nt ?_)))))
  refine GG (fun _:Unit=> [(7,vP c 0),(6,vP h 0),(2, .int .u64 ((mv:Nat):Int))]) (fun _ w'=>Own w D w' [blk c (xY x.aC (ko x.ed x.aC.aG 1 b x.aC.ay) (nT x.ed x.aC.aU b) (ko x.ed x.aC.aG 9 v x.aC.aX) x.aC.dH) 42,blk h (gD 0 0 0 0 0 0 0 0 0 0 0 0 0 0 0 false ([]) ([]) none 0 0 none 0 0 none 0 0) 42]) ?_ ?_
  by_cases M:x.aC.aG=9
  refine jT (dT M) (FV (Kz (vP l 2) (Lz (vU v) f 2 E1 (Kz (vP c 10) ?_))))
  refine dN [vU v] 10 f M6 ?_
  intro ai T
  refine WL.nil ?_
  have U:ko x.ed x.aC.aG 9 v x.aC.aX=v:=(if_pos d).trans (if_pos M)
  exact Gv () ⟨rfl,rfl,rfl,trivial⟩ (by rw [U]; exact T.px [] [2] [])
  refine jF (dF M) (Gn ?_)
  have U:ko x.ed x.aC.aG 9 v x.aC.aX=x.aC.aX:=(if_pos d).trans (if_neg M)
  exact Gv () ⟨rfl,rfl,rfl,trivial⟩ (by rw [U]; exact f.px [] [2] [])
  rintro ⟨⟩ aj p
  refine FW (FW ?_)
  refine FV (Kz (vP c 12) (Lz (vU x.aC.dH) p 0 E1 (fw (.bool (decide (¬ (((x.aC.dH:Nat):Int)=0)))) (Gm (e:= !(decide (((x.aC.dH:Nat):Int)=0))) yk decide_not.symm) (nt ?_))))
  refine GG (fun _:Unit=> [(7,vP c 0),(6,vP h 0)]) (fun _ w'=>Own w D w' [blk c (xY x.aC (ko x.ed x.aC.aG 1 b x.aC.ay) (nT x.ed x.aC.aU b) (ko x.ed x.aC.aG 9 v x.aC.aX) (oD x.ed x.aC.dH mv)) 42,blk h (gD 0 0 0 0 0 0 0 0 0 0 0 0 0 0 0 false ([]) ([]) none 0 0 none 0 0 none 0 0) 42]) ?_ ?_
  by_cases N:((x.aC.dH:Nat):Int)=0
  refine jF (dF (JR N)) (Gn ?_)
  have V:oD x.ed x.aC.dH mv=x.aC.dH:=(if_pos d).trans (if_pos N)
  exact Gv () ⟨rfl,rfl,trivial⟩ (by rw [V]; exact p.pf [])
  refine jT (dT N) (FV (Mz rfl (Kz (vP c 12) ?_)))
  refine dN [.int .u64 ((mv:Nat):Int)] 12 p M6 ?_
  intro ak W
  refine WL.nil ?_
  have V:oD x.ed x.aC.dH mv=mv:=(if_pos d).trans (if_neg N)
  exact Gv () ⟨rfl,rfl,trivial⟩ (by rw [V]; exact W.pf [])
  rintro ⟨⟩ au q
  refine sr (La (xY x.aC (ko x.ed x.aC.aG 1 b x.aC.ay) (nT x.ed x.aC.aU b) (ko x.ed x.aC.aG 9 v x.aC.aX) (oD x.ed x.aC.dH mv)) q 0 M4 M5 ?_)
  have X:=q.pf [1]
  refine dN (xY x.aC (ko x.ed x.aC.aG 1 b x.aC.ay) (nT x.ed x.aC.aU b) (ko x.ed x.aC.aG 9 v x.aC.aX) (oD x.ed x.aC.dH mv)) 0 X M5 ?_
  intro av r
  refine nt (rt (Fin.res (ni rfl rfl (Gf (cs:=xY x.aC (ko x.ed x.aC.aG 1 b x.aC.ay) (nT x.ed x.aC.aU b) (ko x.ed x.aC.aG 9 v x.aC.aX) (oD x.ed x.aC.dH mv)) M4 M5 ((r.cls (i:=0) rfl).lit (k:=0) (m:=21) rfl))) ?_))
  exact⟨rfl,r.pk []⟩
  refine jT (cn d) (FW ?_)
  have j:=O.px [] [3] []
  refine FV (La (bC.cells x.aC) j 0 M4 M5 ?_)
  have R:=j.pf [1]
  refine dN (bC.cells x.aC) 0 R M5 ?_
  intro w6 o
  refine nt (rt (tR (Fin.res (ni rfl rfl (Gf (cs:=(bC.cells x.aC)) M4 M5 ((o.cls (i:=0) rfl).lit (k:=0) (m:=21) rfl))) ?_)))
  have e0:xY x.aC (ko x.ed x.aC.aG 1 b x.aC.ay) (nT x.ed x.aC.aU b) (ko x.ed x.aC.aG 9 v x.aC.aX) (oD x.ed x.aC.dH mv)=bC.cells x.aC:=by
    unfold nT ko oD; rw [d]; rfl
  rw [e0]
  exact⟨rfl,o.pk []⟩
end Go.Proofs.YtbkagebjhbphaaaGreat
