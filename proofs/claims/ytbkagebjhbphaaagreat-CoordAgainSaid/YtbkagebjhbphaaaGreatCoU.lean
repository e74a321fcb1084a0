/-
  A step's message, as Own says: what turned answers. Conditions: none beyond each law's own.
-/
import Derived.Test.YtbkagebjhbphaaaGreatLv
import Derived.Test.YtbkagebjhbphaaaGreatWiX
import Derived.Test.YtbkagebjhbphaaaGreatRa
import Derived.Test.YtbkagebjhbphaaaGreatKt
namespace Go.Proofs.YtbkagebjhbphaaaGreat
theorem CK:uM=true:=by decide+kernel
end Go.Proofs.YtbkagebjhbphaaaGreat
namespace Go.Proofs.YtbkagebjhbphaaaGreat
set_option linter.unusedVariables false
set_option linter.unusedSimpArgs false
open Go.RowKit
section
variable {κ ν:Type} [DecidableEq κ] {P:Program} {n:Nat} {F:List (Nat × Value)} {w0 w:World} {D:Nat→Prop} {L:List HP} {ty t kt e:TypeId} {x y:Operand} {ek:κ→Value} {vv:ν→Value} {m:List (κ × ν)} {g i:Nat} {d0:ν}
theorem Il {k:κ} {o:Option ν} (H:Own w0 D w L) (hi:L[i]? =some (o9 g ek vv m)) (K:yc P kt ek) (ht:P.underlying t=some (.map kt e)) (hz:∀ W,(zeroValue e).run P W= .ok (vv d0) W) (hx:ev F x=some (.map (some g))) (hy:ev F y=some (ek k)) (ho:oF m k=o):
    Yl P n F w (.lookup t x y false) ty (vv (o.getD d0)):=fun a ha op b _=>by
  subst ho
  obtain⟨es,clock,hb,_,hn,hf⟩:=H.mapAtG hi K k
  unfold execOp
  rw [b]
  simp only [ha.eval hx,ha.eval hy]
  rcases hf with ⟨hf,hno⟩ | ⟨j,v,hf,hj⟩
  · rw [uY hno]
    simp [Instr.lookup,run_underlying ht,Go.MapKept.run_getObj_map hb,K.check,hf,hz w,Result.andThen]
  · rw [xZ hn hj]
    simp [Instr.lookup,run_underlying ht,Go.MapKept.run_getObj_map hb,K.check,hf,Result.andThen]
end
end Go.Proofs.YtbkagebjhbphaaaGreat
namespace Go.Proofs.YtbkagebjhbphaaaGreat
open Int renaming toNat→D2
open IntKind renaming u64→D3
open _root_.Go.Proofs.Tryz renaming isAgg28→E1,isAgg42→M5,sizeOf28→M7,sizeOf42→M6
set_option linter.unusedVariables false
set_option linter.unusedSectionVars false
set_option linter.unusedSimpArgs false
set_option maxRecDepth 100000
open Go.RowKit
def nR (o:Bool) (t b:Nat):Nat:=if o=true then(if((t:Nat):Int)=0 then t else D2 (D3.wrap (((fD b 32:Nat):Int)+((t % 16:Nat):Int)))) else t
def ko (o:Bool) (k j:Int) (v b:Nat):Nat:=if o=true then(if k=j then v else b) else b
def oz (o:Bool) (t v:Nat):Nat:=if o=true then(if((t:Nat):Int)=0 then t else v) else t
def xW (x:bF) (b t v m:Nat):List Value:= [vI x.aH,vI x.aJ,vI x.eO,vI x.aS,vI x.dz,vI x.eu,vU x.aU,vU b,vU t,vU x.dW,vU v,vU x.aK,vU m,vU x.cZ,vU x.xN, .bool x.d9, .string ⟨List.toArray x.bV.bK⟩, .string ⟨List.toArray x.bV.bW⟩, .slice x.aG.A x.aG.ls.length x.aG.c, .slice x.ah.A x.ah.ls.length x.ah.c, .slice x.ag.A x.ag.ls.length x.ag.c]
theorem vT (w:World) (D:Nat→Prop) (x:fU) (a:Int) (b v e:Nat) (s:Option Addr) (u z:Nat) (A:Option Addr) (B C:Nat) (E:Option Addr) (G I:Nat) (mv:Nat) (H:Own w D w []):
    Calls Tryz.prog 10 #[.agg (fU.cells x).toArray, .agg #[vI a,vU b,vU v,vU e, .slice s u z, .slice A B C, .slice E G I], .int .u64 ((mv:Nat):Int)] w (dR fun y w'=>y= .agg (xW x.aC (ko x.ed x.aC.aH 1 b x.aC.ax) (nR x.ed x.aC.bi b) (ko x.ed x.aC.aH 9 v x.aC.bf) (oz x.ed x.aC.dI mv)).toArray∧Own w D w' []):=by
  refine cb Tryz.func10 ?_
  refine sr ?_
  refine dM (fU.cells x) 44 H ?_
  intro Y w1 H1
  refine dM [vI a,vU b,vU v,vU e, .slice s u z, .slice A B C, .slice E G I] 33 H1 ?_
  intro l w2 H2
  refine dM (gD 0 0 0 0 0 0 0 0 0 0 0 0 0 0 0 false ([]) ([]) none 0 0 none 0 0 none 0 0) 42 H2 ?_
  intro h w3 Z
  refine ns (Kz (vP Y 2) (La (bF.cells x.aC) Z 2 M5 M6 ?_))
  refine dM (gD 0 0 0 0 0 0 0 0 0 0 0 0 0 0 0 false ([]) ([]) none 0 0 none 0 0 none 0 0) 42 Z ?_
  intro c w4 H4
  refine dN (bF.cells x.aC) 0 H4 M6 ?_
  intro w5 O
  refine nt (FU (sr (Kz (vP Y 23) (Lz (.bool x.ed) O 3 Tryz.isAgg4 (Kz (.bool (!x.ed)) (nt ?_))))))
  rcases JQ (x.ed) with d | d
  refine jF (cn d) (sk (FU (FU ?_)))
  have j:=O.px [] [3] []
  refine FT (Kz (vP c 8) (Lz (vU x.aC.bi) j 0 E1 (fw (.bool (decide (¬ (((x.aC.bi:Nat):Int)=0)))) (Gi (e:= !(decide (((x.aC.bi:Nat):Int)=0))) yk decide_not.symm) (nt ?_))))
  refine GA (fun _:Unit=> [(7,vP c 0),(6,vP h 0),(4,vP l 0),(2, .int .u64 ((mv:Nat):Int))]) (fun _ w'=>Own w D w' [blk c (xW x.aC x.aC.ax (nR x.ed x.aC.bi b) x.aC.bf x.aC.dI) 42,blk h (gD 0 0 0 0 0 0 0 0 0 0 0 0 0 0 0 false ([]) ([]) none 0 0 none 0 0 none 0 0) 42,blk l [vI a,vU b,vU v,vU e, .slice s u z, .slice A B C, .slice E G I] 33]) ?_ ?_
  by_cases J:((x.aC.bi:Nat):Int)=0
  refine jF (dF (JP J)) (Gj ?_)
  have Q:nR x.ed x.aC.bi b=x.aC.bi:=(if_pos d).trans (if_pos J)
  exact Gt () ⟨rfl,rfl,rfl,rfl,trivial⟩ (by rw [Q]; exact j.pf [0,1,2])
  refine jT (dT J) (FT (Kz (vP l 1) (Lz (vU b) j 2 E1 ?_)))
  have hz:fD b 32≤18446744073709551615:=oO _ _
  have Q:nR x.ed x.aC.bi b=D2 (D3.wrap (((fD b 32:Nat):Int)+((x.aC.bi % 16:Nat):Int))):=(if_pos d).trans (if_neg J)
  refine fw (vU (fD b 32)) (FV (Hw (m:=32) rfl rfl) (fC _)) (Kz (vP c 8) (Lz (vU x.aC.bi) j 0 E1 (fw (vU (x.aC.bi % 16)) (FV (e:=Int.tmod ((x.aC.bi:Nat):Int) 16) yk (E5 _ _)) (fw (.int .u64 ((D2 (D3.wrap (((fD b 32:Nat):Int)+((x.aC.bi % 16:Nat):Int))):Nat):Int)) (FV (e:=D3.wrap (((fD b 32:Nat):Int)+((x.aC.bi % 16:Nat):Int))) yk (fC _)) (Kz (vP c 8) ?_)))))
  refine dN [.int .u64 ((D2 (D3.wrap (((fD b 32:Nat):Int)+((x.aC.bi % 16:Nat):Int))):Nat):Int)] 8 j M7 ?_
  intro w6 R
  refine WL.nil ?_
  exact Gt () ⟨rfl,rfl,rfl,rfl,trivial⟩ (by rw [Q]; exact R.pf [0,1,2])
  rintro ⟨⟩ w7 o
  refine FU (sr (Kz (vP c 0) (Lz (vI x.aC.aH) o 0 Tryz.isAgg3 (Kz (.bool (decide (x.aC.aH=1))) (nt ?_)))))
  refine GA (fun _:Unit=> [(7,vP c 0),(6,vP h 0),(4,vP l 0),(2, .int .u64 ((mv:Nat):Int))]) (fun _ w'=>Own w D w' [blk c (xW x.aC (ko x.ed x.aC.aH 1 b x.aC.ax) (nR x.ed x.aC.bi b) x.aC.bf x.aC.dI) 42,blk h (gD 0 0 0 0 0 0 0 0 0 0 0 0 0 0 0 false ([]) ([]) none 0 0 none 0 0 none 0 0) 42,blk l [vI a,vU b,vU v,vU e, .slice s u z, .slice A B C, .slice E G I] 33]) ?_ ?_
  by_cases K:x.aC.aH=1
  refine jT (dT K) (FT (Kz (vP l 1) (Lz (vU b) o 2 E1 (Kz (vP c 7) ?_))))
  refine dN [vU b] 7 o M7 ?_
  intro w8 H9
  refine WL.nil ?_
  have S:ko x.ed x.aC.aH 1 b x.aC.ax=b:=(if_pos d).trans (if_pos K)
  exact Gt () ⟨rfl,rfl,rfl,rfl,trivial⟩ (by rw [S]; exact H9.pf [])
  refine jF (dF K) (Gj ?_)
  have S:ko x.ed x.aC.aH 1 b x.aC.ax=x.aC.ax:=(if_pos d).trans (if_neg K)
  exact Gt () ⟨rfl,rfl,rfl,rfl,trivial⟩ (by rw [S]; exact o.pf [])
  rintro ⟨⟩ w9 f
  refine FU (sr (Kz (vP c 0) (Lz (vI x.aC.aH) f 0 Tryz.isAgg3 (Kz (.bool (decide (x.aC.aH=9))) (nt ?_)))))
  refine GA (fun _:Unit=> [(7,vP c 0),(6,vP h 0),(2, .int .u64 ((mv:Nat):Int))]) (fun _ w'=>Own w D w' [blk c (xW x.aC (ko x.ed x.aC.aH 1 b x.aC.ax) (nR x.ed x.aC.bi b) (ko x.ed x.aC.aH 9 v x.aC.bf) x.aC.dI) 42,blk h (gD 0 0 0 0 0 0 0 0 0 0 0 0 0 0 0 false ([]) ([]) none 0 0 none 0 0 none 0 0) 42]) ?_ ?_
  by_cases M:x.aC.aH=9
  refine jT (dT M) (FT (Kz (vP l 2) (Lz (vU v) f 2 E1 (Kz (vP c 10) ?_))))
  refine dN [vU v] 10 f M7 ?_
  intro ai T
  refine WL.nil ?_
  have U:ko x.ed x.aC.aH 9 v x.aC.bf=v:=(if_pos d).trans (if_pos M)
  exact Gt () ⟨rfl,rfl,rfl,trivial⟩ (by rw [U]; exact T.px [] [2] [])
  refine jF (dF M) (Gj ?_)
  have U:ko x.ed x.aC.aH 9 v x.aC.bf=x.aC.bf:=(if_pos d).trans (if_neg M)
  exact Gt () ⟨rfl,rfl,rfl,trivial⟩ (by rw [U]; exact f.px [] [2] [])
  rintro ⟨⟩ aj p
  refine FU (FU ?_)
  refine FT (Kz (vP c 12) (Lz (vU x.aC.dI) p 0 E1 (fw (.bool (decide (¬ (((x.aC.dI:Nat):Int)=0)))) (Gi (e:= !(decide (((x.aC.dI:Nat):Int)=0))) yk decide_not.symm) (nt ?_))))
  refine GA (fun _:Unit=> [(7,vP c 0),(6,vP h 0)]) (fun _ w'=>Own w D w' [blk c (xW x.aC (ko x.ed x.aC.aH 1 b x.aC.ax) (nR x.ed x.aC.bi b) (ko x.ed x.aC.aH 9 v x.aC.bf) (oz x.ed x.aC.dI mv)) 42,blk h (gD 0 0 0 0 0 0 0 0 0 0 0 0 0 0 0 false ([]) ([]) none 0 0 none 0 0 none 0 0) 42]) ?_ ?_
  by_cases N:((x.aC.dI:Nat):Int)=0
  refine jF (dF (JP N)) (Gj ?_)
  have V:oz x.ed x.aC.dI mv=x.aC.dI:=(if_pos d).trans (if_pos N)
  exact Gt () ⟨rfl,rfl,trivial⟩ (by rw [V]; exact p.pf [])
  refine jT (dT N) (FT (Mz rfl (Kz (vP c 12) ?_)))
  refine dN [.int .u64 ((mv:Nat):Int)] 12 p M7 ?_
  intro ak W
  refine WL.nil ?_
  have V:oz x.ed x.aC.dI mv=mv:=(if_pos d).trans (if_neg N)
  exact Gt () ⟨rfl,rfl,trivial⟩ (by rw [V]; exact W.pf [])
  rintro ⟨⟩ au q
  refine sr (La (xW x.aC (ko x.ed x.aC.aH 1 b x.aC.ax) (nR x.ed x.aC.bi b) (ko x.ed x.aC.aH 9 v x.aC.bf) (oz x.ed x.aC.dI mv)) q 0 M5 M6 ?_)
  have X:=q.pf [1]
  refine dN (xW x.aC (ko x.ed x.aC.aH 1 b x.aC.ax) (nR x.ed x.aC.bi b) (ko x.ed x.aC.aH 9 v x.aC.bf) (oz x.ed x.aC.dI mv)) 0 X M6 ?_
  intro av r
  refine nt (rt (Fin.res (mZ rfl rfl (Gc (cs:=xW x.aC (ko x.ed x.aC.aH 1 b x.aC.ax) (nR x.ed x.aC.bi b) (ko x.ed x.aC.aH 9 v x.aC.bf) (oz x.ed x.aC.dI mv)) M5 M6 ((r.cls (i:=0) rfl).lit (k:=0) (m:=21) rfl))) ?_))
  exact⟨rfl,r.pk []⟩
  refine jT (cn d) (FU ?_)
  have j:=O.px [] [3] []
  refine FT (La (bF.cells x.aC) j 0 M5 M6 ?_)
  have R:=j.pf [1]
  refine dN (bF.cells x.aC) 0 R M6 ?_
  intro w6 o
  refine nt (rt (tR (Fin.res (mZ rfl rfl (Gc (cs:=(bF.cells x.aC)) M5 M6 ((o.cls (i:=0) rfl).lit (k:=0) (m:=21) rfl))) ?_)))
  have e0:xW x.aC (ko x.ed x.aC.aH 1 b x.aC.ax) (nR x.ed x.aC.bi b) (ko x.ed x.aC.aH 9 v x.aC.bf) (oz x.ed x.aC.dI mv)=bF.cells x.aC:=by
    unfold nR ko oz; rw [d]; rfl
  rw [e0]
  exact⟨rfl,o.pk []⟩
end Go.Proofs.YtbkagebjhbphaaaGreat
