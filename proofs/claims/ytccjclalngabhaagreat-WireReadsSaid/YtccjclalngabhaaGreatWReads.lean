/-
 wire: the law WireReads
-/
import Derived.Test.YtccjclalngabhaaGreatWl
namespace Go.Proofs.YtccjclalngabhaaGreat
set_option maxRecDepth 100000
open Go.RowKit
set_option linter.unusedVariables false
set_option linter.unusedSectionVars false
set_option linter.unusedSimpArgs false
def gW (b:bE):Nat→Unit
  | 0=>()
  | a+1=>gW b a
def gX (d:Nat):Nat→Nat→List aP→(List aP)
  | 0,b,c=>c
  | f+1,b,c=>bnd (List.getD c d default) fun a=>bnd (List.getD a.ak.ls b default) fun e=>gX d f (b+1) (List.set c d (aP.mk a.cB a.au (Ll.mk (List.set a.ak.ls b (aR.mk ([122,122]) e.au)))))
def gY (f:bE):Nat→Nat→List aP→Unit
  | 0,a,c=>()
  | e+1,a,c=>bnd (List.getD c a default) fun d=>bnd (gX a d.ak.ls.length 0 c) fun sLrbfLsbbtbtLaLsbL=>bnd (List.getD sLrbfLsbbtbtLaLsbL a default) fun b=>gY f e (a+1) (List.set sLrbfLsbbtbtLaLsbL a (aP.mk (!b.cB) b.au (Ll.mk b.ak.ls)))
def gZ:Nat→Unit
  | 0=>()
  | a+1=>gZ a
def fu (d:List UInt8) (e:Bool):Nat→Unit ⊕ Bool
  | 0=>Sum.inl ()
  | f+1=>bnd (ek d) fun a=>bnd (iw d) fun b=>if a.2=b.2 then bnd (ny a.1 b.1) fun c=>if c=true then bnd (gW a.1 a.1.ax.ls.length) fun _=>bnd (gY a.1 a.1.ah.ls.length 0 a.1.ah.ls) fun _=>bnd (gZ a.1.ai.ls.length) fun _=>fu d e f else Sum.inr (false) else Sum.inr (false)
def mJ (b:List UInt8):Bool:=
 bnd (oF) fun a=>if((b.length:Nat):Int) > 100000 then a else lp (fu b a 2) fun _=>a
set_option maxHeartbeats 8000000 in
theorem qm (w:World) (D:Nat→Prop) (A0:Option Addr) (n0 c0:Nat) (G:List UInt8) (r0:Bool) (H:Own w D w []) (dI:Ro w D fun w'=>bD w' 1 A0 n0 (List.flatMap eB G)) (gJ:n0=G.length) (jr:G.length *1≤211106232532992) (jv:G.length≤c0) (jw:G.length *1≤140737488351232) (hr:mJ G=r0):
    Calls Tryz.prog 4 #[.slice A0 n0 c0] w (cO fun v w'=>v= .bool r0∧Own w D w' []):=by
 subst gJ
 refine yR (args:= [.slice A0 G.length c0]) Tryz.func4 rfl rfl rfl ?_
 show Wp _ _ _ [(0, .slice A0 G.length c0)] _ _
 refine sr (Ar rfl ?_)
 obtain⟨av,aH⟩:∃ q,oF=q:=⟨_,rfl⟩
 obtain⟨jy,eu,iR,eD,iT⟩:=yP H
 refine cl Tryz.call8 (sV _ _ av eu aH) ?_
 rintro _ gK ⟨rfl,eF⟩
 have eG:=eD _ _ eF
 refine An rfl (yJ (sr (Mz rfl (Kz (.int .i64 ((G.length:Nat):Int)) (Kz (.bool (decide (((G.length:Nat):Int) > 100000))) (nt ?_))))))
 by_cases bu:((G.length:Nat):Int) > 100000
 refine jT (dT bu) (sr (Mz rfl (An rfl (rt (tR (rs ?_))))))
 have gL:=eG.pk []
 obtain rfl:_=av:=hr.symm.trans (et (aa aH) (ip bu))
 exact⟨rfl,gL⟩
 refine jF (dF bu) (sk (sr (Mz rfl ?_)))
 have eH:Own w D gK [row none 0 0 (List.flatMap eB ([])) 5 1]:=eG.free (bP 5 1)
 refine WL.do rfl (ze (k:=0) (m:=G.length) (bW) eH rfl rfl (cz Tryz.underlying31 (eH.ro dI) (bK dA G)) rfl (by omega) (s:=G.length) (by omega) rfl ?_)
 intro V X jA gM
 refine An rfl (yJ (sr (Mn rfl (bo ?_))))
 have gN:=gM.pk [0]
 obtain⟨eO,eP⟩:∃ q:Nat→World→Prop,q=fun(i:Nat) w'=>Own w D w' [row V G.length X (List.flatMap eB G) 5 1]∧(i≤2∧fu G av 2=fu G av (2 - i)):=⟨_,rfl⟩
 have bA:∀ {aj:Nat} {w':World},eO aj w'↔Own w D w' [row V G.length X (List.flatMap eB G) 5 1]∧aj≤2∧fu G av 2=fu G av (2 - aj):=by intros; subst eP; exact Iff.rfl
 refine Wp.loop (fun i:Nat=> [(2, .bool false),(16, .int .i64 ((i:Nat):Int)),(4, .slice V G.length X),(3, .bool av),(0, .slice A0 G.length c0)]) eO (fun i=>2 - i) 0 ⟨rfl,rfl,rfl,rfl,rfl,trivial⟩ (bA.2 ⟨gN,by omega,rfl⟩) ?_
 rintro aj jB eQ
 show Wp _ _ _ [(2, .bool false),(16, .int .i64 ((aj:Nat):Int)),(4, .slice V G.length X),(3, .bool av),(0, .slice A0 G.length c0)] _ _
 obtain⟨dJ,iU,aY⟩:=bA.1 eQ
 refine sr (Kz (.bool (decide (((aj:Nat):Int) < 2))) (nt (yJ ?_)))
 by_cases eT:((aj:Nat):Int) < 2
 refine jT (dT eT) (sk (yJ (bo (sr (Mz rfl ?_)))))
 have iV:=dJ.rowC (i:=0) rfl
 obtain⟨⟨a,bB⟩,aZ⟩:∃ q:bE × Int,ek G=q:=⟨_,rfl⟩
 obtain⟨jC,eU,iW,eX,eY⟩:=yP dJ
 refine cl Tryz.call13 (kg _ _ V G.length X G a bB eU (eY _ 0 _ rfl bI) rfl (by omega) (by first | omega | (simp only [List.length_take,List.length_drop]; omega) | exact Nat.le_refl _) aZ) ?_
 rintro _ jD ⟨r,u,j,p,t,x,bv,rfl,eZ,bC,cu⟩
 have bU:=eX _ _ eZ
 have iX:=dG bC
 have iY:=bU.rowC (i:=0) rfl
 have iZ:=bU.rowC (i:=1) rfl
 have ja:=bU.rowC (i:=3) rfl
 replace cu:a.ax.ls.length≤1000∧a.ah.ls.length≤1000∧a.ai.ls.length≤1000∧a.bG≤18446744073709551615∧a.aY≤18446744073709551615∧a.bF≤18446744073709551615∧a.bH≤18446744073709551615∧a.bL≤18446744073709551615∧a.aV≤18446744073709551615∧a.bB≤18446744073709551615∧a.aK≤18446744073709551615∧a.xN≤18446744073709551615:=cu
 refine Mz rfl (Kz (.agg (aM a r u j p t x).toArray) (Kz (.int .i64 bB) ?_))
 refine dE (bf 0 0 0 0 0 0 0 0 0 0 0 0 0 0 0 false ([]) ([]) none 0 0 none 0 0 none 0 0) 29 bU ?_
 intro ax jE gP
 refine bz (aM a r u j p t x) 0 gP Tryz.sizeOf29 ?_
 intro jG gQ
 refine Ar rfl (Mz rfl ?_)
 obtain⟨⟨d,bF⟩,bg⟩:∃ q:bE × Int,iw G=q:=⟨_,rfl⟩
 obtain⟨jH,fe,fo,fq,jb⟩:=yP gQ
 refine cl Tryz.call14 (rH _ _ A0 G.length c0 G d bF fe (fo _ dI) rfl (by omega) (by first | omega | (simp only [List.length_take,List.length_drop]; omega) | exact Nat.le_refl _) bg) ?_
 rintro _ jI ⟨L,I,M,J,N,K,Q,rfl,fA,cB,cK⟩
 have bV:=fq _ _ fA
 have gT:=dG cB
 have gU:=bV.rowC (i:=0) rfl
 have gV:=bV.rowC (i:=1) rfl
 have ib:=bV.rowC (i:=3) rfl
 replace cK:d.ax.ls.length≤1000∧d.ah.ls.length≤1000∧d.ai.ls.length≤1000∧d.bG≤18446744073709551615∧d.aY≤18446744073709551615∧d.bF≤18446744073709551615∧d.bH≤18446744073709551615∧d.bL≤18446744073709551615∧d.aV≤18446744073709551615∧d.bB≤18446744073709551615∧d.aK≤18446744073709551615∧d.xN≤18446744073709551615:=cK
 refine Mz rfl (Kz (.agg (aM d L I M J N K).toArray) (Kz (.int .i64 bF) ?_))
 refine dE (bf 0 0 0 0 0 0 0 0 0 0 0 0 0 0 0 false ([]) ([]) none 0 0 none 0 0 none 0 0) 29 bV ?_
 intro U jc fB
 refine bz (aM d L I M J N K) 0 fB Tryz.sizeOf29 ?_
 intro jd aD
 refine An rfl (yJ (sr (Mz rfl (Mz rfl (fw (.bool (decide (¬ (bB=bF)))) (za (e:= !(decide (bB=bF))) yk decide_not.symm) (Mz rfl ?_))))))
 by_cases Y:bB=bF
 refine gw (.agg (aM a r u j p t x).toArray) (dF (BK Y)) (y5 rfl (zg (cs:=(aM a r u j p t x)) Tryz.isAgg29 Tryz.sizeOf29 ((aD.cls (i:=5) rfl).lit (k:=0) (m:=21) rfl))) (gw (.agg (aM d L I M J N K).toArray) (dF (BK Y)) (y5 rfl (zg (cs:=(aM d L I M J N K)) Tryz.isAgg29 Tryz.sizeOf29 ((aD.cls (i:=0) rfl).lit (k:=0) (m:=21) rfl))) ?_)
 obtain⟨bi,aK⟩:∃ q,ny a d=q:=⟨_,rfl⟩
 obtain⟨je,dK,ic,dL,ag⟩:=yP aD
 refine jM (dF (BK Y)) Tryz.call15 (sU _ _ a r a.ax.ls.length u j a.ah.ls.length p bv t a.ai.ls.length x d L d.ax.ls.length I M d.ah.ls.length J Q N d.ai.ls.length K bi dK rfl (ag _ 6 _ rfl bI) (show a.ax.ls.length≤u∧a.ax.ls.length≤9223372036854775807 from by omega) bC rfl (ag _ 7 _ rfl bI) (show a.ah.ls.length≤p∧a.ah.ls.length≤9223372036854775807 from by omega) (fun x9 h9=>⟨ag _ 8 _ rfl (iH (List.mem_flatMap.2 ⟨x9,h9, .head _⟩) bI),kY (φ:=fun _=>_) aD (i:=8) rfl (iH (List.mem_flatMap.2 ⟨x9,h9, .head _⟩) lK)⟩) rfl (ag _ 9 _ rfl bI) (show a.ai.ls.length≤x∧a.ai.ls.length≤9223372036854775807 from by omega) rfl (ag _ 1 _ rfl bI) (show d.ax.ls.length≤I∧d.ax.ls.length≤9223372036854775807 from by omega) cB rfl (ag _ 2 _ rfl bI) (show d.ah.ls.length≤J∧d.ah.ls.length≤9223372036854775807 from by omega) (fun x9 h9=>⟨ag _ 3 _ rfl (iH (List.mem_flatMap.2 ⟨x9,h9, .head _⟩) bI),kY (φ:=fun _=>_) aD (i:=3) rfl (iH (List.mem_flatMap.2 ⟨x9,h9, .head _⟩) lK)⟩) rfl (ag _ 4 _ rfl bI) (show d.ai.ls.length≤K∧d.ai.ls.length≤9223372036854775807 from by omega) aK) ?_
 rintro _ jg ⟨rfl,dM⟩
 have aI:=dL _ _ dM
 refine gw (.bool (!bi)) (dF (BK Y)) yk (fw (.bool (!bi)) (yM rfl (dF (BK Y)) rfl) (Mz rfl ?_))
 rcases BL (bi) with T | T
 refine gw (.slice V G.length X) (cn T) (yO rfl) (gw (.string ⟨List.toArray G⟩) (cn T) (zH (l:=G) Tryz.underlying31 Tryz.underlying5 Tryz.underlying9 (aI.rds (i:=10) rfl) rfl) (gw (.slice A0 G.length c0) (cn T) (yO rfl) (gw (.string ⟨List.toArray G⟩) (cn T) (zH (l:=G) Tryz.underlying31 Tryz.underlying5 Tryz.underlying9 (aI.ro dI) rfl) (gw (.bool false) (cn T) (za (e:=decide (G≠G)) (zA rfl rfl) (by simp)) (fw (.bool false) (yM rfl (cn T) rfl) (nt (jf (sk (yK (La (aM a r u j p t x) aI 5 Tryz.isAgg29 Tryz.sizeOf29 ?_))))))))))
 refine WL.do rfl (zf Tryz.call16 rfl ?_ (fun _ _ k=>k))
 refine yR (args:= [.agg (aM a r u j p t x).toArray]) Tryz.func16 rfl rfl rfl ?_
 show Wp _ _ _ [(0, .agg (aM a r u j p t x).toArray)] _ _
 refine sr ?_
 refine dE (aM a r u j p t x) 29 aI ?_
 intro B jh cZ
 refine nt (yJ (sr (Kz (.pointer (some ⟨B,18,none⟩)) (Lz (.slice r a.ax.ls.length u) cZ 0 Tryz.isAgg25 (Kz (.int .i64 ((a.ax.ls.length:Nat):Int)) (Mn rfl (bo ?_)))))))
 have fE:=cZ.pk [0,1,2,3,4,5,6,7,8,9,10,11]
 obtain⟨df,dN⟩:∃ q:(Nat × (List aB))→World→Prop,q=fun(i:Nat × (List aB)) w'=>Own w D w' [blk B (aM a r u j p t x) 29,blk U (aM d L I M J N K) 29,row L d.ax.ls.length I (List.flatMap aB.cells d.ax.ls) 64 6,row M d.ah.ls.length J (List.flatMap af.cells Q) 84 3,sepL (List.flatMap yQ Q),row N d.ai.ls.length K (List.flatMap aA.cells d.ai.ls) 88 2,blk ax (aM a r u j p t x) 29,row r a.ax.ls.length u (List.flatMap aB.cells i.2) 64 6,row j a.ah.ls.length p (List.flatMap af.cells bv) 84 3,sepL (List.flatMap yQ bv),row t a.ai.ls.length x (List.flatMap aA.cells a.ai.ls) 88 2,row V G.length X (List.flatMap eB G) 5 1]∧(i.2.length=a.ax.ls.length∧i.1≤a.ax.ls.length∧gW a a.ax.ls.length=gW a (a.ax.ls.length - i.1)):=⟨_,rfl⟩
 have aL:∀ {O:Nat} {R:List aB} {w':World},df (O,R) w'↔Own w D w' [blk B (aM a r u j p t x) 29,blk U (aM d L I M J N K) 29,row L d.ax.ls.length I (List.flatMap aB.cells d.ax.ls) 64 6,row M d.ah.ls.length J (List.flatMap af.cells Q) 84 3,sepL (List.flatMap yQ Q),row N d.ai.ls.length K (List.flatMap aA.cells d.ai.ls) 88 2,blk ax (aM a r u j p t x) 29,row r a.ax.ls.length u (List.flatMap aB.cells R) 64 6,row j a.ah.ls.length p (List.flatMap af.cells bv) 84 3,sepL (List.flatMap yQ bv),row t a.ai.ls.length x (List.flatMap aA.cells a.ai.ls) 88 2,row V G.length X (List.flatMap eB G) 5 1]∧R.length=a.ax.ls.length∧O≤a.ax.ls.length∧gW a a.ax.ls.length=gW a (a.ax.ls.length - O):=by intros; subst dN; exact Iff.rfl
 refine Wp.loop (fun i:Nat × (List aB)=> [(9, .int .i64 ((i.1:Nat):Int)),(8, .int .i64 ((a.ax.ls.length:Nat):Int)),(1, .pointer (some ⟨B,0,none⟩))]) df (fun i=>a.ax.ls.length - i.1) (0,a.ax.ls) ⟨rfl,rfl,rfl,trivial⟩ (aL.2 ⟨fE,by first | omega | (simp only [List.length_set]; omega) | (simp only [List.length_replicate]),by omega,rfl⟩) ?_
 rintro ⟨O,R⟩ ji dO
 show Wp _ _ _ [(9, .int .i64 ((O:Nat):Int)),(8, .int .i64 ((a.ax.ls.length:Nat):Int)),(1, .pointer (some ⟨B,0,none⟩))] _ _
 obtain⟨aF,ig,ik,bG⟩:=aL.1 dO
 refine sr (Kz (.bool (decide (((O:Nat):Int) < ((a.ax.ls.length:Nat):Int)))) (nt (yJ ?_)))
 by_cases di:((O:Nat):Int) < ((a.ax.ls.length:Nat):Int)
 refine jT (dT di) (sk (yJ (bo (sr (Mz rfl (An rfl (yK (Kz (.pointer (some ⟨B,18,none⟩)) (Lz (.slice r a.ax.ls.length u) aF 0 Tryz.isAgg25 (Mz rfl ?_))))))))))
 obtain⟨ak,bH⟩:=dV (ls:=R) (i:=O) aB.len (by decide) (aF.rds (i:=7) rfl) (by first | omega | (simp; done) | (simp; omega))
 refine fw (.pointer (some ⟨ab r,ao r+O *6,none⟩)) (yZ (l8) rfl rfl ((aF.rds (i:=7) rfl).addr (i:=O) (by omega)) (by omega)) (Kz (.pointer (some ⟨ab r,ao r+O *6,none⟩)) ?_)
 have fF:=aF.pk [7,0,1,2,3,4,5,6,8,9,10,11]
 refine Aa (Do.storeRow (vs:= [.int .i64 99]) (o:=O *6+0) (q:=ao r+O *6) fF rfl (by omega) rfl Tryz.sizeOf3 rfl rfl (BH rfl) (mO aB.len bH (BH rfl)) (mX (y:=(aB.mk 99 ak.aL ak.au ak.aD ak.aH ak.aF)) aB.len rfl (BH rfl) bH) ?_)
 intro jk fG
 refine WL.nil (bN (yL (yK (fw (.int .i64 ((O+1:Nat):Int)) (yS (e:=IntKind.i64.wrap (((O:Nat):Int)+1)) yk (by rw [BI _ (by omega)]; omega)) (Mz rfl (WL.nil ?_))))))
 have fH:=fG.pk [1,2,3,4,5,6,7,0,8,9,10,11]
 exact yY (O+1,(List.set R O (aB.mk 99 ak.aL ak.au ak.aD ak.aH ak.aF))) ⟨rfl,rfl,rfl,trivial⟩ (aL.2 ⟨fH,by first | omega | (simp only [List.length_set]; omega) | (simp only [List.length_replicate]),by omega,Eq.trans (bG) (Eq.trans (congrArg (fun q=>gW a q) (mo (n:=a.ax.ls.length) (i:=O) (by omega))) rfl)⟩) (by show a.ax.ls.length - (O+1) < a.ax.ls.length - O; omega)
 refine jF (dF di) (Wp.exit (yV ?_))
 have dP:gW a a.ax.ls.length=():=et (bG) (et (congrArg (fun q=>gW a q) (mU (n:=a.ax.ls.length) (i:=O) (by omega))) rfl)
 refine yV (y8 (yL (yJ (sr (Kz (.pointer (some ⟨B,19,none⟩)) (Lz (.slice j a.ah.ls.length p) aF 0 Tryz.isAgg26 (Kz (.int .i64 ((a.ah.ls.length:Nat):Int)) (Mn rfl (bo ?_)))))))))
 have fI:=aF.pk [0,1,2,3,4,5,6,7,8,10,11,9]
 obtain⟨dm,dQ⟩:∃ q:(Nat × (List af) × (List aP))→World→Prop,q=fun(i:Nat × (List af) × (List aP)) w'=>Own w D w' [blk B (aM a r u j p t x) 29,blk U (aM d L I M J N K) 29,row L d.ax.ls.length I (List.flatMap aB.cells d.ax.ls) 64 6,row M d.ah.ls.length J (List.flatMap af.cells Q) 84 3,sepL (List.flatMap yQ Q),row N d.ai.ls.length K (List.flatMap aA.cells d.ai.ls) 88 2,blk ax (aM a r u j p t x) 29,row r a.ax.ls.length u (List.flatMap aB.cells R) 64 6,row j a.ah.ls.length p (List.flatMap af.cells i.2.1) 84 3,row t a.ai.ls.length x (List.flatMap aA.cells a.ai.ls) 88 2,row V G.length X (List.flatMap eB G) 5 1,sepL (List.flatMap yQ i.2.1)]∧(List.map zh i.2.1=i.2.2∧i.2.2.length=a.ah.ls.length∧i.1≤a.ah.ls.length∧gY a a.ah.ls.length 0 a.ah.ls=gY a (a.ah.ls.length - i.1) i.1 i.2.2):=⟨_,rfl⟩
 have aN:∀ {b:Nat} {ah:List af} {Z:List aP} {w':World},dm (b,ah,Z) w'↔Own w D w' [blk B (aM a r u j p t x) 29,blk U (aM d L I M J N K) 29,row L d.ax.ls.length I (List.flatMap aB.cells d.ax.ls) 64 6,row M d.ah.ls.length J (List.flatMap af.cells Q) 84 3,sepL (List.flatMap yQ Q),row N d.ai.ls.length K (List.flatMap aA.cells d.ai.ls) 88 2,blk ax (aM a r u j p t x) 29,row r a.ax.ls.length u (List.flatMap aB.cells R) 64 6,row j a.ah.ls.length p (List.flatMap af.cells ah) 84 3,row t a.ai.ls.length x (List.flatMap aA.cells a.ai.ls) 88 2,row V G.length X (List.flatMap eB G) 5 1,sepL (List.flatMap yQ ah)]∧List.map zh ah=Z∧Z.length=a.ah.ls.length∧b≤a.ah.ls.length∧gY a a.ah.ls.length 0 a.ah.ls=gY a (a.ah.ls.length - b) b Z:=by intros; subst dQ; exact Iff.rfl
 refine Wp.loop (fun i:Nat × (List af) × (List aP)=> [(21, .int .i64 ((i.1:Nat):Int)),(20, .int .i64 ((a.ah.ls.length:Nat):Int)),(1, .pointer (some ⟨B,0,none⟩))]) dm (fun i=>a.ah.ls.length - i.1) (0,bv,a.ah.ls) ⟨rfl,rfl,rfl,trivial⟩ (aN.2 ⟨fI,by exact bC,by first | omega | (simp only [List.length_set]; omega) | (simp only [List.length_replicate]),by omega,rfl⟩) ?_
 rintro ⟨b,ah,Z⟩ jl dR
 show Wp _ _ _ [(21, .int .i64 ((b:Nat):Int)),(20, .int .i64 ((a.ah.ls.length:Nat):Int)),(1, .pointer (some ⟨B,0,none⟩))] _ _
 obtain⟨az,aO,il,iq,bJ⟩:=aN.1 dR
 have iy:=dG aO
 refine sr (Kz (.bool (decide (((b:Nat):Int) < ((a.ah.ls.length:Nat):Int)))) (nt (yJ ?_)))
 by_cases dn:((b:Nat):Int) < ((a.ah.ls.length:Nat):Int)
 refine jT (dT dn) (sk (yJ (bo (sr (Mz rfl (An rfl (yJ (sr (Kz (.pointer (some ⟨B,19,none⟩)) (Lz (.slice j a.ah.ls.length p) az 0 Tryz.isAgg26 (Mz rfl ?_)))))))))))
 obtain⟨C,aQ⟩:=dV (ls:=ah) (i:=b) af.len (by decide) (az.rds (i:=8) rfl) (by first | omega | (simp; done) | (simp; omega))
 have aS:=mq aO aQ
 have iA:C.ak.ls.length≤C.ak.c∧C.ak.ls.length≤9223372036854775807:=kY az (i:=11) rfl (φ:=fun _=>_) (iH (List.mem_flatMap.2 ⟨C,List.mem_of_getElem? aQ, .head _⟩) lK)
 refine fw (.pointer (some ⟨ab j,ao j+b *3,none⟩)) (yZ (lD) rfl rfl ((az.rds (i:=8) rfl).addr (i:=b) (by omega)) (by omega)) (Kz (.pointer (some ⟨ab j,ao j+b *3+2,none⟩)) (fw (.slice C.ak.A C.ak.ls.length C.ak.c) (y5 rfl (bn.one Tryz.isAgg82 (((az.rds (i:=8) rfl).elem af.len aQ (by decide)).at_ (k:=2) rfl))) (Kz (.int .i64 ((C.ak.ls.length:Nat):Int)) (Mn rfl (bo ?_)))))
 have fJ:=az.pk [0,1,2,3,4,5,6,7,8,9,10,11]
 obtain⟨dw,dS⟩:∃ q:(Nat × (List af) × (List aP))→World→Prop,q=fun(i:Nat × (List af) × (List aP)) w'=>Own w D w' [blk B (aM a r u j p t x) 29,blk U (aM d L I M J N K) 29,row L d.ax.ls.length I (List.flatMap aB.cells d.ax.ls) 64 6,row M d.ah.ls.length J (List.flatMap af.cells Q) 84 3,sepL (List.flatMap yQ Q),row N d.ai.ls.length K (List.flatMap aA.cells d.ai.ls) 88 2,blk ax (aM a r u j p t x) 29,row r a.ax.ls.length u (List.flatMap aB.cells R) 64 6,row j a.ah.ls.length p (List.flatMap af.cells i.2.1) 84 3,row t a.ai.ls.length x (List.flatMap aA.cells a.ai.ls) 88 2,row V G.length X (List.flatMap eB G) 5 1,sepL (List.flatMap yQ i.2.1)]∧(List.map zh i.2.1=i.2.2∧i.2.2.length=a.ah.ls.length∧List.map (fun q:aP=>q.ak.ls.length) i.2.2=List.map (fun q:aP=>q.ak.ls.length) Z∧i.1≤C.ak.ls.length∧gX b C.ak.ls.length 0 Z=gX b (C.ak.ls.length - i.1) i.1 i.2.2):=⟨_,rfl⟩
 have aT:∀ {z:Nat} {F:List af} {S:List aP} {w':World},dw (z,F,S) w'↔Own w D w' [blk B (aM a r u j p t x) 29,blk U (aM d L I M J N K) 29,row L d.ax.ls.length I (List.flatMap aB.cells d.ax.ls) 64 6,row M d.ah.ls.length J (List.flatMap af.cells Q) 84 3,sepL (List.flatMap yQ Q),row N d.ai.ls.length K (List.flatMap aA.cells d.ai.ls) 88 2,blk ax (aM a r u j p t x) 29,row r a.ax.ls.length u (List.flatMap aB.cells R) 64 6,row j a.ah.ls.length p (List.flatMap af.cells F) 84 3,row t a.ai.ls.length x (List.flatMap aA.cells a.ai.ls) 88 2,row V G.length X (List.flatMap eB G) 5 1,sepL (List.flatMap yQ F)]∧List.map zh F=S∧S.length=a.ah.ls.length∧List.map (fun q:aP=>q.ak.ls.length) S=List.map (fun q:aP=>q.ak.ls.length) Z∧z≤C.ak.ls.length∧gX b C.ak.ls.length 0 Z=gX b (C.ak.ls.length - z) z S:=by intros; subst dS; exact Iff.rfl
 refine Wp.loop (fun i:Nat × (List af) × (List aP)=> [(31, .int .i64 ((i.1:Nat):Int)),(30, .int .i64 ((C.ak.ls.length:Nat):Int)),(29, .slice C.ak.A C.ak.ls.length C.ak.c),(28, .pointer (some ⟨ab j,ao j+b *3+2,none⟩)),(27, .pointer (some ⟨ab j,ao j+b *3,none⟩)),(26, .int .i64 ((b:Nat):Int)),(25, .slice j a.ah.ls.length p),(24, .pointer (some ⟨B,19,none⟩)),(3, .int .i64 ((b:Nat):Int)),(23, .int .i64 ((b:Nat):Int)),(22, .bool (decide (((b:Nat):Int) < ((a.ah.ls.length:Nat):Int)))),(21, .int .i64 ((b:Nat):Int)),(20, .int .i64 ((a.ah.ls.length:Nat):Int)),(1, .pointer (some ⟨B,0,none⟩))]) dw (fun i=>C.ak.ls.length - i.1) (0,ah,Z) ⟨rfl,rfl,rfl,rfl,rfl,rfl,rfl,rfl,rfl,rfl,rfl,rfl,rfl,rfl,trivial⟩ (aT.2 ⟨fJ,by exact aO,by first | omega | (simp only [List.length_set]; omega) | (simp only [List.length_replicate]),by exact rfl,by omega,rfl⟩) ?_
 rintro ⟨z,F,S⟩ dx dU
 show Wp _ _ _ [(31, .int .i64 ((z:Nat):Int)),(30, .int .i64 ((C.ak.ls.length:Nat):Int)),(29, .slice C.ak.A C.ak.ls.length C.ak.c),(28, .pointer (some ⟨ab j,ao j+b *3+2,none⟩)),(27, .pointer (some ⟨ab j,ao j+b *3,none⟩)),(26, .int .i64 ((b:Nat):Int)),(25, .slice j a.ah.ls.length p),(24, .pointer (some ⟨B,19,none⟩)),(3, .int .i64 ((b:Nat):Int)),(23, .int .i64 ((b:Nat):Int)),(22, .bool (decide (((b:Nat):Int) < ((a.ah.ls.length:Nat):Int)))),(21, .int .i64 ((b:Nat):Int)),(20, .int .i64 ((a.ah.ls.length:Nat):Int)),(1, .pointer (some ⟨B,0,none⟩))] _ _
 obtain⟨ay,au,iB,aU,iC,bL⟩:=aT.1 dU
 have iD:=dG au
 refine sr (Kz (.bool (decide (((z:Nat):Int) < ((C.ak.ls.length:Nat):Int)))) (nt (yJ ?_)))
 by_cases dB:((z:Nat):Int) < ((C.ak.ls.length:Nat):Int)
 refine jT (dT dB) (sk (yJ (bo (sr (Mz rfl (An rfl (yK (Kz (.pointer (some ⟨B,19,none⟩)) (Lz (.slice j a.ah.ls.length p) ay 0 Tryz.isAgg26 (Mz rfl ?_))))))))))
 obtain⟨h,ai⟩:=dV (ls:=F) (i:=b) af.len (by decide) (ay.rds (i:=8) rfl) (by first | omega | (simp; done) | (simp; omega))
 have aV:=mq au ai
 have iE:h.ak.ls.length≤h.ak.c∧h.ak.ls.length≤9223372036854775807:=kY ay (i:=11) rfl (φ:=fun _=>_) (iH (List.mem_flatMap.2 ⟨h,List.mem_of_getElem? ai, .head _⟩) lK)
 have iF:h.ak.ls.length=C.ak.ls.length:=tC (g:=fun q:aP=>q.ak.ls.length) aU aV aS
 refine fw (.pointer (some ⟨ab j,ao j+b *3,none⟩)) (yZ (lD) rfl rfl ((ay.rds (i:=8) rfl).addr (i:=b) (by omega)) (by omega)) (Kz (.pointer (some ⟨ab j,ao j+b *3+2,none⟩)) (fw (.slice h.ak.A h.ak.ls.length h.ak.c) (y5 rfl (bn.one Tryz.isAgg82 (((ay.rds (i:=8) rfl).elem af.len ai (by decide)).at_ (k:=2) rfl))) (Mz rfl ?_)))
 obtain⟨ae,aW⟩:=dV (ls:=h.ak.ls) (i:=z) aR.len (by decide) (kY ay (i:=11) rfl (iH (List.mem_flatMap.2 ⟨h,List.mem_of_getElem? ai, .head _⟩) bI)) (by first | omega | (simp; done) | (simp; omega))
 refine fw (.pointer (some ⟨ab h.ak.A,ao h.ak.A+z *2,none⟩)) (yZ (o5) rfl rfl ((kY ay (i:=11) rfl (iH (List.mem_flatMap.2 ⟨h,List.mem_of_getElem? ai, .head _⟩) bI)).addr (i:=z) (by omega)) (by omega)) (Kz (.pointer (some ⟨ab h.ak.A,ao h.ak.A+z *2,none⟩)) ?_)
 have fK:=ay.pk [11,0,1,2,3,4,5,6,7,8,9,10]
 have fM:Own w D dx [row h.ak.A h.ak.ls.length h.ak.c (List.flatMap aR.cells h.ak.ls) 86 2,sepL (List.flatMap yQ (List.take b F)++List.flatMap yQ (List.drop (b+1) F)),blk B (aM a r u j p t x) 29,blk U (aM d L I M J N K) 29,row L d.ax.ls.length I (List.flatMap aB.cells d.ax.ls) 64 6,row M d.ah.ls.length J (List.flatMap af.cells Q) 84 3,sepL (List.flatMap yQ Q),row N d.ai.ls.length K (List.flatMap aA.cells d.ai.ls) 88 2,blk ax (aM a r u j p t x) 29,row r a.ax.ls.length u (List.flatMap aB.cells R) 64 6,row j a.ah.ls.length p (List.flatMap af.cells F) 84 3,row t a.ai.ls.length x (List.flatMap aA.cells a.ai.ls) 88 2,row V G.length X (List.flatMap eB G) 5 1]:=Au (f:=yQ) (i:=b) ai fK
 refine Aa (Do.storeRow (vs:= [.string ⟨List.toArray ([122,122])⟩]) (o:=z *2+0) (q:=ao h.ak.A+z *2) fM rfl (by omega) rfl Tryz.sizeOf9 rfl rfl (BH rfl) (mO aR.len aW (BH rfl)) (mX (y:=(aR.mk ([122,122]) ae.au)) aR.len rfl (BH rfl) aW) ?_)
 intro bO fO
 have fP:Own w D bO [row h.ak.A (List.length (List.set h.ak.ls z (aR.mk ([122,122]) ae.au))) h.ak.c (List.flatMap aR.cells (List.set h.ak.ls z (aR.mk ([122,122]) ae.au))) 86 2,sepL (List.flatMap yQ (List.take b F)++List.flatMap yQ (List.drop (b+1) F)),blk B (aM a r u j p t x) 29,blk U (aM d L I M J N K) 29,row L d.ax.ls.length I (List.flatMap aB.cells d.ax.ls) 64 6,row M d.ah.ls.length J (List.flatMap af.cells Q) 84 3,sepL (List.flatMap yQ Q),row N d.ai.ls.length K (List.flatMap aA.cells d.ai.ls) 88 2,blk ax (aM a r u j p t x) 29,row r a.ax.ls.length u (List.flatMap aB.cells R) 64 6,row j a.ah.ls.length p (List.flatMap af.cells F) 84 3,row t a.ai.ls.length x (List.flatMap aA.cells a.ai.ls) 88 2,row V G.length X (List.flatMap eB G) 5 1]:=by rw [List.length_set]; exact fO
 have fQ:Own w D bO [sepL (List.flatMap yQ (List.set F b (af.mk h.cB h.au (Sv.mk h.ak.A h.ak.c (List.set h.ak.ls z (aR.mk ([122,122]) ae.au)))))),blk B (aM a r u j p t x) 29,blk U (aM d L I M J N K) 29,row L d.ax.ls.length I (List.flatMap aB.cells d.ax.ls) 64 6,row M d.ah.ls.length J (List.flatMap af.cells Q) 84 3,sepL (List.flatMap yQ Q),row N d.ai.ls.length K (List.flatMap aA.cells d.ai.ls) 88 2,blk ax (aM a r u j p t x) 29,row r a.ax.ls.length u (List.flatMap aB.cells R) 64 6,row j a.ah.ls.length p (List.flatMap af.cells F) 84 3,row t a.ai.ls.length x (List.flatMap aA.cells a.ai.ls) 88 2,row V G.length X (List.flatMap eB G) 5 1]:=Al (f:=yQ) (y:=(af.mk h.cB h.au (Sv.mk h.ak.A h.ak.c (List.set h.ak.ls z (aR.mk ([122,122]) ae.au))))) ai fP
 have fT:Own w D bO [sepL (List.flatMap yQ (List.set F b (af.mk h.cB h.au (Sv.mk h.ak.A h.ak.c (List.set h.ak.ls z (aR.mk ([122,122]) ae.au)))))),blk B (aM a r u j p t x) 29,blk U (aM d L I M J N K) 29,row L d.ax.ls.length I (List.flatMap aB.cells d.ax.ls) 64 6,row M d.ah.ls.length J (List.flatMap af.cells Q) 84 3,sepL (List.flatMap yQ Q),row N d.ai.ls.length K (List.flatMap aA.cells d.ai.ls) 88 2,blk ax (aM a r u j p t x) 29,row r a.ax.ls.length u (List.flatMap aB.cells R) 64 6,row j a.ah.ls.length p (List.flatMap af.cells (List.set F b (af.mk h.cB h.au (Sv.mk h.ak.A h.ak.c (List.set h.ak.ls z (aR.mk ([122,122]) ae.au)))))) 84 3,row t a.ai.ls.length x (List.flatMap aA.cells a.ai.ls) 88 2,row V G.length X (List.flatMap eB G) 5 1]:=by rw [uw (f:=af.cells) (y:=(af.mk h.cB h.au (Sv.mk h.ak.A h.ak.c (List.set h.ak.ls z (aR.mk ([122,122]) ae.au))))) ai (by simp only [af.cells,List.length_set])]; exact fQ
 have iI:List.length (List.set F b (af.mk h.cB h.au (Sv.mk h.ak.A h.ak.c (List.set h.ak.ls z (aR.mk ([122,122]) ae.au)))))=List.length (List.set S b (aP.mk h.cB h.au (Ll.mk (List.set h.ak.ls z (aR.mk ([122,122]) ae.au))))):=dG (ou au rfl)
 have iJ:List.length (List.set S b (aP.mk h.cB h.au (Ll.mk (List.set h.ak.ls z (aR.mk ([122,122]) ae.au)))))=S.length:=List.length_set
 refine WL.nil (bN (yL (yK (fw (.int .i64 ((z+1:Nat):Int)) (yS (e:=IntKind.i64.wrap (((z:Nat):Int)+1)) yk (by rw [BI _ (by omega)]; omega)) (Mz rfl (WL.nil ?_))))))
 have fU:=fT.pk [1,2,3,4,5,6,7,8,9,10,11,0]
 exact yY (z+1,(List.set F b (af.mk h.cB h.au (Sv.mk h.ak.A h.ak.c (List.set h.ak.ls z (aR.mk ([122,122]) ae.au))))),(List.set S b (aP.mk h.cB h.au (Ll.mk (List.set h.ak.ls z (aR.mk ([122,122]) ae.au)))))) ⟨rfl,rfl,rfl,rfl,rfl,rfl,rfl,rfl,rfl,rfl,rfl,rfl,rfl,rfl,trivial⟩ (aT.2 ⟨fU,by exact(ou au rfl),by first | omega | (simp only [List.length_set]; omega) | (simp only [List.length_replicate]),by exact((vk (g:=fun q:aP=>q.ak.ls.length) aV (by simp only [List.length_set]; rfl)).trans aU),by omega,Eq.trans (bL) (Eq.trans (congrArg (fun q=>gX b q z S) (mo (n:=C.ak.ls.length) (i:=z) (by omega))) (Eq.trans (aa (dh aV)) (aa (dh aW))))⟩) (by show C.ak.ls.length - (z+1) < C.ak.ls.length - z; omega)
 refine jF (dF dB) (Wp.exit (yV ?_))
 have dW:gX b C.ak.ls.length 0 Z=S:=et (bL) (et (congrArg (fun q=>gX b q z S) (mU (n:=C.ak.ls.length) (i:=z) (by omega))) rfl)
 refine yV (y8 (yL ?_))
 have bq:=ay.drew
 refine zt [12] (fun W=> ∃ L',Own w D W ([blk B (aM a r u j p t x) 29,blk U (aM d L I M J N K) 29,row L d.ax.ls.length I (List.flatMap aB.cells d.ax.ls) 64 6,row M d.ah.ls.length J (List.flatMap af.cells Q) 84 3,sepL (List.flatMap yQ Q),row N d.ai.ls.length K (List.flatMap aA.cells d.ai.ls) 88 2,blk ax (aM a r u j p t x) 29,row r a.ax.ls.length u (List.flatMap aB.cells R) 64 6,row j a.ah.ls.length p (List.flatMap af.cells F) 84 3,row t a.ai.ls.length x (List.flatMap aA.cells a.ai.ls) 88 2,row V G.length X (List.flatMap eB G) 5 1,sepL (List.flatMap yQ F)]++L')) (by kernel_rfl) (by kernel_rfl) (bM.block (zb (zb (bM.block (zb zw))))) ⟨_,bq⟩ ?_
 revert bq
 generalize World.drew dx=jm
 intro bq
 refine GX.take (v:= .pointer (some ⟨B,19,none⟩)) (rs:= [[]]) 0 rfl (by kernel_rfl) (fun _ _=>yk) (GX.take (v:= .slice j a.ah.ls.length p) (rs:= [[]]) 1 rfl (by kernel_rfl) (fun _ ⟨_,H9⟩=>y5 rfl (bn.one Tryz.isAgg26 (zq (H9.cls (i:=0) rfl) rfl))) (GX.take (v:= .int .i64 ((b:Nat):Int)) (rs:= [[]]) 2 rfl (by kernel_rfl) (fun _ _=>yO rfl) (GX.take (v:= .pointer (some ⟨B,19,none⟩)) (rs:= [[]]) 3 rfl (by kernel_rfl) (fun _ _=>yk) (GX.take (v:= .slice j a.ah.ls.length p) (rs:= [[]]) 4 rfl (by kernel_rfl) (fun _ ⟨_,H9⟩=>y5 rfl (bn.one Tryz.isAgg26 (zq (H9.cls (i:=0) rfl) rfl))) (GX.take (v:= .int .i64 ((b:Nat):Int)) (rs:= [[]]) 5 rfl (by kernel_rfl) (fun _ _=>yO rfl) ?_)))))
 obtain⟨E,aC⟩:=jZ (ls:=F) (i:=b) (by first | omega | (simp; done) | (simp; omega))
 have bQ:=mq au aC
 have iK:E.ak.ls.length=C.ak.ls.length:=tC (g:=fun q:aP=>q.ak.ls.length) aU bQ aS
 refine GX.take (v:= .pointer (some ⟨ab j,ao j+b *3,none⟩)) (rs:= [[]]) 6 rfl (by kernel_rfl) (fun _ ⟨_,H9⟩=>yZ (lD) rfl rfl ((H9.rds (i:=8) rfl).addr (i:=b) (by omega)) (by omega)) (GX.take (v:= .pointer (some ⟨ab j,ao j+b *3,none⟩)) (rs:= [[]]) 7 rfl (by kernel_rfl) (fun _ _=>yk) (GX.take (v:= .bool E.cB) (rs:= [[]]) 8 rfl (by kernel_rfl) (fun _ ⟨_,H9⟩=>y5 rfl (bn.one Tryz.isAgg4 (((H9.rds (i:=8) rfl).elem af.len aC (by decide)).at_ (k:=0) rfl))) (GX.take (v:= .bool (!E.cB)) (rs:= [[]]) 9 rfl (by kernel_rfl) (fun _ _=>yk) (GX.take (v:= .pointer (some ⟨ab j,ao j+b *3,none⟩)) (rs:= [[11]]) 10 rfl (by kernel_rfl) (fun _ ⟨_,H9⟩=>yZ (lD) rfl rfl ((H9.rds (i:=8) rfl).addr (i:=b) (by omega)) (by omega)) (GX.take (v:= .pointer (some ⟨ab j,ao j+b *3,none⟩)) (rs:= [[]]) 11 rfl (by kernel_rfl) (fun _ _=>yk) ?_)))))
 have fV:=bq.pk [8,0,1,2,3,4,5,6,7,9,10,11]
 refine Ak 12 rfl (by kernel_rfl) (Do.storeRow (vs:= [.bool (!E.cB)]) (o:=b *3+0) (q:=ao j+b *3) fV rfl (by omega) rfl Tryz.sizeOf4 rfl rfl (BH rfl) (mO af.len aC (BH rfl)) (mX (y:=(af.mk (!E.cB) E.au E.ak)) af.len rfl (BH rfl) aC) ?_)
 intro fZ gm
 have gp:Own w D fZ [row j a.ah.ls.length p (List.flatMap af.cells (List.set F b (af.mk (!E.cB) E.au E.ak))) 84 3,blk B (aM a r u j p t x) 29,blk U (aM d L I M J N K) 29,row L d.ax.ls.length I (List.flatMap aB.cells d.ax.ls) 64 6,row M d.ah.ls.length J (List.flatMap af.cells Q) 84 3,sepL (List.flatMap yQ Q),row N d.ai.ls.length K (List.flatMap aA.cells d.ai.ls) 88 2,blk ax (aM a r u j p t x) 29,row r a.ax.ls.length u (List.flatMap aB.cells R) 64 6,row t a.ai.ls.length x (List.flatMap aA.cells a.ai.ls) 88 2,row V G.length X (List.flatMap eB G) 5 1,sepL (List.flatMap yQ (List.set F b (af.mk (!E.cB) E.au E.ak)))]:=by rw [uf (f:=yQ) (y:=(af.mk (!E.cB) E.au E.ak)) aC rfl]; exact gm
 have iL:List.length (List.set F b (af.mk (!E.cB) E.au E.ak))=List.length (List.set S b (aP.mk (!E.cB) E.au (Ll.mk E.ak.ls))):=dG (ou au rfl)
 have iM:List.length (List.set S b (aP.mk (!E.cB) E.au (Ll.mk E.ak.ls)))=S.length:=List.length_set
 refine⟨.inl (by kernel_rfl), ?_⟩
 refine zk (by kernel_rfl) (bN (yL (yK (fw (.int .i64 ((b+1:Nat):Int)) (yS (e:=IntKind.i64.wrap (((b:Nat):Int)+1)) yk (by rw [BI _ (by omega)]; omega)) (Mz rfl (WL.nil ?_))))))
 have gq:=gp.pk [1,2,3,4,5,6,7,8,0,9,10,11]
 exact yY (b+1,(List.set F b (af.mk (!E.cB) E.au E.ak)),(List.set S b (aP.mk (!E.cB) E.au (Ll.mk E.ak.ls)))) ⟨rfl,rfl,rfl,trivial⟩ (aN.2 ⟨gq,by exact(ou au rfl),by first | omega | (simp only [List.length_set]; omega) | (simp only [List.length_replicate]),by omega,Eq.trans (bJ) (Eq.trans (congrArg (fun q=>gY a q b Z) (mo (n:=a.ah.ls.length) (i:=b) (by omega))) (Eq.trans (aa (dh aS)) (Eq.trans (aa dW) (aa (dh bQ)))))⟩) (by show a.ah.ls.length - (b+1) < a.ah.ls.length - b; omega)
 refine jF (dF dn) (Wp.exit (yV ?_))
 have dX:gY a a.ah.ls.length 0 a.ah.ls=():=et (bJ) (et (congrArg (fun q=>gY a q b Z) (mU (n:=a.ah.ls.length) (i:=b) (by omega))) rfl)
 refine yV (y8 (yL (sr (Kz (.pointer (some ⟨B,20,none⟩)) (Lz (.slice t a.ai.ls.length x) az 0 Tryz.isAgg27 (Kz (.int .i64 ((a.ai.ls.length:Nat):Int)) (Mn rfl (bo ?_))))))))
 have gu:=az.pk [0,1,2,3,4,5,6,7,8,9,10,11]
 obtain⟨dC,dY⟩:∃ q:(Nat × (List aA))→World→Prop,q=fun(i:Nat × (List aA)) w'=>Own w D w' [blk B (aM a r u j p t x) 29,blk U (aM d L I M J N K) 29,row L d.ax.ls.length I (List.flatMap aB.cells d.ax.ls) 64 6,row M d.ah.ls.length J (List.flatMap af.cells Q) 84 3,sepL (List.flatMap yQ Q),row N d.ai.ls.length K (List.flatMap aA.cells d.ai.ls) 88 2,blk ax (aM a r u j p t x) 29,row r a.ax.ls.length u (List.flatMap aB.cells R) 64 6,row j a.ah.ls.length p (List.flatMap af.cells ah) 84 3,row t a.ai.ls.length x (List.flatMap aA.cells i.2) 88 2,row V G.length X (List.flatMap eB G) 5 1,sepL (List.flatMap yQ ah)]∧(i.2.length=a.ai.ls.length∧i.1≤a.ai.ls.length∧gZ a.ai.ls.length=gZ (a.ai.ls.length - i.1)):=⟨_,rfl⟩
 have aX:∀ {P:Nat} {aG:List aA} {w':World},dC (P,aG) w'↔Own w D w' [blk B (aM a r u j p t x) 29,blk U (aM d L I M J N K) 29,row L d.ax.ls.length I (List.flatMap aB.cells d.ax.ls) 64 6,row M d.ah.ls.length J (List.flatMap af.cells Q) 84 3,sepL (List.flatMap yQ Q),row N d.ai.ls.length K (List.flatMap aA.cells d.ai.ls) 88 2,blk ax (aM a r u j p t x) 29,row r a.ax.ls.length u (List.flatMap aB.cells R) 64 6,row j a.ah.ls.length p (List.flatMap af.cells ah) 84 3,row t a.ai.ls.length x (List.flatMap aA.cells aG) 88 2,row V G.length X (List.flatMap eB G) 5 1,sepL (List.flatMap yQ ah)]∧aG.length=a.ai.ls.length∧P≤a.ai.ls.length∧gZ a.ai.ls.length=gZ (a.ai.ls.length - P):=by intros; subst dY; exact Iff.rfl
 refine Wp.loop (fun i:Nat × (List aA)=> [(60, .int .i64 ((i.1:Nat):Int)),(59, .int .i64 ((a.ai.ls.length:Nat):Int)),(1, .pointer (some ⟨B,0,none⟩))]) dC (fun i=>a.ai.ls.length - i.1) (0,a.ai.ls) ⟨rfl,rfl,rfl,trivial⟩ (aX.2 ⟨gu,by first | omega | (simp only [List.length_set]; omega) | (simp only [List.length_replicate]),by omega,rfl⟩) ?_
 rintro ⟨P,aG⟩ jo dZ
 show Wp _ _ _ [(60, .int .i64 ((P:Nat):Int)),(59, .int .i64 ((a.ai.ls.length:Nat):Int)),(1, .pointer (some ⟨B,0,none⟩))] _ _
 obtain⟨aJ,iO,iP,bS⟩:=aX.1 dZ
 refine sr (Kz (.bool (decide (((P:Nat):Int) < ((a.ai.ls.length:Nat):Int)))) (nt (yJ ?_)))
 by_cases dD:((P:Nat):Int) < ((a.ai.ls.length:Nat):Int)
 refine jT (dT dD) (sk (yJ (bo (sr (Mz rfl (An rfl (yK (Kz (.pointer (some ⟨B,20,none⟩)) (Lz (.slice t a.ai.ls.length x) aJ 0 Tryz.isAgg27 (Mz rfl ?_))))))))))
 obtain⟨dH,bT⟩:=dV (ls:=aG) (i:=P) aA.len (by decide) (aJ.rds (i:=9) rfl) (by first | omega | (simp; done) | (simp; omega))
 refine fw (.pointer (some ⟨ab t,ao t+P *2,none⟩)) (yZ (lT) rfl rfl ((aJ.rds (i:=9) rfl).addr (i:=P) (by omega)) (by omega)) (Kz (.pointer (some ⟨ab t,ao t+P *2+1,none⟩)) ?_)
 have gy:=aJ.pk [9,0,1,2,3,4,5,6,7,8,10,11]
 refine Aa (Do.storeRow (vs:= [.int .i64 99]) (o:=P *2+1) (q:=ao t+P *2+1) gy rfl (by omega) rfl Tryz.sizeOf3 rfl rfl (BH rfl) (mO aA.len bT (BH rfl)) (mX (y:=(aA.mk dH.aD 99)) aA.len rfl (BH rfl) bT) ?_)
 intro jq gz
 refine WL.nil (bN (yL (yK (fw (.int .i64 ((P+1:Nat):Int)) (yS (e:=IntKind.i64.wrap (((P:Nat):Int)+1)) yk (by rw [BI _ (by omega)]; omega)) (Mz rfl (WL.nil ?_))))))
 have gB:=gz.pk [1,2,3,4,5,6,7,8,9,0,10,11]
 exact yY (P+1,(List.set aG P (aA.mk dH.aD 99))) ⟨rfl,rfl,rfl,trivial⟩ (aX.2 ⟨gB,by first | omega | (simp only [List.length_set]; omega) | (simp only [List.length_replicate]),by omega,Eq.trans (bS) (Eq.trans (congrArg (fun q=>gZ q) (mo (n:=a.ai.ls.length) (i:=P) (by omega))) rfl)⟩) (by show a.ai.ls.length - (P+1) < a.ai.ls.length - P; omega)
 refine jF (dF dD) (Wp.exit (yV ?_))
 have d9:gZ a.ai.ls.length=():=et (bS) (et (congrArg (fun q=>gZ q) (mU (n:=a.ai.ls.length) (i:=P) (by omega))) rfl)
 refine yV (y8 (zF (res0 rfl) (WL.nil (bN (yL ?_)))))
 have gD:=aJ.pk [1,2,3,4,5,6,7,8,9,10,11]
 refine yK (fw (.int .i64 ((aj+1:Nat):Int)) (yS (e:=IntKind.i64.wrap (((aj:Nat):Int)+1)) yk (by rw [BI _ (by omega)]; omega)) (Mz rfl (WL.nil ?_)))
 have gF:=gD.pk [9]
 exact yY (aj+1) ⟨rfl,rfl,rfl,rfl,rfl,trivial⟩ (bA.2 ⟨gF,by omega,et (aY) (et (congrArg (fun q=>fu G av q) (mo (n:=2) (i:=aj) (by omega))) (et (aa aZ) (et (aa bg) (et (ip Y) (et (aa aK) (et (ip T) (et (aa dP) (et (aa dX) (aa d9)))))))))⟩) (by show 2 - (aj+1) < 2 - aj; omega)
 refine Sz (cn T) (Sz (cn T) (Sz (cn T) (Sz (cn T) (Sz (cn T) (fw (.bool true) (yN rfl (cn T) rfl) (nt (jt (sr (An rfl (rt (tR (bR (tR (tR (bR (tR (rs ?_)))))))))))))))))
 have gG:=aI.pk []
 obtain rfl:_=false:=hr.symm.trans (et (aa aH) (et (iN bu) (iG (et (aY) (et (congrArg (fun q=>fu G av q) (mo (n:=2) (i:=aj) (by omega))) (et (aa aZ) (et (aa bg) (et (ip Y) (et (aa aK) (dz T))))))))))
 exact⟨rfl,gG⟩
 refine Sz (dT Y) (Sz (dT Y) (Sz (dT Y) (Sz (dT Y) (fw (.bool true) (yN rfl (dT Y) rfl) (Mz rfl (Sz rfl (Sz rfl (Sz rfl (Sz rfl (Sz rfl (fw (.bool true) (yN rfl rfl rfl) (nt (jt (sr (An rfl (rt (tR (bR (tR (tR (bR (tR (rs ?_)))))))))))))))))))))))
 have gH:=aD.pk []
 obtain rfl:_=false:=hr.symm.trans (et (aa aH) (et (iN bu) (iG (et (aY) (et (congrArg (fun q=>fu G av q) (mo (n:=2) (i:=aj) (by omega))) (et (aa aZ) (et (aa bg) (iN Y))))))))
 exact⟨rfl,gH⟩
 refine jF (dF eT) (Wp.exit (yV ?_))
 have ed:fu G av 2=Sum.inl ():=et (aY) (et (congrArg (fun q=>fu G av q) (mU (n:=2) (i:=aj) (by omega))) rfl)
 refine yV (y8 (yL (sr (Mz rfl (An rfl (rt (rs ?_)))))))
 have gI:=dJ.pk []
 obtain rfl:_=av:=hr.symm.trans (et (aa aH) (et (iN bu) (kG ed)))
 exact⟨rfl,gI⟩
end Go.Proofs.YtccjclalngabhaaGreat
