/-
 wire: the law WireBodies
-/
import Derived.Test.YtccjclalngabhaaGreatWl
namespace Go.Proofs.YtccjclalngabhaaGreat
set_option maxRecDepth 100000
open Go.RowKit
set_option linter.unusedVariables false
set_option linter.unusedSectionVars false
set_option linter.unusedSimpArgs false
def lY (f:List UInt8):Bool:=
 bnd (oh) fun a=>if((f.length:Nat):Int) > 100000 then a else bnd (jw f) fun b=>if b.2=0 then bnd (ed b.1) fun c=>bnd (ic b.1) fun d=>if a=true then if c.2=d.2 then bnd (mU c.1 d.1) fun e=>e else false else false else a
set_option maxHeartbeats 2000000 in
theorem pK (w:World) (D:Nat→Prop) (A0:Option Addr) (n0 c0:Nat) (l:List UInt8) (r0:Bool) (H:Own w D w []) (aR:Ro w D fun w'=>bD w' 1 A0 n0 (List.flatMap eB l)) (aS:n0=l.length) (bS:l.length *1≤211106232532992) (bT:l.length≤c0) (bU:l.length *1≤140737488351232) (hr:lY l=r0):
    Calls Tryz.prog 5 #[.slice A0 n0 c0] w (cK fun v w'=>v= .bool r0∧Own w D w' []):=by
 subst aS
 refine Calls.body (args:= [.slice A0 l.length c0]) Tryz.func5 rfl rfl rfl ?_
 show Wp _ _ _ [(0, .slice A0 l.length c0)] _ _
 refine sr (Ar rfl ?_)
 obtain⟨F,h⟩:∃ q,oh=q:=⟨_,rfl⟩
 obtain⟨bV,ag,bu,ah,bv⟩:=Own.enter0 H
 refine cl Tryz.call8 (sJ _ _ F ag h) ?_
 rintro _ bW ⟨rfl,ai⟩
 have aj:=ah _ _ ai
 refine An rfl (Wp.seq (sr (Mz rfl (Kz (.int .i64 ((l.length:Nat):Int)) (Kz (.bool (decide (((l.length:Nat):Int) > 100000))) (nt ?_))))))
 by_cases m:((l.length:Nat):Int) > 100000
 refine jT (dT m) (sr (Mz rfl (An rfl (rt (tR (rs ?_))))))
 have aT:=aj.pk []
 obtain rfl:_=F:=hr.symm.trans (et (aa h) (ip m))
 exact⟨rfl,aT⟩
 refine jF (dF m) (sk (sr (Mz rfl ?_)))
 obtain⟨⟨j,t⟩,k⟩:∃ q:(List UInt8) × Int,jw l=q:=⟨_,rfl⟩
 obtain⟨bX,ak,au,av,bA⟩:=Own.enter0 aj
 refine cl Tryz.call17 (l9 _ _ A0 l.length c0 l j t ak (au _ aR) rfl (by omega) k) ?_
 rintro _ bY ⟨V,W,rfl,ax,Q⟩
 have G:=av _ _ ax
 have bB:=G.rowC (i:=0) rfl
 replace Q:j.length≤l.length+15:=Q
 refine Mz rfl (Kz (.slice V j.length W) (Kz (.int .i64 t) (Az rfl (An rfl (Wp.seq (sr (Mz rfl (fw (.bool (decide (¬ (t=0)))) (Yl.bool (e:= !(decide (t=0))) yk decide_not.symm) (nt ?_)))))))))
 by_cases p:t=0
 refine jF (dF (not_not_intro p)) (sk (sr (Mz rfl ?_)))
 have bC:=G.rowC (i:=0) rfl
 obtain⟨⟨a,r⟩,n⟩:∃ q:bG × Int,ed j=q:=⟨_,rfl⟩
 obtain⟨bZ,ay,bE,az,aA⟩:=Own.enter0 G
 refine cl Tryz.call13 (jZ _ _ V j.length W j a r ay (aA _ 0 _ rfl bJ) rfl (by omega) (by first | omega | (simp only [List.length_take,List.length_drop]; omega) | exact Nat.le_refl _) n) ?_
 rintro _ cu ⟨I,u,J,x,K,y,aU,rfl,aB,R,S⟩
 have L:=az _ _ aB
 have bF:=dM R
 have bH:=L.rowC (i:=0) rfl
 have bI:=L.rowC (i:=1) rfl
 have bK:=L.rowC (i:=3) rfl
 replace S:a.az.ls.length≤1000∧a.ai.ls.length≤1000∧a.aj.ls.length≤1000∧a.bF≤18446744073709551615∧a.aY≤18446744073709551615∧a.bE≤18446744073709551615∧a.bH≤18446744073709551615∧a.bL≤18446744073709551615∧a.aS≤18446744073709551615∧a.bB≤18446744073709551615∧a.aK≤18446744073709551615∧a.xN≤18446744073709551615:=S
 refine Mz rfl (Kz (.agg (aV a I u J x K y).toArray) (Kz (.int .i64 r) ?_))
 refine dD (bf 0 0 0 0 0 0 0 0 0 0 0 0 0 0 0 false ([]) ([]) none 0 0 none 0 0 none 0 0) 29 L ?_
 intro cz cB aW
 refine bz (aV a I u J x K y) 0 aW Tryz.sizeOf29 ?_
 intro cO aC
 refine Ar rfl (Mz rfl ?_)
 have bL:=aC.rowC (i:=5) rfl
 obtain⟨⟨b,s⟩,o⟩:∃ q:bG × Int,ic j=q:=⟨_,rfl⟩
 obtain⟨cZ,aD,bM,aF,aG⟩:=Own.enter0 aC
 refine cl Tryz.call14 (rq _ _ V j.length W j b s aD (aG _ 5 _ rfl bJ) rfl (by omega) (by first | omega | (simp only [List.length_take,List.length_drop]; omega) | exact Nat.le_refl _) o) ?_
 rintro _ df ⟨M,z,N,A,O,B,aX,rfl,aH,T,U⟩
 have P:=aF _ _ aH
 have aY:=dM T
 have aZ:=P.rowC (i:=0) rfl
 have bg:=P.rowC (i:=1) rfl
 have bi:=P.rowC (i:=3) rfl
 replace U:b.az.ls.length≤1000∧b.ai.ls.length≤1000∧b.aj.ls.length≤1000∧b.bF≤18446744073709551615∧b.aY≤18446744073709551615∧b.bE≤18446744073709551615∧b.bH≤18446744073709551615∧b.bL≤18446744073709551615∧b.aS≤18446744073709551615∧b.bB≤18446744073709551615∧b.aK≤18446744073709551615∧b.xN≤18446744073709551615:=U
 refine Mz rfl (Kz (.agg (aV b M z N A O B).toArray) (Kz (.int .i64 s) ?_))
 refine dD (bf 0 0 0 0 0 0 0 0 0 0 0 0 0 0 0 false ([]) ([]) none 0 0 none 0 0 none 0 0) 29 P ?_
 intro bN bO aI
 refine bz (aV b M z N A O B) 0 aI Tryz.sizeOf29 ?_
 intro bP aJ
 refine An rfl (Wp.seq ?_)
 have g:=aJ.pk [0,1,2,3,4,5,6,7,8,9]
 refine Wp.region (Mz rfl (Mz rfl ?_))
 rcases Bool.eq_false_or_eq_true (F) with c | c
 refine WL.valG (v:= .int .i64 r) rfl rfl c rfl (Yl.move rfl) (WL.valG (v:= .int .i64 s) rfl rfl c rfl (Yl.move rfl) (Gz (.bool (decide (r=s))) c (fw (.bool (decide (r=s))) (Yl.pickT rfl c rfl) (Mz rfl ?_))))
 by_cases f:r=s
 refine Ga (aV a I u J x K y) (dT f) g 5 Tryz.isAgg29 Tryz.sizeOf29 (Ga (aV b M z N A O B) (dT f) g 0 Tryz.isAgg29 Tryz.sizeOf29 ?_)
 obtain⟨C,E⟩:∃ q,mU a b=q:=⟨_,rfl⟩
 obtain⟨bQ,X,bn,Y,d⟩:=Own.enter0 g
 refine jI (dT f) Tryz.call15 (sI _ _ a I a.az.ls.length u J a.ai.ls.length x aU K a.aj.ls.length y b M b.az.ls.length z N b.ai.ls.length A aX O b.aj.ls.length B C X rfl (d _ 6 _ rfl bJ) (show a.az.ls.length≤u∧a.az.ls.length≤9223372036854775807 from by omega) R rfl (d _ 7 _ rfl bJ) (show a.ai.ls.length≤x∧a.ai.ls.length≤9223372036854775807 from by omega) (fun x9 h9=>⟨d _ 8 _ rfl (jq (List.mem_flatMap.2 ⟨x9,h9, .head _⟩) bJ),nH (φ:=fun _=>_) g (i:=8) rfl (jq (List.mem_flatMap.2 ⟨x9,h9, .head _⟩) mG)⟩) rfl (d _ 9 _ rfl bJ) (show a.aj.ls.length≤y∧a.aj.ls.length≤9223372036854775807 from by omega) rfl (d _ 1 _ rfl bJ) (show b.az.ls.length≤z∧b.az.ls.length≤9223372036854775807 from by omega) T rfl (d _ 2 _ rfl bJ) (show b.ai.ls.length≤A∧b.ai.ls.length≤9223372036854775807 from by omega) (fun x9 h9=>⟨d _ 3 _ rfl (jq (List.mem_flatMap.2 ⟨x9,h9, .head _⟩) bJ),nH (φ:=fun _=>_) g (i:=3) rfl (jq (List.mem_flatMap.2 ⟨x9,h9, .head _⟩) mG)⟩) rfl (d _ 4 _ rfl bJ) (show b.aj.ls.length≤B∧b.aj.ls.length≤9223372036854775807 from by omega) E) ?_
 rintro _ bR ⟨rfl,Z⟩
 have aM:=Y _ _ Z
 refine fw (.bool C) (Yl.pickT rfl (dT f) rfl) (An rfl (rt (rs ?_)))
 have aN:=aM.pk []
 obtain rfl:_=C:=hr.symm.trans (et (aa h) (et (iN m) (et (aa k) (et (ip p) (et (aa n) (et (aa o) (et (ip c) (et (ip f) (aa E)))))))))
 exact⟨rfl,aN⟩
 refine Sz (dF f) (Sz (dF f) (Sz (dF f) (fw (.bool false) (Yl.pickF rfl (dF f) rfl) (An rfl (rt (rs ?_))))))
 have aO:=g.pk []
 obtain rfl:_=false:=hr.symm.trans (et (aa h) (et (iN m) (et (aa k) (et (ip p) (et (aa n) (et (aa o) (et (ip c) (iN f))))))))
 exact⟨rfl,aO⟩
 refine Sz c (Sz c (Sz c (fw (.bool false) (Yl.pickF rfl c rfl) (Mz rfl (Sz rfl (Sz rfl (Sz rfl (fw (.bool false) (Yl.pickF rfl rfl rfl) (An rfl (rt (rs ?_)))))))))))
 have aP:=g.pk []
 obtain rfl:_=false:=hr.symm.trans (et (aa h) (et (iN m) (et (aa k) (et (ip p) (et (aa n) (et (aa o) (dn c)))))))
 exact⟨rfl,aP⟩
 refine jT (dT p) (sr (Mz rfl (An rfl (rt (tR (rs ?_))))))
 have aQ:=G.pk []
 obtain rfl:_=F:=hr.symm.trans (et (aa h) (et (iN m) (et (aa k) (iN p))))
 exact⟨rfl,aQ⟩
end Go.Proofs.YtccjclalngabhaaGreat
